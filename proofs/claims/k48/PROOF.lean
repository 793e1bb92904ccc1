import PyProof.Rows.All
import Wide.All
import OpenK.AllK
import Wide.FinOn
import Lean
import PyProof.EqAt
import PyProof.EqKinds
import PyProof.TupleCall
import PyProof.StationsW
import PyProof.RulesTry
import PyProof.InstStoreFacts
import PyProof.ExcBaseAll.ValueError
import PyProof.ExcAttrAll.ValueError
import PyProof.NsDelKeeps
import PyProof.ZipIter
import PyProof.TupleIter
import PyProof.ListRange
import KE.KPar
import PyProof.StrBlock
import PyProof.StrBlockL
import PyProof.Rows.StrJoin2
import KE.KIntText
import KE.KDictSum
import PyProof.EnumMake
import PyProof.EnumStmt
import PyProof.NeKinds
import PyProof.StrCalls6
import KE.KTabLook
import PyProof.MeetsStr
import PyProof.StrLawsTight
import PyProof.MeetsStr2
import KE.KRevIter
import PyProof.CollectIter
import PyProof.WalkInts
import PyProof.ListNew
import PySem.Challenge.RW_halfmoved_k48_laid_together
set_option Elab.async false
set_option linter.all false
set_option maxRecDepth 100000
set_option maxHeartbeats 4000000
namespace L2
theorem ln0 {α:Type} {l:List α} (h:l.length = 0):l = []:=List.eq_nil_of_length_eq_zero h
theorem ln1 {α:Type} {l:List α} (h:l.length = 1):∃ a,l = [a]:=List.length_eq_one_iff.mp h
theorem ln2 {α:Type} {l:List α} (h:l.length = 2):∃ a b,l = [a,b]:=by
 cases l with
 | nil=>cases h
 | cons a r=>obtain ⟨b,rfl⟩:=ln1 (Nat.succ.inj h);exact ⟨a,b,rfl⟩
theorem ln3 {α:Type} {l:List α} (h:l.length = 3):∃ a b c,l = [a,b,c]:=by
 cases l with
 | nil=>cases h
 | cons a r=>obtain ⟨b,c,rfl⟩:=ln2 (Nat.succ.inj h);exact ⟨a,b,c,rfl⟩
theorem ln4 {α:Type} {l:List α} (h:l.length = 4):∃ a b c d,l = [a,b,c,d]:=by
 cases l with
 | nil=>cases h
 | cons a r=>obtain ⟨b,c,d,rfl⟩:=ln3 (Nat.succ.inj h);exact ⟨a,b,c,d,rfl⟩
end L2
namespace L2
open PySem PySem.Spec PyProof.Rows
abbrev Key:=Sum Int Str
def keyIs:Key->Value->Bool
 | .inl k,v=>Value.isInt k v
 | .inr x,v=>Value.isStrOf x v
def keyH (w:World):Key->Int
 | .inl k=>hashInt k
 | .inr x=>hashStr w x
theorem keyIs_shape:∀ {k:Key} {v:Value},keyIs k v = true->(∃ i t,k = Sum.inl i/\v = Value.int i t)\/(∃ x t,k = Sum.inr x/\v = Value.str x t)
 | .inl i,v,h=>by
  obtain ⟨t,e⟩:=Value.isInt_shape (k:=i) (v:=v) h
  exact .inl ⟨i,t,rfl,e⟩
 | .inr x,v,h=>by
  obtain ⟨t,e⟩:=Value.isStrOf_shape (x:=x) (v:=v) h
  exact .inr ⟨x,t,rfl,e⟩
theorem keyIs_int (i:Int) (t:Tok):keyIs (.inl i) (.int i t) = true:=by simp [keyIs,Value.isInt]
theorem keyIs_str (x:Str) (t:Tok):keyIs (.inr x) (.str x t) = true:=by simp [keyIs,Value.isStrOf]
theorem key_ll (a b:Int):decide ((Sum.inl a:Key) = Sum.inl b) = (a == b):=by
 by_cases e:a = b
 ·subst e;simp
 ·have h:¬ (Sum.inl a:Key) = Sum.inl b:=fun q=>e (Sum.inl.inj q)
  rw [decide_eq_false h]
  exact (beq_eq_false_iff_ne.mpr e).symm
theorem key_rr (a b:Str):decide ((Sum.inr a:Key) = Sum.inr b) = decide (a = b):=by
 by_cases e:a = b
 ·subst e;simp
 ·have h:¬ (Sum.inr a:Key) = Sum.inr b:=fun q=>e (Sum.inr.inj q)
  rw [decide_eq_false h,decide_eq_false e]
theorem key_lr (a:Int) (b:Str):decide ((Sum.inl a:Key) = Sum.inr b) = false:=decide_eq_false (fun q=>nomatch q)
theorem key_rl (a:Str) (b:Int):decide ((Sum.inr a:Key) = Sum.inl b) = false:=decide_eq_false (fun q=>nomatch q)
def mixKind (prog:Program) (w:World):PySem.KeyKind prog w Key where
 is:=keyIs
 hash:=keyH w
 inj:=fun v a b ha hb=>by
  rcases keyIs_shape ha with ⟨i,t,rfl,rfl⟩ | ⟨x,t,rfl,rfl⟩
  ·rcases keyIs_shape hb with ⟨j,u,rfl,e⟩ | ⟨y,u,rfl,e⟩
   ·injection e with e1 _;rw [e1]
   ·exact nomatch e
  ·rcases keyIs_shape hb with ⟨j,u,rfl,e⟩ | ⟨y,u,rfl,e⟩
   ·exact nomatch e
   ·injection e with e1 _;rw [e1]
 byValue:=fun k v h=>by
  rcases keyIs_shape h with ⟨i,t,rfl,rfl⟩ | ⟨x,t,rfl,rfl⟩ <;> rfl
 pyHash:=fun hv h=>by
  rcases keyIs_shape hv with ⟨i,t,rfl,rfl⟩ | ⟨x,t,rfl,rfl⟩
  ·exact wpAny_pyHash_int h
  ·exact wpAny_pyHash_str h
 eqBool:=fun hu hv h=>by
  rcases keyIs_shape hu with ⟨i,t,rfl,rfl⟩ | ⟨x,t,rfl,rfl⟩
  ·rcases keyIs_shape hv with ⟨j,u,rfl,rfl⟩ | ⟨y,u,rfl,rfl⟩
   ·rw [key_ll] at h;exact wpAny_eqBool_int h
   ·rw [key_lr] at h;exact SeqAt.EqAt.int_str i t y u _ _ _ _ h
  ·rcases keyIs_shape hv with ⟨j,u,rfl,rfl⟩ | ⟨y,u,rfl,rfl⟩
   ·rw [key_rl] at h;exact SeqAt.EqAt.str_int x t j u _ _ _ _ h
   ·rw [key_rr] at h;exact wpAny_eqBool_str h
 «strs»:=fun k x t v h=>by
  rcases keyIs_shape h with ⟨i,u,rfl,e⟩ | ⟨y,u,rfl,e⟩
  ·exact nomatch e
  ·injection e with e1 _
   subst e1
   cases v <;> rfl
theorem mixKind_int (prog:Program) (w:World) (i:Int) (t:Tok):(mixKind prog w).is (.inl i) (.int i t) = true:=keyIs_int i t
theorem mixKind_str (prog:Program) (w:World) (x:Str) (t:Tok):(mixKind prog w).is (.inr x) (.str x t) = true:=keyIs_str x t
end L2
namespace L2
open PySem PySem.Spec PyProof.Rows
inductive V where
 | non | bl (b:Bool) | int (i:Int) | str (x:Str) | byt (b:Array UInt8) | flt (b:UInt64) | ref (a:Addr) | ty (n:String)
 deriving DecidableEq
def RelV:V->Value->Prop
 | .non,u=>u = Value.none
 | .bl b,u=>u = Value.bool b
 | .int i,u=>∃ t,u = Value.int i t
 | .str x,u=>∃ t,u = Value.str x t
 | .byt b,u=>∃ t,u = Value.bytes b t
 | .flt b,u=>∃ t,u = Value.float b t
 | .ref a,u=>u = Value.ref a
 | .ty n,u=>u = Value.type n
abbrev Vals:List V->List Value->Prop:=Paired RelV
theorem Vals.length {xs:List V} {us:List Value} (r:Vals xs us):xs.length = us.length:=Paired.length r
theorem Vals.get:∀ {xs:List V} {us:List Value} {i:Nat} {x:V},Vals xs us->xs[i]? = some x->∃ u,us[i]? = some u/\RelV x u
 | _,_,_,_,.nil,e=>by simp at e
 | _,_,0,_,.cons r _,e=>by simp at e;subst e;exact ⟨_,rfl,r⟩
 | _,_,i + 1,x,.cons _ t,e=>by
  obtain ⟨u,h1,h2⟩:=Vals.get (i:=i) (x:=x) t (by simpa using e)
  exact ⟨u,by simpa using h1,h2⟩
theorem Vals.append:∀ {xs ys:List V} {us ws:List Value},Vals xs us->Vals ys ws->Vals (xs ++ ys) (us ++ ws)
 | _,_,_,_,.nil,s=>s
 | _,_,_,_,.cons r t,s=>.cons r (Vals.append t s)
theorem Vals.take:∀ {xs:List V} {us:List Value} (n:Nat),Vals xs us->Vals (xs.take n) (us.take n)
 | _,_,0,_=>.nil
 | _,_,_ + 1,.nil=>.nil
 | _,_,n + 1,.cons r t=>.cons r (Vals.take n t)
theorem Vals.drop:∀ {xs:List V} {us:List Value} (n:Nat),Vals xs us->Vals (xs.drop n) (us.drop n)
 | _,_,0,r=>r
 | _,_,_ + 1,.nil=>.nil
 | _,_,n + 1,.cons _ t=>Vals.drop n t
def RelO:Option V->Option Value->Prop
 | some v,some u=>RelV v u
 | none,none=>True
 | _,_=>False
def KV {κ:Type}:List (κ × V)->List (κ × Value)->Prop:=Paired fun (p:κ × V) (q:κ × Value)=>p.1 = q.1/\RelV p.2 q.2
def kV:Key->V
 | .inl i=>.int i
 | .inr x=>.str x
inductive HO where
 | lst (xs:List V)
 | tup (xs:List V)
 | dK (kvs:List (Key × V)) | dT (kvs:List (List Key × V))
 | set (S:Int->Bool) (n:Nat)
 | ins (C dx:Addr) (fs:List (Str × V))
 | own (x:Addr)
 | xd (fs:List (Str × V))
 | met (f x:Addr)
 | rng (lo hi:Int)
 | frz (o:Obj) (u:HO)
 | tbl (ps:Array Value)
 | ext (φ:Heap->Prop)
abbrev Hp:=Addr->Option HO
def upd (H:Hp) (a:Addr) (o:HO):Hp:=fun b=>if b = a then some o else H b
theorem upd_same {H:Hp} {a:Addr} {o:HO}:upd H a o a = some o:=by unfold upd;rw [if_pos rfl]
theorem upd_ne {H:Hp} {a b:Addr} {o:HO} (h:b ≠ a):upd H a o b = H b:=by unfold upd;rw [if_neg h]
theorem ne_of_none {H:Hp} {a b:Addr} {o:HO} (h:H a = some o) (h':H b = none):a ≠ b:=by
 intro e;subst e;rw [h] at h';cases h'
section
variable (P:Program) (w:World)
def ObjOk (H:Hp) (h:Heap) (a:Addr):HO->Prop
 | .lst xs=>xs.length ≤ sizeLine/\∃ (its:List Value) (n:Nat),Vals xs its/\h.get? a = some { cls:=.type "list",data:=.seq its.toArray n }
 | .tup xs=>xs.length ≤ sizeLine/\∃ its:List Value,Vals xs its/\IsTup h a its.toArray
 | .dK kvs=>kvs.length ≤ sizeLine/\(a == sysModules) = false/\∃ vs,KV kvs vs/\h.DictOf (mixKind P w) a vs
 | .dT kvs=>kvs.length ≤ sizeLine/\(a == sysModules) = false/\∃ xs:List (List Key × Addr × Value),
   Paired (fun (p:List Key × V) (q:List Key × Addr × Value)=>p.1 = q.1/\H q.2.1 = some (.tup (p.1.map kV))/\RelV p.2 q.2.2) kvs xs ∧
   ∃ o es ep,h.get? a = some o/\o.ExactDict/\o.data = .dict es ep/\es.toList = xs.map (entryOfKey (tupleKind (mixKind P w)))/\(xs.map (·.1)).Nodup
 | .set S n=>h.SetOf (intKind P w) a S n
 | .ins C dx fs=>H dx = some (.own a)/\fs.length ≤ 1000/\dx ≠ a/\h.get? a = some (PySem.W.instObj C dx) ∧
   ∃ mA,h.Ns1 dx mA/\(∀ f,RelO (fs.lookup f) (mA f))/\PySem.Within mA (fs.map (·.1))
 | .own _=>∃ o,h.get? a = some o
 | .xd fs=>∃ mA,h.Ns1 a mA/\∀ f,RelO (fs.lookup f) (mA f)
 | .rng lo hi=>∃ t u v,h.get? a = some { cls:=.type "range",data:=.fields #[.int lo t,.int hi u,.int 1 v] }
 | .frz o u=>h.get? a = some o/\ObjOk H h a u
 | .tbl ps=>h.get? a = some { cls:=.none,data:=.fields ps }
 | .met f x=>h.get? a = some (PySem.W.methodObj (.ref f) (.ref x))
 | .ext φ=>φ h/\(∃ o,h.get? a = some o)/\∀ h1 h2:Heap,φ h1->(∀ o,h1.get? a = some o->h2.get? a = some o)->φ h2
def HOk (H:Hp) (h:Heap):Prop:=∀ a o,H a = some o->ObjOk P w H h a o
end
section
variable {P:Program} {w:World} {H H':Hp} {h h':Heap} {a:Addr} {o:HO}
theorem ObjOk.lt (x:ObjOk P w H h a o):a < h.objs.size:=by
 cases o with
 | lst xs=>obtain ⟨_,_,_,_,e⟩:=x;exact Heap.lt_size e
 | tup xs=>obtain ⟨_,_,_,p⟩:=x;exact p.lt
 | dK kvs=>obtain ⟨_,_,_,_,o,_,_,e,_⟩:=x;exact Heap.lt_size e
 | dT kvs=>obtain ⟨_,_,_,_,o,_,_,e,_⟩:=x;exact Heap.lt_size e
 | set S n=>obtain ⟨o,_,_,_,e,_⟩:=x;exact Heap.lt_size e
 | ins C dx fs=>obtain ⟨_,_,_,e,_⟩:=x;exact Heap.lt_size e
 | own y=>obtain ⟨_,e⟩:=x;exact Heap.lt_size e
 | xd fs=>obtain ⟨_,⟨_,_,_,e,_⟩,_⟩:=x;exact Heap.lt_size e
 | rng lo hi=>obtain ⟨_,_,_,e⟩:=x;exact Heap.lt_size e
 | frz ob u=>obtain ⟨e,_⟩:=x;exact Heap.lt_size e
 | tbl ps=>exact Heap.lt_size (show h.get? a = some _ from x)
 | met f y=>exact Heap.lt_size (show h.get? a = some _ from x)
 | ext φ=>obtain ⟨_,⟨_,e⟩,_⟩:=x;exact Heap.lt_size e
theorem Paired.mapP {α β:Type} {F G:α->β->Prop}:∀ {l₁:List α} {l₂:List β},Paired F l₁ l₂->(∀ a b,F a b->G a b)->Paired G l₁ l₂
 | _,_,.nil,_=>.nil
 | _,_,.cons r t,f=>.cons (f _ _ r) (Paired.mapP t f)
theorem ObjOk.stay (x:ObjOk P w H h a o) (k:∀ b u,(b = a\/H b = some (.own a))->h.get? b = some u->h'.get? b = some u)
  (ho:∀ b,H b = some (.own a)->H' b = some (.own a)) (ht:∀ b xs,H b = some (.tup xs)->H' b = some (.tup xs)):ObjOk P w H' h' a o:=by
 induction o with
 | lst xs=>obtain ⟨z,its,n,r,e⟩:=x;exact ⟨z,its,n,r,k _ _ (.inl rfl) e⟩
 | tup xs=>obtain ⟨z,its,r,ob,e,c⟩:=x;exact ⟨z,its,r,ob,k _ _ (.inl rfl) e,c⟩
 | dK kvs=>obtain ⟨z,y,vs,r,ob,es,ep,e,c⟩:=x;exact ⟨z,y,vs,r,ob,es,ep,k _ _ (.inl rfl) e,c⟩
 | dT kvs=>
  obtain ⟨z,y,xs,r,ob,es,ep,e,c⟩:=x
  exact ⟨z,y,xs,Paired.mapP r fun p q z=>⟨z.1,ht _ _ z.2.1,z.2.2⟩,ob,es,ep,k _ _ (.inl rfl) e,c⟩
 | set S n=>obtain ⟨ob,es,ep,t,e,c⟩:=x;exact ⟨ob,es,ep,t,k _ _ (.inl rfl) e,c⟩
 | ins C dx fs=>
  obtain ⟨d,z,ne,e,mA,⟨od,es,ep,e2,c⟩,r⟩:=x
  exact ⟨ho _ d,z,ne,k _ _ (.inl rfl) e,mA,⟨od,es,ep,k _ _ (.inr d) e2,c⟩,r⟩
 | own y=>obtain ⟨ob,e⟩:=x;exact ⟨ob,k _ _ (.inl rfl) e⟩
 | xd fs=>obtain ⟨mA,⟨od,es,ep,e,c⟩,r⟩:=x;exact ⟨mA,⟨od,es,ep,k _ _ (.inl rfl) e,c⟩,r⟩
 | rng lo hi=>obtain ⟨t,u,v,e⟩:=x;exact ⟨t,u,v,k _ _ (.inl rfl) e⟩
 | frz ob u ih=>obtain ⟨e,q⟩:=x;exact ⟨k _ _ (.inl rfl) e,ih q⟩
 | tbl ps=>
  have e:h.get? a = some { cls:=.none,data:=.fields ps }:=x
  show h'.get? a = some { cls:=.none,data:=.fields ps }
  exact k a _ (.inl rfl) e
 | met f y=>
  have e:h.get? a = some (PySem.W.methodObj (.ref f) (.ref y)):=x
  show h'.get? a = some (PySem.W.methodObj (.ref f) (.ref y))
  exact k a _ (.inl rfl) e
 | ext φ=>obtain ⟨p,⟨o,e⟩,st⟩:=x;exact ⟨st _ _ p fun o q=>k _ _ (.inl rfl) q,⟨o,k _ _ (.inl rfl) e⟩,st⟩
theorem HOk.lt (x:HOk P w H h) (e:H a = some o):a < h.objs.size:=(x a o e).lt
theorem HOk.fresh (x:HOk P w H h) (e:h.objs.size ≤ a):H a = none:=by
 cases q:H a with
 | none=>rfl
 | some u=>exact absurd (Nat.lt_of_lt_of_le (x.lt q) e) (Nat.lt_irrefl _)
theorem HOk.kept (x:HOk P w H h) (k:∀ b u,h.get? b = some u->h'.get? b = some u):HOk P w H h':=fun a o e=>
 (x a o e).stay (fun b u _ q=>k b u q) (fun _ q=>q) fun _ _ q=>q
theorem HOk.laid (x:HOk P w H h) (k:∀ b u,h.get? b = some u->h'.get? b = some u) (hp:h.objs.size ≤ a) (new:ObjOk P w (upd H a o) h' a o):HOk P w (upd H a o) h':=fun b u e=>by
 have hn:=x.fresh hp
 by_cases hb:b = a
 ·subst hb;rw [upd_same] at e;cases e;exact new
 ·rw [upd_ne hb] at e
  exact (x b u e).stay (fun c v _ q=>k c v q) (fun c q=>by rw [upd_ne (ne_of_none q hn)];exact q) fun c xs q=>by rw [upd_ne (ne_of_none q hn)];exact q
end
def Rd (H:Hp) (a:Addr) (u:HO):Prop:=H a = some u\/∃ o,H a = some (.frz o u)
theorem Rd.ok {P:Program} {w:World} {H:Hp} {h:Heap} {a:Addr} {u:HO} (r:Rd H a u) (x:HOk P w H h):ObjOk P w H h a u:=by
 rcases r with r | ⟨o,r⟩
 ·exact x a u r
 ·obtain ⟨_,q⟩:=x a _ r
  exact q
def Mut:Option HO->Prop
 | some (.lst _)=>True
 | some (.dK _)=>True
 | some (.dT _)=>True
 | some (.set _ _)=>True
 | some (.ins _ _ _)=>True
 | some (.ext _)=>True
 | _=>False
section
variable {P:Program} {w:World} {H:Hp} {h h':Heap} {x e:Addr} {o':HO}
theorem HOk.write (ok:HOk P w H h) (mu:Mut (H x)) (he:e = x\/H e = some (.own x)) (k:∀ b u,b ≠ e->h.get? b = some u->h'.get? b = some u) (heo:∃ u,h'.get? e = some u)
  (new:ObjOk P w (upd H x o') h' x o'):HOk P w (upd H x o') h':=fun b u q=>by
 have nown:∀ c y,H c = some (.own y)->c ≠ x:=fun c y r z=>by subst z;rw [r] at mu;exact mu
 have ntup:∀ c xs,H c = some (.tup xs)->c ≠ x:=fun c xs r z=>by subst z;rw [r] at mu;exact mu
 by_cases hb:b = x
 ·subst hb;rw [upd_same] at q;cases q;exact new
 ·rw [upd_ne hb] at q
  by_cases hbe:b = e
  ·have q':H b = some (.own x):=by
    rcases he with z | z
    ·exact absurd (hbe.trans z) hb
    ·rw [hbe];exact z
   rw [q] at q';cases q'
   obtain ⟨v,hv⟩:=heo
   exact ⟨v,by rw [hbe];exact hv⟩
  ·refine (ok b u q).stay (fun c v hc r=>k c v ?_ r) (fun c r=>by rw [upd_ne (nown c b r)];exact r) fun c xs r=>by rw [upd_ne (ntup c xs r)];exact r
   rcases hc with rfl | hc
   ·exact hbe
   ·rintro rfl
    rcases he with z | z
    ·exact nown c b hc z
    ·rw [hc] at z;cases z;exact hb rfl
end
structure Un (fs ex:List Addr) (H H':Hp) (h h':Heap):Prop where
 keep:∀ b o,h.get? b = some o->H b = none->b ∉ fs->b ∉ ex->h'.get? b = some o
 slot:∀ b o,h.get? b = some o->H b = none->b ∈ fs->b ∉ ex->∃ sl,h'.get? b = some { o with slots:=sl }
 free:∀ b o,h.get? b = some o->H b = none->b ∉ ex->H' b = none
 there:∀ b o,h.get? b = some o->b ∉ ex->∃ o',h'.get? b = some o'
 tups:∀ b xs,H b = some (.tup xs)->H' b = some (.tup xs)
 frzs:∀ b o u,H b = some (.frz o u)->H' b = some (.frz o u)
 tbls:∀ b ps,H b = some (.tbl ps)->∃ more,H' b = some (.tbl (ps ++ more))
section
variable {fs fs' ex ex':List Addr} {H H1 H2:Hp} {h h1 h2 h':Heap} {a x e:Addr} {o:HO}
theorem Un.any (u:Un fs ex H H1 h h1) {b:Addr} {ob:Obj} (q:h.get? b = some ob) (n:H b = none) (hx:b ∉ ex):∃ sl,h1.get? b = some { ob with slots:=sl }:=by
 by_cases hb:b ∈ fs
 ·exact u.slot b ob q n hb hx
 ·exact ⟨ob.slots,u.keep b ob q n hb hx⟩
theorem Un.kept (k:∀ b u,h.get? b = some u->h'.get? b = some u):Un fs ex H H h h':=
 ⟨fun b ob q _ _ _=>k b ob q,fun b ob q _ _ _=>⟨ob.slots,k b ob q⟩,fun _ _ _ n _=>n,fun b ob q _=>⟨ob,k b ob q⟩,fun _ _ q=>q,fun _ _ _ q=>q,fun _ ps q=>⟨#[],by rw [q];simp⟩⟩
theorem Un.refl:Un fs ex H H h h:=Un.kept fun _ _ q=>q
theorem Un.laid (k:∀ b u,h.get? b = some u->h'.get? b = some u) (hp:h.objs.size ≤ a) (hn:H a = none):Un fs ex H (upd H a o) h h' where
 keep:=fun b u q _ _ _=>k b u q
 slot:=fun b u q _ _ _=>⟨u.slots,k b u q⟩
 free:=fun b u q n _=>by rw [upd_ne (Nat.ne_of_lt (Nat.lt_of_lt_of_le (Heap.lt_size q) hp))];exact n
 there:=fun b u q _=>⟨u,k b u q⟩
 tups:=fun b xs q=>by rw [upd_ne (ne_of_none q hn)];exact q
 frzs:=fun b u xs q=>by rw [upd_ne (ne_of_none q hn)];exact q
 tbls:=fun b ps q=>⟨#[],by rw [upd_ne (ne_of_none q hn),q];simp⟩
theorem Un.write (mu:Mut (H x)) (he:e = x\/H e = some (.own x)) (k:∀ b u,b ≠ e->h.get? b = some u->h'.get? b = some u) (heo:∃ u,h'.get? e = some u):Un fs ex H (upd H x o) h h':=by
 have hx:∀ b,H b = none->b ≠ x:=fun b n z=>by subst z;rw [n] at mu;exact mu
 have hb:∀ b,H b = none->b ≠ e:=fun b n z=>by
  subst z
  rcases he with r | r
  ·exact hx b n r
  ·rw [n] at r;cases r
 have hm:∀ b u,H b = some u->¬ Mut (some u)->b ≠ x:=fun b u q nm z=>by subst z;rw [q] at mu;exact nm mu
 refine ⟨fun b u q n _ _=>k b u (hb b n) q,fun b u q n _ _=>⟨u.slots,k b u (hb b n) q⟩,fun b u q n _=>by rw [upd_ne (hx b n)];exact n,fun b u q _=>?_,
  fun b xs q=>by rw [upd_ne (hm b _ q fun z=>z)];exact q,fun b u xs q=>by rw [upd_ne (hm b _ q fun z=>z)];exact q,fun b ps q=>⟨#[],by rw [upd_ne (hm b _ q fun z=>z),q];simp⟩⟩
 by_cases hbe:b = e
 ·subst hbe;exact heo
 ·exact ⟨u,k b u hbe q⟩
end
def trk (h:Heap) (H:Hp):List Addr:=(List.range h.objs.size).filter fun a=>(H a).isSome
def hidT (h:Heap) (H:Hp):Heap:=PySem.W.hideAll h (trk h H)
theorem hidT_size (h:Heap) (H:Hp):(hidT h H).objs.size = h.objs.size:=PySem.W.hideAll_size _ _
theorem hidT_get {h:Heap} {H:Hp} {b:Addr} {o:Obj} (e:h.get? b = some o) (n:H b = none):(hidT h H).get? b = some o:=
 PySem.W.hideAll_get _ e fun hm=>by
  have q:(H b).isSome = true:=(List.mem_filter.mp hm).2
  rw [n] at q;simp at q
theorem of_hidT {h:Heap} {H:Hp} {b:Addr} {o:Obj} (e:(hidT h H).get? b = some o):h.get? b = some o/\H b = none:=by
 have e':h.get? b = some o:=PySem.W.of_hideAll (trk h H) e
 refine ⟨e',?_⟩
 cases q:H b with
 | none=>rfl
 | some x=>
  have hm:b ∈ trk h H:=List.mem_filter.mpr ⟨List.mem_range.mpr (Heap.lt_size e'),by simp [q]⟩
  have z:(hidT h H).get? b = none:=PySem.W.hideAll_none (trk h H) hm
  rw [z] at e;cases e
end L2
namespace L2
open PySem PySem.Spec PyProof.Rows
structure Mod (K:PySem.W.Frag) (mg:Str->Option Value) (base:Heap):Prop where
 kin:K.In base
 glob:base.Ns mainGlobals mg
 blt:∃ mb,base.Ns builtinsNs mb/\∀ x:Str,x ≠ "__name__"->mb x = bootBuiltins x
 nolimit:base.NoLimit
structure Cx where
 prog:Program
 w:World
 K:PySem.W.Frag
 mg:Str->Option Value
 base:Heap
 A:Around
 N:List Str
 s₀:Shared
 H₀:Hp
 env:Env
 outer:List Env
 stack:List Env
 ex:List Addr
 fn:Str->Bool
 calm:Bool
 pn:List (Addr × Obj)
 xe:Value->Shared->Prop
def frs (l:List Env):List Addr:=l.filterMap (·.frame)
abbrev Cx.fs (X:Cx):List Addr:=frs X.outer
def Vis (sc:Scope) (x:Str):Prop:=sc.names.lookup x = some .local\/sc.names.lookup x = some .cell\/sc.names.lookup x = some .free
def Loc (sc:Scope) (x:Str):Prop:=sc.names.lookup x = some .local\/sc.names.lookup x = some .cell
def Look (env:Env) (h:Heap) (m:Str->Option Value) (x:Str) (u:Value):Prop:=
 (env.kindOf x = some .local/\m x = some u)\/((env.kindOf x = some .cell\/env.kindOf x = some .free)/\∃ c,env.cells.lookup x = some c/\h.IsCell c (some u))
structure Cx.Ok (X:Cx):Prop where
 mod:Mod X.K X.mg X.base
 kind:X.env.scope.kind = .function
 glob:X.env.globals = mainGlobals
 blt:X.env.builtins = builtinsNs
 above:X.s₀.heap.objs.size ≤ X.env.locals
 inj:∀ x y c,X.env.cells.lookup x = some c->X.env.cells.lookup y = some c->x = y
 has:∀ x,(X.env.kindOf x = some .cell\/X.env.kindOf x = some .free)->∃ c,X.env.cells.lookup x = some c
 cab:∀ x c,X.fn x = true->X.env.cells.lookup x = some c->X.s₀.heap.objs.size ≤ c
 hd:X.calm = true->X.A.handled = none
 frames:X.A.frames = some X.stack
 stk:X.stack = X.outer\/(X.stack = X.env :: X.outer/\X.env.frame = some X.env.locals)
 exf:∀ b ∈ X.ex,b ≠ X.env.locals/\∀ x c,X.env.cells.lookup x = some c->c ≠ b
 bs:∀ b o,X.base.get? b = some o->X.s₀.heap.get? b = some o/\X.H₀ b = none
 bsz:X.base.objs.size ≤ X.s₀.heap.objs.size
 noex:∀ b o,X.base.get? b = some o->b ∉ X.ex
 exfs:∀ b ∈ X.ex,b ∉ X.fs
 funs:X.s₀.heap.FunFrames X.base X.outer
 frf:∀ b ∈ X.fs,X.H₀ b = none
structure Inv (X:Cx) (pins:List (Addr × Obj)) (σ:List (Option V)) (H:Hp) (s:Shared):Prop where
 ok:X.Ok
 os:s.os = X.s₀.os
 bare:AllBare s.gens
 base:Un X.fs X.ex X.H₀ H X.s₀.heap s.heap
 loc:∃ m,s.heap.Ns X.env.locals m/\∀ (i:Nat) (x:Str) (v:V),X.N[i]? = some x->σ[i]? = some (some v)->Vis X.env.scope x->∃ u,RelV v u/\Look X.env s.heap m x u
 cell:∀ x c,X.env.cells.lookup x = some c->∃ v,s.heap.IsCell c v
 free:H X.env.locals = none
 freeC:∀ x c,X.env.cells.lookup x = some c->H c = none
 pin:∀ p ∈ X.pn ++ pins,s.heap.get? p.1 = some p.2/\H p.1 = none/\p.1 ≠ X.env.locals/\p.1 ∉ X.fs/\∀ v,p.2.data ≠ .cell v
 hok:HOk X.prog X.w H s.heap
 len:σ.length = X.N.length
section
variable {X:Cx} {pins:List (Addr × Obj)} {σ:List (Option V)} {H H':Hp} {s:Shared} {h':Heap}
theorem Cx.Ok.nofr (ok:X.Ok) {b:Addr} {o:Obj} (e:X.base.get? b = some o):b ∉ X.fs:=fun hb=>by
 have:=(ok.funs.mem hb).1
 rw [e] at this;cases this
theorem Inv.bs (I:Inv X pins σ H s):∀ b o,X.base.get? b = some o->s.heap.get? b = some o/\H b = none:=fun b o e=>
 ⟨I.base.keep b o (I.ok.bs b o e).1 (I.ok.bs b o e).2 (I.ok.nofr e) (I.ok.noex b o e),I.base.free b o (I.ok.bs b o e).1 (I.ok.bs b o e).2 (I.ok.noex b o e)⟩
theorem Inv.bk (I:Inv X pins σ H s):∀ b o,X.base.get? b = some o->s.heap.get? b = some o:=fun b o e=>(I.bs b o e).1
theorem Inv.mod (I:Inv X pins σ H s):Mod X.K X.mg X.base:=I.ok.mod
theorem Inv.kIn (I:Inv X pins σ H s):X.K.In s.heap:=I.ok.mod.kin.keeps I.bk
theorem Inv.lt (I:Inv X pins σ H s):X.env.locals < s.heap.objs.size:=let ⟨_,hn,_⟩:=I.loc;hn.lt
theorem Inv.sz (I:Inv X pins σ H s):X.s₀.heap.objs.size ≤ s.heap.objs.size:=Nat.le_trans I.ok.above (Nat.le_of_lt I.lt)
theorem Inv.nofs (I:Inv X pins σ H s) {a:Addr} (h:s.heap.objs.size ≤ a):a ∉ X.fs:=fun hb=>by
 obtain ⟨_,o,ho,_⟩:=I.ok.funs.mem hb
 exact absurd (Nat.lt_of_lt_of_le (Heap.lt_size ho) (Nat.le_trans I.sz h)) (Nat.lt_irrefl _)
theorem Inv.cne (I:Inv X pins σ H s):∀ x c,X.env.cells.lookup x = some c->c ≠ X.env.locals:=fun x c e z=>by
 obtain ⟨v,o,ho,hd⟩:=I.cell x c e
 obtain ⟨m,⟨o',es,ep,ho',hd',_⟩,_⟩:=I.loc
 rw [z,ho'] at ho;cases ho;rw [hd'] at hd;cases hd
theorem Inv.funs (I:Inv X pins σ H s):s.heap.FunFrames X.base X.outer:=by
 have all:∀ (l:List Env),(∀ b ∈ frs l,b ∈ X.fs)->X.s₀.heap.FunFrames X.base l->s.heap.FunFrames X.base l:=by
  intro l
  induction l with
  | nil=>intro _ _;trivial
  | cons env r ih=>
   intro hs hl
   obtain ⟨hk,⟨L,o,hf,hn,ho,hd⟩,hr⟩:=hl
   have hL:L ∈ X.fs:=hs L (by unfold frs;rw [List.filterMap_cons,hf];exact List.mem_cons_self)
   obtain ⟨sl,e⟩:=I.base.slot L o ho (I.ok.frf L hL) hL fun z=>I.ok.exfs L z hL
   exact ⟨hk,⟨L,_,hf,hn,e,hd⟩,ih (fun b hb=>hs b (by unfold frs;rw [List.filterMap_cons,hf];exact List.mem_cons_of_mem _ hb)) hr⟩
 exact all X.outer (fun _ hb=>hb) I.ok.funs
theorem Inv.stack (I:Inv X pins σ H s):s.heap.FunFrames X.base X.stack:=by
 rcases I.ok.stk with e | ⟨e,hf⟩
 ·rw [e];exact I.funs
 ·rw [e]
  obtain ⟨m,hn,_⟩:=I.loc
  refine .cons (by rw [I.ok.kind];decide) hf hn ?_ I.funs
  exact Heap.get?_none_of_le (Nat.le_trans I.ok.bsz I.ok.above)
theorem Inv.stkSub (I:Inv X pins σ H s):∀ b ∈ frs X.stack,b ∈ X.env.locals :: X.fs:=fun b hb=>by
 rcases I.ok.stk with e | ⟨e,hf⟩
 ·rw [e] at hb;exact List.mem_cons_of_mem _ hb
 ·rw [e] at hb
  unfold frs at hb
  rw [List.filterMap_cons,hf] at hb
  exact hb
theorem Inv.stkFree (I:Inv X pins σ H s):∀ b ∈ frs X.stack,H b = none:=fun b hb=>by
 rcases List.mem_cons.mp (I.stkSub b hb) with e | hb
 ·rw [e];exact I.free
 ·obtain ⟨_,o,ho,_⟩:=I.ok.funs.mem hb
  exact I.base.free b o ho (I.ok.frf b hb) fun z=>I.ok.exfs b z hb
theorem Inv.step {g':Array GenState} {t':Nat} {d':Drawn} {ch:List Addr} (I:Inv X pins σ H s)
  (hch:∀ b ∈ ch,(b ∈ X.ex\/X.s₀.heap.objs.size ≤ b)/\b ≠ X.env.locals/\(∀ x c,X.env.cells.lookup x = some c->c ≠ b)/\∀ p ∈ X.pn ++ pins,p.1 ≠ b)
  (keep:∀ b o,b ≠ X.env.locals->b ∉ X.fs->b ∉ ch->s.heap.get? b = some o->H b = none->h'.get? b = some o)
  (slot:∀ b o,b ≠ X.env.locals->b ∈ X.fs->b ∉ ch->s.heap.get? b = some o->H b = none->∃ sl,h'.get? b = some { o with slots:=sl }) (free:∀ b o,b ∉ ch->s.heap.get? b = some o->H b = none->H' b = none)
  (there:∀ b o,b ∉ ch->s.heap.get? b = some o->∃ o',h'.get? b = some o')
  (tups:∀ b xs,H b = some (.tup xs)->H' b = some (.tup xs)) (frzs:∀ b o u,H b = some (.frz o u)->H' b = some (.frz o u)) (tbls:∀ b ps,H b = some (.tbl ps)->∃ more,H' b = some (.tbl (ps ++ more)))
  (ns:∀ m,s.heap.Ns X.env.locals m->h'.Ns X.env.locals m) (hok:HOk X.prog X.w H' h') (hg:AllBare g') :
  Inv X pins σ H' { s with heap:=h',gens:=g',drawn:=d',toks:=t' }:=by
 have neL:∀ b o,X.s₀.heap.get? b = some o->b ≠ X.env.locals:=fun b o e=>Nat.ne_of_lt (Nat.lt_of_lt_of_le (Heap.lt_size e) I.ok.above)
 have neC:∀ b o,X.s₀.heap.get? b = some o->b ∉ X.ex->b ∉ ch:=fun b o e hx hb=>by
  rcases (hch b hb).1 with z | z
  ·exact hx z
  ·exact absurd (Nat.lt_of_lt_of_le (Heap.lt_size e) z) (Nat.lt_irrefl _)
 have cellK:∀ x c,X.env.cells.lookup x = some c->∀ v,s.heap.IsCell c v->h'.IsCell c v:=fun x c e v ⟨o,ho,hd⟩=>by
  have nch:c ∉ ch:=fun z=>(hch c z).2.2.1 x c e rfl
  by_cases hc:c ∈ X.fs
  ·obtain ⟨sl,q⟩:=slot c o (I.cne x c e) hc nch ho (I.freeC x c e)
   exact ⟨_,q,hd⟩
  ·exact ⟨o,keep c o (I.cne x c e) hc nch ho (I.freeC x c e),hd⟩
 refine ⟨I.ok,I.os,hg,⟨fun b o e n hb hx=>?_,fun b o e n hb hx=>?_,fun b o e n hx=>?_,fun b o e hx=>?_,fun b xs e=>tups b xs (I.base.tups b xs e),fun b o xs e=>frzs b o xs (I.base.frzs b o xs e),fun b ps e=>?_⟩,?_,fun x c e=>?_,?_,fun x c e=>?_,fun p hp=>?_,hok,I.len⟩
 ·exact keep b o (neL b o e) hb (neC b o e hx) (I.base.keep b o e n hb hx) (I.base.free b o e n hx)
 ·obtain ⟨sl,e1⟩:=I.base.slot b o e n hb hx
  obtain ⟨sl',e2⟩:=slot b _ (neL b o e) hb (neC b o e hx) e1 (I.base.free b o e n hx)
  exact ⟨sl',e2⟩
 ·obtain ⟨o',e1⟩:=I.base.there b o e hx
  exact free b o' (neC b o e hx) e1 (I.base.free b o e n hx)
 ·obtain ⟨o',e1⟩:=I.base.there b o e hx
  exact there b o' (neC b o e hx) e1
 ·obtain ⟨m1,e1⟩:=I.base.tbls b ps e
  obtain ⟨m2,e2⟩:=tbls b _ e1
  exact ⟨m1 ++ m2,by rw [e2,Array.append_assoc]⟩
 ·obtain ⟨m,hn,hl⟩:=I.loc
  refine ⟨m,ns m hn,fun i x v e1 e2 e3=>?_⟩
  obtain ⟨u,r,l⟩:=hl i x v e1 e2 e3
  refine ⟨u,r,?_⟩
  rcases l with l | ⟨k,c,e,z⟩
  ·exact .inl l
  ·exact .inr ⟨k,c,e,cellK x c e _ z⟩
 ·obtain ⟨v,z⟩:=I.cell x c e
  exact ⟨v,cellK x c e v z⟩
 ·obtain ⟨m,⟨o,_,_,ho,_⟩,_⟩:=I.loc
  exact free _ o (fun z=>(hch _ z).2.1 rfl) ho I.free
 ·obtain ⟨v,o,ho,hd⟩:=I.cell x c e
  exact free c o (fun z=>(hch c z).2.2.1 x c e rfl) ho (I.freeC x c e)
 ·obtain ⟨e,n,ne,nf,d⟩:=I.pin p hp
  have nch:p.1 ∉ ch:=fun z=>(hch p.1 z).2.2.2 p hp rfl
  exact ⟨keep p.1 p.2 ne nf nch e n,free p.1 p.2 nch e n,ne,nf,d⟩
theorem Inv.un {t':Nat} (I:Inv X pins σ H s) (u:Un X.fs [] H H' s.heap h') (hok:HOk X.prog X.w H' h'):Inv X pins σ H' { s with heap:=h',toks:=t' }:=by
 obtain ⟨m,⟨o,es,ep,ho,r⟩,_⟩:=id I.loc
 obtain ⟨sl,hL⟩:=u.any ho I.free (by simp)
 exact I.step (g':=s.gens) (d':=s.drawn) (ch:=[]) (fun _ z=>nomatch z) (fun b o _ hb _ e n=>u.keep b o e n hb (by simp)) (fun b o _ hb _ e n=>u.slot b o e n hb (by simp)) (fun b o _ e n=>u.free b o e n (by simp)) (fun b o _ e=>u.there b o e (by simp)) u.tups u.frzs u.tbls (fun m' hm=>by
  obtain ⟨o',es',ep',ho',r'⟩:=hm
  rw [ho] at ho';cases ho'
  exact ⟨_,es',ep',hL,r'⟩) hok I.bare
theorem Inv.call {g':Array GenState} {t':Nat} {d':Drawn} {ch:List Addr} (I:Inv X pins σ H s) (u:Un (frs X.stack) ch H H' s.heap h') (hok:HOk X.prog X.w H' h') (hg:AllBare g')
  (hch:∀ b ∈ ch,(b ∈ X.ex\/X.s₀.heap.objs.size ≤ b)/\b ≠ X.env.locals/\(∀ x c,X.env.cells.lookup x = some c->c ≠ b)/\∀ p ∈ X.pn ++ pins,p.1 ≠ b) :
  Inv X pins σ H' { s with heap:=h',gens:=g',drawn:=d',toks:=t' }:=by
 obtain ⟨m,⟨o,es,ep,ho,r⟩,_⟩:=id I.loc
 obtain ⟨sl,hL⟩:=u.any ho I.free fun z=>(hch _ z).2.1 rfl
 exact I.step (ch:=ch) hch (fun b o hL hb hc e n=>u.keep b o e n (fun z=>(List.mem_cons.mp (I.stkSub b z)).elim hL hb) hc) (fun b o _ _ hc e n=>u.any e n hc) (fun b o hc e n=>u.free b o e n hc) (fun b o hc e=>u.there b o e hc) u.tups u.frzs u.tbls (fun m' hm=>by
  obtain ⟨o',es',ep',ho',r'⟩:=hm
  rw [ho] at ho';cases ho'
  exact ⟨_,es',ep',hL,r'⟩) hok hg
theorem Inv.turned {t':Nat} {it:Addr} (I:Inv X pins σ H s) (k:∀ b o,b ≠ it->s.heap.get? b = some o->h'.get? b = some o) (hn:H it = none) (hL:it ≠ X.env.locals)
  (h1:it ∈ X.ex\/X.s₀.heap.objs.size ≤ it) (h2:∀ x c,X.env.cells.lookup x = some c->c ≠ it) (h3:∀ p ∈ X.pn ++ pins,p.1 ≠ it):Inv X pins σ H { s with heap:=h',toks:=t' }:=by
 have nit:∀ b u,H b = some u->b ≠ it:=fun b u e z=>by rw [z,hn] at e;cases e
 refine I.step (g':=s.gens) (d':=s.drawn) (ch:=[it]) (fun b hb=>?_) (fun b o _ _ hc e _=>k b o (fun z=>hc (by simp [z])) e) (fun b o _ _ hc e _=>⟨o.slots,k b o (fun z=>hc (by simp [z])) e⟩) (fun _ _ _ _ n=>n)
  (fun b o hc e=>⟨o,k b o (fun z=>hc (by simp [z])) e⟩) (fun _ _ e=>e) (fun _ _ _ e=>e) (fun b ps e=>⟨#[],by rw [e];simp⟩) (fun m hm=>?_) (fun b u e=>?_) I.bare
 ·have e:b = it:=by simpa using hb
  subst e
  exact ⟨h1,hL,h2,h3⟩
 ·obtain ⟨o,es,ep,ho,r⟩:=hm
  exact ⟨o,es,ep,k _ o (Ne.symm hL) ho,r⟩
 ·refine (I.hok b u e).stay (fun c v hc q=>k c v ?_ q) (fun _ q=>q) fun _ _ q=>q
  rcases hc with z | z
  ·rw [z];exact nit b u e
  ·exact nit c _ z
theorem Inv.tok (I:Inv X pins σ H s) (t:Nat):Inv X pins σ H { s with toks:=t }:=I.un (h':=s.heap) (t':=t) Un.refl I.hok
theorem Inv.kept {t':Nat} (I:Inv X pins σ H s) (k:∀ b u,s.heap.get? b = some u->h'.get? b = some u):Inv X pins σ H { s with heap:=h',toks:=t' }:=I.un (Un.kept k) (I.hok.kept k)
theorem Inv.laid {a:Addr} {o:HO} {t':Nat} (I:Inv X pins σ H s) (k:∀ b u,s.heap.get? b = some u->h'.get? b = some u) (hp:s.heap.objs.size ≤ a) (new:ObjOk X.prog X.w (upd H a o) h' a o) :
  Inv X pins σ (upd H a o) { s with heap:=h',toks:=t' }:=I.un (Un.laid k hp (I.hok.fresh hp)) (I.hok.laid k hp new)
theorem Inv.write {x e:Addr} {o:HO} {t':Nat} (I:Inv X pins σ H s) (mu:Mut (H x)) (he:e = x\/H e = some (.own x)) (k:∀ b u,b ≠ e->s.heap.get? b = some u->h'.get? b = some u) (heo:∃ u,h'.get? e = some u)
  (new:ObjOk X.prog X.w (upd H x o) h' x o):Inv X pins σ (upd H x o) { s with heap:=h',toks:=t' }:=I.un (Un.write mu he k heo) (I.hok.write mu he k heo new)
theorem Inv.pins_of {pins':List (Addr × Obj)} (I:Inv X pins σ H s) (h:∀ p ∈ pins',s.heap.get? p.1 = some p.2/\H p.1 = none/\p.1 ≠ X.env.locals/\p.1 ∉ X.fs/\∀ v,p.2.data ≠ .cell v):Inv X pins' σ H s:=
 ⟨I.ok,I.os,I.bare,I.base,I.loc,I.cell,I.free,I.freeC,fun p hp=>(List.mem_append.mp hp).elim (fun z=>I.pin p (List.mem_append_left _ z)) (h p),I.hok,I.len⟩
theorem nodup_ix {N:List Str} (hN:N.Nodup) {i j:Nat} {x:Str} (a:N[i]? = some x) (b:N[j]? = some x):i = j:=by
 obtain ⟨h1,e1⟩:=List.getElem?_eq_some_iff.mp a
 obtain ⟨h2,e2⟩:=List.getElem?_eq_some_iff.mp b
 exact (List.getElem_inj hN).mp (e1.trans e2.symm)
theorem store_ok2 {M:Model} {A:Around} {E:Value->Shared->Prop} {i:Nat} {x:Str} {v:V} {u:Value} {Q:Unit->Shared->Prop} (I:Inv X pins σ H s) (hN:X.N.Nodup) (hi:X.N[i]? = some x) (hx:Loc X.env.scope x) (r:RelV v u)
  (h:∀ s',Inv X pins (σ.set i (some v)) H s'->(∃ a,Heap.SameBut a s.heap s'.heap/\(a = X.env.locals\/X.env.cells.lookup x = some a))->Q () s') (hf:X.fn x = true\/X.env.scope.names.lookup x = some .local:=by first | exact .inl rfl | exact .inr rfl | assumption):wpAny M A (storeName X.env x u) Q E s:=by
 obtain ⟨m,hn,hl⟩:=id I.loc
 have hcls:(X.env.scope.kind == .class || (X.env.scope.kind == .module && X.env.locals != X.env.globals)) = false:=by rw [I.ok.kind];rfl
 have hiσ:i < σ.length:=by rw [I.len];exact (List.getElem?_eq_some_iff.mp hi).1
 have cne:=I.cne
 have tracked:∀ {a:Addr} {h':Heap},(∃ o,s.heap.get? a = some o/\H a = none)->Heap.SameBut a s.heap h'->HOk X.prog X.w H h':=fun {a h'} ha hs b ob e=>by
  obtain ⟨_,_,hfree⟩:=ha
  refine (I.hok b ob e).stay (fun c w' hc q=>(hs.2 c ?_).trans q) (fun _ q=>q) fun _ _ q=>q
  rintro rfl
  rcases hc with rfl | hc
  ·rw [hfree] at e;cases e
  ·rw [hfree] at hc;cases hc
 rcases hx with hk | hk
 ·refine wpAny_storeName_local hk hn (fun h' hn' hs=>?_) hcls
  obtain ⟨oL,_,_,hoL,_⟩:=id hn
  refine h _ ⟨I.ok,I.os,I.bare,⟨fun b o e n hb hx=>?_,fun b o e n hb hx=>?_,I.base.free,fun b o e hx=>?_,I.base.tups,I.base.frzs,I.base.tbls⟩,⟨_,hn',fun j y v' e1 e2 e3=>?_⟩,fun y c e=>?_,I.free,I.freeC,fun p hp=>?_,tracked ⟨oL,hoL,I.free⟩ hs,by simpa using I.len⟩ ⟨_,hs,.inl rfl⟩
  ·exact (hs.2 b (Nat.ne_of_lt (Nat.lt_of_lt_of_le (Heap.lt_size e) I.ok.above))).trans (I.base.keep b o e n hb hx)
  ·obtain ⟨sl,e1⟩:=I.base.slot b o e n hb hx
   exact ⟨sl,(hs.2 b (Nat.ne_of_lt (Nat.lt_of_lt_of_le (Heap.lt_size e) I.ok.above))).trans e1⟩
  ·obtain ⟨o',e1⟩:=I.base.there b o e hx
   exact ⟨o',(hs.2 b (Nat.ne_of_lt (Nat.lt_of_lt_of_le (Heap.lt_size e) I.ok.above))).trans e1⟩
  ·by_cases hj:j = i
   ·subst hj
    rw [hi] at e1;cases e1
    rw [List.getElem?_set_self hiσ] at e2
    cases e2
    exact ⟨u,r,.inl ⟨hk,by simp⟩⟩
   ·rw [List.getElem?_set_ne (Ne.symm hj)] at e2
    obtain ⟨u',r',q⟩:=hl j y v' e1 e2 e3
    refine ⟨u',r',?_⟩
    rcases q with ⟨k,e⟩ | ⟨k,c,e,z⟩
    ·refine .inl ⟨k,?_⟩
     have:y ≠ x:=fun e=>hj (nodup_ix hN e1 (e ▸ hi))
     simp [this,e]
    ·exact .inr ⟨k,c,e,z.sameBut hs (cne y c e)⟩
  ·obtain ⟨w',z⟩:=I.cell y c e
   exact ⟨w',z.sameBut hs (cne y c e)⟩
  ·obtain ⟨e,n,ne,nf,d⟩:=I.pin p hp
   exact ⟨(hs.2 p.1 ne).trans e,n,ne,nf,d⟩
 ·have hfn:X.fn x = true:=by
   rcases hf with z | z
   ·exact z
   ·rw [z] at hk;cases hk
  obtain ⟨c,hc⟩:=I.ok.has x (.inl hk)
  obtain ⟨w',z⟩:=I.cell x c hc
  refine wpAny_storeName_cell I.ok.kind hk hc z (fun h' hc' hs=>?_)
  obtain ⟨oc,hoc,hocd⟩:=id z
  refine h { s with heap:=h' } ⟨I.ok,I.os,I.bare,⟨fun b o e n hb hx=>?_,fun b o e n hb hx=>?_,I.base.free,fun b o e hx=>?_,I.base.tups,I.base.frzs,I.base.tbls⟩,⟨m,hn.sameBut hs (Ne.symm (cne x c hc)),fun j y v' e1 e2 e3=>?_⟩,fun y c' e=>?_,I.free,I.freeC,fun p hp=>?_,tracked ⟨oc,hoc,I.freeC x c hc⟩ hs,by simpa using I.len⟩ ⟨c,hs,.inr hc⟩
  ·exact (hs.2 b (Nat.ne_of_lt (Nat.lt_of_lt_of_le (Heap.lt_size e) (I.ok.cab x c hfn hc)))).trans (I.base.keep b o e n hb hx)
  ·obtain ⟨sl,e1⟩:=I.base.slot b o e n hb hx
   exact ⟨sl,(hs.2 b (Nat.ne_of_lt (Nat.lt_of_lt_of_le (Heap.lt_size e) (I.ok.cab x c hfn hc)))).trans e1⟩
  ·obtain ⟨o',e1⟩:=I.base.there b o e hx
   exact ⟨o',(hs.2 b (Nat.ne_of_lt (Nat.lt_of_lt_of_le (Heap.lt_size e) (I.ok.cab x c hfn hc)))).trans e1⟩
  ·by_cases hj:j = i
   ·subst hj
    rw [hi] at e1;cases e1
    rw [List.getElem?_set_self hiσ] at e2
    cases e2
    exact ⟨u,r,.inr ⟨.inl hk,c,hc,hc'⟩⟩
   ·rw [List.getElem?_set_ne (Ne.symm hj)] at e2
    obtain ⟨u',r',q⟩:=hl j y v' e1 e2 e3
    refine ⟨u',r',?_⟩
    rcases q with q | ⟨k,c',e,z'⟩
    ·exact .inl q
    ·refine .inr ⟨k,c',e,z'.sameBut hs ?_⟩
     rintro rfl
     exact hj (nodup_ix hN e1 (I.ok.inj _ _ _ e hc ▸ hi))
  ·by_cases hcc:c' = c
   ·subst hcc;exact ⟨_,hc'⟩
   ·obtain ⟨w2,z2⟩:=I.cell y c' e
    exact ⟨w2,z2.sameBut hs hcc⟩
  ·obtain ⟨e,n,ne,nf,d⟩:=I.pin p hp
   refine ⟨(hs.2 p.1 ?_).trans e,n,ne,nf,d⟩
   intro q
   rw [q,hoc] at e
   have q':oc = p.2:=Option.some.inj e
   exact d w' (by rw [← q'];exact hocd)
theorem store_ok {M:Model} {A:Around} {E:Value->Shared->Prop} {i:Nat} {x:Str} {v:V} {u:Value} {Q:Unit->Shared->Prop} (I:Inv X pins σ H s) (hN:X.N.Nodup) (hi:X.N[i]? = some x) (hx:Loc X.env.scope x) (r:RelV v u)
  (h:∀ s',Inv X pins (σ.set i (some v)) H s'->Q () s') (hf:X.fn x = true\/X.env.scope.names.lookup x = some .local:=by first | exact .inl rfl | exact .inr rfl | assumption):wpAny M A (storeName X.env x u) Q E s:=
 store_ok2 I hN hi hx r (fun s' I' _=>h s' I') hf
theorem Inv.call' {s':Shared} {ch:List Addr} (I:Inv X pins σ H s) (ho:s'.os = s.os) (u:Un (frs X.stack) ch H H' s.heap s'.heap) (hok:HOk X.prog X.w H' s'.heap) (hg:AllBare s'.gens)
  (hch:∀ b ∈ ch,(b ∈ X.ex\/X.s₀.heap.objs.size ≤ b)/\b ≠ X.env.locals/\(∀ x c,X.env.cells.lookup x = some c->c ≠ b)/\∀ p ∈ X.pn ++ pins,p.1 ≠ b):Inv X pins σ H' s':=by
 obtain ⟨h',g',d',t',o'⟩:=s'
 have e:o' = s.os:=ho
 subst e
 exact I.call (g':=g') (t':=t') (d':=d') u hok hg hch
end
abbrev XK:=Value->Option Addr->Hp->Prop
abbrev St:=List (Option V)
abbrev VK:=V->Hp->Prop
abbrev TE:=St->Hp->VK->Prop
abbrev TT:=St->Hp->(Bool->Hp->Prop)->Prop
abbrev TA:=St->Hp->(List V->Hp->Prop)->Prop
structure Ends where
 nx:St->Hp->Prop
 rt:VK
 bk:St->Hp->Prop:=fun _ _=>False
 ct:St->Hp->Prop:=fun _ _=>False
abbrev TS:=Ends->St->Hp->Prop
def EP (X:Cx) (pins:List (Addr × Obj)) (σ:St) (Q:VK) (u:Value) (s':Shared):Prop:=∃ v H',Inv X pins σ H' s'/\RelV v u/\Q v H'
def TP (X:Cx) (pins:List (Addr × Obj)) (σ:St) (Q:Bool->Hp->Prop) (b:Bool) (s':Shared):Prop:=∃ H',Inv X pins σ H' s'/\Q b H'
def AP (X:Cx) (pins:List (Addr × Obj)) (σ:St) (Q:List V->Hp->Prop) (us:List Value) (s':Shared):Prop:=∃ vs H',Inv X pins σ H' s'/\Vals vs us/\Q vs H'
def SP (X:Cx) (pins:List (Addr × Obj)) (D:Ends) (f:Flow) (s':Shared):Prop:=
 match f with
 | .next=>∃ σ' H',Inv X pins σ' H' s'/\D.nx σ' H'
 | .brk=>∃ σ' H',Inv X pins σ' H' s'/\D.bk σ' H'
 | .cont=>∃ σ' H',Inv X pins σ' H' s'/\D.ct σ' H'
 | .ret u=>∃ v σ' H',Inv X pins σ' H' s'/\RelV v u/\D.rt v H'
def PE (X:Cx) (e:Expr) (t:TE):Prop:=
 ∀ (pins:List (Addr × Obj)) (s:Shared) (σ:St) (H:Hp) (Q:VK),Inv X pins σ H s->t σ H Q->wpAny (model X.prog X.w) X.A (eval e X.env) (EP X pins σ Q) X.xe s
def PT (X:Cx) (e:Expr) (t:TT):Prop:=
 ∀ (pins:List (Addr × Obj)) (s:Shared) (σ:St) (H:Hp) (Q:Bool->Hp->Prop),Inv X pins σ H s->t σ H Q->wpAny (model X.prog X.w) X.A (isTrue e X.env (eval e X.env)) (TP X pins σ Q) X.xe s
def PW (X:Cx) (e:Expr) (t:TT):Prop:=
 ∀ (whole:Sem Value) (pins:List (Addr × Obj)) (s:Shared) (σ:St) (H:Hp) (Q:Bool->Hp->Prop),Inv X pins σ H s->t σ H Q->wpAny (model X.prog X.w) X.A (isTrue e X.env whole) (TP X pins σ Q) X.xe s
theorem PW.pt {X:Cx} {e:Expr} {t:TT} (h:PW X e t):PT X e t:=h _
def PA (X:Cx) (es:List Expr) (t:TA):Prop:=
 ∀ (pos:Pos) (pins:List (Addr × Obj)) (s:Shared) (σ:St) (H:Hp) (Q:List V->Hp->Prop),Inv X pins σ H s->t σ H Q->wpAny (model X.prog X.w) X.A (spliced (backTo pos (starEach es X.env))) (AP X pins σ Q) X.xe s
def PS (X:Cx) (st:Stmt) (t:TS):Prop:=
 ∀ (pins:List (Addr × Obj)) (s:Shared) (σ:St) (H:Hp) (D:Ends),Inv X pins σ H s->t D σ H->wpAny (model X.prog X.w) X.A (exec st X.env) (SP X pins D) X.xe s
def PSs (X:Cx) (st:List Stmt) (t:TS):Prop:=
 ∀ (pins:List (Addr × Obj)) (s:Shared) (σ:St) (H:Hp) (D:Ends),Inv X pins σ H s->t D σ H->wpAny (model X.prog X.w) X.A (execs st X.env) (SP X pins D) X.xe s
theorem thn {α:Type} {t:Sem α} {Q Q':α->Shared->Prop} {M:Model} {A:Around} {E:Value->Shared->Prop} {s:Shared} (h:wpAny M A t Q E s) (hQ:∀ a s,Q a s->Q' a s):wpAny M A t Q' E s:=wpAny_mono h hQ fun _ _ x=>x
end L2
namespace L2
open PySem PySem.Spec PyProof.Rows
section
variable {X:Cx}
theorem bin {a b:Expr} {ta tb:TE} (ha:PE X a ta) (hb:PE X b tb) {pins:List (Addr × Obj)} {s:Shared} {σ:St} {H:Hp} {R:V->V->Hp->Prop} (I:Inv X pins σ H s) (h:ta σ H fun x H1=>tb σ H1 fun y H2=>R x y H2)
  {α:Type} {Q:α->Shared->Prop} {f:Value->Value->Sem α}
  (hf:∀ v u s2 x y H2,Inv X pins σ H2 s2->RelV x v->RelV y u->R x y H2->wpAny (model X.prog X.w) X.A (f v u) Q X.xe s2) :
  wpAny (model X.prog X.w) X.A (eval a X.env) (fun v s₁=>wpAny (model X.prog X.w) X.A (eval b X.env) (fun u s₂=>wpAny (model X.prog X.w) X.A (f v u) Q X.xe s₂) X.xe s₁) X.xe s:=by
 refine thn (ha pins s σ H _ I h) fun v s1 ⟨x,H1,I1,r1,q1⟩=>?_
 refine thn (hb pins s1 σ H1 _ I1 q1) fun u s2 ⟨y,H2,I2,r2,q2⟩=>?_
 exact hf v u s2 x y H2 I2 r1 r2 q2
def tVar (i:Nat):TE:=fun σ H Q=>∃ v,σ[i]? = some (some v)/\Q v H
def tC (v:V):TE:=fun _ H Q=>Q v H
theorem pe_var {i:Nat} {x:Str} {pos:Pos} (hN:X.N[i]? = some x) (hv:Vis X.env.scope x) (hd:(x == ("__debug__":Str)) = false:=by decide) (hcd:(x == ("__classdict__":Str)) = false:=by decide):PE X (.Name x pos) (tVar i):=by
 intro pins s σ H Q I h
 obtain ⟨v,e,h⟩:=h
 obtain ⟨m,hn,hl⟩:=I.loc
 obtain ⟨u,r,l⟩:=hl i x v hN e hv
 have fin:EP X pins σ Q u s:=⟨v,H,I,r,h⟩
 rcases l with ⟨hk,hm⟩ | ⟨hk,c,hc,hcell⟩
 ·exact wpAny_Name (wpAny_loadName_local I.ok.kind hk hn hm fin) hd
 ·rcases hk with hk | hk
  ·exact wpAny_Name (wpAny_loadName_cell I.ok.kind hk hc hcell fin) hd
  ·exact wpAny_Name (wpAny_loadName_free I.ok.kind hk hc hcell fin hcd) hd
theorem pe_int {i j pos}:PE X (.Constant (.int i) j pos) (tC (.int i)):=fun _ _ _ H _ I h=>wpAny_Constant_int ⟨.int i,H,I.tok _,⟨_,rfl⟩,h⟩
theorem pe_bl {b j pos}:PE X (.Constant (.bool b) j pos) (tC (.bl b)):=fun _ _ _ H _ I h=>Constant_bool ⟨.bl b,H,I,rfl,h⟩
theorem pe_non {j pos}:PE X (.Constant .none j pos) (tC .non):=fun _ _ _ H _ I h=>Constant_none ⟨.non,H,I,rfl,h⟩
theorem pe_str {x j pos}:PE X (.Constant (.str x) j pos) (tC (.str x)):=fun _ _ _ H _ I h=>Calls.Constant_str ⟨.str x,H,I.tok _,⟨_,rfl⟩,h⟩
def Gl (X:Cx) (x:Str):Prop:=X.env.kindOf x = some .globalImplicit
theorem ld_glob {E:Value->Shared->Prop} {pins:List (Addr × Obj)} {s:Shared} {σ:St} {H:Hp} {x:Str} {u:Value} {pos:Pos} {Q:Value->Shared->Prop} (I:Inv X pins σ H s) (hg:Gl X x) (hm:X.mg x = some u) (h:Q u s)
  (hd:(x == ("__debug__":Str)) = false:=by decide):wpAny (model X.prog X.w) X.A (eval (.Name x pos) X.env) Q E s:=
 Calls.Name_function_global I.ok.kind hg (Calls.loadGlobal_global (by rw [I.ok.glob];exact I.mod.glob.keeps I.bk) hm h) hd
theorem ld_blt {E:Value->Shared->Prop} {pins:List (Addr × Obj)} {s:Shared} {σ:St} {H:Hp} {x:Str} {u:Value} {pos:Pos} {Q:Value->Shared->Prop} (I:Inv X pins σ H s) (hg:Gl X x) (hm:X.mg x = none) (hv:bootBuiltins x = some u) (h:Q u s)
  (hn:x ≠ "__name__":=by decide) (hd:(x == ("__debug__":Str)) = false:=by decide):wpAny (model X.prog X.w) X.A (eval (.Name x pos) X.env) Q E s:=by
 obtain ⟨mb,h1,h2⟩:=I.mod.blt
 exact Calls.Name_function_global I.ok.kind hg (Calls.loadGlobal_builtin (by rw [I.ok.glob];exact I.mod.glob.keeps I.bk) hm (by rw [I.ok.blt];exact h1.keeps I.bk) ((h2 x hn).trans hv) h) hd
theorem pe_bltn {x:Str} {v:V} {u:Value} {pos:Pos} (hg:Gl X x) (hm:X.mg x = none) (hv:bootBuiltins x = some u) (r:RelV v u) (hn:x ≠ "__name__":=by decide) (hd:(x == ("__debug__":Str)) = false:=by decide):PE X (.Name x pos) (tC v):=
 fun _ _ _ H _ I h=>ld_blt I hg hm hv ⟨v,H,I,r,h⟩ hn hd
variable {a b:Expr} {ta tb:TE} {pos:Pos}
def PC (X:Cx) (op:CmpOp) (a b:Expr) (t:TE):Prop:=
 ∀ (pins:List (Addr × Obj)) (s:Shared) (σ:St) (H:Hp) (Q:VK),Inv X pins σ H s->t σ H Q →
  wpAny (model X.prog X.w) X.A (eval a X.env) (fun v s₁=>wpAny (model X.prog X.w) X.A (eval b X.env) (fun u s₂=>wpAny (model X.prog X.w) X.A (compareOp op v u) (EP X pins σ Q) X.xe s₂) X.xe s₁) X.xe s
def tB (t:TE):TT:=fun σ H Q=>t σ H fun x H1=>∃ c,x = .bl c/\Q c H1
theorem pt_cmp {op:CmpOp} {t:TE} (h:PC X op a b t) (h1:behindInMarks op b = false:=by first | exact nobehind _ (by decide) (by decide) | rfl):PT X (.Compare a [op] [b] pos) (tB t):=by
 intro pins s σ H Q I hw
 refine wpAny_isTrue_Compare1 (thn (h pins s σ H _ I hw) fun v s1 h1=>thn h1 fun u s2 h2=>thn h2 fun c s3 ⟨x,H1,I1,r1,q1⟩=>?_) h1
 obtain ⟨d,rfl,q⟩:=q1
 cases r1
 exact wpAny_truthy_bool ⟨H1,I1,q⟩
theorem pt_val {e:Expr} {t:TE} (h:PE X e t) (he:∀ whole,isTrue e X.env whole = (do let v ← whole;standAt e.pos;holding [v] (truthy v)):=by intro _;rfl):PT X e (tB t):=by
 intro pins s σ H Q I hw
 refine isTrue_plain (thn (h pins s σ H _ I hw) fun v s1 ⟨x,H1,I1,r1,q1⟩=>?_) (he _)
 obtain ⟨d,rfl,q⟩:=q1
 cases r1
 exact wpAny_truthy_bool ⟨H1,I1,q⟩
variable {tA tB':TT} {rest:List Expr}
def tAnd (t u:TT):TT:=fun σ H Q=>t σ H fun c H1=>if c = true then u σ H1 Q else Q false H1
def tOr (t u:TT):TT:=fun σ H Q=>t σ H fun c H1=>if c = true then Q true H1 else u σ H1 Q
def tNot (t:TT):TT:=fun σ H Q=>t σ H fun c H1=>Q (!c) H1
theorem pw_and1 (ha:PT X a tA):PW X (.BoolOp .And [a] pos) tA:=by
 intro wh pins s σ H Q I h
 refine isTrue_and (thn (ha pins s σ H Q I h) fun c s1 e=>?_)
 cases c with
 | true=>exact isTrue_and_nil e
 | false=>exact e
theorem pw_or1 (ha:PT X a tA):PW X (.BoolOp .Or [a] pos) tA:=by
 intro wh pins s σ H Q I h
 refine isTrue_or (thn (ha pins s σ H Q I h) fun c s1 e=>?_)
 cases c with
 | false=>exact isTrue_or_nil e
 | true=>exact e
theorem pw_and (ha:PT X a tA) (hb:PW X (.BoolOp .And (b :: rest) pos) tB'):PW X (.BoolOp .And (a :: b :: rest) pos) (tAnd tA tB'):=by
 intro wh pins s σ H Q I h
 refine isTrue_and (thn (ha pins s σ H _ I h) fun c s1 ⟨H1,I1,q1⟩=>?_)
 cases c with
 | true=>exact hb wh pins s1 σ H1 Q I1 q1
 | false=>exact ⟨H1,I1,q1⟩
theorem pw_or (ha:PT X a tA) (hb:PW X (.BoolOp .Or (b :: rest) pos) tB'):PW X (.BoolOp .Or (a :: b :: rest) pos) (tOr tA tB'):=by
 intro wh pins s σ H Q I h
 refine isTrue_or (thn (ha pins s σ H _ I h) fun c s1 ⟨H1,I1,q1⟩=>?_)
 cases c with
 | true=>exact ⟨H1,I1,q1⟩
 | false=>exact hb wh pins s1 σ H1 Q I1 q1
theorem pt_not (ha:PT X a tA):PT X (.UnaryOp .Not a pos) (tNot tA):=by
 intro pins s σ H Q I h
 exact isTrue_not (ha pins s σ H (fun c H1=>Q (!c) H1) I h)
def tAndV (ta tb:TE):TE:=fun σ H Q=>ta σ H fun x H1=>∃ c,x = .bl c/\if c = true then tb σ H1 Q else Q (.bl false) H1
def tNotV (ta:TE):TE:=fun σ H Q=>ta σ H fun x H1=>∃ c,x = .bl c/\Q (.bl (!c)) H1
theorem pe_one {op} {t:TE} (h:PE X a t):PE X (.BoolOp op [a] pos) t:=fun pins s σ H Q I hw=>BoolOp_one (h pins s σ H Q I hw)
theorem pe_and (ha:PE X a ta) (hb:PE X (.BoolOp .And (b :: rest) pos) tb):PE X (.BoolOp .And (a :: b :: rest) pos) (tAndV ta tb):=by
 intro pins s σ H Q I h
 refine BoolOp_and (thn (ha pins s σ H _ I h) fun v s1 ⟨x,H1,I1,r1,q1⟩=>?_)
 obtain ⟨c,rfl,q1⟩:=q1
 cases r1
 refine wpAny_truthy_bool ?_
 cases c with
 | true=>exact hb pins s1 σ H1 Q I1 q1
 | false=>exact ⟨.bl false,H1,I1,rfl,q1⟩
theorem pe_not (ha:PE X a ta):PE X (.UnaryOp .Not a pos) (tNotV ta):=by
 intro pins s σ H Q I h
 refine UnaryOp_ (thn (ha pins s σ H _ I h) fun v s1 ⟨x,H1,I1,r1,q1⟩=>?_)
 obtain ⟨c,rfl,q1⟩:=q1
 cases r1
 exact not_of (wpAny_truthy_bool ⟨.bl (!c),H1,I1,rfl,q1⟩)
def tIf (t:TT) (ta tb:TE):TE:=fun σ H Q=>t σ H fun c H1=>if c = true then ta σ H1 Q else tb σ H1 Q
theorem pe_ifExp {c:Expr} (hc:PT X c tA) (ha:PE X a ta) (hb:PE X b tb):PE X (.IfExp c a b pos) (tIf tA ta tb):=by
 intro pins s σ H Q I h
 refine wpAny_IfExp (thn (hc pins s σ H _ I h) fun d s1 ⟨H1,I1,q1⟩=>?_)
 cases d with
 | true=>exact ha pins s1 σ H1 Q I1 q1
 | false=>exact hb pins s1 σ H1 Q I1 q1
end
end L2
namespace L2
open PySem PySem.Spec PyProof.Rows
def SqL (K:PySem.W.Frag) (H:Hp) (a:Addr) (xs:List V):Prop:=
 Rd H a (.lst xs) ∨
  ∃ (o:Obj) (its:Array Value) (n:Nat),K.lookup a = some o/\o.cls = .type "list"/\o.dict = none/\o.data = .seq its n/\its.size ≤ sizeLine/\Vals xs its.toList
def SqT (K:PySem.W.Frag) (H:Hp) (a:Addr) (xs:List V):Prop:=
 Rd H a (.tup xs) ∨
  ∃ (o:Obj) (its:Array Value) (n:Nat),K.lookup a = some o/\o.cls = .type "tuple"/\o.data = .seq its n/\its.size ≤ sizeLine/\Vals xs its.toList
def absV:Value->Option V
 | .none=>some .non
 | .bool b=>some (.bl b)
 | .int i _=>some (.int i)
 | .str x _=>some (.str x)
 | .bytes b _=>some (.byt b)
 | .float b _=>some (.flt b)
 | .ref a=>some (.ref a)
 | .type n=>some (.ty n)
 | _=>none
theorem RelV.abs {x:V} {u:Value} (r:RelV x u):absV u = some x:=by
 cases x with
 | non=>cases r;rfl
 | bl _=>cases r;rfl
 | int _=>obtain ⟨t,rfl⟩:=r;rfl
 | str _=>obtain ⟨t,rfl⟩:=r;rfl
 | byt _=>obtain ⟨t,rfl⟩:=r;rfl
 | flt _=>obtain ⟨t,rfl⟩:=r;rfl
 | ref _=>cases r;rfl
 | ty _=>cases r;rfl
theorem RelV.inj {x y:V} {u:Value} (r:RelV x u) (q:RelV y u):x = y:=Option.some.inj (r.abs.symm.trans q.abs)
theorem Vals.inj:∀ {xs ys:List V} {us:List Value},Vals xs us->Vals ys us->xs = ys
 | _,_,_,.nil,.nil=>rfl
 | _,_,_,.cons r t,.cons r' t'=>by rw [r.inj r',Vals.inj t t']
section
variable {X:Cx} {pins:List (Addr × Obj)} {σ:St} {H:Hp} {s:Shared} {a:Addr} {xs ys:List V}
theorem SqL.of {K:PySem.W.Frag} (h:H a = some (.lst xs)):SqL K H a xs:=.inl (.inl h)
theorem SqT.of {K:PySem.W.Frag} (h:H a = some (.tup xs)):SqT K H a xs:=.inl (.inl h)
theorem Inv.list (I:Inv X pins σ H s) (h:SqL X.K H a xs):∃ its:List Value,Vals xs its/\PlainL s.heap a its.toArray/\xs.length ≤ sizeLine:=by
 rcases h with h | ⟨o,its,n,hk,hc,hd,hs,hz,r⟩
 ·obtain ⟨z,its,n,r,e⟩:=h.ok I.hok
  exact ⟨its,r,⟨_,n,e,rfl,rfl,rfl⟩,z⟩
 ·refine ⟨its.toList,r,⟨o,n,I.kIn a o hk,hc,hd,by simpa using hs⟩,?_⟩
  have e:=r.length
  simp only [Array.length_toList] at e
  omega
theorem Inv.tuple (I:Inv X pins σ H s) (h:SqT X.K H a xs):∃ its:List Value,Vals xs its/\IsTup s.heap a its.toArray/\xs.length ≤ sizeLine:=by
 rcases h with h | ⟨o,its,n,hk,hc,hs,hz,r⟩
 ·obtain ⟨z,its,r,p⟩:=h.ok I.hok
  exact ⟨its,r,p,z⟩
 ·refine ⟨its.toList,r,⟨o,I.kIn a o hk,hc,n,by simpa using hs⟩,?_⟩
  have e:=r.length
  simp only [Array.length_toList] at e
  omega
theorem Inv.list_inj (I:Inv X pins σ H s) (h:SqL X.K H a xs) (h':SqL X.K H a ys):xs = ys:=by
 obtain ⟨its,r,⟨o,n,e,_,_,d⟩,_⟩:=I.list h
 obtain ⟨its',r',⟨o',n',e',_,_,d'⟩,_⟩:=I.list h'
 rw [e] at e';cases e'
 rw [d] at d'
 injection d' with d1 _
 have:its = its':=by simpa using congrArg Array.toList d1
 subst this
 exact r.inj r'
theorem Inv.tuple_inj (I:Inv X pins σ H s) (h:SqT X.K H a xs) (h':SqT X.K H a ys):xs = ys:=by
 obtain ⟨its,r,⟨o,e,_,n,d⟩,_⟩:=I.tuple h
 obtain ⟨its',r',⟨o',e',_,n',d'⟩,_⟩:=I.tuple h'
 rw [e] at e';cases e'
 rw [d] at d'
 injection d' with d1 _
 have:its = its':=by simpa using congrArg Array.toList d1
 subst this
 exact r.inj r'
end
section
variable {X:Cx} {pins:List (Addr × Obj)} {σ:St} {H:Hp} {s:Shared} {E:Value->Shared->Prop}
end
section
variable {X:Cx} {st:Stmt} {rest:List Stmt} {t u:TS} {e:Expr} {te:TE} {pos:Pos}
def tNext:TS:=fun D σ H=>D.nx σ H
def tSeq (t u:TS):TS:=fun D σ H=>t { D with nx:=u D } σ H
theorem pss_nil:PSs X [] tNext:=fun _ _ σ H _ I h=>wpAny_execs_nil ⟨σ,H,I,h⟩
theorem pss_cons (h1:PS X st t) (h2:PSs X rest u):PSs X (st :: rest) (tSeq t u):=by
 intro pins s σ H D I h
 refine wpAny_execs_cons (thn (h1 pins s σ H { D with nx:=u D } I h) fun f s1 q=>?_)
 cases f with
 | next=>
  obtain ⟨σ',H',I',q⟩:=q
  exact h2 pins s1 σ' H' D I' q
 | ret v=>exact q
 | brk=>exact q
 | cont=>exact q
theorem pss_one (h1:PS X st t):PSs X [st] t:=by
 intro pins s σ H D I h
 refine wpAny_execs_cons (thn (h1 pins s σ H D I h) fun f s1 q=>?_)
 cases f with
 | next=>exact wpAny_execs_nil q
 | ret v=>exact q
 | brk=>exact q
 | cont=>exact q
theorem Inv.quiet {pins:List (Addr × Obj)} {σ:St} {H:Hp} {s:Shared} (I:Inv X pins σ H s):interactive X.env = false:=by simp [interactive,I.ok.kind]
def tDrop (te:TE):TS:=fun D σ H=>te σ H fun _ H1=>D.nx σ H1
theorem ps_expr (he:PE X e te) (hs:swapsWith e none pos.line X.env = pure false:=by rfl):PS X (.Expr e pos) (tDrop te):=by
 intro pins s σ H D I h
 exact wpAny_Expr_any (thn (he pins s σ H _ I h) fun v s1 ⟨x,H1,I1,r1,q1⟩=>⟨σ,H1,I1,q1⟩) I.quiet hs
def tRet (te:TE):TS:=fun D σ H=>te σ H D.rt
theorem ps_ret (he:PE X e te):PS X (.Return (some e) pos) (tRet te):=by
 intro pins s σ H D I h
 exact wpAny_Return_some (thn (he pins s σ H _ I h) fun v s1 ⟨x,H1,I1,r1,q1⟩=>⟨x,σ,H1,I1,r1,q1⟩)
def tRetN:TS:=fun D _ H=>D.rt .non H
theorem ps_retN:PS X (.Return none pos) tRetN:=fun _ _ σ H _ I h=>wpAny_Return_none ⟨.non,σ,H,I,rfl,h⟩
def tIfS (c:TT) (t u:TS):TS:=fun D σ H=>c σ H fun b H1=>if b = true then t D σ H1 else u D σ H1
theorem ps_if {c:Expr} {a b:List Stmt} {tc:TT} (hc:PT X c tc) (ha:PSs X a t) (hb:PSs X b u):PS X (.If c a b pos) (tIfS tc t u):=by
 intro pins s σ H D I h
 refine wpAny_If (thn (hc pins s σ H _ I h) fun d s1 ⟨H1,I1,q1⟩=>?_)
 cases d with
 | true=>exact ha pins s1 σ H1 D I1 q1
 | false=>exact hb pins s1 σ H1 D I1 q1
end
abbrev TG:=V->St->Hp->(St->Hp->Prop)->Prop
abbrev TGs:=List V->St->Hp->(St->Hp->Prop)->Prop
def PG (X:Cx) (target:Expr) (t:TG):Prop:=
 ∀ (pins:List (Addr × Obj)) (s:Shared) (σ:St) (H:Hp) (v:V) (u:Value) (Q:St->Hp->Prop),Inv X pins σ H s->RelV v u->t v σ H Q →
  wpAny (model X.prog X.w) X.A (assign target X.env u) (fun _ s'=>∃ σ' H',Inv X pins σ' H' s'/\Q σ' H') X.xe s
def PGs (X:Cx) (ts:List Expr) (t:TGs):Prop:=
 ∀ (pins:List (Addr × Obj)) (s:Shared) (σ:St) (H:Hp) (vs:List V) (us:List Value) (Q:St->Hp->Prop),Inv X pins σ H s->Vals vs us->t vs σ H Q →
  wpAny (model X.prog X.w) X.A (assignInOrder ((assignEach ts X.env).map (·.2)) us) (fun _ s'=>∃ σ' H',Inv X pins σ' H' s'/\Q σ' H') X.xe s
section
variable {X:Cx} {pos:Pos}
def gName (i:Nat):TG:=fun v σ H Q=>Q (σ.set i (some v)) H
theorem pg_name {i:Nat} {x:Str} (hN:X.N.Nodup) (hi:X.N[i]? = some x) (hx:Loc X.env.scope x) (hf:X.fn x = true\/X.env.scope.names.lookup x = some .local:=by first | exact .inl rfl | exact .inr rfl | assumption):PG X (.Name x pos) (gName i):=by
 intro pins s σ H v u Q I r h
 exact wpAny_assign_Name (store_ok I hN hi hx r (fun s' I'=>⟨_,H,I',h⟩) hf)
def gNil:TGs:=fun vs σ H Q=>vs = []/\Q σ H
def gCons (t:TG) (u:TGs):TGs:=fun vs σ H Q=>∃ v r,vs = v :: r/\t v σ H fun σ' H'=>u r σ' H' Q
theorem pgs_nil:PGs X [] gNil:=by
 intro pins s σ H vs us Q I r h
 obtain ⟨e,h⟩:=h
 subst e
 cases r
 exact assignInOrder_nil ⟨σ,H,I,h⟩
theorem pgs_cons {e:Expr} {es:List Expr} {t:TG} {u:TGs} (h1:PG X e t) (h2:PGs X es u)
  (hs:(assignEach (e :: es) X.env).map (·.2) = assign e X.env :: (assignEach es X.env).map (·.2):=by rfl):PGs X (e :: es) (gCons t u):=by
 intro pins s σ H vs us Q I r h
 obtain ⟨v,vr,e1,h⟩:=h
 subst e1
 cases r with
 | cons r rr=>
  rw [hs]
  refine assignInOrder_cons (thn (h1 pins s σ H _ _ _ I r h) fun _ s1 ⟨σ1,H1,I1,q1⟩=>?_)
  exact h2 pins s1 σ1 H1 _ _ Q I1 rr q1
def gTup (K:PySem.W.Frag) (n:Nat) (t:TGs):TG:=fun v σ H Q=>∃ a xs,v = .ref a/\SqT K H a xs/\xs.length = n/\t xs σ H Q
theorem pg_tup {es:List Expr} {k:Nat} {t:TGs} {n:Nat} (hc:X.calm = true) (h:PGs X es t)
  (hn:(assignEach es X.env).length = n:=by rfl) (hst:(assignEach es X.env).findIdx? (·.1) = none:=by rfl):PG X (.Tuple es k pos) (gTup X.K n t):=by
 intro pins s σ H v u Q I r hw
 obtain ⟨a,xs,e1,hq,hl,hw⟩:=hw
 subst e1
 cases r
 obtain ⟨its,rv,ht,hz⟩:=I.tuple hq
 refine assign_Tuple_tuple (I.ok.hd hc) ht (by simp [hn,← hl,rv.length]) hst fun h' hx=>?_
 have I1:Inv X pins σ H { s with heap:=h' }:=I.kept (t':=s.toks) fun b o e=>hx b o (Nat.ne_of_lt (Heap.lt_size e)) e
 exact h pins _ σ H xs _ Q I1 (by simpa using rv) hw
def tAsg (te:TE) (g:TG):TS:=fun D σ H=>te σ H fun x H1=>g x σ H1 D.nx
theorem ps_asg {tg e:Expr} {te:TE} {g:TG} (he:PE X e te) (hg:PG X tg g) (hs:swapsWithSole [tg] e pos.line X.env = pure false:=by rfl) (hw:swappedStores [tg] e X.env = pure none:=by rfl)
  (h1:(assignEach [tg] X.env).map (·.2) = [assign tg X.env]:=by rfl):PS X (.Assign [tg] e pos) (tAsg te g):=by
 intro pins s σ H D I h
 refine wpAny_Assign_stores (thn (he pins s σ H _ I h) fun v s1 ⟨x,H1,I1,r1,q1⟩=>?_) hs hw
 rw [h1]
 exact thn (hg pins s1 σ H1 x v _ I1 r1 q1) fun _ s2 q=>q
theorem ps_set {i:Nat} {x:Str} {e:Expr} {te:TE} {pos':Pos} (hN:X.N.Nodup) (hi:X.N[i]? = some x) (hx:Loc X.env.scope x) (he:PE X e te) (hs:swapsWith e (some (.Name x pos')) pos.line X.env = pure false:=by rfl) (hf:X.fn x = true\/X.env.scope.names.lookup x = some .local:=by first | exact .inl rfl | exact .inr rfl | assumption) :
  PS X (.Assign [.Name x pos'] e pos) (tAsg te (gName i)):=by
 intro pins s σ H D I h
 refine wpAny_Assign_Name (thn (he pins s σ H _ I h) fun v s1 ⟨y,H1,I1,r1,q1⟩=>?_) hs
 exact store_ok I1 hN hi hx r1 (fun s2 I2=>⟨_,H1,I2,q1⟩) hf
def tPar (i j:Nat) (ta:TA):TS:=fun D σ H=>ta σ H fun vs H1=>∃ v w,vs = [v,w]/\D.nx ((σ.set i (some v)).set j (some w)) H1
theorem ps_par {i j:Nat} {x y:Str} {a b:Expr} {ta:TA} {px py pt:Pos} {kt k2 pt2} (hc:X.calm = true) (hN:X.N.Nodup) (hi:X.N[i]? = some x) (hj:X.N[j]? = some y) (hij:i ≠ j)
  (hx:X.env.scope.names.lookup x = some .local) (hy:X.env.scope.names.lookup y = some .local) (ha:PA X [a,b] ta)
  (hw:swappedStores [.Tuple [.Name x px,.Name y py] kt pt] (.Tuple [a,b] k2 pt2) X.env = pure (some [x,y]))
  (hs:swapsWithSole [.Tuple [.Name x px,.Name y py] kt pt] (.Tuple [a,b] k2 pt2) pos.line X.env = pure false:=by rfl) :
  PS X (.Assign [.Tuple [.Name x px,.Name y py] kt pt] (.Tuple [a,b] k2 pt2) pos) (tPar i j ta):=by
 intro pins s σ H D I h
 rw [exec_Assign_arm]
 refine wpAny_bind (wpAny_standAt ?_)
 rw [hs]
 refine wpAny_bind (wpAny_pure ?_)
 rw [if_neg (by decide)]
 refine wpAny_bind (Tuple_ (thn (ha _ pins s σ H _ I h) fun us s1 ⟨vs,H1,I1,r1,q1⟩=>?_))
 obtain ⟨v,w,e1,q1⟩:=q1
 subst e1
 obtain ⟨u1,u2,rfl,rv,rw'⟩:∃ u1 u2,us = [u1,u2]/\RelV v u1/\RelV w u2:=by
  cases r1 with
  | cons p q=>
   cases q with
   | cons p' q'=>
    cases q'
    exact ⟨_,_,rfl,p,p'⟩
 refine wpAny_newObj_type ?_ (by show 2 ≤ sizeLine;decide)
 have I2:Inv X pins σ H1 { s1 with heap:=s1.heap.push { cls:=.type "tuple",data:=.seq [u1,u2].toArray } }:=I1.kept (t':=s1.toks) fun b o e=>Heap.get?_push_of_some _ e
 rw [hw]
 refine wpAny_bind (wpAny_pure ?_)
 show wpAny (model X.prog X.w) X.A (do rule "assign.swapped-stores";let items ← unpackItems (.ref s1.heap.objs.size) 2 none;assignInOrder [fun v=>bindName X.env y v,fun v=>bindName X.env x v] items.reverse;pure Flow.next) _ _ _
 refine wpAny_bind (wpAny_rule (wpAny_bind (unpackItems_tuple (items:=#[u1,u2]) (I.ok.hd hc) (IsTup.new s1.heap _) fun h' hx'=>?_)))
 have I3:=I2.kept (h':=h') (t':=s1.toks) fun b o e=>hx' b o (Nat.ne_of_lt (Heap.lt_size e)) e
 show wpAny _ _ (assignInOrder [fun v=>bindName X.env y v,fun v=>bindName X.env x v] [u2,u1] >>= fun _=>pure Flow.next) _ _ _
 refine wpAny_bind (assignInOrder_cons (wpAny_bindName (store_ok I3 hN hj (.inl hy) rw' (fun s2 I4=>?_) (.inr hy))))
 refine assignInOrder_cons (wpAny_bindName (store_ok I4 hN hi (.inl hx) rv (fun s3 I5=>assignInOrder_nil (wpAny_pure ?_)) (.inr hx)))
 rw [List.set_comm _ _ (Ne.symm hij)] at I5
 exact ⟨_,H1,I5,q1⟩
end
section
variable {X:Cx} {pos:Pos}
def tWhile (c:TT) (tb:TS):TS:=fun D σ H=>∃ W:Nat->St->Hp->Prop,(∃ m,W m σ H)/\∀ m σ H,W m σ H →
 c σ H fun b H1=>if b = true then ∃ N:St->Hp->Prop,(∀ σ' H',N σ' H'->∃ m',m' < m/\W m' σ' H')/\tb { D with nx:=N,ct:=N,bk:=D.nx } σ H1 else D.nx σ H1
theorem ps_while {c:Expr} {body:List Stmt} {tc:TT} {tb:TS} (hp:PassesOwn (model X.prog X.w) X.A X.env X.xe) (hc:PT X c tc) (hb:PSs X body tb):PS X (.While c body [] pos) (tWhile tc tb):=by
 intro pins s σ H D I h
 obtain ⟨W,⟨m0,w0⟩,turn⟩:=h
 refine wpAny_While (codeAny_whileLoop (fun n s'=>∃ σ' H',Inv X pins σ' H' s'/\W n σ' H') ?_ m0 ⟨σ,H,I,w0⟩)
 rintro n s1 ⟨σ1,H1,I1,w1⟩
 refine wpAny_passesOwn hp (thn (hc pins s1 σ1 H1 _ I1 (turn n σ1 H1 w1)) fun b s2 ⟨H2,I2,q2⟩=>?_)
 cases b with
 | true=>
  obtain ⟨N,hN,q2⟩:=q2
  rw [if_pos rfl]
  refine wpAny_passesOwn hp (thn (hb pins s2 σ1 H2 _ I2 q2) fun f s3 q3=>?_)
  cases f with
  | next=>
   obtain ⟨σ3,H3,I3,n3⟩:=q3
   obtain ⟨m',hm,w3⟩:=hN σ3 H3 n3
   exact ⟨m',hm,σ3,H3,I3,w3⟩
  | cont=>
   obtain ⟨σ3,H3,I3,n3⟩:=q3
   obtain ⟨m',hm,w3⟩:=hN σ3 H3 n3
   exact ⟨m',hm,σ3,H3,I3,w3⟩
  | brk=>exact q3
  | ret v=>exact q3
 | false=>
  rw [if_neg Bool.false_ne_true]
  exact wpAny_execs_nil ⟨σ1,H2,I2,q2⟩
end
structure It where
 go:Nat->Hp->Prop
 yld:Nat->Hp->V->Hp->Prop
 stop:Nat->Hp->Prop
def FpOk (X:Cx) (pins:List (Addr × Obj)) (H:Hp) (b:Addr):Prop:=
 H b = none/\b ≠ X.env.locals/\b ∉ X.fs/\(b ∈ X.ex\/X.s₀.heap.objs.size ≤ b)/\(∀ x c,X.env.cells.lookup x = some c->c ≠ b)/\∀ p ∈ X.pn ++ pins,p.1 ≠ b
theorem Inv.fpOk {X:Cx} {pins:List (Addr × Obj)} {σ:St} {H H':Hp} {s:Shared} {b:Addr} (I:Inv X pins σ H s) (hb:s.heap.objs.size ≤ b) (hn:H' b = none):FpOk X pins H' b:=by
 refine ⟨hn,Nat.ne_of_gt (Nat.lt_of_lt_of_le I.lt hb),I.nofs hb,.inr (Nat.le_trans I.sz hb),fun x c e z=>?_,fun p hp z=>?_⟩
 ·obtain ⟨v,q⟩:=I.cell x c e
  exact absurd (Nat.lt_of_lt_of_le q.lt (by rw [z];exact hb)) (Nat.lt_irrefl _)
 ·exact absurd (Nat.lt_of_lt_of_le (Heap.lt_size (I.pin p hp).1) (by rw [z];exact hb)) (Nat.lt_irrefl _)
structure Turn (P:Program) (w:World) (K:PySem.W.Frag) (tg:Expr) (J:It) (fp:List Addr) (it:Addr) (tn:Nat->Heap->Prop):Prop where
 mem:it ∈ fp
 obj:∀ i h,tn i h->∀ b ∈ fp,∃ o,h.get? b = some o/\∀ v,o.data ≠ .cell v
 keep:∀ i h h',tn i h->(∀ b ∈ fp,∀ o,h.get? b = some o->h'.get? b = some o)->tn i h'
 item:∀ (X:Cx),X.prog = P->X.w = w->X.K = K->X.calm = true->∀ (i:Nat) (pins:List (Addr × Obj)) (s:Shared) (σ:St) (H:Hp) (E:Value->Shared->Prop),Inv X pins σ H s->(∀ b ∈ fp,FpOk X pins H b)->tn i s.heap->J.go i H →
  wpAny (model P w) X.A (pyNext (.ref it)) (fun r s1=>∃ u,r = some u ∧
   wpAny (model P w) X.A (letOwnedTupleGo tg (.ref it) u) (fun _ s2=>∃ x H',Inv X pins σ H' s2/\RelV x u/\J.yld i H x H'/\tn (i + 1) s2.heap/\∀ b ∈ fp,H' b = none) E s1) E s
 done:∀ (X:Cx),X.prog = P->X.w = w->X.K = K->X.calm = true->∀ (i:Nat) (pins:List (Addr × Obj)) (s:Shared) (σ:St) (H:Hp) (E:Value->Shared->Prop),Inv X pins σ H s->(∀ b ∈ fp,FpOk X pins H b)->tn i s.heap->J.stop i H →
  wpAny (model P w) X.A (pyNext (.ref it)) (fun r s1=>r = none/\Inv X pins σ H s1) E s
 self:∀ (A:Around) (i:Nat) (s:Shared) (Q:Value->Shared->Prop) (E:Value->Shared->Prop),tn i s.heap->Q (.ref it) s->wpAny (model P w) A (pyIter (.ref it)) Q E s
abbrev TI:=St->Hp->(It->Hp->Prop)->Prop
def PIE (X:Cx) (pins:List (Addr × Obj)) (σ:St) (tg:Expr) (R:It->Hp->Prop) (itv:Value) (s2:Shared):Prop:=
 ∃ (it:Addr) (fp:List Addr) (tn:Nat->Heap->Prop) (J:It) (H':Hp),itv = .ref it/\Inv X pins σ H' s2/\Turn X.prog X.w X.K tg J fp it tn/\tn 0 s2.heap/\(∀ b ∈ fp,FpOk X pins H' b)/\R J H'
def PI (X:Cx) (tg iter:Expr) (wi:TI):Prop:=
 ∀ (pins:List (Addr × Obj)) (s:Shared) (σ:St) (H:Hp) (R:It->Hp->Prop),Inv X pins σ H s->wi σ H R →
  wpAny (model X.prog X.w) X.A (eval iter X.env) (fun v s1=>wpAny (model X.prog X.w) X.A (pyIter v) (PIE X pins σ tg R) X.xe s1) X.xe s
theorem go_of {M:Model} {A:Around} {E:Value->Shared->Prop} {s:Shared} {tg:Expr} {it:Addr} {u:Value} {o:Obj} {n:String} {vs:Array Value} {Q:Unit->Shared->Prop} (ho:s.heap.get? it = some o) (hc:o.cls = .type n) (hd:o.data = .fields vs)
  (hn:["enumerate","zip","dict_itemiterator","dict_reverseitemiterator","odict_iterator","itertools.zip_longest","itertools.pairwise"].contains n = false) (hQ:Q () s):wpAny M A (letOwnedTupleGo tg (.ref it) u) Q E s:=by
 unfold letOwnedTupleGo
 cases tg <;> first
  | exact wpAny_pure hQ
  | (cases u <;> first
    | exact wpAny_pure hQ
    | (refine wpAny_bind (wpAny_load ho ?_)
       rw [hc,hd]
       show wpAny M A (if (["enumerate","zip","dict_itemiterator","dict_reverseitemiterator","odict_iterator","itertools.zip_longest","itertools.pairwise"].contains n && vs[0]? == some (rawInt _)) = true then _ else _) Q E s
       rw [if_neg (by intro h;rw [hn,Bool.false_and] at h;cases h)]
       exact wpAny_pure hQ))
def Itl (K:PySem.W.Frag) (a:Addr):It:=
 ⟨fun i H=>∃ xs x,SqL K H a xs/\xs[i]? = some x,fun i H x H'=>H' = H/\∀ xs,SqL K H a xs->xs[i]? = some x,fun i H=>∃ xs,SqL K H a xs/\xs.length ≤ i⟩
def Itt (K:PySem.W.Frag) (a:Addr):It:=
 ⟨fun i H=>∃ xs x,SqT K H a xs/\xs[i]? = some x,fun i H x H'=>H' = H/\∀ xs,SqT K H a xs->xs[i]? = some x,fun i H=>∃ xs,SqT K H a xs/\xs.length ≤ i⟩
def Itr (lo:Int) (n:Nat):It:=⟨fun i _=>i < n,fun i H x H'=>H' = H/\x = .int (lo + i),fun i _=>n ≤ i⟩
theorem turn_list {P:Program} {w:World} {K:PySem.W.Frag} {tg:Expr} (a it:Addr):Turn P w K tg (Itl K a) [it] it (fun i h=>h.IsListIter it a i) where
 mem:=by simp
 obj:=fun i h st b hb=>by
  have e:b = it:=by simpa using hb
  subst e
  obtain ⟨o,e,c,d⟩:=st
  exact ⟨o,e,fun v z=>by rw [d] at z;cases z⟩
 keep:=fun i h h' st k=>st.at fun o e=>k it (by simp) o e
 item:=by
  intro X hP hw hK hc i pins s σ H E I hf st hg
  subst hP hw hK
  obtain ⟨xs,x,hq,hx⟩:=hg
  obtain ⟨its,rv,p,hz⟩:=I.list hq
  obtain ⟨u,hu,ru⟩:=rv.get hx
  obtain ⟨f0,f1,f2,f3,f4,f5⟩:=hf it (by simp)
  refine wpAny_pyNext_list_item st p.isList (x:=u) (by simpa using hu) fun h' st' sb=>?_
  have I1:Inv X pins σ H { s with heap:=h' }:=I.turned (t':=s.toks) (fun b o hb e=>(sb.2 b hb).trans e) f0 f1 f3 f4 f5
  obtain ⟨o,e,c,d⟩:=id st'
  exact ⟨u,rfl,go_of (s:={ s with heap:=h' }) e c d (by decide) ⟨x,H,I1,ru,⟨rfl,fun ys hy=>by rw [I.list_inj hy hq];exact hx⟩,st',fun b hb=>(hf b hb).1⟩⟩
 done:=by
  intro X hP hw hK hc i pins s σ H E I hf st hg
  subst hP hw hK
  obtain ⟨xs,hq,hx⟩:=hg
  obtain ⟨its,rv,p,hz⟩:=I.list hq
  obtain ⟨f0,f1,f2,f3,f4,f5⟩:=hf it (by simp)
  have hl:=rv.length
  exact wpAny_pyNext_list_end (I.ok.hd hc) st p.isList (by simp;omega) fun h' eb=>⟨rfl,I.turned (t':=s.toks) (fun b o hb e=>eb b o hb e) f0 f1 f3 f4 f5⟩
 self:=fun _ _ _ _ _ st h=>wpAny_pyIter_listiter st h
theorem turn_tuple {P:Program} {w:World} {K:PySem.W.Frag} {tg:Expr} (a it:Addr):Turn P w K tg (Itt K a) [it] it (fun i h=>h.IsTupleIter it a i) where
 mem:=by simp
 obj:=fun i h st b hb=>by
  have e:b = it:=by simpa using hb
  subst e
  obtain ⟨o,e,c,d⟩:=st
  exact ⟨o,e,fun v z=>by rw [d] at z;cases z⟩
 keep:=fun i h h' st k=>st.at fun o e=>k it (by simp) o e
 item:=by
  intro X hP hw hK hc i pins s σ H E I hf st hg
  subst hP hw hK
  obtain ⟨xs,x,hq,hx⟩:=hg
  obtain ⟨its,rv,p,hz⟩:=I.tuple hq
  obtain ⟨u,hu,ru⟩:=rv.get hx
  obtain ⟨f0,f1,f2,f3,f4,f5⟩:=hf it (by simp)
  refine wpAny_pyNext_tuple_item st (show s.heap.IsTuple a its.toArray from p) (x:=u) (by simpa using hu) fun h' st' sb=>?_
  have I1:Inv X pins σ H { s with heap:=h' }:=I.turned (t':=s.toks) (fun b o hb e=>(sb.2 b hb).trans e) f0 f1 f3 f4 f5
  obtain ⟨o,e,c,d⟩:=id st'
  exact ⟨u,rfl,go_of (s:={ s with heap:=h' }) e c d (by decide) ⟨x,H,I1,ru,⟨rfl,fun ys hy=>by rw [I.tuple_inj hy hq];exact hx⟩,st',fun b hb=>(hf b hb).1⟩⟩
 done:=by
  intro X hP hw hK hc i pins s σ H E I hf st hg
  subst hP hw hK
  obtain ⟨xs,hq,hx⟩:=hg
  obtain ⟨its,rv,p,hz⟩:=I.tuple hq
  obtain ⟨f0,f1,f2,f3,f4,f5⟩:=hf it (by simp)
  have hl:=rv.length
  exact wpAny_pyNext_tuple_end (I.ok.hd hc) st (show s.heap.IsTuple a its.toArray from p) (by simp;omega) fun h' eb=>⟨rfl,I.turned (t':=s.toks) (fun b o hb e=>eb b o hb e) f0 f1 f3 f4 f5⟩
 self:=fun _ _ _ _ _ st h=>wpAny_pyIter_tupleiter st h
theorem turn_range {P:Program} {w:World} {K:PySem.W.Frag} {tg:Expr} (it:Addr) (lo:Int) (n:Nat):Turn P w K tg (Itr lo n) [it] it (fun i h=>IsRangeIter h it (lo + (i:Nat) * 1) ((n:Int) - (i:Nat)) 1) where
 mem:=by simp
 obj:=fun i h st b hb=>by
  have e:b = it:=by simpa using hb
  subst e
  exact ⟨_,st,fun v z=>by
   have z':Data.fields _ = Data.cell v:=z
   cases z'⟩
 keep:=fun i h h' st k=>k it (by simp) _ st
 item:=by
  intro X hP hw hK hc i pins s σ H E I hf st hg
  subst hP hw hK
  obtain ⟨f0,f1,f2,f3,f4,f5⟩:=hf it (by simp)
  have W:=Walks.range (prog:=X.prog) (w:=X.w) (I.ok.hd hc) it lo 1 n
  refine W.item i s _ _ hg st fun v h' tk hv st' kk=>?_
  obtain ⟨t,rfl⟩:=hv
  have I1:Inv X pins σ H { s with heap:=h',toks:=tk }:=I.turned (fun b o hb e=>kk b o (by simpa using hb) e) f0 f1 f3 f4 f5
  refine ⟨_,rfl,go_of (s:={ s with heap:=h',toks:=tk }) (n:="range_iterator") st' rfl rfl (by decide) ⟨.int (lo + i),H,I1,⟨t,?_⟩,⟨rfl,rfl⟩,st',fun b hb=>(hf b hb).1⟩⟩
  rw [Int.mul_one]
 done:=by
  intro X hP hw hK hc i pins s σ H E I hf st hg
  subst hP hw hK
  obtain ⟨f0,f1,f2,f3,f4,f5⟩:=hf it (by simp)
  exact wpAny_pyNext_range_end (I.ok.hd hc) st (by have:n ≤ i:=hg;omega) fun h' eb=>⟨rfl,I.turned (t':=s.toks) (fun b o hb e=>eb b o hb e) f0 f1 f3 f4 f5⟩
 self:=fun _ _ _ _ _ st h=>wpAny_pyIter_rangeiter st h
end L2
namespace L2
open PySem PySem.Spec PyProof.Rows
section
variable {X:Cx} {tg:Expr}
def iList (K:PySem.W.Frag) (tl:TE):TI:=fun σ H R=>tl σ H fun x H1=>∃ a,x = .ref a/\(∃ xs,SqL K H1 a xs)/\R (Itl K a) H1
def iTup (K:PySem.W.Frag) (tl:TE):TI:=fun σ H R=>tl σ H fun x H1=>∃ a,x = .ref a/\(∃ xs,SqT K H1 a xs)/\R (Itt K a) H1
theorem pi_list {l:Expr} {tl:TE} (hl:PE X l tl):PI X tg l (iList X.K tl):=by
 intro pins s σ H R I h
 refine thn (hl pins s σ H _ I h) fun v s1 ⟨x,H1,I1,r1,q1⟩=>?_
 obtain ⟨a,e,⟨xs,hq⟩,q⟩:=q1
 subst e
 cases r1
 obtain ⟨its,rv,p,hz⟩:=I1.list hq
 refine wpAny_pyIter_list p.isList ?_
 refine ⟨s1.heap.objs.size,[s1.heap.objs.size],_,_,H1,rfl,I1.kept (t':=s1.toks) fun b o e=>Heap.get?_push_of_some _ e,turn_list a _,⟨_,Heap.get?_push_size _ rfl,rfl,rfl⟩,fun b hb=>?_,q⟩
 have e:b = s1.heap.objs.size:=by simpa using hb
 subst e
 exact I1.fpOk (Nat.le_refl _) (I1.hok.fresh (Nat.le_refl _))
theorem pi_tup {l:Expr} {tl:TE} (hl:PE X l tl):PI X tg l (iTup X.K tl):=by
 intro pins s σ H R I h
 refine thn (hl pins s σ H _ I h) fun v s1 ⟨x,H1,I1,r1,q1⟩=>?_
 obtain ⟨a,e,⟨xs,hq⟩,q⟩:=q1
 subst e
 cases r1
 obtain ⟨its,rv,p,hz⟩:=I1.tuple hq
 refine wpAny_pyIter_tuple (show s1.heap.IsTuple a its.toArray from p) ?_
 refine ⟨s1.heap.objs.size,[s1.heap.objs.size],_,_,H1,rfl,I1.kept (t':=s1.toks) fun b o e=>Heap.get?_push_of_some _ e,turn_tuple a _,⟨_,Heap.get?_push_size _ rfl,rfl,rfl⟩,fun b hb=>?_,q⟩
 have e:b = s1.heap.objs.size:=by simpa using hb
 subst e
 exact I1.fpOk (Nat.le_refl _) (I1.hok.fresh (Nat.le_refl _))
theorem range_it {pins:List (Addr × Obj)} {σ:St} {H:Hp} {s:Shared} {R:It->Hp->Prop} {E:Value->Shared->Prop} {lo hi:Int} {t u v:Tok} {tk:Nat} (I:Inv X pins σ H s) (h1:-(2 ^ 62) ≤ lo) (h2:lo < 2 ^ 62) (h3:-(2 ^ 62) ≤ hi) (h4:hi < 2 ^ 62)
  (q:R (Itr lo (hi - lo).toNat) H):wpAny (model X.prog X.w) X.A (pyIter (.ref s.heap.objs.size)) (PIE X pins σ tg R) E { s with heap:=s.heap.push { cls:=.type "range",data:=.fields #[.int lo t,.int hi u,.int 1 v] },toks:=tk }:=by
 refine wpAny_pyIter_range (IsRange.new ..) (small_one h1 h2 h3 h4) ?_
 have I1:Inv X pins σ H { s with heap:=s.heap.push { cls:=.type "range",data:=.fields #[.int lo t,.int hi u,.int 1 v] },toks:=tk }:=I.kept fun b o e=>Heap.get?_push_of_some _ e
 refine ⟨(s.heap.push { cls:=.type "range",data:=.fields #[.int lo t,.int hi u,.int 1 v] }).objs.size,[(s.heap.push { cls:=.type "range",data:=.fields #[.int lo t,.int hi u,.int 1 v] }).objs.size],_,_,H,rfl,
  I1.kept (t':=tk) fun b o e=>Heap.get?_push_of_some _ e,turn_range _ lo (hi - lo).toNat,?_,fun b hb=>?_,q⟩
 ·have e1:lo + ((0:Nat):Int) * 1 = lo:=by simp
  have e2:(((hi - lo).toNat:Nat):Int) - ((0:Nat):Int) = Builtin.Range.rangeSize lo hi 1:=by rw [rangeSize_one];split <;> omega
  show IsRangeIter _ _ (lo + ((0:Nat):Int) * 1) ((((hi - lo).toNat:Nat):Int) - ((0:Nat):Int)) 1
  rw [e1,e2]
  exact Heap.get?_push_size _ rfl
 ·have e:b = (s.heap.push { cls:=.type "range",data:=.fields #[.int lo t,.int hi u,.int 1 v] }).objs.size:=by simpa using hb
  subst e
  exact I1.fpOk (Nat.le_refl _) (I1.hok.fresh (Nat.le_refl _))
def iRng1 (ta:TA):TI:=fun σ H R=>ta σ H fun vs H1=>∃ j:Int,vs = [.int j]/\-(2 ^ 62) ≤ j/\j < 2 ^ 62/\R (Itr 0 j.toNat) H1
theorem pi_range1 {a:Expr} {ta:TA} {p pos:Pos} (hg:Gl X "range") (hm:X.mg "range" = none) (ha:PA X [a] ta) (hs:starEach [a] X.env = [(false,eval a X.env)]:=by rfl):PI X tg (.Call (.Name "range" p) [a] [] pos) (iRng1 ta):=by
 intro pins s σ H R I h
 refine Call_ (ld_blt I hg hm boot_range (PyProof.Rows.callWith_type1 (thn (ha pos pins s σ H _ I h) fun us s1 ⟨vs,H1,I1,r1,q1⟩=>?_) hs rfl))
 obtain ⟨j,e,q1,q2,q⟩:=q1
 subst e
 cases r1 with
 | cons r rr=>
  cases rr
  obtain ⟨t,rfl⟩:=r
  exact call_range_1 (range_it I1 (by omega) (by omega) q1 q2 (by simpa using q))
def tFor (wi:TI) (g:TG) (tb:TS):TS:=fun D σ H=>wi σ H fun J H1=>∃ W:Nat->Nat->St->Hp->Prop,(∃ m,W 0 m σ H1)/\∀ i m σ H,W i m σ H →
 (J.stop i H/\D.nx σ H)\/(J.go i H/\∃ N:St->Hp->Prop,(∀ σ' H',N σ' H'->∃ m',m' < m/\W (i + 1) m' σ' H')/\∀ x H',J.yld i H x H'->g x σ H' fun σ2 H2=>tb { D with nx:=N,ct:=N,bk:=D.nx } σ2 H2)
def pinsAt (fp:List Addr) (h:Heap):List (Addr × Obj):=fp.filterMap fun b=>(h.get? b).map fun o=>(b,o)
theorem mem_pinsAt {fp:List Addr} {h:Heap} {b:Addr} {o:Obj} (hb:b ∈ fp) (e:h.get? b = some o):(b,o) ∈ pinsAt fp h:=List.mem_filterMap.mpr ⟨b,hb,by rw [e];rfl⟩
theorem of_pinsAt {fp:List Addr} {h:Heap} {p:Addr × Obj} (hp:p ∈ pinsAt fp h):p.1 ∈ fp/\h.get? p.1 = some p.2:=by
 obtain ⟨b,hb,e⟩:=List.mem_filterMap.mp hp
 cases q:h.get? b with
 | none=>rw [q] at e;cases e
 | some o=>
  rw [q] at e
  have e':(b,o) = p:=Option.some.inj e
  subst e'
  exact ⟨hb,q⟩
theorem Inv.pinned {pins:List (Addr × Obj)} {σ:St} {H:Hp} {s:Shared} {fp:List Addr} (I:Inv X pins σ H s) (hf:∀ b ∈ fp,FpOk X pins H b) (ho:∀ b ∈ fp,∃ o,s.heap.get? b = some o/\∀ v,o.data ≠ .cell v):Inv X (pins ++ pinsAt fp s.heap) σ H s:=
 I.pins_of fun p hp=>(List.mem_append.mp hp).elim (fun z=>I.pin p (List.mem_append_right _ z)) fun z=>by
  obtain ⟨hb,e⟩:=of_pinsAt z
  obtain ⟨f0,f1,f2,_⟩:=hf p.1 hb
  obtain ⟨o,e',d⟩:=ho p.1 hb
  rw [e] at e';cases e'
  exact ⟨e,f0,f1,f2,d⟩
theorem Inv.unpinned {pins pl:List (Addr × Obj)} {σ:St} {H:Hp} {s:Shared} (I:Inv X (pins ++ pl) σ H s):Inv X pins σ H s:=I.pins_of fun p hp=>I.pin p (List.mem_append_right _ (List.mem_append_left _ hp))
theorem ps_for {iter:Expr} {body:List Stmt} {wi:TI} {g:TG} {tb:TS} {pos:Pos} (hp:PassesOwn (model X.prog X.w) X.A X.env X.xe) (hc:X.calm = true) (hi:PI X tg iter wi) (hg:PG X tg g) (hb:PSs X body tb)
  (hs:∀ x,foldedSetIterable iter X.env x = pure x:=by intro _;rfl):PS X (.For tg iter body [] pos) (tFor wi g tb):=by
 intro pins s σ H D I h
 refine wpAny_For (thn (hi pins s σ H _ I h) fun v s1 h1=>thn h1 fun itv s2 h2=>?_) hs
 obtain ⟨it,fp,tn,J,H2,e,I2,T,st2,f2,W,⟨m0,w0⟩,turn⟩:=h2
 subst e
 have stat:∀ {H':Hp},(∀ b ∈ fp,H' b = none)->∀ b ∈ fp,FpOk X pins H' b:=fun hn b hb=>⟨hn b hb,(f2 b hb).2⟩
 refine codeAny_forLoop_any (fun n s'=>∃ i σ' H',Inv X pins σ' H' s'/\tn i s'.heap/\(∀ b ∈ fp,H' b = none)/\W i n σ' H') ?_ m0 ⟨0,σ,H2,I2,st2,fun b hb=>(f2 b hb).1,w0⟩
 rintro n s3 ⟨i,σ3,H3,I3,st3,fr3,w3⟩
 rcases turn i n σ3 H3 w3 with ⟨stop,qn⟩ | ⟨go,N,hN,step⟩
 ·refine wpAny_passesOwn hp (thn (T.done X rfl rfl rfl hc i pins s3 σ3 H3 X.xe I3 (stat fr3) st3 stop) fun r s4 ⟨hr,I4⟩=>?_)
  subst hr
  exact wpAny_execs_nil ⟨σ3,H3,I4,qn⟩
 ·refine wpAny_passesOwn hp (thn (T.item X rfl rfl rfl hc i pins s3 σ3 H3 X.xe I3 (stat fr3) st3 go) fun r s4 ⟨u,hr,h4⟩=>?_)
  subst hr
  refine wpAny_passesOwn hp (thn h4 fun _ s5 ⟨x,H5,I5,r5,y5,st5,fr5⟩=>?_)
  have I5':=I5.pinned (stat fr5) (T.obj _ _ st5)
  refine wpAny_passesOwn hp (thn (hg _ s5 σ3 H5 x u _ I5' r5 (step x H5 y5)) fun _ s6 ⟨σ6,H6,I6,q6⟩=>?_)
  refine wpAny_passesOwn hp (thn (hb _ s6 σ6 H6 _ I6 q6) fun f s7 q7=>?_)
  have again:∀ {σ7:St} {H7:Hp},Inv X (pins ++ pinsAt fp s5.heap) σ7 H7 s7->N σ7 H7->∃ m,m < n/\∃ i σ' H',Inv X pins σ' H' s7/\tn i s7.heap/\(∀ b ∈ fp,H' b = none)/\W i m σ' H':=fun {σ7 H7} I7 n7=>by
   obtain ⟨m',hm,w7⟩:=hN σ7 H7 n7
   refine ⟨m',hm,i + 1,σ7,H7,I7.unpinned,T.keep _ _ _ st5 fun b hb o e=>(I7.pin (b,o) (List.mem_append_right _ (List.mem_append_right _ (mem_pinsAt hb e)))).1,fun b hb=>?_,w7⟩
   obtain ⟨o,e,d⟩:=T.obj _ _ st5 b hb
   exact (I7.pin (b,o) (List.mem_append_right _ (List.mem_append_right _ (mem_pinsAt hb e)))).2.1
  cases f with
  | next=>obtain ⟨σ7,H7,I7,n7⟩:=q7;exact again I7 n7
  | cont=>obtain ⟨σ7,H7,I7,n7⟩:=q7;exact again I7 n7
  | brk=>obtain ⟨σ7,H7,I7,q7⟩:=q7;exact ⟨σ7,H7,I7.unpinned,q7⟩
  | ret v=>obtain ⟨x7,σ7,H7,I7,r7,q7⟩:=q7;exact ⟨x7,σ7,H7,I7.unpinned,r7,q7⟩
end
end L2
namespace L2
open PySem PySem.Spec PyProof.Rows
abbrev R2:=V->V->Hp->VK->Prop
def OpR (X:Cx) (f:Value->Value->Sem Value) (r:R2):Prop:=
 ∀ (pins:List (Addr × Obj)) (s:Shared) (σ:St) (H:Hp) (x y:V) (v u:Value) (Q:VK),Inv X pins σ H s->RelV x v->RelV y u->r x y H Q →
  wpAny (model X.prog X.w) X.A (f v u) (EP X pins σ Q) X.xe s
def UnR (X:Cx) (f:Value->Sem Value) (r:V->Hp->VK->Prop):Prop:=
 ∀ (pins:List (Addr × Obj)) (s:Shared) (σ:St) (H:Hp) (x:V) (v:Value) (Q:VK),Inv X pins σ H s->RelV x v->r x H Q →
  wpAny (model X.prog X.w) X.A (f v) (EP X pins σ Q) X.xe s
def CallR (X:Cx) (f:Value) (r:List V->Hp->VK->Prop):Prop:=
 ∀ (pins:List (Addr × Obj)) (s:Shared) (σ:St) (H:Hp) (xs:List V) (us:List Value) (Q:VK),Inv X pins σ H s->Vals xs us->r xs H Q →
  wpAny (model X.prog X.w) X.A (call f us) (EP X pins σ Q) X.xe s
def TruR (X:Cx) (r:V->Hp->(Bool->Hp->Prop)->Prop):Prop:=
 ∀ (pins:List (Addr × Obj)) (s:Shared) (σ:St) (H:Hp) (x:V) (v:Value) (Q:Bool->Hp->Prop),Inv X pins σ H s->RelV x v->r x H Q →
  wpAny (model X.prog X.w) X.A (truthy v) (TP X pins σ Q) X.xe s
def tOp (r:R2) (ta tb:TE):TE:=fun σ H Q=>ta σ H fun x H1=>tb σ H1 fun y H2=>r x y H2 Q
def tUn (r:V->Hp->VK->Prop) (ta:TE):TE:=fun σ H Q=>ta σ H fun x H1=>r x H1 Q
def rI (C:Int->Int->Prop) (g:Int->Int->V):R2:=fun x y H Q=>∃ i j,x = .int i/\y = .int j/\C i j/\Q (g i j) H
def rI0 (g:Int->Int->V):R2:=fun x y H Q=>∃ i j,x = .int i/\y = .int j/\Q (g i j) H
def rU (g:Int->V):V->Hp->VK->Prop:=fun x H Q=>∃ i,x = .int i/\Q (g i) H
section
variable {X:Cx} {a b c:Expr} {ta tb tc:TE} {pos:Pos}
theorem binT (ha:PE X a ta) (hb:PE X b tb) {pins:List (Addr × Obj)} {s:Shared} {σ:St} {H:Hp} {R:V->V->Hp->Prop} (I:Inv X pins σ H s)
  (h:ta σ H fun x H1=>tb σ H1 fun y H2=>R x y H2) {Q:Value->Shared->Prop} {f:Value->Value->Sem Value}
  (hf:∀ v u s2 x y H2,Inv X pins σ H2 s2->RelV x v->RelV y u->R x y H2->wpAny (model X.prog X.w) X.A (f v u) Q X.xe s2) :
  wpAny (model X.prog X.w) X.A (eval a X.env) (fun v s₁=>wpAny (model X.prog X.w) X.A (eval b X.env) (fun u s₂=>wpAny (model X.prog X.w) X.A (f v u) Q X.xe s₂) X.xe s₁) X.xe s:=by
 refine thn (ha pins s σ H _ I h) fun v s1 ⟨x,H1,I1,r1,q1⟩=>?_
 refine thn (hb pins s1 σ H1 _ I1 q1) fun u s2 ⟨y,H2,I2,r2,q2⟩=>?_
 exact hf v u s2 x y H2 I2 r1 r2 q2
theorem pe_op {op:Operator} {r:R2} (ho:OpR X (binaryOp op) r) (ha:PE X a ta) (hb:PE X b tb):PE X (.BinOp a op b pos) (tOp r ta tb):=by
 intro pins s σ H Q I h
 exact wpAny_BinOp (binT ha hb I h fun v u s2 x y H2 I2 rx ry q=>ho pins s2 σ H2 x y v u Q I2 rx ry q)
theorem pe_un {op:UnaryOp} {r:V->Hp->VK->Prop} (ho:UnR X (unaryOp op) r) (ha:PE X a ta):PE X (.UnaryOp op a pos) (tUn r ta):=by
 intro pins s σ H Q I h
 exact UnaryOp_ (thn (ha pins s σ H _ I h) fun v s1 ⟨x,H1,I1,r1,q1⟩=>ho pins s1 σ H1 x v Q I1 r1 q1)
theorem opI {f:Value->Value->Sem Value} {C:Int->Int->Prop} {g:Int->Int->Int}
  (rule:∀ (i j:Int) (t u:Tok) (s:Shared) (Q:Value->Shared->Prop) (E:Value->Shared->Prop),C i j->Q (.int (g i j) s.toks) { s with toks:=s.toks + 1 }->wpAny (model X.prog X.w) X.A (f (.int i t) (.int j u)) Q E s) :
  OpR X f (rI C fun i j=>.int (g i j)):=by
 intro pins s σ H x y v u Q I rx ry h
 obtain ⟨i,j,rfl,rfl,hc,q⟩:=h
 obtain ⟨t,rfl⟩:=rx
 obtain ⟨t',rfl⟩:=ry
 exact rule i j t t' s _ _ hc ⟨.int (g i j),H,I.tok _,⟨_,rfl⟩,q⟩
theorem opI0 {f:Value->Value->Sem Value} {g:Int->Int->Int}
  (rule:∀ (i j:Int) (t u:Tok) (s:Shared) (Q:Value->Shared->Prop) (E:Value->Shared->Prop),Q (.int (g i j) s.toks) { s with toks:=s.toks + 1 }->wpAny (model X.prog X.w) X.A (f (.int i t) (.int j u)) Q E s) :
  OpR X f (rI0 fun i j=>.int (g i j)):=by
 intro pins s σ H x y v u Q I rx ry h
 obtain ⟨i,j,rfl,rfl,q⟩:=h
 obtain ⟨t,rfl⟩:=rx
 obtain ⟨t',rfl⟩:=ry
 exact rule i j t t' s _ _ ⟨.int (g i j),H,I.tok _,⟨_,rfl⟩,q⟩
theorem opB0 {f:Value->Value->Sem Value} {g:Int->Int->Bool}
  (rule:∀ (i j:Int) (t u:Tok) (s:Shared) (Q:Value->Shared->Prop) (E:Value->Shared->Prop),Q (.bool (g i j)) s->wpAny (model X.prog X.w) X.A (f (.int i t) (.int j u)) Q E s) :
  OpR X f (rI0 fun i j=>.bl (g i j)):=by
 intro pins s σ H x y v u Q I rx ry h
 obtain ⟨i,j,rfl,rfl,q⟩:=h
 obtain ⟨t,rfl⟩:=rx
 obtain ⟨t',rfl⟩:=ry
 exact rule i j t t' s _ _ ⟨.bl (g i j),H,I,rfl,q⟩
def CDiv (i j:Int):Prop:=0 < j/\j < 1073741824
def CPow (i j:Int):Prop:=0 ≤ j/\j ≤ 1000000/\i.natAbs < 2 ^ 64
def CMul (i j:Int):Prop:=(-(2 ^ 64) < i/\i < 2 ^ 64)\/(-(2 ^ 64) < j/\j < 2 ^ 64)
theorem CMul.ok {i j:Int} (h:CMul i j):IntMulOk i j:=by
 rcases h with ⟨h1,h2⟩ | ⟨h1,h2⟩
 ·exact .of_left (intBits_le_64 h1 h2)
 ·exact .of_right (intBits_le_64 h1 h2)
theorem two_pow_nn (k:Nat):(0:Int) ≤ 2 ^ k:=by
 rw [two_pow_cast]
 exact Int.natCast_nonneg _
theorem op_add:OpR X (binaryOp .Add) (rI0 fun i j=>.int (i + j)):=opI0 fun _ _ _ _ _ _ _ q=>add_int q
theorem op_sub:OpR X (binaryOp .Sub) (rI0 fun i j=>.int (i - j)):=opI0 fun _ _ _ _ _ _ _ q=>sub_int q
theorem op_mul:OpR X (binaryOp .Mult) (rI CMul fun i j=>.int (i * j)):=opI fun _ _ _ _ _ _ _ hc q=>mul_int q hc.ok
theorem op_fdiv:OpR X (binaryOp .FloorDiv) (rI CDiv fun i j=>.int (i / j)):=opI fun i j _ _ _ _ _ hc q=>by
 have h1:(0:Int) < j:=hc.1
 have h2:j < 1073741824:=hc.2
 exact floordiv_int (by omega) (by rw [Int.fdiv_eq_ediv_of_nonneg i (by omega)];exact q) (.inl (PyProof.noPylong_small (by omega)))
theorem op_mod:OpR X (binaryOp .Mod) (rI (fun _ j=>0 < j) fun i j=>.int (i % j)):=opI fun i j _ _ _ _ _ hc q=>by
 have h1:(0:Int) < j:=hc
 exact mod_int' (by omega) (by rw [Int.fmod_eq_emod_of_nonneg i (by omega)];exact q)
theorem op_pow:OpR X (binaryOp .Pow) (rI CPow fun i j=>.int (i ^ j.toNat)):=opI fun _ _ _ _ _ _ _ hc q=>pow_int_small hc.1 hc.2.1 hc.2.2 q
theorem unI {f:Value->Sem Value} {g:Int->Int}
  (rule:∀ (i:Int) (t:Tok) (s:Shared) (Q:Value->Shared->Prop) (E:Value->Shared->Prop),Q (.int (g i) s.toks) { s with toks:=s.toks + 1 }->wpAny (model X.prog X.w) X.A (f (.int i t)) Q E s) :
  UnR X f (rU fun i=>.int (g i)):=by
 intro pins s σ H x v Q I rx h
 obtain ⟨i,rfl,q⟩:=h
 obtain ⟨t,rfl⟩:=rx
 exact rule i t s _ _ ⟨.int (g i),H,I.tok _,⟨_,rfl⟩,q⟩
theorem un_neg:UnR X (unaryOp .USub) (rU fun i=>.int (-i)):=unI fun _ _ _ _ _ q=>neg_int q
end
section
variable {X:Cx} {a b c:Expr} {ta tb tc:TE} {pos:Pos}
theorem fin_bl {pins:List (Addr × Obj)} {σ:St} {H:Hp} {s:Shared} {Q:VK} {k k':Bool} (I:Inv X pins σ H s) (q:Q (.bl k) H) (e:k = k'):EP X pins σ Q (.bool k') s:=by
 subst e
 exact ⟨.bl k,H,I,rfl,q⟩
theorem op_lt:OpR X (compareOp .Lt) (rI0 fun i j=>.bl (decide (i < j))):=opB0 fun _ _ _ _ _ _ _ q=>lt_int q
theorem op_gt:OpR X (compareOp .Gt) (rI0 fun i j=>.bl (decide (j < i))):=opB0 fun _ _ _ _ _ _ _ q=>gt_int q
theorem op_lt_str:OpR X (compareOp .Lt) (fun x y H Q=>∃ i j,x = .str i/\y = .str j/\Q (.bl (decide (i.cps.toList < j.cps.toList))) H):=by
 intro pins s σ H x y v u Q I rx ry h
 obtain ⟨i,j,rfl,rfl,q⟩:=h
 obtain ⟨t,rfl⟩:=rx
 obtain ⟨t',rfl⟩:=ry
 exact lt_str (fin_bl I q rfl)
theorem op_in_str:OpR X (compareOp .In) (fun x y H Q=>∃ i j,x = .str i/\y = .str j/\Q (.bl (!(Builtin.Str.occurrences j i 0 j.length 1).isEmpty)) H):=by
 intro pins s σ H x y v u Q I rx ry h
 obtain ⟨i,j,rfl,rfl,q⟩:=h
 obtain ⟨t,rfl⟩:=rx
 obtain ⟨t',rfl⟩:=ry
 exact in_str (fin_bl I q rfl)
theorem op_notN:OpR X (compareOp .IsNot) (fun x y H Q=>y = .non/\Q (.bl (!decide (x = .non))) H):=by
 intro pins s σ H x y v u Q I rx ry h
 obtain ⟨rfl,q⟩:=h
 cases ry
 refine isnot_none_gen (fin_bl I q ?_)
 cases x <;> first
  | (cases rx;rfl)
  | (obtain ⟨t,rfl⟩:=rx;rfl)
theorem OpR.or {f:Value->Value->Sem Value} {r r':R2} (h:OpR X f r) (h':OpR X f r'):OpR X f (fun x y H Q=>r x y H Q\/r' x y H Q):=by
 intro pins s σ H x y v u Q I rx ry q
 rcases q with q | q
 ·exact h pins s σ H x y v u Q I rx ry q
 ·exact h' pins s σ H x y v u Q I rx ry q
theorem nomark (b:Expr) {op:CmpOp} (h:op ≠ .In:=by decide) (h2:op ≠ .NotIn:=by decide):behindInMarks op b = false:=by
 have e1:(op == CmpOp.In) = false:=by cases op <;> first | rfl | exact absurd rfl h
 have e2:(op == CmpOp.NotIn) = false:=by cases op <;> first | rfl | exact absurd rfl h2
 cases b <;> simp [behindInMarks,e1,e2]
theorem pe_cmpR {op:CmpOp} {r:R2} (ho:OpR X (compareOp op) r) (ha:PE X a ta) (hb:PE X b tb) (hm:behindInMarks op b = false):PE X (.Compare a [op] [b] pos) (tOp r ta tb):=by
 intro pins s σ H Q I h
 exact wpAny_Compare1 (binT ha hb I h fun v u s2 x y H2 I2 rx ry q=>ho pins s2 σ H2 x y v u Q I2 rx ry q) hm
def tTest (t:TE):TT:=fun σ H Q=>t σ H fun x H'=>∃ k,x = .bl k/\Q k H'
theorem pt_cmpR {op:CmpOp} {r:R2} (ho:OpR X (compareOp op) r) (ha:PE X a ta) (hb:PE X b tb) (hm:behindInMarks op b = false):PT X (.Compare a [op] [b] pos) (tTest (tOp r ta tb)):=by
 intro pins s σ H Q I h
 refine wpAny_isTrue_Compare1 (thn (ha pins s σ H _ I h) fun v s1 ⟨x,H1,I1,r1,q1⟩=>thn (hb pins s1 σ H1 _ I1 q1) fun u s2 ⟨y,H2,I2,r2,q2⟩=>
  thn (ho pins s2 σ H2 x y v u _ I2 r1 r2 q2) fun c s3 ⟨z,H3,I3,r3,k,e,q3⟩=>?_) hm
 subst e
 cases r3
 exact wpAny_truthy_bool ⟨H3,I3,q3⟩
def TruV (K:PySem.W.Frag) (x:V) (H:Hp) (k:Bool):Prop:=
 match x with
 | .non=>k = false
 | .bl b=>k = b
 | .int i=>k = (i != 0)
 | .str y=>y.length ≤ sizeLine/\k = ((y.length:Int) != 0)
 | .byt y=>y.size ≤ sizeLine/\k = ((y.size:Int) != 0)
 | .ref p=>(∃ xs,SqL K H p xs/\k = !xs.isEmpty)\/(∃ xs,SqT K H p xs/\k = !xs.isEmpty)\/∃ kvs,H p = some (.dK kvs)/\k = !kvs.isEmpty
 | _=>False
theorem isEmpty_kv {κ:Type} {kvs:List (κ × V)} {vs:List (κ × Value)} (r:KV kvs vs):(!vs.isEmpty) = !kvs.isEmpty:=by
 cases r <;> rfl
theorem isEmpty_of {xs:List V} {its:List Value} (r:Vals xs its):(!its.toArray.isEmpty) = !xs.isEmpty:=by
 cases r <;> simp
theorem line63:(sizeLine:Nat) < 2 ^ 63:=by rw [sizeLine_eq];decide
theorem tru_ok:TruR X (fun x H Q=>∃ k,TruV X.K x H k/\Q k H):=by
 intro pins s σ H x v Q I rx h
 obtain ⟨k,e,q⟩:=h
 have hl:=line63
 have hs:sizeLine = 16777216:=sizeLine_eq
 cases x with
 | non=>
  cases rx
  have e':k = false:=e
  subst e'
  exact truthy_none ⟨H,I,q⟩
 | bl b=>
  cases rx
  have e':k = b:=e
  subst e'
  exact wpAny_truthy_bool ⟨H,I,q⟩
 | int i=>
  obtain ⟨t,rfl⟩:=rx
  have e':k = (i != 0):=e
  subst e'
  exact PySem.P.truthy_int ⟨H,I,q⟩
 | str y=>
  obtain ⟨t,rfl⟩:=rx
  obtain ⟨hy,e'⟩:y.length ≤ sizeLine/\k = ((y.length:Int) != 0):=e
  subst e'
  exact PySem.P.truthy_str (by omega) ⟨H,I.tok _,q⟩
 | byt y=>
  obtain ⟨t,rfl⟩:=rx
  obtain ⟨hy,e'⟩:y.size ≤ sizeLine/\k = ((y.size:Int) != 0):=e
  subst e'
  exact PySem.W.truthy_bytes (by omega) ⟨H,I.tok _,q⟩
 | ref p=>
  cases rx
  have e':(∃ xs,SqL X.K H p xs/\k = !xs.isEmpty)\/(∃ xs,SqT X.K H p xs/\k = !xs.isEmpty)\/∃ kvs,H p = some (.dK kvs)/\k = !kvs.isEmpty:=e
  rcases e' with ⟨xs,hx,e'⟩ | ⟨xs,hx,e'⟩ | ⟨kvs,hx,e'⟩
  ·subst e'
   obtain ⟨its,r,pl,hz⟩:=I.list hx
   have hlen:=r.length
   exact wpAny_truthy_list pl.isList (by simp only [List.size_toArray];omega) ⟨H,I.tok _,by rw [isEmpty_of r];exact q⟩
  ·subst e'
   obtain ⟨its,r,pl,hz⟩:=I.tuple hx
   have hlen:=r.length
   exact truthy_tuple pl (by simp only [List.size_toArray];omega) ⟨H,I.tok _,by rw [isEmpty_of r];exact q⟩
  ·subst e'
   obtain ⟨hz,hS,vs,r,m⟩:kvs.length ≤ sizeLine/\(p == sysModules) = false/\∃ vs,KV kvs vs/\s.heap.DictOf (mixKind X.prog X.w) p vs:=I.hok p _ hx
   have hlen:kvs.length = vs.length:=Paired.length r
   exact wpAny_truthy_dict hS m (by omega) ⟨H,I.tok _,by rw [isEmpty_kv r];exact q⟩
 | _=>exact (show False from e).elim
theorem op_add_str:OpR X (binaryOp .Add) (fun x y H Q=>∃ i j,x = .str i/\y = .str j/\i.length + j.length ≤ sizeLine/\Q (.str (i ++ j)) H):=by
 intro pins s σ H x y v u Q I rx ry h
 obtain ⟨i,j,rfl,rfl,hz,q⟩:=h
 obtain ⟨t,rfl⟩:=rx
 obtain ⟨t',rfl⟩:=ry
 exact add_str (fun t' tk=>⟨.str (i ++ j),H,I.tok _,⟨_,rfl⟩,q⟩) hz
theorem vals1 {x:V} {us:List Value} (r:Vals [x] us):∃ u,us = [u]/\RelV x u:=by
 cases r with
 | cons r1 r2=>cases r2;exact ⟨_,rfl,r1⟩
def LenV (K:PySem.W.Frag) (x:V) (H:Hp) (n:Nat):Prop:=
 match x with
 | .str y=>y.length ≤ sizeLine/\n = y.length
 | .byt y=>y.size ≤ sizeLine/\n = y.size
 | .ref p=>(∃ xs,SqL K H p xs/\n = xs.length)\/∃ xs,SqT K H p xs/\n = xs.length
 | _=>False
theorem call_len:CallR X (.builtin "len") (fun xs H Q=>∃ x n,xs = [x]/\LenV X.K x H n/\Q (.int n) H):=by
 intro pins s σ H xs us Q I r h
 obtain ⟨x,n,rfl,e,q⟩:=h
 obtain ⟨u,rfl,rx⟩:=vals1 r
 have hl:=line63
 have hs:sizeLine = 16777216:=sizeLine_eq
 cases x with
 | str y=>
  obtain ⟨t,rfl⟩:=rx
  obtain ⟨hy,e'⟩:y.length ≤ sizeLine/\n = y.length:=e
  subst e'
  exact len_str (by omega) ⟨.int _,H,I.tok _,⟨_,rfl⟩,q⟩
 | byt y=>
  obtain ⟨t,rfl⟩:=rx
  obtain ⟨hy,e'⟩:y.size ≤ sizeLine/\n = y.size:=e
  subst e'
  exact PySem.W.len_bytes (by omega) ⟨.int _,H,I.tok _,⟨_,rfl⟩,q⟩
 | ref p=>
  cases rx
  have e':(∃ xs,SqL X.K H p xs/\n = xs.length)\/∃ xs,SqT X.K H p xs/\n = xs.length:=e
  rcases e' with ⟨xs,hx,e'⟩ | ⟨xs,hx,e'⟩
  ·subst e'
   obtain ⟨its,r',pl,hz⟩:=I.list hx
   have hlen:=r'.length
   exact Calls.call_len_list pl.isList (by simp only [List.size_toArray];omega) ⟨.int xs.length,H,I.tok _,⟨_,by simp only [List.size_toArray];rw [hlen]⟩,q⟩
  ·subst e'
   obtain ⟨its,r',pl,hz⟩:=I.tuple hx
   have hlen:=r'.length
   exact len_tuple pl (by simp only [List.size_toArray];omega) ⟨.int xs.length,H,I.tok _,⟨_,by simp only [List.size_toArray];rw [hlen]⟩,q⟩
 | _=>exact (show False from e).elim
end
end L2
namespace L2
open PySem PySem.Spec PyProof.Rows
section
variable {prog:Program} {w:World} {A:Around} {E:Value->Shared->Prop} {s:Shared} {K:PySem.W.Frag} {x dx C f:Addr} {mA:Str->Option Value} {name:Str} {v:Value}
end
def putF (f:Str) (v:V):List (Str × V)->List (Str × V)
 | []=>[(f,v)]
 | (g,x) :: r=>if g = f then (g,v) :: r else (g,x) :: putF f v r
theorem RelO.some_of {v:V} {o:Option Value} (r:RelO (some v) o):∃ u,o = some u/\RelV v u:=by
 cases o with
 | none=>exact (show False from r).elim
 | some u=>exact ⟨u,rfl,r⟩
section
variable {P:Program} {w:World} {H H':Hp} {h h':Heap} {a C dx:Addr} {fs fs':List (Str × V)}
end
section
variable {X:Cx} {pins:List (Addr × Obj)} {σ:St} {H:Hp} {s:Shared} {a C dx:Addr} {fs:List (Str × V)} {f:Str} {v:V} {A:Around} {E:Value->Shared->Prop}
end
section
variable {X:Cx} {o e value:Expr} {f:Str} {pos pos' tpos:Pos} {ta tv:TE}
end
section
variable {X:Cx} {pins:List (Addr × Obj)} {σ:St} {H:Hp} {s:Shared} {A:Around} {E:Value->Shared->Prop} {Q:Value->Shared->Prop} {c:Value} {b:Bool}
end
end L2
namespace L2
open PySem PySem.Spec PyProof.Rows
structure Room (k:Nat) (A:Around):Prop where
 hd:A.handled = none
 dp:A.depth + 3 * k + 5 < recursionLimit
 un:A.units + 16 * k + 200 < cLine
theorem Room.mono {j k:Nat} {A:Around} (r:Room k A) (h:j ≤ k):Room j A:=⟨r.hd,by have:=r.dp;omega,by have:=r.un;omega⟩
theorem Room.deeper {k:Nat} {A:Around} (r:Room (k + 1) A) (env:Env):Room k (A.deeper env):=
 ⟨r.hd,by have:=r.dp;show A.depth + 1 + 3 * k + 5 < _;omega,by have:=r.un;show A.units + 3 + 16 * k + 200 < _;omega⟩
theorem Room.depth {k:Nat} {A:Around} (r:Room k A):A.depth < recursionLimit:=by have:=r.dp;omega
theorem Room.units {k:Nat} {A:Around} (r:Room k A):A.units + 64 < cLine:=by have:=r.un;omega
def tNil:TA:=fun _ H Q=>Q [] H
def tCons (ta:TE) (tr:TA):TA:=fun σ H Q=>ta σ H fun x H1=>tr σ H1 fun xs H2=>Q (x :: xs) H2
section
variable {X:Cx} {e:Expr} {es:List Expr} {te:TE} {t:TA} {pos:Pos}
theorem pa_nil:PA X [] tNil:=fun _ _ _ _ H Q I h=>Calls.spliced_nil ⟨[],H,I,.nil,h⟩
theorem pa_cons (ha:PE X e te) (hr:PA X es t) (hs:starEach (e :: es) X.env = (false,eval e X.env) :: starEach es X.env:=by rfl):PA X (e :: es) (tCons te t):=by
 intro pos pins s σ H Q I h
 rw [hs]
 show wpAny _ _ (spliced ((false,eval e X.env) :: backTo pos (starEach es X.env))) _ _ s
 refine Calls.spliced_cons (thn (ha pins s σ H _ I h) fun u s1 ⟨x,H1,I1,r1,q1⟩=>?_)
 exact thn (hr pos pins s1 σ H1 _ I1 q1) fun us s2 ⟨xs,H2,I2,r2,q2⟩=>⟨x :: xs,H2,I2,.cons r1 r2,q2⟩
def tTup (t:TA):TE:=fun σ H Q=>t σ H fun xs H1=>xs.length ≤ sizeLine/\∀ p,H1 p = none->Q (.ref p) (upd H1 p (.tup xs))
def tLst (t:TA):TE:=fun σ H Q=>t σ H fun xs H1=>xs.length ≤ sizeLine/\∀ p,H1 p = none->Q (.ref p) (upd H1 p (.lst xs))
theorem pe_tup {x1} (h:PA X es t):PE X (.Tuple es x1 pos) (tTup t):=by
 intro pins s σ H Q I hq
 refine wpAny_Tuple_spliced (thn (h pos pins s σ H _ I hq) fun us s1 ⟨xs,H1,I1,r,z,q⟩=>⟨by rw [← r.length];exact z,?_⟩)
 have hf:H1 s1.heap.objs.size = none:=I1.hok.fresh (Nat.le_refl _)
 refine ⟨.ref s1.heap.objs.size,upd H1 s1.heap.objs.size (.tup xs),I1.laid (t':=s1.toks) (fun b u e=>Heap.get?_push_of_some _ e) (Nat.le_refl _) ?_,rfl,q _ hf⟩
 exact ⟨z,us,r,⟨_,Heap.get?_push_size _ rfl,rfl,_,rfl⟩⟩
theorem pe_lst (h:PA X es t):PE X (.List es pos) (tLst t):=by
 intro pins s σ H Q I hq
 refine wpAny_List_spliced (thn (h pos pins s σ H _ I hq) fun us s1 ⟨xs,H1,I1,r,z,q⟩=>⟨by rw [← r.length];exact z,?_⟩)
 have hf:H1 s1.heap.objs.size = none:=I1.hok.fresh (Nat.le_refl _)
 refine ⟨.ref s1.heap.objs.size,upd H1 s1.heap.objs.size (.lst xs),I1.laid (t':=s1.toks) (fun b u e=>Heap.get?_push_of_some _ e) (Nat.le_refl _) ?_,rfl,q _ hf⟩
 exact ⟨z,us,0,r,Heap.get?_push_size _ rfl⟩
end
abbrev Sp:=List V->Hp->VK->XK->Prop
abbrev CXT:=List Env->Hp->Shared->XK->Value->Shared->Prop
structure Env0 (P:Program) (w:World) (K:PySem.W.Frag) (mg:Str->Option Value) (base:Heap) (A:Around) (outer:List Env) (s:Shared) (H:Hp):Prop where
 frames:A.frames = some outer
 mod:Mod K mg base
 bs:∀ b o,base.get? b = some o->s.heap.get? b = some o/\H b = none
 bsz:base.objs.size ≤ s.heap.objs.size
 funs:s.heap.FunFrames base outer
 frf:∀ b ∈ frs outer,H b = none
 hok:HOk P w H s.heap
 bare:AllBare s.gens
def CE (outer:List Env) (P:Program) (w:World) (H:Hp) (s:Shared) (Q:VK) (u:Value) (s':Shared):Prop:=
 ∃ v H',s'.os = s.os/\AllBare s'.gens/\Un (frs outer) [] H H' s.heap s'.heap/\HOk P w H' s'.heap/\RelV v u/\Q v H'
def CR (CX:CXT) (outer:List Env) (P:Program) (w:World) (H:Hp) (s:Shared) (Q:VK) (E:XK) (r:Result) (s':Shared):Prop:=
 match r with
 | .ok (.ret u)=>CE outer P w H s Q u s'
 | .ok _=>False
 | .error e=>CX outer H s E e s'
structure FnOk (P:Program) (w:World) (K:PySem.W.Frag) (mg:Str->Option Value) (base:Heap) (CX:CXT) (k:Nat) (f:Addr) (fd:FuncData) (ps:List Str) (sp:Sp):Prop where
 len:∀ vs H Q E,sp vs H Q E->vs.length = ps.length
 run:∀ (A:Around) (outer:List Env) (s:Shared) (H:Hp) (args:Args) (us:List Value) (vs:List V) (Q:VK) (E:XK),Room k A->Env0 P w K mg base A outer s H->BindsTo s fd args (ps.zip us)->Vals vs us->sp vs H Q E →
  codeAny (model P w) A (.call (.ref f) args) (CR CX outer P w H s Q E) s
section
variable {X:Cx} {pins:List (Addr × Obj)} {σ:St} {H:Hp} {s s':Shared}
theorem Inv.env0 (I:Inv X pins σ H s):Env0 X.prog X.w X.K X.mg X.base X.A X.stack s H:=
 ⟨I.ok.frames,I.ok.mod,I.bs,Nat.le_trans I.ok.bsz I.sz,I.stack,I.stkFree,I.hok,I.bare⟩
theorem Inv.after {Q:VK} {u:Value} (I:Inv X pins σ H s) (h:CE X.stack X.prog X.w H s Q u s'):EP X pins σ Q u s':=by
 obtain ⟨v,H',os,bare,un,hok,r,q⟩:=h
 obtain ⟨hh,g,d,t,os'⟩:=s'
 obtain rfl:os' = s.os:=os
 exact ⟨v,H',I.call (h':=hh) (g':=g) (d':=d) (t':=t) (ch:=[]) un hok bare (fun b z=>absurd z (by simp)),r,q⟩
end
def Binds (K:PySem.W.Frag) (fd:FuncData) (ps:List Str) (ds:List Value):Prop:=
 ∀ (s:Shared) (us:List Value),K.In s.heap->(us ++ ds).length = ps.length->BindsTo s fd ⟨us,[]⟩ (ps.zip (us ++ ds))
theorem Binds.all {K:PySem.W.Frag} {fd:FuncData} {ps:List Str} (h:∀ us:List Value,us.length = ps.length->bindArgs fd ⟨us,[]⟩ = pure (ps.zip us)):Binds K fd ps []:=fun s us _ hl=>by
 rw [List.append_nil] at hl ⊢
 exact .of_eq (h us hl)
section
variable {X:Cx} {CX:CXT} {k:Nat} {f C:Addr} {fd:FuncData} {ps:List Str} {sp:Sp} {dvs:List V} {ds:List Value} {E:XK} {x m:Str} {p pos apos:Pos} {e o:Expr} {es:List Expr} {ta:TE} {t:TA}
end
section
variable {X:Cx} {CX:CXT} {k:Nat} {f C:Addr} {fd:FuncData} {ps ks:List Str} {sp:Sp} {E:XK} {x m:Str} {p pos apos kpos:Pos} {e o:Expr} {es:List Expr} {kws:List Keyword} {te ta:TE} {t tk:TA} {nm:Option Str}
variable {g:List Value->List Value->List Value} {gV:List V->List V->List V}
end
structure FnScope (N P:List Str) (sc:Scope):Prop where
 kind:sc.kind = .function
 co:sc.isCoroutine = false
 gen:sc.isGenerator = false
 nd:N.Nodup
 pre:N.take P.length = P
 par:∀ x ∈ P,sc.names.lookup x = some .local\/sc.names.lookup x = some .cell
 nofree:∀ y ∈ sc.names,y.2 ≠ .free
theorem bindL_out {kindOf:Str->Option NameKind} {x:Str}:∀ {binds:List (Str × Value)} {m:Str->Option Value},(∀ v,(x,v) ∉ binds)->bindL kindOf binds m x = m x
 | [],_,_=>rfl
 | (n,v) :: r,m,h=>by
  unfold bindL
  rw [bindL_out fun w hw=>h w (List.mem_cons_of_mem _ hw)]
  split
  ·have:x ≠ n:=by rintro rfl;exact h v List.mem_cons_self
   simp [this]
  ·rfl
theorem bindC_out {kindOf:Str->Option NameKind} {x:Str}:∀ {binds:List (Str × Value)} {m:Str->Option Value},(∀ v,(x,v) ∉ binds)->bindC kindOf binds m x = m x
 | [],_,_=>rfl
 | (n,v) :: r,m,h=>by
  unfold bindC
  rw [bindC_out fun w hw=>h w (List.mem_cons_of_mem _ hw)]
  split
  ·rfl
  ·have:x ≠ n:=by rintro rfl;exact h v List.mem_cons_self
   simp [this]
theorem bindL_get {kindOf:Str->Option NameKind} {x:Str} {v:Value}:∀ {P:List Str} {vs:List Value} {i:Nat} {m:Str->Option Value},P.Nodup->P[i]? = some x->vs[i]? = some v->kindOf x = some .local →
  bindL kindOf (P.zip vs) m x = some v
 | [],_,_,_,_,h,_,_=>by simp at h
 | _ :: _,[],_,_,_,_,h,_=>by simp at h
 | p :: P,w :: vs,0,m,nd,h1,h2,hk=>by
  simp at h1 h2;subst h1;subst h2
  show bindL kindOf ((p,w) :: P.zip vs) m p = _
  unfold bindL
  rw [bindL_out fun v hv=>(List.nodup_cons.mp nd).1 (List.of_mem_zip hv).1,if_pos hk]
  simp
 | p :: P,w :: vs,i + 1,m,nd,h1,h2,hk=>by
  show bindL kindOf ((p,w) :: P.zip vs) m x = _
  unfold bindL
  exact bindL_get (i:=i) (List.nodup_cons.mp nd).2 (by simpa using h1) (by simpa using h2) hk
theorem bindC_get {kindOf:Str->Option NameKind} {x:Str} {v:Value}:∀ {P:List Str} {vs:List Value} {i:Nat} {m:Str->Option Value},P.Nodup->P[i]? = some x->vs[i]? = some v->kindOf x ≠ some .local →
  bindC kindOf (P.zip vs) m x = some v
 | [],_,_,_,_,h,_,_=>by simp at h
 | _ :: _,[],_,_,_,_,h,_=>by simp at h
 | p :: P,w :: vs,0,m,nd,h1,h2,hk=>by
  simp at h1 h2;subst h1;subst h2
  show bindC kindOf ((p,w) :: P.zip vs) m p = _
  unfold bindC
  rw [bindC_out fun v hv=>(List.nodup_cons.mp nd).1 (List.of_mem_zip hv).1,if_neg hk]
  simp
 | p :: P,w :: vs,i + 1,m,nd,h1,h2,hk=>by
  show bindC kindOf ((p,w) :: P.zip vs) m x = _
  unfold bindC
  exact bindC_get (i:=i) (List.nodup_cons.mp nd).2 (by simpa using h1) (by simpa using h2) hk
def start (N:List Str) (vs:List V):St:=vs.map some ++ List.replicate (N.length - vs.length) none
def cxOf (CX:CXT) (P:Program) (w:World) (K:PySem.W.Frag) (mg:Str->Option Value) (base:Heap) (N:List Str) (qual:Str) (scope:Scope) (f:Addr) (cd:Value) (A:Around) (outer:List Env) (s:Shared) (H:Hp) (E:XK):Cx where
 prog:=P
 w:=w
 K:=K
 mg:=mg
 base:=base
 A:=A.deeper (envOfC qual scope s.heap.objs.size f cd)
 N:=N
 s₀:=s
 H₀:=H
 env:=envOfC qual scope s.heap.objs.size f cd
 outer:=outer
 stack:=envOfC qual scope s.heap.objs.size f cd :: outer
 ex:=[]
 calm:=true
 fn:=fun _=>true
 pn:=[]
 xe:=fun e s'=>wpAny (model P w) (A.deeper (envOfC qual scope s.heap.objs.size f cd)) (leaving (envOfC qual scope s.heap.objs.size f cd) e) (fun _ s''=>CX outer H s E e s'') (fun e' s''=>CX outer H s E e' s'') s'
theorem cell_has {sc:Scope} {n:Nat} {x:Str} (h:sc.names.lookup x = some .cell):∃ c,(cellsFrom n sc.names []).lookup x = some c:=by
 have q:=PySem.W.cellsFrom_some sc.names n [] (.inl h)
 exact Option.isSome_iff_exists.mp q
theorem inv_start {CX:CXT} {P:Program} {w:World} {K:PySem.W.Frag} {mg:Str->Option Value} {base:Heap} {N ps:List Str} {qual:Str} {scope:Scope} {f:Addr} {cd:Value} {A:Around} {outer:List Env} {s s1:Shared} {H:Hp} {E:XK} {us:List Value} {vs:List V}
  (S:FnScope N ps scope) (hd:A.handled = none) (e0:Env0 P w K mg base A outer s H) (hl:vs.length = ps.length) (r:Vals vs us)
  (x:InCallC s s.heap.objs.size (bindL (envOfC qual scope s.heap.objs.size f cd).kindOf (ps.zip us) fun _=>none) (cellsFrom (s.heap.objs.size + 1) scope.names []) (bindC (envOfC qual scope s.heap.objs.size f cd).kindOf (ps.zip us) fun _=>none) s1) :
  Inv (cxOf CX P w K mg base N qual scope f cd A outer s H E) [] (start N vs) H s1:=by
 have hpl:ps.length ≤ N.length:=by have:=congrArg List.length S.pre;rw [List.length_take] at this;omega
 obtain ⟨h1,tk,rfl,hk⟩:=x.done
 have noA:∀ b:Addr,b ∉ (cxOf CX P w K mg base N qual scope f cd A outer s H E).ex:=fun b z=>absurd (show b ∈ ([]:List Addr) from z) (by simp)
 refine ⟨⟨e0.mod,S.kind,rfl,rfl,Nat.le_refl _,fun y z c h1 h2=>?_,fun y hy=>?_,fun y c _ h=>?_,fun _=>hd,Around.frames_deeper e0.frames,.inr ⟨rfl,rfl⟩,fun b z=>absurd z (noA b),e0.bs,e0.bsz,fun b _ _=>noA b,fun b z=>absurd z (noA b),e0.funs,e0.frf⟩,
  rfl,e0.bare,Un.kept hk,⟨_,x.toInCall.ns,fun i y v h1 h2 h3=>?_⟩,fun y c h=>⟨_,x.cell y c h⟩,e0.hok.fresh (Nat.le_refl _),fun y c h=>?_,fun p hp=>absurd (show p ∈ ([]:List (Addr × Obj)) from hp) (by simp),e0.hok.kept hk,?_⟩
 ·exact name_of_addr x.apart (PySem.mem_of_lookup h1) (PySem.mem_of_lookup h2)
 ·have hy:scope.names.lookup y = some .cell\/scope.names.lookup y = some .free:=hy
  rcases hy with hy | hy
  ·exact cell_has hy
  ·exact absurd rfl (S.nofree _ (PySem.mem_of_lookup hy))
 ·exact Nat.le_of_lt (x.above y c (PySem.mem_of_lookup h))
 ·have hi:i < vs.length:=by
   unfold start at h2
   by_cases hi:i < vs.length
   ·exact hi
   ·rw [List.getElem?_append_right (by simpa using hi)] at h2
    rw [List.getElem?_replicate] at h2
    split at h2 <;> cases h2
  have ha:vs[i]? = some v:=by
   unfold start at h2
   rw [List.getElem?_append_left (by simpa using hi),List.getElem?_map] at h2
   cases e:vs[i]? with
   | none=>rw [e] at h2;cases h2
   | some a=>rw [e] at h2;cases h2;rfl
  obtain ⟨u,hu,rv⟩:=r.get ha
  have hp:ps[i]? = some y:=by
   rw [← S.pre,List.getElem?_take_of_lt (by omega)];exact h1
  have ndP:ps.Nodup:=by rw [← S.pre];exact S.nd.sublist (List.take_sublist _ _)
  refine ⟨u,rv,?_⟩
  rcases S.par y (List.mem_of_getElem? hp) with k | k
  ·exact .inl ⟨k,bindL_get ndP hp hu k⟩
  ·obtain ⟨c,e⟩:=cell_has (n:=s.heap.objs.size + 1) k
   refine .inr ⟨.inl k,c,e,?_⟩
   have q:=x.cell y c e
   rw [bindC_get ndP hp hu (by show scope.names.lookup y ≠ _;rw [k];decide)] at q
   exact q
 ·exact e0.hok.fresh (Nat.le_of_lt (x.above y c (PySem.mem_of_lookup h)))
 ·unfold start
  show _ = N.length
  rw [List.length_append,List.length_map,List.length_replicate]
  omega
theorem fn_of {CX:CXT} {P:Program} {w:World} {K:PySem.W.Frag} {mg:Str->Option Value} {base:Heap} {k:Nat} {f:Addr} {name qual:Str} {params:Arguments} {body:List Stmt} {scope:Scope} {dV kV doc pm cdv ct oc:Value} {an od:Option Addr}
  {osl:Array (Option Value)} {N ps:List Str} {sp:Sp} (lk:K.lookup f = some ⟨oc,od,.func (PySem.W.fnOf name qual params body scope dV kV doc pm an cdv ct),osl⟩) (hcd:PySem.W.codeIn K cdv qual = true) (S:FnScope N ps scope)
  (len:∀ vs H Q E,sp vs H Q E->vs.length = ps.length)
  (hbody:∀ (A:Around) (outer:List Env) (s:Shared) (H:Hp) (vs:List V) (Q:VK) (E:XK),Room k (A.deeper (envOfC qual scope s.heap.objs.size f cdv))->sp vs H Q E →
   ∃ t,PSs (cxOf CX P w K mg base N qual scope f cdv A outer s H E) body t/\t { nx:=fun _ H'=>Q .non H',rt:=Q } (start N vs) H) :
  FnOk P w K mg base CX (k + 1) f (PySem.W.fnOf name qual params body scope dV kV doc pm an cdv ct) ps sp:=by
 refine ⟨len,fun A outer s H args us vs Q E hr e0 hb r hsp=>?_⟩
 have hl:=len _ _ _ _ hsp
 have KX:K.In s.heap:=e0.mod.kin.keeps fun b o e=>(e0.bs b o e).1
 have lim:s.heap.NoLimit:=e0.mod.nolimit.keeps fun b o e=>(e0.bs b o e).1
 have hkind:∀ y ∈ ps.zip us,scope.names.lookup y.1 = some .local\/(scope.names.lookup y.1 = some .cell/\((cellsFrom (s.heap.objs.size + 1) scope.names []).lookup y.1).isSome = true):=fun ⟨n,v⟩ hy=>by
  rcases S.par n (List.of_mem_zip hy).1 with q | q
  ·exact .inl q
  ·exact .inr ⟨q,PySem.W.cellsFrom_some _ _ _ (.inl q)⟩
 refine codeAny_call_function hr.depth (KX _ _ lk) rfl S.co S.gen rfl (PySem.W.codeRec_of KX hcd) (hb _ _ _ _ ?_)
 refine wpAny_newFunctionEnv_cells S.kind hkind fun env he s1 x=>?_
 subst he
 refine ⟨lim.keeps x.toInCall.keep,codeAny_func ?_⟩
 obtain ⟨t,ht,hq⟩:=hbody A outer s H vs Q E (hr.deeper _) hsp
 have I:Inv (cxOf CX P w K mg base N qual scope f cdv A outer s H E) [] (start N vs) H s1:=inv_start S hr.hd e0 hl r x
 refine wpAny_mono (ht [] s1 (start N vs) H _ I hq) (fun fl s' hs=>?_) fun e s' hs=>hs
 have fin:∀ {σ':St} {H':Hp} {v:V} {u:Value},Inv (cxOf CX P w K mg base N qual scope f cdv A outer s H E) [] σ' H' s'->RelV v u->Q v H'->CE outer P w H s Q u s':=
  fun {σ' H' v u} J rv q=>⟨v,H',J.os,J.bare,J.base,J.hok,rv,q⟩
 cases fl with
 | ret u=>
  obtain ⟨v,σ',H',J,rv,q⟩:=hs
  exact fin J rv q
 | next=>
  obtain ⟨σ',H',J,q⟩:=hs
  exact fin (v:=V.non) (u:=Value.none) J rfl q
 | brk=>
  obtain ⟨_,_,_,q⟩:=hs
  exact False.elim q
 | cont=>
  obtain ⟨_,_,_,q⟩:=hs
  exact False.elim q
end L2
namespace L2
open PySem PySem.Spec PyProof.Rows
section
variable {X:Cx} {x:Str} {p pos:Pos} {e:Expr} {es:List Expr} {t:TA} {id T:String} {r:List V->Hp->VK->Prop}
def tCB (r:List V->Hp->VK->Prop) (t:TA):TE:=fun σ H Q=>t σ H fun vs H1=>r vs H1 Q
theorem pe_callB (hc:CallR X (.builtin id) r) (hg:Gl X x) (hm:X.mg x = none) (hv:bootBuiltins x = some (.builtin id)) (ha:PA X (e :: es) t) (hn:x ≠ "__name__":=by decide) (hdb:(x == ("__debug__":Str)) = false:=by decide)
  (he:starEach (e :: es) X.env = (false,eval e X.env) :: starEach es X.env:=by rfl) (hpl:(backTo pos (starEach es X.env)).any (·.1) = false:=by rfl):PE X (.Call (.Name x p) (e :: es) [] pos) (tCB r t):=by
 intro pins s σ H Q I h
 refine wpAny_Call_Name_kw (ld_blt I hg hm hv ?_ hn hdb)
 exact PyProof.Rows.callWith_builtin1 (thn (ha pos pins s σ H _ I h) fun us s1 ⟨vs,H1,I1,r1,q1⟩=>hc pins s1 σ H1 vs us Q I1 r1 q1) he hpl
theorem pe_callTy (hc:CallR X (.type T) r) (hg:Gl X x) (hm:X.mg x = none) (hv:bootBuiltins x = some (.type T)) (ha:PA X (e :: es) t) (hn:x ≠ "__name__":=by decide) (hdb:(x == ("__debug__":Str)) = false:=by decide)
  (he:starEach (e :: es) X.env = (false,eval e X.env) :: starEach es X.env:=by rfl) (hpl:(backTo pos (starEach es X.env)).any (·.1) = false:=by rfl):PE X (.Call (.Name x p) (e :: es) [] pos) (tCB r t):=by
 intro pins s σ H Q I h
 refine wpAny_Call_Name_kw (ld_blt I hg hm hv ?_ hn hdb)
 exact PyProof.Rows.callWith_type1 (thn (ha pos pins s σ H _ I h) fun us s1 ⟨vs,H1,I1,r1,q1⟩=>hc pins s1 σ H1 vs us Q I1 r1 q1) he hpl
end
end L2
namespace HT
open PySem PyProof.Rows
section
open PySem.SeqAt
open PySem.AutoSeq1 (wpAny_loadPart')
open PySem.MeetsSeq PySem.MeetsSeq2 PySem.MeetsSeq3
end
section
variable {prog:Program} {w:World} {A:Around} {E:Value->Shared->Prop} {s:Shared}
theorem cat_tup {t b:Addr} {vs ws:List Value} {Q:Value->Shared->Prop} (ht:IsTup s.heap t vs.toArray) (hb:IsTup s.heap b ws.toArray) (hv:vs ≠ [])
  (h1:ws = []->Q (.ref t) s) (h2:ws ≠ []->Q (.ref s.heap.objs.size) { s with heap:=s.heap.push { cls:=.type "tuple",data:=.seq (vs ++ ws).toArray } })
  (hsz:vs.length + ws.length ≤ sizeLine):wpAny (model prog w) A (binaryOp .Add (.ref t) (.ref b)) Q E s:=by
 obtain ⟨⟨cls,dd,data,sl⟩,ho,hc,n,hd⟩:=id ht
 obtain ⟨⟨cls2,dd2,data2,sl2⟩,ho2,hc2,n2,hd2⟩:=id hb
 simp only at hc hd hc2 hd2
 subst hc hd hc2 hd2
 have e:vs.toArray ++ ws.toArray = (vs ++ ws).toArray:=by simp
 by_cases hw:ws = []
 ·exact concat_meets ⟨_,ho,rfl⟩ ⟨_,ho2,rfl⟩ noFill_tuple_add seq_tuple_add PySem.F.slot_tuple_add PySem.F.entry_tuple_add (PySem.F.args_tuple_add_2 _ _)
   (tuple_addW1 t b vs.toArray ws.toArray n n2 dd dd2 sl sl2 (by simpa using hv) (by simp [hw])) ⟨ho,ho2,h1 hw⟩
 ·refine concat_meets ⟨_,ho,rfl⟩ ⟨_,ho2,rfl⟩ noFill_tuple_add seq_tuple_add PySem.F.slot_tuple_add PySem.F.entry_tuple_add (PySem.F.args_tuple_add_2 _ _)
   (tuple_addW2 t b vs.toArray ws.toArray n n2 dd dd2 sl sl2 (by simpa using hv) (by simpa using hw) (by rw [List.size_toArray,List.size_toArray];exact hsz)) ⟨ho,ho2,?_⟩
  rw [e]
  exact h2 hw
def sIx (n d:Nat):Option Int->Nat
 | none=>d
 | some v=>if v < 0 then (v + (n:Int)).toNat else min v.toNat n
theorem sIx_none (n d:Nat):sIx n d none = d:=rfl
theorem sIx_nat (n d k:Nat):sIx n d (some (k:Int)) = min k n:=by
 show (if (k:Int) < 0 then ((k:Int) + (n:Int)).toNat else min (k:Int).toNat n) = min k n
 rw [if_neg (by omega),Int.toNat_natCast]
theorem sIx_le (n d:Nat) (hd:d ≤ n) (o:Option Int):sIx n d o ≤ n:=by
 cases o with
 | none=>exact hd
 | some v=>
  show (if v < 0 then (v + (n:Int)).toNat else min v.toNat n) ≤ n
  by_cases hv:v < 0
  ·rw [if_pos hv];omega
  ·rw [if_neg hv];exact Nat.min_le_right _ _
theorem clip_eq (v:Int) (n d:Nat):(if v < 0 then max (v + (n:Int)) 0 else min v (n:Int)) = ((sIx n d (some v):Nat):Int):=by
 show (if v < 0 then max (v + (n:Int)) 0 else min v (n:Int)) = (((if v < 0 then (v + (n:Int)).toNat else min v.toNat n):Nat):Int)
 by_cases hv:v < 0
 ·simp only [if_pos hv];omega
 ·simp only [if_neg hv];omega
theorem adjust_gen (lo hi:Option Int) (n:Nat):Builtin.Slice.sliceAdjust lo hi 1 (n:Int) = (((sIx n 0 lo:Nat):Int),((sIx n n hi:Nat):Int)):=by
 have h1:¬ ((1:Int) < 0):=by omega
 unfold Builtin.Slice.sliceAdjust
 simp only [h1,if_false]
 refine Prod.ext ?_ ?_
 ·cases lo with
  | none=>rfl
  | some v=>exact clip_eq v n 0
 ·cases hi with
  | none=>rfl
  | some v=>exact clip_eq v n n
theorem places_gen (i j:Nat):Builtin.Slice.slicePlaces (i:Int) (j:Int) 1 = j - i:=by
 unfold Builtin.Slice.slicePlaces
 have h1:(1:Int) > 0:=by omega
 simp only [h1,if_true,Int.ediv_one]
 split <;> omega
theorem slicePart_ {v:Value} {o:Option Int} {Q:Option Int->Shared->Prop} (p:IsPart v o) (h:Q o s):wpAny (model prog w) A (Builtin.Slice.slicePartIndex v) Q E s:=by
 cases p with
 | none=>exact slicePart_none h
 | int i t=>exact slicePart_int h
theorem sliceApplied_gen {sl:Addr} {vl vu:Value} {lo hi:Option Int} {n:Nat} {Q:Int × Int × Nat->Shared->Prop} (hs:s.heap.IsSliceOf sl vl vu .none) (pl:IsPart vl lo) (pu:IsPart vu hi)
  (h:Q (((sIx n 0 lo:Nat):Int),1,sIx n n hi - sIx n 0 lo) s):wpAny (model prog w) A (Builtin.Slice.sliceApplied (.ref sl) (pure (n:Int))) Q E s:=by
 obtain ⟨os,hos,hcs,hds⟩:=id hs
 unfold Builtin.Slice.sliceApplied Builtin.Slice.sliceFields
 refine wpAny_bind (wpAny_bind (wpAny_field hos hds (x:=vl) rfl (wpAny_bind (wpAny_field hos hds (x:=vu) rfl (wpAny_bind (wpAny_field hos hds (x:=.none) rfl (wpAny_pure ?_)))))))
 refine wpAny_bind (slicePart_none ?_)
 show wpAny _ _ (if ((1:Int) == 0) = true then _ else _) _ _ s
 rw [if_neg (by decide)]
 refine wpAny_bind (slicePart_ pl (wpAny_bind (slicePart_ pu (wpAny_bind (wpAny_pure ?_)))))
 show wpAny _ _ (match Builtin.Slice.sliceAdjust lo hi 1 (n:Int) with | (lo,hi)=>pure (lo,(1:Int),Builtin.Slice.slicePlaces lo hi 1)) _ _ s
 rw [adjust_gen lo hi n]
 show wpAny _ _ (pure (((sIx n 0 lo:Nat):Int),(1:Int),Builtin.Slice.slicePlaces ((sIx n 0 lo:Nat):Int) ((sIx n n hi:Nat):Int) 1)) _ _ s
 rw [places_gen]
 exact wpAny_pure h
theorem pick_gen (xs:Array Value) (i k:Nat):((List.range k).filterMap fun (m:Nat)=>xs[((i:Int) + (m:Int) * 1).toNat]?).toArray = ((xs.toList.drop i).take k).toArray:=by
 have e:(fun (m:Nat)=>xs[((i:Int) + (m:Int) * 1).toNat]?) = fun m=>xs[i + m]?:=by
  funext m
  have:((i:Int) + (m:Int) * 1).toNat = i + m:=by omega
  rw [this]
 rw [e]
 have:=pick_run xs i k
 rw [List.filterMap_map] at this
 have e2:((fun x=>xs[x]?) ∘ fun x=>i + x) = fun m=>xs[i + m]?:=rfl
 rw [e2] at this
 rw [this]
theorem getItem_tuple_cut {t sl:Addr} {items:Array Value} {vl vu:Value} {lo hi:Option Int} {Q:Value->Shared->Prop} (ht:IsTup s.heap t items) (hs:s.heap.IsSliceOf sl vl vu .none) (pl:IsPart vl lo) (pu:IsPart vu hi)
  (hw:¬ (sIx items.size 0 lo = 0/\sIx items.size items.size hi = items.size))
  (h:Q (.ref s.heap.objs.size) { s with heap:=s.heap.push { cls:=.type "tuple",data:=.seq ((items.toList.drop (sIx items.size 0 lo)).take (sIx items.size items.size hi - sIx items.size 0 lo)).toArray } })
  (hsz:items.size ≤ sizeLine):wpAny (model prog w) A (getItem (.ref t) (.ref sl)) Q E s:=by
 have htake:sizeOk (.seq ((items.toList.drop (sIx items.size 0 lo)).take (sIx items.size items.size hi - sIx items.size 0 lo)).toArray):=by
  show ((items.toList.drop (sIx items.size 0 lo)).take (sIx items.size items.size hi - sIx items.size 0 lo)).toArray.size ≤ sizeLine
  rw [List.size_toArray,List.length_take,List.length_drop,Array.length_toList]
  omega
 have hj:sIx items.size items.size hi ≤ items.size:=sIx_le _ _ (Nat.le_refl _) hi
 obtain ⟨os,hos,hcs,hds⟩:=id hs
 have hTs:s.TypeIs (.ref sl) "slice":=⟨os,hos,hcs⟩
 unfold getItem
 try with_reducible refine wpAny_holding ?_
 first | refine wpAny_bind (wpAny_pure ?_) | skip
 refine wpAny_bind (wpAny_sequenceKey ht.typeIs (by decide) ?_)
 refine wpAny_bind (wpAny_callSpecial?_slot (name:=Str.ofString "__getitem__") ht.typeIs PyProof.Rows.slot_tuple_getitem
  (wpAny_call_entry PyProof.Rows.slot_tuple_getitem ht.typeIs entry_tuple_getitem ?_ (args_tuple_getitem _ _)))
 show wpAny _ _ (Builtin.Tuple.tupleItemsOf (.ref t) >>= _) _ _ s
 refine wpAny_bind (tupleItemsOf_ ht ?_)
 refine wpAny_bind (wpAny_typeOf hTs ?_)
 rw [if_pos (by decide)]
 refine wpAny_bind (sliceApplied_gen hs pl pu ?_)
 have hno:¬ ((((sIx items.size 0 lo:Nat):Int) == 0 && (1:Int) == 1 && (sIx items.size items.size hi - sIx items.size 0 lo) == items.size) = true):=by
  intro q
  rw [Bool.and_eq_true,Bool.and_eq_true] at q
  have q1:((sIx items.size 0 lo:Nat):Int) = 0:=eq_of_beq q.1.1
  have q2:sIx items.size items.size hi - sIx items.size 0 lo = items.size:=eq_of_beq q.2
  exact hw ⟨by omega,by omega⟩
 show wpAny _ _ (if (((sIx items.size 0 lo:Nat):Int) == 0 && (1:Int) == 1 && (sIx items.size items.size hi - sIx items.size 0 lo) == items.size) = true then _ else _) _ _ s
 rw [if_neg hno,pick_gen]
 first
  | exact wpAny_bind (m:=Builtin.Tuple.tupleExact _) (wpAny_newObj_type (wpAny_pure ⟨_,rfl,wpAny_pure h⟩) htake)
  | exact wpAny_bind (m:=Builtin.Tuple.tupleExact _) (wpAny_newObj_type (wpAny_bind (wpAny_pure (wpAny_pure ⟨_,rfl,wpAny_pure h⟩))) htake)
  | exact wpAny_bind (wpAny_bind (m:=Builtin.Tuple.tupleExact _) (wpAny_newObj_type (wpAny_pure (wpAny_pure ⟨_,rfl,wpAny_pure h⟩)) htake))
  | exact wpAny_bind (wpAny_bind (m:=Builtin.Tuple.tupleExact _) (wpAny_newObj_type (wpAny_pure ⟨_,rfl,wpAny_pure h⟩) htake))
end
end HT
namespace L2
open PySem PySem.Spec PyProof.Rows
abbrev TO:=St->Hp->(Option Int->Hp->Prop)->Prop
def PO (X:Cx) (e:Option Expr) (t:TO):Prop:=
 ∀ (pins:List (Addr × Obj)) (s:Shared) (σ:St) (H:Hp) (Q:Option Int->Hp->Prop),Inv X pins σ H s->t σ H Q →
  wpAny (model X.prog X.w) X.A (evalPart e X.env) (fun u s'=>∃ o H',Inv X pins σ H' s'/\IsPart u o/\Q o H') X.xe s
def tNoPart:TO:=fun _ H Q=>Q none H
def tPart (t:TE):TO:=fun σ H Q=>t σ H fun x H1=>∃ i,x = .int i/\Q (some i) H1
section
variable {X:Cx} {e:Expr} {te:TE} {lo hi:Option Expr} {tl th:TO} {pos p2:Pos}
theorem po_none:PO X none tNoPart:=by
 intro pins s σ H Q I h
 rw [evalPart_none]
 exact wpAny_pure ⟨none,H,I,.none,h⟩
theorem po_some (h:PE X e te):PO X (some e) (tPart te):=by
 intro pins s σ H Q I hw
 rw [evalPart_some]
 refine thn (h pins s σ H _ I hw) fun u s1 ⟨x,H1,I1,r1,q1⟩=>?_
 obtain ⟨i,rfl,q⟩:=q1
 obtain ⟨t,rfl⟩:=r1
 exact ⟨some i,H1,I1,.int i t,q⟩
def SlR (X:Cx) (r:V->Option Int->Option Int->Hp->VK->Prop):Prop:=
 ∀ (pins:List (Addr × Obj)) (s:Shared) (σ:St) (H:Hp) (x:V) (v vl vu:Value) (lo hi:Option Int) (sl:Addr) (Q:VK),Inv X pins σ H s->RelV x v->s.heap.IsSliceOf sl vl vu .none->IsPart vl lo->IsPart vu hi->r x lo hi H Q →
  ∃ T id,typeLookup (.type T) "__getitem__" = pure (some (.builtin id))/\s.TypeIs v T/\wpAny (model X.prog X.w) X.A (getItem v (.ref sl)) (EP X pins σ Q) X.xe s
theorem SlR.or {r r':V->Option Int->Option Int->Hp->VK->Prop} (h:SlR X r) (h':SlR X r'):SlR X (fun x lo hi H Q=>r x lo hi H Q\/r' x lo hi H Q):=by
 intro pins s σ H x v vl vu lo hi sl Q I rx hs pl pu q
 rcases q with q | q
 ·exact h pins s σ H x v vl vu lo hi sl Q I rx hs pl pu q
 ·exact h' pins s σ H x v vl vu lo hi sl Q I rx hs pl pu q
def tSl (r:V->Option Int->Option Int->Hp->VK->Prop) (te:TE) (tl th:TO):TE:=fun σ H Q=>te σ H fun x H1=>tl σ H1 fun l H2=>th σ H2 fun u H3=>r x l u H3 Q
theorem pe_slice {r:V->Option Int->Option Int->Hp->VK->Prop} (hr:SlR X r) (he:PE X e te) (hl:PO X lo tl) (hu:PO X hi th):PE X (.Subscript e (.Slice lo hi none p2) pos) (tSl r te tl th):=by
 intro pins s σ H Q I h
 refine Subscript_ (thn (he pins s σ H _ I h) fun v s1 ⟨x,H1,I1,r1,q1⟩=>?_)
 refine wpAny_Slice (thn (hl pins s1 σ H1 _ I1 q1) fun vl s2 ⟨l,H2,I2,pl,q2⟩=>thn (hu pins s2 σ H2 _ I2 q2) fun vu s3 ⟨u,H3,I3,pu,q3⟩=>?_)
 rw [evalPart_none]
 refine wpAny_pure ?_
 have I4:Inv X pins σ H3 { s3 with heap:=s3.heap.push { cls:=.type "slice",data:=.fields #[vl,vu,.none] } }:=I3.kept (t':=s3.toks) fun b ob q=>Heap.get?_push_of_some _ q
 obtain ⟨T,id,hT,ht,hg⟩:=hr pins { s3 with heap:=s3.heap.push { cls:=.type "slice",data:=.fields #[vl,vu,.none] } } σ H3 x v vl vu l u s3.heap.objs.size Q I4 r1 (Heap.IsSliceOf.new ..) pl pu q3
 show wpAny (model X.prog X.w) X.A (subscriptTail e (.Slice lo hi none p2) v (.ref s3.heap.objs.size)) (EP X pins σ Q) X.xe { s3 with heap:=s3.heap.push { cls:=.type "slice",data:=.fields #[vl,vu,.none] } }
 exact tail_any (ops:=[.ref s3.heap.objs.size,v]) ht hT hg (by with_unfolding_all rfl)
def cutV (xs:List V) (lo hi:Option Int):List V:=(xs.drop (HT.sIx xs.length 0 lo)).take (HT.sIx xs.length xs.length hi - HT.sIx xs.length 0 lo)
theorem cutV_length (xs:List V) (lo hi:Option Int):(cutV xs lo hi).length ≤ xs.length:=by
 unfold cutV
 rw [List.length_take,List.length_drop]
 omega
def rSlT (K:PySem.W.Frag):V->Option Int->Option Int->Hp->VK->Prop:=fun x lo hi H Q=>∃ a xs,x = .ref a/\SqT K H a xs ∧
 ¬ (HT.sIx xs.length 0 lo = 0/\HT.sIx xs.length xs.length hi = xs.length)/\∀ p,H p = none->Q (.ref p) (upd H p (.tup (cutV xs lo hi)))
theorem sl_tup:SlR X (rSlT X.K):=by
 intro pins s σ H x v vl vu lo hi sl Q I rx hs pl pu h
 obtain ⟨a,xs,rfl,hx,hw,q⟩:=h
 cases rx
 obtain ⟨its,r,ht,hz⟩:=I.tuple hx
 have hlen:its.toArray.size = xs.length:=by rw [List.size_toArray];exact r.length.symm
 refine ⟨"tuple",_,PyProof.Rows.slot_tuple_getitem.lookup,ht.typeIs,?_⟩
 refine HT.getItem_tuple_cut ht hs pl pu (by rw [hlen];exact hw) ?_ (by rw [hlen];exact hz)
 rw [hlen]
 refine ⟨.ref s.heap.objs.size,_,I.laid (t':=s.toks) (o:=.tup (cutV xs lo hi)) (fun b ob q=>Heap.get?_push_of_some _ q) (Nat.le_refl _) ?_,rfl,q _ (I.hok.fresh (Nat.le_refl _))⟩
 exact ⟨Nat.le_trans (cutV_length xs lo hi) hz,_,(r.drop (HT.sIx xs.length 0 lo)).take (HT.sIx xs.length xs.length hi - HT.sIx xs.length 0 lo),IsTup.new _ _⟩
def rCatT (K:PySem.W.Frag):R2:=fun x y H Q=>∃ a b xs ys,x = .ref a/\y = .ref b/\SqT K H a xs/\SqT K H b ys/\xs ≠ []/\xs.length + ys.length ≤ sizeLine ∧
 (ys = []->Q (.ref a) H)/\(ys ≠ []->∀ p,H p = none->Q (.ref p) (upd H p (.tup (xs ++ ys))))
theorem Vals.nil_iff {xs:List V} {us:List Value} (r:Vals xs us):us = [] ↔ xs = []:=by
 cases r with
 | nil=>simp
 | cons _ _=>simp
theorem op_catT:OpR X (binaryOp .Add) (rCatT X.K):=by
 intro pins s σ H x y v u Q I rx ry h
 obtain ⟨a,b,xs,ys,rfl,rfl,ha,hb,hx,hz,q1,q2⟩:=h
 cases rx
 cases ry
 obtain ⟨its,r1,p1,_⟩:=I.tuple ha
 obtain ⟨its2,r2,p2,_⟩:=I.tuple hb
 refine HT.cat_tup p1 p2 (fun z=>hx (r1.nil_iff.mp z)) (fun z=>⟨.ref a,H,I,rfl,q1 (r2.nil_iff.mp z)⟩) (fun z=>?_) (by rw [← r1.length,← r2.length];exact hz)
 refine ⟨.ref s.heap.objs.size,_,I.laid (t':=s.toks) (o:=.tup (xs ++ ys)) (fun b ob q=>Heap.get?_push_of_some _ q) (Nat.le_refl _) ?_,rfl,q2 (fun w=>z (r2.nil_iff.mpr w)) _ (I.hok.fresh (Nat.le_refl _))⟩
 exact ⟨by rw [List.length_append];exact hz,_,r1.append r2,IsTup.new _ _⟩
end
end L2
namespace L2
open PySem PySem.Spec PyProof.Rows
def ixN (n:Nat) (i:Int):Option Nat:=if 0 ≤ i then (if i < n then some i.toNat else none) else if -(n:Int) ≤ i then some (i + n).toNat else none
def atI {α:Type} (xs:List α) (i:Int):Option α:=(ixN xs.length i).bind fun j=>xs[j]?
theorem ixN_seq {n:Nat} {i:Int} {j:Nat} (h:ixN n i = some j):seqIndex? i n = some j/\j < n/\-(n:Int) ≤ i/\i < n:=by
 unfold ixN at h
 by_cases h0:0 ≤ i
 ·rw [if_pos h0] at h
  by_cases h1:i < n
  ·rw [if_pos h1] at h
   have e:i.toNat = j:=Option.some.inj h
   exact ⟨by rw [seqIndex_of h0 h1,e],by omega,by omega,h1⟩
  ·rw [if_neg h1] at h;cases h
 ·rw [if_neg h0] at h
  by_cases h1:-(n:Int) ≤ i
  ·rw [if_pos h1] at h
   have e:(i + n).toNat = j:=Option.some.inj h
   exact ⟨by rw [seqIndex_neg (by omega) h1,e],by omega,h1,by omega⟩
  ·rw [if_neg h1] at h;cases h
theorem atI_get {α:Type} {xs:List α} {i:Int} {v:α} (h:atI xs i = some v):∃ j,seqIndex? i xs.length = some j/\xs[j]? = some v/\j < xs.length/\-(xs.length:Int) ≤ i/\i < xs.length:=by
 unfold atI at h
 cases e:ixN xs.length i with
 | none=>rw [e] at h;cases h
 | some j=>
  rw [e] at h
  obtain ⟨h1,h2,h3,h4⟩:=ixN_seq e
  exact ⟨j,h1,h,h2,h3,h4⟩
def PlainIx (b:Expr):Prop:=∀ o i,subscripted b false o i = operate [o,i] (getItem o i)
def IxR (X:Cx) (r:R2):Prop:=
 ∀ (value slice:Expr) (pins:List (Addr × Obj)) (s:Shared) (σ:St) (H:Hp) (x y:V) (v u:Value) (Q:VK),Inv X pins σ H s->RelV x v->RelV y u->r x y H Q →
  subscripted slice false v u = operate [v,u] (getItem v u)->wpAny (model X.prog X.w) X.A (subscriptTail value slice v u) (EP X pins σ Q) X.xe s
def MtR (X:Cx) (id:String) (r:V->List V->Hp->VK->Prop):Prop:=
 ∀ (pins:List (Addr × Obj)) (s:Shared) (σ:St) (H:Hp) (x:V) (xs:List V) (v:Value) (us:List Value) (Q:VK),Inv X pins σ H s->RelV x v->Vals xs us->r x xs H Q →
  wpAny (model X.prog X.w) X.A (call (.builtin id) (v :: us)) (EP X pins σ Q) X.xe s
section
variable {X:Cx} {a b:Expr} {ta tb:TE} {pos:Pos}
theorem IxR.or {r r':R2} (h:IxR X r) (h':IxR X r'):IxR X (fun x y H Q=>r x y H Q\/r' x y H Q):=by
 intro value slice pins s σ H x y v u Q I rx ry q hs
 rcases q with q | q
 ·exact h value slice pins s σ H x y v u Q I rx ry q hs
 ·exact h' value slice pins s σ H x y v u Q I rx ry q hs
theorem pe_ix {r:R2} (hr:IxR X r) (ha:PE X a ta) (hb:PE X b tb) (hs:PlainIx b):PE X (.Subscript a b pos) (tOp r ta tb):=by
 intro pins s σ H Q I h
 exact Subscript_ (binT ha hb I h fun v u s2 x y H2 I2 rx ry q=>hr a b pins s2 σ H2 x y v u Q I2 rx ry q (hs _ _))
def rIxL (K:PySem.W.Frag):R2:=fun x y H Q=>∃ p xs i v,x = .ref p/\y = .int i/\SqL K H p xs/\atI xs i = some v/\Q v H
def rIxT (K:PySem.W.Frag):R2:=fun x y H Q=>∃ p xs i v,x = .ref p/\y = .int i/\SqT K H p xs/\atI xs i = some v/\Q v H
def rIxS:R2:=fun x y H Q=>∃ z i c,x = .str z/\y = .int i/\z.length ≤ sizeLine/\atI z.cps.toList i = some c/\Q (.str ⟨#[c]⟩) H
theorem ix_list:IxR X (rIxL X.K):=by
 intro value slice pins s σ H x y v u Q I rx ry h hs
 obtain ⟨p,xs,i,z,rfl,rfl,hq,he,q⟩:=h
 cases rx
 obtain ⟨t,rfl⟩:=ry
 obtain ⟨its,r,pl,hz⟩:=I.list hq
 obtain ⟨j,h1,h2,h3,h4,h5⟩:=atI_get he
 obtain ⟨w,ew,rw'⟩:=r.get h2
 have hl:=r.length
 have hn:=line63
 have fin:EP X pins σ Q w s:=⟨z,H,I,rw',q⟩
 by_cases h0:0 ≤ i
 ·have hj:i.toNat = j:=by
   rw [seqIndex_of h0 h5] at h1
   exact Option.some.inj h1
  exact item_listR pl.isList h0 (by omega) (by rw [hj];simpa using ew) fin hs
 ·have hj:(i + (its.toArray.size:Int)).toNat = j:=by
   rw [seqIndex_neg (by omega) h4] at h1
   rw [List.size_toArray,← hl]
   exact Option.some.inj h1
  exact subscriptTail_builtinR (x:=w) pl.isList.typeIs slot_list_getitem.lookup
   (wpAny_getItem_list_neg (Q:=fun r s'=>r = w/\EP X pins σ Q r s') pl.isList (by omega) (by rw [List.size_toArray] <;> omega) (by omega) (by rw [hj];simpa using ew) ⟨rfl,fin⟩) hs
theorem ix_tup:IxR X (rIxT X.K):=by
 intro value slice pins s σ H x y v u Q I rx ry h hs
 obtain ⟨p,xs,i,z,rfl,rfl,hq,he,q⟩:=h
 cases rx
 obtain ⟨t,rfl⟩:=ry
 obtain ⟨its,r,pl,hz⟩:=I.tuple hq
 obtain ⟨j,h1,h2,h3,h4,h5⟩:=atI_get he
 obtain ⟨w,ew,rw'⟩:=r.get h2
 have hl:=r.length
 have hn:=line63
 have fin:EP X pins σ Q w s:=⟨z,H,I,rw',q⟩
 exact subscriptTail_builtinR (x:=w) pl.typeIs slot_tuple_getitem.lookup
  (getItem_tuple (j:=j) (Q:=fun r s'=>r = w/\EP X pins σ Q r s') pl (by omega) (by omega) (by rw [List.size_toArray,← hl];exact h1) (by simpa using ew) ⟨rfl,fin⟩) hs
theorem ix_str:IxR X rIxS:=by
 intro value slice pins s σ H x y v u Q I rx ry h hs
 obtain ⟨z,i,c,rfl,rfl,hz,he,q⟩:=h
 obtain ⟨t,rfl⟩:=rx
 obtain ⟨t',rfl⟩:=ry
 obtain ⟨j,h1,h2,h3,h4,h5⟩:=atI_get he
 have hl:z.cps.toList.length = z.length:=by simp [Str.length]
 rw [hl] at h1 h4 h5
 have hn:=line63
 exact tail_any (typeIs_str s z t) slot_str_getitem.lookup (getItem_str (c:=c) (by
  have e1:decide (i < -(2 ^ 63:Int)) = false:=decide_eq_false (by omega)
  have e2:decide (i ≥ 2 ^ 63) = false:=decide_eq_false (by omega)
  rw [e1,e2,Bool.or_false]) (by rw [h1];simpa using h2) ⟨.str ⟨#[c]⟩,H,I.tok _,⟨_,rfl⟩,q⟩) hs
def rIx (K:PySem.W.Frag):R2:=fun x y H Q=>rIxL K x y H Q\/rIxT K x y H Q\/rIxS x y H Q
theorem ix_seq:IxR X (rIx X.K):=ix_list.or (ix_tup.or ix_str)
theorem slice_bounds (lo hi:Option Int) (n:Nat):(sliceBounds lo hi none n).1 = ((HT.sIx n 0 lo:Nat):Int)/\(sliceBounds lo hi none n).2.1 = ((HT.sIx n n hi:Nat):Int)/\(sliceBounds lo hi none n).2.2 = 1:=by
 refine ⟨?_,?_,rfl⟩
 ·cases lo with
  | none=>simp [sliceBounds,HT.sIx]
  | some i=>
   simp only [sliceBounds,HT.sIx,Option.getD_none,show (1:Int) > 0 by decide,if_true]
   by_cases h:i < 0
   ·simp only [h,if_true] <;> omega
   ·simp only [h,if_false] <;> omega
 ·cases hi with
  | none=>simp [sliceBounds,HT.sIx]
  | some i=>
   simp only [sliceBounds,HT.sIx,Option.getD_none,show (1:Int) > 0 by decide,if_true]
   by_cases h:i < 0
   ·simp only [h,if_true] <;> omega
   ·simp only [h,if_false] <;> omega
theorem slicePick_cut (its:List Value) (lo hi:Option Int):slicePick its.toArray lo hi none = ((its.drop (HT.sIx its.length 0 lo)).take (HT.sIx its.length its.length hi - HT.sIx its.length 0 lo)).toArray:=by
 obtain ⟨h1,h2,h3⟩:=slice_bounds lo hi its.toArray.size
 unfold slicePick
 rw [h1,h2,h3]
 simp only [sliceRange_one,pick_run,List.size_toArray] <;> rfl
def rSlL (K:PySem.W.Frag):V->Option Int->Option Int->Hp->VK->Prop:=fun x lo hi H Q=>∃ a xs,x = .ref a/\SqL K H a xs/\∀ p,H p = none->Q (.ref p) (upd H p (.lst (cutV xs lo hi)))
theorem sl_list:SlR X (rSlL X.K):=by
 intro pins s σ H x v vl vu lo hi sl Q I rx hs pl pu h
 obtain ⟨a,xs,rfl,hx,q⟩:=h
 cases rx
 obtain ⟨its,r,ht,hz⟩:=I.list hx
 have hlen:=r.length
 refine ⟨"list",_,slot_list_getitem.lookup,ht.isList.typeIs,?_⟩
 refine wpAny_getItem_list_slice ht.isList hs pl pu .none (by simp) ?_ (by rw [List.size_toArray] <;> omega)
 rw [slicePick_cut,← hlen]
 refine ⟨.ref s.heap.objs.size,_,I.laid (t':=s.toks) (o:=.lst (cutV xs lo hi)) (fun b ob q=>Heap.get?_push_of_some _ q) (Nat.le_refl _) ?_,rfl,q _ (I.hok.fresh (Nat.le_refl _))⟩
 exact ⟨Nat.le_trans (cutV_length xs lo hi) hz,_,0,(r.drop (HT.sIx xs.length 0 lo)).take (HT.sIx xs.length xs.length hi - HT.sIx xs.length 0 lo),Heap.get?_push_size _ rfl⟩
theorem CallR.or {f:Value} {r r':List V->Hp->VK->Prop} (h:CallR X f r) (h':CallR X f r'):CallR X f (fun xs H Q=>r xs H Q\/r' xs H Q):=by
 intro pins s σ H xs us Q I rs q
 rcases q with q | q
 ·exact h pins s σ H xs us Q I rs q
 ·exact h' pins s σ H xs us Q I rs q
theorem call_list_of:CallR X (.type "list") (fun xs H Q=>∃ p ys,xs = [.ref p]/\(SqL X.K H p ys\/SqT X.K H p ys)/\∀ l,H l = none->Q (.ref l) (upd H l (.lst ys))):=by
 intro pins s σ H xs us Q I r h
 obtain ⟨p,ys,rfl,hq,q⟩:=h
 obtain ⟨u,rfl,rx⟩:=vals1 r
 cases rx
 have fin:∀ (its:List Value),Vals ys its->ys.length ≤ sizeLine->∀ (h':Heap) (c':Nat),(∀ b o',s.heap.get? b = some o'->h'.get? b = some o') →
   h'.get? s.heap.objs.size = some { cls:=.type "list",dict:=none,data:=.seq its.toArray c',slots:=#[] }->EP X pins σ Q (.ref s.heap.objs.size) { s with heap:=h' }:=fun its r' hz h' c' kp e=>
  ⟨.ref s.heap.objs.size,_,I.laid (t':=s.toks) kp (Nat.le_refl _) (show ObjOk X.prog X.w _ h' _ (.lst ys) from ⟨hz,its,c',r',e⟩),rfl,q _ (I.hok.fresh (Nat.le_refl _))⟩
 rcases hq with hq | hq
 ·obtain ⟨its,r',pl,hz⟩:=I.list hq
  have hlen:=r'.length
  obtain ⟨o,ho,hc,n,hd⟩:=pl.isList
  exact call_list_seq p (.inl rfl) ho hc hd (fun h' c' kp e=>fin its r' hz h' c' kp e) (by simp only [List.size_toArray] <;> omega)
 ·obtain ⟨its,r',pl,hz⟩:=I.tuple hq
  have hlen:=r'.length
  obtain ⟨o,ho,hc,n,hd⟩:=pl
  exact call_list_seq p (.inr rfl) ho hc hd (fun h' c' kp e=>fin its r' hz h' c' kp e) (by simp only [List.size_toArray] <;> omega)
theorem call_tuple_of:CallR X (.type "tuple") (fun xs H Q=>∃ p ys,xs = [.ref p]/\((SqL X.K H p ys/\∀ l,H l = none->Q (.ref l) (upd H l (.tup ys)))\/(SqT X.K H p ys/\Q (.ref p) H))):=by
 intro pins s σ H xs us Q I r h
 obtain ⟨p,ys,rfl,h⟩:=h
 obtain ⟨u,rfl,rx⟩:=vals1 r
 cases rx
 rcases h with ⟨hq,q⟩ | ⟨hq,q⟩
 ·obtain ⟨its,r',pl,hz⟩:=I.list hq
  have hlen:=r'.length
  refine call_tuple_list pl.isList (fun h' kp=>?_) (by simp only [List.size_toArray] <;> omega)
  have I1:Inv X pins σ H { s with heap:=h' }:=I.kept (t':=s.toks) kp
  have I2:Inv X pins σ (upd H h'.objs.size (.tup ys)) { s with heap:=h'.push { cls:=.type "tuple",data:=.seq its.toArray } }:=
   I1.laid (t':=s.toks) (fun b o e=>Heap.get?_push_of_some _ e) (Nat.le_refl _) (show ObjOk X.prog X.w _ _ _ (.tup ys) from ⟨hz,its,r',IsTup.new _ _⟩)
  exact ⟨.ref h'.objs.size,_,I2,rfl,q _ (I1.hok.fresh (Nat.le_refl _))⟩
 ·obtain ⟨its,r',pl,hz⟩:=I.tuple hq
  exact call_tuple_same pl ⟨.ref p,H,I,rfl,q⟩
def tyV (K:PySem.W.Frag) (T:String) (x:V) (H:Hp):Prop:=match x with
 | .str _=>T = "str"
 | .int _=>T = "int"
 | .ref p=>(T = "list"/\∃ xs,SqL K H p xs)\/(T = "tuple"/\∃ o,K.lookup p = some o/\o.cls = .type "tuple"/\o.dict = none) ∨
   (T = "dict"/\((∃ kvs,H p = some (.dK kvs))\/∃ kvs,H p = some (.dT kvs)))\/(T = "set"/\∃ S n,H p = some (.set S n))
 | _=>False
theorem tyV_is {pins:List (Addr × Obj)} {σ:St} {H:Hp} {s:Shared} {T:String} {x:V} {v:Value} (I:Inv X pins σ H s) (r:RelV x v) (ty:tyV X.K T x H) :
  s.TypeIs v T/\∀ a,v = .ref a->∃ ob,s.heap.get? a = some ob/\ob.dict = none:=by
 cases x with
 | str z=>
  obtain ⟨t,rfl⟩:=r
  cases (show T = "str" from ty)
  exact ⟨typeIs_str s z t,fun _ e=>nomatch e⟩
 | int i=>
  obtain ⟨t,rfl⟩:=r
  cases (show T = "int" from ty)
  exact ⟨typeIs_int s i t,fun _ e=>nomatch e⟩
 | ref p=>
  cases r
  rcases ty with ⟨rfl,xs,hq⟩ | ⟨rfl,o,hk,hc,hd⟩ | ⟨rfl,hk⟩ | ⟨rfl,S,n,hk⟩
  ·obtain ⟨its,_,pl,_⟩:=I.list hq
   refine ⟨pl.isList.typeIs,fun a e=>?_⟩
   cases e
   obtain ⟨o,n,e,c,hd,_⟩:=pl
   exact ⟨o,e,hd⟩
  ·refine ⟨⟨o,I.kIn p o hk,hc⟩,fun a e=>?_⟩
   cases e
   exact ⟨o,I.kIn _ o hk,hd⟩
  ·have z:∃ o,s.heap.get? p = some o/\o.ExactDict:=by
    rcases hk with ⟨kvs,hk⟩ | ⟨kvs,hk⟩
    ·obtain ⟨_,_,_,_,o,_,_,e,ex,_⟩:=I.hok p _ hk
     exact ⟨o,e,ex⟩
    ·obtain ⟨_,_,_,_,o,_,_,e,ex,_⟩:=I.hok p _ hk
     exact ⟨o,e,ex⟩
   obtain ⟨o,e,ex⟩:=z
   refine ⟨⟨o,e,ex.1⟩,fun a e2=>?_⟩
   cases e2
   exact ⟨o,e,ex.2.1⟩
  ·obtain ⟨o,_,_,_,e,ex,_⟩:=I.hok p _ hk
   refine ⟨⟨o,e,ex.1⟩,fun a e2=>?_⟩
   cases e2
   exact ⟨o,e,ex.2.1⟩
 | _=>exact False.elim ty
def tBM (K:PySem.W.Frag) (T:String) (r:V->List V->Hp->VK->Prop) (to:TE) (t:TA):TE:=fun σ H Q=>to σ H fun x H1=>tyV K T x H1/\t σ H1 fun xs H2=>r x xs H2 Q
variable {o e:Expr} {es:List Expr} {to:TE} {t:TA} {name:Str} {apos cpos:Pos} {T id:String} {r:V->List V->Hp->VK->Prop}
theorem pe_bm (pa:PlainAttrs T) (slot:Slot T name id) (hty:typeOf (.builtin id) = pure (.type "method_descriptor")) (hm:MtR X id r) (ho:PE X o to) (ha:PA X (e :: es) t)
  (hbase:attributeBase o name X.env (eval o X.env) = eval o X.env:=by rfl)
  (hfew:((backTo cpos (starEach (e :: es) X.env)).all (fun x=>!x.1) && (backToKw cpos (keywordEach [] X.env)).all (fun x=>x.1.isSome)
   && decide ((e :: es).length + ([]:List Keyword).length + (if ([]:List Keyword).isEmpty then 0 else 1) < 30)) = true:=by rfl)
  (hline:(apos.endLine == cpos.line) = true:=by rfl) (hs:starEach (e :: es) X.env = (false,eval e X.env) :: starEach es X.env:=by rfl) (hplain:(backTo cpos (starEach es X.env)).any (·.1) = false:=by rfl) :
  PE X (.Call (.Attribute o name apos) (e :: es) [] cpos) (tBM X.K T r to t):=by
 intro pins s σ H Q I h
 refine wpAny_Call_method_late hbase hfew hline rfl (thn (ho pins s σ H _ I h) fun v s1 ⟨x,H1,I1,r1,ty,q1⟩=>?_)
 obtain ⟨h1,h2⟩:=tyV_is I1 r1 ty
 refine ⟨T,id,pa,slot,hty,h1,h2,?_⟩
 have hA:=ha cpos pins s1 σ H1 _ I1 q1
 rw [hs] at hA ⊢
 refine Calls.callWith_builtin (by show (false || (backTo cpos (starEach es X.env)).any (·.1)) = false;rw [hplain] <;> rfl) (Calls.evalArgs_plain ?_)
 exact thn hA fun us s2 ⟨vs,H2,I2,r2,q2⟩=>hm pins s2 σ H2 x vs v us Q I2 r1 r2 q2
end
end L2
namespace L2
open PySem PySem.Spec PyProof.Rows
def MtM (X:Cx) (id:String) (r:V->List V->Hp->VK->Prop):Prop:=
 ∀ (pins:List (Addr × Obj)) (s:Shared) (σ:St) (H:Hp) (x:V) (xs:List V) (v:Value) (us:List Value) (Q:VK),Inv X pins σ H s->RelV x v->Vals xs us->r x xs H Q →
  wpAny (model X.prog X.w) X.A (call (.builtin id) (v :: us)) (EP X pins σ Q) X.xe s
theorem Vals.one:∀ {x:V} {us:List Value},Vals [x] us->∃ u,us = [u]/\RelV x u
 | _,_,.cons r .nil=>⟨_,rfl,r⟩
theorem Vals.reverse {xs:List V} {us:List Value} (h:Vals xs us):Vals xs.reverse us.reverse:=by
 induction h with
 | nil=>exact .nil
 | cons r t ih=>rw [List.reverse_cons,List.reverse_cons];exact Vals.append ih (.cons r .nil)
section
variable {X:Cx} {pins:List (Addr × Obj)} {σ:St} {H:Hp} {s:Shared} {l b:Addr} {xs ys zs:List V}
theorem Inv.lset {its its':List Value} {n:Nat} {f:Array Value->Array Value} {t':Nat} (I:Inv X pins σ H s) (hH:H l = some (.lst xs))
  (e:s.heap.get? l = some { cls:=.type "list",data:=.seq its.toArray n }) (hf:f its.toArray = its'.toArray) (hv:Vals ys its') (hz:ys.length ≤ sizeLine) :
  Inv X pins σ (upd H l (.lst ys)) { s with heap:=s.heap.update l (Obj.mapSeq f),toks:=t' }:=by
 have q:=PySem.IsL.update e f
 rw [hf] at q
 refine I.write (x:=l) (e:=l) (by rw [hH];exact trivial) (.inl rfl) (fun b' u hb hu=>(Heap.get?_update_other s.heap (Obj.mapSeq f) (Ne.symm hb)).trans hu) ⟨_,q⟩ ?_
 exact ⟨hz,its',_,hv,q⟩
theorem Inv.lnew {its:List Value} {t':Nat} (I:Inv X pins σ H s) (hv:Vals ys its) (hz:ys.length ≤ sizeLine) :
  Inv X pins σ (upd H s.heap.objs.size (.lst ys)) { s with heap:=s.heap.push { cls:=.type "list",data:=.seq its.toArray },toks:=t' }:=
 I.laid (fun _ _ q=>Heap.get?_push_of_some _ q) (Nat.le_refl _) ⟨hz,its,0,hv,Heap.get?_push_size _ rfl⟩
theorem Inv.fresh (I:Inv X pins σ H s):H s.heap.objs.size = none:=I.hok.fresh (Nat.le_refl _)
theorem Inv.lstM (I:Inv X pins σ H s) (hH:H l = some (.lst xs)):xs.length ≤ sizeLine/\∃ (its:List Value) (n:Nat),Vals xs its/\xs.length = its.length/\s.heap.get? l = some { cls:=.type "list",data:=.seq its.toArray n }:=by
 obtain ⟨z,its,n,r,e⟩:=I.hok l _ hH
 exact ⟨z,its,n,r,r.length,e⟩
theorem notLongL {n:Nat} (h:n ≤ sizeLine):Builtin.List.listTooLong n = false:=by
 unfold Builtin.List.listTooLong
 exact decide_eq_false (by omega)
end
section
variable {X:Cx}
def rAppend:V->List V->Hp->VK->Prop:=fun x vs H Q=>∃ l xs y,x = .ref l/\vs = [y]/\H l = some (.lst xs)/\xs.length < sizeLine/\Q .non (upd H l (.lst (xs ++ [y])))
theorem mt_append:MtM X "list.append" rAppend:=by
 intro pins s σ H x vs v us Q I rx rv h
 obtain ⟨l,xs,y,rfl,rfl,hH,hz,q⟩:=h
 cases rx
 obtain ⟨u,rfl,ru⟩:=rv.one
 obtain ⟨z,its,n,r,hl,e⟩:=I.lstM hH
 refine call_meets F.slot_list_append ⟨_,e,rfl⟩ F.entry_list_append (F.args_list_append_2 _ _) (PySem.list_append l its.toArray n u (by rw [List.size_toArray];omega)) ⟨e,?_⟩
 refine ⟨.non,_,I.lset (its':=its ++ [u]) hH e (by simp) (r.append (.cons ru .nil)) ?_,rfl,q⟩
 rw [List.length_append,List.length_singleton]
 omega
end
section
variable {prog:Program} {w:World} {A:Around} {E:Value->Shared->Prop} {s:Shared}
set_option maxRecDepth 100000 in
end
section
variable {X:Cx}
end
end L2
namespace L2
open PySem PySem.Spec PyProof.Rows
section
variable {κ:Type} [DecidableEq κ]
def valV (kvs:List (κ × V)) (k:κ):Option V:=(kvs.find? fun kv=>decide (kv.1 = k)).map (·.2)
theorem valV_pos {p:κ × V} {r:List (κ × V)} {k:κ} (e:p.1 = k):valV (p :: r) k = some p.2:=by simp [valV,List.find?_cons,e]
theorem valV_neg {p:κ × V} {r:List (κ × V)} {k:κ} (e:¬ p.1 = k):valV (p :: r) k = valV r k:=by simp [valV,List.find?_cons,e]
theorem RelO.isSome_eq {o:Option V} {u:Option Value} (r:RelO o u):o.isSome = u.isSome:=by
 cases o with
 | none=>cases u with
  | none=>rfl
  | some _=>exact (show False from r).elim
 | some _=>cases u with
  | none=>exact (show False from r).elim
  | some _=>rfl
theorem KV.val {kvs:List (κ × V)} {vs:List (κ × Value)} (r:KV kvs vs) (k:κ):RelO (valV kvs k) (valueAt vs k):=by
 unfold KV at r
 induction r with
 | nil=>exact True.intro
 | @cons p q ps qs h t ih=>
  obtain ⟨h1,h2⟩:=h
  by_cases e:p.1 = k
  ·have e':q.1 = k:=h1.symm.trans e
   have b:valueAt (q :: qs) k = some q.2:=by simp [valueAt,List.find?_cons,e']
   rw [valV_pos e,b];exact h2
  ·have e':¬ q.1 = k:=fun z=>e (h1.trans z)
   have b:valueAt (q :: qs) k = valueAt qs k:=by simp [valueAt,List.find?_cons,e']
   rw [valV_neg e,b];exact ih
theorem KV.length {kvs:List (κ × V)} {vs:List (κ × Value)} (r:KV kvs vs):kvs.length = vs.length:=Paired.length r
end
theorem kV_is {P:Program} {w:World} {k:Key} {u:Value} (r:RelV (kV k) u):(mixKind P w).is k u = true:=by
 cases k with
 | inl i=>obtain ⟨t,e⟩:=(show ∃ t,u = Value.int i t from r);subst e;exact mixKind_int P w i t
 | inr x=>obtain ⟨t,e⟩:=(show ∃ t,u = Value.str x t from r);subst e;exact mixKind_str P w x t
theorem items_are {P:Program} {w:World}:∀ {ks:List Key} {us:List Value},Vals (ks.map kV) us->ItemsAre (mixKind P w) ks us
 | [],_,r=>by rw [List.map_nil] at r;cases r;exact .nil
 | k :: ks,_,r=>by
  rw [List.map_cons] at r
  cases r with
  | cons h t=>exact .cons (kV_is h) (items_are t)
abbrev KT (H:Hp):List (List Key × V)->List (List Key × Addr × Value)->Prop:=Paired fun p q=>p.1 = q.1/\H q.2.1 = some (.tup (p.1.map kV))/\RelV p.2 q.2.2
theorem KT.val {H:Hp} {kvs:List (List Key × V)} {xs:List (List Key × Addr × Value)} (r:KT H kvs xs) (k:List Key):RelO (valV kvs k) ((atKey xs k).map (·.2)):=by
 induction r with
 | nil=>exact True.intro
 | @cons p q ps qs h t ih=>
  obtain ⟨h1,_,h2⟩:=h
  by_cases e:p.1 = k
  ·have e':q.1 = k:=h1.symm.trans e
   have b:atKey (q :: qs) k = some q.2:=by simp [atKey,List.find?_cons,e']
   rw [valV_pos e,b];exact h2
  ·have e':¬ q.1 = k:=fun z=>e (h1.trans z)
   have b:atKey (q :: qs) k = atKey qs k:=by simp [atKey,List.find?_cons,e']
   rw [valV_neg e,b];exact ih
section
variable {P:Program} {w:World} {H:Hp} {h:Heap} {a:Addr}
theorem rd_of {u:HO} (ok:HOk P w H h) (e:Rd H a u):ObjOk P w H h a u:=e.ok ok
theorem dk_rd {kvs:List (Key × V)} (ok:HOk P w H h) (e:Rd H a (.dK kvs)):kvs.length ≤ sizeLine/\(a == sysModules) = false/\∃ vs,KV kvs vs/\h.DictOf (mixKind P w) a vs:=
 show ObjOk P w H h a (.dK kvs) from rd_of ok e
theorem key_of {ks:List Key} (ok:HOk P w H h) (e:H a = some (.tup (ks.map kV))):(tupleKind (mixKind P w)).is h ks a:=by
 obtain ⟨_,its,r,o,h1,h2,n,h3⟩:=(show ObjOk P w H h a (.tup (ks.map kV)) from ok a _ e)
 exact ⟨o,its.toArray,n,h1,h2,h3,by simpa using items_are r⟩
theorem dt_rd {kvs:List (List Key × V)} (ok:HOk P w H h) (e:Rd H a (.dT kvs)):kvs.length ≤ sizeLine/\(a == sysModules) = false ∧
  ∃ xs,KT H kvs xs/\h.DictOfH (tupleKind (mixKind P w)) a xs:=by
 obtain ⟨z,y,xs,r,o,es,ep,h1,h2,h3,h4,h5⟩:=(show ObjOk P w H h a (.dT kvs) from rd_of ok e)
 refine ⟨z,y,xs,r,o,es,ep,h1,h2,h3,h4,fun x hx=>?_,h5⟩
 have all:∀ {l:List (List Key × V)} {m:List (List Key × Addr × Value)},KT H l m->∀ x ∈ m,(tupleKind (mixKind P w)).is h x.1 x.2.1:=by
  intro l m q
  induction q with
  | nil=>intro x hx;exact nomatch hx
  | @cons p q ps qs hq t ih=>
   intro x hx
   rcases List.mem_cons.mp hx with e | hx
   ·subst e
    exact key_of ok (by rw [← hq.1];exact hq.2.1)
   ·exact ih x hx
 exact all r x hx
end
def DGet (H:Hp) (a:Addr) (y:V) (r:Option V):Prop:=
 (∃ kvs k,Rd H a (.dK kvs)/\y = kV k/\r = valV kvs k)\/∃ kvs k b,Rd H a (.dT kvs)/\y = .ref b/\H b = some (.tup (k.map kV))/\r = valV kvs k
section
variable {X:Cx} {pins:List (Addr × Obj)} {σ:St} {H:Hp} {s:Shared} {a:Addr} {y v:V} {u r:Value} {o:Option V} {A:Around} {E:Value->Shared->Prop}
theorem d_getItem {Q:Value->Shared->Prop} (hu:A.units + 1 < cLine) (I:Inv X pins σ H s) (g:DGet H a y (some v)) (ry:RelV y u) (h:∀ w' s',Inv X pins σ H s'->RelV v w'->Q w' s') :
  wpAny (model X.prog X.w) A (getItem (.ref a) u) Q E s:=by
 rcases g with ⟨kvs,k,e,ey,l⟩ | ⟨kvs,k,b,e,ey,eb,l⟩
 ·subst ey
  obtain ⟨z,hd,vs,rel,dd⟩:=dk_rd I.hok e
  obtain ⟨w',hw,rw'⟩:=RelO.some_of (v:=v) (o:=valueAt vs k) (by rw [l];exact rel.val k)
  exact wpAny_getItem_of (kV_is ry) dd.mapOf hw (h w' _ (I.tok _) rw')
 ·subst ey
  cases (show u = Value.ref b from ry)
  obtain ⟨z,hd,xs,rel,dd⟩:=dt_rd I.hok e
  obtain ⟨w',hw,rw'⟩:=RelO.some_of (v:=v) (o:=(atKey xs k).map (·.2)) (by rw [l];exact rel.val k)
  obtain ⟨p,hp,hp2⟩:=Option.map_eq_some_iff.mp hw
  refine wpAny_getItem_heap (tupleKind_room_in1 hu) (key_of I.hok eb) dd hp ?_
  rw [hp2]
  exact h w' _ (I.tok _) rw'
theorem d_in {Q:Value->Shared->Prop} (hu:A.units + 1 < cLine) (I:Inv X pins σ H s) (g:DGet H a y o) (ry:RelV y u) (h:∀ s',Inv X pins σ H s'->Q (.bool o.isSome) s') :
  wpAny (model X.prog X.w) A (compareOp .In u (.ref a)) Q E s:=by
 rcases g with ⟨kvs,k,e,ey,l⟩ | ⟨kvs,k,b,e,ey,eb,l⟩
 ·subst ey
  obtain ⟨z,hd,vs,rel,dd⟩:=dk_rd I.hok e
  refine wpAny_in_of (kV_is ry) hd dd.mapOf ?_
  rw [← (rel.val k).isSome_eq,← l]
  exact h _ (I.tok _)
 ·subst ey
  cases (show u = Value.ref b from ry)
  obtain ⟨z,hd,xs,rel,dd⟩:=dt_rd I.hok e
  refine wpAny_in_heap (tupleKind_room_in1 hu) (key_of I.hok eb) hd dd ?_
  have q:=(rel.val k).isSome_eq
  rw [Option.isSome_map] at q
  rw [← q,← l]
  exact h _ (I.tok _)
end
section
variable {X:Cx} {pins:List (Addr × Obj)} {σ:St} {H:Hp} {s:Shared} {a:Addr} {kvs:List (Key × V)} {k:Key} {u:Value} {A:Around} {E:Value->Shared->Prop}
theorem d_len {Q:Value->Shared->Prop} (I:Inv X pins σ H s) (e:Rd H a (.dK kvs)) (h:∀ t s',Inv X pins σ H s'->Q (.int kvs.length t) s'):wpAny (model X.prog X.w) A (call (.builtin "len") [.ref a]) Q E s:=by
 obtain ⟨z,hd,vs,rel,dd⟩:=dk_rd I.hok e
 refine call_len_dict hd dd (by rw [← rel.length];rw [sizeLine_eq] at z;omega) ?_
 rw [← rel.length]
 exact h _ _ (I.tok _)
end
theorem dict_typeIs {X:Cx} {pins:List (Addr × Obj)} {σ:St} {H:Hp} {s:Shared} {a:Addr} {y:V} {o:Option V} (I:Inv X pins σ H s) (g:DGet H a y o):s.TypeIs (.ref a) "dict":=by
 rcases g with ⟨kvs,k,e,_,_⟩ | ⟨kvs,k,b,e,_,_,_⟩
 ·obtain ⟨_,_,vs,_,dd⟩:=dk_rd I.hok e
  exact dd.typeIs
 ·obtain ⟨_,_,xs,_,dd⟩:=dt_rd I.hok e
  exact dd.typeIs
section
variable {X:Cx} {o i e value:Expr} {pos pos' tpos:Pos} {td ty tv:TE}
end
section
variable {X:Cx} {pos:Pos}
end
section
variable {X:Cx} {pins:List (Addr × Obj)} {σ:St} {H:Hp} {s:Shared} {a:Addr} {y d:V} {u r:Value} {o:Option V} {A:Around} {E:Value->Shared->Prop}
end
section
variable {X:Cx} {o e f:Expr} {apos cpos:Pos} {td ty tx:TE}
end
section
variable {X:Cx} {pins:List (Addr × Obj)} {σ:St} {H:Hp} {s:Shared} {a:Addr} {kvs:List (Key × V)} {A:Around} {E:Value->Shared->Prop}
end
section
variable {X:Cx} {pins:List (Addr × Obj)} {σ:St} {H:Hp} {s:Shared} {a:Addr} {y:V} {u:Value} {A:Around} {E:Value->Shared->Prop}
end
end L2
namespace Att
open PySem PySem.W PySem.Calls PyProof.Rows
theorem ints_of_wellAll {P:Params} {h:Heap}:∀ (ns:List Int) (vs:List Value),WellAll P h vs (ns.map WData.int)->IntsAre vs ns:=by
 intro ns
 induction ns with
 | nil=>
  intro vs w
  rw [List.map_nil] at w
  cases w
  exact .nil
 | cons n ns ih=>
  intro vs w
  rw [List.map_cons] at w
  cases w with
  | cons a b=>
   cases a
   exact .cons _ _ (ih _ b)
theorem script_of {l:OpenLaw} {n:Nat} (hn:l.most = some n) {P:Params} {h:Heap} {args:List WData} {vals:List Value}
  (hpre:l.row.toRowW.claim.pre args = true) (hwl:WellAll P h vals args) :
  ∃ a vs ns,vals = [Value.ref a]/\args = [WData.list (ns.map WData.int)]/\h.get? a = some { cls:=.type "list",data:=.seq vs.toArray }/\IntsAre vs ns/\ns.length ≤ n:=by
 have hsh:WShape.hasAll [] args [.list .int] = true:=(pre_splitW hpre).1
 have hc:l.pre.holds [] { args:=args } = true:=(pre_splitW hpre).2
 obtain ⟨d,r,rfl,h1,h2⟩:=hasAllW_cons hsh
 obtain rfl:=hasAllW_nil h2
 obtain ⟨xs,rfl,h3⟩:=hasW_list h1
 obtain ⟨ns,rfl⟩:=items_int h3
 have hlen:ns.length ≤ n:=by
  unfold OpenLaw.pre at hc
  have h4:(WTm.not (.lt (.lit (.int (n:Int))) (.len (.arg 0)))).holds [] { args:=[.list (ns.map .int)] } = true:=by
   have h4:=(holds_andW hc).1
   rw [hn] at h4
   exact h4
  have h5:=condW_of h4 (w_not (w_lt w_lit (w_len_list (w_arg rfl))))
  rw [List.length_map] at h5
  refine Nat.le_of_not_lt fun q=>?_
  have q':(n:Int) < ((ns.length:Nat):Int):=by omega
  first
   | (rw [decide_eq_true q'] at h5;exact absurd h5 (by decide))
   | (simp at h5;omega)
 cases hwl with
 | cons w1 w2=>
  cases w2
  cases w1 with
  | list ho hall=>exact ⟨_,_,ns,rfl,rfl,ho,ints_of_wellAll ns _ hall,hlen⟩
theorem post_true (l:OpenLaw) (args:List WData):l.row.toRowW.claim.post args (.bool true) args = true:=
 postW_of (r:=l.row.toRowW) (X:=(true == true))
  (show WShape.has [] (.bool true) .bool = true by first | rfl | decide | simp [WShape.has,WShape.arms,WShape.armsAll])
  (show (WTm.eq .res (.lit (.bool true))).value [] { args:=args,res:=some (.bool true),after:=args } = some (.bool (true == true)) from w_eq_bool (w_res rfl) w_lit) rfl
theorem attach_call {l:OpenLaw} {n:Nat} {q:Program} {loose:List Str} {XP:(Str->Option Value)->Heap->Prop} {YP:World->Heap->Prop} {d:DefRec}
  (hn:l.most = some n) (hdf:d.params.defaults = [])
  (call:∀ (w:World) (s₀ s₁:Shared) (mg mb:Str->Option Value) (fa:Addr) (o:Obj) (pm cd doc:Value) (a:Addr) (vs:List Value) (ns:List Int),
   Ground q loose [] XP w s₀ mg mb s₁.heap->YP w s₁.heap →
   s₁.heap.get? fa = some o->o.data = .func (docDef d.name d.params d.body d.scope pm cd doc)->s₁.heap.CodeRec cd d.name->mg d.name = some (.ref fa) →
   s₁.heap.get? a = some { cls:=.type "list",data:=.seq vs.toArray }->IntsAre vs ns->ns.length ≤ n->s₁.gens = #[] →
   codeAny (model l.prog w) callerA (.call (.ref fa) ⟨[.ref a],[]⟩) (fun r s'=>r = .ok (.ret (.bool true))/\OldK s₁.heap s'.heap/\s'.os = s₁.os/\AllBare s'.gens) s₁) :
  WalkO q loose XP YP l.row.toRowW d [] (fun f vs=>PySem.call f vs):=by
 intro w s₀ s₁ mg mb G Y fa o pm cd doc dV kV ho hd hcd hD hmg hg args vals as hpre hlay hrd hwl hlo
 obtain rfl:dV = .none:=Dflts.none hD hdf
 obtain rfl:kV = .none:=Dflts.noKw hD
 obtain ⟨a,vs,ns,rfl,rfl,hobj,hints,hlen⟩:=script_of hn hpre hwl
 refine enter_call (codeAny_mono (call w s₀ s₁ mg mb fa o pm cd doc a vs ns G Y ho (fd_plain hd) hcd hmg hobj hints hlen hg) fun r s' hq=>?_)
 obtain ⟨rfl,h2,h3,h4⟩:=hq
 exact ⟨.inl ⟨.bool true,.bool true,[],rfl,fun _=>rfl,.bool true,post_true l _,fun _=>⟨List.Pairwise.nil,fun _ hm=>(nomatch hm)⟩⟩,h2,h3,h4⟩
section
variable {prog:Program} {w:World} {A:Around} {E:Value->Shared->Prop} {s:Shared} {K:Frag}
end
end Att
namespace L2
open PySem PySem.Spec PyProof.Rows
theorem vals_ints:∀ {vs:List Value} {ns:List Int},IntsAre vs ns->Vals (ns.map V.int) vs
 | _,_,.nil=>.nil
 | _,_,.cons n t h=>.cons ⟨t,rfl⟩ (vals_ints h)
def Only (H:Hp):Prop:=∀ b,H b = none\/∃ o xs,H b = some (.frz o (.lst xs))
theorem law_call {P:Program} {w:World} {K:PySem.W.Frag} {mg mb:Str->Option Value} {CX:CXT} {k:Nat} {fa a:Addr} {fd:FuncData} {x:Str} {sp:Sp} {s₁:Shared} {vs:List Value} {ns:List Int}
  (KX:K.In s₁.heap) (hns:s₁.heap.Ns mainGlobals mg) (hb:s₁.heap.Ns builtinsNs mb) (hbb:∀ x:Str,x ≠ "__name__"->mb x = bootBuiltins x) (hlim:s₁.heap.NoLimit) (hg:s₁.gens = #[])
  (ha:s₁.heap.get? a = some { cls:=.type "list",data:=.seq vs.toArray }) (hi:IntsAre vs ns) (hl:ns.length ≤ sizeLine) (hr:Room k callerA)
  (F:∀ base:Heap,K.In base->base.Ns mainGlobals mg->FnOk P w K mg base CX k fa fd [x] sp) (hbind:∀ (s:Shared) (u:Value),BindsTo s fd ⟨[u],[]⟩ [(x,u)])
  (hsp:∀ H:Hp,Only H->SqL K H a (ns.map V.int)->sp [.ref a] H (fun v _=>v = .bl true) fun _ _ _=>False)
  (hCX:∀ H e s',CX [] H s₁ (fun _ _ _=>False) e s'->False) :
  codeAny (model P w) callerA (.call (.ref fa) ⟨[.ref a],[]⟩) (fun r s'=>r = .ok (.ret (.bool true))/\OldK s₁.heap s'.heap/\s'.os = s₁.os/\AllBare s'.gens) s₁:=by
 have rv:=vals_ints hi
 have lenV:=hi.length
 have core:∀ H:Hp,Only H->SqL K H a (ns.map V.int)->HOk P w H s₁.heap->(∀ b,H b ≠ none->b = a)->(H a ≠ none->K.lookup a = none) →
   codeAny (model P w) callerA (.call (.ref fa) ⟨[.ref a],[]⟩) (fun r s'=>r = .ok (.ret (.bool true))/\OldK s₁.heap s'.heap/\s'.os = s₁.os/\AllBare s'.gens) s₁:=by
  intro H hO hS hok hA hK
  have base_of:∀ {b:Addr} {o:Obj},s₁.heap.get? b = some o->H b = none->(hidT s₁.heap H).get? b = some o:=fun e n=>hidT_get e n
  have noA:∀ {b:Addr} {o:Obj} {es:Array DictEntry} {ep:Nat},s₁.heap.get? b = some o->o.data = .dict es ep->H b = none:=fun {b o es ep} e d=>by
   cases q:H b with
   | none=>rfl
   | some u=>
    have e':b = a:=hA b (by rw [q];simp)
    subst e'
    rw [ha] at e;cases e
    have d':Data.seq vs.toArray _ = Data.dict es ep:=d
    cases d'
  have nsK:∀ {b:Addr} {m:Str->Option Value},s₁.heap.Ns b m->(hidT s₁.heap H).Ns b m:=fun {b m} ⟨o,es,ep,e,d,r⟩=>⟨o,es,ep,base_of e (noA e d),d,r⟩
  have hKb:K.In (hidT s₁.heap H):=fun b o e=>base_of (KX b o e) (by
   cases q:H b with
   | none=>rfl
   | some u=>
    have e':b = a:=hA b (by rw [q];simp)
    subst e'
    rw [hK (by rw [q];simp)] at e;cases e)
  have hM:Mod K mg (hidT s₁.heap H):=⟨hKb,nsK hns,⟨mb,nsK hb,hbb⟩,let ⟨mc,h1,h2⟩:=hlim;⟨mc,nsK h1,h2⟩⟩
  have e0:Env0 P w K mg (hidT s₁.heap H) callerA [] s₁ H:=⟨rfl,hM,fun b o e=>of_hidT e,Nat.le_of_eq (hidT_size _ _),trivial,fun b hb=>absurd (show b ∈ ([]:List Addr) from hb) (by simp),hok,.of_eq hg⟩
  refine codeAny_mono ((F _ hKb (nsK hns)).run callerA [] s₁ H ⟨[.ref a],[]⟩ [.ref a] [.ref a] _ _ hr e0 (hbind s₁ (.ref a)) (.cons rfl .nil) (hsp H hO hS)) fun r s' h=>?_
  cases r with
  | error e=>exact (hCX H e s' h).elim
  | ok fl=>
   cases fl with
   | next=>exact False.elim h
   | brk=>exact False.elim h
   | cont=>exact False.elim h
   | ret u=>
    obtain ⟨v,H',os,bare,un,hok',r',q⟩:=h
    have q':v = .bl true:=q
    subst q'
    obtain rfl:u = Value.bool true:=r'
    refine ⟨rfl,OldK.of_keep fun b o e=>?_,os,bare⟩
    cases q:H b with
    | none=>exact un.keep b o e q (by intro z;exact absurd (show b ∈ ([]:List Addr) from z) (by simp)) (by simp)
    | some u=>
     rcases hO b with z | ⟨ob,xs,z⟩
     ·rw [q] at z;cases z
     ·have z2:=un.frzs b ob _ z
      obtain ⟨e1,_⟩:=hok b _ z
      obtain ⟨e2,_⟩:=hok' b _ z2
      rw [e] at e1;cases e1
      exact e2
 cases hk:K.lookup a with
 | some o=>
  have e:=KX a o hk
  rw [ha] at e
  cases e
  refine core (fun _=>none) (fun _=>.inl rfl) (.inr ⟨_,vs.toArray,_,hk,rfl,rfl,rfl,by rw [List.size_toArray,lenV];exact hl,by simpa using rv⟩) (fun b u z=>by have z':(none:Option HO) = some u:=z;cases z') (fun b z=>absurd rfl z) fun z=>absurd rfl z
 | none=>
  refine core (fun b=>if b = a then some (.frz { cls:=.type "list",data:=.seq vs.toArray } (.lst (ns.map V.int))) else none) (fun b=>?_) (.inl (.inr ⟨{ cls:=.type "list",data:=.seq vs.toArray },if_pos rfl⟩)) (fun b u z=>?_) (fun b z=>?_) fun _=>hk
  ·by_cases hb:b = a
   ·exact .inr ⟨_,_,if_pos hb⟩
   ·exact .inl (if_neg hb)
  ·by_cases hb:b = a
   ·have z':=(if_pos hb).symm.trans z
    cases z'
    subst hb
    exact ⟨ha,by rw [List.length_map];exact hl,vs,_,rv,ha⟩
   ·have z':=(if_neg hb).symm.trans z
    cases z'
  ·by_cases hb:b = a
   ·exact hb
   ·exact absurd (if_neg hb) z
end L2
namespace L2
open PySem PySem.Spec PyProof.Rows
theorem walk_of {l:PySem.W.OpenLaw} {n k:Nat} {q:Program} {loose:List Str} {XP:(Str->Option Value)->Heap->Prop} {YP:World->Heap->Prop} {d:DefRec} {K:Params->PySem.W.Frag} {CX:World->CXT} {sp:World->Sp} {x:Str}
  (hn:l.most = some n) (hn2:n ≤ sizeLine) (hdf:d.params.defaults = []) (hr:Room k callerA)
  (hY:∀ (w:World) (h:Heap),YP w h->(K w.params).In h)
  (F:∀ (w:World) (mg:Str->Option Value) (fa:Addr) (h:Heap),(K w.params).In h->h.Ns mainGlobals mg->mg d.name = some (.ref fa) →
   ∃ fd:FuncData,(∀ (s:Shared) (u:Value),BindsTo s fd ⟨[u],[]⟩ [(x,u)]) ∧
    ∀ base:Heap,(K w.params).In base->base.Ns mainGlobals mg->FnOk l.prog w (K w.params) mg base (CX w) k fa fd [x] (sp w))
  (hsp:∀ (w:World) (H:Hp) (a:Addr) (ns:List Int),ns.length ≤ n->Only H->SqL (K w.params) H a (ns.map V.int)->sp w [.ref a] H (fun v _=>v = .bl true) fun _ _ _=>False)
  (hCX:∀ (w:World) (H:Hp) (s:Shared) (e:Value) (s':Shared),CX w [] H s (fun _ _ _=>False) e s'->False) :
  PySem.W.WalkO q loose XP YP l.row.toRowW d [] (fun f vs=>PySem.call f vs):=by
 refine Att.attach_call hn hdf fun w s₀ s₁ mg mb fa o pm cd doc a vs ns G Y ho hd hcd hmg hobj hints hlen hg=>?_
 have KX:=hY w _ Y
 obtain ⟨fd,hb,hF⟩:=F w mg fa _ KX G.T.g hmg
 exact law_call KX G.T.g G.T.b G.T.builtins G.T.nolimit hg hobj hints (Nat.le_trans hlen hn2) hr hF hb (fun H hO hS=>hsp w H a ns hlen hO hS) fun H e s'=>hCX w H s₁ e s'
end L2
namespace L2
open PySem PySem.Spec PyProof.Rows
def defArgs (s:Stmt):Arguments:=match s with
 | .FunctionDef _ a _ _ _ _ _ _ _ _=>a
 | _=>{ posonlyargs:=[],args:=[],vararg:=none,kwonlyargs:=[],kw_defaults:=[],kwarg:=none,defaults:=[] }
def defBody (s:Stmt):List Stmt:=match s with
 | .FunctionDef _ _ b _ _ _ _ _ _ _=>b
 | _=>[]
def defScope (s:Stmt):Scope:=match s with
 | .FunctionDef _ _ _ _ _ _ sc _ _ _=>sc
 | _=>{ kind:=.function,names:=[],isGenerator:=false,isCoroutine:=false }
abbrev CX0:CXT:=fun _ _ _ _ _ _=>False
structure Fun (K:PySem.W.Frag) (x qual:Str) (st:Stmt) (f:Addr) (fd:FuncData):Prop where
 ex:∃ (oc:Value) (od:Option Addr) (kV doc pm:Value) (an:Option Addr) (cdv ct:Value) (osl:Array (Option Value)),
  fd = PySem.W.fnOf x qual (defArgs st) (defBody st) (defScope st) .none kV doc pm an cdv ct/\K.lookup f = some ⟨oc,od,.func fd,osl⟩/\PySem.W.codeIn K cdv qual = true
 kp:PySem.W.keepIn K (.ref f) = true
section
variable {P:Program} {w:World} {K:PySem.W.Frag} {mg:Str->Option Value} {base:Heap}
theorem Fun.binds {x qual:Str} {st:Stmt} {f:Addr} {fd:FuncData} {ps:List Str} (F:Fun K x qual st f fd)
  (h:∀ (kV doc pm:Value) (an:Option Addr) (cdv ct:Value) (us:List Value),us.length = ps.length->bindArgs (PySem.W.fnOf x qual (defArgs st) (defBody st) (defScope st) .none kV doc pm an cdv ct) ⟨us,[]⟩ = pure (ps.zip us)):Binds K fd ps []:=by
 obtain ⟨oc,od,kV,doc,pm,an,cdv,ct,osl,rfl,lk,hcd⟩:=F.ex
 exact .all (h kV doc pm an cdv ct)
theorem fun_mk {x qual:Str} {st:Stmt} {f:Addr} {oc:Value} {od an:Option Addr} {osl:Array (Option Value)} {kV doc pm cdv ct:Value} (l:K.lookup f = some ⟨oc,od,.func (PySem.W.fnOf x qual (defArgs st) (defBody st) (defScope st) .none kV doc pm an cdv ct),osl⟩)
  (c:PySem.W.codeIn K cdv qual = true) (k:PySem.W.keepIn K (.ref f) = true):Fun K x qual st f (PySem.W.fnOf x qual (defArgs st) (defBody st) (defScope st) .none kV doc pm an cdv ct):=⟨⟨oc,od,kV,doc,pm,an,cdv,ct,osl,rfl,l,c⟩,k⟩
end
section
variable {X:Cx}
theorem pv (i:Nat) {x:Str} {pos:Pos} (hN:X.N[i]? = some x:=by rfl) (hv:Vis X.env.scope x:=by first | exact Or.inl rfl | exact Or.inr (Or.inl rfl) | exact Or.inr (Or.inr rfl)) (hd:(x == ("__debug__":Str)) = false:=by decide)
  (hcd:(x == ("__classdict__":Str)) = false:=by decide):PE X (.Name x pos) (tVar i):=pe_var hN hv hd hcd
end
def Same (H H':Hp):Prop:=∀ b o,H b = some o->H' b = some o
theorem Same.refl (H:Hp):Same H H:=fun _ _ h=>h
theorem Same.trans {H H1 H2:Hp} (a:Same H H1) (b:Same H1 H2):Same H H2:=fun c o h=>b c o (a c o h)
theorem Same.free {H H':Hp} (e:Same H H') {l:Addr} (h:H' l = Option.none):H l = Option.none:=by
 cases q:H l with
 | none=>rfl
 | some o=>
  rw [e l o q] at h
  cases h
theorem Same.seq {K:PySem.W.Frag} {H H':Hp} {a:Addr} {xs:List V} (e:Same H H') (h:SqL K H a xs):SqL K H' a xs:=by
 rcases h with (h | ⟨o,h⟩) | h
 ·exact .inl (.inl (e _ _ h))
 ·exact .inl (.inr ⟨o,e _ _ h⟩)
 ·exact .inr h
section
variable {X:Cx}
end
section
variable {κ:Type} [DecidableEq κ]
end
end L2
namespace L2
open PySem PySem.Spec PyProof.Rows
def closF (env:Env) (cs:List (Str × Addr)) (y:Str × NameKind):List (Str × Addr):=
 if (y.2 == NameKind.free) = true then (y.1,(env.cells.lookup y.1).getD 0) :: cs else cs
def closL (env:Env) (names:List (Str × NameKind)):List (Str × Addr):=names.foldl (closF env) []
theorem clos_from {env:Env}:∀ (names:List (Str × NameKind)) (cs:List (Str × Addr)),(∀ y ∈ names,y.2 = .free->∃ c,env.cells.lookup y.1 = some c) →
  (forIn names cs fun y r=>(if (y.2 == NameKind.free) = true then do let a ← cellOf env y.1;pure (ForInStep.yield ((y.1,a) :: r)) else pure (ForInStep.yield r):Sem (ForInStep (List (Str × Addr))))) = pure (names.foldl (closF env) cs)
 | [],cs,_=>rfl
 | y :: r,cs,h=>by
  rw [List.forIn_cons,List.foldl_cons]
  by_cases hy:(y.2 == NameKind.free) = true
  ·obtain ⟨c,hc⟩:=h y List.mem_cons_self (eq_of_beq hy)
   have e:cellOf env y.1 = pure c:=by unfold cellOf;rw [hc]
   rw [if_pos hy,e,pure_bind,pure_bind]
   have e2:closF env cs y = (y.1,c) :: cs:=by unfold closF;rw [if_pos hy,hc];rfl
   rw [e2]
   exact clos_from r _ fun z hz=>h z (List.mem_cons_of_mem _ hz)
  ·rw [if_neg hy,pure_bind]
   have e2:closF env cs y = cs:=by unfold closF;rw [if_neg hy]
   rw [e2]
   exact clos_from r _ fun z hz=>h z (List.mem_cons_of_mem _ hz)
theorem clos_ok {env:Env} {scope:Scope} (h:∀ y ∈ scope.names,y.2 = .free->∃ c,env.cells.lookup y.1 = some c):closureFor scope env = pure (closL env scope.names):=by
 have e:=clos_from (env:=env) scope.names [] h
 unfold closL
 rw [← e]
 simp only [closureFor,bind_pure_comp,map_pure,bind_pure]
theorem clos_sub {env:Env}:∀ (names:List (Str × NameKind)) (cs:List (Str × Addr)),(∀ y ∈ names,y.2 = .free->∃ c,env.cells.lookup y.1 = some c)->(∀ x c,cs.lookup x = some c->env.cells.lookup x = some c) →
  ∀ x c,(names.foldl (closF env) cs).lookup x = some c->env.cells.lookup x = some c
 | [],cs,_,hc,x,c,e=>hc x c e
 | y :: r,cs,h,hc,x,c,e=>by
  rw [List.foldl_cons] at e
  refine clos_sub r _ (fun z hz=>h z (List.mem_cons_of_mem _ hz)) (fun z d q=>?_) x c e
  unfold closF at q
  by_cases hy:(y.2 == NameKind.free) = true
  ·obtain ⟨c',hc'⟩:=h y List.mem_cons_self (eq_of_beq hy)
   rw [if_pos hy,List.lookup_cons,hc'] at q
   cases hz:z == y.1 with
   | true=>
    rw [hz] at q
    have q':c' = d:=Option.some.inj q
    rw [eq_of_beq hz,hc',q']
   | false=>
    rw [hz] at q
    exact hc z d q
  ·rw [if_neg hy] at q
   exact hc z d q
theorem clos_has {env:Env}:∀ (names:List (Str × NameKind)) (cs:List (Str × Addr)) (x:Str),((x,NameKind.free) ∈ names\/∃ c,cs.lookup x = some c)->∃ c,(names.foldl (closF env) cs).lookup x = some c
 | [],cs,x,h=>by
  rcases h with h | h
  ·cases h
  ·exact h
 | y :: r,cs,x,h=>by
  rw [List.foldl_cons]
  refine clos_has r _ x ?_
  rcases h with h | ⟨c,h⟩
  ·rcases List.mem_cons.mp h with e | e
   ·subst e
    refine .inr ⟨(env.cells.lookup x).getD 0,?_⟩
    unfold closF
    rw [if_pos (show ((x,NameKind.free).2 == NameKind.free) = true from rfl),List.lookup_cons,beq_self_eq_true]
   ·exact .inl e
  ·refine .inr ?_
   unfold closF
   by_cases hy:(y.2 == NameKind.free) = true
   ·rw [if_pos hy,List.lookup_cons]
    cases hz:x == y.1 with
    | true=>exact ⟨_,rfl⟩
    | false=>exact ⟨c,h⟩
   ·rw [if_neg hy]
    exact ⟨c,h⟩
abbrev cxComp (X:Cx) (scope:Scope) (N:List Str) (s:Shared) (H:Hp) (fp:List Addr):Cx where
 prog:=X.prog
 w:=X.w
 K:=X.K
 mg:=X.mg
 base:=X.base
 A:=X.A
 N:=N
 s₀:=s
 H₀:=H
 env:=compEnvC scope (closL X.env scope.names) s.heap.objs.size X.env
 outer:=X.stack
 stack:=X.stack
 ex:=fp
 fn:=fun _=>false
 calm:=X.calm
 pn:=[]
 xe:=fun _ _=>False
structure CompTx (osc scope:Scope) (N0:List Str) (xs:List Str) (fr:List Nat):Prop where
 kind:scope.kind = .function
 nocell:∀ y ∈ scope.names,y.2 ≠ .cell
 names:∀ y ∈ scope.names,y.2 = .local->scope.names.lookup y.1 = some .local
 free:∀ y ∈ scope.names,y.2 = .free->osc.names.lookup y.1 = some .cell\/osc.names.lookup y.1 = some .free
 fro:∀ j ∈ fr,∃ x,N0[j]? = some x/\scope.names.lookup x = some .free
 nd:(xs ++ fr.map fun j=>N0.getD j "").Nodup
def compN (N0:List Str) (xs:List Str) (fr:List Nat):List Str:=xs ++ fr.map fun j=>N0.getD j ""
def compSt (xs:List Str) (fr:List Nat) (σ:St):St:=xs.map (fun _=>none) ++ fr.map fun j=>(σ[j]?).join
theorem mem_of_lookup' {κ:Type}:∀ {l:List (Str × κ)} {x:Str} {k:κ},l.lookup x = some k->(x,k) ∈ l
 | [],_,_,h=>by cases h
 | (n,k') :: r,x,k,h=>by
  rw [List.lookup_cons] at h
  cases hx:x == n with
  | true=>
   rw [hx] at h
   have h':k' = k:=Option.some.inj h
   rw [eq_of_beq hx,h']
   exact List.mem_cons_self
  | false=>
   rw [hx] at h
   exact List.mem_cons_of_mem _ (mem_of_lookup' h)
theorem relabel_look {env:Env}:∀ {names:List (Str × NameKind)} {x:Str} {k:NameKind},
  (names.map fun (n,k)=>if (k == NameKind.free && env.scope.kind == .function && env.kindOf n == some .cell) then (n,NameKind.cell) else (n,k)).lookup x = some k →
  names.lookup x = some k\/(k = .cell/\names.lookup x = some .free)
 | [],_,_,h=>by cases h
 | (n,k') :: r,x,k,h=>by
  have ih:=@relabel_look env r x k
  rw [List.map_cons] at h
  rw [List.lookup_cons]
  by_cases hc:(k' == NameKind.free && env.scope.kind == .function && env.kindOf n == some .cell) = true
  ·have h':List.lookup x ((n,NameKind.cell) :: (r.map fun (n,k)=>if (k == NameKind.free && env.scope.kind == .function && env.kindOf n == some .cell) then (n,NameKind.cell) else (n,k))) = some k:=by
    rw [← h];simp only [hc,if_true]
   rw [List.lookup_cons] at h'
   cases hx:x == n with
   | true=>
    rw [hx] at h'
    have h2:NameKind.cell = k:=Option.some.inj h'
    rw [Bool.and_eq_true,Bool.and_eq_true] at hc
    exact .inr ⟨h2.symm,congrArg some (eq_of_beq hc.1.1)⟩
   | false=>
    rw [hx] at h'
    exact ih h'
  ·have h':List.lookup x ((n,k') :: (r.map fun (n,k)=>if (k == NameKind.free && env.scope.kind == .function && env.kindOf n == some .cell) then (n,NameKind.cell) else (n,k))) = some k:=by
    rw [← h];simp only [hc];rfl
   rw [List.lookup_cons] at h'
   cases hx:x == n with
   | true=>
    rw [hx] at h'
    exact .inl h'
   | false=>
    rw [hx] at h'
    exact ih h'
theorem relabel_free {env:Env}:∀ {names:List (Str × NameKind)} {x:Str},names.lookup x = some .free →
  (names.map fun (n,k)=>if (k == NameKind.free && env.scope.kind == .function && env.kindOf n == some .cell) then (n,NameKind.cell) else (n,k)).lookup x = some .cell ∨
  (names.map fun (n,k)=>if (k == NameKind.free && env.scope.kind == .function && env.kindOf n == some .cell) then (n,NameKind.cell) else (n,k)).lookup x = some .free
 | [],_,h=>by cases h
 | (n,k') :: r,x,h=>by
  have ih:=@relabel_free env r x
  rw [List.lookup_cons] at h
  rw [List.map_cons]
  by_cases hc:(k' == NameKind.free && env.scope.kind == .function && env.kindOf n == some .cell) = true
  ·have e:(match (n,k') with | (n,k)=>if (k == NameKind.free && env.scope.kind == .function && env.kindOf n == some .cell) then (n,NameKind.cell) else (n,k)) = (n,NameKind.cell):=by
    simp only [hc,if_true]
   rw [e,List.lookup_cons]
   cases hx:x == n with
   | true=>exact .inl rfl
   | false=>rw [hx] at h;exact ih h
  ·have e:(match (n,k') with | (n,k)=>if (k == NameKind.free && env.scope.kind == .function && env.kindOf n == some .cell) then (n,NameKind.cell) else (n,k)) = (n,k'):=by
    simp only [hc];rfl
   rw [e,List.lookup_cons]
   cases hx:x == n with
   | true=>
    rw [hx] at h
    exact .inr h
   | false=>rw [hx] at h;exact ih h
section
variable {X:Cx}
theorem comp_free {osc scope:Scope} {N0 xs:List Str} {fr:List Nat} {pins:List (Addr × Obj)} {σ:St} {H:Hp} {s:Shared} (C:CompTx osc scope N0 xs fr) (ho:X.env.scope = osc) (I:Inv X pins σ H s) :
  ∀ y ∈ scope.names,y.2 = .free->∃ c,X.env.cells.lookup y.1 = some c:=fun y hy e=>by
 refine I.ok.has y.1 ?_
 rw [← ho] at C
 exact C.free y hy e
theorem comp_start {osc scope:Scope} {N0 xs:List Str} {fr:List Nat} {pins:List (Addr × Obj)} {σ:St} {H:Hp} {s:Shared} {fp:List Addr} {h₁:Heap} {tk:Nat} (C:CompTx osc scope N0 xs fr) (ho:X.env.scope = osc) (hN0:X.N = N0) (I:Inv X pins σ H s)
  (hf:∀ b ∈ fp,FpOk X pins H b) (hlt:∀ b ∈ fp,b < s.heap.objs.size) (hn:h₁.Ns s.heap.objs.size fun _=>none) (hk:∀ b o,s.heap.get? b = some o->h₁.get? b = some o) :
  Inv (cxComp X scope (compN N0 xs fr) s H fp) [] (compSt xs fr σ) H { s with heap:=h₁,toks:=tk }:=by
 subst hN0
 have hfree:=comp_free C ho I
 have sub:=clos_sub (env:=X.env) scope.names [] hfree (fun x c e=>by cases e)
 have nC:∀ x c,X.env.cells.lookup x = some c->c ≠ s.heap.objs.size:=fun x c e z=>by
  obtain ⟨v,q⟩:=I.cell x c e
  exact absurd q.lt (by rw [z];exact Nat.lt_irrefl _)
 refine ⟨⟨I.ok.mod,C.kind,I.ok.glob,I.ok.blt,Nat.le_refl _,fun x y c h1 h2=>I.ok.inj x y c (sub x c h1) (sub y c h2),fun x hx=>?_,fun x c h _=>(Bool.false_ne_true h).elim,I.ok.hd,I.ok.frames,.inl rfl,fun b hb=>?_,I.bs,Nat.le_trans I.ok.bsz I.sz,fun b o e hb=>?_,fun b hb hz=>?_,I.stack,I.stkFree⟩,
  rfl,I.bare,Un.kept hk,⟨_,hn,fun i x v h1 h2 h3=>?_⟩,fun x c h=>?_,I.hok.fresh (Nat.le_refl _),fun x c h=>I.freeC x c (sub x c h),fun p hp=>absurd (show p ∈ ([]:List (Addr × Obj)) from hp) (by simp),I.hok.kept hk,?_⟩
 ·have hx':(relabel scope X.env).names.lookup x = some .cell\/(relabel scope X.env).names.lookup x = some .free:=hx
  refine clos_has (env:=X.env) scope.names [] x (.inl ?_)
  rcases hx' with q | q
  ·rcases relabel_look q with z | ⟨_,z⟩
   ·exact absurd rfl (C.nocell _ (mem_of_lookup' z))
   ·exact mem_of_lookup' z
  ·rcases relabel_look q with z | ⟨z,_⟩
   ·exact mem_of_lookup' z
   ·cases z
 ·exact ⟨Nat.ne_of_lt (hlt b hb),fun x c h=>(hf b hb).2.2.2.2.1 x c (sub x c h)⟩
 ·rcases (hf b hb).2.2.2.1 with z | z
  ·exact I.ok.noex b o e z
  ·exact absurd (Nat.lt_of_lt_of_le (Heap.lt_size e) (Nat.le_trans I.ok.bsz z)) (Nat.lt_irrefl _)
 ·rcases List.mem_cons.mp (I.stkSub b hz) with z | z
  ·exact (hf b hb).2.1 z
  ·exact (hf b hb).2.2.1 z
 ·
  have hi:¬ i < xs.length:=fun hi=>by
   unfold compSt at h2
   rw [List.getElem?_append_left (by rw [List.length_map];exact hi),List.getElem?_map] at h2
   cases q:xs[i]? with
   | none=>rw [q] at h2;cases h2
   | some y=>rw [q] at h2;cases h2
  have hi':xs.length ≤ i:=Nat.le_of_not_lt hi
  have e2:(fr.map fun j=>(σ[j]?).join)[i - xs.length]? = some (some v):=by
   have:=h2
   unfold compSt at this
   rw [List.getElem?_append_right (by rw [List.length_map];exact hi'),List.length_map] at this
   exact this
  rw [List.getElem?_map] at e2
  cases q:fr[i - xs.length]? with
  | none=>rw [q] at e2;cases e2
  | some j=>
   rw [q] at e2
   have e3:(σ[j]?).join = some v:=Option.some.inj e2
   have e4:σ[j]? = some (some v):=by
    cases z:σ[j]? with
    | none=>rw [z] at e3;cases e3
    | some u=>rw [z] at e3;rw [show u = some v from e3]
   obtain ⟨y,hy,hyf⟩:=C.fro j (List.mem_of_getElem? q)
   have ex:x = y:=by
    have h1':(compN X.N xs fr)[i]? = some x:=h1
    unfold compN at h1'
    rw [List.getElem?_append_right hi',List.getElem?_map,q] at h1'
    have h5:X.N.getD j "" = x:=Option.some.inj h1'
    rw [← h5,List.getD_eq_getElem?_getD,hy]
    rfl
   subst ex
   obtain ⟨m,_,hl⟩:=I.loc
   have kf:=C.free _ (mem_of_lookup' hyf) rfl
   rw [← ho] at kf
   have vis:Vis X.env.scope x:=by
    rcases kf with z | z
    ·exact .inr (.inl z)
    ·exact .inr (.inr z)
   obtain ⟨u,r,l⟩:=hl j x v hy e4 vis
   refine ⟨u,r,.inr ⟨relabel_free hyf,?_⟩⟩
   rcases l with ⟨z,_⟩ | ⟨_,c,hc,hcell⟩
   ·have z':X.env.scope.names.lookup x = some .local:=z
    rcases kf with w | w
    ·rw [z'] at w;cases w
    ·rw [z'] at w;cases w
   ·obtain ⟨c',hc'⟩:=clos_has (env:=X.env) scope.names [] x (.inl (mem_of_lookup' hyf))
    have e5:=sub x c' hc'
    rw [hc] at e5
    cases e5
    refine ⟨c,hc',?_⟩
    obtain ⟨o,ho',hd⟩:=hcell
    exact ⟨o,hk _ _ ho',hd⟩
 ·obtain ⟨v,o,ho',hd⟩:=I.cell x c (sub x c h)
  exact ⟨v,o,hk _ _ ho',hd⟩
 ·show (compSt xs fr σ).length = (compN X.N xs fr).length
  unfold compSt compN
  simp
end
end L2
namespace L2
open PySem PySem.Spec PyProof.Rows
def PIf (X:Cx) (ifs:List Expr) (t:TT):Prop:=
 ∀ (pins:List (Addr × Obj)) (s:Shared) (σ:St) (H:Hp) (Q:Bool->Hp->Prop),Inv X pins σ H s->t σ H Q →
  wpAny (model X.prog X.w) X.A (forIn ifs true fun c r=>if r = true then do let ok ← isTrue c X.env (eval c X.env);pure (ForInStep.yield ok) else pure (ForInStep.yield r)) (TP X pins σ Q) X.xe s
def tYes:TT:=fun _ H Q=>Q true H
theorem pif_nil {X:Cx}:PIf X [] tYes:=fun _ _ σ H Q I h=>wpAny_tests_nil ⟨H,I,h⟩
def CompW (J:It) (g:TG) (tt:TT) (te:TE) (R:Addr->Hp->Prop) (D:Addr) (σ0:St) (H0:Hp):Prop:=
 ∃ W:Nat->Nat->St->Hp->Prop,(∃ m,W 0 m σ0 H0)/\∀ i m σ H,W i m σ H →
  (J.stop i H/\R D H) ∨
  (J.go i H/\∃ (N:St->V->Hp->Prop) (M:St->Hp->Prop),(∀ σ2 y H4,N σ2 y H4->∃ ys,H4 D = some (.lst ys)/\ys.length < sizeLine/\∃ m',m' < m/\W (i + 1) m' σ2 (upd H4 D (.lst (ys ++ [y])))) ∧
   (∀ σ2 H3,M σ2 H3->∃ m',m' < m/\W (i + 1) m' σ2 H3) ∧
   ∀ x H',J.yld i H x H'->g x σ H' fun σ2 H2=>tt σ2 H2 fun b H3=>if b = true then te σ2 H3 (N σ2) else M σ2 H3)
def tComp (xs:List Str) (fr:List Nat) (wi:TI) (g:TG) (tt:TT) (te:TE):TE:=fun σ H Q=>wi σ H fun J H1=>∀ D,H1 D = none->CompW J g tt te (fun D H2=>Q (.ref D) H2) D (compSt xs fr σ) (upd H1 D (.lst []))
def sComp (i:Nat) (xs:List Str) (fr:List Nat) (wi:TI) (g:TG) (tt:TT) (te:TE):TS:=fun E σ H=>wi σ H fun J H1=>∀ D,H1 D = none->CompW J g tt te (fun D H2=>E.nx (σ.set i (some (.ref D))) H2) D (compSt xs fr σ) (upd H1 D (.lst []))
section
variable {X:Cx}
theorem comp_block {osc scope:Scope} {N0 xs:List Str} {fr:List Nat} {pins:List (Addr × Obj)} {σ:St} {H2:Hp} {s2:Shared} {fp:List Addr} {it:Addr} {tn:Nat->Heap->Prop} {J:It} {elt tg iter:Expr} {ifs:List Expr} {pos:Pos}
  {g:TG} {tt:TT} {te:TE} {E:Value->Shared->Prop} {R:Addr->Hp->Prop} {RR:Value->Addr->Result->Shared->Prop} (C:CompTx osc scope N0 xs fr) (ho:X.env.scope = osc) (hN0:X.N = N0) (hc:X.calm = true)
  (hg:∀ s H fp,PG (cxComp X scope (compN N0 xs fr) s H fp) tg g) (ht:∀ s H fp,PIf (cxComp X scope (compN N0 xs fr) s H fp) ifs tt) (he:∀ s H fp,PE (cxComp X scope (compN N0 xs fr) s H fp) elt te)
  (I2:Inv X pins σ H2 s2) (T:Turn X.prog X.w X.K tg J fp it tn) (st2:tn 0 s2.heap) (f2:∀ b ∈ fp,FpOk X pins H2 b)
  (hR:∀ D,H2 D = none->CompW J g tt te R D (compSt xs fr σ) (upd H2 D (.lst [])))
  (hRR:∀ (D C:Addr) (s':Shared) (H':Hp) (m:Str->Option Value),Inv X pins σ H' s'->s'.heap.Ns C m->FpOk X pins H' C->R D H'->RR (.ref D) C (.ok .next) s') :
  wpAny (model X.prog X.w) X.A (newList []) (fun acc s₃=>wpAny (model X.prog X.w) X.A (newFunctionEnv scope X.env.globals (closL X.env scope.names) [] X.env.qual none .none (some X.env)) (fun cenv s₄=>
   codeAny (model X.prog X.w) X.A (.compStart (.ListComp elt [⟨tg,iter,ifs,0⟩] scope pos) 0 (.ref it) acc { cenv with scope:=relabel scope X.env }) (RR acc cenv.locals) s₄) E s₃) E s2:=by
 refine wpAny_newObj_type (wpAny_newFunctionEnv C.nocell (by intro y hy;simp at hy) (fun h₁ hns₁ hsb₁=>?_) C.kind)
 dsimp only at hns₁ hsb₁ ⊢
 have I3:Inv X pins σ (upd H2 s2.heap.objs.size (.lst [])) { s2 with heap:=s2.heap.push { cls:=.type "list",data:=.seq ([]:List Value).toArray } }:=I2.lnew (its:=[]) (t':=s2.toks) .nil (by simp)
 have flt:∀ b ∈ fp,b < s2.heap.objs.size:=fun b hb=>by
  obtain ⟨o,e,_⟩:=T.obj 0 _ st2 b hb
  exact Heap.lt_size e
 have f3:∀ b ∈ fp,FpOk X pins (upd H2 s2.heap.objs.size (.lst [])) b:=fun b hb=>⟨by rw [upd_ne (Nat.ne_of_lt (flt b hb))];exact (f2 b hb).1,(f2 b hb).2⟩
 have flt3:∀ b ∈ fp,b < (s2.heap.push { cls:=.type "list",data:=.seq ([]:List Value).toArray }).objs.size:=fun b hb=>by
  rw [Heap.size_push]
  exact Nat.lt_succ_of_lt (flt b hb)
 obtain ⟨W,⟨m0,w0⟩,turn⟩:=hR s2.heap.objs.size I2.fresh
 generalize hD:s2.heap.objs.size = D at *
 generalize hs3:s2.heap.push { cls:=.type "list",data:=.seq ([]:List Value).toArray } = h3 at *
 have up2:∀ b o,s2.heap.get? b = some o->h3.get? b = some o:=fun b o e=>by rw [← hs3];exact Heap.get?_push_of_some _ e
 have old:∀ b o,h3.get? b = some o->h₁.get? b = some o:=fun b o e=>hsb₁.extBut b o (Nat.ne_of_lt (Heap.lt_size e)) (Heap.get?_push_of_some _ e)
 have Ic:=comp_start (tk:=s2.toks + ([]:List (Str × Value)).length) C ho hN0 I3 f3 flt3 hns₁ old
 have st4:tn 0 h₁:=T.keep 0 _ _ st2 fun b hb o e=>old b o (up2 b o e)
 have stat:∀ {H':Hp},(∀ b ∈ fp,H' b = none)->∀ b ∈ fp,FpOk (cxComp X scope (compN N0 xs fr) { s2 with heap:=h3 } (upd H2 D (.lst [])) fp) [] H' b:=fun hn b hb=>
  ⟨hn b hb,Nat.ne_of_lt (flt3 b hb),fun z=>by
   rcases List.mem_cons.mp (I3.stkSub b z) with q | q
   ·exact (f3 b hb).2.1 q
   ·exact (f3 b hb).2.2.1 q,.inl hb,fun x c h=>(Ic.ok.exf b hb).2 x c h,fun p hp=>absurd (show p ∈ ([]:List (Addr × Obj)) from hp) (by simp)⟩
 have fin:∀ {σ':St} {H':Hp} {s':Shared},Inv (cxComp X scope (compN N0 xs fr) { s2 with heap:=h3 } (upd H2 D (.lst [])) fp) [] σ' H' s'->R D H'->RR (.ref D) h3.objs.size (.ok .next) s':=fun {σ' H' s'} I' q=>by
  obtain ⟨m,hm,_⟩:=I'.loc
  refine hRR D h3.objs.size s' H' m (I3.call' I'.os I'.base I'.hok I'.bare fun b hb=>?_) hm (I3.fpOk (Nat.le_refl _) I'.free) q
  exact ⟨(f3 b hb).2.2.2.1,(f3 b hb).2.1,(f3 b hb).2.2.2.2.1,(f3 b hb).2.2.2.2.2⟩
 have loop:codeAny (model X.prog X.w) X.A (.compLoop (.ListComp elt [⟨tg,iter,ifs,0⟩] scope pos) 0 (.ref it) (.ref D) (compEnvC scope (closL X.env scope.names) h3.objs.size X.env)) (RR (.ref D) h3.objs.size) { s2 with heap:=h₁,toks:=s2.toks + ([]:List (Str × Value)).length }:=by
  refine codeAny_loop rfl (fun n s'=>∃ i σ' H',Inv (cxComp X scope (compN N0 xs fr) { s2 with heap:=h3 } (upd H2 D (.lst [])) fp) [] σ' H' s'/\tn i s'.heap/\(∀ b ∈ fp,H' b = none)/\W i n σ' H') (fun n s' hI=>?_) m0 ⟨0,_,_,Ic,st4,fun b hb=>(f3 b hb).1,w0⟩
  show wpAny _ X.A ((compTurn (.ListComp elt [⟨tg,iter,ifs,0⟩] scope pos) 0 (.ref it) (.ref D) (compEnvC scope (closL X.env scope.names) h3.objs.size X.env)).onRaise (fun x=>do noteFrame x (compEnvC scope (closL X.env scope.names) h3.objs.size X.env);theTreesLotGoes x)) _ _ s'
  refine wpAny_noted ?_
  rw [compTurn_list]
  obtain ⟨i,σ',H',I',st',fr',w'⟩:=hI
  refine wpAny_bind (wpAny_standAt (wpAny_bind ?_))
  rcases turn i n σ' H' w' with ⟨stop,q⟩ | ⟨go,N,M,hN,hM,step⟩
  ·refine thn (T.done (cxComp X scope (compN N0 xs fr) { s2 with heap:=h3 } (upd H2 D (.lst [])) fp) rfl rfl rfl hc i [] s' σ' H' _ I' (stat fr') st' stop) fun r s4 ⟨hr,I4⟩=>?_
   subst hr
   exact wpAny_pure (fin I4 q)
  ·refine thn (T.item (cxComp X scope (compN N0 xs fr) { s2 with heap:=h3 } (upd H2 D (.lst [])) fp) rfl rfl rfl hc i [] s' σ' H' _ I' (stat fr') st' go) fun r s4 ⟨u,hr,h4⟩=>?_
   subst hr
   refine wpAny_bind (thn h4 fun _ s5 ⟨x,H5,I5,r5,y5,st5,fr5⟩=>?_)
   have I5':=I5.pinned (stat fr5) (T.obj _ _ st5)
   have again:∀ {σ7:St} {H7:Hp} {s7:Shared},Inv (cxComp X scope (compN N0 xs fr) { s2 with heap:=h3 } (upd H2 D (.lst [])) fp) ([] ++ pinsAt fp s5.heap) σ7 H7 s7->(∃ m',m' < n/\W (i + 1) m' σ7 H7) →
     ∃ m,m < n/\∃ i σ' H',Inv (cxComp X scope (compN N0 xs fr) { s2 with heap:=h3 } (upd H2 D (.lst [])) fp) [] σ' H' s7/\tn i s7.heap/\(∀ b ∈ fp,H' b = none)/\W i m σ' H':=fun {σ7 H7 s7} I7 n7=>by
    obtain ⟨m',hm,w7⟩:=n7
    refine ⟨m',hm,i + 1,σ7,H7,I7.unpinned,T.keep _ _ _ st5 fun b hb o e=>(I7.pin (b,o) (List.mem_append_right _ (List.mem_append_right _ (mem_pinsAt hb e)))).1,fun b hb=>?_,w7⟩
    obtain ⟨o,e,d⟩:=T.obj _ _ st5 b hb
    exact (I7.pin (b,o) (List.mem_append_right _ (List.mem_append_right _ (mem_pinsAt hb e)))).2.1
   refine wpAny_bind (wpAny_mono (hg _ _ _ _ s5 σ' H5 x u _ I5' r5 (step x H5 y5)) (fun _ s6 ⟨σ6,H6,I6,q6⟩=>?_) fun _ _ z=>False.elim z)
   refine wpAny_bind (wpAny_mono (ht _ _ _ _ s6 σ6 H6 _ I6 q6) (fun ok s7 ⟨H7,I7,q7⟩=>?_) fun _ _ z=>False.elim z)
   cases ok with
   | false=>
    rw [if_neg Bool.false_ne_true] at q7
    exact wpAny_pure ⟨rfl,again I7 (hM _ _ q7)⟩
   | true=>
    rw [if_pos rfl] at q7
    refine wpAny_bind (wpAny_bind (wpAny_mono (he _ _ _ _ s7 σ6 H7 _ I7 q7) (fun y s8 ⟨v,H8,I8,r8,q8⟩=>?_) fun _ _ z=>False.elim z))
    obtain ⟨ys,eD,hz,q8⟩:=hN _ _ _ q8
    refine wpAny_bind (wpAny_mono (mt_append (X:=cxComp X scope (compN N0 xs fr) { s2 with heap:=h3 } (upd H2 D (.lst [])) fp) _ s8 σ6 H8 (.ref D) [v] (.ref D) [y] (fun _ H9=>∃ m',m' < n/\W (i + 1) m' σ6 H9) I8 rfl (.cons r8 .nil) ⟨D,ys,v,rfl,rfl,eD,hz,q8⟩) (fun _ s9 ⟨_,H9,I9,_,q9⟩=>?_) fun _ _ z=>False.elim z)
    exact wpAny_pure (wpAny_pure ⟨rfl,again I9 q9⟩)
 exact codeAny_compStart_list loop (T.self X.A 0 _ _ _ st4 loop)
variable {osc scope:Scope} {N0 xs:List Str} {fr:List Nat} {elt tg iter:Expr} {ifs:List Expr} {pos:Pos} {wi:TI} {g:TG} {tt:TT} {te:TE}
theorem pe_comp (C:CompTx osc scope N0 xs fr) (ho:X.env.scope = osc) (hN0:X.N = N0) (hc:X.calm = true) (hi:PI X tg iter wi)
  (hg:∀ s H fp,PG (cxComp X scope (compN N0 xs fr) s H fp) tg g) (ht:∀ s H fp,PIf (cxComp X scope (compN N0 xs fr) s H fp) ifs tt) (he:∀ s H fp,PE (cxComp X scope (compN N0 xs fr) s H fp) elt te)
  (hs:∀ x,foldedSetIterable iter X.env x = pure x:=by intro _;rfl):PE X (.ListComp elt [⟨tg,iter,ifs,0⟩] scope pos) (tComp xs fr wi g tt te):=by
 intro pins s σ H Q I h
 rw [eval_ListComp]
 refine wpAny_comprehension_free (use:=none) rfl hs (clos_ok (comp_free C ho I)) C.kind C.names (thn (hi pins s σ H _ I h) fun v s1 h1=>thn h1 fun itv s2 h2=>?_)
 obtain ⟨it,fp,tn,J,H2,e,I2,T,st2,f2,hR⟩:=h2
 subst e
 refine comp_block C ho hN0 hc hg ht he I2 T st2 f2 hR fun D C s' H' m I' hm fC q=>?_
 refine ⟨m,hm,fun h' sb=>⟨.ref D,H',?_,rfl,q⟩⟩
 exact I'.turned (t':=s'.toks) (fun b o hb e=>(sb.2 b hb).trans e) fC.1 fC.2.1 fC.2.2.2.1 fC.2.2.2.2.1 fC.2.2.2.2.2
theorem ps_comp {i:Nat} {y:Str} {py spos:Pos} (C:CompTx osc scope N0 xs fr) (ho:X.env.scope = osc) (hN0:X.N = N0) (hc:X.calm = true) (hi:PI X tg iter wi)
  (hg:∀ s H fp,PG (cxComp X scope (compN N0 xs fr) s H fp) tg g) (ht:∀ s H fp,PIf (cxComp X scope (compN N0 xs fr) s H fp) ifs tt) (he:∀ s H fp,PE (cxComp X scope (compN N0 xs fr) s H fp) elt te)
  (hN:X.N.Nodup) (hy:X.N[i]? = some y) (hx:Loc X.env.scope y)
  (hsw:swapsWith (.ListComp elt [⟨tg,iter,ifs,0⟩] scope pos) (some (.Name y py)) spos.line X.env = pure true:=by rfl)
  (hf:X.fn y = true\/X.env.scope.names.lookup y = some .local:=by first | exact .inl rfl | exact .inr rfl | assumption)
  (hs:∀ x,foldedSetIterable iter X.env x = pure x:=by intro _;rfl):PS X (.Assign [.Name y py] (.ListComp elt [⟨tg,iter,ifs,0⟩] scope pos) spos) (sComp i xs fr wi g tt te):=by
 intro pins s σ H D I h
 rw [exec_Assign_Name_used _ _ _ _ hsw]
 refine wpAny_bind (wpAny_standAt (wpAny_bind ?_))
 show wpAny _ X.A (do let _ ← comprehension (.ListComp elt [⟨tg,iter,ifs,0⟩] scope pos) scope X.env _ (newList []) false (eval iter X.env) (some (assign (.Name y py) X.env))) _ _ s
 refine wpAny_bind (wpAny_mono (wpAny_comprehension_free (use:=some (assign (.Name y py) X.env)) (Q:=fun _ s'=>SP X pins D .next s') rfl hs (clos_ok (comp_free C ho I)) C.kind C.names
  (thn (hi pins s σ H _ I h) fun v s1 h1=>thn h1 fun itv s2 h2=>?_)) (fun _ s' hq=>wpAny_pure (wpAny_pure hq)) fun _ _ e=>e)
 obtain ⟨it,fp,tn,J,H2,e,I2,T,st2,f2,hR⟩:=h2
 subst e
 refine comp_block C ho hN0 hc hg ht he I2 T st2 f2 hR fun Dl C s' H' m I' hm fC q=>?_
 refine wpAny_assign_Name (store_ok2 I' hN hy hx (show RelV (.ref Dl) (.ref Dl) from rfl) (fun s3 I3 hsb=>?_) hf)
 obtain ⟨a,sb,ha⟩:=hsb
 have hCa:C ≠ a:=by
  rcases ha with z | z
  ·rw [z];exact fC.2.1
  ·exact fun w=>fC.2.2.2.2.1 y a z w.symm
 refine ⟨m,hm.sameBut sb hCa,fun h' sb'=>⟨_,H',?_,q⟩⟩
 exact I3.turned (t':=s3.toks) (fun b o hb e=>(sb'.2 b hb).trans e) fC.1 fC.2.1 fC.2.2.2.1 fC.2.2.2.2.1 fC.2.2.2.2.2
end
def Its (x:Str):It:=⟨fun i _=>i < x.cps.size,fun i H v H'=>H' = H/\∃ c,x.cps[i]? = some c/\v = .str ⟨#[c]⟩,fun i _=>x.cps.size ≤ i⟩
theorem strIter_ty (x:Str):strIterType x = "str_ascii_iterator"\/strIterType x = "str_iterator":=by
 unfold strIterType
 split
 ·exact .inl rfl
 ·exact .inr rfl
theorem turn_str {P:Program} {w:World} {K:PySem.W.Frag} {tg:Expr} (x:Str) (t:Tok) (it:Addr):Turn P w K tg (Its x) [it] it (fun i h=>h.IsStrIter it (strIterType x) x t i) where
 mem:=by simp
 obj:=fun i h st b hb=>by
  have e:b = it:=by simpa using hb
  subst e
  obtain ⟨o,e,c,d⟩:=st
  exact ⟨o,e,fun v z=>by rw [d] at z;cases z⟩
 keep:=fun i h h' st k=>by
  obtain ⟨o,e,r⟩:=st
  exact ⟨o,k it (by simp) o e,r⟩
 item:=by
  intro X hP hw hK hc i pins s σ H E I hf st hg
  subst hP hw hK
  have hg':i < x.cps.size:=hg
  obtain ⟨f0,f1,f2,f3,f4,f5⟩:=hf it (by simp)
  have key:∀ h',h'.IsStrIter it (strIterType x) x t (i + 1)->Heap.SameBut it s.heap h'->∃ u,some (Value.str ⟨#[x.cps[i]]⟩ s.toks) = some u ∧
   wpAny (model X.prog X.w) X.A (letOwnedTupleGo tg (.ref it) u) (fun _ s2=>∃ v H',Inv X pins σ H' s2/\RelV v u/\(Its x).yld i H v H'/\s2.heap.IsStrIter it (strIterType x) x t (i + 1)/\∀ b ∈ [it],H' b = none) E { s with heap:=h',toks:=s.toks + 1 }:=fun h' st' sb=>by
   have I1:Inv X pins σ H { s with heap:=h',toks:=s.toks + 1 }:=I.turned (t':=s.toks + 1) (fun b o hb e=>(sb.2 b hb).trans e) f0 f1 f3 f4 f5
   obtain ⟨o,e,c,d⟩:=id st'
   refine ⟨_,rfl,go_of (s:={ s with heap:=h',toks:=s.toks + 1 }) e c d ?_ ⟨.str ⟨#[x.cps[i]]⟩,H,I1,⟨_,rfl⟩,⟨rfl,_,by simp [hg'],rfl⟩,st',fun b hb=>(hf b hb).1⟩⟩
   rcases strIter_ty x with z | z <;> rw [z] <;> decide
  rcases strIter_ty x with z | z
  ·rw [z] at st key
   rw [z]
   exact wpAny_pyNext_ascii_item st (c:=x.cps[i]) (by simp [hg']) fun h' a b=>key h' a b
  ·rw [z] at st key
   rw [z]
   exact wpAny_pyNext_wide_item st (c:=x.cps[i]) (by simp [hg']) fun h' a b=>key h' a b
 done:=by
  intro X hP hw hK hc i pins s σ H E I hf st hg
  subst hP hw hK
  have hg':x.cps.size ≤ i:=hg
  obtain ⟨f0,f1,f2,f3,f4,f5⟩:=hf it (by simp)
  have hx:x.cps[i]? = none:=by simp [hg']
  rcases strIter_ty x with z | z
  ·rw [z] at st
   exact wpAny_pyNext_ascii_end (I.ok.hd hc) st hx fun h' eb=>⟨rfl,I.turned (t':=s.toks) (fun b o hb e=>eb b o hb e) f0 f1 f3 f4 f5⟩
  ·rw [z] at st
   exact wpAny_pyNext_wide_end (I.ok.hd hc) st hx fun h' eb=>⟨rfl,I.turned (t':=s.toks) (fun b o hb e=>eb b o hb e) f0 f1 f3 f4 f5⟩
 self:=fun A i s Q E st h=>by
  rcases strIter_ty x with z | z
  ·rw [z] at st
   exact wpAny_pyIter_striter_ascii st h
  ·rw [z] at st
   exact wpAny_pyIter_striter_wide st h
section
variable {X:Cx} {tg:Expr}
def iStr (tl:TE):TI:=fun σ H R=>tl σ H fun x H1=>∃ z,x = .str z/\R (Its z) H1
theorem pi_str {l:Expr} {tl:TE} (hl:PE X l tl):PI X tg l (iStr tl):=by
 intro pins s σ H R I h
 refine thn (hl pins s σ H _ I h) fun v s1 ⟨x,H1,I1,r1,q1⟩=>?_
 obtain ⟨z,e,q⟩:=q1
 subst e
 obtain ⟨t,rfl⟩:=r1
 refine wpAny_pyIter_strU ?_
 refine ⟨s1.heap.objs.size,[s1.heap.objs.size],_,_,H1,rfl,I1.kept (t':=s1.toks) fun b o e=>Heap.get?_push_of_some _ e,turn_str z t _,⟨_,Heap.get?_push_size _ rfl,rfl,rfl⟩,fun b hb=>?_,q⟩
 have e:b = s1.heap.objs.size:=by simpa using hb
 subst e
 exact I1.fpOk (Nat.le_refl _) (I1.hok.fresh (Nat.le_refl _))
end
section
variable {X:Cx}
theorem sl_str:SlR X (fun x lo hi H Q=>∃ z,x = .str z/\z.length ≤ sizeLine/\Q (.str (Txt.slice z lo hi)) H):=by
 intro pins s σ H x v vl vu lo hi sl Q I rx hs pl pu h
 obtain ⟨z,rfl,hz,q⟩:=h
 obtain ⟨t,rfl⟩:=rx
 refine ⟨"str",_,F.slot_str_getitem.lookup,typeIs_str _ _ _,?_⟩
 obtain ⟨o,e1,e2,e3⟩:=hs
 have fin:∀ (l u:Option (Int × Tok)),vl = partValue l->vu = partValue u->l.map (·.1) = lo->u.map (·.1) = hi->wpAny (model X.prog X.w) X.A (getItem (.str z t) (.ref sl)) (EP X pins σ Q) X.xe s:=by
  intro l u h1 h2 h3 h4
  subst h1 h2 h3 h4
  refine wpAny_getItem_str_slice (l:=l) (u:=u) (st:=none) ⟨o,e1,e2,e3⟩ rfl (post_val_or_str ⟨Nat.le_trans (Txt.slice_le z (l.map (·.1)) (u.map (·.1))) hz,fun t' k=>?_⟩)
  exact ⟨.str (Txt.slice z (l.map (·.1)) (u.map (·.1))),H,I.tok k,⟨t',rfl⟩,q⟩
 cases pl with
 | none=>
  cases pu with
  | none=>exact fin none none rfl rfl rfl rfl
  | int j tj=>exact fin none (some (j,tj)) rfl rfl rfl rfl
 | int i ti=>
  cases pu with
  | none=>exact fin (some (i,ti)) none rfl rfl rfl rfl
  | int j tj=>exact fin (some (i,ti)) (some (j,tj)) rfl rfl rfl rfl
end
theorem Same.upd {H:Hp} {D:Addr} {o:HO} (h:H D = none):Same H (L2.upd H D o):=fun b u e=>by
 rw [upd_ne (ne_of_none e h)]
 exact e
theorem Same.seqT {K:PySem.W.Frag} {H H':Hp} {a:Addr} {xs:List V} (e:Same H H') (h:SqT K H a xs):SqT K H' a xs:=by
 rcases h with (h | ⟨o,h⟩) | h
 ·exact .inl (.inl (e _ _ h))
 ·exact .inl (.inr ⟨o,e _ _ h⟩)
 ·exact .inr h
end L2
namespace L2
open PySem PySem.Spec PyProof.Rows
def kitTy (a b:String):Option Bool:=if (Value.type a == Value.type b) = true then some true else if PySem.W.kitMeta b = true then (fastBuiltinMro a).map (·.contains (.type b)) else none
theorem kit_eq {K:PySem.W.Frag} {a b:String}:PySem.W.kitOne K (.type a) (.type b) = kitTy a b:=rfl
def DefIn (K:PySem.W.Frag) (x:Str) (st:Stmt):Prop:=∃ (f:Addr) (oc:Value) (od:Option Addr) (kV doc pm:Value) (an:Option Addr) (cdv ct:Value) (osl:Array (Option Value)),
 PySem.W.nsIn K mainGlobals x = some (some (.ref f))/\K.lookup f = some ⟨oc,od,.func (PySem.W.fnOf x x (defArgs st) (defBody st) (defScope st) .none kV doc pm an cdv ct),osl⟩/\PySem.W.codeIn K cdv x = true/\PySem.W.keepIn K (.ref f) = true
theorem defIn_mk {K:PySem.W.Frag} {x:Str} {st:Stmt} {f:Addr} {oc:Value} {od an:Option Addr} {osl:Array (Option Value)} {kV doc pm cdv ct:Value} (a:PySem.W.nsIn K mainGlobals x = some (some (.ref f)))
  (l:K.lookup f = some ⟨oc,od,.func (PySem.W.fnOf x x (defArgs st) (defBody st) (defScope st) .none kV doc pm an cdv ct),osl⟩) (c:PySem.W.codeIn K cdv x = true) (k:PySem.W.keepIn K (.ref f) = true):DefIn K x st:=
 ⟨f,oc,od,kV,doc,pm,an,cdv,ct,osl,a,l,c,k⟩
structure Df (K:PySem.W.Frag) (mg:Str->Option Value) (x:Str) (st:Stmt) (f:Addr) (fd:FuncData):Prop where
 fn:Fun K x x st f fd
 mg:mg x = some (.ref f)
theorem DefIn.df {K:PySem.W.Frag} {h:Heap} {mg:Str->Option Value} {x:Str} {st:Stmt} (d:DefIn K x st) (X:K.In h) (G:h.Ns mainGlobals mg):∃ f fd,Df K mg x st f fd:=by
 obtain ⟨f,oc,od,kV,doc,pm,an,cdv,ct,osl,a,l,c,k⟩:=d
 exact ⟨f,_,fun_mk l c k,PySem.W.mg_of X G a⟩
end L2
namespace PySem.SeqAt
open MeetsSeq
open AutoSeq1 (wpAny_loadPart')
section
variable {A:Around} {s:Shared}
end
end PySem.SeqAt
namespace L2
open PySem PySem.Spec PyProof.Rows
inductive Dt where
 | non | bl (b:Bool) | int (i:Int) | str (z:Str) | tup (ds:List Dt) | lst (ds:List Dt) | dct
def strIs:Dt->Str->Bool
 | .str y,z=>y == z
 | _,_=>false
section
variable {X:Cx} {pins:List (Addr × Obj)} {σ:St} {H:Hp} {s:Shared}
end
end L2
namespace L2
open PySem
def Tb (h:Heap) (P:Addr->Prop) (x:Addr) (fl v:Value):Prop:=
 (v = .none/\fl = .none)\/∃ T oT ts,v = .ref T/\P T/\T ≠ x/\h.get? T = some oT/\oT.data = .fields ts/\ts[3]? = some fl
def XAt (h:Heap) (P:Addr->Prop) (x:Addr) (C:Value) (od:Option Addr) (fl:Value):Prop:=
 ∃ vs sl v1,h.get? x = some ⟨C,od,.fields vs,sl⟩/\vs[1]? = some v1/\Tb h P x fl v1
structure Nt (P:Addr->Prop) (fr:List Addr) (x:Addr) (h h':Heap):Prop where
 chg:∃ ch:List Addr,(∀ b ∈ ch,b = x\/P b/\∃ o vs,h.get? b = some o/\o.data = .fields vs)/\∀ b o,h.get? b = some o->b ∉ fr->b ∉ ch->h'.get? b = some o
 frm:∀ b o,h.get? b = some o->b ∈ fr->∃ sl,h'.get? b = some { o with slots:=sl }
 thr:∀ b o,h.get? b = some o->∃ o',h'.get? b = some o'
theorem Nt.refl {P:Addr->Prop} {fr:List Addr} {x:Addr} {h:Heap}:Nt P fr x h h:=⟨⟨[],(fun _ z=>absurd z (by simp)),fun _ _ e _ _=>e⟩,fun _ o e _=>⟨o.slots,e⟩,fun _ o e=>⟨o,e⟩⟩
section
variable {M:Model} {A:Around} {E:Value->Shared->Prop} {s:Shared} {base:Heap} {env:Env} {outer:List Env} {L x:Addr} {P:Addr->Prop} {C:Value} {od:Option Addr}
theorem entry_ok {vs:Array Value} {sl:Array (Option Value)} {head:Value} {had:Bool} {Q:Unit->Shared->Prop} (hfr:A.frames = some (env :: outer)) (hl:s.heap.FunFrames base (env :: outer)) (hf:env.frame = some L)
  (hx:s.heap.get? x = some ⟨C,od,.fields vs,sl⟩) (hsz:1 < vs.size) (hP:∀ T,s.heap.objs.size ≤ T->P T)
  (h:∀ h',Nt P ((env :: outer).filterMap (·.frame)) x s.heap h'->XAt h' P x C od (rawInt L)->Q () { s with heap:=h' }) :
  wpAny M A (do let a ← frameOf env;let pl ← entryPlaceOf L had;let b ← EntryCells.newEntry head a .none (rawInt L) .none pl;setField (.ref x) 1 b) Q E s:=by
 have nx:x ∉ (env :: outer).filterMap (·.frame):=fun hm=>by
  obtain ⟨_,o,ho,hnf⟩:=hl.mem hm
  rw [hx] at ho
  cases ho
  exact hnf vs rfl
 refine wpAny_bind (wpAny_frameOf_fun hfr hl hf fun h1 k1=>?_)
 refine wpAny_bind (wpAny_entryPlaceOf fun pl hpl=>?_)
 unfold EntryCells.newEntry newFields
 refine wpAny_bind (wpAny_newObj_type ?_ (hpl.sizeOk5 _ _ _ _ _))
 generalize ho:(⟨.type "traceback",none,.fields ([head,.ref L,.none,rawInt L,.none] ++ (if pl.isEmpty then List.replicate 6 Value.none else pl)).toArray,#[]⟩:Obj) = ob
 have x1:h1.get? x = some ⟨C,od,.fields vs,sl⟩:=(k1.2.1 x nx).trans hx
 have x2:(h1.push ob).get? x = some ⟨C,od,.fields vs,sl⟩:=Heap.get?_push_of_some _ x1
 have sz:h1.objs.size = s.heap.objs.size:=k1.1
 refine wpAny_setField x2 rfl hsz (h _ ?_ ?_)
 ·have other:∀ b o,b ≠ x->h1.get? b = some o->((h1.push ob).update x (Obj.mapFields (·.setIfInBounds 1 (.ref h1.objs.size)))).get? b = some o:=fun b o hb e=>by
   rw [Heap.get?_update_other _ _ (Ne.symm hb)]
   exact Heap.get?_push_of_some _ e
  refine ⟨⟨[x],fun b hb=>.inl (List.mem_singleton.mp hb),fun b o e hb hc=>?_⟩,fun b o e hb=>?_,fun b o e=>?_⟩
  ·exact other b o (fun z=>hc (by rw [z];exact List.mem_singleton.mpr rfl)) ((k1.2.1 b hb).trans e)
  ·obtain ⟨sl',e1⟩:=k1.2.2 b o e
   exact ⟨sl',other b _ (fun z=>nx (z ▸ hb)) e1⟩
  ·by_cases hb:b = x
   ·subst hb
    exact ⟨_,Heap.get?_update_self _ x2 rfl⟩
   ·obtain ⟨sl',e1⟩:=k1.2.2 b o e
    exact ⟨_,other b _ hb e1⟩
 ·have ne:h1.objs.size ≠ x:=Nat.ne_of_gt (Heap.lt_size x1)
  refine ⟨_,_,.ref h1.objs.size,Heap.get?_update_self _ x2 rfl,(by show (vs.setIfInBounds 1 _)[1]? = _;simp [hsz]),.inr ⟨h1.objs.size,ob,_,rfl,hP _ (by rw [sz];exact Nat.le_refl _),ne,?_,(by rw [← ho]),?_⟩⟩
  ·rw [Heap.get?_update_other _ _ (Ne.symm ne)]
   exact Heap.get?_push_size h1 (by rw [← ho];rfl)
  ·first | (simp;done) | (rcases hpl with rfl | ⟨_,_,_,_,_,_,_,rfl⟩ <;> simp)
theorem Nt.trans {fr:List Addr} {h h1 h2:Heap} (n1:Nt P fr x h h1) (n2:Nt P fr x h1 h2) (fresh:∀ b o,h.get? b = some o->b ∈ fr->∀ vs,o.data ≠ .fields vs):Nt P fr x h h2:=by
 obtain ⟨c1,p1,k1⟩:=n1.chg
 obtain ⟨c2,p2,k2⟩:=n2.chg
 refine ⟨⟨c1 ++ c2.filter (fun b=>(h.get? b).isSome),fun b hb=>?_,fun b o e hb hc=>?_⟩,fun b o e hb=>?_,fun b o e=>?_⟩
 ·rcases List.mem_append.mp hb with z | z
  ·exact p1 b z
  ·obtain ⟨z1,z2⟩:=List.mem_filter.mp z
   by_cases hb1:b ∈ c1
   ·exact p1 b hb1
   rcases p2 b z1 with q | ⟨q,o1,vs,e1,d1⟩
   ·exact .inl q
   ·refine .inr ⟨q,?_⟩
    cases g:h.get? b with
    | none=>rw [g] at z2;cases z2
    | some o=>
     by_cases hfr:b ∈ fr
     ·obtain ⟨sl,e2⟩:=n1.frm b o g hfr
      rw [e1] at e2
      cases e2
      exact absurd d1 (fresh b o g hfr vs)
     ·have e2:=k1 b o g hfr hb1
      rw [e1] at e2
      cases e2
      exact ⟨_,vs,rfl,d1⟩
 ·have m1:b ∉ c1:=fun z=>hc (List.mem_append_left _ z)
  have m2:b ∉ c2:=fun z=>hc (List.mem_append_right _ (List.mem_filter.mpr ⟨z,by rw [e];rfl⟩))
  exact k2 b o (k1 b o e hb m1) hb m2
 ·obtain ⟨sl,e1⟩:=n1.frm b o e hb
  obtain ⟨sl2,e2⟩:=n2.frm _ _ e1 hb
  exact ⟨sl2,e2⟩
 ·obtain ⟨o1,e1⟩:=n1.thr b o e
  exact n2.thr _ _ e1
theorem note_ok {Q:Unit->Shared->Prop} (hfr:A.frames = some (env :: outer)) (hl:s.heap.FunFrames base (env :: outer)) (hf:env.frame = some L)
  (hx:XAt s.heap P x C od .none) (hP:∀ T,s.heap.objs.size ≤ T->P T)
  (h:∀ h',Nt P ((env :: outer).filterMap (·.frame)) x s.heap h'->XAt h' P x C od (rawInt L)->Q () { s with heap:=h' }):wpAny M A (noteFrame (.ref x) env) Q E s:=by
 obtain ⟨vs,sl,v1,ex,e1,tb⟩:=hx
 have hsz:1 < vs.size:=(Array.getElem?_eq_some_iff.mp e1).1
 unfold noteFrame
 simp only [hf]
 refine wpAny_bind (wpAny_field ex rfl e1 ?_)
 rcases tb with ⟨rfl,_⟩ | ⟨T,oT,ts,rfl,pT,nT,eT,dT,fT⟩
 ·rw [if_neg (by decide)]
  exact entry_ok hfr hl hf ex hsz hP h
 ·rw [if_pos (show (Value.ref T != Value.none) = true from by simp)]
  refine wpAny_bind (wpAny_field eT dT fT ?_)
  rw [if_neg (show ¬ ((Value.none == rawInt L) = true) from by simp [rawInt])]
  refine wpAny_bind (wpAny_setField eT dT (Array.getElem?_eq_some_iff.mp fT).1 ?_)
  have oth:∀ b,b ≠ T->(s.heap.update T (Obj.mapFields (·.setIfInBounds 3 Value.none))).get? b = s.heap.get? b:=fun b hb=>Heap.get?_update_other _ _ (Ne.symm hb)
  have nrec:∀ b o,s.heap.get? b = some o->(∀ vs,o.data ≠ .fields vs)->b ≠ T:=fun b o hb hn q=>by
   rw [q,eT] at hb
   cases hb
   exact hn ts dT
  have hl':=hl.of_keeps (h':=s.heap.update T (Obj.mapFields (·.setIfInBounds 3 Value.none))) fun b o hb hn=>⟨o,(oth b (nrec b o hb hn)).trans hb,rfl⟩
  have frn:∀ b o,s.heap.get? b = some o->b ∈ (env :: outer).filterMap (·.frame)->∀ vs,o.data ≠ .fields vs:=fun b o e hb=>by
   obtain ⟨_,o',ho',hn⟩:=hl.mem hb
   rw [e] at ho'
   cases ho'
   exact hn
  have N1:Nt P ((env :: outer).filterMap (·.frame)) x s.heap (s.heap.update T (Obj.mapFields (·.setIfInBounds 3 Value.none))):=by
   refine ⟨⟨[T],fun b hb=>.inr ?_,fun b o e _ hc=>?_⟩,fun b o e hb=>⟨o.slots,?_⟩,fun b o e=>?_⟩
   ·rw [List.mem_singleton.mp hb]
    exact ⟨pT,oT,ts,eT,dT⟩
   ·exact (oth b fun z=>hc (by rw [z];exact List.mem_singleton.mpr rfl)).trans e
   ·exact (oth b (nrec b o e (frn b o e hb))).trans e
   ·by_cases hb:b = T
    ·rw [hb]
     exact ⟨_,Heap.get?_update_self _ eT (Obj.isFreed_of_fields (Obj.data_mapFields dT _))⟩
    ·exact ⟨o,(oth b hb).trans e⟩
  refine entry_ok (s:={ s with heap:=s.heap.update T (Obj.mapFields (·.setIfInBounds 3 Value.none)) }) hfr hl' hf ((oth x (Ne.symm nT)).trans ex) hsz (fun T' hT'=>hP T' (by rw [← Heap.size_after_update s.heap T];exact hT')) fun h' n' x'=>h h' (N1.trans n' frn) x'
theorem land_ok {fl:Value} {fr:List Addr} {Q:Unit->Shared->Prop} (hx:XAt s.heap P x C od fl) (frn:∀ b o,s.heap.get? b = some o->b ∈ fr->∀ vs,o.data ≠ .fields vs)
  (h:∀ h',Nt P fr x s.heap h'->XAt h' P x C od .none->Q () { s with heap:=h' }):wpAny M A (setFlight (.ref x) none) Q E s:=by
 obtain ⟨vs,sl,v1,ex,e1,tb⟩:=hx
 unfold setFlight
 refine wpAny_bind (wpAny_field ex rfl e1 ?_)
 rcases tb with ⟨rfl,_⟩ | ⟨T,oT,ts,rfl,pT,nT,eT,dT,fT⟩
 ·rw [if_neg (by decide)]
  exact wpAny_pure (h s.heap .refl ⟨vs,sl,_,ex,e1,.inl ⟨rfl,rfl⟩⟩)
 ·rw [if_pos (show (Value.ref T != Value.none) = true from by simp)]
  refine wpAny_setField eT dT (Array.getElem?_eq_some_iff.mp fT).1 (h _ ?_ ?_)
  ·refine ⟨⟨[T],fun b hb=>.inr ?_,fun b o e _ hc=>?_⟩,fun b o e hb=>⟨o.slots,?_⟩,fun b o e=>?_⟩
   ·rw [List.mem_singleton.mp hb]
    exact ⟨pT,oT,ts,eT,dT⟩
   ·rw [Heap.get?_update_other _ _ fun z=>hc (by rw [z];exact List.mem_singleton.mpr rfl)]
    exact e
   ·rw [Heap.get?_update_other _ _ fun z=>?_]
    ·exact e
    ·subst z
     rw [eT] at e
     cases e
     exact frn T oT eT hb ts dT
   ·by_cases hb:b = T
    ·rw [hb]
     exact ⟨_,Heap.get?_update_self _ eT (Obj.isFreed_of_fields (Obj.data_mapFields dT _))⟩
    ·exact ⟨o,by rw [Heap.get?_update_other _ _ (Ne.symm hb)];exact e⟩
  ·refine ⟨vs,sl,.ref T,by rw [Heap.get?_update_other _ _ nT];exact ex,e1,.inr ⟨T,_,_,rfl,pT,nT,Heap.get?_update_self _ eT (Obj.isFreed_of_fields (Obj.data_mapFields dT _)),Obj.data_mapFields dT _,?_⟩⟩
   have:=(Array.getElem?_eq_some_iff.mp fT).1
   simp [this]
theorem leave_ok {Q:Unit->Shared->Prop} (hfr:A.frames = some (env :: outer)) (hl:s.heap.FunFrames base (env :: outer)) (hf:env.frame = some L)
  (hx:XAt s.heap P x C od .none) (hP:∀ T,s.heap.objs.size ≤ T->P T)
  (h:∀ h',Nt P ((env :: outer).filterMap (·.frame)) x s.heap h'->XAt h' P x C od .none->Q () { s with heap:=h' }):wpAny M A (leaving env (.ref x)) Q E s:=by
 have frn:∀ b o,s.heap.get? b = some o->b ∈ (env :: outer).filterMap (·.frame)->∀ vs,o.data ≠ .fields vs:=fun b o e hb=>by
  obtain ⟨_,o',ho',hn⟩:=hl.mem hb
  rw [e] at ho'
  cases ho'
  exact hn
 unfold leaving
 refine wpAny_bind (note_ok hfr hl hf hx hP fun h1 n1 x1=>?_)
 refine land_ok (s:={ s with heap:=h1 }) (fr:=(env :: outer).filterMap (·.frame)) x1 (fun b o e hb=>?_) fun h2 n2 x2=>h h2 (n1.trans n2 frn) x2
 obtain ⟨_,o',ho',hn⟩:=hl.mem hb
 obtain ⟨sl,e1⟩:=n1.frm b o' ho' hb
 have e':h1.get? b = some o:=e
 rw [e1] at e'
 cases e'
 exact hn
end
end L2
namespace L2
open PySem PySem.Spec PyProof.Rows
theorem Tb.imp {h:Heap} {P P':Addr->Prop} {x:Addr} {fl v:Value} (t:Tb h P x fl v) (k:∀ b,P b->P' b):Tb h P' x fl v:=by
 rcases t with z | ⟨T,oT,ts,a,b,c⟩
 ·exact .inl z
 ·exact .inr ⟨T,oT,ts,a,k T b,c⟩
theorem XAt.imp {h:Heap} {P P':Addr->Prop} {x:Addr} {C:Value} {od:Option Addr} {fl:Value} (t:XAt h P x C od fl) (k:∀ b,P b->P' b):XAt h P' x C od fl:=by
 obtain ⟨vs,sl,v1,a,b,c⟩:=t
 exact ⟨vs,sl,v1,a,b,c.imp k⟩
structure Our (X:Cx) (pins:List (Addr × Obj)) (H:Hp) (b:Addr):Prop where
 new:X.s₀.heap.objs.size ≤ b
 loc:b ≠ X.env.locals
 cel:∀ y c,X.env.cells.lookup y = some c->c ≠ b
 pin:∀ p ∈ X.pn ++ pins,p.1 ≠ b
 unt:H b = none
section
variable {X:Cx} {pins:List (Addr × Obj)} {σ:St} {H H':Hp} {s s':Shared} {x b:Addr} {C:Value} {od:Option Addr}
theorem Inv.our' (I:Inv X pins σ H s) (h:s.heap.objs.size ≤ b) (hn:H' b = none):Our X pins H' b:=by
 have lt:∀ c o,s.heap.get? c = some o->c ≠ b:=fun c o e z=>by
  subst z
  exact absurd (Nat.lt_of_lt_of_le (Heap.lt_size e) h) (Nat.lt_irrefl _)
 refine ⟨Nat.le_trans I.sz h,fun z=>?_,fun y c e=>?_,fun p hp=>?_,hn⟩
 ·obtain ⟨m,⟨o,_,_,ho,_⟩,_⟩:=I.loc
  exact lt _ o ho z.symm
 ·obtain ⟨v,o,ho,_⟩:=I.cell y c e
  exact lt c o ho
 ·exact lt p.1 _ (I.pin p hp).1
theorem Inv.our (I:Inv X pins σ H s) (h:s.heap.objs.size ≤ b):Our X pins H b:=I.our' h (I.hok.fresh h)
theorem Inv.noted {h':Heap} (I:Inv X pins σ H s) (hx:Our X pins H x) (n:Nt (Our X pins H) (frs X.stack) x s.heap h'):Inv X pins σ H { s with heap:=h' }:=by
 obtain ⟨ch,pc,kc⟩:=n.chg
 have oc:∀ b ∈ ch,Our X pins H b:=fun b hb=>by
  rcases pc b hb with z | z
  ·rw [z];exact hx
  ·exact z.1
 have nfs:∀ b,b ≠ X.env.locals->b ∉ X.fs->b ∉ frs X.stack:=fun b h1 h2 z=>by
  rcases List.mem_cons.mp (I.stkSub b z) with q | q
  ·exact h1 q
  ·exact h2 q
 refine I.step (g':=s.gens) (d':=s.drawn) (t':=s.toks) (ch:=ch) (fun b hb=>⟨.inr (oc b hb).new,(oc b hb).loc,(oc b hb).cel,(oc b hb).pin⟩) (fun b o h1 h2 h3 e _=>kc b o e (nfs b h1 h2) h3) (fun b o _ _ h3 e _=>?_) (fun _ _ _ _ z=>z)
  (fun b o _ e=>n.thr b o e) (fun _ _ e=>e) (fun _ _ _ e=>e) (fun b ps e=>⟨#[],by rw [e];simp⟩) (fun m hm=>?_) (fun a o e=>?_) I.bare
 ·by_cases hf:b ∈ frs X.stack
  ·exact n.frm b o e hf
  ·exact ⟨o.slots,kc b o e hf h3⟩
 ·obtain ⟨o,es,ep,ho,hd,r⟩:=hm
  by_cases hf:X.env.locals ∈ frs X.stack
  ·obtain ⟨sl,e⟩:=n.frm _ o ho hf
   exact ⟨_,es,ep,e,hd,r⟩
  ·exact ⟨o,es,ep,kc _ o ho hf (fun z=>(oc _ z).loc rfl),hd,r⟩
 ·refine (I.hok a o e).stay (fun c u hc q=>kc c u q ?_ ?_) (fun _ q=>q) fun _ _ q=>q
  ·intro z
   have:=I.stkFree c z
   rcases hc with rfl | hc
   ·rw [this] at e;cases e
   ·rw [this] at hc;cases hc
  ·intro z
   have:=(oc c z).unt
   rcases hc with rfl | hc
   ·rw [this] at e;cases e
   ·rw [this] at hc;cases hc
theorem Inv.leave {M:Model} {E:Value->Shared->Prop} {Q:Unit->Shared->Prop} (I:Inv X pins σ H s) (hst:X.stack = X.env :: X.outer) (hf:X.env.frame = some X.env.locals) (hx:Our X pins H x) (xa:XAt s.heap (Our X pins H) x C od .none)
  (h:∀ s',Inv X pins σ H s'->XAt s'.heap (Our X pins H) x C od .none->Q () s'):wpAny M X.A (leaving X.env (.ref x)) Q E s:=
 leave_ok (base:=X.base) (by rw [I.ok.frames,hst]) (by rw [← hst];exact I.stack) hf xa (fun T hT=>I.our hT) fun h' n xa'=>h _ (I.noted hx (by rw [hst];exact n)) xa'
end
def CX1 (P:Program) (w:World):CXT:=fun outer H s E e s'=>∃ x C od H',e = .ref x/\s'.os = s.os/\AllBare s'.gens/\Un (frs outer) [] H H' s.heap s'.heap/\HOk P w H' s'.heap/\s.heap.objs.size ≤ x/\H' x = none ∧
 XAt s'.heap (fun T=>s.heap.objs.size ≤ T/\H' T = none) x C od .none/\E C od H'
abbrev XS:=Value->Option Addr->St->Hp->Prop
def Lands (X:Cx) (E:XS):Prop:=∀ (pins:List (Addr × Obj)) (σ:St) (H:Hp) (s:Shared) (x:Addr) (C:Value) (od:Option Addr),Inv X pins σ H s->Our X pins H x->XAt s.heap (Our X pins H) x C od .none->E C od σ H->X.xe (.ref x) s
theorem lands_cx {P:Program} {w:World} {K:PySem.W.Frag} {mg:Str->Option Value} {base:Heap} {N:List Str} {qual:Str} {scope:Scope} {f:Addr} {cd:Value} {A:Around} {outer:List Env} {s₀:Shared} {H₀:Hp} {E:XK} :
  Lands (cxOf (CX1 P w) P w K mg base N qual scope f cd A outer s₀ H₀ E) (fun C od _ H=>E C od H):=by
 intro pins σ H s x C od I hx xa q
 exact I.leave (Q:=fun _ s''=>CX1 P w outer H₀ s₀ E (.ref x) s'') rfl rfl hx xa fun s' I' xa'=>⟨x,C,od,H,rfl,I'.os,I'.bare,I'.base,I'.hok,hx.new,hx.unt,xa'.imp fun T o=>⟨o.new,o.unt⟩,q⟩
theorem Lands.pass {X:Cx} {E:XS} (L:Lands X E) {pins:List (Addr × Obj)} {σ:St} {H:Hp} {s s':Shared} {e:Value} (I:Inv X pins σ H s) (h:CX1 X.prog X.w X.stack H s (fun C od H'=>E C od σ H') e s'):X.xe e s':=by
 obtain ⟨x,C,od,H',rfl,os,bare,un,hok,nx,hx,xa,q⟩:=h
 have I':Inv X pins σ H' s':=I.call' os un hok bare (fun b z=>absurd z (by simp))
 exact L pins σ H' s' x C od I' (I.our' nx hx) (xa.imp fun T z=>I.our' z.1 z.2) q
section
variable {X:Cx} {k:Nat} {f C:Addr} {fd:FuncData} {ps:List Str} {sp:Sp} {dvs:List V} {ds:List Value} {E:XS} {x m:Str} {p pos apos:Pos} {e o:Expr} {es:List Expr} {ta:TE} {t:TA}
theorem run_fnX {pins:List (Addr × Obj)} {σ:St} {H:Hp} {s:Shared} {Q:VK} {us:List Value} {vs:List V} (F:FnOk X.prog X.w X.K X.mg X.base (CX1 X.prog X.w) k f fd ps sp) (hr:Room k X.A) (hb:Binds X.K fd ps ds) (hd:Vals dvs ds) (L:Lands X E)
  (I:Inv X pins σ H s) (r:Vals vs us) (h:sp (vs ++ dvs) H Q (fun C od H'=>E C od σ H')):wpAny (model X.prog X.w) X.A (call (.ref f) us) (EP X pins σ Q) X.xe s:=by
 have r2:Vals (vs ++ dvs) (us ++ ds):=r.append hd
 have hl:(us ++ ds).length = ps.length:=by rw [← r2.length];exact F.len _ _ _ _ h
 refine wpAny_call (codeAny_mono (F.run X.A X.stack s H ⟨us,[]⟩ (us ++ ds) (vs ++ dvs) Q _ hr I.env0 (hb s us I.kIn hl) r2 h) fun r s' hq=>?_)
 cases r with
 | error e=>exact L.pass I hq
 | ok fl=>
  cases fl with
  | ret u=>exact I.after hq
  | next=>exact False.elim hq
  | brk=>exact False.elim hq
  | cont=>exact False.elim hq
def tCallX (sp:Sp) (dvs:List V) (E:XS) (t:TA):TE:=fun σ H Q=>t σ H fun vs H1=>sp (vs ++ dvs) H1 Q (fun C od H'=>E C od σ H')
theorem pe_callX (F:FnOk X.prog X.w X.K X.mg X.base (CX1 X.prog X.w) k f fd ps sp) (hr:Room k X.A) (hg:Gl X x) (hm:X.mg x = some (.ref f)) (hk:PySem.W.keepIn X.K (.ref f) = true) (hb:Binds X.K fd ps ds) (hd:Vals dvs ds) (L:Lands X E)
  (ha:PA X (e :: es) t) (hdb:(x == ("__debug__":Str)) = false:=by decide) (he:starEach (e :: es) X.env = (false,eval e X.env) :: starEach es X.env:=by rfl) (hpl:(backTo pos (starEach es X.env)).any (·.1) = false:=by rfl) :
  PE X (.Call (.Name x p) (e :: es) [] pos) (tCallX sp dvs E t):=by
 intro pins s σ H Q I h
 refine wpAny_Call_Name_kw (ld_glob I hg hm ?_ hdb)
 refine PySem.W.callWith_K (h₀:=X.base) I.ok.mod.kin hk (thn (ha pos pins s σ H _ I h) fun us s1 ⟨vs,H1,I1,r,q⟩=>⟨I1.kIn,?_⟩) he hpl
 exact run_fnX F hr hb hd L I1 r q
end
end L2
namespace L2
open PySem PySem.Spec PyProof.Rows Builtin Builtin.ObjectAttr
abbrev bmV:List Value:=[.type "ValueError",.type "Exception",.type "BaseException",.type "object"]
def tailV:List Value->Bool
 | []=>false
 | v :: r=>(v :: r) == bmV || match v with | .ref _=>tailV r | _=>false
structure XCl (K:PySem.W.Frag) (C:Addr):Prop where
 at_:∃ (nm q:Str) (N:Addr) (bs bm:List Value) (sn:List Str) (sub:List Value) (ab:Bool) (col:Option Bool) (dd:Option Addr) (k0 k1 k2 k3 k5:Option Value),K.lookup C = some (excClassObj nm q C N bs bm true sn sub ab col dd k0 k1 k2 k3 k5 "ValueError.__new__")/\tailV bm = true
 ga:PySem.W.findIn K (.ref C) "__getattribute__" = some (some (.builtin "BaseException.__getattribute__"))
 gx:PySem.W.findIn K (.ref C) "__getattr__" = some none
 sa:PySem.W.findIn K (.ref C) "__setattr__" = some (some (.builtin "object.__setattr__"))
 kp:PySem.W.keepIn K (.ref C) = true
theorem xcl_mk {K:PySem.W.Frag} {C N:Addr} {nm q:Str} {bs bm:List Value} {sn:List Str} {sub:List Value} {ab:Bool} {col:Option Bool} {dd:Option Addr} {k0 k1 k2 k3 k5:Option Value}
  (l:K.lookup C = some (excClassObj nm q C N bs bm true sn sub ab col dd k0 k1 k2 k3 k5 "ValueError.__new__")) (t:tailV bm = true) (ga:PySem.W.findIn K (.ref C) "__getattribute__" = some (some (.builtin "BaseException.__getattribute__")))
  (gx:PySem.W.findIn K (.ref C) "__getattr__" = some none) (sa:PySem.W.findIn K (.ref C) "__setattr__" = some (some (.builtin "object.__setattr__"))) (kp:PySem.W.keepIn K (.ref C) = true):XCl K C:=
 ⟨⟨nm,q,N,bs,bm,sn,sub,ab,col,dd,k0,k1,k2,k3,k5,l,t⟩,ga,gx,sa,kp⟩
section
variable {prog:Program} {w:World} {A:Around} {E:Value->Shared->Prop} {h:Heap} {g:Array GenState} {d:Drawn} {t:Nat} {os:OsState}
variable {nm q:Str} {C N:Addr} {bs bm:List Value} {sn:List Str} {sub:List Value} {ab:Bool} {col:Option Bool} {dd:Option Addr} {k0 k1 k2 k3 k5:Option Value}
end
section
variable {prog:Program} {w:World} {A:Around} {E:Value->Shared->Prop} {s:Shared} {K:PySem.W.Frag} {x C dx t0:Addr} {name:Str} {v:Value}
end
end L2
namespace L2
open PySem PySem.Spec PyProof.Rows Builtin Builtin.ObjectAttr
def gotP (x C:Addr) (od:Option Addr) (h:Heap):Prop:=∃ vs sl,h.get? x = some ⟨.ref C,od,.fields vs,sl⟩
def dctP (dx:Addr) (fs:List (Str × V)) (h:Heap):Prop:=∃ mA,h.Ns1 dx mA/\(∀ f,RelO (fs.lookup f) (mA f))/\Within mA (fs.map (·.1))
section
variable {P:Program} {w:World} {H:Hp} {h:Heap} {x C dx t:Addr} {od:Option Addr}
end
section
variable {X:Cx} {pins:List (Addr × Obj)} {σ:St} {H:Hp} {s:Shared} {x dx C:Addr} {φ:Heap->Prop} {od:Option Addr}
theorem Inv.track {o:HO} (I:Inv X pins σ H s) (hx:Our X pins H x) (new:ObjOk X.prog X.w (upd H x o) s.heap x o):Inv X pins σ (upd H x o) s:=by
 have ne:∀ b u,H b = some u->b ≠ x:=fun b u q z=>by rw [z,hx.unt] at q;cases q
 refine I.step (h':=s.heap) (g':=s.gens) (d':=s.drawn) (t':=s.toks) (ch:=[x]) (fun b hb=>?_) (fun b o _ _ _ e _=>e) (fun b o _ _ _ e _=>⟨o.slots,e⟩) (fun b o hc e n=>?_) (fun b o _ e=>⟨o,e⟩) (fun b xs e=>?_) (fun b u xs e=>?_) (fun b ps e=>⟨#[],?_⟩) (fun m hm=>hm) (fun b u q=>?_) I.bare
 ·rw [List.mem_singleton.mp hb]
  exact ⟨.inr hx.new,hx.loc,hx.cel,hx.pin⟩
 ·rw [upd_ne fun z=>hc (by rw [z];exact List.mem_singleton.mpr rfl)]
  exact n
 ·rw [upd_ne (ne b _ e)];exact e
 ·rw [upd_ne (ne b _ e)];exact e
 ·rw [upd_ne (ne b _ e),e];simp
 ·by_cases hb:b = x
  ·subst hb
   rw [upd_same] at q
   cases q
   exact new
  ·rw [upd_ne hb] at q
   exact (I.hok b u q).stay (fun _ _ _ r=>r) (fun c r=>by rw [upd_ne (ne c _ r)];exact r) fun c xs r=>by rw [upd_ne (ne c _ r)];exact r
end
section
variable {X:Cx} {k:Nat} {f C:Addr} {fd:FuncData} {ps:List Str} {sp:Sp} {dvs:List V} {ds:List Value} {E:XS} {x m:Str} {p pos apos:Pos} {e o:Expr} {es:List Expr} {ta te:TE} {t:TA}
end
end L2
namespace L2
open PySem PySem.Spec PyProof.Rows Builtin Builtin.ObjectAttr
section
variable {X:Cx} {o e value:Expr} {f:Str} {pos pos' tpos:Pos} {ta tv:TE}
end
section
variable {prog:Program} {w:World} {A:Around} {E:Value->Shared->Prop} {h:Heap} {g:Array GenState} {d:Drawn} {t:Nat} {os:OsState}
variable {nm q:Str} {C N x t0:Addr} {bs bm:List Value} {sn:List Str} {sub:List Value} {ab:Bool} {col:Option Bool} {dd:Option Addr} {k0 k1 k2 k3 k5:Option Value}
end
theorem upd_id {H:Hp} {a:Addr} {o:HO} (h:H a = some o):upd H a o = H:=by
 funext b
 by_cases z:b = a
 ·rw [z,upd_same,h]
 ·exact upd_ne z
section
variable {X:Cx} {B:Addr} {y:Str} {p pos apos:Pos} {e:Expr} {es:List Expr} {t:TA}
end
section
variable {X:Cx} {pins:List (Addr × Obj)} {σ:St} {H:Hp} {s:Shared} {x:Addr} {E:Value->Shared->Prop}
end
section
variable {X:Cx} {body:List Stmt} {cx n:Str} {b₀:Stmt} {suite:List Stmt} {np hp pos:Pos} {CN:Addr} {i:Nat} {tb:Ends->TS} {ts:Addr->TS}
end
end L2
namespace L2
open PySem PySem.Spec PyProof.Rows Builtin Builtin.ObjectAttr
section
variable {prog:Program} {w:World} {A:Around} {E:Value->Shared->Prop} {h:Heap} {g:Array GenState} {d:Drawn} {t:Nat} {os:OsState}
variable {nm q:Str} {C N:Addr} {bs bm:List Value} {sn:List Str} {sub:List Value} {ab:Bool} {col:Option Bool} {dd:Option Addr} {k0 k1 k2 k3 k5:Option Value}
end
section
variable {X:Cx} {C:Addr} {x:Str} {p pos:Pos} {e:Expr} {es:List Expr} {t:TA}
end
end L2
namespace L2
open PySem PySem.Spec PyProof.Rows Builtin Builtin.ObjectAttr
section
variable {prog:Program} {w:World} {A:Around} {E:Value->Shared->Prop} {s:Shared} {K:PySem.W.Frag} {x C:Addr} {ox:Obj} {od:Option Obj}
end
section
variable {X:Cx} {pins:List (Addr × Obj)} {σ:St} {H:Hp} {s:Shared} {a C:Addr} {od:Option Addr}
end
section
variable {M:Model} {A:Around} {E:Value->Shared->Prop} {h:Heap} {g:Array GenState} {d:Drawn} {t:Nat} {os:OsState}
variable {nm q:Str} {C N:Addr} {bs bm:List Value} {sn:List Str} {sub:List Value} {ab:Bool} {col:Option Bool} {dd:Option Addr} {k0 k1 k2 k3 k5:Option Value}
variable {nm' q':Str} {D N':Addr} {bs' bm':List Value} {sn':List Str} {sub':List Value} {ab':Bool} {col':Option Bool} {dd':Option Addr} {j0 j1 j2 j3 j5:Option Value}
end
section
variable {X:Cx} {body:List Stmt} {cx n:Str} {b₀:Stmt} {suite:List Stmt} {np hp pos:Pos} {CN:Addr} {i:Nat} {tb:Ends->TS} {tc:Addr->Addr->TS} {ts:Addr->TS}
end
end L2
namespace L2
open PySem
section
variable {prog:Program} {w:World} {A:Around} {E:Value->Shared->Prop} {s:Shared}
end
end L2
namespace L2
open PySem PySem.Spec PyProof.Rows
section
variable {X:Cx} {pins:List (Addr × Obj)} {σ:St} {H:Hp} {s:Shared} {h':Heap}
end
section
variable {X:Cx}
end
end L2
namespace L2
open PySem PySem.Spec PyProof.Rows
section
variable {X:Cx}
end
structure FunX (K:PySem.W.Frag) (x qual:Str) (st:Stmt) (f:Addr) (fd:FuncData):Prop where
 ex:∃ (oc:Value) (od:Option Addr) (dV kV doc pm:Value) (an:Option Addr) (cdv ct:Value) (osl:Array (Option Value)),
  fd = PySem.W.fnOf x qual (defArgs st) (defBody st) (defScope st) dV kV doc pm an cdv ct/\K.lookup f = some ⟨oc,od,.func fd,osl⟩/\PySem.W.codeIn K cdv qual = true
 kp:PySem.W.keepIn K (.ref f) = true
section
variable {P:Program} {w:World} {K:PySem.W.Frag} {mg:Str->Option Value} {base:Heap}
theorem FunX.okX {x qual:Str} {st:Stmt} {f:Addr} {fd:FuncData} {N ps:List Str} {k:Nat} {sp:Sp} (F:FunX K x qual st f fd) (S:FnScope N ps (defScope st)) (len:∀ vs H Q E,sp vs H Q E->vs.length = ps.length)
  (hbody:∀ (cdv:Value) (A:Around) (outer:List Env) (s:Shared) (H:Hp) (vs:List V) (Q:VK) (E:XK),Room k (A.deeper (envOfC qual (defScope st) s.heap.objs.size f cdv))->sp vs H Q E →
   ∃ t,PSs (cxOf (CX1 P w) P w K mg base N qual (defScope st) f cdv A outer s H E) (defBody st) t/\t { nx:=fun _ H'=>Q .non H',rt:=Q } (start N vs) H):FnOk P w K mg base (CX1 P w) (k + 1) f fd ps sp:=by
 obtain ⟨oc,od,dV,kV,doc,pm,an,cdv,ct,osl,rfl,lk,hcd⟩:=F.ex
 exact fn_of lk hcd S len fun A outer s H vs Q E hr hsp=>hbody cdv A outer s H vs Q E hr hsp
theorem Fun.x {x qual:Str} {st:Stmt} {f:Addr} {fd:FuncData} (F:Fun K x qual st f fd):FunX K x qual st f fd:=by
 obtain ⟨oc,od,kV,doc,pm,an,cdv,ct,osl,e,lk,hcd⟩:=F.ex
 exact ⟨⟨oc,od,.none,kV,doc,pm,an,cdv,ct,osl,e,lk,hcd⟩,F.kp⟩
end
end L2
namespace L2
open PySem PySem.Spec PyProof.Rows
section
variable {X:Cx}
theorem PE.imp {e:Expr} {t t':TE} (h:PE X e t) (m:∀ σ H Q,t' σ H Q->t σ H Q):PE X e t':=fun pins s σ H Q I q=>h pins s σ H Q I (m _ _ _ q)
theorem PT.imp {e:Expr} {t t':TT} (h:PT X e t) (m:∀ σ H Q,t' σ H Q->t σ H Q):PT X e t':=fun pins s σ H Q I q=>h pins s σ H Q I (m _ _ _ q)
theorem PA.imp {e:List Expr} {t t':TA} (h:PA X e t) (m:∀ σ H Q,t' σ H Q->t σ H Q):PA X e t':=fun pos pins s σ H Q I q=>h pos pins s σ H Q I (m _ _ _ q)
theorem PS.imp {e:Stmt} {t t':TS} (h:PS X e t) (m:∀ D σ H,t' D σ H->t D σ H):PS X e t':=fun pins s σ H D I q=>h pins s σ H D I (m _ _ _ q)
theorem PSs.imp {e:List Stmt} {t t':TS} (h:PSs X e t) (m:∀ D σ H,t' D σ H->t D σ H):PSs X e t':=fun pins s σ H D I q=>h pins s σ H D I (m _ _ _ q)
theorem PI.imp {tg e:Expr} {t t':TI} (h:PI X tg e t) (m:∀ σ H R,t' σ H R->t σ H R):PI X tg e t':=fun pins s σ H R I q=>h pins s σ H R I (m _ _ _ q)
theorem PW.imp {e:Expr} {t t':TT} (h:PW X e t) (m:∀ σ H Q,t' σ H Q->t σ H Q):PW X e t':=fun whole pins s σ H Q I q=>h whole pins s σ H Q I (m _ _ _ q)
end
end L2
namespace DL
open PySem L2
structure Kx where
 fr:PySem.W.Frag
 xa:Str->Option Addr
 inj:∀ c c' C,xa c = some C->xa c' = some C->c = c'
inductive D where
 | non | bl (b:Bool) | int (i:Int) | str (x:Str) | ty (n:String)
 | tup (xs:List D) | lst (xs:List D) | dic (kvs:List (Key × D))
 | dct (kvs:List (List Key × D)) | exn (c:Str) (fs:List (Str × D)) | obj (c:Str) (fs:List (Str × D))
 | scr (ns:List Int)
section
variable (K:Kx) (H:Hp)
mutual
def Rep:D->V->Prop
 | .non,v=>v = .non
 | .bl b,v=>v = .bl b
 | .int i,v=>v = .int i
 | .str x,v=>v = .str x
 | .ty n,v=>v = .ty n
 | .tup ds,v=>∃ a vs,v = .ref a/\SqT K.fr H a vs/\Reps ds vs
 | .lst ds,v=>∃ a vs,v = .ref a/\Rd H a (.lst vs)/\Reps ds vs
 | .dic kds,v=>∃ a o kvs,v = .ref a/\H a = some (.frz o (.dK kvs))/\RepK kds kvs
 | .dct kds,v=>∃ a o kvs,v = .ref a/\H a = some (.frz o (.dT kvs))/\RepT kds kvs
 | .exn c fs,v=>∃ a C od vs,v = .ref a/\K.xa c = some C/\H a = some (.ext (gotP a C od))/\(match od with | none=>vs = [] | some dx=>H dx = some (.ext (dctP dx vs)))/\RepS fs vs
 | .obj c fs,v=>∃ a C dx vs,v = .ref a/\K.xa c = some C/\H a = some (.ins C dx vs)/\RepS fs vs
 | .scr ns,v=>∃ a,v = .ref a/\SqL K.fr H a (ns.map V.int)
def Reps:List D->List V->Prop
 | [],vs=>vs = []
 | d :: ds,vs=>∃ v r,vs = v :: r/\Rep d v/\Reps ds r
def RepK:List (Key × D)->List (Key × V)->Prop
 | [],vs=>vs = []
 | (k,d) :: ds,vs=>∃ v r,vs = (k,v) :: r/\Rep d v/\RepK ds r
def RepT:List (List Key × D)->List (List Key × V)->Prop
 | [],vs=>vs = []
 | (k,d) :: ds,vs=>∃ v r,vs = (k,v) :: r/\Rep d v/\RepT ds r
def RepS:List (Str × D)->List (Str × V)->Prop
 | [],vs=>vs = []
 | (k,d) :: ds,vs=>∃ v r,vs = (k,v) :: r/\Rep d v/\RepS ds r
end
end
section
variable {K:Kx} {H H':Hp}
theorem Rd.same {a:Addr} {u:HO} (e:Same H H') (h:Rd H a u):Rd H' a u:=by
 rcases h with h | ⟨o,h⟩
 ·exact .inl (e _ _ h)
 ·exact .inr ⟨o,e _ _ h⟩
mutual
theorem Rep.same (e:Same H H'):∀ {d:D} {v:V},Rep K H d v->Rep K H' d v
 | .non,_,h=>h
 | .bl _,_,h=>h
 | .int _,_,h=>h
 | .str _,_,h=>h
 | .ty _,_,h=>h
 | .tup ds,v,h=>by
  unfold Rep at h ⊢
  obtain ⟨a,vs,h1,h2,h3⟩:=h
  exact ⟨a,vs,h1,e.seqT h2,Reps.same e h3⟩
 | .lst ds,v,h=>by
  unfold Rep at h ⊢
  obtain ⟨a,vs,h1,h2,h3⟩:=h
  exact ⟨a,vs,h1,Rd.same e h2,Reps.same e h3⟩
 | .dic kds,v,h=>by
  unfold Rep at h ⊢
  obtain ⟨a,o,vs,h1,h2,h3⟩:=h
  exact ⟨a,o,vs,h1,e _ _ h2,RepK.same e h3⟩
 | .dct kds,v,h=>by
  unfold Rep at h ⊢
  obtain ⟨a,o,vs,h1,h2,h3⟩:=h
  exact ⟨a,o,vs,h1,e _ _ h2,RepT.same e h3⟩
 | .exn c fs,v,h=>by
  unfold Rep at h ⊢
  obtain ⟨a,C,od,vs,h1,h2,h3,h4,h5⟩:=h
  refine ⟨a,C,od,vs,h1,h2,e _ _ h3,?_,RepS.same e h5⟩
  cases od with
  | none=>exact h4
  | some dx=>exact e _ _ h4
 | .obj c fs,v,h=>by
  unfold Rep at h ⊢
  obtain ⟨a,C,dx,vs,h1,h2,h3,h5⟩:=h
  exact ⟨a,C,dx,vs,h1,h2,e _ _ h3,RepS.same e h5⟩
 | .scr ns,v,h=>by
  unfold Rep at h ⊢
  obtain ⟨a,h1,h2⟩:=h
  exact ⟨a,h1,e.seq h2⟩
theorem Reps.same (e:Same H H'):∀ {ds:List D} {vs:List V},Reps K H ds vs->Reps K H' ds vs
 | [],_,h=>by unfold Reps at h ⊢;exact h
 | d :: ds,vs,h=>by
  unfold Reps at h ⊢
  obtain ⟨v,r,h1,h2,h3⟩:=h
  exact ⟨v,r,h1,Rep.same e h2,Reps.same e h3⟩
theorem RepK.same (e:Same H H'):∀ {ds:List (Key × D)} {vs:List (Key × V)},RepK K H ds vs->RepK K H' ds vs
 | [],_,h=>by unfold RepK at h ⊢;exact h
 | (k,d) :: ds,vs,h=>by
  unfold RepK at h ⊢
  obtain ⟨v,r,h1,h2,h3⟩:=h
  exact ⟨v,r,h1,Rep.same e h2,RepK.same e h3⟩
theorem RepT.same (e:Same H H'):∀ {ds:List (List Key × D)} {vs:List (List Key × V)},RepT K H ds vs->RepT K H' ds vs
 | [],_,h=>by unfold RepT at h ⊢;exact h
 | (k,d) :: ds,vs,h=>by
  unfold RepT at h ⊢
  obtain ⟨v,r,h1,h2,h3⟩:=h
  exact ⟨v,r,h1,Rep.same e h2,RepT.same e h3⟩
theorem RepS.same (e:Same H H'):∀ {ds:List (Str × D)} {vs:List (Str × V)},RepS K H ds vs->RepS K H' ds vs
 | [],_,h=>by unfold RepS at h ⊢;exact h
 | (k,d) :: ds,vs,h=>by
  unfold RepS at h ⊢
  obtain ⟨v,r,h1,h2,h3⟩:=h
  exact ⟨v,r,h1,Rep.same e h2,RepS.same e h3⟩
end
theorem reps_nil {vs:List V}:Reps K H [] vs ↔ vs = []:=by unfold Reps;exact Iff.rfl
theorem reps_cons {d:D} {ds:List D} {vs:List V}:Reps K H (d :: ds) vs ↔ ∃ v r,vs = v :: r/\Rep K H d v/\Reps K H ds r:=by rw [Reps]
theorem Reps.nil:Reps K H [] []:=reps_nil.mpr rfl
theorem Reps.cons {d:D} {ds:List D} {v:V} {vs:List V} (h:Rep K H d v) (t:Reps K H ds vs):Reps K H (d :: ds) (v :: vs):=reps_cons.mpr ⟨v,vs,rfl,h,t⟩
theorem Reps.length:∀ {ds:List D} {vs:List V},Reps K H ds vs->vs.length = ds.length
 | [],_,h=>by rw [reps_nil.mp h];rfl
 | d :: ds,vs,h=>by
  obtain ⟨v,r,rfl,_,h3⟩:=reps_cons.mp h
  rw [List.length_cons,List.length_cons,Reps.length h3]
theorem Reps.append:∀ {ds es:List D} {vs ws:List V},Reps K H ds vs->Reps K H es ws->Reps K H (ds ++ es) (vs ++ ws)
 | [],_,_,_,h,t=>by rw [reps_nil.mp h];exact t
 | d :: ds,es,vs,ws,h,t=>by
  obtain ⟨v,r,rfl,h2,h3⟩:=reps_cons.mp h
  exact Reps.cons h2 (Reps.append h3 t)
theorem Reps.get:∀ {ds:List D} {vs:List V} {i:Nat} {d:D},Reps K H ds vs->ds[i]? = some d->∃ v,vs[i]? = some v/\Rep K H d v
 | [],_,_,_,_,e=>by simp at e
 | d :: ds,vs,0,d',h,e=>by
  obtain ⟨v,r,rfl,h2,h3⟩:=reps_cons.mp h
  have:d = d':=by simpa using e
  subst this
  exact ⟨v,rfl,h2⟩
 | d :: ds,vs,i + 1,d',h,e=>by
  obtain ⟨v,r,rfl,h2,h3⟩:=reps_cons.mp h
  obtain ⟨v',e1,e2⟩:=Reps.get (i:=i) h3 (by simpa using e)
  exact ⟨v',by simpa using e1,e2⟩
theorem Reps.take:∀ {ds:List D} {vs:List V} (n:Nat),Reps K H ds vs->Reps K H (ds.take n) (vs.take n)
 | _,_,0,_=>Reps.nil
 | [],_,n + 1,h=>by rw [reps_nil.mp h];exact Reps.nil
 | d :: ds,vs,n + 1,h=>by
  obtain ⟨v,r,rfl,h2,h3⟩:=reps_cons.mp h
  exact Reps.cons h2 (Reps.take n h3)
theorem Reps.drop:∀ {ds:List D} {vs:List V} (n:Nat),Reps K H ds vs->Reps K H (ds.drop n) (vs.drop n)
 | _,_,0,h=>h
 | [],_,n + 1,h=>by rw [reps_nil.mp h];exact Reps.nil
 | d :: ds,vs,n + 1,h=>by
  obtain ⟨v,r,rfl,h2,h3⟩:=reps_cons.mp h
  exact Reps.drop n h3
end
structure Xc where
 cls:Str
 fs:List (Str × D)
inductive Res (α:Type) where
 | val (a:α)
 | exc (x:Xc)
 | bad
def Res.bind {α β:Type} (r:Res α) (k:α->Res β):Res β:=match r with
 | .val a=>k a
 | .exc x=>.exc x
 | .bad=>.bad
instance:Monad Res where
 pure:=.val
 bind:=Res.bind
inductive DV where
 | fz (d:D)
 | ol (ds:List D)
 | od (kds:List (Key × D))
def DV.own:DV->Bool
 | .fz _=>false
 | _=>true
def DV.d:DV->D
 | .fz d=>d
 | .ol ds=>.lst ds
 | .od kds=>.dic kds
abbrev Dst:=List (Option DV)
structure Zt where
 K:Kx
 Hf:Hp
 H:Hp
def RepV (K:Kx) (Hf H:Hp) (v:V):DV->Prop
 | .fz d=>Rep K Hf d v
 | .ol ds=>∃ p vs,v = .ref p/\Hf p = none/\H p = some (.lst vs)/\Reps K Hf ds vs
 | .od kds=>∃ p kvs,v = .ref p/\Hf p = none/\H p = some (.dK kvs)/\RepK K Hf kds kvs
structure Ext (Hf H Hf' H':Hp):Prop where
 f:Same Hf Hf'
 h:Same H H'
 s:Same Hf' H'
 n:∀ a o,Hf' a = some o->(∃ o',Hf a = some o')\/H a = none
theorem Ext.refl {Hf H:Hp} (s:Same Hf H):Ext Hf H Hf H:=⟨Same.refl _,Same.refl _,s,fun a o e=>.inl ⟨o,e⟩⟩
theorem Ext.trans {Hf H Hf1 H1 Hf2 H2:Hp} (a:Ext Hf H Hf1 H1) (b:Ext Hf1 H1 Hf2 H2):Ext Hf H Hf2 H2:=⟨a.f.trans b.f,a.h.trans b.h,b.s,fun x o e=>by
 rcases b.n x o e with ⟨o1,e1⟩ | e1
 ·exact a.n x o1 e1
 ·exact .inr (a.h.free e1)⟩
theorem Ext.lay {Hf H:Hp} {p:Addr} {o:HO} (s:Same Hf H) (hp:H p = none):Ext Hf H (upd Hf p o) (upd H p o):=
 ⟨Same.upd (s.free hp),Same.upd hp,fun b u e=>by
  by_cases hb:b = p
  ·subst hb;rw [upd_same] at e ⊢;exact e
  ·rw [upd_ne hb] at e ⊢;exact s _ _ e,fun b u e=>by
  by_cases hb:b = p
  ·subst hb;exact .inr hp
  ·rw [upd_ne hb] at e;exact .inl ⟨u,e⟩⟩
theorem Ext.layO {Hf H:Hp} {p:Addr} {o:HO} (s:Same Hf H) (hp:H p = none):Ext Hf H Hf (upd H p o):=
 ⟨Same.refl _,Same.upd hp,s.trans (Same.upd hp),fun b u e=>.inl ⟨u,e⟩⟩
theorem Ext.frz {Hf H Hf' H':Hp} {p:Addr} {o:HO} (e:Ext Hf H Hf' H') (hp:H p = none) (hf:Hf' p = none) (ho:H' p = some o):Ext Hf H (upd Hf' p o) H':=
 ⟨e.f.trans (Same.upd hf),e.h,fun b u q=>by
  by_cases hb:b = p
  ·subst hb;rw [upd_same] at q;cases q;exact ho
  ·rw [upd_ne hb] at q;exact e.s _ _ q,fun b u q=>by
  by_cases hb:b = p
  ·subst hb;exact .inr hp
  ·rw [upd_ne hb] at q;exact e.n _ _ q⟩
theorem RepV.ext {K:Kx} {Hf H Hf' H':Hp} {v:V} {x:DV} (e:Ext Hf H Hf' H') (h:RepV K Hf H v x):RepV K Hf' H' v x:=by
 cases x with
 | fz d=>exact Rep.same e.f h
 | ol ds=>
  obtain ⟨p,vs,h1,h2,h3,h4⟩:=h
  refine ⟨p,vs,h1,?_,e.h _ _ h3,Reps.same e.f h4⟩
  cases q:Hf' p with
  | none=>rfl
  | some o=>
   rcases e.n p o q with ⟨o',z⟩ | z
   ·rw [h2] at z;cases z
   ·rw [h3] at z;cases z
 | od kds=>
  obtain ⟨p,vs,h1,h2,h3,h4⟩:=h
  refine ⟨p,vs,h1,?_,e.h _ _ h3,RepK.same e.f h4⟩
  cases q:Hf' p with
  | none=>rfl
  | some o=>
   rcases e.n p o q with ⟨o',z⟩ | z
   ·rw [h2] at z;cases z
   ·rw [h3] at z;cases z
structure SR (Z:Zt) (Hf H:Hp) (σ:St) (δ:Dst):Prop where
 e:Ext Z.Hf Z.H Hf H
 len:σ.length = δ.length
 at_:∀ (i:Nat) (x:DV),δ[i]? = some (some x)->∃ v,σ[i]? = some (some v)/\RepV Z.K Hf H v x
 one:∀ (i j:Nat) (x y:DV) (p:Addr),δ[i]? = some (some x)->δ[j]? = some (some y)->x.own = true->y.own = true->σ[i]? = some (some (.ref p))->σ[j]? = some (some (.ref p))->i = j
 new:∀ (i:Nat) (x:DV) (p:Addr),δ[i]? = some (some x)->x.own = true->σ[i]? = some (some (.ref p))->Z.H p = none
theorem SR.ext {Z:Zt} {Hf H Hf' H':Hp} {σ:St} {δ:Dst} (s:SR Z Hf H σ δ) (e:Ext Hf H Hf' H'):SR Z Hf' H' σ δ:=
 ⟨s.e.trans e,s.len,fun i x q=>let ⟨v,h1,h2⟩:=s.at_ i x q;⟨v,h1,h2.ext e⟩,s.one,s.new⟩
def RepX (Z:Zt) (Hf H:Hp) (C:Value) (od:Option Addr) (x:Xc):Prop:=
 ∃ a vs,Z.K.xa x.cls = some a/\C = .ref a/\(match od with | none=>vs = [] | some dx=>Hf dx = some (.ext (dctP dx vs)))/\RepS Z.K Hf x.fs vs
theorem RepX.zt {Z Z':Zt} {Hf H:Hp} {C:Value} {od:Option Addr} {x:Xc} (h:RepX Z Hf H C od x) (hk:Z.K = Z'.K):RepX Z' Hf H C od x:=by
 unfold RepX at h ⊢
 rw [← hk]
 exact h
def OutF (Z:Zt) (E:XS) (Hf H:Hp) (σ:St) (r:Res D) (Q:VK):Prop:=match r with
 | .val d=>∀ v Hf' H',Ext Hf H Hf' H'->Rep Z.K Hf' d v->Q v H'
 | .exc x=>∀ C od Hf' H',Ext Hf H Hf' H'->RepX Z Hf' H' C od x->E C od σ H'
 | .bad=>False
def OutA (Z:Zt) (E:XS) (Hf H:Hp) (σ:St) (r:Res (List D)) (Q:List V->Hp->Prop):Prop:=match r with
 | .val ds=>∀ vs Hf' H',Ext Hf H Hf' H'->Reps Z.K Hf' ds vs->Q vs H'
 | .exc x=>∀ C od Hf' H',Ext Hf H Hf' H'->RepX Z Hf' H' C od x->E C od σ H'
 | .bad=>False
def OutT (Z:Zt) (E:XS) (Hf H:Hp) (σ:St) (r:Res Bool) (Q:Bool->Hp->Prop):Prop:=match r with
 | .val b=>∀ Hf' H',Ext Hf H Hf' H'->Q b H'
 | .exc x=>∀ C od Hf' H',Ext Hf H Hf' H'->RepX Z Hf' H' C od x->E C od σ H'
 | .bad=>False
def OutO (Z:Zt) (E:XS) (Hf H:Hp) (σ:St) (r:Res DV) (Q:VK):Prop:=match r with
 | .val x=>∀ v Hf' H',Ext Hf H Hf' H'->RepV Z.K Hf' H' v x->(∀ p,x.own = true->v = .ref p->H p = none)->Q v H'
 | .exc x=>∀ C od Hf' H',Ext Hf H Hf' H'->RepX Z Hf' H' C od x->E C od σ H'
 | .bad=>False
def tF (Z:Zt) (E:XS) (g:Dst->Res D):TE:=fun σ H Q=>∃ Hf δ,SR Z Hf H σ δ/\OutF Z E Hf H σ (g δ) Q
def tFs (Z:Zt) (E:XS) (g:Dst->Res (List D)):TA:=fun σ H Q=>∃ Hf δ,SR Z Hf H σ δ/\OutA Z E Hf H σ (g δ) Q
def tFt (Z:Zt) (E:XS) (g:Dst->Res Bool):TT:=fun σ H Q=>∃ Hf δ,SR Z Hf H σ δ/\OutT Z E Hf H σ (g δ) Q
def tO (Z:Zt) (E:XS) (g:Dst->Res DV):TE:=fun σ H Q=>∃ Hf δ,SR Z Hf H σ δ/\OutO Z E Hf H σ (g δ) Q
section
variable {Z:Zt} {E:XS} {Hf H Hf' H':Hp} {σ:St}
theorem OutF.ext {r:Res D} {Q:VK} (o:OutF Z E Hf H σ r Q) (e:Ext Hf H Hf' H'):OutF Z E Hf' H' σ r Q:=by
 cases r with
 | val d=>exact fun v Hf2 H2 e2 h=>o v Hf2 H2 (e.trans e2) h
 | exc x=>exact fun C od Hf2 H2 e2 h=>o C od Hf2 H2 (e.trans e2) h
 | bad=>exact o
theorem OutA.ext {r:Res (List D)} {Q:List V->Hp->Prop} (o:OutA Z E Hf H σ r Q) (e:Ext Hf H Hf' H'):OutA Z E Hf' H' σ r Q:=by
 cases r with
 | val d=>exact fun v Hf2 H2 e2 h=>o v Hf2 H2 (e.trans e2) h
 | exc x=>exact fun C od Hf2 H2 e2 h=>o C od Hf2 H2 (e.trans e2) h
 | bad=>exact o
theorem OutT.ext {r:Res Bool} {Q:Bool->Hp->Prop} (o:OutT Z E Hf H σ r Q) (e:Ext Hf H Hf' H'):OutT Z E Hf' H' σ r Q:=by
 cases r with
 | val d=>exact fun Hf2 H2 e2=>o Hf2 H2 (e.trans e2)
 | exc x=>exact fun C od Hf2 H2 e2 h=>o C od Hf2 H2 (e.trans e2) h
 | bad=>exact o
theorem OutO.ext {r:Res DV} {Q:VK} (o:OutO Z E Hf H σ r Q) (e:Ext Hf H Hf' H'):OutO Z E Hf' H' σ r Q:=by
 cases r with
 | val d=>exact fun v Hf2 H2 e2 h n=>o v Hf2 H2 (e.trans e2) h fun p z1 z2=>e.h.free (n p z1 z2)
 | exc x=>exact fun C od Hf2 H2 e2 h=>o C od Hf2 H2 (e.trans e2) h
 | bad=>exact o
theorem F.F {r:Res D} {k:D->Res D} {Q Q1:VK} (o:OutF Z E Hf H σ (r >>= k) Q) (h:∀ d v Hf' H',Ext Hf H Hf' H'->Rep Z.K Hf' d v->OutF Z E Hf' H' σ (k d) Q->Q1 v H'):OutF Z E Hf H σ r Q1:=by
 cases r with
 | val d=>exact fun v Hf1 H1 e1 h1=>h d v Hf1 H1 e1 h1 (OutF.ext (show OutF Z E Hf H σ (k d) Q from o) e1)
 | exc x=>exact o
 | bad=>exact o
theorem F.A {r:Res D} {k:D->Res (List D)} {Q:List V->Hp->Prop} {Q1:VK} (o:OutA Z E Hf H σ (r >>= k) Q) (h:∀ d v Hf' H',Ext Hf H Hf' H'->Rep Z.K Hf' d v->OutA Z E Hf' H' σ (k d) Q->Q1 v H'):OutF Z E Hf H σ r Q1:=by
 cases r with
 | val d=>exact fun v Hf1 H1 e1 h1=>h d v Hf1 H1 e1 h1 (OutA.ext (show OutA Z E Hf H σ (k d) Q from o) e1)
 | exc x=>exact o
 | bad=>exact o
theorem F.T {r:Res D} {k:D->Res Bool} {Q:Bool->Hp->Prop} {Q1:VK} (o:OutT Z E Hf H σ (r >>= k) Q) (h:∀ d v Hf' H',Ext Hf H Hf' H'->Rep Z.K Hf' d v->OutT Z E Hf' H' σ (k d) Q->Q1 v H'):OutF Z E Hf H σ r Q1:=by
 cases r with
 | val d=>exact fun v Hf1 H1 e1 h1=>h d v Hf1 H1 e1 h1 (OutT.ext (show OutT Z E Hf H σ (k d) Q from o) e1)
 | exc x=>exact o
 | bad=>exact o
theorem F.O {r:Res D} {k:D->Res DV} {Q:VK} {Q1:VK} (o:OutO Z E Hf H σ (r >>= k) Q) (h:∀ d v Hf' H',Ext Hf H Hf' H'->Rep Z.K Hf' d v->OutO Z E Hf' H' σ (k d) Q->Q1 v H'):OutF Z E Hf H σ r Q1:=by
 cases r with
 | val d=>exact fun v Hf1 H1 e1 h1=>h d v Hf1 H1 e1 h1 (OutO.ext (show OutO Z E Hf H σ (k d) Q from o) e1)
 | exc x=>exact o
 | bad=>exact o
theorem A.F {r:Res (List D)} {k:List D->Res D} {Q:VK} {Q1:List V->Hp->Prop} (o:OutF Z E Hf H σ (r >>= k) Q) (h:∀ d v Hf' H',Ext Hf H Hf' H'->Reps Z.K Hf' d v->OutF Z E Hf' H' σ (k d) Q->Q1 v H'):OutA Z E Hf H σ r Q1:=by
 cases r with
 | val d=>exact fun v Hf1 H1 e1 h1=>h d v Hf1 H1 e1 h1 (OutF.ext (show OutF Z E Hf H σ (k d) Q from o) e1)
 | exc x=>exact o
 | bad=>exact o
theorem A.O {r:Res (List D)} {k:List D->Res DV} {Q:VK} {Q1:List V->Hp->Prop} (o:OutO Z E Hf H σ (r >>= k) Q) (h:∀ d v Hf' H',Ext Hf H Hf' H'->Reps Z.K Hf' d v->OutO Z E Hf' H' σ (k d) Q->Q1 v H'):OutA Z E Hf H σ r Q1:=by
 cases r with
 | val d=>exact fun v Hf1 H1 e1 h1=>h d v Hf1 H1 e1 h1 (OutO.ext (show OutO Z E Hf H σ (k d) Q from o) e1)
 | exc x=>exact o
 | bad=>exact o
theorem A.A {r:Res (List D)} {k:List D->Res (List D)} {Q Q1:List V->Hp->Prop} (o:OutA Z E Hf H σ (r >>= k) Q) (h:∀ d v Hf' H',Ext Hf H Hf' H'->Reps Z.K Hf' d v->OutA Z E Hf' H' σ (k d) Q->Q1 v H'):OutA Z E Hf H σ r Q1:=by
 cases r with
 | val d=>exact fun v Hf1 H1 e1 h1=>h d v Hf1 H1 e1 h1 (OutA.ext (show OutA Z E Hf H σ (k d) Q from o) e1)
 | exc x=>exact o
 | bad=>exact o
theorem T.F {r:Res Bool} {k:Bool->Res D} {Q:VK} {Q1:Bool->Hp->Prop} (o:OutF Z E Hf H σ (r >>= k) Q) (h:∀ b Hf' H',Ext Hf H Hf' H'->OutF Z E Hf' H' σ (k b) Q->Q1 b H'):OutT Z E Hf H σ r Q1:=by
 cases r with
 | val d=>exact fun Hf1 H1 e1=>h d Hf1 H1 e1 (OutF.ext (show OutF Z E Hf H σ (k d) Q from o) e1)
 | exc x=>exact o
 | bad=>exact o
theorem T.T {r:Res Bool} {k:Bool->Res Bool} {Q Q1:Bool->Hp->Prop} (o:OutT Z E Hf H σ (r >>= k) Q) (h:∀ b Hf' H',Ext Hf H Hf' H'->OutT Z E Hf' H' σ (k b) Q->Q1 b H'):OutT Z E Hf H σ r Q1:=by
 cases r with
 | val d=>exact fun Hf1 H1 e1=>h d Hf1 H1 e1 (OutT.ext (show OutT Z E Hf H σ (k d) Q from o) e1)
 | exc x=>exact o
 | bad=>exact o
end
end DL
namespace L2
open PySem PySem.Spec PyProof.Rows
section
variable {X:Cx}
end
end L2
namespace Nm
open PySem PySem.NumText PySem.W PyProof.Rows
end Nm
namespace L2
open PySem PySem.Spec PyProof.Rows
section
variable {X:Cx} {pins:List (Addr × Obj)} {σ:St} {H:Hp} {s:Shared} {a:Addr} {kvs:List (Key × V)} {o:Obj}
theorem Inv.freeze (I:Inv X pins σ H s) (e:H a = some (.dK kvs)) (ho:s.heap.get? a = some o):Inv X pins σ (upd H a (.frz o (.dK kvs))) s:=by
 have ne:∀ b u,H b = some u->u ≠ .dK kvs->b ≠ a:=fun b u q n z=>by
  subst z
  rw [e] at q
  exact n (Option.some.inj q).symm
 have nn:∀ b,H b = none->b ≠ a:=fun b q z=>by subst z;rw [e] at q;cases q
 refine ⟨I.ok,I.os,I.bare,⟨I.base.keep,I.base.slot,fun b ob q n hx=>?_,I.base.there,fun b xs q=>?_,fun b ob u q=>?_,fun b ps q=>?_⟩,I.loc,I.cell,?_,fun x c q=>?_,fun p hp=>?_,fun b u q=>?_,I.len⟩
 ·have h:=I.base.free b ob q n hx
  rw [upd_ne (nn b h)]
  exact h
 ·have h:=I.base.tups b xs q
  rw [upd_ne (ne b _ h (by simp))]
  exact h
 ·have h:=I.base.frzs b ob u q
  rw [upd_ne (ne b _ h (by simp))]
  exact h
 ·obtain ⟨m,h⟩:=I.base.tbls b ps q
  exact ⟨m,by rw [upd_ne (ne b _ h (by simp))];exact h⟩
 ·rw [upd_ne (nn _ I.free)]
  exact I.free
 ·rw [upd_ne (nn _ (I.freeC x c q))]
  exact I.freeC x c q
 ·obtain ⟨h1,h2,h3⟩:=I.pin p hp
  exact ⟨h1,by rw [upd_ne (nn _ h2)];exact h2,h3⟩
 ·by_cases hb:b = a
  ·subst hb
   rw [upd_same] at q
   cases q
   exact ⟨ho,I.hok b _ e⟩
  ·rw [upd_ne hb] at q
   exact (I.hok b u q).stay (fun c v _ r=>r) (fun c r=>by rw [upd_ne (ne c _ r (by simp))];exact r) fun c xs r=>by rw [upd_ne (ne c _ r (by simp))];exact r
theorem Inv.dk_obj (I:Inv X pins σ H s) (e:H a = some (.dK kvs)):∃ o,s.heap.get? a = some o:=by
 obtain ⟨_,_,_,_,o,_,_,g,_⟩:=I.hok a _ e
 exact ⟨o,g⟩
end
def epOf (o:Obj):Nat:=match o.data with
 | .dict _ ep=>ep
 | _=>0
theorem is_kV {P:Program} {w:World}:∀ {k:Key} {u:Value},(mixKind P w).is k u = true->RelV (kV k) u:=by
 intro k u h
 rcases keyIs_shape (k:=k) (v:=u) h with ⟨i,t,rfl,rfl⟩ | ⟨x,t,rfl,rfl⟩
 ·exact ⟨t,rfl⟩
 ·exact ⟨t,rfl⟩
def Itd (a:Addr) (o:Obj) (kvs:List (Key × V)):It:=
 ⟨fun i H=>i < kvs.length/\H a = some (.frz o (.dK kvs)),fun i H x H'=>H' = H/\∃ k v,kvs[i]? = some (k,v)/\x = kV k,fun i H=>kvs.length ≤ i/\H a = some (.frz o (.dK kvs))⟩
section
variable {X:Cx}
theorem kv_get:∀ {kvs:List (Key × V)} {vs:List (Key × Value)} {i:Nat} {p:Key × V},KV kvs vs->kvs[i]? = some p->∃ u,vs[i]? = some (p.1,u)/\RelV p.2 u
 | _,_,_,_,.nil,e=>by simp at e
 | _,_,0,_,.cons (b:=q) r _,e=>by
  simp at e
  subst e
  obtain ⟨q1,q2⟩:=q
  obtain ⟨r1,r2⟩:=r
  exact ⟨q2,by rw [List.getElem?_cons_zero];exact congrArg (fun z=>some (z,q2)) r1.symm,r2⟩
 | _,_,i + 1,p,.cons _ t,e=>by
  obtain ⟨u,h1,h2⟩:=kv_get (i:=i) (p:=p) t (by simpa using e)
  exact ⟨u,by simpa using h1,h2⟩
theorem Inv.dictAt {pins:List (Addr × Obj)} {σ:St} {H:Hp} {s:Shared} {a:Addr} {o:Obj} {kvs:List (Key × V)} (I:Inv X pins σ H s) (e:H a = some (.frz o (.dK kvs))) :
  ∃ vs,KV kvs vs/\s.heap.DictAt (mixKind X.prog X.w) a vs (epOf o)/\(a == sysModules) = false:=by
 obtain ⟨g,_,hs,vs,kv,o',es,ep,g',ex,hd,hk,hp,hn⟩:=I.hok a _ e
 rw [g] at g'
 cases g'
 have he:epOf o = ep:=by unfold epOf;rw [hd]
 exact ⟨vs,kv,⟨o,es,g,ex,by rw [he];exact hd,hk,hp,hn⟩,hs⟩
theorem KV.len {kvs:List (Key × V)} {vs:List (Key × Value)} (r:KV kvs vs):kvs.length = vs.length:=Paired.length r
theorem turn_dict {P:Program} {w:World} {K:PySem.W.Frag} {tg:Expr} (a it:Addr) (o:Obj) (kvs:List (Key × V)):Turn P w K tg (Itd a o kvs) [it] it (fun i h=>h.IsKeyIter it a i kvs.length (epOf o)) where
 mem:=by simp
 obj:=fun i h st b hb=>by
  have e:b = it:=by simpa using hb
  subst e
  obtain ⟨o,e,c,d⟩:=st
  exact ⟨o,e,fun v z=>by rw [d] at z;cases z⟩
 keep:=fun i h h' st k=>st.at fun o e=>k it (by simp) o e
 item:=by
  intro X hP hw hK hc i pins s σ H E I hf st hg
  subst hP hw hK
  obtain ⟨hi,hq⟩:=hg
  obtain ⟨vs,kv,da,_⟩:=I.dictAt hq
  have hl:=kv.len
  obtain ⟨u,hu,ru⟩:=kv_get kv (show kvs[i]? = some (kvs[i].1,kvs[i].2) by simp [hi])
  obtain ⟨f0,f1,f2,f3,f4,f5⟩:=hf it (by simp)
  rw [hl] at st
  refine wpAny_pyNext_dict_item st da hu fun key h' hkey st' sb=>?_
  rw [← hl] at st'
  have I1:Inv X pins σ H { s with heap:=h' }:=I.turned (t':=s.toks) (fun b o hb e=>(sb.2 b hb).trans e) f0 f1 f3 f4 f5
  obtain ⟨oi,e,c,d⟩:=id st'
  exact ⟨key,rfl,go_of (s:={ s with heap:=h' }) e c d (by decide) ⟨kV kvs[i].1,H,I1,is_kV hkey,⟨rfl,kvs[i].1,kvs[i].2,by simp [hi],rfl⟩,st',fun b hb=>(hf b hb).1⟩⟩
 done:=by
  intro X hP hw hK hc i pins s σ H E I hf st hg
  subst hP hw hK
  obtain ⟨hi,hq⟩:=hg
  obtain ⟨vs,kv,da,_⟩:=I.dictAt hq
  have hl:=kv.len
  obtain ⟨f0,f1,f2,f3,f4,f5⟩:=hf it (by simp)
  rw [hl] at st
  exact wpAny_pyNext_dict_end (I.ok.hd hc) st da (by simp;omega) fun h' eb=>⟨rfl,I.turned (t':=s.toks) (fun b o hb e=>eb b o hb e) f0 f1 f3 f4 f5⟩
 self:=fun _ _ _ _ _ st h=>wpAny_pyIter_keyiter st h
def iDict (tl:TE):TI:=fun σ H R=>tl σ H fun x H1=>∃ a o kvs,x = .ref a/\H1 a = some (.frz o (.dK kvs))/\R (Itd a o kvs) H1
theorem pi_dict {tg l:Expr} {tl:TE} (hl:PE X l tl):PI X tg l (iDict tl):=by
 intro pins s σ H R I h
 refine thn (hl pins s σ H _ I h) fun v s1 ⟨x,H1,I1,r1,q1⟩=>?_
 obtain ⟨a,o,kvs,e,hq,q⟩:=q1
 subst e
 cases r1
 obtain ⟨vs,kv,da,hs⟩:=I1.dictAt hq
 refine wpAny_pyIter_dict hs da ?_
 refine ⟨s1.heap.objs.size,[s1.heap.objs.size],_,_,H1,rfl,I1.kept (t':=s1.toks) fun b o e=>Heap.get?_push_of_some _ e,turn_dict a _ o kvs,⟨_,Heap.get?_push_size _ rfl,rfl,by rw [kv.len];rfl⟩,fun b hb=>?_,q⟩
 have e:b = s1.heap.objs.size:=by simpa using hb
 subst e
 exact I1.fpOk (Nat.le_refl _) (I1.hok.fresh (Nat.le_refl _))
end
end L2
namespace L2
open PySem PySem.Spec PyProof.Rows
section
variable {X:Cx}
end
end L2
namespace L2
open PySem PySem.Spec PyProof.Rows
section
variable {X:Cx}
end
end L2
namespace L2
open PySem PySem.Spec PyProof.Rows
section
variable {X:Cx} {pins:List (Addr × Obj)} {σ:St} {H:Hp} {s:Shared} {h':Heap} {a:Addr} {o:HO}
end
section
variable {X:Cx}
end
end L2
namespace L2
open PySem PySem.Spec PyProof.Rows
def Ite (K:PySem.W.Frag) (a:Addr):It:=
 ⟨fun i H=>∃ xs x,SqL K H a xs/\xs[i]? = some x,fun i H x H'=>∃ y p,(∀ xs,SqL K H a xs->xs[i]? = some y)/\x = .ref p/\H p = none/\H' = upd H p (.tup [.int i,y]),fun i H=>∃ xs,SqL K H a xs/\xs.length ≤ i⟩
theorem turn_enum {P:Program} {w:World} {K:PySem.W.Frag} {es:List Expr} {x1:Nat} {tp:Pos} (a e it:Addr) (ne:e ≠ it):Turn P w K (.Tuple es x1 tp) (Ite K a) [e,it] e (fun i h=>(∃ old,IsEnum h e it i old)/\h.IsListIter it a i) where
 mem:=by simp
 obj:=fun i h st b hb=>by
  obtain ⟨⟨old,s1⟩,s2⟩:=st
  rcases List.mem_cons.mp hb with z | z
  ·subst z
   exact ⟨_,s1,fun v z=>by cases z⟩
  ·have z:=List.mem_singleton.mp z
   subst z
   obtain ⟨o,e,c,d⟩:=s2
   exact ⟨o,e,fun v z=>by rw [d] at z;cases z⟩
 keep:=fun i h h' st k=>by
  obtain ⟨⟨old,s1⟩,s2⟩:=st
  exact ⟨⟨old,k e (by simp) _ s1⟩,s2.at fun o e=>k it (by simp) o e⟩
 item:=by
  intro X hP hw hK hc i pins s σ H E I hf st hg
  subst hP hw hK
  obtain ⟨⟨old,s1⟩,s2⟩:=st
  obtain ⟨xs,x,hq,hx⟩:=hg
  obtain ⟨its,rv,p,hz⟩:=I.list hq
  obtain ⟨u,hu,ru⟩:=rv.get hx
  obtain ⟨f0,f1,f2,f3,f4,f5⟩:=hf e (by simp)
  obtain ⟨g0,g1,g2,g3,g4,g5⟩:=hf it (by simp)
  have le:e < s.heap.objs.size:=Heap.lt_size s1
  have li:it < s.heap.objs.size:=by obtain ⟨o,e,_⟩:=s2;exact Heap.lt_size e
  refine wpAny_pyNext_enum_item s1 s2 p.isList (x:=u) (by simpa using hu) ne fun h' st' si' ht hsz kp=>?_
  refine ⟨_,rfl,?_⟩
  refine wpAny_letOwnedTupleGo_enum (s:={ s with heap:=h',toks:=s.toks + 1 }) st' fun h'' st'' sb=>?_
  have si'':h''.IsListIter it a (i + 1):=si'.at fun o q=>(sb.2 it (Ne.symm ne)).trans q
  obtain ⟨oi,ei,ci,di⟩:=id si''
  obtain ⟨oi0,ei0,_⟩:=id s2
  have I0:Inv X pins σ H { s with heap:=s.heap.update e fun _=>{ cls:=.type "enumerate",dict:=none,data:=.fields #[.none,.bool false,.ref it,rawInt ((i:Int) + 1),.none,u],slots:=#[] } }:=
   I.turned (t':=s.toks) (fun b ob hb q=>by rw [Heap.get?_update_ne _ _ _ _ hb];exact q) f0 f1 f3 f4 f5
  have I1:Inv X pins σ H { s with heap:=(s.heap.update e fun _=>{ cls:=.type "enumerate",dict:=none,data:=.fields #[.none,.bool false,.ref it,rawInt ((i:Int) + 1),.none,u],slots:=#[] }).update it fun _=>oi }:=
   I0.turned (t':=s.toks) (fun b ob hb q=>by rw [Heap.get?_update_ne _ _ _ _ hb];exact q) g0 g1 g3 g4 g5
  have hp:H s.heap.objs.size = none:=I.hok.fresh (Nat.le_refl _)
  have foi:oi.isFreed = false:=(Heap.get?_some_iff.mp ei).2
  refine ⟨.ref s.heap.objs.size,upd H s.heap.objs.size (.tup [.int i,x]),I1.laid (t':=s.toks + 1) (h':=h'') (fun b ob q=>?_) (by rw [Heap.size_update,Heap.size_update];exact Nat.le_refl _) ?_,rfl,⟨x,_,fun ys hy=>by rw [I.list_inj hy hq];exact hx,rfl,hp,rfl⟩,⟨⟨u,?_⟩,si''⟩,fun b hb=>?_⟩
  ·by_cases hb:b = it
   ·subst hb
    rw [Heap.get?_update_self _ (show (s.heap.update e _).get? b = some oi0 by rw [Heap.get?_update_ne _ _ _ _ (Ne.symm ne)];exact ei0) foi] at q
    rw [← q]
    exact ei
   ·rw [Heap.get?_update_ne _ _ _ _ hb] at q
    by_cases hb2:b = e
    ·subst hb2
     rw [Heap.get?_update_self _ s1 rfl] at q
     rw [← q]
     exact st''
    ·rw [Heap.get?_update_ne _ _ _ _ hb2] at q
     exact (sb.2 b hb2).trans (kp b ob hb2 hb q)
  ·exact ⟨(show 2 ≤ sizeLine by decide),[.int i s.toks,u],.cons ⟨_,rfl⟩ (.cons ru .nil),⟨_,(sb.2 _ (Nat.ne_of_gt le)).trans ht,rfl,_,rfl⟩⟩
  ·exact st''
  ·rcases List.mem_cons.mp hb with z | z
   ·subst z
    rw [upd_ne (Nat.ne_of_lt le)]
    exact f0
   ·have z:=List.mem_singleton.mp z
    subst z
    rw [upd_ne (Nat.ne_of_lt li)]
    exact g0
 done:=by
  intro X hP hw hK hc i pins s σ H E I hf st hg
  subst hP hw hK
  obtain ⟨⟨old,s1⟩,s2⟩:=st
  obtain ⟨xs,hq,hx⟩:=hg
  obtain ⟨its,rv,p,hz⟩:=I.list hq
  obtain ⟨g0,g1,g2,g3,g4,g5⟩:=hf it (by simp)
  have hl:=rv.length
  exact wpAny_pyNext_enum_end (I.ok.hd hc) s1 s2 p.isList (by simp;omega) fun h' eb=>⟨rfl,I.turned (t':=s.toks) (fun b o hb e=>eb b o hb e) g0 g1 g3 g4 g5⟩
 self:=fun A i s Q E st h=>by
  obtain ⟨⟨old,s1⟩,_⟩:=st
  exact wpAny_pyIter_enum s1 h
section
variable {X:Cx}
theorem boot_enum:bootBuiltins "enumerate" = some (.type "enumerate"):=by decide +kernel
def iEnum (K:PySem.W.Frag) (ta:TA):TI:=fun σ H R=>ta σ H fun vs H1=>∃ a,vs = [.ref a]/\(∃ xs,SqL K H1 a xs)/\R (Ite K a) H1
theorem pi_enum {es:List Expr} {x1:Nat} {tp:Pos} {l:Expr} {ta:TA} {p pos:Pos} (hg:Gl X "enumerate") (hm:X.mg "enumerate" = none) (ha:PA X [l] ta) (hs:starEach [l] X.env = [(false,eval l X.env)]:=by rfl) :
  PI X (.Tuple es x1 tp) (.Call (.Name "enumerate" p) [l] [] pos) (iEnum X.K ta):=by
 intro pins s σ H R I h
 refine Call_ (ld_blt I hg hm boot_enum (PyProof.Rows.callWith_type1 (thn (ha pos pins s σ H _ I h) fun us s1 ⟨vs,H1,I1,r1,q1⟩=>?_) hs rfl))
 obtain ⟨a,e,⟨xs,hq⟩,q⟩:=q1
 subst e
 obtain ⟨u,rfl,rx⟩:=vals1 r1
 cases rx
 obtain ⟨its,rv,pl,hz⟩:=I1.list hq
 refine call_enumerate_list pl.isList fun h' he hi hsz hk=>?_
 have I2:Inv X pins σ H1 { s1 with heap:=h' }:=I1.kept (t':=s1.toks) hk
 refine wpAny_pyIter_enum (s:={ s1 with heap:=h' }) he ?_
 refine ⟨s1.heap.objs.size + 1,[s1.heap.objs.size + 1,s1.heap.objs.size],_,_,H1,rfl,I2,turn_enum a _ _ (Nat.succ_ne_self _),⟨⟨_,he⟩,hi⟩,fun b hb=>?_,q⟩
 have nb:s1.heap.objs.size ≤ b:=by
  rcases List.mem_cons.mp hb with z | z
  ·rw [z];exact Nat.le_succ _
  ·rw [List.mem_singleton.mp z];exact Nat.le_refl _
 exact I1.fpOk nb (I1.hok.fresh nb)
end
end L2
namespace L2
open PySem PySem.Spec PyProof.Rows
section
variable {X:Cx}
end
end L2
namespace L2
open PySem PySem.Spec PyProof.Rows
section
variable {X:Cx}
theorem call_lenR:CallR X (.builtin "len") (fun xs H Q=>∃ a kvs,xs = [V.ref a]/\Rd H a (.dK kvs)/\Q (.int kvs.length) H):=by
 intro pins s σ H xs us Q I r h
 obtain ⟨a,kvs,rfl,ha,q⟩:=h
 obtain ⟨u,rfl,rx⟩:=vals1 r
 cases rx
 exact d_len I ha fun t s' J=>⟨.int kvs.length,H,J,⟨t,rfl⟩,q⟩
end
end L2
namespace DL
open PySem L2
section
variable {X:Cx} {pins:List (Addr × Obj)} {σ:L2.St} {H:Hp} {s:Shared}
variable {k:Kx}
theorem tupI (hk:k.fr = X.K) (I:Inv X pins σ H s) {a:Addr} {xs:List V} (h:SqT k.fr H a xs):∃ its:List Value,Vals xs its/\PyProof.Rows.IsTup s.heap a its.toArray/\xs.length ≤ sizeLine:=I.tuple (xs:=xs) (a:=a) (hk ▸ h)
theorem lstI (hk:k.fr = X.K) (I:Inv X pins σ H s) {a:Addr} {xs:List V} (h:SqL k.fr H a xs):∃ its:List Value,Vals xs its/\PlainL s.heap a its.toArray/\xs.length ≤ sizeLine:=I.list (xs:=xs) (a:=a) (hk ▸ h)
theorem tupInj (hk:k.fr = X.K) (I:Inv X pins σ H s) {a:Addr} {xs ys:List V} (h:SqT k.fr H a xs) (h':SqT k.fr H a ys):xs = ys:=I.tuple_inj (a:=a) (hk ▸ h) (hk ▸ h')
theorem lstInj (hk:k.fr = X.K) (I:Inv X pins σ H s) {a:Addr} {xs ys:List V} (h:SqL k.fr H a xs) (h':SqL k.fr H a ys):xs = ys:=I.list_inj (a:=a) (hk ▸ h) (hk ▸ h')
theorem not_LT (hk:k.fr = X.K) (I:Inv X pins σ H s) {a:Addr} {xs ys:List V} (h1:SqL k.fr H a xs) (h2:SqT k.fr H a ys):False:=by
 obtain ⟨_,_,⟨o,n,e,c,_⟩,_⟩:=lstI hk I h1
 obtain ⟨_,_,⟨o2,e2,c2,_⟩,_⟩:=tupI hk I h2
 rw [e] at e2
 cases e2
 rw [c] at c2
 exact absurd (Value.type.inj c2) (by decide)
end
theorem plis {h:Heap} {a:Addr} {its:Array Value} (p:PlainL h a its):h.IsList a its:=by
 obtain ⟨o,n,e,c,_,d⟩:=p
 exact ⟨o,e,c,n,d⟩
mutual
def eqD:D->D->Option Bool
 | .non,.non=>some true
 | .non,.bl _=>some false
 | .non,.int _=>some false
 | .non,.str _=>some false
 | .non,.tup _=>some false
 | .non,.lst _=>some false
 | .bl a,.bl b=>some (a == b)
 | .bl a,.int b=>some ((if a then 1 else 0) == b)
 | .bl _,.non=>some false
 | .bl _,.str _=>some false
 | .bl _,.tup _=>some false
 | .bl _,.lst _=>some false
 | .int a,.int b=>some (a == b)
 | .int a,.bl b=>some (a == (if b then 1 else 0))
 | .int _,.non=>some false
 | .int _,.str _=>some false
 | .int _,.tup _=>some false
 | .int _,.lst _=>some false
 | .str a,.str b=>some (a == b)
 | .str _,.non=>some false
 | .str _,.bl _=>some false
 | .str _,.int _=>some false
 | .str _,.tup _=>some false
 | .str _,.lst _=>some false
 | .tup _,.non=>some false
 | .tup _,.bl _=>some false
 | .tup _,.int _=>some false
 | .tup _,.str _=>some false
 | .tup xs,.tup ys=>eqDs xs ys
 | .tup _,.lst _=>some false
 | .lst _,.non=>some false
 | .lst _,.bl _=>some false
 | .lst _,.int _=>some false
 | .lst _,.str _=>some false
 | .lst _,.tup _=>some false
 | .lst xs,.lst ys=>eqDs xs ys
 | _,_=>none
def eqDs:List D->List D->Option Bool
 | [],[]=>some true
 | [],_ :: _=>some false
 | _ :: _,[]=>some false
 | x :: xs,y :: ys=>match eqD x y,eqDs xs ys with
  | some a,some b=>some (a && b)
  | _,_=>none
end
mutual
def dep:D->Nat
 | .tup xs=>deps xs + 1
 | .lst xs=>deps xs + 1
 | _=>0
def deps:List D->Nat
 | []=>0
 | x :: xs=>max (dep x) (deps xs)
end
theorem eqDs_len:∀ {xs ys:List D} {b:Bool},eqDs xs ys = some b->xs.length ≠ ys.length->b = false
 | [],[],_,_,n=>absurd rfl n
 | [],_ :: _,b,h,_=>by rw [eqDs] at h;exact (Option.some.inj h).symm
 | _ :: _,[],b,h,_=>by rw [eqDs] at h;exact (Option.some.inj h).symm
 | x :: xs,y :: ys,b,h,n=>by
  rw [eqDs] at h
  cases e1:eqD x y with
  | none=>rw [e1] at h;cases h
  | some a=>
   cases e2:eqDs xs ys with
   | none=>rw [e1,e2] at h;cases h
   | some c=>
    rw [e1,e2] at h
    have:=eqDs_len e2 (fun z=>n (by simp [z]))
    subst this
    have h':=Option.some.inj h
    rw [← h',Bool.and_false]
theorem all_range_cons {f:Nat->Bool} (n:Nat):(List.range (n + 1)).all f = (f 0 && (List.range n).all fun j=>f (j + 1)):=by
 rw [List.range_succ_eq_map,List.all_cons,List.all_map]
 rfl
def eqJ (xs ys:List D) (j:Nat):Bool:=match xs[j]?,ys[j]? with
 | some x,some y=>(eqD x y).getD false
 | _,_=>false
theorem eqDs_all:∀ {xs ys:List D} {b:Bool},eqDs xs ys = some b->((List.range (min xs.length ys.length)).all (eqJ xs ys) && xs.length == ys.length) = b
 | [],[],b,h=>by rw [eqDs] at h;rw [← Option.some.inj h];rfl
 | [],_ :: _,b,h=>by rw [eqDs] at h;rw [← Option.some.inj h];simp
 | _ :: _,[],b,h=>by rw [eqDs] at h;rw [← Option.some.inj h];simp
 | x :: xs,y :: ys,b,h=>by
  rw [eqDs] at h
  cases e1:eqD x y with
  | none=>rw [e1] at h;cases h
  | some a=>
   cases e2:eqDs xs ys with
   | none=>rw [e1,e2] at h;cases h
   | some c=>
    rw [e1,e2] at h
    have ih:=eqDs_all e2
    have h':=Option.some.inj h
    rw [← h',← ih,List.length_cons,List.length_cons,Nat.succ_min_succ,all_range_cons]
    have e0:eqJ (x :: xs) (y :: ys) 0 = a:=by
     show (eqD x y).getD false = a
     rw [e1]
     rfl
    have e3:(fun j=>eqJ (x :: xs) (y :: ys) (j + 1)) = eqJ xs ys:=by
     funext j
     unfold eqJ
     rw [List.getElem?_cons_succ,List.getElem?_cons_succ]
    rw [e0,e3,Bool.and_assoc]
    congr 2
    have:(xs.length + 1 == ys.length + 1) = (xs.length == ys.length):=by simp
    rw [this]
mutual
theorem eqD_refl:∀ (d:D) (b:Bool),eqD d d = some b->b = true
 | .non,b,h=>by rw [eqD] at h;exact (Option.some.inj h).symm
 | .bl a,b,h=>by rw [eqD] at h;rw [← Option.some.inj h];simp
 | .int a,b,h=>by rw [eqD] at h;rw [← Option.some.inj h];simp
 | .str a,b,h=>by rw [eqD] at h;rw [← Option.some.inj h];simp
 | .ty _,b,h=>by have e':(none:Option Bool) = some b:=h;cases e'
 | .tup xs,b,h=>by rw [eqD] at h;exact eqDs_refl xs b h
 | .lst xs,b,h=>by rw [eqD] at h;exact eqDs_refl xs b h
 | .dic _,b,h=>by have e':(none:Option Bool) = some b:=h;cases e'
 | .dct _,b,h=>by have e':(none:Option Bool) = some b:=h;cases e'
 | .exn _ _,b,h=>by have e':(none:Option Bool) = some b:=h;cases e'
 | .obj _ _,b,h=>by have e':(none:Option Bool) = some b:=h;cases e'
 | .scr _,b,h=>by have e':(none:Option Bool) = some b:=h;cases e'
theorem eqDs_refl:∀ (ds:List D) (b:Bool),eqDs ds ds = some b->b = true
 | [],b,h=>by rw [eqDs] at h;exact (Option.some.inj h).symm
 | d :: ds,b,h=>by
  rw [eqDs] at h
  cases e1:eqD d d with
  | none=>rw [e1] at h;cases h
  | some a=>
   cases e2:eqDs ds ds with
   | none=>rw [e1,e2] at h;cases h
   | some c=>
    rw [e1,e2] at h
    have i1:=eqD_refl d a e1
    have i2:=eqDs_refl ds c e2
    subst i1;subst i2
    exact (Option.some.inj h).symm
end
theorem deps_le:∀ {xs:List D} {j:Nat} {x:D},xs[j]? = some x->dep x ≤ deps xs
 | [],_,_,h=>by simp at h
 | y :: ys,0,x,h=>by
  simp at h
  subst h
  rw [deps]
  exact Nat.le_max_left _ _
 | y :: ys,j + 1,x,h=>by
  rw [deps]
  exact Nat.le_trans (deps_le (j:=j) (by simpa using h)) (Nat.le_max_right _ _)
section
variable {X:Cx} {pins:List (Addr × Obj)} {σ:L2.St} {H:Hp} {s:Shared} {k:Kx}
theorem rep_tup {K:Kx} {ds:List D} {v:V} (h:Rep K H (.tup ds) v):∃ a vs,v = .ref a/\SqT K.fr H a vs/\Reps K H ds vs:=by unfold Rep at h;exact h
theorem rep_lstR {K:Kx} {ds:List D} {v:V} (h:Rep K H (.lst ds) v):∃ a vs,v = .ref a/\Rd H a (.lst vs)/\Reps K H ds vs:=by unfold Rep at h;exact h
theorem rep_lst {K:Kx} {ds:List D} {v:V} (h:Rep K H (.lst ds) v):∃ a vs,v = .ref a/\SqL K.fr H a vs/\Reps K H ds vs:=by
 obtain ⟨a,vs,h1,h2,h3⟩:=rep_lstR h
 exact ⟨a,vs,h1,.inl h2,h3⟩
theorem rep_dicF {K:Kx} {ds:List (Key × D)} {v:V} (h:Rep K H (.dic ds) v):∃ a o vs,v = .ref a/\H a = some (.frz o (.dK vs))/\RepK K H ds vs:=by unfold Rep at h;exact h
theorem rep_dic {K:Kx} {ds:List (Key × D)} {v:V} (h:Rep K H (.dic ds) v):∃ a vs,v = .ref a/\Rd H a (.dK vs)/\RepK K H ds vs:=by
 obtain ⟨a,o,vs,h1,h2,h3⟩:=rep_dicF h
 exact ⟨a,vs,h1,.inr ⟨o,h2⟩,h3⟩
theorem Rep.tup {K:Kx} {ds:List D} {a:Addr} {vs:List V} (h:SqT K.fr H a vs) (r:Reps K H ds vs):Rep K H (.tup ds) (.ref a):=by unfold Rep;exact ⟨a,vs,rfl,h,r⟩
theorem Rep.lst {K:Kx} {ds:List D} {a:Addr} {vs:List V} (h:Rd H a (.lst vs)) (r:Reps K H ds vs):Rep K H (.lst ds) (.ref a):=by unfold Rep;exact ⟨a,vs,rfl,h,r⟩
theorem Rep.dic {K:Kx} {ds:List (Key × D)} {a:Addr} {o:Obj} {vs:List (Key × V)} (h:H a = some (.frz o (.dK vs))) (r:RepK K H ds vs):Rep K H (.dic ds) (.ref a):=by unfold Rep;exact ⟨a,o,vs,rfl,h,r⟩
theorem rep_scr {K:Kx} {ns:List Int} {v:V} (h:Rep K H (.scr ns) v):∃ a,v = .ref a/\SqL K.fr H a (ns.map V.int):=by unfold Rep at h;exact h
theorem rep_int {K:Kx} {i:Int} {v:V} (h:Rep K H (.int i) v):v = .int i:=h
theorem rep_str {K:Kx} {i:Str} {v:V} (h:Rep K H (.str i) v):v = .str i:=h
theorem rep_bl {K:Kx} {i:Bool} {v:V} (h:Rep K H (.bl i) v):v = .bl i:=h
theorem rep_non {K:Kx} {v:V} (h:Rep K H .non v):v = .non:=h
mutual
theorem eqAt (hk:k.fr = X.K) (I:Inv X pins σ H s):∀ (x y:D) (b:Bool),eqD x y = some b->∀ {v w:V} {u u':Value} {A:Around},Rep k H x v->Rep k H y w->RelV v u->RelV w u'->A.units + dep x < cLine->SeqAt.EqAt A s u u' b
 | .non,.non,b,e,v,w,u,u',A,hv,hw,r,r',_=>by
  rw [eqD] at e;cases e;cases rep_non hv;cases rep_non hw;cases r;cases r';exact SeqAt.EqAt.same _
 | .non,.bl _,b,e,v,w,u,u',A,hv,hw,r,r',_=>by
  rw [eqD] at e;cases e;cases rep_non hv;cases rep_bl hw;cases r;cases r';exact SeqAt.EqAt.none_bool _
 | .non,.int _,b,e,v,w,u,u',A,hv,hw,r,r',_=>by
  rw [eqD] at e;cases e;cases rep_non hv;cases rep_int hw;cases r;obtain ⟨t',rfl⟩:=r';exact SeqAt.EqAt.none_int _ _
 | .non,.str _,b,e,v,w,u,u',A,hv,hw,r,r',_=>by
  rw [eqD] at e;cases e;cases rep_non hv;cases rep_str hw;cases r;obtain ⟨t',rfl⟩:=r';exact SeqAt.EqAt.none_str _ _
 | .non,.tup _,b,e,v,w,u,u',A,hv,hw,r,r',hu=>by
  rw [eqD] at e;cases e;cases rep_non hv;obtain ⟨a,vs,rfl,h1,_⟩:=rep_tup hw;cases r;cases r';obtain ⟨its,_,⟨o,g,c,d⟩,_⟩:=tupI hk I h1;exact SeqAt.EqAt.none_tuple ⟨o,g,c,d⟩ (by simpa [dep] using hu)
 | .non,.lst _,b,e,v,w,u,u',A,hv,hw,r,r',hu=>by
  rw [eqD] at e;cases e;cases rep_non hv;obtain ⟨a,vs,rfl,h1,_⟩:=rep_lst hw;cases r;cases r';obtain ⟨its,_,pl,_⟩:=lstI hk I h1;exact SeqAt.EqAt.none_list (plis pl) (by simpa [dep] using hu)
 | .bl a,.bl c,b,e,v,w,u,u',A,hv,hw,r,r',_=>by
  rw [eqD] at e;cases e;cases rep_bl hv;cases rep_bl hw;cases r;cases r';exact SeqAt.EqAt.bool_bool _ _
 | .bl a,.int c,b,e,v,w,u,u',A,hv,hw,r,r',_=>by
  rw [eqD] at e;cases e;cases rep_bl hv;cases rep_int hw;cases r;obtain ⟨t',rfl⟩:=r';exact SeqAt.EqAt.bool_int _ _ _
 | .bl _,.non,b,e,v,w,u,u',A,hv,hw,r,r',_=>by
  rw [eqD] at e;cases e;cases rep_bl hv;cases rep_non hw;cases r;cases r';exact SeqAt.EqAt.bool_none _
 | .bl _,.str _,b,e,v,w,u,u',A,hv,hw,r,r',_=>by
  rw [eqD] at e;cases e;cases rep_bl hv;cases rep_str hw;cases r;obtain ⟨t',rfl⟩:=r';exact SeqAt.EqAt.bool_str _ _ _
 | .bl _,.tup _,b,e,v,w,u,u',A,hv,hw,r,r',hu=>by
  rw [eqD] at e;cases e;cases rep_bl hv;obtain ⟨a,vs,rfl,h1,_⟩:=rep_tup hw;cases r;cases r';obtain ⟨its,_,⟨o,g,c,d⟩,_⟩:=tupI hk I h1;exact SeqAt.EqAt.bool_tuple _ ⟨o,g,c,d⟩ (by simpa [dep] using hu)
 | .bl _,.lst _,b,e,v,w,u,u',A,hv,hw,r,r',hu=>by
  rw [eqD] at e;cases e;cases rep_bl hv;obtain ⟨a,vs,rfl,h1,_⟩:=rep_lst hw;cases r;cases r';obtain ⟨its,_,pl,_⟩:=lstI hk I h1;exact SeqAt.EqAt.bool_list _ (plis pl) (by simpa [dep] using hu)
 | .int a,.int c,b,e,v,w,u,u',A,hv,hw,r,r',_=>by
  rw [eqD] at e;cases e;cases rep_int hv;cases rep_int hw;obtain ⟨t,rfl⟩:=r;obtain ⟨t',rfl⟩:=r';exact SeqAt.EqAt.int_int _ _ _ _
 | .int a,.bl c,b,e,v,w,u,u',A,hv,hw,r,r',_=>by
  rw [eqD] at e;cases e;cases rep_int hv;cases rep_bl hw;obtain ⟨t,rfl⟩:=r;cases r';exact SeqAt.EqAt.int_bool _ _ _
 | .int _,.non,b,e,v,w,u,u',A,hv,hw,r,r',_=>by
  rw [eqD] at e;cases e;cases rep_int hv;cases rep_non hw;obtain ⟨t,rfl⟩:=r;cases r';exact SeqAt.EqAt.int_none _ _
 | .int _,.str _,b,e,v,w,u,u',A,hv,hw,r,r',_=>by
  rw [eqD] at e;cases e;cases rep_int hv;cases rep_str hw;obtain ⟨t,rfl⟩:=r;obtain ⟨t',rfl⟩:=r';exact SeqAt.EqAt.int_str _ _ _ _
 | .int _,.tup _,b,e,v,w,u,u',A,hv,hw,r,r',hu=>by
  rw [eqD] at e;cases e;cases rep_int hv;obtain ⟨a,vs,rfl,h1,_⟩:=rep_tup hw;obtain ⟨t,rfl⟩:=r;cases r';obtain ⟨its,_,⟨o,g,c,d⟩,_⟩:=tupI hk I h1;exact SeqAt.EqAt.int_tuple _ _ ⟨o,g,c,d⟩ (by simpa [dep] using hu)
 | .int _,.lst _,b,e,v,w,u,u',A,hv,hw,r,r',hu=>by
  rw [eqD] at e;cases e;cases rep_int hv;obtain ⟨a,vs,rfl,h1,_⟩:=rep_lst hw;obtain ⟨t,rfl⟩:=r;cases r';obtain ⟨its,_,pl,_⟩:=lstI hk I h1;exact SeqAt.EqAt.int_list _ _ (plis pl) (by simpa [dep] using hu)
 | .str a,.str c,b,e,v,w,u,u',A,hv,hw,r,r',_=>by
  rw [eqD] at e;cases e;cases rep_str hv;cases rep_str hw;obtain ⟨t,rfl⟩:=r;obtain ⟨t',rfl⟩:=r';exact SeqAt.EqAt.str_str _ _ _ _
 | .str _,.non,b,e,v,w,u,u',A,hv,hw,r,r',_=>by
  rw [eqD] at e;cases e;cases rep_str hv;cases rep_non hw;obtain ⟨t,rfl⟩:=r;cases r';exact SeqAt.EqAt.str_none _ _
 | .str _,.bl _,b,e,v,w,u,u',A,hv,hw,r,r',_=>by
  rw [eqD] at e;cases e;cases rep_str hv;cases rep_bl hw;obtain ⟨t,rfl⟩:=r;cases r';exact SeqAt.EqAt.str_bool _ _ _
 | .str _,.int _,b,e,v,w,u,u',A,hv,hw,r,r',_=>by
  rw [eqD] at e;cases e;cases rep_str hv;cases rep_int hw;obtain ⟨t,rfl⟩:=r;obtain ⟨t',rfl⟩:=r';exact SeqAt.EqAt.str_int _ _ _ _
 | .str _,.tup _,b,e,v,w,u,u',A,hv,hw,r,r',hu=>by
  rw [eqD] at e;cases e;cases rep_str hv;obtain ⟨a,vs,rfl,h1,_⟩:=rep_tup hw;obtain ⟨t,rfl⟩:=r;cases r';obtain ⟨its,_,⟨o,g,c,d⟩,_⟩:=tupI hk I h1;exact SeqAt.EqAt.str_tuple _ _ ⟨o,g,c,d⟩ (by simpa [dep] using hu)
 | .str _,.lst _,b,e,v,w,u,u',A,hv,hw,r,r',hu=>by
  rw [eqD] at e;cases e;cases rep_str hv;obtain ⟨a,vs,rfl,h1,_⟩:=rep_lst hw;obtain ⟨t,rfl⟩:=r;cases r';obtain ⟨its,_,pl,_⟩:=lstI hk I h1;exact SeqAt.EqAt.str_list _ _ (plis pl) (by simpa [dep] using hu)
 | .tup _,.non,b,e,v,w,u,u',A,hv,hw,r,r',hu=>by
  rw [eqD] at e;cases e;cases rep_non hw;obtain ⟨a,vs,rfl,h1,_⟩:=rep_tup hv;cases r;cases r';obtain ⟨its,_,⟨o,g,c,d⟩,_⟩:=tupI hk I h1;exact SeqAt.EqAt.tuple_none ⟨o,g,c,d⟩ (by omega)
 | .tup _,.bl _,b,e,v,w,u,u',A,hv,hw,r,r',hu=>by
  rw [eqD] at e;cases e;cases rep_bl hw;obtain ⟨a,vs,rfl,h1,_⟩:=rep_tup hv;cases r;cases r';obtain ⟨its,_,⟨o,g,c,d⟩,_⟩:=tupI hk I h1;exact SeqAt.EqAt.tuple_bool _ ⟨o,g,c,d⟩ (by omega)
 | .tup _,.int _,b,e,v,w,u,u',A,hv,hw,r,r',hu=>by
  rw [eqD] at e;cases e;cases rep_int hw;obtain ⟨a,vs,rfl,h1,_⟩:=rep_tup hv;cases r;obtain ⟨t',rfl⟩:=r';obtain ⟨its,_,⟨o,g,c,d⟩,_⟩:=tupI hk I h1;exact SeqAt.EqAt.tuple_int _ _ ⟨o,g,c,d⟩ (by omega)
 | .tup _,.str _,b,e,v,w,u,u',A,hv,hw,r,r',hu=>by
  rw [eqD] at e;cases e;cases rep_str hw;obtain ⟨a,vs,rfl,h1,_⟩:=rep_tup hv;cases r;obtain ⟨t',rfl⟩:=r';obtain ⟨its,_,⟨o,g,c,d⟩,_⟩:=tupI hk I h1;exact SeqAt.EqAt.tuple_str _ _ ⟨o,g,c,d⟩ (by omega)
 | .tup _,.lst _,b,e,v,w,u,u',A,hv,hw,r,r',hu=>by
  rw [eqD] at e;cases e;obtain ⟨a,vs,rfl,h1,_⟩:=rep_tup hv;obtain ⟨a2,vs2,rfl,h2,_⟩:=rep_lst hw;cases r;cases r'
  obtain ⟨its,_,⟨o,g,c,d⟩,_⟩:=tupI hk I h1;obtain ⟨its2,_,pl,_⟩:=lstI hk I h2
  exact SeqAt.EqAt.tuple_list ⟨o,g,c,d⟩ (plis pl) (by omega)
 | .lst _,.non,b,e,v,w,u,u',A,hv,hw,r,r',hu=>by
  rw [eqD] at e;cases e;cases rep_non hw;obtain ⟨a,vs,rfl,h1,_⟩:=rep_lst hv;cases r;cases r';obtain ⟨its,_,pl,_⟩:=lstI hk I h1;exact SeqAt.EqAt.list_none (plis pl) (by omega)
 | .lst _,.bl _,b,e,v,w,u,u',A,hv,hw,r,r',hu=>by
  rw [eqD] at e;cases e;cases rep_bl hw;obtain ⟨a,vs,rfl,h1,_⟩:=rep_lst hv;cases r;cases r';obtain ⟨its,_,pl,_⟩:=lstI hk I h1;exact SeqAt.EqAt.list_bool _ (plis pl) (by omega)
 | .lst _,.int _,b,e,v,w,u,u',A,hv,hw,r,r',hu=>by
  rw [eqD] at e;cases e;cases rep_int hw;obtain ⟨a,vs,rfl,h1,_⟩:=rep_lst hv;cases r;obtain ⟨t',rfl⟩:=r';obtain ⟨its,_,pl,_⟩:=lstI hk I h1;exact SeqAt.EqAt.list_int _ _ (plis pl) (by omega)
 | .lst _,.str _,b,e,v,w,u,u',A,hv,hw,r,r',hu=>by
  rw [eqD] at e;cases e;cases rep_str hw;obtain ⟨a,vs,rfl,h1,_⟩:=rep_lst hv;cases r;obtain ⟨t',rfl⟩:=r';obtain ⟨its,_,pl,_⟩:=lstI hk I h1;exact SeqAt.EqAt.list_str _ _ (plis pl) (by omega)
 | .lst _,.tup _,b,e,v,w,u,u',A,hv,hw,r,r',hu=>by
  rw [eqD] at e;cases e;obtain ⟨a,vs,rfl,h1,_⟩:=rep_lst hv;obtain ⟨a2,vs2,rfl,h2,_⟩:=rep_tup hw;cases r;cases r'
  obtain ⟨its,_,⟨o,g,c,d⟩,_⟩:=tupI hk I h2;obtain ⟨its2,_,pl,_⟩:=lstI hk I h1
  exact SeqAt.EqAt.list_tuple (plis pl) ⟨o,g,c,d⟩ (by omega)
 | .tup xs,.tup ys,b,e,v,w,u,u',A,hv,hw,r,r',hu=>by
  rw [eqD] at e
  obtain ⟨a,vs,rfl,h1,q1⟩:=rep_tup hv
  obtain ⟨a2,vs2,rfl,h2,q2⟩:=rep_tup hw
  cases r;cases r'
  by_cases hab:a = a2
  ·subst hab
   have:=tupInj hk I h1 h2
   subst this
   have hb:b = true:=eqSelf hk I xs ys b e q1 q2
   rw [hb]
   exact SeqAt.EqAt.same _
  ·obtain ⟨its,r1,⟨o,g,c,d⟩,_⟩:=tupI hk I h1
   obtain ⟨jts,r2,⟨o2,g2,c2,d2⟩,_⟩:=tupI hk I h2
   have l1:=r1.length
   have l2:=r2.length
   have m1:=q1.length
   have m2:=q2.length
   rw [dep] at hu
   have kk:=eqDs_all e
   have rc:=SeqAt.RcAt.tuples (A:=A) (s:=s) (e:=eqJ xs ys) (items:=its.toArray) (items2:=jts.toArray) ⟨o,g,c,d⟩ ⟨o2,g2,c2,d2⟩ (by omega) (fun j g1 g2'=>by
    have g1':j < its.length:=by simpa using g1
    have g2'':j < jts.length:=by simpa using g2'
    exact eqsAt hk I xs ys b e (A:=A.in1) q1 q2 r1 r2 (by show A.units + 1 + deps xs < cLine;omega) j (by simpa using g1') (by simpa using g2''))
   refine SeqAt.EqAt.of_refs hab ?_
   have:((List.range (min its.toArray.size jts.toArray.size)).all (eqJ xs ys) && its.toArray.size == jts.toArray.size) = b:=by
    rw [← kk]
    simp only [List.size_toArray]
    rw [← l1,← l2,m1,m2]
   rw [← this]
   exact rc
 | .lst xs,.lst ys,b,e,v,w,u,u',A,hv,hw,r,r',hu=>by
  rw [eqD] at e
  obtain ⟨a,vs,rfl,h1,q1⟩:=rep_lst hv
  obtain ⟨a2,vs2,rfl,h2,q2⟩:=rep_lst hw
  cases r;cases r'
  by_cases hab:a = a2
  ·subst hab
   have:=lstInj hk I h1 h2
   subst this
   have hb:b = true:=eqSelf hk I xs ys b e q1 q2
   rw [hb]
   exact SeqAt.EqAt.same _
  ·obtain ⟨its,r1,pl,_⟩:=lstI hk I h1
   obtain ⟨jts,r2,pl2,_⟩:=lstI hk I h2
   have l1:=r1.length
   have l2:=r2.length
   have m1:=q1.length
   have m2:=q2.length
   rw [dep] at hu
   have kk:=eqDs_all e
   refine SeqAt.EqAt.of_refs hab ?_
   by_cases hz:xs.length = ys.length
   ·have rc:=SeqAt.RcAt.lists (A:=A) (s:=s) (e:=eqJ xs ys) (items:=its.toArray) (items2:=jts.toArray) (plis pl) (plis pl2) (by simp only [List.size_toArray];omega) (by omega) (fun j g1 g2'=>by
     have g1':j < its.length:=by simpa using g1
     have g2'':j < jts.length:=by simpa using g2'
     exact eqsAt hk I xs ys b e (A:=A.in1) q1 q2 r1 r2 (by show A.units + 1 + deps xs < cLine;omega) j (by simpa using g1') (by simpa using g2''))
    have:(List.range its.toArray.size).all (eqJ xs ys) = b:=by
     rw [← kk]
     simp only [List.size_toArray]
     rw [← l1,m1,hz,Nat.min_self,beq_self_eq_true,Bool.and_true]
    rw [← this]
    exact rc
   ·have:=eqDs_len e hz
    subst this
    exact SeqAt.RcAt.lists_lengths (plis pl) (plis pl2) (by simp only [List.size_toArray,bne_iff_ne];omega) (by omega)
 | .non,.ty _,b,e,v,w,u,u',A,hv,hw,r,r',hu=>by have e':(none:Option Bool) = some b:=e;cases e'
 | .non,.dic _,b,e,v,w,u,u',A,hv,hw,r,r',hu=>by have e':(none:Option Bool) = some b:=e;cases e'
 | .bl _,.ty _,b,e,v,w,u,u',A,hv,hw,r,r',hu=>by have e':(none:Option Bool) = some b:=e;cases e'
 | .bl _,.dic _,b,e,v,w,u,u',A,hv,hw,r,r',hu=>by have e':(none:Option Bool) = some b:=e;cases e'
 | .int _,.ty _,b,e,v,w,u,u',A,hv,hw,r,r',hu=>by have e':(none:Option Bool) = some b:=e;cases e'
 | .int _,.dic _,b,e,v,w,u,u',A,hv,hw,r,r',hu=>by have e':(none:Option Bool) = some b:=e;cases e'
 | .str _,.ty _,b,e,v,w,u,u',A,hv,hw,r,r',hu=>by have e':(none:Option Bool) = some b:=e;cases e'
 | .str _,.dic _,b,e,v,w,u,u',A,hv,hw,r,r',hu=>by have e':(none:Option Bool) = some b:=e;cases e'
 | .ty _,.non,b,e,v,w,u,u',A,hv,hw,r,r',hu=>by have e':(none:Option Bool) = some b:=e;cases e'
 | .ty _,.bl _,b,e,v,w,u,u',A,hv,hw,r,r',hu=>by have e':(none:Option Bool) = some b:=e;cases e'
 | .ty _,.int _,b,e,v,w,u,u',A,hv,hw,r,r',hu=>by have e':(none:Option Bool) = some b:=e;cases e'
 | .ty _,.str _,b,e,v,w,u,u',A,hv,hw,r,r',hu=>by have e':(none:Option Bool) = some b:=e;cases e'
 | .ty _,.ty _,b,e,v,w,u,u',A,hv,hw,r,r',hu=>by have e':(none:Option Bool) = some b:=e;cases e'
 | .ty _,.tup _,b,e,v,w,u,u',A,hv,hw,r,r',hu=>by have e':(none:Option Bool) = some b:=e;cases e'
 | .ty _,.lst _,b,e,v,w,u,u',A,hv,hw,r,r',hu=>by have e':(none:Option Bool) = some b:=e;cases e'
 | .ty _,.dic _,b,e,v,w,u,u',A,hv,hw,r,r',hu=>by have e':(none:Option Bool) = some b:=e;cases e'
 | .tup _,.ty _,b,e,v,w,u,u',A,hv,hw,r,r',hu=>by have e':(none:Option Bool) = some b:=e;cases e'
 | .tup _,.dic _,b,e,v,w,u,u',A,hv,hw,r,r',hu=>by have e':(none:Option Bool) = some b:=e;cases e'
 | .lst _,.ty _,b,e,v,w,u,u',A,hv,hw,r,r',hu=>by have e':(none:Option Bool) = some b:=e;cases e'
 | .lst _,.dic _,b,e,v,w,u,u',A,hv,hw,r,r',hu=>by have e':(none:Option Bool) = some b:=e;cases e'
 | .dic _,.non,b,e,v,w,u,u',A,hv,hw,r,r',hu=>by have e':(none:Option Bool) = some b:=e;cases e'
 | .dic _,.bl _,b,e,v,w,u,u',A,hv,hw,r,r',hu=>by have e':(none:Option Bool) = some b:=e;cases e'
 | .dic _,.int _,b,e,v,w,u,u',A,hv,hw,r,r',hu=>by have e':(none:Option Bool) = some b:=e;cases e'
 | .dic _,.str _,b,e,v,w,u,u',A,hv,hw,r,r',hu=>by have e':(none:Option Bool) = some b:=e;cases e'
 | .dic _,.ty _,b,e,v,w,u,u',A,hv,hw,r,r',hu=>by have e':(none:Option Bool) = some b:=e;cases e'
 | .dic _,.tup _,b,e,v,w,u,u',A,hv,hw,r,r',hu=>by have e':(none:Option Bool) = some b:=e;cases e'
 | .dic _,.lst _,b,e,v,w,u,u',A,hv,hw,r,r',hu=>by have e':(none:Option Bool) = some b:=e;cases e'
 | .dic _,.dic _,b,e,v,w,u,u',A,hv,hw,r,r',hu=>by have e':(none:Option Bool) = some b:=e;cases e'
 | .non,.dct _,b,e,v,w,u,u',A,hv,hw,r,r',hu=>by have e':(none:Option Bool) = some b:=e;cases e'
 | .non,.exn _ _,b,e,v,w,u,u',A,hv,hw,r,r',hu=>by have e':(none:Option Bool) = some b:=e;cases e'
 | .non,.obj _ _,b,e,v,w,u,u',A,hv,hw,r,r',hu=>by have e':(none:Option Bool) = some b:=e;cases e'
 | .bl _,.dct _,b,e,v,w,u,u',A,hv,hw,r,r',hu=>by have e':(none:Option Bool) = some b:=e;cases e'
 | .bl _,.exn _ _,b,e,v,w,u,u',A,hv,hw,r,r',hu=>by have e':(none:Option Bool) = some b:=e;cases e'
 | .bl _,.obj _ _,b,e,v,w,u,u',A,hv,hw,r,r',hu=>by have e':(none:Option Bool) = some b:=e;cases e'
 | .int _,.dct _,b,e,v,w,u,u',A,hv,hw,r,r',hu=>by have e':(none:Option Bool) = some b:=e;cases e'
 | .int _,.exn _ _,b,e,v,w,u,u',A,hv,hw,r,r',hu=>by have e':(none:Option Bool) = some b:=e;cases e'
 | .int _,.obj _ _,b,e,v,w,u,u',A,hv,hw,r,r',hu=>by have e':(none:Option Bool) = some b:=e;cases e'
 | .str _,.dct _,b,e,v,w,u,u',A,hv,hw,r,r',hu=>by have e':(none:Option Bool) = some b:=e;cases e'
 | .str _,.exn _ _,b,e,v,w,u,u',A,hv,hw,r,r',hu=>by have e':(none:Option Bool) = some b:=e;cases e'
 | .str _,.obj _ _,b,e,v,w,u,u',A,hv,hw,r,r',hu=>by have e':(none:Option Bool) = some b:=e;cases e'
 | .ty _,.dct _,b,e,v,w,u,u',A,hv,hw,r,r',hu=>by have e':(none:Option Bool) = some b:=e;cases e'
 | .ty _,.exn _ _,b,e,v,w,u,u',A,hv,hw,r,r',hu=>by have e':(none:Option Bool) = some b:=e;cases e'
 | .ty _,.obj _ _,b,e,v,w,u,u',A,hv,hw,r,r',hu=>by have e':(none:Option Bool) = some b:=e;cases e'
 | .tup _,.dct _,b,e,v,w,u,u',A,hv,hw,r,r',hu=>by have e':(none:Option Bool) = some b:=e;cases e'
 | .tup _,.exn _ _,b,e,v,w,u,u',A,hv,hw,r,r',hu=>by have e':(none:Option Bool) = some b:=e;cases e'
 | .tup _,.obj _ _,b,e,v,w,u,u',A,hv,hw,r,r',hu=>by have e':(none:Option Bool) = some b:=e;cases e'
 | .lst _,.dct _,b,e,v,w,u,u',A,hv,hw,r,r',hu=>by have e':(none:Option Bool) = some b:=e;cases e'
 | .lst _,.exn _ _,b,e,v,w,u,u',A,hv,hw,r,r',hu=>by have e':(none:Option Bool) = some b:=e;cases e'
 | .lst _,.obj _ _,b,e,v,w,u,u',A,hv,hw,r,r',hu=>by have e':(none:Option Bool) = some b:=e;cases e'
 | .dic _,.dct _,b,e,v,w,u,u',A,hv,hw,r,r',hu=>by have e':(none:Option Bool) = some b:=e;cases e'
 | .dic _,.exn _ _,b,e,v,w,u,u',A,hv,hw,r,r',hu=>by have e':(none:Option Bool) = some b:=e;cases e'
 | .dic _,.obj _ _,b,e,v,w,u,u',A,hv,hw,r,r',hu=>by have e':(none:Option Bool) = some b:=e;cases e'
 | .dct _,.non,b,e,v,w,u,u',A,hv,hw,r,r',hu=>by have e':(none:Option Bool) = some b:=e;cases e'
 | .dct _,.bl _,b,e,v,w,u,u',A,hv,hw,r,r',hu=>by have e':(none:Option Bool) = some b:=e;cases e'
 | .dct _,.int _,b,e,v,w,u,u',A,hv,hw,r,r',hu=>by have e':(none:Option Bool) = some b:=e;cases e'
 | .dct _,.str _,b,e,v,w,u,u',A,hv,hw,r,r',hu=>by have e':(none:Option Bool) = some b:=e;cases e'
 | .dct _,.ty _,b,e,v,w,u,u',A,hv,hw,r,r',hu=>by have e':(none:Option Bool) = some b:=e;cases e'
 | .dct _,.tup _,b,e,v,w,u,u',A,hv,hw,r,r',hu=>by have e':(none:Option Bool) = some b:=e;cases e'
 | .dct _,.lst _,b,e,v,w,u,u',A,hv,hw,r,r',hu=>by have e':(none:Option Bool) = some b:=e;cases e'
 | .dct _,.dic _,b,e,v,w,u,u',A,hv,hw,r,r',hu=>by have e':(none:Option Bool) = some b:=e;cases e'
 | .dct _,.dct _,b,e,v,w,u,u',A,hv,hw,r,r',hu=>by have e':(none:Option Bool) = some b:=e;cases e'
 | .dct _,.exn _ _,b,e,v,w,u,u',A,hv,hw,r,r',hu=>by have e':(none:Option Bool) = some b:=e;cases e'
 | .dct _,.obj _ _,b,e,v,w,u,u',A,hv,hw,r,r',hu=>by have e':(none:Option Bool) = some b:=e;cases e'
 | .exn _ _,.non,b,e,v,w,u,u',A,hv,hw,r,r',hu=>by have e':(none:Option Bool) = some b:=e;cases e'
 | .exn _ _,.bl _,b,e,v,w,u,u',A,hv,hw,r,r',hu=>by have e':(none:Option Bool) = some b:=e;cases e'
 | .exn _ _,.int _,b,e,v,w,u,u',A,hv,hw,r,r',hu=>by have e':(none:Option Bool) = some b:=e;cases e'
 | .exn _ _,.str _,b,e,v,w,u,u',A,hv,hw,r,r',hu=>by have e':(none:Option Bool) = some b:=e;cases e'
 | .exn _ _,.ty _,b,e,v,w,u,u',A,hv,hw,r,r',hu=>by have e':(none:Option Bool) = some b:=e;cases e'
 | .exn _ _,.tup _,b,e,v,w,u,u',A,hv,hw,r,r',hu=>by have e':(none:Option Bool) = some b:=e;cases e'
 | .exn _ _,.lst _,b,e,v,w,u,u',A,hv,hw,r,r',hu=>by have e':(none:Option Bool) = some b:=e;cases e'
 | .exn _ _,.dic _,b,e,v,w,u,u',A,hv,hw,r,r',hu=>by have e':(none:Option Bool) = some b:=e;cases e'
 | .exn _ _,.dct _,b,e,v,w,u,u',A,hv,hw,r,r',hu=>by have e':(none:Option Bool) = some b:=e;cases e'
 | .exn _ _,.exn _ _,b,e,v,w,u,u',A,hv,hw,r,r',hu=>by have e':(none:Option Bool) = some b:=e;cases e'
 | .exn _ _,.obj _ _,b,e,v,w,u,u',A,hv,hw,r,r',hu=>by have e':(none:Option Bool) = some b:=e;cases e'
 | .obj _ _,.non,b,e,v,w,u,u',A,hv,hw,r,r',hu=>by have e':(none:Option Bool) = some b:=e;cases e'
 | .obj _ _,.bl _,b,e,v,w,u,u',A,hv,hw,r,r',hu=>by have e':(none:Option Bool) = some b:=e;cases e'
 | .obj _ _,.int _,b,e,v,w,u,u',A,hv,hw,r,r',hu=>by have e':(none:Option Bool) = some b:=e;cases e'
 | .obj _ _,.str _,b,e,v,w,u,u',A,hv,hw,r,r',hu=>by have e':(none:Option Bool) = some b:=e;cases e'
 | .obj _ _,.ty _,b,e,v,w,u,u',A,hv,hw,r,r',hu=>by have e':(none:Option Bool) = some b:=e;cases e'
 | .obj _ _,.tup _,b,e,v,w,u,u',A,hv,hw,r,r',hu=>by have e':(none:Option Bool) = some b:=e;cases e'
 | .obj _ _,.lst _,b,e,v,w,u,u',A,hv,hw,r,r',hu=>by have e':(none:Option Bool) = some b:=e;cases e'
 | .obj _ _,.dic _,b,e,v,w,u,u',A,hv,hw,r,r',hu=>by have e':(none:Option Bool) = some b:=e;cases e'
 | .obj _ _,.dct _,b,e,v,w,u,u',A,hv,hw,r,r',hu=>by have e':(none:Option Bool) = some b:=e;cases e'
 | .obj _ _,.exn _ _,b,e,v,w,u,u',A,hv,hw,r,r',hu=>by have e':(none:Option Bool) = some b:=e;cases e'
 | .obj _ _,.obj _ _,b,e,v,w,u,u',A,hv,hw,r,r',hu=>by have e':(none:Option Bool) = some b:=e;cases e'
 | .non,.scr _,b,e,v,w,u,u',A,hv,hw,r,r',hu=>by have e':(none:Option Bool) = some b:=e;cases e'
 | .bl _,.scr _,b,e,v,w,u,u',A,hv,hw,r,r',hu=>by have e':(none:Option Bool) = some b:=e;cases e'
 | .int _,.scr _,b,e,v,w,u,u',A,hv,hw,r,r',hu=>by have e':(none:Option Bool) = some b:=e;cases e'
 | .str _,.scr _,b,e,v,w,u,u',A,hv,hw,r,r',hu=>by have e':(none:Option Bool) = some b:=e;cases e'
 | .ty _,.scr _,b,e,v,w,u,u',A,hv,hw,r,r',hu=>by have e':(none:Option Bool) = some b:=e;cases e'
 | .tup _,.scr _,b,e,v,w,u,u',A,hv,hw,r,r',hu=>by have e':(none:Option Bool) = some b:=e;cases e'
 | .lst _,.scr _,b,e,v,w,u,u',A,hv,hw,r,r',hu=>by have e':(none:Option Bool) = some b:=e;cases e'
 | .dic _,.scr _,b,e,v,w,u,u',A,hv,hw,r,r',hu=>by have e':(none:Option Bool) = some b:=e;cases e'
 | .dct _,.scr _,b,e,v,w,u,u',A,hv,hw,r,r',hu=>by have e':(none:Option Bool) = some b:=e;cases e'
 | .exn _ _,.scr _,b,e,v,w,u,u',A,hv,hw,r,r',hu=>by have e':(none:Option Bool) = some b:=e;cases e'
 | .obj _ _,.scr _,b,e,v,w,u,u',A,hv,hw,r,r',hu=>by have e':(none:Option Bool) = some b:=e;cases e'
 | .scr _,.non,b,e,v,w,u,u',A,hv,hw,r,r',hu=>by have e':(none:Option Bool) = some b:=e;cases e'
 | .scr _,.bl _,b,e,v,w,u,u',A,hv,hw,r,r',hu=>by have e':(none:Option Bool) = some b:=e;cases e'
 | .scr _,.int _,b,e,v,w,u,u',A,hv,hw,r,r',hu=>by have e':(none:Option Bool) = some b:=e;cases e'
 | .scr _,.str _,b,e,v,w,u,u',A,hv,hw,r,r',hu=>by have e':(none:Option Bool) = some b:=e;cases e'
 | .scr _,.ty _,b,e,v,w,u,u',A,hv,hw,r,r',hu=>by have e':(none:Option Bool) = some b:=e;cases e'
 | .scr _,.tup _,b,e,v,w,u,u',A,hv,hw,r,r',hu=>by have e':(none:Option Bool) = some b:=e;cases e'
 | .scr _,.lst _,b,e,v,w,u,u',A,hv,hw,r,r',hu=>by have e':(none:Option Bool) = some b:=e;cases e'
 | .scr _,.dic _,b,e,v,w,u,u',A,hv,hw,r,r',hu=>by have e':(none:Option Bool) = some b:=e;cases e'
 | .scr _,.dct _,b,e,v,w,u,u',A,hv,hw,r,r',hu=>by have e':(none:Option Bool) = some b:=e;cases e'
 | .scr _,.exn _ _,b,e,v,w,u,u',A,hv,hw,r,r',hu=>by have e':(none:Option Bool) = some b:=e;cases e'
 | .scr _,.obj _ _,b,e,v,w,u,u',A,hv,hw,r,r',hu=>by have e':(none:Option Bool) = some b:=e;cases e'
 | .scr _,.scr _,b,e,v,w,u,u',A,hv,hw,r,r',hu=>by have e':(none:Option Bool) = some b:=e;cases e'
theorem eqsAt (hk:k.fr = X.K) (I:Inv X pins σ H s):∀ (xs ys:List D) (b:Bool),eqDs xs ys = some b->∀ {vs ws:List V} {us us':List Value} {A:Around},Reps k H xs vs->Reps k H ys ws->Vals vs us->Vals ws us'->A.units + deps xs < cLine →
  ∀ (j:Nat) (h1:j < us.length) (h2:j < us'.length),SeqAt.EqAt A s us[j] us'[j] (eqJ xs ys j)
 | [],ys,b,e,vs,ws,us,us',A,q1,q2,r1,r2,hu,j,h1,h2=>by
  rw [reps_nil.mp q1] at r1;cases r1;simp at h1
 | x :: xs,[],b,e,vs,ws,us,us',A,q1,q2,r1,r2,hu,j,h1,h2=>by
  rw [reps_nil.mp q2] at r2;cases r2;simp at h2
 | x :: xs,y :: ys,b,e,vs,ws,us,us',A,q1,q2,r1,r2,hu,j,h1,h2=>by
  obtain ⟨v,vr,rfl,p1,t1⟩:=reps_cons.mp q1
  obtain ⟨w,wr,rfl,p2,t2⟩:=reps_cons.mp q2
  cases r1 with
  | @cons _ u0 _ ur s1 s2=>
  cases r2 with
  | @cons _ u1 _ ur1 s3 s4=>
  rw [eqDs] at e
  rw [deps] at hu
  cases e1:eqD x y with
  | none=>rw [e1] at e;cases e
  | some a=>
   cases e2:eqDs xs ys with
   | none=>rw [e1,e2] at e;cases e
   | some c=>
    cases j with
    | zero=>
     have:eqJ (x :: xs) (y :: ys) 0 = a:=by
      show (eqD x y).getD false = a
      rw [e1];rfl
     rw [this]
     exact eqAt hk I x y a e1 p1 p2 s1 s3 (by have:=Nat.le_max_left (dep x) (deps xs);omega)
    | succ j=>
     have:eqJ (x :: xs) (y :: ys) (j + 1) = eqJ xs ys j:=by
      unfold eqJ
      rw [List.getElem?_cons_succ,List.getElem?_cons_succ]
     rw [this]
     exact eqsAt hk I xs ys c e2 t1 t2 s2 s4 (by have:=Nat.le_max_right (dep x) (deps xs);omega) j (by simpa using h1) (by simpa using h2)
theorem eqSelf (hk:k.fr = X.K) (I:Inv X pins σ H s):∀ (xs ys:List D) (b:Bool),eqDs xs ys = some b->∀ {vs:List V},Reps k H xs vs->Reps k H ys vs->b = true
 | [],[],b,e,_,_,_=>by rw [eqDs] at e;exact (Option.some.inj e).symm
 | [],y :: ys,b,e,vs,q1,q2=>by
  rw [reps_nil.mp q1] at q2
  obtain ⟨_,_,z,_⟩:=reps_cons.mp q2
  cases z
 | x :: xs,[],b,e,vs,q1,q2=>by
  rw [reps_nil.mp q2] at q1
  obtain ⟨_,_,z,_⟩:=reps_cons.mp q1
  cases z
 | x :: xs,y :: ys,b,e,vs,q1,q2=>by
  obtain ⟨v,vr,rfl,p1,t1⟩:=reps_cons.mp q1
  obtain ⟨w,wr,z,p2,t2⟩:=reps_cons.mp q2
  cases z
  rw [eqDs] at e
  cases e1:eqD x y with
  | none=>rw [e1] at e;cases e
  | some a=>
   cases e2:eqDs xs ys with
   | none=>rw [e1,e2] at e;cases e
   | some c=>
    have i2:=eqSelf hk I xs ys c e2 t1 t2
    have i1:=eqSelf1 hk I x y a e1 p1 p2
    rw [e1,e2] at e
    subst i1;subst i2
    exact (Option.some.inj e).symm
theorem eqSelf1 (hk:k.fr = X.K) (I:Inv X pins σ H s):∀ (x y:D) (b:Bool),eqD x y = some b->∀ {v:V},Rep k H x v->Rep k H y v->b = true
 | .tup xs,.tup ys,b,e,v,h1,h2=>by
  rw [eqD] at e
  obtain ⟨a,vs,rfl,s1,q1⟩:=rep_tup h1
  obtain ⟨a',vs',z,s2,q2⟩:=rep_tup h2
  cases z
  cases tupInj hk I s1 s2
  exact eqSelf hk I xs ys b e q1 q2
 | .lst xs,.lst ys,b,e,v,h1,h2=>by
  rw [eqD] at e
  obtain ⟨a,vs,rfl,s1,q1⟩:=rep_lst h1
  obtain ⟨a',vs',z,s2,q2⟩:=rep_lst h2
  cases z
  cases lstInj hk I s1 s2
  exact eqSelf hk I xs ys b e q1 q2
 | .tup xs,.lst ys,b,e,v,h1,h2=>by
  obtain ⟨a,vs,rfl,s1,q1⟩:=rep_tup h1
  obtain ⟨a',vs',z,s2,q2⟩:=rep_lst h2
  cases z
  exact (not_LT hk I s2 s1).elim
 | .lst xs,.tup ys,b,e,v,h1,h2=>by
  obtain ⟨a,vs,rfl,s1,q1⟩:=rep_lst h1
  obtain ⟨a',vs',z,s2,q2⟩:=rep_tup h2
  cases z
  exact (not_LT hk I s1 s2).elim
 | .non,.non,b,e,v,h1,h2=>by rw [eqD] at e;exact (Option.some.inj e).symm
 | .bl a,.bl c,b,e,v,h1,h2=>by cases rep_bl h1;cases rep_bl h2;exact eqD_refl _ _ e
 | .int a,.int c,b,e,v,h1,h2=>by cases rep_int h1;cases rep_int h2;exact eqD_refl _ _ e
 | .str a,.str c,b,e,v,h1,h2=>by cases rep_str h1;cases rep_str h2;exact eqD_refl _ _ e
 | .non,.bl _,b,e,v,h1,h2=>by have zh1:=rep_non h1;have zh2:=rep_bl h2;rw [zh1] at zh2;cases zh2
 | .non,.int _,b,e,v,h1,h2=>by have zh1:=rep_non h1;have zh2:=rep_int h2;rw [zh1] at zh2;cases zh2
 | .non,.str _,b,e,v,h1,h2=>by have zh1:=rep_non h1;have zh2:=rep_str h2;rw [zh1] at zh2;cases zh2
 | .non,.ty _,b,e,v,h1,h2=>by have e':(none:Option Bool) = some b:=e;cases e'
 | .non,.tup _,b,e,v,h1,h2=>by have zh1:=rep_non h1;obtain ⟨ah2,vsh2,zh2,_⟩:=rep_tup h2;rw [zh1] at zh2;cases zh2
 | .non,.lst _,b,e,v,h1,h2=>by have zh1:=rep_non h1;obtain ⟨ah2,vsh2,zh2,_⟩:=rep_lst h2;rw [zh1] at zh2;cases zh2
 | .non,.dic _,b,e,v,h1,h2=>by have e':(none:Option Bool) = some b:=e;cases e'
 | .bl _,.non,b,e,v,h1,h2=>by have zh1:=rep_bl h1;have zh2:=rep_non h2;rw [zh1] at zh2;cases zh2
 | .bl _,.int _,b,e,v,h1,h2=>by have zh1:=rep_bl h1;have zh2:=rep_int h2;rw [zh1] at zh2;cases zh2
 | .bl _,.str _,b,e,v,h1,h2=>by have zh1:=rep_bl h1;have zh2:=rep_str h2;rw [zh1] at zh2;cases zh2
 | .bl _,.ty _,b,e,v,h1,h2=>by have e':(none:Option Bool) = some b:=e;cases e'
 | .bl _,.tup _,b,e,v,h1,h2=>by have zh1:=rep_bl h1;obtain ⟨ah2,vsh2,zh2,_⟩:=rep_tup h2;rw [zh1] at zh2;cases zh2
 | .bl _,.lst _,b,e,v,h1,h2=>by have zh1:=rep_bl h1;obtain ⟨ah2,vsh2,zh2,_⟩:=rep_lst h2;rw [zh1] at zh2;cases zh2
 | .bl _,.dic _,b,e,v,h1,h2=>by have e':(none:Option Bool) = some b:=e;cases e'
 | .int _,.non,b,e,v,h1,h2=>by have zh1:=rep_int h1;have zh2:=rep_non h2;rw [zh1] at zh2;cases zh2
 | .int _,.bl _,b,e,v,h1,h2=>by have zh1:=rep_int h1;have zh2:=rep_bl h2;rw [zh1] at zh2;cases zh2
 | .int _,.str _,b,e,v,h1,h2=>by have zh1:=rep_int h1;have zh2:=rep_str h2;rw [zh1] at zh2;cases zh2
 | .int _,.ty _,b,e,v,h1,h2=>by have e':(none:Option Bool) = some b:=e;cases e'
 | .int _,.tup _,b,e,v,h1,h2=>by have zh1:=rep_int h1;obtain ⟨ah2,vsh2,zh2,_⟩:=rep_tup h2;rw [zh1] at zh2;cases zh2
 | .int _,.lst _,b,e,v,h1,h2=>by have zh1:=rep_int h1;obtain ⟨ah2,vsh2,zh2,_⟩:=rep_lst h2;rw [zh1] at zh2;cases zh2
 | .int _,.dic _,b,e,v,h1,h2=>by have e':(none:Option Bool) = some b:=e;cases e'
 | .str _,.non,b,e,v,h1,h2=>by have zh1:=rep_str h1;have zh2:=rep_non h2;rw [zh1] at zh2;cases zh2
 | .str _,.bl _,b,e,v,h1,h2=>by have zh1:=rep_str h1;have zh2:=rep_bl h2;rw [zh1] at zh2;cases zh2
 | .str _,.int _,b,e,v,h1,h2=>by have zh1:=rep_str h1;have zh2:=rep_int h2;rw [zh1] at zh2;cases zh2
 | .str _,.ty _,b,e,v,h1,h2=>by have e':(none:Option Bool) = some b:=e;cases e'
 | .str _,.tup _,b,e,v,h1,h2=>by have zh1:=rep_str h1;obtain ⟨ah2,vsh2,zh2,_⟩:=rep_tup h2;rw [zh1] at zh2;cases zh2
 | .str _,.lst _,b,e,v,h1,h2=>by have zh1:=rep_str h1;obtain ⟨ah2,vsh2,zh2,_⟩:=rep_lst h2;rw [zh1] at zh2;cases zh2
 | .str _,.dic _,b,e,v,h1,h2=>by have e':(none:Option Bool) = some b:=e;cases e'
 | .ty _,.non,b,e,v,h1,h2=>by have e':(none:Option Bool) = some b:=e;cases e'
 | .ty _,.bl _,b,e,v,h1,h2=>by have e':(none:Option Bool) = some b:=e;cases e'
 | .ty _,.int _,b,e,v,h1,h2=>by have e':(none:Option Bool) = some b:=e;cases e'
 | .ty _,.str _,b,e,v,h1,h2=>by have e':(none:Option Bool) = some b:=e;cases e'
 | .ty _,.ty _,b,e,v,h1,h2=>by have e':(none:Option Bool) = some b:=e;cases e'
 | .ty _,.tup _,b,e,v,h1,h2=>by have e':(none:Option Bool) = some b:=e;cases e'
 | .ty _,.lst _,b,e,v,h1,h2=>by have e':(none:Option Bool) = some b:=e;cases e'
 | .ty _,.dic _,b,e,v,h1,h2=>by have e':(none:Option Bool) = some b:=e;cases e'
 | .tup _,.non,b,e,v,h1,h2=>by obtain ⟨ah1,vsh1,zh1,_⟩:=rep_tup h1;have zh2:=rep_non h2;rw [zh1] at zh2;cases zh2
 | .tup _,.bl _,b,e,v,h1,h2=>by obtain ⟨ah1,vsh1,zh1,_⟩:=rep_tup h1;have zh2:=rep_bl h2;rw [zh1] at zh2;cases zh2
 | .tup _,.int _,b,e,v,h1,h2=>by obtain ⟨ah1,vsh1,zh1,_⟩:=rep_tup h1;have zh2:=rep_int h2;rw [zh1] at zh2;cases zh2
 | .tup _,.str _,b,e,v,h1,h2=>by obtain ⟨ah1,vsh1,zh1,_⟩:=rep_tup h1;have zh2:=rep_str h2;rw [zh1] at zh2;cases zh2
 | .tup _,.ty _,b,e,v,h1,h2=>by have e':(none:Option Bool) = some b:=e;cases e'
 | .tup _,.dic _,b,e,v,h1,h2=>by have e':(none:Option Bool) = some b:=e;cases e'
 | .lst _,.non,b,e,v,h1,h2=>by obtain ⟨ah1,vsh1,zh1,_⟩:=rep_lst h1;have zh2:=rep_non h2;rw [zh1] at zh2;cases zh2
 | .lst _,.bl _,b,e,v,h1,h2=>by obtain ⟨ah1,vsh1,zh1,_⟩:=rep_lst h1;have zh2:=rep_bl h2;rw [zh1] at zh2;cases zh2
 | .lst _,.int _,b,e,v,h1,h2=>by obtain ⟨ah1,vsh1,zh1,_⟩:=rep_lst h1;have zh2:=rep_int h2;rw [zh1] at zh2;cases zh2
 | .lst _,.str _,b,e,v,h1,h2=>by obtain ⟨ah1,vsh1,zh1,_⟩:=rep_lst h1;have zh2:=rep_str h2;rw [zh1] at zh2;cases zh2
 | .lst _,.ty _,b,e,v,h1,h2=>by have e':(none:Option Bool) = some b:=e;cases e'
 | .lst _,.dic _,b,e,v,h1,h2=>by have e':(none:Option Bool) = some b:=e;cases e'
 | .dic _,.non,b,e,v,h1,h2=>by have e':(none:Option Bool) = some b:=e;cases e'
 | .dic _,.bl _,b,e,v,h1,h2=>by have e':(none:Option Bool) = some b:=e;cases e'
 | .dic _,.int _,b,e,v,h1,h2=>by have e':(none:Option Bool) = some b:=e;cases e'
 | .dic _,.str _,b,e,v,h1,h2=>by have e':(none:Option Bool) = some b:=e;cases e'
 | .dic _,.ty _,b,e,v,h1,h2=>by have e':(none:Option Bool) = some b:=e;cases e'
 | .dic _,.tup _,b,e,v,h1,h2=>by have e':(none:Option Bool) = some b:=e;cases e'
 | .dic _,.lst _,b,e,v,h1,h2=>by have e':(none:Option Bool) = some b:=e;cases e'
 | .dic _,.dic _,b,e,v,h1,h2=>by have e':(none:Option Bool) = some b:=e;cases e'
 | .non,.dct _,b,e,v,h1,h2=>by have e':(none:Option Bool) = some b:=e;cases e'
 | .non,.exn _ _,b,e,v,h1,h2=>by have e':(none:Option Bool) = some b:=e;cases e'
 | .non,.obj _ _,b,e,v,h1,h2=>by have e':(none:Option Bool) = some b:=e;cases e'
 | .bl _,.dct _,b,e,v,h1,h2=>by have e':(none:Option Bool) = some b:=e;cases e'
 | .bl _,.exn _ _,b,e,v,h1,h2=>by have e':(none:Option Bool) = some b:=e;cases e'
 | .bl _,.obj _ _,b,e,v,h1,h2=>by have e':(none:Option Bool) = some b:=e;cases e'
 | .int _,.dct _,b,e,v,h1,h2=>by have e':(none:Option Bool) = some b:=e;cases e'
 | .int _,.exn _ _,b,e,v,h1,h2=>by have e':(none:Option Bool) = some b:=e;cases e'
 | .int _,.obj _ _,b,e,v,h1,h2=>by have e':(none:Option Bool) = some b:=e;cases e'
 | .str _,.dct _,b,e,v,h1,h2=>by have e':(none:Option Bool) = some b:=e;cases e'
 | .str _,.exn _ _,b,e,v,h1,h2=>by have e':(none:Option Bool) = some b:=e;cases e'
 | .str _,.obj _ _,b,e,v,h1,h2=>by have e':(none:Option Bool) = some b:=e;cases e'
 | .ty _,.dct _,b,e,v,h1,h2=>by have e':(none:Option Bool) = some b:=e;cases e'
 | .ty _,.exn _ _,b,e,v,h1,h2=>by have e':(none:Option Bool) = some b:=e;cases e'
 | .ty _,.obj _ _,b,e,v,h1,h2=>by have e':(none:Option Bool) = some b:=e;cases e'
 | .tup _,.dct _,b,e,v,h1,h2=>by have e':(none:Option Bool) = some b:=e;cases e'
 | .tup _,.exn _ _,b,e,v,h1,h2=>by have e':(none:Option Bool) = some b:=e;cases e'
 | .tup _,.obj _ _,b,e,v,h1,h2=>by have e':(none:Option Bool) = some b:=e;cases e'
 | .lst _,.dct _,b,e,v,h1,h2=>by have e':(none:Option Bool) = some b:=e;cases e'
 | .lst _,.exn _ _,b,e,v,h1,h2=>by have e':(none:Option Bool) = some b:=e;cases e'
 | .lst _,.obj _ _,b,e,v,h1,h2=>by have e':(none:Option Bool) = some b:=e;cases e'
 | .dic _,.dct _,b,e,v,h1,h2=>by have e':(none:Option Bool) = some b:=e;cases e'
 | .dic _,.exn _ _,b,e,v,h1,h2=>by have e':(none:Option Bool) = some b:=e;cases e'
 | .dic _,.obj _ _,b,e,v,h1,h2=>by have e':(none:Option Bool) = some b:=e;cases e'
 | .dct _,.non,b,e,v,h1,h2=>by have e':(none:Option Bool) = some b:=e;cases e'
 | .dct _,.bl _,b,e,v,h1,h2=>by have e':(none:Option Bool) = some b:=e;cases e'
 | .dct _,.int _,b,e,v,h1,h2=>by have e':(none:Option Bool) = some b:=e;cases e'
 | .dct _,.str _,b,e,v,h1,h2=>by have e':(none:Option Bool) = some b:=e;cases e'
 | .dct _,.ty _,b,e,v,h1,h2=>by have e':(none:Option Bool) = some b:=e;cases e'
 | .dct _,.tup _,b,e,v,h1,h2=>by have e':(none:Option Bool) = some b:=e;cases e'
 | .dct _,.lst _,b,e,v,h1,h2=>by have e':(none:Option Bool) = some b:=e;cases e'
 | .dct _,.dic _,b,e,v,h1,h2=>by have e':(none:Option Bool) = some b:=e;cases e'
 | .dct _,.dct _,b,e,v,h1,h2=>by have e':(none:Option Bool) = some b:=e;cases e'
 | .dct _,.exn _ _,b,e,v,h1,h2=>by have e':(none:Option Bool) = some b:=e;cases e'
 | .dct _,.obj _ _,b,e,v,h1,h2=>by have e':(none:Option Bool) = some b:=e;cases e'
 | .exn _ _,.non,b,e,v,h1,h2=>by have e':(none:Option Bool) = some b:=e;cases e'
 | .exn _ _,.bl _,b,e,v,h1,h2=>by have e':(none:Option Bool) = some b:=e;cases e'
 | .exn _ _,.int _,b,e,v,h1,h2=>by have e':(none:Option Bool) = some b:=e;cases e'
 | .exn _ _,.str _,b,e,v,h1,h2=>by have e':(none:Option Bool) = some b:=e;cases e'
 | .exn _ _,.ty _,b,e,v,h1,h2=>by have e':(none:Option Bool) = some b:=e;cases e'
 | .exn _ _,.tup _,b,e,v,h1,h2=>by have e':(none:Option Bool) = some b:=e;cases e'
 | .exn _ _,.lst _,b,e,v,h1,h2=>by have e':(none:Option Bool) = some b:=e;cases e'
 | .exn _ _,.dic _,b,e,v,h1,h2=>by have e':(none:Option Bool) = some b:=e;cases e'
 | .exn _ _,.dct _,b,e,v,h1,h2=>by have e':(none:Option Bool) = some b:=e;cases e'
 | .exn _ _,.exn _ _,b,e,v,h1,h2=>by have e':(none:Option Bool) = some b:=e;cases e'
 | .exn _ _,.obj _ _,b,e,v,h1,h2=>by have e':(none:Option Bool) = some b:=e;cases e'
 | .obj _ _,.non,b,e,v,h1,h2=>by have e':(none:Option Bool) = some b:=e;cases e'
 | .obj _ _,.bl _,b,e,v,h1,h2=>by have e':(none:Option Bool) = some b:=e;cases e'
 | .obj _ _,.int _,b,e,v,h1,h2=>by have e':(none:Option Bool) = some b:=e;cases e'
 | .obj _ _,.str _,b,e,v,h1,h2=>by have e':(none:Option Bool) = some b:=e;cases e'
 | .obj _ _,.ty _,b,e,v,h1,h2=>by have e':(none:Option Bool) = some b:=e;cases e'
 | .obj _ _,.tup _,b,e,v,h1,h2=>by have e':(none:Option Bool) = some b:=e;cases e'
 | .obj _ _,.lst _,b,e,v,h1,h2=>by have e':(none:Option Bool) = some b:=e;cases e'
 | .obj _ _,.dic _,b,e,v,h1,h2=>by have e':(none:Option Bool) = some b:=e;cases e'
 | .obj _ _,.dct _,b,e,v,h1,h2=>by have e':(none:Option Bool) = some b:=e;cases e'
 | .obj _ _,.exn _ _,b,e,v,h1,h2=>by have e':(none:Option Bool) = some b:=e;cases e'
 | .obj _ _,.obj _ _,b,e,v,h1,h2=>by have e':(none:Option Bool) = some b:=e;cases e'
 | .non,.scr _,b,e,v,h1,h2=>by have e':(none:Option Bool) = some b:=e;cases e'
 | .bl _,.scr _,b,e,v,h1,h2=>by have e':(none:Option Bool) = some b:=e;cases e'
 | .int _,.scr _,b,e,v,h1,h2=>by have e':(none:Option Bool) = some b:=e;cases e'
 | .str _,.scr _,b,e,v,h1,h2=>by have e':(none:Option Bool) = some b:=e;cases e'
 | .ty _,.scr _,b,e,v,h1,h2=>by have e':(none:Option Bool) = some b:=e;cases e'
 | .tup _,.scr _,b,e,v,h1,h2=>by have e':(none:Option Bool) = some b:=e;cases e'
 | .lst _,.scr _,b,e,v,h1,h2=>by have e':(none:Option Bool) = some b:=e;cases e'
 | .dic _,.scr _,b,e,v,h1,h2=>by have e':(none:Option Bool) = some b:=e;cases e'
 | .dct _,.scr _,b,e,v,h1,h2=>by have e':(none:Option Bool) = some b:=e;cases e'
 | .exn _ _,.scr _,b,e,v,h1,h2=>by have e':(none:Option Bool) = some b:=e;cases e'
 | .obj _ _,.scr _,b,e,v,h1,h2=>by have e':(none:Option Bool) = some b:=e;cases e'
 | .scr _,.non,b,e,v,h1,h2=>by have e':(none:Option Bool) = some b:=e;cases e'
 | .scr _,.bl _,b,e,v,h1,h2=>by have e':(none:Option Bool) = some b:=e;cases e'
 | .scr _,.int _,b,e,v,h1,h2=>by have e':(none:Option Bool) = some b:=e;cases e'
 | .scr _,.str _,b,e,v,h1,h2=>by have e':(none:Option Bool) = some b:=e;cases e'
 | .scr _,.ty _,b,e,v,h1,h2=>by have e':(none:Option Bool) = some b:=e;cases e'
 | .scr _,.tup _,b,e,v,h1,h2=>by have e':(none:Option Bool) = some b:=e;cases e'
 | .scr _,.lst _,b,e,v,h1,h2=>by have e':(none:Option Bool) = some b:=e;cases e'
 | .scr _,.dic _,b,e,v,h1,h2=>by have e':(none:Option Bool) = some b:=e;cases e'
 | .scr _,.dct _,b,e,v,h1,h2=>by have e':(none:Option Bool) = some b:=e;cases e'
 | .scr _,.exn _ _,b,e,v,h1,h2=>by have e':(none:Option Bool) = some b:=e;cases e'
 | .scr _,.obj _ _,b,e,v,h1,h2=>by have e':(none:Option Bool) = some b:=e;cases e'
 | .scr _,.scr _,b,e,v,h1,h2=>by have e':(none:Option Bool) = some b:=e;cases e'
end
end
end DL
namespace DL
open PySem L2
section
variable {X:Cx} {pins:List (Addr × Obj)} {σ:L2.St} {H:Hp} {s:Shared} {k:Kx}
theorem rcAt (hk:k.fr = X.K) (I:Inv X pins σ H s):∀ (x y:D) (b:Bool),eqD x y = some b->∀ {v w:V} {u u':Value} {A:Around},Rep k H x v->Rep k H y w->RelV v u->RelV w u'->A.units + dep x < cLine->SeqAt.RcAt A s u u' b
 | .non,.non,b,e,v,w,u,u',A,hv,hw,r,r',hu=>by rw [eqD] at e;cases e;cases rep_non hv;cases r;cases rep_non hw;cases r';exact SeqAt.RcAt.none_none
 | .non,.bl _,b,e,v,w,u,u',A,hv,hw,r,r',hu=>by rw [eqD] at e;cases e;cases rep_non hv;cases r;cases rep_bl hw;cases r';exact SeqAt.RcAt.none_bool _
 | .non,.int _,b,e,v,w,u,u',A,hv,hw,r,r',hu=>by rw [eqD] at e;cases e;cases rep_non hv;cases r;cases rep_int hw;obtain ⟨t2,rfl⟩:=r';exact SeqAt.RcAt.none_int _ _
 | .non,.str _,b,e,v,w,u,u',A,hv,hw,r,r',hu=>by rw [eqD] at e;cases e;cases rep_non hv;cases r;cases rep_str hw;obtain ⟨t2,rfl⟩:=r';exact SeqAt.RcAt.none_str _ _
 | .non,.tup _,b,e,v,w,u,u',A,hv,hw,r,r',hu=>by rw [eqD] at e;cases e;cases rep_non hv;cases r;obtain ⟨a2,vs2,rfl,h2,_⟩:=rep_tup hw;cases r';obtain ⟨its2,_,⟨o2,g2,c2,d2⟩,_⟩:=tupI hk I h2;exact SeqAt.RcAt.none_tuple ⟨o2,g2,c2,d2⟩ (by have hu1:=hu;omega)
 | .non,.lst _,b,e,v,w,u,u',A,hv,hw,r,r',hu=>by rw [eqD] at e;cases e;cases rep_non hv;cases r;obtain ⟨a2,vs2,rfl,h2,_⟩:=rep_lst hw;cases r';obtain ⟨its2,_,pl2,_⟩:=lstI hk I h2;exact SeqAt.RcAt.none_list (plis pl2) (by have hu1:=hu;omega)
 | .bl _,.non,b,e,v,w,u,u',A,hv,hw,r,r',hu=>by rw [eqD] at e;cases e;cases rep_bl hv;cases r;cases rep_non hw;cases r';exact SeqAt.RcAt.bool_none _
 | .bl _,.bl _,b,e,v,w,u,u',A,hv,hw,r,r',hu=>by rw [eqD] at e;cases e;cases rep_bl hv;cases r;cases rep_bl hw;cases r';exact SeqAt.RcAt.bool_bool _ _
 | .bl _,.int _,b,e,v,w,u,u',A,hv,hw,r,r',hu=>by rw [eqD] at e;cases e;cases rep_bl hv;cases r;cases rep_int hw;obtain ⟨t2,rfl⟩:=r';exact SeqAt.RcAt.bool_int _ _ _
 | .bl _,.str _,b,e,v,w,u,u',A,hv,hw,r,r',hu=>by rw [eqD] at e;cases e;cases rep_bl hv;cases r;cases rep_str hw;obtain ⟨t2,rfl⟩:=r';exact SeqAt.RcAt.bool_str _ _ _
 | .bl _,.tup _,b,e,v,w,u,u',A,hv,hw,r,r',hu=>by rw [eqD] at e;cases e;cases rep_bl hv;cases r;obtain ⟨a2,vs2,rfl,h2,_⟩:=rep_tup hw;cases r';obtain ⟨its2,_,⟨o2,g2,c2,d2⟩,_⟩:=tupI hk I h2;exact SeqAt.RcAt.bool_tuple _ ⟨o2,g2,c2,d2⟩ (by have hu1:=hu;omega)
 | .bl _,.lst _,b,e,v,w,u,u',A,hv,hw,r,r',hu=>by rw [eqD] at e;cases e;cases rep_bl hv;cases r;obtain ⟨a2,vs2,rfl,h2,_⟩:=rep_lst hw;cases r';obtain ⟨its2,_,pl2,_⟩:=lstI hk I h2;exact SeqAt.RcAt.bool_list _ (plis pl2) (by have hu1:=hu;omega)
 | .int _,.non,b,e,v,w,u,u',A,hv,hw,r,r',hu=>by rw [eqD] at e;cases e;cases rep_int hv;obtain ⟨t1,rfl⟩:=r;cases rep_non hw;cases r';exact SeqAt.RcAt.int_none _ _
 | .int _,.bl _,b,e,v,w,u,u',A,hv,hw,r,r',hu=>by rw [eqD] at e;cases e;cases rep_int hv;obtain ⟨t1,rfl⟩:=r;cases rep_bl hw;cases r';exact SeqAt.RcAt.int_bool _ _ _
 | .int _,.int _,b,e,v,w,u,u',A,hv,hw,r,r',hu=>by rw [eqD] at e;cases e;cases rep_int hv;obtain ⟨t1,rfl⟩:=r;cases rep_int hw;obtain ⟨t2,rfl⟩:=r';exact SeqAt.RcAt.int_int _ _ _ _
 | .int _,.str _,b,e,v,w,u,u',A,hv,hw,r,r',hu=>by rw [eqD] at e;cases e;cases rep_int hv;obtain ⟨t1,rfl⟩:=r;cases rep_str hw;obtain ⟨t2,rfl⟩:=r';exact SeqAt.RcAt.int_str _ _ _ _
 | .int _,.tup _,b,e,v,w,u,u',A,hv,hw,r,r',hu=>by rw [eqD] at e;cases e;cases rep_int hv;obtain ⟨t1,rfl⟩:=r;obtain ⟨a2,vs2,rfl,h2,_⟩:=rep_tup hw;cases r';obtain ⟨its2,_,⟨o2,g2,c2,d2⟩,_⟩:=tupI hk I h2;exact SeqAt.RcAt.int_tuple _ _ ⟨o2,g2,c2,d2⟩ (by have hu1:=hu;omega)
 | .int _,.lst _,b,e,v,w,u,u',A,hv,hw,r,r',hu=>by rw [eqD] at e;cases e;cases rep_int hv;obtain ⟨t1,rfl⟩:=r;obtain ⟨a2,vs2,rfl,h2,_⟩:=rep_lst hw;cases r';obtain ⟨its2,_,pl2,_⟩:=lstI hk I h2;exact SeqAt.RcAt.int_list _ _ (plis pl2) (by have hu1:=hu;omega)
 | .str _,.non,b,e,v,w,u,u',A,hv,hw,r,r',hu=>by rw [eqD] at e;cases e;cases rep_str hv;obtain ⟨t1,rfl⟩:=r;cases rep_non hw;cases r';exact SeqAt.RcAt.str_none _ _
 | .str _,.bl _,b,e,v,w,u,u',A,hv,hw,r,r',hu=>by rw [eqD] at e;cases e;cases rep_str hv;obtain ⟨t1,rfl⟩:=r;cases rep_bl hw;cases r';exact SeqAt.RcAt.str_bool _ _ _
 | .str _,.int _,b,e,v,w,u,u',A,hv,hw,r,r',hu=>by rw [eqD] at e;cases e;cases rep_str hv;obtain ⟨t1,rfl⟩:=r;cases rep_int hw;obtain ⟨t2,rfl⟩:=r';exact SeqAt.RcAt.str_int _ _ _ _
 | .str _,.str _,b,e,v,w,u,u',A,hv,hw,r,r',hu=>by rw [eqD] at e;cases e;cases rep_str hv;obtain ⟨t1,rfl⟩:=r;cases rep_str hw;obtain ⟨t2,rfl⟩:=r';exact SeqAt.RcAt.str_str _ _ _ _
 | .str _,.tup _,b,e,v,w,u,u',A,hv,hw,r,r',hu=>by rw [eqD] at e;cases e;cases rep_str hv;obtain ⟨t1,rfl⟩:=r;obtain ⟨a2,vs2,rfl,h2,_⟩:=rep_tup hw;cases r';obtain ⟨its2,_,⟨o2,g2,c2,d2⟩,_⟩:=tupI hk I h2;exact SeqAt.RcAt.str_tuple _ _ ⟨o2,g2,c2,d2⟩ (by have hu1:=hu;omega)
 | .str _,.lst _,b,e,v,w,u,u',A,hv,hw,r,r',hu=>by rw [eqD] at e;cases e;cases rep_str hv;obtain ⟨t1,rfl⟩:=r;obtain ⟨a2,vs2,rfl,h2,_⟩:=rep_lst hw;cases r';obtain ⟨its2,_,pl2,_⟩:=lstI hk I h2;exact SeqAt.RcAt.str_list _ _ (plis pl2) (by have hu1:=hu;omega)
 | .tup _,.non,b,e,v,w,u,u',A,hv,hw,r,r',hu=>by rw [eqD] at e;cases e;obtain ⟨a1,vs1,rfl,h1,_⟩:=rep_tup hv;cases r;obtain ⟨its1,_,⟨o1,g1,c1,d1⟩,_⟩:=tupI hk I h1;cases rep_non hw;cases r';exact SeqAt.RcAt.tuple_none ⟨o1,g1,c1,d1⟩ (by have hu1:=hu;omega)
 | .tup _,.bl _,b,e,v,w,u,u',A,hv,hw,r,r',hu=>by rw [eqD] at e;cases e;obtain ⟨a1,vs1,rfl,h1,_⟩:=rep_tup hv;cases r;obtain ⟨its1,_,⟨o1,g1,c1,d1⟩,_⟩:=tupI hk I h1;cases rep_bl hw;cases r';exact SeqAt.RcAt.tuple_bool _ ⟨o1,g1,c1,d1⟩ (by have hu1:=hu;omega)
 | .tup _,.int _,b,e,v,w,u,u',A,hv,hw,r,r',hu=>by rw [eqD] at e;cases e;obtain ⟨a1,vs1,rfl,h1,_⟩:=rep_tup hv;cases r;obtain ⟨its1,_,⟨o1,g1,c1,d1⟩,_⟩:=tupI hk I h1;cases rep_int hw;obtain ⟨t2,rfl⟩:=r';exact SeqAt.RcAt.tuple_int _ _ ⟨o1,g1,c1,d1⟩ (by have hu1:=hu;omega)
 | .tup _,.str _,b,e,v,w,u,u',A,hv,hw,r,r',hu=>by rw [eqD] at e;cases e;obtain ⟨a1,vs1,rfl,h1,_⟩:=rep_tup hv;cases r;obtain ⟨its1,_,⟨o1,g1,c1,d1⟩,_⟩:=tupI hk I h1;cases rep_str hw;obtain ⟨t2,rfl⟩:=r';exact SeqAt.RcAt.tuple_str _ _ ⟨o1,g1,c1,d1⟩ (by have hu1:=hu;omega)
 | .tup _,.lst _,b,e,v,w,u,u',A,hv,hw,r,r',hu=>by rw [eqD] at e;cases e;obtain ⟨a1,vs1,rfl,h1,_⟩:=rep_tup hv;cases r;obtain ⟨its1,_,⟨o1,g1,c1,d1⟩,_⟩:=tupI hk I h1;obtain ⟨a2,vs2,rfl,h2,_⟩:=rep_lst hw;cases r';obtain ⟨its2,_,pl2,_⟩:=lstI hk I h2;exact SeqAt.RcAt.tuple_list ⟨o1,g1,c1,d1⟩ (plis pl2) (by have hu1:=hu;omega)
 | .lst _,.non,b,e,v,w,u,u',A,hv,hw,r,r',hu=>by rw [eqD] at e;cases e;obtain ⟨a1,vs1,rfl,h1,_⟩:=rep_lst hv;cases r;obtain ⟨its1,_,pl1,_⟩:=lstI hk I h1;cases rep_non hw;cases r';exact SeqAt.RcAt.list_none (plis pl1) (by have hu1:=hu;omega)
 | .lst _,.bl _,b,e,v,w,u,u',A,hv,hw,r,r',hu=>by rw [eqD] at e;cases e;obtain ⟨a1,vs1,rfl,h1,_⟩:=rep_lst hv;cases r;obtain ⟨its1,_,pl1,_⟩:=lstI hk I h1;cases rep_bl hw;cases r';exact SeqAt.RcAt.list_bool _ (plis pl1) (by have hu1:=hu;omega)
 | .lst _,.int _,b,e,v,w,u,u',A,hv,hw,r,r',hu=>by rw [eqD] at e;cases e;obtain ⟨a1,vs1,rfl,h1,_⟩:=rep_lst hv;cases r;obtain ⟨its1,_,pl1,_⟩:=lstI hk I h1;cases rep_int hw;obtain ⟨t2,rfl⟩:=r';exact SeqAt.RcAt.list_int _ _ (plis pl1) (by have hu1:=hu;omega)
 | .lst _,.str _,b,e,v,w,u,u',A,hv,hw,r,r',hu=>by rw [eqD] at e;cases e;obtain ⟨a1,vs1,rfl,h1,_⟩:=rep_lst hv;cases r;obtain ⟨its1,_,pl1,_⟩:=lstI hk I h1;cases rep_str hw;obtain ⟨t2,rfl⟩:=r';exact SeqAt.RcAt.list_str _ _ (plis pl1) (by have hu1:=hu;omega)
 | .lst _,.tup _,b,e,v,w,u,u',A,hv,hw,r,r',hu=>by rw [eqD] at e;cases e;obtain ⟨a1,vs1,rfl,h1,_⟩:=rep_lst hv;cases r;obtain ⟨its1,_,pl1,_⟩:=lstI hk I h1;obtain ⟨a2,vs2,rfl,h2,_⟩:=rep_tup hw;cases r';obtain ⟨its2,_,⟨o2,g2,c2,d2⟩,_⟩:=tupI hk I h2;exact SeqAt.RcAt.list_tuple (plis pl1) ⟨o2,g2,c2,d2⟩ (by have hu1:=hu;omega)
 | .non,.ty _,b,e,v,w,u,u',A,hv,hw,r,r',hu=>by have e':(none:Option Bool) = some b:=e;cases e'
 | .non,.dic _,b,e,v,w,u,u',A,hv,hw,r,r',hu=>by have e':(none:Option Bool) = some b:=e;cases e'
 | .non,.dct _,b,e,v,w,u,u',A,hv,hw,r,r',hu=>by have e':(none:Option Bool) = some b:=e;cases e'
 | .non,.exn _ _,b,e,v,w,u,u',A,hv,hw,r,r',hu=>by have e':(none:Option Bool) = some b:=e;cases e'
 | .non,.obj _ _,b,e,v,w,u,u',A,hv,hw,r,r',hu=>by have e':(none:Option Bool) = some b:=e;cases e'
 | .non,.scr _,b,e,v,w,u,u',A,hv,hw,r,r',hu=>by have e':(none:Option Bool) = some b:=e;cases e'
 | .bl _,.ty _,b,e,v,w,u,u',A,hv,hw,r,r',hu=>by have e':(none:Option Bool) = some b:=e;cases e'
 | .bl _,.dic _,b,e,v,w,u,u',A,hv,hw,r,r',hu=>by have e':(none:Option Bool) = some b:=e;cases e'
 | .bl _,.dct _,b,e,v,w,u,u',A,hv,hw,r,r',hu=>by have e':(none:Option Bool) = some b:=e;cases e'
 | .bl _,.exn _ _,b,e,v,w,u,u',A,hv,hw,r,r',hu=>by have e':(none:Option Bool) = some b:=e;cases e'
 | .bl _,.obj _ _,b,e,v,w,u,u',A,hv,hw,r,r',hu=>by have e':(none:Option Bool) = some b:=e;cases e'
 | .bl _,.scr _,b,e,v,w,u,u',A,hv,hw,r,r',hu=>by have e':(none:Option Bool) = some b:=e;cases e'
 | .int _,.ty _,b,e,v,w,u,u',A,hv,hw,r,r',hu=>by have e':(none:Option Bool) = some b:=e;cases e'
 | .int _,.dic _,b,e,v,w,u,u',A,hv,hw,r,r',hu=>by have e':(none:Option Bool) = some b:=e;cases e'
 | .int _,.dct _,b,e,v,w,u,u',A,hv,hw,r,r',hu=>by have e':(none:Option Bool) = some b:=e;cases e'
 | .int _,.exn _ _,b,e,v,w,u,u',A,hv,hw,r,r',hu=>by have e':(none:Option Bool) = some b:=e;cases e'
 | .int _,.obj _ _,b,e,v,w,u,u',A,hv,hw,r,r',hu=>by have e':(none:Option Bool) = some b:=e;cases e'
 | .int _,.scr _,b,e,v,w,u,u',A,hv,hw,r,r',hu=>by have e':(none:Option Bool) = some b:=e;cases e'
 | .str _,.ty _,b,e,v,w,u,u',A,hv,hw,r,r',hu=>by have e':(none:Option Bool) = some b:=e;cases e'
 | .str _,.dic _,b,e,v,w,u,u',A,hv,hw,r,r',hu=>by have e':(none:Option Bool) = some b:=e;cases e'
 | .str _,.dct _,b,e,v,w,u,u',A,hv,hw,r,r',hu=>by have e':(none:Option Bool) = some b:=e;cases e'
 | .str _,.exn _ _,b,e,v,w,u,u',A,hv,hw,r,r',hu=>by have e':(none:Option Bool) = some b:=e;cases e'
 | .str _,.obj _ _,b,e,v,w,u,u',A,hv,hw,r,r',hu=>by have e':(none:Option Bool) = some b:=e;cases e'
 | .str _,.scr _,b,e,v,w,u,u',A,hv,hw,r,r',hu=>by have e':(none:Option Bool) = some b:=e;cases e'
 | .tup _,.ty _,b,e,v,w,u,u',A,hv,hw,r,r',hu=>by have e':(none:Option Bool) = some b:=e;cases e'
 | .tup _,.dic _,b,e,v,w,u,u',A,hv,hw,r,r',hu=>by have e':(none:Option Bool) = some b:=e;cases e'
 | .tup _,.dct _,b,e,v,w,u,u',A,hv,hw,r,r',hu=>by have e':(none:Option Bool) = some b:=e;cases e'
 | .tup _,.exn _ _,b,e,v,w,u,u',A,hv,hw,r,r',hu=>by have e':(none:Option Bool) = some b:=e;cases e'
 | .tup _,.obj _ _,b,e,v,w,u,u',A,hv,hw,r,r',hu=>by have e':(none:Option Bool) = some b:=e;cases e'
 | .tup _,.scr _,b,e,v,w,u,u',A,hv,hw,r,r',hu=>by have e':(none:Option Bool) = some b:=e;cases e'
 | .lst _,.ty _,b,e,v,w,u,u',A,hv,hw,r,r',hu=>by have e':(none:Option Bool) = some b:=e;cases e'
 | .lst _,.dic _,b,e,v,w,u,u',A,hv,hw,r,r',hu=>by have e':(none:Option Bool) = some b:=e;cases e'
 | .lst _,.dct _,b,e,v,w,u,u',A,hv,hw,r,r',hu=>by have e':(none:Option Bool) = some b:=e;cases e'
 | .lst _,.exn _ _,b,e,v,w,u,u',A,hv,hw,r,r',hu=>by have e':(none:Option Bool) = some b:=e;cases e'
 | .lst _,.obj _ _,b,e,v,w,u,u',A,hv,hw,r,r',hu=>by have e':(none:Option Bool) = some b:=e;cases e'
 | .lst _,.scr _,b,e,v,w,u,u',A,hv,hw,r,r',hu=>by have e':(none:Option Bool) = some b:=e;cases e'
 | .ty _,.non,b,e,v,w,u,u',A,hv,hw,r,r',hu=>by have e':(none:Option Bool) = some b:=e;cases e'
 | .ty _,.bl _,b,e,v,w,u,u',A,hv,hw,r,r',hu=>by have e':(none:Option Bool) = some b:=e;cases e'
 | .ty _,.int _,b,e,v,w,u,u',A,hv,hw,r,r',hu=>by have e':(none:Option Bool) = some b:=e;cases e'
 | .ty _,.str _,b,e,v,w,u,u',A,hv,hw,r,r',hu=>by have e':(none:Option Bool) = some b:=e;cases e'
 | .ty _,.tup _,b,e,v,w,u,u',A,hv,hw,r,r',hu=>by have e':(none:Option Bool) = some b:=e;cases e'
 | .ty _,.lst _,b,e,v,w,u,u',A,hv,hw,r,r',hu=>by have e':(none:Option Bool) = some b:=e;cases e'
 | .ty _,.ty _,b,e,v,w,u,u',A,hv,hw,r,r',hu=>by have e':(none:Option Bool) = some b:=e;cases e'
 | .ty _,.dic _,b,e,v,w,u,u',A,hv,hw,r,r',hu=>by have e':(none:Option Bool) = some b:=e;cases e'
 | .ty _,.dct _,b,e,v,w,u,u',A,hv,hw,r,r',hu=>by have e':(none:Option Bool) = some b:=e;cases e'
 | .ty _,.exn _ _,b,e,v,w,u,u',A,hv,hw,r,r',hu=>by have e':(none:Option Bool) = some b:=e;cases e'
 | .ty _,.obj _ _,b,e,v,w,u,u',A,hv,hw,r,r',hu=>by have e':(none:Option Bool) = some b:=e;cases e'
 | .ty _,.scr _,b,e,v,w,u,u',A,hv,hw,r,r',hu=>by have e':(none:Option Bool) = some b:=e;cases e'
 | .dic _,.non,b,e,v,w,u,u',A,hv,hw,r,r',hu=>by have e':(none:Option Bool) = some b:=e;cases e'
 | .dic _,.bl _,b,e,v,w,u,u',A,hv,hw,r,r',hu=>by have e':(none:Option Bool) = some b:=e;cases e'
 | .dic _,.int _,b,e,v,w,u,u',A,hv,hw,r,r',hu=>by have e':(none:Option Bool) = some b:=e;cases e'
 | .dic _,.str _,b,e,v,w,u,u',A,hv,hw,r,r',hu=>by have e':(none:Option Bool) = some b:=e;cases e'
 | .dic _,.tup _,b,e,v,w,u,u',A,hv,hw,r,r',hu=>by have e':(none:Option Bool) = some b:=e;cases e'
 | .dic _,.lst _,b,e,v,w,u,u',A,hv,hw,r,r',hu=>by have e':(none:Option Bool) = some b:=e;cases e'
 | .dic _,.ty _,b,e,v,w,u,u',A,hv,hw,r,r',hu=>by have e':(none:Option Bool) = some b:=e;cases e'
 | .dic _,.dic _,b,e,v,w,u,u',A,hv,hw,r,r',hu=>by have e':(none:Option Bool) = some b:=e;cases e'
 | .dic _,.dct _,b,e,v,w,u,u',A,hv,hw,r,r',hu=>by have e':(none:Option Bool) = some b:=e;cases e'
 | .dic _,.exn _ _,b,e,v,w,u,u',A,hv,hw,r,r',hu=>by have e':(none:Option Bool) = some b:=e;cases e'
 | .dic _,.obj _ _,b,e,v,w,u,u',A,hv,hw,r,r',hu=>by have e':(none:Option Bool) = some b:=e;cases e'
 | .dic _,.scr _,b,e,v,w,u,u',A,hv,hw,r,r',hu=>by have e':(none:Option Bool) = some b:=e;cases e'
 | .dct _,.non,b,e,v,w,u,u',A,hv,hw,r,r',hu=>by have e':(none:Option Bool) = some b:=e;cases e'
 | .dct _,.bl _,b,e,v,w,u,u',A,hv,hw,r,r',hu=>by have e':(none:Option Bool) = some b:=e;cases e'
 | .dct _,.int _,b,e,v,w,u,u',A,hv,hw,r,r',hu=>by have e':(none:Option Bool) = some b:=e;cases e'
 | .dct _,.str _,b,e,v,w,u,u',A,hv,hw,r,r',hu=>by have e':(none:Option Bool) = some b:=e;cases e'
 | .dct _,.tup _,b,e,v,w,u,u',A,hv,hw,r,r',hu=>by have e':(none:Option Bool) = some b:=e;cases e'
 | .dct _,.lst _,b,e,v,w,u,u',A,hv,hw,r,r',hu=>by have e':(none:Option Bool) = some b:=e;cases e'
 | .dct _,.ty _,b,e,v,w,u,u',A,hv,hw,r,r',hu=>by have e':(none:Option Bool) = some b:=e;cases e'
 | .dct _,.dic _,b,e,v,w,u,u',A,hv,hw,r,r',hu=>by have e':(none:Option Bool) = some b:=e;cases e'
 | .dct _,.dct _,b,e,v,w,u,u',A,hv,hw,r,r',hu=>by have e':(none:Option Bool) = some b:=e;cases e'
 | .dct _,.exn _ _,b,e,v,w,u,u',A,hv,hw,r,r',hu=>by have e':(none:Option Bool) = some b:=e;cases e'
 | .dct _,.obj _ _,b,e,v,w,u,u',A,hv,hw,r,r',hu=>by have e':(none:Option Bool) = some b:=e;cases e'
 | .dct _,.scr _,b,e,v,w,u,u',A,hv,hw,r,r',hu=>by have e':(none:Option Bool) = some b:=e;cases e'
 | .exn _ _,.non,b,e,v,w,u,u',A,hv,hw,r,r',hu=>by have e':(none:Option Bool) = some b:=e;cases e'
 | .exn _ _,.bl _,b,e,v,w,u,u',A,hv,hw,r,r',hu=>by have e':(none:Option Bool) = some b:=e;cases e'
 | .exn _ _,.int _,b,e,v,w,u,u',A,hv,hw,r,r',hu=>by have e':(none:Option Bool) = some b:=e;cases e'
 | .exn _ _,.str _,b,e,v,w,u,u',A,hv,hw,r,r',hu=>by have e':(none:Option Bool) = some b:=e;cases e'
 | .exn _ _,.tup _,b,e,v,w,u,u',A,hv,hw,r,r',hu=>by have e':(none:Option Bool) = some b:=e;cases e'
 | .exn _ _,.lst _,b,e,v,w,u,u',A,hv,hw,r,r',hu=>by have e':(none:Option Bool) = some b:=e;cases e'
 | .exn _ _,.ty _,b,e,v,w,u,u',A,hv,hw,r,r',hu=>by have e':(none:Option Bool) = some b:=e;cases e'
 | .exn _ _,.dic _,b,e,v,w,u,u',A,hv,hw,r,r',hu=>by have e':(none:Option Bool) = some b:=e;cases e'
 | .exn _ _,.dct _,b,e,v,w,u,u',A,hv,hw,r,r',hu=>by have e':(none:Option Bool) = some b:=e;cases e'
 | .exn _ _,.exn _ _,b,e,v,w,u,u',A,hv,hw,r,r',hu=>by have e':(none:Option Bool) = some b:=e;cases e'
 | .exn _ _,.obj _ _,b,e,v,w,u,u',A,hv,hw,r,r',hu=>by have e':(none:Option Bool) = some b:=e;cases e'
 | .exn _ _,.scr _,b,e,v,w,u,u',A,hv,hw,r,r',hu=>by have e':(none:Option Bool) = some b:=e;cases e'
 | .obj _ _,.non,b,e,v,w,u,u',A,hv,hw,r,r',hu=>by have e':(none:Option Bool) = some b:=e;cases e'
 | .obj _ _,.bl _,b,e,v,w,u,u',A,hv,hw,r,r',hu=>by have e':(none:Option Bool) = some b:=e;cases e'
 | .obj _ _,.int _,b,e,v,w,u,u',A,hv,hw,r,r',hu=>by have e':(none:Option Bool) = some b:=e;cases e'
 | .obj _ _,.str _,b,e,v,w,u,u',A,hv,hw,r,r',hu=>by have e':(none:Option Bool) = some b:=e;cases e'
 | .obj _ _,.tup _,b,e,v,w,u,u',A,hv,hw,r,r',hu=>by have e':(none:Option Bool) = some b:=e;cases e'
 | .obj _ _,.lst _,b,e,v,w,u,u',A,hv,hw,r,r',hu=>by have e':(none:Option Bool) = some b:=e;cases e'
 | .obj _ _,.ty _,b,e,v,w,u,u',A,hv,hw,r,r',hu=>by have e':(none:Option Bool) = some b:=e;cases e'
 | .obj _ _,.dic _,b,e,v,w,u,u',A,hv,hw,r,r',hu=>by have e':(none:Option Bool) = some b:=e;cases e'
 | .obj _ _,.dct _,b,e,v,w,u,u',A,hv,hw,r,r',hu=>by have e':(none:Option Bool) = some b:=e;cases e'
 | .obj _ _,.exn _ _,b,e,v,w,u,u',A,hv,hw,r,r',hu=>by have e':(none:Option Bool) = some b:=e;cases e'
 | .obj _ _,.obj _ _,b,e,v,w,u,u',A,hv,hw,r,r',hu=>by have e':(none:Option Bool) = some b:=e;cases e'
 | .obj _ _,.scr _,b,e,v,w,u,u',A,hv,hw,r,r',hu=>by have e':(none:Option Bool) = some b:=e;cases e'
 | .scr _,.non,b,e,v,w,u,u',A,hv,hw,r,r',hu=>by have e':(none:Option Bool) = some b:=e;cases e'
 | .scr _,.bl _,b,e,v,w,u,u',A,hv,hw,r,r',hu=>by have e':(none:Option Bool) = some b:=e;cases e'
 | .scr _,.int _,b,e,v,w,u,u',A,hv,hw,r,r',hu=>by have e':(none:Option Bool) = some b:=e;cases e'
 | .scr _,.str _,b,e,v,w,u,u',A,hv,hw,r,r',hu=>by have e':(none:Option Bool) = some b:=e;cases e'
 | .scr _,.tup _,b,e,v,w,u,u',A,hv,hw,r,r',hu=>by have e':(none:Option Bool) = some b:=e;cases e'
 | .scr _,.lst _,b,e,v,w,u,u',A,hv,hw,r,r',hu=>by have e':(none:Option Bool) = some b:=e;cases e'
 | .scr _,.ty _,b,e,v,w,u,u',A,hv,hw,r,r',hu=>by have e':(none:Option Bool) = some b:=e;cases e'
 | .scr _,.dic _,b,e,v,w,u,u',A,hv,hw,r,r',hu=>by have e':(none:Option Bool) = some b:=e;cases e'
 | .scr _,.dct _,b,e,v,w,u,u',A,hv,hw,r,r',hu=>by have e':(none:Option Bool) = some b:=e;cases e'
 | .scr _,.exn _ _,b,e,v,w,u,u',A,hv,hw,r,r',hu=>by have e':(none:Option Bool) = some b:=e;cases e'
 | .scr _,.obj _ _,b,e,v,w,u,u',A,hv,hw,r,r',hu=>by have e':(none:Option Bool) = some b:=e;cases e'
 | .scr _,.scr _,b,e,v,w,u,u',A,hv,hw,r,r',hu=>by have e':(none:Option Bool) = some b:=e;cases e'
 | .tup xs,.tup ys,b,e,v,w,u,u',A,hv,hw,r,r',hu=>by
  rw [eqD] at e
  obtain ⟨a,vs,rfl,h1,q1⟩:=rep_tup hv
  obtain ⟨a2,vs2,rfl,h2,q2⟩:=rep_tup hw
  cases r;cases r'
  obtain ⟨its,r1,⟨o,g,c,d⟩,_⟩:=tupI hk I h1
  obtain ⟨jts,r2,⟨o2,g2,c2,d2⟩,_⟩:=tupI hk I h2
  have l1:=r1.length
  have l2:=r2.length
  have m1:=q1.length
  have m2:=q2.length
  rw [dep] at hu
  have kk:=eqDs_all e
  have rc:=SeqAt.RcAt.tuples (A:=A) (s:=s) (e:=eqJ xs ys) (items:=its.toArray) (items2:=jts.toArray) ⟨o,g,c,d⟩ ⟨o2,g2,c2,d2⟩ (by omega) (fun j g1 g2'=>by
   have g1':j < its.length:=by simpa using g1
   have g2'':j < jts.length:=by simpa using g2'
   exact eqsAt hk I xs ys b e (A:=A.in1) q1 q2 r1 r2 (by show A.units + 1 + deps xs < cLine;omega) j (by simpa using g1') (by simpa using g2''))
  have:((List.range (min its.toArray.size jts.toArray.size)).all (eqJ xs ys) && its.toArray.size == jts.toArray.size) = b:=by
   rw [← kk]
   simp only [List.size_toArray]
   rw [← l1,← l2,m1,m2]
  rw [← this]
  exact rc
 | .lst xs,.lst ys,b,e,v,w,u,u',A,hv,hw,r,r',hu=>by
  rw [eqD] at e
  obtain ⟨a,vs,rfl,h1,q1⟩:=rep_lst hv
  obtain ⟨a2,vs2,rfl,h2,q2⟩:=rep_lst hw
  cases r;cases r'
  obtain ⟨its,r1,pl,_⟩:=lstI hk I h1
  obtain ⟨jts,r2,pl2,_⟩:=lstI hk I h2
  have l1:=r1.length
  have l2:=r2.length
  have m1:=q1.length
  have m2:=q2.length
  rw [dep] at hu
  have kk:=eqDs_all e
  by_cases hz:xs.length = ys.length
  ·have rc:=SeqAt.RcAt.lists (A:=A) (s:=s) (e:=eqJ xs ys) (items:=its.toArray) (items2:=jts.toArray) (plis pl) (plis pl2) (by simp only [List.size_toArray];omega) (by omega) (fun j g1 g2'=>by
    have g1':j < its.length:=by simpa using g1
    have g2'':j < jts.length:=by simpa using g2'
    exact eqsAt hk I xs ys b e (A:=A.in1) q1 q2 r1 r2 (by show A.units + 1 + deps xs < cLine;omega) j (by simpa using g1') (by simpa using g2''))
   have:(List.range its.toArray.size).all (eqJ xs ys) = b:=by
    rw [← kk]
    simp only [List.size_toArray]
    rw [← l1,m1,hz,Nat.min_self,beq_self_eq_true,Bool.and_true]
   rw [← this]
   exact rc
  ·have:=eqDs_len e hz
   subst this
   exact SeqAt.RcAt.lists_lengths (plis pl) (plis pl2) (by simp only [List.size_toArray,bne_iff_ne];omega) (by omega)
theorem rneAt (hk:k.fr = X.K) (I:Inv X pins σ H s):∀ (x y:D) (b:Bool),eqD x y = some b->∀ {v w:V} {u u':Value} {A:Around},Rep k H x v->Rep k H y w->RelV v u->RelV w u'->A.units + dep x < cLine->SeqAt.RcNeAt A s u u' (!b)
 | .non,.non,b,e,v,w,u,u',A,hv,hw,r,r',hu=>by rw [eqD] at e;cases e;cases rep_non hv;cases r;cases rep_non hw;cases r';exact SeqAt.RcNeAt.none_none
 | .non,.bl _,b,e,v,w,u,u',A,hv,hw,r,r',hu=>by rw [eqD] at e;cases e;cases rep_non hv;cases r;cases rep_bl hw;cases r';exact SeqAt.RcNeAt.none_bool _
 | .non,.int _,b,e,v,w,u,u',A,hv,hw,r,r',hu=>by rw [eqD] at e;cases e;cases rep_non hv;cases r;cases rep_int hw;obtain ⟨t2,rfl⟩:=r';exact SeqAt.RcNeAt.none_int _ _
 | .non,.str _,b,e,v,w,u,u',A,hv,hw,r,r',hu=>by rw [eqD] at e;cases e;cases rep_non hv;cases r;cases rep_str hw;obtain ⟨t2,rfl⟩:=r';exact SeqAt.RcNeAt.none_str _ _
 | .non,.tup _,b,e,v,w,u,u',A,hv,hw,r,r',hu=>by rw [eqD] at e;cases e;cases rep_non hv;cases r;obtain ⟨a2,vs2,rfl,h2,_⟩:=rep_tup hw;cases r';obtain ⟨its2,_,⟨o2,g2,c2,d2⟩,_⟩:=tupI hk I h2;exact SeqAt.RcNeAt.none_tuple ⟨o2,g2,c2,d2⟩ (by have hu1:=hu;omega)
 | .non,.lst _,b,e,v,w,u,u',A,hv,hw,r,r',hu=>by rw [eqD] at e;cases e;cases rep_non hv;cases r;obtain ⟨a2,vs2,rfl,h2,_⟩:=rep_lst hw;cases r';obtain ⟨its2,_,pl2,_⟩:=lstI hk I h2;exact SeqAt.RcNeAt.none_list (plis pl2) (by have hu1:=hu;omega)
 | .bl _,.non,b,e,v,w,u,u',A,hv,hw,r,r',hu=>by rw [eqD] at e;cases e;cases rep_bl hv;cases r;cases rep_non hw;cases r';exact SeqAt.RcNeAt.bool_none _
 | .bl _,.bl _,b,e,v,w,u,u',A,hv,hw,r,r',hu=>by rw [eqD] at e;cases e;cases rep_bl hv;cases r;cases rep_bl hw;cases r';exact SeqAt.RcNeAt.bool_bool _ _
 | .bl _,.int _,b,e,v,w,u,u',A,hv,hw,r,r',hu=>by rw [eqD] at e;cases e;cases rep_bl hv;cases r;cases rep_int hw;obtain ⟨t2,rfl⟩:=r';exact SeqAt.RcNeAt.bool_int _ _ _
 | .bl _,.str _,b,e,v,w,u,u',A,hv,hw,r,r',hu=>by rw [eqD] at e;cases e;cases rep_bl hv;cases r;cases rep_str hw;obtain ⟨t2,rfl⟩:=r';exact SeqAt.RcNeAt.bool_str _ _ _
 | .bl _,.tup _,b,e,v,w,u,u',A,hv,hw,r,r',hu=>by rw [eqD] at e;cases e;cases rep_bl hv;cases r;obtain ⟨a2,vs2,rfl,h2,_⟩:=rep_tup hw;cases r';obtain ⟨its2,_,⟨o2,g2,c2,d2⟩,_⟩:=tupI hk I h2;exact SeqAt.RcNeAt.bool_tuple _ ⟨o2,g2,c2,d2⟩ (by have hu1:=hu;omega)
 | .bl _,.lst _,b,e,v,w,u,u',A,hv,hw,r,r',hu=>by rw [eqD] at e;cases e;cases rep_bl hv;cases r;obtain ⟨a2,vs2,rfl,h2,_⟩:=rep_lst hw;cases r';obtain ⟨its2,_,pl2,_⟩:=lstI hk I h2;exact SeqAt.RcNeAt.bool_list _ (plis pl2) (by have hu1:=hu;omega)
 | .int _,.non,b,e,v,w,u,u',A,hv,hw,r,r',hu=>by rw [eqD] at e;cases e;cases rep_int hv;obtain ⟨t1,rfl⟩:=r;cases rep_non hw;cases r';exact SeqAt.RcNeAt.int_none _ _
 | .int _,.bl _,b,e,v,w,u,u',A,hv,hw,r,r',hu=>by rw [eqD] at e;cases e;cases rep_int hv;obtain ⟨t1,rfl⟩:=r;cases rep_bl hw;cases r';exact SeqAt.RcNeAt.int_bool _ _ _
 | .int _,.int _,b,e,v,w,u,u',A,hv,hw,r,r',hu=>by rw [eqD] at e;cases e;cases rep_int hv;obtain ⟨t1,rfl⟩:=r;cases rep_int hw;obtain ⟨t2,rfl⟩:=r';exact SeqAt.RcNeAt.int_int _ _ _ _
 | .int _,.str _,b,e,v,w,u,u',A,hv,hw,r,r',hu=>by rw [eqD] at e;cases e;cases rep_int hv;obtain ⟨t1,rfl⟩:=r;cases rep_str hw;obtain ⟨t2,rfl⟩:=r';exact SeqAt.RcNeAt.int_str _ _ _ _
 | .int _,.tup _,b,e,v,w,u,u',A,hv,hw,r,r',hu=>by rw [eqD] at e;cases e;cases rep_int hv;obtain ⟨t1,rfl⟩:=r;obtain ⟨a2,vs2,rfl,h2,_⟩:=rep_tup hw;cases r';obtain ⟨its2,_,⟨o2,g2,c2,d2⟩,_⟩:=tupI hk I h2;exact SeqAt.RcNeAt.int_tuple _ _ ⟨o2,g2,c2,d2⟩ (by have hu1:=hu;omega)
 | .int _,.lst _,b,e,v,w,u,u',A,hv,hw,r,r',hu=>by rw [eqD] at e;cases e;cases rep_int hv;obtain ⟨t1,rfl⟩:=r;obtain ⟨a2,vs2,rfl,h2,_⟩:=rep_lst hw;cases r';obtain ⟨its2,_,pl2,_⟩:=lstI hk I h2;exact SeqAt.RcNeAt.int_list _ _ (plis pl2) (by have hu1:=hu;omega)
 | .str _,.non,b,e,v,w,u,u',A,hv,hw,r,r',hu=>by rw [eqD] at e;cases e;cases rep_str hv;obtain ⟨t1,rfl⟩:=r;cases rep_non hw;cases r';exact SeqAt.RcNeAt.str_none _ _
 | .str _,.bl _,b,e,v,w,u,u',A,hv,hw,r,r',hu=>by rw [eqD] at e;cases e;cases rep_str hv;obtain ⟨t1,rfl⟩:=r;cases rep_bl hw;cases r';exact SeqAt.RcNeAt.str_bool _ _ _
 | .str _,.int _,b,e,v,w,u,u',A,hv,hw,r,r',hu=>by rw [eqD] at e;cases e;cases rep_str hv;obtain ⟨t1,rfl⟩:=r;cases rep_int hw;obtain ⟨t2,rfl⟩:=r';exact SeqAt.RcNeAt.str_int _ _ _ _
 | .str _,.str _,b,e,v,w,u,u',A,hv,hw,r,r',hu=>by rw [eqD] at e;cases e;cases rep_str hv;obtain ⟨t1,rfl⟩:=r;cases rep_str hw;obtain ⟨t2,rfl⟩:=r';exact SeqAt.RcNeAt.str_str _ _ _ _
 | .str _,.tup _,b,e,v,w,u,u',A,hv,hw,r,r',hu=>by rw [eqD] at e;cases e;cases rep_str hv;obtain ⟨t1,rfl⟩:=r;obtain ⟨a2,vs2,rfl,h2,_⟩:=rep_tup hw;cases r';obtain ⟨its2,_,⟨o2,g2,c2,d2⟩,_⟩:=tupI hk I h2;exact SeqAt.RcNeAt.str_tuple _ _ ⟨o2,g2,c2,d2⟩ (by have hu1:=hu;omega)
 | .str _,.lst _,b,e,v,w,u,u',A,hv,hw,r,r',hu=>by rw [eqD] at e;cases e;cases rep_str hv;obtain ⟨t1,rfl⟩:=r;obtain ⟨a2,vs2,rfl,h2,_⟩:=rep_lst hw;cases r';obtain ⟨its2,_,pl2,_⟩:=lstI hk I h2;exact SeqAt.RcNeAt.str_list _ _ (plis pl2) (by have hu1:=hu;omega)
 | .tup _,.non,b,e,v,w,u,u',A,hv,hw,r,r',hu=>by rw [eqD] at e;cases e;obtain ⟨a1,vs1,rfl,h1,_⟩:=rep_tup hv;cases r;obtain ⟨its1,_,⟨o1,g1,c1,d1⟩,_⟩:=tupI hk I h1;cases rep_non hw;cases r';exact SeqAt.RcNeAt.tuple_none ⟨o1,g1,c1,d1⟩ (by have hu1:=hu;omega)
 | .tup _,.bl _,b,e,v,w,u,u',A,hv,hw,r,r',hu=>by rw [eqD] at e;cases e;obtain ⟨a1,vs1,rfl,h1,_⟩:=rep_tup hv;cases r;obtain ⟨its1,_,⟨o1,g1,c1,d1⟩,_⟩:=tupI hk I h1;cases rep_bl hw;cases r';exact SeqAt.RcNeAt.tuple_bool _ ⟨o1,g1,c1,d1⟩ (by have hu1:=hu;omega)
 | .tup _,.int _,b,e,v,w,u,u',A,hv,hw,r,r',hu=>by rw [eqD] at e;cases e;obtain ⟨a1,vs1,rfl,h1,_⟩:=rep_tup hv;cases r;obtain ⟨its1,_,⟨o1,g1,c1,d1⟩,_⟩:=tupI hk I h1;cases rep_int hw;obtain ⟨t2,rfl⟩:=r';exact SeqAt.RcNeAt.tuple_int _ _ ⟨o1,g1,c1,d1⟩ (by have hu1:=hu;omega)
 | .tup _,.str _,b,e,v,w,u,u',A,hv,hw,r,r',hu=>by rw [eqD] at e;cases e;obtain ⟨a1,vs1,rfl,h1,_⟩:=rep_tup hv;cases r;obtain ⟨its1,_,⟨o1,g1,c1,d1⟩,_⟩:=tupI hk I h1;cases rep_str hw;obtain ⟨t2,rfl⟩:=r';exact SeqAt.RcNeAt.tuple_str _ _ ⟨o1,g1,c1,d1⟩ (by have hu1:=hu;omega)
 | .tup _,.lst _,b,e,v,w,u,u',A,hv,hw,r,r',hu=>by rw [eqD] at e;cases e;obtain ⟨a1,vs1,rfl,h1,_⟩:=rep_tup hv;cases r;obtain ⟨its1,_,⟨o1,g1,c1,d1⟩,_⟩:=tupI hk I h1;obtain ⟨a2,vs2,rfl,h2,_⟩:=rep_lst hw;cases r';obtain ⟨its2,_,pl2,_⟩:=lstI hk I h2;exact SeqAt.RcNeAt.tuple_list ⟨o1,g1,c1,d1⟩ (plis pl2) (by have hu1:=hu;omega)
 | .lst _,.non,b,e,v,w,u,u',A,hv,hw,r,r',hu=>by rw [eqD] at e;cases e;obtain ⟨a1,vs1,rfl,h1,_⟩:=rep_lst hv;cases r;obtain ⟨its1,_,pl1,_⟩:=lstI hk I h1;cases rep_non hw;cases r';exact SeqAt.RcNeAt.list_none (plis pl1) (by have hu1:=hu;omega)
 | .lst _,.bl _,b,e,v,w,u,u',A,hv,hw,r,r',hu=>by rw [eqD] at e;cases e;obtain ⟨a1,vs1,rfl,h1,_⟩:=rep_lst hv;cases r;obtain ⟨its1,_,pl1,_⟩:=lstI hk I h1;cases rep_bl hw;cases r';exact SeqAt.RcNeAt.list_bool _ (plis pl1) (by have hu1:=hu;omega)
 | .lst _,.int _,b,e,v,w,u,u',A,hv,hw,r,r',hu=>by rw [eqD] at e;cases e;obtain ⟨a1,vs1,rfl,h1,_⟩:=rep_lst hv;cases r;obtain ⟨its1,_,pl1,_⟩:=lstI hk I h1;cases rep_int hw;obtain ⟨t2,rfl⟩:=r';exact SeqAt.RcNeAt.list_int _ _ (plis pl1) (by have hu1:=hu;omega)
 | .lst _,.str _,b,e,v,w,u,u',A,hv,hw,r,r',hu=>by rw [eqD] at e;cases e;obtain ⟨a1,vs1,rfl,h1,_⟩:=rep_lst hv;cases r;obtain ⟨its1,_,pl1,_⟩:=lstI hk I h1;cases rep_str hw;obtain ⟨t2,rfl⟩:=r';exact SeqAt.RcNeAt.list_str _ _ (plis pl1) (by have hu1:=hu;omega)
 | .lst _,.tup _,b,e,v,w,u,u',A,hv,hw,r,r',hu=>by rw [eqD] at e;cases e;obtain ⟨a1,vs1,rfl,h1,_⟩:=rep_lst hv;cases r;obtain ⟨its1,_,pl1,_⟩:=lstI hk I h1;obtain ⟨a2,vs2,rfl,h2,_⟩:=rep_tup hw;cases r';obtain ⟨its2,_,⟨o2,g2,c2,d2⟩,_⟩:=tupI hk I h2;exact SeqAt.RcNeAt.list_tuple (plis pl1) ⟨o2,g2,c2,d2⟩ (by have hu1:=hu;omega)
 | .non,.ty _,b,e,v,w,u,u',A,hv,hw,r,r',hu=>by have e':(none:Option Bool) = some b:=e;cases e'
 | .non,.dic _,b,e,v,w,u,u',A,hv,hw,r,r',hu=>by have e':(none:Option Bool) = some b:=e;cases e'
 | .non,.dct _,b,e,v,w,u,u',A,hv,hw,r,r',hu=>by have e':(none:Option Bool) = some b:=e;cases e'
 | .non,.exn _ _,b,e,v,w,u,u',A,hv,hw,r,r',hu=>by have e':(none:Option Bool) = some b:=e;cases e'
 | .non,.obj _ _,b,e,v,w,u,u',A,hv,hw,r,r',hu=>by have e':(none:Option Bool) = some b:=e;cases e'
 | .non,.scr _,b,e,v,w,u,u',A,hv,hw,r,r',hu=>by have e':(none:Option Bool) = some b:=e;cases e'
 | .bl _,.ty _,b,e,v,w,u,u',A,hv,hw,r,r',hu=>by have e':(none:Option Bool) = some b:=e;cases e'
 | .bl _,.dic _,b,e,v,w,u,u',A,hv,hw,r,r',hu=>by have e':(none:Option Bool) = some b:=e;cases e'
 | .bl _,.dct _,b,e,v,w,u,u',A,hv,hw,r,r',hu=>by have e':(none:Option Bool) = some b:=e;cases e'
 | .bl _,.exn _ _,b,e,v,w,u,u',A,hv,hw,r,r',hu=>by have e':(none:Option Bool) = some b:=e;cases e'
 | .bl _,.obj _ _,b,e,v,w,u,u',A,hv,hw,r,r',hu=>by have e':(none:Option Bool) = some b:=e;cases e'
 | .bl _,.scr _,b,e,v,w,u,u',A,hv,hw,r,r',hu=>by have e':(none:Option Bool) = some b:=e;cases e'
 | .int _,.ty _,b,e,v,w,u,u',A,hv,hw,r,r',hu=>by have e':(none:Option Bool) = some b:=e;cases e'
 | .int _,.dic _,b,e,v,w,u,u',A,hv,hw,r,r',hu=>by have e':(none:Option Bool) = some b:=e;cases e'
 | .int _,.dct _,b,e,v,w,u,u',A,hv,hw,r,r',hu=>by have e':(none:Option Bool) = some b:=e;cases e'
 | .int _,.exn _ _,b,e,v,w,u,u',A,hv,hw,r,r',hu=>by have e':(none:Option Bool) = some b:=e;cases e'
 | .int _,.obj _ _,b,e,v,w,u,u',A,hv,hw,r,r',hu=>by have e':(none:Option Bool) = some b:=e;cases e'
 | .int _,.scr _,b,e,v,w,u,u',A,hv,hw,r,r',hu=>by have e':(none:Option Bool) = some b:=e;cases e'
 | .str _,.ty _,b,e,v,w,u,u',A,hv,hw,r,r',hu=>by have e':(none:Option Bool) = some b:=e;cases e'
 | .str _,.dic _,b,e,v,w,u,u',A,hv,hw,r,r',hu=>by have e':(none:Option Bool) = some b:=e;cases e'
 | .str _,.dct _,b,e,v,w,u,u',A,hv,hw,r,r',hu=>by have e':(none:Option Bool) = some b:=e;cases e'
 | .str _,.exn _ _,b,e,v,w,u,u',A,hv,hw,r,r',hu=>by have e':(none:Option Bool) = some b:=e;cases e'
 | .str _,.obj _ _,b,e,v,w,u,u',A,hv,hw,r,r',hu=>by have e':(none:Option Bool) = some b:=e;cases e'
 | .str _,.scr _,b,e,v,w,u,u',A,hv,hw,r,r',hu=>by have e':(none:Option Bool) = some b:=e;cases e'
 | .tup _,.ty _,b,e,v,w,u,u',A,hv,hw,r,r',hu=>by have e':(none:Option Bool) = some b:=e;cases e'
 | .tup _,.dic _,b,e,v,w,u,u',A,hv,hw,r,r',hu=>by have e':(none:Option Bool) = some b:=e;cases e'
 | .tup _,.dct _,b,e,v,w,u,u',A,hv,hw,r,r',hu=>by have e':(none:Option Bool) = some b:=e;cases e'
 | .tup _,.exn _ _,b,e,v,w,u,u',A,hv,hw,r,r',hu=>by have e':(none:Option Bool) = some b:=e;cases e'
 | .tup _,.obj _ _,b,e,v,w,u,u',A,hv,hw,r,r',hu=>by have e':(none:Option Bool) = some b:=e;cases e'
 | .tup _,.scr _,b,e,v,w,u,u',A,hv,hw,r,r',hu=>by have e':(none:Option Bool) = some b:=e;cases e'
 | .lst _,.ty _,b,e,v,w,u,u',A,hv,hw,r,r',hu=>by have e':(none:Option Bool) = some b:=e;cases e'
 | .lst _,.dic _,b,e,v,w,u,u',A,hv,hw,r,r',hu=>by have e':(none:Option Bool) = some b:=e;cases e'
 | .lst _,.dct _,b,e,v,w,u,u',A,hv,hw,r,r',hu=>by have e':(none:Option Bool) = some b:=e;cases e'
 | .lst _,.exn _ _,b,e,v,w,u,u',A,hv,hw,r,r',hu=>by have e':(none:Option Bool) = some b:=e;cases e'
 | .lst _,.obj _ _,b,e,v,w,u,u',A,hv,hw,r,r',hu=>by have e':(none:Option Bool) = some b:=e;cases e'
 | .lst _,.scr _,b,e,v,w,u,u',A,hv,hw,r,r',hu=>by have e':(none:Option Bool) = some b:=e;cases e'
 | .ty _,.non,b,e,v,w,u,u',A,hv,hw,r,r',hu=>by have e':(none:Option Bool) = some b:=e;cases e'
 | .ty _,.bl _,b,e,v,w,u,u',A,hv,hw,r,r',hu=>by have e':(none:Option Bool) = some b:=e;cases e'
 | .ty _,.int _,b,e,v,w,u,u',A,hv,hw,r,r',hu=>by have e':(none:Option Bool) = some b:=e;cases e'
 | .ty _,.str _,b,e,v,w,u,u',A,hv,hw,r,r',hu=>by have e':(none:Option Bool) = some b:=e;cases e'
 | .ty _,.tup _,b,e,v,w,u,u',A,hv,hw,r,r',hu=>by have e':(none:Option Bool) = some b:=e;cases e'
 | .ty _,.lst _,b,e,v,w,u,u',A,hv,hw,r,r',hu=>by have e':(none:Option Bool) = some b:=e;cases e'
 | .ty _,.ty _,b,e,v,w,u,u',A,hv,hw,r,r',hu=>by have e':(none:Option Bool) = some b:=e;cases e'
 | .ty _,.dic _,b,e,v,w,u,u',A,hv,hw,r,r',hu=>by have e':(none:Option Bool) = some b:=e;cases e'
 | .ty _,.dct _,b,e,v,w,u,u',A,hv,hw,r,r',hu=>by have e':(none:Option Bool) = some b:=e;cases e'
 | .ty _,.exn _ _,b,e,v,w,u,u',A,hv,hw,r,r',hu=>by have e':(none:Option Bool) = some b:=e;cases e'
 | .ty _,.obj _ _,b,e,v,w,u,u',A,hv,hw,r,r',hu=>by have e':(none:Option Bool) = some b:=e;cases e'
 | .ty _,.scr _,b,e,v,w,u,u',A,hv,hw,r,r',hu=>by have e':(none:Option Bool) = some b:=e;cases e'
 | .dic _,.non,b,e,v,w,u,u',A,hv,hw,r,r',hu=>by have e':(none:Option Bool) = some b:=e;cases e'
 | .dic _,.bl _,b,e,v,w,u,u',A,hv,hw,r,r',hu=>by have e':(none:Option Bool) = some b:=e;cases e'
 | .dic _,.int _,b,e,v,w,u,u',A,hv,hw,r,r',hu=>by have e':(none:Option Bool) = some b:=e;cases e'
 | .dic _,.str _,b,e,v,w,u,u',A,hv,hw,r,r',hu=>by have e':(none:Option Bool) = some b:=e;cases e'
 | .dic _,.tup _,b,e,v,w,u,u',A,hv,hw,r,r',hu=>by have e':(none:Option Bool) = some b:=e;cases e'
 | .dic _,.lst _,b,e,v,w,u,u',A,hv,hw,r,r',hu=>by have e':(none:Option Bool) = some b:=e;cases e'
 | .dic _,.ty _,b,e,v,w,u,u',A,hv,hw,r,r',hu=>by have e':(none:Option Bool) = some b:=e;cases e'
 | .dic _,.dic _,b,e,v,w,u,u',A,hv,hw,r,r',hu=>by have e':(none:Option Bool) = some b:=e;cases e'
 | .dic _,.dct _,b,e,v,w,u,u',A,hv,hw,r,r',hu=>by have e':(none:Option Bool) = some b:=e;cases e'
 | .dic _,.exn _ _,b,e,v,w,u,u',A,hv,hw,r,r',hu=>by have e':(none:Option Bool) = some b:=e;cases e'
 | .dic _,.obj _ _,b,e,v,w,u,u',A,hv,hw,r,r',hu=>by have e':(none:Option Bool) = some b:=e;cases e'
 | .dic _,.scr _,b,e,v,w,u,u',A,hv,hw,r,r',hu=>by have e':(none:Option Bool) = some b:=e;cases e'
 | .dct _,.non,b,e,v,w,u,u',A,hv,hw,r,r',hu=>by have e':(none:Option Bool) = some b:=e;cases e'
 | .dct _,.bl _,b,e,v,w,u,u',A,hv,hw,r,r',hu=>by have e':(none:Option Bool) = some b:=e;cases e'
 | .dct _,.int _,b,e,v,w,u,u',A,hv,hw,r,r',hu=>by have e':(none:Option Bool) = some b:=e;cases e'
 | .dct _,.str _,b,e,v,w,u,u',A,hv,hw,r,r',hu=>by have e':(none:Option Bool) = some b:=e;cases e'
 | .dct _,.tup _,b,e,v,w,u,u',A,hv,hw,r,r',hu=>by have e':(none:Option Bool) = some b:=e;cases e'
 | .dct _,.lst _,b,e,v,w,u,u',A,hv,hw,r,r',hu=>by have e':(none:Option Bool) = some b:=e;cases e'
 | .dct _,.ty _,b,e,v,w,u,u',A,hv,hw,r,r',hu=>by have e':(none:Option Bool) = some b:=e;cases e'
 | .dct _,.dic _,b,e,v,w,u,u',A,hv,hw,r,r',hu=>by have e':(none:Option Bool) = some b:=e;cases e'
 | .dct _,.dct _,b,e,v,w,u,u',A,hv,hw,r,r',hu=>by have e':(none:Option Bool) = some b:=e;cases e'
 | .dct _,.exn _ _,b,e,v,w,u,u',A,hv,hw,r,r',hu=>by have e':(none:Option Bool) = some b:=e;cases e'
 | .dct _,.obj _ _,b,e,v,w,u,u',A,hv,hw,r,r',hu=>by have e':(none:Option Bool) = some b:=e;cases e'
 | .dct _,.scr _,b,e,v,w,u,u',A,hv,hw,r,r',hu=>by have e':(none:Option Bool) = some b:=e;cases e'
 | .exn _ _,.non,b,e,v,w,u,u',A,hv,hw,r,r',hu=>by have e':(none:Option Bool) = some b:=e;cases e'
 | .exn _ _,.bl _,b,e,v,w,u,u',A,hv,hw,r,r',hu=>by have e':(none:Option Bool) = some b:=e;cases e'
 | .exn _ _,.int _,b,e,v,w,u,u',A,hv,hw,r,r',hu=>by have e':(none:Option Bool) = some b:=e;cases e'
 | .exn _ _,.str _,b,e,v,w,u,u',A,hv,hw,r,r',hu=>by have e':(none:Option Bool) = some b:=e;cases e'
 | .exn _ _,.tup _,b,e,v,w,u,u',A,hv,hw,r,r',hu=>by have e':(none:Option Bool) = some b:=e;cases e'
 | .exn _ _,.lst _,b,e,v,w,u,u',A,hv,hw,r,r',hu=>by have e':(none:Option Bool) = some b:=e;cases e'
 | .exn _ _,.ty _,b,e,v,w,u,u',A,hv,hw,r,r',hu=>by have e':(none:Option Bool) = some b:=e;cases e'
 | .exn _ _,.dic _,b,e,v,w,u,u',A,hv,hw,r,r',hu=>by have e':(none:Option Bool) = some b:=e;cases e'
 | .exn _ _,.dct _,b,e,v,w,u,u',A,hv,hw,r,r',hu=>by have e':(none:Option Bool) = some b:=e;cases e'
 | .exn _ _,.exn _ _,b,e,v,w,u,u',A,hv,hw,r,r',hu=>by have e':(none:Option Bool) = some b:=e;cases e'
 | .exn _ _,.obj _ _,b,e,v,w,u,u',A,hv,hw,r,r',hu=>by have e':(none:Option Bool) = some b:=e;cases e'
 | .exn _ _,.scr _,b,e,v,w,u,u',A,hv,hw,r,r',hu=>by have e':(none:Option Bool) = some b:=e;cases e'
 | .obj _ _,.non,b,e,v,w,u,u',A,hv,hw,r,r',hu=>by have e':(none:Option Bool) = some b:=e;cases e'
 | .obj _ _,.bl _,b,e,v,w,u,u',A,hv,hw,r,r',hu=>by have e':(none:Option Bool) = some b:=e;cases e'
 | .obj _ _,.int _,b,e,v,w,u,u',A,hv,hw,r,r',hu=>by have e':(none:Option Bool) = some b:=e;cases e'
 | .obj _ _,.str _,b,e,v,w,u,u',A,hv,hw,r,r',hu=>by have e':(none:Option Bool) = some b:=e;cases e'
 | .obj _ _,.tup _,b,e,v,w,u,u',A,hv,hw,r,r',hu=>by have e':(none:Option Bool) = some b:=e;cases e'
 | .obj _ _,.lst _,b,e,v,w,u,u',A,hv,hw,r,r',hu=>by have e':(none:Option Bool) = some b:=e;cases e'
 | .obj _ _,.ty _,b,e,v,w,u,u',A,hv,hw,r,r',hu=>by have e':(none:Option Bool) = some b:=e;cases e'
 | .obj _ _,.dic _,b,e,v,w,u,u',A,hv,hw,r,r',hu=>by have e':(none:Option Bool) = some b:=e;cases e'
 | .obj _ _,.dct _,b,e,v,w,u,u',A,hv,hw,r,r',hu=>by have e':(none:Option Bool) = some b:=e;cases e'
 | .obj _ _,.exn _ _,b,e,v,w,u,u',A,hv,hw,r,r',hu=>by have e':(none:Option Bool) = some b:=e;cases e'
 | .obj _ _,.obj _ _,b,e,v,w,u,u',A,hv,hw,r,r',hu=>by have e':(none:Option Bool) = some b:=e;cases e'
 | .obj _ _,.scr _,b,e,v,w,u,u',A,hv,hw,r,r',hu=>by have e':(none:Option Bool) = some b:=e;cases e'
 | .scr _,.non,b,e,v,w,u,u',A,hv,hw,r,r',hu=>by have e':(none:Option Bool) = some b:=e;cases e'
 | .scr _,.bl _,b,e,v,w,u,u',A,hv,hw,r,r',hu=>by have e':(none:Option Bool) = some b:=e;cases e'
 | .scr _,.int _,b,e,v,w,u,u',A,hv,hw,r,r',hu=>by have e':(none:Option Bool) = some b:=e;cases e'
 | .scr _,.str _,b,e,v,w,u,u',A,hv,hw,r,r',hu=>by have e':(none:Option Bool) = some b:=e;cases e'
 | .scr _,.tup _,b,e,v,w,u,u',A,hv,hw,r,r',hu=>by have e':(none:Option Bool) = some b:=e;cases e'
 | .scr _,.lst _,b,e,v,w,u,u',A,hv,hw,r,r',hu=>by have e':(none:Option Bool) = some b:=e;cases e'
 | .scr _,.ty _,b,e,v,w,u,u',A,hv,hw,r,r',hu=>by have e':(none:Option Bool) = some b:=e;cases e'
 | .scr _,.dic _,b,e,v,w,u,u',A,hv,hw,r,r',hu=>by have e':(none:Option Bool) = some b:=e;cases e'
 | .scr _,.dct _,b,e,v,w,u,u',A,hv,hw,r,r',hu=>by have e':(none:Option Bool) = some b:=e;cases e'
 | .scr _,.exn _ _,b,e,v,w,u,u',A,hv,hw,r,r',hu=>by have e':(none:Option Bool) = some b:=e;cases e'
 | .scr _,.obj _ _,b,e,v,w,u,u',A,hv,hw,r,r',hu=>by have e':(none:Option Bool) = some b:=e;cases e'
 | .scr _,.scr _,b,e,v,w,u,u',A,hv,hw,r,r',hu=>by have e':(none:Option Bool) = some b:=e;cases e'
 | .tup xs,.tup ys,b,e,v,w,u,u',A,hv,hw,r,r',hu=>by
  rw [eqD] at e
  obtain ⟨a,vs,rfl,h1,q1⟩:=rep_tup hv
  obtain ⟨a2,vs2,rfl,h2,q2⟩:=rep_tup hw
  cases r;cases r'
  obtain ⟨its,r1,⟨o,g,c,d⟩,_⟩:=tupI hk I h1
  obtain ⟨jts,r2,⟨o2,g2,c2,d2⟩,_⟩:=tupI hk I h2
  have l1:=r1.length
  have l2:=r2.length
  have m1:=q1.length
  have m2:=q2.length
  rw [dep] at hu
  have kk:=eqDs_all e
  have rc:=SeqAt.RcNeAt.tuples (A:=A) (s:=s) (e:=eqJ xs ys) (items:=its.toArray) (items2:=jts.toArray) ⟨o,g,c,d⟩ ⟨o2,g2,c2,d2⟩ (by omega) (fun j g1 g2'=>by
   have g1':j < its.length:=by simpa using g1
   have g2'':j < jts.length:=by simpa using g2'
   exact eqsAt hk I xs ys b e (A:=A.in1) q1 q2 r1 r2 (by show A.units + 1 + deps xs < cLine;omega) j (by simpa using g1') (by simpa using g2''))
  have:((List.range (min its.toArray.size jts.toArray.size)).all (eqJ xs ys) && its.toArray.size == jts.toArray.size) = b:=by
   rw [← kk]
   simp only [List.size_toArray]
   rw [← l1,← l2,m1,m2]
  rw [← this]
  exact rc
 | .lst xs,.lst ys,b,e,v,w,u,u',A,hv,hw,r,r',hu=>by
  rw [eqD] at e
  obtain ⟨a,vs,rfl,h1,q1⟩:=rep_lst hv
  obtain ⟨a2,vs2,rfl,h2,q2⟩:=rep_lst hw
  cases r;cases r'
  obtain ⟨its,r1,pl,_⟩:=lstI hk I h1
  obtain ⟨jts,r2,pl2,_⟩:=lstI hk I h2
  have l1:=r1.length
  have l2:=r2.length
  have m1:=q1.length
  have m2:=q2.length
  rw [dep] at hu
  have kk:=eqDs_all e
  by_cases hz:xs.length = ys.length
  ·have rc:=SeqAt.RcNeAt.lists (A:=A) (s:=s) (e:=eqJ xs ys) (items:=its.toArray) (items2:=jts.toArray) (plis pl) (plis pl2) (by simp only [List.size_toArray];omega) (by omega) (fun j g1 g2'=>by
    have g1':j < its.length:=by simpa using g1
    have g2'':j < jts.length:=by simpa using g2'
    exact eqsAt hk I xs ys b e (A:=A.in1) q1 q2 r1 r2 (by show A.units + 1 + deps xs < cLine;omega) j (by simpa using g1') (by simpa using g2''))
   have:(List.range its.toArray.size).all (eqJ xs ys) = b:=by
    rw [← kk]
    simp only [List.size_toArray]
    rw [← l1,m1,hz,Nat.min_self,beq_self_eq_true,Bool.and_true]
   rw [← this]
   exact rc
  ·have:=eqDs_len e hz
   subst this
   exact SeqAt.RcNeAt.lists_lengths (plis pl) (plis pl2) (by simp only [List.size_toArray,bne_iff_ne];omega) (by omega)
def cmpEq (x y:D):Res D:=match eqD x y with
 | some b=>if dep x < 60 then .val (.bl b) else .bad
 | none=>.bad
def cmpNe (x y:D):Res D:=match eqD x y with
 | some b=>if dep x < 60 then .val (.bl (!b)) else .bad
 | none=>.bad
end
section
variable {X:Cx}
theorem op_eqDD {k:Kx} (hk:k.fr = X.K) (hu:X.A.units + 64 < cLine):OpR X (compareOp .Eq) (fun x y H Q=>∃ d d' b,Rep k H d x/\Rep k H d' y/\eqD d d' = some b/\dep d < 60/\Q (.bl b) H):=by
 intro pins s σ H x y v u Q I rx ry h
 obtain ⟨d,d',b,h1,h2,e,hd,q⟩:=h
 exact rcAt hk I d d' b e h1 h2 rx ry (by omega) X.prog X.w X.xe _ ⟨.bl b,H,I,rfl,q⟩
theorem op_neDD {k:Kx} (hk:k.fr = X.K) (hu:X.A.units + 64 < cLine):OpR X (compareOp .NotEq) (fun x y H Q=>∃ d d' b,Rep k H d x/\Rep k H d' y/\eqD d d' = some b/\dep d < 60/\Q (.bl (!b)) H):=by
 intro pins s σ H x y v u Q I rx ry h
 obtain ⟨d,d',b,h1,h2,e,hd,q⟩:=h
 exact rneAt hk I d d' b e h1 h2 rx ry (by omega) X.prog X.w X.xe _ ⟨.bl (!b),H,I,rfl,q⟩
mutual
def cmpb:D->Bool
 | .non=>true
 | .bl _=>true
 | .int _=>true
 | .str _=>true
 | .tup xs=>cmpbs xs
 | .lst xs=>cmpbs xs
 | _=>false
def cmpbs:List D->Bool
 | []=>true
 | x :: xs=>cmpb x && cmpbs xs
end
def eqC (y x:D):Option Bool:=if cmpb y = true then eqD y x else none
def inDs (x:D):List D->Option Bool
 | []=>some false
 | y :: ys=>match eqC y x,inDs x ys with
  | some a,some b=>some (a || b)
  | _,_=>none
end
end DL
namespace DL
open PySem L2
section
variable {X:Cx} {pins:List (Addr × Obj)} {σ:L2.St} {H:Hp} {s:Shared} {k:Kx}
theorem rep_ty {K:Kx} {n:String} {v:V} (h:Rep K H (.ty n) v):v = .ty n:=h
theorem repk_nil {K:Kx} {vs:List (Key × V)}:RepK K H [] vs ↔ vs = []:=by unfold RepK;exact Iff.rfl
theorem repk_cons {K:Kx} {k:Key} {d:D} {ds:List (Key × D)} {vs:List (Key × V)}:RepK K H ((k,d) :: ds) vs ↔ ∃ v r,vs = (k,v) :: r/\Rep K H d v/\RepK K H ds r:=by rw [RepK]
mutual
theorem Rep.inj (hk:k.fr = X.K) (I:Inv X pins σ H s):∀ (x y:D) {v:V},cmpb x = true->cmpb y = true->Rep k H x v->Rep k H y v->x = y
 | .non,.non,v,b1,b2,h1,h2=>rfl
 | .non,.bl _,v,b1,b2,h1,h2=>by have zh1:=rep_non h1;have zh2:=rep_bl h2;rw [zh1] at zh2;cases zh2
 | .non,.int _,v,b1,b2,h1,h2=>by have zh1:=rep_non h1;have zh2:=rep_int h2;rw [zh1] at zh2;cases zh2
 | .non,.str _,v,b1,b2,h1,h2=>by have zh1:=rep_non h1;have zh2:=rep_str h2;rw [zh1] at zh2;cases zh2
 | .non,.tup _,v,b1,b2,h1,h2=>by have zh1:=rep_non h1;obtain ⟨ah2,vsh2,zh2,gh2,_⟩:=rep_tup h2;rw [zh1] at zh2;cases zh2
 | .non,.lst _,v,b1,b2,h1,h2=>by have zh1:=rep_non h1;obtain ⟨ah2,vsh2,zh2,gh2,_⟩:=rep_lst h2;rw [zh1] at zh2;cases zh2
 | .bl _,.non,v,b1,b2,h1,h2=>by have zh1:=rep_bl h1;have zh2:=rep_non h2;rw [zh1] at zh2;cases zh2
 | .bl _,.bl _,v,b1,b2,h1,h2=>by have zh1:=rep_bl h1;have zh2:=rep_bl h2;rw [zh1] at zh2;cases zh2;rfl
 | .bl _,.int _,v,b1,b2,h1,h2=>by have zh1:=rep_bl h1;have zh2:=rep_int h2;rw [zh1] at zh2;cases zh2
 | .bl _,.str _,v,b1,b2,h1,h2=>by have zh1:=rep_bl h1;have zh2:=rep_str h2;rw [zh1] at zh2;cases zh2
 | .bl _,.tup _,v,b1,b2,h1,h2=>by have zh1:=rep_bl h1;obtain ⟨ah2,vsh2,zh2,gh2,_⟩:=rep_tup h2;rw [zh1] at zh2;cases zh2
 | .bl _,.lst _,v,b1,b2,h1,h2=>by have zh1:=rep_bl h1;obtain ⟨ah2,vsh2,zh2,gh2,_⟩:=rep_lst h2;rw [zh1] at zh2;cases zh2
 | .int _,.non,v,b1,b2,h1,h2=>by have zh1:=rep_int h1;have zh2:=rep_non h2;rw [zh1] at zh2;cases zh2
 | .int _,.bl _,v,b1,b2,h1,h2=>by have zh1:=rep_int h1;have zh2:=rep_bl h2;rw [zh1] at zh2;cases zh2
 | .int _,.int _,v,b1,b2,h1,h2=>by have zh1:=rep_int h1;have zh2:=rep_int h2;rw [zh1] at zh2;cases zh2;rfl
 | .int _,.str _,v,b1,b2,h1,h2=>by have zh1:=rep_int h1;have zh2:=rep_str h2;rw [zh1] at zh2;cases zh2
 | .int _,.tup _,v,b1,b2,h1,h2=>by have zh1:=rep_int h1;obtain ⟨ah2,vsh2,zh2,gh2,_⟩:=rep_tup h2;rw [zh1] at zh2;cases zh2
 | .int _,.lst _,v,b1,b2,h1,h2=>by have zh1:=rep_int h1;obtain ⟨ah2,vsh2,zh2,gh2,_⟩:=rep_lst h2;rw [zh1] at zh2;cases zh2
 | .str _,.non,v,b1,b2,h1,h2=>by have zh1:=rep_str h1;have zh2:=rep_non h2;rw [zh1] at zh2;cases zh2
 | .str _,.bl _,v,b1,b2,h1,h2=>by have zh1:=rep_str h1;have zh2:=rep_bl h2;rw [zh1] at zh2;cases zh2
 | .str _,.int _,v,b1,b2,h1,h2=>by have zh1:=rep_str h1;have zh2:=rep_int h2;rw [zh1] at zh2;cases zh2
 | .str _,.str _,v,b1,b2,h1,h2=>by have zh1:=rep_str h1;have zh2:=rep_str h2;rw [zh1] at zh2;cases zh2;rfl
 | .str _,.tup _,v,b1,b2,h1,h2=>by have zh1:=rep_str h1;obtain ⟨ah2,vsh2,zh2,gh2,_⟩:=rep_tup h2;rw [zh1] at zh2;cases zh2
 | .str _,.lst _,v,b1,b2,h1,h2=>by have zh1:=rep_str h1;obtain ⟨ah2,vsh2,zh2,gh2,_⟩:=rep_lst h2;rw [zh1] at zh2;cases zh2
 | .tup _,.non,v,b1,b2,h1,h2=>by obtain ⟨ah1,vsh1,zh1,gh1,_⟩:=rep_tup h1;have zh2:=rep_non h2;rw [zh1] at zh2;cases zh2
 | .tup _,.bl _,v,b1,b2,h1,h2=>by obtain ⟨ah1,vsh1,zh1,gh1,_⟩:=rep_tup h1;have zh2:=rep_bl h2;rw [zh1] at zh2;cases zh2
 | .tup _,.int _,v,b1,b2,h1,h2=>by obtain ⟨ah1,vsh1,zh1,gh1,_⟩:=rep_tup h1;have zh2:=rep_int h2;rw [zh1] at zh2;cases zh2
 | .tup _,.str _,v,b1,b2,h1,h2=>by obtain ⟨ah1,vsh1,zh1,gh1,_⟩:=rep_tup h1;have zh2:=rep_str h2;rw [zh1] at zh2;cases zh2
 | .tup xs,.tup ys,v,b1,b2,h1,h2=>by
  obtain ⟨a,vs,rfl,s1,q1⟩:=rep_tup h1
  obtain ⟨a',vs',z,s2,q2⟩:=rep_tup h2
  cases z
  cases tupInj hk I s1 s2
  rw [Reps.inj hk I xs ys (by simpa [cmpb] using b1) (by simpa [cmpb] using b2) q1 q2]
 | .tup _,.lst _,v,b1,b2,h1,h2=>by obtain ⟨ah1,vsh1,zh1,gh1,_⟩:=rep_tup h1;obtain ⟨ah2,vsh2,zh2,gh2,_⟩:=rep_lst h2;rw [zh1] at zh2;cases zh2;exact (not_LT hk I gh2 gh1).elim
 | .lst _,.non,v,b1,b2,h1,h2=>by obtain ⟨ah1,vsh1,zh1,gh1,_⟩:=rep_lst h1;have zh2:=rep_non h2;rw [zh1] at zh2;cases zh2
 | .lst _,.bl _,v,b1,b2,h1,h2=>by obtain ⟨ah1,vsh1,zh1,gh1,_⟩:=rep_lst h1;have zh2:=rep_bl h2;rw [zh1] at zh2;cases zh2
 | .lst _,.int _,v,b1,b2,h1,h2=>by obtain ⟨ah1,vsh1,zh1,gh1,_⟩:=rep_lst h1;have zh2:=rep_int h2;rw [zh1] at zh2;cases zh2
 | .lst _,.str _,v,b1,b2,h1,h2=>by obtain ⟨ah1,vsh1,zh1,gh1,_⟩:=rep_lst h1;have zh2:=rep_str h2;rw [zh1] at zh2;cases zh2
 | .lst _,.tup _,v,b1,b2,h1,h2=>by obtain ⟨ah1,vsh1,zh1,gh1,_⟩:=rep_lst h1;obtain ⟨ah2,vsh2,zh2,gh2,_⟩:=rep_tup h2;rw [zh1] at zh2;cases zh2;exact (not_LT hk I gh1 gh2).elim
 | .lst xs,.lst ys,v,b1,b2,h1,h2=>by
  obtain ⟨a,vs,rfl,s1,q1⟩:=rep_lst h1
  obtain ⟨a',vs',z,s2,q2⟩:=rep_lst h2
  cases z
  cases lstInj hk I s1 s2
  rw [Reps.inj hk I xs ys (by simpa [cmpb] using b1) (by simpa [cmpb] using b2) q1 q2]
 | .ty _,y,v,b1,b2,h1,h2=>by have b3:false = true:=b1;cases b3
 | .dic _,y,v,b1,b2,h1,h2=>by have b3:false = true:=b1;cases b3
 | .dct _,y,v,b1,b2,h1,h2=>by have b3:false = true:=b1;cases b3
 | .exn _ _,y,v,b1,b2,h1,h2=>by have b3:false = true:=b1;cases b3
 | .obj _ _,y,v,b1,b2,h1,h2=>by have b3:false = true:=b1;cases b3
 | .scr _,y,v,b1,b2,h1,h2=>by have b3:false = true:=b1;cases b3
 | .non,.ty _,v,b1,b2,h1,h2=>by have b3:false = true:=b2;cases b3
 | .non,.dic _,v,b1,b2,h1,h2=>by have b3:false = true:=b2;cases b3
 | .non,.dct _,v,b1,b2,h1,h2=>by have b3:false = true:=b2;cases b3
 | .non,.exn _ _,v,b1,b2,h1,h2=>by have b3:false = true:=b2;cases b3
 | .non,.obj _ _,v,b1,b2,h1,h2=>by have b3:false = true:=b2;cases b3
 | .non,.scr _,v,b1,b2,h1,h2=>by have b3:false = true:=b2;cases b3
 | .bl _,.ty _,v,b1,b2,h1,h2=>by have b3:false = true:=b2;cases b3
 | .bl _,.dic _,v,b1,b2,h1,h2=>by have b3:false = true:=b2;cases b3
 | .bl _,.dct _,v,b1,b2,h1,h2=>by have b3:false = true:=b2;cases b3
 | .bl _,.exn _ _,v,b1,b2,h1,h2=>by have b3:false = true:=b2;cases b3
 | .bl _,.obj _ _,v,b1,b2,h1,h2=>by have b3:false = true:=b2;cases b3
 | .bl _,.scr _,v,b1,b2,h1,h2=>by have b3:false = true:=b2;cases b3
 | .int _,.ty _,v,b1,b2,h1,h2=>by have b3:false = true:=b2;cases b3
 | .int _,.dic _,v,b1,b2,h1,h2=>by have b3:false = true:=b2;cases b3
 | .int _,.dct _,v,b1,b2,h1,h2=>by have b3:false = true:=b2;cases b3
 | .int _,.exn _ _,v,b1,b2,h1,h2=>by have b3:false = true:=b2;cases b3
 | .int _,.obj _ _,v,b1,b2,h1,h2=>by have b3:false = true:=b2;cases b3
 | .int _,.scr _,v,b1,b2,h1,h2=>by have b3:false = true:=b2;cases b3
 | .str _,.ty _,v,b1,b2,h1,h2=>by have b3:false = true:=b2;cases b3
 | .str _,.dic _,v,b1,b2,h1,h2=>by have b3:false = true:=b2;cases b3
 | .str _,.dct _,v,b1,b2,h1,h2=>by have b3:false = true:=b2;cases b3
 | .str _,.exn _ _,v,b1,b2,h1,h2=>by have b3:false = true:=b2;cases b3
 | .str _,.obj _ _,v,b1,b2,h1,h2=>by have b3:false = true:=b2;cases b3
 | .str _,.scr _,v,b1,b2,h1,h2=>by have b3:false = true:=b2;cases b3
 | .tup _,.ty _,v,b1,b2,h1,h2=>by have b3:false = true:=b2;cases b3
 | .tup _,.dic _,v,b1,b2,h1,h2=>by have b3:false = true:=b2;cases b3
 | .tup _,.dct _,v,b1,b2,h1,h2=>by have b3:false = true:=b2;cases b3
 | .tup _,.exn _ _,v,b1,b2,h1,h2=>by have b3:false = true:=b2;cases b3
 | .tup _,.obj _ _,v,b1,b2,h1,h2=>by have b3:false = true:=b2;cases b3
 | .tup _,.scr _,v,b1,b2,h1,h2=>by have b3:false = true:=b2;cases b3
 | .lst _,.ty _,v,b1,b2,h1,h2=>by have b3:false = true:=b2;cases b3
 | .lst _,.dic _,v,b1,b2,h1,h2=>by have b3:false = true:=b2;cases b3
 | .lst _,.dct _,v,b1,b2,h1,h2=>by have b3:false = true:=b2;cases b3
 | .lst _,.exn _ _,v,b1,b2,h1,h2=>by have b3:false = true:=b2;cases b3
 | .lst _,.obj _ _,v,b1,b2,h1,h2=>by have b3:false = true:=b2;cases b3
 | .lst _,.scr _,v,b1,b2,h1,h2=>by have b3:false = true:=b2;cases b3
theorem Reps.inj (hk:k.fr = X.K) (I:Inv X pins σ H s):∀ (xs ys:List D) {vs:List V},cmpbs xs = true->cmpbs ys = true->Reps k H xs vs->Reps k H ys vs->xs = ys
 | [],[],_,_,_,_,_=>rfl
 | [],y :: ys,vs,b1,b2,q1,q2=>by
  rw [reps_nil.mp q1] at q2
  obtain ⟨_,_,z,_⟩:=reps_cons.mp q2
  cases z
 | x :: xs,[],vs,b1,b2,q1,q2=>by
  rw [reps_nil.mp q2] at q1
  obtain ⟨_,_,z,_⟩:=reps_cons.mp q1
  cases z
 | x :: xs,y :: ys,vs,b1,b2,q1,q2=>by
  obtain ⟨v,vr,rfl,p1,t1⟩:=reps_cons.mp q1
  obtain ⟨w,wr,z,p2,t2⟩:=reps_cons.mp q2
  cases z
  rw [cmpbs,Bool.and_eq_true] at b1 b2
  rw [Rep.inj hk I x y b1.1 b2.1 p1 p2,Reps.inj hk I xs ys b1.2 b2.2 t1 t2]
end
theorem inDs_at {x:D}:∀ {ys:List D} {b:Bool} {j:Nat} {y:D},inDs x ys = some b->ys[j]? = some y->∃ c,eqC y x = some c
 | [],_,_,_,_,h=>by simp at h
 | y :: ys,b,j,y',h,h1=>by
  rw [inDs] at h
  cases e1:eqC y x with
  | none=>rw [e1] at h;cases h
  | some a=>
   cases e2:inDs x ys with
   | none=>rw [e1,e2] at h;cases h
   | some c=>
    cases j with
    | zero=>simp at h1;subst h1;exact ⟨a,e1⟩
    | succ j=>exact inDs_at e2 (by simpa using h1)
theorem inDs_any {x:D} {e:Value->Bool}:∀ {ys:List D} {us:List Value} {b:Bool},inDs x ys = some b->us.length = ys.length->(∀ (j:Nat) (u:Value) (y:D),us[j]? = some u->ys[j]? = some y->eqC y x = some (e u))->us.any e = b
 | [],[],b,h,_,_=>by rw [inDs] at h;rw [← Option.some.inj h];rfl
 | [],_ :: _,_,_,hl,_=>by simp at hl
 | _ :: _,[],_,_,hl,_=>by simp at hl
 | y :: ys,u :: us,b,h,hl,he=>by
  rw [inDs] at h
  have h0:=he 0 u y rfl rfl
  cases e2:inDs x ys with
  | none=>rw [h0,e2] at h;cases h
  | some c=>
   rw [h0,e2] at h
   rw [List.any_cons,inDs_any e2 (by simpa using hl) (fun j u y g1 g2=>he (j + 1) u y (by simpa using g1) (by simpa using g2)),← Option.some.inj h]
open Classical in
theorem in_items (hk:k.fr = X.K) (I:Inv X pins σ H s) {x:D} {ys:List D} {b:Bool} {w:V} {u':Value} {vs:List V} {us:List Value} {A:Around} (h:inDs x ys = some b) (q:Reps k H ys vs) (hw:Rep k H x w) (r:Vals vs us) (r':RelV w u') (hu:A.units + deps ys < cLine) :
  ∃ e:Value->Bool,(∀ u,u ∈ us->SeqAt.EqAt A s u u' (e u))/\us.any e = b:=by
 have l1:=r.length
 have l2:=q.length
 let e:Value->Bool:=fun u=>if h:∃ (j:Nat),us[j]? = some u then (match ys[h.choose]? with | some y=>(eqC y x).getD false | none=>false) else false
 have key:∀ (j:Nat) (u:Value) (y:D),us[j]? = some u->ys[j]? = some y->eqC y x = some (e u):=by
  intro j u y g1 g2
  have hx:∃ (j:Nat),us[j]? = some u:=⟨j,g1⟩
  obtain ⟨c,ec⟩:=inDs_at h g2
  obtain ⟨v,gv,rv⟩:=q.get g2
  have hc:=hx.choose_spec
  have hlt:hx.choose < us.length:=(List.getElem?_eq_some_iff.mp hc).1
  have gy:ys[hx.choose]? = some (ys[hx.choose]'(by omega)):=List.getElem?_eq_getElem _
  obtain ⟨v2,gv2,rv2⟩:=q.get gy
  obtain ⟨u2,gu2,ru2⟩:=r.get gv2
  rw [hc] at gu2
  cases gu2
  obtain ⟨u3,gu3,ru3⟩:=r.get gv
  rw [g1] at gu3
  cases gu3
  have hv:v = v2:=RelV.inj ru3 ru2
  subst hv
  obtain ⟨c2,ec2⟩:=inDs_at h gy
  have cb:∀ {y:D} {c:Bool},eqC y x = some c->cmpb y = true:=fun {y c} e=>by
   unfold eqC at e
   split at e
   ·assumption
   ·cases e
  have hd:=Rep.inj hk I _ _ (cb ec) (cb ec2) rv rv2
  have ee:e u = c:=by
   show (if h:∃ (j:Nat),us[j]? = some u then (match ys[h.choose]? with | some y=>(eqC y x).getD false | none=>false) else false) = c
   rw [dif_pos hx,gy,← hd]
   show (eqC y x).getD false = c
   rw [ec]
   rfl
  rw [ec,ee]
 refine ⟨e,fun u hu'=>?_,inDs_any h (by omega) key⟩
 obtain ⟨j,hj⟩:=List.getElem?_of_mem hu'
 have hlt:j < us.length:=(List.getElem?_eq_some_iff.mp hj).1
 have gy:ys[j]? = some (ys[j]'(by omega)):=List.getElem?_eq_getElem _
 obtain ⟨v,gv,rv⟩:=q.get gy
 obtain ⟨u2,gu2,ru2⟩:=r.get gv
 rw [hj] at gu2
 cases gu2
 have kk:=key j u _ hj gy
 unfold eqC at kk
 split at kk
 ·exact eqAt hk I _ x _ kk rv hw ru2 r' (by have:=deps_le gy;omega)
 ·cases kk
end
section
variable {X:Cx}
theorem op_inDD {k:Kx} (hk:k.fr = X.K) (hu:X.A.units + 64 < cLine):OpR X (compareOp .In) (fun x y H Q=>∃ d ds b p vs,Rep k H d x/\y = .ref p/\(SqL k.fr H p vs\/SqT k.fr H p vs)/\Reps k H ds vs/\inDs d ds = some b/\deps ds < 60/\Q (.bl b) H):=by
 intro pins s σ H x y v u Q I rx ry h
 obtain ⟨d,ds,b,p,vs,h1,rfl,hs,q2,e,hd,q⟩:=h
 cases ry
 rcases hs with hs | hs
 ·obtain ⟨its,r1,pl,_⟩:=lstI hk I hs
  obtain ⟨e',k1,k2⟩:=in_items (A:=X.A.in1) hk I e q2 h1 r1 rx (by show X.A.units + 1 + deps ds < cLine;omega)
  refine SeqAt.in_listAt e' (plis pl) (fun y hy=>k1 y (by simpa using hy)) ⟨.bl _,H,I,rfl,?_⟩
  have:its.toArray.any e' = its.any e':=by simp
  rw [this,k2]
  exact q
 ·obtain ⟨its,r1,⟨o,g,c,dd⟩,_⟩:=tupI hk I hs
  obtain ⟨e',k1,k2⟩:=in_items (A:=X.A.in1) hk I e q2 h1 r1 rx (by show X.A.units + 1 + deps ds < cLine;omega)
  refine SeqAt.in_tupleAt e' ⟨o,g,c,dd⟩ (fun y hy=>k1 y (by simpa using hy)) ⟨.bl _,H,I,rfl,?_⟩
  have:its.toArray.any e' = its.any e':=by simp
  rw [this,k2]
  exact q
def tyD:D->String
 | .non=>"NoneType"
 | .bl _=>"bool"
 | .int _=>"int"
 | .str _=>"str"
 | .ty _=>"type"
 | .tup _=>"tuple"
 | .lst _=>"list"
 | .dic _=>"dict"
 | .dct _=>"dict"
 | .exn _ _=>""
 | .obj _ _=>""
 | .scr _=>""
def kitD:D->Bool
 | .ty _=>false
 | .dct _=>false
 | .exn _ _=>false
 | .obj _ _=>false
 | .scr _=>false
 | _=>true
theorem call_isiDD {k:Kx} (hk:k.fr = X.K):CallR X (.builtin "isinstance") (fun xs H Q=>∃ d x n b,xs = [x,.ty n]/\Rep k H d x/\kitD d = true/\kitTy (tyD d) n = some b/\Q (.bl b) H):=by
 intro pins s σ H xs us Q I r h
 obtain ⟨d,x,n,b,rfl,hd,ht,e,q⟩:=h
 cases r with
 | @cons _ u _ ur r1 r2=>
 cases r2 with
 | @cons _ u2 _ ur2 r3 r4=>
 cases r4
 cases (show u2 = Value.type n from r3)
 have e':PySem.W.kitOne X.K (.type (tyD d)) (.type n) = some b:=kit_eq.trans e
 have fin:∀ tk,EP X pins σ Q (.bool b) { s with toks:=tk }:=fun tk=>⟨.bl b,H,I.tok _,rfl,q⟩
 cases d with
 | non=>cases rep_non hd;cases r1;exact PySem.W.kia_one PySem.W.kitx_none I.kIn True.intro e' (fun z=>nomatch z) fin
 | bl y=>cases rep_bl hd;cases r1;exact PySem.W.kia_one PySem.W.kitx_bool I.kIn True.intro e' (fun z=>nomatch z) fin
 | int i=>cases rep_int hd;obtain ⟨t,rfl⟩:=r1;exact PySem.W.kia_one PySem.W.kitx_int I.kIn True.intro e' (fun z=>nomatch z) fin
 | str i=>cases rep_str hd;obtain ⟨t,rfl⟩:=r1;exact PySem.W.kia_one PySem.W.kitx_str I.kIn True.intro e' (fun z=>nomatch z) fin
 | ty m=>have ht':false = true:=ht;cases ht'
 | dct m=>have ht':false = true:=ht;cases ht'
 | exn m n=>have ht':false = true:=ht;cases ht'
 | obj m n=>have ht':false = true:=ht;cases ht'
 | scr m=>have ht':false = true:=ht;cases ht'
 | tup ds=>
  obtain ⟨a,vs,rfl,h1,_⟩:=rep_tup hd
  cases r1
  obtain ⟨its,_,⟨o,g,c,dd⟩,_⟩:=tupI hk I h1
  exact PySem.W.kia_one PySem.W.kitx_tuple I.kIn ⟨o,g,c⟩ e' (fun z=>nomatch z) fin
 | lst ds=>
  obtain ⟨a,vs,rfl,h1,_⟩:=rep_lst hd
  cases r1
  obtain ⟨its,_,⟨o,n,g,c,_⟩,_⟩:=lstI hk I h1
  exact PySem.W.kia_one PySem.W.kitx_list I.kIn ⟨o,g,c⟩ e' (fun z=>nomatch z) fin
 | dic ds=>
  obtain ⟨a,vs,rfl,h1,_⟩:=rep_dic hd
  cases r1
  obtain ⟨_,_,_,_,o,_,_,g,c,_⟩:=h1.ok I.hok
  exact PySem.W.kia_one PySem.W.kitx_dict I.kIn ⟨o,g,c.1⟩ e' (fun z=>nomatch z) fin
end
end DL
namespace L2
open PySem PySem.Spec PyProof.Rows
theorem op_catR {X:Cx}:OpR X (binaryOp .Add) (fun x y H Q=>∃ l b xs zs,x = .ref l/\y = .ref b/\Rd H l (.lst xs)/\Rd H b (.lst zs)/\xs.length + zs.length ≤ sizeLine/\∀ p,H p = none->Q (.ref p) (upd H p (.lst (xs ++ zs)))):=by
 intro pins s σ H x y v u Q I rx ry h
 obtain ⟨l,b,xs,zs,rfl,rfl,hH,hB,hz,q⟩:=h
 cases rx
 cases ry
 obtain ⟨z,its,n,r,e⟩:=hH.ok I.hok
 obtain ⟨z2,its2,n2,r2,e2⟩:=hB.ok I.hok
 have hl:=r.length
 have hl2:=r2.length
 refine PySem.P.add_list e e2 ?_ (by rw [List.size_toArray,List.size_toArray];omega)
 have ea:its.toArray ++ its2.toArray = (its ++ its2).toArray:=by simp
 rw [ea]
 exact ⟨.ref _,_,I.lnew (t':=s.toks) (r.append r2) (by rw [List.length_append];omega),rfl,q _ I.fresh⟩
end L2
namespace DL
open PySem L2
section
variable {Z:Zt} {E:XS} {Hf H:Hp} {σ:L2.St} {Q:VK}
theorem OutF.val {d:D} {v:V} (o:OutF Z E Hf H σ (.val d) Q) (s:Same Hf H) (r:Rep Z.K Hf d v):Q v H:=o v Hf H (Ext.refl s) r
theorem OutF.newT {ds:List D} {vs:List V} {p:Addr} (o:OutF Z E Hf H σ (.val (.tup ds)) Q) (s:Same Hf H) (r:Reps Z.K Hf ds vs) (hp:H p = none):Q (.ref p) (upd H p (.tup vs)):=
 o _ _ _ (Ext.lay s hp) (Rep.tup (SqT.of upd_same) (Reps.same (Same.upd (s.free hp)) r))
theorem OutF.newL {ds:List D} {vs:List V} {p:Addr} (o:OutF Z E Hf H σ (.val (.lst ds)) Q) (s:Same Hf H) (r:Reps Z.K Hf ds vs) (hp:H p = none):Q (.ref p) (upd H p (.lst vs)):=
 o _ _ _ (Ext.lay s hp) (Rep.lst (.inl upd_same) (Reps.same (Same.upd (s.free hp)) r))
theorem OutO.newL {ds:List D} {vs:List V} {p:Addr} (o:OutO Z E Hf H σ (.val (.ol ds)) Q) (s:Same Hf H) (r:Reps Z.K Hf ds vs) (hp:H p = none):Q (.ref p) (upd H p (.lst vs)):=
 o _ _ _ (Ext.layO s hp) ⟨p,vs,rfl,s.free hp,upd_same,r⟩ (fun q _ e=>by cases e;exact hp)
end
section
variable {X:Cx} {Z:Zt} {E:XS} {e a b c:Expr} {pos:Pos}
theorem O.FI {r:Res DV} {Hf H:Hp} {σ:L2.St} {Q:VK} (o:OutF Z E Hf H σ (r >>= fun x=>.val x.d) Q):OutO Z E Hf H σ r fun v H1=>∀ (pins:List (Addr × Obj)) (s':Shared),Inv X pins σ H1 s'->∃ H2,Inv X pins σ H2 s'/\Q v H2:=by
 cases r with
 | val x=>
  intro v Hf1 H1 e1 h1 n1 pins s' I
  have o':∀ v Hf' H',Ext Hf H Hf' H'->Rep Z.K Hf' x.d v->Q v H':=o
  cases x with
  | fz d=>exact ⟨H1,I,o' v Hf1 H1 e1 h1⟩
  | ol ds=>
   obtain ⟨p,vs,h2,h3,h4,h5⟩:=h1
   refine ⟨H1,I,o' v _ H1 (e1.frz (n1 p rfl h2) h3 h4) ?_⟩
   subst h2
   exact Rep.lst (.inl upd_same) (Reps.same (Same.upd h3) h5)
  | od kds=>
   obtain ⟨p,vs,h2,h3,h4,h5⟩:=h1
   obtain ⟨ob,ho⟩:=I.dk_obj h4
   have hp:=n1 p rfl h2
   refine ⟨_,I.freeze h4 ho,o' v (upd Hf1 p (.frz ob (.dK vs))) _ ⟨e1.f.trans (Same.upd h3),fun b u q=>by rw [upd_ne (ne_of_none q hp)];exact e1.h b u q,fun b u q=>by
    by_cases hb:b = p
    ·subst hb;rw [upd_same] at q ⊢;exact q
    ·rw [upd_ne hb] at q ⊢;exact e1.s b u q,fun b u q=>by
    by_cases hb:b = p
    ·subst hb;exact .inr hp
    ·rw [upd_ne hb] at q;exact e1.n b u q⟩ ?_⟩
   subst h2
   exact Rep.dic upd_same (RepK.same (Same.upd h3) h5)
 | exc x=>exact o
 | bad=>exact o
theorem d_val {g:Dst->Res DV} (h:PE X e (tO Z E g)):PE X e (tF Z E fun δ=>g δ >>= fun x=>.val x.d):=fun pins s σ H Q I ⟨Hf,δ,sr,o⟩=>
 PySem.wpAny_mono (h pins s σ H _ I ⟨Hf,δ,sr,O.FI (X:=X) o⟩) (fun u s1 ⟨v,H1,I1,r1,q1⟩=>let ⟨H2,I2,q2⟩:=q1 pins s1 I1;⟨v,H2,I2,r1,q2⟩) fun _ _ q=>q
theorem d_own {g:Dst->Res D} (h:PE X e (tF Z E g)):PE X e (tO Z E fun δ=>g δ >>= fun d=>.val (.fz d)):=h.imp fun σ H Q ⟨Hf,δ,sr,o⟩=>⟨Hf,δ,sr,F.O o fun d v Hf1 H1 e1 r1 o1=>o1 v Hf1 H1 (Ext.refl e1.s) r1 (fun p z=>nomatch z)⟩
def gVar (i:Nat):Dst->Res D:=fun δ=>match δ[i]? with
 | some (some (.fz d))=>.val d
 | _=>.bad
theorem d_var {i:Nat} (h:PE X e (tVar i)):PE X e (tF Z E (gVar i)):=h.imp fun σ H Q ⟨Hf,δ,sr,o⟩=>by
 unfold gVar at o
 split at o
 ·rename_i d q
  obtain ⟨v,h1,h2⟩:=sr.at_ i _ q
  exact ⟨v,h1,o v Hf H (Ext.refl sr.e.s) h2⟩
 ·exact o.elim
theorem d_v (i:Nat) {x:Str} {pos:Pos} (hN:X.N[i]? = some x:=by rfl) (hv:Vis X.env.scope x:=by first | exact Or.inl rfl | exact Or.inr (Or.inl rfl) | exact Or.inr (Or.inr rfl)) (hd:(x == ("__debug__":Str)) = false:=by decide)
  (hcd:(x == ("__classdict__":Str)) = false:=by decide):PE X (.Name x pos) (tF Z E (gVar i)):=d_var (pe_var hN hv hd hcd)
theorem d_const {v:V} {d:D} (h:PE X e (tC v)) (r:∀ Hf,Rep Z.K Hf d v):PE X e (tF Z E fun _=>.val d):=h.imp fun σ H Q ⟨Hf,δ,sr,o⟩=>OutF.val o sr.e.s (r Hf)
theorem d_int {i:Int} {j pos}:PE X (.Constant (.int i) j pos) (tF Z E fun _=>.val (.int i)):=d_const pe_int fun _=>(rfl:V.int i = .int i)
theorem d_str {i:Str} {j pos}:PE X (.Constant (.str i) j pos) (tF Z E fun _=>.val (.str i)):=d_const pe_str fun _=>(rfl:V.str i = .str i)
theorem d_bl {i:Bool} {j pos}:PE X (.Constant (.bool i) j pos) (tF Z E fun _=>.val (.bl i)):=d_const pe_bl fun _=>(rfl:V.bl i = .bl i)
theorem d_non {j pos}:PE X (.Constant .none j pos) (tF Z E fun _=>.val .non):=d_const pe_non fun _=>(rfl:V.non = .non)
theorem d_ty {x:Str} {n:String} {u:Value} {pos:Pos} (hg:Gl X x) (hm:X.mg x = none) (hv:bootBuiltins x = some (.type n)) (hn:x ≠ "__name__":=by decide) (hd:(x == ("__debug__":Str)) = false:=by decide):PE X (.Name x pos) (tF Z E fun _=>.val (.ty n)):=
 d_const (pe_bltn (v:=.ty n) hg hm hv rfl hn hd) fun _=>(rfl:V.ty n = .ty n)
def bin (f:D->D->Res D) (ga gb:Dst->Res D):Dst->Res D:=fun δ=>ga δ >>= fun x=>gb δ >>= fun y=>f x y
def un (f:D->Res D) (ga:Dst->Res D):Dst->Res D:=fun δ=>ga δ >>= fun x=>f x
def Fits2 (Z:Zt) (E:XS) (r:R2) (f:D->D->Res D):Prop:=∀ (x y:D) (v w:V) (Hf H:Hp) (σ:L2.St) (Q:VK),Same Hf H->Rep Z.K Hf x v->Rep Z.K Hf y w->OutF Z E Hf H σ (f x y) Q->r v w H Q
def Fits1 (Z:Zt) (E:XS) (r:V->Hp->VK->Prop) (f:D->Res D):Prop:=∀ (x:D) (v:V) (Hf H:Hp) (σ:L2.St) (Q:VK),Same Hf H->Rep Z.K Hf x v->OutF Z E Hf H σ (f x) Q->r v H Q
def FitsN (Z:Zt) (E:XS) (r:List V->Hp->VK->Prop) (f:List D->Res D):Prop:=∀ (xs:List D) (vs:List V) (Hf H:Hp) (σ:L2.St) (Q:VK),Same Hf H->Reps Z.K Hf xs vs->OutF Z E Hf H σ (f xs) Q->r vs H Q
theorem tOp_of {r:R2} {f:D->D->Res D} {ga gb:Dst->Res D} (hf:Fits2 Z E r f) {σ:L2.St} {H:Hp} {Q:VK} (h:tF Z E (bin f ga gb) σ H Q):tOp r (tF Z E ga) (tF Z E gb) σ H Q:=by
 obtain ⟨Hf,δ,sr,o⟩:=h
 exact ⟨Hf,δ,sr,F.F o fun x v Hf1 H1 e1 r1 o1=>⟨Hf1,δ,sr.ext e1,F.F o1 fun y w Hf2 H2 e2 r2 o2=>hf x y v w Hf2 H2 σ Q e2.s (r1.same e2.f) r2 o2⟩⟩
theorem d_bin {op:Operator} {r:R2} {f:D->D->Res D} {ga gb:Dst->Res D} (ho:OpR X (binaryOp op) r) (hf:Fits2 Z E r f) (ha:PE X a (tF Z E ga)) (hb:PE X b (tF Z E gb)):PE X (.BinOp a op b pos) (tF Z E (bin f ga gb)):=
 (pe_op ho ha hb).imp fun _ _ _ h=>tOp_of hf h
theorem d_un {op:UnaryOp} {r:V->Hp->VK->Prop} {f:D->Res D} {ga:Dst->Res D} (ho:UnR X (unaryOp op) r) (hf:Fits1 Z E r f) (ha:PE X a (tF Z E ga)):PE X (.UnaryOp op a pos) (tF Z E (un f ga)):=
 (pe_un ho ha).imp fun σ H Q ⟨Hf,δ,sr,o⟩=>⟨Hf,δ,sr,F.F o fun x v Hf1 H1 e1 r1 o1=>hf x v Hf1 H1 σ Q e1.s r1 o1⟩
theorem d_cmpP {op:CmpOp} {r:R2} {f:D->D->Res D} {ga gb:Dst->Res D} (ho:OpR X (compareOp op) r) (hf:Fits2 Z E r f) (hm:behindInMarks op b = false) (ha:PE X a (tF Z E ga)) (hb:PE X b (tF Z E gb)):PE X (.Compare a [op] [b] pos) (tF Z E (bin f ga gb)):=
 (pe_cmpR ho ha hb hm).imp fun _ _ _ h=>tOp_of hf h
def asB (r:Res D):Res Bool:=r >>= fun d=>match d with
 | .bl b=>.val b
 | _=>.bad
theorem asB_out {r:Res D} {Hf H:Hp} {σ:L2.St} {Q:Bool->Hp->Prop} (o:OutT Z E Hf H σ (asB r) Q):OutF Z E Hf H σ r fun x H'=>∃ k,x = .bl k/\Q k H':=by
 refine F.T o fun d v Hf1 H1 e1 r1 o1=>?_
 cases d with
 | bl b=>exact ⟨b,rep_bl r1,o1 Hf1 H1 (Ext.refl e1.s)⟩
 | _=>exact (show False from o1).elim
theorem d_tcmpP {op:CmpOp} {r:R2} {f:D->D->Res D} {ga gb:Dst->Res D} (ho:OpR X (compareOp op) r) (hf:Fits2 Z E r f) (hm:behindInMarks op b = false) (ha:PE X a (tF Z E ga)) (hb:PE X b (tF Z E gb)):PT X (.Compare a [op] [b] pos) (tFt Z E fun δ=>asB (bin f ga gb δ)):=
 (pt_cmpR ho ha hb hm).imp fun σ H Q ⟨Hf,δ,sr,o⟩=>tOp_of hf ⟨Hf,δ,sr,asB_out o⟩
theorem d_tval {g:Dst->Res D} (h:PE X e (tF Z E g)) (he:∀ whole,isTrue e X.env whole = (do let v ← whole;standAt e.pos;holding [v] (truthy v)):=by intro _;rfl):PT X e (tFt Z E fun δ=>asB (g δ)):=
 (pt_val h he).imp fun σ H Q ⟨Hf,δ,sr,o⟩=>⟨Hf,δ,sr,asB_out o⟩
def notR (r:Res Bool):Res Bool:=r >>= fun b=>.val (!b)
theorem d_tnot {g:Dst->Res Bool} (h:PT X e (tFt Z E g)):PT X (.UnaryOp .Not e pos) (tFt Z E fun δ=>notR (g δ)):=
 (pt_not h).imp fun σ H Q ⟨Hf,δ,sr,o⟩=>⟨Hf,δ,sr,T.T o fun b Hf1 H1 e1 o1=>o1 Hf1 H1 (Ext.refl e1.s)⟩
def andR (r s:Res Bool):Res Bool:=r >>= fun b=>if b = true then s else .val false
def orR (r s:Res Bool):Res Bool:=r >>= fun b=>if b = true then .val true else s
theorem d_wand1 {g:Dst->Res Bool} (h:PT X a (tFt Z E g)):PW X (.BoolOp .And [a] pos) (tFt Z E g):=pw_and1 h
theorem d_wor1 {g:Dst->Res Bool} (h:PT X a (tFt Z E g)):PW X (.BoolOp .Or [a] pos) (tFt Z E g):=pw_or1 h
theorem d_wand {rest:List Expr} {g k:Dst->Res Bool} (h:PT X a (tFt Z E g)) (h2:PW X (.BoolOp .And (b :: rest) pos) (tFt Z E k)):PW X (.BoolOp .And (a :: b :: rest) pos) (tFt Z E fun δ=>andR (g δ) (k δ)):=
 (pw_and h h2).imp fun σ H Q ⟨Hf,δ,sr,o⟩=>⟨Hf,δ,sr,T.T o fun c Hf1 H1 e1 o1=>by
  cases c with
  | true=>exact ⟨Hf1,δ,sr.ext e1,o1⟩
  | false=>exact o1 Hf1 H1 (Ext.refl e1.s)⟩
theorem d_wor {rest:List Expr} {g k:Dst->Res Bool} (h:PT X a (tFt Z E g)) (h2:PW X (.BoolOp .Or (b :: rest) pos) (tFt Z E k)):PW X (.BoolOp .Or (a :: b :: rest) pos) (tFt Z E fun δ=>orR (g δ) (k δ)):=
 (pw_or h h2).imp fun σ H Q ⟨Hf,δ,sr,o⟩=>⟨Hf,δ,sr,T.T o fun c Hf1 H1 e1 o1=>by
  cases c with
  | true=>exact o1 Hf1 H1 (Ext.refl e1.s)
  | false=>exact ⟨Hf1,δ,sr.ext e1,o1⟩⟩
def andV (r s:Res D):Res D:=asB r >>= fun b=>if b = true then s else .val (.bl false)
def notV (r:Res D):Res D:=asB r >>= fun b=>.val (.bl (!b))
theorem d_one {op} {g:Dst->Res D} (h:PE X a (tF Z E g)):PE X (.BoolOp op [a] pos) (tF Z E g):=pe_one h
theorem asB_F {r:Res D} {k:Bool->Res D} {Hf H:Hp} {σ:L2.St} {Q:VK} {Q1:VK} (o:OutF Z E Hf H σ (asB r >>= k) Q) (h:∀ b Hf' H',Ext Hf H Hf' H'->OutF Z E Hf' H' σ (k b) Q->Q1 (.bl b) H'):OutF Z E Hf H σ r Q1:=by
 cases r with
 | val d=>
  cases d with
  | bl b=>
   intro v Hf1 H1 e1 r1
   cases rep_bl r1
   exact h b Hf1 H1 e1 (OutF.ext (show OutF Z E Hf H σ (k b) Q from o) e1)
  | _=>exact (show False from o).elim
 | exc x=>exact o
 | bad=>exact o
theorem d_and {rest:List Expr} {g k:Dst->Res D} (h:PE X a (tF Z E g)) (h2:PE X (.BoolOp .And (b :: rest) pos) (tF Z E k)):PE X (.BoolOp .And (a :: b :: rest) pos) (tF Z E fun δ=>andV (g δ) (k δ)):=
 (pe_and h h2).imp fun σ H Q ⟨Hf,δ,sr,o⟩=>⟨Hf,δ,sr,asB_F o fun c Hf1 H1 e1 o1=>by
  cases c with
  | true=>exact ⟨true,rfl,Hf1,δ,sr.ext e1,o1⟩
  | false=>exact ⟨false,rfl,OutF.val o1 e1.s (rfl:V.bl false = .bl false)⟩⟩
theorem d_not {g:Dst->Res D} (h:PE X a (tF Z E g)):PE X (.UnaryOp .Not a pos) (tF Z E fun δ=>notV (g δ)):=
 (pe_not h).imp fun σ H Q ⟨Hf,δ,sr,o⟩=>⟨Hf,δ,sr,asB_F o fun c Hf1 H1 e1 o1=>⟨c,rfl,OutF.val o1 e1.s (rfl:V.bl (!c) = .bl (!c))⟩⟩
def ifR {α:Type} (c:Res Bool) (r s:Res α):Res α:=c >>= fun b=>if b = true then r else s
theorem d_ifx {g:Dst->Res Bool} {ka kb:Dst->Res D} (hc:PT X c (tFt Z E g)) (ha:PE X a (tF Z E ka)) (hb:PE X b (tF Z E kb)):PE X (.IfExp c a b pos) (tF Z E fun δ=>ifR (g δ) (ka δ) (kb δ)):=
 (pe_ifExp hc ha hb).imp fun σ H Q ⟨Hf,δ,sr,o⟩=>⟨Hf,δ,sr,T.F o fun c Hf1 H1 e1 o1=>by
  cases c with
  | true=>exact ⟨Hf1,δ,sr.ext e1,o1⟩
  | false=>exact ⟨Hf1,δ,sr.ext e1,o1⟩⟩
def nilA:Dst->Res (List D):=fun _=>.val []
def consA (g:Dst->Res D) (k:Dst->Res (List D)):Dst->Res (List D):=fun δ=>g δ >>= fun x=>k δ >>= fun xs=>.val (x :: xs)
theorem d_nil:PA X [] (tFs Z E nilA):=pa_nil.imp fun σ H Q ⟨Hf,δ,sr,o⟩=>o [] Hf H (Ext.refl sr.e.s) Reps.nil
theorem d_cons {es:List Expr} {g:Dst->Res D} {k:Dst->Res (List D)} (ha:PE X e (tF Z E g)) (hr:PA X es (tFs Z E k)) (hs:starEach (e :: es) X.env = (false,eval e X.env) :: starEach es X.env:=by rfl):PA X (e :: es) (tFs Z E (consA g k)):=
 (pa_cons ha hr hs).imp fun σ H Q ⟨Hf,δ,sr,o⟩=>⟨Hf,δ,sr,F.A o fun x v Hf1 H1 e1 r1 o1=>⟨Hf1,δ,sr.ext e1,A.A o1 fun xs vs Hf2 H2 e2 r2 o2=>o2 (v :: vs) Hf2 H2 (Ext.refl e2.s) (Reps.cons (r1.same e2.f) r2)⟩⟩
def lenOk (n:Nat):Bool:=decide (n ≤ sizeLine)
def tupD (k:Dst->Res (List D)):Dst->Res D:=fun δ=>k δ >>= fun xs=>if lenOk xs.length = true then .val (.tup xs) else .bad
def lstO (k:Dst->Res (List D)):Dst->Res DV:=fun δ=>k δ >>= fun xs=>if lenOk xs.length = true then .val (.ol xs) else .bad
theorem d_tup {es:List Expr} {x1} {k:Dst->Res (List D)} (h:PA X es (tFs Z E k)):PE X (.Tuple es x1 pos) (tF Z E (tupD k)):=
 (pe_tup h).imp fun σ H Q ⟨Hf,δ,sr,o⟩=>⟨Hf,δ,sr,A.F o fun xs vs Hf1 H1 e1 r1 o1=>by
  split at o1
  ·rename_i hl
   exact ⟨by rw [r1.length];exact of_decide_eq_true hl,fun p hp=>OutF.newT o1 e1.s r1 hp⟩
  ·exact o1.elim⟩
theorem d_lstO {es:List Expr} {k:Dst->Res (List D)} (h:PA X es (tFs Z E k)):PE X (.List es pos) (tO Z E (lstO k)):=
 (pe_lst h).imp fun σ H Q ⟨Hf,δ,sr,o⟩=>⟨Hf,δ,sr,A.O o fun xs vs Hf1 H1 e1 r1 o1=>by
  split at o1
  ·rename_i hl
   exact ⟨by rw [r1.length];exact of_decide_eq_true hl,fun p hp=>OutO.newL o1 e1.s r1 hp⟩
  ·exact o1.elim⟩
def lstD (k:Dst->Res (List D)):Dst->Res D:=fun δ=>k δ >>= fun xs=>if lenOk xs.length = true then .val (.lst xs) else .bad
theorem d_lst {es:List Expr} {k:Dst->Res (List D)} (h:PA X es (tFs Z E k)):PE X (.List es pos) (tF Z E (lstD k)):=
 (pe_lst h).imp fun σ H Q ⟨Hf,δ,sr,o⟩=>⟨Hf,δ,sr,A.F o fun xs vs Hf1 H1 e1 r1 o1=>by
  split at o1
  ·rename_i hl
   exact ⟨by rw [r1.length];exact of_decide_eq_true hl,fun p hp=>OutF.newL o1 e1.s r1 hp⟩
  ·exact o1.elim⟩
def calN (f:List D->Res D) (k:Dst->Res (List D)):Dst->Res D:=fun δ=>k δ >>= fun xs=>f xs
theorem d_callB {id:String} {r:List V->Hp->VK->Prop} {x:Str} {p:Pos} {es:List Expr} {f:List D->Res D} {k:Dst->Res (List D)} (hc:CallR X (.builtin id) r) (hf:FitsN Z E r f) (hg:Gl X x) (hm:X.mg x = none) (hv:bootBuiltins x = some (.builtin id)) (ha:PA X (e :: es) (tFs Z E k)) (hn:x ≠ "__name__":=by decide) (hdb:(x == ("__debug__":Str)) = false:=by decide)
  (he:starEach (e :: es) X.env = (false,eval e X.env) :: starEach es X.env:=by rfl) (hpl:(backTo pos (starEach es X.env)).any (·.1) = false:=by rfl):PE X (.Call (.Name x p) (e :: es) [] pos) (tF Z E (calN f k)):=
 (pe_callB hc hg hm hv ha hn hdb he hpl).imp fun σ H Q ⟨Hf,δ,sr,o⟩=>⟨Hf,δ,sr,A.F o fun xs vs Hf1 H1 e1 r1 o1=>hf xs vs Hf1 H1 σ Q e1.s r1 o1⟩
theorem d_callTy {T:String} {r:List V->Hp->VK->Prop} {x:Str} {p:Pos} {es:List Expr} {f:List D->Res D} {k:Dst->Res (List D)} (hc:CallR X (.type T) r) (hf:FitsN Z E r f) (hg:Gl X x) (hm:X.mg x = none) (hv:bootBuiltins x = some (.type T)) (ha:PA X (e :: es) (tFs Z E k)) (hn:x ≠ "__name__":=by decide) (hdb:(x == ("__debug__":Str)) = false:=by decide)
  (he:starEach (e :: es) X.env = (false,eval e X.env) :: starEach es X.env:=by rfl) (hpl:(backTo pos (starEach es X.env)).any (·.1) = false:=by rfl):PE X (.Call (.Name x p) (e :: es) [] pos) (tF Z E (calN f k)):=
 (pe_callTy hc hg hm hv ha hn hdb he hpl).imp fun σ H Q ⟨Hf,δ,sr,o⟩=>⟨Hf,δ,sr,A.F o fun xs vs Hf1 H1 e1 r1 o1=>hf xs vs Hf1 H1 σ Q e1.s r1 o1⟩
theorem d_ixP {r:R2} {f:D->D->Res D} {ga gb:Dst->Res D} (hr:IxR X r) (hf:Fits2 Z E r f) (ha:PE X a (tF Z E ga)) (hb:PE X b (tF Z E gb)) (hs:PlainIx b):PE X (.Subscript a b pos) (tF Z E (bin f ga gb)):=
 (pe_ix hr ha hb hs).imp fun _ _ _ h=>tOp_of hf h
end
end DL
namespace L2
open PySem PySem.Spec PyProof.Rows
section
variable {n:Nat} {X:Cx} {st:Stmt} {rest:List Stmt} {t u:TS} {e a b:Expr} {te ta tb:TE} {pos:Pos}
end
section
variable {P:Program} {w:World} {K:PySem.W.Frag} {mg:Str->Option Value} {base:Heap}
end
section
variable {n:Nat} {X:Cx} {k:Nat} {f:Addr} {fd:FuncData} {ps:List Str} {sp:SpW} {x:Str} {p pos:Pos} {e:Expr} {es:List Expr} {t:TA}
end
end L2
namespace L2
open PySem PySem.Spec PyProof.Rows
section
variable {n:Nat} {X:Cx}
variable {osc scope:Scope} {N0 xs:List Str} {fr:List Nat} {elt tg iter:Expr} {ifs:List Expr} {pos:Pos} {wi:TI} {g:TG} {tt:TT} {te:TE}
end
end L2
namespace L2
open PySem PySem.Spec PyProof.Rows
section
variable {n:Nat} {X:Cx} {pins:List (Addr × Obj)} {s:Shared} {σ:St} {H:Hp}
end
end L2
namespace L2
open PySem PySem.Spec PyProof.Rows
section
variable {P:Program} {w:World} {K:PySem.W.Frag} {mg:Str->Option Value} {base:Heap}
end
end L2
namespace L2
open PySem PySem.Spec PyProof.Rows
end L2
namespace L2
open PySem PySem.Spec PyProof.Rows
section
variable {X:Cx}
variable {n:Nat}
end
end L2
namespace Rp
open PySem PySem.StrLaws PySem.Builtin PySem.Builtin.Str
end Rp
namespace L2
open PySem PySem.Spec PyProof.Rows
section
variable {X:Cx} {n:Nat}
section
variable {osc scope:Scope} {N0 xs:List Str} {fr:List Nat} {elt tg iter:Expr} {ifs:List Expr} {pos:Pos} {wi:TI} {g:TG} {tt:TT} {te:TE}
end
end
end L2
namespace Rp
open PySem PySem.StrLaws PySem.Builtin PySem.Builtin.Str
end Rp
namespace L2
open PySem PySem.Spec PyProof.Rows
section
variable {X:Cx}
theorem op_in_dic (hu:X.A.units + 1 < cLine):OpR X (compareOp .In) (fun y x H Q=>∃ a o,x = .ref a/\DGet H a y o/\Q (.bl o.isSome) H):=by
 intro pins s σ H y x v u Q I ry rx h
 obtain ⟨a,o,rfl,g,q⟩:=h
 obtain rfl:u = Value.ref a:=rx
 exact d_in hu I g ry fun s3 I3=>⟨.bl o.isSome,H,I3,rfl,q⟩
theorem ix_dic (hu:X.A.units + 1 < cLine):IxR X (fun x y H Q=>∃ a v,x = .ref a/\DGet H a y (some v)/\Q v H):=by
 intro value slice pins s σ H x y v u Q I rx ry h hs
 obtain ⟨a,z,rfl,g,q⟩:=h
 obtain rfl:v = Value.ref a:=rx
 have hT:=dict_typeIs I g
 unfold subscriptTail
 refine wpAny_bind ?_
 rw [getitemInPython_of_ne hT.not_modules]
 refine wpAny_bind (wpAny_specialOf hT PySem.F.slot_dict_getitem.lookup ?_)
 have fin:wpAny (model X.prog X.w) X.A (subscripted slice false (.ref a) u) (fun r s₃=>wpAny (model X.prog X.w) X.A (letTemporaryGo value (.ref a) r >>= fun _=>pure r) (EP X pins σ Q) X.xe s₃) X.xe s:=by
  rw [hs]
  exact wpAny_operating (wpAny_mono (d_getItem hu I g ry (Q:=EP X pins σ Q) fun w' s3 I3 rw'=>⟨z,H,I3,rw',q⟩) (fun r s₃ h₃=>wpAny_bind (wpAny_letTemporaryGo (wpAny_pure h₃))) fun _ _ x=>x)
 first
  | exact wpAny_pure (wpAny_bind fin)
  | exact wpAny_bind (wpAny_pure (wpAny_bind fin))
  | exact wpAny_bind fin
end
end L2
namespace DL
open PySem L2
variable {Z:Zt} {E:XS} {X:Cx}
def addD:D->D->Res D
 | .int i,.int j=>.val (.int (i + j))
 | .str a,.str b=>if lenOk (a.length + b.length) = true then .val (.str (a ++ b)) else .bad
 | .lst a,.lst b=>if lenOk (a.length + b.length) = true then .val (.lst (a ++ b)) else .bad
 | _,_=>.bad
def subD:D->D->Res D
 | .int i,.int j=>.val (.int (i - j))
 | _,_=>.bad
def mulOk (i j:Int):Bool:=(decide (-(2 ^ 64) < i) && decide (i < 2 ^ 64)) || (decide (-(2 ^ 64) < j) && decide (j < 2 ^ 64))
def mulD:D->D->Res D
 | .int i,.int j=>if mulOk i j = true then .val (.int (i * j)) else .bad
 | _,_=>.bad
def fdivD:D->D->Res D
 | .int i,.int j=>if (decide (0 < j) && decide (j < 1073741824)) = true then .val (.int (i / j)) else .bad
 | _,_=>.bad
def modD:D->D->Res D
 | .int i,.int j=>if decide (0 < j) = true then .val (.int (i % j)) else .bad
 | _,_=>.bad
def powD:D->D->Res D
 | .int i,.int j=>if (decide (0 ≤ j) && decide (j ≤ 1000000) && decide (i.natAbs < 2 ^ 64)) = true then .val (.int (i ^ j.toNat)) else .bad
 | _,_=>.bad
def negD:D->Res D
 | .int i=>.val (.int (-i))
 | _=>.bad
def ltD:D->D->Res D
 | .int i,.int j=>.val (.bl (decide (i < j)))
 | .str i,.str j=>.val (.bl (decide (i.cps.toList < j.cps.toList)))
 | _,_=>.bad
def gtD:D->D->Res D
 | .int i,.int j=>.val (.bl (decide (j < i)))
 | _,_=>.bad
def isND (neg:Bool):D->D->Res D
 | .non,.non=>.val (.bl (!neg))
 | _,.non=>.val (.bl neg)
 | _,_=>.bad
def keyD:D->Option Key
 | .int i=>some (.inl i)
 | .str s=>some (.inr s)
 | _=>none
def getK (kds:List (Key × D)) (k:Key):Option D:=(kds.find? fun kv=>decide (kv.1 = k)).map (·.2)
def subIn (a b:Str):Bool:=!(Builtin.Str.occurrences b a 0 b.length 1).isEmpty
def inD (neg:Bool):D->D->Res D
 | .str a,.str b=>.val (.bl (subIn a b ^^ neg))
 | x,.lst ys=>match inDs x ys with
  | some b=>if deps ys < 60 then .val (.bl (b ^^ neg)) else .bad
  | none=>.bad
 | x,.tup ys=>match inDs x ys with
  | some b=>if deps ys < 60 then .val (.bl (b ^^ neg)) else .bad
  | none=>.bad
 | x,.dic kds=>match keyD x with
  | some k=>.val (.bl ((getK kds k).isSome ^^ neg))
  | none=>.bad
 | _,_=>.bad
def ixD:D->D->Res D
 | .tup xs,.int i=>match atI xs i with
  | some d=>.val d
  | none=>.bad
 | .lst xs,.int i=>match atI xs i with
  | some d=>.val d
  | none=>.bad
 | .scr ns,.int i=>match atI ns i with
  | some d=>.val (.int d)
  | none=>.bad
 | .str z,.int i=>if lenOk z.length = true then (match atI z.cps.toList i with
  | some c=>.val (.str ⟨#[c]⟩)
  | none=>.bad) else .bad
 | .dic kds,x=>match keyD x with
  | some k=>(match getK kds k with
   | some d=>.val d
   | none=>.bad)
  | none=>.bad
 | _,_=>.bad
def lenD:List D->Res D
 | [.lst xs]=>.val (.int xs.length)
 | [.tup xs]=>.val (.int xs.length)
 | [.dic xs]=>.val (.int xs.length)
 | [.scr xs]=>.val (.int xs.length)
 | [.str z]=>if lenOk z.length = true then .val (.int z.length) else .bad
 | _=>.bad
def isiD:List D->Res D
 | [d,.ty n]=>if kitD d = true then (match kitTy (tyD d) n with
  | some b=>.val (.bl b)
  | none=>.bad) else .bad
 | _=>.bad
def tupOf:List D->Res D
 | [.lst xs]=>.val (.tup xs)
 | [.tup xs]=>.val (.tup xs)
 | _=>.bad
def listOf:List D->Res D
 | [.lst xs]=>.val (.lst xs)
 | [.tup xs]=>.val (.lst xs)
 | _=>.bad
theorem fit_add:Fits2 Z E (fun x y H Q=>rI0 (fun i j=>.int (i + j)) x y H Q\/(∃ i j,x = .str i/\y = .str j/\i.length + j.length ≤ sizeLine/\Q (.str (i ++ j)) H) ∨
  (∃ l b xs zs,x = .ref l/\y = .ref b/\Rd H l (.lst xs)/\Rd H b (.lst zs)/\xs.length + zs.length ≤ sizeLine/\∀ p,H p = none->Q (.ref p) (upd H p (.lst (xs ++ zs))))) addD:=by
 intro x y v w Hf H σ Q s rx ry o
 unfold addD at o
 split at o
 ·cases rep_int rx;cases rep_int ry;exact .inl ⟨_,_,rfl,rfl,o.val s rfl⟩
 ·split at o
  ·rename_i h
   cases rep_str rx;cases rep_str ry;exact .inr (.inl ⟨_,_,rfl,rfl,of_decide_eq_true h,o.val s rfl⟩)
  ·exact o.elim
 ·split at o
  ·rename_i h
   obtain ⟨l,xs,rfl,h1,q1⟩:=rep_lstR rx
   obtain ⟨b,zs,rfl,h2,q2⟩:=rep_lstR ry
   refine .inr (.inr ⟨l,b,xs,zs,rfl,rfl,Rd.same s h1,Rd.same s h2,?_,fun p hp=>OutF.newL o s (q1.append q2) hp⟩)
   rw [q1.length,q2.length]
   exact of_decide_eq_true h
  ·exact o.elim
 ·exact o.elim
theorem fit_sub:Fits2 Z E (rI0 fun i j=>.int (i - j)) subD:=by
 intro x y v w Hf H σ Q s rx ry o
 unfold subD at o
 split at o
 ·cases rep_int rx;cases rep_int ry;exact ⟨_,_,rfl,rfl,o.val s rfl⟩
 ·exact o.elim
theorem d_sub {a b:Expr} {pos:Pos} {ga gb:Dst->Res D} (ha:PE X a (tF Z E ga)) (hb:PE X b (tF Z E gb)):PE X (.BinOp a .Sub b pos) (tF Z E (bin subD ga gb)):=d_bin op_sub fit_sub ha hb
theorem fit_mul:Fits2 Z E (rI CMul fun i j=>.int (i * j)) mulD:=by
 intro x y v w Hf H σ Q s rx ry o
 unfold mulD at o
 split at o
 ·split at o
  ·rename_i h
   cases rep_int rx;cases rep_int ry
   refine ⟨_,_,rfl,rfl,?_,o.val s rfl⟩
   unfold mulOk at h
   rw [Bool.or_eq_true,Bool.and_eq_true,Bool.and_eq_true,decide_eq_true_eq,decide_eq_true_eq,decide_eq_true_eq,decide_eq_true_eq] at h
   exact h
  ·exact o.elim
 ·exact o.elim
theorem d_mul {a b:Expr} {pos:Pos} {ga gb:Dst->Res D} (ha:PE X a (tF Z E ga)) (hb:PE X b (tF Z E gb)):PE X (.BinOp a .Mult b pos) (tF Z E (bin mulD ga gb)):=d_bin op_mul fit_mul ha hb
theorem fit_fdiv:Fits2 Z E (rI CDiv fun i j=>.int (i / j)) fdivD:=by
 intro x y v w Hf H σ Q s rx ry o
 unfold fdivD at o
 split at o
 ·split at o
  ·rename_i h
   cases rep_int rx;cases rep_int ry
   rw [Bool.and_eq_true,decide_eq_true_eq,decide_eq_true_eq] at h
   exact ⟨_,_,rfl,rfl,h,o.val s rfl⟩
  ·exact o.elim
 ·exact o.elim
theorem d_fdiv {a b:Expr} {pos:Pos} {ga gb:Dst->Res D} (ha:PE X a (tF Z E ga)) (hb:PE X b (tF Z E gb)):PE X (.BinOp a .FloorDiv b pos) (tF Z E (bin fdivD ga gb)):=d_bin op_fdiv fit_fdiv ha hb
theorem fit_mod:Fits2 Z E (rI (fun _ j=>0 < j) fun i j=>.int (i % j)) modD:=by
 intro x y v w Hf H σ Q s rx ry o
 unfold modD at o
 split at o
 ·split at o
  ·rename_i h
   cases rep_int rx;cases rep_int ry
   exact ⟨_,_,rfl,rfl,of_decide_eq_true h,o.val s rfl⟩
  ·exact o.elim
 ·exact o.elim
theorem d_mod {a b:Expr} {pos:Pos} {ga gb:Dst->Res D} (ha:PE X a (tF Z E ga)) (hb:PE X b (tF Z E gb)):PE X (.BinOp a .Mod b pos) (tF Z E (bin modD ga gb)):=d_bin op_mod fit_mod ha hb
theorem fit_pow:Fits2 Z E (rI CPow fun i j=>.int (i ^ j.toNat)) powD:=by
 intro x y v w Hf H σ Q s rx ry o
 unfold powD at o
 split at o
 ·split at o
  ·rename_i h
   cases rep_int rx;cases rep_int ry
   rw [Bool.and_eq_true,Bool.and_eq_true,decide_eq_true_eq,decide_eq_true_eq,decide_eq_true_eq] at h
   exact ⟨_,_,rfl,rfl,⟨h.1.1,h.1.2,h.2⟩,o.val s rfl⟩
  ·exact o.elim
 ·exact o.elim
theorem d_pow {a b:Expr} {pos:Pos} {ga gb:Dst->Res D} (ha:PE X a (tF Z E ga)) (hb:PE X b (tF Z E gb)):PE X (.BinOp a .Pow b pos) (tF Z E (bin powD ga gb)):=d_bin op_pow fit_pow ha hb
theorem fit_neg:Fits1 Z E (rU fun i=>.int (-i)) negD:=by
 intro x v Hf H σ Q s rx o
 unfold negD at o
 split at o
 ·cases rep_int rx;exact ⟨_,rfl,o.val s rfl⟩
 ·exact o.elim
theorem d_neg {a:Expr} {pos:Pos} {ga:Dst->Res D} (ha:PE X a (tF Z E ga)):PE X (.UnaryOp .USub a pos) (tF Z E (un negD ga)):=d_un un_neg fit_neg ha
theorem fit_lt:Fits2 Z E (fun x y H Q=>rI0 (fun i j=>.bl (decide (i < j))) x y H Q\/(∃ i j,x = .str i/\y = .str j/\Q (.bl (decide (i.cps.toList < j.cps.toList))) H)) ltD:=by
 intro x y v w Hf H σ Q s rx ry o
 unfold ltD at o
 split at o
 ·cases rep_int rx;cases rep_int ry;exact .inl ⟨_,_,rfl,rfl,o.val s rfl⟩
 ·cases rep_str rx;cases rep_str ry;exact .inr ⟨_,_,rfl,rfl,o.val s rfl⟩
 ·exact o.elim
theorem op_ltA:OpR X (compareOp .Lt) (fun x y H Q=>rI0 (fun i j=>.bl (decide (i < j))) x y H Q\/(∃ i j,x = .str i/\y = .str j/\Q (.bl (decide (i.cps.toList < j.cps.toList))) H)):=op_lt.or op_lt_str
theorem fit_gt:Fits2 Z E (rI0 fun i j=>.bl (decide (j < i))) gtD:=by
 intro x y v w Hf H σ Q s rx ry o
 unfold gtD at o
 split at o
 ·cases rep_int rx;cases rep_int ry;exact ⟨_,_,rfl,rfl,o.val s rfl⟩
 ·exact o.elim
theorem fit_eq:Fits2 Z E (fun x y H Q=>∃ d d' b,Rep Z.K H d x/\Rep Z.K H d' y/\eqD d d' = some b/\dep d < 60/\Q (.bl b) H) cmpEq:=by
 intro x y v w Hf H σ Q s rx ry o
 unfold cmpEq at o
 split at o
 ·rename_i b e
  split at o
  ·rename_i hd
   exact ⟨x,y,b,rx.same s,ry.same s,e,hd,o.val s rfl⟩
  ·exact o.elim
 ·exact o.elim
theorem fit_ne:Fits2 Z E (fun x y H Q=>∃ d d' b,Rep Z.K H d x/\Rep Z.K H d' y/\eqD d d' = some b/\dep d < 60/\Q (.bl (!b)) H) cmpNe:=by
 intro x y v w Hf H σ Q s rx ry o
 unfold cmpNe at o
 split at o
 ·rename_i b e
  split at o
  ·rename_i hd
   exact ⟨x,y,b,rx.same s,ry.same s,e,hd,o.val s rfl⟩
  ·exact o.elim
 ·exact o.elim
theorem rep_ne_non {K:Kx} {H:Hp} {d:D} {v:V} (h:Rep K H d v) (hd:d ≠ .non):v ≠ .non:=by
 intro e
 subst e
 cases d with
 | non=>exact hd rfl
 | bl b=>cases rep_bl h
 | int i=>cases rep_int h
 | str i=>cases rep_str h
 | ty i=>cases rep_ty h
 | tup ds=>obtain ⟨a,vs,z,_⟩:=rep_tup h;cases z
 | lst ds=>obtain ⟨a,vs,z,_⟩:=rep_lst h;cases z
 | dic ds=>obtain ⟨a,vs,z,_⟩:=rep_dic h;cases z
 | dct ds=>unfold Rep at h;obtain ⟨a,o,vs,z,_⟩:=h;cases z
 | exn c ds=>unfold Rep at h;obtain ⟨a,o,od,vs,z,_⟩:=h;cases z
 | obj c ds=>unfold Rep at h;obtain ⟨a,o,od,vs,z,_⟩:=h;cases z
 | scr ds=>obtain ⟨a,z,_⟩:=rep_scr h;cases z
theorem fit_isnot:Fits2 Z E (fun x y H Q=>y = .non/\Q (.bl (!decide (x = .non))) H) (isND true):=by
 intro x y v w Hf H σ Q s rx ry o
 unfold isND at o
 split at o
 ·cases rep_non rx;cases rep_non ry;exact ⟨rfl,o.val s rfl⟩
 ·rename_i h
  cases rep_non ry
  refine ⟨rfl,?_⟩
  rw [decide_eq_false (rep_ne_non rx fun e=>h e)]
  exact o.val s rfl
 ·exact o.elim
theorem repk_get {K:Kx} {H:Hp} {k:Key}:∀ {kds:List (Key × D)} {kvs:List (Key × V)},RepK K H kds kvs->match getK kds k with
  | some d=>∃ v,valV kvs k = some v/\Rep K H d v
  | none=>valV kvs k = none
 | [],kvs,h=>by rw [repk_nil.mp h];rfl
 | (l,d) :: kds,kvs,h=>by
  obtain ⟨v,r,rfl,h1,h2⟩:=repk_cons.mp h
  have ih:=repk_get (k:=k) h2
  unfold getK valV at ih ⊢
  by_cases e:l = k
  ·rw [List.find?_cons_of_pos (by simpa using e),List.find?_cons_of_pos (by simpa using e)]
   exact ⟨v,rfl,h1⟩
  ·rw [List.find?_cons_of_neg (by simpa using e),List.find?_cons_of_neg (by simpa using e)]
   exact ih
theorem RepK.length {K:Kx} {H:Hp}:∀ {kds:List (Key × D)} {kvs:List (Key × V)},RepK K H kds kvs->kvs.length = kds.length
 | [],kvs,h=>by rw [repk_nil.mp h];rfl
 | (l,d) :: kds,kvs,h=>by
  obtain ⟨v,r,rfl,h1,h2⟩:=repk_cons.mp h
  rw [List.length_cons,List.length_cons,RepK.length h2]
theorem rep_key {K:Kx} {H:Hp} {d:D} {v:V} {k:Key} (h:Rep K H d v) (e:keyD d = some k):v = kV k:=by
 cases d with
 | int i=>cases e;exact rep_int h
 | str i=>cases e;exact rep_str h
 | _=>cases e
def InR (K:Kx) (neg:Bool):R2:=fun x y H Q=>(∃ i j,x = .str i/\y = .str j/\Q (.bl (subIn i j ^^ neg)) H)\/(∃ d ds b p vs,Rep K H d x/\y = .ref p/\(SqL K.fr H p vs\/SqT K.fr H p vs)/\Reps K H ds vs/\inDs d ds = some b/\deps ds < 60/\Q (.bl (b ^^ neg)) H) ∨
 ∃ a o,y = .ref a/\DGet H a x o/\Q (.bl (o.isSome ^^ neg)) H
theorem op_inA {k:Kx} (hk:k.fr = X.K) (hu:X.A.units + 64 < cLine):OpR X (compareOp .In) (InR k false):=by
 intro pins s σ H x y v u Q I rx ry h
 rcases h with ⟨i,j,e1,e2,q⟩ | ⟨d,ds,b,p,vs,h1,h2,h3,h4,h5,h6,q⟩ | ⟨a,o,h1,h2,q⟩
 ·refine op_in_str pins s σ H x y v u Q I rx ry ⟨i,j,e1,e2,?_⟩
  have:(subIn i j ^^ false) = subIn i j:=by simp
  rw [this] at q
  exact q
 ·refine op_inDD hk hu pins s σ H x y v u Q I rx ry ⟨d,ds,b,p,vs,h1,h2,h3,h4,h5,h6,?_⟩
  have:(b ^^ false) = b:=by simp
  rw [this] at q
  exact q
 ·refine op_in_dic (by omega) pins s σ H x y v u Q I rx ry ⟨a,o,h1,h2,?_⟩
  have:(o.isSome ^^ false) = o.isSome:=by simp
  rw [this] at q
  exact q
section
variable {a b:Expr} {pos:Pos} {ga gb:Dst->Res D}
theorem d_eq (hu:X.A.units + 64 < cLine) (ha:PE X a (tF Z E ga)) (hb:PE X b (tF Z E gb)) (hK:Z.K.fr = X.K:=by rfl) (hm:behindInMarks .Eq b = false:=by exact nomark _):PE X (.Compare a [.Eq] [b] pos) (tF Z E (bin cmpEq ga gb)):=d_cmpP (op_eqDD hK hu) fit_eq hm ha hb
theorem dt_eq (hu:X.A.units + 64 < cLine) (ha:PE X a (tF Z E ga)) (hb:PE X b (tF Z E gb)) (hK:Z.K.fr = X.K:=by rfl) (hm:behindInMarks .Eq b = false:=by exact nomark _):PT X (.Compare a [.Eq] [b] pos) (tFt Z E fun δ=>asB (bin cmpEq ga gb δ)):=d_tcmpP (op_eqDD hK hu) fit_eq hm ha hb
theorem dt_ne (hu:X.A.units + 64 < cLine) (ha:PE X a (tF Z E ga)) (hb:PE X b (tF Z E gb)) (hK:Z.K.fr = X.K:=by rfl) (hm:behindInMarks .NotEq b = false:=by exact nomark _):PT X (.Compare a [.NotEq] [b] pos) (tFt Z E fun δ=>asB (bin cmpNe ga gb δ)):=d_tcmpP (op_neDD hK hu) fit_ne hm ha hb
theorem dt_lt (ha:PE X a (tF Z E ga)) (hb:PE X b (tF Z E gb)) (hm:behindInMarks .Lt b = false:=by exact nomark _):PT X (.Compare a [.Lt] [b] pos) (tFt Z E fun δ=>asB (bin ltD ga gb δ)):=d_tcmpP op_ltA fit_lt hm ha hb
theorem dt_gt (ha:PE X a (tF Z E ga)) (hb:PE X b (tF Z E gb)) (hm:behindInMarks .Gt b = false:=by exact nomark _):PT X (.Compare a [.Gt] [b] pos) (tFt Z E fun δ=>asB (bin gtD ga gb δ)):=d_tcmpP op_gt fit_gt hm ha hb
theorem dt_isnot (ha:PE X a (tF Z E ga)) (hb:PE X b (tF Z E gb)) (hm:behindInMarks .IsNot b = false:=by exact nomark _):PT X (.Compare a [.IsNot] [b] pos) (tFt Z E fun δ=>asB (bin (isND true) ga gb δ)):=d_tcmpP op_notN fit_isnot hm ha hb
end
theorem at_rep {K:Kx} {H:Hp} {ds:List D} {vs:List V} {i:Int} {d:D} (h:Reps K H ds vs) (e:atI ds i = some d):∃ v,atI vs i = some v/\Rep K H d v:=by
 unfold atI at e ⊢
 rw [h.length]
 cases hj:ixN ds.length i with
 | none=>rw [hj] at e;cases e
 | some j=>
  rw [hj] at e
  exact h.get e
theorem fit_ix (hK:Z.K.fr = X.K):Fits2 Z E (fun x y H Q=>rIx X.K x y H Q\/∃ a v,x = .ref a/\DGet H a y (some v)/\Q v H) ixD:=by
 intro x y v w Hf H σ Q s rx ry o
 unfold ixD at o
 split at o
 ·split at o
  ·rename_i d e
   obtain ⟨p,vs,rfl,h1,q1⟩:=rep_tup rx
   cases rep_int ry
   obtain ⟨v,e2,r2⟩:=at_rep q1 e
   exact .inl (.inr (.inl ⟨p,vs,_,v,rfl,rfl,hK ▸ s.seqT h1,e2,o.val s r2⟩))
  ·exact o.elim
 ·split at o
  ·rename_i d e
   obtain ⟨p,vs,rfl,h1,q1⟩:=rep_lst rx
   cases rep_int ry
   obtain ⟨v,e2,r2⟩:=at_rep q1 e
   exact .inl (.inl ⟨p,vs,_,v,rfl,rfl,hK ▸ s.seq h1,e2,o.val s r2⟩)
  ·exact o.elim
 ·split at o
  ·rename_i d e
   obtain ⟨p,rfl,h1⟩:=rep_scr rx
   cases rep_int ry
   refine .inl (.inl ⟨p,_,_,.int d,rfl,rfl,hK ▸ s.seq h1,?_,o.val s (rfl:V.int d = .int d)⟩)
   unfold atI at e ⊢
   rw [List.length_map]
   cases hj:ixN _ _ with
   | none=>rw [hj] at e;cases e
   | some j=>
    rw [hj] at e
    rw [Option.bind_some] at e
    show (List.map V.int _)[j]? = some (.int d)
    rw [List.getElem?_map,e]
    rfl
  ·exact o.elim
 ·split at o
  ·rename_i hl
   split at o
   ·rename_i c e
    cases rep_str rx;cases rep_int ry
    exact .inl (.inr (.inr ⟨_,_,c,rfl,rfl,of_decide_eq_true hl,e,o.val s rfl⟩))
   ·exact o.elim
  ·exact o.elim
 ·split at o
  ·rename_i k e
   obtain ⟨a,kvs,rfl,h1,q1⟩:=rep_dic rx
   have hk:=rep_key ry e
   have g:=repk_get (k:=k) q1
   split at o
   ·rename_i d eg
    rw [eg] at g
    obtain ⟨v0,g',r0⟩:=g
    exact .inr ⟨a,v0,rfl,.inl ⟨kvs,k,Rd.same s h1,hk,g'.symm⟩,o.val s r0⟩
   ·exact o.elim
  ·exact o.elim
 ·exact o.elim
theorem d_ix {a b:Expr} {pos:Pos} {ga gb:Dst->Res D} (hu:X.A.units + 64 < cLine) (ha:PE X a (tF Z E ga)) (hb:PE X b (tF Z E gb)) (hs:PlainIx b:=by exact fun _ _=>rfl) (hK:Z.K.fr = X.K:=by rfl):PE X (.Subscript a b pos) (tF Z E (bin ixD ga gb)):=
 d_ixP (ix_seq.or (ix_dic (by omega))) (fit_ix hK) ha hb hs
end DL
namespace DL
open PySem L2
section
variable {K:Kx} {H:Hp}
theorem Reps.one {d:D} {vs:List V} (h:Reps K H [d] vs):∃ v,vs = [v]/\Rep K H d v:=by
 obtain ⟨v,r,rfl,h1,h2⟩:=reps_cons.mp h
 rw [reps_nil.mp h2]
 exact ⟨v,rfl,h1⟩
theorem Reps.two {d e:D} {vs:List V} (h:Reps K H [d,e] vs):∃ v w,vs = [v,w]/\Rep K H d v/\Rep K H e w:=by
 obtain ⟨v,r,rfl,h1,h2⟩:=reps_cons.mp h
 obtain ⟨w,rfl,h3⟩:=h2.one
 exact ⟨v,w,rfl,h1,h3⟩
end
section
variable {Z:Zt} {E:XS} {X:Cx}
theorem fit_len (hK:Z.K.fr = X.K):FitsN Z E (fun xs H Q=>(∃ x n,xs = [x]/\LenV X.K x H n/\Q (.int n) H)\/∃ a kvs,xs = [V.ref a]/\Rd H a (.dK kvs)/\Q (.int kvs.length) H) lenD:=by
 intro xs vs Hf H σ Q s r o
 unfold lenD at o
 split at o
 ·obtain ⟨v,rfl,h⟩:=r.one
  obtain ⟨a,ws,rfl,h1,q1⟩:=rep_lst h
  refine .inl ⟨_,ws.length,rfl,.inl ⟨ws,hK ▸ s.seq h1,rfl⟩,?_⟩
  rw [q1.length]
  exact o.val s rfl
 ·obtain ⟨v,rfl,h⟩:=r.one
  obtain ⟨a,ws,rfl,h1,q1⟩:=rep_tup h
  refine .inl ⟨_,ws.length,rfl,.inr ⟨ws,hK ▸ s.seqT h1,rfl⟩,?_⟩
  rw [q1.length]
  exact o.val s rfl
 ·obtain ⟨v,rfl,h⟩:=r.one
  obtain ⟨a,ws,rfl,h1,q1⟩:=rep_dic h
  refine .inr ⟨a,ws,rfl,Rd.same s h1,?_⟩
  rw [q1.length]
  exact o.val s rfl
 ·obtain ⟨v,rfl,h⟩:=r.one
  obtain ⟨a,rfl,h1⟩:=rep_scr h
  refine .inl ⟨_,_,rfl,.inl ⟨_,hK ▸ s.seq h1,rfl⟩,?_⟩
  rw [List.length_map]
  exact o.val s rfl
 ·split at o
  ·rename_i hl
   obtain ⟨v,rfl,h⟩:=r.one
   cases rep_str h
   exact .inl ⟨_,_,rfl,⟨of_decide_eq_true hl,rfl⟩,o.val s rfl⟩
  ·exact o.elim
 ·exact o.elim
theorem call_lenA:CallR X (.builtin "len") (fun xs H Q=>(∃ x n,xs = [x]/\LenV X.K x H n/\Q (.int n) H)\/∃ a kvs,xs = [V.ref a]/\Rd H a (.dK kvs)/\Q (.int kvs.length) H):=call_len.or call_lenR
theorem fit_isi:FitsN Z E (fun xs H Q=>∃ d x n b,xs = [x,.ty n]/\Rep Z.K H d x/\kitD d = true/\kitTy (tyD d) n = some b/\Q (.bl b) H) isiD:=by
 intro xs vs Hf H σ Q s r o
 unfold isiD at o
 split at o
 ·rename_i d n
  split at o
  ·rename_i hd
   split at o
   ·rename_i b e
    obtain ⟨v,w,rfl,h1,h2⟩:=r.two
    cases rep_ty h2
    exact ⟨_,v,_,b,rfl,h1.same s,hd,e,o.val s rfl⟩
   ·exact o.elim
  ·exact o.elim
 ·exact o.elim
theorem fit_tupOf (hK:Z.K.fr = X.K):FitsN Z E (fun xs H Q=>∃ p ys,xs = [.ref p]/\((SqL X.K H p ys/\∀ l,H l = none->Q (.ref l) (upd H l (.tup ys)))\/(SqT X.K H p ys/\Q (.ref p) H))) tupOf:=by
 intro xs vs Hf H σ Q s r o
 unfold tupOf at o
 split at o
 ·obtain ⟨v,rfl,h⟩:=r.one
  obtain ⟨a,ws,rfl,h1,q1⟩:=rep_lst h
  exact ⟨a,ws,rfl,.inl ⟨hK ▸ s.seq h1,fun l hl=>OutF.newT o s q1 hl⟩⟩
 ·obtain ⟨v,rfl,h⟩:=r.one
  obtain ⟨a,ws,rfl,h1,q1⟩:=rep_tup h
  exact ⟨a,ws,rfl,.inr ⟨hK ▸ s.seqT h1,o.val s h⟩⟩
 ·exact o.elim
theorem fit_listOf (hK:Z.K.fr = X.K):FitsN Z E (fun xs H Q=>∃ p ys,xs = [.ref p]/\(SqL X.K H p ys\/SqT X.K H p ys)/\∀ l,H l = none->Q (.ref l) (upd H l (.lst ys))) listOf:=by
 intro xs vs Hf H σ Q s r o
 unfold listOf at o
 split at o
 ·obtain ⟨v,rfl,h⟩:=r.one
  obtain ⟨a,ws,rfl,h1,q1⟩:=rep_lst h
  exact ⟨a,ws,rfl,.inl (hK ▸ s.seq h1),fun l hl=>OutF.newL o s q1 hl⟩
 ·obtain ⟨v,rfl,h⟩:=r.one
  obtain ⟨a,ws,rfl,h1,q1⟩:=rep_tup h
  exact ⟨a,ws,rfl,.inr (hK ▸ s.seqT h1),fun l hl=>OutF.newL o s q1 hl⟩
 ·exact o.elim
def OutP (Z:Zt) (E:XS) (Hf H:Hp) (σ:L2.St) (r:Res (Option Int)) (Q:Option Int->Hp->Prop):Prop:=match r with
 | .val b=>∀ Hf' H',Ext Hf H Hf' H'->Q b H'
 | .exc x=>∀ C od Hf' H',Ext Hf H Hf' H'->RepX Z Hf' H' C od x->E C od σ H'
 | .bad=>False
def tFp (Z:Zt) (E:XS) (g:Dst->Res (Option Int)):TO:=fun σ H Q=>∃ Hf δ,SR Z Hf H σ δ/\OutP Z E Hf H σ (g δ) Q
theorem P.F {Hf H:Hp} {σ:L2.St} {r:Res (Option Int)} {k:Option Int->Res D} {Q:VK} {Q1:Option Int->Hp->Prop} (o:OutF Z E Hf H σ (r >>= k) Q) (h:∀ b Hf' H',Ext Hf H Hf' H'->OutF Z E Hf' H' σ (k b) Q->Q1 b H'):OutP Z E Hf H σ r Q1:=by
 cases r with
 | val d=>exact fun Hf1 H1 e1=>h d Hf1 H1 e1 (OutF.ext (show OutF Z E Hf H σ (k d) Q from o) e1)
 | exc x=>exact o
 | bad=>exact o
def asI (r:Res D):Res (Option Int):=match r with
 | .val (.int i)=>.val (some i)
 | .exc x=>.exc x
 | _=>.bad
theorem PO.imp {e:Option Expr} {t t':TO} (h:PO X e t) (m:∀ σ H Q,t' σ H Q->t σ H Q):PO X e t':=fun pins s σ H Q I q=>h pins s σ H Q I (m _ _ _ q)
theorem d_pn:PO X none (tFp Z E fun _=>.val none):=PO.imp po_none fun σ H Q ⟨Hf,δ,sr,o⟩=>o Hf H (Ext.refl sr.e.s)
theorem d_ps {e:Expr} {g:Dst->Res D} (h:PE X e (tF Z E g)):PO X (some e) (tFp Z E fun δ=>asI (g δ)):=PO.imp (po_some h) fun σ H Q ⟨Hf,δ,sr,o⟩=>⟨Hf,δ,sr,by
 have o:OutP Z E Hf H σ (asI (g δ)) Q:=o
 cases hg:g δ with
 | val d=>
  rw [hg] at o
  cases d with
  | int i=>exact fun v Hf1 H1 e1 r1=>⟨i,rep_int r1,o Hf1 H1 e1⟩
  | _=>exact (show False from o).elim
 | exc x=>rw [hg] at o;exact o
 | bad=>rw [hg] at o;exact o⟩
def cutD (xs:List D) (lo hi:Option Int):List D:=(xs.drop (HT.sIx xs.length 0 lo)).take (HT.sIx xs.length xs.length hi - HT.sIx xs.length 0 lo)
theorem cut_reps {K:Kx} {H:Hp} {ds:List D} {vs:List V} (h:Reps K H ds vs) (lo hi:Option Int):Reps K H (cutD ds lo hi) (cutV vs lo hi):=by
 unfold cutD cutV
 rw [h.length]
 exact (h.drop _).take _
theorem ints_reps {K:Kx} {H:Hp}:∀ (bs:List Int),Reps K H (bs.map D.int) (bs.map V.int)
 | []=>Reps.nil
 | b :: bs=>Reps.cons (rfl:V.int b = .int b) (ints_reps bs)
def sliceD (x:D) (lo hi:Option Int):Res D:=match x with
 | .lst xs=>.val (.lst (cutD xs lo hi))
 | .scr ns=>.val (.lst (cutD (ns.map D.int) lo hi))
 | .str z=>if lenOk z.length = true then .val (.str (Txt.slice z lo hi)) else .bad
 | .tup xs=>if HT.sIx xs.length 0 lo = 0/\HT.sIx xs.length xs.length hi = xs.length then .bad else .val (.tup (cutD xs lo hi))
 | _=>.bad
end
end DL
namespace DL
open PySem L2
def spD (K:Kx) (n:Nat) (F:List D->Res DV):Sp:=fun vs H Q E=>vs.length = n/\∃ Hf ds,Same Hf H/\Reps K Hf ds vs/\OutO ⟨K,Hf,H⟩ (fun C od _ H'=>E C od H') Hf H [] (F ds) Q
section
variable {Z:Zt} {E:XS} {X:Cx}
def calO (F:List D->Res DV) (k:Dst->Res (List D)):Dst->Res DV:=fun δ=>k δ >>= fun xs=>F xs
theorem out_zt {Z':Zt} {E':XS} {Hf H:Hp} {σ σ':L2.St} {r:Res DV} {Q:VK} (o:OutO Z E Hf H σ r Q) (hk:Z.K = Z'.K) (he:∀ C od H',E C od σ H'->E' C od σ' H'):OutO Z' E' Hf H σ' r Q:=by
 cases r with
 | val x=>exact fun v Hf1 H1 e1 r1 n1=>o v Hf1 H1 e1 (hk ▸ r1) n1
 | exc x=>exact fun C od Hf1 H1 e1 r1=>he _ _ _ (o C od Hf1 H1 e1 (r1.zt hk.symm))
 | bad=>exact o
theorem d_callO {k:Nat} {f:Addr} {fd:FuncData} {ps:List Str} {x:Str} {p pos:Pos} {e:Expr} {es:List Expr} {F:List D->Res DV} {g:Dst->Res (List D)} {kx:Kx} (G:FnOk X.prog X.w X.K X.mg X.base (CX1 X.prog X.w) k f fd ps (spD kx ps.length F)) (hr:Room k X.A) (hg:Gl X x) (hm:X.mg x = some (.ref f)) (hk:PySem.W.keepIn X.K (.ref f) = true) (hb:Binds X.K fd ps [])
  (hl:(e :: es).length = ps.length) (L:Lands X E) (hxa:Z.K = kx) (ha:PA X (e :: es) (tFs Z E g)) (hdb:(x == ("__debug__":Str)) = false:=by decide) (he:starEach (e :: es) X.env = (false,eval e X.env) :: starEach es X.env:=by rfl) (hpl:(backTo pos (starEach es X.env)).any (·.1) = false:=by rfl)
  (hlen:∀ δ ds,g δ = .val ds->ds.length = ps.length) :
  PE X (.Call (.Name x p) (e :: es) [] pos) (tO Z E (calO F g)):=
 (pe_callX G hr hg hm hk hb .nil L ha hdb he hpl).imp fun σ H Q ⟨Hf,δ,sr,o⟩=>⟨Hf,δ,sr,by
  cases hgd:g δ with
  | val ds=>
   have o1:OutO Z E Hf H σ (F ds) Q:=by have:=o;unfold calO at this;rw [hgd] at this;exact this
   intro vs Hf1 H1 e1 r1
   show spD kx ps.length F (vs ++ []) H1 Q _
   rw [List.append_nil]
   refine ⟨by rw [r1.length,hlen δ ds hgd],Hf1,ds,e1.s,hxa ▸ r1,?_⟩
   exact out_zt (OutO.ext o1 e1) hxa fun _ _ _ q=>q
  | exc x=>exact (show OutO Z E Hf H σ (.exc x) Q from by have:=o;unfold calO at this;rw [hgd] at this;exact this)
  | bad=>exact (show OutO Z E Hf H σ .bad Q from by have:=o;unfold calO at this;rw [hgd] at this;exact this)⟩
theorem nilA_len {δ:Dst} {ds:List D} (h:nilA δ = .val ds):ds.length = 0:=by
 unfold nilA at h
 cases h
 rfl
theorem consA_len {g:Dst->Res D} {k:Dst->Res (List D)} {n:Nat} (hk:∀ δ ds,k δ = .val ds->ds.length = n):∀ δ ds,consA g k δ = .val ds->ds.length = n + 1:=by
 intro δ ds h
 unfold consA at h
 cases hg:g δ with
 | val x=>
  rw [hg] at h
  have h:(k δ >>= fun xs=>Res.val (x :: xs)) = .val ds:=h
  cases hk':k δ with
  | val xs=>
   rw [hk'] at h
   have h:Res.val (x :: xs) = .val ds:=h
   cases h
   rw [List.length_cons,hk δ xs hk']
  | exc y=>rw [hk'] at h;cases h
  | bad=>rw [hk'] at h;cases h
 | exc y=>rw [hg] at h;cases h
 | bad=>rw [hg] at h;cases h
inductive So where
 | next (δ:Dst) | ret (x:DV) | brk (δ:Dst) | cont (δ:Dst) | exc (x:Xc) (δ:Dst) | bad
def OutS (Z:Zt) (E:XS) (Hf:Hp) (r:So) (D:Ends):Prop:=match r with
 | .next δ'=>∀ σ' Hf' H',SR Z Hf' H' σ' δ'->Same Hf Hf'->D.nx σ' H'
 | .ret x=>∀ v Hf' H',Ext Z.Hf Z.H Hf' H'->RepV Z.K Hf' H' v x->(∀ p,x.own = true->v = .ref p->Z.H p = none)->D.rt v H'
 | .brk δ'=>∀ σ' Hf' H',SR Z Hf' H' σ' δ'->Same Hf Hf'->D.bk σ' H'
 | .cont δ'=>∀ σ' Hf' H',SR Z Hf' H' σ' δ'->Same Hf Hf'->D.ct σ' H'
 | .exc x δ'=>∀ C od σ' Hf' H',SR Z Hf' H' σ' δ'->Same Hf Hf'->RepX Z Hf' H' C od x->E C od σ' H'
 | .bad=>False
def tS (Z:Zt) (E:XS) (h:Dst->So):TS:=fun D σ H=>∃ Hf δ,SR Z Hf H σ δ/\OutS Z E Hf (h δ) D
theorem OutS.mono {Hf Hf':Hp} {r:So} {D:Ends} (s:Same Hf Hf') (o:OutS Z E Hf r D):OutS Z E Hf' r D:=by
 cases r with
 | next δ=>exact fun σ' Hf2 H2 sr sm=>o σ' Hf2 H2 sr (s.trans sm)
 | ret x=>exact o
 | brk δ=>exact fun σ' Hf2 H2 sr sm=>o σ' Hf2 H2 sr (s.trans sm)
 | cont δ=>exact fun σ' Hf2 H2 sr sm=>o σ' Hf2 H2 sr (s.trans sm)
 | exc x δ=>exact fun C od σ' Hf2 H2 sr sm=>o C od σ' Hf2 H2 sr (s.trans sm)
 | bad=>exact o
def So.bind (r:So) (k:Dst->So):So:=match r with
 | .next δ=>k δ
 | r=>r
def seqS (a b:Dst->So):Dst->So:=fun δ=>(a δ).bind b
def nilS:Dst->So:=fun δ=>.next δ
theorem s_nil:PSs X [] (tS Z E nilS):=pss_nil.imp fun D σ H ⟨Hf,δ,sr,o⟩=>o σ Hf H sr (Same.refl _)
theorem s_cons {st:Stmt} {rest:List Stmt} {a b:Dst->So} (h1:PS X st (tS Z E a)) (h2:PSs X rest (tS Z E b)):PSs X (st :: rest) (tS Z E (seqS a b)):=
 (pss_cons h1 h2).imp fun D σ H ⟨Hf,δ,sr,o⟩=>⟨Hf,δ,sr,by
  have o:OutS Z E Hf ((a δ).bind b) D:=o
  cases ha:a δ with
  | next δ'=>rw [ha] at o;exact fun σ' Hf' H' sr' sm'=>⟨Hf',δ',sr',OutS.mono sm' (show OutS Z E Hf (b δ') D from o)⟩
  | ret x=>rw [ha] at o;exact o
  | brk x=>rw [ha] at o;exact o
  | cont x=>rw [ha] at o;exact o
  | exc x δ'=>rw [ha] at o;exact o
  | bad=>rw [ha] at o;exact o⟩
theorem s_one {st:Stmt} {a:Dst->So} (h1:PS X st (tS Z E a)):PSs X [st] (tS Z E a):=pss_one h1
theorem SR.set {Hf H:Hp} {σ:L2.St} {δ:Dst} {i:Nat} {v:V} {x:DV} (sr:SR Z Hf H σ δ) (r:RepV Z.K Hf H v x) (hn:∀ p,x.own = true->v = .ref p->Z.H p = none) (hu:∀ p,x.own = true->v = .ref p->∀ (j:Nat) (y:DV),j ≠ i->δ[j]? = some (some y)->y.own = true->σ[j]? ≠ some (some (.ref p))):SR Z Hf H (σ.set i (some v)) (δ.set i (some x)) where
 e:=sr.e
 len:=by rw [List.length_set,List.length_set,sr.len]
 at_:=fun j y h=>by
  by_cases hij:i = j
  ·subst hij
   by_cases hl:i < δ.length
   ·rw [List.getElem?_set_self hl] at h
    cases h
    exact ⟨v,List.getElem?_set_self (by rw [sr.len];exact hl),r⟩
   ·rw [List.getElem?_eq_none_iff.mpr (by rw [List.length_set];omega)] at h
    cases h
  ·rw [List.getElem?_set_ne hij] at h ⊢
   exact sr.at_ j y h
 one:=fun j k y z p h1 h2 o1 o2 s1 s2=>by
  by_cases hij:i = j
  ·by_cases hik:i = k
   ·omega
   ·exfalso
    subst hij
    have hl:i < δ.length:=by
     have:=(List.getElem?_eq_some_iff.mp h1).1
     rw [List.length_set] at this
     exact this
    rw [List.getElem?_set_self hl] at h1
    rw [List.getElem?_set_self (by rw [sr.len];exact hl)] at s1
    cases h1
    cases s1
    rw [List.getElem?_set_ne hik] at h2 s2
    exact hu p o1 rfl k z (fun q=>hik q.symm) h2 o2 s2
  ·by_cases hik:i = k
   ·exfalso
    subst hik
    have hl:i < δ.length:=by
     have:=(List.getElem?_eq_some_iff.mp h2).1
     rw [List.length_set] at this
     exact this
    rw [List.getElem?_set_self hl] at h2
    rw [List.getElem?_set_self (by rw [sr.len];exact hl)] at s2
    cases h2
    cases s2
    rw [List.getElem?_set_ne hij] at h1 s1
    exact hu p o2 rfl j y (fun q=>hij q.symm) h1 o1 s1
   ·rw [List.getElem?_set_ne hij] at h1 s1
    rw [List.getElem?_set_ne hik] at h2 s2
    exact sr.one j k y z p h1 h2 o1 o2 s1 s2
 new:=fun j y p h o s=>by
  by_cases hij:i = j
  ·subst hij
   have hl:i < δ.length:=by
    have:=(List.getElem?_eq_some_iff.mp h).1
    rw [List.length_set] at this
    exact this
   rw [List.getElem?_set_self hl] at h
   rw [List.getElem?_set_self (by rw [sr.len];exact hl)] at s
   cases h
   cases s
   exact hn p o rfl
  ·rw [List.getElem?_set_ne hij] at h s
   exact sr.new j y p h o s
theorem SR.setF {Hf H:Hp} {σ:L2.St} {δ:Dst} {i:Nat} {v:V} {d:D} (sr:SR Z Hf H σ δ) (r:Rep Z.K Hf d v):SR Z Hf H (σ.set i (some v)) (δ.set i (some (.fz d))):=
 sr.set r (fun _ z=>nomatch z) (fun _ z=>nomatch z)
theorem SR.own {Hf H:Hp} {σ:L2.St} {δ:Dst} {j:Nat} {y:DV} {p:Addr} (sr:SR Z Hf H σ δ) (h:δ[j]? = some (some y)) (o:y.own = true) (s:σ[j]? = some (some (.ref p))):∃ u,H p = some u:=by
 obtain ⟨v,h1,h2⟩:=sr.at_ j y h
 rw [s] at h1
 cases h1
 cases y with
 | fz d=>cases o
 | ol ds=>obtain ⟨q,vs,e,_,h3,_⟩:=h2;cases e;exact ⟨_,h3⟩
 | od ds=>obtain ⟨q,vs,e,_,h3,_⟩:=h2;cases e;exact ⟨_,h3⟩
def ofR (r:Res DV) (δ:Dst) (k:DV->So):So:=match r with
 | .val x=>k x
 | .exc x=>.exc x δ
 | .bad=>.bad
def setS (i:Nat) (g:Dst->Res DV):Dst->So:=fun δ=>ofR (g δ) δ fun x=>.next (δ.set i (some x))
theorem SR.setO {Hf H Hf' H':Hp} {σ:L2.St} {δ:Dst} {i:Nat} {v:V} {x:DV} (sr:SR Z Hf H σ δ) (e:Ext Hf H Hf' H') (r:RepV Z.K Hf' H' v x) (hn:∀ p,x.own = true->v = .ref p->H p = none):SR Z Hf' H' (σ.set i (some v)) (δ.set i (some x)):=
 (sr.ext e).set r (fun p z1 z2=>sr.e.h.free (hn p z1 z2)) (fun p z1 z2 j y hj hd ho hs=>by
  obtain ⟨u,hu⟩:=sr.own hd ho hs
  rw [hn p z1 z2] at hu
  cases hu)
theorem s_setO {i:Nat} {x:Str} {e:Expr} {g:Dst->Res DV} {pos pos':Pos} (hN:X.N.Nodup) (hi:X.N[i]? = some x) (hx:Loc X.env.scope x) (he:PE X e (tO Z E g)) (hs:swapsWith e (some (.Name x pos')) pos.line X.env = pure false:=by rfl) (hf:X.fn x = true\/X.env.scope.names.lookup x = some .local:=by first | exact .inl rfl | exact .inr rfl | assumption) :
  PS X (.Assign [.Name x pos'] e pos) (tS Z E (setS i g)):=
 (ps_set hN hi hx he hs hf).imp fun D σ H ⟨Hf,δ,sr,o⟩=>⟨Hf,δ,sr,by
  have o:OutS Z E Hf (ofR (g δ) δ fun x=>.next (δ.set i (some x))) D:=o
  cases hg:g δ with
  | val y=>rw [hg] at o;exact fun v Hf' H' e' r' n'=>o _ Hf' H' (sr.setO e' r' n') e'.f
  | exc y=>rw [hg] at o;exact fun C od Hf' H' e' r'=>o C od σ Hf' H' (sr.ext e') e'.f r'
  | bad=>rw [hg] at o;exact o⟩
theorem s_set {i:Nat} {x:Str} {e:Expr} {g:Dst->Res D} {pos pos':Pos} (hN:X.N.Nodup) (hi:X.N[i]? = some x) (hx:Loc X.env.scope x) (he:PE X e (tF Z E g)) (hs:swapsWith e (some (.Name x pos')) pos.line X.env = pure false:=by rfl) (hf:X.fn x = true\/X.env.scope.names.lookup x = some .local:=by first | exact .inl rfl | exact .inr rfl | assumption) :
  PS X (.Assign [.Name x pos'] e pos) (tS Z E (setS i fun δ=>g δ >>= fun d=>.val (.fz d))):=s_setO hN hi hx (d_own he) hs hf
def retS (g:Dst->Res DV):Dst->So:=fun δ=>ofR (g δ) δ .ret
theorem s_retO {e:Expr} {g:Dst->Res DV} {pos:Pos} (he:PE X e (tO Z E g)):PS X (.Return (some e) pos) (tS Z E (retS g)):=
 (ps_ret he).imp fun D σ H ⟨Hf,δ,sr,o⟩=>⟨Hf,δ,sr,by
  unfold retS at o
  cases hg:g δ with
  | val y=>rw [hg] at o;exact fun v Hf' H' e' r' n'=>o v Hf' H' (sr.e.trans e') r' fun p z1 z2=>sr.e.h.free (n' p z1 z2)
  | exc y=>rw [hg] at o;exact fun C od Hf' H' e' r'=>o C od σ Hf' H' (sr.ext e') e'.f r'
  | bad=>rw [hg] at o;exact o⟩
theorem s_ret {e:Expr} {g:Dst->Res D} {pos:Pos} (he:PE X e (tF Z E g)):PS X (.Return (some e) pos) (tS Z E (retS fun δ=>g δ >>= fun d=>.val (.fz d))):=s_retO (d_own he)
theorem s_retN {pos:Pos}:PS X (.Return none pos) (tS Z E fun _=>.ret (.fz .non)):=
 (ps_retN).imp fun D σ H ⟨Hf,δ,sr,o⟩=>o .non Hf H sr.e (rfl:V.non = .non) (fun _ z=>nomatch z)
def retV (i:Nat):Dst->So:=fun δ=>match δ[i]? with
 | some (some x)=>.ret x
 | _=>.bad
theorem s_retV {e:Expr} {i:Nat} {pos:Pos} (he:PE X e (tVar i)):PS X (.Return (some e) pos) (tS Z E (retV i)):=
 (ps_ret he).imp fun D σ H ⟨Hf,δ,sr,o⟩=>by
  unfold retV at o
  split at o
  ·rename_i x q
   obtain ⟨v,h1,h2⟩:=sr.at_ i x q
   exact ⟨v,h1,o v Hf H sr.e h2 fun p z1 z2=>sr.new i x p q z1 (by rw [h1,z2])⟩
  ·exact o.elim
def ifS (c:Dst->Res Bool) (a b:Dst->So):Dst->So:=fun δ=>match c δ with
 | .val true=>a δ
 | .val false=>b δ
 | .exc x=>.exc x δ
 | .bad=>.bad
theorem s_if {c:Expr} {a b:List Stmt} {g:Dst->Res Bool} {ka kb:Dst->So} {pos:Pos} (hc:PT X c (tFt Z E g)) (ha:PSs X a (tS Z E ka)) (hb:PSs X b (tS Z E kb)):PS X (.If c a b pos) (tS Z E (ifS g ka kb)):=
 (ps_if hc ha hb).imp fun D σ H ⟨Hf,δ,sr,o⟩=>⟨Hf,δ,sr,by
  unfold ifS at o
  cases hg:g δ with
  | val y=>
   rw [hg] at o
   intro Hf' H' e'
   cases y with
   | true=>exact ⟨Hf',δ,sr.ext e',OutS.mono e'.f o⟩
   | false=>exact ⟨Hf',δ,sr.ext e',OutS.mono e'.f o⟩
  | exc y=>rw [hg] at o;exact fun C od Hf' H' e' r'=>o C od σ Hf' H' (sr.ext e') e'.f r'
  | bad=>rw [hg] at o;exact o⟩
end
def fin (r:So):Res DV:=match r with
 | .next _=>.val (.fz .non)
 | .ret x=>.val x
 | .exc x _=>.exc x
 | _=>.bad
def startD (n:Nat) (ds:List D):Dst:=ds.map (fun d=>some (.fz d)) ++ List.replicate (n - ds.length) none
def fnD (n:Nat) (g:Dst->So):List D->Res DV:=fun ds=>fin (g (startD n ds))
theorem start_sr {K:Kx} {Hf H:Hp} {N:List Str} {ds:List D} {vs:List V} (s:Same Hf H) (r:Reps K Hf ds vs):SR ⟨K,Hf,H⟩ Hf H (L2.start N vs) (startD N.length ds) where
 e:=Ext.refl s
 len:=by
  unfold L2.start startD
  simp only [List.length_append,List.length_map,List.length_replicate,r.length]
 at_:=fun i x h=>by
  unfold startD at h
  unfold L2.start
  have hl:=r.length
  by_cases hi:i < ds.length
  ·rw [List.getElem?_append_left (by simpa using hi),List.getElem?_map] at h
   cases hd:ds[i]? with
   | none=>rw [hd] at h;cases h
   | some d=>
    rw [hd] at h
    cases h
    obtain ⟨v,h1,h2⟩:=r.get hd
    refine ⟨v,?_,h2⟩
    rw [List.getElem?_append_left (by simpa [hl] using hi),List.getElem?_map,h1]
    rfl
  ·rw [List.getElem?_append_right (by simpa using hi)] at h
   have:=List.mem_of_getElem? h
   rw [List.mem_replicate] at this
   cases this.2
 one:=fun i j x y p h1 h2 o1=>by
  exfalso
  unfold startD at h1
  by_cases hi:i < ds.length
  ·rw [List.getElem?_append_left (by simpa using hi),List.getElem?_map] at h1
   cases hd:ds[i]? with
   | none=>rw [hd] at h1;cases h1
   | some d=>rw [hd] at h1;cases h1;cases o1
  ·rw [List.getElem?_append_right (by simpa using hi)] at h1
   have:=List.mem_of_getElem? h1
   rw [List.mem_replicate] at this
   cases this.2
 new:=fun i x p h1 o1=>by
  exfalso
  unfold startD at h1
  by_cases hi:i < ds.length
  ·rw [List.getElem?_append_left (by simpa using hi),List.getElem?_map] at h1
   cases hd:ds[i]? with
   | none=>rw [hd] at h1;cases h1
   | some d=>rw [hd] at h1;cases h1;cases o1
  ·rw [List.getElem?_append_right (by simpa using hi)] at h1
   have:=List.mem_of_getElem? h1
   rw [List.mem_replicate] at this
   cases this.2
section
variable {P:Program} {w:World} {K:PySem.W.Frag} {mg:Str->Option Value} {base:Heap}
theorem def_ok {x qual:Str} {st:Stmt} {f:Addr} {fd:FuncData} {N ps:List Str} {k:Nat} {g:Dst->So} {kx:Kx} (F:Fun K x qual st f fd) (S:FnScope N ps (defScope st))
  (hbody:∀ (cdv:Value) (A:Around) (outer:List Env) (s:Shared) (H:Hp) (E:XK) (Hf:Hp),Room k (A.deeper (PyProof.Rows.envOfC qual (defScope st) s.heap.objs.size f cdv)) →
   PSs (cxOf (CX1 P w) P w K mg base N qual (defScope st) f cdv A outer s H E) (defBody st) (tS ⟨kx,Hf,H⟩ (fun C od _ H'=>E C od H') g)):FnOk P w K mg base (CX1 P w) (k + 1) f fd ps (spD kx ps.length (fnD N.length g)):=by
 refine F.x.okX S (fun vs H Q E h=>h.1) (fun cdv A outer s H vs Q E hr h=>?_)
 obtain ⟨hl,Hf,ds,sm,r,o⟩:=h
 refine ⟨_,hbody cdv A outer s H E Hf hr,Hf,startD N.length ds,start_sr sm r,?_⟩
 unfold fnD at o
 cases hg:g (startD N.length ds) with
 | next δ=>rw [hg] at o;exact fun σ' Hf' H' sr _=>o .non Hf' H' sr.e (rfl:V.non = .non) (fun _ z=>nomatch z)
 | ret y=>rw [hg] at o;exact fun v Hf' H' e r n=>o v Hf' H' e r n
 | brk δ=>rw [hg] at o;exact o.elim
 | cont δ=>rw [hg] at o;exact o.elim
 | exc y δ=>rw [hg] at o;exact fun C od σ' Hf' H' sr' _ r=>o C od Hf' H' sr'.e r
 | bad=>rw [hg] at o;exact o
end
end DL
namespace DL
open PySem L2
def Del (K:Kx) (J:It) (Hf:Hp) (ds:List D):Prop:=∀ (i:Nat) (Hf' H':Hp),Same Hf Hf'->Same Hf' H' →
 (∀ d,ds[i]? = some d->J.go i H'/\∀ x H2,J.yld i H' x H2->∃ Hf2,Ext Hf' H' Hf2 H2/\Rep K Hf2 d x)/\(ds.length ≤ i->J.stop i H')
section
variable {Z:Zt} {E:XS} {X:Cx}
def OutI (Z:Zt) (E:XS) (Hf H:Hp) (σ:L2.St) (r:Res (List D)) (R:It->Hp->Prop):Prop:=match r with
 | .val ds=>∀ J Hf' H',Ext Hf H Hf' H'->Del Z.K J Hf' ds->R J H'
 | .exc x=>∀ C od Hf' H',Ext Hf H Hf' H'->RepX Z Hf' H' C od x->E C od σ H'
 | .bad=>False
def tI (Z:Zt) (E:XS) (g:Dst->Res (List D)):TI:=fun σ H R=>∃ Hf δ,SR Z Hf H σ δ/\OutI Z E Hf H σ (g δ) R
theorem PI.or {tg l:Expr} {t t':TI} (h:PI X tg l t) (h':PI X tg l t'):PI X tg l (fun σ H R=>t σ H R\/t' σ H R):=by
 intro pins s σ H R I q
 rcases q with q | q
 ·exact h pins s σ H R I q
 ·exact h' pins s σ H R I q
def itemsD:D->Res (List D)
 | .lst ds=>.val ds
 | .tup ds=>.val ds
 | .scr ns=>.val (ns.map D.int)
 | .str z=>.val (z.cps.toList.map fun c=>.str ⟨#[c]⟩)
 | _=>.bad
theorem del_list {K:Kx} {Hf:Hp} {a:Addr} {ds:List D} {vs:List V} (h:SqL K.fr Hf a vs) (r:Reps K Hf ds vs):Del K (Itl K.fr a) Hf ds:=by
 intro i Hf' H' s1 s2
 have h':=s2.seq (s1.seq h)
 refine ⟨fun d e=>?_,fun hl=>⟨vs,h',by rw [r.length];exact hl⟩⟩
 obtain ⟨v,e1,r1⟩:=r.get e
 refine ⟨⟨vs,v,h',e1⟩,fun x H2 hy=>?_⟩
 obtain ⟨rfl,hx⟩:=hy
 have:=hx vs h'
 rw [e1] at this
 cases this
 exact ⟨Hf',Ext.refl s2,r1.same s1⟩
theorem del_tup {K:Kx} {Hf:Hp} {a:Addr} {ds:List D} {vs:List V} (h:SqT K.fr Hf a vs) (r:Reps K Hf ds vs):Del K (Itt K.fr a) Hf ds:=by
 intro i Hf' H' s1 s2
 have h':=s2.seqT (s1.seqT h)
 refine ⟨fun d e=>?_,fun hl=>⟨vs,h',by rw [r.length];exact hl⟩⟩
 obtain ⟨v,e1,r1⟩:=r.get e
 refine ⟨⟨vs,v,h',e1⟩,fun x H2 hy=>?_⟩
 obtain ⟨rfl,hx⟩:=hy
 have:=hx vs h'
 rw [e1] at this
 cases this
 exact ⟨Hf',Ext.refl s2,r1.same s1⟩
theorem del_str {K:Kx} {Hf:Hp} {z:Str}:Del K (Its z) Hf (z.cps.toList.map fun c=>.str ⟨#[c]⟩):=by
 intro i Hf' H' s1 s2
 refine ⟨fun d e=>?_,fun hl=>?_⟩
 ·rw [List.getElem?_map] at e
  cases hc:z.cps.toList[i]? with
  | none=>rw [hc] at e;cases e
  | some c=>
   rw [hc] at e
   cases e
   have hi:i < z.cps.size:=by
    have:=(List.getElem?_eq_some_iff.mp hc).1
    simpa using this
   refine ⟨hi,fun x H2 hy=>?_⟩
   obtain ⟨rfl,c',hc',rfl⟩:=hy
   have:c' = c:=by
    have h2:z.cps.toList[i]? = z.cps[i]?:=by simp
    rw [h2,hc'] at hc
    exact Option.some.inj hc
   subst this
   exact ⟨Hf',Ext.refl s2,(rfl:V.str _ = .str _)⟩
 ·show z.cps.size ≤ i
  simpa using hl
theorem i_seq {tg l:Expr} {g:Dst->Res D} (h:PE X l (tF Z E g)) (hK:Z.K.fr = X.K:=by rfl):PI X tg l (tI Z E fun δ=>g δ >>= itemsD):=
 (PI.or (pi_list h) (PI.or (pi_tup h) (pi_str h))).imp fun σ H R ⟨Hf,δ,sr,o⟩=>by
  have o:OutI Z E Hf H σ (g δ >>= itemsD) R:=o
  cases hg:g δ with
  | val d=>
   rw [hg] at o
   have o:OutI Z E Hf H σ (itemsD d) R:=o
   cases d with
   | lst ds=>
    refine .inl ⟨Hf,δ,sr,?_⟩
    rw [hg]
    intro v Hf1 H1 e1 r1
    obtain ⟨a,vs,rfl,h1,q1⟩:=rep_lst r1
    exact ⟨a,rfl,⟨vs,hK ▸ e1.s.seq h1⟩,o _ Hf1 H1 e1 (hK ▸ del_list h1 q1)⟩
   | tup ds=>
    refine .inr (.inl ⟨Hf,δ,sr,?_⟩)
    rw [hg]
    intro v Hf1 H1 e1 r1
    obtain ⟨a,vs,rfl,h1,q1⟩:=rep_tup r1
    exact ⟨a,rfl,⟨vs,hK ▸ e1.s.seqT h1⟩,o _ Hf1 H1 e1 (hK ▸ del_tup h1 q1)⟩
   | str z=>
    refine .inr (.inr ⟨Hf,δ,sr,?_⟩)
    rw [hg]
    intro v Hf1 H1 e1 r1
    cases rep_str r1
    exact ⟨z,rfl,o _ Hf1 H1 e1 del_str⟩
   | non=>exact (show False from o).elim
   | bl b=>exact (show False from o).elim
   | int b=>exact (show False from o).elim
   | ty b=>exact (show False from o).elim
   | dic b=>exact (show False from o).elim
   | dct b=>exact (show False from o).elim
   | exn b c=>exact (show False from o).elim
   | obj b c=>exact (show False from o).elim
   | scr ns=>
    refine .inl ⟨Hf,δ,sr,?_⟩
    rw [hg]
    intro v Hf1 H1 e1 r1
    obtain ⟨a,rfl,h1⟩:=rep_scr r1
    exact ⟨a,rfl,⟨_,hK ▸ e1.s.seq h1⟩,o _ Hf1 H1 e1 (hK ▸ del_list h1 (ints_reps ns))⟩
  | exc x=>
   refine .inl ⟨Hf,δ,sr,?_⟩
   rw [hg] at o ⊢
   exact o
  | bad=>rw [hg] at o;exact (show False from o).elim
def rangeL (lo:Int) (n:Nat):List D:=(List.range n).map fun (i:Nat)=>.int (lo + i)
theorem del_range {K:Kx} {Hf:Hp} {lo:Int} {n:Nat}:Del K (Itr lo n) Hf (rangeL lo n):=by
 intro i Hf' H' s1 s2
 refine ⟨fun d e=>?_,fun hl=>?_⟩
 ·unfold rangeL at e
  rw [List.getElem?_map] at e
  cases hc:(List.range n)[i]? with
  | none=>rw [hc] at e;cases e
  | some c=>
   rw [hc] at e
   cases e
   have hi:=(List.getElem?_eq_some_iff.mp hc).1
   have hi':i < n:=by simpa using hi
   have hci:c = i:=by
    rw [List.getElem?_range hi'] at hc
    exact (Option.some.inj hc).symm
   subst hci
   refine ⟨hi',fun x H2 hy=>?_⟩
   obtain ⟨rfl,rfl⟩:=hy
   exact ⟨Hf',Ext.refl s2,(rfl:V.int _ = .int _)⟩
 ·show n ≤ i
  unfold rangeL at hl
  simpa using hl
def okI (i:Int):Bool:=decide (-(2 ^ 62) ≤ i) && decide (i < 2 ^ 62)
def range1:List D->Res (List D)
 | [.int j]=>if okI j = true then .val (rangeL 0 j.toNat) else .bad
 | _=>.bad
theorem A.I {Hf H:Hp} {σ:L2.St} {r:Res (List D)} {k:List D->Res (List D)} {R:It->Hp->Prop} {Q1:List V->Hp->Prop} (o:OutI Z E Hf H σ (r >>= k) R) (h:∀ d v Hf' H',Ext Hf H Hf' H'->Reps Z.K Hf' d v->OutI Z E Hf H σ (k d) R->Q1 v H'):OutA Z E Hf H σ r Q1:=by
 cases r with
 | val d=>exact fun v Hf1 H1 e1 h1=>h d v Hf1 H1 e1 h1 o
 | exc x=>exact o
 | bad=>exact o
theorem i_range1 {tg a:Expr} {k:Dst->Res (List D)} {p pos:Pos} (hg:Gl X "range") (hm:X.mg "range" = none) (ha:PA X [a] (tFs Z E k)) (hs:starEach [a] X.env = [(false,eval a X.env)]:=by rfl):PI X tg (.Call (.Name "range" p) [a] [] pos) (tI Z E fun δ=>k δ >>= range1):=
 (pi_range1 hg hm ha hs).imp fun σ H R ⟨Hf,δ,sr,o⟩=>⟨Hf,δ,sr,A.I o fun ds vs Hf1 H1 e1 r1 o1=>by
  unfold range1 at o1
  split at o1
  ·split at o1
   ·rename_i hj
    obtain ⟨v,rfl,h1⟩:=r1.one
    cases rep_int h1
    unfold okI at hj
    rw [Bool.and_eq_true,decide_eq_true_eq,decide_eq_true_eq] at hj
    exact ⟨_,rfl,hj.1,hj.2,o1 _ Hf1 H1 e1 del_range⟩
   ·exact o1.elim
  ·exact o1.elim⟩
def tG (Z:Zt) (b:D->Dst->Option Dst):TG:=fun v σ H Q=>∃ Hf δ d,SR Z Hf H σ δ/\Rep Z.K Hf d v/\∃ δ',b d δ = some δ'/\∀ σ',SR Z Hf H σ' δ'->Q σ' H
def tGs (Z:Zt) (b:List D->Dst->Option Dst):TGs:=fun vs σ H Q=>∃ Hf δ ds,SR Z Hf H σ δ/\Reps Z.K Hf ds vs/\∃ δ',b ds δ = some δ'/\∀ σ',SR Z Hf H σ' δ'->Q σ' H
theorem PG.imp {e:Expr} {t t':TG} (h:PG X e t) (m:∀ v σ H Q,t' v σ H Q->t v σ H Q):PG X e t':=by
 unfold PG at h ⊢
 intro pins s σ H v u Q I r q
 exact h pins s σ H v u Q I r (m _ _ _ _ q)
theorem PGs.imp {e:List Expr} {t t':TGs} (h:PGs X e t) (m:∀ v σ H Q,t' v σ H Q->t v σ H Q):PGs X e t':=by
 unfold PGs at h ⊢
 intro pins s σ H v u Q I r q
 exact h pins s σ H v u Q I r (m _ _ _ _ q)
end
end DL
namespace DL
open PySem L2
section
variable {Z:Zt} {E:XS} {X:Cx}
def bName (i:Nat):D->Dst->Option Dst:=fun d δ=>some (δ.set i (some (.fz d)))
theorem g_name {i:Nat} {x:Str} {pos:Pos} (hN:X.N.Nodup) (hi:X.N[i]? = some x) (hx:Loc X.env.scope x) (hf:X.fn x = true\/X.env.scope.names.lookup x = some .local:=by first | exact .inl rfl | exact .inr rfl | assumption):PG X (.Name x pos) (tG Z (bName i)):=
 PG.imp (pg_name hN hi hx hf) fun v σ H Q ⟨Hf,δ,d,sr,r,δ',e,q⟩=>by
  cases e
  exact q _ (sr.setF r)
def bNil:List D->Dst->Option Dst:=fun ds δ=>match ds with
 | []=>some δ
 | _=>none
def bCons (b:D->Dst->Option Dst) (bs:List D->Dst->Option Dst):List D->Dst->Option Dst:=fun ds δ=>match ds with
 | d :: r=>(b d δ).bind (bs r)
 | []=>none
theorem g_nil:PGs X [] (tGs Z bNil):=PGs.imp pgs_nil fun vs σ H Q ⟨Hf,δ,ds,sr,r,δ',e,q⟩=>by
 cases ds with
 | nil=>cases e;exact ⟨reps_nil.mp r,q _ sr⟩
 | cons d ds=>cases e
theorem g_cons {e:Expr} {es:List Expr} {b:D->Dst->Option Dst} {bs:List D->Dst->Option Dst} (h1:PG X e (tG Z b)) (h2:PGs X es (tGs Z bs))
  (hs:(assignEach (e :: es) X.env).map (·.2) = assign e X.env :: (assignEach es X.env).map (·.2):=by rfl):PGs X (e :: es) (tGs Z (bCons b bs)):=
 PGs.imp (pgs_cons h1 h2 hs) fun vs σ H Q ⟨Hf,δ,ds,sr,r,δ',e,q⟩=>by
  cases ds with
  | nil=>cases e
  | cons d ds=>
   obtain ⟨v,vr,rfl,r1,r2⟩:=reps_cons.mp r
   have e:(b d δ).bind (bs ds) = some δ':=e
   cases hb:b d δ with
   | none=>rw [hb] at e;cases e
   | some δ1=>
    rw [hb] at e
    exact ⟨v,vr,rfl,Hf,δ,d,sr,r1,δ1,hb,fun σ1 sr1=>⟨Hf,δ1,ds,sr1,r2,δ',e,q⟩⟩
def bTup (n:Nat) (bs:List D->Dst->Option Dst):D->Dst->Option Dst:=fun d δ=>match d with
 | .tup ds=>if ds.length = n then bs ds δ else none
 | _=>none
theorem g_tup {es:List Expr} {k:Nat} {bs:List D->Dst->Option Dst} {n:Nat} {pos:Pos} (hc:X.calm = true) (h:PGs X es (tGs Z bs)) (hK:Z.K.fr = X.K:=by rfl)
  (hn:(assignEach es X.env).length = n:=by rfl) (hst:(assignEach es X.env).findIdx? (·.1) = none:=by rfl):PG X (.Tuple es k pos) (tG Z (bTup n bs)):=
 PG.imp (pg_tup hc h hn hst) fun v σ H Q ⟨Hf,δ,d,sr,r,δ',e,q⟩=>by
  cases d with
  | tup ds=>
   obtain ⟨a,vs,rfl,h1,q1⟩:=rep_tup r
   have e:(if ds.length = n then bs ds δ else none) = some δ':=e
   split at e
   ·rename_i hl
    exact ⟨a,vs,rfl,hK ▸ sr.e.s.seqT h1,by rw [q1.length];exact hl,Hf,δ,ds,sr,q1,δ',e,q⟩
   ·cases e
  | non=>cases e
  | bl b=>cases e
  | int b=>cases e
  | str b=>cases e
  | ty b=>cases e
  | lst b=>cases e
  | dic b=>cases e
  | dct b=>cases e
  | exn b c=>cases e
  | obj b c=>cases e
  | scr b=>cases e
def turnS (r:So) (k:Dst->So):So:=match r with
 | .next δ=>k δ
 | .cont δ=>k δ
 | .brk δ=>.next δ
 | .ret x=>.ret x
 | .exc x δ=>.exc x δ
 | .bad=>.bad
def ofO (o:Option Dst) (k:Dst->So):So:=match o with
 | some δ=>k δ
 | none=>.bad
def forS (b:D->Dst->Option Dst) (body:Dst->So):List D->Dst->So
 | [],δ=>.next δ
 | d :: ds,δ=>ofO (b d δ) fun δ1=>turnS (body δ1) (forS b body ds)
def loopS (items:Dst->Res (List D)) (b:D->Dst->Option Dst) (body:Dst->So):Dst->So:=fun δ=>match items δ with
 | .val ds=>forS b body ds δ
 | .exc x=>.exc x δ
 | .bad=>.bad
theorem s_for {tg iter:Expr} {body:List Stmt} {items:Dst->Res (List D)} {b:D->Dst->Option Dst} {h:Dst->So} {pos:Pos} (hp:PassesOwn (model X.prog X.w) X.A X.env X.xe) (hc:X.calm = true) (hi:PI X tg iter (tI Z E items)) (hg:PG X tg (tG Z b)) (hb:PSs X body (tS Z E h))
  (hs:∀ x,foldedSetIterable iter X.env x = pure x:=by intro _;rfl):PS X (.For tg iter body [] pos) (tS Z E (loopS items b h)):=
 (ps_for hp hc hi hg hb hs).imp fun D σ H ⟨Hf,δ,sr,o⟩=>⟨Hf,δ,sr,by
  have o:OutS Z E Hf (loopS items b h δ) D:=o
  unfold loopS at o
  cases hd:items δ with
  | val ds=>
   rw [hd] at o
   have o:OutS Z E Hf (forS b h ds δ) D:=o
   intro J Hf1 H1 e1 del
   refine ⟨fun i m σ' H'=>m = ds.length - i/\i ≤ ds.length/\∃ Hf' δ',SR Z Hf' H' σ' δ'/\Same Hf1 Hf'/\OutS Z E Hf' (forS b h (ds.drop i) δ') D,⟨_,rfl,Nat.zero_le _,Hf1,δ,sr.ext e1,Same.refl _,OutS.mono e1.f o⟩,?_⟩
   rintro i m σ' H' ⟨rfl,hle,Hf',δ',sr',sm',o'⟩
   obtain ⟨del1,del2⟩:=del i Hf' H' sm' sr'.e.s
   cases hdr:ds.drop i with
   | nil=>
    rw [hdr] at o'
    have hl:ds.length ≤ i:=List.drop_eq_nil_iff.mp hdr
    exact .inl ⟨del2 hl,o' σ' Hf' H' sr' (Same.refl _)⟩
   | cons d rest=>
    rw [hdr] at o'
    have hlt:i < ds.length:=by
     rcases Nat.lt_or_ge i ds.length with h | h
     ·exact h
     ·rw [List.drop_eq_nil_iff.mpr h] at hdr;cases hdr
    have hdi:ds[i]? = some d:=by
     have:=List.getElem?_drop (xs:=ds) (i:=i) (j:=0)
     rw [hdr] at this
     simpa using this.symm
    have hrest:ds.drop (i + 1) = rest:=by
     rw [← List.tail_drop,hdr]
     rfl
    obtain ⟨go,yl⟩:=del1 d hdi
    have o':OutS Z E Hf' (ofO (b d δ') fun δ1=>turnS (h δ1) (forS b h rest)) D:=o'
    refine .inr ⟨go,fun σ2 H2=>∃ Hf2 δ2,SR Z Hf2 H2 σ2 δ2/\Same Hf1 Hf2/\OutS Z E Hf2 (forS b h rest δ2) D,?_,?_⟩
    ·rintro σ2 H2 ⟨Hf2,δ2,sr2,sm2,o2⟩
     exact ⟨ds.length - (i + 1),by omega,rfl,hlt,Hf2,δ2,sr2,sm2,by rw [hrest];exact o2⟩
    ·intro x H2 hy
     obtain ⟨Hf2,e2,r2⟩:=yl x H2 hy
     have sr2:=sr'.ext e2
     have sm2:=sm'.trans e2.f
     cases hbd:b d δ' with
     | none=>rw [hbd] at o';exact (show False from o').elim
     | some δ1=>
      rw [hbd] at o'
      have o':OutS Z E Hf' (turnS (h δ1) (forS b h rest)) D:=o'
      refine ⟨Hf2,δ',d,sr2,r2,δ1,hbd,fun σ3 sr3=>⟨Hf2,δ1,sr3,?_⟩⟩
      cases hh:h δ1 with
      | next δ2=>rw [hh] at o';exact fun σ4 Hf4 H4 sr4 sm4=>⟨Hf4,δ2,sr4,sm2.trans sm4,OutS.mono (e2.f.trans sm4) o'⟩
      | cont δ2=>rw [hh] at o';exact fun σ4 Hf4 H4 sr4 sm4=>⟨Hf4,δ2,sr4,sm2.trans sm4,OutS.mono (e2.f.trans sm4) o'⟩
      | brk δ2=>rw [hh] at o';exact fun σ4 Hf4 H4 sr4 sm4=>o' σ4 Hf4 H4 sr4 (e2.f.trans sm4)
      | ret x=>rw [hh] at o';exact o'
      | exc x δ2=>rw [hh] at o';exact fun C od σ4 Hf4 H4 sr4 sm4=>o' C od σ4 Hf4 H4 sr4 (e2.f.trans sm4)
      | bad=>rw [hh] at o';exact (show False from o').elim
  | exc x=>rw [hd] at o;exact fun C od Hf' H' e' r'=>o C od σ Hf' H' (sr.ext e') e'.f r'
  | bad=>rw [hd] at o;exact (show False from o).elim⟩
def noOwn (δ:Dst):Prop:=∀ (i:Nat) (x:DV),δ[i]? = some (some x)->x.own = false
def PlainB (b:D->Dst->Option Dst):Prop:=∀ d δ δ',b d δ = some δ'->noOwn δ->noOwn δ'
theorem pb_name (i:Nat):PlainB (bName i):=fun d δ δ' e n j x h=>by
 cases e
 by_cases hij:i = j
 ·subst hij
  have hl:i < δ.length:=by
   have:=(List.getElem?_eq_some_iff.mp h).1
   rw [List.length_set] at this
   exact this
  rw [List.getElem?_set_self hl] at h
  cases h
  rfl
 ·rw [List.getElem?_set_ne hij] at h
  exact n j x h
def stepC (r:Res D) (k:Res (List D)):Res (List D):=match r with
 | .val y=>k >>= fun r=>.val (y :: r)
 | _=>.bad
def testC (r:Res Bool) (a b:Res (List D)):Res (List D):=match r with
 | .val true=>a
 | .val false=>b
 | _=>.bad
def ofOC (o:Option Dst) (k:Dst->Res (List D)):Res (List D):=match o with
 | some δ=>k δ
 | none=>.bad
def compL (b:D->Dst->Option Dst) (tt:Dst->Res Bool) (te:Dst->Res D):List D->Dst->Res (List D)
 | [],_=>.val []
 | d :: ds,δ=>ofOC (b d δ) fun δ1=>testC (tt δ1) (stepC (te δ1) (compL b tt te ds δ1)) (compL b tt te ds δ1)
def capD:Option DV->Option DV
 | some (.fz d)=>some (.fz d)
 | _=>none
def compDst (n:Nat) (fr:List Nat) (δ:Dst):Dst:=List.replicate n none ++ fr.map fun j=>capD (δ[j]?).join
def olR (r:Res (List D)):Res DV:=match r with
 | .val ys=>.val (.ol ys)
 | _=>.bad
def compO (n:Nat) (fr:List Nat) (items:Dst->Res (List D)) (b:D->Dst->Option Dst) (tt:Dst->Res Bool) (te:Dst->Res D):Dst->Res DV:=fun δ=>items δ >>= fun ds=>if lenOk ds.length = true then olR (compL b tt te ds (compDst n fr δ)) else .bad
theorem compDst_at {n:Nat} {fr:List Nat} {δ:Dst} {i:Nat} {x:DV} (h:(compDst n fr δ)[i]? = some (some x)):∃ j d,n ≤ i/\fr[i - n]? = some j/\δ[j]? = some (some (.fz d))/\x = .fz d:=by
 unfold compDst at h
 by_cases hi:i < n
 ·rw [List.getElem?_append_left (by simpa using hi)] at h
  have:=List.mem_of_getElem? h
  rw [List.mem_replicate] at this
  cases this.2
 ·rw [List.getElem?_append_right (by simpa using hi),List.length_replicate,List.getElem?_map] at h
  cases hj:fr[i - n]? with
  | none=>rw [hj] at h;cases h
  | some j=>
   rw [hj] at h
   have h:some (capD (δ[j]?).join) = some (some x):=h
   have h:=Option.some.inj h
   refine ⟨j,?_⟩
   cases hd:δ[j]? with
   | none=>rw [hd] at h;cases h
   | some o=>
    rw [hd] at h
    cases o with
    | none=>cases h
    | some y=>
     cases y with
     | fz d=>exact ⟨d,by omega,rfl,rfl,(Option.some.inj h).symm⟩
     | ol d=>cases h
     | od d=>cases h
theorem comp_no {n:Nat} {fr:List Nat} {δ:Dst}:noOwn (compDst n fr δ):=fun i x h=>by
 obtain ⟨j,d,_,_,_,rfl⟩:=compDst_at h
 rfl
theorem comp_sr {Hf H Hf' H':Hp} {σ:L2.St} {δ:Dst} {xs:List Str} {fr:List Nat} (sr:SR Z Hf H σ δ) (e:Ext Hf H Hf' H'):SR Z Hf' H' (compSt xs fr σ) (compDst xs.length fr δ) where
 e:=sr.e.trans e
 len:=by
  unfold compSt compDst
  simp only [List.length_append,List.length_map,List.length_replicate]
 at_:=fun i x h=>by
  obtain ⟨j,d,h1,h2,h3,rfl⟩:=compDst_at h
  obtain ⟨v,e1,r1⟩:=sr.at_ j _ h3
  refine ⟨v,?_,r1.ext e⟩
  unfold compSt
  rw [List.getElem?_append_right (by simpa using h1),List.length_map,List.getElem?_map,h2]
  show some (σ[j]?).join = some (some v)
  rw [e1]
  rfl
 one:=fun i j x y p h1 h2 o1=>by
  obtain ⟨j,d,_,_,_,rfl⟩:=compDst_at h1
  cases o1
 new:=fun i x p h1 o1=>by
  obtain ⟨j,d,_,_,_,rfl⟩:=compDst_at h1
  cases o1
theorem SR.other {Hf H:Hp} {σ:L2.St} {δ:Dst} {p:Addr} {o:HO} (sr:SR Z Hf H σ δ) (n:noOwn δ) (hz:Z.H p = none) (hf:Hf p = none):SR Z Hf (upd H p o) σ δ where
 e:=⟨sr.e.f,fun b u e=>by rw [upd_ne (ne_of_none e hz)];exact sr.e.h b u e,fun b u e=>by rw [upd_ne (ne_of_none e hf)];exact sr.e.s b u e,sr.e.n⟩
 len:=sr.len
 at_:=fun i x h=>by
  obtain ⟨v,h1,h2⟩:=sr.at_ i x h
  refine ⟨v,h1,?_⟩
  have:=n i x h
  cases x with
  | fz d=>exact h2
  | ol d=>cases this
  | od d=>cases this
 one:=sr.one
 new:=sr.new
abbrev E0S:XS:=fun _ _ _ _=>False
theorem comp_walk {J:It} {b:D->Dst->Option Dst} {tt:Dst->Res Bool} {te:Dst->Res D} {ds ys:List D} {Hf0 H0 Hf1 H1:Hp} {D0:Addr} {σ0:L2.St} {δ0:Dst} {R:Addr->Hp->Prop} (pb:PlainB b) (del:Del Z.K J Hf1 ds) (e1:Ext Hf0 H0 Hf1 H1) (hD:H1 D0 = none) (hz:Z.H D0 = none) (hl:ds.length ≤ sizeLine)
  (sr:SR Z Hf1 (upd H1 D0 (.lst [])) σ0 δ0) (n0:noOwn δ0) (hc:compL b tt te ds δ0 = .val ys) (hR:∀ Hf H vs,Ext Hf0 H0 Hf H->Hf D0 = none->H D0 = some (.lst vs)->Reps Z.K Hf ys vs->R D0 H) :
  CompW J (tG Z b) (tFt Z E0S tt) (tF Z E0S te) R D0 σ0 (upd H1 D0 (.lst [])):=by
 have h0:H0 D0 = none:=e1.h.free hD
 refine ⟨fun i m σ H=>m = ds.length - i/\i ≤ ds.length/\∃ Hf δ pre rest vs,SR Z Hf H σ δ/\noOwn δ/\Same Hf1 Hf/\Ext Hf0 H0 Hf H/\Hf D0 = none/\H D0 = some (.lst vs)/\Reps Z.K Hf pre vs/\pre.length ≤ i/\compL b tt te (ds.drop i) δ = .val rest/\pre ++ rest = ys,
  ⟨_,rfl,Nat.zero_le _,Hf1,δ0,[],ys,[],sr,n0,Same.refl _,e1.trans (Ext.layO e1.s hD),e1.s.free hD,upd_same,Reps.nil,Nat.zero_le _,hc,rfl⟩,?_⟩
 rintro i m σ H ⟨rfl,hle,Hf,δ,pre,rest,vs,sr',no',sm',e',hf',hd',rp,hpl,hcl,hys⟩
 obtain ⟨del1,del2⟩:=del i Hf H sm' sr'.e.s
 cases hdr:ds.drop i with
 | nil=>
  rw [hdr] at hcl
  have hl':ds.length ≤ i:=List.drop_eq_nil_iff.mp hdr
  have:rest = []:=by
   have h:(Res.val []:Res (List D)) = .val rest:=hcl
   cases h
   rfl
  subst this
  rw [List.append_nil] at hys
  subst hys
  exact .inl ⟨del2 hl',hR Hf H vs e' hf' hd' rp⟩
 | cons d more=>
  rw [hdr] at hcl
  have hlt:i < ds.length:=by
   rcases Nat.lt_or_ge i ds.length with h | h
   ·exact h
   ·rw [List.drop_eq_nil_iff.mpr h] at hdr;cases hdr
  have hdi:ds[i]? = some d:=by
   have:=List.getElem?_drop (xs:=ds) (i:=i) (j:=0)
   rw [hdr] at this
   simpa using this.symm
  have hrest:ds.drop (i + 1) = more:=by
   rw [← List.tail_drop,hdr]
   rfl
  obtain ⟨go,yl⟩:=del1 d hdi
  have hcl:ofOC (b d δ) (fun δ1=>testC (tt δ1) (stepC (te δ1) (compL b tt te more δ1)) (compL b tt te more δ1)) = .val rest:=hcl
  cases hb:b d δ with
  | none=>rw [hb] at hcl;cases hcl
  | some δ1=>
   rw [hb] at hcl
   have hcl:testC (tt δ1) (stepC (te δ1) (compL b tt te more δ1)) (compL b tt te more δ1) = .val rest:=hcl
   have no1:=pb d δ δ1 hb no'
   refine .inr ⟨go,fun σ2 y H4=>∃ Hf4 dy r,SR Z Hf4 H4 σ2 δ1/\Same Hf1 Hf4/\Ext Hf0 H0 Hf4 H4/\Hf4 D0 = none/\H4 D0 = some (.lst vs)/\Reps Z.K Hf4 pre vs/\Rep Z.K Hf4 dy y/\compL b tt te more δ1 = .val r/\pre ++ dy :: r = ys,
    fun σ2 H3=>∃ Hf4,SR Z Hf4 H3 σ2 δ1/\Same Hf1 Hf4/\Ext Hf0 H0 Hf4 H3/\Hf4 D0 = none/\H3 D0 = some (.lst vs)/\Reps Z.K Hf4 pre vs/\compL b tt te more δ1 = .val rest,?_,?_,?_⟩
   ·rintro σ2 y H4 ⟨Hf4,dy,r,sr4,sm4,e4,hf4,hd4,rp4,ry,hr,hy⟩
    refine ⟨vs,hd4,by rw [rp.length];omega,ds.length - (i + 1),by omega,rfl,hlt,Hf4,δ1,pre ++ [dy],r,vs ++ [y],sr4.other no1 hz hf4,no1,sm4,?_,hf4,upd_same,rp4.append (Reps.cons ry Reps.nil),by simp;omega,by rw [hrest];exact hr,by simpa using hy⟩
    exact ⟨e4.f,fun c u q=>by rw [upd_ne (ne_of_none q h0)];exact e4.h c u q,fun c u q=>by rw [upd_ne (ne_of_none q hf4)];exact e4.s c u q,e4.n⟩
   ·rintro σ2 H3 ⟨Hf4,sr4,sm4,e4,hf4,hd4,rp4,hr⟩
    exact ⟨ds.length - (i + 1),by omega,rfl,hlt,Hf4,δ1,pre,rest,vs,sr4,no1,sm4,e4,hf4,hd4,rp4,by omega,by rw [hrest];exact hr,hys⟩
   ·intro x H2 hy
    obtain ⟨Hf2,e2,r2⟩:=yl x H2 hy
    have free:∀ {Ha Hb:Hp},Ext Hf H Ha Hb->Ha D0 = none:=fun {Ha Hb} ex=>by
     cases q:Ha D0 with
     | none=>rfl
     | some u=>
      rcases ex.n D0 u q with ⟨o',z⟩ | z
      ·rw [hf'] at z;cases z
      ·rw [hd'] at z;cases z
    refine ⟨Hf2,δ,d,sr'.ext e2,r2,δ1,hb,fun σ3 sr3=>⟨Hf2,δ1,sr3,?_⟩⟩
    cases ht:tt δ1 with
    | val c=>
     rw [ht] at hcl
     intro Hf3 H3 e3
     have e23:=e2.trans e3
     cases c with
     | true=>
      have hcl:stepC (te δ1) (compL b tt te more δ1) = .val rest:=hcl
      cases hte:te δ1 with
      | val dy=>
       rw [hte] at hcl
       have hcl:(compL b tt te more δ1 >>= fun r=>Res.val (dy :: r)) = .val rest:=hcl
       cases hm:compL b tt te more δ1 with
       | val r=>
        rw [hm] at hcl
        have hcl:Res.val (dy :: r) = .val rest:=hcl
        cases hcl
        show tF Z E0S te σ3 H3 _
        refine ⟨Hf3,δ1,sr3.ext e3,?_⟩
        rw [hte]
        intro y Hf4 H4 e4 ry
        have e24:=e23.trans e4
        exact ⟨Hf4,dy,r,(sr3.ext e3).ext e4,sm'.trans e24.f,e'.trans e24,free e24,e24.h _ _ hd',Reps.same e24.f rp,ry,rfl,hys⟩
       | exc z=>rw [hm] at hcl;cases hcl
       | bad=>rw [hm] at hcl;cases hcl
      | exc z=>rw [hte] at hcl;cases hcl
      | bad=>rw [hte] at hcl;cases hcl
     | false=>
      exact ⟨Hf3,sr3.ext e3,sm'.trans e23.f,e'.trans e23,free e23,e23.h _ _ hd',Reps.same e23.f rp,hcl⟩
    | exc z=>rw [ht] at hcl;cases hcl
    | bad=>rw [ht] at hcl;cases hcl
theorem comp_core {xs:List Str} {fr:List Nat} {items:Dst->Res (List D)} {b:D->Dst->Option Dst} {tt:Dst->Res Bool} {te:Dst->Res D} (pb:PlainB b) {Hf H:Hp} {σ:L2.St} {δ:Dst} {Q:VK} {R:Addr->Hp->Prop} (sr:SR Z Hf H σ δ) (o:OutO Z E Hf H σ (compO xs.length fr items b tt te δ) Q) (hR:∀ D0 H',Q (.ref D0) H'->R D0 H') :
  tI Z E items σ H fun J H1=>∀ D0,H1 D0 = none->CompW J (tG Z b) (tFt Z E0S tt) (tF Z E0S te) R D0 (compSt xs fr σ) (upd H1 D0 (.lst [])):=by
 refine ⟨Hf,δ,sr,?_⟩
 unfold compO at o
 cases hi:items δ with
 | val ds=>
  rw [hi] at o
  have o:OutO Z E Hf H σ (if lenOk ds.length = true then olR (compL b tt te ds (compDst xs.length fr δ)) else .bad) Q:=o
  split at o
  ·rename_i hl
   cases hc:compL b tt te ds (compDst xs.length fr δ) with
   | val ys=>
    rw [hc] at o
    intro J Hf1 H1 e1 del D0 hD
    have hz:Z.H D0 = none:=(sr.e.trans e1).h.free hD
    refine comp_walk pb del e1 hD hz (of_decide_eq_true hl) (comp_sr sr (e1.trans (Ext.layO e1.s hD))) comp_no hc fun Hf' H' vs e' hf' hd' rp=>hR _ _ ?_
    exact o _ Hf' H' e' ⟨D0,vs,rfl,hf',hd',rp⟩ fun p _ q=>by cases q;exact e1.h.free hD
   | exc z=>rw [hc] at o;exact (show False from o).elim
   | bad=>rw [hc] at o;exact (show False from o).elim
  ·exact (show False from o).elim
 | exc x=>rw [hi] at o;exact o
 | bad=>rw [hi] at o;exact (show False from o).elim
theorem d_comp {osc scope:Scope} {N0 xs:List Str} {fr:List Nat} {elt tg iter:Expr} {ifs:List Expr} {pos:Pos} {items:Dst->Res (List D)} {b:D->Dst->Option Dst} {tt:Dst->Res Bool} {te:Dst->Res D} (pb:PlainB b) (C:CompTx osc scope N0 xs fr) (ho:X.env.scope = osc) (hN0:X.N = N0) (hc:X.calm = true) (hi:PI X tg iter (tI Z E items))
  (hg:∀ s H fp,PG (cxComp X scope (compN N0 xs fr) s H fp) tg (tG Z b)) (ht:∀ s H fp,PIf (cxComp X scope (compN N0 xs fr) s H fp) ifs (tFt Z E0S tt)) (he:∀ s H fp,PE (cxComp X scope (compN N0 xs fr) s H fp) elt (tF Z E0S te))
  (hs:∀ x,foldedSetIterable iter X.env x = pure x:=by intro _;rfl):PE X (.ListComp elt [⟨tg,iter,ifs,0⟩] scope pos) (tO Z E (compO xs.length fr items b tt te)):=
 (pe_comp C ho hN0 hc hi hg ht he hs).imp fun σ H Q ⟨Hf,δ,sr,o⟩=>comp_core pb sr o fun _ _ q=>q
theorem s_comp {osc scope:Scope} {N0 xs:List Str} {fr:List Nat} {elt tg iter:Expr} {ifs:List Expr} {pos:Pos} {items:Dst->Res (List D)} {b:D->Dst->Option Dst} {tt:Dst->Res Bool} {te:Dst->Res D} {i:Nat} {y:Str} {py spos:Pos} (pb:PlainB b) (C:CompTx osc scope N0 xs fr) (ho:X.env.scope = osc) (hN0:X.N = N0) (hc:X.calm = true) (hi:PI X tg iter (tI Z E items))
  (hg:∀ s H fp,PG (cxComp X scope (compN N0 xs fr) s H fp) tg (tG Z b)) (ht:∀ s H fp,PIf (cxComp X scope (compN N0 xs fr) s H fp) ifs (tFt Z E0S tt)) (he:∀ s H fp,PE (cxComp X scope (compN N0 xs fr) s H fp) elt (tF Z E0S te))
  (hN:X.N.Nodup) (hy:X.N[i]? = some y) (hx:Loc X.env.scope y)
  (hsw:swapsWith (.ListComp elt [⟨tg,iter,ifs,0⟩] scope pos) (some (.Name y py)) spos.line X.env = pure true:=by rfl)
  (hf:X.fn y = true\/X.env.scope.names.lookup y = some .local:=by first | exact .inl rfl | exact .inr rfl | assumption)
  (hs:∀ x,foldedSetIterable iter X.env x = pure x:=by intro _;rfl):PS X (.Assign [.Name y py] (.ListComp elt [⟨tg,iter,ifs,0⟩] scope pos) spos) (tS Z E (setS i (compO xs.length fr items b tt te))):=
 (ps_comp C ho hN0 hc hi hg ht he hN hy hx hsw hf hs).imp fun D σ H ⟨Hf,δ,sr,o⟩=>by
  have o:OutS Z E Hf (ofR (compO xs.length fr items b tt te δ) δ fun x=>.next (δ.set i (some x))) D:=o
  refine comp_core (Q:=fun v H'=>D.nx (σ.set i (some v)) H') pb sr ?_ fun _ _ q=>q
  cases hg':compO xs.length fr items b tt te δ with
  | val y=>rw [hg'] at o;exact fun v Hf' H' e' r' n'=>o _ Hf' H' (sr.setO e' r' n') e'.f
  | exc y=>rw [hg'] at o;exact fun C od Hf' H' e' r'=>o C od σ Hf' H' (sr.ext e') e'.f r'
  | bad=>rw [hg'] at o;exact o
def yesB:Dst->Res Bool:=fun _=>.val true
theorem PIf.imp {e:List Expr} {t t':TT} (h:PIf X e t) (m:∀ σ H Q,t' σ H Q->t σ H Q):PIf X e t':=fun pins s σ H Q I q=>h pins s σ H Q I (m _ _ _ q)
theorem f_nil:PIf X [] (tFt Z E yesB):=PIf.imp pif_nil fun σ H Q ⟨Hf,δ,sr,o⟩=>o Hf H (Ext.refl sr.e.s)
end
end DL
namespace DL
open PySem L2
section
variable {Z:Zt} {E:XS} {X:Cx}
theorem SR.mut {Hf H:Hp} {σ:L2.St} {δ:Dst} {i:Nat} {x x':DV} {p:Addr} {o:HO} (sr:SR Z Hf H σ δ) (hi:δ[i]? = some (some x)) (ho:x.own = true) (hs:σ[i]? = some (some (.ref p))) (hf:Hf p = none) (ho':x'.own = true) (r:RepV Z.K Hf (upd H p o) (.ref p) x'):SR Z Hf (upd H p o) σ (δ.set i (some x')) where
 e:=⟨sr.e.f,fun b u e=>by rw [upd_ne (ne_of_none e (sr.new i x p hi ho hs))];exact sr.e.h b u e,fun b u e=>by rw [upd_ne (ne_of_none e hf)];exact sr.e.s b u e,sr.e.n⟩
 len:=by rw [List.length_set];exact sr.len
 at_:=fun j y h=>by
  by_cases hij:i = j
  ·subst hij
   have hl:i < δ.length:=(List.getElem?_eq_some_iff.mp hi).1
   rw [List.getElem?_set_self hl] at h
   cases h
   exact ⟨.ref p,hs,r⟩
  ·rw [List.getElem?_set_ne hij] at h
   obtain ⟨v,h1,h2⟩:=sr.at_ j y h
   refine ⟨v,h1,?_⟩
   cases y with
   | fz d=>exact h2
   | ol d=>
    obtain ⟨q,vs,rfl,q1,q2,q3⟩:=h2
    have:q ≠ p:=fun e=>by
     subst e
     exact hij (sr.one i j x _ q hi h ho rfl hs h1)
    exact ⟨q,vs,rfl,q1,by rw [upd_ne this];exact q2,q3⟩
   | od d=>
    obtain ⟨q,vs,rfl,q1,q2,q3⟩:=h2
    have:q ≠ p:=fun e=>by
     subst e
     exact hij (sr.one i j x _ q hi h ho rfl hs h1)
    exact ⟨q,vs,rfl,q1,by rw [upd_ne this];exact q2,q3⟩
 one:=fun j k y z q h1 h2 o1 o2 s1 s2=>by
  have back:∀ {j:Nat} {y:DV},(δ.set i (some x'))[j]? = some (some y)->y.own = true->∃ y0,δ[j]? = some (some y0)/\y0.own = true:=fun {j y} h o=>by
   by_cases hij:i = j
   ·subst hij;exact ⟨x,hi,ho⟩
   ·rw [List.getElem?_set_ne hij] at h;exact ⟨y,h,o⟩
  obtain ⟨y0,g1,g2⟩:=back h1 o1
  obtain ⟨z0,g3,g4⟩:=back h2 o2
  exact sr.one j k y0 z0 q g1 g3 g2 g4 s1 s2
 new:=fun j y q h o s=>by
  by_cases hij:i = j
  ·subst hij;exact sr.new i x q hi ho s
  ·rw [List.getElem?_set_ne hij] at h;exact sr.new j y q h o s
theorem mt_app:MtR X "list.append" rAppend:=mt_append
def appS (i:Nat) (k:Dst->Res (List D)):Dst->So:=fun δ=>match δ[i]? with
 | some (some (.ol ds))=>(match k δ with
  | .val [d]=>if decide (ds.length < sizeLine) = true then .next (δ.set i (some (.ol (ds ++ [d])))) else .bad
  | .exc x=>.exc x δ
  | _=>.bad)
 | _=>.bad
theorem s_append {o e:Expr} {i:Nat} {k:Dst->Res (List D)} {apos cpos pos:Pos} (ho:PE X o (tVar i)) (ha:PA X [e] (tFs Z E k)) (hsw:swapsWith (.Call (.Attribute o "append" apos) [e] [] cpos) none pos.line X.env = pure false:=by rfl)
  (hbase:attributeBase o "append" X.env (eval o X.env) = eval o X.env:=by rfl)
  (hfew:((backTo cpos (starEach [e] X.env)).all (fun x=>!x.1) && (backToKw cpos (keywordEach [] X.env)).all (fun x=>x.1.isSome)
   && decide (([e]:List Expr).length + ([]:List Keyword).length + (if ([]:List Keyword).isEmpty then 0 else 1) < 30)) = true:=by rfl)
  (hline:(apos.endLine == cpos.line) = true:=by rfl) (hs:starEach [e] X.env = (false,eval e X.env) :: starEach [] X.env:=by rfl) (hplain:(backTo cpos (starEach [] X.env)).any (·.1) = false:=by rfl) :
  PS X (.Expr (.Call (.Attribute o "append" apos) [e] [] cpos) pos) (tS Z E (appS i k)):=
 (ps_expr (pe_bm PySem.F.plainAttrs_list PySem.F.slot_list_append PySem.F.type_list_append mt_app ho ha hbase hfew hline hs hplain) hsw).imp fun D σ H ⟨Hf,δ,sr,o⟩=>by
  have o:OutS Z E Hf (appS i k δ) D:=o
  unfold appS at o
  split at o
  ·rename_i ds hi
   obtain ⟨v,h1,h2⟩:=sr.at_ i _ hi
   obtain ⟨p,vs,rfl,q1,q2,q3⟩:=h2
   refine ⟨_,h1,.inl ⟨rfl,vs,SqL.of q2⟩,Hf,δ,sr,?_⟩
   split at o
   ·rename_i d hk
    split at o
    ·rename_i hl
     rw [hk]
     intro ws Hf1 H1 e1 r1
     obtain ⟨w,rfl,r2⟩:=r1.one
     have sr1:=sr.ext e1
     obtain ⟨v',h1',h2'⟩:=sr1.at_ i _ hi
     rw [h1] at h1'
     cases h1'
     obtain ⟨p',vs',ep,q1',q2',q3'⟩:=h2'
     cases ep
     refine ⟨p,vs',w,rfl,rfl,q2',?_,?_⟩
     ·rw [q3'.length]
      exact of_decide_eq_true hl
     ·exact o σ Hf1 _ (sr1.mut hi rfl h1 q1' rfl ⟨p,_,rfl,q1',upd_same,q3'.append (Reps.cons r2 Reps.nil)⟩) e1.f
    ·exact (show False from o).elim
   ·rename_i x hk
    rw [hk]
    exact fun C od Hf' H' e' r'=>o C od σ Hf' H' (sr.ext e') e'.f r'
   ·exact (show False from o).elim
  ·exact (show False from o).elim
def frzV (i:Nat) (δ:Dst):Dst:=match δ[i]? with
 | some (some x)=>δ.set i (some (.fz x.d))
 | _=>δ
theorem SR.frz {Hf H:Hp} {σ:L2.St} {δ:Dst} (i:Nat) (ob:Addr->Obj) (sr:SR Z Hf H σ δ):∃ Hf' H',SR Z Hf' H' σ (frzV i δ)/\Same Hf Hf'/\(H' = H\/∃ p kvs,H p = some (.dK kvs)/\H' = upd H p (.frz (ob p) (.dK kvs))):=by
 unfold frzV
 split
 ·rename_i x hi
  obtain ⟨v,h1,h2⟩:=sr.at_ i x hi
  have gen:∀ {p:Addr} {o o':HO},v = .ref p->x.own = true->Hf p = none->H p = some o->Rep Z.K (upd Hf p o') x.d v->SR Z (upd Hf p o') (upd H p o') σ (δ.set i (some (.fz x.d))):=fun {p o o'} ev ow hf ho hr=>by
   have hz:=sr.new i x p hi ow (by rw [h1,ev])
   refine ⟨⟨sr.e.f.trans (Same.upd hf),fun b u q=>by rw [upd_ne (ne_of_none q hz)];exact sr.e.h b u q,fun b u q=>by
    by_cases hb:b = p
    ·subst hb;rw [upd_same] at q ⊢;exact q
    ·rw [upd_ne hb] at q ⊢;exact sr.e.s b u q,fun b u q=>by
    by_cases hb:b = p
    ·subst hb;exact .inr hz
    ·rw [upd_ne hb] at q;exact sr.e.n b u q⟩,by rw [List.length_set];exact sr.len,fun j y h=>?_,fun j k y z q g1 g2 o1 o2 s1 s2=>?_,fun j y q g o s=>?_⟩
   ·by_cases hij:i = j
    ·subst hij
     have hl:i < δ.length:=(List.getElem?_eq_some_iff.mp hi).1
     rw [List.getElem?_set_self hl] at h
     cases h
     exact ⟨v,h1,hr⟩
    ·rw [List.getElem?_set_ne hij] at h
     obtain ⟨w,g1,g2⟩:=sr.at_ j y h
     refine ⟨w,g1,?_⟩
     cases y with
     | fz d=>exact Rep.same (Same.upd hf) g2
     | ol d=>
      obtain ⟨q,vs,rfl,q1,q2,q3⟩:=g2
      have:q ≠ p:=fun e=>by
       subst e
       exact hij (sr.one i j x _ q hi h ow rfl (by rw [h1,ev]) g1)
      exact ⟨q,vs,rfl,by rw [upd_ne this];exact q1,by rw [upd_ne this];exact q2,Reps.same (Same.upd hf) q3⟩
     | od d=>
      obtain ⟨q,vs,rfl,q1,q2,q3⟩:=g2
      have:q ≠ p:=fun e=>by
       subst e
       exact hij (sr.one i j x _ q hi h ow rfl (by rw [h1,ev]) g1)
      exact ⟨q,vs,rfl,by rw [upd_ne this];exact q1,by rw [upd_ne this];exact q2,RepK.same (Same.upd hf) q3⟩
   ·have back:∀ {j:Nat} {y:DV},(δ.set i (some (.fz x.d)))[j]? = some (some y)->y.own = true->δ[j]? = some (some y):=fun {j y} h o=>by
     by_cases hij:i = j
     ·subst hij
      have hl:i < δ.length:=(List.getElem?_eq_some_iff.mp hi).1
      rw [List.getElem?_set_self hl] at h
      cases h
      cases o
     ·rw [List.getElem?_set_ne hij] at h;exact h
    exact sr.one j k y z q (back g1 o1) (back g2 o2) o1 o2 s1 s2
   ·by_cases hij:i = j
    ·subst hij
     have hl:i < δ.length:=(List.getElem?_eq_some_iff.mp hi).1
     rw [List.getElem?_set_self hl] at g
     cases g
     cases o
    ·rw [List.getElem?_set_ne hij] at g;exact sr.new j y q g o s
  cases x with
  | fz d=>
   refine ⟨Hf,H,?_,Same.refl _,.inl rfl⟩
   have:δ.set i (some (.fz (DV.fz d).d)) = δ:=by
    apply List.ext_getElem?
    intro j
    by_cases hij:i = j
    ·subst hij
     rw [List.getElem?_set_self (List.getElem?_eq_some_iff.mp hi).1,hi]
     rfl
    ·rw [List.getElem?_set_ne hij]
   rw [this]
   exact sr
  | ol ds=>
   obtain ⟨p,vs,ev,q1,q2,q3⟩:=h2
   have g:=gen (o':=.lst vs) ev rfl q1 q2 (by rw [ev];exact Rep.lst (.inl upd_same) (Reps.same (Same.upd q1) q3))
   rw [upd_id q2] at g
   exact ⟨_,H,g,Same.upd q1,.inl rfl⟩
  | od ds=>
   obtain ⟨p,vs,ev,q1,q2,q3⟩:=h2
   exact ⟨_,_,gen (o':=.frz (ob p) (.dK vs)) ev rfl q1 q2 (by rw [ev];exact Rep.dic upd_same (RepK.same (Same.upd q1) q3)),Same.upd q1,.inr ⟨p,vs,q2,rfl⟩⟩
 ·exact ⟨Hf,H,sr,Same.refl _,.inl rfl⟩
def frzS (i:Nat) (h:Dst->So):Dst->So:=fun δ=>h (frzV i δ)
theorem s_frz (i:Nat) {sts:List Stmt} {h:Dst->So} (hs:PSs X sts (tS Z E h)):PSs X sts (tS Z E (frzS i h)):=by
 intro pins s σ H D I ⟨Hf,δ,sr,o⟩
 obtain ⟨Hf',H',sr',sm,hH⟩:=sr.frz i (fun p=>(s.heap.get? p).getD { cls:=.none,data:=.fields #[] })
 refine hs pins s σ H' D ?_ ⟨Hf',_,sr',OutS.mono sm o⟩
 rcases hH with rfl | ⟨p,kvs,hp,rfl⟩
 ·exact I
 ·obtain ⟨ob,ho⟩:=I.dk_obj hp
  rw [ho]
  exact I.freeze hp ho
end
end DL
namespace My
open PySem L2 PyProof.Rows
theorem boot_isi:bootBuiltins "isinstance" = some (.builtin "isinstance"):=by decide +kernel
theorem boot_list:bootBuiltins "list" = some (.type "list"):=by decide +kernel
theorem boot_tuple:bootBuiltins "tuple" = some (.type "tuple"):=by decide +kernel
structure BlK (K:PySem.W.Frag):Prop where
 len:PySem.W.nsIn K mainGlobals "len" = some none
 isi:PySem.W.nsIn K mainGlobals "isinstance" = some none
 int:PySem.W.nsIn K mainGlobals "int" = some none
 bool:PySem.W.nsIn K mainGlobals "bool" = some none
 str:PySem.W.nsIn K mainGlobals "str" = some none
 all:PySem.W.nsIn K mainGlobals "all" = some none
 range:PySem.W.nsIn K mainGlobals "range" = some none
 abs:PySem.W.nsIn K mainGlobals "abs" = some none
 ord:PySem.W.nsIn K mainGlobals "ord" = some none
 list:PySem.W.nsIn K mainGlobals "list" = some none
 tuple:PySem.W.nsIn K mainGlobals "tuple" = some none
 dict:PySem.W.nsIn K mainGlobals "dict" = some none
 any:PySem.W.nsIn K mainGlobals "any" = some none
 sorted:PySem.W.nsIn K mainGlobals "sorted" = some none
 set:PySem.W.nsIn K mainGlobals "set" = some none
 enum:PySem.W.nsIn K mainGlobals "enumerate" = some none
def spLaw (K:PySem.W.Frag):Sp:=fun vs H Q _=>∃ (a:Addr) (ns:List Int),vs = [.ref a]/\SqL K H a (ns.map V.int)/\ns.length ≤ 63/\∀ H',Q (.bl true) H'
theorem walk (k:Nat) {l:PySem.W.OpenLaw} {q:Program} {loose:List Str} {XP:(Str->Option Value)->Heap->Prop} {YP:World->Heap->Prop} {d:DefRec} {K:Params->PySem.W.Frag} (hk:Room k callerA) (hn:l.most = some 63) (hdf:d.params.defaults = [])
  (hY:∀ (w:World) (h:Heap),YP w h->(K w.params).In h)
  (F:∀ (w:World) (mg:Str->Option Value) (fa:Addr) (h:Heap),(K w.params).In h->h.Ns mainGlobals mg->mg d.name = some (.ref fa) →
   ∃ fd:FuncData,(∀ (s:Shared) (u:Value),BindsTo s fd ⟨[u],[]⟩ [("_law_script",u)])/\∀ base:Heap,(K w.params).In base->base.Ns mainGlobals mg->FnOk l.prog w (K w.params) mg base CX0 k fa fd ["_law_script"] (spLaw (K w.params))) :
  PySem.W.WalkO q loose XP YP l.row.toRowW d [] (fun f vs=>PySem.call f vs):=
 L2.walk_of (n:=63) (k:=k) (x:="_law_script") (CX:=fun _=>CX0) (sp:=fun w=>spLaw (K w.params)) hn (by decide) hdf hk hY F (fun _ _ a ns hl _ hS=>⟨a,ns,rfl,hS,hl,fun _=>rfl⟩) fun _ _ _ _ _ z=>z
end My
namespace DL
open PySem L2
section
variable {Z:Zt} {E:XS} {X:Cx} {a b c e:Expr} {pos:Pos}
def iterW (c:Dst->Res Bool) (body:Dst->So):Nat->Dst->Option So
 | 0,_=>none
 | n + 1,δ=>match c δ with
  | .val true=>(match body δ with
   | .next δ'=>iterW c body n δ'
   | .cont δ'=>iterW c body n δ'
   | .brk δ'=>some (.next δ')
   | .ret x=>some (.ret x)
   | .exc x δ'=>some (.exc x δ')
   | .bad=>some .bad)
  | .val false=>some (.next δ)
  | .exc x=>some (.exc x δ)
  | .bad=>some .bad
open Classical in
noncomputable def whileS (c:Dst->Res Bool) (body:Dst->So):Dst->So:=fun δ=>if h:∃ n r,iterW c body n δ = some r then h.choose_spec.choose else .bad
theorem iterW_mono {c:Dst->Res Bool} {body:Dst->So}:∀ {n m:Nat} {δ:Dst} {r:So},iterW c body n δ = some r->n ≤ m->iterW c body m δ = some r
 | 0,_,_,_,h,_=>by cases h
 | n + 1,0,_,_,_,hm=>by omega
 | n + 1,m + 1,δ,r,h,hm=>by
  unfold iterW at h ⊢
  cases hc:c δ with
  | val k=>
   rw [hc] at h
   cases k with
   | true=>
    cases hb:body δ with
    | next δ'=>rw [hb] at h;exact iterW_mono (n:=n) h (by omega)
    | cont δ'=>rw [hb] at h;exact iterW_mono (n:=n) h (by omega)
    | brk δ'=>rw [hb] at h;exact h
    | ret x=>rw [hb] at h;exact h
    | exc x δ'=>rw [hb] at h;exact h
    | bad=>rw [hb] at h;exact h
   | false=>exact h
  | exc x=>rw [hc] at h;exact h
  | bad=>rw [hc] at h;exact h
theorem whileS_of {c:Dst->Res Bool} {body:Dst->So} {n:Nat} {δ:Dst} {r:So} (h:iterW c body n δ = some r):whileS c body δ = r:=by
 have hx:∃ n r,iterW c body n δ = some r:=⟨n,r,h⟩
 unfold whileS
 rw [dif_pos hx]
 have h2:=hx.choose_spec.choose_spec
 rcases Nat.le_total n hx.choose with hle | hle
 ·have:=iterW_mono h hle
  rw [h2] at this
  exact Option.some.inj this
 ·have:=iterW_mono h2 hle
  rw [h] at this
  exact (Option.some.inj this).symm
theorem s_while {c:Expr} {body:List Stmt} {g:Dst->Res Bool} {h:Dst->So} (hp:PassesOwn (model X.prog X.w) X.A X.env X.xe) (hc:PT X c (tFt Z E g)) (hb:PSs X body (tS Z E h)):PS X (.While c body [] pos) (tS Z E (whileS g h)):=
 (ps_while hp hc hb).imp fun D σ H ⟨Hf,δ,sr,o⟩=>by
  have o:OutS Z E Hf (whileS g h δ) D:=o
  by_cases hx:∃ n r,iterW g h n δ = some r
  ·obtain ⟨n,r,hn⟩:=hx
   rw [whileS_of hn] at o
   refine ⟨fun m σ' H'=>∃ Hf' δ',SR Z Hf' H' σ' δ'/\iterW g h m δ' = some r/\OutS Z E Hf' r D,⟨n,Hf,δ,sr,hn,o⟩,?_⟩
   rintro m σ' H' ⟨Hf',δ',sr',hm,o'⟩
   cases m with
   | zero=>cases hm
   | succ m=>
    refine ⟨Hf',δ',sr',?_⟩
    unfold iterW at hm
    cases hcd:g δ' with
    | val k=>
     rw [hcd] at hm
     intro Hf1 H1 e1
     cases k with
     | true=>
      refine ⟨fun σ2 H2=>∃ Hf2 δ2,SR Z Hf2 H2 σ2 δ2/\iterW g h m δ2 = some r/\OutS Z E Hf2 r D,fun σ2 H2 ⟨Hf2,δ2,sr2,hm2,o2⟩=>⟨m,Nat.lt_succ_self m,Hf2,δ2,sr2,hm2,o2⟩,Hf1,δ',sr'.ext e1,?_⟩
      cases hb':h δ' with
      | next δ2=>rw [hb'] at hm;exact fun σ2 Hf2 H2 sr2 sm2=>⟨Hf2,δ2,sr2,hm,OutS.mono (e1.f.trans sm2) o'⟩
      | cont δ2=>rw [hb'] at hm;exact fun σ2 Hf2 H2 sr2 sm2=>⟨Hf2,δ2,sr2,hm,OutS.mono (e1.f.trans sm2) o'⟩
      | brk δ2=>rw [hb'] at hm;cases hm;exact fun σ2 Hf2 H2 sr2 sm2=>o' σ2 Hf2 H2 sr2 (e1.f.trans sm2)
      | ret x=>rw [hb'] at hm;cases hm;exact o'
      | exc x δ2=>rw [hb'] at hm;cases hm;exact fun C od σ2 Hf2 H2 sr2 sm2=>o' C od σ2 Hf2 H2 sr2 (e1.f.trans sm2)
      | bad=>rw [hb'] at hm;cases hm;exact (show False from o').elim
     | false=>cases hm;exact o' σ' Hf1 H1 (sr'.ext e1) e1.f
    | exc x=>rw [hcd] at hm;cases hm;exact fun C od Hf1 H1 e1 r1=>o' C od σ' Hf1 H1 (sr'.ext e1) e1.f r1
    | bad=>rw [hcd] at hm;cases hm;exact (show False from o').elim
  ·have:whileS g h δ = .bad:=by unfold whileS;rw [dif_neg hx]
   rw [this] at o
   exact (show False from o).elim
end
structure Bn (mg:Str->Option Value):Prop where
 len:mg "len" = none
 isinstance:mg "isinstance" = none
 all:mg "all" = none
 any:mg "any" = none
 str:mg "str" = none
 int:mg "int" = none
 bool:mg "bool" = none
 tuple:mg "tuple" = none
 list:mg "list" = none
 dict:mg "dict" = none
 range:mg "range" = none
 enumerate:mg "enumerate" = none
 zip:mg "zip" = none
 sorted:mg "sorted" = none
 ord:mg "ord" = none
 reversed:mg "reversed" = none
 set:mg "set" = none
 abs:mg "abs" = none
 min:mg "min" = none
 max:mg "max" = none
theorem boot_len:bootBuiltins "len" = some (.builtin "len"):=PySem.boot_len
end DL
namespace L2
open PySem PySem.Spec PyProof.Rows
section
variable {X:Cx}
end
end L2
namespace DL
open PySem L2
section
variable {Z:Zt} {E:XS} {X:Cx}
theorem Rep.pair {K:Kx} {Hf H:Hp} {p:Addr} {dx dy:D} {x y:V} (s:Same Hf H) (hp:H p = none) (hx:Rep K Hf dx x) (hy:Rep K Hf dy y):Ext Hf H (upd Hf p (.tup [x,y])) (upd H p (.tup [x,y]))/\Rep K (upd Hf p (.tup [x,y])) (.tup [dx,dy]) (.ref p):=by
 have su:Same Hf (upd Hf p (.tup [x,y])):=Same.upd (s.free hp)
 exact ⟨Ext.lay s hp,Rep.tup (SqT.of upd_same) (Reps.cons (hx.same su) (Reps.cons (hy.same su) Reps.nil))⟩
def pairsL:List D->List D->List D
 | x :: xs,y :: ys=>.tup [x,y] :: pairsL xs ys
 | _,_=>[]
def zipD:List D->Res (List D)
 | [.tup xs,.tup ys]=>if xs.length ≤ ys.length then .val (pairsL xs ys) else .bad
 | [.lst xs,.lst ys]=>if xs.length ≤ ys.length then .val (pairsL xs ys) else .bad
 | _=>.bad
def enumL:Nat->List D->List D
 | _,[]=>[]
 | n,d :: ds=>.tup [.int n,d] :: enumL (n + 1) ds
theorem enumL_at:∀ {ds:List D} {n i:Nat} {d:D},(enumL n ds)[i]? = some d->∃ x,ds[i]? = some x/\d = .tup [.int ((n + i:Nat):Int),x]
 | [],_,_,_,h=>by simp [enumL] at h
 | x :: xs,n,0,d,h=>by
  have:D.tup [.int n,x] = d:=by simpa [enumL] using h
  exact ⟨x,rfl,this.symm⟩
 | x :: xs,n,i + 1,d,h=>by
  have h':(enumL (n + 1) xs)[i]? = some d:=by simpa [enumL] using h
  obtain ⟨a,h1,h2⟩:=enumL_at h'
  refine ⟨a,by simpa using h1,?_⟩
  rw [h2]
  congr 4
  omega
theorem enumL_len:∀ (n:Nat) (ds:List D),(enumL n ds).length = ds.length
 | _,[]=>rfl
 | n,d :: ds=>by rw [enumL,List.length_cons,List.length_cons,enumL_len]
def enumD:List D->Res (List D)
 | [.lst xs]=>.val (enumL 0 xs)
 | _=>.bad
theorem del_enum {K:Kx} {Hf:Hp} {a:Addr} {ds:List D} {vs:List V} (h:SqL K.fr Hf a vs) (r:Reps K Hf ds vs):Del K (Ite K.fr a) Hf (enumL 0 ds):=by
 intro i Hf' H' s1 s2
 have g1:=s2.seq (s1.seq h)
 refine ⟨fun d e=>?_,fun hle=>⟨vs,g1,by rw [r.length];rw [enumL_len] at hle;exact hle⟩⟩
 obtain ⟨x,e1,rfl⟩:=enumL_at e
 obtain ⟨v,f1,k1⟩:=r.get e1
 refine ⟨⟨vs,v,g1,f1⟩,fun z H2 hy=>?_⟩
 obtain ⟨u,p,hu,rfl,hp,rfl⟩:=hy
 have m1:=hu vs g1
 rw [f1] at m1;cases m1
 rw [Nat.zero_add]
 obtain ⟨q1,q2⟩:=Rep.pair (K:=K) (dx:=.int (i:Int)) (x:=.int (i:Int)) s2 hp (rfl:V.int _ = .int _) (k1.same s1)
 exact ⟨_,q1,q2⟩
theorem i_enum {es:List Expr} {x1:Nat} {tp:Pos} {l:Expr} {k:Dst->Res (List D)} {p pos:Pos} (hg:Gl X "enumerate") (hm:X.mg "enumerate" = none) (ha:PA X [l] (tFs Z E k)) (hK:Z.K.fr = X.K:=by rfl) (hs:starEach [l] X.env = [(false,eval l X.env)]:=by rfl) :
  PI X (.Tuple es x1 tp) (.Call (.Name "enumerate" p) [l] [] pos) (tI Z E fun δ=>k δ >>= enumD):=
 (pi_enum hg hm ha hs).imp fun σ H R ⟨Hf,δ,sr,o⟩=>⟨Hf,δ,sr,A.I o fun ds vs Hf1 H1 e1 r1 o1=>by
  unfold enumD at o1
  split at o1
  ·obtain ⟨v,rfl,r2⟩:=r1.one
   obtain ⟨a,vs,rfl,h1,q1⟩:=rep_lst r2
   exact ⟨a,rfl,⟨vs,hK ▸ e1.s.seq h1⟩,o1 _ Hf1 H1 e1 (hK ▸ del_enum h1 q1)⟩
  ·exact o1.elim⟩
def kD:Key->D
 | .inl i=>.int i
 | .inr s=>.str s
theorem kD_rep {K:Kx} {H:Hp} (k:Key):Rep K H (kD k) (kV k):=by
 cases k with
 | inl i=>exact (rfl:V.int i = .int i)
 | inr i=>exact (rfl:V.str i = .str i)
theorem repk_at {K:Kx} {H:Hp}:∀ {kds:List (Key × D)} {kvs:List (Key × V)} {i:Nat} {k:Key} {d:D},RepK K H kds kvs->kds[i]? = some (k,d)->∃ v,kvs[i]? = some (k,v)/\Rep K H d v
 | [],_,_,_,_,_,h=>by simp at h
 | (l,x) :: kds,kvs,0,k,d,h,e=>by
  obtain ⟨v,r,rfl,h1,h2⟩:=repk_cons.mp h
  have:(l,x) = (k,d):=by simpa using e
  cases this
  exact ⟨v,rfl,h1⟩
 | (l,x) :: kds,kvs,i + 1,k,d,h,e=>by
  obtain ⟨v,r,rfl,h1,h2⟩:=repk_cons.mp h
  obtain ⟨v',e1,e2⟩:=repk_at (i:=i) h2 (by simpa using e)
  exact ⟨v',by simpa using e1,e2⟩
def itemsL (kds:List (Key × D)):List D:=kds.map fun kv=>.tup [kD kv.1,kv.2]
def keysL (kds:List (Key × D)):List D:=kds.map fun kv=>kD kv.1
def asDic:D->Res (List (Key × D))
 | .dic kds=>.val kds
 | _=>.bad
theorem del_keys {K:Kx} {Hf:Hp} {a:Addr} {o:Obj} {kds:List (Key × D)} {kvs:List (Key × V)} (h:Hf a = some (.frz o (.dK kvs))) (r:RepK K Hf kds kvs):Del K (Itd a o kvs) Hf (keysL kds):=by
 intro i Hf' H' s1 s2
 have g1:=s2 _ _ (s1 _ _ h)
 refine ⟨fun d e=>?_,fun hle=>⟨by rw [r.length];simpa [keysL] using hle,g1⟩⟩
 unfold keysL at e
 rw [List.getElem?_map] at e
 cases hk:kds[i]? with
 | none=>rw [hk] at e;cases e
 | some kd=>
  obtain ⟨k,dx⟩:=kd
  rw [hk] at e
  cases e
  obtain ⟨v,f1,k1⟩:=repk_at r hk
  refine ⟨⟨(List.getElem?_eq_some_iff.mp f1).1,g1⟩,fun z H2 hy=>?_⟩
  obtain ⟨rfl,k',v',hu,rfl⟩:=hy
  rw [f1] at hu;cases hu
  exact ⟨Hf',Ext.refl s2,kD_rep k⟩
def itemsR (r:Res D):Res (List D):=match r with
 | .val (.dic kds)=>.val (itemsL kds)
 | .exc x=>.exc x
 | _=>.bad
def keysR (r:Res D):Res (List D):=match r with
 | .val (.dic kds)=>.val (keysL kds)
 | .exc x=>.exc x
 | _=>.bad
theorem i_keys {tg l:Expr} {g:Dst->Res D} (hl:PE X l (tF Z E g)):PI X tg l (tI Z E fun δ=>keysR (g δ)):=
 (pi_dict hl).imp fun σ H R ⟨Hf,δ,sr,o⟩=>⟨Hf,δ,sr,by
  have o:OutI Z E Hf H σ (keysR (g δ)) R:=o
  cases hg:g δ with
  | val d=>
   rw [hg] at o
   cases d with
   | dic kds=>
    intro v Hf1 H1 e1 r1
    obtain ⟨a,ob,kvs,rfl,h1,q1⟩:=rep_dicF r1
    exact ⟨a,ob,kvs,rfl,e1.s _ _ h1,o _ Hf1 H1 e1 (del_keys h1 q1)⟩
   | non=>exact (show False from o).elim
   | bl b=>exact (show False from o).elim
   | int b=>exact (show False from o).elim
   | ty b=>exact (show False from o).elim
   | str b=>exact (show False from o).elim
   | tup b=>exact (show False from o).elim
   | lst b=>exact (show False from o).elim
   | dct b=>exact (show False from o).elim
   | exn b c=>exact (show False from o).elim
   | obj b c=>exact (show False from o).elim
   | scr b=>exact (show False from o).elim
  | exc x=>rw [hg] at o;exact o
  | bad=>rw [hg] at o;exact (show False from o).elim⟩
def anyItems (r:Res D):Res (List D):=match r with
 | .val (.dic kds)=>.val (keysL kds)
 | .val d=>itemsD d
 | .exc x=>.exc x
 | .bad=>.bad
theorem i_any {tg l:Expr} {g:Dst->Res D} (h:PE X l (tF Z E g)) (hK:Z.K.fr = X.K:=by rfl):PI X tg l (tI Z E fun δ=>anyItems (g δ)):=
 (PI.or (i_keys h) (i_seq h hK)).imp fun σ H R ⟨Hf,δ,sr,o⟩=>by
  have o:OutI Z E Hf H σ (anyItems (g δ)) R:=o
  cases hg:g δ with
  | val d=>
   rw [hg] at o
   cases d with
   | dic kds=>refine .inl ⟨Hf,δ,sr,?_⟩;show OutI Z E Hf H σ (keysR (g δ)) R;rw [hg];exact o
   | non=>refine .inr ⟨Hf,δ,sr,?_⟩;show OutI Z E Hf H σ (g δ >>= itemsD) R;rw [hg];exact o
   | bl b=>refine .inr ⟨Hf,δ,sr,?_⟩;show OutI Z E Hf H σ (g δ >>= itemsD) R;rw [hg];exact o
   | int b=>refine .inr ⟨Hf,δ,sr,?_⟩;show OutI Z E Hf H σ (g δ >>= itemsD) R;rw [hg];exact o
   | ty b=>refine .inr ⟨Hf,δ,sr,?_⟩;show OutI Z E Hf H σ (g δ >>= itemsD) R;rw [hg];exact o
   | str b=>refine .inr ⟨Hf,δ,sr,?_⟩;show OutI Z E Hf H σ (g δ >>= itemsD) R;rw [hg];exact o
   | tup b=>refine .inr ⟨Hf,δ,sr,?_⟩;show OutI Z E Hf H σ (g δ >>= itemsD) R;rw [hg];exact o
   | lst b=>refine .inr ⟨Hf,δ,sr,?_⟩;show OutI Z E Hf H σ (g δ >>= itemsD) R;rw [hg];exact o
   | dct b=>refine .inr ⟨Hf,δ,sr,?_⟩;show OutI Z E Hf H σ (g δ >>= itemsD) R;rw [hg];exact o
   | exn b c=>refine .inr ⟨Hf,δ,sr,?_⟩;show OutI Z E Hf H σ (g δ >>= itemsD) R;rw [hg];exact o
   | obj b c=>refine .inr ⟨Hf,δ,sr,?_⟩;show OutI Z E Hf H σ (g δ >>= itemsD) R;rw [hg];exact o
   | scr b=>refine .inr ⟨Hf,δ,sr,?_⟩;show OutI Z E Hf H σ (g δ >>= itemsD) R;rw [hg];exact o
  | exc x=>refine .inr ⟨Hf,δ,sr,?_⟩;show OutI Z E Hf H σ (g δ >>= itemsD) R;rw [hg] at o ⊢;exact o
  | bad=>rw [hg] at o;exact (show False from o).elim
def asgS (g:Dst->Res D) (b:D->Dst->Option Dst):Dst->So:=fun δ=>match g δ with
 | .val d=>ofO (b d δ) .next
 | .exc x=>.exc x δ
 | .bad=>.bad
theorem s_asg {tg e:Expr} {g:Dst->Res D} {b:D->Dst->Option Dst} {pos:Pos} (he:PE X e (tF Z E g)) (hg:PG X tg (tG Z b)) (hs:swapsWithSole [tg] e pos.line X.env = pure false:=by rfl) (hw:swappedStores [tg] e X.env = pure none:=by rfl) (h1:(assignEach [tg] X.env).map (·.2) = [assign tg X.env]:=by rfl):PS X (.Assign [tg] e pos) (tS Z E (asgS g b)):=
 (ps_asg he hg hs hw h1).imp fun D σ H ⟨Hf,δ,sr,o⟩=>⟨Hf,δ,sr,by
  have o:OutS Z E Hf (asgS g b δ) D:=o
  unfold asgS at o
  cases hg:g δ with
  | val d=>
   rw [hg] at o
   have o:OutS Z E Hf (ofO (b d δ) .next) D:=o
   intro v Hf1 H1 e1 r1
   cases hb:b d δ with
   | none=>rw [hb] at o;exact (show False from o).elim
   | some δ1=>rw [hb] at o;exact ⟨Hf1,δ,d,sr.ext e1,r1,δ1,hb,fun σ' sr'=>o σ' Hf1 H1 sr' e1.f⟩
  | exc x=>rw [hg] at o;exact fun C od Hf' H' e' r'=>o C od σ Hf' H' (sr.ext e') e'.f r'
  | bad=>rw [hg] at o;exact (show False from o).elim⟩
theorem mt_extR:MtR X "list.extend" (fun x vs H Q=>∃ l b xs zs,x = .ref l/\vs = [.ref b]/\H l = some (.lst xs)/\Rd H b (.lst zs)/\xs.length + zs.length ≤ sizeLine/\Q .non (upd H l (.lst (xs ++ zs)))):=by
 intro pins s σ H x vs v us Q I rx rv h
 obtain ⟨l,b,xs,zs,rfl,rfl,hH,hB,hz,q⟩:=h
 cases rx
 obtain ⟨u,rfl,ru⟩:=rv.one
 cases ru
 obtain ⟨z,its,n,r,hl,e⟩:=I.lstM hH
 obtain ⟨z2,its2,n2,r2,e2⟩:=hB.ok I.hok
 have hl2:=r2.length
 have hsz:its.toArray.size + its2.toArray.size ≤ sizeLine:=by rw [List.size_toArray,List.size_toArray];omega
 have hlong:¬ (!its.toArray.isEmpty && Builtin.List.listTooLong (its.toArray.size + its2.toArray.size)) = true:=by
  rw [notLongL hsz,Bool.and_false]
  exact Bool.false_ne_true
 refine call_meets F.slot_list_extend ⟨_,e,rfl⟩ F.entry_list_extend (F.args_list_extend_2 _ _)
  (AutoSeq1.list_extend_list_list_0 l its.toArray n b its2.toArray n2 hlong (by rw [List.size_toArray];omega) (by omega)) ⟨e,e2,?_⟩
 refine ⟨.non,_,I.lset (its':=its ++ its2) hH e (by simp) (r.append r2) ?_,rfl,q⟩
 rw [List.length_append]
 omega
def extS (i:Nat) (k:Dst->Res (List D)):Dst->So:=fun δ=>match δ[i]? with
 | some (some (.ol ds))=>(match k δ with
  | .val [.lst es]=>if lenOk (ds.length + es.length) = true then .next (δ.set i (some (.ol (ds ++ es)))) else .bad
  | .exc x=>.exc x δ
  | _=>.bad)
 | _=>.bad
theorem s_extend {o e:Expr} {i:Nat} {k:Dst->Res (List D)} {apos cpos pos:Pos} (ho:PE X o (tVar i)) (ha:PA X [e] (tFs Z E k)) (hsw:swapsWith (.Call (.Attribute o "extend" apos) [e] [] cpos) none pos.line X.env = pure false:=by rfl)
  (hbase:attributeBase o "extend" X.env (eval o X.env) = eval o X.env:=by rfl)
  (hfew:((backTo cpos (starEach [e] X.env)).all (fun x=>!x.1) && (backToKw cpos (keywordEach [] X.env)).all (fun x=>x.1.isSome)
   && decide (([e]:List Expr).length + ([]:List Keyword).length + (if ([]:List Keyword).isEmpty then 0 else 1) < 30)) = true:=by rfl)
  (hline:(apos.endLine == cpos.line) = true:=by rfl) (hs:starEach [e] X.env = (false,eval e X.env) :: starEach [] X.env:=by rfl) (hplain:(backTo cpos (starEach [] X.env)).any (·.1) = false:=by rfl) :
  PS X (.Expr (.Call (.Attribute o "extend" apos) [e] [] cpos) pos) (tS Z E (extS i k)):=
 (ps_expr (pe_bm PySem.F.plainAttrs_list PySem.F.slot_list_extend PySem.F.type_list_extend mt_extR ho ha hbase hfew hline hs hplain) hsw).imp fun D σ H ⟨Hf,δ,sr,o⟩=>by
  have o:OutS Z E Hf (extS i k δ) D:=o
  unfold extS at o
  split at o
  ·rename_i ds hi
   obtain ⟨v,h1,h2⟩:=sr.at_ i _ hi
   obtain ⟨p,vs,rfl,q1,q2,q3⟩:=h2
   refine ⟨_,h1,.inl ⟨rfl,vs,SqL.of q2⟩,Hf,δ,sr,?_⟩
   split at o
   ·rename_i es hk
    split at o
    ·rename_i hl
     rw [hk]
     intro ws Hf1 H1 e1 r1
     obtain ⟨w,rfl,r2⟩:=r1.one
     obtain ⟨b,zs,rfl,hb,qb⟩:=rep_lstR r2
     have sr1:=sr.ext e1
     obtain ⟨v',h1',h2'⟩:=sr1.at_ i _ hi
     rw [h1] at h1'
     cases h1'
     obtain ⟨p',vs',ep,q1',q2',q3'⟩:=h2'
     cases ep
     refine ⟨p,b,vs',zs,rfl,rfl,q2',Rd.same e1.s hb,?_,?_⟩
     ·rw [q3'.length,qb.length]
      exact of_decide_eq_true hl
     ·exact o σ Hf1 _ (sr1.mut hi rfl h1 q1' rfl ⟨p,_,rfl,q1',upd_same,q3'.append qb⟩) e1.f
    ·exact (show False from o).elim
   ·rename_i x hk
    rw [hk]
    exact fun C od Hf' H' e' r'=>o C od σ Hf' H' (sr.ext e') e'.f r'
   ·exact (show False from o).elim
  ·exact (show False from o).elim
end
end DL
namespace DL
open PySem L2
section
variable {Z:Zt} {E:XS} {X:Cx}
end
end DL
namespace DL
open PySem L2
theorem fn_bad {P:Program} {w:World} {K:PySem.W.Frag} {mg:Str->Option Value} {base:Heap} {k:Nat} {f:Addr} {fd:FuncData} {ps:List Str} {kx:Kx}:FnOk P w K mg base (CX1 P w) k f fd ps (spD kx ps.length fun _=>.bad):=
 ⟨fun vs H Q E h=>h.1,fun A outer s H args us vs Q E _ _ _ _ h=>by
  obtain ⟨_,Hf,ds,_,_,o⟩:=h
  exact (show False from o).elim⟩
section
variable {Z:Zt} {E:XS} {X:Cx}
end
end DL
namespace DL
open PySem L2
theorem law_ok {P:Program} {w:World} {K:PySem.W.Frag} {mg:Str->Option Value} {base:Heap} {k:Nat} {f:Addr} {fd:FuncData} {F:List D->Res DV} {kx:Kx} (hkx:kx.fr = K) (G:FnOk P w K mg base (CX1 P w) k f fd ["_law_script"] (spD kx 1 F))
  (h:∀ ns:List Int,ns.length ≤ 63->F [.scr ns] = .val (.fz (.bl true))):FnOk P w K mg base CX0 k f fd ["_law_script"] (My.spLaw K):=
 ⟨fun vs H Q E q=>by obtain ⟨a,ns,rfl,_⟩:=q;rfl,fun A outer s H args us vs Q E hr e0 hb hv q=>by
  obtain ⟨a,ns,rfl,hS,hl,q⟩:=q
  refine codeAny_mono (G.run A outer s H args us [.ref a] Q (fun _ _ _=>False) hr e0 hb hv ⟨rfl,H,[.scr ns],Same.refl _,Reps.cons (by unfold Rep;exact ⟨a,rfl,hkx ▸ hS⟩) Reps.nil,?_⟩) fun r s' hq=>?_
  ·rw [h ns hl]
   intro v Hf' H' _ r' _
   have r'':Rep kx Hf' (.bl true) v:=r'
   cases rep_bl r''
   exact q H'
  ·cases r with
   | error e=>
    obtain ⟨x,C,od,H',_,_,_,_,_,_,_,_,z⟩:=hq
    exact z.elim
   | ok fl=>cases fl <;> exact hq⟩
def noXa:Str->Option Addr:=fun _=>none
theorem noXa_inj:∀ c c' C,noXa c = some C->noXa c' = some C->c = c':=fun _ _ _ h=>nomatch h
structure BnK (K:PySem.W.Frag):Prop where
 len:PySem.W.nsIn K mainGlobals "len" = some none
 isinstance:PySem.W.nsIn K mainGlobals "isinstance" = some none
 all:PySem.W.nsIn K mainGlobals "all" = some none
 any:PySem.W.nsIn K mainGlobals "any" = some none
 str:PySem.W.nsIn K mainGlobals "str" = some none
 int:PySem.W.nsIn K mainGlobals "int" = some none
 bool:PySem.W.nsIn K mainGlobals "bool" = some none
 tuple:PySem.W.nsIn K mainGlobals "tuple" = some none
 list:PySem.W.nsIn K mainGlobals "list" = some none
 dict:PySem.W.nsIn K mainGlobals "dict" = some none
 range:PySem.W.nsIn K mainGlobals "range" = some none
 enumerate:PySem.W.nsIn K mainGlobals "enumerate" = some none
 zip:PySem.W.nsIn K mainGlobals "zip" = some none
 sorted:PySem.W.nsIn K mainGlobals "sorted" = some none
 ord:PySem.W.nsIn K mainGlobals "ord" = some none
 reversed:PySem.W.nsIn K mainGlobals "reversed" = some none
 set:PySem.W.nsIn K mainGlobals "set" = some none
 abs:PySem.W.nsIn K mainGlobals "abs" = some none
 min:PySem.W.nsIn K mainGlobals "min" = some none
 max:PySem.W.nsIn K mainGlobals "max" = some none
theorem BnK.bn {K:PySem.W.Frag} {h:Heap} {mg:Str->Option Value} (b:BnK K) (X:K.In h) (G:h.Ns mainGlobals mg):Bn mg where
 len:=PySem.W.mg_none_of X G b.len
 isinstance:=PySem.W.mg_none_of X G b.isinstance
 all:=PySem.W.mg_none_of X G b.all
 any:=PySem.W.mg_none_of X G b.any
 str:=PySem.W.mg_none_of X G b.str
 int:=PySem.W.mg_none_of X G b.int
 bool:=PySem.W.mg_none_of X G b.bool
 tuple:=PySem.W.mg_none_of X G b.tuple
 list:=PySem.W.mg_none_of X G b.list
 dict:=PySem.W.mg_none_of X G b.dict
 range:=PySem.W.mg_none_of X G b.range
 enumerate:=PySem.W.mg_none_of X G b.enumerate
 zip:=PySem.W.mg_none_of X G b.zip
 sorted:=PySem.W.mg_none_of X G b.sorted
 ord:=PySem.W.mg_none_of X G b.ord
 reversed:=PySem.W.mg_none_of X G b.reversed
 set:=PySem.W.mg_none_of X G b.set
 abs:=PySem.W.mg_none_of X G b.abs
 min:=PySem.W.mg_none_of X G b.min
 max:=PySem.W.mg_none_of X G b.max
end DL
namespace L2
open PySem PySem.Spec PyProof.Rows
section
variable {X:Cx}
end
end L2
namespace L2
open PySem PySem.Spec PyProof.Rows
section
variable {prog:Program} {w:World} {A:Around} {E:Value->Shared->Prop} {s:Shared} {R:Result->Shared->Prop}
variable {I:Addr} {fp wr:List Addr} {G:Array GenState->Array GenState->Prop} {n:Nat} {P:Nat->Value->Prop} {St:Nat->Shared->Prop}
end
section
variable {X:Cx}
end
end L2
namespace L2
open PySem PySem.Spec PyProof.Rows
theorem owner_rvo:Manifest.owners.lookup (String.ofList ['d','e','s','r','e','v','e','r'].reverse) = some Manifest.sig_reversed:=by kernel_rfl
theorem slot_rvo_next:Slot "reversed" "__next__" "reversed.__next__":=
 .of (owner:="reversed") (n:="__next__") (by rw [typeLookup_type,builtinLookup_eq_fast];kernel_rfl) (by decide +kernel) (by decide +kernel) (by decide +kernel)
  (by first | exact .inl (by decide +kernel) | exact .inr (by decide +kernel)) (by rw [isSubtype_type];kernel_rfl)
theorem entry_rvo_next:entryFor table "reversed.__next__" = some Builtin.«reversed.__next__»:=entryFor_of_tree (by kernel_rfl)
theorem args_rvo_next (a:Value):argsOk "reversed.__next__" ⟨[a],[]⟩:=by
 unfold argsOk;rw [signature?_of (id:="reversed.__next__") (n:=['_','_','t','x','e','n','_','_']) (o:=['d','e','s','r','e','v','e','r']) (by kernel_rfl) owner_rvo];kernel_rfl
theorem slot_rvo_hint:Slot "reversed" "__length_hint__" "reversed.__length_hint__":=
 .of (owner:="reversed") (n:="__length_hint__") (by rw [typeLookup_type,builtinLookup_eq_fast];kernel_rfl) (by decide +kernel) (by decide +kernel) (by decide +kernel)
  (by first | exact .inl (by decide +kernel) | exact .inr (by decide +kernel)) (by rw [isSubtype_type];kernel_rfl)
theorem entry_rvo_hint:entryFor table "reversed.__length_hint__" = some Builtin.«reversed.__length_hint__»:=entryFor_of_tree (by kernel_rfl)
theorem args_rvo_hint (a:Value):argsOk "reversed.__length_hint__" ⟨[a],[]⟩:=by
 unfold argsOk;rw [signature?_of (id:="reversed.__length_hint__") (n:=['_','_','t','n','i','h','_','h','t','g','n','e','l','_','_']) (o:=['d','e','s','r','e','v','e','r']) (by kernel_rfl) owner_rvo];kernel_rfl
theorem slot_rvo_iter:Slot "reversed" "__iter__" "reversed.__iter__":=
 .of (owner:="reversed") (n:="__iter__") (by rw [typeLookup_type,builtinLookup_eq_fast];kernel_rfl) (by decide +kernel) (by decide +kernel) (by decide +kernel)
  (by first | exact .inl (by decide +kernel) | exact .inr (by decide +kernel)) (by rw [isSubtype_type];kernel_rfl)
theorem args_rvo_iter (a:Value):argsOk "reversed.__iter__" ⟨[a],[]⟩:=by
 unfold argsOk;rw [signature?_of (id:="reversed.__iter__") (n:=['_','_','r','e','t','i','_','_']) (o:=['d','e','s','r','e','v','e','r']) (by kernel_rfl) owner_rvo];kernel_rfl
theorem entry_rvo_iter:entryFor table "reversed.__iter__" = some Builtin.«dict_keyiterator.__iter__»:=
 entryFor_alias (id':="dict_keyiterator.__iter__") (by kernel_rfl) (by first | rfl | decide +kernel | (unfold String.splitOn;simp +decide [String.splitOnAux])) (by decide +kernel) (by kernel_rfl)
theorem norev_tup:typeLookup (.type "tuple") "__reversed__" = pure none:=by rw [typeLookup_type,builtinLookup_eq_fast];kernel_rfl
theorem nolen_rvo:typeLookup (.type "reversed") "__len__" = pure none:=by rw [typeLookup_type,builtinLookup_eq_fast];kernel_rfl
theorem hint_rvo:typeLookup (.type "reversed") "__length_hint__" = pure (some (.builtin "reversed.__length_hint__")):=by rw [typeLookup_type,builtinLookup_eq_fast];kernel_rfl
theorem slot_rvo_init:Slot "reversed" "__init__" "object.__init__":=
 .of (owner:="object") (n:="__init__") (by rw [typeLookup_type,builtinLookup_eq_fast];kernel_rfl) (by decide +kernel) (by decide +kernel) (by decide +kernel)
  (by first | exact .inl (by decide +kernel) | exact .inr (by decide +kernel)) (by rw [isSubtype_type];kernel_rfl)
theorem called_rvo:TypeCalled "reversed" "reversed.__new__" "object.__init__":=⟨by decide +kernel,F.create_reversed,⟨_,_,F.mro_reversed⟩,F.made_reversed,F.plain_reversed_new,F.sub_reversed_self,slot_rvo_init⟩
def rvObj (l:Addr) (i:Int):Obj:={ cls:=.type "reversed",data:=.fields #[.ref l,rawInt i] }
def IsRv (h:Heap) (a l:Addr) (i:Int):Prop:=∃ o,h.get? a = some o/\o.cls = .type "reversed"/\o.data = .fields #[.ref l,rawInt i]
section
variable {prog:Program} {w:World} {A:Around} {E:Value->Shared->Prop} {s:Shared}
theorem IsRv.typeIs {a l:Addr} {i:Int} (x:IsRv s.heap a l i):s.TypeIs (.ref a) "reversed":=let ⟨o,ho,hc,_⟩:=x;⟨o,ho,hc⟩
theorem IsRv.at {h h':Heap} {a l:Addr} {i:Int} (x:IsRv h a l i) (e:∀ o,h.get? a = some o->h'.get? a = some o):IsRv h' a l i:=let ⟨o,ho,r⟩:=x;⟨o,e _ ho,r⟩
theorem code_rvo_new {l:Addr} {items:Array Value} {Q₁:Value->Shared->Prop} (hl:IsTup s.heap l items) (hz:items.size ≤ sizeLine)
  (h:∀ tk,Q₁ (.ref s.heap.objs.size) { s with heap:=s.heap.push (rvObj l ((items.size:Int) - 1)),toks:=tk }) :
  codeAny (model prog w) A (.call (.builtin "reversed.__new__") ⟨[.type "reversed",.ref l],[]⟩) (wants Q₁ E) s:=by
 refine codeAny_of_tree ?_
 show wpAny _ A.in1 (do checkBuiltinCall "reversed.__new__" ⟨[.type "reversed",.ref l],[]⟩;again (.builtin "reversed.__new__" ⟨[.type "reversed",.ref l],[]⟩)) _ _ s
 refine wpAny_bind (wpAny_of_eq (F.newCall_reversed_1 _) (wpAny_pure ⟨plainId_quiet F.plain_reversed_new _,codeAny_builtin F.entry_reversed_new ?_⟩))
 rw [Around.under_plainId F.plain_reversed_new _]
 unfold Builtin.«reversed.__new__»
 refine wpAny_bind (wpAny_of_eq (newClass_reversed _) ?_)
 try dsimp only
 refine wpAny_bind (wpAny_of_eq (a:=()) (by first | rfl | kernel_rfl) ?_)
 refine wpAny_bind (wpAny_of_eq (a:=()) (by first | rfl | kernel_rfl) ?_)
 try dsimp only
 refine wpAny_bind (wpAny_specialOf hl.typeIs norev_tup ?_)
 try dsimp only
 refine wpAny_bind ?_
 refine wpAny_bind (wpAny_isInstance (T:="tuple") (b:=false) hl.typeIs (by rw [isSubtype_type];kernel_rfl) ?_)
 rw [if_neg (by decide)]
 refine wpAny_bind (wpAny_specialOf hl.typeIs slot_tuple_getitem.lookup ?_)
 dsimp only
 rw [if_pos (by decide +kernel)]
 refine wpAny_pure ?_
 rw [if_neg (by decide)]
 refine wpAny_bind (len_tuple hl (by rw [sizeLine_eq] at hz;omega) ?_)
 refine wpAny_bind (m:=asInt? _) (wpAny_of_eq (a:=some (items.size:Int)) rfl ?_)
 dsimp only
 refine wpAny_bind ?_
 unfold Builtin.SmallTypes.newRecord
 dsimp only
 refine wpAny_newObj_type ?_ (by size_fits)
 exact wpAny_pure (h _)
theorem call_rev_tup {l:Addr} {items:Array Value} {Q:Value->Shared->Prop} (hl:IsTup s.heap l items) (hz:items.size ≤ sizeLine)
  (h:∀ tk,Q (.ref s.heap.objs.size) { s with heap:=s.heap.push (rvObj l ((items.size:Int) - 1)),toks:=tk }):wpAny (model prog w) A (call (.type "reversed") [.ref l]) Q E s:=by
 refine callType_codes (Q₁:=fun obj s₁=>obj = .ref s.heap.objs.size/\∃ tk,s₁ = { s with heap:=s.heap.push (rvObj l ((items.size:Int) - 1)),toks:=tk }) called_rvo (F.typeCall_reversed_1 _) F.entry_object_init (code_rvo_new hl hz fun tk=>⟨rfl,tk,rfl⟩) ?_
 rintro obj s₁ ⟨rfl,tk,rfl⟩
 have hT:Shared.TypeIs { s with heap:=s.heap.push (rvObj l ((items.size:Int) - 1)),toks:=tk } (.ref s.heap.objs.size) "reversed":=⟨_,Heap.get?_push_size _ rfl,rfl⟩
 exact ⟨hT,F.args_object_init_2 _ _,object_init_meets called_rvo.init.lookup called_rvo.made (by decide) _ _ _ _ _ ⟨hT,rfl,h tk⟩⟩
theorem next_rvo {it l:Addr} {i:Nat} {items:Array Value} {x:Value} {Q:Option Value->Shared->Prop} (hit:IsRv s.heap it l (i:Int)) (hl:IsTup s.heap l items) (hx:items[i]? = some x) (hz:items.size ≤ sizeLine)
  (hQ:∀ h' tk,IsRv h' it l ((i:Int) - 1)->Heap.SameBut it s.heap h'->Q (some x) { s with heap:=h',toks:=tk }):wpAny (model prog w) A (pyNext (.ref it)) Q E s:=by
 obtain ⟨o,ho,hc,hd⟩:=id hit
 have hi:i < items.size:=(Array.getElem?_eq_some_iff.mp hx).1
 unfold pyNext
 refine wpAny_bind (wpAny_attempt (wpAny_callSpecial?_slot (name:=Str.ofString "__next__") hit.typeIs slot_rvo_next
  (wpAny_call_entry slot_rvo_next hit.typeIs entry_rvo_next ?_ (args_rvo_next _))))
 unfold Builtin.«reversed.__next__»
 refine wpAny_bind (wpAny_of_eq (a:=(Value.ref it,[])) rfl ?_)
 try dsimp only
 refine wpAny_bind (wpAny_field ho hd (x:=.ref l) rfl ?_)
 try dsimp only
 refine wpAny_bind (wpAny_field ho hd (x:=rawInt (i:Int)) rfl ?_)
 show wpAny _ _ (if (i:Int) < 0 then _ else _) _ _ s
 rw [if_neg (by omega)]
 refine wpAny_bind (wpAny_specialOf hl.typeIs slot_tuple_getitem.lookup ?_)
 rw [if_neg (by decide)]
 refine wpAny_bind (wpAny_mkInt ?_)
 have hsi:seqIndex? (i:Int) items.size = some i:=by
  have h1:¬ ((i:Int) < 0):=by omega
  simp only [seqIndex?,if_neg h1]
  rw [if_pos (by simp;omega)]
  rfl
 refine wpAny_bind (wpAny_attempt (getItem_tuple (k:=(i:Int)) (j:=i) hl (by rw [sizeLine_eq] at hz;omega) (by rw [sizeLine_eq] at hz;omega) hsi hx ?_))
 dsimp only
 refine wpAny_bind (wpAny_field ho hd (x:=rawInt (i:Int)) rfl ?_)
 show wpAny _ _ (setField (.ref it) 1 (rawInt ((i:Int) - 1)) >>= _) _ _ _
 refine wpAny_bind (wpAny_setField ho hd (by simp) ?_)
 first
 | refine wpAny_pure ⟨x,rfl,wpAny_pure (hQ _ _ ?_ (Heap.SameBut.update ..))⟩
 | refine wpAny_bind (wpAny_pure (wpAny_pure ⟨x,rfl,wpAny_pure (hQ _ _ ?_ (Heap.SameBut.update ..))⟩))
 exact ⟨_,Heap.get?_update_self _ ho (Obj.isFreed_of_fields (Obj.data_mapFields hd _)),(Obj.cls_mapFields ..).trans hc,by
  rw [Obj.data_mapFields hd];simp⟩
theorem end_rvo {it l:Addr} {Q:Option Value->Shared->Prop} (hh:A.handled = none) (hit:IsRv s.heap it l (-1))
  (hQ:∀ h',Heap.ExtBut it s.heap h'->Q none { s with heap:=h' }):wpAny (model prog w) A (pyNext (.ref it)) Q E s:=by
 obtain ⟨o,ho,hc,hd⟩:=id hit
 unfold pyNext
 refine wpAny_bind (wpAny_attempt (wpAny_callSpecial?_slot (name:=Str.ofString "__next__") hit.typeIs slot_rvo_next
  (wpAny_call_entry slot_rvo_next hit.typeIs entry_rvo_next ?_ (args_rvo_next _))))
 unfold Builtin.«reversed.__next__»
 refine wpAny_bind (wpAny_of_eq (a:=(Value.ref it,[])) rfl ?_)
 try dsimp only
 refine wpAny_bind (wpAny_field ho hd (x:=.ref l) rfl ?_)
 try dsimp only
 refine wpAny_bind (wpAny_field ho hd (x:=rawInt (-1)) rfl ?_)
 show wpAny _ _ (if (-1:Int) < 0 then _ else _) _ _ s
 rw [if_pos (by decide)]
 refine wpAny_bind (wpAny_rule ?_)
 refine wpAny_bind ?_
 refine wpAny_bind (wpAny_setField ho hd (by simp) ?_)
 have ho2:=Heap.get?_update_self (Obj.mapFields fun x=>x.setIfInBounds 1 (rawInt (-1))) ho (Obj.isFreed_of_fields (Obj.data_mapFields hd _))
 have hd2:=Obj.data_mapFields hd (fun x=>x.setIfInBounds 1 (rawInt (-1)))
 refine wpAny_setField ho2 hd2 (by simp) ?_
 refine wpAny_bind ?_
 show wpAny _ _ (newExc (.type "StopIteration") [] >>= _) _ _ _
 refine wpAny_bind ?_
 simp only [newExc,newTuple]
 refine wpAny_bind (wpAny_newObj_type ?_ (by size_fits))
 refine wpAny_bind (m:=firstArgMember _ _) (wpAny_of_eq (a:=Value.none) (by first | rfl | (simp only [firstArgMember];rfl)) ?_)
 refine wpAny_newObj_type ?_ (by size_fits)
 simp only [raiseNew]
 refine wpAny_bind (wpAny_handled ?_)
 first | rw [show A.in1.handled = none from hh] | rw [hh]
 refine wpAny_bind (wpAny_pure (wpAny_throw ?_))
 refine wpAny_bind (wpAny_isInstance (T:="StopIteration") (b:=true) ⟨_,Heap.get?_push_size _ rfl,rfl⟩ isSubtype_stop ?_)
 exact wpAny_pure (hQ _ fun b o' hb e=>Heap.get?_push_of_some _ (Heap.get?_push_of_some _ ((Heap.get?_update_other _ _ (Ne.symm hb)).trans ((Heap.get?_update_other _ _ (Ne.symm hb)).trans e))))
theorem iter_rvo {it l:Addr} {i:Int} {Q:Value->Shared->Prop} (hit:IsRv s.heap it l i) (h:Q (.ref it) s):wpAny (model prog w) A (pyIter (.ref it)) Q E s:=by
 refine wpAny_pyIter_slot hit.typeIs slot_rvo_iter (wpAny_call_entry slot_rvo_iter hit.typeIs entry_rvo_iter ?_ (args_rvo_iter _))
 show wpAny _ _ (ret (.ref it)) _ _ s
 exact wpAny_pure ⟨_,rfl,"reversed",_,hit.typeIs,slot_rvo_next.lookup,h⟩
end
theorem walks_rvo {prog:Program} {w:World} {A:Around} (hh:A.handled = none) (I l:Addr) (hne:l ≠ I) (items:Array Value) (hz:items.size ≤ sizeLine) :
  Walks prog w A I [I,l] [I] items.size (fun i v=>items[items.size - 1 - i]? = some v) (fun i h=>i ≤ items.size/\IsRv h I l ((items.size:Int) - 1 - (i:Int))/\IsTup h l items) where
 sub:=fun b hb=>by simp at hb;simp [hb]
 frame:=fun _ _ _ x hk=>⟨x.1,x.2.1.at fun o e=>hk I (by simp) o e,let ⟨o,ho,r⟩:=x.2.2;⟨o,hk l (by simp) o ho,r⟩⟩
 item:=fun i s Q E hi x hQ=>by
  have e:(items.size:Int) - 1 - (i:Int) = ((items.size - 1 - i:Nat):Int):=by omega
  have hit:=x.2.1
  rw [e] at hit
  have hx:items[items.size - 1 - i]? = some (items[items.size - 1 - i]'(by omega)):=Array.getElem?_eq_getElem (by omega)
  refine next_rvo hit x.2.2 hx hz fun h' tk hit' hs'=>?_
  have e2:((items.size - 1 - i:Nat):Int) - 1 = (items.size:Int) - 1 - ((i + 1:Nat):Int):=by omega
  rw [e2] at hit'
  exact hQ _ h' tk hx ⟨hi,hit',let ⟨o,ho,r⟩:=x.2.2;⟨o,(hs'.2 l hne).trans ho,r⟩⟩ fun b o hb eo=>hs'.extBut b o (fun h=>hb (by simp [h])) eo
 done:=fun s Q E x hQ=>by
  have e:(items.size:Int) - 1 - (items.size:Int) = -1:=by omega
  have hit:=x.2.1
  rw [e] at hit
  exact end_rvo hh hit fun h' he'=>hQ h' s.toks fun b o hb eo=>he' b o (fun h=>hb (by simp [h])) eo
 self:=fun _ _ _ _ x hQ=>iter_rvo x.2.1 hQ
section
variable {prog:Program} {w:World} {A:Around} {E:Value->Shared->Prop} {s:Shared} {R:Result->Shared->Prop}
variable {I:Addr} {fp wr:List Addr} {G:Array GenState->Array GenState->Prop} {n:Nat} {P:Nat->Value->Prop} {St:Nat->Shared->Prop}
theorem hint_call {I l:Addr} {items:Array Value} {Q:Value->Shared->Prop} {E:Value->Shared->Prop} (hit:IsRv s.heap I l ((items.size:Int) - 1)) (hl:IsTup s.heap l items) (hz:items.size ≤ sizeLine)
  (h:∀ t tk,s.toks ≤ tk->Q (.int items.size t) { s with toks:=tk }):wpAny (model prog w) A (call (.builtin "reversed.__length_hint__") [.ref I]) Q E s:=by
 obtain ⟨o,ho,hc,hd⟩:=id hit
 refine wpAny_call_entry slot_rvo_hint hit.typeIs entry_rvo_hint ?_ (args_rvo_hint _)
 unfold Builtin.«reversed.__length_hint__»
 refine wpAny_bind (wpAny_of_eq (a:=Value.ref I) rfl ?_)
 try dsimp only
 refine wpAny_bind (wpAny_field ho hd (x:=.ref l) rfl ?_)
 rw [if_neg (show ¬ ((Value.ref l == Value.none) = true) from Bool.false_ne_true)]
 refine wpAny_bind (len_tuple hl (by rw [sizeLine_eq] at hz;omega) ?_)
 refine wpAny_bind (m:=asInt? _) (wpAny_of_eq (a:=some (items.size:Int)) rfl ?_)
 dsimp only
 refine wpAny_bind (wpAny_field ho hd (x:=rawInt ((items.size:Int) - 1)) rfl ?_)
 show wpAny _ _ (if (items.size:Int) < (items.size:Int) - 1 + 1 then _ else _) _ _ _
 rw [if_neg (by omega),show (items.size:Int) - 1 + 1 = items.size by omega]
 exact wpAny_bind (wpAny_mkInt (wpAny_pure ⟨_,rfl,h _ _ (Nat.le_add_right s.toks 3)⟩))
theorem extend_rvo {items:Array Value} {l:Addr} (W:WalksS prog w A.in1 I fp wr G n P St) (hT:∀ i s,St i s->s.TypeIs (.ref I) "reversed") (h0:IsRv s.heap I l ((items.size:Int) - 1)/\IsTup s.heap l items) (hz:items.size ≤ sizeLine) (S:Addr) (res:Value) (c₀:Nat) (hst:St 0 s) (hSf:S ∉ fp) (hI:I ∈ fp)
  (hS:s.heap.get? S = some { cls:=.type "list",data:=.seq #[] c₀ })
  (hR:∀ s' acc' c',Moved (S :: wr) G s s'->s'.heap.get? S = some { cls:=.type "list",dict:=none,data:=.seq acc' c',slots:=#[] }->ItemsOf P acc' n->R (.ok (.ret res)) s') (hn:n ≤ sizeLine) :
  wpAny (model prog w) A.in1 (Builtin.List.listExtendWith (.ref S) (.ref I) res)
   (fun fin s'=>match fin with | .done f=>R (.ok f) s' | .again c'=>c'.quiet = true/\codeAny (model prog w) A c' R s') (fun e s'=>R (.error e) s') s:=by
 have hSI:S ≠ I:=fun e=>hSf (e ▸ hI)
 unfold Builtin.List.listExtendWith
 refine wpAny_bind (wpAny_typeOf (hT 0 _ hst) ?_)
 have h1:Builtin.List.listSameRef (.ref S) (.ref I) = false:=by simp [Builtin.List.listSameRef,hSI]
 rw [if_neg (by rw [h1];decide)]
 refine wpAny_bind (W.self 0 _ _ _ hst ?_)
 refine wpAny_bind (wpAny_holding ?_)
 unfold Builtin.List.listLengthHint
 refine wpAny_bind (wpAny_specialOf (hT 0 _ hst) nolen_rvo ?_)
 show wpAny _ A.in1 (specialOf (Value.ref I) (Str.ofString "__length_hint__") >>= _) _ _ _
 refine wpAny_bind (wpAny_specialOf (hT 0 _ hst) hint_rvo ?_)
 (generalize hid:("reversed.__length_hint__":String) = id0;(fail_if_success (clear hid id0));wp_delta;rw [show splitId id0 = some ("reversed","__length_hint__") from by subst hid;decide +kernel];subst hid)
 refine wpAny_bind (wpAny_isInstance (b:=true) (hT 0 _ hst) (by rw [isSubtype_type];kernel_rfl) ?_)
 rw [if_neg (by decide)]
 have fin:∀ (s2:Shared) (c:Nat),s2.heap.get? S = some { cls:=.type "list",data:=.seq #[] c }->St 0 s2->Moved (S :: wr) G s s2->wpAny (model prog w) A.in1 (again (Code.builtin "list.extend.loop" { pos:=[Value.ref S,Value.ref I,res] })) (fun fin s'=>match fin with | .done f=>R (.ok f) s' | .again c'=>c'.quiet = true/\codeAny (model prog w) A c' R s') (fun e s'=>R (.error e) s') s2:=
  fun s2 c h2 st2 mv=>wpAny_pure ⟨plainId_quiet F.plain_extend_loop _,codeAny_extend_loopS W hn _ hSf _ n 0 _ _ _ rfl (Nat.zero_le _) st2 h2 (ItemsOf.nil P) fun s' acc' c' hm hS' hacc=>hR s' acc' c' (Moved.trans W.gtrans mv hm) hS' hacc⟩
 dsimp only
 split
 ·rename_i h
  exact absurd h (by decide +kernel)
 refine wpAny_bind (wpAny_rule ?_)
 refine wpAny_bind (wpAny_of_eq (slot_rvo_hint.bind _) ?_)
 dsimp only
 refine wpAny_bind (wpAny_attempt (hint_call h0.1 h0.2 hz fun t tk htk=>?_))
 have ai:(asInt? (Value.int (items.size:Int) t):Sem (Option Int)) = pure (some (items.size:Int)):=rfl
 show wpAny _ _ (asInt? (Value.int (items.size:Int) t) >>= _) _ _ _
 rw [ai,pure_bind]
 have hz':items.size ≤ 16777216:=by rw [← sizeLine_eq];exact hz
 have f1:Builtin.List.listFitsIndex (items.size:Int) = true:=by
  unfold Builtin.List.listFitsIndex
  rw [Bool.and_eq_true]
  exact ⟨decide_eq_true (by omega),decide_eq_true (by omega)⟩
 have f2:Builtin.List.listTooLong (items.size:Int).toNat = false:=decide_eq_false (by rw [Int.toNat_natCast];exact Nat.not_lt.mpr hz)
 show wpAny _ _ (if (!Builtin.List.listFitsIndex (items.size:Int)) = true then _ else _) _ _ _
 rw [f1,if_neg (by decide)]
 show wpAny _ _ (if (items.size:Int) < 0 then _ else _) _ _ _
 rw [if_neg (by omega)]
 show wpAny _ _ (if Builtin.List.listTooLong (items.size:Int).toNat = true then _ else _) _ _ _
 rw [f2,if_neg (by decide)]
 refine wpAny_pure ?_
 generalize ((items.size:Int) != 0) = room
 split
 ·refine wpAny_bind (wpAny_rule ?_)
  refine wpAny_bind ?_
  unfold Builtin.List.listTouch
  show wpAny _ _ (updateSeq S (fun x=>x.push .none) >>= fun _=>updateSeq S (fun x=>x.pop)) _ _ _
  refine wpAny_bind (wpAny_updateSeq hS rfl ?_ (Nat.zero_le _) (Nat.succ_le_succ (Nat.zero_le _)))
  have hS₂:=Heap.get?_update_self (Obj.mapSeq (fun x=>x.push .none)) hS rfl
  refine wpAny_updateSeq hS₂ rfl ?_ (show 1 ≤ sizeLine by rw [sizeLine_eq];decide) (Nat.zero_le _)
  have hS₃:=Heap.get?_update_self (Obj.mapSeq (fun x=>x.pop)) hS₂ rfl
  have oth:∀ b o,b ≠ S->s.heap.get? b = some o->((s.heap.update S (Obj.mapSeq (fun x=>x.push .none))).update S (Obj.mapSeq (fun x=>x.pop))).get? b = some o:=
   fun b o hb e=>(Heap.get?_update_other _ _ (Ne.symm hb)).trans ((Heap.get?_update_other _ _ (Ne.symm hb)).trans e)
  exact fin _ _ hS₃ (W.frame 0 s _ tk hst htk fun b hb o e=>oth b o (fun h=>hSf (h ▸ hb)) e) ((Moved.refl W.grefl).then_heap htk fun b o hb e=>oth b o (fun h=>hb (h ▸ List.mem_cons_self)) e)
 ·exact fin _ _ hS (W.frame 0 s _ tk hst htk fun b hb o e=>e) ((Moved.refl W.grefl).then_heap htk fun b o hb e=>e)
theorem init_rvo {items:Array Value} {l S:Addr} (h0:IsRv s.heap I l ((items.size:Int) - 1)/\IsTup s.heap l items) (hz:items.size ≤ sizeLine) (hSl:l ≠ S) (W:WalksS prog w A.in1 I fp wr G n P St) (hT:∀ i s,St i s->s.TypeIs (.ref I) "reversed") (hst:St 0 s) (hSf:S ∉ fp) (hI:I ∈ fp)
  (hS:s.heap.get? S = some { cls:=.type "list",data:=.seq #[] })
  (hR:∀ s' acc' c',Moved (S :: wr) G s s'->s'.heap.get? S = some { cls:=.type "list",dict:=none,data:=.seq acc' c',slots:=#[] }->ItemsOf P acc' n->R (.ok (.ret .none)) s') (hn:n ≤ sizeLine) :
  wpAny (model prog w) A.in1 (Builtin.«list.__init__» ⟨[.ref S,.ref I],[]⟩)
   (fun fin s'=>match fin with | .done f=>R (.ok f) s' | .again c'=>c'.quiet = true/\codeAny (model prog w) A c' R s') (fun e s'=>R (.error e) s') s:=by
 show wpAny _ A.in1 (do let old ← Builtin.List.listItems (.ref S);Builtin.List.listUpdate (.ref S) (fun _=>#[]);letGo old.toList.reverse;Builtin.List.listExtendWith (.ref S) (.ref I) .none) _ _ s
 refine wpAny_bind ?_
 unfold Builtin.List.listItems
 refine wpAny_bind (wpAny_seqItems hS rfl (wpAny_pure ?_))
 show wpAny _ A.in1 (updateSeq S (fun _=>#[]) >>= fun _=>letGo (#[]:Array Value).toList.reverse >>= fun _=>Builtin.List.listExtendWith (.ref S) (.ref I) .none) _ _ s
 refine wpAny_bind (wpAny_updateSeq hS rfl ?_)
 have hS₂:=Heap.get?_update_self (Obj.mapSeq (fun _=>(#[]:Array Value))) hS rfl
 have oth:∀ b o,b ≠ S->s.heap.get? b = some o->(s.heap.update S (Obj.mapSeq (fun _=>(#[]:Array Value)))).get? b = some o:=
  fun b o hb e=>(Heap.get?_update_other _ _ (Ne.symm hb)).trans e
 refine wpAny_bind (wpAny_letGo ?_)
 refine extend_rvo (hn:=hn) W hT ⟨h0.1.at fun o e=>oth _ o (fun h=>hSf (h ▸ hI)) e,let ⟨o,ho,r⟩:=h0.2;⟨o,oth _ o hSl ho,r⟩⟩ hz S .none _ (W.frame 0 s _ s.toks hst (Nat.le_refl _) fun b hb o e=>oth b o (fun h=>hSf (h ▸ hb)) e) hSf hI hS₂ fun s' acc' c' hm hS' hacc=>?_
 exact hR s' acc' c' (Moved.trans W.gtrans ((Moved.refl W.grefl).then_heap (Nat.le_refl _) fun b o hb e=>oth b o (fun h=>hb (h ▸ List.mem_cons_self)) e) hm) hS' hacc
theorem call_list_rvo {items:Array Value} {l:Addr} {Q:Value->Shared->Prop} (h0:IsRv s.heap I l ((items.size:Int) - 1)/\IsTup s.heap l items) (hz:items.size ≤ sizeLine) (W:WalksS prog w A.in1.in1 I fp wr G n P St) (hT:∀ i s,St i s->s.TypeIs (.ref I) "reversed") (hst:St 0 s) (hfp:∀ b ∈ fp,b < s.heap.objs.size) (hI:I ∈ fp)
  (hQ:∀ s' acc' c',Moved (s.heap.objs.size :: wr) G { s with heap:=s.heap.push { cls:=.type "list",data:=.seq #[] } } s' →
   s'.heap.get? s.heap.objs.size = some { cls:=.type "list",dict:=none,data:=.seq acc' c',slots:=#[] }->ItemsOf P acc' n->Q (.ref s.heap.objs.size) s') (hn:n ≤ sizeLine) :
  wpAny (model prog w) A (call (.type "list") [.ref I]) Q E s:=by
 have hSf:s.heap.objs.size ∉ fp:=fun hm=>Nat.lt_irrefl _ (hfp _ hm)
 refine callType_codes (Q₁:=fun obj s₁=>obj = .ref s.heap.objs.size/\s₁ = { s with heap:=s.heap.push { cls:=.type "list",data:=.seq #[] } }) F.called_list (F.typeCall_list_1 _) F.entry_list_init
  (code_list_new _ ⟨rfl,rfl⟩) fun obj s₁ h₁=>?_
 obtain ⟨rfl,rfl⟩:=h₁
 have hS:(s.heap.push { cls:=.type "list",data:=.seq #[] }).get? s.heap.objs.size = some { cls:=.type "list",data:=.seq #[] }:=Heap.get?_push_size _ rfl
 refine ⟨⟨_,hS,rfl⟩,F.args_list_init_2 _ _,init_rvo (hn:=hn) ⟨h0.1.at fun o e=>Heap.get?_push_of_some _ e,let ⟨o,ho,r⟩:=h0.2;⟨o,Heap.get?_push_of_some _ ho,r⟩⟩ hz (by obtain ⟨o,ho,_⟩:=h0.2;exact Nat.ne_of_lt (Heap.lt_size ho)) W hT (W.frame 0 s _ s.toks hst (Nat.le_refl _) fun b _ o e=>Heap.get?_push_of_some _ e) hSf hI hS fun s' acc' c' hm hS' hacc=>?_⟩
 exact ⟨rfl,hQ s' acc' c' hm hS' hacc⟩
end
section
variable {X:Cx}
def tLrevT (K:PySem.W.Frag) (tl:TE):TE:=fun σ H Q=>tl σ H fun x H1=>∃ a xs,[x] = [V.ref a]/\SqT K H1 a xs/\∀ p,H1 p = none->Q (.ref p) (upd H1 p (.lst xs.reverse))
theorem pe_listRevT {l:Expr} {tl:TE} {p1 p2 pos1 pos2:Pos} (hc:X.calm = true) (hgL:Gl X "list") (hmL:X.mg "list" = none) (hgR:Gl X "reversed") (hmR:X.mg "reversed" = none) (hl:PE X l tl)
  (hs:starEach [l] X.env = [(false,eval l X.env)]:=by rfl) (hs2:starEach [Expr.Call (.Name "reversed" p2) [l] [] pos2] X.env = [(false,eval (.Call (.Name "reversed" p2) [l] [] pos2) X.env)]:=by rfl) :
  PE X (.Call (.Name "list" p1) [.Call (.Name "reversed" p2) [l] [] pos2] [] pos1) (tLrevT X.K tl):=by
 intro pins s σ H Q I h
 refine wpAny_Call_Name_kw (ld_blt I hgL hmL boot_list ?_)
 refine PyProof.Rows.callWith_type1 ?_ hs2 rfl
 rw [hs2]
 show wpAny _ _ (spliced ((false,eval (.Call (.Name "reversed" p2) [l] [] pos2) X.env) :: backTo pos1 [])) _ _ s
 refine Calls.spliced_cons ?_
 refine Call_ (ld_blt I hgR hmR boot_reversed (PyProof.Rows.callWith_type1 (thn ((pa_cons hl pa_nil hs) pos2 pins s σ H (fun vs H1=>∃ a xs,vs = [V.ref a]/\SqT X.K H1 a xs/\∀ p,H1 p = none->Q (.ref p) (upd H1 p (.lst xs.reverse))) I h) fun us s1 ⟨vs,H1,I1,r1,q1⟩=>?_) hs rfl))
 obtain ⟨a,xs,e,hq,q⟩:=q1
 subst e
 obtain ⟨u,rfl,rx⟩:=vals1 r1
 cases rx
 obtain ⟨its,rv,pl,hz⟩:=I1.tuple hq
 have hl':=rv.length
 have hlt:a < s1.heap.objs.size:=by obtain ⟨_,e,_⟩:=pl;exact Heap.lt_size e
 refine call_rev_tup pl (by rw [List.size_toArray];omega) fun tk=>Calls.spliced_nil ?_
 have I2:Inv X pins σ H1 { s1 with heap:=s1.heap.push (rvObj a ((its.toArray.size:Int) - 1)),toks:=tk }:=I1.kept (t':=tk) fun b o e=>Heap.get?_push_of_some _ e
 have W:=(walks_rvo (prog:=X.prog) (w:=X.w) (A:=X.A.in1.in1) (I.ok.hd hc) s1.heap.objs.size a (Nat.ne_of_lt hlt) its.toArray (by rw [List.size_toArray];omega)).toS
 have hsz:(s1.heap.push (rvObj a ((its.toArray.size:Int) - 1))).objs.size = s1.heap.objs.size + 1:=Heap.size_push ..
 refine call_list_rvo (l:=a) (items:=its.toArray) ⟨⟨_,Heap.get?_push_size _ rfl,rfl,by simp [rvObj]⟩,(let ⟨o,ho,r⟩:=pl;⟨o,Heap.get?_push_of_some _ ho,r⟩)⟩ (by rw [List.size_toArray];omega) W (fun i s st=>st.2.1.typeIs) ⟨Nat.zero_le _,⟨_,Heap.get?_push_size _ rfl,rfl,by simp [rvObj]⟩,(let ⟨o,ho,r⟩:=pl;⟨o,Heap.get?_push_of_some _ ho,r⟩)⟩ (fun b hb=>?_) (by simp) (fun s' acc c' hm hS' hacc=>?_) (by rw [List.size_toArray];omega)
 ·show b < (s1.heap.push _).objs.size
  rw [hsz]
  rcases List.mem_cons.mp hb with rfl | hb
  ·exact Nat.lt_succ_self _
  ·rw [List.mem_singleton.mp hb]
   exact Nat.lt_succ_of_lt hlt
 ·have ea:acc.toList = its.reverse:=by
   apply List.ext_getElem?
   intro i
   have h1:acc.size = its.length:=by rw [hacc.1,List.size_toArray]
   by_cases hi:i < its.length
   ·have h2:its.toArray[its.toArray.size - 1 - i]? = some acc[i]:=hacc.2 i acc[i] (Array.getElem?_eq_getElem (by omega))
    rw [List.getElem?_toArray,List.size_toArray] at h2
    rw [List.getElem?_reverse hi,Array.getElem?_toList,Array.getElem?_eq_getElem (by omega),← h2]
   ·rw [List.getElem?_eq_none (by rw [Array.length_toList];omega),List.getElem?_eq_none (by rw [List.length_reverse];omega)]
  have hS0:s1.heap.objs.size + 1 = (s1.heap.push (rvObj a ((its.toArray.size:Int) - 1))).objs.size:=hsz.symm
  have I3:=I2.turned (it:=s1.heap.objs.size) (h':=s'.heap) (t':=s'.toks) (fun b o hb e=>hm.heap b o (fun hmem=>?_) (Heap.get?_push_of_some _ e)) (I1.hok.fresh (Nat.le_refl _)) (I1.fpOk (Nat.le_refl _) (I1.hok.fresh (Nat.le_refl _))).2.1 (I1.fpOk (Nat.le_refl _) (I1.hok.fresh (Nat.le_refl _))).2.2.2.1 (I1.fpOk (Nat.le_refl _) (I1.hok.fresh (Nat.le_refl _))).2.2.2.2.1 (I1.fpOk (Nat.le_refl _) (I1.hok.fresh (Nat.le_refl _))).2.2.2.2.2
  ·rw [Moved.eq_with hm]
   refine ⟨.ref _,_,I3.track (o:=.lst xs.reverse) (I2.our (Nat.le_refl _)) ⟨by rw [List.length_reverse];exact hz,acc.toList,c',by rw [ea];exact rv.reverse,by simpa using hS'⟩,rfl,q _ (I2.hok.fresh (Nat.le_refl _))⟩
  ·rcases List.mem_cons.mp hmem with e' | hmem
   ·exact absurd (Heap.lt_size e) (by rw [e'];exact Nat.lt_irrefl _)
   ·exact hb (List.mem_singleton.mp hmem)
end
end L2
namespace HT
open PySem PySem.Spec PyProof.Rows
section
variable {prog:Program} {w:World} {A:Around} {E:Value->Shared->Prop} {s:Shared}
theorem getItem_tuple_whole {t sl:Addr} {items:Array Value} {vl vu:Value} {lo hi:Option Int} {Q:Value->Shared->Prop} (ht:IsTup s.heap t items) (hs:s.heap.IsSliceOf sl vl vu .none) (pl:IsPart vl lo) (pu:IsPart vu hi)
  (hw:sIx items.size 0 lo = 0/\sIx items.size items.size hi = items.size)
  (h:Q (.ref t) s) (hsz:items.size ≤ sizeLine):wpAny (model prog w) A (getItem (.ref t) (.ref sl)) Q E s:=by
 obtain ⟨os,hos,hcs,hds⟩:=id hs
 have hTs:s.TypeIs (.ref sl) "slice":=⟨os,hos,hcs⟩
 unfold getItem
 try with_reducible refine wpAny_holding ?_
 first | refine wpAny_bind (wpAny_pure ?_) | skip
 refine wpAny_bind (wpAny_sequenceKey ht.typeIs (by decide) ?_)
 refine wpAny_bind (wpAny_callSpecial?_slot (name:=Str.ofString "__getitem__") ht.typeIs PyProof.Rows.slot_tuple_getitem
  (wpAny_call_entry PyProof.Rows.slot_tuple_getitem ht.typeIs entry_tuple_getitem ?_ (args_tuple_getitem _ _)))
 show wpAny _ _ (Builtin.Tuple.tupleItemsOf (.ref t) >>= _) _ _ s
 refine wpAny_bind (tupleItemsOf_ ht ?_)
 refine wpAny_bind (wpAny_typeOf hTs ?_)
 rw [if_pos (by decide)]
 refine wpAny_bind (sliceApplied_gen hs pl pu ?_)
 show wpAny _ _ (if (((sIx items.size 0 lo:Nat):Int) == 0 && (1:Int) == 1 && (sIx items.size items.size hi - sIx items.size 0 lo) == items.size) = true then _ else _) _ _ s
 rw [if_pos (by rw [hw.1,hw.2];simp)]
 refine wpAny_bind ?_
 unfold Builtin.Tuple.tupleIsExact
 refine wpAny_bind (wpAny_typeOf ht.typeIs ?_)
 refine wpAny_pure ?_
 rw [if_pos (by decide)]
 refine wpAny_bind (wpAny_rule ?_)
 exact wpAny_pure ⟨_,rfl,wpAny_pure h⟩
end
end HT
namespace L2
open PySem PySem.Spec PyProof.Rows
def rSlW (K:PySem.W.Frag):V->Option Int->Option Int->Hp->VK->Prop:=fun x lo hi H Q=>∃ a xs,x = .ref a/\SqT K H a xs ∧
 (HT.sIx xs.length 0 lo = 0/\HT.sIx xs.length xs.length hi = xs.length)/\Q (.ref a) H
theorem sl_whole {X:Cx}:SlR X (rSlW X.K):=by
 intro pins s σ H x v vl vu lo hi sl Q I rx hs pl pu h
 obtain ⟨a,xs,rfl,hx,hw,q⟩:=h
 cases rx
 obtain ⟨its,r,ht,hz⟩:=I.tuple hx
 have hlen:its.toArray.size = xs.length:=by rw [List.size_toArray];exact r.length.symm
 refine ⟨"tuple",_,PyProof.Rows.slot_tuple_getitem.lookup,ht.typeIs,?_⟩
 exact HT.getItem_tuple_whole ht hs pl pu (by rw [hlen];exact hw) ⟨.ref a,H,I,rfl,q⟩ (by rw [hlen];exact hz)
end L2
namespace L2
open PySem PySem.Spec PyProof.Rows
section
variable {prog:Program} {w:World} {A:Around} {E:Value->Shared->Prop}
theorem draw_lst {it l:Addr} {items:Array Value} (ne:l ≠ it):∀ (n i:Nat) (s:Shared) (Q:List Value->Shared->Prop),s.heap.IsListIter it l i->s.heap.IsList l items->i + n ≤ items.size →
  (∀ h',h'.IsListIter it l (i + n)->Heap.SameBut it s.heap h'->Q ((items.toList.drop i).take n) { s with heap:=h' })->wpAny (model prog w) A (draw (.ref it) n) Q E s
 | 0,i,s,Q,hi,_,_,q=>wpAny_pure (by simpa using q s.heap hi (Heap.SameBut.refl ..))
 | n + 1,i,s,Q,hi,hl,le,q=>by
  have lt:i < items.size:=by omega
  refine wpAny_bind (m:=pyNext (.ref it)) (wpAny_pyNext_list_item hi hl (x:=items[i]) (by simp [lt]) fun h1 i1 b1=>?_)
  refine wpAny_bind (wpAny_holding (draw_lst ne n (i + 1) _ _ i1 (hl.extBut b1.extBut ne) (by omega) fun h2 i2 b2=>wpAny_pure ?_))
  have e:=q h2 (by rw [show i + (n + 1) = i + 1 + n by omega];exact i2) (b1.trans b2)
  rw [show items.toList.drop i = items[i] :: items.toList.drop (i + 1) by simp [List.drop_eq_getElem_cons,lt],List.take_succ_cons] at e
  exact e
theorem unpack_lst {s:Shared} {l:Addr} {items:Array Value} {targets:List (Bool × (Value->Sem Unit))} {Q:Unit->Shared->Prop} (hh:A.handled = none) (hl:s.heap.IsList l items)
  (hn:targets.length = items.size) (st:targets.findIdx? (·.1) = none)
  (h:∀ h',Heap.ExtBut s.heap.objs.size s.heap h'->wpAny (model prog w) A (assignInOrder (targets.map (·.2)) items.toList) Q E { s with heap:=h' }):wpAny (model prog w) A (unpack (.ref l) targets) Q E s:=by
 have ne:l ≠ s.heap.objs.size:=by obtain ⟨o,ho,_⟩:=hl;exact Nat.ne_of_lt (Heap.lt_size ho)
 unfold unpack
 rw [hn,st]
 refine wpAny_bind (wpAny_holding ?_)
 unfold unpackItems notIterableAtAll
 refine wpAny_bind (wpAny_bind (wpAny_specialOf hl.typeIs slot_list_iter.lookup (wpAny_pure ?_)))
 simp only [Bool.false_eq_true,if_false]
 refine wpAny_bind (wpAny_holding (wpAny_pyIter_list hl ?_))
 refine wpAny_bind (wpAny_holding (draw_lst ne items.size 0 _ _ ⟨_,Heap.get?_push_size _ rfl,rfl,rfl⟩ (hl.push _) (by omega) fun h1 i1 b1=>?_))
 rw [List.drop_zero,show List.take items.size items.toList = items.toList from List.take_of_length_le (by simp),if_neg (by simp)]
 have l1:h1.IsList l items:=(hl.push _).extBut b1.extBut ne
 refine wpAny_bind (wpAny_holding (wpAny_pyNext_list_end hh i1 l1 (by simp) fun h2 b2=>?_))
 simp only [Option.isSome_none,Bool.false_eq_true,if_false]
 exact wpAny_pure (h h2 fun b o hb e=>b2 b o hb (b1.extBut b o hb (Heap.get?_push_of_some _ e)))
end
section
variable {X:Cx}
def gTupL (K:PySem.W.Frag) (n:Nat) (t:TGs):TG:=fun v σ H Q=>∃ a xs,v = .ref a/\SqL K H a xs/\xs.length = n/\t xs σ H Q
theorem pg_tupL {es:List Expr} {k:Nat} {t:TGs} {n:Nat} {pos:Pos} (hc:X.calm = true) (h:PGs X es t)
  (hn:(assignEach es X.env).length = n:=by rfl) (hst:(assignEach es X.env).findIdx? (·.1) = none:=by rfl):PG X (.Tuple es k pos) (gTupL X.K n t):=by
 intro pins s σ H v u Q I r hw
 obtain ⟨a,xs,e1,hq,hl,hw⟩:=hw
 subst e1
 cases r
 obtain ⟨its,rv,ht,hz⟩:=I.list hq
 rw [assign_Tuple]
 refine wpAny_bind (wpAny_standAt (unpack_lst (I.ok.hd hc) ht.isList (by simp [hn,← hl,rv.length]) hst fun h' hx=>?_))
 have I1:Inv X pins σ H { s with heap:=h' }:=I.kept (t':=s.toks) fun b o e=>hx b o (Nat.ne_of_lt (Heap.lt_size e)) e
 exact h pins _ σ H xs _ Q I1 (by simpa using rv) hw
end
end L2
namespace DL
open PySem L2 PyProof.Rows
section
variable {X:Cx} {Z:Zt} {E:XS}
def parS (i j:Nat) (k:Dst->Res (List D)):Dst->So:=fun δ=>match k δ with
 | .val [d,d']=>.next ((δ.set i (some (.fz d))).set j (some (.fz d')))
 | .val _=>.bad
 | .exc x=>.exc x δ
 | .bad=>.bad
theorem s_par {i j:Nat} {x y:Str} {a b:Expr} {k:Dst->Res (List D)} {px py pt pos:Pos} {kt k2 pt2} (hc:X.calm = true) (hN:X.N.Nodup) (hi:X.N[i]? = some x) (hj:X.N[j]? = some y) (hij:i ≠ j)
  (hx:X.env.scope.names.lookup x = some .local) (hy:X.env.scope.names.lookup y = some .local) (ha:PA X [a,b] (tFs Z E k))
  (hw:swappedStores [.Tuple [.Name x px,.Name y py] kt pt] (.Tuple [a,b] k2 pt2) X.env = pure (some [x,y]))
  (hs:swapsWithSole [.Tuple [.Name x px,.Name y py] kt pt] (.Tuple [a,b] k2 pt2) pos.line X.env = pure false:=by rfl) :
  PS X (.Assign [.Tuple [.Name x px,.Name y py] kt pt] (.Tuple [a,b] k2 pt2) pos) (tS Z E (parS i j k)):=
 (ps_par hc hN hi hj hij hx hy ha hw hs).imp fun D σ H ⟨Hf,δ,sr,o⟩=>⟨Hf,δ,sr,by
  have o:OutS Z E Hf (parS i j k δ) D:=o
  unfold parS at o
  cases hk:k δ with
  | val ds=>
   rw [hk] at o
   match ds,o with
   | [d,d'],o=>
    intro vs Hf' H' e' r'
    obtain ⟨v,r,rfl,h1,h2⟩:=reps_cons.mp r'
    obtain ⟨v',r,rfl,h3,h4⟩:=reps_cons.mp h2
    cases reps_nil.mp h4
    exact ⟨v,v',rfl,o _ Hf' H' ((sr.setO (i:=i) e' (x:=.fz d) h1 (fun p z=>nomatch z)).setO (i:=j) (Ext.refl e'.s) (x:=.fz d') h3 (fun p z=>nomatch z)) e'.f⟩
   | [],o=>exact (show False from o).elim
   | [_],o=>exact (show False from o).elim
   | _ :: _ :: _ :: _,o=>exact (show False from o).elim
  | exc x=>rw [hk] at o;exact fun C od Hf' H' e' r'=>o C od σ Hf' H' (sr.ext e') e'.f r'
  | bad=>rw [hk] at o;exact (show False from o).elim⟩
theorem Reps.rev {K:Kx} {H:Hp}:∀ {ds:List D} {vs:List V},Reps K H ds vs->Reps K H ds.reverse vs.reverse
 | [],vs,h=>by cases reps_nil.mp h;exact h
 | d :: ds,vs,h=>by
  obtain ⟨v,r,rfl,h1,h2⟩:=reps_cons.mp h
  rw [List.reverse_cons,List.reverse_cons]
  exact Reps.append (Reps.rev h2) (Reps.cons h1 Reps.nil)
def lrevD:D->Res D
 | .tup ds=>.val (.lst ds.reverse)
 | _=>.bad
theorem d_lrev {l:Expr} {g:Dst->Res D} {p1 p2 pos1 pos2:Pos} (hK:Z.K.fr = X.K) (hc:X.calm = true) (hgL:Gl X "list") (hmL:X.mg "list" = none) (hgR:Gl X "reversed") (hmR:X.mg "reversed" = none) (hl:PE X l (tF Z E g))
  (hs:starEach [l] X.env = [(false,eval l X.env)]:=by rfl) (hs2:starEach [Expr.Call (.Name "reversed" p2) [l] [] pos2] X.env = [(false,eval (.Call (.Name "reversed" p2) [l] [] pos2) X.env)]:=by rfl) :
  PE X (.Call (.Name "list" p1) [.Call (.Name "reversed" p2) [l] [] pos2] [] pos1) (tF Z E (un lrevD g)):=
 (pe_listRevT hc hgL hmL hgR hmR hl hs hs2).imp fun σ H Q ⟨Hf,δ,sr,o⟩=>⟨Hf,δ,sr,F.F o fun d v Hf1 H1 e1 r1 o1=>by
  unfold lrevD at o1
  split at o1
  ·obtain ⟨a,vs,rfl,h1,h2⟩:=rep_tup r1
   refine ⟨a,vs,rfl,hK ▸ e1.s.seqT h1,fun p hp=>?_⟩
   have e2:=Ext.lay (o:=.lst vs.reverse) e1.s hp
   exact o1 _ _ _ e2 (Rep.lst (.inl upd_same) (Reps.same e2.f h2.rev))
  ·exact o1.elim⟩
theorem SR.brw {Hf H:Hp} {σ:L2.St} {δ:Dst} {i:Nat} {ds:List D} {p:Addr} {vs:List V} (sr:SR Z Hf H σ δ) (hi:δ[i]? = some (some (.ol ds))) (h1:σ[i]? = some (some (.ref p))) (hf:Hf p = none) (ho:H p = some (.lst vs)) (hr:Reps Z.K Hf ds vs):SR Z (upd Hf p (.lst vs)) H σ (δ.set i (some (.fz (.lst ds)))):=by
 have hz:=sr.new i _ p hi rfl h1
 have hl:i < δ.length:=(List.getElem?_eq_some_iff.mp hi).1
 have back:∀ {j:Nat} {y:DV},(δ.set i (some (.fz (.lst ds))))[j]? = some (some y)->y.own = true->i ≠ j/\δ[j]? = some (some y):=fun {j y} h o=>by
  by_cases hij:i = j
  ·subst hij
   rw [List.getElem?_set_self hl] at h
   cases h
   cases o
  ·rw [List.getElem?_set_ne hij] at h;exact ⟨hij,h⟩
 refine ⟨sr.e.frz hz hf ho,by rw [List.length_set];exact sr.len,fun j y h=>?_,fun j k y z q g1 g2 o1 o2 s1 s2=>sr.one j k y z q (back g1 o1).2 (back g2 o2).2 o1 o2 s1 s2,fun j y q g o s=>sr.new j y q (back g o).2 o s⟩
 by_cases hij:i = j
 ·subst hij
  rw [List.getElem?_set_self hl] at h
  cases h
  exact ⟨_,h1,Rep.lst (.inl upd_same) (Reps.same (Same.upd hf) hr)⟩
 ·rw [List.getElem?_set_ne hij] at h
  obtain ⟨w,g1,g2⟩:=sr.at_ j y h
  refine ⟨w,g1,?_⟩
  cases y with
  | fz d=>exact Rep.same (Same.upd hf) g2
  | ol d=>
   obtain ⟨q,ws,rfl,q1,q2,q3⟩:=g2
   have:q ≠ p:=fun e=>by
    subst e
    exact hij (sr.one i j _ _ q hi h rfl rfl h1 g1)
   exact ⟨q,ws,rfl,by rw [upd_ne this];exact q1,q2,Reps.same (Same.upd hf) q3⟩
  | od d=>
   obtain ⟨q,ws,rfl,q1,q2,q3⟩:=g2
   have:q ≠ p:=fun e=>by
    subst e
    exact hij (sr.one i j _ _ q hi h rfl rfl h1 g1)
   exact ⟨q,ws,rfl,by rw [upd_ne this];exact q1,q2,RepK.same (Same.upd hf) q3⟩
def brw (i:Nat) (g:Dst->Res Bool):Dst->Res Bool:=fun δ=>match δ[i]? with
 | some (some (.ol ds))=>match g (δ.set i (some (.fz (.lst ds)))) with
  | .val b=>.val b
  | _=>.bad
 | _=>.bad
theorem dt_brw (i:Nat) {e:Expr} {g:Dst->Res Bool} (h:PT X e (tFt Z E g)):PT X e (tFt Z E (brw i g)):=
 h.imp fun σ H Q ⟨Hf,δ,sr,o⟩=>by
  unfold brw at o
  split at o
  ·rename_i ds hi
   split at o
   ·rename_i b hg
    obtain ⟨v,h1,p,vs,rfl,hf,ho,hr⟩:=sr.at_ i _ hi
    refine ⟨_,_,sr.brw hi h1 hf ho hr,?_⟩
    rw [hg]
    intro Hf' H' e'
    refine o (fun a=>if a = p then none else Hf' a) H' ⟨fun a u q=>?_,e'.h,fun a u q=>?_,fun a u q=>?_⟩
    ·have:a ≠ p:=fun z=>by rw [z,hf] at q;cases q
     show (if a = p then none else Hf' a) = some u
     rw [if_neg this]
     exact e'.f a u (by rw [upd_ne this];exact q)
    ·by_cases z:a = p
     ·rw [if_pos z] at q;cases q
     ·rw [if_neg z] at q;exact e'.s a u q
    ·by_cases z:a = p
     ·rw [if_pos z] at q;cases q
     ·rw [if_neg z] at q
      rcases e'.n a u q with ⟨o',w⟩ | w
      ·rw [upd_ne z] at w;exact .inl ⟨o',w⟩
      ·exact .inr w
   ·exact (show False from o).elim
  ·exact (show False from o).elim
def flatD:D->Bool
 | .non=>true
 | .bl _=>true
 | .int _=>true
 | .str _=>true
 | _=>false
theorem flat_rep {K:Kx} {H H':Hp} {d:D} {v:V} (f:flatD d = true) (h:Rep K H d v):Rep K H' d v:=by
 cases d <;> first | exact h | cases f
def brwE (i:Nat) (g:Dst->Res D):Dst->Res D:=fun δ=>match δ[i]? with
 | some (some (.ol ds))=>match g (δ.set i (some (.fz (.lst ds)))) with
  | .val d=>if flatD d = true then .val d else .bad
  | _=>.bad
 | _=>.bad
theorem d_brw (i:Nat) {e:Expr} {g:Dst->Res D} (h:PE X e (tF Z E g)):PE X e (tF Z E (brwE i g)):=
 h.imp fun σ H Q ⟨Hf,δ,sr,o⟩=>by
  unfold brwE at o
  split at o
  ·rename_i ds hi
   split at o
   ·rename_i d hg
    split at o
    ·rename_i fl
     obtain ⟨v,h1,p,vs,rfl,hf,ho,hr⟩:=sr.at_ i _ hi
     refine ⟨_,_,sr.brw hi h1 hf ho hr,?_⟩
     rw [hg]
     intro v Hf' H' e' rv
     refine o v (fun a=>if a = p then none else Hf' a) H' ⟨fun a u q=>?_,e'.h,fun a u q=>?_,fun a u q=>?_⟩ (flat_rep fl rv)
     ·have:a ≠ p:=fun z=>by rw [z,hf] at q;cases q
      show (if a = p then none else Hf' a) = some u
      rw [if_neg this]
      exact e'.f a u (by rw [upd_ne this];exact q)
     ·by_cases z:a = p
      ·rw [if_pos z] at q;cases q
      ·rw [if_neg z] at q;exact e'.s a u q
     ·by_cases z:a = p
      ·rw [if_pos z] at q;cases q
      ·rw [if_neg z] at q
       rcases e'.n a u q with ⟨o',w⟩ | w
       ·rw [upd_ne z] at w;exact .inl ⟨o',w⟩
       ·exact .inr w
    ·exact (show False from o).elim
   ·exact (show False from o).elim
  ·exact (show False from o).elim
def addX (x y:D):Res D:=match x,y with
 | .tup (c :: a),.tup (d :: b)=>if lenOk ((c :: a).length + (d :: b).length) = true then .val (.tup ((c :: a) ++ (d :: b))) else .bad
 | x,y=>addD x y
theorem d_addX {a b:Expr} {pos:Pos} {ga gb:Dst->Res D} (hK:Z.K.fr = X.K) (ha:PE X a (tF Z E ga)) (hb:PE X b (tF Z E gb)):PE X (.BinOp a .Add b pos) (tF Z E (bin addX ga gb)):=
 d_bin (op_catT.or (op_add.or (op_add_str.or op_catR))) (fun x y v w Hf H σ Q s rx ry o=>by
  unfold addX at o
  split at o
  ·split at o
   ·rename_i h
    obtain ⟨l,xs,rfl,h1,q1⟩:=rep_tup rx
    obtain ⟨b,zs,rfl,h2,q2⟩:=rep_tup ry
    refine .inl ⟨l,b,xs,zs,rfl,rfl,hK ▸ s.seqT h1,hK ▸ s.seqT h2,(fun z=>by have:=q1.length;rw [z] at this;cases this),?_,(fun z=>by have:=q2.length;rw [z] at this;cases this),fun _ p hp=>?_⟩
    ·rw [q1.length,q2.length]
     exact of_decide_eq_true h
    ·have e2:=Ext.lay (o:=.tup (xs ++ zs)) s hp
     exact o _ _ _ e2 (Rep.tup (SqT.of upd_same) (Reps.same e2.f (q1.append q2)))
   ·exact o.elim
  ·exact .inr (fit_add x y v w Hf H σ Q s rx ry o)) ha hb
def addO (ga gb:Dst->Res D):Dst->Res DV:=fun δ=>ga δ >>= fun x=>gb δ >>= fun y=>match x,y with
 | .lst a,.lst b=>if lenOk (a.length + b.length) = true then .val (.ol (a ++ b)) else .bad
 | _,_=>.bad
theorem d_addO {a b:Expr} {pos:Pos} {ga gb:Dst->Res D} (ha:PE X a (tF Z E ga)) (hb:PE X b (tF Z E gb)):PE X (.BinOp a .Add b pos) (tO Z E (addO ga gb)):=
 (pe_op op_catR ha hb).imp fun σ H Q ⟨Hf,δ,sr,o⟩=>⟨Hf,δ,sr,F.O o fun x v Hf1 H1 e1 r1 o1=>⟨Hf1,δ,sr.ext e1,F.O o1 fun y w Hf2 H2 e2 r2 o2=>by
  have r1:=Rep.same e2.f r1
  split at o2
  ·split at o2
   ·rename_i h
    obtain ⟨l,xs,rfl,h1,q1⟩:=rep_lstR r1
    obtain ⟨b,zs,rfl,h2,q2⟩:=rep_lstR r2
    refine ⟨l,b,xs,zs,rfl,rfl,Rd.same e2.s h1,Rd.same e2.s h2,?_,fun p hp=>OutO.newL o2 e2.s (q1.append q2) hp⟩
    rw [q1.length,q2.length]
    exact of_decide_eq_true h
   ·exact o2.elim
  ·exact o2.elim⟩⟩
def sliceX (x:D) (lo hi:Option Int):Res D:=match x with
 | .tup xs=>.val (.tup (cutD xs lo hi))
 | x=>sliceD x lo hi
def sliceY (g:Dst->Res D) (l h:Dst->Res (Option Int)):Dst->Res D:=fun δ=>g δ >>= fun x=>l δ >>= fun lo=>h δ >>= fun hi=>sliceX x lo hi
theorem d_sliceX {e:Expr} {lo hi:Option Expr} {p2 pos:Pos} {g:Dst->Res D} {l h:Dst->Res (Option Int)} (he:PE X e (tF Z E g)) (hl:PO X lo (tFp Z E l)) (hh:PO X hi (tFp Z E h)) (hK:Z.K.fr = X.K:=by rfl):PE X (.Subscript e (.Slice lo hi none p2) pos) (tF Z E (sliceY g l h)):=
 (pe_slice (sl_whole.or (sl_list.or (sl_tup.or sl_str))) he hl hh).imp fun σ H Q ⟨Hf,δ,sr,o⟩=>⟨Hf,δ,sr,F.F o fun x v Hf1 H1 e1 r1 o1=>⟨Hf1,δ,sr.ext e1,P.F o1 fun lo Hf2 H2 e2 o2=>⟨Hf2,δ,(sr.ext e1).ext e2,P.F o2 fun hi Hf3 H3 e3 o3=>by
  have r3:=(r1.same e2.f).same e3.f
  have s:=e3.s
  unfold sliceX at o3
  split at o3
  ·rename_i xs
   obtain ⟨a,ws,rfl,h1,q1⟩:=rep_tup r3
   by_cases hw:HT.sIx ws.length 0 lo = 0/\HT.sIx ws.length ws.length hi = ws.length
   ·refine .inl ⟨a,ws,rfl,hK ▸ s.seqT h1,hw,?_⟩
    have:cutD xs lo hi = xs:=by
     unfold cutD
     rw [← q1.length,hw.1,hw.2,List.drop_zero,Nat.sub_zero,q1.length,List.take_length]
    rw [this] at o3
    exact o3.val s r3
   ·exact .inr (.inr (.inl ⟨a,ws,rfl,hK ▸ s.seqT h1,hw,fun p hp=>OutF.newT o3 s (cut_reps q1 lo hi) hp⟩))
  ·unfold sliceD at o3
   split at o3
   ·obtain ⟨a,ws,rfl,h1,q1⟩:=rep_lst r3
    exact .inr (.inl ⟨a,ws,rfl,hK ▸ s.seq h1,fun p hp=>OutF.newL o3 s (cut_reps q1 lo hi) hp⟩)
   ·obtain ⟨a,rfl,h1⟩:=rep_scr r3
    exact .inr (.inl ⟨a,_,rfl,hK ▸ s.seq h1,fun p hp=>OutF.newL o3 s (cut_reps (ints_reps _) lo hi) hp⟩)
   ·split at o3
    ·rename_i h
     cases rep_str r3
     exact .inr (.inr (.inr ⟨_,rfl,of_decide_eq_true h,o3.val s rfl⟩))
    ·exact o3.elim
   ·rename_i hne
    exact (hne _ rfl).elim
   ·exact o3.elim⟩⟩⟩
def bTupL (n:Nat) (bs:List D->Dst->Option Dst):D->Dst->Option Dst:=fun d δ=>match d with
 | .lst ds=>if ds.length = n then bs ds δ else none
 | d=>bTup n bs d δ
theorem PG.or {e:Expr} {t t':TG} (h:PG X e t) (h':PG X e t'):PG X e (fun v σ H Q=>t v σ H Q\/t' v σ H Q):=by
 intro pins s σ H v u Q I r q
 rcases q with q | q
 ·exact h pins s σ H v u Q I r q
 ·exact h' pins s σ H v u Q I r q
theorem g_tupX {es:List Expr} {k:Nat} {bs:List D->Dst->Option Dst} {n:Nat} {pos:Pos} (hc:X.calm = true) (h:PGs X es (tGs Z bs)) (hK:Z.K.fr = X.K:=by rfl)
  (hn:(assignEach es X.env).length = n:=by rfl) (hst:(assignEach es X.env).findIdx? (·.1) = none:=by rfl):PG X (.Tuple es k pos) (tG Z (bTupL n bs)):=
 PG.imp (PG.or (pg_tupL hc h hn hst) (g_tup (n:=n) hc h hK hn hst)) fun v σ H Q ⟨Hf,δ,d,sr,r,δ',e,q⟩=>by
  unfold bTupL at e
  split at e
  ·rename_i ds
   obtain ⟨a,vs,rfl,h1,q1⟩:=rep_lst r
   split at e
   ·rename_i hl
    exact .inl ⟨a,vs,rfl,hK ▸ sr.e.s.seq h1,by rw [q1.length];exact hl,Hf,δ,ds,sr,q1,δ',e,q⟩
   ·cases e
  ·exact .inr ⟨Hf,δ,_,sr,r,δ',e,q⟩
end
end DL
namespace L48
open PySem L2 DL
seal L2.PE L2.PT L2.PW L2.PS L2.PSs L2.PA L2.PI L2.PG L2.PGs L2.OpR L2.UnR L2.CallR L2.IxR L2.SlR L2.MtR L2.PIf L2.PO L2.MtM L2.PC L2.TruR
seal DL.tF DL.tO DL.tS DL.tFs DL.tFt DL.tI DL.tG DL.tGs DL.tFp DL.spD DL.fnD
def top (i:Nat):Stmt:=PySem.Challenge.pw_halfmoved_k48_laid_together.main.body.getD i (.Pass ⟨0,0,0,0⟩)
structure Ds (K:PySem.W.Frag) (mg:Str->Option Value) (xa:Str->Option Addr) (xi:∀ c c' C,xa c = some C->xa c' = some C->c = c') where
 a_inverse:Addr
 f_inverse:FuncData
 d_inverse:Df K mg "inverse" (top 1) a_inverse f_inverse
 a_laid:Addr
 f_laid:FuncData
 d_laid:Df K mg "laid" (top 3) a_laid f_laid
 a_flat:Addr
 f_flat:FuncData
 d_flat:Df K mg "flat" (top 4) a_flat f_flat
 a_flat_chain:Addr
 f_flat_chain:FuncData
 d_flat_chain:Df K mg "flat_chain" (top 5) a_flat_chain f_flat_chain
 a_undone:Addr
 f_undone:FuncData
 d_undone:Df K mg "undone" (top 6) a_undone f_undone
 a_renumbering:Addr
 f_renumbering:FuncData
 d_renumbering:Df K mg "renumbering" (top 7) a_renumbering f_renumbering
 a_unless_idle:Addr
 f_unless_idle:FuncData
 d_unless_idle:Df K mg "unless_idle" (top 8) a_unless_idle f_unless_idle
 a_is_idle:Addr
 f_is_idle:FuncData
 d_is_idle:Df K mg "is_idle" (top 9) a_is_idle f_is_idle
 a_first_taken:Addr
 f_first_taken:FuncData
 d_first_taken:Df K mg "first_taken" (top 10) a_first_taken f_first_taken
 a_both_gone:Addr
 f_both_gone:FuncData
 d_both_gone:Df K mg "both_gone" (top 11) a_both_gone f_both_gone
 a_two_shifts:Addr
 f_two_shifts:FuncData
 d_two_shifts:Df K mg "two_shifts" (top 12) a_two_shifts f_two_shifts
 a_two_renumberings:Addr
 f_two_renumberings:FuncData
 d_two_renumberings:Df K mg "two_renumberings" (top 13) a_two_renumberings f_two_renumberings
 a_two_renames:Addr
 f_two_renames:FuncData
 d_two_renames:Df K mg "two_renames" (top 14) a_two_renames f_two_renames
 a_put_and_rename:Addr
 f_put_and_rename:FuncData
 d_put_and_rename:Df K mg "put_and_rename" (top 15) a_put_and_rename f_put_and_rename
 a_rename_and_put_back:Addr
 f_rename_and_put_back:FuncData
 d_rename_and_put_back:Df K mg "rename_and_put_back" (top 16) a_rename_and_put_back f_rename_and_put_back
 a_together:Addr
 f_together:FuncData
 d_together:Df K mg "together" (top 17) a_together f_together
 a__law_cell:Addr
 f__law_cell:FuncData
 d__law_cell:Df K mg "_law_cell" (top 19) a__law_cell f__law_cell
 a__law_stream:Addr
 f__law_stream:FuncData
 d__law_stream:Df K mg "_law_stream" (top 20) a__law_stream f__law_stream
 a__law_letter:Addr
 f__law_letter:FuncData
 d__law_letter:Df K mg "_law_letter" (top 21) a__law_letter f__law_letter
 a__law_names:Addr
 f__law_names:FuncData
 d__law_names:Df K mg "_law_names" (top 22) a__law_names f__law_names
 a__law_move:Addr
 f__law_move:FuncData
 d__law_move:Df K mg "_law_move" (top 23) a__law_move f__law_move
 a__law_divisor:Addr
 f__law_divisor:FuncData
 d__law_divisor:Df K mg "_law_divisor" (top 24) a__law_divisor f__law_divisor
 a__law_renumber:Addr
 f__law_renumber:FuncData
 d__law_renumber:Df K mg "_law_renumber" (top 25) a__law_renumber f__law_renumber
 a__law_both:Addr
 f__law_both:FuncData
 d__law_both:Df K mg "_law_both" (top 26) a__law_both f__law_both
 a__law_told:Addr
 f__law_told:FuncData
 d__law_told:Df K mg "_law_told" (top 27) a__law_told f__law_told
 a__law_shifts:Addr
 f__law_shifts:FuncData
 d__law_shifts:Df K mg "_law_shifts" (top 28) a__law_shifts f__law_shifts
 a__law_renames:Addr
 f__law_renames:FuncData
 d__law_renames:Df K mg "_law_renames" (top 29) a__law_renames f__law_renames
 a__law_puts:Addr
 f__law_puts:FuncData
 d__law_puts:Df K mg "_law_puts" (top 30) a__law_puts f__law_puts
 a__law_unlike:Addr
 f__law_unlike:FuncData
 d__law_unlike:Df K mg "_law_unlike" (top 31) a__law_unlike f__law_unlike
 a__law_element:Addr
 f__law_element:FuncData
 d__law_element:Df K mg "_law_element" (top 32) a__law_element f__law_element
 a__law_nothing:Addr
 f__law_nothing:FuncData
 d__law_nothing:Df K mg "_law_nothing" (top 33) a__law_nothing f__law_nothing
 a_law:Addr
 f_law:FuncData
 d_law:Df K mg "law" (top 34) a_law f_law
section
variable {P:Program} {w:World} {K:PySem.W.Frag} {mg:Str->Option Value} {base:Heap} {xa:Str->Option Addr} {xi:∀ c c' C,xa c = some C->xa c' = some C->c = c'}
noncomputable def Gb_inverse:Dst->So:=(seqS (setS 2 fun δ=>(gVar 1) δ >>= fun d=>.val (.fz d)) (seqS (setS 3 fun δ=>(fun _=>.val (.int 0)) δ >>= fun d=>.val (.fz d)) (seqS (setS 4 fun δ=>(DL.bin modD (gVar 0) (gVar 1)) δ >>= fun d=>.val (.fz d)) (seqS (setS 5 fun δ=>(fun _=>.val (.int 1)) δ >>= fun d=>.val (.fz d)) (seqS (whileS (fun δ=>asB (DL.bin cmpNe (gVar 4) (fun _=>.val (.int 0)) δ)) (seqS (setS 6 fun δ=>(DL.bin fdivD (gVar 2) (gVar 4)) δ >>= fun d=>.val (.fz d)) (seqS (setS 7 fun δ=>(DL.bin subD (gVar 2) (DL.bin mulD (gVar 6) (gVar 4))) δ >>= fun d=>.val (.fz d)) (seqS (setS 8 fun δ=>(DL.bin subD (gVar 3) (DL.bin mulD (gVar 6) (gVar 5))) δ >>= fun d=>.val (.fz d)) (seqS (setS 2 fun δ=>(gVar 4) δ >>= fun d=>.val (.fz d)) (seqS (setS 3 fun δ=>(gVar 5) δ >>= fun d=>.val (.fz d)) (seqS (setS 4 fun δ=>(gVar 7) δ >>= fun d=>.val (.fz d)) (setS 5 fun δ=>(gVar 8) δ >>= fun d=>.val (.fz d))))))))) (seqS (ifS (fun δ=>asB (DL.bin cmpNe (gVar 2) (fun _=>.val (.int 1)) δ)) (retS fun δ=>(fun _=>.val .non) δ >>= fun d=>.val (.fz d)) nilS) (retS fun δ=>(DL.bin modD (gVar 3) (gVar 1)) δ >>= fun d=>.val (.fz d))))))))
noncomputable def F_inverse:List D->Res DV:=fnD 9 Gb_inverse
theorem ok_inverse (W:Ds K mg xa xi) (B:Bn mg):FnOk P w K mg base (CX1 P w) 1 W.a_inverse W.f_inverse ["times","size"] (spD ⟨K,xa,xi⟩ 2 F_inverse):=by
 have sc:FnScope ["times","size","number","factor","lesser","lesser_factor","many","left_over","left_factor"] ["times","size"] (defScope (top 1)):=⟨rfl,rfl,rfl,by decide +kernel,rfl,by decide +kernel,by decide +kernel⟩
 exact def_ok (N:=["times","size","number","factor","lesser","lesser_factor","many","left_over","left_factor"]) (ps:=["times","size"]) (k:=0) (g:=Gb_inverse) W.d_inverse.fn sc fun cdv A outer s H E Hf hr=>(s_cons (s_set (i:=2) sc.nd rfl (by first | exact Or.inl rfl | exact Or.inr rfl) (d_v 1)) (s_cons (s_set (i:=3) sc.nd rfl (by first | exact Or.inl rfl | exact Or.inr rfl) d_int) (s_cons (s_set (i:=4) sc.nd rfl (by first | exact Or.inl rfl | exact Or.inr rfl) (d_mod (d_v 0) (d_v 1))) (s_cons (s_set (i:=5) sc.nd rfl (by first | exact Or.inl rfl | exact Or.inr rfl) d_int) (s_cons (s_while PassesOwn.leaving (dt_ne hr.units (d_v 4) d_int) (s_cons (s_set (i:=6) sc.nd rfl (by first | exact Or.inl rfl | exact Or.inr rfl) (d_fdiv (d_v 2) (d_v 4))) (s_cons (s_set (i:=7) sc.nd rfl (by first | exact Or.inl rfl | exact Or.inr rfl) (d_sub (d_v 2) (d_mul (d_v 6) (d_v 4)))) (s_cons (s_set (i:=8) sc.nd rfl (by first | exact Or.inl rfl | exact Or.inr rfl) (d_sub (d_v 3) (d_mul (d_v 6) (d_v 5)))) (s_cons (s_set (i:=2) sc.nd rfl (by first | exact Or.inl rfl | exact Or.inr rfl) (d_v 4)) (s_cons (s_set (i:=3) sc.nd rfl (by first | exact Or.inl rfl | exact Or.inr rfl) (d_v 5)) (s_cons (s_set (i:=4) sc.nd rfl (by first | exact Or.inl rfl | exact Or.inr rfl) (d_v 7)) (s_one (s_set (i:=5) sc.nd rfl (by first | exact Or.inl rfl | exact Or.inr rfl) (d_v 8)))))))))) (s_cons (s_if (dt_ne hr.units (d_v 2) d_int) (s_one (s_ret d_non)) s_nil) (s_one (s_ret (d_mod (d_v 3) (d_v 1))))))))))
def Gb_renumbering:Dst->So:=(retS fun δ=>(tupD (consA (fun _=>.val (.str "renumber")) (consA (DL.bin modD (gVar 0) (gVar 2)) (consA (DL.bin modD (gVar 1) (gVar 2)) (consA (gVar 2) nilA))))) δ >>= fun d=>.val (.fz d))
def F_renumbering:List D->Res DV:=fnD 3 Gb_renumbering
theorem ok_renumbering (W:Ds K mg xa xi) (B:Bn mg):FnOk P w K mg base (CX1 P w) 1 W.a_renumbering W.f_renumbering ["times","plus","size"] (spD ⟨K,xa,xi⟩ 3 F_renumbering):=by
 have sc:FnScope ["times","plus","size"] ["times","plus","size"] (defScope (top 7)):=⟨rfl,rfl,rfl,by decide +kernel,rfl,by decide +kernel,by decide +kernel⟩
 exact def_ok (N:=["times","plus","size"]) (ps:=["times","plus","size"]) (k:=0) (g:=Gb_renumbering) W.d_renumbering.fn sc fun cdv A outer s H E Hf hr=>(s_one (s_ret (d_tup (d_cons d_str (d_cons (d_mod (d_v 0) (d_v 2)) (d_cons (d_mod (d_v 1) (d_v 2)) (d_cons (d_v 2) d_nil)))))))
noncomputable def Gb_undone:Dst->So:=(seqS (ifS (fun δ=>asB (DL.bin cmpEq (bin ixD (gVar 0) (fun _=>.val (.int 0))) (fun _=>.val (.str "shift")) δ)) (retS fun δ=>(tupD (consA (fun _=>.val (.str "shift")) (consA (bin ixD (gVar 0) (fun _=>.val (.int 1))) (consA (bin ixD (gVar 0) (fun _=>.val (.int 2))) (consA (un negD (bin ixD (gVar 0) (fun _=>.val (.int 3)))) nilA))))) δ >>= fun d=>.val (.fz d)) nilS) (seqS (ifS (fun δ=>asB (DL.bin cmpEq (bin ixD (gVar 0) (fun _=>.val (.int 0))) (fun _=>.val (.str "rename")) δ)) (retS fun δ=>(tupD (consA (fun _=>.val (.str "rename")) (consA (bin ixD (gVar 0) (fun _=>.val (.int 1))) (consA (bin ixD (gVar 0) (fun _=>.val (.int 3))) (consA (bin ixD (gVar 0) (fun _=>.val (.int 2))) nilA))))) δ >>= fun d=>.val (.fz d)) nilS) (seqS (ifS (fun δ=>asB (DL.bin cmpEq (bin ixD (gVar 0) (fun _=>.val (.int 0))) (fun _=>.val (.str "renumber")) δ)) (seqS (setS 1 fun δ=>(fun δ=>(calO F_inverse (consA (bin ixD (gVar 0) (fun _=>.val (.int 1))) (consA (bin ixD (gVar 0) (fun _=>.val (.int 3))) nilA))) δ >>= fun x=>.val x.d) δ >>= fun d=>.val (.fz d)) (retS fun δ=>(fun δ=>(calO F_renumbering (consA (gVar 1) (consA (DL.bin mulD (un negD (gVar 1)) (bin ixD (gVar 0) (fun _=>.val (.int 2)))) (consA (bin ixD (gVar 0) (fun _=>.val (.int 3))) nilA)))) δ >>= fun x=>.val x.d) δ >>= fun d=>.val (.fz d))) nilS) (retS fun δ=>(tupD (consA (fun _=>.val (.str "back")) (consA (gVar 0) nilA))) δ >>= fun d=>.val (.fz d)))))
noncomputable def F_undone:List D->Res DV:=fnD 2 Gb_undone
theorem ok_undone (W:Ds K mg xa xi) (B:Bn mg):FnOk P w K mg base (CX1 P w) 2 W.a_undone W.f_undone ["words"] (spD ⟨K,xa,xi⟩ 1 F_undone):=by
 have sc:FnScope ["words","times"] ["words"] (defScope (top 6)):=⟨rfl,rfl,rfl,by decide +kernel,rfl,by decide +kernel,by decide +kernel⟩
 exact def_ok (N:=["words","times"]) (ps:=["words"]) (k:=1) (g:=Gb_undone) W.d_undone.fn sc fun cdv A outer s H E Hf hr=>(s_cons (s_if (dt_eq hr.units (d_ix hr.units (d_v 0) d_int) d_str) (s_one (s_ret (d_tup (d_cons d_str (d_cons (d_ix hr.units (d_v 0) d_int) (d_cons (d_ix hr.units (d_v 0) d_int) (d_cons (d_neg (d_ix hr.units (d_v 0) d_int)) d_nil))))))) s_nil) (s_cons (s_if (dt_eq hr.units (d_ix hr.units (d_v 0) d_int) d_str) (s_one (s_ret (d_tup (d_cons d_str (d_cons (d_ix hr.units (d_v 0) d_int) (d_cons (d_ix hr.units (d_v 0) d_int) (d_cons (d_ix hr.units (d_v 0) d_int) d_nil))))))) s_nil) (s_cons (s_if (dt_eq hr.units (d_ix hr.units (d_v 0) d_int) d_str) (s_cons (s_set (i:=1) sc.nd rfl (by first | exact Or.inl rfl | exact Or.inr rfl) (d_val (d_callO (ok_inverse W B) (hr.mono (by decide)) (by rfl) W.d_inverse.mg W.d_inverse.fn.kp (W.d_inverse.fn.binds (ps:=["times","size"]) fun _ _ _ _ _ _ us hl=>by obtain ⟨v0,v1,rfl⟩:=L2.ln2 hl;rfl) (by rfl) lands_cx rfl (d_cons (d_ix hr.units (d_v 0) d_int) (d_cons (d_ix hr.units (d_v 0) d_int) d_nil)) (hlen:=(consA_len (consA_len (fun _ _ h=>nilA_len h))))))) (s_one (s_ret (d_val (d_callO (ok_renumbering W B) (hr.mono (by decide)) (by rfl) W.d_renumbering.mg W.d_renumbering.fn.kp (W.d_renumbering.fn.binds (ps:=["times","plus","size"]) fun _ _ _ _ _ _ us hl=>by obtain ⟨v0,v1,v2,rfl⟩:=L2.ln3 hl;rfl) (by rfl) lands_cx rfl (d_cons (d_v 1) (d_cons (d_mul (d_neg (d_v 1)) (d_ix hr.units (d_v 0) d_int)) (d_cons (d_ix hr.units (d_v 0) d_int) d_nil))) (hlen:=(consA_len (consA_len (consA_len (fun _ _ h=>nilA_len h)))))))))) s_nil) (s_one (s_ret (d_tup (d_cons d_str (d_cons (d_v 0) d_nil))))))))
def Gb_is_idle:Dst->So:=(seqS (ifS (fun δ=>asB (DL.bin cmpEq (bin ixD (gVar 0) (fun _=>.val (.int 0))) (fun _=>.val (.str "shift")) δ)) (retS fun δ=>(DL.bin cmpEq (bin ixD (gVar 0) (fun _=>.val (.int 3))) (fun _=>.val (.int 0))) δ >>= fun d=>.val (.fz d)) nilS) (retS fun δ=>(fun δ=>andV ((DL.bin cmpEq (bin ixD (gVar 0) (fun _=>.val (.int 0))) (fun _=>.val (.str "renumber"))) δ) ((DL.bin cmpEq (fun δ=>(calO F_renumbering (consA (bin ixD (gVar 0) (fun _=>.val (.int 1))) (consA (bin ixD (gVar 0) (fun _=>.val (.int 2))) (consA (bin ixD (gVar 0) (fun _=>.val (.int 3))) nilA)))) δ >>= fun x=>.val x.d) (fun δ=>(calO F_renumbering (consA (fun _=>.val (.int 1)) (consA (fun _=>.val (.int 0)) (consA (bin ixD (gVar 0) (fun _=>.val (.int 3))) nilA)))) δ >>= fun x=>.val x.d)) δ)) δ >>= fun d=>.val (.fz d)))
def F_is_idle:List D->Res DV:=fnD 1 Gb_is_idle
theorem ok_is_idle (W:Ds K mg xa xi) (B:Bn mg):FnOk P w K mg base (CX1 P w) 2 W.a_is_idle W.f_is_idle ["words"] (spD ⟨K,xa,xi⟩ 1 F_is_idle):=by
 have sc:FnScope ["words"] ["words"] (defScope (top 9)):=⟨rfl,rfl,rfl,by decide +kernel,rfl,by decide +kernel,by decide +kernel⟩
 exact def_ok (N:=["words"]) (ps:=["words"]) (k:=1) (g:=Gb_is_idle) W.d_is_idle.fn sc fun cdv A outer s H E Hf hr=>(s_cons (s_if (dt_eq hr.units (d_ix hr.units (d_v 0) d_int) d_str) (s_one (s_ret (d_eq hr.units (d_ix hr.units (d_v 0) d_int) d_int))) s_nil) (s_one (s_ret (d_and (d_eq hr.units (d_ix hr.units (d_v 0) d_int) d_str) (d_one (d_eq hr.units (d_val (d_callO (ok_renumbering W B) (hr.mono (by decide)) (by rfl) W.d_renumbering.mg W.d_renumbering.fn.kp (W.d_renumbering.fn.binds (ps:=["times","plus","size"]) fun _ _ _ _ _ _ us hl=>by obtain ⟨v0,v1,v2,rfl⟩:=L2.ln3 hl;rfl) (by rfl) lands_cx rfl (d_cons (d_ix hr.units (d_v 0) d_int) (d_cons (d_ix hr.units (d_v 0) d_int) (d_cons (d_ix hr.units (d_v 0) d_int) d_nil))) (hlen:=(consA_len (consA_len (consA_len (fun _ _ h=>nilA_len h))))))) (d_val (d_callO (ok_renumbering W B) (hr.mono (by decide)) (by rfl) W.d_renumbering.mg W.d_renumbering.fn.kp (W.d_renumbering.fn.binds (ps:=["times","plus","size"]) fun _ _ _ _ _ _ us hl=>by obtain ⟨v0,v1,v2,rfl⟩:=L2.ln3 hl;rfl) (by rfl) lands_cx rfl (d_cons d_int (d_cons d_int (d_cons (d_ix hr.units (d_v 0) d_int) d_nil))) (hlen:=(consA_len (consA_len (consA_len (fun _ _ h=>nilA_len h)))))))))))))
def Gb_unless_idle:Dst->So:=(retS fun δ=>(fun δ=>ifR ((fun δ=>asB ((fun δ=>(calO F_is_idle (consA (gVar 0) nilA)) δ >>= fun x=>.val x.d) δ)) δ) ((lstD nilA) δ) ((lstD (consA (gVar 0) nilA)) δ)) δ >>= fun d=>.val (.fz d))
def F_unless_idle:List D->Res DV:=fnD 1 Gb_unless_idle
theorem ok_unless_idle (W:Ds K mg xa xi) (B:Bn mg):FnOk P w K mg base (CX1 P w) 3 W.a_unless_idle W.f_unless_idle ["words"] (spD ⟨K,xa,xi⟩ 1 F_unless_idle):=by
 have sc:FnScope ["words"] ["words"] (defScope (top 8)):=⟨rfl,rfl,rfl,by decide +kernel,rfl,by decide +kernel,by decide +kernel⟩
 exact def_ok (N:=["words"]) (ps:=["words"]) (k:=2) (g:=Gb_unless_idle) W.d_unless_idle.fn sc fun cdv A outer s H E Hf hr=>(s_one (s_ret (d_ifx (d_tval (d_val (d_callO (ok_is_idle W B) (hr.mono (by decide)) (by rfl) W.d_is_idle.mg W.d_is_idle.fn.kp (W.d_is_idle.fn.binds (ps:=["words"]) fun _ _ _ _ _ _ us hl=>by obtain ⟨v0,rfl⟩:=L2.ln1 hl;rfl) (by rfl) lands_cx rfl (d_cons (d_v 0) d_nil) (hlen:=(consA_len (fun _ _ h=>nilA_len h)))))) (d_lst d_nil) (d_lst (d_cons (d_v 0) d_nil)))))
def Gb_both_gone:Dst->So:=(seqS (ifS (fun δ=>orR ((fun δ=>asB (DL.bin cmpEq (bin ixD (gVar 0) (fun _=>.val (.int 0))) (fun _=>.val (.str "cap")) δ)) δ) ((fun δ=>andR ((fun δ=>asB (DL.bin cmpEq (bin ixD (gVar 0) (fun _=>.val (.int 0))) (fun _=>.val (.str "back")) δ)) δ) ((fun δ=>asB (DL.bin cmpEq (bin ixD (bin ixD (gVar 0) (fun _=>.val (.int 1))) (fun _=>.val (.int 0))) (fun _=>.val (.str "put")) δ)) δ)) δ)) (retS fun δ=>(fun _=>.val .non) δ >>= fun d=>.val (.fz d)) nilS) (retS fun δ=>(fun δ=>ifR ((fun δ=>orR ((fun δ=>asB (DL.bin cmpEq (gVar 1) (tupD (consA (fun _=>.val (.str "back")) (consA (gVar 0) nilA))) δ)) δ) ((fun δ=>asB (DL.bin cmpEq (gVar 0) (tupD (consA (fun _=>.val (.str "back")) (consA (gVar 1) nilA))) δ)) δ)) δ) ((lstD nilA) δ) ((fun _=>.val .non) δ)) δ >>= fun d=>.val (.fz d)))
def F_both_gone:List D->Res DV:=fnD 2 Gb_both_gone
theorem ok_both_gone (W:Ds K mg xa xi) (B:Bn mg):FnOk P w K mg base (CX1 P w) 1 W.a_both_gone W.f_both_gone ["one","other"] (spD ⟨K,xa,xi⟩ 2 F_both_gone):=by
 have sc:FnScope ["one","other"] ["one","other"] (defScope (top 11)):=⟨rfl,rfl,rfl,by decide +kernel,rfl,by decide +kernel,by decide +kernel⟩
 exact def_ok (N:=["one","other"]) (ps:=["one","other"]) (k:=0) (g:=Gb_both_gone) W.d_both_gone.fn sc fun cdv A outer s H E Hf hr=>(s_cons (s_if (PW.pt (d_wor (dt_eq hr.units (d_ix hr.units (d_v 0) d_int) d_str) (d_wor1 (PW.pt (d_wand (dt_eq hr.units (d_ix hr.units (d_v 0) d_int) d_str) (d_wand1 (dt_eq hr.units (d_ix hr.units (d_ix hr.units (d_v 0) d_int) d_int) d_str))))))) (s_one (s_ret d_non)) s_nil) (s_one (s_ret (d_ifx (PW.pt (d_wor (dt_eq hr.units (d_v 1) (d_tup (d_cons d_str (d_cons (d_v 0) d_nil)))) (d_wor1 (dt_eq hr.units (d_v 0) (d_tup (d_cons d_str (d_cons (d_v 1) d_nil))))))) (d_lst d_nil) d_non))))
def Gb_two_shifts:Dst->So:=(seqS (ifS (fun δ=>orR ((fun δ=>asB (DL.bin cmpNe (bin ixD (gVar 0) (fun _=>.val (.int 0))) (fun _=>.val (.str "shift")) δ)) δ) ((fun δ=>asB (DL.bin cmpNe (sliceY (gVar 1) (fun _=>.val none) (fun δ=>asI ((fun _=>.val (.int 3)) δ))) (sliceY (gVar 0) (fun _=>.val none) (fun δ=>asI ((fun _=>.val (.int 3)) δ))) δ)) δ)) (retS fun δ=>(fun _=>.val .non) δ >>= fun d=>.val (.fz d)) nilS) (retS fun δ=>(fun δ=>(calO F_unless_idle (consA (tupD (consA (fun _=>.val (.str "shift")) (consA (bin ixD (gVar 0) (fun _=>.val (.int 1))) (consA (bin ixD (gVar 0) (fun _=>.val (.int 2))) (consA (DL.bin addX (bin ixD (gVar 0) (fun _=>.val (.int 3))) (bin ixD (gVar 1) (fun _=>.val (.int 3)))) nilA))))) nilA)) δ >>= fun x=>.val x.d) δ >>= fun d=>.val (.fz d)))
def F_two_shifts:List D->Res DV:=fnD 2 Gb_two_shifts
theorem ok_two_shifts (W:Ds K mg xa xi) (B:Bn mg):FnOk P w K mg base (CX1 P w) 4 W.a_two_shifts W.f_two_shifts ["one","other"] (spD ⟨K,xa,xi⟩ 2 F_two_shifts):=by
 have sc:FnScope ["one","other"] ["one","other"] (defScope (top 12)):=⟨rfl,rfl,rfl,by decide +kernel,rfl,by decide +kernel,by decide +kernel⟩
 exact def_ok (N:=["one","other"]) (ps:=["one","other"]) (k:=3) (g:=Gb_two_shifts) W.d_two_shifts.fn sc fun cdv A outer s H E Hf hr=>(s_cons (s_if (PW.pt (d_wor (dt_ne hr.units (d_ix hr.units (d_v 0) d_int) d_str) (d_wor1 (dt_ne hr.units (d_sliceX (d_v 1) d_pn (d_ps d_int)) (d_sliceX (d_v 0) d_pn (d_ps d_int)))))) (s_one (s_ret d_non)) s_nil) (s_one (s_ret (d_val (d_callO (ok_unless_idle W B) (hr.mono (by decide)) (by rfl) W.d_unless_idle.mg W.d_unless_idle.fn.kp (W.d_unless_idle.fn.binds (ps:=["words"]) fun _ _ _ _ _ _ us hl=>by obtain ⟨v0,rfl⟩:=L2.ln1 hl;rfl) (by rfl) lands_cx rfl (d_cons (d_tup (d_cons d_str (d_cons (d_ix hr.units (d_v 0) d_int) (d_cons (d_ix hr.units (d_v 0) d_int) (d_cons (d_addX rfl (d_ix hr.units (d_v 0) d_int) (d_ix hr.units (d_v 1) d_int)) d_nil))))) d_nil) (hlen:=(consA_len (fun _ _ h=>nilA_len h))))))))
def Gb_two_renumberings:Dst->So:=(seqS (ifS (fun δ=>orR ((fun δ=>asB (DL.bin cmpNe (bin ixD (gVar 0) (fun _=>.val (.int 0))) (fun _=>.val (.str "renumber")) δ)) δ) ((fun δ=>orR ((fun δ=>asB (DL.bin cmpNe (bin ixD (gVar 1) (fun _=>.val (.int 0))) (fun _=>.val (.str "renumber")) δ)) δ) ((fun δ=>asB (DL.bin cmpNe (bin ixD (gVar 1) (fun _=>.val (.int 3))) (bin ixD (gVar 0) (fun _=>.val (.int 3))) δ)) δ)) δ)) (retS fun δ=>(fun _=>.val .non) δ >>= fun d=>.val (.fz d)) nilS) (retS fun δ=>(fun δ=>(calO F_unless_idle (consA (fun δ=>(calO F_renumbering (consA (DL.bin mulD (bin ixD (gVar 0) (fun _=>.val (.int 1))) (bin ixD (gVar 1) (fun _=>.val (.int 1)))) (consA (DL.bin addX (DL.bin mulD (bin ixD (gVar 0) (fun _=>.val (.int 2))) (bin ixD (gVar 1) (fun _=>.val (.int 1)))) (bin ixD (gVar 1) (fun _=>.val (.int 2)))) (consA (bin ixD (gVar 0) (fun _=>.val (.int 3))) nilA)))) δ >>= fun x=>.val x.d) nilA)) δ >>= fun x=>.val x.d) δ >>= fun d=>.val (.fz d)))
def F_two_renumberings:List D->Res DV:=fnD 2 Gb_two_renumberings
theorem ok_two_renumberings (W:Ds K mg xa xi) (B:Bn mg):FnOk P w K mg base (CX1 P w) 4 W.a_two_renumberings W.f_two_renumberings ["one","other"] (spD ⟨K,xa,xi⟩ 2 F_two_renumberings):=by
 have sc:FnScope ["one","other"] ["one","other"] (defScope (top 13)):=⟨rfl,rfl,rfl,by decide +kernel,rfl,by decide +kernel,by decide +kernel⟩
 exact def_ok (N:=["one","other"]) (ps:=["one","other"]) (k:=3) (g:=Gb_two_renumberings) W.d_two_renumberings.fn sc fun cdv A outer s H E Hf hr=>(s_cons (s_if (PW.pt (d_wor (dt_ne hr.units (d_ix hr.units (d_v 0) d_int) d_str) (d_wor (dt_ne hr.units (d_ix hr.units (d_v 1) d_int) d_str) (d_wor1 (dt_ne hr.units (d_ix hr.units (d_v 1) d_int) (d_ix hr.units (d_v 0) d_int)))))) (s_one (s_ret d_non)) s_nil) (s_one (s_ret (d_val (d_callO (ok_unless_idle W B) (hr.mono (by decide)) (by rfl) W.d_unless_idle.mg W.d_unless_idle.fn.kp (W.d_unless_idle.fn.binds (ps:=["words"]) fun _ _ _ _ _ _ us hl=>by obtain ⟨v0,rfl⟩:=L2.ln1 hl;rfl) (by rfl) lands_cx rfl (d_cons (d_val (d_callO (ok_renumbering W B) (hr.mono (by decide)) (by rfl) W.d_renumbering.mg W.d_renumbering.fn.kp (W.d_renumbering.fn.binds (ps:=["times","plus","size"]) fun _ _ _ _ _ _ us hl=>by obtain ⟨v0,v1,v2,rfl⟩:=L2.ln3 hl;rfl) (by rfl) lands_cx rfl (d_cons (d_mul (d_ix hr.units (d_v 0) d_int) (d_ix hr.units (d_v 1) d_int)) (d_cons (d_addX rfl (d_mul (d_ix hr.units (d_v 0) d_int) (d_ix hr.units (d_v 1) d_int)) (d_ix hr.units (d_v 1) d_int)) (d_cons (d_ix hr.units (d_v 0) d_int) d_nil))) (hlen:=(consA_len (consA_len (consA_len (fun _ _ h=>nilA_len h))))))) d_nil) (hlen:=(consA_len (fun _ _ h=>nilA_len h))))))))
def Gb_two_renames:Dst->So:=(seqS (ifS (fun δ=>orR ((fun δ=>asB (DL.bin cmpNe (bin ixD (gVar 0) (fun _=>.val (.int 0))) (fun _=>.val (.str "rename")) δ)) δ) ((fun δ=>asB (DL.bin cmpNe (sliceY (gVar 1) (fun _=>.val none) (fun δ=>asI ((fun _=>.val (.int 3)) δ))) (tupD (consA (fun _=>.val (.str "rename")) (consA (bin ixD (gVar 0) (fun _=>.val (.int 1))) (consA (bin ixD (gVar 0) (fun _=>.val (.int 3))) nilA)))) δ)) δ)) (retS fun δ=>(fun _=>.val .non) δ >>= fun d=>.val (.fz d)) nilS) (retS fun δ=>(fun δ=>ifR ((fun δ=>asB (DL.bin cmpEq (bin ixD (gVar 1) (fun _=>.val (.int 3))) (bin ixD (gVar 0) (fun _=>.val (.int 2))) δ)) δ) ((lstD nilA) δ) ((lstD (consA (tupD (consA (fun _=>.val (.str "rename")) (consA (bin ixD (gVar 0) (fun _=>.val (.int 1))) (consA (bin ixD (gVar 0) (fun _=>.val (.int 2))) (consA (bin ixD (gVar 1) (fun _=>.val (.int 3))) nilA))))) nilA)) δ)) δ >>= fun d=>.val (.fz d)))
def F_two_renames:List D->Res DV:=fnD 2 Gb_two_renames
theorem ok_two_renames (W:Ds K mg xa xi) (B:Bn mg):FnOk P w K mg base (CX1 P w) 1 W.a_two_renames W.f_two_renames ["one","other"] (spD ⟨K,xa,xi⟩ 2 F_two_renames):=by
 have sc:FnScope ["one","other"] ["one","other"] (defScope (top 14)):=⟨rfl,rfl,rfl,by decide +kernel,rfl,by decide +kernel,by decide +kernel⟩
 exact def_ok (N:=["one","other"]) (ps:=["one","other"]) (k:=0) (g:=Gb_two_renames) W.d_two_renames.fn sc fun cdv A outer s H E Hf hr=>(s_cons (s_if (PW.pt (d_wor (dt_ne hr.units (d_ix hr.units (d_v 0) d_int) d_str) (d_wor1 (dt_ne hr.units (d_sliceX (d_v 1) d_pn (d_ps d_int)) (d_tup (d_cons d_str (d_cons (d_ix hr.units (d_v 0) d_int) (d_cons (d_ix hr.units (d_v 0) d_int) d_nil)))))))) (s_one (s_ret d_non)) s_nil) (s_one (s_ret (d_ifx (dt_eq hr.units (d_ix hr.units (d_v 1) d_int) (d_ix hr.units (d_v 0) d_int)) (d_lst d_nil) (d_lst (d_cons (d_tup (d_cons d_str (d_cons (d_ix hr.units (d_v 0) d_int) (d_cons (d_ix hr.units (d_v 0) d_int) (d_cons (d_ix hr.units (d_v 1) d_int) d_nil))))) d_nil))))))
def Gb_put_and_rename:Dst->So:=(seqS (ifS (fun δ=>orR ((fun δ=>asB (DL.bin cmpNe (bin ixD (gVar 0) (fun _=>.val (.int 0))) (fun _=>.val (.str "put")) δ)) δ) ((fun δ=>asB (DL.bin cmpNe (sliceY (gVar 1) (fun _=>.val none) (fun δ=>asI ((fun _=>.val (.int 3)) δ))) (tupD (consA (fun _=>.val (.str "rename")) (consA (bin ixD (gVar 0) (fun _=>.val (.int 1))) (consA (bin ixD (gVar 0) (fun _=>.val (.int 2))) nilA)))) δ)) δ)) (retS fun δ=>(fun _=>.val .non) δ >>= fun d=>.val (.fz d)) nilS) (retS fun δ=>(lstD (consA (tupD (consA (fun _=>.val (.str "put")) (consA (bin ixD (gVar 0) (fun _=>.val (.int 1))) (consA (bin ixD (gVar 1) (fun _=>.val (.int 3))) (consA (bin ixD (gVar 0) (fun _=>.val (.int 3))) (consA (bin ixD (gVar 0) (fun _=>.val (.int 4))) nilA)))))) nilA)) δ >>= fun d=>.val (.fz d)))
def F_put_and_rename:List D->Res DV:=fnD 2 Gb_put_and_rename
theorem ok_put_and_rename (W:Ds K mg xa xi) (B:Bn mg):FnOk P w K mg base (CX1 P w) 1 W.a_put_and_rename W.f_put_and_rename ["one","other"] (spD ⟨K,xa,xi⟩ 2 F_put_and_rename):=by
 have sc:FnScope ["one","other"] ["one","other"] (defScope (top 15)):=⟨rfl,rfl,rfl,by decide +kernel,rfl,by decide +kernel,by decide +kernel⟩
 exact def_ok (N:=["one","other"]) (ps:=["one","other"]) (k:=0) (g:=Gb_put_and_rename) W.d_put_and_rename.fn sc fun cdv A outer s H E Hf hr=>(s_cons (s_if (PW.pt (d_wor (dt_ne hr.units (d_ix hr.units (d_v 0) d_int) d_str) (d_wor1 (dt_ne hr.units (d_sliceX (d_v 1) d_pn (d_ps d_int)) (d_tup (d_cons d_str (d_cons (d_ix hr.units (d_v 0) d_int) (d_cons (d_ix hr.units (d_v 0) d_int) d_nil)))))))) (s_one (s_ret d_non)) s_nil) (s_one (s_ret (d_lst (d_cons (d_tup (d_cons d_str (d_cons (d_ix hr.units (d_v 0) d_int) (d_cons (d_ix hr.units (d_v 1) d_int) (d_cons (d_ix hr.units (d_v 0) d_int) (d_cons (d_ix hr.units (d_v 0) d_int) d_nil)))))) d_nil)))))
def Gb_rename_and_put_back:Dst->So:=(seqS (ifS (fun δ=>orR ((fun δ=>asB (DL.bin cmpNe (bin ixD (gVar 0) (fun _=>.val (.int 0))) (fun _=>.val (.str "rename")) δ)) δ) ((fun δ=>orR ((fun δ=>asB (DL.bin cmpNe (bin ixD (gVar 1) (fun _=>.val (.int 0))) (fun _=>.val (.str "back")) δ)) δ) ((fun δ=>asB (DL.bin cmpNe (sliceY (bin ixD (gVar 1) (fun _=>.val (.int 1))) (fun _=>.val none) (fun δ=>asI ((fun _=>.val (.int 3)) δ))) (tupD (consA (fun _=>.val (.str "put")) (consA (bin ixD (gVar 0) (fun _=>.val (.int 1))) (consA (bin ixD (gVar 0) (fun _=>.val (.int 3))) nilA)))) δ)) δ)) δ)) (retS fun δ=>(fun _=>.val .non) δ >>= fun d=>.val (.fz d)) nilS) (retS fun δ=>(lstD (consA (tupD (consA (fun _=>.val (.str "back")) (consA (tupD (consA (fun _=>.val (.str "put")) (consA (bin ixD (gVar 0) (fun _=>.val (.int 1))) (consA (bin ixD (gVar 0) (fun _=>.val (.int 2))) (consA (bin ixD (bin ixD (gVar 1) (fun _=>.val (.int 1))) (fun _=>.val (.int 3))) (consA (bin ixD (bin ixD (gVar 1) (fun _=>.val (.int 1))) (fun _=>.val (.int 4))) nilA)))))) nilA))) nilA)) δ >>= fun d=>.val (.fz d)))
def F_rename_and_put_back:List D->Res DV:=fnD 2 Gb_rename_and_put_back
theorem ok_rename_and_put_back (W:Ds K mg xa xi) (B:Bn mg):FnOk P w K mg base (CX1 P w) 1 W.a_rename_and_put_back W.f_rename_and_put_back ["one","other"] (spD ⟨K,xa,xi⟩ 2 F_rename_and_put_back):=by
 have sc:FnScope ["one","other"] ["one","other"] (defScope (top 16)):=⟨rfl,rfl,rfl,by decide +kernel,rfl,by decide +kernel,by decide +kernel⟩
 exact def_ok (N:=["one","other"]) (ps:=["one","other"]) (k:=0) (g:=Gb_rename_and_put_back) W.d_rename_and_put_back.fn sc fun cdv A outer s H E Hf hr=>(s_cons (s_if (PW.pt (d_wor (dt_ne hr.units (d_ix hr.units (d_v 0) d_int) d_str) (d_wor (dt_ne hr.units (d_ix hr.units (d_v 1) d_int) d_str) (d_wor1 (dt_ne hr.units (d_sliceX (d_ix hr.units (d_v 1) d_int) d_pn (d_ps d_int)) (d_tup (d_cons d_str (d_cons (d_ix hr.units (d_v 0) d_int) (d_cons (d_ix hr.units (d_v 0) d_int) d_nil))))))))) (s_one (s_ret d_non)) s_nil) (s_one (s_ret (d_lst (d_cons (d_tup (d_cons d_str (d_cons (d_tup (d_cons d_str (d_cons (d_ix hr.units (d_v 0) d_int) (d_cons (d_ix hr.units (d_v 0) d_int) (d_cons (d_ix hr.units (d_ix hr.units (d_v 1) d_int) d_int) (d_cons (d_ix hr.units (d_ix hr.units (d_v 1) d_int) d_int) d_nil)))))) d_nil))) d_nil)))))
def Gb_together:Dst->So:=(seqS (loopS (fun δ=>anyItems ((tupD (consA (fun δ=>(calO F_both_gone (consA (gVar 0) (consA (gVar 1) nilA))) δ >>= fun x=>.val x.d) (consA (fun δ=>(calO F_two_shifts (consA (gVar 0) (consA (gVar 1) nilA))) δ >>= fun x=>.val x.d) (consA (fun δ=>(calO F_two_renumberings (consA (gVar 0) (consA (gVar 1) nilA))) δ >>= fun x=>.val x.d) (consA (fun δ=>(calO F_two_renames (consA (gVar 0) (consA (gVar 1) nilA))) δ >>= fun x=>.val x.d) (consA (fun δ=>(calO F_put_and_rename (consA (gVar 0) (consA (gVar 1) nilA))) δ >>= fun x=>.val x.d) (consA (fun δ=>(calO F_rename_and_put_back (consA (gVar 0) (consA (gVar 1) nilA))) δ >>= fun x=>.val x.d) nilA))))))) δ)) (bName 2) (ifS (fun δ=>asB (DL.bin (isND true) (gVar 2) (fun _=>.val .non) δ)) (retS fun δ=>(gVar 2) δ >>= fun d=>.val (.fz d)) nilS)) (retS fun δ=>(fun _=>.val .non) δ >>= fun d=>.val (.fz d)))
def F_together:List D->Res DV:=fnD 3 Gb_together
theorem ok_together (W:Ds K mg xa xi) (B:Bn mg):FnOk P w K mg base (CX1 P w) 5 W.a_together W.f_together ["one","other"] (spD ⟨K,xa,xi⟩ 2 F_together):=by
 have sc:FnScope ["one","other","told"] ["one","other"] (defScope (top 17)):=⟨rfl,rfl,rfl,by decide +kernel,rfl,by decide +kernel,by decide +kernel⟩
 exact def_ok (N:=["one","other","told"]) (ps:=["one","other"]) (k:=4) (g:=Gb_together) W.d_together.fn sc fun cdv A outer s H E Hf hr=>(s_cons (s_for PassesOwn.leaving rfl (i_any (d_tup (d_cons (d_val (d_callO (ok_both_gone W B) (hr.mono (by decide)) (by rfl) W.d_both_gone.mg W.d_both_gone.fn.kp (W.d_both_gone.fn.binds (ps:=["one","other"]) fun _ _ _ _ _ _ us hl=>by obtain ⟨v0,v1,rfl⟩:=L2.ln2 hl;rfl) (by rfl) lands_cx rfl (d_cons (d_v 0) (d_cons (d_v 1) d_nil)) (hlen:=(consA_len (consA_len (fun _ _ h=>nilA_len h)))))) (d_cons (d_val (d_callO (ok_two_shifts W B) (hr.mono (by decide)) (by rfl) W.d_two_shifts.mg W.d_two_shifts.fn.kp (W.d_two_shifts.fn.binds (ps:=["one","other"]) fun _ _ _ _ _ _ us hl=>by obtain ⟨v0,v1,rfl⟩:=L2.ln2 hl;rfl) (by rfl) lands_cx rfl (d_cons (d_v 0) (d_cons (d_v 1) d_nil)) (hlen:=(consA_len (consA_len (fun _ _ h=>nilA_len h)))))) (d_cons (d_val (d_callO (ok_two_renumberings W B) (hr.mono (by decide)) (by rfl) W.d_two_renumberings.mg W.d_two_renumberings.fn.kp (W.d_two_renumberings.fn.binds (ps:=["one","other"]) fun _ _ _ _ _ _ us hl=>by obtain ⟨v0,v1,rfl⟩:=L2.ln2 hl;rfl) (by rfl) lands_cx rfl (d_cons (d_v 0) (d_cons (d_v 1) d_nil)) (hlen:=(consA_len (consA_len (fun _ _ h=>nilA_len h)))))) (d_cons (d_val (d_callO (ok_two_renames W B) (hr.mono (by decide)) (by rfl) W.d_two_renames.mg W.d_two_renames.fn.kp (W.d_two_renames.fn.binds (ps:=["one","other"]) fun _ _ _ _ _ _ us hl=>by obtain ⟨v0,v1,rfl⟩:=L2.ln2 hl;rfl) (by rfl) lands_cx rfl (d_cons (d_v 0) (d_cons (d_v 1) d_nil)) (hlen:=(consA_len (consA_len (fun _ _ h=>nilA_len h)))))) (d_cons (d_val (d_callO (ok_put_and_rename W B) (hr.mono (by decide)) (by rfl) W.d_put_and_rename.mg W.d_put_and_rename.fn.kp (W.d_put_and_rename.fn.binds (ps:=["one","other"]) fun _ _ _ _ _ _ us hl=>by obtain ⟨v0,v1,rfl⟩:=L2.ln2 hl;rfl) (by rfl) lands_cx rfl (d_cons (d_v 0) (d_cons (d_v 1) d_nil)) (hlen:=(consA_len (consA_len (fun _ _ h=>nilA_len h)))))) (d_cons (d_val (d_callO (ok_rename_and_put_back W B) (hr.mono (by decide)) (by rfl) W.d_rename_and_put_back.mg W.d_rename_and_put_back.fn.kp (W.d_rename_and_put_back.fn.binds (ps:=["one","other"]) fun _ _ _ _ _ _ us hl=>by obtain ⟨v0,v1,rfl⟩:=L2.ln2 hl;rfl) (by rfl) lands_cx rfl (d_cons (d_v 0) (d_cons (d_v 1) d_nil)) (hlen:=(consA_len (consA_len (fun _ _ h=>nilA_len h)))))) d_nil)))))))) (g_name (i:=2) sc.nd rfl (by first | exact Or.inl rfl | exact Or.inr rfl)) (s_one (s_if (dt_isnot (d_v 2) d_non) (s_one (s_ret (d_v 2))) s_nil))) (s_one (s_ret d_non)))
def Gb_first_taken:Dst->So:=(seqS (loopS (fun δ=>(consA (DL.bin subD (calN lenD (consA (gVar 0) nilA)) (fun _=>.val (.int 1))) nilA) δ >>= range1) (bName 1) (ifS (fun δ=>asB (DL.bin (isND true) (fun δ=>(calO F_together (consA (bin ixD (gVar 0) (gVar 1)) (consA (bin ixD (gVar 0) (DL.bin addX (gVar 1) (fun _=>.val (.int 1)))) nilA))) δ >>= fun x=>.val x.d) (fun _=>.val .non) δ)) (retS fun δ=>(gVar 1) δ >>= fun d=>.val (.fz d)) nilS)) (retS fun δ=>(fun _=>.val .non) δ >>= fun d=>.val (.fz d)))
def F_first_taken:List D->Res DV:=fnD 2 Gb_first_taken
theorem ok_first_taken (W:Ds K mg xa xi) (B:Bn mg):FnOk P w K mg base (CX1 P w) 6 W.a_first_taken W.f_first_taken ["rows"] (spD ⟨K,xa,xi⟩ 1 F_first_taken):=by
 have sc:FnScope ["rows","place"] ["rows"] (defScope (top 10)):=⟨rfl,rfl,rfl,by decide +kernel,rfl,by decide +kernel,by decide +kernel⟩
 exact def_ok (N:=["rows","place"]) (ps:=["rows"]) (k:=5) (g:=Gb_first_taken) W.d_first_taken.fn sc fun cdv A outer s H E Hf hr=>(s_cons (s_for PassesOwn.leaving rfl (i_range1 (by rfl) B.range (d_cons (d_sub (d_callB call_lenA (fit_len rfl) (by rfl) B.len DL.boot_len (d_cons (d_v 0) d_nil)) d_int) d_nil)) (g_name (i:=1) sc.nd rfl (by first | exact Or.inl rfl | exact Or.inr rfl)) (s_one (s_if (dt_isnot (d_val (d_callO (ok_together W B) (hr.mono (by decide)) (by rfl) W.d_together.mg W.d_together.fn.kp (W.d_together.fn.binds (ps:=["one","other"]) fun _ _ _ _ _ _ us hl=>by obtain ⟨v0,v1,rfl⟩:=L2.ln2 hl;rfl) (by rfl) lands_cx rfl (d_cons (d_ix hr.units (d_v 0) (d_v 1)) (d_cons (d_ix hr.units (d_v 0) (d_addX rfl (d_v 1) d_int)) d_nil)) (hlen:=(consA_len (consA_len (fun _ _ h=>nilA_len h)))))) d_non) (s_one (s_ret (d_v 1))) s_nil))) (s_one (s_ret d_non)))
noncomputable def Gb_flat (R_flat R_flat_chain:List D->Res DV):Dst->So:=(seqS (ifS (fun δ=>asB (DL.bin cmpEq (bin ixD (gVar 0) (fun _=>.val (.int 0))) (fun _=>.val (.str "back")) δ)) (retS fun δ=>(fun δ=>(calO (R_flat) (consA (bin ixD (gVar 0) (fun _=>.val (.int 1))) (consA (fun δ=>notV ((gVar 1) δ)) nilA))) δ >>= fun x=>.val x.d) δ >>= fun d=>.val (.fz d)) nilS) (seqS (ifS (fun δ=>asB (DL.bin cmpEq (bin ixD (gVar 0) (fun _=>.val (.int 0))) (fun _=>.val (.str "chain")) δ)) (retS fun δ=>(fun δ=>(calO (R_flat_chain) (consA (bin ixD (gVar 0) (fun _=>.val (.int 1))) (consA (gVar 1) nilA))) δ >>= fun x=>.val x.d) δ >>= fun d=>.val (.fz d)) nilS) (retS fun δ=>(fun δ=>(calO F_unless_idle (consA (fun δ=>ifR ((fun δ=>asB ((gVar 1) δ)) δ) ((fun δ=>(calO F_undone (consA (gVar 0) nilA)) δ >>= fun x=>.val x.d) δ) ((gVar 0) δ)) nilA)) δ >>= fun x=>.val x.d) δ >>= fun d=>.val (.fz d))))
theorem ok1_flat {k:Nat} {R_flat R_flat_chain:List D->Res DV} (W:Ds K mg xa xi) (B:Bn mg) (hk:4 ≤ k) (G_flat:FnOk P w K mg base (CX1 P w) k W.a_flat W.f_flat ["words","turned"] (spD ⟨K,xa,xi⟩ 2 R_flat)) (G_flat_chain:FnOk P w K mg base (CX1 P w) k W.a_flat_chain W.f_flat_chain ["rows","turned"] (spD ⟨K,xa,xi⟩ 2 R_flat_chain)):FnOk P w K mg base (CX1 P w) (k + 1) W.a_flat W.f_flat ["words","turned"] (spD ⟨K,xa,xi⟩ 2 (fnD 2 (Gb_flat R_flat R_flat_chain))):=by
 have sc:FnScope ["words","turned"] ["words","turned"] (defScope (top 4)):=⟨rfl,rfl,rfl,by decide +kernel,rfl,by decide +kernel,by decide +kernel⟩
 exact def_ok (N:=["words","turned"]) (ps:=["words","turned"]) (k:=k) (g:=Gb_flat R_flat R_flat_chain) W.d_flat.fn sc fun cdv A outer s H E Hf hr=>(s_cons (s_if (dt_eq hr.units (d_ix hr.units (d_v 0) d_int) d_str) (s_one (s_ret (d_val (d_callO (G_flat) (hr.mono (by omega)) (by rfl) W.d_flat.mg W.d_flat.fn.kp (W.d_flat.fn.binds (ps:=["words","turned"]) fun _ _ _ _ _ _ us hl=>by obtain ⟨v0,v1,rfl⟩:=L2.ln2 hl;rfl) (by rfl) lands_cx rfl (d_cons (d_ix hr.units (d_v 0) d_int) (d_cons (d_not (d_v 1)) d_nil)) (hlen:=(consA_len (consA_len (fun _ _ h=>nilA_len h)))))))) s_nil) (s_cons (s_if (dt_eq hr.units (d_ix hr.units (d_v 0) d_int) d_str) (s_one (s_ret (d_val (d_callO (G_flat_chain) (hr.mono (by omega)) (by rfl) W.d_flat_chain.mg W.d_flat_chain.fn.kp (W.d_flat_chain.fn.binds (ps:=["rows","turned"]) fun _ _ _ _ _ _ us hl=>by obtain ⟨v0,v1,rfl⟩:=L2.ln2 hl;rfl) (by rfl) lands_cx rfl (d_cons (d_ix hr.units (d_v 0) d_int) (d_cons (d_v 1) d_nil)) (hlen:=(consA_len (consA_len (fun _ _ h=>nilA_len h)))))))) s_nil) (s_one (s_ret (d_val (d_callO (ok_unless_idle W B) (hr.mono (by omega)) (by rfl) W.d_unless_idle.mg W.d_unless_idle.fn.kp (W.d_unless_idle.fn.binds (ps:=["words"]) fun _ _ _ _ _ _ us hl=>by obtain ⟨v0,rfl⟩:=L2.ln1 hl;rfl) (by rfl) lands_cx rfl (d_cons (d_ifx (d_tval (d_v 1)) (d_val (d_callO (ok_undone W B) (hr.mono (by omega)) (by rfl) W.d_undone.mg W.d_undone.fn.kp (W.d_undone.fn.binds (ps:=["words"]) fun _ _ _ _ _ _ us hl=>by obtain ⟨v0,rfl⟩:=L2.ln1 hl;rfl) (by rfl) lands_cx rfl (d_cons (d_v 0) d_nil) (hlen:=(consA_len (fun _ _ h=>nilA_len h))))) (d_v 0)) d_nil) (hlen:=(consA_len (fun _ _ h=>nilA_len h)))))))))
noncomputable def Gb_flat_chain (R_flat:List D->Res DV):Dst->So:=(seqS (setS 2 fun δ=>(fun δ=>ifR ((fun δ=>asB ((gVar 1) δ)) δ) ((un lrevD (gVar 0)) δ) ((calN listOf (consA (gVar 0) nilA)) δ)) δ >>= fun d=>.val (.fz d)) (seqS (setS 3 (lstO nilA)) (seqS (loopS (fun δ=>anyItems ((gVar 2) δ)) (bName 4) (extS 3 (consA (fun δ=>(calO (R_flat) (consA (gVar 4) (consA (gVar 1) nilA))) δ >>= fun x=>.val x.d) nilA))) (retV 3))))
theorem ok1_flat_chain {k:Nat} {R_flat:List D->Res DV} (W:Ds K mg xa xi) (B:Bn mg) (hk:4 ≤ k) (G_flat:FnOk P w K mg base (CX1 P w) k W.a_flat W.f_flat ["words","turned"] (spD ⟨K,xa,xi⟩ 2 R_flat)):FnOk P w K mg base (CX1 P w) (k + 1) W.a_flat_chain W.f_flat_chain ["rows","turned"] (spD ⟨K,xa,xi⟩ 2 (fnD 5 (Gb_flat_chain R_flat))):=by
 have sc:FnScope ["rows","turned","ordered","made","words"] ["rows","turned"] (defScope (top 5)):=⟨rfl,rfl,rfl,by decide +kernel,rfl,by decide +kernel,by decide +kernel⟩
 exact def_ok (N:=["rows","turned","ordered","made","words"]) (ps:=["rows","turned"]) (k:=k) (g:=Gb_flat_chain R_flat) W.d_flat_chain.fn sc fun cdv A outer s H E Hf hr=>(s_cons (s_set (i:=2) sc.nd rfl (by first | exact Or.inl rfl | exact Or.inr rfl) (d_ifx (d_tval (d_v 1)) (d_lrev rfl rfl (by rfl) B.list (by rfl) B.reversed (d_v 0)) (d_callTy call_list_of (fit_listOf rfl) (by rfl) B.list My.boot_list (d_cons (d_v 0) d_nil)))) (s_cons (s_setO (i:=3) sc.nd rfl (by first | exact Or.inl rfl | exact Or.inr rfl) (d_lstO d_nil)) (s_cons (s_for PassesOwn.leaving rfl (i_any (d_v 2)) (g_name (i:=4) sc.nd rfl (by first | exact Or.inl rfl | exact Or.inr rfl)) (s_one (s_extend (i:=3) (pv 3) (d_cons (d_val (d_callO (G_flat) (hr.mono (by omega)) (by rfl) W.d_flat.mg W.d_flat.fn.kp (W.d_flat.fn.binds (ps:=["words","turned"]) fun _ _ _ _ _ _ us hl=>by obtain ⟨v0,v1,rfl⟩:=L2.ln2 hl;rfl) (by rfl) lands_cx rfl (d_cons (d_v 4) (d_cons (d_v 1) d_nil)) (hlen:=(consA_len (consA_len (fun _ _ h=>nilA_len h)))))) d_nil)))) (s_one (s_retV (pv 3))))))
noncomputable def Fl:Nat->(List D->Res DV) × (List D->Res DV)
 | 0=>(fun _=>.bad,fun _=>.bad)
 | n + 1=>(fnD 2 (Gb_flat (Fl n).1 (Fl n).2),fnD 5 (Gb_flat_chain (Fl n).1))
theorem ok_fl (W:Ds K mg xa xi) (B:Bn mg):∀ n,FnOk P w K mg base (CX1 P w) (n + 4) W.a_flat W.f_flat ["words","turned"] (spD ⟨K,xa,xi⟩ 2 (Fl n).1)/\FnOk P w K mg base (CX1 P w) (n + 4) W.a_flat_chain W.f_flat_chain ["rows","turned"] (spD ⟨K,xa,xi⟩ 2 (Fl n).2)
 | 0=>⟨fn_bad,fn_bad⟩
 | n + 1=>⟨ok1_flat W B (by omega) (ok_fl W B n).1 (ok_fl W B n).2,ok1_flat_chain W B (by omega) (ok_fl W B n).1⟩
noncomputable def F_flat:List D->Res DV:=(Fl 12).1
theorem ok_flat (W:Ds K mg xa xi) (B:Bn mg):FnOk P w K mg base (CX1 P w) 16 W.a_flat W.f_flat ["words","turned"] (spD ⟨K,xa,xi⟩ 2 F_flat):=(ok_fl W B 12).1
noncomputable def Gb_laid:Dst->So:=(seqS (setS 1 (lstO nilA)) (seqS (loopS (fun δ=>anyItems ((gVar 0) δ)) (bName 2) (extS 1 (consA (fun δ=>(calO F_flat (consA (gVar 2) (consA (fun _=>.val (.bl false)) nilA))) δ >>= fun x=>.val x.d) nilA))) (seqS (setS 3 fun δ=>(brwE 1 (fun δ=>(calO F_first_taken (consA (gVar 1) nilA)) δ >>= fun x=>.val x.d)) δ >>= fun d=>.val (.fz d)) (seqS (whileS (fun δ=>asB (DL.bin (isND true) (gVar 3) (fun _=>.val .non) δ)) (frzS 1 (seqS (setS 1 (addO (DL.bin addX (sliceY (gVar 1) (fun _=>.val none) (fun δ=>asI ((gVar 3) δ))) (fun δ=>(calO F_together (consA (bin ixD (gVar 1) (gVar 3)) (consA (bin ixD (gVar 1) (DL.bin addX (gVar 3) (fun _=>.val (.int 1)))) nilA))) δ >>= fun x=>.val x.d)) (sliceY (gVar 1) (fun δ=>asI ((DL.bin addX (gVar 3) (fun _=>.val (.int 2))) δ)) (fun _=>.val none)))) (setS 3 fun δ=>(brwE 1 (fun δ=>(calO F_first_taken (consA (gVar 1) nilA)) δ >>= fun x=>.val x.d)) δ >>= fun d=>.val (.fz d))))) (retV 1)))))
noncomputable def F_laid:List D->Res DV:=fnD 4 Gb_laid
theorem ok_laid (W:Ds K mg xa xi) (B:Bn mg):FnOk P w K mg base (CX1 P w) 17 W.a_laid W.f_laid ["rows"] (spD ⟨K,xa,xi⟩ 1 F_laid):=by
 have sc:FnScope ["rows","left","words","place"] ["rows"] (defScope (top 3)):=⟨rfl,rfl,rfl,by decide +kernel,rfl,by decide +kernel,by decide +kernel⟩
 exact def_ok (N:=["rows","left","words","place"]) (ps:=["rows"]) (k:=16) (g:=Gb_laid) W.d_laid.fn sc fun cdv A outer s H E Hf hr=>(s_cons (s_setO (i:=1) sc.nd rfl (by first | exact Or.inl rfl | exact Or.inr rfl) (d_lstO d_nil)) (s_cons (s_for PassesOwn.leaving rfl (i_any (d_v 0)) (g_name (i:=2) sc.nd rfl (by first | exact Or.inl rfl | exact Or.inr rfl)) (s_one (s_extend (i:=1) (pv 1) (d_cons (d_val (d_callO (ok_flat W B) (hr.mono (by decide)) (by rfl) W.d_flat.mg W.d_flat.fn.kp (W.d_flat.fn.binds (ps:=["words","turned"]) fun _ _ _ _ _ _ us hl=>by obtain ⟨v0,v1,rfl⟩:=L2.ln2 hl;rfl) (by rfl) lands_cx rfl (d_cons (d_v 2) (d_cons d_bl d_nil)) (hlen:=(consA_len (consA_len (fun _ _ h=>nilA_len h)))))) d_nil)))) (s_cons (s_set (i:=3) sc.nd rfl (by first | exact Or.inl rfl | exact Or.inr rfl) (d_brw 1 (d_val (d_callO (ok_first_taken W B) (hr.mono (by decide)) (by rfl) W.d_first_taken.mg W.d_first_taken.fn.kp (W.d_first_taken.fn.binds (ps:=["rows"]) fun _ _ _ _ _ _ us hl=>by obtain ⟨v0,rfl⟩:=L2.ln1 hl;rfl) (by rfl) lands_cx rfl (d_cons (d_v 1) d_nil) (hlen:=(consA_len (fun _ _ h=>nilA_len h))))))) (s_cons (s_while PassesOwn.leaving (dt_isnot (d_v 3) d_non) (s_frz 1 (s_cons (s_setO (i:=1) sc.nd rfl (by first | exact Or.inl rfl | exact Or.inr rfl) (d_addO (d_addX rfl (d_sliceX (d_v 1) d_pn (d_ps (d_v 3))) (d_val (d_callO (ok_together W B) (hr.mono (by decide)) (by rfl) W.d_together.mg W.d_together.fn.kp (W.d_together.fn.binds (ps:=["one","other"]) fun _ _ _ _ _ _ us hl=>by obtain ⟨v0,v1,rfl⟩:=L2.ln2 hl;rfl) (by rfl) lands_cx rfl (d_cons (d_ix hr.units (d_v 1) (d_v 3)) (d_cons (d_ix hr.units (d_v 1) (d_addX rfl (d_v 3) d_int)) d_nil)) (hlen:=(consA_len (consA_len (fun _ _ h=>nilA_len h))))))) (d_sliceX (d_v 1) (d_ps (d_addX rfl (d_v 3) d_int)) d_pn))) (s_one (s_set (i:=3) sc.nd rfl (by first | exact Or.inl rfl | exact Or.inr rfl) (d_brw 1 (d_val (d_callO (ok_first_taken W B) (hr.mono (by decide)) (by rfl) W.d_first_taken.mg W.d_first_taken.fn.kp (W.d_first_taken.fn.binds (ps:=["rows"]) fun _ _ _ _ _ _ us hl=>by obtain ⟨v0,rfl⟩:=L2.ln1 hl;rfl) (by rfl) lands_cx rfl (d_cons (d_v 1) d_nil) (hlen:=(consA_len (fun _ _ h=>nilA_len h))))))))))) (s_one (s_retV (pv 1)))))))
def Gb__law_cell:Dst->So:=(seqS (ifS (fun δ=>asB (DL.bin ltD (gVar 1) (calN lenD (consA (gVar 0) nilA)) δ)) (retS fun δ=>(bin ixD (gVar 0) (gVar 1)) δ >>= fun d=>.val (.fz d)) nilS) (seqS (setS 2 fun δ=>(DL.bin addX (DL.bin mulD (gVar 1) (fun _=>.val (.int 7919))) (fun _=>.val (.int 5))) δ >>= fun d=>.val (.fz d)) (seqS (ifS (fun δ=>asB (DL.bin gtD (calN lenD (consA (gVar 0) nilA)) (fun _=>.val (.int 0)) δ)) (setS 2 fun δ=>(DL.bin addX (gVar 2) (DL.bin mulD (DL.bin modD (bin ixD (gVar 0) (DL.bin modD (gVar 1) (calN lenD (consA (gVar 0) nilA)))) (fun _=>.val (.int 2147483647))) (fun _=>.val (.int 48271)))) δ >>= fun d=>.val (.fz d)) nilS) (retS fun δ=>(DL.bin modD (gVar 2) (fun _=>.val (.int 2147483647))) δ >>= fun d=>.val (.fz d)))))
def F__law_cell:List D->Res DV:=fnD 3 Gb__law_cell
theorem ok__law_cell (W:Ds K mg xa xi) (B:Bn mg):FnOk P w K mg base (CX1 P w) 1 W.a__law_cell W.f__law_cell ["_law_script","_law_k"] (spD ⟨K,xa,xi⟩ 2 F__law_cell):=by
 have sc:FnScope ["_law_script","_law_k","_law_number"] ["_law_script","_law_k"] (defScope (top 19)):=⟨rfl,rfl,rfl,by decide +kernel,rfl,by decide +kernel,by decide +kernel⟩
 exact def_ok (N:=["_law_script","_law_k","_law_number"]) (ps:=["_law_script","_law_k"]) (k:=0) (g:=Gb__law_cell) W.d__law_cell.fn sc fun cdv A outer s H E Hf hr=>(s_cons (s_if (dt_lt (d_v 1) (d_callB call_lenA (fit_len rfl) (by rfl) B.len DL.boot_len (d_cons (d_v 0) d_nil))) (s_one (s_ret (d_ix hr.units (d_v 0) (d_v 1)))) s_nil) (s_cons (s_set (i:=2) sc.nd rfl (by first | exact Or.inl rfl | exact Or.inr rfl) (d_addX rfl (d_mul (d_v 1) d_int) d_int)) (s_cons (s_if (dt_gt (d_callB call_lenA (fit_len rfl) (by rfl) B.len DL.boot_len (d_cons (d_v 0) d_nil)) d_int) (s_one (s_set (i:=2) sc.nd rfl (by first | exact Or.inl rfl | exact Or.inr rfl) (d_addX rfl (d_v 2) (d_mul (d_mod (d_ix hr.units (d_v 0) (d_mod (d_v 1) (d_callB call_lenA (fit_len rfl) (by rfl) B.len DL.boot_len (d_cons (d_v 0) d_nil)))) d_int) d_int)))) s_nil) (s_one (s_ret (d_mod (d_v 2) d_int))))))
def Gb__law_stream:Dst->So:=(seqS (setS 2 (lstO nilA)) (seqS (setS 3 fun δ=>(DL.bin addX (DL.bin modD (gVar 0) (fun _=>.val (.int 2147483647))) (fun _=>.val (.int 48271))) δ >>= fun d=>.val (.fz d)) (seqS (loopS (fun δ=>(consA (gVar 1) nilA) δ >>= range1) (bName 4) (seqS (setS 3 fun δ=>(DL.bin modD (DL.bin addX (DL.bin addX (DL.bin mulD (gVar 3) (gVar 3)) (DL.bin mulD (fun _=>.val (.int 48271)) (gVar 3))) (gVar 4)) (fun _=>.val (.int 2147483647))) δ >>= fun d=>.val (.fz d)) (appS 2 (consA (gVar 3) nilA)))) (retV 2))))
def F__law_stream:List D->Res DV:=fnD 5 Gb__law_stream
theorem ok__law_stream (W:Ds K mg xa xi) (B:Bn mg):FnOk P w K mg base (CX1 P w) 1 W.a__law_stream W.f__law_stream ["_law_cell_here","_law_many"] (spD ⟨K,xa,xi⟩ 2 F__law_stream):=by
 have sc:FnScope ["_law_cell_here","_law_many","_law_found","_law_number","_law_k"] ["_law_cell_here","_law_many"] (defScope (top 20)):=⟨rfl,rfl,rfl,by decide +kernel,rfl,by decide +kernel,by decide +kernel⟩
 exact def_ok (N:=["_law_cell_here","_law_many","_law_found","_law_number","_law_k"]) (ps:=["_law_cell_here","_law_many"]) (k:=0) (g:=Gb__law_stream) W.d__law_stream.fn sc fun cdv A outer s H E Hf hr=>(s_cons (s_setO (i:=2) sc.nd rfl (by first | exact Or.inl rfl | exact Or.inr rfl) (d_lstO d_nil)) (s_cons (s_set (i:=3) sc.nd rfl (by first | exact Or.inl rfl | exact Or.inr rfl) (d_addX rfl (d_mod (d_v 0) d_int) d_int)) (s_cons (s_for PassesOwn.leaving rfl (i_range1 (by rfl) B.range (d_cons (d_v 1) d_nil)) (g_name (i:=4) sc.nd rfl (by first | exact Or.inl rfl | exact Or.inr rfl)) (s_cons (s_set (i:=3) sc.nd rfl (by first | exact Or.inl rfl | exact Or.inr rfl) (d_mod (d_addX rfl (d_addX rfl (d_mul (d_v 3) (d_v 3)) (d_mul d_int (d_v 3))) (d_v 4)) d_int)) (s_one (s_append (i:=2) (pv 2) (d_cons (d_v 3) d_nil))))) (s_one (s_retV (pv 2))))))
def Gb__law_letter:Dst->So:=(retS fun δ=>(bin ixD (fun _=>.val (.str "abcdefghijklmnopqrstuvwxyz")) (DL.bin modD (gVar 0) (fun _=>.val (.int 26)))) δ >>= fun d=>.val (.fz d))
def F__law_letter:List D->Res DV:=fnD 1 Gb__law_letter
theorem ok__law_letter (W:Ds K mg xa xi) (B:Bn mg):FnOk P w K mg base (CX1 P w) 1 W.a__law_letter W.f__law_letter ["_law_number"] (spD ⟨K,xa,xi⟩ 1 F__law_letter):=by
 have sc:FnScope ["_law_number"] ["_law_number"] (defScope (top 21)):=⟨rfl,rfl,rfl,by decide +kernel,rfl,by decide +kernel,by decide +kernel⟩
 exact def_ok (N:=["_law_number"]) (ps:=["_law_number"]) (k:=0) (g:=Gb__law_letter) W.d__law_letter.fn sc fun cdv A outer s H E Hf hr=>(s_one (s_ret (d_ix hr.units d_str (d_mod (d_v 0) d_int))))
def Gb__law_names:Dst->So:=(seqS (setS 2 fun δ=>(fun _=>.val (.str "")) δ >>= fun d=>.val (.fz d)) (seqS (loopS (fun δ=>anyItems ((fun δ=>(calO F__law_stream (consA (gVar 0) (consA (fun _=>.val (.int 4)) nilA))) δ >>= fun x=>.val x.d) δ)) (bName 3) (setS 2 fun δ=>(DL.bin addX (gVar 2) (fun δ=>(calO F__law_letter (consA (gVar 3) nilA)) δ >>= fun x=>.val x.d)) δ >>= fun d=>.val (.fz d))) (seqS (setS 4 fun δ=>(DL.bin modD (gVar 0) (fun _=>.val (.int 5))) δ >>= fun d=>.val (.fz d)) (seqS (setS 5 fun δ=>(DL.bin addX (fun δ=>(calO F__law_letter (consA (gVar 1) nilA)) δ >>= fun x=>.val x.d) (fun δ=>(calO F__law_letter (consA (DL.bin fdivD (gVar 1) (fun _=>.val (.int 26))) nilA)) δ >>= fun x=>.val x.d)) δ >>= fun d=>.val (.fz d)) (retS fun δ=>(fun δ=>(compO 1 [2,4,5] (fun δ=>anyItems ((fun _=>.val (.str "abcd")) δ)) (bName 0) yesB (DL.bin addX (DL.bin addX (DL.bin addX (sliceY (gVar 1) (fun _=>.val none) (fun δ=>asI ((gVar 2) δ))) (gVar 3)) (gVar 0)) (sliceY (gVar 1) (fun δ=>asI ((gVar 2) δ)) (fun _=>.val none)))) δ >>= fun x=>.val x.d) δ >>= fun d=>.val (.fz d))))))
def F__law_names:List D->Res DV:=fnD 6 Gb__law_names
theorem ok__law_names (W:Ds K mg xa xi) (B:Bn mg):FnOk P w K mg base (CX1 P w) 2 W.a__law_names W.f__law_names ["_law_number","_law_k"] (spD ⟨K,xa,xi⟩ 2 F__law_names):=by
 have sc:FnScope ["_law_number","_law_k","_law_base","_law_one","_law_at","_law_fresh"] ["_law_number","_law_k"] (defScope (top 22)):=⟨rfl,rfl,rfl,by decide +kernel,rfl,by decide +kernel,by decide +kernel⟩
 exact def_ok (N:=["_law_number","_law_k","_law_base","_law_one","_law_at","_law_fresh"]) (ps:=["_law_number","_law_k"]) (k:=1) (g:=Gb__law_names) W.d__law_names.fn sc fun cdv A outer s H E Hf hr=>(s_cons (s_set (i:=2) sc.nd rfl (by first | exact Or.inl rfl | exact Or.inr rfl) d_str) (s_cons (s_for PassesOwn.leaving rfl (i_any (d_val (d_callO (ok__law_stream W B) (hr.mono (by decide)) (by rfl) W.d__law_stream.mg W.d__law_stream.fn.kp (W.d__law_stream.fn.binds (ps:=["_law_cell_here","_law_many"]) fun _ _ _ _ _ _ us hl=>by obtain ⟨v0,v1,rfl⟩:=L2.ln2 hl;rfl) (by rfl) lands_cx rfl (d_cons (d_v 0) (d_cons d_int d_nil)) (hlen:=(consA_len (consA_len (fun _ _ h=>nilA_len h))))))) (g_name (i:=3) sc.nd rfl (by first | exact Or.inl rfl | exact Or.inr rfl)) (s_one (s_set (i:=2) sc.nd rfl (by first | exact Or.inl rfl | exact Or.inr rfl) (d_addX rfl (d_v 2) (d_val (d_callO (ok__law_letter W B) (hr.mono (by decide)) (by rfl) W.d__law_letter.mg W.d__law_letter.fn.kp (W.d__law_letter.fn.binds (ps:=["_law_number"]) fun _ _ _ _ _ _ us hl=>by obtain ⟨v0,rfl⟩:=L2.ln1 hl;rfl) (by rfl) lands_cx rfl (d_cons (d_v 3) d_nil) (hlen:=(consA_len (fun _ _ h=>nilA_len h))))))))) (s_cons (s_set (i:=4) sc.nd rfl (by first | exact Or.inl rfl | exact Or.inr rfl) (d_mod (d_v 0) d_int)) (s_cons (s_set (i:=5) sc.nd rfl (by first | exact Or.inl rfl | exact Or.inr rfl) (d_addX rfl (d_val (d_callO (ok__law_letter W B) (hr.mono (by decide)) (by rfl) W.d__law_letter.mg W.d__law_letter.fn.kp (W.d__law_letter.fn.binds (ps:=["_law_number"]) fun _ _ _ _ _ _ us hl=>by obtain ⟨v0,rfl⟩:=L2.ln1 hl;rfl) (by rfl) lands_cx rfl (d_cons (d_v 1) d_nil) (hlen:=(consA_len (fun _ _ h=>nilA_len h))))) (d_val (d_callO (ok__law_letter W B) (hr.mono (by decide)) (by rfl) W.d__law_letter.mg W.d__law_letter.fn.kp (W.d__law_letter.fn.binds (ps:=["_law_number"]) fun _ _ _ _ _ _ us hl=>by obtain ⟨v0,rfl⟩:=L2.ln1 hl;rfl) (by rfl) lands_cx rfl (d_cons (d_fdiv (d_v 1) d_int) d_nil) (hlen:=(consA_len (fun _ _ h=>nilA_len h))))))) (s_one (s_ret (d_val (d_comp (osc:=defScope (top 22)) (N0:=["_law_number","_law_k","_law_base","_law_one","_law_at","_law_fresh"]) (xs:=["_law_sign"]) (fr:=[2,4,5]) (pb_name 0) ⟨rfl,by decide +kernel,by decide +kernel,by decide +kernel,(fun j hj=>by simp only [List.mem_cons,List.not_mem_nil,or_false] at hj;rcases hj with rfl | rfl | rfl <;> exact ⟨_,rfl,by decide +kernel⟩),by decide +kernel⟩ rfl rfl rfl (i_any d_str) (fun s H fp=>(g_name (i:=0) (show (["_law_sign","_law_base","_law_at","_law_fresh"]:List Str).Nodup by decide +kernel) rfl (by first | exact Or.inl rfl | exact Or.inr rfl))) (fun s H fp=>f_nil) (fun s H fp=>(d_addX rfl (d_addX rfl (d_addX rfl (d_sliceX (d_v 1) d_pn (d_ps (d_v 2))) (d_v 3)) (d_v 0)) (d_sliceX (d_v 1) (d_ps (d_v 2)) d_pn)))))))))))
def Gb__law_move:Dst->So:=(seqS (ifS (fun δ=>asB (DL.bin cmpEq (gVar 2) (fun _=>.val (.int 0)) δ)) (seqS (setS 3 fun δ=>(bin ixD (lstD (consA (tupD (consA (fun _=>.val (.str "whole")) nilA)) (consA (tupD (consA (fun _=>.val (.str "below")) (consA (fun _=>.val (.int 5)) nilA))) (consA (tupD (consA (fun _=>.val (.str "upto")) (consA (fun _=>.val (.int 9)) nilA))) (consA (tupD (consA (fun _=>.val (.str "list")) (consA (tupD (consA (fun _=>.val (.str "whole")) nilA)) nilA))) nilA))))) (DL.bin modD (bin ixD (gVar 0) (fun _=>.val (.int 1))) (fun _=>.val (.int 4)))) δ >>= fun d=>.val (.fz d)) (seqS (setS 4 fun δ=>(bin ixD (lstD (consA (bin ixD (gVar 0) (fun _=>.val (.int 2))) (consA (DL.bin modD (bin ixD (gVar 0) (fun _=>.val (.int 2))) (fun _=>.val (.int 5))) (consA (DL.bin subD (fun _=>.val (.int 9)) (bin ixD (gVar 0) (fun _=>.val (.int 2)))) (consA (tupD (consA (bin ixD (gVar 0) (fun _=>.val (.int 2))) (consA (fun _=>.val (.int 0)) nilA))) nilA))))) (DL.bin modD (bin ixD (gVar 0) (fun _=>.val (.int 1))) (fun _=>.val (.int 4)))) δ >>= fun d=>.val (.fz d)) (retS fun δ=>(tupD (consA (fun _=>.val (.str "put")) (consA (bin ixD (gVar 1) (fun _=>.val (.int 0))) (consA (bin ixD (gVar 1) (fun _=>.val (.int 1))) (consA (gVar 3) (consA (gVar 4) nilA)))))) δ >>= fun d=>.val (.fz d)))) nilS) (seqS (ifS (fun δ=>asB (DL.bin cmpEq (gVar 2) (fun _=>.val (.int 1)) δ)) (retS fun δ=>(tupD (consA (fun _=>.val (.str "part")) (consA (bin ixD (gVar 1) (fun _=>.val (.int 0))) (consA (bin ixD (gVar 1) (fun _=>.val (.int 1))) (consA (bin ixD (gVar 1) (fun _=>.val (.int 2))) (consA (bin ixD (gVar 1) (fun _=>.val (.int 3))) (consA (DL.bin addX (fun _=>.val (.int 1)) (DL.bin modD (bin ixD (gVar 0) (fun _=>.val (.int 1))) (DL.bin powD (fun _=>.val (.int 10)) (fun _=>.val (.int 9))))) nilA))))))) δ >>= fun d=>.val (.fz d)) nilS) (seqS (ifS (fun δ=>asB (DL.bin cmpEq (gVar 2) (fun _=>.val (.int 2)) δ)) (retS fun δ=>(tupD (consA (fun _=>.val (.str "split")) (consA (bin ixD (gVar 1) (fun _=>.val (.int 0))) (consA (bin ixD (gVar 1) (fun _=>.val (.int 1))) (consA (bin ixD (fun _=>.val (.str " -,;")) (DL.bin modD (bin ixD (gVar 0) (fun _=>.val (.int 1))) (fun _=>.val (.int 4)))) nilA))))) δ >>= fun d=>.val (.fz d)) nilS) (seqS (ifS (fun δ=>asB (DL.bin cmpEq (gVar 2) (fun _=>.val (.int 3)) δ)) (retS fun δ=>(tupD (consA (fun _=>.val (.str "rows")) (consA (bin ixD (gVar 1) (fun _=>.val (.int 0))) (consA (bin ixD (gVar 1) (fun _=>.val (.int 1))) nilA)))) δ >>= fun d=>.val (.fz d)) nilS) (seqS (ifS (fun δ=>asB (DL.bin cmpEq (gVar 2) (fun _=>.val (.int 4)) δ)) (retS fun δ=>(tupD (consA (fun _=>.val (.str "cleave")) (consA (bin ixD (gVar 1) (fun _=>.val (.int 0))) (consA (calN tupOf (consA (sliceY (gVar 1) (fun δ=>asI ((fun _=>.val (.int 1)) δ)) (fun δ=>asI ((DL.bin addX (fun _=>.val (.int 1)) (DL.bin modD (bin ixD (gVar 0) (fun _=>.val (.int 1))) (fun _=>.val (.int 4)))) δ))) nilA)) nilA)))) δ >>= fun d=>.val (.fz d)) nilS) (retS fun δ=>(tupD (consA (fun _=>.val (.str "cap")) (consA (bin ixD (gVar 1) (fun _=>.val (.int 0))) (consA (bin ixD (gVar 1) (fun _=>.val (.int 1))) (consA (DL.bin subD (DL.bin modD (bin ixD (gVar 0) (fun _=>.val (.int 1))) (fun _=>.val (.int 2001))) (fun _=>.val (.int 1000))) nilA))))) δ >>= fun d=>.val (.fz d)))))))
def F__law_move:List D->Res DV:=fnD 5 Gb__law_move
theorem ok__law_move (W:Ds K mg xa xi) (B:Bn mg):FnOk P w K mg base (CX1 P w) 1 W.a__law_move W.f__law_move ["_law_xs","_law_names_here","_law_way"] (spD ⟨K,xa,xi⟩ 3 F__law_move):=by
 have sc:FnScope ["_law_xs","_law_names_here","_law_way","_law_kind","_law_value"] ["_law_xs","_law_names_here","_law_way"] (defScope (top 23)):=⟨rfl,rfl,rfl,by decide +kernel,rfl,by decide +kernel,by decide +kernel⟩
 exact def_ok (N:=["_law_xs","_law_names_here","_law_way","_law_kind","_law_value"]) (ps:=["_law_xs","_law_names_here","_law_way"]) (k:=0) (g:=Gb__law_move) W.d__law_move.fn sc fun cdv A outer s H E Hf hr=>(s_cons (s_if (dt_eq hr.units (d_v 2) d_int) (s_cons (s_set (i:=3) sc.nd rfl (by first | exact Or.inl rfl | exact Or.inr rfl) (d_ix hr.units (d_lst (d_cons (d_tup (d_cons d_str d_nil)) (d_cons (d_tup (d_cons d_str (d_cons d_int d_nil))) (d_cons (d_tup (d_cons d_str (d_cons d_int d_nil))) (d_cons (d_tup (d_cons d_str (d_cons (d_tup (d_cons d_str d_nil)) d_nil))) d_nil))))) (d_mod (d_ix hr.units (d_v 0) d_int) d_int))) (s_cons (s_set (i:=4) sc.nd rfl (by first | exact Or.inl rfl | exact Or.inr rfl) (d_ix hr.units (d_lst (d_cons (d_ix hr.units (d_v 0) d_int) (d_cons (d_mod (d_ix hr.units (d_v 0) d_int) d_int) (d_cons (d_sub d_int (d_ix hr.units (d_v 0) d_int)) (d_cons (d_tup (d_cons (d_ix hr.units (d_v 0) d_int) (d_cons d_int d_nil))) d_nil))))) (d_mod (d_ix hr.units (d_v 0) d_int) d_int))) (s_one (s_ret (d_tup (d_cons d_str (d_cons (d_ix hr.units (d_v 1) d_int) (d_cons (d_ix hr.units (d_v 1) d_int) (d_cons (d_v 3) (d_cons (d_v 4) d_nil)))))))))) s_nil) (s_cons (s_if (dt_eq hr.units (d_v 2) d_int) (s_one (s_ret (d_tup (d_cons d_str (d_cons (d_ix hr.units (d_v 1) d_int) (d_cons (d_ix hr.units (d_v 1) d_int) (d_cons (d_ix hr.units (d_v 1) d_int) (d_cons (d_ix hr.units (d_v 1) d_int) (d_cons (d_addX rfl d_int (d_mod (d_ix hr.units (d_v 0) d_int) (d_pow d_int d_int))) d_nil))))))))) s_nil) (s_cons (s_if (dt_eq hr.units (d_v 2) d_int) (s_one (s_ret (d_tup (d_cons d_str (d_cons (d_ix hr.units (d_v 1) d_int) (d_cons (d_ix hr.units (d_v 1) d_int) (d_cons (d_ix hr.units d_str (d_mod (d_ix hr.units (d_v 0) d_int) d_int)) d_nil))))))) s_nil) (s_cons (s_if (dt_eq hr.units (d_v 2) d_int) (s_one (s_ret (d_tup (d_cons d_str (d_cons (d_ix hr.units (d_v 1) d_int) (d_cons (d_ix hr.units (d_v 1) d_int) d_nil)))))) s_nil) (s_cons (s_if (dt_eq hr.units (d_v 2) d_int) (s_one (s_ret (d_tup (d_cons d_str (d_cons (d_ix hr.units (d_v 1) d_int) (d_cons (d_callTy call_tuple_of (fit_tupOf rfl) (by rfl) B.tuple My.boot_tuple (d_cons (d_sliceX (d_v 1) (d_ps d_int) (d_ps (d_addX rfl d_int (d_mod (d_ix hr.units (d_v 0) d_int) d_int)))) d_nil)) d_nil)))))) s_nil) (s_one (s_ret (d_tup (d_cons d_str (d_cons (d_ix hr.units (d_v 1) d_int) (d_cons (d_ix hr.units (d_v 1) d_int) (d_cons (d_sub (d_mod (d_ix hr.units (d_v 0) d_int) d_int) d_int) d_nil))))))))))))
noncomputable def Gb__law_divisor:Dst->So:=(seqS (whileS (fun δ=>asB (DL.bin cmpNe (gVar 1) (fun _=>.val (.int 0)) δ)) (parS 0 1 (consA (gVar 1) (consA (DL.bin modD (gVar 0) (gVar 1)) nilA)))) (retS fun δ=>(gVar 0) δ >>= fun d=>.val (.fz d)))
noncomputable def F__law_divisor:List D->Res DV:=fnD 2 Gb__law_divisor
theorem ok__law_divisor (W:Ds K mg xa xi) (B:Bn mg):FnOk P w K mg base (CX1 P w) 1 W.a__law_divisor W.f__law_divisor ["_law_one","_law_other"] (spD ⟨K,xa,xi⟩ 2 F__law_divisor):=by
 have sc:FnScope ["_law_one","_law_other"] ["_law_one","_law_other"] (defScope (top 24)):=⟨rfl,rfl,rfl,by decide +kernel,rfl,by decide +kernel,by decide +kernel⟩
 exact def_ok (N:=["_law_one","_law_other"]) (ps:=["_law_one","_law_other"]) (k:=0) (g:=Gb__law_divisor) W.d__law_divisor.fn sc fun cdv A outer s H E Hf hr=>(s_cons (s_while PassesOwn.leaving (dt_ne hr.units (d_v 1) d_int) (s_one (s_par (i:=0) (j:=1) rfl sc.nd rfl rfl (by decide) rfl rfl (d_cons (d_v 1) (d_cons (d_mod (d_v 0) (d_v 1)) d_nil)) (by rfl)))) (s_one (s_ret (d_v 0))))
noncomputable def Gb__law_renumber:Dst->So:=(seqS (setS 3 fun δ=>(DL.bin modD (gVar 0) (gVar 2)) δ >>= fun d=>.val (.fz d)) (seqS (whileS (fun δ=>asB (DL.bin cmpNe (fun δ=>(calO F__law_divisor (consA (gVar 3) (consA (gVar 2) nilA))) δ >>= fun x=>.val x.d) (fun _=>.val (.int 1)) δ)) (setS 3 fun δ=>(DL.bin modD (DL.bin addX (gVar 3) (fun _=>.val (.int 1))) (gVar 2)) δ >>= fun d=>.val (.fz d))) (retS fun δ=>(tupD (consA (fun _=>.val (.str "renumber")) (consA (gVar 3) (consA (DL.bin modD (gVar 1) (gVar 2)) (consA (gVar 2) nilA))))) δ >>= fun d=>.val (.fz d))))
noncomputable def F__law_renumber:List D->Res DV:=fnD 4 Gb__law_renumber
theorem ok__law_renumber (W:Ds K mg xa xi) (B:Bn mg):FnOk P w K mg base (CX1 P w) 2 W.a__law_renumber W.f__law_renumber ["_law_number","_law_plus","_law_size"] (spD ⟨K,xa,xi⟩ 3 F__law_renumber):=by
 have sc:FnScope ["_law_number","_law_plus","_law_size","_law_times"] ["_law_number","_law_plus","_law_size"] (defScope (top 25)):=⟨rfl,rfl,rfl,by decide +kernel,rfl,by decide +kernel,by decide +kernel⟩
 exact def_ok (N:=["_law_number","_law_plus","_law_size","_law_times"]) (ps:=["_law_number","_law_plus","_law_size"]) (k:=1) (g:=Gb__law_renumber) W.d__law_renumber.fn sc fun cdv A outer s H E Hf hr=>(s_cons (s_set (i:=3) sc.nd rfl (by first | exact Or.inl rfl | exact Or.inr rfl) (d_mod (d_v 0) (d_v 2))) (s_cons (s_while PassesOwn.leaving (dt_ne hr.units (d_val (d_callO (ok__law_divisor W B) (hr.mono (by decide)) (by rfl) W.d__law_divisor.mg W.d__law_divisor.fn.kp (W.d__law_divisor.fn.binds (ps:=["_law_one","_law_other"]) fun _ _ _ _ _ _ us hl=>by obtain ⟨v0,v1,rfl⟩:=L2.ln2 hl;rfl) (by rfl) lands_cx rfl (d_cons (d_v 3) (d_cons (d_v 2) d_nil)) (hlen:=(consA_len (consA_len (fun _ _ h=>nilA_len h)))))) d_int) (s_one (s_set (i:=3) sc.nd rfl (by first | exact Or.inl rfl | exact Or.inr rfl) (d_mod (d_addX rfl (d_v 3) d_int) (d_v 2))))) (s_one (s_ret (d_tup (d_cons d_str (d_cons (d_v 3) (d_cons (d_mod (d_v 1) (d_v 2)) (d_cons (d_v 2) d_nil)))))))))
def Gb__law_both:Dst->So:=(seqS (setS 2 fun δ=>(bin ixD (gVar 0) (fun _=>.val (.int 3))) δ >>= fun d=>.val (.fz d)) (seqS (setS 3 fun δ=>(DL.bin modD (DL.bin mulD (bin ixD (gVar 0) (fun _=>.val (.int 1))) (bin ixD (gVar 1) (fun _=>.val (.int 1)))) (gVar 2)) δ >>= fun d=>.val (.fz d)) (seqS (setS 4 fun δ=>(DL.bin modD (DL.bin addX (DL.bin mulD (bin ixD (gVar 0) (fun _=>.val (.int 2))) (bin ixD (gVar 1) (fun _=>.val (.int 1)))) (bin ixD (gVar 1) (fun _=>.val (.int 2)))) (gVar 2)) δ >>= fun d=>.val (.fz d)) (seqS (ifS (fun δ=>andR ((fun δ=>asB (DL.bin cmpEq (gVar 3) (fun _=>.val (.int 1)) δ)) δ) ((fun δ=>asB (DL.bin cmpEq (gVar 4) (fun _=>.val (.int 0)) δ)) δ)) (retS fun δ=>(lstD nilA) δ >>= fun d=>.val (.fz d)) nilS) (retS fun δ=>(lstD (consA (tupD (consA (fun _=>.val (.str "renumber")) (consA (gVar 3) (consA (gVar 4) (consA (gVar 2) nilA))))) nilA)) δ >>= fun d=>.val (.fz d))))))
def F__law_both:List D->Res DV:=fnD 5 Gb__law_both
theorem ok__law_both (W:Ds K mg xa xi) (B:Bn mg):FnOk P w K mg base (CX1 P w) 1 W.a__law_both W.f__law_both ["_law_one","_law_other"] (spD ⟨K,xa,xi⟩ 2 F__law_both):=by
 have sc:FnScope ["_law_one","_law_other","_law_size","_law_times","_law_plus"] ["_law_one","_law_other"] (defScope (top 26)):=⟨rfl,rfl,rfl,by decide +kernel,rfl,by decide +kernel,by decide +kernel⟩
 exact def_ok (N:=["_law_one","_law_other","_law_size","_law_times","_law_plus"]) (ps:=["_law_one","_law_other"]) (k:=0) (g:=Gb__law_both) W.d__law_both.fn sc fun cdv A outer s H E Hf hr=>(s_cons (s_set (i:=2) sc.nd rfl (by first | exact Or.inl rfl | exact Or.inr rfl) (d_ix hr.units (d_v 0) d_int)) (s_cons (s_set (i:=3) sc.nd rfl (by first | exact Or.inl rfl | exact Or.inr rfl) (d_mod (d_mul (d_ix hr.units (d_v 0) d_int) (d_ix hr.units (d_v 1) d_int)) (d_v 2))) (s_cons (s_set (i:=4) sc.nd rfl (by first | exact Or.inl rfl | exact Or.inr rfl) (d_mod (d_addX rfl (d_mul (d_ix hr.units (d_v 0) d_int) (d_ix hr.units (d_v 1) d_int)) (d_ix hr.units (d_v 1) d_int)) (d_v 2))) (s_cons (s_if (PW.pt (d_wand (dt_eq hr.units (d_v 3) d_int) (d_wand1 (dt_eq hr.units (d_v 4) d_int)))) (s_one (s_ret (d_lst d_nil))) s_nil) (s_one (s_ret (d_lst (d_cons (d_tup (d_cons d_str (d_cons (d_v 3) (d_cons (d_v 4) (d_cons (d_v 2) d_nil))))) d_nil))))))))
def Gb__law_told:Dst->So:=(seqS (ifS (fun δ=>asB (DL.bin cmpEq (gVar 1) (fun _=>.val (.int 0)) δ)) (retS fun δ=>(gVar 0) δ >>= fun d=>.val (.fz d)) nilS) (seqS (ifS (fun δ=>asB (DL.bin cmpEq (gVar 1) (fun _=>.val (.int 1)) δ)) (retS fun δ=>(tupD (consA (fun _=>.val (.str "back")) (consA (tupD (consA (fun _=>.val (.str "back")) (consA (gVar 0) nilA))) nilA))) δ >>= fun d=>.val (.fz d)) nilS) (seqS (ifS (fun δ=>asB (DL.bin cmpEq (gVar 1) (fun _=>.val (.int 2)) δ)) (retS fun δ=>(tupD (consA (fun _=>.val (.str "chain")) (consA (tupD (consA (gVar 0) nilA)) nilA))) δ >>= fun d=>.val (.fz d)) nilS) (retS fun δ=>(tupD (consA (fun _=>.val (.str "back")) (consA (tupD (consA (fun _=>.val (.str "chain")) (consA (tupD (consA (tupD (consA (fun _=>.val (.str "chain")) (consA (tupD nilA) nilA))) (consA (tupD (consA (fun _=>.val (.str "back")) (consA (gVar 0) nilA))) nilA))) nilA))) nilA))) δ >>= fun d=>.val (.fz d)))))
def F__law_told:List D->Res DV:=fnD 2 Gb__law_told
theorem ok__law_told (W:Ds K mg xa xi) (B:Bn mg):FnOk P w K mg base (CX1 P w) 1 W.a__law_told W.f__law_told ["_law_words","_law_way"] (spD ⟨K,xa,xi⟩ 2 F__law_told):=by
 have sc:FnScope ["_law_words","_law_way"] ["_law_words","_law_way"] (defScope (top 27)):=⟨rfl,rfl,rfl,by decide +kernel,rfl,by decide +kernel,by decide +kernel⟩
 exact def_ok (N:=["_law_words","_law_way"]) (ps:=["_law_words","_law_way"]) (k:=0) (g:=Gb__law_told) W.d__law_told.fn sc fun cdv A outer s H E Hf hr=>(s_cons (s_if (dt_eq hr.units (d_v 1) d_int) (s_one (s_ret (d_v 0))) s_nil) (s_cons (s_if (dt_eq hr.units (d_v 1) d_int) (s_one (s_ret (d_tup (d_cons d_str (d_cons (d_tup (d_cons d_str (d_cons (d_v 0) d_nil))) d_nil))))) s_nil) (s_cons (s_if (dt_eq hr.units (d_v 1) d_int) (s_one (s_ret (d_tup (d_cons d_str (d_cons (d_tup (d_cons (d_v 0) d_nil)) d_nil))))) s_nil) (s_one (s_ret (d_tup (d_cons d_str (d_cons (d_tup (d_cons d_str (d_cons (d_tup (d_cons (d_tup (d_cons d_str (d_cons (d_tup d_nil) d_nil))) (d_cons (d_tup (d_cons d_str (d_cons (d_v 0) d_nil))) d_nil))) d_nil))) d_nil))))))))
def Gb__law_shifts:Dst->So:=(seqS (setS 2 fun δ=>(tupD (consA (fun _=>.val (.str "shift")) (consA (bin ixD (gVar 1) (fun _=>.val (.int 0))) (consA (bin ixD (gVar 1) (fun _=>.val (.int 1))) (consA (DL.bin subD (DL.bin modD (bin ixD (gVar 0) (fun _=>.val (.int 1))) (fun _=>.val (.int 41))) (fun _=>.val (.int 20))) nilA))))) δ >>= fun d=>.val (.fz d)) (seqS (setS 3 fun δ=>(tupD (consA (fun _=>.val (.str "shift")) (consA (bin ixD (gVar 1) (fun _=>.val (.int 0))) (consA (bin ixD (gVar 1) (fun _=>.val (.int 1))) (consA (DL.bin subD (DL.bin modD (bin ixD (gVar 0) (fun _=>.val (.int 2))) (fun _=>.val (.int 41))) (fun _=>.val (.int 20))) nilA))))) δ >>= fun d=>.val (.fz d)) (seqS (setS 4 fun δ=>(DL.bin addX (bin ixD (gVar 2) (fun _=>.val (.int 3))) (bin ixD (gVar 3) (fun _=>.val (.int 3)))) δ >>= fun d=>.val (.fz d)) (seqS (setS 5 fun δ=>(tupD (consA (fun _=>.val (.str "shift")) (consA (bin ixD (gVar 1) (fun _=>.val (.int 0))) (consA (bin ixD (gVar 1) (fun _=>.val (.int 1))) (consA (gVar 4) nilA))))) δ >>= fun d=>.val (.fz d)) (seqS (setS 6 fun δ=>(lstD (consA (gVar 5) nilA)) δ >>= fun d=>.val (.fz d)) (seqS (ifS (fun δ=>asB (DL.bin cmpEq (gVar 4) (fun _=>.val (.int 0)) δ)) (setS 6 fun δ=>(lstD nilA) δ >>= fun d=>.val (.fz d)) nilS) (seqS (ifS (fun δ=>asB (DL.bin cmpEq (DL.bin modD (bin ixD (gVar 0) (fun _=>.val (.int 4))) (fun _=>.val (.int 3))) (fun _=>.val (.int 0)) δ)) (retS fun δ=>(lstD (consA (lstD (consA (tupD (consA (fun _=>.val (.str "back")) (consA (tupD (consA (fun _=>.val (.str "shift")) (consA (bin ixD (gVar 1) (fun _=>.val (.int 0))) (consA (bin ixD (gVar 1) (fun _=>.val (.int 1))) (consA (DL.bin subD (fun _=>.val (.int 0)) (gVar 4)) nilA))))) nilA))) nilA)) (consA (gVar 6) nilA))) δ >>= fun d=>.val (.fz d)) nilS) (retS fun δ=>(lstD (consA (lstD (consA (fun δ=>(calO F__law_told (consA (gVar 2) (consA (DL.bin modD (bin ixD (gVar 0) (fun _=>.val (.int 4))) (fun _=>.val (.int 4))) nilA))) δ >>= fun x=>.val x.d) (consA (fun δ=>(calO F__law_told (consA (gVar 3) (consA (DL.bin modD (bin ixD (gVar 0) (fun _=>.val (.int 5))) (fun _=>.val (.int 4))) nilA))) δ >>= fun x=>.val x.d) nilA))) (consA (gVar 6) nilA))) δ >>= fun d=>.val (.fz d)))))))))
def F__law_shifts:List D->Res DV:=fnD 7 Gb__law_shifts
theorem ok__law_shifts (W:Ds K mg xa xi) (B:Bn mg):FnOk P w K mg base (CX1 P w) 2 W.a__law_shifts W.f__law_shifts ["_law_xs","_law_names_here"] (spD ⟨K,xa,xi⟩ 2 F__law_shifts):=by
 have sc:FnScope ["_law_xs","_law_names_here","_law_one","_law_other","_law_by","_law_both_here","_law_due"] ["_law_xs","_law_names_here"] (defScope (top 28)):=⟨rfl,rfl,rfl,by decide +kernel,rfl,by decide +kernel,by decide +kernel⟩
 exact def_ok (N:=["_law_xs","_law_names_here","_law_one","_law_other","_law_by","_law_both_here","_law_due"]) (ps:=["_law_xs","_law_names_here"]) (k:=1) (g:=Gb__law_shifts) W.d__law_shifts.fn sc fun cdv A outer s H E Hf hr=>(s_cons (s_set (i:=2) sc.nd rfl (by first | exact Or.inl rfl | exact Or.inr rfl) (d_tup (d_cons d_str (d_cons (d_ix hr.units (d_v 1) d_int) (d_cons (d_ix hr.units (d_v 1) d_int) (d_cons (d_sub (d_mod (d_ix hr.units (d_v 0) d_int) d_int) d_int) d_nil)))))) (s_cons (s_set (i:=3) sc.nd rfl (by first | exact Or.inl rfl | exact Or.inr rfl) (d_tup (d_cons d_str (d_cons (d_ix hr.units (d_v 1) d_int) (d_cons (d_ix hr.units (d_v 1) d_int) (d_cons (d_sub (d_mod (d_ix hr.units (d_v 0) d_int) d_int) d_int) d_nil)))))) (s_cons (s_set (i:=4) sc.nd rfl (by first | exact Or.inl rfl | exact Or.inr rfl) (d_addX rfl (d_ix hr.units (d_v 2) d_int) (d_ix hr.units (d_v 3) d_int))) (s_cons (s_set (i:=5) sc.nd rfl (by first | exact Or.inl rfl | exact Or.inr rfl) (d_tup (d_cons d_str (d_cons (d_ix hr.units (d_v 1) d_int) (d_cons (d_ix hr.units (d_v 1) d_int) (d_cons (d_v 4) d_nil)))))) (s_cons (s_set (i:=6) sc.nd rfl (by first | exact Or.inl rfl | exact Or.inr rfl) (d_lst (d_cons (d_v 5) d_nil))) (s_cons (s_if (dt_eq hr.units (d_v 4) d_int) (s_one (s_set (i:=6) sc.nd rfl (by first | exact Or.inl rfl | exact Or.inr rfl) (d_lst d_nil))) s_nil) (s_cons (s_if (dt_eq hr.units (d_mod (d_ix hr.units (d_v 0) d_int) d_int) d_int) (s_one (s_ret (d_lst (d_cons (d_lst (d_cons (d_tup (d_cons d_str (d_cons (d_tup (d_cons d_str (d_cons (d_ix hr.units (d_v 1) d_int) (d_cons (d_ix hr.units (d_v 1) d_int) (d_cons (d_sub d_int (d_v 4)) d_nil))))) d_nil))) d_nil)) (d_cons (d_v 6) d_nil))))) s_nil) (s_one (s_ret (d_lst (d_cons (d_lst (d_cons (d_val (d_callO (ok__law_told W B) (hr.mono (by decide)) (by rfl) W.d__law_told.mg W.d__law_told.fn.kp (W.d__law_told.fn.binds (ps:=["_law_words","_law_way"]) fun _ _ _ _ _ _ us hl=>by obtain ⟨v0,v1,rfl⟩:=L2.ln2 hl;rfl) (by rfl) lands_cx rfl (d_cons (d_v 2) (d_cons (d_mod (d_ix hr.units (d_v 0) d_int) d_int) d_nil)) (hlen:=(consA_len (consA_len (fun _ _ h=>nilA_len h)))))) (d_cons (d_val (d_callO (ok__law_told W B) (hr.mono (by decide)) (by rfl) W.d__law_told.mg W.d__law_told.fn.kp (W.d__law_told.fn.binds (ps:=["_law_words","_law_way"]) fun _ _ _ _ _ _ us hl=>by obtain ⟨v0,v1,rfl⟩:=L2.ln2 hl;rfl) (by rfl) lands_cx rfl (d_cons (d_v 3) (d_cons (d_mod (d_ix hr.units (d_v 0) d_int) d_int) d_nil)) (hlen:=(consA_len (consA_len (fun _ _ h=>nilA_len h)))))) d_nil))) (d_cons (d_v 6) d_nil))))))))))))
def Gb__law_renames:Dst->So:=(seqS (setS 2 fun δ=>(tupD (consA (fun _=>.val (.str "rename")) (consA (bin ixD (gVar 1) (fun _=>.val (.int 0))) (consA (bin ixD (gVar 1) (fun _=>.val (.int 1))) (consA (bin ixD (gVar 1) (fun _=>.val (.int 2))) nilA))))) δ >>= fun d=>.val (.fz d)) (seqS (ifS (fun δ=>asB (DL.bin cmpEq (DL.bin modD (bin ixD (gVar 0) (fun _=>.val (.int 4))) (fun _=>.val (.int 3))) (fun _=>.val (.int 0)) δ)) (retS fun δ=>(lstD (consA (lstD (consA (tupD (consA (fun _=>.val (.str "back")) (consA (tupD (consA (fun _=>.val (.str "rename")) (consA (bin ixD (gVar 1) (fun _=>.val (.int 0))) (consA (bin ixD (gVar 1) (fun _=>.val (.int 2))) (consA (bin ixD (gVar 1) (fun _=>.val (.int 1))) nilA))))) nilA))) nilA)) (consA (lstD (consA (gVar 2) nilA)) nilA))) δ >>= fun d=>.val (.fz d)) nilS) (seqS (setS 3 fun δ=>(tupD (consA (fun _=>.val (.str "rename")) (consA (bin ixD (gVar 1) (fun _=>.val (.int 0))) (consA (bin ixD (gVar 1) (fun _=>.val (.int 1))) (consA (bin ixD (gVar 1) (fun _=>.val (.int 3))) nilA))))) δ >>= fun d=>.val (.fz d)) (seqS (setS 4 fun δ=>(tupD (consA (fun _=>.val (.str "rename")) (consA (bin ixD (gVar 1) (fun _=>.val (.int 0))) (consA (bin ixD (gVar 1) (fun _=>.val (.int 3))) (consA (bin ixD (gVar 1) (fun _=>.val (.int 2))) nilA))))) δ >>= fun d=>.val (.fz d)) (retS fun δ=>(lstD (consA (lstD (consA (fun δ=>(calO F__law_told (consA (gVar 3) (consA (DL.bin modD (bin ixD (gVar 0) (fun _=>.val (.int 4))) (fun _=>.val (.int 4))) nilA))) δ >>= fun x=>.val x.d) (consA (fun δ=>(calO F__law_told (consA (gVar 4) (consA (DL.bin modD (bin ixD (gVar 0) (fun _=>.val (.int 5))) (fun _=>.val (.int 4))) nilA))) δ >>= fun x=>.val x.d) nilA))) (consA (lstD (consA (gVar 2) nilA)) nilA))) δ >>= fun d=>.val (.fz d))))))
def F__law_renames:List D->Res DV:=fnD 5 Gb__law_renames
theorem ok__law_renames (W:Ds K mg xa xi) (B:Bn mg):FnOk P w K mg base (CX1 P w) 2 W.a__law_renames W.f__law_renames ["_law_xs","_law_names_here"] (spD ⟨K,xa,xi⟩ 2 F__law_renames):=by
 have sc:FnScope ["_law_xs","_law_names_here","_law_due","_law_one","_law_other"] ["_law_xs","_law_names_here"] (defScope (top 29)):=⟨rfl,rfl,rfl,by decide +kernel,rfl,by decide +kernel,by decide +kernel⟩
 exact def_ok (N:=["_law_xs","_law_names_here","_law_due","_law_one","_law_other"]) (ps:=["_law_xs","_law_names_here"]) (k:=1) (g:=Gb__law_renames) W.d__law_renames.fn sc fun cdv A outer s H E Hf hr=>(s_cons (s_set (i:=2) sc.nd rfl (by first | exact Or.inl rfl | exact Or.inr rfl) (d_tup (d_cons d_str (d_cons (d_ix hr.units (d_v 1) d_int) (d_cons (d_ix hr.units (d_v 1) d_int) (d_cons (d_ix hr.units (d_v 1) d_int) d_nil)))))) (s_cons (s_if (dt_eq hr.units (d_mod (d_ix hr.units (d_v 0) d_int) d_int) d_int) (s_one (s_ret (d_lst (d_cons (d_lst (d_cons (d_tup (d_cons d_str (d_cons (d_tup (d_cons d_str (d_cons (d_ix hr.units (d_v 1) d_int) (d_cons (d_ix hr.units (d_v 1) d_int) (d_cons (d_ix hr.units (d_v 1) d_int) d_nil))))) d_nil))) d_nil)) (d_cons (d_lst (d_cons (d_v 2) d_nil)) d_nil))))) s_nil) (s_cons (s_set (i:=3) sc.nd rfl (by first | exact Or.inl rfl | exact Or.inr rfl) (d_tup (d_cons d_str (d_cons (d_ix hr.units (d_v 1) d_int) (d_cons (d_ix hr.units (d_v 1) d_int) (d_cons (d_ix hr.units (d_v 1) d_int) d_nil)))))) (s_cons (s_set (i:=4) sc.nd rfl (by first | exact Or.inl rfl | exact Or.inr rfl) (d_tup (d_cons d_str (d_cons (d_ix hr.units (d_v 1) d_int) (d_cons (d_ix hr.units (d_v 1) d_int) (d_cons (d_ix hr.units (d_v 1) d_int) d_nil)))))) (s_one (s_ret (d_lst (d_cons (d_lst (d_cons (d_val (d_callO (ok__law_told W B) (hr.mono (by decide)) (by rfl) W.d__law_told.mg W.d__law_told.fn.kp (W.d__law_told.fn.binds (ps:=["_law_words","_law_way"]) fun _ _ _ _ _ _ us hl=>by obtain ⟨v0,v1,rfl⟩:=L2.ln2 hl;rfl) (by rfl) lands_cx rfl (d_cons (d_v 3) (d_cons (d_mod (d_ix hr.units (d_v 0) d_int) d_int) d_nil)) (hlen:=(consA_len (consA_len (fun _ _ h=>nilA_len h)))))) (d_cons (d_val (d_callO (ok__law_told W B) (hr.mono (by decide)) (by rfl) W.d__law_told.mg W.d__law_told.fn.kp (W.d__law_told.fn.binds (ps:=["_law_words","_law_way"]) fun _ _ _ _ _ _ us hl=>by obtain ⟨v0,v1,rfl⟩:=L2.ln2 hl;rfl) (by rfl) lands_cx rfl (d_cons (d_v 4) (d_cons (d_mod (d_ix hr.units (d_v 0) d_int) d_int) d_nil)) (hlen:=(consA_len (consA_len (fun _ _ h=>nilA_len h)))))) d_nil))) (d_cons (d_lst (d_cons (d_v 2) d_nil)) d_nil)))))))))
def Gb__law_puts:Dst->So:=(seqS (setS 2 fun δ=>(fun δ=>(calO F__law_move (consA (gVar 0) (consA (gVar 1) (consA (fun _=>.val (.int 0)) nilA)))) δ >>= fun x=>.val x.d) δ >>= fun d=>.val (.fz d)) (seqS (setS 3 fun δ=>(tupD (consA (fun _=>.val (.str "put")) (consA (bin ixD (gVar 1) (fun _=>.val (.int 0))) (consA (bin ixD (gVar 1) (fun _=>.val (.int 2))) (consA (bin ixD (gVar 2) (fun _=>.val (.int 3))) (consA (bin ixD (gVar 2) (fun _=>.val (.int 4))) nilA)))))) δ >>= fun d=>.val (.fz d)) (seqS (ifS (fun δ=>asB (DL.bin cmpEq (DL.bin modD (bin ixD (gVar 0) (fun _=>.val (.int 4))) (fun _=>.val (.int 2))) (fun _=>.val (.int 0)) δ)) (retS fun δ=>(lstD (consA (lstD (consA (gVar 3) (consA (tupD (consA (fun _=>.val (.str "rename")) (consA (bin ixD (gVar 1) (fun _=>.val (.int 0))) (consA (bin ixD (gVar 1) (fun _=>.val (.int 2))) (consA (bin ixD (gVar 1) (fun _=>.val (.int 1))) nilA))))) nilA))) (consA (lstD (consA (gVar 2) nilA)) nilA))) δ >>= fun d=>.val (.fz d)) nilS) (retS fun δ=>(lstD (consA (lstD (consA (tupD (consA (fun _=>.val (.str "rename")) (consA (bin ixD (gVar 1) (fun _=>.val (.int 0))) (consA (bin ixD (gVar 1) (fun _=>.val (.int 1))) (consA (bin ixD (gVar 1) (fun _=>.val (.int 2))) nilA))))) (consA (tupD (consA (fun _=>.val (.str "back")) (consA (gVar 3) nilA))) nilA))) (consA (lstD (consA (tupD (consA (fun _=>.val (.str "back")) (consA (gVar 2) nilA))) nilA)) nilA))) δ >>= fun d=>.val (.fz d)))))
def F__law_puts:List D->Res DV:=fnD 4 Gb__law_puts
theorem ok__law_puts (W:Ds K mg xa xi) (B:Bn mg):FnOk P w K mg base (CX1 P w) 2 W.a__law_puts W.f__law_puts ["_law_xs","_law_names_here"] (spD ⟨K,xa,xi⟩ 2 F__law_puts):=by
 have sc:FnScope ["_law_xs","_law_names_here","_law_due","_law_away"] ["_law_xs","_law_names_here"] (defScope (top 30)):=⟨rfl,rfl,rfl,by decide +kernel,rfl,by decide +kernel,by decide +kernel⟩
 exact def_ok (N:=["_law_xs","_law_names_here","_law_due","_law_away"]) (ps:=["_law_xs","_law_names_here"]) (k:=1) (g:=Gb__law_puts) W.d__law_puts.fn sc fun cdv A outer s H E Hf hr=>(s_cons (s_set (i:=2) sc.nd rfl (by first | exact Or.inl rfl | exact Or.inr rfl) (d_val (d_callO (ok__law_move W B) (hr.mono (by decide)) (by rfl) W.d__law_move.mg W.d__law_move.fn.kp (W.d__law_move.fn.binds (ps:=["_law_xs","_law_names_here","_law_way"]) fun _ _ _ _ _ _ us hl=>by obtain ⟨v0,v1,v2,rfl⟩:=L2.ln3 hl;rfl) (by rfl) lands_cx rfl (d_cons (d_v 0) (d_cons (d_v 1) (d_cons d_int d_nil))) (hlen:=(consA_len (consA_len (consA_len (fun _ _ h=>nilA_len h)))))))) (s_cons (s_set (i:=3) sc.nd rfl (by first | exact Or.inl rfl | exact Or.inr rfl) (d_tup (d_cons d_str (d_cons (d_ix hr.units (d_v 1) d_int) (d_cons (d_ix hr.units (d_v 1) d_int) (d_cons (d_ix hr.units (d_v 2) d_int) (d_cons (d_ix hr.units (d_v 2) d_int) d_nil))))))) (s_cons (s_if (dt_eq hr.units (d_mod (d_ix hr.units (d_v 0) d_int) d_int) d_int) (s_one (s_ret (d_lst (d_cons (d_lst (d_cons (d_v 3) (d_cons (d_tup (d_cons d_str (d_cons (d_ix hr.units (d_v 1) d_int) (d_cons (d_ix hr.units (d_v 1) d_int) (d_cons (d_ix hr.units (d_v 1) d_int) d_nil))))) d_nil))) (d_cons (d_lst (d_cons (d_v 2) d_nil)) d_nil))))) s_nil) (s_one (s_ret (d_lst (d_cons (d_lst (d_cons (d_tup (d_cons d_str (d_cons (d_ix hr.units (d_v 1) d_int) (d_cons (d_ix hr.units (d_v 1) d_int) (d_cons (d_ix hr.units (d_v 1) d_int) d_nil))))) (d_cons (d_tup (d_cons d_str (d_cons (d_v 3) d_nil))) d_nil))) (d_cons (d_lst (d_cons (d_tup (d_cons d_str (d_cons (d_v 2) d_nil))) d_nil)) d_nil))))))))
def Gb__law_unlike:Dst->So:=(seqS (asgS (sliceY (gVar 1) (fun _=>.val none) (fun δ=>asI ((fun _=>.val (.int 2)) δ))) (bTupL 2 (bCons (bName 2) (bCons (bName 3) bNil)))) (seqS (setS 4 fun δ=>(DL.bin modD (bin ixD (gVar 0) (fun _=>.val (.int 5))) (fun _=>.val (.int 7))) δ >>= fun d=>.val (.fz d)) (seqS (ifS (fun δ=>asB (DL.bin cmpEq (gVar 4) (fun _=>.val (.int 0)) δ)) (retS fun δ=>(lstD (consA (tupD (consA (fun _=>.val (.str "cap")) (consA (gVar 2) (consA (gVar 3) (consA (DL.bin modD (bin ixD (gVar 0) (fun _=>.val (.int 1))) (fun _=>.val (.int 9))) nilA))))) (consA (tupD (consA (fun _=>.val (.str "cap")) (consA (gVar 2) (consA (gVar 3) (consA (DL.bin addX (DL.bin addX (DL.bin modD (bin ixD (gVar 0) (fun _=>.val (.int 1))) (fun _=>.val (.int 9))) (fun _=>.val (.int 1))) (DL.bin modD (bin ixD (gVar 0) (fun _=>.val (.int 2))) (fun _=>.val (.int 9)))) nilA))))) nilA))) δ >>= fun d=>.val (.fz d)) nilS) (seqS (ifS (fun δ=>asB (DL.bin cmpEq (gVar 4) (fun _=>.val (.int 1)) δ)) (seqS (setS 5 fun δ=>(tupD (consA (fun _=>.val (.str "part")) (consA (gVar 2) (consA (gVar 3) (consA (bin ixD (gVar 1) (fun _=>.val (.int 2))) (consA (bin ixD (gVar 1) (fun _=>.val (.int 3))) (consA (DL.bin addX (fun _=>.val (.int 1)) (DL.bin modD (bin ixD (gVar 0) (fun _=>.val (.int 1))) (fun _=>.val (.int 9)))) nilA))))))) δ >>= fun d=>.val (.fz d)) (retS fun δ=>(lstD (consA (gVar 5) (consA (DL.bin addX (sliceY (gVar 5) (fun _=>.val none) (fun δ=>asI ((fun _=>.val (.int 5)) δ))) (tupD (consA (DL.bin addX (DL.bin addX (bin ixD (gVar 5) (fun _=>.val (.int 5))) (fun _=>.val (.int 1))) (DL.bin modD (bin ixD (gVar 0) (fun _=>.val (.int 2))) (fun _=>.val (.int 9)))) nilA))) nilA))) δ >>= fun d=>.val (.fz d))) nilS) (seqS (ifS (fun δ=>asB (DL.bin cmpEq (gVar 4) (fun _=>.val (.int 2)) δ)) (seqS (setS 5 fun δ=>(tupD (consA (fun _=>.val (.str "part")) (consA (gVar 2) (consA (gVar 3) (consA (bin ixD (gVar 1) (fun _=>.val (.int 2))) (consA (bin ixD (gVar 1) (fun _=>.val (.int 3))) (consA (DL.bin addX (fun _=>.val (.int 1)) (DL.bin modD (bin ixD (gVar 0) (fun _=>.val (.int 1))) (fun _=>.val (.int 9)))) nilA))))))) δ >>= fun d=>.val (.fz d)) (retS fun δ=>(lstD (consA (gVar 5) (consA (tupD (consA (fun _=>.val (.str "part")) (consA (gVar 2) (consA (gVar 3) (consA (bin ixD (gVar 1) (fun _=>.val (.int 3))) (consA (bin ixD (gVar 1) (fun _=>.val (.int 2))) (consA (bin ixD (gVar 5) (fun _=>.val (.int 5))) nilA))))))) nilA))) δ >>= fun d=>.val (.fz d))) nilS) (seqS (ifS (fun δ=>asB (DL.bin cmpEq (gVar 4) (fun _=>.val (.int 3)) δ)) (retS fun δ=>(lstD (consA (tupD (consA (fun _=>.val (.str "split")) (consA (gVar 2) (consA (gVar 3) (consA (bin ixD (fun _=>.val (.str ",;- ")) (DL.bin modD (bin ixD (gVar 0) (fun _=>.val (.int 1))) (fun _=>.val (.int 4)))) nilA))))) (consA (tupD (consA (fun _=>.val (.str "split")) (consA (gVar 2) (consA (gVar 3) (consA (bin ixD (fun _=>.val (.str ",;- ")) (DL.bin modD (DL.bin addX (bin ixD (gVar 0) (fun _=>.val (.int 1))) (fun _=>.val (.int 1))) (fun _=>.val (.int 4)))) nilA))))) nilA))) δ >>= fun d=>.val (.fz d)) nilS) (seqS (ifS (fun δ=>asB (DL.bin cmpEq (gVar 4) (fun _=>.val (.int 4)) δ)) (retS fun δ=>(lstD (consA (tupD (consA (fun _=>.val (.str "rows")) (consA (gVar 2) (consA (gVar 3) nilA)))) (consA (tupD (consA (fun _=>.val (.str "rows")) (consA (gVar 2) (consA (bin ixD (gVar 1) (DL.bin addX (fun _=>.val (.int 2)) (DL.bin modD (bin ixD (gVar 0) (fun _=>.val (.int 1))) (fun _=>.val (.int 2))))) nilA)))) nilA))) δ >>= fun d=>.val (.fz d)) nilS) (seqS (ifS (fun δ=>asB (DL.bin cmpEq (gVar 4) (fun _=>.val (.int 5)) δ)) (retS fun δ=>(lstD (consA (tupD (consA (fun _=>.val (.str "cleave")) (consA (gVar 2) (consA (calN tupOf (consA (sliceY (gVar 1) (fun δ=>asI ((fun _=>.val (.int 1)) δ)) (fun δ=>asI ((fun _=>.val (.int 3)) δ))) nilA)) nilA)))) (consA (tupD (consA (fun _=>.val (.str "cleave")) (consA (gVar 2) (consA (calN tupOf (consA (sliceY (gVar 1) (fun δ=>asI ((fun _=>.val (.int 1)) δ)) (fun δ=>asI ((DL.bin addX (fun _=>.val (.int 2)) (DL.bin mulD (fun _=>.val (.int 2)) (DL.bin modD (bin ixD (gVar 0) (fun _=>.val (.int 1))) (fun _=>.val (.int 2))))) δ))) nilA)) nilA)))) nilA))) δ >>= fun d=>.val (.fz d)) nilS) (seqS (setS 6 fun δ=>(bin ixD (lstD (consA (tupD (consA (fun _=>.val (.str "whole")) nilA)) (consA (tupD (consA (fun _=>.val (.str "upto")) (consA (fun _=>.val (.int 9)) nilA))) nilA))) (DL.bin modD (bin ixD (gVar 0) (fun _=>.val (.int 1))) (fun _=>.val (.int 2)))) δ >>= fun d=>.val (.fz d)) (retS fun δ=>(lstD (consA (tupD (consA (fun _=>.val (.str "put")) (consA (gVar 2) (consA (gVar 3) (consA (tupD (consA (fun _=>.val (.str "whole")) nilA)) (consA (DL.bin modD (bin ixD (gVar 0) (fun _=>.val (.int 2))) (fun _=>.val (.int 9))) nilA)))))) (consA (tupD (consA (fun _=>.val (.str "put")) (consA (gVar 2) (consA (gVar 3) (consA (gVar 6) (consA (DL.bin subD (DL.bin modD (bin ixD (gVar 0) (fun _=>.val (.int 2))) (fun _=>.val (.int 9))) (fun _=>.val (.int 1))) nilA)))))) nilA))) δ >>= fun d=>.val (.fz d)))))))))))
def F__law_unlike:List D->Res DV:=fnD 7 Gb__law_unlike
theorem ok__law_unlike (W:Ds K mg xa xi) (B:Bn mg):FnOk P w K mg base (CX1 P w) 1 W.a__law_unlike W.f__law_unlike ["_law_xs","_law_names_here"] (spD ⟨K,xa,xi⟩ 2 F__law_unlike):=by
 have sc:FnScope ["_law_xs","_law_names_here","_law_table","_law_column","_law_way","_law_one","_law_kind"] ["_law_xs","_law_names_here"] (defScope (top 31)):=⟨rfl,rfl,rfl,by decide +kernel,rfl,by decide +kernel,by decide +kernel⟩
 exact def_ok (N:=["_law_xs","_law_names_here","_law_table","_law_column","_law_way","_law_one","_law_kind"]) (ps:=["_law_xs","_law_names_here"]) (k:=0) (g:=Gb__law_unlike) W.d__law_unlike.fn sc fun cdv A outer s H E Hf hr=>(s_cons (s_asg (d_sliceX (d_v 1) d_pn (d_ps d_int)) (g_tupX rfl (g_cons (g_name (i:=2) sc.nd rfl (by first | exact Or.inl rfl | exact Or.inr rfl)) (g_cons (g_name (i:=3) sc.nd rfl (by first | exact Or.inl rfl | exact Or.inr rfl)) g_nil)))) (s_cons (s_set (i:=4) sc.nd rfl (by first | exact Or.inl rfl | exact Or.inr rfl) (d_mod (d_ix hr.units (d_v 0) d_int) d_int)) (s_cons (s_if (dt_eq hr.units (d_v 4) d_int) (s_one (s_ret (d_lst (d_cons (d_tup (d_cons d_str (d_cons (d_v 2) (d_cons (d_v 3) (d_cons (d_mod (d_ix hr.units (d_v 0) d_int) d_int) d_nil))))) (d_cons (d_tup (d_cons d_str (d_cons (d_v 2) (d_cons (d_v 3) (d_cons (d_addX rfl (d_addX rfl (d_mod (d_ix hr.units (d_v 0) d_int) d_int) d_int) (d_mod (d_ix hr.units (d_v 0) d_int) d_int)) d_nil))))) d_nil))))) s_nil) (s_cons (s_if (dt_eq hr.units (d_v 4) d_int) (s_cons (s_set (i:=5) sc.nd rfl (by first | exact Or.inl rfl | exact Or.inr rfl) (d_tup (d_cons d_str (d_cons (d_v 2) (d_cons (d_v 3) (d_cons (d_ix hr.units (d_v 1) d_int) (d_cons (d_ix hr.units (d_v 1) d_int) (d_cons (d_addX rfl d_int (d_mod (d_ix hr.units (d_v 0) d_int) d_int)) d_nil)))))))) (s_one (s_ret (d_lst (d_cons (d_v 5) (d_cons (d_addX rfl (d_sliceX (d_v 5) d_pn (d_ps d_int)) (d_tup (d_cons (d_addX rfl (d_addX rfl (d_ix hr.units (d_v 5) d_int) d_int) (d_mod (d_ix hr.units (d_v 0) d_int) d_int)) d_nil))) d_nil)))))) s_nil) (s_cons (s_if (dt_eq hr.units (d_v 4) d_int) (s_cons (s_set (i:=5) sc.nd rfl (by first | exact Or.inl rfl | exact Or.inr rfl) (d_tup (d_cons d_str (d_cons (d_v 2) (d_cons (d_v 3) (d_cons (d_ix hr.units (d_v 1) d_int) (d_cons (d_ix hr.units (d_v 1) d_int) (d_cons (d_addX rfl d_int (d_mod (d_ix hr.units (d_v 0) d_int) d_int)) d_nil)))))))) (s_one (s_ret (d_lst (d_cons (d_v 5) (d_cons (d_tup (d_cons d_str (d_cons (d_v 2) (d_cons (d_v 3) (d_cons (d_ix hr.units (d_v 1) d_int) (d_cons (d_ix hr.units (d_v 1) d_int) (d_cons (d_ix hr.units (d_v 5) d_int) d_nil))))))) d_nil)))))) s_nil) (s_cons (s_if (dt_eq hr.units (d_v 4) d_int) (s_one (s_ret (d_lst (d_cons (d_tup (d_cons d_str (d_cons (d_v 2) (d_cons (d_v 3) (d_cons (d_ix hr.units d_str (d_mod (d_ix hr.units (d_v 0) d_int) d_int)) d_nil))))) (d_cons (d_tup (d_cons d_str (d_cons (d_v 2) (d_cons (d_v 3) (d_cons (d_ix hr.units d_str (d_mod (d_addX rfl (d_ix hr.units (d_v 0) d_int) d_int) d_int)) d_nil))))) d_nil))))) s_nil) (s_cons (s_if (dt_eq hr.units (d_v 4) d_int) (s_one (s_ret (d_lst (d_cons (d_tup (d_cons d_str (d_cons (d_v 2) (d_cons (d_v 3) d_nil)))) (d_cons (d_tup (d_cons d_str (d_cons (d_v 2) (d_cons (d_ix hr.units (d_v 1) (d_addX rfl d_int (d_mod (d_ix hr.units (d_v 0) d_int) d_int))) d_nil)))) d_nil))))) s_nil) (s_cons (s_if (dt_eq hr.units (d_v 4) d_int) (s_one (s_ret (d_lst (d_cons (d_tup (d_cons d_str (d_cons (d_v 2) (d_cons (d_callTy call_tuple_of (fit_tupOf rfl) (by rfl) B.tuple My.boot_tuple (d_cons (d_sliceX (d_v 1) (d_ps d_int) (d_ps d_int)) d_nil)) d_nil)))) (d_cons (d_tup (d_cons d_str (d_cons (d_v 2) (d_cons (d_callTy call_tuple_of (fit_tupOf rfl) (by rfl) B.tuple My.boot_tuple (d_cons (d_sliceX (d_v 1) (d_ps d_int) (d_ps (d_addX rfl d_int (d_mul d_int (d_mod (d_ix hr.units (d_v 0) d_int) d_int))))) d_nil)) d_nil)))) d_nil))))) s_nil) (s_cons (s_set (i:=6) sc.nd rfl (by first | exact Or.inl rfl | exact Or.inr rfl) (d_ix hr.units (d_lst (d_cons (d_tup (d_cons d_str d_nil)) (d_cons (d_tup (d_cons d_str (d_cons d_int d_nil))) d_nil))) (d_mod (d_ix hr.units (d_v 0) d_int) d_int))) (s_one (s_ret (d_lst (d_cons (d_tup (d_cons d_str (d_cons (d_v 2) (d_cons (d_v 3) (d_cons (d_tup (d_cons d_str d_nil)) (d_cons (d_mod (d_ix hr.units (d_v 0) d_int) d_int) d_nil)))))) (d_cons (d_tup (d_cons d_str (d_cons (d_v 2) (d_cons (d_v 3) (d_cons (d_v 6) (d_cons (d_sub (d_mod (d_ix hr.units (d_v 0) d_int) d_int) d_int) d_nil)))))) d_nil))))))))))))))
noncomputable def Gb__law_element:Dst->So:=(seqS (setS 3 fun δ=>(DL.bin modD (bin ixD (gVar 0) (fun _=>.val (.int 0))) (fun _=>.val (.int 14))) δ >>= fun d=>.val (.fz d)) (seqS (ifS (fun δ=>asB (DL.bin gtD (gVar 3) (fun _=>.val (.int 11)) δ)) (seqS (asgS (fun δ=>(calO F__law_unlike (consA (gVar 0) (consA (gVar 1) nilA))) δ >>= fun x=>.val x.d) (bTupL 2 (bCons (bName 4) (bCons (bName 5) bNil)))) (seqS (setS 6 fun δ=>(bin ixD (lstD (consA (lstD (consA (tupD (consA (fun _=>.val (.str "back")) (consA (gVar 4) nilA))) (consA (gVar 5) nilA))) (consA (lstD (consA (gVar 4) (consA (tupD (consA (fun _=>.val (.str "back")) (consA (gVar 5) nilA))) nilA))) nilA))) (DL.bin modD (bin ixD (gVar 0) (fun _=>.val (.int 4))) (fun _=>.val (.int 2)))) δ >>= fun d=>.val (.fz d)) (retS fun δ=>(lstD (consA (gVar 6) (consA (calN listOf (consA (gVar 6) nilA)) nilA))) δ >>= fun d=>.val (.fz d)))) nilS) (seqS (ifS (fun δ=>asB (DL.bin ltD (gVar 3) (fun _=>.val (.int 5)) δ)) (seqS (setS 6 fun δ=>(fun δ=>(calO F__law_move (consA (gVar 0) (consA (gVar 1) (consA (gVar 3) nilA)))) δ >>= fun x=>.val x.d) δ >>= fun d=>.val (.fz d)) (retS fun δ=>(lstD (consA (lstD (consA (fun δ=>(calO F__law_told (consA (gVar 6) (consA (DL.bin modD (bin ixD (gVar 0) (fun _=>.val (.int 4))) (fun _=>.val (.int 4))) nilA))) δ >>= fun x=>.val x.d) nilA)) (consA (lstD (consA (gVar 6) nilA)) nilA))) δ >>= fun d=>.val (.fz d))) nilS) (seqS (ifS (fun δ=>asB (DL.bin cmpEq (gVar 3) (fun _=>.val (.int 5)) δ)) (seqS (setS 6 fun δ=>(tupD (consA (fun _=>.val (.str "back")) (consA (fun δ=>(calO F__law_move (consA (gVar 0) (consA (gVar 1) (consA (DL.bin modD (bin ixD (gVar 0) (fun _=>.val (.int 5))) (fun _=>.val (.int 6))) nilA)))) δ >>= fun x=>.val x.d) nilA))) δ >>= fun d=>.val (.fz d)) (retS fun δ=>(lstD (consA (lstD (consA (fun δ=>(calO F__law_told (consA (gVar 6) (consA (DL.bin modD (bin ixD (gVar 0) (fun _=>.val (.int 4))) (fun _=>.val (.int 4))) nilA))) δ >>= fun x=>.val x.d) nilA)) (consA (lstD (consA (gVar 6) nilA)) nilA))) δ >>= fun d=>.val (.fz d))) nilS) (seqS (ifS (fun δ=>asB (DL.bin cmpEq (gVar 3) (fun _=>.val (.int 6)) δ)) (seqS (setS 6 fun δ=>(fun δ=>(calO F__law_move (consA (gVar 0) (consA (gVar 1) (consA (fun _=>.val (.int 5)) nilA)))) δ >>= fun x=>.val x.d) δ >>= fun d=>.val (.fz d)) (retS fun δ=>(lstD (consA (lstD (consA (gVar 6) (consA (tupD (consA (fun _=>.val (.str "back")) (consA (gVar 6) nilA))) nilA))) (consA (lstD (consA (gVar 6) (consA (tupD (consA (fun _=>.val (.str "back")) (consA (gVar 6) nilA))) nilA))) nilA))) δ >>= fun d=>.val (.fz d))) nilS) (seqS (ifS (fun δ=>asB (DL.bin cmpEq (gVar 3) (fun _=>.val (.int 7)) δ)) (seqS (setS 6 fun δ=>(fun δ=>(calO F__law_move (consA (gVar 0) (consA (gVar 1) (consA (fun _=>.val (.int 0)) nilA)))) δ >>= fun x=>.val x.d) δ >>= fun d=>.val (.fz d)) (retS fun δ=>(lstD (consA (lstD (consA (tupD (consA (fun _=>.val (.str "back")) (consA (gVar 6) nilA))) (consA (gVar 6) nilA))) (consA (lstD (consA (tupD (consA (fun _=>.val (.str "back")) (consA (gVar 6) nilA))) (consA (gVar 6) nilA))) nilA))) δ >>= fun d=>.val (.fz d))) nilS) (seqS (ifS (fun δ=>asB (DL.bin cmpEq (gVar 3) (fun _=>.val (.int 8)) δ)) (retS fun δ=>(fun δ=>(calO F__law_shifts (consA (gVar 0) (consA (gVar 1) nilA))) δ >>= fun x=>.val x.d) δ >>= fun d=>.val (.fz d)) nilS) (seqS (ifS (fun δ=>asB (DL.bin cmpEq (gVar 3) (fun _=>.val (.int 9)) δ)) (retS fun δ=>(fun δ=>(calO F__law_renames (consA (gVar 0) (consA (gVar 1) nilA))) δ >>= fun x=>.val x.d) δ >>= fun d=>.val (.fz d)) nilS) (seqS (ifS (fun δ=>asB (DL.bin cmpEq (gVar 3) (fun _=>.val (.int 10)) δ)) (retS fun δ=>(fun δ=>(calO F__law_puts (consA (gVar 0) (consA (gVar 1) nilA))) δ >>= fun x=>.val x.d) δ >>= fun d=>.val (.fz d)) nilS) (seqS (setS 4 fun δ=>(fun δ=>(calO F__law_renumber (consA (bin ixD (gVar 0) (fun _=>.val (.int 1))) (consA (bin ixD (gVar 0) (fun _=>.val (.int 2))) (consA (gVar 2) nilA)))) δ >>= fun x=>.val x.d) δ >>= fun d=>.val (.fz d)) (seqS (setS 5 fun δ=>(fun δ=>(calO F__law_renumber (consA (bin ixD (gVar 0) (fun _=>.val (.int 3))) (consA (bin ixD (gVar 0) (fun _=>.val (.int 5))) (consA (gVar 2) nilA)))) δ >>= fun x=>.val x.d) δ >>= fun d=>.val (.fz d)) (retS fun δ=>(lstD (consA (lstD (consA (fun δ=>(calO F__law_told (consA (gVar 4) (consA (DL.bin modD (bin ixD (gVar 0) (fun _=>.val (.int 4))) (fun _=>.val (.int 4))) nilA))) δ >>= fun x=>.val x.d) (consA (gVar 5) nilA))) (consA (fun δ=>(calO F__law_both (consA (gVar 4) (consA (gVar 5) nilA))) δ >>= fun x=>.val x.d) nilA))) δ >>= fun d=>.val (.fz d)))))))))))))
noncomputable def F__law_element:List D->Res DV:=fnD 7 Gb__law_element
theorem ok__law_element (W:Ds K mg xa xi) (B:Bn mg):FnOk P w K mg base (CX1 P w) 3 W.a__law_element W.f__law_element ["_law_xs","_law_names_here","_law_size"] (spD ⟨K,xa,xi⟩ 3 F__law_element):=by
 have sc:FnScope ["_law_xs","_law_names_here","_law_size","_law_way","_law_one","_law_other","_law_words"] ["_law_xs","_law_names_here","_law_size"] (defScope (top 32)):=⟨rfl,rfl,rfl,by decide +kernel,rfl,by decide +kernel,by decide +kernel⟩
 exact def_ok (N:=["_law_xs","_law_names_here","_law_size","_law_way","_law_one","_law_other","_law_words"]) (ps:=["_law_xs","_law_names_here","_law_size"]) (k:=2) (g:=Gb__law_element) W.d__law_element.fn sc fun cdv A outer s H E Hf hr=>(s_cons (s_set (i:=3) sc.nd rfl (by first | exact Or.inl rfl | exact Or.inr rfl) (d_mod (d_ix hr.units (d_v 0) d_int) d_int)) (s_cons (s_if (dt_gt (d_v 3) d_int) (s_cons (s_asg (d_val (d_callO (ok__law_unlike W B) (hr.mono (by decide)) (by rfl) W.d__law_unlike.mg W.d__law_unlike.fn.kp (W.d__law_unlike.fn.binds (ps:=["_law_xs","_law_names_here"]) fun _ _ _ _ _ _ us hl=>by obtain ⟨v0,v1,rfl⟩:=L2.ln2 hl;rfl) (by rfl) lands_cx rfl (d_cons (d_v 0) (d_cons (d_v 1) d_nil)) (hlen:=(consA_len (consA_len (fun _ _ h=>nilA_len h)))))) (g_tupX rfl (g_cons (g_name (i:=4) sc.nd rfl (by first | exact Or.inl rfl | exact Or.inr rfl)) (g_cons (g_name (i:=5) sc.nd rfl (by first | exact Or.inl rfl | exact Or.inr rfl)) g_nil)))) (s_cons (s_set (i:=6) sc.nd rfl (by first | exact Or.inl rfl | exact Or.inr rfl) (d_ix hr.units (d_lst (d_cons (d_lst (d_cons (d_tup (d_cons d_str (d_cons (d_v 4) d_nil))) (d_cons (d_v 5) d_nil))) (d_cons (d_lst (d_cons (d_v 4) (d_cons (d_tup (d_cons d_str (d_cons (d_v 5) d_nil))) d_nil))) d_nil))) (d_mod (d_ix hr.units (d_v 0) d_int) d_int))) (s_one (s_ret (d_lst (d_cons (d_v 6) (d_cons (d_callTy call_list_of (fit_listOf rfl) (by rfl) B.list My.boot_list (d_cons (d_v 6) d_nil)) d_nil))))))) s_nil) (s_cons (s_if (dt_lt (d_v 3) d_int) (s_cons (s_set (i:=6) sc.nd rfl (by first | exact Or.inl rfl | exact Or.inr rfl) (d_val (d_callO (ok__law_move W B) (hr.mono (by decide)) (by rfl) W.d__law_move.mg W.d__law_move.fn.kp (W.d__law_move.fn.binds (ps:=["_law_xs","_law_names_here","_law_way"]) fun _ _ _ _ _ _ us hl=>by obtain ⟨v0,v1,v2,rfl⟩:=L2.ln3 hl;rfl) (by rfl) lands_cx rfl (d_cons (d_v 0) (d_cons (d_v 1) (d_cons (d_v 3) d_nil))) (hlen:=(consA_len (consA_len (consA_len (fun _ _ h=>nilA_len h)))))))) (s_one (s_ret (d_lst (d_cons (d_lst (d_cons (d_val (d_callO (ok__law_told W B) (hr.mono (by decide)) (by rfl) W.d__law_told.mg W.d__law_told.fn.kp (W.d__law_told.fn.binds (ps:=["_law_words","_law_way"]) fun _ _ _ _ _ _ us hl=>by obtain ⟨v0,v1,rfl⟩:=L2.ln2 hl;rfl) (by rfl) lands_cx rfl (d_cons (d_v 6) (d_cons (d_mod (d_ix hr.units (d_v 0) d_int) d_int) d_nil)) (hlen:=(consA_len (consA_len (fun _ _ h=>nilA_len h)))))) d_nil)) (d_cons (d_lst (d_cons (d_v 6) d_nil)) d_nil)))))) s_nil) (s_cons (s_if (dt_eq hr.units (d_v 3) d_int) (s_cons (s_set (i:=6) sc.nd rfl (by first | exact Or.inl rfl | exact Or.inr rfl) (d_tup (d_cons d_str (d_cons (d_val (d_callO (ok__law_move W B) (hr.mono (by decide)) (by rfl) W.d__law_move.mg W.d__law_move.fn.kp (W.d__law_move.fn.binds (ps:=["_law_xs","_law_names_here","_law_way"]) fun _ _ _ _ _ _ us hl=>by obtain ⟨v0,v1,v2,rfl⟩:=L2.ln3 hl;rfl) (by rfl) lands_cx rfl (d_cons (d_v 0) (d_cons (d_v 1) (d_cons (d_mod (d_ix hr.units (d_v 0) d_int) d_int) d_nil))) (hlen:=(consA_len (consA_len (consA_len (fun _ _ h=>nilA_len h))))))) d_nil)))) (s_one (s_ret (d_lst (d_cons (d_lst (d_cons (d_val (d_callO (ok__law_told W B) (hr.mono (by decide)) (by rfl) W.d__law_told.mg W.d__law_told.fn.kp (W.d__law_told.fn.binds (ps:=["_law_words","_law_way"]) fun _ _ _ _ _ _ us hl=>by obtain ⟨v0,v1,rfl⟩:=L2.ln2 hl;rfl) (by rfl) lands_cx rfl (d_cons (d_v 6) (d_cons (d_mod (d_ix hr.units (d_v 0) d_int) d_int) d_nil)) (hlen:=(consA_len (consA_len (fun _ _ h=>nilA_len h)))))) d_nil)) (d_cons (d_lst (d_cons (d_v 6) d_nil)) d_nil)))))) s_nil) (s_cons (s_if (dt_eq hr.units (d_v 3) d_int) (s_cons (s_set (i:=6) sc.nd rfl (by first | exact Or.inl rfl | exact Or.inr rfl) (d_val (d_callO (ok__law_move W B) (hr.mono (by decide)) (by rfl) W.d__law_move.mg W.d__law_move.fn.kp (W.d__law_move.fn.binds (ps:=["_law_xs","_law_names_here","_law_way"]) fun _ _ _ _ _ _ us hl=>by obtain ⟨v0,v1,v2,rfl⟩:=L2.ln3 hl;rfl) (by rfl) lands_cx rfl (d_cons (d_v 0) (d_cons (d_v 1) (d_cons d_int d_nil))) (hlen:=(consA_len (consA_len (consA_len (fun _ _ h=>nilA_len h)))))))) (s_one (s_ret (d_lst (d_cons (d_lst (d_cons (d_v 6) (d_cons (d_tup (d_cons d_str (d_cons (d_v 6) d_nil))) d_nil))) (d_cons (d_lst (d_cons (d_v 6) (d_cons (d_tup (d_cons d_str (d_cons (d_v 6) d_nil))) d_nil))) d_nil)))))) s_nil) (s_cons (s_if (dt_eq hr.units (d_v 3) d_int) (s_cons (s_set (i:=6) sc.nd rfl (by first | exact Or.inl rfl | exact Or.inr rfl) (d_val (d_callO (ok__law_move W B) (hr.mono (by decide)) (by rfl) W.d__law_move.mg W.d__law_move.fn.kp (W.d__law_move.fn.binds (ps:=["_law_xs","_law_names_here","_law_way"]) fun _ _ _ _ _ _ us hl=>by obtain ⟨v0,v1,v2,rfl⟩:=L2.ln3 hl;rfl) (by rfl) lands_cx rfl (d_cons (d_v 0) (d_cons (d_v 1) (d_cons d_int d_nil))) (hlen:=(consA_len (consA_len (consA_len (fun _ _ h=>nilA_len h)))))))) (s_one (s_ret (d_lst (d_cons (d_lst (d_cons (d_tup (d_cons d_str (d_cons (d_v 6) d_nil))) (d_cons (d_v 6) d_nil))) (d_cons (d_lst (d_cons (d_tup (d_cons d_str (d_cons (d_v 6) d_nil))) (d_cons (d_v 6) d_nil))) d_nil)))))) s_nil) (s_cons (s_if (dt_eq hr.units (d_v 3) d_int) (s_one (s_ret (d_val (d_callO (ok__law_shifts W B) (hr.mono (by decide)) (by rfl) W.d__law_shifts.mg W.d__law_shifts.fn.kp (W.d__law_shifts.fn.binds (ps:=["_law_xs","_law_names_here"]) fun _ _ _ _ _ _ us hl=>by obtain ⟨v0,v1,rfl⟩:=L2.ln2 hl;rfl) (by rfl) lands_cx rfl (d_cons (d_v 0) (d_cons (d_v 1) d_nil)) (hlen:=(consA_len (consA_len (fun _ _ h=>nilA_len h)))))))) s_nil) (s_cons (s_if (dt_eq hr.units (d_v 3) d_int) (s_one (s_ret (d_val (d_callO (ok__law_renames W B) (hr.mono (by decide)) (by rfl) W.d__law_renames.mg W.d__law_renames.fn.kp (W.d__law_renames.fn.binds (ps:=["_law_xs","_law_names_here"]) fun _ _ _ _ _ _ us hl=>by obtain ⟨v0,v1,rfl⟩:=L2.ln2 hl;rfl) (by rfl) lands_cx rfl (d_cons (d_v 0) (d_cons (d_v 1) d_nil)) (hlen:=(consA_len (consA_len (fun _ _ h=>nilA_len h)))))))) s_nil) (s_cons (s_if (dt_eq hr.units (d_v 3) d_int) (s_one (s_ret (d_val (d_callO (ok__law_puts W B) (hr.mono (by decide)) (by rfl) W.d__law_puts.mg W.d__law_puts.fn.kp (W.d__law_puts.fn.binds (ps:=["_law_xs","_law_names_here"]) fun _ _ _ _ _ _ us hl=>by obtain ⟨v0,v1,rfl⟩:=L2.ln2 hl;rfl) (by rfl) lands_cx rfl (d_cons (d_v 0) (d_cons (d_v 1) d_nil)) (hlen:=(consA_len (consA_len (fun _ _ h=>nilA_len h)))))))) s_nil) (s_cons (s_set (i:=4) sc.nd rfl (by first | exact Or.inl rfl | exact Or.inr rfl) (d_val (d_callO (ok__law_renumber W B) (hr.mono (by decide)) (by rfl) W.d__law_renumber.mg W.d__law_renumber.fn.kp (W.d__law_renumber.fn.binds (ps:=["_law_number","_law_plus","_law_size"]) fun _ _ _ _ _ _ us hl=>by obtain ⟨v0,v1,v2,rfl⟩:=L2.ln3 hl;rfl) (by rfl) lands_cx rfl (d_cons (d_ix hr.units (d_v 0) d_int) (d_cons (d_ix hr.units (d_v 0) d_int) (d_cons (d_v 2) d_nil))) (hlen:=(consA_len (consA_len (consA_len (fun _ _ h=>nilA_len h)))))))) (s_cons (s_set (i:=5) sc.nd rfl (by first | exact Or.inl rfl | exact Or.inr rfl) (d_val (d_callO (ok__law_renumber W B) (hr.mono (by decide)) (by rfl) W.d__law_renumber.mg W.d__law_renumber.fn.kp (W.d__law_renumber.fn.binds (ps:=["_law_number","_law_plus","_law_size"]) fun _ _ _ _ _ _ us hl=>by obtain ⟨v0,v1,v2,rfl⟩:=L2.ln3 hl;rfl) (by rfl) lands_cx rfl (d_cons (d_ix hr.units (d_v 0) d_int) (d_cons (d_ix hr.units (d_v 0) d_int) (d_cons (d_v 2) d_nil))) (hlen:=(consA_len (consA_len (consA_len (fun _ _ h=>nilA_len h)))))))) (s_one (s_ret (d_lst (d_cons (d_lst (d_cons (d_val (d_callO (ok__law_told W B) (hr.mono (by decide)) (by rfl) W.d__law_told.mg W.d__law_told.fn.kp (W.d__law_told.fn.binds (ps:=["_law_words","_law_way"]) fun _ _ _ _ _ _ us hl=>by obtain ⟨v0,v1,rfl⟩:=L2.ln2 hl;rfl) (by rfl) lands_cx rfl (d_cons (d_v 4) (d_cons (d_mod (d_ix hr.units (d_v 0) d_int) d_int) d_nil)) (hlen:=(consA_len (consA_len (fun _ _ h=>nilA_len h)))))) (d_cons (d_v 5) d_nil))) (d_cons (d_val (d_callO (ok__law_both W B) (hr.mono (by decide)) (by rfl) W.d__law_both.mg W.d__law_both.fn.kp (W.d__law_both.fn.binds (ps:=["_law_one","_law_other"]) fun _ _ _ _ _ _ us hl=>by obtain ⟨v0,v1,rfl⟩:=L2.ln2 hl;rfl) (by rfl) lands_cx rfl (d_cons (d_v 4) (d_cons (d_v 5) d_nil)) (hlen:=(consA_len (consA_len (fun _ _ h=>nilA_len h)))))) d_nil))))))))))))))))
noncomputable def Gb__law_nothing:Dst->So:=(seqS (setS 4 fun δ=>(DL.bin modD (bin ixD (gVar 0) (fun _=>.val (.int 0))) (fun _=>.val (.int 8))) δ >>= fun d=>.val (.fz d)) (seqS (ifS (fun δ=>asB (DL.bin cmpEq (gVar 4) (fun _=>.val (.int 1)) δ)) (seqS (setS 5 fun δ=>(fun δ=>(calO F__law_move (consA (gVar 0) (consA (gVar 1) (consA (DL.bin addX (fun _=>.val (.int 1)) (DL.bin modD (bin ixD (gVar 0) (fun _=>.val (.int 3))) (fun _=>.val (.int 5)))) nilA)))) δ >>= fun x=>.val x.d) δ >>= fun d=>.val (.fz d)) (retS fun δ=>(DL.bin addX (DL.bin addX (lstD (consA (tupD (consA (fun _=>.val (.str "back")) (consA (gVar 5) nilA))) nilA)) (gVar 3)) (lstD (consA (gVar 5) nilA))) δ >>= fun d=>.val (.fz d))) nilS) (seqS (ifS (fun δ=>asB (DL.bin cmpEq (gVar 4) (fun _=>.val (.int 2)) δ)) (seqS (setS 6 fun δ=>(DL.bin subD (DL.bin modD (bin ixD (gVar 0) (fun _=>.val (.int 1))) (fun _=>.val (.int 41))) (fun _=>.val (.int 20))) δ >>= fun d=>.val (.fz d)) (seqS (setS 7 fun δ=>(DL.bin subD (DL.bin modD (bin ixD (gVar 0) (fun _=>.val (.int 2))) (fun _=>.val (.int 41))) (fun _=>.val (.int 20))) δ >>= fun d=>.val (.fz d)) (seqS (setS 8 (compO 1 [1] (fun δ=>anyItems ((lstD (consA (gVar 6) (consA (gVar 7) (consA (DL.bin subD (DL.bin subD (fun _=>.val (.int 0)) (gVar 6)) (gVar 7)) nilA)))) δ)) (bName 0) yesB (tupD (consA (fun _=>.val (.str "shift")) (consA (bin ixD (gVar 1) (fun _=>.val (.int 0))) (consA (bin ixD (gVar 1) (fun _=>.val (.int 1))) (consA (gVar 0) nilA))))))) (frzS 8 (retS fun δ=>(DL.bin addX (DL.bin addX (sliceY (gVar 8) (fun _=>.val none) (fun δ=>asI ((fun _=>.val (.int 1)) δ))) (gVar 3)) (sliceY (gVar 8) (fun δ=>asI ((fun _=>.val (.int 1)) δ)) (fun _=>.val none))) δ >>= fun d=>.val (.fz d)))))) nilS) (seqS (ifS (fun δ=>asB (DL.bin cmpEq (gVar 4) (fun _=>.val (.int 3)) δ)) (seqS (setS 8 (compO 1 [1] (fun δ=>(consA (fun _=>.val (.int 3)) nilA) δ >>= range1) (bName 0) yesB (tupD (consA (fun _=>.val (.str "rename")) (consA (bin ixD (gVar 1) (fun _=>.val (.int 0))) (consA (bin ixD (gVar 1) (DL.bin addX (fun _=>.val (.int 1)) (gVar 0))) (consA (bin ixD (gVar 1) (DL.bin addX (fun _=>.val (.int 1)) (DL.bin modD (DL.bin addX (gVar 0) (fun _=>.val (.int 1))) (fun _=>.val (.int 3))))) nilA))))))) (frzS 8 (retS fun δ=>(DL.bin addX (DL.bin addX (sliceY (gVar 8) (fun _=>.val none) (fun δ=>asI ((fun _=>.val (.int 1)) δ))) (gVar 3)) (sliceY (gVar 8) (fun δ=>asI ((fun _=>.val (.int 1)) δ)) (fun _=>.val none))) δ >>= fun d=>.val (.fz d)))) nilS) (seqS (ifS (fun δ=>asB (DL.bin cmpEq (gVar 4) (fun _=>.val (.int 4)) δ)) (seqS (setS 5 fun δ=>(fun δ=>(calO F__law_renumber (consA (bin ixD (gVar 0) (fun _=>.val (.int 1))) (consA (bin ixD (gVar 0) (fun _=>.val (.int 2))) (consA (gVar 2) nilA)))) δ >>= fun x=>.val x.d) δ >>= fun d=>.val (.fz d)) (retS fun δ=>(DL.bin addX (DL.bin addX (lstD (consA (gVar 5) nilA)) (gVar 3)) (lstD (consA (tupD (consA (fun _=>.val (.str "back")) (consA (gVar 5) nilA))) nilA))) δ >>= fun d=>.val (.fz d))) nilS) (seqS (ifS (fun δ=>asB (DL.bin cmpEq (gVar 4) (fun _=>.val (.int 5)) δ)) (retS fun δ=>(DL.bin addX (DL.bin addX (lstD (consA (tupD (consA (fun _=>.val (.str "shift")) (consA (bin ixD (gVar 1) (fun _=>.val (.int 0))) (consA (bin ixD (gVar 1) (fun _=>.val (.int 1))) (consA (fun _=>.val (.int 0)) nilA))))) nilA)) (gVar 3)) (lstD (consA (tupD (consA (fun _=>.val (.str "renumber")) (consA (fun _=>.val (.int 1)) (consA (fun _=>.val (.int 0)) (consA (gVar 2) nilA))))) nilA))) δ >>= fun d=>.val (.fz d)) nilS) (seqS (setS 5 fun δ=>(fun δ=>(calO F__law_move (consA (gVar 0) (consA (gVar 1) (consA (DL.bin modD (bin ixD (gVar 0) (fun _=>.val (.int 3))) (fun _=>.val (.int 5))) nilA)))) δ >>= fun x=>.val x.d) δ >>= fun d=>.val (.fz d)) (seqS (ifS (fun δ=>asB (DL.bin cmpEq (gVar 4) (fun _=>.val (.int 6)) δ)) (retS fun δ=>(DL.bin addX (lstD (consA (tupD (consA (fun _=>.val (.str "chain")) (consA (tupD (consA (gVar 5) (consA (tupD (consA (fun _=>.val (.str "back")) (consA (gVar 5) nilA))) nilA))) nilA))) nilA)) (gVar 3)) δ >>= fun d=>.val (.fz d)) nilS) (seqS (ifS (fun δ=>asB (DL.bin cmpEq (gVar 4) (fun _=>.val (.int 7)) δ)) (retS fun δ=>(DL.bin addX (gVar 3) (lstD (consA (tupD (consA (fun _=>.val (.str "back")) (consA (tupD (consA (fun _=>.val (.str "chain")) (consA (tupD (consA (gVar 5) (consA (tupD (consA (fun _=>.val (.str "back")) (consA (gVar 5) nilA))) nilA))) nilA))) nilA))) nilA))) δ >>= fun d=>.val (.fz d)) nilS) (retS fun δ=>(DL.bin addX (DL.bin addX (lstD (consA (gVar 5) nilA)) (gVar 3)) (lstD (consA (tupD (consA (fun _=>.val (.str "back")) (consA (gVar 5) nilA))) nilA))) δ >>= fun d=>.val (.fz d)))))))))))
noncomputable def F__law_nothing:List D->Res DV:=fnD 9 Gb__law_nothing
theorem ok__law_nothing (W:Ds K mg xa xi) (B:Bn mg):FnOk P w K mg base (CX1 P w) 3 W.a__law_nothing W.f__law_nothing ["_law_xs","_law_names_here","_law_size","_law_inner"] (spD ⟨K,xa,xi⟩ 4 F__law_nothing):=by
 have sc:FnScope ["_law_xs","_law_names_here","_law_size","_law_inner","_law_way","_law_words","_law_one","_law_other","_law_some"] ["_law_xs","_law_names_here","_law_size","_law_inner"] (defScope (top 33)):=⟨rfl,rfl,rfl,by decide +kernel,rfl,by decide +kernel,by decide +kernel⟩
 exact def_ok (N:=["_law_xs","_law_names_here","_law_size","_law_inner","_law_way","_law_words","_law_one","_law_other","_law_some"]) (ps:=["_law_xs","_law_names_here","_law_size","_law_inner"]) (k:=2) (g:=Gb__law_nothing) W.d__law_nothing.fn sc fun cdv A outer s H E Hf hr=>(s_cons (s_set (i:=4) sc.nd rfl (by first | exact Or.inl rfl | exact Or.inr rfl) (d_mod (d_ix hr.units (d_v 0) d_int) d_int)) (s_cons (s_if (dt_eq hr.units (d_v 4) d_int) (s_cons (s_set (i:=5) sc.nd rfl (by first | exact Or.inl rfl | exact Or.inr rfl) (d_val (d_callO (ok__law_move W B) (hr.mono (by decide)) (by rfl) W.d__law_move.mg W.d__law_move.fn.kp (W.d__law_move.fn.binds (ps:=["_law_xs","_law_names_here","_law_way"]) fun _ _ _ _ _ _ us hl=>by obtain ⟨v0,v1,v2,rfl⟩:=L2.ln3 hl;rfl) (by rfl) lands_cx rfl (d_cons (d_v 0) (d_cons (d_v 1) (d_cons (d_addX rfl d_int (d_mod (d_ix hr.units (d_v 0) d_int) d_int)) d_nil))) (hlen:=(consA_len (consA_len (consA_len (fun _ _ h=>nilA_len h)))))))) (s_one (s_ret (d_addX rfl (d_addX rfl (d_lst (d_cons (d_tup (d_cons d_str (d_cons (d_v 5) d_nil))) d_nil)) (d_v 3)) (d_lst (d_cons (d_v 5) d_nil)))))) s_nil) (s_cons (s_if (dt_eq hr.units (d_v 4) d_int) (s_cons (s_set (i:=6) sc.nd rfl (by first | exact Or.inl rfl | exact Or.inr rfl) (d_sub (d_mod (d_ix hr.units (d_v 0) d_int) d_int) d_int)) (s_cons (s_set (i:=7) sc.nd rfl (by first | exact Or.inl rfl | exact Or.inr rfl) (d_sub (d_mod (d_ix hr.units (d_v 0) d_int) d_int) d_int)) (s_cons (s_comp (i:=8) (osc:=defScope (top 33)) (N0:=["_law_xs","_law_names_here","_law_size","_law_inner","_law_way","_law_words","_law_one","_law_other","_law_some"]) (xs:=["_law_by"]) (fr:=[1]) (pb_name 0) ⟨rfl,by decide +kernel,by decide +kernel,by decide +kernel,(fun j hj=>by simp only [List.mem_cons,List.not_mem_nil,or_false] at hj;rcases hj with rfl <;> exact ⟨_,rfl,by decide +kernel⟩),by decide +kernel⟩ rfl rfl rfl (i_any (d_lst (d_cons (d_v 6) (d_cons (d_v 7) (d_cons (d_sub (d_sub d_int (d_v 6)) (d_v 7)) d_nil))))) (fun s H fp=>(g_name (i:=0) (show (["_law_by","_law_names_here"]:List Str).Nodup by decide +kernel) rfl (by first | exact Or.inl rfl | exact Or.inr rfl))) (fun s H fp=>f_nil) (fun s H fp=>(d_tup (d_cons d_str (d_cons (d_ix hr.units (d_v 1) d_int) (d_cons (d_ix hr.units (d_v 1) d_int) (d_cons (d_v 0) d_nil)))))) sc.nd rfl (by first | exact Or.inl rfl | exact Or.inr rfl)) (s_frz 8 (s_one (s_ret (d_addX rfl (d_addX rfl (d_sliceX (d_v 8) d_pn (d_ps d_int)) (d_v 3)) (d_sliceX (d_v 8) (d_ps d_int) d_pn)))))))) s_nil) (s_cons (s_if (dt_eq hr.units (d_v 4) d_int) (s_cons (s_comp (i:=8) (osc:=defScope (top 33)) (N0:=["_law_xs","_law_names_here","_law_size","_law_inner","_law_way","_law_words","_law_one","_law_other","_law_some"]) (xs:=["_law_k"]) (fr:=[1]) (pb_name 0) ⟨rfl,by decide +kernel,by decide +kernel,by decide +kernel,(fun j hj=>by simp only [List.mem_cons,List.not_mem_nil,or_false] at hj;rcases hj with rfl <;> exact ⟨_,rfl,by decide +kernel⟩),by decide +kernel⟩ rfl rfl rfl (i_range1 (by rfl) B.range (d_cons d_int d_nil)) (fun s H fp=>(g_name (i:=0) (show (["_law_k","_law_names_here"]:List Str).Nodup by decide +kernel) rfl (by first | exact Or.inl rfl | exact Or.inr rfl))) (fun s H fp=>f_nil) (fun s H fp=>(d_tup (d_cons d_str (d_cons (d_ix hr.units (d_v 1) d_int) (d_cons (d_ix hr.units (d_v 1) (d_addX rfl d_int (d_v 0))) (d_cons (d_ix hr.units (d_v 1) (d_addX rfl d_int (d_mod (d_addX rfl (d_v 0) d_int) d_int))) d_nil)))))) sc.nd rfl (by first | exact Or.inl rfl | exact Or.inr rfl)) (s_frz 8 (s_one (s_ret (d_addX rfl (d_addX rfl (d_sliceX (d_v 8) d_pn (d_ps d_int)) (d_v 3)) (d_sliceX (d_v 8) (d_ps d_int) d_pn)))))) s_nil) (s_cons (s_if (dt_eq hr.units (d_v 4) d_int) (s_cons (s_set (i:=5) sc.nd rfl (by first | exact Or.inl rfl | exact Or.inr rfl) (d_val (d_callO (ok__law_renumber W B) (hr.mono (by decide)) (by rfl) W.d__law_renumber.mg W.d__law_renumber.fn.kp (W.d__law_renumber.fn.binds (ps:=["_law_number","_law_plus","_law_size"]) fun _ _ _ _ _ _ us hl=>by obtain ⟨v0,v1,v2,rfl⟩:=L2.ln3 hl;rfl) (by rfl) lands_cx rfl (d_cons (d_ix hr.units (d_v 0) d_int) (d_cons (d_ix hr.units (d_v 0) d_int) (d_cons (d_v 2) d_nil))) (hlen:=(consA_len (consA_len (consA_len (fun _ _ h=>nilA_len h)))))))) (s_one (s_ret (d_addX rfl (d_addX rfl (d_lst (d_cons (d_v 5) d_nil)) (d_v 3)) (d_lst (d_cons (d_tup (d_cons d_str (d_cons (d_v 5) d_nil))) d_nil)))))) s_nil) (s_cons (s_if (dt_eq hr.units (d_v 4) d_int) (s_one (s_ret (d_addX rfl (d_addX rfl (d_lst (d_cons (d_tup (d_cons d_str (d_cons (d_ix hr.units (d_v 1) d_int) (d_cons (d_ix hr.units (d_v 1) d_int) (d_cons d_int d_nil))))) d_nil)) (d_v 3)) (d_lst (d_cons (d_tup (d_cons d_str (d_cons d_int (d_cons d_int (d_cons (d_v 2) d_nil))))) d_nil))))) s_nil) (s_cons (s_set (i:=5) sc.nd rfl (by first | exact Or.inl rfl | exact Or.inr rfl) (d_val (d_callO (ok__law_move W B) (hr.mono (by decide)) (by rfl) W.d__law_move.mg W.d__law_move.fn.kp (W.d__law_move.fn.binds (ps:=["_law_xs","_law_names_here","_law_way"]) fun _ _ _ _ _ _ us hl=>by obtain ⟨v0,v1,v2,rfl⟩:=L2.ln3 hl;rfl) (by rfl) lands_cx rfl (d_cons (d_v 0) (d_cons (d_v 1) (d_cons (d_mod (d_ix hr.units (d_v 0) d_int) d_int) d_nil))) (hlen:=(consA_len (consA_len (consA_len (fun _ _ h=>nilA_len h)))))))) (s_cons (s_if (dt_eq hr.units (d_v 4) d_int) (s_one (s_ret (d_addX rfl (d_lst (d_cons (d_tup (d_cons d_str (d_cons (d_tup (d_cons (d_v 5) (d_cons (d_tup (d_cons d_str (d_cons (d_v 5) d_nil))) d_nil))) d_nil))) d_nil)) (d_v 3)))) s_nil) (s_cons (s_if (dt_eq hr.units (d_v 4) d_int) (s_one (s_ret (d_addX rfl (d_v 3) (d_lst (d_cons (d_tup (d_cons d_str (d_cons (d_tup (d_cons d_str (d_cons (d_tup (d_cons (d_v 5) (d_cons (d_tup (d_cons d_str (d_cons (d_v 5) d_nil))) d_nil))) d_nil))) d_nil))) d_nil))))) s_nil) (s_one (s_ret (d_addX rfl (d_addX rfl (d_lst (d_cons (d_v 5) d_nil)) (d_v 3)) (d_lst (d_cons (d_tup (d_cons d_str (d_cons (d_v 5) d_nil))) d_nil))))))))))))))
noncomputable def Gb_law:Dst->So:=(seqS (setS 1 fun δ=>(fun δ=>(calO F__law_cell (consA (gVar 0) (consA (fun _=>.val (.int 0)) nilA))) δ >>= fun x=>.val x.d) δ >>= fun d=>.val (.fz d)) (seqS (setS 2 fun δ=>(lstD nilA) δ >>= fun d=>.val (.fz d)) (seqS (setS 3 fun δ=>(lstD nilA) δ >>= fun d=>.val (.fz d)) (seqS (loopS (fun δ=>(consA (sliceY (gVar 0) (fun _=>.val none) (fun δ=>asI ((fun _=>.val (.int 8)) δ))) nilA) δ >>= enumD) (bTup 2 (bCons (bName 4) (bCons (bName 5) bNil))) (seqS (setS 6 fun δ=>(fun δ=>(calO F__law_stream (consA (gVar 5) (consA (fun _=>.val (.int 18)) nilA))) δ >>= fun x=>.val x.d) δ >>= fun d=>.val (.fz d)) (seqS (asgS (fun δ=>(calO F__law_element (consA (gVar 6) (consA (fun δ=>(calO F__law_names (consA (gVar 1) (consA (gVar 4) nilA))) δ >>= fun x=>.val x.d) (consA (DL.bin addX (fun _=>.val (.int 1000)) (gVar 4)) nilA)))) δ >>= fun x=>.val x.d) (bTupL 2 (bCons (bName 7) (bCons (bName 8) bNil)))) (seqS (setS 9 fun δ=>(fun δ=>(calO F__law_nothing (consA (sliceY (gVar 6) (fun δ=>asI ((fun _=>.val (.int 6)) δ)) (fun _=>.val none)) (consA (fun δ=>(calO F__law_names (consA (gVar 1) (consA (DL.bin addX (fun _=>.val (.int 40)) (gVar 4)) nilA))) δ >>= fun x=>.val x.d) (consA (DL.bin addX (fun _=>.val (.int 1040)) (gVar 4)) (consA (lstD nilA) nilA))))) δ >>= fun x=>.val x.d) δ >>= fun d=>.val (.fz d)) (seqS (setS 10 fun δ=>(fun δ=>(calO F__law_nothing (consA (sliceY (gVar 6) (fun δ=>asI ((fun _=>.val (.int 12)) δ)) (fun _=>.val none)) (consA (fun δ=>(calO F__law_names (consA (gVar 1) (consA (DL.bin addX (fun _=>.val (.int 80)) (gVar 4)) nilA))) δ >>= fun x=>.val x.d) (consA (DL.bin addX (fun _=>.val (.int 1080)) (gVar 4)) (consA (gVar 9) nilA))))) δ >>= fun x=>.val x.d) δ >>= fun d=>.val (.fz d)) (seqS (setS 11 fun δ=>(DL.bin modD (bin ixD (gVar 6) (fun _=>.val (.int 11))) (DL.bin addX (calN lenD (consA (gVar 7) nilA)) (fun _=>.val (.int 1)))) δ >>= fun d=>.val (.fz d)) (seqS (setS 2 fun δ=>(DL.bin addX (DL.bin addX (DL.bin addX (gVar 2) (sliceY (gVar 7) (fun _=>.val none) (fun δ=>asI ((gVar 11) δ)))) (gVar 10)) (sliceY (gVar 7) (fun δ=>asI ((gVar 11) δ)) (fun _=>.val none))) δ >>= fun d=>.val (.fz d)) (setS 3 fun δ=>(DL.bin addX (gVar 3) (gVar 8)) δ >>= fun d=>.val (.fz d))))))))) (seqS (setS 12 fun δ=>(calN listOf (consA (gVar 2) nilA)) δ >>= fun d=>.val (.fz d)) (seqS (setS 13 (calO F_laid (consA (gVar 12) nilA))) (seqS (ifS (brw 13 (fun δ=>orR ((fun δ=>notR ((fun δ=>asB ((calN isiD (consA (gVar 13) (consA (fun _=>.val (.ty "list")) nilA))) δ)) δ)) δ) ((fun δ=>orR ((fun δ=>asB (DL.bin cmpNe (gVar 13) (gVar 3) δ)) δ) ((fun δ=>orR ((fun δ=>asB (DL.bin cmpNe (gVar 12) (gVar 2) δ)) δ) ((fun δ=>asB (DL.bin cmpNe (fun δ=>(calO F_laid (consA (calN listOf (consA (gVar 3) nilA)) nilA)) δ >>= fun x=>.val x.d) (gVar 3) δ)) δ)) δ)) δ))) (retS fun δ=>(fun _=>.val (.bl false)) δ >>= fun d=>.val (.fz d)) nilS) (seqS (appS 13 (consA (tupD (consA (fun _=>.val (.str "chain")) (consA (tupD nilA) nilA))) nilA)) (retS fun δ=>(fun δ=>andV ((DL.bin cmpEq (fun δ=>(calO F_laid (consA (gVar 12) nilA)) δ >>= fun x=>.val x.d) (gVar 3)) δ) ((fun δ=>andV ((DL.bin cmpEq (gVar 12) (gVar 2)) δ) ((DL.bin cmpEq (fun δ=>(calO F_laid (consA (lstD nilA) nilA)) δ >>= fun x=>.val x.d) (lstD nilA)) δ)) δ)) δ >>= fun d=>.val (.fz d))))))))))
noncomputable def F_law:List D->Res DV:=fnD 14 Gb_law
theorem ok_law (W:Ds K mg xa xi) (B:Bn mg):FnOk P w K mg base (CX1 P w) 18 W.a_law W.f_law ["_law_script"] (spD ⟨K,xa,xi⟩ 1 F_law):=by
 have sc:FnScope ["_law_script","_law_base","_law_rows","_law_due","_law_k","_law_cell_here","_law_xs","_law_told_here","_law_words","_law_inner","_law_around","_law_at","_law_handed","_law_found"] ["_law_script"] (defScope (top 34)):=⟨rfl,rfl,rfl,by decide +kernel,rfl,by decide +kernel,by decide +kernel⟩
 exact def_ok (N:=["_law_script","_law_base","_law_rows","_law_due","_law_k","_law_cell_here","_law_xs","_law_told_here","_law_words","_law_inner","_law_around","_law_at","_law_handed","_law_found"]) (ps:=["_law_script"]) (k:=17) (g:=Gb_law) W.d_law.fn sc fun cdv A outer s H E Hf hr=>(s_cons (s_set (i:=1) sc.nd rfl (by first | exact Or.inl rfl | exact Or.inr rfl) (d_val (d_callO (ok__law_cell W B) (hr.mono (by decide)) (by rfl) W.d__law_cell.mg W.d__law_cell.fn.kp (W.d__law_cell.fn.binds (ps:=["_law_script","_law_k"]) fun _ _ _ _ _ _ us hl=>by obtain ⟨v0,v1,rfl⟩:=L2.ln2 hl;rfl) (by rfl) lands_cx rfl (d_cons (d_v 0) (d_cons d_int d_nil)) (hlen:=(consA_len (consA_len (fun _ _ h=>nilA_len h))))))) (s_cons (s_set (i:=2) sc.nd rfl (by first | exact Or.inl rfl | exact Or.inr rfl) (d_lst d_nil)) (s_cons (s_set (i:=3) sc.nd rfl (by first | exact Or.inl rfl | exact Or.inr rfl) (d_lst d_nil)) (s_cons (s_for PassesOwn.leaving rfl (i_enum (by rfl) B.enumerate (d_cons (d_sliceX (d_v 0) d_pn (d_ps d_int)) d_nil)) (g_tup rfl (g_cons (g_name (i:=4) sc.nd rfl (by first | exact Or.inl rfl | exact Or.inr rfl)) (g_cons (g_name (i:=5) sc.nd rfl (by first | exact Or.inl rfl | exact Or.inr rfl)) g_nil))) (s_cons (s_set (i:=6) sc.nd rfl (by first | exact Or.inl rfl | exact Or.inr rfl) (d_val (d_callO (ok__law_stream W B) (hr.mono (by decide)) (by rfl) W.d__law_stream.mg W.d__law_stream.fn.kp (W.d__law_stream.fn.binds (ps:=["_law_cell_here","_law_many"]) fun _ _ _ _ _ _ us hl=>by obtain ⟨v0,v1,rfl⟩:=L2.ln2 hl;rfl) (by rfl) lands_cx rfl (d_cons (d_v 5) (d_cons d_int d_nil)) (hlen:=(consA_len (consA_len (fun _ _ h=>nilA_len h))))))) (s_cons (s_asg (d_val (d_callO (ok__law_element W B) (hr.mono (by decide)) (by rfl) W.d__law_element.mg W.d__law_element.fn.kp (W.d__law_element.fn.binds (ps:=["_law_xs","_law_names_here","_law_size"]) fun _ _ _ _ _ _ us hl=>by obtain ⟨v0,v1,v2,rfl⟩:=L2.ln3 hl;rfl) (by rfl) lands_cx rfl (d_cons (d_v 6) (d_cons (d_val (d_callO (ok__law_names W B) (hr.mono (by decide)) (by rfl) W.d__law_names.mg W.d__law_names.fn.kp (W.d__law_names.fn.binds (ps:=["_law_number","_law_k"]) fun _ _ _ _ _ _ us hl=>by obtain ⟨v0,v1,rfl⟩:=L2.ln2 hl;rfl) (by rfl) lands_cx rfl (d_cons (d_v 1) (d_cons (d_v 4) d_nil)) (hlen:=(consA_len (consA_len (fun _ _ h=>nilA_len h)))))) (d_cons (d_addX rfl d_int (d_v 4)) d_nil))) (hlen:=(consA_len (consA_len (consA_len (fun _ _ h=>nilA_len h))))))) (g_tupX rfl (g_cons (g_name (i:=7) sc.nd rfl (by first | exact Or.inl rfl | exact Or.inr rfl)) (g_cons (g_name (i:=8) sc.nd rfl (by first | exact Or.inl rfl | exact Or.inr rfl)) g_nil)))) (s_cons (s_set (i:=9) sc.nd rfl (by first | exact Or.inl rfl | exact Or.inr rfl) (d_val (d_callO (ok__law_nothing W B) (hr.mono (by decide)) (by rfl) W.d__law_nothing.mg W.d__law_nothing.fn.kp (W.d__law_nothing.fn.binds (ps:=["_law_xs","_law_names_here","_law_size","_law_inner"]) fun _ _ _ _ _ _ us hl=>by obtain ⟨v0,v1,v2,v3,rfl⟩:=L2.ln4 hl;rfl) (by rfl) lands_cx rfl (d_cons (d_sliceX (d_v 6) (d_ps d_int) d_pn) (d_cons (d_val (d_callO (ok__law_names W B) (hr.mono (by decide)) (by rfl) W.d__law_names.mg W.d__law_names.fn.kp (W.d__law_names.fn.binds (ps:=["_law_number","_law_k"]) fun _ _ _ _ _ _ us hl=>by obtain ⟨v0,v1,rfl⟩:=L2.ln2 hl;rfl) (by rfl) lands_cx rfl (d_cons (d_v 1) (d_cons (d_addX rfl d_int (d_v 4)) d_nil)) (hlen:=(consA_len (consA_len (fun _ _ h=>nilA_len h)))))) (d_cons (d_addX rfl d_int (d_v 4)) (d_cons (d_lst d_nil) d_nil)))) (hlen:=(consA_len (consA_len (consA_len (consA_len (fun _ _ h=>nilA_len h))))))))) (s_cons (s_set (i:=10) sc.nd rfl (by first | exact Or.inl rfl | exact Or.inr rfl) (d_val (d_callO (ok__law_nothing W B) (hr.mono (by decide)) (by rfl) W.d__law_nothing.mg W.d__law_nothing.fn.kp (W.d__law_nothing.fn.binds (ps:=["_law_xs","_law_names_here","_law_size","_law_inner"]) fun _ _ _ _ _ _ us hl=>by obtain ⟨v0,v1,v2,v3,rfl⟩:=L2.ln4 hl;rfl) (by rfl) lands_cx rfl (d_cons (d_sliceX (d_v 6) (d_ps d_int) d_pn) (d_cons (d_val (d_callO (ok__law_names W B) (hr.mono (by decide)) (by rfl) W.d__law_names.mg W.d__law_names.fn.kp (W.d__law_names.fn.binds (ps:=["_law_number","_law_k"]) fun _ _ _ _ _ _ us hl=>by obtain ⟨v0,v1,rfl⟩:=L2.ln2 hl;rfl) (by rfl) lands_cx rfl (d_cons (d_v 1) (d_cons (d_addX rfl d_int (d_v 4)) d_nil)) (hlen:=(consA_len (consA_len (fun _ _ h=>nilA_len h)))))) (d_cons (d_addX rfl d_int (d_v 4)) (d_cons (d_v 9) d_nil)))) (hlen:=(consA_len (consA_len (consA_len (consA_len (fun _ _ h=>nilA_len h))))))))) (s_cons (s_set (i:=11) sc.nd rfl (by first | exact Or.inl rfl | exact Or.inr rfl) (d_mod (d_ix hr.units (d_v 6) d_int) (d_addX rfl (d_callB call_lenA (fit_len rfl) (by rfl) B.len DL.boot_len (d_cons (d_v 7) d_nil)) d_int))) (s_cons (s_set (i:=2) sc.nd rfl (by first | exact Or.inl rfl | exact Or.inr rfl) (d_addX rfl (d_addX rfl (d_addX rfl (d_v 2) (d_sliceX (d_v 7) d_pn (d_ps (d_v 11)))) (d_v 10)) (d_sliceX (d_v 7) (d_ps (d_v 11)) d_pn))) (s_one (s_set (i:=3) sc.nd rfl (by first | exact Or.inl rfl | exact Or.inr rfl) (d_addX rfl (d_v 3) (d_v 8))))))))))) (s_cons (s_set (i:=12) sc.nd rfl (by first | exact Or.inl rfl | exact Or.inr rfl) (d_callTy call_list_of (fit_listOf rfl) (by rfl) B.list My.boot_list (d_cons (d_v 2) d_nil))) (s_cons (s_setO (i:=13) sc.nd rfl (by first | exact Or.inl rfl | exact Or.inr rfl) (d_callO (ok_laid W B) (hr.mono (by decide)) (by rfl) W.d_laid.mg W.d_laid.fn.kp (W.d_laid.fn.binds (ps:=["rows"]) fun _ _ _ _ _ _ us hl=>by obtain ⟨v0,rfl⟩:=L2.ln1 hl;rfl) (by rfl) lands_cx rfl (d_cons (d_v 12) d_nil) (hlen:=(consA_len (fun _ _ h=>nilA_len h))))) (s_cons (s_if (dt_brw 13 (PW.pt (d_wor (d_tnot (d_tval (d_callB (call_isiDD rfl) fit_isi (by rfl) B.isinstance My.boot_isi (d_cons (d_v 13) (d_cons (d_ty (u:=.none) (by rfl) B.list My.boot_list) d_nil))))) (d_wor (dt_ne hr.units (d_v 13) (d_v 3)) (d_wor (dt_ne hr.units (d_v 12) (d_v 2)) (d_wor1 (dt_ne hr.units (d_val (d_callO (ok_laid W B) (hr.mono (by decide)) (by rfl) W.d_laid.mg W.d_laid.fn.kp (W.d_laid.fn.binds (ps:=["rows"]) fun _ _ _ _ _ _ us hl=>by obtain ⟨v0,rfl⟩:=L2.ln1 hl;rfl) (by rfl) lands_cx rfl (d_cons (d_callTy call_list_of (fit_listOf rfl) (by rfl) B.list My.boot_list (d_cons (d_v 3) d_nil)) d_nil) (hlen:=(consA_len (fun _ _ h=>nilA_len h))))) (d_v 3)))))))) (s_one (s_ret d_bl)) s_nil) (s_cons (s_append (i:=13) (pv 13) (d_cons (d_tup (d_cons d_str (d_cons (d_tup d_nil) d_nil))) d_nil)) (s_one (s_ret (d_and (d_eq hr.units (d_val (d_callO (ok_laid W B) (hr.mono (by decide)) (by rfl) W.d_laid.mg W.d_laid.fn.kp (W.d_laid.fn.binds (ps:=["rows"]) fun _ _ _ _ _ _ us hl=>by obtain ⟨v0,rfl⟩:=L2.ln1 hl;rfl) (by rfl) lands_cx rfl (d_cons (d_v 12) d_nil) (hlen:=(consA_len (fun _ _ h=>nilA_len h))))) (d_v 3)) (d_and (d_eq hr.units (d_v 12) (d_v 2)) (d_one (d_eq hr.units (d_val (d_callO (ok_laid W B) (hr.mono (by decide)) (by rfl) W.d_laid.mg W.d_laid.fn.kp (W.d_laid.fn.binds (ps:=["rows"]) fun _ _ _ _ _ _ us hl=>by obtain ⟨v0,rfl⟩:=L2.ln1 hl;rfl) (by rfl) lands_cx rfl (d_cons (d_lst d_nil) d_nil) (hlen:=(consA_len (fun _ _ h=>nilA_len h))))) (d_lst d_nil)))))))))))))))
end
end L48
namespace L48
open PySem L2 DL
def ro:Option (List D)->D
 | none=>.non
 | some l=>.lst l
abbrev sS (t c:Str) (n:Int):D:=.tup [.str "shift",.str t,.str c,.int n]
abbrev rN (t a b:Str):D:=.tup [.str "rename",.str t,.str a,.str b]
abbrev nU (a b n:Int):D:=.tup [.str "renumber",.int a,.int b,.int n]
abbrev bK (d:D):D:=.tup [.str "back",d]
theorem bd {r:Res DV} {d:D} (h:r = .val (.fz d)):(r >>= fun x=>.val x.d) = .val d:=by rw [h];rfl
theorem cv {g:Dst->Res D} {k:Dst->Res (List D)} {δ:Dst} {d:D} {ds:List D} (h:g δ = .val d) (h':k δ = .val ds):consA g k δ = .val (d :: ds):=by
 unfold consA;rw [h,h'];rfl
theorem any_tup {k:Dst->Res (List D)} {δ:Dst} {ds:List D} (h:k δ = .val ds) (hl:lenOk ds.length = true):anyItems (tupD k δ) = .val ds:=by
 unfold tupD;rw [h];show anyItems (if lenOk ds.length = true then _ else _) = _;rw [if_pos hl];rfl
theorem loop_val {items:Dst->Res (List D)} {b:D->Dst->Option Dst} {body:Dst->So} {δ:Dst} {ds:List D} (h:items δ = .val ds):loopS items b body δ = forS b body ds δ:=by
 unfold loopS;rw [h]
theorem un_idle {x:D} {b:Bool} (h:F_is_idle [x] = .val (.fz (.bl b))):F_unless_idle [x] = .val (.fz (.lst (if b then [] else [x]))):=by
 have e:F_unless_idle [x] = fin (ofR ((ifR (asB (F_is_idle [x] >>= fun y=>.val y.d)) (.val (.lst [])) (.val (.lst [x]))) >>= fun d=>.val (.fz d)) (startD 1 [x]) .ret):=rfl
 rw [e,h]
 cases b <;> rfl
theorem tg_of {x y:D} {o1 o2 o3 o4 o5 o6:Option (List D)} (h1:F_both_gone [x,y] = .val (.fz (ro o1))) (h2:F_two_shifts [x,y] = .val (.fz (ro o2))) (h3:F_two_renumberings [x,y] = .val (.fz (ro o3))) (h4:F_two_renames [x,y] = .val (.fz (ro o4))) (h5:F_put_and_rename [x,y] = .val (.fz (ro o5))) (h6:F_rename_and_put_back [x,y] = .val (.fz (ro o6))) :
  F_together [x,y] = .val (.fz (ro (o1 <|> o2 <|> o3 <|> o4 <|> o5 <|> o6))):=by
 refine (congrArg (fun r=>fin (So.bind r _)) (loop_val (ds:=[ro o1,ro o2,ro o3,ro o4,ro o5,ro o6]) (any_tup (cv (bd h1) (cv (bd h2) (cv (bd h3) (cv (bd h4) (cv (bd h5) (cv (bd h6) rfl)))))) rfl))).trans ?_
 cases o1 with
 | some l=>rfl
 | none=>
 cases o2 with
 | some l=>rfl
 | none=>
 cases o3 with
 | some l=>rfl
 | none=>
 cases o4 with
 | some l=>rfl
 | none=>
 cases o5 with
 | some l=>rfl
 | none=>cases o6 <;> rfl
theorem ret_tup {k:Dst->Res (List D)} {δ:Dst} {ds:List D} (h:k δ = .val ds) (hl:lenOk ds.length = true):fin (retS (fun δ=>tupD k δ >>= fun d=>.val (.fz d)) δ) = .val (.fz (.tup ds)):=by
 show fin (ofR ((k δ >>= fun xs=>if lenOk xs.length = true then .val (.tup xs) else .bad) >>= fun d=>.val (.fz d)) δ .ret) = _
 rw [h]
 show fin (ofR ((if lenOk ds.length = true then _ else _) >>= _) _ _) = _
 rw [if_pos hl]
 rfl
theorem m_mod {i n:Int} (h:0 < n):modD (.int i) (.int n) = .val (.int (i % n)):=if_pos (decide_eq_true h)
theorem e_rnb (a b:Int) {n:Int} (h:0 < n):F_renumbering [.int a,.int b,.int n] = .val (.fz (nU (a % n) (b % n) n)):=
 ret_tup (cv rfl (cv (m_mod h) (cv (m_mod h) (cv rfl rfl)))) rfl
inductive Kn where
 | whole | below | upto | lst
 deriving DecidableEq
def Kn.d:Kn->D
 | .whole=>.tup [.str "whole"]
 | .below=>.tup [.str "below",.int 5]
 | .upto=>.tup [.str "upto",.int 9]
 | .lst=>.tup [.str "list",.tup [.str "whole"]]
inductive Vl where
 | i (n:Int)
 | l (n m:Int)
 deriving DecidableEq
def Vl.d:Vl->D
 | .i n=>.int n
 | .l n m=>.tup [.int n,.int m]
inductive Mb where
 | put (t c:Str) (k:Kn) (v:Vl)
 | part (t c a b:Str) (n:Int)
 | split (t c z:Str)
 | rows (t c:Str)
 | cleave (t:Str) (l:List Str)
 | cap (t c:Str) (n:Int)
 deriving DecidableEq
def Mb.d:Mb->D
 | .put t c k v=>.tup [.str "put",.str t,.str c,k.d,v.d]
 | .part t c a b n=>.tup [.str "part",.str t,.str c,.str a,.str b,.int n]
 | .split t c z=>.tup [.str "split",.str t,.str c,.str z]
 | .rows t c=>.tup [.str "rows",.str t,.str c]
 | .cleave t l=>.tup [.str "cleave",.str t,.tup (l.map .str)]
 | .cap t c n=>.tup [.str "cap",.str t,.str c,.int n]
inductive Mv where
 | ba (m:Mb)
 | bk (m:Mb)
 | sh (t c:Str) (n:Int)
 | re (t a b:Str)
 | nu (a b n:Int)
def Mv.d:Mv->D
 | .ba m=>m.d
 | .bk m=>bK m.d
 | .sh t c n=>sS t c n
 | .re t a b=>rN t a b
 | .nu a b n=>nU a b n
theorem eq_kn (k k':Kn):eqD k.d k'.d = some (decide (k = k')):=by cases k <;> cases k' <;> rfl
theorem dec_str (a b:Str):(a == b) = decide (a = b):=by
 by_cases h:a = b
 ·subst h;simp
 ·rw [decide_eq_false h];exact beq_eq_false_iff_ne.mpr h
theorem dec_i (a b:Int):(a == b) = decide (a = b):=by
 by_cases h:a = b
 ·subst h;simp
 ·rw [decide_eq_false h];exact beq_eq_false_iff_ne.mpr h
theorem eq_vl (v v':Vl):eqD v.d v'.d = some (decide (v = v')):=by
 cases v <;> cases v'
 ·rename_i a b
  show some (a == b) = _
  rw [dec_i]
  congr 1
  simp
 ·rfl
 ·rfl
 ·rename_i a b c d
  show some ((a == c) && ((b == d) && true)) = _
  rw [dec_i,dec_i]
  congr 1
  simp
theorem eq_strs:∀ l l':List Str,eqDs (l.map .str) (l'.map .str) = some (decide (l = l'))
 | [],[]=>rfl
 | [],_ :: _=>rfl
 | _ :: _,[]=>rfl
 | a :: l,b :: l'=>by
  show (match eqD (.str a) (.str b),eqDs (l.map .str) (l'.map .str) with | some a,some b=>some (a && b) | _,_=>none) = _
  rw [eq_strs l l']
  show some ((a == b) && decide (l = l')) = _
  rw [dec_str]
  congr 1
  simp
theorem eq_mb (m m':Mb):eqD m.d m'.d = some (decide (m = m')):=by
 cases m <;> cases m'
 case put.put t c k v t' c' k' v'=>
  show (match eqD (.str "put") (.str "put"),eqDs [.str t,.str c,k.d,v.d] [.str t',.str c',k'.d,v'.d] with | some a,some b=>some (a && b) | _,_=>none) = _
  have:eqDs [.str t,.str c,k.d,v.d] [.str t',.str c',k'.d,v'.d] = some ((t == t') && ((c == c') && (decide (k = k') && (decide (v = v') && true)))):=by
   simp only [eqDs,eqD,eq_kn,eq_vl]
  rw [this]
  show some (true && _) = _
  rw [dec_str,dec_str]
  congr 1
  simp
 case part.part t c a b n t' c' a' b' n'=>
  show some (true && ((t == t') && ((c == c') && ((a == a') && ((b == b') && ((n == n') && true)))))) = _
  rw [dec_str,dec_str,dec_str,dec_str,dec_i]
  congr 1
  simp
 case split.split t c z t' c' z'=>
  show some (true && ((t == t') && ((c == c') && ((z == z') && true)))) = _
  rw [dec_str,dec_str,dec_str]
  congr 1
  simp
 case rows.rows t c t' c'=>
  show some (true && ((t == t') && ((c == c') && true))) = _
  rw [dec_str,dec_str]
  congr 1
  simp
 case cleave.cleave t l t' l'=>
  show (match eqD (.str "cleave") (.str "cleave"),eqDs [.str t,.tup (l.map .str)] [.str t',.tup (l'.map .str)] with | some a,some b=>some (a && b) | _,_=>none) = _
  have:eqDs [.str t,.tup (l.map .str)] [.str t',.tup (l'.map .str)] = some ((t == t') && (decide (l = l') && true)):=by
   simp only [eqDs,eqD,eq_strs]
  rw [this]
  show some (true && _) = _
  rw [dec_str]
  congr 1
  simp
 case cap.cap t c n t' c' n'=>
  show some (true && ((t == t') && ((c == c') && ((n == n') && true)))) = _
  rw [dec_str,dec_str,dec_i]
  congr 1
  simp
 all_goals first
  | rfl
  | (rename Kn=>k;rename Vl=>v;cases k <;> cases v <;> rfl)
def isCap:Mb->Bool
 | .cap ..=>true
 | _=>false
def isPut:Mb->Bool
 | .put ..=>true
 | _=>false
def bg:Mv->Mv->Option (List Mv)
 | .ba m,.bk m'=>if isCap m then none else if m' = m then some [] else none
 | .bk m,.ba m'=>if isPut m then none else if m = m' then some [] else none
 | _,_=>none
def ts:Mv->Mv->Option (List Mv)
 | .sh t c n,.sh t' c' m=>if t' = t/\c' = c then some (if n + m = 0 then [] else [.sh t c (n + m)]) else none
 | _,_=>none
def tn:Mv->Mv->Option (List Mv)
 | .nu a b n,.nu a' b' n'=>if n' = n then some (if a * a' % n = 1 % n/\(b * a' + b') % n = 0 then [] else [.nu (a * a' % n) ((b * a' + b') % n) n]) else none
 | _,_=>none
def tr:Mv->Mv->Option (List Mv)
 | .re t a b,.re t' a' c=>if t' = t/\a' = b then some (if c = a then [] else [.re t a c]) else none
 | _,_=>none
def pr:Mv->Mv->Option (List Mv)
 | .ba (.put t c k v),.re t' a b=>if t' = t/\a = c then some [.ba (.put t b k v)] else none
 | _,_=>none
def rp:Mv->Mv->Option (List Mv)
 | .re t a b,.bk (.put t' c k v)=>if t' = t/\c = b then some [.bk (.put t a k v)] else none
 | _,_=>none
def rv (o:Option (List Mv)):Res DV:=.val (.fz (ro (o.map (List.map Mv.d))))
theorem asb {r:Res D} {b:Bool} (h:r = .val (.bl b)):asB r = .val b:=by rw [h];rfl
theorem if_val {c:Dst->Res Bool} {p q:Dst->So} {δ:Dst} {b:Bool} (h:c δ = .val b):ifS c p q δ = if b then p δ else q δ:=by
 unfold ifS;rw [h];cases b <;> rfl
theorem ifr_val {α:Type} {c:Res Bool} {p q:Res α} {b:Bool} (h:c = .val b):ifR c p q = if b then p else q:=by
 unfold ifR;rw [h];cases b <;> rfl
theorem c_eq {x y:D} {b:Bool} (h:eqD x y = some b) (hd:dep x < 60):cmpEq x y = .val (.bl b):=by
 unfold cmpEq;rw [h];exact if_pos hd
theorem c_ne {x y:D} {b:Bool} (h:eqD x y = some b) (hd:dep x < 60):cmpNe x y = .val (.bl (!b)):=by
 unfold cmpNe;rw [h];exact if_pos hd
theorem deps_str:∀ l:List Str,deps (l.map .str) = 0
 | []=>rfl
 | _ :: l=>by
  show max (dep _) (deps (l.map .str)) = 0
  rw [deps_str l]
  rfl
theorem dep_mb (m:Mb):dep m.d < 6:=by
 cases m with
 | put t c k v=>cases k <;> cases v <;> exact of_decide_eq_true rfl
 | cleave t l=>
  show max 0 (max (deps (l.map .str) + 1) 0) + 1 < 6
  rw [deps_str]
  decide
 | _=>exact of_decide_eq_true rfl
def Mb.l:Mb->List D
 | .put t c k v=>[.str "put",.str t,.str c,k.d,v.d]
 | .part t c a b n=>[.str "part",.str t,.str c,.str a,.str b,.int n]
 | .split t c z=>[.str "split",.str t,.str c,.str z]
 | .rows t c=>[.str "rows",.str t,.str c]
 | .cleave t l=>[.str "cleave",.str t,.tup (l.map .str)]
 | .cap t c n=>[.str "cap",.str t,.str c,.int n]
def Mv.l:Mv->List D
 | .ba m=>m.l
 | .bk m=>[.str "back",m.d]
 | .sh t c n=>[.str "shift",.str t,.str c,.int n]
 | .re t a b=>[.str "rename",.str t,.str a,.str b]
 | .nu a b n=>[.str "renumber",.int a,.int b,.int n]
def is3m (g t c:Str):Mb->Bool
 | .put t' c' _ _=>("put":Str) == g && (t' == t && (c' == c && true))
 | .part t' c' _ _ _=>("part":Str) == g && (t' == t && (c' == c && true))
 | .split t' c' _=>("split":Str) == g && (t' == t && (c' == c && true))
 | .rows t' c'=>("rows":Str) == g && (t' == t && (c' == c && true))
 | .cleave t' _=>("cleave":Str) == g && (t' == t && (false && true))
 | .cap t' c' _=>("cap":Str) == g && (t' == t && (c' == c && true))
def is3 (g t c:Str):Mv->Bool
 | .ba m=>is3m g t c m
 | .bk _=>("back":Str) == g && (false && false)
 | .sh t' c' _=>("shift":Str) == g && (t' == t && (c' == c && true))
 | .re t' c' _=>("rename":Str) == g && (t' == t && (c' == c && true))
 | .nu _ _ _=>("renumber":Str) == g && (false && (false && true))
theorem ne3m (m:Mb) (g t c:Str):cmpNe (.tup (cutD m.l none (some 3))) (.tup [.str g,.str t,.str c]) = .val (.bl (!is3m g t c m)):=by
 cases m with
 | cleave t' l=>
  refine c_ne rfl ?_
  show max 0 (max 0 (max (deps (l.map .str) + 1) 0)) + 1 < 60
  rw [deps_str]
  decide
 | _=>exact c_ne rfl (of_decide_eq_true rfl)
theorem ne3 (y:Mv) (g t c:Str):cmpNe (.tup (cutD y.l none (some 3))) (.tup [.str g,.str t,.str c]) = .val (.bl (!is3 g t c y)):=by
 cases y with
 | ba m=>exact ne3m m g t c
 | bk m=>
  refine c_ne ?_ ?_
  ·cases m <;> rfl
  ·have:=dep_mb m
   show max 0 (max (dep m.d) 0) + 1 < 60
   omega
 | _=>exact c_ne rfl (of_decide_eq_true rfl)
theorem dl (y:Mv):y.d = .tup y.l:=by cases y with | ba m=>cases m <;> rfl | _=>rfl
theorem dlm (m:Mb):m.d = .tup m.l:=by cases m <;> rfl
theorem and2 {a b c d:Str}:((a == b) && ((c == d) && true)) = decide (a = b/\c = d):=by
 rw [dec_str,dec_str,Bool.and_true]
 by_cases h1:a = b <;> by_cases h2:c = d <;> simp [h1,h2]
theorem g_pr (x y:Mv):F_put_and_rename [x.d,y.d] = rv (pr x y):=by
 cases x with
 | ba m=>
  cases m with
  | put t c k v=>
   rw [dl y]
   refine (congrArg (fun r=>fin (So.bind r _)) (if_val (asb (ne3 y "rename" t c)))).trans ?_
   cases y with
   | re t' a b=>
    rw [show is3 "rename" t c (.re t' a b) = decide (t' = t/\a = c) from and2]
    by_cases h:t' = t/\a = c
    ·rw [decide_eq_true h]
     obtain ⟨rfl,rfl⟩:=h
     refine Eq.trans ?_ (congrArg rv (if_pos ⟨rfl,rfl⟩).symm)
     rfl
    ·rw [decide_eq_false h]
     refine Eq.trans ?_ (congrArg rv (if_neg h).symm)
     rfl
   | ba m=>cases m <;> rfl
   | _=>rfl
  | _=>rfl
 | _=>rfl
theorem g_rp (x y:Mv):F_rename_and_put_back [x.d,y.d] = rv (rp x y):=by
 cases x with
 | re t a b=>
  cases y with
  | bk m=>
   rw [show (Mv.bk m).d = .tup [.str "back",.tup m.l] by rw [← dlm];rfl]
   refine (congrArg (fun r=>fin (So.bind r _)) (if_val (asb (ne3m m "put" t b)))).trans ?_
   cases m with
   | put t' c k v=>
    rw [show is3m "put" t b (.put t' c k v) = decide (t' = t/\c = b) from and2]
    by_cases h:t' = t/\c = b
    ·rw [decide_eq_true h]
     obtain ⟨rfl,rfl⟩:=h
     refine Eq.trans ?_ (congrArg rv (if_pos ⟨rfl,rfl⟩).symm)
     rfl
    ·rw [decide_eq_false h]
     refine Eq.trans ?_ (congrArg rv (if_neg h).symm)
     rfl
   | _=>rfl
  | ba m=>cases m <;> rfl
  | _=>rfl
 | ba m=>cases m <;> rfl
 | _=>rfl
theorem g_tr (x y:Mv):F_two_renames [x.d,y.d] = rv (tr x y):=by
 cases x with
 | re t a b=>
  rw [dl y]
  refine (congrArg (fun r=>fin (So.bind r _)) (if_val (asb (ne3 y "rename" t b)))).trans ?_
  cases y with
  | re t' a' c=>
   rw [show is3 "rename" t b (.re t' a' c) = decide (t' = t/\a' = b) from and2]
   by_cases h:t' = t/\a' = b
   ·rw [decide_eq_true h]
    obtain ⟨rfl,rfl⟩:=h
    refine Eq.trans ?_ (congrArg rv (if_pos ⟨rfl,rfl⟩).symm)
    by_cases hc:c = a
    ·subst hc
     rw [if_pos rfl]
     refine (congrArg (fun r=>fin (ofR (r >>= fun d=>.val (.fz d)) _ .ret)) (ifr_val (b:=true) (asb (c_eq (show eqD (.str c) (.str c) = some true from by show some (c == c) = _;rw [beq_self_eq_true]) (of_decide_eq_true rfl))))).trans rfl
    ·rw [if_neg hc]
     refine (congrArg (fun r=>fin (ofR (r >>= fun d=>.val (.fz d)) _ .ret)) (ifr_val (b:=false) (asb (c_eq (show eqD (.str c) (.str a) = some false from by show some (c == a) = _;rw [dec_str,decide_eq_false hc]) (of_decide_eq_true rfl))))).trans rfl
   ·rw [decide_eq_false h]
    refine Eq.trans ?_ (congrArg rv (if_neg h).symm)
    rfl
  | ba m=>cases m <;> rfl
  | _=>rfl
 | ba m=>cases m <;> rfl
 | _=>rfl
theorem g_ts (x y:Mv):F_two_shifts [x.d,y.d] = rv (ts x y):=by
 cases x with
 | sh t c n=>
  rw [dl y]
  refine (congrArg (fun r=>fin (So.bind r _)) (if_val (asb (ne3 y "shift" t c)))).trans ?_
  cases y with
  | sh t' c' m=>
   rw [show is3 "shift" t c (.sh t' c' m) = decide (t' = t/\c' = c) from and2]
   by_cases h:t' = t/\c' = c
   ·rw [decide_eq_true h]
    obtain ⟨rfl,rfl⟩:=h
    refine Eq.trans ?_ (congrArg rv (if_pos ⟨rfl,rfl⟩).symm)
    refine (congrArg (fun r=>fin (ofR ((r >>= fun x=>.val x.d) >>= fun d=>.val (.fz d)) _ .ret)) (un_idle (x:=sS t' c' (n + m)) (b:=n + m == 0) rfl)).trans ?_
    rw [dec_i]
    by_cases h0:n + m = 0
    ·rw [decide_eq_true h0,if_pos h0]
     rfl
    ·rw [decide_eq_false h0,if_neg h0]
     rfl
   ·rw [decide_eq_false h]
    refine Eq.trans ?_ (congrArg rv (if_neg h).symm)
    rfl
  | ba m=>cases m <;> rfl
  | _=>rfl
 | ba m=>cases m <;> rfl
 | _=>rfl
theorem binv {f:D->D->Res D} {ga gb:Dst->Res D} {δ:Dst} {x y:D} {r:Res D} (h1:ga δ = .val x) (h2:gb δ = .val y) (h3:f x y = r):DL.bin f ga gb δ = r:=by
 unfold DL.bin;rw [h1,h2];exact h3
theorem bnd2 {A B:Res D} {f:D->D->Res D} {x y:D} {r:Res D} (h1:A = .val x) (h2:B = .val y) (h3:f x y = r):(A >>= fun u=>B >>= fun v=>f u v) = r:=by rw [h1,h2];exact h3
theorem ca1 {r:Res DV} {d:D} {F:List D->Res DV} (h:r = .val (.fz d)):((((r >>= fun x=>.val x.d) >>= fun x=>(Res.val ([]:List D)) >>= fun xs=>.val (x :: xs)):Res (List D)) >>= fun xs=>F xs) = F [d]:=by rw [h];rfl
theorem or_val {r s:Res Bool} {a b:Bool} (h:r = .val a) (h':s = .val b):orR r s = .val (a || b):=by
 unfold orR;rw [h,h'];cases a <;> rfl
theorem idle_nu (a b:Int) {n:Int} (h:0 < n):F_is_idle [nU a b n] = .val (.fz (.bl (decide (a % n = 1 % n/\b % n = 0)))):=by
 have q:eqD (nU (a % n) (b % n) n) (nU (1 % n) (0 % n) n) = some (decide (a % n = 1 % n/\b % n = 0)):=by
  show some (true && ((a % n == 1 % n) && ((b % n == 0 % n) && ((n == n) && true)))) = _
  rw [dec_i,dec_i,dec_i,Int.zero_emod]
  congr 1
  by_cases h1:a % n = 1 % n <;> by_cases h2:b % n = 0 <;> simp [h1,h2]
 exact (congrArg (fun r=>fin (ofR (r >>= fun d=>.val (.fz d)) _ .ret)) (bnd2 (bd (e_rnb a b h)) (bd (e_rnb 1 0 h)) (c_eq q (of_decide_eq_true rfl)))).trans rfl
def Mv.wf:Mv->Prop
 | .nu a b n=>0 ≤ a/\a < n/\0 ≤ b/\b < n/\n ≤ 2000
 | _=>True
theorem m_mul {i j:Int} (h0:0 ≤ i) (h:i ≤ 2000):mulD (.int i) (.int j) = .val (.int (i * j)):=if_pos (by
 unfold mulOk
 rw [Bool.or_eq_true,Bool.and_eq_true]
 exact .inl ⟨decide_eq_true (by omega),decide_eq_true (by omega)⟩)
theorem g_tn (x y:Mv) (hx:x.wf):F_two_renumberings [x.d,y.d] = rv (tn x y):=by
 cases x with
 | nu a b n=>
  obtain ⟨a0,a1,b0,b1,n1⟩:=hx
  have hn:0 < n:=by omega
  cases y with
  | nu a' b' n'=>
   refine (congrArg (fun r=>fin (So.bind r _)) (if_val (asb (c_ne (show eqD (.int n') (.int n) = some (decide (n' = n)) from by show some (n' == n) = _;rw [dec_i]) (of_decide_eq_true rfl))))).trans ?_
   by_cases h:n' = n
   ·rw [decide_eq_true h]
    subst h
    refine Eq.trans ?_ (congrArg rv (if_pos rfl).symm)
    have e1:F_renumbering [.int (a * a'),.int (b * a' + b'),.int n'] = _:=e_rnb _ _ hn
    have e2:∀ i j,0 ≤ i->i ≤ 2000->DL.bin mulD (fun _=>Res.val (.int i)) (fun _=>Res.val (.int j)) [] = .val (.int (i * j)):=fun i j p q=>m_mul p q
    have k:(calO F_renumbering (consA (DL.bin mulD (bin ixD (gVar 0) (fun _=>.val (.int 1))) (bin ixD (gVar 1) (fun _=>.val (.int 1)))) (consA (DL.bin addX (DL.bin mulD (bin ixD (gVar 0) (fun _=>.val (.int 2))) (bin ixD (gVar 1) (fun _=>.val (.int 1)))) (bin ixD (gVar 1) (fun _=>.val (.int 2)))) (consA (bin ixD (gVar 0) (fun _=>.val (.int 3))) nilA)))) (startD 2 [(Mv.nu a b n').d,(Mv.nu a' b' n').d]) = .val (.fz (nU (a * a' % n') ((b * a' + b') % n') n')):=by
     unfold calO
     rw [cv (d:=.int (a * a')) (m_mul a0 (by omega)) (cv (d:=.int (b * a' + b')) (binv (m_mul b0 (by omega)) rfl rfl) (cv rfl rfl))]
     exact e1
    refine (congrArg (fun r=>fin (ofR ((r >>= fun x=>.val x.d) >>= fun d=>.val (.fz d)) _ .ret)) ((ca1 k).trans (un_idle (idle_nu _ _ hn)))).trans ?_
    rw [Int.emod_emod,Int.emod_emod]
    by_cases h0:a * a' % n' = 1 % n'/\(b * a' + b') % n' = 0
    ·rw [decide_eq_true h0,if_pos h0]
     rfl
    ·rw [decide_eq_false h0,if_neg h0]
     rfl
   ·rw [decide_eq_false h]
    refine Eq.trans ?_ (congrArg rv (if_neg h).symm)
    rfl
  | ba m=>cases m <;> rfl
  | _=>rfl
 | ba m=>cases m <;> rfl
 | _=>rfl
def bE:Mv->Mv->Bool
 | .ba m,.bk m'=>decide (m' = m)
 | _,_=>false
theorem e_mv (m:Mb) (x:Mv):eqD m.d x.d = some (match x with | .ba m'=>decide (m = m') | _=>false):=by
 cases x with
 | ba m'=>exact eq_mb m m'
 | bk m'=>cases m <;> cases m' <;> rfl
 | sh t c n=>cases m with | put t c k v=>cases k <;> rfl | _=>rfl
 | re t a b=>cases m with | put t c k v=>cases k <;> rfl | _=>rfl
 | nu a b n=>cases m with | put t c k v=>cases k <;> rfl | _=>rfl
theorem e_bk (x y:Mv):eqD y.d (bK x.d) = some (bE x y):=by
 cases y with
 | bk m=>
  show (match eqD (.str "back") (.str "back"),eqDs [m.d] [x.d] with | some a,some b=>some (a && b) | _,_=>none) = _
  rw [show eqDs [m.d] [x.d] = (match eqD m.d x.d,eqDs [] [] with | some a,some b=>some (a && b) | _,_=>none) from rfl,e_mv m x]
  cases x with
  | ba m'=>
   show some (true && (decide (m = m') && true)) = some (decide (m = m'))
   simp
  | _=>rfl
 | ba m=>
  cases x with
  | ba m'=>cases m <;> cases m' <;> rfl
  | _=>cases m <;> rfl
 | _=>
  cases x with
  | ba m'=>cases m' <;> rfl
  | _=>rfl
theorem dep_mv (x:Mv):dep x.d < 60:=by
 cases x with
 | ba m=>have:=dep_mb m;show dep m.d < 60;omega
 | bk m=>
  have:=dep_mb m
  show max 0 (max (dep m.d) 0) + 1 < 60
  omega
 | _=>exact of_decide_eq_true rfl
theorem bg_end (x y:Mv) {δ:Dst} (h:bg x y = if bE x y || bE y x then some [] else none):fin (ofR ((if (bE x y || bE y x) = true then lstD nilA δ else (.val .non:Res D)) >>= fun d=>.val (.fz d)) δ .ret) = rv (bg x y):=by
 rw [h]
 cases (bE x y || bE y x) <;> rfl
theorem g_bg (x y:Mv):F_both_gone [x.d,y.d] = rv (bg x y):=by
 have key:∀ δ:Dst,orR (asB (cmpEq y.d (bK x.d))) (asB (cmpEq x.d (bK y.d))) = .val (bE x y || bE y x):=fun δ=>or_val (asb (c_eq (e_bk x y) (dep_mv y))) (asb (c_eq (e_bk y x) (dep_mv x)))
 cases x with
 | ba m=>
  cases m with
  | cap t c n=>cases y <;> rfl
  | _=>
   refine (congrArg (fun r=>fin (ofR (r >>= fun d=>.val (.fz d)) _ .ret)) (ifr_val (key []))).trans (bg_end _ y ?_)
   cases y with
   | bk m'=>simp [bg,bE,isCap]
   | _=>rfl
 | bk m=>
  cases m with
  | put t c k v=>cases y <;> rfl
  | _=>
   refine (congrArg (fun r=>fin (ofR (r >>= fun d=>.val (.fz d)) _ .ret)) (ifr_val (key []))).trans (bg_end _ y ?_)
   cases y with
   | ba m'=>simp [bg,bE,isPut]
   | _=>rfl
 | _=>
  refine (congrArg (fun r=>fin (ofR (r >>= fun d=>.val (.fz d)) _ .ret)) (ifr_val (key []))).trans (bg_end _ y ?_)
  cases y <;> rfl
def tog (x y:Mv):Option (List Mv):=bg x y <|> ts x y <|> tn x y <|> tr x y <|> pr x y <|> rp x y
theorem g_tog (x y:Mv) (hx:x.wf):F_together [x.d,y.d] = rv (tog x y):=by
 rw [tg_of (g_bg x y) (g_ts x y) (g_tn x y hx) (g_tr x y) (g_pr x y) (g_rp x y)]
 unfold tog rv
 cases bg x y <;> cases ts x y <;> cases tn x y <;> cases tr x y <;> cases pr x y <;> cases rp x y <;> rfl
end L48
namespace L48
open PySem L2 DL
theorem at_ok {α:Type} {l:List α} {j:Int} {d:α} (h0:0 ≤ j) (h:l[j.toNat]? = some d):atI l j = some d:=by
 have hl:=(List.getElem?_eq_some_iff.mp h).1
 unfold atI ixN
 rw [if_pos h0,if_pos (by omega)]
 exact h
theorem ix_lst {l:List D} {j:Int} {d:D} (h0:0 ≤ j) (h:l[j.toNat]? = some d):ixD (.lst l) (.int j) = .val d:=by
 show (match atI l j with | some d=>(.val d:Res D) | none=>.bad) = _
 rw [at_ok h0 h]
def tg (ms:List Mv) (j:Nat):Option (List Mv):=match ms[j]?,ms[j + 1]? with
 | some x,some y=>tog x y
 | _,_=>none
def ftB:Dst->So:=ifS (fun δ=>asB (DL.bin (isND true) (fun δ=>(calO F_together (consA (DL.bin ixD (gVar 0) (gVar 1)) (consA (DL.bin ixD (gVar 0) (DL.bin addX (gVar 1) (fun _=>.val (.int 1)))) nilA))) δ >>= fun x=>.val x.d) (fun _=>.val .non) δ)) (retS fun δ=>(gVar 1) δ >>= fun d=>.val (.fz d)) nilS
theorem is_ro (o:Option (List D)):isND true (ro o) .non = .val (.bl o.isSome):=by cases o <;> rfl
theorem ft_body {ms:List Mv} (wf:∀ m ∈ ms,m.wf) {j:Nat} (hj:j + 1 < ms.length):ftB [some (.fz (.lst (ms.map Mv.d))),some (.fz (.int (0 + (j:Int))))] = if (tg ms j).isSome then .ret (.fz (.int (0 + (j:Int)))) else .next [some (.fz (.lst (ms.map Mv.d))),some (.fz (.int (0 + (j:Int))))]:=by
 have h1:ms[j]? = some ms[j]:=List.getElem?_eq_getElem (by omega)
 have h2:ms[j + 1]? = some ms[j + 1]:=List.getElem?_eq_getElem hj
 have e:tg ms j = tog ms[j] ms[j + 1]:=by unfold tg;rw [h1,h2]
 have k:calO F_together (consA (DL.bin ixD (gVar 0) (gVar 1)) (consA (DL.bin ixD (gVar 0) (DL.bin addX (gVar 1) (fun _=>.val (.int 1)))) nilA)) [some (.fz (.lst (ms.map Mv.d))),some (.fz (.int (0 + (j:Int))))] = rv (tg ms j):=by
  unfold calO
  rw [cv (d:=ms[j].d) (ix_lst (by omega) (by rw [show (0 + (j:Int)).toNat = j by omega,List.getElem?_map,h1];rfl)) (cv (d:=ms[j + 1].d) (ix_lst (j:=0 + (j:Int) + 1) (by omega) (by rw [show (0 + (j:Int) + 1).toNat = j + 1 by omega,List.getElem?_map,h2];rfl)) rfl)]
  rw [e]
  exact g_tog _ _ (wf _ (List.getElem_mem _))
 refine (if_val (b:=(tg ms j).isSome) (asb (binv (bd k) rfl ?_))).trans ?_
 ·rw [is_ro]
  cases tg ms j <;> rfl
 ·cases tg ms j <;> rfl
def ftv (o:Option Nat):D:=match o with
 | some j=>.int (0 + (j:Int))
 | none=>.non
theorem ft_for {ms:List Mv} (wf:∀ m ∈ ms,m.wf):∀ (js:List Nat) (v:Option DV),(∀ j ∈ js,j + 1 < ms.length)->So.bind (forS (bName 1) ftB (js.map fun (i:Nat)=>.int (0 + (i:Int))) [some (.fz (.lst (ms.map Mv.d))),v]) (fun _=>.ret (.fz .non)) = .ret (.fz (ftv (js.find? fun j=>(tg ms j).isSome)))
 | [],v,_=>rfl
 | j :: js,v,h=>by
  show So.bind (turnS (ftB [some (.fz (.lst (ms.map Mv.d))),some (.fz (.int (0 + (j:Int))))]) (forS (bName 1) ftB (js.map fun (i:Nat)=>.int (0 + (i:Int))))) _ = _
  rw [ft_body wf (h j (by simp)),List.find?_cons]
  cases hs:(tg ms j).isSome with
  | true=>rfl
  | false=>exact ft_for wf js _ fun i hi=>h i (by simp [hi])
def ft (ms:List Mv):Option Nat:=(List.range (ms.length - 1)).find? fun j=>(tg ms j).isSome
theorem e_ft {ms:List Mv} (wf:∀ m ∈ ms,m.wf) (hl:ms.length ≤ 1000):F_first_taken [.lst (ms.map Mv.d)] = .val (.fz (ftv (ft ms))):=by
 have r:range1 [.int (((ms.map Mv.d).length:Int) - 1)] = .val ((List.range (ms.length - 1)).map fun (i:Nat)=>.int (0 + (i:Int))):=by
  show (if okI _ = true then (Res.val (rangeL 0 _):Res (List D)) else .bad) = _
  rw [List.length_map,if_pos (by unfold okI;rw [Bool.and_eq_true];exact ⟨decide_eq_true (by omega),decide_eq_true (by omega)⟩)]
  unfold rangeL
  rw [show ((ms.length:Int) - 1).toNat = ms.length - 1 by omega]
 refine (congrArg (fun r=>fin (So.bind r _)) (loop_val (b:=bName 1) (body:=ftB) (δ:=[some (.fz (.lst (ms.map Mv.d))),none]) r)).trans ?_
 exact congrArg fin (ft_for wf _ none fun j hj=>by have:=List.mem_range.mp hj;omega)
end L48
namespace L48
open PySem L2 DL
theorem cut_take (l:List D) (k:Nat):cutD l none (some (k:Int)) = l.take k:=by
 unfold cutD
 rw [HT.sIx_none,HT.sIx_nat,List.drop_zero,Nat.sub_zero]
 by_cases h:k ≤ l.length
 ·rw [Nat.min_eq_left h]
 ·rw [Nat.min_eq_right (by omega),List.take_of_length_le (by omega),List.take_of_length_le (by omega)]
theorem cut_drop (l:List D) (k:Nat):cutD l (some (k:Int)) none = l.drop k:=by
 unfold cutD
 rw [HT.sIx_none,HT.sIx_nat]
 by_cases h:k ≤ l.length
 ·rw [Nat.min_eq_left h]
  exact List.take_of_length_le (by rw [List.length_drop];omega)
 ·rw [Nat.min_eq_right (by omega),List.drop_of_length_le (by omega),List.drop_of_length_le (by omega)]
  exact List.take_nil
theorem lenOk_of {n:Nat} (h:n ≤ 100000):lenOk n = true:=by
 unfold lenOk
 exact decide_eq_true (by rw [sizeLine_eq];omega)
theorem add_lst {a b:List D} (h:a.length + b.length ≤ 100000):addX (.lst a) (.lst b) = .val (.lst (a ++ b)):=by
 show (if lenOk (a.length + b.length) = true then (Res.val (.lst (a ++ b)):Res D) else .bad) = _
 rw [if_pos (lenOk_of h)]
theorem addO_val {ga gb:Dst->Res D} {δ:Dst} {a b:List D} (h1:ga δ = .val (.lst a)) (h2:gb δ = .val (.lst b)) (h:a.length + b.length ≤ 100000):addO ga gb δ = .val (.ol (a ++ b)):=by
 unfold addO
 rw [h1,h2]
 show (if lenOk (a.length + b.length) = true then (Res.val (.ol (a ++ b)):Res DV) else .bad) = _
 rw [if_pos (lenOk_of h)]
theorem set_val {i:Nat} {g:Dst->Res DV} {δ:Dst} {x:DV} (h:g δ = .val x):setS i g δ = .next (δ.set i (some x)):=by
 unfold setS;rw [h];rfl
def lPl:Dst->So:=setS 3 fun δ=>(brwE 1 (fun δ=>(calO F_first_taken (consA (gVar 1) nilA)) δ >>= fun x=>.val x.d)) δ >>= fun d=>.val (.fz d)
noncomputable def lBd:Dst->So:=frzS 1 (seqS (setS 1 (addO (DL.bin addX (sliceY (gVar 1) (fun _=>.val none) (fun δ=>asI ((gVar 3) δ))) (fun δ=>(calO F_together (consA (DL.bin ixD (gVar 1) (gVar 3)) (consA (DL.bin ixD (gVar 1) (DL.bin addX (gVar 3) (fun _=>.val (.int 1)))) nilA))) δ >>= fun x=>.val x.d)) (sliceY (gVar 1) (fun δ=>asI ((DL.bin addX (gVar 3) (fun _=>.val (.int 2))) δ)) (fun _=>.val none)))) lPl)
def lC:Dst->Res Bool:=fun δ=>asB (DL.bin (isND true) (gVar 3) (fun _=>.val .non) δ)
theorem l_pl {R W V:Option DV} {ms:List Mv} (wf:∀ m ∈ ms,m.wf) (hl:ms.length ≤ 1000):lPl [R,some (.ol (ms.map Mv.d)),W,V] = .next [R,some (.ol (ms.map Mv.d)),W,some (.fz (ftv (ft ms)))]:=by
 have k:brwE 1 (fun δ=>(calO F_first_taken (consA (gVar 1) nilA)) δ >>= fun x=>.val x.d) [R,some (.ol (ms.map Mv.d)),W,V] = .val (ftv (ft ms)):=by
  show (match ((F_first_taken [.lst (ms.map Mv.d)]) >>= fun x=>(.val x.d:Res D)) with | .val d=>if flatD d = true then (.val d:Res D) else .bad | _=>.bad) = _
  rw [bd (e_ft wf hl)]
  cases ft ms <;> rfl
 refine set_val ?_
 rw [k]
 rfl
def nxt (ms:List Mv) (k:Nat) (r:List Mv):List Mv:=ms.take k ++ r ++ ms.drop (k + 2)
theorem tog_wf {x y:Mv} {r:List Mv} (hx:x.wf) (hy:y.wf) (h:tog x y = some r):r.length ≤ 1/\∀ z ∈ r,z.wf:=by
 have key:∀ o:Option (List Mv),(∀ r,o = some r->r.length ≤ 1/\∀ z ∈ r,z.wf)->∀ o':Option (List Mv),(∀ r,o' = some r->r.length ≤ 1/\∀ z ∈ r,z.wf)->∀ r,(o <|> o') = some r->r.length ≤ 1/\∀ z ∈ r,z.wf:=fun o h1 o' h2 r e=>by
  cases o with
  | none=>exact h2 r e
  | some q=>exact h1 r e
 have w1:∀ {z:Mv},z.wf->∀ u ∈ [z],u.wf:=fun h u hu=>by rw [List.mem_singleton.mp hu];exact h
 refine key _ (fun r e=>?_) _ (key _ (fun r e=>?_) _ (key _ (fun r e=>?_) _ (key _ (fun r e=>?_) _ (key _ (fun r e=>?_) _ (fun r e=>?_))))) r h
 ·unfold bg at e
  split at e
  ·split at e
   ·cases e
   ·split at e <;> cases e
    exact ⟨by simp,by simp⟩
  ·split at e
   ·cases e
   ·split at e <;> cases e
    exact ⟨by simp,by simp⟩
  ·cases e
 ·unfold ts at e
  split at e
  ·split at e
   ·cases e
    split
    ·exact ⟨by simp,by simp⟩
    ·exact ⟨by simp,w1 trivial⟩
   ·cases e
  ·cases e
 ·unfold tn at e
  split at e
  ·rename_i a b n a' b' n'
   split at e
   ·cases e
    split
    ·exact ⟨by simp,by simp⟩
    ·obtain ⟨p1,p2,p3,p4,p5⟩:=hx
     have hn:0 < n:=by omega
     exact ⟨by simp,w1 ⟨Int.emod_nonneg _ (by omega),Int.emod_lt_of_pos _ hn,Int.emod_nonneg _ (by omega),Int.emod_lt_of_pos _ hn,p5⟩⟩
   ·cases e
  ·cases e
 ·unfold tr at e
  split at e
  ·split at e
   ·cases e
    split
    ·exact ⟨by simp,by simp⟩
    ·exact ⟨by simp,w1 trivial⟩
   ·cases e
  ·cases e
 ·unfold pr at e
  split at e
  ·split at e <;> cases e
   exact ⟨by simp,w1 trivial⟩
  ·cases e
 ·unfold rp at e
  split at e
  ·split at e <;> cases e
   exact ⟨by simp,w1 trivial⟩
  ·cases e
theorem tg_at {ms:List Mv} {k:Nat} {r:List Mv} (h:tg ms k = some r):∃ x y,ms[k]? = some x/\ms[k + 1]? = some y/\tog x y = some r:=by
 unfold tg at h
 split at h
 ·rename_i x y h1 h2
  exact ⟨x,y,h1,h2,h⟩
 ·cases h
theorem nxt_ok {ms:List Mv} (wf:∀ m ∈ ms,m.wf) {k:Nat} {r:List Mv} (h:tg ms k = some r):(∀ m ∈ nxt ms k r,m.wf)/\(nxt ms k r).length < ms.length:=by
 obtain ⟨x,y,h1,h2,h3⟩:=tg_at h
 have hk:=(List.getElem?_eq_some_iff.mp h2).1
 obtain ⟨q1,q2⟩:=tog_wf (wf x (List.mem_of_getElem? h1)) (wf y (List.mem_of_getElem? h2)) h3
 constructor
 ·intro m hm
  unfold nxt at hm
  rw [List.mem_append,List.mem_append] at hm
  rcases hm with (hm | hm) | hm
  ·exact wf m (List.mem_of_mem_take hm)
  ·exact q2 m hm
  ·exact wf m (List.mem_of_mem_drop hm)
 ·unfold nxt
  rw [List.length_append,List.length_append,List.length_take,List.length_drop]
  omega
theorem l_bd {R W:Option DV} {ms:List Mv} (wf:∀ m ∈ ms,m.wf) (hl:ms.length ≤ 1000) {k:Nat} {r:List Mv} (h:tg ms k = some r):lBd [R,some (.ol (ms.map Mv.d)),W,some (.fz (.int (0 + (k:Int))))] = .next [R,some (.ol ((nxt ms k r).map Mv.d)),W,some (.fz (ftv (ft (nxt ms k r))))]:=by
 obtain ⟨x,y,h1,h2,h3⟩:=tg_at h
 obtain ⟨n1,n2⟩:=nxt_ok wf h
 have hk:=(List.getElem?_eq_some_iff.mp h2).1
 have q:=(tog_wf (wf x (List.mem_of_getElem? h1)) (wf y (List.mem_of_getElem? h2)) h3).1
 rw [Int.zero_add]
 let δ:Dst:=[R,some (.fz (.lst (ms.map Mv.d))),W,some (.fz (.int (k:Int)))]
 have a1:sliceY (gVar 1) (fun _=>.val none) (fun δ=>asI ((gVar 3) δ)) δ = .val (.lst ((ms.take k).map Mv.d)):=by
  show (.val (.lst (cutD (ms.map Mv.d) none (some (k:Int)))):Res D) = _
  rw [cut_take,List.map_take]
 have a2:calO F_together (consA (DL.bin ixD (gVar 1) (gVar 3)) (consA (DL.bin ixD (gVar 1) (DL.bin addX (gVar 3) (fun _=>.val (.int 1)))) nilA)) δ = .val (.fz (.lst (r.map Mv.d))):=by
  unfold calO
  rw [cv (d:=x.d) (ix_lst (j:=(k:Int)) (by omega) (by rw [show (k:Int).toNat = k by omega,List.getElem?_map,h1];rfl)) (cv (d:=y.d) (ix_lst (j:=(k:Int) + 1) (by omega) (by rw [show ((k:Int) + 1).toNat = k + 1 by omega,List.getElem?_map,h2];rfl)) rfl)]
  refine (g_tog x y (wf x (List.mem_of_getElem? h1))).trans ?_
  rw [h3]
  rfl
 have a3:sliceY (gVar 1) (fun δ=>asI ((DL.bin addX (gVar 3) (fun _=>.val (.int 2))) δ)) (fun _=>.val none) δ = .val (.lst ((ms.drop (k + 2)).map Mv.d)):=by
  show (.val (.lst (cutD (ms.map Mv.d) (some ((k:Int) + 2)) none)):Res D) = _
  rw [show (k:Int) + 2 = ((k + 2:Nat):Int) by omega,cut_drop,List.map_drop]
 have a4:=addO_val (δ:=δ) (ga:=DL.bin addX (sliceY (gVar 1) (fun _=>.val none) (fun δ=>asI ((gVar 3) δ))) (fun δ=>(calO F_together (consA (DL.bin ixD (gVar 1) (gVar 3)) (consA (DL.bin ixD (gVar 1) (DL.bin addX (gVar 3) (fun _=>.val (.int 1)))) nilA))) δ >>= fun x=>.val x.d)) (gb:=sliceY (gVar 1) (fun δ=>asI ((DL.bin addX (gVar 3) (fun _=>.val (.int 2))) δ)) (fun _=>.val none)) (binv a1 (bd a2) (add_lst (by simp;omega))) a3 (by simp;omega)
 have e:(ms.take k).map Mv.d ++ r.map Mv.d ++ (ms.drop (k + 2)).map Mv.d = (nxt ms k r).map Mv.d:=by unfold nxt;rw [List.map_append,List.map_append]
 rw [e] at a4
 refine (congrArg (fun s=>So.bind s lPl) (set_val (i:=1) a4)).trans ?_
 exact l_pl n1 (by omega)
inductive Run:List Mv->List Mv->Prop
 | done {ms:List Mv} (h:ft ms = none):Run ms ms
 | step {ms l:List Mv} {k:Nat} {r:List Mv} (h:ft ms = some k) (hr:tg ms k = some r) (t:Run (nxt ms k r) l):Run ms l
theorem run_it {R W:Option DV} {ms l:List Mv} (t:Run ms l):(∀ m ∈ ms,m.wf)->ms.length ≤ 1000->∃ n,iterW lC lBd n [R,some (.ol (ms.map Mv.d)),W,some (.fz (ftv (ft ms)))] = some (.next [R,some (.ol (l.map Mv.d)),W,some (.fz .non)]):=by
 induction t with
 | done h=>
  intro wf hl
  refine ⟨1,?_⟩
  rw [h]
  rfl
 | step h hr t ih=>
  rename_i ms l k r
  intro wf hl
  obtain ⟨n1,n2⟩:=nxt_ok wf hr
  obtain ⟨n,hn⟩:=ih n1 (by omega)
  refine ⟨n + 1,?_⟩
  rw [h]
  show (match lC [R,some (.ol (ms.map Mv.d)),W,some (.fz (.int (0 + (k:Int))))] with
   | .val true=>(match lBd [R,some (.ol (ms.map Mv.d)),W,some (.fz (.int (0 + (k:Int))))] with
    | .next δ'=>iterW lC lBd n δ'
    | .cont δ'=>iterW lC lBd n δ'
    | .brk δ'=>some (.next δ')
    | .ret x=>some (.ret x)
    | .exc x δ'=>some (.exc x δ')
    | .bad=>some .bad)
   | .val false=>some (.next [R,some (.ol (ms.map Mv.d)),W,some (.fz (.int (0 + (k:Int))))])
   | .exc x=>some (.exc x [R,some (.ol (ms.map Mv.d)),W,some (.fz (.int (0 + (k:Int))))])
   | .bad=>some .bad) = _
  rw [l_bd wf hl hr]
  exact hn
theorem ext_for:∀ (rows:List (D × List Mv)) (L:List Mv) (R W V:Option DV),(∀ w ∈ rows,F_flat [w.1,.bl false] = .val (.fz (.lst (w.2.map Mv.d))))->(L ++ rows.flatMap (·.2)).length ≤ 1000 →
  ∃ W',forS (bName 2) (extS 1 (consA (fun δ=>(calO F_flat (consA (gVar 2) (consA (fun _=>.val (.bl false)) nilA))) δ >>= fun x=>.val x.d) nilA)) (rows.map (·.1)) [R,some (.ol (L.map Mv.d)),W,V] = .next [R,some (.ol ((L ++ rows.flatMap (·.2)).map Mv.d)),W',V]
 | [],L,R,W,V,_,_=>⟨W,by rw [List.flatMap_nil,List.append_nil];rfl⟩
 | w :: rows,L,R,W,V,h,hl=>by
  have hw:=h w (by simp)
  rw [List.flatMap_cons,← List.append_assoc] at hl ⊢
  obtain ⟨W',e⟩:=ext_for rows (L ++ w.2) R (some (.fz w.1)) V (fun u hu=>h u (by simp [hu])) hl
  refine ⟨W',?_⟩
  rw [← e]
  show turnS (extS 1 _ [R,some (.ol (L.map Mv.d)),some (.fz w.1),V]) _ = _
  have k:(consA (fun δ=>(calO F_flat (consA (gVar 2) (consA (fun _=>.val (.bl false)) nilA))) δ >>= fun x=>.val x.d) nilA) [R,some (.ol (L.map Mv.d)),some (.fz w.1),V] = .val [.lst (w.2.map Mv.d)]:=cv (bd hw) rfl
  have:extS 1 (consA (fun δ=>(calO F_flat (consA (gVar 2) (consA (fun _=>.val (.bl false)) nilA))) δ >>= fun x=>.val x.d) nilA) [R,some (.ol (L.map Mv.d)),some (.fz w.1),V] = .next [R,some (.ol ((L ++ w.2).map Mv.d)),some (.fz w.1),V]:=by
   show (match consA _ _ _ with | .val [.lst es]=>if lenOk ((L.map Mv.d).length + es.length) = true then So.next _ else .bad | .exc x=>.exc x _ | _=>.bad) = _
   rw [k]
   show (if lenOk ((L.map Mv.d).length + (w.2.map Mv.d).length) = true then So.next [R,some (.ol (L.map Mv.d ++ w.2.map Mv.d)),some (.fz w.1),V] else .bad) = _
   rw [if_pos (lenOk_of (by simp at hl ⊢;omega)),List.map_append]
  rw [this]
  rfl
theorem e_laid {rows:List (D × List Mv)} {l:List Mv} (h:∀ w ∈ rows,F_flat [w.1,.bl false] = .val (.fz (.lst (w.2.map Mv.d)))) (wf:∀ m ∈ rows.flatMap (·.2),m.wf) (hl:(rows.flatMap (·.2)).length ≤ 1000) (t:Run (rows.flatMap (·.2)) l):F_laid [.lst (rows.map (·.1))] = .val (.ol (l.map Mv.d)):=by
 obtain ⟨W',e⟩:=ext_for rows [] (some (.fz (.lst (rows.map (·.1))))) none none h hl
 rw [List.nil_append] at e
 obtain ⟨n,hn⟩:=run_it (R:=some (.fz (.lst (rows.map (·.1))))) (W:=W') t wf hl
 have w:=whileS_of hn
 have a:F_laid [.lst (rows.map (·.1))] = fin (So.bind (forS (bName 2) (extS 1 (consA (fun δ=>(calO F_flat (consA (gVar 2) (consA (fun _=>.val (.bl false)) nilA))) δ >>= fun x=>.val x.d) nilA)) (rows.map (·.1)) [some (.fz (.lst (rows.map (·.1)))),some (.ol []),none,none]) (seqS lPl (seqS (whileS lC lBd) (retV 1)))):=rfl
 rw [a,show (some (DV.ol []):Option DV) = some (.ol (([]:List Mv).map Mv.d)) from rfl,e]
 show fin (So.bind (lPl _) (seqS (whileS lC lBd) (retV 1))) = _
 rw [l_pl wf hl]
 show fin (So.bind (whileS lC lBd _) (retV 1)) = _
 rw [w]
 rfl
end L48
namespace L48
open PySem L2 DL
abbrev Gr:=Sum Str Int
def Mb.t:Mb->Str
 | .put t _ _ _=>t
 | .part t _ _ _ _=>t
 | .split t _ _=>t
 | .rows t _=>t
 | .cleave t _=>t
 | .cap t _ _=>t
def grp:Mv->Gr
 | .ba m=>.inl m.t
 | .bk m=>.inl m.t
 | .sh t _ _=>.inl t
 | .re t _ _=>.inl t
 | .nu _ _ n=>.inr n
theorem tog_sep {x y:Mv} (h:grp x ≠ grp y):tog x y = none:=by
 have b1:bg x y = none:=by
  unfold bg
  split
  ·rename_i m m'
   split
   ·rfl
   ·rw [if_neg]
    rintro rfl
    exact h rfl
  ·rename_i m m'
   split
   ·rfl
   ·rw [if_neg]
    rintro rfl
    exact h rfl
  ·rfl
 have b2:ts x y = none:=by
  unfold ts
  split
  ·rw [if_neg]
   rintro ⟨rfl,rfl⟩
   exact h rfl
  ·rfl
 have b3:tn x y = none:=by
  unfold tn
  split
  ·rw [if_neg]
   rintro rfl
   exact h rfl
  ·rfl
 have b4:tr x y = none:=by
  unfold tr
  split
  ·rw [if_neg]
   rintro ⟨rfl,rfl⟩
   exact h rfl
  ·rfl
 have b5:pr x y = none:=by
  unfold pr
  split
  ·rw [if_neg]
   rintro ⟨rfl,rfl⟩
   exact h rfl
  ·rfl
 have b6:rp x y = none:=by
  unfold rp
  split
  ·rw [if_neg]
   rintro ⟨rfl,rfl⟩
   exact h rfl
  ·rfl
 unfold tog
 rw [b1,b2,b3,b4,b5,b6]
 rfl
def Irr (p:List Mv):Prop:=∀ i,tg p i = none
theorem tg_lt {p q:List Mv} {i:Nat} (h:i + 1 < p.length):tg (p ++ q) i = tg p i:=by
 unfold tg
 rw [List.getElem?_append_left (by omega),List.getElem?_append_left h]
theorem tg_ge {p q:List Mv} {i:Nat}:tg (p ++ q) (p.length + i) = tg q i:=by
 unfold tg
 rw [List.getElem?_append_right (by omega),List.getElem?_append_right (by omega),show p.length + i - p.length = i by omega,show p.length + i + 1 - p.length = i + 1 by omega]
theorem irr_nil:Irr []:=fun i=>rfl
theorem irr_one (x:Mv):Irr [x]:=fun i=>by
 unfold tg
 rw [show ([x]:List Mv)[i + 1]? = none from by simp]
 cases ([x]:List Mv)[i]? <;> rfl
theorem irr_two {x y:Mv} (h:tog x y = none):Irr [x,y]:=fun i=>by
 cases i with
 | zero=>exact h
 | succ i=>exact irr_one y i
def Bd (p q:List Mv):Prop:=∀ x y,p.getLast? = some x->q.head? = some y->tog x y = none
theorem irr_app {p q:List Mv} (hp:Irr p) (hq:Irr q) (hb:Bd p q):Irr (p ++ q):=fun i=>by
 by_cases h1:i + 1 < p.length
 ·rw [tg_lt h1];exact hp i
 ·by_cases h2:i + 1 = p.length
  ·unfold tg
   rw [List.getElem?_append_left (by omega),List.getElem?_append_right (by omega),h2,Nat.sub_self]
   have e:p.getLast? = p[i]?:=by rw [List.getLast?_eq_getElem?];congr 1;omega
   cases hx:p[i]? with
   | none=>rfl
   | some x=>
    cases hy:q[0]? with
    | none=>rfl
    | some y=>exact hb x y (by rw [e,hx]) (by rw [List.head?_eq_getElem?,hy])
  ·have:i = p.length + (i - p.length):=by omega
   rw [this,tg_ge]
   exact hq _
theorem run_irr {p:List Mv} (h:Irr p):Run p p:=.done (by
 unfold ft
 rw [List.find?_eq_none]
 intro j _
 rw [h j]
 simp)
theorem run_pair {p q:List Mv} {x y:Mv} {r e:List Mv} (hp:Irr (p ++ [x])) (h:tog x y = some r) (t:Run (p ++ r ++ q) e):Run (p ++ [x,y] ++ q) e:=by
 have a0:∀ i,i < p.length->tg (p ++ [x,y] ++ q) i = none:=fun i hi=>by
  rw [show p ++ [x,y] ++ q = (p ++ [x]) ++ (y :: q) by simp,tg_lt (by simp;omega)]
  exact hp i
 have a1:tg (p ++ [x,y] ++ q) p.length = some r:=by
  rw [List.append_assoc,show p.length = p.length + 0 from rfl,tg_ge]
  exact h
 refine .step (k:=p.length) (r:=r) ?_ a1 ?_
 ·unfold ft
  rw [List.find?_eq_some_iff_append]
  refine ⟨by rw [a1];rfl,List.range p.length,(List.range' (p.length + 1) ((p ++ [x,y] ++ q).length - 1 - (p.length + 1))),?_,?_⟩
  ·rw [List.range_eq_range',List.range_eq_range']
   have e1:(p ++ [x,y] ++ q).length - 1 = p.length + (1 + ((p ++ [x,y] ++ q).length - 1 - (p.length + 1))):=by simp;omega
   rw [e1,← List.range'_append_1,← List.range'_append_1]
   simp
   omega
  ·intro a ha
   rw [a0 a (List.mem_range.mp ha)]
   rfl
 ·have e1:(p ++ [x,y] ++ q).take p.length = p:=by simp
  have e2:(p ++ [x,y] ++ q).drop (p.length + 2) = q:=by
   rw [List.drop_append_of_le_length (by simp),List.drop_eq_nil_of_le (by simp),List.nil_append]
  have:nxt (p ++ [x,y] ++ q) p.length r = p ++ r ++ q:=by
   unfold nxt
   rw [e1,e2]
  rw [this]
  exact t
def Goes (G:Gr->Prop) (l m:List Mv):Prop:=∀ p q e,Irr p->(∀ x,p.getLast? = some x->¬ G (grp x))->Run (p ++ m ++ q) e->Run (p ++ l ++ q) e
theorem Goes.refl {G:Gr->Prop} {l:List Mv}:Goes G l l:=fun _ _ _ _ _ t=>t
theorem Goes.trans {G:Gr->Prop} {l m n:List Mv} (a:Goes G l m) (b:Goes G m n):Goes G l n:=fun p q e hp hg t=>a p q e hp hg (b p q e hp hg t)
theorem Goes.mono {G G':Gr->Prop} {l m:List Mv} (a:Goes G l m) (h:∀ g,G g->G' g):Goes G' l m:=fun p q e hp hg t=>a p q e hp (fun x hx z=>hg x hx (h _ z)) t
theorem Goes.post {G:Gr->Prop} {l m:List Mv} (a:Goes G l m) (b:List Mv):Goes G (l ++ b) (m ++ b):=fun p q e hp hg t=>by
 have:=a p (b ++ q) e hp hg (by simpa using t)
 simpa using this
theorem bd_of {G:Gr->Prop} {p a:List Mv} (hg:∀ x,p.getLast? = some x->¬ G (grp x)) (ha:∀ y,a.head? = some y->G (grp y)):Bd p a:=fun x y hx hy=>tog_sep fun z=>hg x hx (z ▸ ha y hy)
theorem Goes.pre {G G':Gr->Prop} {l m:List Mv} (b:Goes G' l m) {a:List Mv} (ha:Irr a) (hG:∀ y,a.head? = some y->G (grp y)) (hl:∀ x,a.getLast? = some x->¬ G' (grp x)) (h0:a = []->∀ g,G' g->G g):Goes G (a ++ l) (a ++ m):=fun p q e hp hg t=>by
 have:=b (p ++ a) q e (irr_app hp ha (bd_of hg hG)) (fun x hx=>by
  by_cases z:a = []
  ·subst z
   rw [List.append_nil] at hx
   exact fun w=>hg x hx (h0 rfl _ w)
  ·rw [List.getLast?_append] at hx
   cases ha:a.getLast? with
   | none=>exact absurd (List.getLast?_eq_none_iff.mp ha) z
   | some u=>rw [ha] at hx;cases hx;exact hl _ ha) (by simpa using t)
 simpa using this
theorem Goes.pair {G:Gr->Prop} {x y:Mv} {r:List Mv} (h:tog x y = some r) (hx:G (grp x)):Goes G [x,y] r:=fun p q e hp hg t=>
 run_pair (irr_app hp (irr_one x) (bd_of hg fun y hy=>by cases hy;exact hx)) h t
end L48
namespace L48
open PySem L2 DL
def FlR (n:Nat) (d:D) (b:Bool) (l:List Mv):Prop:=(Fl n).1 [d,.bl b] = .val (.fz (.lst (l.map Mv.d)))
abbrev cH (l:List D):D:=.tup [.str "chain",.tup l]
theorem fl_k {n:Nat} {d:D} {b:Bool} {l:List Mv} (h:FlR n d (!b) l):FlR (n + 1) (bK d) b l:=by
 unfold FlR
 exact (congrArg (fun r=>fin (So.bind (ofR ((r >>= fun x=>.val x.d) >>= fun d=>.val (.fz d)) _ .ret) _)) h).trans rfl
theorem fl_b (m:Mb) (n:Nat):FlR (n + 1) m.d false [.ba m]:=by cases m <;> rfl
theorem fl_bt (m:Mb) (n:Nat):FlR (n + 1) m.d true [.bk m]:=by cases m <;> rfl
theorem fl_s (t c:Str) (k:Int) (n:Nat):FlR (n + 1) (sS t c k) false (if k = 0 then [] else [.sh t c k]):=by
 have h:=un_idle (show F_is_idle [sS t c k] = .val (.fz (.bl (k == 0))) from rfl)
 refine (congrArg (fun r=>fin (ofR ((r >>= fun x=>.val x.d) >>= fun d=>.val (.fz d)) _ .ret)) h).trans ?_
 rw [dec_i]
 by_cases h0:k = 0
 ·rw [decide_eq_true h0,if_pos h0];rfl
 ·rw [decide_eq_false h0,if_neg h0];rfl
theorem fl_st (t c:Str) (k:Int) (n:Nat):FlR (n + 1) (sS t c k) true (if -k = 0 then [] else [.sh t c (-k)]):=by
 have h:=un_idle (show F_is_idle [sS t c (-k)] = .val (.fz (.bl (-k == 0))) from rfl)
 refine (congrArg (fun r=>fin (ofR ((r >>= fun x=>.val x.d) >>= fun d=>.val (.fz d)) _ .ret)) ((ca1 (show F_undone [sS t c k] = .val (.fz (sS t c (-k))) from rfl)).trans h)).trans ?_
 rw [dec_i]
 by_cases h0:-k = 0
 ·rw [decide_eq_true h0,if_pos h0];rfl
 ·rw [decide_eq_false h0,if_neg h0];rfl
theorem fl_r (t a b:Str) (n:Nat):FlR (n + 1) (rN t a b) false [.re t a b]:=rfl
theorem fl_rt (t a b:Str) (n:Nat):FlR (n + 1) (rN t a b) true [.re t b a]:=rfl
theorem fl_n (a b:Int) {k:Int} (hk:0 < k) (n:Nat):FlR (n + 1) (nU a b k) false (if a % k = 1 % k/\b % k = 0 then [] else [.nu a b k]):=by
 refine (congrArg (fun r=>fin (ofR ((r >>= fun x=>.val x.d) >>= fun d=>.val (.fz d)) _ .ret)) (un_idle (idle_nu a b hk))).trans ?_
 by_cases h0:a % k = 1 % k/\b % k = 0
 ·rw [decide_eq_true h0,if_pos h0];rfl
 ·rw [decide_eq_false h0,if_neg h0];rfl
def chB (f:List D->Res DV):Dst->So:=extS 3 (consA (fun δ=>(calO f (consA (gVar 4) (consA (gVar 1) nilA))) δ >>= fun x=>.val x.d) nilA)
theorem ch_for {f:List D->Res DV} {b:Bool}:∀ (rows:List (D × List Mv)) (L:List Mv) (R O W:Option DV),(∀ w ∈ rows,f [w.1,.bl b] = .val (.fz (.lst (w.2.map Mv.d))))->(L ++ rows.flatMap (·.2)).length ≤ 1000 →
  ∃ W',forS (bName 4) (chB f) (rows.map (·.1)) [R,some (.fz (.bl b)),O,some (.ol (L.map Mv.d)),W] = .next [R,some (.fz (.bl b)),O,some (.ol ((L ++ rows.flatMap (·.2)).map Mv.d)),W']
 | [],L,R,O,W,_,_=>⟨W,by rw [List.flatMap_nil,List.append_nil];rfl⟩
 | w :: rows,L,R,O,W,h,hl=>by
  have hw:=h w (by simp)
  rw [List.flatMap_cons,← List.append_assoc] at hl ⊢
  obtain ⟨W',e⟩:=ch_for rows (L ++ w.2) R O (some (.fz w.1)) (fun u hu=>h u (by simp [hu])) hl
  refine ⟨W',?_⟩
  rw [← e]
  show turnS (chB f [R,some (.fz (.bl b)),O,some (.ol (L.map Mv.d)),some (.fz w.1)]) _ = _
  have k:(consA (fun δ=>(calO f (consA (gVar 4) (consA (gVar 1) nilA))) δ >>= fun x=>.val x.d) nilA) [R,some (.fz (.bl b)),O,some (.ol (L.map Mv.d)),some (.fz w.1)] = .val [.lst (w.2.map Mv.d)]:=cv (bd hw) rfl
  have:chB f [R,some (.fz (.bl b)),O,some (.ol (L.map Mv.d)),some (.fz w.1)] = .next [R,some (.fz (.bl b)),O,some (.ol ((L ++ w.2).map Mv.d)),some (.fz w.1)]:=by
   show (match consA _ _ _ with | .val [.lst es]=>if lenOk ((L.map Mv.d).length + es.length) = true then So.next _ else .bad | .exc x=>.exc x _ | _=>.bad) = _
   rw [k]
   show (if lenOk ((L.map Mv.d).length + (w.2.map Mv.d).length) = true then So.next [R,some (.fz (.bl b)),O,some (.ol (L.map Mv.d ++ w.2.map Mv.d)),some (.fz w.1)] else .bad) = _
   rw [if_pos (lenOk_of (by simp at hl ⊢;omega)),List.map_append]
  rw [this]
  rfl
theorem fl_c {n:Nat} {rows:List (D × List Mv)} {b:Bool} (h:∀ w ∈ rows,FlR n w.1 b w.2) (hl:((if b then rows.reverse else rows).flatMap (·.2)).length ≤ 1000):FlR (n + 2) (cH (rows.map (·.1))) b ((if b then rows.reverse else rows).flatMap (·.2)):=by
 have hh:∀ w ∈ (if b then rows.reverse else rows),(Fl n).1 [w.1,.bl b] = .val (.fz (.lst (w.2.map Mv.d))):=fun w hw=>h w (by cases b <;> simpa using hw)
 obtain ⟨W',e⟩:=ch_for _ [] (some (.fz (.tup (rows.map (·.1))))) (some (.fz (.lst ((if b then rows.reverse else rows).map (·.1))))) none hh hl
 rw [List.nil_append] at e
 have a:(Fl (n + 1)).2 [.tup (rows.map (·.1)),.bl b] = .val (.ol (((if b then rows.reverse else rows).flatMap (·.2)).map Mv.d)):=by
  have a1:(Fl (n + 1)).2 [.tup (rows.map (·.1)),.bl b] = fin (So.bind (forS (bName 4) (chB (Fl n).1) ((if b then rows.reverse else rows).map (·.1)) [some (.fz (.tup (rows.map (·.1)))),some (.fz (.bl b)),some (.fz (.lst ((if b then rows.reverse else rows).map (·.1)))),some (.ol []),none]) (retV 3)):=by
   cases b
   ·rfl
   ·show _ = fin (So.bind (forS (bName 4) (chB (Fl n).1) (rows.reverse.map (·.1)) [some (.fz (.tup (rows.map (·.1)))),some (.fz (.bl true)),some (.fz (.lst (rows.reverse.map (·.1)))),some (.ol []),none]) (retV 3))
    rw [List.map_reverse]
    rfl
  rw [a1,show (some (DV.ol []):Option DV) = some (.ol (([]:List Mv).map Mv.d)) from rfl,e]
  rfl
 unfold FlR
 exact (congrArg (fun r=>fin (So.bind (ofR ((r >>= fun x=>.val x.d) >>= fun d=>.val (.fz d)) _ .ret) _)) a).trans rfl
end L48
namespace L48
open PySem L2 DL
abbrev iV (i:Int):Option DV:=some (.fz (.int i))
theorem it_step {C:Dst->Res Bool} {B:Dst->So} {n:Nat} {δ δ':Dst} {r:So} (hc:C δ = .val true) (hb:B δ = .next δ') (h:iterW C B n δ' = some r):iterW C B (n + 1) δ = some r:=by
 unfold iterW;rw [hc]
 show (match B δ with | .next δ'=>iterW C B n δ' | .cont δ'=>iterW C B n δ' | .brk δ'=>some (.next δ') | .ret x=>some (.ret x) | .exc x δ'=>some (.exc x δ') | .bad=>some .bad) = _
 rw [hb];exact h
theorem it_done {C:Dst->Res Bool} {B:Dst->So} {δ:Dst} (hc:C δ = .val false):iterW C B 1 δ = some (.next δ):=by
 unfold iterW;rw [hc]
theorem ne_i (i j:Int):asB (cmpNe (.int i) (.int j)) = .val (!(i == j)):=rfl
theorem ne_t {i j:Int} (h:i ≠ j):asB (cmpNe (.int i) (.int j)) = .val true:=by rw [ne_i,dec_i,decide_eq_false h];rfl
theorem ne_f {i:Int}:asB (cmpNe (.int i) (.int i)) = .val false:=by rw [ne_i,dec_i,decide_eq_true rfl];rfl
def dC:Dst->Res Bool:=fun δ=>asB (DL.bin cmpNe (gVar 1) (fun _=>.val (.int 0)) δ)
def dB:Dst->So:=parS 0 1 (consA (gVar 1) (consA (DL.bin modD (gVar 0) (gVar 1)) nilA))
theorem d_bd {a b:Int} (h:0 < b):dB [iV a,iV b] = .next [iV b,iV (a % b)]:=by
 have k:(consA (gVar 1) (consA (DL.bin modD (gVar 0) (gVar 1)) nilA)) [iV a,iV b] = .val [.int b,.int (a % b)]:=cv rfl (cv (m_mod h) rfl)
 unfold dB parS
 rw [k]
 rfl
theorem d_it:∀ (m:Nat) (a b:Int),0 ≤ b->b.toNat ≤ m->∃ (k:Nat) (g u v:Int),iterW dC dB k [iV a,iV b] = some (.next [iV g,iV 0])/\g = u * a + v * b:=by
 intro m
 induction m with
 | zero=>
  intro a b h0 hm
  obtain rfl:b = 0:=by omega
  exact ⟨1,a,1,0,it_done ne_f,by omega⟩
 | succ m ih=>
  intro a b h0 hm
  by_cases hb:b = 0
  ·subst hb
   exact ⟨1,a,1,0,it_done ne_f,by omega⟩
  ·have hp:0 < b:=by omega
   have l:=Int.emod_lt_of_pos a hp
   have n:=Int.emod_nonneg a hb
   obtain ⟨k,g,u,v,e,q⟩:=ih b (a % b) n (by omega)
   refine ⟨k + 1,g,v,u - v * (a / b),it_step (ne_t hb) (d_bd hp) e,?_⟩
   rw [q,Int.emod_def]
   grind
theorem e_div (a:Int) {b:Int} (h:0 ≤ b):∃ g u v,F__law_divisor [.int a,.int b] = .val (.fz (.int g))/\g = u * a + v * b:=by
 obtain ⟨k,g,u,v,e,q⟩:=d_it _ a b h (Nat.le_refl _)
 refine ⟨g,u,v,?_,q⟩
 have w:=whileS_of e
 show fin (So.bind (whileS dC dB [iV a,iV b]) _) = _
 rw [w]
 rfl
theorem e_div1 {n:Int} (h:1 < n):F__law_divisor [.int 1,.int n] = .val (.fz (.int 1)):=by
 have e:iterW dC dB 3 [iV 1,iV n] = some (.next [iV 1,iV 0]):=by
  refine it_step (ne_t (by omega)) (d_bd (by omega)) ?_
  rw [Int.emod_eq_of_lt (by omega) h]
  refine it_step (ne_t (by omega)) (d_bd (by omega)) ?_
  rw [Int.emod_one]
  exact it_done ne_f
 have w:=whileS_of e
 show fin (So.bind (whileS dC dB [iV 1,iV n]) _) = _
 rw [w]
 rfl
noncomputable def rC:Dst->Res Bool:=fun δ=>asB (DL.bin cmpNe (fun δ=>(calO F__law_divisor (consA (gVar 3) (consA (gVar 2) nilA))) δ >>= fun x=>.val x.d) (fun _=>.val (.int 1)) δ)
def rB:Dst->So:=setS 3 fun δ=>(DL.bin modD (DL.bin addX (gVar 3) (fun _=>.val (.int 1))) (gVar 2)) δ >>= fun d=>.val (.fz d)
theorem r_c {x p:Option DV} {n t g:Int} (h:F__law_divisor [.int t,.int n] = .val (.fz (.int g))):rC [x,p,iV n,iV t] = asB (cmpNe (.int g) (.int 1)):=by
 show asB (((F__law_divisor [.int t,.int n]) >>= fun x=>(.val x.d:Res D)) >>= fun a=>cmpNe a (.int 1)) = _
 rw [h]
 rfl
theorem r_b {x p:Option DV} {n t:Int} (h:0 < n):rB [x,p,iV n,iV t] = .next [x,p,iV n,iV ((t + 1) % n)]:=by
 refine set_val ?_
 show (modD (.int (t + 1)) (.int n) >>= fun d=>(.val (.fz d):Res DV)) = _
 rw [m_mod h]
 rfl
theorem r_it {x p:Option DV} {n:Int} (hn:1 < n):∀ (m:Nat) (t:Int),0 ≤ t->t < n->(if t ≤ 1 then 1 - t else n + 1 - t).toNat ≤ m->∃ (k:Nat) (t' u v:Int),iterW rC rB k [x,p,iV n,iV t] = some (.next [x,p,iV n,iV t'])/\0 ≤ t'/\t' < n/\1 = u * t' + v * n:=by
 intro m
 induction m with
 | zero=>
  intro t h0 h1 hm
  obtain rfl:t = 1:=by split at hm <;> omega
  exact ⟨1,1,1,0,it_done (by rw [r_c (e_div1 hn)];exact ne_f),by omega,hn,by omega⟩
 | succ m ih=>
  intro t h0 h1 hm
  obtain ⟨g,u,v,e,q⟩:=e_div t (b:=n) (by omega)
  by_cases hg:g = 1
  ·subst hg
   exact ⟨1,t,u,v,it_done (by rw [r_c e];exact ne_f),h0,h1,q⟩
  ·have ht:t ≠ 1:=fun z=>by
    subst z
    rw [e_div1 hn] at e
    cases e
    exact hg rfl
   by_cases hl:t + 1 = n
   ·obtain ⟨k,t',u',v',a1,a2⟩:=ih 0 (by omega) (by omega) (by split at hm <;> split <;> omega)
    refine ⟨k + 1,t',u',v',it_step (by rw [r_c e];exact ne_t hg) (r_b (by omega)) ?_,a2⟩
    rw [hl,Int.emod_self]
    exact a1
   ·obtain ⟨k,t',u',v',a1,a2⟩:=ih (t + 1) (by omega) (by omega) (by split at hm <;> split <;> omega)
    refine ⟨k + 1,t',u',v',it_step (by rw [r_c e];exact ne_t hg) (r_b (by omega)) ?_,a2⟩
    rw [Int.emod_eq_of_lt (by omega) (by omega)]
    exact a1
theorem e_ren (x p:Int) {n:Int} (hn:1 < n):∃ t u v,F__law_renumber [.int x,.int p,.int n] = .val (.fz (nU t (p % n) n))/\0 ≤ t/\t < n/\1 = u * t + v * n:=by
 obtain ⟨k,t,u,v,e,h1,h2,h3⟩:=r_it (x:=iV x) (p:=iV p) hn _ (x % n) (Int.emod_nonneg _ (by omega)) (Int.emod_lt_of_pos _ (by omega)) (Nat.le_refl _)
 refine ⟨t,u,v,?_,h1,h2,h3⟩
 have w:=whileS_of e
 have s:setS 3 (fun δ=>(DL.bin modD (gVar 0) (gVar 2)) δ >>= fun d=>.val (.fz d)) [iV x,iV p,iV n,none] = .next [iV x,iV p,iV n,iV (x % n)]:=by
  refine set_val ?_
  show (modD (.int x) (.int n) >>= fun d=>(.val (.fz d):Res DV)) = _
  rw [m_mod (by omega)]
  rfl
 refine (congrArg (fun r=>fin (So.bind r _)) s).trans ?_
 refine (congrArg (fun r=>fin (So.bind r _)) w).trans ?_
 exact ret_tup (cv rfl (cv rfl (cv (m_mod (by omega)) (cv rfl rfl)))) rfl
def vC:Dst->Res Bool:=fun δ=>asB (DL.bin cmpNe (gVar 4) (fun _=>.val (.int 0)) δ)
def vB:Dst->So:=(seqS (setS 6 fun δ=>(DL.bin fdivD (gVar 2) (gVar 4)) δ >>= fun d=>.val (.fz d)) (seqS (setS 7 fun δ=>(DL.bin subD (gVar 2) (DL.bin mulD (gVar 6) (gVar 4))) δ >>= fun d=>.val (.fz d)) (seqS (setS 8 fun δ=>(DL.bin subD (gVar 3) (DL.bin mulD (gVar 6) (gVar 5))) δ >>= fun d=>.val (.fz d)) (seqS (setS 2 fun δ=>(gVar 4) δ >>= fun d=>.val (.fz d)) (seqS (setS 3 fun δ=>(gVar 5) δ >>= fun d=>.val (.fz d)) (seqS (setS 4 fun δ=>(gVar 7) δ >>= fun d=>.val (.fz d)) (setS 5 fun δ=>(gVar 8) δ >>= fun d=>.val (.fz d))))))))
def vE:Dst->So:=(seqS (ifS (fun δ=>asB (DL.bin cmpNe (gVar 2) (fun _=>.val (.int 1)) δ)) (retS fun δ=>(fun _=>.val .non) δ >>= fun d=>.val (.fz d)) nilS) (retS fun δ=>(DL.bin modD (gVar 3) (gVar 1)) δ >>= fun d=>.val (.fz d)))
theorem m_div {i n:Int} (h:0 < n) (h':n ≤ 2000):fdivD (.int i) (.int n) = .val (.int (i / n)):=if_pos (by rw [Bool.and_eq_true];exact ⟨decide_eq_true h,decide_eq_true (by omega)⟩)
theorem sv {i:Nat} {g:Dst->Res D} {δ:Dst} {d:D} (h:g δ = .val d):setS i (fun δ=>g δ >>= fun d=>.val (.fz d)) δ = .next (δ.set i (some (.fz d))):=set_val (by rw [h];rfl)
theorem v_bd {a n p f l q:Int} {x y z:Option DV} (h0:0 < l) (h1:l ≤ 2000) (h2:0 ≤ p) (h3:p ≤ 2000):∃ x' y' z',vB [iV a,iV n,iV p,iV f,iV l,iV q,x,y,z] = .next [iV a,iV n,iV l,iV q,iV (p - p / l * l),iV (f - p / l * q),x',y',z']:=by
 have d0:0 ≤ p / l:=Int.ediv_nonneg h2 (by omega)
 have d1:p / l ≤ 2000:=Int.le_trans (Int.ediv_le_self _ h2) h3
 refine ⟨iV (p / l),iV (p - p / l * l),iV (f - p / l * q),?_⟩
 refine (congrArg (fun r=>So.bind r _) (sv (i:=6) (δ:=[iV a,iV n,iV p,iV f,iV l,iV q,_,_,_]) (m_div h0 h1))).trans ?_
 refine (congrArg (fun r=>So.bind r _) (sv (i:=7) (δ:=[iV a,iV n,iV p,iV f,iV l,iV q,iV (p / l),_,_]) (g:=DL.bin subD (gVar 2) (DL.bin mulD (gVar 6) (gVar 4))) (binv (x:=.int p) rfl (m_mul d0 d1) rfl))).trans ?_
 refine (congrArg (fun r=>So.bind r _) (sv (i:=8) (δ:=[iV a,iV n,iV p,iV f,iV l,iV q,iV (p / l),iV (p - p / l * l),_]) (g:=DL.bin subD (gVar 3) (DL.bin mulD (gVar 6) (gVar 5))) (binv (x:=.int f) rfl (m_mul d0 d1) rfl))).trans ?_
 rfl
theorem v_it (a n:Int):∀ (m:Nat) (p f l q c1 c2 u v:Int) (x y z:Option DV),0 ≤ l->l.toNat ≤ m->l < p->p ≤ 2000->p = f * a + c1 * n->l = q * a + c2 * n->1 = u * p + v * l →
  ∃ (k:Nat) (f' q' c:Int) (x' y' z':Option DV),iterW vC vB k [iV a,iV n,iV p,iV f,iV l,iV q,x,y,z] = some (.next [iV a,iV n,iV 1,iV f',iV 0,iV q',x',y',z'])/\1 = f' * a + c * n:=by
 intro m
 induction m with
 | zero=>
  intro p f l q c1 c2 u v x y z h0 hm hl hp e1 e2 e3
  obtain rfl:l = 0:=by omega
  have hp1:p = 1:=by
   rw [Int.mul_zero,Int.add_zero] at e3
   exact Int.eq_one_of_dvd_one (by omega) ⟨u,by rw [Int.mul_comm];exact e3⟩
  rw [hp1] at e1 ⊢
  exact ⟨1,f,q,c1,x,y,z,it_done ne_f,e1⟩
 | succ m ih=>
  intro p f l q c1 c2 u v x y z h0 hm hl hp e1 e2 e3
  by_cases hz:l = 0
  ·subst hz
   have hp1:p = 1:=by
    rw [Int.mul_zero,Int.add_zero] at e3
    exact Int.eq_one_of_dvd_one (by omega) ⟨u,by rw [Int.mul_comm];exact e3⟩
   rw [hp1] at e1 ⊢
   exact ⟨1,f,q,c1,x,y,z,it_done ne_f,e1⟩
  ·obtain ⟨x1,y1,z1,eb⟩:=v_bd (a:=a) (n:=n) (p:=p) (f:=f) (l:=l) (q:=q) (x:=x) (y:=y) (z:=z) (by omega) (by omega) (by omega) hp
   have r:p - p / l * l = p % l:=by rw [Int.emod_def,Int.mul_comm]
   have r1:=Int.emod_nonneg p hz
   have r2:=Int.emod_lt_of_pos p (b:=l) (by omega)
   obtain ⟨k,f',q',c,x',y',z',a1,a2⟩:=ih l q (p - p / l * l) (f - p / l * q) c2 (c1 - p / l * c2) (v + u * (p / l)) u x1 y1 z1 (by omega) (by omega) (by omega) (by omega) e2 (by grind) (by grind)
   exact ⟨k + 1,f',q',c,x',y',z',it_step (ne_t hz) eb a1,a2⟩
theorem e_inv {a n u v:Int} (h0:0 ≤ a) (h1:a < n) (hn:n ≤ 2000) (hb:1 = u * a + v * n):∃ b,F_inverse [.int a,.int n] = .val (.fz (.int b))/\0 ≤ b/\b < n/\a * b % n = 1 % n:=by
 obtain ⟨k,f',q',c,x',y',z',e,q⟩:=v_it a n _ n 0 a 1 1 0 v u none none none h0 (Nat.le_refl _) h1 hn (by omega) (by omega) (by omega)
 have hp:0 < n:=by omega
 refine ⟨f' % n,?_,Int.emod_nonneg _ (by omega),Int.emod_lt_of_pos _ hp,?_⟩
 ·have w:=whileS_of e
  have a0:F_inverse [.int a,.int n] = fin (So.bind (setS 4 (fun δ=>(DL.bin modD (gVar 0) (gVar 1)) δ >>= fun d=>.val (.fz d)) [iV a,iV n,iV n,iV 0,none,none,none,none,none]) (seqS (setS 5 fun δ=>(fun _=>.val (.int 1)) δ >>= fun d=>.val (.fz d)) (seqS (whileS vC vB) vE))):=rfl
  rw [a0,sv (i:=4) (g:=DL.bin modD (gVar 0) (gVar 1)) (δ:=[iV a,iV n,iV n,iV 0,none,none,none,none,none]) (m_mod (i:=a) hp),Int.emod_eq_of_lt h0 h1]
  show fin (So.bind (whileS vC vB [iV a,iV n,iV n,iV 0,iV a,iV 1,none,none,none]) vE) = _
  rw [w]
  show fin (ofR (modD (.int f') (.int n) >>= fun d=>.val (.fz d)) _ .ret) = _
  rw [m_mod hp]
  rfl
 ·rw [Int.mul_emod,Int.emod_emod,← Int.mul_emod,show a * f' = 1 + n * (-c) by grind,Int.add_mul_emod_self_left]
end L48
namespace L48
open PySem L2 DL
structure Xs (xs:D) (x0 x1 x2 x3 x4 x5:Int):Prop where
 h0:ixD xs (.int 0) = .val (.int x0)
 h1:ixD xs (.int 1) = .val (.int x1)
 h2:ixD xs (.int 2) = .val (.int x2)
 h3:ixD xs (.int 3) = .val (.int x3)
 h4:ixD xs (.int 4) = .val (.int x4)
 h5:ixD xs (.int 5) = .val (.int x5)
abbrev nM (a b c d:Str):D:=.lst [.str a,.str b,.str c,.str d]
theorem lk0:lenOk 0 = true:=rfl
theorem lk1:lenOk 1 = true:=rfl
theorem lk2:lenOk 2 = true:=rfl
theorem lk3:lenOk 3 = true:=rfl
theorem lk4:lenOk 4 = true:=rfl
theorem lk5:lenOk 5 = true:=rfl
theorem lk6:lenOk 6 = true:=rfl
theorem sb_n {δ:Dst} {k:Dst->So}:So.bind (.next δ) k = k δ:=rfl
theorem sb_r {x:DV} {k:Dst->So}:So.bind (.ret x) k = .ret x:=rfl
theorem seq_e {p q:Dst->So} {δ:Dst}:seqS p q δ = So.bind (p δ) q:=rfl
theorem gv {δ:Dst} {i:Nat} {d:D} (h:δ[i]? = some (some (.fz d))):gVar i δ = .val d:=by unfold gVar;rw [h]
theorem ofr {x:DV} {δ:Dst} {k:DV->So}:ofR (.val x) δ k = k x:=rfl
theorem rb {α β:Type} {x:α} {k:α->Res β}:(Res.val x >>= k) = k x:=rfl
theorem su {i j:Int}:subD (.int i) (.int j) = .val (.int (i - j)):=rfl
theorem ad {i j:Int}:addX (.int i) (.int j) = .val (.int (i + j)):=rfl
theorem ce {i j:Int}:cmpEq (.int i) (.int j) = .val (.bl (i == j)):=rfl
theorem ab {b:Bool}:asB (.val (.bl b)) = .val b:=rfl
theorem if_e {c:Dst->Res Bool} {p q:Dst->So} {δ:Dst}:ifS c p q δ = match c δ with | .val true=>p δ | .val false=>q δ | .exc x=>.exc x δ | .bad=>.bad:=by
 unfold ifS
 cases c δ with
 | val b=>cases b <;> rfl
 | _=>rfl
theorem tu {k:Dst->Res (List D)} {δ:Dst}:tupD k δ = k δ >>= fun xs=>if lenOk xs.length = true then .val (.tup xs) else .bad:=rfl
theorem ls {k:Dst->Res (List D)} {δ:Dst}:lstD k δ = k δ >>= fun xs=>if lenOk xs.length = true then .val (.lst xs) else .bad:=rfl
theorem co {g:Dst->Res D} {k:Dst->Res (List D)} {δ:Dst}:consA g k δ = g δ >>= fun x=>k δ >>= fun xs=>.val (x :: xs):=rfl
theorem bi {f:D->D->Res D} {ga gb:Dst->Res D} {δ:Dst}:DL.bin f ga gb δ = ga δ >>= fun x=>gb δ >>= fun y=>f x y:=rfl
theorem st {i:Nat} {g:Dst->Res DV} {δ:Dst}:setS i g δ = ofR (g δ) δ fun x=>.next (δ.set i (some x)):=rfl
theorem re {g:Dst->Res DV} {δ:Dst}:retS g δ = ofR (g δ) δ .ret:=rfl
theorem ca {F:List D->Res DV} {k:Dst->Res (List D)} {δ:Dst}:calO F k δ = k δ >>= fun xs=>F xs:=rfl
theorem uE {f:D->Res D} {g:Dst->Res D} {δ:Dst}:un f g δ = g δ >>= fun x=>f x:=rfl
theorem iR {α:Type} {b:Bool} {p q:Res α}:ifR (.val b) p q = if b = true then p else q:=rfl
theorem m_mulN {i j:Int} (h0:-3000 ≤ i) (h:i ≤ 3000):mulD (.int i) (.int j) = .val (.int (i * j)):=if_pos (by
 unfold mulOk
 rw [Bool.or_eq_true,Bool.and_eq_true]
 exact .inl ⟨decide_eq_true (by omega),decide_eq_true (by omega)⟩)
theorem e_und {a b k u v:Int} (h0:0 ≤ a) (h1:a < k) (hn:k ≤ 2000) (hb:1 = u * a + v * k):∃ a',0 ≤ a'/\a' < k/\a * a' % k = 1 % k/\F_undone [nU a b k] = .val (.fz (nU a' (-a' * b % k) k)):=by
 obtain ⟨a',e,p1,p2,p3⟩:=e_inv h0 h1 hn hb
 refine ⟨a',p1,p2,p3,?_⟩
 have r:=e_rnb a' (-a' * b) (n:=k) (by omega)
 rw [Int.emod_eq_of_lt p1 p2] at r
 have s1:cmpEq (.str "renumber") (.str "shift") = .val (.bl false):=rfl
 have s2:cmpEq (.str "renumber") (.str "rename") = .val (.bl false):=rfl
 have s3:cmpEq (.str "renumber") (.str "renumber") = .val (.bl true):=rfl
 have i0:ixD (nU a b k) (.int 0) = .val (.str "renumber"):=rfl
 have i1:ixD (nU a b k) (.int 1) = .val (.int a):=rfl
 have i2:ixD (nU a b k) (.int 2) = .val (.int b):=rfl
 have i3:ixD (nU a b k) (.int 3) = .val (.int k):=rfl
 have m:mulD (.int (-a')) (.int b) = .val (.int (-a' * b)):=m_mulN (by omega) (by omega)
 have ng:negD (.int a') = .val (.int (-a')):=rfl
 have dv:∀ d,(DV.fz d).d = d:=fun _=>rfl
 simp only [F_undone,Gb_undone,fnD,startD,seq_e,List.map,List.length,List.replicate,Nat.sub,List.append]
 simp [seq_e,sb_n,sb_r,st,re,if_e,fin,co,nilA,bi,gv,ab,rb,ofr,nilS,ca,uE,i0,i1,i2,i3,s1,s2,s3,e,ng,m,r,dv]
theorem fl_nt {a b k u v:Int} (h0:0 ≤ a) (h1:a < k) (hn:k ≤ 2000) (hb:1 = u * a + v * k) (n:Nat):∃ a',0 ≤ a'/\a' < k/\a * a' % k = 1 % k/\FlR (n + 1) (nU a b k) true (if a' % k = 1 % k/\-a' * b % k = 0 then [] else [.nu a' (-a' * b % k) k]):=by
 obtain ⟨a',p1,p2,p3,e⟩:=e_und (b:=b) h0 h1 hn hb
 refine ⟨a',p1,p2,p3,?_⟩
 refine (congrArg (fun r=>fin (ofR ((r >>= fun x=>.val x.d) >>= fun d=>.val (.fz d)) _ .ret)) ((ca1 e).trans (un_idle (idle_nu a' (-a' * b % k) (by omega))))).trans ?_
 rw [Int.emod_emod]
 by_cases h:a' % k = 1 % k/\-a' * b % k = 0
 ·rw [decide_eq_true h,if_pos h];rfl
 ·rw [decide_eq_false h,if_neg h];rfl
theorem fl_told {w:D} {l:List Mv} (h:∀ n,FlR (n + 6) w false l) (hl:l.length ≤ 100) {q:Int} (h0:0 ≤ q) (h1:q < 4):∃ w',F__law_told [w,.int q] = .val (.fz w')/\FlR 12 w' false l:=by
 have c:q = 0\/q = 1\/q = 2\/q = 3:=by omega
 rcases c with rfl | rfl | rfl | rfl
 ·exact ⟨w,rfl,h 6⟩
 ·exact ⟨bK (bK w),rfl,fl_k (fl_k (b:=!false) (h 4))⟩
 ·refine ⟨cH [w],rfl,?_⟩
  have:=fl_c (n:=10) (rows:=[(w,l)]) (b:=false) (fun x hx=>by rw [List.mem_singleton.mp hx];exact h 4) (by simp;omega)
  simpa using this
 ·refine ⟨bK (cH [cH [],bK w]),rfl,?_⟩
  have e0:FlR 9 (cH []) true []:=by
   have:=fl_c (n:=7) (rows:=[]) (b:=true) (fun x hx=>by cases hx) (by simp)
   simpa using this
  have e1:FlR 9 (bK w) true l:=fl_k (h 2)
  have:=fl_c (n:=9) (rows:=[(cH [],[]),(bK w,l)]) (b:=true) (fun x hx=>by
   rcases List.mem_cons.mp hx with rfl | hx
   ·exact e0
   ·rw [List.mem_singleton.mp hx]
    exact e1) (by simp;omega)
  exact fl_k (by simpa using this)
end L48
namespace L48
open PySem L2 DL
def lt (n:Int):Str:=⟨#[97 + (n % 26).toNat]⟩
theorem at_abc:∀ j:Fin 26,atI (Str.ofString "abcdefghijklmnopqrstuvwxyz").cps.toList (j.1:Int) = some (97 + j.1):=by decide +kernel
theorem ix_str {z:Str} {i:Int} {c:Nat} (hz:lenOk z.length = true) (h:atI z.cps.toList i = some c):ixD (.str z) (.int i) = .val (.str ⟨#[c]⟩):=by
 show (if lenOk z.length = true then (match atI z.cps.toList i with | some c=>(.val (.str ⟨#[c]⟩):Res D) | none=>.bad) else .bad) = _
 rw [if_pos hz,h]
theorem m_mulW {i j:Int} (h0:-(2 ^ 64) < i) (h:i < 2 ^ 64):mulD (.int i) (.int j) = .val (.int (i * j)):=if_pos (by
 unfold mulOk
 rw [Bool.or_eq_true,Bool.and_eq_true]
 exact .inl ⟨decide_eq_true h0,decide_eq_true h⟩)
theorem rg1 {j:Int} (h0:-1000 ≤ j) (h:j ≤ 100000):range1 [.int j] = .val (rangeL 0 j.toNat):=if_pos (by unfold okI;rw [Bool.and_eq_true];exact ⟨decide_eq_true (by omega),decide_eq_true (by omega)⟩)
theorem stc {r:Res D} {k:Res (List D)} {y:D} {ys:List D} (h:r = .val y) (h':k = .val ys):stepC r k = .val (y :: ys):=by rw [h,h'];rfl
theorem e_lt (n:Int):F__law_letter [.int n] = .val (.fz (.str (lt n))):=by
 have h0:=Int.emod_nonneg n (b:=26) (by omega)
 have h1:=Int.emod_lt_of_pos n (b:=26) (by omega)
 have k:ixD (.str "abcdefghijklmnopqrstuvwxyz") (.int (n % 26)) = .val (.str (lt n)):=by
  have:=at_abc ⟨(n % 26).toNat,by omega⟩
  rw [show (((⟨(n % 26).toNat,by omega⟩:Fin 26).1:Nat):Int) = n % 26 by show (((n % 26).toNat:Nat):Int) = _;omega] at this
  exact ix_str rfl this
 exact (congrArg (fun r=>fin (ofR (r >>= fun d=>.val (.fz d)) _ .ret)) k).trans rfl
theorem lt_len (n:Int):(lt n).length = 1:=rfl
def sB:Dst->So:=seqS (setS 3 fun δ=>(DL.bin modD (DL.bin addX (DL.bin addX (DL.bin mulD (gVar 3) (gVar 3)) (DL.bin mulD (fun _=>.val (.int 48271)) (gVar 3))) (gVar 4)) (fun _=>.val (.int 2147483647))) δ >>= fun d=>.val (.fz d)) (appS 2 (consA (gVar 3) nilA))
theorem s_for:∀ (js:List Nat) (l:List Int) (x:Int) (a b c:Option DV),0 ≤ x->x < 4294967296->l.length + js.length ≤ 1000->∃ (l':List Int) (y:Int) (c':Option DV),l'.length = js.length/\forS (bName 4) sB (js.map fun (i:Nat)=>.int (0 + (i:Int))) [a,b,some (.ol (l.map .int)),iV x,c] = .next [a,b,some (.ol ((l ++ l').map .int)),iV y,c']
 | [],l,x,a,b,c,_,_,_=>⟨[],x,c,rfl,by rw [List.append_nil];rfl⟩
 | j :: js,l,x,a,b,c,h0,h1,hl=>by
  let y:=(x * x + 48271 * x + (0 + (j:Int))) % 2147483647
  have y0:0 ≤ y:=Int.emod_nonneg _ (by omega)
  have y1:y < 2147483647:=Int.emod_lt_of_pos _ (by omega)
  obtain ⟨l',y',c',e1,e2⟩:=s_for js (l ++ [y]) y a b (iV (0 + (j:Int))) y0 (by omega) (by simp at hl ⊢;omega)
  refine ⟨y :: l',y',c',by simp [e1],?_⟩
  have m1:mulD (.int x) (.int x) = .val (.int (x * x)):=m_mulW (by omega) (by omega)
  have m2:mulD (.int 48271) (.int x) = .val (.int (48271 * x)):=m_mulW (by omega) (by omega)
  have k:sB [a,b,some (.ol (l.map .int)),iV x,iV (0 + (j:Int))] = .next [a,b,some (.ol ((l ++ [y]).map .int)),iV y,iV (0 + (j:Int))]:=by
   have s1:=sv (i:=3) (δ:=[a,b,some (.ol (l.map .int)),iV x,iV (0 + (j:Int))]) (g:=DL.bin modD (DL.bin addX (DL.bin addX (DL.bin mulD (gVar 3) (gVar 3)) (DL.bin mulD (fun _=>.val (.int 48271)) (gVar 3))) (gVar 4)) (fun _=>.val (.int 2147483647))) (d:=.int y) (binv (binv (binv m1 m2 rfl) rfl rfl) rfl (m_mod (by omega)))
   refine (congrArg (fun r=>So.bind r _) s1).trans ?_
   show (if decide ((l.map D.int).length < sizeLine) = true then So.next [a,b,some (.ol (l.map .int ++ [.int y])),iV y,iV (0 + (j:Int))] else .bad) = _
   rw [if_pos (decide_eq_true (by rw [sizeLine_eq,List.length_map];simp at hl;omega)),List.map_append]
   rfl
  show turnS (sB [a,b,some (.ol (l.map .int)),iV x,iV (0 + (j:Int))]) _ = _
  rw [k]
  rw [show l ++ y :: l' = (l ++ [y]) ++ l' by simp]
  exact e2
theorem e_str (x:Int) (n:Nat) (hn:n ≤ 1000):∃ l:List Int,l.length = n/\F__law_stream [.int x,.int n] = .val (.ol (l.map .int)):=by
 have h0:=Int.emod_nonneg x (b:=2147483647) (by omega)
 have h1:=Int.emod_lt_of_pos x (b:=2147483647) (by omega)
 obtain ⟨l,y,c,e1,e2⟩:=s_for (List.range n) [] (x % 2147483647 + 48271) (iV x) (iV n) none (by omega) (by omega) (by simp;omega)
 rw [List.length_range] at e1
 refine ⟨l,e1,?_⟩
 have r:range1 [.int (n:Int)] = .val ((List.range n).map fun (i:Nat)=>.int (0 + (i:Int))):=rg1 (by omega) (by omega)
 unfold F__law_stream Gb__law_stream fnD
 rw [seq_e,show setS 2 (lstO nilA) (startD 5 [.int x,.int n]) = .next [iV x,iV n,some (.ol ([]:List D)),none,none] from rfl,sb_n,seq_e,sv (i:=3) (δ:=[iV x,iV n,some (.ol ([]:List D)),none,none]) (g:=DL.bin addX (DL.bin modD (gVar 0) (fun _=>.val (.int 2147483647))) (fun _=>.val (.int 48271))) (d:=.int (x % 2147483647 + 48271)) (binv (x:=.int (x % 2147483647)) (binv (x:=.int x) (y:=.int 2147483647) rfl rfl (m_mod (by omega))) rfl rfl),sb_n,seq_e]
 have r':(fun δ=>(consA (gVar 1) nilA) δ >>= range1) [iV x,iV n,some (.ol ([]:List D)),iV (x % 2147483647 + 48271),none] = .val ((List.range n).map fun (i:Nat)=>.int (0 + (i:Int))):=by
  have c0:consA (gVar 1) nilA [iV x,iV n,some (.ol ([]:List D)),iV (x % 2147483647 + 48271),none] = .val [.int (n:Int)]:=cv rfl rfl
  show (consA (gVar 1) nilA _ >>= range1) = _
  rw [c0,rb]
  exact r
 have L:=loop_val (items:=fun δ=>(consA (gVar 1) nilA) δ >>= range1) (b:=bName 4) (body:=sB) (δ:=[iV x,iV n,some (.ol ([]:List D)),iV (x % 2147483647 + 48271),none]) r'
 refine (congrArg (fun r=>fin (So.bind r (retV 2))) L).trans ?_
 rw [show (some (DV.ol []):Option DV) = some (.ol (([]:List Int).map .int)) from rfl,e2]
 rfl
def nB:Dst->So:=setS 2 fun δ=>(DL.bin addX (gVar 2) (fun δ=>(calO F__law_letter (consA (gVar 3) nilA)) δ >>= fun x=>.val x.d)) δ >>= fun d=>.val (.fz d)
theorem add_str {a b:Str} (h:a.length + b.length ≤ 100000):addX (.str a) (.str b) = .val (.str (a ++ b)):=by
 show (if lenOk (a.length + b.length) = true then (Res.val (.str (a ++ b)):Res D) else .bad) = _
 rw [if_pos (lenOk_of h)]
theorem len_app (a b:Str):(a ++ b).length = a.length + b.length:=Array.size_append
theorem n_for:∀ (l:List Int) (B:Str) (a b c e f g:Option DV),B.length + l.length ≤ 1000->∃ (B':Str) (c':Option DV),B'.length = B.length + l.length/\forS (bName 3) nB (l.map .int) [a,b,some (.fz (.str B)),c,e,f] = .next [a,b,some (.fz (.str B')),c',e,f]
 | [],B,a,b,c,e,f,g,_=>⟨B,c,rfl,rfl⟩
 | x :: l,B,a,b,c,e,f,g,h=>by
  obtain ⟨B',c',p1,p2⟩:=n_for l (B ++ lt x) a b (iV x) e f g (by rw [len_app,lt_len];simp at h;omega)
  refine ⟨B',c',by rw [p1,len_app,lt_len];simp;omega,?_⟩
  have k:nB [a,b,some (.fz (.str B)),iV x,e,f] = .next [a,b,some (.fz (.str (B ++ lt x))),iV x,e,f]:=
   sv (i:=2) (δ:=[a,b,some (.fz (.str B)),iV x,e,f]) (g:=DL.bin addX (gVar 2) (fun δ=>(calO F__law_letter (consA (gVar 3) nilA)) δ >>= fun x=>.val x.d)) (binv (x:=.str B) rfl (bd (e_lt x)) (add_str (by rw [lt_len];simp at h;omega)))
  show turnS (nB [a,b,some (.fz (.str B)),iV x,e,f]) _ = _
  rw [k]
  exact p2
def nm (P Q:Str) (k:Int) (g:Str):Str:=P ++ (lt k ++ lt (k / 26)) ++ g ++ Q
theorem e_nms (x:Int):∃ P Q:Str,P.length ≤ 4/\Q.length ≤ 4/\∀ k:Int,F__law_names [.int x,.int k] = .val (.fz (nM (nm P Q k "a") (nm P Q k "b") (nm P Q k "c") (nm P Q k "d"))):=by
 obtain ⟨l,l1,l2⟩:=e_str x 4 (by omega)
 have h0:=Int.emod_nonneg x (b:=5) (by omega)
 have h1:=Int.emod_lt_of_pos x (b:=5) (by omega)
 have B0:∃ B:Str,B.length = 4/\∀ k:Int,∃ c',forS (bName 3) nB (l.map .int) [iV x,iV k,some (.fz (.str "")),none,none,none] = .next [iV x,iV k,some (.fz (.str B)),c',none,none]:=by
  obtain ⟨B,c',p1,p2⟩:=n_for l "" (iV x) (iV 0) none none none none (by rw [l1];show 0 + 4 ≤ 1000;omega)
  refine ⟨B,by rw [p1,l1];rfl,fun k=>?_⟩
  obtain ⟨B2,c2,q1,q2⟩:=n_for l "" (iV x) (iV k) none none none none (by rw [l1];show 0 + 4 ≤ 1000;omega)
  have same:B2 = B:=by
   have gen:∀ (l:List Int) (B:Str) (b b' c c2:Option DV) (C C2:Str) (e e2:Option DV),B.length + l.length ≤ 1000->forS (bName 3) nB (l.map .int) [iV x,b,some (.fz (.str B)),c,none,none] = .next [iV x,b,some (.fz (.str C)),e,none,none]->forS (bName 3) nB (l.map .int) [iV x,b',some (.fz (.str B)),c2,none,none] = .next [iV x,b',some (.fz (.str C2)),e2,none,none]->C2 = C:=by
    intro l
    induction l with
    | nil=>
     intro B b b' c c2 C C2 e e2 _ h1 h2
     cases h1
     cases h2
     rfl
    | cons y l ih=>
     intro B b b' c c2 C C2 e e2 hl h1 h2
     have k:∀ b:Option DV,nB [iV x,b,some (.fz (.str B)),iV y,none,none] = .next [iV x,b,some (.fz (.str (B ++ lt y))),iV y,none,none]:=fun b=>
      sv (i:=2) (δ:=[iV x,b,some (.fz (.str B)),iV y,none,none]) (g:=DL.bin addX (gVar 2) (fun δ=>(calO F__law_letter (consA (gVar 3) nilA)) δ >>= fun x=>.val x.d)) (binv (x:=.str B) rfl (bd (e_lt y)) (add_str (by rw [lt_len];simp at hl;omega)))
     have h1:turnS (nB [iV x,b,some (.fz (.str B)),iV y,none,none]) (forS (bName 3) nB (l.map .int)) = _:=h1
     have h2:turnS (nB [iV x,b',some (.fz (.str B)),iV y,none,none]) (forS (bName 3) nB (l.map .int)) = _:=h2
     rw [k] at h1 h2
     exact ih (B ++ lt y) b b' _ _ C C2 e e2 (by rw [len_app,lt_len];simp at hl;omega) h1 h2
   exact gen l "" _ _ _ _ _ _ _ _ (by rw [l1];show 0 + 4 ≤ 1000;omega) p2 q2
  subst same
  exact ⟨c2,q2⟩
 obtain ⟨B,b1,b2⟩:=B0
 have P4:=Txt.slice_le B none (some (x % 5))
 have Q4:=Txt.slice_le B (some (x % 5)) none
 refine ⟨Txt.slice B none (some (x % 5)),Txt.slice B (some (x % 5)) none,by omega,by omega,fun k=>?_⟩
 generalize hP:Txt.slice B none (some (x % 5)) = P at P4
 generalize hQ:Txt.slice B (some (x % 5)) none = Q at Q4
 obtain ⟨c',b3⟩:=b2 k
 have s1:sliceX (.str B) none (some (x % 5)) = .val (.str P):=by
  show (if lenOk B.length = true then (Res.val (.str (Txt.slice B none (some (x % 5)))):Res D) else .bad) = _
  rw [if_pos (lenOk_of (by omega)),hP]
 have s2:sliceX (.str B) (some (x % 5)) none = .val (.str Q):=by
  show (if lenOk B.length = true then (Res.val (.str (Txt.slice B (some (x % 5)) none)):Res D) else .bad) = _
  rw [if_pos (lenOk_of (by omega)),hQ]
 have one:∀ g:Str,g.length = 1->(DL.bin addX (DL.bin addX (DL.bin addX (sliceY (gVar 1) (fun _=>.val none) (fun δ=>asI ((gVar 2) δ))) (gVar 3)) (gVar 0)) (sliceY (gVar 1) (fun δ=>asI ((gVar 2) δ)) (fun _=>.val none))) [some (.fz (.str g)),some (.fz (.str B)),iV (x % 5),some (.fz (.str (lt k ++ lt (k / 26))))] = .val (.str (nm P Q k g)):=fun g hg=>by
  refine binv (x:=.str (P ++ (lt k ++ lt (k / 26)) ++ g)) (y:=.str Q) (binv (x:=.str (P ++ (lt k ++ lt (k / 26)))) (y:=.str g) (binv (x:=.str P) (y:=.str (lt k ++ lt (k / 26))) s1 rfl (add_str ?_)) rfl (add_str ?_)) s2 (add_str ?_)
  ·rw [len_app,lt_len,lt_len];omega
  ·rw [len_app,len_app,lt_len,lt_len];omega
  ·rw [len_app,len_app,len_app,lt_len,lt_len];omega
 have d26:fdivD (.int k) (.int 26) = .val (.int (k / 26)):=rfl
 have a:F__law_names [.int x,.int k] = fin (So.bind (loopS (fun δ=>anyItems ((fun δ=>(calO F__law_stream (consA (gVar 0) (consA (fun _=>.val (.int 4)) nilA))) δ >>= fun x=>.val x.d) δ)) (bName 3) nB [iV x,iV k,some (.fz (.str "")),none,none,none]) (seqS (setS 4 fun δ=>(DL.bin modD (gVar 0) (fun _=>.val (.int 5))) δ >>= fun d=>.val (.fz d)) (seqS (setS 5 fun δ=>(DL.bin addX (fun δ=>(calO F__law_letter (consA (gVar 1) nilA)) δ >>= fun x=>.val x.d) (fun δ=>(calO F__law_letter (consA (DL.bin fdivD (gVar 1) (fun _=>.val (.int 26))) nilA)) δ >>= fun x=>.val x.d)) δ >>= fun d=>.val (.fz d)) (retS fun δ=>(fun δ=>(compO 1 [2,4,5] (fun δ=>anyItems ((fun _=>.val (.str "abcd")) δ)) (bName 0) yesB (DL.bin addX (DL.bin addX (DL.bin addX (sliceY (gVar 1) (fun _=>.val none) (fun δ=>asI ((gVar 2) δ))) (gVar 3)) (gVar 0)) (sliceY (gVar 1) (fun δ=>asI ((gVar 2) δ)) (fun _=>.val none)))) δ >>= fun x=>.val x.d) δ >>= fun d=>.val (.fz d))))):=rfl
 rw [a,loop_val (ds:=l.map .int) (by show anyItems (F__law_stream [.int x,.int 4] >>= fun x=>.val x.d) = _;rw [show F__law_stream [.int x,.int 4] = _ from l2];rfl),b3]
 show fin (So.bind (setS 5 _ [iV x,iV k,some (.fz (.str B)),c',iV (x % 5),none]) _) = _
 rw [sv (i:=5) (d:=.str (lt k ++ lt (k / 26))) (binv (bd (e_lt k)) (bd (e_lt (k / 26))) (add_str (by rw [lt_len,lt_len];omega)))]
 have comp:compO 1 [2,4,5] (fun δ=>anyItems ((fun _=>.val (.str "abcd")) δ)) (bName 0) yesB (DL.bin addX (DL.bin addX (DL.bin addX (sliceY (gVar 1) (fun _=>.val none) (fun δ=>asI ((gVar 2) δ))) (gVar 3)) (gVar 0)) (sliceY (gVar 1) (fun δ=>asI ((gVar 2) δ)) (fun _=>.val none))) [iV x,iV k,some (.fz (.str B)),c',iV (x % 5),some (.fz (.str (lt k ++ lt (k / 26))))] = .val (.ol [.str (nm P Q k "a"),.str (nm P Q k "b"),.str (nm P Q k "c"),.str (nm P Q k "d")]):=by
  exact congrArg olR (stc (one "a" rfl) (stc (one "b" rfl) (stc (one "c" rfl) (stc (one "d" rfl) rfl))))
 refine (congrArg (fun r=>fin (ofR ((r >>= fun x=>.val x.d) >>= fun d=>.val (.fz d)) _ .ret)) comp).trans rfl
end L48
namespace L48
open PySem L2 DL
theorem cps_app (a b:Str):(a ++ b).cps.toList = a.cps.toList ++ b.cps.toList:=Array.toList_append
theorem nm_inj {P Q:Str} {k k':Int} {g g':Nat} (h:nm P Q k ⟨#[g]⟩ = nm P Q k' ⟨#[g']⟩):k % 26 = k' % 26/\k / 26 % 26 = k' / 26 % 26/\g = g':=by
 have h:=congrArg (fun s:Str=>s.cps.toList) h
 unfold nm at h
 simp only [cps_app] at h
 have h1:=List.append_cancel_right h
 simp only [List.append_assoc] at h1
 have h2:=List.append_cancel_left h1
 have h3:[97 + (k % 26).toNat,97 + (k / 26 % 26).toNat,g] = [97 + (k' % 26).toNat,97 + (k' / 26 % 26).toNat,g']:=h2
 simp only [List.cons.injEq,and_true] at h3
 have a1:=Int.emod_nonneg k (b:=26) (by omega)
 have a2:=Int.emod_nonneg k' (b:=26) (by omega)
 have a3:=Int.emod_nonneg (k / 26) (b:=26) (by omega)
 have a4:=Int.emod_nonneg (k' / 26) (b:=26) (by omega)
 exact ⟨by omega,by omega,h3.2.2⟩
theorem nm_k {P Q:Str} {k k':Int} {g g':Nat} (h0:0 ≤ k) (h1:k < 676) (h2:0 ≤ k') (h3:k' < 676) (h:nm P Q k ⟨#[g]⟩ = nm P Q k' ⟨#[g']⟩):k = k':=by
 obtain ⟨a,b,_⟩:=nm_inj h
 omega
theorem cN {f:List D->Res D} {k:Dst->Res (List D)} {δ:Dst}:calN f k δ = k δ >>= fun xs=>f xs:=rfl
theorem sy {g:Dst->Res D} {l h:Dst->Res (Option Int)} {δ:Dst}:sliceY g l h δ = g δ >>= fun x=>l δ >>= fun lo=>h δ >>= fun hi=>sliceX x lo hi:=rfl
theorem aI {i:Int}:asI (.val (.int i)) = .val (some i):=rfl
theorem e_move {xs:D} {x0 x1 x2 x3 x4 x5:Int} (X:Xs xs x0 x1 x2 x3 x4 x5) (a b c d:Str) {w:Int} (w0:0 ≤ w) (w1:w < 6):∃ m:Mb,F__law_move [xs,nM a b c d,.int w] = .val (.fz m.d)/\m.t = a/\(w = 0->∃ k v,m = .put a b k v)/\isPut m = decide (w = 0)/\isCap m = decide (w = 5):=by
 have n0:ixD (nM a b c d) (.int 0) = .val (.str a):=rfl
 have n1:ixD (nM a b c d) (.int 1) = .val (.str b):=rfl
 have n2:ixD (nM a b c d) (.int 2) = .val (.str c):=rfl
 have n3:ixD (nM a b c d) (.int 3) = .val (.str d):=rfl
 have dv:∀ d,(DV.fz d).d = d:=fun _=>rfl
 have i0:∀ p q r s:D,ixD (.lst [p,q,r,s]) (.int 0) = .val p:=fun _ _ _ _=>rfl
 have i1:∀ p q r s:D,ixD (.lst [p,q,r,s]) (.int 1) = .val q:=fun _ _ _ _=>rfl
 have i2:∀ p q r s:D,ixD (.lst [p,q,r,s]) (.int 2) = .val r:=fun _ _ _ _=>rfl
 have i3:∀ p q r s:D,ixD (.lst [p,q,r,s]) (.int 3) = .val s:=fun _ _ _ _=>rfl
 have m2:∀ i,modD (.int i) (.int 2) = .val (.int (i % 2)):=fun i=>m_mod (by omega)
 have m3:∀ i,modD (.int i) (.int 3) = .val (.int (i % 3)):=fun i=>m_mod (by omega)
 have m4:∀ i,modD (.int i) (.int 4) = .val (.int (i % 4)):=fun i=>m_mod (by omega)
 have m5:∀ i,modD (.int i) (.int 5) = .val (.int (i % 5)):=fun i=>m_mod (by omega)
 have m9:∀ i,modD (.int i) (.int 9) = .val (.int (i % 9)):=fun i=>m_mod (by omega)
 have m41:∀ i,modD (.int i) (.int 41) = .val (.int (i % 41)):=fun i=>m_mod (by omega)
 have c0:w = 0\/w = 1\/w = 2\/w = 3\/w = 4\/w = 5:=by omega
 have q0:=Int.emod_nonneg x1 (b:=4) (by omega)
 have q1:=Int.emod_lt_of_pos x1 (b:=4) (by omega)
 have q:x1 % 4 = 0\/x1 % 4 = 1\/x1 % 4 = 2\/x1 % 4 = 3:=by omega
 rcases c0 with rfl | rfl | rfl | rfl | rfl | rfl
 ·rcases q with h | h | h | h
  ·refine ⟨.put a b .whole (.i x2),?_,rfl,fun _=>⟨_,_,rfl⟩,rfl,rfl⟩
   simp [F__law_move,Gb__law_move,fnD,startD,seq_e,sb_n,sb_r,st,re,if_e,fin,tu,ls,co,nilA,bi,gv,su,ad,ce,ab,rb,ofr,lk0,lk1,lk2,lk3,lk4,lk5,lk6,nilS,ca,uE,iR,cN,X.h0,X.h1,X.h2,X.h3,X.h4,X.h5,n0,n1,n2,n3,dv,i0,i1,i2,i3,m2,m3,m4,m5,m9,m41,h]
   rfl
  ·refine ⟨.put a b .below (.i (x2 % 5)),?_,rfl,fun _=>⟨_,_,rfl⟩,rfl,rfl⟩
   simp [F__law_move,Gb__law_move,fnD,startD,seq_e,sb_n,sb_r,st,re,if_e,fin,tu,ls,co,nilA,bi,gv,su,ad,ce,ab,rb,ofr,lk0,lk1,lk2,lk3,lk4,lk5,lk6,nilS,ca,uE,iR,cN,X.h0,X.h1,X.h2,X.h3,X.h4,X.h5,n0,n1,n2,n3,dv,i0,i1,i2,i3,m2,m3,m4,m5,m9,m41,h]
   rfl
  ·refine ⟨.put a b .upto (.i (9 - x2)),?_,rfl,fun _=>⟨_,_,rfl⟩,rfl,rfl⟩
   simp [F__law_move,Gb__law_move,fnD,startD,seq_e,sb_n,sb_r,st,re,if_e,fin,tu,ls,co,nilA,bi,gv,su,ad,ce,ab,rb,ofr,lk0,lk1,lk2,lk3,lk4,lk5,lk6,nilS,ca,uE,iR,cN,X.h0,X.h1,X.h2,X.h3,X.h4,X.h5,n0,n1,n2,n3,dv,i0,i1,i2,i3,m2,m3,m4,m5,m9,m41,h]
   rfl
  ·refine ⟨.put a b .lst (.l x2 0),?_,rfl,fun _=>⟨_,_,rfl⟩,rfl,rfl⟩
   simp [F__law_move,Gb__law_move,fnD,startD,seq_e,sb_n,sb_r,st,re,if_e,fin,tu,ls,co,nilA,bi,gv,su,ad,ce,ab,rb,ofr,lk0,lk1,lk2,lk3,lk4,lk5,lk6,nilS,ca,uE,iR,cN,X.h0,X.h1,X.h2,X.h3,X.h4,X.h5,n0,n1,n2,n3,dv,i0,i1,i2,i3,m2,m3,m4,m5,m9,m41,h]
   rfl
 ·have p9:powD (.int 10) (.int 9) = .val (.int 1000000000):=rfl
  have mb:modD (.int x1) (.int 1000000000) = .val (.int (x1 % 1000000000)):=m_mod (by omega)
  refine ⟨.part a b c d (1 + x1 % 1000000000),?_,rfl,fun z=>by omega,rfl,rfl⟩
  simp [F__law_move,Gb__law_move,fnD,startD,seq_e,sb_n,sb_r,st,re,if_e,fin,tu,ls,co,nilA,bi,gv,su,ad,ce,ab,rb,ofr,lk0,lk1,lk2,lk3,lk4,lk5,lk6,nilS,ca,uE,iR,cN,X.h0,X.h1,X.h2,X.h3,X.h4,X.h5,n0,n1,n2,n3,dv,i0,i1,i2,i3,m2,m3,m4,m5,m9,m41,p9,mb]
  rfl
 ·have z:∃ u,ixD (.str " -,;") (.int (x1 % 4)) = .val (.str u):=by
   rcases q with h | h | h | h <;> rw [h] <;> exact ⟨_,rfl⟩
  obtain ⟨u,hu⟩:=z
  refine ⟨.split a b u,?_,rfl,fun z=>by omega,rfl,rfl⟩
  simp [F__law_move,Gb__law_move,fnD,startD,seq_e,sb_n,sb_r,st,re,if_e,fin,tu,ls,co,nilA,bi,gv,su,ad,ce,ab,rb,ofr,lk0,lk1,lk2,lk3,lk4,lk5,lk6,nilS,ca,uE,iR,cN,X.h0,X.h1,X.h2,X.h3,X.h4,X.h5,n0,n1,n2,n3,dv,i0,i1,i2,i3,m2,m3,m4,m5,m9,m41,hu]
  rfl
 ·refine ⟨.rows a b,?_,rfl,fun z=>by omega,rfl,rfl⟩
  simp [F__law_move,Gb__law_move,fnD,startD,seq_e,sb_n,sb_r,st,re,if_e,fin,tu,ls,co,nilA,bi,gv,su,ad,ce,ab,rb,ofr,lk0,lk1,lk2,lk3,lk4,lk5,lk6,nilS,ca,uE,iR,cN,X.h0,X.h1,X.h2,X.h3,X.h4,X.h5,n0,n1,n2,n3,dv,i0,i1,i2,i3,m2,m3,m4,m5,m9,m41]
  rfl
 ·have z:∃ l:List Str,sliceX (nM a b c d) (some 1) (some (1 + x1 % 4)) = .val (.lst (l.map .str)):=by
   rcases q with h | h | h | h <;> rw [h]
   ·exact ⟨[],rfl⟩
   ·exact ⟨[b],rfl⟩
   ·exact ⟨[b,c],rfl⟩
   ·exact ⟨[b,c,d],rfl⟩
  obtain ⟨l,hl⟩:=z
  refine ⟨.cleave a l,?_,rfl,fun z=>by omega,rfl,rfl⟩
  have tp:tupOf [.lst (l.map .str)] = .val (.tup (l.map .str)):=rfl
  simp [F__law_move,Gb__law_move,fnD,startD,seq_e,sb_n,sb_r,st,re,if_e,fin,tu,ls,co,nilA,bi,gv,su,ad,ce,ab,rb,ofr,lk0,lk1,lk2,lk3,lk4,lk5,lk6,nilS,ca,uE,iR,cN,X.h0,X.h1,X.h2,X.h3,X.h4,X.h5,n0,n1,n2,n3,dv,i0,i1,i2,i3,m2,m3,m4,m5,m9,m41,tp,hl,sy,aI]
  rfl
 ·have mc:modD (.int x1) (.int 2001) = .val (.int (x1 % 2001)):=m_mod (by omega)
  refine ⟨.cap a b (x1 % 2001 - 1000),?_,rfl,fun z=>by omega,rfl,rfl⟩
  simp [F__law_move,Gb__law_move,fnD,startD,seq_e,sb_n,sb_r,st,re,if_e,fin,tu,ls,co,nilA,bi,gv,su,ad,ce,ab,rb,ofr,lk0,lk1,lk2,lk3,lk4,lk5,lk6,nilS,ca,uE,iR,cN,X.h0,X.h1,X.h2,X.h3,X.h4,X.h5,n0,n1,n2,n3,dv,i0,i1,i2,i3,m2,m3,m4,m5,m9,m41,mc]
  rfl
end L48
namespace L48
open PySem L2 DL
theorem e_self (x:Mv):eqD x.d x.d = some true:=by
 cases x with
 | ba m=>rw [show (Mv.ba m).d = m.d from rfl,eq_mb];simp
 | bk m=>
  show (match eqD (.str "back") (.str "back"),eqDs [m.d] [m.d] with | some a,some b=>some (a && b) | _,_=>none) = _
  rw [show eqDs [m.d] [m.d] = (match eqD m.d m.d,eqDs [] [] with | some a,some b=>some (a && b) | _,_=>none) from rfl,eq_mb]
  simp [eqD,eqDs]
 | sh t c n=>show some (true && ((t == t) && ((c == c) && ((n == n) && true)))) = _;simp
 | re t a b=>show some (true && ((t == t) && ((a == a) && ((b == b) && true)))) = _;simp
 | nu a b n=>show some (true && ((a == a) && ((b == b) && ((n == n) && true)))) = _;simp
structure Wd (w:D) (l:List Mv):Prop where
 fl:FlR 12 w false l
 sf:eqD w w = some true
 dp:dep w ≤ 30
 wf:∀ m ∈ l,m.wf
 ln:l.length ≤ 2
theorem sf_bk {w:D} (h:eqD w w = some true):eqD (bK w) (bK w) = some true:=by
 show (match eqD (.str "back") (.str "back"),eqDs [w] [w] with | some a,some b=>some (a && b) | _,_=>none) = _
 rw [show eqDs [w] [w] = (match eqD w w,eqDs [] [] with | some a,some b=>some (a && b) | _,_=>none) from rfl,h]
 rfl
theorem sf_ch {w:D} (h:eqD w w = some true):eqD (cH [w]) (cH [w]) = some true:=by
 show (match eqD (.str "chain") (.str "chain"),eqDs [.tup [w]] [.tup [w]] with | some a,some b=>some (a && b) | _,_=>none) = _
 rw [show eqDs [.tup [w]] [.tup [w]] = (match eqDs [w] [w],eqDs [] [] with | some a,some b=>some (a && b) | _,_=>none) from rfl,show eqDs [w] [w] = (match eqD w w,eqDs [] [] with | some a,some b=>some (a && b) | _,_=>none) from rfl,h]
 rfl
theorem sf_ch2 {u w:D} (h:eqD u u = some true) (h':eqD w w = some true):eqD (cH [u,w]) (cH [u,w]) = some true:=by
 show (match eqD (.str "chain") (.str "chain"),eqDs [.tup [u,w]] [.tup [u,w]] with | some a,some b=>some (a && b) | _,_=>none) = _
 rw [show eqDs [.tup [u,w]] [.tup [u,w]] = (match eqDs [u,w] [u,w],eqDs [] [] with | some a,some b=>some (a && b) | _,_=>none) from rfl,show eqDs [u,w] [u,w] = (match eqD u u,eqDs [w] [w] with | some a,some b=>some (a && b) | _,_=>none) from rfl,show eqDs [w] [w] = (match eqD w w,eqDs [] [] with | some a,some b=>some (a && b) | _,_=>none) from rfl,h,h']
 rfl
theorem wd_told {w:D} {l:List Mv} (h:∀ n,FlR (n + 6) w false l) (sf:eqD w w = some true) (dp:dep w ≤ 20) (wf:∀ m ∈ l,m.wf) (ln:l.length ≤ 2) {q:Int} (h0:0 ≤ q) (h1:q < 4):∃ w',F__law_told [w,.int q] = .val (.fz w')/\Wd w' l:=by
 obtain ⟨w',e,f⟩:=fl_told h (by omega) h0 h1
 refine ⟨w',e,f,?_,?_,wf,ln⟩
 ·have c:q = 0\/q = 1\/q = 2\/q = 3:=by omega
  rcases c with rfl | rfl | rfl | rfl
  ·cases e;exact sf
  ·cases e;exact sf_bk (sf_bk sf)
  ·cases e;exact sf_ch sf
  ·cases e;exact sf_bk (sf_ch2 rfl (sf_bk sf))
 ·have c:q = 0\/q = 1\/q = 2\/q = 3:=by omega
  rcases c with rfl | rfl | rfl | rfl
  ·cases e;omega
  ·cases e
   show max 0 (max (max 0 (max (dep w) 0) + 1) 0) + 1 ≤ 30
   omega
  ·cases e
   show max 0 (max (max (dep w) 0 + 1) 0) + 1 ≤ 30
   omega
  ·cases e
   show max 0 (max (max 0 (max (max (max 0 (max (0 + 1) 0) + 1) (max (max 0 (max (dep w) 0) + 1) 0) + 1) 0) + 1) 0) + 1 ≤ 30
   omega
def GA (a:Str) (n:Int):Gr->Prop:=fun g=>g = .inl a\/g = .inr n
def GU (G H:Gr->Prop):Gr->Prop:=fun g=>G g\/H g
theorem head_mem {l:List Mv} {y:Mv} (h:l.head? = some y):y ∈ l:=List.mem_of_mem_head? h
theorem last_mem {l:List Mv} {y:Mv} (h:l.getLast? = some y):y ∈ l:=List.mem_of_getLast? h
theorem sp_l {G Gn:Gr->Prop} {N a b:List Mv} (hN:Goes Gn N []) (hd:∀ g,G g->¬ Gn g) (ia:Irr a) (ha:∀ x ∈ a,G (grp x)):Goes (GU G Gn) (a ++ N ++ b) (a ++ b):=by
 have:=(hN.pre (G:=GU G Gn) ia (fun y hy=>.inl (ha y (head_mem hy))) (fun y hy=>hd _ (ha y (last_mem hy))) (fun _ g hg=>.inr hg)).post b
 simpa using this
structure Blk (G:Gr->Prop) (ws:List (D × List Mv)) (du:List Mv):Prop where
 w:∀ x ∈ ws,Wd x.1 x.2
 g:∀ x ∈ ws,∀ m ∈ x.2,G (grp m)
 dg:∀ m ∈ du,G (grp m)
 df:∀ m ∈ du,FlR 12 m.d false [m]
 dw:∀ m ∈ du,m.wf
 ir:Irr du
 dl:du.length ≤ 2
 wl:ws.length ≤ 2
 sp:∀ (k:Nat) (N:List Mv) (Gn:Gr->Prop),Goes Gn N []->(∀ g,G g->¬ Gn g)->Goes (GU G Gn) ((ws.take k).flatMap (·.2) ++ N ++ (ws.drop k).flatMap (·.2)) du
theorem blk1 {G:Gr->Prop} {w:D} {du:List Mv} (h:Wd w du) (dg:∀ m ∈ du,G (grp m)) (df:∀ m ∈ du,FlR 12 m.d false [m]) (ir:Irr du):Blk G [(w,du)] du:=by
 refine ⟨fun x hx=>by rw [List.mem_singleton.mp hx];exact h,fun x hx=>by rw [List.mem_singleton.mp hx];exact dg,dg,df,h.wf,ir,h.ln,by simp,fun k N Gn hN hd=>?_⟩
 cases k with
 | zero=>simpa using sp_l (a:=[]) (b:=du) hN hd irr_nil (by simp)
 | succ k=>simpa using sp_l (a:=du) (b:=[]) hN hd ir dg
theorem blk2 {G:Gr->Prop} {w w':D} {l l' du:List Mv} (h:Wd w l) (h':Wd w' l') (g:∀ m ∈ l,G (grp m)) (g':∀ m ∈ l',G (grp m)) (dg:∀ m ∈ du,G (grp m)) (df:∀ m ∈ du,FlR 12 m.d false [m]) (dw:∀ m ∈ du,m.wf) (ir:Irr du) (il:Irr l) (dl:du.length ≤ 2) (t:Goes G (l ++ l') du):Blk G [(w,l),(w',l')] du:=by
 refine ⟨fun x hx=>?_,fun x hx=>?_,dg,df,dw,ir,dl,by simp,fun k N Gn hN hd=>?_⟩
 ·rcases List.mem_cons.mp hx with rfl | hx
  ·exact h
  ·rw [List.mem_singleton.mp hx];exact h'
 ·rcases List.mem_cons.mp hx with rfl | hx
  ·exact g
  ·rw [List.mem_singleton.mp hx];exact g'
 ·have t2:Goes (GU G Gn) (l ++ l') du:=t.mono fun _ z=>.inl z
  match k with
  | 0=>
   have:=sp_l (a:=[]) (b:=l ++ l') hN hd irr_nil (by simp)
   simpa using this.trans (by simpa using t2)
  | 1=>
   have:=sp_l (a:=l) (b:=l') hN hd il g
   simpa using this.trans t2
  | k + 2=>
   have a:=t2.post N
   have b:=sp_l (a:=du) (b:=[]) hN hd ir dg
   simpa using a.trans (by simpa using b)
theorem FlR.ba (m:Mb):∀ n,FlR (n + 6) m.d false [.ba m]:=fun n=>fl_b m (n + 5)
theorem FlR.bk (m:Mb):∀ n,FlR (n + 6) (bK m.d) false [.bk m]:=fun n=>fl_k (fl_bt m (n + 4))
theorem wd_ba (m:Mb):Wd m.d [.ba m]:=⟨fl_b m 11,e_self (.ba m),by have:=dep_mb m;omega,fun x hx=>by rw [List.mem_singleton.mp hx];trivial,by simp⟩
theorem wd_bk (m:Mb):Wd (bK m.d) [.bk m]:=⟨fl_k (fl_bt m 10),e_self (.bk m),by have:=dep_mb m;show max 0 (max (dep m.d) 0) + 1 ≤ 30;omega,fun x hx=>by rw [List.mem_singleton.mp hx];trivial,by simp⟩
theorem blk_none {G:Gr->Prop} {x y:Mv} (hx:Wd x.d [x]) (hy:Wd y.d [y]) (gx:G (grp x)) (gy:G (grp y)) (h:tog x y = none):Blk G [(x.d,[x]),(y.d,[y])] [x,y]:=
 blk2 hx hy (by simpa using gx) (by simpa using gy) (by simp [gx,gy]) (by
  intro m hm
  rcases List.mem_cons.mp hm with rfl | hm
  ·exact hx.fl
  ·rw [List.mem_singleton.mp hm];exact hy.fl) (by
  intro m hm
  rcases List.mem_cons.mp hm with rfl | hm
  ·exact hx.wf m (by simp)
  ·rw [List.mem_singleton.mp hm];exact hy.wf _ (by simp)) (irr_two h) (irr_one x) (by simp) .refl
end L48
namespace L48
open PySem L2 DL
theorem tog_kb {m m':Mb} (h:m ≠ m'\/isPut m = true):tog (.bk m) (.ba m') = none:=by
 have:bg (.bk m) (.ba m') = none:=by
  show (if isPut m = true then none else if m = m' then some [] else none) = _
  rcases h with h | h <;> simp [h]
 unfold tog
 rw [this]
 rfl
theorem tog_bk {m m':Mb} (h:m' ≠ m\/isCap m = true):tog (.ba m) (.bk m') = none:=by
 have:bg (.ba m) (.bk m') = none:=by
  show (if isCap m = true then none else if m' = m then some [] else none) = _
  rcases h with h | h <;> simp [h]
 unfold tog
 rw [this]
 cases m <;> rfl
theorem md {x:Int} (n:Int) (h:0 < n:=by omega):0 ≤ x % n/\x % n < n:=⟨Int.emod_nonneg _ (by omega),Int.emod_lt_of_pos _ h⟩
theorem e_unl {xs:D} {x0 x1 x2 x3 x4 x5:Int} (X:Xs xs x0 x1 x2 x3 x4 x5) (a b c d:Str) (bc:b ≠ c) (bd:b ≠ d) (cd:c ≠ d):∃ m m':Mb,F__law_unlike [xs,nM a b c d] = .val (.fz (.lst [m.d,m'.d]))/\m.t = a/\m'.t = a/\m ≠ m':=by
 have n0:ixD (nM a b c d) (.int 0) = .val (.str a):=rfl
 have n1:ixD (nM a b c d) (.int 1) = .val (.str b):=rfl
 have n2:ixD (nM a b c d) (.int 2) = .val (.str c):=rfl
 have n3:ixD (nM a b c d) (.int 3) = .val (.str d):=rfl
 have dv:∀ d,(DV.fz d).d = d:=fun _=>rfl
 have i0:∀ p q r s:D,ixD (.lst [p,q,r,s]) (.int 0) = .val p:=fun _ _ _ _=>rfl
 have i1:∀ p q r s:D,ixD (.lst [p,q,r,s]) (.int 1) = .val q:=fun _ _ _ _=>rfl
 have i2:∀ p q r s:D,ixD (.lst [p,q,r,s]) (.int 2) = .val r:=fun _ _ _ _=>rfl
 have i3:∀ p q r s:D,ixD (.lst [p,q,r,s]) (.int 3) = .val s:=fun _ _ _ _=>rfl
 have m2:∀ i,modD (.int i) (.int 2) = .val (.int (i % 2)):=fun i=>m_mod (by omega)
 have m3:∀ i,modD (.int i) (.int 3) = .val (.int (i % 3)):=fun i=>m_mod (by omega)
 have m4:∀ i,modD (.int i) (.int 4) = .val (.int (i % 4)):=fun i=>m_mod (by omega)
 have m5:∀ i,modD (.int i) (.int 5) = .val (.int (i % 5)):=fun i=>m_mod (by omega)
 have m9:∀ i,modD (.int i) (.int 9) = .val (.int (i % 9)):=fun i=>m_mod (by omega)
 have m41:∀ i,modD (.int i) (.int 41) = .val (.int (i % 41)):=fun i=>m_mod (by omega)
 have m7:∀ i,modD (.int i) (.int 7) = .val (.int (i % 7)):=fun i=>m_mod (by omega)
 have tk:sliceX (nM a b c d) none (some 2) = .val (.lst [.str a,.str b]):=rfl
 have u2:∀ {i j:Nat} {δ:Dst} {p q:D},bTupL 2 (bCons (bName i) (bCons (bName j) bNil)) (.lst [p,q]) δ = some ((δ.set i (some (.fz p))).set j (some (.fz q))):=rfl
 have bn:∀ {i:Nat} {p:D} {δ:Dst},bName i p δ = some (δ.set i (some (.fz p))):=rfl
 have ag:∀ {g:Dst->Res D} {bb:D->Dst->Option Dst} {δ:Dst},asgS g bb δ = match g δ with | .val d=>ofO (bb d δ) .next | .exc x=>.exc x δ | .bad=>.bad:=fun {g bb δ}=>by unfold asgS;cases g δ <;> rfl
 have oo:∀ {δ:Dst} {k:Dst->So},ofO (some δ) k = k δ:=rfl
 have w:=md (x:=x5) 7
 have q:=md (x:=x1) 4
 have q2:=md (x:=x1) 2
 have q9:=md (x:=x1) 9
 have p9:=md (x:=x2) 9
 have c0:x5 % 7 = 0\/x5 % 7 = 1\/x5 % 7 = 2\/x5 % 7 = 3\/x5 % 7 = 4\/x5 % 7 = 5\/x5 % 7 = 6:=by omega
 have t4:x1 % 4 = 0\/x1 % 4 = 1\/x1 % 4 = 2\/x1 % 4 = 3:=by omega
 have t2:x1 % 2 = 0\/x1 % 2 = 1:=by omega
 rcases c0 with h | h | h | h | h | h | h
 ·refine ⟨.cap a b (x1 % 9),.cap a b (x1 % 9 + 1 + x2 % 9),?_,rfl,rfl,fun z=>by injection z;omega⟩
  simp [F__law_unlike,Gb__law_unlike,fnD,startD,seq_e,sb_n,sb_r,st,re,if_e,fin,tu,ls,co,nilA,bi,gv,su,ad,ce,ab,rb,ofr,lk0,lk1,lk2,lk3,lk4,lk5,lk6,nilS,ca,uE,iR,cN,X.h0,X.h1,X.h2,X.h3,X.h4,X.h5,n0,n1,n2,n3,dv,i0,i1,i2,i3,m2,m3,m4,m5,m9,m41,m7,tk,u2,bn,ag,oo,sy,aI,h]
  first | rfl | exact ⟨rfl,rfl⟩
 ·have s5:∀ n,sliceX (Mb.part a b c d n).d none (some 5) = .val (.tup [.str "part",.str a,.str b,.str c,.str d]):=fun _=>rfl
  have i5:∀ n,ixD (Mb.part a b c d n).d (.int 5) = .val (.int n):=fun _=>rfl
  have ax:∀ n,addX (.tup [.str "part",.str a,.str b,.str c,.str d]) (.tup [.int n]) = .val (Mb.part a b c d n).d:=fun _=>rfl
  have pd:∀ n,D.tup [.str "part",.str a,.str b,.str c,.str d,.int n] = (Mb.part a b c d n).d:=fun _=>rfl
  refine ⟨.part a b c d (1 + x1 % 9),.part a b c d (1 + x1 % 9 + 1 + x2 % 9),?_,rfl,rfl,fun z=>by injection z;omega⟩
  simp [F__law_unlike,Gb__law_unlike,fnD,startD,seq_e,sb_n,sb_r,st,re,if_e,fin,tu,ls,co,nilA,bi,gv,su,ad,ce,ab,rb,ofr,lk0,lk1,lk2,lk3,lk4,lk5,lk6,nilS,ca,uE,iR,cN,X.h0,X.h1,X.h2,X.h3,X.h4,X.h5,n0,n1,n2,n3,dv,i0,i1,i2,i3,m2,m3,m4,m5,m9,m41,m7,tk,u2,bn,ag,oo,sy,aI,h,pd,s5,i5,ax]
 ·have i5:∀ n,ixD (Mb.part a b c d n).d (.int 5) = .val (.int n):=fun _=>rfl
  have pd:∀ n,D.tup [.str "part",.str a,.str b,.str c,.str d,.int n] = (Mb.part a b c d n).d:=fun _=>rfl
  refine ⟨.part a b c d (1 + x1 % 9),.part a b d c (1 + x1 % 9),?_,rfl,rfl,fun z=>by injection z;exact cd (by assumption)⟩
  simp [F__law_unlike,Gb__law_unlike,fnD,startD,seq_e,sb_n,sb_r,st,re,if_e,fin,tu,ls,co,nilA,bi,gv,su,ad,ce,ab,rb,ofr,lk0,lk1,lk2,lk3,lk4,lk5,lk6,nilS,ca,uE,iR,cN,X.h0,X.h1,X.h2,X.h3,X.h4,X.h5,n0,n1,n2,n3,dv,i0,i1,i2,i3,m2,m3,m4,m5,m9,m41,m7,tk,u2,bn,ag,oo,sy,aI,h,pd,i5]
  first | rfl | exact ⟨rfl,rfl⟩
 ·have z:∃ u v:Str,ixD (.str ",;- ") (.int (x1 % 4)) = .val (.str u)/\ixD (.str ",;- ") (.int ((x1 + 1) % 4)) = .val (.str v)/\u ≠ v:=by
   rcases t4 with g | g | g | g
   ·rw [g,show (x1 + 1) % 4 = 1 by omega];exact ⟨_,_,rfl,rfl,by decide +kernel⟩
   ·rw [g,show (x1 + 1) % 4 = 2 by omega];exact ⟨_,_,rfl,rfl,by decide +kernel⟩
   ·rw [g,show (x1 + 1) % 4 = 3 by omega];exact ⟨_,_,rfl,rfl,by decide +kernel⟩
   ·rw [g,show (x1 + 1) % 4 = 0 by omega];exact ⟨_,_,rfl,rfl,by decide +kernel⟩
  obtain ⟨u,v,hu,hv,ne⟩:=z
  refine ⟨.split a b u,.split a b v,?_,rfl,rfl,fun z=>by injection z;exact ne (by assumption)⟩
  simp [F__law_unlike,Gb__law_unlike,fnD,startD,seq_e,sb_n,sb_r,st,re,if_e,fin,tu,ls,co,nilA,bi,gv,su,ad,ce,ab,rb,ofr,lk0,lk1,lk2,lk3,lk4,lk5,lk6,nilS,ca,uE,iR,cN,X.h0,X.h1,X.h2,X.h3,X.h4,X.h5,n0,n1,n2,n3,dv,i0,i1,i2,i3,m2,m3,m4,m5,m9,m41,m7,tk,u2,bn,ag,oo,sy,aI,h,hu,hv]
  first | rfl | exact ⟨rfl,rfl⟩
 ·have mu:mulD (.int 2) (.int (x1 % 2)) = .val (.int (2 * (x1 % 2))):=m_mulN (by omega) (by omega)
  rcases t2 with g | g
  ·refine ⟨.rows a b,.rows a c,?_,rfl,rfl,fun z=>by injection z;exact bc (by assumption)⟩
   simp [F__law_unlike,Gb__law_unlike,fnD,startD,seq_e,sb_n,sb_r,st,re,if_e,fin,tu,ls,co,nilA,bi,gv,su,ad,ce,ab,rb,ofr,lk0,lk1,lk2,lk3,lk4,lk5,lk6,nilS,ca,uE,iR,cN,X.h0,X.h1,X.h2,X.h3,X.h4,X.h5,n0,n1,n2,n3,dv,i0,i1,i2,i3,m2,m3,m4,m5,m9,m41,m7,tk,u2,bn,ag,oo,sy,aI,h,g]
   first | rfl | exact ⟨rfl,rfl⟩
  ·refine ⟨.rows a b,.rows a d,?_,rfl,rfl,fun z=>by injection z;exact bd (by assumption)⟩
   simp [F__law_unlike,Gb__law_unlike,fnD,startD,seq_e,sb_n,sb_r,st,re,if_e,fin,tu,ls,co,nilA,bi,gv,su,ad,ce,ab,rb,ofr,lk0,lk1,lk2,lk3,lk4,lk5,lk6,nilS,ca,uE,iR,cN,X.h0,X.h1,X.h2,X.h3,X.h4,X.h5,n0,n1,n2,n3,dv,i0,i1,i2,i3,m2,m3,m4,m5,m9,m41,m7,tk,u2,bn,ag,oo,sy,aI,h,g]
   first | rfl | exact ⟨rfl,rfl⟩
 ·have mu:∀ i,mulD (.int 2) (.int i) = .val (.int (2 * i)):=fun i=>m_mulN (by omega) (by omega)
  have s1:sliceX (nM a b c d) (some 1) (some 3) = .val (.lst [.str b,.str c]):=rfl
  have s2:sliceX (nM a b c d) (some 1) (some 2) = .val (.lst [.str b]):=rfl
  have s3:sliceX (nM a b c d) (some 1) (some 4) = .val (.lst [.str b,.str c,.str d]):=rfl
  have tp:∀ l:List D,tupOf [.lst l] = .val (.tup l):=fun _=>rfl
  rcases t2 with g | g
  ·refine ⟨.cleave a [b,c],.cleave a [b],?_,rfl,rfl,fun z=>by injection z with _ y;cases y⟩
   simp [F__law_unlike,Gb__law_unlike,fnD,startD,seq_e,sb_n,sb_r,st,re,if_e,fin,tu,ls,co,nilA,bi,gv,su,ad,ce,ab,rb,ofr,lk0,lk1,lk2,lk3,lk4,lk5,lk6,nilS,ca,uE,iR,cN,X.h0,X.h1,X.h2,X.h3,X.h4,X.h5,n0,n1,n2,n3,dv,i0,i1,i2,i3,m2,m3,m4,m5,m9,m41,m7,tk,u2,bn,ag,oo,sy,aI,h,g,mu,s1,s2,s3,tp]
   first | rfl | exact ⟨rfl,rfl⟩
  ·refine ⟨.cleave a [b,c],.cleave a [b,c,d],?_,rfl,rfl,fun z=>by injection z with _ y;cases y⟩
   simp [F__law_unlike,Gb__law_unlike,fnD,startD,seq_e,sb_n,sb_r,st,re,if_e,fin,tu,ls,co,nilA,bi,gv,su,ad,ce,ab,rb,ofr,lk0,lk1,lk2,lk3,lk4,lk5,lk6,nilS,ca,uE,iR,cN,X.h0,X.h1,X.h2,X.h3,X.h4,X.h5,n0,n1,n2,n3,dv,i0,i1,i2,i3,m2,m3,m4,m5,m9,m41,m7,tk,u2,bn,ag,oo,sy,aI,h,g,mu,s1,s2,s3,tp]
   first | rfl | exact ⟨rfl,rfl⟩
 ·have j0:∀ p q:D,ixD (.lst [p,q]) (.int 0) = .val p:=fun _ _=>rfl
  have j1:∀ p q:D,ixD (.lst [p,q]) (.int 1) = .val q:=fun _ _=>rfl
  rcases t2 with g | g
  ·refine ⟨.put a b .whole (.i (x2 % 9)),.put a b .whole (.i (x2 % 9 - 1)),?_,rfl,rfl,fun z=>by injection z with _ _ _ y;injection y;omega⟩
   simp [F__law_unlike,Gb__law_unlike,fnD,startD,seq_e,sb_n,sb_r,st,re,if_e,fin,tu,ls,co,nilA,bi,gv,su,ad,ce,ab,rb,ofr,lk0,lk1,lk2,lk3,lk4,lk5,lk6,nilS,ca,uE,iR,cN,X.h0,X.h1,X.h2,X.h3,X.h4,X.h5,n0,n1,n2,n3,dv,i0,i1,i2,i3,m2,m3,m4,m5,m9,m41,m7,tk,u2,bn,ag,oo,sy,aI,h,g,j0,j1]
   first | rfl | exact ⟨rfl,rfl⟩
  ·refine ⟨.put a b .whole (.i (x2 % 9)),.put a b .upto (.i (x2 % 9 - 1)),?_,rfl,rfl,fun z=>by injection z with _ _ y;cases y⟩
   simp [F__law_unlike,Gb__law_unlike,fnD,startD,seq_e,sb_n,sb_r,st,re,if_e,fin,tu,ls,co,nilA,bi,gv,su,ad,ce,ab,rb,ofr,lk0,lk1,lk2,lk3,lk4,lk5,lk6,nilS,ca,uE,iR,cN,X.h0,X.h1,X.h2,X.h3,X.h4,X.h5,n0,n1,n2,n3,dv,i0,i1,i2,i3,m2,m3,m4,m5,m9,m41,m7,tk,u2,bn,ag,oo,sy,aI,h,g,j0,j1]
   first | rfl | exact ⟨rfl,rfl⟩
end L48
namespace L48
open PySem L2 DL
def sl (a b:Str) (n:Int):List Mv:=if n = 0 then [] else [.sh a b n]
theorem sl_mem {a b:Str} {n:Int} {m:Mv} (h:m ∈ sl a b n):m = .sh a b n/\n ≠ 0:=by
 unfold sl at h
 split at h
 ·cases h
 ·exact ⟨List.mem_singleton.mp h,by assumption⟩
theorem sl_irr (a b:Str) (n:Int):Irr (sl a b n):=by
 unfold sl
 split
 ·exact irr_nil
 ·exact irr_one _
theorem sl_len (a b:Str) (n:Int):(sl a b n).length ≤ 2:=by
 unfold sl
 split <;> simp
theorem sl_d (a b:Str) (n:Int):(sl a b n).map Mv.d = if n = 0 then [] else [sS a b n]:=by
 unfold sl
 split <;> rfl
theorem sh_keep {a b:Str} {n:Int} (h:n ≠ 0) (k:Nat):FlR (k + 1) (sS a b n) false [.sh a b n]:=by
 have:=fl_s a b n k
 rw [if_neg h] at this
 exact this
theorem tog_sh (a b:Str) (n m:Int):tog (.sh a b n) (.sh a b m) = some (sl a b (n + m)):=by
 show (none <|> (if a = a/\b = b then some (if n + m = 0 then [] else [Mv.sh a b (n + m)]) else none) <|> _) = _
 rw [if_pos ⟨rfl,rfl⟩]
 rfl
theorem goes_sl {a b:Str} {G:Gr->Prop} (g:G (.inl a)) (n m:Int):Goes G (sl a b n ++ sl a b m) (sl a b (n + m)):=by
 by_cases h:n = 0
 ·subst h
  rw [Int.zero_add]
  exact .refl
 ·by_cases h':m = 0
  ·subst h'
   rw [Int.add_zero]
   show Goes G (sl a b n ++ []) _
   rw [List.append_nil]
   exact .refl
  ·have e:sl a b n ++ sl a b m = [.sh a b n,.sh a b m]:=by unfold sl;rw [if_neg h,if_neg h'];rfl
   rw [e]
   exact .pair (tog_sh a b n m) g
theorem e_shf {xs:D} {x0 x1 x2 x3 x4 x5:Int} (X:Xs xs x0 x1 x2 x3 x4 x5) (a b c d:Str) (n:Int):∃ ws du,F__law_shifts [xs,nM a b c d] = .val (.fz (.lst [.lst (ws.map (·.1)),.lst (du.map Mv.d)]))/\Blk (GA a n) ws du:=by
 have n0:ixD (nM a b c d) (.int 0) = .val (.str a):=rfl
 have n1:ixD (nM a b c d) (.int 1) = .val (.str b):=rfl
 have n2:ixD (nM a b c d) (.int 2) = .val (.str c):=rfl
 have n3:ixD (nM a b c d) (.int 3) = .val (.str d):=rfl
 have dv:∀ d,(DV.fz d).d = d:=fun _=>rfl
 have i0:∀ p q r s:D,ixD (.lst [p,q,r,s]) (.int 0) = .val p:=fun _ _ _ _=>rfl
 have i1:∀ p q r s:D,ixD (.lst [p,q,r,s]) (.int 1) = .val q:=fun _ _ _ _=>rfl
 have i2:∀ p q r s:D,ixD (.lst [p,q,r,s]) (.int 2) = .val r:=fun _ _ _ _=>rfl
 have i3:∀ p q r s:D,ixD (.lst [p,q,r,s]) (.int 3) = .val s:=fun _ _ _ _=>rfl
 have m2:∀ i,modD (.int i) (.int 2) = .val (.int (i % 2)):=fun i=>m_mod (by omega)
 have m3:∀ i,modD (.int i) (.int 3) = .val (.int (i % 3)):=fun i=>m_mod (by omega)
 have m4:∀ i,modD (.int i) (.int 4) = .val (.int (i % 4)):=fun i=>m_mod (by omega)
 have m5:∀ i,modD (.int i) (.int 5) = .val (.int (i % 5)):=fun i=>m_mod (by omega)
 have m9:∀ i,modD (.int i) (.int 9) = .val (.int (i % 9)):=fun i=>m_mod (by omega)
 have m41:∀ i,modD (.int i) (.int 41) = .val (.int (i % 41)):=fun i=>m_mod (by omega)
 have k3:∀ t c n,ixD (sS t c n) (.int 3) = .val (.int n):=fun _ _ _=>rfl
 generalize hn1:x1 % 41 - 20 = s1
 generalize hn2:x2 % 41 - 20 = s2
 have dg:∀ m ∈ sl a b (s1 + s2),GA a n (grp m):=fun m hm=>by rw [(sl_mem hm).1];exact .inl rfl
 have df:∀ m ∈ sl a b (s1 + s2),FlR 12 m.d false [m]:=fun m hm=>by rw [(sl_mem hm).1];exact sh_keep (sl_mem hm).2 11
 by_cases h:x4 % 3 = 0
 ·refine ⟨[(bK (sS a b (0 - (s1 + s2))),sl a b (s1 + s2))],sl a b (s1 + s2),?_,blk1 ⟨?_,sf_bk (e_self (.sh a b _)),by show 2 ≤ 30;omega,fun m hm=>by rw [(sl_mem hm).1];trivial,sl_len _ _ _⟩ dg df (sl_irr _ _ _)⟩
  ·rw [sl_d]
   by_cases h0:s1 + s2 = 0
   ·simp [F__law_shifts,Gb__law_shifts,fnD,startD,seq_e,sb_n,sb_r,st,re,if_e,fin,tu,ls,co,nilA,bi,gv,su,ad,ce,ab,rb,ofr,lk0,lk1,lk2,lk3,lk4,lk5,lk6,nilS,ca,uE,iR,cN,X.h0,X.h1,X.h2,X.h3,X.h4,X.h5,n0,n1,n2,n3,dv,i0,i1,i2,i3,m2,m3,m4,m5,m9,m41,k3,hn1,hn2,h,h0]
   ·have hb0:(s1 + s2 == 0) = false:=by simpa using h0
    simp [F__law_shifts,Gb__law_shifts,fnD,startD,seq_e,sb_n,sb_r,st,re,if_e,fin,tu,ls,co,nilA,bi,gv,su,ad,ce,ab,rb,ofr,lk0,lk1,lk2,lk3,lk4,lk5,lk6,nilS,ca,uE,iR,cN,X.h0,X.h1,X.h2,X.h3,X.h4,X.h5,n0,n1,n2,n3,dv,i0,i1,i2,i3,m2,m3,m4,m5,m9,m41,k3,hn1,hn2,h,h0,hb0]
  ·have:=fl_k (b:=false) (fl_st a b (0 - (s1 + s2)) 10)
   rw [show -(0 - (s1 + s2)) = s1 + s2 by omega] at this
   exact this
 ·have hb3:(x4 % 3 == 0) = false:=by simpa using h
  have q4:=md (x:=x4) 4
  have q5:=md (x:=x5) 4
  obtain ⟨w1,e1,d1⟩:=wd_told (w:=sS a b s1) (l:=sl a b s1) (fun k=>fl_s a b s1 (k + 5)) (e_self (.sh a b s1)) (by show 1 ≤ 20;omega) (fun m hm=>by rw [(sl_mem hm).1];trivial) (sl_len _ _ _) q4.1 q4.2
  obtain ⟨w2,e2,d2⟩:=wd_told (w:=sS a b s2) (l:=sl a b s2) (fun k=>fl_s a b s2 (k + 5)) (e_self (.sh a b s2)) (by show 1 ≤ 20;omega) (fun m hm=>by rw [(sl_mem hm).1];trivial) (sl_len _ _ _) q5.1 q5.2
  refine ⟨[(w1,sl a b s1),(w2,sl a b s2)],sl a b (s1 + s2),?_,blk2 d1 d2 (fun m hm=>by rw [(sl_mem hm).1];exact .inl rfl) (fun m hm=>by rw [(sl_mem hm).1];exact .inl rfl) dg df (fun m hm=>by rw [(sl_mem hm).1];trivial) (sl_irr _ _ _) (sl_irr _ _ _) (sl_len _ _ _) (goes_sl (.inl rfl) _ _)⟩
  rw [sl_d]
  by_cases h0:s1 + s2 = 0
  ·simp [F__law_shifts,Gb__law_shifts,fnD,startD,seq_e,sb_n,sb_r,st,re,if_e,fin,tu,ls,co,nilA,bi,gv,su,ad,ce,ab,rb,ofr,lk0,lk1,lk2,lk3,lk4,lk5,lk6,nilS,ca,uE,iR,cN,X.h0,X.h1,X.h2,X.h3,X.h4,X.h5,n0,n1,n2,n3,dv,i0,i1,i2,i3,m2,m3,m4,m5,m9,m41,k3,hn1,hn2,h,h0,e1,e2,hb3]
  ·have hb0:(s1 + s2 == 0) = false:=by simpa using h0
   simp [F__law_shifts,Gb__law_shifts,fnD,startD,seq_e,sb_n,sb_r,st,re,if_e,fin,tu,ls,co,nilA,bi,gv,su,ad,ce,ab,rb,ofr,lk0,lk1,lk2,lk3,lk4,lk5,lk6,nilS,ca,uE,iR,cN,X.h0,X.h1,X.h2,X.h3,X.h4,X.h5,n0,n1,n2,n3,dv,i0,i1,i2,i3,m2,m3,m4,m5,m9,m41,k3,hn1,hn2,h,h0,e1,e2,hb3,hb0]
theorem e_rns {xs:D} {x0 x1 x2 x3 x4 x5:Int} (X:Xs xs x0 x1 x2 x3 x4 x5) (a b c d:Str) (bc:b ≠ c) (n:Int):∃ ws du,F__law_renames [xs,nM a b c d] = .val (.fz (.lst [.lst (ws.map (·.1)),.lst (du.map Mv.d)]))/\Blk (GA a n) ws du:=by
 have n0:ixD (nM a b c d) (.int 0) = .val (.str a):=rfl
 have n1:ixD (nM a b c d) (.int 1) = .val (.str b):=rfl
 have n2:ixD (nM a b c d) (.int 2) = .val (.str c):=rfl
 have n3:ixD (nM a b c d) (.int 3) = .val (.str d):=rfl
 have dv:∀ d,(DV.fz d).d = d:=fun _=>rfl
 have i0:∀ p q r s:D,ixD (.lst [p,q,r,s]) (.int 0) = .val p:=fun _ _ _ _=>rfl
 have i1:∀ p q r s:D,ixD (.lst [p,q,r,s]) (.int 1) = .val q:=fun _ _ _ _=>rfl
 have i2:∀ p q r s:D,ixD (.lst [p,q,r,s]) (.int 2) = .val r:=fun _ _ _ _=>rfl
 have i3:∀ p q r s:D,ixD (.lst [p,q,r,s]) (.int 3) = .val s:=fun _ _ _ _=>rfl
 have m2:∀ i,modD (.int i) (.int 2) = .val (.int (i % 2)):=fun i=>m_mod (by omega)
 have m3:∀ i,modD (.int i) (.int 3) = .val (.int (i % 3)):=fun i=>m_mod (by omega)
 have m4:∀ i,modD (.int i) (.int 4) = .val (.int (i % 4)):=fun i=>m_mod (by omega)
 have m5:∀ i,modD (.int i) (.int 5) = .val (.int (i % 5)):=fun i=>m_mod (by omega)
 have m9:∀ i,modD (.int i) (.int 9) = .val (.int (i % 9)):=fun i=>m_mod (by omega)
 have m41:∀ i,modD (.int i) (.int 41) = .val (.int (i % 41)):=fun i=>m_mod (by omega)
 have dg:∀ m ∈ [Mv.re a b c],GA a n (grp m):=fun m hm=>by rw [List.mem_singleton.mp hm];exact .inl rfl
 have df:∀ m ∈ [Mv.re a b c],FlR 12 m.d false [m]:=fun m hm=>by rw [List.mem_singleton.mp hm];exact fl_r a b c 11
 by_cases h:x4 % 3 = 0
 ·refine ⟨[(bK (rN a c b),[.re a b c])],[.re a b c],?_,blk1 ⟨fl_k (fl_rt a c b 10),sf_bk (e_self (.re a c b)),by show 2 ≤ 30;omega,fun m hm=>by rw [List.mem_singleton.mp hm];trivial,by simp⟩ dg df (irr_one _)⟩
  simp [F__law_renames,Gb__law_renames,fnD,startD,seq_e,sb_n,sb_r,st,re,if_e,fin,tu,ls,co,nilA,bi,gv,su,ad,ce,ab,rb,ofr,lk0,lk1,lk2,lk3,lk4,lk5,lk6,nilS,ca,uE,iR,cN,X.h0,X.h1,X.h2,X.h3,X.h4,X.h5,n0,n1,n2,n3,dv,i0,i1,i2,i3,m2,m3,m4,m5,m9,m41,h]
  first | rfl | exact ⟨rfl,rfl⟩
 ·have hb3:(x4 % 3 == 0) = false:=by simpa using h
  have q4:=md (x:=x4) 4
  have q5:=md (x:=x5) 4
  obtain ⟨w1,e1,d1⟩:=wd_told (w:=rN a b d) (l:=[.re a b d]) (fun k=>fl_r a b d (k + 5)) (e_self (.re a b d)) (by show 1 ≤ 20;omega) (fun m hm=>by rw [List.mem_singleton.mp hm];trivial) (by simp) q4.1 q4.2
  obtain ⟨w2,e2,d2⟩:=wd_told (w:=rN a d c) (l:=[.re a d c]) (fun k=>fl_r a d c (k + 5)) (e_self (.re a d c)) (by show 1 ≤ 20;omega) (fun m hm=>by rw [List.mem_singleton.mp hm];trivial) (by simp) q5.1 q5.2
  have t:tog (.re a b d) (.re a d c) = some [.re a b c]:=by
   show (none <|> none <|> none <|> (if a = a/\d = d then some (if c = b then [] else [Mv.re a b c]) else none) <|> _) = _
   rw [if_pos ⟨rfl,rfl⟩,if_neg (Ne.symm bc)]
   rfl
  refine ⟨[(w1,[.re a b d]),(w2,[.re a d c])],[.re a b c],?_,blk2 d1 d2 (fun m hm=>by rw [List.mem_singleton.mp hm];exact .inl rfl) (fun m hm=>by rw [List.mem_singleton.mp hm];exact .inl rfl) dg df (fun m hm=>by rw [List.mem_singleton.mp hm];trivial) (irr_one _) (irr_one _) (by simp) (.pair t (.inl rfl))⟩
  simp [F__law_renames,Gb__law_renames,fnD,startD,seq_e,sb_n,sb_r,st,re,if_e,fin,tu,ls,co,nilA,bi,gv,su,ad,ce,ab,rb,ofr,lk0,lk1,lk2,lk3,lk4,lk5,lk6,nilS,ca,uE,iR,cN,X.h0,X.h1,X.h2,X.h3,X.h4,X.h5,n0,n1,n2,n3,dv,i0,i1,i2,i3,m2,m3,m4,m5,m9,m41,h,e1,e2,hb3]
  first | rfl | exact ⟨rfl,rfl⟩
theorem e_pts {xs:D} {x0 x1 x2 x3 x4 x5:Int} (X:Xs xs x0 x1 x2 x3 x4 x5) (a b c d:Str) (bc:b ≠ c) (n:Int):∃ ws du,F__law_puts [xs,nM a b c d] = .val (.fz (.lst [.lst (ws.map (·.1)),.lst (du.map Mv.d)]))/\Blk (GA a n) ws du:=by
 have n0:ixD (nM a b c d) (.int 0) = .val (.str a):=rfl
 have n1:ixD (nM a b c d) (.int 1) = .val (.str b):=rfl
 have n2:ixD (nM a b c d) (.int 2) = .val (.str c):=rfl
 have n3:ixD (nM a b c d) (.int 3) = .val (.str d):=rfl
 have dv:∀ d,(DV.fz d).d = d:=fun _=>rfl
 have i0:∀ p q r s:D,ixD (.lst [p,q,r,s]) (.int 0) = .val p:=fun _ _ _ _=>rfl
 have i1:∀ p q r s:D,ixD (.lst [p,q,r,s]) (.int 1) = .val q:=fun _ _ _ _=>rfl
 have i2:∀ p q r s:D,ixD (.lst [p,q,r,s]) (.int 2) = .val r:=fun _ _ _ _=>rfl
 have i3:∀ p q r s:D,ixD (.lst [p,q,r,s]) (.int 3) = .val s:=fun _ _ _ _=>rfl
 have m2:∀ i,modD (.int i) (.int 2) = .val (.int (i % 2)):=fun i=>m_mod (by omega)
 have m3:∀ i,modD (.int i) (.int 3) = .val (.int (i % 3)):=fun i=>m_mod (by omega)
 have m4:∀ i,modD (.int i) (.int 4) = .val (.int (i % 4)):=fun i=>m_mod (by omega)
 have m5:∀ i,modD (.int i) (.int 5) = .val (.int (i % 5)):=fun i=>m_mod (by omega)
 have m9:∀ i,modD (.int i) (.int 9) = .val (.int (i % 9)):=fun i=>m_mod (by omega)
 have m41:∀ i,modD (.int i) (.int 41) = .val (.int (i % 41)):=fun i=>m_mod (by omega)
 obtain ⟨m,em,hm,hp,_,_⟩:=e_move X a b c d (w:=0) (by omega) (by omega)
 obtain ⟨k,v,rfl⟩:=hp rfl
 have j3:ixD (Mb.put a b k v).d (.int 3) = .val k.d:=rfl
 have j4:ixD (Mb.put a b k v).d (.int 4) = .val v.d:=rfl
 have pd:D.tup [.str "put",.str a,.str c,k.d,v.d] = (Mb.put a c k v).d:=rfl
 by_cases h:x4 % 2 = 0
 ·have t:tog (.ba (.put a c k v)) (.re a c b) = some [.ba (.put a b k v)]:=by
   show (none <|> none <|> none <|> none <|> (if a = a/\c = c then some [Mv.ba (.put a b k v)] else none) <|> _) = _
   rw [if_pos ⟨rfl,rfl⟩]
   rfl
  refine ⟨[((Mb.put a c k v).d,[.ba (.put a c k v)]),(rN a c b,[.re a c b])],[.ba (.put a b k v)],?_,blk2 (wd_ba _) ⟨fl_r a c b 11,e_self (.re a c b),by show 1 ≤ 30;omega,fun m hm=>by rw [List.mem_singleton.mp hm];trivial,by simp⟩ (fun m hm=>by rw [List.mem_singleton.mp hm];exact .inl rfl) (fun m hm=>by rw [List.mem_singleton.mp hm];exact .inl rfl) (fun m hm=>by rw [List.mem_singleton.mp hm];exact .inl rfl) (fun m hm=>by rw [List.mem_singleton.mp hm];exact fl_b (.put a b k v) 11) (fun m hm=>by rw [List.mem_singleton.mp hm];trivial) (irr_one _) (irr_one _) (by simp) (.pair t (.inl rfl))⟩
  simp [F__law_puts,Gb__law_puts,fnD,startD,seq_e,sb_n,sb_r,st,re,if_e,fin,tu,ls,co,nilA,bi,gv,su,ad,ce,ab,rb,ofr,lk0,lk1,lk2,lk3,lk4,lk5,lk6,nilS,ca,uE,iR,cN,X.h0,X.h1,X.h2,X.h3,X.h4,X.h5,n0,n1,n2,n3,dv,i0,i1,i2,i3,m2,m3,m4,m5,m9,m41,h,em,j3,j4,pd]
  first | rfl | exact ⟨rfl,rfl⟩
 ·have hb2:(x4 % 2 == 0) = false:=by simpa using h
  have t:tog (.re a b c) (.bk (.put a c k v)) = some [.bk (.put a b k v)]:=by
   show (none <|> none <|> none <|> none <|> none <|> (if a = a/\c = c then some [Mv.bk (.put a b k v)] else none)) = _
   rw [if_pos ⟨rfl,rfl⟩]
   rfl
  refine ⟨[(rN a b c,[.re a b c]),(bK (Mb.put a c k v).d,[.bk (.put a c k v)])],[.bk (.put a b k v)],?_,blk2 ⟨fl_r a b c 11,e_self (.re a b c),by show 1 ≤ 30;omega,fun m hm=>by rw [List.mem_singleton.mp hm];trivial,by simp⟩ (wd_bk _) (fun m hm=>by rw [List.mem_singleton.mp hm];exact .inl rfl) (fun m hm=>by rw [List.mem_singleton.mp hm];exact .inl rfl) (fun m hm=>by rw [List.mem_singleton.mp hm];exact .inl rfl) (fun m hm=>by rw [List.mem_singleton.mp hm];exact fl_k (fl_bt _ 10)) (fun m hm=>by rw [List.mem_singleton.mp hm];trivial) (irr_one _) (irr_one _) (by simp) (.pair t (.inl rfl))⟩
  simp [F__law_puts,Gb__law_puts,fnD,startD,seq_e,sb_n,sb_r,st,re,if_e,fin,tu,ls,co,nilA,bi,gv,su,ad,ce,ab,rb,ofr,lk0,lk1,lk2,lk3,lk4,lk5,lk6,nilS,ca,uE,iR,cN,X.h0,X.h1,X.h2,X.h3,X.h4,X.h5,n0,n1,n2,n3,dv,i0,i1,i2,i3,m2,m3,m4,m5,m9,m41,h,em,j3,j4,pd,hb2]
  first | rfl | exact ⟨rfl,rfl⟩
end L48
namespace L48
open PySem L2 DL
def nl (n t p:Int):List Mv:=if t % n = 1 % n/\p % n = 0 then [] else [.nu t p n]
theorem nl_mem {n t p:Int} {m:Mv} (h:m ∈ nl n t p):m = .nu t p n/\¬ (t % n = 1 % n/\p % n = 0):=by
 unfold nl at h
 split at h
 ·cases h
 ·exact ⟨List.mem_singleton.mp h,by assumption⟩
theorem nl_irr (n t p:Int):Irr (nl n t p):=by
 unfold nl
 split
 ·exact irr_nil
 ·exact irr_one _
theorem nl_len (n t p:Int):(nl n t p).length ≤ 2:=by
 unfold nl
 split <;> simp
def nW (n t p:Int):Prop:=0 ≤ t/\t < n/\0 ≤ p/\p < n/\n ≤ 2000
theorem tog_nu {n t p t' p':Int}:tog (.nu t p n) (.nu t' p' n) = some (nl n (t * t' % n) ((p * t' + p') % n)):=by
 show (none <|> none <|> (if n = n then some (if t * t' % n = 1 % n/\(p * t' + p') % n = 0 then [] else [Mv.nu (t * t' % n) ((p * t' + p') % n) n]) else none) <|> _) = _
 rw [if_pos rfl]
 unfold nl
 rw [Int.emod_emod,Int.emod_emod]
 rfl
theorem goes_nl {n t p t' p':Int} {G:Gr->Prop} (g:G (.inr n)) (hn:1 < n) (h:nW n t p) (h':nW n t' p'):Goes G (nl n t p ++ nl n t' p') (nl n (t * t' % n) ((p * t' + p') % n)):=by
 obtain ⟨a1,a2,a3,a4,a5⟩:=h
 obtain ⟨b1,b2,b3,b4,b5⟩:=h'
 by_cases c:t % n = 1 % n/\p % n = 0
 ·rw [Int.emod_eq_of_lt a1 a2,Int.emod_eq_of_lt (by omega) hn,Int.emod_eq_of_lt a3 a4] at c
  obtain ⟨rfl,rfl⟩:=c
  have e:nl n 1 0 = []:=by unfold nl;rw [if_pos ⟨rfl,Int.zero_emod n⟩]
  rw [e,Int.one_mul,Int.zero_mul,Int.zero_add,Int.emod_eq_of_lt b1 b2,Int.emod_eq_of_lt b3 b4]
  exact .refl
 ·by_cases c':t' % n = 1 % n/\p' % n = 0
  ·rw [Int.emod_eq_of_lt b1 b2,Int.emod_eq_of_lt (by omega) hn,Int.emod_eq_of_lt b3 b4] at c'
   obtain ⟨rfl,rfl⟩:=c'
   have e:nl n 1 0 = []:=by unfold nl;rw [if_pos ⟨rfl,Int.zero_emod n⟩]
   rw [e,Int.mul_one,Int.mul_one,Int.add_zero,Int.emod_eq_of_lt a1 a2,Int.emod_eq_of_lt a3 a4,List.append_nil]
   exact .refl
  ·have e:nl n t p ++ nl n t' p' = [.nu t p n,.nu t' p' n]:=by unfold nl;rw [if_neg c,if_neg c'];rfl
   rw [e]
   exact .pair tog_nu g
theorem wd_nu {n t p:Int} (hn:1 < n) (h:nW n t p):(∀ k,FlR (k + 6) (nU t p n) false (nl n t p))/\∀ m ∈ nl n t p,m.wf:=⟨fun k=>fl_n t p (by omega) (k + 5),fun m hm=>by rw [(nl_mem hm).1];exact h⟩
theorem e_both {n t p t' p':Int} (hn:1 < n) (h:nW n t p) (h':nW n t' p'):F__law_both [nU t p n,nU t' p' n] = .val (.fz (.lst ((nl n (t * t' % n) ((p * t' + p') % n)).map Mv.d))):=by
 have i1:∀ a b c,ixD (nU a b c) (.int 1) = .val (.int a):=fun _ _ _=>rfl
 have i2:∀ a b c,ixD (nU a b c) (.int 2) = .val (.int b):=fun _ _ _=>rfl
 have i3:∀ a b c,ixD (nU a b c) (.int 3) = .val (.int c):=fun _ _ _=>rfl
 have mm:∀ i,modD (.int i) (.int n) = .val (.int (i % n)):=fun i=>m_mod (by omega)
 obtain ⟨a1,a2,a3,a4,a5⟩:=h
 have u1:mulD (.int t) (.int t') = .val (.int (t * t')):=m_mulN (by omega) (by omega)
 have u2:mulD (.int p) (.int t') = .val (.int (p * t')):=m_mulN (by omega) (by omega)
 have ar:∀ {r s:Res Bool},andR r s = r >>= fun b=>if b = true then s else .val false:=rfl
 have on:(1:Int) % n = 1:=Int.emod_eq_of_lt (by omega) hn
 unfold nl
 rw [Int.emod_emod,Int.emod_emod,on]
 by_cases c1:t * t' % n = 1
 ·by_cases c2:(p * t' + p') % n = 0
  ·simp [F__law_both,Gb__law_both,fnD,startD,seq_e,sb_n,sb_r,st,re,if_e,fin,tu,ls,co,nilA,bi,gv,su,ad,ce,ab,rb,ofr,lk0,lk1,lk2,lk3,lk4,lk5,lk6,nilS,ca,uE,iR,cN,i1,i2,i3,mm,u1,u2,ar,c1,c2]
  ·have hb:((p * t' + p') % n == 0) = false:=by simpa using c2
   simp [F__law_both,Gb__law_both,fnD,startD,seq_e,sb_n,sb_r,st,re,if_e,fin,tu,ls,co,nilA,bi,gv,su,ad,ce,ab,rb,ofr,lk0,lk1,lk2,lk3,lk4,lk5,lk6,nilS,ca,uE,iR,cN,i1,i2,i3,mm,u1,u2,ar,c1,c2,hb]
   rfl
 ·have hb:(t * t' % n == 1) = false:=by simpa using c1
  simp [F__law_both,Gb__law_both,fnD,startD,seq_e,sb_n,sb_r,st,re,if_e,fin,tu,ls,co,nilA,bi,gv,su,ad,ce,ab,rb,ofr,lk0,lk1,lk2,lk3,lk4,lk5,lk6,nilS,ca,uE,iR,cN,i1,i2,i3,mm,u1,u2,ar,c1,hb]
  rfl
theorem e_elt {xs:D} {x0 x1 x2 x3 x4 x5:Int} (X:Xs xs x0 x1 x2 x3 x4 x5) (a b c d:Str) (bc:b ≠ c) (bd:b ≠ d) (cd:c ≠ d) {n:Int} (n0':1 < n) (n1':n ≤ 2000):∃ ws du,F__law_element [xs,nM a b c d,.int n] = .val (.fz (.lst [.lst (ws.map (·.1)),.lst (du.map Mv.d)]))/\Blk (GA a n) ws du:=by
 have n0:ixD (nM a b c d) (.int 0) = .val (.str a):=rfl
 have n1:ixD (nM a b c d) (.int 1) = .val (.str b):=rfl
 have n2:ixD (nM a b c d) (.int 2) = .val (.str c):=rfl
 have n3:ixD (nM a b c d) (.int 3) = .val (.str d):=rfl
 have dv:∀ d,(DV.fz d).d = d:=fun _=>rfl
 have i0:∀ p q r s:D,ixD (.lst [p,q,r,s]) (.int 0) = .val p:=fun _ _ _ _=>rfl
 have i1:∀ p q r s:D,ixD (.lst [p,q,r,s]) (.int 1) = .val q:=fun _ _ _ _=>rfl
 have i2:∀ p q r s:D,ixD (.lst [p,q,r,s]) (.int 2) = .val r:=fun _ _ _ _=>rfl
 have i3:∀ p q r s:D,ixD (.lst [p,q,r,s]) (.int 3) = .val s:=fun _ _ _ _=>rfl
 have m2:∀ i,modD (.int i) (.int 2) = .val (.int (i % 2)):=fun i=>m_mod (by omega)
 have m3:∀ i,modD (.int i) (.int 3) = .val (.int (i % 3)):=fun i=>m_mod (by omega)
 have m4:∀ i,modD (.int i) (.int 4) = .val (.int (i % 4)):=fun i=>m_mod (by omega)
 have m5:∀ i,modD (.int i) (.int 5) = .val (.int (i % 5)):=fun i=>m_mod (by omega)
 have m9:∀ i,modD (.int i) (.int 9) = .val (.int (i % 9)):=fun i=>m_mod (by omega)
 have m41:∀ i,modD (.int i) (.int 41) = .val (.int (i % 41)):=fun i=>m_mod (by omega)
 have m14:∀ i,modD (.int i) (.int 14) = .val (.int (i % 14)):=fun i=>m_mod (by omega)
 have m6:∀ i,modD (.int i) (.int 6) = .val (.int (i % 6)):=fun i=>m_mod (by omega)
 have gl:∀ i j:Int,gtD (.int i) (.int j) = .val (.bl (decide (j < i))):=fun _ _=>rfl
 have ll:∀ i j:Int,ltD (.int i) (.int j) = .val (.bl (decide (i < j))):=fun _ _=>rfl
 have q4:=md (x:=x4) 4
 have w:=md (x:=x0) 14
 have one:∀ v:Int,x0 % 14 = v->0 ≤ v->v < 5->∃ ws du,F__law_element [xs,nM a b c d,.int n] = .val (.fz (.lst [.lst (ws.map (·.1)),.lst (du.map Mv.d)]))/\Blk (GA a n) ws du:=fun v h h0 h1=>by
  obtain ⟨m,em,mt,_,_,_⟩:=e_move X a b c d (w:=v) h0 (by omega)
  obtain ⟨w1,e1,d1⟩:=wd_told (FlR.ba m) (e_self (.ba m)) (by have:=dep_mb m;omega) (wd_ba m).wf (by simp) q4.1 q4.2
  refine ⟨[(w1,[.ba m])],[.ba m],?_,blk1 d1 (fun x hx=>by rw [List.mem_singleton.mp hx];exact .inl (congrArg Sum.inl mt)) (fun x hx=>by rw [List.mem_singleton.mp hx];exact fl_b m 11) (irr_one _)⟩
  have l1:¬ 11 < v:=by omega
  simp [F__law_element,Gb__law_element,fnD,startD,seq_e,sb_n,sb_r,st,re,if_e,fin,tu,ls,co,nilA,bi,gv,su,ad,ce,ab,rb,ofr,lk0,lk1,lk2,lk3,lk4,lk5,lk6,nilS,ca,uE,iR,cN,X.h0,X.h1,X.h2,X.h3,X.h4,X.h5,n0,n1,n2,n3,dv,i0,i1,i2,i3,m2,m3,m4,m5,m9,m41,m14,m6,gl,ll,h,l1,h1,em,e1]
  rfl
 have c:x0 % 14 < 5\/x0 % 14 = 5\/x0 % 14 = 6\/x0 % 14 = 7\/x0 % 14 = 8\/x0 % 14 = 9\/x0 % 14 = 10\/x0 % 14 = 11\/11 < x0 % 14:=by omega
 rcases c with h | h | h | h | h | h | h | h | h
 ·exact one _ rfl w.1 h
 ·have q6:=md (x:=x5) 6
  obtain ⟨m,em,mt,_,_,_⟩:=e_move X a b c d (w:=x5 % 6) q6.1 q6.2
  obtain ⟨w1,e1,d1⟩:=wd_told (FlR.bk m) (e_self (.bk m)) (by have:=dep_mb m;show max 0 (max (dep m.d) 0) + 1 ≤ 20;omega) (wd_bk m).wf (by simp) q4.1 q4.2
  refine ⟨[(w1,[.bk m])],[.bk m],?_,blk1 d1 (fun x hx=>by rw [List.mem_singleton.mp hx];exact .inl (congrArg Sum.inl mt)) (fun x hx=>by rw [List.mem_singleton.mp hx];exact fl_k (fl_bt m 10)) (irr_one _)⟩
  simp [F__law_element,Gb__law_element,fnD,startD,seq_e,sb_n,sb_r,st,re,if_e,fin,tu,ls,co,nilA,bi,gv,su,ad,ce,ab,rb,ofr,lk0,lk1,lk2,lk3,lk4,lk5,lk6,nilS,ca,uE,iR,cN,X.h0,X.h1,X.h2,X.h3,X.h4,X.h5,n0,n1,n2,n3,dv,i0,i1,i2,i3,m2,m3,m4,m5,m9,m41,m14,m6,gl,ll,h,em,e1]
  rfl
 ·obtain ⟨m,em,mt,_,_,cp⟩:=e_move X a b c d (w:=5) (by omega) (by omega)
  refine ⟨_,_,?_,blk_none (x:=.ba m) (y:=.bk m) (wd_ba m) (wd_bk m) (.inl (congrArg Sum.inl mt)) (.inl (congrArg Sum.inl mt)) (tog_bk (.inr (by rw [cp];rfl)))⟩
  simp [F__law_element,Gb__law_element,fnD,startD,seq_e,sb_n,sb_r,st,re,if_e,fin,tu,ls,co,nilA,bi,gv,su,ad,ce,ab,rb,ofr,lk0,lk1,lk2,lk3,lk4,lk5,lk6,nilS,ca,uE,iR,cN,X.h0,X.h1,X.h2,X.h3,X.h4,X.h5,n0,n1,n2,n3,dv,i0,i1,i2,i3,m2,m3,m4,m5,m9,m41,m14,m6,gl,ll,h,em]
  first | rfl | exact ⟨rfl,rfl⟩
 ·obtain ⟨m,em,mt,_,pt,_⟩:=e_move X a b c d (w:=0) (by omega) (by omega)
  refine ⟨_,_,?_,blk_none (x:=.bk m) (y:=.ba m) (wd_bk m) (wd_ba m) (.inl (congrArg Sum.inl mt)) (.inl (congrArg Sum.inl mt)) (tog_kb (.inr (by rw [pt];rfl)))⟩
  simp [F__law_element,Gb__law_element,fnD,startD,seq_e,sb_n,sb_r,st,re,if_e,fin,tu,ls,co,nilA,bi,gv,su,ad,ce,ab,rb,ofr,lk0,lk1,lk2,lk3,lk4,lk5,lk6,nilS,ca,uE,iR,cN,X.h0,X.h1,X.h2,X.h3,X.h4,X.h5,n0,n1,n2,n3,dv,i0,i1,i2,i3,m2,m3,m4,m5,m9,m41,m14,m6,gl,ll,h,em]
  first | rfl | exact ⟨rfl,rfl⟩
 ·obtain ⟨ws,du,e,bl⟩:=e_shf X a b c d n
  refine ⟨ws,du,?_,bl⟩
  simp [F__law_element,Gb__law_element,fnD,startD,seq_e,sb_n,sb_r,st,re,if_e,fin,tu,ls,co,nilA,bi,gv,su,ad,ce,ab,rb,ofr,lk0,lk1,lk2,lk3,lk4,lk5,lk6,nilS,ca,uE,iR,cN,X.h0,X.h1,X.h2,X.h3,X.h4,X.h5,n0,n1,n2,n3,dv,i0,i1,i2,i3,m2,m3,m4,m5,m9,m41,m14,m6,gl,ll,h,e]
 ·obtain ⟨ws,du,e,bl⟩:=e_rns X a b c d bc n
  refine ⟨ws,du,?_,bl⟩
  simp [F__law_element,Gb__law_element,fnD,startD,seq_e,sb_n,sb_r,st,re,if_e,fin,tu,ls,co,nilA,bi,gv,su,ad,ce,ab,rb,ofr,lk0,lk1,lk2,lk3,lk4,lk5,lk6,nilS,ca,uE,iR,cN,X.h0,X.h1,X.h2,X.h3,X.h4,X.h5,n0,n1,n2,n3,dv,i0,i1,i2,i3,m2,m3,m4,m5,m9,m41,m14,m6,gl,ll,h,e]
 ·obtain ⟨ws,du,e,bl⟩:=e_pts X a b c d bc n
  refine ⟨ws,du,?_,bl⟩
  simp [F__law_element,Gb__law_element,fnD,startD,seq_e,sb_n,sb_r,st,re,if_e,fin,tu,ls,co,nilA,bi,gv,su,ad,ce,ab,rb,ofr,lk0,lk1,lk2,lk3,lk4,lk5,lk6,nilS,ca,uE,iR,cN,X.h0,X.h1,X.h2,X.h3,X.h4,X.h5,n0,n1,n2,n3,dv,i0,i1,i2,i3,m2,m3,m4,m5,m9,m41,m14,m6,gl,ll,h,e]
 ·obtain ⟨t,u,v,e1,t0,t1,_⟩:=e_ren x1 x2 n0'
  obtain ⟨t',u',v',e2,t0',t1',_⟩:=e_ren x3 x5 n0'
  have q2:=md (x:=x2) n
  have q5:=md (x:=x5) n
  have W:nW n t (x2 % n):=⟨t0,t1,q2.1,q2.2,n1'⟩
  have W':nW n t' (x5 % n):=⟨t0',t1',q5.1,q5.2,n1'⟩
  have hp:0 < n:=by omega
  obtain ⟨w1,f1,d1⟩:=wd_told (wd_nu n0' W).1 (e_self (.nu t (x2 % n) n)) (by show 1 ≤ 20;omega) (wd_nu n0' W).2 (nl_len _ _ _) q4.1 q4.2
  have eb:=e_both n0' W W'
  have on:(1:Int) % n = 1:=Int.emod_eq_of_lt (by omega) n0'
  refine ⟨[(w1,nl n t (x2 % n)),(nU t' (x5 % n) n,nl n t' (x5 % n))],_,?_,blk2 (du:=nl n (t * t' % n) ((x2 % n * t' + x5 % n) % n)) d1 ⟨(wd_nu n0' W').1 6,e_self (.nu t' (x5 % n) n),by show 1 ≤ 30;omega,(wd_nu n0' W').2,nl_len _ _ _⟩ (fun m hm=>by rw [(nl_mem hm).1];exact .inr rfl) (fun m hm=>by rw [(nl_mem hm).1];exact .inr rfl) (fun m hm=>by rw [(nl_mem hm).1];exact .inr rfl) (fun m hm=>?_) (fun m hm=>?_) (nl_irr _ _ _) (nl_irr _ _ _) (nl_len _ _ _) (goes_nl (.inr rfl) n0' W W')⟩
  ·simp [F__law_element,Gb__law_element,fnD,startD,seq_e,sb_n,sb_r,st,re,if_e,fin,tu,ls,co,nilA,bi,gv,su,ad,ce,ab,rb,ofr,lk0,lk1,lk2,lk3,lk4,lk5,lk6,nilS,ca,uE,iR,cN,X.h0,X.h1,X.h2,X.h3,X.h4,X.h5,n0,n1,n2,n3,dv,i0,i1,i2,i3,m2,m3,m4,m5,m9,m41,m14,m6,gl,ll,h,e1,e2,f1,eb]
  ·have:=(nl_mem hm).2
   rw [(nl_mem hm).1]
   have f:=fl_n (t * t' % n) ((x2 % n * t' + x5 % n) % n) hp 11
   rw [if_neg this] at f
   exact f
  ·rw [(nl_mem hm).1]
   exact ⟨(md n hp).1,(md n hp).2,(md n hp).1,(md n hp).2,n1'⟩
 ·obtain ⟨m,m',em,mt,mt',ne⟩:=e_unl X a b c d bc bd cd
  have u2:∀ {i j:Nat} {δ:Dst} {p q:D},bTupL 2 (bCons (bName i) (bCons (bName j) bNil)) (.lst [p,q]) δ = some ((δ.set i (some (.fz p))).set j (some (.fz q))):=rfl
  have ag:∀ {g:Dst->Res D} {bb:D->Dst->Option Dst} {δ:Dst},asgS g bb δ = match g δ with | .val d=>ofO (bb d δ) .next | .exc x=>.exc x δ | .bad=>.bad:=fun {g bb δ}=>by unfold asgS;cases g δ <;> rfl
  have oo:∀ {δ:Dst} {k:Dst->So},ofO (some δ) k = k δ:=rfl
  have j0:∀ p q:D,ixD (.lst [p,q]) (.int 0) = .val p:=fun _ _=>rfl
  have j1:∀ p q:D,ixD (.lst [p,q]) (.int 1) = .val q:=fun _ _=>rfl
  have lo:∀ l:List D,listOf [.lst l] = .val (.lst l):=fun _=>rfl
  have z:x4 % 2 = 0\/x4 % 2 = 1:=by have:=md (x:=x4) 2;omega
  rcases z with z | z
  ·refine ⟨_,_,?_,blk_none (x:=.bk m) (y:=.ba m') (wd_bk m) (wd_ba m') (.inl (congrArg Sum.inl mt)) (.inl (congrArg Sum.inl mt')) (tog_kb (.inl ne))⟩
   simp [F__law_element,Gb__law_element,fnD,startD,seq_e,sb_n,sb_r,st,re,if_e,fin,tu,ls,co,nilA,bi,gv,su,ad,ce,ab,rb,ofr,lk0,lk1,lk2,lk3,lk4,lk5,lk6,nilS,ca,uE,iR,cN,X.h0,X.h1,X.h2,X.h3,X.h4,X.h5,n0,n1,n2,n3,dv,i0,i1,i2,i3,m2,m3,m4,m5,m9,m41,m14,m6,gl,ll,h,em,u2,ag,oo,j0,j1,lo,z]
   first | rfl | exact ⟨rfl,rfl⟩
  ·refine ⟨_,_,?_,blk_none (x:=.ba m) (y:=.bk m') (wd_ba m) (wd_bk m') (.inl (congrArg Sum.inl mt)) (.inl (congrArg Sum.inl mt')) (tog_bk (.inl (Ne.symm ne)))⟩
   simp [F__law_element,Gb__law_element,fnD,startD,seq_e,sb_n,sb_r,st,re,if_e,fin,tu,ls,co,nilA,bi,gv,su,ad,ce,ab,rb,ofr,lk0,lk1,lk2,lk3,lk4,lk5,lk6,nilS,ca,uE,iR,cN,X.h0,X.h1,X.h2,X.h3,X.h4,X.h5,n0,n1,n2,n3,dv,i0,i1,i2,i3,m2,m3,m4,m5,m9,m41,m14,m6,gl,ll,h,em,u2,ag,oo,j0,j1,lo,z]
   first | rfl | exact ⟨rfl,rfl⟩
end L48
namespace L48
open PySem L2 DL
structure Nt (G:Gr->Prop) (A B:List (D × List Mv)):Prop where
 w:∀ x ∈ A ++ B,Wd x.1 x.2
 g:∀ x ∈ A ++ B,∀ m ∈ x.2,G (grp m)
 l:(A ++ B).length ≤ 3
 sp:∀ (I:List Mv) (Gi:Gr->Prop),Goes Gi I []->(∀ g,G g->¬ Gi g)->Goes (GU G Gi) (A.flatMap (·.2) ++ I ++ B.flatMap (·.2)) []
theorem nt_of {G:Gr->Prop} {A B:List (D × List Mv)} (w:∀ x ∈ A ++ B,Wd x.1 x.2) (g:∀ x ∈ A ++ B,∀ m ∈ x.2,G (grp m)) (l:(A ++ B).length ≤ 3) (ia:Irr (A.flatMap (·.2))) (t:Goes G (A.flatMap (·.2) ++ B.flatMap (·.2)) []):Nt G A B:=
 ⟨w,g,l,fun I Gi hI hd=>(sp_l hI hd ia fun x hx=>by
  obtain ⟨y,hy,hz⟩:=List.mem_flatMap.mp hx
  exact g y (List.mem_append_left _ hy) x hz).trans (t.mono fun _ z=>.inl z)⟩
theorem tog_gone {m:Mb} (h:isCap m = false):tog (.ba m) (.bk m) = some []:=by
 have:bg (.ba m) (.bk m) = some []:=by simp [bg,h]
 unfold tog
 rw [this]
 rfl
theorem tog_back {m:Mb} (h:isPut m = false):tog (.bk m) (.ba m) = some []:=by
 have:bg (.bk m) (.ba m) = some []:=by simp [bg,h]
 unfold tog
 rw [this]
 rfl
theorem two_w {P:(D × List Mv)->Prop} {x y:D × List Mv} (hx:P x) (hy:P y):∀ z ∈ [x] ++ [y],P z:=by
 intro z hz
 rcases List.mem_cons.mp hz with rfl | hz
 ·exact hx
 ·rw [List.mem_singleton.mp hz];exact hy
theorem three_w {P:(D × List Mv)->Prop} {x y u:D × List Mv} (hx:P x) (hy:P y) (hu:P u):∀ z ∈ [x] ++ [y,u],P z:=by
 intro z hz
 rcases List.mem_cons.mp hz with rfl | hz
 ·exact hx
 ·rcases List.mem_cons.mp hz with rfl | hz
  ·exact hy
  ·rw [List.mem_singleton.mp hz];exact hu
theorem wd_sh (a b:Str) (n:Int):Wd (sS a b n) (sl a b n):=⟨fl_s a b n 11,e_self (.sh a b n),by show 1 ≤ 30;omega,fun m hm=>by rw [(sl_mem hm).1];trivial,sl_len _ _ _⟩
theorem wd_re (a b c:Str):Wd (rN a b c) [.re a b c]:=⟨fl_r a b c 11,e_self (.re a b c),by show 1 ≤ 30;omega,fun m hm=>by rw [List.mem_singleton.mp hm];trivial,by simp⟩
theorem wd_n {n t p:Int} (hn:1 < n) (W:nW n t p):Wd (nU t p n) (nl n t p):=⟨(wd_nu hn W).1 6,e_self (.nu t p n),by show 1 ≤ 30;omega,(wd_nu hn W).2,nl_len _ _ _⟩
theorem sl_g {a b:Str} {n k:Int}:∀ m ∈ sl a b k,GA a n (grp m):=fun m hm=>by rw [(sl_mem hm).1];exact .inl rfl
theorem nl_g {a:Str} {n t p:Int}:∀ m ∈ nl n t p,GA a n (grp m):=fun m hm=>by rw [(nl_mem hm).1];exact .inr rfl
theorem tr_re {a b c d:Str} (h:d ≠ b):tog (.re a b c) (.re a c d) = some [.re a b d]:=by
 show (none <|> none <|> none <|> (if a = a/\c = c then some (if d = b then [] else [Mv.re a b d]) else none) <|> _) = _
 rw [if_pos ⟨rfl,rfl⟩,if_neg h]
 rfl
theorem tr_re0 {a b c:Str}:tog (.re a b c) (.re a c b) = some []:=by
 show (none <|> none <|> none <|> (if a = a/\c = c then some (if b = b then [] else [Mv.re a b b]) else none) <|> _) = _
 rw [if_pos ⟨rfl,rfl⟩,if_pos rfl]
 rfl
theorem e_not {xs:D} {x0 x1 x2 x3 x4 x5:Int} (X:Xs xs x0 x1 x2 x3 x4 x5) (a b c d:Str) (bc:b ≠ c) (bd:b ≠ d) (cd:c ≠ d) {n:Int} (n0':1 < n) (n1':n ≤ 2000) (W:List (D × List Mv)) (hW:W.length ≤ 10):∃ A B,F__law_nothing [xs,nM a b c d,.int n,.lst (W.map (·.1))] = .val (.fz (.lst ((A ++ W ++ B).map (·.1))))/\Nt (GA a n) A B:=by
 have n0:ixD (nM a b c d) (.int 0) = .val (.str a):=rfl
 have n1:ixD (nM a b c d) (.int 1) = .val (.str b):=rfl
 have n2:ixD (nM a b c d) (.int 2) = .val (.str c):=rfl
 have n3:ixD (nM a b c d) (.int 3) = .val (.str d):=rfl
 have dv:∀ d,(DV.fz d).d = d:=fun _=>rfl
 have i0:∀ p q r s:D,ixD (.lst [p,q,r,s]) (.int 0) = .val p:=fun _ _ _ _=>rfl
 have i1:∀ p q r s:D,ixD (.lst [p,q,r,s]) (.int 1) = .val q:=fun _ _ _ _=>rfl
 have i2:∀ p q r s:D,ixD (.lst [p,q,r,s]) (.int 2) = .val r:=fun _ _ _ _=>rfl
 have i3:∀ p q r s:D,ixD (.lst [p,q,r,s]) (.int 3) = .val s:=fun _ _ _ _=>rfl
 have m2:∀ i,modD (.int i) (.int 2) = .val (.int (i % 2)):=fun i=>m_mod (by omega)
 have m3:∀ i,modD (.int i) (.int 3) = .val (.int (i % 3)):=fun i=>m_mod (by omega)
 have m4:∀ i,modD (.int i) (.int 4) = .val (.int (i % 4)):=fun i=>m_mod (by omega)
 have m5:∀ i,modD (.int i) (.int 5) = .val (.int (i % 5)):=fun i=>m_mod (by omega)
 have m9:∀ i,modD (.int i) (.int 9) = .val (.int (i % 9)):=fun i=>m_mod (by omega)
 have m41:∀ i,modD (.int i) (.int 41) = .val (.int (i % 41)):=fun i=>m_mod (by omega)
 have m8:∀ i,modD (.int i) (.int 8) = .val (.int (i % 8)):=fun i=>m_mod (by omega)
 have w:=md (x:=x0) 8
 have q5:=md (x:=x3) 5
 have L:(W.map (·.1)).length ≤ 10:=by rw [List.length_map];exact hW
 generalize hV:W.map (·.1) = V at L
 have a1:∀ p:D,addX (.lst [p]) (.lst V) = .val (.lst (p :: V)):=fun p=>add_lst (by simp;omega)
 have a2:∀ p q:D,addX (.lst (p :: V)) (.lst [q]) = .val (.lst (p :: (V ++ [q]))):=fun p q=>add_lst (by simp;omega)
 have a3:∀ p q r:D,addX (.lst (p :: V)) (.lst [q,r]) = .val (.lst (p :: (V ++ [q,r]))):=fun p q r=>add_lst (by simp;omega)
 have a4:∀ q:D,addX (.lst V) (.lst [q]) = .val (.lst (V ++ [q])):=fun q=>add_lst (by simp;omega)
 have mapE:∀ A B:List (D × List Mv),(A ++ W ++ B).map (·.1) = A.map (·.1) ++ V ++ B.map (·.1):=fun A B=>by rw [List.map_append,List.map_append,hV]
 have cE:∀ {n:Nat} {fr:List Nat} {items:Dst->Res (List D)} {b:D->Dst->Option Dst} {tt:Dst->Res Bool} {te:Dst->Res D} {δ:Dst},compO n fr items b tt te δ = items δ >>= fun ds=>if lenOk ds.length = true then olR (compL b tt te ds (compDst n fr δ)) else .bad:=rfl
 have cl0:∀ {b:D->Dst->Option Dst} {tt:Dst->Res Bool} {te:Dst->Res D} {δ:Dst},compL b tt te [] δ = .val []:=rfl
 have clc:∀ {b:D->Dst->Option Dst} {tt:Dst->Res Bool} {te:Dst->Res D} {δ:Dst} {p:D} {ds:List D},compL b tt te (p :: ds) δ = ofOC (b p δ) fun δ1=>testC (tt δ1) (stepC (te δ1) (compL b tt te ds δ1)) (compL b tt te ds δ1):=rfl
 have oc:∀ {δ:Dst} {k:Dst->Res (List D)},ofOC (some δ) k = k δ:=rfl
 have tc:∀ {p q:Res (List D)},testC (.val true) p q = p:=rfl
 have yb:∀ {δ:Dst},yesB δ = .val true:=rfl
 have bn:∀ {i:Nat} {p:D} {δ:Dst},bName i p δ = some (δ.set i (some (.fz p))):=rfl
 have stp:∀ {y:D} {k:Res (List D)},stepC (.val y) k = k >>= fun r=>.val (y :: r):=rfl
 have olr:∀ {ys:List D},olR (.val ys) = .val (.ol ys):=rfl
 have cap1:∀ {p:Option DV} {q:D} {l:Dst},compDst 1 [1] (p :: some (.fz q) :: l) = [none,some (.fz q)]:=rfl
 have fzE:∀ {i:Nat} {k:Dst->So} {δ:Dst},frzS i k δ = k (frzV i δ):=rfl
 have aL:∀ {l:List D},anyItems (.val (.lst l)) = .val l:=rfl
 have f8:∀ {p0 p1 p2 p3 p4 p5 p6 p7:Option DV} {l:List D},frzV 8 [p0,p1,p2,p3,p4,p5,p6,p7,some (.ol l)] = [p0,p1,p2,p3,p4,p5,p6,p7,some (.fz (.lst l))]:=rfl
 have c1:∀ {p q r:D},sliceX (.lst [p,q,r]) none (some 1) = .val (.lst [p]):=rfl
 have c2:∀ {p q r:D},sliceX (.lst [p,q,r]) (some 1) none = .val (.lst [q,r]):=rfl
 have r3:range1 [.int 3] = .val [.int 0,.int 1,.int 2]:=rfl
 have c8:x0 % 8 = 0\/x0 % 8 = 1\/x0 % 8 = 2\/x0 % 8 = 3\/x0 % 8 = 4\/x0 % 8 = 5\/x0 % 8 = 6\/x0 % 8 = 7:=by omega
 rcases c8 with h | h | h | h | h | h | h | h
 ·obtain ⟨m,em,mt,_,_,cp⟩:=e_move X a b c d (w:=x3 % 5) q5.1 (by omega)
  have cp':isCap m = false:=by rw [cp];exact decide_eq_false (by omega)
  have gm:GA a n (.inl m.t):=.inl (congrArg Sum.inl mt)
  refine ⟨[(m.d,[.ba m])],[(bK m.d,[.bk m])],?_,nt_of (two_w (wd_ba m) (wd_bk m)) (two_w (fun x hx=>by rw [List.mem_singleton.mp hx];exact gm) (fun x hx=>by rw [List.mem_singleton.mp hx];exact gm)) (by simp) (irr_one _) (.pair (tog_gone cp') gm)⟩
  rw [mapE]
  simp [F__law_nothing,Gb__law_nothing,fnD,startD,seq_e,sb_n,sb_r,st,re,if_e,fin,tu,ls,co,nilA,bi,gv,su,ad,ce,ab,rb,ofr,lk0,lk1,lk2,lk3,lk4,lk5,lk6,nilS,ca,uE,iR,cN,X.h0,X.h1,X.h2,X.h3,X.h4,X.h5,n0,n1,n2,n3,dv,i0,i1,i2,i3,m2,m3,m4,m5,m9,m41,m8,h,em,a1,a2]
 ·obtain ⟨m,em,mt,_,pt,_⟩:=e_move X a b c d (w:=1 + x3 % 5) (by omega) (by omega)
  have pt':isPut m = false:=by rw [pt];exact decide_eq_false (by omega)
  have gm:GA a n (.inl m.t):=.inl (congrArg Sum.inl mt)
  refine ⟨[(bK m.d,[.bk m])],[(m.d,[.ba m])],?_,nt_of (two_w (wd_bk m) (wd_ba m)) (two_w (fun x hx=>by rw [List.mem_singleton.mp hx];exact gm) (fun x hx=>by rw [List.mem_singleton.mp hx];exact gm)) (by simp) (irr_one _) (.pair (tog_back pt') gm)⟩
  rw [mapE]
  simp [F__law_nothing,Gb__law_nothing,fnD,startD,seq_e,sb_n,sb_r,st,re,if_e,fin,tu,ls,co,nilA,bi,gv,su,ad,ce,ab,rb,ofr,lk0,lk1,lk2,lk3,lk4,lk5,lk6,nilS,ca,uE,iR,cN,X.h0,X.h1,X.h2,X.h3,X.h4,X.h5,n0,n1,n2,n3,dv,i0,i1,i2,i3,m2,m3,m4,m5,m9,m41,m8,h,em,a1,a2]
 ·generalize hs1:x1 % 41 - 20 = s1
  generalize hs2:x2 % 41 - 20 = s2
  have t:Goes (GA a n) (sl a b s1 ++ (sl a b s2 ++ sl a b (0 - s1 - s2))) []:=by
   have g1:=(goes_sl (b:=b) (G:=GA a n) (.inl rfl) s1 s2).post (sl a b (0 - s1 - s2))
   have g2:=goes_sl (b:=b) (G:=GA a n) (.inl rfl) (s1 + s2) (0 - s1 - s2)
   rw [show s1 + s2 + (0 - s1 - s2) = 0 by omega] at g2
   rw [← List.append_assoc]
   exact g1.trans g2
  refine ⟨[(sS a b s1,sl a b s1)],[(sS a b s2,sl a b s2),(sS a b (0 - s1 - s2),sl a b (0 - s1 - s2))],?_,nt_of (three_w (wd_sh a b s1) (wd_sh a b s2) (wd_sh a b _)) (three_w sl_g sl_g sl_g) (by simp) (by simpa using sl_irr a b s1) (by simpa using t)⟩
  rw [mapE]
  simp [F__law_nothing,Gb__law_nothing,fnD,startD,seq_e,sb_n,sb_r,st,re,if_e,fin,tu,ls,co,nilA,bi,gv,su,ad,ce,ab,rb,ofr,lk0,lk1,lk2,lk3,lk4,lk5,lk6,nilS,ca,uE,iR,cN,X.h0,X.h1,X.h2,X.h3,X.h4,X.h5,n0,n1,n2,n3,dv,i0,i1,i2,i3,m2,m3,m4,m5,m9,m41,m8,h,hs1,hs2,a1,a3,sy,aI,cE,cl0,clc,oc,tc,yb,bn,stp,olr,cap1,fzE,aL,c1,f8,c2]
 ·have t:Goes (GA a n) [Mv.re a b c,.re a c d,.re a d b] []:=by
   have g1:Goes (GA a n) ([.re a b c,.re a c d] ++ [.re a d b]) ([.re a b d] ++ [.re a d b]):=(Goes.pair (tr_re (Ne.symm bd)) (.inl rfl)).post [.re a d b]
   exact g1.trans (Goes.pair tr_re0 (.inl rfl))
  have gr:∀ (p q:Str),∀ m ∈ [Mv.re a p q],GA a n (grp m):=fun p q m hm=>by rw [List.mem_singleton.mp hm];exact .inl rfl
  refine ⟨[(rN a b c,[.re a b c])],[(rN a c d,[.re a c d]),(rN a d b,[.re a d b])],?_,nt_of (three_w (wd_re _ _ _) (wd_re _ _ _) (wd_re _ _ _)) (three_w (gr _ _) (gr _ _) (gr _ _)) (by simp) (irr_one _) t⟩
  rw [mapE]
  simp [F__law_nothing,Gb__law_nothing,fnD,startD,seq_e,sb_n,sb_r,st,re,if_e,fin,tu,ls,co,nilA,bi,gv,su,ad,ce,ab,rb,ofr,lk0,lk1,lk2,lk3,lk4,lk5,lk6,nilS,ca,uE,iR,cN,X.h0,X.h1,X.h2,X.h3,X.h4,X.h5,n0,n1,n2,n3,dv,i0,i1,i2,i3,m2,m3,m4,m5,m9,m41,m8,h,a1,a3,sy,aI,cE,cl0,clc,oc,tc,yb,bn,stp,olr,cap1,fzE,aL,c1,f8,c2,r3]
 ·obtain ⟨t,u,v,e1,t0,t1,bz⟩:=e_ren x1 x2 n0'
  have q2:=md (x:=x2) n
  have Wn:nW n t (x2 % n):=⟨t0,t1,q2.1,q2.2,n1'⟩
  obtain ⟨t',p1,p2,p3,f⟩:=fl_nt (b:=x2 % n) t0 t1 n1' bz 10
  have q3:=md (x:=-t' * (x2 % n)) n
  have Wn':nW n t' (-t' * (x2 % n) % n):=⟨p1,p2,q3.1,q3.2,n1'⟩
  have f':FlR 11 (nU t (x2 % n) n) true (nl n t' (-t' * (x2 % n) % n)):=by
   unfold nl
   rw [Int.emod_emod]
   exact f
  have z:nl n (t * t' % n) ((x2 % n * t' + -t' * (x2 % n) % n) % n) = []:=by
   unfold nl
   rw [Int.emod_emod,Int.emod_emod,if_pos]
   refine ⟨p3,?_⟩
   rw [Int.add_emod,Int.emod_emod,← Int.add_emod,show x2 % n * t' + -t' * (x2 % n) = 0 by grind,Int.zero_emod]
  refine ⟨[(nU t (x2 % n) n,nl n t (x2 % n))],[(bK (nU t (x2 % n) n),nl n t' (-t' * (x2 % n) % n))],?_,nt_of (two_w (wd_n n0' Wn) ⟨fl_k f',sf_bk (e_self (.nu t (x2 % n) n)),by show 2 ≤ 30;omega,(wd_nu n0' Wn').2,nl_len _ _ _⟩) (two_w nl_g nl_g) (by simp) (by simpa using nl_irr n t (x2 % n)) (by
   have g:=goes_nl (G:=GA a n) (.inr rfl) n0' Wn Wn'
   rw [z] at g
   simpa using g)⟩
  rw [mapE]
  simp [F__law_nothing,Gb__law_nothing,fnD,startD,seq_e,sb_n,sb_r,st,re,if_e,fin,tu,ls,co,nilA,bi,gv,su,ad,ce,ab,rb,ofr,lk0,lk1,lk2,lk3,lk4,lk5,lk6,nilS,ca,uE,iR,cN,X.h0,X.h1,X.h2,X.h3,X.h4,X.h5,n0,n1,n2,n3,dv,i0,i1,i2,i3,m2,m3,m4,m5,m9,m41,m8,h,e1,a1,a2]
 ·have W1:nW n 1 0:=⟨by omega,n0',by omega,by omega,n1'⟩
  have z:nl n 1 0 = []:=by unfold nl;rw [if_pos ⟨rfl,Int.zero_emod n⟩]
  refine ⟨[(sS a b 0,sl a b 0)],[(nU 1 0 n,nl n 1 0)],?_,nt_of (two_w (wd_sh a b 0) (wd_n n0' W1)) (two_w (sl_g (a:=a) (b:=b) (n:=n) (k:=0)) (nl_g (a:=a) (n:=n) (t:=1) (p:=0))) (by simp) (by simpa using sl_irr a b 0) (by rw [z];exact .refl)⟩
  rw [mapE]
  simp [F__law_nothing,Gb__law_nothing,fnD,startD,seq_e,sb_n,sb_r,st,re,if_e,fin,tu,ls,co,nilA,bi,gv,su,ad,ce,ab,rb,ofr,lk0,lk1,lk2,lk3,lk4,lk5,lk6,nilS,ca,uE,iR,cN,X.h0,X.h1,X.h2,X.h3,X.h4,X.h5,n0,n1,n2,n3,dv,i0,i1,i2,i3,m2,m3,m4,m5,m9,m41,m8,h,a1,a2]
 ·obtain ⟨m,em,mt,_,_,cp⟩:=e_move X a b c d (w:=x3 % 5) q5.1 (by omega)
  have cp':isCap m = false:=by rw [cp];exact decide_eq_false (by omega)
  have gm:GA a n (.inl m.t):=.inl (congrArg Sum.inl mt)
  have dm:=dep_mb m
  have f:=fl_c (n:=10) (rows:=[(m.d,[.ba m]),(bK m.d,[.bk m])]) (b:=false) (two_w (P:=fun x=>FlR 10 x.1 false x.2) (fl_b m 9) (fl_k (fl_bt m 8))) (by simp)
  have wd:Wd (cH [m.d,bK m.d]) [.ba m,.bk m]:=⟨by simpa using f,sf_ch2 (e_self (.ba m)) (sf_bk (e_self (.ba m))),by
   show max 0 (max (max (dep m.d) (max (max 0 (max (dep m.d) 0) + 1) 0) + 1) 0) + 1 ≤ 30
   omega,fun x hx=>by
   rcases List.mem_cons.mp hx with rfl | hx
   ·trivial
   ·rw [List.mem_singleton.mp hx];trivial,by simp⟩
  refine ⟨[(cH [m.d,bK m.d],[.ba m,.bk m])],[],?_,⟨fun x hx=>by rw [List.mem_singleton.mp hx];exact wd,fun x hx=>by
   rw [List.mem_singleton.mp hx]
   intro y hy
   rcases List.mem_cons.mp hy with rfl | hy
   ·exact gm
   ·rw [List.mem_singleton.mp hy];exact gm,by simp,fun I Gi hI hd=>?_⟩⟩
  ·rw [mapE]
   simp [F__law_nothing,Gb__law_nothing,fnD,startD,seq_e,sb_n,sb_r,st,re,if_e,fin,tu,ls,co,nilA,bi,gv,su,ad,ce,ab,rb,ofr,lk0,lk1,lk2,lk3,lk4,lk5,lk6,nilS,ca,uE,iR,cN,X.h0,X.h1,X.h2,X.h3,X.h4,X.h5,n0,n1,n2,n3,dv,i0,i1,i2,i3,m2,m3,m4,m5,m9,m41,m8,h,em,a1,a2]
  ·have t:Goes (GU (GA a n) Gi) ([.ba m,.bk m] ++ I) ([] ++ I):=(Goes.pair (tog_gone cp') (.inl gm)).post I
   have t2:Goes (GU (GA a n) Gi) I []:=hI.mono fun _ z=>.inr z
   simpa using t.trans t2
 ·obtain ⟨m,em,mt,_,_,cp⟩:=e_move X a b c d (w:=x3 % 5) q5.1 (by omega)
  have cp':isCap m = false:=by rw [cp];exact decide_eq_false (by omega)
  have gm:GA a n (.inl m.t):=.inl (congrArg Sum.inl mt)
  have dm:=dep_mb m
  have f:=fl_c (n:=9) (rows:=[(m.d,[.bk m]),(bK m.d,[.ba m])]) (b:=true) (two_w (P:=fun x=>FlR 9 x.1 true x.2) (fl_bt m 8) (fl_k (fl_b m 7))) (by simp)
  have wd:Wd (bK (cH [m.d,bK m.d])) [.ba m,.bk m]:=⟨fl_k (by simpa using f),sf_bk (sf_ch2 (e_self (.ba m)) (sf_bk (e_self (.ba m)))),by
   show max 0 (max (max 0 (max (max (dep m.d) (max (max 0 (max (dep m.d) 0) + 1) 0) + 1) 0) + 1) 0) + 1 ≤ 30
   omega,fun x hx=>by
   rcases List.mem_cons.mp hx with rfl | hx
   ·trivial
   ·rw [List.mem_singleton.mp hx];trivial,by simp⟩
  refine ⟨[],[(bK (cH [m.d,bK m.d]),[.ba m,.bk m])],?_,⟨fun x hx=>by rw [List.mem_singleton.mp hx];exact wd,fun x hx=>by
   rw [List.mem_singleton.mp hx]
   intro y hy
   rcases List.mem_cons.mp hy with rfl | hy
   ·exact gm
   ·rw [List.mem_singleton.mp hy];exact gm,by simp,fun I Gi hI hd=>?_⟩⟩
  ·rw [mapE]
   simp [F__law_nothing,Gb__law_nothing,fnD,startD,seq_e,sb_n,sb_r,st,re,if_e,fin,tu,ls,co,nilA,bi,gv,su,ad,ce,ab,rb,ofr,lk0,lk1,lk2,lk3,lk4,lk5,lk6,nilS,ca,uE,iR,cN,X.h0,X.h1,X.h2,X.h3,X.h4,X.h5,n0,n1,n2,n3,dv,i0,i1,i2,i3,m2,m3,m4,m5,m9,m41,m8,h,em,a4]
  ·have t2:Goes (GU (GA a n) Gi) (I ++ [.ba m,.bk m]) ([] ++ [.ba m,.bk m]):=(hI.mono fun _ z=>.inr z).post _
   have t:Goes (GU (GA a n) Gi) ([] ++ [.ba m,.bk m]) []:=Goes.pair (tog_gone cp') (.inl gm)
   simpa using t2.trans t
end L48
namespace L48
open PySem L2 DL
theorem xs_of:∀ {l:List Int},6 ≤ l.length->∃ x0 x1 x2 x3 x4 x5,Xs (.lst (l.map .int)) x0 x1 x2 x3 x4 x5
 | x0 :: x1 :: x2 :: x3 :: x4 :: x5 :: r,_=>⟨x0,x1,x2,x3,x4,x5,ix_lst (by omega) rfl,ix_lst (by omega) rfl,ix_lst (by omega) rfl,ix_lst (by omega) rfl,ix_lst (by omega) rfl,ix_lst (by omega) rfl⟩
 | [],h=>by simp at h
 | [_],h=>by simp at h
 | [_,_],h=>by simp at h
 | [_,_,_],h=>by simp at h
 | [_,_,_,_],h=>by simp at h
 | [_,_,_,_,_],h=>by simp at h
abbrev tN (P Q:Str) (k:Int):Str:=nm P Q k "a"
theorem ga_no {P Q:Str} {i j s s':Int} {g:Gr} (h:GA (tN P Q i) s g) (h':GA (tN P Q j) s' g) (i0:0 ≤ i) (i1:i < 676) (j0:0 ≤ j) (j1:j < 676) (ne:i ≠ j) (ns:s ≠ s'):False:=by
 rcases h with rfl | rfl
 ·rcases h' with z | z
  ·injection z with z
   exact ne (nm_k (g:=97) (g':=97) i0 i1 j0 j1 z)
  ·cases z
 ·rcases h' with z | z
  ·cases z
  ·injection z with z
   exact ns z
structure LI (P Q:Str) (k:Nat) (R:List (D × List Mv)) (du:List Mv):Prop where
 w:∀ x ∈ R,Wd x.1 x.2
 rl:R.length ≤ 8 * k
 dl:du.length ≤ 2 * k
 ir:Irr du
 g:∀ m ∈ du,∃ j:Nat,j < k/\GA (tN P Q (j:Int)) (1000 + (j:Int)) (grp m)
 df:∀ m ∈ du,FlR 12 m.d false [m]
 dw:∀ m ∈ du,m.wf
 t:∀ q e,Run (du ++ q) e->Run (R.flatMap (·.2) ++ q) e
theorem LI.zero (P Q:Str):LI P Q 0 [] []:=⟨by simp,by simp,by simp,irr_nil,by simp,by simp,by simp,fun q e t=>t⟩
theorem LI.step {P Q:Str} {k:Nat} {R:List (D × List Mv)} {du:List Mv} (L:LI P Q k R du) (hk:k < 8) {ws A B A' B':List (D × List Mv)} {du':List Mv} (b:Blk (GA (tN P Q (k:Int)) (1000 + (k:Int))) ws du') (n1:Nt (GA (tN P Q (40 + (k:Int))) (1040 + (k:Int))) A B) (n2:Nt (GA (tN P Q (80 + (k:Int))) (1080 + (k:Int))) A' B') (c:Nat) :
  LI P Q (k + 1) (R ++ ws.take c ++ (A' ++ (A ++ [] ++ B) ++ B') ++ ws.drop c) (du ++ du'):=by
 have l1:=n1.l
 have l2:=n2.l
 have l3:=b.wl
 have l4:=b.dl
 simp only [List.length_append] at l1 l2
 have g1:=n1.sp [] (fun _=>False) .refl (fun _ _ z=>z)
 have g2:=n2.sp _ _ g1 (fun g h z=>by
  rcases z with z | z
  ·exact ga_no h z (by omega) (by omega) (by omega) (by omega) (by omega) (by omega)
  ·exact z)
 have g3:=b.sp c _ _ g2 (fun g h z=>by
  rcases z with z | z | z
  ·exact ga_no h z (by omega) (by omega) (by omega) (by omega) (by omega) (by omega)
  ·exact ga_no h z (by omega) (by omega) (by omega) (by omega) (by omega) (by omega)
  ·exact z)
 have bd:∀ x ∈ du,∀ y ∈ du',tog x y = none:=fun x hx y hy=>tog_sep fun z=>by
  obtain ⟨j,hj,hg⟩:=L.g x hx
  have:=b.dg y hy
  rw [← z] at this
  exact ga_no hg this (by omega) (by omega) (by omega) (by omega) (by omega) (by omega)
 refine ⟨fun x hx=>?_,?_,?_,irr_app L.ir b.ir fun x y hx hy=>bd x (last_mem hx) y (head_mem hy),fun m hm=>?_,fun m hm=>?_,fun m hm=>?_,fun q e t=>?_⟩
 ·simp only [List.mem_append] at hx
  rcases hx with ((hx | hx) | ((hx | ((hx | hx) | hx)) | hx)) | hx
  ·exact L.w x hx
  ·exact b.w x (List.mem_of_mem_take hx)
  ·exact n2.w x (List.mem_append_left _ hx)
  ·exact n1.w x (List.mem_append_left _ hx)
  ·cases hx
  ·exact n1.w x (List.mem_append_right _ hx)
  ·exact n2.w x (List.mem_append_right _ hx)
  ·exact b.w x (List.mem_of_mem_drop hx)
 ·have:=L.rl
  simp only [List.length_append,List.length_take,List.length_drop,List.length_nil]
  omega
 ·have:=L.dl
  rw [List.length_append]
  omega
 ·rcases List.mem_append.mp hm with h | h
  ·obtain ⟨j,hj,hg⟩:=L.g m h
   exact ⟨j,by omega,hg⟩
  ·exact ⟨k,by omega,b.dg m h⟩
 ·rcases List.mem_append.mp hm with h | h
  ·exact L.df m h
  ·exact b.df m h
 ·rcases List.mem_append.mp hm with h | h
  ·exact L.dw m h
  ·exact b.dw m h
 ·have r:=g3 du q e L.ir (fun x hx z=>by
   obtain ⟨j,hj,hg⟩:=L.g x (last_mem hx)
   rcases z with z | z | z | z
   ·exact ga_no hg z (by omega) (by omega) (by omega) (by omega) (by omega) (by omega)
   ·exact ga_no hg z (by omega) (by omega) (by omega) (by omega) (by omega) (by omega)
   ·exact ga_no hg z (by omega) (by omega) (by omega) (by omega) (by omega) (by omega)
   ·exact z) t
  have r2:=L.t ((ws.take c).flatMap (·.2) ++ (A'.flatMap (·.2) ++ (A.flatMap (·.2) ++ [] ++ B.flatMap (·.2)) ++ B'.flatMap (·.2)) ++ (ws.drop c).flatMap (·.2) ++ q) e (by simpa using r)
  simpa using r2
end L48
namespace L48
open PySem L2 DL
noncomputable def lwB:Dst->So:=(seqS (setS 6 fun δ=>(fun δ=>(calO F__law_stream (consA (gVar 5) (consA (fun _=>.val (.int 18)) nilA))) δ >>= fun x=>.val x.d) δ >>= fun d=>.val (.fz d)) (seqS (asgS (fun δ=>(calO F__law_element (consA (gVar 6) (consA (fun δ=>(calO F__law_names (consA (gVar 1) (consA (gVar 4) nilA))) δ >>= fun x=>.val x.d) (consA (DL.bin addX (fun _=>.val (.int 1000)) (gVar 4)) nilA)))) δ >>= fun x=>.val x.d) (bTupL 2 (bCons (bName 7) (bCons (bName 8) bNil)))) (seqS (setS 9 fun δ=>(fun δ=>(calO F__law_nothing (consA (sliceY (gVar 6) (fun δ=>asI ((fun _=>.val (.int 6)) δ)) (fun _=>.val none)) (consA (fun δ=>(calO F__law_names (consA (gVar 1) (consA (DL.bin addX (fun _=>.val (.int 40)) (gVar 4)) nilA))) δ >>= fun x=>.val x.d) (consA (DL.bin addX (fun _=>.val (.int 1040)) (gVar 4)) (consA (lstD nilA) nilA))))) δ >>= fun x=>.val x.d) δ >>= fun d=>.val (.fz d)) (seqS (setS 10 fun δ=>(fun δ=>(calO F__law_nothing (consA (sliceY (gVar 6) (fun δ=>asI ((fun _=>.val (.int 12)) δ)) (fun _=>.val none)) (consA (fun δ=>(calO F__law_names (consA (gVar 1) (consA (DL.bin addX (fun _=>.val (.int 80)) (gVar 4)) nilA))) δ >>= fun x=>.val x.d) (consA (DL.bin addX (fun _=>.val (.int 1080)) (gVar 4)) (consA (gVar 9) nilA))))) δ >>= fun x=>.val x.d) δ >>= fun d=>.val (.fz d)) (seqS (setS 11 fun δ=>(DL.bin modD (DL.bin ixD (gVar 6) (fun _=>.val (.int 11))) (DL.bin addX (calN lenD (consA (gVar 7) nilA)) (fun _=>.val (.int 1)))) δ >>= fun d=>.val (.fz d)) (seqS (setS 2 fun δ=>(DL.bin addX (DL.bin addX (DL.bin addX (gVar 2) (sliceY (gVar 7) (fun _=>.val none) (fun δ=>asI ((gVar 11) δ)))) (gVar 10)) (sliceY (gVar 7) (fun δ=>asI ((gVar 11) δ)) (fun _=>.val none))) δ >>= fun d=>.val (.fz d)) (setS 3 fun δ=>(DL.bin addX (gVar 3) (gVar 8)) δ >>= fun d=>.val (.fz d))))))))
noncomputable def lwC:Dst->So:=(seqS (setS 12 fun δ=>(calN listOf (consA (gVar 2) nilA)) δ >>= fun d=>.val (.fz d)) (seqS (setS 13 (calO F_laid (consA (gVar 12) nilA))) (seqS (ifS (brw 13 (fun δ=>orR ((fun δ=>notR ((fun δ=>asB ((calN isiD (consA (gVar 13) (consA (fun _=>.val (.ty "list")) nilA))) δ)) δ)) δ) ((fun δ=>orR ((fun δ=>asB (DL.bin cmpNe (gVar 13) (gVar 3) δ)) δ) ((fun δ=>orR ((fun δ=>asB (DL.bin cmpNe (gVar 12) (gVar 2) δ)) δ) ((fun δ=>asB (DL.bin cmpNe (fun δ=>(calO F_laid (consA (calN listOf (consA (gVar 3) nilA)) nilA)) δ >>= fun x=>.val x.d) (gVar 3) δ)) δ)) δ)) δ))) (retS fun δ=>(fun _=>.val (.bl false)) δ >>= fun d=>.val (.fz d)) nilS) (seqS (appS 13 (consA (tupD (consA (fun _=>.val (.str "chain")) (consA (tupD nilA) nilA))) nilA)) (retS fun δ=>(fun δ=>andV ((DL.bin cmpEq (fun δ=>(calO F_laid (consA (gVar 12) nilA)) δ >>= fun x=>.val x.d) (gVar 3)) δ) ((fun δ=>andV ((DL.bin cmpEq (gVar 12) (gVar 2)) δ) ((DL.bin cmpEq (fun δ=>(calO F_laid (consA (lstD nilA) nilA)) δ >>= fun x=>.val x.d) (lstD nilA)) δ)) δ)) δ >>= fun d=>.val (.fz d))))))
theorem lw_body {S a6 a7 a8 a9 a10 a11 a12 a13:Option DV} {base k x y z:Int} {R1 D1 Ls L6 L12 W1 D2 I1 N1 Wa Wb Q1 Q2 Q3 D3:List D} {nk n40 n80:D} (h1:F__law_stream [.int x,.int 18] = .val (.ol Ls)) (e1:F__law_names [.int base,.int k] = .val (.fz nk)) (e2:F__law_names [.int base,.int (40 + k)] = .val (.fz n40)) (e3:F__law_names [.int base,.int (80 + k)] = .val (.fz n80))
  (hE:F__law_element [.lst Ls,nk,.int (1000 + k)] = .val (.fz (.lst [.lst W1,.lst D2]))) (s6:sliceX (.lst Ls) (some 6) none = .val (.lst L6)) (s12:sliceX (.lst Ls) (some 12) none = .val (.lst L12)) (hi:F__law_nothing [.lst L6,n40,.int (1040 + k),.lst []] = .val (.fz (.lst I1))) (ha:F__law_nothing [.lst L12,n80,.int (1080 + k),.lst I1] = .val (.fz (.lst N1)))
  (h11:ixD (.lst Ls) (.int 11) = .val (.int y)) (hm:modD (.int y) (.int ((W1.length:Int) + 1)) = .val (.int z)) (t1:sliceX (.lst W1) none (some z) = .val (.lst Wa)) (t2:sliceX (.lst W1) (some z) none = .val (.lst Wb)) (b1:addX (.lst R1) (.lst Wa) = .val (.lst Q1)) (b2:addX (.lst Q1) (.lst N1) = .val (.lst Q2)) (b3:addX (.lst Q2) (.lst Wb) = .val (.lst Q3)) (b4:addX (.lst D1) (.lst D2) = .val (.lst D3)) :
  lwB [S,iV base,some (.fz (.lst R1)),some (.fz (.lst D1)),iV k,iV x,a6,a7,a8,a9,a10,a11,a12,a13] = .next [S,iV base,some (.fz (.lst Q3)),some (.fz (.lst D3)),iV k,iV x,some (.fz (.lst Ls)),some (.fz (.lst W1)),some (.fz (.lst D2)),some (.fz (.lst I1)),some (.fz (.lst N1)),iV z,a12,a13]:=by
 have u2:∀ {i j:Nat} {δ:Dst} {p q:D},bTupL 2 (bCons (bName i) (bCons (bName j) bNil)) (.lst [p,q]) δ = some ((δ.set i (some (.fz p))).set j (some (.fz q))):=rfl
 have ag:∀ {g:Dst->Res D} {bb:D->Dst->Option Dst} {δ:Dst},asgS g bb δ = match g δ with | .val d=>ofO (bb d δ) .next | .exc x=>.exc x δ | .bad=>.bad:=fun {g bb δ}=>by unfold asgS;cases g δ <;> rfl
 have oo:∀ {δ:Dst} {k:Dst->So},ofO (some δ) k = k δ:=rfl
 have dv:∀ d,(DV.fz d).d = d:=fun _=>rfl
 have dl:∀ l,(DV.ol l).d = .lst l:=fun _=>rfl
 have ln:∀ l:List D,lenD [.lst l] = .val (.int l.length):=fun _=>rfl
 simp [lwB,fnD,startD,seq_e,sb_n,sb_r,st,re,if_e,fin,tu,ls,co,nilA,bi,gv,su,ad,ce,ab,rb,ofr,lk0,lk1,lk2,lk3,lk4,lk5,lk6,nilS,ca,uE,iR,cN,sy,aI,u2,ag,oo,dv,dl,ln,h1,e1,e2,e3,hE,s6,s12,hi,ha,h11,hm,t1,t2,b1,b2,b3,b4]
theorem law_e (ns:List Int):F_law [.scr ns] = fin (So.bind (setS 1 (fun δ=>(fun δ=>(calO F__law_cell (consA (gVar 0) (consA (fun _=>.val (.int 0)) nilA))) δ >>= fun x=>.val x.d) δ >>= fun d=>.val (.fz d)) (startD 14 [.scr ns])) (seqS (setS 2 fun δ=>(lstD nilA) δ >>= fun d=>.val (.fz d)) (seqS (setS 3 fun δ=>(lstD nilA) δ >>= fun d=>.val (.fz d)) (seqS (loopS (fun δ=>(consA (sliceY (gVar 0) (fun _=>.val none) (fun δ=>asI ((fun _=>.val (.int 8)) δ))) nilA) δ >>= enumD) (bTup 2 (bCons (bName 4) (bCons (bName 5) bNil))) lwB) lwC)))):=rfl
end L48
namespace L48
open PySem L2 DL
theorem nm_ne {P Q:Str} {k:Int} {g g':Nat} (h:g ≠ g'):nm P Q k ⟨#[g]⟩ ≠ nm P Q k ⟨#[g']⟩:=fun z=>h (nm_inj z).2.2
theorem sl_drop (l:List Int) (k:Nat):sliceX (.lst (l.map .int)) (some (k:Int)) none = .val (.lst ((l.drop k).map .int)):=by
 show (.val (.lst (cutD (l.map .int) (some (k:Int)) none)):Res D) = _
 rw [cut_drop,List.map_drop]
theorem lw_for {base:Int} {P Q:Str} (hN:∀ k:Int,F__law_names [.int base,.int k] = .val (.fz (nM (nm P Q k "a") (nm P Q k "b") (nm P Q k "c") (nm P Q k "d")))):∀ (cells:List Int) (k:Nat) (R:List (D × List Mv)) (du:List Mv) (S a4 a5 a6 a7 a8 a9 a10 a11 a12 a13:Option DV),k + cells.length ≤ 8->LI P Q k R du →
  ∃ R' du' b4 b5 b6 b7 b8 b9 b10 b11,LI P Q (k + cells.length) R' du'/\forS (bTup 2 (bCons (bName 4) (bCons (bName 5) bNil))) lwB (enumL k (cells.map .int)) [S,iV base,some (.fz (.lst (R.map (·.1)))),some (.fz (.lst (du.map Mv.d))),a4,a5,a6,a7,a8,a9,a10,a11,a12,a13] = .next [S,iV base,some (.fz (.lst (R'.map (·.1)))),some (.fz (.lst (du'.map Mv.d))),b4,b5,b6,b7,b8,b9,b10,b11,a12,a13]
 | [],k,R,du,S,a4,a5,a6,a7,a8,a9,a10,a11,a12,a13,_,L=>⟨R,du,a4,a5,a6,a7,a8,a9,a10,a11,L,rfl⟩
 | x :: cells,k,R,du,S,a4,a5,a6,a7,a8,a9,a10,a11,a12,a13,hk,L=>by
  rw [List.length_cons] at hk
  obtain ⟨l,l1,l2⟩:=e_str x 18 (by omega)
  obtain ⟨x0,x1,x2,x3,x4,x5,X⟩:=xs_of (l:=l) (by omega)
  obtain ⟨y0,y1,y2,y3,y4,y5,Y⟩:=xs_of (l:=l.drop 6) (by rw [List.length_drop];omega)
  obtain ⟨z0,z1,z2,z3,z4,z5,Z⟩:=xs_of (l:=l.drop 12) (by rw [List.length_drop];omega)
  have bc:∀ i:Int,nm P Q i "b" ≠ nm P Q i "c":=fun i=>nm_ne (g:=98) (g':=99) (by omega)
  have bd:∀ i:Int,nm P Q i "b" ≠ nm P Q i "d":=fun i=>nm_ne (g:=98) (g':=100) (by omega)
  have cd:∀ i:Int,nm P Q i "c" ≠ nm P Q i "d":=fun i=>nm_ne (g:=99) (g':=100) (by omega)
  obtain ⟨ws,du',E,B⟩:=e_elt X (nm P Q k "a") (nm P Q k "b") (nm P Q k "c") (nm P Q k "d") (bc _) (bd _) (cd _) (n:=1000 + (k:Int)) (by omega) (by omega)
  obtain ⟨A1,B1,I,N1⟩:=e_not Y (nm P Q (40 + (k:Int)) "a") (nm P Q (40 + (k:Int)) "b") (nm P Q (40 + (k:Int)) "c") (nm P Q (40 + (k:Int)) "d") (bc _) (bd _) (cd _) (n:=1040 + (k:Int)) (by omega) (by omega) [] (by simp)
  have n1l:=N1.l
  simp only [List.length_append] at n1l
  obtain ⟨A2,B2,O,N2⟩:=e_not Z (nm P Q (80 + (k:Int)) "a") (nm P Q (80 + (k:Int)) "b") (nm P Q (80 + (k:Int)) "c") (nm P Q (80 + (k:Int)) "d") (bc _) (bd _) (cd _) (n:=1080 + (k:Int)) (by omega) (by omega) (A1 ++ [] ++ B1) (by simp;omega)
  have n2l:=N2.l
  simp only [List.length_append] at n2l
  have y11:∃ y,ixD (.lst (l.map .int)) (.int 11) = .val (.int y):=⟨l[11],ix_lst (by omega) (by rw [show (11:Int).toNat = 11 from rfl,List.getElem?_map,List.getElem?_eq_getElem (by omega)];rfl)⟩
  obtain ⟨y,hy⟩:=y11
  have hm:=md (x:=y) (((ws.map (·.1)).length:Int) + 1)
  obtain ⟨c,hc⟩:=Int.eq_ofNat_of_zero_le hm.1
  have mm:modD (.int y) (.int (((ws.map (·.1)).length:Int) + 1)) = .val (.int (c:Int)):=by rw [m_mod (by omega),hc]
  have bwl:=B.wl
  have bdl:=B.dl
  have lrl:=L.rl
  have ldl:=L.dl
  have T1:sliceX (.lst (ws.map (·.1))) none (some (c:Int)) = .val (.lst ((ws.take c).map (·.1))):=by
   show (.val (.lst (cutD (ws.map (·.1)) none (some (c:Int)))):Res D) = _
   rw [cut_take,List.map_take]
  have T2:sliceX (.lst (ws.map (·.1))) (some (c:Int)) none = .val (.lst ((ws.drop c).map (·.1))):=by
   show (.val (.lst (cutD (ws.map (·.1)) (some (c:Int)) none)):Res D) = _
   rw [cut_drop,List.map_drop]
  have step:=lw_body (S:=S) (a6:=a6) (a7:=a7) (a8:=a8) (a9:=a9) (a10:=a10) (a11:=a11) (a12:=a12) (a13:=a13) (base:=base) (k:=(k:Int)) (x:=x) l2 (hN k) (hN (40 + k)) (hN (80 + k)) E (sl_drop l 6) (sl_drop l 12) I O hy mm T1 T2 (R1:=R.map (·.1)) (D1:=du.map Mv.d) (add_lst (by simp;omega)) (add_lst (by simp;omega)) (add_lst (by simp;omega)) (add_lst (by simp;omega))
  have L':=L.step (by omega) B N1 N2 c
  obtain ⟨R',dd,b4,b5,b6,b7,b8,b9,b10,b11,L2,e⟩:=lw_for hN cells (k + 1) _ _ S (iV k) (iV x) (some (.fz (.lst (l.map .int)))) (some (.fz (.lst (ws.map (·.1))))) (some (.fz (.lst (du'.map Mv.d)))) (some (.fz (.lst ((A1 ++ [] ++ B1).map fun p:D × List Mv=>p.1)))) (some (.fz (.lst ((A2 ++ (A1 ++ [] ++ B1) ++ B2).map fun p:D × List Mv=>p.1)))) (iV c) a12 a13 (by omega) L'
  refine ⟨R',dd,b4,b5,b6,b7,b8,b9,b10,b11,by rw [List.length_cons,show k + (cells.length + 1) = k + 1 + cells.length by omega];exact L2,?_⟩
  show turnS (lwB [S,iV base,some (.fz (.lst (R.map (·.1)))),some (.fz (.lst (du.map Mv.d))),iV k,iV x,a6,a7,a8,a9,a10,a11,a12,a13]) _ = _
  rw [step,← e]
  simp only [List.map_append]
  rfl
theorem eqs_self:∀ {l:List D},(∀ x ∈ l,eqD x x = some true)->eqDs l l = some true
 | [],_=>rfl
 | x :: l,h=>by
  show (match eqD x x,eqDs l l with | some a,some b=>some (a && b) | _,_=>none) = _
  rw [h x (by simp),eqs_self fun y hy=>h y (by simp [hy])]
  rfl
theorem deps_le' {n:Nat}:∀ {l:List D},(∀ x ∈ l,dep x ≤ n)->deps l ≤ n
 | [],_=>Nat.zero_le _
 | x :: l,h=>by
  show max (dep x) (deps l) ≤ n
  have:=deps_le' (n:=n) (l:=l) fun y hy=>h y (by simp [hy])
  have:=h x (by simp)
  omega
theorem dep_mv' (x:Mv):dep x.d ≤ 58:=by
 cases x with
 | ba m=>have:=dep_mb m;show dep m.d ≤ 58;omega
 | bk m=>
  have:=dep_mb m
  show max 0 (max (dep m.d) 0) + 1 ≤ 58
  omega
 | _=>exact of_decide_eq_true rfl
theorem lst_eq {l:List D} (h:∀ x ∈ l,eqD x x = some true) (hd:∀ x ∈ l,dep x ≤ 58):cmpEq (.lst l) (.lst l) = .val (.bl true)/\cmpNe (.lst l) (.lst l) = .val (.bl false):=by
 have e:eqD (.lst l) (.lst l) = some true:=eqs_self h
 have d:dep (.lst l) < 60:=by
  show deps l + 1 < 60
  have:=deps_le' hd
  omega
 exact ⟨c_eq e d,c_ne e d⟩
theorem lw_end {P Q:Str} {k:Nat} {R:List (D × List Mv)} {du:List Mv} (hk:k ≤ 8) (L:LI P Q k R du) {S a1 a4 a5 a6 a7 a8 a9 a10 a11:Option DV}:fin (lwC [S,a1,some (.fz (.lst (R.map (·.1)))),some (.fz (.lst (du.map Mv.d))),a4,a5,a6,a7,a8,a9,a10,a11,none,none]) = .val (.fz (.bl true)):=by
 have lrl:=L.rl
 have ldl:=L.dl
 have fl:(R.flatMap (·.2)).length ≤ 2 * R.length:=by
  have:∀ R:List (D × List Mv),(∀ x ∈ R,Wd x.1 x.2)->(R.flatMap (·.2)).length ≤ 2 * R.length:=by
   intro R
   induction R with
   | nil=>intro _;simp
   | cons x R ih=>
    intro h
    have:=(h x (by simp)).ln
    have:=ih fun y hy=>h y (by simp [hy])
    rw [List.flatMap_cons,List.length_append,List.length_cons]
    omega
  exact this R L.w
 have run:Run (R.flatMap (·.2)) du:=by
  have:=L.t [] du (by rw [List.append_nil];exact run_irr L.ir)
  rwa [List.append_nil] at this
 have f1:F_laid [.lst (R.map (·.1))] = .val (.ol (du.map Mv.d)):=e_laid (fun w hw=>(L.w w hw).fl) (fun m hm=>by
  obtain ⟨x,hx,hy⟩:=List.mem_flatMap.mp hm
  exact (L.w x hx).wf m hy) (by omega) run
 have dm:(du.map fun m=>(m.d,[m])).flatMap (·.2) = du:=by
  rw [List.flatMap_map]
  simp
 have f2:F_laid [.lst (du.map Mv.d)] = .val (.ol (du.map Mv.d)):=by
  have:=e_laid (rows:=du.map fun m=>(m.d,[m])) (l:=du) (fun w hw=>by
   obtain ⟨m,hm,rfl⟩:=List.mem_map.mp hw
   exact L.df m hm) (by rw [dm];exact L.dw) (by rw [dm];omega) (by rw [dm];exact run_irr L.ir)
  rwa [List.map_map] at this
 have f3:F_laid [.lst []] = .val (.ol []):=e_laid (rows:=[]) (l:=[]) (by simp) (by simp) (by simp) (run_irr irr_nil)
 have q1:=lst_eq (l:=R.map (·.1)) (fun x hx=>by obtain ⟨w,hw,rfl⟩:=List.mem_map.mp hx;exact (L.w w hw).sf) (fun x hx=>by obtain ⟨w,hw,rfl⟩:=List.mem_map.mp hx;have:=(L.w w hw).dp;omega)
 have q2:=lst_eq (l:=du.map Mv.d) (fun x hx=>by obtain ⟨m,hm,rfl⟩:=List.mem_map.mp hx;exact e_self m) (fun x hx=>by obtain ⟨m,hm,rfl⟩:=List.mem_map.mp hx;exact dep_mv' m)
 have q3:cmpEq (.lst []) (.lst []) = .val (.bl true):=rfl
 have li:∀ l:List D,listOf [.lst l] = .val (.lst l):=fun _=>rfl
 have is:∀ l:List D,isiD [.lst l,.ty "list"] = .val (.bl true):=fun _=>rfl
 generalize hR:R.map (·.1) = R1 at *
 have ll:(du.map Mv.d).length < sizeLine:=by rw [sizeLine_eq,List.length_map];omega
 generalize hD:du.map Mv.d = D1 at *
 have orE:∀ {b:Bool} {r:Res Bool},orR (.val b) r = if b = true then .val true else r:=fun {b r}=>by cases b <;> rfl
 have ntE:∀ {b:Bool},notR (.val b) = .val (!b):=rfl
 have avE:∀ {b:Bool} {r:Res D},andV (.val (.bl b)) r = if b = true then r else .val (.bl false):=fun {b r}=>by cases b <;> rfl
 have dv:∀ d,(DV.fz d).d = d:=fun _=>rfl
 have dl:∀ l,(DV.ol l).d = .lst l:=fun _=>rfl
 have apE:∀ {p0 p1 p2 p3 p4 p5 p6 p7 p8 p9 p10 p11 p12:Option DV} {l:List D} {k:Dst->Res (List D)} {d:D},k [p0,p1,p2,p3,p4,p5,p6,p7,p8,p9,p10,p11,p12,some (.ol l)] = .val [d]->l.length < sizeLine->appS 13 k [p0,p1,p2,p3,p4,p5,p6,p7,p8,p9,p10,p11,p12,some (.ol l)] = .next [p0,p1,p2,p3,p4,p5,p6,p7,p8,p9,p10,p11,p12,some (.ol (l ++ [d]))]:=fun {_ _ _ _ _ _ _ _ _ _ _ _ _ l k d} h hl=>by
  show (match k _ with | .val [d]=>if decide (l.length < sizeLine) = true then So.next _ else .bad | .exc x=>.exc x _ | _=>.bad) = _
  rw [h]
  show (if decide (l.length < sizeLine) = true then So.next _ else .bad) = _
  rw [if_pos (decide_eq_true hl)]
  rfl
 have bwE:∀ {p0 p1 p2 p3 p4 p5 p6 p7 p8 p9 p10 p11 p12:Option DV} {l:List D} {g:Dst->Res Bool} {b:Bool},g [p0,p1,p2,p3,p4,p5,p6,p7,p8,p9,p10,p11,p12,some (.fz (.lst l))] = .val b->brw 13 g [p0,p1,p2,p3,p4,p5,p6,p7,p8,p9,p10,p11,p12,some (.ol l)] = .val b:=fun {p0 p1 p2 p3 p4 p5 p6 p7 p8 p9 p10 p11 p12 l g b} h=>by
  show (match g [p0,p1,p2,p3,p4,p5,p6,p7,p8,p9,p10,p11,p12,some (.fz (.lst l))] with | .val b=>(.val b:Res Bool) | _=>.bad) = _
  rw [h]
 unfold lwC
 rw [seq_e,show setS 12 _ _ = .next [S,a1,some (.fz (.lst R1)),some (.fz (.lst D1)),a4,a5,a6,a7,a8,a9,a10,a11,some (.fz (.lst R1)),none] from rfl,sb_n,seq_e,set_val (i:=13) (x:=.ol D1) (by simp [fnD,startD,seq_e,sb_n,sb_r,st,re,if_e,fin,tu,ls,co,nilA,bi,gv,su,ad,ce,ab,rb,ofr,lk0,lk1,lk2,lk3,lk4,lk5,lk6,nilS,ca,uE,iR,cN,f1]),sb_n,seq_e]
 show fin (So.bind (ifS _ _ _ [S,a1,some (.fz (.lst R1)),some (.fz (.lst D1)),a4,a5,a6,a7,a8,a9,a10,a11,some (.fz (.lst R1)),some (.ol D1)]) _) = _
 rw [if_val (b:=false) (bwE ?_)]
 ·simp [fnD,startD,seq_e,sb_n,sb_r,st,re,if_e,fin,tu,ls,co,nilA,bi,gv,su,ad,ce,ab,rb,ofr,lk0,lk1,lk2,lk3,lk4,lk5,lk6,nilS,ca,uE,iR,cN,apE,ll,avE,f1,f3,q1.1,q2.1,q3,dl,dv]
 ·simp [fnD,startD,seq_e,sb_n,sb_r,st,re,if_e,fin,tu,ls,co,nilA,bi,gv,su,ad,ce,ab,rb,ofr,lk0,lk1,lk2,lk3,lk4,lk5,lk6,nilS,ca,uE,iR,cN,orE,ntE,is,li,f1,f2,q1.2,q2.2,dl,dv]
end L48
namespace L48
open PySem L2 DL
theorem e_cell (ns:List Int) (hl:ns.length ≤ 63):∃ b,F__law_cell [.scr ns,.int 0] = .val (.fz (.int b)):=by
 have lt:∀ i j:Int,ltD (.int i) (.int j) = .val (.bl (decide (i < j))):=fun _ _=>rfl
 have gt:∀ i j:Int,gtD (.int i) (.int j) = .val (.bl (decide (j < i))):=fun _ _=>rfl
 have ln:∀ l:List Int,lenD [.scr l] = .val (.int l.length):=fun _=>rfl
 have mu:mulD (.int 0) (.int 7919) = .val (.int (0 * 7919)):=m_mulN (by omega) (by omega)
 have mb:∀ i,modD (.int i) (.int 2147483647) = .val (.int (i % 2147483647)):=fun i=>m_mod (by omega)
 cases ns with
 | nil=>
  refine ⟨5 % 2147483647,?_⟩
  simp [F__law_cell,Gb__law_cell,fnD,startD,seq_e,sb_n,sb_r,st,re,if_e,fin,tu,ls,co,nilA,bi,gv,su,ad,ce,ab,rb,ofr,lk0,lk1,lk2,lk3,lk4,lk5,lk6,nilS,ca,uE,iR,cN,lt,gt,ln,mu,mb]
 | cons x l=>
  refine ⟨x,?_⟩
  have i0:ixD (.scr (x :: l)) (.int 0) = .val (.int x):=by
   show (match atI (x :: l) 0 with | some d=>(.val (.int d):Res D) | none=>.bad) = _
   rw [at_ok (by omega) (show (x :: l)[(0:Int).toNat]? = some x from rfl)]
  have p:(0:Int) < l.length + 1:=by omega
  simp [F__law_cell,Gb__law_cell,fnD,startD,seq_e,sb_n,sb_r,st,re,if_e,fin,tu,ls,co,nilA,bi,gv,su,ad,ce,ab,rb,ofr,lk0,lk1,lk2,lk3,lk4,lk5,lk6,nilS,ca,uE,iR,cN,lt,gt,ln,i0,p]
theorem e_law (ns:List Int) (hl:ns.length ≤ 63):F_law [.scr ns] = .val (.fz (.bl true)):=by
 obtain ⟨b,hb⟩:=e_cell ns hl
 obtain ⟨P,Q,_,_,hN⟩:=e_nms b
 obtain ⟨R,du,b4,b5,b6,b7,b8,b9,b10,b11,L,e⟩:=lw_for hN (ns.take 8) 0 [] [] (some (.fz (.scr ns))) none none none none none none none none none none (by rw [List.length_take];omega) (LI.zero P Q)
 have s8:sliceX (.scr ns) none (some 8) = .val (.lst ((ns.take 8).map .int)):=by
  show (.val (.lst (cutD (ns.map .int) none (some ((8:Nat):Int)))):Res D) = _
  rw [cut_take,List.map_take]
 have it:(consA (sliceY (gVar 0) (fun _=>.val none) (fun δ=>asI ((fun _=>.val (.int 8)) δ))) nilA) [some (.fz (.scr ns)),iV b,some (.fz (.lst [])),some (.fz (.lst [])),none,none,none,none,none,none,none,none,none,none] = .val [.lst ((ns.take 8).map .int)]:=cv s8 rfl
 rw [law_e,sv (i:=1) (δ:=startD 14 [.scr ns]) (g:=fun δ=>(calO F__law_cell (consA (gVar 0) (consA (fun _=>.val (.int 0)) nilA))) δ >>= fun x=>.val x.d) (d:=.int b) (bd hb)]
 have l2:=loop_val (items:=fun δ=>(consA (sliceY (gVar 0) (fun _=>.val none) (fun δ=>asI ((fun _=>.val (.int 8)) δ))) nilA) δ >>= enumD) (b:=bTup 2 (bCons (bName 4) (bCons (bName 5) bNil))) (body:=lwB) (δ:=[some (.fz (.scr ns)),iV b,some (.fz (.lst [])),some (.fz (.lst [])),none,none,none,none,none,none,none,none,none,none]) (ds:=enumL 0 ((ns.take 8).map .int)) (by
  show (consA _ nilA _ >>= enumD) = _
  rw [it]
  rfl)
 refine (congrArg (fun r=>fin (So.bind r lwC)) (l2.trans e)).trans ?_
 exact lw_end (by rw [List.length_take];omega) L
end L48
namespace L2
open PySem PySem.Spec PyProof.Rows
section
variable {K:PySem.W.Frag} {h:Heap} {mg:Str->Option Value} {tp:Nat->Stmt}
def Ds (K:PySem.W.Frag) (tp:Nat->Stmt):Nat->List Str->Prop
 | _,[]=>True
 | n,x :: l=>DefIn K x (tp n)/\Ds K tp (n + 1) l
def Dfs (K:PySem.W.Frag) (mg:Str->Option Value) (tp:Nat->Stmt):Nat->List Str->Prop
 | _,[]=>True
 | n,x :: l=>(∃ f fd,Df K mg x (tp n) f fd)/\Dfs K mg tp (n + 1) l
theorem ds_df (X:K.In h) (G:h.Ns mainGlobals mg):∀ {l:List Str} {n:Nat},Ds K tp n l->Dfs K mg tp n l
 | [],_,_=>trivial
 | _ :: _,_,⟨a,b⟩=>⟨a.df X G,ds_df X G b⟩
end
end L2
namespace My
open PySem L2
theorem all_mk {l:PySem.W.OpenLaw} {w:World} {K:PySem.W.Frag} {h:Heap} {mg:Str->Option Value} {fa:Addr} (X:K.In h) (G:h.Ns mainGlobals mg) (hfa:mg "law" = some (.ref fa)) (dd:L2.Ds K L48.top 1 ["inverse"]/\L2.Ds K L48.top 3 ["laid","flat","flat_chain","undone","renumbering","unless_idle","is_idle","first_taken","both_gone","two_shifts","two_renumberings","two_renames","put_and_rename","rename_and_put_back","together"]/\L2.Ds K L48.top 19 ["_law_cell","_law_stream","_law_letter","_law_names","_law_move","_law_divisor","_law_renumber","_law_both","_law_told","_law_shifts","_law_renames","_law_puts","_law_unlike","_law_element","_law_nothing"]) (dl:DefIn K "law" (L48.top 34)) (zb:DL.BnK K) :
  ∃ fd:FuncData,(∀ (s:Shared) (v:Value),BindsTo s fd ⟨[v],[]⟩ [("_law_script",v)])/\∀ base:Heap,K.In base->base.Ns mainGlobals mg->FnOk l.prog w K mg base CX0 18 fa fd ["_law_script"] (spLaw K):=by
 have B:DL.Bn mg:=zb.bn X G
 obtain ⟨dd0,dd1,dd2⟩:=dd
 obtain ⟨⟨_,_,D1⟩,_⟩:=ds_df X G dd0
 obtain ⟨⟨_,_,D3⟩,⟨_,_,D4⟩,⟨_,_,D5⟩,⟨_,_,D6⟩,⟨_,_,D7⟩,⟨_,_,D8⟩,⟨_,_,D9⟩,⟨_,_,D10⟩,⟨_,_,D11⟩,⟨_,_,D12⟩,⟨_,_,D13⟩,⟨_,_,D14⟩,⟨_,_,D15⟩,⟨_,_,D16⟩,⟨_,_,D17⟩,_⟩:=ds_df X G dd1
 obtain ⟨⟨_,_,D19⟩,⟨_,_,D20⟩,⟨_,_,D21⟩,⟨_,_,D22⟩,⟨_,_,D23⟩,⟨_,_,D24⟩,⟨_,_,D25⟩,⟨_,_,D26⟩,⟨_,_,D27⟩,⟨_,_,D28⟩,⟨_,_,D29⟩,⟨_,_,D30⟩,⟨_,_,D31⟩,⟨_,_,D32⟩,⟨_,_,D33⟩,_⟩:=ds_df X G dd2
 obtain ⟨f,oc,od,kV,doc,pm,an,cdv,ct,osl,a,lk,c,k⟩:=dl
 have e:=hfa.symm.trans (PySem.W.mg_of X G a)
 cases e
 refine ⟨PySem.W.fnOf "law" "law" (defArgs (L48.top 34)) (defBody (L48.top 34)) (defScope (L48.top 34)) .none kV doc pm an cdv ct,fun s v=>.of_eq rfl,fun base _ _=>?_⟩
 exact DL.law_ok (kx:=⟨K,DL.noXa,DL.noXa_inj⟩) rfl (L48.ok_law (xi:=DL.noXa_inj) ⟨_,_,D1,_,_,D3,_,_,D4,_,_,D5,_,_,D6,_,_,D7,_,_,D8,_,_,D9,_,_,D10,_,_,D11,_,_,D12,_,_,D13,_,_,D14,_,_,D15,_,_,D16,_,_,D17,_,_,D19,_,_,D20,_,_,D21,_,_,D22,_,_,D23,_,_,D24,_,_,D25,_,_,D26,_,_,D27,_,_,D28,_,_,D29,_,_,D30,_,_,D31,_,_,D32,_,_,D33,_,_,⟨fun_mk lk c k,hfa⟩⟩ B) L48.e_law
end My
namespace PySem.W.Fast
def tw8122183399986321891:Unit:=()
def tw16970566282220814785:Unit:=()
def tw589620686792824478:Unit:=()
def tw9291877184096624888:Unit:=()
def tw17569366928885286952:Unit:=()
def tw12686223653998440172:Unit:=()
def tw18370156040679185806:Unit:=()
def tw11934207414425470683:Unit:=()
def tw1580019890375674106:Unit:=()
def tw16345192314946533054:Unit:=()
def tw7938507875869706332:Unit:=()
def tw14248882202130165820:Unit:=()
def tw16366745562861567438:Unit:=()
def tw8947616433751715577:Unit:=()
def tw5228505342014003438:Unit:=()
def tw12370573448837353629:Unit:=()
def tw788015817504781648:Unit:=()
def tw734298181945077029:Unit:=()
def tw7728431352330161061:Unit:=()
def tw1235461439036608051:Unit:=()
def tw2663806720385916347:Unit:=()
def tw5713584611085481716:Unit:=()
def tw12463216247174418925:Unit:=()
def tw11783786617333176511:Unit:=()
def tw13601320432251155748:Unit:=()
def tw6815552590762589399:Unit:=()
def tw8811020317253015303:Unit:=()
def tw9502503076498601663:Unit:=()
def tw16629911311269306190:Unit:=()
def tw12511513243738365998:Unit:=()
def tw11126096693839492710:Unit:=()
def tw16342263136931830935:Unit:=()
def tw871866823028276066:Unit:=()
def tw1783410401821874858:Unit:=()
def tw1773728169845824320:Unit:=()
def tw4329975313340284619:Unit:=()
end PySem.W.Fast
open PySem PySem.W PyProof.Rows
set_option maxRecDepth 100000 in
set_option maxHeartbeats 0 in
theorem PySem.Challenge.cw_halfmoved_k48_laid_together_holds : PySem.Challenge.rw_halfmoved_k48_laid_together.Holds := by
 w_on;o_law;k_head;(case hw=>w_witness2)
 k_fill
 refine My.walk 18 (l:=PySem.Challenge.rw_halfmoved_k48_laid_together) ⟨rfl,by decide,by decide⟩ rfl rfl (fun w h Y=>PySem.W.kIn_of Y) ?F
 case F=>
  intro w mg fa h KX G hmg
  refine' My.all_mk KX G hmg ?dd ?dl ?zb
  (case dd=>and_intros <;> first | (refine' L2.defIn_mk ?a ?l ?c ?k;(case a=>k_is);(case l=>k_is);(case c=>k_is);(case k=>k_is)) | exact trivial)
  (case dl=>refine' L2.defIn_mk ?a ?l ?c ?k;(case a=>k_is);(case l=>k_is);(case c=>k_is);(case k=>k_is))
  (case zb=>constructor <;> k_is)
