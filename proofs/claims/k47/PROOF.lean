import PyProof.Rows.All
import Wide.All
import OpenK.AllK
import Wide.FinOn
import Lean
import PyProof.EqAt
import PyProof.EqKinds
import PyProof.TupleCall
import PyProof.DictWalks
import KE.KEqDict
import KE.KIntText
import PyProof.CallStr
import PyProof.DictTruth
import KE.KTupSum
import KE.KListMore
import PyProof.Rows.MinMaxN
import PyProof.MinMaxWalk
import PyProof.Rows.CallKwBuiltin
import PyProof.Rows.StrCase
import PyProof.StrLawsReplace
import PySem.SetOps
import PyProof.SetKind
import PyProof.TupleKey
import PyProof.Rows.SetFrom
import KE.KSortTup
import PySem.Challenge.RW_oneofall_k47_the_made_rules
set_option Elab.async false
set_option linter.all false
set_option maxRecDepth 100000

namespace L2
open PySem PySem.Spec PyProof.Rows
noncomputable abbrev Key:=Sum Int Str
noncomputable def keyIs:Key->Value->Bool
 | .inl k,v=>Value.isInt k v
 | .inr x,v=>Value.isStrOf x v
noncomputable def keyH (w:World):Key->Int
 | .inl k=>hashInt k
 | .inr x=>hashStr w x
theorem zbh:∀{k:Key} {v:Value},keyIs k v=true->(∃i t,k=Sum.inl i/\v=Value.int i t)\/(∃x t,k=Sum.inr x/\v=Value.str x t)
 | .inl i,v,h=>by
  obtain⟨t,e⟩:=Value.isInt_shape (k:=i) (v:=v) h
  exact .inl ⟨i,t,rfl,e⟩
 | .inr x,v,h=>by
  obtain⟨t,e⟩:=Value.isStrOf_shape (x:=x) (v:=v) h
  exact .inr ⟨x,t,rfl,e⟩
theorem keyIs_int (i:Int)(t:Tok):keyIs (.inl i) (.int i t)=true:=by simp[keyIs,Value.isInt]
theorem keyIs_str (x:Str)(t:Tok):keyIs (.inr x) (.str x t)=true:=by simp[keyIs,Value.isStrOf]
theorem key_ll (a b:Int):decide ((Sum.inl a:Key)=Sum.inl b)=(a==b):=by
 by_cases e:a=b
 ·subst e;simp
 ·have h:¬ (Sum.inl a:Key)=Sum.inl b:=fun q=>e (Sum.inl.inj q)
  rw[decide_eq_false h]
  exact (beq_eq_false_iff_ne.mpr e).symm
theorem key_rr (a b:Str):decide ((Sum.inr a:Key)=Sum.inr b)=decide (a=b):=by
 by_cases e:a=b
 ·subst e;simp
 ·have h:¬ (Sum.inr a:Key)=Sum.inr b:=fun q=>e (Sum.inr.inj q)
  rw[decide_eq_false h,decide_eq_false e]
theorem key_lr (a:Int)(b:Str):decide ((Sum.inl a:Key)=Sum.inr b)=false:=decide_eq_false (fun q=>nomatch q)
theorem key_rl (a:Str)(b:Int):decide ((Sum.inr a:Key)=Sum.inl b)=false:=decide_eq_false (fun q=>nomatch q)
noncomputable def mixKind (prog:Program)(w:World):PySem.KeyKind prog w Key where
 is:=keyIs
 hash:=keyH w
 inj:=fun v a b ha hb=>by
  rcases zbh ha with⟨i,t,rfl,rfl⟩ | ⟨x,t,rfl,rfl⟩
  ·rcases zbh hb with⟨j,u,rfl,e⟩ | ⟨y,u,rfl,e⟩
   ·injection e with e1 _;rw[e1]
   ·exact nomatch e
  ·rcases zbh hb with⟨j,u,rfl,e⟩ | ⟨y,u,rfl,e⟩
   ·exact nomatch e
   ·injection e with e1 _;rw[e1]
 byValue:=fun k v h=>by
  rcases zbh h with⟨i,t,rfl,rfl⟩ | ⟨x,t,rfl,rfl⟩<;>rfl
 pyHash:=fun hv h=>by
  rcases zbh hv with⟨i,t,rfl,rfl⟩ | ⟨x,t,rfl,rfl⟩
  ·exact wpAny_pyHash_int h
  ·exact wpAny_pyHash_str h
 eqBool:=fun hu hv h=>by
  rcases zbh hu with⟨i,t,rfl,rfl⟩ | ⟨x,t,rfl,rfl⟩
  ·rcases zbh hv with⟨j,u,rfl,rfl⟩ | ⟨y,u,rfl,rfl⟩
   ·rw[key_ll]at h;exact wpAny_eqBool_int h
   ·rw[key_lr]at h;exact SeqAt.EqAt.int_str i t y u _ _ _ _ h
  ·rcases zbh hv with⟨j,u,rfl,rfl⟩ | ⟨y,u,rfl,rfl⟩
   ·rw[key_rl]at h;exact SeqAt.EqAt.str_int x t j u _ _ _ _ h
   ·rw[key_rr]at h;exact wpAny_eqBool_str h
 «strs»:=fun k x t v h=>by
  rcases zbh h with⟨i,u,rfl,e⟩ | ⟨y,u,rfl,e⟩
  ·exact nomatch e
  ·injection e with e1 _
   subst e1
   cases v<;>rfl
theorem zlr (prog:Program)(w:World)(k:Key)(v:Value):(mixKind prog w).is k v=keyIs k v:=rfl
theorem zj1 (prog:Program)(w:World)(i:Int)(t:Tok):(mixKind prog w).is (.inl i) (.int i t)=true:=keyIs_int i t
theorem zjw (prog:Program)(w:World)(x:Str)(t:Tok):(mixKind prog w).is (.inr x) (.str x t)=true:=keyIs_str x t
end L2
namespace L2
open PySem PySem.Spec PyProof.Rows
inductive V where
 | non | bl (b:Bool) | int (i:Int) | str (x:Str) | byt (b:Array UInt8) | flt (b:UInt64) | ref (a:Addr) | ty (n:String)
 deriving DecidableEq
noncomputable def RelV:V->Value->Prop
 | .non,u=>u=Value.none
 | .bl b,u=>u=Value.bool b
 | .int i,u=>∃t,u=Value.int i t
 | .str x,u=>∃t,u=Value.str x t
 | .byt b,u=>∃t,u=Value.bytes b t
 | .flt b,u=>∃t,u=Value.float b t
 | .ref a,u=>u=Value.ref a
 | .ty n,u=>u=Value.type n
noncomputable abbrev Vals:List V->List Value->Prop:=Paired RelV
theorem Vals.length {xs:List V}{us:List Value}(r:Vals xs us):xs.length=us.length:=Paired.length r
theorem Vals.get:∀{xs:List V} {us:List Value} {i:Nat} {x:V},Vals xs us->xs[i]? = some x->∃u,us[i]? = some u/\RelV x u
 | _,_,_,_,.nil,e=>by simp at e
 | _,_,0,_,.cons r _,e=>by simp at e;subst e;exact⟨_,rfl,r⟩
 | _,_,i+1,x,.cons _ t,e=>by
  obtain⟨u,h1,h2⟩:=Vals.get (i:=i) (x:=x) t (by simpa using e)
  exact⟨u,by simpa using h1,h2⟩
theorem Vals.append:∀{xs ys:List V} {us ws:List Value},Vals xs us->Vals ys ws->Vals (xs++ys) (us++ws)
 | _,_,_,_,.nil,s=>s
 | _,_,_,_,.cons r t,s=>.cons r (Vals.append t s)
theorem Vals.take:∀{xs:List V} {us:List Value} (n:Nat),Vals xs us->Vals (xs.take n) (us.take n)
 | _,_,0,_=>.nil
 | _,_,_+1,.nil=>.nil
 | _,_,n+1,.cons r t=>.cons r (Vals.take n t)
theorem Vals.drop:∀{xs:List V} {us:List Value} (n:Nat),Vals xs us->Vals (xs.drop n) (us.drop n)
 | _,_,0,r=>r
 | _,_,_+1,.nil=>.nil
 | _,_,n+1,.cons _ t=>Vals.drop n t
noncomputable def RelO:Option V->Option Value->Prop
 | some v,some u=>RelV v u
 | none,none=>True
 | _,_=>False
noncomputable def KV {κ:Type}:List (κ×V)->List (κ×Value)->Prop:=Paired fun (p:κ×V) (q:κ×Value)=>p.1=q.1/\RelV p.2 q.2
noncomputable def kV:Key->V
 | .inl i=>.int i
 | .inr x=>.str x
inductive HO where
 
 | lst (xs:List V)
 
 | tup (xs:List V)
 
 | dK (kvs:List (Key×V)) | dT (kvs:List (List Key×V))
 
 | set (S:Int->Bool) (n:Nat)
 
 | ins (C dx:Addr) (fs:List (Str×V))
 
 | own (x:Addr)
 
 | xd (fs:List (Str×V))
 
 | met (f x:Addr)
 
 | rng (lo hi:Int)
 
 | frz (o:Obj) (u:HO)
 
 | tbl (ps:Array Value)
 
 | ext (φ:Heap->Prop)
noncomputable abbrev Hp:=Addr->Option HO
noncomputable def upd (H:Hp)(a:Addr)(o:HO):Hp:=fun b=>if b=a then some o else H b
theorem zah {H:Hp}{a:Addr}{o:HO}:upd H a o a=some o:=by unfold upd;rw[if_pos rfl]
theorem zai {H:Hp}{a b:Addr}{o:HO}(h:b≠a):upd H a o b=H b:=by unfold upd;rw[if_neg h]
theorem ne_of {H:Hp}{a b:Addr}{o u:HO}(h:H a=some o)(h':H b=some u)(d:o≠u):a≠b:=by
 intro e;subst e;rw[h]at h';exact d (Option.some.inj h')
theorem zbe {H:Hp}{a b:Addr}{o:HO}(h:H a=some o)(h':H b=none):a≠b:=by
 intro e;subst e;rw[h]at h';cases h'
section
variable (P:Program)(w:World)
noncomputable def ObjOk (H:Hp)(h:Heap)(a:Addr):HO->Prop
 | .lst xs=>xs.length<=sizeLine/\∃(its:List Value) (n:Nat),Vals xs its/\h.get? a=some { cls:=.type "list",data:=.seq its.toArray n }
 | .tup xs=>xs.length<=sizeLine/\∃its:List Value,Vals xs its/\IsTup h a its.toArray
 | .dK kvs=>kvs.length<=sizeLine/\(a==sysModules)=false/\∃vs,KV kvs vs/\h.DictOf (mixKind P w) a vs
 | .dT kvs=>kvs.length<=sizeLine/\(a==sysModules)=false/\∃xs:List (List Key×Addr×Value),
   Paired (fun (p:List Key×V) (q:List Key×Addr×Value)=>p.1=q.1/\H q.2.1=some (.tup (p.1.map kV))/\RelV p.2 q.2.2) kvs xs /\
   ∃o es ep,h.get? a=some o/\o.ExactDict/\o.data=.dict es ep/\es.toList=xs.map (entryOfKey (tupleKind (mixKind P w)))/\(xs.map (·.1)).Nodup
 | .set S n=>h.SetOf (intKind P w) a S n
 | .ins C dx fs=>H dx=some (.own a)/\fs.length<=1000/\dx≠a/\h.get? a=some (PySem.W.instObj C dx) /\
   ∃mA,h.Ns1 dx mA/\(∀f,RelO (fs.lookup f) (mA f))/\PySem.Within mA (fs.map (·.1))
 | .own _=>∃o,h.get? a=some o
 | .xd fs=>∃mA,h.Ns1 a mA/\∀f,RelO (fs.lookup f) (mA f)
 | .rng lo hi=>∃t u v,h.get? a=some { cls:=.type "range",data:=.fields #[.int lo t,.int hi u,.int 1 v] }
 | .frz o u=>h.get? a=some o/\ObjOk H h a u
 | .tbl ps=>h.get? a=some { cls:=.none,data:=.fields ps }
 | .met f x=>h.get? a=some (PySem.W.methodObj (.ref f) (.ref x))
 | .ext φ=>φ h/\(∃o,h.get? a=some o)/\∀h1 h2:Heap,φ h1->(∀o,h1.get? a=some o->h2.get? a=some o)->φ h2
noncomputable def HOk (H:Hp)(h:Heap):Prop:=∀a o,H a=some o->ObjOk P w H h a o
end
section
variable {P:Program}{w:World}{H H':Hp}{h h':Heap}{a:Addr}{o:HO}
theorem ObjOk.lt (x:ObjOk P w H h a o):a<h.objs.size:=by
 cases o with
 | lst xs=>obtain⟨_,_,_,_,e⟩:=x;exact Heap.lt_size e
 | tup xs=>obtain⟨_,_,_,p⟩:=x;exact p.lt
 | dK kvs=>obtain⟨_,_,_,_,o,_,_,e,_⟩:=x;exact Heap.lt_size e
 | dT kvs=>obtain⟨_,_,_,_,o,_,_,e,_⟩:=x;exact Heap.lt_size e
 | set S n=>obtain⟨o,_,_,_,e,_⟩:=x;exact Heap.lt_size e
 | ins C dx fs=>obtain⟨_,_,_,e,_⟩:=x;exact Heap.lt_size e
 | own y=>obtain⟨_,e⟩:=x;exact Heap.lt_size e
 | xd fs=>obtain⟨_,⟨_,_,_,e,_⟩,_⟩:=x;exact Heap.lt_size e
 | rng lo hi=>obtain⟨_,_,_,e⟩:=x;exact Heap.lt_size e
 | frz ob u=>obtain⟨e,_⟩:=x;exact Heap.lt_size e
 | tbl ps=>exact Heap.lt_size (show h.get? a=some _ from x)
 | met f y=>exact Heap.lt_size (show h.get? a=some _ from x)
 | ext φ=>obtain⟨_,⟨_,e⟩,_⟩:=x;exact Heap.lt_size e
theorem Paired.mapP {α β:Type}{F G:α->β->Prop}:∀{l₁:List α} {l₂:List β},Paired F l₁ l₂->(∀a b,F a b->G a b)->Paired G l₁ l₂
 | _,_,.nil,_=>.nil
 | _,_,.cons r t,f=>.cons (f _ _ r) (Paired.mapP t f)
theorem ObjOk.stay (x:ObjOk P w H h a o)(k:∀b u,(b=a\/H b=some (.own a))->h.get? b=some u->h'.get? b=some u)
  (ho:∀b,H b=some (.own a)->H' b=some (.own a)) (ht:∀b xs,H b=some (.tup xs)->H' b=some (.tup xs)):ObjOk P w H' h' a o:=by
 induction o with
 | lst xs=>obtain⟨z,its,n,r,e⟩:=x;exact⟨z,its,n,r,k _ _ (.inl rfl) e⟩
 | tup xs=>obtain⟨z,its,r,ob,e,c⟩:=x;exact⟨z,its,r,ob,k _ _ (.inl rfl) e,c⟩
 | dK kvs=>obtain⟨z,y,vs,r,ob,es,ep,e,c⟩:=x;exact⟨z,y,vs,r,ob,es,ep,k _ _ (.inl rfl) e,c⟩
 | dT kvs =>
  obtain⟨z,y,xs,r,ob,es,ep,e,c⟩:=x
  exact⟨z,y,xs,Paired.mapP r fun p q z=>⟨z.1,ht _ _ z.2.1,z.2.2⟩,ob,es,ep,k _ _ (.inl rfl) e,c⟩
 | set S n=>obtain⟨ob,es,ep,t,e,c⟩:=x;exact⟨ob,es,ep,t,k _ _ (.inl rfl) e,c⟩
 | ins C dx fs =>
  obtain⟨d,z,ne,e,mA,⟨od,es,ep,e2,c⟩,r⟩:=x
  exact⟨ho _ d,z,ne,k _ _ (.inl rfl) e,mA,⟨od,es,ep,k _ _ (.inr d) e2,c⟩,r⟩
 | own y=>obtain⟨ob,e⟩:=x;exact⟨ob,k _ _ (.inl rfl) e⟩
 | xd fs=>obtain⟨mA,⟨od,es,ep,e,c⟩,r⟩:=x;exact⟨mA,⟨od,es,ep,k _ _ (.inl rfl) e,c⟩,r⟩
 | rng lo hi=>obtain⟨t,u,v,e⟩:=x;exact⟨t,u,v,k _ _ (.inl rfl) e⟩
 | frz ob u ih=>obtain⟨e,q⟩:=x;exact⟨k _ _ (.inl rfl) e,ih q⟩
 | tbl ps =>
  have e:h.get? a=some { cls:=.none,data:=.fields ps }:=x
  show h'.get? a=some { cls:=.none,data:=.fields ps }
  exact k a _ (.inl rfl) e
 | met f y =>
  have e:h.get? a=some (PySem.W.methodObj (.ref f) (.ref y)):=x
  show h'.get? a=some (PySem.W.methodObj (.ref f) (.ref y))
  exact k a _ (.inl rfl) e
 | ext φ=>obtain⟨p,⟨o,e⟩,st⟩:=x;exact⟨st _ _ p fun o q=>k _ _ (.inl rfl) q,⟨o,k _ _ (.inl rfl) e⟩,st⟩
theorem HOk.lt (x:HOk P w H h)(e:H a=some o):a<h.objs.size:=(x a o e).lt
theorem HOk.fresh (x:HOk P w H h)(e:h.objs.size<=a):H a=none:=by
 cases q:H a with
 | none=>rfl
 | some u=>exact absurd (Nat.lt_of_lt_of_le (x.lt q) e) (Nat.lt_irrefl _)
theorem HOk.kept (x:HOk P w H h)(k:∀b u,h.get? b=some u->h'.get? b=some u):HOk P w H h':=fun a o e =>
 (x a o e).stay (fun b u _ q=>k b u q) (fun _ q=>q) fun _ _ q=>q
theorem HOk.laid (x:HOk P w H h)(k:∀b u,h.get? b=some u->h'.get? b=some u)(hp:h.objs.size<=a)(new:ObjOk P w (upd H a o) h' a o):HOk P w (upd H a o) h':=fun b u e=>by
 have hn:=x.fresh hp
 by_cases hb:b=a
 ·subst hb;rw[zah]at e;cases e;exact new
 ·rw[zai hb]at e
  exact (x b u e).stay (fun c v _ q=>k c v q) (fun c q=>by rw[zai (zbe q hn)];exact q) fun c xs q=>by rw[zai (zbe q hn)];exact q
end
noncomputable def Rd (H:Hp)(a:Addr)(u:HO):Prop:=H a=some u\/∃o,H a=some (.frz o u)
theorem Rd.ok {P:Program}{w:World}{H:Hp}{h:Heap}{a:Addr}{u:HO}(r:Rd H a u)(x:HOk P w H h):ObjOk P w H h a u:=by
 rcases r with r | ⟨o,r⟩
 ·exact x a u r
 ·obtain⟨_,q⟩:=x a _ r
  exact q
noncomputable def Mut:Option HO->Prop
 | some (.lst _)=>True
 | some (.dK _)=>True
 | some (.dT _)=>True
 | some (.set _ _)=>True
 | some (.ins _ _ _)=>True
 | some (.ext _)=>True
 | _=>False
section
variable {P:Program}{w:World}{H:Hp}{h h':Heap}{x e:Addr}{o':HO}
theorem HOk.write (ok:HOk P w H h)(mu:Mut (H x))(he:e=x\/H e=some (.own x))(k:∀b u,b≠e->h.get? b=some u->h'.get? b=some u)(heo:∃u,h'.get? e=some u)
  (new:ObjOk P w (upd H x o') h' x o'):HOk P w (upd H x o') h':=fun b u q=>by
 have nown:∀c y,H c=some (.own y)->c≠x:=fun c y r z=>by subst z;rw[r]at mu;exact mu
 have ntup:∀c xs,H c=some (.tup xs)->c≠x:=fun c xs r z=>by subst z;rw[r]at mu;exact mu
 by_cases hb:b=x
 ·subst hb;rw[zah]at q;cases q;exact new
 ·rw[zai hb]at q
  by_cases hbe:b=e
  ·have q':H b=some (.own x):=by
    rcases he with z | z
    ·exact absurd (hbe.trans z) hb
    ·rw[hbe];exact z
   rw[q]at q';cases q'
   obtain⟨v,hv⟩:=heo
   exact⟨v,by rw[hbe];exact hv⟩
  ·refine (ok b u q).stay (fun c v hc r=>k c v ?_ r) (fun c r=>by rw[zai (nown c b r)];exact r) fun c xs r=>by rw[zai (ntup c xs r)];exact r
   rcases hc with rfl | hc
   ·exact hbe
   ·rintro rfl
    rcases he with z | z
    ·exact nown c b hc z
    ·rw[hc]at z;cases z;exact hb rfl
end
structure Un (fs ex:List Addr)(H H':Hp)(h h':Heap):Prop where
 keep:∀b o,h.get? b=some o->H b=none->b∉fs->b∉ex->h'.get? b=some o
 slot:∀b o,h.get? b=some o->H b=none->b∈fs->b∉ex->∃sl,h'.get? b=some { o with slots:=sl }
 free:∀b o,h.get? b=some o->H b=none->b∉ex->H' b=none
 there:∀b o,h.get? b=some o->b∉ex->∃o',h'.get? b=some o'
 tups:∀b xs,H b=some (.tup xs)->H' b=some (.tup xs)
 frzs:∀b o u,H b=some (.frz o u)->H' b=some (.frz o u)
 tbls:∀b ps,H b=some (.tbl ps)->∃more,H' b=some (.tbl (ps++more))
section
variable {fs fs' ex ex':List Addr}{H H1 H2:Hp}{h h1 h2 h':Heap}{a x e:Addr}{o:HO}
theorem Un.any (u:Un fs ex H H1 h h1){b:Addr}{ob:Obj}(q:h.get? b=some ob)(n:H b=none)(hx:b∉ex):∃sl,h1.get? b=some { ob with slots:=sl }:=by
 by_cases hb:b∈fs
 ·exact u.slot b ob q n hb hx
 ·exact⟨ob.slots,u.keep b ob q n hb hx⟩
theorem Un.kept (k:∀b u,h.get? b=some u->h'.get? b=some u):Un fs ex H H h h' :=
 ⟨fun b ob q _ _ _=>k b ob q,fun b ob q _ _ _=>⟨ob.slots,k b ob q⟩,fun _ _ _ n _=>n,fun b ob q _=>⟨ob,k b ob q⟩,fun _ _ q=>q,fun _ _ _ q=>q,fun _ ps q=>⟨#[],by rw[q];simp⟩⟩
theorem Un.refl:Un fs ex H H h h:=Un.kept fun _ _ q=>q
theorem Un.laid (k:∀b u,h.get? b=some u->h'.get? b=some u)(hp:h.objs.size<=a)(hn:H a=none):Un fs ex H (upd H a o) h h' where
 keep:=fun b u q _ _ _=>k b u q
 slot:=fun b u q _ _ _=>⟨u.slots,k b u q⟩
 free:=fun b u q n _=>by rw[zai (Nat.ne_of_lt (Nat.lt_of_lt_of_le (Heap.lt_size q) hp))];exact n
 there:=fun b u q _=>⟨u,k b u q⟩
 tups:=fun b xs q=>by rw[zai (zbe q hn)];exact q
 frzs:=fun b u xs q=>by rw[zai (zbe q hn)];exact q
 tbls:=fun b ps q=>⟨#[],by rw[zai (zbe q hn),q];simp⟩
theorem Un.write (mu:Mut (H x))(he:e=x\/H e=some (.own x))(k:∀b u,b≠e->h.get? b=some u->h'.get? b=some u)(heo:∃u,h'.get? e=some u):Un fs ex H (upd H x o) h h':=by
 have hx:∀b,H b=none->b≠x:=fun b n z=>by subst z;rw[n]at mu;exact mu
 have hb:∀b,H b=none->b≠e:=fun b n z=>by
  subst z
  rcases he with r | r
  ·exact hx b n r
  ·rw[n]at r;cases r
 have hm:∀b u,H b=some u->¬ Mut (some u)->b≠x:=fun b u q nm z=>by subst z;rw[q]at mu;exact nm mu
 refine⟨fun b u q n _ _=>k b u (hb b n) q,fun b u q n _ _=>⟨u.slots,k b u (hb b n) q⟩,fun b u q n _=>by rw[zai (hx b n)];exact n,fun b u q _=>?_,
  fun b xs q=>by rw[zai (hm b _ q fun z=>z)];exact q,fun b u xs q=>by rw[zai (hm b _ q fun z=>z)];exact q,fun b ps q=>⟨#[],by rw[zai (hm b _ q fun z=>z),q];simp⟩⟩
 by_cases hbe:b=e
 ·subst hbe;exact heo
 ·exact⟨u,k b u hbe q⟩
end
noncomputable def trk (h:Heap)(H:Hp):List Addr:=(List.range h.objs.size).filter fun a=>(H a).isSome
noncomputable def hidT (h:Heap)(H:Hp):Heap:=PySem.W.hideAll h (trk h H)
theorem zio (h:Heap)(H:Hp):(hidT h H).objs.size=h.objs.size:=PySem.W.hideAll_size _ _
theorem zll {h:Heap}{H:Hp}{b:Addr}{o:Obj}(e:h.get? b=some o)(n:H b=none):(hidT h H).get? b=some o :=
 PySem.W.hideAll_get _ e fun hm=>by
  have q:(H b).isSome=true:=(List.mem_filter.mp hm).2
  rw[n]at q;simp at q
theorem of_hidT {h:Heap}{H:Hp}{b:Addr}{o:Obj}(e:(hidT h H).get? b=some o):h.get? b=some o/\H b=none:=by
 have e':h.get? b=some o:=PySem.W.of_hideAll (trk h H) e
 refine⟨e',?_⟩
 cases q:H b with
 | none=>rfl
 | some x =>
  have hm:b∈trk h H:=List.mem_filter.mpr ⟨List.mem_range.mpr (Heap.lt_size e'),by simp[q]⟩
  have z:(hidT h H).get? b=none:=PySem.W.hideAll_none (trk h H) hm
  rw[z]at e;cases e
noncomputable def allNews (g h:Heap)(L:Addr):List (Addr×Obj):=(List.range h.objs.size).filterMap fun a=>if a=L\/(g.get? a).isSome=true then none else (h.get? a).map fun o=>(a,o)
noncomputable def rest (g h:Heap)(L d:Addr):List (Addr×Obj):=(allNews g h L).filter fun p=>decide (p.1≠d)
end L2
namespace L2
open PySem PySem.Spec PyProof.Rows
structure Mod (K:PySem.W.Frag)(mg:Str->Option Value)(base:Heap):Prop where
 kin:K.In base
 glob:base.Ns mainGlobals mg
 blt:∃mb,base.Ns builtinsNs mb/\∀x:Str,x ≠ "__name__"->mb x=bootBuiltins x
 nolimit:base.NoLimit
structure Cx where
 prog:Program
 w:World
 K:PySem.W.Frag
 mg:Str->Option Value
 base:Heap
 A:Around
 N:List Str
 s₀:Shared
 H₀:Hp
 env:Env
 outer:List Env
 stack:List Env
 ex:List Addr
 fn:Str->Bool
 calm:Bool
 pn:List (Addr×Obj)
 xe:Value->Shared->Prop
noncomputable def frs (l:List Env):List Addr:=l.filterMap (·.frame)
noncomputable abbrev Cx.fs (X:Cx):List Addr:=frs X.outer
noncomputable def Vis (sc:Scope)(x:Str):Prop:=sc.names.lookup x=some .local\/sc.names.lookup x=some .cell\/sc.names.lookup x=some .free
noncomputable def Loc (sc:Scope)(x:Str):Prop:=sc.names.lookup x=some .local\/sc.names.lookup x=some .cell
noncomputable def Look (env:Env)(h:Heap)(m:Str->Option Value)(x:Str)(u:Value):Prop :=
 (env.kindOf x=some .local/\m x=some u)\/((env.kindOf x=some .cell\/env.kindOf x=some .free)/\∃c,env.cells.lookup x=some c/\h.IsCell c (some u))
structure Cx.Ok (X:Cx):Prop where
 mod:Mod X.K X.mg X.base
 kind:X.env.scope.kind=.function
 glob:X.env.globals=mainGlobals
 blt:X.env.builtins=builtinsNs
 above:X.s₀.heap.objs.size<=X.env.locals
 inj:∀x y c,X.env.cells.lookup x=some c->X.env.cells.lookup y=some c->x=y
 has:∀x,(X.env.kindOf x=some .cell\/X.env.kindOf x=some .free)->∃c,X.env.cells.lookup x=some c
 cab:∀x c,X.fn x=true->X.env.cells.lookup x=some c->X.s₀.heap.objs.size<=c
 hd:X.calm=true->X.A.handled=none
 frames:X.A.frames=some X.stack
 stk:X.stack=X.outer\/(X.stack=X.env::X.outer/\X.env.frame=some X.env.locals)
 exf:∀b∈X.ex,b≠X.env.locals/\∀x c,X.env.cells.lookup x=some c->c≠b
 bs:∀b o,X.base.get? b=some o->X.s₀.heap.get? b=some o/\X.H₀ b=none
 bsz:X.base.objs.size<=X.s₀.heap.objs.size
 noex:∀b o,X.base.get? b=some o->b∉X.ex
 exfs:∀b∈X.ex,b∉X.fs
 funs:X.s₀.heap.FunFrames X.base X.outer
 frf:∀b∈X.fs,X.H₀ b=none
structure Inv (X:Cx)(pins:List (Addr×Obj))(σ:List (Option V))(H:Hp)(s:Shared):Prop where
 ok:X.Ok
 os:s.os=X.s₀.os
 bare:AllBare s.gens
 base:Un X.fs X.ex X.H₀ H X.s₀.heap s.heap
 loc:∃m,s.heap.Ns X.env.locals m/\∀(i:Nat) (x:Str) (v:V),X.N[i]? = some x->σ[i]? = some (some v)->Vis X.env.scope x->∃u,RelV v u/\Look X.env s.heap m x u
 cell:∀x c,X.env.cells.lookup x=some c->∃v,s.heap.IsCell c v
 free:H X.env.locals=none
 freeC:∀x c,X.env.cells.lookup x=some c->H c=none
 pin:∀p∈X.pn++pins,s.heap.get? p.1=some p.2/\H p.1=none/\p.1≠X.env.locals/\p.1∉X.fs/\∀v,p.2.data≠.cell v
 hok:HOk X.prog X.w H s.heap
 len:σ.length=X.N.length
section
variable {X:Cx}{pins:List (Addr×Obj)}{σ:List (Option V)}{H H':Hp}{s:Shared}{h':Heap}
theorem Cx.Ok.nofr (ok:X.Ok){b:Addr}{o:Obj}(e:X.base.get? b=some o):b∉X.fs:=fun hb=>by
 have:=(ok.funs.mem hb).1
 rw[e]at this;cases this
theorem Inv.bs (I:Inv X pins σ H s):∀b o,X.base.get? b=some o->s.heap.get? b=some o/\H b=none:=fun b o e =>
 ⟨I.base.keep b o (I.ok.bs b o e).1 (I.ok.bs b o e).2 (I.ok.nofr e) (I.ok.noex b o e),I.base.free b o (I.ok.bs b o e).1 (I.ok.bs b o e).2 (I.ok.noex b o e)⟩
theorem Inv.bk (I:Inv X pins σ H s):∀b o,X.base.get? b=some o->s.heap.get? b=some o:=fun b o e=>(I.bs b o e).1
theorem Inv.mod (I:Inv X pins σ H s):Mod X.K X.mg X.base:=I.ok.mod
theorem Inv.kIn (I:Inv X pins σ H s):X.K.In s.heap:=I.ok.mod.kin.keeps I.bk
theorem Inv.fr (I:Inv X pins σ H s):∃m,Fr X.base X.env.locals s.heap m :=
 let ⟨m,hn,_⟩:=I.loc
 ⟨m,hn,I.bk,Nat.le_trans I.ok.bsz I.ok.above⟩
theorem Inv.lt (I:Inv X pins σ H s):X.env.locals<s.heap.objs.size:=let ⟨_,hn,_⟩:=I.loc;hn.lt
theorem Inv.sz (I:Inv X pins σ H s):X.s₀.heap.objs.size<=s.heap.objs.size:=Nat.le_trans I.ok.above (Nat.le_of_lt I.lt)
theorem Inv.nofs (I:Inv X pins σ H s){a:Addr}(h:s.heap.objs.size<=a):a∉X.fs:=fun hb=>by
 obtain⟨_,o,ho,_⟩:=I.ok.funs.mem hb
 exact absurd (Nat.lt_of_lt_of_le (Heap.lt_size ho) (Nat.le_trans I.sz h)) (Nat.lt_irrefl _)
theorem Inv.cne (I:Inv X pins σ H s):∀x c,X.env.cells.lookup x=some c->c≠X.env.locals:=fun x c e z=>by
 obtain⟨v,o,ho,hd⟩:=I.cell x c e
 obtain⟨m,⟨o',es,ep,ho',hd',_⟩,_⟩:=I.loc
 rw[z,ho']at ho;cases ho;rw[hd']at hd;cases hd
theorem Inv.funs (I:Inv X pins σ H s):s.heap.FunFrames X.base X.outer:=by
 have all:∀(l:List Env),(∀b∈frs l,b∈X.fs)->X.s₀.heap.FunFrames X.base l->s.heap.FunFrames X.base l:=by
  intro l
  induction l with
  | nil=>intro _ _;trivial
  | cons env r ih =>
   intro hs hl
   obtain⟨hk,⟨L,o,hf,hn,ho,hd⟩,hr⟩:=hl
   have hL:L∈X.fs:=hs L (by unfold frs;rw[List.filterMap_cons,hf];exact List.mem_cons_self)
   obtain⟨sl,e⟩:=I.base.slot L o ho (I.ok.frf L hL) hL fun z=>I.ok.exfs L z hL
   exact⟨hk,⟨L,_,hf,hn,e,hd⟩,ih (fun b hb=>hs b (by unfold frs;rw[List.filterMap_cons,hf];exact List.mem_cons_of_mem _ hb)) hr⟩
 exact all X.outer (fun _ hb=>hb) I.ok.funs
theorem Inv.stack (I:Inv X pins σ H s):s.heap.FunFrames X.base X.stack:=by
 rcases I.ok.stk with e | ⟨e,hf⟩
 ·rw[e];exact I.funs
 ·rw[e]
  obtain⟨m,hn,_⟩:=I.loc
  refine .cons (by rw[I.ok.kind];decide) hf hn ?_ I.funs
  exact Heap.get?_none_of_le (Nat.le_trans I.ok.bsz I.ok.above)
theorem Inv.stkSub (I:Inv X pins σ H s):∀b∈frs X.stack,b∈X.env.locals::X.fs:=fun b hb=>by
 rcases I.ok.stk with e | ⟨e,hf⟩
 ·rw[e]at hb;exact List.mem_cons_of_mem _ hb
 ·rw[e]at hb
  unfold frs at hb
  rw[List.filterMap_cons,hf]at hb
  exact hb
theorem Inv.stkFree (I:Inv X pins σ H s):∀b∈frs X.stack,H b=none:=fun b hb=>by
 rcases List.mem_cons.mp (I.stkSub b hb) with e | hb
 ·rw[e];exact I.free
 ·obtain⟨_,o,ho,_⟩:=I.ok.funs.mem hb
  exact I.base.free b o ho (I.ok.frf b hb) fun z=>I.ok.exfs b z hb
theorem Inv.step {g':Array GenState}{t':Nat}{d':Drawn}{ch:List Addr}(I:Inv X pins σ H s)
  (hch:∀b∈ch,(b∈X.ex\/X.s₀.heap.objs.size<=b)/\b≠X.env.locals/\(∀x c,X.env.cells.lookup x=some c->c≠b)/\∀p∈X.pn++pins,p.1≠b)
  (keep:∀b o,b≠X.env.locals->b∉X.fs->b∉ch->s.heap.get? b=some o->H b=none->h'.get? b=some o)
  (slot:∀b o,b≠X.env.locals->b∈X.fs->b∉ch->s.heap.get? b=some o->H b=none->∃sl,h'.get? b=some { o with slots:=sl }) (free:∀b o,b∉ch->s.heap.get? b=some o->H b=none->H' b=none)
  (there:∀b o,b∉ch->s.heap.get? b=some o->∃o',h'.get? b=some o')
  (tups:∀b xs,H b=some (.tup xs)->H' b=some (.tup xs)) (frzs:∀b o u,H b=some (.frz o u)->H' b=some (.frz o u)) (tbls:∀b ps,H b=some (.tbl ps)->∃more,H' b=some (.tbl (ps++more)))
  (ns:∀m,s.heap.Ns X.env.locals m->h'.Ns X.env.locals m) (hok:HOk X.prog X.w H' h') (hg:AllBare g') :
  Inv X pins σ H' { s with heap:=h',gens:=g',drawn:=d',toks:=t' }:=by
 have neL:∀b o,X.s₀.heap.get? b=some o->b≠X.env.locals:=fun b o e=>Nat.ne_of_lt (Nat.lt_of_lt_of_le (Heap.lt_size e) I.ok.above)
 have neC:∀b o,X.s₀.heap.get? b=some o->b∉X.ex->b∉ch:=fun b o e hx hb=>by
  rcases (hch b hb).1 with z | z
  ·exact hx z
  ·exact absurd (Nat.lt_of_lt_of_le (Heap.lt_size e) z) (Nat.lt_irrefl _)
 have cellK:∀x c,X.env.cells.lookup x=some c->∀v,s.heap.IsCell c v->h'.IsCell c v:=fun x c e v zz=>by
  obtain⟨o,ho,hd⟩:=zz
  have nch:c∉ch:=fun z=>(hch c z).2.2.1 x c e rfl
  by_cases hc:c∈X.fs
  ·obtain⟨sl,q⟩:=slot c o (I.cne x c e) hc nch ho (I.freeC x c e)
   exact⟨_,q,hd⟩
  ·exact⟨o,keep c o (I.cne x c e) hc nch ho (I.freeC x c e),hd⟩
 refine⟨I.ok,I.os,hg,⟨fun b o e n hb hx=>?_,fun b o e n hb hx=>?_,fun b o e n hx=>?_,fun b o e hx=>?_,fun b xs e=>tups b xs (I.base.tups b xs e),fun b o xs e=>frzs b o xs (I.base.frzs b o xs e),fun b ps e=>?_⟩,?_,fun x c e=>?_,?_,fun x c e=>?_,fun p hp=>?_,hok,I.len⟩
 ·exact keep b o (neL b o e) hb (neC b o e hx) (I.base.keep b o e n hb hx) (I.base.free b o e n hx)
 ·obtain⟨sl,e1⟩:=I.base.slot b o e n hb hx
  obtain⟨sl',e2⟩:=slot b _ (neL b o e) hb (neC b o e hx) e1 (I.base.free b o e n hx)
  exact⟨sl',e2⟩
 ·obtain⟨o',e1⟩:=I.base.there b o e hx
  exact free b o' (neC b o e hx) e1 (I.base.free b o e n hx)
 ·obtain⟨o',e1⟩:=I.base.there b o e hx
  exact there b o' (neC b o e hx) e1
 ·obtain⟨m1,e1⟩:=I.base.tbls b ps e
  obtain⟨m2,e2⟩:=tbls b _ e1
  exact⟨m1++m2,by rw[e2,Array.append_assoc]⟩
 ·obtain⟨m,hn,hl⟩:=I.loc
  refine⟨m,ns m hn,fun i x v e1 e2 e3=>?_⟩
  obtain⟨u,r,l⟩:=hl i x v e1 e2 e3
  refine⟨u,r,?_⟩
  rcases l with l | ⟨k,c,e,z⟩
  ·exact .inl l
  ·exact .inr ⟨k,c,e,cellK x c e _ z⟩
 ·obtain⟨v,z⟩:=I.cell x c e
  exact⟨v,cellK x c e v z⟩
 ·obtain⟨m,⟨o,_,_,ho,_⟩,_⟩:=I.loc
  exact free _ o (fun z=>(hch _ z).2.1 rfl) ho I.free
 ·obtain⟨v,o,ho,hd⟩:=I.cell x c e
  exact free c o (fun z=>(hch c z).2.2.1 x c e rfl) ho (I.freeC x c e)
 ·obtain⟨e,n,ne,nf,d⟩:=I.pin p hp
  have nch:p.1∉ch:=fun z=>(hch p.1 z).2.2.2 p hp rfl
  exact⟨keep p.1 p.2 ne nf nch e n,free p.1 p.2 nch e n,ne,nf,d⟩
theorem Inv.un {t':Nat}(I:Inv X pins σ H s)(u:Un X.fs [] H H' s.heap h')(hok:HOk X.prog X.w H' h'):Inv X pins σ H' { s with heap:=h',toks:=t' }:=by
 obtain⟨m,⟨o,es,ep,ho,r⟩,_⟩:=id I.loc
 obtain⟨sl,hL⟩:=u.any ho I.free (by simp)
 exact I.step (g':=s.gens) (d':=s.drawn) (ch:=[]) (fun _ z=>nomatch z) (fun b o _ hb _ e n=>u.keep b o e n hb (by simp)) (fun b o _ hb _ e n=>u.slot b o e n hb (by simp)) (fun b o _ e n=>u.free b o e n (by simp)) (fun b o _ e=>u.there b o e (by simp)) u.tups u.frzs u.tbls (fun m' hm=>by
  obtain⟨o',es',ep',ho',r'⟩:=hm
  rw[ho]at ho';cases ho'
  exact⟨_,es',ep',hL,r'⟩) hok I.bare
theorem Inv.call {g':Array GenState}{t':Nat}{d':Drawn}{ch:List Addr}(I:Inv X pins σ H s)(u:Un (frs X.stack) ch H H' s.heap h')(hok:HOk X.prog X.w H' h')(hg:AllBare g')
  (hch:∀b∈ch,(b∈X.ex\/X.s₀.heap.objs.size<=b)/\b≠X.env.locals/\(∀x c,X.env.cells.lookup x=some c->c≠b)/\∀p∈X.pn++pins,p.1≠b) :
  Inv X pins σ H' { s with heap:=h',gens:=g',drawn:=d',toks:=t' }:=by
 obtain⟨m,⟨o,es,ep,ho,r⟩,_⟩:=id I.loc
 obtain⟨sl,hL⟩:=u.any ho I.free fun z=>(hch _ z).2.1 rfl
 exact I.step (ch:=ch) hch (fun b o hL hb hc e n=>u.keep b o e n (fun z=>(List.mem_cons.mp (I.stkSub b z)).elim hL hb) hc) (fun b o _ _ hc e n=>u.any e n hc) (fun b o hc e n=>u.free b o e n hc) (fun b o hc e=>u.there b o e hc) u.tups u.frzs u.tbls (fun m' hm=>by
  obtain⟨o',es',ep',ho',r'⟩:=hm
  rw[ho]at ho';cases ho'
  exact⟨_,es',ep',hL,r'⟩) hok hg
theorem Inv.turned {t':Nat}{it:Addr}(I:Inv X pins σ H s)(k:∀b o,b≠it->s.heap.get? b=some o->h'.get? b=some o)(hn:H it=none)(hL:it≠X.env.locals)
  (h1:it∈X.ex\/X.s₀.heap.objs.size<=it) (h2:∀x c,X.env.cells.lookup x=some c->c≠it) (h3:∀p∈X.pn++pins,p.1≠it):Inv X pins σ H { s with heap:=h',toks:=t' }:=by
 have nit:∀b u,H b=some u->b≠it:=fun b u e z=>by rw[z,hn]at e;cases e
 refine I.step (g':=s.gens) (d':=s.drawn) (ch:=[it]) (fun b hb=>?_) (fun b o _ _ hc e _=>k b o (fun z=>hc (by simp[z])) e) (fun b o _ _ hc e _=>⟨o.slots,k b o (fun z=>hc (by simp[z])) e⟩) (fun _ _ _ _ n=>n)
  (fun b o hc e=>⟨o,k b o (fun z=>hc (by simp[z])) e⟩) (fun _ _ e=>e) (fun _ _ _ e=>e) (fun b ps e=>⟨#[],by rw[e];simp⟩) (fun m hm=>?_) (fun b u e=>?_) I.bare
 ·have e:b=it:=by simpa using hb
  subst e
  exact⟨h1,hL,h2,h3⟩
 ·obtain⟨o,es,ep,ho,r⟩:=hm
  exact⟨o,es,ep,k _ o (Ne.symm hL) ho,r⟩
 ·refine (I.hok b u e).stay (fun c v hc q=>k c v ?_ q) (fun _ q=>q) fun _ _ q=>q
  rcases hc with z | z
  ·rw[z];exact nit b u e
  ·exact nit c _ z
theorem Inv.tok (I:Inv X pins σ H s)(t:Nat):Inv X pins σ H { s with toks:=t }:=I.un (h':=s.heap) (t':=t) Un.refl I.hok
theorem Inv.kept {t':Nat}(I:Inv X pins σ H s)(k:∀b u,s.heap.get? b=some u->h'.get? b=some u):Inv X pins σ H { s with heap:=h',toks:=t' }:=I.un (Un.kept k) (I.hok.kept k)
theorem Inv.laid {a:Addr}{o:HO}{t':Nat}(I:Inv X pins σ H s)(k:∀b u,s.heap.get? b=some u->h'.get? b=some u)(hp:s.heap.objs.size<=a)(new:ObjOk X.prog X.w (upd H a o) h' a o) :
  Inv X pins σ (upd H a o) { s with heap:=h',toks:=t' }:=I.un (Un.laid k hp (I.hok.fresh hp)) (I.hok.laid k hp new)
theorem Inv.write {x e:Addr}{o:HO}{t':Nat}(I:Inv X pins σ H s)(mu:Mut (H x))(he:e=x\/H e=some (.own x))(k:∀b u,b≠e->s.heap.get? b=some u->h'.get? b=some u)(heo:∃u,h'.get? e=some u)
  (new:ObjOk X.prog X.w (upd H x o) h' x o):Inv X pins σ (upd H x o) { s with heap:=h',toks:=t' }:=I.un (Un.write mu he k heo) (I.hok.write mu he k heo new)
theorem Inv.pins_of {pins':List (Addr×Obj)}(I:Inv X pins σ H s)(h:∀p∈pins',s.heap.get? p.1=some p.2/\H p.1=none/\p.1≠X.env.locals/\p.1∉X.fs/\∀v,p.2.data≠.cell v):Inv X pins' σ H s :=
 ⟨I.ok,I.os,I.bare,I.base,I.loc,I.cell,I.free,I.freeC,fun p hp=>(List.mem_append.mp hp).elim (fun z=>I.pin p (List.mem_append_left _ z)) (h p),I.hok,I.len⟩
theorem zig {N:List Str}(hN:N.Nodup){i j:Nat}{x:Str}(a:N[i]? = some x)(b:N[j]? = some x):i=j:=by
 obtain⟨h1,e1⟩:=List.getElem?_eq_some_iff.mp a
 obtain⟨h2,e2⟩:=List.getElem?_eq_some_iff.mp b
 exact (List.getElem_inj hN).mp (e1.trans e2.symm)
theorem ziy {M:Model}{A:Around}{E:Value->Shared->Prop}{i:Nat}{x:Str}{v:V}{u:Value}{Q:Unit->Shared->Prop}(I:Inv X pins σ H s)(hN:X.N.Nodup)(hi:X.N[i]? = some x)(hx:Loc X.env.scope x)(r:RelV v u)
  (h:∀s',Inv X pins (σ.set i (some v)) H s'->(∃a,Heap.SameBut a s.heap s'.heap/\(a=X.env.locals\/X.env.cells.lookup x=some a))->Q () s') (hf:X.fn x=true\/X.env.scope.names.lookup x=some .local:=by first | exact .inl rfl | exact .inr rfl | assumption):wpAny M A (storeName X.env x u) Q E s:=by
 obtain⟨m,hn,hl⟩:=id I.loc
 have hcls:(X.env.scope.kind == .class || (X.env.scope.kind == .module && X.env.locals != X.env.globals))=false:=by rw[I.ok.kind];rfl
 have hiσ:i<σ.length:=by rw[I.len];exact (List.getElem?_eq_some_iff.mp hi).1
 have cne:=I.cne
 have tracked:∀{a:Addr} {h':Heap},(∃o,s.heap.get? a=some o/\H a=none)->Heap.SameBut a s.heap h'->HOk X.prog X.w H h':=fun {a h'} ha hs b ob e=>by
  obtain⟨_,_,hfree⟩:=ha
  refine (I.hok b ob e).stay (fun c w' hc q=>(hs.2 c ?_).trans q) (fun _ q=>q) fun _ _ q=>q
  rintro rfl
  rcases hc with rfl | hc
  ·rw[hfree]at e;cases e
  ·rw[hfree]at hc;cases hc
 rcases hx with hk | hk
 ·refine wpAny_storeName_local hk hn (fun h' hn' hs=>?_) hcls
  obtain⟨oL,_,_,hoL,_⟩:=id hn
  refine h _ ⟨I.ok,I.os,I.bare,⟨fun b o e n hb hx=>?_,fun b o e n hb hx=>?_,I.base.free,fun b o e hx=>?_,I.base.tups,I.base.frzs,I.base.tbls⟩,⟨_,hn',fun j y v' e1 e2 e3=>?_⟩,fun y c e=>?_,I.free,I.freeC,fun p hp=>?_,tracked ⟨oL,hoL,I.free⟩ hs,by simpa using I.len⟩ ⟨_,hs,.inl rfl⟩
  ·exact (hs.2 b (Nat.ne_of_lt (Nat.lt_of_lt_of_le (Heap.lt_size e) I.ok.above))).trans (I.base.keep b o e n hb hx)
  ·obtain⟨sl,e1⟩:=I.base.slot b o e n hb hx
   exact⟨sl,(hs.2 b (Nat.ne_of_lt (Nat.lt_of_lt_of_le (Heap.lt_size e) I.ok.above))).trans e1⟩
  ·obtain⟨o',e1⟩:=I.base.there b o e hx
   exact⟨o',(hs.2 b (Nat.ne_of_lt (Nat.lt_of_lt_of_le (Heap.lt_size e) I.ok.above))).trans e1⟩
  ·by_cases hj:j=i
   ·subst hj
    rw[hi]at e1;cases e1
    rw[List.getElem?_set_self hiσ]at e2
    cases e2
    exact⟨u,r,.inl ⟨hk,by simp⟩⟩
   ·rw[List.getElem?_set_ne (Ne.symm hj)]at e2
    obtain⟨u',r',q⟩:=hl j y v' e1 e2 e3
    refine⟨u',r',?_⟩
    rcases q with⟨k,e⟩ | ⟨k,c,e,z⟩
    ·refine .inl ⟨k,?_⟩
     have:y≠x:=fun e=>hj (zig hN e1 (e ▸ hi))
     simp[this,e]
    ·exact .inr ⟨k,c,e,z.sameBut hs (cne y c e)⟩
  ·obtain⟨w',z⟩:=I.cell y c e
   exact⟨w',z.sameBut hs (cne y c e)⟩
  ·obtain⟨e,n,ne,nf,d⟩:=I.pin p hp
   exact⟨(hs.2 p.1 ne).trans e,n,ne,nf,d⟩
 ·have hfn:X.fn x=true:=by
   rcases hf with z | z
   ·exact z
   ·rw[z]at hk;cases hk
  obtain⟨c,hc⟩:=I.ok.has x (.inl hk)
  obtain⟨w',z⟩:=I.cell x c hc
  refine wpAny_storeName_cell I.ok.kind hk hc z (fun h' hc' hs=>?_)
  obtain⟨oc,hoc,hocd⟩:=id z
  refine h { s with heap:=h' } ⟨I.ok,I.os,I.bare,⟨fun b o e n hb hx=>?_,fun b o e n hb hx=>?_,I.base.free,fun b o e hx=>?_,I.base.tups,I.base.frzs,I.base.tbls⟩,⟨m,hn.sameBut hs (Ne.symm (cne x c hc)),fun j y v' e1 e2 e3=>?_⟩,fun y c' e=>?_,I.free,I.freeC,fun p hp=>?_,tracked ⟨oc,hoc,I.freeC x c hc⟩ hs,by simpa using I.len⟩ ⟨c,hs,.inr hc⟩
  ·exact (hs.2 b (Nat.ne_of_lt (Nat.lt_of_lt_of_le (Heap.lt_size e) (I.ok.cab x c hfn hc)))).trans (I.base.keep b o e n hb hx)
  ·obtain⟨sl,e1⟩:=I.base.slot b o e n hb hx
   exact⟨sl,(hs.2 b (Nat.ne_of_lt (Nat.lt_of_lt_of_le (Heap.lt_size e) (I.ok.cab x c hfn hc)))).trans e1⟩
  ·obtain⟨o',e1⟩:=I.base.there b o e hx
   exact⟨o',(hs.2 b (Nat.ne_of_lt (Nat.lt_of_lt_of_le (Heap.lt_size e) (I.ok.cab x c hfn hc)))).trans e1⟩
  ·by_cases hj:j=i
   ·subst hj
    rw[hi]at e1;cases e1
    rw[List.getElem?_set_self hiσ]at e2
    cases e2
    exact⟨u,r,.inr ⟨.inl hk,c,hc,hc'⟩⟩
   ·rw[List.getElem?_set_ne (Ne.symm hj)]at e2
    obtain⟨u',r',q⟩:=hl j y v' e1 e2 e3
    refine⟨u',r',?_⟩
    rcases q with q | ⟨k,c',e,z'⟩
    ·exact .inl q
    ·refine .inr ⟨k,c',e,z'.sameBut hs ?_⟩
     rintro rfl
     exact hj (zig hN e1 (I.ok.inj _ _ _ e hc ▸ hi))
  ·by_cases hcc:c'=c
   ·subst hcc;exact⟨_,hc'⟩
   ·obtain⟨w2,z2⟩:=I.cell y c' e
    exact⟨w2,z2.sameBut hs hcc⟩
  ·obtain⟨e,n,ne,nf,d⟩:=I.pin p hp
   refine⟨(hs.2 p.1 ?_).trans e,n,ne,nf,d⟩
   intro q
   rw[q,hoc]at e
   have q':oc=p.2:=Option.some.inj e
   exact d w' (by rw[<-q'];exact hocd)
theorem zid {M:Model}{A:Around}{E:Value->Shared->Prop}{i:Nat}{x:Str}{v:V}{u:Value}{Q:Unit->Shared->Prop}(I:Inv X pins σ H s)(hN:X.N.Nodup)(hi:X.N[i]? = some x)(hx:Loc X.env.scope x)(r:RelV v u)
  (h:∀s',Inv X pins (σ.set i (some v)) H s'->Q () s') (hf:X.fn x=true\/X.env.scope.names.lookup x=some .local:=by first | exact .inl rfl | exact .inr rfl | assumption):wpAny M A (storeName X.env x u) Q E s :=
 ziy I hN hi hx r (fun s' I' _=>h s' I') hf
theorem Inv.call' {s':Shared}{ch:List Addr}(I:Inv X pins σ H s)(ho:s'.os=s.os)(u:Un (frs X.stack) ch H H' s.heap s'.heap)(hok:HOk X.prog X.w H' s'.heap)(hg:AllBare s'.gens)
  (hch:∀b∈ch,(b∈X.ex\/X.s₀.heap.objs.size<=b)/\b≠X.env.locals/\(∀x c,X.env.cells.lookup x=some c->c≠b)/\∀p∈X.pn++pins,p.1≠b):Inv X pins σ H' s':=by
 obtain⟨h',g',d',t',o'⟩:=s'
 have e:o'=s.os:=ho
 subst e
 exact I.call (g':=g') (t':=t') (d':=d') u hok hg hch
end
noncomputable abbrev XK:=Value->Option Addr->Hp->Prop
noncomputable abbrev St:=List (Option V)
noncomputable abbrev VK:=V->Hp->Prop
noncomputable abbrev TE:=St->Hp->VK->Prop
noncomputable abbrev TT:=St->Hp->(Bool->Hp->Prop)->Prop
noncomputable abbrev TA:=St->Hp->(List V->Hp->Prop)->Prop
structure Ends where
 nx:St->Hp->Prop
 rt:VK
 bk:St->Hp->Prop:=fun _ _=>False
 ct:St->Hp->Prop:=fun _ _=>False
noncomputable abbrev TS:=Ends->St->Hp->Prop
noncomputable def EP (X:Cx)(pins:List (Addr×Obj))(σ:St)(Q:VK)(u:Value)(s':Shared):Prop:=∃v H',Inv X pins σ H' s'/\RelV v u/\Q v H'
noncomputable def TP (X:Cx)(pins:List (Addr×Obj))(σ:St)(Q:Bool->Hp->Prop)(b:Bool)(s':Shared):Prop:=∃H',Inv X pins σ H' s'/\Q b H'
noncomputable def AP (X:Cx)(pins:List (Addr×Obj))(σ:St)(Q:List V->Hp->Prop)(us:List Value)(s':Shared):Prop:=∃vs H',Inv X pins σ H' s'/\Vals vs us/\Q vs H'
noncomputable def SP (X:Cx)(pins:List (Addr×Obj))(D:Ends)(f:Flow)(s':Shared):Prop :=
 match f with
 | .next=>∃σ' H',Inv X pins σ' H' s'/\D.nx σ' H'
 | .brk=>∃σ' H',Inv X pins σ' H' s'/\D.bk σ' H'
 | .cont=>∃σ' H',Inv X pins σ' H' s'/\D.ct σ' H'
 | .ret u=>∃v σ' H',Inv X pins σ' H' s'/\RelV v u/\D.rt v H'
noncomputable def PE (X:Cx)(e:Expr)(t:TE):Prop :=
 ∀(pins:List (Addr×Obj)) (s:Shared) (σ:St) (H:Hp) (Q:VK),Inv X pins σ H s->t σ H Q->wpAny (model X.prog X.w) X.A (eval e X.env) (EP X pins σ Q) X.xe s
noncomputable def PT (X:Cx)(e:Expr)(t:TT):Prop :=
 ∀(pins:List (Addr×Obj)) (s:Shared) (σ:St) (H:Hp) (Q:Bool->Hp->Prop),Inv X pins σ H s->t σ H Q->wpAny (model X.prog X.w) X.A (isTrue e X.env (eval e X.env)) (TP X pins σ Q) X.xe s
noncomputable def PW (X:Cx)(e:Expr)(t:TT):Prop :=
 ∀(whole:Sem Value) (pins:List (Addr×Obj)) (s:Shared) (σ:St) (H:Hp) (Q:Bool->Hp->Prop),Inv X pins σ H s->t σ H Q->wpAny (model X.prog X.w) X.A (isTrue e X.env whole) (TP X pins σ Q) X.xe s
theorem PW.pt {X:Cx}{e:Expr}{t:TT}(h:PW X e t):PT X e t:=h _
noncomputable def PA (X:Cx)(es:List Expr)(t:TA):Prop :=
 ∀(pos:Pos) (pins:List (Addr×Obj)) (s:Shared) (σ:St) (H:Hp) (Q:List V->Hp->Prop),Inv X pins σ H s->t σ H Q->wpAny (model X.prog X.w) X.A (spliced (backTo pos (starEach es X.env))) (AP X pins σ Q) X.xe s
noncomputable def PS (X:Cx)(st:Stmt)(t:TS):Prop :=
 ∀(pins:List (Addr×Obj)) (s:Shared) (σ:St) (H:Hp) (D:Ends),Inv X pins σ H s->t D σ H->wpAny (model X.prog X.w) X.A (exec st X.env) (SP X pins D) X.xe s
noncomputable def PSs (X:Cx)(st:List Stmt)(t:TS):Prop :=
 ∀(pins:List (Addr×Obj)) (s:Shared) (σ:St) (H:Hp) (D:Ends),Inv X pins σ H s->t D σ H->wpAny (model X.prog X.w) X.A (execs st X.env) (SP X pins D) X.xe s
theorem thn {α:Type}{t:Sem α}{Q Q':α->Shared->Prop}{M:Model}{A:Around}{E:Value->Shared->Prop}{s:Shared}(h:wpAny M A t Q E s)(hQ:∀a s,Q a s->Q' a s):wpAny M A t Q' E s:=wpAny_mono h hQ fun _ _ x=>x
end L2
namespace L2
open PySem PySem.Spec PyProof.Rows
section
variable {X:Cx}
noncomputable def tVar (i:Nat):TE:=fun σ H Q=>∃v,σ[i]? = some (some v)/\Q v H
noncomputable def tC (v:V):TE:=fun _ H Q=>Q v H
theorem pe_var {i:Nat}{x:Str}{pos:Pos}(hN:X.N[i]? = some x)(hv:Vis X.env.scope x)(hd:(x==("__debug__":Str))=false:=by decide)(hcd:(x==("__classdict__":Str))=false:=by decide):PE X (.Name x pos) (tVar i):=by
 intro pins s σ H Q I h
 obtain⟨v,e,h⟩:=h
 obtain⟨m,hn,hl⟩:=I.loc
 obtain⟨u,r,l⟩:=hl i x v hN e hv
 have fin:EP X pins σ Q u s:=⟨v,H,I,r,h⟩
 rcases l with⟨hk,hm⟩ | ⟨hk,c,hc,hcell⟩
 ·exact wpAny_Name (wpAny_loadName_local I.ok.kind hk hn hm fin) hd
 ·rcases hk with hk | hk
  ·exact wpAny_Name (wpAny_loadName_cell I.ok.kind hk hc hcell fin) hd
  ·exact wpAny_Name (wpAny_loadName_free I.ok.kind hk hc hcell fin hcd) hd
theorem pe_int {i j pos}:PE X (.Constant (.int i) j pos) (tC (.int i)):=fun _ _ _ H _ I h=>wpAny_Constant_int ⟨.int i,H,I.tok _,⟨_,rfl⟩,h⟩
theorem pe_bl {b j pos}:PE X (.Constant (.bool b) j pos) (tC (.bl b)):=fun _ _ _ H _ I h=>Constant_bool ⟨.bl b,H,I,rfl,h⟩
theorem pe_non {j pos}:PE X (.Constant .none j pos) (tC .non):=fun _ _ _ H _ I h=>Constant_none ⟨.non,H,I,rfl,h⟩
theorem pe_str {x j pos}:PE X (.Constant (.str x) j pos) (tC (.str x)):=fun _ _ _ H _ I h=>Calls.Constant_str ⟨.str x,H,I.tok _,⟨_,rfl⟩,h⟩
noncomputable def Gl (X:Cx)(x:Str):Prop:=X.env.kindOf x=some .globalImplicit
theorem zga {E:Value->Shared->Prop}{pins:List (Addr×Obj)}{s:Shared}{σ:St}{H:Hp}{x:Str}{u:Value}{pos:Pos}{Q:Value->Shared->Prop}(I:Inv X pins σ H s)(hg:Gl X x)(hm:X.mg x=some u)(h:Q u s)
  (hd:(x==("__debug__":Str))=false:=by decide):wpAny (model X.prog X.w) X.A (eval (.Name x pos) X.env) Q E s :=
 Calls.Name_function_global I.ok.kind hg (Calls.loadGlobal_global (by rw[I.ok.glob];exact I.mod.glob.keeps I.bk) hm h) hd
theorem zhv {E:Value->Shared->Prop}{pins:List (Addr×Obj)}{s:Shared}{σ:St}{H:Hp}{x:Str}{u:Value}{pos:Pos}{Q:Value->Shared->Prop}(I:Inv X pins σ H s)(hg:Gl X x)(hm:X.mg x=none)(hv:bootBuiltins x=some u)(h:Q u s)
  (hn:x ≠ "__name__":=by decide) (hd:(x==("__debug__":Str))=false:=by decide):wpAny (model X.prog X.w) X.A (eval (.Name x pos) X.env) Q E s:=by
 obtain⟨mb,h1,h2⟩:=I.mod.blt
 exact Calls.Name_function_global I.ok.kind hg (Calls.loadGlobal_builtin (by rw[I.ok.glob];exact I.mod.glob.keeps I.bk) hm (by rw[I.ok.blt];exact h1.keeps I.bk) ((h2 x hn).trans hv) h) hd
theorem pe_glob {x:Str}{v:V}{u:Value}{pos:Pos}(hg:Gl X x)(hm:X.mg x=some u)(r:RelV v u)(hd:(x==("__debug__":Str))=false:=by decide):PE X (.Name x pos) (tC v) :=
 fun _ _ _ H _ I h=>zga I hg hm ⟨v,H,I,r,h⟩ hd
theorem pe_bltn {x:Str}{v:V}{u:Value}{pos:Pos}(hg:Gl X x)(hm:X.mg x=none)(hv:bootBuiltins x=some u)(r:RelV v u)(hn:x ≠ "__name__":=by decide)(hd:(x==("__debug__":Str))=false:=by decide):PE X (.Name x pos) (tC v) :=
 fun _ _ _ H _ I h=>zhv I hg hm hv ⟨v,H,I,r,h⟩ hn hd
variable {a b:Expr}{ta tb:TE}{pos:Pos}
variable {tA tB':TT}{rest:List Expr}
noncomputable def tAnd (t u:TT):TT:=fun σ H Q=>t σ H fun c H1=>if c=true then u σ H1 Q else Q false H1
noncomputable def tOr (t u:TT):TT:=fun σ H Q=>t σ H fun c H1=>if c=true then Q true H1 else u σ H1 Q
noncomputable def tNot (t:TT):TT:=fun σ H Q=>t σ H fun c H1=>Q (!c) H1
theorem pw_and1 (ha:PT X a tA):PW X (.BoolOp .And [a] pos) tA:=by
 intro wh pins s σ H Q I h
 refine isTrue_and (thn (ha pins s σ H Q I h) fun c s1 e=>?_)
 cases c with
 | true=>exact isTrue_and_nil e
 | false=>exact e
theorem pw_or1 (ha:PT X a tA):PW X (.BoolOp .Or [a] pos) tA:=by
 intro wh pins s σ H Q I h
 refine isTrue_or (thn (ha pins s σ H Q I h) fun c s1 e=>?_)
 cases c with
 | false=>exact isTrue_or_nil e
 | true=>exact e
theorem pw_and (ha:PT X a tA)(hb:PW X (.BoolOp .And (b::rest) pos) tB'):PW X (.BoolOp .And (a::b::rest) pos) (tAnd tA tB'):=by
 intro wh pins s σ H Q I h
 refine isTrue_and (thn (ha pins s σ H _ I h) fun c s1 zz=>?_)
 obtain⟨H1,I1,q1⟩:=zz
 cases c with
 | true=>exact hb wh pins s1 σ H1 Q I1 q1
 | false=>exact⟨H1,I1,q1⟩
theorem pw_or (ha:PT X a tA)(hb:PW X (.BoolOp .Or (b::rest) pos) tB'):PW X (.BoolOp .Or (a::b::rest) pos) (tOr tA tB'):=by
 intro wh pins s σ H Q I h
 refine isTrue_or (thn (ha pins s σ H _ I h) fun c s1 zz=>?_)
 obtain⟨H1,I1,q1⟩:=zz
 cases c with
 | true=>exact⟨H1,I1,q1⟩
 | false=>exact hb wh pins s1 σ H1 Q I1 q1
theorem pt_not (ha:PT X a tA):PT X (.UnaryOp .Not a pos) (tNot tA):=by
 intro pins s σ H Q I h
 exact isTrue_not (ha pins s σ H (fun c H1=>Q (!c) H1) I h)
noncomputable def tAndV (ta tb:TE):TE:=fun σ H Q=>ta σ H fun x H1=>∃c,x=.bl c/\if c=true then tb σ H1 Q else Q (.bl false) H1
noncomputable def tNotV (ta:TE):TE:=fun σ H Q=>ta σ H fun x H1=>∃c,x=.bl c/\Q (.bl (!c)) H1
theorem pe_one {op}{t:TE}(h:PE X a t):PE X (.BoolOp op [a] pos) t:=fun pins s σ H Q I hw=>BoolOp_one (h pins s σ H Q I hw)
theorem pe_and (ha:PE X a ta)(hb:PE X (.BoolOp .And (b::rest) pos) tb):PE X (.BoolOp .And (a::b::rest) pos) (tAndV ta tb):=by
 intro pins s σ H Q I h
 refine BoolOp_and (thn (ha pins s σ H _ I h) fun v s1 zz=>?_)
 obtain⟨x,H1,I1,r1,q1⟩:=zz
 obtain⟨c,rfl,q1⟩:=q1
 cases r1
 refine wpAny_truthy_bool ?_
 cases c with
 | true=>exact hb pins s1 σ H1 Q I1 q1
 | false=>exact⟨.bl false,H1,I1,rfl,q1⟩
theorem pe_not (ha:PE X a ta):PE X (.UnaryOp .Not a pos) (tNotV ta):=by
 intro pins s σ H Q I h
 refine UnaryOp_ (thn (ha pins s σ H _ I h) fun v s1 zz=>?_)
 obtain⟨x,H1,I1,r1,q1⟩:=zz
 obtain⟨c,rfl,q1⟩:=q1
 cases r1
 exact not_of (wpAny_truthy_bool ⟨.bl (!c),H1,I1,rfl,q1⟩)
end
end L2
namespace L2
open PySem PySem.Spec PyProof.Rows
noncomputable def SqL (K:PySem.W.Frag)(H:Hp)(a:Addr)(xs:List V):Prop :=
 Rd H a (.lst xs) \/
  ∃(o:Obj) (its:Array Value) (n:Nat),K.lookup a=some o/\o.cls=.type "list"/\o.dict=none/\o.data=.seq its n/\its.size<=sizeLine/\Vals xs its.toList
noncomputable def SqT (K:PySem.W.Frag)(H:Hp)(a:Addr)(xs:List V):Prop :=
 Rd H a (.tup xs) \/
  ∃(o:Obj) (its:Array Value) (n:Nat),K.lookup a=some o/\o.cls=.type "tuple"/\o.data=.seq its n/\its.size<=sizeLine/\Vals xs its.toList
noncomputable def absV:Value->Option V
 | .none=>some .non
 | .bool b=>some (.bl b)
 | .int i _=>some (.int i)
 | .str x _=>some (.str x)
 | .bytes b _=>some (.byt b)
 | .float b _=>some (.flt b)
 | .ref a=>some (.ref a)
 | .type n=>some (.ty n)
 | _=>none
theorem RelV.abs {x:V}{u:Value}(r:RelV x u):absV u=some x:=by
 cases x with
 | non=>cases r;rfl
 | bl _=>cases r;rfl
 | int _=>obtain⟨t,rfl⟩:=r;rfl
 | str _=>obtain⟨t,rfl⟩:=r;rfl
 | byt _=>obtain⟨t,rfl⟩:=r;rfl
 | flt _=>obtain⟨t,rfl⟩:=r;rfl
 | ref _=>cases r;rfl
 | ty _=>cases r;rfl
theorem RelV.inj {x y:V}{u:Value}(r:RelV x u)(q:RelV y u):x=y:=Option.some.inj (r.abs.symm.trans q.abs)
theorem Vals.inj:∀{xs ys:List V} {us:List Value},Vals xs us->Vals ys us->xs=ys
 | _,_,_,.nil,.nil=>rfl
 | _,_,_,.cons r t,.cons r' t'=>by rw[r.inj r',Vals.inj t t']
section
variable {X:Cx}{pins:List (Addr×Obj)}{σ:St}{H:Hp}{s:Shared}{a:Addr}{xs ys:List V}
theorem SqL.of {K:PySem.W.Frag}(h:H a=some (.lst xs)):SqL K H a xs:=.inl (.inl h)
theorem SqT.of {K:PySem.W.Frag}(h:H a=some (.tup xs)):SqT K H a xs:=.inl (.inl h)
theorem Inv.list (I:Inv X pins σ H s)(h:SqL X.K H a xs):∃its:List Value,Vals xs its/\PlainL s.heap a its.toArray/\xs.length<=sizeLine:=by
 rcases h with h | ⟨o,its,n,hk,hc,hd,hs,hz,r⟩
 ·obtain⟨z,its,n,r,e⟩:=h.ok I.hok
  exact⟨its,r,⟨_,n,e,rfl,rfl,rfl⟩,z⟩
 ·refine⟨its.toList,r,⟨o,n,I.kIn a o hk,hc,hd,by simpa using hs⟩,?_⟩
  have e:=r.length
  simp only[Array.length_toList]at e
  omega
theorem Inv.tuple (I:Inv X pins σ H s)(h:SqT X.K H a xs):∃its:List Value,Vals xs its/\IsTup s.heap a its.toArray/\xs.length<=sizeLine:=by
 rcases h with h | ⟨o,its,n,hk,hc,hs,hz,r⟩
 ·obtain⟨z,its,r,p⟩:=h.ok I.hok
  exact⟨its,r,p,z⟩
 ·refine⟨its.toList,r,⟨o,I.kIn a o hk,hc,n,by simpa using hs⟩,?_⟩
  have e:=r.length
  simp only[Array.length_toList]at e
  omega
theorem Inv.list_inj (I:Inv X pins σ H s)(h:SqL X.K H a xs)(h':SqL X.K H a ys):xs=ys:=by
 obtain⟨its,r,⟨o,n,e,_,_,d⟩,_⟩:=I.list h
 obtain⟨its',r',⟨o',n',e',_,_,d'⟩,_⟩:=I.list h'
 rw[e]at e';cases e'
 rw[d]at d'
 injection d' with d1 _
 have:its=its':=by simpa using congrArg Array.toList d1
 subst this
 exact r.inj r'
theorem Inv.tuple_inj (I:Inv X pins σ H s)(h:SqT X.K H a xs)(h':SqT X.K H a ys):xs=ys:=by
 obtain⟨its,r,⟨o,e,_,n,d⟩,_⟩:=I.tuple h
 obtain⟨its',r',⟨o',e',_,n',d'⟩,_⟩:=I.tuple h'
 rw[e]at e';cases e'
 rw[d]at d'
 injection d' with d1 _
 have:its=its':=by simpa using congrArg Array.toList d1
 subst this
 exact r.inj r'
end
noncomputable abbrev Cx.wish (X:Cx)(E:Value->Shared->Prop):Cx:={ X with xe:=E }
noncomputable abbrev Cx.nox (X:Cx):Cx:=X.wish fun _ _=>False
theorem Cx.Ok.wish {X:Cx}(ok:X.Ok)(E:Value->Shared->Prop):(X.wish E).Ok :=
 ⟨ok.mod,ok.kind,ok.glob,ok.blt,ok.above,ok.inj,ok.has,ok.cab,ok.hd,ok.frames,ok.stk,ok.exf,ok.bs,ok.bsz,ok.noex,ok.exfs,ok.funs,ok.frf⟩
theorem Cx.Ok.unwish {X:Cx}{E:Value->Shared->Prop}(ok:(X.wish E).Ok):X.Ok :=
 ⟨ok.mod,ok.kind,ok.glob,ok.blt,ok.above,ok.inj,ok.has,ok.cab,ok.hd,ok.frames,ok.stk,ok.exf,ok.bs,ok.bsz,ok.noex,ok.exfs,ok.funs,ok.frf⟩
section
variable {X:Cx}{pins:List (Addr×Obj)}{σ:St}{H:Hp}{s:Shared}{E:Value->Shared->Prop}
theorem Inv.wish (I:Inv X pins σ H s)(E:Value->Shared->Prop):Inv (X.wish E) pins σ H s:=⟨I.ok.wish E,I.os,I.bare,I.base,I.loc,I.cell,I.free,I.freeC,I.pin,I.hok,I.len⟩
theorem Inv.unwish (I:Inv (X.wish E) pins σ H s):Inv X pins σ H s:=⟨I.ok.unwish,I.os,I.bare,I.base,I.loc,I.cell,I.free,I.freeC,I.pin,I.hok,I.len⟩
theorem SP.unwish {D:Ends}{f:Flow}{s':Shared}(h:SP (X.wish E) pins D f s'):SP X pins D f s':=by
 cases f with
 | next=>obtain⟨σ',H',I,q⟩:=h;exact⟨σ',H',I.unwish,q⟩
 | brk=>obtain⟨σ',H',I,q⟩:=h;exact⟨σ',H',I.unwish,q⟩
 | cont=>obtain⟨σ',H',I,q⟩:=h;exact⟨σ',H',I.unwish,q⟩
 | ret u=>obtain⟨v,σ',H',I,r,q⟩:=h;exact⟨v,σ',H',I.unwish,r,q⟩
theorem PSs.nox {st:List Stmt}{t:TS}(h:PSs X.nox st t):PSs X st t:=fun pins s σ H D I hw =>
 wpAny_mono (h pins s σ H D (I.wish _) hw) (fun _ _ q=>q.unwish) fun _ _ z=>False.elim z
end
section
variable {X:Cx}{st:Stmt}{rest:List Stmt}{t u:TS}{e:Expr}{te:TE}{pos:Pos}
noncomputable def tNext:TS:=fun D σ H=>D.nx σ H
noncomputable def tSeq (t u:TS):TS:=fun D σ H=>t { D with nx:=u D } σ H
theorem pss_nil:PSs X [] tNext:=fun _ _ σ H _ I h=>wpAny_execs_nil ⟨σ,H,I,h⟩
theorem zls (h1:PS X st t)(h2:PSs X rest u):PSs X (st::rest) (tSeq t u):=by
 intro pins s σ H D I h
 refine wpAny_execs_cons (thn (h1 pins s σ H { D with nx:=u D } I h) fun f s1 q=>?_)
 cases f with
 | next =>
  obtain⟨σ',H',I',q⟩:=q
  exact h2 pins s1 σ' H' D I' q
 | ret v=>exact q
 | brk=>exact q
 | cont=>exact q
theorem zkz (h1:PS X st t):PSs X [st] t:=by
 intro pins s σ H D I h
 refine wpAny_execs_cons (thn (h1 pins s σ H D I h) fun f s1 q=>?_)
 cases f with
 | next=>exact wpAny_execs_nil q
 | ret v=>exact q
 | brk=>exact q
 | cont=>exact q
theorem Inv.quiet {pins:List (Addr×Obj)}{σ:St}{H:Hp}{s:Shared}(I:Inv X pins σ H s):interactive X.env=false:=by simp[interactive,I.ok.kind]
noncomputable def tDrop (te:TE):TS:=fun D σ H=>te σ H fun _ H1=>D.nx σ H1
theorem ps_expr (he:PE X e te)(hs:swapsWith e none pos.line X.env=pure false:=by rfl):PS X (.Expr e pos) (tDrop te):=by
 intro pins s σ H D I h
 refine wpAny_Expr_any (thn (he pins s σ H _ I h) fun v s1 zz=>?_) I.quiet hs
 obtain⟨x,H1,I1,r1,q1⟩:=zz
 exact⟨σ,H1,I1,q1⟩
noncomputable def tRet (te:TE):TS:=fun D σ H=>te σ H D.rt
theorem ps_ret (he:PE X e te):PS X (.Return (some e) pos) (tRet te):=by
 intro pins s σ H D I h
 refine wpAny_Return_some (thn (he pins s σ H _ I h) fun v s1 zz=>?_)
 obtain⟨x,H1,I1,r1,q1⟩:=zz
 exact⟨x,σ,H1,I1,r1,q1⟩
noncomputable def tIfS (c:TT)(t u:TS):TS:=fun D σ H=>c σ H fun b H1=>if b=true then t D σ H1 else u D σ H1
theorem ps_if {c:Expr}{a b:List Stmt}{tc:TT}(hc:PT X c tc)(ha:PSs X a t)(hb:PSs X b u):PS X (.If c a b pos) (tIfS tc t u):=by
 intro pins s σ H D I h
 refine wpAny_If (thn (hc pins s σ H _ I h) fun d s1 zz=>?_)
 obtain⟨H1,I1,q1⟩:=zz
 cases d with
 | true=>exact ha pins s1 σ H1 D I1 q1
 | false=>exact hb pins s1 σ H1 D I1 q1
end
noncomputable abbrev TG:=V->St->Hp->(St->Hp->Prop)->Prop
noncomputable abbrev TGs:=List V->St->Hp->(St->Hp->Prop)->Prop
noncomputable def PG (X:Cx)(target:Expr)(t:TG):Prop :=
 ∀(pins:List (Addr×Obj)) (s:Shared) (σ:St) (H:Hp) (v:V) (u:Value) (Q:St->Hp->Prop),Inv X pins σ H s->RelV v u->t v σ H Q ->
  wpAny (model X.prog X.w) X.A (assign target X.env u) (fun _ s'=>∃σ' H',Inv X pins σ' H' s'/\Q σ' H') X.xe s
noncomputable def PGs (X:Cx)(ts:List Expr)(t:TGs):Prop :=
 ∀(pins:List (Addr×Obj)) (s:Shared) (σ:St) (H:Hp) (vs:List V) (us:List Value) (Q:St->Hp->Prop),Inv X pins σ H s->Vals vs us->t vs σ H Q ->
  wpAny (model X.prog X.w) X.A (assignInOrder ((assignEach ts X.env).map (·.2)) us) (fun _ s'=>∃σ' H',Inv X pins σ' H' s'/\Q σ' H') X.xe s
noncomputable abbrev TSet:=V->V->V->Hp->(Hp->Prop)->Prop
noncomputable def PSet (X:Cx)(t:TSet):Prop :=
 ∀(pins:List (Addr×Obj)) (s:Shared) (σ:St) (H:Hp) (o i v:V) (ov iv u:Value) (Q:Hp->Prop),Inv X pins σ H s->RelV o ov->RelV i iv->RelV v u->t o i v H Q ->
  wpAny (model X.prog X.w) X.A (setItem ov iv u) (fun _ s'=>∃H',Inv X pins σ H' s'/\Q H') X.xe s
section
variable {X:Cx}{pos:Pos}
noncomputable def gName (i:Nat):TG:=fun v σ H Q=>Q (σ.set i (some v)) H
theorem pg_name {i:Nat}{x:Str}(hN:X.N.Nodup)(hi:X.N[i]? = some x)(hx:Loc X.env.scope x)(hf:X.fn x=true\/X.env.scope.names.lookup x=some .local:=by first | exact .inl rfl | exact .inr rfl | assumption):PG X (.Name x pos) (gName i):=by
 intro pins s σ H v u Q I r h
 exact wpAny_assign_Name (zid I hN hi hx r (fun s' I'=>⟨_,H,I',h⟩) hf)
noncomputable def gNil:TGs:=fun vs σ H Q=>vs=[]/\Q σ H
noncomputable def gCons (t:TG)(u:TGs):TGs:=fun vs σ H Q=>∃v r,vs=v::r/\t v σ H fun σ' H'=>u r σ' H' Q
theorem pgs_nil:PGs X [] gNil:=by
 intro pins s σ H vs us Q I r h
 obtain⟨e,h⟩:=h
 subst e
 cases r
 exact assignInOrder_nil ⟨σ,H,I,h⟩
theorem pgs_cons {e:Expr}{es:List Expr}{t:TG}{u:TGs}(h1:PG X e t)(h2:PGs X es u)
  (hs:(assignEach (e::es) X.env).map (·.2)=assign e X.env::(assignEach es X.env).map (·.2):=by rfl):PGs X (e::es) (gCons t u):=by
 intro pins s σ H vs us Q I r h
 obtain⟨v,vr,e1,h⟩:=h
 subst e1
 cases r with
 | cons r rr =>
  rw[hs]
  refine assignInOrder_cons (thn (h1 pins s σ H _ _ _ I r h) fun _ s1 zz=>?_)
  obtain⟨σ1,H1,I1,q1⟩:=zz
  exact h2 pins s1 σ1 H1 _ _ Q I1 rr q1
noncomputable def gTup (K:PySem.W.Frag)(n:Nat)(t:TGs):TG:=fun v σ H Q=>∃a xs,v=.ref a/\SqT K H a xs/\xs.length=n/\t xs σ H Q
theorem pg_tup {es:List Expr}{k:Nat}{t:TGs}{n:Nat}(hc:X.calm=true)(h:PGs X es t)
  (hn:(assignEach es X.env).length=n:=by rfl) (hst:(assignEach es X.env).findIdx? (·.1)=none:=by rfl):PG X (.Tuple es k pos) (gTup X.K n t):=by
 intro pins s σ H v u Q I r hw
 obtain⟨a,xs,e1,hq,hl,hw⟩:=hw
 subst e1
 cases r
 obtain⟨its,rv,ht,hz⟩:=I.tuple hq
 refine assign_Tuple_tuple (I.ok.hd hc) ht (by simp[hn,<-hl,rv.length]) hst fun h' hx=>?_
 have I1:Inv X pins σ H { s with heap:=h' }:=I.kept (t':=s.toks) fun b o e=>hx b o (Nat.ne_of_lt (Heap.lt_size e)) e
 exact h pins _ σ H xs _ Q I1 (by simpa using rv) hw
noncomputable def gSub (to ti:TE)(t:TSet):TG:=fun v σ H Q=>to σ H fun o H1=>ti σ H1 fun i H2=>t o i v H2 fun H3=>Q σ H3
theorem pg_sub {o i:Expr}{to ti:TE}{t:TSet}(ho:PE X o to)(hi:PE X i ti)(hs:PSet X t)
  (ha:∀v,assign (.Subscript o i pos) X.env v=(do
   let ov <-holding [v] (eval o X.env)
   let iv <-holding [v,ov] (eval i X.env)
   standAt pos
   holding [v,ov,iv] (setItem ov iv v)
   release [v,ov,iv] []):=by intro _;rfl):PG X (.Subscript o i pos) (gSub to ti t):=by
 intro pins s σ H v u Q I r h
 rw[ha]
 refine wpAny_bind (wpAny_holding (thn (ho pins s σ H _ I h) fun ov s1 zz=>?_))
 obtain⟨x,H1,I1,r1,q1⟩:=zz
 refine wpAny_bind (wpAny_holding (thn (hi pins s1 σ H1 _ I1 q1) fun iv s2 zz=>?_))
 obtain⟨y,H2,I2,r2,q2⟩:=zz
 refine wpAny_bind (wpAny_standAt (wpAny_bind (wpAny_holding (thn (hs pins s2 σ H2 x y v ov iv u _ I2 r1 r2 r q2) fun _ s3 zz=>?_))))
 obtain⟨H3,I3,q3⟩:=zz
 exact wpAny_release ⟨σ,H3,I3,q3⟩
noncomputable def tAsg (te:TE)(g:TG):TS:=fun D σ H=>te σ H fun x H1=>g x σ H1 D.nx
theorem ps_asg {tg e:Expr}{te:TE}{g:TG}(he:PE X e te)(hg:PG X tg g)(hs:swapsWithSole [tg] e pos.line X.env=pure false:=by rfl)(hw:swappedStores [tg] e X.env=pure none:=by rfl)
  (h1:(assignEach [tg] X.env).map (·.2)=[assign tg X.env]:=by rfl):PS X (.Assign [tg] e pos) (tAsg te g):=by
 intro pins s σ H D I h
 refine wpAny_Assign_stores (thn (he pins s σ H _ I h) fun v s1 zz=>?_) hs hw
 obtain⟨x,H1,I1,r1,q1⟩:=zz
 rw[h1]
 exact thn (hg pins s1 σ H1 x v _ I1 r1 q1) fun _ s2 q=>q
theorem ps_set {i:Nat}{x:Str}{e:Expr}{te:TE}{pos':Pos}(hN:X.N.Nodup)(hi:X.N[i]? = some x)(hx:Loc X.env.scope x)(he:PE X e te)(hs:swapsWith e (some (.Name x pos')) pos.line X.env=pure false:=by rfl)(hf:X.fn x=true\/X.env.scope.names.lookup x=some .local:=by first | exact .inl rfl | exact .inr rfl | assumption) :
  PS X (.Assign [.Name x pos'] e pos) (tAsg te (gName i)):=by
 intro pins s σ H D I h
 refine wpAny_Assign_Name (thn (he pins s σ H _ I h) fun v s1 zz=>?_) hs
 obtain⟨y,H1,I1,r1,q1⟩:=zz
 exact zid I1 hN hi hx r1 (fun s2 I2=>⟨_,H1,I2,q1⟩) hf
end
section
variable {X:Cx}{pos:Pos}
end
structure It where
 go:Nat->Hp->Prop
 yld:Nat->Hp->V->Hp->Prop
 stop:Nat->Hp->Prop
noncomputable def FpOk (X:Cx)(pins:List (Addr×Obj))(H:Hp)(b:Addr):Prop :=
 H b=none/\b≠X.env.locals/\b∉X.fs/\(b∈X.ex\/X.s₀.heap.objs.size<=b)/\(∀x c,X.env.cells.lookup x=some c->c≠b)/\∀p∈X.pn++pins,p.1≠b
theorem Inv.fpOk {X:Cx}{pins:List (Addr×Obj)}{σ:St}{H H':Hp}{s:Shared}{b:Addr}(I:Inv X pins σ H s)(hb:s.heap.objs.size<=b)(hn:H' b=none):FpOk X pins H' b:=by
 refine⟨hn,Nat.ne_of_gt (Nat.lt_of_lt_of_le I.lt hb),I.nofs hb,.inr (Nat.le_trans I.sz hb),fun x c e z=>?_,fun p hp z=>?_⟩
 ·obtain⟨v,q⟩:=I.cell x c e
  exact absurd (Nat.lt_of_lt_of_le q.lt (by rw[z];exact hb)) (Nat.lt_irrefl _)
 ·exact absurd (Nat.lt_of_lt_of_le (Heap.lt_size (I.pin p hp).1) (by rw[z];exact hb)) (Nat.lt_irrefl _)
structure Turn (P:Program)(w:World)(K:PySem.W.Frag)(tg:Expr)(J:It)(fp:List Addr)(it:Addr)(tn:Nat->Heap->Prop):Prop where
 mem:it∈fp
 obj:∀i h,tn i h->∀b∈fp,∃o,h.get? b=some o/\∀v,o.data≠.cell v
 keep:∀i h h',tn i h->(∀b∈fp,∀o,h.get? b=some o->h'.get? b=some o)->tn i h'
 item:∀(X:Cx),X.prog=P->X.w=w->X.K=K->X.calm=true->∀(i:Nat) (pins:List (Addr×Obj)) (s:Shared) (σ:St) (H:Hp) (E:Value->Shared->Prop),Inv X pins σ H s->(∀b∈fp,FpOk X pins H b)->tn i s.heap->J.go i H ->
  wpAny (model P w) X.A (pyNext (.ref it)) (fun r s1=>∃u,r=some u /\
   wpAny (model P w) X.A (letOwnedTupleGo tg (.ref it) u) (fun _ s2=>∃x H',Inv X pins σ H' s2/\RelV x u/\J.yld i H x H'/\tn (i+1) s2.heap/\∀b∈fp,H' b=none) E s1) E s
 done:∀(X:Cx),X.prog=P->X.w=w->X.K=K->X.calm=true->∀(i:Nat) (pins:List (Addr×Obj)) (s:Shared) (σ:St) (H:Hp) (E:Value->Shared->Prop),Inv X pins σ H s->(∀b∈fp,FpOk X pins H b)->tn i s.heap->J.stop i H ->
  wpAny (model P w) X.A (pyNext (.ref it)) (fun r s1=>r=none/\Inv X pins σ H s1) E s
 self:∀(A:Around) (i:Nat) (s:Shared) (Q:Value->Shared->Prop) (E:Value->Shared->Prop),tn i s.heap->Q (.ref it) s->wpAny (model P w) A (pyIter (.ref it)) Q E s
noncomputable abbrev TI:=St->Hp->(It->Hp->Prop)->Prop
noncomputable def PIE (X:Cx)(pins:List (Addr×Obj))(σ:St)(tg:Expr)(R:It->Hp->Prop)(itv:Value)(s2:Shared):Prop :=
 ∃(it:Addr) (fp:List Addr) (tn:Nat->Heap->Prop) (J:It) (H':Hp),itv=.ref it/\Inv X pins σ H' s2/\Turn X.prog X.w X.K tg J fp it tn/\tn 0 s2.heap/\(∀b∈fp,FpOk X pins H' b)/\R J H'
noncomputable def PI (X:Cx)(tg iter:Expr)(wi:TI):Prop :=
 ∀(pins:List (Addr×Obj)) (s:Shared) (σ:St) (H:Hp) (R:It->Hp->Prop),Inv X pins σ H s->wi σ H R ->
  wpAny (model X.prog X.w) X.A (eval iter X.env) (fun v s1=>wpAny (model X.prog X.w) X.A (pyIter v) (PIE X pins σ tg R) X.xe s1) X.xe s
theorem go_of {M:Model}{A:Around}{E:Value->Shared->Prop}{s:Shared}{tg:Expr}{it:Addr}{u:Value}{o:Obj}{n:String}{vs:Array Value}{Q:Unit->Shared->Prop}(ho:s.heap.get? it=some o)(hc:o.cls=.type n)(hd:o.data=.fields vs)
  (hn:["enumerate","zip","dict_itemiterator","dict_reverseitemiterator","odict_iterator","itertools.zip_longest","itertools.pairwise"].contains n=false) (hQ:Q () s):wpAny M A (letOwnedTupleGo tg (.ref it) u) Q E s:=by
 unfold letOwnedTupleGo
 cases tg<;>first
  | exact wpAny_pure hQ
  | (cases u<;>first
    | exact wpAny_pure hQ
    | (refine wpAny_bind (wpAny_load ho ?_)
       rw[hc,hd]
       show wpAny M A (if (["enumerate","zip","dict_itemiterator","dict_reverseitemiterator","odict_iterator","itertools.zip_longest","itertools.pairwise"].contains n && vs[0]? == some (rawInt _))=true then _ else _) Q E s
       rw[if_neg (by intro h;rw[hn,Bool.false_and]at h;cases h)]
       exact wpAny_pure hQ))
noncomputable def Itl (K:PySem.W.Frag)(a:Addr):It :=
 ⟨fun i H=>∃xs x,SqL K H a xs/\xs[i]? = some x,fun i H x H'=>H'=H/\∀xs,SqL K H a xs->xs[i]? = some x,fun i H=>∃xs,SqL K H a xs/\xs.length<=i⟩
noncomputable def Itt (K:PySem.W.Frag)(a:Addr):It :=
 ⟨fun i H=>∃xs x,SqT K H a xs/\xs[i]? = some x,fun i H x H'=>H'=H/\∀xs,SqT K H a xs->xs[i]? = some x,fun i H=>∃xs,SqT K H a xs/\xs.length<=i⟩
noncomputable def Itr (lo:Int)(n:Nat):It:=⟨fun i _=>i<n,fun i H x H'=>H'=H/\x=.int (lo+i),fun i _=>n<=i⟩
theorem turn_list {P:Program}{w:World}{K:PySem.W.Frag}{tg:Expr}(a it:Addr):Turn P w K tg (Itl K a) [it] it (fun i h=>h.IsListIter it a i) where
 mem:=by simp
 obj:=fun i h st b hb=>by
  have e:b=it:=by simpa using hb
  subst e
  obtain⟨o,e,c,d⟩:=st
  exact⟨o,e,fun v z=>by rw[d]at z;cases z⟩
 keep:=fun i h h' st k=>st.at fun o e=>k it (by simp) o e
 item:=by
  intro X hP hw hK hc i pins s σ H E I hf st hg
  subst hP hw hK
  obtain⟨xs,x,hq,hx⟩:=hg
  obtain⟨its,rv,p,hz⟩:=I.list hq
  obtain⟨u,hu,ru⟩:=rv.get hx
  obtain⟨f0,f1,f2,f3,f4,f5⟩:=hf it (by simp)
  refine wpAny_pyNext_list_item st p.isList (x:=u) (by simpa using hu) fun h' st' sb=>?_
  have I1:Inv X pins σ H { s with heap:=h' }:=I.turned (t':=s.toks) (fun b o hb e=>(sb.2 b hb).trans e) f0 f1 f3 f4 f5
  obtain⟨o,e,c,d⟩:=id st'
  exact⟨u,rfl,go_of (s:={ s with heap:=h' }) e c d (by decide) ⟨x,H,I1,ru,⟨rfl,fun ys hy=>by rw[I.list_inj hy hq];exact hx⟩,st',fun b hb=>(hf b hb).1⟩⟩
 done:=by
  intro X hP hw hK hc i pins s σ H E I hf st hg
  subst hP hw hK
  obtain⟨xs,hq,hx⟩:=hg
  obtain⟨its,rv,p,hz⟩:=I.list hq
  obtain⟨f0,f1,f2,f3,f4,f5⟩:=hf it (by simp)
  have hl:=rv.length
  exact wpAny_pyNext_list_end (I.ok.hd hc) st p.isList (by simp;omega) fun h' eb=>⟨rfl,I.turned (t':=s.toks) (fun b o hb e=>eb b o hb e) f0 f1 f3 f4 f5⟩
 self:=fun _ _ _ _ _ st h=>wpAny_pyIter_listiter st h
theorem zlh {P:Program}{w:World}{K:PySem.W.Frag}{tg:Expr}(a it:Addr):Turn P w K tg (Itt K a) [it] it (fun i h=>h.IsTupleIter it a i) where
 mem:=by simp
 obj:=fun i h st b hb=>by
  have e:b=it:=by simpa using hb
  subst e
  obtain⟨o,e,c,d⟩:=st
  exact⟨o,e,fun v z=>by rw[d]at z;cases z⟩
 keep:=fun i h h' st k=>st.at fun o e=>k it (by simp) o e
 item:=by
  intro X hP hw hK hc i pins s σ H E I hf st hg
  subst hP hw hK
  obtain⟨xs,x,hq,hx⟩:=hg
  obtain⟨its,rv,p,hz⟩:=I.tuple hq
  obtain⟨u,hu,ru⟩:=rv.get hx
  obtain⟨f0,f1,f2,f3,f4,f5⟩:=hf it (by simp)
  refine wpAny_pyNext_tuple_item st (show s.heap.IsTuple a its.toArray from p) (x:=u) (by simpa using hu) fun h' st' sb=>?_
  have I1:Inv X pins σ H { s with heap:=h' }:=I.turned (t':=s.toks) (fun b o hb e=>(sb.2 b hb).trans e) f0 f1 f3 f4 f5
  obtain⟨o,e,c,d⟩:=id st'
  exact⟨u,rfl,go_of (s:={ s with heap:=h' }) e c d (by decide) ⟨x,H,I1,ru,⟨rfl,fun ys hy=>by rw[I.tuple_inj hy hq];exact hx⟩,st',fun b hb=>(hf b hb).1⟩⟩
 done:=by
  intro X hP hw hK hc i pins s σ H E I hf st hg
  subst hP hw hK
  obtain⟨xs,hq,hx⟩:=hg
  obtain⟨its,rv,p,hz⟩:=I.tuple hq
  obtain⟨f0,f1,f2,f3,f4,f5⟩:=hf it (by simp)
  have hl:=rv.length
  exact wpAny_pyNext_tuple_end (I.ok.hd hc) st (show s.heap.IsTuple a its.toArray from p) (by simp;omega) fun h' eb=>⟨rfl,I.turned (t':=s.toks) (fun b o hb e=>eb b o hb e) f0 f1 f3 f4 f5⟩
 self:=fun _ _ _ _ _ st h=>wpAny_pyIter_tupleiter st h
theorem zj8 {P:Program}{w:World}{K:PySem.W.Frag}{tg:Expr}(it:Addr)(lo:Int)(n:Nat):Turn P w K tg (Itr lo n) [it] it (fun i h=>IsRangeIter h it (lo+(i:Nat)*1) ((n:Int) - (i:Nat)) 1) where
 mem:=by simp
 obj:=fun i h st b hb=>by
  have e:b=it:=by simpa using hb
  subst e
  exact⟨_,st,fun v z=>by
   have z':Data.fields _=Data.cell v:=z
   cases z'⟩
 keep:=fun i h h' st k=>k it (by simp) _ st
 item:=by
  intro X hP hw hK hc i pins s σ H E I hf st hg
  subst hP hw hK
  obtain⟨f0,f1,f2,f3,f4,f5⟩:=hf it (by simp)
  have W:=Walks.range (prog:=X.prog) (w:=X.w) (I.ok.hd hc) it lo 1 n
  refine W.item i s _ _ hg st fun v h' tk hv st' kk=>?_
  obtain⟨t,rfl⟩:=hv
  have I1:Inv X pins σ H { s with heap:=h',toks:=tk }:=I.turned (fun b o hb e=>kk b o (by simpa using hb) e) f0 f1 f3 f4 f5
  refine⟨_,rfl,go_of (s:={ s with heap:=h',toks:=tk }) (n:="range_iterator") st' rfl rfl (by decide) ⟨.int (lo+i),H,I1,⟨t,?_⟩,⟨rfl,rfl⟩,st',fun b hb=>(hf b hb).1⟩⟩
  rw[Int.mul_one]
 done:=by
  intro X hP hw hK hc i pins s σ H E I hf st hg
  subst hP hw hK
  obtain⟨f0,f1,f2,f3,f4,f5⟩:=hf it (by simp)
  exact wpAny_pyNext_range_end (I.ok.hd hc) st (by have:n<=i:=hg;omega) fun h' eb=>⟨rfl,I.turned (t':=s.toks) (fun b o hb e=>eb b o hb e) f0 f1 f3 f4 f5⟩
 self:=fun _ _ _ _ _ st h=>wpAny_pyIter_rangeiter st h
end L2
namespace L2
open PySem PySem.Spec PyProof.Rows
section
variable {X:Cx}{tg:Expr}
noncomputable def iList (K:PySem.W.Frag)(tl:TE):TI:=fun σ H R=>tl σ H fun x H1=>∃a,x=.ref a/\(∃xs,SqL K H1 a xs)/\R (Itl K a) H1
noncomputable def iTup (K:PySem.W.Frag)(tl:TE):TI:=fun σ H R=>tl σ H fun x H1=>∃a,x=.ref a/\(∃xs,SqT K H1 a xs)/\R (Itt K a) H1
theorem pi_list {l:Expr}{tl:TE}(hl:PE X l tl):PI X tg l (iList X.K tl):=by
 intro pins s σ H R I h
 refine thn (hl pins s σ H _ I h) fun v s1 zz=>?_
 obtain⟨x,H1,I1,r1,q1⟩:=zz
 obtain⟨a,e,⟨xs,hq⟩,q⟩:=q1
 subst e
 cases r1
 obtain⟨its,rv,p,hz⟩:=I1.list hq
 refine wpAny_pyIter_list p.isList ?_
 refine⟨s1.heap.objs.size,[s1.heap.objs.size],_,_,H1,rfl,I1.kept (t':=s1.toks) fun b o e=>Heap.get?_push_of_some _ e,turn_list a _,⟨_,Heap.get?_push_size _ rfl,rfl,rfl⟩,fun b hb=>?_,q⟩
 have e:b=s1.heap.objs.size:=by simpa using hb
 subst e
 exact I1.fpOk (Nat.le_refl _) (I1.hok.fresh (Nat.le_refl _))
theorem pi_tup {l:Expr}{tl:TE}(hl:PE X l tl):PI X tg l (iTup X.K tl):=by
 intro pins s σ H R I h
 refine thn (hl pins s σ H _ I h) fun v s1 zz=>?_
 obtain⟨x,H1,I1,r1,q1⟩:=zz
 obtain⟨a,e,⟨xs,hq⟩,q⟩:=q1
 subst e
 cases r1
 obtain⟨its,rv,p,hz⟩:=I1.tuple hq
 refine wpAny_pyIter_tuple (show s1.heap.IsTuple a its.toArray from p) ?_
 refine⟨s1.heap.objs.size,[s1.heap.objs.size],_,_,H1,rfl,I1.kept (t':=s1.toks) fun b o e=>Heap.get?_push_of_some _ e,zlh a _,⟨_,Heap.get?_push_size _ rfl,rfl,rfl⟩,fun b hb=>?_,q⟩
 have e:b=s1.heap.objs.size:=by simpa using hb
 subst e
 exact I1.fpOk (Nat.le_refl _) (I1.hok.fresh (Nat.le_refl _))
theorem range_it {pins:List (Addr×Obj)}{σ:St}{H:Hp}{s:Shared}{R:It->Hp->Prop}{E:Value->Shared->Prop}{lo hi:Int}{t u v:Tok}{tk:Nat}(I:Inv X pins σ H s)(h1:-(2 ^ 62)<=lo)(h2:lo<2 ^ 62)(h3:-(2 ^ 62)<=hi)(h4:hi<2 ^ 62)
  (q:R (Itr lo (hi - lo).toNat) H):wpAny (model X.prog X.w) X.A (pyIter (.ref s.heap.objs.size)) (PIE X pins σ tg R) E { s with heap:=s.heap.push { cls:=.type "range",data:=.fields #[.int lo t,.int hi u,.int 1 v] },toks:=tk }:=by
 refine wpAny_pyIter_range (IsRange.new ..) (small_one h1 h2 h3 h4) ?_
 have I1:Inv X pins σ H { s with heap:=s.heap.push { cls:=.type "range",data:=.fields #[.int lo t,.int hi u,.int 1 v] },toks:=tk }:=I.kept fun b o e=>Heap.get?_push_of_some _ e
 refine⟨(s.heap.push { cls:=.type "range",data:=.fields #[.int lo t,.int hi u,.int 1 v] }).objs.size,[(s.heap.push { cls:=.type "range",data:=.fields #[.int lo t,.int hi u,.int 1 v] }).objs.size],_,_,H,rfl,
  I1.kept (t':=tk) fun b o e=>Heap.get?_push_of_some _ e,zj8 _ lo (hi - lo).toNat,?_,fun b hb=>?_,q⟩
 ·have e1:lo+((0:Nat):Int)*1=lo:=by simp
  have e2:(((hi - lo).toNat:Nat):Int) - ((0:Nat):Int)=Builtin.Range.rangeSize lo hi 1:=by rw[rangeSize_one];split<;>omega
  show IsRangeIter _ _ (lo+((0:Nat):Int)*1) ((((hi - lo).toNat:Nat):Int) - ((0:Nat):Int)) 1
  rw[e1,e2]
  exact Heap.get?_push_size _ rfl
 ·have e:b=(s.heap.push { cls:=.type "range",data:=.fields #[.int lo t,.int hi u,.int 1 v] }).objs.size:=by simpa using hb
  subst e
  exact I1.fpOk (Nat.le_refl _) (I1.hok.fresh (Nat.le_refl _))
noncomputable def iRng1 (ta:TA):TI:=fun σ H R=>ta σ H fun vs H1=>∃j:Int,vs=[.int j]/\-(2 ^ 62)<=j/\j<2 ^ 62/\R (Itr 0 j.toNat) H1
theorem pi_range1 {a:Expr}{ta:TA}{p pos:Pos}(hg:Gl X "range")(hm:X.mg "range" = none)(ha:PA X [a] ta)(hs:starEach [a] X.env=[(false,eval a X.env)]:=by rfl):PI X tg (.Call (.Name "range" p) [a] [] pos) (iRng1 ta):=by
 intro pins s σ H R I h
 refine Call_ (zhv I hg hm boot_range (PyProof.Rows.callWith_type1 (thn (ha pos pins s σ H _ I h) fun us s1 zz=>?_) hs rfl))
 obtain⟨vs,H1,I1,r1,q1⟩:=zz
 obtain⟨j,e,q1,q2,q⟩:=q1
 subst e
 cases r1 with
 | cons r rr =>
  cases rr
  obtain⟨t,rfl⟩:=r
  exact call_range_1 (range_it I1 (by omega) (by omega) q1 q2 (by simpa using q))
noncomputable def tFor (wi:TI)(g:TG)(tb:TS):TS:=fun D σ H=>wi σ H fun J H1=>∃W:Nat->Nat->St->Hp->Prop,(∃m,W 0 m σ H1)/\∀i m σ H,W i m σ H ->
 (J.stop i H/\D.nx σ H)\/(J.go i H/\∃N:St->Hp->Prop,(∀σ' H',N σ' H'->∃m',m'<m/\W (i+1) m' σ' H')/\∀x H',J.yld i H x H'->g x σ H' fun σ2 H2=>tb { D with nx:=N,ct:=N,bk:=D.nx } σ2 H2)
noncomputable def pinsAt (fp:List Addr)(h:Heap):List (Addr×Obj):=fp.filterMap fun b=>(h.get? b).map fun o=>(b,o)
theorem zd7 {fp:List Addr}{h:Heap}{b:Addr}{o:Obj}(hb:b∈fp)(e:h.get? b=some o):(b,o)∈pinsAt fp h:=List.mem_filterMap.mpr ⟨b,hb,by rw[e];rfl⟩
theorem of_pinsAt {fp:List Addr}{h:Heap}{p:Addr×Obj}(hp:p∈pinsAt fp h):p.1∈fp/\h.get? p.1=some p.2:=by
 obtain⟨b,hb,e⟩:=List.mem_filterMap.mp hp
 cases q:h.get? b with
 | none=>rw[q]at e;cases e
 | some o =>
  rw[q]at e
  have e':(b,o)=p:=Option.some.inj e
  subst e'
  exact⟨hb,q⟩
theorem Inv.pinned {pins:List (Addr×Obj)}{σ:St}{H:Hp}{s:Shared}{fp:List Addr}(I:Inv X pins σ H s)(hf:∀b∈fp,FpOk X pins H b)(ho:∀b∈fp,∃o,s.heap.get? b=some o/\∀v,o.data≠.cell v):Inv X (pins++pinsAt fp s.heap) σ H s :=
 I.pins_of fun p hp=>(List.mem_append.mp hp).elim (fun z=>I.pin p (List.mem_append_right _ z)) fun z=>by
  obtain⟨hb,e⟩:=of_pinsAt z
  obtain⟨f0,f1,f2,_⟩:=hf p.1 hb
  obtain⟨o,e',d⟩:=ho p.1 hb
  rw[e]at e';cases e'
  exact⟨e,f0,f1,f2,d⟩
theorem Inv.unpinned {pins pl:List (Addr×Obj)}{σ:St}{H:Hp}{s:Shared}(I:Inv X (pins++pl) σ H s):Inv X pins σ H s:=I.pins_of fun p hp=>I.pin p (List.mem_append_right _ (List.mem_append_left _ hp))
theorem ps_for {iter:Expr}{body:List Stmt}{wi:TI}{g:TG}{tb:TS}{pos:Pos}(hp:PassesOwn (model X.prog X.w) X.A X.env X.xe)(hc:X.calm=true)(hi:PI X tg iter wi)(hg:PG X tg g)(hb:PSs X body tb)
  (hs:∀x,foldedSetIterable iter X.env x=pure x:=by intro _;rfl):PS X (.For tg iter body [] pos) (tFor wi g tb):=by
 intro pins s σ H D I h
 refine wpAny_For (thn (hi pins s σ H _ I h) fun v s1 h1=>thn h1 fun itv s2 h2=>?_) hs
 obtain⟨it,fp,tn,J,H2,e,I2,T,st2,f2,W,⟨m0,w0⟩,turn⟩:=h2
 subst e

 have stat:∀{H':Hp},(∀b∈fp,H' b=none)->∀b∈fp,FpOk X pins H' b:=fun hn b hb=>⟨hn b hb,(f2 b hb).2⟩
 refine codeAny_forLoop_any (fun n s'=>∃i σ' H',Inv X pins σ' H' s'/\tn i s'.heap/\(∀b∈fp,H' b=none)/\W i n σ' H') ?_ m0 ⟨0,σ,H2,I2,st2,fun b hb=>(f2 b hb).1,w0⟩
 rintro n s3 ⟨i,σ3,H3,I3,st3,fr3,w3⟩
 rcases turn i n σ3 H3 w3 with⟨stop,qn⟩ | ⟨go,N,hN,step⟩
 ·refine wpAny_passesOwn hp (thn (T.done X rfl rfl rfl hc i pins s3 σ3 H3 X.xe I3 (stat fr3) st3 stop) fun r s4 zz=>?_)
  obtain⟨hr,I4⟩:=zz
  subst hr
  exact wpAny_execs_nil ⟨σ3,H3,I4,qn⟩
 ·refine wpAny_passesOwn hp (thn (T.item X rfl rfl rfl hc i pins s3 σ3 H3 X.xe I3 (stat fr3) st3 go) fun r s4 zz=>?_)
  obtain⟨u,hr,h4⟩:=zz
  subst hr
  refine wpAny_passesOwn hp (thn h4 fun _ s5 zz=>?_)
  obtain⟨x,H5,I5,r5,y5,st5,fr5⟩:=zz
  have I5':=I5.pinned (stat fr5) (T.obj _ _ st5)
  refine wpAny_passesOwn hp (thn (hg _ s5 σ3 H5 x u _ I5' r5 (step x H5 y5)) fun _ s6 zz=>?_)
  obtain⟨σ6,H6,I6,q6⟩:=zz
  refine wpAny_passesOwn hp (thn (hb _ s6 σ6 H6 _ I6 q6) fun f s7 q7=>?_)
  have again:∀{σ7:St} {H7:Hp},Inv X (pins++pinsAt fp s5.heap) σ7 H7 s7->N σ7 H7->∃m,m<n/\∃i σ' H',Inv X pins σ' H' s7/\tn i s7.heap/\(∀b∈fp,H' b=none)/\W i m σ' H':=fun {σ7 H7} I7 n7=>by
   obtain⟨m',hm,w7⟩:=hN σ7 H7 n7
   refine⟨m',hm,i+1,σ7,H7,I7.unpinned,T.keep _ _ _ st5 fun b hb o e=>(I7.pin (b,o) (List.mem_append_right _ (List.mem_append_right _ (zd7 hb e)))).1,fun b hb=>?_,w7⟩
   obtain⟨o,e,d⟩:=T.obj _ _ st5 b hb
   exact (I7.pin (b,o) (List.mem_append_right _ (List.mem_append_right _ (zd7 hb e)))).2.1
  cases f with
  | next=>obtain⟨σ7,H7,I7,n7⟩:=q7;exact again I7 n7
  | cont=>obtain⟨σ7,H7,I7,n7⟩:=q7;exact again I7 n7
  | brk=>obtain⟨σ7,H7,I7,q7⟩:=q7;exact⟨σ7,H7,I7.unpinned,q7⟩
  | ret v=>obtain⟨x7,σ7,H7,I7,r7,q7⟩:=q7;exact⟨x7,σ7,H7,I7.unpinned,r7,q7⟩
end
end L2
namespace L2
open PySem PySem.Spec PyProof.Rows
noncomputable abbrev R2:=V->V->Hp->VK->Prop
noncomputable def OpR (X:Cx)(f:Value->Value->Sem Value)(r:R2):Prop :=
 ∀(pins:List (Addr×Obj)) (s:Shared) (σ:St) (H:Hp) (x y:V) (v u:Value) (Q:VK),Inv X pins σ H s->RelV x v->RelV y u->r x y H Q ->
  wpAny (model X.prog X.w) X.A (f v u) (EP X pins σ Q) X.xe s
noncomputable def UnR (X:Cx)(f:Value->Sem Value)(r:V->Hp->VK->Prop):Prop :=
 ∀(pins:List (Addr×Obj)) (s:Shared) (σ:St) (H:Hp) (x:V) (v:Value) (Q:VK),Inv X pins σ H s->RelV x v->r x H Q ->
  wpAny (model X.prog X.w) X.A (f v) (EP X pins σ Q) X.xe s
noncomputable def CallR (X:Cx)(f:Value)(r:List V->Hp->VK->Prop):Prop :=
 ∀(pins:List (Addr×Obj)) (s:Shared) (σ:St) (H:Hp) (xs:List V) (us:List Value) (Q:VK),Inv X pins σ H s->Vals xs us->r xs H Q ->
  wpAny (model X.prog X.w) X.A (call f us) (EP X pins σ Q) X.xe s
noncomputable def TruR (X:Cx)(r:V->Hp->(Bool->Hp->Prop)->Prop):Prop :=
 ∀(pins:List (Addr×Obj)) (s:Shared) (σ:St) (H:Hp) (x:V) (v:Value) (Q:Bool->Hp->Prop),Inv X pins σ H s->RelV x v->r x H Q ->
  wpAny (model X.prog X.w) X.A (truthy v) (TP X pins σ Q) X.xe s
noncomputable def tOp (r:R2)(ta tb:TE):TE:=fun σ H Q=>ta σ H fun x H1=>tb σ H1 fun y H2=>r x y H2 Q
noncomputable def tUn (r:V->Hp->VK->Prop)(ta:TE):TE:=fun σ H Q=>ta σ H fun x H1=>r x H1 Q
noncomputable def rI (C:Int->Int->Prop)(g:Int->Int->V):R2:=fun x y H Q=>∃i j,x=.int i/\y=.int j/\C i j/\Q (g i j) H
noncomputable def rI0 (g:Int->Int->V):R2:=fun x y H Q=>∃i j,x=.int i/\y=.int j/\Q (g i j) H
noncomputable def rU (g:Int->V):V->Hp->VK->Prop:=fun x H Q=>∃i,x=.int i/\Q (g i) H
section
variable {X:Cx}{a b c:Expr}{ta tb tc:TE}{pos:Pos}
theorem binT (ha:PE X a ta)(hb:PE X b tb){pins:List (Addr×Obj)}{s:Shared}{σ:St}{H:Hp}{R:V->V->Hp->Prop}(I:Inv X pins σ H s)
  (h:ta σ H fun x H1=>tb σ H1 fun y H2=>R x y H2) {Q:Value->Shared->Prop} {f:Value->Value->Sem Value}
  (hf:∀v u s2 x y H2,Inv X pins σ H2 s2->RelV x v->RelV y u->R x y H2->wpAny (model X.prog X.w) X.A (f v u) Q X.xe s2) :
  wpAny (model X.prog X.w) X.A (eval a X.env) (fun v s₁=>wpAny (model X.prog X.w) X.A (eval b X.env) (fun u s₂=>wpAny (model X.prog X.w) X.A (f v u) Q X.xe s₂) X.xe s₁) X.xe s:=by
 refine thn (ha pins s σ H _ I h) fun v s1 zz=>?_
 obtain⟨x,H1,I1,r1,q1⟩:=zz
 refine thn (hb pins s1 σ H1 _ I1 q1) fun u s2 zz=>?_
 obtain⟨y,H2,I2,r2,q2⟩:=zz
 exact hf v u s2 x y H2 I2 r1 r2 q2
theorem pe_op {op:Operator}{r:R2}(ho:OpR X (binaryOp op) r)(ha:PE X a ta)(hb:PE X b tb):PE X (.BinOp a op b pos) (tOp r ta tb):=by
 intro pins s σ H Q I h
 exact wpAny_BinOp (binT ha hb I h fun v u s2 x y H2 I2 rx ry q=>ho pins s2 σ H2 x y v u Q I2 rx ry q)
theorem pe_un {op:UnaryOp}{r:V->Hp->VK->Prop}(ho:UnR X (unaryOp op) r)(ha:PE X a ta):PE X (.UnaryOp op a pos) (tUn r ta):=by
 intro pins s σ H Q I h
 refine UnaryOp_ (thn (ha pins s σ H _ I h) fun v s1 zz=>?_)
 obtain⟨x,H1,I1,r1,q1⟩:=zz
 exact ho pins s1 σ H1 x v Q I1 r1 q1
theorem opI {f:Value->Value->Sem Value}{C:Int->Int->Prop}{g:Int->Int->Int}
  (rule:∀(i j:Int) (t u:Tok) (s:Shared) (Q:Value->Shared->Prop) (E:Value->Shared->Prop),C i j->Q (.int (g i j) s.toks) { s with toks:=s.toks+1 }->wpAny (model X.prog X.w) X.A (f (.int i t) (.int j u)) Q E s) :
  OpR X f (rI C fun i j=>.int (g i j)):=by
 intro pins s σ H x y v u Q I rx ry h
 obtain⟨i,j,rfl,rfl,hc,q⟩:=h
 obtain⟨t,rfl⟩:=rx
 obtain⟨t',rfl⟩:=ry
 exact rule i j t t' s _ _ hc ⟨.int (g i j),H,I.tok _,⟨_,rfl⟩,q⟩
theorem opI0 {f:Value->Value->Sem Value}{g:Int->Int->Int}
  (rule:∀(i j:Int) (t u:Tok) (s:Shared) (Q:Value->Shared->Prop) (E:Value->Shared->Prop),Q (.int (g i j) s.toks) { s with toks:=s.toks+1 }->wpAny (model X.prog X.w) X.A (f (.int i t) (.int j u)) Q E s) :
  OpR X f (rI0 fun i j=>.int (g i j)):=by
 intro pins s σ H x y v u Q I rx ry h
 obtain⟨i,j,rfl,rfl,q⟩:=h
 obtain⟨t,rfl⟩:=rx
 obtain⟨t',rfl⟩:=ry
 exact rule i j t t' s _ _ ⟨.int (g i j),H,I.tok _,⟨_,rfl⟩,q⟩
theorem opB0 {f:Value->Value->Sem Value}{g:Int->Int->Bool}
  (rule:∀(i j:Int) (t u:Tok) (s:Shared) (Q:Value->Shared->Prop) (E:Value->Shared->Prop),Q (.bool (g i j)) s->wpAny (model X.prog X.w) X.A (f (.int i t) (.int j u)) Q E s) :
  OpR X f (rI0 fun i j=>.bl (g i j)):=by
 intro pins s σ H x y v u Q I rx ry h
 obtain⟨i,j,rfl,rfl,q⟩:=h
 obtain⟨t,rfl⟩:=rx
 obtain⟨t',rfl⟩:=ry
 exact rule i j t t' s _ _ ⟨.bl (g i j),H,I,rfl,q⟩
noncomputable def CMul (i j:Int):Prop:=(-(2 ^ 64)<i/\i<2 ^ 64)\/(-(2 ^ 64)<j/\j<2 ^ 64)
theorem CMul.ok {i j:Int}(h:CMul i j):IntMulOk i j:=by
 rcases h with⟨h1,h2⟩ | ⟨h1,h2⟩
 ·exact .of_left (intBits_le_64 h1 h2)
 ·exact .of_right (intBits_le_64 h1 h2)
theorem op_add:OpR X (binaryOp .Add) (rI0 fun i j=>.int (i+j)):=opI0 fun _ _ _ _ _ _ _ q=>add_int q
theorem op_mul:OpR X (binaryOp .Mult) (rI CMul fun i j=>.int (i*j)):=opI fun _ _ _ _ _ _ _ hc q=>mul_int q hc.ok
theorem op_mod:OpR X (binaryOp .Mod) (rI (fun _ j=>0<j) fun i j=>.int (i % j)):=opI fun i j _ _ _ _ _ hc q=>by
 have h1:(0:Int)<j:=hc
 exact mod_int' (by omega) (by rw[Int.fmod_eq_emod_of_nonneg i (by omega)];exact q)
theorem unI {f:Value->Sem Value}{g:Int->Int}
  (rule:∀(i:Int) (t:Tok) (s:Shared) (Q:Value->Shared->Prop) (E:Value->Shared->Prop),Q (.int (g i) s.toks) { s with toks:=s.toks+1 }->wpAny (model X.prog X.w) X.A (f (.int i t)) Q E s) :
  UnR X f (rU fun i=>.int (g i)):=by
 intro pins s σ H x v Q I rx h
 obtain⟨i,rfl,q⟩:=h
 obtain⟨t,rfl⟩:=rx
 exact rule i t s _ _ ⟨.int (g i),H,I.tok _,⟨_,rfl⟩,q⟩
theorem un_neg:UnR X (unaryOp .USub) (rU fun i=>.int (-i)):=unI fun _ _ _ _ _ q=>neg_int q
end
section
variable {X:Cx}{a b c:Expr}{ta tb tc:TE}{pos:Pos}
theorem fin_bl {pins:List (Addr×Obj)}{σ:St}{H:Hp}{s:Shared}{Q:VK}{k k':Bool}(I:Inv X pins σ H s)(q:Q (.bl k) H)(e:k=k'):EP X pins σ Q (.bool k') s:=by
 subst e
 exact⟨.bl k,H,I,rfl,q⟩
theorem op_lt:OpR X (compareOp .Lt) (rI0 fun i j=>.bl (decide (i<j))):=opB0 fun _ _ _ _ _ _ _ q=>lt_int q
theorem op_le:OpR X (compareOp .LtE) (rI0 fun i j=>.bl (decide (i<=j))):=opB0 fun _ _ _ _ _ _ _ q=>le_int q
theorem op_gt:OpR X (compareOp .Gt) (rI0 fun i j=>.bl (decide (j<i))):=opB0 fun _ _ _ _ _ _ _ q=>gt_int q
theorem op_in_str:OpR X (compareOp .In) (fun x y H Q=>∃i j,x=.str i/\y=.str j/\Q (.bl (!(Builtin.Str.occurrences j i 0 j.length 1).isEmpty)) H):=by
 intro pins s σ H x y v u Q I rx ry h
 obtain⟨i,j,rfl,rfl,q⟩:=h
 obtain⟨t,rfl⟩:=rx
 obtain⟨t',rfl⟩:=ry
 exact in_str (fin_bl I q rfl)
theorem OpR.or {f:Value->Value->Sem Value}{r r':R2}(h:OpR X f r)(h':OpR X f r'):OpR X f (fun x y H Q=>r x y H Q\/r' x y H Q):=by
 intro pins s σ H x y v u Q I rx ry q
 rcases q with q | q
 ·exact h pins s σ H x y v u Q I rx ry q
 ·exact h' pins s σ H x y v u Q I rx ry q
theorem nomark (b:Expr){op:CmpOp}(h:op≠.In:=by decide)(h2:op≠.NotIn:=by decide):behindInMarks op b=false:=by
 have e1:(op==CmpOp.In)=false:=by cases op<;>first | rfl | exact absurd rfl h
 have e2:(op==CmpOp.NotIn)=false:=by cases op<;>first | rfl | exact absurd rfl h2
 cases b<;>simp[behindInMarks,e1,e2]
theorem pe_cmpR {op:CmpOp}{r:R2}(ho:OpR X (compareOp op) r)(ha:PE X a ta)(hb:PE X b tb)(hm:behindInMarks op b=false):PE X (.Compare a [op] [b] pos) (tOp r ta tb):=by
 intro pins s σ H Q I h
 exact wpAny_Compare1 (binT ha hb I h fun v u s2 x y H2 I2 rx ry q=>ho pins s2 σ H2 x y v u Q I2 rx ry q) hm
noncomputable def tTest (t:TE):TT:=fun σ H Q=>t σ H fun x H'=>∃k,x=.bl k/\Q k H'
theorem pt_cmpR {op:CmpOp}{r:R2}(ho:OpR X (compareOp op) r)(ha:PE X a ta)(hb:PE X b tb)(hm:behindInMarks op b=false):PT X (.Compare a [op] [b] pos) (tTest (tOp r ta tb)):=by
 intro pins s σ H Q I h
 refine wpAny_isTrue_Compare1 (thn (ha pins s σ H _ I h) fun v s1 zz=>?_) hm
 obtain⟨x,H1,I1,r1,q1⟩:=zz
 refine thn (hb pins s1 σ H1 _ I1 q1) fun u s2 zz=>?_
 obtain⟨y,H2,I2,r2,q2⟩:=zz
 refine thn (ho pins s2 σ H2 x y v u _ I2 r1 r2 q2) fun c s3 zz=>?_
 obtain⟨z,H3,I3,r3,k,e,q3⟩:=zz
 subst e
 cases r3
 exact wpAny_truthy_bool ⟨H3,I3,q3⟩
noncomputable def TruV (K:PySem.W.Frag)(x:V)(H:Hp)(k:Bool):Prop :=
 match x with
 | .non=>k=false
 | .bl b=>k=b
 | .int i=>k=(i != 0)
 | .str y=>y.length<=sizeLine/\k=((y.length:Int) != 0)
 | .byt y=>y.size<=sizeLine/\k=((y.size:Int) != 0)
 | .ref p=>(∃xs,SqL K H p xs/\k=!xs.isEmpty)\/(∃xs,SqT K H p xs/\k=!xs.isEmpty)\/∃kvs,H p=some (.dK kvs)/\k=!kvs.isEmpty
 | _=>False
theorem zl8 {κ:Type}{kvs:List (κ×V)}{vs:List (κ×Value)}(r:KV kvs vs):(!vs.isEmpty)=!kvs.isEmpty:=by
 cases r<;>rfl
theorem zhc {xs:List V}{its:List Value}(r:Vals xs its):(!its.toArray.isEmpty)=!xs.isEmpty:=by
 cases r<;>simp
theorem line63:(sizeLine:Nat)<2 ^ 63:=by rw[sizeLine_eq];decide
theorem tru_ok:TruR X (fun x H Q=>∃k,TruV X.K x H k/\Q k H):=by
 intro pins s σ H x v Q I rx h
 obtain⟨k,e,q⟩:=h
 have hl:=line63
 have hs:sizeLine=16777216:=sizeLine_eq
 cases x with
 | non =>
  cases rx
  have e':k=false:=e
  subst e'
  exact truthy_none ⟨H,I,q⟩
 | bl b =>
  cases rx
  have e':k=b:=e
  subst e'
  exact wpAny_truthy_bool ⟨H,I,q⟩
 | int i =>
  obtain⟨t,rfl⟩:=rx
  have e':k=(i != 0):=e
  subst e'
  exact PySem.P.truthy_int ⟨H,I,q⟩
 | str y =>
  obtain⟨t,rfl⟩:=rx
  obtain⟨hy,e'⟩:y.length<=sizeLine/\k=((y.length:Int) != 0):=e
  subst e'
  exact PySem.P.truthy_str (by omega) ⟨H,I.tok _,q⟩
 | byt y =>
  obtain⟨t,rfl⟩:=rx
  obtain⟨hy,e'⟩:y.size<=sizeLine/\k=((y.size:Int) != 0):=e
  subst e'
  exact PySem.W.truthy_bytes (by omega) ⟨H,I.tok _,q⟩
 | ref p =>
  cases rx
  have e':(∃xs,SqL X.K H p xs/\k=!xs.isEmpty)\/(∃xs,SqT X.K H p xs/\k=!xs.isEmpty)\/∃kvs,H p=some (.dK kvs)/\k=!kvs.isEmpty:=e
  rcases e' with⟨xs,hx,e'⟩ | ⟨xs,hx,e'⟩ | ⟨kvs,hx,e'⟩
  ·subst e'
   obtain⟨its,r,pl,hz⟩:=I.list hx
   have hlen:=r.length
   exact wpAny_truthy_list pl.isList (by simp only[List.size_toArray];omega) ⟨H,I.tok _,by rw[zhc r];exact q⟩
  ·subst e'
   obtain⟨its,r,pl,hz⟩:=I.tuple hx
   have hlen:=r.length
   exact truthy_tuple pl (by simp only[List.size_toArray];omega) ⟨H,I.tok _,by rw[zhc r];exact q⟩
  ·subst e'
   obtain⟨hz,hS,vs,r,m⟩:kvs.length<=sizeLine/\(p==sysModules)=false/\∃vs,KV kvs vs/\s.heap.DictOf (mixKind X.prog X.w) p vs:=I.hok p _ hx
   have hlen:kvs.length=vs.length:=Paired.length r
   exact wpAny_truthy_dict hS m (by omega) ⟨H,I.tok _,by rw[zl8 r];exact q⟩
 | _=>exact (show False from e).elim
theorem pt_truth (ha:PE X a ta)(he:∀whole,isTrue a X.env whole=(do let v <-whole;standAt a.pos;holding [v] (truthy v))) :
  PT X a (fun σ H Q=>ta σ H fun x H'=>∃k,TruV X.K x H' k/\Q k H'):=by
 intro pins s σ H Q I h
 refine isTrue_plain (thn (ha pins s σ H _ I h) fun v s1 zz=>?_) (he _)
 obtain⟨x,H1,I1,r1,q1⟩:=zz
 exact tru_ok pins s1 σ H1 x v Q I1 r1 q1
theorem zlv:OpR X (binaryOp .Add) (fun x y H Q=>∃i j,x=.str i/\y=.str j/\i.length+j.length<=sizeLine/\Q (.str (i++j)) H):=by
 intro pins s σ H x y v u Q I rx ry h
 obtain⟨i,j,rfl,rfl,hz,q⟩:=h
 obtain⟨t,rfl⟩:=rx
 obtain⟨t',rfl⟩:=ry
 exact add_str (fun t' tk=>⟨.str (i++j),H,I.tok _,⟨_,rfl⟩,q⟩) hz
theorem vals1 {x:V}{us:List Value}(r:Vals [x] us):∃u,us=[u]/\RelV x u:=by
 cases r with
 | cons r1 r2=>cases r2;exact⟨_,rfl,r1⟩
theorem vals2 {x y:V}{us:List Value}(r:Vals [x,y] us):∃u w',us=[u,w']/\RelV x u/\RelV y w':=by
 cases r with
 | cons r1 r2 =>
  cases r2 with
  | cons r3 r4=>cases r4;exact⟨_,_,rfl,r1,r3⟩
theorem call_int1:CallR X (.type "int") (fun xs H Q=>(∃i,xs=[.int i]/\Q (.int i) H)\/∃k,xs=[.bl k]/\Q (.int (if k then 1 else 0)) H):=by
 intro pins s σ H xs us Q I r h
 rcases h with⟨i,rfl,q⟩ | ⟨k,rfl,q⟩
 ·obtain⟨u,rfl,t,rfl⟩:=vals1 r
  exact call_int_int ⟨.int i,H,I,⟨_,rfl⟩,q⟩
 ·obtain⟨u,rfl,r1⟩:=vals1 r
  cases r1
  exact call_int_bool ⟨.int (if k then 1 else 0),H,I.tok _,⟨_,rfl⟩,q⟩
end
end L2
namespace L2
open PySem PySem.Spec PyProof.Rows
structure ObjM (h:Heap)(x dx C:Addr)(mA:Str->Option Value):Prop where
 obj:h.get? x=some (PySem.W.instObj C dx)
 ns:h.Ns1 dx mA
 ne:dx≠x
theorem lookIn_ns {h:Heap}{dx:Addr}{mA:Str->Option Value}(n:h.Ns1 dx mA):∃od,h.get? dx=some od/\∀name,PySem.W.lookIn name od=some (mA name):=by
 obtain⟨o,es,ep,ho,hd,hk,_,hm⟩:=n
 refine⟨o,ho,fun name=>?_⟩
 have e:=hm name
 unfold nsFind findBy at e
 rw[<-Array.find?_toList]at e
 unfold PySem.W.lookIn
 rw[hd]
 dsimp only
 split
 ·rename_i y q
  rw[q]at e
  exact congrArg some e
 ·rename_i q
  rw[q]at e
  have a:es.toList.any (·.refKey)=false:=by
   rw[List.any_eq_false]
   intro y hy
   obtain⟨z,t,hkey⟩:=hk y (Array.mem_toList_iff.mp hy)
   simp[DictEntry.refKey,hkey]
  have a':¬ es.toList.any (·.refKey)=true:=by rw[a];exact Bool.false_ne_true
  rw[if_neg a']
  exact congrArg some e
theorem ObjM.look {h:Heap}{x dx C:Addr}{mA:Str->Option Value}(I:ObjM h x dx C mA):∃od,PySem.W.InstAt h x (PySem.W.instObj C dx) C (some od)/\∀name,PySem.W.lookIn name od=some (mA name) :=
 let ⟨od,ho,hl⟩:=lookIn_ns I.ns
 ⟨od,⟨I.obj,rfl,rfl,ho⟩,hl⟩
section
variable {prog:Program}{w:World}{A:Around}{E:Value->Shared->Prop}{s:Shared}{K:PySem.W.Frag}{x dx C f:Addr}{mA:Str->Option Value}{name:Str}{v:Value}
theorem get_map {expr:Bool}{Q:Value->Shared->Prop}(X:K.In s.heap)(I:ObjM s.heap x dx C mA)(hg:PySem.W.plainGet K C name=true)(hh:PySem.W.hasDictIn K C=true)
  (ha:PySem.W.findIn K (.ref C) name=some none) (hv:mA name=some v) (hv':PySem.W.handedIn v=true) (h:Q v { s with toks:=s.toks+1 }) :
  wpAny (model prog w) A (getAttr (.ref x) name expr) Q E s:=by
 obtain⟨od,J,hl⟩:=I.look
 exact PySem.W.get_value X J (PySem.W.plainGet_of hg).1 (PySem.W.findObj_own hh ha rfl (by rw[hl,hv])) hv' h
theorem get_meth {pl:Sem Bool}{Q:Value×List Value->Shared->Prop}(X:K.In s.heap)(I:ObjM s.heap x dx C mA)(hg:PySem.W.plainGet K C name=true)
  (hf:PySem.W.findIn K (.ref C) name=some (some (.ref f))) (ht:PySem.W.isFn K (.ref f)=true) (hv:mA name=none) (h:Q (.ref f,[.ref x]) s) :
  wpAny (model prog w) A (getMethod (.ref x) name pl) Q E s:=by
 obtain⟨od,J,hl⟩:=I.look
 exact PySem.W.method_fn X J (PySem.W.plainGet_of hg).1 (PySem.W.plainGet_of hg).2 hf (beq_iff_eq.mp ht) (by show (PySem.W.lookIn name od).map (·.isSome)=some false;rw[hl,hv];rfl) h
theorem set_map {ns:List Str}{Q:Unit->Shared->Prop}(X:K.In s.heap)(I:ObjM s.heap x dx C mA)
  (hs:PySem.W.findIn K (.ref C) "__setattr__" = some (some (.builtin "object.__setattr__"))) (hp:PySem.W.plainOver K C=true) (ht:PySem.W.takerIn K C name=some none) (hh:PySem.W.hasDictIn K C=true)
  (hw:PySem.Within mA ns) (hsz:ns.length<=sizeLine)
  (h:∀h',ObjM h' x dx C (fun y=>if y=name then some v else mA y)->Heap.SameBut dx s.heap h'->Q () { s with heap:=h',toks:=s.toks+2 }) :
  wpAny (model prog w) A (setAttr (.ref x) name v) Q E s:=by
 obtain⟨od,J,hl⟩:=I.look
 refine PySem.W.set_plain X J hs (PySem.W.osa_open (s:={ s with toks:=s.toks+1 }) (r:=none) X J hp ht fun b=>?_)
 obtain⟨cd,hc,hd'⟩:=PySem.W.any_some hh
 have hx:s.heap.get? x=some ⟨.ref C,some dx,.plain,#[]⟩:=I.obj
 refine wpAny_bind (wpAny_pure (wpAny_bind (wpAny_bind (wpAny_loadPart hx (wpAny_bind (PySem.W.Looks.here (s:={ s with toks:=s.toks+1 }) (PySem.W.looks_clsIn X hc) ?_))))))
 rw[hd']
 refine wpAny_pure (a:=some dx) (wpAny_bind (wpAny_pure (wpAny_bind ?_)))
 refine wpAny_nsSet1 (s:={ s with toks:=s.toks+1 }) I.ns fun h' hn2 hs2=>?_
 obtain⟨oD,esD,epD,hoD,hdD,hcD⟩:=hn2.count (PySem.Within.cons name v hw)
 refine wpAny_bind (wpAny_lookBehind hoD (by rw[hdD];exact pastItsLine_dict (Nat.le_trans hcD (by rw[List.length_cons];omega))) ?_)
 exact wpAny_pure (h _ ⟨(hs2.2 _ (Ne.symm I.ne)).trans I.obj,hn2,I.ne⟩ hs2)
theorem make_map {R:Result->Shared->Prop}{vs:List Value}{kw:List (Str×Value)}(X:K.In s.heap)(hm:PySem.W.makesIn K C=true)
  (hi:PySem.W.findIn K (.ref C) "__init__" = some (some (.ref f))) (hf:PySem.W.typeIn K (.ref f)=some (.type "function"))
  (h:codeAny (model prog w) (A.under (.builtin "type.__call__" ⟨.ref C::vs,kw⟩)) (.call (.ref f) ⟨.ref (s.heap.objs.size+1)::vs,kw⟩) (PySem.W.InitBack (s.heap.objs.size+1) R)
   { s with heap:=(s.heap.push PySem.W.emptyDict).push (PySem.W.instObj C s.heap.objs.size) }) :
  codeAny (model prog w) A (.call (.ref C) ⟨vs,kw⟩) R s:=by
 obtain⟨hh,g,d,t,os⟩:=s
 exact PySem.W.make_core (PySem.W.makes_of X hm) (PySem.W.looks_findIn X hi) (fun self=>PySem.W.bind_fn X self hf) (.inl rfl) h
end
noncomputable def putF (f:Str)(v:V):List (Str×V)->List (Str×V)
 | []=>[(f,v)]
 | (g,x)::r=>if g=f then (g,v)::r else (g,x)::putF f v r
theorem zgh (f g:Str)(v:V):∀fs:List (Str×V),(putF f v fs).lookup g=if g=f then some v else fs.lookup g
 | []=>by
  show List.lookup g [(f,v)]=_
  by_cases h:g=f
  ·have hb:(g==f)=true:=beq_iff_eq.mpr h
   simp only[List.lookup,hb,if_pos h]
  ·have hb:(g==f)=false:=beq_eq_false_iff_ne.mpr h
   simp only[List.lookup,hb,if_neg h]
 | (k,x)::r=>by
  have ih:=zgh f g v r
  rw[show putF f v ((k,x)::r)=(if k=f then (k,v)::r else (k,x)::putF f v r) from rfl]
  by_cases hk:k=f
  ·rw[if_pos hk]
   by_cases h:g=k
   ·have hb:(g==k)=true:=beq_iff_eq.mpr h
    simp only[List.lookup,hb,if_pos (h.trans hk)]
   ·have hb:(g==k)=false:=beq_eq_false_iff_ne.mpr h
    simp only[List.lookup,hb,if_neg (fun e:g=f=>h (e.trans hk.symm))]
  ·rw[if_neg hk]
   by_cases h:g=k
   ·have hb:(g==k)=true:=beq_iff_eq.mpr h
    simp only[List.lookup,hb,if_neg (fun e:g=f=>hk (h.symm.trans e))]
   ·have hb:(g==k)=false:=beq_eq_false_iff_ne.mpr h
    simp only[List.lookup,hb]
    exact ih
theorem zgm (f:Str)(v:V):∀fs:List (Str×V),f∈(putF f v fs).map (·.1)/\∀g,g∈fs.map (·.1)->g∈(putF f v fs).map (·.1)
 | []=>⟨by simp[putF],fun g h=>by simp at h⟩
 | (k,x)::r=>by
  obtain⟨i1,i2⟩:=zgm f v r
  rw[show putF f v ((k,x)::r)=(if k=f then (k,v)::r else (k,x)::putF f v r) from rfl]
  by_cases hk:k=f
  ·rw[if_pos hk]
   subst hk
   exact⟨by simp,fun g h=>by simpa using h⟩
  ·rw[if_neg hk]
   refine⟨?_,fun g h=>?_⟩
   ·rw[List.map_cons]
    exact List.mem_cons_of_mem _ i1
   ·rw[List.map_cons]at h ⊢
    rcases List.mem_cons.mp h with e | e
    ·exact List.mem_cons.mpr (.inl e)
    ·exact List.mem_cons_of_mem _ (i2 g e)
theorem zgf (f:Str)(v:V):∀fs:List (Str×V),(putF f v fs).length<=fs.length+1
 | []=>by simp[putF]
 | (k,x)::r=>by
  have ih:=zgf f v r
  rw[show putF f v ((k,x)::r)=(if k=f then (k,v)::r else (k,x)::putF f v r) from rfl]
  by_cases hk:k=f
  ·rw[if_pos hk,List.length_cons,List.length_cons];omega
  ·rw[if_neg hk,List.length_cons,List.length_cons];omega
theorem RelO.some_of {v:V}{o:Option Value}(r:RelO (some v) o):∃u,o=some u/\RelV v u:=by
 cases o with
 | none=>exact (show False from r).elim
 | some u=>exact⟨u,rfl,r⟩
theorem RelO.none_of {o:Option Value}(r:RelO none o):o=none:=by
 cases o with
 | none=>rfl
 | some u=>exact (show False from r).elim
theorem handed_of {v:V}{u:Value}(r:RelV v u):PySem.W.handedIn u=true:=by
 cases v with
 | non=>cases (show u=Value.none from r);rfl
 | bl b=>cases (show u=Value.bool b from r);rfl
 | int i=>obtain⟨t,e⟩:=(show ∃t,u=Value.int i t from r);cases e;rfl
 | str x=>obtain⟨t,e⟩:=(show ∃t,u=Value.str x t from r);cases e;rfl
 | byt b=>obtain⟨t,e⟩:=(show ∃t,u=Value.bytes b t from r);cases e;rfl
 | flt b=>obtain⟨t,e⟩:=(show ∃t,u=Value.float b t from r);cases e;rfl
 | ref a=>cases (show u=Value.ref a from r);rfl
 | ty n=>cases (show u=Value.type n from r);rfl
section
variable {P:Program}{w:World}{H H':Hp}{h h':Heap}{a C dx:Addr}{fs fs':List (Str×V)}
theorem zi1 (hok:HOk P w H h)(e:H a=some (.ins C dx fs)):∃mA,ObjM h a dx C mA/\(∀f,RelO (fs.lookup f) (mA f))/\PySem.Within mA (fs.map (·.1))/\fs.length<=1000/\H dx=some (.own a):=by
 obtain⟨d,z,ne,ob,mA,n,r,q⟩:=(show ObjOk P w H h a (.ins C dx fs) from hok a _ e)
 exact⟨mA,⟨ob,n,ne⟩,r,q,z,d⟩
end
structure Cls (K:PySem.W.Frag)(C:Addr):Prop where
 pg:PySem.W.plainGet K C Str.empty=true
 hd:PySem.W.hasDictIn K C=true
 po:PySem.W.plainOver K C=true
 sa:PySem.W.findIn K (.ref C) "__setattr__" = some (some (.builtin "object.__setattr__"))
theorem Cls.get {K:PySem.W.Frag}{C:Addr}(c:Cls K C)(f:Str):PySem.W.plainGet K C f=true:=c.pg
noncomputable def NoAttr (K:PySem.W.Frag)(C:Addr)(f:Str):Prop:=PySem.W.findIn K (.ref C) f=some none
theorem NoAttr.taker {K:PySem.W.Frag}{C:Addr}{f:Str}(n:NoAttr K C f):PySem.W.takerIn K C f=some none:=by
 unfold PySem.W.takerIn
 rw[show PySem.W.findIn K (.ref C) f=some none from n]
 rfl
structure Con (K:PySem.W.Frag)(C:Addr)(f:Str)(v:V)(u:Value):Prop where
 at_:PySem.W.findIn K (.ref C) f=some (some u)
 rel:RelV v u
 get:PySem.W.specialIn K u "__get__" = some none
 cp:PySem.W.copiedNames.contains f=false
structure Meth (K:PySem.W.Frag)(C:Addr)(m:Str)(f:Addr):Prop where
 at_:PySem.W.findIn K (.ref C) m=some (some (.ref f))
 fn:PySem.W.isFn K (.ref f)=true
 kp:PySem.W.keepIn K (.ref f)=true
section
variable {X:Cx}{pins:List (Addr×Obj)}{σ:St}{H:Hp}{s:Shared}{a C dx:Addr}{fs:List (Str×V)}{f:Str}{v:V}{A:Around}{E:Value->Shared->Prop}
theorem zkp {b:Bool}{Q:Value->Shared->Prop}(I:Inv X pins σ H s)(e:H a=some (.ins C dx fs))(c:Cls X.K C)(n:NoAttr X.K C f)(l:fs.lookup f=some v)
  (h:∀u s',Inv X pins σ H s'->RelV v u->Q u s'):wpAny (model X.prog X.w) A (getAttr (.ref a) f b) Q E s:=by
 obtain⟨mA,O,r,_,_,_⟩:=zi1 I.hok e
 obtain⟨u,hu,ru⟩:=RelO.some_of (v:=v) (o:=mA f) (by rw[<-l];exact r f)
 exact get_map I.kIn O (c.get f) c.hd n hu (handed_of ru) (h u _ (I.tok _) ru)
theorem zlt {m:Str}{g:Addr}{pl:Sem Bool}{Q:Value×List Value->Shared->Prop}(I:Inv X pins σ H s)(e:H a=some (.ins C dx fs))(c:Cls X.K C)(k:Meth X.K C m g)(l:fs.lookup m=none)
  (h:Q (.ref g,[.ref a]) s):wpAny (model X.prog X.w) A (getMethod (.ref a) m pl) Q E s:=by
 obtain⟨mA,O,r,_,_,_⟩:=zi1 I.hok e
 have hn:mA m=none:=RelO.none_of (by rw[<-l];exact r m)
 exact get_meth I.kIn O (c.get m) k.at_ k.fn hn h
theorem zk9 {y:V}{u:Value}{Q:Unit->Shared->Prop}(I:Inv X pins σ H s)(e:H a=some (.ins C dx fs))(c:Cls X.K C)(n:NoAttr X.K C f)(hl:fs.length<1000)(ry:RelV y u)
  (h:∀s',Inv X pins σ (upd H a (.ins C dx (putF f y fs))) s'->Q () s'):wpAny (model X.prog X.w) A (setAttr (.ref a) f u) Q E s:=by
 obtain⟨mA,O,r,wi,_,ho⟩:=zi1 I.hok e
 have hz:(fs.map (·.1)).length<=sizeLine:=by rw[List.length_map,sizeLine_eq];omega
 refine set_map I.kIn O c.sa c.po n.taker c.hd wi hz fun h' O' sb=>h _ ?_
 have hd:∃o,h'.get? dx=some o:=let ⟨o,_,_,e',_⟩:=O'.ns;⟨o,e'⟩
 refine I.write (x:=a) (e:=dx) (by rw[e];exact True.intro) (.inr ho) (fun b q hb z=>(sb.2 b hb).trans z) hd ?_
 refine⟨by rw[zai O.ne];exact ho,?_,O.ne,O'.obj,_,O'.ns,fun g=>?_,fun g hg=>?_⟩
 ·have:=zgf f y fs;omega
 ·show RelO ((putF f y fs).lookup g) (if g=f then some u else mA g)
  rw[zgh]
  by_cases q:g=f
  ·rw[if_pos q,if_pos q];exact ry
  ·rw[if_neg q,if_neg q];exact r g
 ·by_cases q:g=f
  ·rw[q];exact (zgm f y fs).1
  ·refine (zgm f y fs).2 g (wi g fun z=>hg ?_)
   show (if g=f then some u else mA g)=none
   rw[if_neg q];exact z
theorem Inv.made (I:Inv X pins σ H s):Inv X pins σ (upd (upd H s.heap.objs.size (.own (s.heap.objs.size+1))) (s.heap.objs.size+1) (.ins C s.heap.objs.size []))
  { s with heap:=(s.heap.push PySem.W.emptyDict).push (PySem.W.instObj C s.heap.objs.size) }:=by
 have e1:(s.heap.push PySem.W.emptyDict).get? s.heap.objs.size=some PySem.W.emptyDict:=Heap.get?_push_size s.heap rfl
 have e2:((s.heap.push PySem.W.emptyDict).push (PySem.W.instObj C s.heap.objs.size)).get? (s.heap.objs.size+1)=some (PySem.W.instObj C s.heap.objs.size):=by
  have:=Heap.get?_push_size (s.heap.push PySem.W.emptyDict) (o:=PySem.W.instObj C s.heap.objs.size) rfl
  rwa[Heap.size_push]at this
 have e3:(s.heap.push PySem.W.emptyDict).Ns s.heap.objs.size (fun _=>none):=⟨PySem.W.emptyDict,#[],_,e1,rfl,(fun e he=>absurd he (by simp)),fun _=>rfl⟩
 have I1:=I.laid (a:=s.heap.objs.size) (o:=.own (s.heap.objs.size+1)) (h':=s.heap.push PySem.W.emptyDict) (t':=s.toks) (fun b u q=>Heap.get?_push_of_some _ q) (Nat.le_refl _) ⟨_,e1⟩
 refine I1.laid (a:=s.heap.objs.size+1) (o:=.ins C s.heap.objs.size []) (t':=s.toks) (fun b u q=>Heap.get?_push_of_some _ q) (Nat.le_of_eq (Heap.size_push _ _)) ?_
 have ne:s.heap.objs.size≠s.heap.objs.size+1:=Nat.ne_of_lt (Nat.lt_succ_self _)
 refine⟨by rw[zai ne,zah],Nat.zero_le _,ne,e2,fun _=>none,(Heap.Ns1.of_empty e3).at fun o q=>Heap.get?_push_of_some _ q,fun _=>True.intro,fun y hy=>absurd rfl hy⟩
theorem attr_of {prog:Program}{w:World}{env:Env}{e:Expr}{f:Str}{pos:Pos}{s:Shared}{Q:Value->Shared->Prop}(hb:attributeBase e f env (eval e env)=eval e env)
  (h:wpAny (model prog w) A (eval e env) (fun o s₁=>wpAny (model prog w) A (getAttr o f true) Q E s₁) E s):wpAny (model prog w) A (eval (.Attribute e f pos) env) Q E s :=
 Attribute_any_ h (by rw[arm_eval_Attribute,hb])
end
noncomputable def tFld (K:PySem.W.Frag)(ta:TE)(f:Str):TE:=fun σ H Q=>ta σ H fun x H1=>∃a C dx fs v,x=.ref a/\H1 a=some (.ins C dx fs)/\Cls K C/\NoAttr K C f/\fs.lookup f=some v/\Q v H1
noncomputable def sFld (K:PySem.W.Frag)(ta tv:TE)(f:Str):TS:=fun D σ H=>tv σ H fun y H1=>ta σ H1 fun x H2=>∃a C dx fs,x=.ref a/\H2 a=some (.ins C dx fs)/\Cls K C/\NoAttr K C f/\fs.length<1000 /\
 D.nx σ (upd H2 a (.ins C dx (putF f y fs)))
section
variable {X:Cx}{o e value:Expr}{f:Str}{pos pos' tpos:Pos}{ta tv:TE}
theorem pe_fld (he:PE X e ta)(hb:attributeBase e f X.env (eval e X.env)=eval e X.env):PE X (.Attribute e f pos) (tFld X.K ta f):=by
 intro pins s σ H Q I h
 refine attr_of hb (thn (he pins s σ H _ I h) fun u s1 zz=>?_)
 obtain⟨x,H1,I1,rx,a,C,dx,fs,v,ex,ea,c,n,l,q⟩:=zz
 subst ex
 obtain rfl:u=Value.ref a:=rx
 exact zkp I1 ea c n l fun u' s2 I2 ru=>⟨v,H1,I2,ru,q⟩
theorem ps_fld (ha:PE X o ta)(hv:PE X value tv)(hs:swapsWith value (some (.Attribute o f pos')) pos.line X.env=pure false):PS X (.Assign [.Attribute o f pos'] value pos) (sFld X.K ta tv f):=by
 intro pins s σ H D I h
 refine plainObj_wpAny_Assign_Attribute (thn (hv pins s σ H _ I h) fun u s1 zz=>?_) hs
 obtain⟨y,H1,I1,ry,q⟩:=zz
 refine thn (ha pins s1 σ H1 _ I1 q) fun ov s2 zz=>?_
 obtain⟨x,H2,I2,rx,a,C,dx,fs,ex,ea,c,n,l,q2⟩:=zz
 subst ex
 obtain rfl:ov=Value.ref a:=rx
 exact zk9 I2 ea c n l ry fun s3 I3=>⟨σ,_,I3,q2⟩
end
section
variable {X:Cx}{pins:List (Addr×Obj)}{σ:St}{H:Hp}{s:Shared}{A:Around}{E:Value->Shared->Prop}{Q:Value->Shared->Prop}{c:Value}{b:Bool}
inductive TyOf (K:PySem.W.Frag) (H:Hp):V->Value->Prop where
 | non:TyOf K H .non (.type "NoneType")
 | bl (x:Bool):TyOf K H (.bl x) (.type "bool")
 | int (i:Int):TyOf K H (.int i) (.type "int")
 | str (x:Str):TyOf K H (.str x) (.type "str")
 | flt (x:UInt64):TyOf K H (.flt x) (.type "float")
 | lst {a:Addr} {xs:List V} (e:H a=some (.lst xs)):TyOf K H (.ref a) (.type "list")
 | frz {a:Addr} {o:Obj} {xs:List V} (e:H a=some (.frz o (.lst xs))):TyOf K H (.ref a) (.type "list")
 | tup {a:Addr} {xs:List V} (e:H a=some (.tup xs)):TyOf K H (.ref a) (.type "tuple")
 | dK {a:Addr} {kvs:List (Key×V)} (e:H a=some (.dK kvs)):TyOf K H (.ref a) (.type "dict")
 | dT {a:Addr} {kvs:List (List Key×V)} (e:H a=some (.dT kvs)):TyOf K H (.ref a) (.type "dict")
 | ins {a C dx:Addr} {fs:List (Str×V)} (e:H a=some (.ins C dx fs)) (cl:Cls K C) (ha:PySem.W.findIn K (.ref C) "__class__" = some (some (.builtin "object.__class__")))
   (hn:PySem.W.specialIn K (.builtin "object.__class__") "__get__" = some (some (.builtin "getset_descriptor.__get__"))) (htk:PySem.W.takesIn K (.builtin "object.__class__")=some true)
   (hm:PySem.W.mroIn K C (.type "object")=some true):TyOf K H (.ref a) (.ref C)
theorem zdn {x:V}{u t:Value}(I:Inv X pins σ H s)(rx:RelV x u)(ty:TyOf X.K H x t)(e:PySem.W.kitOne X.K t c=some b)(h:∀tk,Q (.bool b) { s with toks:=tk }) :
  wpAny (model X.prog X.w) A (call (.builtin "isinstance") [u,c]) Q E s:=by
 cases ty with
 | non=>cases (show u=Value.none from rx);exact PySem.W.kia_one PySem.W.kitx_none I.kIn True.intro e (fun z=>nomatch z) h
 | bl y=>cases (show u=Value.bool y from rx);exact PySem.W.kia_one PySem.W.kitx_bool I.kIn True.intro e (fun z=>nomatch z) h
 | int i=>obtain⟨t,q⟩:=(show ∃t,u=Value.int i t from rx);cases q;exact PySem.W.kia_one PySem.W.kitx_int I.kIn True.intro e (fun z=>nomatch z) h
 | str y=>obtain⟨t,q⟩:=(show ∃t,u=Value.str y t from rx);cases q;exact PySem.W.kia_one PySem.W.kitx_str I.kIn True.intro e (fun z=>nomatch z) h
 | flt y=>obtain⟨t,q⟩:=(show ∃t,u=Value.float y t from rx);cases q;exact PySem.W.kia_one PySem.W.kitx_float I.kIn True.intro e (fun z=>nomatch z) h
 | @lst a xs ea =>
  cases (show u=Value.ref a from rx)
  obtain⟨_,_,n,_,h1⟩:=(show ObjOk X.prog X.w H s.heap a (.lst xs) from I.hok a _ ea)
  exact PySem.W.kia_one PySem.W.kitx_list I.kIn ⟨_,h1,rfl⟩ e (fun z=>nomatch z) h
 | @frz a ob xs ea =>
  cases (show u=Value.ref a from rx)
  obtain⟨_,_,_,n,_,h1⟩:=(show ObjOk X.prog X.w H s.heap a (.frz ob (.lst xs)) from I.hok a _ ea)
  exact PySem.W.kia_one PySem.W.kitx_list I.kIn ⟨_,h1,rfl⟩ e (fun z=>nomatch z) h
 | @tup a xs ea =>
  cases (show u=Value.ref a from rx)
  obtain⟨_,_,_,p⟩:=(show ObjOk X.prog X.w H s.heap a (.tup xs) from I.hok a _ ea)
  obtain⟨o,h1,h2,_⟩:=p
  exact PySem.W.kia_one PySem.W.kitx_tuple I.kIn ⟨o,h1,h2⟩ e (fun z=>nomatch z) h
 | @dK a kvs ea =>
  cases (show u=Value.ref a from rx)
  obtain⟨_,_,vs,_,p⟩:=(show ObjOk X.prog X.w H s.heap a (.dK kvs) from I.hok a _ ea)
  obtain⟨o,es,ep,h1,h2,_⟩:=p
  exact PySem.W.kia_one PySem.W.kitx_dict I.kIn ⟨o,h1,h2.1⟩ e (fun z=>nomatch z) h
 | @dT a kvs ea =>
  cases (show u=Value.ref a from rx)
  obtain⟨_,_,xs,_,o,es,ep,h1,h2,_⟩:=(show ObjOk X.prog X.w H s.heap a (.dT kvs) from I.hok a _ ea)
  exact PySem.W.kia_one PySem.W.kitx_dict I.kIn ⟨o,h1,h2.1⟩ e (fun z=>nomatch z) h
 | @ins a C dx fs ea cl ha hn htk hm =>
  cases (show u=Value.ref a from rx)
  obtain⟨mA,O,_⟩:=zi1 I.hok ea
  obtain⟨od,J,_⟩:=O.look
  exact PySem.W.kia_one (PySem.W.kitx_own (cl.get _) cl.hd ha hn htk hm) I.kIn J e (fun z=>nomatch z) h
end
end L2
namespace L2
open PySem PySem.Spec PyProof.Rows
structure Room (k:Nat)(A:Around):Prop where
 hd:A.handled=none
 dp:A.depth+3*k+5<recursionLimit
 un:A.units+16*k+200<cLine
theorem Room.mono {j k:Nat}{A:Around}(r:Room k A)(h:j<=k):Room j A:=⟨r.hd,by have:=r.dp;omega,by have:=r.un;omega⟩
theorem Room.deeper {k:Nat}{A:Around}(r:Room (k+1) A)(env:Env):Room k (A.deeper env) :=
 ⟨r.hd,by have:=r.dp;show A.depth+1+3*k+5<_;omega,by have:=r.un;show A.units+3+16*k+200<_;omega⟩
theorem zkn {A:Around}{C:Addr}{us:List Value}{kw:List (Str×Value)}:(A.under (.builtin "type.__call__" ⟨.ref C::us,kw⟩)).depth=A.depth+1:=by
 first | rfl | simp[Around.under,Code.weight,Code.isCreation,Code.isGuard,Code.isCaller,Code.frames,Code.isFrame,guardIds]
theorem zlf {A:Around}{C:Addr}{us:List Value}{kw:List (Str×Value)}:(A.under (.builtin "type.__call__" ⟨.ref C::us,kw⟩)).units=A.units+1:=by
 first | rfl | simp[Around.under,Code.cUnits,Code.frames,Code.isFrame]
theorem Room.make {k:Nat}{A:Around}(r:Room (k+1) A)(C:Addr)(us:List Value)(kw:List (Str×Value)):Room k (A.under (.builtin "type.__call__" ⟨.ref C::us,kw⟩)) :=
 ⟨r.hd,by have:=r.dp;rw[zkn];omega,by have:=r.un;rw[zlf];omega⟩
theorem Room.depth {k:Nat}{A:Around}(r:Room k A):A.depth<recursionLimit:=by have:=r.dp;omega
theorem Room.units {k:Nat}{A:Around}(r:Room k A):A.units+64<cLine:=by have:=r.un;omega
noncomputable def tNil:TA:=fun _ H Q=>Q [] H
noncomputable def tCons (ta:TE)(tr:TA):TA:=fun σ H Q=>ta σ H fun x H1=>tr σ H1 fun xs H2=>Q (x::xs) H2
section
variable {X:Cx}{e:Expr}{es:List Expr}{te:TE}{t:TA}{pos:Pos}
theorem pa_nil:PA X [] tNil:=fun _ _ _ _ H Q I h=>Calls.spliced_nil ⟨[],H,I,.nil,h⟩
theorem zfe (ha:PE X e te)(hr:PA X es t)(hs:starEach (e::es) X.env=(false,eval e X.env)::starEach es X.env:=by rfl):PA X (e::es) (tCons te t):=by
 intro pos pins s σ H Q I h
 rw[hs]
 show wpAny _ _ (spliced ((false,eval e X.env)::backTo pos (starEach es X.env))) _ _ s
 refine Calls.spliced_cons (thn (ha pins s σ H _ I h) fun u s1 zz=>?_)
 obtain⟨x,H1,I1,r1,q1⟩:=zz
 refine thn (hr pos pins s1 σ H1 _ I1 q1) fun us s2 zz=>?_
 obtain⟨xs,H2,I2,r2,q2⟩:=zz
 exact⟨x::xs,H2,I2,.cons r1 r2,q2⟩
noncomputable def tTup (t:TA):TE:=fun σ H Q=>t σ H fun xs H1=>xs.length<=sizeLine/\∀p,H1 p=none->Q (.ref p) (upd H1 p (.tup xs))
noncomputable def tLst (t:TA):TE:=fun σ H Q=>t σ H fun xs H1=>xs.length<=sizeLine/\∀p,H1 p=none->Q (.ref p) (upd H1 p (.lst xs))
theorem pe_tup {x1}(h:PA X es t):PE X (.Tuple es x1 pos) (tTup t):=by
 intro pins s σ H Q I hq
 refine wpAny_Tuple_spliced (thn (h pos pins s σ H _ I hq) fun us s1 zz=>?_)
 obtain⟨xs,H1,I1,r,z,q⟩:=zz
 refine⟨by rw[<-r.length];exact z,?_⟩
 have hf:H1 s1.heap.objs.size=none:=I1.hok.fresh (Nat.le_refl _)
 refine⟨.ref s1.heap.objs.size,upd H1 s1.heap.objs.size (.tup xs),I1.laid (t':=s1.toks) (fun b u e=>Heap.get?_push_of_some _ e) (Nat.le_refl _) ?_,rfl,q _ hf⟩
 exact⟨z,us,r,⟨_,Heap.get?_push_size _ rfl,rfl,_,rfl⟩⟩
theorem pe_lst (h:PA X es t):PE X (.List es pos) (tLst t):=by
 intro pins s σ H Q I hq
 refine wpAny_List_spliced (thn (h pos pins s σ H _ I hq) fun us s1 zz=>?_)
 obtain⟨xs,H1,I1,r,z,q⟩:=zz
 refine⟨by rw[<-r.length];exact z,?_⟩
 have hf:H1 s1.heap.objs.size=none:=I1.hok.fresh (Nat.le_refl _)
 refine⟨.ref s1.heap.objs.size,upd H1 s1.heap.objs.size (.lst xs),I1.laid (t':=s1.toks) (fun b u e=>Heap.get?_push_of_some _ e) (Nat.le_refl _) ?_,rfl,q _ hf⟩
 exact⟨z,us,0,r,Heap.get?_push_size _ rfl⟩
end
noncomputable abbrev Sp:=List V->Hp->VK->XK->Prop
noncomputable abbrev CXT:=List Env->Hp->Shared->XK->Value->Shared->Prop
structure Env0 (P:Program)(w:World)(K:PySem.W.Frag)(mg:Str->Option Value)(base:Heap)(A:Around)(outer:List Env)(s:Shared)(H:Hp):Prop where
 frames:A.frames=some outer
 mod:Mod K mg base
 bs:∀b o,base.get? b=some o->s.heap.get? b=some o/\H b=none
 bsz:base.objs.size<=s.heap.objs.size
 funs:s.heap.FunFrames base outer
 frf:∀b∈frs outer,H b=none
 hok:HOk P w H s.heap
 bare:AllBare s.gens
noncomputable def CE (outer:List Env)(P:Program)(w:World)(H:Hp)(s:Shared)(Q:VK)(u:Value)(s':Shared):Prop :=
 ∃v H',s'.os=s.os/\AllBare s'.gens/\Un (frs outer) [] H H' s.heap s'.heap/\HOk P w H' s'.heap/\RelV v u/\Q v H'
noncomputable def CR (CX:CXT)(outer:List Env)(P:Program)(w:World)(H:Hp)(s:Shared)(Q:VK)(E:XK)(r:Result)(s':Shared):Prop :=
 match r with
 | .ok (.ret u)=>CE outer P w H s Q u s'
 | .ok _=>False
 | .error e=>CX outer H s E e s'
structure FnOk (P:Program)(w:World)(K:PySem.W.Frag)(mg:Str->Option Value)(base:Heap)(CX:CXT)(k:Nat)(f:Addr)(fd:FuncData)(ps:List Str)(sp:Sp):Prop where
 len:∀vs H Q E,sp vs H Q E->vs.length=ps.length
 run:∀(A:Around) (outer:List Env) (s:Shared) (H:Hp) (args:Args) (us:List Value) (vs:List V) (Q:VK) (E:XK),Room k A->Env0 P w K mg base A outer s H->BindsTo s fd args (ps.zip us)->Vals vs us->sp vs H Q E ->
  codeAny (model P w) A (.call (.ref f) args) (CR CX outer P w H s Q E) s
theorem FnOk.mono {P:Program}{w:World}{K:PySem.W.Frag}{mg:Str->Option Value}{base:Heap}{CX:CXT}{j k:Nat}{f:Addr}{fd:FuncData}{ps:List Str}{sp:Sp}(F:FnOk P w K mg base CX j f fd ps sp)(h:j<=k) :
  FnOk P w K mg base CX k f fd ps sp:=⟨F.len,fun A outer s H args us vs Q E hr=>F.run A outer s H args us vs Q E (hr.mono h)⟩
theorem FnOk.imp {P:Program}{w:World}{K:PySem.W.Frag}{mg:Str->Option Value}{base:Heap}{CX:CXT}{k:Nat}{f:Addr}{fd:FuncData}{ps:List Str}{sp sp':Sp}(F:FnOk P w K mg base CX k f fd ps sp)
  (h:∀vs H Q E,sp' vs H Q E->sp vs H Q E):FnOk P w K mg base CX k f fd ps sp' :=
 ⟨fun vs H Q E q=>F.len vs H Q E (h _ _ _ _ q),fun A outer s H args us vs Q E hr he hb hv hs=>F.run A outer s H args us vs Q E hr he hb hv (h _ _ _ _ hs)⟩
theorem Env0.make {P:Program}{w:World}{K:PySem.W.Frag}{mg:Str->Option Value}{base:Heap}{A:Around}{outer:List Env}{s:Shared}{H:Hp}(e:Env0 P w K mg base A outer s H)(C:Addr)(us:List Value)(kw:List (Str×Value)) :
  Env0 P w K mg base (A.under (.builtin "type.__call__" ⟨.ref C::us,kw⟩)) outer s H:=⟨by first | exact e.frames | (simpa[Around.under,Code.envs,Code.isFrame,pushEnvs] using e.frames),e.mod,e.bs,e.bsz,e.funs,e.frf,e.hok,e.bare⟩
section
variable {X:Cx}{pins:List (Addr×Obj)}{σ:St}{H:Hp}{s s':Shared}
theorem Inv.env0 (I:Inv X pins σ H s):Env0 X.prog X.w X.K X.mg X.base X.A X.stack s H :=
 ⟨I.ok.frames,I.ok.mod,I.bs,Nat.le_trans I.ok.bsz I.sz,I.stack,I.stkFree,I.hok,I.bare⟩
theorem Inv.after {Q:VK}{u:Value}(I:Inv X pins σ H s)(h:CE X.stack X.prog X.w H s Q u s'):EP X pins σ Q u s':=by
 obtain⟨v,H',os,bare,un,hok,r,q⟩:=h
 obtain⟨hh,g,d,t,os'⟩:=s'
 obtain rfl:os'=s.os:=os
 exact⟨v,H',I.call (h':=hh) (g':=g) (d':=d) (t':=t) (ch:=[]) un hok bare (fun b z=>absurd z (by simp)),r,q⟩
end
noncomputable def tCall (sp:Sp)(dvs:List V)(E:XK)(t:TA):TE:=fun σ H Q=>t σ H fun vs H1=>sp (vs++dvs) H1 Q E
noncomputable def tMeth (C:Addr)(m:Str)(sp:Sp)(dvs:List V)(E:XK)(ta:TE)(t:TA):TE:=fun σ H Q=>ta σ H fun x H1=>∃a dx fs,x=.ref a/\H1 a=some (.ins C dx fs)/\fs.lookup m=none /\
 t σ H1 fun vs H2=>sp (x::(vs++dvs)) H2 Q E
noncomputable def tMake (C:Addr)(sp:Sp)(dvs:List V)(E:XK)(t:TA):TE:=fun σ H Q=>t σ H fun vs H1=>∀x dx,H1 x=none->H1 dx=none->dx≠x ->
 sp (.ref x::(vs++dvs)) (upd (upd H1 dx (.own x)) x (.ins C dx [])) (fun v H2=>v=.non/\Q (.ref x) H2) E
noncomputable def Binds (K:PySem.W.Frag)(fd:FuncData)(ps:List Str)(ds:List Value):Prop :=
 ∀(s:Shared) (us:List Value),K.In s.heap->(us++ds).length=ps.length->BindsTo s fd ⟨us,[]⟩ (ps.zip (us++ds))
theorem Binds.all {K:PySem.W.Frag}{fd:FuncData}{ps:List Str}(h:∀us:List Value,us.length=ps.length->bindArgs fd ⟨us,[]⟩=pure (ps.zip us)):Binds K fd ps []:=fun s us _ hl=>by
 rw[List.append_nil]at hl ⊢
 exact .of_eq (h us hl)
noncomputable def Passes (CX:CXT)(X:Cx)(E:XK):Prop:=∀(pins:List (Addr×Obj)) (σ:St) (H:Hp) (s:Shared) (e:Value) (s':Shared),Inv X pins σ H s->CX X.stack H s E e s'->X.xe e s'
section
variable {X:Cx}{CX:CXT}{k:Nat}{f C:Addr}{fd:FuncData}{ps:List Str}{sp:Sp}{dvs:List V}{ds:List Value}{E:XK}{x m:Str}{p pos apos:Pos}{e o:Expr}{es:List Expr}{ta:TE}{t:TA}
theorem run_fn {pins:List (Addr×Obj)}{σ:St}{H:Hp}{s:Shared}{Q:VK}{us:List Value}{vs:List V}(F:FnOk X.prog X.w X.K X.mg X.base CX k f fd ps sp)(hr:Room k X.A)(hb:Binds X.K fd ps ds)(hd:Vals dvs ds)(hx:Passes CX X E)
  (I:Inv X pins σ H s) (r:Vals vs us) (h:sp (vs++dvs) H Q E):wpAny (model X.prog X.w) X.A (call (.ref f) us) (EP X pins σ Q) X.xe s:=by
 have r2:Vals (vs++dvs) (us++ds):=r.append hd
 have hl:(us++ds).length=ps.length:=by rw[<-r2.length];exact F.len _ _ _ _ h
 refine wpAny_call (codeAny_mono (F.run X.A X.stack s H ⟨us,[]⟩ (us++ds) (vs++dvs) Q E hr I.env0 (hb s us I.kIn hl) r2 h) fun r s' hq=>?_)
 cases r with
 | error e=>exact hx pins σ H s e s' I hq
 | ok fl =>
  cases fl with
  | ret u=>exact I.after hq
  | next=>exact False.elim hq
  | brk=>exact False.elim hq
  | cont=>exact False.elim hq
theorem pe_call (F:FnOk X.prog X.w X.K X.mg X.base CX k f fd ps sp)(hr:Room k X.A)(hg:Gl X x)(hm:X.mg x=some (.ref f))(hk:PySem.W.keepIn X.K (.ref f)=true)(hb:Binds X.K fd ps ds)(hd:Vals dvs ds)(hx:Passes CX X E)
  (ha:PA X (e::es) t) (hdb:(x==("__debug__":Str))=false:=by decide) (he:starEach (e::es) X.env=(false,eval e X.env)::starEach es X.env:=by rfl) (hpl:(backTo pos (starEach es X.env)).any (·.1)=false:=by rfl) :
  PE X (.Call (.Name x p) (e::es) [] pos) (tCall sp dvs E t):=by
 intro pins s σ H Q I h
 refine wpAny_Call_Name_kw (zga I hg hm ?_ hdb)
 refine PySem.W.callWith_K (h₀:=X.base) I.ok.mod.kin hk (thn (ha pos pins s σ H _ I h) fun us s1 zz=>?_) he hpl
 obtain⟨vs,H1,I1,r,q⟩:=zz
 refine⟨I1.kIn,?_⟩
 exact run_fn F hr hb hd hx I1 r q
theorem pe_meth {pl:Sem Bool}(he:PE X o ta)(c:Cls X.K C)(hm:Meth X.K C m f)(F:FnOk X.prog X.w X.K X.mg X.base CX k f fd ps sp)(hr:Room k X.A)(hb:Binds X.K fd ps ds)(hd:Vals dvs ds)(hx:Passes CX X E)(ha:PA X (e::es) t)
  (hst:starEach (e::es) X.env=(false,eval e X.env)::starEach es X.env:=by rfl) (hpl:(backTo pos (starEach es X.env)).any (·.1)=false:=by rfl)
  (ht:eval (.Call (.Attribute o m apos) (e::es) [] pos) X.env=(do
   let ov <-eval o X.env
   standAt apos.atName
   let (f,first) <-holding [ov] (getMethod ov m pl)
   callWith pos f first (backTo pos (starEach (e::es) X.env)) (backToKw pos (keywordEach [] X.env))):=by rfl) :
  PE X (.Call (.Attribute o m apos) (e::es) [] pos) (tMeth C m sp dvs E ta t):=by
 intro pins s σ H Q I h
 refine PySem.W.methodCall_KW (pl:=pl) (thn (he pins s σ H _ I h) fun u s1 zz=>?_) ht
 obtain⟨x,H1,I1,rx,a,dx,fs,ex,ea,l,q⟩:=zz
 subst ex
 obtain rfl:u=Value.ref a:=rx
 refine zlt I1 ea c hm l ?_
 refine PySem.W.callWith_K (first:=[.ref a]) (h₀:=X.base) I.ok.mod.kin hm.kp (thn (ha pos pins s1 σ H1 _ I1 q) fun us s2 zz=>?_) hst hpl
 obtain⟨vs,H2,I2,r,q2⟩:=zz
 refine⟨I2.kIn,?_⟩
 exact run_fn (us:=.ref a::us) (vs:=.ref a::vs) F hr hb hd hx I2 (.cons rfl r) q2
structure Mk (K:PySem.W.Frag)(C f:Addr):Prop where
 makes:PySem.W.makesIn K C=true
 init:PySem.W.findIn K (.ref C) "__init__" = some (some (.ref f))
 fn:PySem.W.isFn K (.ref f)=true
 kp:PySem.W.keepIn K (.ref C)=true
theorem run_make {pins:List (Addr×Obj)}{σ:St}{H:Hp}{s:Shared}{Q:VK}{us:List Value}{vs:List V}(M:Mk X.K C f)(F:FnOk X.prog X.w X.K X.mg X.base CX k f fd ps sp)(hr:Room (k+1) X.A)(hb:Binds X.K fd ps ds)(hd:Vals dvs ds)
  (hx:Passes CX X E) (I:Inv X pins σ H s) (r:Vals vs us)
  (h:∀x dx,H x=none->H dx=none->dx≠x->sp (.ref x::(vs++dvs)) (upd (upd H dx (.own x)) x (.ins C dx [])) (fun v H2=>v=.non/\Q (.ref x) H2) E) :
  wpAny (model X.prog X.w) X.A (call (.ref C) us) (EP X pins σ Q) X.xe s:=by
 have hq:=h (s.heap.objs.size+1) s.heap.objs.size (I.hok.fresh (Nat.le_succ _)) (I.hok.fresh (Nat.le_refl _)) (Nat.ne_of_lt (Nat.lt_succ_self _))
 have I2:=Inv.made (C:=C) I
 have r2:Vals (V.ref (s.heap.objs.size+1)::(vs++dvs)) (Value.ref (s.heap.objs.size+1)::(us++ds)):=.cons rfl (r.append hd)
 have hl:(Value.ref (s.heap.objs.size+1)::us++ds).length=ps.length:=by
  have e:=r2.length
  rw[F.len _ _ _ _ hq]at e
  exact e.symm
 refine wpAny_call (make_map (f:=f) I.kIn M.makes M.init (beq_iff_eq.mp M.fn) (codeAny_mono (F.run _ X.stack _ _ ⟨Value.ref (s.heap.objs.size+1)::us,[]⟩ (Value.ref (s.heap.objs.size+1)::(us++ds)) _ _ E (hr.make C us [])
  (I2.env0.make C us []) (hb _ (Value.ref (s.heap.objs.size+1)::us) I2.kIn hl) r2 hq) fun r s' hq'=>?_))
 cases r with
 | error e=>exact hx pins σ _ _ e s' I2 hq'
 | ok fl =>
  cases fl with
  | ret u =>
   obtain⟨v,H',I3,rv,ev,q3⟩:=I2.after hq'
   subst ev
   exact⟨rv,⟨V.ref (s.heap.objs.size+1),H',I3,rfl,q3⟩⟩
  | next=>exact False.elim hq'
  | brk=>exact False.elim hq'
  | cont=>exact False.elim hq'
theorem pe_make (M:Mk X.K C f)(F:FnOk X.prog X.w X.K X.mg X.base CX k f fd ps sp)(hr:Room (k+1) X.A)(hg:Gl X x)(hm:X.mg x=some (.ref C))(hb:Binds X.K fd ps ds)(hd:Vals dvs ds)(hx:Passes CX X E)
  (ha:PA X (e::es) t) (hdb:(x==("__debug__":Str))=false:=by decide) (he:starEach (e::es) X.env=(false,eval e X.env)::starEach es X.env:=by rfl) (hpl:(backTo pos (starEach es X.env)).any (·.1)=false:=by rfl) :
  PE X (.Call (.Name x p) (e::es) [] pos) (tMake C sp dvs E t):=by
 intro pins s σ H Q I h
 refine wpAny_Call_Name_kw (zga I hg hm ?_ hdb)
 refine PySem.W.callWith_K (h₀:=X.base) I.ok.mod.kin M.kp (thn (ha pos pins s σ H _ I h) fun us s1 zz=>?_) he hpl
 obtain⟨vs,H1,I1,r,q⟩:=zz
 refine⟨I1.kIn,?_⟩
 exact run_make M F hr hb hd hx I1 r q
end
section
variable {X:Cx}{CX:CXT}{k:Nat}{f C:Addr}{fd:FuncData}{ps ks:List Str}{sp:Sp}{E:XK}{x m:Str}{p pos apos kpos:Pos}{e o:Expr}{es:List Expr}{kws:List Keyword}{te ta:TE}{t tk:TA}{nm:Option Str}
structure KBinds (K:PySem.W.Frag)(fd:FuncData)(ps ks:List Str)(g:List Value->List Value->List Value)(gV:List V->List V->List V):Prop where
 to:∀(s:Shared) (us ws:List Value),K.In s.heap->(g us ws).length=ps.length->BindsTo s fd ⟨us,ks.zip ws⟩ (ps.zip (g us ws))
 rel:∀{vs:List V} {us:List Value} {zs:List V} {ws:List Value},Vals vs us->Vals zs ws->Vals (gV vs zs) (g us ws)
variable {g:List Value->List Value->List Value}{gV:List V->List V->List V}
end
structure FnScope (N P:List Str)(sc:Scope):Prop where
 kind:sc.kind=.function
 co:sc.isCoroutine=false
 gen:sc.isGenerator=false
 nd:N.Nodup
 pre:N.take P.length=P
 par:∀x∈P,sc.names.lookup x=some .local\/sc.names.lookup x=some .cell
 nofree:∀y∈sc.names,y.2≠.free
theorem zi7 {kindOf:Str->Option NameKind}{x:Str}:∀{binds:List (Str×Value)} {m:Str->Option Value},(∀v,(x,v)∉binds)->bindL kindOf binds m x=m x
 | [],_,_=>rfl
 | (n,v)::r,m,h=>by
  unfold bindL
  rw[zi7 fun w hw=>h w (List.mem_cons_of_mem _ hw)]
  split
  ·have:x≠n:=by rintro rfl;exact h v List.mem_cons_self
   simp[this]
  ·rfl
theorem zi5 {kindOf:Str->Option NameKind}{x:Str}:∀{binds:List (Str×Value)} {m:Str->Option Value},(∀v,(x,v)∉binds)->bindC kindOf binds m x=m x
 | [],_,_=>rfl
 | (n,v)::r,m,h=>by
  unfold bindC
  rw[zi5 fun w hw=>h w (List.mem_cons_of_mem _ hw)]
  split
  ·rfl
  ·have:x≠n:=by rintro rfl;exact h v List.mem_cons_self
   simp[this]
theorem zji {kindOf:Str->Option NameKind}{x:Str}{v:Value}:∀{P:List Str} {vs:List Value} {i:Nat} {m:Str->Option Value},P.Nodup->P[i]? = some x->vs[i]? = some v->kindOf x=some .local ->
  bindL kindOf (P.zip vs) m x=some v
 | [],_,_,_,_,h,_,_=>by simp at h
 | _::_,[],_,_,_,_,h,_=>by simp at h
 | p::P,w::vs,0,m,nd,h1,h2,hk=>by
  simp at h1 h2;subst h1;subst h2
  show bindL kindOf ((p,w)::P.zip vs) m p=_
  unfold bindL
  rw[zi7 fun v hv=>(List.nodup_cons.mp nd).1 (List.of_mem_zip hv).1,if_pos hk]
  simp
 | p::P,w::vs,i+1,m,nd,h1,h2,hk=>by
  show bindL kindOf ((p,w)::P.zip vs) m x=_
  unfold bindL
  exact zji (i:=i) (List.nodup_cons.mp nd).2 (by simpa using h1) (by simpa using h2) hk
theorem zjl {kindOf:Str->Option NameKind}{x:Str}{v:Value}:∀{P:List Str} {vs:List Value} {i:Nat} {m:Str->Option Value},P.Nodup->P[i]? = some x->vs[i]? = some v->kindOf x≠some .local ->
  bindC kindOf (P.zip vs) m x=some v
 | [],_,_,_,_,h,_,_=>by simp at h
 | _::_,[],_,_,_,_,h,_=>by simp at h
 | p::P,w::vs,0,m,nd,h1,h2,hk=>by
  simp at h1 h2;subst h1;subst h2
  show bindC kindOf ((p,w)::P.zip vs) m p=_
  unfold bindC
  rw[zi5 fun v hv=>(List.nodup_cons.mp nd).1 (List.of_mem_zip hv).1,if_neg hk]
  simp
 | p::P,w::vs,i+1,m,nd,h1,h2,hk=>by
  show bindC kindOf ((p,w)::P.zip vs) m x=_
  unfold bindC
  exact zjl (i:=i) (List.nodup_cons.mp nd).2 (by simpa using h1) (by simpa using h2) hk
noncomputable def start (N:List Str)(vs:List V):St:=vs.map some++List.replicate (N.length - vs.length) none
noncomputable def cxOf (CX:CXT)(P:Program)(w:World)(K:PySem.W.Frag)(mg:Str->Option Value)(base:Heap)(N:List Str)(qual:Str)(scope:Scope)(f:Addr)(cd:Value)(A:Around)(outer:List Env)(s:Shared)(H:Hp)(E:XK):Cx where
 prog:=P
 w:=w
 K:=K
 mg:=mg
 base:=base
 A:=A.deeper (envOfC qual scope s.heap.objs.size f cd)
 N:=N
 s₀:=s
 H₀:=H
 env:=envOfC qual scope s.heap.objs.size f cd
 outer:=outer
 stack:=envOfC qual scope s.heap.objs.size f cd::outer
 ex:=[]
 calm:=true
 fn:=fun _=>true
 pn:=[]
 xe:=fun e s'=>wpAny (model P w) (A.deeper (envOfC qual scope s.heap.objs.size f cd)) (leaving (envOfC qual scope s.heap.objs.size f cd) e) (fun _ s''=>CX outer H s E e s'') (fun e' s''=>CX outer H s E e' s'') s'
theorem zlq {sc:Scope}{n:Nat}{x:Str}(h:sc.names.lookup x=some .cell):∃c,(cellsFrom n sc.names []).lookup x=some c:=by
 have q:=PySem.W.cellsFrom_some sc.names n [] (.inl h)
 exact Option.isSome_iff_exists.mp q
theorem inv_start {CX:CXT}{P:Program}{w:World}{K:PySem.W.Frag}{mg:Str->Option Value}{base:Heap}{N ps:List Str}{qual:Str}{scope:Scope}{f:Addr}{cd:Value}{A:Around}{outer:List Env}{s s1:Shared}{H:Hp}{E:XK}{us:List Value}{vs:List V}
  (S:FnScope N ps scope) (hd:A.handled=none) (e0:Env0 P w K mg base A outer s H) (hl:vs.length=ps.length) (r:Vals vs us)
  (x:InCallC s s.heap.objs.size (bindL (envOfC qual scope s.heap.objs.size f cd).kindOf (ps.zip us) fun _=>none) (cellsFrom (s.heap.objs.size+1) scope.names []) (bindC (envOfC qual scope s.heap.objs.size f cd).kindOf (ps.zip us) fun _=>none) s1) :
  Inv (cxOf CX P w K mg base N qual scope f cd A outer s H E) [] (start N vs) H s1:=by
 have hpl:ps.length<=N.length:=by have:=congrArg List.length S.pre;rw[List.length_take]at this;omega
 obtain⟨h1,tk,rfl,hk⟩:=x.done
 have noA:∀b:Addr,b∉(cxOf CX P w K mg base N qual scope f cd A outer s H E).ex:=fun b z=>absurd (show b∈([]:List Addr) from z) (by simp)
 refine⟨⟨e0.mod,S.kind,rfl,rfl,Nat.le_refl _,fun y z c h1 h2=>?_,fun y hy=>?_,fun y c _ h=>?_,fun _=>hd,Around.frames_deeper e0.frames,.inr ⟨rfl,rfl⟩,fun b z=>absurd z (noA b),e0.bs,e0.bsz,fun b _ _=>noA b,fun b z=>absurd z (noA b),e0.funs,e0.frf⟩,
  rfl,e0.bare,Un.kept hk,⟨_,x.toInCall.ns,fun i y v h1 h2 h3=>?_⟩,fun y c h=>⟨_,x.cell y c h⟩,e0.hok.fresh (Nat.le_refl _),fun y c h=>?_,fun p hp=>absurd (show p∈([]:List (Addr×Obj)) from hp) (by simp),e0.hok.kept hk,?_⟩
 ·exact name_of_addr x.apart (PySem.mem_of_lookup h1) (PySem.mem_of_lookup h2)
 ·have hy:scope.names.lookup y=some .cell\/scope.names.lookup y=some .free:=hy
  rcases hy with hy | hy
  ·exact zlq hy
  ·exact absurd rfl (S.nofree _ (PySem.mem_of_lookup hy))
 ·exact Nat.le_of_lt (x.above y c (PySem.mem_of_lookup h))
 ·have hi:i<vs.length:=by
   unfold start at h2
   by_cases hi:i<vs.length
   ·exact hi
   ·rw[List.getElem?_append_right (by simpa using hi)]at h2
    rw[List.getElem?_replicate]at h2
    split at h2<;>cases h2
  have ha:vs[i]? = some v:=by
   unfold start at h2
   rw[List.getElem?_append_left (by simpa using hi),List.getElem?_map]at h2
   cases e:vs[i]? with
   | none=>rw[e]at h2;cases h2
   | some a=>rw[e]at h2;cases h2;rfl
  obtain⟨u,hu,rv⟩:=r.get ha
  have hp:ps[i]? = some y:=by
   rw[<-S.pre,List.getElem?_take_of_lt (by omega)];exact h1
  have ndP:ps.Nodup:=by rw[<-S.pre];exact S.nd.sublist (List.take_sublist _ _)
  refine⟨u,rv,?_⟩
  rcases S.par y (List.mem_of_getElem? hp) with k | k
  ·exact .inl ⟨k,zji ndP hp hu k⟩
  ·obtain⟨c,e⟩:=zlq (n:=s.heap.objs.size+1) k
   refine .inr ⟨.inl k,c,e,?_⟩
   have q:=x.cell y c e
   rw[zjl ndP hp hu (by show scope.names.lookup y≠_;rw[k];decide)]at q
   exact q
 ·exact e0.hok.fresh (Nat.le_of_lt (x.above y c (PySem.mem_of_lookup h)))
 ·unfold start
  show _=N.length
  rw[List.length_append,List.length_map,List.length_replicate]
  omega
theorem fn_of {CX:CXT}{P:Program}{w:World}{K:PySem.W.Frag}{mg:Str->Option Value}{base:Heap}{k:Nat}{f:Addr}{name qual:Str}{params:Arguments}{body:List Stmt}{scope:Scope}{dV kV doc pm cdv ct oc:Value}{an od:Option Addr}
  {osl:Array (Option Value)} {N ps:List Str} {sp:Sp} (lk:K.lookup f=some ⟨oc,od,.func (PySem.W.fnOf name qual params body scope dV kV doc pm an cdv ct),osl⟩) (hcd:PySem.W.codeIn K cdv qual=true) (S:FnScope N ps scope)
  (len:∀vs H Q E,sp vs H Q E->vs.length=ps.length)
  (hbody:∀(A:Around) (outer:List Env) (s:Shared) (H:Hp) (vs:List V) (Q:VK) (E:XK),Room k (A.deeper (envOfC qual scope s.heap.objs.size f cdv))->sp vs H Q E ->
   ∃t,PSs (cxOf CX P w K mg base N qual scope f cdv A outer s H E) body t/\t { nx:=fun _ H'=>Q .non H',rt:=Q } (start N vs) H) :
  FnOk P w K mg base CX (k+1) f (PySem.W.fnOf name qual params body scope dV kV doc pm an cdv ct) ps sp:=by
 refine⟨len,fun A outer s H args us vs Q E hr e0 hb r hsp=>?_⟩
 have hl:=len _ _ _ _ hsp
 have KX:K.In s.heap:=e0.mod.kin.keeps fun b o e=>(e0.bs b o e).1
 have lim:s.heap.NoLimit:=e0.mod.nolimit.keeps fun b o e=>(e0.bs b o e).1
 have hkind:∀y∈ps.zip us,scope.names.lookup y.1=some .local\/(scope.names.lookup y.1=some .cell/\((cellsFrom (s.heap.objs.size+1) scope.names []).lookup y.1).isSome=true):=fun⟨n,v⟩ hy=>by
  rcases S.par n (List.of_mem_zip hy).1 with q | q
  ·exact .inl q
  ·exact .inr ⟨q,PySem.W.cellsFrom_some _ _ _ (.inl q)⟩
 refine codeAny_call_function hr.depth (KX _ _ lk) rfl S.co S.gen rfl (PySem.W.codeRec_of KX hcd) (hb _ _ _ _ ?_)
 refine wpAny_newFunctionEnv_cells S.kind hkind fun env he s1 x=>?_
 subst he
 refine⟨lim.keeps x.toInCall.keep,codeAny_func ?_⟩
 obtain⟨t,ht,hq⟩:=hbody A outer s H vs Q E (hr.deeper _) hsp
 have I:Inv (cxOf CX P w K mg base N qual scope f cdv A outer s H E) [] (start N vs) H s1:=inv_start S hr.hd e0 hl r x
 refine wpAny_mono (ht [] s1 (start N vs) H _ I hq) (fun fl s' hs=>?_) fun e s' hs=>hs
 have fin:∀{σ':St} {H':Hp} {v:V} {u:Value},Inv (cxOf CX P w K mg base N qual scope f cdv A outer s H E) [] σ' H' s'->RelV v u->Q v H'->CE outer P w H s Q u s' :=
  fun {σ' H' v u} J rv q=>⟨v,H',J.os,J.bare,J.base,J.hok,rv,q⟩
 cases fl with
 | ret u =>
  obtain⟨v,σ',H',J,rv,q⟩:=hs
  exact fin J rv q
 | next =>
  obtain⟨σ',H',J,q⟩:=hs
  exact fin (v:=V.non) (u:=Value.none) J rfl q
 | brk =>
  obtain⟨_,_,_,q⟩:=hs
  exact False.elim q
 | cont =>
  obtain⟨_,_,_,q⟩:=hs
  exact False.elim q
end L2
namespace L2
open PySem PySem.Spec PyProof.Rows
section
variable {X:Cx}{x:Str}{p pos:Pos}{e:Expr}{es:List Expr}{t:TA}{id T:String}{r:List V->Hp->VK->Prop}
noncomputable def tCB (r:List V->Hp->VK->Prop)(t:TA):TE:=fun σ H Q=>t σ H fun vs H1=>r vs H1 Q
theorem zie (hc:CallR X (.builtin id) r)(hg:Gl X x)(hm:X.mg x=none)(hv:bootBuiltins x=some (.builtin id))(ha:PA X (e::es) t)(hn:x ≠ "__name__":=by decide)(hdb:(x==("__debug__":Str))=false:=by decide)
  (he:starEach (e::es) X.env=(false,eval e X.env)::starEach es X.env:=by rfl) (hpl:(backTo pos (starEach es X.env)).any (·.1)=false:=by rfl):PE X (.Call (.Name x p) (e::es) [] pos) (tCB r t):=by
 intro pins s σ H Q I h
 refine wpAny_Call_Name_kw (zhv I hg hm hv ?_ hn hdb)
 refine PyProof.Rows.callWith_builtin1 (thn (ha pos pins s σ H _ I h) fun us s1 zz=>?_) he hpl
 obtain⟨vs,H1,I1,r1,q1⟩:=zz
 exact hc pins s1 σ H1 vs us Q I1 r1 q1
theorem pe_callTy (hc:CallR X (.type T) r)(hg:Gl X x)(hm:X.mg x=none)(hv:bootBuiltins x=some (.type T))(ha:PA X (e::es) t)(hn:x ≠ "__name__":=by decide)(hdb:(x==("__debug__":Str))=false:=by decide)
  (he:starEach (e::es) X.env=(false,eval e X.env)::starEach es X.env:=by rfl) (hpl:(backTo pos (starEach es X.env)).any (·.1)=false:=by rfl):PE X (.Call (.Name x p) (e::es) [] pos) (tCB r t):=by
 intro pins s σ H Q I h
 refine wpAny_Call_Name_kw (zhv I hg hm hv ?_ hn hdb)
 refine PyProof.Rows.callWith_type1 (thn (ha pos pins s σ H _ I h) fun us s1 zz=>?_) he hpl
 obtain⟨vs,H1,I1,r1,q1⟩:=zz
 exact hc pins s1 σ H1 vs us Q I1 r1 q1
end
end L2
namespace HT
open PySem PyProof.Rows
section
open PySem.SeqAt
open PySem.AutoSeq1 (wpAny_loadPart')
open PySem.MeetsSeq PySem.MeetsSeq2 PySem.MeetsSeq3
end
section
variable {prog:Program}{w:World}{A:Around}{E:Value->Shared->Prop}{s:Shared}
theorem cat_tup {t b:Addr}{vs ws:List Value}{Q:Value->Shared->Prop}(ht:IsTup s.heap t vs.toArray)(hb:IsTup s.heap b ws.toArray)(hv:vs≠[])
  (h1:ws=[]->Q (.ref t) s) (h2:ws≠[]->Q (.ref s.heap.objs.size) { s with heap:=s.heap.push { cls:=.type "tuple",data:=.seq (vs++ws).toArray } })
  (hsz:vs.length+ws.length<=sizeLine):wpAny (model prog w) A (binaryOp .Add (.ref t) (.ref b)) Q E s:=by
 obtain⟨⟨cls,dd,data,sl⟩,ho,hc,n,hd⟩:=id ht
 obtain⟨⟨cls2,dd2,data2,sl2⟩,ho2,hc2,n2,hd2⟩:=id hb
 simp only at hc hd hc2 hd2
 subst hc hd hc2 hd2
 have e:vs.toArray++ws.toArray=(vs++ws).toArray:=by simp
 by_cases hw:ws=[]
 ·exact concat_meets ⟨_,ho,rfl⟩ ⟨_,ho2,rfl⟩ noFill_tuple_add seq_tuple_add PySem.F.slot_tuple_add PySem.F.entry_tuple_add (PySem.F.args_tuple_add_2 _ _)
   (tuple_addW1 t b vs.toArray ws.toArray n n2 dd dd2 sl sl2 (by simpa using hv) (by simp[hw])) ⟨ho,ho2,h1 hw⟩
 ·refine concat_meets ⟨_,ho,rfl⟩ ⟨_,ho2,rfl⟩ noFill_tuple_add seq_tuple_add PySem.F.slot_tuple_add PySem.F.entry_tuple_add (PySem.F.args_tuple_add_2 _ _)
   (tuple_addW2 t b vs.toArray ws.toArray n n2 dd dd2 sl sl2 (by simpa using hv) (by simpa using hw) (by rw[List.size_toArray,List.size_toArray];exact hsz)) ⟨ho,ho2,?_⟩
  rw[e]
  exact h2 hw
noncomputable def sIx (n d:Nat):Option Int->Nat
 | none=>d
 | some v=>if v<0 then (v+(n:Int)).toNat else min v.toNat n
theorem zfs (n d:Nat):sIx n d none=d:=rfl
theorem zix (n d k:Nat):sIx n d (some (k:Int))=min k n:=by
 show (if (k:Int)<0 then ((k:Int)+(n:Int)).toNat else min (k:Int).toNat n)=min k n
 rw[if_neg (by omega),Int.toNat_natCast]
theorem sIx_le (n d:Nat)(hd:d<=n)(o:Option Int):sIx n d o<=n:=by
 cases o with
 | none=>exact hd
 | some v =>
  show (if v<0 then (v+(n:Int)).toNat else min v.toNat n)<=n
  by_cases hv:v<0
  ·rw[if_pos hv];omega
  ·rw[if_neg hv];exact Nat.min_le_right _ _
theorem clip_eq (v:Int)(n d:Nat):(if v<0 then max (v+(n:Int)) 0 else min v (n:Int))=((sIx n d (some v):Nat):Int):=by
 show (if v<0 then max (v+(n:Int)) 0 else min v (n:Int))=(((if v<0 then (v+(n:Int)).toNat else min v.toNat n):Nat):Int)
 by_cases hv:v<0
 ·simp only[if_pos hv];omega
 ·simp only[if_neg hv];omega
theorem zld (lo hi:Option Int)(n:Nat):Builtin.Slice.sliceAdjust lo hi 1 (n:Int)=(((sIx n 0 lo:Nat):Int),((sIx n n hi:Nat):Int)):=by
 have h1:¬ ((1:Int)<0):=by omega
 unfold Builtin.Slice.sliceAdjust
 simp only[h1,if_false]
 refine Prod.ext ?_ ?_
 ·cases lo with
  | none=>rfl
  | some v=>exact clip_eq v n 0
 ·cases hi with
  | none=>rfl
  | some v=>exact clip_eq v n n
theorem zlm (i j:Nat):Builtin.Slice.slicePlaces (i:Int) (j:Int) 1=j - i:=by
 unfold Builtin.Slice.slicePlaces
 have h1:(1:Int) > 0:=by omega
 simp only[h1,if_true,Int.ediv_one]
 split<;>omega
theorem zhs {v:Value}{o:Option Int}{Q:Option Int->Shared->Prop}(p:IsPart v o)(h:Q o s):wpAny (model prog w) A (Builtin.Slice.slicePartIndex v) Q E s:=by
 cases p with
 | none=>exact slicePart_none h
 | int i t=>exact slicePart_int h
theorem zdj {sl:Addr}{vl vu:Value}{lo hi:Option Int}{n:Nat}{Q:Int×Int×Nat->Shared->Prop}(hs:s.heap.IsSliceOf sl vl vu .none)(pl:IsPart vl lo)(pu:IsPart vu hi)
  (h:Q (((sIx n 0 lo:Nat):Int),1,sIx n n hi - sIx n 0 lo) s):wpAny (model prog w) A (Builtin.Slice.sliceApplied (.ref sl) (pure (n:Int))) Q E s:=by
 obtain⟨os,hos,hcs,hds⟩:=id hs
 unfold Builtin.Slice.sliceApplied Builtin.Slice.sliceFields
 refine wpAny_bind (wpAny_bind (wpAny_field hos hds (x:=vl) rfl (wpAny_bind (wpAny_field hos hds (x:=vu) rfl (wpAny_bind (wpAny_field hos hds (x:=.none) rfl (wpAny_pure ?_)))))))
 refine wpAny_bind (slicePart_none ?_)
 show wpAny _ _ (if ((1:Int)==0)=true then _ else _) _ _ s
 rw[if_neg (by decide)]
 refine wpAny_bind (zhs pl (wpAny_bind (zhs pu (wpAny_bind (wpAny_pure ?_)))))
 show wpAny _ _ (match Builtin.Slice.sliceAdjust lo hi 1 (n:Int) with | (lo,hi)=>pure (lo,(1:Int),Builtin.Slice.slicePlaces lo hi 1)) _ _ s
 rw[zld lo hi n]
 show wpAny _ _ (pure (((sIx n 0 lo:Nat):Int),(1:Int),Builtin.Slice.slicePlaces ((sIx n 0 lo:Nat):Int) ((sIx n n hi:Nat):Int) 1)) _ _ s
 rw[zlm]
 exact wpAny_pure h
theorem pick_gen (xs:Array Value)(i k:Nat):((List.range k).filterMap fun (m:Nat)=>xs[((i:Int)+(m:Int)*1).toNat]?).toArray=((xs.toList.drop i).take k).toArray:=by
 have e:(fun (m:Nat)=>xs[((i:Int)+(m:Int)*1).toNat]?)=fun m=>xs[i+m]?:=by
  funext m
  have:((i:Int)+(m:Int)*1).toNat=i+m:=by omega
  rw[this]
 rw[e]
 have:=pick_run xs i k
 rw[List.filterMap_map]at this
 have e2:((fun x=>xs[x]?)∘fun x=>i+x)=fun m=>xs[i+m]?:=rfl
 rw[e2]at this
 rw[this]
theorem ze1 {t sl:Addr}{items:Array Value}{vl vu:Value}{lo hi:Option Int}{Q:Value->Shared->Prop}(ht:IsTup s.heap t items)(hs:s.heap.IsSliceOf sl vl vu .none)(pl:IsPart vl lo)(pu:IsPart vu hi)
  (hw:¬ (sIx items.size 0 lo=0/\sIx items.size items.size hi=items.size))
  (h:Q (.ref s.heap.objs.size) { s with heap:=s.heap.push { cls:=.type "tuple",data:=.seq ((items.toList.drop (sIx items.size 0 lo)).take (sIx items.size items.size hi - sIx items.size 0 lo)).toArray } })
  (hsz:items.size<=sizeLine):wpAny (model prog w) A (getItem (.ref t) (.ref sl)) Q E s:=by
 have htake:sizeOk (.seq ((items.toList.drop (sIx items.size 0 lo)).take (sIx items.size items.size hi - sIx items.size 0 lo)).toArray):=by
  show ((items.toList.drop (sIx items.size 0 lo)).take (sIx items.size items.size hi - sIx items.size 0 lo)).toArray.size<=sizeLine
  rw[List.size_toArray,List.length_take,List.length_drop,Array.length_toList]
  omega
 have hj:sIx items.size items.size hi<=items.size:=sIx_le _ _ (Nat.le_refl _) hi
 obtain⟨os,hos,hcs,hds⟩:=id hs
 have hTs:s.TypeIs (.ref sl) "slice":=⟨os,hos,hcs⟩
 unfold getItem
 try with_reducible refine wpAny_holding ?_
 first | refine wpAny_bind (wpAny_pure ?_) | skip
 refine wpAny_bind (wpAny_sequenceKey ht.typeIs (by decide) ?_)
 refine wpAny_bind (wpAny_callSpecial?_slot (name:=Str.ofString "__getitem__") ht.typeIs PyProof.Rows.slot_tuple_getitem
  (wpAny_call_entry PyProof.Rows.slot_tuple_getitem ht.typeIs entry_tuple_getitem ?_ (args_tuple_getitem _ _)))
 show wpAny _ _ (Builtin.Tuple.tupleItemsOf (.ref t) >>= _) _ _ s
 refine wpAny_bind (tupleItemsOf_ ht ?_)
 refine wpAny_bind (wpAny_typeOf hTs ?_)
 rw[if_pos (by decide)]
 refine wpAny_bind (zdj hs pl pu ?_)
 have hno:¬ ((((sIx items.size 0 lo:Nat):Int)==0 && (1:Int)==1 && (sIx items.size items.size hi - sIx items.size 0 lo)==items.size)=true):=by
  intro q
  rw[Bool.and_eq_true,Bool.and_eq_true]at q
  have q1:((sIx items.size 0 lo:Nat):Int)=0:=eq_of_beq q.1.1
  have q2:sIx items.size items.size hi - sIx items.size 0 lo=items.size:=eq_of_beq q.2
  exact hw ⟨by omega,by omega⟩
 show wpAny _ _ (if (((sIx items.size 0 lo:Nat):Int)==0 && (1:Int)==1 && (sIx items.size items.size hi - sIx items.size 0 lo)==items.size)=true then _ else _) _ _ s
 rw[if_neg hno,pick_gen]
 first
  | exact wpAny_bind (m:=Builtin.Tuple.tupleExact _) (wpAny_newObj_type (wpAny_pure ⟨_,rfl,wpAny_pure h⟩) htake)
  | exact wpAny_bind (m:=Builtin.Tuple.tupleExact _) (wpAny_newObj_type (wpAny_bind (wpAny_pure (wpAny_pure ⟨_,rfl,wpAny_pure h⟩))) htake)
  | exact wpAny_bind (wpAny_bind (m:=Builtin.Tuple.tupleExact _) (wpAny_newObj_type (wpAny_pure (wpAny_pure ⟨_,rfl,wpAny_pure h⟩)) htake))
  | exact wpAny_bind (wpAny_bind (m:=Builtin.Tuple.tupleExact _) (wpAny_newObj_type (wpAny_pure ⟨_,rfl,wpAny_pure h⟩) htake))
end
end HT
namespace L2
open PySem PySem.Spec PyProof.Rows
noncomputable abbrev TO:=St->Hp->(Option Int->Hp->Prop)->Prop
noncomputable def PO (X:Cx)(e:Option Expr)(t:TO):Prop :=
 ∀(pins:List (Addr×Obj)) (s:Shared) (σ:St) (H:Hp) (Q:Option Int->Hp->Prop),Inv X pins σ H s->t σ H Q ->
  wpAny (model X.prog X.w) X.A (evalPart e X.env) (fun u s'=>∃o H',Inv X pins σ H' s'/\IsPart u o/\Q o H') X.xe s
noncomputable def tNoPart:TO:=fun _ H Q=>Q none H
noncomputable def tPart (t:TE):TO:=fun σ H Q=>t σ H fun x H1=>∃i,x=.int i/\Q (some i) H1
section
variable {X:Cx}{e:Expr}{te:TE}{lo hi:Option Expr}{tl th:TO}{pos p2:Pos}
theorem po_none:PO X none tNoPart:=by
 intro pins s σ H Q I h
 rw[evalPart_none]
 exact wpAny_pure ⟨none,H,I,.none,h⟩
theorem po_some (h:PE X e te):PO X (some e) (tPart te):=by
 intro pins s σ H Q I hw
 rw[evalPart_some]
 refine thn (h pins s σ H _ I hw) fun u s1 zz=>?_
 obtain⟨x,H1,I1,r1,q1⟩:=zz
 obtain⟨i,rfl,q⟩:=q1
 obtain⟨t,rfl⟩:=r1
 exact⟨some i,H1,I1,.int i t,q⟩
noncomputable def SlR (X:Cx)(r:V->Option Int->Option Int->Hp->VK->Prop):Prop :=
 ∀(pins:List (Addr×Obj)) (s:Shared) (σ:St) (H:Hp) (x:V) (v vl vu:Value) (lo hi:Option Int) (sl:Addr) (Q:VK),Inv X pins σ H s->RelV x v->s.heap.IsSliceOf sl vl vu .none->IsPart vl lo->IsPart vu hi->r x lo hi H Q ->
  ∃T id,typeLookup (.type T) "__getitem__" = pure (some (.builtin id))/\s.TypeIs v T/\wpAny (model X.prog X.w) X.A (getItem v (.ref sl)) (EP X pins σ Q) X.xe s
theorem SlR.or {r r':V->Option Int->Option Int->Hp->VK->Prop}(h:SlR X r)(h':SlR X r'):SlR X (fun x lo hi H Q=>r x lo hi H Q\/r' x lo hi H Q):=by
 intro pins s σ H x v vl vu lo hi sl Q I rx hs pl pu q
 rcases q with q | q
 ·exact h pins s σ H x v vl vu lo hi sl Q I rx hs pl pu q
 ·exact h' pins s σ H x v vl vu lo hi sl Q I rx hs pl pu q
noncomputable def tSl (r:V->Option Int->Option Int->Hp->VK->Prop)(te:TE)(tl th:TO):TE:=fun σ H Q=>te σ H fun x H1=>tl σ H1 fun l H2=>th σ H2 fun u H3=>r x l u H3 Q
theorem pe_slice {r:V->Option Int->Option Int->Hp->VK->Prop}(hr:SlR X r)(he:PE X e te)(hl:PO X lo tl)(hu:PO X hi th):PE X (.Subscript e (.Slice lo hi none p2) pos) (tSl r te tl th):=by
 intro pins s σ H Q I h
 refine Subscript_ (thn (he pins s σ H _ I h) fun v s1 zz=>?_)
 obtain⟨x,H1,I1,r1,q1⟩:=zz
 refine wpAny_Slice (thn (hl pins s1 σ H1 _ I1 q1) fun vl s2 zz=>?_)
 obtain⟨l,H2,I2,pl,q2⟩:=zz
 refine thn (hu pins s2 σ H2 _ I2 q2) fun vu s3 zz=>?_
 obtain⟨u,H3,I3,pu,q3⟩:=zz
 rw[evalPart_none]
 refine wpAny_pure ?_
 have I4:Inv X pins σ H3 { s3 with heap:=s3.heap.push { cls:=.type "slice",data:=.fields #[vl,vu,.none] } }:=I3.kept (t':=s3.toks) fun b ob q=>Heap.get?_push_of_some _ q
 obtain⟨T,id,hT,ht,hg⟩:=hr pins { s3 with heap:=s3.heap.push { cls:=.type "slice",data:=.fields #[vl,vu,.none] } } σ H3 x v vl vu l u s3.heap.objs.size Q I4 r1 (Heap.IsSliceOf.new ..) pl pu q3
 show wpAny (model X.prog X.w) X.A (subscriptTail e (.Slice lo hi none p2) v (.ref s3.heap.objs.size)) (EP X pins σ Q) X.xe { s3 with heap:=s3.heap.push { cls:=.type "slice",data:=.fields #[vl,vu,.none] } }
 exact tail_any (ops:=[.ref s3.heap.objs.size,v]) ht hT hg (by with_unfolding_all rfl)
noncomputable def cutV (xs:List V)(lo hi:Option Int):List V:=(xs.drop (HT.sIx xs.length 0 lo)).take (HT.sIx xs.length xs.length hi - HT.sIx xs.length 0 lo)
theorem zgi (xs:List V)(lo hi:Option Int):(cutV xs lo hi).length<=xs.length:=by
 unfold cutV
 rw[List.length_take,List.length_drop]
 omega
noncomputable def rSlT (K:PySem.W.Frag):V->Option Int->Option Int->Hp->VK->Prop:=fun x lo hi H Q=>∃a xs,x=.ref a/\SqT K H a xs /\
 ¬ (HT.sIx xs.length 0 lo=0/\HT.sIx xs.length xs.length hi=xs.length)/\∀p,H p=none->Q (.ref p) (upd H p (.tup (cutV xs lo hi)))
theorem sl_tup:SlR X (rSlT X.K):=by
 intro pins s σ H x v vl vu lo hi sl Q I rx hs pl pu h
 obtain⟨a,xs,rfl,hx,hw,q⟩:=h
 cases rx
 obtain⟨its,r,ht,hz⟩:=I.tuple hx
 have hlen:its.toArray.size=xs.length:=by rw[List.size_toArray];exact r.length.symm
 refine⟨"tuple",_,PyProof.Rows.slot_tuple_getitem.lookup,ht.typeIs,?_⟩
 refine HT.ze1 ht hs pl pu (by rw[hlen];exact hw) ?_ (by rw[hlen];exact hz)
 rw[hlen]
 refine⟨.ref s.heap.objs.size,_,I.laid (t':=s.toks) (o:=.tup (cutV xs lo hi)) (fun b ob q=>Heap.get?_push_of_some _ q) (Nat.le_refl _) ?_,rfl,q _ (I.hok.fresh (Nat.le_refl _))⟩
 exact⟨Nat.le_trans (zgi xs lo hi) hz,_,(r.drop (HT.sIx xs.length 0 lo)).take (HT.sIx xs.length xs.length hi - HT.sIx xs.length 0 lo),IsTup.new _ _⟩
noncomputable def rCatT (K:PySem.W.Frag):R2:=fun x y H Q=>∃a b xs ys,x=.ref a/\y=.ref b/\SqT K H a xs/\SqT K H b ys/\xs≠[]/\xs.length+ys.length<=sizeLine /\
 (ys=[]->Q (.ref a) H)/\(ys≠[]->∀p,H p=none->Q (.ref p) (upd H p (.tup (xs++ys))))
theorem Vals.nil_iff {xs:List V}{us:List Value}(r:Vals xs us):us=[]↔xs=[]:=by
 cases r with
 | nil=>simp
 | cons _ _=>simp
theorem op_catT:OpR X (binaryOp .Add) (rCatT X.K):=by
 intro pins s σ H x y v u Q I rx ry h
 obtain⟨a,b,xs,ys,rfl,rfl,ha,hb,hx,hz,q1,q2⟩:=h
 cases rx
 cases ry
 obtain⟨its,r1,p1,_⟩:=I.tuple ha
 obtain⟨its2,r2,p2,_⟩:=I.tuple hb
 refine HT.cat_tup p1 p2 (fun z=>hx (r1.nil_iff.mp z)) (fun z=>⟨.ref a,H,I,rfl,q1 (r2.nil_iff.mp z)⟩) (fun z=>?_) (by rw[<-r1.length,<-r2.length];exact hz)
 refine⟨.ref s.heap.objs.size,_,I.laid (t':=s.toks) (o:=.tup (xs++ys)) (fun b ob q=>Heap.get?_push_of_some _ q) (Nat.le_refl _) ?_,rfl,q2 (fun w=>z (r2.nil_iff.mpr w)) _ (I.hok.fresh (Nat.le_refl _))⟩
 exact⟨by rw[List.length_append];exact hz,_,r1.append r2,IsTup.new _ _⟩
end
end L2
namespace L2
open PySem PySem.Spec PyProof.Rows
noncomputable def ixN (n:Nat)(i:Int):Option Nat:=if 0<=i then (if i<n then some i.toNat else none) else if -(n:Int)<=i then some (i+n).toNat else none
noncomputable def atI {α:Type}(xs:List α)(i:Int):Option α:=(ixN xs.length i).bind fun j=>xs[j]?
theorem ixN_seq {n:Nat}{i:Int}{j:Nat}(h:ixN n i=some j):seqIndex? i n=some j/\j<n/\-(n:Int)<=i/\i<n:=by
 unfold ixN at h
 by_cases h0:0<=i
 ·rw[if_pos h0]at h
  by_cases h1:i<n
  ·rw[if_pos h1]at h
   have e:i.toNat=j:=Option.some.inj h
   exact⟨by rw[seqIndex_of h0 h1,e],by omega,by omega,h1⟩
  ·rw[if_neg h1]at h;cases h
 ·rw[if_neg h0]at h
  by_cases h1:-(n:Int)<=i
  ·rw[if_pos h1]at h
   have e:(i+n).toNat=j:=Option.some.inj h
   exact⟨by rw[seqIndex_neg (by omega) h1,e],by omega,h1,by omega⟩
  ·rw[if_neg h1]at h;cases h
theorem zkl {α:Type}{xs:List α}{i:Int}{v:α}(h:atI xs i=some v):∃j,seqIndex? i xs.length=some j/\xs[j]? = some v/\j<xs.length/\-(xs.length:Int)<=i/\i<xs.length:=by
 unfold atI at h
 cases e:ixN xs.length i with
 | none=>rw[e]at h;cases h
 | some j =>
  rw[e]at h
  obtain⟨h1,h2,h3,h4⟩:=ixN_seq e
  exact⟨j,h1,h,h2,h3,h4⟩
noncomputable def PlainIx (b:Expr):Prop:=∀o i,subscripted b false o i=operate [o,i] (getItem o i)
noncomputable def IxR (X:Cx)(r:R2):Prop :=
 ∀(value slice:Expr) (pins:List (Addr×Obj)) (s:Shared) (σ:St) (H:Hp) (x y:V) (v u:Value) (Q:VK),Inv X pins σ H s->RelV x v->RelV y u->r x y H Q ->
  subscripted slice false v u=operate [v,u] (getItem v u)->wpAny (model X.prog X.w) X.A (subscriptTail value slice v u) (EP X pins σ Q) X.xe s
noncomputable def MtR (X:Cx)(id:String)(r:V->List V->Hp->VK->Prop):Prop :=
 ∀(pins:List (Addr×Obj)) (s:Shared) (σ:St) (H:Hp) (x:V) (xs:List V) (v:Value) (us:List Value) (Q:VK),Inv X pins σ H s->RelV x v->Vals xs us->r x xs H Q ->
  wpAny (model X.prog X.w) X.A (call (.builtin id) (v::us)) (EP X pins σ Q) X.xe s
section
variable {X:Cx}{a b:Expr}{ta tb:TE}{pos:Pos}
theorem IxR.or {r r':R2}(h:IxR X r)(h':IxR X r'):IxR X (fun x y H Q=>r x y H Q\/r' x y H Q):=by
 intro value slice pins s σ H x y v u Q I rx ry q hs
 rcases q with q | q
 ·exact h value slice pins s σ H x y v u Q I rx ry q hs
 ·exact h' value slice pins s σ H x y v u Q I rx ry q hs
theorem pe_ix {r:R2}(hr:IxR X r)(ha:PE X a ta)(hb:PE X b tb)(hs:PlainIx b):PE X (.Subscript a b pos) (tOp r ta tb):=by
 intro pins s σ H Q I h
 exact Subscript_ (binT ha hb I h fun v u s2 x y H2 I2 rx ry q=>hr a b pins s2 σ H2 x y v u Q I2 rx ry q (hs _ _))
noncomputable def rIxL (K:PySem.W.Frag):R2:=fun x y H Q=>∃p xs i v,x=.ref p/\y=.int i/\SqL K H p xs/\atI xs i=some v/\Q v H
noncomputable def rIxT (K:PySem.W.Frag):R2:=fun x y H Q=>∃p xs i v,x=.ref p/\y=.int i/\SqT K H p xs/\atI xs i=some v/\Q v H
noncomputable def rIxS:R2:=fun x y H Q=>∃z i c,x=.str z/\y=.int i/\z.length<=sizeLine/\atI z.cps.toList i=some c/\Q (.str ⟨#[c]⟩) H
theorem ix_list:IxR X (rIxL X.K):=by
 intro value slice pins s σ H x y v u Q I rx ry h hs
 obtain⟨p,xs,i,z,rfl,rfl,hq,he,q⟩:=h
 cases rx
 obtain⟨t,rfl⟩:=ry
 obtain⟨its,r,pl,hz⟩:=I.list hq
 obtain⟨j,h1,h2,h3,h4,h5⟩:=zkl he
 obtain⟨w,ew,rw'⟩:=r.get h2
 have hl:=r.length
 have hn:=line63
 have fin:EP X pins σ Q w s:=⟨z,H,I,rw',q⟩
 by_cases h0:0<=i
 ·have hj:i.toNat=j:=by
   rw[seqIndex_of h0 h5]at h1
   exact Option.some.inj h1
  exact item_listR pl.isList h0 (by omega) (by rw[hj];simpa using ew) fin hs
 ·have hj:(i+(its.toArray.size:Int)).toNat=j:=by
   rw[seqIndex_neg (by omega) h4]at h1
   rw[List.size_toArray,<-hl]
   exact Option.some.inj h1
  exact subscriptTail_builtinR (x:=w) pl.isList.typeIs slot_list_getitem.lookup
   (wpAny_getItem_list_neg (Q:=fun r s'=>r=w/\EP X pins σ Q r s') pl.isList (by omega) (by rw[List.size_toArray]<;>omega) (by omega) (by rw[hj];simpa using ew) ⟨rfl,fin⟩) hs
theorem ix_tup:IxR X (rIxT X.K):=by
 intro value slice pins s σ H x y v u Q I rx ry h hs
 obtain⟨p,xs,i,z,rfl,rfl,hq,he,q⟩:=h
 cases rx
 obtain⟨t,rfl⟩:=ry
 obtain⟨its,r,pl,hz⟩:=I.tuple hq
 obtain⟨j,h1,h2,h3,h4,h5⟩:=zkl he
 obtain⟨w,ew,rw'⟩:=r.get h2
 have hl:=r.length
 have hn:=line63
 have fin:EP X pins σ Q w s:=⟨z,H,I,rw',q⟩
 exact subscriptTail_builtinR (x:=w) pl.typeIs slot_tuple_getitem.lookup
  (getItem_tuple (j:=j) (Q:=fun r s'=>r=w/\EP X pins σ Q r s') pl (by omega) (by omega) (by rw[List.size_toArray,<-hl];exact h1) (by simpa using ew) ⟨rfl,fin⟩) hs
theorem ix_str:IxR X rIxS:=by
 intro value slice pins s σ H x y v u Q I rx ry h hs
 obtain⟨z,i,c,rfl,rfl,hz,he,q⟩:=h
 obtain⟨t,rfl⟩:=rx
 obtain⟨t',rfl⟩:=ry
 obtain⟨j,h1,h2,h3,h4,h5⟩:=zkl he
 have hl:z.cps.toList.length=z.length:=by simp[Str.length]
 rw[hl]at h1 h4 h5
 have hn:=line63
 exact tail_any (typeIs_str s z t) slot_str_getitem.lookup (getItem_str (c:=c) (by
  have e1:decide (i < -(2 ^ 63:Int))=false:=decide_eq_false (by omega)
  have e2:decide (i ≥ 2 ^ 63)=false:=decide_eq_false (by omega)
  rw[e1,e2,Bool.or_false]) (by rw[h1];simpa using h2) ⟨.str ⟨#[c]⟩,H,I.tok _,⟨_,rfl⟩,q⟩) hs
noncomputable def rIx (K:PySem.W.Frag):R2:=fun x y H Q=>rIxL K x y H Q\/rIxT K x y H Q\/rIxS x y H Q
theorem ix_seq:IxR X (rIx X.K):=ix_list.or (ix_tup.or ix_str)
theorem zia (lo hi:Option Int)(n:Nat):(sliceBounds lo hi none n).1=((HT.sIx n 0 lo:Nat):Int)/\(sliceBounds lo hi none n).2.1=((HT.sIx n n hi:Nat):Int)/\(sliceBounds lo hi none n).2.2=1:=by
 refine⟨?_,?_,rfl⟩
 ·cases lo with
  | none=>simp[sliceBounds,HT.sIx]
  | some i =>
   simp only[sliceBounds,HT.sIx,Option.getD_none,show (1:Int) > 0 by decide,if_true]
   by_cases h:i<0
   ·simp only[h,if_true]<;>omega
   ·simp only[h,if_false]<;>omega
 ·cases hi with
  | none=>simp[sliceBounds,HT.sIx]
  | some i =>
   simp only[sliceBounds,HT.sIx,Option.getD_none,show (1:Int) > 0 by decide,if_true]
   by_cases h:i<0
   ·simp only[h,if_true]<;>omega
   ·simp only[h,if_false]<;>omega
theorem zhw (its:List Value)(lo hi:Option Int):slicePick its.toArray lo hi none=((its.drop (HT.sIx its.length 0 lo)).take (HT.sIx its.length its.length hi - HT.sIx its.length 0 lo)).toArray:=by
 obtain⟨h1,h2,h3⟩:=zia lo hi its.toArray.size
 unfold slicePick
 rw[h1,h2,h3]
 simp only[sliceRange_one,pick_run,List.size_toArray]<;>rfl
noncomputable def rSlL (K:PySem.W.Frag):V->Option Int->Option Int->Hp->VK->Prop:=fun x lo hi H Q=>∃a xs,x=.ref a/\SqL K H a xs/\∀p,H p=none->Q (.ref p) (upd H p (.lst (cutV xs lo hi)))
theorem sl_list:SlR X (rSlL X.K):=by
 intro pins s σ H x v vl vu lo hi sl Q I rx hs pl pu h
 obtain⟨a,xs,rfl,hx,q⟩:=h
 cases rx
 obtain⟨its,r,ht,hz⟩:=I.list hx
 have hlen:=r.length
 refine⟨"list",_,slot_list_getitem.lookup,ht.isList.typeIs,?_⟩
 refine wpAny_getItem_list_slice ht.isList hs pl pu .none (by simp) ?_ (by rw[List.size_toArray]<;>omega)
 rw[zhw,<-hlen]
 refine⟨.ref s.heap.objs.size,_,I.laid (t':=s.toks) (o:=.lst (cutV xs lo hi)) (fun b ob q=>Heap.get?_push_of_some _ q) (Nat.le_refl _) ?_,rfl,q _ (I.hok.fresh (Nat.le_refl _))⟩
 exact⟨Nat.le_trans (zgi xs lo hi) hz,_,0,(r.drop (HT.sIx xs.length 0 lo)).take (HT.sIx xs.length xs.length hi - HT.sIx xs.length 0 lo),Heap.get?_push_size _ rfl⟩
noncomputable def eqV:V->V->Bool
 | .non,.non=>true
 | .bl a,.bl b=>a==b
 | .bl a,.int b=>(if a then 1 else 0)==b
 | .int a,.bl b=>a==(if b then 1 else 0)
 | .int a,.int b=>a==b
 | .str a,.str b=>a==b
 | _,_=>false
theorem zhz:OpR X (compareOp .NotIn) (fun x y H Q=>∃i j,x=.str i/\y=.str j/\Q (.bl (!(!(Builtin.Str.occurrences j i 0 j.length 1).isEmpty))) H):=by
 intro pins s σ H x y v u Q I rx ry h
 obtain⟨i,j,rfl,rfl,q⟩:=h
 obtain⟨t,rfl⟩:=rx
 obtain⟨t',rfl⟩:=ry
 exact notIn_str ⟨.bl _,H,I,rfl,q⟩
theorem zh9:CallR X (.builtin "len") (fun xs H Q=>∃p ys,xs=[.ref p]/\(SqL X.K H p ys\/SqT X.K H p ys)/\Q (.int ys.length) H):=by
 intro pins s σ H xs us Q I r h
 obtain⟨p,ys,rfl,hq,q⟩:=h
 obtain⟨u,rfl,rx⟩:=vals1 r
 cases rx
 have hn:=line63
 rcases hq with hq | hq
 ·obtain⟨its,r',pl,hz⟩:=I.list hq
  have hlen:=r'.length
  exact Calls.call_len_list pl.isList (by simp only[List.size_toArray]<;>omega) ⟨.int ys.length,H,I.tok _,⟨s.toks+1,by rw[List.size_toArray,hlen]⟩,q⟩
 ·obtain⟨its,r',pl,hz⟩:=I.tuple hq
  have hlen:=r'.length
  exact len_tuple pl (by simp only[List.size_toArray]<;>omega) ⟨.int ys.length,H,I.tok _,⟨s.toks+1,by rw[List.size_toArray,hlen]⟩,q⟩
theorem zh7:CallR X (.builtin "len") (fun xs H Q=>∃z,xs=[.str z]/\z.length<=sizeLine/\Q (.int z.length) H):=by
 intro pins s σ H xs us Q I r h
 obtain⟨z,rfl,hz,q⟩:=h
 obtain⟨u,rfl,t,rfl⟩:=vals1 r
 have hn:=line63
 exact len_str (by omega) ⟨.int z.length,H,I.tok _,⟨_,rfl⟩,q⟩
theorem CallR.or {f:Value}{r r':List V->Hp->VK->Prop}(h:CallR X f r)(h':CallR X f r'):CallR X f (fun xs H Q=>r xs H Q\/r' xs H Q):=by
 intro pins s σ H xs us Q I rs q
 rcases q with q | q
 ·exact h pins s σ H xs us Q I rs q
 ·exact h' pins s σ H xs us Q I rs q
theorem zh2:CallR X (.type "list") (fun xs H Q=>∃p ys,xs=[.ref p]/\(SqL X.K H p ys\/SqT X.K H p ys)/\∀l,H l=none->Q (.ref l) (upd H l (.lst ys))):=by
 intro pins s σ H xs us Q I r h
 obtain⟨p,ys,rfl,hq,q⟩:=h
 obtain⟨u,rfl,rx⟩:=vals1 r
 cases rx
 have fin:∀(its:List Value),Vals ys its->ys.length<=sizeLine->∀(h':Heap) (c':Nat),(∀b o',s.heap.get? b=some o'->h'.get? b=some o') ->
   h'.get? s.heap.objs.size=some { cls:=.type "list",dict:=none,data:=.seq its.toArray c',slots:=#[] }->EP X pins σ Q (.ref s.heap.objs.size) { s with heap:=h' }:=fun its r' hz h' c' kp e =>
  ⟨.ref s.heap.objs.size,_,I.laid (t':=s.toks) kp (Nat.le_refl _) (show ObjOk X.prog X.w _ h' _ (.lst ys) from ⟨hz,its,c',r',e⟩),rfl,q _ (I.hok.fresh (Nat.le_refl _))⟩
 rcases hq with hq | hq
 ·obtain⟨its,r',pl,hz⟩:=I.list hq
  have hlen:=r'.length
  obtain⟨o,ho,hc,n,hd⟩:=pl.isList
  exact call_list_seq p (.inl rfl) ho hc hd (fun h' c' kp e=>fin its r' hz h' c' kp e) (by simp only[List.size_toArray]<;>omega)
 ·obtain⟨its,r',pl,hz⟩:=I.tuple hq
  have hlen:=r'.length
  obtain⟨o,ho,hc,n,hd⟩:=pl
  exact call_list_seq p (.inr rfl) ho hc hd (fun h' c' kp e=>fin its r' hz h' c' kp e) (by simp only[List.size_toArray]<;>omega)
noncomputable def tyV (K:PySem.W.Frag)(T:String)(x:V)(H:Hp):Prop:=match x with
 | .str _=>T = "str"
 | .int _=>T = "int"
 | .ref p=>(T = "list"/\∃xs,SqL K H p xs)\/(T = "tuple"/\∃o,K.lookup p=some o/\o.cls=.type "tuple"/\o.dict=none) \/
   (T = "dict"/\((∃kvs,H p=some (.dK kvs))\/∃kvs,H p=some (.dT kvs)))\/(T = "set"/\∃S n,H p=some (.set S n))
 | _=>False
theorem tyV_is {pins:List (Addr×Obj)}{σ:St}{H:Hp}{s:Shared}{T:String}{x:V}{v:Value}(I:Inv X pins σ H s)(r:RelV x v)(ty:tyV X.K T x H) :
  s.TypeIs v T/\∀a,v=.ref a->∃ob,s.heap.get? a=some ob/\ob.dict=none:=by
 cases x with
 | str z =>
  obtain⟨t,rfl⟩:=r
  cases (show T = "str" from ty)
  exact⟨typeIs_str s z t,fun _ e=>nomatch e⟩
 | int i =>
  obtain⟨t,rfl⟩:=r
  cases (show T = "int" from ty)
  exact⟨typeIs_int s i t,fun _ e=>nomatch e⟩
 | ref p =>
  cases r
  rcases ty with⟨rfl,xs,hq⟩ | ⟨rfl,o,hk,hc,hd⟩ | ⟨rfl,hk⟩ | ⟨rfl,S,n,hk⟩
  ·obtain⟨its,_,pl,_⟩:=I.list hq
   refine⟨pl.isList.typeIs,fun a e=>?_⟩
   cases e
   obtain⟨o,n,e,c,hd,_⟩:=pl
   exact⟨o,e,hd⟩
  ·refine⟨⟨o,I.kIn p o hk,hc⟩,fun a e=>?_⟩
   cases e
   exact⟨o,I.kIn _ o hk,hd⟩
  ·have z:∃o,s.heap.get? p=some o/\o.ExactDict:=by
    rcases hk with⟨kvs,hk⟩ | ⟨kvs,hk⟩
    ·obtain⟨_,_,_,_,o,_,_,e,ex,_⟩:=I.hok p _ hk
     exact⟨o,e,ex⟩
    ·obtain⟨_,_,_,_,o,_,_,e,ex,_⟩:=I.hok p _ hk
     exact⟨o,e,ex⟩
   obtain⟨o,e,ex⟩:=z
   refine⟨⟨o,e,ex.1⟩,fun a e2=>?_⟩
   cases e2
   exact⟨o,e,ex.2.1⟩
  ·obtain⟨o,_,_,_,e,ex,_⟩:=I.hok p _ hk
   refine⟨⟨o,e,ex.1⟩,fun a e2=>?_⟩
   cases e2
   exact⟨o,e,ex.2.1⟩
 | _=>exact False.elim ty
noncomputable def tBM0 (K:PySem.W.Frag)(T:String)(r:V->List V->Hp->VK->Prop)(to:TE):TE:=fun σ H Q=>to σ H fun x H1=>tyV K T x H1/\r x [] H1 Q
noncomputable def tBM (K:PySem.W.Frag)(T:String)(r:V->List V->Hp->VK->Prop)(to:TE)(t:TA):TE:=fun σ H Q=>to σ H fun x H1=>tyV K T x H1/\t σ H1 fun xs H2=>r x xs H2 Q
variable {o e:Expr}{es:List Expr}{to:TE}{t:TA}{name:Str}{apos cpos:Pos}{T id:String}{r:V->List V->Hp->VK->Prop}
theorem pe_bm0 (pa:PlainAttrs T)(slot:Slot T name id)(hty:typeOf (.builtin id)=pure (.type "method_descriptor"))(hm:MtR X id r)(ho:PE X o to)
  (hbase:attributeBase o name X.env (eval o X.env)=eval o X.env:=by rfl) (hline:(apos.endLine==cpos.line)=true:=by rfl):PE X (.Call (.Attribute o name apos) [] [] cpos) (tBM0 X.K T r to):=by
 intro pins s σ H Q I h
 refine wpAny_Call_method0_late hbase hline (thn (ho pins s σ H _ I h) fun v s1 zz=>?_)
 obtain⟨x,H1,I1,r1,ty,q1⟩:=zz
 obtain⟨h1,h2⟩:=tyV_is I1 r1 ty
 exact⟨T,id,pa,slot,hty,h1,h2,Calls.callWith_builtin rfl (PySem.evalArgs_none (hm pins s1 σ H1 x [] v [] Q I1 r1 .nil q1))⟩
theorem pe_bm (pa:PlainAttrs T)(slot:Slot T name id)(hty:typeOf (.builtin id)=pure (.type "method_descriptor"))(hm:MtR X id r)(ho:PE X o to)(ha:PA X (e::es) t)
  (hbase:attributeBase o name X.env (eval o X.env)=eval o X.env:=by rfl)
  (hfew:((backTo cpos (starEach (e::es) X.env)).all (fun x=>!x.1) && (backToKw cpos (keywordEach [] X.env)).all (fun x=>x.1.isSome)
   && decide ((e::es).length+([]:List Keyword).length+(if ([]:List Keyword).isEmpty then 0 else 1)<30))=true:=by rfl)
  (hline:(apos.endLine==cpos.line)=true:=by rfl) (hs:starEach (e::es) X.env=(false,eval e X.env)::starEach es X.env:=by rfl) (hplain:(backTo cpos (starEach es X.env)).any (·.1)=false:=by rfl) :
  PE X (.Call (.Attribute o name apos) (e::es) [] cpos) (tBM X.K T r to t):=by
 intro pins s σ H Q I h
 refine wpAny_Call_method_late hbase hfew hline rfl (thn (ho pins s σ H _ I h) fun v s1 zz=>?_)
 obtain⟨x,H1,I1,r1,ty,q1⟩:=zz
 obtain⟨h1,h2⟩:=tyV_is I1 r1 ty
 refine⟨T,id,pa,slot,hty,h1,h2,?_⟩
 have hA:=ha cpos pins s1 σ H1 _ I1 q1
 rw[hs]at hA ⊢
 refine Calls.callWith_builtin (by show (false || (backTo cpos (starEach es X.env)).any (·.1))=false;rw[hplain]<;>rfl) (Calls.evalArgs_plain ?_)
 refine thn hA fun us s2 zz=>?_
 obtain⟨vs,H2,I2,r2,q2⟩:=zz
 exact hm pins s2 σ H2 x vs v us Q I2 r1 r2 q2
end
end L2
namespace L2
open PySem PySem.Spec PyProof.Rows
noncomputable def MtM (X:Cx)(id:String)(r:V->List V->Hp->VK->Prop):Prop :=
 ∀(pins:List (Addr×Obj)) (s:Shared) (σ:St) (H:Hp) (x:V) (xs:List V) (v:Value) (us:List Value) (Q:VK),Inv X pins σ H s->RelV x v->Vals xs us->r x xs H Q ->
  wpAny (model X.prog X.w) X.A (call (.builtin id) (v::us)) (EP X pins σ Q) X.xe s
theorem Vals.one:∀{x:V} {us:List Value},Vals [x] us->∃u,us=[u]/\RelV x u
 | _,_,.cons r .nil=>⟨_,rfl,r⟩
theorem Vals.zero:∀{us:List Value},Vals [] us->us=[]
 | _,.nil=>rfl
section
variable {X:Cx}{pins:List (Addr×Obj)}{σ:St}{H:Hp}{s:Shared}{l b:Addr}{xs ys zs:List V}
theorem Inv.lset {its its':List Value}{n:Nat}{f:Array Value->Array Value}{t':Nat}(I:Inv X pins σ H s)(hH:H l=some (.lst xs))
  (e:s.heap.get? l=some { cls:=.type "list",data:=.seq its.toArray n }) (hf:f its.toArray=its'.toArray) (hv:Vals ys its') (hz:ys.length<=sizeLine) :
  Inv X pins σ (upd H l (.lst ys)) { s with heap:=s.heap.update l (Obj.mapSeq f),toks:=t' }:=by
 have q:=PySem.IsL.update e f
 rw[hf]at q
 refine I.write (x:=l) (e:=l) (by rw[hH];exact trivial) (.inl rfl) (fun b' u hb hu=>(Heap.get?_update_other s.heap (Obj.mapSeq f) (Ne.symm hb)).trans hu) ⟨_,q⟩ ?_
 exact⟨hz,its',_,hv,q⟩
theorem Inv.lnew {its:List Value}{t':Nat}(I:Inv X pins σ H s)(hv:Vals ys its)(hz:ys.length<=sizeLine) :
  Inv X pins σ (upd H s.heap.objs.size (.lst ys)) { s with heap:=s.heap.push { cls:=.type "list",data:=.seq its.toArray },toks:=t' } :=
 I.laid (fun _ _ q=>Heap.get?_push_of_some _ q) (Nat.le_refl _) ⟨hz,its,0,hv,Heap.get?_push_size _ rfl⟩
theorem Inv.fresh (I:Inv X pins σ H s):H s.heap.objs.size=none:=I.hok.fresh (Nat.le_refl _)
theorem Inv.lstM (I:Inv X pins σ H s)(hH:H l=some (.lst xs)):xs.length<=sizeLine/\∃(its:List Value) (n:Nat),Vals xs its/\xs.length=its.length/\s.heap.get? l=some { cls:=.type "list",data:=.seq its.toArray n }:=by
 obtain⟨z,its,n,r,e⟩:=I.hok l _ hH
 exact⟨z,its,n,r,r.length,e⟩
theorem notLongL {n:Nat}(h:n<=sizeLine):Builtin.List.listTooLong n=false:=by
 unfold Builtin.List.listTooLong
 exact decide_eq_false (by omega)
end
section
variable {X:Cx}
noncomputable def rAppend:V->List V->Hp->VK->Prop:=fun x vs H Q=>∃l xs y,x=.ref l/\vs=[y]/\H l=some (.lst xs)/\xs.length<sizeLine/\Q .non (upd H l (.lst (xs++[y])))
theorem zjh:MtM X "list.append" rAppend:=by
 intro pins s σ H x vs v us Q I rx rv h
 obtain⟨l,xs,y,rfl,rfl,hH,hz,q⟩:=h
 cases rx
 obtain⟨u,rfl,ru⟩:=rv.one
 obtain⟨z,its,n,r,hl,e⟩:=I.lstM hH
 refine call_meets F.slot_list_append ⟨_,e,rfl⟩ F.entry_list_append (F.args_list_append_2 _ _) (PySem.list_append l its.toArray n u (by rw[List.size_toArray];omega)) ⟨e,?_⟩
 refine⟨.non,_,I.lset (its':=its++[u]) hH e (by simp) (r.append (.cons ru .nil)) ?_,rfl,q⟩
 rw[List.length_append,List.length_singleton]
 omega
noncomputable def rExtend:V->List V->Hp->VK->Prop:=fun x vs H Q=>∃l b xs zs,x=.ref l/\vs=[.ref b]/\H l=some (.lst xs)/\H b=some (.lst zs)/\xs.length+zs.length<=sizeLine/\Q .non (upd H l (.lst (xs++zs)))
theorem mt_extend:MtM X "list.extend" rExtend:=by
 intro pins s σ H x vs v us Q I rx rv h
 obtain⟨l,b,xs,zs,rfl,rfl,hH,hB,hz,q⟩:=h
 cases rx
 obtain⟨u,rfl,ru⟩:=rv.one
 cases ru
 obtain⟨z,its,n,r,hl,e⟩:=I.lstM hH
 obtain⟨z2,its2,n2,r2,hl2,e2⟩:=I.lstM hB
 have hsz:its.toArray.size+its2.toArray.size<=sizeLine:=by rw[List.size_toArray,List.size_toArray];omega
 have hlong:¬ (!its.toArray.isEmpty && Builtin.List.listTooLong (its.toArray.size+its2.toArray.size))=true:=by
  rw[notLongL hsz,Bool.and_false]
  exact Bool.false_ne_true
 refine call_meets F.slot_list_extend ⟨_,e,rfl⟩ F.entry_list_extend (F.args_list_extend_2 _ _)
  (AutoSeq1.list_extend_list_list_0 l its.toArray n b its2.toArray n2 hlong (by rw[List.size_toArray];omega) (by omega)) ⟨e,e2,?_⟩
 refine⟨.non,_,I.lset (its':=its++its2) hH e (by simp) (r.append r2) ?_,rfl,q⟩
 rw[List.length_append]
 omega
noncomputable def rClear:V->List V->Hp->VK->Prop:=fun x vs H Q=>∃l xs,x=.ref l/\vs=[]/\H l=some (.lst xs)/\Q .non (upd H l (.lst []))
theorem mt_clear:MtM X "list.clear" rClear:=by
 intro pins s σ H x vs v us Q I rx rv h
 obtain⟨l,xs,rfl,rfl,hH,q⟩:=h
 cases rx
 have hus:=rv.zero
 subst hus
 obtain⟨z,its,n,r,hl,e⟩:=I.lstM hH
 refine call_meets F.slot_list_clear ⟨_,e,rfl⟩ F.entry_list_clear (F.args_list_clear_1 _) (AutoSeq1.list_clear_list_0 l its.toArray n (by rw[List.size_toArray];omega)) ⟨e,?_⟩
 exact⟨.non,_,I.lset (its':=[]) (ys:=[]) hH e rfl .nil (Nat.zero_le _),rfl,q⟩
noncomputable def rCat:R2:=fun x y H Q=>∃l b xs zs,x=.ref l/\y=.ref b/\H l=some (.lst xs)/\H b=some (.lst zs)/\xs.length+zs.length<=sizeLine/\∀p,H p=none->Q (.ref p) (upd H p (.lst (xs++zs)))
theorem op_cat:OpR X (binaryOp .Add) rCat:=by
 intro pins s σ H x y v u Q I rx ry h
 obtain⟨l,b,xs,zs,rfl,rfl,hH,hB,hz,q⟩:=h
 cases rx
 cases ry
 obtain⟨z,its,n,r,hl,e⟩:=I.lstM hH
 obtain⟨z2,its2,n2,r2,hl2,e2⟩:=I.lstM hB
 refine PySem.P.add_list e e2 ?_ (by rw[List.size_toArray,List.size_toArray];omega)
 have ea:its.toArray++its2.toArray=(its++its2).toArray:=by simp
 rw[ea]
 exact⟨.ref _,_,I.lnew (t':=s.toks) (r.append r2) (by rw[List.length_append];omega),rfl,q _ I.fresh⟩
end
section
variable {prog:Program}{w:World}{A:Around}{E:Value->Shared->Prop}{s:Shared}
set_option maxRecDepth 100000 in
end
section
variable {X:Cx}
end
end L2
namespace Att
open PySem PySem.W PySem.Calls PyProof.Rows
theorem zf4 {P:Params}{h:Heap}:∀(ns:List Int) (vs:List Value),WellAll P h vs (ns.map WData.int)->IntsAre vs ns:=by
 intro ns
 induction ns with
 | nil =>
  intro vs w
  rw[List.map_nil]at w
  cases w
  exact .nil
 | cons n ns ih =>
  intro vs w
  rw[List.map_cons]at w
  cases w with
  | cons a b =>
   cases a
   exact .cons _ _ (ih _ b)
theorem script_of {l:OpenLaw}{n:Nat}(hn:l.most=some n){P:Params}{h:Heap}{args:List WData}{vals:List Value}
  (hpre:l.row.toRowW.claim.pre args=true) (hwl:WellAll P h vals args) :
  ∃a vs ns,vals=[Value.ref a]/\args=[WData.list (ns.map WData.int)]/\h.get? a=some { cls:=.type "list",data:=.seq vs.toArray }/\IntsAre vs ns/\ns.length<=n:=by
 have hsh:WShape.hasAll [] args [.list .int]=true:=(pre_splitW hpre).1
 have hc:l.pre.holds [] { args:=args }=true:=(pre_splitW hpre).2
 obtain⟨d,r,rfl,h1,h2⟩:=hasAllW_cons hsh
 obtain rfl:=hasAllW_nil h2
 obtain⟨xs,rfl,h3⟩:=hasW_list h1
 obtain⟨ns,rfl⟩:=items_int h3
 have hlen:ns.length<=n:=by
  unfold OpenLaw.pre at hc
  have h4:(WTm.not (.lt (.lit (.int (n:Int))) (.len (.arg 0)))).holds [] { args:=[.list (ns.map .int)] }=true:=by
   have h4:=(holds_andW hc).1
   rw[hn]at h4
   exact h4
  have h5:=condW_of h4 (w_not (w_lt w_lit (w_len_list (w_arg rfl))))
  rw[List.length_map]at h5
  refine Nat.le_of_not_lt fun q=>?_
  have q':(n:Int)<((ns.length:Nat):Int):=by omega
  first
   | (rw[decide_eq_true q']at h5;exact absurd h5 (by decide))
   | (simp at h5;omega)
 cases hwl with
 | cons w1 w2 =>
  cases w2
  cases w1 with
  | list ho hall=>exact⟨_,_,ns,rfl,rfl,ho,zf4 ns _ hall,hlen⟩
theorem post_true (l:OpenLaw)(args:List WData):l.row.toRowW.claim.post args (.bool true) args=true :=
 postW_of (r:=l.row.toRowW) (X:=(true==true))
  (show WShape.has [] (.bool true) .bool=true by first | rfl | decide | simp[WShape.has,WShape.arms,WShape.armsAll])
  (show (WTm.eq .res (.lit (.bool true))).value [] { args:=args,res:=some (.bool true),after:=args }=some (.bool (true==true)) from w_eq_bool (w_res rfl) w_lit) rfl
theorem zgc {l:OpenLaw}{n:Nat}{q:Program}{loose:List Str}{XP:(Str->Option Value)->Heap->Prop}{YP:World->Heap->Prop}{d:DefRec}
  (hn:l.most=some n) (hdf:d.params.defaults=[])
  (call:∀(w:World) (s₀ s₁:Shared) (mg mb:Str->Option Value) (fa:Addr) (o:Obj) (pm cd doc:Value) (a:Addr) (vs:List Value) (ns:List Int),
   Ground q loose [] XP w s₀ mg mb s₁.heap->YP w s₁.heap ->
   s₁.heap.get? fa=some o->o.data=.func (docDef d.name d.params d.body d.scope pm cd doc)->s₁.heap.CodeRec cd d.name->mg d.name=some (.ref fa) ->
   s₁.heap.get? a=some { cls:=.type "list",data:=.seq vs.toArray }->IntsAre vs ns->ns.length<=n->s₁.gens=#[] ->
   codeAny (model l.prog w) callerA (.call (.ref fa) ⟨[.ref a],[]⟩) (fun r s'=>r=.ok (.ret (.bool true))/\OldK s₁.heap s'.heap/\s'.os=s₁.os/\AllBare s'.gens) s₁) :
  WalkO q loose XP YP l.row.toRowW d [] (fun f vs=>PySem.call f vs):=by
 intro w s₀ s₁ mg mb G Y fa o pm cd doc dV kV ho hd hcd hD hmg hg args vals as hpre hlay hrd hwl hlo
 obtain rfl:dV=.none:=Dflts.none hD hdf
 obtain rfl:kV=.none:=Dflts.noKw hD
 obtain⟨a,vs,ns,rfl,rfl,hobj,hints,hlen⟩:=script_of hn hpre hwl
 refine enter_call (codeAny_mono (call w s₀ s₁ mg mb fa o pm cd doc a vs ns G Y ho (fd_plain hd) hcd hmg hobj hints hlen hg) fun r s' hq=>?_)
 obtain⟨rfl,h2,h3,h4⟩:=hq
 exact⟨.inl ⟨.bool true,.bool true,[],rfl,fun _=>rfl,.bool true,post_true l _,fun _=>⟨List.Pairwise.nil,fun _ hm=>(nomatch hm)⟩⟩,h2,h3,h4⟩
section
variable {prog:Program}{w:World}{A:Around}{E:Value->Shared->Prop}{s:Shared}{K:Frag}
noncomputable def noObjs (h:Heap):Heap:={ h with objs:=#[] }
theorem zfj (h:Heap)(b:Addr):(noObjs h).get? b=none:=by
 cases e:(noObjs h).get? b with
 | none=>rfl
 | some o=>exact absurd (Heap.lt_size e) (Nat.not_lt_zero _)
noncomputable def ledger (h:Heap)(L d:Addr):List (Addr×Obj):=(List.range h.objs.size).filterMap fun a=>if a=L\/a=d then none else (h.get? a).map fun o=>(a,o)
theorem zha {h:Heap}{L d a:Addr}{o:Obj}:(a,o)∈ledger h L d↔a≠L/\a≠d/\h.get? a=some o:=by
 unfold ledger
 rw[List.mem_filterMap]
 constructor
 ·rintro ⟨b,_,e⟩
  split at e
  ·cases e
  ·rename_i hb
   obtain⟨o',ho,e'⟩:=Option.map_eq_some_iff.mp e
   cases e'
   exact⟨fun q=>hb (.inl q),fun q=>hb (.inr q),ho⟩
 ·rintro ⟨n1,n2,ho⟩
  refine⟨a,List.mem_range.mpr (Heap.lt_size ho),?_⟩
  rw[if_neg (show ¬ (a=L\/a=d) from fun q=>q.elim n1 n2),ho]<;>rfl
theorem zjz {h:Heap}{L d:Addr}{od:Obj}(hne:d≠L)(ho:h.get? d=some od):News (noObjs h) L h ([]++(d,od)::ledger h L d):=by
 rintro ⟨a,o⟩ hp
 rcases List.mem_cons.mp hp with e | hp
 ·cases e
  exact⟨ho,hne,zfj _ _⟩
 ·obtain⟨n1,n2,e⟩:=zha.mp hp
  exact⟨e,n1,zfj _ _⟩
theorem fr_all {h:Heap}{L:Addr}{m:Str->Option Value}(n:h.Ns L m):Fr (noObjs h) L h m :=
 ⟨n,fun b o e=>(by rw[zfj]at e;cases e),Nat.zero_le _⟩
end
end Att
namespace L2
open PySem PySem.Spec PyProof.Rows
theorem zgx:∀{vs:List Value} {ns:List Int},IntsAre vs ns->Vals (ns.map V.int) vs
 | _,_,.nil=>.nil
 | _,_,.cons n t h=>.cons ⟨t,rfl⟩ (zgx h)
noncomputable def Only (H:Hp):Prop:=∀b,H b=none\/∃o xs,H b=some (.frz o (.lst xs))
theorem law_call {P:Program}{w:World}{K:PySem.W.Frag}{mg mb:Str->Option Value}{CX:CXT}{k:Nat}{fa a:Addr}{fd:FuncData}{x:Str}{sp:Sp}{s₁:Shared}{vs:List Value}{ns:List Int}
  (KX:K.In s₁.heap) (hns:s₁.heap.Ns mainGlobals mg) (hb:s₁.heap.Ns builtinsNs mb) (hbb:∀x:Str,x ≠ "__name__"->mb x=bootBuiltins x) (hlim:s₁.heap.NoLimit) (hg:s₁.gens=#[])
  (ha:s₁.heap.get? a=some { cls:=.type "list",data:=.seq vs.toArray }) (hi:IntsAre vs ns) (hl:ns.length<=sizeLine) (hr:Room k callerA)
  (F:∀base:Heap,K.In base->base.Ns mainGlobals mg->FnOk P w K mg base CX k fa fd [x] sp) (hbind:∀(s:Shared) (u:Value),BindsTo s fd ⟨[u],[]⟩ [(x,u)])
  (hsp:∀H:Hp,Only H->SqL K H a (ns.map V.int)->sp [.ref a] H (fun v _=>v=.bl true) fun _ _ _=>False)
  (hCX:∀H e s',CX [] H s₁ (fun _ _ _=>False) e s'->False) :
  codeAny (model P w) callerA (.call (.ref fa) ⟨[.ref a],[]⟩) (fun r s'=>r=.ok (.ret (.bool true))/\OldK s₁.heap s'.heap/\s'.os=s₁.os/\AllBare s'.gens) s₁:=by
 have rv:=zgx hi
 have lenV:=hi.length

 have core:∀H:Hp,Only H->SqL K H a (ns.map V.int)->HOk P w H s₁.heap->(∀b,H b≠none->b=a)->(H a≠none->K.lookup a=none) ->
   codeAny (model P w) callerA (.call (.ref fa) ⟨[.ref a],[]⟩) (fun r s'=>r=.ok (.ret (.bool true))/\OldK s₁.heap s'.heap/\s'.os=s₁.os/\AllBare s'.gens) s₁:=by
  intro H hO hS hok hA hK
  have base_of:∀{b:Addr} {o:Obj},s₁.heap.get? b=some o->H b=none->(hidT s₁.heap H).get? b=some o:=fun e n=>zll e n
  have noA:∀{b:Addr} {o:Obj} {es:Array DictEntry} {ep:Nat},s₁.heap.get? b=some o->o.data=.dict es ep->H b=none:=fun {b o es ep} e d=>by
   cases q:H b with
   | none=>rfl
   | some u =>
    have e':b=a:=hA b (by rw[q];simp)
    subst e'
    rw[ha]at e;cases e
    have d':Data.seq vs.toArray _=Data.dict es ep:=d
    cases d'
  have nsK:∀{b:Addr} {m:Str->Option Value},s₁.heap.Ns b m->(hidT s₁.heap H).Ns b m:=fun {b m} ⟨o,es,ep,e,d,r⟩=>⟨o,es,ep,base_of e (noA e d),d,r⟩
  have hKb:K.In (hidT s₁.heap H):=fun b o e=>base_of (KX b o e) (by
   cases q:H b with
   | none=>rfl
   | some u =>
    have e':b=a:=hA b (by rw[q];simp)
    subst e'
    rw[hK (by rw[q];simp)]at e;cases e)
  have hM:Mod K mg (hidT s₁.heap H):=⟨hKb,nsK hns,⟨mb,nsK hb,hbb⟩,let ⟨mc,h1,h2⟩:=hlim;⟨mc,nsK h1,h2⟩⟩
  have e0:Env0 P w K mg (hidT s₁.heap H) callerA [] s₁ H:=⟨rfl,hM,fun b o e=>of_hidT e,Nat.le_of_eq (zio _ _),trivial,fun b hb=>absurd (show b∈([]:List Addr) from hb) (by simp),hok,.of_eq hg⟩
  refine codeAny_mono ((F _ hKb (nsK hns)).run callerA [] s₁ H ⟨[.ref a],[]⟩ [.ref a] [.ref a] _ _ hr e0 (hbind s₁ (.ref a)) (.cons rfl .nil) (hsp H hO hS)) fun r s' h=>?_
  cases r with
  | error e=>exact (hCX H e s' h).elim
  | ok fl =>
   cases fl with
   | next=>exact False.elim h
   | brk=>exact False.elim h
   | cont=>exact False.elim h
   | ret u =>
    obtain⟨v,H',os,bare,un,hok',r',q⟩:=h
    have q':v=.bl true:=q
    subst q'
    obtain rfl:u=Value.bool true:=r'
    refine⟨rfl,OldK.of_keep fun b o e=>?_,os,bare⟩
    cases q:H b with
    | none=>exact un.keep b o e q (by intro z;exact absurd (show b∈([]:List Addr) from z) (by simp)) (by simp)
    | some u =>
     rcases hO b with z | ⟨ob,xs,z⟩
     ·rw[q]at z;cases z
     ·have z2:=un.frzs b ob _ z
      obtain⟨e1,_⟩:=hok b _ z
      obtain⟨e2,_⟩:=hok' b _ z2
      rw[e]at e1;cases e1
      exact e2
 cases hk:K.lookup a with
 | some o =>

  have e:=KX a o hk
  rw[ha]at e
  cases e
  refine core (fun _=>none) (fun _=>.inl rfl) (.inr ⟨_,vs.toArray,_,hk,rfl,rfl,rfl,by rw[List.size_toArray,lenV];exact hl,by simpa using rv⟩) (fun b u z=>by have z':(none:Option HO)=some u:=z;cases z') (fun b z=>absurd rfl z) fun z=>absurd rfl z
 | none =>
  refine core (fun b=>if b=a then some (.frz { cls:=.type "list",data:=.seq vs.toArray } (.lst (ns.map V.int))) else none) (fun b=>?_) (.inl (.inr ⟨{ cls:=.type "list",data:=.seq vs.toArray },if_pos rfl⟩)) (fun b u z=>?_) (fun b z=>?_) fun _=>hk
  ·by_cases hb:b=a
   ·exact .inr ⟨_,_,if_pos hb⟩
   ·exact .inl (if_neg hb)
  ·by_cases hb:b=a
   ·have z':=(if_pos hb).symm.trans z
    cases z'
    subst hb
    exact⟨ha,by rw[List.length_map];exact hl,vs,_,rv,ha⟩
   ·have z':=(if_neg hb).symm.trans z
    cases z'
  ·by_cases hb:b=a
   ·exact hb
   ·exact absurd (if_neg hb) z
end L2
namespace L2
open PySem PySem.Spec PyProof.Rows
noncomputable abbrev KOf {K:PySem.W.Frag}{h:Heap}(_:K.In h):PySem.W.Frag:=K
theorem walk_of {l:PySem.W.OpenLaw}{n k:Nat}{q:Program}{loose:List Str}{XP:(Str->Option Value)->Heap->Prop}{YP:World->Heap->Prop}{d:DefRec}{K:Params->PySem.W.Frag}{CX:World->CXT}{sp:World->Sp}{x:Str}
  (hn:l.most=some n) (hn2:n<=sizeLine) (hdf:d.params.defaults=[]) (hr:Room k callerA)
  (hY:∀(w:World) (h:Heap),YP w h->(K w.params).In h)
  (F:∀(w:World) (mg:Str->Option Value) (fa:Addr) (h:Heap),(K w.params).In h->h.Ns mainGlobals mg->mg d.name=some (.ref fa) ->
   ∃fd:FuncData,(∀(s:Shared) (u:Value),BindsTo s fd ⟨[u],[]⟩ [(x,u)]) /\
    ∀base:Heap,(K w.params).In base->base.Ns mainGlobals mg->FnOk l.prog w (K w.params) mg base (CX w) k fa fd [x] (sp w))
  (hsp:∀(w:World) (H:Hp) (a:Addr) (ns:List Int),ns.length<=n->Only H->SqL (K w.params) H a (ns.map V.int)->sp w [.ref a] H (fun v _=>v=.bl true) fun _ _ _=>False)
  (hCX:∀(w:World) (H:Hp) (s:Shared) (e:Value) (s':Shared),CX w [] H s (fun _ _ _=>False) e s'->False) :
  PySem.W.WalkO q loose XP YP l.row.toRowW d [] (fun f vs=>PySem.call f vs):=by
 refine Att.zgc hn hdf fun w s₀ s₁ mg mb fa o pm cd doc a vs ns G Y ho hd hcd hmg hobj hints hlen hg=>?_
 have KX:=hY w _ Y
 obtain⟨fd,hb,hF⟩:=F w mg fa _ KX G.T.g hmg
 exact law_call KX G.T.g G.T.b G.T.builtins G.T.nolimit hg hobj hints (Nat.le_trans hlen hn2) hr hF hb (fun H hO hS=>hsp w H a ns hlen hO hS) fun H e s'=>hCX w H s₁ e s'
end L2
namespace L2
open PySem PySem.Spec PyProof.Rows
noncomputable def defArgs (s:Stmt):Arguments:=match s with
 | .FunctionDef _ a _ _ _ _ _ _ _ _=>a
 | _=>{ posonlyargs:=[],args:=[],vararg:=none,kwonlyargs:=[],kw_defaults:=[],kwarg:=none,defaults:=[] }
noncomputable def defBody (s:Stmt):List Stmt:=match s with
 | .FunctionDef _ _ b _ _ _ _ _ _ _=>b
 | _=>[]
noncomputable def defScope (s:Stmt):Scope:=match s with
 | .FunctionDef _ _ _ _ _ _ sc _ _ _=>sc
 | _=>{ kind:=.function,names:=[],isGenerator:=false,isCoroutine:=false }
noncomputable abbrev CX0:CXT:=fun _ _ _ _ _ _=>False
noncomputable abbrev E0:XK:=fun _ _ _=>False
theorem pass0 {X:Cx}:Passes CX0 X E0:=fun _ _ _ _ _ _ _ h=>h.elim
structure Fun (K:PySem.W.Frag)(x qual:Str)(st:Stmt)(f:Addr)(fd:FuncData):Prop where
 ex:∃(oc:Value) (od:Option Addr) (kV doc pm:Value) (an:Option Addr) (cdv ct:Value) (osl:Array (Option Value)),
  fd=PySem.W.fnOf x qual (defArgs st) (defBody st) (defScope st) .none kV doc pm an cdv ct/\K.lookup f=some ⟨oc,od,.func fd,osl⟩/\PySem.W.codeIn K cdv qual=true
 kp:PySem.W.keepIn K (.ref f)=true
section
variable {P:Program}{w:World}{K:PySem.W.Frag}{mg:Str->Option Value}{base:Heap}
theorem Fun.ok {x qual:Str}{st:Stmt}{f:Addr}{fd:FuncData}{N ps:List Str}{k:Nat}{sp:Sp}(F:Fun K x qual st f fd)(S:FnScope N ps (defScope st))(len:∀vs H Q E,sp vs H Q E->vs.length=ps.length)
  (hbody:∀(cdv:Value) (A:Around) (outer:List Env) (s:Shared) (H:Hp) (vs:List V) (Q:VK) (E:XK),Room k (A.deeper (envOfC qual (defScope st) s.heap.objs.size f cdv))->sp vs H Q E ->
   ∃t,PSs (cxOf CX0 P w K mg base N qual (defScope st) f cdv A outer s H E).nox (defBody st) t/\t { nx:=fun _ H'=>Q .non H',rt:=Q } (start N vs) H):FnOk P w K mg base CX0 (k+1) f fd ps sp:=by
 obtain⟨oc,od,kV,doc,pm,an,cdv,ct,osl,rfl,lk,hcd⟩:=F.ex
 refine fn_of lk hcd S len fun A outer s H vs Q E hr hsp=>?_
 obtain⟨t,h,q⟩:=hbody cdv A outer s H vs Q E hr hsp
 exact⟨t,h.nox,q⟩
theorem Fun.binds {x qual:Str}{st:Stmt}{f:Addr}{fd:FuncData}{ps:List Str}(F:Fun K x qual st f fd)
  (h:∀(kV doc pm:Value) (an:Option Addr) (cdv ct:Value) (us:List Value),us.length=ps.length->bindArgs (PySem.W.fnOf x qual (defArgs st) (defBody st) (defScope st) .none kV doc pm an cdv ct) ⟨us,[]⟩=pure (ps.zip us)):Binds K fd ps []:=by
 obtain⟨oc,od,kV,doc,pm,an,cdv,ct,osl,rfl,lk,hcd⟩:=F.ex
 exact .all (h kV doc pm an cdv ct)
theorem zcj {x qual:Str}{st:Stmt}{f:Addr}{oc:Value}{od an:Option Addr}{osl:Array (Option Value)}{kV doc pm cdv ct:Value}(l:K.lookup f=some ⟨oc,od,.func (PySem.W.fnOf x qual (defArgs st) (defBody st) (defScope st) .none kV doc pm an cdv ct),osl⟩)
  (c:PySem.W.codeIn K cdv qual=true) (k:PySem.W.keepIn K (.ref f)=true):Fun K x qual st f (PySem.W.fnOf x qual (defArgs st) (defBody st) (defScope st) .none kV doc pm an cdv ct):=⟨⟨oc,od,kV,doc,pm,an,cdv,ct,osl,rfl,l,c⟩,k⟩
end
theorem hu_of {A:Around}{k:Nat}(hr:Room k A):A.units+1<cLine:=Nat.lt_of_le_of_lt (Nat.add_le_add_left (by decide:1<=64) _) hr.units
section
variable {X:Cx}
theorem pv (i:Nat){x:Str}{pos:Pos}(hN:X.N[i]? = some x:=by rfl)(hv:Vis X.env.scope x:=by first | exact Or.inl rfl | exact Or.inr (Or.inl rfl) | exact Or.inr (Or.inr rfl))(hd:(x==("__debug__":Str))=false:=by decide)
  (hcd:(x==("__classdict__":Str))=false:=by decide):PE X (.Name x pos) (tVar i):=pe_var hN hv hd hcd
end
theorem iteF {A B:Prop}(h:B):if false=true then A else B:=by
 rw[if_neg Bool.false_ne_true]
 exact h
theorem iteT {A B:Prop}(h:A):if true=true then A else B:=by
 rw[if_pos rfl]
 exact h
end L2
namespace L2
open PySem PySem.Spec PyProof.Rows
noncomputable def Xo (lo:Nat)(e C dx:Addr)(fl:Option Value)(H:Hp)(h:Heap):Prop :=
 lo<=e/\H e=none/\∃oe vs,h.get? e=some oe/\oe.cls=.ref C/\oe.dict=some dx/\oe.data=.fields vs/\1<vs.size /\
  match fl with
  | none=>vs[1]? = some .none
  | some v=>∃T oT ts,vs[1]? = some (.ref T)/\lo<=T/\T≠e/\H T=none/\h.get? T=some oT/\oT.data=.fields ts/\ts[3]? = some v
end L2
namespace L2
open PySem PySem.Spec PyProof.Rows
section
variable {X:Cx}
theorem op_fdivW:OpR X (binaryOp .FloorDiv) (rI (fun _ j=>0<j/\j<2 ^ 64) fun i j=>.int (i / j)):=by
 refine opI fun i j t u s Q E hc h=>?_
 obtain⟨h0,h1⟩:=hc
 have e:i.fdiv j=i / j:=Int.fdiv_eq_ediv_of_nonneg i (Int.le_of_lt h0)
 refine floordiv_int (by omega) (by rw[e];exact h) (.inl (PyProof.noPylong_of_log2 ?_))
 have h2:j.natAbs<2 ^ 64:=by omega
 have h3:j.natAbs≠0:=by omega
 have:=(Nat.log2_lt h3).mpr h2
 omega
theorem cat_tup0 {prog:Program}{w:World}{A:Around}{E:Value->Shared->Prop}{s:Shared}{t b:Addr}{ws:List Value}{Q:Value->Shared->Prop}(ht:IsTup s.heap t #[])(hb:IsTup s.heap b ws.toArray)
  (h1:Q (.ref b) s):wpAny (model prog w) A (binaryOp .Add (.ref t) (.ref b)) Q E s:=by
 obtain⟨⟨cls,dd,data,sl⟩,ho,hc,n,hd⟩:=id ht
 obtain⟨⟨cls2,dd2,data2,sl2⟩,ho2,hc2,n2,hd2⟩:=id hb
 simp only at hc hd hc2 hd2
 subst hc hd hc2 hd2
 exact concat_meets ⟨_,ho,rfl⟩ ⟨_,ho2,rfl⟩ noFill_tuple_add seq_tuple_add PySem.F.slot_tuple_add PySem.F.entry_tuple_add (PySem.F.args_tuple_add_2 _ _)
   (tuple_addW0 t b #[] ws.toArray n n2 dd dd2 sl sl2 (by simp)) ⟨ho,ho2,h1⟩
noncomputable def rCatT0 (K:PySem.W.Frag):R2:=fun x y H Q=>∃a b ys,x=.ref a/\y=.ref b/\SqT K H a []/\SqT K H b ys/\Q (.ref b) H
theorem op_catT0:OpR X (binaryOp .Add) (rCatT0 X.K):=by
 intro pins s σ H x y v u Q I rx ry h
 obtain⟨a,b,ys,rfl,rfl,ha,hb,q⟩:=h
 cases rx
 cases ry
 obtain⟨its,r1,p1,_⟩:=I.tuple ha
 obtain⟨its2,r2,p2,_⟩:=I.tuple hb
 cases r1
 exact cat_tup0 p1 p2 ⟨.ref b,H,I,rfl,q⟩
end
end L2
namespace HT
open PySem PyProof.Rows
section
variable {prog:Program}{w:World}{A:Around}{E:Value->Shared->Prop}{s:Shared}
theorem zea {t sl:Addr}{items:Array Value}{vl vu:Value}{lo hi:Option Int}{Q:Value->Shared->Prop}(ht:IsTup s.heap t items)(hs:s.heap.IsSliceOf sl vl vu .none)(pl:IsPart vl lo)(pu:IsPart vu hi)
  (hw:sIx items.size 0 lo=0/\sIx items.size items.size hi=items.size)
  (h:Q (.ref t) s):wpAny (model prog w) A (getItem (.ref t) (.ref sl)) Q E s:=by
 obtain⟨os,hos,hcs,hds⟩:=id hs
 have hTs:s.TypeIs (.ref sl) "slice":=⟨os,hos,hcs⟩
 unfold getItem
 try with_reducible refine wpAny_holding ?_
 first | refine wpAny_bind (wpAny_pure ?_) | skip
 refine wpAny_bind (wpAny_sequenceKey ht.typeIs (by decide) ?_)
 refine wpAny_bind (wpAny_callSpecial?_slot (name:=Str.ofString "__getitem__") ht.typeIs PyProof.Rows.slot_tuple_getitem
  (wpAny_call_entry PyProof.Rows.slot_tuple_getitem ht.typeIs entry_tuple_getitem ?_ (args_tuple_getitem _ _)))
 show wpAny _ _ (Builtin.Tuple.tupleItemsOf (.ref t) >>= _) _ _ s
 refine wpAny_bind (tupleItemsOf_ ht ?_)
 refine wpAny_bind (wpAny_typeOf hTs ?_)
 rw[if_pos (by decide)]
 refine wpAny_bind (zdj hs pl pu ?_)
 have hno:((((sIx items.size 0 lo:Nat):Int)==0 && (1:Int)==1 && (sIx items.size items.size hi - sIx items.size 0 lo)==items.size)=true):=by
  rw[hw.1,hw.2];simp
 show wpAny _ _ (if (((sIx items.size 0 lo:Nat):Int)==0 && (1:Int)==1 && (sIx items.size items.size hi - sIx items.size 0 lo)==items.size)=true then _ else _) _ _ s
 rw[if_pos hno]
 unfold Builtin.Tuple.tupleIsExact
 refine wpAny_bind (wpAny_bind (wpAny_typeOf ht.typeIs ?_))
 refine wpAny_pure ?_
 rw[if_pos (by decide)]
 exact wpAny_bind (wpAny_rule (wpAny_pure ⟨_,rfl,wpAny_pure h⟩))
end
end HT
namespace L2
open PySem PySem.Spec PyProof.Rows
section
variable {X:Cx}
noncomputable def rSlTW (K:PySem.W.Frag):V->Option Int->Option Int->Hp->VK->Prop:=fun x lo hi H Q=>∃a xs,x=.ref a/\SqT K H a xs /\
 (HT.sIx xs.length 0 lo=0/\HT.sIx xs.length xs.length hi=xs.length)/\Q (.ref a) H
theorem sl_tupW:SlR X (rSlTW X.K):=by
 intro pins s σ H x v vl vu lo hi sl Q I rx hs pl pu h
 obtain⟨a,xs,rfl,hx,hw,q⟩:=h
 cases rx
 obtain⟨its,r,ht,hz⟩:=I.tuple hx
 have hlen:its.toArray.size=xs.length:=by rw[List.size_toArray];exact r.length.symm
 refine⟨"tuple",_,PyProof.Rows.slot_tuple_getitem.lookup,ht.typeIs,?_⟩
 exact HT.zea ht hs pl pu (by rw[hlen];exact hw) ⟨.ref a,H,I,rfl,q⟩
end
end L2
namespace L2
open PySem PySem.Spec PyProof.Rows
section
variable {X:Cx}{pins:List (Addr×Obj)}{σ:St}{H:Hp}{s:Shared}{h':Heap}{t':Nat}
theorem Inv.turnLay {ch:List Addr}{a:Addr}{o:HO}(I:Inv X pins σ H s)(hf:∀b∈ch,FpOk X pins H b)(k:∀b ob,b∉ch->s.heap.get? b=some ob->h'.get? b=some ob)(hp:s.heap.objs.size<=a)
  (new:ObjOk X.prog X.w (upd H a o) h' a o):Inv X pins σ (upd H a o) { s with heap:=h',toks:=t' }:=by
 have hn:H a=none:=I.hok.fresh hp
 have nch:∀b u,H b=some u->b∉ch:=fun b u e hb=>by rw[(hf b hb).1]at e;cases e
 have na:∀b u,H b=some u->b≠a:=fun b u e=>zbe e hn
 refine I.step (g':=s.gens) (d':=s.drawn) (ch:=ch) (fun b hb=>?_) (fun b o _ _ hc e _=>k b o hc e) (fun b o _ _ hc e _=>⟨o.slots,k b o hc e⟩)
  (fun b o _ e n=>by rw[zai (Nat.ne_of_lt (Nat.lt_of_lt_of_le (Heap.lt_size e) hp))];exact n)
  (fun b o hc e=>⟨o,k b o hc e⟩) (fun b xs e=>by rw[zai (na b _ e)];exact e) (fun b o u e=>by rw[zai (na b _ e)];exact e) (fun b ps e=>⟨#[],by rw[zai (na b _ e),e];simp⟩) (fun m hm=>?_) (fun b u e=>?_) I.bare
 ·obtain⟨f0,f1,f2,f3,f4,f5⟩:=hf b hb
  exact⟨f3,f1,f4,f5⟩
 ·obtain⟨ob,es,ep,ho,r⟩:=hm
  exact⟨ob,es,ep,k _ ob (fun z=>(hf _ z).2.1 rfl) ho,r⟩
 ·by_cases hb:b=a
  ·subst hb;rw[zah]at e;cases e;exact new
  ·rw[zai hb]at e
   refine (I.hok b u e).stay (fun c v hc q=>k c v ?_ q) (fun c q=>by rw[zai (na c _ q)];exact q) fun c xs q=>by rw[zai (na c _ q)];exact q
   rcases hc with z | z
   ·rw[z];exact nch b u e
   ·exact nch c _ z
theorem Inv.turns {ch:List Addr}(I:Inv X pins σ H s)(hf:∀b∈ch,FpOk X pins H b)(k:∀b ob,b∉ch->s.heap.get? b=some ob->h'.get? b=some ob):Inv X pins σ H { s with heap:=h',toks:=t' }:=by
 have nch:∀b u,H b=some u->b∉ch:=fun b u e hb=>by rw[(hf b hb).1]at e;cases e
 refine I.step (g':=s.gens) (d':=s.drawn) (ch:=ch) (fun b hb=>?_) (fun b o _ _ hc e _=>k b o hc e) (fun b o _ _ hc e _=>⟨o.slots,k b o hc e⟩)
  (fun b o _ e n=>n) (fun b o hc e=>⟨o,k b o hc e⟩) (fun b xs e=>e) (fun b o u e=>e) (fun b ps e=>⟨#[],by rw[e];simp⟩) (fun m hm=>?_) (fun b u e=>?_) I.bare
 ·obtain⟨f0,f1,f2,f3,f4,f5⟩:=hf b hb
  exact⟨f3,f1,f4,f5⟩
 ·obtain⟨ob,es,ep,ho,r⟩:=hm
  exact⟨ob,es,ep,k _ ob (fun z=>(hf _ z).2.1 rfl) ho,r⟩
 ·refine (I.hok b u e).stay (fun c v hc q=>k c v ?_ q) (fun c q=>q) fun c xs q=>q
  rcases hc with z | z
  ·rw[z];exact nch b u e
  ·exact nch c _ z
end
noncomputable def Ite (K:PySem.W.Frag)(a:Addr):It :=
 ⟨fun i H=>∃xs x,SqL K H a xs/\xs[i]? = some x,
  fun i H y H'=>∃p x,H p=none/\y=.ref p/\H'=upd H p (.tup [.int i,x])/\∀xs,SqL K H a xs->xs[i]? = some x,
  fun i H=>∃xs,SqL K H a xs/\xs.length<=i⟩
theorem turn_enum {P:Program}{w:World}{K:PySem.W.Frag}{elts:List Expr}{x1:Nat}{pos:Pos}(a e it:Addr)(hne:e≠it) :
  Turn P w K (.Tuple elts x1 pos) (Ite K a) [e,it] e (fun i h=>∃old,IsEnum h e it (i:Int) old/\h.IsListIter it a i) where
 mem:=by simp
 obj:=fun i h st b hb=>by
  obtain⟨old,h1,h2⟩:=st
  rcases List.mem_cons.mp hb with rfl | hb
  ·exact⟨_,h1,fun v z=>by cases z⟩
  ·have e:b=it:=by simpa using hb
   subst e
   obtain⟨o,q,c,d⟩:=h2
   exact⟨o,q,fun v z=>by rw[d]at z;cases z⟩
 keep:=fun i h h' st k=>by
  obtain⟨old,h1,h2⟩:=st
  exact⟨old,k e (by simp) _ h1,h2.at fun o q=>k it (by simp) o q⟩
 item:=by
  intro X hP hw hK hc i pins s σ H E I hf st hg
  subst hP hw hK
  obtain⟨xs,x,hq,hx⟩:=hg
  obtain⟨old,h1,h2⟩:=st
  obtain⟨its,rv,p,hz⟩:=I.list hq
  obtain⟨u,hu,ru⟩:=rv.get hx
  refine wpAny_pyNext_enum_item h1 h2 p.isList (x:=u) (by simpa using hu) hne fun h₁ heo hit ht hsz hk=>?_
  refine⟨_,rfl,wpAny_letOwnedTupleGo_enum heo fun h₂ he₂ hs₂=>?_⟩
  replace hs₂:Heap.SameBut e h₁ h₂:=hs₂
  have hlt:e<s.heap.objs.size:=Heap.lt_size h1
  have itlt:it<s.heap.objs.size:=by obtain⟨o,q,_⟩:=h2;exact Heap.lt_size q
  have ht2:h₂.get? s.heap.objs.size=some { cls:=.type "tuple",data:=.seq #[.int i s.toks,u] }:=by rw[hs₂.2 _ (Nat.ne_of_gt hlt)];exact ht
  have kk:∀b ob,b∉[e,it]->s.heap.get? b=some ob->h₂.get? b=some ob:=fun b ob hb q=>by
   have b1:b≠e:=fun z=>hb (by simp[z])
   have b2:b≠it:=fun z=>hb (by simp[z])
   exact hs₂.extBut b ob b1 (hk b ob b1 b2 q)
  refine⟨.ref s.heap.objs.size,upd H s.heap.objs.size (.tup [.int i,x]),I.turnLay hf kk (Nat.le_refl _) ?_,rfl,⟨_,x,I.hok.fresh (Nat.le_refl _),rfl,rfl,fun ys hy=>by rw[I.list_inj hy hq];exact hx⟩,?_,fun b hb=>?_⟩
  ·refine⟨by show 2<=sizeLine;decide,[.int i s.toks,u],.cons ⟨_,rfl⟩ (.cons ru .nil),?_⟩
   exact⟨_,ht2,rfl,_,rfl⟩
  ·refine⟨u,?_,hit.extBut hs₂.extBut (Ne.symm hne)⟩
   have:((i:Nat):Int)+1=((i+1:Nat):Int):=by omega
   rw[<-this];exact he₂
  ·rw[zai]
   ·exact (hf b hb).1
   ·intro z;subst z
    rcases List.mem_cons.mp hb with z | z
    ·exact Nat.ne_of_gt hlt z
    ·exact Nat.ne_of_gt itlt (by simpa using z)
 done:=by
  intro X hP hw hK hc i pins s σ H E I hf st hg
  subst hP hw hK
  obtain⟨xs,hq,hx⟩:=hg
  obtain⟨old,h1,h2⟩:=st
  obtain⟨its,rv,p,hz⟩:=I.list hq
  have hl:=rv.length
  exact wpAny_pyNext_enum_end (I.ok.hd hc) h1 h2 p.isList (by simp;omega) fun h' eb=>⟨rfl,I.turns (t':=s.toks) (ch:=[e,it]) hf fun b o hb q=>eb b o (fun z=>hb (by simp[z])) q⟩
 self:=fun _ _ _ _ _ st h=>by
  obtain⟨old,h1,h2⟩:=st
  exact wpAny_pyIter_enum h1 h
noncomputable def iEnum (K:PySem.W.Frag)(ta:TA):TI:=fun σ H R=>ta σ H fun vs H1=>∃a,vs=[.ref a]/\(∃xs,SqL K H1 a xs)/\R (Ite K a) H1
theorem boot_enum:bootBuiltins "enumerate" = some (.type "enumerate"):=by decide +kernel
theorem pi_enum {X:Cx}{elts:List Expr}{x1:Nat}{tpos:Pos}{a:Expr}{ta:TA}{p pos:Pos}(hg:Gl X "enumerate")(hm:X.mg "enumerate" = none)(ha:PA X [a] ta)(hs:starEach [a] X.env=[(false,eval a X.env)]:=by rfl) :
  PI X (.Tuple elts x1 tpos) (.Call (.Name "enumerate" p) [a] [] pos) (iEnum X.K ta):=by
 intro pins s σ H R I h
 refine Call_ (zhv I hg hm boot_enum (PyProof.Rows.callWith_type1 (thn (ha pos pins s σ H _ I h) fun us s1 zz=>?_) hs rfl))
 obtain⟨vs,H1,I1,r1,q1⟩:=zz
 obtain⟨l,e,⟨xs,hq⟩,q⟩:=q1
 subst e
 cases r1 with
 | cons r rr =>
  cases rr
  cases r
  obtain⟨its,rv,pl,hz⟩:=I1.list hq
  refine call_enumerate_list pl.isList fun h' he hit hsz hk=>?_
  refine wpAny_pyIter_enum he ?_
  have I2:Inv X pins σ H1 { s1 with heap:=h' }:=I1.kept (t':=s1.toks) hk
  refine⟨s1.heap.objs.size+1,[s1.heap.objs.size+1,s1.heap.objs.size],_,_,H1,rfl,I2,turn_enum l _ _ (Nat.ne_of_gt (Nat.lt_succ_self _)),⟨.none,he,hit⟩,fun b hb=>?_,q⟩
  have hb':s1.heap.objs.size<=b:=by
   rcases List.mem_cons.mp hb with z | z
   ·rw[z];exact Nat.le_succ _
   ·have:b=s1.heap.objs.size:=by simpa using z
    rw[this];exact Nat.le_refl _
  exact I1.fpOk hb' (I1.hok.fresh hb')
end L2
namespace L2
open PySem PySem.Spec PyProof.Rows
theorem zhe {scope:Scope}{env:Env}(h:∀x∈scope.names,x.2=.free->∃c,env.cells.lookup x.1=some c) :
  ∃cl,closureFor scope env=pure cl/\(∀x c,cl.lookup x=some c->env.cells.lookup x=some c)/\∀x,(x,NameKind.free)∈scope.names->∃c,cl.lookup x=some c:=by
 have key:∀(names:List (Str×NameKind)) (acc:List (Str×Addr)),(∀x∈names,x.2=.free->∃c,env.cells.lookup x.1=some c)->(∀x c,acc.lookup x=some c->env.cells.lookup x=some c) ->
   ∃cl,(forIn names acc fun (x:Str×NameKind) (cs:List (Str×Addr))=>(if x.2 == .free then do let a <-cellOf env x.1;pure (ForInStep.yield ((x.1,a)::cs)) else pure (ForInStep.yield cs):Sem _))=pure cl/\(∀x c,cl.lookup x=some c->env.cells.lookup x=some c) /\
    (∀x,(x,NameKind.free)∈names->∃c,cl.lookup x=some c)/\∀x c,acc.lookup x=some c->∃c',cl.lookup x=some c':=by
  intro names
  induction names with
  | nil=>intro acc _ ha;exact⟨acc,rfl,ha,⟨(fun x hx=>nomatch hx),fun x c q=>⟨c,q⟩⟩⟩
  | cons y r ih =>
   intro acc hn ha
   obtain⟨n,k⟩:=y
   have hr:∀x∈r,x.2=.free->∃c,env.cells.lookup x.1=some c:=fun x hx=>hn x (List.mem_cons_of_mem _ hx)
   by_cases hk:k=.free
   ·subst hk
    obtain⟨c,hc⟩:=hn (n,.free) (by simp) rfl
    have ha':∀x c',((n,c)::acc).lookup x=some c'->env.cells.lookup x=some c':=fun x c' q=>by
     rw[List.lookup_cons]at q
     cases e:x==n with
     | true=>rw[e]at q;cases q;rw[eq_of_beq e];exact hc
     | false=>rw[e]at q;exact ha x c' q
    obtain⟨cl,h1,h2,h3,h4⟩:=ih ((n,c)::acc) hr ha'
    refine⟨cl,?_,h2,fun x hx=>?_,fun x c' q=>?_⟩
    ·rw[List.forIn_cons]
     simp only[beq_self_eq_true,if_true,cellOf,hc]
     exact h1
    ·rcases List.mem_cons.mp hx with e | hx
     ·cases e
      exact h4 n c (by simp)
     ·exact h3 x hx
    ·cases e:x==n with
     | true=>exact h4 x c (by rw[List.lookup_cons,e])
     | false=>exact h4 x c' (by rw[List.lookup_cons,e];exact q)
   ·have hb:(k==NameKind.free)=false:=by simpa using hk
    obtain⟨cl,h1,h2,h3,h4⟩:=ih acc hr ha
    refine⟨cl,?_,h2,fun x hx=>?_,h4⟩
    ·rw[List.forIn_cons]
     simp only[hb,Bool.false_eq_true,if_false]
     exact h1
    ·rcases List.mem_cons.mp hx with e | hx
     ·cases e;exact absurd rfl hk
     ·exact h3 x hx
 obtain⟨cl,h1,h2,h3,_⟩:=key scope.names [] h (fun x c q=>by simp at q)
 refine⟨cl,?_,h2,h3⟩
 unfold closureFor
 show (forIn scope.names [] (fun (x:Str×NameKind) (cs:List (Str×Addr))=>(if x.2 == .free then do let a <-cellOf env x.1;pure (ForInStep.yield ((x.1,a)::cs)) else pure (ForInStep.yield cs):Sem _)) >>= fun cs=>pure cs)=pure cl
 rw[h1]
 rfl
theorem zcw {f:Str×NameKind->Str×NameKind}(h1:∀p,(f p).1=p.1):∀{names:List (Str×NameKind)} {x:Str},(names.map f).lookup x=(names.lookup x).map fun k=>(f (x,k)).2
 | [],_=>rfl
 | (n,j)::r,x=>by
  rw[List.map_cons]
  have e:f (n,j)=(n,(f (n,j)).2):=by
   have:=h1 (n,j)
   exact Prod.ext this rfl
  rw[e,List.lookup_cons,List.lookup_cons]
  cases hx:x==n with
  | true=>rw[eq_of_beq hx];rfl
  | false=>exact zcw h1
noncomputable def rlab (env:Env)(p:Str×NameKind):Str×NameKind:=if (p.2 == .free && env.scope.kind == .function && env.kindOf p.1==some .cell)=true then (p.1,.cell) else (p.1,p.2)
theorem zkc (env:Env)(p:Str×NameKind):(rlab env p).1=p.1:=by unfold rlab;split<;>rfl
theorem zl0 (env:Env)(p:Str×NameKind):(rlab env p).2=p.2\/(p.2=.free/\(rlab env p).2=.cell):=by
 unfold rlab
 split
 ·rename_i h
  rw[Bool.and_eq_true,Bool.and_eq_true]at h
  exact .inr ⟨eq_of_beq h.1.1,rfl⟩
 ·exact .inl rfl
theorem zeq (scope:Scope)(env:Env):(relabel scope env).names=scope.names.map (rlab env):=rfl
theorem zd0 {scope:Scope}{env:Env}{x:Str}{k:NameKind}(h:(relabel scope env).names.lookup x=some k):scope.names.lookup x=some k\/(scope.names.lookup x=some .free/\k=.cell):=by
 rw[zeq,zcw (zkc env)]at h
 cases e:scope.names.lookup x with
 | none=>rw[e]at h;cases h
 | some j =>
  rw[e]at h
  have h':(rlab env (x,j)).2=k:=Option.some.inj h
  rcases zl0 env (x,j) with q | ⟨q1,q2⟩
  ·rw[q]at h';exact .inl (by rw[<-h'])
  ·rw[q2]at h';exact .inr ⟨by rw[show j=NameKind.free from q1],h'.symm⟩
theorem zd1 {scope:Scope}{env:Env}{x:Str}(h:scope.names.lookup x=some .free):(relabel scope env).names.lookup x=some .cell\/(relabel scope env).names.lookup x=some .free:=by
 rw[zeq,zcw (zkc env),h]
 rcases zl0 env (x,.free) with q | ⟨_,q⟩
 ·exact .inr (by rw[Option.map_some,q])
 ·exact .inl (by rw[Option.map_some,q])
theorem mem_of_lookup {α β:Type}[BEq α][LawfulBEq α]{x:α}{k:β}:∀{l:List (α×β)},l.lookup x=some k->(x,k)∈l
 | [],h=>by simp at h
 | (n,j)::r,h=>by
  rw[List.lookup_cons]at h
  cases e:x==n with
  | true=>rw[e]at h;cases h;rw[eq_of_beq e];simp
  | false=>rw[e]at h;exact List.mem_cons_of_mem _ (mem_of_lookup h)
noncomputable def compCx (X:Cx)(N:List Str)(scope:Scope)(cl:List (Str×Addr))(C:Addr)(fp:List Addr)(s:Shared)(H:Hp):Cx :=
 { X with N:=N,s₀:=s,H₀:=H,env:=compEnvC scope cl C X.env,outer:=X.stack,stack:=X.stack,ex:=fp,fn:=fun _=>false,pn:=[],xe:=fun _ _=>False }
structure CompScope (scope:Scope):Prop where
 kind:scope.kind=.function
 cell:∀y∈scope.names,y.2≠.cell
 names:∀y∈scope.names,y.2=.local->scope.names.lookup y.1=some .local
noncomputable def Capt (X:Cx)(scope:Scope):List (Option Nat)->List Str->Prop
 | [],[]=>True
 | none::r,_::xs=>Capt X scope r xs
 | some j::r,x::xs=>(X.N[j]? = some x/\(X.env.kindOf x=some .cell\/X.env.kindOf x=some .free)/\scope.names.lookup x=some .free)/\Capt X scope r xs
 | _,_=>False
noncomputable def captSt (capt:List (Option Nat))(σ:St):St:=capt.map fun o=>o.bind fun j=>(σ[j]?).join
theorem Capt.len {X:Cx}{scope:Scope}:∀{capt:List (Option Nat)} {N:List Str},Capt X scope capt N->capt.length=N.length
 | [],[],_=>rfl
 | none::r,_::xs,h=>by simp[Capt.len (show Capt X scope r xs from h)]
 | some j::r,x::xs,h=>by simp[Capt.len h.2]
 | [],_::_,h=>h.elim
 | none::_,[],h=>h.elim
 | some _::_,[],h=>h.elim
theorem Capt.at_ {X:Cx}{scope:Scope}:∀{capt:List (Option Nat)} {N:List Str} {i j:Nat} {x:Str},Capt X scope capt N->capt[i]? = some (some j)->N[i]? = some x ->
  X.N[j]? = some x/\(X.env.kindOf x=some .cell\/X.env.kindOf x=some .free)/\scope.names.lookup x=some .free
 | [],[],_,_,_,_,e,_=>by simp at e
 | none::r,y::xs,0,_,_,_,e,_=>by simp at e
 | none::r,y::xs,i+1,_,_,h,e,e2=>Capt.at_ (i:=i) (show Capt X scope r xs from h) (by simpa using e) (by simpa using e2)
 | some k::r,y::xs,0,_,_,h,e,e2=>by
  simp at e e2;subst e e2;exact h.1
 | some k::r,y::xs,i+1,_,_,h,e,e2=>Capt.at_ (i:=i) h.2 (by simpa using e) (by simpa using e2)
 | [],_::_,_,_,_,h,_,_=>h.elim
 | none::_,[],_,_,_,h,_,_=>h.elim
 | some _::_,[],_,_,_,h,_,_=>h.elim
section
variable {X:Cx}{pins:List (Addr×Obj)}{σ:St}{H:Hp}{s:Shared}{N:List Str}{scope:Scope}{cl:List (Str×Addr)}{C:Addr}{fp:List Addr}{capt:List (Option Nat)}
theorem comp_ok (I:Inv X pins σ H s)(S:CompScope scope)(hcl:∀x c,cl.lookup x=some c->X.env.cells.lookup x=some c)(hall:∀x,(x,NameKind.free)∈scope.names->∃c,cl.lookup x=some c)
  (hC:s.heap.objs.size<=C) (hf:∀b∈fp,FpOk X pins H b) (hb:∀b∈fp,b<s.heap.objs.size):(compCx X N scope cl C fp s H).Ok where
 mod:=I.ok.mod
 kind:=S.kind
 glob:=I.ok.glob
 blt:=I.ok.blt
 above:=hC
 inj:=fun x y c h1 h2=>I.ok.inj x y c (hcl x c h1) (hcl y c h2)
 has:=fun x hx=>by
  have q:scope.names.lookup x=some .free:=by
   rcases hx with hx | hx
   ·rcases zd0 hx with e | ⟨e,_⟩
    ·exact absurd rfl (S.cell _ (mem_of_lookup e))
    ·exact e
   ·rcases zd0 hx with e | ⟨e,_⟩
    ·exact e
    ·exact e
  exact hall x (mem_of_lookup q)
 cab:=fun x c h=>by cases h
 hd:=I.ok.hd
 frames:=I.ok.frames
 stk:=.inl rfl
 exf:=fun b hb'=>⟨Nat.ne_of_lt (Nat.lt_of_lt_of_le (hb b hb') hC),fun x c h=>(hf b hb').2.2.2.2.1 x c (hcl x c h)⟩
 bs:=I.bs
 bsz:=Nat.le_trans I.ok.bsz I.sz
 noex:=fun b o e hb'=>by
  rcases (hf b hb').2.2.2.1 with z | z
  ·exact I.ok.noex b o e z
  ·exact absurd (Heap.lt_size e) (Nat.not_lt.mpr (Nat.le_trans I.ok.bsz z))
 exfs:=fun b hb' z=>by
  rcases List.mem_cons.mp (I.stkSub b z) with e | e
  ·exact (hf b hb').2.1 e
  ·exact (hf b hb').2.2.1 e
 funs:=I.stack
 frf:=I.stkFree
theorem comp_inv {h':Heap}{t':Nat}{m:Str->Option Value}(I:Inv X pins σ H s)(S:CompScope scope)(hcl:∀x c,cl.lookup x=some c->X.env.cells.lookup x=some c)(hall:∀x,(x,NameKind.free)∈scope.names->∃c,cl.lookup x=some c)
  (hC:s.heap.objs.size<=C) (hf:∀b∈fp,FpOk X pins H b) (hb:∀b∈fp,b<s.heap.objs.size) (hcap:Capt X scope capt N) (hn:h'.Ns C m) (hk:∀b o,s.heap.get? b=some o->h'.get? b=some o) :
  Inv (compCx X N scope cl C fp s H) [] (captSt capt σ) H { s with heap:=h',toks:=t' } where
 ok:=comp_ok I S hcl hall hC hf hb
 os:=rfl
 bare:=I.bare
 base:=Un.kept hk
 loc:=by
  refine⟨m,hn,fun i x v hN hv hvis=>?_⟩
  have hN':N[i]? = some x:=hN
  unfold captSt at hv
  rw[List.getElem?_map]at hv
  cases e:capt[i]? with
  | none=>rw[e]at hv;cases hv
  | some o =>
   rw[e]at hv
   cases o with
   | none=>cases hv
   | some j =>
    have hv':(σ[j]?).join=some v:=by simpa using hv
    have hv2:σ[j]? = some (some v):=by
     cases q:σ[j]? with
     | none=>rw[q]at hv';cases hv'
     | some z=>rw[q]at hv';cases hv';rfl
    obtain⟨h1,h2,h3⟩:=hcap.at_ e hN'
    obtain⟨m0,hm0,hl⟩:=I.loc
    have hvx:Vis X.env.scope x:=by
     rcases h2 with h2 | h2
     ·exact .inr (.inl h2)
     ·exact .inr (.inr h2)
    obtain⟨u,r,lk⟩:=hl j x v h1 hv2 hvx
    refine⟨u,r,?_⟩
    rcases lk with⟨k1,_⟩ | ⟨_,c,k2,k3⟩
    ·rcases h2 with h2 | h2<;>(rw[h2]at k1;cases k1)
    ·obtain⟨c',hc'⟩:=hall x (mem_of_lookup h3)
     have:=hcl x c' hc'
     rw[k2]at this;cases this
     refine .inr ⟨zd1 h3,c,hc',?_⟩
     obtain⟨o,e1,e2⟩:=k3
     exact⟨o,hk c o e1,e2⟩
 cell:=fun x c h=>by
  obtain⟨v,o,e1,e2⟩:=I.cell x c (hcl x c h)
  exact⟨v,o,hk c o e1,e2⟩
 free:=I.hok.fresh hC
 freeC:=fun x c h=>I.freeC x c (hcl x c h)
 pin:=fun p hp=>by simp[compCx]at hp
 hok:=I.hok.kept hk
 len:=by show (captSt capt σ).length=N.length;unfold captSt;rw[List.length_map];exact hcap.len
end
end L2
namespace L2
open PySem PySem.Spec PyProof.Rows
noncomputable abbrev testsOf (ifs:List Expr)(env:Env):Sem Bool:=forIn ifs true fun c r=>if r=true then do let ok <-isTrue c env (eval c env);pure (ForInStep.yield ok) else pure (ForInStep.yield r)
theorem zif {prog:Program}{w:World}{A:Around}{R:Result->Shared->Prop}{s:Shared}{elt target iter:Expr}{ifs:List Expr}{scope:Scope}{pos:Pos}{it acc:Value}{env:Env}(I:Nat->Shared->Prop)
  (turn:∀n s,I n s->wpAny (model prog w) A (pyNext it) (fun r s₁=>match r with
   | none=>R (.ok .next) s₁
   | some v=>wpAny (model prog w) A (letOwnedTupleGo target it v) (fun _ s₁'=>wpAny (model prog w) A (assign target env v) (fun _ s₂ =>
     wpAny (model prog w) A (testsOf ifs env) (fun ok s₃ =>
      if ok=true then wpAny (model prog w) A (eval elt env) (fun x s₄ =>
       wpAny (model prog w) A (call (.builtin "list.append") [acc,x]) (fun _ s₅=>∃m,m<n/\I m s₅) (fun _ _=>False) s₄) (fun _ _=>False) s₃
      else ∃m,m<n/\I m s₃) (fun _ _=>False) s₂) (fun _ _=>False) s₁') (fun _ _=>False) s₁) (fun _ _=>False) s)
  (n:Nat) (h:I n s) :
  codeAny (model prog w) A (.compLoop (.ListComp elt [⟨target,iter,ifs,0⟩] scope pos) 0 it acc env) R s:=by
 refine codeAny_loop rfl I (fun n s hI=>?_) n h
 show wpAny _ A ((compTurn (.ListComp elt [⟨target,iter,ifs,0⟩] scope pos) 0 it acc env).onRaise (fun x=>do noteFrame x env;theTreesLotGoes x)) _ _ s
 refine wpAny_noted ?_
 rw[compTurn_list]
 refine wpAny_bind (wpAny_standAt (wpAny_bind (wpAny_mono (turn n s hI) (fun r s₁ h₁=>?_) fun _ _ h'=>h'.elim)))
 cases r with
 | none=>exact wpAny_pure h₁
 | some v =>
  refine wpAny_bind (wpAny_mono h₁ (fun _ s₁' h₁'=>?_) fun _ _ h'=>h'.elim)
  refine wpAny_bind (wpAny_mono h₁' (fun _ s₂ h₂=>wpAny_bind (wpAny_mono h₂ (fun ok s₃ h₃=>?_) fun _ _ h'=>h'.elim)) fun _ _ h'=>h'.elim)
  cases ok with
  | false=>exact wpAny_pure ⟨rfl,h₃⟩
  | true =>
   exact wpAny_bind (wpAny_bind (wpAny_mono h₃ (fun x s₄ h₄=>wpAny_bind (wpAny_mono h₄ (fun _ s₅ h₅=>wpAny_pure (wpAny_pure ⟨rfl,h₅⟩)) fun _ _ h'=>h'.elim)) fun _ _ h'=>h'.elim))
noncomputable def PTs (X:Cx)(ifs:List Expr)(t:TT):Prop :=
 ∀(pins:List (Addr×Obj)) (s:Shared) (σ:St) (H:Hp) (Q:Bool->Hp->Prop),Inv X pins σ H s->t σ H Q->wpAny (model X.prog X.w) X.A (testsOf ifs X.env) (TP X pins σ Q) X.xe s
theorem pts_nil {X:Cx}:PTs X [] (fun σ H Q=>Q true H):=fun pins s σ H Q I h=>wpAny_tests_nil ⟨H,I,h⟩
theorem pts_one {X:Cx}{c:Expr}{t:TT}(h:PT X c t):PTs X [c] t:=fun pins s σ H Q I q=>wpAny_tests_one (h pins s σ H Q I q)
noncomputable def tComp (capt:List (Option Nat))(wi:TI)(g:TG)(tt:TT)(te:TE):TE:=fun σ H Q=>wi σ H fun J H1=>∀D,H1 D=none->∃W:Nat->Nat->St->Hp->Prop,(∃m,W 0 m (captSt capt σ) (upd H1 D (.lst []))) /\
 ∀i m σ' H',W i m σ' H'->(J.stop i H'/\Q (.ref D) H')\/(J.go i H'/\∃N:St->Hp->Prop,(∀σ2 H2,N σ2 H2->∃m',m'<m/\W (i+1) m' σ2 H2) /\
  ∀x H2,J.yld i H' x H2->g x σ' H2 fun σ3 H3=>tt σ3 H3 fun ok H4=>if ok=true then te σ3 H4 fun y H5=>∃xs,H5 D=some (.lst xs)/\xs.length<sizeLine/\N σ3 (upd H5 D (.lst (xs++[y]))) else N σ3 H4)
section
variable {X:Cx}{elt tg iter:Expr}{ifs:List Expr}{scope:Scope}{pos:Pos}{N:List Str}{capt:List (Option Nat)}{wi:TI}{g:TG}{tt:TT}{te:TE}
theorem zhu {pins:List (Addr×Obj)}{σ:St}{H:Hp}{s:Shared}{it:Addr}{fp:List Addr}{tn:Nat->Heap->Prop}{J:It}{cl:List (Str×Addr)}{Q:VK}{E:Value->Shared->Prop}{RR:Value->Addr->Result->Shared->Prop}
  (I:Inv X pins σ H s) (T:Turn X.prog X.w X.K tg J fp it tn) (st:tn 0 s.heap) (hf:∀b∈fp,FpOk X pins H b)
  (S:CompScope scope) (hcl:∀x c,cl.lookup x=some c->X.env.cells.lookup x=some c) (hall:∀x,(x,NameKind.free)∈scope.names->∃c,cl.lookup x=some c) (hcap:Capt X scope capt N) (hc:X.calm=true)
  (hg:∀cl C fp s H,PG (compCx X N scope cl C fp s H) tg g) (ht:∀cl C fp s H,PTs (compCx X N scope cl C fp s H) ifs tt) (he:∀cl C fp s H,PE (compCx X N scope cl C fp s H) elt te)
  (h:∀D,H D=none->∃W:Nat->Nat->St->Hp->Prop,(∃m,W 0 m (captSt capt σ) (upd H D (.lst []))) /\
   ∀i m σ' H',W i m σ' H'->(J.stop i H'/\Q (.ref D) H')\/(J.go i H'/\∃N:St->Hp->Prop,(∀σ2 H2,N σ2 H2->∃m',m'<m/\W (i+1) m' σ2 H2) /\
    ∀x H2,J.yld i H' x H2->g x σ' H2 fun σ3 H3=>tt σ3 H3 fun ok H4=>if ok=true then te σ3 H4 fun y H5=>∃xs,H5 D=some (.lst xs)/\xs.length<sizeLine/\N σ3 (upd H5 D (.lst (xs++[y]))) else N σ3 H4))
  (hRR:∀(D C:Addr) (H':Hp) (s':Shared) (m:Str->Option Value),s'.heap.Ns C m->Inv X pins σ H' s'->FpOk X pins H' C->Q (.ref D) H'->RR (.ref D) C (.ok .next) s') :
  wpAny (model X.prog X.w) X.A (newList []) (fun acc s₃=>wpAny (model X.prog X.w) X.A (newFunctionEnv scope X.env.globals cl [] X.env.qual none .none (some X.env)) (fun cenv s₄ =>
   codeAny (model X.prog X.w) X.A (.compStart (.ListComp elt [⟨tg,iter,ifs,0⟩] scope pos) 0 (.ref it) acc { cenv with scope:=relabel scope X.env }) (RR acc cenv.locals) s₄) E s₃) E s:=by
 have hD:H s.heap.objs.size=none:=I.hok.fresh (Nat.le_refl _)
 have I3:Inv X pins σ (upd H s.heap.objs.size (.lst [])) { s with heap:=s.heap.push { cls:=.type "list",dict:=none,data:=.seq ([]:List Value).toArray } } :=
  I.laid (t':=s.toks) (fun b o q=>Heap.get?_push_of_some _ q) (Nat.le_refl _) ⟨by show 0<=sizeLine;decide,[],0,.nil,Heap.get?_push_size _ rfl⟩
 obtain⟨W,⟨m0,w0⟩,turn⟩:=h _ hD
 refine wpAny_newObj_type (wpAny_newFunctionEnv S.cell (by intro y hy;simp at hy) (fun h₁ hns₁ hsb₁=>?_) S.kind)
 dsimp only at hns₁ hsb₁ ⊢
 generalize hH2:s.heap.push { cls:=.type "list",dict:=none,data:=.seq ([]:List Value).toArray }=Hh at hns₁ hsb₁ I3 ⊢
 have fplt0:∀b∈fp,b<s.heap.objs.size:=fun b hb=>by
  obtain⟨o,e,_⟩:=T.obj 0 s.heap st b hb
  exact Heap.lt_size e
 have szH:Hh.objs.size=s.heap.objs.size+1:=by rw[<-hH2,Heap.size_push]
 have fplt:∀b∈fp,b<Hh.objs.size:=fun b hb=>by rw[szH];exact Nat.lt_succ_of_lt (fplt0 b hb)
 have hf3:∀b∈fp,FpOk X pins (upd H s.heap.objs.size (.lst [])) b:=fun b hb=>by
  obtain⟨f0,fr⟩:=hf b hb
  exact⟨by rw[zai (Nat.ne_of_lt (fplt0 b hb))];exact f0,fr⟩
 have hk1:∀b o,Hh.get? b=some o->h₁.get? b=some o:=fun b o e=>hsb₁.extBut b o (Nat.ne_of_lt (Heap.lt_size e)) (Heap.get?_push_of_some _ e)
 have st1:tn 0 h₁:=T.keep 0 _ _ st fun b hb o e=>hk1 b o (by rw[<-hH2];exact Heap.get?_push_of_some _ e)
 generalize hX:compCx X N scope cl Hh.objs.size fp { s with heap:=Hh } (upd H s.heap.objs.size (.lst []))=X'
 have I4:Inv X' [] (captSt capt σ) (upd H s.heap.objs.size (.lst [])) { s with heap:=h₁,toks:=s.toks+([]:List (Str×Value)).length }:=by
  rw[<-hX]
  exact comp_inv (capt:=capt) I3 S hcl hall (Nat.le_refl _) hf3 fplt hcap hns₁ hk1
 have eP:X'.prog=X.prog:=by rw[<-hX];rfl
 have ew:X'.w=X.w:=by rw[<-hX];rfl
 have eK:X'.K=X.K:=by rw[<-hX];rfl
 have eA:X'.A=X.A:=by rw[<-hX];rfl
 have eC:X'.calm=true:=by rw[<-hX];exact hc
 have eE:X'.env=compEnvC scope cl Hh.objs.size X.env:=by rw[<-hX];rfl
 have eX:X'.xe=fun _ _=>False:=by rw[<-hX];rfl
 have ePn:X'.pn=[]:=by rw[<-hX];rfl
 have hg':PG X' tg g:=by rw[<-hX];exact hg _ _ _ _ _
 have ht':PTs X' ifs tt:=by rw[<-hX];exact ht _ _ _ _ _
 have he':PE X' elt te:=by rw[<-hX];exact he _ _ _ _ _
 have stat:∀{H':Hp},(∀b∈fp,H' b=none)->∀b∈fp,FpOk X' [] H' b:=fun {H'} hn b hb=>by
  rw[<-hX]
  refine⟨hn b hb,Nat.ne_of_lt (fplt b hb),fun z=>?_,.inl hb,fun x c q=>(hf b hb).2.2.2.2.1 x c (hcl x c q),fun p hp=>by simp[compCx]at hp⟩
  rcases List.mem_cons.mp (I3.stkSub b z) with e | e
  ·exact (hf b hb).2.1 e
  ·exact (hf b hb).2.2.1 e
 have back:∀{σ':St} {H':Hp} {s':Shared},Inv X' [] σ' H' s'->∀h'',Heap.SameBut Hh.objs.size s'.heap h''->Inv X pins σ H' { s' with heap:=h'' }:=fun {σ' H' s'} I' h'' sb=>by
  have u:=I'.base
  rw[<-hX]at u
  have neC:∀b o,Hh.get? b=some o->b≠Hh.objs.size:=fun b o e=>Nat.ne_of_lt (Heap.lt_size e)
  have nC:H' Hh.objs.size=none:=by have:=I'.free;rw[eE]at this;exact this
  refine I3.call' (s':={ s' with heap:=h'' }) (ch:=fp) (by have:=I'.os;rw[<-hX]at this;exact this) ?_ ?_ I'.bare (fun b hb=>⟨(hf3 b hb).2.2.2.1,(hf3 b hb).2.1,(hf3 b hb).2.2.2.2.1,(hf3 b hb).2.2.2.2.2⟩)
  ·exact⟨fun b o e n hb hx=>sb.extBut b _ (neC b o e) (u.keep b o e n hb hx),fun b o e n hb hx=>let ⟨sl,q⟩:=u.slot b o e n hb hx;⟨sl,sb.extBut b _ (neC b o e) q⟩,u.free,
    fun b o e hx=>let ⟨o',q⟩:=u.there b o e hx;⟨o',sb.extBut b _ (neC b o e) q⟩,u.tups,u.frzs,u.tbls⟩
  ·have hk:=I'.hok
   rw[eP,ew]at hk
   intro b ob e
   have nb:∀c v,H' c=some v->c≠Hh.objs.size:=fun c v q=>zbe q nC
   refine (hk b ob e).stay (fun c v hc q=>sb.extBut c v ?_ q) (fun _ q=>q) fun _ _ q=>q
   rcases hc with z | z
   ·rw[z];exact nb b _ e
   ·exact nb c _ z
 have loop:∀s₃:Shared,s₃={ s with heap:=h₁,toks:=s.toks+([]:List (Str×Value)).length } ->
   codeAny (model X.prog X.w) X.A (.compLoop (.ListComp elt [⟨tg,iter,ifs,0⟩] scope pos) 0 (.ref it) (.ref s.heap.objs.size) (compEnvC scope cl Hh.objs.size X.env)) (RR (.ref s.heap.objs.size) Hh.objs.size) s₃:=by
  rintro s₃ rfl
  refine zif (fun n s'=>∃i σ' H',Inv X' [] σ' H' s'/\tn i s'.heap/\(∀b∈fp,H' b=none)/\W i n σ' H') ?_ m0 ⟨0,_,_,I4,st1,fun b hb=>(hf3 b hb).1,w0⟩
  rintro n s3 ⟨i,σ3,H3,I5,st3,fr3,w3⟩
  rw[<-eP,<-ew,<-eA,<-eE]
  rcases turn i n σ3 H3 w3 with⟨stop,qn⟩ | ⟨go,Nn,hN,step⟩
  ·have d:=T.done X' eP ew eK eC i [] s3 σ3 H3 (fun _ _=>False) I5 (stat fr3) st3 stop
   rw[<-eP,<-ew]at d
   refine thn d fun r s4 zz=>?_
   obtain⟨hr,I6⟩:=zz
   subst hr
   obtain⟨mm,hns,_⟩:=I6.loc
   rw[eE]at hns
   have nC:H3 Hh.objs.size=none:=by have:=I6.free;rw[eE]at this;exact this
   exact hRR _ _ H3 s4 mm hns (back I6 s4.heap (.refl ..)) (I3.fpOk (Nat.le_refl _) nC) qn
  ·have d:=T.item X' eP ew eK eC i [] s3 σ3 H3 (fun _ _=>False) I5 (stat fr3) st3 go
   rw[<-eP,<-ew]at d
   refine thn d fun r s4 zz=>?_
   obtain⟨u,hr,h4⟩:=zz
   subst hr
   refine thn h4 fun _ s5 zz=>?_
   obtain⟨x,H5,I6,r5,y5,st5,fr5⟩:=zz
   have I6':=I6.pinned (stat fr5) (T.obj _ _ st5)
   have dg:=hg' _ s5 σ3 H5 x u _ I6' r5 (step x H5 y5)
   rw[eX]at dg
   refine thn dg fun _ s6 zz=>?_
   obtain⟨σ6,H6,I7,q6⟩:=zz
   have dt:=ht' _ s6 σ6 H6 _ I7 q6
   rw[eX]at dt
   refine thn dt fun ok s7 zz=>?_
   obtain⟨H7,I8,q7⟩:=zz
   have again:∀{σ9:St} {H9:Hp} {s9:Shared},Inv X' ([]++pinsAt fp s5.heap) σ9 H9 s9->Nn σ9 H9->∃m,m<n/\∃i σ' H',Inv X' [] σ' H' s9/\tn i s9.heap/\(∀b∈fp,H' b=none)/\W i m σ' H':=fun {σ9 H9 s9} I9 n9=>by
    obtain⟨m',hm,w9⟩:=hN σ9 H9 n9
    refine⟨m',hm,i+1,σ9,H9,I9.unpinned,T.keep _ _ _ st5 fun b hb o e=>(I9.pin (b,o) (List.mem_append_right _ (List.mem_append_right _ (zd7 hb e)))).1,fun b hb=>?_,w9⟩
    obtain⟨o,e,d⟩:=T.obj _ _ st5 b hb
    exact (I9.pin (b,o) (List.mem_append_right _ (List.mem_append_right _ (zd7 hb e)))).2.1
   cases ok with
   | false=>exact again I8 q7
   | true =>
    have de:=he' _ s7 σ6 H7 _ I8 q7
    rw[eX]at de
    refine thn de fun y s8 zz=>?_
    obtain⟨v,H8,I9,r8,q8⟩:=zz
    obtain⟨xs,hx,hz,nn⟩:=q8
    have da:=zjh (X:=X') _ s8 σ6 H8 (.ref s.heap.objs.size) [v] (.ref s.heap.objs.size) [y] (fun _ H9=>Nn σ6 H9) I9 rfl (.cons r8 .nil) ⟨_,xs,v,rfl,rfl,hx,hz,nn⟩
    rw[eX]at da
    refine thn da fun _ s9 zz=>?_
    obtain⟨_,H9,I10,_,n9⟩:=zz
    exact again I10 n9
 exact codeAny_compStart_list (loop _ rfl) (T.self _ 0 _ _ _ st1 (loop _ rfl))
theorem zhn {pins:List (Addr×Obj)}{σ:St}{H:Hp}{s:Shared}(I:Inv X pins σ H s)(hfr:∀x∈scope.names,x.2=.free->X.env.kindOf x.1=some .cell\/X.env.kindOf x.1=some .free) :
  ∃cl,closureFor scope X.env=pure cl/\(∀x c,cl.lookup x=some c->X.env.cells.lookup x=some c)/\∀x,(x,NameKind.free)∈scope.names->∃c,cl.lookup x=some c :=
 zhe fun x hx hk=>I.ok.has x.1 (hfr x hx hk)
theorem Inv.blockGone {pins:List (Addr×Obj)}{σ:St}{H:Hp}{s:Shared}{C:Addr}{h':Heap}(I:Inv X pins σ H s)(f:FpOk X pins H C)(sb:Heap.SameBut C s.heap h'):Inv X pins σ H { s with heap:=h' } :=
 I.turned (t':=s.toks) (fun b o hb e=>sb.extBut b o hb e) f.1 f.2.1 f.2.2.2.1 f.2.2.2.2.1 f.2.2.2.2.2
theorem pe_comp (hi:PI X tg iter wi)(S:CompScope scope)(hfr:∀x∈scope.names,x.2=.free->X.env.kindOf x.1=some .cell\/X.env.kindOf x.1=some .free)(hcap:Capt X scope capt N)(hc:X.calm=true)
  (hg:∀cl C fp s H,PG (compCx X N scope cl C fp s H) tg g) (ht:∀cl C fp s H,PTs (compCx X N scope cl C fp s H) ifs tt) (he:∀cl C fp s H,PE (compCx X N scope cl C fp s H) elt te)
  (hs:∀x,foldedSetIterable iter X.env x=pure x:=by intro _;rfl):PE X (.ListComp elt [⟨tg,iter,ifs,0⟩] scope pos) (tComp capt wi g tt te):=by
 intro pins s σ H Q I h
 obtain⟨cl,hcl,h1,h2⟩:=zhn I hfr
 rw[eval_ListComp]
 refine wpAny_comprehension_free (use:=none) rfl hs hcl S.kind S.names (thn (hi pins s σ H _ I h) fun v s1 q1=>thn q1 fun itv s2 q2=>?_)
 obtain⟨it,fp,tn,J,H2,e,I2,T,st2,f2,q⟩:=q2
 subst e
 refine zhu (RR:=fun acc C=>compPost (model X.prog X.w) X.A X.xe none (EP X pins σ Q) acc C) I2 T st2 f2 S h1 h2 hcap hc hg ht he q ?_
 intro D C H' s' m hn I' f' q'
 exact⟨m,hn,fun h'' sb=>⟨.ref D,H',I'.blockGone f' sb,rfl,q'⟩⟩
theorem zlc {i:Nat}{y:Str}{py spos:Pos}(hN:X.N.Nodup)(hy:X.N[i]? = some y)(hx:Loc X.env.scope y)(hsw:swapsWith (.ListComp elt [⟨tg,iter,ifs,0⟩] scope pos) (some (.Name y py)) spos.line X.env=pure true)
  (hi:PI X tg iter wi) (S:CompScope scope) (hfr:∀x∈scope.names,x.2=.free->X.env.kindOf x.1=some .cell\/X.env.kindOf x.1=some .free) (hcap:Capt X scope capt N) (hc:X.calm=true)
  (hg:∀cl C fp s H,PG (compCx X N scope cl C fp s H) tg g) (ht:∀cl C fp s H,PTs (compCx X N scope cl C fp s H) ifs tt) (he:∀cl C fp s H,PE (compCx X N scope cl C fp s H) elt te)
  (hs:∀x,foldedSetIterable iter X.env x=pure x:=by intro _;rfl) (hf:X.fn y=true\/X.env.scope.names.lookup y=some .local:=by first | exact .inl rfl | exact .inr rfl | assumption) :
  PS X (.Assign [.Name y py] (.ListComp elt [⟨tg,iter,ifs,0⟩] scope pos) spos) (tAsg (tComp capt wi g tt te) (gName i)):=by
 intro pins s σ H D I h
 obtain⟨cl,hcl,h1,h2⟩:=zhn I hfr
 rw[exec_Assign_Name_used _ _ _ _ hsw]
 refine wpAny_bind (wpAny_standAt (wpAny_bind ?_))
 show wpAny _ X.A (do let _ <-comprehension (.ListComp elt [⟨tg,iter,ifs,0⟩] scope pos) scope X.env _ (newList []) false (eval iter X.env) (some (assign (.Name y py) X.env))) _ _ s
 refine wpAny_bind (wpAny_mono (wpAny_comprehension_free (use:=some (assign (.Name y py) X.env)) (Q:=fun _ s'=>SP X pins D .next s') rfl hs hcl S.kind S.names
  (thn (hi pins s σ H _ I h) fun v s1 q1=>thn q1 fun itv s2 q2=>?_)) (fun _ s' hq=>wpAny_pure (wpAny_pure hq)) fun _ _ e=>e)
 obtain⟨it,fp,tn,J,H2,e,I2,T,st2,f2,q⟩:=q2
 subst e
 refine zhu (Q:=fun x H1=>gName i x σ H1 D.nx) (RR:=fun acc C=>compPost (model X.prog X.w) X.A X.xe (some (assign (.Name y py) X.env)) (fun _ s'=>SP X pins D .next s') acc C) I2 T st2 f2 S h1 h2 hcap hc hg ht he q ?_
 intro D' C H' s' m hn I' f' q'
 show wpAny _ X.A (assign (.Name y py) X.env (.ref D')) _ _ _
 refine wpAny_assign_Name (ziy I' hN hy hx (v:=.ref D') rfl (fun s'' I'' zz=>?_) hf)
 obtain⟨a,sb,ha⟩:=zz
 have neC:C≠a:=by
  rcases ha with e | e
  ·rw[e];exact f'.2.1
  ·exact Ne.symm (f'.2.2.2.2.1 _ _ e)
 obtain⟨o,es,ep,ho,r⟩:=hn
 exact⟨m,⟨o,es,ep,sb.extBut C o neC ho,r⟩,fun h'' sb'=>⟨_,H',I''.blockGone f' sb',q'⟩⟩
end
end L2
namespace M
open PySem PySem.Spec L2
inductive D where
 | non | bl (b:Bool) | int (i:Int) | str (cs:List Nat) | tup (xs:List D) | loc (n:Nat)
instance:Inhabited D:=⟨.non⟩
structure LamS where
 qual:Str
 params:Arguments
 body:Expr
 scope:Scope
 caps:List Str
inductive MO where
 | lst (xs:List D) | frz (xs:List D) | dic (kvs:List (List Key×D)) | dkc (kvs:List (Key×D))
 
 | dkf (kvs:List (Key×D))
 
 | dtf (kvs:List (List Key×D))
 
 | ins (c:Str) (fs:List (Str×D))
 
 | tab (x:Str)
 
 | clo (j:Nat) (l:LamS) (ds:List D)
 
 | exc (c:String) (d:D)
 
 | hid
noncomputable abbrev Stor:=List MO
noncomputable abbrev MEnv:=List (Option D)
structure Xc where
 cls:String
 fld:D
inductive R (α:Type) where
 | ok (a:α) (st:Stor) | err (x:Xc) (st:Stor) | bad
theorem zay {α:Sort u}{a b:α}(h:a=b):a=b:=h
noncomputable def R.bind {α β:Type}(r:R α)(f:α->Stor->R β):R β:=match r with
 | .ok a st=>f a st
 | .err x st=>.err x st
 | .bad=>.bad
@[simp] theorem R.bind_ok {α β:Type} (a:α) (st:Stor) (f:α->Stor->R β):(R.ok a st).bind f=f a st:=zay rfl
@[simp] theorem R.bind_err {α β:Type} (x:Xc) (st:Stor) (f:α->Stor->R β):(R.err x st:R α).bind f=.err x st:=zay rfl
noncomputable abbrev strOf (cs:List Nat):Str:=⟨cs.toArray⟩
instance sqTOf {K:PySem.W.Frag} {H:Hp} {a:Addr} {xs:List V}:CoeTail (H a=some (.tup xs)) (SqT K H a xs):=⟨SqT.of⟩
noncomputable def noKey:List D->Bool
 | []=>false
 | .int _::r=>noKey r
 | .str _::r=>noKey r
 | _::_=>true
noncomputable def TupA (K:PySem.W.Frag)(H:Hp)(a:Addr)(xs:List V)(ds:List D):Prop :=
 H a=some (.tup xs)\/(noKey ds=true/\∃(o:Obj) (its:Array Value) (n:Nat),K.lookup a=some o/\o.cls=.type "tuple"/\o.data=.seq its n/\its.size<=sizeLine/\Vals xs its.toList)
theorem TupA.sqT {K:PySem.W.Frag}{H:Hp}{a:Addr}{xs:List V}{ds:List D}(h:TupA K H a xs ds):SqT K H a xs:=by
 rcases h with h | ⟨_,h⟩
 ·exact SqT.of h
 ·exact .inr h
mutual
noncomputable def RepV (K:PySem.W.Frag)(μ:List Addr)(H:Hp):D->V->Prop
 | .non,v=>v=.non
 | .bl b,v=>v=.bl b
 | .int i,v=>v=.int i
 | .str cs,v=>v=.str (strOf cs)
 | .tup ds,v=>∃a xs,v=.ref a/\TupA K H a xs ds/\RepVs K μ H ds xs
 | .loc n,v=>∃a,μ[n]? = some a/\v=.ref a
noncomputable def RepVs (K:PySem.W.Frag)(μ:List Addr)(H:Hp):List D->List V->Prop
 | [],vs=>vs=[]
 | d::ds,vs=>∃v r,vs=v::r/\RepV K μ H d v/\RepVs K μ H ds r
end
structure Ext (H H':Hp):Prop where
 tup:∀b xs,H b=some (.tup xs)->H' b=some (.tup xs)
 frz:∀b o u,H b=some (.frz o u)->H' b=some (.frz o u)
theorem Ext.refl (H:Hp):Ext H H:=⟨fun _ _ h=>h,fun _ _ _ h=>h⟩
theorem Ext.trans {H H1 H2:Hp}(a:Ext H H1)(b:Ext H1 H2):Ext H H2:=⟨fun c xs h=>b.tup c xs (a.tup c xs h),fun c o u h=>b.frz c o u (a.frz c o u h)⟩
theorem Ext.sqT {K:PySem.W.Frag}{H H':Hp}{a:Addr}{xs:List V}(e:Ext H H')(h:SqT K H a xs):SqT K H' a xs:=by
 rcases h with (h | ⟨o,h⟩) | h
 ·exact .inl (.inl (e.tup _ _ h))
 ·exact .inl (.inr ⟨o,e.frz _ _ _ h⟩)
 ·exact .inr h
theorem Ext.tupA {K:PySem.W.Frag}{H H':Hp}{a:Addr}{xs:List V}{ds:List D}(e:Ext H H')(h:TupA K H a xs ds):TupA K H' a xs ds:=by
 rcases h with h | h
 ·exact .inl (e.tup _ _ h)
 ·exact .inr h
theorem Ext.new {H:Hp}{p:Addr}{o:HO}(h:H p=none):Ext H (upd H p o) :=
 ⟨fun b xs q=>by rw[zai (zbe q h)];exact q,fun b o' u q=>by rw[zai (zbe q h)];exact q⟩
structure Grow (μ:List Addr)(H:Hp)(μ':List Addr)(H':Hp):Prop where
 pre:∃ν,μ'=μ++ν
 ext:Ext H H'
theorem Grow.refl (μ:List Addr)(H:Hp):Grow μ H μ H:=⟨⟨[],by simp⟩,.refl H⟩
theorem Grow.trans {μ μ1 μ2:List Addr}{H H1 H2:Hp}(a:Grow μ H μ1 H1)(b:Grow μ1 H1 μ2 H2):Grow μ H μ2 H2:=by
 obtain⟨ν1,rfl⟩:=a.pre
 obtain⟨ν2,rfl⟩:=b.pre
 exact⟨⟨ν1++ν2,by simp⟩,a.ext.trans b.ext⟩
theorem Grow.get {μ μ':List Addr}{H H':Hp}(g:Grow μ H μ' H'){n:Nat}{a:Addr}(h:μ[n]? = some a):μ'[n]? = some a:=by
 obtain⟨ν,rfl⟩:=g.pre
 rw[List.getElem?_append_left (List.getElem?_eq_some_iff.mp h).1];exact h
mutual
theorem RepV.mono {K:PySem.W.Frag}{μ μ':List Addr}{H H':Hp}(g:Grow μ H μ' H'):∀(d:D) {v:V},RepV K μ H d v->RepV K μ' H' d v
 | .non,_,h=>by simpa[RepV] using h
 | .bl _,_,h=>by simpa[RepV] using h
 | .int _,_,h=>by simpa[RepV] using h
 | .str _,_,h=>by simpa[RepV] using h
 | .tup ds,_,h=>by
  rw[RepV]at h ⊢
  obtain⟨a,xs,rfl,h1,h2⟩:=h
  exact⟨a,xs,rfl,g.ext.tupA h1,RepVs.mono g ds h2⟩
 | .loc n,_,h=>by
  rw[RepV]at h ⊢
  obtain⟨a,h1,rfl⟩:=h
  exact⟨a,g.get h1,rfl⟩
theorem RepVs.mono {K:PySem.W.Frag}{μ μ':List Addr}{H H':Hp}(g:Grow μ H μ' H'):∀(ds:List D) {vs:List V},RepVs K μ H ds vs->RepVs K μ' H' ds vs
 | [],_,h=>by simpa[RepVs] using h
 | d::ds,_,h=>by
  rw[RepVs]at h ⊢
  obtain⟨v,r,rfl,h1,h2⟩:=h
  exact⟨v,r,rfl,RepV.mono g d h1,RepVs.mono g ds h2⟩
end
section
variable {K:PySem.W.Frag}{μ:List Addr}{H:Hp}
theorem RepVs.length:∀{ds:List D} {vs:List V},RepVs K μ H ds vs->ds.length=vs.length
 | [],_,h=>by rw[RepVs]at h;subst h;rfl
 | d::ds,_,h=>by
  rw[RepVs]at h
  obtain⟨v,r,rfl,_,h2⟩:=h
  rw[List.length_cons,List.length_cons,RepVs.length h2]
theorem RepVs.get:∀{ds:List D} {vs:List V} {i:Nat} {d:D},RepVs K μ H ds vs->ds[i]? = some d->∃v,vs[i]? = some v/\RepV K μ H d v
 | [],_,_,_,_,e=>by simp at e
 | d::ds,_,0,_,h,e=>by
  rw[RepVs]at h
  obtain⟨v,r,rfl,h1,_⟩:=h
  simp at e;subst e
  exact⟨v,rfl,h1⟩
 | d::ds,_,i+1,x,h,e=>by
  rw[RepVs]at h
  obtain⟨v,r,rfl,_,h2⟩:=h
  obtain⟨u,h3,h4⟩:=RepVs.get (i:=i) h2 (by simpa using e)
  exact⟨u,by simpa using h3,h4⟩
theorem RepVs.append:∀{ds es:List D} {vs ws:List V},RepVs K μ H ds vs->RepVs K μ H es ws->RepVs K μ H (ds++es) (vs++ws)
 | [],_,_,_,h,k=>by rw[RepVs]at h;subst h;exact k
 | d::ds,es,_,ws,h,k=>by
  rw[RepVs]at h
  obtain⟨v,r,rfl,h1,h2⟩:=h
  show RepVs K μ H (d::(ds++es)) (v::(r++ws))
  rw[RepVs]
  exact⟨v,r++ws,rfl,h1,RepVs.append h2 k⟩
theorem RepVs.nil:RepVs K μ H [] []:=by rw[RepVs]
theorem RepVs.cons {d:D}{ds:List D}{v:V}{vs:List V}(h:RepV K μ H d v)(k:RepVs K μ H ds vs):RepVs K μ H (d::ds) (v::vs):=by rw[RepVs];exact⟨v,vs,rfl,h,k⟩
theorem RepVs.take:∀{ds:List D} {vs:List V} (n:Nat),RepVs K μ H ds vs->RepVs K μ H (ds.take n) (vs.take n)
 | _,_,0,_=>by simp[RepVs]
 | [],_,n+1,h=>by rw[RepVs]at h;subst h;simp[RepVs]
 | d::ds,_,n+1,h=>by
  rw[RepVs]at h
  obtain⟨v,r,rfl,h1,h2⟩:=h
  exact RepVs.cons h1 (RepVs.take n h2)
theorem RepVs.drop:∀{ds:List D} {vs:List V} (n:Nat),RepVs K μ H ds vs->RepVs K μ H (ds.drop n) (vs.drop n)
 | _,_,0,h=>h
 | [],_,n+1,h=>by rw[RepVs]at h;subst h;simp[RepVs]
 | d::ds,_,n+1,h=>by
  rw[RepVs]at h
  obtain⟨v,r,rfl,h1,h2⟩:=h
  exact RepVs.drop n h2
theorem RepV.int_iff {i:Int}{v:V}:RepV K μ H (.int i) v↔v=.int i:=by rw[RepV]
theorem RepV.bl_iff {b:Bool}{v:V}:RepV K μ H (.bl b) v↔v=.bl b:=by rw[RepV]
theorem RepV.non_iff {v:V}:RepV K μ H .non v↔v=.non:=by rw[RepV]
theorem RepV.str_iff {cs:List Nat}{v:V}:RepV K μ H (.str cs) v↔v=.str (strOf cs):=by rw[RepV]
theorem RepV.tup_iff {ds:List D}{v:V}:RepV K μ H (.tup ds) v ↔ ∃a xs,v=.ref a/\TupA K H a xs ds/\RepVs K μ H ds xs:=by rw[RepV]
theorem RepV.loc_iff {n:Nat}{v:V}:RepV K μ H (.loc n) v ↔ ∃a,μ[n]? = some a/\v=.ref a:=by rw[RepV]
end
noncomputable def RepKV {κ:Type}(K:PySem.W.Frag)(μ:List Addr)(H:Hp):List (κ×D)->List (κ×V)->Prop
 | [],vs=>vs=[]
 | (k,d)::ds,vs=>∃v r,vs=(k,v)::r/\RepV K μ H d v/\RepKV K μ H ds r
theorem RepKV.mono {κ:Type}{K:PySem.W.Frag}{μ μ':List Addr}{H H':Hp}(g:Grow μ H μ' H'):∀{ds:List (κ×D)} {vs:List (κ×V)},RepKV K μ H ds vs->RepKV K μ' H' ds vs
 | [],_,h=>h
 | (k,d)::ds,_,⟨v,r,e,h1,h2⟩=>⟨v,r,e,h1.mono g d,RepKV.mono g h2⟩
noncomputable def FrzL (K:PySem.W.Frag)(H:Hp)(a:Addr)(xs:List V):Prop :=
 (∃o,H a=some (.frz o (.lst xs)))\/∃(o:Obj) (its:Array Value) (n:Nat),K.lookup a=some o/\o.cls=.type "list"/\o.dict=none/\o.data=.seq its n/\its.size<=sizeLine/\Vals xs its.toList
theorem FrzL.sqL {K:PySem.W.Frag}{H:Hp}{a:Addr}{xs:List V}(h:FrzL K H a xs):SqL K H a xs:=by
 rcases h with h | h
 ·exact .inl (.inr h)
 ·exact .inr h
theorem FrzL.ext {K:PySem.W.Frag}{H H':Hp}{a:Addr}{xs:List V}(e:Ext H H')(h:FrzL K H a xs):FrzL K H' a xs:=by
 rcases h with⟨o,h⟩ | h
 ·exact .inl ⟨o,e.frz _ _ _ h⟩
 ·exact .inr h
noncomputable def MO.mut:MO->Bool
 | .frz _=>false
 | .clo _ _ _=>false
 | .hid=>false
 | .dkf _=>false
 | .dtf _=>false
 | .exc _ _=>false
 | _=>true
noncomputable def CodeF (H:Hp)(c:Addr)(q:Str):Prop:=∃oc vs t,H c=some (.frz oc (.own 0))/\oc.data=.fields vs/\vs[1]? = some (.str q t)
noncomputable def CellsF (H:Hp):List (Str×Addr)->List V->Prop
 | [],vs=>vs=[]
 | (_,c)::cl,vs=>∃v r o u,vs=v::r/\H c=some (.frz o (.own 0))/\o.data=.cell (some u)/\RelV v u/\CellsF H cl r
theorem CodeF.ext {H H':Hp}{c:Addr}{q:Str}(e:Ext H H')(h:CodeF H c q):CodeF H' c q :=
 let ⟨oc,vs,t,h1,h2⟩:=h;⟨oc,vs,t,e.frz _ _ _ h1,h2⟩
theorem CellsF.ext {H H':Hp}(e:Ext H H'):∀{cl:List (Str×Addr)} {vs:List V},CellsF H cl vs->CellsF H' cl vs
 | [],_,h=>h
 | (_,c)::cl,_,⟨v,r,o,u,h1,h2,h3,h4,h5⟩=>⟨v,r,o,u,h1,e.frz _ _ _ h2,h3,h4,CellsF.ext e h5⟩
noncomputable def lamQual (x:Str):Str:=x ++ ".<locals>." ++ "<lambda>"
noncomputable def RepO (K:PySem.W.Frag)(μ:List Addr)(H:Hp)(a:Addr):MO->Prop
 | .lst ds=>∃xs,H a=some (.lst xs)/\RepVs K μ H ds xs
 | .frz ds=>∃xs,FrzL K H a xs/\RepVs K μ H ds xs
 | .dic kvs=>∃ws,H a=some (.dT ws)/\RepKV K μ H kvs ws
 | .dkc kvs=>∃ws,H a=some (.dK ws)/\RepKV K μ H kvs ws
 | .dkf kvs=>∃ws o,H a=some (.frz o (.dK ws))/\RepKV K μ H kvs ws
 | .dtf kvs=>∃ws o,H a=some (.frz o (.dT ws))/\RepKV K μ H kvs ws
 | .ins c fs=>∃C dx ws,PySem.W.nsIn K mainGlobals c=some (some (.ref C))/\H a=some (.ins C dx ws)/\RepKV K μ H fs ws
 | .tab x=>(∃(fa:Addr) (o:Obj) (fd:FuncData) (c:Addr),PySem.W.nsIn K mainGlobals x=some (some (.ref fa))/\K.lookup fa=some o/\o.data=.func fd/\fd.code=.ref c/\PySem.W.codeHdIn K c a=true) /\
   ∃ps:Array Value,H a=some (.tbl ps)/\TriplesOk ps.toList/\∀pos cv,codeAmong pos ps.toList=some cv->∃c',cv=.ref c'/\CodeF H c' (lamQual x)
 | .clo _ l ds=>∃(cl:List (Str×Addr)) (pm:Value) (c':Addr) (ctv:Value) (vs:List V),H a=some (.frz (PySem.W.kla_obj "<lambda>" l.qual l.params l.body l.scope cl pm c' ctv) (.own 0))/\CodeF H c' l.qual /\
   cl.map (·.1)=l.caps/\(cl.map (·.2)).Nodup/\CellsF H cl vs/\RepVs K μ H ds vs
 | .exc c d=>∃oe C dx od v fs,H a=some (.frz oe (.own 0))/\oe.cls=.ref C/\oe.dict=some dx/\oe.data=.fields fs/\H dx=some (.frz od (.xd [("at",v)]))/\PySem.W.nsIn K mainGlobals (c:Str)=some (some (.ref C))/\RepV K μ H d v
 | .hid=>True
structure RepS (K:PySem.W.Frag)(μ:List Addr)(H:Hp)(st:Stor):Prop where
 len:μ.length=st.length
 at_:∀(n:Nat) (o:MO),st[n]? = some o->∃a,μ[n]? = some a/\RepO K μ H a o
 uniq:∀(i j:Nat) (a:Addr) (oi oj:MO),st[i]? = some oi->st[j]? = some oj->oi.mut=true->oj.mut=true->μ[i]? = some a->μ[j]? = some a->i=j
structure RepE (K:PySem.W.Frag)(μ:List Addr)(H:Hp)(env:MEnv)(σ:St):Prop where
 len:env.length=σ.length
 at_:∀(i:Nat) (d:D),env[i]? = some (some d)->∃v,σ[i]? = some (some v)/\RepV K μ H d v
theorem RepE.mono {K:PySem.W.Frag}{μ μ':List Addr}{H H':Hp}{env:MEnv}{σ:St}(g:Grow μ H μ' H')(h:RepE K μ H env σ):RepE K μ' H' env σ :=
 ⟨h.len,fun i d e=>let ⟨v,h1,h2⟩:=h.at_ i d e;⟨v,h1,h2.mono g d⟩⟩
theorem RepE.set {K:PySem.W.Frag}{μ:List Addr}{H:Hp}{env:MEnv}{σ:St}{i:Nat}{d:D}{v:V}(h:RepE K μ H env σ)(r:RepV K μ H d v):RepE K μ H (env.set i (some d)) (σ.set i (some v)):=by
 refine⟨by simp[h.len],fun j e hj=>?_⟩
 by_cases hij:i=j
 ·subst hij
  have hl:i<env.length:=by
   have:=(List.getElem?_eq_some_iff.mp hj).1;simpa using this
  rw[List.getElem?_set_self hl]at hj
  cases hj
  exact⟨v,by rw[List.getElem?_set_self (by rw[<-h.len];exact hl)],r⟩
 ·rw[List.getElem?_set_ne hij]at hj
  rw[List.getElem?_set_ne hij]
  exact h.at_ j e hj
theorem RepO.some_of {K:PySem.W.Frag}{μ:List Addr}{H:Hp}{a:Addr}{o:MO}(h:RepO K μ H a o)(hm:o.mut=true):∃u,H a=some u:=by
 cases o with
 | lst ds=>obtain⟨xs,h1,_⟩:=h;exact⟨_,h1⟩
 | frz ds=>cases hm
 | dic kvs=>obtain⟨xs,h1,_⟩:=h;exact⟨_,h1⟩
 | dkc kvs=>obtain⟨xs,h1,_⟩:=h;exact⟨_,h1⟩
 | dkf kvs=>cases hm
 | dtf kvs=>cases hm
 | ins c fs=>obtain⟨_,_,_,_,h1,_⟩:=h;exact⟨_,h1⟩
 | tab x=>obtain⟨_,_,h1,_⟩:=h;exact⟨_,h1⟩
 | clo j l ds=>cases hm
 | exc c d=>cases hm
 | hid=>cases hm
theorem RepO.keep {K:PySem.W.Frag}{μ μ':List Addr}{H H':Hp}{a:Addr}{o:MO}(g:Grow μ H μ' H')(hk:o.mut=true->∀u,H a=some u->H' a=some u)(h:RepO K μ H a o):RepO K μ' H' a o:=by
 cases o with
 | lst ds=>obtain⟨xs,h1,h2⟩:=h;exact⟨xs,hk rfl _ h1,h2.mono g ds⟩
 | frz ds=>obtain⟨xs,h1,h2⟩:=h;exact⟨xs,h1.ext g.ext,h2.mono g ds⟩
 | dic kvs=>obtain⟨ws,h1,h2⟩:=h;exact⟨ws,hk rfl _ h1,h2.mono g⟩
 | dkc kvs=>obtain⟨ws,h1,h2⟩:=h;exact⟨ws,hk rfl _ h1,h2.mono g⟩
 | dkf kvs=>obtain⟨ws,o,h1,h2⟩:=h;exact⟨ws,o,g.ext.frz _ _ _ h1,h2.mono g⟩
 | dtf kvs=>obtain⟨ws,o,h1,h2⟩:=h;exact⟨ws,o,g.ext.frz _ _ _ h1,h2.mono g⟩
 | exc c d=>obtain⟨oe,C,dx,od,v,fs,h1,h2,h3,h4,h5,h6,h7⟩:=h;exact⟨oe,C,dx,od,v,fs,g.ext.frz _ _ _ h1,h2,h3,h4,g.ext.frz _ _ _ h5,h6,h7.mono g d⟩
 | ins c fs=>obtain⟨C,dx,ws,h0,h1,h2⟩:=h;exact⟨C,dx,ws,h0,hk rfl _ h1,h2.mono g⟩
 | tab x=>obtain⟨h0,ps,h1,h2,h3⟩:=h;exact⟨h0,ps,hk rfl _ h1,h2,fun pos cv e=>let ⟨c',e1,e2⟩:=h3 pos cv e;⟨c',e1,e2.ext g.ext⟩⟩
 | clo j l ds=>obtain⟨cl,pm,c',ctv,vs,h1,h2,h3,h4,h5,h6⟩:=h;exact⟨cl,pm,c',ctv,vs,g.ext.frz _ _ _ h1,h2.ext g.ext,h3,h4,h5.ext g.ext,h6.mono g ds⟩
 | hid=>trivial
section
variable {K:PySem.W.Frag}{μ:List Addr}{H:Hp}{st:Stor}{p a:Addr}{xs:List V}{n:Nat}{mo mo':MO}{o o':HO}
theorem RepS.lay (h:RepS K μ H st)(hp:H p=none):RepS K μ (upd H p o) st :=
 ⟨h.len,fun n mo e=>let ⟨a,h1,h2⟩:=h.at_ n mo e;⟨a,h1,h2.keep ⟨⟨[],by simp⟩,.new hp⟩ fun _ u q=>by rw[zai (zbe q hp)];exact q⟩,h.uniq⟩
theorem Grow.lay (hp:H p=none):Grow μ H μ (upd H p o):=⟨⟨[],by simp⟩,.new hp⟩
theorem Grow.new (hp:H p=none):Grow μ H (μ++[p]) (upd H p o):=⟨⟨[p],rfl⟩,.new hp⟩
theorem RepS.new (h:RepS K μ H st)(hp:H p=none)(hn:RepO K (μ++[p]) (upd H p o) p mo):RepS K (μ++[p]) (upd H p o) (st++[mo]):=by
 refine⟨by simp[h.len],fun n mo1 e=>?_,fun i j b oi oj ei ej mi mj hi hj=>?_⟩
 ·by_cases hl:n<st.length
  ·rw[List.getElem?_append_left hl]at e
   obtain⟨b,h1,h2⟩:=h.at_ n mo1 e
   exact⟨b,by rw[List.getElem?_append_left (by rw[h.len];exact hl)];exact h1,h2.keep (Grow.new hp) fun _ u q=>by rw[zai (zbe q hp)];exact q⟩
  ·have hl2:=(List.getElem?_eq_some_iff.mp e).1
   rw[List.length_append,List.length_singleton]at hl2
   have e2:n=st.length:=by omega
   subst e2
   rw[List.getElem?_append_right (Nat.le_refl _)]at e
   simp at e;subst e
   exact⟨p,by rw[<-h.len];simp,hn⟩
 ·have key:∀(k:Nat) (ok:MO),(st++[mo])[k]? = some ok->ok.mut=true->(μ++[p])[k]? = some b->(k<st.length/\st[k]? = some ok/\μ[k]? = some b/\b≠p)\/(k=st.length/\b=p):=fun k ok ek mk hk=>by
   by_cases hl:k<st.length
   ·rw[List.getElem?_append_left hl]at ek
    rw[List.getElem?_append_left (by rw[h.len];exact hl)]at hk
    obtain⟨c,h1,h2⟩:=h.at_ k ok ek
    rw[hk]at h1;cases h1
    obtain⟨u,hu⟩:=h2.some_of mk
    exact .inl ⟨hl,ek,hk,zbe hu hp⟩
   ·have hl2:=(List.getElem?_eq_some_iff.mp ek).1
    rw[List.length_append,List.length_singleton]at hl2
    have e2:k=st.length:=by omega
    subst e2
    rw[<-h.len]at hk
    simp at hk
    exact .inr ⟨rfl,hk.symm⟩
  rcases key i oi ei mi hi with⟨_,a1,a2,a3⟩ | ⟨a1,a2⟩
  ·rcases key j oj ej mj hj with⟨_,b1,b2,b3⟩ | ⟨b1,b2⟩
   ·exact h.uniq i j b oi oj a1 b1 mi mj a2 b2
   ·exact absurd b2 a3
  ·rcases key j oj ej mj hj with⟨_,b1,b2,b3⟩ | ⟨b1,b2⟩
   ·exact absurd a2 b3
   ·rw[a1,b1]
theorem Ext.mut (h:H a=some o)(ht:∀ys,o≠.tup ys)(hf:∀w u,o≠.frz w u):Ext H (upd H a o') :=
 ⟨fun b ys q=>by rw[zai (fun e=>by subst e;rw[h]at q;exact ht _ (Option.some.inj q))];exact q,
  fun b w u q=>by rw[zai (fun e=>by subst e;rw[h]at q;exact hf _ _ (Option.some.inj q))];exact q⟩
theorem RepS.put (h:RepS K μ H st)(hn:st[n]? = some mo)(hm:mo.mut=true)(hm':mo'.mut=true)(ha:μ[n]? = some a)(g:Ext H (upd H a o'))(new:RepO K μ (upd H a o') a mo'):RepS K μ (upd H a o') (st.set n mo'):=by
 have hl:=(List.getElem?_eq_some_iff.mp hn).1
 refine⟨by simp[h.len],fun k ok e=>?_,fun i j b oi oj ei ej mi mj hi hj=>?_⟩
 ·by_cases hk:n=k
  ·subst hk
   rw[List.getElem?_set_self hl]at e;cases e
   exact⟨a,ha,new⟩
  ·rw[List.getElem?_set_ne hk]at e
   obtain⟨b,h1,h2⟩:=h.at_ k ok e
   refine⟨b,h1,h2.keep ⟨⟨[],by simp⟩,g⟩ fun hmk u q=>?_⟩
   rw[zai (fun e2=>?_)]
   ·exact q
   ·subst e2;exact hk (h.uniq n k b mo ok hn e hm hmk ha h1)
 ·have key:∀(k:Nat) (ok:MO),(st.set n mo')[k]? = some ok->ok.mut=true->∃ok',st[k]? = some ok'/\ok'.mut=true:=fun k ok ek mk=>by
   by_cases hk:n=k
   ·subst hk;exact⟨mo,hn,hm⟩
   ·rw[List.getElem?_set_ne hk]at ek;exact⟨ok,ek,mk⟩
  obtain⟨oi',ei',mi'⟩:=key i oi ei mi
  obtain⟨oj',ej',mj'⟩:=key j oj ej mj
  exact h.uniq i j b oi' oj' ei' ej' mi' mj' hi hj
end
end M
namespace M
open PySem PySem.Spec L2
noncomputable def ExcAt (X:Cx)(μ:List Addr)(H:Hp)(x:Xc)(e:Value)(s:Shared):Prop :=
 ∃a C dx lo fl v,e=.ref a/\X.s₀.heap.objs.size<=lo/\Xo lo a C dx fl H s.heap/\H dx=some (.xd [("at",v)])/\PySem.W.nsIn X.K mainGlobals (x.cls:Str)=some (some (.ref C))/\RepV X.K μ H x.fld v
noncomputable def ErrOK (X:Cx)(μ:List Addr)(H:Hp)(x:Xc)(st:Stor):Prop :=
 ∀(pins:List (Addr×Obj)) (σ':L2.St) (H':Hp) (μ':List Addr) (e:Value) (s':Shared),Grow μ H μ' H'->RepS X.K μ' H' st->Inv X pins σ' H' s'->ExcAt X μ' H' x e s'->X.xe e s'
theorem ErrOK.mono {X:Cx}{μ μ1:List Addr}{H H1:Hp}{x:Xc}{st:Stor}(g:Grow μ H μ1 H1)(h:ErrOK X μ H x st):ErrOK X μ1 H1 x st :=
 fun pins σ' H' μ' e s' g'=>h pins σ' H' μ' e s' (g.trans g')
noncomputable abbrev Rel (α β:Type):=List Addr->Hp->α->β->Prop
noncomputable def Post {α β:Type}(X:Cx)(μ:List Addr)(H:Hp)(rel:Rel α β)(Q:β->Hp->Prop)(r:R α):Prop:=match r with
 | .ok a st=>∀(b:β) (H':Hp) (μ':List Addr),Grow μ H μ' H'->RepS X.K μ' H' st->rel μ' H' a b->Q b H'
 | .err x st=>ErrOK X μ H x st
 | .bad=>False
section
variable {α β γ δ:Type}{X:Cx}{μ μ1:List Addr}{H H1:Hp}{rel:Rel α β}{rel2:Rel γ δ}{Q Q':β->Hp->Prop}{r:R α}
theorem Post.mono (g:Grow μ H μ1 H1)(h:Post X μ H rel Q r):Post X μ1 H1 rel Q r:=by
 cases r with
 | ok a st=>exact fun b H' μ' g'=>h b H' μ' (g.trans g')
 | err x st=>exact ErrOK.mono g h
 | bad=>exact h
theorem Post.imp (h:Post X μ H rel Q r)(k:∀b H',Q b H'->Q' b H'):Post X μ H rel Q' r:=by
 cases r with
 | ok a st=>exact fun b H' μ' g' h1 h2=>k b H' (h b H' μ' g' h1 h2)
 | err x st=>exact h
 | bad=>exact h
noncomputable def Then (X:Cx)(μ:List Addr)(H:Hp)(rel:Rel α β)(rel2:Rel γ δ)(Q2:δ->Hp->Prop)(f:α->Stor->R γ):β->Hp->Prop :=
 fun b H1=>∃μ1 st1 a,Grow μ H μ1 H1/\RepS X.K μ1 H1 st1/\rel μ1 H1 a b/\Post X μ1 H1 rel2 Q2 (f a st1)
theorem Post.bind {Q2:δ->Hp->Prop}{f:α->Stor->R γ}(h:Post X μ H rel2 Q2 (r.bind f)):Post X μ H rel (Then X μ H rel rel2 Q2 f) r:=by
 cases r with
 | ok a st=>exact fun b H' μ' g h1 h2=>⟨μ',st,a,g,h1,h2,Post.mono g h⟩
 | err x st=>exact h
 | bad=>exact h
theorem Post.ret {a:α}{b:β}{st:Stor}(h:Post X μ H rel Q (.ok a st))(hs:RepS X.K μ H st)(hr:rel μ H a b):Q b H:=h b H μ (.refl _ _) hs hr
end
noncomputable abbrev relV (X:Cx):Rel D V:=fun μ H d v=>RepV X.K μ H d v
noncomputable abbrev relA (X:Cx):Rel (List D) (List V):=fun μ H d v=>RepVs X.K μ H d v
noncomputable abbrev relB:Rel Bool Bool:=fun _ _ a b=>a=b
noncomputable abbrev relO:Rel (Option Int) (Option Int):=fun _ _ a b=>a=b
noncomputable abbrev ME:=MEnv->Stor->R D
noncomputable abbrev MA:=MEnv->Stor->R (List D)
noncomputable abbrev MT:=MEnv->Stor->R Bool
noncomputable abbrev MP:=MEnv->Stor->R (Option Int)
noncomputable def tM (X:Cx)(m:ME):TE:=fun σ H Q=>∃μ env st,RepE X.K μ H env σ/\RepS X.K μ H st/\Post X μ H (relV X) Q (m env st)
noncomputable def tMA (X:Cx)(m:MA):TA:=fun σ H Q=>∃μ env st,RepE X.K μ H env σ/\RepS X.K μ H st/\Post X μ H (relA X) Q (m env st)
noncomputable def tMT (X:Cx)(m:MT):TT:=fun σ H Q=>∃μ env st,RepE X.K μ H env σ/\RepS X.K μ H st/\Post X μ H relB Q (m env st)
noncomputable def tMP (X:Cx)(m:MP):TO:=fun σ H Q=>∃μ env st,RepE X.K μ H env σ/\RepS X.K μ H st/\Post X μ H relO Q (m env st)
noncomputable def JE (X:Cx)(e:Expr)(m:ME):Prop:=PE X e (tM X m)
noncomputable def JT (X:Cx)(e:Expr)(m:MT):Prop:=PT X e (tMT X m)
noncomputable def JA (X:Cx)(es:List Expr)(m:MA):Prop:=PA X es (tMA X m)
noncomputable def JP (X:Cx)(e:Option Expr)(m:MP):Prop:=PO X e (tMP X m)
section
variable {X:Cx}{e a b c:Expr}{es:List Expr}{t:TE}{ma mb mc:ME}{mA:MA}{pos:Pos}
theorem JE.of {m:ME}(h:PE X e t)(k:∀σ H Q,tM X m σ H Q->t σ H Q):JE X e m:=fun pins s σ H Q I q=>h pins s σ H Q I (k σ H Q q)
theorem JT.of {t:TT}{m:MT}(h:PT X e t)(k:∀σ H Q,tMT X m σ H Q->t σ H Q):JT X e m:=fun pins s σ H Q I q=>h pins s σ H Q I (k σ H Q q)
theorem JA.of {t:TA}{m:MA}(h:PA X es t)(k:∀σ H Q,tMA X m σ H Q->t σ H Q):JA X es m:=fun pos pins s σ H Q I q=>h pos pins s σ H Q I (k σ H Q q)
theorem JP.of {o:Option Expr}{t:TO}{m:MP}(h:PO X o t)(k:∀σ H Q,tMP X m σ H Q->t σ H Q):JP X o m:=fun pins s σ H Q I q=>h pins s σ H Q I (k σ H Q q)
noncomputable def vr (i:Nat):ME:=fun env st=>match env[i]? with | some (some d)=>.ok d st | _=>.bad
noncomputable def ct (d:D):ME:=fun _ st=>.ok d st
theorem zab (i:Nat){x:Str}{pos:Pos}(hN:X.N[i]? = some x:=by rfl)(hv:Vis X.env.scope x:=by first | exact Or.inl rfl | exact Or.inr (Or.inl rfl) | exact Or.inr (Or.inr rfl))(hd:(x==("__debug__":Str))=false:=by decide)
  (hcd:(x==("__classdict__":Str))=false:=by decide):JE X (.Name x pos) (vr i):=JE.of (pe_var hN hv hd hcd) fun σ H Q zz=>by
 obtain⟨μ,env,st,he,hs,hp⟩:=zz
 unfold vr at hp
 split at hp
 ·rename_i d e
  obtain⟨v,h1,h2⟩:=he.at_ i d e
  exact⟨v,h1,hp.ret hs h2⟩
 ·exact hp.elim
theorem zaf {i j pos}:JE X (.Constant (.int i) j pos) (ct (.int i)):=by
 refine JE.of pe_int fun σ H Q zz=>?_
 obtain⟨μ,env,st,he,hs,hp⟩:=zz
 exact hp.ret hs (RepV.int_iff.mpr rfl)
theorem je_bl {b j pos}:JE X (.Constant (.bool b) j pos) (ct (.bl b)):=by
 refine JE.of pe_bl fun σ H Q zz=>?_
 obtain⟨μ,env,st,he,hs,hp⟩:=zz
 exact hp.ret hs (RepV.bl_iff.mpr rfl)
theorem je_non {j pos}:JE X (.Constant .none j pos) (ct .non):=by
 refine JE.of pe_non fun σ H Q zz=>?_
 obtain⟨μ,env,st,he,hs,hp⟩:=zz
 exact hp.ret hs (RepV.non_iff.mpr rfl)
theorem zdd {x:Str}{j pos}(cs:List Nat)(h:x=strOf cs:=by decide +kernel):JE X (.Constant (.str x) j pos) (ct (.str cs)):=by
 refine JE.of pe_str fun σ H Q zz=>?_
 obtain⟨μ,env,st,he,hs,hp⟩:=zz
 exact hp.ret hs (RepV.str_iff.mpr (by rw[h]))
noncomputable def op2 (g:D->D->Stor->R D)(a b:ME):ME:=fun env st=>(a env st).bind fun x st1=>(b env st1).bind fun y st2=>g x y st2
noncomputable def op1 (g:D->Stor->R D)(a:ME):ME:=fun env st=>(a env st).bind fun x st1=>g x st1
noncomputable def rM (X:Cx)(g:D->D->Stor->R D):R2:=fun x y H Q=>∃μ st dx dy,RepS X.K μ H st/\RepV X.K μ H dx x/\RepV X.K μ H dy y/\Post X μ H (relV X) Q (g dx dy st)
noncomputable def rM1 (X:Cx)(g:D->Stor->R D):V->Hp->VK->Prop:=fun x H Q=>∃μ st dx,RepS X.K μ H st/\RepV X.K μ H dx x/\Post X μ H (relV X) Q (g dx st)
noncomputable def rMC (X:Cx)(g:List D->Stor->R D):List V->Hp->VK->Prop:=fun xs H Q=>∃μ st ds,RepS X.K μ H st/\RepVs X.K μ H ds xs/\Post X μ H (relV X) Q (g ds st)
noncomputable def rMM (X:Cx)(g:D->List D->Stor->R D):V->List V->Hp->VK->Prop:=fun x xs H Q=>∃μ st d ds,RepS X.K μ H st/\RepV X.K μ H d x/\RepVs X.K μ H ds xs/\Post X μ H (relV X) Q (g d ds st)
theorem OpR.weak {f:Value->Value->Sem Value}{r r':R2}(h:OpR X f r)(k:∀x y H Q,r' x y H Q->r x y H Q):OpR X f r':=fun pins s σ H x y v u Q I rx ry q=>h pins s σ H x y v u Q I rx ry (k x y H Q q)
theorem UnR.weak {f:Value->Sem Value}{r r':V->Hp->VK->Prop}(h:UnR X f r)(k:∀x H Q,r' x H Q->r x H Q):UnR X f r':=fun pins s σ H x v Q I rx q=>h pins s σ H x v Q I rx (k x H Q q)
theorem CallR.weak {f:Value}{r r':List V->Hp->VK->Prop}(h:CallR X f r)(k:∀x H Q,r' x H Q->r x H Q):CallR X f r':=fun pins s σ H x v Q I rx q=>h pins s σ H x v Q I rx (k x H Q q)
theorem MtR.weak {id:String}{r r':V->List V->Hp->VK->Prop}(h:MtR X id r)(k:∀x xs H Q,r' x xs H Q->r x xs H Q):MtR X id r':=fun pins s σ H x xs v us Q I rx rs q=>h pins s σ H x xs v us Q I rx rs (k x xs H Q q)
theorem IxR.weak {r r':R2}(h:IxR X r)(k:∀x y H Q,r' x y H Q->r x y H Q):IxR X r':=fun va sl pins s σ H x y v u Q I rx ry q=>h va sl pins s σ H x y v u Q I rx ry (k x y H Q q)
theorem SlR.weak {r r':V->Option Int->Option Int->Hp->VK->Prop}(h:SlR X r)(k:∀x l u H Q,r' x l u H Q->r x l u H Q):SlR X r':=fun pins s σ H x v vl vu lo hi sl Q I rx hs pl pu q=>h pins s σ H x v vl vu lo hi sl Q I rx hs pl pu (k x lo hi H Q q)
theorem zkt {g:D->D->Stor->R D}{σ:L2.St}{H:Hp}{Q:VK}(h:tM X (op2 g ma mb) σ H Q):tM X ma σ H fun x H1=>tM X mb σ H1 fun y H2=>rM X g x y H2 Q:=by
 obtain⟨μ,env,st,he,hs,hp⟩:=h
 refine⟨μ,env,st,he,hs,hp.bind.imp ?_⟩
 rintro x H1 ⟨μ1,st1,d,g1,hs1,hx,hp1⟩
 refine⟨μ1,env,st1,he.mono g1,hs1,hp1.bind.imp ?_⟩
 rintro y H2 ⟨μ2,st2,d2,g2,hs2,hy,hp2⟩
 exact⟨μ2,st2,d,d2,hs2,hx.mono g2 _,hy,hp2⟩
theorem je_op {op:Operator}{g:D->D->Stor->R D}(ho:OpR X (binaryOp op) (rM X g))(ha:JE X a ma)(hb:JE X b mb):JE X (.BinOp a op b pos) (op2 g ma mb) :=
 JE.of (pe_op ho ha hb) fun σ H Q h=>zkt h
theorem je_cmp {op:CmpOp}{g:D->D->Stor->R D}(ho:OpR X (compareOp op) (rM X g))(ha:JE X a ma)(hb:JE X b mb)(hm:behindInMarks op b=false):JE X (.Compare a [op] [b] pos) (op2 g ma mb) :=
 JE.of (pe_cmpR ho ha hb hm) fun σ H Q h=>zkt h
theorem je_un {op:UnaryOp}{g:D->Stor->R D}(ho:UnR X (unaryOp op) (rM1 X g))(ha:JE X a ma):JE X (.UnaryOp op a pos) (op1 g ma):=by
 refine JE.of (pe_un ho ha) fun σ H Q zz=>?_
 obtain⟨μ,env,st,he,hs,hp⟩:=zz
 refine⟨μ,env,st,he,hs,hp.bind.imp fun x H1 zz=>?_⟩
 obtain⟨μ1,st1,d,g1,hs1,hx,hp1⟩:=zz
 exact⟨μ1,st1,d,hs1,hx,hp1⟩
noncomputable def tB1 (a:ME):MT:=fun env st=>(a env st).bind fun x st1=>match x with | .bl b=>.ok b st1 | _=>.bad
theorem zdc {op:CmpOp}{g:D->D->Stor->R D}(ho:OpR X (compareOp op) (rM X g))(ha:JE X a ma)(hb:JE X b mb)(hm:behindInMarks op b=false):JT X (.Compare a [op] [b] pos) (tB1 (op2 g ma mb)):=by
 refine JT.of (pt_cmpR ho ha hb hm) fun σ H Q zz=>?_
 obtain⟨μ,env,st,he,hs,hp⟩:=zz
 refine zkt ⟨μ,env,st,he,hs,hp.bind.imp ?_⟩
 rintro x H1 ⟨μ1,st1,d,g1,hs1,hx,hp1⟩
 cases d with
 | bl b=>exact⟨b,RepV.bl_iff.mp hx,hp1.ret hs1 rfl⟩
 | _=>exact hp1.elim
noncomputable def truV:D->Stor->Option Bool
 | .non,_=>some false
 | .bl b,_=>some b
 | .int i,_=>some (i != 0)
 | .str cs,_=>if cs.length<=1000000 then some (!cs.isEmpty) else none
 | .tup ds,_=>some (!ds.isEmpty)
 | .loc n,st=>match st[n]? with
  | some (.lst ds)=>some (!ds.isEmpty)
  | some (.frz ds)=>some (!ds.isEmpty)
  | _=>none
noncomputable def tru (a:ME):MT:=fun env st=>(a env st).bind fun x st1=>match truV x st1 with | some b=>.ok b st1 | none=>.bad
theorem zf3 {n:Nat}(h:n<=1000000):n<=sizeLine:=Nat.le_trans h (by decide)
theorem RepS.lst {K:PySem.W.Frag}{μ:List Addr}{H:Hp}{st:Stor}{n:Nat}{ds:List D}(h:RepS K μ H st)(e:st[n]? = some (.lst ds)):∃p xs,μ[n]? = some p/\H p=some (.lst xs)/\RepVs K μ H ds xs:=by
 obtain⟨p,h1,xs,h2,h3⟩:=h.at_ n _ e
 exact⟨p,xs,h1,h2,h3⟩
noncomputable def itemsAt (st:Stor)(n:Nat):Option (List D):=match st[n]? with
 | some (.lst ds)=>some ds
 | some (.frz ds)=>some ds
 | _=>none
theorem RepS.items {K:PySem.W.Frag}{μ:List Addr}{H:Hp}{st:Stor}{n:Nat}{ds:List D}(h:RepS K μ H st)(e:itemsAt st n=some ds):∃p xs,μ[n]? = some p/\SqL K H p xs/\RepVs K μ H ds xs:=by
 unfold itemsAt at e
 split at e
 ·rename_i es q
  cases e
  obtain⟨p,xs,h1,h2,h3⟩:=h.lst q
  exact⟨p,xs,h1,SqL.of h2,h3⟩
 ·rename_i es q
  cases e
  obtain⟨p,h1,xs,h2,h3⟩:=h.at_ n _ q
  exact⟨p,xs,h1,h2.sqL,h3⟩
 ·cases e
theorem RepVs.isEmpty {K:PySem.W.Frag}{μ:List Addr}{H:Hp}{ds:List D}{xs:List V}(h:RepVs K μ H ds xs):ds.isEmpty=xs.isEmpty:=by
 have:=h.length
 cases ds<;>cases xs<;>simp_all
theorem truV_ok {d:D}{st:Stor}{b:Bool}{μ:List Addr}{H:Hp}{v:V}(h:truV d st=some b)(hs:RepS X.K μ H st)(hv:RepV X.K μ H d v):TruV X.K v H b:=by
 cases d with
 | non=>rw[RepV.non_iff]at hv;subst hv;cases h;rfl
 | bl c=>rw[RepV.bl_iff]at hv;subst hv;cases h;rfl
 | int i=>rw[RepV.int_iff]at hv;subst hv;cases h;rfl
 | str cs =>
  rw[RepV.str_iff]at hv;subst hv
  simp only[truV]at h
  split at h
  ·rename_i hl
   cases h
   have e:(strOf cs).length=cs.length:=by simp[Str.length,strOf]
   refine⟨by rw[e];exact zf3 hl,?_⟩
   rw[e]
   cases cs<;>simp
   omega
  ·cases h
 | tup ds =>
  rw[RepV.tup_iff]at hv
  obtain⟨a,xs,rfl,h1,h2⟩:=hv
  cases h
  exact .inr (.inl ⟨xs,h1.sqT,by rw[h2.isEmpty]⟩)
 | loc n =>
  rw[RepV.loc_iff]at hv
  obtain⟨a,h1,rfl⟩:=hv
  have key:∃ds,itemsAt st n=some ds/\b=!ds.isEmpty:=by
   unfold itemsAt
   simp only[truV]at h
   split at h
   ·rename_i q;cases h;exact⟨_,rfl,rfl⟩
   ·rename_i q;cases h;exact⟨_,rfl,rfl⟩
   ·cases h
  obtain⟨ds,q,rfl⟩:=key
  obtain⟨p,xs,h3,h4,h5⟩:=hs.items q
  rw[h1]at h3;cases h3
  exact .inl ⟨xs,h4,by rw[h5.isEmpty]⟩
theorem zce (ha:JE X a ma)(he:∀whole,isTrue a X.env whole=(do let v <-whole;standAt a.pos;holding [v] (truthy v)):=by intro _;rfl):JT X a (tru ma):=by
 refine JT.of (pt_truth ha he) fun σ H Q zz=>?_
 obtain⟨μ,env,st,hE,hs,hp⟩:=zz
 refine⟨μ,env,st,hE,hs,hp.bind.imp ?_⟩
 rintro x H1 ⟨μ1,st1,d,g1,hs1,hx,hp1⟩
 cases e:truV d st1 with
 | none=>simp only[e]at hp1;exact hp1.elim
 | some b=>simp only[e]at hp1;exact⟨b,truV_ok e hs1 hx,hp1.ret hs1 rfl⟩
noncomputable def JW (X:Cx)(e:Expr)(m:MT):Prop:=PW X e (tMT X m)
theorem JW.jt {m:MT}(h:JW X e m):JT X e m:=PW.pt h
theorem JW.of {t:TT}{m:MT}(h:PW X e t)(k:∀σ H Q,tMT X m σ H Q->t σ H Q):JW X e m:=fun w pins s σ H Q I q=>h w pins s σ H Q I (k σ H Q q)
noncomputable def andT (a b:MT):MT:=fun env st=>(a env st).bind fun x st1=>if x then b env st1 else .ok false st1
noncomputable def orT (a b:MT):MT:=fun env st=>(a env st).bind fun x st1=>if x then .ok true st1 else b env st1
noncomputable def notT (a:MT):MT:=fun env st=>(a env st).bind fun x st1=>.ok (!x) st1
variable {ta tb tc:MT}{rest:List Expr}
theorem jw_and1 (ha:JT X a ta):JW X (.BoolOp .And [a] pos) ta:=pw_and1 ha
theorem zl4 (ha:JT X a ta):JW X (.BoolOp .Or [a] pos) ta:=pw_or1 ha
theorem jw_and (ha:JT X a ta)(hb:JW X (.BoolOp .And (b::rest) pos) tb):JW X (.BoolOp .And (a::b::rest) pos) (andT ta tb):=by
 refine JW.of (pw_and ha hb) fun σ H Q zz=>?_
 obtain⟨μ,env,st,hE,hs,hp⟩:=zz
 refine⟨μ,env,st,hE,hs,hp.bind.imp ?_⟩
 rintro x H1 ⟨μ1,st1,d,g1,hs1,rfl,hp1⟩
 cases d with
 | true=>exact iteT ⟨μ1,env,st1,hE.mono g1,hs1,hp1⟩
 | false=>exact iteF (hp1.ret hs1 rfl)
theorem jw_or (ha:JT X a ta)(hb:JW X (.BoolOp .Or (b::rest) pos) tb):JW X (.BoolOp .Or (a::b::rest) pos) (orT ta tb):=by
 refine JW.of (pw_or ha hb) fun σ H Q zz=>?_
 obtain⟨μ,env,st,hE,hs,hp⟩:=zz
 refine⟨μ,env,st,hE,hs,hp.bind.imp ?_⟩
 rintro x H1 ⟨μ1,st1,d,g1,hs1,rfl,hp1⟩
 cases d with
 | true=>exact iteT (hp1.ret hs1 rfl)
 | false=>exact iteF ⟨μ1,env,st1,hE.mono g1,hs1,hp1⟩
theorem zex (ha:JT X a ta):JT X (.UnaryOp .Not a pos) (notT ta):=by
 refine JT.of (pt_not ha) fun σ H Q zz=>?_
 obtain⟨μ,env,st,hE,hs,hp⟩:=zz
 refine⟨μ,env,st,hE,hs,hp.bind.imp ?_⟩
 rintro x H1 ⟨μ1,st1,d,g1,hs1,rfl,hp1⟩
 exact hp1.ret hs1 rfl
noncomputable def andV (a b:ME):ME:=fun env st=>(a env st).bind fun x st1=>match x with | .bl true=>b env st1 | .bl false=>.ok (.bl false) st1 | _=>.bad
noncomputable def notV (a:ME):ME:=fun env st=>(a env st).bind fun x st1=>match x with | .bl c=>.ok (.bl (!c)) st1 | _=>.bad
theorem je_one {op}{m:ME}(h:JE X a m):JE X (.BoolOp op [a] pos) m:=pe_one h
theorem je_and (ha:JE X a ma)(hb:JE X (.BoolOp .And (b::rest) pos) mb):JE X (.BoolOp .And (a::b::rest) pos) (andV ma mb):=by
 refine JE.of (pe_and ha hb) fun σ H Q zz=>?_
 obtain⟨μ,env,st,hE,hs,hp⟩:=zz
 refine⟨μ,env,st,hE,hs,hp.bind.imp ?_⟩
 rintro x H1 ⟨μ1,st1,d,g1,hs1,hx,hp1⟩
 cases d with
 | bl c =>
  refine⟨c,RepV.bl_iff.mp hx,?_⟩
  cases c with
  | true=>exact iteT ⟨μ1,env,st1,hE.mono g1,hs1,hp1⟩
  | false=>exact iteF (hp1.ret hs1 (RepV.bl_iff.mpr rfl))
 | _=>exact hp1.elim
theorem je_not (ha:JE X a ma):JE X (.UnaryOp .Not a pos) (notV ma):=by
 refine JE.of (pe_not ha) fun σ H Q zz=>?_
 obtain⟨μ,env,st,hE,hs,hp⟩:=zz
 refine⟨μ,env,st,hE,hs,hp.bind.imp ?_⟩
 rintro x H1 ⟨μ1,st1,d,g1,hs1,hx,hp1⟩
 cases d with
 | bl c=>exact⟨c,RepV.bl_iff.mp hx,hp1.ret hs1 (RepV.bl_iff.mpr rfl)⟩
 | _=>exact hp1.elim
noncomputable def nilA:MA:=fun _ st=>.ok [] st
noncomputable def consA (a:ME)(r:MA):MA:=fun env st=>(a env st).bind fun x st1=>(r env st1).bind fun xs st2=>.ok (x::xs) st2
theorem zae:JA X [] nilA:=by
 refine JA.of pa_nil fun σ H Q zz=>?_
 obtain⟨μ,env,st,hE,hs,hp⟩:=zz
 exact hp.ret hs RepVs.nil
theorem zaa {e:Expr}{es:List Expr}{m:ME}{mA:MA}(h:JE X e m)(hr:JA X es mA)(hs:starEach (e::es) X.env=(false,eval e X.env)::starEach es X.env:=by rfl):JA X (e::es) (consA m mA):=by
 refine JA.of (zfe h hr hs) fun σ H Q zz=>?_
 obtain⟨μ,env,st,hE,hs,hp⟩:=zz
 refine⟨μ,env,st,hE,hs,hp.bind.imp ?_⟩
 rintro x H1 ⟨μ1,st1,d,g1,hs1,hx,hp1⟩
 refine⟨μ1,env,st1,hE.mono g1,hs1,hp1.bind.imp ?_⟩
 rintro xs H2 ⟨μ2,st2,ds,g2,hs2,hxs,hp2⟩
 exact hp2.ret hs2 (RepVs.cons (hx.mono g2 _) hxs)
noncomputable def tupE (m:MA):ME:=fun env st=>(m env st).bind fun ds st1=>if ds.length<=1000000 then .ok (.tup ds) st1 else .bad
noncomputable def lstE (m:MA):ME:=fun env st=>(m env st).bind fun ds st1=>if ds.length<=1000000 then .ok (.loc st1.length) (st1++[.lst ds]) else .bad
theorem zez {es:List Expr}{mA:MA}{x1}(h:JA X es mA):JE X (.Tuple es x1 pos) (tupE mA):=by
 refine JE.of (pe_tup h) fun σ H Q zz=>?_
 obtain⟨μ,env,st,hE,hs,hp⟩:=zz
 refine⟨μ,env,st,hE,hs,hp.bind.imp ?_⟩
 rintro xs H1 ⟨μ1,st1,ds,g1,hs1,hxs,hp1⟩
 dsimp only at hp1
 split at hp1
 ·rename_i hl
  refine⟨by rw[<-hxs.length];exact zf3 hl,fun p hn=>?_⟩
  exact hp1 _ _ μ1 (Grow.lay hn) (hs1.lay hn) (RepV.tup_iff.mpr ⟨p,xs,rfl,.inl zah,hxs.mono (Grow.lay hn) _⟩)
 ·exact hp1.elim
theorem Post.newList {μ:List Addr}{H:Hp}{st:Stor}{ds:List D}{xs:List V}{p:Addr}{Q:VK}(h:Post X μ H (relV X) Q (.ok (.loc st.length) (st++[.lst ds])))(hs:RepS X.K μ H st)(hx:RepVs X.K μ H ds xs)(hn:H p=none) :
  Q (.ref p) (upd H p (.lst xs)):=by
 have g:Grow μ H (μ++[p]) (upd H p (.lst xs)):=Grow.new hn
 refine h _ _ (μ++[p]) g (hs.new hn ⟨xs,zah,hx.mono g _⟩) (RepV.loc_iff.mpr ⟨p,?_,rfl⟩)
 rw[<-hs.len];simp
theorem zf0 {es:List Expr}{mA:MA}(h:JA X es mA):JE X (.List es pos) (lstE mA):=by
 refine JE.of (pe_lst h) fun σ H Q zz=>?_
 obtain⟨μ,env,st,hE,hs,hp⟩:=zz
 refine⟨μ,env,st,hE,hs,hp.bind.imp ?_⟩
 rintro xs H1 ⟨μ1,st1,ds,g1,hs1,hxs,hp1⟩
 dsimp only at hp1
 split at hp1
 ·rename_i hl
  exact⟨by rw[<-hxs.length];exact zf3 hl,fun p hn=>hp1.newList hs1 hxs hn⟩
 ·exact hp1.elim
end
end M
namespace M
open PySem PySem.Spec L2
section
variable {X:Cx}{e a b c:Expr}{es:List Expr}{t:TE}{ma mb mc:ME}{mA:MA}{pos:Pos}
theorem zd5 (cs:List Nat):(strOf cs).length=cs.length:=by simp[Str.length,strOf]
theorem strOf_app (a b:List Nat):strOf a++strOf b=strOf (a++b):=by
 show Str.append _ _=_
 simp[Str.append,strOf]
theorem ze6 {a b:List Nat}:strOf a=strOf b↔a=b:=by
 constructor
 ·intro h
  have:=congrArg (fun s:Str=>s.cps.toList) h
  simpa[strOf] using this
 ·intro h;rw[h]
noncomputable def addV:D->D->Stor->R D
 | .int i,.int j,st=>.ok (.int (i+j)) st
 | .str a,.str b,st=>if a.length+b.length<=1000000 then .ok (.str (a++b)) st else .bad
 | .tup a,.tup b,st=>if a.length+b.length<=1000000 then .ok (.tup (a++b)) st else .bad
 | .loc m,.loc n,st=>match st[m]?,st[n]? with
  | some (.lst a),some (.lst b)=>if a.length+b.length<=1000000 then .ok (.loc st.length) (st++[.lst (a++b)]) else .bad
  | _,_=>.bad
 | _,_,_=>.bad
theorem zbi:OpR X (binaryOp .Add) (rM X addV):=by
 refine OpR.weak (OpR.or op_add (OpR.or zlv (OpR.or op_catT (OpR.or op_catT0 op_cat)))) ?_
 rintro x y H Q ⟨μ,st,dx,dy,hs,hx,hy,hp⟩
 cases dx with
 | int i =>
  cases dy with
  | int j =>
   rw[RepV.int_iff]at hx hy;subst hx hy
   exact .inl ⟨i,j,rfl,rfl,hp.ret hs (RepV.int_iff.mpr rfl)⟩
  | _=>exact hp.elim
 | str i =>
  cases dy with
  | str j =>
   rw[RepV.str_iff]at hx hy;subst hx hy
   simp only[addV]at hp
   split at hp
   ·rename_i hl
    refine .inr (.inl ⟨_,_,rfl,rfl,?_,?_⟩)
    ·rw[zd5,zd5];exact zf3 hl
    ·rw[strOf_app];exact hp.ret hs (RepV.str_iff.mpr rfl)
   ·exact hp.elim
  | _=>exact hp.elim
 | tup i =>
  cases dy with
  | tup j =>
   rw[RepV.tup_iff]at hx hy
   obtain⟨p,xs,rfl,h1,h2⟩:=hx
   obtain⟨q,ys,rfl,h3,h4⟩:=hy
   simp only[addV]at hp
   split at hp
   ·rename_i hl
    by_cases hx0:xs=[]
    ·subst hx0
     have hi:i=[]:=by have:=h2.length;simpa using this
     subst hi
     exact .inr (.inr (.inr (.inl ⟨p,q,ys,rfl,rfl,h1.sqT,h3.sqT,hp.ret hs (RepV.tup_iff.mpr ⟨q,ys,rfl,h3,h4⟩)⟩)))
    ·refine .inr (.inr (.inl ⟨p,q,xs,ys,rfl,rfl,h1.sqT,h3.sqT,hx0,by rw[<-h2.length,<-h4.length];exact zf3 hl,fun hy0=>?_,fun _ r hr=>?_⟩))
     ·subst hy0
      have hj:j=[]:=by have:=h4.length;simpa using this
      subst hj
      exact hp.ret hs (RepV.tup_iff.mpr ⟨p,xs,rfl,by rw[List.append_nil];exact h1,by rw[List.append_nil];exact h2⟩)
     ·exact hp _ _ μ (Grow.lay hr) (hs.lay hr) (RepV.tup_iff.mpr ⟨r,_,rfl,.inl zah,(h2.append h4).mono (Grow.lay hr) _⟩)
   ·exact hp.elim
  | _=>exact hp.elim
 | loc m =>
  cases dy with
  | loc n =>
   rw[RepV.loc_iff]at hx hy
   obtain⟨p,h1,rfl⟩:=hx
   obtain⟨q,h2,rfl⟩:=hy
   simp only[addV]at hp
   split at hp
   ·rename_i da db e1 e2
    split at hp
    ·rename_i hl
     obtain⟨p',xs,h3,h4,h5⟩:=hs.lst e1
     obtain⟨q',ys,h6,h7,h8⟩:=hs.lst e2
     rw[h1]at h3;cases h3
     rw[h2]at h6;cases h6
     exact .inr (.inr (.inr (.inr ⟨p,q,xs,ys,rfl,rfl,h4,h7,by rw[<-h5.length,<-h8.length];exact zf3 hl,fun r hr=>hp.newList hs (h5.append h8) hr⟩)))
    ·exact hp.elim
   ·exact hp.elim
  | _=>exact hp.elim
 | _=>exact hp.elim
noncomputable def intV (C:Int->Int->Prop)[∀i j,Decidable (C i j)](g:Int->Int->D):D->D->Stor->R D
 | .int i,.int j,st=>if C i j then .ok (g i j) st else .bad
 | _,_,_=>.bad
theorem zf8 {f:Value->Value->Sem Value}{C:Int->Int->Prop}[∀i j,Decidable (C i j)]{g:Int->Int->D}{gv:Int->Int->V}(h:OpR X f (rI C gv))(hg:∀i j μ H,RepV X.K μ H (g i j) (gv i j)):OpR X f (rM X (intV C g)):=by
 refine OpR.weak h ?_
 rintro x y H Q ⟨μ,st,dx,dy,hs,hx,hy,hp⟩
 cases dx with
 | int i =>
  cases dy with
  | int j =>
   rw[RepV.int_iff]at hx hy;subst hx hy
   simp only[intV]at hp
   split at hp
   ·rename_i hc
    exact⟨i,j,rfl,rfl,hc,hp.ret hs (hg i j μ H)⟩
   ·exact hp.elim
  | _=>exact hp.elim
 | _=>exact hp.elim
theorem OpR.top {f:Value->Value->Sem Value}{gv:Int->Int->V}(h:OpR X f (rI0 gv)):OpR X f (rI (fun _ _=>True) gv):=by
 refine OpR.weak h fun x y H Q zz=>?_
 obtain⟨i,j,a,b,_,q⟩:=zz
 exact⟨i,j,a,b,q⟩
noncomputable def mulV:D->D->Stor->R D:=intV (fun i j=>(-(2 ^ 64)<i/\i<2 ^ 64)\/(-(2 ^ 64)<j/\j<2 ^ 64)) fun i j=>.int (i*j)
theorem zes:OpR X (binaryOp .Mult) (rM X mulV):=zf8 (OpR.weak op_mul fun x y H Q h=>h) fun i j μ H=>RepV.int_iff.mpr rfl
noncomputable def fdivV:D->D->Stor->R D:=intV (fun _ j=>0<j/\j<2 ^ 64) fun i j=>.int (i / j)
theorem zbu:OpR X (binaryOp .FloorDiv) (rM X fdivV):=zf8 op_fdivW fun i j μ H=>RepV.int_iff.mpr rfl
noncomputable def modV:D->D->Stor->R D:=intV (fun _ j=>0<j) fun i j=>.int (i % j)
theorem zbt:OpR X (binaryOp .Mod) (rM X modV):=zf8 op_mod fun i j μ H=>RepV.int_iff.mpr rfl
noncomputable def ltV:D->D->Stor->R D:=intV (fun _ _=>True) fun i j=>.bl (decide (i<j))
theorem op_ltV:OpR X (compareOp .Lt) (rM X ltV):=zf8 (OpR.top op_lt) fun i j μ H=>RepV.bl_iff.mpr rfl
noncomputable def leV:D->D->Stor->R D:=intV (fun _ _=>True) fun i j=>.bl (decide (i<=j))
theorem op_leV:OpR X (compareOp .LtE) (rM X leV):=zf8 (OpR.top op_le) fun i j μ H=>RepV.bl_iff.mpr rfl
noncomputable def gtV:D->D->Stor->R D:=intV (fun _ _=>True) fun i j=>.bl (decide (j<i))
theorem op_gtV:OpR X (compareOp .Gt) (rM X gtV):=zf8 (OpR.top op_gt) fun i j μ H=>RepV.bl_iff.mpr rfl
noncomputable def negV:D->Stor->R D
 | .int i,st=>.ok (.int (-i)) st
 | _,_=>.bad
theorem un_negV:UnR X (unaryOp .USub) (rM1 X negV):=by
 refine UnR.weak un_neg ?_
 rintro x H Q ⟨μ,st,dx,hs,hx,hp⟩
 cases dx with
 | int i=>rw[RepV.int_iff]at hx;subst hx;exact⟨i,rfl,hp.ret hs (RepV.int_iff.mpr rfl)⟩
 | _=>exact hp.elim
noncomputable def ixV:D->D->Stor->R D
 | .loc n,.int i,st=>match (itemsAt st n).bind fun ds=>atI ds i with | some d=>.ok d st | none=>.bad
 | .tup ds,.int i,st=>match atI ds i with | some d=>.ok d st | none=>.bad
 | .str cs,.int i,st=>if cs.length<=1000000 then (match atI cs i with | some c=>.ok (.str [c]) st | none=>.bad) else .bad
 | _,_,_=>.bad
theorem RepVs.atI {K:PySem.W.Frag}{μ:List Addr}{H:Hp}{ds:List D}{xs:List V}{i:Int}{d:D}(h:RepVs K μ H ds xs)(e:L2.atI ds i=some d):∃v,L2.atI xs i=some v/\RepV K μ H d v:=by
 unfold L2.atI at e ⊢
 rw[<-h.length]
 cases q:ixN ds.length i with
 | none=>rw[q]at e;cases e
 | some j =>
  rw[q]at e
  exact h.get (by simpa using e)
theorem ix_V:IxR X (rM X ixV):=by
 refine IxR.weak ix_seq ?_
 rintro x y H Q ⟨μ,st,dx,dy,hs,hx,hy,hp⟩
 cases dy with
 | int i =>
  rw[RepV.int_iff]at hy;subst hy
  cases dx with
  | loc n =>
   rw[RepV.loc_iff]at hx
   obtain⟨p,h1,rfl⟩:=hx
   simp only[ixV]at hp
   cases e:itemsAt st n with
   | none=>rw[e]at hp;exact hp.elim
   | some ds =>
    rw[e]at hp
    cases e2:L2.atI ds i with
    | none=>simp only[Option.bind_some,e2]at hp;exact hp.elim
    | some d =>
     simp only[Option.bind_some,e2]at hp
     obtain⟨p',xs,h3,h4,h5⟩:=hs.items e
     rw[h1]at h3;cases h3
     obtain⟨v,h6,h7⟩:=h5.atI e2
     exact .inl ⟨p,xs,i,v,rfl,rfl,h4,h6,hp.ret hs h7⟩
  | tup ds =>
   rw[RepV.tup_iff]at hx
   obtain⟨p,xs,rfl,h1,h2⟩:=hx
   simp only[ixV]at hp
   cases e2:L2.atI ds i with
   | none=>simp only[e2]at hp;exact hp.elim
   | some d =>
    simp only[e2]at hp
    obtain⟨v,h6,h7⟩:=h2.atI e2
    exact .inr (.inl ⟨p,xs,i,v,rfl,rfl,h1.sqT,h6,hp.ret hs h7⟩)
  | str cs =>
   rw[RepV.str_iff]at hx;subst hx
   simp only[ixV]at hp
   split at hp
   ·rename_i hl
    cases e2:L2.atI cs i with
    | none=>simp only[e2]at hp;exact hp.elim
    | some c =>
     simp only[e2]at hp
     exact .inr (.inr ⟨_,i,c,rfl,rfl,by rw[zd5];exact zf3 hl,by simpa[strOf] using e2,hp.ret hs (RepV.str_iff.mpr rfl)⟩)
   ·exact hp.elim
  | _=>exact hp.elim
 | _=>cases dx<;>exact hp.elim
theorem je_ix (ha:JE X a ma)(hb:JE X b mb)(hs:PlainIx b:=by exact fun _ _=>rfl):JE X (.Subscript a b pos) (op2 ixV ma mb) :=
 JE.of (pe_ix ix_V ha hb hs) fun σ H Q h=>zkt h
end
end M
namespace M
open PySem PySem.Spec L2
section
variable {X:Cx}{e a b c:Expr}{es:List Expr}{t:TE}{ma mb mc:ME}{mA:MA}{pos p2:Pos}
noncomputable def cut {α:Type}(xs:List α)(lo hi:Option Int):List α:=(xs.drop (HT.sIx xs.length 0 lo)).take (HT.sIx xs.length xs.length hi - HT.sIx xs.length 0 lo)
theorem RepVs.cut {K:PySem.W.Frag}{μ:List Addr}{H:Hp}{ds:List D}{xs:List V}(h:RepVs K μ H ds xs)(lo hi:Option Int):RepVs K μ H (M.cut ds lo hi) (cutV xs lo hi):=by
 unfold M.cut cutV
 rw[<-h.length]
 exact (h.drop _).take _
theorem cut_whole {α:Type}{xs:List α}{lo hi:Option Int}(h:HT.sIx xs.length 0 lo=0/\HT.sIx xs.length xs.length hi=xs.length):cut xs lo hi=xs:=by
 unfold cut
 rw[h.1,h.2]
 simp
theorem sRange_eq (i j:Nat):sliceRange (i:Int) (j:Int) 1=(List.range (j - i)).map fun k=>i+k:=by
 unfold sliceRange
 simp only[show (1:Int) > 0 by decide,if_true]
 have e:(if (i:Int)<(j:Int) then ((j:Int) - (i:Int)+1 - 1) / 1 else 0).toNat=j - i:=by
  split
  ·rw[Int.ediv_one];omega
  ·omega
 rw[e]
 refine List.map_congr_left fun k _=>?_
 omega
theorem sIdx_eq (lo hi:Option Int)(n:Nat):Builtin.Str.strSliceIndices lo hi 1 n=(List.range (HT.sIx n n hi - HT.sIx n 0 lo)).map fun k=>HT.sIx n 0 lo+k:=by
 rw[<-sRange_eq]
 unfold Builtin.Str.strSliceIndices
 simp only[show (1:Int) > 0 by decide,if_true]
 congr 1
 ·cases lo with
  | none=>rfl
  | some v =>
   show max 0 (min (if v<0 then v+(n:Int) else v) (n:Int))=((if v<0 then (v+(n:Int)).toNat else min v.toNat n:Nat):Int)
   split<;>omega
 ·cases hi with
  | none=>rfl
  | some v =>
   show max 0 (min (if v<0 then v+(n:Int) else v) (n:Int))=((if v<0 then (v+(n:Int)).toNat else min v.toNat n:Nat):Int)
   split<;>omega
theorem pick_cut (cs:List Nat)(i k:Nat):((List.range k).map fun m=>i+m).filterMap (fun m=>cs[m]?)=(cs.drop i).take k:=by
 induction k generalizing i with
 | zero=>simp
 | succ k ih =>
  rw[List.range_succ_eq_map,List.map_cons,List.filterMap_cons,List.map_map]
  have e:((fun m=>i+m)∘Nat.succ)=fun m=>(i+1)+m:=by funext m;simp;omega
  rw[e,ih (i+1)]
  cases q:cs[i]? with
  | none =>
   have hl:cs.length<=i:=List.getElem?_eq_none_iff.mp q
   simp[q,List.drop_eq_nil_of_le hl,List.drop_eq_nil_of_le (Nat.le_succ_of_le hl)]
  | some c =>
   have hl:=(List.getElem?_eq_some_iff.mp q).1
   have hc:=(List.getElem?_eq_some_iff.mp q).2
   simp[q,List.drop_eq_getElem_cons hl,hc]
theorem slice_str (cs:List Nat)(lo hi:Option Int):Txt.slice (strOf cs) lo hi=strOf (cut cs lo hi):=by
 have e:(strOf cs).length=cs.length:=by simp[Str.length,strOf]
 unfold Txt.slice
 rw[e,sIdx_eq]
 have hj:HT.sIx cs.length cs.length hi<=cs.length:=HT.sIx_le _ _ (Nat.le_refl _) hi
 have q:((List.range (HT.sIx cs.length cs.length hi - HT.sIx cs.length 0 lo)).map fun k=>HT.sIx cs.length 0 lo+k).filterMap (fun m=>(strOf cs).cps[m]?)=cut cs lo hi:=by
  have:(fun (m:Nat)=>(strOf cs).cps[m]?)=fun (m:Nat)=>cs[m]?:=by funext m;simp[strOf]
  rw[this,pick_cut];rfl
 split
 ·rename_i h
  rw[Bool.and_eq_true]at h
  have h2:HT.sIx cs.length cs.length hi - HT.sIx cs.length 0 lo=cs.length:=by simpa using h.2
  have h3:cut cs lo hi=cs:=by
   unfold cut
   rw[h2]
   by_cases hz:cs.length=0
   ·have:cs=[]:=List.length_eq_zero_iff.mp hz
    subst this;simp
   ·have:HT.sIx cs.length 0 lo=0:=by omega
    rw[this];simp
  rw[h3]
 ·rw[q]
noncomputable def slV:D->Option Int->Option Int->Stor->R D
 | .loc n,lo,hi,st=>match itemsAt st n with | some ds=>.ok (.loc st.length) (st++[.lst (cut ds lo hi)]) | none=>.bad
 | .tup ds,lo,hi,st=>.ok (.tup (cut ds lo hi)) st
 | .str cs,lo,hi,st=>if cs.length<=1000000 then .ok (.str (cut cs lo hi)) st else .bad
 | _,_,_,_=>.bad
noncomputable def rMS (X:Cx)(g:D->Option Int->Option Int->Stor->R D):V->Option Int->Option Int->Hp->VK->Prop:=fun x lo hi H Q=>∃μ st dx,RepS X.K μ H st/\RepV X.K μ H dx x/\Post X μ H (relV X) Q (g dx lo hi st)
noncomputable def rSlS:V->Option Int->Option Int->Hp->VK->Prop:=fun x lo hi H Q=>∃cs,x=.str (strOf cs)/\cs.length<=sizeLine/\Q (.str (strOf (cut cs lo hi))) H
theorem sl_str:SlR X rSlS:=by
 intro pins s σ H x v vl vu lo hi sl Q I rx hs pl pu h
 obtain⟨cs,rfl,hz,q⟩:=h
 obtain⟨t,rfl⟩:=rx
 obtain⟨l,el,ml⟩:∃l:Option (Int×Tok),vl=partValue l/\l.map (·.1)=lo:=by
  cases pl with
  | none=>exact⟨none,rfl,rfl⟩
  | int i u=>exact⟨some (i,u),rfl,rfl⟩
 obtain⟨u,eu,mu⟩:∃l:Option (Int×Tok),vu=partValue l/\l.map (·.1)=hi:=by
  cases pu with
  | none=>exact⟨none,rfl,rfl⟩
  | int i u=>exact⟨some (i,u),rfl,rfl⟩
 subst el eu
 have hs':s.heap.IsSlice sl l u none:=hs
 refine⟨"str",_,F.slot_str_getitem.lookup,typeIs_str _ _ _,wpAny_getItem_str_slice (l:=l) (u:=u) (st:=none) hs' rfl ?_⟩
 have e:Txt.slice (strOf cs) lo hi=strOf (cut cs lo hi):=slice_str cs lo hi
 unfold Txt.slice at e
 unfold sliceMade slicePicked
 rw[ml,mu]
 split
 ·rename_i h
  have h':((1:Int)==1 && (Builtin.Str.strSliceIndices lo hi 1 (strOf cs).length).length==(strOf cs).length)=true:=h
  rw[if_pos h']at e
  exact⟨.str (strOf cs),H,I,⟨t,rfl⟩,by rw[<-e]at q;exact q⟩
 ·rename_i h
  have h':¬ ((1:Int)==1 && (Builtin.Str.strSliceIndices lo hi 1 (strOf cs).length).length==(strOf cs).length)=true:=h
  rw[if_neg h']at e
  have e':({ cps:=((Builtin.Str.strSliceIndices lo hi ((Option.map (·.1) (none:Option (Int×Tok))).getD 1) (strOf cs).length).filterMap fun x=>(strOf cs).cps[x]?).toArray }:Str)=strOf (cut cs lo hi):=e
  rw[e']
  refine⟨?_,.str (strOf (cut cs lo hi)),H,I.tok _,⟨_,rfl⟩,q⟩
  have:(strOf (cut cs lo hi)).length=(cut cs lo hi).length:=by simp[Str.length,strOf]
  rw[this]
  refine Nat.le_trans ?_ hz
  unfold cut
  rw[List.length_take,List.length_drop]
  omega
theorem sl_V:SlR X (rMS X slV):=by
 refine SlR.weak (SlR.or sl_list (SlR.or sl_tup (SlR.or sl_tupW sl_str))) ?_
 rintro x lo hi H Q ⟨μ,st,dx,hs,hx,hp⟩
 cases dx with
 | loc n =>
  rw[RepV.loc_iff]at hx
  obtain⟨p,h1,rfl⟩:=hx
  simp only[slV]at hp
  cases e:itemsAt st n with
  | none=>rw[e]at hp;exact hp.elim
  | some ds =>
   rw[e]at hp
   obtain⟨p',xs,h3,h4,h5⟩:=hs.items e
   rw[h1]at h3;cases h3
   exact .inl ⟨p,xs,rfl,h4,fun q hq=>hp.newList hs (h5.cut lo hi) hq⟩
 | tup ds =>
  rw[RepV.tup_iff]at hx
  obtain⟨p,xs,rfl,h1,h2⟩:=hx
  by_cases hw:HT.sIx xs.length 0 lo=0/\HT.sIx xs.length xs.length hi=xs.length
  ·refine .inr (.inr (.inl ⟨p,xs,rfl,h1.sqT,hw,hp.ret hs ?_⟩))
   rw[<-h2.length]at hw
   rw[cut_whole hw];exact RepV.tup_iff.mpr ⟨p,xs,rfl,h1,h2⟩
  ·exact .inr (.inl ⟨p,xs,rfl,h1.sqT,hw,fun q hq=>hp _ _ μ (Grow.lay hq) (hs.lay hq) (RepV.tup_iff.mpr ⟨q,_,rfl,.inl zah,(h2.cut lo hi).mono (Grow.lay hq) _⟩)⟩)
 | str cs =>
  rw[RepV.str_iff]at hx;subst hx
  simp only[slV]at hp
  split at hp
  ·rename_i hl
   exact .inr (.inr (.inr ⟨cs,rfl,zf3 hl,hp.ret hs (RepV.str_iff.mpr rfl)⟩))
  ·exact hp.elim
 | _=>exact hp.elim
noncomputable def noP:MP:=fun _ st=>.ok none st
noncomputable def inP (m:ME):MP:=fun env st=>(m env st).bind fun x st1=>match x with | .int i=>.ok (some i) st1 | _=>.bad
theorem zdf:JP X none noP:=by
 refine JP.of po_none fun σ H Q zz=>?_
 obtain⟨μ,env,st,hE,hs,hp⟩:=zz
 exact hp.ret hs rfl
theorem zcz {m:ME}(h:JE X e m):JP X (some e) (inP m):=by
 refine JP.of (po_some h) fun σ H Q zz=>?_
 obtain⟨μ,env,st,hE,hs,hp⟩:=zz
 refine⟨μ,env,st,hE,hs,hp.bind.imp ?_⟩
 rintro x H1 ⟨μ1,st1,d,g1,hs1,hx,hp1⟩
 cases d with
 | int i=>exact⟨i,RepV.int_iff.mp hx,hp1.ret hs1 rfl⟩
 | _=>exact hp1.elim
noncomputable def slE (a:ME)(l h:MP):ME:=fun env st=>(a env st).bind fun x st1=>(l env st1).bind fun lo st2=>(h env st2).bind fun hi st3=>slV x lo hi st3
theorem zcf {lo hi:Option Expr}{ml mh:MP}(he:JE X e ma)(hl:JP X lo ml)(hu:JP X hi mh):JE X (.Subscript e (.Slice lo hi none p2) pos) (slE ma ml mh):=by
 refine JE.of (pe_slice sl_V he hl hu) fun σ H Q zz=>?_
 obtain⟨μ,env,st,hE,hs,hp⟩:=zz
 refine⟨μ,env,st,hE,hs,hp.bind.imp ?_⟩
 rintro x H1 ⟨μ1,st1,d,g1,hs1,hx,hp1⟩
 refine⟨μ1,env,st1,hE.mono g1,hs1,hp1.bind.imp ?_⟩
 rintro l H2 ⟨μ2,st2,l',g2,hs2,rfl,hp2⟩
 refine⟨μ2,env,st2,(hE.mono g1).mono g2,hs2,hp2.bind.imp ?_⟩
 rintro u H3 ⟨μ3,st3,u',g3,hs3,rfl,hp3⟩
 exact⟨μ3,st3,d,hs3,hx.mono (g2.trans g3) _,hp3⟩
noncomputable def callE (g:List D->Stor->R D)(mA:MA):ME:=fun env st=>(mA env st).bind fun ds st1=>g ds st1
theorem zj5 {g:List D->Stor->R D}{σ:L2.St}{H:Hp}{Q:VK}(h:tM X (callE g mA) σ H Q):tMA X mA σ H fun vs H1=>rMC X g vs H1 Q:=by
 obtain⟨μ,env,st,hE,hs,hp⟩:=h
 refine⟨μ,env,st,hE,hs,hp.bind.imp ?_⟩
 rintro xs H1 ⟨μ1,st1,ds,g1,hs1,hx,hp1⟩
 exact⟨μ1,st1,ds,hs1,hx,hp1⟩
theorem zaq {x:Str}{p:Pos}{id:String}{g:List D->Stor->R D}(hc:CallR X (.builtin id) (rMC X g))(hg:Gl X x)(hm:X.mg x=none)(hv:bootBuiltins x=some (.builtin id))(ha:JA X (e::es) mA)(hn:x ≠ "__name__":=by decide)(hdb:(x==("__debug__":Str))=false:=by decide)
  (he:starEach (e::es) X.env=(false,eval e X.env)::starEach es X.env:=by rfl) (hpl:(backTo pos (starEach es X.env)).any (·.1)=false:=by rfl):JE X (.Call (.Name x p) (e::es) [] pos) (callE g mA) :=
 JE.of (zie hc hg hm hv ha hn hdb he hpl) fun σ H Q h=>zj5 h
theorem ze5 {x:Str}{p:Pos}{T:String}{g:List D->Stor->R D}(hc:CallR X (.type T) (rMC X g))(hg:Gl X x)(hm:X.mg x=none)(hv:bootBuiltins x=some (.type T))(ha:JA X (e::es) mA)(hn:x ≠ "__name__":=by decide)(hdb:(x==("__debug__":Str))=false:=by decide)
  (he:starEach (e::es) X.env=(false,eval e X.env)::starEach es X.env:=by rfl) (hpl:(backTo pos (starEach es X.env)).any (·.1)=false:=by rfl):JE X (.Call (.Name x p) (e::es) [] pos) (callE g mA) :=
 JE.of (pe_callTy hc hg hm hv ha hn hdb he hpl) fun σ H Q h=>zj5 h
end
end M
namespace M
open PySem PySem.Spec L2
inductive Out where
 | nx (env:MEnv) | rt (d:D) | bk (env:MEnv) | cn (env:MEnv)
noncomputable abbrev MS:=MEnv->Stor->R Out
noncomputable def PostS (X:Cx)(μ:List Addr)(H:Hp)(E:Ends)(r:R Out):Prop:=match r with
 | .ok (.nx env) st=>∀(σ':L2.St) (H':Hp) (μ':List Addr),Grow μ H μ' H'->RepS X.K μ' H' st->RepE X.K μ' H' env σ'->E.nx σ' H'
 | .ok (.rt d) st=>∀(v:V) (H':Hp) (μ':List Addr),Grow μ H μ' H'->RepS X.K μ' H' st->RepV X.K μ' H' d v->E.rt v H'
 | .ok (.bk env) st=>∀(σ':L2.St) (H':Hp) (μ':List Addr),Grow μ H μ' H'->RepS X.K μ' H' st->RepE X.K μ' H' env σ'->E.bk σ' H'
 | .ok (.cn env) st=>∀(σ':L2.St) (H':Hp) (μ':List Addr),Grow μ H μ' H'->RepS X.K μ' H' st->RepE X.K μ' H' env σ'->E.ct σ' H'
 | .err x st=>ErrOK X μ H x st
 | .bad=>False
noncomputable def tMS (X:Cx)(m:MS):TS:=fun E σ H=>∃μ env st,RepE X.K μ H env σ/\RepS X.K μ H st/\PostS X μ H E (m env st)
noncomputable def JS (X:Cx)(s:Stmt)(m:MS):Prop:=PS X s (tMS X m)
noncomputable def JSs (X:Cx)(s:List Stmt)(m:MS):Prop:=PSs X s (tMS X m)
section
variable {X:Cx}{e a b c:Expr}{es:List Expr}{t:TE}{ma mb mc:ME}{mA:MA}{pos p2:Pos}{s:Stmt}{ss:List Stmt}{m m1 m2:MS}{μ μ1:List Addr}{H H1:Hp}{E E':Ends}{r:R Out}
theorem PostS.mono (g:Grow μ H μ1 H1)(h:PostS X μ H E r):PostS X μ1 H1 E r:=by
 match r,h with
 | .ok (.nx _) _,h=>exact fun σ' H' μ' g'=>h σ' H' μ' (g.trans g')
 | .ok (.rt _) _,h=>exact fun σ' H' μ' g'=>h σ' H' μ' (g.trans g')
 | .ok (.bk _) _,h=>exact fun σ' H' μ' g'=>h σ' H' μ' (g.trans g')
 | .ok (.cn _) _,h=>exact fun σ' H' μ' g'=>h σ' H' μ' (g.trans g')
 | .err _ _,h=>exact ErrOK.mono g h
 | .bad,h=>exact h
theorem JS.of {t:TS}(h:PS X s t)(k:∀E σ H,tMS X m E σ H->t E σ H):JS X s m:=fun pins s σ H D I q=>h pins s σ H D I (k D σ H q)
theorem JSs.of {t:TS}(h:PSs X ss t)(k:∀E σ H,tMS X m E σ H->t E σ H):JSs X ss m:=fun pins s σ H D I q=>h pins s σ H D I (k D σ H q)
theorem PostS.nx {env:MEnv}{st:Stor}{σ:L2.St}(h:PostS X μ H E (.ok (.nx env) st))(hs:RepS X.K μ H st)(hE:RepE X.K μ H env σ):E.nx σ H:=h σ H μ (.refl _ _) hs hE
noncomputable def skipS:MS:=fun env st=>.ok (.nx env) st
noncomputable def seqS (a b:MS):MS:=fun env st=>(a env st).bind fun o st1=>match o with | .nx env1=>b env1 st1 | o=>.ok o st1
noncomputable def retS (m:ME):MS:=fun env st=>(m env st).bind fun d st1=>.ok (.rt d) st1
noncomputable def exprS (m:ME):MS:=fun env st=>(m env st).bind fun _ st1=>.ok (.nx env) st1
noncomputable def ifS (c:MT)(a b:MS):MS:=fun env st=>(c env st).bind fun x st1=>if x then a env st1 else b env st1
theorem zdi:JSs X [] skipS:=by
 refine JSs.of pss_nil fun E σ H zz=>?_
 obtain⟨μ,env,st,hE,hs,hp⟩:=zz
 exact hp.nx hs hE
theorem zan (h:JS X s m):JSs X [s] m:=zkz h
theorem PostS.seq (h:PostS X μ H E (r.bind fun o st1=>match o with | .nx env1=>m2 env1 st1 | o=>.ok o st1)):PostS X μ H { E with nx:=tMS X m2 E } r:=by
 match r,h with
 | .ok (.nx env1) st1,h=>exact fun σ' H' μ' g hs hE=>⟨μ',env1,st1,hE,hs,PostS.mono g h⟩
 | .ok (.rt _) _,h=>exact h
 | .ok (.bk _) _,h=>exact h
 | .ok (.cn _) _,h=>exact h
 | .err _ _,h=>exact h
 | .bad,h=>exact h
theorem zad (h1:JS X s m1)(h2:JSs X ss m2):JSs X (s::ss) (seqS m1 m2):=by
 refine JSs.of (zls h1 h2) fun E σ H zz=>?_
 obtain⟨μ,env,st,hE,hs,hp⟩:=zz
 exact⟨μ,env,st,hE,hs,PostS.seq hp⟩
theorem PostS.val {α β:Type}{rel:Rel α β}{r:R α}{f:α->Stor->R Out}(h:PostS X μ H E (r.bind f)):Post X μ H rel (fun b H1=>∃μ1 st1 a,Grow μ H μ1 H1/\RepS X.K μ1 H1 st1/\rel μ1 H1 a b/\PostS X μ1 H1 E (f a st1)) r:=by
 cases r with
 | ok a st=>exact fun b H' μ' g h1 h2=>⟨μ',st,a,g,h1,h2,PostS.mono g h⟩
 | err x st=>exact h
 | bad=>exact h
theorem zbk (h:JE X e ma):JS X (.Return (some e) pos) (retS ma):=by
 refine JS.of (ps_ret h) fun E σ H zz=>?_
 obtain⟨μ,env,st,hE,hs,hp⟩:=zz
 refine⟨μ,env,st,hE,hs,hp.val.imp ?_⟩
 rintro v H1 ⟨μ1,st1,d,g1,hs1,hv,hp1⟩
 exact hp1 v H1 μ1 (.refl _ _) hs1 hv
theorem zep (h:JE X e ma)(hs:swapsWith e none pos.line X.env=pure false:=by rfl):JS X (.Expr e pos) (exprS ma):=by
 refine JS.of (ps_expr h hs) fun E σ H zz=>?_
 obtain⟨μ,env,st,hE,hs,hp⟩:=zz
 refine⟨μ,env,st,hE,hs,hp.val.imp ?_⟩
 rintro v H1 ⟨μ1,st1,d,g1,hs1,hv,hp1⟩
 exact hp1.nx hs1 (hE.mono g1)
theorem js_if {sa sb:List Stmt}{tc:MT}(hc:JT X c tc)(ha:JSs X sa m1)(hb:JSs X sb m2):JS X (.If c sa sb pos) (ifS tc m1 m2):=by
 refine JS.of (ps_if hc ha hb) fun E σ H zz=>?_
 obtain⟨μ,env,st,hE,hs,hp⟩:=zz
 refine⟨μ,env,st,hE,hs,hp.val.imp ?_⟩
 rintro v H1 ⟨μ1,st1,d,g1,hs1,rfl,hp1⟩
 cases d with
 | true=>exact iteT ⟨μ1,env,st1,hE.mono g1,hs1,hp1⟩
 | false=>exact iteF ⟨μ1,env,st1,hE.mono g1,hs1,hp1⟩
noncomputable abbrev MG:=D->MEnv->Stor->R MEnv
noncomputable abbrev MGs:=List D->MEnv->Stor->R MEnv
noncomputable abbrev relE (X:Cx):Rel MEnv L2.St:=fun μ H env σ=>RepE X.K μ H env σ
noncomputable def tMG (X:Cx)(m:MG):TG:=fun v σ H Q=>∃μ env st d,RepE X.K μ H env σ/\RepS X.K μ H st/\RepV X.K μ H d v/\Post X μ H (relE X) Q (m d env st)
noncomputable def tMGs (X:Cx)(m:MGs):TGs:=fun vs σ H Q=>∃μ env st ds,RepE X.K μ H env σ/\RepS X.K μ H st/\RepVs X.K μ H ds vs/\Post X μ H (relE X) Q (m ds env st)
noncomputable def JG (X:Cx)(t:Expr)(m:MG):Prop:=PG X t (tMG X m)
noncomputable def JGs (X:Cx)(ts:List Expr)(m:MGs):Prop:=PGs X ts (tMGs X m)
theorem JG.of {g:TG}{m:MG}(h:PG X e g)(k:∀v σ H Q,tMG X m v σ H Q->g v σ H Q):JG X e m:=fun pins s σ H v u Q I r q=>h pins s σ H v u Q I r (k v σ H Q q)
theorem JGs.of {g:TGs}{m:MGs}(h:PGs X es g)(k:∀v σ H Q,tMGs X m v σ H Q->g v σ H Q):JGs X es m:=fun pins s σ H v u Q I r q=>h pins s σ H v u Q I r (k v σ H Q q)
noncomputable def nameG (i:Nat):MG:=fun d env st=>.ok (env.set i (some d)) st
theorem zb2 (i:Nat){x:Str}(hN:X.N.Nodup)(hi:X.N[i]? = some x:=by rfl)(hx:Loc X.env.scope x:=by first | exact Or.inl rfl | exact Or.inr rfl)(hf:X.fn x=true\/X.env.scope.names.lookup x=some .local:=by first | exact .inl rfl | exact .inr rfl | assumption):JG X (.Name x pos) (nameG i):=by
 refine JG.of (pg_name hN hi hx hf) fun v σ H Q zz=>?_
 obtain⟨μ,env,st,d,hE,hs,hv,hp⟩:=zz
 exact hp.ret hs (hE.set hv)
noncomputable def nilG:MGs:=fun ds env st=>match ds with | []=>.ok env st | _=>.bad
noncomputable def consG (g:MG)(r:MGs):MGs:=fun ds env st=>match ds with | d::ds=>(g d env st).bind fun env1 st1=>r ds env1 st1 | _=>.bad
theorem jgs_nil:JGs X [] nilG:=JGs.of pgs_nil fun vs σ H Q zz=>by
 obtain⟨μ,env,st,ds,hE,hs,hv,hp⟩:=zz
 cases ds with
 | nil=>rw[RepVs]at hv;exact⟨hv,hp.ret hs hE⟩
 | cons _ _=>exact hp.elim
theorem zkk {g:MG}{gs:MGs}(h1:JG X e g)(h2:JGs X es gs)(hs:(assignEach (e::es) X.env).map (·.2)=assign e X.env::(assignEach es X.env).map (·.2):=by rfl):JGs X (e::es) (consG g gs) :=
 JGs.of (pgs_cons h1 h2 hs) fun vs σ H Q zz=>by
 obtain⟨μ,env,st,ds,hE,hs,hv,hp⟩:=zz
 cases ds with
 | nil=>exact hp.elim
 | cons d ds =>
  rw[RepVs]at hv
  obtain⟨v,r,rfl,h3,h4⟩:=hv
  refine⟨v,r,rfl,μ,env,st,d,hE,hs,h3,(Post.bind hp).imp ?_⟩
  rintro σ1 H1 ⟨μ1,st1,env1,g1,hs1,hE1,hp1⟩
  exact⟨μ1,env1,st1,ds,hE1,hs1,h4.mono g1 _,hp1⟩
noncomputable def tupG (n:Nat)(g:MGs):MG:=fun d env st=>match d with | .tup ds=>if ds.length=n then g ds env st else .bad | _=>.bad
theorem jg_tup {gs:MGs}{k:Nat}(n:Nat)(hc:X.calm=true)(h:JGs X es gs)(hn:(assignEach es X.env).length=n:=by rfl)(hst:(assignEach es X.env).findIdx? (·.1)=none:=by rfl):JG X (.Tuple es k pos) (tupG n gs) :=
 JG.of (pg_tup hc h hn hst) fun v σ H Q zz=>by
 obtain⟨μ,env,st,d,hE,hs,hv,hp⟩:=zz
 cases d with
 | tup ds =>
  rw[RepV.tup_iff]at hv
  obtain⟨p,xs,rfl,h1,h2⟩:=hv
  simp only[tupG]at hp
  split at hp
  ·rename_i hl
   exact⟨p,xs,rfl,h1.sqT,by rw[<-h2.length];exact hl,μ,env,st,ds,hE,hs,h2,hp⟩
  ·exact hp.elim
 | _=>exact hp.elim
noncomputable abbrev relU:Rel Unit Unit:=fun _ _ _ _=>True
noncomputable def rMSet (X:Cx)(g:D->D->D->Stor->R Unit):TSet:=fun o i v H Q=>∃μ st d1 d2 d3,RepS X.K μ H st/\RepV X.K μ H d1 o/\RepV X.K μ H d2 i/\RepV X.K μ H d3 v/\Post X μ H relU (fun _=>Q) (g d1 d2 d3 st)
theorem putLst {st:Stor}{n:Nat}{ds ds':List D}{p:Addr}{xs ys:List V}(hs:RepS X.K μ H st)(e:st[n]? = some (.lst ds))(hp:μ[n]? = some p)(hx:H p=some (.lst xs))(hy:RepVs X.K μ H ds' ys) :
  Grow μ H μ (upd H p (.lst ys))/\RepS X.K μ (upd H p (.lst ys)) (st.set n (.lst ds')):=by
 have g:Ext H (upd H p (.lst ys)):=Ext.mut hx (fun _ z=>nomatch z) (fun _ _ z=>nomatch z)
 have g':Grow μ H μ (upd H p (.lst ys)):=⟨⟨[],by simp⟩,g⟩
 exact⟨g',hs.put e rfl rfl hp g ⟨ys,zah,hy.mono g' _⟩⟩
noncomputable def subG (g:D->D->D->Stor->R Unit)(o i:ME):MG:=fun d env st=>(o env st).bind fun x st1=>(i env st1).bind fun y st2=>(g x y d st2).bind fun _ st3=>.ok env st3
theorem zku {o i:Expr}{mo mi:ME}{g:D->D->D->Stor->R Unit}(hset:PSet X (rMSet X g))(ho:JE X o mo)(hi:JE X i mi)
  (ha:∀v,assign (.Subscript o i pos) X.env v=(do
   let ov <-holding [v] (eval o X.env)
   let iv <-holding [v,ov] (eval i X.env)
   standAt pos
   holding [v,ov,iv] (setItem ov iv v)
   release [v,ov,iv] []):=by intro _;rfl):JG X (.Subscript o i pos) (subG g mo mi):=by
 refine JG.of (pg_sub ho hi hset ha) fun v σ H Q zz=>?_
 obtain⟨μ,env,st,d,hE,hs,hv,hp⟩:=zz
 refine⟨μ,env,st,hE,hs,(Post.bind hp).imp ?_⟩
 rintro x H1 ⟨μ1,st1,dx,g1,hs1,hx,hp1⟩
 refine⟨μ1,env,st1,hE.mono g1,hs1,(Post.bind hp1).imp ?_⟩
 rintro y H2 ⟨μ2,st2,dy,g2,hs2,hy,hp2⟩
 refine⟨μ2,st2,dx,dy,d,hs2,hx.mono g2 _,hy,(hv.mono g1 _).mono g2 _,(Post.bind hp2).imp ?_⟩
 rintro _ H3 ⟨μ3,st3,_,g3,hs3,_,hp3⟩
 exact hp3.ret hs3 (((hE.mono g1).mono g2).mono g3)
noncomputable def asgS (m:ME)(g:MG):MS:=fun env st=>(m env st).bind fun d st1=>(g d env st1).bind fun env1 st2=>.ok (.nx env1) st2
theorem zl1 {tg:Expr}{g:MG}(he:JE X e ma)(hg:JG X tg g)(hs:swapsWithSole [tg] e pos.line X.env=pure false:=by rfl)(hw:swappedStores [tg] e X.env=pure none:=by rfl)(h1:(assignEach [tg] X.env).map (·.2)=[assign tg X.env]:=by rfl):JS X (.Assign [tg] e pos) (asgS ma g):=by
 refine JS.of (ps_asg he hg hs hw h1) fun E σ H zz=>?_
 obtain⟨μ,env,st,hE,hs,hp⟩:=zz
 refine⟨μ,env,st,hE,hs,hp.val.imp ?_⟩
 rintro x H1 ⟨μ1,st1,d,g1,hs1,hx,hp1⟩
 refine⟨μ1,env,st1,d,hE.mono g1,hs1,hx,hp1.val.imp ?_⟩
 rintro σ2 H2 ⟨μ2,st2,env2,g2,hs2,hE2,hp2⟩
 exact hp2.nx hs2 hE2
noncomputable def setS (i:Nat)(m:ME):MS:=asgS m (nameG i)
theorem zas (i:Nat){x:Str}{pos':Pos}(he:JE X e ma)(hN:X.N.Nodup)(hi:X.N[i]? = some x:=by rfl)(hx:Loc X.env.scope x:=by first | exact Or.inl rfl | exact Or.inr rfl)(hs:swapsWith e (some (.Name x pos')) pos.line X.env=pure false:=by rfl)
  (hf:X.fn x=true\/X.env.scope.names.lookup x=some .local:=by first | exact .inl rfl | exact .inr rfl | assumption):JS X (.Assign [.Name x pos'] e pos) (setS i ma):=by
 refine JS.of (ps_set hN hi hx he hs hf) fun E σ H zz=>?_
 obtain⟨μ,env,st,hE,hs,hp⟩:=zz
 refine⟨μ,env,st,hE,hs,hp.val.imp ?_⟩
 rintro x H1 ⟨μ1,st1,d,g1,hs1,hx,hp1⟩
 exact hp1.nx hs1 ((hE.mono g1).set hx)
end
end M
namespace M
open PySem PySem.Spec L2
section
variable {X:Cx}{e a b c:Expr}{es:List Expr}{t:TE}{ma mb mc:ME}{mA:MA}{pos p2:Pos}{s:Stmt}{ss body:List Stmt}{m m1 m2 mb:MS}{μ μ1:List Addr}{H H1:Hp}{E E':Ends}{r:R Out}{tc:MT}
theorem PostS.loop {nxt:MEnv->Stor->R Out}{N:L2.St->Hp->Prop}
  (h:PostS X μ H E (r.bind fun o st2=>(match o with
   | .nx env2=>nxt env2 st2
   | .cn env2=>nxt env2 st2
   | .bk env2=>.ok (.nx env2) st2
   | .rt d=>.ok (.rt d) st2)))
  (hN:∀env2 st2 σ' H' μ',Grow μ H μ' H'->RepS X.K μ' H' st2->RepE X.K μ' H' env2 σ'->PostS X μ' H' E (nxt env2 st2)->N σ' H') :
  PostS X μ H { E with nx:=N,ct:=N,bk:=E.nx } r:=by
 match r,h with
 | .ok (.nx env1) st1,h=>exact fun σ' H' μ' g hs hE=>hN env1 st1 σ' H' μ' g hs hE (PostS.mono g h)
 | .ok (.cn env1) st1,h=>exact fun σ' H' μ' g hs hE=>hN env1 st1 σ' H' μ' g hs hE (PostS.mono g h)
 | .ok (.rt _) _,h=>exact h
 | .ok (.bk _) _,h=>exact h
 | .err _ _,h=>exact h
 | .bad,h=>exact h
noncomputable abbrev Src:=List D×List (Nat×MO)
noncomputable abbrev MI:=MEnv->Stor->R Src
noncomputable def okG (gs:List (Nat×MO))(st:Stor):Prop:=∀g∈gs,st[g.1]? = some g.2
@[simp] theorem okG_nil (st:Stor):okG [] st:=fun _ h=>nomatch h
@[simp] theorem okG_cons (g:Nat×MO) (gs:List (Nat×MO)) (st:Stor):okG (g::gs) st↔st[g.1]? = some g.2/\okG gs st:=by simp[okG]
noncomputable def ItRep (X:Cx)(μ:List Addr)(H:Hp)(J:It)(s:Src):Prop:=∀(H':Hp) (μ':List Addr) (st':Stor),Grow μ H μ' H'->RepS X.K μ' H' st'->okG s.2 st' ->
 (∀(i:Nat) (d:D),s.1[i]? = some d->J.go i H'/\∀x H'',J.yld i H' x H''->Grow μ' H' μ' H''/\RepS X.K μ' H'' st'/\RepV X.K μ' H'' d x)/\J.stop s.1.length H'
noncomputable abbrev relI (X:Cx):Rel Src It:=fun μ H s J=>ItRep X μ H J s
noncomputable def tMI (X:Cx)(m:MI):TI:=fun σ H Q=>∃μ env st,RepE X.K μ H env σ/\RepS X.K μ H st/\Post X μ H (relI X) (fun J H'=>Q J H') (m env st)
noncomputable def JI (X:Cx)(tg iter:Expr)(m:MI):Prop:=PI X tg iter (tMI X m)
theorem JI.of {tg iter:Expr}{wi:TI}{m:MI}(h:PI X tg iter wi)(k:∀σ H Q,tMI X m σ H Q->wi σ H Q):JI X tg iter m:=fun pins s σ H R I q=>h pins s σ H R I (k σ H R q)
open Classical in
noncomputable def forGo (g:MG)(b:MS)(gs:List (Nat×MO)):List D->MS
 | [],env,st=>if okG gs st then .ok (.nx env) st else .bad
 | d::r,env,st=>if okG gs st then (g d env st).bind fun env1 st1=>(b env1 st1).bind fun o st2=>(match o with
   | .nx env2=>forGo g b gs r env2 st2
   | .cn env2=>forGo g b gs r env2 st2
   | .bk env2=>.ok (.nx env2) st2
   | .rt d=>.ok (.rt d) st2) else .bad
noncomputable def forS (mi:MI)(g:MG)(b:MS):MS:=fun env st=>(mi env st).bind fun s st1=>forGo g b s.2 s.1 env st1
theorem zdy {tg iter:Expr}{mi:MI}{g:MG}(hi:JI X tg iter mi)(hg:JG X tg g)(hb:JSs X body mb)(hp:PassesOwn (model X.prog X.w) X.A X.env X.xe)(hc:X.calm=true)
  (hs:∀x,foldedSetIterable iter X.env x=pure x:=by intro _;rfl):JS X (.For tg iter body [] pos) (forS mi g mb):=by
 refine JS.of (ps_for hp hc hi hg hb hs) fun E σ H zz=>?_
 obtain⟨μ,env,st,hE,hs,hp⟩:=zz
 refine⟨μ,env,st,hE,hs,(PostS.val hp).imp ?_⟩
 rintro J H1 ⟨μ1,st1,s,g1,hs1,hJ,hp1⟩
 refine⟨fun i k σ H=>∃μ2 env2 st2,Grow μ1 H1 μ2 H/\RepE X.K μ2 H env2 σ/\RepS X.K μ2 H st2/\PostS X μ2 H E (forGo g mb s.2 (s.1.drop i) env2 st2)/\i<=s.1.length/\k=s.1.length - i,
  ⟨_,μ1,env,st1,.refl _ _,hE.mono g1,hs1,by simpa using hp1,Nat.zero_le _,rfl⟩,?_⟩
 rintro i k σ2 H2 ⟨μ2,env2,st2,g2,hE2,hs2,hp2,hi,rfl⟩
 by_cases hlt:i<s.1.length
 ·have e1:s.1.drop i=s.1[i]::s.1.drop (i+1):=List.drop_eq_getElem_cons hlt
  rw[e1,forGo]at hp2
  by_cases ok:okG s.2 st2
  ·rw[if_pos ok]at hp2
   obtain⟨q1,q2⟩:=(hJ H2 μ2 st2 g2 hs2 ok).1 i s.1[i] (List.getElem?_eq_getElem hlt)
   refine .inr ⟨q1,fun σ' H'=>∃μ3 env3 st3,Grow μ1 H1 μ3 H'/\RepE X.K μ3 H' env3 σ'/\RepS X.K μ3 H' st3/\PostS X μ3 H' E (forGo g mb s.2 (s.1.drop (i+1)) env3 st3),?_,?_⟩
   ·rintro σ' H' ⟨μ3,env3,st3,g3,hE3,hs3,hp3⟩
    exact⟨s.1.length - (i+1),by omega,μ3,env3,st3,g3,hE3,hs3,hp3,by omega,rfl⟩
   ·intro x H3 hx
    obtain⟨g3,hs3,hd⟩:=q2 x H3 hx
    refine⟨μ2,env2,st2,s.1[i],hE2.mono g3,hs3,hd,(PostS.val (PostS.mono g3 hp2)).imp ?_⟩
    rintro σ4 H4 ⟨μ4,st4,env4,g4,hs4,hE4,hp4⟩
    refine⟨μ4,env4,st4,hE4,hs4,?_⟩
    exact PostS.loop (nxt:=forGo g mb s.2 (s.1.drop (i+1))) hp4 fun env5 st5 σ' H' μ' g5 hs5 hE5 q=>⟨μ',env5,st5,((g2.trans g3).trans g4).trans g5,hE5,hs5,q⟩
  ·rw[if_neg ok]at hp2;exact hp2.elim
 ·have e1:s.1.drop i=[]:=List.drop_eq_nil_of_le (by omega)
  rw[e1,forGo]at hp2
  have e2:i=s.1.length:=by omega
  by_cases ok:okG s.2 st2
  ·rw[if_pos ok]at hp2
   refine .inl ⟨by rw[e2];exact (hJ H2 μ2 st2 g2 hs2 ok).2,hp2.nx hs2 hE2⟩
  ·rw[if_neg ok]at hp2;exact hp2.elim
noncomputable def seqI (m:ME):MI:=fun env st=>(m env st).bind fun d st1=>match d with
 | .loc n=>(match st1[n]? with
  | some (.lst ds)=>.ok (ds,[(n,.lst ds)]) st1
  | some (.frz ds)=>.ok (ds,[(n,.frz ds)]) st1
  | _=>.bad)
 | .tup ds=>.ok (ds,[]) st1
 | _=>.bad
theorem PI.or {tg l:Expr}{w1 w2:TI}(h1:PI X tg l w1)(h2:PI X tg l w2):PI X tg l (fun σ H R=>w1 σ H R\/w2 σ H R):=fun pins s σ H R I h=>h.elim (h1 pins s σ H R I) (h2 pins s σ H R I)
theorem itl_rep {n:Nat}{ds:List D}{p:Addr}{o:MO}{st:Stor}(ho:o=.lst ds\/o=.frz ds)(hp:μ[n]? = some p):ItRep X μ H (Itl X.K p) (ds,[(n,o)]):=by
 intro H' μ' st' g hs ok
 have e:st'[n]? = some o:=(ok (n,o) (by simp))
 have e2:itemsAt st' n=some ds:=by
  unfold itemsAt
  rcases ho with rfl | rfl<;>rw[e]
 obtain⟨p',xs,q1,q2,q3⟩:=hs.items e2
 rw[g.get hp]at q1;cases q1
 refine⟨fun i d hd=>?_,xs,q2,Nat.le_of_eq q3.length.symm⟩
 obtain⟨v,h1,h2⟩:=q3.get hd
 refine⟨⟨xs,v,q2,h1⟩,?_⟩
 rintro x H'' ⟨rfl,hx⟩
 have:=hx xs q2
 rw[h1]at this;cases this
 exact⟨.refl _ _,hs,h2⟩
theorem itt_rep {ds:List D}{p:Addr}{xs:List V}(hq:SqT X.K H p xs)(hd:RepVs X.K μ H ds xs):ItRep X μ H (Itt X.K p) (ds,[]):=by
 intro H' μ' st' g hs ok
 have hq':=g.ext.sqT hq
 have hd':=hd.mono g ds
 refine⟨fun i d e=>?_,xs,hq',Nat.le_of_eq hd.length.symm⟩
 obtain⟨v,h1,h2⟩:=hd'.get e
 refine⟨⟨xs,v,hq',h1⟩,?_⟩
 rintro x H'' ⟨rfl,hx⟩
 have:=hx xs hq'
 rw[h1]at this;cases this
 exact⟨.refl _ _,hs,h2⟩
theorem zjx {tg l:Expr}(h:JE X l ma):JI X tg l (seqI ma):=by
 refine JI.of (PI.or (pi_list h) (pi_tup h)) fun σ H R hh=>?_

 obtain⟨μ,env,st,hE,hs,hp⟩:=hh
 unfold seqI at hp
 cases hr:ma env st with
 | bad=>rw[hr]at hp;exact hp.elim
 | err x st1 =>
  rw[hr]at hp
  refine .inl ⟨μ,env,st,hE,hs,?_⟩
  rw[hr];exact hp
 | ok d st1 =>
  rw[hr,M.R.bind_ok]at hp
  cases d with
  | loc n =>
   simp only at hp
   refine .inl ⟨μ,env,st,hE,hs,?_⟩
   rw[hr]
   intro v H1 μ1 g1 hs1 hv
   obtain⟨p,q1,rfl⟩:=RepV.loc_iff.mp hv
   cases e:st1[n]? with
   | none=>rw[e]at hp;exact hp.elim
   | some mo =>
    cases mo with
    | lst ds =>
     rw[e]at hp
     obtain⟨p',xs,r1,r2,r3⟩:=hs1.lst e
     rw[q1]at r1;cases r1
     exact⟨p,rfl,⟨xs,SqL.of r2⟩,hp _ _ _ g1 hs1 (itl_rep (st:=st1) (.inl rfl) q1)⟩
    | frz ds =>
     rw[e]at hp
     obtain⟨p',r1,xs,r2,r3⟩:=hs1.at_ n _ e
     rw[q1]at r1;cases r1
     exact⟨p,rfl,⟨xs,r2.sqL⟩,hp _ _ _ g1 hs1 (itl_rep (st:=st1) (.inr rfl) q1)⟩
    | _=>rw[e]at hp;exact hp.elim
  | tup ds =>
   refine .inr ⟨μ,env,st,hE,hs,?_⟩
   rw[hr]
   intro v H1 μ1 g1 hs1 hv
   obtain⟨p,xs,rfl,q1,q2⟩:=RepV.tup_iff.mp hv
   exact⟨p,rfl,⟨xs,q1.sqT⟩,hp _ _ _ g1 hs1 (itt_rep q1.sqT q2)⟩
  | _=>exact hp.elim
noncomputable def upto (lo:Int)(n:Nat):List D:=(List.range n).map fun (k:Nat)=>.int (lo+k)
noncomputable def range1I (mA:MA):MI:=fun env st=>(mA env st).bind fun ds st1=>match ds with
 | [.int j]=>if -(2 ^ 62)<=j/\j<2 ^ 62 then .ok (upto 0 j.toNat,[]) st1 else .bad
 | _=>.bad
theorem itr_rep (lo:Int)(n:Nat):ItRep X μ H (Itr lo n) (upto lo n,[]):=by
 intro H' μ' st' g hs ok
 refine⟨fun i d e=>?_,by show n<=_;simp[upto]⟩
 have hi:i<n:=by have:=(List.getElem?_eq_some_iff.mp e).1;simpa[upto] using this
 simp[upto,hi]at e
 subst e
 refine⟨hi,?_⟩
 rintro x H'' ⟨rfl,rfl⟩
 exact⟨.refl _ _,hs,RepV.int_iff.mpr rfl⟩
theorem RepVs.one {K:PySem.W.Frag}{μ:List Addr}{H:Hp}{d:D}{vs:List V}(h:RepVs K μ H [d] vs):∃v,vs=[v]/\RepV K μ H d v:=by
 rw[RepVs]at h
 obtain⟨v,r,rfl,q1,q2⟩:=h
 rw[RepVs]at q2;subst q2
 exact⟨v,rfl,q1⟩
theorem zd3 {tg:Expr}{p:Pos}(ha:JA X [a] mA)(hg:Gl X "range")(hm:X.mg "range" = none)(hs:starEach [a] X.env=[(false,eval a X.env)]:=by rfl):JI X tg (.Call (.Name "range" p) [a] [] pos) (range1I mA):=by
 refine JI.of (pi_range1 hg hm ha hs) fun σ H R zz=>?_
 obtain⟨μ,env,st,hE,hs,hp⟩:=zz
 refine⟨μ,env,st,hE,hs,(Post.bind hp).imp ?_⟩
 rintro vs H1 ⟨μ1,st1,ds,g1,hs1,hv,hp1⟩
 dsimp only at hp1
 split at hp1
 ·split at hp1
  ·rename_i hc
   obtain⟨v,rfl,q1⟩:=RepVs.one hv
   rw[RepV.int_iff]at q1;subst q1
   exact⟨_,rfl,hc.1,hc.2,hp1 _ _ _ (.refl _ _) hs1 (itr_rep 0 _)⟩
  ·exact hp1.elim
 ·exact hp1.elim
end
noncomputable abbrev FD:=List D->Stor->R D
noncomputable def PostF (K:PySem.W.Frag)(μ:List Addr)(H:Hp)(Q:VK)(r:R D):Prop:=match r with
 | .ok d st=>∀(v:V) (H':Hp) (μ':List Addr),Grow μ H μ' H'->RepS K μ' H' st->RepV K μ' H' d v->Q v H'
 | _=>False
noncomputable def spM (K:PySem.W.Frag)(n:Nat)(fd:FD):Sp:=fun vs H Q _=>vs.length=n/\∃μ ds st,RepVs K μ H ds vs/\RepS K μ H st/\PostF K μ H Q (fd ds st)
noncomputable def startM (n:Nat)(ds:List D):MEnv:=ds.map some++List.replicate (n - ds.length) none
noncomputable def fnM (n:Nat)(m:MS):FD:=fun ds st=>(m (startM n ds) st).bind fun o st1=>match o with
 | .rt d=>.ok d st1
 | .nx _=>.ok .non st1
 | _=>.bad
theorem RepVs.start {K:PySem.W.Frag}{μ:List Addr}{H:Hp}{ds:List D}{vs:List V}(N:List Str)(h:RepVs K μ H ds vs):RepE K μ H (startM N.length ds) (L2.start N vs):=by
 unfold startM L2.start
 refine⟨by simp[h.length],fun i d e=>?_⟩
 rw[<-h.length]
 by_cases hi:i<ds.length
 ·rw[List.getElem?_append_left (by simpa using hi)]at e
  rw[List.getElem?_append_left (by rw[List.length_map,<-h.length];exact hi)]
  rw[List.getElem?_map]at e ⊢
  cases q:ds[i]? with
  | none=>rw[q]at e;cases e
  | some d' =>
   rw[q]at e;cases e
   obtain⟨v,q1,q2⟩:=h.get q
   exact⟨v,by rw[q1];rfl,q2⟩
 ·rw[List.getElem?_append_right (by simpa using hi)]at e
  rw[List.getElem?_replicate]at e
  split at e<;>cases e
section
variable {P:Program}{w:World}{K:PySem.W.Frag}{mg:Str->Option Value}{base:Heap}
theorem fn_ok {x qual:Str}{st:Stmt}{f:Addr}{fd:FuncData}{N ps:List Str}{k:Nat}{m:MS}(F:Fun K x qual st f fd)(S:FnScope N ps (defScope st))
  (hbody:∀(cdv:Value) (A:Around) (outer:List Env) (s:Shared) (H:Hp),Room k (A.deeper (PyProof.Rows.envOfC qual (defScope st) s.heap.objs.size f cdv)) ->
   JSs (cxOf CX0 P w K mg base N qual (defScope st) f cdv A outer s H E0).nox (defBody st) m):FnOk P w K mg base CX0 (k+1) f fd ps (spM K ps.length (fnM N.length m)):=by
 refine F.ok S (fun vs H Q E h=>h.1) (fun cdv A outer s H vs Q E hr h=>?_)
 obtain⟨hl,μ,ds,sto,hv,hs,hp⟩:=h
 refine⟨_,hbody cdv A outer s H hr,μ,startM N.length ds,sto,RepVs.start N hv,hs,?_⟩
 unfold fnM at hp
 cases hr:m (startM N.length ds) sto with
 | bad=>rw[hr]at hp;exact hp.elim
 | err x st1=>rw[hr]at hp;exact hp.elim
 | ok o st1 =>
  rw[hr]at hp
  cases o with
  | rt d=>exact hp
  | nx env=>exact fun σ' H' μ' g hs' _=>hp .non H' μ' g hs' (RepV.non_iff.mpr rfl)
  | bk env=>exact hp.elim
  | cn env=>exact hp.elim
end
section
variable {X:Cx}{e:Expr}{es:List Expr}{mA:MA}{pos p:Pos}{x:Str}{k:Nat}{f:Addr}{fd:FuncData}{ps:List Str}{F:FD}{dvs:List V}{ds:List Value}{dd:List D}
noncomputable def R.sure {α:Type}(r:R α):R α:=match r with
 | .ok a st=>.ok a st
 | _=>.bad
@[simp] theorem R.sure_ok {α:Type} (a:α) (st:Stor):(R.ok a st).sure=.ok a st:=zay rfl
noncomputable def callF (F:FD)(dd:List D)(mA:MA):ME:=fun env st=>(mA env st).bind fun as st1=>(F (as++dd) st1).sure
theorem zam (G:FnOk X.prog X.w X.K X.mg X.base CX0 k f fd ps (spM X.K ps.length F))(hr:Room k X.A)(hm:X.mg x=some (.ref f))(hk:PySem.W.keepIn X.K (.ref f)=true)(hb:Binds X.K fd ps ds)(hd:Vals dvs ds)
  (hdd:∀μ H,RepVs X.K μ H dd dvs) (ha:JA X (e::es) mA) (hlen:(e::es).length+dvs.length=ps.length:=by rfl) (hg:Gl X x:=by rfl) (hdb:(x==("__debug__":Str))=false:=by decide) (he:starEach (e::es) X.env=(false,eval e X.env)::starEach es X.env:=by rfl) (hpl:(backTo pos (starEach es X.env)).any (·.1)=false:=by rfl)
  (hA:∀env st as st1,mA env st=.ok as st1->as.length=(e::es).length:=by intros;rfl) :
  JE X (.Call (.Name x p) (e::es) [] pos) (callF F dd mA):=by
 refine JE.of (pe_call G hr hg hm hk hb hd pass0 ha hdb he hpl) fun σ H Q zz=>?_
 obtain⟨μ,env,st,hE,hs,hp⟩:=zz
 refine⟨μ,env,st,hE,hs,?_⟩
 cases hr:mA env st with
 | bad=>unfold callF at hp;rw[hr]at hp;exact hp
 | err y st1=>unfold callF at hp;rw[hr]at hp;exact hp
 | ok as st1 =>
  unfold callF at hp
  rw[hr]at hp
  intro vs H1 μ1 g1 hs1 hv
  have hv':RepVs X.K μ1 H1 (as++dd) (vs++dvs):=hv.append (hdd μ1 H1)
  refine⟨?_,μ1,as++dd,st1,hv',hs1,?_⟩
  ·rw[List.length_append,<-hv.length,hA env st as st1 hr];exact hlen
  ·have hp2:=Post.mono g1 (show Post X μ H (relV X) Q (F (as++dd) st1).sure from hp)
   cases hF:F (as++dd) st1 with
   | ok d st2=>rw[hF]at hp2;exact hp2
   | err y st2=>rw[hF]at hp2;exact hp2.elim
   | bad=>rw[hF]at hp2;exact hp2.elim
end
end M
namespace M
open PySem PySem.Spec L2
mutual
noncomputable def under (n:Nat):D->Prop
 | .loc k=>k<n
 | .tup ds=>unders n ds
 | _=>True
noncomputable def unders (n:Nat):List D->Prop
 | []=>True
 | d::ds=>under n d/\unders n ds
end
@[simp] theorem under_non (n:Nat):under n .non=True:=by simp[under]
@[simp] theorem under_bl (n:Nat) (b:Bool):under n (.bl b)=True:=by simp[under]
@[simp] theorem under_int (n:Nat) (i:Int):under n (.int i)=True:=by simp[under]
@[simp] theorem under_str (n:Nat) (c:List Nat):under n (.str c)=True:=by simp[under]
@[simp] theorem zg6 (n:Nat) (ds:List D):under n (.tup ds)=unders n ds:=by simp[under]
@[simp] theorem zgy (n k:Nat):under n (.loc k)=(k<n):=by simp[under]
@[simp] theorem unders_nil (n:Nat):unders n []=True:=by simp[unders]
@[simp] theorem zef (n:Nat) (d:D) (ds:List D):unders n (d::ds)=(under n d/\unders n ds):=by simp[unders]
theorem zcs (n:Nat)(ds:List D):unders n ds ↔ ∀d∈ds,under n d:=by
 induction ds with
 | nil=>simp
 | cons d ds ih=>simp[ih]
noncomputable def underO (n:Nat):MO->Prop
 | .lst ds=>unders n ds
 | .frz ds=>unders n ds
 | .dic kvs=>∀p∈kvs,under n p.2
 | .dkc kvs=>∀p∈kvs,under n p.2
 | .dkf kvs=>∀p∈kvs,under n p.2
 | .dtf kvs=>∀p∈kvs,under n p.2
 | .exc _ d=>under n d
 | .ins _ fs=>∀p∈fs,under n p.2
 | .tab _=>True
 | .clo _ _ ds=>unders n ds
 | .hid=>True
mutual
theorem RepV.under {K:PySem.W.Frag}{μ:List Addr}{H:Hp}:∀(d:D) {v:V},RepV K μ H d v->M.under μ.length d
 | .non,_,_=>by simp
 | .bl _,_,_=>by simp
 | .int _,_,_=>by simp
 | .str _,_,_=>by simp
 | .tup ds,_,h=>by
  obtain⟨a,xs,_,_,h2⟩:=RepV.tup_iff.mp h
  rw[zg6];exact RepVs.unders ds h2
 | .loc n,_,h=>by
  obtain⟨a,h1,_⟩:=RepV.loc_iff.mp h
  rw[zgy];exact (List.getElem?_eq_some_iff.mp h1).1
theorem RepVs.unders {K:PySem.W.Frag}{μ:List Addr}{H:Hp}:∀(ds:List D) {vs:List V},RepVs K μ H ds vs->M.unders μ.length ds
 | [],_,_=>by simp
 | d::ds,_,h=>by
  rw[RepVs]at h
  obtain⟨v,r,_,h1,h2⟩:=h
  rw[zef];exact⟨RepV.under d h1,RepVs.unders ds h2⟩
end
mutual
theorem RepV.down {K:PySem.W.Frag}{μ ν:List Addr}{H:Hp}:∀(d:D) {v:V},RepV K (μ++ν) H d v->M.under μ.length d->RepV K μ H d v
 | .non,_,h,_=>by simpa[RepV] using h
 | .bl _,_,h,_=>by simpa[RepV] using h
 | .int _,_,h,_=>by simpa[RepV] using h
 | .str _,_,h,_=>by simpa[RepV] using h
 | .tup ds,_,h,u=>by
  obtain⟨a,xs,e,h1,h2⟩:=RepV.tup_iff.mp h
  rw[zg6]at u
  exact RepV.tup_iff.mpr ⟨a,xs,e,h1,RepVs.down ds h2 u⟩
 | .loc n,_,h,u=>by
  obtain⟨a,h1,e⟩:=RepV.loc_iff.mp h
  rw[zgy]at u
  rw[List.getElem?_append_left u]at h1
  exact RepV.loc_iff.mpr ⟨a,h1,e⟩
theorem RepVs.down {K:PySem.W.Frag}{μ ν:List Addr}{H:Hp}:∀(ds:List D) {vs:List V},RepVs K (μ++ν) H ds vs->M.unders μ.length ds->RepVs K μ H ds vs
 | [],_,h,_=>by simpa[RepVs] using h
 | d::ds,_,h,u=>by
  rw[RepVs]at h ⊢
  obtain⟨v,r,e,h1,h2⟩:=h
  rw[zef]at u
  exact⟨v,r,e,RepV.down d h1 u.1,RepVs.down ds h2 u.2⟩
end
theorem RepKV.under {κ:Type}{K:PySem.W.Frag}{μ:List Addr}{H:Hp}:∀{ds:List (κ×D)} {vs:List (κ×V)},RepKV K μ H ds vs->∀p∈ds,M.under μ.length p.2
 | [],_,_,_,hp=>nomatch hp
 | (k,d)::ds,_,⟨v,r,e,h1,h2⟩,p,hp=>by
  rcases List.mem_cons.mp hp with rfl | hp
  ·exact RepV.under d h1
  ·exact RepKV.under h2 p hp
theorem RepKV.down {κ:Type}{K:PySem.W.Frag}{μ ν:List Addr}{H:Hp}:∀{ds:List (κ×D)} {vs:List (κ×V)},RepKV K (μ++ν) H ds vs->(∀p∈ds,M.under μ.length p.2)->RepKV K μ H ds vs
 | [],_,h,_=>h
 | (k,d)::ds,_,⟨v,r,e,h1,h2⟩,u=>⟨v,r,e,RepV.down d h1 (u (k,d) (by simp)),RepKV.down h2 fun p hp=>u p (List.mem_cons_of_mem _ hp)⟩
theorem RepO.under {K:PySem.W.Frag}{μ:List Addr}{H:Hp}{a:Addr}{o:MO}(h:RepO K μ H a o):underO μ.length o:=by
 cases o with
 | lst ds=>obtain⟨xs,_,h2⟩:=h;exact RepVs.unders ds h2
 | frz ds=>obtain⟨xs,_,h2⟩:=h;exact RepVs.unders ds h2
 | dic ds=>obtain⟨xs,_,h2⟩:=h;exact h2.under
 | dkc ds=>obtain⟨xs,_,h2⟩:=h;exact h2.under
 | dkf ds=>obtain⟨xs,_,_,h2⟩:=h;exact h2.under
 | dtf ds=>obtain⟨xs,_,_,h2⟩:=h;exact h2.under
 | exc c d=>obtain⟨_,_,_,_,_,_,_,_,_,_,_,_,h7⟩:=h;exact RepV.under d h7
 | ins c ds=>obtain⟨_,_,xs,_,_,h2⟩:=h;exact h2.under
 | tab x=>trivial
 | clo j l ds=>obtain⟨_,_,_,_,xs,_,_,_,_,_,h2⟩:=h;exact RepVs.unders ds h2
 | hid=>trivial
theorem RepO.down {K:PySem.W.Frag}{μ ν:List Addr}{H:Hp}{a:Addr}{o:MO}(h:RepO K (μ++ν) H a o)(u:underO μ.length o):RepO K μ H a o:=by
 cases o with
 | lst ds=>obtain⟨xs,h1,h2⟩:=h;exact⟨xs,h1,RepVs.down ds h2 u⟩
 | frz ds=>obtain⟨xs,h1,h2⟩:=h;exact⟨xs,h1,RepVs.down ds h2 u⟩
 | dic ds=>obtain⟨xs,h1,h2⟩:=h;exact⟨xs,h1,h2.down u⟩
 | dkc ds=>obtain⟨xs,h1,h2⟩:=h;exact⟨xs,h1,h2.down u⟩
 | dkf ds=>obtain⟨xs,o,h1,h2⟩:=h;exact⟨xs,o,h1,h2.down u⟩
 | dtf ds=>obtain⟨xs,o,h1,h2⟩:=h;exact⟨xs,o,h1,h2.down u⟩
 | exc c d=>obtain⟨oe,C,dx,od,v,fs,h1,h2,h3,h4,h5,h6,h7⟩:=h;exact⟨oe,C,dx,od,v,fs,h1,h2,h3,h4,h5,h6,RepV.down d h7 u⟩
 | ins c ds=>obtain⟨C,dx,xs,h0,h1,h2⟩:=h;exact⟨C,dx,xs,h0,h1,h2.down u⟩
 | tab x=>exact h
 | clo j l ds=>obtain⟨cl,pm,c',ctv,vs,h1,h2,h3,h4,h5,h6⟩:=h;exact⟨cl,pm,c',ctv,vs,h1,h2,h3,h4,h5,RepVs.down ds h6 u⟩
 | hid=>trivial
theorem RepO.up {K:PySem.W.Frag}{μ:List Addr}{H:Hp}{a:Addr}{o:MO}(ν:List Addr)(h:RepO K μ H a o):RepO K (μ++ν) H a o:=h.keep ⟨⟨ν,rfl⟩,.refl H⟩ fun _ _ q=>q
theorem zfi {α:Type}{l l':List α}(h:l'.take l.length=l){n:Nat}{o:α}(e:l[n]? = some o):l'[n]? = some o:=by
 have hl:=(List.getElem?_eq_some_iff.mp e).1
 rw[<-h,List.getElem?_take]at e
 rw[if_pos hl]at e;exact e
theorem RepS.back {K:PySem.W.Frag}{μ ν:List Addr}{H H':Hp}{st st':Stor}(h0:RepS K μ H st)(h:RepS K (μ++ν) H' st')(ht:st'.take st.length=st):RepS K μ H' st:=by
 refine⟨h0.len,fun n o e=>?_,fun i j a oi oj ei ej mi mj hi hj=>?_⟩
 ·obtain⟨a,h1,h2⟩:=h.at_ n o (zfi ht e)
  obtain⟨a0,h3,h4⟩:=h0.at_ n o e
  have hn:n<μ.length:=by rw[h0.len];exact (List.getElem?_eq_some_iff.mp e).1
  rw[List.getElem?_append_left hn]at h1
  exact⟨a,h1,h2.down h4.under⟩
 ·have up:∀k,μ[k]? = some a->(μ++ν)[k]? = some a:=fun k hk=>by rw[List.getElem?_append_left (List.getElem?_eq_some_iff.mp hk).1];exact hk
  exact h.uniq i j a oi oj (zfi ht ei) (zfi ht ej) mi mj (up i hi) (up j hj)
theorem RepS.back1 {K:PySem.W.Frag}{μ ν:List Addr}{H H':Hp}{st st':Stor}{k:Nat}{o:MO}{a:Addr}(h0:RepS K μ H st)(h:RepS K (μ++ν) H' st')(ht:st'.take st.length=st)(hk:st.length<=k)(e:st'[k]? = some o)(u:underO st.length o)(ha:(μ++ν)[k]? = some a) :
  RepS K (μ++[a]) H' (st++[o]):=by
 have hb:=h0.back h ht
 obtain⟨a',q1,q2⟩:=h.at_ k o e
 rw[ha]at q1;cases q1
 have key:∀(n:Nat) (on:MO) (c:Addr),(st++[o])[n]? = some on->(μ++[a])[n]? = some c->(n<st.length/\st[n]? = some on/\μ[n]? = some c)\/(n=st.length/\on=o/\c=a):=fun n on c e1 e2=>by
  by_cases hn:n<st.length
  ·rw[List.getElem?_append_left hn]at e1
   rw[List.getElem?_append_left (by rw[h0.len];exact hn)]at e2
   exact .inl ⟨hn,e1,e2⟩
  ·have hl:=(List.getElem?_eq_some_iff.mp e1).1
   rw[List.length_append,List.length_singleton]at hl
   have en:n=st.length:=by omega
   subst en
   rw[List.getElem?_append_right (Nat.le_refl _)]at e1
   rw[<-h0.len,List.getElem?_append_right (Nat.le_refl _)]at e2
   simp at e1 e2
   exact .inr ⟨rfl,e1.symm,e2.symm⟩
 refine⟨by simp[h0.len],fun n on e1=>?_,fun i j c oi oj ei ej mi mj hi hj=>?_⟩
 ·have hn:n<(μ++[a]).length:=by
   have:=(List.getElem?_eq_some_iff.mp e1).1
   simpa[h0.len] using this
  obtain⟨c,hc⟩:∃c,(μ++[a])[n]? = some c:=⟨_,List.getElem?_eq_getElem hn⟩
  rcases key n on c e1 hc with⟨h1,h2,h3⟩ | ⟨h1,rfl,rfl⟩
  ·obtain⟨c',h4,h5⟩:=hb.at_ n on h2
   rw[h3]at h4;cases h4
   exact⟨c,hc,h5.up _⟩
  ·exact⟨c,hc,(q2.down (by rw[h0.len];exact u)).up _⟩
 ·have up:∀k,μ[k]? = some c->(μ++ν)[k]? = some c:=fun k hk=>by rw[List.getElem?_append_left (List.getElem?_eq_some_iff.mp hk).1];exact hk
  rcases key i oi c ei hi with⟨h1,h2,h3⟩ | ⟨h1,rfl,rfl⟩
  ·rcases key j oj c ej hj with⟨g1,g2,g3⟩ | ⟨g1,rfl,rfl⟩
   ·exact hb.uniq i j c oi oj h2 g2 mi mj h3 g3
   ·have:=h.uniq i k c oi oj (zfi ht h2) e mi mj (up i h3) ha
    omega
  ·rcases key j oj c ej hj with⟨g1,g2,g3⟩ | ⟨g1,_,_⟩
   ·have:=h.uniq j k c oj oi (zfi ht g2) e mj mi (up j g3) ha
    omega
   ·rw[h1,g1]
open Classical in
noncomputable def gc (st:Stor)(r:R D):R D:=match r with
 | .ok d st'=>if st'.take st.length=st/\under st.length d then .ok d st else (match d with
  | .loc k=>(match st'[k]? with
   | some o=>if st'.take st.length=st/\st.length<=k/\underO st.length o then .ok (.loc st.length) (st++[o]) else .ok d st'
   | none=>.ok d st')
  | d=>.ok d st')
 | r=>r
noncomputable def gcF (F:FD):FD:=fun ds st=>gc st (F ds st)
theorem gc_post {K:PySem.W.Frag}{μ:List Addr}{H:Hp}{Q:VK}{st:Stor}{r:R D}(hs:RepS K μ H st)(h:PostF K μ H Q (gc st r)):PostF K μ H Q r:=by
 cases r with
 | bad=>exact h
 | err x st'=>exact h
 | ok d st' =>
  unfold gc at h
  dsimp only at h
  by_cases c1:st'.take st.length=st/\under st.length d
  ·rw[if_pos c1]at h
   intro v H' μ' g hs' hv
   obtain⟨ν,rfl⟩:=g.pre
   exact h v H' μ ⟨⟨[],by simp⟩,g.ext⟩ (hs.back hs' c1.1) (RepV.down d hv (by rw[hs.len];exact c1.2))
  ·rw[if_neg c1]at h
   cases d with
   | loc k =>
    dsimp only at h
    cases e:st'[k]? with
    | none=>rw[e]at h;exact h
    | some o =>
     rw[e]at h
     dsimp only at h
     by_cases c2:st'.take st.length=st/\st.length<=k/\underO st.length o
     ·rw[if_pos c2]at h
      intro v H' μ' g hs' hv
      obtain⟨ν,rfl⟩:=g.pre
      obtain⟨a,h1,rfl⟩:=RepV.loc_iff.mp hv
      refine h _ H' (μ++[a]) ⟨⟨[a],rfl⟩,g.ext⟩ (hs.back1 hs' c2.1 c2.2.1 e c2.2.2 h1) (RepV.loc_iff.mpr ⟨a,?_,rfl⟩)
      rw[<-hs.len];simp
     ·rw[if_neg c2]at h;exact h
   | _=>exact h
theorem sp_gc {K:PySem.W.Frag}{n:Nat}{F:FD}{vs:List V}{H:Hp}{Q:VK}{E:XK}(h:spM K n (gcF F) vs H Q E):spM K n F vs H Q E:=by
 obtain⟨hl,μ,ds,st,h1,h2,h3⟩:=h
 exact⟨hl,μ,ds,st,h1,h2,gc_post h2 h3⟩
theorem zeb {st:Stor}{g:List MO}{d:D}(h:under st.length d):gc st (.ok d (st++g))=.ok d st:=by
 unfold gc
 dsimp only
 rw[if_pos ⟨by simp,h⟩]
theorem gc_new {st:Stor}{g g':List MO}{o:MO}(h:underO st.length o):gc st (.ok (.loc (st.length+g.length)) (st++g++o::g'))=.ok (.loc st.length) (st++[o]):=by
 unfold gc
 dsimp only
 rw[if_neg (by simp)]
 have e:(st++g++o::g')[st.length+g.length]? = some o:=by
  rw[List.getElem?_append_right (by simp)];simp
 rw[e]
 dsimp only
 rw[if_pos ⟨by simp,by omega,h⟩]
end M
namespace M
open PySem PySem.Spec L2
section
variable {X:Cx}{e a b c:Expr}{es:List Expr}{ma mb mc:ME}{mA:MA}{pos p2 p:Pos}
noncomputable def lenV:List D->Stor->R D
 | [.str cs],st=>if cs.length<=1000000 then .ok (.int cs.length) st else .bad
 | [.tup ds],st=>.ok (.int ds.length) st
 | [.loc n],st=>match itemsAt st n with | some ds=>.ok (.int ds.length) st | none=>.bad
 | _,_=>.bad
theorem zi9:CallR X (.builtin "len") (rMC X lenV):=by
 refine CallR.weak (CallR.or zh7 zh9) ?_
 rintro xs H Q ⟨μ,st,ds,hs,hv,hp⟩
 unfold lenV at hp
 split at hp
 ·rename_i cs
  split at hp
  ·rename_i hl
   obtain⟨v,rfl,q⟩:=RepVs.one hv
   rw[RepV.str_iff]at q;subst q
   exact .inl ⟨_,rfl,by rw[zd5];exact zf3 hl,by rw[zd5];exact hp.ret hs (RepV.int_iff.mpr rfl)⟩
  ·exact hp.elim
 ·obtain⟨v,rfl,q⟩:=RepVs.one hv
  obtain⟨p,ys,rfl,q1,q2⟩:=RepV.tup_iff.mp q
  exact .inr ⟨p,ys,rfl,.inr q1.sqT,by rw[<-q2.length];exact hp.ret hs (RepV.int_iff.mpr rfl)⟩
 ·rename_i n
  cases e:itemsAt st n with
  | none=>rw[e]at hp;exact hp.elim
  | some ds =>
   rw[e]at hp
   obtain⟨v,rfl,q⟩:=RepVs.one hv
   obtain⟨p,q1,rfl⟩:=RepV.loc_iff.mp q
   obtain⟨p',ys,r1,r2,r3⟩:=hs.items e
   rw[q1]at r1;cases r1
   exact .inr ⟨p,ys,rfl,.inl r2,by rw[<-r3.length];exact hp.ret hs (RepV.int_iff.mpr rfl)⟩
 ·exact hp.elim
noncomputable def intC:List D->Stor->R D
 | [.int i],st=>.ok (.int i) st
 | [.bl k],st=>.ok (.int (if k then 1 else 0)) st
 | _,_=>.bad
theorem call_intC:CallR X (.type "int") (rMC X intC):=by
 refine CallR.weak call_int1 ?_
 rintro xs H Q ⟨μ,st,ds,hs,hv,hp⟩
 unfold intC at hp
 split at hp
 ·obtain⟨v,rfl,q⟩:=RepVs.one hv
  rw[RepV.int_iff]at q;subst q
  exact .inl ⟨_,rfl,hp.ret hs (RepV.int_iff.mpr rfl)⟩
 ·obtain⟨v,rfl,q⟩:=RepVs.one hv
  rw[RepV.bl_iff]at q;subst q
  exact .inr ⟨_,rfl,hp.ret hs (RepV.int_iff.mpr rfl)⟩
 ·exact hp.elim
noncomputable def listC:List D->Stor->R D
 | [.tup ds],st=>.ok (.loc st.length) (st++[.lst ds])
 | [.loc n],st=>match itemsAt st n with | some ds=>.ok (.loc st.length) (st++[.lst ds]) | none=>.bad
 | _,_=>.bad
theorem zfq:CallR X (.type "list") (rMC X listC):=by
 refine CallR.weak zh2 ?_
 rintro xs H Q ⟨μ,st,ds,hs,hv,hp⟩
 unfold listC at hp
 split at hp
 ·obtain⟨v,rfl,q⟩:=RepVs.one hv
  obtain⟨p,ys,rfl,q1,q2⟩:=RepV.tup_iff.mp q
  exact⟨p,ys,rfl,.inr q1.sqT,fun l hl=>hp.newList hs q2 hl⟩
 ·rename_i n
  cases e:itemsAt st n with
  | none=>rw[e]at hp;exact hp.elim
  | some ds =>
   rw[e]at hp
   obtain⟨v,rfl,q⟩:=RepVs.one hv
   obtain⟨p,q1,rfl⟩:=RepV.loc_iff.mp q
   obtain⟨p',ys,r1,r2,r3⟩:=hs.items e
   rw[q1]at r1;cases r1
   exact⟨p,ys,rfl,.inl r2,fun l hl=>hp.newList hs r3 hl⟩
 ·exact hp.elim
noncomputable def tyD:D->Stor->Option String
 | .non,_=>some "NoneType"
 | .bl _,_=>some "bool"
 | .int _,_=>some "int"
 | .str _,_=>some "str"
 | .tup _,_=>some "tuple"
 | .loc n,st=>match st[n]? with
  | some (.lst _)=>some "list"
  | some (.frz _)=>some "list"
  | some (.dic _)=>some "dict"
  | some (.dkc _)=>some "dict"
  | _=>none
theorem isinst_D {pins:List (Addr×Obj)}{σ:L2.St}{μ:List Addr}{H:Hp}{s:Shared}{A:Around}{E:Value->Shared->Prop}{Q:Value->Shared->Prop}{cv:Value}{k:Bool}{d:D}{st:Stor}{x:V}{u:Value}{T:String}
  (I:Inv X pins σ H s) (hs:RepS X.K μ H st) (hd:RepV X.K μ H d x) (rx:RelV x u) (ht:tyD d st=some T) (e:PySem.W.kitOne X.K (.type T) cv=some k) (h:∀tk,Q (.bool k) { s with toks:=tk }) :
  wpAny (model X.prog X.w) A (call (.builtin "isinstance") [u,cv]) Q E s:=by
 cases d with
 | non=>rw[RepV.non_iff]at hd;subst hd;cases ht;exact zdn I rx (.non) e h
 | bl y=>rw[RepV.bl_iff]at hd;subst hd;cases ht;exact zdn I rx (.bl y) e h
 | int y=>rw[RepV.int_iff]at hd;subst hd;cases ht;exact zdn I rx (.int y) e h
 | str y=>rw[RepV.str_iff]at hd;subst hd;cases ht;exact zdn I rx (.str _) e h
 | tup ds =>
  obtain⟨a,xs,rfl,q1,q2⟩:=RepV.tup_iff.mp hd
  cases ht
  obtain⟨its,_,p,_⟩:=I.tuple (q1.sqT)
  obtain⟨o,h1,h2,_⟩:=p
  cases (show u=Value.ref a from rx)
  exact PySem.W.kia_one PySem.W.kitx_tuple I.kIn ⟨o,h1,h2⟩ e (fun z=>nomatch z) h
 | loc n =>
  obtain⟨a,q1,rfl⟩:=RepV.loc_iff.mp hd
  simp only[tyD]at ht
  have lst:∀ds,itemsAt st n=some ds->PySem.W.kitOne X.K (.type "list") cv=some k->wpAny (model X.prog X.w) A (call (.builtin "isinstance") [u,cv]) Q E s:=fun ds e1 e2=>by
   obtain⟨p',ys,r1,r2,r3⟩:=hs.items e1
   rw[q1]at r1;cases r1
   obtain⟨its,_,p,_⟩:=I.list r2
   cases (show u=Value.ref a from rx)
   exact PySem.W.kia_one PySem.W.kitx_list I.kIn p.isList.typeIs e2 (fun z=>nomatch z) h
  cases e1:st[n]? with
  | none=>rw[e1]at ht;cases ht
  | some mo =>
   rw[e1]at ht
   cases mo with
   | lst ds=>cases ht;exact lst ds (by unfold itemsAt;rw[e1]) e
   | frz ds=>cases ht;exact lst ds (by unfold itemsAt;rw[e1]) e
   | dic kvs =>
    cases ht
    obtain⟨p',r1,ws,r2,_⟩:=hs.at_ n _ e1
    rw[q1]at r1;cases r1
    exact zdn I rx (.dT r2) e h
   | dkc kvs =>
    cases ht
    obtain⟨p',r1,ws,r2,_⟩:=hs.at_ n _ e1
    rw[q1]at r1;cases r1
    exact zdn I rx (.dK r2) e h
   | _=>cases ht
noncomputable def subTy (t T:String):Bool:=t==T || (t == "bool" && T == "int")
noncomputable def isV (T:String):D->Stor->R D:=fun d st=>match tyD d st with | some t=>.ok (.bl (subTy t T)) st | none=>.bad
noncomputable def tysD:List String:=["NoneType","bool","int","str","tuple","list","dict"]
theorem tyD_mem {d:D}{st:Stor}{t:String}(h:tyD d st=some t):t∈tysD:=by
 cases d with
 | loc n =>
  simp only[tyD]at h
  split at h<;>cases h<;>decide
 | _=>cases h;decide
noncomputable def rIs (X:Cx)(T:String):List V->Hp->VK->Prop:=fun xs H Q=>∃μ st d x,xs=[x,.ty T]/\RepS X.K μ H st/\RepV X.K μ H d x/\Post X μ H (relV X) Q (isV T d st)
theorem call_isV {T:String}(hT:∀t∈tysD,PySem.W.kitOne X.K (.type t) (.type T)=some (subTy t T)):CallR X (.builtin "isinstance") (rIs X T):=by
 rintro pins s σ H xs us Q I hr ⟨μ,st,d,x,rfl,hs,hd,hp⟩
 obtain⟨u,w',rfl,r1,r2⟩:=vals2 hr
 cases (show w'=Value.type T from r2)
 unfold isV at hp
 cases e:tyD d st with
 | none=>rw[e]at hp;exact hp.elim
 | some t =>
  rw[e]at hp
  exact isinst_D I hs hd r1 e (hT t (tyD_mem e)) fun tk=>⟨.bl (subTy t T),H,I.tok tk,rfl,hp.ret hs (RepV.bl_iff.mpr rfl)⟩
theorem kit_int {K:PySem.W.Frag}:∀t∈tysD,PySem.W.kitOne K (.type t) (.type "int")=some (subTy t "int"):=by
 intro t ht
 simp only[tysD,List.mem_cons,List.not_mem_nil,or_false]at ht
 rcases ht with rfl | rfl | rfl | rfl | rfl | rfl | rfl<;>rfl
theorem zk5 {K:PySem.W.Frag}:∀t∈tysD,PySem.W.kitOne K (.type t) (.type "bool")=some (subTy t "bool"):=by
 intro t ht
 simp only[tysD,List.mem_cons,List.not_mem_nil,or_false]at ht
 rcases ht with rfl | rfl | rfl | rfl | rfl | rfl | rfl<;>rfl
theorem kit_str {K:PySem.W.Frag}:∀t∈tysD,PySem.W.kitOne K (.type t) (.type "str")=some (subTy t "str"):=by
 intro t ht
 simp only[tysD,List.mem_cons,List.not_mem_nil,or_false]at ht
 rcases ht with rfl | rfl | rfl | rfl | rfl | rfl | rfl<;>rfl
theorem kit_tuple {K:PySem.W.Frag}:∀t∈tysD,PySem.W.kitOne K (.type t) (.type "tuple")=some (subTy t "tuple"):=by
 intro t ht
 simp only[tysD,List.mem_cons,List.not_mem_nil,or_false]at ht
 rcases ht with rfl | rfl | rfl | rfl | rfl | rfl | rfl<;>rfl
theorem kit_list {K:PySem.W.Frag}:∀t∈tysD,PySem.W.kitOne K (.type t) (.type "list")=some (subTy t "list"):=by
 intro t ht
 simp only[tysD,List.mem_cons,List.not_mem_nil,or_false]at ht
 rcases ht with rfl | rfl | rfl | rfl | rfl | rfl | rfl<;>rfl
theorem zj4 {T:String}{xT:Str}(hT:∀t∈tysD,PySem.W.kitOne X.K (.type t) (.type T)=some (subTy t T))(h:JE X e ma)(hg:Gl X "isinstance")(hm:X.mg "isinstance" = none)(hgT:Gl X xT)(hmT:X.mg xT=none)
  (hv:bootBuiltins xT=some (.type T)) (hb:bootBuiltins "isinstance" = some (.builtin "isinstance")) (hnT:xT ≠ "__name__":=by decide) (hdT:(xT==("__debug__":Str))=false:=by decide)
  (hs1:starEach [e,.Name xT p2] X.env=[(false,eval e X.env),(false,eval (.Name xT p2) X.env)]:=by rfl) (hs2:starEach [.Name xT p2] X.env=[(false,eval (.Name xT p2) X.env)]:=by rfl) (hpl:(backTo pos (starEach [.Name xT p2] X.env)).any (·.1)=false:=by rfl) :
  JE X (.Call (.Name "isinstance" p) [e,.Name xT p2] [] pos) (op1 (isV T) ma):=by
 refine JE.of (zie (call_isV hT) hg hm hb (zfe h (zfe (pe_bltn (v:=.ty T) hgT hmT hv rfl hnT hdT) pa_nil hs2) hs1) (by decide) (by decide) hs1 hpl) fun σ H Q zz=>?_
 obtain⟨μ,env,st,hE,hs,hp⟩:=zz
 refine⟨μ,env,st,hE,hs,(Post.bind hp).imp ?_⟩
 rintro x H1 ⟨μ1,st1,d,g1,hs1,hx,hp1⟩
 exact⟨μ1,st1,d,x,rfl,hs1,hx,hp1⟩
end
end M
namespace M
open PySem PySem.Spec PySem.SeqAt L2
mutual
noncomputable def eqD:D->D->Bool
 | .non,.non=>true
 | .bl a,.bl b=>a==b
 | .bl a,.int b=>(if a then 1 else 0)==b
 | .int a,.bl b=>a==(if b then 1 else 0)
 | .int a,.int b=>a==b
 | .str a,.str b=>a==b
 | .tup a,.tup b=>eqDs a b
 | _,_=>false
noncomputable def eqDs:List D->List D->Bool
 | [],[]=>true
 | a::as,b::bs=>eqD a b && eqDs as bs
 | _,_=>false
end
mutual
noncomputable def flat:D->Bool
 | .loc _=>false
 | .tup ds=>flats ds
 | _=>true
noncomputable def flats:List D->Bool
 | []=>true
 | d::ds=>flat d && flats ds
end
mutual
noncomputable def dep:D->Nat
 | .tup ds=>deps ds+1
 | _=>0
noncomputable def deps:List D->Nat
 | []=>0
 | d::ds=>max (dep d) (deps ds)
end
mutual
noncomputable def cdep:D->D->Nat
 | .tup a,.tup b=>cdeps a b+1
 | _,_=>0
noncomputable def cdeps:List D->List D->Nat
 | a::as,b::bs=>max (cdep a b) (cdeps as bs)
 | _,_=>0
end
@[simp] theorem zlo (a b:List D):cdep (.tup a) (.tup b)=cdeps a b+1:=by simp[cdep]
@[simp] theorem cdep_non (d:D):cdep .non d=0:=by simp[cdep]
@[simp] theorem cdep_bl (b:Bool) (d:D):cdep (.bl b) d=0:=by simp[cdep]
@[simp] theorem zk3 (b:Int) (d:D):cdep (.int b) d=0:=by simp[cdep]
@[simp] theorem cdep_str (b:List Nat) (d:D):cdep (.str b) d=0:=by simp[cdep]
@[simp] theorem cdep_loc (b:Nat) (d:D):cdep (.loc b) d=0:=by simp[cdep]
@[simp] theorem cdep_non' (d:D):cdep d .non=0:=by cases d<;>simp[cdep]
@[simp] theorem cdep_bl' (b:Bool) (d:D):cdep d (.bl b)=0:=by cases d<;>simp[cdep]
@[simp] theorem cdep_int' (b:Int) (d:D):cdep d (.int b)=0:=by cases d<;>simp[cdep]
@[simp] theorem cdep_str' (b:List Nat) (d:D):cdep d (.str b)=0:=by cases d<;>simp[cdep]
@[simp] theorem cdeps_nil (bs:List D):cdeps [] bs=0:=by simp[cdeps]
@[simp] theorem cdeps_nil' (as:List D):cdeps as []=0:=by cases as<;>simp[cdeps]
@[simp] theorem zg9 (a b:D) (as bs:List D):cdeps (a::as) (b::bs)=max (cdep a b) (cdeps as bs):=by simp[cdeps]
@[simp] theorem zl7 (b:Int):flat (.int b)=true:=by simp[flat]
@[simp] theorem flat_str (b:List Nat):flat (.str b)=true:=by simp[flat]
@[simp] theorem flat_tup (b:List D):flat (.tup b)=flats b:=by simp[flat]
@[simp] theorem flats_nil:flats []=true:=by simp[flats]
@[simp] theorem zdk (d:D) (ds:List D):flats (d::ds)=(flat d && flats ds):=by simp[flats]
@[simp] theorem dep_non:dep .non=0:=by simp[dep]
@[simp] theorem dep_bl (b:Bool):dep (.bl b)=0:=by simp[dep]
@[simp] theorem dep_int (b:Int):dep (.int b)=0:=by simp[dep]
@[simp] theorem dep_str (b:List Nat):dep (.str b)=0:=by simp[dep]
@[simp] theorem dep_tup (b:List D):dep (.tup b)=deps b+1:=by simp[dep]
@[simp] theorem deps_nil:deps []=0:=by simp[deps]
@[simp] theorem zgn (d:D) (ds:List D):deps (d::ds)=max (dep d) (deps ds):=by simp[deps]
mutual
theorem cdep_le:∀(a b:D),cdep a b<=dep a
 | .tup a,.tup b=>by rw[zlo,dep_tup];exact Nat.succ_le_succ (zib a b)
 | .tup a,.non=>by simp
 | .tup a,.bl _=>by simp
 | .tup a,.int _=>by simp
 | .tup a,.str _=>by simp
 | .tup a,.loc _=>by simp[cdep]
 | .non,_=>by simp
 | .bl _,_=>by simp
 | .int _,_=>by simp
 | .str _,_=>by simp
 | .loc _,_=>by simp
theorem zib:∀(a b:List D),cdeps a b<=deps a
 | [],b=>by simp
 | a::as,[]=>by simp
 | a::as,b::bs=>by
  rw[zg9,zgn]
  have h1:=cdep_le a b
  have h2:=zib as bs
  omega
end
noncomputable def eqJ (as bs:List D)(j:Nat):Bool:=match as[j]?,bs[j]? with | some a,some b=>eqD a b | _,_=>true
theorem zgt:∀(as bs:List D),eqDs as bs=((List.range (min as.length bs.length)).all (eqJ as bs) && as.length==bs.length)
 | [],[]=>by simp[eqDs]
 | [],b::bs=>by simp[eqDs]
 | a::as,[]=>by simp[eqDs]
 | a::as,b::bs=>by
  rw[eqDs,zgt as bs]
  have e1:min (a::as).length (b::bs).length=min as.length bs.length+1:=by simp
  rw[e1,List.range_succ_eq_map,List.all_cons,List.all_map]
  have e2:((a::as).length==(b::bs).length)=(as.length==bs.length):=by
   rw[Bool.eq_iff_iff];simp
  rw[e2]
  have e3:eqJ (a::as) (b::bs) 0=eqD a b:=rfl
  rw[e3,Bool.and_assoc]
  rfl
mutual
theorem zka:∀(d:D),flat d=true->eqD d d=true
 | .non,_=>by simp[eqD]
 | .bl _,_=>by simp[eqD]
 | .int _,_=>by simp[eqD]
 | .str _,_=>by simp[eqD]
 | .tup ds,h=>by rw[eqD];exact zgw ds (by simpa using h)
 | .loc _,h=>by simp[flat]at h
theorem zgw:∀(ds:List D),flats ds=true->eqDs ds ds=true
 | [],_=>by simp[eqDs]
 | d::ds,h=>by
  rw[zdk,Bool.and_eq_true]at h
  rw[eqDs,zka d h.1,zgw ds h.2];rfl
end
section
variable {X:Cx}{pins:List (Addr×Obj)}{σ:L2.St}{μ:List Addr}{H:Hp}{s:Shared}
mutual
theorem zln (I:Inv X pins σ H s):∀(d1 d2:D) {v:V},flat d1=true->flat d2=true->RepV X.K μ H d1 v->RepV X.K μ H d2 v->d1=d2
 | .non,d2,_,_,f2,h1,h2=>by
  rw[RepV.non_iff]at h1;subst h1
  cases d2 with
  | non=>rfl
  | bl _=>rw[RepV.bl_iff]at h2;cases h2
  | int _=>rw[RepV.int_iff]at h2;cases h2
  | str _=>rw[RepV.str_iff]at h2;cases h2
  | tup _=>obtain⟨_,_,q,_⟩:=RepV.tup_iff.mp h2;cases q
  | loc _=>simp[flat]at f2
 | .bl b,d2,_,_,f2,h1,h2=>by
  rw[RepV.bl_iff]at h1;subst h1
  cases d2 with
  | bl _=>rw[RepV.bl_iff]at h2;cases h2;rfl
  | non=>rw[RepV.non_iff]at h2;cases h2
  | int _=>rw[RepV.int_iff]at h2;cases h2
  | str _=>rw[RepV.str_iff]at h2;cases h2
  | tup _=>obtain⟨_,_,q,_⟩:=RepV.tup_iff.mp h2;cases q
  | loc _=>simp[flat]at f2
 | .int b,d2,_,_,f2,h1,h2=>by
  rw[RepV.int_iff]at h1;subst h1
  cases d2 with
  | int _=>rw[RepV.int_iff]at h2;cases h2;rfl
  | non=>rw[RepV.non_iff]at h2;cases h2
  | bl _=>rw[RepV.bl_iff]at h2;cases h2
  | str _=>rw[RepV.str_iff]at h2;cases h2
  | tup _=>obtain⟨_,_,q,_⟩:=RepV.tup_iff.mp h2;cases q
  | loc _=>simp[flat]at f2
 | .str b,d2,_,_,f2,h1,h2=>by
  rw[RepV.str_iff]at h1;subst h1
  cases d2 with
  | str _=>rw[RepV.str_iff]at h2;injection h2 with h3;rw[ze6.mp h3]
  | non=>rw[RepV.non_iff]at h2;cases h2
  | bl _=>rw[RepV.bl_iff]at h2;cases h2
  | int _=>rw[RepV.int_iff]at h2;cases h2
  | tup _=>obtain⟨_,_,q,_⟩:=RepV.tup_iff.mp h2;cases q
  | loc _=>simp[flat]at f2
 | .tup as,d2,_,f1,f2,h1,h2=>by
  obtain⟨a,xs,rfl,q1,q2⟩:=RepV.tup_iff.mp h1
  cases d2 with
  | tup bs =>
   obtain⟨b,ys,e,r1,r2⟩:=RepV.tup_iff.mp h2
   cases e
   rw[I.tuple_inj (r1.sqT) (q1.sqT)]at r2
   rw[zjg I as bs (by simpa using f1) (by simpa using f2) q2 r2]
  | non=>rw[RepV.non_iff]at h2;cases h2
  | bl _=>rw[RepV.bl_iff]at h2;cases h2
  | int _=>rw[RepV.int_iff]at h2;cases h2
  | str _=>rw[RepV.str_iff]at h2;cases h2
  | loc _=>simp[flat]at f2
 | .loc _,_,_,f1,_,_,_=>by simp[flat]at f1
theorem zjg (I:Inv X pins σ H s):∀(as bs:List D) {vs:List V},flats as=true->flats bs=true->RepVs X.K μ H as vs->RepVs X.K μ H bs vs->as=bs
 | [],bs,_,_,_,h1,h2=>by
  rw[RepVs]at h1;subst h1
  cases bs with
  | nil=>rfl
  | cons _ _=>rw[RepVs]at h2;obtain⟨_,_,q,_⟩:=h2;cases q
 | a::as,bs,_,f1,f2,h1,h2=>by
  rw[RepVs]at h1
  obtain⟨v,r,rfl,q1,q2⟩:=h1
  cases bs with
  | nil=>rw[RepVs]at h2;cases h2
  | cons b bs =>
   rw[RepVs]at h2
   obtain⟨v',r',e,r1,r2⟩:=h2
   cases e
   rw[zdk,Bool.and_eq_true]at f1 f2
   rw[zln I a b f1.1 f2.1 q1 r1,zjg I as bs f1.2 f2.2 q2 r2]
end
mutual
theorem eq_at (I:Inv X pins σ H s):∀(d1 d2:D) {A:Around} {x y:V} {u w:Value},flat d1=true->flat d2=true->A.units+cdep d1 d2<cLine->RepV X.K μ H d1 x->RepV X.K μ H d2 y->RelV x u->RelV y w ->
  EqAt A s u w (eqD d1 d2)/\RcAt A s u w (eqD d1 d2)/\RcNeAt A s u w (!eqD d1 d2)
 | d1,d2,A,x,y,u,w,f1,f2,hu,h1,h2,r1,r2=>by
  cases d1 with
  | loc _=>simp[flat]at f1
  | non =>
   rw[RepV.non_iff]at h1;subst h1
   cases (show u=Value.none from r1)
   cases d2 with
   | loc _=>simp[flat]at f2
   | non=>rw[RepV.non_iff]at h2;subst h2;cases (show w=Value.none from r2);exact⟨EqAt.same _,RcAt.none_none,RcNeAt.none_none⟩
   | bl b=>rw[RepV.bl_iff]at h2;subst h2;cases (show w=Value.bool b from r2);exact⟨EqAt.none_bool b,RcAt.none_bool b,RcNeAt.none_bool b⟩
   | int b=>rw[RepV.int_iff]at h2;subst h2;obtain⟨t,rfl⟩:=r2;exact⟨EqAt.none_int b t,RcAt.none_int b t,RcNeAt.none_int b t⟩
   | str b=>rw[RepV.str_iff]at h2;subst h2;obtain⟨t,rfl⟩:=r2;exact⟨EqAt.none_str _ t,RcAt.none_str _ t,RcNeAt.none_str _ t⟩
   | tup bs =>
    obtain⟨b,ys,rfl,q1,q2⟩:=RepV.tup_iff.mp h2
    cases (show w=Value.ref b from r2)
    obtain⟨its,_,p,_⟩:=I.tuple (q1.sqT)
    exact⟨EqAt.none_tuple p (by omega),RcAt.none_tuple p (by omega),RcNeAt.none_tuple p (by omega)⟩
  | bl a =>
   rw[RepV.bl_iff]at h1;subst h1
   cases (show u=Value.bool a from r1)
   cases d2 with
   | loc _=>simp[flat]at f2
   | non=>rw[RepV.non_iff]at h2;subst h2;cases (show w=Value.none from r2);exact⟨EqAt.bool_none a,RcAt.bool_none a,RcNeAt.bool_none a⟩
   | bl b=>rw[RepV.bl_iff]at h2;subst h2;cases (show w=Value.bool b from r2);simp only[eqD];exact⟨EqAt.bool_bool a b,RcAt.bool_bool a b,RcNeAt.bool_bool a b⟩
   | int b=>rw[RepV.int_iff]at h2;subst h2;obtain⟨t,rfl⟩:=r2;simp only[eqD];exact⟨EqAt.bool_int a b t,RcAt.bool_int a b t,RcNeAt.bool_int a b t⟩
   | str b=>rw[RepV.str_iff]at h2;subst h2;obtain⟨t,rfl⟩:=r2;exact⟨EqAt.bool_str a _ t,RcAt.bool_str a _ t,RcNeAt.bool_str a _ t⟩
   | tup bs =>
    obtain⟨b,ys,rfl,q1,q2⟩:=RepV.tup_iff.mp h2
    cases (show w=Value.ref b from r2)
    obtain⟨its,_,p,_⟩:=I.tuple (q1.sqT)
    exact⟨EqAt.bool_tuple a p (by omega),RcAt.bool_tuple a p (by omega),RcNeAt.bool_tuple a p (by omega)⟩
  | int a =>
   rw[RepV.int_iff]at h1;subst h1
   obtain⟨ta,rfl⟩:=r1
   cases d2 with
   | loc _=>simp[flat]at f2
   | non=>rw[RepV.non_iff]at h2;subst h2;cases (show w=Value.none from r2);exact⟨EqAt.int_none a ta,RcAt.int_none a ta,RcNeAt.int_none a ta⟩
   | bl b=>rw[RepV.bl_iff]at h2;subst h2;cases (show w=Value.bool b from r2);simp only[eqD];exact⟨EqAt.int_bool a ta b,RcAt.int_bool a ta b,RcNeAt.int_bool a ta b⟩
   | int b=>rw[RepV.int_iff]at h2;subst h2;obtain⟨t,rfl⟩:=r2;simp only[eqD];exact⟨EqAt.int_int a ta b t,RcAt.int_int a ta b t,RcNeAt.int_int a ta b t⟩
   | str b=>rw[RepV.str_iff]at h2;subst h2;obtain⟨t,rfl⟩:=r2;exact⟨EqAt.int_str a ta _ t,RcAt.int_str a ta _ t,RcNeAt.int_str a ta _ t⟩
   | tup bs =>
    obtain⟨b,ys,rfl,q1,q2⟩:=RepV.tup_iff.mp h2
    cases (show w=Value.ref b from r2)
    obtain⟨its,_,p,_⟩:=I.tuple (q1.sqT)
    exact⟨EqAt.int_tuple a ta p (by omega),RcAt.int_tuple a ta p (by omega),RcNeAt.int_tuple a ta p (by omega)⟩
  | str a =>
   rw[RepV.str_iff]at h1;subst h1
   obtain⟨ta,rfl⟩:=r1
   cases d2 with
   | loc _=>simp[flat]at f2
   | non=>rw[RepV.non_iff]at h2;subst h2;cases (show w=Value.none from r2);exact⟨EqAt.str_none _ ta,RcAt.str_none _ ta,RcNeAt.str_none _ ta⟩
   | bl b=>rw[RepV.bl_iff]at h2;subst h2;cases (show w=Value.bool b from r2);exact⟨EqAt.str_bool _ ta b,RcAt.str_bool _ ta b,RcNeAt.str_bool _ ta b⟩
   | int b=>rw[RepV.int_iff]at h2;subst h2;obtain⟨t,rfl⟩:=r2;exact⟨EqAt.str_int _ ta b t,RcAt.str_int _ ta b t,RcNeAt.str_int _ ta b t⟩
   | str b =>
    rw[RepV.str_iff]at h2;subst h2;obtain⟨t,rfl⟩:=r2
    have e:(strOf a==strOf b)=eqD (.str a) (.str b):=by
     rw[eqD,Bool.eq_iff_iff,beq_iff_eq,beq_iff_eq];exact ze6
    rw[<-e]
    exact⟨EqAt.str_str _ ta _ t,RcAt.str_str _ ta _ t,RcNeAt.str_str _ ta _ t⟩
   | tup bs =>
    obtain⟨b,ys,rfl,q1,q2⟩:=RepV.tup_iff.mp h2
    cases (show w=Value.ref b from r2)
    obtain⟨its,_,p,_⟩:=I.tuple (q1.sqT)
    exact⟨EqAt.str_tuple _ ta p (by omega),RcAt.str_tuple _ ta p (by omega),RcNeAt.str_tuple _ ta p (by omega)⟩
  | tup as =>
   have h1':=h1
   have h2':=h2
   obtain⟨a,xs,rfl,q1,q2⟩:=RepV.tup_iff.mp h1
   cases (show u=Value.ref a from r1)
   obtain⟨its,ra,p,_⟩:=I.tuple (q1.sqT)
   cases d2 with
   | loc _=>simp[flat]at f2
   | non=>rw[RepV.non_iff]at h2;subst h2;cases (show w=Value.none from r2);exact⟨EqAt.tuple_none p (by omega),RcAt.tuple_none p (by omega),RcNeAt.tuple_none p (by omega)⟩
   | bl b=>rw[RepV.bl_iff]at h2;subst h2;cases (show w=Value.bool b from r2);exact⟨EqAt.tuple_bool b p (by omega),RcAt.tuple_bool b p (by omega),RcNeAt.tuple_bool b p (by omega)⟩
   | int b=>rw[RepV.int_iff]at h2;subst h2;obtain⟨t,rfl⟩:=r2;exact⟨EqAt.tuple_int b t p (by omega),RcAt.tuple_int b t p (by omega),RcNeAt.tuple_int b t p (by omega)⟩
   | str b=>rw[RepV.str_iff]at h2;subst h2;obtain⟨t,rfl⟩:=r2;exact⟨EqAt.tuple_str _ t p (by omega),RcAt.tuple_str _ t p (by omega),RcNeAt.tuple_str _ t p (by omega)⟩
   | tup bs =>
    obtain⟨b,ys,rfl,g1,g2⟩:=RepV.tup_iff.mp h2
    cases (show w=Value.ref b from r2)
    obtain⟨its2,rb,p2,_⟩:=I.tuple (g1.sqT)
    rw[zlo]at hu
    rw[flat_tup]at f1 f2
    have items:=eqs_at I as bs (A:=A.in1) f1 f2 (by show A.units+1+cdeps as bs<cLine;omega) q2 g2 ra rb
    have la:as.length=its.toArray.size:=by rw[List.size_toArray,q2.length,ra.length]
    have lb:bs.length=its2.toArray.size:=by rw[List.size_toArray,g2.length,rb.length]
    have e:((List.range (min its.toArray.size its2.toArray.size)).all (eqJ as bs) && its.toArray.size==its2.toArray.size)=eqD (.tup as) (.tup bs):=by
     rw[eqD,zgt,la,lb]
    have rc:RcAt A s (.ref a) (.ref b) (eqD (.tup as) (.tup bs)):=by
     rw[<-e]
     exact RcAt.tuples p p2 (by omega) fun j j1 j2=>items j (by simpa using j1) (by simpa using j2)
    have ne:RcNeAt A s (.ref a) (.ref b) (!eqD (.tup as) (.tup bs)):=by
     rw[<-e]
     exact RcNeAt.tuples p p2 (by omega) fun j j1 j2=>items j (by simpa using j1) (by simpa using j2)
    refine⟨?_,rc,ne⟩
    by_cases hab:a=b
    ·subst hab
     have:(D.tup as)=.tup bs:=zln I _ _ (by simpa using f1) (by simpa using f2) h1' h2'
     rw[<-this,zka _ (by simpa using f1)]
     exact EqAt.same _
    ·exact EqAt.of_refs hab rc
theorem eqs_at (I:Inv X pins σ H s):∀(as bs:List D) {A:Around} {xs ys:List V} {us ws:List Value},flats as=true->flats bs=true->A.units+cdeps as bs<cLine->RepVs X.K μ H as xs->RepVs X.K μ H bs ys->Vals xs us->Vals ys ws ->
  ∀(j:Nat) (h1:j<us.length) (h2:j<ws.length),EqAt A s us[j] ws[j] (eqJ as bs j)
 | [],bs,A,xs,ys,us,ws,_,_,_,h1,_,r1,_,j,j1,_=>by
  rw[RepVs]at h1;subst h1;cases r1;simp at j1
 | a::as,[],A,xs,ys,us,ws,_,_,_,_,h2,_,r2,j,_,j2=>by
  rw[RepVs]at h2;subst h2;cases r2;simp at j2
 | a::as,b::bs,A,xs,ys,us,ws,f1,f2,hu,h1,h2,r1,r2,j,j1,j2=>by
  rw[RepVs]at h1 h2
  obtain⟨v,r,rfl,q1,q2⟩:=h1
  obtain⟨v',r',rfl,g1,g2⟩:=h2
  cases r1 with
  | cons r1 t1 =>
  cases r2 with
  | cons r2 t2 =>
  rw[zdk,Bool.and_eq_true]at f1 f2
  rw[zg9]at hu
  cases j with
  | zero=>exact (eq_at I a b f1.1 f2.1 (by omega) q1 g1 r1 r2).1
  | succ j=>exact eqs_at I as bs f1.2 f2.2 (by omega) q2 g2 t1 t2 j (by simpa using j1) (by simpa using j2)
end
end
end M
namespace M
open PySem PySem.Spec PySem.SeqAt L2
noncomputable def eqR (L:Nat):D->D->Stor->Option Bool
 | .loc m,.loc n,st=>match itemsAt st m,itemsAt st n with
  | some a,some b=>if flats a=true/\flats b=true/\cdeps a b+1<L then some (eqDs a b) else none
  | _,_=>none
 | .loc m,.non,st=>(itemsAt st m).map fun _=>false
 | .loc m,.tup b,st=>if 0<L then (itemsAt st m).map fun _=>false else none
 | .non,.loc n,st=>(itemsAt st n).map fun _=>false
 | .tup a,.loc n,st=>if 0<L then (itemsAt st n).map fun _=>false else none
 | d1,d2,_=>if flat d1=true/\flat d2=true/\cdep d1 d2<L then some (eqD d1 d2) else none
section
variable {X:Cx}{pins:List (Addr×Obj)}{σ:L2.St}{μ:List Addr}{H:Hp}{s:Shared}{L:Nat}
theorem eqs_lists {as bs:List D}{A:Around}{xs ys:List V}{a b:Addr}(I:Inv X pins σ H s)(f1:flats as=true)(f2:flats bs=true)(hu:A.units+1+cdeps as bs<cLine)(h1:RepVs X.K μ H as xs)(h2:RepVs X.K μ H bs ys)
  (q1:SqL X.K H a xs) (q2:SqL X.K H b ys):RcAt A s (.ref a) (.ref b) (eqDs as bs)/\RcNeAt A s (.ref a) (.ref b) (!eqDs as bs):=by
 obtain⟨its,ra,p,_⟩:=I.list q1
 obtain⟨its2,rb,p2,_⟩:=I.list q2
 have la:as.length=its.toArray.size:=by rw[List.size_toArray,h1.length,ra.length]
 have lb:bs.length=its2.toArray.size:=by rw[List.size_toArray,h2.length,rb.length]
 by_cases hl:its.toArray.size=its2.toArray.size
 ·have items:=eqs_at I as bs (A:=A.in1) f1 f2 hu h1 h2 ra rb
  have e:((List.range its.toArray.size).all (eqJ as bs))=eqDs as bs:=by
   rw[zgt,la,lb,<-hl,Nat.min_self];simp
  rw[<-e]
  exact⟨RcAt.lists p.isList p2.isList hl (by omega) fun j j1 j2=>items j (by simpa using j1) (by simpa using j2),RcNeAt.lists p.isList p2.isList hl (by omega) fun j j1 j2=>items j (by simpa using j1) (by simpa using j2)⟩
 ·have e:eqDs as bs=false:=by
   rw[zgt,la,lb,Bool.and_eq_false_iff]
   exact .inr (by simpa using hl)
  have hl':(its.toArray.size != its2.toArray.size)=true:=by simpa using hl
  rw[e]
  exact⟨RcAt.lists_lengths p.isList p2.isList hl' (by omega),RcNeAt.lists_lengths p.isList p2.isList hl' (by omega)⟩
theorem eqR_at {d1 d2:D}{st:Stor}{k:Bool}{A:Around}{x y:V}{u w:Value}(I:Inv X pins σ H s)(hs:RepS X.K μ H st)(e:eqR L d1 d2 st=some k)(hu:A.units+L<cLine)(h1:RepV X.K μ H d1 x)(h2:RepV X.K μ H d2 y)(r1:RelV x u)(r2:RelV y w) :
  RcAt A s u w k/\RcNeAt A s u w (!k):=by
 have plain:∀{d1 d2:D},RepV X.K μ H d1 x->RepV X.K μ H d2 y->(if flat d1=true/\flat d2=true/\cdep d1 d2<L then some (eqD d1 d2) else none)=some k->RcAt A s u w k/\RcNeAt A s u w (!k):=fun {d1 d2} h1 h2 e=>by
  split at e
  ·rename_i c
   cases e
   exact (eq_at I d1 d2 c.1 c.2.1 (by omega) h1 h2 r1 r2).2
  ·cases e
 have list:∀{n:Nat} {v:V} {z:Value} {ds:List D},RepV X.K μ H (.loc n) v->RelV v z->itemsAt st n=some ds->∃p its,z=.ref p/\s.heap.IsList p its:=fun {n v z ds} h r q=>by
  obtain⟨p,q1,rfl⟩:=RepV.loc_iff.mp h
  obtain⟨p',xs,g1,g2,g3⟩:=hs.items q
  rw[q1]at g1;cases g1
  cases (show z=Value.ref p from r)
  obtain⟨its,_,pl,_⟩:=I.list g2
  exact⟨p,_,rfl,pl.isList⟩
 have tuple:∀{bs:List D} {v:V} {z:Value},RepV X.K μ H (.tup bs) v->RelV v z->∃p its,z=.ref p/\s.heap.IsTuple p its:=fun {bs v z} h r=>by
  obtain⟨p,xs,rfl,q1,_⟩:=RepV.tup_iff.mp h
  cases (show z=Value.ref p from r)
  obtain⟨its,_,pl,_⟩:=I.tuple (q1.sqT)
  exact⟨p,_,rfl,pl⟩
 match d1,d2,e,h1,h2 with
 | .loc m,.loc n,e,h1,h2 =>
  simp only[eqR]at e
  cases e1:itemsAt st m with
  | none=>rw[e1]at e;cases e
  | some as =>
   cases e2:itemsAt st n with
   | none=>rw[e1,e2]at e;cases e
   | some bs =>
    rw[e1,e2]at e
    dsimp only at e
    split at e
    ·rename_i c
     cases e
     obtain⟨p,q1,rfl⟩:=RepV.loc_iff.mp h1
     obtain⟨p',xs,g1,g2,g3⟩:=hs.items e1
     rw[q1]at g1;cases g1
     obtain⟨q,q2,rfl⟩:=RepV.loc_iff.mp h2
     obtain⟨q',ys,k1,k2,k3⟩:=hs.items e2
     rw[q2]at k1;cases k1
     cases (show u=Value.ref p from r1)
     cases (show w=Value.ref q from r2)
     exact eqs_lists I c.1 c.2.1 (by omega) g3 k3 g2 k2
    ·cases e
 | .loc m,.non,e,h1,h2 =>
  simp only[eqR]at e
  cases e1:itemsAt st m with
  | none=>rw[e1]at e;cases e
  | some as =>
   rw[e1]at e;cases e
   obtain⟨p,its,rfl,pl⟩:=list h1 r1 e1
   rw[RepV.non_iff]at h2;subst h2;cases (show w=Value.none from r2)
   exact⟨RcAt.list_none pl (by omega),RcNeAt.list_none pl (by omega)⟩
 | .non,.loc n,e,h1,h2 =>
  simp only[eqR]at e
  cases e1:itemsAt st n with
  | none=>rw[e1]at e;cases e
  | some as =>
   rw[e1]at e;cases e
   obtain⟨p,its,rfl,pl⟩:=list h2 r2 e1
   rw[RepV.non_iff]at h1;subst h1;cases (show u=Value.none from r1)
   exact⟨RcAt.none_list pl (by omega),RcNeAt.none_list pl (by omega)⟩
 | .loc m,.tup bs,e,h1,h2 =>
  simp only[eqR]at e
  split at e
  ·cases e1:itemsAt st m with
   | none=>rw[e1]at e;cases e
   | some as =>
    rw[e1]at e;cases e
    obtain⟨p,its,rfl,pl⟩:=list h1 r1 e1
    obtain⟨q,its2,rfl,pt⟩:=tuple h2 r2
    exact⟨RcAt.list_tuple pl pt (by omega),RcNeAt.list_tuple pl pt (by omega)⟩
  ·cases e
 | .tup as,.loc n,e,h1,h2 =>
  simp only[eqR]at e
  split at e
  ·cases e1:itemsAt st n with
   | none=>rw[e1]at e;cases e
   | some as =>
    rw[e1]at e;cases e
    obtain⟨p,its,rfl,pl⟩:=list h2 r2 e1
    obtain⟨q,its2,rfl,pt⟩:=tuple h1 r1
    exact⟨RcAt.tuple_list pt pl (by omega),RcNeAt.tuple_list pt pl (by omega)⟩
  ·cases e
 | .non,.non,e,h1,h2=>exact plain h1 h2 (by simpa only[eqR] using e)
 | .non,.bl _,e,h1,h2=>exact plain h1 h2 (by simpa only[eqR] using e)
 | .non,.int _,e,h1,h2=>exact plain h1 h2 (by simpa only[eqR] using e)
 | .non,.str _,e,h1,h2=>exact plain h1 h2 (by simpa only[eqR] using e)
 | .non,.tup _,e,h1,h2=>exact plain h1 h2 (by simpa only[eqR] using e)
 | .bl _,d2,e,h1,h2=>exact plain h1 h2 (by simpa only[eqR] using e)
 | .int _,d2,e,h1,h2=>exact plain h1 h2 (by simpa only[eqR] using e)
 | .str _,d2,e,h1,h2=>exact plain h1 h2 (by simpa only[eqR] using e)
 | .tup _,.non,e,h1,h2=>exact plain h1 h2 (by simpa only[eqR] using e)
 | .tup _,.bl _,e,h1,h2=>exact plain h1 h2 (by simpa only[eqR] using e)
 | .tup _,.int _,e,h1,h2=>exact plain h1 h2 (by simpa only[eqR] using e)
 | .tup _,.str _,e,h1,h2=>exact plain h1 h2 (by simpa only[eqR] using e)
 | .tup _,.tup _,e,h1,h2=>exact plain h1 h2 (by simpa only[eqR] using e)
 | .loc _,.bl _,e,h1,h2=>simp[eqR,flat]at e
 | .loc _,.int _,e,h1,h2=>simp[eqR,flat]at e
 | .loc _,.str _,e,h1,h2=>simp[eqR,flat]at e
noncomputable def eqV (L:Nat):D->D->Stor->R D:=fun d1 d2 st=>match eqR L d1 d2 st with | some k=>.ok (.bl k) st | none=>.bad
noncomputable def neV (L:Nat):D->D->Stor->R D:=fun d1 d2 st=>match eqR L d1 d2 st with | some k=>.ok (.bl (!k)) st | none=>.bad
theorem zjy (hu:X.A.units+L<cLine):OpR X (compareOp .Eq) (rM X (eqV L)):=by
 rintro pins s σ H x y v u Q I rx ry ⟨μ,st,dx,dy,hs,hx,hy,hp⟩
 unfold eqV at hp
 cases e:eqR L dx dy st with
 | none=>rw[e]at hp;exact hp.elim
 | some k =>
  rw[e]at hp
  exact (eqR_at I hs e hu hx hy rx ry).1 X.prog X.w X.xe _ ⟨.bl k,H,I,rfl,hp.ret hs (RepV.bl_iff.mpr rfl)⟩
theorem op_neV (hu:X.A.units+L<cLine):OpR X (compareOp .NotEq) (rM X (neV L)):=by
 rintro pins s σ H x y v u Q I rx ry ⟨μ,st,dx,dy,hs,hx,hy,hp⟩
 unfold neV at hp
 cases e:eqR L dx dy st with
 | none=>rw[e]at hp;exact hp.elim
 | some k =>
  rw[e]at hp
  exact (eqR_at I hs e hu hx hy rx ry).2 X.prog X.w X.xe _ ⟨.bl (!k),H,I,rfl,hp.ret hs (RepV.bl_iff.mpr rfl)⟩
end
end M
namespace M
open PySem PySem.Spec L2
noncomputable def isTy (T:String)(d:D)(st:Stor):Bool:=match d with
 | .str _=>T == "str"
 | .loc n=>(match st[n]? with
  | some (.lst _)=>T == "list"
  | some (.frz _)=>T == "list"
  | some (.dic _)=>T == "dict"
  | some (.dkc _)=>T == "dict"
  | _=>false)
 | _=>false
section
variable {X:Cx}{e a b c o:Expr}{es:List Expr}{ma mb mc mo:ME}{mA:MA}{pos p2 p apos cpos:Pos}{T id:String}{name:Str}{g:D->List D->Stor->R D}
theorem isTy_ok {μ:List Addr}{H:Hp}{d:D}{st:Stor}{v:V}(h:isTy T d st=true)(hs:RepS X.K μ H st)(hv:RepV X.K μ H d v):tyV X.K T v H:=by
 cases d with
 | str cs=>rw[RepV.str_iff]at hv;subst hv;exact eq_of_beq h
 | loc n =>
  obtain⟨p,q1,rfl⟩:=RepV.loc_iff.mp hv
  simp only[isTy]at h
  cases e:st[n]? with
  | none=>rw[e]at h;cases h
  | some o =>
   rw[e]at h
   obtain⟨p',r1,r2⟩:=hs.at_ n o e
   rw[q1]at r1;cases r1
   cases o with
   | lst ds=>obtain⟨xs,r3,_⟩:=r2;exact .inl ⟨eq_of_beq h,xs,SqL.of r3⟩
   | frz ds=>obtain⟨xs,r3,_⟩:=r2;exact .inl ⟨eq_of_beq h,xs,r3.sqL⟩
   | dic ds=>obtain⟨xs,r3,_⟩:=r2;exact .inr (.inr (.inl ⟨eq_of_beq h,.inr ⟨xs,r3⟩⟩))
   | dkc ds=>obtain⟨xs,r3,_⟩:=r2;exact .inr (.inr (.inl ⟨eq_of_beq h,.inl ⟨xs,r3⟩⟩))
   | _=>cases h
 | _=>simp[isTy]at h
noncomputable def methE (T:String)(g:D->List D->Stor->R D)(mo:ME)(mA:MA):ME:=fun env st=>(mo env st).bind fun x st1=>if isTy T x st1=true then (mA env st1).bind fun xs st2=>g x xs st2 else .bad
noncomputable def meth0E (T:String)(g:D->List D->Stor->R D)(mo:ME):ME:=fun env st=>(mo env st).bind fun x st1=>if isTy T x st1=true then g x [] st1 else .bad
theorem zew (pa:PlainAttrs T)(slot:Slot T name id)(hty:typeOf (.builtin id)=pure (.type "method_descriptor"))(hm:MtR X id (rMM X g))(ho:JE X o mo)(ha:JA X (e::es) mA)
  (hbase:attributeBase o name X.env (eval o X.env)=eval o X.env:=by rfl)
  (hfew:((backTo cpos (starEach (e::es) X.env)).all (fun x=>!x.1) && (backToKw cpos (keywordEach [] X.env)).all (fun x=>x.1.isSome)
   && decide ((e::es).length+([]:List Keyword).length+(if ([]:List Keyword).isEmpty then 0 else 1)<30))=true:=by rfl)
  (hline:(apos.endLine==cpos.line)=true:=by rfl) (hs:starEach (e::es) X.env=(false,eval e X.env)::starEach es X.env:=by rfl) (hplain:(backTo cpos (starEach es X.env)).any (·.1)=false:=by rfl):JE X (.Call (.Attribute o name apos) (e::es) [] cpos) (methE T g mo mA):=by
 refine JE.of (pe_bm pa slot hty hm ho ha hbase hfew hline hs hplain) fun σ H Q zz=>?_
 obtain⟨μ,env,st,hE,hs,hp⟩:=zz
 refine⟨μ,env,st,hE,hs,(Post.bind hp).imp ?_⟩
 rintro x H1 ⟨μ1,st1,d,g1,hs1,hx,hp1⟩
 dsimp only at hp1
 split at hp1
 ·rename_i hT
  refine⟨isTy_ok hT hs1 hx,μ1,env,st1,hE.mono g1,hs1,(Post.bind hp1).imp ?_⟩
  rintro xs H2 ⟨μ2,st2,ds,g2,hs2,hxs,hp2⟩
  exact⟨μ2,st2,d,ds,hs2,hx.mono g2 _,hxs,hp2⟩
 ·exact hp1.elim
theorem je_meth0 (pa:PlainAttrs T)(slot:Slot T name id)(hty:typeOf (.builtin id)=pure (.type "method_descriptor"))(hm:MtR X id (rMM X g))(ho:JE X o mo)
  (hbase:attributeBase o name X.env (eval o X.env)=eval o X.env:=by rfl) (hline:(apos.endLine==cpos.line)=true:=by rfl):JE X (.Call (.Attribute o name apos) [] [] cpos) (meth0E T g mo):=by
 refine JE.of (pe_bm0 pa slot hty hm ho hbase hline) fun σ H Q zz=>?_
 obtain⟨μ,env,st,hE,hs,hp⟩:=zz
 refine⟨μ,env,st,hE,hs,(Post.bind hp).imp ?_⟩
 rintro x H1 ⟨μ1,st1,d,g1,hs1,hx,hp1⟩
 dsimp only at hp1
 split at hp1
 ·rename_i hT
  exact⟨isTy_ok hT hs1 hx,μ1,st1,d,[],hs1,hx,RepVs.nil,hp1⟩
 ·exact hp1.elim
noncomputable def appendV:D->List D->Stor->R D
 | .loc n,[d],st=>match st[n]? with
  | some (.lst ds)=>if ds.length<1000000 then .ok .non (st.set n (.lst (ds++[d]))) else .bad
  | _=>.bad
 | _,_,_=>.bad
theorem wr_lst {μ:List Addr}{H:Hp}{st:Stor}{n:Nat}{ds ds':List D}{p:Addr}{xs ys:List V}{Q:VK}(hp:Post X μ H (relV X) Q (.ok .non (st.set n (.lst ds'))))(hs:RepS X.K μ H st)(e:st[n]? = some (.lst ds))(hq:μ[n]? = some p)(hx:H p=some (.lst xs))(hy:RepVs X.K μ H ds' ys) :
  Q .non (upd H p (.lst ys)):=by
 obtain⟨g,hs'⟩:=putLst hs e hq hx hy
 exact hp _ _ μ g hs' (RepV.non_iff.mpr rfl)
theorem zdg:MtR X "list.append" (rMM X appendV):=by
 refine MtR.weak zjh ?_
 rintro x xs H Q ⟨μ,st,d,ds,hs,hx,hxs,hp⟩
 unfold appendV at hp
 split at hp
 ·rename_i n d' 
  cases e:st[n]? with
  | none=>rw[e]at hp;exact hp.elim
  | some mo =>
   cases mo with
   | lst l =>
    rw[e]at hp
    dsimp only at hp
    split at hp
    ·rename_i hl
     obtain⟨p,q1,rfl⟩:=RepV.loc_iff.mp hx
     obtain⟨y,rfl,q2⟩:=RepVs.one hxs
     obtain⟨p',ys,r1,r2,r3⟩:=hs.lst e
     rw[q1]at r1;cases r1
     refine⟨p,ys,y,rfl,rfl,r2,by rw[<-r3.length];exact Nat.lt_of_lt_of_le hl (by decide),wr_lst hp hs e q1 r2 (r3.append (RepVs.cons q2 RepVs.nil))⟩
    ·exact hp.elim
   | _=>rw[e]at hp;exact hp.elim
 ·exact hp.elim
noncomputable def clearV:D->List D->Stor->R D
 | .loc n,[],st=>match st[n]? with
  | some (.lst ds)=>.ok .non (st.set n (.lst []))
  | _=>.bad
 | _,_,_=>.bad
theorem mt_clearV:MtR X "list.clear" (rMM X clearV):=by
 refine MtR.weak mt_clear ?_
 rintro x xs H Q ⟨μ,st,d,ds,hs,hx,hxs,hp⟩
 unfold clearV at hp
 split at hp
 ·rename_i n
  cases e:st[n]? with
  | none=>rw[e]at hp;exact hp.elim
  | some mo =>
   cases mo with
   | lst l =>
    rw[e]at hp
    obtain⟨p,q1,rfl⟩:=RepV.loc_iff.mp hx
    rw[RepVs]at hxs
    obtain⟨p',ys,r1,r2,r3⟩:=hs.lst e
    rw[q1]at r1;cases r1
    exact⟨p,ys,rfl,hxs,r2,wr_lst hp hs e q1 r2 RepVs.nil⟩
   | _=>rw[e]at hp;exact hp.elim
 ·exact hp.elim
end
end M
namespace M
open PySem PySem.Spec L2
section
variable {X:Cx}{e a b c l:Expr}{es:List Expr}{ma mb mc:ME}{mA:MA}{pos p2 p tpos:Pos}{μ:List Addr}{H:Hp}
noncomputable def lstG (st:Stor)(n:Nat):Option (List D×MO):=match st[n]? with
 | some (.lst ds)=>some (ds,.lst ds)
 | some (.frz ds)=>some (ds,.frz ds)
 | _=>none
theorem zj7 {st:Stor}{n:Nat}{ds:List D}{o:MO}(h:lstG st n=some (ds,o)):itemsAt st n=some ds/\st[n]? = some o/\(o=.lst ds\/o=.frz ds):=by
 unfold lstG at h
 unfold itemsAt
 split at h
 ·rename_i q;cases h;rw[q];exact⟨rfl,rfl,.inl rfl⟩
 ·rename_i q;cases h;rw[q];exact⟨rfl,rfl,.inr rfl⟩
 ·cases h
theorem zk0 {K:PySem.W.Frag}{st':Stor}{n:Nat}{ds:List D}{o:MO}{μ':List Addr}{H':Hp}(ho:o=.lst ds\/o=.frz ds)(hs:RepS K μ' H' st')(e:st'[n]? = some o):∃p xs,μ'[n]? = some p/\SqL K H' p xs/\RepVs K μ' H' ds xs:=by
 refine hs.items ?_
 unfold itemsAt
 rcases ho with rfl | rfl<;>rw[e]
noncomputable def enumL:Nat->List D->List D
 | _,[]=>[]
 | k,d::ds=>.tup [.int k,d]::enumL (k+1) ds
theorem zja:∀(ds:List D) (k i:Nat),(enumL k ds)[i]? = (ds[i]?).map fun d=>.tup [.int ((k+i:Nat):Int),d]
 | [],k,i=>by simp[enumL]
 | d::ds,k,0=>by simp[enumL]
 | d::ds,k,i+1=>by
  have:=zja ds (k+1) i
  simp only[enumL,List.getElem?_cons_succ]
  rw[this,show k+1+i=k+(i+1) by omega]
theorem zi2:∀(ds:List D) (k:Nat),(enumL k ds).length=ds.length
 | [],_=>rfl
 | _::ds,k=>by simp[enumL,zi2 ds (k+1)]
noncomputable def enumI (mA:MA):MI:=fun env st=>(mA env st).bind fun ds st1=>match ds with
 | [.loc n]=>(match lstG st1 n with | some (xs,o)=>.ok (enumL 0 xs,[(n,o)]) st1 | none=>.bad)
 | _=>.bad
theorem ite_rep {n:Nat}{ds:List D}{q:Addr}{o:MO}(ho:o=.lst ds\/o=.frz ds)(hp:μ[n]? = some q):ItRep X μ H (Ite X.K q) (enumL 0 ds,[(n,o)]):=by
 intro H' μ' st' g hs ok
 have e:st'[n]? = some o:=(ok (n,o) (by simp))
 obtain⟨p',xs,q1,q2,q3⟩:=zk0 ho hs e
 rw[g.get hp]at q1;cases q1
 refine⟨fun i d hd=>?_,xs,q2,by rw[<-q3.length];show ds.length<=(enumL 0 ds).length;rw[zi2];exact Nat.le_refl _⟩
 have hd':(enumL 0 ds)[i]? = some d:=hd
 rw[zja]at hd'
 cases e2:ds[i]? with
 | none=>rw[e2]at hd';cases hd'
 | some d0 =>
  rw[e2]at hd';cases hd'
  obtain⟨v,h1,h2⟩:=q3.get e2
  refine⟨⟨xs,v,q2,h1⟩,?_⟩
  rintro x H'' ⟨pp,y,hn,rfl,rfl,hy⟩
  have:=hy xs q2
  rw[h1]at this;cases this
  refine⟨Grow.lay hn,hs.lay hn,RepV.tup_iff.mpr ⟨pp,_,rfl,.inl zah,?_⟩⟩
  exact (RepVs.cons (RepV.int_iff.mpr (by simp)) (RepVs.cons h2 RepVs.nil)).mono (Grow.lay hn) _
theorem ji_enum {elts:List Expr}{x1:Nat}(ha:JA X [a] mA)(hg:Gl X "enumerate")(hm:X.mg "enumerate" = none)(hs:starEach [a] X.env=[(false,eval a X.env)]:=by rfl):JI X (.Tuple elts x1 tpos) (.Call (.Name "enumerate" p) [a] [] pos) (enumI mA):=by
 refine JI.of (pi_enum hg hm ha hs) fun σ H R zz=>?_
 obtain⟨μ,env,st,hE,hs,hp⟩:=zz
 refine⟨μ,env,st,hE,hs,(Post.bind hp).imp ?_⟩
 rintro vs H1 ⟨μ1,st1,ds,g1,hs1,hv,hp1⟩
 dsimp only at hp1
 split at hp1
 ·rename_i n
  cases e:lstG st1 n with
  | none=>rw[e]at hp1;exact hp1.elim
  | some y =>
   obtain⟨xs,o⟩:=y
   rw[e]at hp1
   obtain⟨k1,k2,k3⟩:=zj7 e
   obtain⟨v,rfl,q1⟩:=RepVs.one hv
   obtain⟨q,q2,rfl⟩:=RepV.loc_iff.mp q1
   obtain⟨q',zs,r1,r2,r3⟩:=hs1.items k1
   rw[q2]at r1;cases r1
   exact⟨q,rfl,⟨zs,r2⟩,hp1 _ _ _ (.refl _ _) hs1 (ite_rep k3 q2)⟩
 ·exact hp1.elim
end
end M
namespace M
open PySem PySem.Spec L2
noncomputable def PostK {α β:Type}(K:PySem.W.Frag)(μ:List Addr)(H:Hp)(rel:Rel α β)(Q:β->Hp->Prop)(r:R α):Prop:=match r with
 | .ok a st=>∀(b:β) (H':Hp) (μ':List Addr),Grow μ H μ' H'->RepS K μ' H' st->rel μ' H' a b->Q b H'
 | _=>False
noncomputable def tK {α β:Type}(K:PySem.W.Frag)(rel:Rel α β)(m:MEnv->Stor->R α):L2.St->Hp->(β->Hp->Prop)->Prop:=fun σ H Q=>∃μ env st,RepE K μ H env σ/\RepS K μ H st/\PostK K μ H rel Q (m env st)
noncomputable def tKG (K:PySem.W.Frag)(m:MG):TG:=fun v σ H Q=>∃μ env st d,RepE K μ H env σ/\RepS K μ H st/\RepV K μ H d v/\PostK K μ H (fun μ H env σ=>RepE K μ H env σ) Q (m d env st)
theorem PostK.post {α β:Type}{X:Cx}{μ:List Addr}{H:Hp}{rel:Rel α β}{Q:β->Hp->Prop}{r:R α}(h:PostK X.K μ H rel Q r):Post X μ H rel Q r:=by
 cases r with
 | ok a st=>exact h
 | err x st=>exact h.elim
 | bad=>exact h.elim
theorem PostK.mono {α β:Type}{K:PySem.W.Frag}{μ μ1:List Addr}{H H1:Hp}{rel:Rel α β}{Q:β->Hp->Prop}{r:R α}(g:Grow μ H μ1 H1)(h:PostK K μ H rel Q r):PostK K μ1 H1 rel Q r:=by
 cases r with
 | ok a st=>exact fun b H' μ' g'=>h b H' μ' (g.trans g')
 | err x st=>exact h.elim
 | bad=>exact h.elim
noncomputable def captE (capt:List (Option Nat))(env:MEnv):MEnv:=capt.map fun o=>o.bind fun j=>(env[j]?).join
open Classical in
noncomputable def compGo (g:MG)(t:MT)(e:ME)(gs:List (Nat×MO))(n:Nat):List D->MEnv->Stor->R D
 | [],_,st=>if okG gs st then .ok (.loc n) st else .bad
 | d::r,env,st=>if okG gs st then (g d env st).bind fun env1 st1=>(t env1 st1).bind fun ok st2=>if ok then (e env1 st2).bind fun y st3=>(match st3[n]? with
   | some (.lst xs)=>if xs.length<1000000 then compGo g t e gs n r env1 (st3.set n (.lst (xs++[y]))) else .bad
   | _=>.bad) else compGo g t e gs n r env1 st2 else .bad
noncomputable def compE (capt:List (Option Nat))(mi:MI)(g:MG)(t:MT)(e:ME):ME:=fun env st=>(mi env st).bind fun s st1=>(compGo g t e s.2 st1.length s.1 (captE capt env) (st1++[.lst []])).sure
noncomputable def yesT:MT:=fun _ st=>.ok true st
section
variable {X:Cx}{elt tg iter c:Expr}{ifs:List Expr}{scope:Scope}{pos:Pos}{N:List Str}{capt:List (Option Nat)}{mi:MI}{g:MG}{t:MT}{me:ME}
theorem RepE.taken {K:PySem.W.Frag}{μ:List Addr}{H:Hp}{env:MEnv}{σ:L2.St}(cp:List (Option Nat))(h:RepE K μ H env σ):RepE K μ H (captE cp env) (captSt cp σ):=by
 refine⟨by simp[captE,captSt],fun i d e=>?_⟩
 unfold captE at e
 unfold captSt
 rw[List.getElem?_map]at e ⊢
 cases q:cp[i]? with
 | none=>rw[q]at e;cases e
 | some o =>
  rw[q]at e
  cases o with
  | none=>cases e
  | some j =>
   have e':(env[j]?).join=some d:=by simpa using e
   have e2:env[j]? = some (some d):=by
    cases z:env[j]? with
    | none=>rw[z]at e';cases e'
    | some y=>rw[z]at e';cases e';rfl
   obtain⟨v,h1,h2⟩:=h.at_ j d e2
   exact⟨v,by simp[h1],h2⟩
theorem PostK.val {α β γ:Type}{K:PySem.W.Frag}{μ:List Addr}{H:Hp}{rel:Rel α β}{r:R α}{f:α->Stor->R γ}{G:List Addr->Hp->R γ->Prop}(hG:∀μ μ1 H H1 r,Grow μ H μ1 H1->G μ H r->G μ1 H1 r)(hb:∀μ H,¬ G μ H .bad)(he:∀μ H x st,¬ G μ H (.err x st))
  (h:G μ H (r.bind f)):PostK K μ H rel (fun b H1=>∃μ1 st1 a,Grow μ H μ1 H1/\RepS K μ1 H1 st1/\rel μ1 H1 a b/\G μ1 H1 (f a st1)) r:=by
 cases r with
 | ok a st=>exact fun b H' μ' g h1 h2=>⟨μ',st,a,g,h1,h2,hG _ _ _ _ _ g h⟩
 | err x st=>exact (he _ _ _ _ h).elim
 | bad=>exact (hb _ _ h).elim
noncomputable def EndG (X:Cx)(Q:VK):List Addr->Hp->R D->Prop:=fun μ H r=>PostK X.K μ H (relV X) Q r
theorem zkv {σ:L2.St}{H:Hp}{Q:VK}(h:tM X (compE capt mi g t me) σ H Q):tComp capt (tMI X mi) (tKG X.K g) (tK X.K relB t) (tK X.K (relV X) me) σ H Q:=by
 obtain⟨μ,env,st,hE,hs,hp⟩:=h
 refine⟨μ,env,st,hE,hs,(Post.bind hp).imp ?_⟩
 rintro J H1 ⟨μ1,st1,s,g1,hs1,hJ,hp1⟩
 dsimp only at hp1
 have hp2:EndG X Q μ1 H1 (compGo g t me s.2 st1.length s.1 (captE capt env) (st1++[.lst []])):=by
  cases hr:compGo g t me s.2 st1.length s.1 (captE capt env) (st1++[.lst []]) with
  | ok d st2=>rw[hr]at hp1;exact hp1
  | err y st2=>rw[hr]at hp1;exact hp1.elim
  | bad=>rw[hr]at hp1;exact hp1.elim
 have mG:∀μ μ1 H H1 r,Grow μ H μ1 H1->EndG X Q μ H r->EndG X Q μ1 H1 r:=fun μ μ1 H H1 r g h=>PostK.mono g h
 have nb:∀μ H,¬ EndG X Q μ H .bad:=fun μ H h=>h
 have ne:∀μ H x st,¬ EndG X Q μ H (.err x st):=fun μ H x st h=>h
 intro D hD
 have gD:Grow μ1 H1 (μ1++[D]) (upd H1 D (.lst [])):=Grow.new hD
 have sD:RepS X.K (μ1++[D]) (upd H1 D (.lst [])) (st1++[.lst []]):=hs1.new hD ⟨[],zah,RepVs.nil⟩
 have nD:(μ1++[D])[st1.length]? = some D:=by rw[<-hs1.len];simp
 refine⟨fun i k σ' H'=>∃μ2 env2 st2,Grow (μ1++[D]) (upd H1 D (.lst [])) μ2 H'/\RepE X.K μ2 H' env2 σ'/\RepS X.K μ2 H' st2/\EndG X Q μ2 H' (compGo g t me s.2 st1.length (s.1.drop i) env2 st2)/\i<=s.1.length/\k=s.1.length - i,
  ⟨_,μ1++[D],captE capt env,_,.refl _ _,(hE.mono (g1.trans gD)).taken capt,sD,by simpa using mG _ _ _ _ _ gD hp2,Nat.zero_le _,rfl⟩,?_⟩
 rintro i k σ2 H2 ⟨μ2,env2,st2,g2,hE2,hs2,hp3,hi,rfl⟩
 have atD:μ2[st1.length]? = some D:=g2.get nD
 by_cases hlt:i<s.1.length
 ·have e1:s.1.drop i=s.1[i]::s.1.drop (i+1):=List.drop_eq_getElem_cons hlt
  rw[e1,compGo]at hp3
  by_cases ok:okG s.2 st2
  ·rw[if_pos ok]at hp3
   obtain⟨q1,q2⟩:=(hJ H2 μ2 st2 (gD.trans g2) hs2 ok).1 i s.1[i] (List.getElem?_eq_getElem hlt)
   refine .inr ⟨q1,fun σ' H'=>∃μ3 env3 st3,Grow (μ1++[D]) (upd H1 D (.lst [])) μ3 H'/\RepE X.K μ3 H' env3 σ'/\RepS X.K μ3 H' st3/\EndG X Q μ3 H' (compGo g t me s.2 st1.length (s.1.drop (i+1)) env3 st3),?_,?_⟩
   ·rintro σ' H' ⟨μ3,env3,st3,g3,hE3,hs3,hp4⟩
    exact⟨s.1.length - (i+1),by omega,μ3,env3,st3,g3,hE3,hs3,hp4,by omega,rfl⟩
   ·intro x H3 hx
    obtain⟨g3,hs3,hd⟩:=q2 x H3 hx
    refine⟨μ2,env2,st2,s.1[i],hE2.mono g3,hs3,hd,?_⟩
    have w1:=PostK.val (K:=X.K) (rel:=fun μ H env σ=>RepE X.K μ H env σ) mG nb ne (mG _ _ _ _ _ g3 hp3)
    cases hr1:g s.1[i] env2 st2 with
    | bad=>rw[hr1]at w1;exact w1
    | err y z=>rw[hr1]at w1;exact w1
    | ok env4 st4 =>
     rw[hr1]at w1
     intro σ4 H4 μ4 g4 hs4 hE4
     obtain⟨μ4',st4',env4',g4',hs4',hE4',hp4⟩:=w1 σ4 H4 μ4 g4 hs4 hE4
     refine⟨μ4',env4',st4',hE4',hs4',?_⟩
     have w2:=PostK.val (K:=X.K) (rel:=relB) mG nb ne hp4
     cases hr2:t env4' st4' with
     | bad=>rw[hr2]at w2;exact w2
     | err y z=>rw[hr2]at w2;exact w2
     | ok b5 st5 =>
      rw[hr2]at w2
      intro b H5 μ5 g5 hs5 hb5
      obtain⟨μ5',st5',b5',g5',hs5',hb5',hp5⟩:=w2 b H5 μ5 g5 hs5 hb5
      subst hb5'
      have gg:Grow (μ1++[D]) (upd H1 D (.lst [])) μ5' H5:=((g2.trans g3).trans g4').trans g5'
      cases b5' with
      | false=>exact iteF ⟨μ5',env4',st5',gg,hE4'.mono g5',hs5',by simpa using hp5⟩
      | true =>
       refine iteT ⟨μ5',env4',st5',hE4'.mono g5',hs5',?_⟩
       have hp5':EndG X Q μ5' H5 ((me env4' st5').bind fun y st3=>(match st3[st1.length]? with
        | some (.lst xs)=>if xs.length<1000000 then compGo g t me s.2 st1.length (s.1.drop (i+1)) env4' (st3.set st1.length (.lst (xs++[y]))) else .bad
        | _=>.bad)):=by simpa using hp5
       have w3:=PostK.val (K:=X.K) (rel:=relV X) mG nb ne hp5'
       cases hr3:me env4' st5' with
       | bad=>rw[hr3]at w3;exact w3
       | err y z=>rw[hr3]at w3;exact w3
       | ok y6 st6 =>
        rw[hr3]at w3
        intro v H6 μ6 g6 hs6 hv6
        obtain⟨μ6',st6',y6',g6',hs6',hv6',hp6⟩:=w3 v H6 μ6 g6 hs6 hv6
        have gg6:=gg.trans g6'
        have atD6:μ6'[st1.length]? = some D:=gg6.get nD
        cases e6:st6'[st1.length]? with
        | none=>rw[e6]at hp6;exact hp6.elim
        | some mo =>
         cases mo with
         | lst xs =>
          rw[e6]at hp6
          dsimp only at hp6
          split at hp6
          ·rename_i hl
           obtain⟨p',ys,r1,r2,r3⟩:=hs6'.lst e6
           rw[atD6]at r1;cases r1
           obtain⟨g7,hs7⟩:=putLst hs6' e6 atD6 r2 (r3.append (RepVs.cons hv6' RepVs.nil))
           refine⟨ys,r2,by rw[<-r3.length];exact Nat.lt_of_lt_of_le hl (by decide),μ6',env4',_,gg6.trans g7,((hE4'.mono g5').mono g6').mono g7,hs7,mG _ _ _ _ _ g7 hp6⟩
          ·exact hp6.elim
         | _=>rw[e6]at hp6;exact hp6.elim
  ·rw[if_neg ok]at hp3;exact hp3.elim
 ·have e1:s.1.drop i=[]:=List.drop_eq_nil_of_le (by omega)
  rw[e1,compGo]at hp3
  have e2:i=s.1.length:=by omega
  by_cases ok:okG s.2 st2
  ·rw[if_pos ok]at hp3
   refine .inl ⟨by rw[e2];exact (hJ H2 μ2 st2 (gD.trans g2) hs2 ok).2,?_⟩
   exact hp3 _ H2 μ2 (.refl _ _) hs2 (RepV.loc_iff.mpr ⟨D,atD,rfl⟩)
  ·rw[if_neg ok]at hp3;exact hp3.elim
theorem pe_tK {X':Cx}{e:Expr}{m:ME}(h:JE X' e m):PE X' e (tK X'.K (relV X') m):=by
 refine fun pins s σ H Q I zz=>?_
 obtain⟨μ,env,st,a,b,c⟩:=zz
 exact h pins s σ H Q I ⟨μ,env,st,a,b,c.post⟩
theorem pg_tK {X':Cx}{e:Expr}{m:MG}(h:JG X' e m):PG X' e (tKG X'.K m):=by
 refine fun pins s σ H v u Q I r zz=>?_
 obtain⟨μ,env,st,d,a,b,b2,c⟩:=zz
 exact h pins s σ H v u Q I r ⟨μ,env,st,d,a,b,b2,c.post⟩
theorem pt_tK {X':Cx}{e:Expr}{m:MT}(h:JT X' e m):PT X' e (tK X'.K relB m):=by
 refine fun pins s σ H Q I zz=>?_
 obtain⟨μ,env,st,a,b,c⟩:=zz
 exact h pins s σ H Q I ⟨μ,env,st,a,b,c.post⟩
noncomputable def JTs (X:Cx)(ifs:List Expr)(m:MT):Prop:=PTs X ifs (tK X.K relB m)
theorem zkm {X':Cx}:JTs X' [] yesT:=by
 refine fun pins s σ H Q I zz=>?_
 obtain⟨μ,env,st,a,b,c⟩:=zz
 exact pts_nil pins s σ H Q I (c true H μ (.refl _ _) b rfl)
theorem jts_one {X':Cx}{m:MT}(h:JT X' c m):JTs X' [c] m:=pts_one (pt_tK h)
noncomputable def FreeOk (sc sc0:Scope):Prop:=∀x∈sc.names,x.2=.free->sc0.names.lookup x.1=some .cell\/sc0.names.lookup x.1=some .free
instance (sc sc0:Scope):Decidable (FreeOk sc sc0):=inferInstanceAs (Decidable (∀x∈sc.names,x.2=.free->sc0.names.lookup x.1=some .cell\/sc0.names.lookup x.1=some .free))
theorem zir {sc0:Scope}(hi:JI X tg iter mi)(S:CompScope scope)(hfr:FreeOk scope sc0)(hcap:Capt X scope capt N)(hc:X.calm=true)
  (hg:∀cl C fp s H,JG (compCx X N scope cl C fp s H) tg g) (ht:∀cl C fp s H,JTs (compCx X N scope cl C fp s H) ifs t) (he:∀cl C fp s H,JE (compCx X N scope cl C fp s H) elt me)
  (h0:X.env.scope=sc0:=by rfl) (hs:∀x,foldedSetIterable iter X.env x=pure x:=by intro _;rfl):JE X (.ListComp elt [⟨tg,iter,ifs,0⟩] scope pos) (compE capt mi g t me) :=
 JE.of (pe_comp (g:=tKG X.K g) (tt:=tK X.K relB t) (te:=tK X.K (relV X) me) hi S (by subst h0;exact hfr) hcap hc (fun cl C fp s H=>pg_tK (hg cl C fp s H)) ht (fun cl C fp s H=>pe_tK (he cl C fp s H)) hs) fun σ H Q h=>zkv h
theorem zk4 (i:Nat){y:Str}{py spos:Pos}{sc0:Scope}(hi:JI X tg iter mi)(S:CompScope scope)(hfr:FreeOk scope sc0)(hcap:Capt X scope capt N)(hc:X.calm=true)
  (hg:∀cl C fp s H,JG (compCx X N scope cl C fp s H) tg g) (ht:∀cl C fp s H,JTs (compCx X N scope cl C fp s H) ifs t) (he:∀cl C fp s H,JE (compCx X N scope cl C fp s H) elt me)
  (hN:X.N.Nodup) (hy:X.N[i]? = some y:=by rfl) (hx:Loc X.env.scope y:=by first | exact Or.inl rfl | exact Or.inr rfl) (hsw:swapsWith (.ListComp elt [⟨tg,iter,ifs,0⟩] scope pos) (some (.Name y py)) spos.line X.env=pure true:=by rfl)
  (h0:X.env.scope=sc0:=by rfl) (hs:∀x,foldedSetIterable iter X.env x=pure x:=by intro _;rfl) (hf:X.fn y=true\/X.env.scope.names.lookup y=some .local:=by first | exact .inl rfl | exact .inr rfl | assumption) :
  JS X (.Assign [.Name y py] (.ListComp elt [⟨tg,iter,ifs,0⟩] scope pos) spos) (setS i (compE capt mi g t me)):=by
 refine JS.of (zlc (g:=tKG X.K g) (tt:=tK X.K relB t) (te:=tK X.K (relV X) me) hN hy hx hsw hi S (by subst h0;exact hfr) hcap hc (fun cl C fp s H=>pg_tK (hg cl C fp s H)) ht (fun cl C fp s H=>pe_tK (he cl C fp s H)) hs hf) fun E σ H zz=>?_
 obtain⟨μ,env,st,hE,hs,hp⟩:=zz
 refine zkv ⟨μ,env,st,hE,hs,(PostS.val hp).imp ?_⟩
 rintro x H1 ⟨μ1,st1,d,g1,hs1,hx,hp1⟩
 exact hp1.nx hs1 ((hE.mono g1).set hx)
end
end M
namespace M
open PySem PySem.Spec L2
theorem zag:∀(env:MEnv) (st:Stor) (as:List D) (st1:Stor),nilA env st=.ok as st1->as.length=([]:List Expr).length:=by
 intro env st as st1 h
 cases h;rfl
theorem zac {e:Expr}{es:List Expr}{a:ME}{r:MA}(h:∀(env:MEnv) (st:Stor) (as:List D) (st1:Stor),r env st=.ok as st1->as.length=es.length) :
  ∀(env:MEnv) (st:Stor) (as:List D) (st1:Stor),consA a r env st=.ok as st1->as.length=(e::es).length:=by
 intro env st as st1 q
 unfold consA at q
 cases h1:a env st with
 | bad=>rw[h1]at q;cases q
 | err x s=>rw[h1]at q;cases q
 | ok x s =>
  rw[h1,R.bind_ok]at q
  cases h2:r env s with
  | bad=>rw[h2]at q;cases q
  | err x s=>rw[h2]at q;cases q
  | ok xs s2 =>
   rw[h2,R.bind_ok]at q
   cases q
   rw[List.length_cons,List.length_cons,h env s xs _ h2]
theorem hu200 {A:Around}{k:Nat}(hr:Room k A):A.units+200<cLine:=by have:=hr.un;omega
noncomputable def fuel:Nat:=1000000
theorem zlk {K:PySem.W.Frag}{H:Hp}{a:Addr}{ns:List Int}(hO:Only H)(hS:SqL K H a (ns.map V.int)):RepS K [a] H [.frz (ns.map D.int)]:=by
 have hv:∀(μ:List Addr) (l:List Int),RepVs K μ H (l.map D.int) (l.map V.int):=fun μ l=>by
  induction l with
  | nil=>exact RepVs.nil
  | cons i l ih=>exact RepVs.cons (RepV.int_iff.mpr rfl) ih
 refine⟨rfl,fun n o e=>?_,fun i j b oi oj ei ej mi mj _ _=>?_⟩
 ·match n,e with
  | 0,e =>
   simp at e;subst e
   refine⟨a,rfl,_,?_,hv _ ns⟩
   rcases hS with (h | ⟨o,h⟩) | h
   ·rcases hO a with z | ⟨o,xs,z⟩
    ·rw[z]at h;cases h
    ·rw[z]at h;cases h
   ·exact .inl ⟨o,h⟩
   ·exact .inr h
  | n+1,e=>simp at e
 ·match i,ei with
  | 0,ei=>simp at ei;subst ei;cases mi
  | i+1,ei=>simp at ei
theorem holds_of {l:PySem.W.OpenLaw}{k:Nat}{q:Program}{loose:List Str}{XP:(Str->Option Value)->Heap->Prop}{YP:World->Heap->Prop}{d:DefRec}{K:Params->PySem.W.Frag}{F:FD}{x:Str}
  (hn:l.most=some 63) (hdf:d.params.defaults=[]) (hr:Room k callerA)
  (hY:∀(w:World) (h:Heap),YP w h->(K w.params).In h)
  (G:∀(w:World) (mg:Str->Option Value) (fa:Addr) (h:Heap),(K w.params).In h->h.Ns mainGlobals mg->mg d.name=some (.ref fa) ->
   ∃fd:FuncData,(∀(s:Shared) (u:Value),BindsTo s fd ⟨[u],[]⟩ [(x,u)])/\∀base:Heap,(K w.params).In base->base.Ns mainGlobals mg->FnOk l.prog w (K w.params) mg base CX0 k fa fd [x] (spM (K w.params) 1 F))
  (hF:∀ns:List Int,ns.length<=63->∃st,F [.loc 0] [.frz (ns.map D.int)]=.ok (.bl true) st) :
  PySem.W.WalkO q loose XP YP l.row.toRowW d [] (fun f vs=>PySem.call f vs) :=
 L2.walk_of (n:=63) (k:=k) (x:=x) (CX:=fun _=>CX0) (sp:=fun w=>spM (K w.params) 1 F) hn (by decide) hdf hr hY G
  (fun w H a ns hl hO hS=>by
   obtain⟨st,e⟩:=hF ns hl
   refine⟨rfl,[a],[.loc 0],_,RepVs.cons (RepV.loc_iff.mpr ⟨a,rfl,rfl⟩) RepVs.nil,zlk hO hS,?_⟩
   rw[e]
   exact fun v H' μ' _ _ hv=>RepV.bl_iff.mp hv) fun _ _ _ _ _ z=>z
end M
namespace M
open L2
theorem zhj {st:Stor}{d:D}(h:under st.length d):gc st (.ok d st)=.ok d st:=by
 have:=zeb (st:=st) (g:=[]) h
 simpa using this
theorem ziw {st:Stor}{o:MO}(h:underO st.length o):gc st (.ok (.loc st.length) (st++[o]))=.ok (.loc st.length) (st++[o]):=by
 have:=gc_new (st:=st) (g:=[]) (g':=[]) h
 simpa using this
theorem zb1 {st l:Stor}{n:Nat}{o:MO}(h:st[n]? = some o):(st++l)[n]? = some o:=by rw[List.getElem?_append_left (List.getElem?_eq_some_iff.mp h).1];exact h
@[simp] theorem zl5 {st l:Stor}:(st++l)[st.length]? = l[0]?:=by rw[List.getElem?_append_right (Nat.le_refl _)];simp
@[simp] theorem set_app0 {st l:Stor} {o:MO}:(st++l).set st.length o=st++l.set 0 o:=by rw[List.set_append_right _ _ (Nat.le_refl _)];simp
@[simp] theorem items_app0 {st l:Stor}:itemsAt (st++l) st.length=itemsAt l 0:=by unfold itemsAt;rw[zl5]
@[simp] theorem items_cons0 {o:MO} {l:Stor}:itemsAt (o::l) 0=(match o with | .lst ds=>some ds | .frz ds=>some ds | _=>none):=by
 unfold itemsAt;cases o<;>rfl
theorem zcm {α:Type}(xs:List α)(k:Nat):atI xs (k:Int)=xs[k]?:=by
 unfold atI ixN
 rw[if_pos (by omega)]
 by_cases h:k<xs.length
 ·rw[if_pos (by omega)];simp
 ·rw[if_neg (by omega)];simp;omega
theorem forGo_all {g:MG}{b:MS}{gs:List (Nat×MO)}{items:List D}(I:List D->MEnv->Stor->Prop){env:MEnv}{st:Stor}(h0:I [] env st)
  (step:∀pre d post env st,items=pre++d::post->I pre env st->okG gs st/\∃env1 st1,g d env st=.ok env1 st1/\∃env2 st2,(b env1 st1=.ok (.nx env2) st2\/b env1 st1=.ok (.cn env2) st2)/\I (pre++[d]) env2 st2)
  (hend:∀env st,I items env st->okG gs st):∃env' st',forGo g b gs items env st=.ok (.nx env') st'/\I items env' st':=by
 have key:∀(post pre:List D) (env:MEnv) (st:Stor),items=pre++post->I pre env st->∃env' st',forGo g b gs post env st=.ok (.nx env') st'/\I items env' st':=by
  intro post
  induction post with
  | nil =>
   intro pre env st e hI
   have:items=pre:=by simpa using e
   subst this
   exact⟨env,st,by rw[forGo,if_pos (hend env st hI)],hI⟩
  | cons d post ih =>
   intro pre env st e hI
   obtain⟨ok,env1,st1,h1,env2,st2,h2,hI2⟩:=step pre d post env st e hI
   obtain⟨env',st',h3,h4⟩:=ih (pre++[d]) env2 st2 (by simp[e]) hI2
   refine⟨env',st',?_,h4⟩
   rw[forGo,if_pos ok,h1,R.bind_ok]
   rcases h2 with h2 | h2<;>(rw[h2,R.bind_ok];exact h3)
 exact key items [] env st rfl h0
theorem zdx {capt:List (Option Nat)}{mi:MI}{g:MG}{t:MT}{e:ME}{env:MEnv}{st st1:Stor}{items:List D}{gs:List (Nat×MO)}(p:D->Bool)(f:D->D)(Pe:MEnv->Prop)
  (hi:mi env st=.ok (items,gs) st1) (h0:Pe (captE capt env)) (hl:items.length<=1000000) (hg:∀ys,okG gs (st1++[.lst ys]))
  (step:∀d∈items,∀env' ys,Pe env'->∃env1,Pe env1/\g d env' (st1++[.lst ys])=.ok env1 (st1++[.lst ys])/\t env1 (st1++[.lst ys])=.ok (p d) (st1++[.lst ys]) /\
   (p d=true->e env1 (st1++[.lst ys])=.ok (f d) (st1++[.lst ys]))) :
  compE capt mi g t e env st=.ok (.loc st1.length) (st1++[.lst ((items.filter p).map f)]):=by
 have key:∀(post:List D) (env':MEnv) (ys:List D),(∀d∈post,d∈items)->Pe env'->ys.length+post.length<=1000000 ->
   compGo g t e gs st1.length post env' (st1++[.lst ys])=.ok (.loc st1.length) (st1++[.lst (ys++(post.filter p).map f)]):=by
  intro post
  induction post with
  | nil=>intro env' ys _ _ _;rw[compGo,if_pos (hg ys)];simp
  | cons d post ih =>
   intro env' ys hm hP hn
   obtain⟨env1,hP1,h1,h2,h3⟩:=step d (hm d (by simp)) env' ys hP
   have hm':∀d∈post,d∈items:=fun d hd=>hm d (List.mem_cons_of_mem _ hd)
   rw[List.length_cons]at hn
   rw[compGo,if_pos (hg ys),h1,R.bind_ok,h2,R.bind_ok]
   cases hp:p d with
   | false =>
    rw[if_neg (by simp),ih env1 ys hm' hP1 (by omega)]
    simp[hp]
   | true =>
    rw[if_pos rfl,h3 hp,R.bind_ok]
    simp only[zl5,List.getElem?_cons_zero]
    rw[if_pos (by omega),set_app0,List.set_cons_zero,ih env1 (ys++[f d]) hm' hP1 (by simp;omega)]
    simp[hp]
 unfold compE
 rw[hi,R.bind_ok,key items (captE capt env) [] (fun d hd=>hd) h0 (by simpa using hl)]
 simp
theorem zgl {capt:List (Option Nat)}{mi:MI}{g:MG}{e:ME}{env:MEnv}{st st1:Stor}{items:List D}{gs:List (Nat×MO)}(f:D->D)(Pe:MEnv->Prop)
  (hi:mi env st=.ok (items,gs) st1) (h0:Pe (captE capt env)) (hl:items.length<=1000000) (hg:∀ys,okG gs (st1++[.lst ys]))
  (step:∀d∈items,∀env' ys,Pe env'->∃env1,Pe env1/\g d env' (st1++[.lst ys])=.ok env1 (st1++[.lst ys])/\e env1 (st1++[.lst ys])=.ok (f d) (st1++[.lst ys])) :
  compE capt mi g yesT e env st=.ok (.loc st1.length) (st1++[.lst (items.map f)]):=by
 have:=zdx (capt:=capt) (mi:=mi) (g:=g) (t:=yesT) (e:=e) (env:=env) (st:=st) (fun _=>true) f Pe hi h0 hl hg fun d hd env' ys hP=>by
  obtain⟨env1,a,b,c⟩:=step d hd env' ys hP
  exact⟨env1,a,b,rfl,fun _=>c⟩
 have e2:items.filter (fun _=>true)=items:=List.filter_eq_self.mpr (by simp)
 rw[e2]at this
 exact this
section
variable (env:MEnv)(st:Stor)(a b:ME)(x y:D)(mA:MA)(tc ta tb:MT)(m1 m2:MS)
@[simp] theorem r_vr (i:Nat):vr i env st=match env[i]? with | some (some d)=>.ok d st | _=>.bad:=zay rfl
@[simp] theorem r_ct (d:D):ct d env st=.ok d st:=zay rfl
@[simp] theorem r_op2 (g:D->D->Stor->R D):op2 g a b env st=(a env st).bind fun x st1=>(b env st1).bind fun y st2=>g x y st2:=zay rfl
@[simp] theorem r_op1 (g:D->Stor->R D):op1 g a env st=(a env st).bind fun x st1=>g x st1:=zay rfl
@[simp] theorem r_tB1 :tB1 a env st=(a env st).bind fun x st1=>match x with | .bl b=>.ok b st1 | _=>.bad:=zay rfl
@[simp] theorem r_tru :tru a env st=(a env st).bind fun x st1=>match truV x st1 with | some b=>.ok b st1 | none=>.bad:=zay rfl
@[simp] theorem r_andT :andT ta tb env st=(ta env st).bind fun x st1=>if x then tb env st1 else .ok false st1:=zay rfl
@[simp] theorem r_orT :orT ta tb env st=(ta env st).bind fun x st1=>if x then .ok true st1 else tb env st1:=zay rfl
@[simp] theorem r_notT :notT ta env st=(ta env st).bind fun x st1=>.ok (!x) st1:=zay rfl
@[simp] theorem r_andV :andV a b env st=(a env st).bind fun x st1=>match x with | .bl true=>b env st1 | .bl false=>.ok (.bl false) st1 | _=>.bad:=zay rfl
@[simp] theorem r_notV :notV a env st=(a env st).bind fun x st1=>match x with | .bl c=>.ok (.bl (!c)) st1 | _=>.bad:=zay rfl
@[simp] theorem r_nilA :nilA env st=.ok [] st:=zay rfl
@[simp] theorem r_consA :consA a mA env st=(a env st).bind fun x st1=>(mA env st1).bind fun xs st2=>.ok (x::xs) st2:=zay rfl
@[simp] theorem r_tupE :tupE mA env st=(mA env st).bind fun ds st1=>if ds.length<=1000000 then .ok (.tup ds) st1 else .bad:=zay rfl
@[simp] theorem r_lstE :lstE mA env st=(mA env st).bind fun ds st1=>if ds.length<=1000000 then .ok (.loc st1.length) (st1++[.lst ds]) else .bad:=zay rfl
@[simp] theorem r_noP :noP env st=.ok none st:=zay rfl
@[simp] theorem r_inP :inP a env st=(a env st).bind fun x st1=>match x with | .int i=>.ok (some i) st1 | _=>.bad:=zay rfl
@[simp] theorem r_slE (l h:MP):slE a l h env st=(a env st).bind fun x st1=>(l env st1).bind fun lo st2=>(h env st2).bind fun hi st3=>slV x lo hi st3:=zay rfl
@[simp] theorem r_callE (g:List D->Stor->R D):callE g mA env st=(mA env st).bind fun ds st1=>g ds st1:=zay rfl
@[simp] theorem r_skipS :skipS env st=.ok (.nx env) st:=zay rfl
@[simp] theorem r_seqS :seqS m1 m2 env st=(m1 env st).bind fun o st1=>match o with | .nx env1=>m2 env1 st1 | o=>.ok o st1:=zay rfl
@[simp] theorem r_retS :retS a env st=(a env st).bind fun d st1=>.ok (.rt d) st1:=zay rfl
@[simp] theorem r_exprS :exprS a env st=(a env st).bind fun _ st1=>.ok (.nx env) st1:=zay rfl
@[simp] theorem r_ifS :ifS tc m1 m2 env st=(tc env st).bind fun x st1=>if x then m1 env st1 else m2 env st1:=zay rfl
@[simp] theorem r_nameG (i:Nat):nameG i x env st=.ok (env.set i (some x)) st:=zay rfl
@[simp] theorem r_asgS (g:MG):asgS a g env st=(a env st).bind fun d st1=>(g d env st1).bind fun env1 st2=>.ok (.nx env1) st2:=zay rfl
@[simp] theorem r_setS (i:Nat):setS i a env st=(a env st).bind fun d st1=>.ok (.nx (env.set i (some d))) st1:=zay rfl
@[simp] theorem r_subG (g:D->D->D->Stor->R Unit) (d:D):subG g a b d env st=(a env st).bind fun x st1=>(b env st1).bind fun y st2=>(g x y d st2).bind fun _ st3=>.ok env st3:=zay rfl
@[simp] theorem r_callF (F:FD) (dd:List D):callF F dd mA env st=(mA env st).bind fun as st1=>(F (as++dd) st1).sure:=zay rfl
@[simp] theorem r_methE (T:String) (g:D->List D->Stor->R D):methE T g a mA env st=(a env st).bind fun x st1=>if isTy T x st1=true then (mA env st1).bind fun xs st2=>g x xs st2 else .bad:=zay rfl
@[simp] theorem r_meth0E (T:String) (g:D->List D->Stor->R D):meth0E T g a env st=(a env st).bind fun x st1=>if isTy T x st1=true then g x [] st1 else .bad:=zay rfl
@[simp] theorem r_forS (mi:MI) (g:MG):forS mi g m1 env st=(mi env st).bind fun s st1=>forGo g m1 s.2 s.1 env st1:=zay rfl
@[simp] theorem r_seqI :seqI a env st=(a env st).bind fun d st1=>match d with
 | .loc n=>(match st1[n]? with
  | some (.lst ds)=>.ok (ds,[(n,.lst ds)]) st1
  | some (.frz ds)=>.ok (ds,[(n,.frz ds)]) st1
  | _=>.bad)
 | .tup ds=>.ok (ds,[]) st1
 | _=>.bad:=zay rfl
@[simp] theorem r_range1I :range1I mA env st=(mA env st).bind fun ds st1=>match ds with
 | [.int j]=>if -(2 ^ 62)<=j/\j<2 ^ 62 then .ok (upto 0 j.toNat,[]) st1 else .bad
 | _=>.bad:=zay rfl
@[simp] theorem r_enumI :enumI mA env st=(mA env st).bind fun ds st1=>match ds with
 | [.loc n]=>(match lstG st1 n with | some (xs,o)=>.ok (enumL 0 xs,[(n,o)]) st1 | none=>.bad)
 | _=>.bad:=zay rfl
@[simp] theorem zi6 (i j:Int):addV (.int i) (.int j) st=.ok (.int (i+j)) st:=zay rfl
theorem zcl (i j:Int)(h:(-(2 ^ 64)<i/\i<2 ^ 64)\/(-(2 ^ 64)<j/\j<2 ^ 64)):mulV (.int i) (.int j) st=.ok (.int (i*j)) st:=by
 unfold mulV intV;dsimp only;rw[if_pos h]
theorem za0 (i j:Int)(h:0<j/\j<2 ^ 64):fdivV (.int i) (.int j) st=.ok (.int (i / j)) st:=by
 unfold fdivV intV;dsimp only;rw[if_pos h]
theorem zao (i j:Int)(h:0<j):modV (.int i) (.int j) st=.ok (.int (i % j)) st:=by
 unfold modV intV;dsimp only;rw[if_pos h]
@[simp] theorem r_lt_int (i j:Int):ltV (.int i) (.int j) st=.ok (.bl (decide (i<j))) st:=by simp[ltV,intV]
@[simp] theorem r_le_int (i j:Int):leV (.int i) (.int j) st=.ok (.bl (decide (i<=j))) st:=by simp[leV,intV]
@[simp] theorem r_gt_int (i j:Int):gtV (.int i) (.int j) st=.ok (.bl (decide (j<i))) st:=by simp[gtV,intV]
@[simp] theorem r_neg_int (i:Int):negV (.int i) st=.ok (.int (-i)) st:=zay rfl
@[simp] theorem r_eq_int (L:Nat) (i j:Int):eqV (L+1) (.int i) (.int j) st=.ok (.bl (decide (i=j))) st:=by
 have e:(i==j)=decide (i=j):=by rw[Bool.eq_iff_iff];simp
 simp only[eqV,eqR,eqD,e,zl7,zk3]
 rw[if_pos ⟨trivial,trivial,Nat.succ_pos L⟩]
@[simp] theorem r_ne_int (L:Nat) (i j:Int):neV (L+1) (.int i) (.int j) st=.ok (.bl (!decide (i=j))) st:=by
 have e:(i==j)=decide (i=j):=by rw[Bool.eq_iff_iff];simp
 simp only[neV,eqR,eqD,e,zl7,zk3]
 rw[if_pos ⟨trivial,trivial,Nat.succ_pos L⟩]
@[simp] theorem r_eq_str (L:Nat) (i j:List Nat):eqV (L+1) (.str i) (.str j) st=.ok (.bl (decide (i=j))) st:=by
 have e:(i==j)=decide (i=j):=by rw[Bool.eq_iff_iff];simp
 simp only[eqV,eqR,eqD,e,flat_str,cdep_str]
 rw[if_pos ⟨trivial,trivial,Nat.succ_pos L⟩]
theorem zhl (L m n:Nat)(ds:List D)(h1:itemsAt st m=some ds)(h2:itemsAt st n=some ds)(hf:flats ds=true)(hd:deps ds+deps ds+1<L):eqV L (.loc m) (.loc n) st=.ok (.bl true) st:=by
 have e:eqR L (.loc m) (.loc n) st=some true:=by
  simp only[eqR,h1,h2]
  rw[if_pos ⟨hf,hf,by have:=zib ds ds;omega⟩,zgw _ hf]
 unfold eqV;rw[e]
theorem zcq (n:Nat)(i:Int)(ds:List D)(d:D)(h:itemsAt st n=some ds)(hi:atI ds i=some d):ixV (.loc n) (.int i) st=.ok d st:=by
 simp[ixV,h,hi]
theorem zb7 (i:Int)(ds:List D)(d:D)(hi:atI ds i=some d):ixV (.tup ds) (.int i) st=.ok d st:=by
 simp[ixV,hi]
theorem r_len_loc (n:Nat)(ds:List D)(h:itemsAt st n=some ds):lenV [.loc n] st=.ok (.int ds.length) st:=by simp[lenV,h]
@[simp] theorem r_is_int (T:String) (i:Int):isV T (.int i) st=.ok (.bl (subTy "int" T)) st:=zay rfl
theorem zfk (n:Nat)(ds:List D)(h:itemsAt st n=some ds):listC [.loc n] st=.ok (.loc st.length) (st++[.lst ds]):=by simp[listC,h]
end
end M
namespace L2
open PySem PySem.Spec PyProof.Rows
section
variable {κ:Type}[DecidableEq κ]
noncomputable def valV (kvs:List (κ×V))(k:κ):Option V:=(kvs.find? fun kv=>decide (kv.1=k)).map (·.2)
noncomputable def putK (kvs:List (κ×V))(k:κ)(v:V):List (κ×V) :=
 if (kvs.any fun kv=>decide (kv.1=k))=true then kvs.map (fun kv=>if kv.1=k then (kv.1,v) else kv) else kvs++[(k,v)]
theorem zgo {p:κ×V}{r:List (κ×V)}{k:κ}(e:p.1=k):valV (p::r) k=some p.2:=by simp[valV,List.find?_cons,e]
theorem zg2 {p:κ×V}{r:List (κ×V)}{k:κ}(e:¬ p.1=k):valV (p::r) k=valV r k:=by simp[valV,List.find?_cons,e]
theorem zl3 (k:κ):∀kvs:List (κ×V),(kvs.any fun kv=>decide (kv.1=k))=(valV kvs k).isSome
 | []=>rfl
 | p::r=>by
  rw[List.any_cons]
  by_cases e:p.1=k
  ·simp only[zgo e,decide_eq_true e,Bool.true_or,Option.isSome_some]
  ·rw[zg2 e,decide_eq_false e,Bool.false_or];exact zl3 k r
theorem zf7 (kvs:List (κ×V))(k:κ)(v:V):(putK kvs k v).length<=kvs.length+1:=by
 unfold putK
 split
 ·rw[List.length_map];omega
 ·rw[List.length_append,List.length_cons,List.length_nil];omega
theorem RelO.isSome_eq {o:Option V}{u:Option Value}(r:RelO o u):o.isSome=u.isSome:=by
 cases o with
 | none=>cases u with
  | none=>rfl
  | some _=>exact (show False from r).elim
 | some _=>cases u with
  | none=>exact (show False from r).elim
  | some _=>rfl
theorem KV.val {kvs:List (κ×V)}{vs:List (κ×Value)}(r:KV kvs vs)(k:κ):RelO (valV kvs k) (valueAt vs k):=by
 unfold KV at r
 induction r with
 | nil=>exact True.intro
 | @cons p q ps qs h t ih =>
  obtain⟨h1,h2⟩:=h
  by_cases e:p.1=k
  ·have e':q.1=k:=h1.symm.trans e
   have b:valueAt (q::qs) k=some q.2:=by simp[valueAt,List.find?_cons,e']
   rw[zgo e,b];exact h2
  ·have e':¬ q.1=k:=fun z=>e (h1.trans z)
   have b:valueAt (q::qs) k=valueAt qs k:=by simp[valueAt,List.find?_cons,e']
   rw[zg2 e,b];exact ih
theorem KV.any {kvs:List (κ×V)}{vs:List (κ×Value)}(r:KV kvs vs)(k:κ):(kvs.any fun kv=>decide (kv.1=k))=vs.any fun kv=>decide (kv.1=k):=by
 unfold KV at r
 induction r with
 | nil=>rfl
 | cons h t ih=>rw[List.any_cons,List.any_cons,ih,h.1]
theorem KV.repl {kvs:List (κ×V)}{vs:List (κ×Value)}(r:KV kvs vs)(k:κ){y:V}{u:Value}(ry:RelV y u) :
  KV (kvs.map fun kv=>if kv.1=k then (kv.1,y) else kv) (vs.map fun kv=>if kv.1=k then (kv.1,u) else kv):=by
 unfold KV at r ⊢
 induction r with
 | nil=>exact .nil
 | @cons p q ps qs h t ih =>
  rw[List.map_cons,List.map_cons]
  refine .cons ?_ ih
  obtain⟨h1,h2⟩:=h
  by_cases e:p.1=k
  ·rw[if_pos e,if_pos (h1.symm.trans e)];exact⟨h1,ry⟩
  ·rw[if_neg e,if_neg (fun z=>e (h1.trans z))];exact⟨h1,h2⟩
theorem KV.put {kvs:List (κ×V)}{vs:List (κ×Value)}(r:KV kvs vs)(k:κ){y:V}{u:Value}(ry:RelV y u):KV (putK kvs k y) (stored vs k u):=by
 unfold putK stored
 rw[r.any k]
 by_cases e:(vs.any fun kv=>decide (kv.1=k))=true
 ·rw[if_pos e,if_pos e];exact r.repl k ry
 ·rw[if_neg e,if_neg e];exact Paired.snoc r ⟨rfl,ry⟩
theorem KV.length {kvs:List (κ×V)}{vs:List (κ×Value)}(r:KV kvs vs):kvs.length=vs.length:=Paired.length r
end
theorem kV_is {P:Program}{w:World}{k:Key}{u:Value}(r:RelV (kV k) u):(mixKind P w).is k u=true:=by
 cases k with
 | inl i=>obtain⟨t,e⟩:=(show ∃t,u=Value.int i t from r);subst e;exact zj1 P w i t
 | inr x=>obtain⟨t,e⟩:=(show ∃t,u=Value.str x t from r);subst e;exact zjw P w x t
theorem zje {P:Program}{w:World}:∀{ks:List Key} {us:List Value},Vals (ks.map kV) us->ItemsAre (mixKind P w) ks us
 | [],_,r=>by rw[List.map_nil]at r;cases r;exact .nil
 | k::ks,_,r=>by
  rw[List.map_cons]at r
  cases r with
  | cons h t=>exact .cons (kV_is h) (zje t)
noncomputable abbrev KT (H:Hp):List (List Key×V)->List (List Key×Addr×Value)->Prop:=Paired fun p q=>p.1=q.1/\H q.2.1=some (.tup (p.1.map kV))/\RelV p.2 q.2.2
theorem KT.val {H:Hp}{kvs:List (List Key×V)}{xs:List (List Key×Addr×Value)}(r:KT H kvs xs)(k:List Key):RelO (valV kvs k) ((atKey xs k).map (·.2)):=by
 induction r with
 | nil=>exact True.intro
 | @cons p q ps qs h t ih =>
  obtain⟨h1,_,h2⟩:=h
  by_cases e:p.1=k
  ·have e':q.1=k:=h1.symm.trans e
   have b:atKey (q::qs) k=some q.2:=by simp[atKey,List.find?_cons,e']
   rw[zgo e,b];exact h2
  ·have e':¬ q.1=k:=fun z=>e (h1.trans z)
   have b:atKey (q::qs) k=atKey qs k:=by simp[atKey,List.find?_cons,e']
   rw[zg2 e,b];exact ih
theorem KT.repl {H:Hp}{kvs:List (List Key×V)}{xs:List (List Key×Addr×Value)}(r:KT H kvs xs)(k:List Key){y:V}{u:Value}(ry:RelV y u) :
  KT H (kvs.map fun kv=>if kv.1=k then (kv.1,y) else kv) (xs.map (putAt k u)):=by
 induction r with
 | nil=>exact .nil
 | @cons p q ps qs h t ih =>
  rw[List.map_cons,List.map_cons]
  refine .cons ?_ ih
  obtain⟨h1,h2,h3⟩:=h
  unfold putAt
  by_cases e:p.1=k
  ·rw[if_pos e,if_pos (h1.symm.trans e)];exact⟨h1,h2,ry⟩
  ·rw[if_neg e,if_neg (fun z=>e (h1.trans z))];exact⟨h1,h2,h3⟩
theorem KT.put {H:Hp}{kvs:List (List Key×V)}{xs:List (List Key×Addr×Value)}(r:KT H kvs xs)(k:List Key){b:Addr}{y:V}{u:Value}(hb:H b=some (.tup (k.map kV)))(ry:RelV y u) :
  KT H (putK kvs k y) (storedH xs k b u):=by
 have e:(kvs.any fun kv=>decide (kv.1=k))=(atKey xs k).isSome:=by
  rw[zl3,(r.val k).isSome_eq,Option.isSome_map]
 unfold putK storedH
 rw[e]
 by_cases q:(atKey xs k).isSome=true
 ·rw[if_pos q,if_pos q];exact r.repl k ry
 ·rw[if_neg q,if_neg q];exact Paired.snoc r ⟨rfl,hb,ry⟩
theorem KT.keeps {H H':Hp}{kvs:List (List Key×V)}{xs:List (List Key×Addr×Value)}(r:KT H kvs xs)(ht:∀b ys,H b=some (.tup ys)->H' b=some (.tup ys)):KT H' kvs xs :=
 Paired.mapP r fun _ _ z=>⟨z.1,ht _ _ z.2.1,z.2.2⟩
section
variable {P:Program}{w:World}{H:Hp}{h:Heap}{a:Addr}
theorem rd_of {u:HO}(ok:HOk P w H h)(e:Rd H a u):ObjOk P w H h a u:=e.ok ok
theorem dk_rd {kvs:List (Key×V)}(ok:HOk P w H h)(e:Rd H a (.dK kvs)):kvs.length<=sizeLine/\(a==sysModules)=false/\∃vs,KV kvs vs/\h.DictOf (mixKind P w) a vs :=
 show ObjOk P w H h a (.dK kvs) from rd_of ok e
theorem dk_of {kvs:List (Key×V)}(ok:HOk P w H h)(e:H a=some (.dK kvs)):kvs.length<=sizeLine/\(a==sysModules)=false/\∃vs,KV kvs vs/\h.DictOf (mixKind P w) a vs:=dk_rd ok (.inl e)
theorem zj3 {ks:List Key}(ok:HOk P w H h)(e:H a=some (.tup (ks.map kV))):(tupleKind (mixKind P w)).is h ks a:=by
 obtain⟨_,its,r,o,h1,h2,n,h3⟩:=(show ObjOk P w H h a (.tup (ks.map kV)) from ok a _ e)
 exact⟨o,its.toArray,n,h1,h2,h3,by simpa using zje r⟩
theorem dt_rd {kvs:List (List Key×V)}(ok:HOk P w H h)(e:Rd H a (.dT kvs)):kvs.length<=sizeLine/\(a==sysModules)=false /\
  ∃xs,KT H kvs xs/\h.DictOfH (tupleKind (mixKind P w)) a xs:=by
 obtain⟨z,y,xs,r,o,es,ep,h1,h2,h3,h4,h5⟩:=(show ObjOk P w H h a (.dT kvs) from rd_of ok e)
 refine⟨z,y,xs,r,o,es,ep,h1,h2,h3,h4,fun x hx=>?_,h5⟩
 have all:∀{l:List (List Key×V)} {m:List (List Key×Addr×Value)},KT H l m->∀x∈m,(tupleKind (mixKind P w)).is h x.1 x.2.1:=by
  intro l m q
  induction q with
  | nil=>intro x hx;exact nomatch hx
  | @cons p q ps qs hq t ih =>
   intro x hx
   rcases List.mem_cons.mp hx with e | hx
   ·subst e
    exact zj3 ok (by rw[<-hq.1];exact hq.2.1)
   ·exact ih x hx
 exact all r x hx
theorem dt_of {kvs:List (List Key×V)}(ok:HOk P w H h)(e:H a=some (.dT kvs)):kvs.length<=sizeLine/\(a==sysModules)=false /\
  ∃xs,KT H kvs xs/\h.DictOfH (tupleKind (mixKind P w)) a xs:=dt_rd ok (.inl e)
end
noncomputable def DGet (H:Hp)(a:Addr)(y:V)(r:Option V):Prop :=
 (∃kvs k,Rd H a (.dK kvs)/\y=kV k/\r=valV kvs k)\/∃kvs k b,Rd H a (.dT kvs)/\y=.ref b/\H b=some (.tup (k.map kV))/\r=valV kvs k
noncomputable def DPut (H:Hp)(a:Addr)(y v:V)(H':Hp):Prop :=
 (∃kvs k,H a=some (.dK kvs)/\y=kV k/\kvs.length<sizeLine/\H'=upd H a (.dK (putK kvs k v))) \/
 ∃kvs k b,H a=some (.dT kvs)/\y=.ref b/\H b=some (.tup (k.map kV))/\kvs.length<sizeLine/\H'=upd H a (.dT (putK kvs k v))
theorem DGet.t {H:Hp}{a b:Addr}{kvs:List (List Key×V)}{k:List Key}(e:H a=some (.dT kvs))(eb:H b=some (.tup (k.map kV))):DGet H a (.ref b) (valV kvs k):=.inr ⟨kvs,k,b,.inl e,rfl,eb,rfl⟩
theorem DPut.k {H:Hp}{a:Addr}{kvs:List (Key×V)}{k:Key}{v:V}(e:H a=some (.dK kvs))(hl:kvs.length<sizeLine):DPut H a (kV k) v (upd H a (.dK (putK kvs k v))):=.inl ⟨kvs,k,e,rfl,hl,rfl⟩
theorem DPut.t {H:Hp}{a b:Addr}{kvs:List (List Key×V)}{k:List Key}{v:V}(e:H a=some (.dT kvs))(eb:H b=some (.tup (k.map kV)))(hl:kvs.length<sizeLine) :
  DPut H a (.ref b) v (upd H a (.dT (putK kvs k v))):=.inr ⟨kvs,k,b,e,rfl,eb,hl,rfl⟩
section
variable {X:Cx}{pins:List (Addr×Obj)}{σ:St}{H:Hp}{s:Shared}{a:Addr}{y v:V}{u r:Value}{o:Option V}{A:Around}{E:Value->Shared->Prop}
theorem Inv.big (I:Inv X pins σ H s):sysModules<s.heap.objs.size:=by
 have h:mainGlobals<s.heap.objs.size:=(I.mod.glob.keeps I.bk).lt
 exact Nat.lt_trans (by decide) h
theorem d_getItem {Q:Value->Shared->Prop}(hu:A.units+1<cLine)(I:Inv X pins σ H s)(g:DGet H a y (some v))(ry:RelV y u)(h:∀w' s',Inv X pins σ H s'->RelV v w'->Q w' s') :
  wpAny (model X.prog X.w) A (getItem (.ref a) u) Q E s:=by
 rcases g with⟨kvs,k,e,ey,l⟩ | ⟨kvs,k,b,e,ey,eb,l⟩
 ·subst ey
  obtain⟨z,hd,vs,rel,dd⟩:=dk_rd I.hok e
  obtain⟨w',hw,rw'⟩:=RelO.some_of (v:=v) (o:=valueAt vs k) (by rw[l];exact rel.val k)
  exact wpAny_getItem_of (kV_is ry) dd.mapOf hw (h w' _ (I.tok _) rw')
 ·subst ey
  cases (show u=Value.ref b from ry)
  obtain⟨z,hd,xs,rel,dd⟩:=dt_rd I.hok e
  obtain⟨w',hw,rw'⟩:=RelO.some_of (v:=v) (o:=(atKey xs k).map (·.2)) (by rw[l];exact rel.val k)
  obtain⟨p,hp,hp2⟩:=Option.map_eq_some_iff.mp hw
  refine wpAny_getItem_heap (tupleKind_room_in1 hu) (zj3 I.hok eb) dd hp ?_
  rw[hp2]
  exact h w' _ (I.tok _) rw'
theorem d_in {Q:Value->Shared->Prop}(hu:A.units+1<cLine)(I:Inv X pins σ H s)(g:DGet H a y o)(ry:RelV y u)(h:∀s',Inv X pins σ H s'->Q (.bool o.isSome) s') :
  wpAny (model X.prog X.w) A (compareOp .In u (.ref a)) Q E s:=by
 rcases g with⟨kvs,k,e,ey,l⟩ | ⟨kvs,k,b,e,ey,eb,l⟩
 ·subst ey
  obtain⟨z,hd,vs,rel,dd⟩:=dk_rd I.hok e
  refine wpAny_in_of (kV_is ry) hd dd.mapOf ?_
  rw[<-(rel.val k).isSome_eq,<-l]
  exact h _ (I.tok _)
 ·subst ey
  cases (show u=Value.ref b from ry)
  obtain⟨z,hd,xs,rel,dd⟩:=dt_rd I.hok e
  refine wpAny_in_heap (tupleKind_room_in1 hu) (zj3 I.hok eb) hd dd ?_
  have q:=(rel.val k).isSome_eq
  rw[Option.isSome_map]at q
  rw[<-q,<-l]
  exact h _ (I.tok _)
theorem d_notIn {Q:Value->Shared->Prop}(hu:A.units+1<cLine)(I:Inv X pins σ H s)(g:DGet H a y o)(ry:RelV y u)(h:∀s',Inv X pins σ H s'->Q (.bool (!o.isSome)) s') :
  wpAny (model X.prog X.w) A (compareOp .NotIn u (.ref a)) Q E s:=by
 rcases g with⟨kvs,k,e,ey,l⟩ | ⟨kvs,k,b,e,ey,eb,l⟩
 ·subst ey
  obtain⟨z,hd,vs,rel,dd⟩:=dk_rd I.hok e
  refine wpAny_notIn_of (kV_is ry) hd dd.mapOf ?_
  rw[<-(rel.val k).isSome_eq,<-l]
  exact h _ (I.tok _)
 ·subst ey
  cases (show u=Value.ref b from ry)
  obtain⟨z,hd,xs,rel,dd⟩:=dt_rd I.hok e
  refine wpAny_notIn_heap (tupleKind_room_in1 hu) (zj3 I.hok eb) hd dd ?_
  have q:=(rel.val k).isSome_eq
  rw[Option.isSome_map]at q
  rw[<-q,<-l]
  exact h _ (I.tok _)
theorem d_write {h':Heap}{t':Nat}{ob:HO}(I:Inv X pins σ H s)(mu:Mut (H a))(hs:Heap.SameBut a s.heap h')(he:∃q,h'.get? a=some q)(new:ObjOk X.prog X.w (upd H a ob) h' a ob) :
  Inv X pins σ (upd H a ob) { s with heap:=h',toks:=t' } :=
 I.write (x:=a) (e:=a) mu (.inl rfl) (fun b q hb z=>(hs.2 b hb).trans z) he new
theorem dk_new {P:Program}{w:World}{H':Hp}{h':Heap}{kvs:List (Key×V)}{vs:List (Key×Value)}(z:kvs.length<=sizeLine)(hd:(a==sysModules)=false)(rel:KV kvs vs)(dd:h'.DictOf (mixKind P w) a vs) :
  ObjOk P w H' h' a (.dK kvs):=⟨z,hd,vs,rel,dd⟩
theorem zi3 {H':Hp}{Q:Unit->Shared->Prop}(hu:A.units+1<cLine)(I:Inv X pins σ H s)(g:DPut H a y v H')(ry:RelV y u)(rv:RelV v r)(h:∀s',Inv X pins σ H' s'->Q () s') :
  wpAny (model X.prog X.w) A (setItem (.ref a) u r) Q E s:=by
 rcases g with⟨kvs,k,e,ey,l,eH⟩ | ⟨kvs,k,b,e,ey,eb,l,eH⟩
 ·subst ey eH
  obtain⟨z,hd,vs,rel,dd⟩:=dk_of I.hok e
  have hz:vs.length<=sizeLine:=by rw[<-rel.length];exact z
  have hl:(putK kvs k v).length<=sizeLine:=by have:=zf7 kvs k v;omega
  refine wpAny_setItem_pairs (hsz:=hz) (kV_is ry) dd fun h' dd' hs=>h _ ?_
  have he:∃q,h'.get? a=some q:=let ⟨q,_,_,hq,_⟩:=dd';⟨q,hq⟩
  exact d_write I (by rw[e];exact True.intro) hs he (dk_new hl hd (rel.put k rv) dd')
 ·subst ey eH
  cases (show u=Value.ref b from ry)
  obtain⟨z,hd,xs,rel,dd⟩:=dt_of I.hok e
  have hz:xs.length<=sizeLine:=by rw[<-Paired.length rel];exact z
  have hl:(putK kvs k v).length<=sizeLine:=by have:=zf7 kvs k v;omega
  refine wpAny_setItem_heap (hsz:=hz) (tupleKind_room_in1 hu) (zj3 I.hok eb) dd fun h' dd' hs=>h _ ?_
  obtain⟨q,es,ep,hq,h2,h3,h4,_,h5⟩:=dd'
  refine d_write I (by rw[e];exact True.intro) hs ⟨q,hq⟩ ⟨hl,hd,_,(rel.put k eb rv).keeps fun c ys ec=>?_,q,es,ep,hq,h2,h3,h4,h5⟩
  rw[zai (ne_of ec e (fun z=>nomatch z))]
  exact ec
end
section
variable {X:Cx}{pins:List (Addr×Obj)}{σ:St}{H:Hp}{s:Shared}{a:Addr}{kvs:List (Key×V)}{k:Key}{u:Value}{A:Around}{E:Value->Shared->Prop}
theorem d_len {Q:Value->Shared->Prop}(I:Inv X pins σ H s)(e:Rd H a (.dK kvs))(h:∀t s',Inv X pins σ H s'->Q (.int kvs.length t) s'):wpAny (model X.prog X.w) A (call (.builtin "len") [.ref a]) Q E s:=by
 obtain⟨z,hd,vs,rel,dd⟩:=dk_rd I.hok e
 refine call_len_dict hd dd (by rw[<-rel.length];rw[sizeLine_eq]at z;omega) ?_
 rw[<-rel.length]
 exact h _ _ (I.tok _)
end
noncomputable def NoSl (i:Expr):Prop:=∀ov iv,subscripted i false ov iv=operate [ov,iv] (getItem ov iv)
theorem subD_of {prog:Program}{w:World}{A:Around}{E:Value->Shared->Prop}{s:Shared}{env:Env}{value slice:Expr}{pos:Pos}{T id:String}{Q:Value->Shared->Prop}
  (hl:typeLookup (.type T) "__getitem__" = pure (some (.builtin id))) (hs:NoSl slice)
  (h:wpAny (model prog w) A (eval value env) (fun o s₁=>wpAny (model prog w) A (eval slice env) (fun i s₂=>s₂.TypeIs o T/\wpAny (model prog w) A (getItem o i) Q E s₂) E s₁) E s) :
  wpAny (model prog w) A (eval (.Subscript value slice pos) env) Q E s:=by
 refine Subscript_ (wpAny_mono h (fun o s₁ h₁=>wpAny_mono h₁ (fun i s₂ h₂=>?_) fun _ _ x=>x) fun _ _ x=>x)
 obtain⟨hT,h₂⟩:=h₂
 unfold subscriptTail
 refine wpAny_bind ?_
 rw[getitemInPython_of_ne hT.not_modules]
 refine wpAny_bind (wpAny_specialOf hT hl ?_)
 have fin:wpAny (model prog w) A (subscripted slice false o i) (fun r s₃=>wpAny (model prog w) A (letTemporaryGo value o r >>= fun _=>pure r) Q E s₃) E s₂:=by
  rw[hs o i]
  exact wpAny_operating (wpAny_mono h₂ (fun r s₃ h₃=>wpAny_bind (wpAny_letTemporaryGo (wpAny_pure h₃))) fun _ _ x=>x)
 first
  | exact wpAny_pure (wpAny_bind fin)
  | exact wpAny_bind (wpAny_pure (wpAny_bind fin))
  | exact wpAny_bind fin
theorem zjt {X:Cx}{pins:List (Addr×Obj)}{σ:St}{H:Hp}{s:Shared}{a:Addr}{y:V}{o:Option V}(I:Inv X pins σ H s)(g:DGet H a y o):s.TypeIs (.ref a) "dict":=by
 rcases g with⟨kvs,k,e,_,_⟩ | ⟨kvs,k,b,e,_,_,_⟩
 ·obtain⟨_,_,vs,_,dd⟩:=dk_rd I.hok e
  exact dd.typeIs
 ·obtain⟨_,_,xs,_,dd⟩:=dt_rd I.hok e
  exact dd.typeIs
noncomputable def tDGet (td ty:TE):TE:=fun σ H Q=>td σ H fun x H1=>ty σ H1 fun y H2=>∃a v,x=.ref a/\DGet H2 a y (some v)/\Q v H2
section
variable {X:Cx}{o i e value:Expr}{pos pos' tpos:Pos}{td ty tv:TE}
theorem pe_dget (hu:X.A.units+1<cLine)(ho:PE X o td)(hi:PE X i ty)(hs:NoSl i):PE X (.Subscript o i pos) (tDGet td ty):=by
 intro pins s σ H Q I h
 refine subD_of PySem.F.slot_dict_getitem.lookup hs (thn (ho pins s σ H _ I h) fun u s1 zz=>?_)
 obtain⟨x,H1,I1,rx,q1⟩:=zz
 refine thn (hi pins s1 σ H1 _ I1 q1) fun iv s2 zz=>?_
 obtain⟨y,H2,I2,ry,a,v,ex,g,q2⟩:=zz
 subst ex
 obtain rfl:u=Value.ref a:=rx
 exact⟨zjt I2 g,d_getItem hu I2 g ry fun w' s3 I3 rw'=>⟨v,H2,I3,rw',q2⟩⟩
end
theorem dk_empty {P:Program}{w:World}{H:Hp}(h:Heap)(hb:sysModules<h.objs.size):ObjOk P w H (h.push { cls:=.type "dict",data:=.dict #[] }) h.objs.size (.dK []) :=
 ⟨Nat.zero_le _,beq_eq_false_iff_ne.mpr (Ne.symm (Nat.ne_of_lt hb)),[],.nil,Heap.DictOf.new h⟩
theorem dt_empty {P:Program}{w:World}{H:Hp}(h:Heap)(hb:sysModules<h.objs.size):ObjOk P w H (h.push { cls:=.type "dict",data:=.dict #[] }) h.objs.size (.dT []) :=
 ⟨Nat.zero_le _,beq_eq_false_iff_ne.mpr (Ne.symm (Nat.ne_of_lt hb)),[],.nil,_,#[],0,Heap.get?_push_size _ rfl,⟨rfl,rfl,rfl⟩,rfl,rfl,List.nodup_nil⟩
noncomputable def tDNewK:TE:=fun _ H Q=>∀p,H p=none->Q (.ref p) (upd H p (.dK []))
noncomputable def tDNewT:TE:=fun _ H Q=>∀p,H p=none->Q (.ref p) (upd H p (.dT []))
section
variable {X:Cx}{pos:Pos}
theorem pe_dnewK:PE X (.Dict [] [] pos) tDNewK:=fun pins s σ H Q I h =>
 wpAny_Dict_empty ⟨.ref s.heap.objs.size,_,I.laid (a:=s.heap.objs.size) (o:=.dK []) (t':=s.toks) (fun _ _ q=>Heap.get?_push_of_some _ q) (Nat.le_refl _) (dk_empty s.heap I.big),rfl,h _ (I.hok.fresh (Nat.le_refl _))⟩
theorem pe_dnewT:PE X (.Dict [] [] pos) tDNewT:=fun pins s σ H Q I h =>
 wpAny_Dict_empty ⟨.ref s.heap.objs.size,_,I.laid (a:=s.heap.objs.size) (o:=.dT []) (t':=s.toks) (fun _ _ q=>Heap.get?_push_of_some _ q) (Nat.le_refl _) (dt_empty s.heap I.big),rfl,h _ (I.hok.fresh (Nat.le_refl _))⟩
end
structure M1 (X:Cx)(o:Expr)(m:Str)(apos:Pos)(e:Expr)(cpos:Pos):Prop where
 base:attributeBase o m X.env (eval o X.env)=eval o X.env
 few:((backTo cpos (starEach [e] X.env)).all (fun x=>!x.1) && (backToKw cpos (keywordEach [] X.env)).all (fun x=>x.1.isSome)
  && decide (([e]:List Expr).length+([]:List Keyword).length+(if ([]:List Keyword).isEmpty then 0 else 1)<30))=true
 line:(apos.endLine==cpos.line)=true
 trees:backTo cpos (starEach [e] X.env)=[(false,eval e X.env)]
structure M2 (X:Cx)(o:Expr)(m:Str)(apos:Pos)(e f:Expr)(cpos:Pos):Prop where
 base:attributeBase o m X.env (eval o X.env)=eval o X.env
 few:((backTo cpos (starEach [e,f] X.env)).all (fun x=>!x.1) && (backToKw cpos (keywordEach [] X.env)).all (fun x=>x.1.isSome)
  && decide (([e,f]:List Expr).length+([]:List Keyword).length+(if ([]:List Keyword).isEmpty then 0 else 1)<30))=true
 line:(apos.endLine==cpos.line)=true
 trees:backTo cpos (starEach [e,f] X.env)=[(false,eval e X.env),(false,eval f X.env)]
section
variable {X:Cx}{pins:List (Addr×Obj)}{σ:St}{H:Hp}{s:Shared}{a:Addr}{y d:V}{u r:Value}{o:Option V}{A:Around}{E:Value->Shared->Prop}
end
section
variable {X:Cx}{o e f:Expr}{apos cpos:Pos}{td ty tx:TE}
end
section
variable {X:Cx}{pins:List (Addr×Obj)}{σ:St}{H:Hp}{s:Shared}{a:Addr}{kvs:List (Key×V)}{A:Around}{E:Value->Shared->Prop}
end
section
variable {X:Cx}{pins:List (Addr×Obj)}{σ:St}{H:Hp}{s:Shared}{a:Addr}{y:V}{u:Value}{A:Around}{E:Value->Shared->Prop}
end
end L2
namespace L2
open PySem PySem.Spec PyProof.Rows
section
variable {X:Cx}{pins:List (Addr×Obj)}{σ:St}{H:Hp}{s:Shared}{a b:Addr}{v:V}{u r:Value}{A:Around}{E:Value->Shared->Prop}{kvs:List (List Key×V)}{k:List Key}
end
end L2
namespace M
open PySem PySem.Spec L2
noncomputable def keyOf:D->Option Key
 | .int i=>some (.inl i)
 | .str cs=>some (.inr (strOf cs))
 | _=>none
noncomputable def keysOf:List D->Option (List Key)
 | []=>some []
 | d::ds=>(keyOf d).bind fun k=>(keysOf ds).map fun ks=>k::ks
noncomputable def valM (kvs:List (List Key×D))(k:List Key):Option D:=(kvs.find? fun kv=>decide (kv.1=k)).map (·.2)
@[simp] theorem keyOf_int (i:Int):keyOf (.int i)=some (.inl i):=zay rfl
@[simp] theorem keyOf_str (cs:List Nat):keyOf (.str cs)=some (.inr (strOf cs)):=zay rfl
@[simp] theorem zlu:keysOf []=some []:=zay rfl
@[simp] theorem zgg (d:D) (ds:List D):keysOf (d::ds)=(keyOf d).bind fun k=>(keysOf ds).map fun ks=>k::ks:=zay rfl
@[simp] theorem valM_nil (k:List Key):valM [] k=none:=zay rfl
theorem zg4 (p:List Key×D)(r:List (List Key×D))(k:List Key):valM (p::r) k=if p.1=k then some p.2 else valM r k:=by
 unfold valM
 rw[List.find?_cons]
 by_cases h:p.1=k
 ·simp[h]
 ·simp[h]
theorem RepVs.keys {K:PySem.W.Frag}{μ:List Addr}{H:Hp}:∀{ds:List D} {xs:List V} {ks:List Key},RepVs K μ H ds xs->keysOf ds=some ks->xs=ks.map kV
 | [],xs,ks,h,e=>by
  rw[RepVs]at h
  rw[zlu]at e;cases e;exact h
 | d::ds,xs,ks,h,e=>by
  rw[RepVs]at h
  obtain⟨v,r,rfl,h1,h2⟩:=h
  rw[zgg]at e
  cases e1:keyOf d with
  | none=>rw[e1]at e;cases e
  | some k1 =>
   rw[e1]at e
   cases e2:keysOf ds with
   | none=>rw[e2]at e;cases e
   | some ks2 =>
    rw[e2]at e
    cases e
    rw[RepVs.keys h2 e2]
    have:v=kV k1:=by
     cases d with
     | int i=>rw[RepV.int_iff]at h1;cases e1;exact h1
     | str cs=>rw[RepV.str_iff]at h1;cases e1;exact h1
     | _=>cases e1
    rw[this];rfl
theorem zfg:∀{ds:List D} {ks:List Key},keysOf ds=some ks->noKey ds=false
 | [],_,_=>rfl
 | d::ds,ks,e=>by
  rw[zgg]at e
  cases e1:keyOf d with
  | none=>rw[e1]at e;cases e
  | some k1 =>
   rw[e1]at e
   cases e2:keysOf ds with
   | none=>rw[e2]at e;cases e
   | some ks2 =>
    have ih:=zfg e2
    cases d with
    | int i=>rw[noKey];exact ih
    | str cs=>rw[noKey];exact ih
    | _=>cases e1
theorem TupA.made {K:PySem.W.Frag}{H:Hp}{a:Addr}{xs:List V}{ds:List D}{ks:List Key}(h:TupA K H a xs ds)(e:keysOf ds=some ks):H a=some (.tup xs):=by
 rcases h with h | ⟨h,_⟩
 ·exact h
 ·rw[zfg e]at h;cases h
theorem RepKV.val {K:PySem.W.Frag}{μ:List Addr}{H:Hp}{k:List Key}:∀{kvs:List (List Key×D)} {ws:List (List Key×V)},RepKV K μ H kvs ws ->
  (valM kvs k=none/\valV ws k=none)\/∃d v,valM kvs k=some d/\valV ws k=some v/\RepV K μ H d v
 | [],ws,h=>.inl ⟨rfl,by rw[RepKV]at h;rw[h];rfl⟩
 | (j,d)::r,ws,h=>by
  obtain⟨v,r',rfl,h1,h2⟩:=h
  rw[zg4]
  by_cases e:j=k
  ·rw[if_pos e]
   exact .inr ⟨d,v,rfl,zgo (p:=(j,v)) e,h1⟩
  ·rw[if_neg e,zg2 (p:=(j,v)) e]
   exact RepKV.val h2
theorem RepKV.snoc {K:PySem.W.Frag}{μ:List Addr}{H:Hp}{k:List Key}{d:D}{v:V}:∀{kvs:List (List Key×D)} {ws:List (List Key×V)},RepKV K μ H kvs ws->RepV K μ H d v->RepKV K μ H (kvs++[(k,d)]) (ws++[(k,v)])
 | [],ws,h,hv=>by rw[RepKV]at h;subst h;exact⟨v,[],rfl,hv,rfl⟩
 | (j,d')::r,ws,h,hv=>by
  obtain⟨v',r',rfl,h1,h2⟩:=h
  exact⟨v',r'++[(k,v)],rfl,h1,RepKV.snoc h2 hv⟩
theorem RepKV.len {κ:Type}{K:PySem.W.Frag}{μ:List Addr}{H:Hp}:∀{kvs:List (κ×D)} {ws:List (κ×V)},RepKV K μ H kvs ws->kvs.length=ws.length
 | [],ws,h=>by rw[RepKV]at h;rw[h];rfl
 | (j,d)::r,ws,h=>by
  obtain⟨v,r',rfl,h1,h2⟩:=h
  rw[List.length_cons,List.length_cons,RepKV.len h2]
theorem RepS.dic {K:PySem.W.Frag}{μ:List Addr}{H:Hp}{st:Stor}{n:Nat}{kvs:List (List Key×D)}(h:RepS K μ H st)(e:st[n]? = some (.dic kvs)):∃p ws,μ[n]? = some p/\H p=some (.dT ws)/\RepKV K μ H kvs ws:=by
 obtain⟨p,h1,xs,h2,h3⟩:=h.at_ n _ e
 exact⟨p,xs,h1,h2,h3⟩
section
variable {X:Cx}{e a b c o:Expr}{es:List Expr}{ma mb mc mo:ME}{mA:MA}{pos p2 p apos cpos:Pos}
noncomputable def dicE:ME:=fun _ st=>.ok (.loc st.length) (st++[.dic []])
theorem ziv:JE X (.Dict [] [] pos) dicE:=by
 refine JE.of pe_dnewT fun σ H Q zz=>?_
 obtain⟨μ,env,st,hE,hs,hp⟩:=zz
 refine fun p hn=>?_
 have hr:RepO X.K (μ++[p]) (upd H p (.dT [])) p (.dic []):=⟨[],zah,rfl⟩
 exact hp _ _ (μ++[p]) (Grow.new hn) (hs.new hn hr) (RepV.loc_iff.mpr ⟨p,by rw[<-hs.len];simp,rfl⟩)
end
end M
namespace L2
open PySem PySem.Spec PyProof.Rows
noncomputable def Its (x:Str):It:=⟨fun i _=>i<x.cps.size,fun i H y H'=>H'=H/\∃c,x.cps[i]? = some c/\y=.str ⟨#[c]⟩,fun i _=>x.cps.size<=i⟩
theorem turn_str {P:Program}{w:World}{K:PySem.W.Frag}{tg:Expr}(it:Addr)(x:Str)(t:Tok):Turn P w K tg (Its x) [it] it (fun i h=>h.IsStrIter it "str_ascii_iterator" x t i) where
 mem:=by simp
 obj:=fun i h st b hb=>by
  have e:b=it:=by simpa using hb
  subst e
  obtain⟨o,e,c,d⟩:=st
  exact⟨o,e,fun v z=>by rw[d]at z;cases z⟩
 keep:=fun i h h' st k=>by
  obtain⟨o,e,c,d⟩:=st
  exact⟨o,k it (by simp) o e,c,d⟩
 item:=by
  intro X hP hw hK hc i pins s σ H E I hf st hg
  subst hP hw hK
  obtain⟨f0,f1,f2,f3,f4,f5⟩:=hf it (by simp)
  have hi:i<x.cps.size:=hg
  refine wpAny_pyNext_ascii_item st (Array.getElem?_eq_getElem hi) fun h' st' sb=>?_
  have I1:Inv X pins σ H { s with heap:=h',toks:=s.toks+1 }:=I.turned (fun b o hb e=>(sb.2 b hb).trans e) f0 f1 f3 f4 f5
  obtain⟨o,e,c,d⟩:=id st'
  exact⟨_,rfl,go_of (s:={ s with heap:=h',toks:=s.toks+1 }) e c d (by decide) ⟨.str ⟨#[x.cps[i]]⟩,H,I1,⟨_,rfl⟩,⟨rfl,_,Array.getElem?_eq_getElem hi,rfl⟩,st',fun b hb=>(hf b hb).1⟩⟩
 done:=by
  intro X hP hw hK hc i pins s σ H E I hf st hg
  subst hP hw hK
  obtain⟨f0,f1,f2,f3,f4,f5⟩:=hf it (by simp)
  have hi:x.cps.size<=i:=hg
  exact wpAny_pyNext_ascii_end (I.ok.hd hc) st (Array.getElem?_eq_none hi) fun h' eb=>⟨rfl,I.turned (t':=s.toks) (fun b o hb e=>eb b o hb e) f0 f1 f3 f4 f5⟩
 self:=fun _ _ _ _ _ st h=>wpAny_pyIter_striter_ascii st h
noncomputable def iStr (tl:TE):TI:=fun σ H R=>tl σ H fun y H1=>∃x,y=.str x/\strIterType x = "str_ascii_iterator"/\R (Its x) H1
theorem pi_str {X:Cx}{tg l:Expr}{tl:TE}(hl:PE X l tl):PI X tg l (iStr tl):=by
 intro pins s σ H R I h
 refine thn (hl pins s σ H _ I h) fun v s1 zz=>?_
 obtain⟨y,H1,I1,r1,q1⟩:=zz
 obtain⟨x,e,ha,q⟩:=q1
 subst e
 obtain⟨t,rfl⟩:=r1
 refine wpAny_pyIter_strU ?_
 rw[ha]
 refine⟨s1.heap.objs.size,[s1.heap.objs.size],_,_,H1,rfl,I1.kept (t':=s1.toks) fun b o e=>Heap.get?_push_of_some _ e,turn_str _ x t,⟨_,Heap.get?_push_size _ rfl,rfl,rfl⟩,fun b hb=>?_,q⟩
 have e:b=s1.heap.objs.size:=by simpa using hb
 subst e
 exact I1.fpOk (Nat.le_refl _) (I1.hok.fresh (Nat.le_refl _))
end L2
namespace M
open PySem PySem.Spec L2
section
variable {X:Cx}{tg l:Expr}{ml:ME}{μ:List Addr}{H:Hp}
noncomputable def strI (m:ME):MI:=fun env st=>(m env st).bind fun d st1=>match d with
 | .str cs=>if cs.all (fun c=>decide (c<128))=true then .ok (cs.map fun c=>D.str [c],[]) st1 else .bad
 | _=>.bad
theorem its_rep (cs:List Nat):ItRep X μ H (Its (strOf cs)) (cs.map fun c=>D.str [c],[]):=by
 intro H' μ' st' g hs ok
 refine⟨fun i d e=>?_,by show (strOf cs).cps.size<=_;simp⟩
 rw[List.getElem?_map]at e
 obtain⟨c,e1,rfl⟩:=Option.map_eq_some_iff.mp e
 refine⟨by show i<(strOf cs).cps.size;simpa using (List.getElem?_eq_some_iff.mp e1).1,?_⟩
 rintro x H'' ⟨rfl,c',hc,rfl⟩
 have:c'=c:=by
  have h2:cs[i]? = some c':=by simpa using hc
  rw[e1]at h2;exact (Option.some.inj h2).symm
 subst this
 exact⟨.refl _ _,hs,RepV.str_iff.mpr rfl⟩
theorem ji_str (hl:JE X l ml):JI X tg l (strI ml):=by
 refine JI.of (pi_str hl) fun σ H R zz=>?_
 obtain⟨μ,env,st,hE,hs,hp⟩:=zz
 refine⟨μ,env,st,hE,hs,(Post.bind hp).imp ?_⟩
 rintro v H1 ⟨μ1,st1,d,g1,hs1,hv,hp1⟩
 dsimp only at hp1
 split at hp1
 ·rename_i cs
  split at hp1
  ·rename_i hc
   obtain rfl:=RepV.str_iff.mp hv
   refine⟨strOf cs,rfl,?_,hp1 _ _ _ (.refl _ _) hs1 (its_rep cs)⟩
   unfold strIterType
   rw[if_pos]
   show (cs.toArray.all _)=true
   rw[List.all_toArray];exact hc
  ·exact hp1.elim
 ·exact hp1.elim
end
end M
namespace L2
open PySem PySem.Spec PyProof.Rows
theorem Inv.but {X:Cx}{pins:List (Addr×Obj)}{σ:St}{H:Hp}{s:Shared}{h':Heap}{t':Nat}(I:Inv X pins σ H s)(k:∀b o,b≠X.env.locals->s.heap.get? b=some o->h'.get? b=some o)
  (ns:∀m,s.heap.Ns X.env.locals m->h'.Ns X.env.locals m):Inv X pins σ H { s with heap:=h',toks:=t' }:=by
 have neL:∀b u,H b=some u->b≠X.env.locals:=fun b u e z=>by rw[z,I.free]at e;cases e
 refine I.step (g':=s.gens) (d':=s.drawn) (ch:=[]) (fun _ z=>nomatch z) (fun b o hL _ _ e _=>k b o hL e) (fun b o hL _ _ e _=>⟨o.slots,k b o hL e⟩) (fun _ _ _ _ n=>n) (fun b o _ e=>?_) (fun _ _ e=>e) (fun _ _ _ e=>e) (fun b ps e=>⟨#[],by rw[e];simp⟩) ns (fun b u e=>?_) I.bare
 ·by_cases hb:b=X.env.locals
  ·subst hb
   obtain⟨m,hm,_⟩:=I.loc
   obtain⟨o',_,_,q,_⟩:=ns m hm
   exact⟨o',q⟩
  ·exact⟨o,k b o hb e⟩
 ·refine (I.hok b u e).stay (fun c v hc q=>k c v ?_ q) (fun c q=>q) fun c xs q=>q
  rcases hc with z | z
  ·rw[z];exact neL b u e
  ·exact neL c _ z
theorem call_sumL {X:Cx}(hc:X.A.handled=none):CallR X (.builtin "sum") (fun xs H Q=>∃(p:Addr) (ns:List Int),xs=[.ref p]/\SqL X.K H p (ns.map V.int)/\Q (.int ns.sum) H):=by
 rintro pins s σ H xs us Q I hr ⟨p,ns,rfl,hq,h⟩
 cases hr with
 | cons r1 r2 =>
  cases r2
  cases r1
  obtain⟨its,rv,pl,hz⟩:=I.list hq
  have hi:IntsAre its ns:=by
   have key:∀(ns:List Int) (its:List Value),Vals (ns.map V.int) its->IntsAre its ns:=by
    intro ns
    induction ns with
    | nil=>intro its h;cases h;exact .nil
    | cons n ns ih =>
     intro its h
     cases h with
     | cons r1 r2 =>
      obtain⟨t,rfl⟩:=r1
      exact .cons n t (ih _ r2)
   exact key ns its rv
  obtain⟨m,hm,_⟩:=id I.loc
  obtain⟨o,ho,_⟩:=id pl.isList
  have hne:p≠X.env.locals:=fun z=>by
   obtain⟨o',es,ep,q1,q2,_⟩:=hm
   obtain⟨o2,w1,w2,w3⟩:=id pl.isList
   rw[z,q1]at w1;cases w1
   rw[q2]at w3
   obtain⟨_,w4⟩:=w3;cases w4
  refine LSm.sum_ints (Att.fr_all hm) (Att.zjz hne ho) hc pl.isList hi fun h' tk t' F' N'=>⟨.int ns.sum,H,I.but (fun b ob hb e=>?_) (fun m' hm'=>?_),⟨t',rfl⟩,h⟩
  ·by_cases hbp:b=p
   ·subst hbp
    rw[ho]at e;cases e
    exact N'.get (List.Mem.head _)
   ·exact N'.get (List.Mem.tail _ (Att.zha.mpr ⟨hb,hbp,e⟩))
  ·have:m'=m:=by
    obtain⟨o1,es1,ep1,q1,q2,_,q3⟩:=hm
    obtain⟨o2,es2,ep2,w1,w2,_,w3⟩:=hm'
    rw[q1]at w1;cases w1
    rw[q2]at w2;cases w2
    funext x
    rw[<-q3 x,<-w3 x]
   subst this
   exact F'.ns
end L2
namespace M
open PySem PySem.Spec L2
noncomputable def intsOf:List D->Option (List Int)
 | []=>some []
 | .int i::r=>(intsOf r).map (i :: ·)
 | _::_=>none
theorem zl9 {K:PySem.W.Frag}{μ:List Addr}{H:Hp}:∀{ds:List D} {xs:List V} {ns:List Int},intsOf ds=some ns->RepVs K μ H ds xs->xs=ns.map V.int
 | [],_,_,e,h=>by cases e;rw[RepVs]at h;exact h
 | d::ds,_,ns,e,h=>by
  rw[RepVs]at h
  obtain⟨v,t,rfl,h1,h2⟩:=h
  cases d with
  | int i =>
   simp only[intsOf]at e
   cases q:intsOf ds with
   | none=>rw[q]at e;cases e
   | some bs' =>
    rw[q]at e;cases e
    rw[RepV.int_iff]at h1;subst h1
    rw[zl9 q h2];rfl
  | _=>simp[intsOf]at e
noncomputable def sumV:List D->Stor->R D
 | [.loc n],st=>match (itemsAt st n).bind intsOf with | some ns=>.ok (.int ns.sum) st | none=>.bad
 | _,_=>.bad
theorem call_sumV {X:Cx}(hc:X.A.handled=none):CallR X (.builtin "sum") (rMC X sumV):=by
 refine CallR.weak (call_sumL hc) ?_
 rintro xs H Q ⟨μ,st,ds,hs,hv,hp⟩
 unfold sumV at hp
 split at hp
 ·rename_i n
  cases e:itemsAt st n with
  | none=>rw[e]at hp;exact hp.elim
  | some l =>
   rw[e]at hp
   cases e2:intsOf l with
   | none=>simp only[Option.bind_some,e2]at hp;exact hp.elim
   | some ns =>
    simp only[Option.bind_some,e2]at hp
    obtain⟨v,rfl,q⟩:=RepVs.one hv
    obtain⟨p,q1,rfl⟩:=RepV.loc_iff.mp q
    obtain⟨p',ys,r1,r2,r3⟩:=hs.items e
    rw[q1]at r1;cases r1
    rw[zl9 e2 r3]at r2
    exact⟨p,ns,rfl,r2,hp.ret hs (RepV.int_iff.mpr rfl)⟩
 ·exact hp.elim
end M
namespace M
open L2
theorem zfd {α:Type}(xs:List α)(c:Nat):cut xs (some (c:Int)) none=xs.drop c:=by
 unfold cut
 rw[HT.zfs,HT.zix]
 by_cases h:c<=xs.length
 ·rw[Nat.min_eq_left h,List.take_of_length_le (by simp)]
 ·rw[Nat.min_eq_right (by omega),List.drop_eq_nil_of_le (Nat.le_refl _),List.drop_eq_nil_of_le (by omega)];simp
theorem cut_map {α β:Type}(f:α->β)(l:List α)(lo hi:Option Int):cut (l.map f) lo hi=(cut l lo hi).map f:=by
 unfold cut
 rw[List.length_map,List.map_take,List.map_drop]
theorem zel (lo:Int)(n:Nat):(upto lo n).length=n:=by simp[upto]
theorem zi0 {α:Type}(l:List α)(i:Int)(h:0<l.length):∃(j:Nat) (hj:j<l.length),i % (l.length:Int)=(j:Int)/\atI l (i % (l.length:Int))=some l[j]:=by
 have h1:=Int.emod_nonneg i (show (l.length:Int)≠0 by omega)
 have h2:=Int.emod_lt_of_pos i (show 0<(l.length:Int) by omega)
 obtain⟨j,hj⟩:=Int.eq_ofNat_of_zero_le h1
 have hl:j<l.length:=by omega
 exact⟨j,hl,hj,by rw[hj,zcm];exact List.getElem?_eq_getElem hl⟩
section
variable (st:Stor)
theorem zfn (cs:List Nat)(i:Int)(c:Nat)(h:cs.length<=1000000)(hi:atI cs i=some c):ixV (.str cs) (.int i) st=.ok (.str [c]) st:=by simp[ixV,h,hi]
theorem zgq (a b:List Nat)(h:a.length+b.length<=1000000):addV (.str a) (.str b) st=.ok (.str (a++b)) st:=by simp[addV,h]
theorem zdw (cs:List Nat)(lo hi:Option Int)(h:cs.length<=1000000):slV (.str cs) lo hi st=.ok (.str (cut cs lo hi)) st:=by simp[slV,h]
theorem r_len_str (cs:List Nat)(h:cs.length<=1000000):lenV [.str cs] st=.ok (.int cs.length) st:=by simp[lenV,h]
@[simp] theorem r_strI (a:ME) (env:MEnv):strI a env st=(a env st).bind fun d st1=>match d with
 | .str cs=>if cs.all (fun c=>decide (c<128))=true then .ok (cs.map fun c=>D.str [c],[]) st1 else .bad
 | _=>.bad:=zay rfl
end
end M
namespace M
open PySem PySem.Spec L2
section
variable {X:Cx}
noncomputable def inDV (neg:Bool):D->D->Stor->R D
 | .tup ks,.loc n,st=>match st[n]?,keysOf ks with
  | some (.dic kvs),some k=>.ok (.bl (if neg then !(valM kvs k).isSome else (valM kvs k).isSome)) st
  | _,_=>.bad
 | _,_,_=>.bad
theorem zkh {H:Hp}{x y:V}{Q:VK}{neg:Bool}(h:rM X (inDV neg) x y H Q):∃p o,y=.ref p/\DGet H p x o/\Q (.bl (if neg then !o.isSome else o.isSome)) H:=by
 obtain⟨μ,st,dx,dy,hs,hx,hy,hp⟩:=h
 unfold inDV at hp
 split at hp
 ·rename_i ks n
  split at hp
  ·rename_i kvs k e1 e2
   obtain⟨p,q1,rfl⟩:=RepV.loc_iff.mp hy
   obtain⟨b,ys,rfl,q3,q4⟩:=RepV.tup_iff.mp hx
   replace q3:=q3.made e2
   obtain rfl:=q4.keys e2
   obtain⟨p',ws,r1,r2,r3⟩:=hs.dic e1
   rw[q1]at r1;cases r1
   refine⟨p,_,rfl,DGet.t r2 q3,?_⟩
   rcases r3.val (k:=k) with⟨z1,z2⟩ | ⟨d',v',z1,z2,z3⟩
   ·rw[z1]at hp
    rw[z2]
    exact hp.ret hs (RepV.bl_iff.mpr rfl)
   ·rw[z1]at hp
    rw[z2]
    exact hp.ret hs (RepV.bl_iff.mpr rfl)
  ·exact hp.elim
 ·exact hp.elim
theorem op_inDV (hu:X.A.units+1<cLine):OpR X (compareOp .In) (rM X (inDV false)):=by
 intro pins s σ H x y v u Q I rx ry h
 obtain⟨p,o,rfl,g,q⟩:=zkh h
 obtain rfl:u=Value.ref p:=ry
 exact d_in hu I g rx fun s' I'=>⟨.bl o.isSome,H,I',rfl,q⟩
theorem zlb (hu:X.A.units+1<cLine):OpR X (compareOp .NotIn) (rM X (inDV true)):=by
 intro pins s σ H x y v u Q I rx ry h
 obtain⟨p,o,rfl,g,q⟩:=zkh h
 obtain rfl:u=Value.ref p:=ry
 exact d_notIn hu I g rx fun s' I'=>⟨.bl (!o.isSome),H,I',rfl,q⟩
noncomputable def putM (kvs:List (List Key×D))(k:List Key)(d:D):List (List Key×D) :=
 if (kvs.any fun kv=>decide (kv.1=k))=true then kvs.map (fun kv=>if kv.1=k then (kv.1,d) else kv) else kvs++[(k,d)]
theorem RepKV.any {K:PySem.W.Frag}{μ:List Addr}{H:Hp}{k:List Key}:∀{kvs:List (List Key×D)} {ws:List (List Key×V)},RepKV K μ H kvs ws->(kvs.any fun kv=>decide (kv.1=k))=(ws.any fun kv=>decide (kv.1=k))
 | [],ws,h=>by rw[RepKV]at h;rw[h];rfl
 | (j,d)::r,ws,h=>by
  obtain⟨v,r',rfl,h1,h2⟩:=h
  rw[List.any_cons,List.any_cons,RepKV.any h2]
theorem RepKV.repl {K:PySem.W.Frag}{μ:List Addr}{H:Hp}{k:List Key}{d:D}{v:V}(hv:RepV K μ H d v):∀{kvs:List (List Key×D)} {ws:List (List Key×V)},RepKV K μ H kvs ws->RepKV K μ H (kvs.map fun kv=>if kv.1=k then (kv.1,d) else kv) (ws.map fun kv=>if kv.1=k then (kv.1,v) else kv)
 | [],ws,h=>by rw[RepKV]at h;subst h;exact rfl
 | (j,d')::r,ws,h=>by
  obtain⟨v',r',rfl,h1,h2⟩:=h
  rw[List.map_cons,List.map_cons]
  by_cases e:j=k
  ·rw[if_pos e,if_pos e];exact⟨v,_,rfl,hv,RepKV.repl hv h2⟩
  ·rw[if_neg e,if_neg e];exact⟨v',_,rfl,h1,RepKV.repl hv h2⟩
theorem RepKV.put {K:PySem.W.Frag}{μ:List Addr}{H:Hp}{k:List Key}{d:D}{v:V}{kvs:List (List Key×D)}{ws:List (List Key×V)}(h:RepKV K μ H kvs ws)(hv:RepV K μ H d v):RepKV K μ H (putM kvs k d) (putK ws k v):=by
 unfold putM putK
 rw[h.any]
 split
 ·exact RepKV.repl hv h
 ·exact h.snoc hv
noncomputable def setDV:D->D->D->Stor->R Unit
 | .loc n,.tup ks,d,st=>match st[n]?,keysOf ks with
  | some (.dic kvs),some k=>if kvs.length<1000000 then .ok () (st.set n (.dic (putM kvs k d))) else .bad
  | _,_=>.bad
 | _,_,_,_=>.bad
theorem set_DV (hu:X.A.units+1<cLine):PSet X (rMSet X setDV):=by
 rintro pins s σ H o i v ov iv u Q I ro ri rv ⟨μ,st,d1,d2,d3,hs,h1,h2,h3,hp⟩
 unfold setDV at hp
 split at hp
 ·rename_i n ks d
  split at hp
  ·rename_i kvs k e1 e2
   split at hp
   ·rename_i hl
    obtain⟨p,q1,rfl⟩:=RepV.loc_iff.mp h1
    obtain⟨b,ys,rfl,q3,q4⟩:=RepV.tup_iff.mp h2
    replace q3:=q3.made e2
    obtain rfl:=q4.keys e2
    obtain⟨p',ws,r1,r2,r3⟩:=hs.dic e1
    rw[q1]at r1;cases r1
    obtain rfl:ov=Value.ref p:=ro
    refine zi3 hu I (DPut.t r2 q3 (by rw[<-r3.len];exact Nat.lt_of_lt_of_le hl (by decide))) ri rv fun s' I'=>⟨_,I',?_⟩
    have g:Ext H (upd H p (.dT (putK ws k v))):=Ext.mut r2 (fun _ z=>nomatch z) (fun _ _ z=>nomatch z)
    have g':Grow μ H μ (upd H p (.dT (putK ws k v))):=⟨⟨[],by simp⟩,g⟩
    exact hp () _ μ g' (hs.put e1 rfl rfl q1 g ⟨_,zah,(r3.put h3).mono g'⟩) trivial
   ·exact hp.elim
  ·exact hp.elim
 ·exact hp.elim
end
end M
namespace L2
open PySem PySem.Spec PyProof.Rows
theorem zly:∀(ys:List Str) (its:List Value),Vals (ys.map V.str) its->StrsAre its ys
 | [],_,h=>by cases h;exact .nil
 | y::ys,_,h=>by
  cases h with
  | cons r1 r2 =>
   obtain⟨t,rfl⟩:=r1
   exact .cons y t (zly ys _ r2)
theorem mt_joinS {X:Cx}:MtR X "str.join" (fun x xs H Q=>∃(z:Str) (p:Addr) (ys:List Str),x=.str z/\xs=[.ref p]/\SqL X.K H p (ys.map V.str)/\(ys.map fun y=>y.length).sum+ys.length*z.length<=16777216/\Q (.str (Txt.join z ys)) H):=by
 rintro pins s σ H x xs v us Q I rx rxs ⟨z,p,ys,rfl,rfl,hq,hz,h⟩
 obtain⟨t,rfl⟩:=rx
 cases rxs with
 | cons r1 r2 =>
  cases r2
  cases r1
  obtain⟨its,rv,pl,_⟩:=I.list hq
  exact join_list pl.isList (zly ys its rv) hz fun t' k=>⟨.str (Txt.join z ys),H,I.kept (t':=k) fun b u h=>h,⟨t',rfl⟩,h⟩
end L2
namespace M
open PySem PySem.Spec L2
section
variable {X:Cx}
noncomputable def textsOf:List D->Option (List (List Nat))
 | []=>some []
 | .str cs::r=>(textsOf r).map (cs :: ·)
 | _::_=>none
theorem zit {K:PySem.W.Frag}{μ:List Addr}{H:Hp}:∀{ds:List D} {xs:List V} {ts:List (List Nat)},textsOf ds=some ts->RepVs K μ H ds xs->xs=(ts.map strOf).map V.str
 | [],_,_,e,h=>by cases e;rw[RepVs]at h;exact h
 | d::ds,_,ts,e,h=>by
  rw[RepVs]at h
  obtain⟨v,t,rfl,h1,h2⟩:=h
  cases d with
  | str cs =>
   simp only[textsOf]at e
   cases q:textsOf ds with
   | none=>rw[q]at e;cases e
   | some ts' =>
    rw[q]at e;cases e
    rw[RepV.str_iff]at h1;subst h1
    rw[zit q h2];rfl
  | _=>simp[textsOf]at e
noncomputable def joinM (sep:List Nat)(ts:List (List Nat)):List Nat:=(Txt.join (strOf sep) (ts.map strOf)).cps.toList
noncomputable def joinV:D->List D->Stor->R D
 | .str sep,[.loc n],st=>match (itemsAt st n).bind textsOf with
  | some ts=>if (ts.map List.length).sum+ts.length*sep.length<=1000000 then .ok (.str (joinM sep ts)) st else .bad
  | none=>.bad
 | _,_,_=>.bad
theorem mt_joinV:MtR X "str.join" (rMM X joinV):=by
 refine MtR.weak mt_joinS ?_
 rintro x xs H Q ⟨μ,st,d,ds,hs,hx,hxs,hp⟩
 unfold joinV at hp
 split at hp
 ·rename_i sep n
  cases e:itemsAt st n with
  | none=>rw[e]at hp;exact hp.elim
  | some l =>
   rw[e]at hp
   cases e2:textsOf l with
   | none=>simp only[Option.bind_some,e2]at hp;exact hp.elim
   | some ts =>
    simp only[Option.bind_some,e2]at hp
    split at hp
    ·rename_i hl
     obtain⟨v,rfl,q⟩:=RepVs.one hxs
     obtain⟨p,q1,rfl⟩:=RepV.loc_iff.mp q
     obtain⟨p',ys,r1,r2,r3⟩:=hs.items e
     rw[q1]at r1;cases r1
     rw[zit e2 r3]at r2
     obtain rfl:=RepV.str_iff.mp hx
     refine⟨_,p,ts.map strOf,rfl,rfl,r2,?_,hp.ret hs (RepV.str_iff.mpr rfl)⟩
     rw[List.map_map,List.length_map]
     have e3:(ts.map ((fun y:Str=>y.length)∘strOf))=ts.map List.length:=List.map_congr_left fun t _=>by
      show (strOf t).cps.size=t.length
      simp
     rw[e3]
     have e4:(strOf sep).length=sep.length:=by show (strOf sep).cps.size=sep.length;simp
     rw[e4];omega
    ·exact hp.elim
 ·exact hp.elim
end
end M
namespace M
open PySem PySem.Spec L2
noncomputable def joinL (sep:List Nat):List (List Nat)->List Nat
 | []=>[]
 | [t]=>t
 | t::u::r=>t++sep++joinL sep (u::r)
theorem zgj (sep:Str):∀(ts:List Str),(sep.join ts).cps.toList=joinL sep.cps.toList (ts.map fun t=>t.cps.toList)
 | []=>by rw[PyProof.Rows.join_nil];rfl
 | [t]=>by rw[PyProof.Rows.join_one];rfl
 | t::u::r=>by
  have ih:=zgj sep (u::r)
  rw[List.map_cons]at ih
  rw[PyProof.Rows.join_cons_cons,List.map_cons,List.map_cons,joinL,<-ih]
  show (t.cps++sep.cps++(sep.join (u::r)).cps).toList=_
  simp
theorem joinM_eq (sep:List Nat)(ts:List (List Nat)):joinM sep ts=joinL sep ts:=by
 unfold joinM
 rw[show Txt.join (strOf sep) (ts.map strOf)=(strOf sep).join (ts.map strOf) from StrLaws.glued_eq_join _ _,zgj,List.map_map]
 have:(fun t:Str=>t.cps.toList)∘strOf=id:=by funext t;simp
 rw[this,List.map_id]
end M
namespace L2
open PySem PySem.Spec PyProof.Rows
end L2
namespace M
open PySem PySem.Spec L2
section
variable {X:Cx}{a b c:Expr}{ma mb mc:ME}{pos:Pos}
end
end M
namespace M
open PySem PySem.Spec L2
section
variable {X:Cx}{pos:Pos}{x:Str}
theorem je_globV {d:D}{v:V}{u:Value}(hg:Gl X x)(hm:X.mg x=some u)(r:RelV v u)(hv:∀μ H,RepV X.K μ H d v)(hd:(x==("__debug__":Str))=false:=by decide):JE X (.Name x pos) (ct d):=by
 refine JE.of (pe_glob hg hm r hd) fun σ H Q zz=>?_
 obtain⟨μ,env,st,hE,hs,hp⟩:=zz
 exact hp.ret hs (hv μ H)
theorem zed {y:Str}(cs:List Nat)(h:∃t,X.mg x=some (.str y t))(hy:y=strOf cs:=by rfl)(hg:Gl X x:=by rfl)(hd:(x==("__debug__":Str))=false:=by decide):JE X (.Name x pos) (ct (.str cs)):=by
 obtain⟨t,h⟩:=h
 exact je_globV (v:=.str y) hg h ⟨t,rfl⟩ (fun _ _=>RepV.str_iff.mpr (by rw[hy])) hd
end
end M
namespace M
open L2
section
variable (st:Stor)
theorem r_join (sep:List Nat)(n:Nat)(ts:List (List Nat))(h:itemsAt st n=some (ts.map D.str))(hl:(ts.map List.length).sum+ts.length*sep.length<=1000000):joinV (.str sep) [.loc n] st=.ok (.str (joinL sep ts)) st:=by
 have e:textsOf (ts.map D.str)=some ts:=by
  clear h hl
  induction ts with
  | nil=>rfl
  | cons t ts ih=>simp[textsOf,ih]
 simp only[joinV,h,Option.bind_some,e]
 rw[if_pos hl,joinM_eq]
end
end M
namespace M
open L2
end M
namespace M
open L2
theorem zb9 {g:MG}{b:MS}{gs:List (Nat×MO)}{items:List D}(I:Nat->MEnv->Stor->Prop){env:MEnv}{st:Stor}(h0:I 0 env st)
  (step:∀i d env st,items[i]? = some d->I i env st->okG gs st/\∃env1 st1,g d env st=.ok env1 st1/\∃env2 st2,(b env1 st1=.ok (.nx env2) st2\/b env1 st1=.ok (.cn env2) st2)/\I (i+1) env2 st2)
  (hend:∀env st,I items.length env st->okG gs st):∃env' st',forGo g b gs items env st=.ok (.nx env') st'/\I items.length env' st':=by
 refine forGo_all (fun pre env st=>I pre.length env st) h0 (fun pre d post env st e hI=>?_) hend
 have:=step pre.length d env st (by rw[e];simp) hI
 simpa using this
theorem zfu {lo:Int}{n i:Nat}{d:D}(h:(upto lo n)[i]? = some d):i<n/\d=.int (lo+(i:Nat)):=by
 have h2:i<n:=by
  have:=(List.getElem?_eq_some_iff.mp h).1
  rwa[zel]at this
 unfold upto at h
 rw[List.getElem?_map,List.getElem?_range h2]at h
 exact⟨h2,(Option.some.inj h).symm⟩
end M
namespace M
open L2
theorem pickL (ds:List D)(i:Int)(st:Stor)(h0:0<=i)(h1:i<ds.length):∃d,d∈ds/\ixV (.loc st.length) (.int i) (st++[.lst ds])=.ok d (st++[.lst ds]):=by
 obtain⟨j,rfl⟩:=Int.eq_ofNat_of_zero_le h0
 have hj:j<ds.length:=by omega
 exact⟨ds[j],List.getElem_mem hj,zcq _ _ _ ds _ (by simp) (by rw[zcm];exact List.getElem?_eq_getElem hj)⟩
theorem sl_tl (row:List Nat)(st:Stor)(h:row.length<=1000000):slV (.str row) (some 1) none st=.ok (.str row.tail) st:=by
 rw[zdw st _ _ _ h]
 have:=zfd row 1
 rw[List.drop_one]at this
 exact congrArg (fun z=>R.ok (D.str z) st) this
theorem ix_hd (c:Nat)(t:List Nat)(st:Stor)(h:(c::t).length<=1000000):ixV (.str (c::t)) (.int 0) st=.ok (.str [c]) st:=zfn st _ _ _ h (by have:=zcm (c::t) 0;simpa using this)
end M
namespace M
open L2
end M
namespace M
open L2
noncomputable def rstripL (c:Nat)(cs:List Nat):List Nat:=(cs.reverse.dropWhile (fun x=>decide (x=c))).reverse
noncomputable def inSV:D->D->Stor->R D
 | .str [c],.str cs,st=>if cs.length<=1000000 then .ok (.bl (decide (c∈cs))) st else .bad
 | _,_,_=>.bad
end M
namespace M
open L2
theorem rstripL_nil (c:Nat):rstripL c []=[]:=rfl
end M
namespace L2
open PySem PySem.Spec PyProof.Rows
section
variable {X:Cx}{a b:Expr}{rest:List Expr}{pos:Pos}{ta tb:TE}
end
end L2
namespace M
open PySem PySem.Spec L2
section
variable {X:Cx}{a b c:Expr}{ma mb mc:ME}{pos:Pos}{rest:List Expr}
theorem op_inSV:OpR X (compareOp .In) (rM X inSV):=by
 refine OpR.weak op_in_str ?_
 rintro x y H Q ⟨μ,st,dx,dy,hs,hx,hy,hp⟩
 unfold inSV at hp
 split at hp
 ·rename_i c cs
  split at hp
  ·obtain rfl:=RepV.str_iff.mp hx
   obtain rfl:=RepV.str_iff.mp hy
   refine⟨_,_,rfl,rfl,?_⟩
   have e:=PySem.StrLaws.found_one (strOf cs) c
   have e2:(strOf [c])=⟨#[c]⟩:=rfl
   rw[e2,e]
   refine hp.ret hs (RepV.bl_iff.mpr ?_)
   simp
  ·exact hp.elim
 ·exact hp.elim
end
end M
namespace L2
open PySem PySem.Spec PyProof.Rows PySem.Builtin PySem.Builtin.Str
end L2
namespace M
open PySem PySem.Spec L2
structure FunD (K:PySem.W.Frag)(x qual:Str)(st:Stmt)(f:Addr)(fd:FuncData):Prop where
 ex:∃(oc:Value) (od:Option Addr) (dV kV doc pm:Value) (an:Option Addr) (cdv ct:Value) (osl:Array (Option Value)),
  fd=PySem.W.fnOf x qual (defArgs st) (defBody st) (defScope st) dV kV doc pm an cdv ct/\K.lookup f=some ⟨oc,od,.func fd,osl⟩/\PySem.W.codeIn K cdv qual=true
 kp:PySem.W.keepIn K (.ref f)=true
section
variable {P:Program}{w:World}{K:PySem.W.Frag}{mg:Str->Option Value}{base:Heap}
end
section
variable {X:Cx}{e:Expr}{es:List Expr}{mA:MA}{pos p:Pos}{x:Str}{k:Nat}{f:Addr}{fd:FuncData}{ps:List Str}{F:FD}{i:Int}
end
end M
namespace M
open PySem PySem.Spec L2 PyProof.Rows
end M
namespace M
open L2
noncomputable def extendV:D->List D->Stor->R D
 | .loc n,[.loc m],st=>match st[n]?,st[m]? with
  | some (.lst a),some (.lst b)=>if a.length+b.length<=1000000 then .ok .non (st.set n (.lst (a++b))) else .bad
  | _,_=>.bad
 | _,_,_=>.bad
end M
namespace M
open PySem PySem.Spec L2
section
variable {X:Cx}
theorem zho:MtR X "list.extend" (rMM X extendV):=by
 refine MtR.weak mt_extend ?_
 rintro x xs H Q ⟨μ,st,d,ds,hs,hx,hxs,hp⟩
 unfold extendV at hp
 split at hp
 ·rename_i n m
  split at hp
  ·rename_i a b e1 e2
   split at hp
   ·rename_i hl
    obtain⟨p,q1,rfl⟩:=RepV.loc_iff.mp hx
    obtain⟨v,rfl,q⟩:=RepVs.one hxs
    obtain⟨p2,q2,rfl⟩:=RepV.loc_iff.mp q
    obtain⟨p',ys,r1,r2,r3⟩:=hs.lst e1
    rw[q1]at r1;cases r1
    obtain⟨p2',zs,s1,s2,s3⟩:=hs.lst e2
    rw[q2]at s1;cases s1
    obtain⟨g,hs'⟩:=putLst hs e1 q1 r2 (r3.append s3)
    refine⟨p,p2,ys,zs,rfl,rfl,r2,s2,?_,hp _ _ μ g hs' (RepV.non_iff.mpr rfl)⟩
    rw[<-r3.length,<-s3.length];exact zf3 hl
   ·exact hp.elim
  ·exact hp.elim
 ·exact hp.elim
end
end M
namespace M
open PySem PySem.Spec L2
section
variable {X:Cx}{pos p:Pos}{x:Str}{k:Nat}{f:Addr}{fd:FuncData}{F:FD}
end
end M
namespace L2
open PySem PySem.Spec PyProof.Rows
section
variable {P:Program}{w:World}{H H':Hp}{h h':Heap}{L:List (Addr×Obj)}
end
section
variable {X:Cx}{k:Nat}{f:Addr}{fd:FuncData}{ps:List Str}{sp:Sp}{dvs:List V}{ds:List Value}{pins:List (Addr×Obj)}{σ:St}{H:Hp}{s:Shared}{Q:VK}{us:List Value}{vs:List V}
end
end L2
namespace L2
open PySem PySem.Spec PyProof.Rows
noncomputable def BMain (mg:Str->Option Value)(base:Heap):Prop :=
 ∃bm o,mg "__builtins__" = some (.ref bm)/\bm≠builtinsNs/\bm≠mainGlobals/\base.get? bm=some o/\o.cls=.type "module"/\o.dict=some builtinsNs/\o.data=.plain
noncomputable def TabP (H:Hp)(P:Addr)(q:Str):Prop:=∃ps:Array Value,H P=some (.tbl ps)/\TriplesOk ps.toList/\∀pos cv,codeAmong pos ps.toList=some cv->∃c',cv=.ref c'/\M.CodeF H c' q
structure LamNew (H H':Hp)(P f c':Addr)(q:Str)(ob:Obj):Prop where
 new:H' f=some (.frz ob (.own 0))
 nf:H f=none
 code:M.CodeF H' c' q
 tab:TabP H' P q
 same:∀b u,b≠P->H b=some u->H' b=some u
section
variable {X:Cx}{P c:Addr}{q:Str}{params:Arguments}{body:Expr}{scope:Scope}{clos:List (Str×Addr)}{pos:Pos}
end
end L2
namespace L2
open PySem PySem.Spec PyProof.Rows
structure LamScope (cn ps:List Str)(sc:Scope):Prop where
 kind:sc.kind=.function
 co:sc.isCoroutine=false
 gen:sc.isGenerator=false
 nd:(cn++ps).Nodup
 free:∀y∈sc.names,y.2=.free->y.1∈cn
 nocell:∀y∈sc.names,y.2≠.cell
 isfree:∀x∈cn,sc.names.lookup x=some .free
 par:∀x∈ps,sc.names.lookup x=some .local
noncomputable def lamCx (P:Program)(w:World)(K:PySem.W.Frag)(mg:Str->Option Value)(base:Heap)(N:List Str)(qual:Str)(scope:Scope)(f:Addr)(cd:Value)(cl:List (Str×Addr))(A:Around)(outer:List Env)(s:Shared)(H:Hp):Cx where
 prog:=P
 w:=w
 K:=K
 mg:=mg
 base:=base
 A:=A.deeper (PySem.W.envX qual scope s.heap.objs.size f cd cl)
 N:=N
 s₀:=s
 H₀:=H
 env:=PySem.W.envX qual scope s.heap.objs.size f cd cl
 outer:=outer
 stack:=PySem.W.envX qual scope s.heap.objs.size f cd cl::outer
 ex:=[]
 calm:=true
 fn:=fun _=>false
 pn:=[]
 xe:=fun _ _=>False
section
variable {P:Program}{w:World}{K:PySem.W.Frag}{mg:Str->Option Value}{base:Heap}{A:Around}{outer:List Env}{s:Shared}{H:Hp}{qual:Str}{params:Arguments}{body:Expr}{scope:Scope}{cl:List (Str×Addr)}{pm ctv:Value}{c' f:Addr}{k:Nat}
 {cn ps:List Str} {us:List Value} {vs vs0:List V} {Q:VK} {t:TE}
end
end L2
namespace M
open PySem PySem.Spec L2
mutual
theorem RepV.tupMono {K:PySem.W.Frag}{μ:List Addr}{H H':Hp}(e:∀b xs,H b=some (.tup xs)->H' b=some (.tup xs)):∀(d:D) {v:V},RepV K μ H d v->RepV K μ H' d v
 | .non,_,h=>by simpa[RepV] using h
 | .bl _,_,h=>by simpa[RepV] using h
 | .int _,_,h=>by simpa[RepV] using h
 | .str _,_,h=>by simpa[RepV] using h
 | .tup ds,_,h=>by
  rw[RepV]at h ⊢
  obtain⟨a,xs,rfl,h1,h2⟩:=h
  exact⟨a,xs,rfl,h1.elim (fun z=>.inl (e _ _ z)) .inr,RepVs.tupMono e ds h2⟩
 | .loc n,_,h=>by
  rw[RepV]at h ⊢
  exact h
theorem RepVs.tupMono {K:PySem.W.Frag}{μ:List Addr}{H H':Hp}(e:∀b xs,H b=some (.tup xs)->H' b=some (.tup xs)):∀(ds:List D) {vs:List V},RepVs K μ H ds vs->RepVs K μ H' ds vs
 | [],_,h=>by simpa[RepVs] using h
 | d::ds,_,h=>by
  rw[RepVs]at h ⊢
  obtain⟨v,r,rfl,h1,h2⟩:=h
  exact⟨v,r,rfl,RepV.tupMono e d h1,RepVs.tupMono e ds h2⟩
end
noncomputable def MO.isClo:MO->Bool
 | .clo _ _ _=>true
 | _=>false
structure LamOk (P:Program)(w:World)(K:PySem.W.Frag)(mg:Str->Option Value)(base:Heap)(k:Nat)(l:LamS)(ps:List Str)(m:ME):Prop where
 sc:LamScope l.caps ps l.scope
 bind:∀cl pm c' ctv (us:List Value),us.length=ps.length->bindArgs (PySem.W.kla_fn "<lambda>" l.qual l.params l.body l.scope cl pm (.ref c') ctv) ⟨us,[]⟩=pure (ps.zip us)
 body:∀(f:Addr) (cd:Value) (cl:List (Str×Addr)) (A:Around) (outer:List Env) (s:Shared) (H:Hp),Room k (A.deeper (PySem.W.envX l.qual l.scope s.heap.objs.size f cd cl)) ->
  JE (lamCx P w K mg base (l.caps++ps) l.qual l.scope f cd cl A outer s H) l.body m
end M
namespace M
open PySem PySem.Spec L2
section
variable {X:Cx}{e:Expr}{es:List Expr}{mA:MA}{pos p:Pos}{x:Str}{k:Nat}{Λ:Nat->LamS}{G:Nat->FD}
end
end M
namespace M
open PySem PySem.Spec L2
inductive LA where
 | v (d:D) | l (j:Nat) (cap:List Nat)
noncomputable abbrev ML:=MEnv->Stor->R (List LA)
structure LamAtX (X:Cx)(l:LamS)(cap:List Nat):Prop where
 nd:l.caps.Nodup
 cell:∀x∈l.caps,X.env.kindOf x=some .cell
 ix:cap.map (fun i=>X.N[i]?)=l.caps.map some
section
variable {X:Cx}{Λ:Nat->LamS}{μ μ':List Addr}{H H':Hp}
end
section
variable {X:Cx}{Λ:Nat->LamS}{μ:List Addr}{H H':Hp}{st:Stor}{e:Expr}{es:List Expr}{ma:ME}{m:ML}
end
section
variable {X:Cx}{Λ:Nat->LamS}{H:Hp}{env:MEnv}
end
section
variable {X:Cx}{Λ:Nat->LamS}{e:Expr}{es:List Expr}{m:ML}{pos p:Pos}{x:Str}{k:Nat}{f:Addr}{fd:FuncData}{ps:List Str}{F:FD}{dvs:List V}{ds:List Value}{dd:List D}
end
end M
namespace M
open PySem PySem.Spec L2 PyProof.Rows
structure TabK (K:PySem.W.Frag)(x:Str)(P:Addr):Prop where
 code:∃(fa:Addr) (o:Obj) (fd:FuncData) (c:Addr),PySem.W.nsIn K mainGlobals x=some (some (.ref fa))/\K.lookup fa=some o/\o.data=.func fd/\fd.code=.ref c/\PySem.W.codeHdIn K c P=true
 out:K.lookup P=none
theorem law_callT {P:Program}{w:World}{K:PySem.W.Frag}{mg mb:Str->Option Value}{k:Nat}{fa a:Addr}{fd:FuncData}{x:Str}{sp:Sp}{s₁:Shared}{vs:List Value}{ns:List Int}{ts:List (Str×Addr)}
  (KX:K.In s₁.heap) (hns:s₁.heap.Ns mainGlobals mg) (hb:s₁.heap.Ns builtinsNs mb) (hbb:∀x:Str,x ≠ "__name__"->mb x=bootBuiltins x) (hlim:s₁.heap.NoLimit) (hg:s₁.gens=#[])
  (hbm:∃bm ob,mg "__builtins__" = some (.ref bm)/\bm≠builtinsNs/\s₁.heap.get? bm=some ob/\ob.cls=.type "module"/\ob.dict=some builtinsNs/\ob.data=.plain)
  (ht:∀p∈ts,s₁.heap.get? p.2=some (PySem.W.tabObj #[])) (hk:∀p∈ts,TabK K p.1 p.2)
  (ha:s₁.heap.get? a=some { cls:=.type "list",data:=.seq vs.toArray }) (hi:IntsAre vs ns) (hl:ns.length<=sizeLine) (hr:Room k callerA)
  (F:∀base:Heap,K.In base->base.Ns mainGlobals mg->BMain mg base->FnOk P w K mg base CX0 k fa fd [x] sp) (hbind:∀(s:Shared) (u:Value),BindsTo s fd ⟨[u],[]⟩ [(x,u)])
  (hsp:∀H:Hp,FrzL K H a (ns.map V.int)->(∀p∈ts,H p.2=some (.tbl #[]))->sp [.ref a] H (fun v _=>v=.bl true) fun _ _ _=>False) :
  codeAny (model P w) callerA (.call (.ref fa) ⟨[.ref a],[]⟩) (fun r s'=>r=.ok (.ret (.bool true))/\OldK s₁.heap s'.heap/\s'.os=s₁.os/\AllBare s'.gens) s₁:=by
 have rv:=zgx hi
 have lenV:=hi.length
 have core:∀H:Hp,FrzL K H a (ns.map V.int)->(∀p∈ts,H p.2=some (.tbl #[]))->HOk P w H s₁.heap->(∀b u,H b=some u->(b=a/\K.lookup a=none/\∃o xs,u=.frz o (.lst xs))\/(∃p∈ts,b=p.2/\u=.tbl #[])) ->
   codeAny (model P w) callerA (.call (.ref fa) ⟨[.ref a],[]⟩) (fun r s'=>r=.ok (.ret (.bool true))/\OldK s₁.heap s'.heap/\s'.os=s₁.os/\AllBare s'.gens) s₁:=by
  intro H hS hT hok hA
  have base_of:∀{b:Addr} {o:Obj},s₁.heap.get? b=some o->H b=none->(hidT s₁.heap H).get? b=some o:=fun e n=>zll e n
  have noH:∀{b:Addr} {o:Obj},s₁.heap.get? b=some o->o.cls≠.type "list"->(∀vs,o.data≠.fields vs)->H b=none:=fun {b o} e d1 d2=>by
   cases q:H b with
   | none=>rfl
   | some u =>
    rcases hA b u q with⟨rfl,_⟩ | ⟨p,hp,rfl,_⟩
    ·rw[ha]at e;cases e;exact absurd rfl d1
    ·rw[ht p hp]at e;cases e;exact absurd rfl (d2 _)
  have noA:∀{b:Addr} {o:Obj} {es:Array DictEntry} {ep:Nat},s₁.heap.get? b=some o->o.data=.dict es ep->H b=none:=fun {b o es ep} e d=>by
   cases q:H b with
   | none=>rfl
   | some u =>
    rcases hA b u q with⟨rfl,_⟩ | ⟨p,hp,rfl,_⟩
    ·rw[ha]at e;cases e
     have d':Data.seq vs.toArray _=Data.dict es ep:=d
     cases d'
    ·rw[ht p hp]at e;cases e
     have d':Data.fields #[]=Data.dict es ep:=d
     cases d'
  have nsK:∀{b:Addr} {m:Str->Option Value},s₁.heap.Ns b m->(hidT s₁.heap H).Ns b m:=fun {b m} ⟨o,es,ep,e,d,r⟩=>⟨o,es,ep,base_of e (noA e d),d,r⟩
  have hKb:K.In (hidT s₁.heap H):=fun b o e=>base_of (KX b o e) (by
   cases q:H b with
   | none=>rfl
   | some u =>
    rcases hA b u q with⟨rfl,z,_⟩ | ⟨p,hp,rfl,_⟩
    ·rw[z]at e;cases e
    ·rw[(hk p hp).out]at e;cases e)
  have hM:Mod K mg (hidT s₁.heap H):=⟨hKb,nsK hns,⟨mb,nsK hb,hbb⟩,let ⟨mc,h1,h2⟩:=hlim;⟨mc,nsK h1,h2⟩⟩
  have e0:Env0 P w K mg (hidT s₁.heap H) callerA [] s₁ H:=⟨rfl,hM,fun b o e=>of_hidT e,Nat.le_of_eq (zio _ _),trivial,fun b hb=>absurd (show b∈([]:List Addr) from hb) (by simp),hok,.of_eq hg⟩
  have hBM:BMain mg (hidT s₁.heap H):=by
   obtain⟨bm,ob,b1,b2,b3,b4,b5,b6⟩:=hbm
   refine⟨bm,ob,b1,b2,fun z=>?_,base_of b3 (noH b3 (by rw[b4];simp) fun vs z=>by rw[b6]at z;cases z),b4,b5,b6⟩
   obtain⟨o,es,ep,e,d,_⟩:=hns
   rw[<-z,b3]at e;cases e
   rw[b6]at d;cases d
  refine codeAny_mono ((F _ hKb (nsK hns) hBM).run callerA [] s₁ H ⟨[.ref a],[]⟩ [.ref a] [.ref a] _ _ hr e0 (hbind s₁ (.ref a)) (.cons rfl .nil) (hsp H hS hT)) fun r s' h=>?_
  cases r with
  | error e=>exact False.elim h
  | ok fl =>
   cases fl with
   | next=>exact False.elim h
   | brk=>exact False.elim h
   | cont=>exact False.elim h
   | ret u =>
    obtain⟨v,H',os,bare,un,hok',r',q⟩:=h
    have q':v=.bl true:=q
    subst q'
    obtain rfl:u=Value.bool true:=r'
    refine⟨rfl,⟨fun b o e=>?_,fun b o e=>un.there b o e (by simp)⟩,os,bare⟩
    cases q:H b with
    | none=>exact .inl (un.keep b o e q (by intro z;exact absurd (show b∈([]:List Addr) from z) (by simp)) (by simp))
    | some u =>
     rcases hA b u q with⟨rfl,_,ob,xs,rfl⟩ | ⟨p,hp,rfl,rfl⟩
     ·have z2:=un.frzs _ ob _ q
      obtain⟨e1,_⟩:=hok _ _ q
      obtain⟨e2,_⟩:=hok' _ _ z2
      rw[e]at e1;cases e1
      exact .inl e2
     ·obtain⟨more,z2⟩:=un.tbls p.2 #[] q
      have e2:s'.heap.get? p.2=some (PySem.W.tabObj (#[]++more)):=hok' _ _ z2
      obtain⟨_,_,_,c,_,_,_,_,hcd⟩:=(hk p hp).code
      have hTA:=(PySem.W.codeHd_of_K KX hcd).tab (ht p hp)
      rw[ht p hp]at e;cases e
      exact .inr (.inl ⟨hTA.isCodeTable,rfl,#[],more,rfl,e2⟩)
 have nt:∀p∈ts,p.2≠a:=fun p hp z=>by
  have:=ht p hp
  rw[z,ha]at this;cases this
 cases hka:K.lookup a with
 | some o =>
  have e:=KX a o hka
  rw[ha]at e
  cases e
  let H:Hp:=fun b=>if (ts.map (·.2)).contains b=true then some (.tbl #[]) else none
  have hin:∀p∈ts,H p.2=some (.tbl #[]):=fun p hp=>if_pos (by simp;exact⟨p.1,hp⟩)
  refine core H (.inr ⟨_,vs.toArray,_,hka,rfl,rfl,rfl,by rw[List.size_toArray,lenV];exact hl,by simpa using rv⟩) hin (fun b u z=>?_) fun b u z=>?_
  ·by_cases hb:(ts.map (·.2)).contains b=true
   ·have z:(if (ts.map (·.2)).contains b=true then some (HO.tbl #[]) else none)=some u:=z
    rw[if_pos hb]at z;cases z
    obtain⟨p,hp,rfl⟩:=List.mem_map.mp (List.contains_iff_mem.mp hb)
    exact ht p hp
   ·have z:(if (ts.map (·.2)).contains b=true then some (HO.tbl #[]) else none)=some u:=z
    rw[if_neg hb]at z;cases z
  ·by_cases hb:(ts.map (·.2)).contains b=true
   ·have z:(if (ts.map (·.2)).contains b=true then some (HO.tbl #[]) else none)=some u:=z
    rw[if_pos hb]at z;cases z
    obtain⟨p,hp,rfl⟩:=List.mem_map.mp (List.contains_iff_mem.mp hb)
    exact .inr ⟨p,hp,rfl,rfl⟩
   ·have z:(if (ts.map (·.2)).contains b=true then some (HO.tbl #[]) else none)=some u:=z
    rw[if_neg hb]at z;cases z
 | none =>
  let H:Hp:=fun b=>if b=a then some (.frz { cls:=.type "list",data:=.seq vs.toArray } (.lst (ns.map V.int))) else if (ts.map (·.2)).contains b=true then some (.tbl #[]) else none
  have hin:∀p∈ts,H p.2=some (.tbl #[]):=fun p hp=>(if_neg (nt p hp)).trans (if_pos (by simp;exact⟨p.1,hp⟩))
  have hat:H a=some (.frz { cls:=.type "list",data:=.seq vs.toArray } (.lst (ns.map V.int))):=if_pos rfl
  have hcase:∀b u,H b=some u->(b=a/\u=.frz { cls:=.type "list",data:=.seq vs.toArray } (.lst (ns.map V.int)))\/∃p∈ts,b=p.2/\u=.tbl #[]:=fun b u z=>by
   by_cases hba:b=a
   ·subst hba
    rw[hat]at z;cases z
    exact .inl ⟨rfl,rfl⟩
   ·have z:(if b=a then some (HO.frz { cls:=.type "list",data:=.seq vs.toArray } (.lst (ns.map V.int))) else if (ts.map (·.2)).contains b=true then some (HO.tbl #[]) else none)=some u:=z
    rw[if_neg hba]at z
    by_cases hb:(ts.map (·.2)).contains b=true
    ·rw[if_pos hb]at z;cases z
     obtain⟨p,hp,rfl⟩:=List.mem_map.mp (List.contains_iff_mem.mp hb)
     exact .inr ⟨p,hp,rfl,rfl⟩
    ·rw[if_neg hb]at z;cases z
  refine core H (.inl ⟨_,hat⟩) hin (fun b u z=>?_) fun b u z=>?_
  ·rcases hcase b u z with⟨rfl,rfl⟩ | ⟨p,hp,rfl,rfl⟩
   ·exact⟨ha,by rw[List.length_map];exact hl,vs,_,rv,ha⟩
   ·exact ht p hp
  ·rcases hcase b u z with⟨rfl,rfl⟩ | h
   ·exact .inl ⟨rfl,hka,_,_,rfl⟩
   ·exact .inr h
theorem zjr {K:PySem.W.Frag}{H:Hp}{a:Addr}{ns:List Int}{ts:List (Str×Addr)}(hnd:(ts.map (·.2)).Nodup)(hS:FrzL K H a (ns.map V.int))(hT:∀p∈ts,H p.2=some (.tbl #[]))(hk:∀p∈ts,TabK K p.1 p.2) :
  RepS K (a::ts.map (·.2)) H (.frz (ns.map D.int)::ts.map fun p=>.tab p.1):=by
 have hv:∀(μ:List Addr) (l:List Int),RepVs K μ H (l.map D.int) (l.map V.int):=fun μ l=>by
  induction l with
  | nil=>exact RepVs.nil
  | cons i l ih=>exact RepVs.cons (RepV.int_iff.mpr rfl) ih
 refine⟨by simp,fun n o e=>?_,fun i j b oi oj ei ej mi mj hi hj=>?_⟩
 ·match n,e with
  | 0,e =>
   simp at e;subst e
   exact⟨a,rfl,_,hS,hv _ ns⟩
  | n+1,e =>
   rw[List.getElem?_cons_succ,List.getElem?_map]at e
   cases q:ts[n]? with
   | none=>rw[q]at e;cases e
   | some p =>
    rw[q]at e;cases e
    have hp:=List.mem_of_getElem? q
    refine⟨p.2,by rw[List.getElem?_cons_succ,List.getElem?_map,q];rfl,(hk p hp).code,#[],hT p hp,trivial,fun pos cv z=>by cases z⟩
 ·match i,j,ei,ej,hi,hj with
  | 0,_,ei,_,_,_=>simp at ei;subst ei;cases mi
  | _+1,0,_,ej,_,_=>simp at ej;subst ej;cases mj
  | i+1,j+1,_,_,hi,hj =>
   rw[List.getElem?_cons_succ]at hi hj
   have h1:=(List.getElem?_eq_some_iff.mp hi).1
   rw[(List.getElem?_inj h1 hnd).mp (hi.trans hj.symm)]
theorem holds_ofT (ts:List (Str×Addr)){l:PySem.W.OpenLaw}{k:Nat}{q:Program}{loose:List Str}{XP:(Str->Option Value)->Heap->Prop}{YP:World->Heap->Prop}{d:DefRec}{K:Params->PySem.W.Frag}{F:FD}{x:Str}
  (hn:l.most=some 63) (hdf:d.params.defaults=[]) (hr:Room k callerA) (hnd:(ts.map (·.2)).Nodup)
  (hY:∀(w:World) (h:Heap),YP w h->(K w.params).In h/\∀P∈ts.map (·.2),h.get? P=some (PySem.W.tabObj #[]))
  (G:∀(w:World) (mg:Str->Option Value) (fa:Addr) (h:Heap),(K w.params).In h->h.Ns mainGlobals mg->mg d.name=some (.ref fa) ->
   ∃fd:FuncData,(∀(s:Shared) (u:Value),BindsTo s fd ⟨[u],[]⟩ [(x,u)])/\(∀p∈ts,TabK (K w.params) p.1 p.2)/\∀base:Heap,(K w.params).In base->base.Ns mainGlobals mg->BMain mg base->FnOk l.prog w (K w.params) mg base CX0 k fa fd [x] (spM (K w.params) 1 F))
  (hF:∀ns:List Int,ns.length<=63->∃st,F [.loc 0] (.frz (ns.map D.int)::ts.map fun p=>.tab p.1)=.ok (.bl true) st) :
  PySem.W.WalkO q loose XP YP l.row.toRowW d [] (fun f vs=>PySem.call f vs):=by
 refine Att.zgc hn hdf fun w s₀ s₁ mg mb fa o pm cd doc a vs ns G0 Y ho hd hcd hmg hobj hints hlen hg=>?_
 obtain⟨KX,hT⟩:=hY w _ Y
 obtain⟨fd,hb,hk,hF'⟩:=G w mg fa _ KX G0.T.g hmg
 refine law_callT (ts:=ts) KX G0.T.g G0.T.b G0.T.builtins G0.T.nolimit hg G0.T.bmain (fun p hp=>hT p.2 (List.mem_map.mpr ⟨p,hp,rfl⟩)) hk hobj hints (Nat.le_trans hlen (by decide)) hr hF' hb fun H hS hTb=>?_
 obtain⟨st,e⟩:=hF ns hlen
 refine⟨rfl,a::ts.map (·.2),[.loc 0],_,RepVs.cons (RepV.loc_iff.mpr ⟨a,rfl,rfl⟩) RepVs.nil,zjr hnd hS hTb hk,?_⟩
 rw[e]
 exact fun v H' μ' _ _ hv=>RepV.bl_iff.mp hv
structure FunT (K:PySem.W.Frag)(x:Str)(st:Stmt)(f:Addr)(fd:FuncData):Prop where
 ex:∃(oc:Value) (od:Option Addr) (dV kV doc pm:Value) (an:Option Addr) (c:Addr) (ct:Value) (osl:Array (Option Value)),
  fd=PySem.W.fnOf x x (defArgs st) (defBody st) (defScope st) dV kV doc pm an (.ref c) ct/\K.lookup f=some ⟨oc,od,.func fd,osl⟩/\PySem.W.codeIn K (.ref c) x=true
 ns:PySem.W.nsIn K mainGlobals x=some (some (.ref f))
 kp:PySem.W.keepIn K (.ref f)=true
end M
namespace M
open PySem PySem.Spec L2
end M
namespace M
open L2
@[simp] theorem isClo_lst (l:List D):(MO.lst l).isClo=false:=rfl
@[simp] theorem isClo_frz (l:List D):(MO.frz l).isClo=false:=rfl
@[simp] theorem isClo_tab (x:PySem.Str):(MO.tab x).isClo=false:=rfl
@[simp] theorem isClo_dic (l:List (List Key×D)):(MO.dic l).isClo=false:=rfl
@[simp] theorem isClo_dkc (l:List (Key×D)):(MO.dkc l).isClo=false:=rfl
@[simp] theorem isClo_dkf (l:List (Key×D)):(MO.dkf l).isClo=false:=rfl
@[simp] theorem isClo_exc (c:String) (d:D):(MO.exc c d).isClo=false:=rfl
@[simp] theorem isClo_dtf (l:List (List Key×D)):(MO.dtf l).isClo=false:=rfl
end M
namespace M
open PySem PySem.Spec L2
section
variable {X:Cx}{elt tg iter c:Expr}{ifs:List Expr}{scope:Scope}{pos:Pos}{N:List Str}{capt:List (Option Nat)}{mi:MI}{g:MG}{t:MT}{me:ME}
end
end M
namespace L2
open PySem PySem.Spec PyProof.Rows
end L2
namespace M
open PySem PySem.Spec L2
section
variable {X:Cx}{a:Expr}{mA:MA}{μ:List Addr}{H:Hp}{p pos tpos:Pos}
end
end M
namespace M
open PySem PySem.Spec PySem.SeqAt L2
section
variable {X:Cx}{pos:Pos}{x:Str}{L:Nat}
end
end M
namespace M
open PySem PySem.Spec L2
section
variable {prog:Program}{w:World}{A:Around}{E:Value->Shared->Prop}{s:Shared}
end
section
variable {X:Cx}{es:List Expr}{pos:Pos}
end
end M
namespace M
open L2
end M
namespace M
open PySem PySem.Spec L2
section
variable {X:Cx}
end
end M
namespace M
open L2
noncomputable def putN (kvs:List (Key×D))(k:Key)(d:D):List (Key×D) :=
 if (kvs.any fun kv=>decide (kv.1=k))=true then kvs.map (fun kv=>if kv.1=k then (kv.1,d) else kv) else kvs++[(k,d)]
noncomputable def dkE:ME:=fun _ st=>.ok (.loc st.length) (st++[.dkc []])
noncomputable def setK:D->D->D->Stor->R Unit
 | .loc n,k,d,st=>match st[n]?,keyOf k with
  | some (.dkc kvs),some kk=>if kvs.length<1000000 then .ok () (st.set n (.dkc (putN kvs kk d))) else .bad
  | _,_=>.bad
 | _,_,_,_=>.bad
end M
namespace M
open PySem PySem.Spec L2
section
variable {X:Cx}{K:PySem.W.Frag}{μ:List Addr}{H:Hp}
theorem RepKV.anyN {k:Key}:∀{kvs:List (Key×D)} {ws:List (Key×V)},RepKV K μ H kvs ws->(kvs.any fun kv=>decide (kv.1=k))=(ws.any fun kv=>decide (kv.1=k))
 | [],ws,h=>by rw[RepKV]at h;rw[h];rfl
 | (j,d)::r,ws,h=>by
  obtain⟨v,r',rfl,h1,h2⟩:=h
  rw[List.any_cons,List.any_cons,RepKV.anyN h2]
theorem RepKV.replN {k:Key}{d:D}{v:V}(hv:RepV K μ H d v):∀{kvs:List (Key×D)} {ws:List (Key×V)},RepKV K μ H kvs ws->RepKV K μ H (kvs.map fun kv=>if kv.1=k then (kv.1,d) else kv) (ws.map fun kv=>if kv.1=k then (kv.1,v) else kv)
 | [],ws,h=>by rw[RepKV]at h;subst h;exact rfl
 | (j,d')::r,ws,h=>by
  obtain⟨v',r',rfl,h1,h2⟩:=h
  rw[List.map_cons,List.map_cons]
  by_cases e:j=k
  ·rw[if_pos e,if_pos e];exact⟨v,_,rfl,hv,RepKV.replN hv h2⟩
  ·rw[if_neg e,if_neg e];exact⟨v',_,rfl,h1,RepKV.replN hv h2⟩
theorem RepKV.snocN {k:Key}{d:D}{v:V}:∀{kvs:List (Key×D)} {ws:List (Key×V)},RepKV K μ H kvs ws->RepV K μ H d v->RepKV K μ H (kvs++[(k,d)]) (ws++[(k,v)])
 | [],ws,h,hv=>by rw[RepKV]at h;subst h;exact⟨v,[],rfl,hv,rfl⟩
 | (j,d')::r,ws,h,hv=>by
  obtain⟨v',r',rfl,h1,h2⟩:=h
  exact⟨v',r'++[(k,v)],rfl,h1,RepKV.snocN h2 hv⟩
theorem RepKV.putN {k:Key}{d:D}{v:V}{kvs:List (Key×D)}{ws:List (Key×V)}(h:RepKV K μ H kvs ws)(hv:RepV K μ H d v):RepKV K μ H (M.putN kvs k d) (putK ws k v):=by
 unfold M.putN putK
 rw[h.anyN]
 split
 ·exact RepKV.replN hv h
 ·exact h.snocN hv
theorem RepS.dkc {st:Stor}{n:Nat}{kvs:List (Key×D)}(h:RepS K μ H st)(e:st[n]? = some (.dkc kvs)):∃p ws,μ[n]? = some p/\H p=some (.dK ws)/\RepKV K μ H kvs ws:=by
 obtain⟨p,h1,xs,h2,h3⟩:=h.at_ n _ e
 exact⟨p,xs,h1,h2,h3⟩
theorem RepV.key {d:D}{v:V}{k:Key}(h:RepV K μ H d v)(e:keyOf d=some k):v=kV k:=by
 cases d with
 | int i=>rw[RepV.int_iff]at h;cases e;exact h
 | str cs=>rw[RepV.str_iff]at h;cases e;exact h
 | _=>cases e
end
section
variable {X:Cx}{a b o i:Expr}{ma mb:ME}{pos:Pos}
theorem je_dictK:JE X (.Dict [] [] pos) dkE:=by
 refine JE.of pe_dnewK fun σ H Q zz=>?_
 obtain⟨μ,env,st,hE,hs,hp⟩:=zz
 refine fun p hn=>?_
 have hr:RepO X.K (μ++[p]) (upd H p (.dK [])) p (.dkc []):=⟨[],zah,rfl⟩
 exact hp _ _ (μ++[p]) (Grow.new hn) (hs.new hn hr) (RepV.loc_iff.mpr ⟨p,by rw[<-hs.len];simp,rfl⟩)
theorem set_K (hu:X.A.units+1<cLine):PSet X (rMSet X setK):=by
 rintro pins s σ H o i v ov iv u Q I ro ri rv ⟨μ,st,d1,d2,d3,hs,h1,h2,h3,hp⟩
 unfold setK at hp
 split at hp
 ·rename_i n k d
  split at hp
  ·rename_i kvs kk e1 e2
   split at hp
   ·rename_i hl
    obtain⟨p,q1,rfl⟩:=RepV.loc_iff.mp h1
    obtain rfl:=h2.key e2
    obtain⟨p',ws,r1,r2,r3⟩:=hs.dkc e1
    rw[q1]at r1;cases r1
    obtain rfl:ov=Value.ref p:=ro
    refine zi3 hu I (DPut.k r2 (by rw[<-r3.len];exact Nat.lt_of_lt_of_le hl (by decide))) ri rv fun s' I'=>⟨_,I',?_⟩
    have g:Ext H (upd H p (.dK (putK ws kk v))):=Ext.mut r2 (fun _ z=>nomatch z) (fun _ _ z=>nomatch z)
    have g':Grow μ H μ (upd H p (.dK (putK ws kk v))):=⟨⟨[],by simp⟩,g⟩
    exact hp () _ μ g' (hs.put e1 rfl rfl q1 g ⟨_,zah,(r3.putN h3).mono g'⟩) trivial
   ·exact hp.elim
  ·exact hp.elim
 ·exact hp.elim
end
end M
namespace M
open PySem PySem.Spec PySem.SeqAt L2
end M
namespace L2
open PySem PySem.Spec PyProof.Rows
theorem key_rel {P:Program}{w:World}{k:Key}{u:Value}(h:(mixKind P w).is k u=true):RelV (kV k) u:=by
 rw[zlr]at h
 rcases zbh h with⟨i,t,rfl,rfl⟩ | ⟨x,t,rfl,rfl⟩
 ·exact⟨t,rfl⟩
 ·exact⟨t,rfl⟩
theorem zgs {α β:Type}{F:α->β->Prop}:∀{l₁:List α} {l₂:List β},Paired F l₁ l₂->∀(i:Nat) (a:α) (b:β),l₁[i]? = some a->l₂[i]? = some b->F a b
 | _,_,.nil,i,a,b,h,_=>by simp at h
 | _,_,.cons r t,0,a,b,h1,h2=>by simp at h1 h2;subst h1;subst h2;exact r
 | _,_,.cons r t,i+1,a,b,h1,h2=>zgs t i a b (by simpa using h1) (by simpa using h2)
noncomputable def Itk (d:Addr)(o:Obj)(kvs:List (Key×V)):It :=
 ⟨fun i H=>i<kvs.length/\H d=some (.frz o (.dK kvs)),fun i H y H'=>H'=H/\∃p,kvs[i]? = some p/\y=kV p.1,fun i H=>kvs.length<=i/\H d=some (.frz o (.dK kvs))⟩
theorem dict_at {X:Cx}{pins:List (Addr×Obj)}{σ:St}{H:Hp}{s:Shared}{d:Addr}{o:Obj}{kvs:List (Key×V)}{es:Array DictEntry}{ep:Nat}(I:Inv X pins σ H s)(ho:o.data=.dict es ep)(e:H d=some (.frz o (.dK kvs))) :
  (d==sysModules)=false/\∃vs,KV kvs vs/\s.heap.DictAt (mixKind X.prog X.w) d vs ep:=by
 obtain⟨h1,z,hd,vs,rel,o',es',ep',h2,h3,h4,h5⟩:=(show ObjOk X.prog X.w H s.heap d (.frz o (.dK kvs)) from I.hok d _ e)
 rw[h1]at h2
 cases h2
 rw[ho]at h4
 cases h4
 exact⟨hd,vs,rel,o,es,h1,h3,ho,h5⟩
theorem turn_dk {P:Program}{w:World}{K:PySem.W.Frag}{tg:Expr}(it d:Addr)(o:Obj)(es:Array DictEntry)(ep:Nat)(ho:o.data=.dict es ep)(kvs:List (Key×V)):Turn P w K tg (Itk d o kvs) [it] it (fun i h=>h.IsKeyIter it d i kvs.length ep) where
 mem:=by simp
 obj:=fun i h st b hb=>by
  have e:b=it:=by simpa using hb
  subst e
  obtain⟨o,e,c,d⟩:=st
  exact⟨o,e,fun v z=>by rw[d]at z;cases z⟩
 keep:=fun i h h' st k=>by
  obtain⟨o,e,c,d⟩:=st
  exact⟨o,k it (by simp) o e,c,d⟩
 item:=by
  intro X hP hw hK hc i pins s σ H E I hf st hg
  subst hP hw hK
  obtain⟨f0,f1,f2,f3,f4,f5⟩:=hf it (by simp)
  obtain⟨hi,e⟩:=hg
  obtain⟨hd,vs,rel,da⟩:=dict_at I ho e
  have hl:kvs.length=vs.length:=Paired.length rel
  obtain⟨q,hq⟩:∃q,vs[i]? = some q:=⟨_,List.getElem?_eq_getElem (by omega)⟩
  obtain⟨p,hp⟩:∃p,kvs[i]? = some p:=⟨_,List.getElem?_eq_getElem hi⟩
  have hk:p.1=q.1:=(zgs rel i p q hp hq).1
  rw[hl]at st
  refine wpAny_pyNext_dict_item (k:=q.1) (v:=q.2) st da hq fun key h' ik st' sb=>?_
  have I1:Inv X pins σ H { s with heap:=h' }:=I.turned (t':=s.toks) (fun b o hb e=>(sb.2 b hb).trans e) f0 f1 f3 f4 f5
  obtain⟨o1,e1,c1,d1⟩:=id st'
  rw[<-hl]at st'
  exact⟨_,rfl,go_of (s:={ s with heap:=h' }) e1 c1 d1 (by decide) ⟨kV p.1,H,I1,by rw[hk];exact key_rel ik,⟨rfl,p,hp,rfl⟩,st',fun b hb=>(hf b hb).1⟩⟩
 done:=by
  intro X hP hw hK hc i pins s σ H E I hf st hg
  subst hP hw hK
  obtain⟨f0,f1,f2,f3,f4,f5⟩:=hf it (by simp)
  obtain⟨hi,e⟩:=hg
  obtain⟨hd,vs,rel,da⟩:=dict_at I ho e
  have hl:kvs.length=vs.length:=Paired.length rel
  rw[hl]at st
  exact wpAny_pyNext_dict_end (I.ok.hd hc) st da (List.getElem?_eq_none (by omega)) fun h' eb=>⟨rfl,I.turned (t':=s.toks) (fun b o hb e=>eb b o hb e) f0 f1 f3 f4 f5⟩
 self:=fun _ _ _ _ _ st h=>wpAny_pyIter_keyiter st h
noncomputable def iDk (tl:TE):TI:=fun σ H R=>tl σ H fun y H1=>∃a kvs,y=.ref a/\((∃o,H1 a=some (.frz o (.dK kvs))/\R (Itk a o kvs) H1)\/(H1 a=some (.dK kvs)/\∀o,R (Itk a o kvs) (upd H1 a (.frz o (.dK kvs)))))
theorem pi_dk {X:Cx}{tg l:Expr}{tl:TE}(hl:PE X l tl):PI X tg l (iDk tl):=by
 intro pins s σ H R I h
 refine thn (hl pins s σ H _ I h) fun v s1 zz=>?_
 obtain⟨y,H1,I1,r1,q1⟩:=zz
 obtain⟨a,kvs,rfl,q⟩:=q1
 cases (show v=Value.ref a from r1)
 have key:∀(H2:Hp) (o:Obj),Inv X pins σ H2 s1->H2 a=some (.frz o (.dK kvs))->R (Itk a o kvs) H2->wpAny (model X.prog X.w) X.A (pyIter (.ref a)) (PIE X pins σ tg R) X.xe s1:=fun H2 o I2 e2 r2=>by
  obtain⟨h1,z,hd,vs,rel,o',es,ep,h2,h3,h4,h5⟩:=(show ObjOk X.prog X.w H2 s1.heap a (.frz o (.dK kvs)) from I2.hok a _ e2)
  rw[h1]at h2
  cases h2
  have hl:kvs.length=vs.length:=Paired.length rel
  refine wpAny_pyIter_dict (knd:=mixKind X.prog X.w) (kvs:=vs) (ep:=ep) hd ⟨o,es,h1,h3,h4,h5⟩ ?_
  refine⟨s1.heap.objs.size,[s1.heap.objs.size],_,_,H2,rfl,I2.kept (t':=s1.toks) fun b u e=>Heap.get?_push_of_some _ e,turn_dk _ a o es ep h4 kvs,⟨_,Heap.get?_push_size _ rfl,rfl,by rw[hl];rfl⟩,fun b hb=>?_,r2⟩
  have e:b=s1.heap.objs.size:=by simpa using hb
  subst e
  exact I2.fpOk (Nat.le_refl _) (I2.hok.fresh (Nat.le_refl _))
 rcases q with⟨o,e,r⟩ | ⟨e,r⟩
 ·exact key H1 o I1 e r
 ·obtain⟨z,hd,vs,rel,o,es,ep,h2,h3⟩:=(show ObjOk X.prog X.w H1 s1.heap a (.dK kvs) from I1.hok a _ e)
  have new:ObjOk X.prog X.w (upd H1 a (.frz o (.dK kvs))) s1.heap a (.frz o (.dK kvs)):=⟨h2,z,hd,vs,rel,o,es,ep,h2,h3⟩
  exact key (upd H1 a (.frz o (.dK kvs))) o (I1.write (x:=a) (e:=a) (t':=s1.toks) (h':=s1.heap) (by rw[e];trivial) (.inl rfl) (fun b u _ z=>z) ⟨o,h2⟩ new) zah (r o)
end L2
namespace M
open PySem PySem.Spec L2
noncomputable def keyD:Key->D
 | .inl i=>.int i
 | .inr x=>.str x.cps.toList
noncomputable def dkI (m:ME):MI:=fun env st=>(m env st).bind fun d st1=>match d with
 | .loc n=>(match st1[n]? with
  | some (.dkc kvs)=>.ok (kvs.map (fun p=>keyD p.1),[]) (st1.set n (.dkf kvs))
  | some (.dkf kvs)=>.ok (kvs.map (fun p=>keyD p.1),[]) st1
  | _=>.bad)
 | _=>.bad
section
variable {X:Cx}{tg l a b:Expr}{ml ma mb:ME}{μ:List Addr}{H:Hp}{K:PySem.W.Frag}{st:Stor}{pos:Pos}
theorem RepV.keyD (k:Key):RepV K μ H (M.keyD k) (kV k):=by
 cases k with
 | inl i=>exact RepV.int_iff.mpr rfl
 | inr x=>exact RepV.str_iff.mpr (by show V.str x=V.str (strOf x.cps.toList);simp[strOf])
theorem RepKV.keyAt:∀{kvs:List (Key×D)} {ws:List (Key×V)},RepKV K μ H kvs ws->kvs.length=ws.length/\∀(i:Nat) (p:Key×D) (q:Key×V),kvs[i]? = some p->ws[i]? = some q->p.1=q.1
 | [],_,h=>by cases h;exact⟨rfl,fun i p q h1=>by simp at h1⟩
 | (k,d)::r,_,⟨v,s,rfl,h1,h2⟩=>by
  obtain⟨l,hk⟩:=RepKV.keyAt h2
  refine⟨by simp[l],fun i p q e1 e2=>?_⟩
  cases i with
  | zero=>simp at e1 e2;subst e1;subst e2;rfl
  | succ i=>exact hk i p q (by simpa using e1) (by simpa using e2)
theorem itk_rep {a:Addr}{o:Obj}{kvs:List (Key×D)}{ws:List (Key×V)}(e:H a=some (.frz o (.dK ws)))(h:RepKV X.K μ H kvs ws):ItRep X μ H (Itk a o ws) (kvs.map (fun p=>M.keyD p.1),[]):=by
 intro H' μ' st' g hs ok
 obtain⟨hl,hk⟩:=h.keyAt
 have e':=g.ext.frz _ _ _ e
 refine⟨fun i d ed=>?_,⟨by simp[hl],e'⟩⟩
 rw[List.getElem?_map]at ed
 obtain⟨p,e1,rfl⟩:=Option.map_eq_some_iff.mp ed
 have hi:=(List.getElem?_eq_some_iff.mp e1).1
 refine⟨⟨by omega,e'⟩,?_⟩
 rintro x H'' ⟨rfl,q,hq,rfl⟩
 refine⟨.refl _ _,hs,?_⟩
 rw[hk i p q e1 hq]
 exact RepV.keyD _
theorem RepS.putF {n:Nat}{mo mo':MO}{a:Addr}{o':HO}(h:RepS K μ H st)(hn:st[n]? = some mo)(hm:mo.mut=true)(ha:μ[n]? = some a)(g:Ext H (upd H a o'))(new:RepO K μ (upd H a o') a mo'):RepS K μ (upd H a o') (st.set n mo'):=by
 have hl:=(List.getElem?_eq_some_iff.mp hn).1
 refine⟨by simp[h.len],fun k ok e=>?_,fun i j b oi oj ei ej mi mj hi hj=>?_⟩
 ·by_cases hk:n=k
  ·subst hk
   rw[List.getElem?_set_self hl]at e;cases e
   exact⟨a,ha,new⟩
  ·rw[List.getElem?_set_ne hk]at e
   obtain⟨b,h1,h2⟩:=h.at_ k ok e
   refine⟨b,h1,h2.keep ⟨⟨[],by simp⟩,g⟩ fun hmk u q=>?_⟩
   rw[zai (fun e2=>?_)]
   ·exact q
   ·subst e2;exact hk (h.uniq n k b mo ok hn e hm hmk ha h1)
 ·have key:∀(k:Nat) (ok:MO),(st.set n mo')[k]? = some ok->ok.mut=true->∃ok',st[k]? = some ok'/\ok'.mut=true:=fun k ok ek mk=>by
   by_cases hk:n=k
   ·subst hk;exact⟨mo,hn,hm⟩
   ·rw[List.getElem?_set_ne hk]at ek;exact⟨ok,ek,mk⟩
  obtain⟨oi',ei',mi'⟩:=key i oi ei mi
  obtain⟨oj',ej',mj'⟩:=key j oj ej mj
  exact h.uniq i j b oi' oj' ei' ej' mi' mj' hi hj
theorem ji_dk (hl:JE X l ml):JI X tg l (dkI ml):=by
 refine JI.of (pi_dk hl) fun σ H R zz=>?_
 obtain⟨μ,env,st,hE,hs,hp⟩:=zz
 refine⟨μ,env,st,hE,hs,(Post.bind hp).imp ?_⟩
 rintro v H1 ⟨μ1,st1,d,g1,hs1,hv,hp1⟩
 dsimp only at hp1
 split at hp1
 ·rename_i n
  obtain⟨a,q1,rfl⟩:=RepV.loc_iff.mp hv
  split at hp1
  ·rename_i kvs e1
   obtain⟨a',ws,r1,r2,r3⟩:=hs1.dkc e1
   rw[q1]at r1;cases r1
   refine⟨a,ws,rfl,.inr ⟨r2,fun o=>?_⟩⟩
   have g:Ext H1 (upd H1 a (.frz o (.dK ws))):=Ext.mut r2 (fun _ z=>nomatch z) (fun _ _ z=>nomatch z)
   have g':Grow μ1 H1 μ1 (upd H1 a (.frz o (.dK ws))):=⟨⟨[],by simp⟩,g⟩
   exact hp1 _ _ μ1 g' (hs1.putF e1 rfl q1 g ⟨ws,o,zah,r3.mono g'⟩) (itk_rep zah (r3.mono g'))
  ·rename_i kvs e1
   obtain⟨a',r1,ws,o,r2,r3⟩:=hs1.at_ n _ e1
   rw[q1]at r1;cases r1
   exact⟨a,ws,rfl,.inl ⟨o,r2,hp1 _ _ _ (.refl _ _) hs1 (itk_rep r2 r3)⟩⟩
  ·exact hp1.elim
 ·exact hp1.elim
end
end M
namespace L2
open PySem PySem.Spec PyProof.Rows
end L2
namespace L2
open PySem PySem.Spec PyProof.Rows
end L2
namespace M
open PySem PySem.Spec L2
end M
namespace M
open PySem PySem.Spec L2
theorem r_dkI_c {m:ME}{env:MEnv}{st st1:Stor}{n:Nat}{kvs:List (Key×D)}(h:m env st=.ok (.loc n) st1)(e:st1[n]? = some (.dkc kvs)):dkI m env st=.ok (kvs.map (fun p=>keyD p.1),[]) (st1.set n (.dkf kvs)):=by
 unfold dkI;rw[h];simp only[R.bind,e]
noncomputable def keyT (tb:List (List Nat×D)):List (Key×D):=tb.map fun p=>(Sum.inr (strOf p.1),p.2)
structure DictK (w:World)(K:PySem.W.Frag)(a:Addr)(tb:List (List Nat×D)):Prop where
 low:(a==sysModules)=false
 at_:∀P:Program,∃(kvs:List (Key×V)) (vs:List (Key×Value)) (ep:Nat),(∀μ H,RepKV K μ H (keyT tb) kvs)/\KV kvs vs/\∀h:Heap,K.In h->h.DictAt (mixKind P w) a vs ep
inductive Rws (K:PySem.W.Frag) (w:World):List DictEntry->List (List Nat×D)->Prop
 | nil:Rws K w [] []
 | i {h:Int} {x:Str} {t u:Tok} {cs:List Nat} {n:Int} {es:List DictEntry} {tb:List (List Nat×D)} (hx:x=strOf cs) (hh:h=keyH w (.inr x)) (r:Rws K w es tb):Rws K w (⟨h,.str x t,.int n u⟩::es) ((cs,.int n)::tb)
section
variable {X:Cx}{tg b:Expr}{mb:ME}{pos pos':Pos}{x:Str}{tb:List (List Nat×D)}
end
end M
namespace M
open PySem PySem.Spec PySem.SeqAt L2
section
variable {X:Cx}{L:Nat}
end
end M
namespace M
open PySem PySem.Spec L2
section
variable {X:Cx}{b:Expr}{mb:ME}{x:Str}{tb:List (List Nat×D)}{cpos apos pos':Pos}
end
end M
namespace L2
open PySem PySem.Spec PyProof.Rows
section
variable {prog:Program}{w:World}{A:Around}{E:Value->Shared->Prop}{s:Shared}{d:Addr}{o:Obj}{es:Array DictEntry}{ep:Nat}
theorem zhy (hd:(d==sysModules)=false):MeetsIn prog w (Builtin.«dict.__len__» ⟨[.ref d],[]⟩) (fun _ R s=>∃o es ep,s.heap.get? d=some o/\o.data=.dict es ep/\R (.ok (.ret (.int es.size s.toks))) { s with toks:=s.toks+1 }) :=
 .of_wp fun A R s zz=>by
  obtain⟨o,es,ep,ho,hdat,h⟩:=zz
  show wpAny _ _ (dictSize d >>= _) _ _ s
  unfold dictSize
  refine wpAny_bind (wpAny_bind (wpAny_dictEntries ho hdat (wpAny_pure ?_)))
  show wpAny _ _ (Builtin.Dict.pendingCount d >>= _) _ _ s
  refine wpAny_bind (wpAny_pendingCount_other hd ?_)
  refine wpAny_ret_mkInt ?_
  simpa using h
theorem len_raw {Q:Value->Shared->Prop}(hd:(d==sysModules)=false)(ho:s.heap.get? d=some o)(hx:o.ExactDict)(hdat:o.data=.dict es ep)(hfit:(es.size:Int)<2 ^ 63)
  (h:Q (.int es.size (s.toks+1)) { s with toks:=s.toks+1+1 }):wpAny (model prog w) A (call (.builtin "len") [.ref d]) Q E s:=by
 have hT:s.TypeIs (.ref d) "dict":=⟨o,ho,hx.1⟩
 refine Calls.call_function_entry PySem.kind_len PySem.plain_len PySem.entry_len (PySem.args_len1 _) ?_
 unfold Builtin.«len»
 refine wpAny_bind (m:=oneArg "len" _) (wpAny_pure ?_)
 refine wpAny_bind (m:=callSpecial? (.ref d) (Str.ofString "__len__")) (wpAny_callSpecial?_slot (name:=Str.ofString "__len__") hT F.slot_dict_len
  (call_meetsIn F.slot_dict_len hT F.entry_dict_len (F.args_dict_len_1 _) (zhy hd) ⟨o,es,ep,ho,hdat,?_⟩))
 show wpAny _ _ _ _ _ { s with toks:=s.toks+1 }
 refine wpAny_bind (wpAny_holding (wpAny_pure ?_))
 refine wpAny_bind (wpAny_letGo ?_)
 show wpAny _ _ (if ((es.size:Nat):Int)<0 then _ else _) _ _ _
 rw[if_neg (by omega)]
 show wpAny _ _ (if ((es.size:Nat):Int) ≥ 2 ^ 63 then _ else _) _ _ _
 rw[if_neg (by omega)]
 exact wpAny_bind (wpAny_mkInt (wpAny_pure ⟨_,rfl,h⟩))
end
end L2
namespace M
open PySem PySem.Spec L2
section
variable {K:PySem.W.Frag}{μ ν:List Addr}{H H':Hp}{st st':Stor}
theorem RepS.backM {n:Nat}(hl:μ.length=n)(h:RepS K (μ++ν) H' st')(hn:n<=st'.length)(hu:∀o∈st'.take n,underO n o):RepS K μ H' (st'.take n):=by
 have tg:∀(k:Nat) (o:MO),(st'.take n)[k]? = some o->st'[k]? = some o/\k<n:=fun k o e=>by
  have hk:=(List.getElem?_eq_some_iff.mp e).1
  rw[List.length_take]at hk
  rw[List.getElem?_take,if_pos (by omega)]at e
  exact⟨e,by omega⟩
 refine⟨by rw[List.length_take,hl];omega,fun k o e=>?_,fun i j a oi oj ei ej mi mj hi hj=>?_⟩
 ·obtain⟨e1,hk⟩:=tg k o e
  obtain⟨a,h1,h2⟩:=h.at_ k o e1
  rw[List.getElem?_append_left (by omega)]at h1
  exact⟨a,h1,h2.down (by rw[hl];exact hu o (List.mem_of_getElem? e))⟩
 ·have up:∀k,μ[k]? = some a->(μ++ν)[k]? = some a:=fun k hk=>by rw[List.getElem?_append_left (List.getElem?_eq_some_iff.mp hk).1];exact hk
  exact h.uniq i j a oi oj (tg i oi ei).1 (tg j oj ej).1 mi mj (up i hi) (up j hj)
theorem RepS.back1M {n k:Nat}{o:MO}{a:Addr}(hl:μ.length=n)(h:RepS K (μ++ν) H' st')(hn:n<=st'.length)(hu:∀o∈st'.take n,underO n o)(hk:n<=k)(e:st'[k]? = some o)(u:underO n o)(ha:(μ++ν)[k]? = some a) :
  RepS K (μ++[a]) H' (st'.take n++[o]):=by
 have hb:=RepS.backM hl h hn hu
 have lt:(st'.take n).length=n:=by rw[List.length_take];omega
 obtain⟨a',q1,q2⟩:=h.at_ k o e
 rw[ha]at q1;cases q1
 have key:∀(i:Nat) (on:MO) (c:Addr),(st'.take n++[o])[i]? = some on->(μ++[a])[i]? = some c->(i<n/\(st'.take n)[i]? = some on/\μ[i]? = some c)\/(i=n/\on=o/\c=a):=fun i on c e1 e2=>by
  by_cases hi:i<n
  ·rw[List.getElem?_append_left (by omega)]at e1
   rw[List.getElem?_append_left (by omega)]at e2
   exact .inl ⟨hi,e1,e2⟩
  ·have hl2:=(List.getElem?_eq_some_iff.mp e1).1
   rw[List.length_append,List.length_singleton,lt]at hl2
   have en:i=n:=by omega
   subst en
   rw[List.getElem?_append_right (by omega),lt]at e1
   rw[List.getElem?_append_right (by omega),hl]at e2
   simp at e1 e2
   exact .inr ⟨rfl,e1.symm,e2.symm⟩
 have tg:∀(i:Nat) (o:MO),(st'.take n)[i]? = some o->st'[i]? = some o:=fun i o e=>by
  have hi:=(List.getElem?_eq_some_iff.mp e).1
  rw[lt]at hi
  rw[List.getElem?_take,if_pos hi]at e
  exact e
 refine⟨by simp[lt,hl],fun i on e1=>?_,fun i j c oi oj ei ej mi mj hi hj=>?_⟩
 ·have hi:i<(μ++[a]).length:=by
   have:=(List.getElem?_eq_some_iff.mp e1).1
   simp[lt]at this
   simp[hl];omega
  obtain⟨c,hc⟩:∃c,(μ++[a])[i]? = some c:=⟨_,List.getElem?_eq_getElem hi⟩
  rcases key i on c e1 hc with⟨h1,h2,h3⟩ | ⟨h1,rfl,rfl⟩
  ·obtain⟨c',h4,h5⟩:=hb.at_ i on h2
   rw[h3]at h4;cases h4
   exact⟨c,hc,h5.up _⟩
  ·exact⟨c,hc,(q2.down (by rw[hl];exact u)).up _⟩
 ·have up:∀k,μ[k]? = some c->(μ++ν)[k]? = some c:=fun k hk=>by rw[List.getElem?_append_left (List.getElem?_eq_some_iff.mp hk).1];exact hk
  rcases key i oi c ei hi with⟨h1,h2,h3⟩ | ⟨h1,rfl,rfl⟩
  ·rcases key j oj c ej hj with⟨g1,g2,g3⟩ | ⟨g1,rfl,rfl⟩
   ·exact hb.uniq i j c oi oj h2 g2 mi mj h3 g3
   ·have:=h.uniq i k c oi oj (tg i oi h2) e mi mj (up i h3) ha
    omega
  ·rcases key j oj c ej hj with⟨g1,g2,g3⟩ | ⟨g1,_,_⟩
   ·have:=h.uniq j k c oj oi (tg j oj g2) e mj mi (up j g3) ha
    omega
   ·rw[h1,g1]
end
open Classical in
noncomputable def gcM (st:Stor)(r:R D):R D:=match r with
 | .ok d st'=>if st.length<=st'.length/\∀o∈st'.take st.length,underO st.length o then (if under st.length d then .ok d (st'.take st.length) else (match d with
  | .loc k=>(match st'[k]? with
   | some o=>if st.length<=k/\underO st.length o then .ok (.loc st.length) (st'.take st.length++[o]) else .ok d st'
   | none=>.ok d st')
  | d=>.ok d st')) else .ok d st'
 | r=>r
noncomputable def gcFM (F:FD):FD:=fun ds st=>gcM st (F ds st)
theorem zg5 {st st' g:Stor}{d:D}(hl:st'.length=st.length)(hu:∀o∈st',underO st.length o)(h:under st.length d):gcM st (.ok d (st'++g))=.ok d st':=by
 unfold gcM
 dsimp only
 have e:(st'++g).take st.length=st':=by rw[<-hl,List.take_left'];rfl
 rw[if_pos ⟨by simp;omega,by rw[e];exact hu⟩,if_pos h,e]
theorem gcM_post {K:PySem.W.Frag}{μ:List Addr}{H:Hp}{Q:VK}{st:Stor}{r:R D}(hs:RepS K μ H st)(h:PostF K μ H Q (gcM st r)):PostF K μ H Q r:=by
 cases r with
 | bad=>exact h
 | err x st'=>exact h
 | ok d st' =>
  unfold gcM at h
  dsimp only at h
  by_cases c0:st.length<=st'.length/\∀o∈st'.take st.length,underO st.length o
  ·rw[if_pos c0]at h
   by_cases c1:under st.length d
   ·rw[if_pos c1]at h
    intro v H' μ' g hs' hv
    obtain⟨ν,rfl⟩:=g.pre
    exact h v H' μ ⟨⟨[],by simp⟩,g.ext⟩ (RepS.backM hs.len hs' c0.1 c0.2) (RepV.down d hv (by rw[hs.len];exact c1))
   ·rw[if_neg c1]at h
    cases d with
    | loc k =>
     dsimp only at h
     cases e:st'[k]? with
     | none=>rw[e]at h;exact h
     | some o =>
      rw[e]at h
      dsimp only at h
      by_cases c2:st.length<=k/\underO st.length o
      ·rw[if_pos c2]at h
       intro v H' μ' g hs' hv
       obtain⟨ν,rfl⟩:=g.pre
       obtain⟨a,h1,rfl⟩:=RepV.loc_iff.mp hv
       refine h _ H' (μ++[a]) ⟨⟨[a],rfl⟩,g.ext⟩ (RepS.back1M hs.len hs' c0.1 c0.2 c2.1 e c2.2 h1) (RepV.loc_iff.mpr ⟨a,?_,rfl⟩)
       rw[<-hs.len];simp
      ·rw[if_neg c2]at h;exact h
    | _=>exact h
  ·rw[if_neg c0]at h;exact h
theorem zk1 {K:PySem.W.Frag}{n:Nat}{F:FD}{vs:List V}{H:Hp}{Q:VK}{E:XK}(h:spM K n (gcFM F) vs H Q E):spM K n F vs H Q E:=by
 obtain⟨hl,μ,ds,st,h1,h2,h3⟩:=h
 exact⟨hl,μ,ds,st,h1,h2,gcM_post h2 h3⟩
noncomputable def putFD (f:Str)(d:D):List (Str×D)->List (Str×D)
 | []=>[(f,d)]
 | (g,x)::r=>if g=f then (g,d)::r else (g,x)::putFD f d r
noncomputable def fldE (c f:Str)(m:ME):ME:=fun env st=>(m env st).bind fun d st1=>match d with
 | .loc n=>(match st1[n]? with
  | some (.ins c' fs)=>if c'=c then (match fs.lookup f with | some x=>.ok x st1 | none=>.bad) else .bad
  | _=>.bad)
 | _=>.bad
noncomputable def setFldS (c f:Str)(mo mv:ME):MS:=fun env st=>(mv env st).bind fun d st1=>(mo env st1).bind fun x st2=>match x with
 | .loc n=>(match st2[n]? with
  | some (.ins c' fs)=>if c'=c/\fs.length<1000 then .ok (.nx env) (st2.set n (.ins c (putFD f d fs))) else .bad
  | _=>.bad)
 | _=>.bad
noncomputable def makeE (c:Str)(F:FD)(mA:MA):ME:=fun env st=>(mA env st).bind fun as st1=>((F (.loc st1.length::as) (st1++[.ins c []])).sure).bind fun d st2=>match d with
 | .non=>.ok (.loc st1.length) st2
 | _=>.bad
noncomputable def methI (c m:Str)(F:FD)(mo:ME)(mA:MA):ME:=fun env st=>(mo env st).bind fun x st1=>match x with
 | .loc n=>(match st1[n]? with
  | some (.ins c' fs)=>if c'=c/\fs.lookup m=none then (mA env st1).bind fun as st2=>(match st2[n]? with
   | some (.ins _ _)=>(F (.loc n::as) st2).sure
   | _=>.bad) else .bad
  | _=>.bad)
 | _=>.bad
noncomputable def lenW:List D->Stor->R D
 | [.loc n],st=>(match st[n]? with
  | some (.dic kvs)=>.ok (.int kvs.length) st
  | some (.dkc kvs)=>.ok (.int kvs.length) st
  | _=>lenV [.loc n] st)
 | ds,st=>lenV ds st
noncomputable def ixD:D->D->Stor->R D
 | .loc n,.tup ks,st=>match st[n]?,keysOf ks with
  | some (.dic kvs),some kk=>(match valM kvs kk with | some d=>.ok d st | none=>.bad)
  | _,_=>.bad
 | _,_,_=>.bad
section
variable {X:Cx}{K:PySem.W.Frag}{μ:List Addr}{H:Hp}{e o a b value:Expr}{es:List Expr}{me mo mv ma mb:ME}{mA:MA}{pos pos' apos p:Pos}{c f m x:Str}{C g:Addr}{F:FD}{fd:FuncData}{ps:List Str}{k:Nat}
theorem RepKV.look:∀{fs:List (Str×D)} {ws:List (Str×V)},RepKV K μ H fs ws->(fs.lookup f=none/\ws.lookup f=none)\/∃d v,fs.lookup f=some d/\ws.lookup f=some v/\RepV K μ H d v
 | [],ws,h=>by rw[RepKV]at h;subst h;exact .inl ⟨rfl,rfl⟩
 | (j,d)::r,ws,h=>by
  obtain⟨v,r',rfl,h1,h2⟩:=h
  by_cases q:f=j
  ·subst q
   exact .inr ⟨d,v,by simp[List.lookup],by simp[List.lookup],h1⟩
  ·have q':(f==j)=false:=by simpa using q
   simp only[List.lookup,q']
   exact RepKV.look h2
theorem RepKV.putF {d:D}{v:V}(hv:RepV K μ H d v):∀{fs:List (Str×D)} {ws:List (Str×V)},RepKV K μ H fs ws->RepKV K μ H (putFD f d fs) (L2.putF f v ws)
 | [],ws,h=>by rw[RepKV]at h;subst h;exact⟨v,[],rfl,hv,rfl⟩
 | (j,d')::r,ws,h=>by
  obtain⟨v',r',rfl,h1,h2⟩:=h
  unfold putFD L2.putF
  by_cases q:j=f
  ·rw[if_pos q,if_pos q];exact⟨v,r',rfl,hv,h2⟩
  ·rw[if_neg q,if_neg q];exact⟨v',_,rfl,h1,RepKV.putF hv h2⟩
theorem zlz (h0:PySem.W.nsIn X.K mainGlobals c=some (some (.ref C)))(hc:Cls X.K C)(hn:NoAttr X.K C f)(he:JE X e me)(hb:attributeBase e f X.env (eval e X.env)=eval e X.env:=by rfl):JE X (.Attribute e f pos) (fldE c f me):=by
 refine JE.of (pe_fld he hb) fun σ H Q zz=>?_
 obtain⟨μ,env,st,hE,hs,hp⟩:=zz
 refine⟨μ,env,st,hE,hs,(Post.bind hp).imp ?_⟩
 rintro v H1 ⟨μ1,st1,d,g1,hs1,hx,hp1⟩
 dsimp only at hp1
 split at hp1
 ·rename_i n
  split at hp1
  ·rename_i c' fs e1
   split at hp1
   ·rename_i ec
    subst ec
    obtain⟨p,q1,rfl⟩:=RepV.loc_iff.mp hx
    obtain⟨p',r1,C',dx,ws,r2,r3,r4⟩:=hs1.at_ n _ e1
    rw[q1]at r1;cases r1
    rw[h0]at r2;cases r2
    rcases r4.look (f:=f) with⟨z1,z2⟩ | ⟨d',v',z1,z2,z3⟩
    ·rw[z1]at hp1;exact hp1.elim
    ·rw[z1]at hp1
     exact⟨p,C,dx,ws,v',rfl,r3,hc,hn,z2,hp1.ret hs1 z3⟩
   ·exact hp1.elim
  ·exact hp1.elim
 ·exact hp1.elim
theorem js_fld (h0:PySem.W.nsIn X.K mainGlobals c=some (some (.ref C)))(hc:Cls X.K C)(hn:NoAttr X.K C f)(ho:JE X o mo)(hv:JE X value mv)(hs:swapsWith value (some (.Attribute o f pos')) pos.line X.env=pure false:=by rfl) :
  JS X (.Assign [.Attribute o f pos'] value pos) (setFldS c f mo mv):=by
 refine JS.of (ps_fld ho hv hs) fun E σ H zz=>?_
 obtain⟨μ,env,st,hE,hs,hp⟩:=zz
 refine⟨μ,env,st,hE,hs,hp.val.imp ?_⟩
 rintro y H1 ⟨μ1,st1,d,g1,hs1,hy,hp1⟩
 refine⟨μ1,env,st1,hE.mono g1,hs1,hp1.val.imp ?_⟩
 rintro z H2 ⟨μ2,st2,d2,g2,hs2,hz,hp2⟩
 try dsimp only at hp2
 split at hp2
 ·rename_i n
  split at hp2
  ·rename_i c' fs e1
   split at hp2
   ·rename_i ec
    obtain⟨ec,hl⟩:=ec
    subst ec
    obtain⟨p,q1,rfl⟩:=RepV.loc_iff.mp hz
    obtain⟨p',r1,C',dx,ws,r2,r3,r4⟩:=hs2.at_ n _ e1
    rw[q1]at r1;cases r1
    rw[h0]at r2;cases r2
    have hll:ws.length<1000:=by rw[<-r4.len];exact hl
    have gg:Ext H2 (upd H2 p (.ins C dx (L2.putF f y ws))):=Ext.mut r3 (fun _ z=>nomatch z) (fun _ _ z=>nomatch z)
    have g':Grow μ2 H2 μ2 (upd H2 p (.ins C dx (L2.putF f y ws))):=⟨⟨[],by simp⟩,gg⟩
    refine⟨p,C,dx,ws,rfl,r3,hc,hn,hll,hp2 σ _ μ2 g' (hs2.put e1 rfl rfl q1 gg ⟨C,dx,_,h0,zah,(r4.putF (hy.mono g2 _)).mono g'⟩) (((hE.mono g1).mono g2).mono g')⟩
   ·exact hp2.elim
  ·exact hp2.elim
 ·exact hp2.elim
theorem je_make (h0:PySem.W.nsIn X.K mainGlobals c=some (some (.ref C)))(MK:Mk X.K C g)(G:FnOk X.prog X.w X.K X.mg X.base CX0 k g fd ps (spM X.K ps.length F))(hr:Room (k+1) X.A)(hm:X.mg c=some (.ref C))(hb:Binds X.K fd ps [])(ha:JA X (e::es) mA)
  (hlen:(e::es).length+1=ps.length:=by rfl) (hg:Gl X c:=by rfl) (hdb:(c==("__debug__":Str))=false:=by decide) (he:starEach (e::es) X.env=(false,eval e X.env)::starEach es X.env:=by rfl) (hpl:(backTo pos (starEach es X.env)).any (·.1)=false:=by rfl)
  (hA:∀env st as st1,mA env st=.ok as st1->as.length=(e::es).length:=by intros;rfl):JE X (.Call (.Name c p) (e::es) [] pos) (makeE c F mA):=by
 refine JE.of (pe_make MK G hr hg hm hb .nil pass0 ha hdb he hpl) fun σ H Q zz=>?_
 obtain⟨μ,env,st,hE,hs,hp⟩:=zz
 refine⟨μ,env,st,hE,hs,?_⟩
 cases hq:mA env st with
 | bad=>unfold makeE at hp;rw[hq]at hp;exact hp
 | err y st1=>unfold makeE at hp;rw[hq]at hp;exact hp
 | ok as st1 =>
  unfold makeE at hp
  rw[hq]at hp
  intro vs H1 μ1 g1 hs1 hv x dx hx hdx hne
  have hne2:upd H1 dx (.own x) x=none:=by rw[zai (Ne.symm hne)];exact hx
  have ext1:Ext H1 (upd H1 dx (.own x)):=Ext.new hdx
  have gd:Grow μ1 H1 μ1 (upd H1 dx (.own x)):=⟨⟨[],by simp⟩,ext1⟩
  have hs2:RepS X.K μ1 (upd H1 dx (.own x)) st1:=hs1.lay hdx
  have hr3:RepO X.K (μ1++[x]) (upd (upd H1 dx (.own x)) x (.ins C dx [])) x (.ins c []):=⟨C,dx,[],h0,zah,rfl⟩
  have hs3:=hs2.new hne2 hr3
  have gn:Grow μ1 (upd H1 dx (.own x)) (μ1++[x]) (upd (upd H1 dx (.own x)) x (.ins C dx [])):=Grow.new hne2
  have hv3:RepVs X.K (μ1++[x]) (upd (upd H1 dx (.own x)) x (.ins C dx [])) (.loc st1.length::as) (.ref x::vs):=RepVs.cons (RepV.loc_iff.mpr ⟨x,by rw[<-hs1.len];simp,rfl⟩) ((hv.mono gd _).mono gn _)
  have hl2:(V.ref x::(vs++[])).length=ps.length:=by
   have:=hA env st as st1 hq
   have:=hv.length
   simp only[List.append_nil,List.length_cons]at *
   omega
  rw[List.append_nil]at hl2 ⊢
  refine⟨hl2,μ1++[x],.loc st1.length::as,st1++[.ins c []],hv3,hs3,?_⟩
  cases hF:F (.loc st1.length::as) (st1++[.ins c []]) with
  | bad=>rw[R.bind_ok,hF]at hp;exact hp.elim
  | err y st2=>rw[R.bind_ok,hF]at hp;exact hp.elim
  | ok d st2 =>
   rw[R.bind_ok,hF]at hp
   intro v H' μ' g' hs' hvd
   have gall:Grow μ H μ' H':=(g1.trans gd).trans (gn.trans g')
   cases d with
   | non =>
    refine⟨RepV.non_iff.mp hvd,hp (.ref x) H' μ' gall hs' (RepV.loc_iff.mpr ⟨x,g'.get (by rw[<-hs1.len];simp),rfl⟩)⟩
   | _=>exact hp.elim
theorem zks {pl:Sem Bool}(h0:PySem.W.nsIn X.K mainGlobals c=some (some (.ref C)))(hc:Cls X.K C)(hm:Meth X.K C m g)(G:FnOk X.prog X.w X.K X.mg X.base CX0 k g fd ps (spM X.K ps.length F))(hr:Room k X.A)(hb:Binds X.K fd ps [])(ho:JE X o mo)(ha:JA X (e::es) mA)
  (hlen:(e::es).length+1=ps.length:=by rfl) (hst:starEach (e::es) X.env=(false,eval e X.env)::starEach es X.env:=by rfl) (hpl:(backTo pos (starEach es X.env)).any (·.1)=false:=by rfl)
  (ht:eval (.Call (.Attribute o m apos) (e::es) [] pos) X.env=(do
   let ov <-eval o X.env
   standAt apos.atName
   let (f,first) <-holding [ov] (getMethod ov m pl)
   callWith pos f first (backTo pos (starEach (e::es) X.env)) (backToKw pos (keywordEach [] X.env))):=by rfl)
  (hA:∀env st as st1,mA env st=.ok as st1->as.length=(e::es).length:=by intros;rfl):JE X (.Call (.Attribute o m apos) (e::es) [] pos) (methI c m F mo mA):=by
 refine JE.of (pe_meth ho hc hm G hr hb .nil pass0 ha hst hpl ht) fun σ H Q zz=>?_
 obtain⟨μ,env,st,hE,hs,hp⟩:=zz
 refine⟨μ,env,st,hE,hs,(Post.bind hp).imp ?_⟩
 rintro v H1 ⟨μ1,st1,d,g1,hs1,hx,hp1⟩
 dsimp only at hp1
 split at hp1
 ·rename_i n
  split at hp1
  ·rename_i c' fs e1
   split at hp1
   ·rename_i ec
    obtain⟨ec,hl⟩:=ec
    subst ec
    obtain⟨p,q1,rfl⟩:=RepV.loc_iff.mp hx
    obtain⟨p',r1,C',dx,ws,r2,r3,r4⟩:=hs1.at_ n _ e1
    rw[q1]at r1;cases r1
    rw[h0]at r2;cases r2
    have hl2:ws.lookup m=none:=by
     rcases r4.look (f:=m) with⟨_,z2⟩ | ⟨d',v',z1,_,_⟩
     ·exact z2
     ·rw[hl]at z1;cases z1
    refine⟨p,dx,ws,rfl,r3,hl2,μ1,env,st1,hE.mono g1,hs1,?_⟩
    cases hq:mA env st1 with
    | bad=>rw[hq]at hp1;exact hp1
    | err y st2=>rw[hq]at hp1;exact hp1
    | ok as st2 =>
     rw[hq,R.bind_ok]at hp1
     intro vs H2 μ2 g2 hs2 hv
     split at hp1
     ·rename_i c2 fs2 e2
      have hv3:RepVs X.K μ2 H2 (.loc n::as) (.ref p::vs):=RepVs.cons (RepV.loc_iff.mpr ⟨p,g2.get q1,rfl⟩) hv
      have hll:(V.ref p::(vs++[])).length=ps.length:=by
       have:=hA env st1 as st2 hq
       have:=hv.length
       simp only[List.append_nil,List.length_cons]at *
       omega
      rw[List.append_nil]at hll ⊢
      refine⟨hll,μ2,.loc n::as,st2,hv3,hs2,?_⟩
      cases hF:F (.loc n::as) st2 with
      | bad=>rw[hF]at hp1;exact hp1.elim
      | err y st3=>rw[hF]at hp1;exact hp1.elim
      | ok d st3 =>
       rw[hF]at hp1
       intro v H' μ' g' hs' hvd
       exact hp1 v H' μ' (g2.trans g') hs' hvd
     ·exact hp1.elim
   ·exact hp1.elim
  ·exact hp1.elim
 ·exact hp1.elim
theorem zal:CallR X (.builtin "len") (rMC X lenW):=by
 rintro pins s σ H xs us Q I rv ⟨μ,st,ds,hs,hv,hp⟩
 unfold lenW at hp
 split at hp
 ·rename_i n
  split at hp
  ·rename_i kvs e1
   obtain⟨v,rfl,q⟩:=RepVs.one hv
   obtain⟨p,q1,rfl⟩:=RepV.loc_iff.mp q
   obtain⟨u,rfl,ru⟩:=rv.one
   cases ru
   obtain⟨p',ws,r1,r2,r3⟩:=hs.dic e1
   rw[q1]at r1;cases r1
   obtain⟨z,y,xs,r,o,es,ep,h1,h2,h3,h4,h5⟩:=(show ObjOk X.prog X.w H s.heap p (.dT ws) from I.hok p _ r2)
   have hl:es.size=kvs.length:=by
    rw[r3.len,Paired.length r,<-Array.length_toList,h4,List.length_map]
   refine len_raw y h1 h2 h3 (by rw[hl,r3.len];rw[sizeLine_eq]at z;omega) ?_
   rw[hl]
   exact⟨.int kvs.length,H,I.tok _,⟨_,rfl⟩,hp.ret hs (RepV.int_iff.mpr rfl)⟩
  ·rename_i kvs e1
   obtain⟨v,rfl,q⟩:=RepVs.one hv
   obtain⟨p,q1,rfl⟩:=RepV.loc_iff.mp q
   obtain⟨u,rfl,ru⟩:=rv.one
   cases ru
   obtain⟨p',ws,r1,r2,r3⟩:=hs.dkc e1
   rw[q1]at r1;cases r1
   refine d_len I (.inl r2) fun t s' I'=>?_
   rw[<-r3.len]
   exact⟨.int kvs.length,H,I',⟨_,rfl⟩,hp.ret hs (RepV.int_iff.mpr rfl)⟩
  ·exact zi9 pins s σ H xs us Q I rv ⟨μ,st,_,hs,hv,hp⟩
 ·exact zi9 pins s σ H xs us Q I rv ⟨μ,st,_,hs,hv,hp⟩
theorem je_ixD (hu:X.A.units+1<cLine)(ha:JE X a ma)(hb:JE X b mb)(hs:NoSl b:=by exact fun _ _=>rfl):JE X (.Subscript a b pos) (op2 ixD ma mb):=by
 refine JE.of (pe_dget hu ha hb hs) fun σ H Q h=>?_
 obtain⟨μ,env,st,hE,hs,hp⟩:=zkt h
 refine⟨μ,env,st,hE,hs,hp.imp ?_⟩
 rintro x H1 ⟨μ1,env1,st1,hE1,hs1,hp1⟩
 refine⟨μ1,env1,st1,hE1,hs1,hp1.imp ?_⟩
 rintro y H2 ⟨μ2,st2,dx,dy,hs2,hx,hy,hp2⟩
 unfold ixD at hp2
 split at hp2
 ·rename_i n ks
  split at hp2
  ·rename_i kvs kk e1 e2
   obtain⟨p,q1,rfl⟩:=RepV.loc_iff.mp hx
   obtain⟨b,ys,rfl,q3,q4⟩:=RepV.tup_iff.mp hy
   replace q3:=q3.made e2
   obtain rfl:=RepVs.keys q4 e2
   obtain⟨p',ws,r1,r2,r3⟩:=hs2.dic e1
   rw[q1]at r1;cases r1
   rcases r3.val (k:=kk) with⟨z1,z2⟩ | ⟨d',v',z1,z2,z3⟩
   ·rw[z1]at hp2;exact hp2.elim
   ·rw[z1]at hp2
    exact⟨p,v',rfl,by rw[<-z2];exact DGet.t r2 q3,hp2.ret hs2 z3⟩
  ·exact hp2.elim
 ·exact hp2.elim
end
end M
namespace M
open PySem
noncomputable def clsBody:Stmt->List Stmt
 | .ClassDef _ _ _ body _ _ _ _ _ _ _=>body
 | _=>[]
end M
namespace L2
open PySem PySem.Spec PyProof.Rows
end L2
namespace M
open PySem PySem.Spec L2
end M
namespace L2
open PySem PySem.Spec PyProof.Rows
section
variable {P:Program}{w:World}{A:Around}{E:Value->Shared->Prop}{s:Shared}{d it:Addr}{od:Obj}{es:Array DictEntry}{i ep:Nat}
theorem anyd_iter {Q:Value->Shared->Prop}(hd:(d==sysModules)=false)(ho:s.heap.get? d=some od)(hx:od.ExactDict)(hdat:od.data=.dict es ep)
  (hQ:Q (.ref s.heap.objs.size) { s with heap:=s.heap.push { cls:=.type "dict_keyiterator",data:=.fields #[.ref d,.int 0 0,.int es.size 0,.int ep 0] } }) :
  wpAny (model P w) A (pyIter (.ref d)) Q E s:=by
 have hT:s.TypeIs (.ref d) "dict":=⟨od,ho,hx.1⟩
 refine wpAny_pyIter_slot hT PySem.F.slot_dict_iter (wpAny_call_entry PySem.F.slot_dict_iter hT PySem.F.entry_dict_iter ?_ (PySem.F.args_dict_iter_1 _))
 unfold Builtin.«dict.__iter__» Builtin.Dict.dictSlotNone Builtin.Dict.showsAll
 refine wpAny_bind (wpAny_bind (wpAny_notOrdered_dict hT (wpAny_pure ?_)))
 have no:¬ ((d==sysModules)=true):=by rw[hd];exact Bool.false_ne_true
 refine wpAny_bind (wpAny_pure (wpAny_bind ?_))
 rw[if_neg no]
 refine wpAny_pure (wpAny_bind (wpAny_dictEntries ho hdat (wpAny_bind (wpAny_dictEpoch ho hdat ?_))))
 refine wpAny_bind (wpAny_newObj_type ?_)
 exact wpAny_pure ⟨_,rfl,"dict_keyiterator",_,⟨_,Heap.get?_push_size _ rfl,rfl⟩,PySem.F.slot_dict_keyiterator_next.lookup,by simpa[rawInt] using hQ⟩
theorem anyd_next {Q:Option Value->Shared->Prop}(hit:s.heap.IsKeyIter it d i es.size ep)(ho:s.heap.get? d=some od)(hdat:od.data=.dict es ep)(hi:i<es.size)
  (hQ:∀h',h'.IsKeyIter it d (i+1) es.size ep->Heap.SameBut it s.heap h'->Q (some es[i].key) { s with heap:=h' }):wpAny (model P w) A (pyNext (.ref it)) Q E s:=by
 obtain⟨oi,hoi,hci,hdi⟩:=id hit
 unfold pyNext
 refine wpAny_bind (wpAny_attempt (wpAny_callSpecial?_slot (name:=Str.ofString "__next__") hit.typeIs PySem.F.slot_dict_keyiterator_next
  (wpAny_call_entry PySem.F.slot_dict_keyiterator_next hit.typeIs PySem.F.entry_dict_keyiterator_next ?_ (PySem.F.args_dict_keyiterator_next_1 _))))
 refine wpAny_bind (wpAny_pure (wpAny_bind (wpAny_bind (wpAny_bind (wpAny_typeNameOfWhole_keyiter hit.typeIs (wpAny_pure (wpAny_bind (wpAny_fieldsOf hoi hdi ?_))))))))
 have own:Builtin.Dict_items.ownsTuple "dict_keyiterator" = false:=by decide
 simp only[own,Bool.false_eq_true,if_false]
 have nn:¬ ((Value.ref d==Value.none)=true):=Bool.false_ne_true
 refine (show wpAny _ _ (if (Value.ref d==Value.none)=true then _ else _) _ _ s from ?_)
 rw[if_neg nn]
 refine wpAny_bind (wpAny_pure (wpAny_bind (wpAny_dictEntries ho hdat ?_)))
 rw[if_neg (by simp)]
 refine wpAny_bind (wpAny_pure (wpAny_bind (wpAny_dictEpoch ho hdat ?_)))
 rw[if_neg (by simp)]
 have lo:¬ ((i:Int)<0):=by omega
 refine wpAny_pure ?_
 simp only[lo,if_false,Int.toNat_natCast,Array.getElem?_eq_getElem hi]
 refine wpAny_bind (wpAny_bind (wpAny_typeNameOfWhole_keyiter hit.typeIs (wpAny_pure (wpAny_bind (wpAny_isOneOf_keyiter hit.typeIs ?_)))))
 refine (show wpAny _ _ (setField (.ref it) 1 (rawInt ((i:Int)+1)) >>= _) _ _ s from wpAny_bind (wpAny_setField hoi hdi (by simp) ?_))
 generalize eh:s.heap.update it (Obj.mapFields (·.setIfInBounds 1 (rawInt ((i:Int)+1))))=h2
 have st:h2.IsKeyIter it d (i+1) es.size ep:=by
  subst eh
  exact⟨_,Heap.get?_update_self _ hoi (Obj.isFreed_of_fields (Obj.data_mapFields hdi _)),(Obj.cls_mapFields ..).trans hci,by rw[Obj.data_mapFields hdi];simp[rawInt]⟩
 have sb:Heap.SameBut it s.heap h2:=by subst eh;exact Heap.SameBut.update ..
 refine wpAny_bind (wpAny_holding (wpAny_bind (wpAny_isOneOf_keyiter (s:={ s with heap:=h2 }) st.typeIs ?_)))
 exact wpAny_pure (wpAny_pure ⟨_,rfl,wpAny_pure (hQ h2 st sb)⟩)
theorem anyd_end {Q:Option Value->Shared->Prop}(hh:A.handled=none)(hit:s.heap.IsKeyIter it d i es.size ep)(ho:s.heap.get? d=some od)(hdat:od.data=.dict es ep)(hi:es.size<=i)
  (hQ:∀h',Heap.ExtBut it s.heap h'->Q none { s with heap:=h' }):wpAny (model P w) A (pyNext (.ref it)) Q E s:=by
 obtain⟨oi,hoi,hci,hdi⟩:=id hit
 unfold pyNext
 refine wpAny_bind (wpAny_attempt (wpAny_callSpecial?_slot (name:=Str.ofString "__next__") hit.typeIs PySem.F.slot_dict_keyiterator_next
  (wpAny_call_entry PySem.F.slot_dict_keyiterator_next hit.typeIs PySem.F.entry_dict_keyiterator_next ?_ (PySem.F.args_dict_keyiterator_next_1 _))))
 refine wpAny_bind (wpAny_pure (wpAny_bind (wpAny_bind (wpAny_bind (wpAny_typeNameOfWhole_keyiter hit.typeIs (wpAny_pure (wpAny_bind (wpAny_fieldsOf hoi hdi ?_))))))))
 have own:Builtin.Dict_items.ownsTuple "dict_keyiterator" = false:=by decide
 simp only[own,Bool.false_eq_true,if_false]
 have nn:¬ ((Value.ref d==Value.none)=true):=Bool.false_ne_true
 refine (show wpAny _ _ (if (Value.ref d==Value.none)=true then _ else _) _ _ s from ?_)
 rw[if_neg nn]
 refine wpAny_bind (wpAny_pure (wpAny_bind (wpAny_dictEntries ho hdat ?_)))
 rw[if_neg (by simp)]
 refine wpAny_bind (wpAny_pure (wpAny_bind (wpAny_dictEpoch ho hdat ?_)))
 rw[if_neg (by simp)]
 have lo:¬ ((i:Int)<0):=by omega
 refine wpAny_pure ?_
 simp only[lo,if_false,Int.toNat_natCast,Array.getElem?_eq_none hi]
 refine wpAny_bind (wpAny_bind (wpAny_typeNameOfWhole_keyiter hit.typeIs (wpAny_pure ?_)))
 refine (show wpAny _ _ (setField (.ref it) 0 .none >>= _) _ _ s from wpAny_bind (wpAny_setField hoi hdi (by simp) ?_))
 refine (show wpAny _ _ (newExc (.type "StopIteration") [] >>= _) _ _ _ from wpAny_bind ?_)
 simp only[newExc,newTuple]
 refine wpAny_bind (wpAny_newObj_type (wpAny_bind (m:=firstArgMember _ _) (wpAny_of_eq (a:=Value.none) (by simp only[firstArgMember];rfl) (wpAny_newObj_type ?_ (by size_fits)))) (by size_fits))
 simp only[raiseNew]
 have h2:A.in1.handled=none:=hh
 refine wpAny_bind (wpAny_handled ?_)
 rw[h2]
 refine wpAny_bind (wpAny_pure (wpAny_throw (wpAny_bind ?_)))
 refine wpAny_isInstance (T:="StopIteration") (b:=true) ⟨_,Heap.get?_push_size _ rfl,rfl⟩ isSubtype_stop ?_
 exact wpAny_pure (hQ _ (((Heap.SameBut.update ..).extBut.push _).push _))
end
noncomputable def Idt (d:Addr)(o:Obj)(kvs:List (List Key×V)):It :=
 ⟨fun i H=>i<kvs.length/\H d=some (.frz o (.dT kvs)),fun i H y H'=>H'=H/\∃p b,kvs[i]? = some p/\y=.ref b/\H b=some (.tup (p.1.map kV)),fun i H=>kvs.length<=i/\H d=some (.frz o (.dT kvs))⟩
theorem zj9 {X:Cx}{pins:List (Addr×Obj)}{σ:St}{H:Hp}{s:Shared}{d:Addr}{o:Obj}{kvs:List (List Key×V)}{es:Array DictEntry}{ep:Nat}(I:Inv X pins σ H s)(ho:o.data=.dict es ep)(e:H d=some (.frz o (.dT kvs))) :
  s.heap.get? d=some o/\es.size=kvs.length/\∀(i:Nat) (p:List Key×V) (hi:i<es.size),kvs[i]? = some p->∃b,es[i].key=.ref b/\H b=some (.tup (p.1.map kV)):=by
 obtain⟨h1,z,hd,xs,rel,o',es',ep',h2,h3,h4,h5,h6⟩:=(show ObjOk X.prog X.w H s.heap d (.frz o (.dT kvs)) from I.hok d _ e)
 rw[h1]at h2
 cases h2
 rw[ho]at h4
 cases h4
 have hl:kvs.length=xs.length:=Paired.length rel
 have hs:es.size=xs.length:=by rw[<-Array.length_toList,h5,List.length_map]
 refine⟨h1,by omega,fun i p hi hp=>?_⟩
 obtain⟨q,hq⟩:∃q,xs[i]? = some q:=⟨_,List.getElem?_eq_getElem (by omega)⟩
 obtain⟨k1,k2,_⟩:=zgs rel i p q hp hq
 refine⟨q.2.1,?_,k2⟩
 have e1:es.toList[i]? = some (entryOfKey (tupleKind (mixKind X.prog X.w)) q):=by rw[h5,List.getElem?_map,hq];rfl
 have e2:es.toList[i]? = some es[i]:=by rw[Array.getElem?_toList];exact Array.getElem?_eq_getElem hi
 rw[e2]at e1
 rw[Option.some.inj e1]
 rfl
theorem turn_dt {P:Program}{w:World}{K:PySem.W.Frag}{tg:Expr}(it d:Addr)(o:Obj)(es:Array DictEntry)(ep:Nat)(ho:o.data=.dict es ep)(kvs:List (List Key×V)):Turn P w K tg (Idt d o kvs) [it] it (fun i h=>h.IsKeyIter it d i es.size ep) where
 mem:=by simp
 obj:=fun i h st b hb=>by
  have e:b=it:=by simpa using hb
  subst e
  obtain⟨o,e,c,d⟩:=st
  exact⟨o,e,fun v z=>by rw[d]at z;cases z⟩
 keep:=fun i h h' st k=>by
  obtain⟨o,e,c,d⟩:=st
  exact⟨o,k it (by simp) o e,c,d⟩
 item:=by
  intro X hP hw hK hc i pins s σ H E I hf st hg
  subst hP hw hK
  obtain⟨f0,f1,f2,f3,f4,f5⟩:=hf it (by simp)
  obtain⟨hi,e⟩:=hg
  obtain⟨h1,hs,hk⟩:=zj9 I ho e
  have hi2:i<es.size:=by omega
  obtain⟨p,hp⟩:∃p,kvs[i]? = some p:=⟨_,List.getElem?_eq_getElem hi⟩
  obtain⟨b,e1,e2⟩:=hk i p hi2 hp
  refine anyd_next st h1 ho hi2 fun h' st' sb=>?_
  have I1:Inv X pins σ H { s with heap:=h' }:=I.turned (t':=s.toks) (fun b o hb e=>(sb.2 b hb).trans e) f0 f1 f3 f4 f5
  obtain⟨o1,e3,c1,d1⟩:=id st'
  exact⟨_,rfl,go_of (s:={ s with heap:=h' }) e3 c1 d1 (by decide) ⟨.ref b,H,I1,by rw[e1];rfl,⟨rfl,p,b,hp,rfl,e2⟩,st',fun b hb=>(hf b hb).1⟩⟩
 done:=by
  intro X hP hw hK hc i pins s σ H E I hf st hg
  subst hP hw hK
  obtain⟨f0,f1,f2,f3,f4,f5⟩:=hf it (by simp)
  obtain⟨hi,e⟩:=hg
  obtain⟨h1,hs,hk⟩:=zj9 I ho e
  exact anyd_end (I.ok.hd hc) st h1 ho (by omega) fun h' eb=>⟨rfl,I.turned (t':=s.toks) (fun b o hb e=>eb b o hb e) f0 f1 f3 f4 f5⟩
 self:=fun _ _ _ _ _ st h=>wpAny_pyIter_keyiter st h
noncomputable def iDt (tl:TE):TI:=fun σ H R=>tl σ H fun y H1=>∃a kvs,y=.ref a/\((∃o,H1 a=some (.frz o (.dT kvs))/\R (Idt a o kvs) H1)\/(H1 a=some (.dT kvs)/\∀o,R (Idt a o kvs) (upd H1 a (.frz o (.dT kvs)))))
theorem pi_dt {X:Cx}{tg l:Expr}{tl:TE}(hl:PE X l tl):PI X tg l (iDt tl):=by
 intro pins s σ H R I h
 refine thn (hl pins s σ H _ I h) fun v s1 zz=>?_
 obtain⟨y,H1,I1,r1,q1⟩:=zz
 obtain⟨a,kvs,rfl,q⟩:=q1
 cases (show v=Value.ref a from r1)
 have key:∀(H2:Hp) (o:Obj),Inv X pins σ H2 s1->H2 a=some (.frz o (.dT kvs))->R (Idt a o kvs) H2->wpAny (model X.prog X.w) X.A (pyIter (.ref a)) (PIE X pins σ tg R) X.xe s1:=fun H2 o I2 e2 r2=>by
  obtain⟨h1,z,hd,xs,rel,o',es,ep,h2,h3,h4,h5⟩:=(show ObjOk X.prog X.w H2 s1.heap a (.frz o (.dT kvs)) from I2.hok a _ e2)
  rw[h1]at h2
  cases h2
  refine anyd_iter hd h1 h3 h4 ?_
  refine⟨s1.heap.objs.size,[s1.heap.objs.size],_,_,H2,rfl,I2.kept (t':=s1.toks) fun b u e=>Heap.get?_push_of_some _ e,turn_dt _ a o es ep h4 kvs,⟨_,Heap.get?_push_size _ rfl,rfl,rfl⟩,fun b hb=>?_,r2⟩
  have e:b=s1.heap.objs.size:=by simpa using hb
  subst e
  exact I2.fpOk (Nat.le_refl _) (I2.hok.fresh (Nat.le_refl _))
 rcases q with⟨o,e,r⟩ | ⟨e,r⟩
 ·exact key H1 o I1 e r
 ·obtain⟨z,hd,xs,rel,o,es,ep,h2,h3⟩:=(show ObjOk X.prog X.w H1 s1.heap a (.dT kvs) from I1.hok a _ e)
  have ne:∀q∈xs,q.2.1≠a:=fun q hq z=>by
   obtain⟨i,hi⟩:=List.getElem?_of_mem hq
   obtain⟨p,hp⟩:∃p,kvs[i]? = some p:=⟨_,List.getElem?_eq_getElem (by rw[Paired.length rel];exact (List.getElem?_eq_some_iff.mp hi).1)⟩
   have k:=(zgs rel i p q hp hi).2.1
   rw[z,e]at k
   cases k
  have new:ObjOk X.prog X.w (upd H1 a (.frz o (.dT kvs))) s1.heap a (.frz o (.dT kvs)):=by
   refine⟨h2,z,hd,xs,?_,o,es,ep,h2,h3⟩
   have go:∀(l1:List (List Key×V)) (l2:List (List Key×Addr×Value)),(∀q∈l2,q.2.1≠a)->Paired (fun (p:List Key×V) (q:List Key×Addr×Value)=>p.1=q.1/\H1 q.2.1=some (.tup (p.1.map kV))/\RelV p.2 q.2.2) l1 l2->Paired (fun (p:List Key×V) (q:List Key×Addr×Value)=>p.1=q.1/\upd H1 a (.frz o (.dT kvs)) q.2.1=some (.tup (p.1.map kV))/\RelV p.2 q.2.2) l1 l2:=by
    intro l1 l2 hn hp
    induction hp with
    | nil=>exact .nil
    | cons r t ih=>exact .cons ⟨r.1,by rw[zai (hn _ (List.mem_cons_self))];exact r.2.1,r.2.2⟩ (ih fun q hq=>hn q (List.mem_cons_of_mem _ hq))
   exact go kvs xs ne rel
  exact key (upd H1 a (.frz o (.dT kvs))) o (I1.write (x:=a) (e:=a) (t':=s1.toks) (h':=s1.heap) (by rw[e];trivial) (.inl rfl) (fun b u _ z=>z) ⟨o,h2⟩ new) zah (r o)
end L2
namespace M
open PySem PySem.Spec L2
noncomputable def dtI (m:ME):MI:=fun env st=>(m env st).bind fun d st1=>match d with
 | .loc n=>(match st1[n]? with
  | some (.dic kvs)=>.ok (kvs.map (fun p=>.tup (p.1.map keyD)),[]) (st1.set n (.dtf kvs))
  | some (.dtf kvs)=>.ok (kvs.map (fun p=>.tup (p.1.map keyD)),[]) st1
  | _=>.bad)
 | _=>.bad
section
variable {X:Cx}{tg l a b:Expr}{ml ma mb:ME}{μ:List Addr}{H:Hp}{K:PySem.W.Frag}{st:Stor}{pos:Pos}
theorem RepVs.keyDs:∀(ks:List Key),RepVs K μ H (ks.map M.keyD) (ks.map kV)
 | []=>RepVs.nil
 | k::r=>RepVs.cons (RepV.keyD k) (RepVs.keyDs r)
theorem RepKV.keyAtG {κ:Type}:∀{kvs:List (κ×D)} {ws:List (κ×V)},RepKV K μ H kvs ws->kvs.length=ws.length/\∀(i:Nat) (p:κ×D) (q:κ×V),kvs[i]? = some p->ws[i]? = some q->p.1=q.1
 | [],_,h=>by cases h;exact⟨rfl,fun i p q h1=>by simp at h1⟩
 | (k,d)::r,_,⟨v,s,rfl,h1,h2⟩=>by
  obtain⟨l,hk⟩:=RepKV.keyAtG h2
  refine⟨by simp[l],fun i p q e1 e2=>?_⟩
  cases i with
  | zero=>simp at e1 e2;subst e1;subst e2;rfl
  | succ i=>exact hk i p q (by simpa using e1) (by simpa using e2)
theorem idt_rep {a:Addr}{o:Obj}{kvs:List (List Key×D)}{ws:List (List Key×V)}(e:H a=some (.frz o (.dT ws)))(h:RepKV X.K μ H kvs ws):ItRep X μ H (Idt a o ws) (kvs.map (fun p=>.tup (p.1.map M.keyD)),[]):=by
 intro H' μ' st' g hs ok
 obtain⟨hl,hk⟩:=h.keyAtG
 have e':=g.ext.frz _ _ _ e
 refine⟨fun i d ed=>?_,⟨by simp[hl],e'⟩⟩
 rw[List.getElem?_map]at ed
 obtain⟨p,e1,rfl⟩:=Option.map_eq_some_iff.mp ed
 have hi:=(List.getElem?_eq_some_iff.mp e1).1
 refine⟨⟨by omega,e'⟩,?_⟩
 rintro x H'' ⟨rfl,q,b,hq,rfl,hb⟩
 refine⟨.refl _ _,hs,?_⟩
 rw[hk i p q e1 hq]
 exact RepV.tup_iff.mpr ⟨b,_,rfl,.inl hb,RepVs.keyDs _⟩
theorem ji_dt (hl:JE X l ml):JI X tg l (dtI ml):=by
 refine JI.of (pi_dt hl) fun σ H R zz=>?_
 obtain⟨μ,env,st,hE,hs,hp⟩:=zz
 refine⟨μ,env,st,hE,hs,(Post.bind hp).imp ?_⟩
 rintro v H1 ⟨μ1,st1,d,g1,hs1,hv,hp1⟩
 dsimp only at hp1
 split at hp1
 ·rename_i n
  obtain⟨a,q1,rfl⟩:=RepV.loc_iff.mp hv
  split at hp1
  ·rename_i kvs e1
   obtain⟨a',r1,ws,r2,r3⟩:=hs1.at_ n _ e1
   rw[q1]at r1;cases r1
   refine⟨a,ws,rfl,.inr ⟨r2,fun o=>?_⟩⟩
   have g:Ext H1 (upd H1 a (.frz o (.dT ws))):=Ext.mut r2 (fun _ z=>nomatch z) (fun _ _ z=>nomatch z)
   have g':Grow μ1 H1 μ1 (upd H1 a (.frz o (.dT ws))):=⟨⟨[],by simp⟩,g⟩
   exact hp1 _ _ μ1 g' (hs1.putF e1 rfl q1 g ⟨ws,o,zah,r3.mono g'⟩) (idt_rep zah (r3.mono g'))
  ·rename_i kvs e1
   obtain⟨a',r1,ws,o,r2,r3⟩:=hs1.at_ n _ e1
   rw[q1]at r1;cases r1
   exact⟨a,ws,rfl,.inl ⟨o,r2,hp1 _ _ _ (.refl _ _) hs1 (idt_rep r2 r3)⟩⟩
  ·exact hp1.elim
 ·exact hp1.elim
end
theorem r_dtI_c {m:ME}{env:MEnv}{st st1:Stor}{n:Nat}{kvs:List (List Key×D)}(h:m env st=.ok (.loc n) st1)(e:st1[n]? = some (.dic kvs)):dtI m env st=.ok (kvs.map (fun p=>.tup (p.1.map keyD)),[]) (st1.set n (.dtf kvs)):=by
 unfold dtI;rw[h];simp only[R.bind,e]
theorem r_dtI_f {m:ME}{env:MEnv}{st st1:Stor}{n:Nat}{kvs:List (List Key×D)}(h:m env st=.ok (.loc n) st1)(e:st1[n]? = some (.dtf kvs)):dtI m env st=.ok (kvs.map (fun p=>.tup (p.1.map keyD)),[]) st1:=by
 unfold dtI;rw[h];simp only[R.bind,e]
end M
namespace L2
open PySem PySem.Spec PyProof.Rows
section
variable {X:Cx}{pins:List (Addr×Obj)}{σ:St}{H:Hp}{s:Shared}{h':Heap}{lo:Nat}{e C dx:Addr}{E:Value->Shared->Prop}
theorem Inv.chg {ch:List Addr}{t':Nat}(I:Inv X pins σ H s)(hpn:∀p∈X.pn++pins,p.1<lo)(hlo:X.s₀.heap.objs.size<=lo)(hc:∀b∈ch,lo<=b/\H b=none/\∃o vs,s.heap.get? b=some o/\o.data=.fields vs)
  (k:∀b o,s.heap.get? b=some o->b∉frs X.stack->b∉ch->h'.get? b=some o) (sl:∀b o,s.heap.get? b=some o->b∈frs X.stack->∃sl,h'.get? b=some { o with slots:=sl }):Inv X pins σ H { s with heap:=h',toks:=t' }:=by
 have nk:∀b u,H b=some u->b∉frs X.stack/\b∉ch:=fun b u q=>⟨fun z=>(by rw[I.stkFree b z]at q;cases q),fun z=>(by rw[(hc b z).2.1]at q;cases q)⟩
 have un:Un (frs X.stack) ch H H s.heap h':=by
  refine⟨fun b o q _ hb hx=>k b o q hb hx,fun b o q _ hb _=>sl b o q hb,fun b o _ q _=>q,fun b o q hx=>?_,fun _ _ q=>q,fun _ _ _ q=>q,fun b ps q=>⟨#[],by rw[q];simp⟩⟩
  by_cases hb:b∈frs X.stack
  ·obtain⟨z,q2⟩:=sl b o q hb;exact⟨_,q2⟩
  ·exact⟨o,k b o q hb hx⟩
 have hok:HOk X.prog X.w H h':=fun a o q=>(I.hok a o q).stay (fun b u hb hu=>by
  have:b∉frs X.stack/\b∉ch:=by
   rcases hb with rfl | hb
   ·exact nk _ _ q
   ·exact nk _ _ hb
  exact k b u hu this.1 this.2) (fun _ q=>q) (fun _ _ q=>q)
 refine I.call (g':=s.gens) (d':=s.drawn) (ch:=ch) un hok I.bare fun b hb=>?_
 obtain⟨h1,h2,o,vs,h3,h4⟩:=hc b hb
 refine⟨.inr (Nat.le_trans hlo h1),fun z=>?_,fun x c hx z=>?_,fun p hp z=>Nat.lt_irrefl _ (Nat.lt_of_lt_of_le (hpn p hp) (by rw[z];exact h1))⟩
 ·obtain⟨m,⟨o',es,ep,ho',hd',_⟩,_⟩:=I.loc
  rw[z,ho']at h3;cases h3;rw[hd']at h4;cases h4
 ·obtain⟨v,o',ho',hd'⟩:=I.cell x c hx
  rw[z,h3]at ho';cases ho';rw[hd']at h4;cases h4
theorem dict_mapF (o:Obj)(f):(o.mapFields f).dict=o.dict:=by
 obtain⟨c,d,dt,sl⟩:=o;cases dt<;>rfl
structure Own (X:Cx):Prop where
 stk:X.stack=X.env::X.outer
 frm:X.env.frame=some X.env.locals
 pn:X.pn=[]
theorem entry_x {head:Value}{hn:Bool}{Q:Unit->Shared->Prop}{oe:Obj}{vs:Array Value}(I:Inv X pins σ H s)(W:Own X)(hpn:∀p∈X.pn++pins,p.1<lo)(hlo:X.s₀.heap.objs.size<=lo)(h1:lo<=e)(h2:H e=none)(ho:s.heap.get? e=some oe)(hc:oe.cls=.ref C)(hdx:oe.dict=some dx)(hd:oe.data=.fields vs)(hz:1<vs.size)
  (hlo2:lo<=s.heap.objs.size)
  (hQ:∀h',Inv X pins σ H { s with heap:=h' }->Xo lo e C dx (some (rawInt X.env.locals)) H h'->Q () { s with heap:=h' }) :
  wpAny (model X.prog X.w) X.A (do let a <-frameOf X.env;let pl <-entryPlaceOf X.env.locals hn;let b <-EntryCells.newEntry head a .none (rawInt X.env.locals) .none pl;setField (.ref e) 1 b) Q E s:=by
 have hfr:X.A.frames=some (X.env::X.outer):=by rw[I.ok.frames,W.stk]
 have hl:s.heap.FunFrames X.base (X.env::X.outer):=by have:=I.stack;rwa[W.stk]at this
 have hene:e∉frs X.stack:=fun hm=>by
  rw[W.stk]at hm
  obtain⟨_,o,ho',hnf⟩:=hl.mem hm
  rw[ho]at ho';cases ho';exact hnf vs hd
 refine wpAny_bind (wpAny_frameOf_fun hfr hl W.frm fun g1 so=>?_)
 refine wpAny_bind (wpAny_entryPlaceOf fun pl hpl=>?_)
 unfold EntryCells.newEntry newFields
 refine wpAny_bind (wpAny_newObj_type ?_ (hpl.sizeOk5 _ _ _ _ _))
 generalize htb:({ cls:=.type "traceback",dict:=none,data:=.fields ([head,Value.ref X.env.locals,.none,rawInt X.env.locals,.none]++(if pl.isEmpty then List.replicate 6 Value.none else pl)).toArray }:Obj)=tb
 have so2:∀b,b∉frs X.stack->g1.get? b=s.heap.get? b:=fun b hb=>so.2.1 b (by rw[W.stk]at hb;exact hb)
 have he1:g1.get? e=some oe:=(so2 e hene).trans ho
 have he2:=Heap.get?_push_of_some (h:=g1) tb he1
 refine wpAny_setField he2 hd hz ?_
 have hT:g1.objs.size≠e:=Nat.ne_of_gt (Heap.lt_size he1)
 have hgs:g1.objs.size=s.heap.objs.size:=so.1
 have old:∀b o,b≠e->g1.get? b=some o->((g1.push tb).update e (Obj.mapFields (·.setIfInBounds 1 (Value.ref g1.objs.size)))).get? b=some o:=fun b o hb q=>by
  rw[Heap.get?_update_other _ _ (Ne.symm hb)];exact Heap.get?_push_of_some _ q
 refine hQ _ (I.chg (lo:=lo) (ch:=[e]) (t':=s.toks) hpn hlo (fun b hb=>?_) (fun b o q hb hx=>?_) fun b o q hb=>?_) ⟨h1,h2,_,_,Heap.get?_update_self _ he2 (Obj.isFreed_of_fields (Obj.data_mapFields hd _)),(Obj.cls_mapFields _ _).trans hc,(dict_mapF _ _).trans hdx,Obj.data_mapFields hd _,by simpa using hz,g1.objs.size,tb,_,by simp[hz],by omega,hT,I.hok.fresh (by omega),?_,by rw[<-htb],?_⟩
 ·have:b=e:=by simpa using hb
  subst this
  exact⟨h1,h2,oe,vs,ho,hd⟩
 ·exact old b o (by simpa using hx) (by rw[so2 b hb];exact q)
 ·obtain⟨z,q2⟩:=so.2.2 b o q
  exact⟨z,old b _ (fun z=>hene (z ▸ hb)) q2⟩
 ·rw[Heap.get?_update_other _ _ (Ne.symm hT)]
  exact Heap.get?_push_size g1 (by rw[<-htb];rfl)
 ·rcases hpl with rfl | ⟨_,_,_,_,_,_,_,rfl⟩<;>simp
theorem zgu {v:Value}{fr:Option Addr}{Q:Unit->Shared->Prop}(I:Inv X pins σ H s)(W:Own X)(hpn:∀p∈X.pn++pins,p.1<lo)(hlo:X.s₀.heap.objs.size<=lo)(x:Xo lo e C dx (some v) H s.heap)
  (hQ:∀h',Inv X pins σ H { s with heap:=h' }->Xo lo e C dx (some (fr.elim .none fun f=>rawInt f)) H h'->Q () { s with heap:=h' }):wpAny (model X.prog X.w) X.A (setFlight (.ref e) fr) Q E s:=by
 obtain⟨h1,h2,oe,vs,ho,hc,hdx,hd,hz,T,oT,ts,k1,k2,k3,k4,k5,k6,k7⟩:=x
 have hz3:3<ts.size:=(Array.getElem?_eq_some_iff.mp k7).1
 unfold setFlight
 refine wpAny_bind (wpAny_field ho hd k1 ?_)
 rw[if_pos (show (Value.ref T != Value.none)=true by simp)]
 refine wpAny_setField k5 k6 hz3 ?_
 have nf:T∉frs X.stack:=fun hm=>by
  obtain⟨_,o,ho',hnf⟩:=I.stack.mem hm
  rw[k5]at ho';cases ho';exact hnf ts k6
 refine hQ _ (I.chg (lo:=lo) (ch:=[T]) (t':=s.toks) hpn hlo (fun b hb=>?_) (fun b o q hb hx=>?_) fun b o q hb=>?_) ⟨h1,h2,oe,vs,?_,hc,hdx,hd,hz,T,_,_,k1,k2,k3,k4,Heap.get?_update_self _ k5 (Obj.isFreed_of_fields (Obj.data_mapFields k6 _)),Obj.data_mapFields k6 _,by simp[hz3]⟩
 ·have:b=T:=by simpa using hb
  subst this
  exact⟨k2,k4,oT,ts,k5,k6⟩
 ·rw[Heap.get?_update_other _ _ (fun z=>hx (by simp[<-z]))];exact q
 ·have ne:T≠b:=fun z=>nf (by rw[z];exact hb)
  exact⟨o.slots,by rw[Heap.get?_update_other _ _ ne];exact q⟩
 ·rw[Heap.get?_update_other _ _ k3];exact ho
theorem note_x {fl:Option Value}{Q:Unit->Shared->Prop}(I:Inv X pins σ H s)(W:Own X)(hpn:∀p∈X.pn++pins,p.1<lo)(hlo:X.s₀.heap.objs.size<=lo)(x:Xo lo e C dx fl H s.heap)
  (hQ:∀h',Inv X pins σ H { s with heap:=h' }->Xo lo e C dx (some (rawInt X.env.locals)) H h'->Q () { s with heap:=h' }):wpAny (model X.prog X.w) X.A (noteFrame (.ref e) X.env) Q E s:=by
 have hsz:lo<=s.heap.objs.size:=by
  obtain⟨h1,_,oe,_,ho,_⟩:=x
  exact Nat.le_of_lt (Nat.lt_of_le_of_lt h1 (Heap.lt_size ho))
 unfold noteFrame
 simp only[W.frm]
 cases fl with
 | none =>
  obtain⟨h1,h2,oe,vs,ho,hc,hdx,hd,hz,h0⟩:=x
  refine wpAny_bind (wpAny_field ho hd h0 ?_)
  rw[if_neg (by decide)]
  exact entry_x I W hpn hlo h1 h2 ho hc hdx hd hz hsz hQ
 | some v =>
  obtain⟨h1,h2,oe,vs,ho,hc,hdx,hd,hz,T,oT,ts,k1,k2,k3,k4,k5,k6,k7⟩:=id x
  refine wpAny_bind (wpAny_field ho hd k1 ?_)
  rw[if_pos (show (Value.ref T != Value.none)=true by simp)]
  refine wpAny_bind (wpAny_field k5 k6 k7 ?_)
  by_cases hv:(v==rawInt X.env.locals)=true
  ·rw[if_pos hv]
   have hv2:v=rawInt X.env.locals:=by simpa using hv
   rw[hv2]at x
   exact wpAny_pure (hQ s.heap I x)
  ·rw[if_neg hv]
   have hz3:3<ts.size:=(Array.getElem?_eq_some_iff.mp k7).1
   refine wpAny_bind (wpAny_setField k5 k6 hz3 ?_)
   have nf:T∉frs X.stack:=fun hm=>by
    obtain⟨_,o,ho',hnf⟩:=I.stack.mem hm
    rw[k5]at ho';cases ho';exact hnf ts k6
   have I2:Inv X pins σ H { s with heap:=s.heap.update T (Obj.mapFields (·.setIfInBounds 3 Value.none)) }:=I.chg (lo:=lo) (ch:=[T]) (t':=s.toks) hpn hlo (fun b hb=>by
    have:b=T:=by simpa using hb
    subst this
    exact⟨k2,k4,oT,ts,k5,k6⟩) (fun b o q hb hx=>by rw[Heap.get?_update_other _ _ (fun z=>hx (by simp[<-z]))];exact q) (fun b o q hb=>⟨o.slots,by
     have ne:T≠b:=fun z=>nf (by rw[z];exact hb)
     rw[Heap.get?_update_other _ _ ne];exact q⟩)
   exact entry_x (s:={ s with heap:=s.heap.update T (Obj.mapFields (·.setIfInBounds 3 Value.none)) }) I2 W hpn hlo h1 h2 (by rw[Heap.get?_update_other _ _ k3];exact ho) hc hdx hd hz (by rw[Heap.size_after_update];exact hsz) hQ
end
end L2
namespace L2
open PySem PySem.Spec PyProof.Rows
theorem Xo.low {lo lo':Nat}{e C dx:Addr}{fl:Option Value}{H:Hp}{h:Heap}(hl:lo'<=lo)(x:Xo lo e C dx fl H h):Xo lo' e C dx fl H h:=by
 obtain⟨h1,h2,oe,vs,ho,hc,hdx,hd,hz,r⟩:=x
 refine⟨Nat.le_trans hl h1,h2,oe,vs,ho,hc,hdx,hd,hz,?_⟩
 cases fl with
 | none=>exact r
 | some v =>
  obtain⟨T,oT,ts,k1,k2,k⟩:=r
  exact⟨T,oT,ts,k1,Nat.le_trans hl k2,k⟩
noncomputable def CXM (P:Program)(w:World):CXT:=fun outer H s E ev s' =>
 ∃e C dx v H',ev=.ref e/\s'.os=s.os/\AllBare s'.gens/\Un (frs outer) [] H H' s.heap s'.heap/\HOk P w H' s'.heap/\H' dx=some (.xd [("at",v)])/\Xo s.heap.objs.size e C dx (some .none) H' s'.heap/\E (.ref C) (some dx) H'
noncomputable def Rz (X:Cx)(W:Addr->Addr->Hp->Prop):Value->Shared->Prop:=fun ev s' =>
 ∃e C dx v fl lo σ H,ev=.ref e/\X.s₀.heap.objs.size<=lo/\Inv X [] σ H s'/\Xo lo e C dx fl H s'.heap/\H dx=some (.xd [("at",v)])/\W C dx H
theorem Inv.nopins {X:Cx}{pins:List (Addr×Obj)}{σ:St}{H:Hp}{s:Shared}(I:Inv X pins σ H s):Inv X [] σ H s:=I.pins_of fun p hp=>absurd hp (by simp)
section
variable {X:Cx}{W:Addr->Addr->Hp->Prop}{P:Program}{w:World}
theorem Rz.passes (O:Own X):PassesOwn (model X.prog X.w) X.A X.env (Rz X W):=by
 rintro ev s' ⟨e,C,dx,v,fl,lo,σ,H,rfl,hlo,I,x,hdx,hW⟩
 unfold notedBy
 refine note_x I O (by rw[O.pn];simp) hlo x fun h1 I1 x1=>?_
 obtain⟨h1',h2,oe,vs,ho,hc,hd',hd,hz,T,oT,ts,k1,k2,k3⟩:=id x1
 unfold cameBackBy
 refine wpAny_bind (wpAny_field ho hd k1 ?_)
 rw[if_neg (by simp)]
 rw[O.frm]
 exact zgu (s:={ s' with heap:=h1 }) I1 O (by rw[O.pn];simp) hlo x1 fun h2 I2 x2=>⟨e,C,dx,v,_,lo,σ,H,rfl,hlo,I2,x2,hdx,hW⟩
end
theorem Rz.leave {CX:CXT}{P:Program}{w:World}{K:PySem.W.Frag}{mg:Str->Option Value}{base:Heap}{N:List Str}{qual:Str}{scope:Scope}{f:Addr}{cd:Value}{A:Around}{outer:List Env}{s:Shared}{H:Hp}{E:XK}{W:Addr->Addr->Hp->Prop}(hE:CX=CXM P w)(hw:∀C dx H',W C dx H'->E (.ref C) (some dx) H')
  {ev:Value} {s':Shared} (h:Rz (cxOf CX P w K mg base N qual scope f cd A outer s H E) W ev s'):(cxOf CX P w K mg base N qual scope f cd A outer s H E).xe ev s':=by
 subst hE
 obtain⟨e,C,dx,v,fl,lo,σ,H',rfl,hlo,I,x,hdx,hW⟩:=h
 have O:Own (cxOf (CXM P w) P w K mg base N qual scope f cd A outer s H E):=⟨rfl,rfl,rfl⟩
 show wpAny _ _ (leaving _ _) _ _ _
 unfold leaving
 refine wpAny_bind (note_x I O (by rw[O.pn];simp) hlo x fun h1 I1 x1=>?_)
 refine zgu (s:={ s' with heap:=h1 }) (fr:=none) I1 O (by rw[O.pn];simp) hlo x1 fun h2 I2 x2=>?_
 exact⟨e,C,dx,v,H',rfl,I2.os,I2.bare,I2.base,I2.hok,hdx,x2.low hlo,hw C dx H' hW⟩
end L2
namespace L2
open PySem PySem.Spec PyProof.Rows
section
variable {prog:Program}{w:World}{A:Around}{E:Value->Shared->Prop}{h:Heap}{g:Array GenState}{d:Drawn}{t:Nat}{os:OsState}
variable {nm q nm1 q1:Str}{C N C1 N1:Addr}{bs bm bs1 bm1:List Value}{hdct hdct1:Bool}{sn sn1:List Str}{sub sub1:List Value}{ab ab1:Bool}{col col1:Option Bool}{dd dd1:Option Addr}{k0 k1 k2 k3 k5 j0 j1 j2 j3 j5:Option Value}{newId1:String}{mN mN1:Str->Option Value}
theorem lookup2 {name:Str}{x:Value}{Q:Option Value->Shared->Prop}(hC:h.get? C=some (excClassObj nm q C N bs (.ref C1::bm) hdct sn sub ab col dd k0 k1 k2 k3 k5 "ValueError.__new__"))(hn:h.Ns N mN)(h0:mN name=none)
  (hC1:h.get? C1=some (excClassObj nm1 q1 C1 N1 bs1 bm1 hdct1 sn1 sub1 ab1 col1 dd1 j0 j1 j2 j3 j5 newId1)) (hn1:h.Ns N1 mN1) (h1:mN1 name=some x) (hq:Q (some x) ⟨h,g,d,t,os⟩):wpAny (model prog w) A (typeLookup (.ref C) name) Q E ⟨h,g,d,t,os⟩:=by
 rw[typeLookup_eq]
 refine wpAny_bind (wpAny_mroOf_exc hC ?_)
 rw[lookupAlong_cons]
 refine wpAny_bind (wpAny_classOwn_exc hC hn ?_)
 rw[h0]
 show wpAny _ _ (lookupAlong (.ref C1::bm) name) _ _ _
 rw[lookupAlong_cons]
 refine wpAny_bind (wpAny_classOwn_exc hC1 hn1 ?_)
 rw[h1]
 exact wpAny_pure hq
theorem new2 {R:Result->Shared->Prop}{rest:List Value}(c1:bm.contains (.type "ValueError")=true)(c2:bm.contains (.type "AttributeError")=false)(c3:bm.contains (.type "NameError")=false)
  (hC:h.get? C=some (excClassObj nm q C N bs bm hdct sn sub ab col dd k0 k1 k2 k3 k5 "ValueError.__new__"))
  (hq:R (.ok (.ret (.ref (h.objs.size+1)))) ⟨(h.push { cls:=.type "tuple",data:=.seq rest.toArray }).push { cls:=.ref C,data:=.fields #[.ref h.objs.size,.none,.none,.none,.bool false,.none] },g,d,t,os⟩) (hrest:rest.length<=sizeLine) :
  codeAny (model prog w) A (.call (.builtin "ValueError.__new__") ⟨.ref C::rest,[]⟩) R ⟨h,g,d,t,os⟩:=by
 have Fn:=PySem.F.excBase_ValueError
 have e1:(Value.ref C::bm).contains (.type "ValueError")=true:=by rw[List.contains_cons,c1,Bool.or_true]
 have e2:(Value.ref C::bm).contains (.type "AttributeError")=false:=by rw[List.contains_cons,c2];rfl
 have e3:(Value.ref C::bm).contains (.type "NameError")=false:=by rw[List.contains_cons,c3];rfl
 refine codeAny_call_builtin_code (Code.quiet_builtin _ Fn.quiet) ?_
 have hstar:=Fn.noStar
 simp only[checkBuiltinCall,Fn.newKind,Fn.newSplit,Fn.newRow]
 repeat (first | refine wpAny_loadPart_at hC ?_ | (refine wpAny_isSubtype_exc hC ?_;rw[e1]) | refine wpAny_staticBase_exc hC ?_ | refine wpAny_madeBy_exc hC ?_ | simp only[bne_self_eq_false,Bool.false_eq_true,if_false] | wp_step)
 have hends:=Fn.ends
 refine codeAny_builtinAt Fn.entry ?_
 unfold Builtin.«BaseException.__new__»
 refine PySem.wpAt_bind ((show PySem.wpAt _ _ _ (stack >>= _) _ _ _ from PySem.wpAt_bind (PySem.wpAt_stack fun p below=>PySem.wpAt_of_wpAny ?_)))
 wp_walk
 refine PySem.wpAt_of_wpAny ?_
 rw[Fn.owner]
 repeat (first | with_reducible refine wpAny_madeHere_exc Fn.canon hC ?_ | with_reducible refine wpAny_loadPart_at hC ?_ | (with_reducible refine wpAny_isSubtype_exc hC ?_;first | rw[e1] | rw[e2] | rw[e3]) | wp_step)
 refine (show R _ _ from ?_)
 rw[Heap.size_push]
 exact hq
theorem made2 {Q:Value->Shared->Prop}{rest:List Value}{fI:Addr}{oI:Obj}(c1:(Value.ref C1::bm).contains (.type "ValueError")=true)(c2:(Value.ref C1::bm).contains (.type "AttributeError")=false)(c3:(Value.ref C1::bm).contains (.type "NameError")=false)
  (hC:h.get? C=some (excClassObj nm q C N bs (.ref C1::bm) hdct sn sub ab col dd k0 k1 k2 k3 k5 "ValueError.__new__")) (hn:h.Ns N mN) (h0:mN "__init__" = none)
  (hC1:h.get? C1=some (excClassObj nm1 q1 C1 N1 bs1 bm1 hdct1 sn1 sub1 ab1 col1 dd1 j0 j1 j2 j3 j5 newId1)) (hn1:h.Ns N1 mN1) (h1:mN1 "__init__" = some (.ref fI)) (hfI:h.get? fI=some oI) (hfc:oI.cls=.type "function")
  (hq:∀h' e,Heap.MadeExcOf h h' e (.ref C) rest->e=h.objs.size+1->wpAny (model prog w) (A.under (.builtin "type.__call__" ⟨.ref C::rest,[]⟩)) (call (.ref fI) (.ref e::rest)) (fun r s'=>r=.none/\Q (.ref e) s') E ⟨h',g,d,t,os⟩) (hrest:rest.length<=sizeLine) :
  wpAny (model prog w) A (call (.ref C) rest) Q E ⟨h,g,d,t,os⟩:=by
 have f1:=tc_lookup
 have f2:=tc_bind (.ref C)
 have hT:(⟨h,g,d,t,os⟩:Shared).TypeIs (.ref C) "type":=⟨_,hC,rfl⟩
 refine wpAny_call (codeAny_of_tree (show wpAny _ _ (callAny (.ref C) _) _ _ _ from ?_))
 repeat (any_goals (first | assumption | with_reducible refine wpAny_loadPart_at hC ?_ | wp_step))
 refine⟨rfl,codeAny_call_builtin_at (Code.quiet_builtin _ (by decide +kernel)) entry_typeCall (wpAny_check_type_call_sub hC ?_)⟩
 repeat (first | with_reducible refine wpAny_loadPart_at hC ?_ | with_reducible refine wpAny_madeBy_exc hC ?_ | wp_step)
 refine new2 c1 c2 c3 hC (show wpAny _ _ _ _ _ _ from ?_) hrest
 have K:∀b o,h.get? b=some o->((h.push { cls:=.type "tuple",data:=.seq rest.toArray }).push { cls:=.ref C,data:=.fields #[.ref h.objs.size,.none,.none,.none,.bool false,.none] }).get? b=some o:=fun b o q=>Heap.get?_push_of_some _ (Heap.get?_push_of_some _ q)
 have kn:∀{a:Addr} {m:Str->Option Value},h.Ns a m->((h.push { cls:=.type "tuple",data:=.seq rest.toArray }).push { cls:=.ref C,data:=.fields #[.ref h.objs.size,.none,.none,.none,.bool false,.none] }).Ns a m:=fun x=>let ⟨o,es,ep,e,r⟩:=x;⟨o,es,ep,K _ _ e,r⟩
 have hget:((h.push { cls:=.type "tuple",data:=.seq rest.toArray }).push { cls:=.ref C,data:=.fields #[.ref h.objs.size,.none,.none,.none,.bool false,.none] }).get? (h.objs.size+1)=some { cls:=.ref C,data:=.fields #[.ref h.objs.size,.none,.none,.none,.bool false,.none] }:=by heap_get
 have hme:Heap.MadeExcOf h ((h.push { cls:=.type "tuple",data:=.seq rest.toArray }).push { cls:=.ref C,data:=.fields #[.ref h.objs.size,.none,.none,.none,.bool false,.none] }) (h.objs.size+1) (.ref C) rest :=
  ⟨K,Heap.get?_none_of_le (Nat.le_succ _),h.objs.size,hget,Heap.get?_none_of_le (Nat.le_refl _),Heap.get?_push_of_some _ (Heap.get?_push_at rfl rfl)⟩
 have hcC:(Value.ref C::Value.ref C1::bm).contains (.ref C)=true:=by simp
 have hC2:=K _ _ hC
 unfold isInstance
 repeat (first | with_reducible refine wpAny_loadPart_at hget ?_ | (refine wpAny_isSubtype_exc hC2 ?_;rw[hcC]) | wp_step)
 refine (show wpAny _ _ (typeLookup (.ref C) _) _ _ _ from lookup2 hC2 (kn hn) h0 (K _ _ hC1) (kn hn1) h1 ?_)
 refine wpAny_holding (wpAny_bind ?_)
 unfold bindSpecial
 refine wpAny_bind (wpAny_typeOf (T:="function") ⟨_,K _ _ hfI,hfc⟩ ?_)
 rw[if_pos (by decide)]
 refine wpAny_pure (wpAny_bind (wpAny_mono (hq _ (h.objs.size+1) hme rfl) (fun r s' hr=>?_) fun _ _ x=>x))
 obtain⟨rfl,hQ⟩:=hr
 wp_walk
 exact hQ
end
end L2
set_option maxHeartbeats 0
namespace L2
open PySem PySem.Spec PyProof.Rows
section
variable {prog:Program}{w:World}{A:Around}{E:Value->Shared->Prop}{h:Heap}{g:Array GenState}{d:Drawn}{t:Nat}{os:OsState}
variable {nm q:Str}{C N C1 N1:Addr}{bs bm:List Value}{hdct:Bool}{sn:List Str}{sub:List Value}{ab:Bool}{col:Option Bool}{dd:Option Addr}{k0 k1 k2 k3 k5:Option Value}{newId:String}{mN mN1:Str->Option Value}
theorem base_init {R:Result->Shared->Prop}{e tt:Addr}{oe:Obj}{u:Value}(c1:bm.contains (.type "ValueError")=true)(hC:h.get? C=some (excClassObj nm q C N bs bm hdct sn sub ab col dd k0 k1 k2 k3 k5 newId))
  (he:h.get? e=some { cls:=.ref C,data:=.fields #[.ref tt,.none,.none,.none,.bool false,.none] })
  (hq:R (.ok (.ret .none)) ⟨(h.push { cls:=.type "tuple",data:=.seq #[u] }).update e (Obj.mapFields (·.setIfInBounds 0 (.ref h.objs.size))),g,d,t,os⟩) :
  codeAny (model prog w) A (.call (.builtin "ValueError.__init__") ⟨[.ref e,u],[]⟩) R ⟨h,g,d,t,os⟩:=by
 have F:=PySem.F.excBase_ValueError
 have e1:(Value.ref C::bm).contains (.type "ValueError")=true:=by rw[List.contains_cons,c1,Bool.or_true]
 refine codeAny_call_builtin (by first | exact F.init.plain | decide +kernel) F.initEntry ?_
 have hshort:=F.noStar
 simp only[checkBuiltinCall,F.initKind,F.initSplit,F.initRow]
 repeat (first | with_reducible refine wpAny_loadPart_at he ?_ | with_reducible refine wpAny_loadPart_at hC ?_ | (refine wpAny_isSubtype_exc hC ?_;rw[e1]) | wp_step)
 exact hq
structure Two (h:Heap)(C C1 fI:Addr):Prop where
 c:∃nm q N bs sn sub ab col dd k0 k1 k2 k3 k5 mN,h.get? C=some (excClassObj nm q C N bs [.ref C1,.type "ValueError",.type "Exception",.type "BaseException",.type "object"] true sn sub ab col dd k0 k1 k2 k3 k5 "ValueError.__new__")/\h.Ns N mN/\∀x:Str,x∈([("__init__":Str),"at","__setattr__","__getattribute__","__getattr__","__class__"]:List Str)->mN x=none
 c1:∃nm q N bs bm hd sn sub ab col dd k0 k1 k2 k3 k5 nid mN,h.get? C1=some (excClassObj nm q C1 N bs bm hd sn sub ab col dd k0 k1 k2 k3 k5 nid)/\h.Ns N mN/\mN "__init__" = some (.ref fI)/\∀x:Str,x∈([("at":Str),"__setattr__","__getattribute__","__getattr__","__class__"]:List Str)->mN x=none
 f:∃oI,h.get? fI=some oI/\oI.cls=.type "function"
theorem lookupN {fI:Addr}{name:Str}{y:Option Value}{Q:Option Value->Shared->Prop}(T:Two h C C1 fI)(hm:name∈([("at":Str),"__setattr__","__getattribute__","__getattr__","__class__"]:List Str))(hB:typeLookup (.type "ValueError") name=pure y)(hq:Q y ⟨h,g,d,t,os⟩) :
  wpAny (model prog w) A (typeLookup (.ref C) name) Q E ⟨h,g,d,t,os⟩:=by
 obtain⟨nm,q,N,bs,sn,sub,ab,col,dd,k0,k1,k2,k3,k5,mN,h1,h2,h3⟩:=T.c
 obtain⟨nm',q',N',bs',bm',hd',sn',sub',ab',col',dd',k0',k1',k2',k3',k5',nid,mN',g1,g2,g3,g4⟩:=T.c1
 have hm2:mroOf (.type "ValueError")=pure [.type "ValueError",.type "Exception",.type "BaseException",.type "object"]:=PySem.F.store_ValueError.mro
 have hr:lookupAlong [.type "ValueError",.type "Exception",.type "BaseException",.type "object"] name=pure y:=by rw[typeLookup_eq,hm2]at hB;exact hB
 rw[typeLookup_eq]
 refine wpAny_bind (wpAny_mroOf_exc h1 ?_)
 rw[lookupAlong_cons]
 refine wpAny_bind (wpAny_classOwn_exc h1 h2 ?_)
 rw[h3 name (List.mem_cons_of_mem _ hm)]
 refine (show wpAny _ _ (lookupAlong (.ref C1::_) name) _ _ _ from ?_)
 rw[lookupAlong_cons]
 refine wpAny_bind (wpAny_classOwn_exc g1 g2 ?_)
 rw[g4 name hm]
 refine (show wpAny _ _ (lookupAlong [.type "ValueError",.type "Exception",.type "BaseException",.type "object"] name) _ _ _ from ?_)
 rw[hr]
 exact wpAny_pure hq
theorem at_none:typeLookup (.type "ValueError") "at" = pure none:=by rw[typeLookup_type,builtinLookup_eq_fast];kernel_rfl
theorem zj2 {fI x:Addr}{o:Obj}{v:Value}{tk0:Tok}{vs:Array Value}{Q:Unit->Shared->Prop}(T:Two h C C1 fI)(hx:h.get? x=some o)(hc:o.cls=.ref C)(hfd:o.data=.fields vs)(hdn:o.dict=none)
  (hq:∀h' tk,h'.get? x=some { o with dict:=some h.objs.size }->h'.Ns1 h.objs.size (fun y=>if y = "at" then some v else none)->(∀b ob,b≠x->h.get? b=some ob->h'.get? b=some ob)->Q () ⟨h',g,d,tk,os⟩) :
  wpAny (model prog w) A (Builtin.«object.__setattr__» ⟨[.ref x,.str "at" tk0,v],[]⟩) (fun fin s'=>fin=.done (.ret .none)/\Q () s') E ⟨h,g,d,t,os⟩:=by
 have SF:=PySem.F.store_ValueError
 have hpass:=SF.passes (.ref x)
 obtain⟨nm,q,N,bs,sn,sub,ab,col,dd,k0,k1,k2,k3,k5,mN,hC,hN,_⟩:=id T.c
 unfold Builtin.«object.__setattr__»
 repeat (first | rw[refuse_eq] | (rw[refuseLoop_ref,refuseLoop_ref,hpass]) | (with_reducible refine wpAny_loadPart_at hx ?_;rw[hc]) | with_reducible refine wpAny_mroOf_exc hC ?_ | (with_reducible refine lookupN T (by decide) at_none ?_) | wp_step)
 have hif:¬ ((!true || !typeHasDict (Value.ref C))=true):=by simp[typeHasDict]
 simp only[hdn,hfd]
 rw[if_neg hif]
 ·have hx1:(h.push { cls:=.type "dict",data:=.dict #[] }).get? x=some o:=Heap.get?_push_of_some _ hx
  have hxs:x≠h.objs.size:=Nat.ne_of_lt (Heap.lt_size hx)
  refine wpAny_bind (wpAny_alloc' (wpAny_bind (wpAny_update' hx1 ?_)))
  refine wpAny_pure ?_
  generalize hG:((h.push { cls:=.type "dict",data:=.dict #[] }).update x fun o=>{ cls:=o.cls,dict:=some h.objs.size,data:=o.data,slots:=o.slots })=G
  have hgd:G.get? h.objs.size=some { cls:=.type "dict",data:=.dict #[] }:=by rw[<-hG];exact (Heap.get?_update_ne _ _ _ _ hxs.symm).trans (Heap.get?_push_at rfl rfl)
  have hnd:G.Ns h.objs.size (fun _=>none):=⟨_,#[],_,hgd,rfl,fun e he=>absurd he (by simp),fun _=>rfl⟩
  refine (show wpAny _ _ (Builtin.ObjectAttr.storeInDict h.objs.size (.str "at" tk0) "at" v) _ _ _ from ?_)
  unfold Builtin.ObjectAttr.storeInDict Builtin.ObjectAttr.newKeyGuard
  refine wpAny_bind (wpAny_pure (wpAny_bind (wpAny_nsSet1 (Heap.Ns1.of_empty hnd) fun h' hn' hs=>?_)))
  obtain⟨oD,esD,epD,hoD,hdD,hcD⟩:=hn'.count (Within.cons "at" v Within.nil)
  refine wpAny_bind (wpAny_lookBehind hoD (by rw[hdD];exact pastItsLine_dict (Nat.le_trans hcD (by rw[List.length_cons,List.length_nil,sizeLine_eq];omega))) ?_)
  wp_walk
  refine⟨rfl,hq h' _ ?_ hn' fun b ob hb q=>?_⟩
  ·refine (hs.2 x hxs).trans ?_
   rw[<-hG]
   refine Heap.get?_update_self _ hx1 ?_
   have hfr:=(Heap.get?_some_iff.mp hx).2
   obtain⟨oc,od,odt,osl⟩:=o
   cases odt<;>first | rfl | exact hfr
  ·refine (hs.2 b (Nat.ne_of_lt (Heap.lt_size q))).trans ?_
   rw[<-hG]
   exact (Heap.get?_update_ne _ _ _ _ hb).trans (Heap.get?_push_of_some _ q)
end
end L2
set_option maxHeartbeats 0
namespace L2
open PySem PySem.Spec PyProof.Rows
section
variable {prog:Program}{w:World}{A:Around}{E:Value->Shared->Prop}{h:Heap}{g:Array GenState}{d:Drawn}{t:Nat}{os:OsState}{C C1 fI:Addr}
theorem check2 {x:Addr}{o:Obj}{v:Value}{tk0:Tok}{Q:Unit->Shared->Prop}(T:Two h C C1 fI)(hx:h.get? x=some o)(hc:o.cls=.ref C)(hq:Q () ⟨h,g,d,t,os⟩) :
  wpAny (model prog w) A (checkBuiltinCall "object.__setattr__" ⟨[.ref x,.str "at" tk0,v],[]⟩) Q E ⟨h,g,d,t,os⟩:=by
 have SF:=PySem.F.store_ValueError
 obtain⟨nm,q,N,bs,sn,sub,ab,col,dd,k0,k1,k2,k3,k5,mN,hC,hN,_⟩:=id T.c
 have hco:(Value.ref C::[Value.ref C1,.type "ValueError",.type "Exception",.type "BaseException",.type "object"]).contains (.type "object")=true:=by simp
 have ha:=SF.args (.ref x) (.str "at" tk0) v
 simp only[checkBuiltinCall,SF.kind,SF.split]
 refine wpAny_bind ?_
 unfold isInstance
 repeat (first | (with_reducible refine wpAny_loadPart_at hx ?_;rw[hc]) | (refine wpAny_isSubtype_exc hC ?_;rw[hco]) | wp_step)
 exact hq
theorem store2 {x:Addr}{o:Obj}{v:Value}{vs:Array Value}{Q:Unit->Shared->Prop}(T:Two h C C1 fI)(hx:h.get? x=some o)(hc:o.cls=.ref C)(hfd:o.data=.fields vs)(hdn:o.dict=none)
  (hq:∀h' tk,h'.get? x=some { o with dict:=some h.objs.size }->h'.Ns1 h.objs.size (fun y=>if y = "at" then some v else none)->(∀b ob,b≠x->h.get? b=some ob->h'.get? b=some ob)->Q () ⟨h',g,d,tk,os⟩) :
  wpAny (model prog w) A (setAttr (.ref x) "at" v) Q E ⟨h,g,d,t,os⟩:=by
 have SF:=PySem.F.store_ValueError
 have f3:=SF.slot.bind (.ref x)
 unfold setAttr callSpecial? specialOf
 repeat (any_goals (first | assumption | (with_reducible refine wpAny_loadPart_at hx ?_;rw[hc]) | (with_reducible refine lookupN T (by decide) SF.slot.lookup ?_) | wp_step))
 refine codeAny_call_builtin SF.slot.plain SF.entry (check2 T hx hc ?_)
 refine wpAny_mono (zj2 (E:=fun _ _=>False) T hx hc hfd hdn hq) (fun fin s' hr=>?_) fun _ _ x=>False.elim x
 obtain⟨rfl,hQ⟩:=hr
 exact wpAny_pure (wpAny_pure hQ)
end
end L2
set_option maxHeartbeats 0
namespace L2
open PySem PySem.Spec PyProof.Rows
section
variable {prog:Program}{w:World}{A:Around}{E:Value->Shared->Prop}{h:Heap}{g:Array GenState}{d:Drawn}{t:Nat}{os:OsState}{C C1 fI:Addr}
theorem zk7 {x dx:Addr}{o:Obj}{v:Value}{vs:Array Value}{tk:Tok}{mA:Str->Option Value}{Q:Fin->Shared->Prop}(T:Two h C C1 fI)(hx:h.get? x=some o)(hc:o.cls=.ref C)(hfd:o.data=.fields vs)(hdx:o.dict=some dx)(hns:h.Ns1 dx mA)(hv:mA "at" = some v)
  (hq:Q (.done (.ret v)) ⟨h,g,d,t,os⟩):wpAny (model prog w) A (Builtin.«object.__getattribute__» ⟨[.ref x,.str "at" tk],[]⟩) Q E ⟨h,g,d,t,os⟩:=by
 obtain⟨nm,q,N,bs,sn,sub,ab,col,dd,k0,k1,k2,k3,k5,mN,hC,hN,_⟩:=id T.c
 unfold Builtin.«object.__getattribute__»
 repeat (any_goals (first | assumption | (with_reducible refine wpAny_loadPart_at hx ?_;rw[hc]) | (with_reducible refine lookupN T (by decide) at_none ?_) | wp_step))
 simp only[hfd]
 unfold instanceDict Builtin.ObjectAttr.inDict
 repeat (first | (with_reducible refine wpAny_loadPart_at hx ?_;rw[hc]) | with_reducible refine wpAny_loadPart_at hC ?_ | wp_step)
 rw[hdx]
 repeat (first | (with_reducible refine wpAny_nsGet hns.ns ?_;rw[hv]) | wp_step)
 exact hq
theorem checkG {x:Addr}{o:Obj}{tk0:Tok}{Q:Unit->Shared->Prop}(T:Two h C C1 fI)(hx:h.get? x=some o)(hc:o.cls=.ref C)(hq:Q () ⟨h,g,d,t,os⟩) :
  wpAny (model prog w) A (checkBuiltinCall "BaseException.__getattribute__" ⟨[.ref x,.str "at" tk0],[]⟩) Q E ⟨h,g,d,t,os⟩:=by
 obtain⟨nm,q,N,bs,sn,sub,ab,col,dd,k0,k1,k2,k3,k5,mN,hC,hN,_⟩:=id T.c
 have hk:builtinKind "BaseException.__getattribute__" = some .slot:=by decide +kernel
 have hsplit:splitId "BaseException.__getattribute__" = some ("BaseException","__getattribute__"):=by decide +kernel
 have hco:(Value.ref C::[Value.ref C1,.type "ValueError",.type "Exception",.type "BaseException",.type "object"]).contains (.type "BaseException")=true:=by simp
 have ha:=PySem.F.args_bexc_ga (.ref x) (.str "at" tk0)
 simp only[checkBuiltinCall,hk,hsplit]
 refine wpAny_bind ?_
 unfold isInstance
 repeat (first | (with_reducible refine wpAny_loadPart_at hx ?_;rw[hc]) | (refine wpAny_isSubtype_exc hC ?_;rw[hco]) | wp_step)
 exact hq
theorem load2 {x dx:Addr}{o:Obj}{v:Value}{vs:Array Value}{mA:Str->Option Value}{expr:Bool}{Q:Value->Shared->Prop}(T:Two h C C1 fI)(hx:h.get? x=some o)(hc:o.cls=.ref C)(hfd:o.data=.fields vs)(hdx:o.dict=some dx)(hns:h.Ns1 dx mA)(hv:mA "at" = some v)
  (hh:handedOut v=pure v) (hq:∀tk,Q v ⟨h,g,d,tk,os⟩):wpAny (model prog w) A (getAttr (.ref x) "at" expr) Q E ⟨h,g,d,t,os⟩:=by
 have FB:=PySem.F.attrBase_ValueError
 have f3:=FB.ga.bind (.ref x)
 have hx0:(expr && onTheHeap (Value.builtin "BaseException.__getattribute__"))=false:=by cases expr<;>rfl
 have hx2:(Value.builtin "BaseException.__getattribute__" == Value.builtin "object.__getattribute__")=false:=by decide +kernel
 have hx1:(onTheHeap (Value.ref C) && Value.builtin "BaseException.__getattribute__" == Value.builtin "object.__getattribute__")=false:=by rw[hx2];rfl
 unfold getAttr getAttrBy
 repeat (any_goals (first | assumption | (with_reducible refine wpAny_loadPart_at hx ?_;rw[hc]) | (with_reducible refine lookupN T (by decide) FB.ga.lookup ?_) | (with_reducible refine lookupN T (by decide) FB.noGetattr ?_) | wp_step))
 refine codeAny_call_builtin FB.ga.plain PySem.F.entry_bexc_ga (checkG T hx hc (zk7 T hx hc hfd hdx hns hv ?_))
 refine (show wpAny _ _ (handedOut v) _ _ _ from ?_)
 rw[hh]
 exact wpAny_pure (hq _)
end
end L2
set_option maxHeartbeats 0
namespace L2
open PySem PySem.Spec PyProof.Rows
section
variable {prog:Program}{w:World}{A:Around}{E:Value->Shared->Prop}{h:Heap}{g:Array GenState}{d:Drawn}{t:Nat}{os:OsState}{C C1 fI:Addr}
theorem zju:typeLookup (.type "ValueError") "__class__" = pure (some (.builtin "object.__class__")):=by rw[typeLookup_type,builtinLookup_eq_fast];kernel_rfl
theorem cls2_get {x:Addr}{o:Obj}{R:Result->Shared->Prop}(T:Two h C C1 fI)(hx:h.get? x=some o)(hc:o.cls=.ref C)(hq:R (.ok (.ret (.ref C))) ⟨h,g,d,t,os⟩) :
  codeAny (model prog w) A (.call (.builtin "getset_descriptor.__get__") ⟨[.builtin "object.__class__",.ref x,.ref C],[]⟩) R ⟨h,g,d,t,os⟩:=by
 obtain⟨nm,q,N,bs,sn,sub,ab,col,dd,k0,k1,k2,k3,k5,mN,hC,hN,_⟩:=id T.c
 have hT5:(⟨h,g,d,t,os⟩:Shared).TypeIs (.builtin "object.__class__") "getset_descriptor":=PySem.F.typeOf_object_class
 have hco:(Value.ref C::[Value.ref C1,.type "ValueError",.type "Exception",.type "BaseException",.type "object"]).contains (.type (".".intercalate ("object.__class__".cutAt '.').dropLast))=true:=by
  rw[PySem.F.owner_object_class];simp
 refine codeAny_call_builtin PySem.F.slot_gs_get.plain PySem.F.entry_gs_get (PySem.F.slot_gs_get.check _ _ _ _ _ _ _ _ hT5 (PySem.F.args_gs_get _ _ _) ?_)
 repeat (any_goals (first | assumption | (with_reducible refine wpAny_loadPart_at hx ?_;rw[hc]) | (refine wpAny_isSubtype_exc hC ?_;rw[hco]) | wp_step))
 refine⟨Code.quiet_builtin _ (by decide +kernel),codeAny_builtin PySem.F.entry_object_class ?_⟩
 repeat (any_goals (first | assumption | (with_reducible refine wpAny_loadPart_at hx ?_;rw[hc]) | wp_step))
theorem cls2_body {x:Addr}{o:Obj}{tk:Tok}{Q:Fin->Shared->Prop}(T:Two h C C1 fI)(hx:h.get? x=some o)(hc:o.cls=.ref C)(hq:Q (.done (.ret (.ref C))) ⟨h,g,d,t,os⟩) :
  wpAny (model prog w) A (Builtin.«object.__getattribute__» ⟨[.ref x,.str "__class__" tk],[]⟩) Q E ⟨h,g,d,t,os⟩:=by
 obtain⟨nm,q,N,bs,sn,sub,ab,col,dd,k0,k1,k2,k3,k5,mN,hC,hN,_⟩:=id T.c
 have hT5:(⟨h,g,d,t,os⟩:Shared).TypeIs (.builtin "object.__class__") "getset_descriptor":=PySem.F.typeOf_object_class
 have f5:=PySem.F.typeOf_object_class
 have f6:=PySem.F.slot_gs_get.lookup
 have f7:=PySem.F.slot_gs_set.lookup
 repeat (any_goals (first | assumption | (with_reducible refine wpAny_loadPart_at hx ?_;rw[hc]) | (with_reducible refine lookupN T (by decide) zju ?_) | wp_step))
 refine cls2_get T hx hc ?_
 repeat (any_goals (first | assumption | wp_step))
theorem zle {x:Addr}{o:Obj}{nv:Value}{Q:Unit->Shared->Prop}(T:Two h C C1 fI)(hx:h.get? x=some o)(hc:o.cls=.ref C)(hq:Q () ⟨h,g,d,t,os⟩) :
  wpAny (model prog w) A (checkBuiltinCall "BaseException.__getattribute__" ⟨[.ref x,nv],[]⟩) Q E ⟨h,g,d,t,os⟩:=by
 obtain⟨nm,q,N,bs,sn,sub,ab,col,dd,k0,k1,k2,k3,k5,mN,hC,hN,_⟩:=id T.c
 have hk:builtinKind "BaseException.__getattribute__" = some .slot:=by decide +kernel
 have hsplit:splitId "BaseException.__getattribute__" = some ("BaseException","__getattribute__"):=by decide +kernel
 have hco:(Value.ref C::[Value.ref C1,.type "ValueError",.type "Exception",.type "BaseException",.type "object"]).contains (.type "BaseException")=true:=by simp
 have ha:=PySem.F.args_bexc_ga (.ref x) nv
 simp only[checkBuiltinCall,hk,hsplit]
 refine wpAny_bind ?_
 unfold isInstance
 repeat (first | (with_reducible refine wpAny_loadPart_at hx ?_;rw[hc]) | (refine wpAny_isSubtype_exc hC ?_;rw[hco]) | wp_step)
 exact hq
theorem cls2_by {x:Addr}{o:Obj}{tk:Tok}{Q:Value->Shared->Prop}(T:Two h C C1 fI)(hx:h.get? x=some o)(hc:o.cls=.ref C)(hq:Q (.ref C) ⟨h,g,d,t,os⟩):wpAny (model prog w) A (getAttrBy (.ref x) (.str "__class__" tk) false) Q E ⟨h,g,d,t,os⟩:=by
 have FB:=PySem.F.attrBase_ValueError
 have f3:=FB.ga.bind (.ref x)
 have hx2:(Value.builtin "BaseException.__getattribute__" == Value.builtin "object.__getattribute__")=false:=by decide +kernel
 have hx1:(onTheHeap (Value.ref C) && Value.builtin "BaseException.__getattribute__" == Value.builtin "object.__getattribute__")=false:=by rw[hx2];rfl
 repeat (any_goals (first | assumption | (with_reducible refine wpAny_loadPart_at hx ?_;rw[hc]) | (with_reducible refine lookupN T (by decide) FB.ga.lookup ?_) | (with_reducible refine lookupN T (by decide) FB.noGetattr ?_) | wp_step))
 refine codeAny_call_builtin FB.ga.plain PySem.F.entry_bexc_ga (zle T hx hc (cls2_body T hx hc ?_))
 repeat (any_goals (first | assumption | wp_step))
theorem cls2 {x:Addr}{o:Obj}{Q:Option Value->Shared->Prop}(T:Two h C C1 fI)(hx:h.get? x=some o)(hc:o.cls=.ref C)(hq:Q (some (.ref C)) ⟨h,g,d,t+1,os⟩):wpAny (model prog w) A (getAttr? (.ref x) "__class__") Q E ⟨h,g,d,t,os⟩:=by
 unfold getAttr? getAttrBy?
 repeat (any_goals (first | assumption | with_reducible apply cls2_by T hx hc | wp_step))
end
end L2
set_option maxHeartbeats 0
namespace L2
open PySem PySem.Spec PyProof.Rows
noncomputable def tFs (te:TE):TE:=fun σ H Q=>te σ H fun y H1=>∃n:Int,y=.int n/\n.natAbs.log2<1920/\∀z,Q (.str z) H1
noncomputable def Ex0 (e C tt:Addr)(h:Heap):Prop:=h.get? e=some { cls:=.ref C,data:=.fields #[.ref tt,.none,.none,.none,.bool false,.none] }
noncomputable def Ex1 (e C dx:Addr)(h:Heap):Prop:=∃tt,h.get? e=some { cls:=.ref C,dict:=some dx,data:=.fields #[.ref tt,.none,.none,.none,.bool false,.none] }
section
variable {X:Cx}{e:Expr}{te:TE}{p pos p1 p2 p3:Pos}{x:Str}{j:Nat}{pins:List (Addr×Obj)}{σ:St}{H:Hp}{s:Shared}
theorem pe_fstr (he:PE X e te):PE X (.JoinedStr [.Constant (.str "refused at ") j p1,.FormattedValue e (-1) none p2] p3) (tFs te):=by
 intro pins s σ H Q I h
 refine JoinedStr_many (joinParts_cons ?_)
 refine thn (pe_str pins s σ H (fun v H1=>v=.str "refused at "/\H1=H) I ⟨rfl,rfl⟩) fun v s1 zz=>?_
 obtain⟨y,H1,I1,ry,e1,e2⟩:=zz
 subst e1;subst e2
 obtain⟨t,rfl⟩:=(show ∃t,v=Value.str "refused at " t from ry)
 have h0:(Str.empty++("refused at ":Str)).length=11:=by decide
 refine⟨by rw[h0,sizeLine_eq];omega,joinParts_cons (FormattedValue_plain (thn (he pins s1 σ H1 _ I1 h) fun u s2 zz=>?_))⟩
 obtain⟨y2,H2,I2,r2,n,e3,hn,q⟩:=zz
 subst e3
 obtain⟨t2,rfl⟩:=(show ∃t,u=Value.int n t from r2)
 have hl:=int_text_len_1921 hn
 have h2:(Str.empty++("refused at ":Str)++Str.ofString (toString n)).length<=sizeLine:=by rw[strLen_append,h0,sizeLine_eq];omega
 exact formatField_int_small hn ⟨h2,joinParts_nil ⟨.str _,H2,(I2.tok _),⟨_,rfl⟩,q _⟩ h2⟩
theorem ve_find (K:PySem.W.Frag):PySem.W.findCls K (.type "ValueError") (.type "type") "__init__" = some (.val (.builtin "ValueError.__init__")):=by rfl
theorem gm_ve {pl:Sem Bool}{Q:Value×List Value->Shared->Prop}(I:Inv X pins σ H s)(h:Q (.builtin "ValueError.__init__",[]) { s with toks:=s.toks+1 }):wpAny (model X.prog X.w) X.A (getMethod (.type "ValueError") "__init__" pl) Q X.xe s:=by
 obtain⟨m,F⟩:=I.fr
 exact PySem.W.method_type F I.mod.kin (PySem.W.kitMeta_of (by decide +kernel)) (by decide +kernel) (ve_find X.K) (by rfl) h
theorem Inv.ext2 {a dx:Addr}{φ φ':Heap->Prop}{o2:HO}{h':Heap}{t':Nat}(I:Inv X pins σ H s)(ha:H a=some (.ext φ))(k:∀b u,b≠a->s.heap.get? b=some u->h'.get? b=some u)(new:φ' h')(hex:∃u,h'.get? a=some u)(st:∀h1 h2:Heap,φ' h1->(∀o,h1.get? a=some o->h2.get? a=some o)->φ' h2) :
  Inv X pins σ (upd H a (.ext φ')) { s with heap:=h',toks:=t' } :=
 I.write (x:=a) (e:=a) (by rw[ha];trivial) (.inl rfl) k hex ⟨new,hex,st⟩
theorem Ex0.ok {a C tt:Addr}{h:Heap}(x:Ex0 a C tt h):(∃u,h.get? a=some u)/\∀h1 h2:Heap,Ex0 a C tt h1->(∀o,h1.get? a=some o->h2.get? a=some o)->Ex0 a C tt h2:=⟨⟨_,x⟩,fun h1 h2 y k=>k _ y⟩
theorem Ex1.ok {a C dx:Addr}{h:Heap}(x:Ex1 a C dx h):(∃u,h.get? a=some u)/\∀h1 h2:Heap,Ex1 a C dx h1->(∀o,h1.get? a=some o->h2.get? a=some o)->Ex1 a C dx h2 :=
 let ⟨tt,y⟩:=x;⟨⟨_,y⟩,fun h1 h2 ⟨t2,z⟩ k=>⟨t2,k _ z⟩⟩
theorem vals_two {x y:V}{us:List Value}(r:Vals [x,y] us):∃u v,us=[u,v]/\RelV x u/\RelV y v:=by
 cases r with
 | cons w1 r2 =>
  cases r2 with
  | cons w2 r3 =>
   cases r3
   exact⟨_,_,rfl,w1,w2⟩
noncomputable def tInit (C:Addr)(t:TA):TE:=fun σ H Q=>t σ H fun vs H1=>∃a tt z,vs=[.ref a,.str z]/\H1 a=some (.ext (Ex0 a C tt))/\∀t2,Q .non (upd H1 a (.ext (Ex0 a C t2)))
theorem pe_base {C C1 fI:Addr}{a:Expr}{t:TA}{pl:Sem Bool}(hT:∀h,X.K.In h->Two h C C1 fI)(hg:Gl X "ValueError")(hm:X.mg "ValueError" = none)(pa:PA X [a,e] t)
  (hst:starEach [a,e] X.env=(false,eval a X.env)::starEach [e] X.env:=by rfl) (hpl:(backTo pos (starEach [e] X.env)).any (·.1)=false:=by rfl)
  (ht:eval (.Call (.Attribute (.Name "ValueError" p1) "__init__" p2) [a,e] [] pos) X.env=(do
   let ov <-eval (.Name "ValueError" p1) X.env
   standAt p2.atName
   let (f,first) <-holding [ov] (getMethod ov "__init__" pl)
   callWith pos f first (backTo pos (starEach [a,e] X.env)) (backToKw pos (keywordEach [] X.env))):=by rfl) :
  PE X (.Call (.Attribute (.Name "ValueError" p1) "__init__" p2) [a,e] [] pos) (tInit C t):=by
 intro pins s σ H Q I h
 refine PySem.W.methodCall_KW (pl:=pl) (zhv I hg hm PyProof.Rows.Boot.«ValueError» ?_) ht
 refine gm_ve I ?_
 refine PyProof.Rows.callWith_builtin1 (thn (pa pos pins _ σ H _ (I.tok _) h) fun us s1 zz=>?_) hst hpl
 obtain⟨vs,H1,I1,r1,q1⟩:=zz
 obtain⟨a',tt,z,rfl,hx,q⟩:=q1
 obtain⟨u1,u2,rfl,w1,w2⟩:=vals_two r1
 cases (show _=Value.ref a' from w1)
 obtain⟨nm,q',N,bs,sn,sub,ab,col,dd,k0,k1,k2,k3,k5,mN,hC,hN,_⟩:=(hT s1.heap I1.kIn).c
 have he:Ex0 a' C tt s1.heap:=(show ObjOk X.prog X.w H1 s1.heap a' (.ext _) from I1.hok a' _ hx).1
 obtain⟨hp,g,d,tk,os⟩:=s1
 refine wpAny_call (base_init (oe:=⟨.none,none,.fields #[],#[]⟩) (by simp) hC he ?_)
 have x1:Ex0 a' C hp.objs.size ((hp.push { cls:=.type "tuple",data:=.seq #[u2] }).update a' (Obj.mapFields (·.setIfInBounds 0 (.ref hp.objs.size)))):=(Heap.get?_update_self _ (Heap.get?_push_of_some _ he) rfl).trans rfl
 exact⟨.non,_,I1.ext2 (a:=a') (dx:=a') (o2:=.lst []) (t':=tk) hx (fun b u hb hu=>by rw[Heap.get?_update_other _ _ (Ne.symm hb)];exact Heap.get?_push_of_some _ hu) x1 x1.ok.1 x1.ok.2,rfl,q _⟩
noncomputable def tAt (C:Addr)(ta tv:TE):TS:=fun D σ H=>tv σ H fun y H1=>ta σ H1 fun x H2=>∃a tt,x=.ref a/\H2 a=some (.ext (Ex0 a C tt))/\∀dx,H2 dx=none->dx≠a->D.nx σ (upd (upd H2 dx (.xd [("at",y)])) a (.ext (Ex1 a C dx)))
theorem ps_at {C C1 fI:Addr}{o value:Expr}{ta tv:TE}{pos':Pos}(hT:∀h,X.K.In h->Two h C C1 fI)(ha:PE X o ta)(hv:PE X value tv)(hs:swapsWith value (some (.Attribute o "at" pos')) pos.line X.env=pure false):PS X (.Assign [.Attribute o "at" pos'] value pos) (tAt C ta tv):=by
 intro pins s σ H D I h
 refine plainObj_wpAny_Assign_Attribute (thn (hv pins s σ H _ I h) fun u s1 zz=>?_) hs
 obtain⟨y,H1,I1,ry,q⟩:=zz
 refine thn (ha pins s1 σ H1 _ I1 q) fun ov s2 zz=>?_
 obtain⟨x,H2,I2,rx,a,tt,ex,ea,q2⟩:=zz
 subst ex
 obtain rfl:ov=Value.ref a:=rx
 have he:Ex0 a C tt s2.heap:=(show ObjOk X.prog X.w H2 s2.heap a (.ext _) from I2.hok a _ ea).1
 have T:=hT s2.heap I2.kIn
 have hfr:H2 s2.heap.objs.size=none:=I2.hok.fresh (Nat.le_refl _)
 have hne:s2.heap.objs.size≠a:=Nat.ne_of_gt (Heap.lt_size he)
 obtain⟨hp,g,d,tk,os⟩:=s2
 refine store2 T he rfl rfl rfl fun h' tk' g1 g2 g3=>?_
 have x1:Ex1 a C hp.objs.size h':=⟨tt,g1⟩
 have un:Un X.fs [] H2 (upd (upd H2 hp.objs.size (.xd [("at",y)])) a (.ext (Ex1 a C hp.objs.size))) hp h':=by
  have nb:∀b u,hp.get? b=some u->H2 b=none->b≠a/\b≠hp.objs.size:=fun b u q1 q2=>⟨fun z=>(by rw[z,ea]at q2;cases q2),Nat.ne_of_lt (Heap.lt_size q1)⟩
  have nt:∀b u,H2 b=some u->u≠.ext (Ex0 a C tt)->b≠a/\b≠hp.objs.size:=fun b u q1 q2=>⟨fun z=>(by rw[z,ea]at q1;exact q2 (Option.some.inj q1).symm),fun z=>(by rw[z,hfr]at q1;cases q1)⟩
  refine⟨fun b o q1 q2 _ _=>g3 b o (nb b o q1 q2).1 q1,fun b o q1 q2 _ _=>⟨o.slots,g3 b o (nb b o q1 q2).1 q1⟩,fun b o q1 q2 _=>?_,fun b o q1 _=>?_,fun b xs q1=>?_,fun b o u q1=>?_,fun b ps q1=>⟨#[],?_⟩⟩
  ·rw[zai (nb b o q1 q2).1,zai (nb b o q1 q2).2];exact q2
  ·by_cases z:b=a
   ·rw[z];exact⟨_,g1⟩
   ·exact⟨o,g3 b o z q1⟩
  ·have:=nt b _ q1 (fun z=>by cases z)
   rw[zai this.1,zai this.2];exact q1
  ·have:=nt b _ q1 (fun z=>by cases z)
   rw[zai this.1,zai this.2];exact q1
  ·have:=nt b _ q1 (fun z=>by cases z)
   rw[zai this.1,zai this.2,q1];simp
 have hok:HOk X.prog X.w (upd (upd H2 hp.objs.size (.xd [("at",y)])) a (.ext (Ex1 a C hp.objs.size))) h':=by
  intro b ob q1
  by_cases z:b=a
  ·subst z
   rw[zah]at q1;cases q1
   exact⟨x1,x1.ok.1,x1.ok.2⟩
  ·rw[zai z]at q1
   by_cases z2:b=hp.objs.size
   ·subst z2
    rw[zah]at q1;cases q1
    refine⟨_,g2,fun f=>?_⟩
    by_cases zf:f = "at"
    ·subst zf
     have e1:List.lookup ("at":Str) [(("at":Str),y)]=some y:=by rw[List.lookup];simp
     rw[e1,if_pos rfl]
     exact ry
    ·have e1:List.lookup f [(("at":Str),y)]=none:=by
      have:(f==("at":Str))=false:=by simpa using zf
      rw[List.lookup,this];rfl
     rw[e1,if_neg zf]
     trivial
   ·rw[zai z2]at q1
    have ne:∀b' u,H2 b'=some u->u≠.ext (Ex0 a C tt)->b'≠a/\b'≠hp.objs.size:=fun b u q1 q2=>⟨fun z=>(by rw[z,ea]at q1;exact q2 (Option.some.inj q1).symm),fun z=>(by rw[z,hfr]at q1;cases q1)⟩
    refine (I2.hok b ob q1).stay (fun b' u hb hu=>g3 b' u (fun z3=>?_) hu) (fun b' q3=>?_) fun b' xs q3=>?_
    ·rcases hb with rfl | hb
     ·exact z z3
     ·rw[z3,ea]at hb;cases hb
    ·have:=ne b' _ q3 (fun z=>by cases z)
     rw[zai this.1,zai this.2];exact q3
    ·have:=ne b' _ q3 (fun z=>by cases z)
     rw[zai this.1,zai this.2];exact q3
 exact⟨σ,_,I2.un (t':=tk') un hok,q2 _ hfr hne⟩
end
end L2
set_option maxHeartbeats 0
namespace L2
open PySem PySem.Spec PyProof.Rows
noncomputable def spI (C:Addr):Sp:=fun vs H Q _=>∃a tt,∃n:Int,vs=[.ref a,.int n]/\n.natAbs.log2<1920/\H a=some (.ext (Ex0 a C tt))/\∀dx,H dx=none->dx≠a->Q .non (upd (upd H dx (.xd [("at",.int n)])) a (.ext (Ex1 a C dx)))
noncomputable def tV (i:Nat):TE:=fun σ H Q=>∃v,σ[i]? = some (some v)/\Q v H
noncomputable def tBody (C:Addr):TS:=tSeq (tDrop (tInit C (tCons (tV 0) (tCons (tFs (tV 1)) tNil)))) (tAt C (tV 0) (tV 1))
theorem ziq {H:Hp}{a dx:Addr}{x y z:HO}(h:dx≠a):upd (upd (upd H a x) dx y) a z=upd (upd H dx y) a z:=by
 funext b
 by_cases h1:b=a
 ·subst h1;rw[zah,zah]
 ·rw[zai h1,zai h1]
  by_cases h2:b=dx
  ·subst h2;rw[zah,zah]
  ·rw[zai h2,zai h2,zai h1]
theorem init_fn {P:Program}{w:World}{K:PySem.W.Frag}{mg:Str->Option Value}{base:Heap}{qual:Str}{st:Stmt}{f C:Addr}{fd:FuncData}(F:Fun K "__init__" qual st f fd)(S:FnScope ["self","at"] ["self","at"] (defScope st))
  (hbody:∀(cdv:Value) (A:Around) (outer:List Env) (s:Shared) (H:Hp) (E:XK),PSs (cxOf CX0 P w K mg base ["self","at"] qual (defScope st) f cdv A outer s H E).nox (defBody st) (tBody C)) :
  FnOk P w K mg base CX0 1 f fd ["self","at"] (spI C):=by
 refine F.ok (k:=0) S (fun vs H Q E zz=>by obtain⟨a,tt,n,e,_⟩:=zz;rw[e];rfl) (fun cdv A outer s H vs Q E hr h=>⟨_,hbody cdv A outer s H E,?_⟩)
 obtain⟨a,tt,n,rfl,hn,ha,q⟩:=h
 refine⟨.ref a,rfl,.int n,rfl,n,rfl,hn,fun z=>⟨a,tt,z,rfl,ha,fun t2=>?_⟩⟩
 refine⟨.int n,rfl,.ref a,rfl,a,t2,rfl,zah,fun dx h1 h2=>?_⟩
 rw[zai h2]at h1
 have:=q dx h1 h2
 rw[ziq h2]
 exact this
section
variable {X:Cx}{pins:List (Addr×Obj)}{σ:St}{H:Hp}{s:Shared}
theorem Inv.forget {a:Addr}{φ:Heap->Prop}{H':Hp}(I:Inv X pins σ H s)(ha:H a=some (.ext φ))(h1:H' a=none)(h2:∀b,b≠a->H' b=H b):Inv X pins σ H' s:=by
 have nn:∀b,H b=none->H' b=none:=fun b q=>by
  by_cases z:b=a
  ·rw[z];exact h1
  ·rw[h2 b z];exact q
 have ne:∀b u,H b=some u->(∀φ,u≠.ext φ)->H' b=some u:=fun b u q k=>by
  rw[h2 b (fun z=>by rw[z,ha]at q;exact k _ (Option.some.inj q).symm)];exact q
 have base:Un X.fs X.ex X.H₀ H' X.s₀.heap s.heap:=by
  obtain⟨k1,k2,k3,k4,k5,k6,k7⟩:=I.base
  exact⟨k1,k2,fun b o q n hx=>nn b (k3 b o q n hx),k4,fun b xs q=>ne b _ (k5 b xs q) (fun _ z=>by cases z),fun b o u q=>ne b _ (k6 b o u q) (fun _ z=>by cases z),fun b ps q=>let ⟨m,z⟩:=k7 b ps q;⟨m,ne b _ z (fun _ z=>by cases z)⟩⟩
 have hok:HOk X.prog X.w H' s.heap:=fun b o q=>by
  have hb:b≠a:=fun z=>by rw[z,h1]at q;cases q
  rw[h2 b hb]at q
  exact (I.hok b o q).stay (fun _ _ _ z=>z) (fun b' z=>ne b' _ z (fun _ z=>by cases z)) fun b' xs z=>ne b' _ z (fun _ z=>by cases z)
 exact⟨I.ok,I.os,I.bare,base,I.loc,I.cell,nn _ I.free,fun x c e=>nn _ (I.freeC x c e),fun p hp=>let ⟨a1,a2,a3,a4,a5⟩:=I.pin p hp;⟨a1,nn _ a2,a3,a4,a5⟩,hok,I.len⟩
theorem exc_make {C C1 fI:Addr}{fd:FuncData}{k:Nat}{u:Value}{n:Int}{Q:Value->Shared->Prop}{E:Value->Shared->Prop}(G:FnOk X.prog X.w X.K X.mg X.base CX0 k fI fd ["self","at"] (spI C))(hT:∀h,X.K.In h->Two h C C1 fI)(hr:Room (k+1) X.A)(hb:Binds X.K fd ["self","at"] [])(I:Inv X pins σ H s)
  (ru:RelV (.int n) u) (hn:n.natAbs.log2<1920) (h:∀e dx s',Inv X pins σ (upd H dx (.xd [("at",.int n)])) s'->H dx=none->Xo s.heap.objs.size e C dx none (upd H dx (.xd [("at",.int n)])) s'.heap->Ex1 e C dx s'.heap->Q (.ref e) s') :
  wpAny (model X.prog X.w) X.A (call (.ref C) [u]) Q E s:=by
 obtain⟨hp,g,d,tk,os⟩:=s
 have T:=hT hp I.kIn
 obtain⟨nm,q,N,bs,sn,sub,ab,col,dd,k0,k1,k2,k3,k5,mN,c1,c2,c3⟩:=T.c
 obtain⟨nm',q',N',bs',bm',hd',sn',sub',ab',col',dd',k0',k1',k2',k3',k5',nid,mN',g1,g2,g3,g4⟩:=T.c1
 obtain⟨oI,i1,i2⟩:=T.f
 refine made2 (by simp) (by simp) (by simp) c1 c2 (c3 _ (by simp)) g1 g2 g3 i1 i2 (fun h' e hm he=>?_) (by rw[sizeLine_eq];simp)
 obtain⟨t,hte,_,_⟩:=hm.there
 have x0:Ex0 e C t h':=hte
 have hle:hp.objs.size<=e:=by rw[he];exact Nat.le_succ _
 have I2:Inv X pins σ (upd H e (.ext (Ex0 e C t))) ⟨h',g,d,tk,os⟩:=I.laid (t':=tk) hm.keeps hle ⟨x0,x0.ok.1,x0.ok.2⟩
 have hne:H e=none:=I.hok.fresh hle
 refine wpAny_call (codeAny_mono (G.run _ X.stack _ _ ⟨[.ref e,u],[]⟩ [.ref e,u] [.ref e,.int n] (fun v H2=>v=.non/\∃dx,upd H e (.ext (Ex0 e C t)) dx=none/\dx≠e/\H2=upd (upd (upd H e (.ext (Ex0 e C t))) dx (.xd [("at",.int n)])) e (.ext (Ex1 e C dx))) E0 (hr.make C [u] [])
  (I2.env0.make C [u] []) (hb _ [.ref e,u] I2.kIn rfl) (.cons rfl (.cons ru .nil)) ⟨e,t,n,rfl,hn,zah,fun dx h1 h2=>⟨rfl,dx,h1,h2,rfl⟩⟩) fun r s' hq=>?_)
 cases r with
 | error x=>exact hq.elim
 | ok fl =>
  cases fl with
  | ret v =>
   obtain⟨v',H',I3,rv,rfl,dx,d1,d2,rfl⟩:=I2.after hq
   refine⟨rv,?_⟩
   rw[zai d2]at d1
   rw[ziq d2]at I3
   have x1:Ex1 e C dx s'.heap:=(show ObjOk X.prog X.w _ s'.heap e (.ext _) from I3.hok e _ zah).1
   have hue:upd H dx (.xd [("at",.int n)]) e=none:=by rw[zai (Ne.symm d2)];exact hne
   have I4:Inv X pins σ (upd H dx (.xd [("at",.int n)])) s':=I3.forget (a:=e) zah hue fun b hb=>by rw[zai hb]
   obtain⟨tt,hx⟩:=id x1
   exact h e dx s' I4 d1 ⟨hle,hue,_,_,hx,rfl,rfl,rfl,by simp,rfl⟩ x1
  | next=>exact hq.elim
  | brk=>exact hq.elim
  | cont=>exact hq.elim
end
end L2
set_option maxHeartbeats 0
namespace L2
open PySem PySem.Spec PyProof.Rows
theorem raise2 {prog:Program}{w:World}{A:Around}{E:Value->Shared->Prop}{env:Env}{s:Shared}{x:Sem Value}{Q:Flow->Shared->Prop}(hh:A.handled=none)
  (h:wpAny (model prog w) A x (fun v s₁=>∃e C C1 fI dx tt,v=.ref e/\Two s₁.heap C C1 fI/\s₁.heap.get? e=some { cls:=.ref C,dict:=some dx,data:=.fields #[.ref tt,.none,.none,.none,.bool false,.none] }/\E (.ref e) s₁) E s) :
  wpAny (model prog w) A (raiseStmt env (some x) none) Q E s:=by
 unfold raiseStmt
 refine wpAny_bind (wpAny_mono h (fun v s₁ h₁=>?_) fun _ _ x=>x)
 obtain⟨e,C,C1,fI,dx,tt,rfl,T,he,hE⟩:=h₁
 obtain⟨nm,q,N,bs,sn,sub,ab,col,dd,k0,k1,k2,k3,k5,mN,hC,hN,_⟩:=T.c
 have hco:(Value.ref C::[Value.ref C1,.type "ValueError",.type "Exception",.type "BaseException",.type "object"]).contains (.type "BaseException")=true:=by simp
 obtain⟨hp,g,d,tk,os⟩:=s₁
 repeat (first | with_reducible refine wpAny_loadPart_at he ?_ | with_reducible refine wpAny_loadPart_at hC ?_ | (refine wpAny_isSubtype_exc hC ?_;rw[hco]) | wp_step)
 exact wpAny_raiseNew_none hh hE
section
variable {X:Cx}{pins:List (Addr×Obj)}{σ:St}{H:Hp}{s:Shared}
theorem ev_exc {C C1 fI:Addr}{fd:FuncData}{k:Nat}{x:Str}{e:Expr}{t:TA}{np cpos:Pos}{Q:Value->Shared->Prop}(G:FnOk X.prog X.w X.K X.mg X.base CX0 k fI fd ["self","at"] (spI C))(hT:∀h,X.K.In h->Two h C C1 fI)(hr:Room (k+1) X.A)(hb:Binds X.K fd ["self","at"] [])(hg:Gl X x)(hm:X.mg x=some (.ref C))(hk:PySem.W.keepIn X.K (.ref C)=true)(he:PA X [e] t)(I:Inv X pins σ H s)
  (h:t σ H fun vs H1=>∃n:Int,vs=[.int n]/\n.natAbs.log2<1920/\∀a dx s',Inv X pins σ (upd H1 dx (.xd [("at",.int n)])) s'->H1 dx=none->(∃lo,X.s₀.heap.objs.size<=lo/\Xo lo a C dx none (upd H1 dx (.xd [("at",.int n)])) s'.heap)->Ex1 a C dx s'.heap->Q (.ref a) s')
  (hdb:(x==("__debug__":Str))=false:=by decide) (hst:starEach [e] X.env=(false,eval e X.env)::starEach [] X.env:=by rfl) (hpl:(backTo cpos (starEach [] X.env)).any (·.1)=false:=by rfl) :
  wpAny (model X.prog X.w) X.A (eval (.Call (.Name x np) [e] [] cpos) X.env) Q X.xe s:=by
 refine wpAny_Call_Name_kw (zga I hg hm ?_ hdb)
 refine PySem.W.callWith_K (h₀:=X.base) I.ok.mod.kin hk (thn (he cpos pins s σ H _ I h) fun us s1 zz=>?_) hst hpl
 obtain⟨vs,H1,I1,r,q⟩:=zz
 refine⟨I1.kIn,?_⟩
 obtain⟨n,rfl,hn,q⟩:=q
 cases r with
 | cons w1 r2 =>
  cases r2
  exact exc_make G hT hr hb I1 w1 hn fun a dx s' I2 hd x x1=>q a dx s' I2 hd ⟨_,I1.sz,x⟩ x1
end
end L2
namespace M
open PySem PySem.Spec L2
noncomputable def raiseS (c:String)(mA:MA):MS:=fun env st=>(mA env st).bind fun ds st1=>match ds with
 | [.int n]=>if n.natAbs.log2<1920 then .err ⟨c,.int n⟩ st1 else .bad
 | _=>.bad
theorem js_raise {X:Cx}{C C1 fI:Addr}{fd:FuncData}{k:Nat}{x:Str}{c:String}{e:Expr}{mA:MA}{np cpos pos:Pos}(G:FnOk X.prog X.w X.K X.mg X.base CX0 k fI fd ["self","at"] (spI C))(hT:∀h,X.K.In h->Two h C C1 fI)(hr:Room (k+1) X.A)(hb:Binds X.K fd ["self","at"] [])
  (h0:PySem.W.nsIn X.K mainGlobals (c:Str)=some (some (.ref C))) (hg:Gl X x) (hm:X.mg x=some (.ref C)) (hk:PySem.W.keepIn X.K (.ref C)=true) (hc:X.calm=true) (ha:JA X [e] mA) (hdb:(x==("__debug__":Str))=false:=by decide) (hst:starEach [e] X.env=(false,eval e X.env)::starEach [] X.env:=by rfl) (hpl:(backTo cpos (starEach [] X.env)).any (·.1)=false:=by rfl) :
  JS X (.Raise (some (.Call (.Name x np) [e] [] cpos)) none pos) (raiseS c mA):=by
 rintro pins s σ H D I ⟨μ,env,st,hE,hs,hp⟩
 rw[arm_exec_Raise]
 refine wpAny_bind (wpAny_standAt (raise2 (I.ok.hd hc) (wpAny_bind ?_)))
 refine wpAny_mono (ev_exc (Q:=fun v s'=>∃e C C1 fI dx tt,v=.ref e/\Two s'.heap C C1 fI/\s'.heap.get? e=some { cls:=.ref C,dict:=some dx,data:=.fields #[.ref tt,.none,.none,.none,.bool false,.none] }/\X.xe (.ref e) s') G hT hr hb hg hm hk ha I ⟨μ,env,st,hE,hs,?_⟩ hdb hst hpl) (fun v s' hv=>?_) fun _ _ x=>x
 ·unfold raiseS at hp
  cases e1:mA env st with
  | bad=>rw[e1]at hp;exact hp.elim
  | err y st1=>rw[e1]at hp;exact hp
  | ok ds st1 =>
   rw[e1]at hp
   simp only[R.bind_ok]at hp
   intro vs H1 μ1 g1 hs1 hv1
   split at hp
   ·rename_i n
    split at hp
    ·rename_i hn
     obtain⟨v,e2,hv2⟩:=hv1.get (i:=0) (d:=.int n) rfl
     have el:=hv1.length
     have:vs=[v]:=by
      cases vs with
      | nil=>cases e2
      | cons a r=>cases r with
       | nil=>simpa using e2
       | cons b r=>simp at el
     subst this
     rw[RepV.int_iff]at hv2;subst hv2
     refine⟨n,rfl,hn,fun a dx s' I2 hd hx x1=>?_⟩
     obtain⟨lo,hlo,x⟩:=hx
     obtain⟨tt,hx1⟩:=x1
     exact⟨a,C,C1,fI,dx,tt,rfl,hT _ I2.kIn,hx1,hp pins σ _ μ1 (.ref a) s' (g1.trans (Grow.lay hd)) (hs1.lay hd) I2 ⟨a,C,dx,lo,none,.int n,rfl,hlo,x,zah,h0,RepV.int_iff.mpr rfl⟩⟩
    ·exact hp.elim
   ·exact hp.elim
 ·exact wpAny_bind (wpAny_standAt (wpAny_pure hv))
end M
set_option maxHeartbeats 0
namespace L2
open PySem PySem.Spec PyProof.Rows
section
variable {X:Cx}{CX:CXT}{k:Nat}{f C:Addr}{fd:FuncData}{ps:List Str}{sp:Sp}{dvs:List V}{ds:List Value}{x m:Str}{p pos apos:Pos}{e o:Expr}{es:List Expr}{ta:TE}{t:TA}{pins:List (Addr×Obj)}{σ:St}{H:Hp}{s:Shared}{Q:VK}
theorem PA.nox (h:PA X.nox es t):PA X es t:=fun pos pins s σ H Q I hw =>
 wpAny_mono (h pos pins s σ H Q (I.wish _) hw) (fun _ _ ⟨v,H',I',r,q⟩=>⟨v,H',I'.unwish,r,q⟩) fun _ _ z=>False.elim z
theorem zh3 {E':Value->Shared->Prop}(F:FnOk X.prog X.w X.K X.mg X.base CX k f fd ps sp)(hr:Room k X.A)(hg:Gl X x)(hm:X.mg x=some (.ref f))(hk:PySem.W.keepIn X.K (.ref f)=true)(hb:Binds X.K fd ps ds)(hd:Vals dvs ds)
  (ha:PA (X.wish E') (e::es) t) (I:Inv X pins σ H s) (h:t σ H fun vs H1=>∃E,sp (vs++dvs) H1 Q E/\∀s1 ev s',Inv X pins σ H1 s1->CX X.stack H1 s1 E ev s'->E' ev s')
  (hdb:(x==("__debug__":Str))=false:=by decide) (he:starEach (e::es) X.env=(false,eval e X.env)::starEach es X.env:=by rfl) (hpl:(backTo pos (starEach es X.env)).any (·.1)=false:=by rfl) :
  wpAny (model X.prog X.w) X.A (eval (.Call (.Name x p) (e::es) [] pos) X.env) (EP X pins σ Q) E' s:=by
 have J:=I.wish E'
 refine wpAny_Call_Name_kw (zga I hg hm ?_ hdb)
 refine PySem.W.callWith_K (h₀:=X.base) I.ok.mod.kin hk (thn (ha pos pins s σ H _ J h) fun us s1 zz=>?_) he hpl
 obtain⟨vs,H1,I1,r,E,q,hx⟩:=zz
 refine⟨I1.unwish.kIn,?_⟩
 have I2:Inv X pins σ H1 s1:=I1.unwish
 have r2:Vals (vs++dvs) (us++ds):=r.append hd
 have hl:(us++ds).length=ps.length:=by rw[<-r2.length];exact F.len _ _ _ _ q
 refine wpAny_call (codeAny_mono (F.run X.A X.stack s1 H1 ⟨us,[]⟩ (us++ds) (vs++dvs) Q E hr I2.env0 (hb s1 us I2.kIn hl) r2 q) fun r s' hq=>?_)
 cases r with
 | error e=>exact hx s1 e s' I2 hq
 | ok fl =>
  cases fl with
  | ret u=>exact I2.after hq
  | next=>exact False.elim hq
  | brk=>exact False.elim hq
  | cont=>exact False.elim hq
end
end L2
namespace M
open PySem PySem.Spec L2
noncomputable def PostX (K:PySem.W.Frag)(μ:List Addr)(H:Hp)(Q:VK)(E:XK)(r:R D):Prop:=match r with
 | .ok d st=>∀(v:V) (H':Hp) (μ':List Addr),Grow μ H μ' H'->RepS K μ' H' st->RepV K μ' H' d v->Q v H'
 | .err x st=>∀(C dx:Addr) (v:V) (H':Hp) (μ':List Addr),Grow μ H μ' H'->RepS K μ' H' st->H' dx=some (.xd [("at",v)])->PySem.W.nsIn K mainGlobals (x.cls:Str)=some (some (.ref C))->RepV K μ' H' x.fld v->E (.ref C) (some dx) H'
 | .bad=>False
noncomputable def spX (K:PySem.W.Frag)(n:Nat)(fd:FD):Sp:=fun vs H Q E=>vs.length=n/\∃μ ds st,RepVs K μ H ds vs/\RepS K μ H st/\PostX K μ H Q E (fd ds st)
section
variable {P:Program}{w:World}{K:PySem.W.Frag}{mg:Str->Option Value}{base:Heap}
theorem fn_okX {x qual:Str}{st:Stmt}{f:Addr}{fd:FuncData}{N ps:List Str}{k:Nat}{m:MS}(F:Fun K x qual st f fd)(S:FnScope N ps (defScope st))
  (hbody:∀(cdv:Value) (A:Around) (outer:List Env) (s:Shared) (H:Hp) (E:XK) (W:Addr->Addr->Hp->Prop),Room k (A.deeper (PyProof.Rows.envOfC qual (defScope st) s.heap.objs.size f cdv)) ->
   JSs ((cxOf (CXM P w) P w K mg base N qual (defScope st) f cdv A outer s H E).wish (Rz (cxOf (CXM P w) P w K mg base N qual (defScope st) f cdv A outer s H E) W)) (defBody st) m):FnOk P w K mg base (CXM P w) (k+1) f fd ps (spX K ps.length (fnM N.length m)):=by
 obtain⟨oc,od,kV,doc,pm,an,cdv,ct,osl,rfl,lk,hcd⟩:=F.ex
 refine fn_of lk hcd S (fun vs H Q E h=>h.1) fun A outer s H vs Q E hr hsp=>?_
 obtain⟨hl,μ,ds,sto,hv,hs,hp⟩:=hsp
 refine⟨_,fun pins s' σ H' D I hw=>wpAny_mono (hbody cdv A outer s H E (fun C dx H'=>E (.ref C) (some dx) H') hr pins s' σ H' D (I.wish _) hw) (fun _ _ q=>q.unwish) (fun ev s2 z=>Rz.leave rfl (fun C dx H' h=>h) z),μ,startM N.length ds,sto,RepVs.start N hv,hs,?_⟩
 unfold fnM at hp
 cases hr:m (startM N.length ds) sto with
 | bad=>rw[hr]at hp;exact hp.elim
 | err x st1 =>
  rw[hr]at hp
  rintro pins σ' H' μ' e s' g hs' I ⟨a,C,dx,lo,fl,v,rfl,hlo,xo,hdx,hns,hv⟩
  exact⟨a,C,dx,v,fl,lo,σ',H',rfl,hlo,I.unwish.nopins,xo,hdx,hp C dx v H' μ' g hs' hdx hns hv⟩
 | ok o st1 =>
  rw[hr]at hp
  cases o with
  | rt d=>exact hp
  | nx env=>exact fun σ' H' μ' g hs' _=>hp .non H' μ' g hs' (RepV.non_iff.mpr rfl)
  | bk env=>exact hp.elim
  | cn env=>exact hp.elim
noncomputable def gcX (st:Stor)(r:R D):R D:=open Classical in match r with
 | .err x st'=>if st'.take st.length=st/\under st.length x.fld then .err x st else .err x st'
 | r=>gc st r
noncomputable def gcFX (F:FD):FD:=fun ds st=>gcX st (F ds st)
theorem gc_isOk (st:Stor)(d:D)(st':Stor):∃d2 st2,gc st (.ok d st')=.ok d2 st2:=by
 unfold gc
 dsimp only
 repeat' (first | split | exact⟨_,_,rfl⟩)
theorem sp_gcX {n:Nat}{F:FD}{vs:List V}{H:Hp}{Q:VK}{E:XK}(h:spX K n (gcFX F) vs H Q E):spX K n F vs H Q E:=by
 obtain⟨hl,μ,ds,st,h1,h2,h3⟩:=h
 refine⟨hl,μ,ds,st,h1,h2,?_⟩
 unfold gcFX at h3
 cases e:F ds st with
 | bad=>rw[e]at h3;exact h3
 | ok d st' =>
  rw[e]at h3
  have h4:PostX K μ H Q E (gc st (.ok d st')):=h3
  obtain⟨d2,st2,e2⟩:=gc_isOk st d st'
  have h5:PostF K μ H Q (gc st (.ok d st')):=by rw[e2]at h4 ⊢;exact h4
  exact gc_post h2 h5
 | err x st' =>
  rw[e]at h3
  unfold gcX at h3
  dsimp only at h3
  split at h3
  ·rename_i c
   intro C dx v H' μ' g hs' hdx hns hv
   obtain⟨ν,rfl⟩:=g.pre
   exact h3 C dx v H' μ ⟨⟨[],by simp⟩,g.ext⟩ (h2.back hs' c.1) hdx hns (RepV.down x.fld hv (by rw[h2.len];exact c.2))
  ·exact h3
end
section
variable {X:Cx}{e:Expr}{es:List Expr}{mA:MA}{pos p:Pos}{x:Str}{k:Nat}{f:Addr}{fd:FuncData}{ps:List Str}{F:FD}{dvs:List V}{ds:List Value}{dd:List D}
noncomputable def callX (F:FD)(dd:List D)(mA:MA):ME:=fun env st=>(mA env st).bind fun as st1=>F (as++dd) st1
noncomputable def xkOf (X:Cx)(μ:List Addr)(H:Hp)(x:Xc)(st:Stor):XK:=fun cv odx H'=>∃C dx v μ',cv=.ref C/\odx=some dx/\Grow μ H μ' H'/\RepS X.K μ' H' st/\H' dx=some (.xd [("at",v)])/\PySem.W.nsIn X.K mainGlobals (x.cls:Str)=some (some (.ref C))/\RepV X.K μ' H' x.fld v
theorem zkg (G:FnOk X.prog X.w X.K X.mg X.base (CXM X.prog X.w) k f fd ps (spX X.K ps.length F))(hr:Room k X.A)(hm:X.mg x=some (.ref f))(hk:PySem.W.keepIn X.K (.ref f)=true)(hb:Binds X.K fd ps ds)(hd:Vals dvs ds)
  (hdd:∀μ H,RepVs X.K μ H dd dvs) (ha:JA X (e::es) mA) (hlen:(e::es).length+dvs.length=ps.length:=by rfl) (hg:Gl X x:=by rfl) (hdb:(x==("__debug__":Str))=false:=by decide) (he:starEach (e::es) X.env=(false,eval e X.env)::starEach es X.env:=by rfl) (hpl:(backTo pos (starEach es X.env)).any (·.1)=false:=by rfl)
  (hA:∀env st as st1,mA env st=.ok as st1->as.length=(e::es).length:=by intros;rfl) :
  JE X (.Call (.Name x p) (e::es) [] pos) (callX F dd mA):=by
 rintro pins s σ H Q I ⟨μ,env,st,hE,hs,hp⟩
 refine zh3 (E':=X.xe) G hr hg hm hk hb hd ha I ⟨μ,env,st,hE,hs,?_⟩ hdb he hpl
 cases hr:mA env st with
 | bad=>unfold callX at hp;rw[hr]at hp;exact hp
 | err y st1=>unfold callX at hp;rw[hr]at hp;exact hp
 | ok as st1 =>
  unfold callX at hp
  rw[hr]at hp
  intro vs H1 μ1 g1 hs1 hv
  have hv':RepVs X.K μ1 H1 (as++dd) (vs++dvs):=hv.append (hdd μ1 H1)
  have hl2:(vs++dvs).length=ps.length:=by rw[List.length_append,<-hv.length,hA env st as st1 hr];exact hlen
  have hp2:=Post.mono g1 (show Post X μ H (relV X) Q (F (as++dd) st1) from hp)
  cases hF:F (as++dd) st1 with
  | bad=>rw[hF]at hp2;exact hp2.elim
  | ok d st2 =>
   rw[hF]at hp2
   refine⟨fun _ _ _=>False,⟨hl2,μ1,as++dd,st1,hv',hs1,by rw[hF];exact hp2⟩,?_⟩
   rintro s1 ev s' I1 ⟨_,_,_,_,_,_,_,_,_,_,_,_,z⟩
   exact z.elim
  | err y st2 =>
   rw[hF]at hp2
   refine⟨xkOf X μ1 H1 y st2,⟨hl2,μ1,as++dd,st1,hv',hs1,by rw[hF];exact fun C dx v H' μ' g hs' hdx hns hv=>⟨C,dx,v,μ',rfl,rfl,g,hs',hdx,hns,hv⟩⟩,?_⟩
   rintro s1 ev s' I1 ⟨e,C,dx,v,H',rfl,hos,hb,un,hok,hdx,x,C',dx',v',μ',e1,e2,g,hs',hdx',hns,hv3⟩
   cases e1;cases e2
   exact hp2 pins σ H' μ' (.ref e) s' g hs' (I1.call' (ch:=[]) hos un hok hb (fun b hb=>absurd hb (by simp))) ⟨e,C,dx,_,_,v',rfl,I1.sz,x,hdx',hns,hv3⟩
end
end M
set_option maxHeartbeats 0
namespace L2
open PySem PySem.Spec PyProof.Rows
section
variable {X:Cx}{pins:List (Addr×Obj)}{σ:St}{H:Hp}{s:Shared}
theorem goes_ok {M:Model}{A:Around}{E:Value->Shared->Prop}{i:Nat}{x:Str}{pos:Pos}{Q:Unit->Shared->Prop}(I:Inv X pins σ H s)(hN:X.N.Nodup)(hi:X.N[i]? = some x)(hk:X.env.scope.names.lookup x=some .local)
  (h:∀s',Heap.SameBut X.env.locals s.heap s'.heap->Inv X pins (σ.set i none) H s'->Q () s'):wpAny M A (do bindName X.env x .none;unbindBehindTheSuite X.env x pos) Q E s:=by
 obtain⟨m,hn,hl⟩:=id I.loc
 have hcls:(X.env.scope.kind == .class || (X.env.scope.kind == .module && X.env.locals != X.env.globals))=false:=by rw[I.ok.kind];rfl
 have hiσ:i<σ.length:=by rw[I.len];exact (List.getElem?_eq_some_iff.mp hi).1
 have cne:=I.cne
 refine wpAny_nameGoes_keeps hk hn hcls fun h' v hn' hs=>?_
 obtain⟨oL,_,_,hoL,_⟩:=id hn
 have tracked:HOk X.prog X.w H h':=fun b ob e=>by
  refine (I.hok b ob e).stay (fun c w' hc q=>(hs.2 c ?_).trans q) (fun _ q=>q) fun _ _ q=>q
  rintro rfl
  rcases hc with rfl | hc
  ·rw[I.free]at e;cases e
  ·rw[I.free]at hc;cases hc
 refine h _ hs ⟨I.ok,I.os,I.bare,⟨fun b o e n hb hx=>?_,fun b o e n hb hx=>?_,I.base.free,fun b o e hx=>?_,I.base.tups,I.base.frzs,I.base.tbls⟩,⟨_,hn',fun j y v' e1 e2 e3=>?_⟩,fun y c e=>?_,I.free,I.freeC,fun p hp=>?_,tracked,by simpa using I.len⟩
 ·exact (hs.2 b (Nat.ne_of_lt (Nat.lt_of_lt_of_le (Heap.lt_size e) I.ok.above))).trans (I.base.keep b o e n hb hx)
 ·obtain⟨sl,e1⟩:=I.base.slot b o e n hb hx
  exact⟨sl,(hs.2 b (Nat.ne_of_lt (Nat.lt_of_lt_of_le (Heap.lt_size e) I.ok.above))).trans e1⟩
 ·obtain⟨o',e1⟩:=I.base.there b o e hx
  exact⟨o',(hs.2 b (Nat.ne_of_lt (Nat.lt_of_lt_of_le (Heap.lt_size e) I.ok.above))).trans e1⟩
 ·by_cases hj:j=i
  ·subst hj
   rw[List.getElem?_set_self hiσ]at e2
   cases e2
  ·rw[List.getElem?_set_ne (Ne.symm hj)]at e2
   obtain⟨u',r',q⟩:=hl j y v' e1 e2 e3
   refine⟨u',r',?_⟩
   rcases q with⟨k,e⟩ | ⟨k,c,e,z⟩
   ·refine .inl ⟨k,?_⟩
    have:y≠x:=fun e=>hj (zig hN e1 (e ▸ hi))
    simp[this,e]
   ·exact .inr ⟨k,c,e,z.sameBut hs (cne y c e)⟩
 ·obtain⟨w',z⟩:=I.cell y c e
  exact⟨w',z.sameBut hs (cne y c e)⟩
 ·obtain⟨e,n,ne,nf,d⟩:=I.pin p hp
  exact⟨(hs.2 p.1 ne).trans e,n,ne,nf,d⟩
theorem Inv.tag {lo:Nat}{e dx:Addr}{oe od:Obj}{vs:Array Value}{fs:List (Str×V)}(I:Inv X pins σ H s)(hpn:∀p∈X.pn++pins,p.1<lo)(hlo:X.s₀.heap.objs.size<=lo)(h1:lo<=e)(h2:H e=none)(ho:s.heap.get? e=some oe)(hd:oe.data=.fields vs)
  (hdx:H dx=some (.xd fs)) (hod:s.heap.get? dx=some od):Inv X pins σ (upd (upd H dx (.frz od (.xd fs))) e (.frz oe (.own 0))) s:=by
 have ne:dx≠e:=fun z=>by rw[z,h2]at hdx;cases hdx
 have val:∀b,b≠e->b≠dx->upd (upd H dx (.frz od (.xd fs))) e (.frz oe (.own 0)) b=H b:=fun b q1 q2=>by rw[zai q1,zai q2]
 have some_:∀b u,H b=some u->u≠.xd fs->upd (upd H dx (.frz od (.xd fs))) e (.frz oe (.own 0)) b=some u:=fun b u q k=>by
  rw[val b (fun z=>by rw[z,h2]at q;cases q) (fun z=>by rw[z,hdx]at q;exact k (Option.some.inj q).symm)];exact q
 have none_:∀b,b≠e->H b=none->upd (upd H dx (.frz od (.xd fs))) e (.frz oe (.own 0)) b=none:=fun b q1 q=>by
  rw[val b q1 (fun z=>by rw[z,hdx]at q;cases q)];exact q
 have base:Un X.fs X.ex X.H₀ (upd (upd H dx (.frz od (.xd fs))) e (.frz oe (.own 0))) X.s₀.heap s.heap:=by
  obtain⟨k1,k2,k3,k4,k5,k6,k7⟩:=I.base
  refine⟨k1,k2,fun b o q n hx=>none_ b (fun z=>?_) (k3 b o q n hx),k4,fun b xs q=>some_ b _ (k5 b xs q) (fun z=>by cases z),fun b o u q=>some_ b _ (k6 b o u q) (fun z=>by cases z),fun b ps q=>let ⟨m,z⟩:=k7 b ps q;⟨m,some_ b _ z (fun z=>by cases z)⟩⟩
  have:=Heap.lt_size q
  rw[z]at this
  exact Nat.lt_irrefl _ (Nat.lt_of_lt_of_le this (Nat.le_trans hlo h1))
 have ho2:∀a b,H b=some (.own a)->upd (upd H dx (.frz od (.xd fs))) e (.frz oe (.own 0)) b=some (.own a):=fun a b q=>some_ b _ q (fun z=>by cases z)
 have ht2:∀b xs,H b=some (.tup xs)->upd (upd H dx (.frz od (.xd fs))) e (.frz oe (.own 0)) b=some (.tup xs):=fun b xs q=>some_ b _ q (fun z=>by cases z)
 have hok:HOk X.prog X.w (upd (upd H dx (.frz od (.xd fs))) e (.frz oe (.own 0))) s.heap:=fun b o q=>by
  by_cases z:b=e
  ·subst z
   rw[zah]at q;cases q
   exact⟨ho,_,ho⟩
  ·by_cases z2:b=dx
   ·subst z2
    rw[zai z,zah]at q;cases q
    exact⟨hod,(I.hok b _ hdx).stay (fun _ _ _ z=>z) (ho2 b) ht2⟩
   ·rw[val b z z2]at q
    exact (I.hok b o q).stay (fun _ _ _ z=>z) (ho2 b) ht2
 refine⟨I.ok,I.os,I.bare,base,I.loc,I.cell,none_ _ (fun z=>?_) I.free,fun x c q=>none_ _ (fun z=>?_) (I.freeC x c q),fun p hp=>?_,hok,I.len⟩
 ·obtain⟨m,⟨o',es,ep,ho',hd',_⟩,_⟩:=I.loc
  rw[z,ho]at ho';cases ho';rw[hd]at hd';cases hd'
 ·obtain⟨v,o',ho',hd'⟩:=I.cell x c q
  rw[z,ho]at ho';cases ho';rw[hd]at hd';cases hd'
 ·obtain⟨a1,a2,a3,a4,a5⟩:=I.pin p hp
  exact⟨a1,none_ _ (fun z=>Nat.lt_irrefl _ (Nat.lt_of_lt_of_le (hpn p hp) (by rw[z];exact h1))) a2,a3,a4,a5⟩
noncomputable abbrev Cx.mark (X:Cx)(v:Value):Cx:={ X with A:=X.A.mark (some v),calm:=false }
theorem Cx.Ok.mark {X:Cx}(ok:X.Ok)(v:Value):(X.mark v).Ok :=
 ⟨ok.mod,ok.kind,ok.glob,ok.blt,ok.above,ok.inj,ok.has,ok.cab,(fun z=>by cases z),ok.frames,ok.stk,ok.exf,ok.bs,ok.bsz,ok.noex,ok.exfs,ok.funs,ok.frf⟩
theorem Inv.mark (I:Inv X pins σ H s)(v:Value):Inv (X.mark v) pins σ H s:=⟨I.ok.mark v,I.os,I.bare,I.base,I.loc,I.cell,I.free,I.freeC,I.pin,I.hok,I.len⟩
theorem Inv.unmark {v:Value}(ok:X.Ok)(I:Inv (X.mark v) pins σ H s):Inv X pins σ H s:=⟨ok,I.os,I.bare,I.base,I.loc,I.cell,I.free,I.freeC,I.pin,I.hok,I.len⟩
end
theorem match2 {prog:Program}{w:World}{A:Around}{E:Value->Shared->Prop}{h:Heap}{g:Array GenState}{d:Drawn}{t:Nat}{os:OsState}{C C1 fI e:Addr}{oe:Obj}{Q:Bool->Shared->Prop}
  (T:Two h C C1 fI) (hB:∃nm q N bs bm hd sn sub ab col dd k0 k1 k2 k3 k5 nid,h.get? C1=some (excClassObj nm q C1 N bs bm hd sn sub ab col dd k0 k1 k2 k3 k5 nid)/\bm.contains (.type "BaseException")=true) (he:h.get? e=some oe) (hcls:oe.cls=.ref C)
  (hq:Q true ⟨h,g,d,t,os⟩):wpAny (model prog w) A (excMatches (.ref e) (.ref C1)) Q E ⟨h,g,d,t,os⟩:=by
 obtain⟨nm,q,N,bs,sn,sub,ab,col,dd,k0,k1,k2,k3,k5,mN,hC,_,_⟩:=T.c
 obtain⟨nm',q',N',bs',bm',hd',sn',sub',ab',col',dd',k0',k1',k2',k3',k5',nid,hC1,hbm⟩:=hB
 have hcB:(Value.ref C1::bm').contains (.type "BaseException")=true:=by rw[List.contains_cons,hbm,Bool.or_true]
 have hcC:(Value.ref C::[Value.ref C1,.type "ValueError",.type "Exception",.type "BaseException",.type "object"]).contains (.ref C1)=true:=by simp
 have f:=tc_notTuple
 unfold excMatches
 repeat (first | (with_reducible refine wpAny_loadPart_at he ?_;rw[hcls]) | with_reducible refine wpAny_loadPart_at hC1 ?_ | (with_reducible refine wpAny_isSubtype_exc hC1 ?_;rw[hcB]) | (with_reducible refine wpAny_isSubtype_exc hC ?_;rw[hcC]) | wp_step)
 exact hq
end L2
set_option maxHeartbeats 0
namespace L2
open PySem PySem.Spec PyProof.Rows
noncomputable def BodyOf (X:Cx)(st:Stmt)(c:Expr)(i:Option Nat):Prop:=∀(E':Value->Shared->Prop) (pins:List (Addr×Obj)) (s:Shared) (σ:St) (H:Hp) (D:Ends) (Q:VK),Inv X pins σ H s ->
 (∀v H1,Q v H1->D.nx (match i with | some i=>σ.set i (some v) | none=>σ) H1)->wpAny (model X.prog X.w) X.A (eval c X.env) (EP X pins σ Q) E' s->wpAny (model X.prog X.w) X.A (execs [st] X.env) (SP X pins D) E' s
section
variable {X:Cx}{c:Expr}{pos:Pos}
theorem bo_expr (hs:swapsWith c none pos.line X.env=pure false:=by rfl):BodyOf X (.Expr c pos) c none:=fun E' pins s σ H D Q I hq h =>
 wpAny_execs_cons (wpAny_Expr_any (thn h fun v s1 ⟨x,H1,I1,r1,q1⟩=>wpAny_execs_nil ⟨σ,H1,I1,hq _ _ q1⟩) I.quiet hs)
end
end L2
namespace M
open PySem PySem.Spec L2
noncomputable def setO (i:Option Nat)(d:D)(env:MEnv):MEnv:=match i with | some i=>env.set i (some d) | none=>env
noncomputable def tryS (i:Option Nat)(ie iy:Nat)(F:FD)(dd:List D)(mA:MA)(ok:String->Bool):MS:=fun env st=>match mA env st with
 | .ok as st1=>(match F (as++dd) st1 with
  | .ok d st2=>.ok (.nx (setO i d env)) st2
  | .err x st2=>if ok x.cls then .ok (.nx ((env.set iy (some (.loc st2.length))).set ie none)) (st2++[.exc x.cls x.fld]) else .bad
  | .bad=>.bad)
 | _=>.bad
section
variable {K:PySem.W.Frag}{μ:List Addr}{H:Hp}{st:Stor}{dx e:Addr}{od oe:Obj}{fs:List (Str×V)}
theorem RepO.notXd {a:Addr}{o:MO}(h:RepO K μ H a o)(hm:o.mut=true):H a≠some (.xd fs):=by
 cases o with
 | lst ds=>obtain⟨xs,h1,_⟩:=h;rw[h1];intro z;cases z
 | frz ds=>cases hm
 | dic kvs=>obtain⟨xs,h1,_⟩:=h;rw[h1];intro z;cases z
 | dkc kvs=>obtain⟨xs,h1,_⟩:=h;rw[h1];intro z;cases z
 | dkf kvs=>cases hm
 | dtf kvs=>cases hm
 | ins c fs=>obtain⟨_,_,_,_,h1,_⟩:=h;rw[h1];intro z;cases z
 | tab x=>obtain⟨_,_,h1,_⟩:=h;rw[h1];intro z;cases z
 | clo j l ds=>cases hm
 | exc c d=>cases hm
 | hid=>cases hm
theorem Grow.freeze (hdx:H dx=some (.xd fs)):Grow μ H μ (upd H dx (.frz od (.xd fs))) :=
 ⟨⟨[],by simp⟩,⟨fun b xs q=>by rw[zai (ne_of q hdx (by intro z;cases z))];exact q,fun b o u q=>by rw[zai (ne_of q hdx (by intro z;cases z))];exact q⟩⟩
theorem RepS.freeze (h:RepS K μ H st)(hdx:H dx=some (.xd fs)):RepS K μ (upd H dx (.frz od (.xd fs))) st :=
 ⟨h.len,fun n o e=>let ⟨a,h1,h2⟩:=h.at_ n o e;⟨a,h1,h2.keep (Grow.freeze hdx) fun hm u q=>by rw[zai (fun z=>h2.notXd hm (by rw[z];exact hdx))];exact q⟩,h.uniq⟩
theorem RepS.tag {c:String}{d:D}{v:V}{C:Addr}{vs:Array Value}(h:RepS K μ H st)(he:H e=none)(hdx:H dx=some (.xd [("at",v)]))(hc:oe.cls=.ref C)(hd:oe.dict=some dx)(hf:oe.data=.fields vs)(hn:PySem.W.nsIn K mainGlobals (c:Str)=some (some (.ref C)))(hv:RepV K μ H d v) :
  Grow μ H (μ++[e]) (upd (upd H dx (.frz od (.xd [("at",v)]))) e (.frz oe (.own 0)))/\RepS K (μ++[e]) (upd (upd H dx (.frz od (.xd [("at",v)]))) e (.frz oe (.own 0))) (st++[.exc c d]):=by
 have ne:e≠dx:=fun z=>by rw[z,hdx]at he;cases he
 have he1:upd H dx (.frz od (.xd [("at",v)])) e=none:=by rw[zai ne];exact he
 have g1:Grow μ H μ (upd H dx (.frz od (.xd [("at",v)]))):=Grow.freeze hdx
 have g2:Grow μ (upd H dx (.frz od (.xd [("at",v)]))) (μ++[e]) (upd (upd H dx (.frz od (.xd [("at",v)]))) e (.frz oe (.own 0))):=Grow.new he1
 refine⟨g1.trans g2,(h.freeze hdx).new he1 ⟨oe,C,dx,od,v,vs,zah,hc,hd,hf,?_,hn,(hv.mono g1 d).mono g2 d⟩⟩
 rw[zai (Ne.symm ne),zah]
end
section
variable {X:Cx}{e:Expr}{es:List Expr}{mA:MA}{pos p p1 p2 p3 p4 p5 p6:Pos}{x c1 n y:Str}{k:Nat}{f C1:Addr}{fd:FuncData}{ps:List Str}{F:FD}{dvs:List V}{ds:List Value}{dd:List D}{bst:Stmt}{i:Option Nat}{ie iy:Nat}{ok:String->Bool}
theorem js_try (O:Own X)(G:FnOk X.prog X.w X.K X.mg X.base (CXM X.prog X.w) k f fd ps (spX X.K ps.length F))(hr:Room k X.A)(hm:X.mg x=some (.ref f))(hk:PySem.W.keepIn X.K (.ref f)=true)(hb:Binds X.K fd ps ds)(hd:Vals dvs ds)
  (hdd:∀μ H,RepVs X.K μ H dd dvs) (ha:JA X.nox (e::es) mA) (hBo:BodyOf X bst (.Call (.Name x p) (e::es) [] pos) i) (hN:X.N.Nodup) (hie:X.N[ie]? = some n) (hke:X.env.scope.names.lookup n=some .local) (hiy:X.N[iy]? = some y) (hky:X.env.scope.names.lookup y=some .local)
  (hT:∀c C,ok c=true->PySem.W.nsIn X.K mainGlobals (c:Str)=some (some (.ref C))->∃fI,∀h,X.K.In h->Two h C C1 fI)
  (hB:∀h,X.K.In h->∃nm q N bs bm hd sn sub ab col dd k0 k1 k2 k3 k5 nid,h.get? C1=some (excClassObj nm q C1 N bs bm hd sn sub ab col dd k0 k1 k2 k3 k5 nid)/\bm.contains (.type "BaseException")=true)
  (hgc:Gl X c1) (hmc:X.mg c1=some (.ref C1)) (hlen:(e::es).length+dvs.length=ps.length:=by rfl) (hg:Gl X x:=by rfl) (hdb:(x==("__debug__":Str))=false:=by decide) (hdb1:(c1==("__debug__":Str))=false:=by decide)
  (hdn:(n==("__debug__":Str))=false:=by decide) (hcn:(n==("__classdict__":Str))=false:=by decide)
  (he:starEach (e::es) X.env=(false,eval e X.env)::starEach es X.env:=by rfl) (hpl:(backTo pos (starEach es X.env)).any (·.1)=false:=by rfl)
  (hA:∀env st as st1,mA env st=.ok as st1->as.length=(e::es).length:=by intros;rfl) :
  JS X (.Try [bst] [.ExceptHandler (some (.Name c1 p1)) (some n) [.Assign [.Name y p2] (.Name n p3) p4] p5] [] [] p6) (tryS i ie iy F dd mA ok):=by
 rintro pins s σ H D I ⟨μ,env,st,hE,hs,hp⟩
 unfold tryS at hp
 cases hr2:mA env st with
 | bad=>rw[hr2]at hp;exact hp.elim
 | err y st1=>rw[hr2]at hp;exact hp.elim
 | ok as st1 =>
  rw[hr2]at hp
  dsimp only at hp
  cases hF:F (as++dd) st1 with
  | bad=>rw[hF]at hp;exact hp.elim
  | ok d st2 =>
   rw[hF]at hp
   have hcall:wpAny (model X.prog X.w) X.A (eval (.Call (.Name x p) (e::es) [] pos) X.env) (EP X pins σ (fun v H1=>∃μ',Grow μ H μ' H1/\RepS X.K μ' H1 st2/\RepV X.K μ' H1 d v)) (fun _ _=>False) s:=by
    refine zh3 (t:=tMA X.nox mA) (E':=fun _ _=>False) G hr hg hm hk hb hd (PA.nox (X:=X.wish fun _ _=>False) ha) I ⟨μ,env,st,hE,hs,?_⟩ hdb he hpl
    rw[hr2]
    intro vs H1 μ1 g1 hs1 hv
    have hv':RepVs X.K μ1 H1 (as++dd) (vs++dvs):=hv.append (hdd μ1 H1)
    have hl2:(vs++dvs).length=ps.length:=by rw[List.length_append,<-hv.length,hA env st as st1 hr2];exact hlen
    refine⟨fun _ _ _=>False,⟨hl2,μ1,as++dd,st1,hv',hs1,?_⟩,?_⟩
    ·rw[hF];exact fun v H' μ' g hs' hv=>⟨μ',g1.trans g,hs',hv⟩
    ·rintro s1 ev s' I1 ⟨_,_,_,_,_,_,_,_,_,_,_,_,z⟩
     exact z.elim
   refine wpAny_Try_except (wpAny_mono (hBo (fun _ _=>False) pins s σ H D _ I ?_ hcall) (fun fl s1 q=>?_) fun _ _ z=>z.elim)
   ·rintro v H1 ⟨μ',g,hs',hv⟩
    refine hp _ H1 μ' g hs' ?_
    cases i with
    | none=>exact hE.mono g
    | some i=>exact (hE.mono g).set hv
   ·cases fl with
    | next=>exact wpAny_execs_nil q
    | ret v=>exact q
    | brk=>exact q
    | cont=>exact q
  | err z st2 =>
   rw[hF]at hp
   dsimp only at hp
   by_cases hok:ok z.cls=true
   ·rw[if_pos hok]at hp
    have hcall:wpAny (model X.prog X.w) X.A (eval (.Call (.Name x p) (e::es) [] pos) X.env) (EP X pins σ (fun v H1=>False)) (fun ev s1=>∃a C dx v lo fl H' μ',ev=.ref a/\X.s₀.heap.objs.size<=lo/\(∀p∈X.pn++pins,p.1<lo)/\Inv X pins σ H' s1/\Xo lo a C dx fl H' s1.heap/\H' dx=some (.xd [("at",v)])/\PySem.W.nsIn X.K mainGlobals (z.cls:Str)=some (some (.ref C))/\RepV X.K μ' H' z.fld v/\Grow μ H μ' H'/\RepS X.K μ' H' st2) s:=by
     refine zh3 (t:=tMA X.nox mA) G hr hg hm hk hb hd (PA.nox (X:=X.wish _) ha) I ⟨μ,env,st,hE,hs,?_⟩ hdb he hpl
     rw[hr2]
     intro vs H1 μ1 g1 hs1 hv
     have hv':RepVs X.K μ1 H1 (as++dd) (vs++dvs):=hv.append (hdd μ1 H1)
     have hl2:(vs++dvs).length=ps.length:=by rw[List.length_append,<-hv.length,hA env st as st1 hr2];exact hlen
     refine⟨xkOf X μ1 H1 z st2,⟨hl2,μ1,as++dd,st1,hv',hs1,by rw[hF];exact fun C dx v H' μ' g hs' hdx hns hv=>⟨C,dx,v,μ',rfl,rfl,g,hs',hdx,hns,hv⟩⟩,?_⟩
     rintro s1 ev s' I1 ⟨a,C,dx,v,H',rfl,hos,hb,un,hok,hdx,x,C',dx',v',μ',e1,e2,g,hs',hdx',hns,hv3⟩
     cases e1;cases e2
     exact⟨a,C,dx,v',_,_,H',μ',rfl,I1.sz,fun p hp=>Heap.lt_size (I1.pin p hp).1,I1.call' (ch:=[]) hos un hok hb (fun b hb=>absurd hb (by simp)),x,hdx',hns,hv3,g1.trans g,hs'⟩
    refine wpAny_Try_except (wpAny_mono (hBo _ pins s σ H D _ I (fun _ _ z=>z.elim) hcall) (fun fl s1 q=>?_) fun ev s1 q=>?_)
    ·cases fl with
     | next=>exact wpAny_execs_nil q
     | ret v=>exact q
     | brk=>exact q
     | cont=>exact q
    obtain⟨a,C,dx,v,lo,fl,H',μ',rfl,hlo,hpp,I1,x,hdx,hns,hv,g,hs'⟩:=q
    refine note_x I1 O hpp hlo x fun h2 I2 x2=>?_
    refine zgu (fr:=none) I2 O hpp hlo x2 fun h3 I3 x3=>?_
    obtain⟨fI,hT2⟩:=hT _ _ hok hns
    obtain⟨hp1,gn1,d1,t1,os1⟩:=s1
    obtain⟨_,_,oe,vs,ho,hc,hdx2,hfd,hz,_⟩:=id x3
    have O':Own (X.mark (.ref a)):=⟨O.stk,O.frm,O.pn⟩
    refine wpAny_handleBy_cons ?_ (by simp[byPass])
    refine codeAny_handlers_test (zga (X:=X.mark (.ref a)) (I3.mark _) hgc hmc ?_ hdb1)
    refine match2 (hT2 h3 I3.kIn) (hB _ I3.kIn) ho hc ?_
    refine codeAny_handlers_suite_as (zgu (X:=X.mark (.ref a)) (fr:=none) (I3.mark _) O' hpp hlo x3 fun h4 I4 x4=>?_)
    obtain⟨q1,q2,oe4,vs4,ho4,hc4,hdx4,hfd4,hz4,_⟩:=id x4
    obtain⟨od,hod⟩:∃od,h4.get? dx=some od:=by
     obtain⟨mA,⟨o,es,ep,h1,h2⟩,_⟩:=(show ObjOk X.prog X.w H' h4 dx (.xd _) from I4.hok dx _ hdx)
     exact⟨o,h1⟩
    have I5:=I4.tag hpp hlo q1 q2 ho4 hfd4 hdx hod
    obtain⟨gT,sT⟩:=hs'.tag (oe:=oe4) (od:=od) (c:=z.cls) (d:=z.fld) q2 hdx hc4 hdx4 hfd4 hns hv
    refine zid (X:=X.mark (.ref a)) I5 hN hie (.inl hke) (v:=.ref a) rfl (fun s6 I6=>?_) (.inr hke)
    have hps:PSs (X.mark (.ref a)).nox [.Assign [.Name y p2] (.Name n p3) p4] _:=zkz (ps_set (X:=(X.mark (.ref a)).nox) hN hiy (.inl hky) (pe_var hie (.inl hke) hdn hcn) rfl (.inr hky))
    have hil:ie<σ.length:=by rw[I.len];exact (List.getElem?_eq_some_iff.mp hie).1
    refine wpAny_mono (hps pins s6 _ _ { nx:=fun σ' H2=>σ'=(σ.set ie (some (.ref a))).set iy (some (.ref a))/\H2=upd (upd H' dx (.frz od (.xd [("at",v)]))) a (.frz oe4 (.own 0)),rt:=fun _ _=>False } (I6.wish _) ⟨.ref a,by rw[List.getElem?_set_self hil],rfl,rfl⟩) (fun fl s7 q=>?_) fun _ _ z=>z.elim
    cases fl with
    | ret v=>obtain⟨_,_,_,_,_,q⟩:=q;exact q.elim
    | brk=>obtain⟨_,_,_,q⟩:=q;exact q.elim
    | cont=>obtain⟨_,_,_,q⟩:=q;exact q.elim
    | next =>
     obtain⟨σ7,H7,I7,rfl,rfl⟩:=q
     refine goes_ok (X:=X) (I7.unwish.unmark I.ok) hN hie hke fun s8 _ I8=>⟨_,_,I8,?_⟩
     refine hp _ _ _ (g.trans gT) sT ?_
     have hE2:=hE.mono (g.trans gT)
     refine⟨by simp[hE2.len],fun j d0 ej=>?_⟩
     by_cases j1:ie=j
     ·subst j1
      rw[List.getElem?_set_self (by simpa[hE2.len] using hil)]at ej;cases ej
     ·rw[List.getElem?_set_ne j1]at ej ⊢
      by_cases j2:iy=j
      ·subst j2
       have hl:iy<env.length:=by have:=(List.getElem?_eq_some_iff.mp ej).1;simpa using this
       rw[List.getElem?_set_self hl]at ej
       cases ej
       refine⟨.ref a,by rw[List.getElem?_set_self (by simpa[<-hE2.len] using hl)],RepV.loc_iff.mpr ⟨a,?_,rfl⟩⟩
       rw[<-hs'.len];simp
      ·rw[List.getElem?_set_ne j2]at ej
       rw[List.getElem?_set_ne j2,List.getElem?_set_ne j1]
       exact hE2.at_ j d0 ej
   ·rw[if_neg hok]at hp;exact hp.elim
end
end M
set_option maxHeartbeats 0
namespace L2
open PySem PySem.Spec PyProof.Rows PySem.W
noncomputable def nsOkIn (K:Frag)(N:Addr)(no:List Str)(init:Option Value):Bool:=match K.lookup N with
 | some ⟨_,_,.dict es _,_⟩=>es.toList.all (fun e=>match e.key with | .str _ _=>true | _=>false) && no.all (fun x=>(nsFind es x).isNone) && (match init with | none=>true | some v=>nsFind es "__init__" == some v)
 | _=>false
theorem nsOkIn_ok {K:Frag}{h:Heap}{N:Addr}{no:List Str}{init:Option Value}(X:K.In h)(q:nsOkIn K N no init=true):∃mN,h.Ns N mN/\(∀x∈no,mN x=none)/\∀v,init=some v->mN "__init__" = some v:=by
 unfold nsOkIn at q
 split at q
 ·rename_i cl d es ep sl ho
  simp only[Bool.and_eq_true]at q
  obtain⟨⟨q1,q2⟩,q3⟩:=q
  refine⟨nsFind es,⟨_,es,ep,X _ _ ho,rfl,fun e he=>?_,fun _=>rfl⟩,fun x hx=>?_,fun v hv=>?_⟩
  ·have:=List.all_eq_true.mp q1 e (by simpa using he)
   split at this
   ·rename_i n t hk;exact⟨n,t,hk⟩
   ·cases this
  ·simpa using List.all_eq_true.mp q2 x hx
  ·subst hv
   simpa using q3
 ·cases q
noncomputable def xcIn (K:Frag)(C:Addr)(bm0:Option (List Value))(no:List Str)(init:Option Value):Bool:=match K.lookup C with
 | some ⟨.type "type",_,.cls cd,sl⟩=>(match cd.mro,sl.toList with
  | .ref C'::bm,[_,_,_,_,some (.builtin n),_]=>C'==C && !cd.hasDel && (match bm0 with | none=>true | some b=>cd.hasDict && n == "ValueError.__new__" && bm==b) && nsOkIn K cd.ns no init
  | _,_=>false)
 | _=>false
theorem xcIn_ok {K:Frag}{h:Heap}{C:Addr}{bm0:Option (List Value)}{no:List Str}{init:Option Value}(X:K.In h)(q:xcIn K C bm0 no init=true):∃nm qn N bs bm hdct sn sub ab col dd k0 k1 k2 k3 k5 newId mN,
  h.get? C=some (excClassObj nm qn C N bs bm hdct sn sub ab col dd k0 k1 k2 k3 k5 newId)/\h.Ns N mN/\(∀x∈no,mN x=none)/\(∀v,init=some v->mN "__init__" = some v)/\∀b,bm0=some b->bm=b/\hdct=true/\newId = "ValueError.__new__":=by
 unfold xcIn at q
 split at q
 ·rename_i dd cd sl ho
  split at q
  ·rename_i C' bm k0 k1 k2 k3 n k5 hm hs
   simp only[Bool.and_eq_true,beq_iff_eq,Bool.not_eq_true']at q
   obtain⟨⟨⟨rfl,hdel⟩,hb⟩,hns⟩:=q
   obtain⟨nm,bs,mro,ns,qn,hd,sn,sub,ab,col,del⟩:=cd
   dsimp only at hm hdel hb hns
   subst hm hdel
   have hsl:sl=#[k0,k1,k2,k3,some (.builtin n),k5]:=by
    obtain⟨l⟩:=sl
    simp only at hs
    rw[hs]
   subst hsl
   obtain⟨mN,n1,n2,n3⟩:=nsOkIn_ok X hns
   refine⟨nm,qn,ns,bs,bm,hd,sn,sub,ab,col,dd,k0,k1,k2,k3,k5,n,mN,X _ _ ho,n1,n2,n3,fun b e=>?_⟩
   subst e
   simp only[Bool.and_eq_true,beq_iff_eq]at hb
   exact⟨hb.2,hb.1.1,hb.1.2⟩
  ·cases q
 ·cases q
noncomputable def fnIn (K:Frag)(f:Addr):Bool:=match K.lookup f with
 | some ⟨.type "function",_,_,_⟩=>true
 | _=>false
noncomputable def twoIn (K:Frag)(C C1 fI:Addr):Bool :=
 xcIn K C (some [.ref C1,.type "ValueError",.type "Exception",.type "BaseException",.type "object"]) [("__init__":Str),"at","__setattr__","__getattribute__","__getattr__","__class__"] none &&
 xcIn K C1 none [("at":Str),"__setattr__","__getattribute__","__getattr__","__class__"] (some (.ref fI)) && fnIn K fI
theorem two_ok {K:Frag}{h:Heap}{C C1 fI:Addr}(q:twoIn K C C1 fI=true)(X:K.In h):Two h C C1 fI:=by
 unfold twoIn at q
 simp only[Bool.and_eq_true]at q
 obtain⟨⟨q1,q2⟩,q3⟩:=q
 obtain⟨nm,qn,N,bs,bm,hd,sn,sub,ab,col,dd,k0,k1,k2,k3,k5,nid,mN,a1,a2,a3,a4,a5⟩:=xcIn_ok X q1
 obtain⟨rfl,rfl,rfl⟩:=a5 _ rfl
 obtain⟨nm',qn',N',bs',bm',hd',sn',sub',ab',col',dd',k0',k1',k2',k3',k5',nid',mN',b1,b2,b3,b4,_⟩:=xcIn_ok X q2
 refine⟨⟨nm,qn,N,bs,sn,sub,ab,col,dd,k0,k1,k2,k3,k5,mN,a1,a2,a3⟩,⟨nm',qn',N',bs',bm',hd',sn',sub',ab',col',dd',k0',k1',k2',k3',k5',nid',mN',b1,b2,b4 _ rfl,b3⟩,?_⟩
 unfold fnIn at q3
 split at q3
 ·rename_i ho;exact⟨_,X _ _ ho,rfl⟩
 ·cases q3
theorem kitx_exc {K:Frag}{a C C1 fI:Addr}{o:Obj}(hT:∀h,K.In h->Two h C C1 fI)(hc:o.cls=.ref C):KitX K (.ref a) (.ref C) (fun h=>h.get? a=some o) where
 ty:=fun M h _ p=>hc ▸ (Looks.ld p).andThen .now
 it:=fun _ h X _=>by
  obtain⟨nm,q,N,bs,sn,sub,ab,col,dd,k0,k1,k2,k3,k5,mN,hC,_⟩:=(hT h X).c
  intro A' Q' E' s' k q
  unfold isType loadHead
  exact wpAny_bind (wpAny_loadPart (k _ _ hC) (wpAny_pure q))
 ne:=fun h tp dd its n sl X htp=>by
  obtain⟨nm,q,N,bs,sn,sub,ab,col,dd,k0,k1,k2,k3,k5,mN,hC,_⟩:=(hT h X).c
  refine Bool.eq_false_iff.mpr fun q=>?_
  have e:C=tp:=Value.ref.inj (beq_iff_eq.mp q)
  subst e
  have z:=congrArg Obj.cls (Option.some.inj (hC.symm.trans htp))
  exact absurd z (by intro w;injection w with w;exact absurd w (by decide))
 ca:=fun {prog w A E Q s} X p k=>by
  obtain⟨h,g,d,t,os⟩:=s
  exact cls2 (hT h X) p hc k
end L2
namespace M
open PySem PySem.Spec L2
noncomputable def exCls (c:String):Bool:=c == "NoProgram" || c == "NoTree"
noncomputable def subX (c T:String):Bool:=c==T || T == "OneError" || T == "ValueError"
noncomputable def isXV (T:String):D->Stor->R D:=fun d st=>match d with
 | .loc n=>(match st[n]? with
  | some (.exc c _)=>if exCls c then .ok (.bl (subX c T)) st else .bad
  | _=>.bad)
 | _=>.bad
noncomputable def atV:D->Stor->R D:=fun d st=>match d with
 | .loc n=>(match st[n]? with
  | some (.exc c (.int i))=>if exCls c then .ok (.int i) st else .bad
  | _=>.bad)
 | _=>.bad
noncomputable def noCls (K:PySem.W.Frag)(x:Str):Bool:=match PySem.W.nsIn K mainGlobals x with
 | some (some (.ref _))=>false
 | _=>true
theorem zkr {K:PySem.W.Frag}{x:Str}{C:Addr}(h:noCls K x=true)(e:PySem.W.nsIn K mainGlobals x=some (some (.ref C))):False:=by
 unfold noCls at h
 rw[e]at h;cases h
structure ExcK (K:PySem.W.Frag)(C1 fI CP CT:Addr):Prop where
 nP:PySem.W.nsIn K mainGlobals (("NoProgram":String):Str)=some (some (.ref CP))
 nT:noCls K (("NoTree":String):Str)=true
 tP:twoIn K CP C1 fI=true
 b1:PySem.W.ktsIn K C1 "BaseException" = true
 kPV:PySem.W.kitOne K (.ref CP) (.type "ValueError")=some true
section
variable {K:PySem.W.Frag}{C1 fI CP CT:Addr}
theorem kit_self {v:Value}:PySem.W.kitOne K v v=some true:=by unfold PySem.W.kitOne;rw[if_pos (by simp)]
theorem zgb {c:String}(h:exCls c=true):c = "NoProgram"\/c = "NoTree":=by simpa[exCls] using h
theorem ExcK.two (k:ExcK K C1 fI CP CT){c:String}{C:Addr}(h:exCls c=true)(hn:PySem.W.nsIn K mainGlobals (c:Str)=some (some (.ref C))):∀h,K.In h->Two h C C1 fI:=by
 rcases zgb h with rfl | rfl
 ·rw[k.nP]at hn;cases hn;exact fun h X=>two_ok k.tP X
 ·exact (zkr k.nT hn).elim
theorem ExcK.bse (k:ExcK K C1 fI CP CT)(h:Heap)(X:K.In h):∃nm q N bs bm hd sn sub ab col dd k0 k1 k2 k3 k5 nid,h.get? C1=some (excClassObj nm q C1 N bs bm hd sn sub ab col dd k0 k1 k2 k3 k5 nid)/\bm.contains (.type "BaseException")=true:=by
 obtain⟨nm,qn,N,bs,bm,hdct,sn,sub,ab,col,dd,k0,k1,k2,k3,k5,newId,h1,h2,_⟩:=PySem.W.kts_cls X k.b1
 exact⟨nm,qn,N,bs,bm,hdct,sn,sub,ab,col,dd,k0,k1,k2,k3,k5,newId,h1,h2⟩
noncomputable def KitT (K:PySem.W.Frag)(CP CT:Addr)(T:String)(cv:Value):Prop:=(T = "NoProgram"/\cv=.ref CP)\/False\/(T = "ValueError"/\cv=.type "ValueError")
theorem ExcK.kit (k:ExcK K C1 fI CP CT){c T:String}{C:Addr}{cv:Value}(h:exCls c=true)(hn:PySem.W.nsIn K mainGlobals (c:Str)=some (some (.ref C)))(ht:KitT K CP CT T cv):PySem.W.kitOne K (.ref C) cv=some (subX c T):=by
 rcases zgb h with rfl | rfl
 ·rw[k.nP]at hn;cases hn
  rcases ht with⟨rfl,rfl⟩ | f | ⟨rfl,rfl⟩
  ·exact kit_self
  ·exact f.elim
  ·exact k.kPV
 ·exact (zkr k.nT hn).elim
end
section
variable {X:Cx}{e:Expr}{ma:ME}{p p2 pos:Pos}{C1 fI CP CT:Addr}
noncomputable def rIx (X:Cx)(T:String)(cv:V):List V->Hp->VK->Prop:=fun xs H Q=>∃μ st d x,xs=[x,cv]/\RepS X.K μ H st/\RepV X.K μ H d x/\Post X μ H (relV X) Q (isXV T d st)
theorem call_isX {T:String}{cv:V}{cu:Value}(k:ExcK X.K C1 fI CP CT)(ht:KitT X.K CP CT T cu)(hcv:∀u,RelV cv u->u=cu):CallR X (.builtin "isinstance") (rIx X T cv):=by
 rintro pins s σ H xs us Q I hr ⟨μ,st,d,x,rfl,hs,hd,hp⟩
 obtain⟨u,w',rfl,r1,r2⟩:=vals2 hr
 cases hcv _ r2
 unfold isXV at hp
 split at hp
 ·rename_i n
  split at hp
  ·rename_i c d2 e1
   split at hp
   ·rename_i hc
    obtain⟨a,q1,rfl⟩:=RepV.loc_iff.mp hd
    obtain⟨a',r3,oe,C,dx,od,v,fs,h1,h2,h3,h4,h5,h6,h7⟩:=hs.at_ n _ e1
    rw[q1]at r3;cases r3
    cases (show u=Value.ref a from r1)
    have ho:s.heap.get? a=some oe:=(show ObjOk X.prog X.w H s.heap a (.frz oe (.own 0)) from I.hok a _ h1).1
    exact PySem.W.kia_one (kitx_exc (k.two hc h6) h2) I.kIn ho (k.kit hc h6 ht) (fun z=>nomatch z) fun tk=>⟨.bl (subX c T),H,I.tok tk,rfl,hp.ret hs (RepV.bl_iff.mpr rfl)⟩
   ·exact hp.elim
  ·exact hp.elim
 ·exact hp.elim
theorem je_isX {T:String}{cv:V}{cu:Value}{xT:Str}(k:ExcK X.K C1 fI CP CT)(ht:KitT X.K CP CT T cu)(hcv:∀u,RelV cv u->u=cu)(hT:PE X (.Name xT p2) (tC cv))(h:JE X e ma)(hg:Gl X "isinstance")(hm:X.mg "isinstance" = none)
  (hb:bootBuiltins "isinstance" = some (.builtin "isinstance"))
  (hs1:starEach [e,.Name xT p2] X.env=[(false,eval e X.env),(false,eval (.Name xT p2) X.env)]:=by rfl) (hs2:starEach [.Name xT p2] X.env=[(false,eval (.Name xT p2) X.env)]:=by rfl) (hpl:(backTo pos (starEach [.Name xT p2] X.env)).any (·.1)=false:=by rfl) :
  JE X (.Call (.Name "isinstance" p) [e,.Name xT p2] [] pos) (op1 (isXV T) ma):=by
 refine JE.of (zie (call_isX k ht hcv) hg hm hb (zfe h (zfe hT pa_nil hs2) hs1) (by decide) (by decide) hs1 hpl) fun σ H Q zz=>?_
 obtain⟨μ,env,st,hE,hs,hp⟩:=zz
 refine⟨μ,env,st,hE,hs,(Post.bind hp).imp ?_⟩
 rintro x H1 ⟨μ1,st1,d,g1,hs1,hx,hp1⟩
 exact⟨μ1,st1,d,x,rfl,hs1,hx,hp1⟩
theorem je_isXc {T:String}{C:Addr}{xT:Str}(k:ExcK X.K C1 fI CP CT)(ht:KitT X.K CP CT T (.ref C))(hgT:Gl X xT)(hmT:X.mg xT=some (.ref C))(h:JE X e ma)(hg:Gl X "isinstance")(hm:X.mg "isinstance" = none)
  (hb:bootBuiltins "isinstance" = some (.builtin "isinstance")) (hdT:(xT==("__debug__":Str))=false:=by decide)
  (hs1:starEach [e,.Name xT p2] X.env=[(false,eval e X.env),(false,eval (.Name xT p2) X.env)]:=by rfl) (hs2:starEach [.Name xT p2] X.env=[(false,eval (.Name xT p2) X.env)]:=by rfl) (hpl:(backTo pos (starEach [.Name xT p2] X.env)).any (·.1)=false:=by rfl) :
  JE X (.Call (.Name "isinstance" p) [e,.Name xT p2] [] pos) (op1 (isXV T) ma):=je_isX (cv:=.ref C) k ht (fun u r=>r) (pe_glob hgT hmT rfl hdT) h hg hm hb hs1 hs2 hpl
theorem je_at (k:ExcK X.K C1 fI CP CT)(he:JE X e ma)(hb:attributeBase e "at" X.env (eval e X.env)=eval e X.env:=by rfl):JE X (.Attribute e "at" pos) (op1 atV ma):=by
 rintro pins s σ H Q I ⟨μ,env,st,hE,hs,hp⟩
 refine attr_of hb (thn (he pins s σ H _ I ⟨μ,env,st,hE,hs,Post.bind hp⟩) fun u s1 zz=>?_)
 obtain⟨x,H1,I1,rx,μ1,st1,d,g1,hs1,hd,hp1⟩:=zz
 unfold atV at hp1
 dsimp only at hp1
 split at hp1
 ·rename_i n
  split at hp1
  ·rename_i c i e1
   split at hp1
   ·rename_i hc
    obtain⟨a,q1,rfl⟩:=RepV.loc_iff.mp hd
    obtain⟨a',r3,oe,C,dx,od,v,fs,h1,h2,h3,h4,h5,h6,h7⟩:=hs1.at_ n _ e1
    rw[q1]at r3;cases r3
    cases (show u=Value.ref a from rx)
    rw[RepV.int_iff]at h7;subst h7
    have ho:s1.heap.get? a=some oe:=(show ObjOk X.prog X.w H1 s1.heap a (.frz oe (.own 0)) from I1.hok a _ h1).1
    obtain⟨_,mA,hns,hl⟩:=(show ObjOk X.prog X.w H1 s1.heap dx (.frz od (.xd _)) from I1.hok dx _ h5)
    have hl2:=hl "at"
    obtain⟨w,hw,rw2⟩:∃w,mA "at" = some w/\RelV (.int i) w:=by
     cases hm:mA "at" with
     | none=>rw[hm]at hl2;exact hl2.elim
     | some w=>rw[hm]at hl2;exact⟨w,rfl,hl2⟩
    obtain⟨h,g,dd,t,os⟩:=s1
    refine load2 (k.two hc h6 _ I1.kIn) ho h2 h4 h3 hns hw ?_ fun tk=>⟨.int i,H1,I1.tok tk,rw2,hp1.ret hs1 (RepV.int_iff.mpr rfl)⟩
    obtain⟨tk,rfl⟩:∃tk,w=.int i tk:=by
     cases w<;>simp[RelV]at rw2
     exact⟨_,by rw[rw2]⟩
    rfl
   ·exact hp1.elim
  ·exact hp1.elim
 ·exact hp1.elim
end
end M
namespace L2
open PySem PySem.Spec PyProof.Rows PySem.Calls
section
variable {X:Cx}
end
end L2
namespace M
open PySem PySem.Spec L2
section
variable {X:Cx}
end
end M
namespace M
end M
namespace L2
open PySem PySem.Spec PyProof.Rows
section
variable {X:Cx}
end
end L2
namespace M
open PySem PySem.Spec L2
end M
namespace M
open PySem PySem.Spec L2
noncomputable def notInSV:D->D->Stor->R D
 | .str [c],.str cs,st=>if cs.length<=1000000 then .ok (.bl (!decide (c∈cs))) st else .bad
 | _,_,_=>.bad
theorem zhg {X:Cx}:OpR X (compareOp .NotIn) (rM X notInSV):=by
 refine OpR.weak zhz ?_
 rintro x y H Q ⟨μ,st,dx,dy,hs,hx,hy,hp⟩
 unfold notInSV at hp
 split at hp
 ·rename_i c cs
  split at hp
  ·obtain rfl:=RepV.str_iff.mp hx
   obtain rfl:=RepV.str_iff.mp hy
   refine⟨_,_,rfl,rfl,?_⟩
   have e:=PySem.StrLaws.found_one (strOf cs) c
   have e2:(strOf [c])=⟨#[c]⟩:=rfl
   rw[e2,e]
   refine hp.ret hs (RepV.bl_iff.mpr ?_)
   simp
  ·exact hp.elim
 ·exact hp.elim
end M
namespace L2
open PySem PySem.Spec PyProof.Rows
section
variable {X:Cx}{a b o:Expr}{ta tb to:TE}{pos:Pos}
end
end L2
namespace L2
open PySem PySem.Spec PyProof.Rows
section
variable {prog:Program}{w:World}{G:Around}{R:Result->Shared->Prop}{it:Addr}{fp wr:List Addr}{n:Nat}{P:Nat->Value->Prop}{Sx:Nat->Heap->Prop}{dv:Value}
end
section
variable {prog:Program}{w:World}{G:Around}{E:Value->Shared->Prop}{z:Shared}
end
end L2
namespace L2
open PySem PySem.Spec PyProof.Rows
section
variable {X:Cx}{a b:Expr}{ta tb:TE}{pos p kp:Pos}{x:Str}
end
end L2
namespace M
open PySem PySem.Spec L2
section
variable {X:Cx}{a b o:Expr}{ma mb mo:ME}{pos p kp:Pos}{x:Str}
end
end M
namespace ST
noncomputable def lf:Nat->Nat->Nat
 | 0,z=>z
 | n+1,z=>lf n (5*z+1)
theorem lf_add (m n z:Nat):lf (m+n) z=lf n (lf m z):=by
 induction m generalizing z with
 | zero=>simp[lf]
 | succ m ih=>rw[Nat.succ_add,lf,ih,lf]
theorem alg (p u z:Nat):(1+4*p*u)*((1+4*p*u)*z+p*u)+p*u=(1+8*p*(u*(1+2*p*u)))*z+2*p*(u*(1+2*p*u)):=by grind
theorem lf_pow (k:Nat):∃u,u % 2=1/\∀z,lf (2 ^ k) z=(1+2 ^ (k+2)*u)*z+2 ^ k*u:=by
 induction k with
 | zero=>exact⟨1,rfl,fun z=>by simp[lf]⟩
 | succ k ih =>
  obtain⟨u,hu,h⟩:=ih
  refine⟨u*(1+2 ^ (k+1)*u),?_,fun z=>?_⟩
  ·rw[Nat.mul_mod,hu]
   have:(1+2 ^ (k+1)*u) % 2=1:=by
    rw[Nat.pow_succ,Nat.mul_comm (2 ^ k) 2,Nat.mul_assoc]
    omega
   rw[this]
  ·rw[show 2 ^ (k+1)=2 ^ k+2 ^ k by rw[Nat.pow_succ];omega,lf_add,h,h]
   have e2:2 ^ (k+2)=4*2 ^ k:=by rw[Nat.pow_add];omega
   have e3:2 ^ (k+1+2)=8*2 ^ k:=by rw[Nat.add_assoc,Nat.pow_add];omega
   rw[e2,e3,show 2 ^ k+2 ^ k=2*2 ^ k by omega]
   exact alg _ _ _
theorem alg2 (p v z:Nat):(1+4*p*(2*v+1))*z+p*(2*v+1)=(z+p)+2*p*(2*(2*v+1)*z+v):=by grind
theorem lf_half (k z:Nat):lf (2 ^ k) z % 2 ^ (k+1)=(z+2 ^ k) % 2 ^ (k+1):=by
 obtain⟨u,hu,h⟩:=lf_pow k
 obtain⟨v,rfl⟩:∃v,u=2*v+1:=⟨u / 2,by omega⟩
 rw[h]
 have e:(1+2 ^ (k+2)*(2*v+1))*z+2 ^ k*(2*v+1)=(z+2 ^ k)+2 ^ (k+1)*(2*(2*v+1)*z+v):=by
  rw[show 2 ^ (k+2)=4*2 ^ k by rw[Nat.pow_add];omega,show 2 ^ (k+1)=2*2 ^ k by rw[Nat.pow_succ];omega]
  exact alg2 _ _ _
 rw[e,Nat.add_mul_mod_self_left]
theorem lf_all (k:Nat):∀x y:Nat,y<2 ^ k->∃n,n<2 ^ k/\lf n x % 2 ^ k=y:=by
 induction k with
 | zero=>intro x y hy;exact⟨0,by simp,by simp at hy;simp[lf,hy,Nat.mod_one]⟩
 | succ k ih =>
  intro x y hy
  have hp:0<2 ^ k:=Nat.pow_pos (by decide)
  have e2:2 ^ (k+1)=2*2 ^ k:=by rw[Nat.pow_succ];omega
  obtain⟨n,hn,e⟩:=ih x (y % 2 ^ k) (Nat.mod_lt _ hp)
  generalize hz:lf n x=z at *
  have hz2:z % 2 ^ (k+1)=y\/(z+2 ^ k) % 2 ^ (k+1)=y:=by
   have hd:z=2 ^ (k+1)*(z / 2 ^ (k+1))+z % 2 ^ (k+1):=(Nat.div_add_mod _ _).symm
   have hr:z % 2 ^ (k+1)<2 ^ (k+1):=Nat.mod_lt _ (Nat.pow_pos (by decide))
   generalize z % 2 ^ (k+1)=r at *
   generalize z / 2 ^ (k+1)=d at *
   have hzm:z % 2 ^ k=r % 2 ^ k:=by
    rw[hd,e2,Nat.mul_assoc,Nat.mul_comm 2 (2 ^ k*d),Nat.mul_assoc]
    exact Nat.mul_add_mod _ _ _
   rw[hzm]at e
   have hzp:(z+2 ^ k) % 2 ^ (k+1)=(r+2 ^ k) % 2 ^ (k+1):=by
    rw[hd,Nat.add_assoc]
    exact Nat.mul_add_mod _ _ _
   have hy':y<2*2 ^ k:=by rw[<-e2];exact hy
   have hr':r<2*2 ^ k:=by rw[<-e2];exact hr
   rw[hzp,e2]
   clear hd hzm hzp hy hr hz
   generalize 2 ^ k=p at *
   by_cases h1:r<p
   ·by_cases h2:y<p
    ·left;rw[Nat.mod_eq_of_lt h1,Nat.mod_eq_of_lt h2]at e;exact e
    ·right
     have:y % p=y - p:=by rw[Nat.mod_eq_sub_mod (by omega),Nat.mod_eq_of_lt (by omega)]
     rw[Nat.mod_eq_of_lt h1,this]at e
     rw[Nat.mod_eq_of_lt (by omega)];omega
   ·have hr2:r % p=r - p:=by rw[Nat.mod_eq_sub_mod (by omega),Nat.mod_eq_of_lt (by omega)]
    by_cases h2:y<p
    ·right
     rw[hr2,Nat.mod_eq_of_lt h2]at e
     rw[Nat.mod_eq_sub_mod (by omega),Nat.mod_eq_of_lt (by omega)];omega
    ·left
     have:y % p=y - p:=by rw[Nat.mod_eq_sub_mod (by omega),Nat.mod_eq_of_lt (by omega)]
     rw[hr2,this]at e;omega
  rcases hz2 with h | h
  ·exact⟨n,by omega,by rw[hz];exact h⟩
  ·refine⟨n+2 ^ k,by omega,?_⟩
   rw[lf_add,hz,lf_half];exact h
end ST
namespace ST
open PySem PySem.SetTable
noncomputable def adv (t:SetTable):Nat->Probe->Probe
 | 0,p=>p
 | n+1,p=>adv t n (t.advance p)
theorem adv_add (t:SetTable)(m n:Nat)(p:Probe):adv t (m+n) p=adv t n (adv t m p):=by
 induction m generalizing p with
 | zero=>simp[adv]
 | succ m ih=>rw[Nat.succ_add,adv,ih,adv]
noncomputable def at0 (t:SetTable)(i pb:Nat)(d:Option Nat):Probe:={ j:=i,more:=runEnd t.mask i - i,i,perturb:=pb,dummy:=d }
theorem run_le (mask i:Nat):runEnd mask i - i<=9:=by unfold runEnd;split<;>omega
theorem adv_run (t:SetTable)(pb:Nat)(d:Option Nat)(i:Nat):∀(m j:Nat),adv t (m+1) { j:=j,more:=m,i,perturb:=pb,dummy:=d }=at0 t (leap t.mask i pb).1 (leap t.mask i pb).2 d
 | 0,j=>by
  rw[adv,adv]
  unfold advance
  rw[if_neg (by simp)]
  rfl
 | m+1,j=>by
  rw[adv]
  have:t.advance { j:=j,more:=m+1,i,perturb:=pb,dummy:=d }={ j:=j+1,more:=m,i,perturb:=pb,dummy:=d }:=by
   unfold advance
   rw[if_pos (by simp)]
   simp
  rw[this]
  exact adv_run t pb d i m (j+1)
noncomputable def lp (mask:Nat):Nat->Nat×Nat->Nat×Nat
 | 0,x=>x
 | n+1,x=>lp mask n (leap mask x.1 x.2)
theorem lp_add (mask m n:Nat)(x:Nat×Nat):lp mask (m+n) x=lp mask n (lp mask m x):=by
 induction m generalizing x with
 | zero=>simp[lp]
 | succ m ih=>rw[Nat.succ_add,lp,ih,lp]
theorem zjc (t:SetTable)(d:Option Nat):∀(l i pb:Nat),∃n,n<=10*l/\adv t n (at0 t i pb d)=at0 t (lp t.mask l (i,pb)).1 (lp t.mask l (i,pb)).2 d
 | 0,i,pb=>⟨0,by simp,rfl⟩
 | l+1,i,pb=>by
  obtain⟨n,hn,e⟩:=zjc t d l (leap t.mask i pb).1 (leap t.mask i pb).2
  have h9:=run_le t.mask i
  refine⟨runEnd t.mask i - i+1+n,by omega,?_⟩
  rw[adv_add]
  have:=adv_run t pb d i (runEnd t.mask i - i) i
  rw[show at0 t i pb d={ j:=i,more:=runEnd t.mask i - i,i,perturb:=pb,dummy:=d } from rfl,this,e]
  rfl
theorem lp_pert (mask:Nat):∀(n:Nat) (x:Nat×Nat),(lp mask n x).2=x.2 / 32 ^ n
 | 0,x=>by simp[lp]
 | n+1,x=>by
  rw[lp,lp_pert mask n]
  show x.2 / 32 / 32 ^ n=_
  rw[Nat.div_div_eq_div_mul,Nat.pow_succ,Nat.mul_comm]
theorem lp_zero (mask:Nat)(hm:0<mask+1):∀(n i:Nat),i<mask+1->(lp mask n (i,0)).1=lf n i % (mask+1)
 | 0,i,h=>by simp[lp,lf,Nat.mod_eq_of_lt h]
 | n+1,i,h=>by
  rw[lp]
  show (lp mask n ((i*5+1+0 / 32) % (mask+1),0 / 32)).1=_
  rw[Nat.zero_div,Nat.add_zero,lp_zero mask hm n _ (Nat.mod_lt _ hm),lf]
  have:∀(n a b:Nat),a % (mask+1)=b % (mask+1)->lf n a % (mask+1)=lf n b % (mask+1):=by
   intro n
   induction n with
   | zero=>intro a b e;exact e
   | succ n ih =>
    intro a b e
    rw[lf,lf]
    refine ih _ _ ?_
    rw[Nat.add_mod,Nat.mul_mod,e,<-Nat.mul_mod,<-Nat.add_mod]
  refine this n _ _ ?_
  rw[Nat.mod_mod,Nat.mul_comm]
theorem leap_lt (mask i pb:Nat):(leap mask i pb).1<mask+1:=Nat.mod_lt _ (Nat.succ_pos _)
theorem zin (mask k:Nat)(hk:mask+1=2 ^ k)(i pb e:Nat)(hpb:pb<2 ^ 64)(he:e<=mask):∃l,l<=mask+13/\(lp mask l (i,pb)).1=e:=by
 have hx:(lp mask 13 (i,pb)).2=0:=by
  rw[lp_pert]
  exact Nat.div_eq_of_lt (Nat.lt_of_lt_of_le hpb (by decide))
 have hl:(lp mask 13 (i,pb)).1<mask+1:=by
  rw[show 13=12+1 from rfl,lp_add mask 12 1]
  exact leap_lt _ _ _
 obtain⟨n,hn,hne⟩:=lf_all k (lp mask 13 (i,pb)).1 e (by omega)
 refine⟨13+n,by omega,?_⟩
 rw[lp_add]
 have:lp mask 13 (i,pb)=((lp mask 13 (i,pb)).1,0):=by rw[<-hx]
 rw[this,lp_zero mask (by omega) n _ hl,hk,hne]
theorem bits_lt (h:Int):bits h<2 ^ 64:=by
 unfold bits
 have:=Int.emod_lt_of_pos h (show (0:Int)<2 ^ 64 by decide)
 have:=Int.emod_nonneg h (show (2 ^ 64:Int)≠0 by decide)
 omega
theorem adv_all (t:SetTable)(k:Nat)(hk:t.mask+1=2 ^ k)(h:Int)(e:Nat)(he:e<=t.mask):∃n,n<10*turns t.mask/\(adv t n (t.probeStart h)).j=e:=by
 obtain⟨l,hl,hle⟩:=zin t.mask k hk (bits h % (t.mask+1)) (bits h) e (bits_lt h) he
 obtain⟨n,hn,hne⟩:=zjc t none l (bits h % (t.mask+1)) (bits h)
 refine⟨n,by unfold turns;omega,?_⟩
 rw[show t.probeStart h=at0 t (bits h % (t.mask+1)) (bits h) none from rfl,hne]
 exact hle
theorem zgz (t:SetTable):∀(n:Nat) (p:Probe),(adv t n p).dummy=p.dummy
 | 0,p=>rfl
 | n+1,p=>by
  rw[adv,zgz t n]
  unfold advance
  split<;>rfl
theorem zhr (t:SetTable)(hd:t.dummies=#[])(j:Nat):t.slot j=.empty\/∃i,t.slot j=.live i/\t.place[i]? = some j:=by
 unfold slot
 dsimp only
 split
 ·rename_i e
  exact .inr ⟨_,rfl,by simpa using e⟩
 ·have:has t.dummies j=false:=by rw[hd];rfl
  rw[this]
  exact .inl rfl
theorem slot_free (t:SetTable)(hd:t.dummies=#[])(j:Nat)(h:j∉t.place):t.slot j=.empty:=by
 rcases zhr t hd j with e | ⟨i,_,e⟩
 ·exact e
 ·exact absurd (Array.mem_of_getElem? e) h
theorem go_met (t:SetTable)(hd:t.dummies=#[])(ha:Nat->Int)(h:Int):∀(fuel n:Nat) (p:Probe),n<fuel->t.slot (adv t n p).j=.empty->p.dummy=none ->
  (∃j,probe.go t ha h fuel p=some (.empty j none)/\t.slot j=.empty) \/
  ∃m i j,m<n/\probe.go t ha h fuel p=some (.candidate j i (adv t (m+1) p))/\t.slot j=.live i/\t.place[i]? = some j/\ha i=h
 | 0,n,p,hn,_,_=>by omega
 | fuel+1,n,p,hn,he,hp=>by
  rw[probe.go]
  rcases zhr t hd p.j with e | ⟨i,e,e2⟩
  ·left
   refine⟨p.j,?_,e⟩
   rw[e,hp]
  ·rw[e]
   dsimp only
   by_cases hq:(ha i==h)=true
   ·rw[if_pos hq]
    right
    refine⟨0,i,p.j,?_,rfl,e,e2,by simpa using hq⟩
    rcases Nat.eq_zero_or_pos n with hz | hz
    ·subst hz
     have he':t.slot p.j=.empty:=he
     rw[e]at he';cases he'
    ·exact hz
   ·rw[if_neg hq]
    cases n with
    | zero =>
     have he':t.slot p.j=.empty:=he
     rw[e]at he';cases he'
    | succ n =>
     have hd2:(t.advance p).dummy=none:=by
      have:=zgz t 1 p
      rw[adv,adv]at this
      rw[this,hp]
     rcases go_met t hd ha h fuel n (t.advance p) (by omega) he hd2 with⟨j,g,s⟩ | ⟨m,i',j,hm,g,s⟩
     ·exact .inl ⟨j,g,s⟩
     ·exact .inr ⟨m+1,i',j,by omega,g,s⟩
theorem zki (t:SetTable)(hs:t.place.size<=t.mask):∃e,e<=t.mask/\e∉t.place:=by
 refine Classical.byContradiction fun hno=>?_
 have hall:∀e,e<=t.mask->e∈t.place.toList:=fun e he=>by
  refine Classical.byContradiction fun hn=>hno ⟨e,he,fun hm=>hn (by simpa using hm)⟩
 have hsub:(List.range (t.mask+1)).length<=t.place.toList.length:=by
  refine List.Nodup.length_le_of_subset (List.nodup_range) fun x hx=>hall x ?_
  have:=List.mem_range.mp hx;omega
 rw[List.length_range]at hsub
 simp at hsub
 omega
end ST
namespace ST
open PySem PySem.SetTable
theorem free_ok (mask:Nat)(owner:Array (Option Nat)):∀(fuel l i pb:Nat),l<fuel->(lp mask l (i,pb)).1<owner.size->owner.getD (lp mask l (i,pb)).1 (some 0)=none->∃j,layClean.free mask owner fuel i pb=some j/\j<owner.size/\owner[j]? = some none
 | 0,l,i,pb,hl,_,_=>by omega
 | fuel+1,l,i,pb,hl,h1,h2=>by
  rw[layClean.free]
  cases hf:(List.range (runEnd mask i+1 - i)).find? fun k=>(owner.getD (i+k) (some 0)).isNone with
  | some k =>
   refine⟨i+k,rfl,?_⟩
   have:=List.find?_some hf
   have hn:owner.getD (i+k) (some 0)=none:=by simpa using this
   have hlt:i+k<owner.size:=by
    refine Classical.byContradiction fun hge=>?_
    rw[Array.getD_eq_getD_getElem?,Array.getElem?_eq_none (by omega)]at hn
    simp at hn
   refine⟨hlt,?_⟩
   rw[Array.getD_eq_getD_getElem?,Array.getElem?_eq_getElem hlt]at hn
   rw[Array.getElem?_eq_getElem hlt]
   simpa using hn
  | none =>
   cases l with
   | zero =>
    have:=List.find?_eq_none.mp hf 0 (List.mem_range.mpr (by have:i<=runEnd mask i:=(by unfold runEnd;split<;>omega);omega))
    have h2':owner.getD i (some 0)=none:=h2
    rw[Nat.add_zero,h2']at this
    simp at this
   | succ l =>
    exact free_ok mask owner fuel l (leap mask i pb).1 (leap mask i pb).2 (by omega) h1 h2
noncomputable def cnt (owner:Array (Option Nat)):Nat:=owner.toList.countP Option.isSome
theorem cnt_set (owner:Array (Option Nat))(j k:Nat)(hj:owner[j]? = some none):cnt (owner.setIfInBounds j (some k))=cnt owner+1:=by
 unfold cnt
 rw[Array.toList_setIfInBounds]
 have hl:owner.toList[j]? = some none:=by simpa using hj
 have hlt:j<owner.toList.length:=(List.getElem?_eq_some_iff.mp hl).1
 have he:owner.toList[j]=none:=(List.getElem?_eq_some_iff.mp hl).2
 rw[List.countP_set hlt,he]
 simp
theorem none_left (owner:Array (Option Nat))(h:cnt owner<owner.size):∃e,e<owner.size/\owner[e]? = some none:=by
 unfold cnt at h
 refine Classical.byContradiction fun hno=>?_
 have hall:∀x∈owner.toList,x.isSome=true:=fun x hx=>by
  obtain⟨i,hi,e⟩:=List.getElem_of_mem hx
  cases x with
  | some y=>rfl
  | none=>exact absurd ⟨i,by simpa using hi,by simp at hi;rw[Array.getElem?_eq_getElem hi];simpa using e⟩ hno
 have:=List.countP_eq_length.mpr hall
 rw[this]at h
 simp at h
structure Lay (mask n:Nat)(owner:Array (Option Nat)):Prop where
 size:owner.size=mask+1
 cnt_:cnt owner=n
 lt:∀(i:Nat) (v:Nat),owner[i]? = some (some v)->v<n
theorem lay_step (mask k:Nat)(hk:mask+1=2 ^ k)(n:Nat)(hn:n<=mask)(owner:Array (Option Nat))(h:Lay mask n owner)(x:Int):∃j,layClean.free mask owner (turns mask) (bits x % (mask+1)) (bits x)=some j/\Lay mask (n+1) (owner.setIfInBounds j (some n)):=by
 obtain⟨e,he,hen⟩:=none_left owner (by rw[h.cnt_,h.size];omega)
 have he2:e<=mask:=by have:=h.size;omega
 obtain⟨l,hl,hle⟩:=zin mask k hk (bits x % (mask+1)) (bits x) e (bits_lt x) he2
 obtain⟨j,h1,h2,h3⟩:=free_ok mask owner (turns mask) l (bits x % (mask+1)) (bits x) (by unfold turns;omega) (by rw[hle];exact he) (by rw[hle,Array.getD_eq_getD_getElem?,hen];rfl)
 refine⟨j,h1,by simpa using h.size,by rw[cnt_set owner j n h3,h.cnt_],fun i v hv=>?_⟩
 rw[Array.getElem?_setIfInBounds]at hv
 split at hv
 ·cases hv;omega
 ·have:=h.lt i v hv;omega
theorem zky (mask k:Nat)(hk:mask+1=2 ^ k):∀(hs:List Int) (owner:Array (Option Nat)) (n:Nat),Lay mask n owner->n+hs.length<=mask+1 ->
  ∃owner',hs.foldl (init:=some (owner,n)) (fun acc h=>do
   let (owner,k) <-acc
   let j <-layClean.free mask owner (turns mask) (bits h % (mask+1)) (bits h)
   pure (owner.setIfInBounds j (some k),k+1))=some (owner',n+hs.length)/\Lay mask (n+hs.length) owner'
 | [],owner,n,h,_=>⟨owner,rfl,h⟩
 | x::hs,owner,n,h,hl=>by
  obtain⟨j,h1,h2⟩:=lay_step mask k hk n (by simp at hl;omega) owner h x
  obtain⟨o,h3,h4⟩:=zky mask k hk hs _ (n+1) h2 (by simp at hl;omega)
  refine⟨o,?_,by rw[List.length_cons,show n+(hs.length+1)=n+1+hs.length by omega];exact h4⟩
  rw[List.foldl_cons,List.length_cons,show n+(hs.length+1)=n+1+hs.length by omega,<-h3]
  congr 1
  show (do let j <-layClean.free mask owner (turns mask) (bits x % (mask+1)) (bits x);pure (owner.setIfInBounds j (some n),n+1))=_
  rw[h1];rfl
theorem lay_clean (mask k:Nat)(hk:mask+1=2 ^ k)(hs:Array Int)(hl:hs.size<=mask+1):∃owner,layClean mask hs=some owner/\Lay mask hs.size owner:=by
 have h0:Lay mask 0 (Array.replicate (mask+1) none):=⟨by simp,by unfold cnt;simp,fun i v hv=>by
  rw[Array.getElem?_replicate]at hv
  split at hv<;>cases hv⟩
 obtain⟨o,h1,h2⟩:=zky mask k hk hs.toList (Array.replicate (mask+1) none) 0 h0 (by simpa using hl)
 simp only[Nat.zero_add,Array.length_toList]at h1 h2
 refine⟨o,?_,h2⟩
 unfold layClean
 rw[<-Array.foldl_toList,h1]
 rfl
theorem zh1 {α β:Type}{f g:α->Option β}:∀{l:List α},(∀a∈l,f a=g a)->l.filterMap f=l.filterMap g
 | [],_=>rfl
 | a::l,h=>by rw[List.filterMap_cons,List.filterMap_cons,h a (by simp),zh1 fun b hb=>h b (by simp[hb])]
theorem live_len (owner:Array (Option Nat))(M:Nat)(hM:owner.size=M):((List.range M).filterMap fun j=>(owner.getD j none).map (j,·)).length=cnt owner:=by
 have e:∀(l:List (Option Nat)) (a:Nat),((List.range' a l.length).filterMap fun j=>((l[j - a]?).getD none).map (j,·)).length=l.countP Option.isSome:=by
  intro l
  induction l with
  | nil=>intro a;simp
  | cons x l ih =>
   intro a
   rw[List.length_cons,List.range'_succ,List.filterMap_cons,List.countP_cons]
   have e2:((List.range' (a+1) l.length).filterMap fun j=>(((x::l)[j - a]?).getD none).map (j,·))=((List.range' (a+1) l.length).filterMap fun j=>((l[j - (a+1)]?).getD none).map (j,·)):=by
    refine zh1 fun j hj=>?_
    have:=List.mem_range'_1.mp hj
    rw[show j - a=(j - (a+1))+1 by omega,List.getElem?_cons_succ]
   rw[Nat.sub_self,List.getElem?_cons_zero]
   cases x with
   | none=>simp only[Option.getD_some,Option.map_none,Option.isSome_none];rw[e2,ih];rfl
   | some v=>simp only[Option.getD_some,Option.map_some,Option.isSome_some,List.length_cons];rw[e2,ih];rfl
 have:=e owner.toList 0
 rw[<-List.range_eq_range']at this
 unfold cnt
 rw[<-this,show List.range M=List.range owner.toList.length by rw[Array.length_toList,hM]]
 refine congrArg List.length (zh1 fun j _=>?_)
 rw[Array.getD_eq_getD_getElem?,Nat.sub_zero,Array.getElem?_toList]
theorem laid_ok (mask k:Nat)(hk:mask+1=2 ^ k)(f mv:Nat)(led pl:Bool)(hs:Array Int)(hl:hs.size<=mask+1):∃t order,laid mask f mv led pl hs=some (t,order)/\t.mask=mask/\t.dummies=#[]/\t.led=led/\t.plain=pl/\t.place.size=hs.size/\order.size=hs.size/\∀x∈order,x<hs.size:=by
 obtain⟨o,h1,h2⟩:=lay_clean mask k hk hs hl
 have hll:=live_len o (mask+1) h2.size
 rw[h2.cnt_]at hll
 unfold laid
 rw[h1]
 refine⟨_,_,rfl,rfl,rfl,rfl,rfl,by simpa using hll,by simpa using hll,fun x hx=>?_⟩
 rw[List.mem_toArray]at hx
 obtain⟨y,hy,rfl⟩:=List.mem_map.mp hx
 obtain⟨j,_,hj⟩:=List.mem_filterMap.mp hy
 obtain⟨v,hv,rfl⟩:=Option.map_eq_some_iff.mp hj
 refine h2.lt j v ?_
 rw[Array.getD_eq_getD_getElem?]at hv
 cases hq:o[j]? with
 | none=>rw[hq]at hv;cases hv
 | some z=>rw[hq]at hv;simp at hv;rw[hv]
theorem zjs {α:Type}(es:Array α)(order:Array Nat)(h:∀x∈order,x<es.size):(order.filterMap (es[·]?)).size=order.size:=by
 have:∀l:List Nat,(∀x∈l,x<es.size)->(l.filterMap (es[·]?)).length=l.length:=by
  intro l
  induction l with
  | nil=>intro _;rfl
  | cons a l ih =>
   intro hl
   rw[List.filterMap_cons,Array.getElem?_eq_getElem (hl a (by simp))]
   simp only[List.length_cons]
   rw[ih fun x hx=>hl x (by simp[hx])]
 have e:=this order.toList fun x hx=>h x (by simpa using hx)
 rw[<-Array.length_toList,Array.toList_filterMap]
 simpa using e
theorem zh4 (n:Nat)(h:n<100000):∃k,sizeAbove n=2 ^ k/\n<sizeAbove n/\sizeAbove n<=200008:=by
 have:∀(fuel a:Nat),2 ^ a<=200008->(2 ^ a<=8\/2 ^ a<=2*n)->18<=fuel+a->∃k,sizeAbove.go n fuel (2 ^ a)=2 ^ k/\n<2 ^ k/\2 ^ k<=200008:=by
  intro fuel
  induction fuel with
  | zero =>
   intro a h1 h2 h3
   have:2 ^ 18<=2 ^ a:=Nat.pow_le_pow_right (by decide) (by omega)
   have e:(2:Nat) ^ 18=262144:=by decide
   omega
  | succ fuel ih =>
   intro a h1 h2 h3
   rw[sizeAbove.go]
   by_cases hq:2 ^ a<=n
   ·rw[if_pos hq]
    have:=ih (a+1) (by rw[Nat.pow_succ];omega) (by rw[Nat.pow_succ];omega) (by omega)
    rw[Nat.pow_succ]at this
    exact this
   ·rw[if_neg hq]
    exact⟨a,rfl,by omega,h1⟩
 obtain⟨k,h1,h2,h3⟩:=this 64 3 (by decide) (.inl (by decide)) (by omega)
 unfold sizeAbove
 exact⟨k,h1,by rw[h1];exact h2,by rw[h1];exact h3⟩
end ST
namespace ST
open PySem PySem.SetTable
section
variable {prog:Program}{w:World}{K:Type}[DecidableEq K]{knd:KeyKind prog w K}{A:Around}{E:Value->Shared->Prop}{s:Shared}
theorem noRef {v:Value}(h:carriedByValue v=true)(n:Nat):ofAClassStatement n v=pure false:=by
 cases v with
 | ref a=>simp[carriedByValue]at h
 | _=>cases n<;>rfl
theorem cls_no {ks:List K}{a:Addr}{Q:Bool->Shared->Prop}(hk:IsTupleKey knd s.heap ks a)(h:Q false s):wpAny (model prog w) A (ofAClassStatement 8 (.ref a)) Q E s:=by
 have hT:=hk.typeIs
 obtain⟨ob,its,n,hg,hc,hdt,hi⟩:=hk
 unfold ofAClassStatement
 refine wpAny_bind (wpAny_typeOf hT ?_)
 dsimp only
 refine wpAny_bind (wpAny_pure ?_)
 simp only[Bool.not_true,Bool.false_eq_true,if_false]
 refine wpAny_bind (wpAny_seqItems hg hdt ?_)
 dsimp only
 refine wpAny_bind ?_
 rw[<-Array.forIn_toList]
 refine wpAny_forIn_list _ (fun rest r z=>r.1=none/\z=s/\∀v∈rest,carriedByValue v=true) _ ?_ ?_ _ _ ⟨rfl,rfl,hi.byValue⟩
 ·rintro v rest r z ⟨hr,rfl,hall⟩
  rw[noRef (hall v List.mem_cons_self)]
  refine wpAny_bind (wpAny_pure ?_)
  simp only[Bool.false_eq_true,if_false]
  exact wpAny_pure ⟨rfl,rfl,fun u hu=>hall u (List.mem_cons_of_mem _ hu)⟩
 ·rintro ⟨r1,r2⟩ z ⟨hr,rfl,_⟩
  simp only at hr
  subst hr
  exact wpAny_pure h
theorem hbv {v:Value}(h:carriedByValue v=true)(n:Nat):∃b,hashByValue n v=pure b:=by
 cases v with
 | ref a=>simp[carriedByValue]at h
 | _=>cases n<;>exact⟨_,rfl⟩
theorem hbv_tuple {ks:List K}{a:Addr}{Q:Bool->Shared->Prop}(hk:IsTupleKey knd s.heap ks a)(h:∀b,Q b s):wpAny (model prog w) A (hashByValue 8 (.ref a)) Q E s:=by
 have hT:=hk.typeIs
 obtain⟨ob,its,n,hg,hc,hdt,hi⟩:=hk
 unfold hashByValue
 refine wpAny_bind (wpAny_specialOf hT F.slot_tuple_hash.lookup ?_)
 dsimp only
 refine wpAny_bind (wpAny_seqItems hg hdt ?_)
 simp only[Option.getD_some]
 refine wpAny_bind ?_
 rw[<-Array.forIn_toList]
 refine wpAny_forIn_list _ (fun rest r z=>z=s/\∀v∈rest,carriedByValue v=true) _ ?_ ?_ _ _ ⟨rfl,hi.byValue⟩
 ·rintro v rest r z ⟨rfl,hall⟩
  obtain⟨b,e⟩:=hbv (hall v List.mem_cons_self) 7
  rw[e]
  refine wpAny_bind (wpAny_pure ?_)
  cases b
  ·simp only[Bool.not_false,if_true]
   exact wpAny_pure (wpAny_pure (h _))
  ·simp only[Bool.not_true,Bool.false_eq_true,if_false]
   exact wpAny_pure ⟨rfl,fun u hu=>hall u (List.mem_cons_of_mem _ hu)⟩
 ·rintro ⟨r1,r2⟩ z ⟨rfl,_⟩
  cases r1 with
  | none=>exact wpAny_pure (h _)
  | some b=>exact wpAny_pure (h _)
end
end ST
namespace ST
open PySem PySem.SetTable
section
variable {prog:Program}{w:World}{K:Type}[DecidableEq K]{knd:KeyKind prog w K}{A:Around}{E:Value->Shared->Prop}
structure Lies (knd:KeyKind prog w K)(h:Heap)(S:Addr)(o:Obj)(es:Array (Int×Value))(ep:Nat)(t:SetTable)(kk:Nat)(k:List K):Prop where
 ho:h.get? S=some o
 hd:o.data=.set es ep t
 fits:t.fits es.size=true
 dm:t.dummies=#[]
 pw:t.mask+1=2 ^ (kk+3)
 el:∀e∈es.toList,∃ks b,IsTupleKey knd h ks b/\e.2=.ref b/\ks≠k
theorem could_ok {s:Shared}{a:Addr}{k:List K}{Q:Bool->Shared->Prop}(hk:IsTupleKey knd s.heap k a)(stored:List Value)(hs:∀v∈stored,∃ks b,IsTupleKey knd s.heap ks b/\v=.ref b)(h:Q false s) :
  wpAny (model prog w) A (searchCouldBeSeen (.ref a) stored) Q E s:=by
 unfold searchCouldBeSeen
 refine wpAny_bind ?_
 refine wpAny_forIn_list _ (fun rest r z=>r.1=none/\z=s/\∀v∈rest,∃ks b,IsTupleKey knd s.heap ks b/\v=.ref b) _ ?_ ?_ _ _ ⟨rfl,rfl,hs⟩
 ·rintro v rest r z ⟨hr,rfl,hall⟩
  obtain⟨ks,b,hb,rfl⟩:=hall v List.mem_cons_self
  have hrest:∀u∈rest,∃ks b,IsTupleKey knd z.heap ks b/\u=.ref b:=fun u hu=>hall u (List.mem_cons_of_mem _ hu)
  dsimp only
  by_cases hab:(a==b)=true
  ·rw[if_pos (by rw[hab];rfl)]
   exact wpAny_pure ⟨rfl,rfl,hrest⟩
  ·have hab':(a==b)=false:=by simpa using hab
   rw[if_neg (by rw[hab'];simp[carriedByValue])]
   refine wpAny_bind (wpAny_eqIsQuiet_tuple hk ?_)
   simp only[Bool.not_true,Bool.false_eq_true,if_false]
   refine wpAny_bind (wpAny_eqIsQuiet_tuple hb ?_)
   simp only[Bool.not_true,Bool.false_eq_true,if_false]
   refine wpAny_bind (cls_no hk ?_)
   simp only[Bool.false_eq_true,if_false]
   refine wpAny_bind (cls_no hb ?_)
   simp only[Bool.false_eq_true,if_false]
   exact wpAny_pure ⟨rfl,rfl,hrest⟩
 ·rintro ⟨r1,r2⟩ z ⟨hr,rfl,_⟩
  simp only at hr
  subst hr
  exact wpAny_pure h
theorem go_met' (t:SetTable)(hd:t.dummies=#[]){ha:Nat->Int}{h:Int}{p:Probe}{r:Option Met}(hr:t.probe ha h p=r)(n:Nat)(hn:n<10*turns t.mask)(he:t.slot (adv t n p).j=.empty)(hp:p.dummy=none) :
  (∃j,r=some (.empty j none))\/∃m i j,m<n/\r=some (.candidate j i (adv t (m+1) p))/\t.slot j=.live i/\t.place[i]? = some j:=by
 rcases go_met t hd ha h (10*turns t.mask) n p hn he hp with⟨j,g,_⟩ | ⟨m,i,j,h1,g,h2,h3,_⟩
 ·exact .inl ⟨j,by rw[<-hr];exact g⟩
 ·exact .inr ⟨m,i,j,h1,by rw[<-hr];exact g,h2,h3⟩
theorem search_ok {s:Shared}{S a:Addr}{o:Obj}{es:Array (Int×Value)}{ep:Nat}{t:SetTable}{kk:Nat}{k:List K}{h:Int}{Q:SetFound->Shared->Prop}(L:Lies knd s.heap S o es ep t kk k)(hu:A.units<cLine)(hk:IsTupleKey knd s.heap k a)
  (hQ:∀j,Q (.free j false) s):∀(n fuel:Nat) (stand:Option Probe),n<fuel->n<10*turns t.mask->t.slot (adv t n (stand.getD (t.probeStart h))).j=.empty->(stand.getD (t.probeStart h)).dummy=none ->
  wpAny (model prog w) A (setSearchFrom S (.ref a) h true fuel stand) Q E s:=by
 intro n
 induction n using Nat.strongRecOn with
 | ind n ih =>
  intro fuel stand hf hn he hp
  cases fuel with
  | zero=>omega
  | succ fuel =>
   unfold setSearchFrom
   refine wpAny_bind (wpAny_setState_of L.ho L.hd L.fits ?_)
   dsimp only
   have gw:t.gaveWay=false:=by
    have h1:=L.pw
    have h2:2 ^ (kk+3)=2*2 ^ (kk+2):=by rw[Nat.pow_succ];omega
    unfold gaveWay
    have:t.mask % 2=1:=by omega
    rw[this];rfl
   rw[gw]
   simp only[Bool.false_eq_true,if_false]
   generalize hpr:t.probe _ h (stand.getD (t.probeStart h))=pr
   rcases go_met' t L.dm hpr n hn he hp with⟨j,rfl⟩ | ⟨m,i,j,hm,rfl,hsl,hpl⟩
   ·exact wpAny_pure (hQ j)
   ·dsimp only
    have hil:i<es.size:=by
     have h1:=L.fits
     have h2:=(Array.getElem?_eq_some_iff.mp hpl).1
     simp only[SetTable.fits,Bool.and_eq_true,beq_iff_eq]at h1
     omega
    obtain⟨ks,b,hb,hy,hne⟩:=L.el es[i] (by simp)
    cases hled : t.led
    case' false =>
     simp only[Bool.not_false,if_true]
     refine wpAny_bind (could_ok hk _ (fun v hv=>?_) ?_)
     ·obtain⟨e,he2,rfl⟩:=List.mem_map.mp hv
      obtain⟨ks,b,hb,e2,_⟩:=L.el e (by
       have:e∈es.filter fun x=>x.1==h:=by simpa using he2
       have:=(Array.mem_filter.mp this).1
       simpa using this)
      exact⟨ks,b,hb,e2⟩
    all_goals
     simp only [Bool.not_true, Bool.false_eq_true, if_false]
     rw[Array.getElem?_eq_getElem hil]
     obtain⟨hh,y,e⟩:∃hh y,es[i]=(hh,y):=⟨_,_,rfl⟩
     rw[e]at hy
     have hy:y=.ref b:=hy
     subst hy
     rw[e]
     dsimp only
     refine wpAny_bind (wpAny_holding (wpAny_eqBool_tuple hu hb hk ?_))
     rw[decide_eq_false hne]
     refine wpAny_bind (wpAny_setState_of L.ho L.hd L.fits ?_)
     simp only[Bool.and_false,Bool.false_eq_true,if_false]
     have sm:t.sameMemory t.moves t.mask=some true:=by unfold sameMemory;rw[if_pos (by simp)]
     rw[sm]
     dsimp only
     rw[if_pos rfl,hsl]
     dsimp only
     rw[Array.getElem?_eq_getElem hil,e]
     dsimp only
     refine wpAny_bind ?_
     unfold isSame
     dsimp only
     rw[if_pos (by simp)]
     refine wpAny_pure (wpAny_bind (wpAny_pure ?_))
     rw[if_pos rfl]
     dsimp only
     refine ih (n - (m+1)) (by omega) fuel _ (by omega) (by omega) ?_ ?_
     ·show t.slot (adv t (n - (m+1)) (adv t (m+1) (stand.getD (t.probeStart h)))).j=.empty
      rw[<-adv_add,show m+1+(n - (m+1))=n by omega];exact he
     ·show (adv t (m+1) (stand.getD (t.probeStart h))).dummy=none
      rw[zgz];exact hp
end
end ST
namespace ST
open PySem PySem.SetTable
section
variable {prog:Program}{w:World}{K:Type}[DecidableEq K]{knd:KeyKind prog w K}{A:Around}{E:Value->Shared->Prop}
noncomputable def Has (h:Heap)(S:Addr)(n:Nat)(bl:List Addr):Prop :=
 ∃o es ep t kk,h.get? S=some o/\o.ExactSet/\o.data=.set es ep t/\t.fits es.size=true/\t.dummies=#[]/\t.mask+1=2 ^ (kk+3)/\es.size*5<t.mask*3/\t.mask<=8191/\es.size=n /\
  ∀e∈es.toList,∃b,b∈bl/\e.2=.ref b
theorem zet {α:Type}(xs:Array α)(p:Nat)(x:α):(insertAt xs p x).size=xs.size+1:=by
 have:=(SetTable.insertAt_perm xs p x).length_eq
 simpa using this
theorem add_new {s:Shared}{S a:Addr}{n:Nat}{bl:List Addr}{k:List K}{h:Int}{Q:Bool->Shared->Prop}(H:Has s.heap S n bl)(hn:n<=900)(hu:A.units<cLine)(hk:IsTupleKey knd s.heap k a)(hbl:∀b∈bl,∃k',IsTupleKey knd s.heap k' b/\k'≠k)
  (hQ:∀h',Heap.SameBut S s.heap h'->Has h' S (n+1) (a::bl)->Q true { s with heap:=h' }) :
  wpAny (model prog w) A (setAddHashed S (.ref a) h) Q E s:=by
 obtain⟨o,es,ep,t,kk,ho,hex,hd,hf,hdm,hpw,hrm,hml,hsz,hel⟩:=H
 have hm1:=hml
 have L:Lies knd s.heap S o es ep t kk k:=⟨ho,hd,hf,hdm,hpw,fun e he=>by
  obtain⟨b,h1,h3⟩:=hel e he
  obtain⟨k',h4,h5⟩:=hbl b h1
  exact⟨k',b,h4,h3,h5⟩⟩
 have hfp:t.place.size=es.size:=by
  simp only[SetTable.fits,Bool.and_eq_true,beq_iff_eq]at hf
  exact hf.1
 obtain⟨e0,he0,hne0⟩:=zki t (by omega)
 obtain⟨m,hm2,hme⟩:=adv_all t (kk+3) hpw h e0 he0
 unfold setAddHashed setAddHashedIn
 refine wpAny_holding (wpAny_bind (wpAny_setState_of ho hd hf ?_))
 dsimp only
 have nb:byScan (.ref a) es=false:=rfl
 rw[nb]
 simp only[Bool.false_eq_true,if_false]
 unfold setSearch
 refine wpAny_bind (search_ok (h:=h) L hu hk (fun j=>?_) m 100000 none (by unfold turns at hm2;omega) hm2 (by show t.slot (adv t m (t.probeStart h)).j=.empty;rw[hme];exact slot_free t hdm e0 hne0) rfl)
 dsimp only
 refine wpAny_bind (wpAny_setState_of ho hd hf ?_)
 dsimp only
 have hput:(t.put j).1.dummies=#[]/\(t.put j).1.mask=t.mask/\(t.put j).1.place.size=es.size+1:=by
  unfold put
  refine⟨?_,rfl,by rw[<-hfp];exact zet _ _ _⟩
  dsimp only
  rw[hdm];rfl
 obtain⟨p1,p2,p3⟩:=hput
 generalize hT:(t.put j).1=T1 at *
 generalize hP:(t.put j).2=P at *
 have tail:∀T:SetTable,T.dummies=#[]->T.mask=t.mask->T.place.size=es.size+1->wpAny (model prog w) A (do
   storeSet S (insertAt es P (h,.ref a)) T
   if (!false && T.tooFull)=true then setRelay S (grown (es.size+1)) else pure ()
   pure true) Q E s:=fun T q1 q2 q3=>by
  have his:(insertAt es P (h,Value.ref a)).size=es.size+1:=zet _ _ _
  have hmem:∀e∈(insertAt es P (h,Value.ref a)).toList,e=(h,.ref a)\/e∈es.toList:=fun e he=>by
   have:=(SetTable.insertAt_perm es P (h,Value.ref a)).mem_iff.mp he
   simp only[Array.toList_push,List.mem_append,List.mem_singleton]at this
   exact this.symm
  generalize insertAt es P (h,Value.ref a)=es1 at *
  have Tf:T.fits es1.size=true:=by
   simp only[SetTable.fits,fill,q1,q2,q3,his,Bool.and_eq_true,beq_iff_eq,decide_eq_true_eq]
   exact⟨trivial,by simp;omega⟩
  refine wpAny_bind (wpAny_storeSet_of ho hd ?_ (by rw[his,sizeLine_eq];omega))
  have hsb:=Heap.SameBut.update s.heap S (Obj.putSet es1 T)
  have hg:(s.heap.update S (Obj.putSet es1 T)).get? S=some { o with data:=.set es1 (ep+1) T }:=by
   have:=Heap.get?_update_self (Obj.putSet es1 T) ho (by rw[putSet_of es1 T hd];rfl)
   rw[putSet_of es1 T hd]at this;exact this
  have hel1:∀e∈es1.toList,∃b,b∈a::bl/\e.2=.ref b:=fun e he=>by
   rcases hmem e he with rfl | he
   ·exact⟨a,by simp,rfl⟩
   ·obtain⟨b,h1,h3⟩:=hel e he
    exact⟨b,by simp[h1],h3⟩
  cases htf:T.tooFull with
  | false =>
   simp only[Bool.not_false,Bool.and_false,Bool.false_eq_true,if_false]
   refine wpAny_bind (wpAny_pure (wpAny_pure (hQ _ hsb ⟨_,es1,ep+1,T,kk,hg,hex,rfl,Tf,q1,by rw[q2];exact hpw,?_,by rw[q2];exact hml,by rw[his,hsz],hel1⟩)))
   ·unfold tooFull fill at htf
    rw[q1,q3,q2]at htf
    have htf':¬ ((es.size+1+(#[]:Array Nat).size)*5 ≥ t.mask*3):=by simpa using htf
    rw[his,q2]
    simp at htf'
    omega
  | true =>
   simp only[Bool.not_false,Bool.and_true,if_true]
   refine wpAny_bind ?_
   unfold setRelay
   refine wpAny_bind (wpAny_setState_of (s:={ s with heap:=s.heap.update S (Obj.putSet es1 T) }) hg rfl Tf ?_)
   dsimp only
   have hgr:grown (es.size+1)=(es.size+1)*4:=by unfold grown;rw[if_neg (by omega)]
   rw[hgr]
   obtain⟨kq,k1,k2,k3⟩:=zh4 ((es.size+1)*4) (by omega)
   obtain⟨k4,rfl⟩:∃k4,kq=k4+3:=by
    rcases Nat.lt_or_ge kq 3 with hlt | hge
    ·have:2 ^ kq<=2 ^ 2:=Nat.pow_le_pow_right (by decide) (by omega)
     rw[k1]at k2;omega
    ·exact⟨kq - 3,by omega⟩
   have k5:sizeAbove ((es.size+1)*4)<=8192:=by
    have:∀(fuel a:Nat),2 ^ a<=8192->(es.size+1)*4<4096->sizeAbove.go ((es.size+1)*4) fuel (2 ^ a)<=8192:=by
     intro fuel
     induction fuel with
     | zero=>intro a h1 _;exact h1
     | succ fuel ih =>
      intro a h1 h2
      rw[sizeAbove.go]
      split
      ·have:=ih (a+1) (by rw[Nat.pow_succ];omega) h2
       rw[Nat.pow_succ]at this;exact this
      ·exact h1
    exact this 64 3 (by decide) (by omega)
   rw[if_neg (by rw[sizeLine_eq];omega)]
   obtain⟨t',order,l1,l2,l3,l4,l5,l6,l7,l8⟩:=laid_ok (sizeAbove ((es.size+1)*4) - 1) (k4+3) (by omega) T.finger (T.movedTo (sizeAbove ((es.size+1)*4) - 1)) T.led T.plain (es1.map (·.1)) (by simp;omega)
   have hrl:T.relaid (es1.map (·.1)) ((es.size+1)*4)=some (t',order):=l1
   rw[hrl]
   have hos:(order.filterMap (es1[·]?)).size=es1.size:=by
    rw[zjs es1 order (fun x hx=>by have:=l8 x hx;simpa using this),l7];simp
   have hom:∀e∈(order.filterMap (es1[·]?)).toList,e∈es1.toList:=fun e he=>by
    rw[Array.toList_filterMap]at he
    obtain⟨x,_,hx⟩:=List.mem_filterMap.mp he
    have:=Array.mem_of_getElem? hx
    simpa using this
   refine wpAny_bind ?_
   show wpAny _ _ (if (order.filterMap (es1[·]?)).size != es1.size then unsupported _ >>= _ else pure (order.filterMap (es1[·]?),t')) _ _ _
   rw[if_neg (by rw[hos];simp)]
   refine wpAny_pure ?_
   dsimp only
   generalize order.filterMap (es1[·]?)=es2 at *
   have es2s:es2.size=es.size+1:=by rw[hos,his]
   have l6':t'.place.size=es.size+1:=by rw[l6];simp[his]
   have hsb2:=hsb.trans (Heap.SameBut.update (s.heap.update S (Obj.putSet es1 T)) S (Obj.putSet es2 t'))
   have hg2:((s.heap.update S (Obj.putSet es1 T)).update S (Obj.putSet es2 t')).get? S=some { o with data:=.set es2 (ep+1+1) t' }:=by
    have:=Heap.get?_update_self (Obj.putSet es2 t') hg (by rw[putSet_of es2 t' rfl];rfl)
    rw[putSet_of es2 t' rfl]at this;exact this
   have hel2:∀e∈es2.toList,∃b,b∈a::bl/\e.2=.ref b:=fun e he=>hel1 e (hom e he)
   refine wpAny_storeSet_of (s:={ s with heap:=s.heap.update S (Obj.putSet es1 T) }) hg rfl ?_ (by rw[es2s,sizeLine_eq];omega)
   refine wpAny_pure (hQ _ hsb2 ⟨_,es2,ep+1+1,t',k4,hg2,hex,rfl,?_,l3,by rw[l2];omega,by rw[es2s,l2];omega,by rw[l2];omega,by rw[es2s,hsz],hel2⟩)
   simp only[SetTable.fits,fill,l3,l2,l6',es2s,Bool.and_eq_true,beq_iff_eq,decide_eq_true_eq]
   exact⟨trivial,by simp;omega⟩
 cases hpl:T1.plain with
 | true =>
  rw[if_pos rfl]
  refine wpAny_bind (hbv_tuple hk fun b=>?_)
  cases b
  ·exact tail { T1 with plain:=false } p1 p2 p3
  ·exact tail T1 p1 p2 p3
 | false =>
  rw[if_neg (by simp)]
  refine wpAny_bind (wpAny_pure ?_)
  exact tail T1 p1 p2 p3
end
end ST
namespace ST
open PySem PySem.SetTable
section
variable {prog:Program}{w:World}{K:Type}[DecidableEq K]{knd:KeyKind prog w K}
theorem zih {h h':Heap}{ks:List K}{a:Addr}(x:IsTupleKey knd h ks a)(hk:∀o,h.get? a=some o->h'.get? a=some o):IsTupleKey knd h' ks a:=by
 obtain⟨ob,its,n,hg,hc,hdt,hi⟩:=x
 exact⟨ob,its,n,hk _ hg,hc,hdt,hi⟩
theorem Has.at' {h h':Heap}{S:Addr}{n:Nat}{bl:List Addr}(H:Has h S n bl)(hS:∀o,h.get? S=some o->h'.get? S=some o):Has h' S n bl:=by
 obtain⟨o,es,ep,t,kk,h1,h2⟩:=H
 exact⟨o,es,ep,t,kk,hS _ h1,h2⟩
theorem Has.more {h:Heap}{S:Addr}{n:Nat}{bl bl':List Addr}(H:Has h S n bl)(hs:∀b∈bl,b∈bl'):Has h S n bl':=by
 obtain⟨o,es,ep,t,kk,h1,h2,h3,h4,h5,h6,h7,h8,h9,h10⟩:=H
 exact⟨o,es,ep,t,kk,h1,h2,h3,h4,h5,h6,h7,h8,h9,fun e he=>by
  obtain⟨b,q1,q3⟩:=h10 e he
  exact⟨b,hs b q1,q3⟩⟩
variable {G:Around}{R:Result->Shared->Prop}{it:Addr}{fp wr:List Addr}{n:Nat}{P:Nat->Value->Prop}{Sx:Nat->Heap->Prop}
theorem upd_go (V:Walks prog w G.in1 it fp wr n P Sx)(S:Addr)(hS:S∉fp)(kf:Nat->List K)(bs:Nat->Addr)(hP:∀i v,P i v->v=.ref (bs i))(hn:n<=900)(hu:G.in1.units<cLine)(hd:∀i j,i<j->j<n->kf i≠kf j)(hb:∀i,i<n->bs i∉wr/\bs i≠S)(left:Nat) :
  ∀(j:Nat) (z:Shared),n=j+left->Sx j z.heap->Has z.heap S j ((List.range j).map bs)->(∀i,i<n->IsTupleKey knd z.heap (kf i) (bs i)) ->
  (∀g tk,(∀b o,b∉wr->b≠S->z.heap.get? b=some o->g.get? b=some o)->Has g S n ((List.range n).map bs)->R (.ok (.ret .none)) { z with heap:=g,toks:=tk }) ->
  codeAny (model prog w) G (.builtin "set.update.loop" ⟨[.ref S,.ref it],[]⟩) R z:=by
 have nS:S∉wr:=fun q=>hS (V.sub _ q)
 induction left with
 | zero =>
  intro j z hj hs H hk done
  obtain rfl:n=j:=by omega
  refine codeAny_builtin PyProof.Rows.F.entry_set_update_loop ?_
  rw[Around.under_plainId PyProof.Rows.F.plain_set_update_loop _]
  show wpAny _ G.in1 (pyNext (.ref it) >>= _) _ _ z
  refine wpAny_bind (V.done z _ _ hs fun g tk kp=>?_)
  show wpAny _ G.in1 (ret Value.none) _ _ _
  exact wpAny_pure (done g tk (fun b o h1 _ e=>kp b o h1 e) (H.at' fun o e=>kp S o nS e))
 | succ left ih =>
  intro j z hj hs H hk done
  have hjn:j<n:=by omega
  refine codeAny_builtin PyProof.Rows.F.entry_set_update_loop ?_
  rw[Around.under_plainId PyProof.Rows.F.plain_set_update_loop _]
  show wpAny _ G.in1 (pyNext (.ref it) >>= _) _ _ z
  refine wpAny_bind (V.item j z _ _ hjn hs fun v g tk hv hs2 kp=>?_)
  obtain rfl:=hP j v hv
  have hk1:∀i,i<n->IsTupleKey knd g (kf i) (bs i):=fun i hi=>zih (hk i hi) fun o e=>kp (bs i) o (hb i hi).1 e
  have H1:Has g S j ((List.range j).map bs):=H.at' fun o e=>kp S o nS e
  show wpAny _ G.in1 (holding [Value.ref (bs j)] (setAdd S (.ref (bs j))) >>= _) _ _ _
  refine wpAny_bind (wpAny_holding ?_)
  unfold setAdd
  refine wpAny_holding (wpAny_bind (wpAny_pyHash_tuple (knd:=knd) hu (hk1 j hjn) ?_))
  refine add_new (knd:=knd) (k:=kf j) (s:={ z with heap:=g,toks:=tk+((kf j).length+1) }) H1 (by omega) hu (hk1 j hjn) (fun b hbm=>?_) fun g2 sb H2=>?_
  ·obtain⟨i,hi,rfl⟩:=List.mem_map.mp hbm
   have hij:=List.mem_range.mp hi
   exact⟨kf i,hk1 i (by omega),hd i j hij hjn⟩
  ·refine wpAny_pure ⟨plainId_quiet PyProof.Rows.F.plain_set_update_loop _,ih (j+1) _ (by omega) (V.frame _ _ _ hs2 fun b hf o e=>?_) (H2.more fun b hbm=>?_) (fun i hi=>zih (hk1 i hi) fun o e=>?_) fun g3 tk3 kp3 H3=>?_⟩
   ·rw[sb.2 b (fun q=>hS (q ▸ hf))];exact e
   ·rw[List.range_succ,List.map_append]
    rcases List.mem_cons.mp hbm with rfl | hbm
    ·simp
    ·exact List.mem_append_left _ hbm
   ·rw[sb.2 (bs i) (hb i hi).2];exact e
   ·refine done g3 tk3 (fun b o h1 h2 e=>kp3 b o h1 h2 ?_) H3
    show g2.get? b=some o
    rw[sb.2 b h2];exact kp b o h1 e
end
end ST
namespace ST
open PySem PySem.SetTable
section
variable {prog:Program}{w:World}{K:Type}[DecidableEq K]{knd:KeyKind prog w K}{G:Around}{E:Value->Shared->Prop}{z:Shared}
noncomputable abbrev newO (led:Bool):Obj:={ cls:=.type "set",dict:=none,data:=.set #[] 0 (.fresh 0 0 led) }
theorem has0 (h:Heap)(S:Addr)(led:Bool)(e:h.get? S=some (newO led)):Has h S 0 []:=by
 refine⟨_,#[],0,.fresh 0 0 led,0,e,⟨rfl,rfl,rfl⟩,rfl,?_,rfl,rfl,by cases led<;>decide,by cases led<;>decide,rfl,by simp⟩
 cases led<;>rfl
set_option maxHeartbeats 3200000 in
theorem set_of {l:Addr}{items:Array Value}{Q:Value->Shared->Prop}(kf:Nat->List K)(bs:Nat->Addr)(hh:G.handled=none)(hu:G.in1.in1.in1.units<cLine)(hl:z.heap.IsList l items)(hi:∀(i:Nat) (v:Value),items[i]? = some v->v=.ref (bs i))(hn:items.size<=900)
  (hk:∀i,i<items.size->IsTupleKey knd z.heap (kf i) (bs i)) (hd:∀i j,i<j->j<items.size->kf i≠kf j)
  (h:∀(g:Heap) (tk:Nat),(∃bl,Has g z.heap.objs.size items.size bl)->(∀b o,b<z.heap.objs.size->z.heap.get? b=some o->g.get? b=some o)->Q (.ref z.heap.objs.size) { z with heap:=g,toks:=tk }) :
  wpAny (model prog w) G (call (.type "set") [.ref l]) Q E z:=by
 obtain⟨m1,m2,hmro⟩:=F.called_set.mro
 have hmade:=F.called_set.made;have hsub:=F.called_set.sub
 refine wpAny_call (codeAny_of_tree (?_:wpAny _ _ (callAny (.type "set") _) _ _ _))
 refine wpAny_pure ⟨Code.quiet_builtin _ (by decide +kernel),codeAny_builtin F.entry_type_call ?_⟩
 rw[Around.under_plain (weight_type_call_type "set" [.ref l] []) rfl]
 have n1:=F.called_set.notType;have n2:=F.called_set.canCreate;have n3:=F.typeCall_set_1 (.ref l)
 repeat (any_goals first | assumption | wp_step)
 refine codeAny_mono (code_set_new_1 (.ref l) (E:=E) (Q₁:=fun v y=>∃led:Bool,v=.ref z.heap.objs.size/\y={ z with heap:=z.heap.push (newO led) }) fun led=>⟨led,rfl,rfl⟩) fun r y hr=>?_
 match r,hr with
 | .error e,hr=>exact hr
 | .ok (.ret v),hr =>
  obtain⟨led,rfl,rfl⟩:=hr
  have gS:(z.heap.push (newO led)).get? z.heap.objs.size=some (newO led):=Heap.get?_push_size _ rfl
  have tS:Shared.TypeIs { z with heap:=z.heap.push (newO led) } (.ref z.heap.objs.size) "set":=⟨_,gS,rfl⟩
  have i1:=F.called_set.init.lookup;have i2:=F.called_set.init.bind (.ref z.heap.objs.size)
  repeat (any_goals first | assumption | wp_step)
  refine codeAny_mono (codeAny_call_builtin (R:=wants (fun r y2=>r=.none/\∃g tk,y2={ z with heap:=g,toks:=tk }/\(∃bl,Has g z.heap.objs.size items.size bl)/\(∀b o,b<z.heap.objs.size->z.heap.get? b=some o->g.get? b=some o)) E) F.called_set.init.plain F.entry_set_init (check_set_init_1 tS ?_)) fun r2 y2 hr2=>?_
  ·obtain⟨ol,hol,hcl,nl,hdl⟩:=id hl
   obtain⟨ocls,odict,odata,oslots⟩:=ol
   simp only at hcl hdl
   subst hcl hdl
   have hol2:(z.heap.push (newO led)).get? l=some { cls:=.type "list",dict:=odict,data:=.seq items nl,slots:=oslots }:=Heap.get?_push_of_some _ hol
   have u1:=F.sub_list_set;have u2:=F.sub_list_frozenset
   have u3:(Value.type "list" == Value.type "dict")=false:=by decide
   have il:(z.heap.push (newO led)).IsList l items:=⟨_,hol2,rfl,nl,rfl⟩
   unfold Builtin.«set.__init__» noKeywords Builtin.Frozenset.updateFrom
   generalize hIT:pyIter=IT
   wp_walk
   subst hIT
   refine wpAny_pyIter_list il (wpAny_bind (wpAny_runValue ?_))
   have lS:l<z.heap.objs.size:=Heap.lt_size hol
   have sz:(z.heap.push (newO led)).objs.size=z.heap.objs.size+1:=Heap.size_push ..
   have w1:l≠(z.heap.push (newO led)).objs.size:=Nat.ne_of_lt (by rw[sz];exact Nat.lt_succ_of_lt lS)
   have w2:z.heap.objs.size∉[(z.heap.push (newO led)).objs.size,l]:=fun hm=>by
    rcases List.mem_cons.mp hm with e | hm
    ·rw[sz]at e;exact Nat.ne_of_lt (Nat.lt_succ_self _) e
    ·have e:=List.mem_singleton.mp hm
     exact Nat.lt_irrefl _ (Nat.lt_of_lt_of_le lS (Nat.le_of_eq e))
   have w3:∀b:Addr,b<z.heap.objs.size->b∉[(z.heap.push (newO led)).objs.size]:=fun b hb hm=>by
    have e:=List.mem_singleton.mp hm
    rw[sz]at e
    exact absurd (Nat.le_of_eq e.symm) (Nat.not_le_of_lt (Nat.lt_succ_of_lt hb))
   have V:=Walks.list (prog:=prog) (w:=w) (A:=G.in1.in1.in1) (by simp[hh]) _ l w1 items
   refine upd_go (knd:=knd) V z.heap.objs.size w2 kf bs (fun i v hv=>hi i v hv) hn hu hd (fun i hi2=>?_) (items.size - 0) 0 _ (by omega) ⟨⟨_,Heap.get?_push_size _ rfl,rfl,rfl⟩,il.push _⟩ ?_ (fun i hi2=>?_) fun g tk kp H=>?_
   ·obtain⟨ob,its,n,hg,_⟩:=hk i hi2
    exact⟨w3 _ (Heap.lt_size hg),Nat.ne_of_lt (Heap.lt_size hg)⟩
   ·exact has0 _ _ led (Heap.get?_push_of_some _ gS)
   ·exact zih (hk i hi2) fun o e=>Heap.get?_push_of_some _ (Heap.get?_push_of_some _ e)
   ·refine wpAny_pure (?_:wpAny _ _ (ret Value.none) _ _ _)
    refine wpAny_pure ⟨rfl,g,tk,rfl,⟨_,H⟩,fun b o hb e=>kp b o (w3 b hb) (Nat.ne_of_lt hb) (Heap.get?_push_of_some _ (Heap.get?_push_of_some _ e))⟩
  ·match r2,hr2 with
   | .error e,hr2=>exact hr2
   | .ok (.ret v),hr2 =>
    obtain⟨rfl,g,tk,rfl,q1,q2⟩:=hr2
    repeat (any_goals first | assumption | wp_step)
    exact h _ _ q1 q2
   | .ok .next,hr2=>exact hr2.elim
   | .ok .brk,hr2=>exact hr2.elim
   | .ok .cont,hr2=>exact hr2.elim
 | .ok .next,hr=>exact hr.elim
 | .ok .brk,hr=>exact hr.elim
 | .ok .cont,hr=>exact hr.elim
end
end ST
namespace L2
open PySem PySem.Spec PyProof.Rows
section
variable {X:Cx}{x y:Str}{p pos p2 pos2:Pos}{e:Expr}{te:TE}
noncomputable def rLS (X:Cx):V->Hp->VK->Prop:=fun v H Q=>∃(a:Addr) (bs:List Addr) (kl:List (List Key)),v=.ref a/\SqL X.K H a (bs.map V.ref)/\bs.length=kl.length/\(∀(i:Nat) (b:Addr) (k:List Key),bs[i]? = some b->kl[i]? = some k->H b=some (.tup (k.map kV)))/\kl.Nodup/\kl.length<=900/\Q (.int (kl.length:Nat)) H
theorem zgr:∀{bs:List Addr} {its:List Value},Vals (bs.map V.ref) its->its=bs.map Value.ref
 | [],its,h=>by cases h;rfl
 | b::bs,its,h=>by
  cases h with
  | cons r1 r2 =>
   cases (show _=Value.ref b from r1)
   rw[zgr r2];rfl
theorem pe_lenset (hc:X.A.handled=none)(hu:X.A.units+5<cLine)(hg:Gl X x)(hm:X.mg x=none)(hv:bootBuiltins x=some (.builtin "len"))(hg2:Gl X y)(hm2:X.mg y=none)(hv2:bootBuiltins y=some (.type "set"))(ha:PE X e te)
  (hn:x ≠ "__name__":=by decide) (hdb:(x==("__debug__":Str))=false:=by decide) (hn2:y ≠ "__name__":=by decide) (hdb2:(y==("__debug__":Str))=false:=by decide)
  (hs:starEach [e] X.env=[(false,eval e X.env)]:=by rfl) (hs2:starEach [.Call (.Name y p2) [e] [] pos2] X.env=[(false,eval (.Call (.Name y p2) [e] [] pos2) X.env)]:=by rfl) :
  PE X (.Call (.Name x p) [.Call (.Name y p2) [e] [] pos2] [] pos) (tUn (rLS X) te):=by
 intro pins s σ H Q I h
 refine wpAny_Call_Name_kw (zhv I hg hm hv ?_ hn hdb)
 refine PyProof.Rows.callWith_builtin1 (e:=.Call (.Name y p2) [e] [] pos2) (rest:=[]) ?_ (by rw[hs2];rfl) rfl
 rw[hs2]
 show wpAny _ _ (spliced ((false,eval (.Call (.Name y p2) [e] [] pos2) X.env)::backTo pos [])) _ _ s
 refine Calls.spliced_cons (wpAny_Call_Name_kw (zhv I hg2 hm2 hv2 ?_ hn2 hdb2))
 refine PyProof.Rows.callWith_type1 (e:=e) (rest:=[]) ?_ (by rw[hs];rfl) rfl
 rw[hs]
 show wpAny _ _ (spliced ((false,eval e X.env)::backTo pos2 [])) _ _ s
 refine Calls.spliced_cons (thn (ha pins s σ H _ I h) fun u s1 zz=>?_)
 obtain⟨v,H1,I1,r1,q1⟩:=zz
 refine wpAny_pure ?_
 obtain⟨a,bs,kl,rfl,hq,hbl,hH,hnd,hle,hfin⟩:=q1
 cases (show u=Value.ref a from r1)
 obtain⟨its,rv,pl,hz⟩:=I1.list hq
 have hl:s1.heap.IsList a its.toArray:=pl.isList
 have hits:=zgr rv
 have hlen:its.length=kl.length:=by rw[hits,List.length_map,hbl]
 refine ST.set_of (knd:=mixKind X.prog X.w) (fun i=>kl.getD i []) (fun i=>bs.getD i 0) hc (by show X.A.in1.in1.in1.units<cLine;simp only[Around.in1];omega) hl (fun i v hv=>?_) (by rw[List.size_toArray];omega) (fun i hi=>?_) (fun i j hij hj=>?_) fun g tk hHas kp=>?_
 ·have:its[i]? = some v:=by simpa using hv
  rw[hits,List.getElem?_map]at this
  obtain⟨b,hb,rfl⟩:=Option.map_eq_some_iff.mp this
  simp[List.getD,hb]
 ·rw[List.size_toArray]at hi
  have hib:i<bs.length:=by omega
  have hik:i<kl.length:=by omega
  have:=hH i bs[i] kl[i] (List.getElem?_eq_getElem hib) (List.getElem?_eq_getElem hik)
  have q:=zj3 I1.hok this
  have e1:kl.getD i []=kl[i]:=by simp[List.getD,hik]
  have e2:bs.getD i 0=bs[i]:=by simp[List.getD,hib]
  show IsTupleKey (mixKind X.prog X.w) s1.heap (kl.getD i []) (bs.getD i 0)
  rw[e1,e2];exact q
 ·rw[List.size_toArray]at hj
  have hjk:j<kl.length:=by omega
  have hik:i<kl.length:=by omega
  intro z
  have e1:kl.getD i []=kl[i]:=by simp[List.getD,hik]
  have e2:kl.getD j []=kl[j]:=by simp[List.getD,hjk]
  have z2:kl[i]=kl[j]:=by rw[<-e1,<-e2];exact z
  exact (List.pairwise_iff_getElem.mp hnd) i j hik hjk hij z2
 ·refine wpAny_pure ?_
  obtain⟨bl,o,es,ep,t,kk,g1,g2,g3,g4,g5,g6,g7,g8,g9,g10⟩:=hHas
  have g9:es.size=kl.length:=by rw[g9];simpa using hlen
  have keep:∀b ob,s1.heap.get? b=some ob->g.get? b=some ob:=fun b ob e=>kp b ob (Heap.lt_size e) e
  refine call_len_set g1 g2 g3 g4 (by rw[g9];omega) ?_
  rw[g9]
  exact⟨.int (kl.length:Nat),H1,I1.kept keep,⟨_,rfl⟩,hfin⟩
end
end L2
namespace M
open PySem PySem.Spec L2
noncomputable def keysD:List D->Option (List (List Key))
 | []=>some []
 | .tup ds::r=>(keysOf ds).bind fun k=>(keysD r).map fun l=>k::l
 | _=>none
open Classical in
noncomputable def lenSetV:D->Stor->R D
 | .loc n,st=>match itemsAt st n with
  | some ds=>(match keysD ds with | some kl=>if kl.Nodup/\kl.length<=900 then .ok (.int (kl.length:Nat)) st else .bad | none=>.bad)
  | none=>.bad
 | _,_=>.bad
theorem zh8 {K:PySem.W.Frag}{μ:List Addr}{H:Hp}:∀{ds:List D} {xs:List V} {kl:List (List Key)},RepVs K μ H ds xs->keysD ds=some kl->∃bs:List Addr,xs=bs.map V.ref/\bs.length=kl.length/\∀(i:Nat) (b:Addr) (k:List Key),bs[i]? = some b->kl[i]? = some k->H b=some (.tup (k.map kV))
 | [],xs,kl,h,e=>by
  rw[RepVs]at h
  cases e
  exact⟨[],h,rfl,by simp⟩
 | d::ds,xs,kl,h,e=>by
  rw[RepVs]at h
  obtain⟨v,r,rfl,h1,h2⟩:=h
  cases d with
  | tup ks =>
   rw[keysD]at e
   cases e1:keysOf ks with
   | none=>rw[e1]at e;cases e
   | some k =>
    rw[e1]at e
    cases e2:keysD ds with
    | none=>rw[e2]at e;cases e
    | some l =>
     rw[e2]at e
     cases e
     obtain⟨a,ys,rfl,t1,t2⟩:=RepV.tup_iff.mp h1
     obtain⟨bs,rfl,hl,hb⟩:=zh8 h2 e2
     refine⟨a::bs,rfl,by simp[hl],fun i b k' hi hk=>?_⟩
     cases i with
     | zero =>
      simp at hi hk
      subst hi hk
      rw[<-RepVs.keys t2 e1]
      exact t1.made e1
     | succ i=>exact hb i b k' (by simpa using hi) (by simpa using hk)
  | _=>cases e
section
variable {X:Cx}{x y:Str}{p pos p2 pos2:Pos}{e:Expr}{m:ME}
theorem je_lenset (hc:X.A.handled=none)(hu:X.A.units+5<cLine)(hg:Gl X x)(hm:X.mg x=none)(hv:bootBuiltins x=some (.builtin "len"))(hg2:Gl X y)(hm2:X.mg y=none)(hv2:bootBuiltins y=some (.type "set"))(ha:JE X e m)
  (hn:x ≠ "__name__":=by decide) (hdb:(x==("__debug__":Str))=false:=by decide) (hn2:y ≠ "__name__":=by decide) (hdb2:(y==("__debug__":Str))=false:=by decide)
  (hs:starEach [e] X.env=[(false,eval e X.env)]:=by rfl) (hs2:starEach [.Call (.Name y p2) [e] [] pos2] X.env=[(false,eval (.Call (.Name y p2) [e] [] pos2) X.env)]:=by rfl) :
  JE X (.Call (.Name x p) [.Call (.Name y p2) [e] [] pos2] [] pos) (op1 lenSetV m):=by
 refine JE.of (pe_lenset hc hu hg hm hv hg2 hm2 hv2 ha hn hdb hn2 hdb2 hs hs2) fun σ H Q zz=>?_
 obtain⟨μ,env,st,he,hS,hp⟩:=zz
 refine⟨μ,env,st,he,hS,hp.bind.imp ?_⟩
 rintro v H1 ⟨μ1,st1,d,g1,hs1,hx,hp1⟩
 cases d with
 | loc n =>
  unfold lenSetV at hp1
  cases e1:itemsAt st1 n with
  | none=>simp only[e1]at hp1;exact hp1.elim
  | some l =>
   simp only[e1]at hp1
   cases e2:keysD l with
   | none=>simp only[e2]at hp1;exact hp1.elim
   | some kl =>
    simp only[e2]at hp1
    split at hp1
    ·rename_i hh
     obtain⟨q,q1,rfl⟩:=RepV.loc_iff.mp hx
     obtain⟨p',ys,r1,r2,r3⟩:=hs1.items e1
     rw[q1]at r1;cases r1
     obtain⟨bs,rfl,hl,hb⟩:=zh8 r3 e2
     exact⟨q,bs,kl,rfl,r2,hl,hb,hh.1,hh.2,hp1.ret hs1 (RepV.int_iff.mpr rfl)⟩
    ·exact hp1.elim
 | _=>exact hp1.elim
end
end M
namespace ST
open PySem PySem.W PyProof.Rows
noncomputable def runT {α:Type}(lt:Nat->Nat->Bool):KasT α->α
 | .ret a=>a
 | .ask i j k=>runT lt (k (lt i j))
noncomputable def Asks {α:Type}(lt:Nat->Nat->Bool)(n:Nat)(R:α->Prop):KasT α->Prop
 | .ret a=>R a
 | .ask i j k=>i<n/\j<n/\Asks lt n R (k (lt i j))
theorem Asks.bind {α β:Type}{lt:Nat->Nat->Bool}{n:Nat}{R:α->Prop}{R':β->Prop}{f:α->KasT β}(h:∀a,R a->Asks lt n R' (f a)):∀(t:KasT α),Asks lt n R t->Asks lt n R' (t.bind f)
 | .ret a,x=>h a x
 | .ask i j k,x=>⟨x.1,x.2.1,Asks.bind h (k (lt i j)) x.2.2⟩
theorem Asks.out {α:Type}{lt:Nat->Nat->Bool}{n:Nat}{R:α->Prop}:∀{t:KasT α},Asks lt n R t->R (runT lt t)
 | .ret _,x=>x
 | .ask i j k,x=>Asks.out (t:=k (lt i j)) x.2.2
theorem Asks.wp {α:Type}{lt:Nat->Nat->Bool}{n:Nat}{R:α->Prop}{cmp:Nat->Nat->(Bool->Shared->Prop)->Shared->Prop}{s:Shared}(hc:∀i j (C:Bool->Shared->Prop),i<n->j<n->C (lt i j) s->cmp i j C s){Q:α->Shared->Prop} :
  ∀(t:KasT α),Asks lt n R t->Q (runT lt t) s->t.kasWp cmp Q s
 | .ret _,_,q=>q
 | .ask i j k,x,q=>hc i j _ x.1 x.2.1 (Asks.wp hc (k (lt i j)) x.2.2 q)
structure Pl (n:Nat)(p:Array Nat):Prop where
 pos:0<n
 size:p.size=n
 all:∀x∈p,x<n
theorem Pl.at {n:Nat}{p:Array Nat}(h:Pl n p)(k:Nat):p.getD k 0<n:=by
 by_cases hk:k<p.size
 ·have:p.getD k 0=p[k]:=by simp[Array.getD,hk]
  rw[this];exact h.all _ (Array.getElem_mem hk)
 ·have:p.getD k 0=0:=by simp[Array.getD,hk]
  rw[this];exact h.pos
theorem Pl.perm {n:Nat}{p q:Array Nat}(h:Pl n p)(e:q.Perm p):Pl n q :=
 ⟨h.pos,by rw[e.size_eq];exact h.size,fun x hx=>h.all x (e.mem_iff.mp hx)⟩
theorem Pl.rev {n:Nat}{p:Array Nat}(h:Pl n p)(i j:Nat):Pl n (kas_rev p i j):=h.perm (mirror_perm _ _ _ _)
theorem Pl.bub {n:Nat}{p:Array Nat}(h:Pl n p)(i j:Nat):Pl n (bubble p i j):=h.perm (bubble_perm _ _ _)
variable {lt:Nat->Nat->Bool}{n:Nat}
theorem zii {p:Array Nat}(h:Pl n p):∀f k,Asks lt n (fun _=>True) (kas_asc p f k)
 | 0,_=>trivial
 | f+1,k=>by
  refine⟨h.at _,h.at _,?_⟩
  dsimp only
  split
  ·trivial
  ·exact zii h f (k+1)
theorem ze4:∀f {p:Array Nat} (_:Pl n p) k q,Asks lt n (fun r=>Pl n r.1) (kas_desc f p k q)
 | 0,p,h,_,_=>h
 | f+1,p,h,k,q=>by
  refine⟨h.at _,h.at _,?_⟩
  dsimp only
  split
  ·split
   ·exact ze4 f (h.rev _ _) _ _
   ·exact ze4 f h _ _
  ·refine⟨h.at _,h.at _,?_⟩
   dsimp only
   split
   ·exact h
   ·exact ze4 f h _ _
theorem ziu {p:Array Nat}(h:Pl n p)(k m:Nat):Asks lt n (fun r=>Pl n r.2) (kas_tail3 k m p):=by
 unfold kas_tail3
 refine Asks.bind (R:=fun _=>True) ?_ _ (zii (h.rev _ _) _ _)
 intro m' _
 exact h.rev _ _
theorem zeo {p:Array Nat}(h:Pl n p)(k m:Nat):Asks lt n (fun r=>Pl n r.2) (kas_descPart k m p):=by
 refine Asks.bind (fun r hr=>?_) _ (ze4 _ h _ _)
 have hr:Pl n r.1:=hr
 split
 ·exact ziu (hr.rev _ _) _ _
 ·exact ziu hr _ _
theorem zli {p:Array Nat}(h:Pl n p)(m:Nat):Asks lt n (fun r=>Pl n r.2) (kas_count m p):=by
 refine Asks.bind (fun k _=>?_) _ (zii h _ _)
 split
 ·exact h
 ·split
  ·refine⟨h.at _,h.at _,?_⟩
   dsimp only
   split
   ·exact h
   ·exact zeo (h.rev _ _) _ _
  ·exact zeo h _ _
theorem zfx {p:Array Nat}(h:Pl n p)(k:Nat):∀f l r,Asks lt n (fun _=>True) (kas_place p k f l r)
 | 0,_,_=>trivial
 | f+1,l,r=>by
  unfold kas_place
  split
  ·trivial
  ·refine⟨h.at _,h.at _,?_⟩
   dsimp only
   split
   ·exact zfx h k f _ _
   ·exact zfx h k f _ _
theorem zla:∀f {p:Array Nat} (_:Pl n p) k,Asks lt n (Pl n) (kas_bin f p k)
 | 0,p,h,_=>h
 | f+1,p,h,k=>Asks.bind (fun l _=>zla f (h.bub _ _) (k+1)) _ (zfx h k k 0 k)
theorem zi8 (hn:0<n):Asks lt n (Pl n) (kas_sort n):=by
 refine Asks.bind (fun r hr=>?_) _ (zli ⟨hn,by simp,fun x hx=>by simpa using hx⟩ n)
 have hr:Pl n r.2:=hr
 split
 ·exact zla _ hr _
 ·exact hr
noncomputable def order (lt:Nat->Nat->Bool)(n:Nat):List Nat:=if n<2 then List.range n else (runT lt (kas_sort n)).toList
theorem zh0 (hn:2<=n):(order lt n).length=n/\∀x∈order lt n,x<n:=by
 have h:=(zi8 (lt:=lt) (n:=n) (by omega)).out
 unfold order
 rw[if_neg (by omega)]
 exact⟨h.size,fun x hx=>h.all x (by simpa using hx)⟩
end ST
namespace ST
open PySem PySem.W PyProof.Rows
section
variable {prog:Program}{w:World}{A:Around}{E:Value->Shared->Prop}{s:Shared}
noncomputable def Kept (a:Addr)(h g:Heap):Prop:=∀b o,b≠a->h.get? b=some o->g.get? b=some o
theorem few_order:∀(vs:List Value),vs.length<2->((vs.toArray.zip vs.toArray).map (·.2))=((List.range vs.length).map fun i=>vs.getD i .none).toArray
 | [],_=>by simp
 | [v],_=>by simp[List.range_succ]
 | _::_::_,h=>absurd h (by simp)
theorem zg8 {a:Addr}{vs:List Value}{n:Nat}{κ:SortKind}{lt:Nat->Nat->Bool}{P:PySem.Fin->Shared->Prop}(there:s.heap.get? a=some (seqObj "list" vs.toArray n))(few:vs.length<64)
  (kind:2<=vs.length->∀(g:Heap) (Q:SortKind->Shared->Prop),Kept a s.heap g->Q κ { s with heap:=g }->wpAny (model prog w) A (keyKind' vs.toArray) Q (fun _ _=>False) { s with heap:=g })
  (less:∀(g:Heap) (i j:Nat) (C:Bool->Shared->Prop),Kept a s.heap g->i<vs.length->j<vs.length->C (lt i j) { s with heap:=g }->wpAny (model prog w) A (keyLt' κ (vs.getD i .none) (vs.getD j .none)) C (fun _ _=>False) { s with heap:=g })
  (rest:∀(g:Heap) (c:Nat),Kept a s.heap g->g.get? a=some (seqObj "list" ((order lt vs.length).map fun i=>vs.getD i .none).toArray c)->P (.done (.ret .none)) { s with heap:=g }) :
  wpAny (model prog w) A (Builtin.«list.sort» ⟨[.ref a],[]⟩) P E s:=by
 have la:=Heap.lt_size there
 obtain⟨c1,at1⟩:∃c,(s.heap.update a (Obj.mapSeq fun _=>#[])).get? a=some (seqObj "list" #[] c):=⟨_,get?_update_seq there _⟩
 have fits:vs.toArray.size<=sizeLine:=by rw[List.size_toArray,sizeLine_eq];omega
 rw[list_sort_plain]
 refine wpAny_bind (listItems_at there rfl (wpAny_bind (listUpdate_at there rfl (wpAny_bind (seqEpoch_at at1 rfl (wpAny_bind (wpAny_newTuple (wpAny_bind (wpAny_newList (wpAny_holding ?_) (Nat.zero_le _))) (by simpa using fits))))) fits (Nat.zero_le _))))
 show wpAny _ _ _ _ _ { s with heap:=_ }
 generalize hg:(((s.heap.update a (Obj.mapSeq fun _=>#[])).push _).push _:Heap)=g
 have kp:Kept a s.heap g:=by
  intro b o hb e
  rw[<-hg]
  refine Heap.get?_push_of_some _ (Heap.get?_push_of_some _ ?_)
  rw[Heap.get?_update_ne _ _ _ _ hb];exact e
 have at2:g.get? a=some (seqObj "list" #[] c1):=by
  rw[<-hg]
  exact Heap.get?_push_of_some _ (Heap.get?_push_of_some _ at1)
 have lay:∀out:Array Value,∃c,(g.update a (Obj.mapSeq fun _=>out)).get? a=some (seqObj "list" out c)/\Kept a s.heap (g.update a (Obj.mapSeq fun _=>out)):=fun out=>by
  refine⟨_,get?_update_seq at2 fun _=>out,fun b o hb e=>?_⟩
  rw[Heap.get?_update_ne _ _ _ _ hb];exact kp b o hb e
 dsimp only
 by_cases two:vs.toArray.size<2
 ·rw[if_pos two,if_pos two]
  refine wpAny_bind (wpAny_pure ?_)
  rw[StateT.run_pure]
  refine wpAny_bind (wpAny_pure ?_)
  have eo:((vs.toArray.zip vs.toArray).map (·.2))=((order lt vs.length).map fun i=>vs.getD i .none).toArray:=by
   unfold order
   rw[if_pos (by simpa using two)]
   exact few_order vs (by simpa using two)
  obtain⟨c,at3,kp3⟩:=lay ((vs.toArray.zip vs.toArray).map (·.2))
  refine wpAny_bind (seqEpoch_at at2 rfl (wpAny_bind (listUpdate_at at2 rfl ?_ (Nat.zero_le _) (by
   show ((vs.toArray.zip vs.toArray).map (·.2)).size<=_
   rw[eo,List.size_toArray,List.length_map]
   unfold order
   rw[if_pos (by simpa using two),List.length_range,sizeLine_eq];omega))))
  simp only[bne_self_eq_false,Bool.false_eq_true,if_false]
  exact wpAny_pure (rest _ c kp3 (by rw[<-eo];exact at3))
 ·rw[if_neg two,if_neg two]
  have t2:2<=vs.length:=by rw[List.size_toArray]at two;omega
  refine wpAny_bind (wpAny_mono (kind t2 g (fun k y=>k=κ/\y={ s with heap:=g }) kp ⟨rfl,rfl⟩) ?_ fun _ _ x=>x.elim)
  rintro k y ⟨rfl,rfl⟩
  have ask:=Asks.wp (cmp:=kas_ask prog w A k vs) (s:={ s with heap:=g }) (fun i j C hi hj hC=>less g i j C kp hi hj hC) (Q:=fun p y=>p=runT lt (kas_sort vs.length)/\y={ s with heap:=g }) _ (zi8 (lt:=lt) (n:=vs.length) (by omega)) ⟨rfl,rfl⟩
  have run:=kat_run (E:=E) (vs:=vs) (ks:=vs) (Q:=fun st y=>(arrOf st).map (·.2)=((order lt vs.length).map fun i=>vs.getD i .none).toArray/\failedOf st=none/\y={ s with heap:=g }) rfl t2 few (fun p st y _ e1 e2 e3=>⟨by
   rw[kat_snds rfl e1,e3.1]
   unfold order
   rw[if_neg (by omega)],e2,e3.2⟩) ask
  refine wpAny_bind (wpAny_mono run ?_ fun _ _ x=>x)
  ·rintro ⟨u,st⟩ y ⟨eo,ef,rfl⟩
   dsimp only at eo ef ⊢
   obtain⟨c,at3,kp3⟩:=lay ((arrOf st).map (·.2))
   refine wpAny_bind (seqEpoch_at at2 rfl (wpAny_bind (listUpdate_at at2 rfl ?_ (Nat.zero_le _) (by
    show ((arrOf st).map (·.2)).size<=_
    rw[eo,List.size_toArray,List.length_map,(zh0 t2).1,sizeLine_eq];omega))))
   rw[ef]
   simp only[bne_self_eq_false,Bool.false_eq_true,if_false]
   exact wpAny_pure (rest _ c kp3 (by rw[<-eo];exact at3))
end
end ST
namespace ST
open PySem PySem.W PyProof.Rows
section
variable {prog:Program}{w:World}{A:Around}{E:Value->Shared->Prop}{s:Shared}
noncomputable def IsP (h:Heap)(b:Addr)(k:Int×Str):Prop:=∃o n t u,h.get? b=some o/\o.cls=.type "tuple"/\o.data=.seq #[.int k.1 t,.str k.2 u] n
theorem IsP.kept {h g:Heap}{b:Addr}{k:Int×Str}(x:IsP h b k)(kp:∀o,h.get? b=some o->g.get? b=some o):IsP g b k:=by
 obtain⟨o,n,t,u,h1,h2,h3⟩:=x
 exact⟨o,n,t,u,kp o h1,h2,h3⟩
noncomputable def ltP (a b:Int×Str):Bool:=if (a.1==b.1)=true then (if a.2=b.2 then false else decide (a.2.cps.toList<b.2.cps.toList)) else decide (a.1<b.1)
theorem pair_less {a b:Addr}{k m:Int×Str}{Q:Bool->Shared->Prop}(ha:IsP s.heap a k)(hb:IsP s.heap b m)(h:Q (ltP k m) s):wpAny (model prog w) A (keyLt' (tuples' true) (.ref a) (.ref b)) Q E s:=by
 obtain⟨o,n,t,u,h1,h2,h3⟩:=ha
 obtain⟨o',n',t',u',g1,g2,g3⟩:=hb
 refine kat_lt h1 h3 g1 g3 ?_
 show KatLex prog w A true (decide (2<2)) Q [(.int k.1 t,.int m.1 t'),(.str k.2 u,.str m.2 u')] 0 s
 unfold ltP at h
 refine kat_cons (wpAny_eqBool_int (kat_go (fun e=>?_) fun e=>?_))
 ·rw[if_pos e]at h
  refine kat_yes (kat_cons (wpAny_eqBool_str (kat_go (fun e2=>?_) fun e2=>?_)))
  ·rw[if_pos (of_decide_eq_true e2)]at h
   exact kat_yes (kat_nil h)
  ·rw[if_neg (of_decide_eq_false e2)]at h
   refine kat_no (kat_one _ _ ?_)
   exact PyProof.Rows.lt_str h
 ·rw[if_neg (by rw[e];simp)]at h
  exact kat_no (oneLt_int h)
theorem zhf:∀{bs:List Addr} {ks:List (Int×Str)},bs.length=ks.length->(∀(i:Nat) b k,bs[i]? = some b->ks[i]? = some k->IsP s.heap b k)->∃fs:List Value,KatTups s.heap (bs.map Value.ref) fs/\fs.length=bs.length/\∀v∈fs,∃i t,v=.int i t
 | [],[],_,_=>⟨[],KatTups.nil,rfl,fun _ h=>nomatch h⟩
 | b::bs,k::ks,e,h=>by
  obtain⟨fs,h1,h2,h3⟩:=zhf (bs:=bs) (ks:=ks) (by simpa using e) fun i b' k' x y=>h (i+1) b' k' (by simpa using x) (by simpa using y)
  obtain⟨o,n,t,u,g1,g2,g3⟩:=h 0 b k rfl rfl
  refine⟨.int k.1 t::fs,KatTups.cons g1 g2 g3 rfl h1,by simp[h2],fun v hv=>?_⟩
  rcases List.mem_cons.mp hv with rfl | hv
  ·exact⟨_,_,rfl⟩
  ·exact h3 v hv
theorem pair_kind {bs:List Addr}{ks:List (Int×Str)}{Q:SortKind->Shared->Prop}(e:bs.length=ks.length)(hp:∀(i:Nat) b k,bs[i]? = some b->ks[i]? = some k->IsP s.heap b k)(h2:0<bs.length)(h:Q (tuples' true) s):wpAny (model prog w) A (keyKind' (bs.map Value.ref).toArray) Q E s:=by
 obtain⟨fs,h1,h3,h4⟩:=zhf e hp
 refine kat_kind (T:=.type "int") h1 (by omega) (fun v hv=>?_) (by decide) ?_
 ·obtain⟨i,t,rfl⟩:=h4 v hv
  exact .now
 ·have:(Value.type "int" != Value.type "tuple")=true:=by decide
  rw[this];exact h
noncomputable def refs (bs:List Addr)(l:List Nat):List Addr:=l.map fun i=>bs.getD i 0
theorem refs_vals {bs:List Addr}{l:List Nat}(h:∀x∈l,x<bs.length):(l.map fun i=>(bs.map Value.ref).getD i Value.none)=(refs bs l).map Value.ref:=by
 unfold refs
 rw[List.map_map]
 refine List.map_congr_left fun i hi=>?_
 have:=h i hi
 simp[List.getD,this]
theorem getD_some {α:Type}{l:List α}{i:Nat}(d:α)(h:i<l.length):l[i]? = some (l.getD i d):=by simp[List.getD,h]
theorem zlw {lt:Nat->Nat->Bool}{n:Nat}:∀x∈order lt n,x<n:=by
 by_cases h:2<=n
 ·exact (zh0 h).2
 ·unfold order
  rw[if_pos (by omega)]
  intro x hx;simpa using hx
theorem zij {l:Addr}{bs:List Addr}{ks:List (Int×Str)}{Q:Value->Shared->Prop}(hl:s.heap.IsList l (bs.map Value.ref).toArray)(e:bs.length=ks.length)(hp:∀(i:Nat) b k,bs[i]? = some b->ks[i]? = some k->IsP s.heap b k)(few:bs.length<64)
  (h:∀(g:Heap) (d:Addr) (c:Nat),s.heap.objs.size<=d->(∀b o,s.heap.get? b=some o->g.get? b=some o)->g.get? d=some (seqObj "list" ((refs bs (order (fun i j=>ltP (ks.getD i (0,"")) (ks.getD j (0,""))) bs.length)).map Value.ref).toArray c)->Q (.ref d) { s with heap:=g }) :
  wpAny (model prog w) A (call (.builtin "sorted") [.ref l]) Q E s:=by
 have fits:(bs.map Value.ref).toArray.size<=sizeLine:=by rw[List.size_toArray,List.length_map,sizeLine_eq];omega
 refine Calls.call_function_entry kind_sorted plain_sorted entry_sorted (args_sorted1 _) ?_
 unfold Builtin.«sorted»
 refine wpAny_bind (m:=checkCount _ _ _ _) (wpAny_pure (wpAny_bind (collect_list hl (wpAny_bind (wpAny_newList ?_ (by simpa using fits))) (by simpa using fits))))
 show wpAny _ _ _ _ _ { s with heap:=_ }
 generalize hg:((s.heap.push (seqObj "list" #[] 0)).update s.heap.objs.size _:Heap)=g0
 have sz:g0.objs.size=s.heap.objs.size+1:=by rw[<-hg,Heap.size_update,size_push']
 have kp0:∀b o,s.heap.get? b=some o->g0.get? b=some o:=fun b o x=>by
  rw[<-hg,Heap.get?_update_ne _ _ _ _ (Nat.ne_of_lt (Heap.lt_size x))]
  exact Heap.get?_push_of_some _ x
 have atD:(g0.push (seqObj "list" (bs.map Value.ref).toArray 0)).get? g0.objs.size=some (seqObj "list" (bs.map Value.ref).toArray 0):=Heap.get?_push_size _ rfl
 have kp1:∀b o,s.heap.get? b=some o->b≠g0.objs.size/\(g0.push (seqObj "list" (bs.map Value.ref).toArray 0)).get? b=some o:=fun b o x =>
  ⟨Nat.ne_of_lt (by rw[sz];exact Nat.lt_succ_of_lt (Heap.lt_size x)),Heap.get?_push_of_some _ (kp0 b o x)⟩
 have hlen:(bs.map Value.ref).length=bs.length:=List.length_map _
 refine wpAny_bind (wpAny_holding (wpAny_call_entry slot_list_sort ⟨_,atD,rfl⟩ entry_list_sort ?_ (args_list_sort _)))
 refine zg8 (κ:=tuples' true) (lt:=fun i j=>ltP (ks.getD i (0,"")) (ks.getD j (0,""))) atD (by rw[hlen];exact few) (fun h2 g Q' kp hq=>?_) (fun g i j C kp hi hj hC=>?_) fun g c kp at2=>⟨_,rfl,wpAny_pure ⟨_,rfl,?_⟩⟩
 ·refine pair_kind e (fun i b k hb hk=>(hp i b k hb hk).kept fun o x=>?_) (by rw[hlen]at h2;omega) hq
  exact kp b o (kp1 b o x).1 (kp1 b o x).2
 ·rw[hlen]at hi hj
  have gi:(bs.map Value.ref).getD i Value.none=.ref bs[i]:=by simp[List.getD,hi]
  have gj:(bs.map Value.ref).getD j Value.none=.ref bs[j]:=by simp[List.getD,hj]
  have ki:ks[i]? = some (ks.getD i (0,"")):=getD_some _ (by omega)
  have kj:ks[j]? = some (ks.getD j (0,"")):=getD_some _ (by omega)
  rw[gi,gj]
  exact pair_less ((hp i _ _ (List.getElem?_eq_getElem hi) ki).kept fun o x=>kp _ o (kp1 _ o x).1 (kp1 _ o x).2) ((hp j _ _ (List.getElem?_eq_getElem hj) kj).kept fun o x=>kp _ o (kp1 _ o x).1 (kp1 _ o x).2) hC
 ·rw[hlen,refs_vals zlw]at at2
  exact h g _ c (by rw[sz];exact Nat.le_succ _) (fun b o x=>kp b o (kp1 b o x).1 (kp1 b o x).2) at2
end
end ST
namespace L2
open PySem PySem.Spec PyProof.Rows
variable {X:Cx}
noncomputable def ordP (ks:List (Int×Str)):List Nat:=ST.order (fun i j=>ST.ltP (ks.getD i (0,"")) (ks.getD j (0,""))) ks.length
theorem zeu:∀(bs:List Addr),Vals (bs.map V.ref) (bs.map Value.ref)
 | []=>.nil
 | b::bs=>.cons rfl (zeu bs)
theorem isP_of {pins:List (Addr×Obj)}{σ:L2.St}{H:Hp}{s:Shared}{b:Addr}{k:Int×Str}(I:Inv X pins σ H s)(e:H b=some (.tup [.int k.1,.str k.2])):ST.IsP s.heap b k:=by
 obtain⟨_,its,r,o,h1,h2,n,h3⟩:=(show ObjOk X.prog X.w H s.heap b (.tup [.int k.1,.str k.2]) from I.hok b _ e)
 obtain⟨u,v,rfl,ru,rv⟩:=vals2 r
 obtain⟨t,rfl⟩:=ru
 obtain⟨t',rfl⟩:=rv
 exact⟨o,n,t,t',h1,h2,h3⟩
theorem ze3:CallR X (.builtin "sorted") (fun xs H Q=>∃(p:Addr) (bs:List Addr) (ks:List (Int×Str)),xs=[.ref p]/\SqL X.K H p (bs.map V.ref)/\bs.length=ks.length/\(∀(i:Nat) (b:Addr) (k:Int×Str),bs[i]? = some b->ks[i]? = some k->H b=some (.tup [.int k.1,.str k.2]))/\bs.length<64 /\
  ∀l,H l=none->Q (.ref l) (upd H l (.lst ((ST.refs bs (ordP ks)).map V.ref)))):=by
 intro pins s σ H xs us Q I r h
 obtain⟨p,bs,ks,rfl,hq,hbl,hH,few,q⟩:=h
 obtain⟨u,rfl,rx⟩:=vals1 r
 cases rx
 obtain⟨its,rv,pl,hz⟩:=I.list hq
 have hits:=zgr rv
 subst hits
 refine ST.zij pl.isList hbl (fun i b k hb hk=>isP_of I (hH i b k hb hk)) few fun g d c hd kp at2=>?_
 rw[hbl]at at2
 refine⟨.ref d,_,I.laid (t':=s.toks) kp hd (show ObjOk X.prog X.w _ g _ (.lst ((ST.refs bs (ordP ks)).map V.ref)) from ⟨?_,(ST.refs bs (ordP ks)).map Value.ref,c,zeu _,at2⟩),rfl,q _ (I.hok.fresh hd)⟩
 have hl:(ordP ks).length<=64:=by
  unfold ordP
  by_cases h2:2<=ks.length
  ·rw[(ST.zh0 h2).1];omega
  ·unfold ST.order;rw[if_pos (by omega),List.length_range];omega
 rw[List.length_map]
 unfold ST.refs
 rw[List.length_map,sizeLine_eq];omega
end L2
namespace M
open PySem PySem.Spec L2
noncomputable def pairsD:List D->Option (List (Int×Str))
 | []=>some []
 | .tup [.int i,.str cs]::r=>(pairsD r).map fun l=>(i,strOf cs)::l
 | _=>none
theorem zhq:∀{ds:List D} {ks:List (Int×Str)},pairsD ds=some ks->keysD ds=some (ks.map fun k=>[Sum.inl k.1,Sum.inr k.2])
 | [],ks,e=>by cases e;rfl
 | .tup [.int i,.str cs]::r,ks,e=>by
  rw[pairsD]at e
  cases e2:pairsD r with
  | none=>rw[e2]at e;cases e
  | some l =>
   rw[e2]at e;cases e
   rw[keysD,zhq e2];rfl
noncomputable def sortedV:List D->Stor->R D
 | [.loc n],st=>match itemsAt st n with
  | some ds=>(match pairsD ds with
   | some ks=>if ks.length<64 then .ok (.loc st.length) (st++[.lst ((ordP ks).map fun i=>ds.getD i .non)]) else .bad
   | none=>.bad)
  | none=>.bad
 | _,_=>.bad
theorem RepVs.pick {K:PySem.W.Frag}{μ:List Addr}{H:Hp}{ds:List D}{bs:List Addr}(h:RepVs K μ H ds (bs.map V.ref)):∀(l:List Nat),(∀x∈l,x<bs.length)->RepVs K μ H (l.map fun i=>ds.getD i .non) ((ST.refs bs l).map V.ref)
 | [],_=>RepVs.nil
 | i::l,hl=>by
  have hi:i<bs.length:=hl i (by simp)
  have hlen:=h.length
  rw[List.length_map]at hlen
  obtain⟨v,e1,e2⟩:=RepVs.get h (i:=i) (d:=ds.getD i .non) (ST.getD_some _ (by omega))
  rw[List.getElem?_map,ST.getD_some (0:Nat) hi]at e1
  cases e1
  exact RepVs.cons e2 (RepVs.pick h l fun x hx=>hl x (by simp[hx]))
variable {X:Cx}
theorem zfl:CallR X (.builtin "sorted") (rMC X sortedV):=by
 refine CallR.weak ze3 ?_
 rintro xs H Q ⟨μ,st,ds,hs,hv,hp⟩
 unfold sortedV at hp
 split at hp
 ·rename_i n
  cases e:itemsAt st n with
  | none=>rw[e]at hp;exact hp.elim
  | some ds =>
   rw[e]at hp
   cases e2:pairsD ds with
   | none=>simp only[e2]at hp;exact hp.elim
   | some ks =>
    simp only[e2]at hp
    split at hp
    ·rename_i few
     obtain⟨v,rfl,q⟩:=RepVs.one hv
     obtain⟨p,q1,rfl⟩:=RepV.loc_iff.mp q
     obtain⟨p',ys,r1,r2,r3⟩:=hs.items e
     rw[q1]at r1;cases r1
     obtain⟨bs,rfl,hl,hb⟩:=zh8 r3 (zhq e2)
     rw[List.length_map]at hl
     refine⟨p,bs,ks,rfl,r2,hl,fun i b k hi hk=>?_,by omega,fun l hn=>hp.newList hs (RepVs.pick r3 _ ?_) hn⟩
     ·exact hb i b _ hi (by rw[List.getElem?_map,hk];rfl)
     ·intro x hx
      unfold ordP at hx
      have:=ST.zlw x hx
      omega
    ·exact hp.elim
 ·exact hp.elim
end M
namespace M
open PySem PySem.Spec PySem.SeqAt L2
noncomputable def strsD:List D->Option (List (List Nat))
 | []=>some []
 | .str cs::r=>(strsD r).map fun l=>cs::l
 | _=>none
noncomputable def inTV (neg:Bool):D->D->Stor->R D
 | .str c,.tup ds,st=>match strsD ds with
  | some ks=>.ok (.bl (if neg then !decide (c∈ks) else decide (c∈ks))) st
  | none=>.bad
 | _,_,_=>.bad
noncomputable def isTxt (c:List Nat):Value->Bool
 | .str x _=>x==strOf c
 | _=>false
theorem zjm {K:PySem.W.Frag}{μ:List Addr}{H:Hp}{A:Around}{s:Shared}(c:List Nat)(u:Tok):∀{ds:List D} {xs:List V} {its:List Value} {ks:List (List Nat)},strsD ds=some ks->RepVs K μ H ds xs->Vals xs its->(∀w∈its,EqAt A s w (.str (strOf c) u) (isTxt c w))/\its.any (isTxt c)=decide (c∈ks)
 | [],xs,its,ks,e,h,r=>by
  cases e
  rw[RepVs]at h;subst h
  cases r
  exact⟨fun _ hw=>(nomatch hw),rfl⟩
 | d::ds,xs,its,ks,e,h,r=>by
  cases d with
  | str cs =>
   rw[strsD]at e
   cases e2:strsD ds with
   | none=>rw[e2]at e;cases e
   | some l =>
    rw[e2]at e;cases e
    rw[RepVs]at h
    obtain⟨z,zs,rfl,g1,g2⟩:=h
    obtain rfl:=RepV.str_iff.mp g1
    cases r with
    | cons r1 r2 =>
     obtain⟨t,rfl⟩:=r1
     obtain⟨i1,i2⟩:=zjm (A:=A) (s:=s) c u e2 g2 r2
     refine⟨fun w hw=>?_,?_⟩
     ·rcases List.mem_cons.mp hw with rfl | hw
      ·exact EqAt.str_str _ _ _ _
      ·exact i1 w hw
     ·rw[List.any_cons,i2]
      have:isTxt c (.str (strOf cs) t)=decide (c=cs):=by
       unfold isTxt
       rw[Bool.eq_iff_iff,beq_iff_eq,decide_eq_true_iff,ze6]
       exact eq_comm
      rw[this]
      simp
  | _=>cases e
variable {X:Cx}
theorem inT_core {pins:List (Addr×Obj)}{s:Shared}{σ:L2.St}{H:Hp}{x y:V}{v u:Value}{Q:VK}{neg:Bool}(I:Inv X pins σ H s)(rx:RelV x v)(ry:RelV y u)(h:rM X (inTV neg) x y H Q) :
  ∃(p:Addr) (its:List Value) (f:Value->Bool),u=.ref p/\s.heap.IsTuple p its.toArray/\(∀w∈its,EqAt X.A.in1 s w v (f w))/\Q (.bl (if neg then !its.any f else its.any f)) H:=by
 obtain⟨μ,st,dx,dy,hs,hx,hy,hp⟩:=h
 unfold inTV at hp
 split at hp
 ·rename_i c ds
  cases e:strsD ds with
  | none=>simp only[e]at hp;exact hp.elim
  | some ks =>
   simp only[e]at hp
   obtain rfl:=RepV.str_iff.mp hx
   obtain⟨t,rfl⟩:=rx
   obtain⟨p,ys,rfl,q1,q2⟩:=RepV.tup_iff.mp hy
   obtain rfl:u=Value.ref p:=ry
   obtain⟨its,r',pl,_⟩:=I.tuple q1.sqT
   obtain⟨k1,k2⟩:=zjm (A:=X.A.in1) (s:=s) c t e q2 r'
   refine⟨p,its,isTxt c,rfl,pl,k1,?_⟩
   rw[k2]
   exact hp.ret hs (RepV.bl_iff.mpr rfl)
 ·exact hp.elim
theorem zlx:OpR X (compareOp .NotIn) (rM X (inTV true)):=by
 intro pins s σ H x y v u Q I rx ry h
 obtain⟨p,its,f,rfl,pl,k1,q⟩:=inT_core I rx ry h
 refine SeqAt.notIn_tupleAt f pl (fun w hw=>k1 w (by simpa using hw)) ⟨.bl _,H,I,rfl,?_⟩
 have e:its.toArray.any f=its.any f:=by simp
 rw[e];exact q
end M
set_option maxHeartbeats 0
namespace Law
open PySem PySem.Spec L2 M
noncomputable def top (i:Nat):Stmt:=PySem.Challenge.pw_oneofall_k47_the_made_rules.main.body.getD i (.Pass ⟨0,0,0,0⟩)
noncomputable abbrev za1:Stmt:=top 4
noncomputable abbrev za6:Stmt:=(clsBody (top 5)).getD 0 (.Pass ⟨0,0,0,0⟩)
noncomputable abbrev zav:Stmt:=(clsBody (top 5)).getD 1 (.Pass ⟨0,0,0,0⟩)
noncomputable abbrev zby:Stmt:=top 8
noncomputable abbrev zb0:Stmt:=top 10
noncomputable abbrev zbm:Stmt:=top 11
noncomputable abbrev zbs:Stmt:=top 12
noncomputable abbrev zar:Stmt:=top 13
noncomputable abbrev zbp:Stmt:=top 14
noncomputable abbrev za5:Stmt:=top 15
noncomputable abbrev zbn:Stmt:=top 16
noncomputable abbrev zem:Stmt:=top 18
noncomputable abbrev zdp:Stmt:=top 19
noncomputable abbrev zb8:Stmt:=top 20
noncomputable abbrev zbf:Stmt:=top 21
noncomputable abbrev zbr:Stmt:=top 22
noncomputable abbrev zbo:Stmt:=top 23
noncomputable abbrev zcp:Stmt:=top 24
noncomputable abbrev zc7:Stmt:=top 25
noncomputable abbrev zej:Stmt:=top 26
noncomputable abbrev zck:Stmt:=top 27
noncomputable abbrev zc1:Stmt:=top 28
noncomputable abbrev zge:Stmt:=top 29
noncomputable abbrev zj0:Stmt:=(clsBody (top 1)).getD 0 (.Pass ⟨0,0,0,0⟩)
noncomputable def zbd:MS :=
  (seqS (setS 1 dicE)
  (seqS (forS (enumI (consA (vr 0) nilA)) (tupG 2 (consG (nameG 2) (consG (nameG 3) nilG))) (seqS (setS 4 (tupE (consA (op2 ixV (vr 3) (ct (.int 0))) (consA (op2 ixV (vr 3) (ct (.int 1))) nilA))))
  (seqS (ifS (tB1 (op2 (inDV false) (vr 4) (vr 1))) (raiseS "NoProgram" (consA (vr 2) nilA)) skipS)
  (asgS (ct (.bl true)) (subG setDV (vr 1) (vr 4))))))
  (retS (ct (.bl true)))))
noncomputable def zbw:FD:=gcFX (fnM 5 zbd)
noncomputable def zbj:MS :=
  (seqS (setFldS "Numbers" "first" (vr 0) (vr 1))
  (setFldS "Numbers" "given" (vr 0) dicE))
noncomputable def za8:FD:=gcFM (fnM 2 zbj)
noncomputable def zax:MS :=
  (seqS (ifS (tB1 (op2 (inDV true) (vr 1) (fldE "Numbers" "given" (vr 0)))) (asgS (op2 addV (fldE "Numbers" "first" (vr 0)) (callE lenW (consA (fldE "Numbers" "given" (vr 0)) nilA))) (subG setDV (fldE "Numbers" "given" (vr 0)) (vr 1))) skipS)
  (retS (op2 ixD (fldE "Numbers" "given" (vr 0)) (vr 1))))
noncomputable def zaw:FD:=gcFM (fnM 2 zax)
noncomputable def zbx:MS :=
  (retS (callX zbw [] (consA (vr 0) nilA)))
noncomputable def zbz:FD:=gcFX (fnM 1 zbx)
noncomputable def zb3:MS :=
  (seqS (setS 1 dkE)
  (seqS (forS (dtI (vr 0)) (nameG 2) (asgS (ct (.bl true)) (subG setK (vr 1) (op2 ixV (vr 2) (ct (.int 1))))))
  (retS (vr 1))))
noncomputable def zbc:FD:=gcF (fnM 3 zb3)
noncomputable def za2:MS :=
  (retS (compE [some 0,some 2,none] (strI (vr 1)) (nameG 2) yesT (tupE (consA (vr 0) (consA (vr 2) (consA (vr 2) (consA (vr 1) (consA (vr 0) nilA))))))))
noncomputable def zap:FD:=gcF (fnM 3 za2)
noncomputable def zbq:MS :=
  (retS (methI "Numbers" "number" zaw (vr 0) (consA (tupE (consA (ct (.str [98,97,99,107])) (consA (vr 1) nilA))) nilA)))
noncomputable def za4:FD:=gcFM (fnM 2 zbq)
noncomputable def za3:MS :=
  (retS (methI "Numbers" "number" zaw (vr 0) (consA (tupE (consA (ct (.str [103,114,111,119])) (consA (vr 1) (consA (vr 2) nilA)))) nilA)))
noncomputable def zaj:FD:=gcFM (fnM 3 za3)
noncomputable def zbl:MS :=
  (seqS (setS 3 (callF zaj [] (consA (vr 0) (consA (vr 1) (consA (vr 2) nilA)))))
  (seqS (ifS (tB1 (op2 (eqV 200) (vr 1) (ct (.str [])))) (retS (tupE (consA (vr 3) (consA (ct (.str [95])) (consA (ct (.str [95])) (consA (ct (.str [108])) (consA (callF za4 [] (consA (vr 0) (consA (vr 2) nilA))) nilA))))))) skipS)
  (retS (tupE (consA (vr 3) (consA (ct (.str [95])) (consA (op2 ixV (vr 1) (ct (.int 0))) (consA (ct (.str [114])) (consA (callF zaj [] (consA (vr 0) (consA (slE (vr 1) (inP (ct (.int 1))) noP) (consA (vr 2) nilA)))) nilA)))))))))
noncomputable def za9:FD:=gcFM (fnM 4 zbl)
noncomputable def zb4:MS :=
  (seqS (setS 1 dicE)
  (seqS (forS (dtI (vr 0)) (nameG 2) (forS (range1I (consA (op2 addV (callE lenW (consA (op2 ixV (vr 2) (ct (.int 0))) nilA)) (ct (.int 1))) nilA)) (nameG 3) (asgS (ct (.bl true)) (subG setDV (vr 1) (tupE (consA (slE (op2 ixV (vr 2) (ct (.int 0))) (inP (vr 3)) noP) (consA (op2 ixV (vr 2) (ct (.int 1))) nilA)))))))
  (retS (vr 1))))
noncomputable def zci:FD:=gcF (fnM 4 zb4)
noncomputable def zba:MS :=
  (seqS (setS 3 (makeE "Numbers" za8 (consA (op2 addV (vr 2) (ct (.int 1))) nilA)))
  (seqS (setS 4 (lstE nilA))
  (seqS (setS 5 dicE)
  (seqS (forS (seqI (vr 0)) (nameG 6) (seqS (asgS (ct (.bl true)) (subG setDV (vr 5) (tupE (consA (op2 ixV (vr 6) (ct (.int 2))) (consA (op2 ixV (vr 6) (ct (.int 3))) nilA)))))
  (exprS (methE "list" appendV (vr 4) (consA (tupE (consA (op2 ixV (vr 6) (ct (.int 0))) (consA (op2 ixV (vr 6) (ct (.int 1))) (consA (ct (.str [95])) (consA (ct (.str [114])) (consA (callF zaj [] (consA (vr 3) (consA (op2 ixV (vr 6) (ct (.int 2))) (consA (op2 ixV (vr 6) (ct (.int 3))) nilA)))) nilA)))))) nilA)))))
  (seqS (forS (dtI (vr 5)) (nameG 7) (seqS (setS 8 (callF zaj [] (consA (vr 3) (consA (op2 ixV (vr 7) (ct (.int 0))) (consA (op2 ixV (vr 7) (ct (.int 1))) nilA)))))
  (exprS (methE "list" extendV (vr 4) (consA (callF zap [] (consA (vr 8) (consA (vr 1) (consA (ct (.str [114])) nilA)))) nilA)))))
  (seqS (setS 9 (callF zci [] (consA (vr 5) nilA)))
  (seqS (forS (dtI (vr 9)) (nameG 10) (exprS (methE "list" appendV (vr 4) (consA (callF za9 [] (consA (vr 3) (consA (op2 ixV (vr 10) (ct (.int 0))) (consA (op2 ixV (vr 10) (ct (.int 1))) nilA)))) nilA))))
  (seqS (forS (dkI (callF zbc [] (consA (vr 5) nilA))) (nameG 11) (seqS (setS 8 (callF za4 [] (consA (vr 3) (consA (vr 11) nilA))))
  (seqS (exprS (methE "list" extendV (vr 4) (consA (callF zap [] (consA (vr 8) (consA (vr 1) (consA (ct (.str [108])) nilA)))) nilA)))
  (exprS (methE "list" appendV (vr 4) (consA (tupE (consA (vr 8) (consA (ct (.str [95])) (consA (ct (.str [95])) (consA (ct (.str [114])) (consA (vr 11) nilA)))))) nilA))))))
  (retS (vr 4))))))))))
noncomputable def zbb:FD:=gcF (fnM 12 zba)
noncomputable def zcg:MS :=
  (seqS (ifS (tB1 (op2 ltV (vr 1) (callE lenW (consA (vr 0) nilA)))) (retS (op2 ixV (vr 0) (vr 1))) skipS)
  (seqS (setS 2 (op2 addV (op2 mulV (vr 1) (ct (.int 7919))) (ct (.int 5))))
  (seqS (ifS (tB1 (op2 gtV (callE lenW (consA (vr 0) nilA)) (ct (.int 0)))) (setS 2 (op2 modV (op2 addV (op2 mulV (op2 ixV (vr 0) (op2 modV (op2 mulV (vr 1) (ct (.int 7))) (callE lenW (consA (vr 0) nilA)))) (ct (.int 48271))) (op2 mulV (vr 1) (ct (.int 7919)))) (ct (.int 2147483647)))) skipS)
  (retS (op2 modV (op2 mulV (vr 2) (vr 2)) (ct (.int 2147483629)))))))
noncomputable def zcd:FD:=gcF (fnM 3 zcg)
noncomputable def zda:MS :=
  (retS (andV (op1 (isV "int") (vr 0)) (notV (op1 (isV "bool") (vr 0)))))
noncomputable def zdo:FD:=gcF (fnM 1 zda)
noncomputable def zcr:MS :=
  (seqS (setS 1 (ct (.str [97,98,99,100,101,102,103,104,105,106,107,108,109,110,111,112,113,114,115,116,117,118,119,120,121,122])))
  (seqS (setS 2 (callF zcd [] (consA (vr 0) (consA (ct (.int 0)) nilA))))
  (seqS (setS 3 (op2 fdivV (vr 2) (ct (.int 4))))
  (seqS (setS 4 (ct (.str [])))
  (seqS (forS (range1I (consA (op2 addV (ct (.int 1)) (op2 modV (vr 2) (ct (.int 4)))) nilA)) (nameG 5) (seqS (setS 6 (op2 modV (vr 3) (callE lenW (consA (vr 1) nilA))))
  (seqS (setS 3 (op2 fdivV (vr 3) (callE lenW (consA (vr 1) nilA))))
  (seqS (setS 4 (op2 addV (vr 4) (op2 ixV (vr 1) (vr 6))))
  (setS 1 (op2 addV (slE (vr 1) noP (inP (vr 6))) (slE (vr 1) (inP (op2 addV (vr 6) (ct (.int 1)))) noP)))))))
  (retS (vr 4)))))))
noncomputable def zc5:FD:=gcF (fnM 7 zcr)
noncomputable def zbv:MS :=
  (seqS (setS 1 (callF zcd [] (consA (vr 0) (consA (ct (.int 1)) nilA))))
  (seqS (setS 2 (op2 ixV (lstE (consA (ct (.int 1)) (consA (ct (.int 900)) nilA))) (op2 modV (op2 fdivV (vr 1) (ct (.int 5))) (ct (.int 2)))))
  (seqS (setS 3 (op2 fdivV (vr 1) (ct (.int 10))))
  (seqS (setS 4 (lstE nilA))
  (seqS (forS (range1I (consA (op2 addV (ct (.int 1)) (op2 modV (vr 1) (ct (.int 5)))) nilA)) (nameG 5) (seqS (exprS (methE "list" appendV (vr 4) (consA (op2 addV (op2 addV (callE sumV (consA (slE (vr 4) (inP (op1 negV (ct (.int 1)))) noP) nilA)) (callE intC (consA (op2 gtV (vr 5) (ct (.int 0))) nilA))) (op2 modV (vr 3) (vr 2))) nilA)))
  (setS 3 (op2 fdivV (vr 3) (vr 2)))))
  (retS (vr 4)))))))
noncomputable def zcc:FD:=gcF (fnM 6 zbv)
noncomputable def zb5:MS :=
  (seqS (setS 3 (ct (.str [])))
  (seqS (setS 4 (op2 fdivV (vr 0) (ct (.int 2))))
  (seqS (forS (range1I (consA (vr 1) nilA)) (nameG 5) (ifS (tB1 (op2 (eqV 200) (op2 modV (vr 0) (ct (.int 2))) (ct (.int 1)))) (seqS (setS 4 (op2 modV (op2 addV (op2 addV (op2 mulV (vr 4) (ct (.int 48271))) (op2 mulV (ct (.int 7919)) (vr 5))) (ct (.int 11))) (ct (.int 2147483647))))
  (setS 3 (op2 addV (vr 3) (op2 ixV (vr 2) (op2 modV (op2 fdivV (vr 4) (ct (.int 64))) (callE lenW (consA (vr 2) nilA))))))) (seqS (setS 3 (op2 addV (vr 3) (op2 ixV (vr 2) (op2 modV (vr 4) (callE lenW (consA (vr 2) nilA))))))
  (setS 4 (op2 fdivV (vr 4) (callE lenW (consA (vr 2) nilA)))))))
  (retS (vr 3)))))
noncomputable def zcn:FD:=gcF (fnM 6 zb5)
noncomputable def zb6:MS :=
  (seqS (setS 2 (op2 ixV (lstE (consA (ct (.int 0)) (consA (ct (.int 1)) (consA (ct (.int 1)) (consA (ct (.int 2)) (consA (ct (.int 3)) (consA (op2 modV (op2 fdivV (vr 0) (ct (.int 6))) (ct (.int 9))) nilA))))))) (op2 modV (vr 0) (ct (.int 6)))))
  (retS (callF zcn [] (consA (op2 fdivV (vr 0) (ct (.int 54))) (consA (vr 2) (consA (vr 1) nilA))))))
noncomputable def zch:FD:=gcF (fnM 3 zb6)
noncomputable def zc2:MS :=
  (seqS (setS 4 (lstE nilA))
  (seqS (forS (range1I (consA (op2 mulV (callE lenW (consA (vr 1) nilA)) (callE lenW (consA (vr 2) nilA))) nilA)) (nameG 5) (seqS (setS 6 (callF zcd [] (consA (vr 0) (consA (op2 addV (vr 3) (vr 5)) nilA))))
  (ifS (tB1 (op2 gtV (op2 modV (vr 6) (ct (.int 5))) (ct (.int 0)))) (seqS (setS 7 (op2 ixV (vr 2) (op2 modV (op2 fdivV (vr 6) (ct (.int 5))) (callE lenW (consA (vr 2) nilA)))))
  (exprS (methE "list" appendV (vr 4) (consA (tupE (consA (op2 ixV (vr 2) (op2 fdivV (vr 5) (callE lenW (consA (vr 1) nilA)))) (consA (op2 ixV (vr 1) (op2 modV (vr 5) (callE lenW (consA (vr 1) nilA)))) (consA (callF zch [] (consA (op2 fdivV (vr 6) (ct (.int 25))) (consA (vr 1) nilA))) (consA (vr 7) nilA))))) nilA)))) skipS)))
  (retS (vr 4))))
noncomputable def zdq:FD:=gcF (fnM 8 zc2)
noncomputable def zdz:MS :=
  (seqS (setS 2 (ct (.str [97,98,99,100,101,102,103,104,105,106,107,108,109,110,111,112,113,114,115,116,117,118,119,120,121,122])))
  (seqS (setS 3 (methE "str" joinV (ct (.str [])) (consA (compE [some 1,none] (strI (vr 2)) (nameG 1) (tB1 (op2 notInSV (vr 1) (vr 0))) (vr 1)) nilA)))
  (seqS (setS 4 (op2 modV (callF zcd [] (consA (vr 0) (consA (ct (.int 3)) nilA))) (callE lenW (consA (vr 3) nilA))))
  (retS (op2 addV (vr 1) (slE (op2 addV (slE (vr 3) (inP (vr 4)) noP) (slE (vr 3) noP (inP (vr 4)))) noP (inP (op2 modV (op2 fdivV (callF zcd [] (consA (vr 0) (consA (ct (.int 3)) nilA))) (ct (.int 26))) (ct (.int 4))))))))))
noncomputable def ze8:FD:=gcF (fnM 5 zdz)
noncomputable def zfb:MS :=
  (seqS (ifS (notT (tru (op1 (isV "list") (vr 0)))) (retS (ct (.bl false))) skipS)
  (seqS (forS (seqI (vr 0)) (nameG 1) (seqS (ifS (orT (notT (tru (op1 (isV "tuple") (vr 1)))) (orT (tB1 (op2 (neV 200) (callE lenW (consA (vr 1) nilA)) (ct (.int 5)))) (orT (notT (tru (callF zdo [] (consA (op2 ixV (vr 1) (ct (.int 0))) nilA)))) (notT (tru (callF zdo [] (consA (op2 ixV (vr 1) (ct (.int 4))) nilA))))))) (retS (ct (.bl false))) skipS)
  (seqS (ifS (orT (tB1 (op2 ltV (op2 ixV (vr 1) (ct (.int 0))) (ct (.int 0)))) (orT (tB1 (op2 ltV (op2 ixV (vr 1) (ct (.int 4))) (ct (.int 0)))) (tB1 (op2 (inTV true) (op2 ixV (vr 1) (ct (.int 3))) (tupE (consA (ct (.str [108])) (consA (ct (.str [114])) nilA))))))) (retS (ct (.bl false))) skipS)
  (forS (seqI (slE (vr 1) (inP (ct (.int 1))) (inP (ct (.int 3))))) (nameG 2) (ifS (orT (notT (tru (op1 (isV "str") (vr 2)))) (orT (tB1 (op2 (neV 200) (callE lenW (consA (vr 2) nilA)) (ct (.int 1)))) (tB1 (op2 notInSV (vr 2) (ct (.str [97,98,99,100,101,102,103,104,105,106,107,108,109,110,111,112,113,114,115,116,117,118,119,120,121,122,95])))))) (retS (ct (.bl false))) skipS)))))
  (retS (ct (.bl true)))))
noncomputable def zg7:FD:=gcF (fnM 3 zfb)
noncomputable def zc4:MS :=
  (seqS (ifS (notT (tru (callF zg7 [] (consA (vr 0) nilA)))) (retS (ct (.bl false))) skipS)
  (seqS (setS 4 (compE [none] (seqI (vr 0)) (nameG 0) yesT (slE (vr 0) noP (inP (ct (.int 2))))))
  (seqS (ifS (tB1 (op2 (neV 200) (op1 lenSetV (vr 4)) (callE lenW (consA (vr 4) nilA)))) (retS (ct (.bl false))) skipS)
  (seqS (setS 5 (callE sortedV (consA (compE [some 3,some 2,none] (seqI (vr 4)) (nameG 2) (andT (tB1 (op2 leV (op2 ixV (vr 2) (ct (.int 0))) (vr 0))) (tB1 (op2 inSV (op2 ixV (vr 2) (ct (.int 1))) (op2 addV (vr 1) (ct (.str [95])))))) (vr 2)) nilA)))
  (retS (op2 (eqV 200) (vr 5) (callE sortedV (consA (compE [none] (seqI (vr 1)) (nameG 0) yesT (slE (vr 0) noP (inP (ct (.int 2))))) nilA))))))))
noncomputable def zc6:FD:=gcF (fnM 6 zc4)
noncomputable def zdh:MS :=
  (seqS (setS 2 (callX zbz [] (consA (callE listC (consA (vr 0) nilA)) nilA)))
  (seqS (ifS (orT (notT (tru (op1 (isV "bool") (vr 2)))) (notT (tru (vr 2)))) (retS (ct (.bl false))) skipS)
  (seqS (ifS (tB1 (op2 (eqV 200) (vr 0) (lstE nilA))) (retS (ct (.bl true))) skipS)
  (seqS (setS 3 (ct .non))
  (seqS (tryS none 4 3 zbz [] (consA (op2 addV (callE listC (consA (vr 0) nilA)) (lstE (consA (op2 ixV (vr 0) (op2 modV (vr 1) (callE lenW (consA (vr 0) nilA)))) nilA))) nilA) exCls)
  (retS (andV (op1 (isXV "NoProgram") (vr 3)) (andV (callF zdo [] (consA (op1 atV (vr 3)) nilA)) (op2 (eqV 200) (op1 atV (vr 3)) (callE lenW (consA (vr 0) nilA)))))))))))
noncomputable def zde:FD:=gcF (fnM 5 zdh)
noncomputable def zi4:MS :=
  (seqS (setS 1 (callF zc5 [] (consA (vr 0) nilA)))
  (seqS (setS 2 (callF zcc [] (consA (vr 0) nilA)))
  (seqS (setS 3 (callF zdq [] (consA (vr 0) (consA (vr 1) (consA (vr 2) (consA (ct (.int 8)) nilA))))))
  (seqS (setS 4 (op2 addV (op2 ixV (vr 2) (op1 negV (ct (.int 1)))) (op2 ixV (lstE (consA (ct (.int 0)) (consA (op2 modV (op2 fdivV (callF zcd [] (consA (vr 0) (consA (ct (.int 5)) nilA))) (ct (.int 3))) (ct (.int 31))) (consA (ct (.int 1)) nilA)))) (op2 modV (callF zcd [] (consA (vr 0) (consA (ct (.int 5)) nilA))) (ct (.int 3))))))
  (seqS (setS 5 (callF ze8 [] (consA (vr 0) (consA (vr 1) nilA))))
  (seqS (setS 6 (callF zbb [] (consA (vr 3) (consA (vr 5) (consA (vr 4) nilA)))))
  (seqS (ifS (orT (notT (tru (callF zc6 [] (consA (vr 6) (consA (vr 3) (consA (vr 5) (consA (vr 4) nilA))))))) (notT (tru (callF zde [] (consA (vr 6) (consA (callF zcd [] (consA (vr 0) (consA (ct (.int 4)) nilA))) nilA)))))) (retS (ct (.bl false))) skipS)
  (seqS (setS 7 (slE (vr 3) noP (inP (op2 fdivV (callE lenW (consA (vr 3) nilA)) (ct (.int 2))))))
  (seqS (ifS (notT (tru (callF zc6 [] (consA (callF zbb [] (consA (vr 7) (consA (vr 1) (consA (op2 addV (vr 4) (ct (.int 1))) nilA)))) (consA (vr 7) (consA (vr 1) (consA (op2 addV (vr 4) (ct (.int 1))) nilA))))))) (retS (ct (.bl false))) skipS)
  (seqS (ifS (notT (tru (callF zc6 [] (consA (callF zbb [] (consA (lstE nilA) (consA (vr 5) (consA (vr 4) nilA)))) (consA (lstE nilA) (consA (vr 5) (consA (vr 4) nilA))))))) (retS (ct (.bl false))) skipS)
  (seqS (setS 8 (callE listC (consA (vr 6) nilA)))
  (seqS (exprS (meth0E "list" clearV (vr 6)))
  (retS (op2 (eqV 200) (callF zbb [] (consA (vr 3) (consA (vr 5) (consA (vr 4) nilA)))) (vr 8)))))))))))))))
noncomputable def zhm:FD:=gcF (fnM 9 zi4)
set_option genInjectivity false in
structure Adr where
 a_p_look_at_rules:Addr
 d_p_look_at_rules:FuncData
 a_p_Numbers_init:Addr
 d_p_Numbers_init:FuncData
 a_p_Numbers_number:Addr
 d_p_Numbers_number:FuncData
 a_p_tape_look:Addr
 d_p_tape_look:FuncData
 a_p_make_tape:Addr
 d_p_make_tape:FuncData
 a_p_grow_state:Addr
 d_p_grow_state:FuncData
 a_p_back_state:Addr
 d_p_back_state:FuncData
 a_p_passing_rules:Addr
 d_p_passing_rules:FuncData
 a_p_words_left:Addr
 d_p_words_left:FuncData
 a_p_growing_rule:Addr
 d_p_growing_rule:FuncData
 a_p_targets_of:Addr
 d_p_targets_of:FuncData
 a_l_cell:Addr
 d_l_cell:FuncData
 a_l_whole:Addr
 d_l_whole:FuncData
 a_l_alphabet:Addr
 d_l_alphabet:FuncData
 a_l_some_states:Addr
 d_l_some_states:FuncData
 a_l_drawn_text:Addr
 d_l_drawn_text:FuncData
 a_l_drawn_word:Addr
 d_l_drawn_word:FuncData
 a_l_program:Addr
 d_l_program:FuncData
 a_l_wider:Addr
 d_l_wider:FuncData
 a_l_form:Addr
 d_l_form:FuncData
 a_l_right:Addr
 d_l_right:FuncData
 a_l_looked:Addr
 d_l_looked:FuncData
 a_p_law:Addr
 d_p_law:FuncData
 c_Numbers:Addr
 a_init:Addr
 d_init:FuncData
 c_One:Addr
 c_P:Addr
 c_T:Addr
structure Txt (K:PySem.W.Frag)(mg:Str->Option Value)(A:Adr):Prop where
 f_p_look_at_rules:Fun K "look_at_rules" "look_at_rules" za1 A.a_p_look_at_rules A.d_p_look_at_rules
 m_p_look_at_rules:mg "look_at_rules" = some (.ref A.a_p_look_at_rules)
 zbd:Binds K A.d_p_look_at_rules ["rules"] []
 f_p_Numbers_init:Fun K "__init__" "Numbers.__init__" za6 A.a_p_Numbers_init A.d_p_Numbers_init
 m_p_Numbers_init:Mk K A.c_Numbers A.a_p_Numbers_init
 zbj:Binds K A.d_p_Numbers_init ["self","first"] []
 f_p_Numbers_number:Fun K "number" "Numbers.number" zav A.a_p_Numbers_number A.d_p_Numbers_number
 m_p_Numbers_number:Meth K A.c_Numbers "number" A.a_p_Numbers_number
 zax:Binds K A.d_p_Numbers_number ["self","key"] []
 f_p_tape_look:Fun K "tape_look" "tape_look" zby A.a_p_tape_look A.d_p_tape_look
 m_p_tape_look:mg "tape_look" = some (.ref A.a_p_tape_look)
 zbx:Binds K A.d_p_tape_look ["rules"] []
 f_p_make_tape:Fun K "make_tape" "make_tape" zb0 A.a_p_make_tape A.d_p_make_tape
 m_p_make_tape:mg "make_tape" = some (.ref A.a_p_make_tape)
 zba:Binds K A.d_p_make_tape ["rules","signs","top"] []
 f_p_grow_state:Fun K "grow_state" "grow_state" zbm A.a_p_grow_state A.d_p_grow_state
 m_p_grow_state:mg "grow_state" = some (.ref A.a_p_grow_state)
 za3:Binds K A.d_p_grow_state ["numbers","word","target"] []
 f_p_back_state:Fun K "back_state" "back_state" zbs A.a_p_back_state A.d_p_back_state
 m_p_back_state:mg "back_state" = some (.ref A.a_p_back_state)
 zbq:Binds K A.d_p_back_state ["numbers","target"] []
 f_p_passing_rules:Fun K "passing_rules" "passing_rules" zar A.a_p_passing_rules A.d_p_passing_rules
 m_p_passing_rules:mg "passing_rules" = some (.ref A.a_p_passing_rules)
 za2:Binds K A.d_p_passing_rules ["state","signs","move"] []
 f_p_words_left:Fun K "words_left" "words_left" zbp A.a_p_words_left A.d_p_words_left
 m_p_words_left:mg "words_left" = some (.ref A.a_p_words_left)
 zb4:Binds K A.d_p_words_left ["walks"] []
 f_p_growing_rule:Fun K "growing_rule" "growing_rule" za5 A.a_p_growing_rule A.d_p_growing_rule
 m_p_growing_rule:mg "growing_rule" = some (.ref A.a_p_growing_rule)
 zbl:Binds K A.d_p_growing_rule ["numbers","word","target"] []
 f_p_targets_of:Fun K "targets_of" "targets_of" zbn A.a_p_targets_of A.d_p_targets_of
 m_p_targets_of:mg "targets_of" = some (.ref A.a_p_targets_of)
 zb3:Binds K A.d_p_targets_of ["walks"] []
 f_l_cell:Fun K "_law_cell" "_law_cell" zem A.a_l_cell A.d_l_cell
 m_l_cell:mg "_law_cell" = some (.ref A.a_l_cell)
 zcg:Binds K A.d_l_cell ["_law_script","_law_k"] []
 f_l_whole:Fun K "_law_whole" "_law_whole" zdp A.a_l_whole A.d_l_whole
 m_l_whole:mg "_law_whole" = some (.ref A.a_l_whole)
 zda:Binds K A.d_l_whole ["_law_found"] []
 f_l_alphabet:Fun K "_law_alphabet" "_law_alphabet" zb8 A.a_l_alphabet A.d_l_alphabet
 m_l_alphabet:mg "_law_alphabet" = some (.ref A.a_l_alphabet)
 zcr:Binds K A.d_l_alphabet ["_law_script"] []
 f_l_some_states:Fun K "_law_some_states" "_law_some_states" zbf A.a_l_some_states A.d_l_some_states
 m_l_some_states:mg "_law_some_states" = some (.ref A.a_l_some_states)
 zbv:Binds K A.d_l_some_states ["_law_script"] []
 f_l_drawn_text:Fun K "_law_drawn_text" "_law_drawn_text" zbr A.a_l_drawn_text A.d_l_drawn_text
 m_l_drawn_text:mg "_law_drawn_text" = some (.ref A.a_l_drawn_text)
 zb5:Binds K A.d_l_drawn_text ["_law_cell_here","_law_many","_law_signs"] []
 f_l_drawn_word:Fun K "_law_drawn_word" "_law_drawn_word" zbo A.a_l_drawn_word A.d_l_drawn_word
 m_l_drawn_word:mg "_law_drawn_word" = some (.ref A.a_l_drawn_word)
 zb6:Binds K A.d_l_drawn_word ["_law_cell_here","_law_signs"] []
 f_l_program:Fun K "_law_program" "_law_program" zcp A.a_l_program A.d_l_program
 m_l_program:mg "_law_program" = some (.ref A.a_l_program)
 zc2:Binds K A.d_l_program ["_law_script","_law_signs","_law_states","_law_at"] []
 f_l_wider:Fun K "_law_wider" "_law_wider" zc7 A.a_l_wider A.d_l_wider
 m_l_wider:mg "_law_wider" = some (.ref A.a_l_wider)
 zdz:Binds K A.d_l_wider ["_law_script","_law_signs"] []
 f_l_form:Fun K "_law_form" "_law_form" zej A.a_l_form A.d_l_form
 m_l_form:mg "_law_form" = some (.ref A.a_l_form)
 zfb:Binds K A.d_l_form ["_law_made"] []
 f_l_right:Fun K "_law_right" "_law_right" zck A.a_l_right A.d_l_right
 m_l_right:mg "_law_right" = some (.ref A.a_l_right)
 zc4:Binds K A.d_l_right ["_law_made","_law_rules","_law_signs","_law_top"] []
 f_l_looked:Fun K "_law_looked" "_law_looked" zc1 A.a_l_looked A.d_l_looked
 m_l_looked:mg "_law_looked" = some (.ref A.a_l_looked)
 zdh:Binds K A.d_l_looked ["_law_made","_law_cell_here"] []
 f_p_law:Fun K "law" "law" zge A.a_p_law A.d_p_law
 m_p_law:mg "law" = some (.ref A.a_p_law)
 zi4:Binds K A.d_p_law ["_law_script"] []
 c0_Numbers:PySem.W.nsIn K mainGlobals "Numbers" = some (some (.ref A.c_Numbers))
 cm_Numbers:mg "Numbers" = some (.ref A.c_Numbers)
 cc_Numbers:Cls K A.c_Numbers
 na_Numbers_first:NoAttr K A.c_Numbers "first"
 na_Numbers_given:NoAttr K A.c_Numbers "given"
 x_i:Fun K "__init__" "OneError.__init__" zj0 A.a_init A.d_init
 x_b:Binds K A.d_init ["self","at"] []
 x_k:ExcK K A.c_One A.a_init A.c_P A.c_T
 x_m1:mg "OneError" = some (.ref A.c_One)
 x_mP:mg "NoProgram" = some (.ref A.c_P)
 x_mT:mg "NoProgram" = some (.ref A.c_T)
 x_eP:PySem.W.keepIn K (.ref A.c_P)=true
 x_eT:PySem.W.keepIn K (.ref A.c_T)=true
 v_BLANK:∃t,mg "BLANK" = some (.str "_" t)
 z_ValueError:mg "ValueError" = none
 z_bool:mg "bool" = none
 z_enumerate:mg "enumerate" = none
 z_int:mg "int" = none
 z_isinstance:mg "isinstance" = none
 z_len:mg "len" = none
 z_list:mg "list" = none
 z_range:mg "range" = none
 z_set:mg "set" = none
 z_sorted:mg "sorted" = none
 z_str:mg "str" = none
 z_sum:mg "sum" = none
 z_tuple:mg "tuple" = none
section
variable {P:Program}{w:World}{K:PySem.W.Frag}{mg:Str->Option Value}{base:Heap}{Ad:Adr}
theorem sc_init:FnScope ["self","at"] ["self","at"] (defScope zj0):=⟨rfl,rfl,rfl,by decide +kernel,rfl,by decide +kernel,by decide +kernel⟩
theorem ok_init (T:Txt K mg Ad){C:Addr}(hT:∀h,K.In h->Two h C Ad.c_One Ad.a_init):FnOk P w K mg base CX0 1 Ad.a_init Ad.d_init ["self","at"] (spI C) :=
 init_fn T.x_i sc_init fun cdv A outer s H E=>zls (ps_expr (pe_base hT rfl T.z_ValueError (zfe (pv 0) (zfe (pe_fstr (pv 1)) pa_nil)))) (zkz (ps_at hT (pv 0) (pv 1) rfl))
theorem za7:FnScope ["rules","seen","at","rule","key"] ["rules"] (defScope za1):=⟨rfl,rfl,rfl,by decide +kernel,rfl,by decide +kernel,by decide +kernel⟩
theorem zei (T:Txt K mg Ad):FnOk P w K mg base (CXM P w) 3 Ad.a_p_look_at_rules Ad.d_p_look_at_rules ["rules"] (spX K 1 zbw):=by
 refine FnOk.imp (fn_okX (m:=zbd) T.f_p_look_at_rules za7 fun cdv A outer s H E W hr=>?_) fun vs H Q E h=>sp_gcX h
 exact (zad (zas 1 ziv za7.nd)
  (zad (zdy (ji_enum (zaa (zab 0) zae) rfl T.z_enumerate) (jg_tup 2 rfl (zkk (zb2 2 za7.nd) (zkk (zb2 3 za7.nd) jgs_nil))) (zad (zas 4 (zez (zaa (je_ix (zab 3) zaf) (zaa (je_ix (zab 3) zaf) zae))) za7.nd)
  (zad (js_if (zdc (op_inDV (hu_of hr)) (zab 4) (zab 1) rfl) (zan (js_raise (ok_init T (fun h X=>two_ok T.x_k.tP X)) (fun h X=>two_ok T.x_k.tP X) (hr.mono (by decide)) T.x_b T.x_k.nP rfl T.x_mP T.x_eP rfl (zaa (zab 2) zae))) zdi)
  (zan (zl1 je_bl (zku (set_DV (hu_of hr)) (zab 1) (zab 4)))))) (Rz.passes ⟨rfl,rfl,rfl⟩) rfl)
  (zan (zbk je_bl))))
theorem ze2:FnScope ["self","first"] ["self","first"] (defScope za6):=⟨rfl,rfl,rfl,by decide +kernel,rfl,by decide +kernel,by decide +kernel⟩
theorem ze0 (T:Txt K mg Ad):FnOk P w K mg base CX0 1 Ad.a_p_Numbers_init Ad.d_p_Numbers_init ["self","first"] (spM K 2 za8):=by
 refine FnOk.imp (fn_ok (m:=zbj) T.f_p_Numbers_init ze2 fun cdv A outer s H hr=>?_) fun vs H Q E h=>zk1 h
 exact (zad (js_fld T.c0_Numbers T.cc_Numbers T.na_Numbers_first (zab 0) (zab 1))
  (zan (js_fld T.c0_Numbers T.cc_Numbers T.na_Numbers_given (zab 0) ziv)))
theorem zd8:FnScope ["self","key"] ["self","key"] (defScope zav):=⟨rfl,rfl,rfl,by decide +kernel,rfl,by decide +kernel,by decide +kernel⟩
theorem zcv (T:Txt K mg Ad):FnOk P w K mg base CX0 1 Ad.a_p_Numbers_number Ad.d_p_Numbers_number ["self","key"] (spM K 2 zaw):=by
 refine FnOk.imp (fn_ok (m:=zax) T.f_p_Numbers_number zd8 fun cdv A outer s H hr=>?_) fun vs H Q E h=>zk1 h
 exact (zad (js_if (zdc (zlb (hu_of hr)) (zab 1) (zlz T.c0_Numbers T.cc_Numbers T.na_Numbers_given (zab 0)) rfl) (zan (zl1 (je_op zbi (zlz T.c0_Numbers T.cc_Numbers T.na_Numbers_first (zab 0)) (zaq zal rfl T.z_len (by decide +kernel) (zaa (zlz T.c0_Numbers T.cc_Numbers T.na_Numbers_given (zab 0)) zae))) (zku (set_DV (hu_of hr)) (zlz T.c0_Numbers T.cc_Numbers T.na_Numbers_given (zab 0)) (zab 1)))) zdi)
  (zan (zbk (je_ixD (hu_of hr) (zlz T.c0_Numbers T.cc_Numbers T.na_Numbers_given (zab 0)) (zab 1)))))
theorem zgk:FnScope ["rules"] ["rules"] (defScope zby):=⟨rfl,rfl,rfl,by decide +kernel,rfl,by decide +kernel,by decide +kernel⟩
theorem zd9 (T:Txt K mg Ad):FnOk P w K mg base (CXM P w) 4 Ad.a_p_tape_look Ad.d_p_tape_look ["rules"] (spX K 1 zbz):=by
 refine FnOk.imp (fn_okX (m:=zbx) T.f_p_tape_look zgk fun cdv A outer s H E W hr=>?_) fun vs H Q E h=>sp_gcX h
 exact (zan (zbk (zkg ((zei T).mono (by decide)) hr T.m_p_look_at_rules T.f_p_look_at_rules.kp T.zbd .nil (fun _ _=>RepVs.nil) (zaa (zab 0) zae) rfl rfl (by decide) rfl rfl (zac zag))))
theorem zcx:FnScope ["walks","targets","walk"] ["walks"] (defScope zbn):=⟨rfl,rfl,rfl,by decide +kernel,rfl,by decide +kernel,by decide +kernel⟩
theorem zf1 (T:Txt K mg Ad):FnOk P w K mg base CX0 1 Ad.a_p_targets_of Ad.d_p_targets_of ["walks"] (spM K 1 zbc):=by
 refine FnOk.imp (fn_ok (m:=zb3) T.f_p_targets_of zcx fun cdv A outer s H hr=>?_) fun vs H Q E h=>sp_gc h
 exact (zad (zas 1 je_dictK zcx.nd)
  (zad (zdy (ji_dt (zab 0)) (zb2 2 zcx.nd) (zan (zl1 je_bl (zku (set_K (hu_of hr)) (zab 1) (je_ix (zab 2) zaf)))) PassesOwn.never rfl)
  (zan (zbk (zab 1)))))
theorem zeg:FnScope ["state","signs","move"] ["state","signs","move"] (defScope zar):=⟨rfl,rfl,rfl,by decide +kernel,rfl,by decide +kernel,by decide +kernel⟩
theorem zc0 (T:Txt K mg Ad):FnOk P w K mg base CX0 1 Ad.a_p_passing_rules Ad.d_p_passing_rules ["state","signs","move"] (spM K 3 zap):=by
 refine FnOk.imp (fn_ok (m:=za2) T.f_p_passing_rules zeg fun cdv A outer s H hr=>?_) fun vs H Q E h=>sp_gc h
 exact (zan (zbk (zir (N:=["state","move","sign"]) (capt:=[some 0,some 2,none]) (sc0:=defScope zar) (ji_str (zab 1)) ⟨rfl,by decide +kernel,by decide +kernel⟩ (by decide +kernel) ⟨⟨rfl,by first | exact Or.inl rfl | exact Or.inr rfl,rfl⟩,⟨⟨rfl,by first | exact Or.inl rfl | exact Or.inr rfl,rfl⟩,trivial⟩⟩ rfl (fun cl C fp s H=>(zb2 2 (show List.Nodup (["state","move","sign"]:List Str) by decide +kernel))) (fun cl C fp s H=>zkm) (fun cl C fp s H=>(zez (zaa (zab 0) (zaa (zab 2) (zaa (zab 2) (zaa (zab 1) (zaa (zab 0) zae))))))))))
theorem zf5:FnScope ["numbers","target"] ["numbers","target"] (defScope zbs):=⟨rfl,rfl,rfl,by decide +kernel,rfl,by decide +kernel,by decide +kernel⟩
theorem zdt (T:Txt K mg Ad):FnOk P w K mg base CX0 2 Ad.a_p_back_state Ad.d_p_back_state ["numbers","target"] (spM K 2 za4):=by
 refine FnOk.imp (fn_ok (m:=zbq) T.f_p_back_state zf5 fun cdv A outer s H hr=>?_) fun vs H Q E h=>zk1 h
 exact (zan (zbk (zks T.c0_Numbers T.cc_Numbers T.m_p_Numbers_number ((zcv T).mono (by decide)) hr T.zax (zab 0) (zaa (zez (zaa (zdd [98,97,99,107]) (zaa (zab 1) zae))) zae) rfl rfl rfl rfl (zac zag))))
theorem zfz:FnScope ["numbers","word","target"] ["numbers","word","target"] (defScope zbm):=⟨rfl,rfl,rfl,by decide +kernel,rfl,by decide +kernel,by decide +kernel⟩
theorem zca (T:Txt K mg Ad):FnOk P w K mg base CX0 2 Ad.a_p_grow_state Ad.d_p_grow_state ["numbers","word","target"] (spM K 3 zaj):=by
 refine FnOk.imp (fn_ok (m:=za3) T.f_p_grow_state zfz fun cdv A outer s H hr=>?_) fun vs H Q E h=>zk1 h
 exact (zan (zbk (zks T.c0_Numbers T.cc_Numbers T.m_p_Numbers_number ((zcv T).mono (by decide)) hr T.zax (zab 0) (zaa (zez (zaa (zdd [103,114,111,119]) (zaa (zab 1) (zaa (zab 2) zae)))) zae) rfl rfl rfl rfl (zac zag))))
theorem zdb:FnScope ["numbers","word","target","state"] ["numbers","word","target"] (defScope za5):=⟨rfl,rfl,rfl,by decide +kernel,rfl,by decide +kernel,by decide +kernel⟩
theorem zey (T:Txt K mg Ad):FnOk P w K mg base CX0 3 Ad.a_p_growing_rule Ad.d_p_growing_rule ["numbers","word","target"] (spM K 3 za9):=by
 refine FnOk.imp (fn_ok (m:=zbl) T.f_p_growing_rule zdb fun cdv A outer s H hr=>?_) fun vs H Q E h=>zk1 h
 exact (zad (zas 3 (zam ((zca T).mono (by decide)) hr T.m_p_grow_state T.f_p_grow_state.kp T.za3 .nil (fun _ _=>RepVs.nil) (zaa (zab 0) (zaa (zab 1) (zaa (zab 2) zae))) rfl rfl (by decide) rfl rfl (zac (zac (zac zag)))) zdb.nd)
  (zad (js_if (zdc (zjy (hu200 hr)) (zab 1) (zdd []) (nomark _)) (zan (zbk (zez (zaa (zab 3) (zaa (zed [95] T.v_BLANK) (zaa (zed [95] T.v_BLANK) (zaa (zdd [108]) (zaa (zam ((zdt T).mono (by decide)) hr T.m_p_back_state T.f_p_back_state.kp T.zbq .nil (fun _ _=>RepVs.nil) (zaa (zab 0) (zaa (zab 2) zae)) rfl rfl (by decide) rfl rfl (zac (zac zag))) zae)))))))) zdi)
  (zan (zbk (zez (zaa (zab 3) (zaa (zed [95] T.v_BLANK) (zaa (je_ix (zab 1) zaf) (zaa (zdd [114]) (zaa (zam ((zca T).mono (by decide)) hr T.m_p_grow_state T.f_p_grow_state.kp T.za3 .nil (fun _ _=>RepVs.nil) (zaa (zab 0) (zaa (zcf (zab 1) (zcz zaf) zdf) (zaa (zab 2) zae))) rfl rfl (by decide) rfl rfl (zac (zac (zac zag)))) zae))))))))))
theorem zcb:FnScope ["walks","grows","walk","cut"] ["walks"] (defScope zbp):=⟨rfl,rfl,rfl,by decide +kernel,rfl,by decide +kernel,by decide +kernel⟩
theorem zf2 (T:Txt K mg Ad):FnOk P w K mg base CX0 1 Ad.a_p_words_left Ad.d_p_words_left ["walks"] (spM K 1 zci):=by
 refine FnOk.imp (fn_ok (m:=zb4) T.f_p_words_left zcb fun cdv A outer s H hr=>?_) fun vs H Q E h=>sp_gc h
 exact (zad (zas 1 ziv zcb.nd)
  (zad (zdy (ji_dt (zab 0)) (zb2 2 zcb.nd) (zan (zdy (zd3 (zaa (je_op zbi (zaq zal rfl T.z_len (by decide +kernel) (zaa (je_ix (zab 2) zaf) zae)) zaf) zae) rfl T.z_range) (zb2 3 zcb.nd) (zan (zl1 je_bl (zku (set_DV (hu_of hr)) (zab 1) (zez (zaa (zcf (je_ix (zab 2) zaf) (zcz (zab 3)) zdf) (zaa (je_ix (zab 2) zaf) zae)))))) PassesOwn.never rfl)) PassesOwn.never rfl)
  (zan (zbk (zab 1)))))
theorem zak:FnScope ["rules","signs","top","numbers","made","walks","rule","walk","state","grows","grow","target"] ["rules","signs","top"] (defScope zb0):=⟨rfl,rfl,rfl,by decide +kernel,rfl,by decide +kernel,by decide +kernel⟩
theorem zco (T:Txt K mg Ad):FnOk P w K mg base CX0 4 Ad.a_p_make_tape Ad.d_p_make_tape ["rules","signs","top"] (spM K 3 zbb):=by
 refine FnOk.imp (fn_ok (m:=zba) T.f_p_make_tape zak fun cdv A outer s H hr=>?_) fun vs H Q E h=>sp_gc h
 exact (zad (zas 3 (je_make T.c0_Numbers T.m_p_Numbers_init ((ze0 T).mono (by decide)) hr T.cm_Numbers T.zbj (zaa (je_op zbi (zab 2) zaf) zae) rfl rfl (by decide) rfl rfl (zac zag)) zak.nd)
  (zad (zas 4 (zf0 zae) zak.nd)
  (zad (zas 5 ziv zak.nd)
  (zad (zdy (zjx (zab 0)) (zb2 6 zak.nd) (zad (zl1 je_bl (zku (set_DV (hu_of hr)) (zab 5) (zez (zaa (je_ix (zab 6) zaf) (zaa (je_ix (zab 6) zaf) zae)))))
  (zan (zep (zew PySem.F.plainAttrs_list PySem.F.slot_list_append PySem.F.type_list_append zdg (zab 4) (zaa (zez (zaa (je_ix (zab 6) zaf) (zaa (je_ix (zab 6) zaf) (zaa (zed [95] T.v_BLANK) (zaa (zdd [114]) (zaa (zam ((zca T).mono (by decide)) hr T.m_p_grow_state T.f_p_grow_state.kp T.za3 .nil (fun _ _=>RepVs.nil) (zaa (zab 3) (zaa (je_ix (zab 6) zaf) (zaa (je_ix (zab 6) zaf) zae))) rfl rfl (by decide) rfl rfl (zac (zac (zac zag)))) zae)))))) zae))))) PassesOwn.never rfl)
  (zad (zdy (ji_dt (zab 5)) (zb2 7 zak.nd) (zad (zas 8 (zam ((zca T).mono (by decide)) hr T.m_p_grow_state T.f_p_grow_state.kp T.za3 .nil (fun _ _=>RepVs.nil) (zaa (zab 3) (zaa (je_ix (zab 7) zaf) (zaa (je_ix (zab 7) zaf) zae))) rfl rfl (by decide) rfl rfl (zac (zac (zac zag)))) zak.nd)
  (zan (zep (zew PySem.F.plainAttrs_list PySem.F.slot_list_extend PySem.F.type_list_extend zho (zab 4) (zaa (zam ((zc0 T).mono (by decide)) hr T.m_p_passing_rules T.f_p_passing_rules.kp T.za2 .nil (fun _ _=>RepVs.nil) (zaa (zab 8) (zaa (zab 1) (zaa (zdd [114]) zae))) rfl rfl (by decide) rfl rfl (zac (zac (zac zag)))) zae))))) PassesOwn.never rfl)
  (zad (zas 9 (zam ((zf2 T).mono (by decide)) hr T.m_p_words_left T.f_p_words_left.kp T.zb4 .nil (fun _ _=>RepVs.nil) (zaa (zab 5) zae) rfl rfl (by decide) rfl rfl (zac zag)) zak.nd)
  (zad (zdy (ji_dt (zab 9)) (zb2 10 zak.nd) (zan (zep (zew PySem.F.plainAttrs_list PySem.F.slot_list_append PySem.F.type_list_append zdg (zab 4) (zaa (zam ((zey T).mono (by decide)) hr T.m_p_growing_rule T.f_p_growing_rule.kp T.zbl .nil (fun _ _=>RepVs.nil) (zaa (zab 3) (zaa (je_ix (zab 10) zaf) (zaa (je_ix (zab 10) zaf) zae))) rfl rfl (by decide) rfl rfl (zac (zac (zac zag)))) zae)))) PassesOwn.never rfl)
  (zad (zdy (ji_dk (zam ((zf1 T).mono (by decide)) hr T.m_p_targets_of T.f_p_targets_of.kp T.zb3 .nil (fun _ _=>RepVs.nil) (zaa (zab 5) zae) rfl rfl (by decide) rfl rfl (zac zag))) (zb2 11 zak.nd) (zad (zas 8 (zam ((zdt T).mono (by decide)) hr T.m_p_back_state T.f_p_back_state.kp T.zbq .nil (fun _ _=>RepVs.nil) (zaa (zab 3) (zaa (zab 11) zae)) rfl rfl (by decide) rfl rfl (zac (zac zag))) zak.nd)
  (zad (zep (zew PySem.F.plainAttrs_list PySem.F.slot_list_extend PySem.F.type_list_extend zho (zab 4) (zaa (zam ((zc0 T).mono (by decide)) hr T.m_p_passing_rules T.f_p_passing_rules.kp T.za2 .nil (fun _ _=>RepVs.nil) (zaa (zab 8) (zaa (zab 1) (zaa (zdd [108]) zae))) rfl rfl (by decide) rfl rfl (zac (zac (zac zag)))) zae)))
  (zan (zep (zew PySem.F.plainAttrs_list PySem.F.slot_list_append PySem.F.type_list_append zdg (zab 4) (zaa (zez (zaa (zab 8) (zaa (zed [95] T.v_BLANK) (zaa (zed [95] T.v_BLANK) (zaa (zdd [114]) (zaa (zab 11) zae)))))) zae)))))) PassesOwn.never rfl)
  (zan (zbk (zab 4)))))))))))
theorem zg3:FnScope ["_law_script","_law_k","_law_number"] ["_law_script","_law_k"] (defScope zem):=⟨rfl,rfl,rfl,by decide +kernel,rfl,by decide +kernel,by decide +kernel⟩
theorem zcu (T:Txt K mg Ad):FnOk P w K mg base CX0 1 Ad.a_l_cell Ad.d_l_cell ["_law_script","_law_k"] (spM K 2 zcd):=by
 refine FnOk.imp (fn_ok (m:=zcg) T.f_l_cell zg3 fun cdv A outer s H hr=>?_) fun vs H Q E h=>sp_gc h
 exact (zad (js_if (zdc op_ltV (zab 1) (zaq zal rfl T.z_len (by decide +kernel) (zaa (zab 0) zae)) (nomark _)) (zan (zbk (je_ix (zab 0) (zab 1)))) zdi)
  (zad (zas 2 (je_op zbi (je_op zes (zab 1) zaf) zaf) zg3.nd)
  (zad (js_if (zdc op_gtV (zaq zal rfl T.z_len (by decide +kernel) (zaa (zab 0) zae)) zaf (nomark _)) (zan (zas 2 (je_op zbt (je_op zbi (je_op zes (je_ix (zab 0) (je_op zbt (je_op zes (zab 1) zaf) (zaq zal rfl T.z_len (by decide +kernel) (zaa (zab 0) zae)))) zaf) (je_op zes (zab 1) zaf)) zaf) zg3.nd)) zdi)
  (zan (zbk (je_op zbt (je_op zes (zab 2) (zab 2)) zaf))))))
theorem zlp:FnScope ["_law_found"] ["_law_found"] (defScope zdp):=⟨rfl,rfl,rfl,by decide +kernel,rfl,by decide +kernel,by decide +kernel⟩
theorem zft (T:Txt K mg Ad):FnOk P w K mg base CX0 1 Ad.a_l_whole Ad.d_l_whole ["_law_found"] (spM K 1 zdo):=by
 refine FnOk.imp (fn_ok (m:=zda) T.f_l_whole zlp fun cdv A outer s H hr=>?_) fun vs H Q E h=>sp_gc h
 exact (zan (zbk (je_and (zj4 kit_int (zab 0) rfl T.z_isinstance rfl T.z_int (by decide +kernel) (by decide +kernel)) (je_one (je_not (zj4 zk5 (zab 0) rfl T.z_isinstance rfl T.z_bool (by decide +kernel) (by decide +kernel)))))))
theorem zat:FnScope ["_law_script","_law_rest","_law_cell_here","_law_number","_law_signs","_law_k","_law_at"] ["_law_script"] (defScope zb8):=⟨rfl,rfl,rfl,by decide +kernel,rfl,by decide +kernel,by decide +kernel⟩
theorem zhh (T:Txt K mg Ad):FnOk P w K mg base CX0 2 Ad.a_l_alphabet Ad.d_l_alphabet ["_law_script"] (spM K 1 zc5):=by
 refine FnOk.imp (fn_ok (m:=zcr) T.f_l_alphabet zat fun cdv A outer s H hr=>?_) fun vs H Q E h=>sp_gc h
 exact (zad (zas 1 (zdd [97,98,99,100,101,102,103,104,105,106,107,108,109,110,111,112,113,114,115,116,117,118,119,120,121,122]) zat.nd)
  (zad (zas 2 (zam ((zcu T).mono (by decide)) hr T.m_l_cell T.f_l_cell.kp T.zcg .nil (fun _ _=>RepVs.nil) (zaa (zab 0) (zaa zaf zae)) rfl rfl (by decide) rfl rfl (zac (zac zag))) zat.nd)
  (zad (zas 3 (je_op zbu (zab 2) zaf) zat.nd)
  (zad (zas 4 (zdd []) zat.nd)
  (zad (zdy (zd3 (zaa (je_op zbi zaf (je_op zbt (zab 2) zaf)) zae) rfl T.z_range) (zb2 5 zat.nd) (zad (zas 6 (je_op zbt (zab 3) (zaq zal rfl T.z_len (by decide +kernel) (zaa (zab 1) zae))) zat.nd)
  (zad (zas 3 (je_op zbu (zab 3) (zaq zal rfl T.z_len (by decide +kernel) (zaa (zab 1) zae))) zat.nd)
  (zad (zas 4 (je_op zbi (zab 4) (je_ix (zab 1) (zab 6))) zat.nd)
  (zan (zas 1 (je_op zbi (zcf (zab 1) zdf (zcz (zab 6))) (zcf (zab 1) (zcz (je_op zbi (zab 6) zaf)) zdf)) zat.nd))))) PassesOwn.never rfl)
  (zan (zbk (zab 4))))))))
theorem zaz:FnScope ["_law_script","_law_cell_here","_law_wide","_law_number","_law_states","_law_k"] ["_law_script"] (defScope zbf):=⟨rfl,rfl,rfl,by decide +kernel,rfl,by decide +kernel,by decide +kernel⟩
theorem zfv (T:Txt K mg Ad):FnOk P w K mg base CX0 2 Ad.a_l_some_states Ad.d_l_some_states ["_law_script"] (spM K 1 zcc):=by
 refine FnOk.imp (fn_ok (m:=zbv) T.f_l_some_states zaz fun cdv A outer s H hr=>?_) fun vs H Q E h=>sp_gc h
 exact (zad (zas 1 (zam ((zcu T).mono (by decide)) hr T.m_l_cell T.f_l_cell.kp T.zcg .nil (fun _ _=>RepVs.nil) (zaa (zab 0) (zaa zaf zae)) rfl rfl (by decide) rfl rfl (zac (zac zag))) zaz.nd)
  (zad (zas 2 (je_ix (zf0 (zaa zaf (zaa zaf zae))) (je_op zbt (je_op zbu (zab 1) zaf) zaf)) zaz.nd)
  (zad (zas 3 (je_op zbu (zab 1) zaf) zaz.nd)
  (zad (zas 4 (zf0 zae) zaz.nd)
  (zad (zdy (zd3 (zaa (je_op zbi zaf (je_op zbt (zab 1) zaf)) zae) rfl T.z_range) (zb2 5 zaz.nd) (zad (zep (zew PySem.F.plainAttrs_list PySem.F.slot_list_append PySem.F.type_list_append zdg (zab 4) (zaa (je_op zbi (je_op zbi (zaq (call_sumV hr.hd) rfl T.z_sum (by decide +kernel) (zaa (zcf (zab 4) (zcz (je_un un_negV zaf)) zdf) zae)) (ze5 call_intC rfl T.z_int (by decide +kernel) (zaa (je_cmp op_gtV (zab 5) zaf (nomark _)) zae))) (je_op zbt (zab 3) (zab 2))) zae)))
  (zan (zas 3 (je_op zbu (zab 3) (zab 2)) zaz.nd))) PassesOwn.never rfl)
  (zan (zbk (zab 4))))))))
theorem zau:FnScope ["_law_cell_here","_law_many","_law_signs","_law_text","_law_number","_law_k"] ["_law_cell_here","_law_many","_law_signs"] (defScope zbr):=⟨rfl,rfl,rfl,by decide +kernel,rfl,by decide +kernel,by decide +kernel⟩
theorem zfy (T:Txt K mg Ad):FnOk P w K mg base CX0 1 Ad.a_l_drawn_text Ad.d_l_drawn_text ["_law_cell_here","_law_many","_law_signs"] (spM K 3 zcn):=by
 refine FnOk.imp (fn_ok (m:=zb5) T.f_l_drawn_text zau fun cdv A outer s H hr=>?_) fun vs H Q E h=>sp_gc h
 exact (zad (zas 3 (zdd []) zau.nd)
  (zad (zas 4 (je_op zbu (zab 0) zaf) zau.nd)
  (zad (zdy (zd3 (zaa (zab 1) zae) rfl T.z_range) (zb2 5 zau.nd) (zan (js_if (zdc (zjy (hu200 hr)) (je_op zbt (zab 0) zaf) zaf (nomark _)) (zad (zas 4 (je_op zbt (je_op zbi (je_op zbi (je_op zes (zab 4) zaf) (je_op zes zaf (zab 5))) zaf) zaf) zau.nd)
  (zan (zas 3 (je_op zbi (zab 3) (je_ix (zab 2) (je_op zbt (je_op zbu (zab 4) zaf) (zaq zal rfl T.z_len (by decide +kernel) (zaa (zab 2) zae))))) zau.nd))) (zad (zas 3 (je_op zbi (zab 3) (je_ix (zab 2) (je_op zbt (zab 4) (zaq zal rfl T.z_len (by decide +kernel) (zaa (zab 2) zae))))) zau.nd)
  (zan (zas 4 (je_op zbu (zab 4) (zaq zal rfl T.z_len (by decide +kernel) (zaa (zab 2) zae))) zau.nd))))) PassesOwn.never rfl)
  (zan (zbk (zab 3))))))
theorem zds:FnScope ["_law_cell_here","_law_signs","_law_many"] ["_law_cell_here","_law_signs"] (defScope zbo):=⟨rfl,rfl,rfl,by decide +kernel,rfl,by decide +kernel,by decide +kernel⟩
theorem zf6 (T:Txt K mg Ad):FnOk P w K mg base CX0 2 Ad.a_l_drawn_word Ad.d_l_drawn_word ["_law_cell_here","_law_signs"] (spM K 2 zch):=by
 refine FnOk.imp (fn_ok (m:=zb6) T.f_l_drawn_word zds fun cdv A outer s H hr=>?_) fun vs H Q E h=>sp_gc h
 exact (zad (zas 2 (je_ix (zf0 (zaa zaf (zaa zaf (zaa zaf (zaa zaf (zaa zaf (zaa (je_op zbt (je_op zbu (zab 0) zaf) zaf) zae))))))) (je_op zbt (zab 0) zaf)) zds.nd)
  (zan (zbk (zam ((zfy T).mono (by decide)) hr T.m_l_drawn_text T.f_l_drawn_text.kp T.zb5 .nil (fun _ _=>RepVs.nil) (zaa (je_op zbu (zab 0) zaf) (zaa (zab 2) (zaa (zab 1) zae))) rfl rfl (by decide) rfl rfl (zac (zac (zac zag)))))))
theorem zct:FnScope ["_law_script","_law_signs","_law_states","_law_at","_law_rules","_law_k","_law_cell_here","_law_goal"] ["_law_script","_law_signs","_law_states","_law_at"] (defScope zcp):=⟨rfl,rfl,rfl,by decide +kernel,rfl,by decide +kernel,by decide +kernel⟩
theorem zik (T:Txt K mg Ad):FnOk P w K mg base CX0 3 Ad.a_l_program Ad.d_l_program ["_law_script","_law_signs","_law_states","_law_at"] (spM K 4 zdq):=by
 refine FnOk.imp (fn_ok (m:=zc2) T.f_l_program zct fun cdv A outer s H hr=>?_) fun vs H Q E h=>sp_gc h
 exact (zad (zas 4 (zf0 zae) zct.nd)
  (zad (zdy (zd3 (zaa (je_op zes (zaq zal rfl T.z_len (by decide +kernel) (zaa (zab 1) zae)) (zaq zal rfl T.z_len (by decide +kernel) (zaa (zab 2) zae))) zae) rfl T.z_range) (zb2 5 zct.nd) (zad (zas 6 (zam ((zcu T).mono (by decide)) hr T.m_l_cell T.f_l_cell.kp T.zcg .nil (fun _ _=>RepVs.nil) (zaa (zab 0) (zaa (je_op zbi (zab 3) (zab 5)) zae)) rfl rfl (by decide) rfl rfl (zac (zac zag))) zct.nd)
  (zan (js_if (zdc op_gtV (je_op zbt (zab 6) zaf) zaf (nomark _)) (zad (zas 7 (je_ix (zab 2) (je_op zbt (je_op zbu (zab 6) zaf) (zaq zal rfl T.z_len (by decide +kernel) (zaa (zab 2) zae)))) zct.nd)
  (zan (zep (zew PySem.F.plainAttrs_list PySem.F.slot_list_append PySem.F.type_list_append zdg (zab 4) (zaa (zez (zaa (je_ix (zab 2) (je_op zbu (zab 5) (zaq zal rfl T.z_len (by decide +kernel) (zaa (zab 1) zae)))) (zaa (je_ix (zab 1) (je_op zbt (zab 5) (zaq zal rfl T.z_len (by decide +kernel) (zaa (zab 1) zae)))) (zaa (zam ((zf6 T).mono (by decide)) hr T.m_l_drawn_word T.f_l_drawn_word.kp T.zb6 .nil (fun _ _=>RepVs.nil) (zaa (je_op zbu (zab 6) zaf) (zaa (zab 1) zae)) rfl rfl (by decide) rfl rfl (zac (zac zag))) (zaa (zab 7) zae))))) zae))))) zdi))) PassesOwn.never rfl)
  (zan (zbk (zab 4)))))
theorem zd2:FnScope ["_law_script","_law_signs","_law_letters","_law_rest","_law_at"] ["_law_script","_law_signs"] (defScope zc7):=⟨rfl,rfl,rfl,by decide +kernel,rfl,by decide +kernel,by decide +kernel⟩
theorem zlg (T:Txt K mg Ad):FnOk P w K mg base CX0 2 Ad.a_l_wider Ad.d_l_wider ["_law_script","_law_signs"] (spM K 2 ze8):=by
 refine FnOk.imp (fn_ok (m:=zdz) T.f_l_wider zd2 fun cdv A outer s H hr=>?_) fun vs H Q E h=>sp_gc h
 exact (zad (zas 2 (zdd [97,98,99,100,101,102,103,104,105,106,107,108,109,110,111,112,113,114,115,116,117,118,119,120,121,122]) zd2.nd)
  (zad (zas 3 (zew PySem.F.plainAttrs_str PySem.F.slot_str_join PySem.F.type_str_join mt_joinV (zdd []) (zaa (zir (N:=["_law_signs","_law_sign"]) (capt:=[some 1,none]) (sc0:=defScope zc7) (ji_str (zab 2)) ⟨rfl,by decide +kernel,by decide +kernel⟩ (by decide +kernel) ⟨⟨rfl,by first | exact Or.inl rfl | exact Or.inr rfl,rfl⟩,trivial⟩ rfl (fun cl C fp s H=>(zb2 1 (show List.Nodup (["_law_signs","_law_sign"]:List Str) by decide +kernel))) (fun cl C fp s H=>(jts_one (zdc zhg (zab 1) (zab 0) rfl))) (fun cl C fp s H=>(zab 1))) zae)) zd2.nd)
  (zad (zas 4 (je_op zbt (zam ((zcu T).mono (by decide)) hr T.m_l_cell T.f_l_cell.kp T.zcg .nil (fun _ _=>RepVs.nil) (zaa (zab 0) (zaa zaf zae)) rfl rfl (by decide) rfl rfl (zac (zac zag))) (zaq zal rfl T.z_len (by decide +kernel) (zaa (zab 3) zae))) zd2.nd)
  (zan (zbk (je_op zbi (zab 1) (zcf (je_op zbi (zcf (zab 3) (zcz (zab 4)) zdf) (zcf (zab 3) zdf (zcz (zab 4)))) zdf (zcz (je_op zbt (je_op zbu (zam ((zcu T).mono (by decide)) hr T.m_l_cell T.f_l_cell.kp T.zcg .nil (fun _ _=>RepVs.nil) (zaa (zab 0) (zaa zaf zae)) rfl rfl (by decide) rfl rfl (zac (zac zag))) zaf) zaf)))))))))
theorem zgv:FnScope ["_law_made","_law_rule","_law_sign"] ["_law_made"] (defScope zej):=⟨rfl,rfl,rfl,by decide +kernel,rfl,by decide +kernel,by decide +kernel⟩
theorem ok_l_form (T:Txt K mg Ad):FnOk P w K mg base CX0 2 Ad.a_l_form Ad.d_l_form ["_law_made"] (spM K 1 zg7):=by
 refine FnOk.imp (fn_ok (m:=zfb) T.f_l_form zgv fun cdv A outer s H hr=>?_) fun vs H Q E h=>sp_gc h
 exact (zad (js_if (zex (zce (zj4 kit_list (zab 0) rfl T.z_isinstance rfl T.z_list (by decide +kernel) (by decide +kernel)))) (zan (zbk je_bl)) zdi)
  (zad (zdy (zjx (zab 0)) (zb2 1 zgv.nd) (zad (js_if (JW.jt (jw_or (zex (zce (zj4 kit_tuple (zab 1) rfl T.z_isinstance rfl T.z_tuple (by decide +kernel) (by decide +kernel)))) (jw_or (zdc (op_neV (hu200 hr)) (zaq zal rfl T.z_len (by decide +kernel) (zaa (zab 1) zae)) zaf (nomark _)) (jw_or (zex (zce (zam ((zft T).mono (by decide)) hr T.m_l_whole T.f_l_whole.kp T.zda .nil (fun _ _=>RepVs.nil) (zaa (je_ix (zab 1) zaf) zae) rfl rfl (by decide) rfl rfl (zac zag)))) (zl4 (zex (zce (zam ((zft T).mono (by decide)) hr T.m_l_whole T.f_l_whole.kp T.zda .nil (fun _ _=>RepVs.nil) (zaa (je_ix (zab 1) zaf) zae) rfl rfl (by decide) rfl rfl (zac zag))))))))) (zan (zbk je_bl)) zdi)
  (zad (js_if (JW.jt (jw_or (zdc op_ltV (je_ix (zab 1) zaf) zaf (nomark _)) (jw_or (zdc op_ltV (je_ix (zab 1) zaf) zaf (nomark _)) (zl4 (zdc zlx (je_ix (zab 1) zaf) (zez (zaa (zdd [108]) (zaa (zdd [114]) zae))) rfl))))) (zan (zbk je_bl)) zdi)
  (zan (zdy (zjx (zcf (zab 1) (zcz zaf) (zcz zaf))) (zb2 2 zgv.nd) (zan (js_if (JW.jt (jw_or (zex (zce (zj4 kit_str (zab 2) rfl T.z_isinstance rfl T.z_str (by decide +kernel) (by decide +kernel)))) (jw_or (zdc (op_neV (hu200 hr)) (zaq zal rfl T.z_len (by decide +kernel) (zaa (zab 2) zae)) zaf (nomark _)) (zl4 (zdc zhg (zab 2) (zdd [97,98,99,100,101,102,103,104,105,106,107,108,109,110,111,112,113,114,115,116,117,118,119,120,121,122,95]) rfl))))) (zan (zbk je_bl)) zdi)) PassesOwn.never rfl)))) PassesOwn.never rfl)
  (zan (zbk je_bl))))
theorem zff:FnScope ["_law_made","_law_rules","_law_signs","_law_top","_law_pairs","_law_low"] ["_law_made","_law_rules","_law_signs","_law_top"] (defScope zck):=⟨rfl,rfl,rfl,by decide +kernel,rfl,by decide +kernel,by decide +kernel⟩
theorem zfp (T:Txt K mg Ad):FnOk P w K mg base CX0 3 Ad.a_l_right Ad.d_l_right ["_law_made","_law_rules","_law_signs","_law_top"] (spM K 4 zc6):=by
 refine FnOk.imp (fn_ok (m:=zc4) T.f_l_right zff fun cdv A outer s H hr=>?_) fun vs H Q E h=>sp_gc h
 exact (zad (js_if (zex (zce (zam ((ok_l_form T).mono (by decide)) hr T.m_l_form T.f_l_form.kp T.zfb .nil (fun _ _=>RepVs.nil) (zaa (zab 0) zae) rfl rfl (by decide) rfl rfl (zac zag)))) (zan (zbk je_bl)) zdi)
  (zad (zk4 4 (N:=["_law_rule"]) (capt:=[none]) (sc0:=defScope zck) (zjx (zab 0)) ⟨rfl,by decide +kernel,by decide +kernel⟩ (by decide +kernel) trivial rfl (fun cl C fp s H=>(zb2 0 (show List.Nodup (["_law_rule"]:List Str) by decide +kernel))) (fun cl C fp s H=>zkm) (fun cl C fp s H=>(zcf (zab 0) zdf (zcz zaf))) zff.nd)
  (zad (js_if (zdc (op_neV (hu200 hr)) (je_lenset hr.hd (Nat.lt_of_le_of_lt (Nat.add_le_add_left (by decide:5<=64) _) hr.units) rfl T.z_len (by decide +kernel) rfl T.z_set (by decide +kernel) (zab 4)) (zaq zal rfl T.z_len (by decide +kernel) (zaa (zab 4) zae)) (nomark _)) (zan (zbk je_bl)) zdi)
  (zad (zas 5 (zaq zfl rfl T.z_sorted (by decide +kernel) (zaa (zir (N:=["_law_top","_law_signs","_law_pair"]) (capt:=[some 3,some 2,none]) (sc0:=defScope zck) (zjx (zab 4)) ⟨rfl,by decide +kernel,by decide +kernel⟩ (by decide +kernel) ⟨⟨rfl,by first | exact Or.inl rfl | exact Or.inr rfl,rfl⟩,⟨⟨rfl,by first | exact Or.inl rfl | exact Or.inr rfl,rfl⟩,trivial⟩⟩ rfl (fun cl C fp s H=>(zb2 2 (show List.Nodup (["_law_top","_law_signs","_law_pair"]:List Str) by decide +kernel))) (fun cl C fp s H=>(jts_one (JW.jt (jw_and (zdc op_leV (je_ix (zab 2) zaf) (zab 0) (nomark _)) (jw_and1 (zdc op_inSV (je_ix (zab 2) zaf) (je_op zbi (zab 1) (zdd [95])) rfl)))))) (fun cl C fp s H=>(zab 2))) zae)) zff.nd)
  (zan (zbk (je_cmp (zjy (hu200 hr)) (zab 5) (zaq zfl rfl T.z_sorted (by decide +kernel) (zaa (zir (N:=["_law_rule"]) (capt:=[none]) (sc0:=defScope zck) (zjx (zab 1)) ⟨rfl,by decide +kernel,by decide +kernel⟩ (by decide +kernel) trivial rfl (fun cl C fp s H=>(zb2 0 (show List.Nodup (["_law_rule"]:List Str) by decide +kernel))) (fun cl C fp s H=>zkm) (fun cl C fp s H=>(zcf (zab 0) zdf (zcz zaf)))) zae)) (nomark _))))))))
theorem zdr:FnScope ["_law_made","_law_cell_here","_law_found","_law_caught","e"] ["_law_made","_law_cell_here"] (defScope zc1):=⟨rfl,rfl,rfl,by decide +kernel,rfl,by decide +kernel,by decide +kernel⟩
theorem zjp (T:Txt K mg Ad):FnOk P w K mg base CX0 5 Ad.a_l_looked Ad.d_l_looked ["_law_made","_law_cell_here"] (spM K 2 zde):=by
 refine FnOk.imp (fn_ok (m:=zdh) T.f_l_looked zdr fun cdv A outer s H hr=>?_) fun vs H Q E h=>sp_gc h
 exact (zad (zas 2 (zkg ((zd9 T).mono (by decide)) hr T.m_p_tape_look T.f_p_tape_look.kp T.zbx .nil (fun _ _=>RepVs.nil) (zaa (ze5 zfq rfl T.z_list (by decide +kernel) (zaa (zab 0) zae)) zae) rfl rfl (by decide) rfl rfl (zac zag)) zdr.nd)
  (zad (js_if (JW.jt (jw_or (zex (zce (zj4 zk5 (zab 2) rfl T.z_isinstance rfl T.z_bool (by decide +kernel) (by decide +kernel)))) (zl4 (zex (zce (zab 2)))))) (zan (zbk je_bl)) zdi)
  (zad (js_if (zdc (zjy (hu200 hr)) (zab 0) (zf0 zae) (nomark _)) (zan (zbk je_bl)) zdi)
  (zad (zas 3 je_non zdr.nd)
  (zad (js_try (ie:=4) (iy:=3) ⟨rfl,rfl,rfl⟩ ((zd9 T).mono (by decide)) hr T.m_p_tape_look T.f_p_tape_look.kp T.zbx .nil (fun _ _=>RepVs.nil) (by exact (zaa (je_op zbi (ze5 zfq rfl T.z_list (by decide +kernel) (zaa (zab 0) zae)) (zf0 (zaa (je_ix (zab 0) (je_op zbt (zab 1) (zaq zal rfl T.z_len (by decide +kernel) (zaa (zab 0) zae)))) zae))) zae)) bo_expr zdr.nd rfl rfl rfl rfl (fun c C h hn=>⟨_,T.x_k.two h hn⟩) T.x_k.bse rfl T.x_m1 rfl rfl (by decide) (by decide) (by decide) (by decide) rfl rfl (zac zag))
  (zan (zbk (je_and (je_isXc T.x_k (.inl ⟨rfl,rfl⟩) rfl T.x_mP (zab 3) rfl T.z_isinstance (by decide +kernel)) (je_and (zam ((zft T).mono (by decide)) hr T.m_l_whole T.f_l_whole.kp T.zda .nil (fun _ _=>RepVs.nil) (zaa (je_at T.x_k (zab 3)) zae) rfl rfl (by decide) rfl rfl (zac zag)) (je_one (je_cmp (zjy (hu200 hr)) (je_at T.x_k (zab 3)) (zaq zal rfl T.z_len (by decide +kernel) (zaa (zab 0) zae)) (nomark _))))))))))))
theorem zc9:FnScope ["_law_script","_law_signs","_law_states","_law_rules","_law_top","_law_more","_law_made","_law_other","_law_kept"] ["_law_script"] (defScope zge):=⟨rfl,rfl,rfl,by decide +kernel,rfl,by decide +kernel,by decide +kernel⟩
theorem ok_p_law (T:Txt K mg Ad):FnOk P w K mg base CX0 6 Ad.a_p_law Ad.d_p_law ["_law_script"] (spM K 1 zhm):=by
 refine FnOk.imp (fn_ok (m:=zi4) T.f_p_law zc9 fun cdv A outer s H hr=>?_) fun vs H Q E h=>sp_gc h
 exact (zad (zas 1 (zam ((zhh T).mono (by decide)) hr T.m_l_alphabet T.f_l_alphabet.kp T.zcr .nil (fun _ _=>RepVs.nil) (zaa (zab 0) zae) rfl rfl (by decide) rfl rfl (zac zag)) zc9.nd)
  (zad (zas 2 (zam ((zfv T).mono (by decide)) hr T.m_l_some_states T.f_l_some_states.kp T.zbv .nil (fun _ _=>RepVs.nil) (zaa (zab 0) zae) rfl rfl (by decide) rfl rfl (zac zag)) zc9.nd)
  (zad (zas 3 (zam ((zik T).mono (by decide)) hr T.m_l_program T.f_l_program.kp T.zc2 .nil (fun _ _=>RepVs.nil) (zaa (zab 0) (zaa (zab 1) (zaa (zab 2) (zaa zaf zae)))) rfl rfl (by decide) rfl rfl (zac (zac (zac (zac zag))))) zc9.nd)
  (zad (zas 4 (je_op zbi (je_ix (zab 2) (je_un un_negV zaf)) (je_ix (zf0 (zaa zaf (zaa (je_op zbt (je_op zbu (zam ((zcu T).mono (by decide)) hr T.m_l_cell T.f_l_cell.kp T.zcg .nil (fun _ _=>RepVs.nil) (zaa (zab 0) (zaa zaf zae)) rfl rfl (by decide) rfl rfl (zac (zac zag))) zaf) zaf) (zaa zaf zae)))) (je_op zbt (zam ((zcu T).mono (by decide)) hr T.m_l_cell T.f_l_cell.kp T.zcg .nil (fun _ _=>RepVs.nil) (zaa (zab 0) (zaa zaf zae)) rfl rfl (by decide) rfl rfl (zac (zac zag))) zaf))) zc9.nd)
  (zad (zas 5 (zam ((zlg T).mono (by decide)) hr T.m_l_wider T.f_l_wider.kp T.zdz .nil (fun _ _=>RepVs.nil) (zaa (zab 0) (zaa (zab 1) zae)) rfl rfl (by decide) rfl rfl (zac (zac zag))) zc9.nd)
  (zad (zas 6 (zam ((zco T).mono (by decide)) hr T.m_p_make_tape T.f_p_make_tape.kp T.zba .nil (fun _ _=>RepVs.nil) (zaa (zab 3) (zaa (zab 5) (zaa (zab 4) zae))) rfl rfl (by decide) rfl rfl (zac (zac (zac zag)))) zc9.nd)
  (zad (js_if (JW.jt (jw_or (zex (zce (zam ((zfp T).mono (by decide)) hr T.m_l_right T.f_l_right.kp T.zc4 .nil (fun _ _=>RepVs.nil) (zaa (zab 6) (zaa (zab 3) (zaa (zab 5) (zaa (zab 4) zae)))) rfl rfl (by decide) rfl rfl (zac (zac (zac (zac zag))))))) (zl4 (zex (zce (zam ((zjp T).mono (by decide)) hr T.m_l_looked T.f_l_looked.kp T.zdh .nil (fun _ _=>RepVs.nil) (zaa (zab 6) (zaa (zam ((zcu T).mono (by decide)) hr T.m_l_cell T.f_l_cell.kp T.zcg .nil (fun _ _=>RepVs.nil) (zaa (zab 0) (zaa zaf zae)) rfl rfl (by decide) rfl rfl (zac (zac zag))) zae)) rfl rfl (by decide) rfl rfl (zac (zac zag)))))))) (zan (zbk je_bl)) zdi)
  (zad (zas 7 (zcf (zab 3) zdf (zcz (je_op zbu (zaq zal rfl T.z_len (by decide +kernel) (zaa (zab 3) zae)) zaf))) zc9.nd)
  (zad (js_if (zex (zce (zam ((zfp T).mono (by decide)) hr T.m_l_right T.f_l_right.kp T.zc4 .nil (fun _ _=>RepVs.nil) (zaa (zam ((zco T).mono (by decide)) hr T.m_p_make_tape T.f_p_make_tape.kp T.zba .nil (fun _ _=>RepVs.nil) (zaa (zab 7) (zaa (zab 1) (zaa (je_op zbi (zab 4) zaf) zae))) rfl rfl (by decide) rfl rfl (zac (zac (zac zag)))) (zaa (zab 7) (zaa (zab 1) (zaa (je_op zbi (zab 4) zaf) zae)))) rfl rfl (by decide) rfl rfl (zac (zac (zac (zac zag))))))) (zan (zbk je_bl)) zdi)
  (zad (js_if (zex (zce (zam ((zfp T).mono (by decide)) hr T.m_l_right T.f_l_right.kp T.zc4 .nil (fun _ _=>RepVs.nil) (zaa (zam ((zco T).mono (by decide)) hr T.m_p_make_tape T.f_p_make_tape.kp T.zba .nil (fun _ _=>RepVs.nil) (zaa (zf0 zae) (zaa (zab 5) (zaa (zab 4) zae))) rfl rfl (by decide) rfl rfl (zac (zac (zac zag)))) (zaa (zf0 zae) (zaa (zab 5) (zaa (zab 4) zae)))) rfl rfl (by decide) rfl rfl (zac (zac (zac (zac zag))))))) (zan (zbk je_bl)) zdi)
  (zad (zas 8 (ze5 zfq rfl T.z_list (by decide +kernel) (zaa (zab 6) zae)) zc9.nd)
  (zad (zep (je_meth0 PySem.F.plainAttrs_list PySem.F.slot_list_clear PySem.F.type_list_clear mt_clearV (zab 6)))
  (zan (zbk (je_cmp (zjy (hu200 hr)) (zam ((zco T).mono (by decide)) hr T.m_p_make_tape T.f_p_make_tape.kp T.zba .nil (fun _ _=>RepVs.nil) (zaa (zab 3) (zaa (zab 5) (zaa (zab 4) zae))) rfl rfl (by decide) rfl rfl (zac (zac (zac zag)))) (zab 8) (nomark _))))))))))))))))
end
theorem us1 {us:List Value}(h:us.length=1):∃a0,us=[a0]:=by
 match us,h with | [a0],_=>exact⟨a0,rfl⟩
theorem us2 {us:List Value}(h:us.length=2):∃a0 a1,us=[a0,a1]:=by
 match us,h with | [a0,a1],_=>exact⟨a0,a1,rfl⟩
theorem us3 {us:List Value}(h:us.length=3):∃a0 a1 a2,us=[a0,a1,a2]:=by
 match us,h with | [a0,a1,a2],_=>exact⟨a0,a1,a2,rfl⟩
theorem us4 {us:List Value}(h:us.length=4):∃a0 a1 a2 a3,us=[a0,a1,a2,a3]:=by
 match us,h with | [a0,a1,a2,a3],_=>exact⟨a0,a1,a2,a3,rfl⟩
theorem all_mk {l:PySem.W.OpenLaw}{w:World}{K:PySem.W.Frag}{h:Heap}{mg:Str->Option Value}{fa f0 f1 f2 f3 f4 f5 f6 f7 f8 f9 f10 f11 f12 f13 f14 f15 f16 f17 f18 f19 f20 f21 f22:Addr}(X:K.In h)(G:h.Ns mainGlobals mg)(hfa:mg "law" = some (.ref fa))
  {od0 an0:Option Addr} {sl0:Array (Option Value)} {oc0 kV0 dc0 pm0 cd0 ct0:Value}
  {od1 an1:Option Addr} {sl1:Array (Option Value)} {oc1 kV1 dc1 pm1 cd1 ct1:Value}
  {od2 an2:Option Addr} {sl2:Array (Option Value)} {oc2 kV2 dc2 pm2 cd2 ct2:Value}
  {od3 an3:Option Addr} {sl3:Array (Option Value)} {oc3 kV3 dc3 pm3 cd3 ct3:Value}
  {od4 an4:Option Addr} {sl4:Array (Option Value)} {oc4 kV4 dc4 pm4 cd4 ct4:Value}
  {od5 an5:Option Addr} {sl5:Array (Option Value)} {oc5 kV5 dc5 pm5 cd5 ct5:Value}
  {od6 an6:Option Addr} {sl6:Array (Option Value)} {oc6 kV6 dc6 pm6 cd6 ct6:Value}
  {od7 an7:Option Addr} {sl7:Array (Option Value)} {oc7 kV7 dc7 pm7 cd7 ct7:Value}
  {od8 an8:Option Addr} {sl8:Array (Option Value)} {oc8 kV8 dc8 pm8 cd8 ct8:Value}
  {od9 an9:Option Addr} {sl9:Array (Option Value)} {oc9 kV9 dc9 pm9 cd9 ct9:Value}
  {od10 an10:Option Addr} {sl10:Array (Option Value)} {oc10 kV10 dc10 pm10 cd10 ct10:Value}
  {od11 an11:Option Addr} {sl11:Array (Option Value)} {oc11 kV11 dc11 pm11 cd11 ct11:Value}
  {od12 an12:Option Addr} {sl12:Array (Option Value)} {oc12 kV12 dc12 pm12 cd12 ct12:Value}
  {od13 an13:Option Addr} {sl13:Array (Option Value)} {oc13 kV13 dc13 pm13 cd13 ct13:Value}
  {od14 an14:Option Addr} {sl14:Array (Option Value)} {oc14 kV14 dc14 pm14 cd14 ct14:Value}
  {od15 an15:Option Addr} {sl15:Array (Option Value)} {oc15 kV15 dc15 pm15 cd15 ct15:Value}
  {od16 an16:Option Addr} {sl16:Array (Option Value)} {oc16 kV16 dc16 pm16 cd16 ct16:Value}
  {od17 an17:Option Addr} {sl17:Array (Option Value)} {oc17 kV17 dc17 pm17 cd17 ct17:Value}
  {od18 an18:Option Addr} {sl18:Array (Option Value)} {oc18 kV18 dc18 pm18 cd18 ct18:Value}
  {od19 an19:Option Addr} {sl19:Array (Option Value)} {oc19 kV19 dc19 pm19 cd19 ct19:Value}
  {od20 an20:Option Addr} {sl20:Array (Option Value)} {oc20 kV20 dc20 pm20 cd20 ct20:Value}
  {od21 an21:Option Addr} {sl21:Array (Option Value)} {oc21 kV21 dc21 pm21 cd21 ct21:Value}
  {od22 an22:Option Addr} {sl22:Array (Option Value)} {oc22 kV22 dc22 pm22 cd22 ct22:Value}
  {C_One C_P C_T fI:Addr} {odI anI:Option Addr} {slI:Array (Option Value)} {ocI kVI dcI pmI cdI ctI:Value} (x1:PySem.W.nsIn K mainGlobals "OneError" = some (some (.ref C_One))) (xP:PySem.W.nsIn K mainGlobals "NoProgram" = some (some (.ref C_P))) (xT:PySem.W.nsIn K mainGlobals "NoProgram" = some (some (.ref C_T)))
  (xa:PySem.W.findIn K (.ref C_One) "__init__" = some (some (.ref fI))) (xl:K.lookup fI=some ⟨ocI,odI,.func (PySem.W.fnOf "__init__" "OneError.__init__" (defArgs zj0) (defBody zj0) (defScope zj0) .none kVI dcI pmI anI cdI ctI),slI⟩) (xc:PySem.W.codeIn K cdI "OneError.__init__" = true) (xk:PySem.W.keepIn K (.ref fI)=true)
  (xr_tP:twoIn K C_P C_One fI=true) (xr_n:noCls K (("NoTree":String):PySem.Str)=true) (xr_b:PySem.W.ktsIn K C_One "BaseException" = true) (xr_3:PySem.W.kitOne K (.ref C_P) (.type "ValueError")=some true) (xeP:PySem.W.keepIn K (.ref C_P)=true) (xeT:PySem.W.keepIn K (.ref C_T)=true)
  {C_Numbers:Addr} (cz_Numbers:PySem.W.nsIn K mainGlobals "Numbers" = some (some (.ref C_Numbers))) (cp_Numbers:PySem.W.plainGet K C_Numbers Str.empty=true) (ch_Numbers:PySem.W.hasDictIn K C_Numbers=true) (co_Numbers:PySem.W.plainOver K C_Numbers=true) (cs_Numbers:PySem.W.findIn K (.ref C_Numbers) "__setattr__" = some (some (.builtin "object.__setattr__"))) (ck_Numbers:PySem.W.makesIn K C_Numbers=true) (ce_Numbers:PySem.W.keepIn K (.ref C_Numbers)=true)
  (cn_Numbers_first:PySem.W.findIn K (.ref C_Numbers) "first" = some none)
  (cn_Numbers_given:PySem.W.findIn K (.ref C_Numbers) "given" = some none)
  (a0:PySem.W.nsIn K mainGlobals "look_at_rules" = some (some (.ref f0))) (l0:K.lookup f0=some ⟨oc0,od0,.func (PySem.W.fnOf "look_at_rules" "look_at_rules" (defArgs za1) (defBody za1) (defScope za1) .none kV0 dc0 pm0 an0 cd0 ct0),sl0⟩) (c0:PySem.W.codeIn K cd0 "look_at_rules" = true) (k0:PySem.W.keepIn K (.ref f0)=true)
  (a1:PySem.W.findIn K (.ref C_Numbers) "__init__" = some (some (.ref f1))) (i1:PySem.W.isFn K (.ref f1)=true) (l1:K.lookup f1=some ⟨oc1,od1,.func (PySem.W.fnOf "__init__" "Numbers.__init__" (defArgs za6) (defBody za6) (defScope za6) .none kV1 dc1 pm1 an1 cd1 ct1),sl1⟩) (c1:PySem.W.codeIn K cd1 "Numbers.__init__" = true) (k1:PySem.W.keepIn K (.ref f1)=true)
  (a2:PySem.W.findIn K (.ref C_Numbers) "number" = some (some (.ref f2))) (i2:PySem.W.isFn K (.ref f2)=true) (l2:K.lookup f2=some ⟨oc2,od2,.func (PySem.W.fnOf "number" "Numbers.number" (defArgs zav) (defBody zav) (defScope zav) .none kV2 dc2 pm2 an2 cd2 ct2),sl2⟩) (c2:PySem.W.codeIn K cd2 "Numbers.number" = true) (k2:PySem.W.keepIn K (.ref f2)=true)
  (a3:PySem.W.nsIn K mainGlobals "tape_look" = some (some (.ref f3))) (l3:K.lookup f3=some ⟨oc3,od3,.func (PySem.W.fnOf "tape_look" "tape_look" (defArgs zby) (defBody zby) (defScope zby) .none kV3 dc3 pm3 an3 cd3 ct3),sl3⟩) (c3:PySem.W.codeIn K cd3 "tape_look" = true) (k3:PySem.W.keepIn K (.ref f3)=true)
  (a4:PySem.W.nsIn K mainGlobals "make_tape" = some (some (.ref f4))) (l4:K.lookup f4=some ⟨oc4,od4,.func (PySem.W.fnOf "make_tape" "make_tape" (defArgs zb0) (defBody zb0) (defScope zb0) .none kV4 dc4 pm4 an4 cd4 ct4),sl4⟩) (c4:PySem.W.codeIn K cd4 "make_tape" = true) (k4:PySem.W.keepIn K (.ref f4)=true)
  (a5:PySem.W.nsIn K mainGlobals "grow_state" = some (some (.ref f5))) (l5:K.lookup f5=some ⟨oc5,od5,.func (PySem.W.fnOf "grow_state" "grow_state" (defArgs zbm) (defBody zbm) (defScope zbm) .none kV5 dc5 pm5 an5 cd5 ct5),sl5⟩) (c5:PySem.W.codeIn K cd5 "grow_state" = true) (k5:PySem.W.keepIn K (.ref f5)=true)
  (a6:PySem.W.nsIn K mainGlobals "back_state" = some (some (.ref f6))) (l6:K.lookup f6=some ⟨oc6,od6,.func (PySem.W.fnOf "back_state" "back_state" (defArgs zbs) (defBody zbs) (defScope zbs) .none kV6 dc6 pm6 an6 cd6 ct6),sl6⟩) (c6:PySem.W.codeIn K cd6 "back_state" = true) (k6:PySem.W.keepIn K (.ref f6)=true)
  (a7:PySem.W.nsIn K mainGlobals "passing_rules" = some (some (.ref f7))) (l7:K.lookup f7=some ⟨oc7,od7,.func (PySem.W.fnOf "passing_rules" "passing_rules" (defArgs zar) (defBody zar) (defScope zar) .none kV7 dc7 pm7 an7 cd7 ct7),sl7⟩) (c7:PySem.W.codeIn K cd7 "passing_rules" = true) (k7:PySem.W.keepIn K (.ref f7)=true)
  (a8:PySem.W.nsIn K mainGlobals "words_left" = some (some (.ref f8))) (l8:K.lookup f8=some ⟨oc8,od8,.func (PySem.W.fnOf "words_left" "words_left" (defArgs zbp) (defBody zbp) (defScope zbp) .none kV8 dc8 pm8 an8 cd8 ct8),sl8⟩) (c8:PySem.W.codeIn K cd8 "words_left" = true) (k8:PySem.W.keepIn K (.ref f8)=true)
  (a9:PySem.W.nsIn K mainGlobals "growing_rule" = some (some (.ref f9))) (l9:K.lookup f9=some ⟨oc9,od9,.func (PySem.W.fnOf "growing_rule" "growing_rule" (defArgs za5) (defBody za5) (defScope za5) .none kV9 dc9 pm9 an9 cd9 ct9),sl9⟩) (c9:PySem.W.codeIn K cd9 "growing_rule" = true) (k9:PySem.W.keepIn K (.ref f9)=true)
  (a10:PySem.W.nsIn K mainGlobals "targets_of" = some (some (.ref f10))) (l10:K.lookup f10=some ⟨oc10,od10,.func (PySem.W.fnOf "targets_of" "targets_of" (defArgs zbn) (defBody zbn) (defScope zbn) .none kV10 dc10 pm10 an10 cd10 ct10),sl10⟩) (c10:PySem.W.codeIn K cd10 "targets_of" = true) (k10:PySem.W.keepIn K (.ref f10)=true)
  (a11:PySem.W.nsIn K mainGlobals "_law_cell" = some (some (.ref f11))) (l11:K.lookup f11=some ⟨oc11,od11,.func (PySem.W.fnOf "_law_cell" "_law_cell" (defArgs zem) (defBody zem) (defScope zem) .none kV11 dc11 pm11 an11 cd11 ct11),sl11⟩) (c11:PySem.W.codeIn K cd11 "_law_cell" = true) (k11:PySem.W.keepIn K (.ref f11)=true)
  (a12:PySem.W.nsIn K mainGlobals "_law_whole" = some (some (.ref f12))) (l12:K.lookup f12=some ⟨oc12,od12,.func (PySem.W.fnOf "_law_whole" "_law_whole" (defArgs zdp) (defBody zdp) (defScope zdp) .none kV12 dc12 pm12 an12 cd12 ct12),sl12⟩) (c12:PySem.W.codeIn K cd12 "_law_whole" = true) (k12:PySem.W.keepIn K (.ref f12)=true)
  (a13:PySem.W.nsIn K mainGlobals "_law_alphabet" = some (some (.ref f13))) (l13:K.lookup f13=some ⟨oc13,od13,.func (PySem.W.fnOf "_law_alphabet" "_law_alphabet" (defArgs zb8) (defBody zb8) (defScope zb8) .none kV13 dc13 pm13 an13 cd13 ct13),sl13⟩) (c13:PySem.W.codeIn K cd13 "_law_alphabet" = true) (k13:PySem.W.keepIn K (.ref f13)=true)
  (a14:PySem.W.nsIn K mainGlobals "_law_some_states" = some (some (.ref f14))) (l14:K.lookup f14=some ⟨oc14,od14,.func (PySem.W.fnOf "_law_some_states" "_law_some_states" (defArgs zbf) (defBody zbf) (defScope zbf) .none kV14 dc14 pm14 an14 cd14 ct14),sl14⟩) (c14:PySem.W.codeIn K cd14 "_law_some_states" = true) (k14:PySem.W.keepIn K (.ref f14)=true)
  (a15:PySem.W.nsIn K mainGlobals "_law_drawn_text" = some (some (.ref f15))) (l15:K.lookup f15=some ⟨oc15,od15,.func (PySem.W.fnOf "_law_drawn_text" "_law_drawn_text" (defArgs zbr) (defBody zbr) (defScope zbr) .none kV15 dc15 pm15 an15 cd15 ct15),sl15⟩) (c15:PySem.W.codeIn K cd15 "_law_drawn_text" = true) (k15:PySem.W.keepIn K (.ref f15)=true)
  (a16:PySem.W.nsIn K mainGlobals "_law_drawn_word" = some (some (.ref f16))) (l16:K.lookup f16=some ⟨oc16,od16,.func (PySem.W.fnOf "_law_drawn_word" "_law_drawn_word" (defArgs zbo) (defBody zbo) (defScope zbo) .none kV16 dc16 pm16 an16 cd16 ct16),sl16⟩) (c16:PySem.W.codeIn K cd16 "_law_drawn_word" = true) (k16:PySem.W.keepIn K (.ref f16)=true)
  (a17:PySem.W.nsIn K mainGlobals "_law_program" = some (some (.ref f17))) (l17:K.lookup f17=some ⟨oc17,od17,.func (PySem.W.fnOf "_law_program" "_law_program" (defArgs zcp) (defBody zcp) (defScope zcp) .none kV17 dc17 pm17 an17 cd17 ct17),sl17⟩) (c17:PySem.W.codeIn K cd17 "_law_program" = true) (k17:PySem.W.keepIn K (.ref f17)=true)
  (a18:PySem.W.nsIn K mainGlobals "_law_wider" = some (some (.ref f18))) (l18:K.lookup f18=some ⟨oc18,od18,.func (PySem.W.fnOf "_law_wider" "_law_wider" (defArgs zc7) (defBody zc7) (defScope zc7) .none kV18 dc18 pm18 an18 cd18 ct18),sl18⟩) (c18:PySem.W.codeIn K cd18 "_law_wider" = true) (k18:PySem.W.keepIn K (.ref f18)=true)
  (a19:PySem.W.nsIn K mainGlobals "_law_form" = some (some (.ref f19))) (l19:K.lookup f19=some ⟨oc19,od19,.func (PySem.W.fnOf "_law_form" "_law_form" (defArgs zej) (defBody zej) (defScope zej) .none kV19 dc19 pm19 an19 cd19 ct19),sl19⟩) (c19:PySem.W.codeIn K cd19 "_law_form" = true) (k19:PySem.W.keepIn K (.ref f19)=true)
  (a20:PySem.W.nsIn K mainGlobals "_law_right" = some (some (.ref f20))) (l20:K.lookup f20=some ⟨oc20,od20,.func (PySem.W.fnOf "_law_right" "_law_right" (defArgs zck) (defBody zck) (defScope zck) .none kV20 dc20 pm20 an20 cd20 ct20),sl20⟩) (c20:PySem.W.codeIn K cd20 "_law_right" = true) (k20:PySem.W.keepIn K (.ref f20)=true)
  (a21:PySem.W.nsIn K mainGlobals "_law_looked" = some (some (.ref f21))) (l21:K.lookup f21=some ⟨oc21,od21,.func (PySem.W.fnOf "_law_looked" "_law_looked" (defArgs zc1) (defBody zc1) (defScope zc1) .none kV21 dc21 pm21 an21 cd21 ct21),sl21⟩) (c21:PySem.W.codeIn K cd21 "_law_looked" = true) (k21:PySem.W.keepIn K (.ref f21)=true)
  (a22:PySem.W.nsIn K mainGlobals "law" = some (some (.ref f22))) (l22:K.lookup f22=some ⟨oc22,od22,.func (PySem.W.fnOf "law" "law" (defArgs zge) (defBody zge) (defScope zge) .none kV22 dc22 pm22 an22 cd22 ct22),sl22⟩) (c22:PySem.W.codeIn K cd22 "law" = true) (k22:PySem.W.keepIn K (.ref f22)=true)
  {t_BLANK:Tok} (v_BLANK:PySem.W.nsIn K mainGlobals "BLANK" = some (some (.str "_" t_BLANK)))
  (z_ValueError:PySem.W.nsIn K mainGlobals "ValueError" = some none)
  (z_bool:PySem.W.nsIn K mainGlobals "bool" = some none)
  (z_enumerate:PySem.W.nsIn K mainGlobals "enumerate" = some none)
  (z_int:PySem.W.nsIn K mainGlobals "int" = some none)
  (z_isinstance:PySem.W.nsIn K mainGlobals "isinstance" = some none)
  (z_len:PySem.W.nsIn K mainGlobals "len" = some none)
  (z_list:PySem.W.nsIn K mainGlobals "list" = some none)
  (z_range:PySem.W.nsIn K mainGlobals "range" = some none)
  (z_set:PySem.W.nsIn K mainGlobals "set" = some none)
  (z_sorted:PySem.W.nsIn K mainGlobals "sorted" = some none)
  (z_str:PySem.W.nsIn K mainGlobals "str" = some none)
  (z_sum:PySem.W.nsIn K mainGlobals "sum" = some none)
  (z_tuple:PySem.W.nsIn K mainGlobals "tuple" = some none)
  :∃fd:FuncData,(∀(s:Shared) (v:Value),BindsTo s fd ⟨[v],[]⟩ [("_law_script",v)])/\∀base:Heap,K.In base->base.Ns mainGlobals mg->FnOk l.prog w K mg base CX0 6 fa fd ["_law_script"] (spM K 1 zhm):=by
 have e:=hfa.symm.trans (PySem.W.mg_of X G a22)
 cases e
 have F0:=zcj (st:=za1) l0 c0 k0
 have F1:=zcj (st:=za6) l1 c1 k1
 have F2:=zcj (st:=zav) l2 c2 k2
 have F3:=zcj (st:=zby) l3 c3 k3
 have F4:=zcj (st:=zb0) l4 c4 k4
 have F5:=zcj (st:=zbm) l5 c5 k5
 have F6:=zcj (st:=zbs) l6 c6 k6
 have F7:=zcj (st:=zar) l7 c7 k7
 have F8:=zcj (st:=zbp) l8 c8 k8
 have F9:=zcj (st:=za5) l9 c9 k9
 have F10:=zcj (st:=zbn) l10 c10 k10
 have F11:=zcj (st:=zem) l11 c11 k11
 have F12:=zcj (st:=zdp) l12 c12 k12
 have F13:=zcj (st:=zb8) l13 c13 k13
 have F14:=zcj (st:=zbf) l14 c14 k14
 have F15:=zcj (st:=zbr) l15 c15 k15
 have F16:=zcj (st:=zbo) l16 c16 k16
 have F17:=zcj (st:=zcp) l17 c17 k17
 have F18:=zcj (st:=zc7) l18 c18 k18
 have F19:=zcj (st:=zej) l19 c19 k19
 have F20:=zcj (st:=zck) l20 c20 k20
 have F21:=zcj (st:=zc1) l21 c21 k21
 have F22:=zcj (st:=zge) l22 c22 k22
 have b0:=F0.binds (ps:=["rules"]) fun _ _ _ _ _ _ us hl=>by obtain⟨_,rfl⟩:=us1 hl;rfl
 have b1:=F1.binds (ps:=["self","first"]) fun _ _ _ _ _ _ us hl=>by obtain⟨_,_,rfl⟩:=us2 hl;rfl
 have b2:=F2.binds (ps:=["self","key"]) fun _ _ _ _ _ _ us hl=>by obtain⟨_,_,rfl⟩:=us2 hl;rfl
 have b3:=F3.binds (ps:=["rules"]) fun _ _ _ _ _ _ us hl=>by obtain⟨_,rfl⟩:=us1 hl;rfl
 have b4:=F4.binds (ps:=["rules","signs","top"]) fun _ _ _ _ _ _ us hl=>by obtain⟨_,_,_,rfl⟩:=us3 hl;rfl
 have b5:=F5.binds (ps:=["numbers","word","target"]) fun _ _ _ _ _ _ us hl=>by obtain⟨_,_,_,rfl⟩:=us3 hl;rfl
 have b6:=F6.binds (ps:=["numbers","target"]) fun _ _ _ _ _ _ us hl=>by obtain⟨_,_,rfl⟩:=us2 hl;rfl
 have b7:=F7.binds (ps:=["state","signs","move"]) fun _ _ _ _ _ _ us hl=>by obtain⟨_,_,_,rfl⟩:=us3 hl;rfl
 have b8:=F8.binds (ps:=["walks"]) fun _ _ _ _ _ _ us hl=>by obtain⟨_,rfl⟩:=us1 hl;rfl
 have b9:=F9.binds (ps:=["numbers","word","target"]) fun _ _ _ _ _ _ us hl=>by obtain⟨_,_,_,rfl⟩:=us3 hl;rfl
 have b10:=F10.binds (ps:=["walks"]) fun _ _ _ _ _ _ us hl=>by obtain⟨_,rfl⟩:=us1 hl;rfl
 have b11:=F11.binds (ps:=["_law_script","_law_k"]) fun _ _ _ _ _ _ us hl=>by obtain⟨_,_,rfl⟩:=us2 hl;rfl
 have b12:=F12.binds (ps:=["_law_found"]) fun _ _ _ _ _ _ us hl=>by obtain⟨_,rfl⟩:=us1 hl;rfl
 have b13:=F13.binds (ps:=["_law_script"]) fun _ _ _ _ _ _ us hl=>by obtain⟨_,rfl⟩:=us1 hl;rfl
 have b14:=F14.binds (ps:=["_law_script"]) fun _ _ _ _ _ _ us hl=>by obtain⟨_,rfl⟩:=us1 hl;rfl
 have b15:=F15.binds (ps:=["_law_cell_here","_law_many","_law_signs"]) fun _ _ _ _ _ _ us hl=>by obtain⟨_,_,_,rfl⟩:=us3 hl;rfl
 have b16:=F16.binds (ps:=["_law_cell_here","_law_signs"]) fun _ _ _ _ _ _ us hl=>by obtain⟨_,_,rfl⟩:=us2 hl;rfl
 have b17:=F17.binds (ps:=["_law_script","_law_signs","_law_states","_law_at"]) fun _ _ _ _ _ _ us hl=>by obtain⟨_,_,_,_,rfl⟩:=us4 hl;rfl
 have b18:=F18.binds (ps:=["_law_script","_law_signs"]) fun _ _ _ _ _ _ us hl=>by obtain⟨_,_,rfl⟩:=us2 hl;rfl
 have b19:=F19.binds (ps:=["_law_made"]) fun _ _ _ _ _ _ us hl=>by obtain⟨_,rfl⟩:=us1 hl;rfl
 have b20:=F20.binds (ps:=["_law_made","_law_rules","_law_signs","_law_top"]) fun _ _ _ _ _ _ us hl=>by obtain⟨_,_,_,_,rfl⟩:=us4 hl;rfl
 have b21:=F21.binds (ps:=["_law_made","_law_cell_here"]) fun _ _ _ _ _ _ us hl=>by obtain⟨_,_,rfl⟩:=us2 hl;rfl
 have b22:=F22.binds (ps:=["_law_script"]) fun _ _ _ _ _ _ us hl=>by obtain⟨_,rfl⟩:=us1 hl;rfl
 have FI:=zcj (st:=zj0) xl xc xk
 have bI:=FI.binds (ps:=["self","at"]) fun _ _ _ _ _ _ us hl=>by obtain⟨_,_,rfl⟩:=us2 hl;rfl
 exact⟨_,fun s v=>.of_eq rfl,fun base _ _=>ok_p_law (Ad:=⟨_,_,_,_,_,_,_,_,_,_,_,_,_,_,_,_,_,_,_,_,_,_,_,_,_,_,_,_,_,_,_,_,_,_,_,_,_,_,_,_,_,_,_,_,_,_,_,_,_,_,_,_⟩) ⟨F0,PySem.W.mg_of X G a0,b0,F1,⟨ck_Numbers,a1,i1,ce_Numbers⟩,b1,F2,⟨a2,i2,k2⟩,b2,F3,PySem.W.mg_of X G a3,b3,F4,PySem.W.mg_of X G a4,b4,F5,PySem.W.mg_of X G a5,b5,F6,PySem.W.mg_of X G a6,b6,F7,PySem.W.mg_of X G a7,b7,F8,PySem.W.mg_of X G a8,b8,F9,PySem.W.mg_of X G a9,b9,F10,PySem.W.mg_of X G a10,b10,F11,PySem.W.mg_of X G a11,b11,F12,PySem.W.mg_of X G a12,b12,F13,PySem.W.mg_of X G a13,b13,F14,PySem.W.mg_of X G a14,b14,F15,PySem.W.mg_of X G a15,b15,F16,PySem.W.mg_of X G a16,b16,F17,PySem.W.mg_of X G a17,b17,F18,PySem.W.mg_of X G a18,b18,F19,PySem.W.mg_of X G a19,b19,F20,PySem.W.mg_of X G a20,b20,F21,PySem.W.mg_of X G a21,b21,F22,PySem.W.mg_of X G a22,b22,cz_Numbers,PySem.W.mg_of X G cz_Numbers,⟨cp_Numbers,ch_Numbers,co_Numbers,cs_Numbers⟩,cn_Numbers_first,cn_Numbers_given,FI,bI,⟨xP,xr_n,xr_tP,xr_b,xr_3⟩,PySem.W.mg_of X G x1,PySem.W.mg_of X G xP,PySem.W.mg_of X G xT,xeP,xeT,⟨_,PySem.W.mg_of X G v_BLANK⟩,PySem.W.mg_none_of X G z_ValueError,PySem.W.mg_none_of X G z_bool,PySem.W.mg_none_of X G z_enumerate,PySem.W.mg_none_of X G z_int,PySem.W.mg_none_of X G z_isinstance,PySem.W.mg_none_of X G z_len,PySem.W.mg_none_of X G z_list,PySem.W.mg_none_of X G z_range,PySem.W.mg_none_of X G z_set,PySem.W.mg_none_of X G z_sorted,PySem.W.mg_none_of X G z_str,PySem.W.mg_none_of X G z_sum,PySem.W.mg_none_of X G z_tuple⟩⟩
end Law
set_option maxHeartbeats 0
namespace M
open L2
theorem zg0 {a b:List Nat}:(strOf a=strOf b)↔a=b:=by
 constructor
 ·intro h
  have:=congrArg (fun s=>s.cps.toList) h
  simpa[strOf] using this
 ·rintro rfl;rfl
noncomputable def wf (st:Stor):Prop:=∀o∈st,underO st.length o
theorem zkx {st:Stor}{n:Nat}{o:MO}(h:wf st)(ho:underO st.length o):∀q∈st.set n o,underO st.length q:=by
 intro q hq
 rcases List.mem_or_eq_of_mem_set hq with hq | rfl
 ·exact h q hq
 ·exact ho
mutual
theorem zdv {n m:Nat}(h:n<=m):∀(d:D),under n d->under m d
 | .non,_=>by simp
 | .bl _,_=>by simp
 | .int _,_=>by simp
 | .str _,_=>by simp
 | .tup ds,u=>by rw[zg6]at *;exact zd4 h ds u
 | .loc k,u=>by rw[zgy]at *;omega
theorem zd4 {n m:Nat}(h:n<=m):∀(ds:List D),unders n ds->unders m ds
 | [],_=>by simp
 | d::ds,u=>by rw[zef]at *;exact⟨zdv h d u.1,zd4 h ds u.2⟩
end
theorem underO_le {n m:Nat}(h:n<=m)(o:MO)(u:underO n o):underO m o:=by
 cases o with
 | lst ds=>exact zd4 h ds u
 | frz ds=>exact zd4 h ds u
 | dic kvs=>exact fun p hp=>zdv h _ (u p hp)
 | dkc kvs=>exact fun p hp=>zdv h _ (u p hp)
 | dkf kvs=>exact fun p hp=>zdv h _ (u p hp)
 | dtf kvs=>exact fun p hp=>zdv h _ (u p hp)
 | ins c fs=>exact fun p hp=>zdv h _ (u p hp)
 | tab x=>trivial
 | clo j l ds=>exact zd4 h ds u
 | hid=>trivial
 | exc c d=>exact zdv h _ u
end M
namespace Law
open L2 M
theorem set_id {st:Stor}{n:Nat}{o:MO}(h:st[n]? = some o):st.set n o=st:=List.ext_getElem? fun i=>by
 by_cases e:n=i
 ·subst e;rw[List.getElem?_set_self (List.getElem?_eq_some_iff.mp h).1,h]
 ·rw[List.getElem?_set_ne e]
theorem zl6 (x y:D):List.lookup ("first":PySem.Str) [(("first":PySem.Str),x),(("given":PySem.Str),y)]=some x:=by
 rw[List.lookup];simp
theorem zk6 (x y:D):List.lookup ("given":PySem.Str) [(("first":PySem.Str),x),(("given":PySem.Str),y)]=some y:=by
 have:(("given":PySem.Str)==("first":PySem.Str))=false:=by decide
 rw[List.lookup,this,List.lookup];simp
theorem zjv (x y:D):List.lookup ("number":PySem.Str) [(("first":PySem.Str),x),(("given":PySem.Str),y)]=none:=by
 have h1:(("number":PySem.Str)==("first":PySem.Str))=false:=by decide
 have h2:(("number":PySem.Str)==("given":PySem.Str))=false:=by decide
 simp only[List.lookup,h1,h2]
theorem set_set {st:Stor}{n:Nat}{o q:MO}:(st.set n o).set n q=st.set n q:=by simp
theorem gcM_asis {st st':Stor}{d:D}{o:MO}(hm:o∈st'.take st.length)(h:¬ underO st.length o):gcM st (.ok d st')=.ok d st':=by
 unfold gcM
 dsimp only
 rw[if_neg (fun z=>h (z.2 o hm))]
noncomputable def insN (n f:Nat):MO:=.ins "Numbers" [("first",.int (f:Nat)),("given",.loc (n+1))]
theorem init_ok (st:Stor)(f:Nat):za8 [.loc st.length,.int (f:Nat)] (st++[.ins "Numbers" []])=.ok .non (st++[insN st.length f,.dic []]):=by
 have hu:gcM (st++[.ins "Numbers" []]) (.ok .non (st++[insN st.length f,.dic []]))=.ok .non (st++[insN st.length f,.dic []]):=gcM_asis (o:=insN st.length f) (by
  rw[show st++[insN st.length f,.dic []]=(st++[insN st.length f])++[.dic []] by simp,List.take_left' (by simp)]
  simp) (by
  intro h
  have:=h ("given",.loc (st.length+1)) (by simp)
  simp at this)
 have n1:¬ (("first":PySem.Str) = "given"):=by decide
 unfold za8 gcFM fnM zbj setFldS insN at *
 rw[show startM 2 [D.loc st.length,.int (f:Nat)]=[some (.loc st.length),some (.int (f:Nat))] from rfl]
 simp[dicE,putFD,n1]
 exact hu
theorem zgd {st:Stor}{n:Nat}{ds:List D}(h:itemsAt st n=some ds):lenW [.loc n] st=.ok (.int ds.length) st:=by
 have h2:=r_len_loc st n ds h
 unfold itemsAt at h
 unfold lenW
 split at h
 ·rename_i q;simp only[q];exact h2
 ·rename_i q;simp only[q];exact h2
 ·cases h
end Law
set_option maxHeartbeats 0
namespace M
open L2
structure Rl where
 s:Nat
 x:Nat
 w:List Nat
 g:Nat
inductive TK where
 | gr (w:List Nat) (t:Nat) | bk (t:Nat)
 deriving DecidableEq
inductive TS where
 | tp (n:Nat) | tk (k:TK)
 deriving DecidableEq
open TK TS
structure TQ where
 s:TS
 x:Nat
 w:Nat
 mv:Bool
 g:TS
noncomputable def srcR (r:Rl):TQ:=⟨tp r.s,r.x,95,true,tk (gr r.w r.g)⟩
noncomputable def pasR (k:TK)(mv:Bool)(c:Nat):TQ:=⟨tk k,c,c,mv,tk k⟩
noncomputable def groR (w:List Nat)(t:Nat):TQ:=match w with
 | []=>⟨tk (gr [] t),95,95,false,tk (bk t)⟩
 | c::r=>⟨tk (gr (c::r) t),95,c,true,tk (gr r t)⟩
noncomputable def bakR (t:Nat):TQ:=⟨tk (bk t),95,95,true,tp t⟩
inductive Gd (RL:List Rl) (signs:List Nat):TQ->Prop where
 | src (r:Rl) (h:r∈RL):Gd RL signs (srcR r)
 | pas (w:List Nat) (t c:Nat) (h:c∈signs):Gd RL signs (pasR (gr w t) true c)
 | gro (w:List Nat) (t:Nat):Gd RL signs (groR w t)
 | pab (t c:Nat) (h:c∈signs):Gd RL signs (pasR (bk t) false c)
 | bak (t:Nat):Gd RL signs (bakR t)
theorem Gd.one {RL:List Rl}{signs:List Nat}(hs:95∉signs)(hR:∀r∈RL,∀r'∈RL,r.s=r'.s->r.x=r'.x->r.w=r'.w/\r.g=r'.g){p q:TQ}(hp:Gd RL signs p)(hq:Gd RL signs q)(e1:p.s=q.s)(e2:p.x=q.x):p=q:=by
 have ng:∀(w:List Nat) (t:Nat),(groR w t).s=tk (gr w t)/\(groR w t).x=95:=fun w t=>by cases w<;>exact⟨rfl,rfl⟩
 cases hp with
 | src r h =>
  cases hq with
  | src r' h' =>
   obtain⟨a,b⟩:=hR r h r' h' (TS.tp.inj e1) e2
   simp only[srcR,pasR,bakR]at e1 e2
   simp[srcR,a,b,e1,e2]
  | pas w t c _=>cases e1
  | gro w t=>rw[(ng w t).1]at e1;cases e1
  | pab t c _=>cases e1
  | bak t=>cases e1
 | pas w t c h =>
  cases hq with
  | src r' h'=>cases e1
  | pas w' t' c' _=>cases e1;cases e2;rfl
  | gro w' t'=>rw[(ng w' t').2]at e2;cases e2;exact absurd h hs
  | pab t c _=>cases e1
  | bak t=>cases e1
 | gro w t =>
  rw[(ng w t).1]at e1
  rw[(ng w t).2]at e2
  cases hq with
  | src r' h'=>cases e1
  | pas w' t' c' h'=>simp only[pasR]at e2;subst e2;exact absurd h' hs
  | gro w' t'=>rw[(ng w' t').1]at e1;cases e1;rfl
  | pab t c _=>cases e1
  | bak t=>cases e1
 | pab t c h =>
  cases hq with
  | src r' h'=>cases e1
  | pas w' t' c' h'=>cases e1
  | gro w' t'=>rw[(ng w' t').1]at e1;cases e1
  | pab t' c' _=>cases e1;cases e2;rfl
  | bak t'=>simp only[pasR,bakR]at e2;subst e2;exact absurd h hs
 | bak t =>
  cases hq with
  | src r' h'=>cases e1
  | pas w' t' c' h'=>cases e1
  | gro w' t'=>rw[(ng w' t').1]at e1;cases e1
  | pab t' c' h'=>simp only[pasR,bakR]at e2;subst e2;exact absurd h' hs
  | bak t'=>cases e1;rfl
noncomputable def keyTK:TK->List Key
 | gr w t=>[.inr (strOf [103,114,111,119]),.inr (strOf w),.inl (t:Nat)]
 | bk t=>[.inr (strOf [98,97,99,107]),.inl (t:Nat)]
noncomputable def keyTD:TK->List D
 | gr w t=>[.str [103,114,111,119],.str w,.int (t:Nat)]
 | bk t=>[.str [98,97,99,107],.int (t:Nat)]
theorem zko (k:TK):keysOf (keyTD k)=some (keyTK k):=by cases k<;>rfl
theorem zjd {a b:TK}(h:keyTK a=keyTK b):a=b:=by
 cases a<;>cases b<;>simp[keyTK,zg0]at h
 ·obtain⟨h1,h2⟩:=h;rw[h1,show _=_ from Int.ofNat.inj h2]
 ·rw[show _=_ from Int.ofNat.inj h]
noncomputable def posT (k:TK):List TK->Nat
 | []=>0
 | j::ks=>if j=k then 0 else posT k ks+1
theorem posT_app {k:TK}{ks:List TK}(h:k∈ks)(l:List TK):posT k (ks++l)=posT k ks:=by
 induction ks with
 | nil=>exact nomatch h
 | cons j ks ih =>
  rw[List.cons_append,posT,posT]
  by_cases e:j=k
  ·rw[if_pos e,if_pos e]
  ·rw[if_neg e,if_neg e,ih (by rcases List.mem_cons.mp h with z | z;exact absurd z.symm e;exact z)]
theorem zk2 {k:TK}{ks:List TK}(h:k∈ks):ks[posT k ks]? = some k:=by
 induction ks with
 | nil=>exact nomatch h
 | cons j ks ih =>
  rw[posT]
  by_cases e:j=k
  ·rw[if_pos e,e];rfl
  ·rw[if_neg e,List.getElem?_cons_succ]
   exact ih (by rcases List.mem_cons.mp h with z | z;exact absurd z.symm e;exact z)
noncomputable def kvsT:Nat->List TK->List (List Key×D)
 | _,[]=>[]
 | f,k::ks=>(keyTK k,.int (f:Nat))::kvsT (f+1) ks
theorem zh5:∀(f:Nat) (ks:List TK),(kvsT f ks).length=ks.length
 | _,[]=>rfl
 | f,k::ks=>by rw[kvsT,List.length_cons,zh5,List.length_cons]
theorem ziz:∀(f:Nat) (ks:List TK) (k:TK),kvsT f (ks++[k])=kvsT f ks++[(keyTK k,.int ((f+ks.length:Nat):Int))]
 | f,[],k=>by simp[kvsT]
 | f,j::ks,k=>by
  rw[List.cons_append,kvsT,ziz (f+1) ks k,kvsT]
  simp only[List.cons_append,List.length_cons]
  congr 6;omega
theorem valM_T:∀(f:Nat) (ks:List TK) (k:TK),valM (kvsT f ks) (keyTK k)=if k∈ks then some (.int ((f+posT k ks:Nat):Int)) else none
 | f,[],k=>by simp[kvsT]
 | f,j::ks,k=>by
  rw[kvsT,zg4,valM_T (f+1) ks k]
  by_cases h:j=k
  ·subst h;simp[posT]
  ·have hk:¬ keyTK j=keyTK k:=fun z=>h (zjd z)
   rw[if_neg hk]
   by_cases hm:k∈ks
   ·rw[if_pos hm,if_pos (by simp[hm]),posT,if_neg h]
    congr 3;omega
   ·rw[if_neg hm,if_neg (by simp[hm];exact fun z=>h z.symm)]
theorem any_T (f:Nat)(ks:List TK)(k:TK)(h:k∉ks):((kvsT f ks).any fun kv=>decide (kv.1=keyTK k))=false:=by
 induction ks generalizing f with
 | nil=>rfl
 | cons j ks ih =>
  rw[kvsT,List.any_cons,ih (f+1) (fun z=>h (by simp[z]))]
  have:¬ keyTK j=keyTK k:=fun z=>h (by simp[zjd z])
  simp[this]
noncomputable def regT (ks:List TK)(k:TK):List TK:=if k∈ks then ks else ks++[k]
theorem zdu (ks:List TK)(k:TK):k∈regT ks k:=by unfold regT;split;assumption;simp
theorem zen (ks:List TK)(k:TK):∃l,regT ks k=ks++l:=by unfold regT;split;exact⟨[],by simp⟩;exact⟨[k],rfl⟩
theorem zeh (ks:List TK)(k:TK):(regT ks k).length<=ks.length+1:=by unfold regT;split<;>simp
noncomputable def numT (f:Nat)(ks:List TK):TS->Nat
 | tp n=>n
 | tk k=>f+posT k ks
noncomputable def inT (ks:List TK):TS->Prop
 | tp _=>True
 | tk k=>k∈ks
theorem zj6 {ks:List TK}{s:TS}(l:List TK)(h:inT ks s):inT (ks++l) s:=by
 cases s with
 | tp n=>trivial
 | tk k=>exact List.mem_append_left _ h
theorem ze9 {f:Nat}{ks:List TK}{s:TS}(l:List TK)(h:inT ks s):numT f (ks++l) s=numT f ks s:=by
 cases s with
 | tp n=>rfl
 | tk k=>show f+posT k (ks++l)=f+posT k ks;rw[posT_app h]
theorem zkb {f:Nat}{ks:List TK}{s u:TS}(h1:inT ks s)(h2:inT ks u)(hp:∀n,s=tp n->n<f)(hq:∀n,u=tp n->n<f)(e:numT f ks s=numT f ks u):s=u:=by
 cases s with
 | tp n =>
  cases u with
  | tp m=>exact congrArg tp e
  | tk k=>have:=hp n rfl;simp only[numT]at e;omega
 | tk j =>
  cases u with
  | tp m=>have:=hq m rfl;simp only[numT]at e;omega
  | tk k =>
   simp only[numT]at e
   have e2:posT j ks=posT k ks:=by omega
   have h1:j∈ks:=h1
   have h2:k∈ks:=h2
   have a:=zk2 h1
   have b:=zk2 h2
   rw[e2,b]at a
   cases a;rfl
noncomputable def mvC (b:Bool):Nat:=if b then 114 else 108
noncomputable def encT (f:Nat)(ks:List TK)(r:TQ):D:=.tup [.int (numT f ks r.s:Nat),.str [r.x],.str [r.w],.str [mvC r.mv],.int (numT f ks r.g:Nat)]
noncomputable def inRT (ks:List TK)(r:TQ):Prop:=inT ks r.s/\inT ks r.g
theorem ze7 {ks:List TK}{r:TQ}(l:List TK)(h:inRT ks r):inRT (ks++l) r:=⟨zj6 l h.1,zj6 l h.2⟩
theorem encT_mono {f:Nat}{ks:List TK}{r:TQ}(l:List TK)(h:inRT ks r):encT f (ks++l) r=encT f ks r:=by
 unfold encT;rw[ze9 l h.1,ze9 l h.2]
theorem zec {f:Nat}{ks:List TK}{rs:List TQ}(l:List TK)(h:∀r∈rs,inRT ks r):rs.map (encT f (ks++l))=rs.map (encT f ks):=List.map_congr_left fun r hr=>encT_mono l (h r hr)
theorem zf9 (n f:Nat)(ks:List TK):underO n (.dic (kvsT f ks)):=by
 induction ks generalizing f with
 | nil=>intro p hp;exact nomatch hp
 | cons k ks ih =>
  intro p hp
  rcases List.mem_cons.mp hp with rfl | hp
  ·simp
  ·exact ih (f+1) p hp
theorem zfa (n f:Nat)(ks:List TK)(r:TQ):under n (encT f ks r):=by simp[encT]
theorem zbg (n f:Nat)(ks:List TK)(rs:List TQ):unders n (rs.map (encT f ks)):=by
 induction rs with
 | nil=>simp
 | cons r rs ih=>simp[ih,zfa]
end M
namespace Law
open L2 M TK TS
structure NumT (st:Stor)(a b f:Nat)(ks:List TK):Prop where
 ins:st[a]? = some (.ins "Numbers" [("first",.int (f:Nat)),("given",.loc b)])
 dic:st[b]? = some (.dic (kvsT f ks))
 ne:a≠b
 wf:M.wf st
theorem NumT.set {st:Stor}{a b f:Nat}{ks ks':List TK}(h:NumT st a b f ks):NumT (st.set b (.dic (kvsT f ks'))) a b f ks':=by
 have hb:=(List.getElem?_eq_some_iff.mp h.dic).1
 refine⟨by rw[List.getElem?_set_ne (Ne.symm h.ne)];exact h.ins,List.getElem?_set_self hb,h.ne,?_⟩
 intro o ho
 rw[List.length_set]
 exact zkx h.wf (zf9 _ _ _) o ho
theorem zhp {st:Stor}{a b f:Nat}{ks:List TK}(h:NumT st a b f ks)(m:ME)(env:MEnv)(hm:m env st=.ok (.loc a) st):fldE "Numbers" "given" m env st=.ok (.loc b) st:=by
 unfold fldE
 rw[hm,R.bind_ok]
 simp only[h.ins]
 simp only[if_true,zk6]
theorem zl2 {st:Stor}{a b f:Nat}{ks:List TK}(h:NumT st a b f ks)(m:ME)(env:MEnv)(hm:m env st=.ok (.loc a) st):fldE "Numbers" "first" m env st=.ok (.int (f:Nat)) st:=by
 unfold fldE
 rw[hm,R.bind_ok]
 simp only[h.ins]
 simp only[if_true,zl6]
theorem zkf {st:Stor}{a b f:Nat}{ks:List TK}(h:NumT st a b f ks)(hl:ks.length<100000)(k:TK) :
  zaw [.loc a,.tup (keyTD k)] st=.ok (.int (numT f (regT ks k) (tk k):Nat)) (st.set b (.dic (kvsT f (regT ks k)))):=by
 have hb:=(List.getElem?_eq_some_iff.mp h.dic).1
 have v0:=valM_T f ks k
 have g1:∀(x:Option D),fldE "Numbers" "given" (vr 0) [some (.loc a),x] st=.ok (.loc b) st:=fun x=>zhp h _ _ rfl
 have g2:∀(x:Option D),fldE "Numbers" "first" (vr 0) [some (.loc a),x] st=.ok (.int (f:Nat)) st:=fun x=>zl2 h _ _ rfl
 have i1:inDV true (.tup (keyTD k)) (.loc b) st=.ok (.bl (!decide (k∈ks))) st:=by
  simp only[inDV,h.dic,zko,v0]
  by_cases c:k∈ks<;>simp[c]
 have h':NumT (st.set b (.dic (kvsT f (regT ks k)))) a b f (regT ks k):=h.set
 have g3:∀(x:Option D),fldE "Numbers" "given" (vr 0) [some (.loc a),x] (st.set b (.dic (kvsT f (regT ks k))))=.ok (.loc b) (st.set b (.dic (kvsT f (regT ks k)))):=fun x=>zhp h' _ _ rfl
 have ix:ixD (.loc b) (.tup (keyTD k)) (st.set b (.dic (kvsT f (regT ks k))))=.ok (.int (numT f (regT ks k) (tk k):Nat)) (st.set b (.dic (kvsT f (regT ks k)))):=by
  simp only[ixD,h'.dic,zko,valM_T]
  rw[if_pos (zdu ks k)];rfl
 have hu:gcM st (.ok (.int (numT f (regT ks k) (tk k):Nat)) (st.set b (.dic (kvsT f (regT ks k)))))=.ok (.int (numT f (regT ks k) (tk k):Nat)) (st.set b (.dic (kvsT f (regT ks k)))):=by
  have:=zg5 (st:=st) (st':=st.set b (.dic (kvsT f (regT ks k)))) (g:=[]) (d:=.int (numT f (regT ks k) (tk k):Nat)) (by simp) (zkx h.wf (zf9 _ _ _)) (by simp)
  simpa using this
 unfold zaw gcFM fnM zax
 rw[show startM 2 [D.loc a,.tup (keyTD k)]=[some (.loc a),some (.tup (keyTD k))] from rfl]
 generalize hG:fldE "Numbers" "given" (vr 0)=G at *
 generalize hF:fldE "Numbers" "first" (vr 0)=FF at *
 by_cases c:k∈ks
 ·have er:regT ks k=ks:=if_pos c
  rw[er]at hu ix ⊢
  rw[set_id h.dic]at hu ix ⊢
  rw[decide_eq_true c]at i1
  generalize keyTD k=KT at *
  generalize ((numT f ks (tk k):Nat):Int)=N at *
  simp[g1,i1,ix]
  exact hu
 ·have er:regT ks k=ks++[k]:=if_neg c
  rw[decide_eq_false c]at i1
  have ln:lenW [.loc b] st=.ok (.int (ks.length:Nat)) st:=by simp only[lenW,h.dic,zh5]
  have e1:((f:Nat):Int)+((ks.length:Nat):Int)=((f+ks.length:Nat):Int):=by omega
  have sd:setDV (.loc b) (.tup (keyTD k)) (.int ((f+ks.length:Nat):Int)) st=.ok () (st.set b (.dic (kvsT f (regT ks k)))):=by
   simp only[setDV,h.dic,zko]
   rw[if_pos (by rw[zh5];omega),er,ziz]
   unfold putM
   rw[any_T f ks k c,if_neg (by simp)]
  generalize st.set b (.dic (kvsT f (regT ks k)))=Z at *
  generalize keyTD k=KT at *
  generalize ((numT f (regT ks k) (tk k):Nat):Int)=N at *
  generalize ((f+ks.length:Nat):Int)=FL at *
  simp[g1,g2,i1,ln,e1,sd,g3,ix]
  exact hu
theorem zlj {st:Stor}{a b f:Nat}{ks:List TK}(h:NumT st a b f ks)(hl:ks.length<100000)(k:TK)(mo:ME)(mA:MA)(env:MEnv)(h1:mo env st=.ok (.loc a) st)(h2:mA env st=.ok [.tup (keyTD k)] st) :
  methI "Numbers" "number" zaw mo mA env st=.ok (.int (numT f (regT ks k) (tk k):Nat)) (st.set b (.dic (kvsT f (regT ks k)))):=by
 unfold methI
 rw[h1,R.bind_ok]
 simp only[h.ins]
 rw[if_pos ⟨trivial,zjv _ _⟩,h2,R.bind_ok]
 rw[zkf h hl k]
 simp only[h.ins]
 rfl
theorem gcT {st:Stor}{a b f:Nat}{ks ks':List TK}(h:NumT st a b f ks)(v:Int):gcM st (.ok (.int v) (st.set b (.dic (kvsT f ks'))))=.ok (.int v) (st.set b (.dic (kvsT f ks'))):=by
 have:=zg5 (st:=st) (st':=st.set b (.dic (kvsT f ks'))) (g:=[]) (d:=.int v) (by simp) (zkx h.wf (zf9 _ _ _)) (by simp)
 simpa using this
theorem zdl {st:Stor}{a b f:Nat}{ks:List TK}(h:NumT st a b f ks)(hl:ks.length<100000)(w:List Nat)(t:Nat) :
  zaj [.loc a,.str w,.int (t:Nat)] st=.ok (.int (numT f (regT ks (gr w t)) (tk (gr w t)):Nat)) (st.set b (.dic (kvsT f (regT ks (gr w t))))):=by
 unfold zaj gcFM fnM za3
 rw[show startM 3 [D.loc a,.str w,.int (t:Nat)]=[some (.loc a),some (.str w),some (.int (t:Nat))] from rfl]
 have mt:=zlj h hl (gr w t) (vr 0) (consA (tupE (consA (ct (.str [103,114,111,119])) (consA (vr 1) (consA (vr 2) nilA)))) nilA) [some (.loc a),some (.str w),some (.int (t:Nat))] rfl (by simp[keyTD])
 have hu:=gcT h (ks':=regT ks (gr w t)) ((numT f (regT ks (gr w t)) (tk (gr w t)):Nat):Int)
 generalize methI _ _ _ _ _=MI at *
 generalize st.set b (.dic (kvsT f (regT ks (gr w t))))=Z at *
 generalize ((numT f (regT ks (gr w t)) (tk (gr w t)):Nat):Int)=N at *
 generalize ((t:Nat):Int)=T at *
 simp[mt]
 exact hu
theorem zer {st:Stor}{a b f:Nat}{ks:List TK}(h:NumT st a b f ks)(hl:ks.length<100000)(t:Nat) :
  za4 [.loc a,.int (t:Nat)] st=.ok (.int (numT f (regT ks (bk t)) (tk (bk t)):Nat)) (st.set b (.dic (kvsT f (regT ks (bk t))))):=by
 unfold za4 gcFM fnM zbq
 rw[show startM 2 [D.loc a,.int (t:Nat)]=[some (.loc a),some (.int (t:Nat))] from rfl]
 have mt:=zlj h hl (bk t) (vr 0) (consA (tupE (consA (ct (.str [98,97,99,107])) (consA (vr 1) nilA))) nilA) [some (.loc a),some (.int (t:Nat))] rfl (by simp[keyTD])
 have hu:=gcT h (ks':=regT ks (bk t)) ((numT f (regT ks (bk t)) (tk (bk t)):Nat):Int)
 generalize methI _ _ _ _ _=MI at *
 generalize st.set b (.dic (kvsT f (regT ks (bk t))))=Z at *
 generalize ((numT f (regT ks (bk t)) (tk (bk t)):Nat):Int)=N at *
 generalize ((t:Nat):Int)=T at *
 simp[mt]
 exact hu
end Law
set_option maxHeartbeats 0
namespace M
open L2 TK TS
noncomputable def addP {α:Type}[DecidableEq α](ps:List α)(p:α):List α:=if p∈ps then ps else ps++[p]
theorem zic {α:Type}[DecidableEq α](ps:List α)(p:α):p∈addP ps p:=by unfold addP;split;assumption;simp
theorem zgp {α:Type}[DecidableEq α]{ps:List α}{q:α}(p:α)(h:q∈ps):q∈addP ps p:=by unfold addP;split;exact h;simp[h]
theorem zhx {α:Type}[DecidableEq α]{ps:List α}{p q:α}(h:q∈addP ps p):q∈ps\/q=p:=by
 unfold addP at h
 split at h
 ·exact .inl h
 ·rcases List.mem_append.mp h with h | h
  ·exact .inl h
  ·exact .inr (List.mem_singleton.mp h)
theorem zee {α:Type}[DecidableEq α](ps:List α)(p:α):(addP ps p).length<=ps.length+1:=by unfold addP;split<;>simp
theorem zc3 {α:Type}[DecidableEq α]{ps:List α}(h:ps.Nodup)(p:α):(addP ps p).Nodup:=by
 unfold addP
 split
 ·exact h
 ·rename_i hn
  rw[List.nodup_append]
  exact⟨h,by simp,fun a ha b hb e=>by
   have hb:b=p:=by simpa using hb
   rw[hb]at e;exact hn (e ▸ ha)⟩
noncomputable def keyP (p:List Nat×Nat):List Key:=[.inr (strOf p.1),.inl (p.2:Nat)]
theorem keyP_inj {p q:List Nat×Nat}(h:keyP p=keyP q):p=q:=by
 obtain⟨a,b⟩:=p
 obtain⟨c,d⟩:=q
 simp only[keyP,List.cons.injEq,Sum.inr.injEq,Sum.inl.injEq,and_true,zg0]at h
 obtain⟨rfl,h2⟩:=h
 have:b=d:=Int.ofNat.inj h2
 rw[this]
noncomputable def kvsP (ps:List (List Nat×Nat)):List (List Key×D):=ps.map fun p=>(keyP p,.bl true)
theorem kvsP_len (ps:List (List Nat×Nat)):(kvsP ps).length=ps.length:=by simp[kvsP]
theorem kvsP_put (ps:List (List Nat×Nat))(p:List Nat×Nat):putM (kvsP ps) (keyP p) (.bl true)=kvsP (addP ps p):=by
 unfold putM addP
 by_cases h:p∈ps
 ·rw[if_pos h,if_pos (by simp only[kvsP,List.any_map,List.any_eq_true];exact⟨p,h,by simp⟩)]
  unfold kvsP
  rw[List.map_map]
  refine List.map_congr_left fun q _=>?_
  simp only[Function.comp]
  split<;>rfl
 ·rw[if_neg h,if_neg]
  ·simp[kvsP]
  ·simp only[kvsP,List.any_map,List.any_eq_true,Function.comp,decide_eq_true_eq,not_exists,not_and]
   intro q hq e
   exact h (keyP_inj e ▸ hq)
theorem keys_P (p:List Nat×Nat):keysOf [.str p.1,.int (p.2:Nat)]=some (keyP p):=rfl
theorem setDV_P {st:Stor}{n:Nat}{ps:List (List Nat×Nat)}(h:st[n]? = some (.dic (kvsP ps)))(hl:ps.length<1000000)(w:List Nat)(g:Nat):setDV (.loc n) (.tup [.str w,.int (g:Nat)]) (.bl true) st=.ok () (st.set n (.dic (kvsP (addP ps (w,g))))):=by
 have k:=keys_P (w,g)
 simp only at k
 simp only[setDV,h,k]
 rw[if_pos (by rw[kvsP_len];exact hl),kvsP_put]
theorem zd6 (ps:List (List Nat×Nat)):(kvsP ps).map (fun p=>D.tup (p.1.map keyD))=ps.map fun p=>.tup [.str p.1,.int (p.2:Nat)]:=by
 unfold kvsP
 rw[List.map_map]
 refine List.map_congr_left fun p _=>?_
 simp[Function.comp,keyP,keyD]
theorem zcy (n:Nat)(ps:List (List Nat×Nat)):∀p∈kvsP ps,under n p.2:=by
 intro p hp
 obtain⟨q,_,rfl⟩:=List.mem_map.mp hp
 simp
noncomputable def kvsG (ts:List Nat):List (Key×D):=ts.map fun t=>(.inl (t:Nat),.bl true)
theorem kvsG_put (ts:List Nat)(t:Nat):putN (kvsG ts) (.inl (t:Nat)) (.bl true)=kvsG (addP ts t):=by
 unfold putN addP
 by_cases h:t∈ts
 ·rw[if_pos h,if_pos (by simp only[kvsG,List.any_map,List.any_eq_true];exact⟨t,h,by simp⟩)]
  unfold kvsG
  rw[List.map_map]
  refine List.map_congr_left fun q _=>?_
  simp only[Function.comp]
  split<;>rfl
 ·rw[if_neg h,if_neg]
  ·simp[kvsG]
  ·simp only[kvsG,List.any_map,List.any_eq_true,Function.comp,decide_eq_true_eq,not_exists,not_and]
   intro q hq e
   have e2:((q:Nat):Int)=(t:Nat):=Sum.inl.inj e
   have e3:q=t:=by omega
   exact h (e3 ▸ hq)
theorem setK_G {st:Stor}{n:Nat}{ts:List Nat}(h:st[n]? = some (.dkc (kvsG ts)))(hl:ts.length<1000000)(t:Nat):setK (.loc n) (.int (t:Nat)) (.bl true) st=.ok () (st.set n (.dkc (kvsG (addP ts t)))):=by
 simp only[setK,h,keyOf_int]
 rw[if_pos (by simpa[kvsG] using hl),kvsG_put]
theorem zkq (ts:List Nat):(kvsG ts).map (fun p=>keyD p.1)=ts.map fun t=>D.int (t:Nat):=by
 unfold kvsG
 rw[List.map_map]
 rfl
theorem zhb (n:Nat)(ts:List Nat):∀p∈kvsG ts,under n p.2:=by
 intro p hp
 obtain⟨q,_,rfl⟩:=List.mem_map.mp hp
 simp
end M
namespace Law
open L2 M TK TS
theorem zhk (v:Int)(signs:List Nat)(mv:List Nat)(st:Stor)(hs:∀c∈signs,c<128)(hl:signs.length<=1000) :
  zap [.int v,.str signs,.str mv] st=.ok (.loc st.length) (st++[.lst (signs.map fun c=>.tup [.int v,.str [c],.str [c],.str mv,.int v])]):=by
 unfold zap gcF fnM za2
 rw[show startM 3 [D.int v,.str signs,.str mv]=[some (.int v),some (.str signs),some (.str mv)] from rfl]
 have cm:=zgl (capt:=[some 0,some 2,none]) (mi:=strI (vr 1)) (g:=nameG 2) (e:=tupE (consA (vr 0) (consA (vr 2) (consA (vr 2) (consA (vr 1) (consA (vr 0) nilA)))))) (env:=[some (.int v),some (.str signs),some (.str mv)]) (st:=st) (st1:=st) (items:=signs.map fun c=>D.str [c]) (gs:=[])
  (fun d=>.tup [.int v,d,d,.str mv,.int v]) (fun env=>∃x,env=[some (.int v),some (.str mv),x]) (by
   have:signs.all (fun c=>decide (c<128))=true:=by simpa using hs
   simp
   exact hs) ⟨none,rfl⟩ (by simp;omega) (fun _=>by simp) (by
   rintro d hd env' ys ⟨x,rfl⟩
   refine⟨[some (.int v),some (.str mv),some d],⟨_,rfl⟩,by simp,?_⟩
   simp)
 rw[List.map_map]at cm
 have g:=ziw (st:=st) (o:=.lst (signs.map fun c=>.tup [.int v,.str [c],.str [c],.str mv,.int v])) (by
  rw[show underO st.length (MO.lst _)=unders st.length _ from rfl,zcs]
  intro d hd
  obtain⟨c,_,rfl⟩:=List.mem_map.mp hd
  simp)
 have e:((fun d=>D.tup [.int v,d,d,.str mv,.int v])∘fun c=>D.str [c])=fun c:Nat=>D.tup [.int v,.str [c],.str [c],.str mv,.int v]:=rfl
 rw[e]at cm
 generalize hC:compE _ _ _ _ _=C at *
 generalize (signs.map fun c=>D.tup [.int v,.str [c],.str [c],.str mv,.int v])=Z at *
 simp[cm]
 exact g
noncomputable def growK (ks:List TK)(w:List Nat)(t:Nat):List TK:=match w with
 | []=>regT (regT ks (gr [] t)) (bk t)
 | c::v=>regT (regT ks (gr (c::v) t)) (gr v t)
theorem zke {st:Stor}{a b f:Nat}{ks:List TK}(h:NumT st a b f ks)(hl:ks.length+2<100000)(w:List Nat)(t:Nat)(hw:w.length<=1000) :
  ∃ks' l,ks'=ks++l/\ks'=growK ks w t/\ks'.length<=ks.length+2/\inRT ks' (groR w t)/\za9 [.loc a,.str w,.int (t:Nat)] st=.ok (encT f ks' (groR w t)) (st.set b (.dic (kvsT f ks'))):=by
 have s1:=zdl h (by omega) w t
 obtain⟨l1,e1⟩:=zen ks (gr w t)
 have n1:=zeh ks (gr w t)
 have m1:=zdu ks (gr w t)
 have h1:=h.set (ks':=regT ks (gr w t))
 generalize hk1:regT ks (gr w t)=ks1 at *
 unfold za9 gcFM fnM zbl
 rw[show startM 4 [D.loc a,.str w,.int (t:Nat)]=[some (.loc a),some (.str w),some (.int (t:Nat)),none] from rfl]
 cases w with
 | nil =>
  have s2:=zer h1 (by omega) t
  obtain⟨l2,e2⟩:=zen ks1 (bk t)
  have n2:=zeh ks1 (bk t)
  have m2:=zdu ks1 (bk t)
  generalize hk2:regT ks1 (bk t)=ks2 at *
  refine⟨ks2,l1++l2,by rw[e2,e1,List.append_assoc],by unfold growK;rw[<-hk2,<-hk1],by omega,⟨?_,m2⟩,?_⟩
  ·show gr [] t∈ks2
   rw[e2];exact List.mem_append_left _ m1
  ·have hv:numT f ks1 (tk (gr [] t))=numT f ks2 (tk (gr [] t)):=by rw[e2];exact (ze9 l2 (s:=tk (gr [] t)) m1).symm
   rw[hv]at s1
   rw[set_set]at s2
   have g:=zg5 (st:=st) (st':=st.set b (.dic (kvsT f ks2))) (g:=[]) (d:=encT f ks2 (groR [] t)) (by simp) (zkx h.wf (zf9 _ _ _)) (zfa _ _ _ _)
   simp only[List.append_nil]at g
   have eD:encT f ks2 (groR [] t)=.tup [.int (numT f ks2 (tk (gr [] t)):Nat),.str [95],.str [95],.str [108],.int (numT f ks2 (tk (bk t)):Nat)]:=rfl
   rw[eD]at g ⊢
   generalize st.set b (.dic (kvsT f ks2))=Z2 at *
   generalize st.set b (.dic (kvsT f ks1))=Z1 at *
   generalize ((numT f ks2 (tk (gr [] t)):Nat):Int)=V1 at *
   generalize ((numT f ks2 (tk (bk t)):Nat):Int)=V2 at *
   generalize ((t:Nat):Int)=T at *
   simp[s1,s2]
   exact g
 | cons c r =>
  have s2:=zdl h1 (by omega) r t
  obtain⟨l2,e2⟩:=zen ks1 (gr r t)
  have n2:=zeh ks1 (gr r t)
  have m2:=zdu ks1 (gr r t)
  generalize hk2:regT ks1 (gr r t)=ks2 at *
  refine⟨ks2,l1++l2,by rw[e2,e1,List.append_assoc],by unfold growK;rw[<-hk2,<-hk1],by omega,⟨?_,m2⟩,?_⟩
  ·show gr (c::r) t∈ks2
   rw[e2];exact List.mem_append_left _ m1
  ·have hv:numT f ks1 (tk (gr (c::r) t))=numT f ks2 (tk (gr (c::r) t)):=by rw[e2];exact (ze9 l2 (s:=tk (gr (c::r) t)) m1).symm
   rw[hv]at s1
   rw[set_set]at s2
   have g:=zg5 (st:=st) (st':=st.set b (.dic (kvsT f ks2))) (g:=[]) (d:=encT f ks2 (groR (c::r) t)) (by simp) (zkx h.wf (zf9 _ _ _)) (zfa _ _ _ _)
   simp only[List.append_nil]at g
   have eD:encT f ks2 (groR (c::r) t)=.tup [.int (numT f ks2 (tk (gr (c::r) t)):Nat),.str [95],.str [c],.str [114],.int (numT f ks2 (tk (gr r t)):Nat)]:=rfl
   rw[eD]at g ⊢
   generalize st.set b (.dic (kvsT f ks2))=Z2 at *
   generalize st.set b (.dic (kvsT f ks1))=Z1 at *
   generalize ((numT f ks2 (tk (gr (c::r) t)):Nat):Int)=V1 at *
   generalize ((numT f ks2 (tk (gr r t)):Nat):Int)=V2 at *
   generalize ((t:Nat):Int)=T at *
   have x1:=ix_hd c r Z1 (by omega)
   have x2:=sl_tl (c::r) Z1 (by omega)
   rw[List.tail_cons]at x2
   simp[s1,x1,x2,s2]
   exact g
end Law
set_option maxHeartbeats 0
namespace Law
open L2 M TK TS
theorem zfd (w:List Nat)(k:Nat)(h:k<=w.length):cut w (some (k:Nat)) none=w.drop k:=by
 unfold cut
 rw[HT.zix,HT.zfs,Nat.min_eq_left h]
 rw[List.take_of_length_le (by simp)]
structure Lft (ps qs:List (List Nat×Nat))(n:Nat):Prop where
 all:∀p∈ps,∀k,k<=p.1.length->(p.1.drop k,p.2)∈qs
 of_:∀q∈qs,∃p∈ps,∃k,k<=p.1.length/\q=(p.1.drop k,p.2)
 len:qs.length<=n
 nd:qs.Nodup
noncomputable def lfn (qs:List (List Nat×Nat))(w:List Nat)(t:Nat):Nat->List (List Nat×Nat)
 | 0=>qs
 | j+1=>addP (lfn qs w t j) (w.drop j,t)
noncomputable def lfK (ps:List (List Nat×Nat)):List (List Nat×Nat):=ps.foldl (fun qs p=>lfn qs p.1 p.2 (p.1.length+1)) []
theorem lfK_snoc (ps:List (List Nat×Nat))(p:List Nat×Nat):lfK (ps++[p])=lfn (lfK ps) p.1 p.2 (p.1.length+1):=by unfold lfK;rw[List.foldl_append];rfl
theorem zhi (ps:List (List Nat×Nat))(n B:Nat)(st:Stor)(hg:st[n]? = some (.dtf (kvsP ps)))(hB:∀p∈ps,p.1.length<=B)(hl:ps.length<=1000)(hb:B<=100) :
  ∃qs,qs=lfK ps/\Lft ps qs (ps.length*(B+1))/\zci [.loc n] st=.ok (.loc st.length) (st++[.dic (kvsP qs)]):=by
 have hmax:ps.length*(B+1)<=1000*101:=Nat.mul_le_mul hl (by omega)
 unfold zci gcF fnM zb4
 generalize hBi:(asgS (ct (.bl true)) (subG setDV (vr 1) _):MS)=BI
 generalize hBo:(forS (range1I _) (nameG 3) BI:MS)=BO
 obtain⟨env',st',e1,qs,a2,a3,hQ,hq,rfl,rfl⟩:=zb9 (g:=nameG 2) (b:=BO) (gs:=[]) (items:=ps.map fun p=>D.tup [.str p.1,.int (p.2:Nat)])
  (fun i env s=>∃(qs:List (List Nat×Nat)) (a2 a3:Option D),qs=lfK (ps.take i)/\Lft (ps.take i) qs (i*(B+1))/\env=[some (.loc n),some (.loc st.length),a2,a3]/\s=st++[.dic (kvsP qs)])
  (env:=[some (.loc n),some (.loc st.length),none,none]) (st:=st++[.dic []]) ⟨[],none,none,rfl,⟨by simp,by simp,by simp,by simp⟩,rfl,rfl⟩ (by
   rintro i d env s hi ⟨qs,a2,a3,hQ,hq,rfl,rfl⟩
   rw[List.getElem?_map]at hi
   obtain⟨⟨w,t⟩,hp,rfl⟩:=Option.map_eq_some_iff.mp hi
   have hpm:=List.mem_of_getElem? hp
   have hil:=(List.getElem?_eq_some_iff.mp hp).1
   have hw:=hB _ hpm
   simp only at hw
   have him:i*(B+1)+(B+1)<=ps.length*(B+1):=by
    have:=Nat.mul_le_mul_right (B+1) (show i+1<=ps.length by omega)
    rw[Nat.add_mul,Nat.one_mul]at this;exact this

   obtain⟨env2,st2,e2,qs2,a3',hQ2,ha,hb2,hc,hd,rfl,rfl⟩:=zb9 (g:=nameG 3) (b:=BI) (gs:=[]) (items:=upto 0 (w.length+1))
    (fun j env s=>∃(qs2:List (List Nat×Nat)) (a3:Option D),qs2=lfn qs w t j/\(∀q∈qs,q∈qs2)/\(∀k,k<j->(w.drop k,t)∈qs2)/\(∀q∈qs2,q∈qs\/∃k,k<=w.length/\q=(w.drop k,t))/\(qs2.length<=qs.length+j/\qs2.Nodup)/\env=[some (.loc n),some (.loc st.length),some (.tup [.str w,.int (t:Nat)]),a3]/\s=st++[.dic (kvsP qs2)])
    (env:=[some (.loc n),some (.loc st.length),some (.tup [.str w,.int (t:Nat)]),a3]) (st:=st++[.dic (kvsP qs)]) ⟨qs,a3,rfl,fun _ h=>h,fun k h=>absurd h (by omega),fun q h=>.inl h,⟨by omega,hq.nd⟩,rfl,rfl⟩ (by
     rintro j d env s hj ⟨qs2,a3,hQ2,ha,hb2,hc,⟨hd,hnd⟩,rfl,rfl⟩
     obtain⟨hj',rfl⟩:=zfu hj
     have ej:(0:Int)+((j:Nat):Int)=((j:Nat):Int):=by omega
     rw[ej]
     have ql:=hq.len
     have sd:=setDV_P (st:=st++[.dic (kvsP qs2)]) (n:=st.length) (ps:=qs2) (by simp) (by omega) (w.drop j) t
     have e5:(st++[MO.dic (kvsP qs2)]).set st.length (.dic (kvsP (addP qs2 (w.drop j,t))))=st++[.dic (kvsP (addP qs2 (w.drop j,t)))]:=by simp
     rw[e5]at sd
     have al:=zee qs2 (w.drop j,t)
     refine⟨by simp,[some (.loc n),some (.loc st.length),some (.tup [.str w,.int (t:Nat)]),some (.int (j:Nat))],st++[.dic (kvsP qs2)],by simp,[some (.loc n),some (.loc st.length),some (.tup [.str w,.int (t:Nat)]),some (.int (j:Nat))],st++[.dic (kvsP (addP qs2 (w.drop j,t)))],.inl ?_,addP qs2 (w.drop j,t),_,by rw[hQ2];rfl,fun q h=>zgp _ (ha q h),?_,?_,⟨by omega,zc3 hnd _⟩,rfl,rfl⟩
     ·rw[<-hBi]
      have x1:slV (.str w) (some ((j:Nat):Int)) none (st++[.dic (kvsP qs2)])=.ok (.str (w.drop j)) (st++[.dic (kvsP qs2)]):=by rw[zdw _ _ _ _ (by omega),zfd w j (by omega)]
      have x2:∀s,ixV (.tup [.str w,.int (t:Nat)]) (.int 0) s=.ok (.str w) s:=fun s=>zb7 _ _ _ _ rfl
      have x3:∀s,ixV (.tup [.str w,.int (t:Nat)]) (.int 1) s=.ok (.int (t:Nat)) s:=fun s=>zb7 _ _ _ _ rfl
      generalize st++[MO.dic (kvsP (addP qs2 (w.drop j,t)))]=Z2 at *
      generalize st++[MO.dic (kvsP qs2)]=Z1 at *
      generalize w.drop j=W at *
      generalize ((t:Nat):Int)=T at *
      generalize ((j:Nat):Int)=J at *
      generalize D.tup [.str w,.int T]=TT at *
      simp[x1,x2,x3,sd]
     ·intro k hk
      by_cases hkj:k<j
      ·exact zgp _ (hb2 k hkj)
      ·have:k=j:=by omega
       subst this;exact zic _ _
     ·intro q hqq
      rcases zhx hqq with h | h
      ·exact hc q h
      ·exact .inr ⟨j,by omega,h⟩) (fun _ _ _=>by simp)
   rw[zel]at hb2 hd hQ2
   have tk:ps.take (i+1)=ps.take i++[(w,t)]:=by rw[List.take_succ,hp];rfl
   have ql:=hq.len
   refine⟨by simp,[some (.loc n),some (.loc st.length),some (.tup [.str w,.int (t:Nat)]),a3],st++[.dic (kvsP qs)],by simp,[some (.loc n),some (.loc st.length),some (.tup [.str w,.int (t:Nat)]),a3'],st++[.dic (kvsP qs2)],.inl ?_,qs2,_,_,by rw[tk,lfK_snoc,<-hQ];exact hQ2,⟨?_,?_,by rw[Nat.add_mul];omega,hd.2⟩,rfl,rfl⟩
   ·rw[<-hBo]
    have x2:∀s,ixV (.tup [.str w,.int (t:Nat)]) (.int 0) s=.ok (.str w) s:=fun s=>zb7 _ _ _ _ rfl
    have ln:∀s,lenW [.str w] s=.ok (.int (w.length:Nat)) s:=fun s=>by simp[lenW,lenV];omega
    have en:((w.length:Nat):Int)+1=((w.length+1:Nat):Int):=by omega
    have hr1:((w.length+1:Nat):Int)<4611686018427387904:=by omega
    have hr2:-4611686018427387904<=((w.length+1:Nat):Int):=by omega
    generalize st++[MO.dic (kvsP qs2)]=Z2 at *
    generalize st++[MO.dic (kvsP qs)]=Z1 at *
    generalize D.tup [.str w,.int ((t:Nat):Int)]=TT at *
    have et:(((w.length+1:Nat):Int)).toNat=w.length+1:=by omega
    generalize hN:((w.length+1:Nat):Int)=N at *
    simp[x2,ln,en,hr1,hr2,et,e2]
   ·intro p hp2 k hk
    rw[tk]at hp2
    rcases List.mem_append.mp hp2 with h | h
    ·exact ha _ (hq.all p h k hk)
    ·have:p=(w,t):=List.mem_singleton.mp h
     subst this
     exact hb2 k (Nat.lt_succ_of_le hk)
   ·intro q hqq
    rcases hc q hqq with h | ⟨k,hk,h⟩
    ·obtain⟨p,h1,h2⟩:=hq.of_ q h
     exact⟨p,by rw[tk];exact List.mem_append_left _ h1,h2⟩
    ·exact⟨(w,t),by rw[tk];simp,k,hk,h⟩) (fun _ _ _=>by simp)
 rw[List.length_map]at hq hQ
 rw[List.take_length]at hq hQ
 refine⟨qs,hQ,hq,?_⟩
 have hdi:=r_dtI_f (m:=vr 0) (env:=[some (.loc n),some (.loc st.length),none,none]) (st:=st++[.dic []]) (st1:=st++[.dic []]) rfl (zb1 hg)
 rw[zd6]at hdi
 have g:=ziw (st:=st) (o:=.dic (kvsP qs)) (zcy _ _)
 rw[show startM 4 [D.loc n]=[some (.loc n),none,none,none] from rfl]
 generalize hD:dtI (vr 0)=DT at *
 generalize (ps.map fun p=>D.tup [.str p.1,.int (p.2:Nat)])=IT at *
 generalize hZ:st++[MO.dic (kvsP qs)]=Z at *
 simp[dicE,hdi,e1]
 exact g
noncomputable def tgK (ps:List (List Nat×Nat)):List Nat:=ps.foldl (fun ts p=>addP ts p.2) []
theorem tgK_snoc (ps:List (List Nat×Nat))(p:List Nat×Nat):tgK (ps++[p])=addP (tgK ps) p.2:=by unfold tgK;rw[List.foldl_append];rfl
theorem zhd (ps:List (List Nat×Nat))(n:Nat)(st:Stor)(hg:st[n]? = some (.dtf (kvsP ps)))(hl:ps.length<=1000) :
  ∃ts:List Nat,ts=tgK ps/\(∀p∈ps,p.2∈ts)/\(∀t∈ts,∃p∈ps,p.2=t)/\ts.length<=ps.length/\ts.Nodup/\zbc [.loc n] st=.ok (.loc st.length) (st++[.dkc (kvsG ts)]):=by
 unfold zbc gcF fnM zb3
 generalize hBi:(asgS (ct (.bl true)) (subG setK (vr 1) _):MS)=BI
 obtain⟨env',st',e1,ts,a2,hT,h1,h2,h3,h4,rfl,rfl⟩:=zb9 (g:=nameG 2) (b:=BI) (gs:=[]) (items:=ps.map fun p=>D.tup [.str p.1,.int (p.2:Nat)])
  (fun i env s=>∃(ts:List Nat) (a2:Option D),ts=tgK (ps.take i)/\(∀p∈ps.take i,p.2∈ts)/\(∀t∈ts,∃p∈ps,p.2=t)/\ts.length<=i/\ts.Nodup/\env=[some (.loc n),some (.loc st.length),a2]/\s=st++[.dkc (kvsG ts)])
  (env:=[some (.loc n),some (.loc st.length),none]) (st:=st++[.dkc []]) ⟨[],none,rfl,by simp,by simp,by simp,by simp,rfl,rfl⟩ (by
   rintro i d env s hi ⟨ts,a2,hT,h1,h2,h3,h4,rfl,rfl⟩
   rw[List.getElem?_map]at hi
   obtain⟨⟨w,t⟩,hp,rfl⟩:=Option.map_eq_some_iff.mp hi
   have hpm:=List.mem_of_getElem? hp
   have hil:=(List.getElem?_eq_some_iff.mp hp).1
   have tk:ps.take (i+1)=ps.take i++[(w,t)]:=by rw[List.take_succ,hp];rfl
   have sd:=setK_G (st:=st++[.dkc (kvsG ts)]) (n:=st.length) (ts:=ts) (by simp) (by omega) t
   have e5:(st++[MO.dkc (kvsG ts)]).set st.length (.dkc (kvsG (addP ts t)))=st++[.dkc (kvsG (addP ts t))]:=by simp
   rw[e5]at sd
   have al:=zee ts t
   refine⟨by simp,[some (.loc n),some (.loc st.length),some (.tup [.str w,.int (t:Nat)])],st++[.dkc (kvsG ts)],by simp,[some (.loc n),some (.loc st.length),some (.tup [.str w,.int (t:Nat)])],st++[.dkc (kvsG (addP ts t))],.inl ?_,addP ts t,_,by rw[tk,tgK_snoc,<-hT],?_,?_,by omega,zc3 h4 _,rfl,rfl⟩
   ·rw[<-hBi]
    have x3:∀s,ixV (.tup [.str w,.int (t:Nat)]) (.int 1) s=.ok (.int (t:Nat)) s:=fun s=>zb7 _ _ _ _ rfl
    generalize st++[MO.dkc (kvsG (addP ts t))]=Z2 at *
    generalize st++[MO.dkc (kvsG ts)]=Z1 at *
    generalize ((t:Nat):Int)=T at *
    generalize D.tup [.str w,.int T]=TT at *
    simp[x3,sd]
   ·intro p hp2
    rw[tk]at hp2
    rcases List.mem_append.mp hp2 with h | h
    ·exact zgp _ (h1 p h)
    ·have:p=(w,t):=List.mem_singleton.mp h
     subst this
     exact zic _ _
   ·intro q hq
    rcases zhx hq with h | h
    ·exact h2 q h
    ·exact⟨(w,t),hpm,h.symm⟩) (fun _ _ _=>by simp)
 rw[List.length_map]at h1 h3 hT
 rw[List.take_length]at h1 hT
 refine⟨ts,hT,h1,h2,h3,h4,?_⟩
 have hdi:=r_dtI_f (m:=vr 0) (env:=[some (.loc n),some (.loc st.length),none]) (st:=st++[.dkc []]) (st1:=st++[.dkc []]) rfl (zb1 hg)
 rw[zd6]at hdi
 have g:=ziw (st:=st) (o:=.dkc (kvsG ts)) (zhb _ _)
 rw[show startM 3 [D.loc n]=[some (.loc n),none,none] from rfl]
 generalize hD:dtI (vr 0)=DT at *
 generalize (ps.map fun p=>D.tup [.str p.1,.int (p.2:Nat)])=IT at *
 generalize hZ:st++[MO.dkc (kvsG ts)]=Z at *
 simp[dkE,hdi,e1]
 exact g
end Law
set_option maxHeartbeats 0
namespace Law
open L2 M TK TS
@[irreducible] noncomputable def WT (st:Stor) (f:Nat) (ks:List TK) (rl:List D) (dw:MO) (g:Stor):Stor:=st++[insN st.length f,.dic (kvsT f ks),.lst rl,dw]++g
section
variable {st:Stor}{f:Nat}{ks:List TK}{rl:List D}{dw:MO}{g:Stor}
theorem WT.len:(WT st f ks rl dw g).length=st.length+4+g.length:=by simp[WT];omega
theorem WT.num (h:M.wf st)(hu:∀n,unders n rl)(hd:∀n,underO n dw)(hg:∀o∈g,∀n,underO n o):NumT (WT st f ks rl dw g) st.length (st.length+1) f ks:=by
 refine⟨by unfold WT;rw[List.append_assoc,List.getElem?_append_right (Nat.le_refl _)];simp[insN],by unfold WT;rw[List.append_assoc,List.getElem?_append_right (by omega)];simp,by omega,?_⟩
 intro o ho
 rw[WT.len]
 unfold WT at ho
 rcases List.mem_append.mp ho with ho | ho
 ·rcases List.mem_append.mp ho with ho | ho
  ·exact underO_le (by omega) o (h o ho)
  ·simp only[List.mem_cons,List.not_mem_nil,or_false]at ho
   rcases ho with rfl | rfl | rfl | rfl
   ·intro p hp
    simp only[List.mem_cons,List.not_mem_nil,or_false]at hp
    rcases hp with rfl | rfl
    ·simp
    ·simp;omega
   ·exact zf9 _ _ _
   ·exact hu _
   ·exact hd _
 ·exact hg o ho _
theorem WT.set {ks':List TK}:(WT st f ks rl dw g).set (st.length+1) (.dic (kvsT f ks'))=WT st f ks' rl dw g:=by
 unfold WT
 rw[List.append_assoc st,List.set_append_right _ _ (by omega)]
 simp
theorem WT.old {n:Nat}{o:MO}(h:st[n]? = some o):(WT st f ks rl dw g)[n]? = some o:=by
 unfold WT;exact zb1 (zb1 h)
theorem WT.at2:(WT st f ks rl dw g)[st.length+2]? = some (.lst rl):=by
 unfold WT;rw[List.append_assoc,List.getElem?_append_right (by omega)];simp
theorem WT.at3:(WT st f ks rl dw g)[st.length+3]? = some dw:=by
 unfold WT;rw[List.append_assoc,List.getElem?_append_right (by omega)];simp
theorem WT.at4 {o:MO}:(WT st f ks rl dw (g++[o]))[st.length+4+g.length]? = some o:=by
 unfold WT;rw[List.getElem?_append_right (by simp)];simp
theorem WT.set2 {rl':List D}:(WT st f ks rl dw g).set (st.length+2) (.lst rl')=WT st f ks rl' dw g:=by
 unfold WT
 rw[List.append_assoc st,List.set_append_right _ _ (by omega)]
 simp
theorem WT.set3 {o:MO}:(WT st f ks rl dw g).set (st.length+3) o=WT st f ks rl o g:=by
 unfold WT
 rw[List.append_assoc st,List.set_append_right _ _ (by omega)]
 simp
theorem WT.set4 {o o':MO}:(WT st f ks rl dw (g++[o])).set (st.length+4+g.length) o'=WT st f ks rl dw (g++[o']):=by
 unfold WT;rw[List.set_append_right _ _ (by simp)];simp
theorem WT.ty:isTy "list" (.loc (st.length+2)) (WT st f ks rl dw g)=true:=by simp[isTy,WT.at2]
theorem WT.app (hl:rl.length<1000000)(d:D):appendV (.loc (st.length+2)) [d] (WT st f ks rl dw g)=.ok .non (WT st f ks (rl++[d]) dw g):=by
 unfold appendV
 simp only[WT.at2]
 rw[if_pos hl,WT.set2]
theorem WT.ext {rs:List D}(hl:rl.length+rs.length<=1000000):extendV (.loc (st.length+2)) [.loc (st.length+4+g.length)] (WT st f ks rl dw (g++[.lst rs]))=.ok .non (WT st f ks (rl++rs) dw (g++[.lst rs])):=by
 unfold extendV
 simp only[WT.at2,WT.at4]
 rw[if_pos hl,WT.set2]
theorem WT.snoc {o:MO}:WT st f ks rl dw g++[o]=WT st f ks rl dw (g++[o]):=by simp[WT]
theorem WT.grow (h:M.wf st)(hu:∀n,unders n rl)(hd:∀n,underO n dw)(hg:∀o∈g,∀n,underO n o)(hl:ks.length<100000)(w:List Nat)(t:Nat) :
  zaj [.loc st.length,.str w,.int (t:Nat)] (WT st f ks rl dw g)=.ok (.int (numT f (regT ks (gr w t)) (tk (gr w t)):Nat)) (WT st f (regT ks (gr w t)) rl dw g):=by
 rw[zdl (WT.num h hu hd hg) hl,WT.set]
theorem WT.back (h:M.wf st)(hu:∀n,unders n rl)(hd:∀n,underO n dw)(hg:∀o∈g,∀n,underO n o)(hl:ks.length<100000)(t:Nat) :
  za4 [.loc st.length,.int (t:Nat)] (WT st f ks rl dw g)=.ok (.int (numT f (regT ks (bk t)) (tk (bk t)):Nat)) (WT st f (regT ks (bk t)) rl dw g):=by
 rw[zer (WT.num h hu hd hg) hl,WT.set]
end
noncomputable def encRl (r:Rl):D:=.tup [.int (r.s:Nat),.str [r.x],.str r.w,.int (r.g:Nat)]
noncomputable def passL (signs:List Nat)(ps:List (List Nat×Nat)):List TQ:=(ps.map fun p=>signs.map (pasR (gr p.1 p.2) true)).flatten
noncomputable def backL (signs:List Nat)(ts:List Nat):List TQ:=(ts.map fun t=>signs.map (pasR (bk t) false)++[bakR t]).flatten
theorem zfw (signs:List Nat)(ps:List (List Nat×Nat))(p:List Nat×Nat):passL signs (ps++[p])=passL signs ps++signs.map (pasR (gr p.1 p.2) true):=by simp[passL]
theorem zfc (signs:List Nat)(ts:List Nat)(t:Nat):backL signs (ts++[t])=backL signs ts++(signs.map (pasR (bk t) false)++[bakR t]):=by simp[backL]
structure AllT (RL:List Rl)(signs:List Nat)(ks:List TK)(ALL:List TQ):Prop where
 good:∀q∈ALL,Gd RL signs q
 inn:∀q∈ALL,inRT ks q
 src:∀r∈RL,srcR r∈ALL
 pas:∀r∈RL,∀c∈signs,pasR (gr r.w r.g) true c∈ALL
 gro:∀r∈RL,∀k,k<=r.w.length->groR (r.w.drop k) r.g∈ALL
 pab:∀r∈RL,∀c∈signs,pasR (bk r.g) false c∈ALL
 bak:∀r∈RL,bakR r.g∈ALL
noncomputable def srcK (RL:List Rl):List TK:=RL.foldl (fun ks r=>regT ks (gr r.w r.g)) []
noncomputable def srcP (RL:List Rl):List (List Nat×Nat):=RL.foldl (fun ps r=>addP ps (r.w,r.g)) []
theorem srcK_snoc (RL:List Rl)(r:Rl):srcK (RL++[r])=regT (srcK RL) (gr r.w r.g):=by unfold srcK;rw[List.foldl_append];rfl
theorem srcP_snoc (RL:List Rl)(r:Rl):srcP (RL++[r])=addP (srcP RL) (r.w,r.g):=by unfold srcP;rw[List.foldl_append];rfl
theorem loop1 (RL:List Rl)(signs:List Nat)(top n f:Nat)(st:Stor)(hwf:M.wf st)(hgt:st[n]? = some (.lst (RL.map encRl)))(hl:RL.length<=1000)(hw:∀r∈RL,r.w.length<=100)(B:MS)
  (hB:(seqS (asgS (ct (.bl true)) (subG setDV (vr 5) (tupE (consA (op2 ixV (vr 6) (ct (.int 2))) (consA (op2 ixV (vr 6) (ct (.int 3))) nilA)))))
  (exprS (methE "list" appendV (vr 4) (consA (tupE (consA (op2 ixV (vr 6) (ct (.int 0))) (consA (op2 ixV (vr 6) (ct (.int 1))) (consA (ct (.str [95])) (consA (ct (.str [114])) (consA (callF zaj [] (consA (vr 3) (consA (op2 ixV (vr 6) (ct (.int 2))) (consA (op2 ixV (vr 6) (ct (.int 3))) nilA)))) nilA)))))) nilA))):MS)=B) :
  ∃ks ps a6,(ks=srcK RL/\ps=srcP RL)/\ks.length<=RL.length/\ps.length<=RL.length/\ps.Nodup/\(∀r∈RL,(r.w,r.g)∈ps)/\(∀p∈ps,∃r∈RL,p=(r.w,r.g))/\(∀q∈RL.map srcR,inRT ks q) /\
   forGo (nameG 6) B [(n,.lst (RL.map encRl))] (RL.map encRl) [some (.loc n),some (.str signs),some (.int (top:Nat)),some (.loc st.length),some (.loc (st.length+2)),some (.loc (st.length+3)),none,none,none,none,none,none] (WT st f [] [] (.dic []) [])
    = .ok (.nx [some (.loc n),some (.str signs),some (.int (top:Nat)),some (.loc st.length),some (.loc (st.length+2)),some (.loc (st.length+3)),a6,none,none,none,none,none]) (WT st f ks ((RL.map srcR).map (encT f ks)) (.dic (kvsP ps)) []):=by
 obtain⟨env1,st1,e1,ks,ps,a6,hK,h1,h2,h3,h4,h5,h6,rfl,rfl⟩:=zb9 (g:=nameG 6) (b:=B) (gs:=[(n,.lst (RL.map encRl))]) (items:=RL.map encRl)
  (fun i env s=>∃(ks:List TK) (ps:List (List Nat×Nat)) (a6:Option D),(ks=srcK (RL.take i)/\ps=srcP (RL.take i))/\ks.length<=i/\ps.length<=i/\ps.Nodup/\(∀r∈RL.take i,(r.w,r.g)∈ps)/\(∀p∈ps,∃r∈RL,p=(r.w,r.g))/\(∀q∈(RL.take i).map srcR,inRT ks q) /\
   env=[some (.loc n),some (.str signs),some (.int (top:Nat)),some (.loc st.length),some (.loc (st.length+2)),some (.loc (st.length+3)),a6,none,none,none,none,none]/\s=WT st f ks (((RL.take i).map srcR).map (encT f ks)) (.dic (kvsP ps)) [])
  (env:=[some (.loc n),some (.str signs),some (.int (top:Nat)),some (.loc st.length),some (.loc (st.length+2)),some (.loc (st.length+3)),none,none,none,none,none,none]) (st:=WT st f [] [] (.dic []) [])
  ⟨[],[],none,⟨rfl,rfl⟩,by simp,by simp,by simp,by simp,by simp,by simp,rfl,rfl⟩ (by
   rintro i d env s hi ⟨ks,ps,a6,hK,h1,h2,h3,h4,h5,h6,rfl,rfl⟩
   rw[List.getElem?_map]at hi
   obtain⟨r,hr,rfl⟩:=Option.map_eq_some_iff.mp hi
   have hmem:=List.mem_of_getElem? hr
   have hil:=(List.getElem?_eq_some_iff.mp hr).1
   have tk1:RL.take (i+1)=RL.take i++[r]:=by rw[List.take_succ,hr];rfl
   generalize hrl:((RL.take i).map srcR).map (encT f ks)=rl
   have hrll:rl.length<=i:=by rw[<-hrl];simp;omega
   have hu:∀n,unders n rl:=fun n=>by rw[<-hrl];exact zbg _ _ _ _
   have sd:=setDV_P (st:=WT st f ks rl (.dic (kvsP ps)) []) (n:=st.length+3) (ps:=ps) WT.at3 (by omega) r.w r.g
   rw[WT.set3]at sd
   have gs:=WT.grow (st:=st) (f:=f) (ks:=ks) (rl:=rl) (dw:=.dic (kvsP (addP ps (r.w,r.g)))) (g:=[]) hwf hu (fun n=>zcy n _) (by simp) (by omega) r.w r.g
   obtain⟨l1,hl1⟩:=zen ks (gr r.w r.g)
   have kl:=zeh ks (gr r.w r.g)
   have km:=zdu ks (gr r.w r.g)
   generalize hks:regT ks (gr r.w r.g)=ks1 at *
   have e0:D.tup [.int (r.s:Nat),.str [r.x],.str [95],.str [114],.int (numT f ks1 (tk (gr r.w r.g)):Nat)]=encT f ks1 (srcR r):=rfl
   have ap:=WT.app (st:=st) (f:=f) (ks:=ks1) (rl:=rl) (dw:=.dic (kvsP (addP ps (r.w,r.g)))) (g:=[]) (by omega) (encT f ks1 (srcR r))
   rw[<-e0]at ap
   have ty:=WT.ty (st:=st) (f:=f) (ks:=ks1) (rl:=rl) (dw:=.dic (kvsP (addP ps (r.w,r.g)))) (g:=[])
   have ty0:=WT.ty (st:=st) (f:=f) (ks:=ks) (rl:=rl) (dw:=.dic (kvsP (addP ps (r.w,r.g)))) (g:=[])
   have fin:rl++[encT f ks1 (srcR r)]=((RL.take (i+1)).map srcR).map (encT f ks1):=by
    rw[tk1,List.map_append,List.map_append,<-hrl,hl1,zec l1 h6];rfl
   have al:=zee ps (r.w,r.g)
   have hgo:okG [(n,MO.lst (RL.map encRl))] (WT st f ks rl (.dic (kvsP ps)) []):=by simp[WT.old hgt]
   refine⟨hgo,[some (.loc n),some (.str signs),some (.int (top:Nat)),some (.loc st.length),some (.loc (st.length+2)),some (.loc (st.length+3)),some (encRl r),none,none,none,none,none],WT st f ks rl (.dic (kvsP ps)) [],by generalize WT st f ks rl (.dic (kvsP ps)) []=Z;simp,[some (.loc n),some (.str signs),some (.int (top:Nat)),some (.loc st.length),some (.loc (st.length+2)),some (.loc (st.length+3)),some (encRl r),none,none,none,none,none],WT st f ks1 (rl++[encT f ks1 (srcR r)]) (.dic (kvsP (addP ps (r.w,r.g)))) [],.inl ?_,ks1,addP ps (r.w,r.g),_,⟨by rw[tk1,srcK_snoc,<-hK.1];exact hks.symm,by rw[tk1,srcP_snoc,<-hK.2]⟩,by omega,by omega,zc3 h3 _,?_,?_,?_,rfl,by rw[fin]⟩
   ·rw[<-hB]
    have x0:∀s,ixV (encRl r) (.int 0) s=.ok (.int (r.s:Nat)) s:=fun s=>zb7 _ _ _ _ rfl
    have x1:∀s,ixV (encRl r) (.int 1) s=.ok (.str [r.x]) s:=fun s=>zb7 _ _ _ _ rfl
    have x2:∀s,ixV (encRl r) (.int 2) s=.ok (.str r.w) s:=fun s=>zb7 _ _ _ _ rfl
    have x3:∀s,ixV (encRl r) (.int 3) s=.ok (.int (r.g:Nat)) s:=fun s=>zb7 _ _ _ _ rfl
    rw[<-e0]
    generalize encRl r=ER at *
    generalize ((numT f ks1 (tk (gr r.w r.g)):Nat):Int)=NV at *
    generalize WT st f ks1 (rl++[D.tup [.int (r.s:Nat),.str [r.x],.str [95],.str [114],.int NV]]) (.dic (kvsP (addP ps (r.w,r.g)))) []=Z3 at *
    generalize WT st f ks1 rl (.dic (kvsP (addP ps (r.w,r.g)))) []=Z2 at *
    generalize WT st f ks rl (.dic (kvsP (addP ps (r.w,r.g)))) []=Z1 at *
    generalize WT st f ks rl (.dic (kvsP ps)) []=Z0 at *
    generalize ((r.g:Nat):Int)=RG at *
    generalize ((r.s:Nat):Int)=RS at *
    simp[x0,x1,x2,x3,sd,gs,ap,ty,ty0]
   ·intro q hq
    rw[tk1]at hq
    rcases List.mem_append.mp hq with h | h
    ·exact zgp _ (h4 q h)
    ·have:q=r:=List.mem_singleton.mp h
     subst this;exact zic _ _
   ·intro q hq
    rcases zhx hq with h | h
    ·exact h5 q h
    ·exact⟨r,hmem,h⟩
   ·intro q hq
    rw[tk1,List.map_append]at hq
    rcases List.mem_append.mp hq with h | h
    ·rw[hl1];exact ze7 _ (h6 q h)
    ·have:q=srcR r:=by simpa using h
     subst this
     exact⟨trivial,km⟩) (fun _ _ zz=>by obtain⟨_,_,_,_,_,_,_,_,_,_,_,e⟩:=zz;rw[e];simp[WT.old hgt])
 rw[List.length_map]at h1 h2 h4 h6 e1 hK
 rw[List.take_length]at h4 h6 e1 hK
 exact⟨ks,ps,a6,hK,h1,h2,h3,h4,h5,h6,e1⟩
end Law
set_option maxHeartbeats 0
namespace Law
open L2 M TK TS
noncomputable def EV (n:Nat)(signs:List Nat)(top m:Nat)(a6 a7 a8 a9 a10 a11:Option D):MEnv:=[some (.loc n),some (.str signs),some (.int (top:Nat)),some (.loc m),some (.loc (m+2)),some (.loc (m+3)),a6,a7,a8,a9,a10,a11]
noncomputable def pasK (ks0:List TK)(ps:List (List Nat×Nat)):List TK:=ps.foldl (fun ks p=>regT ks (gr p.1 p.2)) ks0
theorem pasK_snoc (ks0:List TK)(ps:List (List Nat×Nat))(p:List Nat×Nat):pasK ks0 (ps++[p])=regT (pasK ks0 ps) (gr p.1 p.2):=by unfold pasK;rw[List.foldl_append];rfl
noncomputable def groK (ks0:List TK)(qs:List (List Nat×Nat)):List TK:=qs.foldl (fun ks p=>growK ks p.1 p.2) ks0
theorem groK_snoc (ks0:List TK)(ps:List (List Nat×Nat))(p:List Nat×Nat):groK ks0 (ps++[p])=growK (groK ks0 ps) p.1 p.2:=by unfold groK;rw[List.foldl_append];rfl
noncomputable def bakK (ks0:List TK)(ts:List Nat):List TK:=ts.foldl (fun ks t=>regT ks (bk t)) ks0
theorem bakK_snoc (ks0:List TK)(ts:List Nat)(t:Nat):bakK ks0 (ts++[t])=regT (bakK ks0 ts) (bk t):=by unfold bakK;rw[List.foldl_append];rfl
theorem loop2 (ps:List (List Nat×Nat))(signs:List Nat)(top n f:Nat)(st:Stor)(hwf:M.wf st)(hl:ps.length<=1000)(hs:∀c∈signs,c<128)(hsl:signs.length<=100)(B:MS)(ks0:List TK)(R1:List TQ)(h0:∀q∈R1,inRT ks0 q)(hR:R1.length<=1000)(hk:ks0.length<=1000)(a6:Option D)
  (hB:(seqS (setS 8 (callF zaj [] (consA (vr 3) (consA (op2 ixV (vr 7) (ct (.int 0))) (consA (op2 ixV (vr 7) (ct (.int 1))) nilA)))))
  (exprS (methE "list" extendV (vr 4) (consA (callF zap [] (consA (vr 8) (consA (vr 1) (consA (ct (.str [114])) nilA)))) nilA))):MS)=B) :
  ∃ks g a7 a8,ks=pasK ks0 ps/\ks.length<=ks0.length+ps.length/\(∀q∈R1++passL signs ps,inRT ks q)/\(∀o∈g,∀n,underO n o)/\(passL signs ps).length<=1000*100 /\
   forGo (nameG 7) B [] (ps.map fun p=>D.tup [.str p.1,.int (p.2:Nat)]) (EV n signs top st.length a6 none none none none none) (WT st f ks0 (R1.map (encT f ks0)) (.dtf (kvsP ps)) [])
    = .ok (.nx (EV n signs top st.length a6 a7 a8 none none none)) (WT st f ks ((R1++passL signs ps).map (encT f ks)) (.dtf (kvsP ps)) g):=by
 obtain⟨env1,st1,e1,ks,g,a7,a8,hK,h1,h2,h3,h4,rfl,rfl⟩:=zb9 (g:=nameG 7) (b:=B) (gs:=[]) (items:=ps.map fun p=>D.tup [.str p.1,.int (p.2:Nat)])
  (fun i env s=>∃(ks:List TK) (g:Stor) (a7 a8:Option D),ks=pasK ks0 (ps.take i)/\ks.length<=ks0.length+i/\(∀q∈R1++passL signs (ps.take i),inRT ks q)/\(∀o∈g,∀n,underO n o)/\(passL signs (ps.take i)).length<=i*100 /\
   env=EV n signs top st.length a6 a7 a8 none none none/\s=WT st f ks ((R1++passL signs (ps.take i)).map (encT f ks)) (.dtf (kvsP ps)) g)
  (env:=EV n signs top st.length a6 none none none none none) (st:=WT st f ks0 (R1.map (encT f ks0)) (.dtf (kvsP ps)) [])
  ⟨ks0,[],none,none,rfl,by omega,by simpa[passL] using h0,by simp,by simp[passL],rfl,by simp[passL]⟩ (by
   rintro i d env s hi ⟨ks,g,a7,a8,hK,h1,h2,h3,h4,rfl,rfl⟩
   rw[List.getElem?_map]at hi
   obtain⟨⟨w,t⟩,hr,rfl⟩:=Option.map_eq_some_iff.mp hi
   have hmem:=List.mem_of_getElem? hr
   have hil:=(List.getElem?_eq_some_iff.mp hr).1
   have tk1:ps.take (i+1)=ps.take i++[(w,t)]:=by rw[List.take_succ,hr];rfl
   generalize hrl:(R1++passL signs (ps.take i)).map (encT f ks)=rl
   have hrll:rl.length<=1000+i*100:=by rw[<-hrl];simp;omega
   have hu:∀n,unders n rl:=fun n=>by rw[<-hrl];exact zbg _ _ _ _
   have gs:=WT.grow (st:=st) (f:=f) (ks:=ks) (rl:=rl) (dw:=.dtf (kvsP ps)) (g:=g) hwf hu (fun n=>zcy n _) h3 (by omega) w t
   obtain⟨l1,hl1⟩:=zen ks (gr w t)
   have kl:=zeh ks (gr w t)
   have km:=zdu ks (gr w t)
   generalize hks:regT ks (gr w t)=ks1 at *
   have pa:=zhk ((numT f ks1 (tk (gr w t)):Nat):Int) signs [114] (WT st f ks1 rl (.dtf (kvsP ps)) g) hs (by omega)
   rw[WT.len,WT.snoc]at pa
   have eP:(signs.map fun c=>D.tup [.int (numT f ks1 (tk (gr w t)):Nat),.str [c],.str [c],.str [114],.int (numT f ks1 (tk (gr w t)):Nat)])=(signs.map (pasR (gr w t) true)).map (encT f ks1):=by
    rw[List.map_map];rfl
   rw[eP]at pa
   generalize hps:(signs.map (pasR (gr w t) true)).map (encT f ks1)=PS at *
   have hpl:PS.length=signs.length:=by rw[<-hps];simp
   have hxt:=WT.ext (st:=st) (f:=f) (ks:=ks1) (rl:=rl) (dw:=.dtf (kvsP ps)) (g:=g) (rs:=PS) (by omega)
   have ty:=WT.ty (st:=st) (f:=f) (ks:=ks1) (rl:=rl) (dw:=.dtf (kvsP ps)) (g:=g++[.lst PS])
   have ty0:=WT.ty (st:=st) (f:=f) (ks:=ks1) (rl:=rl) (dw:=.dtf (kvsP ps)) (g:=g)
   have fin:rl++PS=(R1++passL signs (ps.take (i+1))).map (encT f ks1):=by
    rw[tk1,zfw,<-List.append_assoc,List.map_append,<-hrl,hl1,zec l1 h2,<-hl1,hps]
   refine⟨by simp,EV n signs top st.length a6 (some (.tup [.str w,.int (t:Nat)])) a8 none none none,WT st f ks rl (.dtf (kvsP ps)) g,by generalize WT st f ks rl (.dtf (kvsP ps)) g=Z;unfold EV;simp,EV n signs top st.length a6 (some (.tup [.str w,.int (t:Nat)])) (some (.int (numT f ks1 (tk (gr w t)):Nat))) none none none,WT st f ks1 (rl++PS) (.dtf (kvsP ps)) (g++[.lst PS]),.inl ?_,ks1,g++[.lst PS],_,_,by rw[tk1,pasK_snoc,<-hK];exact hks.symm,by omega,?_,?_,?_,rfl,by rw[fin]⟩
   ·rw[<-hB]
    have x0:∀s,ixV (.tup [.str w,.int (t:Nat)]) (.int 0) s=.ok (.str w) s:=fun s=>zb7 _ _ _ _ rfl
    have x1:∀s,ixV (.tup [.str w,.int (t:Nat)]) (.int 1) s=.ok (.int (t:Nat)) s:=fun s=>zb7 _ _ _ _ rfl
    generalize ((numT f ks1 (tk (gr w t)):Nat):Int)=NV at *
    generalize WT st f ks1 (rl++PS) (.dtf (kvsP ps)) (g++[.lst PS])=Z3 at *
    generalize WT st f ks1 rl (.dtf (kvsP ps)) (g++[.lst PS])=Z2 at *
    generalize WT st f ks1 rl (.dtf (kvsP ps)) g=Z1 at *
    generalize WT st f ks rl (.dtf (kvsP ps)) g=Z0 at *
    generalize ((t:Nat):Int)=RG at *
    generalize D.tup [.str w,.int RG]=TT at *
    generalize st.length+4+g.length=Y at *
    unfold EV
    simp[x0,x1,gs,pa,hxt,ty,ty0]
   ·intro q hq
    rw[tk1,zfw,<-List.append_assoc]at hq
    rcases List.mem_append.mp hq with h | h
    ·rw[hl1];exact ze7 _ (h2 q h)
    ·obtain⟨c,_,rfl⟩:=List.mem_map.mp h
     exact⟨km,km⟩
   ·intro o ho
    rcases List.mem_append.mp ho with h | h
    ·exact h3 o h
    ·have:o=_:=List.mem_singleton.mp h
     subst this
     intro m
     rw[<-hps]
     exact zbg _ _ _ _
   ·rw[tk1,zfw,List.length_append,List.length_map];omega) (fun _ _ _=>by simp)
 rw[List.length_map]at h1 h2 h4 e1 hK
 rw[List.take_length]at h2 h4 e1 hK
 exact⟨ks,g,a7,a8,hK,h1,h2,h3,by have:=Nat.mul_le_mul_right 100 hl;omega,e1⟩
theorem loop3 (qs:List (List Nat×Nat))(dw:MO)(hdw:∀n,underO n dw)(signs:List Nat)(top n f:Nat)(st:Stor)(hwf:M.wf st)(hl:qs.length<=40000)(hq:∀p∈qs,p.1.length<=100)(B:MS)(ks0:List TK)(R1:List TQ)(h0:∀q∈R1,inRT ks0 q)(hR:R1.length<=200000)(hk:ks0.length<=2000)(g:Stor)(hg:∀o∈g,∀n,underO n o)(a6 a7 a8 a9:Option D)
  (hB:(exprS (methE "list" appendV (vr 4) (consA (callF za9 [] (consA (vr 3) (consA (op2 ixV (vr 10) (ct (.int 0))) (consA (op2 ixV (vr 10) (ct (.int 1))) nilA)))) nilA)):MS)=B) :
  ∃ks a10,ks=groK ks0 qs/\ks.length<=ks0.length+2*qs.length/\(∀q∈R1++qs.map (fun p=>groR p.1 p.2),inRT ks q) /\
   forGo (nameG 10) B [] (qs.map fun p=>D.tup [.str p.1,.int (p.2:Nat)]) (EV n signs top st.length a6 a7 a8 a9 none none) (WT st f ks0 (R1.map (encT f ks0)) dw g)
    = .ok (.nx (EV n signs top st.length a6 a7 a8 a9 a10 none)) (WT st f ks ((R1++qs.map (fun p=>groR p.1 p.2)).map (encT f ks)) dw g):=by
 obtain⟨env1,st1,e1,ks,a10,hK,h1,h2,rfl,rfl⟩:=zb9 (g:=nameG 10) (b:=B) (gs:=[]) (items:=qs.map fun p=>D.tup [.str p.1,.int (p.2:Nat)])
  (fun i env s=>∃(ks:List TK) (a10:Option D),ks=groK ks0 (qs.take i)/\ks.length<=ks0.length+2*i/\(∀q∈R1++(qs.take i).map (fun p=>groR p.1 p.2),inRT ks q) /\
   env=EV n signs top st.length a6 a7 a8 a9 a10 none/\s=WT st f ks ((R1++(qs.take i).map (fun p=>groR p.1 p.2)).map (encT f ks)) dw g)
  (env:=EV n signs top st.length a6 a7 a8 a9 none none) (st:=WT st f ks0 (R1.map (encT f ks0)) dw g)
  ⟨ks0,none,rfl,by omega,by simpa using h0,rfl,by simp⟩ (by
   rintro i d env s hi ⟨ks,a10,hK,h1,h2,rfl,rfl⟩
   rw[List.getElem?_map]at hi
   obtain⟨⟨w,t⟩,hr,rfl⟩:=Option.map_eq_some_iff.mp hi
   have hmem:=List.mem_of_getElem? hr
   have hil:=(List.getElem?_eq_some_iff.mp hr).1
   have hwl:=hq _ hmem
   simp only at hwl
   have tk1:qs.take (i+1)=qs.take i++[(w,t)]:=by rw[List.take_succ,hr];rfl
   generalize hrl:(R1++(qs.take i).map (fun p=>groR p.1 p.2)).map (encT f ks)=rl
   have hrll:rl.length<=200000+i:=by rw[<-hrl];simp;omega
   have hu:∀n,unders n rl:=fun n=>by rw[<-hrl];exact zbg _ _ _ _
   obtain⟨ks1,l1,hl1,hks,kl,hin,gs⟩:=zke (WT.num (st:=st) (f:=f) (ks:=ks) (rl:=rl) (dw:=dw) (g:=g) hwf hu hdw hg) (by omega) w t (by omega)
   rw[WT.set]at gs
   have ap:=WT.app (st:=st) (f:=f) (ks:=ks1) (rl:=rl) (dw:=dw) (g:=g) (by omega) (encT f ks1 (groR w t))
   have ty:=WT.ty (st:=st) (f:=f) (ks:=ks1) (rl:=rl) (dw:=dw) (g:=g)
   have ty0:=WT.ty (st:=st) (f:=f) (ks:=ks) (rl:=rl) (dw:=dw) (g:=g)
   have fin:rl++[encT f ks1 (groR w t)]=(R1++(qs.take (i+1)).map (fun p=>groR p.1 p.2)).map (encT f ks1):=by
    have e9:R1++(qs.take (i+1)).map (fun p=>groR p.1 p.2)=(R1++(qs.take i).map (fun p=>groR p.1 p.2))++[groR w t]:=by rw[tk1];simp
    rw[e9,List.map_append,<-hrl,hl1,zec l1 h2];rfl
   refine⟨by simp,EV n signs top st.length a6 a7 a8 a9 (some (.tup [.str w,.int (t:Nat)])) none,WT st f ks rl dw g,by generalize WT st f ks rl dw g=Z;unfold EV;simp,EV n signs top st.length a6 a7 a8 a9 (some (.tup [.str w,.int (t:Nat)])) none,WT st f ks1 (rl++[encT f ks1 (groR w t)]) dw g,.inl ?_,ks1,_,by rw[tk1,groK_snoc,<-hK];exact hks,by omega,?_,rfl,by rw[fin]⟩
   ·rw[<-hB]
    have x0:∀s,ixV (.tup [.str w,.int (t:Nat)]) (.int 0) s=.ok (.str w) s:=fun s=>zb7 _ _ _ _ rfl
    have x1:∀s,ixV (.tup [.str w,.int (t:Nat)]) (.int 1) s=.ok (.int (t:Nat)) s:=fun s=>zb7 _ _ _ _ rfl
    generalize encT f ks1 (groR w t)=ER at *
    generalize WT st f ks1 (rl++[ER]) dw g=Z3 at *
    generalize WT st f ks1 rl dw g=Z1 at *
    generalize WT st f ks rl dw g=Z0 at *
    generalize ((t:Nat):Int)=RG at *
    generalize D.tup [.str w,.int RG]=TT at *
    unfold EV
    simp[x0,x1,gs,ap,ty,ty0]
   ·intro q hqq
    rw[tk1,List.map_append,<-List.append_assoc]at hqq
    rcases List.mem_append.mp hqq with h | h
    ·rw[hl1];exact ze7 _ (h2 q h)
    ·have:q=groR w t:=by simpa using h
     subst this
     exact hin) (fun _ _ _=>by simp)
 rw[List.length_map]at h1 h2 e1 hK
 rw[List.take_length]at h2 e1 hK
 exact⟨ks,a10,hK,h1,h2,e1⟩
theorem loop4 (ts:List Nat)(dw:MO)(hdw:∀n,underO n dw)(signs:List Nat)(top n f:Nat)(st:Stor)(hwf:M.wf st)(hl:ts.length<=1000)(hs:∀c∈signs,c<128)(hsl:signs.length<=100)(B:MS)(ks0:List TK)(R1:List TQ)(h0:∀q∈R1,inRT ks0 q)(hR:R1.length<=400000)(hk:ks0.length<=90000)(g0:Stor)(hg0:∀o∈g0,∀n,underO n o)(a6 a7 a8 a9 a10:Option D)
  (hB:(seqS (setS 8 (callF za4 [] (consA (vr 3) (consA (vr 11) nilA))))
  (seqS (exprS (methE "list" extendV (vr 4) (consA (callF zap [] (consA (vr 8) (consA (vr 1) (consA (ct (.str [108])) nilA)))) nilA)))
  (exprS (methE "list" appendV (vr 4) (consA (tupE (consA (vr 8) (consA (ct (.str [95])) (consA (ct (.str [95])) (consA (ct (.str [114])) (consA (vr 11) nilA)))))) nilA)))):MS)=B) :
  ∃ks g a8' a11,ks=bakK ks0 ts/\ks.length<=ks0.length+ts.length/\(∀q∈R1++backL signs ts,inRT ks q)/\(∀o∈g,∀n,underO n o)/\(backL signs ts).length<=1000*101 /\
   forGo (nameG 11) B [] (ts.map fun t=>D.int (t:Nat)) (EV n signs top st.length a6 a7 a8 a9 a10 none) (WT st f ks0 (R1.map (encT f ks0)) dw g0)
    = .ok (.nx (EV n signs top st.length a6 a7 a8' a9 a10 a11)) (WT st f ks ((R1++backL signs ts).map (encT f ks)) dw g):=by
 obtain⟨env1,st1,e1,ks,g,a8',a11,hK,h1,h2,h3,h4,rfl,rfl⟩:=zb9 (g:=nameG 11) (b:=B) (gs:=[]) (items:=ts.map fun t=>D.int (t:Nat))
  (fun i env s=>∃(ks:List TK) (g:Stor) (a8 a11:Option D),ks=bakK ks0 (ts.take i)/\ks.length<=ks0.length+i/\(∀q∈R1++backL signs (ts.take i),inRT ks q)/\(∀o∈g,∀n,underO n o)/\(backL signs (ts.take i)).length<=i*101 /\
   env=EV n signs top st.length a6 a7 a8 a9 a10 a11/\s=WT st f ks ((R1++backL signs (ts.take i)).map (encT f ks)) dw g)
  (env:=EV n signs top st.length a6 a7 a8 a9 a10 none) (st:=WT st f ks0 (R1.map (encT f ks0)) dw g0)
  ⟨ks0,g0,a8,none,rfl,by omega,by simpa[backL] using h0,hg0,by simp[backL],rfl,by simp[backL]⟩ (by
   rintro i d env s hi ⟨ks,g,a8,a11,hK,h1,h2,h3,h4,rfl,rfl⟩
   rw[List.getElem?_map]at hi
   obtain⟨t,hr,rfl⟩:=Option.map_eq_some_iff.mp hi
   have hil:=(List.getElem?_eq_some_iff.mp hr).1
   have tk1:ts.take (i+1)=ts.take i++[t]:=by rw[List.take_succ,hr];rfl
   generalize hrl:(R1++backL signs (ts.take i)).map (encT f ks)=rl
   have hrll:rl.length<=400000+i*101:=by rw[<-hrl];simp;omega
   have hu:∀n,unders n rl:=fun n=>by rw[<-hrl];exact zbg _ _ _ _
   have gs:=WT.back (st:=st) (f:=f) (ks:=ks) (rl:=rl) (dw:=dw) (g:=g) hwf hu hdw h3 (by omega) t
   obtain⟨l1,hl1⟩:=zen ks (bk t)
   have kl:=zeh ks (bk t)
   have km:=zdu ks (bk t)
   generalize hks:regT ks (bk t)=ks1 at *
   have pa:=zhk ((numT f ks1 (tk (bk t)):Nat):Int) signs [108] (WT st f ks1 rl dw g) hs (by omega)
   rw[WT.len,WT.snoc]at pa
   have eP:(signs.map fun c=>D.tup [.int (numT f ks1 (tk (bk t)):Nat),.str [c],.str [c],.str [108],.int (numT f ks1 (tk (bk t)):Nat)])=(signs.map (pasR (bk t) false)).map (encT f ks1):=by
    rw[List.map_map];rfl
   rw[eP]at pa
   generalize hps:(signs.map (pasR (bk t) false)).map (encT f ks1)=PS at *
   have hpl:PS.length=signs.length:=by rw[<-hps];simp
   have hxt:=WT.ext (st:=st) (f:=f) (ks:=ks1) (rl:=rl) (dw:=dw) (g:=g) (rs:=PS) (by omega)
   have e0:D.tup [.int (numT f ks1 (tk (bk t)):Nat),.str [95],.str [95],.str [114],.int (t:Nat)]=encT f ks1 (bakR t):=rfl
   have ap:=WT.app (st:=st) (f:=f) (ks:=ks1) (rl:=rl++PS) (dw:=dw) (g:=g++[.lst PS]) (by simp;omega) (encT f ks1 (bakR t))
   rw[<-e0]at ap
   have ty:=WT.ty (st:=st) (f:=f) (ks:=ks1) (rl:=rl) (dw:=dw) (g:=g++[.lst PS])
   have ty0:=WT.ty (st:=st) (f:=f) (ks:=ks1) (rl:=rl) (dw:=dw) (g:=g)
   have ty1:=WT.ty (st:=st) (f:=f) (ks:=ks1) (rl:=rl++PS) (dw:=dw) (g:=g++[.lst PS])
   have fin:rl++PS++[encT f ks1 (bakR t)]=(R1++backL signs (ts.take (i+1))).map (encT f ks1):=by
    have e9:R1++backL signs (ts.take (i+1))=(R1++backL signs (ts.take i))++signs.map (pasR (bk t) false)++[bakR t]:=by rw[tk1,zfc];simp
    rw[e9,List.map_append,List.map_append,hps,<-hrl]
    have e8:(R1++backL signs (ts.take i)).map (encT f ks1)=(R1++backL signs (ts.take i)).map (encT f ks):=by rw[hl1,zec l1 h2]
    rw[e8];rfl
   refine⟨by simp,EV n signs top st.length a6 a7 a8 a9 a10 (some (.int (t:Nat))),WT st f ks rl dw g,by generalize WT st f ks rl dw g=Z;unfold EV;simp,EV n signs top st.length a6 a7 (some (.int (numT f ks1 (tk (bk t)):Nat))) a9 a10 (some (.int (t:Nat))),WT st f ks1 (rl++PS++[encT f ks1 (bakR t)]) dw (g++[.lst PS]),.inl ?_,ks1,g++[.lst PS],_,_,by rw[tk1,bakK_snoc,<-hK];exact hks.symm,by omega,?_,?_,?_,rfl,by rw[fin]⟩
   ·rw[<-hB]
    rw[<-e0]
    generalize ((numT f ks1 (tk (bk t)):Nat):Int)=NV at *
    generalize ((t:Nat):Int)=RG at *
    generalize WT st f ks1 (rl++PS++[D.tup [.int NV,.str [95],.str [95],.str [114],.int RG]]) dw (g++[.lst PS])=Z4 at *
    generalize WT st f ks1 (rl++PS) dw (g++[.lst PS])=Z3 at *
    generalize WT st f ks1 rl dw (g++[.lst PS])=Z2 at *
    generalize WT st f ks1 rl dw g=Z1 at *
    generalize WT st f ks rl dw g=Z0 at *
    generalize st.length+4+g.length=Y at *
    unfold EV
    simp[gs,pa,hxt,ty,ty0,ty1,ap]
   ·intro q hq
    rw[tk1,zfc,<-List.append_assoc]at hq
    rcases List.mem_append.mp hq with h | h
    ·rw[hl1];exact ze7 _ (h2 q h)
    ·rcases List.mem_append.mp h with h | h
     ·obtain⟨c,_,rfl⟩:=List.mem_map.mp h
      exact⟨km,km⟩
     ·have:q=bakR t:=by simpa using h
      subst this
      exact⟨km,trivial⟩
   ·intro o ho
    rcases List.mem_append.mp ho with h | h
    ·exact h3 o h
    ·have:o=_:=List.mem_singleton.mp h
     subst this
     intro m
     rw[<-hps]
     exact zbg _ _ _ _
   ·rw[tk1,zfc,List.length_append,List.length_append,List.length_map];simp;omega) (fun _ _ _=>by simp)
 rw[List.length_map]at h1 h2 h4 e1 hK
 rw[List.take_length]at h2 h4 e1 hK
 exact⟨ks,g,a8',a11,hK,h1,h2,h3,by have:=Nat.mul_le_mul_right 101 hl;omega,e1⟩
end Law
set_option maxHeartbeats 0
namespace Law
open L2 M TK TS
theorem zdm {signs:List Nat}{ps:List (List Nat×Nat)}{q:TQ}:q∈passL signs ps ↔ ∃p∈ps,∃c∈signs,q=pasR (gr p.1 p.2) true c:=by
 unfold passL
 simp only[List.mem_flatten,List.mem_map]
 constructor
 ·rintro ⟨l,⟨p,hp,rfl⟩,hq⟩
  obtain⟨c,hc,rfl⟩:=List.mem_map.mp hq
  exact⟨p,hp,c,hc,rfl⟩
 ·rintro ⟨p,hp,c,hc,rfl⟩
  exact⟨_,⟨p,hp,rfl⟩,List.mem_map.mpr ⟨c,hc,rfl⟩⟩
theorem zc8 {signs:List Nat}{ts:List Nat}{q:TQ}:q∈backL signs ts ↔ ∃t∈ts,(∃c∈signs,q=pasR (bk t) false c)\/q=bakR t:=by
 unfold backL
 simp only[List.mem_flatten,List.mem_map]
 constructor
 ·rintro ⟨l,⟨t,ht,rfl⟩,hq⟩
  rcases List.mem_append.mp hq with h | h
  ·obtain⟨c,hc,rfl⟩:=List.mem_map.mp h
   exact⟨t,ht,.inl ⟨c,hc,rfl⟩⟩
  ·exact⟨t,ht,.inr (by simpa using h)⟩
 ·rintro ⟨t,ht,h⟩
  refine⟨_,⟨t,ht,rfl⟩,?_⟩
  rcases h with⟨c,hc,rfl⟩ | rfl
  ·exact List.mem_append_left _ (List.mem_map.mpr ⟨c,hc,rfl⟩)
  ·simp
noncomputable def allK (RL:List Rl)(signs:List Nat):List TQ:=RL.map srcR++passL signs (srcP RL)++(lfK (srcP RL)).map (fun p=>groR p.1 p.2)++backL signs (tgK (srcP RL))
noncomputable def ksK (RL:List Rl):List TK:=bakK (groK (pasK (srcK RL) (srcP RL)) (lfK (srcP RL))) (tgK (srcP RL))
theorem zfh (RL:List Rl)(signs:List Nat)(top n:Nat)(st:Stor)(hwf:M.wf st)(hgt:st[n]? = some (.lst (RL.map encRl)))(hl:RL.length<=400)(hw:∀r∈RL,r.w.length<=90)(hs:∀c∈signs,c<128)(hsl:signs.length<=100) :
  ∃ks ALL,(ks=ksK RL/\ALL=allK RL signs)/\AllT RL signs ks ALL/\ALL.length<=500000/\(∃(ps qs:List (List Nat×Nat)) (ts:List Nat),(ps=srcP RL/\qs=lfK (srcP RL)/\ts=tgK (srcP RL))/\ALL=RL.map srcR++passL signs ps++qs.map (fun p=>groR p.1 p.2)++backL signs ts/\ps.Nodup/\qs.Nodup/\ts.Nodup) /\
   zbb [.loc n,.str signs,.int (top:Nat)] st=.ok (.loc st.length) (st++[.lst (ALL.map (encT (top+1) ks))]):=by
 have hg:lstG st n=some (RL.map encRl,.lst (RL.map encRl)):=by unfold lstG;rw[hgt]
 generalize hf:top+1=f
 unfold zbb gcF fnM zba
 generalize hB1:(seqS (asgS (ct (.bl true)) (subG setDV (vr 5) _)) _:MS)=B1
 generalize hB2:(seqS (setS 8 (callF zaj [] _)) _:MS)=B2
 generalize hB3:(exprS (methE "list" appendV (vr 4) (consA (callF za9 [] _) nilA)):MS)=B3
 generalize hB4:(seqS (setS 8 (callF za4 [] _)) _:MS)=B4
 obtain⟨ks1,ps,a6,hK1,k1,p1,pn,pall,pof,in1,f1⟩:=loop1 RL signs top n f st hwf hgt (by omega) (fun r h=>by have:=hw r h;omega) B1 hB1
 have hpw:∀p∈ps,p.1.length<=90:=fun p hp=>by
  obtain⟨r,h1,rfl⟩:=pof p hp
  exact hw r h1
 obtain⟨ks2,g2,a7,a8,hK2,k2,in2,u2,l2,f2⟩:=loop2 ps signs top n f st hwf (by omega) hs hsl B2 ks1 (RL.map srcR) in1 (by simp;omega) (by omega) a6 hB2
 generalize hR2:RL.map srcR++passL signs ps=R2 at *
 have hR2l:R2.length<=101000:=by rw[<-hR2];simp;omega

 obtain⟨qs,hQ,hq,f3⟩:=zhi ps (st.length+3) 90 (WT st f ks2 (R2.map (encT f ks2)) (.dtf (kvsP ps)) g2) WT.at3 hpw (by omega) (by omega)
 have hql:qs.length<=400*91:=Nat.le_trans hq.len (Nat.mul_le_mul_right 91 (by omega))
 rw[WT.len,WT.snoc]at f3
 have hqw:∀p∈qs,p.1.length<=100:=fun q h=>by
  obtain⟨p,h1,k,h2,rfl⟩:=hq.of_ q h
  have:=hpw p h1
  simp only[List.length_drop];omega
 have u3:∀o∈g2++[MO.dtf (kvsP qs)],∀n,underO n o:=by
  intro o ho
  rcases List.mem_append.mp ho with h | h
  ·exact u2 o h
  ·have:o=_:=List.mem_singleton.mp h
   subst this;exact fun n=>zcy n _
 obtain⟨ks3,a10,hK3,k3,in3,f4⟩:=loop3 qs (.dtf (kvsP ps)) (fun n=>zcy n _) signs top n f st hwf (by omega) hqw B3 ks2 R2 in2 (by omega) (by omega) (g2++[.dtf (kvsP qs)]) u3 a6 a7 a8 (some (.loc (st.length+4+g2.length))) hB3
 generalize hR3:R2++qs.map (fun p=>groR p.1 p.2)=R3 at *
 have hR3l:R3.length<=150000:=by rw[<-hR3];simp;omega

 obtain⟨ts,hT,t1,t2,t3,t4,f5⟩:=zhd ps (st.length+3) (WT st f ks3 (R3.map (encT f ks3)) (.dtf (kvsP ps)) (g2++[.dtf (kvsP qs)])) WT.at3 (by omega)
 rw[WT.len,WT.snoc]at f5
 have u4:∀o∈g2++[MO.dtf (kvsP qs)]++[MO.dkf (kvsG ts)],∀n,underO n o:=by
  intro o ho
  rcases List.mem_append.mp ho with h | h
  ·exact u3 o h
  ·have:o=_:=List.mem_singleton.mp h
   subst this;exact fun n=>zhb n _
 obtain⟨ks4,g4,a8',a11,hK4,k4,in4,u5,l4,f6⟩:=loop4 ts (.dtf (kvsP ps)) (fun n=>zcy n _) signs top n f st hwf (by omega) hs hsl B4 ks3 R3 in3 (by omega) (by omega) (g2++[.dtf (kvsP qs)]++[.dkf (kvsG ts)]) u4 a6 a7 a8 (some (.loc (st.length+4+g2.length))) a10 hB4
 have eA:R3++backL signs ts=RL.map srcR++passL signs ps++qs.map (fun p=>groR p.1 p.2)++backL signs ts:=by rw[<-hR3,<-hR2]
 refine⟨ks4,R3++backL signs ts,⟨by unfold ksK;rw[<-hK1.1,<-hK1.2,<-hK2,<-hQ,<-hK3,<-hT,<-hK4],by rw[eA];unfold allK;rw[<-hK1.2,<-hQ,<-hT]⟩,⟨?_,in4,?_,?_,?_,?_,?_⟩,by rw[List.length_append];omega,⟨ps,qs,ts,⟨hK1.2,by rw[<-hK1.2];exact hQ,by rw[<-hK1.2];exact hT⟩,eA,pn,hq.nd,t4⟩,?_⟩
 ·intro q h
  rw[eA]at h
  rcases List.mem_append.mp h with h | h
  ·rcases List.mem_append.mp h with h | h
   ·rcases List.mem_append.mp h with h | h
    ·obtain⟨r,hr,rfl⟩:=List.mem_map.mp h
     exact .src r hr
    ·obtain⟨p,_,c,hc,rfl⟩:=zdm.mp h
     exact .pas _ _ c hc
   ·obtain⟨p,_,rfl⟩:=List.mem_map.mp h
    exact .gro _ _
  ·obtain⟨t,_,h⟩:=zc8.mp h
   rcases h with⟨c,hc,rfl⟩ | rfl
   ·exact .pab _ c hc
   ·exact .bak _
 ·intro r hr
  rw[eA]
  exact List.mem_append_left _ (List.mem_append_left _ (List.mem_append_left _ (List.mem_map.mpr ⟨r,hr,rfl⟩)))
 ·intro r hr c hc
  rw[eA]
  exact List.mem_append_left _ (List.mem_append_left _ (List.mem_append_right _ (zdm.mpr ⟨(r.w,r.g),pall r hr,c,hc,rfl⟩)))
 ·intro r hr k hk
  rw[eA]
  exact List.mem_append_left _ (List.mem_append_right _ (List.mem_map.mpr ⟨(r.w.drop k,r.g),hq.all (r.w,r.g) (pall r hr) k hk,rfl⟩))
 ·intro r hr c hc
  exact List.mem_append_right _ (zc8.mpr ⟨r.g,t1 (r.w,r.g) (pall r hr),.inl ⟨c,hc,rfl⟩⟩)
 ·intro r hr
  exact List.mem_append_right _ (zc8.mpr ⟨r.g,t1 (r.w,r.g) (pall r hr),.inr rfl⟩)
 ·have ef:((top:Nat):Int)+1=((f:Nat):Int):=by omega
  have hin:=init_ok st f
  have gcx:=gc_new (st:=st) (g:=[insN st.length f,.dic (kvsT f ks4)]) (g':=MO.dtf (kvsP ps)::g4) (o:=.lst ((R3++backL signs ts).map (encT f ks4))) (zbg _ _ _ _)
  have eW:st++[insN st.length f,.dic (kvsT f ks4)]++MO.lst ((R3++backL signs ts).map (encT f ks4))::(MO.dtf (kvsP ps)::g4)=WT st f ks4 ((R3++backL signs ts).map (encT f ks4)) (.dtf (kvsP ps)) g4:=by simp[WT]
  rw[eW]at gcx
  have eW0:st++[insN st.length f,.dic []]++[.lst [],.dic []]=WT st f [] [] (.dic []) []:=by simp[WT,kvsT]
  have hl0:(st++[insN st.length f,.dic []]).length=st.length+2:=by simp
  have hl1:st.length+2+1=st.length+3:=rfl
  have hg0:(WT st f [] [] (.dic []) [])[n]? = some (.lst (RL.map encRl)):=WT.old hgt
  have hmk:makeE "Numbers" za8 (consA (op2 addV (vr 2) (ct (.int 1))) nilA) [some (.loc n),some (.str signs),some (.int (top:Nat)),none,none,none,none,none,none,none,none,none] st=.ok (.loc st.length) (st++[insN st.length f,.dic []]):=by
   unfold makeE
   have a1:(consA (op2 addV (vr 2) (ct (.int 1))) nilA:MA) [some (.loc n),some (.str signs),some (.int (top:Nat)),none,none,none,none,none,none,none,none,none] st=.ok [.int (f:Nat)] st:=by simp[ef]
   rw[a1,R.bind_ok,hin]
   rfl

  have d1:=r_dtI_c (m:=vr 5) (env:=EV n signs top st.length a6 none none none none none) (st:=WT st f ks1 ((RL.map srcR).map (encT f ks1)) (.dic (kvsP ps)) []) (st1:=WT st f ks1 ((RL.map srcR).map (encT f ks1)) (.dic (kvsP ps)) []) (n:=st.length+3) rfl WT.at3
  rw[zd6,WT.set3]at d1
  have d2:=r_dtI_c (m:=vr 9) (env:=EV n signs top st.length a6 a7 a8 (some (.loc (st.length+4+g2.length))) none none) (st:=WT st f ks2 (R2.map (encT f ks2)) (.dtf (kvsP ps)) (g2++[.dic (kvsP qs)])) (st1:=WT st f ks2 (R2.map (encT f ks2)) (.dtf (kvsP ps)) (g2++[.dic (kvsP qs)])) (n:=st.length+4+g2.length) rfl WT.at4
  rw[zd6,WT.set4]at d2
  have c5:callF zbc [] (consA (vr 5) nilA) (EV n signs top st.length a6 a7 a8 (some (.loc (st.length+4+g2.length))) a10 none) (WT st f ks3 (R3.map (encT f ks3)) (.dtf (kvsP ps)) (g2++[.dtf (kvsP qs)]))=.ok (.loc (st.length+4+(g2++[MO.dtf (kvsP qs)]).length)) (WT st f ks3 (R3.map (encT f ks3)) (.dtf (kvsP ps)) (g2++[.dtf (kvsP qs)]++[.dkc (kvsG ts)])):=by
   generalize WT st f ks3 (R3.map (encT f ks3)) (.dtf (kvsP ps)) (g2++[.dtf (kvsP qs)])=Z at *
   unfold EV
   simp[f5]
  have d3:=r_dkI_c (m:=callF zbc [] (consA (vr 5) nilA)) (env:=EV n signs top st.length a6 a7 a8 (some (.loc (st.length+4+g2.length))) a10 none) (st:=WT st f ks3 (R3.map (encT f ks3)) (.dtf (kvsP ps)) (g2++[.dtf (kvsP qs)])) c5 WT.at4
  rw[zkq,WT.set4]at d3
  rw[show startM 12 [D.loc n,.str signs,.int (top:Nat)]=[some (.loc n),some (.str signs),some (.int (top:Nat)),none,none,none,none,none,none,none,none,none] from rfl]
  generalize hMK:makeE "Numbers" za8 _=MK at *
  generalize hD1:dtI (vr 5)=DT5 at *
  generalize hD2:dtI (vr 9)=DT9 at *
  generalize hD3:dkI (callF zbc [] (consA (vr 5) nilA))=DK at *
  generalize (R3++backL signs ts).map (encT f ks4)=RL4 at *
  generalize WT st f ks4 RL4 _ _=Z9 at *
  generalize WT st f ks3 _ _ (g2++[MO.dtf (kvsP qs)]++[MO.dkf (kvsG ts)])=Z8 at *
  generalize WT st f ks3 _ _ (g2++[MO.dtf (kvsP qs)])=Z7 at *
  generalize WT st f ks2 _ _ (g2++[MO.dtf (kvsP qs)])=Z6 at *
  generalize WT st f ks2 _ _ (g2++[MO.dic (kvsP qs)])=Z5 at *
  generalize WT st f ks2 _ _ g2=Z4 at *
  generalize WT st f ks1 _ (MO.dtf (kvsP ps)) []=Z3 at *
  generalize WT st f ks1 _ (MO.dic (kvsP ps)) []=Z2 at *
  generalize WT st f [] [] (MO.dic []) []=Z1 at *
  generalize (ps.map fun p=>D.tup [.str p.1,.int (p.2:Nat)])=I1 at *
  generalize (qs.map fun p=>D.tup [.str p.1,.int (p.2:Nat)])=I2 at *
  generalize (ts.map fun t=>D.int (t:Nat))=I3 at *
  generalize RL.map encRl=RLE at *
  unfold EV at *
  generalize st++[insN st.length f,.dic []]=Z0 at *
  generalize st.length+4+g2.length=Y at *
  simp[hmk,dicE,hl0,hl1,eW0,hg0,f1,d1,f2,f3,d2,f4,d3,f6]
  exact gcx
end Law
set_option maxHeartbeats 0
namespace Law
open L2 M TK TS
noncomputable def KT (q:TQ):M.TS×Nat:=(q.s,q.x)
noncomputable abbrev unT (a b:TQ):Prop:=KT a≠KT b
theorem unT_s {a b:TQ}(h:a.s≠b.s):unT a b:=fun e=>h (congrArg Prod.fst e)
theorem unT_x {a b:TQ}(h:a.x≠b.x):unT a b:=fun e=>h (congrArg Prod.snd e)
theorem zkd (w:List Nat)(t:Nat):(groR w t).s=tk (gr w t)/\(groR w t).x=95:=by cases w<;>exact⟨rfl,rfl⟩
theorem passL_un {signs:List Nat}(hs:signs.Nodup){ps:List (List Nat×Nat)}(hp:ps.Nodup):(passL signs ps).Pairwise unT:=by
 unfold passL
 refine List.pairwise_flatten.mpr ⟨fun l hl=>?_,?_⟩
 ·obtain⟨p,_,rfl⟩:=List.mem_map.mp hl
  rw[List.pairwise_map]
  exact hs.imp (fun {a b} (h:a≠b)=>(unT_x h:unT (pasR _ _ a) (pasR _ _ b)))
 ·rw[List.pairwise_map]
  refine hp.imp fun {a b} h x hx y hy=>unT_s ?_
  obtain⟨c,_,rfl⟩:=List.mem_map.mp hx
  obtain⟨d,_,rfl⟩:=List.mem_map.mp hy
  intro e
  have e:tk (gr a.1 a.2)=tk (gr b.1 b.2):=e
  injection e with e
  injection e with e1 e2
  exact h (Prod.ext e1 e2)
theorem backL_un {signs:List Nat}(hs:signs.Nodup)(h95:95∉signs){ts:List Nat}(ht:ts.Nodup):(backL signs ts).Pairwise unT:=by
 unfold backL
 refine List.pairwise_flatten.mpr ⟨fun l hl=>?_,?_⟩
 ·obtain⟨t,_,rfl⟩:=List.mem_map.mp hl
  refine List.pairwise_append.mpr ⟨by rw[List.pairwise_map];exact hs.imp (fun {a b} (h:a≠b)=>(unT_x h:unT (pasR _ _ a) (pasR _ _ b))),by simp,fun a ha b hb=>unT_x ?_⟩
  obtain⟨c,hc,rfl⟩:=List.mem_map.mp ha
  rw[List.mem_singleton.mp hb]
  intro e
  have e:c=95:=e
  exact h95 (e ▸ hc)
 ·rw[List.pairwise_map]
  have own:∀(t:Nat) (x:TQ),x∈signs.map (pasR (bk t) false)++[bakR t]->x.s=tk (bk t):=by
   intro t x hx
   rcases List.mem_append.mp hx with hx | hx
   ·obtain⟨c,_,rfl⟩:=List.mem_map.mp hx;rfl
   ·rw[List.mem_singleton.mp hx];rfl
  refine ht.imp fun {a b} h x hx y hy=>unT_s ?_
  rw[own a x hx,own b y hy]
  intro e
  injection e with e
  injection e with e
  exact h e
theorem allK_un {RL:List Rl}{signs:List Nat}(hR:RL.Pairwise fun a b=>¬ (a.s=b.s/\a.x=b.x))(hs:signs.Nodup)(h95:95∉signs)(hp:(srcP RL).Nodup)(hq:(lfK (srcP RL)).Nodup)(ht:(tgK (srcP RL)).Nodup):(allK RL signs).Pairwise unT:=by
 unfold allK
 have isB:∀x∈backL signs (tgK (srcP RL)),∃t,x.s=tk (bk t):=by
  intro x hx
  obtain⟨t,_,h⟩:=zc8.mp hx
  rcases h with⟨c,_,rfl⟩ | rfl
  ·exact⟨t,rfl⟩
  ·exact⟨t,rfl⟩
 have isG:∀x∈(lfK (srcP RL)).map (fun p=>groR p.1 p.2),∃w t,x.s=tk (gr w t)/\x.x=95:=by
  intro x hx
  obtain⟨p,_,rfl⟩:=List.mem_map.mp hx
  exact⟨p.1,p.2,zkd _ _⟩
 have isP:∀x∈passL signs (srcP RL),∃w t,x.s=tk (gr w t)/\x.x∈signs:=by
  intro x hx
  obtain⟨p,_,c,hc,rfl⟩:=zdm.mp hx
  exact⟨p.1,p.2,rfl,hc⟩
 have isS:∀x∈RL.map srcR,∃n,x.s=tp n:=by
  intro x hx
  obtain⟨r,_,rfl⟩:=List.mem_map.mp hx
  exact⟨r.s,rfl⟩
 refine List.pairwise_append.mpr ⟨List.pairwise_append.mpr ⟨List.pairwise_append.mpr ⟨?_,passL_un hs hp,?_⟩,?_,?_⟩,backL_un hs h95 ht,?_⟩
 ·rw[List.pairwise_map]
  refine hR.imp fun {a b} h e=>h ?_
  have e:(tp a.s,a.x)=(tp b.s,b.x):=e
  injection e with e1 e2
  injection e1 with e1
  exact⟨e1,e2⟩
 ·intro a ha b hb
  obtain⟨n,e1⟩:=isS a ha
  obtain⟨w,t,e2,_⟩:=isP b hb
  exact unT_s (by rw[e1,e2];exact fun e=>nomatch e)
 ·rw[List.pairwise_map]
  refine hq.imp fun {a b} h=>unT_s ?_
  rw[(zkd _ _).1,(zkd _ _).1]
  intro e
  injection e with e
  injection e with e1 e2
  exact h (Prod.ext e1 e2)
 ·intro a ha b hb
  obtain⟨w,t,e2,e3⟩:=isG b hb
  rcases List.mem_append.mp ha with ha | ha
  ·obtain⟨n,e1⟩:=isS a ha
   exact unT_s (by rw[e1,e2];exact fun e=>nomatch e)
  ·obtain⟨_,_,_,e4⟩:=isP a ha
   exact unT_x (fun e=>h95 (by rw[e3]at e;rw[<-e];exact e4))
 ·intro a ha b hb
  obtain⟨t,e2⟩:=isB b hb
  rcases List.mem_append.mp ha with ha | ha
  ·rcases List.mem_append.mp ha with ha | ha
   ·obtain⟨n,e1⟩:=isS a ha
    exact unT_s (by rw[e1,e2];exact fun e=>nomatch e)
   ·obtain⟨_,_,e1,_⟩:=isP a ha
    exact unT_s (by rw[e1,e2];exact fun e=>nomatch e)
  ·obtain⟨_,_,e1,_⟩:=isG a ha
   exact unT_s (by rw[e1,e2];exact fun e=>nomatch e)
end Law
set_option maxHeartbeats 0
namespace Law
open L2 M TK TS
theorem zh6 {α β:Type}(f:α->List β)(n:Nat)(h:∀a,(f a).length=n):∀l:List α,((l.map f).flatten).length=n*l.length
 | []=>by simp
 | a::l=>by
  rw[List.map_cons,List.flatten_cons,List.length_append,h,zh6 f n h l,List.length_cons,Nat.mul_succ,Nat.add_comm]
theorem allK_len (RL:List Rl)(signs:List Nat):(allK RL signs).length=RL.length+signs.length*(srcP RL).length+(lfK (srcP RL)).length+(signs.length+1)*(tgK (srcP RL)).length:=by
 unfold allK passL backL
 rw[List.length_append,List.length_append,List.length_append,List.length_map,List.length_map,zh6 _ signs.length (fun p=>by simp),zh6 _ (signs.length+1) (fun p=>by simp)]
noncomputable def pairT (f:Nat)(ks:List TK)(q:TQ):D:=.tup [.int (numT f ks q.s:Nat),.str [q.x]]
noncomputable def lowT (top:Nat)(ks:List TK)(sg:List Nat)(q:TQ):Bool:=decide (numT (top+1) ks q.s<=top) && decide (q.x∈sg)
theorem low_tk (top:Nat)(ks:List TK)(sg:List Nat)(q:TQ)(k:TK)(h:q.s=tk k):lowT top ks sg q=false:=by
 unfold lowT
 rw[h]
 have:¬ numT (top+1) ks (tk k)<=top:=by simp only[numT];omega
 simp[this]
theorem zek {α:Type}{p:α->Bool}{l:List α}(h:∀x∈l,p x=false):l.filter p=[]:=by
 rw[List.filter_eq_nil_iff]
 intro x hx
 rw[h x hx];simp
theorem low_own {RL:List Rl}{signs sg:List Nat}{top:Nat}{ks:List TK}(hR:∀r∈RL,r.s<=top/\r.x∈sg):(allK RL signs).filter (lowT top ks sg)=RL.map srcR:=by
 unfold allK
 rw[List.filter_append,List.filter_append,List.filter_append]
 rw[zek (l:=passL signs (srcP RL)) fun x hx=>by
   obtain⟨p,_,c,hc,rfl⟩:=zdm.mp hx
   exact low_tk _ _ _ _ _ rfl]
 rw[zek (l:=(lfK (srcP RL)).map fun p=>groR p.1 p.2) fun x hx=>by
   obtain⟨p,_,rfl⟩:=List.mem_map.mp hx
   exact low_tk _ _ _ _ _ (zkd _ _).1]
 rw[zek (l:=backL signs (tgK (srcP RL))) fun x hx=>by
   obtain⟨t,_,h⟩:=zc8.mp hx
   rcases h with⟨c,_,rfl⟩ | rfl
   ·exact low_tk _ _ _ _ _ rfl
   ·exact low_tk _ _ _ _ _ rfl]
 rw[List.append_nil,List.append_nil,List.append_nil,List.filter_eq_self]
 intro q hq
 obtain⟨r,hr,rfl⟩:=List.mem_map.mp hq
 obtain⟨h1,h2⟩:=hR r hr
 unfold lowT
 have e1:numT (top+1) ks (srcR r).s<=top:=h1
 have e2:(srcR r).x∈sg:=h2
 simp[e1,e2]
noncomputable def keyQ (f:Nat)(ks:List TK)(q:TQ):List Key:=[.inl (numT f ks q.s:Nat),.inr (strOf [q.x])]
theorem keysD_T (f:Nat)(ks:List TK):∀l:List TQ,keysD (l.map (pairT f ks))=some (l.map (keyQ f ks))
 | []=>rfl
 | q::l=>by
  rw[List.map_cons,pairT,keysD,keysD_T f ks l];rfl
theorem keyQ_nd {f:Nat}{ks:List TK}{l:List TQ}(h:l.Pairwise unT)(hin:∀q∈l,inRT ks q)(hp:∀q∈l,∀n,q.s=tp n->n<f):(l.map (keyQ f ks)).Nodup:=by
 unfold List.Nodup
 rw[List.pairwise_map]
 refine List.Pairwise.imp_of_mem ?_ h
 intro a b ha hb hne e
 unfold keyQ at e
 have e1:((numT f ks a.s:Nat):Int)=(numT f ks b.s:Nat):=Sum.inl.inj (List.cons.inj e).1
 have e2:strOf [a.x]=strOf [b.x]:=Sum.inr.inj (List.cons.inj (List.cons.inj e).2).1
 have e3:=zkb (hin a ha).1 (hin b hb).1 (hp a ha) (hp b hb) (by omega)
 have e4:a.x=b.x:=by have:=ze6.mp e2;simpa using this
 exact hne (by unfold KT;rw[e3,e4])
theorem allK_tp {RL:List Rl}{signs:List Nat}{top:Nat}(hR:∀r∈RL,r.s<=top):∀q∈allK RL signs,∀n,q.s=tp n->n<top+1:=by
 intro q hq n e
 unfold allK at hq
 rcases List.mem_append.mp hq with hq | hq
 ·rcases List.mem_append.mp hq with hq | hq
  ·rcases List.mem_append.mp hq with hq | hq
   ·obtain⟨r,hr,rfl⟩:=List.mem_map.mp hq
    have e:tp r.s=tp n:=e
    injection e with e
    have:=hR r hr
    omega
   ·obtain⟨p,_,c,hc,rfl⟩:=zdm.mp hq
    exact nomatch e
  ·obtain⟨p,_,rfl⟩:=List.mem_map.mp hq
   rw[(zkd _ _).1]at e
   exact nomatch e
 ·obtain⟨t,_,h⟩:=zc8.mp hq
  rcases h with⟨c,_,rfl⟩ | rfl
  ·exact nomatch e
  ·exact nomatch e
end Law
set_option maxHeartbeats 0
namespace Law
open L2 M TK TS
theorem gcb (st:Stor)(b:Bool):gc st (.ok (.bl b) st)=.ok (.bl b) st:=by simpa using zeb (st:=st) (g:=[]) (d:=.bl b) (by simp)
theorem zim (i:Int)(st:Stor):zdo [.int i] st=.ok (.bl true) st:=by
 unfold zdo gcF fnM zda
 have h:=gcb st true
 have e1:isV "int" (.int i) st=.ok (.bl true) st:=rfl
 have e2:isV "bool" (.int i) st=.ok (.bl false) st:=rfl
 have e3:subTy "int" "bool" = false:=by rfl
 simp[startM,e1,e2,e3,h]
noncomputable def AZ:List Nat:=[97,98,99,100,101,102,103,104,105,106,107,108,109,110,111,112,113,114,115,116,117,118,119,120,121,122,95]
theorem notIn_AZ (c:Nat)(h:c∈AZ)(Z:Stor):notInSV (.str [c]) (.str AZ) Z=.ok (.bl false) Z:=by
 show (if AZ.length<=1000000 then R.ok (D.bl (!decide (c∈AZ))) Z else R.bad)=_
 rw[if_pos (by decide)]
 simp[h]
theorem form_ok (f:Nat)(ks:List TK)(l:List TQ)(hq:∀q∈l,q.x∈AZ/\q.w∈AZ)(n:Nat)(st:Stor)(h:st[n]? = some (.lst (l.map (encT f ks)))):zg7 [.loc n] st=.ok (.bl true) st:=by
 unfold zg7 gcF fnM zfb
 have hAZ:([97,98,99,100,101,102,103,104,105,106,107,108,109,110,111,112,113,114,115,116,117,118,119,120,121,122,95]:List Nat)=AZ:=rfl
 rw[hAZ]
 generalize hB2:(ifS (orT (notT (tru (op1 (isV "str") (vr 2)))) _) _ _:MS)=B2
 generalize hB:(seqS (ifS (orT (notT (tru (op1 (isV "tuple") (vr 1)))) _) _ _) _:MS)=B
 have two:∀(c:Nat) (E:D) (a:Option D),c∈AZ->B2 [some (.loc n),some E,some (.str [c])] st=.ok (.nx [some (.loc n),some E,some (.str [c])]) st:=by
  intro c E a hc
  rw[<-hB2]
  have e1:=notIn_AZ c hc st
  have s1:isV "str" (.str [c]) st=.ok (.bl true) st:=rfl
  have l1:lenW [.str [c]] st=.ok (.int 1) st:=rfl
  have tv:truV (.bl true) st=some true:=rfl
  generalize AZ=ZZ at *
  simp[e1,s1,l1,tv]
 obtain⟨env',st',e1,a,b,rfl,rfl⟩:=zb9 (g:=nameG 1) (b:=B) (gs:=[(n,.lst (l.map (encT f ks)))]) (items:=l.map (encT f ks)) (fun _ env s=>∃a b:Option D,env=[some (.loc n),a,b]/\s=st) (env:=[some (.loc n),none,none]) (st:=st) ⟨none,none,rfl,rfl⟩ (by
  rintro i d env s hi ⟨a,b,rfl,rfl⟩
  rw[List.getElem?_map]at hi
  obtain⟨q,hq1,rfl⟩:=Option.map_eq_some_iff.mp hi
  obtain⟨hx,hw⟩:=hq q (List.mem_of_getElem? hq1)
  obtain⟨env2,st2,e2,c,rfl,rfl⟩:=zb9 (g:=nameG 2) (b:=B2) (gs:=[]) (items:=[.str [q.x],.str [q.w]]) (fun _ env s'=>∃c:Option D,env=[some (.loc n),some (encT f ks q),c]/\s'=s) (env:=[some (.loc n),some (encT f ks q),b]) (st:=s) ⟨b,rfl,rfl⟩ (by
   rintro j d env s' hj ⟨c,rfl,rfl⟩
   have:∃c,d=.str [c]/\c∈AZ:=by
    have:=List.mem_of_getElem? hj
    simp only[List.mem_cons,List.not_mem_nil,or_false]at this
    rcases this with rfl | rfl
    ·exact⟨_,rfl,hx⟩
    ·exact⟨_,rfl,hw⟩
   obtain⟨k,rfl,hk⟩:=this
   generalize encT f ks q=E at *
   exact⟨by simp,[some (.loc n),some E,some (.str [k])],s',by simp,[some (.loc n),some E,some (.str [k])],s',.inl (two k E none hk),_,rfl,rfl⟩) (fun _ _ _=>by simp)
  refine⟨by simp[h],[some (.loc n),some (encT f ks q),b],st2,by simp,[some (.loc n),some (encT f ks q),c],st2,.inl ?_,_,_,rfl,rfl⟩
  rw[<-hB]
  have w1:=zim (numT f ks q.s:Nat) st2
  have w2:=zim (numT f ks q.g:Nat) st2
  have i0:ixV (encT f ks q) (.int 0) st2=.ok (.int (numT f ks q.s:Nat)) st2:=rfl
  have i4:ixV (encT f ks q) (.int 4) st2=.ok (.int (numT f ks q.g:Nat)) st2:=rfl
  have i3:ixV (encT f ks q) (.int 3) st2=.ok (.str [mvC q.mv]) st2:=rfl
  have t1:isV "tuple" (encT f ks q) st2=.ok (.bl true) st2:=rfl
  have l1:lenW [encT f ks q] st2=.ok (.int 5) st2:=rfl
  have sl:slV (encT f ks q) (some 1) (some 3) st2=.ok (.tup [.str [q.x],.str [q.w]]) st2:=rfl
  have im:inTV true (.str [mvC q.mv]) (.tup [.str [108],.str [114]]) st2=.ok (.bl false) st2:=by
   cases q.mv<;>rfl
  have tv:truV (.bl true) st2=some true:=rfl
  have n1:¬ ((numT f ks q.s:Nat):Int)<0:=by omega
  have n2:¬ ((numT f ks q.g:Nat):Int)<0:=by omega
  generalize ((numT f ks q.s:Nat):Int)=V1 at *
  generalize ((numT f ks q.g:Nat):Int)=V2 at *
  generalize encT f ks q=E at *
  generalize mvC q.mv=MV at *
  simp[w1,w2,i0,i4,i3,t1,l1,sl,im,tv,n1,n2,e2]) (fun _ _ zz=>by obtain⟨_,_,_,e⟩:=zz;rw[e];simp[h])
 have hg:=gcb st' true
 have t1:isV "list" (.loc n) st'=.ok (.bl true) st':=by simp[isV,tyD,h,subTy]
 have tv:truV (.bl true) st'=some true:=rfl
 rw[show startM 3 [D.loc n]=[some (.loc n),none,none] from rfl]
 generalize l.map (encT f ks)=IT at *
 simp[t1,tv,h,e1,hg]
end Law
set_option maxHeartbeats 0
namespace Law
open L2 M TK TS
noncomputable def ownP (r:Rl):D:=.tup [.int (r.s:Nat),.str [r.x]]
theorem zjn:∀RL:List Rl,pairsD (RL.map ownP)=some (RL.map fun r=>(((r.s:Nat):Int),strOf [r.x]))
 | []=>rfl
 | r::RL=>by rw[List.map_cons,ownP,pairsD,zjn RL];rfl
noncomputable def srtd (RL:List Rl):List D:=(ordP (RL.map fun r=>(((r.s:Nat):Int),strOf [r.x]))).map fun i=>(RL.map ownP).getD i .non
theorem zht (RL:List Rl)(hl:RL.length<64)(n:Nat)(st:Stor)(h:itemsAt st n=some (RL.map ownP)):sortedV [.loc n] st=.ok (.loc st.length) (st++[.lst (srtd RL)]):=by
 unfold sortedV
 simp only[h,zjn]
 rw[if_pos (by rw[List.length_map];exact hl)]
 rfl
theorem srtd_mem {RL:List Rl}{d:D}(h:d∈srtd RL):d=.non\/∃r,d=ownP r:=by
 unfold srtd at h
 obtain⟨i,_,rfl⟩:=List.mem_map.mp h
 by_cases hi:i<RL.length
 ·exact .inr ⟨RL[i],by simp[List.getD,hi]⟩
 ·exact .inl (by simp[List.getD,Nat.le_of_not_lt hi])
theorem zk8:∀(l:List D),(∀d∈l,d=.non\/∃r,d=ownP r)->flats l=true/\deps l<=1
 | [],_=>⟨rfl,by simp⟩
 | d::l,h=>by
  obtain⟨h1,h2⟩:=zk8 l fun x hx=>h x (by simp[hx])
  have:flat d=true/\dep d<=1:=by
   rcases h d (by simp) with rfl | ⟨r,rfl⟩
   ·exact⟨rfl,by simp⟩
   ·simp[ownP]
  rw[zdk,zgn,this.1,h1]
  exact⟨rfl,by have:=this.2;omega⟩
end Law
set_option maxHeartbeats 0
namespace Law
open L2 M TK TS
theorem right_ok (RL:List Rl)(signs:List Nat)(top n k:Nat)(ks:List TK)(st:Stor)(hn:st[n]? = some (.lst ((allK RL signs).map (encT (top+1) ks))))(hk:st[k]? = some (.lst (RL.map encRl)))(hl:RL.length<64)(hA:(allK RL signs).length<=900)(hz:∀q∈allK RL signs,q.x∈AZ/\q.w∈AZ)
  (hR:∀r∈RL,r.s<=top/\r.x∈signs) (hu:(allK RL signs).Pairwise unT) (hin:∀q∈allK RL signs,inRT ks q) (hsl:signs.length<=100):zc6 [.loc n,.loc k,.str signs,.int (top:Nat)] st=.ok (.bl true) st:=by
 have fm:=form_ok (top+1) ks _ hz n st hn
 generalize hAe:allK RL signs=A at *

 have c1:=zgl (capt:=[none]) (mi:=seqI (vr 0)) (g:=nameG 0) (e:=slE (vr 0) noP (inP (ct (.int 2)))) (env:=[some (.loc n),some (.loc k),some (.str signs),some (.int (top:Nat)),none,none]) (st:=st) (st1:=st) (items:=A.map (encT (top+1) ks)) (gs:=[(n,.lst (A.map (encT (top+1) ks)))]) (fun d=>match d with | .tup [a,b,_,_,_]=>.tup [a,b] | _=>.non) (fun e=>∃e0,e=[e0])
  (by simp[hn]) ⟨none,by simp[captE]⟩ (by rw[List.length_map];omega) (fun ys=>by simp[zb1 hn]) (by
   rintro d hd env' ys ⟨e0,rfl⟩
   obtain⟨q,hq,rfl⟩:=List.mem_map.mp hd
   have sl:∀Z,slV (encT (top+1) ks q) none (some 2) Z=.ok (pairT (top+1) ks q) Z:=fun Z=>rfl
   have e2:(match encT (top+1) ks q with | .tup [a,b,_,_,_]=>D.tup [a,b] | _=>.non)=pairT (top+1) ks q:=rfl
   rw[e2]
   generalize encT (top+1) ks q=E at *
   generalize (st++[MO.lst ys]:Stor)=Z at *
   exact⟨[some E],⟨_,rfl⟩,by simp,by simp[sl]⟩)
 rw[List.map_map,show ((fun d=>match d with | .tup [a,b,_,_,_]=>D.tup [a,b] | _=>.non)∘encT (top+1) ks)=pairT (top+1) ks from rfl]at c1
 generalize hS1:(st++[MO.lst (A.map (pairT (top+1) ks))]:Stor)=S1 at *
 have l1:S1.length=st.length+1:=by rw[<-hS1];simp
 have at1:S1[st.length]? = some (.lst (A.map (pairT (top+1) ks))):=by rw[<-hS1];simp
 have it1:itemsAt S1 st.length=some (A.map (pairT (top+1) ks)):=by unfold itemsAt;rw[at1]
 have hset:lenSetV (.loc st.length) S1=.ok (.int (A.length:Nat)) S1:=by
  unfold lenSetV
  simp only[it1,keysD_T]
  have nd:=keyQ_nd (f:=top+1) hu hin (by rw[<-hAe];exact allK_tp fun r h=>(hR r h).1)
  rw[if_pos ⟨nd,by rw[List.length_map];omega⟩,List.length_map]
 have hlen:lenW [.loc st.length] S1=.ok (.int (A.length:Nat)) S1:=by
  have:=zgd (st:=S1) (n:=st.length) it1
  rwa[List.length_map]at this

 have c2:=zdx (capt:=[some 3,some 2,none]) (mi:=seqI (vr 4)) (g:=nameG 2) (t:=andT (tB1 (op2 leV (op2 ixV (vr 2) (ct (.int 0))) (vr 0))) (tB1 (op2 inSV (op2 ixV (vr 2) (ct (.int 1))) (op2 addV (vr 1) (ct (.str [95])))))) (e:=vr 2) (env:=[some (.loc n),some (.loc k),some (.str signs),some (.int (top:Nat)),some (.loc st.length),none]) (st:=S1) (st1:=S1) (items:=A.map (pairT (top+1) ks)) (gs:=[(st.length,.lst (A.map (pairT (top+1) ks)))])
  (fun d=>match d with | .tup [.int i,.str [c]]=>decide (i<=(top:Nat)) && decide (c∈signs++[95]) | _=>false) (fun d=>d) (fun e=>∃e0,e=[some (.int (top:Nat)),some (.str signs),e0])
  (by simp[at1]) ⟨none,by simp[captE]⟩ (by rw[List.length_map];omega) (fun ys=>by simp[zb1 at1]) (by
   rintro d hd env' ys ⟨e0,rfl⟩
   obtain⟨q,hq,rfl⟩:=List.mem_map.mp hd
   have i0:∀Z,ixV (pairT (top+1) ks q) (.int 0) Z=.ok (.int (numT (top+1) ks q.s:Nat)) Z:=fun Z=>rfl
   have i1:∀Z,ixV (pairT (top+1) ks q) (.int 1) Z=.ok (.str [q.x]) Z:=fun Z=>rfl
   have e2:(match pairT (top+1) ks q with | .tup [.int i,.str [c]]=>decide (i<=(top:Nat)) && decide (c∈signs++[95]) | _=>false)=(decide (((numT (top+1) ks q.s:Nat):Int)<=(top:Nat)) && decide (q.x∈signs++[95])):=rfl
   have hi:∀Z,inSV (.str [q.x]) (.str (signs++[95])) Z=.ok (.bl (decide (q.x∈signs++[95]))) Z:=fun Z=>by
    show (if (signs++[95]).length<=1000000 then R.ok (D.bl (decide (q.x∈signs++[95]))) Z else R.bad)=_
    rw[if_pos (by simp;omega)]
   have ha:∀Z,addV (.str signs) (.str [95]) Z=.ok (.str (signs++[95])) Z:=fun Z=>by simp[addV];omega
   rw[e2]
   generalize pairT (top+1) ks q=E at *
   generalize (S1++[MO.lst ys]:Stor)=Z at *
   generalize ((numT (top+1) ks q.s:Nat):Int)=V at *
   generalize signs++[95]=SG at *
   generalize q.x=QX at *
   refine⟨[some (.int (top:Nat)),some (.str signs),some E],⟨_,rfl⟩,by simp,?_,fun _=>by simp⟩
   by_cases hv:V<=((top:Nat):Int)
   ·simp[i0,i1,ha,hi,hv]
   ·simp[i0,i1,ha,hi,hv])
 have ef:((A.map (pairT (top+1) ks)).filter fun d=>match d with | .tup [.int i,.str [c]]=>decide (i<=(top:Nat)) && decide (c∈signs++[95]) | _=>false)=RL.map ownP:=by
  rw[List.filter_map]
  have:(((fun d=>match d with | .tup [.int i,.str [c]]=>decide (i<=(top:Nat)) && decide (c∈signs++[95]) | _=>false):D->Bool)∘pairT (top+1) ks)=lowT top ks (signs++[95]):=by
   funext q
   show (decide (((numT (top+1) ks q.s:Nat):Int)<=(top:Nat)) && decide (q.x∈signs++[95]))=_
   unfold lowT
   congr 1
   simp
  rw[this,<-hAe,low_own (fun r h=>⟨(hR r h).1,by simp[(hR r h).2]⟩),List.map_map]
  rfl
 rw[ef,List.map_id']at c2
 generalize hS2:(S1++[MO.lst (RL.map ownP)]:Stor)=S2 at *
 have l2:S2.length=st.length+2:=by rw[<-hS2];simp[l1]
 have so:=zht RL hl (st.length+1) S2 (by unfold itemsAt;rw[<-hS2,<-l1];simp)
 rw[l2]at so
 generalize hS3:(S2++[MO.lst (srtd RL)]:Stor)=S3 at *
 have l3:S3.length=st.length+3:=by rw[<-hS3];simp[l2]
 have hk3:S3[k]? = some (.lst (RL.map encRl)):=by
  rw[<-hS3,<-hS2,<-hS1];exact zb1 (zb1 (zb1 hk))
 have at3:S3[st.length+2]? = some (.lst (srtd RL)):=by rw[<-hS3,<-l2];simp
 have c3:=zgl (capt:=[none]) (mi:=seqI (vr 1)) (g:=nameG 0) (e:=slE (vr 0) noP (inP (ct (.int 2)))) (env:=[some (.loc n),some (.loc k),some (.str signs),some (.int (top:Nat)),some (.loc st.length),some (.loc (st.length+2))]) (st:=S3) (st1:=S3) (items:=RL.map encRl) (gs:=[(k,.lst (RL.map encRl))]) (fun d=>match d with | .tup [a,b,_,_]=>.tup [a,b] | _=>.non) (fun e=>∃e0,e=[e0])
  (by simp[hk3]) ⟨none,by simp[captE]⟩ (by rw[List.length_map];omega) (fun ys=>by simp[zb1 hk3]) (by
   rintro d hd env' ys ⟨e0,rfl⟩
   obtain⟨r,hr,rfl⟩:=List.mem_map.mp hd
   have sl:∀Z,slV (encRl r) none (some 2) Z=.ok (ownP r) Z:=fun Z=>rfl
   have e2:(match encRl r with | .tup [a,b,_,_]=>D.tup [a,b] | _=>.non)=ownP r:=rfl
   rw[e2]
   generalize encRl r=E at *
   generalize (S3++[MO.lst ys]:Stor)=Z at *
   exact⟨[some E],⟨_,rfl⟩,by simp,by simp[sl]⟩)
 rw[List.map_map,show ((fun d=>match d with | .tup [a,b,_,_]=>D.tup [a,b] | _=>.non)∘encRl)=ownP from rfl]at c3
 generalize hS4:(S3++[MO.lst (RL.map ownP)]:Stor)=S4 at *
 have l4:S4.length=st.length+4:=by rw[<-hS4];simp[l3]
 have so2:=zht RL hl (st.length+3) S4 (by unfold itemsAt;rw[<-hS4,<-l3];simp)
 rw[l4]at so2
 generalize hS5:(S4++[MO.lst (srtd RL)]:Stor)=S5 at *
 have fl:=zk8 (srtd RL) fun d hd=>srtd_mem hd
 have heq:eqV 200 (.loc (st.length+2)) (.loc (st.length+4)) S5=.ok (.bl true) S5:=zhl S5 200 _ _ (srtd RL) (by unfold itemsAt;rw[<-hS5,<-hS4];rw[zb1 (zb1 at3)]) (by unfold itemsAt;rw[<-hS5,<-l4];simp) fl.1 (by omega)
 have hgc:gc st (.ok (.bl true) S5)=.ok (.bl true) st:=by
  rw[<-hS5,<-hS4,<-hS3,<-hS2,<-hS1,List.append_assoc,List.append_assoc,List.append_assoc,List.append_assoc]
  exact zeb (by simp)
 unfold zc6 gcF fnM zc4
 rw[show startM 6 [D.loc n,.loc k,.str signs,.int (top:Nat)]=[some (.loc n),some (.loc k),some (.str signs),some (.int (top:Nat)),none,none] from rfl]
 have tv:truV (.bl true) st=some true:=rfl
 rw[l1]at c2
 rw[l3]at c3
 generalize hC1:compE [none] (seqI (vr 0)) _ _ _=C1 at *
 generalize hC2:compE [some 3,some 2,none] _ _ _ _=C2 at *
 generalize hC3:compE [none] (seqI (vr 1)) _ _ _=C3 at *
 generalize ((A.length:Nat):Int)=AL at *
 generalize ((top:Nat):Int)=TP at *
 simp[fm,tv,c1,hset,hlen,c2,so,c3,so2,heq,hgc]
end Law
set_option maxHeartbeats 0
namespace Law
open L2 M
structure RW where
 s:Int
 c:Nat
 w:List Nat
 m:List Nat
 t:Int
noncomputable abbrev KY:=Int×Nat
noncomputable def RW.k (r:RW):KY:=(r.s,r.c)
noncomputable def enc (r:RW):D:=.tup [.int r.s,.str [r.c],.str r.w,.str r.m,.int r.t]
noncomputable def kk (k:KY):List Key:=[.inl k.1,.inr (strOf [k.2])]
theorem kk_inj {a b:KY}:kk a=kk b↔a=b:=by
 obtain⟨a1,a2⟩:=a
 obtain⟨b1,b2⟩:=b
 simp[kk,zg0]
noncomputable def kvsS (l:List KY):List (List Key×D):=l.map fun k=>(kk k,.bl true)
theorem valM_S (l:List KY)(k:KY):(valM (kvsS l) (kk k)).isSome=decide (k∈l):=by
 induction l with
 | nil=>rfl
 | cons j l ih =>
  show (valM ((kk j,.bl true)::kvsS l) (kk k)).isSome=_
  rw[zg4]
  by_cases h:j=k
  ·subst h;simp
  ·rw[if_neg (fun z=>h (kk_inj.mp z)),ih]
   have:¬ k=j:=fun z=>h z.symm
   simp[this]
theorem putM_S {l:List KY}{k:KY}(h:k∉l):putM (kvsS l) (kk k) (.bl true)=kvsS (l++[k]):=by
 unfold putM
 rw[if_neg]
 ·simp[kvsS]
 ·simp only[List.any_eq_true,decide_eq_true_eq,not_exists,not_and]
  intro p hp z
  obtain⟨j,hj,rfl⟩:=List.mem_map.mp hp
  exact h (kk_inj.mp z ▸ hj)
noncomputable def fdup (seen:List KY)(i:Nat):List KY->Option Nat
 | []=>none
 | k::r=>if k∈seen then some i else fdup (seen++[k]) (i+1) r
theorem in_S {st:Stor}{n:Nat}{l:List KY}(h:st[n]? = some (.dic (kvsS l)))(k:KY):inDV false (.tup [.int k.1,.str [k.2]]) (.loc n) st=.ok (.bl (decide (k∈l))) st:=by
 have:=valM_S l k
 unfold kk at this
 simp[inDV,h,this]
theorem set_S {st:Stor}{n:Nat}{l:List KY}(h:st[n]? = some (.dic (kvsS l)))(hl:l.length<1000000)(k:KY)(hk:k∉l):setDV (.loc n) (.tup [.int k.1,.str [k.2]]) (.bl true) st=.ok () (st.set n (.dic (kvsS (l++[k])))):=by
 have:=putM_S hk
 unfold kk at this
 have h2:(kvsS l).length<1000000:=by simpa[kvsS] using hl
 simp[setDV,h,this,h2]
theorem r_raise {c:String}{mA:MA}{env:MEnv}{st st1:Stor}{n:Int}(h:mA env st=.ok [.int n] st1)(hn:n.natAbs.log2<1920):raiseS c mA env st=.err ⟨c,.int n⟩ st1:=by
 unfold raiseS
 rw[h,R.bind_ok]
 dsimp only
 rw[if_pos hn]
section
variable (n:Nat)(ds:List D)(st:Stor)(hn:st[n]? = some (.lst ds))
include hn
theorem zjk (B:MS)(hB:B=(seqS (setS 4 (tupE (consA (op2 ixV (vr 3) (ct (.int 0))) (consA (op2 ixV (vr 3) (ct (.int 1))) nilA))))
  (seqS (ifS (tB1 (op2 (inDV false) (vr 4) (vr 1))) (raiseS "NoProgram" (consA (vr 2) nilA)) skipS)
  (asgS (ct (.bl true)) (subG setDV (vr 1) (vr 4)))))):∀(rs:List RW) (i:Nat) (seen:List KY) (a2 a3 a4:Option D),seen.length+rs.length<=900->i+rs.length<=900 ->
  (fdup seen i (rs.map RW.k)=none->∃env l,forGo (tupG 2 (consG (nameG 2) (consG (nameG 3) nilG))) B [(n,.lst ds)] (enumL i (rs.map enc)) [some (.loc n),some (.loc st.length),a2,a3,a4] (st++[.dic (kvsS seen)])=.ok (.nx env) (st++[.dic (kvsS l)])) /\
  (∀j,fdup seen i (rs.map RW.k)=some j->j<900/\∃l,forGo (tupG 2 (consG (nameG 2) (consG (nameG 3) nilG))) B [(n,.lst ds)] (enumL i (rs.map enc)) [some (.loc n),some (.loc st.length),a2,a3,a4] (st++[.dic (kvsS seen)])=.err ⟨"NoProgram",.int (j:Nat)⟩ (st++[.dic (kvsS l)]))
 | [],i,seen,a2,a3,a4,hl,hi=>by
  have ok:okG [(n,.lst ds)] (st++[.dic (kvsS seen)]):=by simp[zb1 hn]
  refine⟨fun _=>⟨[some (.loc n),some (.loc st.length),a2,a3,a4],seen,?_⟩,fun j h=>?_⟩
  ·rw[show enumL i (List.map enc [])=[] from rfl,forGo,if_pos ok]
  ·cases h
 | r::rs,i,seen,a2,a3,a4,hl,hi=>by
  have ok:okG [(n,.lst ds)] (st++[.dic (kvsS seen)]):=by simp[zb1 hn]
  have hd:(st++[MO.dic (kvsS seen)])[st.length]? = some (.dic (kvsS seen)):=by simp
  have h1:=in_S hd r.k
  have ih:=zjk B hB rs (i+1) (seen++[r.k]) (some (.int (i:Nat))) (some (enc r)) (some (.tup [.int r.s,.str [r.c]])) (by simp at hl ⊢;omega) (by simp at hi;omega)
  have x0:∀s,ixV (enc r) (.int 0) s=.ok (.int r.s) s:=fun s=>zb7 _ _ _ _ rfl
  have x1:∀s,ixV (enc r) (.int 1) s=.ok (.str [r.c]) s:=fun s=>zb7 _ _ _ _ rfl
  have eG:tupG 2 (consG (nameG 2) (consG (nameG 3) nilG)) (.tup [.int (i:Nat),enc r]) [some (.loc n),some (.loc st.length),a2,a3,a4] (st++[.dic (kvsS seen)])=.ok [some (.loc n),some (.loc st.length),some (.int (i:Nat)),some (enc r),a4] (st++[.dic (kvsS seen)]):=by rfl
  rw[show enumL i (List.map enc (r::rs))=.tup [.int (i:Nat),enc r]::enumL (i+1) (rs.map enc) from rfl,forGo,if_pos ok,eG,R.bind_ok]
  by_cases hk:r.k∈seen
  ·have hf:fdup seen i ((r::rs).map RW.k)=some i:=by rw[List.map_cons,fdup,if_pos hk]
   have hlog:((i:Nat):Int).natAbs.log2<1920:=by
    have:i<2 ^ 1920:=Nat.lt_of_lt_of_le (by simp at hi;omega:i<2 ^ 10) (Nat.pow_le_pow_right (by decide) (by decide))
    by_cases z:i=0
    ·subst z;decide
    ·exact (Nat.log2_lt z).mpr this
   refine⟨fun h=>(by rw[hf]at h;cases h),fun j h=>?_⟩
   rw[hf]at h
   obtain rfl:=Option.some.inj h
   refine⟨by simp at hi;omega,seen,?_⟩
   rw[decide_eq_true hk]at h1
   have eB:B [some (.loc n),some (.loc st.length),some (.int (i:Nat)),some (enc r),a4] (st++[.dic (kvsS seen)])=.err ⟨"NoProgram",.int (i:Nat)⟩ (st++[.dic (kvsS seen)]):=by
    rw[hB]
    clear ih hB
    have hR:=r_raise (c:="NoProgram") (mA:=consA (vr 2) nilA) (env:=[some (.loc n),some (.loc st.length),some (.int (i:Nat)),some (enc r),some (.tup [.int r.s,.str [r.c]])]) (st:=st++[.dic (kvsS seen)]) (st1:=st++[.dic (kvsS seen)]) (n:=(i:Nat)) rfl hlog
    generalize raiseS "NoProgram" (consA (vr 2) nilA)=RZ at *
    generalize (⟨"NoProgram",.int (i:Nat)⟩:Xc)=XX at *
    generalize st++[MO.dic (kvsS seen)]=Z at *
    generalize enc r=ER at *
    have h1':inDV false (.tup [.int r.s,.str [r.c]]) (.loc st.length) Z=.ok (.bl true) Z:=h1
    simp[x0,x1,h1',hR]
   rw[eB];rfl
  ·have hf:fdup seen i ((r::rs).map RW.k)=fdup (seen++[r.k]) (i+1) (rs.map RW.k):=by rw[List.map_cons,fdup,if_neg hk]
   rw[hf]
   rw[decide_eq_false hk]at h1
   have h2:=set_S hd (by simp at hl;omega) r.k hk
   rw[show (st++[MO.dic (kvsS seen)]).set st.length (.dic (kvsS (seen++[r.k])))=st++[.dic (kvsS (seen++[r.k]))] by simp]at h2
   have eB:B [some (.loc n),some (.loc st.length),some (.int (i:Nat)),some (enc r),a4] (st++[.dic (kvsS seen)])=.ok (.nx [some (.loc n),some (.loc st.length),some (.int (i:Nat)),some (enc r),some (.tup [.int r.s,.str [r.c]])]) (st++[.dic (kvsS (seen++[r.k]))]):=by
    rw[hB]
    clear ih hB
    generalize raiseS "NoProgram" (consA (vr 2) nilA)=RZ at *
    generalize st++[MO.dic (kvsS seen)]=Z at *
    generalize st++[MO.dic (kvsS (seen++[r.k]))]=Z2 at *
    generalize enc r=ER at *
    have h1':inDV false (.tup [.int r.s,.str [r.c]]) (.loc st.length) Z=.ok (.bl false) Z:=h1
    have h2':setDV (.loc st.length) (.tup [.int r.s,.str [r.c]]) (.bl true) Z=.ok () Z2:=h2
    simp[x0,x1,h1',h2']
   rw[eB]
   exact ih
end
end Law
namespace Law
open L2 M
theorem gcX_ok {st g:Stor}{d:D}(h:under st.length d):gcX st (.ok d (st++g))=.ok d st:=by
 show gc st (.ok d (st++g))=_
 exact zeb h
theorem gcX_err {st g:Stor}{x:Xc}(h:under st.length x.fld):gcX st (.err x (st++g))=.err x st:=by
 unfold gcX
 dsimp only
 rw[if_pos ⟨by simp,h⟩]
noncomputable def dup (rs:List RW):Option Nat:=fdup [] 0 (rs.map RW.k)
theorem lstG_app {st g:Stor}{n:Nat}{ds:List D}(h:st[n]? = some (.lst ds)):lstG (st++g) n=some (ds,.lst ds):=by
 unfold lstG;rw[zb1 h]
noncomputable def resX (rs:List RW)(st:Stor):R D:=match dup rs with
 | none=>.ok (.bl true) st
 | some j=>.err ⟨"NoProgram",.int (j:Nat)⟩ st
theorem look_ok (n:Nat)(rs:List RW)(st:Stor)(hn:st[n]? = some (.lst (rs.map enc)))(hl:rs.length<=900):zbw [.loc n] st=resX rs st/\∀j,dup rs=some j->j<900:=by
 unfold zbw gcFX fnM zbd
 generalize hB:(seqS (setS 4 (tupE (consA (op2 ixV (vr 3) (ct (.int 0))) (consA (op2 ixV (vr 3) (ct (.int 1))) nilA)))) _:MS)=B
 obtain⟨k1,k2⟩:=zjk n (rs.map enc) st hn B hB.symm rs 0 [] none none none (by simpa using hl) (by simpa using hl)
 have hL:=lstG_app (g:=[.dic (kvsS [])]) hn
 refine⟨?_,fun j h=>(k2 j h).1⟩
 rw[show startM 5 [D.loc n]=[some (.loc n),none,none,none,none] from rfl]
 unfold resX dup
 have hdE:setS 1 dicE [some (.loc n),none,none,none,none] st=.ok (.nx [some (.loc n),some (.loc st.length),none,none,none]) (st++[.dic (kvsS [])]):=by simp[dicE,kvsS]
 cases hf:fdup [] 0 (rs.map RW.k) with
 | none =>
  obtain⟨env,l,e1⟩:=k1 hf
  have gg:=gcX_ok (st:=st) (g:=[.dic (kvsS l)]) (d:=.bl true) (by simp)
  generalize hS1:st++[MO.dic (kvsS [])]=Z1 at *
  generalize hS2:st++[MO.dic (kvsS l)]=Z2 at *
  generalize hG:setS 1 dicE=S1 at *
  simp[hdE,hL,e1]
  exact gg
 | some j =>
  obtain⟨_,l,e1⟩:=k2 j hf
  have gg:=gcX_err (st:=st) (g:=[.dic (kvsS l)]) (x:=⟨"NoProgram",.int (j:Nat)⟩) (by simp)
  dsimp only
  generalize (⟨"NoProgram",.int (j:Nat)⟩:Xc)=XX at *
  generalize hS1:st++[MO.dic (kvsS [])]=Z1 at *
  generalize hS2:st++[MO.dic (kvsS l)]=Z2 at *
  generalize hG:setS 1 dicE=S1 at *
  simp[hdE,hL,e1]
  exact gg
theorem zfm (n:Nat)(rs:List RW)(st:Stor)(hn:st[n]? = some (.lst (rs.map enc)))(hl:rs.length<=900):zbz [.loc n] st=resX rs st:=by
 have h1:=(look_ok n rs st hn hl).1
 unfold zbz gcFX fnM zbx callX
 rw[show startM 1 [D.loc n]=[some (.loc n)] from rfl]
 unfold resX at *
 cases hf:dup rs with
 | none =>
  rw[hf]at h1
  have gg:=gcX_ok (st:=st) (g:=[]) (d:=.bl true) (by simp)
  rw[List.append_nil]at gg
  simp[h1]
  exact gg
 | some j =>
  rw[hf]at h1
  have gg:=gcX_err (st:=st) (g:=[]) (x:=⟨"NoProgram",.int (j:Nat)⟩) (by simp)
  rw[List.append_nil]at gg
  dsimp only at h1 ⊢
  generalize (⟨"NoProgram",.int (j:Nat)⟩:Xc)=XX at *
  simp[h1]
  exact gg
end Law
set_option maxHeartbeats 0
namespace Law
open L2 M TK TS
theorem zjb:∀(ks seen:List KY) (i:Nat),(seen++ks).Nodup->fdup seen i ks=none
 | [],_,_,_=>rfl
 | k::ks,seen,i,h=>by
  unfold fdup
  have hk:k∉seen:=by
   rw[List.nodup_append]at h
   exact fun z=>h.2.2 k z k (by simp) rfl
  rw[if_neg hk]
  exact zjb ks (seen++[k]) (i+1) (by simpa using h)
theorem zis:∀(ks seen:List KY) (i:Nat) (k:KY),(seen++ks).Nodup->k∈seen++ks->fdup seen i (ks++[k])=some (i+ks.length)
 | [],seen,i,k,_,hk=>by
  rw[List.append_nil]at hk
  simp[fdup,hk]
 | j::ks,seen,i,k,h,hk=>by
  rw[List.cons_append]
  unfold fdup
  have hj:j∉seen:=by
   rw[List.nodup_append]at h
   exact fun z=>h.2.2 j z j (by simp) rfl
  rw[if_neg hj,zis ks (seen++[j]) (i+1) k (by simpa using h) (by simpa using hk),List.length_cons]
  congr 1;omega
noncomputable def rwT (f:Nat)(ks:List TK)(q:TQ):RW:=⟨(numT f ks q.s:Nat),q.x,[q.w],[mvC q.mv],(numT f ks q.g:Nat)⟩
theorem keys_nd {f:Nat}{ks:List TK}{l:List TQ}(h:l.Pairwise unT)(hin:∀q∈l,inRT ks q)(hp:∀q∈l,∀n,q.s=tp n->n<f):((l.map (rwT f ks)).map RW.k).Nodup:=by
 rw[List.map_map]
 unfold List.Nodup
 rw[List.pairwise_map]
 refine List.Pairwise.imp_of_mem ?_ h
 intro a b ha hb hne e
 have e:(((numT f ks a.s:Nat):Int),a.x)=(((numT f ks b.s:Nat):Int),b.x):=e
 injection e with e1 e2
 have e3:=zkb (hin a ha).1 (hin b hb).1 (hp a ha) (hp b hb) (by omega)
 exact hne (by unfold KT;rw[e3,e2])
end Law
set_option maxHeartbeats 0
namespace Law
open L2 M TK TS
theorem zg1 (f:Nat)(ks:List TK):∀l:List TQ,flats (l.map (encT f ks))=true/\deps (l.map (encT f ks))<=1
 | []=>⟨rfl,by simp⟩
 | q::l=>by
  obtain⟨h1,h2⟩:=zg1 f ks l
  refine⟨by rw[List.map_cons,zdk,h1];simp[encT],?_⟩
  rw[List.map_cons,zgn]
  have:dep (encT f ks q)=1:=by simp[encT]
  omega
theorem eqE (f:Nat)(ks:List TK)(K:List TQ)(s:Stor)(a b:Nat)(h1:itemsAt s a=some (K.map (encT f ks)))(h2:itemsAt s b=some []):eqV 200 (.loc a) (.loc b) s=.ok (.bl K.isEmpty) s:=by
 have hc:cdeps (K.map (encT f ks)) []=0:=by cases K<;>simp[cdeps]
 simp only[M.eqV,eqR,h1,h2]
 rw[if_pos ⟨(zg1 f ks K).1,rfl,by rw[hc];decide⟩]
 cases K with
 | nil=>rfl
 | cons r K=>simp[eqDs]
theorem pick_at (f:Nat)(ks:List TK)(K:List TQ)(hK:0<K.length)(c:Int)(s:Stor)(n:Nat)(h:itemsAt s n=some (K.map (encT f ks))):∃q∈K,ixV (.loc n) (.int (c % (K.length:Nat))) s=.ok (encT f ks q) s:=by
 obtain⟨j,hj⟩:∃j:Nat,c % (K.length:Nat)=(j:Nat):=Int.eq_ofNat_of_zero_le (Int.emod_nonneg _ (by omega))
 have hlt:j<K.length:=by have:=Int.emod_lt_of_pos c (show (0:Int)<(K.length:Nat) by omega);omega
 refine⟨K[j],List.getElem_mem hlt,?_⟩
 rw[hj]
 refine zcq s n _ (K.map (encT f ks)) _ h ?_
 rw[zcm,List.getElem?_map,List.getElem?_eq_getElem hlt]
 rfl
theorem looked_ok (f:Nat)(ks:List TK)(A:List TQ)(n:Nat)(c:Int)(st:Stor)(hn:st[n]? = some (.lst (A.map (encT f ks))))(hA:A.length<=800)(hk:((A.map (rwT f ks)).map RW.k).Nodup):zde [.loc n,.int c] st=.ok (.bl true) st:=by
 have eR:A.map (encT f ks)=(A.map (rwT f ks)).map enc:=by rw[List.map_map];rfl
 have it0:∀g,itemsAt (st++g) n=some (A.map (encT f ks)):=fun g=>by unfold itemsAt;rw[zb1 hn]
 have lc1:=zfk st n (A.map (encT f ks)) (by simpa using it0 [])
 generalize hS1:(st++[MO.lst (A.map (encT f ks))]:Stor)=S1 at *
 have l1:S1.length=st.length+1:=by rw[<-hS1];simp
 have tl1:=zfm st.length (A.map (rwT f ks)) S1 (by rw[<-hS1,<-eR];simp) (by rw[List.length_map];omega)
 have d1:dup (A.map (rwT f ks))=none:=zjb _ [] 0 (by simpa using hk)
 unfold resX at tl1
 rw[d1]at tl1
 dsimp only at tl1
 have eE:=eqE f ks A (S1++[.lst []]) n (st.length+1) (by rw[<-hS1,List.append_assoc];exact it0 _) (by unfold itemsAt;rw[<-l1];simp)
 unfold zde gcF fnM zdh
 rw[show startM 5 [D.loc n,.int c]=[some (.loc n),some (.int c),none,none,none] from rfl]
 generalize hT:tryS none 4 3 zbz [] _ exCls=TR
 have hlen:∀g,lenW [.loc n] (st++g)=.ok (.int (A.length:Nat)) (st++g):=fun g=>by
  have:=zgd (st:=st++g) (n:=n) (it0 g)
  rwa[List.length_map]at this
 have b1:∀s,isV "bool" (.bl true) s=.ok (.bl true) s:=fun s=>rfl
 have tv:∀s,truV (.bl true) s=some true:=fun s=>rfl
 have le1:∀env,lstE nilA env S1=.ok (.loc (st.length+1)) (S1++[.lst []]):=fun env=>by simp[l1]
 generalize hS2:(S1++[MO.lst []]:Stor)=S2 at *
 have l2:S2.length=st.length+2:=by rw[<-hS2];simp[l1]
 have g2:∃g,S2=st++g:=⟨[.lst (A.map (encT f ks)),.lst []],by rw[<-hS2,<-hS1];simp⟩
 by_cases hE:A=[]
 ·have gg:gc st (.ok (.bl true) S2)=.ok (.bl true) st:=by
   obtain⟨g,e⟩:=g2
   rw[e];exact zeb (by simp)
  have e3:A.isEmpty=true:=by rw[hE];rfl
  rw[e3]at eE
  generalize hLN:lstE nilA=LN at *
  simp[callX,lc1,tl1,b1,tv,le1,eE,gg]
 ·have hpos:0<A.length:=List.length_pos_iff.mpr hE
  have e3:A.isEmpty=false:=by cases A with | nil=>exact absurd rfl hE | cons x xs=>rfl
  rw[e3]at eE
  obtain⟨g,eg⟩:=g2
  have lc3:=zfk S2 n (A.map (encT f ks)) (by rw[eg];exact it0 g)
  obtain⟨q,hq,hix⟩:=pick_at f ks A hpos c (S2++[.lst (A.map (encT f ks))]) n (by rw[eg,List.append_assoc];exact it0 _)
  have hl3:lenW [.loc n] (S2++[.lst (A.map (encT f ks))])=.ok (.int (A.length:Nat)) (S2++[.lst (A.map (encT f ks))]):=by rw[eg,List.append_assoc];exact hlen _
  generalize hS3:(S2++[MO.lst (A.map (encT f ks))]:Stor)=S3 at *
  have l3:S3.length=st.length+3:=by rw[<-hS3];simp[l2]
  have at3:S3[st.length+2]? = some (.lst (A.map (encT f ks))):=by rw[<-hS3,<-l2];simp
  have le3:∀(mA:MA) (env:MEnv),mA env S3=.ok [encT f ks q] S3->lstE mA env S3=.ok (.loc (st.length+3)) (S3++[.lst [encT f ks q]]):=fun mA env h=>by simp[h,l3]
  have hmd:modV (.int c) (.int (A.length:Nat)) S3=.ok (.int (c % (A.length:Nat))) S3:=zao S3 c _ (by omega)
  have ad:addV (.loc (st.length+2)) (.loc (st.length+3)) (S3++[.lst [encT f ks q]])=.ok (.loc (st.length+4)) (S3++[.lst [encT f ks q]]++[.lst (A.map (encT f ks)++[encT f ks q])]):=by
   have i1:(S3++[MO.lst [encT f ks q]])[st.length+2]? = some (.lst (A.map (encT f ks))):=zb1 at3
   have i2:(S3++[MO.lst [encT f ks q]])[st.length+3]? = some (.lst [encT f ks q]):=by rw[<-l3];simp
   have ll:(S3++[MO.lst [encT f ks q]]).length=st.length+4:=by simp[l3]
   simp only[addV,i1,i2,ll]
   rw[if_pos (by simp;omega)]
  generalize hS4:(S3++[MO.lst [encT f ks q]]:Stor)=S4 at *
  have l4:S4.length=st.length+4:=by rw[<-hS4];simp[l3]
  generalize hS5:(S4++[MO.lst (A.map (encT f ks)++[encT f ks q])]:Stor)=S5 at *
  have l5:S5.length=st.length+5:=by rw[<-hS5];simp[l4]
  have tl2:=zfm (st.length+4) (A.map (rwT f ks)++[rwT f ks q]) S5 (by rw[<-hS5,<-l4,List.map_append,<-eR];simp;rfl) (by rw[List.length_append,List.length_map];simp;omega)
  have d2:dup (A.map (rwT f ks)++[rwT f ks q])=some A.length:=by
   unfold dup
   rw[List.map_append]
   have:=zis ((A.map (rwT f ks)).map RW.k) [] 0 (rwT f ks q).k (by simpa using hk) (by simp only[List.nil_append];exact List.mem_map.mpr ⟨_,List.mem_map.mpr ⟨q,hq,rfl⟩,rfl⟩)
   rw[List.length_map,List.length_map,Nat.zero_add]at this
   exact this
  unfold resX at tl2
  rw[d2]at tl2
  dsimp only at tl2
  have eT:TR [some (.loc n),some (.int c),some (.bl true),some .non,none] S2=.ok (.nx [some (.loc n),some (.int c),some (.bl true),some (.loc (st.length+5)),none]) (S5++[.exc "NoProgram" (.int (A.length:Nat))]):=by
   rw[<-hT,<-l5]
   have hM:(consA (op2 addV (callE listC (consA (vr 0) nilA)) (lstE (consA (op2 ixV (vr 0) (op2 modV (vr 1) (callE lenW (consA (vr 0) nilA)))) nilA))) nilA:MA) [some (.loc n),some (.int c),some (.bl true),some .non,none] S2=.ok [.loc (st.length+4)] S5:=by
    have q1:=le3 (consA (op2 ixV (vr 0) (op2 modV (vr 1) (callE lenW (consA (vr 0) nilA)))) nilA) [some (.loc n),some (.int c),some (.bl true),some .non,none] (by simp[hl3,hmd,hix])
    rw[l2]at lc3
    generalize lstE _=LL at *
    simp[lc3,q1,ad]
   unfold tryS
   generalize (consA (op2 addV _ _) nilA:MA)=MM at *
   simp only[hM,R.bind_ok,List.append_nil,tl2]
   rfl
  have hx:(S5++[MO.exc "NoProgram" (.int (A.length:Nat))])[st.length+5]? = some (.exc "NoProgram" (.int (A.length:Nat))):=by rw[<-l5];simp
  have gS:∃g,S5++[MO.exc "NoProgram" (.int (A.length:Nat))]=st++g:=⟨g++[.lst (A.map (encT f ks))]++[.lst [encT f ks q]]++[.lst (A.map (encT f ks)++[encT f ks q])]++[.exc "NoProgram" (.int (A.length:Nat))],by rw[<-hS5,<-hS4,<-hS3,eg];simp⟩
  have hl6:lenW [.loc n] (S5++[MO.exc "NoProgram" (.int (A.length:Nat))])=.ok (.int (A.length:Nat)) (S5++[MO.exc "NoProgram" (.int (A.length:Nat))]):=by
   obtain⟨g',e'⟩:=gS
   rw[e'];exact hlen _
  have gg:gc st (.ok (.bl true) (S5++[MO.exc "NoProgram" (.int (A.length:Nat))]))=.ok (.bl true) st:=by
   obtain⟨g',e'⟩:=gS
   rw[e'];exact zeb (by simp)
  generalize hS6:(S5++[MO.exc "NoProgram" (.int (A.length:Nat))]:Stor)=S6 at *
  have iP:isXV "NoProgram" (.loc (st.length+5)) S6=.ok (.bl true) S6:=by unfold isXV;dsimp only;rw[hx];rfl
  have aV:atV (.loc (st.length+5)) S6=.ok (.int (A.length:Nat)) S6:=by unfold atV;dsimp only;rw[hx];rfl
  have wh:=zim ((A.length:Nat):Int) S6
  generalize hLN:lstE nilA=LN at *
  generalize hX1:isXV "NoProgram" = X1 at *
  generalize hX4:atV=X4 at *
  generalize ((A.length:Nat):Int)=J at *
  simp[callX,lc1,tl1,b1,tv,le1,eE,eT,iP,aV,wh,hl6,gg]
end Law
set_option maxHeartbeats 0
namespace Law
open L2 M TK TS
noncomputable def cellI (ns:List Int)(k:Nat):Int :=
 if k<ns.length then ns.getD k 0
 else if 0<ns.length then ((ns.getD (k*7 % ns.length) 0*48271+k*7919) % 2147483647)*((ns.getD (k*7 % ns.length) 0*48271+k*7919) % 2147483647) % 2147483629
 else ((k:Int)*7919+5)*(k*7919+5) % 2147483629
theorem zfo (ns:List Int)(n k:Nat)(st:Stor)(h:itemsAt st n=some (ns.map D.int))(hk:k<=10000):zcd [.loc n,.int k] st=.ok (.int (cellI ns k)) st:=by
 unfold zcd gcF fnM zcg cellI
 have hln:=zgd h
 rw[List.length_map]at hln
 by_cases h1:k<ns.length
 ·simp[startM,hln,h1,zcq st n k _ (.int (ns.getD k 0)) h (by rw[zcm];simp[h1]),zhj]
 ·by_cases h2:0<ns.length
  ·have e1:(k:Int)*7 % (ns.length:Int)=((k*7 % ns.length:Nat):Int):=by simp
   have hj:k*7 % ns.length<ns.length:=Nat.mod_lt _ h2
   have e2:atI (ns.map D.int) ((k:Int)*7 % (ns.length:Int))=some (.int (ns.getD (k*7 % ns.length) 0)):=by rw[e1,zcm];simp[hj]
   have m1:∀s,mulV (.int k) (.int 7919) s=.ok (.int (k*7919)) s:=fun s=>zcl s k 7919 (by omega)
   have m2:∀s,mulV (.int k) (.int 7) s=.ok (.int (k*7)) s:=fun s=>zcl s k 7 (by omega)
   have m3:∀s i,mulV (.int i) (.int 48271) s=.ok (.int (i*48271)) s:=fun s i=>zcl s i 48271 (by omega)
   have g1:∀s i,modV (.int i) (.int (ns.length:Int)) s=.ok (.int (i % (ns.length:Int))) s:=fun s i=>zao s i _ (by omega)
   have i1:ixV (.loc n) (.int ((k:Int)*7 % (ns.length:Int))) st=.ok (.int (ns.getD (k*7 % ns.length) 0)) st:=zcq st n _ _ _ h e2
   generalize ns.getD (k*7 % ns.length) 0=x at i1 e2 ⊢
   have mm:∀s,mulV (.int ((x*48271+(k:Int)*7919) % 2147483647)) (.int ((x*48271+(k:Int)*7919) % 2147483647)) s=.ok (.int ((x*48271+(k:Int)*7919) % 2147483647*((x*48271+(k:Int)*7919) % 2147483647))) s:=fun s=>zcl s _ _ (by omega)
   simp[startM,hln,h1,h2,m1,m2,m3,g1,i1,zao,mm,zhj]
  ·have m1:∀s,mulV (.int k) (.int 7919) s=.ok (.int (k*7919)) s:=fun s=>zcl s k 7919 (by omega)
   have mm:∀s,mulV (.int ((k:Int)*7919+5)) (.int ((k:Int)*7919+5)) s=.ok (.int (((k:Int)*7919+5)*((k:Int)*7919+5))) s:=fun s=>zcl s _ _ (by omega)
   simp[startM,hln,h1,h2,m1,zao,mm,zhj]
theorem zfr (cs:List Nat)(st:Stor)(h:cs.length<=1000000):lenW [.str cs] st=.ok (.int (cs.length:Nat)) st:=by show lenV [.str cs] st=_;exact r_len_str st cs h
theorem text_ok (c:Int)(m:Nat)(signs:List Nat)(st:Stor)(hs:0<signs.length)(hs2:signs.length<=1000)(hm:m<=1000):∃t:List Nat,t.length=m/\(∀x∈t,x∈signs)/\zcn [.int c,.int m,.str signs] st=.ok (.str t) st:=by
 unfold zcn gcF fnM zb5
 generalize hb:(ifS (tB1 (op2 (eqV 200) (op2 modV (vr 0) (ct (.int 2))) (ct (.int 1)))) _ _:MS)=body
 obtain⟨env',st',h1,t,num,a5,h3,h4,rfl,rfl⟩:=zb9 (g:=nameG 5) (b:=body) (gs:=[]) (items:=upto 0 m)
  (fun i env s=>∃(t:List Nat) (num:Int) (a5:Option D),t.length=i/\(∀x∈t,x∈signs)/\env=[some (.int c),some (.int m),some (.str signs),some (.str t),some (.int num),a5]/\s=st)
  (env:=[some (.int c),some (.int m),some (.str signs),some (.str []),some (.int (c / 2)),none]) (st:=st) ⟨[],c / 2,none,rfl,fun x hx=>absurd hx (List.not_mem_nil),rfl,rfl⟩ (by
  rintro i d env s hi ⟨t,num,a5,h1,h2,rfl,rfl⟩
  obtain⟨hp,rfl⟩:=zfu hi
  have g1:∀s i,modV (.int i) (.int (signs.length:Int)) s=.ok (.int (i % (signs.length:Int))) s:=fun s i=>zao s i _ (by omega)
  have f1:∀s i,fdivV (.int i) (.int (signs.length:Int)) s=.ok (.int (i / (signs.length:Int))) s:=fun s i=>za0 s i _ (by omega)
  have l1:∀s,lenW [.str signs] s=.ok (.int signs.length) s:=fun s=>zfr signs s (by omega)
  have m1:∀s,mulV (.int num) (.int 48271) s=.ok (.int (num*48271)) s:=fun s=>zcl s _ _ (by omega)
  have m2:∀s,mulV (.int 7919) (.int (i:Int)) s=.ok (.int (7919*(i:Int))) s:=fun s=>zcl s _ _ (by omega)
  have x2:∀s a,addV (.str t) (.str [a]) s=.ok (.str (t++[a])) s:=fun s a=>zgq s _ _ (by simp;omega)
  have mem:∀a,a∈signs->∀x∈t++[a],x∈signs:=fun a ha x hx=>by
   rcases List.mem_append.mp hx with hx | hx
   ·exact h2 x hx
   ·obtain rfl:x=a:=by simpa using hx
    exact ha
  by_cases hc:c % 2=1
  ·obtain⟨j,hj,e1,e2⟩:=zi0 signs ((num*48271+7919*(i:Int)+11) % 2147483647 / 64) hs
   have x1:∀s,ixV (.str signs) (.int ((num*48271+7919*(i:Int)+11) % 2147483647 / 64 % (signs.length:Int))) s=.ok (.str [signs[j]]) s:=fun s=>zfn s _ _ _ (by omega) e2
   refine⟨by simp,_,_,rfl,[some (.int c),some (.int m),some (.str signs),some (.str (t++[signs[j]])),some (.int ((num*48271+7919*(i:Int)+11) % 2147483647)),some (.int (0+(i:Nat)))],s,.inl ?_,_,_,_,by simp[h1],mem _ (List.getElem_mem hj),rfl,rfl⟩
   rw[<-hb]
   simp[zao,za0,hc,m1,m2,l1,g1,x1,x2]
  ·obtain⟨j,hj,e1,e2⟩:=zi0 signs num hs
   have x1:∀s,ixV (.str signs) (.int (num % (signs.length:Int))) s=.ok (.str [signs[j]]) s:=fun s=>zfn s _ _ _ (by omega) e2
   refine⟨by simp,_,_,rfl,[some (.int c),some (.int m),some (.str signs),some (.str (t++[signs[j]])),some (.int (num / (signs.length:Int))),some (.int (0+(i:Nat)))],s,.inl ?_,_,_,_,by simp[h1],mem _ (List.getElem_mem hj),rfl,rfl⟩
   rw[<-hb]
   simp[zao,hc,l1,g1,f1,x1,x2]) (fun _ _ _=>by simp)
 rw[zel]at h3
 refine⟨t,h3,h4,?_⟩
 have hr1:-4611686018427387904<=(m:Int):=by omega
 have hr2:(m:Int)<4611686018427387904:=by omega
 rw[show startM 6 [D.int c,D.int (m:Int),D.str signs]=[some (.int c),some (.int m),some (.str signs),none,none,none] from rfl]
 simp[za0,hr1,hr2,h1,zhj]
noncomputable def abcL:List Nat:=[97,98,99,100,101,102,103,104,105,106,107,108,109,110,111,112,113,114,115,116,117,118,119,120,121,122]
theorem zil (w:List Nat)(k:Nat)(h:k<=w.length):cut w none (some (k:Nat))=w.take k:=by
 unfold cut
 rw[HT.zix,HT.zfs,Nat.min_eq_left h]
 simp
theorem zjo (ns:List Int)(n:Nat)(st:Stor)(h:itemsAt st n=some (ns.map D.int)):∃t:List Nat,0<t.length/\t.length<=4/\t.Nodup/\(∀x∈t,x∈abcL)/\zc5 [.loc n] st=.ok (.str t) st:=by
 have c1:=zfo ns n 0 st h (by omega)
 rw[show ((0:Nat):Int)=0 from rfl]at c1
 generalize cellI ns 0=c at c1
 obtain⟨m,hm⟩:=Int.eq_ofNat_of_zero_le (show 0<=1+c % 4 by omega)
 have hm1:1<=m:=by omega
 have hm2:m<=4:=by omega
 unfold zc5 gcF fnM zcr
 rw[show ([97,98,99,100,101,102,103,104,105,106,107,108,109,110,111,112,113,114,115,116,117,118,119,120,121,122]:List Nat)=abcL from rfl]
 have hal:abcL.length=26:=rfl
 have hand:abcL.Nodup:=by decide
 generalize hb:(seqS (setS 6 _) _:MS)=body
 obtain⟨env',st',h1,t,rest,num,a5,a6,k1,k2,k3,k4,rfl,rfl⟩:=zb9 (g:=nameG 5) (b:=body) (gs:=[]) (items:=upto 0 m)
  (fun i env s=>∃(t rest:List Nat) (num:Int) (a5 a6:Option D),t.length=i/\rest.length+i=26/\(t++rest).Nodup/\(∀x∈t++rest,x∈abcL)/\env=[some (.loc n),some (.str rest),some (.int c),some (.int num),some (.str t),a5,a6]/\s=st)
  (env:=[some (.loc n),some (.str abcL),some (.int c),some (.int (c / 4)),some (.str []),none,none]) (st:=st) ⟨[],abcL,c / 4,none,none,rfl,hal,hand,fun x hx=>hx,rfl,rfl⟩ (by
   rintro i d env s hi ⟨t,rest,num,a5,a6,k1,k2,k3,k4,rfl,rfl⟩
   obtain⟨hp,rfl⟩:=zfu hi
   have hrl:0<rest.length:=by omega
   have g1:∀s i,modV (.int i) (.int (rest.length:Int)) s=.ok (.int (i % (rest.length:Int))) s:=fun s i=>zao s i _ (by omega)
   have f1:∀s i,fdivV (.int i) (.int (rest.length:Int)) s=.ok (.int (i / (rest.length:Int))) s:=fun s i=>za0 s i _ (by omega)
   have l1:∀s,lenW [.str rest] s=.ok (.int rest.length) s:=fun s=>zfr rest s (by omega)
   obtain⟨j,hj,e1,e2⟩:=zi0 rest num hrl
   have x1:∀s,ixV (.str rest) (.int (num % (rest.length:Int))) s=.ok (.str [rest[j]]) s:=fun s=>zfn s _ _ _ (by omega) e2
   have x2:∀s a,addV (.str t) (.str [a]) s=.ok (.str (t++[a])) s:=fun s a=>zgq s _ _ (by simp;omega)
   have x3:∀s,slV (.str rest) none (some (num % (rest.length:Int))) s=.ok (.str (rest.take j)) s:=fun s=>by rw[zdw _ _ _ _ (by omega),e1,zil rest j (by omega)]
   have x4:∀s,slV (.str rest) (some (num % (rest.length:Int)+1)) none s=.ok (.str (rest.drop (j+1))) s:=fun s=>by rw[zdw _ _ _ _ (by omega),e1,show ((j:Nat):Int)+1=((j+1:Nat):Int) by omega,zfd rest (j+1) (by omega)]
   have x5:∀s,addV (.str (rest.take j)) (.str (rest.drop (j+1))) s=.ok (.str (rest.take j++rest.drop (j+1))) s:=fun s=>zgq s _ _ (by rw[List.length_take,List.length_drop];omega)
   have er:rest=rest.take j++rest[j]::rest.drop (j+1):=by rw[List.getElem_cons_drop];exact (List.take_append_drop j rest).symm
   have pm:(t++[rest[j]]++(rest.take j++rest.drop (j+1))).Perm (t++rest):=by
    rw[List.append_assoc]
    refine List.Perm.append_left t ?_
    conv=>rhs;rw[er]
    exact (List.perm_middle (a:=rest[j]) (l₁:=rest.take j) (l₂:=rest.drop (j+1))).symm
   refine⟨by simp,_,_,rfl,[some (.loc n),some (.str (rest.take j++rest.drop (j+1))),some (.int c),some (.int (num / (rest.length:Int))),some (.str (t++[rest[j]])),some (.int (0+(i:Nat))),some (.int (num % (rest.length:Int)))],s,.inl ?_,_,_,_,_,_,by simp[k1],by rw[List.length_append,List.length_take,List.length_drop];omega,pm.nodup_iff.mpr k3,fun x hx=>k4 x (pm.mem_iff.mp hx),rfl,rfl⟩
   rw[<-hb]
   generalize rest.take j++rest.drop (j+1)=R2 at *
   generalize rest.take j=R3 at *
   generalize rest.drop (j+1)=R4 at *
   generalize rest[j]=RJ at *
   generalize hNM:num % (rest.length:Int)=NM at *
   have g2:∀s,modV (.int num) (.int (rest.length:Int)) s=.ok (.int NM) s:=fun s=>by rw[g1,hNM]
   simp[l1,g2,f1,x1,x2,x3,x4,x5]) (fun _ _ _=>by simp)
 rw[zel]at k1 k2
 refine⟨t,by omega,by omega,(List.nodup_append.mp k3).1,fun x hx=>k4 x (List.mem_append_left _ hx),?_⟩
 have hr1:-4611686018427387904<=(m:Int):=by omega
 have hr2:(m:Int)<4611686018427387904:=by omega
 rw[show startM 7 [D.loc n]=[some (.loc n),none,none,none,none,none,none] from rfl]
 simp[c1,za0,zao,hm,hr1,hr2,h1,zhj]
end Law
set_option maxHeartbeats 0
namespace Law
open L2 M TK TS
theorem nd_lt {ss:List Nat}(h:ss.Pairwise (· < ·)){x:Nat}(hx:∀y∈ss,y<x):(ss++[x]).Pairwise (· < ·):=by
 rw[List.pairwise_append]
 exact⟨h,by simp,fun a ha b hb=>by rw[List.mem_singleton.mp hb];exact hx a ha⟩
theorem states_ok (ns:List Int)(n:Nat)(st:Stor)(h:itemsAt st n=some (ns.map D.int)) :
  ∃ss:List Nat,0<ss.length/\ss.length<=5/\ss.Pairwise (· < ·)/\(∀s∈ss,s<=5000)/\zcc [.loc n] st=.ok (.loc st.length) (st++[.lst (ss.map fun s=>D.int (s:Nat))]):=by
 have c1:=zfo ns n 1 st h (by omega)
 rw[show ((1:Nat):Int)=1 from rfl]at c1
 generalize cellI ns 1=c at c1
 obtain⟨m,hm⟩:=Int.eq_ofNat_of_zero_le (show 0<=1+c % 5 by omega)
 have hm1:1<=m:=by omega
 have hm2:m<=5:=by omega
 obtain⟨d,hd,pd⟩:=pickL [.int 1,.int 900] (c / 5 % 2) st (by omega) (by show _<(2:Int);omega)
 obtain⟨w,hw1,hw2,rfl⟩:∃w:Nat,1<=w/\w<=900/\d=.int (w:Nat):=by
  simp only[List.mem_cons,List.not_mem_nil,or_false]at hd
  rcases hd with rfl | rfl
  ·exact⟨1,by omega,by omega,rfl⟩
  ·exact⟨900,by omega,by omega,rfl⟩
 unfold zcc gcF fnM zbv
 generalize hb:(seqS (exprS (methE "list" appendV (vr 4) _)) _:MS)=body
 generalize hL0:MO.lst [.int 1,.int 900]=L0
 obtain⟨env',st',h1,ss,num,a5,g,k1,k2,k3,rfl,rfl⟩:=zb9 (g:=nameG 5) (b:=body) (gs:=[]) (items:=upto 0 m)
  (fun i env s=>∃(ss:List Nat) (num:Int) (a5:Option D) (g:Stor),ss.length=i/\ss.Pairwise (· < ·)/\(∀s∈ss,s<=1000*i)/\env=[some (.loc n),some (.int c),some (.int (w:Nat)),some (.int num),some (.loc (st.length+1)),a5]/\s=st++[L0,.lst (ss.map fun s=>D.int (s:Nat))]++g)
  (env:=[some (.loc n),some (.int c),some (.int (w:Nat)),some (.int (c / 10)),some (.loc (st.length+1)),none]) (st:=st++[L0,.lst []]) ⟨[],c / 10,none,[],rfl,by simp,by simp,rfl,by simp⟩ (by
   rintro i d env s hi ⟨ss,num,a5,g,k1,k2,k3,rfl,rfl⟩
   obtain⟨hp,rfl⟩:=zfu hi
   have ei:(0:Int)+((i:Nat):Int)=((i:Nat):Int):=by omega
   rw[ei]
   have hat:∀(xs:List D) (g':Stor),(st++[L0,.lst xs]++g')[st.length+1]? = some (.lst xs):=fun xs g'=>by
    rw[List.append_assoc,List.getElem?_append_right (by omega)];simp
   have hset:∀(xs ys:List D) (g':Stor),(st++[L0,.lst xs]++g').set (st.length+1) (.lst ys)=st++[L0,.lst ys]++g':=fun xs ys g'=>by
    rw[List.append_assoc,List.set_append_right _ _ (by omega)];simp
   obtain⟨x,hx⟩:=Int.eq_ofNat_of_zero_le (show 0<=num % (w:Int) from Int.emod_nonneg _ (by omega))
   have hxl:x<900:=by
    have:=Int.emod_lt_of_pos num (show (0:Int)<(w:Int) by omega)
    omega

   obtain⟨p,hp1,hp2⟩:∃p:Nat,(∀y∈ss,y<=p)/\(p<=1000*i/\((cut (ss.map fun s=>D.int (s:Nat)) (some (-1)) none=[]/\p=0/\i=0)\/(cut (ss.map fun s=>D.int (s:Nat)) (some (-1)) none=[.int (p:Nat)]/\0<i))):=by
    by_cases h0:ss=[]
    ·subst h0
     refine⟨0,by simp,by omega,.inl ⟨rfl,rfl,by simpa using k1.symm⟩⟩
    ·obtain⟨s',y,rfl⟩:∃s' y,ss=s'++[y]:=⟨ss.dropLast,ss.getLast h0,(List.dropLast_concat_getLast h0).symm⟩
     have pw:=List.pairwise_append.mp k2
     refine⟨y,fun z hz=>?_,k3 y (by simp),.inr ⟨?_,by simp at k1;omega⟩⟩
     ·rcases List.mem_append.mp hz with hz | hz
      ·exact Nat.le_of_lt (pw.2.2 z hz y (by simp))
      ·rw[List.mem_singleton.mp hz];exact Nat.le_refl _
     ·rw[List.map_append]
      unfold cut
      have e1:HT.sIx (s'.map (fun s=>D.int (s:Nat))++[D.int (y:Nat)]).length 0 (some (-1))=s'.length:=by
       simp only[HT.sIx]
       rw[if_pos (by decide)]
       simp
       omega
      simp only[List.map_cons,List.map_nil]at e1 ⊢
      rw[e1,HT.zfs]
      have e2:(s'.map (fun s=>D.int (s:Nat))++[D.int (y:Nat)]).drop s'.length=[D.int (y:Nat)]:=List.drop_left' (by simp)
      rw[e2]
      simp
   have hsum:∀(z:Stor) (q:Nat),z[q]? = some (.lst (cut (ss.map fun s=>D.int (s:Nat)) (some (-1)) none))->sumV [.loc q] z=.ok (.int (p:Nat)) z:=fun z q hz=>by
    have hi2:itemsAt z q=some (cut (ss.map fun s=>D.int (s:Nat)) (some (-1)) none):=by unfold itemsAt;rw[hz]
    rcases hp2.2 with⟨e,rfl,_⟩ | ⟨e,_⟩
    ·rw[e]at hi2;simp[sumV,hi2,intsOf]
    ·rw[e]at hi2;simp[sumV,hi2,intsOf]
   generalize hxs:(ss.map fun s=>D.int (s:Nat))=xs at *
   have hxl2:xs.length=i:=by rw[<-hxs,List.length_map];exact k1
   generalize hct:cut xs (some (-1)) none=ct' at *
   have sl:slV (.loc (st.length+1)) (some (-1)) none (st++[L0,.lst xs]++g)=.ok (.loc (st++[L0,.lst xs]++g).length) (st++[L0,.lst xs]++(g++[.lst ct'])):=by
    have hi2:itemsAt (st++[L0,.lst xs]++g) (st.length+1)=some xs:=by unfold itemsAt;rw[hat]
    simp only[slV,hi2,hct]
    rw[<-List.append_assoc (st++[L0,.lst xs])]
   have sm:=hsum (st++[L0,.lst xs]++(g++[.lst ct'])) (st++[L0,.lst xs]++g).length (by rw[<-List.append_assoc (st++[L0,.lst xs])];simp)

   obtain⟨v,hv1,hv2,hv3⟩:∃v:Nat,((p:Nat):Int)+(if (0:Int)<((i:Nat):Int) then 1 else 0)+((x:Nat):Int)=(v:Nat)/\(∀y∈ss,y<v)/\v<=1000*(i+1):=by
    rcases hp2.2 with⟨_,rfl,h0⟩ | ⟨_,h0⟩
    ·subst h0
     refine⟨x,by simp,fun y hy=>?_,by omega⟩
     have:ss=[]:=List.eq_nil_of_length_eq_zero k1
     rw[this]at hy;exact nomatch hy
    ·refine⟨p+1+x,by rw[if_pos (by omega)];omega,fun y hy=>?_,?_⟩
     ·have:=hp1 y hy;omega
     ·have:=hp2.1;omega
   have md:∀s,modV (.int num) (.int (w:Nat)) s=.ok (.int (x:Nat)) s:=fun s=>by rw[zao s _ _ (by omega),hx]
   have fd:∀s,fdivV (.int num) (.int (w:Nat)) s=.ok (.int (num / (w:Nat))) s:=fun s=>za0 s _ _ (by omega)
   have ap:appendV (.loc (st.length+1)) [.int (v:Nat)] (st++[L0,.lst xs]++(g++[.lst ct']))=.ok .non (st++[L0,.lst (xs++[.int (v:Nat)])]++(g++[.lst ct'])):=by
    unfold appendV
    simp only[hat]
    rw[if_pos (by omega),hset]
   have ty:∀(g':Stor),isTy "list" (.loc (st.length+1)) (st++[L0,.lst xs]++g')=true:=fun g'=>by
    have:=hat xs g'
    simp only[isTy]
    rw[this]
    rfl
   have ty1:=ty g
   have ty2:=ty (g++[.lst ct'])
   have ic:∀s,intC [.bl (decide ((0:Int)<((i:Nat):Int)))] s=.ok (.int (if (0:Int)<((i:Nat):Int) then 1 else 0)) s:=fun s=>by
    by_cases h0:(0:Int)<((i:Nat):Int)
    ·rw[if_pos h0,decide_eq_true h0];rfl
    ·rw[if_neg h0,decide_eq_false h0];rfl
   refine⟨by simp,[some (.loc n),some (.int c),some (.int (w:Nat)),some (.int num),some (.loc (st.length+1)),some (.int (i:Nat))],st++[L0,.lst xs]++g,by generalize st++[L0,.lst xs]++g=Z;simp,[some (.loc n),some (.int c),some (.int (w:Nat)),some (.int (num / (w:Nat))),some (.loc (st.length+1)),some (.int (i:Nat))],st++[L0,.lst (xs++[.int (v:Nat)])]++(g++[.lst ct']),.inl ?_,ss++[v],num / (w:Nat),_,g++[.lst ct'],by simp[k1],nd_lt k2 hv2,?_,rfl,by rw[List.map_append,hxs];rfl⟩
   ·rw[<-hb]
    generalize st++[L0,.lst (xs++[.int (v:Nat)])]++(g++[.lst ct'])=Z3 at *
    generalize st++[L0,.lst xs]++(g++[.lst ct'])=Z2 at *
    generalize st++[L0,.lst xs]++g=Z1 at *
    generalize ((v:Nat):Int)=V at *
    generalize ((x:Nat):Int)=XX at *
    generalize (if (0:Int)<((i:Nat):Int) then (1:Int) else 0)=IFI at *
    generalize ((i:Nat):Int)=II at *
    generalize ((w:Nat):Int)=WW at *
    generalize ((p:Nat):Int)=PP at *
    simp[ty1,ty2,sl,sm,ic,md,hv1,ap,fd]
   ·intro y hy
    rcases List.mem_append.mp hy with hy | hy
    ·have:=k3 y hy;omega
    ·rw[List.mem_singleton.mp hy];exact hv3) (fun _ _ _=>by simp)
 rw[zel]at k1 k3
 refine⟨ss,by omega,by omega,k2,fun s hs=>by have:=k3 s hs;omega,?_⟩
 have hr1:-4611686018427387904<=(m:Int):=by omega
 have hr2:(m:Int)<4611686018427387904:=by omega
 rw[hL0]at pd
 have gcx:=gc_new (st:=st) (g:=[L0]) (g':=g) (o:=.lst (ss.map fun s=>D.int (s:Nat))) (by
  rw[show underO st.length (MO.lst _)=unders st.length _ from rfl,zcs]
  intro d hd
  obtain⟨c,_,rfl⟩:=List.mem_map.mp hd
  simp)
 have eZ:st++[L0]++MO.lst (ss.map fun s=>D.int (s:Nat))::g=st++[L0,.lst (ss.map fun s=>D.int (s:Nat))]++g:=by simp
 rw[eZ]at gcx
 rw[show startM 6 [D.loc n]=[some (.loc n),none,none,none,none,none] from rfl]
 generalize st++[L0,.lst (ss.map fun s=>D.int (s:Nat))]++g=Z at *
 simp[c1,za0,zao,hL0,pd,hm,hr1,hr2,h1]
 exact gcx
end Law
set_option maxHeartbeats 0
namespace Law
open L2 M TK TS
theorem word_ok (c:Int)(signs:List Nat)(st:Stor)(hs:0<signs.length)(hs2:signs.length<=1000):∃t:List Nat,t.length<=8/\(∀x∈t,x∈signs)/\zch [.int c,.str signs] st=.ok (.str t) st:=by
 obtain⟨v,hv⟩:∃v:Nat,c / 6 % 9=(v:Nat):=Int.eq_ofNat_of_zero_le (by omega)
 obtain⟨j,hj⟩:∃j:Nat,c % 6=(j:Nat):=Int.eq_ofNat_of_zero_le (by omega)
 have hj6:j<6:=by omega
 have hv9:v<9:=by omega
 let L:List D:=[.int 0,.int 1,.int 1,.int 2,.int 3,.int (v:Nat)]
 obtain⟨m,hm,hat⟩:∃m:Nat,m<=8/\L[j]? = some (.int (m:Nat)):=by
  match j,hj6 with
  | 0,_=>exact⟨0,by omega,rfl⟩
  | 1,_=>exact⟨1,by omega,rfl⟩
  | 2,_=>exact⟨1,by omega,rfl⟩
  | 3,_=>exact⟨2,by omega,rfl⟩
  | 4,_=>exact⟨3,by omega,rfl⟩
  | 5,_=>exact⟨v,by omega,rfl⟩
 obtain⟨t,t1,t2,t3⟩:=text_ok (c / 54) m signs (st++[.lst L]) hs hs2 (by omega)
 refine⟨t,by omega,t2,?_⟩
 have ix:ixV (.loc st.length) (.int (j:Nat)) (st++[.lst L])=.ok (.int (m:Nat)) (st++[.lst L]):=zcq _ _ _ L _ (by simp[itemsAt]) (by rw[zcm];exact hat)
 have le:∀(mA:MA) (env:MEnv),mA env st=.ok L st->lstE mA env st=.ok (.loc st.length) (st++[.lst L]):=fun mA env h=>by
  have:L.length<=1000000:=by simp[L]
  simp[h,this]
 have gg:gc st (.ok (.str t) (st++[.lst L]))=.ok (.str t) st:=zeb (by simp)
 unfold zch gcF fnM zb6
 rw[show startM 3 [D.int c,.str signs]=[some (.int c),some (.str signs),none] from rfl]
 have f1:∀s,fdivV (.int c) (.int 6) s=.ok (.int (c / 6)) s:=fun s=>za0 s c 6 (by omega)
 have f2:∀s,fdivV (.int c) (.int 54) s=.ok (.int (c / 54)) s:=fun s=>za0 s c 54 (by omega)
 have m1:∀s,modV (.int (c / 6)) (.int 9) s=.ok (.int (v:Nat)) s:=fun s=>by rw[zao s _ 9 (by omega),hv]
 have m2:∀s,modV (.int c) (.int 6) s=.ok (.int (j:Nat)) s:=fun s=>by rw[zao s _ 6 (by omega),hj]
 have q1:=le (consA (ct (.int 0)) (consA (ct (.int 1)) (consA (ct (.int 1)) (consA (ct (.int 2)) (consA (ct (.int 3)) (consA (op2 modV (op2 fdivV (vr 0) (ct (.int 6))) (ct (.int 9))) nilA)))))) [some (.int c),some (.str signs),none] (by simp[f1,m1,L])
 generalize lstE _=LL at *
 generalize (st++[MO.lst L]:Stor)=Z at *
 generalize c / 54=C5 at *
 generalize ((j:Nat):Int)=J at *
 generalize ((m:Nat):Int)=MM at *
 simp[q1,m2,ix,f2,t3,gg]
end Law
set_option maxHeartbeats 0
namespace Law
open L2 M TK TS
structure Pg (ss signs:List Nat)(i:Nat)(RL:List Rl):Prop where
 len:RL.length<=i
 at_:∀r∈RL,∃k,k<i/\ss[k / signs.length]? = some r.s/\signs[k % signs.length]? = some r.x/\(∀c∈r.w,c∈signs)/\r.w.length<=8/\r.g∈ss
 un:RL.Pairwise fun a b=>¬ (a.s=b.s/\a.x=b.x)
theorem zkj (ns:List Int)(n m:Nat)(ss signs:List Nat)(st:Stor)(h:itemsAt st n=some (ns.map D.int))(hm:st[m]? = some (.lst (ss.map fun s=>D.int (s:Nat))))(hs:0<ss.length)(hs5:ss.length<=5)(hg:0<signs.length)(hg4:signs.length<=4)(hss:ss.Nodup)(hsg:signs.Nodup) :
  ∃RL,Pg ss signs (signs.length*ss.length) RL/\zdq [.loc n,.str signs,.loc m,.int 8] st=.ok (.loc st.length) (st++[.lst (RL.map encRl)]):=by
 have hmul:signs.length*ss.length<=20:=Nat.mul_le_mul hg4 hs5
 unfold zdq gcF fnM zc2
 generalize hb:(seqS (setS 6 _) _:MS)=body
 obtain⟨env',st',h1,RL,a5,a6,a7,hR,rfl,rfl⟩:=zb9 (g:=nameG 5) (b:=body) (gs:=[]) (items:=upto 0 (signs.length*ss.length))
  (fun i env s=>∃(RL:List Rl) (a5 a6 a7:Option D),Pg ss signs i RL/\env=[some (.loc n),some (.str signs),some (.loc m),some (.int 8),some (.loc st.length),a5,a6,a7]/\s=st++[.lst (RL.map encRl)])
  (env:=[some (.loc n),some (.str signs),some (.loc m),some (.int 8),some (.loc st.length),none,none,none]) (st:=st++[.lst []]) ⟨[],none,none,none,⟨by simp,by simp,.nil⟩,rfl,rfl⟩ (by
   rintro i d env s hi ⟨RL,a5,a6,a7,hR,rfl,rfl⟩
   obtain⟨hp,rfl⟩:=zfu hi
   have ei:(0:Int)+((i:Nat):Int)=((i:Nat):Int):=by omega
   rw[ei]
   have hrl:=hR.len
   generalize hZ:st++[MO.lst (RL.map encRl)]=Z1
   have hn1:itemsAt Z1 n=some (ns.map D.int):=by
    rw[<-hZ]
    unfold itemsAt at h ⊢
    cases e:st[n]? with
    | none=>rw[e]at h;cases h
    | some o=>rw[zb1 e];rw[e]at h;exact h
   have hm1:Z1[m]? = some (.lst (ss.map fun s=>D.int (s:Nat))):=by rw[<-hZ];exact zb1 hm
   have hmi:itemsAt Z1 m=some (ss.map fun s=>D.int (s:Nat)):=by unfold itemsAt;rw[hm1]
   have c1:=zfo ns n (8+i) Z1 hn1 (by omega)
   rw[show ((8+i:Nat):Int)=8+((i:Nat):Int) by omega]at c1
   generalize cellI ns (8+i)=c at c1
   have l1:∀s,lenW [.str signs] s=.ok (.int (signs.length:Nat)) s:=fun s=>zfr signs s (by omega)
   have l2:lenW [.loc m] Z1=.ok (.int (ss.length:Nat)) Z1:=by have:=zgd hmi;rwa[List.length_map]at this
   have ms:∀s j,modV (.int j) (.int (signs.length:Nat)) s=.ok (.int (j % ((signs.length:Nat):Int))) s:=fun s j=>zao s _ _ (by omega)
   have mt:∀s j,modV (.int j) (.int (ss.length:Nat)) s=.ok (.int (j % ((ss.length:Nat):Int))) s:=fun s j=>zao s _ _ (by omega)
   have fs:∀s j,fdivV (.int j) (.int (signs.length:Nat)) s=.ok (.int (j / ((signs.length:Nat):Int))) s:=fun s j=>za0 s _ _ (by omega)

   have hq1:i / signs.length<ss.length:=Nat.div_lt_of_lt_mul hp
   have hq2:i % signs.length<signs.length:=Nat.mod_lt _ hg
   have x1:ixV (.loc m) (.int (((i:Nat):Int) / ((signs.length:Nat):Int))) Z1=.ok (.int (ss[i / signs.length]:Nat)) Z1:=by
    refine zcq Z1 m _ _ _ hmi ?_
    rw[show ((i:Nat):Int) / ((signs.length:Nat):Int)=((i / signs.length:Nat):Int) from rfl,zcm,List.getElem?_map,List.getElem?_eq_getElem hq1];rfl
   have x2:∀s,ixV (.str signs) (.int (((i:Nat):Int) % ((signs.length:Nat):Int))) s=.ok (.str [signs[i % signs.length]]) s:=fun s=>by
    refine zfn s _ _ _ (by omega) ?_
    rw[show ((i:Nat):Int) % ((signs.length:Nat):Int)=((i % signs.length:Nat):Int) from rfl,zcm,List.getElem?_eq_getElem hq2]
   obtain⟨j,hj,j1,j2⟩:=zi0 (ss.map fun s=>D.int (s:Nat)) (c / 5) (by simpa using hs)
   rw[List.length_map]at j1 j2 hj
   have x3:ixV (.loc m) (.int (c / 5 % ((ss.length:Nat):Int))) Z1=.ok (.int (ss[j]:Nat)) Z1:=by
    refine zcq Z1 m _ _ _ hmi ?_
    rw[j2,List.getElem_map]
   obtain⟨w,hw2,hw1,hwS⟩:=word_ok (c / 25) signs Z1 hg (by omega)
   have hty:isTy "list" (.loc st.length) Z1=true:=by rw[<-hZ];simp[isTy]
   obtain⟨rr,hrr⟩:∃rr:Rl,rr=⟨ss[i / signs.length],signs[i % signs.length],w,ss[j]⟩:=⟨_,rfl⟩
   have er0:encRl rr=.tup [.int (ss[i / signs.length]:Nat),.str [signs[i % signs.length]],.str w,.int (ss[j]:Nat)]:=by rw[hrr];rfl
   have ap:appendV (.loc st.length) [encRl rr] Z1=.ok .non (st++[.lst ((RL++[rr]).map encRl)]):=by
    rw[<-hZ]
    have:RL.length<1000000:=by omega
    simp[appendV,this]
   have m5:∀s,modV (.int c) (.int 5) s=.ok (.int (c % 5)) s:=fun s=>zao s c 5 (by omega)
   have f5:∀s,fdivV (.int c) (.int 5) s=.ok (.int (c / 5)) s:=fun s=>za0 s c 5 (by omega)
   have f25:∀s,fdivV (.int c) (.int 25) s=.ok (.int (c / 25)) s:=fun s=>za0 s c 25 (by omega)
   by_cases hc:0<c % 5
   ·refine⟨by simp,[some (.loc n),some (.str signs),some (.loc m),some (.int 8),some (.loc st.length),some (.int (i:Nat)),a6,a7],Z1,by simp,[some (.loc n),some (.str signs),some (.loc m),some (.int 8),some (.loc st.length),some (.int (i:Nat)),some (.int c),some (.int (ss[j]:Nat))],st++[.lst ((RL++[rr]).map encRl)],.inl ?_,RL++[rr],_,_,_,⟨by simp;omega,?_,?_⟩,rfl,rfl⟩
    ·rw[<-hb]
     rw[er0]at ap
     generalize st++[MO.lst ((RL++[rr]).map encRl)]=Z2 at *
     generalize ss[i / signs.length]=S1 at *
     generalize signs[i % signs.length]=S2 at *
     generalize ss[j]=S3 at *
     simp[c1,m5,f5,f25,hc,l1,l2,fs,ms,mt,x1,x2,x3,hwS,hty,ap]
    ·intro r hr
     rcases List.mem_append.mp hr with hr | hr
     ·obtain⟨k,h1,h2⟩:=hR.at_ r hr
      exact⟨k,by omega,h2⟩
     ·rw[List.mem_singleton.mp hr,hrr]
      exact⟨i,by omega,List.getElem?_eq_getElem hq1,List.getElem?_eq_getElem hq2,hw1,hw2,List.getElem_mem _⟩
    ·refine List.pairwise_append.mpr ⟨hR.un,by simp,fun x hx y hy e=>?_⟩
     rw[List.mem_singleton.mp hy,hrr]at e
     obtain⟨k,h1,h2,h3,_⟩:=hR.at_ x hx
     obtain⟨q1,e1⟩:=List.getElem?_eq_some_iff.mp h2
     obtain⟨q2,e2⟩:=List.getElem?_eq_some_iff.mp h3
     have d1:k / signs.length=i / signs.length:=(List.getElem_inj (h₀:=q1) (h₁:=hq1) hss).mp (e1.trans e.1)
     have d2:k % signs.length=i % signs.length:=(List.getElem_inj (h₀:=q2) (h₁:=hq2) hsg).mp (e2.trans e.2)
     have a1:=Nat.div_add_mod k signs.length
     have a2:=Nat.div_add_mod i signs.length
     rw[d1,d2]at a1
     omega
   ·refine⟨by simp,[some (.loc n),some (.str signs),some (.loc m),some (.int 8),some (.loc st.length),some (.int (i:Nat)),a6,a7],Z1,by simp,[some (.loc n),some (.str signs),some (.loc m),some (.int 8),some (.loc st.length),some (.int (i:Nat)),some (.int c),a7],Z1,.inl ?_,RL,_,_,_,⟨by omega,fun r hr=>?_,hR.un⟩,rfl,hZ.symm⟩
    ·rw[<-hb]
     simp[c1,m5,hc]
    ·obtain⟨k,h1,h2⟩:=hR.at_ r hr
     exact⟨k,by omega,h2⟩) (fun _ _ _=>by simp)
 rw[zel]at hR
 refine⟨RL,hR,?_⟩
 have hmi:itemsAt st m=some (ss.map fun s=>D.int (s:Nat)):=by unfold itemsAt;rw[hm]
 have g:=ziw (st:=st) (o:=.lst (RL.map encRl)) (by
  rw[show underO st.length (MO.lst _)=unders st.length _ from rfl,zcs]
  intro d hd
  obtain⟨c,_,rfl⟩:=List.mem_map.mp hd
  simp[encRl])
 have l1:∀s,lenW [.str signs] s=.ok (.int (signs.length:Nat)) s:=fun s=>zfr signs s (by omega)
 have hmi2:itemsAt (st++[.lst []]) m=some (ss.map fun s=>D.int (s:Nat)):=by unfold itemsAt;rw[zb1 hm]
 have l2:lenW [.loc m] (st++[.lst []])=.ok (.int (ss.length:Nat)) (st++[.lst []]):=by have:=zgd hmi2;rwa[List.length_map]at this
 have ml:∀s,mulV (.int (signs.length:Nat)) (.int (ss.length:Nat)) s=.ok (.int (((signs.length*ss.length:Nat):Nat):Int)) s:=fun s=>by rw[zcl s _ _ (by omega)];rfl
 have hr1:-4611686018427387904<=((signs.length*ss.length:Nat):Int):=by omega
 have hr2:((signs.length*ss.length:Nat):Int)<4611686018427387904:=by omega
 have et:(((signs.length*ss.length:Nat):Int)).toNat=signs.length*ss.length:=rfl
 rw[show startM 8 [D.loc n,.str signs,.loc m,.int 8]=[some (.loc n),some (.str signs),some (.loc m),some (.int 8),none,none,none,none] from rfl]
 generalize hNN:((signs.length*ss.length:Nat):Int)=NN at *
 generalize st++[MO.lst (RL.map encRl)]=Z at *
 simp[l1,l2,ml,hr1,hr2,et,h1]
 exact g
end Law
set_option maxHeartbeats 0
namespace Law
open L2 M TK TS
theorem zjf:∀l:List Nat,joinL [] (l.map fun c=>[c])=l
 | []=>rfl
 | [c]=>rfl
 | c::d::l=>by
  have ih:=zjf (d::l)
  simp only[List.map_cons]at ih ⊢
  rw[joinL,ih]
  rfl
theorem nd_le:∀(l m:List Nat),l.Nodup->(∀x∈l,x∈m)->l.length<=m.length
 | [],_,_,_=>by simp
 | x::l,m,h,hs=>by
  rw[List.nodup_cons]at h
  have hx:=hs x (by simp)
  have:=nd_le l (m.erase x) h.2 fun y hy=>by
   have hne:y≠x:=fun e=>h.1 (by rw[<-e];exact hy)
   exact (List.mem_erase_of_ne hne).mpr (hs y (by simp[hy]))
  rw[List.length_erase_of_mem hx]at this
  have:=List.length_pos_of_mem hx
  simp only[List.length_cons];omega
theorem sum_ones (l:List Nat):((l.map fun c=>[c]).map List.length).sum=l.length:=by
 induction l with
 | nil=>rfl
 | cons c l ih=>simp only[List.map_cons,List.sum_cons,ih,List.length_cons,List.length_nil];omega
theorem wider_ok (ns:List Int)(n:Nat)(signs:List Nat)(st:Stor)(h:∀g,itemsAt (st++g) n=some (ns.map D.int))(hs:signs.length<=4)(hnd:signs.Nodup)(hab:∀x∈signs,x∈abcL):∃t:List Nat,t.length<=7/\t.Nodup/\(∀x∈t,x∈abcL)/\(∀x∈signs,x∈t)/\ze8 [.loc n,.str signs] st=.ok (.str t) st:=by
 let R:List Nat:=abcL.filter fun c=>!decide (c∈signs)
 have hRl:22<=R.length/\R.length<=26:=by
  have h1:R.length<=abcL.length:=List.length_filter_le _ _
  have h2:=nd_le abcL (R++signs) (by decide) fun x hx=>by
   by_cases c:x∈signs
   ·exact List.mem_append_right _ c
   ·exact List.mem_append_left _ (List.mem_filter.mpr ⟨hx,by simpa using c⟩)
  rw[List.length_append]at h2
  have h3:abcL.length=26:=rfl
  omega
 have hRn:R.Nodup:=(by decide:abcL.Nodup).filter _
 have hRd:∀x∈R,x∈abcL/\x∉signs:=fun x hx=>by
  have:=List.mem_filter.mp hx
  exact⟨this.1,by simpa using this.2⟩
 have hc:∀g,zcd [.loc n,.int 3] (st++g)=.ok (.int (cellI ns 3)) (st++g):=fun g=>zfo ns n 3 (st++g) (h g) (by omega)
 generalize cellI ns 3=c at hc
 obtain⟨j,hj⟩:∃j:Nat,c % (R.length:Nat)=(j:Nat):=Int.eq_ofNat_of_zero_le (Int.emod_nonneg _ (by omega))
 have hjl:j<R.length:=by have:=Int.emod_lt_of_pos c (show (0:Int)<(R.length:Nat) by omega);omega
 obtain⟨k,hk⟩:∃k:Nat,c / 26 % 4=(k:Nat):=Int.eq_ofNat_of_zero_le (by omega)
 have hk4:k<4:=by omega
 have hrot:(R.drop j++R.take j).Perm R:=by
  have:=List.perm_append_comm (l₁:=R.drop j) (l₂:=R.take j)
  rwa[List.take_append_drop]at this
 have hT:∀x∈(R.drop j++R.take j).take k,x∈R:=fun x hx=>hrot.mem_iff.mp (List.mem_of_mem_take hx)
 refine⟨signs++(R.drop j++R.take j).take k,?_,?_,?_,fun x hx=>List.mem_append_left _ hx,?_⟩
 ·rw[List.length_append,List.length_take];omega
 ·refine List.nodup_append.mpr ⟨hnd,((hrot.nodup_iff.mpr hRn).sublist (List.take_sublist _ _)),fun a ha b hb e=>?_⟩
  exact (hRd b (hT b hb)).2 (e ▸ ha)
 ·intro x hx
  rcases List.mem_append.mp hx with hx | hx
  ·exact hab x hx
  ·exact (hRd x (hT x hx)).1
 have cf:=zdx (capt:=[some 1,none]) (mi:=strI (vr 2)) (g:=nameG 1) (t:=tB1 (op2 notInSV (vr 1) (vr 0))) (e:=vr 1) (env:=[some (.loc n),some (.str signs),some (.str abcL),none,none]) (st:=st) (st1:=st) (items:=abcL.map fun c=>D.str [c]) (gs:=[]) (fun d=>match d with | .str [c]=>!decide (c∈signs) | _=>false) (fun d=>d) (fun e=>∃e0,e=[some (.str signs),e0])
  (by rw[r_strI];simp only[r_vr];rfl) ⟨none,by simp[captE]⟩ (by rw[List.length_map];decide) (fun ys=>by simp) (by
   rintro d hd env' ys ⟨e0,rfl⟩
   obtain⟨x,hx,rfl⟩:=List.mem_map.mp hd
   have nI:∀Z,notInSV (.str [x]) (.str signs) Z=.ok (.bl (!decide (x∈signs))) Z:=fun Z=>by
    show (if signs.length<=1000000 then M.R.ok (D.bl (!decide (x∈signs))) Z else M.R.bad)=_
    rw[if_pos (by omega)]
   generalize (st++[MO.lst ys]:Stor)=Z at *
   exact⟨[some (.str signs),some (.str [x])],⟨_,rfl⟩,by simp,by simp[nI],fun _=>by simp⟩)
 have ef:(((abcL.map fun c=>D.str [c]).filter fun d=>match d with | .str [c]=>!decide (c∈signs) | _=>false).map fun d=>d)=(R.map fun c=>[c]).map D.str:=by
  rw[List.map_id',List.filter_map,List.map_map]
  rfl
 rw[ef]at cf
 have jn:=r_join (st++[.lst ((R.map fun c=>[c]).map D.str)]) [] st.length (R.map fun c=>[c]) (by simp[itemsAt]) (by rw[sum_ones];simp;omega)
 rw[zjf]at jn
 have hc1:=hc [.lst ((R.map fun c=>[c]).map D.str)]
 have gg:∀t,gc st (.ok (.str t) (st++[.lst ((R.map fun c=>[c]).map D.str)]))=.ok (.str t) st:=fun t=>zeb (by simp)
 generalize hZ:(st++[MO.lst ((R.map fun c=>[c]).map D.str)]:Stor)=Z at *
 have lW:lenW [.str R] Z=.ok (.int (R.length:Nat)) Z:=zfr R Z (by omega)
 have m1:modV (.int c) (.int (R.length:Nat)) Z=.ok (.int (j:Nat)) Z:=by rw[zao Z c _ (by omega),hj]
 have f1:fdivV (.int c) (.int 26) Z=.ok (.int (c / 26)) Z:=za0 Z c 26 (by omega)
 have m2:modV (.int (c / 26)) (.int 4) Z=.ok (.int (k:Nat)) Z:=by rw[zao Z _ 4 (by omega),hk]
 have s1:slV (.str R) (some ((j:Nat):Int)) none Z=.ok (.str (R.drop j)) Z:=by rw[zdw _ _ _ _ (by omega),zfd R j (by omega)]
 have s2:slV (.str R) none (some ((j:Nat):Int)) Z=.ok (.str (R.take j)) Z:=by rw[zdw _ _ _ _ (by omega),Law.zil R j (by omega)]
 have a1:addV (.str (R.drop j)) (.str (R.take j)) Z=.ok (.str (R.drop j++R.take j)) Z:=by
  show (if (R.drop j).length+(R.take j).length<=1000000 then _ else _)=_
  rw[if_pos (by rw[List.length_drop,List.length_take];omega)]
 have hl2:(R.drop j++R.take j).length=R.length:=hrot.length_eq
 have s3:slV (.str (R.drop j++R.take j)) none (some ((k:Nat):Int)) Z=.ok (.str ((R.drop j++R.take j).take k)) Z:=by rw[zdw _ _ _ _ (by omega),Law.zil _ k (by omega)]
 have a2:addV (.str signs) (.str ((R.drop j++R.take j).take k)) Z=.ok (.str (signs++(R.drop j++R.take j).take k)) Z:=by
  show (if signs.length+((R.drop j++R.take j).take k).length<=1000000 then _ else _)=_
  rw[if_pos (by rw[List.length_take];omega)]
 have gg:=gg (signs++(R.drop j++R.take j).take k)
 unfold ze8 gcF fnM zdz
 have hab2:([97,98,99,100,101,102,103,104,105,106,107,108,109,110,111,112,113,114,115,116,117,118,119,120,121,122]:List Nat)=abcL:=rfl
 rw[hab2,show startM 5 [D.loc n,.str signs]=[some (.loc n),some (.str signs),none,none,none] from rfl]
 have ty:∀s,isTy "str" (.str []) s=true:=fun s=>rfl
 generalize signs++(R.drop j++R.take j).take k=T5 at *
 generalize (R.drop j++R.take j).take k=T4 at *
 generalize R.drop j++R.take j=T3 at *
 generalize R.drop j=T2 at *
 generalize R.take j=T1 at *
 generalize ((R.length:Nat):Int)=RL at *
 generalize ((j:Nat):Int)=J at *
 generalize ((k:Nat):Int)=KK at *
 generalize R=RR at *
 generalize compE _ _ _ _ _=CE at *
 generalize abcL=AB at *
 simp[cf,ty,jn,hc1,lW,m1,f1,m2,s1,s2,a1,s3,a2,gg]
end Law
set_option maxHeartbeats 0
namespace Law
open L2 M TK TS
theorem zjq {x:Nat}(h:x∈abcL):x∈AZ:=by
 have:AZ=abcL++[95]:=rfl
 rw[this];exact List.mem_append_left _ h
theorem zjj (RL:List Rl):(∀p∈srcP RL,∃r∈RL,p=(r.w,r.g))/\(srcP RL).length<=RL.length/\(srcP RL).Nodup:=by
 have key:∀(l:List Rl) (ps:List (List Nat×Nat)),(∀p∈l.foldl (fun ps r=>addP ps (r.w,r.g)) ps,p∈ps\/∃r∈l,p=(r.w,r.g))/\(l.foldl (fun ps r=>addP ps (r.w,r.g)) ps).length<=ps.length+l.length/\(ps.Nodup->(l.foldl (fun ps r=>addP ps (r.w,r.g)) ps).Nodup):=by
  intro l
  induction l with
  | nil=>intro ps;exact⟨fun p h=>.inl h,by simp,fun h=>h⟩
  | cons r l ih =>
   intro ps
   obtain⟨h1,h2,h3⟩:=ih (addP ps (r.w,r.g))
   refine⟨fun p hp=>?_,?_,fun h=>h3 (zc3 h _)⟩
   ·rcases h1 p hp with h | ⟨r',hr,e⟩
    ·rcases zhx h with h | h
     ·exact .inl h
     ·exact .inr ⟨r,by simp,h⟩
    ·exact .inr ⟨r',by simp[hr],e⟩
   ·have:=zee ps (r.w,r.g)
    simp only[List.foldl_cons,List.length_cons]
    omega
 obtain⟨h1,h2,h3⟩:=key RL []
 refine⟨fun p hp=>?_,by simp only[List.length_nil,Nat.zero_add]at h2;exact h2,h3 .nil⟩
 rcases h1 p hp with h | h
 ·exact nomatch h
 ·exact h
theorem lfn_of (w:List Nat)(t:Nat)(qs:List (List Nat×Nat)):∀j,(∀q∈lfn qs w t j,q∈qs\/∃k,q=(w.drop k,t))/\(lfn qs w t j).length<=qs.length+j/\(qs.Nodup->(lfn qs w t j).Nodup)
 | 0=>⟨fun q h=>.inl h,by simp[lfn],fun h=>h⟩
 | j+1=>by
  obtain⟨h1,h2,h3⟩:=lfn_of w t qs j
  refine⟨fun q hq=>?_,?_,fun h=>zc3 (h3 h) _⟩
  ·rcases zhx hq with h | h
   ·exact h1 q h
   ·exact .inr ⟨j,h⟩
  ·have:=zee (lfn qs w t j) (w.drop j,t)
   simp only[lfn];omega
theorem lfK_of (B:Nat)(ps:List (List Nat×Nat))(hB:∀p∈ps,p.1.length<=B):(∀q∈lfK ps,∃p∈ps,∃k,q=(p.1.drop k,p.2))/\(lfK ps).length<=ps.length*(B+1)/\(lfK ps).Nodup:=by
 have key:∀(l qs:List (List Nat×Nat)),(∀p∈l,p.1.length<=B)->(∀q∈l.foldl (fun qs p=>lfn qs p.1 p.2 (p.1.length+1)) qs,q∈qs\/∃p∈l,∃k,q=(p.1.drop k,p.2))/\(l.foldl (fun qs p=>lfn qs p.1 p.2 (p.1.length+1)) qs).length<=qs.length+l.length*(B+1)/\(qs.Nodup->(l.foldl (fun qs p=>lfn qs p.1 p.2 (p.1.length+1)) qs).Nodup):=by
  intro l
  induction l with
  | nil=>intro qs _;exact⟨fun p h=>.inl h,by simp,fun h=>h⟩
  | cons p l ih =>
   intro qs hb
   obtain⟨a1,a2,a3⟩:=lfn_of p.1 p.2 qs (p.1.length+1)
   obtain⟨h1,h2,h3⟩:=ih (lfn qs p.1 p.2 (p.1.length+1)) fun x hx=>hb x (by simp[hx])
   have hp:=hb p (by simp)
   refine⟨fun q hq=>?_,?_,fun h=>h3 (a3 h)⟩
   ·rcases h1 q hq with h | ⟨p',hp',e⟩
    ·rcases a1 q h with h | ⟨k,e⟩
     ·exact .inl h
     ·exact .inr ⟨p,by simp,k,e⟩
    ·exact .inr ⟨p',by simp[hp'],e⟩
   ·simp only[List.foldl_cons,List.length_cons]
    rw[Nat.add_mul,Nat.one_mul]
    omega
 obtain⟨h1,h2,h3⟩:=key ps [] hB
 refine⟨fun q hq=>?_,by simp only[List.length_nil,Nat.zero_add]at h2;exact h2,h3 .nil⟩
 rcases h1 q hq with h | h
 ·exact nomatch h
 ·exact h
theorem tgK_of (ps:List (List Nat×Nat)):(tgK ps).length<=ps.length/\(tgK ps).Nodup:=by
 have key:∀(l:List (List Nat×Nat)) (ts:List Nat),(l.foldl (fun ts p=>addP ts p.2) ts).length<=ts.length+l.length/\(ts.Nodup->(l.foldl (fun ts p=>addP ts p.2) ts).Nodup):=by
  intro l
  induction l with
  | nil=>intro ts;exact⟨by simp,fun h=>h⟩
  | cons p l ih =>
   intro ts
   obtain⟨h2,h3⟩:=ih (addP ts p.2)
   refine⟨?_,fun h=>h3 (zc3 h _)⟩
   have:=zee ts p.2
   simp only[List.foldl_cons,List.length_cons]
   omega
 obtain⟨h2,h3⟩:=key ps []
 exact⟨by simp only[List.length_nil,Nat.zero_add]at h2;exact h2,h3 .nil⟩
end Law
set_option maxHeartbeats 0
namespace Law
open L2 M TK TS
structure Gx (RL:List Rl)(signs:List Nat)(top:Nat):Prop where
 len:RL.length<=20
 at_:∀r∈RL,r.s<=top/\r.x∈signs/\(∀c∈r.w,c∈abcL)/\r.w.length<=8
 un:RL.Pairwise fun a b=>¬ (a.s=b.s/\a.x=b.x)
theorem Gx.wl {RL:List Rl}{signs:List Nat}{top:Nat}(G:Gx RL signs top):∀p∈srcP RL,p.1.length<=8:=by
 intro p hp
 obtain⟨r,hr,rfl⟩:=(zjj RL).1 p hp
 exact (G.at_ r hr).2.2.2
theorem allK_AZ {RL:List Rl}{signs:List Nat}{top:Nat}(G:Gx RL signs top)(hs:∀x∈signs,x∈abcL):∀q∈allK RL signs,q.x∈AZ/\q.w∈AZ:=by
 have h95:95∈AZ:=by decide
 intro q hq
 unfold allK at hq
 rcases List.mem_append.mp hq with hq | hq
 ·rcases List.mem_append.mp hq with hq | hq
  ·rcases List.mem_append.mp hq with hq | hq
   ·obtain⟨r,hr,rfl⟩:=List.mem_map.mp hq
    exact⟨zjq (hs _ (G.at_ r hr).2.1),h95⟩
   ·obtain⟨p,_,c,hc,rfl⟩:=zdm.mp hq
    exact⟨zjq (hs c hc),zjq (hs c hc)⟩
  ·obtain⟨p,hp,rfl⟩:=List.mem_map.mp hq
   obtain⟨p',hp',k,rfl⟩:=(lfK_of 8 (srcP RL) G.wl).1 p hp
   obtain⟨r,hr,rfl⟩:=(zjj RL).1 p' hp'
   have hw:∀c∈r.w.drop k,c∈abcL:=fun c hc=>(G.at_ r hr).2.2.1 c (List.mem_of_mem_drop hc)
   show (groR (r.w.drop k) r.g).x∈AZ/\(groR (r.w.drop k) r.g).w∈AZ
   revert hw
   generalize r.w.drop k=w
   cases w with
   | nil=>exact fun _=>⟨h95,h95⟩
   | cons c v=>exact fun hw=>⟨h95,zjq (hw c (by simp))⟩
 ·obtain⟨t,_,h⟩:=zc8.mp hq
  rcases h with⟨c,hc,rfl⟩ | rfl
  ·exact⟨zjq (hs c hc),zjq (hs c hc)⟩
  ·exact⟨h95,h95⟩
theorem allK_le {RL:List Rl}{signs:List Nat}{top:Nat}(G:Gx RL signs top)(hs:signs.length<=7):(allK RL signs).length<=500:=by
 rw[allK_len]
 have h0:=G.len
 have h1:=(zjj RL).2.1
 have h2:=(lfK_of 8 (srcP RL) G.wl).2.1
 have h3:=(tgK_of (srcP RL)).1
 have a1:signs.length*(srcP RL).length<=7*20:=Nat.mul_le_mul hs (by omega)
 have a2:(signs.length+1)*(tgK (srcP RL)).length<=8*20:=Nat.mul_le_mul (by omega) (by omega)
 omega
theorem zkw {RL:List Rl}{signs:List Nat}{top:Nat}(G:Gx RL signs top)(hs:∀x∈signs,x∈abcL)(hsl:signs.length<=7)(hsn:signs.Nodup) :
  (∀n st,M.wf st->st[n]? = some (.lst (RL.map encRl))->zbb [.loc n,.str signs,.int (top:Nat)] st=.ok (.loc st.length) (st++[.lst ((allK RL signs).map (encT (top+1) (ksK RL)))])) /\
  (∀n k st,st[n]? = some (.lst ((allK RL signs).map (encT (top+1) (ksK RL))))->st[k]? = some (.lst (RL.map encRl))->zc6 [.loc n,.loc k,.str signs,.int (top:Nat)] st=.ok (.bl true) st) /\
  (∀n c st,st[n]? = some (.lst ((allK RL signs).map (encT (top+1) (ksK RL))))->zde [.loc n,.int c] st=.ok (.bl true) st):=by
 have h0:=G.len
 have hlen:=allK_le G hsl
 have hz:=allK_AZ G hs
 have habc:∀x∈abcL,x<128/\x≠95:=by decide
 have h95:95∉signs:=fun h=>(habc 95 (hs 95 h)).2 rfl
 have h128:∀c∈signs,c<128:=fun c hc=>(habc c (hs c hc)).1
 have hw:∀r∈RL,r.w.length<=90:=fun r hr=>by have:=(G.at_ r hr).2.2.2;omega
 have hun:=allK_un (signs:=signs) G.un hsn h95 (zjj RL).2.2 (lfK_of 8 (srcP RL) G.wl).2.2 (tgK_of (srcP RL)).2
 have rU:∀n,unders n (RL.map encRl):=fun n=>by
  rw[zcs];intro d hd
  obtain⟨c,_,rfl⟩:=List.mem_map.mp hd
  simp[encRl]
 have hin:∀q∈allK RL signs,inRT (ksK RL) q:=by
  obtain⟨ks,ALL,⟨rfl,rfl⟩,A,_⟩:=zfh RL signs top 0 [.lst (RL.map encRl)] (by
   intro o ho
   rw[List.mem_singleton]at ho
   subst ho
   exact rU _) rfl (by omega) hw h128 (by omega)
  exact A.inn
 have htp:=allK_tp (signs:=signs) fun r hr=>(G.at_ r hr).1
 refine⟨fun n st hwf hn=>?_,fun n k st hn hk=>?_,fun n c st hn=>?_⟩
 ·obtain⟨ks,ALL,⟨rfl,rfl⟩,_,_,_,h⟩:=zfh RL signs top n st hwf hn (by omega) hw h128 (by omega)
  exact h
 ·exact right_ok RL signs top n k (ksK RL) st hn hk (by omega) (by omega) hz (fun r hr=>⟨(G.at_ r hr).1,(G.at_ r hr).2.1⟩) hun hin (by omega)
 ·exact looked_ok (top+1) (ksK RL) _ n c st hn (by omega) (keys_nd hun hin htp)
theorem le_last:∀{ss:List Nat},ss.Pairwise (· < ·)->∀{x:Nat},ss[ss.length - 1]? = some x->∀y∈ss,y<=x:=by
 intro ss h x hx y hy
 obtain⟨i,hi⟩:=List.getElem?_of_mem hy
 have hil:=(List.getElem?_eq_some_iff.mp hi).1
 by_cases e:i=ss.length - 1
 ·rw[e,hx]at hi
  exact Nat.le_of_eq (Option.some.inj hi).symm
 ·obtain⟨h1,e1⟩:=List.getElem?_eq_some_iff.mp hi
  obtain⟨h2,e2⟩:=List.getElem?_eq_some_iff.mp hx
  have:=(List.pairwise_iff_getElem.mp h) i (ss.length - 1) h1 h2 (by omega)
  rw[e1,e2]at this
  exact Nat.le_of_lt this
theorem cut_takeG {α:Type}(w:List α)(k:Nat)(h:k<=w.length):cut w none (some (k:Nat))=w.take k:=by
 unfold cut
 rw[HT.zix,HT.zfs,Nat.min_eq_left h]
 simp
end Law
set_option maxHeartbeats 0
namespace Law
open L2 M TK TS
theorem law_true (ns:List Int)(hns:ns.length<=63):∃st,zhm [.loc 0] [.frz (ns.map D.int)]=.ok (.bl true) st:=by
 have U0:∀n,underO n (.frz (ns.map D.int)):=fun n=>by
  show unders _ _
  rw[zcs];intro d hd
  obtain⟨c,_,rfl⟩:=List.mem_map.mp hd
  simp
 generalize hO0:MO.frz (ns.map D.int)=O0 at U0
 obtain⟨signs,s1,s2,s3,s4,fA⟩:=zjo ns 0 [O0] (by rw[<-hO0];rfl)
 obtain⟨ss,t1,t2,t3,t4,fS⟩:=states_ok ns 0 [O0] (by rw[<-hO0];rfl)
 have U1:∀n,underO n (.lst (ss.map fun s=>D.int (s:Nat))):=fun n=>by
  show unders _ _
  rw[zcs];intro d hd
  obtain⟨c,_,rfl⟩:=List.mem_map.mp hd
  simp
 generalize hO1:MO.lst (ss.map fun s=>D.int (s:Nat))=O1 at fS U1
 have hsn:ss.Nodup:=t3.imp fun h=>Nat.ne_of_lt h
 obtain⟨RL,H,fR⟩:=zkj ns 0 1 ss signs [O0,O1] (by rw[<-hO0];rfl) (by rw[<-hO1];rfl) t1 t2 s1 s2 hsn s3
 have UR:∀(l:List Rl) n,underO n (.lst (l.map encRl)):=fun l n=>by
  show unders _ _
  rw[zcs];intro d hd
  obtain⟨c,_,rfl⟩:=List.mem_map.mp hd
  simp[encRl]

 obtain⟨la,hla⟩:∃la,ss[ss.length - 1]? = some la:=⟨_,List.getElem?_eq_getElem (by omega)⟩
 have ixl:ixV (.loc 1) (.int (-1)) [O0,O1,.lst (RL.map encRl)]=.ok (.int (la:Nat)) [O0,O1,.lst (RL.map encRl)]:=by
  refine zcq _ 1 _ (ss.map fun s=>D.int (s:Nat)) _ (by rw[<-hO1];rfl) ?_
  unfold atI ixN
  rw[if_neg (by omega),if_pos (by simp;omega)]
  have e:(-1+(((ss.map fun s=>D.int (s:Nat)).length:Nat):Int)).toNat=ss.length - 1:=by rw[List.length_map];omega
  rw[e]
  simp only[Option.bind_some]
  rw[List.getElem?_map,hla];rfl
 have c5:=zfo ns 0 5 [O0,O1,.lst (RL.map encRl)] (by rw[<-hO0];rfl) (by omega)
 rw[show ((5:Nat):Int)=5 from rfl]at c5
 generalize hO3:MO.lst [.int 0,.int (cellI ns 5 / 3 % 31),.int 1]=O3
 have U3:∀n,underO n O3:=fun n=>by
  rw[<-hO3]
  show unders _ _
  simp
 have c5':=zfo ns 0 5 [O0,O1,.lst (RL.map encRl),O3] (by rw[<-hO0];rfl) (by omega)
 rw[show ((5:Nat):Int)=5 from rfl]at c5'
 obtain⟨top,d5,hd5,hd6,hla5⟩:∃(top:Nat) (d:Int),ixV (.loc 3) (.int (cellI ns 5 % 3)) [O0,O1,.lst (RL.map encRl),O3]=.ok (.int d) [O0,O1,.lst (RL.map encRl),O3]/\((la:Nat):Int)+d=(top:Nat)/\la<=top:=by
  have i3:itemsAt [O0,O1,.lst (RL.map encRl),O3] 3=some [.int 0,.int (cellI ns 5 / 3 % 31),.int 1]:=by rw[<-hO3];rfl
  rcases (show cellI ns 5 % 3=0\/cellI ns 5 % 3=1\/cellI ns 5 % 3=2 by omega) with e | e | e
  ·exact⟨la,0,by rw[e];exact zcq _ 3 _ _ _ i3 rfl,by omega,by omega⟩
  ·obtain⟨j,hj⟩:=Int.eq_ofNat_of_zero_le (show 0<=cellI ns 5 / 3 % 31 by omega)
   exact⟨la+j,cellI ns 5 / 3 % 31,by rw[e];exact zcq _ 3 _ _ _ i3 rfl,by omega,by omega⟩
  ·exact⟨la+1,1,by rw[e];exact zcq _ 3 _ _ _ i3 rfl,by omega,by omega⟩
 have m53:∀s,modV (.int (cellI ns 5)) (.int 3) s=.ok (.int (cellI ns 5 % 3)) s:=fun s=>zao s _ _ (by omega)
 have f53:∀s,fdivV (.int (cellI ns 5)) (.int 3) s=.ok (.int (cellI ns 5 / 3)) s:=fun s=>za0 s _ _ (by omega)
 have m31:∀s,modV (.int (cellI ns 5 / 3)) (.int 31) s=.ok (.int (cellI ns 5 / 3 % 31)) s:=fun s=>zao s _ _ (by omega)
 generalize hx5:cellI ns 5 / 3 % 31=x5 at *
 generalize cellI ns 5 / 3=y5 at *
 generalize cellI ns 5 % 3=z5 at *
 generalize cellI ns 5=e5 at *
 have htop:∀s∈ss,s<=top:=fun s hs=>Nat.le_trans (le_last t3 hla s hs) hla5
 obtain⟨more,w1,w2,w3,w4,fW⟩:=wider_ok ns 0 signs [O0,O1,.lst (RL.map encRl),O3] (fun g=>by rw[<-hO0];rfl) s2 s3 s4

 have hl20:RL.length<=20:=Nat.le_trans H.len (Nat.mul_le_mul s2 t2)
 have G1:Gx RL signs (top+1):=⟨hl20,fun r hr=>by
  obtain⟨k,_,h1,h2,h3,h4,_⟩:=H.at_ r hr
  exact⟨Nat.le_succ_of_le (htop _ (List.mem_of_getElem? h1)),List.mem_of_getElem? h2,fun c hc=>s4 c (h3 c hc),h4⟩,H.un⟩
 have G2:Gx RL more top:=⟨hl20,fun r hr=>by
  obtain⟨k,_,h1,h2,h3,h4,_⟩:=H.at_ r hr
  exact⟨htop _ (List.mem_of_getElem? h1),w4 _ (List.mem_of_getElem? h2),fun c hc=>s4 c (h3 c hc),h4⟩,H.un⟩
 obtain⟨hf,hhf⟩:=Int.eq_ofNat_of_zero_le (show 0<=((RL.length:Nat):Int) / 2 by omega)
 have hhl:hf<=RL.length:=by omega
 have G3:Gx (RL.take hf) signs (top+1):=⟨by rw[List.length_take];omega,fun r hr=>G1.at_ r (List.mem_of_mem_take hr),H.un.sublist (List.take_sublist _ _)⟩
 have G4:Gx [] more top:=⟨by simp,by simp,.nil⟩
 obtain⟨mA,rA,lA⟩:=zkw G2 w3 w1 w2
 obtain⟨mB,rB,_⟩:=zkw G3 s4 (by omega) s3
 obtain⟨mC,rC,_⟩:=zkw G4 w3 w1 w2
 have fL:flats ((allK RL more).map (encT (top+1) (ksK RL)))=true/\deps ((allK RL more).map (encT (top+1) (ksK RL)))<=1:=zg1 _ _ _
 have UA:∀n,underO n (.lst ((allK RL more).map (encT (top+1) (ksK RL)))):=fun n=>zbg n _ _ _
 have UB:∀n,underO n (.lst ((allK (RL.take hf) signs).map (encT (top+1+1) (ksK (RL.take hf))))):=fun n=>zbg n _ _ _
 have UC:∀n,underO n (.lst ((allK [] more).map (encT (top+1) (ksK [])))):=fun n=>zbg n _ _ _
 generalize (allK RL more).map (encT (top+1) (ksK RL))=LA at *
 generalize (allK (RL.take hf) signs).map (encT (top+1+1) (ksK (RL.take hf)))=LB at *
 generalize (allK [] more).map (encT (top+1) (ksK []))=LC at *
 have UE:∀n,underO n (.lst []):=fun n=>by show unders _ _;simp
 have hslv:slV (.loc 2) none (some ((hf:Nat):Int)) [O0,O1,.lst (RL.map encRl),O3,.lst LA]=.ok (.loc 5) [O0,O1,.lst (RL.map encRl),O3,.lst LA,.lst ((RL.take hf).map encRl)]:=by
  simp[slV,itemsAt,cut_map,cut_takeG RL hf hhl]
 have hlen:lenW [.loc 2] [O0,O1,.lst (RL.map encRl),O3,.lst LA]=.ok (.int (RL.length:Nat)) [O0,O1,.lst (RL.map encRl),O3,.lst LA]:=by
  have:=zgd (st:=[O0,O1,.lst (RL.map encRl),O3,.lst LA]) (n:=2) (ds:=RL.map encRl) rfl
  rwa[List.length_map]at this
 have hdv:∀s,fdivV (.int (RL.length:Nat)) (.int 2) s=.ok (.int (hf:Nat)) s:=fun s=>by rw[za0 s _ _ (by omega),hhf]
 have U2:=UR RL
 have U5:=UR (RL.take hf)
 have mA1:=mA 2 [O0,O1,.lst (RL.map encRl),O3] (by
  intro o ho
  simp only[List.mem_cons,List.not_mem_nil,or_false]at ho
  rcases ho with rfl | rfl | rfl | rfl
  ·exact U0 _
  ·exact U1 _
  ·exact U2 _
  ·exact U3 _) rfl
 have rA1:=rA 4 2 [O0,O1,.lst (RL.map encRl),O3,.lst LA] rfl rfl
 have c4:=zfo ns 0 4 [O0,O1,.lst (RL.map encRl),O3,.lst LA] (by rw[<-hO0];rfl) (by omega)
 rw[show ((4:Nat):Int)=4 from rfl]at c4
 generalize cellI ns 4=e4 at *
 have lA1:=lA 4 e4 [O0,O1,.lst (RL.map encRl),O3,.lst LA] rfl
 have mB1:=mB 5 [O0,O1,.lst (RL.map encRl),O3,.lst LA,.lst ((RL.take hf).map encRl)] (by
  intro o ho
  simp only[List.mem_cons,List.not_mem_nil,or_false]at ho
  rcases ho with rfl | rfl | rfl | rfl | rfl | rfl
  ·exact U0 _
  ·exact U1 _
  ·exact U2 _
  ·exact U3 _
  ·exact UA _
  ·exact U5 _) rfl
 have rB1:=rB 6 5 [O0,O1,.lst (RL.map encRl),O3,.lst LA,.lst ((RL.take hf).map encRl),.lst LB] rfl rfl
 have mC1:=mC 7 [O0,O1,.lst (RL.map encRl),O3,.lst LA,.lst ((RL.take hf).map encRl),.lst LB,.lst []] (by
  intro o ho
  simp only[List.mem_cons,List.not_mem_nil,or_false]at ho
  rcases ho with rfl | rfl | rfl | rfl | rfl | rfl | rfl | rfl
  ·exact U0 _
  ·exact U1 _
  ·exact U2 _
  ·exact U3 _
  ·exact UA _
  ·exact U5 _
  ·exact UB _
  ·exact UE _) rfl
 have rC1:=rC 8 9 [O0,O1,.lst (RL.map encRl),O3,.lst LA,.lst ((RL.take hf).map encRl),.lst LB,.lst [],.lst LC,.lst []] rfl rfl
 let S10:Stor:=[O0,O1,.lst (RL.map encRl),O3,.lst LA,.lst ((RL.take hf).map encRl),.lst LB,.lst [],.lst LC,.lst []]
 have hls:listC [.loc 4] S10=.ok (.loc 10) (S10++[.lst LA]):=zfk S10 4 LA rfl
 have hcl:clearV (.loc 4) [] (S10++[.lst LA])=.ok .non [O0,O1,.lst (RL.map encRl),O3,.lst [],.lst ((RL.take hf).map encRl),.lst LB,.lst [],.lst LC,.lst [],.lst LA]:=rfl
 have hty:isTy "list" (.loc 4) (S10++[.lst LA])=true:=rfl
 have mD1:=mA 2 [O0,O1,.lst (RL.map encRl),O3,.lst [],.lst ((RL.take hf).map encRl),.lst LB,.lst [],.lst LC,.lst [],.lst LA] (by
  intro o ho
  simp only[List.mem_cons,List.not_mem_nil,or_false]at ho
  rcases ho with rfl | rfl | rfl | rfl | rfl | rfl | rfl | rfl | rfl | rfl | rfl
  ·exact U0 _
  ·exact U1 _
  ·exact U2 _
  ·exact U3 _
  ·exact UE _
  ·exact U5 _
  ·exact UB _
  ·exact UE _
  ·exact UC _
  ·exact UE _
  ·exact UA _) rfl
 let S12:Stor:=[O0,O1,.lst (RL.map encRl),O3,.lst [],.lst ((RL.take hf).map encRl),.lst LB,.lst [],.lst LC,.lst [],.lst LA,.lst LA]
 have heq:eqV 200 (.loc 11) (.loc 10) S12=.ok (.bl true) S12:=zhl S12 200 11 10 LA rfl rfl fL.1 (by have:=fL.2;omega)
 have hgc:gc [O0] (.ok (.bl true) S12)=.ok (.bl true) [O0]:=zeb (st:=[O0]) (g:=S12.drop 1) (by simp)
 refine⟨[O0],?_⟩
 have tv:∀s:Stor,truV (.bl true) s=some true:=fun _=>rfl
 have tw:∀s:Stor,truV (.bl false) s=some false:=fun _=>rfl
 have fS:_=R.ok (D.loc 1) [O0,O1]:=fS
 have fR:_=R.ok (D.loc 2) [O0,O1,.lst (RL.map encRl)]:=fR
 have mA1:_=R.ok (D.loc 4) [O0,O1,.lst (RL.map encRl),O3,.lst LA]:=mA1
 have mB1:_=R.ok (D.loc 6) [O0,O1,.lst (RL.map encRl),O3,.lst LA,.lst ((RL.take hf).map encRl),.lst LB]:=mB1
 have mC1:_=R.ok (D.loc 8) [O0,O1,.lst (RL.map encRl),O3,.lst LA,.lst ((RL.take hf).map encRl),.lst LB,.lst [],.lst LC]:=mC1
 have mD1:_=R.ok (D.loc 11) S12:=mD1
 have a5:∀s,addV (.int (la:Nat)) (.int d5) s=.ok (.int (top:Nat)) s:=fun s=>by rw[zi6,hd6]
 have a1:∀s,addV (.int (top:Nat)) (.int 1) s=.ok (.int ((top+1:Nat):Int)) s:=fun s=>by rw[zi6];rfl
 have n1:∀s,negV (.int 1) s=.ok (.int (-1)) s:=fun _=>rfl
 have l3:∀(env:MEnv),lstE (fun (env:MEnv) (st:Stor)=>R.ok [D.int 0,.int x5,.int 1] st) env [O0,O1,.lst (RL.map encRl)]=.ok (.loc 3) [O0,O1,.lst (RL.map encRl),O3]:=fun env=>by rw[<-hO3];rfl
 unfold zhm gcF fnM zi4
 rw[show startM 9 [D.loc 0]=[some (.loc 0),none,none,none,none,none,none,none,none] from rfl]
 generalize hE3:lstE (consA (ct (.int 0)) _)=E3
 generalize hE0:(lstE nilA:ME)=E0
 have e3:E3 [some (.loc 0),some (.str signs),some (.loc 1),some (.loc 2),none,none,none,none,none] [O0,O1,.lst (RL.map encRl)]=.ok (.loc 3) [O0,O1,.lst (RL.map encRl),O3]:=by
  rw[<-hE3,<-hO3]
  simp[c5,f53,m31]
 have e7:∀env,E0 env [O0,O1,.lst (RL.map encRl),O3,.lst LA,.lst ((RL.take hf).map encRl),.lst LB]=.ok (.loc 7) [O0,O1,.lst (RL.map encRl),O3,.lst LA,.lst ((RL.take hf).map encRl),.lst LB,.lst []]:=fun env=>by rw[<-hE0];rfl
 have e9:∀env,E0 env [O0,O1,.lst (RL.map encRl),O3,.lst LA,.lst ((RL.take hf).map encRl),.lst LB,.lst [],.lst LC]=.ok (.loc 9) [O0,O1,.lst (RL.map encRl),O3,.lst LA,.lst ((RL.take hf).map encRl),.lst LB,.lst [],.lst LC,.lst []]:=fun env=>by rw[<-hE0];rfl
 clear hE3 hE0 l3 mA rA lA mB rB mC rC U0 U1 U2 U3 U5 UA UB UC UE UR
 generalize ((top+1:Nat):Int)=top1 at *
 generalize S12=Z12 at *
 generalize hQ11:([O0,O1,.lst (RL.map encRl),O3,.lst [],.lst ((RL.take hf).map encRl),.lst LB,.lst [],.lst LC,.lst [],.lst LA]:Stor)=Z11 at *
 generalize S10++[.lst LA]=Y11 at *
 have hls:listC [.loc 4] [O0,O1,.lst (RL.map encRl),O3,.lst LA,.lst ((RL.take hf).map encRl),.lst LB,.lst [],.lst LC,.lst []]=.ok (.loc 10) Y11:=hls
 generalize ([O0,O1,.lst (RL.map encRl),O3,.lst LA,.lst ((RL.take hf).map encRl),.lst LB,.lst [],.lst LC,.lst []]:Stor)=Z10 at *
 generalize ([O0,O1,.lst (RL.map encRl),O3,.lst LA,.lst ((RL.take hf).map encRl),.lst LB,.lst [],.lst LC]:Stor)=Z9 at *
 generalize ([O0,O1,.lst (RL.map encRl),O3,.lst LA,.lst ((RL.take hf).map encRl),.lst LB,.lst []]:Stor)=Z8 at *
 generalize ([O0,O1,.lst (RL.map encRl),O3,.lst LA,.lst ((RL.take hf).map encRl),.lst LB]:Stor)=Z7 at *
 generalize ([O0,O1,.lst (RL.map encRl),O3,.lst LA,.lst ((RL.take hf).map encRl)]:Stor)=Z6 at *
 generalize ([O0,O1,.lst (RL.map encRl),O3,.lst LA]:Stor)=Z5 at *
 generalize ([O0,O1,.lst (RL.map encRl),O3]:Stor)=Z4 at *
 generalize ([O0,O1,.lst (RL.map encRl)]:Stor)=Z3 at *
 generalize ([O0,O1]:Stor)=Z2 at *
 generalize ([O0]:Stor)=Z1 at *
 generalize ((top:Nat):Int)=topI at *
 generalize ((RL.length:Nat):Int)=rlI at *
 generalize ((hf:Nat):Int)=hfI at *
 generalize ((la:Nat):Int)=laI at *
 simp[fA,fS,fR,n1,ixl,e3,c5',m53,hd5,a5,fW,mA1,rA1,c4,lA1,hlen,hdv,hslv,a1,mB1,rB1,e7,e9,mC1,rC1,hls,hty,hcl,mD1,heq,hgc,tv,tw]
end Law
open PySem PySem.W PyProof.Rows
noncomputable def PySem.W.Fast.tw260626673583032743:Unit:=()
noncomputable def PySem.W.Fast.tw14557580849931295077:Unit:=()
noncomputable def PySem.W.Fast.tw18147086872621098696:Unit:=()
noncomputable def PySem.W.Fast.tw17473081107789281400:Unit:=()
noncomputable def PySem.W.Fast.tw5200434820807965706:Unit:=()
noncomputable def PySem.W.Fast.tw16836784029104514061:Unit:=()
noncomputable def PySem.W.Fast.tw781269712939658265:Unit:=()
noncomputable def PySem.W.Fast.tw13563634343539149003:Unit:=()
noncomputable def PySem.W.Fast.tw9234984517024917976:Unit:=()
noncomputable def PySem.W.Fast.tw1387701141120138975:Unit:=()
noncomputable def PySem.W.Fast.tw3928475343951546448:Unit:=()
noncomputable def PySem.W.Fast.tw14675512138397390782:Unit:=()
noncomputable def PySem.W.Fast.tw6378549525279450602:Unit:=()
noncomputable def PySem.W.Fast.tw3436336818890195655:Unit:=()
noncomputable def PySem.W.Fast.tw8021249969678716298:Unit:=()
noncomputable def PySem.W.Fast.tw13742207891899004248:Unit:=()
noncomputable def PySem.W.Fast.tw6322390499831444168:Unit:=()
set_option maxRecDepth 100000 in
set_option maxHeartbeats 0 in
theorem PySem.Challenge.cw_oneofall_k47_the_made_rules_holds : PySem.Challenge.rw_oneofall_k47_the_made_rules.Holds := by
 w_on;o_law;k_head;(case hw=>w_witness2)
 k_fill
 refine M.holds_of (F:=Law.zhm) (k:=6) (x:="_law_script") rfl rfl ⟨rfl,by decide,by decide⟩ (fun w h Y=>PySem.W.kIn_of Y) ?F Law.law_true
 case F =>
  intro w mg fa h KX G hmg
  refine' Law.all_mk KX G hmg ?x1 ?xP ?xT ?xa ?xl ?xc ?xk ?xr_tP ?xr_n ?xr_b ?xr_3 ?xeP ?xeT ?cz_Numbers ?cp_Numbers ?ch_Numbers ?co_Numbers ?cs_Numbers ?ck_Numbers ?ce_Numbers ?cn_Numbers_first ?cn_Numbers_given ?a0 ?l0 ?c0 ?k0 ?a1 ?i1 ?l1 ?c1 ?k1 ?a2 ?i2 ?l2 ?c2 ?k2 ?a3 ?l3 ?c3 ?k3 ?a4 ?l4 ?c4 ?k4 ?a5 ?l5 ?c5 ?k5 ?a6 ?l6 ?c6 ?k6 ?a7 ?l7 ?c7 ?k7 ?a8 ?l8 ?c8 ?k8 ?a9 ?l9 ?c9 ?k9 ?a10 ?l10 ?c10 ?k10 ?a11 ?l11 ?c11 ?k11 ?a12 ?l12 ?c12 ?k12 ?a13 ?l13 ?c13 ?k13 ?a14 ?l14 ?c14 ?k14 ?a15 ?l15 ?c15 ?k15 ?a16 ?l16 ?c16 ?k16 ?a17 ?l17 ?c17 ?k17 ?a18 ?l18 ?c18 ?k18 ?a19 ?l19 ?c19 ?k19 ?a20 ?l20 ?c20 ?k20 ?a21 ?l21 ?c21 ?k21 ?a22 ?l22 ?c22 ?k22 ?v_BLANK ?z_ValueError ?z_bool ?z_enumerate ?z_int ?z_isinstance ?z_len ?z_list ?z_range ?z_set ?z_sorted ?z_str ?z_sum ?z_tuple
  (case x1=>k_is)
  (case xP=>k_is)
  (case xT=>k_is)
  (case xa=>k_is)
  (case xl=>k_is)
  (case xc=>k_is)
  (case xk=>k_is)
  (case xr_tP=>first | k_is | kernel_rfl)
  (case xr_n=>first | k_is | kernel_rfl)
  (case xr_b=>first | k_is | kernel_rfl)
  (case xr_3=>first | k_is | kernel_rfl)
  (case xeP=>k_is)
  (case xeT=>k_is)
  (case cz_Numbers=>first | k_is | kernel_rfl)
  (case cp_Numbers=>first | k_is | kernel_rfl)
  (case ch_Numbers=>first | k_is | kernel_rfl)
  (case co_Numbers=>first | k_is | kernel_rfl)
  (case cs_Numbers=>first | k_is | kernel_rfl)
  (case ck_Numbers=>first | k_is | kernel_rfl)
  (case ce_Numbers=>first | k_is | kernel_rfl)
  (case cn_Numbers_first=>first | k_is | kernel_rfl)
  (case cn_Numbers_given=>first | k_is | kernel_rfl)
  (case a0=>k_is)
  (case l0=>k_is)
  (case c0=>k_is)
  (case k0=>k_is)
  (case a1=>k_is)
  (case i1=>first | k_is | kernel_rfl)
  (case l1=>k_is)
  (case c1=>k_is)
  (case k1=>k_is)
  (case a2=>k_is)
  (case i2=>first | k_is | kernel_rfl)
  (case l2=>k_is)
  (case c2=>k_is)
  (case k2=>k_is)
  (case a3=>k_is)
  (case l3=>k_is)
  (case c3=>k_is)
  (case k3=>k_is)
  (case a4=>k_is)
  (case l4=>k_is)
  (case c4=>k_is)
  (case k4=>k_is)
  (case a5=>k_is)
  (case l5=>k_is)
  (case c5=>k_is)
  (case k5=>k_is)
  (case a6=>k_is)
  (case l6=>k_is)
  (case c6=>k_is)
  (case k6=>k_is)
  (case a7=>k_is)
  (case l7=>k_is)
  (case c7=>k_is)
  (case k7=>k_is)
  (case a8=>k_is)
  (case l8=>k_is)
  (case c8=>k_is)
  (case k8=>k_is)
  (case a9=>k_is)
  (case l9=>k_is)
  (case c9=>k_is)
  (case k9=>k_is)
  (case a10=>k_is)
  (case l10=>k_is)
  (case c10=>k_is)
  (case k10=>k_is)
  (case a11=>k_is)
  (case l11=>k_is)
  (case c11=>k_is)
  (case k11=>k_is)
  (case a12=>k_is)
  (case l12=>k_is)
  (case c12=>k_is)
  (case k12=>k_is)
  (case a13=>k_is)
  (case l13=>k_is)
  (case c13=>k_is)
  (case k13=>k_is)
  (case a14=>k_is)
  (case l14=>k_is)
  (case c14=>k_is)
  (case k14=>k_is)
  (case a15=>k_is)
  (case l15=>k_is)
  (case c15=>k_is)
  (case k15=>k_is)
  (case a16=>k_is)
  (case l16=>k_is)
  (case c16=>k_is)
  (case k16=>k_is)
  (case a17=>k_is)
  (case l17=>k_is)
  (case c17=>k_is)
  (case k17=>k_is)
  (case a18=>k_is)
  (case l18=>k_is)
  (case c18=>k_is)
  (case k18=>k_is)
  (case a19=>k_is)
  (case l19=>k_is)
  (case c19=>k_is)
  (case k19=>k_is)
  (case a20=>k_is)
  (case l20=>k_is)
  (case c20=>k_is)
  (case k20=>k_is)
  (case a21=>k_is)
  (case l21=>k_is)
  (case c21=>k_is)
  (case k21=>k_is)
  (case a22=>k_is)
  (case l22=>k_is)
  (case c22=>k_is)
  (case k22=>k_is)
  (case v_BLANK=>k_is)
  (case z_ValueError=>k_is)
  (case z_bool=>k_is)
  (case z_enumerate=>k_is)
  (case z_int=>k_is)
  (case z_isinstance=>k_is)
  (case z_len=>k_is)
  (case z_list=>k_is)
  (case z_range=>k_is)
  (case z_set=>k_is)
  (case z_sorted=>k_is)
  (case z_str=>k_is)
  (case z_sum=>k_is)
  (case z_tuple=>k_is)
