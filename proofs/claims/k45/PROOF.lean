import PyProof.Rows.All
import Wide.All
import OpenK.AllK
import Wide.FinOn
import Lean
import PyProof.EqAt
import PyProof.EqKinds
import PyProof.TupleCall
import PyProof.DictWalks
import KE.KEqDict
import KE.KIntText
import PyProof.CallStr
import PyProof.DictTruth
import KE.KTupSum
import KE.KListMore
import PyProof.Rows.MinMaxN
import PySem.SetOps
import PyProof.SetKind
import PyProof.TupleKey
import PyProof.Rows.SetFrom
import KE.KSortTup
import PyProof.ListStr
import PyProof.Rows.SortStr
import PyProof.CollectWalk
import PySem.Challenge.RW_oneofall_k45_whole_one_step_of_rows_on_t
set_option Elab.async false
set_option linter.all false
set_option maxRecDepth 100000

namespace L2
open PySem PySem.Spec PyProof.Rows
noncomputable abbrev Key:=Sum Int Str
noncomputable def keyIs:Key->Value->Bool
 | .inl k,v=>Value.isInt k v
 | .inr x,v=>Value.isStrOf x v
noncomputable def keyH (w:World):Key->Int
 | .inl k=>hashInt k
 | .inr x=>hashStr w x
theorem zbt:∀{k:Key} {v:Value},keyIs k v=true->(∃i t,k=Sum.inl i/\v=Value.int i t)\/(∃x t,k=Sum.inr x/\v=Value.str x t)
 | .inl i,v,h=>by
  obtain⟨t,e⟩:=Value.isInt_shape (k:=i) (v:=v) h
  exact .inl ⟨i,t,rfl,e⟩
 | .inr x,v,h=>by
  obtain⟨t,e⟩:=Value.isStrOf_shape (x:=x) (v:=v) h
  exact .inr ⟨x,t,rfl,e⟩
theorem keyIs_int (i:Int)(t:Tok):keyIs (.inl i) (.int i t)=true:=by simp[keyIs,Value.isInt]
theorem keyIs_str (x:Str)(t:Tok):keyIs (.inr x) (.str x t)=true:=by simp[keyIs,Value.isStrOf]
theorem key_ll (a b:Int):decide ((Sum.inl a:Key)=Sum.inl b)=(a==b):=by
 by_cases e:a=b
 ·subst e;simp
 ·have h:¬ (Sum.inl a:Key)=Sum.inl b:=fun q=>e (Sum.inl.inj q)
  rw[decide_eq_false h]
  exact (beq_eq_false_iff_ne.mpr e).symm
theorem key_rr (a b:Str):decide ((Sum.inr a:Key)=Sum.inr b)=decide (a=b):=by
 by_cases e:a=b
 ·subst e;simp
 ·have h:¬ (Sum.inr a:Key)=Sum.inr b:=fun q=>e (Sum.inr.inj q)
  rw[decide_eq_false h,decide_eq_false e]
theorem key_lr (a:Int)(b:Str):decide ((Sum.inl a:Key)=Sum.inr b)=false:=decide_eq_false (fun q=>nomatch q)
theorem key_rl (a:Str)(b:Int):decide ((Sum.inr a:Key)=Sum.inl b)=false:=decide_eq_false (fun q=>nomatch q)
noncomputable def mixKind (prog:Program)(w:World):PySem.KeyKind prog w Key where
 is:=keyIs
 hash:=keyH w
 inj:=fun v a b ha hb=>by
  rcases zbt ha with⟨i,t,rfl,rfl⟩ | ⟨x,t,rfl,rfl⟩
  ·rcases zbt hb with⟨j,u,rfl,e⟩ | ⟨y,u,rfl,e⟩
   ·injection e with e1 _;rw[e1]
   ·exact nomatch e
  ·rcases zbt hb with⟨j,u,rfl,e⟩ | ⟨y,u,rfl,e⟩
   ·exact nomatch e
   ·injection e with e1 _;rw[e1]
 byValue:=fun k v h=>by
  rcases zbt h with⟨i,t,rfl,rfl⟩ | ⟨x,t,rfl,rfl⟩<;>rfl
 pyHash:=fun hv h=>by
  rcases zbt hv with⟨i,t,rfl,rfl⟩ | ⟨x,t,rfl,rfl⟩
  ·exact wpAny_pyHash_int h
  ·exact wpAny_pyHash_str h
 eqBool:=fun hu hv h=>by
  rcases zbt hu with⟨i,t,rfl,rfl⟩ | ⟨x,t,rfl,rfl⟩
  ·rcases zbt hv with⟨j,u,rfl,rfl⟩ | ⟨y,u,rfl,rfl⟩
   ·rw[key_ll]at h;exact wpAny_eqBool_int h
   ·rw[key_lr]at h;exact SeqAt.EqAt.int_str i t y u _ _ _ _ h
  ·rcases zbt hv with⟨j,u,rfl,rfl⟩ | ⟨y,u,rfl,rfl⟩
   ·rw[key_rl]at h;exact SeqAt.EqAt.str_int x t j u _ _ _ _ h
   ·rw[key_rr]at h;exact wpAny_eqBool_str h
 «strs»:=fun k x t v h=>by
  rcases zbt h with⟨i,u,rfl,e⟩ | ⟨y,u,rfl,e⟩
  ·exact nomatch e
  ·injection e with e1 _
   subst e1
   cases v<;>rfl
theorem zll (prog:Program)(w:World)(k:Key)(v:Value):(mixKind prog w).is k v=keyIs k v:=rfl
theorem zks (prog:Program)(w:World)(i:Int)(t:Tok):(mixKind prog w).is (.inl i) (.int i t)=true:=keyIs_int i t
theorem zkr (prog:Program)(w:World)(x:Str)(t:Tok):(mixKind prog w).is (.inr x) (.str x t)=true:=keyIs_str x t
end L2
namespace L2
open PySem PySem.Spec PyProof.Rows
inductive V where
 | non | bl (b:Bool) | int (i:Int) | str (x:Str) | byt (b:Array UInt8) | flt (b:UInt64) | ref (a:Addr) | ty (n:String)
 deriving DecidableEq
noncomputable def RelV:V->Value->Prop
 | .non,u=>u=Value.none
 | .bl b,u=>u=Value.bool b
 | .int i,u=>∃t,u=Value.int i t
 | .str x,u=>∃t,u=Value.str x t
 | .byt b,u=>∃t,u=Value.bytes b t
 | .flt b,u=>∃t,u=Value.float b t
 | .ref a,u=>u=Value.ref a
 | .ty n,u=>u=Value.type n
noncomputable abbrev Vals:List V->List Value->Prop:=Paired RelV
theorem Vals.length {xs:List V}{us:List Value}(r:Vals xs us):xs.length=us.length:=Paired.length r
theorem Vals.get:∀{xs:List V} {us:List Value} {i:Nat} {x:V},Vals xs us->xs[i]? = some x->∃u,us[i]? = some u/\RelV x u
 | _,_,_,_,.nil,e=>by simp at e
 | _,_,0,_,.cons r _,e=>by simp at e;subst e;exact⟨_,rfl,r⟩
 | _,_,i+1,x,.cons _ t,e=>by
  obtain⟨u,h1,h2⟩:=Vals.get (i:=i) (x:=x) t (by simpa using e)
  exact⟨u,by simpa using h1,h2⟩
theorem Vals.set {x:V}{u:Value}(r:RelV x u):∀{xs:List V} {us:List Value} (i:Nat),Vals xs us->Vals (xs.set i x) (us.set i u)
 | _,_,_,.nil=>.nil
 | _,_,0,.cons _ t=>.cons r t
 | _,_,i+1,.cons q t=>.cons q (Vals.set r i t)
theorem Vals.append:∀{xs ys:List V} {us ws:List Value},Vals xs us->Vals ys ws->Vals (xs++ys) (us++ws)
 | _,_,_,_,.nil,s=>s
 | _,_,_,_,.cons r t,s=>.cons r (Vals.append t s)
theorem Vals.take:∀{xs:List V} {us:List Value} (n:Nat),Vals xs us->Vals (xs.take n) (us.take n)
 | _,_,0,_=>.nil
 | _,_,_+1,.nil=>.nil
 | _,_,n+1,.cons r t=>.cons r (Vals.take n t)
theorem Vals.drop:∀{xs:List V} {us:List Value} (n:Nat),Vals xs us->Vals (xs.drop n) (us.drop n)
 | _,_,0,r=>r
 | _,_,_+1,.nil=>.nil
 | _,_,n+1,.cons _ t=>Vals.drop n t
noncomputable def RelO:Option V->Option Value->Prop
 | some v,some u=>RelV v u
 | none,none=>True
 | _,_=>False
noncomputable def KV {κ:Type}:List (κ×V)->List (κ×Value)->Prop:=Paired fun (p:κ×V) (q:κ×Value)=>p.1=q.1/\RelV p.2 q.2
noncomputable def kV:Key->V
 | .inl i=>.int i
 | .inr x=>.str x
inductive HO where
 
 | lst (xs:List V)
 
 | tup (xs:List V)
 
 | dK (kvs:List (Key×V)) | dT (kvs:List (List Key×V))
 
 | set (S:Int->Bool) (n:Nat)
 
 | ins (C dx:Addr) (fs:List (Str×V))
 
 | own (x:Addr)
 
 | xd (fs:List (Str×V))
 
 | met (f x:Addr)
 
 | rng (lo hi:Int)
 
 | frz (o:Obj) (u:HO)
 
 | tbl (ps:Array Value)
 
 | ext (φ:Heap->Prop)
noncomputable abbrev Hp:=Addr->Option HO
noncomputable def upd (H:Hp)(a:Addr)(o:HO):Hp:=fun b=>if b=a then some o else H b
theorem zbd {H:Hp}{a:Addr}{o:HO}:upd H a o a=some o:=by unfold upd;rw[if_pos rfl]
theorem zcx {H:Hp}{a b:Addr}{o:HO}(h:b≠a):upd H a o b=H b:=by unfold upd;rw[if_neg h]
theorem ne_of {H:Hp}{a b:Addr}{o u:HO}(h:H a=some o)(h':H b=some u)(d:o≠u):a≠b:=by
 intro e;subst e;rw[h]at h';exact d (Option.some.inj h')
theorem zb3 {H:Hp}{a b:Addr}{o:HO}(h:H a=some o)(h':H b=none):a≠b:=by
 intro e;subst e;rw[h]at h';cases h'
section
variable (P:Program)(w:World)
noncomputable def ObjOk (H:Hp)(h:Heap)(a:Addr):HO->Prop
 | .lst xs=>xs.length<=sizeLine/\∃(its:List Value) (n:Nat),Vals xs its/\h.get? a=some { cls:=.type "list",data:=.seq its.toArray n }
 | .tup xs=>xs.length<=sizeLine/\∃its:List Value,Vals xs its/\IsTup h a its.toArray
 | .dK kvs=>kvs.length<=sizeLine/\(a==sysModules)=false/\∃vs,KV kvs vs/\h.DictOf (mixKind P w) a vs
 | .dT kvs=>kvs.length<=sizeLine/\(a==sysModules)=false/\∃xs:List (List Key×Addr×Value),
   Paired (fun (p:List Key×V) (q:List Key×Addr×Value)=>p.1=q.1/\H q.2.1=some (.tup (p.1.map kV))/\RelV p.2 q.2.2) kvs xs /\
   ∃o es ep,h.get? a=some o/\o.ExactDict/\o.data=.dict es ep/\es.toList=xs.map (entryOfKey (tupleKind (mixKind P w)))/\(xs.map (·.1)).Nodup
 | .set S n=>h.SetOf (intKind P w) a S n
 | .ins C dx fs=>H dx=some (.own a)/\fs.length<=1000/\dx≠a/\h.get? a=some (PySem.W.instObj C dx) /\
   ∃mA,h.Ns1 dx mA/\(∀f,RelO (fs.lookup f) (mA f))/\PySem.Within mA (fs.map (·.1))
 | .own _=>∃o,h.get? a=some o
 | .xd fs=>∃mA,h.Ns1 a mA/\∀f,RelO (fs.lookup f) (mA f)
 | .rng lo hi=>∃t u v,h.get? a=some { cls:=.type "range",data:=.fields #[.int lo t,.int hi u,.int 1 v] }
 | .frz o u=>h.get? a=some o/\ObjOk H h a u
 | .tbl ps=>h.get? a=some { cls:=.none,data:=.fields ps }
 | .met f x=>h.get? a=some (PySem.W.methodObj (.ref f) (.ref x))
 | .ext φ=>φ h/\(∃o,h.get? a=some o)/\∀h1 h2:Heap,φ h1->(∀o,h1.get? a=some o->h2.get? a=some o)->φ h2
noncomputable def HOk (H:Hp)(h:Heap):Prop:=∀a o,H a=some o->ObjOk P w H h a o
end
section
variable {P:Program}{w:World}{H H':Hp}{h h':Heap}{a:Addr}{o:HO}
theorem ObjOk.lt (x:ObjOk P w H h a o):a<h.objs.size:=by
 cases o with
 | lst xs=>obtain⟨_,_,_,_,e⟩:=x;exact Heap.lt_size e
 | tup xs=>obtain⟨_,_,_,p⟩:=x;exact p.lt
 | dK kvs=>obtain⟨_,_,_,_,o,_,_,e,_⟩:=x;exact Heap.lt_size e
 | dT kvs=>obtain⟨_,_,_,_,o,_,_,e,_⟩:=x;exact Heap.lt_size e
 | set S n=>obtain⟨o,_,_,_,e,_⟩:=x;exact Heap.lt_size e
 | ins C dx fs=>obtain⟨_,_,_,e,_⟩:=x;exact Heap.lt_size e
 | own y=>obtain⟨_,e⟩:=x;exact Heap.lt_size e
 | xd fs=>obtain⟨_,⟨_,_,_,e,_⟩,_⟩:=x;exact Heap.lt_size e
 | rng lo hi=>obtain⟨_,_,_,e⟩:=x;exact Heap.lt_size e
 | frz ob u=>obtain⟨e,_⟩:=x;exact Heap.lt_size e
 | tbl ps=>exact Heap.lt_size (show h.get? a=some _ from x)
 | met f y=>exact Heap.lt_size (show h.get? a=some _ from x)
 | ext φ=>obtain⟨_,⟨_,e⟩,_⟩:=x;exact Heap.lt_size e
theorem Paired.mapP {α β:Type}{F G:α->β->Prop}:∀{l₁:List α} {l₂:List β},Paired F l₁ l₂->(∀a b,F a b->G a b)->Paired G l₁ l₂
 | _,_,.nil,_=>.nil
 | _,_,.cons r t,f=>.cons (f _ _ r) (Paired.mapP t f)
theorem ObjOk.stay (x:ObjOk P w H h a o)(k:∀b u,(b=a\/H b=some (.own a))->h.get? b=some u->h'.get? b=some u)
  (ho:∀b,H b=some (.own a)->H' b=some (.own a)) (ht:∀b xs,H b=some (.tup xs)->H' b=some (.tup xs)):ObjOk P w H' h' a o:=by
 induction o with
 | lst xs=>obtain⟨z,its,n,r,e⟩:=x;exact⟨z,its,n,r,k _ _ (.inl rfl) e⟩
 | tup xs=>obtain⟨z,its,r,ob,e,c⟩:=x;exact⟨z,its,r,ob,k _ _ (.inl rfl) e,c⟩
 | dK kvs=>obtain⟨z,y,vs,r,ob,es,ep,e,c⟩:=x;exact⟨z,y,vs,r,ob,es,ep,k _ _ (.inl rfl) e,c⟩
 | dT kvs =>
  obtain⟨z,y,xs,r,ob,es,ep,e,c⟩:=x
  exact⟨z,y,xs,Paired.mapP r fun p q z=>⟨z.1,ht _ _ z.2.1,z.2.2⟩,ob,es,ep,k _ _ (.inl rfl) e,c⟩
 | set S n=>obtain⟨ob,es,ep,t,e,c⟩:=x;exact⟨ob,es,ep,t,k _ _ (.inl rfl) e,c⟩
 | ins C dx fs =>
  obtain⟨d,z,ne,e,mA,⟨od,es,ep,e2,c⟩,r⟩:=x
  exact⟨ho _ d,z,ne,k _ _ (.inl rfl) e,mA,⟨od,es,ep,k _ _ (.inr d) e2,c⟩,r⟩
 | own y=>obtain⟨ob,e⟩:=x;exact⟨ob,k _ _ (.inl rfl) e⟩
 | xd fs=>obtain⟨mA,⟨od,es,ep,e,c⟩,r⟩:=x;exact⟨mA,⟨od,es,ep,k _ _ (.inl rfl) e,c⟩,r⟩
 | rng lo hi=>obtain⟨t,u,v,e⟩:=x;exact⟨t,u,v,k _ _ (.inl rfl) e⟩
 | frz ob u ih=>obtain⟨e,q⟩:=x;exact⟨k _ _ (.inl rfl) e,ih q⟩
 | tbl ps =>
  have e:h.get? a=some { cls:=.none,data:=.fields ps }:=x
  show h'.get? a=some { cls:=.none,data:=.fields ps }
  exact k a _ (.inl rfl) e
 | met f y =>
  have e:h.get? a=some (PySem.W.methodObj (.ref f) (.ref y)):=x
  show h'.get? a=some (PySem.W.methodObj (.ref f) (.ref y))
  exact k a _ (.inl rfl) e
 | ext φ=>obtain⟨p,⟨o,e⟩,st⟩:=x;exact⟨st _ _ p fun o q=>k _ _ (.inl rfl) q,⟨o,k _ _ (.inl rfl) e⟩,st⟩
theorem HOk.lt (x:HOk P w H h)(e:H a=some o):a<h.objs.size:=(x a o e).lt
theorem HOk.fresh (x:HOk P w H h)(e:h.objs.size<=a):H a=none:=by
 cases q:H a with
 | none=>rfl
 | some u=>exact absurd (Nat.lt_of_lt_of_le (x.lt q) e) (Nat.lt_irrefl _)
theorem HOk.kept (x:HOk P w H h)(k:∀b u,h.get? b=some u->h'.get? b=some u):HOk P w H h':=fun a o e =>
 (x a o e).stay (fun b u _ q=>k b u q) (fun _ q=>q) fun _ _ q=>q
theorem HOk.laid (x:HOk P w H h)(k:∀b u,h.get? b=some u->h'.get? b=some u)(hp:h.objs.size<=a)(new:ObjOk P w (upd H a o) h' a o):HOk P w (upd H a o) h':=fun b u e=>by
 have hn:=x.fresh hp
 by_cases hb:b=a
 ·subst hb;rw[zbd]at e;cases e;exact new
 ·rw[zcx hb]at e
  exact (x b u e).stay (fun c v _ q=>k c v q) (fun c q=>by rw[zcx (zb3 q hn)];exact q) fun c xs q=>by rw[zcx (zb3 q hn)];exact q
end
noncomputable def Rd (H:Hp)(a:Addr)(u:HO):Prop:=H a=some u\/∃o,H a=some (.frz o u)
theorem Rd.ok {P:Program}{w:World}{H:Hp}{h:Heap}{a:Addr}{u:HO}(r:Rd H a u)(x:HOk P w H h):ObjOk P w H h a u:=by
 rcases r with r | ⟨o,r⟩
 ·exact x a u r
 ·obtain⟨_,q⟩:=x a _ r
  exact q
noncomputable def Mut:Option HO->Prop
 | some (.lst _)=>True
 | some (.dK _)=>True
 | some (.dT _)=>True
 | some (.set _ _)=>True
 | some (.ins _ _ _)=>True
 | some (.ext _)=>True
 | _=>False
section
variable {P:Program}{w:World}{H:Hp}{h h':Heap}{x e:Addr}{o':HO}
theorem HOk.write (ok:HOk P w H h)(mu:Mut (H x))(he:e=x\/H e=some (.own x))(k:∀b u,b≠e->h.get? b=some u->h'.get? b=some u)(heo:∃u,h'.get? e=some u)
  (new:ObjOk P w (upd H x o') h' x o'):HOk P w (upd H x o') h':=fun b u q=>by
 have nown:∀c y,H c=some (.own y)->c≠x:=fun c y r z=>by subst z;rw[r]at mu;exact mu
 have ntup:∀c xs,H c=some (.tup xs)->c≠x:=fun c xs r z=>by subst z;rw[r]at mu;exact mu
 by_cases hb:b=x
 ·subst hb;rw[zbd]at q;cases q;exact new
 ·rw[zcx hb]at q
  by_cases hbe:b=e
  ·have q':H b=some (.own x):=by
    rcases he with z | z
    ·exact absurd (hbe.trans z) hb
    ·rw[hbe];exact z
   rw[q]at q';cases q'
   obtain⟨v,hv⟩:=heo
   exact⟨v,by rw[hbe];exact hv⟩
  ·refine (ok b u q).stay (fun c v hc r=>k c v ?_ r) (fun c r=>by rw[zcx (nown c b r)];exact r) fun c xs r=>by rw[zcx (ntup c xs r)];exact r
   rcases hc with rfl | hc
   ·exact hbe
   ·rintro rfl
    rcases he with z | z
    ·exact nown c b hc z
    ·rw[hc]at z;cases z;exact hb rfl
end
structure Un (fs ex:List Addr)(H H':Hp)(h h':Heap):Prop where
 keep:∀b o,h.get? b=some o->H b=none->b∉fs->b∉ex->h'.get? b=some o
 slot:∀b o,h.get? b=some o->H b=none->b∈fs->b∉ex->∃sl,h'.get? b=some { o with slots:=sl }
 free:∀b o,h.get? b=some o->H b=none->b∉ex->H' b=none
 there:∀b o,h.get? b=some o->b∉ex->∃o',h'.get? b=some o'
 tups:∀b xs,H b=some (.tup xs)->H' b=some (.tup xs)
 frzs:∀b o u,H b=some (.frz o u)->H' b=some (.frz o u)
 tbls:∀b ps,H b=some (.tbl ps)->∃more,H' b=some (.tbl (ps++more))
section
variable {fs fs' ex ex':List Addr}{H H1 H2:Hp}{h h1 h2 h':Heap}{a x e:Addr}{o:HO}
theorem Un.any (u:Un fs ex H H1 h h1){b:Addr}{ob:Obj}(q:h.get? b=some ob)(n:H b=none)(hx:b∉ex):∃sl,h1.get? b=some { ob with slots:=sl }:=by
 by_cases hb:b∈fs
 ·exact u.slot b ob q n hb hx
 ·exact⟨ob.slots,u.keep b ob q n hb hx⟩
theorem Un.kept (k:∀b u,h.get? b=some u->h'.get? b=some u):Un fs ex H H h h' :=
 ⟨fun b ob q _ _ _=>k b ob q,fun b ob q _ _ _=>⟨ob.slots,k b ob q⟩,fun _ _ _ n _=>n,fun b ob q _=>⟨ob,k b ob q⟩,fun _ _ q=>q,fun _ _ _ q=>q,fun _ ps q=>⟨#[],by rw[q];simp⟩⟩
theorem Un.refl:Un fs ex H H h h:=Un.kept fun _ _ q=>q
theorem Un.laid (k:∀b u,h.get? b=some u->h'.get? b=some u)(hp:h.objs.size<=a)(hn:H a=none):Un fs ex H (upd H a o) h h' where
 keep:=fun b u q _ _ _=>k b u q
 slot:=fun b u q _ _ _=>⟨u.slots,k b u q⟩
 free:=fun b u q n _=>by rw[zcx (Nat.ne_of_lt (Nat.lt_of_lt_of_le (Heap.lt_size q) hp))];exact n
 there:=fun b u q _=>⟨u,k b u q⟩
 tups:=fun b xs q=>by rw[zcx (zb3 q hn)];exact q
 frzs:=fun b u xs q=>by rw[zcx (zb3 q hn)];exact q
 tbls:=fun b ps q=>⟨#[],by rw[zcx (zb3 q hn),q];simp⟩
theorem Un.write (mu:Mut (H x))(he:e=x\/H e=some (.own x))(k:∀b u,b≠e->h.get? b=some u->h'.get? b=some u)(heo:∃u,h'.get? e=some u):Un fs ex H (upd H x o) h h':=by
 have hx:∀b,H b=none->b≠x:=fun b n z=>by subst z;rw[n]at mu;exact mu
 have hb:∀b,H b=none->b≠e:=fun b n z=>by
  subst z
  rcases he with r | r
  ·exact hx b n r
  ·rw[n]at r;cases r
 have hm:∀b u,H b=some u->¬ Mut (some u)->b≠x:=fun b u q nm z=>by subst z;rw[q]at mu;exact nm mu
 refine⟨fun b u q n _ _=>k b u (hb b n) q,fun b u q n _ _=>⟨u.slots,k b u (hb b n) q⟩,fun b u q n _=>by rw[zcx (hx b n)];exact n,fun b u q _=>?_,
  fun b xs q=>by rw[zcx (hm b _ q fun z=>z)];exact q,fun b u xs q=>by rw[zcx (hm b _ q fun z=>z)];exact q,fun b ps q=>⟨#[],by rw[zcx (hm b _ q fun z=>z),q];simp⟩⟩
 by_cases hbe:b=e
 ·subst hbe;exact heo
 ·exact⟨u,k b u hbe q⟩
end
noncomputable def trk (h:Heap)(H:Hp):List Addr:=(List.range h.objs.size).filter fun a=>(H a).isSome
noncomputable def hidT (h:Heap)(H:Hp):Heap:=PySem.W.hideAll h (trk h H)
theorem zkg (h:Heap)(H:Hp):(hidT h H).objs.size=h.objs.size:=PySem.W.hideAll_size _ _
theorem zlk {h:Heap}{H:Hp}{b:Addr}{o:Obj}(e:h.get? b=some o)(n:H b=none):(hidT h H).get? b=some o :=
 PySem.W.hideAll_get _ e fun hm=>by
  have q:(H b).isSome=true:=(List.mem_filter.mp hm).2
  rw[n]at q;simp at q
theorem of_hidT {h:Heap}{H:Hp}{b:Addr}{o:Obj}(e:(hidT h H).get? b=some o):h.get? b=some o/\H b=none:=by
 have e':h.get? b=some o:=PySem.W.of_hideAll (trk h H) e
 refine⟨e',?_⟩
 cases q:H b with
 | none=>rfl
 | some x =>
  have hm:b∈trk h H:=List.mem_filter.mpr ⟨List.mem_range.mpr (Heap.lt_size e'),by simp[q]⟩
  have z:(hidT h H).get? b=none:=PySem.W.hideAll_none (trk h H) hm
  rw[z]at e;cases e
noncomputable def allNews (g h:Heap)(L:Addr):List (Addr×Obj):=(List.range h.objs.size).filterMap fun a=>if a=L\/(g.get? a).isSome=true then none else (h.get? a).map fun o=>(a,o)
noncomputable def rest (g h:Heap)(L d:Addr):List (Addr×Obj):=(allNews g h L).filter fun p=>decide (p.1≠d)
end L2
namespace L2
open PySem PySem.Spec PyProof.Rows
structure Mod (K:PySem.W.Frag)(mg:Str->Option Value)(base:Heap):Prop where
 kin:K.In base
 glob:base.Ns mainGlobals mg
 blt:∃mb,base.Ns builtinsNs mb/\∀x:Str,x ≠ "__name__"->mb x=bootBuiltins x
 nolimit:base.NoLimit
structure Cx where
 prog:Program
 w:World
 K:PySem.W.Frag
 mg:Str->Option Value
 base:Heap
 A:Around
 N:List Str
 s₀:Shared
 H₀:Hp
 env:Env
 outer:List Env
 stack:List Env
 ex:List Addr
 fn:Str->Bool
 calm:Bool
 pn:List (Addr×Obj)
 xe:Value->Shared->Prop
noncomputable def frs (l:List Env):List Addr:=l.filterMap (·.frame)
noncomputable abbrev Cx.fs (X:Cx):List Addr:=frs X.outer
noncomputable def Vis (sc:Scope)(x:Str):Prop:=sc.names.lookup x=some .local\/sc.names.lookup x=some .cell\/sc.names.lookup x=some .free
noncomputable def Loc (sc:Scope)(x:Str):Prop:=sc.names.lookup x=some .local\/sc.names.lookup x=some .cell
noncomputable def Look (env:Env)(h:Heap)(m:Str->Option Value)(x:Str)(u:Value):Prop :=
 (env.kindOf x=some .local/\m x=some u)\/((env.kindOf x=some .cell\/env.kindOf x=some .free)/\∃c,env.cells.lookup x=some c/\h.IsCell c (some u))
structure Cx.Ok (X:Cx):Prop where
 mod:Mod X.K X.mg X.base
 kind:X.env.scope.kind=.function
 glob:X.env.globals=mainGlobals
 blt:X.env.builtins=builtinsNs
 above:X.s₀.heap.objs.size<=X.env.locals
 inj:∀x y c,X.env.cells.lookup x=some c->X.env.cells.lookup y=some c->x=y
 has:∀x,(X.env.kindOf x=some .cell\/X.env.kindOf x=some .free)->∃c,X.env.cells.lookup x=some c
 cab:∀x c,X.fn x=true->X.env.cells.lookup x=some c->X.s₀.heap.objs.size<=c
 hd:X.calm=true->X.A.handled=none
 frames:X.A.frames=some X.stack
 stk:X.stack=X.outer\/(X.stack=X.env::X.outer/\X.env.frame=some X.env.locals)
 exf:∀b∈X.ex,b≠X.env.locals/\∀x c,X.env.cells.lookup x=some c->c≠b
 bs:∀b o,X.base.get? b=some o->X.s₀.heap.get? b=some o/\X.H₀ b=none
 bsz:X.base.objs.size<=X.s₀.heap.objs.size
 noex:∀b o,X.base.get? b=some o->b∉X.ex
 exfs:∀b∈X.ex,b∉X.fs
 funs:X.s₀.heap.FunFrames X.base X.outer
 frf:∀b∈X.fs,X.H₀ b=none
structure Inv (X:Cx)(pins:List (Addr×Obj))(σ:List (Option V))(H:Hp)(s:Shared):Prop where
 ok:X.Ok
 os:s.os=X.s₀.os
 bare:AllBare s.gens
 base:Un X.fs X.ex X.H₀ H X.s₀.heap s.heap
 loc:∃m,s.heap.Ns X.env.locals m/\∀(i:Nat) (x:Str) (v:V),X.N[i]? = some x->σ[i]? = some (some v)->Vis X.env.scope x->∃u,RelV v u/\Look X.env s.heap m x u
 cell:∀x c,X.env.cells.lookup x=some c->∃v,s.heap.IsCell c v
 free:H X.env.locals=none
 freeC:∀x c,X.env.cells.lookup x=some c->H c=none
 pin:∀p∈X.pn++pins,s.heap.get? p.1=some p.2/\H p.1=none/\p.1≠X.env.locals/\p.1∉X.fs/\∀v,p.2.data≠.cell v
 hok:HOk X.prog X.w H s.heap
 len:σ.length=X.N.length
section
variable {X:Cx}{pins:List (Addr×Obj)}{σ:List (Option V)}{H H':Hp}{s:Shared}{h':Heap}
theorem Cx.Ok.nofr (ok:X.Ok){b:Addr}{o:Obj}(e:X.base.get? b=some o):b∉X.fs:=fun hb=>by
 have:=(ok.funs.mem hb).1
 rw[e]at this;cases this
theorem Inv.bs (I:Inv X pins σ H s):∀b o,X.base.get? b=some o->s.heap.get? b=some o/\H b=none:=fun b o e =>
 ⟨I.base.keep b o (I.ok.bs b o e).1 (I.ok.bs b o e).2 (I.ok.nofr e) (I.ok.noex b o e),I.base.free b o (I.ok.bs b o e).1 (I.ok.bs b o e).2 (I.ok.noex b o e)⟩
theorem Inv.bk (I:Inv X pins σ H s):∀b o,X.base.get? b=some o->s.heap.get? b=some o:=fun b o e=>(I.bs b o e).1
theorem Inv.mod (I:Inv X pins σ H s):Mod X.K X.mg X.base:=I.ok.mod
theorem Inv.kIn (I:Inv X pins σ H s):X.K.In s.heap:=I.ok.mod.kin.keeps I.bk
theorem Inv.lt (I:Inv X pins σ H s):X.env.locals<s.heap.objs.size:=let ⟨_,hn,_⟩:=I.loc;hn.lt
theorem Inv.sz (I:Inv X pins σ H s):X.s₀.heap.objs.size<=s.heap.objs.size:=Nat.le_trans I.ok.above (Nat.le_of_lt I.lt)
theorem Inv.nofs (I:Inv X pins σ H s){a:Addr}(h:s.heap.objs.size<=a):a∉X.fs:=fun hb=>by
 obtain⟨_,o,ho,_⟩:=I.ok.funs.mem hb
 exact absurd (Nat.lt_of_lt_of_le (Heap.lt_size ho) (Nat.le_trans I.sz h)) (Nat.lt_irrefl _)
theorem Inv.cne (I:Inv X pins σ H s):∀x c,X.env.cells.lookup x=some c->c≠X.env.locals:=fun x c e z=>by
 obtain⟨v,o,ho,hd⟩:=I.cell x c e
 obtain⟨m,⟨o',es,ep,ho',hd',_⟩,_⟩:=I.loc
 rw[z,ho']at ho;cases ho;rw[hd']at hd;cases hd
theorem Inv.funs (I:Inv X pins σ H s):s.heap.FunFrames X.base X.outer:=by
 have all:∀(l:List Env),(∀b∈frs l,b∈X.fs)->X.s₀.heap.FunFrames X.base l->s.heap.FunFrames X.base l:=by
  intro l
  induction l with
  | nil=>intro _ _;trivial
  | cons env r ih =>
   intro hs hl
   obtain⟨hk,⟨L,o,hf,hn,ho,hd⟩,hr⟩:=hl
   have hL:L∈X.fs:=hs L (by unfold frs;rw[List.filterMap_cons,hf];exact List.mem_cons_self)
   obtain⟨sl,e⟩:=I.base.slot L o ho (I.ok.frf L hL) hL fun z=>I.ok.exfs L z hL
   exact⟨hk,⟨L,_,hf,hn,e,hd⟩,ih (fun b hb=>hs b (by unfold frs;rw[List.filterMap_cons,hf];exact List.mem_cons_of_mem _ hb)) hr⟩
 exact all X.outer (fun _ hb=>hb) I.ok.funs
theorem Inv.stack (I:Inv X pins σ H s):s.heap.FunFrames X.base X.stack:=by
 rcases I.ok.stk with e | ⟨e,hf⟩
 ·rw[e];exact I.funs
 ·rw[e]
  obtain⟨m,hn,_⟩:=I.loc
  refine .cons (by rw[I.ok.kind];decide) hf hn ?_ I.funs
  exact Heap.get?_none_of_le (Nat.le_trans I.ok.bsz I.ok.above)
theorem Inv.stkSub (I:Inv X pins σ H s):∀b∈frs X.stack,b∈X.env.locals::X.fs:=fun b hb=>by
 rcases I.ok.stk with e | ⟨e,hf⟩
 ·rw[e]at hb;exact List.mem_cons_of_mem _ hb
 ·rw[e]at hb
  unfold frs at hb
  rw[List.filterMap_cons,hf]at hb
  exact hb
theorem Inv.stkFree (I:Inv X pins σ H s):∀b∈frs X.stack,H b=none:=fun b hb=>by
 rcases List.mem_cons.mp (I.stkSub b hb) with e | hb
 ·rw[e];exact I.free
 ·obtain⟨_,o,ho,_⟩:=I.ok.funs.mem hb
  exact I.base.free b o ho (I.ok.frf b hb) fun z=>I.ok.exfs b z hb
theorem Inv.step {g':Array GenState}{t':Nat}{d':Drawn}{ch:List Addr}(I:Inv X pins σ H s)
  (hch:∀b∈ch,(b∈X.ex\/X.s₀.heap.objs.size<=b)/\b≠X.env.locals/\(∀x c,X.env.cells.lookup x=some c->c≠b)/\∀p∈X.pn++pins,p.1≠b)
  (keep:∀b o,b≠X.env.locals->b∉X.fs->b∉ch->s.heap.get? b=some o->H b=none->h'.get? b=some o)
  (slot:∀b o,b≠X.env.locals->b∈X.fs->b∉ch->s.heap.get? b=some o->H b=none->∃sl,h'.get? b=some { o with slots:=sl }) (free:∀b o,b∉ch->s.heap.get? b=some o->H b=none->H' b=none)
  (there:∀b o,b∉ch->s.heap.get? b=some o->∃o',h'.get? b=some o')
  (tups:∀b xs,H b=some (.tup xs)->H' b=some (.tup xs)) (frzs:∀b o u,H b=some (.frz o u)->H' b=some (.frz o u)) (tbls:∀b ps,H b=some (.tbl ps)->∃more,H' b=some (.tbl (ps++more)))
  (ns:∀m,s.heap.Ns X.env.locals m->h'.Ns X.env.locals m) (hok:HOk X.prog X.w H' h') (hg:AllBare g') :
  Inv X pins σ H' { s with heap:=h',gens:=g',drawn:=d',toks:=t' }:=by
 have neL:∀b o,X.s₀.heap.get? b=some o->b≠X.env.locals:=fun b o e=>Nat.ne_of_lt (Nat.lt_of_lt_of_le (Heap.lt_size e) I.ok.above)
 have neC:∀b o,X.s₀.heap.get? b=some o->b∉X.ex->b∉ch:=fun b o e hx hb=>by
  rcases (hch b hb).1 with z | z
  ·exact hx z
  ·exact absurd (Nat.lt_of_lt_of_le (Heap.lt_size e) z) (Nat.lt_irrefl _)
 have cellK:∀x c,X.env.cells.lookup x=some c->∀v,s.heap.IsCell c v->h'.IsCell c v:=fun x c e v zz=>by
  obtain⟨o,ho,hd⟩:=zz
  have nch:c∉ch:=fun z=>(hch c z).2.2.1 x c e rfl
  by_cases hc:c∈X.fs
  ·obtain⟨sl,q⟩:=slot c o (I.cne x c e) hc nch ho (I.freeC x c e)
   exact⟨_,q,hd⟩
  ·exact⟨o,keep c o (I.cne x c e) hc nch ho (I.freeC x c e),hd⟩
 refine⟨I.ok,I.os,hg,⟨fun b o e n hb hx=>?_,fun b o e n hb hx=>?_,fun b o e n hx=>?_,fun b o e hx=>?_,fun b xs e=>tups b xs (I.base.tups b xs e),fun b o xs e=>frzs b o xs (I.base.frzs b o xs e),fun b ps e=>?_⟩,?_,fun x c e=>?_,?_,fun x c e=>?_,fun p hp=>?_,hok,I.len⟩
 ·exact keep b o (neL b o e) hb (neC b o e hx) (I.base.keep b o e n hb hx) (I.base.free b o e n hx)
 ·obtain⟨sl,e1⟩:=I.base.slot b o e n hb hx
  obtain⟨sl',e2⟩:=slot b _ (neL b o e) hb (neC b o e hx) e1 (I.base.free b o e n hx)
  exact⟨sl',e2⟩
 ·obtain⟨o',e1⟩:=I.base.there b o e hx
  exact free b o' (neC b o e hx) e1 (I.base.free b o e n hx)
 ·obtain⟨o',e1⟩:=I.base.there b o e hx
  exact there b o' (neC b o e hx) e1
 ·obtain⟨m1,e1⟩:=I.base.tbls b ps e
  obtain⟨m2,e2⟩:=tbls b _ e1
  exact⟨m1++m2,by rw[e2,Array.append_assoc]⟩
 ·obtain⟨m,hn,hl⟩:=I.loc
  refine⟨m,ns m hn,fun i x v e1 e2 e3=>?_⟩
  obtain⟨u,r,l⟩:=hl i x v e1 e2 e3
  refine⟨u,r,?_⟩
  rcases l with l | ⟨k,c,e,z⟩
  ·exact .inl l
  ·exact .inr ⟨k,c,e,cellK x c e _ z⟩
 ·obtain⟨v,z⟩:=I.cell x c e
  exact⟨v,cellK x c e v z⟩
 ·obtain⟨m,⟨o,_,_,ho,_⟩,_⟩:=I.loc
  exact free _ o (fun z=>(hch _ z).2.1 rfl) ho I.free
 ·obtain⟨v,o,ho,hd⟩:=I.cell x c e
  exact free c o (fun z=>(hch c z).2.2.1 x c e rfl) ho (I.freeC x c e)
 ·obtain⟨e,n,ne,nf,d⟩:=I.pin p hp
  have nch:p.1∉ch:=fun z=>(hch p.1 z).2.2.2 p hp rfl
  exact⟨keep p.1 p.2 ne nf nch e n,free p.1 p.2 nch e n,ne,nf,d⟩
theorem Inv.un {t':Nat}(I:Inv X pins σ H s)(u:Un X.fs [] H H' s.heap h')(hok:HOk X.prog X.w H' h'):Inv X pins σ H' { s with heap:=h',toks:=t' }:=by
 obtain⟨m,⟨o,es,ep,ho,r⟩,_⟩:=id I.loc
 obtain⟨sl,hL⟩:=u.any ho I.free (by simp)
 exact I.step (g':=s.gens) (d':=s.drawn) (ch:=[]) (fun _ z=>nomatch z) (fun b o _ hb _ e n=>u.keep b o e n hb (by simp)) (fun b o _ hb _ e n=>u.slot b o e n hb (by simp)) (fun b o _ e n=>u.free b o e n (by simp)) (fun b o _ e=>u.there b o e (by simp)) u.tups u.frzs u.tbls (fun m' hm=>by
  obtain⟨o',es',ep',ho',r'⟩:=hm
  rw[ho]at ho';cases ho'
  exact⟨_,es',ep',hL,r'⟩) hok I.bare
theorem Inv.call {g':Array GenState}{t':Nat}{d':Drawn}{ch:List Addr}(I:Inv X pins σ H s)(u:Un (frs X.stack) ch H H' s.heap h')(hok:HOk X.prog X.w H' h')(hg:AllBare g')
  (hch:∀b∈ch,(b∈X.ex\/X.s₀.heap.objs.size<=b)/\b≠X.env.locals/\(∀x c,X.env.cells.lookup x=some c->c≠b)/\∀p∈X.pn++pins,p.1≠b) :
  Inv X pins σ H' { s with heap:=h',gens:=g',drawn:=d',toks:=t' }:=by
 obtain⟨m,⟨o,es,ep,ho,r⟩,_⟩:=id I.loc
 obtain⟨sl,hL⟩:=u.any ho I.free fun z=>(hch _ z).2.1 rfl
 exact I.step (ch:=ch) hch (fun b o hL hb hc e n=>u.keep b o e n (fun z=>(List.mem_cons.mp (I.stkSub b z)).elim hL hb) hc) (fun b o _ _ hc e n=>u.any e n hc) (fun b o hc e n=>u.free b o e n hc) (fun b o hc e=>u.there b o e hc) u.tups u.frzs u.tbls (fun m' hm=>by
  obtain⟨o',es',ep',ho',r'⟩:=hm
  rw[ho]at ho';cases ho'
  exact⟨_,es',ep',hL,r'⟩) hok hg
theorem Inv.turned {t':Nat}{it:Addr}(I:Inv X pins σ H s)(k:∀b o,b≠it->s.heap.get? b=some o->h'.get? b=some o)(hn:H it=none)(hL:it≠X.env.locals)
  (h1:it∈X.ex\/X.s₀.heap.objs.size<=it) (h2:∀x c,X.env.cells.lookup x=some c->c≠it) (h3:∀p∈X.pn++pins,p.1≠it):Inv X pins σ H { s with heap:=h',toks:=t' }:=by
 have nit:∀b u,H b=some u->b≠it:=fun b u e z=>by rw[z,hn]at e;cases e
 refine I.step (g':=s.gens) (d':=s.drawn) (ch:=[it]) (fun b hb=>?_) (fun b o _ _ hc e _=>k b o (fun z=>hc (by simp[z])) e) (fun b o _ _ hc e _=>⟨o.slots,k b o (fun z=>hc (by simp[z])) e⟩) (fun _ _ _ _ n=>n)
  (fun b o hc e=>⟨o,k b o (fun z=>hc (by simp[z])) e⟩) (fun _ _ e=>e) (fun _ _ _ e=>e) (fun b ps e=>⟨#[],by rw[e];simp⟩) (fun m hm=>?_) (fun b u e=>?_) I.bare
 ·have e:b=it:=by simpa using hb
  subst e
  exact⟨h1,hL,h2,h3⟩
 ·obtain⟨o,es,ep,ho,r⟩:=hm
  exact⟨o,es,ep,k _ o (Ne.symm hL) ho,r⟩
 ·refine (I.hok b u e).stay (fun c v hc q=>k c v ?_ q) (fun _ q=>q) fun _ _ q=>q
  rcases hc with z | z
  ·rw[z];exact nit b u e
  ·exact nit c _ z
theorem Inv.tok (I:Inv X pins σ H s)(t:Nat):Inv X pins σ H { s with toks:=t }:=I.un (h':=s.heap) (t':=t) Un.refl I.hok
theorem Inv.kept {t':Nat}(I:Inv X pins σ H s)(k:∀b u,s.heap.get? b=some u->h'.get? b=some u):Inv X pins σ H { s with heap:=h',toks:=t' }:=I.un (Un.kept k) (I.hok.kept k)
theorem Inv.laid {a:Addr}{o:HO}{t':Nat}(I:Inv X pins σ H s)(k:∀b u,s.heap.get? b=some u->h'.get? b=some u)(hp:s.heap.objs.size<=a)(new:ObjOk X.prog X.w (upd H a o) h' a o) :
  Inv X pins σ (upd H a o) { s with heap:=h',toks:=t' }:=I.un (Un.laid k hp (I.hok.fresh hp)) (I.hok.laid k hp new)
theorem Inv.write {x e:Addr}{o:HO}{t':Nat}(I:Inv X pins σ H s)(mu:Mut (H x))(he:e=x\/H e=some (.own x))(k:∀b u,b≠e->s.heap.get? b=some u->h'.get? b=some u)(heo:∃u,h'.get? e=some u)
  (new:ObjOk X.prog X.w (upd H x o) h' x o):Inv X pins σ (upd H x o) { s with heap:=h',toks:=t' }:=I.un (Un.write mu he k heo) (I.hok.write mu he k heo new)
theorem Inv.pins_of {pins':List (Addr×Obj)}(I:Inv X pins σ H s)(h:∀p∈pins',s.heap.get? p.1=some p.2/\H p.1=none/\p.1≠X.env.locals/\p.1∉X.fs/\∀v,p.2.data≠.cell v):Inv X pins' σ H s :=
 ⟨I.ok,I.os,I.bare,I.base,I.loc,I.cell,I.free,I.freeC,fun p hp=>(List.mem_append.mp hp).elim (fun z=>I.pin p (List.mem_append_left _ z)) (h p),I.hok,I.len⟩
theorem zml {N:List Str}(hN:N.Nodup){i j:Nat}{x:Str}(a:N[i]? = some x)(b:N[j]? = some x):i=j:=by
 obtain⟨h1,e1⟩:=List.getElem?_eq_some_iff.mp a
 obtain⟨h2,e2⟩:=List.getElem?_eq_some_iff.mp b
 exact (List.getElem_inj hN).mp (e1.trans e2.symm)
theorem store_ok2 {M:Model}{A:Around}{E:Value->Shared->Prop}{i:Nat}{x:Str}{v:V}{u:Value}{Q:Unit->Shared->Prop}(I:Inv X pins σ H s)(hN:X.N.Nodup)(hi:X.N[i]? = some x)(hx:Loc X.env.scope x)(r:RelV v u)
  (h:∀s',Inv X pins (σ.set i (some v)) H s'->(∃a,Heap.SameBut a s.heap s'.heap/\(a=X.env.locals\/X.env.cells.lookup x=some a))->Q () s') (hf:X.fn x=true\/X.env.scope.names.lookup x=some .local:=by first | exact .inl rfl | exact .inr rfl | assumption):wpAny M A (storeName X.env x u) Q E s:=by
 obtain⟨m,hn,hl⟩:=id I.loc
 have hcls:(X.env.scope.kind == .class || (X.env.scope.kind == .module && X.env.locals != X.env.globals))=false:=by rw[I.ok.kind];rfl
 have hiσ:i<σ.length:=by rw[I.len];exact (List.getElem?_eq_some_iff.mp hi).1
 have cne:=I.cne
 have tracked:∀{a:Addr} {h':Heap},(∃o,s.heap.get? a=some o/\H a=none)->Heap.SameBut a s.heap h'->HOk X.prog X.w H h':=fun {a h'} ha hs b ob e=>by
  obtain⟨_,_,hfree⟩:=ha
  refine (I.hok b ob e).stay (fun c w' hc q=>(hs.2 c ?_).trans q) (fun _ q=>q) fun _ _ q=>q
  rintro rfl
  rcases hc with rfl | hc
  ·rw[hfree]at e;cases e
  ·rw[hfree]at hc;cases hc
 rcases hx with hk | hk
 ·refine wpAny_storeName_local hk hn (fun h' hn' hs=>?_) hcls
  obtain⟨oL,_,_,hoL,_⟩:=id hn
  refine h _ ⟨I.ok,I.os,I.bare,⟨fun b o e n hb hx=>?_,fun b o e n hb hx=>?_,I.base.free,fun b o e hx=>?_,I.base.tups,I.base.frzs,I.base.tbls⟩,⟨_,hn',fun j y v' e1 e2 e3=>?_⟩,fun y c e=>?_,I.free,I.freeC,fun p hp=>?_,tracked ⟨oL,hoL,I.free⟩ hs,by simpa using I.len⟩ ⟨_,hs,.inl rfl⟩
  ·exact (hs.2 b (Nat.ne_of_lt (Nat.lt_of_lt_of_le (Heap.lt_size e) I.ok.above))).trans (I.base.keep b o e n hb hx)
  ·obtain⟨sl,e1⟩:=I.base.slot b o e n hb hx
   exact⟨sl,(hs.2 b (Nat.ne_of_lt (Nat.lt_of_lt_of_le (Heap.lt_size e) I.ok.above))).trans e1⟩
  ·obtain⟨o',e1⟩:=I.base.there b o e hx
   exact⟨o',(hs.2 b (Nat.ne_of_lt (Nat.lt_of_lt_of_le (Heap.lt_size e) I.ok.above))).trans e1⟩
  ·by_cases hj:j=i
   ·subst hj
    rw[hi]at e1;cases e1
    rw[List.getElem?_set_self hiσ]at e2
    cases e2
    exact⟨u,r,.inl ⟨hk,by simp⟩⟩
   ·rw[List.getElem?_set_ne (Ne.symm hj)]at e2
    obtain⟨u',r',q⟩:=hl j y v' e1 e2 e3
    refine⟨u',r',?_⟩
    rcases q with⟨k,e⟩ | ⟨k,c,e,z⟩
    ·refine .inl ⟨k,?_⟩
     have:y≠x:=fun e=>hj (zml hN e1 (e ▸ hi))
     simp[this,e]
    ·exact .inr ⟨k,c,e,z.sameBut hs (cne y c e)⟩
  ·obtain⟨w',z⟩:=I.cell y c e
   exact⟨w',z.sameBut hs (cne y c e)⟩
  ·obtain⟨e,n,ne,nf,d⟩:=I.pin p hp
   exact⟨(hs.2 p.1 ne).trans e,n,ne,nf,d⟩
 ·have hfn:X.fn x=true:=by
   rcases hf with z | z
   ·exact z
   ·rw[z]at hk;cases hk
  obtain⟨c,hc⟩:=I.ok.has x (.inl hk)
  obtain⟨w',z⟩:=I.cell x c hc
  refine wpAny_storeName_cell I.ok.kind hk hc z (fun h' hc' hs=>?_)
  obtain⟨oc,hoc,hocd⟩:=id z
  refine h { s with heap:=h' } ⟨I.ok,I.os,I.bare,⟨fun b o e n hb hx=>?_,fun b o e n hb hx=>?_,I.base.free,fun b o e hx=>?_,I.base.tups,I.base.frzs,I.base.tbls⟩,⟨m,hn.sameBut hs (Ne.symm (cne x c hc)),fun j y v' e1 e2 e3=>?_⟩,fun y c' e=>?_,I.free,I.freeC,fun p hp=>?_,tracked ⟨oc,hoc,I.freeC x c hc⟩ hs,by simpa using I.len⟩ ⟨c,hs,.inr hc⟩
  ·exact (hs.2 b (Nat.ne_of_lt (Nat.lt_of_lt_of_le (Heap.lt_size e) (I.ok.cab x c hfn hc)))).trans (I.base.keep b o e n hb hx)
  ·obtain⟨sl,e1⟩:=I.base.slot b o e n hb hx
   exact⟨sl,(hs.2 b (Nat.ne_of_lt (Nat.lt_of_lt_of_le (Heap.lt_size e) (I.ok.cab x c hfn hc)))).trans e1⟩
  ·obtain⟨o',e1⟩:=I.base.there b o e hx
   exact⟨o',(hs.2 b (Nat.ne_of_lt (Nat.lt_of_lt_of_le (Heap.lt_size e) (I.ok.cab x c hfn hc)))).trans e1⟩
  ·by_cases hj:j=i
   ·subst hj
    rw[hi]at e1;cases e1
    rw[List.getElem?_set_self hiσ]at e2
    cases e2
    exact⟨u,r,.inr ⟨.inl hk,c,hc,hc'⟩⟩
   ·rw[List.getElem?_set_ne (Ne.symm hj)]at e2
    obtain⟨u',r',q⟩:=hl j y v' e1 e2 e3
    refine⟨u',r',?_⟩
    rcases q with q | ⟨k,c',e,z'⟩
    ·exact .inl q
    ·refine .inr ⟨k,c',e,z'.sameBut hs ?_⟩
     rintro rfl
     exact hj (zml hN e1 (I.ok.inj _ _ _ e hc ▸ hi))
  ·by_cases hcc:c'=c
   ·subst hcc;exact⟨_,hc'⟩
   ·obtain⟨w2,z2⟩:=I.cell y c' e
    exact⟨w2,z2.sameBut hs hcc⟩
  ·obtain⟨e,n,ne,nf,d⟩:=I.pin p hp
   refine⟨(hs.2 p.1 ?_).trans e,n,ne,nf,d⟩
   intro q
   rw[q,hoc]at e
   have q':oc=p.2:=Option.some.inj e
   exact d w' (by rw[<-q'];exact hocd)
theorem zl2 {M:Model}{A:Around}{E:Value->Shared->Prop}{i:Nat}{x:Str}{v:V}{u:Value}{Q:Unit->Shared->Prop}(I:Inv X pins σ H s)(hN:X.N.Nodup)(hi:X.N[i]? = some x)(hx:Loc X.env.scope x)(r:RelV v u)
  (h:∀s',Inv X pins (σ.set i (some v)) H s'->Q () s') (hf:X.fn x=true\/X.env.scope.names.lookup x=some .local:=by first | exact .inl rfl | exact .inr rfl | assumption):wpAny M A (storeName X.env x u) Q E s :=
 store_ok2 I hN hi hx r (fun s' I' _=>h s' I') hf
theorem Inv.call' {s':Shared}{ch:List Addr}(I:Inv X pins σ H s)(ho:s'.os=s.os)(u:Un (frs X.stack) ch H H' s.heap s'.heap)(hok:HOk X.prog X.w H' s'.heap)(hg:AllBare s'.gens)
  (hch:∀b∈ch,(b∈X.ex\/X.s₀.heap.objs.size<=b)/\b≠X.env.locals/\(∀x c,X.env.cells.lookup x=some c->c≠b)/\∀p∈X.pn++pins,p.1≠b):Inv X pins σ H' s':=by
 obtain⟨h',g',d',t',o'⟩:=s'
 have e:o'=s.os:=ho
 subst e
 exact I.call (g':=g') (t':=t') (d':=d') u hok hg hch
end
noncomputable abbrev XK:=Value->Option Addr->Hp->Prop
noncomputable abbrev St:=List (Option V)
noncomputable abbrev VK:=V->Hp->Prop
noncomputable abbrev TE:=St->Hp->VK->Prop
noncomputable abbrev TT:=St->Hp->(Bool->Hp->Prop)->Prop
noncomputable abbrev TA:=St->Hp->(List V->Hp->Prop)->Prop
structure Ends where
 nx:St->Hp->Prop
 rt:VK
 bk:St->Hp->Prop:=fun _ _=>False
 ct:St->Hp->Prop:=fun _ _=>False
noncomputable abbrev TS:=Ends->St->Hp->Prop
noncomputable def EP (X:Cx)(pins:List (Addr×Obj))(σ:St)(Q:VK)(u:Value)(s':Shared):Prop:=∃v H',Inv X pins σ H' s'/\RelV v u/\Q v H'
noncomputable def TP (X:Cx)(pins:List (Addr×Obj))(σ:St)(Q:Bool->Hp->Prop)(b:Bool)(s':Shared):Prop:=∃H',Inv X pins σ H' s'/\Q b H'
noncomputable def AP (X:Cx)(pins:List (Addr×Obj))(σ:St)(Q:List V->Hp->Prop)(us:List Value)(s':Shared):Prop:=∃vs H',Inv X pins σ H' s'/\Vals vs us/\Q vs H'
noncomputable def SP (X:Cx)(pins:List (Addr×Obj))(D:Ends)(f:Flow)(s':Shared):Prop :=
 match f with
 | .next=>∃σ' H',Inv X pins σ' H' s'/\D.nx σ' H'
 | .brk=>∃σ' H',Inv X pins σ' H' s'/\D.bk σ' H'
 | .cont=>∃σ' H',Inv X pins σ' H' s'/\D.ct σ' H'
 | .ret u=>∃v σ' H',Inv X pins σ' H' s'/\RelV v u/\D.rt v H'
noncomputable def PE (X:Cx)(e:Expr)(t:TE):Prop :=
 ∀(pins:List (Addr×Obj)) (s:Shared) (σ:St) (H:Hp) (Q:VK),Inv X pins σ H s->t σ H Q->wpAny (model X.prog X.w) X.A (eval e X.env) (EP X pins σ Q) X.xe s
noncomputable def PT (X:Cx)(e:Expr)(t:TT):Prop :=
 ∀(pins:List (Addr×Obj)) (s:Shared) (σ:St) (H:Hp) (Q:Bool->Hp->Prop),Inv X pins σ H s->t σ H Q->wpAny (model X.prog X.w) X.A (isTrue e X.env (eval e X.env)) (TP X pins σ Q) X.xe s
noncomputable def PW (X:Cx)(e:Expr)(t:TT):Prop :=
 ∀(whole:Sem Value) (pins:List (Addr×Obj)) (s:Shared) (σ:St) (H:Hp) (Q:Bool->Hp->Prop),Inv X pins σ H s->t σ H Q->wpAny (model X.prog X.w) X.A (isTrue e X.env whole) (TP X pins σ Q) X.xe s
theorem PW.pt {X:Cx}{e:Expr}{t:TT}(h:PW X e t):PT X e t:=h _
noncomputable def PA (X:Cx)(es:List Expr)(t:TA):Prop :=
 ∀(pos:Pos) (pins:List (Addr×Obj)) (s:Shared) (σ:St) (H:Hp) (Q:List V->Hp->Prop),Inv X pins σ H s->t σ H Q->wpAny (model X.prog X.w) X.A (spliced (backTo pos (starEach es X.env))) (AP X pins σ Q) X.xe s
noncomputable def PS (X:Cx)(st:Stmt)(t:TS):Prop :=
 ∀(pins:List (Addr×Obj)) (s:Shared) (σ:St) (H:Hp) (D:Ends),Inv X pins σ H s->t D σ H->wpAny (model X.prog X.w) X.A (exec st X.env) (SP X pins D) X.xe s
noncomputable def PSs (X:Cx)(st:List Stmt)(t:TS):Prop :=
 ∀(pins:List (Addr×Obj)) (s:Shared) (σ:St) (H:Hp) (D:Ends),Inv X pins σ H s->t D σ H->wpAny (model X.prog X.w) X.A (execs st X.env) (SP X pins D) X.xe s
theorem thn {α:Type}{t:Sem α}{Q Q':α->Shared->Prop}{M:Model}{A:Around}{E:Value->Shared->Prop}{s:Shared}(h:wpAny M A t Q E s)(hQ:∀a s,Q a s->Q' a s):wpAny M A t Q' E s:=wpAny_mono h hQ fun _ _ x=>x
end L2
namespace L2
open PySem PySem.Spec PyProof.Rows
section
variable {X:Cx}
noncomputable def tVar (i:Nat):TE:=fun σ H Q=>∃v,σ[i]? = some (some v)/\Q v H
noncomputable def tC (v:V):TE:=fun _ H Q=>Q v H
theorem pe_var {i:Nat}{x:Str}{pos:Pos}(hN:X.N[i]? = some x)(hv:Vis X.env.scope x)(hd:(x==("__debug__":Str))=false:=by decide)(hcd:(x==("__classdict__":Str))=false:=by decide):PE X (.Name x pos) (tVar i):=by
 intro pins s σ H Q I h
 obtain⟨v,e,h⟩:=h
 obtain⟨m,hn,hl⟩:=I.loc
 obtain⟨u,r,l⟩:=hl i x v hN e hv
 have fin:EP X pins σ Q u s:=⟨v,H,I,r,h⟩
 rcases l with⟨hk,hm⟩ | ⟨hk,c,hc,hcell⟩
 ·exact wpAny_Name (wpAny_loadName_local I.ok.kind hk hn hm fin) hd
 ·rcases hk with hk | hk
  ·exact wpAny_Name (wpAny_loadName_cell I.ok.kind hk hc hcell fin) hd
  ·exact wpAny_Name (wpAny_loadName_free I.ok.kind hk hc hcell fin hcd) hd
theorem pe_int {i j pos}:PE X (.Constant (.int i) j pos) (tC (.int i)):=fun _ _ _ H _ I h=>wpAny_Constant_int ⟨.int i,H,I.tok _,⟨_,rfl⟩,h⟩
theorem pe_bl {b j pos}:PE X (.Constant (.bool b) j pos) (tC (.bl b)):=fun _ _ _ H _ I h=>Constant_bool ⟨.bl b,H,I,rfl,h⟩
theorem pe_non {j pos}:PE X (.Constant .none j pos) (tC .non):=fun _ _ _ H _ I h=>Constant_none ⟨.non,H,I,rfl,h⟩
theorem pe_str {x j pos}:PE X (.Constant (.str x) j pos) (tC (.str x)):=fun _ _ _ H _ I h=>Calls.Constant_str ⟨.str x,H,I.tok _,⟨_,rfl⟩,h⟩
noncomputable def Gl (X:Cx)(x:Str):Prop:=X.env.kindOf x=some .globalImplicit
theorem zk5 {E:Value->Shared->Prop}{pins:List (Addr×Obj)}{s:Shared}{σ:St}{H:Hp}{x:Str}{u:Value}{pos:Pos}{Q:Value->Shared->Prop}(I:Inv X pins σ H s)(hg:Gl X x)(hm:X.mg x=some u)(h:Q u s)
  (hd:(x==("__debug__":Str))=false:=by decide):wpAny (model X.prog X.w) X.A (eval (.Name x pos) X.env) Q E s :=
 Calls.Name_function_global I.ok.kind hg (Calls.loadGlobal_global (by rw[I.ok.glob];exact I.mod.glob.keeps I.bk) hm h) hd
theorem zjk {E:Value->Shared->Prop}{pins:List (Addr×Obj)}{s:Shared}{σ:St}{H:Hp}{x:Str}{u:Value}{pos:Pos}{Q:Value->Shared->Prop}(I:Inv X pins σ H s)(hg:Gl X x)(hm:X.mg x=none)(hv:bootBuiltins x=some u)(h:Q u s)
  (hn:x ≠ "__name__":=by decide) (hd:(x==("__debug__":Str))=false:=by decide):wpAny (model X.prog X.w) X.A (eval (.Name x pos) X.env) Q E s:=by
 obtain⟨mb,h1,h2⟩:=I.mod.blt
 exact Calls.Name_function_global I.ok.kind hg (Calls.loadGlobal_builtin (by rw[I.ok.glob];exact I.mod.glob.keeps I.bk) hm (by rw[I.ok.blt];exact h1.keeps I.bk) ((h2 x hn).trans hv) h) hd
theorem pe_glob {x:Str}{v:V}{u:Value}{pos:Pos}(hg:Gl X x)(hm:X.mg x=some u)(r:RelV v u)(hd:(x==("__debug__":Str))=false:=by decide):PE X (.Name x pos) (tC v) :=
 fun _ _ _ H _ I h=>zk5 I hg hm ⟨v,H,I,r,h⟩ hd
theorem pe_bltn {x:Str}{v:V}{u:Value}{pos:Pos}(hg:Gl X x)(hm:X.mg x=none)(hv:bootBuiltins x=some u)(r:RelV v u)(hn:x ≠ "__name__":=by decide)(hd:(x==("__debug__":Str))=false:=by decide):PE X (.Name x pos) (tC v) :=
 fun _ _ _ H _ I h=>zjk I hg hm hv ⟨v,H,I,r,h⟩ hn hd
variable {a b:Expr}{ta tb:TE}{pos:Pos}
variable {tA tB':TT}{rest:List Expr}
noncomputable def tAnd (t u:TT):TT:=fun σ H Q=>t σ H fun c H1=>if c=true then u σ H1 Q else Q false H1
noncomputable def tOr (t u:TT):TT:=fun σ H Q=>t σ H fun c H1=>if c=true then Q true H1 else u σ H1 Q
noncomputable def tNot (t:TT):TT:=fun σ H Q=>t σ H fun c H1=>Q (!c) H1
theorem pw_and1 (ha:PT X a tA):PW X (.BoolOp .And [a] pos) tA:=by
 intro wh pins s σ H Q I h
 refine isTrue_and (thn (ha pins s σ H Q I h) fun c s1 e=>?_)
 cases c with
 | true=>exact isTrue_and_nil e
 | false=>exact e
theorem pw_or1 (ha:PT X a tA):PW X (.BoolOp .Or [a] pos) tA:=by
 intro wh pins s σ H Q I h
 refine isTrue_or (thn (ha pins s σ H Q I h) fun c s1 e=>?_)
 cases c with
 | false=>exact isTrue_or_nil e
 | true=>exact e
theorem pw_and (ha:PT X a tA)(hb:PW X (.BoolOp .And (b::rest) pos) tB'):PW X (.BoolOp .And (a::b::rest) pos) (tAnd tA tB'):=by
 intro wh pins s σ H Q I h
 refine isTrue_and (thn (ha pins s σ H _ I h) fun c s1 zz=>?_)
 obtain⟨H1,I1,q1⟩:=zz
 cases c with
 | true=>exact hb wh pins s1 σ H1 Q I1 q1
 | false=>exact⟨H1,I1,q1⟩
theorem pw_or (ha:PT X a tA)(hb:PW X (.BoolOp .Or (b::rest) pos) tB'):PW X (.BoolOp .Or (a::b::rest) pos) (tOr tA tB'):=by
 intro wh pins s σ H Q I h
 refine isTrue_or (thn (ha pins s σ H _ I h) fun c s1 zz=>?_)
 obtain⟨H1,I1,q1⟩:=zz
 cases c with
 | true=>exact⟨H1,I1,q1⟩
 | false=>exact hb wh pins s1 σ H1 Q I1 q1
theorem pt_not (ha:PT X a tA):PT X (.UnaryOp .Not a pos) (tNot tA):=by
 intro pins s σ H Q I h
 exact isTrue_not (ha pins s σ H (fun c H1=>Q (!c) H1) I h)
noncomputable def tAndV (ta tb:TE):TE:=fun σ H Q=>ta σ H fun x H1=>∃c,x=.bl c/\if c=true then tb σ H1 Q else Q (.bl false) H1
theorem pe_one {op}{t:TE}(h:PE X a t):PE X (.BoolOp op [a] pos) t:=fun pins s σ H Q I hw=>BoolOp_one (h pins s σ H Q I hw)
theorem pe_and (ha:PE X a ta)(hb:PE X (.BoolOp .And (b::rest) pos) tb):PE X (.BoolOp .And (a::b::rest) pos) (tAndV ta tb):=by
 intro pins s σ H Q I h
 refine BoolOp_and (thn (ha pins s σ H _ I h) fun v s1 zz=>?_)
 obtain⟨x,H1,I1,r1,q1⟩:=zz
 obtain⟨c,rfl,q1⟩:=q1
 cases r1
 refine wpAny_truthy_bool ?_
 cases c with
 | true=>exact hb pins s1 σ H1 Q I1 q1
 | false=>exact⟨.bl false,H1,I1,rfl,q1⟩
end
end L2
namespace L2
open PySem PySem.Spec PyProof.Rows
noncomputable def SqL (K:PySem.W.Frag)(H:Hp)(a:Addr)(xs:List V):Prop :=
 Rd H a (.lst xs) \/
  ∃(o:Obj) (its:Array Value) (n:Nat),K.lookup a=some o/\o.cls=.type "list"/\o.dict=none/\o.data=.seq its n/\its.size<=sizeLine/\Vals xs its.toList
noncomputable def SqT (K:PySem.W.Frag)(H:Hp)(a:Addr)(xs:List V):Prop :=
 Rd H a (.tup xs) \/
  ∃(o:Obj) (its:Array Value) (n:Nat),K.lookup a=some o/\o.cls=.type "tuple"/\o.data=.seq its n/\its.size<=sizeLine/\Vals xs its.toList
noncomputable def absV:Value->Option V
 | .none=>some .non
 | .bool b=>some (.bl b)
 | .int i _=>some (.int i)
 | .str x _=>some (.str x)
 | .bytes b _=>some (.byt b)
 | .float b _=>some (.flt b)
 | .ref a=>some (.ref a)
 | .type n=>some (.ty n)
 | _=>none
theorem RelV.abs {x:V}{u:Value}(r:RelV x u):absV u=some x:=by
 cases x with
 | non=>cases r;rfl
 | bl _=>cases r;rfl
 | int _=>obtain⟨t,rfl⟩:=r;rfl
 | str _=>obtain⟨t,rfl⟩:=r;rfl
 | byt _=>obtain⟨t,rfl⟩:=r;rfl
 | flt _=>obtain⟨t,rfl⟩:=r;rfl
 | ref _=>cases r;rfl
 | ty _=>cases r;rfl
theorem RelV.inj {x y:V}{u:Value}(r:RelV x u)(q:RelV y u):x=y:=Option.some.inj (r.abs.symm.trans q.abs)
theorem Vals.inj:∀{xs ys:List V} {us:List Value},Vals xs us->Vals ys us->xs=ys
 | _,_,_,.nil,.nil=>rfl
 | _,_,_,.cons r t,.cons r' t'=>by rw[r.inj r',Vals.inj t t']
section
variable {X:Cx}{pins:List (Addr×Obj)}{σ:St}{H:Hp}{s:Shared}{a:Addr}{xs ys:List V}
theorem SqL.of {K:PySem.W.Frag}(h:H a=some (.lst xs)):SqL K H a xs:=.inl (.inl h)
theorem SqT.of {K:PySem.W.Frag}(h:H a=some (.tup xs)):SqT K H a xs:=.inl (.inl h)
theorem Inv.list (I:Inv X pins σ H s)(h:SqL X.K H a xs):∃its:List Value,Vals xs its/\PlainL s.heap a its.toArray/\xs.length<=sizeLine:=by
 rcases h with h | ⟨o,its,n,hk,hc,hd,hs,hz,r⟩
 ·obtain⟨z,its,n,r,e⟩:=h.ok I.hok
  exact⟨its,r,⟨_,n,e,rfl,rfl,rfl⟩,z⟩
 ·refine⟨its.toList,r,⟨o,n,I.kIn a o hk,hc,hd,by simpa using hs⟩,?_⟩
  have e:=r.length
  simp only[Array.length_toList]at e
  omega
theorem Inv.tuple (I:Inv X pins σ H s)(h:SqT X.K H a xs):∃its:List Value,Vals xs its/\IsTup s.heap a its.toArray/\xs.length<=sizeLine:=by
 rcases h with h | ⟨o,its,n,hk,hc,hs,hz,r⟩
 ·obtain⟨z,its,r,p⟩:=h.ok I.hok
  exact⟨its,r,p,z⟩
 ·refine⟨its.toList,r,⟨o,I.kIn a o hk,hc,n,by simpa using hs⟩,?_⟩
  have e:=r.length
  simp only[Array.length_toList]at e
  omega
theorem Inv.list_inj (I:Inv X pins σ H s)(h:SqL X.K H a xs)(h':SqL X.K H a ys):xs=ys:=by
 obtain⟨its,r,⟨o,n,e,_,_,d⟩,_⟩:=I.list h
 obtain⟨its',r',⟨o',n',e',_,_,d'⟩,_⟩:=I.list h'
 rw[e]at e';cases e'
 rw[d]at d'
 injection d' with d1 _
 have:its=its':=by simpa using congrArg Array.toList d1
 subst this
 exact r.inj r'
theorem Inv.tuple_inj (I:Inv X pins σ H s)(h:SqT X.K H a xs)(h':SqT X.K H a ys):xs=ys:=by
 obtain⟨its,r,⟨o,e,_,n,d⟩,_⟩:=I.tuple h
 obtain⟨its',r',⟨o',e',_,n',d'⟩,_⟩:=I.tuple h'
 rw[e]at e';cases e'
 rw[d]at d'
 injection d' with d1 _
 have:its=its':=by simpa using congrArg Array.toList d1
 subst this
 exact r.inj r'
end
noncomputable abbrev Cx.wish (X:Cx)(E:Value->Shared->Prop):Cx:={ X with xe:=E }
noncomputable abbrev Cx.nox (X:Cx):Cx:=X.wish fun _ _=>False
theorem Cx.Ok.wish {X:Cx}(ok:X.Ok)(E:Value->Shared->Prop):(X.wish E).Ok :=
 ⟨ok.mod,ok.kind,ok.glob,ok.blt,ok.above,ok.inj,ok.has,ok.cab,ok.hd,ok.frames,ok.stk,ok.exf,ok.bs,ok.bsz,ok.noex,ok.exfs,ok.funs,ok.frf⟩
theorem Cx.Ok.unwish {X:Cx}{E:Value->Shared->Prop}(ok:(X.wish E).Ok):X.Ok :=
 ⟨ok.mod,ok.kind,ok.glob,ok.blt,ok.above,ok.inj,ok.has,ok.cab,ok.hd,ok.frames,ok.stk,ok.exf,ok.bs,ok.bsz,ok.noex,ok.exfs,ok.funs,ok.frf⟩
section
variable {X:Cx}{pins:List (Addr×Obj)}{σ:St}{H:Hp}{s:Shared}{E:Value->Shared->Prop}
theorem Inv.wish (I:Inv X pins σ H s)(E:Value->Shared->Prop):Inv (X.wish E) pins σ H s:=⟨I.ok.wish E,I.os,I.bare,I.base,I.loc,I.cell,I.free,I.freeC,I.pin,I.hok,I.len⟩
theorem Inv.unwish (I:Inv (X.wish E) pins σ H s):Inv X pins σ H s:=⟨I.ok.unwish,I.os,I.bare,I.base,I.loc,I.cell,I.free,I.freeC,I.pin,I.hok,I.len⟩
theorem SP.unwish {D:Ends}{f:Flow}{s':Shared}(h:SP (X.wish E) pins D f s'):SP X pins D f s':=by
 cases f with
 | next=>obtain⟨σ',H',I,q⟩:=h;exact⟨σ',H',I.unwish,q⟩
 | brk=>obtain⟨σ',H',I,q⟩:=h;exact⟨σ',H',I.unwish,q⟩
 | cont=>obtain⟨σ',H',I,q⟩:=h;exact⟨σ',H',I.unwish,q⟩
 | ret u=>obtain⟨v,σ',H',I,r,q⟩:=h;exact⟨v,σ',H',I.unwish,r,q⟩
theorem PSs.nox {st:List Stmt}{t:TS}(h:PSs X.nox st t):PSs X st t:=fun pins s σ H D I hw =>
 wpAny_mono (h pins s σ H D (I.wish _) hw) (fun _ _ q=>q.unwish) fun _ _ z=>False.elim z
end
section
variable {X:Cx}{st:Stmt}{rest:List Stmt}{t u:TS}{e:Expr}{te:TE}{pos:Pos}
noncomputable def tNext:TS:=fun D σ H=>D.nx σ H
noncomputable def tSeq (t u:TS):TS:=fun D σ H=>t { D with nx:=u D } σ H
theorem pss_nil:PSs X [] tNext:=fun _ _ σ H _ I h=>wpAny_execs_nil ⟨σ,H,I,h⟩
theorem pss_cons (h1:PS X st t)(h2:PSs X rest u):PSs X (st::rest) (tSeq t u):=by
 intro pins s σ H D I h
 refine wpAny_execs_cons (thn (h1 pins s σ H { D with nx:=u D } I h) fun f s1 q=>?_)
 cases f with
 | next =>
  obtain⟨σ',H',I',q⟩:=q
  exact h2 pins s1 σ' H' D I' q
 | ret v=>exact q
 | brk=>exact q
 | cont=>exact q
theorem pss_one (h1:PS X st t):PSs X [st] t:=by
 intro pins s σ H D I h
 refine wpAny_execs_cons (thn (h1 pins s σ H D I h) fun f s1 q=>?_)
 cases f with
 | next=>exact wpAny_execs_nil q
 | ret v=>exact q
 | brk=>exact q
 | cont=>exact q
theorem Inv.quiet {pins:List (Addr×Obj)}{σ:St}{H:Hp}{s:Shared}(I:Inv X pins σ H s):interactive X.env=false:=by simp[interactive,I.ok.kind]
noncomputable def tDrop (te:TE):TS:=fun D σ H=>te σ H fun _ H1=>D.nx σ H1
theorem ps_expr (he:PE X e te)(hs:swapsWith e none pos.line X.env=pure false:=by rfl):PS X (.Expr e pos) (tDrop te):=by
 intro pins s σ H D I h
 refine wpAny_Expr_any (thn (he pins s σ H _ I h) fun v s1 zz=>?_) I.quiet hs
 obtain⟨x,H1,I1,r1,q1⟩:=zz
 exact⟨σ,H1,I1,q1⟩
noncomputable def tRet (te:TE):TS:=fun D σ H=>te σ H D.rt
theorem ps_ret (he:PE X e te):PS X (.Return (some e) pos) (tRet te):=by
 intro pins s σ H D I h
 refine wpAny_Return_some (thn (he pins s σ H _ I h) fun v s1 zz=>?_)
 obtain⟨x,H1,I1,r1,q1⟩:=zz
 exact⟨x,σ,H1,I1,r1,q1⟩
noncomputable def tIfS (c:TT)(t u:TS):TS:=fun D σ H=>c σ H fun b H1=>if b=true then t D σ H1 else u D σ H1
theorem ps_if {c:Expr}{a b:List Stmt}{tc:TT}(hc:PT X c tc)(ha:PSs X a t)(hb:PSs X b u):PS X (.If c a b pos) (tIfS tc t u):=by
 intro pins s σ H D I h
 refine wpAny_If (thn (hc pins s σ H _ I h) fun d s1 zz=>?_)
 obtain⟨H1,I1,q1⟩:=zz
 cases d with
 | true=>exact ha pins s1 σ H1 D I1 q1
 | false=>exact hb pins s1 σ H1 D I1 q1
end
noncomputable abbrev TG:=V->St->Hp->(St->Hp->Prop)->Prop
noncomputable abbrev TGs:=List V->St->Hp->(St->Hp->Prop)->Prop
noncomputable def PG (X:Cx)(target:Expr)(t:TG):Prop :=
 ∀(pins:List (Addr×Obj)) (s:Shared) (σ:St) (H:Hp) (v:V) (u:Value) (Q:St->Hp->Prop),Inv X pins σ H s->RelV v u->t v σ H Q ->
  wpAny (model X.prog X.w) X.A (assign target X.env u) (fun _ s'=>∃σ' H',Inv X pins σ' H' s'/\Q σ' H') X.xe s
noncomputable def PGs (X:Cx)(ts:List Expr)(t:TGs):Prop :=
 ∀(pins:List (Addr×Obj)) (s:Shared) (σ:St) (H:Hp) (vs:List V) (us:List Value) (Q:St->Hp->Prop),Inv X pins σ H s->Vals vs us->t vs σ H Q ->
  wpAny (model X.prog X.w) X.A (assignInOrder ((assignEach ts X.env).map (·.2)) us) (fun _ s'=>∃σ' H',Inv X pins σ' H' s'/\Q σ' H') X.xe s
noncomputable abbrev TSet:=V->V->V->Hp->(Hp->Prop)->Prop
noncomputable def PSet (X:Cx)(t:TSet):Prop :=
 ∀(pins:List (Addr×Obj)) (s:Shared) (σ:St) (H:Hp) (o i v:V) (ov iv u:Value) (Q:Hp->Prop),Inv X pins σ H s->RelV o ov->RelV i iv->RelV v u->t o i v H Q ->
  wpAny (model X.prog X.w) X.A (setItem ov iv u) (fun _ s'=>∃H',Inv X pins σ H' s'/\Q H') X.xe s
section
variable {X:Cx}{pos:Pos}
noncomputable def gName (i:Nat):TG:=fun v σ H Q=>Q (σ.set i (some v)) H
theorem pg_name {i:Nat}{x:Str}(hN:X.N.Nodup)(hi:X.N[i]? = some x)(hx:Loc X.env.scope x)(hf:X.fn x=true\/X.env.scope.names.lookup x=some .local:=by first | exact .inl rfl | exact .inr rfl | assumption):PG X (.Name x pos) (gName i):=by
 intro pins s σ H v u Q I r h
 exact wpAny_assign_Name (zl2 I hN hi hx r (fun s' I'=>⟨_,H,I',h⟩) hf)
noncomputable def gNil:TGs:=fun vs σ H Q=>vs=[]/\Q σ H
noncomputable def gCons (t:TG)(u:TGs):TGs:=fun vs σ H Q=>∃v r,vs=v::r/\t v σ H fun σ' H'=>u r σ' H' Q
theorem pgs_nil:PGs X [] gNil:=by
 intro pins s σ H vs us Q I r h
 obtain⟨e,h⟩:=h
 subst e
 cases r
 exact assignInOrder_nil ⟨σ,H,I,h⟩
theorem pgs_cons {e:Expr}{es:List Expr}{t:TG}{u:TGs}(h1:PG X e t)(h2:PGs X es u)
  (hs:(assignEach (e::es) X.env).map (·.2)=assign e X.env::(assignEach es X.env).map (·.2):=by rfl):PGs X (e::es) (gCons t u):=by
 intro pins s σ H vs us Q I r h
 obtain⟨v,vr,e1,h⟩:=h
 subst e1
 cases r with
 | cons r rr =>
  rw[hs]
  refine assignInOrder_cons (thn (h1 pins s σ H _ _ _ I r h) fun _ s1 zz=>?_)
  obtain⟨σ1,H1,I1,q1⟩:=zz
  exact h2 pins s1 σ1 H1 _ _ Q I1 rr q1
noncomputable def gTup (K:PySem.W.Frag)(n:Nat)(t:TGs):TG:=fun v σ H Q=>∃a xs,v=.ref a/\SqT K H a xs/\xs.length=n/\t xs σ H Q
theorem pg_tup {es:List Expr}{k:Nat}{t:TGs}{n:Nat}(hc:X.calm=true)(h:PGs X es t)
  (hn:(assignEach es X.env).length=n:=by rfl) (hst:(assignEach es X.env).findIdx? (·.1)=none:=by rfl):PG X (.Tuple es k pos) (gTup X.K n t):=by
 intro pins s σ H v u Q I r hw
 obtain⟨a,xs,e1,hq,hl,hw⟩:=hw
 subst e1
 cases r
 obtain⟨its,rv,ht,hz⟩:=I.tuple hq
 refine assign_Tuple_tuple (I.ok.hd hc) ht (by simp[hn,<-hl,rv.length]) hst fun h' hx=>?_
 have I1:Inv X pins σ H { s with heap:=h' }:=I.kept (t':=s.toks) fun b o e=>hx b o (Nat.ne_of_lt (Heap.lt_size e)) e
 exact h pins _ σ H xs _ Q I1 (by simpa using rv) hw
noncomputable def gSub (to ti:TE)(t:TSet):TG:=fun v σ H Q=>to σ H fun o H1=>ti σ H1 fun i H2=>t o i v H2 fun H3=>Q σ H3
theorem pg_sub {o i:Expr}{to ti:TE}{t:TSet}(ho:PE X o to)(hi:PE X i ti)(hs:PSet X t)
  (ha:∀v,assign (.Subscript o i pos) X.env v=(do
   let ov <-holding [v] (eval o X.env)
   let iv <-holding [v,ov] (eval i X.env)
   standAt pos
   holding [v,ov,iv] (setItem ov iv v)
   release [v,ov,iv] []):=by intro _;rfl):PG X (.Subscript o i pos) (gSub to ti t):=by
 intro pins s σ H v u Q I r h
 rw[ha]
 refine wpAny_bind (wpAny_holding (thn (ho pins s σ H _ I h) fun ov s1 zz=>?_))
 obtain⟨x,H1,I1,r1,q1⟩:=zz
 refine wpAny_bind (wpAny_holding (thn (hi pins s1 σ H1 _ I1 q1) fun iv s2 zz=>?_))
 obtain⟨y,H2,I2,r2,q2⟩:=zz
 refine wpAny_bind (wpAny_standAt (wpAny_bind (wpAny_holding (thn (hs pins s2 σ H2 x y v ov iv u _ I2 r1 r2 r q2) fun _ s3 zz=>?_))))
 obtain⟨H3,I3,q3⟩:=zz
 exact wpAny_release ⟨σ,H3,I3,q3⟩
noncomputable def tAsg (te:TE)(g:TG):TS:=fun D σ H=>te σ H fun x H1=>g x σ H1 D.nx
theorem ps_asg {tg e:Expr}{te:TE}{g:TG}(he:PE X e te)(hg:PG X tg g)(hs:swapsWithSole [tg] e pos.line X.env=pure false:=by rfl)(hw:swappedStores [tg] e X.env=pure none:=by rfl)
  (h1:(assignEach [tg] X.env).map (·.2)=[assign tg X.env]:=by rfl):PS X (.Assign [tg] e pos) (tAsg te g):=by
 intro pins s σ H D I h
 refine wpAny_Assign_stores (thn (he pins s σ H _ I h) fun v s1 zz=>?_) hs hw
 obtain⟨x,H1,I1,r1,q1⟩:=zz
 rw[h1]
 exact thn (hg pins s1 σ H1 x v _ I1 r1 q1) fun _ s2 q=>q
theorem ps_set {i:Nat}{x:Str}{e:Expr}{te:TE}{pos':Pos}(hN:X.N.Nodup)(hi:X.N[i]? = some x)(hx:Loc X.env.scope x)(he:PE X e te)(hs:swapsWith e (some (.Name x pos')) pos.line X.env=pure false:=by rfl)(hf:X.fn x=true\/X.env.scope.names.lookup x=some .local:=by first | exact .inl rfl | exact .inr rfl | assumption) :
  PS X (.Assign [.Name x pos'] e pos) (tAsg te (gName i)):=by
 intro pins s σ H D I h
 refine wpAny_Assign_Name (thn (he pins s σ H _ I h) fun v s1 zz=>?_) hs
 obtain⟨y,H1,I1,r1,q1⟩:=zz
 exact zl2 I1 hN hi hx r1 (fun s2 I2=>⟨_,H1,I2,q1⟩) hf
end
section
variable {X:Cx}{pos:Pos}
end
structure It where
 go:Nat->Hp->Prop
 yld:Nat->Hp->V->Hp->Prop
 stop:Nat->Hp->Prop
noncomputable def FpOk (X:Cx)(pins:List (Addr×Obj))(H:Hp)(b:Addr):Prop :=
 H b=none/\b≠X.env.locals/\b∉X.fs/\(b∈X.ex\/X.s₀.heap.objs.size<=b)/\(∀x c,X.env.cells.lookup x=some c->c≠b)/\∀p∈X.pn++pins,p.1≠b
theorem Inv.fpOk {X:Cx}{pins:List (Addr×Obj)}{σ:St}{H H':Hp}{s:Shared}{b:Addr}(I:Inv X pins σ H s)(hb:s.heap.objs.size<=b)(hn:H' b=none):FpOk X pins H' b:=by
 refine⟨hn,Nat.ne_of_gt (Nat.lt_of_lt_of_le I.lt hb),I.nofs hb,.inr (Nat.le_trans I.sz hb),fun x c e z=>?_,fun p hp z=>?_⟩
 ·obtain⟨v,q⟩:=I.cell x c e
  exact absurd (Nat.lt_of_lt_of_le q.lt (by rw[z];exact hb)) (Nat.lt_irrefl _)
 ·exact absurd (Nat.lt_of_lt_of_le (Heap.lt_size (I.pin p hp).1) (by rw[z];exact hb)) (Nat.lt_irrefl _)
structure Turn (P:Program)(w:World)(K:PySem.W.Frag)(tg:Expr)(J:It)(fp:List Addr)(it:Addr)(tn:Nat->Heap->Prop):Prop where
 mem:it∈fp
 obj:∀i h,tn i h->∀b∈fp,∃o,h.get? b=some o/\∀v,o.data≠.cell v
 keep:∀i h h',tn i h->(∀b∈fp,∀o,h.get? b=some o->h'.get? b=some o)->tn i h'
 item:∀(X:Cx),X.prog=P->X.w=w->X.K=K->X.calm=true->∀(i:Nat) (pins:List (Addr×Obj)) (s:Shared) (σ:St) (H:Hp) (E:Value->Shared->Prop),Inv X pins σ H s->(∀b∈fp,FpOk X pins H b)->tn i s.heap->J.go i H ->
  wpAny (model P w) X.A (pyNext (.ref it)) (fun r s1=>∃u,r=some u /\
   wpAny (model P w) X.A (letOwnedTupleGo tg (.ref it) u) (fun _ s2=>∃x H',Inv X pins σ H' s2/\RelV x u/\J.yld i H x H'/\tn (i+1) s2.heap/\∀b∈fp,H' b=none) E s1) E s
 done:∀(X:Cx),X.prog=P->X.w=w->X.K=K->X.calm=true->∀(i:Nat) (pins:List (Addr×Obj)) (s:Shared) (σ:St) (H:Hp) (E:Value->Shared->Prop),Inv X pins σ H s->(∀b∈fp,FpOk X pins H b)->tn i s.heap->J.stop i H ->
  wpAny (model P w) X.A (pyNext (.ref it)) (fun r s1=>r=none/\Inv X pins σ H s1) E s
 self:∀(A:Around) (i:Nat) (s:Shared) (Q:Value->Shared->Prop) (E:Value->Shared->Prop),tn i s.heap->Q (.ref it) s->wpAny (model P w) A (pyIter (.ref it)) Q E s
noncomputable abbrev TI:=St->Hp->(It->Hp->Prop)->Prop
noncomputable def PIE (X:Cx)(pins:List (Addr×Obj))(σ:St)(tg:Expr)(R:It->Hp->Prop)(itv:Value)(s2:Shared):Prop :=
 ∃(it:Addr) (fp:List Addr) (tn:Nat->Heap->Prop) (J:It) (H':Hp),itv=.ref it/\Inv X pins σ H' s2/\Turn X.prog X.w X.K tg J fp it tn/\tn 0 s2.heap/\(∀b∈fp,FpOk X pins H' b)/\R J H'
noncomputable def PI (X:Cx)(tg iter:Expr)(wi:TI):Prop :=
 ∀(pins:List (Addr×Obj)) (s:Shared) (σ:St) (H:Hp) (R:It->Hp->Prop),Inv X pins σ H s->wi σ H R ->
  wpAny (model X.prog X.w) X.A (eval iter X.env) (fun v s1=>wpAny (model X.prog X.w) X.A (pyIter v) (PIE X pins σ tg R) X.xe s1) X.xe s
theorem go_of {M:Model}{A:Around}{E:Value->Shared->Prop}{s:Shared}{tg:Expr}{it:Addr}{u:Value}{o:Obj}{n:String}{vs:Array Value}{Q:Unit->Shared->Prop}(ho:s.heap.get? it=some o)(hc:o.cls=.type n)(hd:o.data=.fields vs)
  (hn:["enumerate","zip","dict_itemiterator","dict_reverseitemiterator","odict_iterator","itertools.zip_longest","itertools.pairwise"].contains n=false) (hQ:Q () s):wpAny M A (letOwnedTupleGo tg (.ref it) u) Q E s:=by
 unfold letOwnedTupleGo
 cases tg<;>first
  | exact wpAny_pure hQ
  | (cases u<;>first
    | exact wpAny_pure hQ
    | (refine wpAny_bind (wpAny_load ho ?_)
       rw[hc,hd]
       show wpAny M A (if (["enumerate","zip","dict_itemiterator","dict_reverseitemiterator","odict_iterator","itertools.zip_longest","itertools.pairwise"].contains n && vs[0]? == some (rawInt _))=true then _ else _) Q E s
       rw[if_neg (by intro h;rw[hn,Bool.false_and]at h;cases h)]
       exact wpAny_pure hQ))
noncomputable def Itl (K:PySem.W.Frag)(a:Addr):It :=
 ⟨fun i H=>∃xs x,SqL K H a xs/\xs[i]? = some x,fun i H x H'=>H'=H/\∀xs,SqL K H a xs->xs[i]? = some x,fun i H=>∃xs,SqL K H a xs/\xs.length<=i⟩
noncomputable def Itt (K:PySem.W.Frag)(a:Addr):It :=
 ⟨fun i H=>∃xs x,SqT K H a xs/\xs[i]? = some x,fun i H x H'=>H'=H/\∀xs,SqT K H a xs->xs[i]? = some x,fun i H=>∃xs,SqT K H a xs/\xs.length<=i⟩
noncomputable def Itr (lo:Int)(n:Nat):It:=⟨fun i _=>i<n,fun i H x H'=>H'=H/\x=.int (lo+i),fun i _=>n<=i⟩
theorem turn_list {P:Program}{w:World}{K:PySem.W.Frag}{tg:Expr}(a it:Addr):Turn P w K tg (Itl K a) [it] it (fun i h=>h.IsListIter it a i) where
 mem:=by simp
 obj:=fun i h st b hb=>by
  have e:b=it:=by simpa using hb
  subst e
  obtain⟨o,e,c,d⟩:=st
  exact⟨o,e,fun v z=>by rw[d]at z;cases z⟩
 keep:=fun i h h' st k=>st.at fun o e=>k it (by simp) o e
 item:=by
  intro X hP hw hK hc i pins s σ H E I hf st hg
  subst hP hw hK
  obtain⟨xs,x,hq,hx⟩:=hg
  obtain⟨its,rv,p,hz⟩:=I.list hq
  obtain⟨u,hu,ru⟩:=rv.get hx
  obtain⟨f0,f1,f2,f3,f4,f5⟩:=hf it (by simp)
  refine wpAny_pyNext_list_item st p.isList (x:=u) (by simpa using hu) fun h' st' sb=>?_
  have I1:Inv X pins σ H { s with heap:=h' }:=I.turned (t':=s.toks) (fun b o hb e=>(sb.2 b hb).trans e) f0 f1 f3 f4 f5
  obtain⟨o,e,c,d⟩:=id st'
  exact⟨u,rfl,go_of (s:={ s with heap:=h' }) e c d (by decide) ⟨x,H,I1,ru,⟨rfl,fun ys hy=>by rw[I.list_inj hy hq];exact hx⟩,st',fun b hb=>(hf b hb).1⟩⟩
 done:=by
  intro X hP hw hK hc i pins s σ H E I hf st hg
  subst hP hw hK
  obtain⟨xs,hq,hx⟩:=hg
  obtain⟨its,rv,p,hz⟩:=I.list hq
  obtain⟨f0,f1,f2,f3,f4,f5⟩:=hf it (by simp)
  have hl:=rv.length
  exact wpAny_pyNext_list_end (I.ok.hd hc) st p.isList (by simp;omega) fun h' eb=>⟨rfl,I.turned (t':=s.toks) (fun b o hb e=>eb b o hb e) f0 f1 f3 f4 f5⟩
 self:=fun _ _ _ _ _ st h=>wpAny_pyIter_listiter st h
theorem zmz {P:Program}{w:World}{K:PySem.W.Frag}{tg:Expr}(a it:Addr):Turn P w K tg (Itt K a) [it] it (fun i h=>h.IsTupleIter it a i) where
 mem:=by simp
 obj:=fun i h st b hb=>by
  have e:b=it:=by simpa using hb
  subst e
  obtain⟨o,e,c,d⟩:=st
  exact⟨o,e,fun v z=>by rw[d]at z;cases z⟩
 keep:=fun i h h' st k=>st.at fun o e=>k it (by simp) o e
 item:=by
  intro X hP hw hK hc i pins s σ H E I hf st hg
  subst hP hw hK
  obtain⟨xs,x,hq,hx⟩:=hg
  obtain⟨its,rv,p,hz⟩:=I.tuple hq
  obtain⟨u,hu,ru⟩:=rv.get hx
  obtain⟨f0,f1,f2,f3,f4,f5⟩:=hf it (by simp)
  refine wpAny_pyNext_tuple_item st (show s.heap.IsTuple a its.toArray from p) (x:=u) (by simpa using hu) fun h' st' sb=>?_
  have I1:Inv X pins σ H { s with heap:=h' }:=I.turned (t':=s.toks) (fun b o hb e=>(sb.2 b hb).trans e) f0 f1 f3 f4 f5
  obtain⟨o,e,c,d⟩:=id st'
  exact⟨u,rfl,go_of (s:={ s with heap:=h' }) e c d (by decide) ⟨x,H,I1,ru,⟨rfl,fun ys hy=>by rw[I.tuple_inj hy hq];exact hx⟩,st',fun b hb=>(hf b hb).1⟩⟩
 done:=by
  intro X hP hw hK hc i pins s σ H E I hf st hg
  subst hP hw hK
  obtain⟨xs,hq,hx⟩:=hg
  obtain⟨its,rv,p,hz⟩:=I.tuple hq
  obtain⟨f0,f1,f2,f3,f4,f5⟩:=hf it (by simp)
  have hl:=rv.length
  exact wpAny_pyNext_tuple_end (I.ok.hd hc) st (show s.heap.IsTuple a its.toArray from p) (by simp;omega) fun h' eb=>⟨rfl,I.turned (t':=s.toks) (fun b o hb e=>eb b o hb e) f0 f1 f3 f4 f5⟩
 self:=fun _ _ _ _ _ st h=>wpAny_pyIter_tupleiter st h
theorem zkz {P:Program}{w:World}{K:PySem.W.Frag}{tg:Expr}(it:Addr)(lo:Int)(n:Nat):Turn P w K tg (Itr lo n) [it] it (fun i h=>IsRangeIter h it (lo+(i:Nat)*1) ((n:Int) - (i:Nat)) 1) where
 mem:=by simp
 obj:=fun i h st b hb=>by
  have e:b=it:=by simpa using hb
  subst e
  exact⟨_,st,fun v z=>by
   have z':Data.fields _=Data.cell v:=z
   cases z'⟩
 keep:=fun i h h' st k=>k it (by simp) _ st
 item:=by
  intro X hP hw hK hc i pins s σ H E I hf st hg
  subst hP hw hK
  obtain⟨f0,f1,f2,f3,f4,f5⟩:=hf it (by simp)
  have W:=Walks.range (prog:=X.prog) (w:=X.w) (I.ok.hd hc) it lo 1 n
  refine W.item i s _ _ hg st fun v h' tk hv st' kk=>?_
  obtain⟨t,rfl⟩:=hv
  have I1:Inv X pins σ H { s with heap:=h',toks:=tk }:=I.turned (fun b o hb e=>kk b o (by simpa using hb) e) f0 f1 f3 f4 f5
  refine⟨_,rfl,go_of (s:={ s with heap:=h',toks:=tk }) (n:="range_iterator") st' rfl rfl (by decide) ⟨.int (lo+i),H,I1,⟨t,?_⟩,⟨rfl,rfl⟩,st',fun b hb=>(hf b hb).1⟩⟩
  rw[Int.mul_one]
 done:=by
  intro X hP hw hK hc i pins s σ H E I hf st hg
  subst hP hw hK
  obtain⟨f0,f1,f2,f3,f4,f5⟩:=hf it (by simp)
  exact wpAny_pyNext_range_end (I.ok.hd hc) st (by have:n<=i:=hg;omega) fun h' eb=>⟨rfl,I.turned (t':=s.toks) (fun b o hb e=>eb b o hb e) f0 f1 f3 f4 f5⟩
 self:=fun _ _ _ _ _ st h=>wpAny_pyIter_rangeiter st h
end L2
namespace L2
open PySem PySem.Spec PyProof.Rows
section
variable {X:Cx}{tg:Expr}
noncomputable def iList (K:PySem.W.Frag)(tl:TE):TI:=fun σ H R=>tl σ H fun x H1=>∃a,x=.ref a/\(∃xs,SqL K H1 a xs)/\R (Itl K a) H1
noncomputable def iTup (K:PySem.W.Frag)(tl:TE):TI:=fun σ H R=>tl σ H fun x H1=>∃a,x=.ref a/\(∃xs,SqT K H1 a xs)/\R (Itt K a) H1
theorem pi_list {l:Expr}{tl:TE}(hl:PE X l tl):PI X tg l (iList X.K tl):=by
 intro pins s σ H R I h
 refine thn (hl pins s σ H _ I h) fun v s1 zz=>?_
 obtain⟨x,H1,I1,r1,q1⟩:=zz
 obtain⟨a,e,⟨xs,hq⟩,q⟩:=q1
 subst e
 cases r1
 obtain⟨its,rv,p,hz⟩:=I1.list hq
 refine wpAny_pyIter_list p.isList ?_
 refine⟨s1.heap.objs.size,[s1.heap.objs.size],_,_,H1,rfl,I1.kept (t':=s1.toks) fun b o e=>Heap.get?_push_of_some _ e,turn_list a _,⟨_,Heap.get?_push_size _ rfl,rfl,rfl⟩,fun b hb=>?_,q⟩
 have e:b=s1.heap.objs.size:=by simpa using hb
 subst e
 exact I1.fpOk (Nat.le_refl _) (I1.hok.fresh (Nat.le_refl _))
theorem pi_tup {l:Expr}{tl:TE}(hl:PE X l tl):PI X tg l (iTup X.K tl):=by
 intro pins s σ H R I h
 refine thn (hl pins s σ H _ I h) fun v s1 zz=>?_
 obtain⟨x,H1,I1,r1,q1⟩:=zz
 obtain⟨a,e,⟨xs,hq⟩,q⟩:=q1
 subst e
 cases r1
 obtain⟨its,rv,p,hz⟩:=I1.tuple hq
 refine wpAny_pyIter_tuple (show s1.heap.IsTuple a its.toArray from p) ?_
 refine⟨s1.heap.objs.size,[s1.heap.objs.size],_,_,H1,rfl,I1.kept (t':=s1.toks) fun b o e=>Heap.get?_push_of_some _ e,zmz a _,⟨_,Heap.get?_push_size _ rfl,rfl,rfl⟩,fun b hb=>?_,q⟩
 have e:b=s1.heap.objs.size:=by simpa using hb
 subst e
 exact I1.fpOk (Nat.le_refl _) (I1.hok.fresh (Nat.le_refl _))
theorem range_it {pins:List (Addr×Obj)}{σ:St}{H:Hp}{s:Shared}{R:It->Hp->Prop}{E:Value->Shared->Prop}{lo hi:Int}{t u v:Tok}{tk:Nat}(I:Inv X pins σ H s)(h1:-(2 ^ 62)<=lo)(h2:lo<2 ^ 62)(h3:-(2 ^ 62)<=hi)(h4:hi<2 ^ 62)
  (q:R (Itr lo (hi - lo).toNat) H):wpAny (model X.prog X.w) X.A (pyIter (.ref s.heap.objs.size)) (PIE X pins σ tg R) E { s with heap:=s.heap.push { cls:=.type "range",data:=.fields #[.int lo t,.int hi u,.int 1 v] },toks:=tk }:=by
 refine wpAny_pyIter_range (IsRange.new ..) (small_one h1 h2 h3 h4) ?_
 have I1:Inv X pins σ H { s with heap:=s.heap.push { cls:=.type "range",data:=.fields #[.int lo t,.int hi u,.int 1 v] },toks:=tk }:=I.kept fun b o e=>Heap.get?_push_of_some _ e
 refine⟨(s.heap.push { cls:=.type "range",data:=.fields #[.int lo t,.int hi u,.int 1 v] }).objs.size,[(s.heap.push { cls:=.type "range",data:=.fields #[.int lo t,.int hi u,.int 1 v] }).objs.size],_,_,H,rfl,
  I1.kept (t':=tk) fun b o e=>Heap.get?_push_of_some _ e,zkz _ lo (hi - lo).toNat,?_,fun b hb=>?_,q⟩
 ·have e1:lo+((0:Nat):Int)*1=lo:=by simp
  have e2:(((hi - lo).toNat:Nat):Int) - ((0:Nat):Int)=Builtin.Range.rangeSize lo hi 1:=by rw[rangeSize_one];split<;>omega
  show IsRangeIter _ _ (lo+((0:Nat):Int)*1) ((((hi - lo).toNat:Nat):Int) - ((0:Nat):Int)) 1
  rw[e1,e2]
  exact Heap.get?_push_size _ rfl
 ·have e:b=(s.heap.push { cls:=.type "range",data:=.fields #[.int lo t,.int hi u,.int 1 v] }).objs.size:=by simpa using hb
  subst e
  exact I1.fpOk (Nat.le_refl _) (I1.hok.fresh (Nat.le_refl _))
noncomputable def iRng1 (ta:TA):TI:=fun σ H R=>ta σ H fun vs H1=>∃j:Int,vs=[.int j]/\-(2 ^ 62)<=j/\j<2 ^ 62/\R (Itr 0 j.toNat) H1
theorem pi_range1 {a:Expr}{ta:TA}{p pos:Pos}(hg:Gl X "range")(hm:X.mg "range" = none)(ha:PA X [a] ta)(hs:starEach [a] X.env=[(false,eval a X.env)]:=by rfl):PI X tg (.Call (.Name "range" p) [a] [] pos) (iRng1 ta):=by
 intro pins s σ H R I h
 refine Call_ (zjk I hg hm boot_range (PyProof.Rows.callWith_type1 (thn (ha pos pins s σ H _ I h) fun us s1 zz=>?_) hs rfl))
 obtain⟨vs,H1,I1,r1,q1⟩:=zz
 obtain⟨j,e,q1,q2,q⟩:=q1
 subst e
 cases r1 with
 | cons r rr =>
  cases rr
  obtain⟨t,rfl⟩:=r
  exact call_range_1 (range_it I1 (by omega) (by omega) q1 q2 (by simpa using q))
noncomputable def tFor (wi:TI)(g:TG)(tb:TS):TS:=fun D σ H=>wi σ H fun J H1=>∃W:Nat->Nat->St->Hp->Prop,(∃m,W 0 m σ H1)/\∀i m σ H,W i m σ H ->
 (J.stop i H/\D.nx σ H)\/(J.go i H/\∃N:St->Hp->Prop,(∀σ' H',N σ' H'->∃m',m'<m/\W (i+1) m' σ' H')/\∀x H',J.yld i H x H'->g x σ H' fun σ2 H2=>tb { D with nx:=N,ct:=N,bk:=D.nx } σ2 H2)
noncomputable def pinsAt (fp:List Addr)(h:Heap):List (Addr×Obj):=fp.filterMap fun b=>(h.get? b).map fun o=>(b,o)
theorem zfp {fp:List Addr}{h:Heap}{b:Addr}{o:Obj}(hb:b∈fp)(e:h.get? b=some o):(b,o)∈pinsAt fp h:=List.mem_filterMap.mpr ⟨b,hb,by rw[e];rfl⟩
theorem of_pinsAt {fp:List Addr}{h:Heap}{p:Addr×Obj}(hp:p∈pinsAt fp h):p.1∈fp/\h.get? p.1=some p.2:=by
 obtain⟨b,hb,e⟩:=List.mem_filterMap.mp hp
 cases q:h.get? b with
 | none=>rw[q]at e;cases e
 | some o =>
  rw[q]at e
  have e':(b,o)=p:=Option.some.inj e
  subst e'
  exact⟨hb,q⟩
theorem Inv.pinned {pins:List (Addr×Obj)}{σ:St}{H:Hp}{s:Shared}{fp:List Addr}(I:Inv X pins σ H s)(hf:∀b∈fp,FpOk X pins H b)(ho:∀b∈fp,∃o,s.heap.get? b=some o/\∀v,o.data≠.cell v):Inv X (pins++pinsAt fp s.heap) σ H s :=
 I.pins_of fun p hp=>(List.mem_append.mp hp).elim (fun z=>I.pin p (List.mem_append_right _ z)) fun z=>by
  obtain⟨hb,e⟩:=of_pinsAt z
  obtain⟨f0,f1,f2,_⟩:=hf p.1 hb
  obtain⟨o,e',d⟩:=ho p.1 hb
  rw[e]at e';cases e'
  exact⟨e,f0,f1,f2,d⟩
theorem Inv.unpinned {pins pl:List (Addr×Obj)}{σ:St}{H:Hp}{s:Shared}(I:Inv X (pins++pl) σ H s):Inv X pins σ H s:=I.pins_of fun p hp=>I.pin p (List.mem_append_right _ (List.mem_append_left _ hp))
theorem ps_for {iter:Expr}{body:List Stmt}{wi:TI}{g:TG}{tb:TS}{pos:Pos}(hp:PassesOwn (model X.prog X.w) X.A X.env X.xe)(hc:X.calm=true)(hi:PI X tg iter wi)(hg:PG X tg g)(hb:PSs X body tb)
  (hs:∀x,foldedSetIterable iter X.env x=pure x:=by intro _;rfl):PS X (.For tg iter body [] pos) (tFor wi g tb):=by
 intro pins s σ H D I h
 refine wpAny_For (thn (hi pins s σ H _ I h) fun v s1 h1=>thn h1 fun itv s2 h2=>?_) hs
 obtain⟨it,fp,tn,J,H2,e,I2,T,st2,f2,W,⟨m0,w0⟩,turn⟩:=h2
 subst e

 have stat:∀{H':Hp},(∀b∈fp,H' b=none)->∀b∈fp,FpOk X pins H' b:=fun hn b hb=>⟨hn b hb,(f2 b hb).2⟩
 refine codeAny_forLoop_any (fun n s'=>∃i σ' H',Inv X pins σ' H' s'/\tn i s'.heap/\(∀b∈fp,H' b=none)/\W i n σ' H') ?_ m0 ⟨0,σ,H2,I2,st2,fun b hb=>(f2 b hb).1,w0⟩
 rintro n s3 ⟨i,σ3,H3,I3,st3,fr3,w3⟩
 rcases turn i n σ3 H3 w3 with⟨stop,qn⟩ | ⟨go,N,hN,step⟩
 ·refine wpAny_passesOwn hp (thn (T.done X rfl rfl rfl hc i pins s3 σ3 H3 X.xe I3 (stat fr3) st3 stop) fun r s4 zz=>?_)
  obtain⟨hr,I4⟩:=zz
  subst hr
  exact wpAny_execs_nil ⟨σ3,H3,I4,qn⟩
 ·refine wpAny_passesOwn hp (thn (T.item X rfl rfl rfl hc i pins s3 σ3 H3 X.xe I3 (stat fr3) st3 go) fun r s4 zz=>?_)
  obtain⟨u,hr,h4⟩:=zz
  subst hr
  refine wpAny_passesOwn hp (thn h4 fun _ s5 zz=>?_)
  obtain⟨x,H5,I5,r5,y5,st5,fr5⟩:=zz
  have I5':=I5.pinned (stat fr5) (T.obj _ _ st5)
  refine wpAny_passesOwn hp (thn (hg _ s5 σ3 H5 x u _ I5' r5 (step x H5 y5)) fun _ s6 zz=>?_)
  obtain⟨σ6,H6,I6,q6⟩:=zz
  refine wpAny_passesOwn hp (thn (hb _ s6 σ6 H6 _ I6 q6) fun f s7 q7=>?_)
  have again:∀{σ7:St} {H7:Hp},Inv X (pins++pinsAt fp s5.heap) σ7 H7 s7->N σ7 H7->∃m,m<n/\∃i σ' H',Inv X pins σ' H' s7/\tn i s7.heap/\(∀b∈fp,H' b=none)/\W i m σ' H':=fun {σ7 H7} I7 n7=>by
   obtain⟨m',hm,w7⟩:=hN σ7 H7 n7
   refine⟨m',hm,i+1,σ7,H7,I7.unpinned,T.keep _ _ _ st5 fun b hb o e=>(I7.pin (b,o) (List.mem_append_right _ (List.mem_append_right _ (zfp hb e)))).1,fun b hb=>?_,w7⟩
   obtain⟨o,e,d⟩:=T.obj _ _ st5 b hb
   exact (I7.pin (b,o) (List.mem_append_right _ (List.mem_append_right _ (zfp hb e)))).2.1
  cases f with
  | next=>obtain⟨σ7,H7,I7,n7⟩:=q7;exact again I7 n7
  | cont=>obtain⟨σ7,H7,I7,n7⟩:=q7;exact again I7 n7
  | brk=>obtain⟨σ7,H7,I7,q7⟩:=q7;exact⟨σ7,H7,I7.unpinned,q7⟩
  | ret v=>obtain⟨x7,σ7,H7,I7,r7,q7⟩:=q7;exact⟨x7,σ7,H7,I7.unpinned,r7,q7⟩
end
end L2
namespace L2
open PySem PySem.Spec PyProof.Rows
noncomputable abbrev R2:=V->V->Hp->VK->Prop
noncomputable def OpR (X:Cx)(f:Value->Value->Sem Value)(r:R2):Prop :=
 ∀(pins:List (Addr×Obj)) (s:Shared) (σ:St) (H:Hp) (x y:V) (v u:Value) (Q:VK),Inv X pins σ H s->RelV x v->RelV y u->r x y H Q ->
  wpAny (model X.prog X.w) X.A (f v u) (EP X pins σ Q) X.xe s
noncomputable def UnR (X:Cx)(f:Value->Sem Value)(r:V->Hp->VK->Prop):Prop :=
 ∀(pins:List (Addr×Obj)) (s:Shared) (σ:St) (H:Hp) (x:V) (v:Value) (Q:VK),Inv X pins σ H s->RelV x v->r x H Q ->
  wpAny (model X.prog X.w) X.A (f v) (EP X pins σ Q) X.xe s
noncomputable def CallR (X:Cx)(f:Value)(r:List V->Hp->VK->Prop):Prop :=
 ∀(pins:List (Addr×Obj)) (s:Shared) (σ:St) (H:Hp) (xs:List V) (us:List Value) (Q:VK),Inv X pins σ H s->Vals xs us->r xs H Q ->
  wpAny (model X.prog X.w) X.A (call f us) (EP X pins σ Q) X.xe s
noncomputable def TruR (X:Cx)(r:V->Hp->(Bool->Hp->Prop)->Prop):Prop :=
 ∀(pins:List (Addr×Obj)) (s:Shared) (σ:St) (H:Hp) (x:V) (v:Value) (Q:Bool->Hp->Prop),Inv X pins σ H s->RelV x v->r x H Q ->
  wpAny (model X.prog X.w) X.A (truthy v) (TP X pins σ Q) X.xe s
noncomputable def tOp (r:R2)(ta tb:TE):TE:=fun σ H Q=>ta σ H fun x H1=>tb σ H1 fun y H2=>r x y H2 Q
noncomputable def tUn (r:V->Hp->VK->Prop)(ta:TE):TE:=fun σ H Q=>ta σ H fun x H1=>r x H1 Q
noncomputable def rI (C:Int->Int->Prop)(g:Int->Int->V):R2:=fun x y H Q=>∃i j,x=.int i/\y=.int j/\C i j/\Q (g i j) H
noncomputable def rI0 (g:Int->Int->V):R2:=fun x y H Q=>∃i j,x=.int i/\y=.int j/\Q (g i j) H
noncomputable def rU (g:Int->V):V->Hp->VK->Prop:=fun x H Q=>∃i,x=.int i/\Q (g i) H
section
variable {X:Cx}{a b c:Expr}{ta tb tc:TE}{pos:Pos}
theorem binT (ha:PE X a ta)(hb:PE X b tb){pins:List (Addr×Obj)}{s:Shared}{σ:St}{H:Hp}{R:V->V->Hp->Prop}(I:Inv X pins σ H s)
  (h:ta σ H fun x H1=>tb σ H1 fun y H2=>R x y H2) {Q:Value->Shared->Prop} {f:Value->Value->Sem Value}
  (hf:∀v u s2 x y H2,Inv X pins σ H2 s2->RelV x v->RelV y u->R x y H2->wpAny (model X.prog X.w) X.A (f v u) Q X.xe s2) :
  wpAny (model X.prog X.w) X.A (eval a X.env) (fun v s₁=>wpAny (model X.prog X.w) X.A (eval b X.env) (fun u s₂=>wpAny (model X.prog X.w) X.A (f v u) Q X.xe s₂) X.xe s₁) X.xe s:=by
 refine thn (ha pins s σ H _ I h) fun v s1 zz=>?_
 obtain⟨x,H1,I1,r1,q1⟩:=zz
 refine thn (hb pins s1 σ H1 _ I1 q1) fun u s2 zz=>?_
 obtain⟨y,H2,I2,r2,q2⟩:=zz
 exact hf v u s2 x y H2 I2 r1 r2 q2
theorem pe_op {op:Operator}{r:R2}(ho:OpR X (binaryOp op) r)(ha:PE X a ta)(hb:PE X b tb):PE X (.BinOp a op b pos) (tOp r ta tb):=by
 intro pins s σ H Q I h
 exact wpAny_BinOp (binT ha hb I h fun v u s2 x y H2 I2 rx ry q=>ho pins s2 σ H2 x y v u Q I2 rx ry q)
theorem pe_un {op:UnaryOp}{r:V->Hp->VK->Prop}(ho:UnR X (unaryOp op) r)(ha:PE X a ta):PE X (.UnaryOp op a pos) (tUn r ta):=by
 intro pins s σ H Q I h
 refine UnaryOp_ (thn (ha pins s σ H _ I h) fun v s1 zz=>?_)
 obtain⟨x,H1,I1,r1,q1⟩:=zz
 exact ho pins s1 σ H1 x v Q I1 r1 q1
theorem opI {f:Value->Value->Sem Value}{C:Int->Int->Prop}{g:Int->Int->Int}
  (rule:∀(i j:Int) (t u:Tok) (s:Shared) (Q:Value->Shared->Prop) (E:Value->Shared->Prop),C i j->Q (.int (g i j) s.toks) { s with toks:=s.toks+1 }->wpAny (model X.prog X.w) X.A (f (.int i t) (.int j u)) Q E s) :
  OpR X f (rI C fun i j=>.int (g i j)):=by
 intro pins s σ H x y v u Q I rx ry h
 obtain⟨i,j,rfl,rfl,hc,q⟩:=h
 obtain⟨t,rfl⟩:=rx
 obtain⟨t',rfl⟩:=ry
 exact rule i j t t' s _ _ hc ⟨.int (g i j),H,I.tok _,⟨_,rfl⟩,q⟩
theorem opI0 {f:Value->Value->Sem Value}{g:Int->Int->Int}
  (rule:∀(i j:Int) (t u:Tok) (s:Shared) (Q:Value->Shared->Prop) (E:Value->Shared->Prop),Q (.int (g i j) s.toks) { s with toks:=s.toks+1 }->wpAny (model X.prog X.w) X.A (f (.int i t) (.int j u)) Q E s) :
  OpR X f (rI0 fun i j=>.int (g i j)):=by
 intro pins s σ H x y v u Q I rx ry h
 obtain⟨i,j,rfl,rfl,q⟩:=h
 obtain⟨t,rfl⟩:=rx
 obtain⟨t',rfl⟩:=ry
 exact rule i j t t' s _ _ ⟨.int (g i j),H,I.tok _,⟨_,rfl⟩,q⟩
theorem opB0 {f:Value->Value->Sem Value}{g:Int->Int->Bool}
  (rule:∀(i j:Int) (t u:Tok) (s:Shared) (Q:Value->Shared->Prop) (E:Value->Shared->Prop),Q (.bool (g i j)) s->wpAny (model X.prog X.w) X.A (f (.int i t) (.int j u)) Q E s) :
  OpR X f (rI0 fun i j=>.bl (g i j)):=by
 intro pins s σ H x y v u Q I rx ry h
 obtain⟨i,j,rfl,rfl,q⟩:=h
 obtain⟨t,rfl⟩:=rx
 obtain⟨t',rfl⟩:=ry
 exact rule i j t t' s _ _ ⟨.bl (g i j),H,I,rfl,q⟩
noncomputable def CMul (i j:Int):Prop:=(-(2 ^ 64)<i/\i<2 ^ 64)\/(-(2 ^ 64)<j/\j<2 ^ 64)
theorem CMul.ok {i j:Int}(h:CMul i j):IntMulOk i j:=by
 rcases h with⟨h1,h2⟩ | ⟨h1,h2⟩
 ·exact .of_left (intBits_le_64 h1 h2)
 ·exact .of_right (intBits_le_64 h1 h2)
theorem op_add:OpR X (binaryOp .Add) (rI0 fun i j=>.int (i+j)):=opI0 fun _ _ _ _ _ _ _ q=>add_int q
theorem op_sub:OpR X (binaryOp .Sub) (rI0 fun i j=>.int (i - j)):=opI0 fun _ _ _ _ _ _ _ q=>sub_int q
theorem op_mul:OpR X (binaryOp .Mult) (rI CMul fun i j=>.int (i*j)):=opI fun _ _ _ _ _ _ _ hc q=>mul_int q hc.ok
theorem op_mod:OpR X (binaryOp .Mod) (rI (fun _ j=>0<j) fun i j=>.int (i % j)):=opI fun i j _ _ _ _ _ hc q=>by
 have h1:(0:Int)<j:=hc
 exact mod_int' (by omega) (by rw[Int.fmod_eq_emod_of_nonneg i (by omega)];exact q)
theorem unI {f:Value->Sem Value}{g:Int->Int}
  (rule:∀(i:Int) (t:Tok) (s:Shared) (Q:Value->Shared->Prop) (E:Value->Shared->Prop),Q (.int (g i) s.toks) { s with toks:=s.toks+1 }->wpAny (model X.prog X.w) X.A (f (.int i t)) Q E s) :
  UnR X f (rU fun i=>.int (g i)):=by
 intro pins s σ H x v Q I rx h
 obtain⟨i,rfl,q⟩:=h
 obtain⟨t,rfl⟩:=rx
 exact rule i t s _ _ ⟨.int (g i),H,I.tok _,⟨_,rfl⟩,q⟩
theorem un_neg:UnR X (unaryOp .USub) (rU fun i=>.int (-i)):=unI fun _ _ _ _ _ q=>neg_int q
end
section
variable {X:Cx}{a b c:Expr}{ta tb tc:TE}{pos:Pos}
theorem fin_bl {pins:List (Addr×Obj)}{σ:St}{H:Hp}{s:Shared}{Q:VK}{k k':Bool}(I:Inv X pins σ H s)(q:Q (.bl k) H)(e:k=k'):EP X pins σ Q (.bool k') s:=by
 subst e
 exact⟨.bl k,H,I,rfl,q⟩
theorem op_lt:OpR X (compareOp .Lt) (rI0 fun i j=>.bl (decide (i<j))):=opB0 fun _ _ _ _ _ _ _ q=>lt_int q
theorem op_le:OpR X (compareOp .LtE) (rI0 fun i j=>.bl (decide (i<=j))):=opB0 fun _ _ _ _ _ _ _ q=>le_int q
theorem op_gt:OpR X (compareOp .Gt) (rI0 fun i j=>.bl (decide (j<i))):=opB0 fun _ _ _ _ _ _ _ q=>gt_int q
theorem op_isN:OpR X (compareOp .Is) (fun x y H Q=>y=.non/\Q (.bl (decide (x=.non))) H):=by
 intro pins s σ H x y v u Q I rx ry h
 obtain⟨rfl,q⟩:=h
 cases ry
 refine is_none_gen (fin_bl I q ?_)
 cases x<;>first
  | (cases rx;rfl)
  | (obtain⟨t,rfl⟩:=rx;rfl)
theorem OpR.or {f:Value->Value->Sem Value}{r r':R2}(h:OpR X f r)(h':OpR X f r'):OpR X f (fun x y H Q=>r x y H Q\/r' x y H Q):=by
 intro pins s σ H x y v u Q I rx ry q
 rcases q with q | q
 ·exact h pins s σ H x y v u Q I rx ry q
 ·exact h' pins s σ H x y v u Q I rx ry q
theorem nomark (b:Expr){op:CmpOp}(h:op≠.In:=by decide)(h2:op≠.NotIn:=by decide):behindInMarks op b=false:=by
 have e1:(op==CmpOp.In)=false:=by cases op<;>first | rfl | exact absurd rfl h
 have e2:(op==CmpOp.NotIn)=false:=by cases op<;>first | rfl | exact absurd rfl h2
 cases b<;>simp[behindInMarks,e1,e2]
theorem pe_cmpR {op:CmpOp}{r:R2}(ho:OpR X (compareOp op) r)(ha:PE X a ta)(hb:PE X b tb)(hm:behindInMarks op b=false):PE X (.Compare a [op] [b] pos) (tOp r ta tb):=by
 intro pins s σ H Q I h
 exact wpAny_Compare1 (binT ha hb I h fun v u s2 x y H2 I2 rx ry q=>ho pins s2 σ H2 x y v u Q I2 rx ry q) hm
noncomputable def tTest (t:TE):TT:=fun σ H Q=>t σ H fun x H'=>∃k,x=.bl k/\Q k H'
theorem pt_cmpR {op:CmpOp}{r:R2}(ho:OpR X (compareOp op) r)(ha:PE X a ta)(hb:PE X b tb)(hm:behindInMarks op b=false):PT X (.Compare a [op] [b] pos) (tTest (tOp r ta tb)):=by
 intro pins s σ H Q I h
 refine wpAny_isTrue_Compare1 (thn (ha pins s σ H _ I h) fun v s1 zz=>?_) hm
 obtain⟨x,H1,I1,r1,q1⟩:=zz
 refine thn (hb pins s1 σ H1 _ I1 q1) fun u s2 zz=>?_
 obtain⟨y,H2,I2,r2,q2⟩:=zz
 refine thn (ho pins s2 σ H2 x y v u _ I2 r1 r2 q2) fun c s3 zz=>?_
 obtain⟨z,H3,I3,r3,k,e,q3⟩:=zz
 subst e
 cases r3
 exact wpAny_truthy_bool ⟨H3,I3,q3⟩
noncomputable def TruV (K:PySem.W.Frag)(x:V)(H:Hp)(k:Bool):Prop :=
 match x with
 | .non=>k=false
 | .bl b=>k=b
 | .int i=>k=(i != 0)
 | .str y=>y.length<=sizeLine/\k=((y.length:Int) != 0)
 | .byt y=>y.size<=sizeLine/\k=((y.size:Int) != 0)
 | .ref p=>(∃xs,SqL K H p xs/\k=!xs.isEmpty)\/(∃xs,SqT K H p xs/\k=!xs.isEmpty)\/∃kvs,H p=some (.dK kvs)/\k=!kvs.isEmpty
 | _=>False
theorem zmk {κ:Type}{kvs:List (κ×V)}{vs:List (κ×Value)}(r:KV kvs vs):(!vs.isEmpty)=!kvs.isEmpty:=by
 cases r<;>rfl
theorem zif {xs:List V}{its:List Value}(r:Vals xs its):(!its.toArray.isEmpty)=!xs.isEmpty:=by
 cases r<;>simp
theorem line63:(sizeLine:Nat)<2 ^ 63:=by rw[sizeLine_eq];decide
theorem tru_ok:TruR X (fun x H Q=>∃k,TruV X.K x H k/\Q k H):=by
 intro pins s σ H x v Q I rx h
 obtain⟨k,e,q⟩:=h
 have hl:=line63
 have hs:sizeLine=16777216:=sizeLine_eq
 cases x with
 | non =>
  cases rx
  have e':k=false:=e
  subst e'
  exact truthy_none ⟨H,I,q⟩
 | bl b =>
  cases rx
  have e':k=b:=e
  subst e'
  exact wpAny_truthy_bool ⟨H,I,q⟩
 | int i =>
  obtain⟨t,rfl⟩:=rx
  have e':k=(i != 0):=e
  subst e'
  exact PySem.P.truthy_int ⟨H,I,q⟩
 | str y =>
  obtain⟨t,rfl⟩:=rx
  obtain⟨hy,e'⟩:y.length<=sizeLine/\k=((y.length:Int) != 0):=e
  subst e'
  exact PySem.P.truthy_str (by omega) ⟨H,I.tok _,q⟩
 | byt y =>
  obtain⟨t,rfl⟩:=rx
  obtain⟨hy,e'⟩:y.size<=sizeLine/\k=((y.size:Int) != 0):=e
  subst e'
  exact PySem.W.truthy_bytes (by omega) ⟨H,I.tok _,q⟩
 | ref p =>
  cases rx
  have e':(∃xs,SqL X.K H p xs/\k=!xs.isEmpty)\/(∃xs,SqT X.K H p xs/\k=!xs.isEmpty)\/∃kvs,H p=some (.dK kvs)/\k=!kvs.isEmpty:=e
  rcases e' with⟨xs,hx,e'⟩ | ⟨xs,hx,e'⟩ | ⟨kvs,hx,e'⟩
  ·subst e'
   obtain⟨its,r,pl,hz⟩:=I.list hx
   have hlen:=r.length
   exact wpAny_truthy_list pl.isList (by simp only[List.size_toArray];omega) ⟨H,I.tok _,by rw[zif r];exact q⟩
  ·subst e'
   obtain⟨its,r,pl,hz⟩:=I.tuple hx
   have hlen:=r.length
   exact truthy_tuple pl (by simp only[List.size_toArray];omega) ⟨H,I.tok _,by rw[zif r];exact q⟩
  ·subst e'
   obtain⟨hz,hS,vs,r,m⟩:kvs.length<=sizeLine/\(p==sysModules)=false/\∃vs,KV kvs vs/\s.heap.DictOf (mixKind X.prog X.w) p vs:=I.hok p _ hx
   have hlen:kvs.length=vs.length:=Paired.length r
   exact wpAny_truthy_dict hS m (by omega) ⟨H,I.tok _,by rw[zmk r];exact q⟩
 | _=>exact (show False from e).elim
theorem pt_truth (ha:PE X a ta)(he:∀whole,isTrue a X.env whole=(do let v <-whole;standAt a.pos;holding [v] (truthy v))) :
  PT X a (fun σ H Q=>ta σ H fun x H'=>∃k,TruV X.K x H' k/\Q k H'):=by
 intro pins s σ H Q I h
 refine isTrue_plain (thn (ha pins s σ H _ I h) fun v s1 zz=>?_) (he _)
 obtain⟨x,H1,I1,r1,q1⟩:=zz
 exact tru_ok pins s1 σ H1 x v Q I1 r1 q1
theorem zlc:OpR X (binaryOp .Add) (fun x y H Q=>∃i j,x=.str i/\y=.str j/\i.length+j.length<=sizeLine/\Q (.str (i++j)) H):=by
 intro pins s σ H x y v u Q I rx ry h
 obtain⟨i,j,rfl,rfl,hz,q⟩:=h
 obtain⟨t,rfl⟩:=rx
 obtain⟨t',rfl⟩:=ry
 exact add_str (fun t' tk=>⟨.str (i++j),H,I.tok _,⟨_,rfl⟩,q⟩) hz
theorem vals1 {x:V}{us:List Value}(r:Vals [x] us):∃u,us=[u]/\RelV x u:=by
 cases r with
 | cons r1 r2=>cases r2;exact⟨_,rfl,r1⟩
theorem vals2 {x y:V}{us:List Value}(r:Vals [x,y] us):∃u w',us=[u,w']/\RelV x u/\RelV y w':=by
 cases r with
 | cons r1 r2 =>
  cases r2 with
  | cons r3 r4=>cases r4;exact⟨_,_,rfl,r1,r3⟩
theorem call_max2 (hc:X.calm=true):CallR X (.builtin "max") (fun xs H Q=>∃i j,xs=[.int i,.int j]/\Q (.int (if j > i then j else i)) H):=by
 intro pins s σ H xs us Q I r h
 obtain⟨i,j,rfl,q⟩:=h
 obtain⟨u,w',rfl,⟨t,rfl⟩,⟨t',rfl⟩⟩:=vals2 r
 refine max_two_ints (I.ok.hd hc) fun h' tk k=>⟨_,H,I.kept k,?_,q⟩
 by_cases hj:j > i
 ·rw[if_pos hj,if_pos hj];exact⟨_,rfl⟩
 ·rw[if_neg hj,if_neg hj];exact⟨_,rfl⟩
theorem call_min2 (hc:X.calm=true):CallR X (.builtin "min") (fun xs H Q=>∃i j,xs=[.int i,.int j]/\Q (.int (if j<i then j else i)) H):=by
 intro pins s σ H xs us Q I r h
 obtain⟨i,j,rfl,q⟩:=h
 obtain⟨u,w',rfl,⟨t,rfl⟩,⟨t',rfl⟩⟩:=vals2 r
 refine min_two_ints (I.ok.hd hc) fun h' tk k=>⟨_,H,I.kept k,?_,q⟩
 by_cases hj:j<i
 ·rw[if_pos hj,if_pos hj];exact⟨_,rfl⟩
 ·rw[if_neg hj,if_neg hj];exact⟨_,rfl⟩
theorem call_int1:CallR X (.type "int") (fun xs H Q=>(∃i,xs=[.int i]/\Q (.int i) H)\/∃k,xs=[.bl k]/\Q (.int (if k then 1 else 0)) H):=by
 intro pins s σ H xs us Q I r h
 rcases h with⟨i,rfl,q⟩ | ⟨k,rfl,q⟩
 ·obtain⟨u,rfl,t,rfl⟩:=vals1 r
  exact call_int_int ⟨.int i,H,I,⟨_,rfl⟩,q⟩
 ·obtain⟨u,rfl,r1⟩:=vals1 r
  cases r1
  exact call_int_bool ⟨.int (if k then 1 else 0),H,I.tok _,⟨_,rfl⟩,q⟩
end
end L2
namespace L2
open PySem PySem.Spec PyProof.Rows
structure ObjM (h:Heap)(x dx C:Addr)(mA:Str->Option Value):Prop where
 obj:h.get? x=some (PySem.W.instObj C dx)
 ns:h.Ns1 dx mA
 ne:dx≠x
theorem lookIn_ns {h:Heap}{dx:Addr}{mA:Str->Option Value}(n:h.Ns1 dx mA):∃od,h.get? dx=some od/\∀name,PySem.W.lookIn name od=some (mA name):=by
 obtain⟨o,es,ep,ho,hd,hk,_,hm⟩:=n
 refine⟨o,ho,fun name=>?_⟩
 have e:=hm name
 unfold nsFind findBy at e
 rw[<-Array.find?_toList]at e
 unfold PySem.W.lookIn
 rw[hd]
 dsimp only
 split
 ·rename_i y q
  rw[q]at e
  exact congrArg some e
 ·rename_i q
  rw[q]at e
  have a:es.toList.any (·.refKey)=false:=by
   rw[List.any_eq_false]
   intro y hy
   obtain⟨z,t,hkey⟩:=hk y (Array.mem_toList_iff.mp hy)
   simp[DictEntry.refKey,hkey]
  have a':¬ es.toList.any (·.refKey)=true:=by rw[a];exact Bool.false_ne_true
  rw[if_neg a']
  exact congrArg some e
theorem ObjM.look {h:Heap}{x dx C:Addr}{mA:Str->Option Value}(I:ObjM h x dx C mA):∃od,PySem.W.InstAt h x (PySem.W.instObj C dx) C (some od)/\∀name,PySem.W.lookIn name od=some (mA name) :=
 let ⟨od,ho,hl⟩:=lookIn_ns I.ns
 ⟨od,⟨I.obj,rfl,rfl,ho⟩,hl⟩
section
variable {prog:Program}{w:World}{A:Around}{E:Value->Shared->Prop}{s:Shared}{K:PySem.W.Frag}{x dx C f:Addr}{mA:Str->Option Value}{name:Str}{v:Value}
theorem get_map {expr:Bool}{Q:Value->Shared->Prop}(X:K.In s.heap)(I:ObjM s.heap x dx C mA)(hg:PySem.W.plainGet K C name=true)(hh:PySem.W.hasDictIn K C=true)
  (ha:PySem.W.findIn K (.ref C) name=some none) (hv:mA name=some v) (hv':PySem.W.handedIn v=true) (h:Q v { s with toks:=s.toks+1 }) :
  wpAny (model prog w) A (getAttr (.ref x) name expr) Q E s:=by
 obtain⟨od,J,hl⟩:=I.look
 exact PySem.W.get_value X J (PySem.W.plainGet_of hg).1 (PySem.W.findObj_own hh ha rfl (by rw[hl,hv])) hv' h
theorem get_meth {pl:Sem Bool}{Q:Value×List Value->Shared->Prop}(X:K.In s.heap)(I:ObjM s.heap x dx C mA)(hg:PySem.W.plainGet K C name=true)
  (hf:PySem.W.findIn K (.ref C) name=some (some (.ref f))) (ht:PySem.W.isFn K (.ref f)=true) (hv:mA name=none) (h:Q (.ref f,[.ref x]) s) :
  wpAny (model prog w) A (getMethod (.ref x) name pl) Q E s:=by
 obtain⟨od,J,hl⟩:=I.look
 exact PySem.W.method_fn X J (PySem.W.plainGet_of hg).1 (PySem.W.plainGet_of hg).2 hf (beq_iff_eq.mp ht) (by show (PySem.W.lookIn name od).map (·.isSome)=some false;rw[hl,hv];rfl) h
theorem set_map {ns:List Str}{Q:Unit->Shared->Prop}(X:K.In s.heap)(I:ObjM s.heap x dx C mA)
  (hs:PySem.W.findIn K (.ref C) "__setattr__" = some (some (.builtin "object.__setattr__"))) (hp:PySem.W.plainOver K C=true) (ht:PySem.W.takerIn K C name=some none) (hh:PySem.W.hasDictIn K C=true)
  (hw:PySem.Within mA ns) (hsz:ns.length<=sizeLine)
  (h:∀h',ObjM h' x dx C (fun y=>if y=name then some v else mA y)->Heap.SameBut dx s.heap h'->Q () { s with heap:=h',toks:=s.toks+2 }) :
  wpAny (model prog w) A (setAttr (.ref x) name v) Q E s:=by
 obtain⟨od,J,hl⟩:=I.look
 refine PySem.W.set_plain X J hs (PySem.W.osa_open (s:={ s with toks:=s.toks+1 }) (r:=none) X J hp ht fun b=>?_)
 obtain⟨cd,hc,hd'⟩:=PySem.W.any_some hh
 have hx:s.heap.get? x=some ⟨.ref C,some dx,.plain,#[]⟩:=I.obj
 refine wpAny_bind (wpAny_pure (wpAny_bind (wpAny_bind (wpAny_loadPart hx (wpAny_bind (PySem.W.Looks.here (s:={ s with toks:=s.toks+1 }) (PySem.W.looks_clsIn X hc) ?_))))))
 rw[hd']
 refine wpAny_pure (a:=some dx) (wpAny_bind (wpAny_pure (wpAny_bind ?_)))
 refine wpAny_nsSet1 (s:={ s with toks:=s.toks+1 }) I.ns fun h' hn2 hs2=>?_
 obtain⟨oD,esD,epD,hoD,hdD,hcD⟩:=hn2.count (PySem.Within.cons name v hw)
 refine wpAny_bind (wpAny_lookBehind hoD (by rw[hdD];exact pastItsLine_dict (Nat.le_trans hcD (by rw[List.length_cons];omega))) ?_)
 exact wpAny_pure (h _ ⟨(hs2.2 _ (Ne.symm I.ne)).trans I.obj,hn2,I.ne⟩ hs2)
theorem make_map {R:Result->Shared->Prop}{vs:List Value}{kw:List (Str×Value)}(X:K.In s.heap)(hm:PySem.W.makesIn K C=true)
  (hi:PySem.W.findIn K (.ref C) "__init__" = some (some (.ref f))) (hf:PySem.W.typeIn K (.ref f)=some (.type "function"))
  (h:codeAny (model prog w) (A.under (.builtin "type.__call__" ⟨.ref C::vs,kw⟩)) (.call (.ref f) ⟨.ref (s.heap.objs.size+1)::vs,kw⟩) (PySem.W.InitBack (s.heap.objs.size+1) R)
   { s with heap:=(s.heap.push PySem.W.emptyDict).push (PySem.W.instObj C s.heap.objs.size) }) :
  codeAny (model prog w) A (.call (.ref C) ⟨vs,kw⟩) R s:=by
 obtain⟨hh,g,d,t,os⟩:=s
 exact PySem.W.make_core (PySem.W.makes_of X hm) (PySem.W.looks_findIn X hi) (fun self=>PySem.W.bind_fn X self hf) (.inl rfl) h
end
noncomputable def putF (f:Str)(v:V):List (Str×V)->List (Str×V)
 | []=>[(f,v)]
 | (g,x)::r=>if g=f then (g,v)::r else (g,x)::putF f v r
theorem zhk (f g:Str)(v:V):∀fs:List (Str×V),(putF f v fs).lookup g=if g=f then some v else fs.lookup g
 | []=>by
  show List.lookup g [(f,v)]=_
  by_cases h:g=f
  ·have hb:(g==f)=true:=beq_iff_eq.mpr h
   simp only[List.lookup,hb,if_pos h]
  ·have hb:(g==f)=false:=beq_eq_false_iff_ne.mpr h
   simp only[List.lookup,hb,if_neg h]
 | (k,x)::r=>by
  have ih:=zhk f g v r
  rw[show putF f v ((k,x)::r)=(if k=f then (k,v)::r else (k,x)::putF f v r) from rfl]
  by_cases hk:k=f
  ·rw[if_pos hk]
   by_cases h:g=k
   ·have hb:(g==k)=true:=beq_iff_eq.mpr h
    simp only[List.lookup,hb,if_pos (h.trans hk)]
   ·have hb:(g==k)=false:=beq_eq_false_iff_ne.mpr h
    simp only[List.lookup,hb,if_neg (fun e:g=f=>h (e.trans hk.symm))]
  ·rw[if_neg hk]
   by_cases h:g=k
   ·have hb:(g==k)=true:=beq_iff_eq.mpr h
    simp only[List.lookup,hb,if_neg (fun e:g=f=>hk (h.symm.trans e))]
   ·have hb:(g==k)=false:=beq_eq_false_iff_ne.mpr h
    simp only[List.lookup,hb]
    exact ih
theorem zh6 (f:Str)(v:V):∀fs:List (Str×V),f∈(putF f v fs).map (·.1)/\∀g,g∈fs.map (·.1)->g∈(putF f v fs).map (·.1)
 | []=>⟨by simp[putF],fun g h=>by simp at h⟩
 | (k,x)::r=>by
  obtain⟨i1,i2⟩:=zh6 f v r
  rw[show putF f v ((k,x)::r)=(if k=f then (k,v)::r else (k,x)::putF f v r) from rfl]
  by_cases hk:k=f
  ·rw[if_pos hk]
   subst hk
   exact⟨by simp,fun g h=>by simpa using h⟩
  ·rw[if_neg hk]
   refine⟨?_,fun g h=>?_⟩
   ·rw[List.map_cons]
    exact List.mem_cons_of_mem _ i1
   ·rw[List.map_cons]at h ⊢
    rcases List.mem_cons.mp h with e | e
    ·exact List.mem_cons.mpr (.inl e)
    ·exact List.mem_cons_of_mem _ (i2 g e)
theorem zhn (f:Str)(v:V):∀fs:List (Str×V),(putF f v fs).length<=fs.length+1
 | []=>by simp[putF]
 | (k,x)::r=>by
  have ih:=zhn f v r
  rw[show putF f v ((k,x)::r)=(if k=f then (k,v)::r else (k,x)::putF f v r) from rfl]
  by_cases hk:k=f
  ·rw[if_pos hk,List.length_cons,List.length_cons];omega
  ·rw[if_neg hk,List.length_cons,List.length_cons];omega
theorem RelO.some_of {v:V}{o:Option Value}(r:RelO (some v) o):∃u,o=some u/\RelV v u:=by
 cases o with
 | none=>exact (show False from r).elim
 | some u=>exact⟨u,rfl,r⟩
theorem RelO.none_of {o:Option Value}(r:RelO none o):o=none:=by
 cases o with
 | none=>rfl
 | some u=>exact (show False from r).elim
theorem handed_of {v:V}{u:Value}(r:RelV v u):PySem.W.handedIn u=true:=by
 cases v with
 | non=>cases (show u=Value.none from r);rfl
 | bl b=>cases (show u=Value.bool b from r);rfl
 | int i=>obtain⟨t,e⟩:=(show ∃t,u=Value.int i t from r);cases e;rfl
 | str x=>obtain⟨t,e⟩:=(show ∃t,u=Value.str x t from r);cases e;rfl
 | byt b=>obtain⟨t,e⟩:=(show ∃t,u=Value.bytes b t from r);cases e;rfl
 | flt b=>obtain⟨t,e⟩:=(show ∃t,u=Value.float b t from r);cases e;rfl
 | ref a=>cases (show u=Value.ref a from r);rfl
 | ty n=>cases (show u=Value.type n from r);rfl
section
variable {P:Program}{w:World}{H H':Hp}{h h':Heap}{a C dx:Addr}{fs fs':List (Str×V)}
theorem zka (hok:HOk P w H h)(e:H a=some (.ins C dx fs)):∃mA,ObjM h a dx C mA/\(∀f,RelO (fs.lookup f) (mA f))/\PySem.Within mA (fs.map (·.1))/\fs.length<=1000/\H dx=some (.own a):=by
 obtain⟨d,z,ne,ob,mA,n,r,q⟩:=(show ObjOk P w H h a (.ins C dx fs) from hok a _ e)
 exact⟨mA,⟨ob,n,ne⟩,r,q,z,d⟩
end
structure Cls (K:PySem.W.Frag)(C:Addr):Prop where
 pg:PySem.W.plainGet K C Str.empty=true
 hd:PySem.W.hasDictIn K C=true
 po:PySem.W.plainOver K C=true
 sa:PySem.W.findIn K (.ref C) "__setattr__" = some (some (.builtin "object.__setattr__"))
theorem Cls.get {K:PySem.W.Frag}{C:Addr}(c:Cls K C)(f:Str):PySem.W.plainGet K C f=true:=c.pg
noncomputable def NoAttr (K:PySem.W.Frag)(C:Addr)(f:Str):Prop:=PySem.W.findIn K (.ref C) f=some none
theorem NoAttr.taker {K:PySem.W.Frag}{C:Addr}{f:Str}(n:NoAttr K C f):PySem.W.takerIn K C f=some none:=by
 unfold PySem.W.takerIn
 rw[show PySem.W.findIn K (.ref C) f=some none from n]
 rfl
structure Con (K:PySem.W.Frag)(C:Addr)(f:Str)(v:V)(u:Value):Prop where
 at_:PySem.W.findIn K (.ref C) f=some (some u)
 rel:RelV v u
 get:PySem.W.specialIn K u "__get__" = some none
 cp:PySem.W.copiedNames.contains f=false
structure Meth (K:PySem.W.Frag)(C:Addr)(m:Str)(f:Addr):Prop where
 at_:PySem.W.findIn K (.ref C) m=some (some (.ref f))
 fn:PySem.W.isFn K (.ref f)=true
 kp:PySem.W.keepIn K (.ref f)=true
section
variable {X:Cx}{pins:List (Addr×Obj)}{σ:St}{H:Hp}{s:Shared}{a C dx:Addr}{fs:List (Str×V)}{f:Str}{v:V}{A:Around}{E:Value->Shared->Prop}
theorem zl3 {b:Bool}{Q:Value->Shared->Prop}(I:Inv X pins σ H s)(e:H a=some (.ins C dx fs))(c:Cls X.K C)(n:NoAttr X.K C f)(l:fs.lookup f=some v)
  (h:∀u s',Inv X pins σ H s'->RelV v u->Q u s'):wpAny (model X.prog X.w) A (getAttr (.ref a) f b) Q E s:=by
 obtain⟨mA,O,r,_,_,_⟩:=zka I.hok e
 obtain⟨u,hu,ru⟩:=RelO.some_of (v:=v) (o:=mA f) (by rw[<-l];exact r f)
 exact get_map I.kIn O (c.get f) c.hd n hu (handed_of ru) (h u _ (I.tok _) ru)
theorem zmf {m:Str}{g:Addr}{pl:Sem Bool}{Q:Value×List Value->Shared->Prop}(I:Inv X pins σ H s)(e:H a=some (.ins C dx fs))(c:Cls X.K C)(k:Meth X.K C m g)(l:fs.lookup m=none)
  (h:Q (.ref g,[.ref a]) s):wpAny (model X.prog X.w) A (getMethod (.ref a) m pl) Q E s:=by
 obtain⟨mA,O,r,_,_,_⟩:=zka I.hok e
 have hn:mA m=none:=RelO.none_of (by rw[<-l];exact r m)
 exact get_meth I.kIn O (c.get m) k.at_ k.fn hn h
theorem zlu {y:V}{u:Value}{Q:Unit->Shared->Prop}(I:Inv X pins σ H s)(e:H a=some (.ins C dx fs))(c:Cls X.K C)(n:NoAttr X.K C f)(hl:fs.length<1000)(ry:RelV y u)
  (h:∀s',Inv X pins σ (upd H a (.ins C dx (putF f y fs))) s'->Q () s'):wpAny (model X.prog X.w) A (setAttr (.ref a) f u) Q E s:=by
 obtain⟨mA,O,r,wi,_,ho⟩:=zka I.hok e
 have hz:(fs.map (·.1)).length<=sizeLine:=by rw[List.length_map,sizeLine_eq];omega
 refine set_map I.kIn O c.sa c.po n.taker c.hd wi hz fun h' O' sb=>h _ ?_
 have hd:∃o,h'.get? dx=some o:=let ⟨o,_,_,e',_⟩:=O'.ns;⟨o,e'⟩
 refine I.write (x:=a) (e:=dx) (by rw[e];exact True.intro) (.inr ho) (fun b q hb z=>(sb.2 b hb).trans z) hd ?_
 refine⟨by rw[zcx O.ne];exact ho,?_,O.ne,O'.obj,_,O'.ns,fun g=>?_,fun g hg=>?_⟩
 ·have:=zhn f y fs;omega
 ·show RelO ((putF f y fs).lookup g) (if g=f then some u else mA g)
  rw[zhk]
  by_cases q:g=f
  ·rw[if_pos q,if_pos q];exact ry
  ·rw[if_neg q,if_neg q];exact r g
 ·by_cases q:g=f
  ·rw[q];exact (zh6 f y fs).1
  ·refine (zh6 f y fs).2 g (wi g fun z=>hg ?_)
   show (if g=f then some u else mA g)=none
   rw[if_neg q];exact z
theorem Inv.made (I:Inv X pins σ H s):Inv X pins σ (upd (upd H s.heap.objs.size (.own (s.heap.objs.size+1))) (s.heap.objs.size+1) (.ins C s.heap.objs.size []))
  { s with heap:=(s.heap.push PySem.W.emptyDict).push (PySem.W.instObj C s.heap.objs.size) }:=by
 have e1:(s.heap.push PySem.W.emptyDict).get? s.heap.objs.size=some PySem.W.emptyDict:=Heap.get?_push_size s.heap rfl
 have e2:((s.heap.push PySem.W.emptyDict).push (PySem.W.instObj C s.heap.objs.size)).get? (s.heap.objs.size+1)=some (PySem.W.instObj C s.heap.objs.size):=by
  have:=Heap.get?_push_size (s.heap.push PySem.W.emptyDict) (o:=PySem.W.instObj C s.heap.objs.size) rfl
  rwa[Heap.size_push]at this
 have e3:(s.heap.push PySem.W.emptyDict).Ns s.heap.objs.size (fun _=>none):=⟨PySem.W.emptyDict,#[],_,e1,rfl,(fun e he=>absurd he (by simp)),fun _=>rfl⟩
 have I1:=I.laid (a:=s.heap.objs.size) (o:=.own (s.heap.objs.size+1)) (h':=s.heap.push PySem.W.emptyDict) (t':=s.toks) (fun b u q=>Heap.get?_push_of_some _ q) (Nat.le_refl _) ⟨_,e1⟩
 refine I1.laid (a:=s.heap.objs.size+1) (o:=.ins C s.heap.objs.size []) (t':=s.toks) (fun b u q=>Heap.get?_push_of_some _ q) (Nat.le_of_eq (Heap.size_push _ _)) ?_
 have ne:s.heap.objs.size≠s.heap.objs.size+1:=Nat.ne_of_lt (Nat.lt_succ_self _)
 refine⟨by rw[zcx ne,zbd],Nat.zero_le _,ne,e2,fun _=>none,(Heap.Ns1.of_empty e3).at fun o q=>Heap.get?_push_of_some _ q,fun _=>True.intro,fun y hy=>absurd rfl hy⟩
theorem attr_of {prog:Program}{w:World}{env:Env}{e:Expr}{f:Str}{pos:Pos}{s:Shared}{Q:Value->Shared->Prop}(hb:attributeBase e f env (eval e env)=eval e env)
  (h:wpAny (model prog w) A (eval e env) (fun o s₁=>wpAny (model prog w) A (getAttr o f true) Q E s₁) E s):wpAny (model prog w) A (eval (.Attribute e f pos) env) Q E s :=
 Attribute_any_ h (by rw[arm_eval_Attribute,hb])
end
noncomputable def tFld (K:PySem.W.Frag)(ta:TE)(f:Str):TE:=fun σ H Q=>ta σ H fun x H1=>∃a C dx fs v,x=.ref a/\H1 a=some (.ins C dx fs)/\Cls K C/\NoAttr K C f/\fs.lookup f=some v/\Q v H1
noncomputable def sFld (K:PySem.W.Frag)(ta tv:TE)(f:Str):TS:=fun D σ H=>tv σ H fun y H1=>ta σ H1 fun x H2=>∃a C dx fs,x=.ref a/\H2 a=some (.ins C dx fs)/\Cls K C/\NoAttr K C f/\fs.length<1000 /\
 D.nx σ (upd H2 a (.ins C dx (putF f y fs)))
section
variable {X:Cx}{o e value:Expr}{f:Str}{pos pos' tpos:Pos}{ta tv:TE}
theorem pe_fld (he:PE X e ta)(hb:attributeBase e f X.env (eval e X.env)=eval e X.env):PE X (.Attribute e f pos) (tFld X.K ta f):=by
 intro pins s σ H Q I h
 refine attr_of hb (thn (he pins s σ H _ I h) fun u s1 zz=>?_)
 obtain⟨x,H1,I1,rx,a,C,dx,fs,v,ex,ea,c,n,l,q⟩:=zz
 subst ex
 obtain rfl:u=Value.ref a:=rx
 exact zl3 I1 ea c n l fun u' s2 I2 ru=>⟨v,H1,I2,ru,q⟩
theorem ps_fld (ha:PE X o ta)(hv:PE X value tv)(hs:swapsWith value (some (.Attribute o f pos')) pos.line X.env=pure false):PS X (.Assign [.Attribute o f pos'] value pos) (sFld X.K ta tv f):=by
 intro pins s σ H D I h
 refine plainObj_wpAny_Assign_Attribute (thn (hv pins s σ H _ I h) fun u s1 zz=>?_) hs
 obtain⟨y,H1,I1,ry,q⟩:=zz
 refine thn (ha pins s1 σ H1 _ I1 q) fun ov s2 zz=>?_
 obtain⟨x,H2,I2,rx,a,C,dx,fs,ex,ea,c,n,l,q2⟩:=zz
 subst ex
 obtain rfl:ov=Value.ref a:=rx
 exact zlu I2 ea c n l ry fun s3 I3=>⟨σ,_,I3,q2⟩
end
section
variable {X:Cx}{pins:List (Addr×Obj)}{σ:St}{H:Hp}{s:Shared}{A:Around}{E:Value->Shared->Prop}{Q:Value->Shared->Prop}{c:Value}{b:Bool}
inductive TyOf (K:PySem.W.Frag) (H:Hp):V->Value->Prop where
 | non:TyOf K H .non (.type "NoneType")
 | bl (x:Bool):TyOf K H (.bl x) (.type "bool")
 | int (i:Int):TyOf K H (.int i) (.type "int")
 | str (x:Str):TyOf K H (.str x) (.type "str")
 | flt (x:UInt64):TyOf K H (.flt x) (.type "float")
 | lst {a:Addr} {xs:List V} (e:H a=some (.lst xs)):TyOf K H (.ref a) (.type "list")
 | frz {a:Addr} {o:Obj} {xs:List V} (e:H a=some (.frz o (.lst xs))):TyOf K H (.ref a) (.type "list")
 | tup {a:Addr} {xs:List V} (e:H a=some (.tup xs)):TyOf K H (.ref a) (.type "tuple")
 | dK {a:Addr} {kvs:List (Key×V)} (e:H a=some (.dK kvs)):TyOf K H (.ref a) (.type "dict")
 | dT {a:Addr} {kvs:List (List Key×V)} (e:H a=some (.dT kvs)):TyOf K H (.ref a) (.type "dict")
 | ins {a C dx:Addr} {fs:List (Str×V)} (e:H a=some (.ins C dx fs)) (cl:Cls K C) (ha:PySem.W.findIn K (.ref C) "__class__" = some (some (.builtin "object.__class__")))
   (hn:PySem.W.specialIn K (.builtin "object.__class__") "__get__" = some (some (.builtin "getset_descriptor.__get__"))) (htk:PySem.W.takesIn K (.builtin "object.__class__")=some true)
   (hm:PySem.W.mroIn K C (.type "object")=some true):TyOf K H (.ref a) (.ref C)
theorem zeu {x:V}{u t:Value}(I:Inv X pins σ H s)(rx:RelV x u)(ty:TyOf X.K H x t)(e:PySem.W.kitOne X.K t c=some b)(h:∀tk,Q (.bool b) { s with toks:=tk }) :
  wpAny (model X.prog X.w) A (call (.builtin "isinstance") [u,c]) Q E s:=by
 cases ty with
 | non=>cases (show u=Value.none from rx);exact PySem.W.kia_one PySem.W.kitx_none I.kIn True.intro e (fun z=>nomatch z) h
 | bl y=>cases (show u=Value.bool y from rx);exact PySem.W.kia_one PySem.W.kitx_bool I.kIn True.intro e (fun z=>nomatch z) h
 | int i=>obtain⟨t,q⟩:=(show ∃t,u=Value.int i t from rx);cases q;exact PySem.W.kia_one PySem.W.kitx_int I.kIn True.intro e (fun z=>nomatch z) h
 | str y=>obtain⟨t,q⟩:=(show ∃t,u=Value.str y t from rx);cases q;exact PySem.W.kia_one PySem.W.kitx_str I.kIn True.intro e (fun z=>nomatch z) h
 | flt y=>obtain⟨t,q⟩:=(show ∃t,u=Value.float y t from rx);cases q;exact PySem.W.kia_one PySem.W.kitx_float I.kIn True.intro e (fun z=>nomatch z) h
 | @lst a xs ea =>
  cases (show u=Value.ref a from rx)
  obtain⟨_,_,n,_,h1⟩:=(show ObjOk X.prog X.w H s.heap a (.lst xs) from I.hok a _ ea)
  exact PySem.W.kia_one PySem.W.kitx_list I.kIn ⟨_,h1,rfl⟩ e (fun z=>nomatch z) h
 | @frz a ob xs ea =>
  cases (show u=Value.ref a from rx)
  obtain⟨_,_,_,n,_,h1⟩:=(show ObjOk X.prog X.w H s.heap a (.frz ob (.lst xs)) from I.hok a _ ea)
  exact PySem.W.kia_one PySem.W.kitx_list I.kIn ⟨_,h1,rfl⟩ e (fun z=>nomatch z) h
 | @tup a xs ea =>
  cases (show u=Value.ref a from rx)
  obtain⟨_,_,_,p⟩:=(show ObjOk X.prog X.w H s.heap a (.tup xs) from I.hok a _ ea)
  obtain⟨o,h1,h2,_⟩:=p
  exact PySem.W.kia_one PySem.W.kitx_tuple I.kIn ⟨o,h1,h2⟩ e (fun z=>nomatch z) h
 | @dK a kvs ea =>
  cases (show u=Value.ref a from rx)
  obtain⟨_,_,vs,_,p⟩:=(show ObjOk X.prog X.w H s.heap a (.dK kvs) from I.hok a _ ea)
  obtain⟨o,es,ep,h1,h2,_⟩:=p
  exact PySem.W.kia_one PySem.W.kitx_dict I.kIn ⟨o,h1,h2.1⟩ e (fun z=>nomatch z) h
 | @dT a kvs ea =>
  cases (show u=Value.ref a from rx)
  obtain⟨_,_,xs,_,o,es,ep,h1,h2,_⟩:=(show ObjOk X.prog X.w H s.heap a (.dT kvs) from I.hok a _ ea)
  exact PySem.W.kia_one PySem.W.kitx_dict I.kIn ⟨o,h1,h2.1⟩ e (fun z=>nomatch z) h
 | @ins a C dx fs ea cl ha hn htk hm =>
  cases (show u=Value.ref a from rx)
  obtain⟨mA,O,_⟩:=zka I.hok ea
  obtain⟨od,J,_⟩:=O.look
  exact PySem.W.kia_one (PySem.W.kitx_own (cl.get _) cl.hd ha hn htk hm) I.kIn J e (fun z=>nomatch z) h
end
end L2
namespace L2
open PySem PySem.Spec PyProof.Rows
structure Room (k:Nat)(A:Around):Prop where
 hd:A.handled=none
 dp:A.depth+3*k+5<recursionLimit
 un:A.units+16*k+200<cLine
theorem Room.mono {j k:Nat}{A:Around}(r:Room k A)(h:j<=k):Room j A:=⟨r.hd,by have:=r.dp;omega,by have:=r.un;omega⟩
theorem Room.deeper {k:Nat}{A:Around}(r:Room (k+1) A)(env:Env):Room k (A.deeper env) :=
 ⟨r.hd,by have:=r.dp;show A.depth+1+3*k+5<_;omega,by have:=r.un;show A.units+3+16*k+200<_;omega⟩
theorem zlo {A:Around}{C:Addr}{us:List Value}{kw:List (Str×Value)}:(A.under (.builtin "type.__call__" ⟨.ref C::us,kw⟩)).depth=A.depth+1:=by
 first | rfl | simp[Around.under,Code.weight,Code.isCreation,Code.isGuard,Code.isCaller,Code.frames,Code.isFrame,guardIds]
theorem zmo {A:Around}{C:Addr}{us:List Value}{kw:List (Str×Value)}:(A.under (.builtin "type.__call__" ⟨.ref C::us,kw⟩)).units=A.units+1:=by
 first | rfl | simp[Around.under,Code.cUnits,Code.frames,Code.isFrame]
theorem Room.make {k:Nat}{A:Around}(r:Room (k+1) A)(C:Addr)(us:List Value)(kw:List (Str×Value)):Room k (A.under (.builtin "type.__call__" ⟨.ref C::us,kw⟩)) :=
 ⟨r.hd,by have:=r.dp;rw[zlo];omega,by have:=r.un;rw[zmo];omega⟩
theorem Room.depth {k:Nat}{A:Around}(r:Room k A):A.depth<recursionLimit:=by have:=r.dp;omega
theorem Room.units {k:Nat}{A:Around}(r:Room k A):A.units+64<cLine:=by have:=r.un;omega
noncomputable def tNil:TA:=fun _ H Q=>Q [] H
noncomputable def tCons (ta:TE)(tr:TA):TA:=fun σ H Q=>ta σ H fun x H1=>tr σ H1 fun xs H2=>Q (x::xs) H2
section
variable {X:Cx}{e:Expr}{es:List Expr}{te:TE}{t:TA}{pos:Pos}
theorem pa_nil:PA X [] tNil:=fun _ _ _ _ H Q I h=>Calls.spliced_nil ⟨[],H,I,.nil,h⟩
theorem zly (ha:PE X e te)(hr:PA X es t)(hs:starEach (e::es) X.env=(false,eval e X.env)::starEach es X.env:=by rfl):PA X (e::es) (tCons te t):=by
 intro pos pins s σ H Q I h
 rw[hs]
 show wpAny _ _ (spliced ((false,eval e X.env)::backTo pos (starEach es X.env))) _ _ s
 refine Calls.spliced_cons (thn (ha pins s σ H _ I h) fun u s1 zz=>?_)
 obtain⟨x,H1,I1,r1,q1⟩:=zz
 refine thn (hr pos pins s1 σ H1 _ I1 q1) fun us s2 zz=>?_
 obtain⟨xs,H2,I2,r2,q2⟩:=zz
 exact⟨x::xs,H2,I2,.cons r1 r2,q2⟩
noncomputable def tTup (t:TA):TE:=fun σ H Q=>t σ H fun xs H1=>xs.length<=sizeLine/\∀p,H1 p=none->Q (.ref p) (upd H1 p (.tup xs))
noncomputable def tLst (t:TA):TE:=fun σ H Q=>t σ H fun xs H1=>xs.length<=sizeLine/\∀p,H1 p=none->Q (.ref p) (upd H1 p (.lst xs))
theorem pe_tup {x1}(h:PA X es t):PE X (.Tuple es x1 pos) (tTup t):=by
 intro pins s σ H Q I hq
 refine wpAny_Tuple_spliced (thn (h pos pins s σ H _ I hq) fun us s1 zz=>?_)
 obtain⟨xs,H1,I1,r,z,q⟩:=zz
 refine⟨by rw[<-r.length];exact z,?_⟩
 have hf:H1 s1.heap.objs.size=none:=I1.hok.fresh (Nat.le_refl _)
 refine⟨.ref s1.heap.objs.size,upd H1 s1.heap.objs.size (.tup xs),I1.laid (t':=s1.toks) (fun b u e=>Heap.get?_push_of_some _ e) (Nat.le_refl _) ?_,rfl,q _ hf⟩
 exact⟨z,us,r,⟨_,Heap.get?_push_size _ rfl,rfl,_,rfl⟩⟩
theorem pe_lst (h:PA X es t):PE X (.List es pos) (tLst t):=by
 intro pins s σ H Q I hq
 refine wpAny_List_spliced (thn (h pos pins s σ H _ I hq) fun us s1 zz=>?_)
 obtain⟨xs,H1,I1,r,z,q⟩:=zz
 refine⟨by rw[<-r.length];exact z,?_⟩
 have hf:H1 s1.heap.objs.size=none:=I1.hok.fresh (Nat.le_refl _)
 refine⟨.ref s1.heap.objs.size,upd H1 s1.heap.objs.size (.lst xs),I1.laid (t':=s1.toks) (fun b u e=>Heap.get?_push_of_some _ e) (Nat.le_refl _) ?_,rfl,q _ hf⟩
 exact⟨z,us,0,r,Heap.get?_push_size _ rfl⟩
end
noncomputable abbrev Sp:=List V->Hp->VK->XK->Prop
noncomputable abbrev CXT:=List Env->Hp->Shared->XK->Value->Shared->Prop
structure Env0 (P:Program)(w:World)(K:PySem.W.Frag)(mg:Str->Option Value)(base:Heap)(A:Around)(outer:List Env)(s:Shared)(H:Hp):Prop where
 frames:A.frames=some outer
 mod:Mod K mg base
 bs:∀b o,base.get? b=some o->s.heap.get? b=some o/\H b=none
 bsz:base.objs.size<=s.heap.objs.size
 funs:s.heap.FunFrames base outer
 frf:∀b∈frs outer,H b=none
 hok:HOk P w H s.heap
 bare:AllBare s.gens
noncomputable def CE (outer:List Env)(P:Program)(w:World)(H:Hp)(s:Shared)(Q:VK)(u:Value)(s':Shared):Prop :=
 ∃v H',s'.os=s.os/\AllBare s'.gens/\Un (frs outer) [] H H' s.heap s'.heap/\HOk P w H' s'.heap/\RelV v u/\Q v H'
noncomputable def CR (CX:CXT)(outer:List Env)(P:Program)(w:World)(H:Hp)(s:Shared)(Q:VK)(E:XK)(r:Result)(s':Shared):Prop :=
 match r with
 | .ok (.ret u)=>CE outer P w H s Q u s'
 | .ok _=>False
 | .error e=>CX outer H s E e s'
structure FnOk (P:Program)(w:World)(K:PySem.W.Frag)(mg:Str->Option Value)(base:Heap)(CX:CXT)(k:Nat)(f:Addr)(fd:FuncData)(ps:List Str)(sp:Sp):Prop where
 len:∀vs H Q E,sp vs H Q E->vs.length=ps.length
 run:∀(A:Around) (outer:List Env) (s:Shared) (H:Hp) (args:Args) (us:List Value) (vs:List V) (Q:VK) (E:XK),Room k A->Env0 P w K mg base A outer s H->BindsTo s fd args (ps.zip us)->Vals vs us->sp vs H Q E ->
  codeAny (model P w) A (.call (.ref f) args) (CR CX outer P w H s Q E) s
theorem FnOk.mono {P:Program}{w:World}{K:PySem.W.Frag}{mg:Str->Option Value}{base:Heap}{CX:CXT}{j k:Nat}{f:Addr}{fd:FuncData}{ps:List Str}{sp:Sp}(F:FnOk P w K mg base CX j f fd ps sp)(h:j<=k) :
  FnOk P w K mg base CX k f fd ps sp:=⟨F.len,fun A outer s H args us vs Q E hr=>F.run A outer s H args us vs Q E (hr.mono h)⟩
theorem FnOk.imp {P:Program}{w:World}{K:PySem.W.Frag}{mg:Str->Option Value}{base:Heap}{CX:CXT}{k:Nat}{f:Addr}{fd:FuncData}{ps:List Str}{sp sp':Sp}(F:FnOk P w K mg base CX k f fd ps sp)
  (h:∀vs H Q E,sp' vs H Q E->sp vs H Q E):FnOk P w K mg base CX k f fd ps sp' :=
 ⟨fun vs H Q E q=>F.len vs H Q E (h _ _ _ _ q),fun A outer s H args us vs Q E hr he hb hv hs=>F.run A outer s H args us vs Q E hr he hb hv (h _ _ _ _ hs)⟩
theorem Env0.make {P:Program}{w:World}{K:PySem.W.Frag}{mg:Str->Option Value}{base:Heap}{A:Around}{outer:List Env}{s:Shared}{H:Hp}(e:Env0 P w K mg base A outer s H)(C:Addr)(us:List Value)(kw:List (Str×Value)) :
  Env0 P w K mg base (A.under (.builtin "type.__call__" ⟨.ref C::us,kw⟩)) outer s H:=⟨by first | exact e.frames | (simpa[Around.under,Code.envs,Code.isFrame,pushEnvs] using e.frames),e.mod,e.bs,e.bsz,e.funs,e.frf,e.hok,e.bare⟩
section
variable {X:Cx}{pins:List (Addr×Obj)}{σ:St}{H:Hp}{s s':Shared}
theorem Inv.env0 (I:Inv X pins σ H s):Env0 X.prog X.w X.K X.mg X.base X.A X.stack s H :=
 ⟨I.ok.frames,I.ok.mod,I.bs,Nat.le_trans I.ok.bsz I.sz,I.stack,I.stkFree,I.hok,I.bare⟩
theorem Inv.after {Q:VK}{u:Value}(I:Inv X pins σ H s)(h:CE X.stack X.prog X.w H s Q u s'):EP X pins σ Q u s':=by
 obtain⟨v,H',os,bare,un,hok,r,q⟩:=h
 obtain⟨hh,g,d,t,os'⟩:=s'
 obtain rfl:os'=s.os:=os
 exact⟨v,H',I.call (h':=hh) (g':=g) (d':=d) (t':=t) (ch:=[]) un hok bare (fun b z=>absurd z (by simp)),r,q⟩
end
noncomputable def tCall (sp:Sp)(dvs:List V)(E:XK)(t:TA):TE:=fun σ H Q=>t σ H fun vs H1=>sp (vs++dvs) H1 Q E
noncomputable def tMeth (C:Addr)(m:Str)(sp:Sp)(dvs:List V)(E:XK)(ta:TE)(t:TA):TE:=fun σ H Q=>ta σ H fun x H1=>∃a dx fs,x=.ref a/\H1 a=some (.ins C dx fs)/\fs.lookup m=none /\
 t σ H1 fun vs H2=>sp (x::(vs++dvs)) H2 Q E
noncomputable def tMake (C:Addr)(sp:Sp)(dvs:List V)(E:XK)(t:TA):TE:=fun σ H Q=>t σ H fun vs H1=>∀x dx,H1 x=none->H1 dx=none->dx≠x ->
 sp (.ref x::(vs++dvs)) (upd (upd H1 dx (.own x)) x (.ins C dx [])) (fun v H2=>v=.non/\Q (.ref x) H2) E
noncomputable def Binds (K:PySem.W.Frag)(fd:FuncData)(ps:List Str)(ds:List Value):Prop :=
 ∀(s:Shared) (us:List Value),K.In s.heap->(us++ds).length=ps.length->BindsTo s fd ⟨us,[]⟩ (ps.zip (us++ds))
theorem Binds.all {K:PySem.W.Frag}{fd:FuncData}{ps:List Str}(h:∀us:List Value,us.length=ps.length->bindArgs fd ⟨us,[]⟩=pure (ps.zip us)):Binds K fd ps []:=fun s us _ hl=>by
 rw[List.append_nil]at hl ⊢
 exact .of_eq (h us hl)
noncomputable def Passes (CX:CXT)(X:Cx)(E:XK):Prop:=∀(pins:List (Addr×Obj)) (σ:St) (H:Hp) (s:Shared) (e:Value) (s':Shared),Inv X pins σ H s->CX X.stack H s E e s'->X.xe e s'
section
variable {X:Cx}{CX:CXT}{k:Nat}{f C:Addr}{fd:FuncData}{ps:List Str}{sp:Sp}{dvs:List V}{ds:List Value}{E:XK}{x m:Str}{p pos apos:Pos}{e o:Expr}{es:List Expr}{ta:TE}{t:TA}
theorem run_fn {pins:List (Addr×Obj)}{σ:St}{H:Hp}{s:Shared}{Q:VK}{us:List Value}{vs:List V}(F:FnOk X.prog X.w X.K X.mg X.base CX k f fd ps sp)(hr:Room k X.A)(hb:Binds X.K fd ps ds)(hd:Vals dvs ds)(hx:Passes CX X E)
  (I:Inv X pins σ H s) (r:Vals vs us) (h:sp (vs++dvs) H Q E):wpAny (model X.prog X.w) X.A (call (.ref f) us) (EP X pins σ Q) X.xe s:=by
 have r2:Vals (vs++dvs) (us++ds):=r.append hd
 have hl:(us++ds).length=ps.length:=by rw[<-r2.length];exact F.len _ _ _ _ h
 refine wpAny_call (codeAny_mono (F.run X.A X.stack s H ⟨us,[]⟩ (us++ds) (vs++dvs) Q E hr I.env0 (hb s us I.kIn hl) r2 h) fun r s' hq=>?_)
 cases r with
 | error e=>exact hx pins σ H s e s' I hq
 | ok fl =>
  cases fl with
  | ret u=>exact I.after hq
  | next=>exact False.elim hq
  | brk=>exact False.elim hq
  | cont=>exact False.elim hq
theorem pe_call (F:FnOk X.prog X.w X.K X.mg X.base CX k f fd ps sp)(hr:Room k X.A)(hg:Gl X x)(hm:X.mg x=some (.ref f))(hk:PySem.W.keepIn X.K (.ref f)=true)(hb:Binds X.K fd ps ds)(hd:Vals dvs ds)(hx:Passes CX X E)
  (ha:PA X (e::es) t) (hdb:(x==("__debug__":Str))=false:=by decide) (he:starEach (e::es) X.env=(false,eval e X.env)::starEach es X.env:=by rfl) (hpl:(backTo pos (starEach es X.env)).any (·.1)=false:=by rfl) :
  PE X (.Call (.Name x p) (e::es) [] pos) (tCall sp dvs E t):=by
 intro pins s σ H Q I h
 refine wpAny_Call_Name_kw (zk5 I hg hm ?_ hdb)
 refine PySem.W.callWith_K (h₀:=X.base) I.ok.mod.kin hk (thn (ha pos pins s σ H _ I h) fun us s1 zz=>?_) he hpl
 obtain⟨vs,H1,I1,r,q⟩:=zz
 refine⟨I1.kIn,?_⟩
 exact run_fn F hr hb hd hx I1 r q
theorem pe_meth {pl:Sem Bool}(he:PE X o ta)(c:Cls X.K C)(hm:Meth X.K C m f)(F:FnOk X.prog X.w X.K X.mg X.base CX k f fd ps sp)(hr:Room k X.A)(hb:Binds X.K fd ps ds)(hd:Vals dvs ds)(hx:Passes CX X E)(ha:PA X (e::es) t)
  (hst:starEach (e::es) X.env=(false,eval e X.env)::starEach es X.env:=by rfl) (hpl:(backTo pos (starEach es X.env)).any (·.1)=false:=by rfl)
  (ht:eval (.Call (.Attribute o m apos) (e::es) [] pos) X.env=(do
   let ov <-eval o X.env
   standAt apos.atName
   let (f,first) <-holding [ov] (getMethod ov m pl)
   callWith pos f first (backTo pos (starEach (e::es) X.env)) (backToKw pos (keywordEach [] X.env))):=by rfl) :
  PE X (.Call (.Attribute o m apos) (e::es) [] pos) (tMeth C m sp dvs E ta t):=by
 intro pins s σ H Q I h
 refine PySem.W.methodCall_KW (pl:=pl) (thn (he pins s σ H _ I h) fun u s1 zz=>?_) ht
 obtain⟨x,H1,I1,rx,a,dx,fs,ex,ea,l,q⟩:=zz
 subst ex
 obtain rfl:u=Value.ref a:=rx
 refine zmf I1 ea c hm l ?_
 refine PySem.W.callWith_K (first:=[.ref a]) (h₀:=X.base) I.ok.mod.kin hm.kp (thn (ha pos pins s1 σ H1 _ I1 q) fun us s2 zz=>?_) hst hpl
 obtain⟨vs,H2,I2,r,q2⟩:=zz
 refine⟨I2.kIn,?_⟩
 exact run_fn (us:=.ref a::us) (vs:=.ref a::vs) F hr hb hd hx I2 (.cons rfl r) q2
structure Mk (K:PySem.W.Frag)(C f:Addr):Prop where
 makes:PySem.W.makesIn K C=true
 init:PySem.W.findIn K (.ref C) "__init__" = some (some (.ref f))
 fn:PySem.W.isFn K (.ref f)=true
 kp:PySem.W.keepIn K (.ref C)=true
theorem run_make {pins:List (Addr×Obj)}{σ:St}{H:Hp}{s:Shared}{Q:VK}{us:List Value}{vs:List V}(M:Mk X.K C f)(F:FnOk X.prog X.w X.K X.mg X.base CX k f fd ps sp)(hr:Room (k+1) X.A)(hb:Binds X.K fd ps ds)(hd:Vals dvs ds)
  (hx:Passes CX X E) (I:Inv X pins σ H s) (r:Vals vs us)
  (h:∀x dx,H x=none->H dx=none->dx≠x->sp (.ref x::(vs++dvs)) (upd (upd H dx (.own x)) x (.ins C dx [])) (fun v H2=>v=.non/\Q (.ref x) H2) E) :
  wpAny (model X.prog X.w) X.A (call (.ref C) us) (EP X pins σ Q) X.xe s:=by
 have hq:=h (s.heap.objs.size+1) s.heap.objs.size (I.hok.fresh (Nat.le_succ _)) (I.hok.fresh (Nat.le_refl _)) (Nat.ne_of_lt (Nat.lt_succ_self _))
 have I2:=Inv.made (C:=C) I
 have r2:Vals (V.ref (s.heap.objs.size+1)::(vs++dvs)) (Value.ref (s.heap.objs.size+1)::(us++ds)):=.cons rfl (r.append hd)
 have hl:(Value.ref (s.heap.objs.size+1)::us++ds).length=ps.length:=by
  have e:=r2.length
  rw[F.len _ _ _ _ hq]at e
  exact e.symm
 refine wpAny_call (make_map (f:=f) I.kIn M.makes M.init (beq_iff_eq.mp M.fn) (codeAny_mono (F.run _ X.stack _ _ ⟨Value.ref (s.heap.objs.size+1)::us,[]⟩ (Value.ref (s.heap.objs.size+1)::(us++ds)) _ _ E (hr.make C us [])
  (I2.env0.make C us []) (hb _ (Value.ref (s.heap.objs.size+1)::us) I2.kIn hl) r2 hq) fun r s' hq'=>?_))
 cases r with
 | error e=>exact hx pins σ _ _ e s' I2 hq'
 | ok fl =>
  cases fl with
  | ret u =>
   obtain⟨v,H',I3,rv,ev,q3⟩:=I2.after hq'
   subst ev
   exact⟨rv,⟨V.ref (s.heap.objs.size+1),H',I3,rfl,q3⟩⟩
  | next=>exact False.elim hq'
  | brk=>exact False.elim hq'
  | cont=>exact False.elim hq'
theorem pe_make (M:Mk X.K C f)(F:FnOk X.prog X.w X.K X.mg X.base CX k f fd ps sp)(hr:Room (k+1) X.A)(hg:Gl X x)(hm:X.mg x=some (.ref C))(hb:Binds X.K fd ps ds)(hd:Vals dvs ds)(hx:Passes CX X E)
  (ha:PA X (e::es) t) (hdb:(x==("__debug__":Str))=false:=by decide) (he:starEach (e::es) X.env=(false,eval e X.env)::starEach es X.env:=by rfl) (hpl:(backTo pos (starEach es X.env)).any (·.1)=false:=by rfl) :
  PE X (.Call (.Name x p) (e::es) [] pos) (tMake C sp dvs E t):=by
 intro pins s σ H Q I h
 refine wpAny_Call_Name_kw (zk5 I hg hm ?_ hdb)
 refine PySem.W.callWith_K (h₀:=X.base) I.ok.mod.kin M.kp (thn (ha pos pins s σ H _ I h) fun us s1 zz=>?_) he hpl
 obtain⟨vs,H1,I1,r,q⟩:=zz
 refine⟨I1.kIn,?_⟩
 exact run_make M F hr hb hd hx I1 r q
end
section
variable {X:Cx}{CX:CXT}{k:Nat}{f C:Addr}{fd:FuncData}{ps ks:List Str}{sp:Sp}{E:XK}{x m:Str}{p pos apos kpos:Pos}{e o:Expr}{es:List Expr}{kws:List Keyword}{te ta:TE}{t tk:TA}{nm:Option Str}
structure KBinds (K:PySem.W.Frag)(fd:FuncData)(ps ks:List Str)(g:List Value->List Value->List Value)(gV:List V->List V->List V):Prop where
 to:∀(s:Shared) (us ws:List Value),K.In s.heap->(g us ws).length=ps.length->BindsTo s fd ⟨us,ks.zip ws⟩ (ps.zip (g us ws))
 rel:∀{vs:List V} {us:List Value} {zs:List V} {ws:List Value},Vals vs us->Vals zs ws->Vals (gV vs zs) (g us ws)
variable {g:List Value->List Value->List Value}{gV:List V->List V->List V}
end
structure FnScope (N P:List Str)(sc:Scope):Prop where
 kind:sc.kind=.function
 co:sc.isCoroutine=false
 gen:sc.isGenerator=false
 nd:N.Nodup
 pre:N.take P.length=P
 par:∀x∈P,sc.names.lookup x=some .local\/sc.names.lookup x=some .cell
 nofree:∀y∈sc.names,y.2≠.free
theorem zjv {kindOf:Str->Option NameKind}{x:Str}:∀{binds:List (Str×Value)} {m:Str->Option Value},(∀v,(x,v)∉binds)->bindL kindOf binds m x=m x
 | [],_,_=>rfl
 | (n,v)::r,m,h=>by
  unfold bindL
  rw[zjv fun w hw=>h w (List.mem_cons_of_mem _ hw)]
  split
  ·have:x≠n:=by rintro rfl;exact h v List.mem_cons_self
   simp[this]
  ·rfl
theorem zkb {kindOf:Str->Option NameKind}{x:Str}:∀{binds:List (Str×Value)} {m:Str->Option Value},(∀v,(x,v)∉binds)->bindC kindOf binds m x=m x
 | [],_,_=>rfl
 | (n,v)::r,m,h=>by
  unfold bindC
  rw[zkb fun w hw=>h w (List.mem_cons_of_mem _ hw)]
  split
  ·rfl
  ·have:x≠n:=by rintro rfl;exact h v List.mem_cons_self
   simp[this]
theorem zkl {kindOf:Str->Option NameKind}{x:Str}{v:Value}:∀{P:List Str} {vs:List Value} {i:Nat} {m:Str->Option Value},P.Nodup->P[i]? = some x->vs[i]? = some v->kindOf x=some .local ->
  bindL kindOf (P.zip vs) m x=some v
 | [],_,_,_,_,h,_,_=>by simp at h
 | _::_,[],_,_,_,_,h,_=>by simp at h
 | p::P,w::vs,0,m,nd,h1,h2,hk=>by
  simp at h1 h2;subst h1;subst h2
  show bindL kindOf ((p,w)::P.zip vs) m p=_
  unfold bindL
  rw[zjv fun v hv=>(List.nodup_cons.mp nd).1 (List.of_mem_zip hv).1,if_pos hk]
  simp
 | p::P,w::vs,i+1,m,nd,h1,h2,hk=>by
  show bindL kindOf ((p,w)::P.zip vs) m x=_
  unfold bindL
  exact zkl (i:=i) (List.nodup_cons.mp nd).2 (by simpa using h1) (by simpa using h2) hk
theorem zj0 {kindOf:Str->Option NameKind}{x:Str}{v:Value}:∀{P:List Str} {vs:List Value} {i:Nat} {m:Str->Option Value},P.Nodup->P[i]? = some x->vs[i]? = some v->kindOf x≠some .local ->
  bindC kindOf (P.zip vs) m x=some v
 | [],_,_,_,_,h,_,_=>by simp at h
 | _::_,[],_,_,_,_,h,_=>by simp at h
 | p::P,w::vs,0,m,nd,h1,h2,hk=>by
  simp at h1 h2;subst h1;subst h2
  show bindC kindOf ((p,w)::P.zip vs) m p=_
  unfold bindC
  rw[zkb fun v hv=>(List.nodup_cons.mp nd).1 (List.of_mem_zip hv).1,if_neg hk]
  simp
 | p::P,w::vs,i+1,m,nd,h1,h2,hk=>by
  show bindC kindOf ((p,w)::P.zip vs) m x=_
  unfold bindC
  exact zj0 (i:=i) (List.nodup_cons.mp nd).2 (by simpa using h1) (by simpa using h2) hk
noncomputable def start (N:List Str)(vs:List V):St:=vs.map some++List.replicate (N.length - vs.length) none
noncomputable def cxOf (CX:CXT)(P:Program)(w:World)(K:PySem.W.Frag)(mg:Str->Option Value)(base:Heap)(N:List Str)(qual:Str)(scope:Scope)(f:Addr)(cd:Value)(A:Around)(outer:List Env)(s:Shared)(H:Hp)(E:XK):Cx where
 prog:=P
 w:=w
 K:=K
 mg:=mg
 base:=base
 A:=A.deeper (envOfC qual scope s.heap.objs.size f cd)
 N:=N
 s₀:=s
 H₀:=H
 env:=envOfC qual scope s.heap.objs.size f cd
 outer:=outer
 stack:=envOfC qual scope s.heap.objs.size f cd::outer
 ex:=[]
 calm:=true
 fn:=fun _=>true
 pn:=[]
 xe:=fun e s'=>wpAny (model P w) (A.deeper (envOfC qual scope s.heap.objs.size f cd)) (leaving (envOfC qual scope s.heap.objs.size f cd) e) (fun _ s''=>CX outer H s E e s'') (fun e' s''=>CX outer H s E e' s'') s'
theorem zk1 {sc:Scope}{n:Nat}{x:Str}(h:sc.names.lookup x=some .cell):∃c,(cellsFrom n sc.names []).lookup x=some c:=by
 have q:=PySem.W.cellsFrom_some sc.names n [] (.inl h)
 exact Option.isSome_iff_exists.mp q
theorem inv_start {CX:CXT}{P:Program}{w:World}{K:PySem.W.Frag}{mg:Str->Option Value}{base:Heap}{N ps:List Str}{qual:Str}{scope:Scope}{f:Addr}{cd:Value}{A:Around}{outer:List Env}{s s1:Shared}{H:Hp}{E:XK}{us:List Value}{vs:List V}
  (S:FnScope N ps scope) (hd:A.handled=none) (e0:Env0 P w K mg base A outer s H) (hl:vs.length=ps.length) (r:Vals vs us)
  (x:InCallC s s.heap.objs.size (bindL (envOfC qual scope s.heap.objs.size f cd).kindOf (ps.zip us) fun _=>none) (cellsFrom (s.heap.objs.size+1) scope.names []) (bindC (envOfC qual scope s.heap.objs.size f cd).kindOf (ps.zip us) fun _=>none) s1) :
  Inv (cxOf CX P w K mg base N qual scope f cd A outer s H E) [] (start N vs) H s1:=by
 have hpl:ps.length<=N.length:=by have:=congrArg List.length S.pre;rw[List.length_take]at this;omega
 obtain⟨h1,tk,rfl,hk⟩:=x.done
 have noA:∀b:Addr,b∉(cxOf CX P w K mg base N qual scope f cd A outer s H E).ex:=fun b z=>absurd (show b∈([]:List Addr) from z) (by simp)
 refine⟨⟨e0.mod,S.kind,rfl,rfl,Nat.le_refl _,fun y z c h1 h2=>?_,fun y hy=>?_,fun y c _ h=>?_,fun _=>hd,Around.frames_deeper e0.frames,.inr ⟨rfl,rfl⟩,fun b z=>absurd z (noA b),e0.bs,e0.bsz,fun b _ _=>noA b,fun b z=>absurd z (noA b),e0.funs,e0.frf⟩,
  rfl,e0.bare,Un.kept hk,⟨_,x.toInCall.ns,fun i y v h1 h2 h3=>?_⟩,fun y c h=>⟨_,x.cell y c h⟩,e0.hok.fresh (Nat.le_refl _),fun y c h=>?_,fun p hp=>absurd (show p∈([]:List (Addr×Obj)) from hp) (by simp),e0.hok.kept hk,?_⟩
 ·exact name_of_addr x.apart (PySem.mem_of_lookup h1) (PySem.mem_of_lookup h2)
 ·have hy:scope.names.lookup y=some .cell\/scope.names.lookup y=some .free:=hy
  rcases hy with hy | hy
  ·exact zk1 hy
  ·exact absurd rfl (S.nofree _ (PySem.mem_of_lookup hy))
 ·exact Nat.le_of_lt (x.above y c (PySem.mem_of_lookup h))
 ·have hi:i<vs.length:=by
   unfold start at h2
   by_cases hi:i<vs.length
   ·exact hi
   ·rw[List.getElem?_append_right (by simpa using hi)]at h2
    rw[List.getElem?_replicate]at h2
    split at h2<;>cases h2
  have ha:vs[i]? = some v:=by
   unfold start at h2
   rw[List.getElem?_append_left (by simpa using hi),List.getElem?_map]at h2
   cases e:vs[i]? with
   | none=>rw[e]at h2;cases h2
   | some a=>rw[e]at h2;cases h2;rfl
  obtain⟨u,hu,rv⟩:=r.get ha
  have hp:ps[i]? = some y:=by
   rw[<-S.pre,List.getElem?_take_of_lt (by omega)];exact h1
  have ndP:ps.Nodup:=by rw[<-S.pre];exact S.nd.sublist (List.take_sublist _ _)
  refine⟨u,rv,?_⟩
  rcases S.par y (List.mem_of_getElem? hp) with k | k
  ·exact .inl ⟨k,zkl ndP hp hu k⟩
  ·obtain⟨c,e⟩:=zk1 (n:=s.heap.objs.size+1) k
   refine .inr ⟨.inl k,c,e,?_⟩
   have q:=x.cell y c e
   rw[zj0 ndP hp hu (by show scope.names.lookup y≠_;rw[k];decide)]at q
   exact q
 ·exact e0.hok.fresh (Nat.le_of_lt (x.above y c (PySem.mem_of_lookup h)))
 ·unfold start
  show _=N.length
  rw[List.length_append,List.length_map,List.length_replicate]
  omega
theorem fn_of {CX:CXT}{P:Program}{w:World}{K:PySem.W.Frag}{mg:Str->Option Value}{base:Heap}{k:Nat}{f:Addr}{name qual:Str}{params:Arguments}{body:List Stmt}{scope:Scope}{dV kV doc pm cdv ct oc:Value}{an od:Option Addr}
  {osl:Array (Option Value)} {N ps:List Str} {sp:Sp} (lk:K.lookup f=some ⟨oc,od,.func (PySem.W.fnOf name qual params body scope dV kV doc pm an cdv ct),osl⟩) (hcd:PySem.W.codeIn K cdv qual=true) (S:FnScope N ps scope)
  (len:∀vs H Q E,sp vs H Q E->vs.length=ps.length)
  (hbody:∀(A:Around) (outer:List Env) (s:Shared) (H:Hp) (vs:List V) (Q:VK) (E:XK),Room k (A.deeper (envOfC qual scope s.heap.objs.size f cdv))->sp vs H Q E ->
   ∃t,PSs (cxOf CX P w K mg base N qual scope f cdv A outer s H E) body t/\t { nx:=fun _ H'=>Q .non H',rt:=Q } (start N vs) H) :
  FnOk P w K mg base CX (k+1) f (PySem.W.fnOf name qual params body scope dV kV doc pm an cdv ct) ps sp:=by
 refine⟨len,fun A outer s H args us vs Q E hr e0 hb r hsp=>?_⟩
 have hl:=len _ _ _ _ hsp
 have KX:K.In s.heap:=e0.mod.kin.keeps fun b o e=>(e0.bs b o e).1
 have lim:s.heap.NoLimit:=e0.mod.nolimit.keeps fun b o e=>(e0.bs b o e).1
 have hkind:∀y∈ps.zip us,scope.names.lookup y.1=some .local\/(scope.names.lookup y.1=some .cell/\((cellsFrom (s.heap.objs.size+1) scope.names []).lookup y.1).isSome=true):=fun⟨n,v⟩ hy=>by
  rcases S.par n (List.of_mem_zip hy).1 with q | q
  ·exact .inl q
  ·exact .inr ⟨q,PySem.W.cellsFrom_some _ _ _ (.inl q)⟩
 refine codeAny_call_function hr.depth (KX _ _ lk) rfl S.co S.gen rfl (PySem.W.codeRec_of KX hcd) (hb _ _ _ _ ?_)
 refine wpAny_newFunctionEnv_cells S.kind hkind fun env he s1 x=>?_
 subst he
 refine⟨lim.keeps x.toInCall.keep,codeAny_func ?_⟩
 obtain⟨t,ht,hq⟩:=hbody A outer s H vs Q E (hr.deeper _) hsp
 have I:Inv (cxOf CX P w K mg base N qual scope f cdv A outer s H E) [] (start N vs) H s1:=inv_start S hr.hd e0 hl r x
 refine wpAny_mono (ht [] s1 (start N vs) H _ I hq) (fun fl s' hs=>?_) fun e s' hs=>hs
 have fin:∀{σ':St} {H':Hp} {v:V} {u:Value},Inv (cxOf CX P w K mg base N qual scope f cdv A outer s H E) [] σ' H' s'->RelV v u->Q v H'->CE outer P w H s Q u s' :=
  fun {σ' H' v u} J rv q=>⟨v,H',J.os,J.bare,J.base,J.hok,rv,q⟩
 cases fl with
 | ret u =>
  obtain⟨v,σ',H',J,rv,q⟩:=hs
  exact fin J rv q
 | next =>
  obtain⟨σ',H',J,q⟩:=hs
  exact fin (v:=V.non) (u:=Value.none) J rfl q
 | brk =>
  obtain⟨_,_,_,q⟩:=hs
  exact False.elim q
 | cont =>
  obtain⟨_,_,_,q⟩:=hs
  exact False.elim q
end L2
namespace L2
open PySem PySem.Spec PyProof.Rows
section
variable {X:Cx}{x:Str}{p pos:Pos}{e:Expr}{es:List Expr}{t:TA}{id T:String}{r:List V->Hp->VK->Prop}
noncomputable def tCB (r:List V->Hp->VK->Prop)(t:TA):TE:=fun σ H Q=>t σ H fun vs H1=>r vs H1 Q
theorem zl0 (hc:CallR X (.builtin id) r)(hg:Gl X x)(hm:X.mg x=none)(hv:bootBuiltins x=some (.builtin id))(ha:PA X (e::es) t)(hn:x ≠ "__name__":=by decide)(hdb:(x==("__debug__":Str))=false:=by decide)
  (he:starEach (e::es) X.env=(false,eval e X.env)::starEach es X.env:=by rfl) (hpl:(backTo pos (starEach es X.env)).any (·.1)=false:=by rfl):PE X (.Call (.Name x p) (e::es) [] pos) (tCB r t):=by
 intro pins s σ H Q I h
 refine wpAny_Call_Name_kw (zjk I hg hm hv ?_ hn hdb)
 refine PyProof.Rows.callWith_builtin1 (thn (ha pos pins s σ H _ I h) fun us s1 zz=>?_) he hpl
 obtain⟨vs,H1,I1,r1,q1⟩:=zz
 exact hc pins s1 σ H1 vs us Q I1 r1 q1
theorem pe_callTy (hc:CallR X (.type T) r)(hg:Gl X x)(hm:X.mg x=none)(hv:bootBuiltins x=some (.type T))(ha:PA X (e::es) t)(hn:x ≠ "__name__":=by decide)(hdb:(x==("__debug__":Str))=false:=by decide)
  (he:starEach (e::es) X.env=(false,eval e X.env)::starEach es X.env:=by rfl) (hpl:(backTo pos (starEach es X.env)).any (·.1)=false:=by rfl):PE X (.Call (.Name x p) (e::es) [] pos) (tCB r t):=by
 intro pins s σ H Q I h
 refine wpAny_Call_Name_kw (zjk I hg hm hv ?_ hn hdb)
 refine PyProof.Rows.callWith_type1 (thn (ha pos pins s σ H _ I h) fun us s1 zz=>?_) he hpl
 obtain⟨vs,H1,I1,r1,q1⟩:=zz
 exact hc pins s1 σ H1 vs us Q I1 r1 q1
end
end L2
namespace HT
open PySem PyProof.Rows
section
open PySem.SeqAt
open PySem.AutoSeq1 (wpAny_loadPart')
open PySem.MeetsSeq PySem.MeetsSeq2 PySem.MeetsSeq3
end
section
variable {prog:Program}{w:World}{A:Around}{E:Value->Shared->Prop}{s:Shared}
theorem cat_tup {t b:Addr}{vs ws:List Value}{Q:Value->Shared->Prop}(ht:IsTup s.heap t vs.toArray)(hb:IsTup s.heap b ws.toArray)(hv:vs≠[])
  (h1:ws=[]->Q (.ref t) s) (h2:ws≠[]->Q (.ref s.heap.objs.size) { s with heap:=s.heap.push { cls:=.type "tuple",data:=.seq (vs++ws).toArray } })
  (hsz:vs.length+ws.length<=sizeLine):wpAny (model prog w) A (binaryOp .Add (.ref t) (.ref b)) Q E s:=by
 obtain⟨⟨cls,dd,data,sl⟩,ho,hc,n,hd⟩:=id ht
 obtain⟨⟨cls2,dd2,data2,sl2⟩,ho2,hc2,n2,hd2⟩:=id hb
 simp only at hc hd hc2 hd2
 subst hc hd hc2 hd2
 have e:vs.toArray++ws.toArray=(vs++ws).toArray:=by simp
 by_cases hw:ws=[]
 ·exact concat_meets ⟨_,ho,rfl⟩ ⟨_,ho2,rfl⟩ noFill_tuple_add seq_tuple_add PySem.F.slot_tuple_add PySem.F.entry_tuple_add (PySem.F.args_tuple_add_2 _ _)
   (tuple_addW1 t b vs.toArray ws.toArray n n2 dd dd2 sl sl2 (by simpa using hv) (by simp[hw])) ⟨ho,ho2,h1 hw⟩
 ·refine concat_meets ⟨_,ho,rfl⟩ ⟨_,ho2,rfl⟩ noFill_tuple_add seq_tuple_add PySem.F.slot_tuple_add PySem.F.entry_tuple_add (PySem.F.args_tuple_add_2 _ _)
   (tuple_addW2 t b vs.toArray ws.toArray n n2 dd dd2 sl sl2 (by simpa using hv) (by simpa using hw) (by rw[List.size_toArray,List.size_toArray];exact hsz)) ⟨ho,ho2,?_⟩
  rw[e]
  exact h2 hw
noncomputable def sIx (n d:Nat):Option Int->Nat
 | none=>d
 | some v=>if v<0 then (v+(n:Int)).toNat else min v.toNat n
theorem zgs (n d:Nat):sIx n d none=d:=rfl
theorem zln (n d k:Nat):sIx n d (some (k:Int))=min k n:=by
 show (if (k:Int)<0 then ((k:Int)+(n:Int)).toNat else min (k:Int).toNat n)=min k n
 rw[if_neg (by omega),Int.toNat_natCast]
theorem sIx_le (n d:Nat)(hd:d<=n)(o:Option Int):sIx n d o<=n:=by
 cases o with
 | none=>exact hd
 | some v =>
  show (if v<0 then (v+(n:Int)).toNat else min v.toNat n)<=n
  by_cases hv:v<0
  ·rw[if_pos hv];omega
  ·rw[if_neg hv];exact Nat.min_le_right _ _
theorem clip_eq (v:Int)(n d:Nat):(if v<0 then max (v+(n:Int)) 0 else min v (n:Int))=((sIx n d (some v):Nat):Int):=by
 show (if v<0 then max (v+(n:Int)) 0 else min v (n:Int))=(((if v<0 then (v+(n:Int)).toNat else min v.toNat n):Nat):Int)
 by_cases hv:v<0
 ·simp only[if_pos hv];omega
 ·simp only[if_neg hv];omega
theorem zm8 (lo hi:Option Int)(n:Nat):Builtin.Slice.sliceAdjust lo hi 1 (n:Int)=(((sIx n 0 lo:Nat):Int),((sIx n n hi:Nat):Int)):=by
 have h1:¬ ((1:Int)<0):=by omega
 unfold Builtin.Slice.sliceAdjust
 simp only[h1,if_false]
 refine Prod.ext ?_ ?_
 ·cases lo with
  | none=>rfl
  | some v=>exact clip_eq v n 0
 ·cases hi with
  | none=>rfl
  | some v=>exact clip_eq v n n
theorem zk7 (i j:Nat):Builtin.Slice.slicePlaces (i:Int) (j:Int) 1=j - i:=by
 unfold Builtin.Slice.slicePlaces
 have h1:(1:Int) > 0:=by omega
 simp only[h1,if_true,Int.ediv_one]
 split<;>omega
theorem zix {v:Value}{o:Option Int}{Q:Option Int->Shared->Prop}(p:IsPart v o)(h:Q o s):wpAny (model prog w) A (Builtin.Slice.slicePartIndex v) Q E s:=by
 cases p with
 | none=>exact slicePart_none h
 | int i t=>exact slicePart_int h
theorem zen {sl:Addr}{vl vu:Value}{lo hi:Option Int}{n:Nat}{Q:Int×Int×Nat->Shared->Prop}(hs:s.heap.IsSliceOf sl vl vu .none)(pl:IsPart vl lo)(pu:IsPart vu hi)
  (h:Q (((sIx n 0 lo:Nat):Int),1,sIx n n hi - sIx n 0 lo) s):wpAny (model prog w) A (Builtin.Slice.sliceApplied (.ref sl) (pure (n:Int))) Q E s:=by
 obtain⟨os,hos,hcs,hds⟩:=id hs
 unfold Builtin.Slice.sliceApplied Builtin.Slice.sliceFields
 refine wpAny_bind (wpAny_bind (wpAny_field hos hds (x:=vl) rfl (wpAny_bind (wpAny_field hos hds (x:=vu) rfl (wpAny_bind (wpAny_field hos hds (x:=.none) rfl (wpAny_pure ?_)))))))
 refine wpAny_bind (slicePart_none ?_)
 show wpAny _ _ (if ((1:Int)==0)=true then _ else _) _ _ s
 rw[if_neg (by decide)]
 refine wpAny_bind (zix pl (wpAny_bind (zix pu (wpAny_bind (wpAny_pure ?_)))))
 show wpAny _ _ (match Builtin.Slice.sliceAdjust lo hi 1 (n:Int) with | (lo,hi)=>pure (lo,(1:Int),Builtin.Slice.slicePlaces lo hi 1)) _ _ s
 rw[zm8 lo hi n]
 show wpAny _ _ (pure (((sIx n 0 lo:Nat):Int),(1:Int),Builtin.Slice.slicePlaces ((sIx n 0 lo:Nat):Int) ((sIx n n hi:Nat):Int) 1)) _ _ s
 rw[zk7]
 exact wpAny_pure h
theorem pick_gen (xs:Array Value)(i k:Nat):((List.range k).filterMap fun (m:Nat)=>xs[((i:Int)+(m:Int)*1).toNat]?).toArray=((xs.toList.drop i).take k).toArray:=by
 have e:(fun (m:Nat)=>xs[((i:Int)+(m:Int)*1).toNat]?)=fun m=>xs[i+m]?:=by
  funext m
  have:((i:Int)+(m:Int)*1).toNat=i+m:=by omega
  rw[this]
 rw[e]
 have:=pick_run xs i k
 rw[List.filterMap_map]at this
 have e2:((fun x=>xs[x]?)∘fun x=>i+x)=fun m=>xs[i+m]?:=rfl
 rw[e2]at this
 rw[this]
theorem zgb {t sl:Addr}{items:Array Value}{vl vu:Value}{lo hi:Option Int}{Q:Value->Shared->Prop}(ht:IsTup s.heap t items)(hs:s.heap.IsSliceOf sl vl vu .none)(pl:IsPart vl lo)(pu:IsPart vu hi)
  (hw:¬ (sIx items.size 0 lo=0/\sIx items.size items.size hi=items.size))
  (h:Q (.ref s.heap.objs.size) { s with heap:=s.heap.push { cls:=.type "tuple",data:=.seq ((items.toList.drop (sIx items.size 0 lo)).take (sIx items.size items.size hi - sIx items.size 0 lo)).toArray } })
  (hsz:items.size<=sizeLine):wpAny (model prog w) A (getItem (.ref t) (.ref sl)) Q E s:=by
 have htake:sizeOk (.seq ((items.toList.drop (sIx items.size 0 lo)).take (sIx items.size items.size hi - sIx items.size 0 lo)).toArray):=by
  show ((items.toList.drop (sIx items.size 0 lo)).take (sIx items.size items.size hi - sIx items.size 0 lo)).toArray.size<=sizeLine
  rw[List.size_toArray,List.length_take,List.length_drop,Array.length_toList]
  omega
 have hj:sIx items.size items.size hi<=items.size:=sIx_le _ _ (Nat.le_refl _) hi
 obtain⟨os,hos,hcs,hds⟩:=id hs
 have hTs:s.TypeIs (.ref sl) "slice":=⟨os,hos,hcs⟩
 unfold getItem
 try with_reducible refine wpAny_holding ?_
 first | refine wpAny_bind (wpAny_pure ?_) | skip
 refine wpAny_bind (wpAny_sequenceKey ht.typeIs (by decide) ?_)
 refine wpAny_bind (wpAny_callSpecial?_slot (name:=Str.ofString "__getitem__") ht.typeIs PyProof.Rows.slot_tuple_getitem
  (wpAny_call_entry PyProof.Rows.slot_tuple_getitem ht.typeIs entry_tuple_getitem ?_ (args_tuple_getitem _ _)))
 show wpAny _ _ (Builtin.Tuple.tupleItemsOf (.ref t) >>= _) _ _ s
 refine wpAny_bind (tupleItemsOf_ ht ?_)
 refine wpAny_bind (wpAny_typeOf hTs ?_)
 rw[if_pos (by decide)]
 refine wpAny_bind (zen hs pl pu ?_)
 have hno:¬ ((((sIx items.size 0 lo:Nat):Int)==0 && (1:Int)==1 && (sIx items.size items.size hi - sIx items.size 0 lo)==items.size)=true):=by
  intro q
  rw[Bool.and_eq_true,Bool.and_eq_true]at q
  have q1:((sIx items.size 0 lo:Nat):Int)=0:=eq_of_beq q.1.1
  have q2:sIx items.size items.size hi - sIx items.size 0 lo=items.size:=eq_of_beq q.2
  exact hw ⟨by omega,by omega⟩
 show wpAny _ _ (if (((sIx items.size 0 lo:Nat):Int)==0 && (1:Int)==1 && (sIx items.size items.size hi - sIx items.size 0 lo)==items.size)=true then _ else _) _ _ s
 rw[if_neg hno,pick_gen]
 first
  | exact wpAny_bind (m:=Builtin.Tuple.tupleExact _) (wpAny_newObj_type (wpAny_pure ⟨_,rfl,wpAny_pure h⟩) htake)
  | exact wpAny_bind (m:=Builtin.Tuple.tupleExact _) (wpAny_newObj_type (wpAny_bind (wpAny_pure (wpAny_pure ⟨_,rfl,wpAny_pure h⟩))) htake)
  | exact wpAny_bind (wpAny_bind (m:=Builtin.Tuple.tupleExact _) (wpAny_newObj_type (wpAny_pure (wpAny_pure ⟨_,rfl,wpAny_pure h⟩)) htake))
  | exact wpAny_bind (wpAny_bind (m:=Builtin.Tuple.tupleExact _) (wpAny_newObj_type (wpAny_pure ⟨_,rfl,wpAny_pure h⟩) htake))
end
end HT
namespace L2
open PySem PySem.Spec PyProof.Rows
noncomputable abbrev TO:=St->Hp->(Option Int->Hp->Prop)->Prop
noncomputable def PO (X:Cx)(e:Option Expr)(t:TO):Prop :=
 ∀(pins:List (Addr×Obj)) (s:Shared) (σ:St) (H:Hp) (Q:Option Int->Hp->Prop),Inv X pins σ H s->t σ H Q ->
  wpAny (model X.prog X.w) X.A (evalPart e X.env) (fun u s'=>∃o H',Inv X pins σ H' s'/\IsPart u o/\Q o H') X.xe s
noncomputable def tNoPart:TO:=fun _ H Q=>Q none H
noncomputable def tPart (t:TE):TO:=fun σ H Q=>t σ H fun x H1=>∃i,x=.int i/\Q (some i) H1
section
variable {X:Cx}{e:Expr}{te:TE}{lo hi:Option Expr}{tl th:TO}{pos p2:Pos}
theorem po_none:PO X none tNoPart:=by
 intro pins s σ H Q I h
 rw[evalPart_none]
 exact wpAny_pure ⟨none,H,I,.none,h⟩
theorem po_some (h:PE X e te):PO X (some e) (tPart te):=by
 intro pins s σ H Q I hw
 rw[evalPart_some]
 refine thn (h pins s σ H _ I hw) fun u s1 zz=>?_
 obtain⟨x,H1,I1,r1,q1⟩:=zz
 obtain⟨i,rfl,q⟩:=q1
 obtain⟨t,rfl⟩:=r1
 exact⟨some i,H1,I1,.int i t,q⟩
noncomputable def SlR (X:Cx)(r:V->Option Int->Option Int->Hp->VK->Prop):Prop :=
 ∀(pins:List (Addr×Obj)) (s:Shared) (σ:St) (H:Hp) (x:V) (v vl vu:Value) (lo hi:Option Int) (sl:Addr) (Q:VK),Inv X pins σ H s->RelV x v->s.heap.IsSliceOf sl vl vu .none->IsPart vl lo->IsPart vu hi->r x lo hi H Q ->
  ∃T id,typeLookup (.type T) "__getitem__" = pure (some (.builtin id))/\s.TypeIs v T/\wpAny (model X.prog X.w) X.A (getItem v (.ref sl)) (EP X pins σ Q) X.xe s
theorem SlR.or {r r':V->Option Int->Option Int->Hp->VK->Prop}(h:SlR X r)(h':SlR X r'):SlR X (fun x lo hi H Q=>r x lo hi H Q\/r' x lo hi H Q):=by
 intro pins s σ H x v vl vu lo hi sl Q I rx hs pl pu q
 rcases q with q | q
 ·exact h pins s σ H x v vl vu lo hi sl Q I rx hs pl pu q
 ·exact h' pins s σ H x v vl vu lo hi sl Q I rx hs pl pu q
noncomputable def tSl (r:V->Option Int->Option Int->Hp->VK->Prop)(te:TE)(tl th:TO):TE:=fun σ H Q=>te σ H fun x H1=>tl σ H1 fun l H2=>th σ H2 fun u H3=>r x l u H3 Q
theorem pe_slice {r:V->Option Int->Option Int->Hp->VK->Prop}(hr:SlR X r)(he:PE X e te)(hl:PO X lo tl)(hu:PO X hi th):PE X (.Subscript e (.Slice lo hi none p2) pos) (tSl r te tl th):=by
 intro pins s σ H Q I h
 refine Subscript_ (thn (he pins s σ H _ I h) fun v s1 zz=>?_)
 obtain⟨x,H1,I1,r1,q1⟩:=zz
 refine wpAny_Slice (thn (hl pins s1 σ H1 _ I1 q1) fun vl s2 zz=>?_)
 obtain⟨l,H2,I2,pl,q2⟩:=zz
 refine thn (hu pins s2 σ H2 _ I2 q2) fun vu s3 zz=>?_
 obtain⟨u,H3,I3,pu,q3⟩:=zz
 rw[evalPart_none]
 refine wpAny_pure ?_
 have I4:Inv X pins σ H3 { s3 with heap:=s3.heap.push { cls:=.type "slice",data:=.fields #[vl,vu,.none] } }:=I3.kept (t':=s3.toks) fun b ob q=>Heap.get?_push_of_some _ q
 obtain⟨T,id,hT,ht,hg⟩:=hr pins { s3 with heap:=s3.heap.push { cls:=.type "slice",data:=.fields #[vl,vu,.none] } } σ H3 x v vl vu l u s3.heap.objs.size Q I4 r1 (Heap.IsSliceOf.new ..) pl pu q3
 show wpAny (model X.prog X.w) X.A (subscriptTail e (.Slice lo hi none p2) v (.ref s3.heap.objs.size)) (EP X pins σ Q) X.xe { s3 with heap:=s3.heap.push { cls:=.type "slice",data:=.fields #[vl,vu,.none] } }
 exact tail_any (ops:=[.ref s3.heap.objs.size,v]) ht hT hg (by with_unfolding_all rfl)
noncomputable def cutV (xs:List V)(lo hi:Option Int):List V:=(xs.drop (HT.sIx xs.length 0 lo)).take (HT.sIx xs.length xs.length hi - HT.sIx xs.length 0 lo)
theorem zhl (xs:List V)(lo hi:Option Int):(cutV xs lo hi).length<=xs.length:=by
 unfold cutV
 rw[List.length_take,List.length_drop]
 omega
noncomputable def rSlT (K:PySem.W.Frag):V->Option Int->Option Int->Hp->VK->Prop:=fun x lo hi H Q=>∃a xs,x=.ref a/\SqT K H a xs /\
 ¬ (HT.sIx xs.length 0 lo=0/\HT.sIx xs.length xs.length hi=xs.length)/\∀p,H p=none->Q (.ref p) (upd H p (.tup (cutV xs lo hi)))
theorem sl_tup:SlR X (rSlT X.K):=by
 intro pins s σ H x v vl vu lo hi sl Q I rx hs pl pu h
 obtain⟨a,xs,rfl,hx,hw,q⟩:=h
 cases rx
 obtain⟨its,r,ht,hz⟩:=I.tuple hx
 have hlen:its.toArray.size=xs.length:=by rw[List.size_toArray];exact r.length.symm
 refine⟨"tuple",_,PyProof.Rows.slot_tuple_getitem.lookup,ht.typeIs,?_⟩
 refine HT.zgb ht hs pl pu (by rw[hlen];exact hw) ?_ (by rw[hlen];exact hz)
 rw[hlen]
 refine⟨.ref s.heap.objs.size,_,I.laid (t':=s.toks) (o:=.tup (cutV xs lo hi)) (fun b ob q=>Heap.get?_push_of_some _ q) (Nat.le_refl _) ?_,rfl,q _ (I.hok.fresh (Nat.le_refl _))⟩
 exact⟨Nat.le_trans (zhl xs lo hi) hz,_,(r.drop (HT.sIx xs.length 0 lo)).take (HT.sIx xs.length xs.length hi - HT.sIx xs.length 0 lo),IsTup.new _ _⟩
noncomputable def rCatT (K:PySem.W.Frag):R2:=fun x y H Q=>∃a b xs ys,x=.ref a/\y=.ref b/\SqT K H a xs/\SqT K H b ys/\xs≠[]/\xs.length+ys.length<=sizeLine /\
 (ys=[]->Q (.ref a) H)/\(ys≠[]->∀p,H p=none->Q (.ref p) (upd H p (.tup (xs++ys))))
theorem Vals.nil_iff {xs:List V}{us:List Value}(r:Vals xs us):us=[]↔xs=[]:=by
 cases r with
 | nil=>simp
 | cons _ _=>simp
theorem op_catT:OpR X (binaryOp .Add) (rCatT X.K):=by
 intro pins s σ H x y v u Q I rx ry h
 obtain⟨a,b,xs,ys,rfl,rfl,ha,hb,hx,hz,q1,q2⟩:=h
 cases rx
 cases ry
 obtain⟨its,r1,p1,_⟩:=I.tuple ha
 obtain⟨its2,r2,p2,_⟩:=I.tuple hb
 refine HT.cat_tup p1 p2 (fun z=>hx (r1.nil_iff.mp z)) (fun z=>⟨.ref a,H,I,rfl,q1 (r2.nil_iff.mp z)⟩) (fun z=>?_) (by rw[<-r1.length,<-r2.length];exact hz)
 refine⟨.ref s.heap.objs.size,_,I.laid (t':=s.toks) (o:=.tup (xs++ys)) (fun b ob q=>Heap.get?_push_of_some _ q) (Nat.le_refl _) ?_,rfl,q2 (fun w=>z (r2.nil_iff.mpr w)) _ (I.hok.fresh (Nat.le_refl _))⟩
 exact⟨by rw[List.length_append];exact hz,_,r1.append r2,IsTup.new _ _⟩
end
end L2
namespace L2
open PySem PySem.Spec PyProof.Rows
noncomputable def ixN (n:Nat)(i:Int):Option Nat:=if 0<=i then (if i<n then some i.toNat else none) else if -(n:Int)<=i then some (i+n).toNat else none
noncomputable def atI {α:Type}(xs:List α)(i:Int):Option α:=(ixN xs.length i).bind fun j=>xs[j]?
theorem ixN_seq {n:Nat}{i:Int}{j:Nat}(h:ixN n i=some j):seqIndex? i n=some j/\j<n/\-(n:Int)<=i/\i<n:=by
 unfold ixN at h
 by_cases h0:0<=i
 ·rw[if_pos h0]at h
  by_cases h1:i<n
  ·rw[if_pos h1]at h
   have e:i.toNat=j:=Option.some.inj h
   exact⟨by rw[seqIndex_of h0 h1,e],by omega,by omega,h1⟩
  ·rw[if_neg h1]at h;cases h
 ·rw[if_neg h0]at h
  by_cases h1:-(n:Int)<=i
  ·rw[if_pos h1]at h
   have e:(i+n).toNat=j:=Option.some.inj h
   exact⟨by rw[seqIndex_neg (by omega) h1,e],by omega,h1,by omega⟩
  ·rw[if_neg h1]at h;cases h
theorem zl7 {α:Type}{xs:List α}{i:Int}{v:α}(h:atI xs i=some v):∃j,seqIndex? i xs.length=some j/\xs[j]? = some v/\j<xs.length/\-(xs.length:Int)<=i/\i<xs.length:=by
 unfold atI at h
 cases e:ixN xs.length i with
 | none=>rw[e]at h;cases h
 | some j =>
  rw[e]at h
  obtain⟨h1,h2,h3,h4⟩:=ixN_seq e
  exact⟨j,h1,h,h2,h3,h4⟩
noncomputable def PlainIx (b:Expr):Prop:=∀o i,subscripted b false o i=operate [o,i] (getItem o i)
noncomputable def IxR (X:Cx)(r:R2):Prop :=
 ∀(value slice:Expr) (pins:List (Addr×Obj)) (s:Shared) (σ:St) (H:Hp) (x y:V) (v u:Value) (Q:VK),Inv X pins σ H s->RelV x v->RelV y u->r x y H Q ->
  subscripted slice false v u=operate [v,u] (getItem v u)->wpAny (model X.prog X.w) X.A (subscriptTail value slice v u) (EP X pins σ Q) X.xe s
noncomputable def MtR (X:Cx)(id:String)(r:V->List V->Hp->VK->Prop):Prop :=
 ∀(pins:List (Addr×Obj)) (s:Shared) (σ:St) (H:Hp) (x:V) (xs:List V) (v:Value) (us:List Value) (Q:VK),Inv X pins σ H s->RelV x v->Vals xs us->r x xs H Q ->
  wpAny (model X.prog X.w) X.A (call (.builtin id) (v::us)) (EP X pins σ Q) X.xe s
section
variable {X:Cx}{a b:Expr}{ta tb:TE}{pos:Pos}
theorem IxR.or {r r':R2}(h:IxR X r)(h':IxR X r'):IxR X (fun x y H Q=>r x y H Q\/r' x y H Q):=by
 intro value slice pins s σ H x y v u Q I rx ry q hs
 rcases q with q | q
 ·exact h value slice pins s σ H x y v u Q I rx ry q hs
 ·exact h' value slice pins s σ H x y v u Q I rx ry q hs
theorem pe_ix {r:R2}(hr:IxR X r)(ha:PE X a ta)(hb:PE X b tb)(hs:PlainIx b):PE X (.Subscript a b pos) (tOp r ta tb):=by
 intro pins s σ H Q I h
 exact Subscript_ (binT ha hb I h fun v u s2 x y H2 I2 rx ry q=>hr a b pins s2 σ H2 x y v u Q I2 rx ry q (hs _ _))
noncomputable def rIxL (K:PySem.W.Frag):R2:=fun x y H Q=>∃p xs i v,x=.ref p/\y=.int i/\SqL K H p xs/\atI xs i=some v/\Q v H
noncomputable def rIxT (K:PySem.W.Frag):R2:=fun x y H Q=>∃p xs i v,x=.ref p/\y=.int i/\SqT K H p xs/\atI xs i=some v/\Q v H
noncomputable def rIxS:R2:=fun x y H Q=>∃z i c,x=.str z/\y=.int i/\z.length<=sizeLine/\atI z.cps.toList i=some c/\Q (.str ⟨#[c]⟩) H
theorem ix_list:IxR X (rIxL X.K):=by
 intro value slice pins s σ H x y v u Q I rx ry h hs
 obtain⟨p,xs,i,z,rfl,rfl,hq,he,q⟩:=h
 cases rx
 obtain⟨t,rfl⟩:=ry
 obtain⟨its,r,pl,hz⟩:=I.list hq
 obtain⟨j,h1,h2,h3,h4,h5⟩:=zl7 he
 obtain⟨w,ew,rw'⟩:=r.get h2
 have hl:=r.length
 have hn:=line63
 have fin:EP X pins σ Q w s:=⟨z,H,I,rw',q⟩
 by_cases h0:0<=i
 ·have hj:i.toNat=j:=by
   rw[seqIndex_of h0 h5]at h1
   exact Option.some.inj h1
  exact item_listR pl.isList h0 (by omega) (by rw[hj];simpa using ew) fin hs
 ·have hj:(i+(its.toArray.size:Int)).toNat=j:=by
   rw[seqIndex_neg (by omega) h4]at h1
   rw[List.size_toArray,<-hl]
   exact Option.some.inj h1
  exact subscriptTail_builtinR (x:=w) pl.isList.typeIs slot_list_getitem.lookup
   (wpAny_getItem_list_neg (Q:=fun r s'=>r=w/\EP X pins σ Q r s') pl.isList (by omega) (by rw[List.size_toArray]<;>omega) (by omega) (by rw[hj];simpa using ew) ⟨rfl,fin⟩) hs
theorem ix_tup:IxR X (rIxT X.K):=by
 intro value slice pins s σ H x y v u Q I rx ry h hs
 obtain⟨p,xs,i,z,rfl,rfl,hq,he,q⟩:=h
 cases rx
 obtain⟨t,rfl⟩:=ry
 obtain⟨its,r,pl,hz⟩:=I.tuple hq
 obtain⟨j,h1,h2,h3,h4,h5⟩:=zl7 he
 obtain⟨w,ew,rw'⟩:=r.get h2
 have hl:=r.length
 have hn:=line63
 have fin:EP X pins σ Q w s:=⟨z,H,I,rw',q⟩
 exact subscriptTail_builtinR (x:=w) pl.typeIs slot_tuple_getitem.lookup
  (getItem_tuple (j:=j) (Q:=fun r s'=>r=w/\EP X pins σ Q r s') pl (by omega) (by omega) (by rw[List.size_toArray,<-hl];exact h1) (by simpa using ew) ⟨rfl,fin⟩) hs
theorem ix_str:IxR X rIxS:=by
 intro value slice pins s σ H x y v u Q I rx ry h hs
 obtain⟨z,i,c,rfl,rfl,hz,he,q⟩:=h
 obtain⟨t,rfl⟩:=rx
 obtain⟨t',rfl⟩:=ry
 obtain⟨j,h1,h2,h3,h4,h5⟩:=zl7 he
 have hl:z.cps.toList.length=z.length:=by simp[Str.length]
 rw[hl]at h1 h4 h5
 have hn:=line63
 exact tail_any (typeIs_str s z t) slot_str_getitem.lookup (getItem_str (c:=c) (by
  have e1:decide (i < -(2 ^ 63:Int))=false:=decide_eq_false (by omega)
  have e2:decide (i ≥ 2 ^ 63)=false:=decide_eq_false (by omega)
  rw[e1,e2,Bool.or_false]) (by rw[h1];simpa using h2) ⟨.str ⟨#[c]⟩,H,I.tok _,⟨_,rfl⟩,q⟩) hs
noncomputable def rIx (K:PySem.W.Frag):R2:=fun x y H Q=>rIxL K x y H Q\/rIxT K x y H Q\/rIxS x y H Q
theorem ix_seq:IxR X (rIx X.K):=ix_list.or (ix_tup.or ix_str)
theorem zmd (its:List Value)(n j:Nat)(u:Value):Obj.mapSeq (·.setIfInBounds j u) { cls:=.type "list",data:=.seq its.toArray n }={ cls:=.type "list",data:=.seq (its.set j u).toArray n }:=by
 simp[Obj.mapSeq]
theorem Inv.lst {pins:List (Addr×Obj)}{σ:St}{H:Hp}{s:Shared}{p:Addr}{xs:List V}(I:Inv X pins σ H s)(h:H p=some (.lst xs)) :
  ∃(its:List Value) (n:Nat),Vals xs its/\s.heap.get? p=some { cls:=.type "list",data:=.seq its.toArray n }/\xs.length<=sizeLine:=by
 obtain⟨z,its,n,r,e⟩:=I.hok p _ h
 exact⟨its,n,r,e,z⟩
theorem Inv.lstUpd {pins:List (Addr×Obj)}{σ:St}{H:Hp}{s:Shared}{p:Addr}{xs ys:List V}{its its':List Value}{n n':Nat}{f:Obj->Obj}(I:Inv X pins σ H s)(h:H p=some (.lst xs))
  (ho:s.heap.get? p=some { cls:=.type "list",data:=.seq its.toArray n }) (hf:f { cls:=.type "list",data:=.seq its.toArray n }={ cls:=.type "list",data:=.seq its'.toArray n' }) (r:Vals ys its') (hz:ys.length<=sizeLine) (t:Nat) :
  Inv X pins σ (upd H p (.lst ys)) { s with heap:=s.heap.update p f,toks:=t }:=by
 have e:(s.heap.update p f).get? p=some { cls:=.type "list",data:=.seq its'.toArray n' }:=by
  rw[Heap.get?_update_self f ho (by rw[hf]<;>rfl),hf]
 refine I.write (x:=p) (e:=p) (by rw[h];trivial) (.inl rfl) (fun b u hb q=>(Heap.get?_update_other _ _ (Ne.symm hb)).trans q) ⟨_,e⟩ ?_
 exact⟨hz,its',n',r,e⟩
noncomputable def rSetL:V->V->V->Hp->(Hp->Prop)->Prop:=fun o i v H Q=>∃p xs k j,o=.ref p/\i=.int k/\H p=some (.lst xs)/\ixN xs.length k=some j/\Q (upd H p (.lst (xs.set j v)))
theorem set_list:PSet X rSetL:=by
 intro pins s σ H o i v ov iv u Q I ro ri rv h
 obtain⟨p,xs,k,j,rfl,rfl,hp,hj,q⟩:=h
 cases ro
 obtain⟨t,rfl⟩:=ri
 obtain⟨its,n,r,ho,hz⟩:=I.lst hp
 obtain⟨h1,h2,h3,h4⟩:=ixN_seq hj
 have hl:=r.length
 have hn:=line63
 have I':Inv X pins σ (upd H p (.lst (xs.set j v))) { s with heap:=s.heap.update p (Obj.mapSeq (·.setIfInBounds j u)) } :=
  I.lstUpd hp ho (zmd its n j u) (r.set rv j) (by rw[List.length_set];exact hz) s.toks
 by_cases h0:0<=k
 ·have hk:k.toNat=j:=by
   rw[seqIndex_of h0 h4]at h1
   exact Option.some.inj h1
  exact PySem.W.ki_setAt ho h0 (by omega) (by rw[List.size_toArray,<-hl];exact h4) (by rw[hk];exact⟨_,I',q⟩)
 ·have hk:(k+(its.toArray.size:Int)).toNat=j:=by
   rw[seqIndex_neg (by omega) h3]at h1
   rw[List.size_toArray,<-hl]
   exact Option.some.inj h1
  exact PySem.W.ki_setBack ho (by omega) (by rw[List.size_toArray,<-hl];exact h3) (by omega) (by rw[hk];exact⟨_,I',q⟩)
theorem zjp (lo hi:Option Int)(n:Nat):(sliceBounds lo hi none n).1=((HT.sIx n 0 lo:Nat):Int)/\(sliceBounds lo hi none n).2.1=((HT.sIx n n hi:Nat):Int)/\(sliceBounds lo hi none n).2.2=1:=by
 refine⟨?_,?_,rfl⟩
 ·cases lo with
  | none=>simp[sliceBounds,HT.sIx]
  | some i =>
   simp only[sliceBounds,HT.sIx,Option.getD_none,show (1:Int) > 0 by decide,if_true]
   by_cases h:i<0
   ·simp only[h,if_true]<;>omega
   ·simp only[h,if_false]<;>omega
 ·cases hi with
  | none=>simp[sliceBounds,HT.sIx]
  | some i =>
   simp only[sliceBounds,HT.sIx,Option.getD_none,show (1:Int) > 0 by decide,if_true]
   by_cases h:i<0
   ·simp only[h,if_true]<;>omega
   ·simp only[h,if_false]<;>omega
theorem zi3 (its:List Value)(lo hi:Option Int):slicePick its.toArray lo hi none=((its.drop (HT.sIx its.length 0 lo)).take (HT.sIx its.length its.length hi - HT.sIx its.length 0 lo)).toArray:=by
 obtain⟨h1,h2,h3⟩:=zjp lo hi its.toArray.size
 unfold slicePick
 rw[h1,h2,h3]
 simp only[sliceRange_one,pick_run,List.size_toArray]<;>rfl
noncomputable def rSlL (K:PySem.W.Frag):V->Option Int->Option Int->Hp->VK->Prop:=fun x lo hi H Q=>∃a xs,x=.ref a/\SqL K H a xs/\∀p,H p=none->Q (.ref p) (upd H p (.lst (cutV xs lo hi)))
theorem sl_list:SlR X (rSlL X.K):=by
 intro pins s σ H x v vl vu lo hi sl Q I rx hs pl pu h
 obtain⟨a,xs,rfl,hx,q⟩:=h
 cases rx
 obtain⟨its,r,ht,hz⟩:=I.list hx
 have hlen:=r.length
 refine⟨"list",_,slot_list_getitem.lookup,ht.isList.typeIs,?_⟩
 refine wpAny_getItem_list_slice ht.isList hs pl pu .none (by simp) ?_ (by rw[List.size_toArray]<;>omega)
 rw[zi3,<-hlen]
 refine⟨.ref s.heap.objs.size,_,I.laid (t':=s.toks) (o:=.lst (cutV xs lo hi)) (fun b ob q=>Heap.get?_push_of_some _ q) (Nat.le_refl _) ?_,rfl,q _ (I.hok.fresh (Nat.le_refl _))⟩
 exact⟨Nat.le_trans (zhl xs lo hi) hz,_,0,(r.drop (HT.sIx xs.length 0 lo)).take (HT.sIx xs.length xs.length hi - HT.sIx xs.length 0 lo),Heap.get?_push_size _ rfl⟩
noncomputable def eqV:V->V->Bool
 | .non,.non=>true
 | .bl a,.bl b=>a==b
 | .bl a,.int b=>(if a then 1 else 0)==b
 | .int a,.bl b=>a==(if b then 1 else 0)
 | .int a,.int b=>a==b
 | .str a,.str b=>a==b
 | _,_=>false
theorem zjd:OpR X (compareOp .NotIn) (fun x y H Q=>∃i j,x=.str i/\y=.str j/\Q (.bl (!(!(Builtin.Str.occurrences j i 0 j.length 1).isEmpty))) H):=by
 intro pins s σ H x y v u Q I rx ry h
 obtain⟨i,j,rfl,rfl,q⟩:=h
 obtain⟨t,rfl⟩:=rx
 obtain⟨t',rfl⟩:=ry
 exact notIn_str ⟨.bl _,H,I,rfl,q⟩
theorem zjb:CallR X (.builtin "len") (fun xs H Q=>∃p ys,xs=[.ref p]/\(SqL X.K H p ys\/SqT X.K H p ys)/\Q (.int ys.length) H):=by
 intro pins s σ H xs us Q I r h
 obtain⟨p,ys,rfl,hq,q⟩:=h
 obtain⟨u,rfl,rx⟩:=vals1 r
 cases rx
 have hn:=line63
 rcases hq with hq | hq
 ·obtain⟨its,r',pl,hz⟩:=I.list hq
  have hlen:=r'.length
  exact Calls.call_len_list pl.isList (by simp only[List.size_toArray]<;>omega) ⟨.int ys.length,H,I.tok _,⟨s.toks+1,by rw[List.size_toArray,hlen]⟩,q⟩
 ·obtain⟨its,r',pl,hz⟩:=I.tuple hq
  have hlen:=r'.length
  exact len_tuple pl (by simp only[List.size_toArray]<;>omega) ⟨.int ys.length,H,I.tok _,⟨s.toks+1,by rw[List.size_toArray,hlen]⟩,q⟩
theorem zjr:CallR X (.builtin "len") (fun xs H Q=>∃z,xs=[.str z]/\z.length<=sizeLine/\Q (.int z.length) H):=by
 intro pins s σ H xs us Q I r h
 obtain⟨z,rfl,hz,q⟩:=h
 obtain⟨u,rfl,t,rfl⟩:=vals1 r
 have hn:=line63
 exact len_str (by omega) ⟨.int z.length,H,I.tok _,⟨_,rfl⟩,q⟩
theorem CallR.or {f:Value}{r r':List V->Hp->VK->Prop}(h:CallR X f r)(h':CallR X f r'):CallR X f (fun xs H Q=>r xs H Q\/r' xs H Q):=by
 intro pins s σ H xs us Q I rs q
 rcases q with q | q
 ·exact h pins s σ H xs us Q I rs q
 ·exact h' pins s σ H xs us Q I rs q
theorem zi8:CallR X (.type "list") (fun xs H Q=>∃p ys,xs=[.ref p]/\(SqL X.K H p ys\/SqT X.K H p ys)/\∀l,H l=none->Q (.ref l) (upd H l (.lst ys))):=by
 intro pins s σ H xs us Q I r h
 obtain⟨p,ys,rfl,hq,q⟩:=h
 obtain⟨u,rfl,rx⟩:=vals1 r
 cases rx
 have fin:∀(its:List Value),Vals ys its->ys.length<=sizeLine->∀(h':Heap) (c':Nat),(∀b o',s.heap.get? b=some o'->h'.get? b=some o') ->
   h'.get? s.heap.objs.size=some { cls:=.type "list",dict:=none,data:=.seq its.toArray c',slots:=#[] }->EP X pins σ Q (.ref s.heap.objs.size) { s with heap:=h' }:=fun its r' hz h' c' kp e =>
  ⟨.ref s.heap.objs.size,_,I.laid (t':=s.toks) kp (Nat.le_refl _) (show ObjOk X.prog X.w _ h' _ (.lst ys) from ⟨hz,its,c',r',e⟩),rfl,q _ (I.hok.fresh (Nat.le_refl _))⟩
 rcases hq with hq | hq
 ·obtain⟨its,r',pl,hz⟩:=I.list hq
  have hlen:=r'.length
  obtain⟨o,ho,hc,n,hd⟩:=pl.isList
  exact call_list_seq p (.inl rfl) ho hc hd (fun h' c' kp e=>fin its r' hz h' c' kp e) (by simp only[List.size_toArray]<;>omega)
 ·obtain⟨its,r',pl,hz⟩:=I.tuple hq
  have hlen:=r'.length
  obtain⟨o,ho,hc,n,hd⟩:=pl
  exact call_list_seq p (.inr rfl) ho hc hd (fun h' c' kp e=>fin its r' hz h' c' kp e) (by simp only[List.size_toArray]<;>omega)
noncomputable def tyV (K:PySem.W.Frag)(T:String)(x:V)(H:Hp):Prop:=match x with
 | .str _=>T = "str"
 | .int _=>T = "int"
 | .ref p=>(T = "list"/\∃xs,SqL K H p xs)\/(T = "tuple"/\∃o,K.lookup p=some o/\o.cls=.type "tuple"/\o.dict=none) \/
   (T = "dict"/\((∃kvs,H p=some (.dK kvs))\/∃kvs,H p=some (.dT kvs)))\/(T = "set"/\∃S n,H p=some (.set S n))
 | _=>False
theorem tyV_is {pins:List (Addr×Obj)}{σ:St}{H:Hp}{s:Shared}{T:String}{x:V}{v:Value}(I:Inv X pins σ H s)(r:RelV x v)(ty:tyV X.K T x H) :
  s.TypeIs v T/\∀a,v=.ref a->∃ob,s.heap.get? a=some ob/\ob.dict=none:=by
 cases x with
 | str z =>
  obtain⟨t,rfl⟩:=r
  cases (show T = "str" from ty)
  exact⟨typeIs_str s z t,fun _ e=>nomatch e⟩
 | int i =>
  obtain⟨t,rfl⟩:=r
  cases (show T = "int" from ty)
  exact⟨typeIs_int s i t,fun _ e=>nomatch e⟩
 | ref p =>
  cases r
  rcases ty with⟨rfl,xs,hq⟩ | ⟨rfl,o,hk,hc,hd⟩ | ⟨rfl,hk⟩ | ⟨rfl,S,n,hk⟩
  ·obtain⟨its,_,pl,_⟩:=I.list hq
   refine⟨pl.isList.typeIs,fun a e=>?_⟩
   cases e
   obtain⟨o,n,e,c,hd,_⟩:=pl
   exact⟨o,e,hd⟩
  ·refine⟨⟨o,I.kIn p o hk,hc⟩,fun a e=>?_⟩
   cases e
   exact⟨o,I.kIn _ o hk,hd⟩
  ·have z:∃o,s.heap.get? p=some o/\o.ExactDict:=by
    rcases hk with⟨kvs,hk⟩ | ⟨kvs,hk⟩
    ·obtain⟨_,_,_,_,o,_,_,e,ex,_⟩:=I.hok p _ hk
     exact⟨o,e,ex⟩
    ·obtain⟨_,_,_,_,o,_,_,e,ex,_⟩:=I.hok p _ hk
     exact⟨o,e,ex⟩
   obtain⟨o,e,ex⟩:=z
   refine⟨⟨o,e,ex.1⟩,fun a e2=>?_⟩
   cases e2
   exact⟨o,e,ex.2.1⟩
  ·obtain⟨o,_,_,_,e,ex,_⟩:=I.hok p _ hk
   refine⟨⟨o,e,ex.1⟩,fun a e2=>?_⟩
   cases e2
   exact⟨o,e,ex.2.1⟩
 | _=>exact False.elim ty
noncomputable def tBM0 (K:PySem.W.Frag)(T:String)(r:V->List V->Hp->VK->Prop)(to:TE):TE:=fun σ H Q=>to σ H fun x H1=>tyV K T x H1/\r x [] H1 Q
noncomputable def tBM (K:PySem.W.Frag)(T:String)(r:V->List V->Hp->VK->Prop)(to:TE)(t:TA):TE:=fun σ H Q=>to σ H fun x H1=>tyV K T x H1/\t σ H1 fun xs H2=>r x xs H2 Q
variable {o e:Expr}{es:List Expr}{to:TE}{t:TA}{name:Str}{apos cpos:Pos}{T id:String}{r:V->List V->Hp->VK->Prop}
theorem pe_bm0 (pa:PlainAttrs T)(slot:Slot T name id)(hty:typeOf (.builtin id)=pure (.type "method_descriptor"))(hm:MtR X id r)(ho:PE X o to)
  (hbase:attributeBase o name X.env (eval o X.env)=eval o X.env:=by rfl) (hline:(apos.endLine==cpos.line)=true:=by rfl):PE X (.Call (.Attribute o name apos) [] [] cpos) (tBM0 X.K T r to):=by
 intro pins s σ H Q I h
 refine wpAny_Call_method0_late hbase hline (thn (ho pins s σ H _ I h) fun v s1 zz=>?_)
 obtain⟨x,H1,I1,r1,ty,q1⟩:=zz
 obtain⟨h1,h2⟩:=tyV_is I1 r1 ty
 exact⟨T,id,pa,slot,hty,h1,h2,Calls.callWith_builtin rfl (PySem.evalArgs_none (hm pins s1 σ H1 x [] v [] Q I1 r1 .nil q1))⟩
theorem pe_bm (pa:PlainAttrs T)(slot:Slot T name id)(hty:typeOf (.builtin id)=pure (.type "method_descriptor"))(hm:MtR X id r)(ho:PE X o to)(ha:PA X (e::es) t)
  (hbase:attributeBase o name X.env (eval o X.env)=eval o X.env:=by rfl)
  (hfew:((backTo cpos (starEach (e::es) X.env)).all (fun x=>!x.1) && (backToKw cpos (keywordEach [] X.env)).all (fun x=>x.1.isSome)
   && decide ((e::es).length+([]:List Keyword).length+(if ([]:List Keyword).isEmpty then 0 else 1)<30))=true:=by rfl)
  (hline:(apos.endLine==cpos.line)=true:=by rfl) (hs:starEach (e::es) X.env=(false,eval e X.env)::starEach es X.env:=by rfl) (hplain:(backTo cpos (starEach es X.env)).any (·.1)=false:=by rfl) :
  PE X (.Call (.Attribute o name apos) (e::es) [] cpos) (tBM X.K T r to t):=by
 intro pins s σ H Q I h
 refine wpAny_Call_method_late hbase hfew hline rfl (thn (ho pins s σ H _ I h) fun v s1 zz=>?_)
 obtain⟨x,H1,I1,r1,ty,q1⟩:=zz
 obtain⟨h1,h2⟩:=tyV_is I1 r1 ty
 refine⟨T,id,pa,slot,hty,h1,h2,?_⟩
 have hA:=ha cpos pins s1 σ H1 _ I1 q1
 rw[hs]at hA ⊢
 refine Calls.callWith_builtin (by show (false || (backTo cpos (starEach es X.env)).any (·.1))=false;rw[hplain]<;>rfl) (Calls.evalArgs_plain ?_)
 refine thn hA fun us s2 zz=>?_
 obtain⟨vs,H2,I2,r2,q2⟩:=zz
 exact hm pins s2 σ H2 x vs v us Q I2 r1 r2 q2
end
end L2
namespace L2
open PySem PySem.Spec PyProof.Rows
noncomputable def MtM (X:Cx)(id:String)(r:V->List V->Hp->VK->Prop):Prop :=
 ∀(pins:List (Addr×Obj)) (s:Shared) (σ:St) (H:Hp) (x:V) (xs:List V) (v:Value) (us:List Value) (Q:VK),Inv X pins σ H s->RelV x v->Vals xs us->r x xs H Q ->
  wpAny (model X.prog X.w) X.A (call (.builtin id) (v::us)) (EP X pins σ Q) X.xe s
theorem Vals.one:∀{x:V} {us:List Value},Vals [x] us->∃u,us=[u]/\RelV x u
 | _,_,.cons r .nil=>⟨_,rfl,r⟩
theorem Vals.zero:∀{us:List Value},Vals [] us->us=[]
 | _,.nil=>rfl
section
variable {X:Cx}{pins:List (Addr×Obj)}{σ:St}{H:Hp}{s:Shared}{l b:Addr}{xs ys zs:List V}
theorem Inv.lset {its its':List Value}{n:Nat}{f:Array Value->Array Value}{t':Nat}(I:Inv X pins σ H s)(hH:H l=some (.lst xs))
  (e:s.heap.get? l=some { cls:=.type "list",data:=.seq its.toArray n }) (hf:f its.toArray=its'.toArray) (hv:Vals ys its') (hz:ys.length<=sizeLine) :
  Inv X pins σ (upd H l (.lst ys)) { s with heap:=s.heap.update l (Obj.mapSeq f),toks:=t' }:=by
 have q:=PySem.IsL.update e f
 rw[hf]at q
 refine I.write (x:=l) (e:=l) (by rw[hH];exact trivial) (.inl rfl) (fun b' u hb hu=>(Heap.get?_update_other s.heap (Obj.mapSeq f) (Ne.symm hb)).trans hu) ⟨_,q⟩ ?_
 exact⟨hz,its',_,hv,q⟩
theorem Inv.lnew {its:List Value}{t':Nat}(I:Inv X pins σ H s)(hv:Vals ys its)(hz:ys.length<=sizeLine) :
  Inv X pins σ (upd H s.heap.objs.size (.lst ys)) { s with heap:=s.heap.push { cls:=.type "list",data:=.seq its.toArray },toks:=t' } :=
 I.laid (fun _ _ q=>Heap.get?_push_of_some _ q) (Nat.le_refl _) ⟨hz,its,0,hv,Heap.get?_push_size _ rfl⟩
theorem Inv.fresh (I:Inv X pins σ H s):H s.heap.objs.size=none:=I.hok.fresh (Nat.le_refl _)
theorem Inv.lstM (I:Inv X pins σ H s)(hH:H l=some (.lst xs)):xs.length<=sizeLine/\∃(its:List Value) (n:Nat),Vals xs its/\xs.length=its.length/\s.heap.get? l=some { cls:=.type "list",data:=.seq its.toArray n }:=by
 obtain⟨z,its,n,r,e⟩:=I.hok l _ hH
 exact⟨z,its,n,r,r.length,e⟩
theorem notLongL {n:Nat}(h:n<=sizeLine):Builtin.List.listTooLong n=false:=by
 unfold Builtin.List.listTooLong
 exact decide_eq_false (by omega)
end
section
variable {X:Cx}
noncomputable def rAppend:V->List V->Hp->VK->Prop:=fun x vs H Q=>∃l xs y,x=.ref l/\vs=[y]/\H l=some (.lst xs)/\xs.length<sizeLine/\Q .non (upd H l (.lst (xs++[y])))
theorem zj9:MtM X "list.append" rAppend:=by
 intro pins s σ H x vs v us Q I rx rv h
 obtain⟨l,xs,y,rfl,rfl,hH,hz,q⟩:=h
 cases rx
 obtain⟨u,rfl,ru⟩:=rv.one
 obtain⟨z,its,n,r,hl,e⟩:=I.lstM hH
 refine call_meets F.slot_list_append ⟨_,e,rfl⟩ F.entry_list_append (F.args_list_append_2 _ _) (PySem.list_append l its.toArray n u (by rw[List.size_toArray];omega)) ⟨e,?_⟩
 refine⟨.non,_,I.lset (its':=its++[u]) hH e (by simp) (r.append (.cons ru .nil)) ?_,rfl,q⟩
 rw[List.length_append,List.length_singleton]
 omega
noncomputable def rExtend:V->List V->Hp->VK->Prop:=fun x vs H Q=>∃l b xs zs,x=.ref l/\vs=[.ref b]/\H l=some (.lst xs)/\H b=some (.lst zs)/\xs.length+zs.length<=sizeLine/\Q .non (upd H l (.lst (xs++zs)))
theorem mt_extend:MtM X "list.extend" rExtend:=by
 intro pins s σ H x vs v us Q I rx rv h
 obtain⟨l,b,xs,zs,rfl,rfl,hH,hB,hz,q⟩:=h
 cases rx
 obtain⟨u,rfl,ru⟩:=rv.one
 cases ru
 obtain⟨z,its,n,r,hl,e⟩:=I.lstM hH
 obtain⟨z2,its2,n2,r2,hl2,e2⟩:=I.lstM hB
 have hsz:its.toArray.size+its2.toArray.size<=sizeLine:=by rw[List.size_toArray,List.size_toArray];omega
 have hlong:¬ (!its.toArray.isEmpty && Builtin.List.listTooLong (its.toArray.size+its2.toArray.size))=true:=by
  rw[notLongL hsz,Bool.and_false]
  exact Bool.false_ne_true
 refine call_meets F.slot_list_extend ⟨_,e,rfl⟩ F.entry_list_extend (F.args_list_extend_2 _ _)
  (AutoSeq1.list_extend_list_list_0 l its.toArray n b its2.toArray n2 hlong (by rw[List.size_toArray];omega) (by omega)) ⟨e,e2,?_⟩
 refine⟨.non,_,I.lset (its':=its++its2) hH e (by simp) (r.append r2) ?_,rfl,q⟩
 rw[List.length_append]
 omega
noncomputable def rClear:V->List V->Hp->VK->Prop:=fun x vs H Q=>∃l xs,x=.ref l/\vs=[]/\H l=some (.lst xs)/\Q .non (upd H l (.lst []))
theorem mt_clear:MtM X "list.clear" rClear:=by
 intro pins s σ H x vs v us Q I rx rv h
 obtain⟨l,xs,rfl,rfl,hH,q⟩:=h
 cases rx
 have hus:=rv.zero
 subst hus
 obtain⟨z,its,n,r,hl,e⟩:=I.lstM hH
 refine call_meets F.slot_list_clear ⟨_,e,rfl⟩ F.entry_list_clear (F.args_list_clear_1 _) (AutoSeq1.list_clear_list_0 l its.toArray n (by rw[List.size_toArray];omega)) ⟨e,?_⟩
 exact⟨.non,_,I.lset (its':=[]) (ys:=[]) hH e rfl .nil (Nat.zero_le _),rfl,q⟩
noncomputable def rCat:R2:=fun x y H Q=>∃l b xs zs,x=.ref l/\y=.ref b/\H l=some (.lst xs)/\H b=some (.lst zs)/\xs.length+zs.length<=sizeLine/\∀p,H p=none->Q (.ref p) (upd H p (.lst (xs++zs)))
theorem op_cat:OpR X (binaryOp .Add) rCat:=by
 intro pins s σ H x y v u Q I rx ry h
 obtain⟨l,b,xs,zs,rfl,rfl,hH,hB,hz,q⟩:=h
 cases rx
 cases ry
 obtain⟨z,its,n,r,hl,e⟩:=I.lstM hH
 obtain⟨z2,its2,n2,r2,hl2,e2⟩:=I.lstM hB
 refine PySem.P.add_list e e2 ?_ (by rw[List.size_toArray,List.size_toArray];omega)
 have ea:its.toArray++its2.toArray=(its++its2).toArray:=by simp
 rw[ea]
 exact⟨.ref _,_,I.lnew (t':=s.toks) (r.append r2) (by rw[List.length_append];omega),rfl,q _ I.fresh⟩
end
section
variable {prog:Program}{w:World}{A:Around}{E:Value->Shared->Prop}{s:Shared}
set_option maxRecDepth 100000 in
end
section
variable {X:Cx}
end
end L2
namespace Att
open PySem PySem.W PySem.Calls PyProof.Rows
theorem zg8 {P:Params}{h:Heap}:∀(ns:List Int) (vs:List Value),WellAll P h vs (ns.map WData.int)->IntsAre vs ns:=by
 intro ns
 induction ns with
 | nil =>
  intro vs w
  rw[List.map_nil]at w
  cases w
  exact .nil
 | cons n ns ih =>
  intro vs w
  rw[List.map_cons]at w
  cases w with
  | cons a b =>
   cases a
   exact .cons _ _ (ih _ b)
theorem script_of {l:OpenLaw}{n:Nat}(hn:l.most=some n){P:Params}{h:Heap}{args:List WData}{vals:List Value}
  (hpre:l.row.toRowW.claim.pre args=true) (hwl:WellAll P h vals args) :
  ∃a vs ns,vals=[Value.ref a]/\args=[WData.list (ns.map WData.int)]/\h.get? a=some { cls:=.type "list",data:=.seq vs.toArray }/\IntsAre vs ns/\ns.length<=n:=by
 have hsh:WShape.hasAll [] args [.list .int]=true:=(pre_splitW hpre).1
 have hc:l.pre.holds [] { args:=args }=true:=(pre_splitW hpre).2
 obtain⟨d,r,rfl,h1,h2⟩:=hasAllW_cons hsh
 obtain rfl:=hasAllW_nil h2
 obtain⟨xs,rfl,h3⟩:=hasW_list h1
 obtain⟨ns,rfl⟩:=items_int h3
 have hlen:ns.length<=n:=by
  unfold OpenLaw.pre at hc
  have h4:(WTm.not (.lt (.lit (.int (n:Int))) (.len (.arg 0)))).holds [] { args:=[.list (ns.map .int)] }=true:=by
   have h4:=(holds_andW hc).1
   rw[hn]at h4
   exact h4
  have h5:=condW_of h4 (w_not (w_lt w_lit (w_len_list (w_arg rfl))))
  rw[List.length_map]at h5
  refine Nat.le_of_not_lt fun q=>?_
  have q':(n:Int)<((ns.length:Nat):Int):=by omega
  first
   | (rw[decide_eq_true q']at h5;exact absurd h5 (by decide))
   | (simp at h5;omega)
 cases hwl with
 | cons w1 w2 =>
  cases w2
  cases w1 with
  | list ho hall=>exact⟨_,_,ns,rfl,rfl,ho,zg8 ns _ hall,hlen⟩
theorem post_true (l:OpenLaw)(args:List WData):l.row.toRowW.claim.post args (.bool true) args=true :=
 postW_of (r:=l.row.toRowW) (X:=(true==true))
  (show WShape.has [] (.bool true) .bool=true by first | rfl | decide | simp[WShape.has,WShape.arms,WShape.armsAll])
  (show (WTm.eq .res (.lit (.bool true))).value [] { args:=args,res:=some (.bool true),after:=args }=some (.bool (true==true)) from w_eq_bool (w_res rfl) w_lit) rfl
theorem zhj {l:OpenLaw}{n:Nat}{q:Program}{loose:List Str}{XP:(Str->Option Value)->Heap->Prop}{YP:World->Heap->Prop}{d:DefRec}
  (hn:l.most=some n) (hdf:d.params.defaults=[])
  (call:∀(w:World) (s₀ s₁:Shared) (mg mb:Str->Option Value) (fa:Addr) (o:Obj) (pm cd doc:Value) (a:Addr) (vs:List Value) (ns:List Int),
   Ground q loose [] XP w s₀ mg mb s₁.heap->YP w s₁.heap ->
   s₁.heap.get? fa=some o->o.data=.func (docDef d.name d.params d.body d.scope pm cd doc)->s₁.heap.CodeRec cd d.name->mg d.name=some (.ref fa) ->
   s₁.heap.get? a=some { cls:=.type "list",data:=.seq vs.toArray }->IntsAre vs ns->ns.length<=n->s₁.gens=#[] ->
   codeAny (model l.prog w) callerA (.call (.ref fa) ⟨[.ref a],[]⟩) (fun r s'=>r=.ok (.ret (.bool true))/\OldK s₁.heap s'.heap/\s'.os=s₁.os/\AllBare s'.gens) s₁) :
  WalkO q loose XP YP l.row.toRowW d [] (fun f vs=>PySem.call f vs):=by
 intro w s₀ s₁ mg mb G Y fa o pm cd doc dV kV ho hd hcd hD hmg hg args vals as hpre hlay hrd hwl hlo
 obtain rfl:dV=.none:=Dflts.none hD hdf
 obtain rfl:kV=.none:=Dflts.noKw hD
 obtain⟨a,vs,ns,rfl,rfl,hobj,hints,hlen⟩:=script_of hn hpre hwl
 refine enter_call (codeAny_mono (call w s₀ s₁ mg mb fa o pm cd doc a vs ns G Y ho (fd_plain hd) hcd hmg hobj hints hlen hg) fun r s' hq=>?_)
 obtain⟨rfl,h2,h3,h4⟩:=hq
 exact⟨.inl ⟨.bool true,.bool true,[],rfl,fun _=>rfl,.bool true,post_true l _,fun _=>⟨List.Pairwise.nil,fun _ hm=>(nomatch hm)⟩⟩,h2,h3,h4⟩
section
variable {prog:Program}{w:World}{A:Around}{E:Value->Shared->Prop}{s:Shared}{K:Frag}
noncomputable def noObjs (h:Heap):Heap:={ h with objs:=#[] }
theorem zgl (h:Heap)(b:Addr):(noObjs h).get? b=none:=by
 cases e:(noObjs h).get? b with
 | none=>rfl
 | some o=>exact absurd (Heap.lt_size e) (Nat.not_lt_zero _)
noncomputable def ledger (h:Heap)(L d:Addr):List (Addr×Obj):=(List.range h.objs.size).filterMap fun a=>if a=L\/a=d then none else (h.get? a).map fun o=>(a,o)
theorem ziw {h:Heap}{L d a:Addr}{o:Obj}:(a,o)∈ledger h L d↔a≠L/\a≠d/\h.get? a=some o:=by
 unfold ledger
 rw[List.mem_filterMap]
 constructor
 ·rintro ⟨b,_,e⟩
  split at e
  ·cases e
  ·rename_i hb
   obtain⟨o',ho,e'⟩:=Option.map_eq_some_iff.mp e
   cases e'
   exact⟨fun q=>hb (.inl q),fun q=>hb (.inr q),ho⟩
 ·rintro ⟨n1,n2,ho⟩
  refine⟨a,List.mem_range.mpr (Heap.lt_size ho),?_⟩
  rw[if_neg (show ¬ (a=L\/a=d) from fun q=>q.elim n1 n2),ho]<;>rfl
theorem zkq {h:Heap}{L d:Addr}{od:Obj}(hne:d≠L)(ho:h.get? d=some od):News (noObjs h) L h ([]++(d,od)::ledger h L d):=by
 rintro ⟨a,o⟩ hp
 rcases List.mem_cons.mp hp with e | hp
 ·cases e
  exact⟨ho,hne,zgl _ _⟩
 ·obtain⟨n1,n2,e⟩:=ziw.mp hp
  exact⟨e,n1,zgl _ _⟩
theorem fr_all {h:Heap}{L:Addr}{m:Str->Option Value}(n:h.Ns L m):Fr (noObjs h) L h m :=
 ⟨n,fun b o e=>(by rw[zgl]at e;cases e),Nat.zero_le _⟩
end
end Att
namespace L2
open PySem PySem.Spec PyProof.Rows
theorem zh9:∀{vs:List Value} {ns:List Int},IntsAre vs ns->Vals (ns.map V.int) vs
 | _,_,.nil=>.nil
 | _,_,.cons n t h=>.cons ⟨t,rfl⟩ (zh9 h)
noncomputable def Only (H:Hp):Prop:=∀b,H b=none\/∃o xs,H b=some (.frz o (.lst xs))
theorem law_call {P:Program}{w:World}{K:PySem.W.Frag}{mg mb:Str->Option Value}{CX:CXT}{k:Nat}{fa a:Addr}{fd:FuncData}{x:Str}{sp:Sp}{s₁:Shared}{vs:List Value}{ns:List Int}
  (KX:K.In s₁.heap) (hns:s₁.heap.Ns mainGlobals mg) (hb:s₁.heap.Ns builtinsNs mb) (hbb:∀x:Str,x ≠ "__name__"->mb x=bootBuiltins x) (hlim:s₁.heap.NoLimit) (hg:s₁.gens=#[])
  (ha:s₁.heap.get? a=some { cls:=.type "list",data:=.seq vs.toArray }) (hi:IntsAre vs ns) (hl:ns.length<=sizeLine) (hr:Room k callerA)
  (F:∀base:Heap,K.In base->base.Ns mainGlobals mg->FnOk P w K mg base CX k fa fd [x] sp) (hbind:∀(s:Shared) (u:Value),BindsTo s fd ⟨[u],[]⟩ [(x,u)])
  (hsp:∀H:Hp,Only H->SqL K H a (ns.map V.int)->sp [.ref a] H (fun v _=>v=.bl true) fun _ _ _=>False)
  (hCX:∀H e s',CX [] H s₁ (fun _ _ _=>False) e s'->False) :
  codeAny (model P w) callerA (.call (.ref fa) ⟨[.ref a],[]⟩) (fun r s'=>r=.ok (.ret (.bool true))/\OldK s₁.heap s'.heap/\s'.os=s₁.os/\AllBare s'.gens) s₁:=by
 have rv:=zh9 hi
 have lenV:=hi.length

 have core:∀H:Hp,Only H->SqL K H a (ns.map V.int)->HOk P w H s₁.heap->(∀b,H b≠none->b=a)->(H a≠none->K.lookup a=none) ->
   codeAny (model P w) callerA (.call (.ref fa) ⟨[.ref a],[]⟩) (fun r s'=>r=.ok (.ret (.bool true))/\OldK s₁.heap s'.heap/\s'.os=s₁.os/\AllBare s'.gens) s₁:=by
  intro H hO hS hok hA hK
  have base_of:∀{b:Addr} {o:Obj},s₁.heap.get? b=some o->H b=none->(hidT s₁.heap H).get? b=some o:=fun e n=>zlk e n
  have noA:∀{b:Addr} {o:Obj} {es:Array DictEntry} {ep:Nat},s₁.heap.get? b=some o->o.data=.dict es ep->H b=none:=fun {b o es ep} e d=>by
   cases q:H b with
   | none=>rfl
   | some u =>
    have e':b=a:=hA b (by rw[q];simp)
    subst e'
    rw[ha]at e;cases e
    have d':Data.seq vs.toArray _=Data.dict es ep:=d
    cases d'
  have nsK:∀{b:Addr} {m:Str->Option Value},s₁.heap.Ns b m->(hidT s₁.heap H).Ns b m:=fun {b m} ⟨o,es,ep,e,d,r⟩=>⟨o,es,ep,base_of e (noA e d),d,r⟩
  have hKb:K.In (hidT s₁.heap H):=fun b o e=>base_of (KX b o e) (by
   cases q:H b with
   | none=>rfl
   | some u =>
    have e':b=a:=hA b (by rw[q];simp)
    subst e'
    rw[hK (by rw[q];simp)]at e;cases e)
  have hM:Mod K mg (hidT s₁.heap H):=⟨hKb,nsK hns,⟨mb,nsK hb,hbb⟩,let ⟨mc,h1,h2⟩:=hlim;⟨mc,nsK h1,h2⟩⟩
  have e0:Env0 P w K mg (hidT s₁.heap H) callerA [] s₁ H:=⟨rfl,hM,fun b o e=>of_hidT e,Nat.le_of_eq (zkg _ _),trivial,fun b hb=>absurd (show b∈([]:List Addr) from hb) (by simp),hok,.of_eq hg⟩
  refine codeAny_mono ((F _ hKb (nsK hns)).run callerA [] s₁ H ⟨[.ref a],[]⟩ [.ref a] [.ref a] _ _ hr e0 (hbind s₁ (.ref a)) (.cons rfl .nil) (hsp H hO hS)) fun r s' h=>?_
  cases r with
  | error e=>exact (hCX H e s' h).elim
  | ok fl =>
   cases fl with
   | next=>exact False.elim h
   | brk=>exact False.elim h
   | cont=>exact False.elim h
   | ret u =>
    obtain⟨v,H',os,bare,un,hok',r',q⟩:=h
    have q':v=.bl true:=q
    subst q'
    obtain rfl:u=Value.bool true:=r'
    refine⟨rfl,OldK.of_keep fun b o e=>?_,os,bare⟩
    cases q:H b with
    | none=>exact un.keep b o e q (by intro z;exact absurd (show b∈([]:List Addr) from z) (by simp)) (by simp)
    | some u =>
     rcases hO b with z | ⟨ob,xs,z⟩
     ·rw[q]at z;cases z
     ·have z2:=un.frzs b ob _ z
      obtain⟨e1,_⟩:=hok b _ z
      obtain⟨e2,_⟩:=hok' b _ z2
      rw[e]at e1;cases e1
      exact e2
 cases hk:K.lookup a with
 | some o =>

  have e:=KX a o hk
  rw[ha]at e
  cases e
  refine core (fun _=>none) (fun _=>.inl rfl) (.inr ⟨_,vs.toArray,_,hk,rfl,rfl,rfl,by rw[List.size_toArray,lenV];exact hl,by simpa using rv⟩) (fun b u z=>by have z':(none:Option HO)=some u:=z;cases z') (fun b z=>absurd rfl z) fun z=>absurd rfl z
 | none =>
  refine core (fun b=>if b=a then some (.frz { cls:=.type "list",data:=.seq vs.toArray } (.lst (ns.map V.int))) else none) (fun b=>?_) (.inl (.inr ⟨{ cls:=.type "list",data:=.seq vs.toArray },if_pos rfl⟩)) (fun b u z=>?_) (fun b z=>?_) fun _=>hk
  ·by_cases hb:b=a
   ·exact .inr ⟨_,_,if_pos hb⟩
   ·exact .inl (if_neg hb)
  ·by_cases hb:b=a
   ·have z':=(if_pos hb).symm.trans z
    cases z'
    subst hb
    exact⟨ha,by rw[List.length_map];exact hl,vs,_,rv,ha⟩
   ·have z':=(if_neg hb).symm.trans z
    cases z'
  ·by_cases hb:b=a
   ·exact hb
   ·exact absurd (if_neg hb) z
end L2
namespace L2
open PySem PySem.Spec PyProof.Rows
noncomputable abbrev KOf {K:PySem.W.Frag}{h:Heap}(_:K.In h):PySem.W.Frag:=K
theorem walk_of {l:PySem.W.OpenLaw}{n k:Nat}{q:Program}{loose:List Str}{XP:(Str->Option Value)->Heap->Prop}{YP:World->Heap->Prop}{d:DefRec}{K:Params->PySem.W.Frag}{CX:World->CXT}{sp:World->Sp}{x:Str}
  (hn:l.most=some n) (hn2:n<=sizeLine) (hdf:d.params.defaults=[]) (hr:Room k callerA)
  (hY:∀(w:World) (h:Heap),YP w h->(K w.params).In h)
  (F:∀(w:World) (mg:Str->Option Value) (fa:Addr) (h:Heap),(K w.params).In h->h.Ns mainGlobals mg->mg d.name=some (.ref fa) ->
   ∃fd:FuncData,(∀(s:Shared) (u:Value),BindsTo s fd ⟨[u],[]⟩ [(x,u)]) /\
    ∀base:Heap,(K w.params).In base->base.Ns mainGlobals mg->FnOk l.prog w (K w.params) mg base (CX w) k fa fd [x] (sp w))
  (hsp:∀(w:World) (H:Hp) (a:Addr) (ns:List Int),ns.length<=n->Only H->SqL (K w.params) H a (ns.map V.int)->sp w [.ref a] H (fun v _=>v=.bl true) fun _ _ _=>False)
  (hCX:∀(w:World) (H:Hp) (s:Shared) (e:Value) (s':Shared),CX w [] H s (fun _ _ _=>False) e s'->False) :
  PySem.W.WalkO q loose XP YP l.row.toRowW d [] (fun f vs=>PySem.call f vs):=by
 refine Att.zhj hn hdf fun w s₀ s₁ mg mb fa o pm cd doc a vs ns G Y ho hd hcd hmg hobj hints hlen hg=>?_
 have KX:=hY w _ Y
 obtain⟨fd,hb,hF⟩:=F w mg fa _ KX G.T.g hmg
 exact law_call KX G.T.g G.T.b G.T.builtins G.T.nolimit hg hobj hints (Nat.le_trans hlen hn2) hr hF hb (fun H hO hS=>hsp w H a ns hlen hO hS) fun H e s'=>hCX w H s₁ e s'
end L2
namespace L2
open PySem PySem.Spec PyProof.Rows
noncomputable def defArgs (s:Stmt):Arguments:=match s with
 | .FunctionDef _ a _ _ _ _ _ _ _ _=>a
 | _=>{ posonlyargs:=[],args:=[],vararg:=none,kwonlyargs:=[],kw_defaults:=[],kwarg:=none,defaults:=[] }
noncomputable def defBody (s:Stmt):List Stmt:=match s with
 | .FunctionDef _ _ b _ _ _ _ _ _ _=>b
 | _=>[]
noncomputable def defScope (s:Stmt):Scope:=match s with
 | .FunctionDef _ _ _ _ _ _ sc _ _ _=>sc
 | _=>{ kind:=.function,names:=[],isGenerator:=false,isCoroutine:=false }
noncomputable abbrev CX0:CXT:=fun _ _ _ _ _ _=>False
noncomputable abbrev E0:XK:=fun _ _ _=>False
theorem pass0 {X:Cx}:Passes CX0 X E0:=fun _ _ _ _ _ _ _ h=>h.elim
structure Fun (K:PySem.W.Frag)(x qual:Str)(st:Stmt)(f:Addr)(fd:FuncData):Prop where
 ex:∃(oc:Value) (od:Option Addr) (kV doc pm:Value) (an:Option Addr) (cdv ct:Value) (osl:Array (Option Value)),
  fd=PySem.W.fnOf x qual (defArgs st) (defBody st) (defScope st) .none kV doc pm an cdv ct/\K.lookup f=some ⟨oc,od,.func fd,osl⟩/\PySem.W.codeIn K cdv qual=true
 kp:PySem.W.keepIn K (.ref f)=true
section
variable {P:Program}{w:World}{K:PySem.W.Frag}{mg:Str->Option Value}{base:Heap}
theorem Fun.ok {x qual:Str}{st:Stmt}{f:Addr}{fd:FuncData}{N ps:List Str}{k:Nat}{sp:Sp}(F:Fun K x qual st f fd)(S:FnScope N ps (defScope st))(len:∀vs H Q E,sp vs H Q E->vs.length=ps.length)
  (hbody:∀(cdv:Value) (A:Around) (outer:List Env) (s:Shared) (H:Hp) (vs:List V) (Q:VK) (E:XK),Room k (A.deeper (envOfC qual (defScope st) s.heap.objs.size f cdv))->sp vs H Q E ->
   ∃t,PSs (cxOf CX0 P w K mg base N qual (defScope st) f cdv A outer s H E).nox (defBody st) t/\t { nx:=fun _ H'=>Q .non H',rt:=Q } (start N vs) H):FnOk P w K mg base CX0 (k+1) f fd ps sp:=by
 obtain⟨oc,od,kV,doc,pm,an,cdv,ct,osl,rfl,lk,hcd⟩:=F.ex
 refine fn_of lk hcd S len fun A outer s H vs Q E hr hsp=>?_
 obtain⟨t,h,q⟩:=hbody cdv A outer s H vs Q E hr hsp
 exact⟨t,h.nox,q⟩
theorem Fun.binds {x qual:Str}{st:Stmt}{f:Addr}{fd:FuncData}{ps:List Str}(F:Fun K x qual st f fd)
  (h:∀(kV doc pm:Value) (an:Option Addr) (cdv ct:Value) (us:List Value),us.length=ps.length->bindArgs (PySem.W.fnOf x qual (defArgs st) (defBody st) (defScope st) .none kV doc pm an cdv ct) ⟨us,[]⟩=pure (ps.zip us)):Binds K fd ps []:=by
 obtain⟨oc,od,kV,doc,pm,an,cdv,ct,osl,rfl,lk,hcd⟩:=F.ex
 exact .all (h kV doc pm an cdv ct)
theorem zcp {x qual:Str}{st:Stmt}{f:Addr}{oc:Value}{od an:Option Addr}{osl:Array (Option Value)}{kV doc pm cdv ct:Value}(l:K.lookup f=some ⟨oc,od,.func (PySem.W.fnOf x qual (defArgs st) (defBody st) (defScope st) .none kV doc pm an cdv ct),osl⟩)
  (c:PySem.W.codeIn K cdv qual=true) (k:PySem.W.keepIn K (.ref f)=true):Fun K x qual st f (PySem.W.fnOf x qual (defArgs st) (defBody st) (defScope st) .none kV doc pm an cdv ct):=⟨⟨oc,od,kV,doc,pm,an,cdv,ct,osl,rfl,l,c⟩,k⟩
end
theorem hu_of {A:Around}{k:Nat}(hr:Room k A):A.units+1<cLine:=Nat.lt_of_le_of_lt (Nat.add_le_add_left (by decide:1<=64) _) hr.units
section
variable {X:Cx}
end
theorem iteF {A B:Prop}(h:B):if false=true then A else B:=by
 rw[if_neg Bool.false_ne_true]
 exact h
theorem iteT {A B:Prop}(h:A):if true=true then A else B:=by
 rw[if_pos rfl]
 exact h
end L2
namespace L2
open PySem PySem.Spec PyProof.Rows
noncomputable def Xo (lo:Nat)(e C dx:Addr)(fl:Option Value)(H:Hp)(h:Heap):Prop :=
 lo<=e/\H e=none/\∃oe vs,h.get? e=some oe/\oe.cls=.ref C/\oe.dict=some dx/\oe.data=.fields vs/\1<vs.size /\
  match fl with
  | none=>vs[1]? = some .none
  | some v=>∃T oT ts,vs[1]? = some (.ref T)/\lo<=T/\T≠e/\H T=none/\h.get? T=some oT/\oT.data=.fields ts/\ts[3]? = some v
end L2
namespace L2
open PySem PySem.Spec PyProof.Rows
section
variable {X:Cx}
theorem op_fdivW:OpR X (binaryOp .FloorDiv) (rI (fun _ j=>0<j/\j<2 ^ 64) fun i j=>.int (i / j)):=by
 refine opI fun i j t u s Q E hc h=>?_
 obtain⟨h0,h1⟩:=hc
 have e:i.fdiv j=i / j:=Int.fdiv_eq_ediv_of_nonneg i (Int.le_of_lt h0)
 refine floordiv_int (by omega) (by rw[e];exact h) (.inl (PyProof.noPylong_of_log2 ?_))
 have h2:j.natAbs<2 ^ 64:=by omega
 have h3:j.natAbs≠0:=by omega
 have:=(Nat.log2_lt h3).mpr h2
 omega
theorem cat_tup0 {prog:Program}{w:World}{A:Around}{E:Value->Shared->Prop}{s:Shared}{t b:Addr}{ws:List Value}{Q:Value->Shared->Prop}(ht:IsTup s.heap t #[])(hb:IsTup s.heap b ws.toArray)
  (h1:Q (.ref b) s):wpAny (model prog w) A (binaryOp .Add (.ref t) (.ref b)) Q E s:=by
 obtain⟨⟨cls,dd,data,sl⟩,ho,hc,n,hd⟩:=id ht
 obtain⟨⟨cls2,dd2,data2,sl2⟩,ho2,hc2,n2,hd2⟩:=id hb
 simp only at hc hd hc2 hd2
 subst hc hd hc2 hd2
 exact concat_meets ⟨_,ho,rfl⟩ ⟨_,ho2,rfl⟩ noFill_tuple_add seq_tuple_add PySem.F.slot_tuple_add PySem.F.entry_tuple_add (PySem.F.args_tuple_add_2 _ _)
   (tuple_addW0 t b #[] ws.toArray n n2 dd dd2 sl sl2 (by simp)) ⟨ho,ho2,h1⟩
noncomputable def rCatT0 (K:PySem.W.Frag):R2:=fun x y H Q=>∃a b ys,x=.ref a/\y=.ref b/\SqT K H a []/\SqT K H b ys/\Q (.ref b) H
theorem op_catT0:OpR X (binaryOp .Add) (rCatT0 X.K):=by
 intro pins s σ H x y v u Q I rx ry h
 obtain⟨a,b,ys,rfl,rfl,ha,hb,q⟩:=h
 cases rx
 cases ry
 obtain⟨its,r1,p1,_⟩:=I.tuple ha
 obtain⟨its2,r2,p2,_⟩:=I.tuple hb
 cases r1
 exact cat_tup0 p1 p2 ⟨.ref b,H,I,rfl,q⟩
end
end L2
namespace HT
open PySem PyProof.Rows
section
variable {prog:Program}{w:World}{A:Around}{E:Value->Shared->Prop}{s:Shared}
theorem zfc {t sl:Addr}{items:Array Value}{vl vu:Value}{lo hi:Option Int}{Q:Value->Shared->Prop}(ht:IsTup s.heap t items)(hs:s.heap.IsSliceOf sl vl vu .none)(pl:IsPart vl lo)(pu:IsPart vu hi)
  (hw:sIx items.size 0 lo=0/\sIx items.size items.size hi=items.size)
  (h:Q (.ref t) s):wpAny (model prog w) A (getItem (.ref t) (.ref sl)) Q E s:=by
 obtain⟨os,hos,hcs,hds⟩:=id hs
 have hTs:s.TypeIs (.ref sl) "slice":=⟨os,hos,hcs⟩
 unfold getItem
 try with_reducible refine wpAny_holding ?_
 first | refine wpAny_bind (wpAny_pure ?_) | skip
 refine wpAny_bind (wpAny_sequenceKey ht.typeIs (by decide) ?_)
 refine wpAny_bind (wpAny_callSpecial?_slot (name:=Str.ofString "__getitem__") ht.typeIs PyProof.Rows.slot_tuple_getitem
  (wpAny_call_entry PyProof.Rows.slot_tuple_getitem ht.typeIs entry_tuple_getitem ?_ (args_tuple_getitem _ _)))
 show wpAny _ _ (Builtin.Tuple.tupleItemsOf (.ref t) >>= _) _ _ s
 refine wpAny_bind (tupleItemsOf_ ht ?_)
 refine wpAny_bind (wpAny_typeOf hTs ?_)
 rw[if_pos (by decide)]
 refine wpAny_bind (zen hs pl pu ?_)
 have hno:((((sIx items.size 0 lo:Nat):Int)==0 && (1:Int)==1 && (sIx items.size items.size hi - sIx items.size 0 lo)==items.size)=true):=by
  rw[hw.1,hw.2];simp
 show wpAny _ _ (if (((sIx items.size 0 lo:Nat):Int)==0 && (1:Int)==1 && (sIx items.size items.size hi - sIx items.size 0 lo)==items.size)=true then _ else _) _ _ s
 rw[if_pos hno]
 unfold Builtin.Tuple.tupleIsExact
 refine wpAny_bind (wpAny_bind (wpAny_typeOf ht.typeIs ?_))
 refine wpAny_pure ?_
 rw[if_pos (by decide)]
 exact wpAny_bind (wpAny_rule (wpAny_pure ⟨_,rfl,wpAny_pure h⟩))
end
end HT
namespace L2
open PySem PySem.Spec PyProof.Rows
section
variable {X:Cx}
noncomputable def rSlTW (K:PySem.W.Frag):V->Option Int->Option Int->Hp->VK->Prop:=fun x lo hi H Q=>∃a xs,x=.ref a/\SqT K H a xs /\
 (HT.sIx xs.length 0 lo=0/\HT.sIx xs.length xs.length hi=xs.length)/\Q (.ref a) H
theorem sl_tupW:SlR X (rSlTW X.K):=by
 intro pins s σ H x v vl vu lo hi sl Q I rx hs pl pu h
 obtain⟨a,xs,rfl,hx,hw,q⟩:=h
 cases rx
 obtain⟨its,r,ht,hz⟩:=I.tuple hx
 have hlen:its.toArray.size=xs.length:=by rw[List.size_toArray];exact r.length.symm
 refine⟨"tuple",_,PyProof.Rows.slot_tuple_getitem.lookup,ht.typeIs,?_⟩
 exact HT.zfc ht hs pl pu (by rw[hlen];exact hw) ⟨.ref a,H,I,rfl,q⟩
end
end L2
namespace L2
open PySem PySem.Spec PyProof.Rows
section
variable {X:Cx}{pins:List (Addr×Obj)}{σ:St}{H:Hp}{s:Shared}{h':Heap}{t':Nat}
end
end L2
namespace L2
open PySem PySem.Spec PyProof.Rows
theorem zii {scope:Scope}{env:Env}(h:∀x∈scope.names,x.2=.free->∃c,env.cells.lookup x.1=some c) :
  ∃cl,closureFor scope env=pure cl/\(∀x c,cl.lookup x=some c->env.cells.lookup x=some c)/\∀x,(x,NameKind.free)∈scope.names->∃c,cl.lookup x=some c:=by
 have key:∀(names:List (Str×NameKind)) (acc:List (Str×Addr)),(∀x∈names,x.2=.free->∃c,env.cells.lookup x.1=some c)->(∀x c,acc.lookup x=some c->env.cells.lookup x=some c) ->
   ∃cl,(forIn names acc fun (x:Str×NameKind) (cs:List (Str×Addr))=>(if x.2 == .free then do let a <-cellOf env x.1;pure (ForInStep.yield ((x.1,a)::cs)) else pure (ForInStep.yield cs):Sem _))=pure cl/\(∀x c,cl.lookup x=some c->env.cells.lookup x=some c) /\
    (∀x,(x,NameKind.free)∈names->∃c,cl.lookup x=some c)/\∀x c,acc.lookup x=some c->∃c',cl.lookup x=some c':=by
  intro names
  induction names with
  | nil=>intro acc _ ha;exact⟨acc,rfl,ha,⟨(fun x hx=>nomatch hx),fun x c q=>⟨c,q⟩⟩⟩
  | cons y r ih =>
   intro acc hn ha
   obtain⟨n,k⟩:=y
   have hr:∀x∈r,x.2=.free->∃c,env.cells.lookup x.1=some c:=fun x hx=>hn x (List.mem_cons_of_mem _ hx)
   by_cases hk:k=.free
   ·subst hk
    obtain⟨c,hc⟩:=hn (n,.free) (by simp) rfl
    have ha':∀x c',((n,c)::acc).lookup x=some c'->env.cells.lookup x=some c':=fun x c' q=>by
     rw[List.lookup_cons]at q
     cases e:x==n with
     | true=>rw[e]at q;cases q;rw[eq_of_beq e];exact hc
     | false=>rw[e]at q;exact ha x c' q
    obtain⟨cl,h1,h2,h3,h4⟩:=ih ((n,c)::acc) hr ha'
    refine⟨cl,?_,h2,fun x hx=>?_,fun x c' q=>?_⟩
    ·rw[List.forIn_cons]
     simp only[beq_self_eq_true,if_true,cellOf,hc]
     exact h1
    ·rcases List.mem_cons.mp hx with e | hx
     ·cases e
      exact h4 n c (by simp)
     ·exact h3 x hx
    ·cases e:x==n with
     | true=>exact h4 x c (by rw[List.lookup_cons,e])
     | false=>exact h4 x c' (by rw[List.lookup_cons,e];exact q)
   ·have hb:(k==NameKind.free)=false:=by simpa using hk
    obtain⟨cl,h1,h2,h3,h4⟩:=ih acc hr ha
    refine⟨cl,?_,h2,fun x hx=>?_,h4⟩
    ·rw[List.forIn_cons]
     simp only[hb,Bool.false_eq_true,if_false]
     exact h1
    ·rcases List.mem_cons.mp hx with e | hx
     ·cases e;exact absurd rfl hk
     ·exact h3 x hx
 obtain⟨cl,h1,h2,h3,_⟩:=key scope.names [] h (fun x c q=>by simp at q)
 refine⟨cl,?_,h2,h3⟩
 unfold closureFor
 show (forIn scope.names [] (fun (x:Str×NameKind) (cs:List (Str×Addr))=>(if x.2 == .free then do let a <-cellOf env x.1;pure (ForInStep.yield ((x.1,a)::cs)) else pure (ForInStep.yield cs):Sem _)) >>= fun cs=>pure cs)=pure cl
 rw[h1]
 rfl
theorem zdy {f:Str×NameKind->Str×NameKind}(h1:∀p,(f p).1=p.1):∀{names:List (Str×NameKind)} {x:Str},(names.map f).lookup x=(names.lookup x).map fun k=>(f (x,k)).2
 | [],_=>rfl
 | (n,j)::r,x=>by
  rw[List.map_cons]
  have e:f (n,j)=(n,(f (n,j)).2):=by
   have:=h1 (n,j)
   exact Prod.ext this rfl
  rw[e,List.lookup_cons,List.lookup_cons]
  cases hx:x==n with
  | true=>rw[eq_of_beq hx];rfl
  | false=>exact zdy h1
noncomputable def rlab (env:Env)(p:Str×NameKind):Str×NameKind:=if (p.2 == .free && env.scope.kind == .function && env.kindOf p.1==some .cell)=true then (p.1,.cell) else (p.1,p.2)
theorem zm9 (env:Env)(p:Str×NameKind):(rlab env p).1=p.1:=by unfold rlab;split<;>rfl
theorem zmg (env:Env)(p:Str×NameKind):(rlab env p).2=p.2\/(p.2=.free/\(rlab env p).2=.cell):=by
 unfold rlab
 split
 ·rename_i h
  rw[Bool.and_eq_true,Bool.and_eq_true]at h
  exact .inr ⟨eq_of_beq h.1.1,rfl⟩
 ·exact .inl rfl
theorem zf6 (scope:Scope)(env:Env):(relabel scope env).names=scope.names.map (rlab env):=rfl
theorem zfn {scope:Scope}{env:Env}{x:Str}{k:NameKind}(h:(relabel scope env).names.lookup x=some k):scope.names.lookup x=some k\/(scope.names.lookup x=some .free/\k=.cell):=by
 rw[zf6,zdy (zm9 env)]at h
 cases e:scope.names.lookup x with
 | none=>rw[e]at h;cases h
 | some j =>
  rw[e]at h
  have h':(rlab env (x,j)).2=k:=Option.some.inj h
  rcases zmg env (x,j) with q | ⟨q1,q2⟩
  ·rw[q]at h';exact .inl (by rw[<-h'])
  ·rw[q2]at h';exact .inr ⟨by rw[show j=NameKind.free from q1],h'.symm⟩
theorem ze9 {scope:Scope}{env:Env}{x:Str}(h:scope.names.lookup x=some .free):(relabel scope env).names.lookup x=some .cell\/(relabel scope env).names.lookup x=some .free:=by
 rw[zf6,zdy (zm9 env),h]
 rcases zmg env (x,.free) with q | ⟨_,q⟩
 ·exact .inr (by rw[Option.map_some,q])
 ·exact .inl (by rw[Option.map_some,q])
theorem mem_of_lookup {α β:Type}[BEq α][LawfulBEq α]{x:α}{k:β}:∀{l:List (α×β)},l.lookup x=some k->(x,k)∈l
 | [],h=>by simp at h
 | (n,j)::r,h=>by
  rw[List.lookup_cons]at h
  cases e:x==n with
  | true=>rw[e]at h;cases h;rw[eq_of_beq e];simp
  | false=>rw[e]at h;exact List.mem_cons_of_mem _ (mem_of_lookup h)
noncomputable def compCx (X:Cx)(N:List Str)(scope:Scope)(cl:List (Str×Addr))(C:Addr)(fp:List Addr)(s:Shared)(H:Hp):Cx :=
 { X with N:=N,s₀:=s,H₀:=H,env:=compEnvC scope cl C X.env,outer:=X.stack,stack:=X.stack,ex:=fp,fn:=fun _=>false,pn:=[],xe:=fun _ _=>False }
structure CompScope (scope:Scope):Prop where
 kind:scope.kind=.function
 cell:∀y∈scope.names,y.2≠.cell
 names:∀y∈scope.names,y.2=.local->scope.names.lookup y.1=some .local
noncomputable def Capt (X:Cx)(scope:Scope):List (Option Nat)->List Str->Prop
 | [],[]=>True
 | none::r,_::xs=>Capt X scope r xs
 | some j::r,x::xs=>(X.N[j]? = some x/\(X.env.kindOf x=some .cell\/X.env.kindOf x=some .free)/\scope.names.lookup x=some .free)/\Capt X scope r xs
 | _,_=>False
noncomputable def captSt (capt:List (Option Nat))(σ:St):St:=capt.map fun o=>o.bind fun j=>(σ[j]?).join
theorem Capt.len {X:Cx}{scope:Scope}:∀{capt:List (Option Nat)} {N:List Str},Capt X scope capt N->capt.length=N.length
 | [],[],_=>rfl
 | none::r,_::xs,h=>by simp[Capt.len (show Capt X scope r xs from h)]
 | some j::r,x::xs,h=>by simp[Capt.len h.2]
 | [],_::_,h=>h.elim
 | none::_,[],h=>h.elim
 | some _::_,[],h=>h.elim
theorem Capt.at_ {X:Cx}{scope:Scope}:∀{capt:List (Option Nat)} {N:List Str} {i j:Nat} {x:Str},Capt X scope capt N->capt[i]? = some (some j)->N[i]? = some x ->
  X.N[j]? = some x/\(X.env.kindOf x=some .cell\/X.env.kindOf x=some .free)/\scope.names.lookup x=some .free
 | [],[],_,_,_,_,e,_=>by simp at e
 | none::r,y::xs,0,_,_,_,e,_=>by simp at e
 | none::r,y::xs,i+1,_,_,h,e,e2=>Capt.at_ (i:=i) (show Capt X scope r xs from h) (by simpa using e) (by simpa using e2)
 | some k::r,y::xs,0,_,_,h,e,e2=>by
  simp at e e2;subst e e2;exact h.1
 | some k::r,y::xs,i+1,_,_,h,e,e2=>Capt.at_ (i:=i) h.2 (by simpa using e) (by simpa using e2)
 | [],_::_,_,_,_,h,_,_=>h.elim
 | none::_,[],_,_,_,h,_,_=>h.elim
 | some _::_,[],_,_,_,h,_,_=>h.elim
section
variable {X:Cx}{pins:List (Addr×Obj)}{σ:St}{H:Hp}{s:Shared}{N:List Str}{scope:Scope}{cl:List (Str×Addr)}{C:Addr}{fp:List Addr}{capt:List (Option Nat)}
theorem comp_ok (I:Inv X pins σ H s)(S:CompScope scope)(hcl:∀x c,cl.lookup x=some c->X.env.cells.lookup x=some c)(hall:∀x,(x,NameKind.free)∈scope.names->∃c,cl.lookup x=some c)
  (hC:s.heap.objs.size<=C) (hf:∀b∈fp,FpOk X pins H b) (hb:∀b∈fp,b<s.heap.objs.size):(compCx X N scope cl C fp s H).Ok where
 mod:=I.ok.mod
 kind:=S.kind
 glob:=I.ok.glob
 blt:=I.ok.blt
 above:=hC
 inj:=fun x y c h1 h2=>I.ok.inj x y c (hcl x c h1) (hcl y c h2)
 has:=fun x hx=>by
  have q:scope.names.lookup x=some .free:=by
   rcases hx with hx | hx
   ·rcases zfn hx with e | ⟨e,_⟩
    ·exact absurd rfl (S.cell _ (mem_of_lookup e))
    ·exact e
   ·rcases zfn hx with e | ⟨e,_⟩
    ·exact e
    ·exact e
  exact hall x (mem_of_lookup q)
 cab:=fun x c h=>by cases h
 hd:=I.ok.hd
 frames:=I.ok.frames
 stk:=.inl rfl
 exf:=fun b hb'=>⟨Nat.ne_of_lt (Nat.lt_of_lt_of_le (hb b hb') hC),fun x c h=>(hf b hb').2.2.2.2.1 x c (hcl x c h)⟩
 bs:=I.bs
 bsz:=Nat.le_trans I.ok.bsz I.sz
 noex:=fun b o e hb'=>by
  rcases (hf b hb').2.2.2.1 with z | z
  ·exact I.ok.noex b o e z
  ·exact absurd (Heap.lt_size e) (Nat.not_lt.mpr (Nat.le_trans I.ok.bsz z))
 exfs:=fun b hb' z=>by
  rcases List.mem_cons.mp (I.stkSub b z) with e | e
  ·exact (hf b hb').2.1 e
  ·exact (hf b hb').2.2.1 e
 funs:=I.stack
 frf:=I.stkFree
theorem comp_inv {h':Heap}{t':Nat}{m:Str->Option Value}(I:Inv X pins σ H s)(S:CompScope scope)(hcl:∀x c,cl.lookup x=some c->X.env.cells.lookup x=some c)(hall:∀x,(x,NameKind.free)∈scope.names->∃c,cl.lookup x=some c)
  (hC:s.heap.objs.size<=C) (hf:∀b∈fp,FpOk X pins H b) (hb:∀b∈fp,b<s.heap.objs.size) (hcap:Capt X scope capt N) (hn:h'.Ns C m) (hk:∀b o,s.heap.get? b=some o->h'.get? b=some o) :
  Inv (compCx X N scope cl C fp s H) [] (captSt capt σ) H { s with heap:=h',toks:=t' } where
 ok:=comp_ok I S hcl hall hC hf hb
 os:=rfl
 bare:=I.bare
 base:=Un.kept hk
 loc:=by
  refine⟨m,hn,fun i x v hN hv hvis=>?_⟩
  have hN':N[i]? = some x:=hN
  unfold captSt at hv
  rw[List.getElem?_map]at hv
  cases e:capt[i]? with
  | none=>rw[e]at hv;cases hv
  | some o =>
   rw[e]at hv
   cases o with
   | none=>cases hv
   | some j =>
    have hv':(σ[j]?).join=some v:=by simpa using hv
    have hv2:σ[j]? = some (some v):=by
     cases q:σ[j]? with
     | none=>rw[q]at hv';cases hv'
     | some z=>rw[q]at hv';cases hv';rfl
    obtain⟨h1,h2,h3⟩:=hcap.at_ e hN'
    obtain⟨m0,hm0,hl⟩:=I.loc
    have hvx:Vis X.env.scope x:=by
     rcases h2 with h2 | h2
     ·exact .inr (.inl h2)
     ·exact .inr (.inr h2)
    obtain⟨u,r,lk⟩:=hl j x v h1 hv2 hvx
    refine⟨u,r,?_⟩
    rcases lk with⟨k1,_⟩ | ⟨_,c,k2,k3⟩
    ·rcases h2 with h2 | h2<;>(rw[h2]at k1;cases k1)
    ·obtain⟨c',hc'⟩:=hall x (mem_of_lookup h3)
     have:=hcl x c' hc'
     rw[k2]at this;cases this
     refine .inr ⟨ze9 h3,c,hc',?_⟩
     obtain⟨o,e1,e2⟩:=k3
     exact⟨o,hk c o e1,e2⟩
 cell:=fun x c h=>by
  obtain⟨v,o,e1,e2⟩:=I.cell x c (hcl x c h)
  exact⟨v,o,hk c o e1,e2⟩
 free:=I.hok.fresh hC
 freeC:=fun x c h=>I.freeC x c (hcl x c h)
 pin:=fun p hp=>by simp[compCx]at hp
 hok:=I.hok.kept hk
 len:=by show (captSt capt σ).length=N.length;unfold captSt;rw[List.length_map];exact hcap.len
end
end L2
namespace L2
open PySem PySem.Spec PyProof.Rows
noncomputable abbrev testsOf (ifs:List Expr)(env:Env):Sem Bool:=forIn ifs true fun c r=>if r=true then do let ok <-isTrue c env (eval c env);pure (ForInStep.yield ok) else pure (ForInStep.yield r)
theorem zjn {prog:Program}{w:World}{A:Around}{R:Result->Shared->Prop}{s:Shared}{elt target iter:Expr}{ifs:List Expr}{scope:Scope}{pos:Pos}{it acc:Value}{env:Env}(I:Nat->Shared->Prop)
  (turn:∀n s,I n s->wpAny (model prog w) A (pyNext it) (fun r s₁=>match r with
   | none=>R (.ok .next) s₁
   | some v=>wpAny (model prog w) A (letOwnedTupleGo target it v) (fun _ s₁'=>wpAny (model prog w) A (assign target env v) (fun _ s₂ =>
     wpAny (model prog w) A (testsOf ifs env) (fun ok s₃ =>
      if ok=true then wpAny (model prog w) A (eval elt env) (fun x s₄ =>
       wpAny (model prog w) A (call (.builtin "list.append") [acc,x]) (fun _ s₅=>∃m,m<n/\I m s₅) (fun _ _=>False) s₄) (fun _ _=>False) s₃
      else ∃m,m<n/\I m s₃) (fun _ _=>False) s₂) (fun _ _=>False) s₁') (fun _ _=>False) s₁) (fun _ _=>False) s)
  (n:Nat) (h:I n s) :
  codeAny (model prog w) A (.compLoop (.ListComp elt [⟨target,iter,ifs,0⟩] scope pos) 0 it acc env) R s:=by
 refine codeAny_loop rfl I (fun n s hI=>?_) n h
 show wpAny _ A ((compTurn (.ListComp elt [⟨target,iter,ifs,0⟩] scope pos) 0 it acc env).onRaise (fun x=>do noteFrame x env;theTreesLotGoes x)) _ _ s
 refine wpAny_noted ?_
 rw[compTurn_list]
 refine wpAny_bind (wpAny_standAt (wpAny_bind (wpAny_mono (turn n s hI) (fun r s₁ h₁=>?_) fun _ _ h'=>h'.elim)))
 cases r with
 | none=>exact wpAny_pure h₁
 | some v =>
  refine wpAny_bind (wpAny_mono h₁ (fun _ s₁' h₁'=>?_) fun _ _ h'=>h'.elim)
  refine wpAny_bind (wpAny_mono h₁' (fun _ s₂ h₂=>wpAny_bind (wpAny_mono h₂ (fun ok s₃ h₃=>?_) fun _ _ h'=>h'.elim)) fun _ _ h'=>h'.elim)
  cases ok with
  | false=>exact wpAny_pure ⟨rfl,h₃⟩
  | true =>
   exact wpAny_bind (wpAny_bind (wpAny_mono h₃ (fun x s₄ h₄=>wpAny_bind (wpAny_mono h₄ (fun _ s₅ h₅=>wpAny_pure (wpAny_pure ⟨rfl,h₅⟩)) fun _ _ h'=>h'.elim)) fun _ _ h'=>h'.elim))
noncomputable def PTs (X:Cx)(ifs:List Expr)(t:TT):Prop :=
 ∀(pins:List (Addr×Obj)) (s:Shared) (σ:St) (H:Hp) (Q:Bool->Hp->Prop),Inv X pins σ H s->t σ H Q->wpAny (model X.prog X.w) X.A (testsOf ifs X.env) (TP X pins σ Q) X.xe s
theorem pts_nil {X:Cx}:PTs X [] (fun σ H Q=>Q true H):=fun pins s σ H Q I h=>wpAny_tests_nil ⟨H,I,h⟩
theorem pts_one {X:Cx}{c:Expr}{t:TT}(h:PT X c t):PTs X [c] t:=fun pins s σ H Q I q=>wpAny_tests_one (h pins s σ H Q I q)
noncomputable def tComp (capt:List (Option Nat))(wi:TI)(g:TG)(tt:TT)(te:TE):TE:=fun σ H Q=>wi σ H fun J H1=>∀D,H1 D=none->∃W:Nat->Nat->St->Hp->Prop,(∃m,W 0 m (captSt capt σ) (upd H1 D (.lst []))) /\
 ∀i m σ' H',W i m σ' H'->(J.stop i H'/\Q (.ref D) H')\/(J.go i H'/\∃N:St->Hp->Prop,(∀σ2 H2,N σ2 H2->∃m',m'<m/\W (i+1) m' σ2 H2) /\
  ∀x H2,J.yld i H' x H2->g x σ' H2 fun σ3 H3=>tt σ3 H3 fun ok H4=>if ok=true then te σ3 H4 fun y H5=>∃xs,H5 D=some (.lst xs)/\xs.length<sizeLine/\N σ3 (upd H5 D (.lst (xs++[y]))) else N σ3 H4)
section
variable {X:Cx}{elt tg iter:Expr}{ifs:List Expr}{scope:Scope}{pos:Pos}{N:List Str}{capt:List (Option Nat)}{wi:TI}{g:TG}{tt:TT}{te:TE}
theorem zla {pins:List (Addr×Obj)}{σ:St}{H:Hp}{s:Shared}{it:Addr}{fp:List Addr}{tn:Nat->Heap->Prop}{J:It}{cl:List (Str×Addr)}{Q:VK}{E:Value->Shared->Prop}{RR:Value->Addr->Result->Shared->Prop}
  (I:Inv X pins σ H s) (T:Turn X.prog X.w X.K tg J fp it tn) (st:tn 0 s.heap) (hf:∀b∈fp,FpOk X pins H b)
  (S:CompScope scope) (hcl:∀x c,cl.lookup x=some c->X.env.cells.lookup x=some c) (hall:∀x,(x,NameKind.free)∈scope.names->∃c,cl.lookup x=some c) (hcap:Capt X scope capt N) (hc:X.calm=true)
  (hg:∀cl C fp s H,PG (compCx X N scope cl C fp s H) tg g) (ht:∀cl C fp s H,PTs (compCx X N scope cl C fp s H) ifs tt) (he:∀cl C fp s H,PE (compCx X N scope cl C fp s H) elt te)
  (h:∀D,H D=none->∃W:Nat->Nat->St->Hp->Prop,(∃m,W 0 m (captSt capt σ) (upd H D (.lst []))) /\
   ∀i m σ' H',W i m σ' H'->(J.stop i H'/\Q (.ref D) H')\/(J.go i H'/\∃N:St->Hp->Prop,(∀σ2 H2,N σ2 H2->∃m',m'<m/\W (i+1) m' σ2 H2) /\
    ∀x H2,J.yld i H' x H2->g x σ' H2 fun σ3 H3=>tt σ3 H3 fun ok H4=>if ok=true then te σ3 H4 fun y H5=>∃xs,H5 D=some (.lst xs)/\xs.length<sizeLine/\N σ3 (upd H5 D (.lst (xs++[y]))) else N σ3 H4))
  (hRR:∀(D C:Addr) (H':Hp) (s':Shared) (m:Str->Option Value),s'.heap.Ns C m->Inv X pins σ H' s'->FpOk X pins H' C->Q (.ref D) H'->RR (.ref D) C (.ok .next) s') :
  wpAny (model X.prog X.w) X.A (newList []) (fun acc s₃=>wpAny (model X.prog X.w) X.A (newFunctionEnv scope X.env.globals cl [] X.env.qual none .none (some X.env)) (fun cenv s₄ =>
   codeAny (model X.prog X.w) X.A (.compStart (.ListComp elt [⟨tg,iter,ifs,0⟩] scope pos) 0 (.ref it) acc { cenv with scope:=relabel scope X.env }) (RR acc cenv.locals) s₄) E s₃) E s:=by
 have hD:H s.heap.objs.size=none:=I.hok.fresh (Nat.le_refl _)
 have I3:Inv X pins σ (upd H s.heap.objs.size (.lst [])) { s with heap:=s.heap.push { cls:=.type "list",dict:=none,data:=.seq ([]:List Value).toArray } } :=
  I.laid (t':=s.toks) (fun b o q=>Heap.get?_push_of_some _ q) (Nat.le_refl _) ⟨by show 0<=sizeLine;decide,[],0,.nil,Heap.get?_push_size _ rfl⟩
 obtain⟨W,⟨m0,w0⟩,turn⟩:=h _ hD
 refine wpAny_newObj_type (wpAny_newFunctionEnv S.cell (by intro y hy;simp at hy) (fun h₁ hns₁ hsb₁=>?_) S.kind)
 dsimp only at hns₁ hsb₁ ⊢
 generalize hH2:s.heap.push { cls:=.type "list",dict:=none,data:=.seq ([]:List Value).toArray }=Hh at hns₁ hsb₁ I3 ⊢
 have fplt0:∀b∈fp,b<s.heap.objs.size:=fun b hb=>by
  obtain⟨o,e,_⟩:=T.obj 0 s.heap st b hb
  exact Heap.lt_size e
 have szH:Hh.objs.size=s.heap.objs.size+1:=by rw[<-hH2,Heap.size_push]
 have fplt:∀b∈fp,b<Hh.objs.size:=fun b hb=>by rw[szH];exact Nat.lt_succ_of_lt (fplt0 b hb)
 have hf3:∀b∈fp,FpOk X pins (upd H s.heap.objs.size (.lst [])) b:=fun b hb=>by
  obtain⟨f0,fr⟩:=hf b hb
  exact⟨by rw[zcx (Nat.ne_of_lt (fplt0 b hb))];exact f0,fr⟩
 have hk1:∀b o,Hh.get? b=some o->h₁.get? b=some o:=fun b o e=>hsb₁.extBut b o (Nat.ne_of_lt (Heap.lt_size e)) (Heap.get?_push_of_some _ e)
 have st1:tn 0 h₁:=T.keep 0 _ _ st fun b hb o e=>hk1 b o (by rw[<-hH2];exact Heap.get?_push_of_some _ e)
 generalize hX:compCx X N scope cl Hh.objs.size fp { s with heap:=Hh } (upd H s.heap.objs.size (.lst []))=X'
 have I4:Inv X' [] (captSt capt σ) (upd H s.heap.objs.size (.lst [])) { s with heap:=h₁,toks:=s.toks+([]:List (Str×Value)).length }:=by
  rw[<-hX]
  exact comp_inv (capt:=capt) I3 S hcl hall (Nat.le_refl _) hf3 fplt hcap hns₁ hk1
 have eP:X'.prog=X.prog:=by rw[<-hX];rfl
 have ew:X'.w=X.w:=by rw[<-hX];rfl
 have eK:X'.K=X.K:=by rw[<-hX];rfl
 have eA:X'.A=X.A:=by rw[<-hX];rfl
 have eC:X'.calm=true:=by rw[<-hX];exact hc
 have eE:X'.env=compEnvC scope cl Hh.objs.size X.env:=by rw[<-hX];rfl
 have eX:X'.xe=fun _ _=>False:=by rw[<-hX];rfl
 have ePn:X'.pn=[]:=by rw[<-hX];rfl
 have hg':PG X' tg g:=by rw[<-hX];exact hg _ _ _ _ _
 have ht':PTs X' ifs tt:=by rw[<-hX];exact ht _ _ _ _ _
 have he':PE X' elt te:=by rw[<-hX];exact he _ _ _ _ _
 have stat:∀{H':Hp},(∀b∈fp,H' b=none)->∀b∈fp,FpOk X' [] H' b:=fun {H'} hn b hb=>by
  rw[<-hX]
  refine⟨hn b hb,Nat.ne_of_lt (fplt b hb),fun z=>?_,.inl hb,fun x c q=>(hf b hb).2.2.2.2.1 x c (hcl x c q),fun p hp=>by simp[compCx]at hp⟩
  rcases List.mem_cons.mp (I3.stkSub b z) with e | e
  ·exact (hf b hb).2.1 e
  ·exact (hf b hb).2.2.1 e
 have back:∀{σ':St} {H':Hp} {s':Shared},Inv X' [] σ' H' s'->∀h'',Heap.SameBut Hh.objs.size s'.heap h''->Inv X pins σ H' { s' with heap:=h'' }:=fun {σ' H' s'} I' h'' sb=>by
  have u:=I'.base
  rw[<-hX]at u
  have neC:∀b o,Hh.get? b=some o->b≠Hh.objs.size:=fun b o e=>Nat.ne_of_lt (Heap.lt_size e)
  have nC:H' Hh.objs.size=none:=by have:=I'.free;rw[eE]at this;exact this
  refine I3.call' (s':={ s' with heap:=h'' }) (ch:=fp) (by have:=I'.os;rw[<-hX]at this;exact this) ?_ ?_ I'.bare (fun b hb=>⟨(hf3 b hb).2.2.2.1,(hf3 b hb).2.1,(hf3 b hb).2.2.2.2.1,(hf3 b hb).2.2.2.2.2⟩)
  ·exact⟨fun b o e n hb hx=>sb.extBut b _ (neC b o e) (u.keep b o e n hb hx),fun b o e n hb hx=>let ⟨sl,q⟩:=u.slot b o e n hb hx;⟨sl,sb.extBut b _ (neC b o e) q⟩,u.free,
    fun b o e hx=>let ⟨o',q⟩:=u.there b o e hx;⟨o',sb.extBut b _ (neC b o e) q⟩,u.tups,u.frzs,u.tbls⟩
  ·have hk:=I'.hok
   rw[eP,ew]at hk
   intro b ob e
   have nb:∀c v,H' c=some v->c≠Hh.objs.size:=fun c v q=>zb3 q nC
   refine (hk b ob e).stay (fun c v hc q=>sb.extBut c v ?_ q) (fun _ q=>q) fun _ _ q=>q
   rcases hc with z | z
   ·rw[z];exact nb b _ e
   ·exact nb c _ z
 have loop:∀s₃:Shared,s₃={ s with heap:=h₁,toks:=s.toks+([]:List (Str×Value)).length } ->
   codeAny (model X.prog X.w) X.A (.compLoop (.ListComp elt [⟨tg,iter,ifs,0⟩] scope pos) 0 (.ref it) (.ref s.heap.objs.size) (compEnvC scope cl Hh.objs.size X.env)) (RR (.ref s.heap.objs.size) Hh.objs.size) s₃:=by
  rintro s₃ rfl
  refine zjn (fun n s'=>∃i σ' H',Inv X' [] σ' H' s'/\tn i s'.heap/\(∀b∈fp,H' b=none)/\W i n σ' H') ?_ m0 ⟨0,_,_,I4,st1,fun b hb=>(hf3 b hb).1,w0⟩
  rintro n s3 ⟨i,σ3,H3,I5,st3,fr3,w3⟩
  rw[<-eP,<-ew,<-eA,<-eE]
  rcases turn i n σ3 H3 w3 with⟨stop,qn⟩ | ⟨go,Nn,hN,step⟩
  ·have d:=T.done X' eP ew eK eC i [] s3 σ3 H3 (fun _ _=>False) I5 (stat fr3) st3 stop
   rw[<-eP,<-ew]at d
   refine thn d fun r s4 zz=>?_
   obtain⟨hr,I6⟩:=zz
   subst hr
   obtain⟨mm,hns,_⟩:=I6.loc
   rw[eE]at hns
   have nC:H3 Hh.objs.size=none:=by have:=I6.free;rw[eE]at this;exact this
   exact hRR _ _ H3 s4 mm hns (back I6 s4.heap (.refl ..)) (I3.fpOk (Nat.le_refl _) nC) qn
  ·have d:=T.item X' eP ew eK eC i [] s3 σ3 H3 (fun _ _=>False) I5 (stat fr3) st3 go
   rw[<-eP,<-ew]at d
   refine thn d fun r s4 zz=>?_
   obtain⟨u,hr,h4⟩:=zz
   subst hr
   refine thn h4 fun _ s5 zz=>?_
   obtain⟨x,H5,I6,r5,y5,st5,fr5⟩:=zz
   have I6':=I6.pinned (stat fr5) (T.obj _ _ st5)
   have dg:=hg' _ s5 σ3 H5 x u _ I6' r5 (step x H5 y5)
   rw[eX]at dg
   refine thn dg fun _ s6 zz=>?_
   obtain⟨σ6,H6,I7,q6⟩:=zz
   have dt:=ht' _ s6 σ6 H6 _ I7 q6
   rw[eX]at dt
   refine thn dt fun ok s7 zz=>?_
   obtain⟨H7,I8,q7⟩:=zz
   have again:∀{σ9:St} {H9:Hp} {s9:Shared},Inv X' ([]++pinsAt fp s5.heap) σ9 H9 s9->Nn σ9 H9->∃m,m<n/\∃i σ' H',Inv X' [] σ' H' s9/\tn i s9.heap/\(∀b∈fp,H' b=none)/\W i m σ' H':=fun {σ9 H9 s9} I9 n9=>by
    obtain⟨m',hm,w9⟩:=hN σ9 H9 n9
    refine⟨m',hm,i+1,σ9,H9,I9.unpinned,T.keep _ _ _ st5 fun b hb o e=>(I9.pin (b,o) (List.mem_append_right _ (List.mem_append_right _ (zfp hb e)))).1,fun b hb=>?_,w9⟩
    obtain⟨o,e,d⟩:=T.obj _ _ st5 b hb
    exact (I9.pin (b,o) (List.mem_append_right _ (List.mem_append_right _ (zfp hb e)))).2.1
   cases ok with
   | false=>exact again I8 q7
   | true =>
    have de:=he' _ s7 σ6 H7 _ I8 q7
    rw[eX]at de
    refine thn de fun y s8 zz=>?_
    obtain⟨v,H8,I9,r8,q8⟩:=zz
    obtain⟨xs,hx,hz,nn⟩:=q8
    have da:=zj9 (X:=X') _ s8 σ6 H8 (.ref s.heap.objs.size) [v] (.ref s.heap.objs.size) [y] (fun _ H9=>Nn σ6 H9) I9 rfl (.cons r8 .nil) ⟨_,xs,v,rfl,rfl,hx,hz,nn⟩
    rw[eX]at da
    refine thn da fun _ s9 zz=>?_
    obtain⟨_,H9,I10,_,n9⟩:=zz
    exact again I10 n9
 exact codeAny_compStart_list (loop _ rfl) (T.self _ 0 _ _ _ st1 (loop _ rfl))
theorem zlf {pins:List (Addr×Obj)}{σ:St}{H:Hp}{s:Shared}(I:Inv X pins σ H s)(hfr:∀x∈scope.names,x.2=.free->X.env.kindOf x.1=some .cell\/X.env.kindOf x.1=some .free) :
  ∃cl,closureFor scope X.env=pure cl/\(∀x c,cl.lookup x=some c->X.env.cells.lookup x=some c)/\∀x,(x,NameKind.free)∈scope.names->∃c,cl.lookup x=some c :=
 zii fun x hx hk=>I.ok.has x.1 (hfr x hx hk)
theorem Inv.blockGone {pins:List (Addr×Obj)}{σ:St}{H:Hp}{s:Shared}{C:Addr}{h':Heap}(I:Inv X pins σ H s)(f:FpOk X pins H C)(sb:Heap.SameBut C s.heap h'):Inv X pins σ H { s with heap:=h' } :=
 I.turned (t':=s.toks) (fun b o hb e=>sb.extBut b o hb e) f.1 f.2.1 f.2.2.2.1 f.2.2.2.2.1 f.2.2.2.2.2
theorem pe_comp (hi:PI X tg iter wi)(S:CompScope scope)(hfr:∀x∈scope.names,x.2=.free->X.env.kindOf x.1=some .cell\/X.env.kindOf x.1=some .free)(hcap:Capt X scope capt N)(hc:X.calm=true)
  (hg:∀cl C fp s H,PG (compCx X N scope cl C fp s H) tg g) (ht:∀cl C fp s H,PTs (compCx X N scope cl C fp s H) ifs tt) (he:∀cl C fp s H,PE (compCx X N scope cl C fp s H) elt te)
  (hs:∀x,foldedSetIterable iter X.env x=pure x:=by intro _;rfl):PE X (.ListComp elt [⟨tg,iter,ifs,0⟩] scope pos) (tComp capt wi g tt te):=by
 intro pins s σ H Q I h
 obtain⟨cl,hcl,h1,h2⟩:=zlf I hfr
 rw[eval_ListComp]
 refine wpAny_comprehension_free (use:=none) rfl hs hcl S.kind S.names (thn (hi pins s σ H _ I h) fun v s1 q1=>thn q1 fun itv s2 q2=>?_)
 obtain⟨it,fp,tn,J,H2,e,I2,T,st2,f2,q⟩:=q2
 subst e
 refine zla (RR:=fun acc C=>compPost (model X.prog X.w) X.A X.xe none (EP X pins σ Q) acc C) I2 T st2 f2 S h1 h2 hcap hc hg ht he q ?_
 intro D C H' s' m hn I' f' q'
 exact⟨m,hn,fun h'' sb=>⟨.ref D,H',I'.blockGone f' sb,rfl,q'⟩⟩
end
end L2
namespace M
open PySem PySem.Spec L2
inductive D where
 | non | bl (b:Bool) | int (i:Int) | str (cs:List Nat) | tup (xs:List D) | loc (n:Nat)
instance:Inhabited D:=⟨.non⟩
structure LamS where
 qual:Str
 params:Arguments
 body:Expr
 scope:Scope
 caps:List Str
inductive MO where
 | lst (xs:List D) | frz (xs:List D) | dic (kvs:List (List Key×D)) | dkc (kvs:List (Key×D))
 
 | dkf (kvs:List (Key×D))
 
 | dtf (kvs:List (List Key×D))
 
 | ins (c:Str) (fs:List (Str×D))
 
 | tab (x:Str)
 
 | clo (j:Nat) (l:LamS) (ds:List D)
 
 | exc (c:String) (d:D)
 
 | hid
noncomputable abbrev Stor:=List MO
noncomputable abbrev MEnv:=List (Option D)
structure Xc where
 cls:String
 fld:D
inductive R (α:Type) where
 | ok (a:α) (st:Stor) | err (x:Xc) (st:Stor) | bad
theorem za5 {α:Sort u}{a b:α}(h:a=b):a=b:=h
noncomputable def R.bind {α β:Type}(r:R α)(f:α->Stor->R β):R β:=match r with
 | .ok a st=>f a st
 | .err x st=>.err x st
 | .bad=>.bad
@[simp] theorem R.bind_ok {α β:Type} (a:α) (st:Stor) (f:α->Stor->R β):(R.ok a st).bind f=f a st:=za5 rfl
noncomputable abbrev strOf (cs:List Nat):Str:=⟨cs.toArray⟩
instance sqTOf {K:PySem.W.Frag} {H:Hp} {a:Addr} {xs:List V}:CoeTail (H a=some (.tup xs)) (SqT K H a xs):=⟨SqT.of⟩
noncomputable def noKey:List D->Bool
 | []=>false
 | .int _::r=>noKey r
 | .str _::r=>noKey r
 | _::_=>true
noncomputable def TupA (K:PySem.W.Frag)(H:Hp)(a:Addr)(xs:List V)(ds:List D):Prop :=
 H a=some (.tup xs)\/(noKey ds=true/\∃(o:Obj) (its:Array Value) (n:Nat),K.lookup a=some o/\o.cls=.type "tuple"/\o.data=.seq its n/\its.size<=sizeLine/\Vals xs its.toList)
theorem TupA.sqT {K:PySem.W.Frag}{H:Hp}{a:Addr}{xs:List V}{ds:List D}(h:TupA K H a xs ds):SqT K H a xs:=by
 rcases h with h | ⟨_,h⟩
 ·exact SqT.of h
 ·exact .inr h
mutual
noncomputable def RepV (K:PySem.W.Frag)(μ:List Addr)(H:Hp):D->V->Prop
 | .non,v=>v=.non
 | .bl b,v=>v=.bl b
 | .int i,v=>v=.int i
 | .str cs,v=>v=.str (strOf cs)
 | .tup ds,v=>∃a xs,v=.ref a/\TupA K H a xs ds/\RepVs K μ H ds xs
 | .loc n,v=>∃a,μ[n]? = some a/\v=.ref a
noncomputable def RepVs (K:PySem.W.Frag)(μ:List Addr)(H:Hp):List D->List V->Prop
 | [],vs=>vs=[]
 | d::ds,vs=>∃v r,vs=v::r/\RepV K μ H d v/\RepVs K μ H ds r
end
structure Ext (H H':Hp):Prop where
 tup:∀b xs,H b=some (.tup xs)->H' b=some (.tup xs)
 frz:∀b o u,H b=some (.frz o u)->H' b=some (.frz o u)
theorem Ext.refl (H:Hp):Ext H H:=⟨fun _ _ h=>h,fun _ _ _ h=>h⟩
theorem Ext.trans {H H1 H2:Hp}(a:Ext H H1)(b:Ext H1 H2):Ext H H2:=⟨fun c xs h=>b.tup c xs (a.tup c xs h),fun c o u h=>b.frz c o u (a.frz c o u h)⟩
theorem Ext.sqT {K:PySem.W.Frag}{H H':Hp}{a:Addr}{xs:List V}(e:Ext H H')(h:SqT K H a xs):SqT K H' a xs:=by
 rcases h with (h | ⟨o,h⟩) | h
 ·exact .inl (.inl (e.tup _ _ h))
 ·exact .inl (.inr ⟨o,e.frz _ _ _ h⟩)
 ·exact .inr h
theorem Ext.tupA {K:PySem.W.Frag}{H H':Hp}{a:Addr}{xs:List V}{ds:List D}(e:Ext H H')(h:TupA K H a xs ds):TupA K H' a xs ds:=by
 rcases h with h | h
 ·exact .inl (e.tup _ _ h)
 ·exact .inr h
theorem Ext.new {H:Hp}{p:Addr}{o:HO}(h:H p=none):Ext H (upd H p o) :=
 ⟨fun b xs q=>by rw[zcx (zb3 q h)];exact q,fun b o' u q=>by rw[zcx (zb3 q h)];exact q⟩
structure Grow (μ:List Addr)(H:Hp)(μ':List Addr)(H':Hp):Prop where
 pre:∃ν,μ'=μ++ν
 ext:Ext H H'
theorem Grow.refl (μ:List Addr)(H:Hp):Grow μ H μ H:=⟨⟨[],by simp⟩,.refl H⟩
theorem Grow.trans {μ μ1 μ2:List Addr}{H H1 H2:Hp}(a:Grow μ H μ1 H1)(b:Grow μ1 H1 μ2 H2):Grow μ H μ2 H2:=by
 obtain⟨ν1,rfl⟩:=a.pre
 obtain⟨ν2,rfl⟩:=b.pre
 exact⟨⟨ν1++ν2,by simp⟩,a.ext.trans b.ext⟩
theorem Grow.get {μ μ':List Addr}{H H':Hp}(g:Grow μ H μ' H'){n:Nat}{a:Addr}(h:μ[n]? = some a):μ'[n]? = some a:=by
 obtain⟨ν,rfl⟩:=g.pre
 rw[List.getElem?_append_left (List.getElem?_eq_some_iff.mp h).1];exact h
mutual
theorem RepV.mono {K:PySem.W.Frag}{μ μ':List Addr}{H H':Hp}(g:Grow μ H μ' H'):∀(d:D) {v:V},RepV K μ H d v->RepV K μ' H' d v
 | .non,_,h=>by simpa[RepV] using h
 | .bl _,_,h=>by simpa[RepV] using h
 | .int _,_,h=>by simpa[RepV] using h
 | .str _,_,h=>by simpa[RepV] using h
 | .tup ds,_,h=>by
  rw[RepV]at h ⊢
  obtain⟨a,xs,rfl,h1,h2⟩:=h
  exact⟨a,xs,rfl,g.ext.tupA h1,RepVs.mono g ds h2⟩
 | .loc n,_,h=>by
  rw[RepV]at h ⊢
  obtain⟨a,h1,rfl⟩:=h
  exact⟨a,g.get h1,rfl⟩
theorem RepVs.mono {K:PySem.W.Frag}{μ μ':List Addr}{H H':Hp}(g:Grow μ H μ' H'):∀(ds:List D) {vs:List V},RepVs K μ H ds vs->RepVs K μ' H' ds vs
 | [],_,h=>by simpa[RepVs] using h
 | d::ds,_,h=>by
  rw[RepVs]at h ⊢
  obtain⟨v,r,rfl,h1,h2⟩:=h
  exact⟨v,r,rfl,RepV.mono g d h1,RepVs.mono g ds h2⟩
end
section
variable {K:PySem.W.Frag}{μ:List Addr}{H:Hp}
theorem RepVs.length:∀{ds:List D} {vs:List V},RepVs K μ H ds vs->ds.length=vs.length
 | [],_,h=>by rw[RepVs]at h;subst h;rfl
 | d::ds,_,h=>by
  rw[RepVs]at h
  obtain⟨v,r,rfl,_,h2⟩:=h
  rw[List.length_cons,List.length_cons,RepVs.length h2]
theorem RepVs.get:∀{ds:List D} {vs:List V} {i:Nat} {d:D},RepVs K μ H ds vs->ds[i]? = some d->∃v,vs[i]? = some v/\RepV K μ H d v
 | [],_,_,_,_,e=>by simp at e
 | d::ds,_,0,_,h,e=>by
  rw[RepVs]at h
  obtain⟨v,r,rfl,h1,_⟩:=h
  simp at e;subst e
  exact⟨v,rfl,h1⟩
 | d::ds,_,i+1,x,h,e=>by
  rw[RepVs]at h
  obtain⟨v,r,rfl,_,h2⟩:=h
  obtain⟨u,h3,h4⟩:=RepVs.get (i:=i) h2 (by simpa using e)
  exact⟨u,by simpa using h3,h4⟩
theorem RepVs.append:∀{ds es:List D} {vs ws:List V},RepVs K μ H ds vs->RepVs K μ H es ws->RepVs K μ H (ds++es) (vs++ws)
 | [],_,_,_,h,k=>by rw[RepVs]at h;subst h;exact k
 | d::ds,es,_,ws,h,k=>by
  rw[RepVs]at h
  obtain⟨v,r,rfl,h1,h2⟩:=h
  show RepVs K μ H (d::(ds++es)) (v::(r++ws))
  rw[RepVs]
  exact⟨v,r++ws,rfl,h1,RepVs.append h2 k⟩
theorem RepVs.nil:RepVs K μ H [] []:=by rw[RepVs]
theorem RepVs.cons {d:D}{ds:List D}{v:V}{vs:List V}(h:RepV K μ H d v)(k:RepVs K μ H ds vs):RepVs K μ H (d::ds) (v::vs):=by rw[RepVs];exact⟨v,vs,rfl,h,k⟩
theorem RepVs.take:∀{ds:List D} {vs:List V} (n:Nat),RepVs K μ H ds vs->RepVs K μ H (ds.take n) (vs.take n)
 | _,_,0,_=>by simp[RepVs]
 | [],_,n+1,h=>by rw[RepVs]at h;subst h;simp[RepVs]
 | d::ds,_,n+1,h=>by
  rw[RepVs]at h
  obtain⟨v,r,rfl,h1,h2⟩:=h
  exact RepVs.cons h1 (RepVs.take n h2)
theorem RepVs.drop:∀{ds:List D} {vs:List V} (n:Nat),RepVs K μ H ds vs->RepVs K μ H (ds.drop n) (vs.drop n)
 | _,_,0,h=>h
 | [],_,n+1,h=>by rw[RepVs]at h;subst h;simp[RepVs]
 | d::ds,_,n+1,h=>by
  rw[RepVs]at h
  obtain⟨v,r,rfl,h1,h2⟩:=h
  exact RepVs.drop n h2
theorem RepVs.set {d:D}{v:V}(hd:RepV K μ H d v):∀{ds:List D} {vs:List V} (i:Nat),RepVs K μ H ds vs->RepVs K μ H (ds.set i d) (vs.set i v)
 | [],_,_,h=>by rw[RepVs]at h;subst h;simp[RepVs]
 | x::ds,_,0,h=>by
  rw[RepVs]at h
  obtain⟨w,r,rfl,h1,h2⟩:=h
  exact RepVs.cons hd h2
 | x::ds,_,i+1,h=>by
  rw[RepVs]at h
  obtain⟨w,r,rfl,h1,h2⟩:=h
  exact RepVs.cons h1 (RepVs.set hd i h2)
theorem RepV.int_iff {i:Int}{v:V}:RepV K μ H (.int i) v↔v=.int i:=by rw[RepV]
theorem RepV.bl_iff {b:Bool}{v:V}:RepV K μ H (.bl b) v↔v=.bl b:=by rw[RepV]
theorem RepV.non_iff {v:V}:RepV K μ H .non v↔v=.non:=by rw[RepV]
theorem RepV.str_iff {cs:List Nat}{v:V}:RepV K μ H (.str cs) v↔v=.str (strOf cs):=by rw[RepV]
theorem RepV.tup_iff {ds:List D}{v:V}:RepV K μ H (.tup ds) v ↔ ∃a xs,v=.ref a/\TupA K H a xs ds/\RepVs K μ H ds xs:=by rw[RepV]
theorem RepV.loc_iff {n:Nat}{v:V}:RepV K μ H (.loc n) v ↔ ∃a,μ[n]? = some a/\v=.ref a:=by rw[RepV]
end
noncomputable def RepKV {κ:Type}(K:PySem.W.Frag)(μ:List Addr)(H:Hp):List (κ×D)->List (κ×V)->Prop
 | [],vs=>vs=[]
 | (k,d)::ds,vs=>∃v r,vs=(k,v)::r/\RepV K μ H d v/\RepKV K μ H ds r
theorem RepKV.mono {κ:Type}{K:PySem.W.Frag}{μ μ':List Addr}{H H':Hp}(g:Grow μ H μ' H'):∀{ds:List (κ×D)} {vs:List (κ×V)},RepKV K μ H ds vs->RepKV K μ' H' ds vs
 | [],_,h=>h
 | (k,d)::ds,_,⟨v,r,e,h1,h2⟩=>⟨v,r,e,h1.mono g d,RepKV.mono g h2⟩
noncomputable def FrzL (K:PySem.W.Frag)(H:Hp)(a:Addr)(xs:List V):Prop :=
 (∃o,H a=some (.frz o (.lst xs)))\/∃(o:Obj) (its:Array Value) (n:Nat),K.lookup a=some o/\o.cls=.type "list"/\o.dict=none/\o.data=.seq its n/\its.size<=sizeLine/\Vals xs its.toList
theorem FrzL.sqL {K:PySem.W.Frag}{H:Hp}{a:Addr}{xs:List V}(h:FrzL K H a xs):SqL K H a xs:=by
 rcases h with h | h
 ·exact .inl (.inr h)
 ·exact .inr h
theorem FrzL.ext {K:PySem.W.Frag}{H H':Hp}{a:Addr}{xs:List V}(e:Ext H H')(h:FrzL K H a xs):FrzL K H' a xs:=by
 rcases h with⟨o,h⟩ | h
 ·exact .inl ⟨o,e.frz _ _ _ h⟩
 ·exact .inr h
noncomputable def MO.mut:MO->Bool
 | .frz _=>false
 | .clo _ _ _=>false
 | .hid=>false
 | .dkf _=>false
 | .dtf _=>false
 | .exc _ _=>false
 | _=>true
noncomputable def CodeF (H:Hp)(c:Addr)(q:Str):Prop:=∃oc vs t,H c=some (.frz oc (.own 0))/\oc.data=.fields vs/\vs[1]? = some (.str q t)
noncomputable def CellsF (H:Hp):List (Str×Addr)->List V->Prop
 | [],vs=>vs=[]
 | (_,c)::cl,vs=>∃v r o u,vs=v::r/\H c=some (.frz o (.own 0))/\o.data=.cell (some u)/\RelV v u/\CellsF H cl r
theorem CodeF.ext {H H':Hp}{c:Addr}{q:Str}(e:Ext H H')(h:CodeF H c q):CodeF H' c q :=
 let ⟨oc,vs,t,h1,h2⟩:=h;⟨oc,vs,t,e.frz _ _ _ h1,h2⟩
theorem CellsF.ext {H H':Hp}(e:Ext H H'):∀{cl:List (Str×Addr)} {vs:List V},CellsF H cl vs->CellsF H' cl vs
 | [],_,h=>h
 | (_,c)::cl,_,⟨v,r,o,u,h1,h2,h3,h4,h5⟩=>⟨v,r,o,u,h1,e.frz _ _ _ h2,h3,h4,CellsF.ext e h5⟩
noncomputable def lamQual (x:Str):Str:=x ++ ".<locals>." ++ "<lambda>"
noncomputable def RepO (K:PySem.W.Frag)(μ:List Addr)(H:Hp)(a:Addr):MO->Prop
 | .lst ds=>∃xs,H a=some (.lst xs)/\RepVs K μ H ds xs
 | .frz ds=>∃xs,FrzL K H a xs/\RepVs K μ H ds xs
 | .dic kvs=>∃ws,H a=some (.dT ws)/\RepKV K μ H kvs ws
 | .dkc kvs=>∃ws,H a=some (.dK ws)/\RepKV K μ H kvs ws
 | .dkf kvs=>∃ws o,H a=some (.frz o (.dK ws))/\RepKV K μ H kvs ws
 | .dtf kvs=>∃ws o,H a=some (.frz o (.dT ws))/\RepKV K μ H kvs ws
 | .ins c fs=>∃C dx ws,PySem.W.nsIn K mainGlobals c=some (some (.ref C))/\H a=some (.ins C dx ws)/\RepKV K μ H fs ws
 | .tab x=>(∃(fa:Addr) (o:Obj) (fd:FuncData) (c:Addr),PySem.W.nsIn K mainGlobals x=some (some (.ref fa))/\K.lookup fa=some o/\o.data=.func fd/\fd.code=.ref c/\PySem.W.codeHdIn K c a=true) /\
   ∃ps:Array Value,H a=some (.tbl ps)/\TriplesOk ps.toList/\∀pos cv,codeAmong pos ps.toList=some cv->∃c',cv=.ref c'/\CodeF H c' (lamQual x)
 | .clo _ l ds=>∃(cl:List (Str×Addr)) (pm:Value) (c':Addr) (ctv:Value) (vs:List V),H a=some (.frz (PySem.W.kla_obj "<lambda>" l.qual l.params l.body l.scope cl pm c' ctv) (.own 0))/\CodeF H c' l.qual /\
   cl.map (·.1)=l.caps/\(cl.map (·.2)).Nodup/\CellsF H cl vs/\RepVs K μ H ds vs
 | .exc c d=>∃oe C dx od v fs,H a=some (.frz oe (.own 0))/\oe.cls=.ref C/\oe.dict=some dx/\oe.data=.fields fs/\H dx=some (.frz od (.xd [("at",v)]))/\PySem.W.nsIn K mainGlobals (c:Str)=some (some (.ref C))/\RepV K μ H d v
 | .hid=>True
structure RepS (K:PySem.W.Frag)(μ:List Addr)(H:Hp)(st:Stor):Prop where
 len:μ.length=st.length
 at_:∀(n:Nat) (o:MO),st[n]? = some o->∃a,μ[n]? = some a/\RepO K μ H a o
 uniq:∀(i j:Nat) (a:Addr) (oi oj:MO),st[i]? = some oi->st[j]? = some oj->oi.mut=true->oj.mut=true->μ[i]? = some a->μ[j]? = some a->i=j
structure RepE (K:PySem.W.Frag)(μ:List Addr)(H:Hp)(env:MEnv)(σ:St):Prop where
 len:env.length=σ.length
 at_:∀(i:Nat) (d:D),env[i]? = some (some d)->∃v,σ[i]? = some (some v)/\RepV K μ H d v
theorem RepE.mono {K:PySem.W.Frag}{μ μ':List Addr}{H H':Hp}{env:MEnv}{σ:St}(g:Grow μ H μ' H')(h:RepE K μ H env σ):RepE K μ' H' env σ :=
 ⟨h.len,fun i d e=>let ⟨v,h1,h2⟩:=h.at_ i d e;⟨v,h1,h2.mono g d⟩⟩
theorem RepE.set {K:PySem.W.Frag}{μ:List Addr}{H:Hp}{env:MEnv}{σ:St}{i:Nat}{d:D}{v:V}(h:RepE K μ H env σ)(r:RepV K μ H d v):RepE K μ H (env.set i (some d)) (σ.set i (some v)):=by
 refine⟨by simp[h.len],fun j e hj=>?_⟩
 by_cases hij:i=j
 ·subst hij
  have hl:i<env.length:=by
   have:=(List.getElem?_eq_some_iff.mp hj).1;simpa using this
  rw[List.getElem?_set_self hl]at hj
  cases hj
  exact⟨v,by rw[List.getElem?_set_self (by rw[<-h.len];exact hl)],r⟩
 ·rw[List.getElem?_set_ne hij]at hj
  rw[List.getElem?_set_ne hij]
  exact h.at_ j e hj
theorem RepO.some_of {K:PySem.W.Frag}{μ:List Addr}{H:Hp}{a:Addr}{o:MO}(h:RepO K μ H a o)(hm:o.mut=true):∃u,H a=some u:=by
 cases o with
 | lst ds=>obtain⟨xs,h1,_⟩:=h;exact⟨_,h1⟩
 | frz ds=>cases hm
 | dic kvs=>obtain⟨xs,h1,_⟩:=h;exact⟨_,h1⟩
 | dkc kvs=>obtain⟨xs,h1,_⟩:=h;exact⟨_,h1⟩
 | dkf kvs=>cases hm
 | dtf kvs=>cases hm
 | ins c fs=>obtain⟨_,_,_,_,h1,_⟩:=h;exact⟨_,h1⟩
 | tab x=>obtain⟨_,_,h1,_⟩:=h;exact⟨_,h1⟩
 | clo j l ds=>cases hm
 | exc c d=>cases hm
 | hid=>cases hm
theorem RepO.keep {K:PySem.W.Frag}{μ μ':List Addr}{H H':Hp}{a:Addr}{o:MO}(g:Grow μ H μ' H')(hk:o.mut=true->∀u,H a=some u->H' a=some u)(h:RepO K μ H a o):RepO K μ' H' a o:=by
 cases o with
 | lst ds=>obtain⟨xs,h1,h2⟩:=h;exact⟨xs,hk rfl _ h1,h2.mono g ds⟩
 | frz ds=>obtain⟨xs,h1,h2⟩:=h;exact⟨xs,h1.ext g.ext,h2.mono g ds⟩
 | dic kvs=>obtain⟨ws,h1,h2⟩:=h;exact⟨ws,hk rfl _ h1,h2.mono g⟩
 | dkc kvs=>obtain⟨ws,h1,h2⟩:=h;exact⟨ws,hk rfl _ h1,h2.mono g⟩
 | dkf kvs=>obtain⟨ws,o,h1,h2⟩:=h;exact⟨ws,o,g.ext.frz _ _ _ h1,h2.mono g⟩
 | dtf kvs=>obtain⟨ws,o,h1,h2⟩:=h;exact⟨ws,o,g.ext.frz _ _ _ h1,h2.mono g⟩
 | exc c d=>obtain⟨oe,C,dx,od,v,fs,h1,h2,h3,h4,h5,h6,h7⟩:=h;exact⟨oe,C,dx,od,v,fs,g.ext.frz _ _ _ h1,h2,h3,h4,g.ext.frz _ _ _ h5,h6,h7.mono g d⟩
 | ins c fs=>obtain⟨C,dx,ws,h0,h1,h2⟩:=h;exact⟨C,dx,ws,h0,hk rfl _ h1,h2.mono g⟩
 | tab x=>obtain⟨h0,ps,h1,h2,h3⟩:=h;exact⟨h0,ps,hk rfl _ h1,h2,fun pos cv e=>let ⟨c',e1,e2⟩:=h3 pos cv e;⟨c',e1,e2.ext g.ext⟩⟩
 | clo j l ds=>obtain⟨cl,pm,c',ctv,vs,h1,h2,h3,h4,h5,h6⟩:=h;exact⟨cl,pm,c',ctv,vs,g.ext.frz _ _ _ h1,h2.ext g.ext,h3,h4,h5.ext g.ext,h6.mono g ds⟩
 | hid=>trivial
section
variable {K:PySem.W.Frag}{μ:List Addr}{H:Hp}{st:Stor}{p a:Addr}{xs:List V}{n:Nat}{mo mo':MO}{o o':HO}
theorem RepS.lay (h:RepS K μ H st)(hp:H p=none):RepS K μ (upd H p o) st :=
 ⟨h.len,fun n mo e=>let ⟨a,h1,h2⟩:=h.at_ n mo e;⟨a,h1,h2.keep ⟨⟨[],by simp⟩,.new hp⟩ fun _ u q=>by rw[zcx (zb3 q hp)];exact q⟩,h.uniq⟩
theorem Grow.lay (hp:H p=none):Grow μ H μ (upd H p o):=⟨⟨[],by simp⟩,.new hp⟩
theorem Grow.new (hp:H p=none):Grow μ H (μ++[p]) (upd H p o):=⟨⟨[p],rfl⟩,.new hp⟩
theorem RepS.new (h:RepS K μ H st)(hp:H p=none)(hn:RepO K (μ++[p]) (upd H p o) p mo):RepS K (μ++[p]) (upd H p o) (st++[mo]):=by
 refine⟨by simp[h.len],fun n mo1 e=>?_,fun i j b oi oj ei ej mi mj hi hj=>?_⟩
 ·by_cases hl:n<st.length
  ·rw[List.getElem?_append_left hl]at e
   obtain⟨b,h1,h2⟩:=h.at_ n mo1 e
   exact⟨b,by rw[List.getElem?_append_left (by rw[h.len];exact hl)];exact h1,h2.keep (Grow.new hp) fun _ u q=>by rw[zcx (zb3 q hp)];exact q⟩
  ·have hl2:=(List.getElem?_eq_some_iff.mp e).1
   rw[List.length_append,List.length_singleton]at hl2
   have e2:n=st.length:=by omega
   subst e2
   rw[List.getElem?_append_right (Nat.le_refl _)]at e
   simp at e;subst e
   exact⟨p,by rw[<-h.len];simp,hn⟩
 ·have key:∀(k:Nat) (ok:MO),(st++[mo])[k]? = some ok->ok.mut=true->(μ++[p])[k]? = some b->(k<st.length/\st[k]? = some ok/\μ[k]? = some b/\b≠p)\/(k=st.length/\b=p):=fun k ok ek mk hk=>by
   by_cases hl:k<st.length
   ·rw[List.getElem?_append_left hl]at ek
    rw[List.getElem?_append_left (by rw[h.len];exact hl)]at hk
    obtain⟨c,h1,h2⟩:=h.at_ k ok ek
    rw[hk]at h1;cases h1
    obtain⟨u,hu⟩:=h2.some_of mk
    exact .inl ⟨hl,ek,hk,zb3 hu hp⟩
   ·have hl2:=(List.getElem?_eq_some_iff.mp ek).1
    rw[List.length_append,List.length_singleton]at hl2
    have e2:k=st.length:=by omega
    subst e2
    rw[<-h.len]at hk
    simp at hk
    exact .inr ⟨rfl,hk.symm⟩
  rcases key i oi ei mi hi with⟨_,a1,a2,a3⟩ | ⟨a1,a2⟩
  ·rcases key j oj ej mj hj with⟨_,b1,b2,b3⟩ | ⟨b1,b2⟩
   ·exact h.uniq i j b oi oj a1 b1 mi mj a2 b2
   ·exact absurd b2 a3
  ·rcases key j oj ej mj hj with⟨_,b1,b2,b3⟩ | ⟨b1,b2⟩
   ·exact absurd a2 b3
   ·rw[a1,b1]
theorem Ext.mut (h:H a=some o)(ht:∀ys,o≠.tup ys)(hf:∀w u,o≠.frz w u):Ext H (upd H a o') :=
 ⟨fun b ys q=>by rw[zcx (fun e=>by subst e;rw[h]at q;exact ht _ (Option.some.inj q))];exact q,
  fun b w u q=>by rw[zcx (fun e=>by subst e;rw[h]at q;exact hf _ _ (Option.some.inj q))];exact q⟩
theorem RepS.put (h:RepS K μ H st)(hn:st[n]? = some mo)(hm:mo.mut=true)(hm':mo'.mut=true)(ha:μ[n]? = some a)(g:Ext H (upd H a o'))(new:RepO K μ (upd H a o') a mo'):RepS K μ (upd H a o') (st.set n mo'):=by
 have hl:=(List.getElem?_eq_some_iff.mp hn).1
 refine⟨by simp[h.len],fun k ok e=>?_,fun i j b oi oj ei ej mi mj hi hj=>?_⟩
 ·by_cases hk:n=k
  ·subst hk
   rw[List.getElem?_set_self hl]at e;cases e
   exact⟨a,ha,new⟩
  ·rw[List.getElem?_set_ne hk]at e
   obtain⟨b,h1,h2⟩:=h.at_ k ok e
   refine⟨b,h1,h2.keep ⟨⟨[],by simp⟩,g⟩ fun hmk u q=>?_⟩
   rw[zcx (fun e2=>?_)]
   ·exact q
   ·subst e2;exact hk (h.uniq n k b mo ok hn e hm hmk ha h1)
 ·have key:∀(k:Nat) (ok:MO),(st.set n mo')[k]? = some ok->ok.mut=true->∃ok',st[k]? = some ok'/\ok'.mut=true:=fun k ok ek mk=>by
   by_cases hk:n=k
   ·subst hk;exact⟨mo,hn,hm⟩
   ·rw[List.getElem?_set_ne hk]at ek;exact⟨ok,ek,mk⟩
  obtain⟨oi',ei',mi'⟩:=key i oi ei mi
  obtain⟨oj',ej',mj'⟩:=key j oj ej mj
  exact h.uniq i j b oi' oj' ei' ej' mi' mj' hi hj
end
end M
namespace M
open PySem PySem.Spec L2
noncomputable def ExcAt (X:Cx)(μ:List Addr)(H:Hp)(x:Xc)(e:Value)(s:Shared):Prop :=
 ∃a C dx lo fl v,e=.ref a/\X.s₀.heap.objs.size<=lo/\Xo lo a C dx fl H s.heap/\H dx=some (.xd [("at",v)])/\PySem.W.nsIn X.K mainGlobals (x.cls:Str)=some (some (.ref C))/\RepV X.K μ H x.fld v
noncomputable def ErrOK (X:Cx)(μ:List Addr)(H:Hp)(x:Xc)(st:Stor):Prop :=
 ∀(pins:List (Addr×Obj)) (σ':L2.St) (H':Hp) (μ':List Addr) (e:Value) (s':Shared),Grow μ H μ' H'->RepS X.K μ' H' st->Inv X pins σ' H' s'->ExcAt X μ' H' x e s'->X.xe e s'
theorem ErrOK.mono {X:Cx}{μ μ1:List Addr}{H H1:Hp}{x:Xc}{st:Stor}(g:Grow μ H μ1 H1)(h:ErrOK X μ H x st):ErrOK X μ1 H1 x st :=
 fun pins σ' H' μ' e s' g'=>h pins σ' H' μ' e s' (g.trans g')
noncomputable abbrev Rel (α β:Type):=List Addr->Hp->α->β->Prop
noncomputable def Post {α β:Type}(X:Cx)(μ:List Addr)(H:Hp)(rel:Rel α β)(Q:β->Hp->Prop)(r:R α):Prop:=match r with
 | .ok a st=>∀(b:β) (H':Hp) (μ':List Addr),Grow μ H μ' H'->RepS X.K μ' H' st->rel μ' H' a b->Q b H'
 | .err x st=>ErrOK X μ H x st
 | .bad=>False
section
variable {α β γ δ:Type}{X:Cx}{μ μ1:List Addr}{H H1:Hp}{rel:Rel α β}{rel2:Rel γ δ}{Q Q':β->Hp->Prop}{r:R α}
theorem Post.mono (g:Grow μ H μ1 H1)(h:Post X μ H rel Q r):Post X μ1 H1 rel Q r:=by
 cases r with
 | ok a st=>exact fun b H' μ' g'=>h b H' μ' (g.trans g')
 | err x st=>exact ErrOK.mono g h
 | bad=>exact h
theorem Post.imp (h:Post X μ H rel Q r)(k:∀b H',Q b H'->Q' b H'):Post X μ H rel Q' r:=by
 cases r with
 | ok a st=>exact fun b H' μ' g' h1 h2=>k b H' (h b H' μ' g' h1 h2)
 | err x st=>exact h
 | bad=>exact h
noncomputable def Then (X:Cx)(μ:List Addr)(H:Hp)(rel:Rel α β)(rel2:Rel γ δ)(Q2:δ->Hp->Prop)(f:α->Stor->R γ):β->Hp->Prop :=
 fun b H1=>∃μ1 st1 a,Grow μ H μ1 H1/\RepS X.K μ1 H1 st1/\rel μ1 H1 a b/\Post X μ1 H1 rel2 Q2 (f a st1)
theorem Post.bind {Q2:δ->Hp->Prop}{f:α->Stor->R γ}(h:Post X μ H rel2 Q2 (r.bind f)):Post X μ H rel (Then X μ H rel rel2 Q2 f) r:=by
 cases r with
 | ok a st=>exact fun b H' μ' g h1 h2=>⟨μ',st,a,g,h1,h2,Post.mono g h⟩
 | err x st=>exact h
 | bad=>exact h
theorem Post.ret {a:α}{b:β}{st:Stor}(h:Post X μ H rel Q (.ok a st))(hs:RepS X.K μ H st)(hr:rel μ H a b):Q b H:=h b H μ (.refl _ _) hs hr
end
noncomputable abbrev relV (X:Cx):Rel D V:=fun μ H d v=>RepV X.K μ H d v
noncomputable abbrev relA (X:Cx):Rel (List D) (List V):=fun μ H d v=>RepVs X.K μ H d v
noncomputable abbrev relB:Rel Bool Bool:=fun _ _ a b=>a=b
noncomputable abbrev relO:Rel (Option Int) (Option Int):=fun _ _ a b=>a=b
noncomputable abbrev ME:=MEnv->Stor->R D
noncomputable abbrev MA:=MEnv->Stor->R (List D)
noncomputable abbrev MT:=MEnv->Stor->R Bool
noncomputable abbrev MP:=MEnv->Stor->R (Option Int)
noncomputable def tM (X:Cx)(m:ME):TE:=fun σ H Q=>∃μ env st,RepE X.K μ H env σ/\RepS X.K μ H st/\Post X μ H (relV X) Q (m env st)
noncomputable def tMA (X:Cx)(m:MA):TA:=fun σ H Q=>∃μ env st,RepE X.K μ H env σ/\RepS X.K μ H st/\Post X μ H (relA X) Q (m env st)
noncomputable def tMT (X:Cx)(m:MT):TT:=fun σ H Q=>∃μ env st,RepE X.K μ H env σ/\RepS X.K μ H st/\Post X μ H relB Q (m env st)
noncomputable def tMP (X:Cx)(m:MP):TO:=fun σ H Q=>∃μ env st,RepE X.K μ H env σ/\RepS X.K μ H st/\Post X μ H relO Q (m env st)
noncomputable def JE (X:Cx)(e:Expr)(m:ME):Prop:=PE X e (tM X m)
noncomputable def JT (X:Cx)(e:Expr)(m:MT):Prop:=PT X e (tMT X m)
noncomputable def JA (X:Cx)(es:List Expr)(m:MA):Prop:=PA X es (tMA X m)
noncomputable def JP (X:Cx)(e:Option Expr)(m:MP):Prop:=PO X e (tMP X m)
section
variable {X:Cx}{e a b c:Expr}{es:List Expr}{t:TE}{ma mb mc:ME}{mA:MA}{pos:Pos}
theorem JE.of {m:ME}(h:PE X e t)(k:∀σ H Q,tM X m σ H Q->t σ H Q):JE X e m:=fun pins s σ H Q I q=>h pins s σ H Q I (k σ H Q q)
theorem JT.of {t:TT}{m:MT}(h:PT X e t)(k:∀σ H Q,tMT X m σ H Q->t σ H Q):JT X e m:=fun pins s σ H Q I q=>h pins s σ H Q I (k σ H Q q)
theorem JA.of {t:TA}{m:MA}(h:PA X es t)(k:∀σ H Q,tMA X m σ H Q->t σ H Q):JA X es m:=fun pos pins s σ H Q I q=>h pos pins s σ H Q I (k σ H Q q)
theorem JP.of {o:Option Expr}{t:TO}{m:MP}(h:PO X o t)(k:∀σ H Q,tMP X m σ H Q->t σ H Q):JP X o m:=fun pins s σ H Q I q=>h pins s σ H Q I (k σ H Q q)
noncomputable def vr (i:Nat):ME:=fun env st=>match env[i]? with | some (some d)=>.ok d st | _=>.bad
noncomputable def ct (d:D):ME:=fun _ st=>.ok d st
theorem zac (i:Nat){x:Str}{pos:Pos}(hN:X.N[i]? = some x:=by rfl)(hv:Vis X.env.scope x:=by first | exact Or.inl rfl | exact Or.inr (Or.inl rfl) | exact Or.inr (Or.inr rfl))(hd:(x==("__debug__":Str))=false:=by decide)
  (hcd:(x==("__classdict__":Str))=false:=by decide):JE X (.Name x pos) (vr i):=JE.of (pe_var hN hv hd hcd) fun σ H Q zz=>by
 obtain⟨μ,env,st,he,hs,hp⟩:=zz
 unfold vr at hp
 split at hp
 ·rename_i d e
  obtain⟨v,h1,h2⟩:=he.at_ i d e
  exact⟨v,h1,hp.ret hs h2⟩
 ·exact hp.elim
theorem zad {i j pos}:JE X (.Constant (.int i) j pos) (ct (.int i)):=by
 refine JE.of pe_int fun σ H Q zz=>?_
 obtain⟨μ,env,st,he,hs,hp⟩:=zz
 exact hp.ret hs (RepV.int_iff.mpr rfl)
theorem je_bl {b j pos}:JE X (.Constant (.bool b) j pos) (ct (.bl b)):=by
 refine JE.of pe_bl fun σ H Q zz=>?_
 obtain⟨μ,env,st,he,hs,hp⟩:=zz
 exact hp.ret hs (RepV.bl_iff.mpr rfl)
theorem zma {j pos}:JE X (.Constant .none j pos) (ct .non):=by
 refine JE.of pe_non fun σ H Q zz=>?_
 obtain⟨μ,env,st,he,hs,hp⟩:=zz
 exact hp.ret hs (RepV.non_iff.mpr rfl)
theorem zcy {x:Str}{j pos}(cs:List Nat)(h:x=strOf cs:=by decide +kernel):JE X (.Constant (.str x) j pos) (ct (.str cs)):=by
 refine JE.of pe_str fun σ H Q zz=>?_
 obtain⟨μ,env,st,he,hs,hp⟩:=zz
 exact hp.ret hs (RepV.str_iff.mpr (by rw[h]))
noncomputable def op2 (g:D->D->Stor->R D)(a b:ME):ME:=fun env st=>(a env st).bind fun x st1=>(b env st1).bind fun y st2=>g x y st2
noncomputable def op1 (g:D->Stor->R D)(a:ME):ME:=fun env st=>(a env st).bind fun x st1=>g x st1
noncomputable def rM (X:Cx)(g:D->D->Stor->R D):R2:=fun x y H Q=>∃μ st dx dy,RepS X.K μ H st/\RepV X.K μ H dx x/\RepV X.K μ H dy y/\Post X μ H (relV X) Q (g dx dy st)
noncomputable def rM1 (X:Cx)(g:D->Stor->R D):V->Hp->VK->Prop:=fun x H Q=>∃μ st dx,RepS X.K μ H st/\RepV X.K μ H dx x/\Post X μ H (relV X) Q (g dx st)
noncomputable def rMC (X:Cx)(g:List D->Stor->R D):List V->Hp->VK->Prop:=fun xs H Q=>∃μ st ds,RepS X.K μ H st/\RepVs X.K μ H ds xs/\Post X μ H (relV X) Q (g ds st)
noncomputable def rMM (X:Cx)(g:D->List D->Stor->R D):V->List V->Hp->VK->Prop:=fun x xs H Q=>∃μ st d ds,RepS X.K μ H st/\RepV X.K μ H d x/\RepVs X.K μ H ds xs/\Post X μ H (relV X) Q (g d ds st)
theorem OpR.weak {f:Value->Value->Sem Value}{r r':R2}(h:OpR X f r)(k:∀x y H Q,r' x y H Q->r x y H Q):OpR X f r':=fun pins s σ H x y v u Q I rx ry q=>h pins s σ H x y v u Q I rx ry (k x y H Q q)
theorem UnR.weak {f:Value->Sem Value}{r r':V->Hp->VK->Prop}(h:UnR X f r)(k:∀x H Q,r' x H Q->r x H Q):UnR X f r':=fun pins s σ H x v Q I rx q=>h pins s σ H x v Q I rx (k x H Q q)
theorem CallR.weak {f:Value}{r r':List V->Hp->VK->Prop}(h:CallR X f r)(k:∀x H Q,r' x H Q->r x H Q):CallR X f r':=fun pins s σ H x v Q I rx q=>h pins s σ H x v Q I rx (k x H Q q)
theorem MtR.weak {id:String}{r r':V->List V->Hp->VK->Prop}(h:MtR X id r)(k:∀x xs H Q,r' x xs H Q->r x xs H Q):MtR X id r':=fun pins s σ H x xs v us Q I rx rs q=>h pins s σ H x xs v us Q I rx rs (k x xs H Q q)
theorem IxR.weak {r r':R2}(h:IxR X r)(k:∀x y H Q,r' x y H Q->r x y H Q):IxR X r':=fun va sl pins s σ H x y v u Q I rx ry q=>h va sl pins s σ H x y v u Q I rx ry (k x y H Q q)
theorem SlR.weak {r r':V->Option Int->Option Int->Hp->VK->Prop}(h:SlR X r)(k:∀x l u H Q,r' x l u H Q->r x l u H Q):SlR X r':=fun pins s σ H x v vl vu lo hi sl Q I rx hs pl pu q=>h pins s σ H x v vl vu lo hi sl Q I rx hs pl pu (k x lo hi H Q q)
theorem PSet.weak {t t':TSet}(h:PSet X t)(k:∀o i v H Q,t' o i v H Q->t o i v H Q):PSet X t':=fun pins s σ H o i v ov iv u Q I ro ri rv q=>h pins s σ H o i v ov iv u Q I ro ri rv (k o i v H Q q)
theorem zmb {g:D->D->Stor->R D}{σ:L2.St}{H:Hp}{Q:VK}(h:tM X (op2 g ma mb) σ H Q):tM X ma σ H fun x H1=>tM X mb σ H1 fun y H2=>rM X g x y H2 Q:=by
 obtain⟨μ,env,st,he,hs,hp⟩:=h
 refine⟨μ,env,st,he,hs,hp.bind.imp ?_⟩
 rintro x H1 ⟨μ1,st1,d,g1,hs1,hx,hp1⟩
 refine⟨μ1,env,st1,he.mono g1,hs1,hp1.bind.imp ?_⟩
 rintro y H2 ⟨μ2,st2,d2,g2,hs2,hy,hp2⟩
 exact⟨μ2,st2,d,d2,hs2,hx.mono g2 _,hy,hp2⟩
theorem je_op {op:Operator}{g:D->D->Stor->R D}(ho:OpR X (binaryOp op) (rM X g))(ha:JE X a ma)(hb:JE X b mb):JE X (.BinOp a op b pos) (op2 g ma mb) :=
 JE.of (pe_op ho ha hb) fun σ H Q h=>zmb h
theorem je_cmp {op:CmpOp}{g:D->D->Stor->R D}(ho:OpR X (compareOp op) (rM X g))(ha:JE X a ma)(hb:JE X b mb)(hm:behindInMarks op b=false):JE X (.Compare a [op] [b] pos) (op2 g ma mb) :=
 JE.of (pe_cmpR ho ha hb hm) fun σ H Q h=>zmb h
theorem je_un {op:UnaryOp}{g:D->Stor->R D}(ho:UnR X (unaryOp op) (rM1 X g))(ha:JE X a ma):JE X (.UnaryOp op a pos) (op1 g ma):=by
 refine JE.of (pe_un ho ha) fun σ H Q zz=>?_
 obtain⟨μ,env,st,he,hs,hp⟩:=zz
 refine⟨μ,env,st,he,hs,hp.bind.imp fun x H1 zz=>?_⟩
 obtain⟨μ1,st1,d,g1,hs1,hx,hp1⟩:=zz
 exact⟨μ1,st1,d,hs1,hx,hp1⟩
noncomputable def tB1 (a:ME):MT:=fun env st=>(a env st).bind fun x st1=>match x with | .bl b=>.ok b st1 | _=>.bad
theorem zdf {op:CmpOp}{g:D->D->Stor->R D}(ho:OpR X (compareOp op) (rM X g))(ha:JE X a ma)(hb:JE X b mb)(hm:behindInMarks op b=false):JT X (.Compare a [op] [b] pos) (tB1 (op2 g ma mb)):=by
 refine JT.of (pt_cmpR ho ha hb hm) fun σ H Q zz=>?_
 obtain⟨μ,env,st,he,hs,hp⟩:=zz
 refine zmb ⟨μ,env,st,he,hs,hp.bind.imp ?_⟩
 rintro x H1 ⟨μ1,st1,d,g1,hs1,hx,hp1⟩
 cases d with
 | bl b=>exact⟨b,RepV.bl_iff.mp hx,hp1.ret hs1 rfl⟩
 | _=>exact hp1.elim
noncomputable def truV:D->Stor->Option Bool
 | .non,_=>some false
 | .bl b,_=>some b
 | .int i,_=>some (i != 0)
 | .str cs,_=>if cs.length<=1000000 then some (!cs.isEmpty) else none
 | .tup ds,_=>some (!ds.isEmpty)
 | .loc n,st=>match st[n]? with
  | some (.lst ds)=>some (!ds.isEmpty)
  | some (.frz ds)=>some (!ds.isEmpty)
  | _=>none
noncomputable def tru (a:ME):MT:=fun env st=>(a env st).bind fun x st1=>match truV x st1 with | some b=>.ok b st1 | none=>.bad
theorem zg6 {n:Nat}(h:n<=1000000):n<=sizeLine:=Nat.le_trans h (by decide)
theorem RepS.lst {K:PySem.W.Frag}{μ:List Addr}{H:Hp}{st:Stor}{n:Nat}{ds:List D}(h:RepS K μ H st)(e:st[n]? = some (.lst ds)):∃p xs,μ[n]? = some p/\H p=some (.lst xs)/\RepVs K μ H ds xs:=by
 obtain⟨p,h1,xs,h2,h3⟩:=h.at_ n _ e
 exact⟨p,xs,h1,h2,h3⟩
noncomputable def itemsAt (st:Stor)(n:Nat):Option (List D):=match st[n]? with
 | some (.lst ds)=>some ds
 | some (.frz ds)=>some ds
 | _=>none
theorem RepS.items {K:PySem.W.Frag}{μ:List Addr}{H:Hp}{st:Stor}{n:Nat}{ds:List D}(h:RepS K μ H st)(e:itemsAt st n=some ds):∃p xs,μ[n]? = some p/\SqL K H p xs/\RepVs K μ H ds xs:=by
 unfold itemsAt at e
 split at e
 ·rename_i es q
  cases e
  obtain⟨p,xs,h1,h2,h3⟩:=h.lst q
  exact⟨p,xs,h1,SqL.of h2,h3⟩
 ·rename_i es q
  cases e
  obtain⟨p,h1,xs,h2,h3⟩:=h.at_ n _ q
  exact⟨p,xs,h1,h2.sqL,h3⟩
 ·cases e
theorem RepVs.isEmpty {K:PySem.W.Frag}{μ:List Addr}{H:Hp}{ds:List D}{xs:List V}(h:RepVs K μ H ds xs):ds.isEmpty=xs.isEmpty:=by
 have:=h.length
 cases ds<;>cases xs<;>simp_all
theorem truV_ok {d:D}{st:Stor}{b:Bool}{μ:List Addr}{H:Hp}{v:V}(h:truV d st=some b)(hs:RepS X.K μ H st)(hv:RepV X.K μ H d v):TruV X.K v H b:=by
 cases d with
 | non=>rw[RepV.non_iff]at hv;subst hv;cases h;rfl
 | bl c=>rw[RepV.bl_iff]at hv;subst hv;cases h;rfl
 | int i=>rw[RepV.int_iff]at hv;subst hv;cases h;rfl
 | str cs =>
  rw[RepV.str_iff]at hv;subst hv
  simp only[truV]at h
  split at h
  ·rename_i hl
   cases h
   have e:(strOf cs).length=cs.length:=by simp[Str.length,strOf]
   refine⟨by rw[e];exact zg6 hl,?_⟩
   rw[e]
   cases cs<;>simp
   omega
  ·cases h
 | tup ds =>
  rw[RepV.tup_iff]at hv
  obtain⟨a,xs,rfl,h1,h2⟩:=hv
  cases h
  exact .inr (.inl ⟨xs,h1.sqT,by rw[h2.isEmpty]⟩)
 | loc n =>
  rw[RepV.loc_iff]at hv
  obtain⟨a,h1,rfl⟩:=hv
  have key:∃ds,itemsAt st n=some ds/\b=!ds.isEmpty:=by
   unfold itemsAt
   simp only[truV]at h
   split at h
   ·rename_i q;cases h;exact⟨_,rfl,rfl⟩
   ·rename_i q;cases h;exact⟨_,rfl,rfl⟩
   ·cases h
  obtain⟨ds,q,rfl⟩:=key
  obtain⟨p,xs,h3,h4,h5⟩:=hs.items q
  rw[h1]at h3;cases h3
  exact .inl ⟨xs,h4,by rw[h5.isEmpty]⟩
theorem zhx (ha:JE X a ma)(he:∀whole,isTrue a X.env whole=(do let v <-whole;standAt a.pos;holding [v] (truthy v)):=by intro _;rfl):JT X a (tru ma):=by
 refine JT.of (pt_truth ha he) fun σ H Q zz=>?_
 obtain⟨μ,env,st,hE,hs,hp⟩:=zz
 refine⟨μ,env,st,hE,hs,hp.bind.imp ?_⟩
 rintro x H1 ⟨μ1,st1,d,g1,hs1,hx,hp1⟩
 cases e:truV d st1 with
 | none=>simp only[e]at hp1;exact hp1.elim
 | some b=>simp only[e]at hp1;exact⟨b,truV_ok e hs1 hx,hp1.ret hs1 rfl⟩
noncomputable def JW (X:Cx)(e:Expr)(m:MT):Prop:=PW X e (tMT X m)
theorem JW.jt {m:MT}(h:JW X e m):JT X e m:=PW.pt h
theorem JW.of {t:TT}{m:MT}(h:PW X e t)(k:∀σ H Q,tMT X m σ H Q->t σ H Q):JW X e m:=fun w pins s σ H Q I q=>h w pins s σ H Q I (k σ H Q q)
noncomputable def andT (a b:MT):MT:=fun env st=>(a env st).bind fun x st1=>if x then b env st1 else .ok false st1
noncomputable def orT (a b:MT):MT:=fun env st=>(a env st).bind fun x st1=>if x then .ok true st1 else b env st1
noncomputable def notT (a:MT):MT:=fun env st=>(a env st).bind fun x st1=>.ok (!x) st1
variable {ta tb tc:MT}{rest:List Expr}
theorem zme (ha:JT X a ta):JW X (.BoolOp .And [a] pos) ta:=pw_and1 ha
theorem jw_or1 (ha:JT X a ta):JW X (.BoolOp .Or [a] pos) ta:=pw_or1 ha
theorem jw_and (ha:JT X a ta)(hb:JW X (.BoolOp .And (b::rest) pos) tb):JW X (.BoolOp .And (a::b::rest) pos) (andT ta tb):=by
 refine JW.of (pw_and ha hb) fun σ H Q zz=>?_
 obtain⟨μ,env,st,hE,hs,hp⟩:=zz
 refine⟨μ,env,st,hE,hs,hp.bind.imp ?_⟩
 rintro x H1 ⟨μ1,st1,d,g1,hs1,rfl,hp1⟩
 cases d with
 | true=>exact iteT ⟨μ1,env,st1,hE.mono g1,hs1,hp1⟩
 | false=>exact iteF (hp1.ret hs1 rfl)
theorem jw_or (ha:JT X a ta)(hb:JW X (.BoolOp .Or (b::rest) pos) tb):JW X (.BoolOp .Or (a::b::rest) pos) (orT ta tb):=by
 refine JW.of (pw_or ha hb) fun σ H Q zz=>?_
 obtain⟨μ,env,st,hE,hs,hp⟩:=zz
 refine⟨μ,env,st,hE,hs,hp.bind.imp ?_⟩
 rintro x H1 ⟨μ1,st1,d,g1,hs1,rfl,hp1⟩
 cases d with
 | true=>exact iteT (hp1.ret hs1 rfl)
 | false=>exact iteF ⟨μ1,env,st1,hE.mono g1,hs1,hp1⟩
theorem jt_not (ha:JT X a ta):JT X (.UnaryOp .Not a pos) (notT ta):=by
 refine JT.of (pt_not ha) fun σ H Q zz=>?_
 obtain⟨μ,env,st,hE,hs,hp⟩:=zz
 refine⟨μ,env,st,hE,hs,hp.bind.imp ?_⟩
 rintro x H1 ⟨μ1,st1,d,g1,hs1,rfl,hp1⟩
 exact hp1.ret hs1 rfl
noncomputable def andV (a b:ME):ME:=fun env st=>(a env st).bind fun x st1=>match x with | .bl true=>b env st1 | .bl false=>.ok (.bl false) st1 | _=>.bad
theorem je_one {op}{m:ME}(h:JE X a m):JE X (.BoolOp op [a] pos) m:=pe_one h
theorem je_and (ha:JE X a ma)(hb:JE X (.BoolOp .And (b::rest) pos) mb):JE X (.BoolOp .And (a::b::rest) pos) (andV ma mb):=by
 refine JE.of (pe_and ha hb) fun σ H Q zz=>?_
 obtain⟨μ,env,st,hE,hs,hp⟩:=zz
 refine⟨μ,env,st,hE,hs,hp.bind.imp ?_⟩
 rintro x H1 ⟨μ1,st1,d,g1,hs1,hx,hp1⟩
 cases d with
 | bl c =>
  refine⟨c,RepV.bl_iff.mp hx,?_⟩
  cases c with
  | true=>exact iteT ⟨μ1,env,st1,hE.mono g1,hs1,hp1⟩
  | false=>exact iteF (hp1.ret hs1 (RepV.bl_iff.mpr rfl))
 | _=>exact hp1.elim
noncomputable def nilA:MA:=fun _ st=>.ok [] st
noncomputable def consA (a:ME)(r:MA):MA:=fun env st=>(a env st).bind fun x st1=>(r env st1).bind fun xs st2=>.ok (x::xs) st2
theorem zae:JA X [] nilA:=by
 refine JA.of pa_nil fun σ H Q zz=>?_
 obtain⟨μ,env,st,hE,hs,hp⟩:=zz
 exact hp.ret hs RepVs.nil
theorem zaa {e:Expr}{es:List Expr}{m:ME}{mA:MA}(h:JE X e m)(hr:JA X es mA)(hs:starEach (e::es) X.env=(false,eval e X.env)::starEach es X.env:=by rfl):JA X (e::es) (consA m mA):=by
 refine JA.of (zly h hr hs) fun σ H Q zz=>?_
 obtain⟨μ,env,st,hE,hs,hp⟩:=zz
 refine⟨μ,env,st,hE,hs,hp.bind.imp ?_⟩
 rintro x H1 ⟨μ1,st1,d,g1,hs1,hx,hp1⟩
 refine⟨μ1,env,st1,hE.mono g1,hs1,hp1.bind.imp ?_⟩
 rintro xs H2 ⟨μ2,st2,ds,g2,hs2,hxs,hp2⟩
 exact hp2.ret hs2 (RepVs.cons (hx.mono g2 _) hxs)
noncomputable def tupE (m:MA):ME:=fun env st=>(m env st).bind fun ds st1=>if ds.length<=1000000 then .ok (.tup ds) st1 else .bad
noncomputable def lstE (m:MA):ME:=fun env st=>(m env st).bind fun ds st1=>if ds.length<=1000000 then .ok (.loc st1.length) (st1++[.lst ds]) else .bad
theorem zct {es:List Expr}{mA:MA}{x1}(h:JA X es mA):JE X (.Tuple es x1 pos) (tupE mA):=by
 refine JE.of (pe_tup h) fun σ H Q zz=>?_
 obtain⟨μ,env,st,hE,hs,hp⟩:=zz
 refine⟨μ,env,st,hE,hs,hp.bind.imp ?_⟩
 rintro xs H1 ⟨μ1,st1,ds,g1,hs1,hxs,hp1⟩
 dsimp only at hp1
 split at hp1
 ·rename_i hl
  refine⟨by rw[<-hxs.length];exact zg6 hl,fun p hn=>?_⟩
  exact hp1 _ _ μ1 (Grow.lay hn) (hs1.lay hn) (RepV.tup_iff.mpr ⟨p,xs,rfl,.inl zbd,hxs.mono (Grow.lay hn) _⟩)
 ·exact hp1.elim
theorem Post.newList {μ:List Addr}{H:Hp}{st:Stor}{ds:List D}{xs:List V}{p:Addr}{Q:VK}(h:Post X μ H (relV X) Q (.ok (.loc st.length) (st++[.lst ds])))(hs:RepS X.K μ H st)(hx:RepVs X.K μ H ds xs)(hn:H p=none) :
  Q (.ref p) (upd H p (.lst xs)):=by
 have g:Grow μ H (μ++[p]) (upd H p (.lst xs)):=Grow.new hn
 refine h _ _ (μ++[p]) g (hs.new hn ⟨xs,zbd,hx.mono g _⟩) (RepV.loc_iff.mpr ⟨p,?_,rfl⟩)
 rw[<-hs.len];simp
theorem zgz {es:List Expr}{mA:MA}(h:JA X es mA):JE X (.List es pos) (lstE mA):=by
 refine JE.of (pe_lst h) fun σ H Q zz=>?_
 obtain⟨μ,env,st,hE,hs,hp⟩:=zz
 refine⟨μ,env,st,hE,hs,hp.bind.imp ?_⟩
 rintro xs H1 ⟨μ1,st1,ds,g1,hs1,hxs,hp1⟩
 dsimp only at hp1
 split at hp1
 ·rename_i hl
  exact⟨by rw[<-hxs.length];exact zg6 hl,fun p hn=>hp1.newList hs1 hxs hn⟩
 ·exact hp1.elim
end
end M
namespace M
open PySem PySem.Spec L2
section
variable {X:Cx}{e a b c:Expr}{es:List Expr}{t:TE}{ma mb mc:ME}{mA:MA}{pos:Pos}
theorem zfo (cs:List Nat):(strOf cs).length=cs.length:=by simp[Str.length,strOf]
theorem strOf_app (a b:List Nat):strOf a++strOf b=strOf (a++b):=by
 show Str.append _ _=_
 simp[Str.append,strOf]
theorem zjt {a b:List Nat}:strOf a=strOf b↔a=b:=by
 constructor
 ·intro h
  have:=congrArg (fun s:Str=>s.cps.toList) h
  simpa[strOf] using this
 ·intro h;rw[h]
noncomputable def addV:D->D->Stor->R D
 | .int i,.int j,st=>.ok (.int (i+j)) st
 | .str a,.str b,st=>if a.length+b.length<=1000000 then .ok (.str (a++b)) st else .bad
 | .tup a,.tup b,st=>if a.length+b.length<=1000000 then .ok (.tup (a++b)) st else .bad
 | .loc m,.loc n,st=>match st[m]?,st[n]? with
  | some (.lst a),some (.lst b)=>if a.length+b.length<=1000000 then .ok (.loc st.length) (st++[.lst (a++b)]) else .bad
  | _,_=>.bad
 | _,_,_=>.bad
theorem zal:OpR X (binaryOp .Add) (rM X addV):=by
 refine OpR.weak (OpR.or op_add (OpR.or zlc (OpR.or op_catT (OpR.or op_catT0 op_cat)))) ?_
 rintro x y H Q ⟨μ,st,dx,dy,hs,hx,hy,hp⟩
 cases dx with
 | int i =>
  cases dy with
  | int j =>
   rw[RepV.int_iff]at hx hy;subst hx hy
   exact .inl ⟨i,j,rfl,rfl,hp.ret hs (RepV.int_iff.mpr rfl)⟩
  | _=>exact hp.elim
 | str i =>
  cases dy with
  | str j =>
   rw[RepV.str_iff]at hx hy;subst hx hy
   simp only[addV]at hp
   split at hp
   ·rename_i hl
    refine .inr (.inl ⟨_,_,rfl,rfl,?_,?_⟩)
    ·rw[zfo,zfo];exact zg6 hl
    ·rw[strOf_app];exact hp.ret hs (RepV.str_iff.mpr rfl)
   ·exact hp.elim
  | _=>exact hp.elim
 | tup i =>
  cases dy with
  | tup j =>
   rw[RepV.tup_iff]at hx hy
   obtain⟨p,xs,rfl,h1,h2⟩:=hx
   obtain⟨q,ys,rfl,h3,h4⟩:=hy
   simp only[addV]at hp
   split at hp
   ·rename_i hl
    by_cases hx0:xs=[]
    ·subst hx0
     have hi:i=[]:=by have:=h2.length;simpa using this
     subst hi
     exact .inr (.inr (.inr (.inl ⟨p,q,ys,rfl,rfl,h1.sqT,h3.sqT,hp.ret hs (RepV.tup_iff.mpr ⟨q,ys,rfl,h3,h4⟩)⟩)))
    ·refine .inr (.inr (.inl ⟨p,q,xs,ys,rfl,rfl,h1.sqT,h3.sqT,hx0,by rw[<-h2.length,<-h4.length];exact zg6 hl,fun hy0=>?_,fun _ r hr=>?_⟩))
     ·subst hy0
      have hj:j=[]:=by have:=h4.length;simpa using this
      subst hj
      exact hp.ret hs (RepV.tup_iff.mpr ⟨p,xs,rfl,by rw[List.append_nil];exact h1,by rw[List.append_nil];exact h2⟩)
     ·exact hp _ _ μ (Grow.lay hr) (hs.lay hr) (RepV.tup_iff.mpr ⟨r,_,rfl,.inl zbd,(h2.append h4).mono (Grow.lay hr) _⟩)
   ·exact hp.elim
  | _=>exact hp.elim
 | loc m =>
  cases dy with
  | loc n =>
   rw[RepV.loc_iff]at hx hy
   obtain⟨p,h1,rfl⟩:=hx
   obtain⟨q,h2,rfl⟩:=hy
   simp only[addV]at hp
   split at hp
   ·rename_i da db e1 e2
    split at hp
    ·rename_i hl
     obtain⟨p',xs,h3,h4,h5⟩:=hs.lst e1
     obtain⟨q',ys,h6,h7,h8⟩:=hs.lst e2
     rw[h1]at h3;cases h3
     rw[h2]at h6;cases h6
     exact .inr (.inr (.inr (.inr ⟨p,q,xs,ys,rfl,rfl,h4,h7,by rw[<-h5.length,<-h8.length];exact zg6 hl,fun r hr=>hp.newList hs (h5.append h8) hr⟩)))
    ·exact hp.elim
   ·exact hp.elim
  | _=>exact hp.elim
 | _=>exact hp.elim
noncomputable def intV (C:Int->Int->Prop)[∀i j,Decidable (C i j)](g:Int->Int->D):D->D->Stor->R D
 | .int i,.int j,st=>if C i j then .ok (g i j) st else .bad
 | _,_,_=>.bad
theorem zgq {f:Value->Value->Sem Value}{C:Int->Int->Prop}[∀i j,Decidable (C i j)]{g:Int->Int->D}{gv:Int->Int->V}(h:OpR X f (rI C gv))(hg:∀i j μ H,RepV X.K μ H (g i j) (gv i j)):OpR X f (rM X (intV C g)):=by
 refine OpR.weak h ?_
 rintro x y H Q ⟨μ,st,dx,dy,hs,hx,hy,hp⟩
 cases dx with
 | int i =>
  cases dy with
  | int j =>
   rw[RepV.int_iff]at hx hy;subst hx hy
   simp only[intV]at hp
   split at hp
   ·rename_i hc
    exact⟨i,j,rfl,rfl,hc,hp.ret hs (hg i j μ H)⟩
   ·exact hp.elim
  | _=>exact hp.elim
 | _=>exact hp.elim
theorem OpR.top {f:Value->Value->Sem Value}{gv:Int->Int->V}(h:OpR X f (rI0 gv)):OpR X f (rI (fun _ _=>True) gv):=by
 refine OpR.weak h fun x y H Q zz=>?_
 obtain⟨i,j,a,b,_,q⟩:=zz
 exact⟨i,j,a,b,q⟩
noncomputable def subV:D->D->Stor->R D:=intV (fun _ _=>True) fun i j=>.int (i - j)
theorem op_subV:OpR X (binaryOp .Sub) (rM X subV):=zgq (OpR.top op_sub) fun i j μ H=>RepV.int_iff.mpr rfl
noncomputable def mulV:D->D->Stor->R D:=intV (fun i j=>(-(2 ^ 64)<i/\i<2 ^ 64)\/(-(2 ^ 64)<j/\j<2 ^ 64)) fun i j=>.int (i*j)
theorem ze2:OpR X (binaryOp .Mult) (rM X mulV):=zgq (OpR.weak op_mul fun x y H Q h=>h) fun i j μ H=>RepV.int_iff.mpr rfl
noncomputable def fdivV:D->D->Stor->R D:=intV (fun _ j=>0<j/\j<2 ^ 64) fun i j=>.int (i / j)
theorem za7:OpR X (binaryOp .FloorDiv) (rM X fdivV):=zgq op_fdivW fun i j μ H=>RepV.int_iff.mpr rfl
noncomputable def modV:D->D->Stor->R D:=intV (fun _ j=>0<j) fun i j=>.int (i % j)
theorem za2:OpR X (binaryOp .Mod) (rM X modV):=zgq op_mod fun i j μ H=>RepV.int_iff.mpr rfl
noncomputable def ltV:D->D->Stor->R D:=intV (fun _ _=>True) fun i j=>.bl (decide (i<j))
theorem op_ltV:OpR X (compareOp .Lt) (rM X ltV):=zgq (OpR.top op_lt) fun i j μ H=>RepV.bl_iff.mpr rfl
noncomputable def leV:D->D->Stor->R D:=intV (fun _ _=>True) fun i j=>.bl (decide (i<=j))
theorem op_leV:OpR X (compareOp .LtE) (rM X leV):=zgq (OpR.top op_le) fun i j μ H=>RepV.bl_iff.mpr rfl
noncomputable def gtV:D->D->Stor->R D:=intV (fun _ _=>True) fun i j=>.bl (decide (j<i))
theorem op_gtV:OpR X (compareOp .Gt) (rM X gtV):=zgq (OpR.top op_gt) fun i j μ H=>RepV.bl_iff.mpr rfl
noncomputable def negV:D->Stor->R D
 | .int i,st=>.ok (.int (-i)) st
 | _,_=>.bad
theorem zit:UnR X (unaryOp .USub) (rM1 X negV):=by
 refine UnR.weak un_neg ?_
 rintro x H Q ⟨μ,st,dx,hs,hx,hp⟩
 cases dx with
 | int i=>rw[RepV.int_iff]at hx;subst hx;exact⟨i,rfl,hp.ret hs (RepV.int_iff.mpr rfl)⟩
 | _=>exact hp.elim
noncomputable def isNoneV:D->D->Stor->R D
 | .non,.non,st=>.ok (.bl true) st
 | _,.non,st=>.ok (.bl false) st
 | _,_,_=>.bad
theorem RepV.none_iff' {K:PySem.W.Frag}{μ:List Addr}{H:Hp}{d:D}{v:V}(h:RepV K μ H d v):decide (v=.non)=(match d with | .non=>true | _=>false):=by
 cases d with
 | non=>rw[RepV.non_iff]at h;subst h;rfl
 | bl b=>rw[RepV.bl_iff]at h;subst h;rfl
 | int b=>rw[RepV.int_iff]at h;subst h;rfl
 | str b=>rw[RepV.str_iff]at h;subst h;rfl
 | tup b=>rw[RepV.tup_iff]at h;obtain⟨_,_,rfl,_⟩:=h;rfl
 | loc b=>rw[RepV.loc_iff]at h;obtain⟨_,_,rfl⟩:=h;rfl
theorem zgr:OpR X (compareOp .Is) (rM X isNoneV):=by
 refine OpR.weak op_isN ?_
 rintro x y H Q ⟨μ,st,dx,dy,hs,hx,hy,hp⟩
 cases dy with
 | non =>
  rw[RepV.non_iff]at hy
  refine⟨hy,?_⟩
  rw[hx.none_iff']
  cases dx<;>exact hp.ret hs (RepV.bl_iff.mpr rfl)
 | _=>cases dx<;>exact hp.elim
noncomputable def ixV:D->D->Stor->R D
 | .loc n,.int i,st=>match (itemsAt st n).bind fun ds=>atI ds i with | some d=>.ok d st | none=>.bad
 | .tup ds,.int i,st=>match atI ds i with | some d=>.ok d st | none=>.bad
 | .str cs,.int i,st=>if cs.length<=1000000 then (match atI cs i with | some c=>.ok (.str [c]) st | none=>.bad) else .bad
 | _,_,_=>.bad
theorem RepVs.atI {K:PySem.W.Frag}{μ:List Addr}{H:Hp}{ds:List D}{xs:List V}{i:Int}{d:D}(h:RepVs K μ H ds xs)(e:L2.atI ds i=some d):∃v,L2.atI xs i=some v/\RepV K μ H d v:=by
 unfold L2.atI at e ⊢
 rw[<-h.length]
 cases q:ixN ds.length i with
 | none=>rw[q]at e;cases e
 | some j =>
  rw[q]at e
  exact h.get (by simpa using e)
theorem ix_V:IxR X (rM X ixV):=by
 refine IxR.weak ix_seq ?_
 rintro x y H Q ⟨μ,st,dx,dy,hs,hx,hy,hp⟩
 cases dy with
 | int i =>
  rw[RepV.int_iff]at hy;subst hy
  cases dx with
  | loc n =>
   rw[RepV.loc_iff]at hx
   obtain⟨p,h1,rfl⟩:=hx
   simp only[ixV]at hp
   cases e:itemsAt st n with
   | none=>rw[e]at hp;exact hp.elim
   | some ds =>
    rw[e]at hp
    cases e2:L2.atI ds i with
    | none=>simp only[Option.bind_some,e2]at hp;exact hp.elim
    | some d =>
     simp only[Option.bind_some,e2]at hp
     obtain⟨p',xs,h3,h4,h5⟩:=hs.items e
     rw[h1]at h3;cases h3
     obtain⟨v,h6,h7⟩:=h5.atI e2
     exact .inl ⟨p,xs,i,v,rfl,rfl,h4,h6,hp.ret hs h7⟩
  | tup ds =>
   rw[RepV.tup_iff]at hx
   obtain⟨p,xs,rfl,h1,h2⟩:=hx
   simp only[ixV]at hp
   cases e2:L2.atI ds i with
   | none=>simp only[e2]at hp;exact hp.elim
   | some d =>
    simp only[e2]at hp
    obtain⟨v,h6,h7⟩:=h2.atI e2
    exact .inr (.inl ⟨p,xs,i,v,rfl,rfl,h1.sqT,h6,hp.ret hs h7⟩)
  | str cs =>
   rw[RepV.str_iff]at hx;subst hx
   simp only[ixV]at hp
   split at hp
   ·rename_i hl
    cases e2:L2.atI cs i with
    | none=>simp only[e2]at hp;exact hp.elim
    | some c =>
     simp only[e2]at hp
     exact .inr (.inr ⟨_,i,c,rfl,rfl,by rw[zfo];exact zg6 hl,by simpa[strOf] using e2,hp.ret hs (RepV.str_iff.mpr rfl)⟩)
   ·exact hp.elim
  | _=>exact hp.elim
 | _=>cases dx<;>exact hp.elim
theorem je_ix (ha:JE X a ma)(hb:JE X b mb)(hs:PlainIx b:=by exact fun _ _=>rfl):JE X (.Subscript a b pos) (op2 ixV ma mb) :=
 JE.of (pe_ix ix_V ha hb hs) fun σ H Q h=>zmb h
end
end M
namespace M
open PySem PySem.Spec L2
section
variable {X:Cx}{e a b c:Expr}{es:List Expr}{t:TE}{ma mb mc:ME}{mA:MA}{pos p2:Pos}
noncomputable def cut {α:Type}(xs:List α)(lo hi:Option Int):List α:=(xs.drop (HT.sIx xs.length 0 lo)).take (HT.sIx xs.length xs.length hi - HT.sIx xs.length 0 lo)
theorem RepVs.cut {K:PySem.W.Frag}{μ:List Addr}{H:Hp}{ds:List D}{xs:List V}(h:RepVs K μ H ds xs)(lo hi:Option Int):RepVs K μ H (M.cut ds lo hi) (cutV xs lo hi):=by
 unfold M.cut cutV
 rw[<-h.length]
 exact (h.drop _).take _
theorem cut_whole {α:Type}{xs:List α}{lo hi:Option Int}(h:HT.sIx xs.length 0 lo=0/\HT.sIx xs.length xs.length hi=xs.length):cut xs lo hi=xs:=by
 unfold cut
 rw[h.1,h.2]
 simp
theorem sRange_eq (i j:Nat):sliceRange (i:Int) (j:Int) 1=(List.range (j - i)).map fun k=>i+k:=by
 unfold sliceRange
 simp only[show (1:Int) > 0 by decide,if_true]
 have e:(if (i:Int)<(j:Int) then ((j:Int) - (i:Int)+1 - 1) / 1 else 0).toNat=j - i:=by
  split
  ·rw[Int.ediv_one];omega
  ·omega
 rw[e]
 refine List.map_congr_left fun k _=>?_
 omega
theorem sIdx_eq (lo hi:Option Int)(n:Nat):Builtin.Str.strSliceIndices lo hi 1 n=(List.range (HT.sIx n n hi - HT.sIx n 0 lo)).map fun k=>HT.sIx n 0 lo+k:=by
 rw[<-sRange_eq]
 unfold Builtin.Str.strSliceIndices
 simp only[show (1:Int) > 0 by decide,if_true]
 congr 1
 ·cases lo with
  | none=>rfl
  | some v =>
   show max 0 (min (if v<0 then v+(n:Int) else v) (n:Int))=((if v<0 then (v+(n:Int)).toNat else min v.toNat n:Nat):Int)
   split<;>omega
 ·cases hi with
  | none=>rfl
  | some v =>
   show max 0 (min (if v<0 then v+(n:Int) else v) (n:Int))=((if v<0 then (v+(n:Int)).toNat else min v.toNat n:Nat):Int)
   split<;>omega
theorem pick_cut (cs:List Nat)(i k:Nat):((List.range k).map fun m=>i+m).filterMap (fun m=>cs[m]?)=(cs.drop i).take k:=by
 induction k generalizing i with
 | zero=>simp
 | succ k ih =>
  rw[List.range_succ_eq_map,List.map_cons,List.filterMap_cons,List.map_map]
  have e:((fun m=>i+m)∘Nat.succ)=fun m=>(i+1)+m:=by funext m;simp;omega
  rw[e,ih (i+1)]
  cases q:cs[i]? with
  | none =>
   have hl:cs.length<=i:=List.getElem?_eq_none_iff.mp q
   simp[q,List.drop_eq_nil_of_le hl,List.drop_eq_nil_of_le (Nat.le_succ_of_le hl)]
  | some c =>
   have hl:=(List.getElem?_eq_some_iff.mp q).1
   have hc:=(List.getElem?_eq_some_iff.mp q).2
   simp[q,List.drop_eq_getElem_cons hl,hc]
theorem slice_str (cs:List Nat)(lo hi:Option Int):Txt.slice (strOf cs) lo hi=strOf (cut cs lo hi):=by
 have e:(strOf cs).length=cs.length:=by simp[Str.length,strOf]
 unfold Txt.slice
 rw[e,sIdx_eq]
 have hj:HT.sIx cs.length cs.length hi<=cs.length:=HT.sIx_le _ _ (Nat.le_refl _) hi
 have q:((List.range (HT.sIx cs.length cs.length hi - HT.sIx cs.length 0 lo)).map fun k=>HT.sIx cs.length 0 lo+k).filterMap (fun m=>(strOf cs).cps[m]?)=cut cs lo hi:=by
  have:(fun (m:Nat)=>(strOf cs).cps[m]?)=fun (m:Nat)=>cs[m]?:=by funext m;simp[strOf]
  rw[this,pick_cut];rfl
 split
 ·rename_i h
  rw[Bool.and_eq_true]at h
  have h2:HT.sIx cs.length cs.length hi - HT.sIx cs.length 0 lo=cs.length:=by simpa using h.2
  have h3:cut cs lo hi=cs:=by
   unfold cut
   rw[h2]
   by_cases hz:cs.length=0
   ·have:cs=[]:=List.length_eq_zero_iff.mp hz
    subst this;simp
   ·have:HT.sIx cs.length 0 lo=0:=by omega
    rw[this];simp
  rw[h3]
 ·rw[q]
noncomputable def slV:D->Option Int->Option Int->Stor->R D
 | .loc n,lo,hi,st=>match itemsAt st n with | some ds=>.ok (.loc st.length) (st++[.lst (cut ds lo hi)]) | none=>.bad
 | .tup ds,lo,hi,st=>.ok (.tup (cut ds lo hi)) st
 | .str cs,lo,hi,st=>if cs.length<=1000000 then .ok (.str (cut cs lo hi)) st else .bad
 | _,_,_,_=>.bad
noncomputable def rMS (X:Cx)(g:D->Option Int->Option Int->Stor->R D):V->Option Int->Option Int->Hp->VK->Prop:=fun x lo hi H Q=>∃μ st dx,RepS X.K μ H st/\RepV X.K μ H dx x/\Post X μ H (relV X) Q (g dx lo hi st)
noncomputable def rSlS:V->Option Int->Option Int->Hp->VK->Prop:=fun x lo hi H Q=>∃cs,x=.str (strOf cs)/\cs.length<=sizeLine/\Q (.str (strOf (cut cs lo hi))) H
theorem sl_str:SlR X rSlS:=by
 intro pins s σ H x v vl vu lo hi sl Q I rx hs pl pu h
 obtain⟨cs,rfl,hz,q⟩:=h
 obtain⟨t,rfl⟩:=rx
 obtain⟨l,el,ml⟩:∃l:Option (Int×Tok),vl=partValue l/\l.map (·.1)=lo:=by
  cases pl with
  | none=>exact⟨none,rfl,rfl⟩
  | int i u=>exact⟨some (i,u),rfl,rfl⟩
 obtain⟨u,eu,mu⟩:∃l:Option (Int×Tok),vu=partValue l/\l.map (·.1)=hi:=by
  cases pu with
  | none=>exact⟨none,rfl,rfl⟩
  | int i u=>exact⟨some (i,u),rfl,rfl⟩
 subst el eu
 have hs':s.heap.IsSlice sl l u none:=hs
 refine⟨"str",_,F.slot_str_getitem.lookup,typeIs_str _ _ _,wpAny_getItem_str_slice (l:=l) (u:=u) (st:=none) hs' rfl ?_⟩
 have e:Txt.slice (strOf cs) lo hi=strOf (cut cs lo hi):=slice_str cs lo hi
 unfold Txt.slice at e
 unfold sliceMade slicePicked
 rw[ml,mu]
 split
 ·rename_i h
  have h':((1:Int)==1 && (Builtin.Str.strSliceIndices lo hi 1 (strOf cs).length).length==(strOf cs).length)=true:=h
  rw[if_pos h']at e
  exact⟨.str (strOf cs),H,I,⟨t,rfl⟩,by rw[<-e]at q;exact q⟩
 ·rename_i h
  have h':¬ ((1:Int)==1 && (Builtin.Str.strSliceIndices lo hi 1 (strOf cs).length).length==(strOf cs).length)=true:=h
  rw[if_neg h']at e
  have e':({ cps:=((Builtin.Str.strSliceIndices lo hi ((Option.map (·.1) (none:Option (Int×Tok))).getD 1) (strOf cs).length).filterMap fun x=>(strOf cs).cps[x]?).toArray }:Str)=strOf (cut cs lo hi):=e
  rw[e']
  refine⟨?_,.str (strOf (cut cs lo hi)),H,I.tok _,⟨_,rfl⟩,q⟩
  have:(strOf (cut cs lo hi)).length=(cut cs lo hi).length:=by simp[Str.length,strOf]
  rw[this]
  refine Nat.le_trans ?_ hz
  unfold cut
  rw[List.length_take,List.length_drop]
  omega
theorem sl_V:SlR X (rMS X slV):=by
 refine SlR.weak (SlR.or sl_list (SlR.or sl_tup (SlR.or sl_tupW sl_str))) ?_
 rintro x lo hi H Q ⟨μ,st,dx,hs,hx,hp⟩
 cases dx with
 | loc n =>
  rw[RepV.loc_iff]at hx
  obtain⟨p,h1,rfl⟩:=hx
  simp only[slV]at hp
  cases e:itemsAt st n with
  | none=>rw[e]at hp;exact hp.elim
  | some ds =>
   rw[e]at hp
   obtain⟨p',xs,h3,h4,h5⟩:=hs.items e
   rw[h1]at h3;cases h3
   exact .inl ⟨p,xs,rfl,h4,fun q hq=>hp.newList hs (h5.cut lo hi) hq⟩
 | tup ds =>
  rw[RepV.tup_iff]at hx
  obtain⟨p,xs,rfl,h1,h2⟩:=hx
  by_cases hw:HT.sIx xs.length 0 lo=0/\HT.sIx xs.length xs.length hi=xs.length
  ·refine .inr (.inr (.inl ⟨p,xs,rfl,h1.sqT,hw,hp.ret hs ?_⟩))
   rw[<-h2.length]at hw
   rw[cut_whole hw];exact RepV.tup_iff.mpr ⟨p,xs,rfl,h1,h2⟩
  ·exact .inr (.inl ⟨p,xs,rfl,h1.sqT,hw,fun q hq=>hp _ _ μ (Grow.lay hq) (hs.lay hq) (RepV.tup_iff.mpr ⟨q,_,rfl,.inl zbd,(h2.cut lo hi).mono (Grow.lay hq) _⟩)⟩)
 | str cs =>
  rw[RepV.str_iff]at hx;subst hx
  simp only[slV]at hp
  split at hp
  ·rename_i hl
   exact .inr (.inr (.inr ⟨cs,rfl,zg6 hl,hp.ret hs (RepV.str_iff.mpr rfl)⟩))
  ·exact hp.elim
 | _=>exact hp.elim
noncomputable def noP:MP:=fun _ st=>.ok none st
noncomputable def inP (m:ME):MP:=fun env st=>(m env st).bind fun x st1=>match x with | .int i=>.ok (some i) st1 | _=>.bad
theorem zde:JP X none noP:=by
 refine JP.of po_none fun σ H Q zz=>?_
 obtain⟨μ,env,st,hE,hs,hp⟩:=zz
 exact hp.ret hs rfl
theorem zdc {m:ME}(h:JE X e m):JP X (some e) (inP m):=by
 refine JP.of (po_some h) fun σ H Q zz=>?_
 obtain⟨μ,env,st,hE,hs,hp⟩:=zz
 refine⟨μ,env,st,hE,hs,hp.bind.imp ?_⟩
 rintro x H1 ⟨μ1,st1,d,g1,hs1,hx,hp1⟩
 cases d with
 | int i=>exact⟨i,RepV.int_iff.mp hx,hp1.ret hs1 rfl⟩
 | _=>exact hp1.elim
noncomputable def slE (a:ME)(l h:MP):ME:=fun env st=>(a env st).bind fun x st1=>(l env st1).bind fun lo st2=>(h env st2).bind fun hi st3=>slV x lo hi st3
theorem zb4 {lo hi:Option Expr}{ml mh:MP}(he:JE X e ma)(hl:JP X lo ml)(hu:JP X hi mh):JE X (.Subscript e (.Slice lo hi none p2) pos) (slE ma ml mh):=by
 refine JE.of (pe_slice sl_V he hl hu) fun σ H Q zz=>?_
 obtain⟨μ,env,st,hE,hs,hp⟩:=zz
 refine⟨μ,env,st,hE,hs,hp.bind.imp ?_⟩
 rintro x H1 ⟨μ1,st1,d,g1,hs1,hx,hp1⟩
 refine⟨μ1,env,st1,hE.mono g1,hs1,hp1.bind.imp ?_⟩
 rintro l H2 ⟨μ2,st2,l',g2,hs2,rfl,hp2⟩
 refine⟨μ2,env,st2,(hE.mono g1).mono g2,hs2,hp2.bind.imp ?_⟩
 rintro u H3 ⟨μ3,st3,u',g3,hs3,rfl,hp3⟩
 exact⟨μ3,st3,d,hs3,hx.mono (g2.trans g3) _,hp3⟩
noncomputable def callE (g:List D->Stor->R D)(mA:MA):ME:=fun env st=>(mA env st).bind fun ds st1=>g ds st1
theorem zmt {g:List D->Stor->R D}{σ:L2.St}{H:Hp}{Q:VK}(h:tM X (callE g mA) σ H Q):tMA X mA σ H fun vs H1=>rMC X g vs H1 Q:=by
 obtain⟨μ,env,st,hE,hs,hp⟩:=h
 refine⟨μ,env,st,hE,hs,hp.bind.imp ?_⟩
 rintro xs H1 ⟨μ1,st1,ds,g1,hs1,hx,hp1⟩
 exact⟨μ1,st1,ds,hs1,hx,hp1⟩
theorem zaq {x:Str}{p:Pos}{id:String}{g:List D->Stor->R D}(hc:CallR X (.builtin id) (rMC X g))(hg:Gl X x)(hm:X.mg x=none)(hv:bootBuiltins x=some (.builtin id))(ha:JA X (e::es) mA)(hn:x ≠ "__name__":=by decide)(hdb:(x==("__debug__":Str))=false:=by decide)
  (he:starEach (e::es) X.env=(false,eval e X.env)::starEach es X.env:=by rfl) (hpl:(backTo pos (starEach es X.env)).any (·.1)=false:=by rfl):JE X (.Call (.Name x p) (e::es) [] pos) (callE g mA) :=
 JE.of (zl0 hc hg hm hv ha hn hdb he hpl) fun σ H Q h=>zmt h
theorem zhy {x:Str}{p:Pos}{T:String}{g:List D->Stor->R D}(hc:CallR X (.type T) (rMC X g))(hg:Gl X x)(hm:X.mg x=none)(hv:bootBuiltins x=some (.type T))(ha:JA X (e::es) mA)(hn:x ≠ "__name__":=by decide)(hdb:(x==("__debug__":Str))=false:=by decide)
  (he:starEach (e::es) X.env=(false,eval e X.env)::starEach es X.env:=by rfl) (hpl:(backTo pos (starEach es X.env)).any (·.1)=false:=by rfl):JE X (.Call (.Name x p) (e::es) [] pos) (callE g mA) :=
 JE.of (pe_callTy hc hg hm hv ha hn hdb he hpl) fun σ H Q h=>zmt h
end
end M
namespace M
open PySem PySem.Spec L2
inductive Out where
 | nx (env:MEnv) | rt (d:D) | bk (env:MEnv) | cn (env:MEnv)
noncomputable abbrev MS:=MEnv->Stor->R Out
noncomputable def PostS (X:Cx)(μ:List Addr)(H:Hp)(E:Ends)(r:R Out):Prop:=match r with
 | .ok (.nx env) st=>∀(σ':L2.St) (H':Hp) (μ':List Addr),Grow μ H μ' H'->RepS X.K μ' H' st->RepE X.K μ' H' env σ'->E.nx σ' H'
 | .ok (.rt d) st=>∀(v:V) (H':Hp) (μ':List Addr),Grow μ H μ' H'->RepS X.K μ' H' st->RepV X.K μ' H' d v->E.rt v H'
 | .ok (.bk env) st=>∀(σ':L2.St) (H':Hp) (μ':List Addr),Grow μ H μ' H'->RepS X.K μ' H' st->RepE X.K μ' H' env σ'->E.bk σ' H'
 | .ok (.cn env) st=>∀(σ':L2.St) (H':Hp) (μ':List Addr),Grow μ H μ' H'->RepS X.K μ' H' st->RepE X.K μ' H' env σ'->E.ct σ' H'
 | .err x st=>ErrOK X μ H x st
 | .bad=>False
noncomputable def tMS (X:Cx)(m:MS):TS:=fun E σ H=>∃μ env st,RepE X.K μ H env σ/\RepS X.K μ H st/\PostS X μ H E (m env st)
noncomputable def JS (X:Cx)(s:Stmt)(m:MS):Prop:=PS X s (tMS X m)
noncomputable def JSs (X:Cx)(s:List Stmt)(m:MS):Prop:=PSs X s (tMS X m)
section
variable {X:Cx}{e a b c:Expr}{es:List Expr}{t:TE}{ma mb mc:ME}{mA:MA}{pos p2:Pos}{s:Stmt}{ss:List Stmt}{m m1 m2:MS}{μ μ1:List Addr}{H H1:Hp}{E E':Ends}{r:R Out}
theorem PostS.mono (g:Grow μ H μ1 H1)(h:PostS X μ H E r):PostS X μ1 H1 E r:=by
 match r,h with
 | .ok (.nx _) _,h=>exact fun σ' H' μ' g'=>h σ' H' μ' (g.trans g')
 | .ok (.rt _) _,h=>exact fun σ' H' μ' g'=>h σ' H' μ' (g.trans g')
 | .ok (.bk _) _,h=>exact fun σ' H' μ' g'=>h σ' H' μ' (g.trans g')
 | .ok (.cn _) _,h=>exact fun σ' H' μ' g'=>h σ' H' μ' (g.trans g')
 | .err _ _,h=>exact ErrOK.mono g h
 | .bad,h=>exact h
theorem JS.of {t:TS}(h:PS X s t)(k:∀E σ H,tMS X m E σ H->t E σ H):JS X s m:=fun pins s σ H D I q=>h pins s σ H D I (k D σ H q)
theorem JSs.of {t:TS}(h:PSs X ss t)(k:∀E σ H,tMS X m E σ H->t E σ H):JSs X ss m:=fun pins s σ H D I q=>h pins s σ H D I (k D σ H q)
theorem PostS.nx {env:MEnv}{st:Stor}{σ:L2.St}(h:PostS X μ H E (.ok (.nx env) st))(hs:RepS X.K μ H st)(hE:RepE X.K μ H env σ):E.nx σ H:=h σ H μ (.refl _ _) hs hE
noncomputable def skipS:MS:=fun env st=>.ok (.nx env) st
noncomputable def seqS (a b:MS):MS:=fun env st=>(a env st).bind fun o st1=>match o with | .nx env1=>b env1 st1 | o=>.ok o st1
noncomputable def retS (m:ME):MS:=fun env st=>(m env st).bind fun d st1=>.ok (.rt d) st1
noncomputable def exprS (m:ME):MS:=fun env st=>(m env st).bind fun _ st1=>.ok (.nx env) st1
noncomputable def ifS (c:MT)(a b:MS):MS:=fun env st=>(c env st).bind fun x st1=>if x then a env st1 else b env st1
theorem zdz:JSs X [] skipS:=by
 refine JSs.of pss_nil fun E σ H zz=>?_
 obtain⟨μ,env,st,hE,hs,hp⟩:=zz
 exact hp.nx hs hE
theorem zam (h:JS X s m):JSs X [s] m:=pss_one h
theorem PostS.seq (h:PostS X μ H E (r.bind fun o st1=>match o with | .nx env1=>m2 env1 st1 | o=>.ok o st1)):PostS X μ H { E with nx:=tMS X m2 E } r:=by
 match r,h with
 | .ok (.nx env1) st1,h=>exact fun σ' H' μ' g hs hE=>⟨μ',env1,st1,hE,hs,PostS.mono g h⟩
 | .ok (.rt _) _,h=>exact h
 | .ok (.bk _) _,h=>exact h
 | .ok (.cn _) _,h=>exact h
 | .err _ _,h=>exact h
 | .bad,h=>exact h
theorem zaf (h1:JS X s m1)(h2:JSs X ss m2):JSs X (s::ss) (seqS m1 m2):=by
 refine JSs.of (pss_cons h1 h2) fun E σ H zz=>?_
 obtain⟨μ,env,st,hE,hs,hp⟩:=zz
 exact⟨μ,env,st,hE,hs,PostS.seq hp⟩
theorem PostS.val {α β:Type}{rel:Rel α β}{r:R α}{f:α->Stor->R Out}(h:PostS X μ H E (r.bind f)):Post X μ H rel (fun b H1=>∃μ1 st1 a,Grow μ H μ1 H1/\RepS X.K μ1 H1 st1/\rel μ1 H1 a b/\PostS X μ1 H1 E (f a st1)) r:=by
 cases r with
 | ok a st=>exact fun b H' μ' g h1 h2=>⟨μ',st,a,g,h1,h2,PostS.mono g h⟩
 | err x st=>exact h
 | bad=>exact h
theorem zbl (h:JE X e ma):JS X (.Return (some e) pos) (retS ma):=by
 refine JS.of (ps_ret h) fun E σ H zz=>?_
 obtain⟨μ,env,st,hE,hs,hp⟩:=zz
 refine⟨μ,env,st,hE,hs,hp.val.imp ?_⟩
 rintro v H1 ⟨μ1,st1,d,g1,hs1,hv,hp1⟩
 exact hp1 v H1 μ1 (.refl _ _) hs1 hv
theorem zfg (h:JE X e ma)(hs:swapsWith e none pos.line X.env=pure false:=by rfl):JS X (.Expr e pos) (exprS ma):=by
 refine JS.of (ps_expr h hs) fun E σ H zz=>?_
 obtain⟨μ,env,st,hE,hs,hp⟩:=zz
 refine⟨μ,env,st,hE,hs,hp.val.imp ?_⟩
 rintro v H1 ⟨μ1,st1,d,g1,hs1,hv,hp1⟩
 exact hp1.nx hs1 (hE.mono g1)
theorem js_if {sa sb:List Stmt}{tc:MT}(hc:JT X c tc)(ha:JSs X sa m1)(hb:JSs X sb m2):JS X (.If c sa sb pos) (ifS tc m1 m2):=by
 refine JS.of (ps_if hc ha hb) fun E σ H zz=>?_
 obtain⟨μ,env,st,hE,hs,hp⟩:=zz
 refine⟨μ,env,st,hE,hs,hp.val.imp ?_⟩
 rintro v H1 ⟨μ1,st1,d,g1,hs1,rfl,hp1⟩
 cases d with
 | true=>exact iteT ⟨μ1,env,st1,hE.mono g1,hs1,hp1⟩
 | false=>exact iteF ⟨μ1,env,st1,hE.mono g1,hs1,hp1⟩
noncomputable abbrev MG:=D->MEnv->Stor->R MEnv
noncomputable abbrev MGs:=List D->MEnv->Stor->R MEnv
noncomputable abbrev relE (X:Cx):Rel MEnv L2.St:=fun μ H env σ=>RepE X.K μ H env σ
noncomputable def tMG (X:Cx)(m:MG):TG:=fun v σ H Q=>∃μ env st d,RepE X.K μ H env σ/\RepS X.K μ H st/\RepV X.K μ H d v/\Post X μ H (relE X) Q (m d env st)
noncomputable def tMGs (X:Cx)(m:MGs):TGs:=fun vs σ H Q=>∃μ env st ds,RepE X.K μ H env σ/\RepS X.K μ H st/\RepVs X.K μ H ds vs/\Post X μ H (relE X) Q (m ds env st)
noncomputable def JG (X:Cx)(t:Expr)(m:MG):Prop:=PG X t (tMG X m)
noncomputable def JGs (X:Cx)(ts:List Expr)(m:MGs):Prop:=PGs X ts (tMGs X m)
theorem JG.of {g:TG}{m:MG}(h:PG X e g)(k:∀v σ H Q,tMG X m v σ H Q->g v σ H Q):JG X e m:=fun pins s σ H v u Q I r q=>h pins s σ H v u Q I r (k v σ H Q q)
theorem JGs.of {g:TGs}{m:MGs}(h:PGs X es g)(k:∀v σ H Q,tMGs X m v σ H Q->g v σ H Q):JGs X es m:=fun pins s σ H v u Q I r q=>h pins s σ H v u Q I r (k v σ H Q q)
noncomputable def nameG (i:Nat):MG:=fun d env st=>.ok (env.set i (some d)) st
theorem zak (i:Nat){x:Str}(hN:X.N.Nodup)(hi:X.N[i]? = some x:=by rfl)(hx:Loc X.env.scope x:=by first | exact Or.inl rfl | exact Or.inr rfl)(hf:X.fn x=true\/X.env.scope.names.lookup x=some .local:=by first | exact .inl rfl | exact .inr rfl | assumption):JG X (.Name x pos) (nameG i):=by
 refine JG.of (pg_name hN hi hx hf) fun v σ H Q zz=>?_
 obtain⟨μ,env,st,d,hE,hs,hv,hp⟩:=zz
 exact hp.ret hs (hE.set hv)
noncomputable def nilG:MGs:=fun ds env st=>match ds with | []=>.ok env st | _=>.bad
noncomputable def consG (g:MG)(r:MGs):MGs:=fun ds env st=>match ds with | d::ds=>(g d env st).bind fun env1 st1=>r ds env1 st1 | _=>.bad
theorem zgu:JGs X [] nilG:=JGs.of pgs_nil fun vs σ H Q zz=>by
 obtain⟨μ,env,st,ds,hE,hs,hv,hp⟩:=zz
 cases ds with
 | nil=>rw[RepVs]at hv;exact⟨hv,hp.ret hs hE⟩
 | cons _ _=>exact hp.elim
theorem zas {g:MG}{gs:MGs}(h1:JG X e g)(h2:JGs X es gs)(hs:(assignEach (e::es) X.env).map (·.2)=assign e X.env::(assignEach es X.env).map (·.2):=by rfl):JGs X (e::es) (consG g gs) :=
 JGs.of (pgs_cons h1 h2 hs) fun vs σ H Q zz=>by
 obtain⟨μ,env,st,ds,hE,hs,hv,hp⟩:=zz
 cases ds with
 | nil=>exact hp.elim
 | cons d ds =>
  rw[RepVs]at hv
  obtain⟨v,r,rfl,h3,h4⟩:=hv
  refine⟨v,r,rfl,μ,env,st,d,hE,hs,h3,(Post.bind hp).imp ?_⟩
  rintro σ1 H1 ⟨μ1,st1,env1,g1,hs1,hE1,hp1⟩
  exact⟨μ1,env1,st1,ds,hE1,hs1,h4.mono g1 _,hp1⟩
noncomputable def tupG (n:Nat)(g:MGs):MG:=fun d env st=>match d with | .tup ds=>if ds.length=n then g ds env st else .bad | _=>.bad
theorem zjj {gs:MGs}{k:Nat}(n:Nat)(hc:X.calm=true)(h:JGs X es gs)(hn:(assignEach es X.env).length=n:=by rfl)(hst:(assignEach es X.env).findIdx? (·.1)=none:=by rfl):JG X (.Tuple es k pos) (tupG n gs) :=
 JG.of (pg_tup hc h hn hst) fun v σ H Q zz=>by
 obtain⟨μ,env,st,d,hE,hs,hv,hp⟩:=zz
 cases d with
 | tup ds =>
  rw[RepV.tup_iff]at hv
  obtain⟨p,xs,rfl,h1,h2⟩:=hv
  simp only[tupG]at hp
  split at hp
  ·rename_i hl
   exact⟨p,xs,rfl,h1.sqT,by rw[<-h2.length];exact hl,μ,env,st,ds,hE,hs,h2,hp⟩
  ·exact hp.elim
 | _=>exact hp.elim
noncomputable def setV:D->D->D->Stor->R Unit
 | .loc n,.int i,d,st=>match st[n]? with
  | some (.lst ds)=>(match ixN ds.length i with | some j=>.ok () (st.set n (.lst (ds.set j d))) | none=>.bad)
  | _=>.bad
 | _,_,_,_=>.bad
noncomputable abbrev relU:Rel Unit Unit:=fun _ _ _ _=>True
noncomputable def rMSet (X:Cx)(g:D->D->D->Stor->R Unit):TSet:=fun o i v H Q=>∃μ st d1 d2 d3,RepS X.K μ H st/\RepV X.K μ H d1 o/\RepV X.K μ H d2 i/\RepV X.K μ H d3 v/\Post X μ H relU (fun _=>Q) (g d1 d2 d3 st)
theorem putLst {st:Stor}{n:Nat}{ds ds':List D}{p:Addr}{xs ys:List V}(hs:RepS X.K μ H st)(e:st[n]? = some (.lst ds))(hp:μ[n]? = some p)(hx:H p=some (.lst xs))(hy:RepVs X.K μ H ds' ys) :
  Grow μ H μ (upd H p (.lst ys))/\RepS X.K μ (upd H p (.lst ys)) (st.set n (.lst ds')):=by
 have g:Ext H (upd H p (.lst ys)):=Ext.mut hx (fun _ z=>nomatch z) (fun _ _ z=>nomatch z)
 have g':Grow μ H μ (upd H p (.lst ys)):=⟨⟨[],by simp⟩,g⟩
 exact⟨g',hs.put e rfl rfl hp g ⟨ys,zbd,hy.mono g' _⟩⟩
theorem set_V:PSet X (rMSet X setV):=by
 refine PSet.weak set_list ?_
 rintro o i v H Q ⟨μ,st,d1,d2,d3,hs,h1,h2,h3,hp⟩
 cases d1 with
 | loc n =>
  cases d2 with
  | int k =>
   rw[RepV.loc_iff]at h1
   rw[RepV.int_iff]at h2
   obtain⟨p,hn,rfl⟩:=h1
   subst h2
   simp only[setV]at hp
   cases e:st[n]? with
   | none=>rw[e]at hp;exact hp.elim
   | some mo =>
    cases mo with
    | lst ds =>
     rw[e]at hp
     simp only at hp
     obtain⟨p',xs,q1,q2,q3⟩:=hs.lst e
     rw[hn]at q1;cases q1
     cases e2:ixN ds.length k with
     | none=>rw[e2]at hp;exact hp.elim
     | some j =>
      rw[e2]at hp
      obtain⟨g,hs'⟩:=putLst hs e hn q2 (RepVs.set h3 j q3)
      exact⟨p,xs,k,j,rfl,rfl,q2,by rw[<-q3.length];exact e2,hp () _ μ g hs' trivial⟩
    | _=>rw[e]at hp;exact hp.elim
  | _=>exact hp.elim
 | _=>exact hp.elim
noncomputable def subG (g:D->D->D->Stor->R Unit)(o i:ME):MG:=fun d env st=>(o env st).bind fun x st1=>(i env st1).bind fun y st2=>(g x y d st2).bind fun _ st3=>.ok env st3
theorem zkt {o i:Expr}{mo mi:ME}{g:D->D->D->Stor->R Unit}(hset:PSet X (rMSet X g))(ho:JE X o mo)(hi:JE X i mi)
  (ha:∀v,assign (.Subscript o i pos) X.env v=(do
   let ov <-holding [v] (eval o X.env)
   let iv <-holding [v,ov] (eval i X.env)
   standAt pos
   holding [v,ov,iv] (setItem ov iv v)
   release [v,ov,iv] []):=by intro _;rfl):JG X (.Subscript o i pos) (subG g mo mi):=by
 refine JG.of (pg_sub ho hi hset ha) fun v σ H Q zz=>?_
 obtain⟨μ,env,st,d,hE,hs,hv,hp⟩:=zz
 refine⟨μ,env,st,hE,hs,(Post.bind hp).imp ?_⟩
 rintro x H1 ⟨μ1,st1,dx,g1,hs1,hx,hp1⟩
 refine⟨μ1,env,st1,hE.mono g1,hs1,(Post.bind hp1).imp ?_⟩
 rintro y H2 ⟨μ2,st2,dy,g2,hs2,hy,hp2⟩
 refine⟨μ2,st2,dx,dy,d,hs2,hx.mono g2 _,hy,(hv.mono g1 _).mono g2 _,(Post.bind hp2).imp ?_⟩
 rintro _ H3 ⟨μ3,st3,_,g3,hs3,_,hp3⟩
 exact hp3.ret hs3 (((hE.mono g1).mono g2).mono g3)
noncomputable def asgS (m:ME)(g:MG):MS:=fun env st=>(m env st).bind fun d st1=>(g d env st1).bind fun env1 st2=>.ok (.nx env1) st2
theorem zgp {tg:Expr}{g:MG}(he:JE X e ma)(hg:JG X tg g)(hs:swapsWithSole [tg] e pos.line X.env=pure false:=by rfl)(hw:swappedStores [tg] e X.env=pure none:=by rfl)(h1:(assignEach [tg] X.env).map (·.2)=[assign tg X.env]:=by rfl):JS X (.Assign [tg] e pos) (asgS ma g):=by
 refine JS.of (ps_asg he hg hs hw h1) fun E σ H zz=>?_
 obtain⟨μ,env,st,hE,hs,hp⟩:=zz
 refine⟨μ,env,st,hE,hs,hp.val.imp ?_⟩
 rintro x H1 ⟨μ1,st1,d,g1,hs1,hx,hp1⟩
 refine⟨μ1,env,st1,d,hE.mono g1,hs1,hx,hp1.val.imp ?_⟩
 rintro σ2 H2 ⟨μ2,st2,env2,g2,hs2,hE2,hp2⟩
 exact hp2.nx hs2 hE2
noncomputable def setS (i:Nat)(m:ME):MS:=asgS m (nameG i)
theorem zaj (i:Nat){x:Str}{pos':Pos}(he:JE X e ma)(hN:X.N.Nodup)(hi:X.N[i]? = some x:=by rfl)(hx:Loc X.env.scope x:=by first | exact Or.inl rfl | exact Or.inr rfl)(hs:swapsWith e (some (.Name x pos')) pos.line X.env=pure false:=by rfl)
  (hf:X.fn x=true\/X.env.scope.names.lookup x=some .local:=by first | exact .inl rfl | exact .inr rfl | assumption):JS X (.Assign [.Name x pos'] e pos) (setS i ma):=by
 refine JS.of (ps_set hN hi hx he hs hf) fun E σ H zz=>?_
 obtain⟨μ,env,st,hE,hs,hp⟩:=zz
 refine⟨μ,env,st,hE,hs,hp.val.imp ?_⟩
 rintro x H1 ⟨μ1,st1,d,g1,hs1,hx,hp1⟩
 exact hp1.nx hs1 ((hE.mono g1).set hx)
end
end M
namespace M
open PySem PySem.Spec L2
section
variable {X:Cx}{e a b c:Expr}{es:List Expr}{t:TE}{ma mb mc:ME}{mA:MA}{pos p2:Pos}{s:Stmt}{ss body:List Stmt}{m m1 m2 mb:MS}{μ μ1:List Addr}{H H1:Hp}{E E':Ends}{r:R Out}{tc:MT}
theorem PostS.loop {nxt:MEnv->Stor->R Out}{N:L2.St->Hp->Prop}
  (h:PostS X μ H E (r.bind fun o st2=>(match o with
   | .nx env2=>nxt env2 st2
   | .cn env2=>nxt env2 st2
   | .bk env2=>.ok (.nx env2) st2
   | .rt d=>.ok (.rt d) st2)))
  (hN:∀env2 st2 σ' H' μ',Grow μ H μ' H'->RepS X.K μ' H' st2->RepE X.K μ' H' env2 σ'->PostS X μ' H' E (nxt env2 st2)->N σ' H') :
  PostS X μ H { E with nx:=N,ct:=N,bk:=E.nx } r:=by
 match r,h with
 | .ok (.nx env1) st1,h=>exact fun σ' H' μ' g hs hE=>hN env1 st1 σ' H' μ' g hs hE (PostS.mono g h)
 | .ok (.cn env1) st1,h=>exact fun σ' H' μ' g hs hE=>hN env1 st1 σ' H' μ' g hs hE (PostS.mono g h)
 | .ok (.rt _) _,h=>exact h
 | .ok (.bk _) _,h=>exact h
 | .err _ _,h=>exact h
 | .bad,h=>exact h
noncomputable abbrev Src:=List D×List (Nat×MO)
noncomputable abbrev MI:=MEnv->Stor->R Src
noncomputable def okG (gs:List (Nat×MO))(st:Stor):Prop:=∀g∈gs,st[g.1]? = some g.2
@[simp] theorem okG_nil (st:Stor):okG [] st:=fun _ h=>nomatch h
@[simp] theorem okG_cons (g:Nat×MO) (gs:List (Nat×MO)) (st:Stor):okG (g::gs) st↔st[g.1]? = some g.2/\okG gs st:=by simp[okG]
noncomputable def ItRep (X:Cx)(μ:List Addr)(H:Hp)(J:It)(s:Src):Prop:=∀(H':Hp) (μ':List Addr) (st':Stor),Grow μ H μ' H'->RepS X.K μ' H' st'->okG s.2 st' ->
 (∀(i:Nat) (d:D),s.1[i]? = some d->J.go i H'/\∀x H'',J.yld i H' x H''->Grow μ' H' μ' H''/\RepS X.K μ' H'' st'/\RepV X.K μ' H'' d x)/\J.stop s.1.length H'
noncomputable abbrev relI (X:Cx):Rel Src It:=fun μ H s J=>ItRep X μ H J s
noncomputable def tMI (X:Cx)(m:MI):TI:=fun σ H Q=>∃μ env st,RepE X.K μ H env σ/\RepS X.K μ H st/\Post X μ H (relI X) (fun J H'=>Q J H') (m env st)
noncomputable def JI (X:Cx)(tg iter:Expr)(m:MI):Prop:=PI X tg iter (tMI X m)
theorem JI.of {tg iter:Expr}{wi:TI}{m:MI}(h:PI X tg iter wi)(k:∀σ H Q,tMI X m σ H Q->wi σ H Q):JI X tg iter m:=fun pins s σ H R I q=>h pins s σ H R I (k σ H R q)
open Classical in
noncomputable def forGo (g:MG)(b:MS)(gs:List (Nat×MO)):List D->MS
 | [],env,st=>if okG gs st then .ok (.nx env) st else .bad
 | d::r,env,st=>if okG gs st then (g d env st).bind fun env1 st1=>(b env1 st1).bind fun o st2=>(match o with
   | .nx env2=>forGo g b gs r env2 st2
   | .cn env2=>forGo g b gs r env2 st2
   | .bk env2=>.ok (.nx env2) st2
   | .rt d=>.ok (.rt d) st2) else .bad
noncomputable def forS (mi:MI)(g:MG)(b:MS):MS:=fun env st=>(mi env st).bind fun s st1=>forGo g b s.2 s.1 env st1
theorem zel {tg iter:Expr}{mi:MI}{g:MG}(hi:JI X tg iter mi)(hg:JG X tg g)(hb:JSs X body mb)(hp:PassesOwn (model X.prog X.w) X.A X.env X.xe)(hc:X.calm=true)
  (hs:∀x,foldedSetIterable iter X.env x=pure x:=by intro _;rfl):JS X (.For tg iter body [] pos) (forS mi g mb):=by
 refine JS.of (ps_for hp hc hi hg hb hs) fun E σ H zz=>?_
 obtain⟨μ,env,st,hE,hs,hp⟩:=zz
 refine⟨μ,env,st,hE,hs,(PostS.val hp).imp ?_⟩
 rintro J H1 ⟨μ1,st1,s,g1,hs1,hJ,hp1⟩
 refine⟨fun i k σ H=>∃μ2 env2 st2,Grow μ1 H1 μ2 H/\RepE X.K μ2 H env2 σ/\RepS X.K μ2 H st2/\PostS X μ2 H E (forGo g mb s.2 (s.1.drop i) env2 st2)/\i<=s.1.length/\k=s.1.length - i,
  ⟨_,μ1,env,st1,.refl _ _,hE.mono g1,hs1,by simpa using hp1,Nat.zero_le _,rfl⟩,?_⟩
 rintro i k σ2 H2 ⟨μ2,env2,st2,g2,hE2,hs2,hp2,hi,rfl⟩
 by_cases hlt:i<s.1.length
 ·have e1:s.1.drop i=s.1[i]::s.1.drop (i+1):=List.drop_eq_getElem_cons hlt
  rw[e1,forGo]at hp2
  by_cases ok:okG s.2 st2
  ·rw[if_pos ok]at hp2
   obtain⟨q1,q2⟩:=(hJ H2 μ2 st2 g2 hs2 ok).1 i s.1[i] (List.getElem?_eq_getElem hlt)
   refine .inr ⟨q1,fun σ' H'=>∃μ3 env3 st3,Grow μ1 H1 μ3 H'/\RepE X.K μ3 H' env3 σ'/\RepS X.K μ3 H' st3/\PostS X μ3 H' E (forGo g mb s.2 (s.1.drop (i+1)) env3 st3),?_,?_⟩
   ·rintro σ' H' ⟨μ3,env3,st3,g3,hE3,hs3,hp3⟩
    exact⟨s.1.length - (i+1),by omega,μ3,env3,st3,g3,hE3,hs3,hp3,by omega,rfl⟩
   ·intro x H3 hx
    obtain⟨g3,hs3,hd⟩:=q2 x H3 hx
    refine⟨μ2,env2,st2,s.1[i],hE2.mono g3,hs3,hd,(PostS.val (PostS.mono g3 hp2)).imp ?_⟩
    rintro σ4 H4 ⟨μ4,st4,env4,g4,hs4,hE4,hp4⟩
    refine⟨μ4,env4,st4,hE4,hs4,?_⟩
    exact PostS.loop (nxt:=forGo g mb s.2 (s.1.drop (i+1))) hp4 fun env5 st5 σ' H' μ' g5 hs5 hE5 q=>⟨μ',env5,st5,((g2.trans g3).trans g4).trans g5,hE5,hs5,q⟩
  ·rw[if_neg ok]at hp2;exact hp2.elim
 ·have e1:s.1.drop i=[]:=List.drop_eq_nil_of_le (by omega)
  rw[e1,forGo]at hp2
  have e2:i=s.1.length:=by omega
  by_cases ok:okG s.2 st2
  ·rw[if_pos ok]at hp2
   refine .inl ⟨by rw[e2];exact (hJ H2 μ2 st2 g2 hs2 ok).2,hp2.nx hs2 hE2⟩
  ·rw[if_neg ok]at hp2;exact hp2.elim
noncomputable def seqI (m:ME):MI:=fun env st=>(m env st).bind fun d st1=>match d with
 | .loc n=>(match st1[n]? with
  | some (.lst ds)=>.ok (ds,[(n,.lst ds)]) st1
  | some (.frz ds)=>.ok (ds,[(n,.frz ds)]) st1
  | _=>.bad)
 | .tup ds=>.ok (ds,[]) st1
 | _=>.bad
theorem PI.or {tg l:Expr}{w1 w2:TI}(h1:PI X tg l w1)(h2:PI X tg l w2):PI X tg l (fun σ H R=>w1 σ H R\/w2 σ H R):=fun pins s σ H R I h=>h.elim (h1 pins s σ H R I) (h2 pins s σ H R I)
theorem itl_rep {n:Nat}{ds:List D}{p:Addr}{o:MO}{st:Stor}(ho:o=.lst ds\/o=.frz ds)(hp:μ[n]? = some p):ItRep X μ H (Itl X.K p) (ds,[(n,o)]):=by
 intro H' μ' st' g hs ok
 have e:st'[n]? = some o:=(ok (n,o) (by simp))
 have e2:itemsAt st' n=some ds:=by
  unfold itemsAt
  rcases ho with rfl | rfl<;>rw[e]
 obtain⟨p',xs,q1,q2,q3⟩:=hs.items e2
 rw[g.get hp]at q1;cases q1
 refine⟨fun i d hd=>?_,xs,q2,Nat.le_of_eq q3.length.symm⟩
 obtain⟨v,h1,h2⟩:=q3.get hd
 refine⟨⟨xs,v,q2,h1⟩,?_⟩
 rintro x H'' ⟨rfl,hx⟩
 have:=hx xs q2
 rw[h1]at this;cases this
 exact⟨.refl _ _,hs,h2⟩
theorem itt_rep {ds:List D}{p:Addr}{xs:List V}(hq:SqT X.K H p xs)(hd:RepVs X.K μ H ds xs):ItRep X μ H (Itt X.K p) (ds,[]):=by
 intro H' μ' st' g hs ok
 have hq':=g.ext.sqT hq
 have hd':=hd.mono g ds
 refine⟨fun i d e=>?_,xs,hq',Nat.le_of_eq hd.length.symm⟩
 obtain⟨v,h1,h2⟩:=hd'.get e
 refine⟨⟨xs,v,hq',h1⟩,?_⟩
 rintro x H'' ⟨rfl,hx⟩
 have:=hx xs hq'
 rw[h1]at this;cases this
 exact⟨.refl _ _,hs,h2⟩
theorem zjm {tg l:Expr}(h:JE X l ma):JI X tg l (seqI ma):=by
 refine JI.of (PI.or (pi_list h) (pi_tup h)) fun σ H R hh=>?_

 obtain⟨μ,env,st,hE,hs,hp⟩:=hh
 unfold seqI at hp
 cases hr:ma env st with
 | bad=>rw[hr]at hp;exact hp.elim
 | err x st1 =>
  rw[hr]at hp
  refine .inl ⟨μ,env,st,hE,hs,?_⟩
  rw[hr];exact hp
 | ok d st1 =>
  rw[hr,M.R.bind_ok]at hp
  cases d with
  | loc n =>
   simp only at hp
   refine .inl ⟨μ,env,st,hE,hs,?_⟩
   rw[hr]
   intro v H1 μ1 g1 hs1 hv
   obtain⟨p,q1,rfl⟩:=RepV.loc_iff.mp hv
   cases e:st1[n]? with
   | none=>rw[e]at hp;exact hp.elim
   | some mo =>
    cases mo with
    | lst ds =>
     rw[e]at hp
     obtain⟨p',xs,r1,r2,r3⟩:=hs1.lst e
     rw[q1]at r1;cases r1
     exact⟨p,rfl,⟨xs,SqL.of r2⟩,hp _ _ _ g1 hs1 (itl_rep (st:=st1) (.inl rfl) q1)⟩
    | frz ds =>
     rw[e]at hp
     obtain⟨p',r1,xs,r2,r3⟩:=hs1.at_ n _ e
     rw[q1]at r1;cases r1
     exact⟨p,rfl,⟨xs,r2.sqL⟩,hp _ _ _ g1 hs1 (itl_rep (st:=st1) (.inr rfl) q1)⟩
    | _=>rw[e]at hp;exact hp.elim
  | tup ds =>
   refine .inr ⟨μ,env,st,hE,hs,?_⟩
   rw[hr]
   intro v H1 μ1 g1 hs1 hv
   obtain⟨p,xs,rfl,q1,q2⟩:=RepV.tup_iff.mp hv
   exact⟨p,rfl,⟨xs,q1.sqT⟩,hp _ _ _ g1 hs1 (itt_rep q1.sqT q2)⟩
  | _=>exact hp.elim
noncomputable def upto (lo:Int)(n:Nat):List D:=(List.range n).map fun (k:Nat)=>.int (lo+k)
noncomputable def range1I (mA:MA):MI:=fun env st=>(mA env st).bind fun ds st1=>match ds with
 | [.int j]=>if -(2 ^ 62)<=j/\j<2 ^ 62 then .ok (upto 0 j.toNat,[]) st1 else .bad
 | _=>.bad
theorem itr_rep (lo:Int)(n:Nat):ItRep X μ H (Itr lo n) (upto lo n,[]):=by
 intro H' μ' st' g hs ok
 refine⟨fun i d e=>?_,by show n<=_;simp[upto]⟩
 have hi:i<n:=by have:=(List.getElem?_eq_some_iff.mp e).1;simpa[upto] using this
 simp[upto,hi]at e
 subst e
 refine⟨hi,?_⟩
 rintro x H'' ⟨rfl,rfl⟩
 exact⟨.refl _ _,hs,RepV.int_iff.mpr rfl⟩
theorem RepVs.one {K:PySem.W.Frag}{μ:List Addr}{H:Hp}{d:D}{vs:List V}(h:RepVs K μ H [d] vs):∃v,vs=[v]/\RepV K μ H d v:=by
 rw[RepVs]at h
 obtain⟨v,r,rfl,q1,q2⟩:=h
 rw[RepVs]at q2;subst q2
 exact⟨v,rfl,q1⟩
theorem RepVs.two {K:PySem.W.Frag}{μ:List Addr}{H:Hp}{d1 d2:D}{vs:List V}(h:RepVs K μ H [d1,d2] vs):∃v w,vs=[v,w]/\RepV K μ H d1 v/\RepV K μ H d2 w:=by
 rw[RepVs]at h
 obtain⟨v,r,rfl,q1,q2⟩:=h
 obtain⟨w,rfl,q3⟩:=RepVs.one q2
 exact⟨v,w,rfl,q1,q3⟩
theorem zdr {tg:Expr}{p:Pos}(ha:JA X [a] mA)(hg:Gl X "range")(hm:X.mg "range" = none)(hs:starEach [a] X.env=[(false,eval a X.env)]:=by rfl):JI X tg (.Call (.Name "range" p) [a] [] pos) (range1I mA):=by
 refine JI.of (pi_range1 hg hm ha hs) fun σ H R zz=>?_
 obtain⟨μ,env,st,hE,hs,hp⟩:=zz
 refine⟨μ,env,st,hE,hs,(Post.bind hp).imp ?_⟩
 rintro vs H1 ⟨μ1,st1,ds,g1,hs1,hv,hp1⟩
 dsimp only at hp1
 split at hp1
 ·split at hp1
  ·rename_i hc
   obtain⟨v,rfl,q1⟩:=RepVs.one hv
   rw[RepV.int_iff]at q1;subst q1
   exact⟨_,rfl,hc.1,hc.2,hp1 _ _ _ (.refl _ _) hs1 (itr_rep 0 _)⟩
  ·exact hp1.elim
 ·exact hp1.elim
end
noncomputable abbrev FD:=List D->Stor->R D
noncomputable def PostF (K:PySem.W.Frag)(μ:List Addr)(H:Hp)(Q:VK)(r:R D):Prop:=match r with
 | .ok d st=>∀(v:V) (H':Hp) (μ':List Addr),Grow μ H μ' H'->RepS K μ' H' st->RepV K μ' H' d v->Q v H'
 | _=>False
noncomputable def spM (K:PySem.W.Frag)(n:Nat)(fd:FD):Sp:=fun vs H Q _=>vs.length=n/\∃μ ds st,RepVs K μ H ds vs/\RepS K μ H st/\PostF K μ H Q (fd ds st)
noncomputable def startM (n:Nat)(ds:List D):MEnv:=ds.map some++List.replicate (n - ds.length) none
noncomputable def fnM (n:Nat)(m:MS):FD:=fun ds st=>(m (startM n ds) st).bind fun o st1=>match o with
 | .rt d=>.ok d st1
 | .nx _=>.ok .non st1
 | _=>.bad
theorem RepVs.start {K:PySem.W.Frag}{μ:List Addr}{H:Hp}{ds:List D}{vs:List V}(N:List Str)(h:RepVs K μ H ds vs):RepE K μ H (startM N.length ds) (L2.start N vs):=by
 unfold startM L2.start
 refine⟨by simp[h.length],fun i d e=>?_⟩
 rw[<-h.length]
 by_cases hi:i<ds.length
 ·rw[List.getElem?_append_left (by simpa using hi)]at e
  rw[List.getElem?_append_left (by rw[List.length_map,<-h.length];exact hi)]
  rw[List.getElem?_map]at e ⊢
  cases q:ds[i]? with
  | none=>rw[q]at e;cases e
  | some d' =>
   rw[q]at e;cases e
   obtain⟨v,q1,q2⟩:=h.get q
   exact⟨v,by rw[q1];rfl,q2⟩
 ·rw[List.getElem?_append_right (by simpa using hi)]at e
  rw[List.getElem?_replicate]at e
  split at e<;>cases e
section
variable {P:Program}{w:World}{K:PySem.W.Frag}{mg:Str->Option Value}{base:Heap}
theorem fn_ok {x qual:Str}{st:Stmt}{f:Addr}{fd:FuncData}{N ps:List Str}{k:Nat}{m:MS}(F:Fun K x qual st f fd)(S:FnScope N ps (defScope st))
  (hbody:∀(cdv:Value) (A:Around) (outer:List Env) (s:Shared) (H:Hp),Room k (A.deeper (PyProof.Rows.envOfC qual (defScope st) s.heap.objs.size f cdv)) ->
   JSs (cxOf CX0 P w K mg base N qual (defScope st) f cdv A outer s H E0).nox (defBody st) m):FnOk P w K mg base CX0 (k+1) f fd ps (spM K ps.length (fnM N.length m)):=by
 refine F.ok S (fun vs H Q E h=>h.1) (fun cdv A outer s H vs Q E hr h=>?_)
 obtain⟨hl,μ,ds,sto,hv,hs,hp⟩:=h
 refine⟨_,hbody cdv A outer s H hr,μ,startM N.length ds,sto,RepVs.start N hv,hs,?_⟩
 unfold fnM at hp
 cases hr:m (startM N.length ds) sto with
 | bad=>rw[hr]at hp;exact hp.elim
 | err x st1=>rw[hr]at hp;exact hp.elim
 | ok o st1 =>
  rw[hr]at hp
  cases o with
  | rt d=>exact hp
  | nx env=>exact fun σ' H' μ' g hs' _=>hp .non H' μ' g hs' (RepV.non_iff.mpr rfl)
  | bk env=>exact hp.elim
  | cn env=>exact hp.elim
end
section
variable {X:Cx}{e:Expr}{es:List Expr}{mA:MA}{pos p:Pos}{x:Str}{k:Nat}{f:Addr}{fd:FuncData}{ps:List Str}{F:FD}{dvs:List V}{ds:List Value}{dd:List D}
noncomputable def R.sure {α:Type}(r:R α):R α:=match r with
 | .ok a st=>.ok a st
 | _=>.bad
@[simp] theorem R.sure_ok {α:Type} (a:α) (st:Stor):(R.ok a st).sure=.ok a st:=za5 rfl
noncomputable def callF (F:FD)(dd:List D)(mA:MA):ME:=fun env st=>(mA env st).bind fun as st1=>(F (as++dd) st1).sure
theorem zah (G:FnOk X.prog X.w X.K X.mg X.base CX0 k f fd ps (spM X.K ps.length F))(hr:Room k X.A)(hm:X.mg x=some (.ref f))(hk:PySem.W.keepIn X.K (.ref f)=true)(hb:Binds X.K fd ps ds)(hd:Vals dvs ds)
  (hdd:∀μ H,RepVs X.K μ H dd dvs) (ha:JA X (e::es) mA) (hlen:(e::es).length+dvs.length=ps.length:=by rfl) (hg:Gl X x:=by rfl) (hdb:(x==("__debug__":Str))=false:=by decide) (he:starEach (e::es) X.env=(false,eval e X.env)::starEach es X.env:=by rfl) (hpl:(backTo pos (starEach es X.env)).any (·.1)=false:=by rfl)
  (hA:∀env st as st1,mA env st=.ok as st1->as.length=(e::es).length:=by intros;rfl) :
  JE X (.Call (.Name x p) (e::es) [] pos) (callF F dd mA):=by
 refine JE.of (pe_call G hr hg hm hk hb hd pass0 ha hdb he hpl) fun σ H Q zz=>?_
 obtain⟨μ,env,st,hE,hs,hp⟩:=zz
 refine⟨μ,env,st,hE,hs,?_⟩
 cases hr:mA env st with
 | bad=>unfold callF at hp;rw[hr]at hp;exact hp
 | err y st1=>unfold callF at hp;rw[hr]at hp;exact hp
 | ok as st1 =>
  unfold callF at hp
  rw[hr]at hp
  intro vs H1 μ1 g1 hs1 hv
  have hv':RepVs X.K μ1 H1 (as++dd) (vs++dvs):=hv.append (hdd μ1 H1)
  refine⟨?_,μ1,as++dd,st1,hv',hs1,?_⟩
  ·rw[List.length_append,<-hv.length,hA env st as st1 hr];exact hlen
  ·have hp2:=Post.mono g1 (show Post X μ H (relV X) Q (F (as++dd) st1).sure from hp)
   cases hF:F (as++dd) st1 with
   | ok d st2=>rw[hF]at hp2;exact hp2
   | err y st2=>rw[hF]at hp2;exact hp2.elim
   | bad=>rw[hF]at hp2;exact hp2.elim
end
end M
namespace M
open PySem PySem.Spec L2
mutual
noncomputable def under (n:Nat):D->Prop
 | .loc k=>k<n
 | .tup ds=>unders n ds
 | _=>True
noncomputable def unders (n:Nat):List D->Prop
 | []=>True
 | d::ds=>under n d/\unders n ds
end
@[simp] theorem under_non (n:Nat):under n .non=True:=by simp[under]
@[simp] theorem under_bl (n:Nat) (b:Bool):under n (.bl b)=True:=by simp[under]
@[simp] theorem under_int (n:Nat) (i:Int):under n (.int i)=True:=by simp[under]
@[simp] theorem under_str (n:Nat) (c:List Nat):under n (.str c)=True:=by simp[under]
@[simp] theorem zhz (n:Nat) (ds:List D):under n (.tup ds)=unders n ds:=by simp[under]
@[simp] theorem zh7 (n k:Nat):under n (.loc k)=(k<n):=by simp[under]
@[simp] theorem unders_nil (n:Nat):unders n []=True:=by simp[unders]
@[simp] theorem zf1 (n:Nat) (d:D) (ds:List D):unders n (d::ds)=(under n d/\unders n ds):=by simp[unders]
theorem zdb (n:Nat)(ds:List D):unders n ds ↔ ∀d∈ds,under n d:=by
 induction ds with
 | nil=>simp
 | cons d ds ih=>simp[ih]
noncomputable def underO (n:Nat):MO->Prop
 | .lst ds=>unders n ds
 | .frz ds=>unders n ds
 | .dic kvs=>∀p∈kvs,under n p.2
 | .dkc kvs=>∀p∈kvs,under n p.2
 | .dkf kvs=>∀p∈kvs,under n p.2
 | .dtf kvs=>∀p∈kvs,under n p.2
 | .exc _ d=>under n d
 | .ins _ fs=>∀p∈fs,under n p.2
 | .tab _=>True
 | .clo _ _ ds=>unders n ds
 | .hid=>True
mutual
theorem RepV.under {K:PySem.W.Frag}{μ:List Addr}{H:Hp}:∀(d:D) {v:V},RepV K μ H d v->M.under μ.length d
 | .non,_,_=>by simp
 | .bl _,_,_=>by simp
 | .int _,_,_=>by simp
 | .str _,_,_=>by simp
 | .tup ds,_,h=>by
  obtain⟨a,xs,_,_,h2⟩:=RepV.tup_iff.mp h
  rw[zhz];exact RepVs.unders ds h2
 | .loc n,_,h=>by
  obtain⟨a,h1,_⟩:=RepV.loc_iff.mp h
  rw[zh7];exact (List.getElem?_eq_some_iff.mp h1).1
theorem RepVs.unders {K:PySem.W.Frag}{μ:List Addr}{H:Hp}:∀(ds:List D) {vs:List V},RepVs K μ H ds vs->M.unders μ.length ds
 | [],_,_=>by simp
 | d::ds,_,h=>by
  rw[RepVs]at h
  obtain⟨v,r,_,h1,h2⟩:=h
  rw[zf1];exact⟨RepV.under d h1,RepVs.unders ds h2⟩
end
mutual
theorem RepV.down {K:PySem.W.Frag}{μ ν:List Addr}{H:Hp}:∀(d:D) {v:V},RepV K (μ++ν) H d v->M.under μ.length d->RepV K μ H d v
 | .non,_,h,_=>by simpa[RepV] using h
 | .bl _,_,h,_=>by simpa[RepV] using h
 | .int _,_,h,_=>by simpa[RepV] using h
 | .str _,_,h,_=>by simpa[RepV] using h
 | .tup ds,_,h,u=>by
  obtain⟨a,xs,e,h1,h2⟩:=RepV.tup_iff.mp h
  rw[zhz]at u
  exact RepV.tup_iff.mpr ⟨a,xs,e,h1,RepVs.down ds h2 u⟩
 | .loc n,_,h,u=>by
  obtain⟨a,h1,e⟩:=RepV.loc_iff.mp h
  rw[zh7]at u
  rw[List.getElem?_append_left u]at h1
  exact RepV.loc_iff.mpr ⟨a,h1,e⟩
theorem RepVs.down {K:PySem.W.Frag}{μ ν:List Addr}{H:Hp}:∀(ds:List D) {vs:List V},RepVs K (μ++ν) H ds vs->M.unders μ.length ds->RepVs K μ H ds vs
 | [],_,h,_=>by simpa[RepVs] using h
 | d::ds,_,h,u=>by
  rw[RepVs]at h ⊢
  obtain⟨v,r,e,h1,h2⟩:=h
  rw[zf1]at u
  exact⟨v,r,e,RepV.down d h1 u.1,RepVs.down ds h2 u.2⟩
end
theorem RepKV.under {κ:Type}{K:PySem.W.Frag}{μ:List Addr}{H:Hp}:∀{ds:List (κ×D)} {vs:List (κ×V)},RepKV K μ H ds vs->∀p∈ds,M.under μ.length p.2
 | [],_,_,_,hp=>nomatch hp
 | (k,d)::ds,_,⟨v,r,e,h1,h2⟩,p,hp=>by
  rcases List.mem_cons.mp hp with rfl | hp
  ·exact RepV.under d h1
  ·exact RepKV.under h2 p hp
theorem RepKV.down {κ:Type}{K:PySem.W.Frag}{μ ν:List Addr}{H:Hp}:∀{ds:List (κ×D)} {vs:List (κ×V)},RepKV K (μ++ν) H ds vs->(∀p∈ds,M.under μ.length p.2)->RepKV K μ H ds vs
 | [],_,h,_=>h
 | (k,d)::ds,_,⟨v,r,e,h1,h2⟩,u=>⟨v,r,e,RepV.down d h1 (u (k,d) (by simp)),RepKV.down h2 fun p hp=>u p (List.mem_cons_of_mem _ hp)⟩
theorem RepO.under {K:PySem.W.Frag}{μ:List Addr}{H:Hp}{a:Addr}{o:MO}(h:RepO K μ H a o):underO μ.length o:=by
 cases o with
 | lst ds=>obtain⟨xs,_,h2⟩:=h;exact RepVs.unders ds h2
 | frz ds=>obtain⟨xs,_,h2⟩:=h;exact RepVs.unders ds h2
 | dic ds=>obtain⟨xs,_,h2⟩:=h;exact h2.under
 | dkc ds=>obtain⟨xs,_,h2⟩:=h;exact h2.under
 | dkf ds=>obtain⟨xs,_,_,h2⟩:=h;exact h2.under
 | dtf ds=>obtain⟨xs,_,_,h2⟩:=h;exact h2.under
 | exc c d=>obtain⟨_,_,_,_,_,_,_,_,_,_,_,_,h7⟩:=h;exact RepV.under d h7
 | ins c ds=>obtain⟨_,_,xs,_,_,h2⟩:=h;exact h2.under
 | tab x=>trivial
 | clo j l ds=>obtain⟨_,_,_,_,xs,_,_,_,_,_,h2⟩:=h;exact RepVs.unders ds h2
 | hid=>trivial
theorem RepO.down {K:PySem.W.Frag}{μ ν:List Addr}{H:Hp}{a:Addr}{o:MO}(h:RepO K (μ++ν) H a o)(u:underO μ.length o):RepO K μ H a o:=by
 cases o with
 | lst ds=>obtain⟨xs,h1,h2⟩:=h;exact⟨xs,h1,RepVs.down ds h2 u⟩
 | frz ds=>obtain⟨xs,h1,h2⟩:=h;exact⟨xs,h1,RepVs.down ds h2 u⟩
 | dic ds=>obtain⟨xs,h1,h2⟩:=h;exact⟨xs,h1,h2.down u⟩
 | dkc ds=>obtain⟨xs,h1,h2⟩:=h;exact⟨xs,h1,h2.down u⟩
 | dkf ds=>obtain⟨xs,o,h1,h2⟩:=h;exact⟨xs,o,h1,h2.down u⟩
 | dtf ds=>obtain⟨xs,o,h1,h2⟩:=h;exact⟨xs,o,h1,h2.down u⟩
 | exc c d=>obtain⟨oe,C,dx,od,v,fs,h1,h2,h3,h4,h5,h6,h7⟩:=h;exact⟨oe,C,dx,od,v,fs,h1,h2,h3,h4,h5,h6,RepV.down d h7 u⟩
 | ins c ds=>obtain⟨C,dx,xs,h0,h1,h2⟩:=h;exact⟨C,dx,xs,h0,h1,h2.down u⟩
 | tab x=>exact h
 | clo j l ds=>obtain⟨cl,pm,c',ctv,vs,h1,h2,h3,h4,h5,h6⟩:=h;exact⟨cl,pm,c',ctv,vs,h1,h2,h3,h4,h5,RepVs.down ds h6 u⟩
 | hid=>trivial
theorem RepO.up {K:PySem.W.Frag}{μ:List Addr}{H:Hp}{a:Addr}{o:MO}(ν:List Addr)(h:RepO K μ H a o):RepO K (μ++ν) H a o:=h.keep ⟨⟨ν,rfl⟩,.refl H⟩ fun _ _ q=>q
theorem zgy {α:Type}{l l':List α}(h:l'.take l.length=l){n:Nat}{o:α}(e:l[n]? = some o):l'[n]? = some o:=by
 have hl:=(List.getElem?_eq_some_iff.mp e).1
 rw[<-h,List.getElem?_take]at e
 rw[if_pos hl]at e;exact e
theorem RepS.back {K:PySem.W.Frag}{μ ν:List Addr}{H H':Hp}{st st':Stor}(h0:RepS K μ H st)(h:RepS K (μ++ν) H' st')(ht:st'.take st.length=st):RepS K μ H' st:=by
 refine⟨h0.len,fun n o e=>?_,fun i j a oi oj ei ej mi mj hi hj=>?_⟩
 ·obtain⟨a,h1,h2⟩:=h.at_ n o (zgy ht e)
  obtain⟨a0,h3,h4⟩:=h0.at_ n o e
  have hn:n<μ.length:=by rw[h0.len];exact (List.getElem?_eq_some_iff.mp e).1
  rw[List.getElem?_append_left hn]at h1
  exact⟨a,h1,h2.down h4.under⟩
 ·have up:∀k,μ[k]? = some a->(μ++ν)[k]? = some a:=fun k hk=>by rw[List.getElem?_append_left (List.getElem?_eq_some_iff.mp hk).1];exact hk
  exact h.uniq i j a oi oj (zgy ht ei) (zgy ht ej) mi mj (up i hi) (up j hj)
theorem RepS.back1 {K:PySem.W.Frag}{μ ν:List Addr}{H H':Hp}{st st':Stor}{k:Nat}{o:MO}{a:Addr}(h0:RepS K μ H st)(h:RepS K (μ++ν) H' st')(ht:st'.take st.length=st)(hk:st.length<=k)(e:st'[k]? = some o)(u:underO st.length o)(ha:(μ++ν)[k]? = some a) :
  RepS K (μ++[a]) H' (st++[o]):=by
 have hb:=h0.back h ht
 obtain⟨a',q1,q2⟩:=h.at_ k o e
 rw[ha]at q1;cases q1
 have key:∀(n:Nat) (on:MO) (c:Addr),(st++[o])[n]? = some on->(μ++[a])[n]? = some c->(n<st.length/\st[n]? = some on/\μ[n]? = some c)\/(n=st.length/\on=o/\c=a):=fun n on c e1 e2=>by
  by_cases hn:n<st.length
  ·rw[List.getElem?_append_left hn]at e1
   rw[List.getElem?_append_left (by rw[h0.len];exact hn)]at e2
   exact .inl ⟨hn,e1,e2⟩
  ·have hl:=(List.getElem?_eq_some_iff.mp e1).1
   rw[List.length_append,List.length_singleton]at hl
   have en:n=st.length:=by omega
   subst en
   rw[List.getElem?_append_right (Nat.le_refl _)]at e1
   rw[<-h0.len,List.getElem?_append_right (Nat.le_refl _)]at e2
   simp at e1 e2
   exact .inr ⟨rfl,e1.symm,e2.symm⟩
 refine⟨by simp[h0.len],fun n on e1=>?_,fun i j c oi oj ei ej mi mj hi hj=>?_⟩
 ·have hn:n<(μ++[a]).length:=by
   have:=(List.getElem?_eq_some_iff.mp e1).1
   simpa[h0.len] using this
  obtain⟨c,hc⟩:∃c,(μ++[a])[n]? = some c:=⟨_,List.getElem?_eq_getElem hn⟩
  rcases key n on c e1 hc with⟨h1,h2,h3⟩ | ⟨h1,rfl,rfl⟩
  ·obtain⟨c',h4,h5⟩:=hb.at_ n on h2
   rw[h3]at h4;cases h4
   exact⟨c,hc,h5.up _⟩
  ·exact⟨c,hc,(q2.down (by rw[h0.len];exact u)).up _⟩
 ·have up:∀k,μ[k]? = some c->(μ++ν)[k]? = some c:=fun k hk=>by rw[List.getElem?_append_left (List.getElem?_eq_some_iff.mp hk).1];exact hk
  rcases key i oi c ei hi with⟨h1,h2,h3⟩ | ⟨h1,rfl,rfl⟩
  ·rcases key j oj c ej hj with⟨g1,g2,g3⟩ | ⟨g1,rfl,rfl⟩
   ·exact hb.uniq i j c oi oj h2 g2 mi mj h3 g3
   ·have:=h.uniq i k c oi oj (zgy ht h2) e mi mj (up i h3) ha
    omega
  ·rcases key j oj c ej hj with⟨g1,g2,g3⟩ | ⟨g1,_,_⟩
   ·have:=h.uniq j k c oj oi (zgy ht g2) e mj mi (up j g3) ha
    omega
   ·rw[h1,g1]
open Classical in
noncomputable def gc (st:Stor)(r:R D):R D:=match r with
 | .ok d st'=>if st'.take st.length=st/\under st.length d then .ok d st else (match d with
  | .loc k=>(match st'[k]? with
   | some o=>if st'.take st.length=st/\st.length<=k/\underO st.length o then .ok (.loc st.length) (st++[o]) else .ok d st'
   | none=>.ok d st')
  | d=>.ok d st')
 | r=>r
noncomputable def gcF (F:FD):FD:=fun ds st=>gc st (F ds st)
theorem gc_post {K:PySem.W.Frag}{μ:List Addr}{H:Hp}{Q:VK}{st:Stor}{r:R D}(hs:RepS K μ H st)(h:PostF K μ H Q (gc st r)):PostF K μ H Q r:=by
 cases r with
 | bad=>exact h
 | err x st'=>exact h
 | ok d st' =>
  unfold gc at h
  dsimp only at h
  by_cases c1:st'.take st.length=st/\under st.length d
  ·rw[if_pos c1]at h
   intro v H' μ' g hs' hv
   obtain⟨ν,rfl⟩:=g.pre
   exact h v H' μ ⟨⟨[],by simp⟩,g.ext⟩ (hs.back hs' c1.1) (RepV.down d hv (by rw[hs.len];exact c1.2))
  ·rw[if_neg c1]at h
   cases d with
   | loc k =>
    dsimp only at h
    cases e:st'[k]? with
    | none=>rw[e]at h;exact h
    | some o =>
     rw[e]at h
     dsimp only at h
     by_cases c2:st'.take st.length=st/\st.length<=k/\underO st.length o
     ·rw[if_pos c2]at h
      intro v H' μ' g hs' hv
      obtain⟨ν,rfl⟩:=g.pre
      obtain⟨a,h1,rfl⟩:=RepV.loc_iff.mp hv
      refine h _ H' (μ++[a]) ⟨⟨[a],rfl⟩,g.ext⟩ (hs.back1 hs' c2.1 c2.2.1 e c2.2.2 h1) (RepV.loc_iff.mpr ⟨a,?_,rfl⟩)
      rw[<-hs.len];simp
     ·rw[if_neg c2]at h;exact h
   | _=>exact h
theorem sp_gc {K:PySem.W.Frag}{n:Nat}{F:FD}{vs:List V}{H:Hp}{Q:VK}{E:XK}(h:spM K n (gcF F) vs H Q E):spM K n F vs H Q E:=by
 obtain⟨hl,μ,ds,st,h1,h2,h3⟩:=h
 exact⟨hl,μ,ds,st,h1,h2,gc_post h2 h3⟩
theorem zf4 {st:Stor}{g:List MO}{d:D}(h:under st.length d):gc st (.ok d (st++g))=.ok d st:=by
 unfold gc
 dsimp only
 rw[if_pos ⟨by simp,h⟩]
theorem gc_new {st:Stor}{g g':List MO}{o:MO}(h:underO st.length o):gc st (.ok (.loc (st.length+g.length)) (st++g++o::g'))=.ok (.loc st.length) (st++[o]):=by
 unfold gc
 dsimp only
 rw[if_neg (by simp)]
 have e:(st++g++o::g')[st.length+g.length]? = some o:=by
  rw[List.getElem?_append_right (by simp)];simp
 rw[e]
 dsimp only
 rw[if_pos ⟨by simp,by omega,h⟩]
end M
namespace M
open PySem PySem.Spec L2
section
variable {X:Cx}{e a b c:Expr}{es:List Expr}{ma mb mc:ME}{mA:MA}{pos p2 p:Pos}
noncomputable def lenV:List D->Stor->R D
 | [.str cs],st=>if cs.length<=1000000 then .ok (.int cs.length) st else .bad
 | [.tup ds],st=>.ok (.int ds.length) st
 | [.loc n],st=>match itemsAt st n with | some ds=>.ok (.int ds.length) st | none=>.bad
 | _,_=>.bad
theorem zj2:CallR X (.builtin "len") (rMC X lenV):=by
 refine CallR.weak (CallR.or zjr zjb) ?_
 rintro xs H Q ⟨μ,st,ds,hs,hv,hp⟩
 unfold lenV at hp
 split at hp
 ·rename_i cs
  split at hp
  ·rename_i hl
   obtain⟨v,rfl,q⟩:=RepVs.one hv
   rw[RepV.str_iff]at q;subst q
   exact .inl ⟨_,rfl,by rw[zfo];exact zg6 hl,by rw[zfo];exact hp.ret hs (RepV.int_iff.mpr rfl)⟩
  ·exact hp.elim
 ·obtain⟨v,rfl,q⟩:=RepVs.one hv
  obtain⟨p,ys,rfl,q1,q2⟩:=RepV.tup_iff.mp q
  exact .inr ⟨p,ys,rfl,.inr q1.sqT,by rw[<-q2.length];exact hp.ret hs (RepV.int_iff.mpr rfl)⟩
 ·rename_i n
  cases e:itemsAt st n with
  | none=>rw[e]at hp;exact hp.elim
  | some ds =>
   rw[e]at hp
   obtain⟨v,rfl,q⟩:=RepVs.one hv
   obtain⟨p,q1,rfl⟩:=RepV.loc_iff.mp q
   obtain⟨p',ys,r1,r2,r3⟩:=hs.items e
   rw[q1]at r1;cases r1
   exact .inr ⟨p,ys,rfl,.inl r2,by rw[<-r3.length];exact hp.ret hs (RepV.int_iff.mpr rfl)⟩
 ·exact hp.elim
noncomputable def intC:List D->Stor->R D
 | [.int i],st=>.ok (.int i) st
 | [.bl k],st=>.ok (.int (if k then 1 else 0)) st
 | _,_=>.bad
theorem zj6:CallR X (.type "int") (rMC X intC):=by
 refine CallR.weak call_int1 ?_
 rintro xs H Q ⟨μ,st,ds,hs,hv,hp⟩
 unfold intC at hp
 split at hp
 ·obtain⟨v,rfl,q⟩:=RepVs.one hv
  rw[RepV.int_iff]at q;subst q
  exact .inl ⟨_,rfl,hp.ret hs (RepV.int_iff.mpr rfl)⟩
 ·obtain⟨v,rfl,q⟩:=RepVs.one hv
  rw[RepV.bl_iff]at q;subst q
  exact .inr ⟨_,rfl,hp.ret hs (RepV.int_iff.mpr rfl)⟩
 ·exact hp.elim
noncomputable def min2V:List D->Stor->R D
 | [.int i,.int j],st=>.ok (.int (if j<i then j else i)) st
 | _,_=>.bad
theorem zlx (hc:X.calm=true):CallR X (.builtin "min") (rMC X min2V):=by
 refine CallR.weak (call_min2 hc) ?_
 rintro xs H Q ⟨μ,st,ds,hs,hv,hp⟩
 unfold min2V at hp
 split at hp
 ·obtain⟨v,w,rfl,q1,q2⟩:=RepVs.two hv
  rw[RepV.int_iff]at q1 q2;subst q1 q2
  exact⟨_,_,rfl,hp.ret hs (RepV.int_iff.mpr rfl)⟩
 ·exact hp.elim
noncomputable def max2V:List D->Stor->R D
 | [.int i,.int j],st=>.ok (.int (if j > i then j else i)) st
 | _,_=>.bad
theorem zlg (hc:X.calm=true):CallR X (.builtin "max") (rMC X max2V):=by
 refine CallR.weak (call_max2 hc) ?_
 rintro xs H Q ⟨μ,st,ds,hs,hv,hp⟩
 unfold max2V at hp
 split at hp
 ·obtain⟨v,w,rfl,q1,q2⟩:=RepVs.two hv
  rw[RepV.int_iff]at q1 q2;subst q1 q2
  exact⟨_,_,rfl,hp.ret hs (RepV.int_iff.mpr rfl)⟩
 ·exact hp.elim
noncomputable def listC:List D->Stor->R D
 | [.tup ds],st=>.ok (.loc st.length) (st++[.lst ds])
 | [.loc n],st=>match itemsAt st n with | some ds=>.ok (.loc st.length) (st++[.lst ds]) | none=>.bad
 | _,_=>.bad
theorem zld:CallR X (.type "list") (rMC X listC):=by
 refine CallR.weak zi8 ?_
 rintro xs H Q ⟨μ,st,ds,hs,hv,hp⟩
 unfold listC at hp
 split at hp
 ·obtain⟨v,rfl,q⟩:=RepVs.one hv
  obtain⟨p,ys,rfl,q1,q2⟩:=RepV.tup_iff.mp q
  exact⟨p,ys,rfl,.inr q1.sqT,fun l hl=>hp.newList hs q2 hl⟩
 ·rename_i n
  cases e:itemsAt st n with
  | none=>rw[e]at hp;exact hp.elim
  | some ds =>
   rw[e]at hp
   obtain⟨v,rfl,q⟩:=RepVs.one hv
   obtain⟨p,q1,rfl⟩:=RepV.loc_iff.mp q
   obtain⟨p',ys,r1,r2,r3⟩:=hs.items e
   rw[q1]at r1;cases r1
   exact⟨p,ys,rfl,.inl r2,fun l hl=>hp.newList hs r3 hl⟩
 ·exact hp.elim
noncomputable def tyD:D->Stor->Option String
 | .non,_=>some "NoneType"
 | .bl _,_=>some "bool"
 | .int _,_=>some "int"
 | .str _,_=>some "str"
 | .tup _,_=>some "tuple"
 | .loc n,st=>match st[n]? with
  | some (.lst _)=>some "list"
  | some (.frz _)=>some "list"
  | some (.dic _)=>some "dict"
  | some (.dkc _)=>some "dict"
  | _=>none
theorem isinst_D {pins:List (Addr×Obj)}{σ:L2.St}{μ:List Addr}{H:Hp}{s:Shared}{A:Around}{E:Value->Shared->Prop}{Q:Value->Shared->Prop}{cv:Value}{k:Bool}{d:D}{st:Stor}{x:V}{u:Value}{T:String}
  (I:Inv X pins σ H s) (hs:RepS X.K μ H st) (hd:RepV X.K μ H d x) (rx:RelV x u) (ht:tyD d st=some T) (e:PySem.W.kitOne X.K (.type T) cv=some k) (h:∀tk,Q (.bool k) { s with toks:=tk }) :
  wpAny (model X.prog X.w) A (call (.builtin "isinstance") [u,cv]) Q E s:=by
 cases d with
 | non=>rw[RepV.non_iff]at hd;subst hd;cases ht;exact zeu I rx (.non) e h
 | bl y=>rw[RepV.bl_iff]at hd;subst hd;cases ht;exact zeu I rx (.bl y) e h
 | int y=>rw[RepV.int_iff]at hd;subst hd;cases ht;exact zeu I rx (.int y) e h
 | str y=>rw[RepV.str_iff]at hd;subst hd;cases ht;exact zeu I rx (.str _) e h
 | tup ds =>
  obtain⟨a,xs,rfl,q1,q2⟩:=RepV.tup_iff.mp hd
  cases ht
  obtain⟨its,_,p,_⟩:=I.tuple (q1.sqT)
  obtain⟨o,h1,h2,_⟩:=p
  cases (show u=Value.ref a from rx)
  exact PySem.W.kia_one PySem.W.kitx_tuple I.kIn ⟨o,h1,h2⟩ e (fun z=>nomatch z) h
 | loc n =>
  obtain⟨a,q1,rfl⟩:=RepV.loc_iff.mp hd
  simp only[tyD]at ht
  have lst:∀ds,itemsAt st n=some ds->PySem.W.kitOne X.K (.type "list") cv=some k->wpAny (model X.prog X.w) A (call (.builtin "isinstance") [u,cv]) Q E s:=fun ds e1 e2=>by
   obtain⟨p',ys,r1,r2,r3⟩:=hs.items e1
   rw[q1]at r1;cases r1
   obtain⟨its,_,p,_⟩:=I.list r2
   cases (show u=Value.ref a from rx)
   exact PySem.W.kia_one PySem.W.kitx_list I.kIn p.isList.typeIs e2 (fun z=>nomatch z) h
  cases e1:st[n]? with
  | none=>rw[e1]at ht;cases ht
  | some mo =>
   rw[e1]at ht
   cases mo with
   | lst ds=>cases ht;exact lst ds (by unfold itemsAt;rw[e1]) e
   | frz ds=>cases ht;exact lst ds (by unfold itemsAt;rw[e1]) e
   | dic kvs =>
    cases ht
    obtain⟨p',r1,ws,r2,_⟩:=hs.at_ n _ e1
    rw[q1]at r1;cases r1
    exact zeu I rx (.dT r2) e h
   | dkc kvs =>
    cases ht
    obtain⟨p',r1,ws,r2,_⟩:=hs.at_ n _ e1
    rw[q1]at r1;cases r1
    exact zeu I rx (.dK r2) e h
   | _=>cases ht
noncomputable def subTy (t T:String):Bool:=t==T || (t == "bool" && T == "int")
noncomputable def isV (T:String):D->Stor->R D:=fun d st=>match tyD d st with | some t=>.ok (.bl (subTy t T)) st | none=>.bad
noncomputable def tysD:List String:=["NoneType","bool","int","str","tuple","list","dict"]
theorem tyD_mem {d:D}{st:Stor}{t:String}(h:tyD d st=some t):t∈tysD:=by
 cases d with
 | loc n =>
  simp only[tyD]at h
  split at h<;>cases h<;>decide
 | _=>cases h;decide
noncomputable def rIs (X:Cx)(T:String):List V->Hp->VK->Prop:=fun xs H Q=>∃μ st d x,xs=[x,.ty T]/\RepS X.K μ H st/\RepV X.K μ H d x/\Post X μ H (relV X) Q (isV T d st)
theorem call_isV {T:String}(hT:∀t∈tysD,PySem.W.kitOne X.K (.type t) (.type T)=some (subTy t T)):CallR X (.builtin "isinstance") (rIs X T):=by
 rintro pins s σ H xs us Q I hr ⟨μ,st,d,x,rfl,hs,hd,hp⟩
 obtain⟨u,w',rfl,r1,r2⟩:=vals2 hr
 cases (show w'=Value.type T from r2)
 unfold isV at hp
 cases e:tyD d st with
 | none=>rw[e]at hp;exact hp.elim
 | some t =>
  rw[e]at hp
  exact isinst_D I hs hd r1 e (hT t (tyD_mem e)) fun tk=>⟨.bl (subTy t T),H,I.tok tk,rfl,hp.ret hs (RepV.bl_iff.mpr rfl)⟩
theorem kit_list {K:PySem.W.Frag}:∀t∈tysD,PySem.W.kitOne K (.type t) (.type "list")=some (subTy t "list"):=by
 intro t ht
 simp only[tysD,List.mem_cons,List.not_mem_nil,or_false]at ht
 rcases ht with rfl | rfl | rfl | rfl | rfl | rfl | rfl<;>rfl
theorem je_isV {T:String}{xT:Str}(hT:∀t∈tysD,PySem.W.kitOne X.K (.type t) (.type T)=some (subTy t T))(h:JE X e ma)(hg:Gl X "isinstance")(hm:X.mg "isinstance" = none)(hgT:Gl X xT)(hmT:X.mg xT=none)
  (hv:bootBuiltins xT=some (.type T)) (hb:bootBuiltins "isinstance" = some (.builtin "isinstance")) (hnT:xT ≠ "__name__":=by decide) (hdT:(xT==("__debug__":Str))=false:=by decide)
  (hs1:starEach [e,.Name xT p2] X.env=[(false,eval e X.env),(false,eval (.Name xT p2) X.env)]:=by rfl) (hs2:starEach [.Name xT p2] X.env=[(false,eval (.Name xT p2) X.env)]:=by rfl) (hpl:(backTo pos (starEach [.Name xT p2] X.env)).any (·.1)=false:=by rfl) :
  JE X (.Call (.Name "isinstance" p) [e,.Name xT p2] [] pos) (op1 (isV T) ma):=by
 refine JE.of (zl0 (call_isV hT) hg hm hb (zly h (zly (pe_bltn (v:=.ty T) hgT hmT hv rfl hnT hdT) pa_nil hs2) hs1) (by decide) (by decide) hs1 hpl) fun σ H Q zz=>?_
 obtain⟨μ,env,st,hE,hs,hp⟩:=zz
 refine⟨μ,env,st,hE,hs,(Post.bind hp).imp ?_⟩
 rintro x H1 ⟨μ1,st1,d,g1,hs1,hx,hp1⟩
 exact⟨μ1,st1,d,x,rfl,hs1,hx,hp1⟩
end
end M
namespace M
open PySem PySem.Spec PySem.SeqAt L2
mutual
noncomputable def eqD:D->D->Bool
 | .non,.non=>true
 | .bl a,.bl b=>a==b
 | .bl a,.int b=>(if a then 1 else 0)==b
 | .int a,.bl b=>a==(if b then 1 else 0)
 | .int a,.int b=>a==b
 | .str a,.str b=>a==b
 | .tup a,.tup b=>eqDs a b
 | _,_=>false
noncomputable def eqDs:List D->List D->Bool
 | [],[]=>true
 | a::as,b::bs=>eqD a b && eqDs as bs
 | _,_=>false
end
mutual
noncomputable def flat:D->Bool
 | .loc _=>false
 | .tup ds=>flats ds
 | _=>true
noncomputable def flats:List D->Bool
 | []=>true
 | d::ds=>flat d && flats ds
end
mutual
noncomputable def dep:D->Nat
 | .tup ds=>deps ds+1
 | _=>0
noncomputable def deps:List D->Nat
 | []=>0
 | d::ds=>max (dep d) (deps ds)
end
mutual
noncomputable def cdep:D->D->Nat
 | .tup a,.tup b=>cdeps a b+1
 | _,_=>0
noncomputable def cdeps:List D->List D->Nat
 | a::as,b::bs=>max (cdep a b) (cdeps as bs)
 | _,_=>0
end
@[simp] theorem zle (a b:List D):cdep (.tup a) (.tup b)=cdeps a b+1:=by simp[cdep]
@[simp] theorem cdep_non (d:D):cdep .non d=0:=by simp[cdep]
@[simp] theorem cdep_bl (b:Bool) (d:D):cdep (.bl b) d=0:=by simp[cdep]
@[simp] theorem zmv (b:Int) (d:D):cdep (.int b) d=0:=by simp[cdep]
@[simp] theorem cdep_str (b:List Nat) (d:D):cdep (.str b) d=0:=by simp[cdep]
@[simp] theorem cdep_loc (b:Nat) (d:D):cdep (.loc b) d=0:=by simp[cdep]
@[simp] theorem cdep_non' (d:D):cdep d .non=0:=by cases d<;>simp[cdep]
@[simp] theorem cdep_bl' (b:Bool) (d:D):cdep d (.bl b)=0:=by cases d<;>simp[cdep]
@[simp] theorem cdep_int' (b:Int) (d:D):cdep d (.int b)=0:=by cases d<;>simp[cdep]
@[simp] theorem cdep_str' (b:List Nat) (d:D):cdep d (.str b)=0:=by cases d<;>simp[cdep]
@[simp] theorem cdeps_nil (bs:List D):cdeps [] bs=0:=by simp[cdeps]
@[simp] theorem cdeps_nil' (as:List D):cdeps as []=0:=by cases as<;>simp[cdeps]
@[simp] theorem ziy (a b:D) (as bs:List D):cdeps (a::as) (b::bs)=max (cdep a b) (cdeps as bs):=by simp[cdeps]
@[simp] theorem zmu (b:Int):flat (.int b)=true:=by simp[flat]
@[simp] theorem flat_str (b:List Nat):flat (.str b)=true:=by simp[flat]
@[simp] theorem flat_tup (b:List D):flat (.tup b)=flats b:=by simp[flat]
@[simp] theorem flats_nil:flats []=true:=by simp[flats]
@[simp] theorem zd5 (d:D) (ds:List D):flats (d::ds)=(flat d && flats ds):=by simp[flats]
@[simp] theorem dep_non:dep .non=0:=by simp[dep]
@[simp] theorem dep_bl (b:Bool):dep (.bl b)=0:=by simp[dep]
@[simp] theorem dep_int (b:Int):dep (.int b)=0:=by simp[dep]
@[simp] theorem dep_str (b:List Nat):dep (.str b)=0:=by simp[dep]
@[simp] theorem dep_tup (b:List D):dep (.tup b)=deps b+1:=by simp[dep]
@[simp] theorem deps_nil:deps []=0:=by simp[deps]
@[simp] theorem zkf (d:D) (ds:List D):deps (d::ds)=max (dep d) (deps ds):=by simp[deps]
mutual
theorem cdep_le:∀(a b:D),cdep a b<=dep a
 | .tup a,.tup b=>by rw[zle,dep_tup];exact Nat.succ_le_succ (zi6 a b)
 | .tup a,.non=>by simp
 | .tup a,.bl _=>by simp
 | .tup a,.int _=>by simp
 | .tup a,.str _=>by simp
 | .tup a,.loc _=>by simp[cdep]
 | .non,_=>by simp
 | .bl _,_=>by simp
 | .int _,_=>by simp
 | .str _,_=>by simp
 | .loc _,_=>by simp
theorem zi6:∀(a b:List D),cdeps a b<=deps a
 | [],b=>by simp
 | a::as,[]=>by simp
 | a::as,b::bs=>by
  rw[ziy,zkf]
  have h1:=cdep_le a b
  have h2:=zi6 as bs
  omega
end
noncomputable def eqJ (as bs:List D)(j:Nat):Bool:=match as[j]?,bs[j]? with | some a,some b=>eqD a b | _,_=>true
theorem zhv:∀(as bs:List D),eqDs as bs=((List.range (min as.length bs.length)).all (eqJ as bs) && as.length==bs.length)
 | [],[]=>by simp[eqDs]
 | [],b::bs=>by simp[eqDs]
 | a::as,[]=>by simp[eqDs]
 | a::as,b::bs=>by
  rw[eqDs,zhv as bs]
  have e1:min (a::as).length (b::bs).length=min as.length bs.length+1:=by simp
  rw[e1,List.range_succ_eq_map,List.all_cons,List.all_map]
  have e2:((a::as).length==(b::bs).length)=(as.length==bs.length):=by
   rw[Bool.eq_iff_iff];simp
  rw[e2]
  have e3:eqJ (a::as) (b::bs) 0=eqD a b:=rfl
  rw[e3,Bool.and_assoc]
  rfl
mutual
theorem zjl:∀(d:D),flat d=true->eqD d d=true
 | .non,_=>by simp[eqD]
 | .bl _,_=>by simp[eqD]
 | .int _,_=>by simp[eqD]
 | .str _,_=>by simp[eqD]
 | .tup ds,h=>by rw[eqD];exact zia ds (by simpa using h)
 | .loc _,h=>by simp[flat]at h
theorem zia:∀(ds:List D),flats ds=true->eqDs ds ds=true
 | [],_=>by simp[eqDs]
 | d::ds,h=>by
  rw[zd5,Bool.and_eq_true]at h
  rw[eqDs,zjl d h.1,zia ds h.2];rfl
end
section
variable {X:Cx}{pins:List (Addr×Obj)}{σ:L2.St}{μ:List Addr}{H:Hp}{s:Shared}
mutual
theorem zjh (I:Inv X pins σ H s):∀(d1 d2:D) {v:V},flat d1=true->flat d2=true->RepV X.K μ H d1 v->RepV X.K μ H d2 v->d1=d2
 | .non,d2,_,_,f2,h1,h2=>by
  rw[RepV.non_iff]at h1;subst h1
  cases d2 with
  | non=>rfl
  | bl _=>rw[RepV.bl_iff]at h2;cases h2
  | int _=>rw[RepV.int_iff]at h2;cases h2
  | str _=>rw[RepV.str_iff]at h2;cases h2
  | tup _=>obtain⟨_,_,q,_⟩:=RepV.tup_iff.mp h2;cases q
  | loc _=>simp[flat]at f2
 | .bl b,d2,_,_,f2,h1,h2=>by
  rw[RepV.bl_iff]at h1;subst h1
  cases d2 with
  | bl _=>rw[RepV.bl_iff]at h2;cases h2;rfl
  | non=>rw[RepV.non_iff]at h2;cases h2
  | int _=>rw[RepV.int_iff]at h2;cases h2
  | str _=>rw[RepV.str_iff]at h2;cases h2
  | tup _=>obtain⟨_,_,q,_⟩:=RepV.tup_iff.mp h2;cases q
  | loc _=>simp[flat]at f2
 | .int b,d2,_,_,f2,h1,h2=>by
  rw[RepV.int_iff]at h1;subst h1
  cases d2 with
  | int _=>rw[RepV.int_iff]at h2;cases h2;rfl
  | non=>rw[RepV.non_iff]at h2;cases h2
  | bl _=>rw[RepV.bl_iff]at h2;cases h2
  | str _=>rw[RepV.str_iff]at h2;cases h2
  | tup _=>obtain⟨_,_,q,_⟩:=RepV.tup_iff.mp h2;cases q
  | loc _=>simp[flat]at f2
 | .str b,d2,_,_,f2,h1,h2=>by
  rw[RepV.str_iff]at h1;subst h1
  cases d2 with
  | str _=>rw[RepV.str_iff]at h2;injection h2 with h3;rw[zjt.mp h3]
  | non=>rw[RepV.non_iff]at h2;cases h2
  | bl _=>rw[RepV.bl_iff]at h2;cases h2
  | int _=>rw[RepV.int_iff]at h2;cases h2
  | tup _=>obtain⟨_,_,q,_⟩:=RepV.tup_iff.mp h2;cases q
  | loc _=>simp[flat]at f2
 | .tup as,d2,_,f1,f2,h1,h2=>by
  obtain⟨a,xs,rfl,q1,q2⟩:=RepV.tup_iff.mp h1
  cases d2 with
  | tup bs =>
   obtain⟨b,ys,e,r1,r2⟩:=RepV.tup_iff.mp h2
   cases e
   rw[I.tuple_inj (r1.sqT) (q1.sqT)]at r2
   rw[zkj I as bs (by simpa using f1) (by simpa using f2) q2 r2]
  | non=>rw[RepV.non_iff]at h2;cases h2
  | bl _=>rw[RepV.bl_iff]at h2;cases h2
  | int _=>rw[RepV.int_iff]at h2;cases h2
  | str _=>rw[RepV.str_iff]at h2;cases h2
  | loc _=>simp[flat]at f2
 | .loc _,_,_,f1,_,_,_=>by simp[flat]at f1
theorem zkj (I:Inv X pins σ H s):∀(as bs:List D) {vs:List V},flats as=true->flats bs=true->RepVs X.K μ H as vs->RepVs X.K μ H bs vs->as=bs
 | [],bs,_,_,_,h1,h2=>by
  rw[RepVs]at h1;subst h1
  cases bs with
  | nil=>rfl
  | cons _ _=>rw[RepVs]at h2;obtain⟨_,_,q,_⟩:=h2;cases q
 | a::as,bs,_,f1,f2,h1,h2=>by
  rw[RepVs]at h1
  obtain⟨v,r,rfl,q1,q2⟩:=h1
  cases bs with
  | nil=>rw[RepVs]at h2;cases h2
  | cons b bs =>
   rw[RepVs]at h2
   obtain⟨v',r',e,r1,r2⟩:=h2
   cases e
   rw[zd5,Bool.and_eq_true]at f1 f2
   rw[zjh I a b f1.1 f2.1 q1 r1,zkj I as bs f1.2 f2.2 q2 r2]
end
mutual
theorem eq_at (I:Inv X pins σ H s):∀(d1 d2:D) {A:Around} {x y:V} {u w:Value},flat d1=true->flat d2=true->A.units+cdep d1 d2<cLine->RepV X.K μ H d1 x->RepV X.K μ H d2 y->RelV x u->RelV y w ->
  EqAt A s u w (eqD d1 d2)/\RcAt A s u w (eqD d1 d2)/\RcNeAt A s u w (!eqD d1 d2)
 | d1,d2,A,x,y,u,w,f1,f2,hu,h1,h2,r1,r2=>by
  cases d1 with
  | loc _=>simp[flat]at f1
  | non =>
   rw[RepV.non_iff]at h1;subst h1
   cases (show u=Value.none from r1)
   cases d2 with
   | loc _=>simp[flat]at f2
   | non=>rw[RepV.non_iff]at h2;subst h2;cases (show w=Value.none from r2);exact⟨EqAt.same _,RcAt.none_none,RcNeAt.none_none⟩
   | bl b=>rw[RepV.bl_iff]at h2;subst h2;cases (show w=Value.bool b from r2);exact⟨EqAt.none_bool b,RcAt.none_bool b,RcNeAt.none_bool b⟩
   | int b=>rw[RepV.int_iff]at h2;subst h2;obtain⟨t,rfl⟩:=r2;exact⟨EqAt.none_int b t,RcAt.none_int b t,RcNeAt.none_int b t⟩
   | str b=>rw[RepV.str_iff]at h2;subst h2;obtain⟨t,rfl⟩:=r2;exact⟨EqAt.none_str _ t,RcAt.none_str _ t,RcNeAt.none_str _ t⟩
   | tup bs =>
    obtain⟨b,ys,rfl,q1,q2⟩:=RepV.tup_iff.mp h2
    cases (show w=Value.ref b from r2)
    obtain⟨its,_,p,_⟩:=I.tuple (q1.sqT)
    exact⟨EqAt.none_tuple p (by omega),RcAt.none_tuple p (by omega),RcNeAt.none_tuple p (by omega)⟩
  | bl a =>
   rw[RepV.bl_iff]at h1;subst h1
   cases (show u=Value.bool a from r1)
   cases d2 with
   | loc _=>simp[flat]at f2
   | non=>rw[RepV.non_iff]at h2;subst h2;cases (show w=Value.none from r2);exact⟨EqAt.bool_none a,RcAt.bool_none a,RcNeAt.bool_none a⟩
   | bl b=>rw[RepV.bl_iff]at h2;subst h2;cases (show w=Value.bool b from r2);simp only[eqD];exact⟨EqAt.bool_bool a b,RcAt.bool_bool a b,RcNeAt.bool_bool a b⟩
   | int b=>rw[RepV.int_iff]at h2;subst h2;obtain⟨t,rfl⟩:=r2;simp only[eqD];exact⟨EqAt.bool_int a b t,RcAt.bool_int a b t,RcNeAt.bool_int a b t⟩
   | str b=>rw[RepV.str_iff]at h2;subst h2;obtain⟨t,rfl⟩:=r2;exact⟨EqAt.bool_str a _ t,RcAt.bool_str a _ t,RcNeAt.bool_str a _ t⟩
   | tup bs =>
    obtain⟨b,ys,rfl,q1,q2⟩:=RepV.tup_iff.mp h2
    cases (show w=Value.ref b from r2)
    obtain⟨its,_,p,_⟩:=I.tuple (q1.sqT)
    exact⟨EqAt.bool_tuple a p (by omega),RcAt.bool_tuple a p (by omega),RcNeAt.bool_tuple a p (by omega)⟩
  | int a =>
   rw[RepV.int_iff]at h1;subst h1
   obtain⟨ta,rfl⟩:=r1
   cases d2 with
   | loc _=>simp[flat]at f2
   | non=>rw[RepV.non_iff]at h2;subst h2;cases (show w=Value.none from r2);exact⟨EqAt.int_none a ta,RcAt.int_none a ta,RcNeAt.int_none a ta⟩
   | bl b=>rw[RepV.bl_iff]at h2;subst h2;cases (show w=Value.bool b from r2);simp only[eqD];exact⟨EqAt.int_bool a ta b,RcAt.int_bool a ta b,RcNeAt.int_bool a ta b⟩
   | int b=>rw[RepV.int_iff]at h2;subst h2;obtain⟨t,rfl⟩:=r2;simp only[eqD];exact⟨EqAt.int_int a ta b t,RcAt.int_int a ta b t,RcNeAt.int_int a ta b t⟩
   | str b=>rw[RepV.str_iff]at h2;subst h2;obtain⟨t,rfl⟩:=r2;exact⟨EqAt.int_str a ta _ t,RcAt.int_str a ta _ t,RcNeAt.int_str a ta _ t⟩
   | tup bs =>
    obtain⟨b,ys,rfl,q1,q2⟩:=RepV.tup_iff.mp h2
    cases (show w=Value.ref b from r2)
    obtain⟨its,_,p,_⟩:=I.tuple (q1.sqT)
    exact⟨EqAt.int_tuple a ta p (by omega),RcAt.int_tuple a ta p (by omega),RcNeAt.int_tuple a ta p (by omega)⟩
  | str a =>
   rw[RepV.str_iff]at h1;subst h1
   obtain⟨ta,rfl⟩:=r1
   cases d2 with
   | loc _=>simp[flat]at f2
   | non=>rw[RepV.non_iff]at h2;subst h2;cases (show w=Value.none from r2);exact⟨EqAt.str_none _ ta,RcAt.str_none _ ta,RcNeAt.str_none _ ta⟩
   | bl b=>rw[RepV.bl_iff]at h2;subst h2;cases (show w=Value.bool b from r2);exact⟨EqAt.str_bool _ ta b,RcAt.str_bool _ ta b,RcNeAt.str_bool _ ta b⟩
   | int b=>rw[RepV.int_iff]at h2;subst h2;obtain⟨t,rfl⟩:=r2;exact⟨EqAt.str_int _ ta b t,RcAt.str_int _ ta b t,RcNeAt.str_int _ ta b t⟩
   | str b =>
    rw[RepV.str_iff]at h2;subst h2;obtain⟨t,rfl⟩:=r2
    have e:(strOf a==strOf b)=eqD (.str a) (.str b):=by
     rw[eqD,Bool.eq_iff_iff,beq_iff_eq,beq_iff_eq];exact zjt
    rw[<-e]
    exact⟨EqAt.str_str _ ta _ t,RcAt.str_str _ ta _ t,RcNeAt.str_str _ ta _ t⟩
   | tup bs =>
    obtain⟨b,ys,rfl,q1,q2⟩:=RepV.tup_iff.mp h2
    cases (show w=Value.ref b from r2)
    obtain⟨its,_,p,_⟩:=I.tuple (q1.sqT)
    exact⟨EqAt.str_tuple _ ta p (by omega),RcAt.str_tuple _ ta p (by omega),RcNeAt.str_tuple _ ta p (by omega)⟩
  | tup as =>
   have h1':=h1
   have h2':=h2
   obtain⟨a,xs,rfl,q1,q2⟩:=RepV.tup_iff.mp h1
   cases (show u=Value.ref a from r1)
   obtain⟨its,ra,p,_⟩:=I.tuple (q1.sqT)
   cases d2 with
   | loc _=>simp[flat]at f2
   | non=>rw[RepV.non_iff]at h2;subst h2;cases (show w=Value.none from r2);exact⟨EqAt.tuple_none p (by omega),RcAt.tuple_none p (by omega),RcNeAt.tuple_none p (by omega)⟩
   | bl b=>rw[RepV.bl_iff]at h2;subst h2;cases (show w=Value.bool b from r2);exact⟨EqAt.tuple_bool b p (by omega),RcAt.tuple_bool b p (by omega),RcNeAt.tuple_bool b p (by omega)⟩
   | int b=>rw[RepV.int_iff]at h2;subst h2;obtain⟨t,rfl⟩:=r2;exact⟨EqAt.tuple_int b t p (by omega),RcAt.tuple_int b t p (by omega),RcNeAt.tuple_int b t p (by omega)⟩
   | str b=>rw[RepV.str_iff]at h2;subst h2;obtain⟨t,rfl⟩:=r2;exact⟨EqAt.tuple_str _ t p (by omega),RcAt.tuple_str _ t p (by omega),RcNeAt.tuple_str _ t p (by omega)⟩
   | tup bs =>
    obtain⟨b,ys,rfl,g1,g2⟩:=RepV.tup_iff.mp h2
    cases (show w=Value.ref b from r2)
    obtain⟨its2,rb,p2,_⟩:=I.tuple (g1.sqT)
    rw[zle]at hu
    rw[flat_tup]at f1 f2
    have items:=eqs_at I as bs (A:=A.in1) f1 f2 (by show A.units+1+cdeps as bs<cLine;omega) q2 g2 ra rb
    have la:as.length=its.toArray.size:=by rw[List.size_toArray,q2.length,ra.length]
    have lb:bs.length=its2.toArray.size:=by rw[List.size_toArray,g2.length,rb.length]
    have e:((List.range (min its.toArray.size its2.toArray.size)).all (eqJ as bs) && its.toArray.size==its2.toArray.size)=eqD (.tup as) (.tup bs):=by
     rw[eqD,zhv,la,lb]
    have rc:RcAt A s (.ref a) (.ref b) (eqD (.tup as) (.tup bs)):=by
     rw[<-e]
     exact RcAt.tuples p p2 (by omega) fun j j1 j2=>items j (by simpa using j1) (by simpa using j2)
    have ne:RcNeAt A s (.ref a) (.ref b) (!eqD (.tup as) (.tup bs)):=by
     rw[<-e]
     exact RcNeAt.tuples p p2 (by omega) fun j j1 j2=>items j (by simpa using j1) (by simpa using j2)
    refine⟨?_,rc,ne⟩
    by_cases hab:a=b
    ·subst hab
     have:(D.tup as)=.tup bs:=zjh I _ _ (by simpa using f1) (by simpa using f2) h1' h2'
     rw[<-this,zjl _ (by simpa using f1)]
     exact EqAt.same _
    ·exact EqAt.of_refs hab rc
theorem eqs_at (I:Inv X pins σ H s):∀(as bs:List D) {A:Around} {xs ys:List V} {us ws:List Value},flats as=true->flats bs=true->A.units+cdeps as bs<cLine->RepVs X.K μ H as xs->RepVs X.K μ H bs ys->Vals xs us->Vals ys ws ->
  ∀(j:Nat) (h1:j<us.length) (h2:j<ws.length),EqAt A s us[j] ws[j] (eqJ as bs j)
 | [],bs,A,xs,ys,us,ws,_,_,_,h1,_,r1,_,j,j1,_=>by
  rw[RepVs]at h1;subst h1;cases r1;simp at j1
 | a::as,[],A,xs,ys,us,ws,_,_,_,_,h2,_,r2,j,_,j2=>by
  rw[RepVs]at h2;subst h2;cases r2;simp at j2
 | a::as,b::bs,A,xs,ys,us,ws,f1,f2,hu,h1,h2,r1,r2,j,j1,j2=>by
  rw[RepVs]at h1 h2
  obtain⟨v,r,rfl,q1,q2⟩:=h1
  obtain⟨v',r',rfl,g1,g2⟩:=h2
  cases r1 with
  | cons r1 t1 =>
  cases r2 with
  | cons r2 t2 =>
  rw[zd5,Bool.and_eq_true]at f1 f2
  rw[ziy]at hu
  cases j with
  | zero=>exact (eq_at I a b f1.1 f2.1 (by omega) q1 g1 r1 r2).1
  | succ j=>exact eqs_at I as bs f1.2 f2.2 (by omega) q2 g2 t1 t2 j (by simpa using j1) (by simpa using j2)
end
end
end M
namespace M
open PySem PySem.Spec PySem.SeqAt L2
noncomputable def eqR (L:Nat):D->D->Stor->Option Bool
 | .loc m,.loc n,st=>match itemsAt st m,itemsAt st n with
  | some a,some b=>if flats a=true/\flats b=true/\cdeps a b+1<L then some (eqDs a b) else none
  | _,_=>none
 | .loc m,.non,st=>(itemsAt st m).map fun _=>false
 | .loc m,.tup b,st=>if 0<L then (itemsAt st m).map fun _=>false else none
 | .non,.loc n,st=>(itemsAt st n).map fun _=>false
 | .tup a,.loc n,st=>if 0<L then (itemsAt st n).map fun _=>false else none
 | d1,d2,_=>if flat d1=true/\flat d2=true/\cdep d1 d2<L then some (eqD d1 d2) else none
section
variable {X:Cx}{pins:List (Addr×Obj)}{σ:L2.St}{μ:List Addr}{H:Hp}{s:Shared}{L:Nat}
theorem eqs_lists {as bs:List D}{A:Around}{xs ys:List V}{a b:Addr}(I:Inv X pins σ H s)(f1:flats as=true)(f2:flats bs=true)(hu:A.units+1+cdeps as bs<cLine)(h1:RepVs X.K μ H as xs)(h2:RepVs X.K μ H bs ys)
  (q1:SqL X.K H a xs) (q2:SqL X.K H b ys):RcAt A s (.ref a) (.ref b) (eqDs as bs)/\RcNeAt A s (.ref a) (.ref b) (!eqDs as bs):=by
 obtain⟨its,ra,p,_⟩:=I.list q1
 obtain⟨its2,rb,p2,_⟩:=I.list q2
 have la:as.length=its.toArray.size:=by rw[List.size_toArray,h1.length,ra.length]
 have lb:bs.length=its2.toArray.size:=by rw[List.size_toArray,h2.length,rb.length]
 by_cases hl:its.toArray.size=its2.toArray.size
 ·have items:=eqs_at I as bs (A:=A.in1) f1 f2 hu h1 h2 ra rb
  have e:((List.range its.toArray.size).all (eqJ as bs))=eqDs as bs:=by
   rw[zhv,la,lb,<-hl,Nat.min_self];simp
  rw[<-e]
  exact⟨RcAt.lists p.isList p2.isList hl (by omega) fun j j1 j2=>items j (by simpa using j1) (by simpa using j2),RcNeAt.lists p.isList p2.isList hl (by omega) fun j j1 j2=>items j (by simpa using j1) (by simpa using j2)⟩
 ·have e:eqDs as bs=false:=by
   rw[zhv,la,lb,Bool.and_eq_false_iff]
   exact .inr (by simpa using hl)
  have hl':(its.toArray.size != its2.toArray.size)=true:=by simpa using hl
  rw[e]
  exact⟨RcAt.lists_lengths p.isList p2.isList hl' (by omega),RcNeAt.lists_lengths p.isList p2.isList hl' (by omega)⟩
theorem eqR_at {d1 d2:D}{st:Stor}{k:Bool}{A:Around}{x y:V}{u w:Value}(I:Inv X pins σ H s)(hs:RepS X.K μ H st)(e:eqR L d1 d2 st=some k)(hu:A.units+L<cLine)(h1:RepV X.K μ H d1 x)(h2:RepV X.K μ H d2 y)(r1:RelV x u)(r2:RelV y w) :
  RcAt A s u w k/\RcNeAt A s u w (!k):=by
 have plain:∀{d1 d2:D},RepV X.K μ H d1 x->RepV X.K μ H d2 y->(if flat d1=true/\flat d2=true/\cdep d1 d2<L then some (eqD d1 d2) else none)=some k->RcAt A s u w k/\RcNeAt A s u w (!k):=fun {d1 d2} h1 h2 e=>by
  split at e
  ·rename_i c
   cases e
   exact (eq_at I d1 d2 c.1 c.2.1 (by omega) h1 h2 r1 r2).2
  ·cases e
 have list:∀{n:Nat} {v:V} {z:Value} {ds:List D},RepV X.K μ H (.loc n) v->RelV v z->itemsAt st n=some ds->∃p its,z=.ref p/\s.heap.IsList p its:=fun {n v z ds} h r q=>by
  obtain⟨p,q1,rfl⟩:=RepV.loc_iff.mp h
  obtain⟨p',xs,g1,g2,g3⟩:=hs.items q
  rw[q1]at g1;cases g1
  cases (show z=Value.ref p from r)
  obtain⟨its,_,pl,_⟩:=I.list g2
  exact⟨p,_,rfl,pl.isList⟩
 have tuple:∀{bs:List D} {v:V} {z:Value},RepV X.K μ H (.tup bs) v->RelV v z->∃p its,z=.ref p/\s.heap.IsTuple p its:=fun {bs v z} h r=>by
  obtain⟨p,xs,rfl,q1,_⟩:=RepV.tup_iff.mp h
  cases (show z=Value.ref p from r)
  obtain⟨its,_,pl,_⟩:=I.tuple (q1.sqT)
  exact⟨p,_,rfl,pl⟩
 match d1,d2,e,h1,h2 with
 | .loc m,.loc n,e,h1,h2 =>
  simp only[eqR]at e
  cases e1:itemsAt st m with
  | none=>rw[e1]at e;cases e
  | some as =>
   cases e2:itemsAt st n with
   | none=>rw[e1,e2]at e;cases e
   | some bs =>
    rw[e1,e2]at e
    dsimp only at e
    split at e
    ·rename_i c
     cases e
     obtain⟨p,q1,rfl⟩:=RepV.loc_iff.mp h1
     obtain⟨p',xs,g1,g2,g3⟩:=hs.items e1
     rw[q1]at g1;cases g1
     obtain⟨q,q2,rfl⟩:=RepV.loc_iff.mp h2
     obtain⟨q',ys,k1,k2,k3⟩:=hs.items e2
     rw[q2]at k1;cases k1
     cases (show u=Value.ref p from r1)
     cases (show w=Value.ref q from r2)
     exact eqs_lists I c.1 c.2.1 (by omega) g3 k3 g2 k2
    ·cases e
 | .loc m,.non,e,h1,h2 =>
  simp only[eqR]at e
  cases e1:itemsAt st m with
  | none=>rw[e1]at e;cases e
  | some as =>
   rw[e1]at e;cases e
   obtain⟨p,its,rfl,pl⟩:=list h1 r1 e1
   rw[RepV.non_iff]at h2;subst h2;cases (show w=Value.none from r2)
   exact⟨RcAt.list_none pl (by omega),RcNeAt.list_none pl (by omega)⟩
 | .non,.loc n,e,h1,h2 =>
  simp only[eqR]at e
  cases e1:itemsAt st n with
  | none=>rw[e1]at e;cases e
  | some as =>
   rw[e1]at e;cases e
   obtain⟨p,its,rfl,pl⟩:=list h2 r2 e1
   rw[RepV.non_iff]at h1;subst h1;cases (show u=Value.none from r1)
   exact⟨RcAt.none_list pl (by omega),RcNeAt.none_list pl (by omega)⟩
 | .loc m,.tup bs,e,h1,h2 =>
  simp only[eqR]at e
  split at e
  ·cases e1:itemsAt st m with
   | none=>rw[e1]at e;cases e
   | some as =>
    rw[e1]at e;cases e
    obtain⟨p,its,rfl,pl⟩:=list h1 r1 e1
    obtain⟨q,its2,rfl,pt⟩:=tuple h2 r2
    exact⟨RcAt.list_tuple pl pt (by omega),RcNeAt.list_tuple pl pt (by omega)⟩
  ·cases e
 | .tup as,.loc n,e,h1,h2 =>
  simp only[eqR]at e
  split at e
  ·cases e1:itemsAt st n with
   | none=>rw[e1]at e;cases e
   | some as =>
    rw[e1]at e;cases e
    obtain⟨p,its,rfl,pl⟩:=list h2 r2 e1
    obtain⟨q,its2,rfl,pt⟩:=tuple h1 r1
    exact⟨RcAt.tuple_list pt pl (by omega),RcNeAt.tuple_list pt pl (by omega)⟩
  ·cases e
 | .non,.non,e,h1,h2=>exact plain h1 h2 (by simpa only[eqR] using e)
 | .non,.bl _,e,h1,h2=>exact plain h1 h2 (by simpa only[eqR] using e)
 | .non,.int _,e,h1,h2=>exact plain h1 h2 (by simpa only[eqR] using e)
 | .non,.str _,e,h1,h2=>exact plain h1 h2 (by simpa only[eqR] using e)
 | .non,.tup _,e,h1,h2=>exact plain h1 h2 (by simpa only[eqR] using e)
 | .bl _,d2,e,h1,h2=>exact plain h1 h2 (by simpa only[eqR] using e)
 | .int _,d2,e,h1,h2=>exact plain h1 h2 (by simpa only[eqR] using e)
 | .str _,d2,e,h1,h2=>exact plain h1 h2 (by simpa only[eqR] using e)
 | .tup _,.non,e,h1,h2=>exact plain h1 h2 (by simpa only[eqR] using e)
 | .tup _,.bl _,e,h1,h2=>exact plain h1 h2 (by simpa only[eqR] using e)
 | .tup _,.int _,e,h1,h2=>exact plain h1 h2 (by simpa only[eqR] using e)
 | .tup _,.str _,e,h1,h2=>exact plain h1 h2 (by simpa only[eqR] using e)
 | .tup _,.tup _,e,h1,h2=>exact plain h1 h2 (by simpa only[eqR] using e)
 | .loc _,.bl _,e,h1,h2=>simp[eqR,flat]at e
 | .loc _,.int _,e,h1,h2=>simp[eqR,flat]at e
 | .loc _,.str _,e,h1,h2=>simp[eqR,flat]at e
noncomputable def eqV (L:Nat):D->D->Stor->R D:=fun d1 d2 st=>match eqR L d1 d2 st with | some k=>.ok (.bl k) st | none=>.bad
noncomputable def neV (L:Nat):D->D->Stor->R D:=fun d1 d2 st=>match eqR L d1 d2 st with | some k=>.ok (.bl (!k)) st | none=>.bad
theorem zha (hu:X.A.units+L<cLine):OpR X (compareOp .Eq) (rM X (eqV L)):=by
 rintro pins s σ H x y v u Q I rx ry ⟨μ,st,dx,dy,hs,hx,hy,hp⟩
 unfold eqV at hp
 cases e:eqR L dx dy st with
 | none=>rw[e]at hp;exact hp.elim
 | some k =>
  rw[e]at hp
  exact (eqR_at I hs e hu hx hy rx ry).1 X.prog X.w X.xe _ ⟨.bl k,H,I,rfl,hp.ret hs (RepV.bl_iff.mpr rfl)⟩
theorem op_neV (hu:X.A.units+L<cLine):OpR X (compareOp .NotEq) (rM X (neV L)):=by
 rintro pins s σ H x y v u Q I rx ry ⟨μ,st,dx,dy,hs,hx,hy,hp⟩
 unfold neV at hp
 cases e:eqR L dx dy st with
 | none=>rw[e]at hp;exact hp.elim
 | some k =>
  rw[e]at hp
  exact (eqR_at I hs e hu hx hy rx ry).2 X.prog X.w X.xe _ ⟨.bl (!k),H,I,rfl,hp.ret hs (RepV.bl_iff.mpr rfl)⟩
end
end M
namespace M
open PySem PySem.Spec L2
noncomputable def isTy (T:String)(d:D)(st:Stor):Bool:=match d with
 | .str _=>T == "str"
 | .loc n=>(match st[n]? with
  | some (.lst _)=>T == "list"
  | some (.frz _)=>T == "list"
  | some (.dic _)=>T == "dict"
  | some (.dkc _)=>T == "dict"
  | _=>false)
 | _=>false
section
variable {X:Cx}{e a b c o:Expr}{es:List Expr}{ma mb mc mo:ME}{mA:MA}{pos p2 p apos cpos:Pos}{T id:String}{name:Str}{g:D->List D->Stor->R D}
theorem isTy_ok {μ:List Addr}{H:Hp}{d:D}{st:Stor}{v:V}(h:isTy T d st=true)(hs:RepS X.K μ H st)(hv:RepV X.K μ H d v):tyV X.K T v H:=by
 cases d with
 | str cs=>rw[RepV.str_iff]at hv;subst hv;exact eq_of_beq h
 | loc n =>
  obtain⟨p,q1,rfl⟩:=RepV.loc_iff.mp hv
  simp only[isTy]at h
  cases e:st[n]? with
  | none=>rw[e]at h;cases h
  | some o =>
   rw[e]at h
   obtain⟨p',r1,r2⟩:=hs.at_ n o e
   rw[q1]at r1;cases r1
   cases o with
   | lst ds=>obtain⟨xs,r3,_⟩:=r2;exact .inl ⟨eq_of_beq h,xs,SqL.of r3⟩
   | frz ds=>obtain⟨xs,r3,_⟩:=r2;exact .inl ⟨eq_of_beq h,xs,r3.sqL⟩
   | dic ds=>obtain⟨xs,r3,_⟩:=r2;exact .inr (.inr (.inl ⟨eq_of_beq h,.inr ⟨xs,r3⟩⟩))
   | dkc ds=>obtain⟨xs,r3,_⟩:=r2;exact .inr (.inr (.inl ⟨eq_of_beq h,.inl ⟨xs,r3⟩⟩))
   | _=>cases h
 | _=>simp[isTy]at h
noncomputable def methE (T:String)(g:D->List D->Stor->R D)(mo:ME)(mA:MA):ME:=fun env st=>(mo env st).bind fun x st1=>if isTy T x st1=true then (mA env st1).bind fun xs st2=>g x xs st2 else .bad
noncomputable def meth0E (T:String)(g:D->List D->Stor->R D)(mo:ME):ME:=fun env st=>(mo env st).bind fun x st1=>if isTy T x st1=true then g x [] st1 else .bad
theorem zer (pa:PlainAttrs T)(slot:Slot T name id)(hty:typeOf (.builtin id)=pure (.type "method_descriptor"))(hm:MtR X id (rMM X g))(ho:JE X o mo)(ha:JA X (e::es) mA)
  (hbase:attributeBase o name X.env (eval o X.env)=eval o X.env:=by rfl)
  (hfew:((backTo cpos (starEach (e::es) X.env)).all (fun x=>!x.1) && (backToKw cpos (keywordEach [] X.env)).all (fun x=>x.1.isSome)
   && decide ((e::es).length+([]:List Keyword).length+(if ([]:List Keyword).isEmpty then 0 else 1)<30))=true:=by rfl)
  (hline:(apos.endLine==cpos.line)=true:=by rfl) (hs:starEach (e::es) X.env=(false,eval e X.env)::starEach es X.env:=by rfl) (hplain:(backTo cpos (starEach es X.env)).any (·.1)=false:=by rfl):JE X (.Call (.Attribute o name apos) (e::es) [] cpos) (methE T g mo mA):=by
 refine JE.of (pe_bm pa slot hty hm ho ha hbase hfew hline hs hplain) fun σ H Q zz=>?_
 obtain⟨μ,env,st,hE,hs,hp⟩:=zz
 refine⟨μ,env,st,hE,hs,(Post.bind hp).imp ?_⟩
 rintro x H1 ⟨μ1,st1,d,g1,hs1,hx,hp1⟩
 dsimp only at hp1
 split at hp1
 ·rename_i hT
  refine⟨isTy_ok hT hs1 hx,μ1,env,st1,hE.mono g1,hs1,(Post.bind hp1).imp ?_⟩
  rintro xs H2 ⟨μ2,st2,ds,g2,hs2,hxs,hp2⟩
  exact⟨μ2,st2,d,ds,hs2,hx.mono g2 _,hxs,hp2⟩
 ·exact hp1.elim
theorem je_meth0 (pa:PlainAttrs T)(slot:Slot T name id)(hty:typeOf (.builtin id)=pure (.type "method_descriptor"))(hm:MtR X id (rMM X g))(ho:JE X o mo)
  (hbase:attributeBase o name X.env (eval o X.env)=eval o X.env:=by rfl) (hline:(apos.endLine==cpos.line)=true:=by rfl):JE X (.Call (.Attribute o name apos) [] [] cpos) (meth0E T g mo):=by
 refine JE.of (pe_bm0 pa slot hty hm ho hbase hline) fun σ H Q zz=>?_
 obtain⟨μ,env,st,hE,hs,hp⟩:=zz
 refine⟨μ,env,st,hE,hs,(Post.bind hp).imp ?_⟩
 rintro x H1 ⟨μ1,st1,d,g1,hs1,hx,hp1⟩
 dsimp only at hp1
 split at hp1
 ·rename_i hT
  exact⟨isTy_ok hT hs1 hx,μ1,st1,d,[],hs1,hx,RepVs.nil,hp1⟩
 ·exact hp1.elim
noncomputable def appendV:D->List D->Stor->R D
 | .loc n,[d],st=>match st[n]? with
  | some (.lst ds)=>if ds.length<1000000 then .ok .non (st.set n (.lst (ds++[d]))) else .bad
  | _=>.bad
 | _,_,_=>.bad
theorem wr_lst {μ:List Addr}{H:Hp}{st:Stor}{n:Nat}{ds ds':List D}{p:Addr}{xs ys:List V}{Q:VK}(hp:Post X μ H (relV X) Q (.ok .non (st.set n (.lst ds'))))(hs:RepS X.K μ H st)(e:st[n]? = some (.lst ds))(hq:μ[n]? = some p)(hx:H p=some (.lst xs))(hy:RepVs X.K μ H ds' ys) :
  Q .non (upd H p (.lst ys)):=by
 obtain⟨g,hs'⟩:=putLst hs e hq hx hy
 exact hp _ _ μ g hs' (RepV.non_iff.mpr rfl)
theorem zd8:MtR X "list.append" (rMM X appendV):=by
 refine MtR.weak zj9 ?_
 rintro x xs H Q ⟨μ,st,d,ds,hs,hx,hxs,hp⟩
 unfold appendV at hp
 split at hp
 ·rename_i n d' 
  cases e:st[n]? with
  | none=>rw[e]at hp;exact hp.elim
  | some mo =>
   cases mo with
   | lst l =>
    rw[e]at hp
    dsimp only at hp
    split at hp
    ·rename_i hl
     obtain⟨p,q1,rfl⟩:=RepV.loc_iff.mp hx
     obtain⟨y,rfl,q2⟩:=RepVs.one hxs
     obtain⟨p',ys,r1,r2,r3⟩:=hs.lst e
     rw[q1]at r1;cases r1
     refine⟨p,ys,y,rfl,rfl,r2,by rw[<-r3.length];exact Nat.lt_of_lt_of_le hl (by decide),wr_lst hp hs e q1 r2 (r3.append (RepVs.cons q2 RepVs.nil))⟩
    ·exact hp.elim
   | _=>rw[e]at hp;exact hp.elim
 ·exact hp.elim
noncomputable def clearV:D->List D->Stor->R D
 | .loc n,[],st=>match st[n]? with
  | some (.lst ds)=>.ok .non (st.set n (.lst []))
  | _=>.bad
 | _,_,_=>.bad
theorem mt_clearV:MtR X "list.clear" (rMM X clearV):=by
 refine MtR.weak mt_clear ?_
 rintro x xs H Q ⟨μ,st,d,ds,hs,hx,hxs,hp⟩
 unfold clearV at hp
 split at hp
 ·rename_i n
  cases e:st[n]? with
  | none=>rw[e]at hp;exact hp.elim
  | some mo =>
   cases mo with
   | lst l =>
    rw[e]at hp
    obtain⟨p,q1,rfl⟩:=RepV.loc_iff.mp hx
    rw[RepVs]at hxs
    obtain⟨p',ys,r1,r2,r3⟩:=hs.lst e
    rw[q1]at r1;cases r1
    exact⟨p,ys,rfl,hxs,r2,wr_lst hp hs e q1 r2 RepVs.nil⟩
   | _=>rw[e]at hp;exact hp.elim
 ·exact hp.elim
end
end M
namespace M
open PySem PySem.Spec L2
section
variable {X:Cx}{e a b c l:Expr}{es:List Expr}{ma mb mc:ME}{mA:MA}{pos p2 p tpos:Pos}{μ:List Addr}{H:Hp}
noncomputable def lstG (st:Stor)(n:Nat):Option (List D×MO):=match st[n]? with
 | some (.lst ds)=>some (ds,.lst ds)
 | some (.frz ds)=>some (ds,.frz ds)
 | _=>none
end
end M
namespace M
open PySem PySem.Spec L2
noncomputable def PostK {α β:Type}(K:PySem.W.Frag)(μ:List Addr)(H:Hp)(rel:Rel α β)(Q:β->Hp->Prop)(r:R α):Prop:=match r with
 | .ok a st=>∀(b:β) (H':Hp) (μ':List Addr),Grow μ H μ' H'->RepS K μ' H' st->rel μ' H' a b->Q b H'
 | _=>False
noncomputable def tK {α β:Type}(K:PySem.W.Frag)(rel:Rel α β)(m:MEnv->Stor->R α):L2.St->Hp->(β->Hp->Prop)->Prop:=fun σ H Q=>∃μ env st,RepE K μ H env σ/\RepS K μ H st/\PostK K μ H rel Q (m env st)
noncomputable def tKG (K:PySem.W.Frag)(m:MG):TG:=fun v σ H Q=>∃μ env st d,RepE K μ H env σ/\RepS K μ H st/\RepV K μ H d v/\PostK K μ H (fun μ H env σ=>RepE K μ H env σ) Q (m d env st)
theorem PostK.post {α β:Type}{X:Cx}{μ:List Addr}{H:Hp}{rel:Rel α β}{Q:β->Hp->Prop}{r:R α}(h:PostK X.K μ H rel Q r):Post X μ H rel Q r:=by
 cases r with
 | ok a st=>exact h
 | err x st=>exact h.elim
 | bad=>exact h.elim
theorem PostK.mono {α β:Type}{K:PySem.W.Frag}{μ μ1:List Addr}{H H1:Hp}{rel:Rel α β}{Q:β->Hp->Prop}{r:R α}(g:Grow μ H μ1 H1)(h:PostK K μ H rel Q r):PostK K μ1 H1 rel Q r:=by
 cases r with
 | ok a st=>exact fun b H' μ' g'=>h b H' μ' (g.trans g')
 | err x st=>exact h.elim
 | bad=>exact h.elim
noncomputable def captE (capt:List (Option Nat))(env:MEnv):MEnv:=capt.map fun o=>o.bind fun j=>(env[j]?).join
open Classical in
noncomputable def compGo (g:MG)(t:MT)(e:ME)(gs:List (Nat×MO))(n:Nat):List D->MEnv->Stor->R D
 | [],_,st=>if okG gs st then .ok (.loc n) st else .bad
 | d::r,env,st=>if okG gs st then (g d env st).bind fun env1 st1=>(t env1 st1).bind fun ok st2=>if ok then (e env1 st2).bind fun y st3=>(match st3[n]? with
   | some (.lst xs)=>if xs.length<1000000 then compGo g t e gs n r env1 (st3.set n (.lst (xs++[y]))) else .bad
   | _=>.bad) else compGo g t e gs n r env1 st2 else .bad
noncomputable def compE (capt:List (Option Nat))(mi:MI)(g:MG)(t:MT)(e:ME):ME:=fun env st=>(mi env st).bind fun s st1=>(compGo g t e s.2 st1.length s.1 (captE capt env) (st1++[.lst []])).sure
noncomputable def yesT:MT:=fun _ st=>.ok true st
section
variable {X:Cx}{elt tg iter c:Expr}{ifs:List Expr}{scope:Scope}{pos:Pos}{N:List Str}{capt:List (Option Nat)}{mi:MI}{g:MG}{t:MT}{me:ME}
theorem RepE.taken {K:PySem.W.Frag}{μ:List Addr}{H:Hp}{env:MEnv}{σ:L2.St}(cp:List (Option Nat))(h:RepE K μ H env σ):RepE K μ H (captE cp env) (captSt cp σ):=by
 refine⟨by simp[captE,captSt],fun i d e=>?_⟩
 unfold captE at e
 unfold captSt
 rw[List.getElem?_map]at e ⊢
 cases q:cp[i]? with
 | none=>rw[q]at e;cases e
 | some o =>
  rw[q]at e
  cases o with
  | none=>cases e
  | some j =>
   have e':(env[j]?).join=some d:=by simpa using e
   have e2:env[j]? = some (some d):=by
    cases z:env[j]? with
    | none=>rw[z]at e';cases e'
    | some y=>rw[z]at e';cases e';rfl
   obtain⟨v,h1,h2⟩:=h.at_ j d e2
   exact⟨v,by simp[h1],h2⟩
theorem PostK.val {α β γ:Type}{K:PySem.W.Frag}{μ:List Addr}{H:Hp}{rel:Rel α β}{r:R α}{f:α->Stor->R γ}{G:List Addr->Hp->R γ->Prop}(hG:∀μ μ1 H H1 r,Grow μ H μ1 H1->G μ H r->G μ1 H1 r)(hb:∀μ H,¬ G μ H .bad)(he:∀μ H x st,¬ G μ H (.err x st))
  (h:G μ H (r.bind f)):PostK K μ H rel (fun b H1=>∃μ1 st1 a,Grow μ H μ1 H1/\RepS K μ1 H1 st1/\rel μ1 H1 a b/\G μ1 H1 (f a st1)) r:=by
 cases r with
 | ok a st=>exact fun b H' μ' g h1 h2=>⟨μ',st,a,g,h1,h2,hG _ _ _ _ _ g h⟩
 | err x st=>exact (he _ _ _ _ h).elim
 | bad=>exact (hb _ _ h).elim
noncomputable def EndG (X:Cx)(Q:VK):List Addr->Hp->R D->Prop:=fun μ H r=>PostK X.K μ H (relV X) Q r
theorem tComp_of {σ:L2.St}{H:Hp}{Q:VK}(h:tM X (compE capt mi g t me) σ H Q):tComp capt (tMI X mi) (tKG X.K g) (tK X.K relB t) (tK X.K (relV X) me) σ H Q:=by
 obtain⟨μ,env,st,hE,hs,hp⟩:=h
 refine⟨μ,env,st,hE,hs,(Post.bind hp).imp ?_⟩
 rintro J H1 ⟨μ1,st1,s,g1,hs1,hJ,hp1⟩
 dsimp only at hp1
 have hp2:EndG X Q μ1 H1 (compGo g t me s.2 st1.length s.1 (captE capt env) (st1++[.lst []])):=by
  cases hr:compGo g t me s.2 st1.length s.1 (captE capt env) (st1++[.lst []]) with
  | ok d st2=>rw[hr]at hp1;exact hp1
  | err y st2=>rw[hr]at hp1;exact hp1.elim
  | bad=>rw[hr]at hp1;exact hp1.elim
 have mG:∀μ μ1 H H1 r,Grow μ H μ1 H1->EndG X Q μ H r->EndG X Q μ1 H1 r:=fun μ μ1 H H1 r g h=>PostK.mono g h
 have nb:∀μ H,¬ EndG X Q μ H .bad:=fun μ H h=>h
 have ne:∀μ H x st,¬ EndG X Q μ H (.err x st):=fun μ H x st h=>h
 intro D hD
 have gD:Grow μ1 H1 (μ1++[D]) (upd H1 D (.lst [])):=Grow.new hD
 have sD:RepS X.K (μ1++[D]) (upd H1 D (.lst [])) (st1++[.lst []]):=hs1.new hD ⟨[],zbd,RepVs.nil⟩
 have nD:(μ1++[D])[st1.length]? = some D:=by rw[<-hs1.len];simp
 refine⟨fun i k σ' H'=>∃μ2 env2 st2,Grow (μ1++[D]) (upd H1 D (.lst [])) μ2 H'/\RepE X.K μ2 H' env2 σ'/\RepS X.K μ2 H' st2/\EndG X Q μ2 H' (compGo g t me s.2 st1.length (s.1.drop i) env2 st2)/\i<=s.1.length/\k=s.1.length - i,
  ⟨_,μ1++[D],captE capt env,_,.refl _ _,(hE.mono (g1.trans gD)).taken capt,sD,by simpa using mG _ _ _ _ _ gD hp2,Nat.zero_le _,rfl⟩,?_⟩
 rintro i k σ2 H2 ⟨μ2,env2,st2,g2,hE2,hs2,hp3,hi,rfl⟩
 have atD:μ2[st1.length]? = some D:=g2.get nD
 by_cases hlt:i<s.1.length
 ·have e1:s.1.drop i=s.1[i]::s.1.drop (i+1):=List.drop_eq_getElem_cons hlt
  rw[e1,compGo]at hp3
  by_cases ok:okG s.2 st2
  ·rw[if_pos ok]at hp3
   obtain⟨q1,q2⟩:=(hJ H2 μ2 st2 (gD.trans g2) hs2 ok).1 i s.1[i] (List.getElem?_eq_getElem hlt)
   refine .inr ⟨q1,fun σ' H'=>∃μ3 env3 st3,Grow (μ1++[D]) (upd H1 D (.lst [])) μ3 H'/\RepE X.K μ3 H' env3 σ'/\RepS X.K μ3 H' st3/\EndG X Q μ3 H' (compGo g t me s.2 st1.length (s.1.drop (i+1)) env3 st3),?_,?_⟩
   ·rintro σ' H' ⟨μ3,env3,st3,g3,hE3,hs3,hp4⟩
    exact⟨s.1.length - (i+1),by omega,μ3,env3,st3,g3,hE3,hs3,hp4,by omega,rfl⟩
   ·intro x H3 hx
    obtain⟨g3,hs3,hd⟩:=q2 x H3 hx
    refine⟨μ2,env2,st2,s.1[i],hE2.mono g3,hs3,hd,?_⟩
    have w1:=PostK.val (K:=X.K) (rel:=fun μ H env σ=>RepE X.K μ H env σ) mG nb ne (mG _ _ _ _ _ g3 hp3)
    cases hr1:g s.1[i] env2 st2 with
    | bad=>rw[hr1]at w1;exact w1
    | err y z=>rw[hr1]at w1;exact w1
    | ok env4 st4 =>
     rw[hr1]at w1
     intro σ4 H4 μ4 g4 hs4 hE4
     obtain⟨μ4',st4',env4',g4',hs4',hE4',hp4⟩:=w1 σ4 H4 μ4 g4 hs4 hE4
     refine⟨μ4',env4',st4',hE4',hs4',?_⟩
     have w2:=PostK.val (K:=X.K) (rel:=relB) mG nb ne hp4
     cases hr2:t env4' st4' with
     | bad=>rw[hr2]at w2;exact w2
     | err y z=>rw[hr2]at w2;exact w2
     | ok b5 st5 =>
      rw[hr2]at w2
      intro b H5 μ5 g5 hs5 hb5
      obtain⟨μ5',st5',b5',g5',hs5',hb5',hp5⟩:=w2 b H5 μ5 g5 hs5 hb5
      subst hb5'
      have gg:Grow (μ1++[D]) (upd H1 D (.lst [])) μ5' H5:=((g2.trans g3).trans g4').trans g5'
      cases b5' with
      | false=>exact iteF ⟨μ5',env4',st5',gg,hE4'.mono g5',hs5',by simpa using hp5⟩
      | true =>
       refine iteT ⟨μ5',env4',st5',hE4'.mono g5',hs5',?_⟩
       have hp5':EndG X Q μ5' H5 ((me env4' st5').bind fun y st3=>(match st3[st1.length]? with
        | some (.lst xs)=>if xs.length<1000000 then compGo g t me s.2 st1.length (s.1.drop (i+1)) env4' (st3.set st1.length (.lst (xs++[y]))) else .bad
        | _=>.bad)):=by simpa using hp5
       have w3:=PostK.val (K:=X.K) (rel:=relV X) mG nb ne hp5'
       cases hr3:me env4' st5' with
       | bad=>rw[hr3]at w3;exact w3
       | err y z=>rw[hr3]at w3;exact w3
       | ok y6 st6 =>
        rw[hr3]at w3
        intro v H6 μ6 g6 hs6 hv6
        obtain⟨μ6',st6',y6',g6',hs6',hv6',hp6⟩:=w3 v H6 μ6 g6 hs6 hv6
        have gg6:=gg.trans g6'
        have atD6:μ6'[st1.length]? = some D:=gg6.get nD
        cases e6:st6'[st1.length]? with
        | none=>rw[e6]at hp6;exact hp6.elim
        | some mo =>
         cases mo with
         | lst xs =>
          rw[e6]at hp6
          dsimp only at hp6
          split at hp6
          ·rename_i hl
           obtain⟨p',ys,r1,r2,r3⟩:=hs6'.lst e6
           rw[atD6]at r1;cases r1
           obtain⟨g7,hs7⟩:=putLst hs6' e6 atD6 r2 (r3.append (RepVs.cons hv6' RepVs.nil))
           refine⟨ys,r2,by rw[<-r3.length];exact Nat.lt_of_lt_of_le hl (by decide),μ6',env4',_,gg6.trans g7,((hE4'.mono g5').mono g6').mono g7,hs7,mG _ _ _ _ _ g7 hp6⟩
          ·exact hp6.elim
         | _=>rw[e6]at hp6;exact hp6.elim
  ·rw[if_neg ok]at hp3;exact hp3.elim
 ·have e1:s.1.drop i=[]:=List.drop_eq_nil_of_le (by omega)
  rw[e1,compGo]at hp3
  have e2:i=s.1.length:=by omega
  by_cases ok:okG s.2 st2
  ·rw[if_pos ok]at hp3
   refine .inl ⟨by rw[e2];exact (hJ H2 μ2 st2 (gD.trans g2) hs2 ok).2,?_⟩
   exact hp3 _ H2 μ2 (.refl _ _) hs2 (RepV.loc_iff.mpr ⟨D,atD,rfl⟩)
  ·rw[if_neg ok]at hp3;exact hp3.elim
theorem pe_tK {X':Cx}{e:Expr}{m:ME}(h:JE X' e m):PE X' e (tK X'.K (relV X') m):=by
 refine fun pins s σ H Q I zz=>?_
 obtain⟨μ,env,st,a,b,c⟩:=zz
 exact h pins s σ H Q I ⟨μ,env,st,a,b,c.post⟩
theorem pg_tK {X':Cx}{e:Expr}{m:MG}(h:JG X' e m):PG X' e (tKG X'.K m):=by
 refine fun pins s σ H v u Q I r zz=>?_
 obtain⟨μ,env,st,d,a,b,b2,c⟩:=zz
 exact h pins s σ H v u Q I r ⟨μ,env,st,d,a,b,b2,c.post⟩
theorem pt_tK {X':Cx}{e:Expr}{m:MT}(h:JT X' e m):PT X' e (tK X'.K relB m):=by
 refine fun pins s σ H Q I zz=>?_
 obtain⟨μ,env,st,a,b,c⟩:=zz
 exact h pins s σ H Q I ⟨μ,env,st,a,b,c.post⟩
noncomputable def JTs (X:Cx)(ifs:List Expr)(m:MT):Prop:=PTs X ifs (tK X.K relB m)
theorem zke {X':Cx}:JTs X' [] yesT:=by
 refine fun pins s σ H Q I zz=>?_
 obtain⟨μ,env,st,a,b,c⟩:=zz
 exact pts_nil pins s σ H Q I (c true H μ (.refl _ _) b rfl)
theorem jts_one {X':Cx}{m:MT}(h:JT X' c m):JTs X' [c] m:=pts_one (pt_tK h)
noncomputable def FreeOk (sc sc0:Scope):Prop:=∀x∈sc.names,x.2=.free->sc0.names.lookup x.1=some .cell\/sc0.names.lookup x.1=some .free
instance (sc sc0:Scope):Decidable (FreeOk sc sc0):=inferInstanceAs (Decidable (∀x∈sc.names,x.2=.free->sc0.names.lookup x.1=some .cell\/sc0.names.lookup x.1=some .free))
theorem zis {sc0:Scope}(hi:JI X tg iter mi)(S:CompScope scope)(hfr:FreeOk scope sc0)(hcap:Capt X scope capt N)(hc:X.calm=true)
  (hg:∀cl C fp s H,JG (compCx X N scope cl C fp s H) tg g) (ht:∀cl C fp s H,JTs (compCx X N scope cl C fp s H) ifs t) (he:∀cl C fp s H,JE (compCx X N scope cl C fp s H) elt me)
  (h0:X.env.scope=sc0:=by rfl) (hs:∀x,foldedSetIterable iter X.env x=pure x:=by intro _;rfl):JE X (.ListComp elt [⟨tg,iter,ifs,0⟩] scope pos) (compE capt mi g t me) :=
 JE.of (pe_comp (g:=tKG X.K g) (tt:=tK X.K relB t) (te:=tK X.K (relV X) me) hi S (by subst h0;exact hfr) hcap hc (fun cl C fp s H=>pg_tK (hg cl C fp s H)) ht (fun cl C fp s H=>pe_tK (he cl C fp s H)) hs) fun σ H Q h=>tComp_of h
end
end M
namespace M
open PySem PySem.Spec L2
theorem zag:∀(env:MEnv) (st:Stor) (as:List D) (st1:Stor),nilA env st=.ok as st1->as.length=([]:List Expr).length:=by
 intro env st as st1 h
 cases h;rfl
theorem zab {e:Expr}{es:List Expr}{a:ME}{r:MA}(h:∀(env:MEnv) (st:Stor) (as:List D) (st1:Stor),r env st=.ok as st1->as.length=es.length) :
  ∀(env:MEnv) (st:Stor) (as:List D) (st1:Stor),consA a r env st=.ok as st1->as.length=(e::es).length:=by
 intro env st as st1 q
 unfold consA at q
 cases h1:a env st with
 | bad=>rw[h1]at q;cases q
 | err x s=>rw[h1]at q;cases q
 | ok x s =>
  rw[h1,R.bind_ok]at q
  cases h2:r env s with
  | bad=>rw[h2]at q;cases q
  | err x s=>rw[h2]at q;cases q
  | ok xs s2 =>
   rw[h2,R.bind_ok]at q
   cases q
   rw[List.length_cons,List.length_cons,h env s xs _ h2]
theorem hu200 {A:Around}{k:Nat}(hr:Room k A):A.units+200<cLine:=by have:=hr.un;omega
noncomputable def fuel:Nat:=1000000
theorem zm4 {K:PySem.W.Frag}{H:Hp}{a:Addr}{ns:List Int}(hO:Only H)(hS:SqL K H a (ns.map V.int)):RepS K [a] H [.frz (ns.map D.int)]:=by
 have hv:∀(μ:List Addr) (l:List Int),RepVs K μ H (l.map D.int) (l.map V.int):=fun μ l=>by
  induction l with
  | nil=>exact RepVs.nil
  | cons i l ih=>exact RepVs.cons (RepV.int_iff.mpr rfl) ih
 refine⟨rfl,fun n o e=>?_,fun i j b oi oj ei ej mi mj _ _=>?_⟩
 ·match n,e with
  | 0,e =>
   simp at e;subst e
   refine⟨a,rfl,_,?_,hv _ ns⟩
   rcases hS with (h | ⟨o,h⟩) | h
   ·rcases hO a with z | ⟨o,xs,z⟩
    ·rw[z]at h;cases h
    ·rw[z]at h;cases h
   ·exact .inl ⟨o,h⟩
   ·exact .inr h
  | n+1,e=>simp at e
 ·match i,ei with
  | 0,ei=>simp at ei;subst ei;cases mi
  | i+1,ei=>simp at ei
theorem holds_of {l:PySem.W.OpenLaw}{k:Nat}{q:Program}{loose:List Str}{XP:(Str->Option Value)->Heap->Prop}{YP:World->Heap->Prop}{d:DefRec}{K:Params->PySem.W.Frag}{F:FD}{x:Str}
  (hn:l.most=some 63) (hdf:d.params.defaults=[]) (hr:Room k callerA)
  (hY:∀(w:World) (h:Heap),YP w h->(K w.params).In h)
  (G:∀(w:World) (mg:Str->Option Value) (fa:Addr) (h:Heap),(K w.params).In h->h.Ns mainGlobals mg->mg d.name=some (.ref fa) ->
   ∃fd:FuncData,(∀(s:Shared) (u:Value),BindsTo s fd ⟨[u],[]⟩ [(x,u)])/\∀base:Heap,(K w.params).In base->base.Ns mainGlobals mg->FnOk l.prog w (K w.params) mg base CX0 k fa fd [x] (spM (K w.params) 1 F))
  (hF:∀ns:List Int,ns.length<=63->∃st,F [.loc 0] [.frz (ns.map D.int)]=.ok (.bl true) st) :
  PySem.W.WalkO q loose XP YP l.row.toRowW d [] (fun f vs=>PySem.call f vs) :=
 L2.walk_of (n:=63) (k:=k) (x:=x) (CX:=fun _=>CX0) (sp:=fun w=>spM (K w.params) 1 F) hn (by decide) hdf hr hY G
  (fun w H a ns hl hO hS=>by
   obtain⟨st,e⟩:=hF ns hl
   refine⟨rfl,[a],[.loc 0],_,RepVs.cons (RepV.loc_iff.mpr ⟨a,rfl,rfl⟩) RepVs.nil,zm4 hO hS,?_⟩
   rw[e]
   exact fun v H' μ' _ _ hv=>RepV.bl_iff.mp hv) fun _ _ _ _ _ z=>z
end M
namespace M
open L2
theorem zd4 {st:Stor}{d:D}(h:under st.length d):gc st (.ok d st)=.ok d st:=by
 have:=zf4 (st:=st) (g:=[]) h
 simpa using this
theorem zi2 {st:Stor}{o:MO}(h:underO st.length o):gc st (.ok (.loc st.length) (st++[o]))=.ok (.loc st.length) (st++[o]):=by
 have:=gc_new (st:=st) (g:=[]) (g':=[]) h
 simpa using this
theorem zbf {st l:Stor}{n:Nat}{o:MO}(h:st[n]? = some o):(st++l)[n]? = some o:=by rw[List.getElem?_append_left (List.getElem?_eq_some_iff.mp h).1];exact h
@[simp] theorem zk3 {st l:Stor}:(st++l)[st.length]? = l[0]?:=by rw[List.getElem?_append_right (Nat.le_refl _)];simp
@[simp] theorem set_app0 {st l:Stor} {o:MO}:(st++l).set st.length o=st++l.set 0 o:=by rw[List.set_append_right _ _ (Nat.le_refl _)];simp
@[simp] theorem items_app0 {st l:Stor}:itemsAt (st++l) st.length=itemsAt l 0:=by unfold itemsAt;rw[zk3]
@[simp] theorem items_cons0 {o:MO} {l:Stor}:itemsAt (o::l) 0=(match o with | .lst ds=>some ds | .frz ds=>some ds | _=>none):=by
 unfold itemsAt;cases o<;>rfl
theorem zc5 {α:Type}(xs:List α)(k:Nat):atI xs (k:Int)=xs[k]?:=by
 unfold atI ixN
 rw[if_pos (by omega)]
 by_cases h:k<xs.length
 ·rw[if_pos (by omega)];simp
 ·rw[if_neg (by omega)];simp;omega
theorem forGo_all {g:MG}{b:MS}{gs:List (Nat×MO)}{items:List D}(I:List D->MEnv->Stor->Prop){env:MEnv}{st:Stor}(h0:I [] env st)
  (step:∀pre d post env st,items=pre++d::post->I pre env st->okG gs st/\∃env1 st1,g d env st=.ok env1 st1/\∃env2 st2,(b env1 st1=.ok (.nx env2) st2\/b env1 st1=.ok (.cn env2) st2)/\I (pre++[d]) env2 st2)
  (hend:∀env st,I items env st->okG gs st):∃env' st',forGo g b gs items env st=.ok (.nx env') st'/\I items env' st':=by
 have key:∀(post pre:List D) (env:MEnv) (st:Stor),items=pre++post->I pre env st->∃env' st',forGo g b gs post env st=.ok (.nx env') st'/\I items env' st':=by
  intro post
  induction post with
  | nil =>
   intro pre env st e hI
   have:items=pre:=by simpa using e
   subst this
   exact⟨env,st,by rw[forGo,if_pos (hend env st hI)],hI⟩
  | cons d post ih =>
   intro pre env st e hI
   obtain⟨ok,env1,st1,h1,env2,st2,h2,hI2⟩:=step pre d post env st e hI
   obtain⟨env',st',h3,h4⟩:=ih (pre++[d]) env2 st2 (by simp[e]) hI2
   refine⟨env',st',?_,h4⟩
   rw[forGo,if_pos ok,h1,R.bind_ok]
   rcases h2 with h2 | h2<;>(rw[h2,R.bind_ok];exact h3)
 exact key items [] env st rfl h0
theorem forGo_ret {g:MG}{b:MS}{gs:List (Nat×MO)}{items:List D}(I:List D->MEnv->Stor->Prop)(Q:Out->Stor->Prop){env:MEnv}{st:Stor}(h0:I [] env st)
  (step:∀pre d post env st,items=pre++d::post->I pre env st->okG gs st/\∃env1 st1,g d env st=.ok env1 st1/\((∃env2 st2,(b env1 st1=.ok (.nx env2) st2\/b env1 st1=.ok (.cn env2) st2)/\I (pre++[d]) env2 st2) \/
   (∃env2 st2,b env1 st1=.ok (.bk env2) st2/\Q (.nx env2) st2)\/∃d2 st2,b env1 st1=.ok (.rt d2) st2/\Q (.rt d2) st2))
  (hend:∀env st,I items env st->okG gs st/\Q (.nx env) st):∃o st',forGo g b gs items env st=.ok o st'/\Q o st':=by
 have key:∀(post pre:List D) (env:MEnv) (st:Stor),items=pre++post->I pre env st->∃o st',forGo g b gs post env st=.ok o st'/\Q o st':=by
  intro post
  induction post with
  | nil =>
   intro pre env st e hI
   have:items=pre:=by simpa using e
   subst this
   exact⟨.nx env,st,by rw[forGo,if_pos (hend env st hI).1],(hend env st hI).2⟩
  | cons d post ih =>
   intro pre env st e hI
   obtain⟨ok,env1,st1,h1,h2⟩:=step pre d post env st e hI
   rcases h2 with⟨env2,st2,h2,hI2⟩ | ⟨env2,st2,h2,hQ⟩ | ⟨d2,st2,h2,hQ⟩
   ·obtain⟨o,st',h3,h4⟩:=ih (pre++[d]) env2 st2 (by simp[e]) hI2
    refine⟨o,st',?_,h4⟩
    rw[forGo,if_pos ok,h1,R.bind_ok]
    rcases h2 with h2 | h2<;>(rw[h2,R.bind_ok];exact h3)
   ·exact⟨_,_,by rw[forGo,if_pos ok,h1,R.bind_ok,h2,R.bind_ok],hQ⟩
   ·exact⟨_,_,by rw[forGo,if_pos ok,h1,R.bind_ok,h2,R.bind_ok],hQ⟩
 exact key items [] env st rfl h0
theorem zg2 {capt:List (Option Nat)}{mi:MI}{g:MG}{t:MT}{e:ME}{env:MEnv}{st st1:Stor}{items:List D}{gs:List (Nat×MO)}(p:D->Bool)(f:D->D)(Pe:MEnv->Prop)
  (hi:mi env st=.ok (items,gs) st1) (h0:Pe (captE capt env)) (hl:items.length<=1000000) (hg:∀ys,okG gs (st1++[.lst ys]))
  (step:∀d∈items,∀env' ys,Pe env'->∃env1,Pe env1/\g d env' (st1++[.lst ys])=.ok env1 (st1++[.lst ys])/\t env1 (st1++[.lst ys])=.ok (p d) (st1++[.lst ys]) /\
   (p d=true->e env1 (st1++[.lst ys])=.ok (f d) (st1++[.lst ys]))) :
  compE capt mi g t e env st=.ok (.loc st1.length) (st1++[.lst ((items.filter p).map f)]):=by
 have key:∀(post:List D) (env':MEnv) (ys:List D),(∀d∈post,d∈items)->Pe env'->ys.length+post.length<=1000000 ->
   compGo g t e gs st1.length post env' (st1++[.lst ys])=.ok (.loc st1.length) (st1++[.lst (ys++(post.filter p).map f)]):=by
  intro post
  induction post with
  | nil=>intro env' ys _ _ _;rw[compGo,if_pos (hg ys)];simp
  | cons d post ih =>
   intro env' ys hm hP hn
   obtain⟨env1,hP1,h1,h2,h3⟩:=step d (hm d (by simp)) env' ys hP
   have hm':∀d∈post,d∈items:=fun d hd=>hm d (List.mem_cons_of_mem _ hd)
   rw[List.length_cons]at hn
   rw[compGo,if_pos (hg ys),h1,R.bind_ok,h2,R.bind_ok]
   cases hp:p d with
   | false =>
    rw[if_neg (by simp),ih env1 ys hm' hP1 (by omega)]
    simp[hp]
   | true =>
    rw[if_pos rfl,h3 hp,R.bind_ok]
    simp only[zk3,List.getElem?_cons_zero]
    rw[if_pos (by omega),set_app0,List.set_cons_zero,ih env1 (ys++[f d]) hm' hP1 (by simp;omega)]
    simp[hp]
 unfold compE
 rw[hi,R.bind_ok,key items (captE capt env) [] (fun d hd=>hd) h0 (by simpa using hl)]
 simp
theorem zgf {capt:List (Option Nat)}{mi:MI}{g:MG}{e:ME}{env:MEnv}{st st1:Stor}{items:List D}{gs:List (Nat×MO)}(f:D->D)(Pe:MEnv->Prop)
  (hi:mi env st=.ok (items,gs) st1) (h0:Pe (captE capt env)) (hl:items.length<=1000000) (hg:∀ys,okG gs (st1++[.lst ys]))
  (step:∀d∈items,∀env' ys,Pe env'->∃env1,Pe env1/\g d env' (st1++[.lst ys])=.ok env1 (st1++[.lst ys])/\e env1 (st1++[.lst ys])=.ok (f d) (st1++[.lst ys])) :
  compE capt mi g yesT e env st=.ok (.loc st1.length) (st1++[.lst (items.map f)]):=by
 have:=zg2 (capt:=capt) (mi:=mi) (g:=g) (t:=yesT) (e:=e) (env:=env) (st:=st) (fun _=>true) f Pe hi h0 hl hg fun d hd env' ys hP=>by
  obtain⟨env1,a,b,c⟩:=step d hd env' ys hP
  exact⟨env1,a,b,rfl,fun _=>c⟩
 have e2:items.filter (fun _=>true)=items:=List.filter_eq_self.mpr (by simp)
 rw[e2]at this
 exact this
section
variable (env:MEnv)(st:Stor)(a b:ME)(x y:D)(mA:MA)(tc ta tb:MT)(m1 m2:MS)
@[simp] theorem r_vr (i:Nat):vr i env st=match env[i]? with | some (some d)=>.ok d st | _=>.bad:=za5 rfl
@[simp] theorem r_ct (d:D):ct d env st=.ok d st:=za5 rfl
@[simp] theorem r_op2 (g:D->D->Stor->R D):op2 g a b env st=(a env st).bind fun x st1=>(b env st1).bind fun y st2=>g x y st2:=za5 rfl
@[simp] theorem r_op1 (g:D->Stor->R D):op1 g a env st=(a env st).bind fun x st1=>g x st1:=za5 rfl
@[simp] theorem r_tB1 :tB1 a env st=(a env st).bind fun x st1=>match x with | .bl b=>.ok b st1 | _=>.bad:=za5 rfl
@[simp] theorem r_tru :tru a env st=(a env st).bind fun x st1=>match truV x st1 with | some b=>.ok b st1 | none=>.bad:=za5 rfl
@[simp] theorem r_andT :andT ta tb env st=(ta env st).bind fun x st1=>if x then tb env st1 else .ok false st1:=za5 rfl
@[simp] theorem r_orT :orT ta tb env st=(ta env st).bind fun x st1=>if x then .ok true st1 else tb env st1:=za5 rfl
@[simp] theorem r_notT :notT ta env st=(ta env st).bind fun x st1=>.ok (!x) st1:=za5 rfl
@[simp] theorem r_andV :andV a b env st=(a env st).bind fun x st1=>match x with | .bl true=>b env st1 | .bl false=>.ok (.bl false) st1 | _=>.bad:=za5 rfl
@[simp] theorem r_nilA :nilA env st=.ok [] st:=za5 rfl
@[simp] theorem r_consA :consA a mA env st=(a env st).bind fun x st1=>(mA env st1).bind fun xs st2=>.ok (x::xs) st2:=za5 rfl
@[simp] theorem r_tupE :tupE mA env st=(mA env st).bind fun ds st1=>if ds.length<=1000000 then .ok (.tup ds) st1 else .bad:=za5 rfl
@[simp] theorem r_lstE :lstE mA env st=(mA env st).bind fun ds st1=>if ds.length<=1000000 then .ok (.loc st1.length) (st1++[.lst ds]) else .bad:=za5 rfl
@[simp] theorem r_noP :noP env st=.ok none st:=za5 rfl
@[simp] theorem r_inP :inP a env st=(a env st).bind fun x st1=>match x with | .int i=>.ok (some i) st1 | _=>.bad:=za5 rfl
@[simp] theorem r_slE (l h:MP):slE a l h env st=(a env st).bind fun x st1=>(l env st1).bind fun lo st2=>(h env st2).bind fun hi st3=>slV x lo hi st3:=za5 rfl
@[simp] theorem r_callE (g:List D->Stor->R D):callE g mA env st=(mA env st).bind fun ds st1=>g ds st1:=za5 rfl
@[simp] theorem r_skipS :skipS env st=.ok (.nx env) st:=za5 rfl
@[simp] theorem r_seqS :seqS m1 m2 env st=(m1 env st).bind fun o st1=>match o with | .nx env1=>m2 env1 st1 | o=>.ok o st1:=za5 rfl
@[simp] theorem r_retS :retS a env st=(a env st).bind fun d st1=>.ok (.rt d) st1:=za5 rfl
@[simp] theorem r_exprS :exprS a env st=(a env st).bind fun _ st1=>.ok (.nx env) st1:=za5 rfl
@[simp] theorem r_ifS :ifS tc m1 m2 env st=(tc env st).bind fun x st1=>if x then m1 env st1 else m2 env st1:=za5 rfl
@[simp] theorem r_nameG (i:Nat):nameG i x env st=.ok (env.set i (some x)) st:=za5 rfl
@[simp] theorem r_asgS (g:MG):asgS a g env st=(a env st).bind fun d st1=>(g d env st1).bind fun env1 st2=>.ok (.nx env1) st2:=za5 rfl
@[simp] theorem r_setS (i:Nat):setS i a env st=(a env st).bind fun d st1=>.ok (.nx (env.set i (some d))) st1:=za5 rfl
@[simp] theorem r_nilG :nilG [] env st=.ok env st:=za5 rfl
@[simp] theorem r_consG (g:MG) (r:MGs) (d:D) (ds:List D):consG g r (d::ds) env st=(g d env st).bind fun env1 st1=>r ds env1 st1:=za5 rfl
@[simp] theorem r_tupG (n:Nat) (g:MGs) (ds:List D):tupG n g (.tup ds) env st=if ds.length=n then g ds env st else .bad:=za5 rfl
@[simp] theorem r_subG (g:D->D->D->Stor->R Unit) (d:D):subG g a b d env st=(a env st).bind fun x st1=>(b env st1).bind fun y st2=>(g x y d st2).bind fun _ st3=>.ok env st3:=za5 rfl
@[simp] theorem r_callF (F:FD) (dd:List D):callF F dd mA env st=(mA env st).bind fun as st1=>(F (as++dd) st1).sure:=za5 rfl
@[simp] theorem r_methE (T:String) (g:D->List D->Stor->R D):methE T g a mA env st=(a env st).bind fun x st1=>if isTy T x st1=true then (mA env st1).bind fun xs st2=>g x xs st2 else .bad:=za5 rfl
@[simp] theorem r_meth0E (T:String) (g:D->List D->Stor->R D):meth0E T g a env st=(a env st).bind fun x st1=>if isTy T x st1=true then g x [] st1 else .bad:=za5 rfl
@[simp] theorem r_forS (mi:MI) (g:MG):forS mi g m1 env st=(mi env st).bind fun s st1=>forGo g m1 s.2 s.1 env st1:=za5 rfl
@[simp] theorem r_seqI :seqI a env st=(a env st).bind fun d st1=>match d with
 | .loc n=>(match st1[n]? with
  | some (.lst ds)=>.ok (ds,[(n,.lst ds)]) st1
  | some (.frz ds)=>.ok (ds,[(n,.frz ds)]) st1
  | _=>.bad)
 | .tup ds=>.ok (ds,[]) st1
 | _=>.bad:=za5 rfl
@[simp] theorem r_range1I :range1I mA env st=(mA env st).bind fun ds st1=>match ds with
 | [.int j]=>if -(2 ^ 62)<=j/\j<2 ^ 62 then .ok (upto 0 j.toNat,[]) st1 else .bad
 | _=>.bad:=za5 rfl
@[simp] theorem r_add_int (i j:Int):addV (.int i) (.int j) st=.ok (.int (i+j)) st:=za5 rfl
@[simp] theorem r_sub_int (i j:Int):subV (.int i) (.int j) st=.ok (.int (i - j)) st:=by simp[subV,intV]
theorem zcr (i j:Int)(h:(-(2 ^ 64)<i/\i<2 ^ 64)\/(-(2 ^ 64)<j/\j<2 ^ 64)):mulV (.int i) (.int j) st=.ok (.int (i*j)) st:=by
 unfold mulV intV;dsimp only;rw[if_pos h]
theorem zan (i j:Int)(h:0<j/\j<2 ^ 64):fdivV (.int i) (.int j) st=.ok (.int (i / j)) st:=by
 unfold fdivV intV;dsimp only;rw[if_pos h]
theorem zai (i j:Int)(h:0<j):modV (.int i) (.int j) st=.ok (.int (i % j)) st:=by
 unfold modV intV;dsimp only;rw[if_pos h]
@[simp] theorem r_lt_int (i j:Int):ltV (.int i) (.int j) st=.ok (.bl (decide (i<j))) st:=by simp[ltV,intV]
@[simp] theorem r_le_int (i j:Int):leV (.int i) (.int j) st=.ok (.bl (decide (i<=j))) st:=by simp[leV,intV]
@[simp] theorem r_gt_int (i j:Int):gtV (.int i) (.int j) st=.ok (.bl (decide (j<i))) st:=by simp[gtV,intV]
@[simp] theorem r_neg_int (i:Int):negV (.int i) st=.ok (.int (-i)) st:=za5 rfl
@[simp] theorem r_eq_int (L:Nat) (i j:Int):eqV (L+1) (.int i) (.int j) st=.ok (.bl (decide (i=j))) st:=by
 have e:(i==j)=decide (i=j):=by rw[Bool.eq_iff_iff];simp
 simp only[eqV,eqR,eqD,e,zmu,zmv]
 rw[if_pos ⟨trivial,trivial,Nat.succ_pos L⟩]
@[simp] theorem r_ne_int (L:Nat) (i j:Int):neV (L+1) (.int i) (.int j) st=.ok (.bl (!decide (i=j))) st:=by
 have e:(i==j)=decide (i=j):=by rw[Bool.eq_iff_iff];simp
 simp only[neV,eqR,eqD,e,zmu,zmv]
 rw[if_pos ⟨trivial,trivial,Nat.succ_pos L⟩]
@[simp] theorem r_eq_str (L:Nat) (i j:List Nat):eqV (L+1) (.str i) (.str j) st=.ok (.bl (decide (i=j))) st:=by
 have e:(i==j)=decide (i=j):=by rw[Bool.eq_iff_iff];simp
 simp only[eqV,eqR,eqD,e,flat_str,cdep_str]
 rw[if_pos ⟨trivial,trivial,Nat.succ_pos L⟩]
theorem eqR_flat (L:Nat)(d:D)(st:Stor)(hf:flat d=true)(hd:dep d+dep d<L):eqR L d d st=some true:=by
 have e:=zjl d hf
 have c:flat d=true/\flat d=true/\cdep d d<L:=⟨hf,hf,by have:=cdep_le d d;omega⟩
 cases d with
 | loc n=>simp[flat]at hf
 | non=>exact (if_pos c).trans (congrArg some e)
 | bl b=>exact (if_pos c).trans (congrArg some e)
 | int i=>exact (if_pos c).trans (congrArg some e)
 | str s=>exact (if_pos c).trans (congrArg some e)
 | tup ds=>exact (if_pos c).trans (congrArg some e)
theorem r_eq_flat (L:Nat)(d:D)(hf:flat d=true)(hd:dep d+dep d<L):eqV L d d st=.ok (.bl true) st:=by
 have:eqR L d d st=some true:=eqR_flat L d st hf hd
 unfold eqV;rw[this]
theorem zlj (L m n:Nat)(ds:List D)(h1:itemsAt st m=some ds)(h2:itemsAt st n=some ds)(hf:flats ds=true)(hd:deps ds+deps ds+1<L):neV L (.loc m) (.loc n) st=.ok (.bl false) st:=by
 have e:eqR L (.loc m) (.loc n) st=some true:=by
  simp only[eqR,h1,h2]
  rw[if_pos ⟨hf,hf,by have:=zi6 ds ds;omega⟩,zia _ hf]
 unfold neV;rw[e];rfl
theorem zcf (n:Nat)(i:Int)(ds:List D)(d:D)(h:itemsAt st n=some ds)(hi:atI ds i=some d):ixV (.loc n) (.int i) st=.ok d st:=by
 simp[ixV,h,hi]
theorem zav (i:Int)(ds:List D)(d:D)(hi:atI ds i=some d):ixV (.tup ds) (.int i) st=.ok d st:=by
 simp[ixV,hi]
@[simp] theorem r_int_bool (b:Bool):intC [.bl b] st=.ok (.int (if b then 1 else 0)) st:=za5 rfl
@[simp] theorem r_min2 (i j:Int):min2V [.int i,.int j] st=.ok (.int (if j<i then j else i)) st:=za5 rfl
theorem r_len_loc (n:Nat)(ds:List D)(h:itemsAt st n=some ds):lenV [.loc n] st=.ok (.int ds.length) st:=by simp[lenV,h]
theorem zm0 (n:Nat)(ds:List D)(h:itemsAt st n=some ds):listC [.loc n] st=.ok (.loc st.length) (st++[.lst ds]):=by simp[listC,h]
end
end M
namespace L2
open PySem PySem.Spec PyProof.Rows
section
variable {κ:Type}[DecidableEq κ]
noncomputable def valV (kvs:List (κ×V))(k:κ):Option V:=(kvs.find? fun kv=>decide (kv.1=k)).map (·.2)
noncomputable def putK (kvs:List (κ×V))(k:κ)(v:V):List (κ×V) :=
 if (kvs.any fun kv=>decide (kv.1=k))=true then kvs.map (fun kv=>if kv.1=k then (kv.1,v) else kv) else kvs++[(k,v)]
theorem zhq {p:κ×V}{r:List (κ×V)}{k:κ}(e:p.1=k):valV (p::r) k=some p.2:=by simp[valV,List.find?_cons,e]
theorem zh0 {p:κ×V}{r:List (κ×V)}{k:κ}(e:¬ p.1=k):valV (p::r) k=valV r k:=by simp[valV,List.find?_cons,e]
theorem zm6 (k:κ):∀kvs:List (κ×V),(kvs.any fun kv=>decide (kv.1=k))=(valV kvs k).isSome
 | []=>rfl
 | p::r=>by
  rw[List.any_cons]
  by_cases e:p.1=k
  ·simp only[zhq e,decide_eq_true e,Bool.true_or,Option.isSome_some]
  ·rw[zh0 e,decide_eq_false e,Bool.false_or];exact zm6 k r
theorem zhf (kvs:List (κ×V))(k:κ)(v:V):(putK kvs k v).length<=kvs.length+1:=by
 unfold putK
 split
 ·rw[List.length_map];omega
 ·rw[List.length_append,List.length_cons,List.length_nil];omega
theorem RelO.isSome_eq {o:Option V}{u:Option Value}(r:RelO o u):o.isSome=u.isSome:=by
 cases o with
 | none=>cases u with
  | none=>rfl
  | some _=>exact (show False from r).elim
 | some _=>cases u with
  | none=>exact (show False from r).elim
  | some _=>rfl
theorem KV.val {kvs:List (κ×V)}{vs:List (κ×Value)}(r:KV kvs vs)(k:κ):RelO (valV kvs k) (valueAt vs k):=by
 unfold KV at r
 induction r with
 | nil=>exact True.intro
 | @cons p q ps qs h t ih =>
  obtain⟨h1,h2⟩:=h
  by_cases e:p.1=k
  ·have e':q.1=k:=h1.symm.trans e
   have b:valueAt (q::qs) k=some q.2:=by simp[valueAt,List.find?_cons,e']
   rw[zhq e,b];exact h2
  ·have e':¬ q.1=k:=fun z=>e (h1.trans z)
   have b:valueAt (q::qs) k=valueAt qs k:=by simp[valueAt,List.find?_cons,e']
   rw[zh0 e,b];exact ih
theorem KV.any {kvs:List (κ×V)}{vs:List (κ×Value)}(r:KV kvs vs)(k:κ):(kvs.any fun kv=>decide (kv.1=k))=vs.any fun kv=>decide (kv.1=k):=by
 unfold KV at r
 induction r with
 | nil=>rfl
 | cons h t ih=>rw[List.any_cons,List.any_cons,ih,h.1]
theorem KV.repl {kvs:List (κ×V)}{vs:List (κ×Value)}(r:KV kvs vs)(k:κ){y:V}{u:Value}(ry:RelV y u) :
  KV (kvs.map fun kv=>if kv.1=k then (kv.1,y) else kv) (vs.map fun kv=>if kv.1=k then (kv.1,u) else kv):=by
 unfold KV at r ⊢
 induction r with
 | nil=>exact .nil
 | @cons p q ps qs h t ih =>
  rw[List.map_cons,List.map_cons]
  refine .cons ?_ ih
  obtain⟨h1,h2⟩:=h
  by_cases e:p.1=k
  ·rw[if_pos e,if_pos (h1.symm.trans e)];exact⟨h1,ry⟩
  ·rw[if_neg e,if_neg (fun z=>e (h1.trans z))];exact⟨h1,h2⟩
theorem KV.put {kvs:List (κ×V)}{vs:List (κ×Value)}(r:KV kvs vs)(k:κ){y:V}{u:Value}(ry:RelV y u):KV (putK kvs k y) (stored vs k u):=by
 unfold putK stored
 rw[r.any k]
 by_cases e:(vs.any fun kv=>decide (kv.1=k))=true
 ·rw[if_pos e,if_pos e];exact r.repl k ry
 ·rw[if_neg e,if_neg e];exact Paired.snoc r ⟨rfl,ry⟩
theorem KV.length {kvs:List (κ×V)}{vs:List (κ×Value)}(r:KV kvs vs):kvs.length=vs.length:=Paired.length r
end
theorem kV_is {P:Program}{w:World}{k:Key}{u:Value}(r:RelV (kV k) u):(mixKind P w).is k u=true:=by
 cases k with
 | inl i=>obtain⟨t,e⟩:=(show ∃t,u=Value.int i t from r);subst e;exact zks P w i t
 | inr x=>obtain⟨t,e⟩:=(show ∃t,u=Value.str x t from r);subst e;exact zkr P w x t
theorem zj8 {P:Program}{w:World}:∀{ks:List Key} {us:List Value},Vals (ks.map kV) us->ItemsAre (mixKind P w) ks us
 | [],_,r=>by rw[List.map_nil]at r;cases r;exact .nil
 | k::ks,_,r=>by
  rw[List.map_cons]at r
  cases r with
  | cons h t=>exact .cons (kV_is h) (zj8 t)
noncomputable abbrev KT (H:Hp):List (List Key×V)->List (List Key×Addr×Value)->Prop:=Paired fun p q=>p.1=q.1/\H q.2.1=some (.tup (p.1.map kV))/\RelV p.2 q.2.2
theorem KT.val {H:Hp}{kvs:List (List Key×V)}{xs:List (List Key×Addr×Value)}(r:KT H kvs xs)(k:List Key):RelO (valV kvs k) ((atKey xs k).map (·.2)):=by
 induction r with
 | nil=>exact True.intro
 | @cons p q ps qs h t ih =>
  obtain⟨h1,_,h2⟩:=h
  by_cases e:p.1=k
  ·have e':q.1=k:=h1.symm.trans e
   have b:atKey (q::qs) k=some q.2:=by simp[atKey,List.find?_cons,e']
   rw[zhq e,b];exact h2
  ·have e':¬ q.1=k:=fun z=>e (h1.trans z)
   have b:atKey (q::qs) k=atKey qs k:=by simp[atKey,List.find?_cons,e']
   rw[zh0 e,b];exact ih
theorem KT.repl {H:Hp}{kvs:List (List Key×V)}{xs:List (List Key×Addr×Value)}(r:KT H kvs xs)(k:List Key){y:V}{u:Value}(ry:RelV y u) :
  KT H (kvs.map fun kv=>if kv.1=k then (kv.1,y) else kv) (xs.map (putAt k u)):=by
 induction r with
 | nil=>exact .nil
 | @cons p q ps qs h t ih =>
  rw[List.map_cons,List.map_cons]
  refine .cons ?_ ih
  obtain⟨h1,h2,h3⟩:=h
  unfold putAt
  by_cases e:p.1=k
  ·rw[if_pos e,if_pos (h1.symm.trans e)];exact⟨h1,h2,ry⟩
  ·rw[if_neg e,if_neg (fun z=>e (h1.trans z))];exact⟨h1,h2,h3⟩
theorem KT.put {H:Hp}{kvs:List (List Key×V)}{xs:List (List Key×Addr×Value)}(r:KT H kvs xs)(k:List Key){b:Addr}{y:V}{u:Value}(hb:H b=some (.tup (k.map kV)))(ry:RelV y u) :
  KT H (putK kvs k y) (storedH xs k b u):=by
 have e:(kvs.any fun kv=>decide (kv.1=k))=(atKey xs k).isSome:=by
  rw[zm6,(r.val k).isSome_eq,Option.isSome_map]
 unfold putK storedH
 rw[e]
 by_cases q:(atKey xs k).isSome=true
 ·rw[if_pos q,if_pos q];exact r.repl k ry
 ·rw[if_neg q,if_neg q];exact Paired.snoc r ⟨rfl,hb,ry⟩
theorem KT.keeps {H H':Hp}{kvs:List (List Key×V)}{xs:List (List Key×Addr×Value)}(r:KT H kvs xs)(ht:∀b ys,H b=some (.tup ys)->H' b=some (.tup ys)):KT H' kvs xs :=
 Paired.mapP r fun _ _ z=>⟨z.1,ht _ _ z.2.1,z.2.2⟩
section
variable {P:Program}{w:World}{H:Hp}{h:Heap}{a:Addr}
theorem rd_of {u:HO}(ok:HOk P w H h)(e:Rd H a u):ObjOk P w H h a u:=e.ok ok
theorem dk_rd {kvs:List (Key×V)}(ok:HOk P w H h)(e:Rd H a (.dK kvs)):kvs.length<=sizeLine/\(a==sysModules)=false/\∃vs,KV kvs vs/\h.DictOf (mixKind P w) a vs :=
 show ObjOk P w H h a (.dK kvs) from rd_of ok e
theorem dk_of {kvs:List (Key×V)}(ok:HOk P w H h)(e:H a=some (.dK kvs)):kvs.length<=sizeLine/\(a==sysModules)=false/\∃vs,KV kvs vs/\h.DictOf (mixKind P w) a vs:=dk_rd ok (.inl e)
theorem key_of {ks:List Key}(ok:HOk P w H h)(e:H a=some (.tup (ks.map kV))):(tupleKind (mixKind P w)).is h ks a:=by
 obtain⟨_,its,r,o,h1,h2,n,h3⟩:=(show ObjOk P w H h a (.tup (ks.map kV)) from ok a _ e)
 exact⟨o,its.toArray,n,h1,h2,h3,by simpa using zj8 r⟩
theorem dt_rd {kvs:List (List Key×V)}(ok:HOk P w H h)(e:Rd H a (.dT kvs)):kvs.length<=sizeLine/\(a==sysModules)=false /\
  ∃xs,KT H kvs xs/\h.DictOfH (tupleKind (mixKind P w)) a xs:=by
 obtain⟨z,y,xs,r,o,es,ep,h1,h2,h3,h4,h5⟩:=(show ObjOk P w H h a (.dT kvs) from rd_of ok e)
 refine⟨z,y,xs,r,o,es,ep,h1,h2,h3,h4,fun x hx=>?_,h5⟩
 have all:∀{l:List (List Key×V)} {m:List (List Key×Addr×Value)},KT H l m->∀x∈m,(tupleKind (mixKind P w)).is h x.1 x.2.1:=by
  intro l m q
  induction q with
  | nil=>intro x hx;exact nomatch hx
  | @cons p q ps qs hq t ih =>
   intro x hx
   rcases List.mem_cons.mp hx with e | hx
   ·subst e
    exact key_of ok (by rw[<-hq.1];exact hq.2.1)
   ·exact ih x hx
 exact all r x hx
theorem dt_of {kvs:List (List Key×V)}(ok:HOk P w H h)(e:H a=some (.dT kvs)):kvs.length<=sizeLine/\(a==sysModules)=false /\
  ∃xs,KT H kvs xs/\h.DictOfH (tupleKind (mixKind P w)) a xs:=dt_rd ok (.inl e)
end
noncomputable def DGet (H:Hp)(a:Addr)(y:V)(r:Option V):Prop :=
 (∃kvs k,Rd H a (.dK kvs)/\y=kV k/\r=valV kvs k)\/∃kvs k b,Rd H a (.dT kvs)/\y=.ref b/\H b=some (.tup (k.map kV))/\r=valV kvs k
noncomputable def DPut (H:Hp)(a:Addr)(y v:V)(H':Hp):Prop :=
 (∃kvs k,H a=some (.dK kvs)/\y=kV k/\kvs.length<sizeLine/\H'=upd H a (.dK (putK kvs k v))) \/
 ∃kvs k b,H a=some (.dT kvs)/\y=.ref b/\H b=some (.tup (k.map kV))/\kvs.length<sizeLine/\H'=upd H a (.dT (putK kvs k v))
theorem DGet.t {H:Hp}{a b:Addr}{kvs:List (List Key×V)}{k:List Key}(e:H a=some (.dT kvs))(eb:H b=some (.tup (k.map kV))):DGet H a (.ref b) (valV kvs k):=.inr ⟨kvs,k,b,.inl e,rfl,eb,rfl⟩
theorem DPut.k {H:Hp}{a:Addr}{kvs:List (Key×V)}{k:Key}{v:V}(e:H a=some (.dK kvs))(hl:kvs.length<sizeLine):DPut H a (kV k) v (upd H a (.dK (putK kvs k v))):=.inl ⟨kvs,k,e,rfl,hl,rfl⟩
theorem DPut.t {H:Hp}{a b:Addr}{kvs:List (List Key×V)}{k:List Key}{v:V}(e:H a=some (.dT kvs))(eb:H b=some (.tup (k.map kV)))(hl:kvs.length<sizeLine) :
  DPut H a (.ref b) v (upd H a (.dT (putK kvs k v))):=.inr ⟨kvs,k,b,e,rfl,eb,hl,rfl⟩
section
variable {X:Cx}{pins:List (Addr×Obj)}{σ:St}{H:Hp}{s:Shared}{a:Addr}{y v:V}{u r:Value}{o:Option V}{A:Around}{E:Value->Shared->Prop}
theorem Inv.big (I:Inv X pins σ H s):sysModules<s.heap.objs.size:=by
 have h:mainGlobals<s.heap.objs.size:=(I.mod.glob.keeps I.bk).lt
 exact Nat.lt_trans (by decide) h
theorem d_getItem {Q:Value->Shared->Prop}(hu:A.units+1<cLine)(I:Inv X pins σ H s)(g:DGet H a y (some v))(ry:RelV y u)(h:∀w' s',Inv X pins σ H s'->RelV v w'->Q w' s') :
  wpAny (model X.prog X.w) A (getItem (.ref a) u) Q E s:=by
 rcases g with⟨kvs,k,e,ey,l⟩ | ⟨kvs,k,b,e,ey,eb,l⟩
 ·subst ey
  obtain⟨z,hd,vs,rel,dd⟩:=dk_rd I.hok e
  obtain⟨w',hw,rw'⟩:=RelO.some_of (v:=v) (o:=valueAt vs k) (by rw[l];exact rel.val k)
  exact wpAny_getItem_of (kV_is ry) dd.mapOf hw (h w' _ (I.tok _) rw')
 ·subst ey
  cases (show u=Value.ref b from ry)
  obtain⟨z,hd,xs,rel,dd⟩:=dt_rd I.hok e
  obtain⟨w',hw,rw'⟩:=RelO.some_of (v:=v) (o:=(atKey xs k).map (·.2)) (by rw[l];exact rel.val k)
  obtain⟨p,hp,hp2⟩:=Option.map_eq_some_iff.mp hw
  refine wpAny_getItem_heap (tupleKind_room_in1 hu) (key_of I.hok eb) dd hp ?_
  rw[hp2]
  exact h w' _ (I.tok _) rw'
theorem d_notIn {Q:Value->Shared->Prop}(hu:A.units+1<cLine)(I:Inv X pins σ H s)(g:DGet H a y o)(ry:RelV y u)(h:∀s',Inv X pins σ H s'->Q (.bool (!o.isSome)) s') :
  wpAny (model X.prog X.w) A (compareOp .NotIn u (.ref a)) Q E s:=by
 rcases g with⟨kvs,k,e,ey,l⟩ | ⟨kvs,k,b,e,ey,eb,l⟩
 ·subst ey
  obtain⟨z,hd,vs,rel,dd⟩:=dk_rd I.hok e
  refine wpAny_notIn_of (kV_is ry) hd dd.mapOf ?_
  rw[<-(rel.val k).isSome_eq,<-l]
  exact h _ (I.tok _)
 ·subst ey
  cases (show u=Value.ref b from ry)
  obtain⟨z,hd,xs,rel,dd⟩:=dt_rd I.hok e
  refine wpAny_notIn_heap (tupleKind_room_in1 hu) (key_of I.hok eb) hd dd ?_
  have q:=(rel.val k).isSome_eq
  rw[Option.isSome_map]at q
  rw[<-q,<-l]
  exact h _ (I.tok _)
theorem d_write {h':Heap}{t':Nat}{ob:HO}(I:Inv X pins σ H s)(mu:Mut (H a))(hs:Heap.SameBut a s.heap h')(he:∃q,h'.get? a=some q)(new:ObjOk X.prog X.w (upd H a ob) h' a ob) :
  Inv X pins σ (upd H a ob) { s with heap:=h',toks:=t' } :=
 I.write (x:=a) (e:=a) mu (.inl rfl) (fun b q hb z=>(hs.2 b hb).trans z) he new
theorem dk_new {P:Program}{w:World}{H':Hp}{h':Heap}{kvs:List (Key×V)}{vs:List (Key×Value)}(z:kvs.length<=sizeLine)(hd:(a==sysModules)=false)(rel:KV kvs vs)(dd:h'.DictOf (mixKind P w) a vs) :
  ObjOk P w H' h' a (.dK kvs):=⟨z,hd,vs,rel,dd⟩
theorem zkk {H':Hp}{Q:Unit->Shared->Prop}(hu:A.units+1<cLine)(I:Inv X pins σ H s)(g:DPut H a y v H')(ry:RelV y u)(rv:RelV v r)(h:∀s',Inv X pins σ H' s'->Q () s') :
  wpAny (model X.prog X.w) A (setItem (.ref a) u r) Q E s:=by
 rcases g with⟨kvs,k,e,ey,l,eH⟩ | ⟨kvs,k,b,e,ey,eb,l,eH⟩
 ·subst ey eH
  obtain⟨z,hd,vs,rel,dd⟩:=dk_of I.hok e
  have hz:vs.length<=sizeLine:=by rw[<-rel.length];exact z
  have hl:(putK kvs k v).length<=sizeLine:=by have:=zhf kvs k v;omega
  refine wpAny_setItem_pairs (hsz:=hz) (kV_is ry) dd fun h' dd' hs=>h _ ?_
  have he:∃q,h'.get? a=some q:=let ⟨q,_,_,hq,_⟩:=dd';⟨q,hq⟩
  exact d_write I (by rw[e];exact True.intro) hs he (dk_new hl hd (rel.put k rv) dd')
 ·subst ey eH
  cases (show u=Value.ref b from ry)
  obtain⟨z,hd,xs,rel,dd⟩:=dt_of I.hok e
  have hz:xs.length<=sizeLine:=by rw[<-Paired.length rel];exact z
  have hl:(putK kvs k v).length<=sizeLine:=by have:=zhf kvs k v;omega
  refine wpAny_setItem_heap (hsz:=hz) (tupleKind_room_in1 hu) (key_of I.hok eb) dd fun h' dd' hs=>h _ ?_
  obtain⟨q,es,ep,hq,h2,h3,h4,_,h5⟩:=dd'
  refine d_write I (by rw[e];exact True.intro) hs ⟨q,hq⟩ ⟨hl,hd,_,(rel.put k eb rv).keeps fun c ys ec=>?_,q,es,ep,hq,h2,h3,h4,h5⟩
  rw[zcx (ne_of ec e (fun z=>nomatch z))]
  exact ec
end
section
variable {X:Cx}{pins:List (Addr×Obj)}{σ:St}{H:Hp}{s:Shared}{a:Addr}{kvs:List (Key×V)}{k:Key}{u:Value}{A:Around}{E:Value->Shared->Prop}
theorem d_len {Q:Value->Shared->Prop}(I:Inv X pins σ H s)(e:Rd H a (.dK kvs))(h:∀t s',Inv X pins σ H s'->Q (.int kvs.length t) s'):wpAny (model X.prog X.w) A (call (.builtin "len") [.ref a]) Q E s:=by
 obtain⟨z,hd,vs,rel,dd⟩:=dk_rd I.hok e
 refine call_len_dict hd dd (by rw[<-rel.length];rw[sizeLine_eq]at z;omega) ?_
 rw[<-rel.length]
 exact h _ _ (I.tok _)
end
noncomputable def NoSl (i:Expr):Prop:=∀ov iv,subscripted i false ov iv=operate [ov,iv] (getItem ov iv)
theorem subD_of {prog:Program}{w:World}{A:Around}{E:Value->Shared->Prop}{s:Shared}{env:Env}{value slice:Expr}{pos:Pos}{T id:String}{Q:Value->Shared->Prop}
  (hl:typeLookup (.type T) "__getitem__" = pure (some (.builtin id))) (hs:NoSl slice)
  (h:wpAny (model prog w) A (eval value env) (fun o s₁=>wpAny (model prog w) A (eval slice env) (fun i s₂=>s₂.TypeIs o T/\wpAny (model prog w) A (getItem o i) Q E s₂) E s₁) E s) :
  wpAny (model prog w) A (eval (.Subscript value slice pos) env) Q E s:=by
 refine Subscript_ (wpAny_mono h (fun o s₁ h₁=>wpAny_mono h₁ (fun i s₂ h₂=>?_) fun _ _ x=>x) fun _ _ x=>x)
 obtain⟨hT,h₂⟩:=h₂
 unfold subscriptTail
 refine wpAny_bind ?_
 rw[getitemInPython_of_ne hT.not_modules]
 refine wpAny_bind (wpAny_specialOf hT hl ?_)
 have fin:wpAny (model prog w) A (subscripted slice false o i) (fun r s₃=>wpAny (model prog w) A (letTemporaryGo value o r >>= fun _=>pure r) Q E s₃) E s₂:=by
  rw[hs o i]
  exact wpAny_operating (wpAny_mono h₂ (fun r s₃ h₃=>wpAny_bind (wpAny_letTemporaryGo (wpAny_pure h₃))) fun _ _ x=>x)
 first
  | exact wpAny_pure (wpAny_bind fin)
  | exact wpAny_bind (wpAny_pure (wpAny_bind fin))
  | exact wpAny_bind fin
theorem zkn {X:Cx}{pins:List (Addr×Obj)}{σ:St}{H:Hp}{s:Shared}{a:Addr}{y:V}{o:Option V}(I:Inv X pins σ H s)(g:DGet H a y o):s.TypeIs (.ref a) "dict":=by
 rcases g with⟨kvs,k,e,_,_⟩ | ⟨kvs,k,b,e,_,_,_⟩
 ·obtain⟨_,_,vs,_,dd⟩:=dk_rd I.hok e
  exact dd.typeIs
 ·obtain⟨_,_,xs,_,dd⟩:=dt_rd I.hok e
  exact dd.typeIs
noncomputable def tDGet (td ty:TE):TE:=fun σ H Q=>td σ H fun x H1=>ty σ H1 fun y H2=>∃a v,x=.ref a/\DGet H2 a y (some v)/\Q v H2
section
variable {X:Cx}{o i e value:Expr}{pos pos' tpos:Pos}{td ty tv:TE}
theorem pe_dget (hu:X.A.units+1<cLine)(ho:PE X o td)(hi:PE X i ty)(hs:NoSl i):PE X (.Subscript o i pos) (tDGet td ty):=by
 intro pins s σ H Q I h
 refine subD_of PySem.F.slot_dict_getitem.lookup hs (thn (ho pins s σ H _ I h) fun u s1 zz=>?_)
 obtain⟨x,H1,I1,rx,q1⟩:=zz
 refine thn (hi pins s1 σ H1 _ I1 q1) fun iv s2 zz=>?_
 obtain⟨y,H2,I2,ry,a,v,ex,g,q2⟩:=zz
 subst ex
 obtain rfl:u=Value.ref a:=rx
 exact⟨zkn I2 g,d_getItem hu I2 g ry fun w' s3 I3 rw'=>⟨v,H2,I3,rw',q2⟩⟩
end
theorem dk_empty {P:Program}{w:World}{H:Hp}(h:Heap)(hb:sysModules<h.objs.size):ObjOk P w H (h.push { cls:=.type "dict",data:=.dict #[] }) h.objs.size (.dK []) :=
 ⟨Nat.zero_le _,beq_eq_false_iff_ne.mpr (Ne.symm (Nat.ne_of_lt hb)),[],.nil,Heap.DictOf.new h⟩
theorem dt_empty {P:Program}{w:World}{H:Hp}(h:Heap)(hb:sysModules<h.objs.size):ObjOk P w H (h.push { cls:=.type "dict",data:=.dict #[] }) h.objs.size (.dT []) :=
 ⟨Nat.zero_le _,beq_eq_false_iff_ne.mpr (Ne.symm (Nat.ne_of_lt hb)),[],.nil,_,#[],0,Heap.get?_push_size _ rfl,⟨rfl,rfl,rfl⟩,rfl,rfl,List.nodup_nil⟩
noncomputable def tDNewK:TE:=fun _ H Q=>∀p,H p=none->Q (.ref p) (upd H p (.dK []))
noncomputable def tDNewT:TE:=fun _ H Q=>∀p,H p=none->Q (.ref p) (upd H p (.dT []))
section
variable {X:Cx}{pos:Pos}
theorem pe_dnewK:PE X (.Dict [] [] pos) tDNewK:=fun pins s σ H Q I h =>
 wpAny_Dict_empty ⟨.ref s.heap.objs.size,_,I.laid (a:=s.heap.objs.size) (o:=.dK []) (t':=s.toks) (fun _ _ q=>Heap.get?_push_of_some _ q) (Nat.le_refl _) (dk_empty s.heap I.big),rfl,h _ (I.hok.fresh (Nat.le_refl _))⟩
theorem pe_dnewT:PE X (.Dict [] [] pos) tDNewT:=fun pins s σ H Q I h =>
 wpAny_Dict_empty ⟨.ref s.heap.objs.size,_,I.laid (a:=s.heap.objs.size) (o:=.dT []) (t':=s.toks) (fun _ _ q=>Heap.get?_push_of_some _ q) (Nat.le_refl _) (dt_empty s.heap I.big),rfl,h _ (I.hok.fresh (Nat.le_refl _))⟩
end
structure M1 (X:Cx)(o:Expr)(m:Str)(apos:Pos)(e:Expr)(cpos:Pos):Prop where
 base:attributeBase o m X.env (eval o X.env)=eval o X.env
 few:((backTo cpos (starEach [e] X.env)).all (fun x=>!x.1) && (backToKw cpos (keywordEach [] X.env)).all (fun x=>x.1.isSome)
  && decide (([e]:List Expr).length+([]:List Keyword).length+(if ([]:List Keyword).isEmpty then 0 else 1)<30))=true
 line:(apos.endLine==cpos.line)=true
 trees:backTo cpos (starEach [e] X.env)=[(false,eval e X.env)]
structure M2 (X:Cx)(o:Expr)(m:Str)(apos:Pos)(e f:Expr)(cpos:Pos):Prop where
 base:attributeBase o m X.env (eval o X.env)=eval o X.env
 few:((backTo cpos (starEach [e,f] X.env)).all (fun x=>!x.1) && (backToKw cpos (keywordEach [] X.env)).all (fun x=>x.1.isSome)
  && decide (([e,f]:List Expr).length+([]:List Keyword).length+(if ([]:List Keyword).isEmpty then 0 else 1)<30))=true
 line:(apos.endLine==cpos.line)=true
 trees:backTo cpos (starEach [e,f] X.env)=[(false,eval e X.env),(false,eval f X.env)]
section
variable {X:Cx}{pins:List (Addr×Obj)}{σ:St}{H:Hp}{s:Shared}{a:Addr}{y d:V}{u r:Value}{o:Option V}{A:Around}{E:Value->Shared->Prop}
end
section
variable {X:Cx}{o e f:Expr}{apos cpos:Pos}{td ty tx:TE}
end
section
variable {X:Cx}{pins:List (Addr×Obj)}{σ:St}{H:Hp}{s:Shared}{a:Addr}{kvs:List (Key×V)}{A:Around}{E:Value->Shared->Prop}
end
section
variable {X:Cx}{pins:List (Addr×Obj)}{σ:St}{H:Hp}{s:Shared}{a:Addr}{y:V}{u:Value}{A:Around}{E:Value->Shared->Prop}
end
end L2
namespace L2
open PySem PySem.Spec PyProof.Rows
section
variable {X:Cx}{pins:List (Addr×Obj)}{σ:St}{H:Hp}{s:Shared}{a b:Addr}{v:V}{u r:Value}{A:Around}{E:Value->Shared->Prop}{kvs:List (List Key×V)}{k:List Key}
end
end L2
namespace M
open PySem PySem.Spec L2
noncomputable def keyOf:D->Option Key
 | .int i=>some (.inl i)
 | .str cs=>some (.inr (strOf cs))
 | _=>none
noncomputable def keysOf:List D->Option (List Key)
 | []=>some []
 | d::ds=>(keyOf d).bind fun k=>(keysOf ds).map fun ks=>k::ks
noncomputable def valM (kvs:List (List Key×D))(k:List Key):Option D:=(kvs.find? fun kv=>decide (kv.1=k)).map (·.2)
@[simp] theorem keyOf_int (i:Int):keyOf (.int i)=some (.inl i):=za5 rfl
@[simp] theorem zk4:keysOf []=some []:=za5 rfl
@[simp] theorem zhe (d:D) (ds:List D):keysOf (d::ds)=(keyOf d).bind fun k=>(keysOf ds).map fun ks=>k::ks:=za5 rfl
@[simp] theorem valM_nil (k:List Key):valM [] k=none:=za5 rfl
theorem zea (p:List Key×D)(r:List (List Key×D))(k:List Key):valM (p::r) k=if p.1=k then some p.2 else valM r k:=by
 unfold valM
 rw[List.find?_cons]
 by_cases h:p.1=k
 ·simp[h]
 ·simp[h]
theorem RepVs.keys {K:PySem.W.Frag}{μ:List Addr}{H:Hp}:∀{ds:List D} {xs:List V} {ks:List Key},RepVs K μ H ds xs->keysOf ds=some ks->xs=ks.map kV
 | [],xs,ks,h,e=>by
  rw[RepVs]at h
  rw[zk4]at e;cases e;exact h
 | d::ds,xs,ks,h,e=>by
  rw[RepVs]at h
  obtain⟨v,r,rfl,h1,h2⟩:=h
  rw[zhe]at e
  cases e1:keyOf d with
  | none=>rw[e1]at e;cases e
  | some k1 =>
   rw[e1]at e
   cases e2:keysOf ds with
   | none=>rw[e2]at e;cases e
   | some ks2 =>
    rw[e2]at e
    cases e
    rw[RepVs.keys h2 e2]
    have:v=kV k1:=by
     cases d with
     | int i=>rw[RepV.int_iff]at h1;cases e1;exact h1
     | str cs=>rw[RepV.str_iff]at h1;cases e1;exact h1
     | _=>cases e1
    rw[this];rfl
theorem zgo:∀{ds:List D} {ks:List Key},keysOf ds=some ks->noKey ds=false
 | [],_,_=>rfl
 | d::ds,ks,e=>by
  rw[zhe]at e
  cases e1:keyOf d with
  | none=>rw[e1]at e;cases e
  | some k1 =>
   rw[e1]at e
   cases e2:keysOf ds with
   | none=>rw[e2]at e;cases e
   | some ks2 =>
    have ih:=zgo e2
    cases d with
    | int i=>rw[noKey];exact ih
    | str cs=>rw[noKey];exact ih
    | _=>cases e1
theorem TupA.made {K:PySem.W.Frag}{H:Hp}{a:Addr}{xs:List V}{ds:List D}{ks:List Key}(h:TupA K H a xs ds)(e:keysOf ds=some ks):H a=some (.tup xs):=by
 rcases h with h | ⟨h,_⟩
 ·exact h
 ·rw[zgo e]at h;cases h
theorem RepKV.val {K:PySem.W.Frag}{μ:List Addr}{H:Hp}{k:List Key}:∀{kvs:List (List Key×D)} {ws:List (List Key×V)},RepKV K μ H kvs ws ->
  (valM kvs k=none/\valV ws k=none)\/∃d v,valM kvs k=some d/\valV ws k=some v/\RepV K μ H d v
 | [],ws,h=>.inl ⟨rfl,by rw[RepKV]at h;rw[h];rfl⟩
 | (j,d)::r,ws,h=>by
  obtain⟨v,r',rfl,h1,h2⟩:=h
  rw[zea]
  by_cases e:j=k
  ·rw[if_pos e]
   exact .inr ⟨d,v,rfl,zhq (p:=(j,v)) e,h1⟩
  ·rw[if_neg e,zh0 (p:=(j,v)) e]
   exact RepKV.val h2
theorem RepKV.snoc {K:PySem.W.Frag}{μ:List Addr}{H:Hp}{k:List Key}{d:D}{v:V}:∀{kvs:List (List Key×D)} {ws:List (List Key×V)},RepKV K μ H kvs ws->RepV K μ H d v->RepKV K μ H (kvs++[(k,d)]) (ws++[(k,v)])
 | [],ws,h,hv=>by rw[RepKV]at h;subst h;exact⟨v,[],rfl,hv,rfl⟩
 | (j,d')::r,ws,h,hv=>by
  obtain⟨v',r',rfl,h1,h2⟩:=h
  exact⟨v',r'++[(k,v)],rfl,h1,RepKV.snoc h2 hv⟩
theorem RepKV.len {κ:Type}{K:PySem.W.Frag}{μ:List Addr}{H:Hp}:∀{kvs:List (κ×D)} {ws:List (κ×V)},RepKV K μ H kvs ws->kvs.length=ws.length
 | [],ws,h=>by rw[RepKV]at h;rw[h];rfl
 | (j,d)::r,ws,h=>by
  obtain⟨v,r',rfl,h1,h2⟩:=h
  rw[List.length_cons,List.length_cons,RepKV.len h2]
theorem RepS.dic {K:PySem.W.Frag}{μ:List Addr}{H:Hp}{st:Stor}{n:Nat}{kvs:List (List Key×D)}(h:RepS K μ H st)(e:st[n]? = some (.dic kvs)):∃p ws,μ[n]? = some p/\H p=some (.dT ws)/\RepKV K μ H kvs ws:=by
 obtain⟨p,h1,xs,h2,h3⟩:=h.at_ n _ e
 exact⟨p,xs,h1,h2,h3⟩
section
variable {X:Cx}{e a b c o:Expr}{es:List Expr}{ma mb mc mo:ME}{mA:MA}{pos p2 p apos cpos:Pos}
noncomputable def dicE:ME:=fun _ st=>.ok (.loc st.length) (st++[.dic []])
theorem zkc:JE X (.Dict [] [] pos) dicE:=by
 refine JE.of pe_dnewT fun σ H Q zz=>?_
 obtain⟨μ,env,st,hE,hs,hp⟩:=zz
 refine fun p hn=>?_
 have hr:RepO X.K (μ++[p]) (upd H p (.dT [])) p (.dic []):=⟨[],zbd,rfl⟩
 exact hp _ _ (μ++[p]) (Grow.new hn) (hs.new hn hr) (RepV.loc_iff.mpr ⟨p,by rw[<-hs.len];simp,rfl⟩)
end
end M
namespace L2
open PySem PySem.Spec PyProof.Rows
noncomputable def Its (x:Str):It:=⟨fun i _=>i<x.cps.size,fun i H y H'=>H'=H/\∃c,x.cps[i]? = some c/\y=.str ⟨#[c]⟩,fun i _=>x.cps.size<=i⟩
theorem turn_str {P:Program}{w:World}{K:PySem.W.Frag}{tg:Expr}(it:Addr)(x:Str)(t:Tok):Turn P w K tg (Its x) [it] it (fun i h=>h.IsStrIter it "str_ascii_iterator" x t i) where
 mem:=by simp
 obj:=fun i h st b hb=>by
  have e:b=it:=by simpa using hb
  subst e
  obtain⟨o,e,c,d⟩:=st
  exact⟨o,e,fun v z=>by rw[d]at z;cases z⟩
 keep:=fun i h h' st k=>by
  obtain⟨o,e,c,d⟩:=st
  exact⟨o,k it (by simp) o e,c,d⟩
 item:=by
  intro X hP hw hK hc i pins s σ H E I hf st hg
  subst hP hw hK
  obtain⟨f0,f1,f2,f3,f4,f5⟩:=hf it (by simp)
  have hi:i<x.cps.size:=hg
  refine wpAny_pyNext_ascii_item st (Array.getElem?_eq_getElem hi) fun h' st' sb=>?_
  have I1:Inv X pins σ H { s with heap:=h',toks:=s.toks+1 }:=I.turned (fun b o hb e=>(sb.2 b hb).trans e) f0 f1 f3 f4 f5
  obtain⟨o,e,c,d⟩:=id st'
  exact⟨_,rfl,go_of (s:={ s with heap:=h',toks:=s.toks+1 }) e c d (by decide) ⟨.str ⟨#[x.cps[i]]⟩,H,I1,⟨_,rfl⟩,⟨rfl,_,Array.getElem?_eq_getElem hi,rfl⟩,st',fun b hb=>(hf b hb).1⟩⟩
 done:=by
  intro X hP hw hK hc i pins s σ H E I hf st hg
  subst hP hw hK
  obtain⟨f0,f1,f2,f3,f4,f5⟩:=hf it (by simp)
  have hi:x.cps.size<=i:=hg
  exact wpAny_pyNext_ascii_end (I.ok.hd hc) st (Array.getElem?_eq_none hi) fun h' eb=>⟨rfl,I.turned (t':=s.toks) (fun b o hb e=>eb b o hb e) f0 f1 f3 f4 f5⟩
 self:=fun _ _ _ _ _ st h=>wpAny_pyIter_striter_ascii st h
noncomputable def iStr (tl:TE):TI:=fun σ H R=>tl σ H fun y H1=>∃x,y=.str x/\strIterType x = "str_ascii_iterator"/\R (Its x) H1
theorem pi_str {X:Cx}{tg l:Expr}{tl:TE}(hl:PE X l tl):PI X tg l (iStr tl):=by
 intro pins s σ H R I h
 refine thn (hl pins s σ H _ I h) fun v s1 zz=>?_
 obtain⟨y,H1,I1,r1,q1⟩:=zz
 obtain⟨x,e,ha,q⟩:=q1
 subst e
 obtain⟨t,rfl⟩:=r1
 refine wpAny_pyIter_strU ?_
 rw[ha]
 refine⟨s1.heap.objs.size,[s1.heap.objs.size],_,_,H1,rfl,I1.kept (t':=s1.toks) fun b o e=>Heap.get?_push_of_some _ e,turn_str _ x t,⟨_,Heap.get?_push_size _ rfl,rfl,rfl⟩,fun b hb=>?_,q⟩
 have e:b=s1.heap.objs.size:=by simpa using hb
 subst e
 exact I1.fpOk (Nat.le_refl _) (I1.hok.fresh (Nat.le_refl _))
end L2
namespace M
open PySem PySem.Spec L2
section
variable {X:Cx}{tg l:Expr}{ml:ME}{μ:List Addr}{H:Hp}
noncomputable def strI (m:ME):MI:=fun env st=>(m env st).bind fun d st1=>match d with
 | .str cs=>if cs.all (fun c=>decide (c<128))=true then .ok (cs.map fun c=>D.str [c],[]) st1 else .bad
 | _=>.bad
theorem its_rep (cs:List Nat):ItRep X μ H (Its (strOf cs)) (cs.map fun c=>D.str [c],[]):=by
 intro H' μ' st' g hs ok
 refine⟨fun i d e=>?_,by show (strOf cs).cps.size<=_;simp⟩
 rw[List.getElem?_map]at e
 obtain⟨c,e1,rfl⟩:=Option.map_eq_some_iff.mp e
 refine⟨by show i<(strOf cs).cps.size;simpa using (List.getElem?_eq_some_iff.mp e1).1,?_⟩
 rintro x H'' ⟨rfl,c',hc,rfl⟩
 have:c'=c:=by
  have h2:cs[i]? = some c':=by simpa using hc
  rw[e1]at h2;exact (Option.some.inj h2).symm
 subst this
 exact⟨.refl _ _,hs,RepV.str_iff.mpr rfl⟩
theorem ji_str (hl:JE X l ml):JI X tg l (strI ml):=by
 refine JI.of (pi_str hl) fun σ H R zz=>?_
 obtain⟨μ,env,st,hE,hs,hp⟩:=zz
 refine⟨μ,env,st,hE,hs,(Post.bind hp).imp ?_⟩
 rintro v H1 ⟨μ1,st1,d,g1,hs1,hv,hp1⟩
 dsimp only at hp1
 split at hp1
 ·rename_i cs
  split at hp1
  ·rename_i hc
   obtain rfl:=RepV.str_iff.mp hv
   refine⟨strOf cs,rfl,?_,hp1 _ _ _ (.refl _ _) hs1 (its_rep cs)⟩
   unfold strIterType
   rw[if_pos]
   show (cs.toArray.all _)=true
   rw[List.all_toArray];exact hc
  ·exact hp1.elim
 ·exact hp1.elim
end
end M
namespace L2
open PySem PySem.Spec PyProof.Rows
theorem Inv.but {X:Cx}{pins:List (Addr×Obj)}{σ:St}{H:Hp}{s:Shared}{h':Heap}{t':Nat}(I:Inv X pins σ H s)(k:∀b o,b≠X.env.locals->s.heap.get? b=some o->h'.get? b=some o)
  (ns:∀m,s.heap.Ns X.env.locals m->h'.Ns X.env.locals m):Inv X pins σ H { s with heap:=h',toks:=t' }:=by
 have neL:∀b u,H b=some u->b≠X.env.locals:=fun b u e z=>by rw[z,I.free]at e;cases e
 refine I.step (g':=s.gens) (d':=s.drawn) (ch:=[]) (fun _ z=>nomatch z) (fun b o hL _ _ e _=>k b o hL e) (fun b o hL _ _ e _=>⟨o.slots,k b o hL e⟩) (fun _ _ _ _ n=>n) (fun b o _ e=>?_) (fun _ _ e=>e) (fun _ _ _ e=>e) (fun b ps e=>⟨#[],by rw[e];simp⟩) ns (fun b u e=>?_) I.bare
 ·by_cases hb:b=X.env.locals
  ·subst hb
   obtain⟨m,hm,_⟩:=I.loc
   obtain⟨o',_,_,q,_⟩:=ns m hm
   exact⟨o',q⟩
  ·exact⟨o,k b o hb e⟩
 ·refine (I.hok b u e).stay (fun c v hc q=>k c v ?_ q) (fun c q=>q) fun c xs q=>q
  rcases hc with z | z
  ·rw[z];exact neL b u e
  ·exact neL c _ z
theorem call_sumL {X:Cx}(hc:X.A.handled=none):CallR X (.builtin "sum") (fun xs H Q=>∃(p:Addr) (ns:List Int),xs=[.ref p]/\SqL X.K H p (ns.map V.int)/\Q (.int ns.sum) H):=by
 rintro pins s σ H xs us Q I hr ⟨p,ns,rfl,hq,h⟩
 cases hr with
 | cons r1 r2 =>
  cases r2
  cases r1
  obtain⟨its,rv,pl,hz⟩:=I.list hq
  have hi:IntsAre its ns:=by
   have key:∀(ns:List Int) (its:List Value),Vals (ns.map V.int) its->IntsAre its ns:=by
    intro ns
    induction ns with
    | nil=>intro its h;cases h;exact .nil
    | cons n ns ih =>
     intro its h
     cases h with
     | cons r1 r2 =>
      obtain⟨t,rfl⟩:=r1
      exact .cons n t (ih _ r2)
   exact key ns its rv
  obtain⟨m,hm,_⟩:=id I.loc
  obtain⟨o,ho,_⟩:=id pl.isList
  have hne:p≠X.env.locals:=fun z=>by
   obtain⟨o',es,ep,q1,q2,_⟩:=hm
   obtain⟨o2,w1,w2,w3⟩:=id pl.isList
   rw[z,q1]at w1;cases w1
   rw[q2]at w3
   obtain⟨_,w4⟩:=w3;cases w4
  refine LSm.sum_ints (Att.fr_all hm) (Att.zkq hne ho) hc pl.isList hi fun h' tk t' F' N'=>⟨.int ns.sum,H,I.but (fun b ob hb e=>?_) (fun m' hm'=>?_),⟨t',rfl⟩,h⟩
  ·by_cases hbp:b=p
   ·subst hbp
    rw[ho]at e;cases e
    exact N'.get (List.Mem.head _)
   ·exact N'.get (List.Mem.tail _ (Att.ziw.mpr ⟨hb,hbp,e⟩))
  ·have:m'=m:=by
    obtain⟨o1,es1,ep1,q1,q2,_,q3⟩:=hm
    obtain⟨o2,es2,ep2,w1,w2,_,w3⟩:=hm'
    rw[q1]at w1;cases w1
    rw[q2]at w2;cases w2
    funext x
    rw[<-q3 x,<-w3 x]
   subst this
   exact F'.ns
end L2
namespace M
open PySem PySem.Spec L2
noncomputable def intsOf:List D->Option (List Int)
 | []=>some []
 | .int i::r=>(intsOf r).map (i :: ·)
 | _::_=>none
theorem zjc {K:PySem.W.Frag}{μ:List Addr}{H:Hp}:∀{ds:List D} {xs:List V} {ns:List Int},intsOf ds=some ns->RepVs K μ H ds xs->xs=ns.map V.int
 | [],_,_,e,h=>by cases e;rw[RepVs]at h;exact h
 | d::ds,_,ns,e,h=>by
  rw[RepVs]at h
  obtain⟨v,t,rfl,h1,h2⟩:=h
  cases d with
  | int i =>
   simp only[intsOf]at e
   cases q:intsOf ds with
   | none=>rw[q]at e;cases e
   | some bs' =>
    rw[q]at e;cases e
    rw[RepV.int_iff]at h1;subst h1
    rw[zjc q h2];rfl
  | _=>simp[intsOf]at e
noncomputable def sumV:List D->Stor->R D
 | [.loc n],st=>match (itemsAt st n).bind intsOf with | some ns=>.ok (.int ns.sum) st | none=>.bad
 | _,_=>.bad
theorem call_sumV {X:Cx}(hc:X.A.handled=none):CallR X (.builtin "sum") (rMC X sumV):=by
 refine CallR.weak (call_sumL hc) ?_
 rintro xs H Q ⟨μ,st,ds,hs,hv,hp⟩
 unfold sumV at hp
 split at hp
 ·rename_i n
  cases e:itemsAt st n with
  | none=>rw[e]at hp;exact hp.elim
  | some l =>
   rw[e]at hp
   cases e2:intsOf l with
   | none=>simp only[Option.bind_some,e2]at hp;exact hp.elim
   | some ns =>
    simp only[Option.bind_some,e2]at hp
    obtain⟨v,rfl,q⟩:=RepVs.one hv
    obtain⟨p,q1,rfl⟩:=RepV.loc_iff.mp q
    obtain⟨p',ys,r1,r2,r3⟩:=hs.items e
    rw[q1]at r1;cases r1
    rw[zjc e2 r3]at r2
    exact⟨p,ns,rfl,r2,hp.ret hs (RepV.int_iff.mpr rfl)⟩
 ·exact hp.elim
end M
namespace M
open L2
theorem zfr {α:Type}(xs:List α)(c:Nat):cut xs (some (c:Int)) none=xs.drop c:=by
 unfold cut
 rw[HT.zgs,HT.zln]
 by_cases h:c<=xs.length
 ·rw[Nat.min_eq_left h,List.take_of_length_le (by simp)]
 ·rw[Nat.min_eq_right (by omega),List.drop_eq_nil_of_le (Nat.le_refl _),List.drop_eq_nil_of_le (by omega)];simp
theorem zef (lo:Int)(n:Nat):(upto lo n).length=n:=by simp[upto]
theorem zid {α:Type}(l:List α)(i:Int)(h:0<l.length):∃(j:Nat) (hj:j<l.length),i % (l.length:Int)=(j:Int)/\atI l (i % (l.length:Int))=some l[j]:=by
 have h1:=Int.emod_nonneg i (show (l.length:Int)≠0 by omega)
 have h2:=Int.emod_lt_of_pos i (show 0<(l.length:Int) by omega)
 obtain⟨j,hj⟩:=Int.eq_ofNat_of_zero_le h1
 have hl:j<l.length:=by omega
 exact⟨j,hl,hj,by rw[hj,zc5];exact List.getElem?_eq_getElem hl⟩
section
variable (st:Stor)
theorem zes (cs:List Nat)(i:Int)(c:Nat)(h:cs.length<=1000000)(hi:atI cs i=some c):ixV (.str cs) (.int i) st=.ok (.str [c]) st:=by simp[ixV,h,hi]
theorem zbg (a b:List Nat)(h:a.length+b.length<=1000000):addV (.str a) (.str b) st=.ok (.str (a++b)) st:=by simp[addV,h]
theorem zdg (cs:List Nat)(lo hi:Option Int)(h:cs.length<=1000000):slV (.str cs) lo hi st=.ok (.str (cut cs lo hi)) st:=by simp[slV,h]
theorem r_len_str (cs:List Nat)(h:cs.length<=1000000):lenV [.str cs] st=.ok (.int cs.length) st:=by simp[lenV,h]
@[simp] theorem r_strI (a:ME) (env:MEnv):strI a env st=(a env st).bind fun d st1=>match d with
 | .str cs=>if cs.all (fun c=>decide (c<128))=true then .ok (cs.map fun c=>D.str [c],[]) st1 else .bad
 | _=>.bad:=za5 rfl
end
end M
namespace M
open PySem PySem.Spec L2
section
variable {X:Cx}
noncomputable def inDV (neg:Bool):D->D->Stor->R D
 | .tup ks,.loc n,st=>match st[n]?,keysOf ks with
  | some (.dic kvs),some k=>.ok (.bl (if neg then !(valM kvs k).isSome else (valM kvs k).isSome)) st
  | _,_=>.bad
 | _,_,_=>.bad
theorem inD_core {H:Hp}{x y:V}{Q:VK}{neg:Bool}(h:rM X (inDV neg) x y H Q):∃p o,y=.ref p/\DGet H p x o/\Q (.bl (if neg then !o.isSome else o.isSome)) H:=by
 obtain⟨μ,st,dx,dy,hs,hx,hy,hp⟩:=h
 unfold inDV at hp
 split at hp
 ·rename_i ks n
  split at hp
  ·rename_i kvs k e1 e2
   obtain⟨p,q1,rfl⟩:=RepV.loc_iff.mp hy
   obtain⟨b,ys,rfl,q3,q4⟩:=RepV.tup_iff.mp hx
   replace q3:=q3.made e2
   obtain rfl:=q4.keys e2
   obtain⟨p',ws,r1,r2,r3⟩:=hs.dic e1
   rw[q1]at r1;cases r1
   refine⟨p,_,rfl,DGet.t r2 q3,?_⟩
   rcases r3.val (k:=k) with⟨z1,z2⟩ | ⟨d',v',z1,z2,z3⟩
   ·rw[z1]at hp
    rw[z2]
    exact hp.ret hs (RepV.bl_iff.mpr rfl)
   ·rw[z1]at hp
    rw[z2]
    exact hp.ret hs (RepV.bl_iff.mpr rfl)
  ·exact hp.elim
 ·exact hp.elim
theorem zig (hu:X.A.units+1<cLine):OpR X (compareOp .NotIn) (rM X (inDV true)):=by
 intro pins s σ H x y v u Q I rx ry h
 obtain⟨p,o,rfl,g,q⟩:=inD_core h
 obtain rfl:u=Value.ref p:=ry
 exact d_notIn hu I g rx fun s' I'=>⟨.bl (!o.isSome),H,I',rfl,q⟩
noncomputable def putM (kvs:List (List Key×D))(k:List Key)(d:D):List (List Key×D) :=
 if (kvs.any fun kv=>decide (kv.1=k))=true then kvs.map (fun kv=>if kv.1=k then (kv.1,d) else kv) else kvs++[(k,d)]
theorem RepKV.any {K:PySem.W.Frag}{μ:List Addr}{H:Hp}{k:List Key}:∀{kvs:List (List Key×D)} {ws:List (List Key×V)},RepKV K μ H kvs ws->(kvs.any fun kv=>decide (kv.1=k))=(ws.any fun kv=>decide (kv.1=k))
 | [],ws,h=>by rw[RepKV]at h;rw[h];rfl
 | (j,d)::r,ws,h=>by
  obtain⟨v,r',rfl,h1,h2⟩:=h
  rw[List.any_cons,List.any_cons,RepKV.any h2]
theorem RepKV.repl {K:PySem.W.Frag}{μ:List Addr}{H:Hp}{k:List Key}{d:D}{v:V}(hv:RepV K μ H d v):∀{kvs:List (List Key×D)} {ws:List (List Key×V)},RepKV K μ H kvs ws->RepKV K μ H (kvs.map fun kv=>if kv.1=k then (kv.1,d) else kv) (ws.map fun kv=>if kv.1=k then (kv.1,v) else kv)
 | [],ws,h=>by rw[RepKV]at h;subst h;exact rfl
 | (j,d')::r,ws,h=>by
  obtain⟨v',r',rfl,h1,h2⟩:=h
  rw[List.map_cons,List.map_cons]
  by_cases e:j=k
  ·rw[if_pos e,if_pos e];exact⟨v,_,rfl,hv,RepKV.repl hv h2⟩
  ·rw[if_neg e,if_neg e];exact⟨v',_,rfl,h1,RepKV.repl hv h2⟩
theorem RepKV.put {K:PySem.W.Frag}{μ:List Addr}{H:Hp}{k:List Key}{d:D}{v:V}{kvs:List (List Key×D)}{ws:List (List Key×V)}(h:RepKV K μ H kvs ws)(hv:RepV K μ H d v):RepKV K μ H (putM kvs k d) (putK ws k v):=by
 unfold putM putK
 rw[h.any]
 split
 ·exact RepKV.repl hv h
 ·exact h.snoc hv
noncomputable def setDV:D->D->D->Stor->R Unit
 | .loc n,.tup ks,d,st=>match st[n]?,keysOf ks with
  | some (.dic kvs),some k=>if kvs.length<1000000 then .ok () (st.set n (.dic (putM kvs k d))) else .bad
  | _,_=>.bad
 | _,_,_,_=>.bad
theorem set_DV (hu:X.A.units+1<cLine):PSet X (rMSet X setDV):=by
 rintro pins s σ H o i v ov iv u Q I ro ri rv ⟨μ,st,d1,d2,d3,hs,h1,h2,h3,hp⟩
 unfold setDV at hp
 split at hp
 ·rename_i n ks d
  split at hp
  ·rename_i kvs k e1 e2
   split at hp
   ·rename_i hl
    obtain⟨p,q1,rfl⟩:=RepV.loc_iff.mp h1
    obtain⟨b,ys,rfl,q3,q4⟩:=RepV.tup_iff.mp h2
    replace q3:=q3.made e2
    obtain rfl:=q4.keys e2
    obtain⟨p',ws,r1,r2,r3⟩:=hs.dic e1
    rw[q1]at r1;cases r1
    obtain rfl:ov=Value.ref p:=ro
    refine zkk hu I (DPut.t r2 q3 (by rw[<-r3.len];exact Nat.lt_of_lt_of_le hl (by decide))) ri rv fun s' I'=>⟨_,I',?_⟩
    have g:Ext H (upd H p (.dT (putK ws k v))):=Ext.mut r2 (fun _ z=>nomatch z) (fun _ _ z=>nomatch z)
    have g':Grow μ H μ (upd H p (.dT (putK ws k v))):=⟨⟨[],by simp⟩,g⟩
    exact hp () _ μ g' (hs.put e1 rfl rfl q1 g ⟨_,zbd,(r3.put h3).mono g'⟩) trivial
   ·exact hp.elim
  ·exact hp.elim
 ·exact hp.elim
end
end M
namespace L2
open PySem PySem.Spec PyProof.Rows
theorem zmn:∀(ys:List Str) (its:List Value),Vals (ys.map V.str) its->StrsAre its ys
 | [],_,h=>by cases h;exact .nil
 | y::ys,_,h=>by
  cases h with
  | cons r1 r2 =>
   obtain⟨t,rfl⟩:=r1
   exact .cons y t (zmn ys _ r2)
theorem mt_joinS {X:Cx}:MtR X "str.join" (fun x xs H Q=>∃(z:Str) (p:Addr) (ys:List Str),x=.str z/\xs=[.ref p]/\SqL X.K H p (ys.map V.str)/\(ys.map fun y=>y.length).sum+ys.length*z.length<=16777216/\Q (.str (Txt.join z ys)) H):=by
 rintro pins s σ H x xs v us Q I rx rxs ⟨z,p,ys,rfl,rfl,hq,hz,h⟩
 obtain⟨t,rfl⟩:=rx
 cases rxs with
 | cons r1 r2 =>
  cases r2
  cases r1
  obtain⟨its,rv,pl,_⟩:=I.list hq
  exact join_list pl.isList (zmn ys its rv) hz fun t' k=>⟨.str (Txt.join z ys),H,I.kept (t':=k) fun b u h=>h,⟨t',rfl⟩,h⟩
end L2
namespace M
open PySem PySem.Spec L2
section
variable {X:Cx}
noncomputable def textsOf:List D->Option (List (List Nat))
 | []=>some []
 | .str cs::r=>(textsOf r).map (cs :: ·)
 | _::_=>none
theorem zj5 {K:PySem.W.Frag}{μ:List Addr}{H:Hp}:∀{ds:List D} {xs:List V} {ts:List (List Nat)},textsOf ds=some ts->RepVs K μ H ds xs->xs=(ts.map strOf).map V.str
 | [],_,_,e,h=>by cases e;rw[RepVs]at h;exact h
 | d::ds,_,ts,e,h=>by
  rw[RepVs]at h
  obtain⟨v,t,rfl,h1,h2⟩:=h
  cases d with
  | str cs =>
   simp only[textsOf]at e
   cases q:textsOf ds with
   | none=>rw[q]at e;cases e
   | some ts' =>
    rw[q]at e;cases e
    rw[RepV.str_iff]at h1;subst h1
    rw[zj5 q h2];rfl
  | _=>simp[textsOf]at e
noncomputable def joinM (sep:List Nat)(ts:List (List Nat)):List Nat:=(Txt.join (strOf sep) (ts.map strOf)).cps.toList
noncomputable def joinV:D->List D->Stor->R D
 | .str sep,[.loc n],st=>match (itemsAt st n).bind textsOf with
  | some ts=>if (ts.map List.length).sum+ts.length*sep.length<=1000000 then .ok (.str (joinM sep ts)) st else .bad
  | none=>.bad
 | _,_,_=>.bad
theorem zjf:MtR X "str.join" (rMM X joinV):=by
 refine MtR.weak mt_joinS ?_
 rintro x xs H Q ⟨μ,st,d,ds,hs,hx,hxs,hp⟩
 unfold joinV at hp
 split at hp
 ·rename_i sep n
  cases e:itemsAt st n with
  | none=>rw[e]at hp;exact hp.elim
  | some l =>
   rw[e]at hp
   cases e2:textsOf l with
   | none=>simp only[Option.bind_some,e2]at hp;exact hp.elim
   | some ts =>
    simp only[Option.bind_some,e2]at hp
    split at hp
    ·rename_i hl
     obtain⟨v,rfl,q⟩:=RepVs.one hxs
     obtain⟨p,q1,rfl⟩:=RepV.loc_iff.mp q
     obtain⟨p',ys,r1,r2,r3⟩:=hs.items e
     rw[q1]at r1;cases r1
     rw[zj5 e2 r3]at r2
     obtain rfl:=RepV.str_iff.mp hx
     refine⟨_,p,ts.map strOf,rfl,rfl,r2,?_,hp.ret hs (RepV.str_iff.mpr rfl)⟩
     rw[List.map_map,List.length_map]
     have e3:(ts.map ((fun y:Str=>y.length)∘strOf))=ts.map List.length:=List.map_congr_left fun t _=>by
      show (strOf t).cps.size=t.length
      simp
     rw[e3]
     have e4:(strOf sep).length=sep.length:=by show (strOf sep).cps.size=sep.length;simp
     rw[e4];omega
    ·exact hp.elim
 ·exact hp.elim
end
end M
namespace M
open PySem PySem.Spec L2
noncomputable def joinL (sep:List Nat):List (List Nat)->List Nat
 | []=>[]
 | [t]=>t
 | t::u::r=>t++sep++joinL sep (u::r)
theorem zho (sep:Str):∀(ts:List Str),(sep.join ts).cps.toList=joinL sep.cps.toList (ts.map fun t=>t.cps.toList)
 | []=>by rw[PyProof.Rows.join_nil];rfl
 | [t]=>by rw[PyProof.Rows.join_one];rfl
 | t::u::r=>by
  have ih:=zho sep (u::r)
  rw[List.map_cons]at ih
  rw[PyProof.Rows.join_cons_cons,List.map_cons,List.map_cons,joinL,<-ih]
  show (t.cps++sep.cps++(sep.join (u::r)).cps).toList=_
  simp
theorem joinM_eq (sep:List Nat)(ts:List (List Nat)):joinM sep ts=joinL sep ts:=by
 unfold joinM
 rw[show Txt.join (strOf sep) (ts.map strOf)=(strOf sep).join (ts.map strOf) from StrLaws.glued_eq_join _ _,zho,List.map_map]
 have:(fun t:Str=>t.cps.toList)∘strOf=id:=by funext t;simp
 rw[this,List.map_id]
end M
namespace L2
open PySem PySem.Spec PyProof.Rows
theorem zm2 (cs:List Nat):∀(n:Nat) (a:Array Nat),(List.foldl (fun x1 x2=>x1++x2) a (List.replicate n cs.toArray)).toList=a.toList++(List.replicate n cs).flatten
 | 0,a=>by simp
 | n+1,a=>by
  rw[List.replicate_succ,List.replicate_succ,List.foldl_cons,zm2 cs n,List.flatten_cons]
  simp
theorem zmm {X:Cx}:OpR X (binaryOp .Mult) (fun x y H Q=>∃(cs:List Nat) (n:Nat),x=.str ⟨cs.toArray⟩/\y=.int n/\n<=1000000/\cs.length*n<=1000000/\Q (.str ⟨(List.replicate n cs).flatten.toArray⟩) H):=by
 intro pins s σ H x y v u Q I rx ry h
 obtain⟨cs,n,rfl,rfl,hn,hz,q⟩:=h
 obtain⟨t,rfl⟩:=rx
 obtain⟨t',rfl⟩:=ry
 have hlen:(Str.mk cs.toArray).length=cs.length:=by show cs.toArray.size=_;simp
 refine P.mul_str ?_ ?_ ?_ ?_
 ·rw[Bool.or_eq_false_iff];exact⟨decide_eq_false (by omega),decide_eq_false (by omega)⟩
 ·intro h1 h2
  rw[hlen]
  have h3:(cs.length:Int)*(n:Int)<=2 ^ 63 - 1:=by
   have:((cs.length*n:Nat):Int)<=1000000:=by omega
   rw[Int.natCast_mul]at this
   omega
  have:=(Int.le_ediv_iff_mul_le (show (0:Int)<(n:Int) by omega)).mpr h3
  omega
 ·intro _ _
  rw[hlen]
  unfold Builtin.Str.tooLong
  rw[Int.toNat_natCast]
  exact decide_eq_false (by
   have hsl:1000000<=sizeLine:=by decide
   omega)
 ·split
  ·have h0:n=0:=by omega
   subst h0
   exact⟨Nat.zero_le _,.str ⟨#[]⟩,H,I.tok _,⟨_,rfl⟩,q⟩
  ·split
   ·rename_i h1 h2
    have e:(List.replicate n cs).flatten=cs:=by
     rw[Bool.or_eq_true]at h2
     rcases h2 with h2 | h2
     ·have:n=1:=by have:=eq_of_beq h2;omega
      subst this;simp
     ·have:cs=[]:=by rw[hlen]at h2;exact List.length_eq_zero_iff.mp (eq_of_beq h2)
      subst this;simp
    rw[e]at q
    exact⟨.str ⟨cs.toArray⟩,H,I,⟨t,rfl⟩,q⟩
   ·have e:(Str.mk (List.foldl (fun x1 x2=>x1++x2) #[] (List.replicate (n:Int).toNat cs.toArray)))=⟨(List.replicate n cs).flatten.toArray⟩:=by
     congr 1
     apply Array.toList_inj.mp
     rw[Int.toNat_natCast,zm2];simp
    rw[e]
    have hfl:(List.replicate n cs).flatten.length=n*cs.length:=by simp
    have hl2:(Str.mk (List.replicate n cs).flatten.toArray).length<=sizeLine:=by
     show (List.replicate n cs).flatten.toArray.size<=sizeLine
     rw[List.size_toArray,hfl,Nat.mul_comm]
     exact Nat.le_trans hz (by decide)
    exact⟨hl2,.str _,H,I.tok _,⟨_,rfl⟩,q⟩
end L2
namespace M
open PySem PySem.Spec L2
noncomputable def mulSV:D->D->Stor->R D
 | .str cs,.int i,st=>if 0<=i/\i<=1000000/\cs.length*i.toNat<=1000000 then .ok (.str (List.replicate i.toNat cs).flatten) st else .bad
 | _,_,_=>.bad
theorem zjq {X:Cx}:OpR X (binaryOp .Mult) (rM X mulSV):=by
 refine OpR.weak zmm ?_
 rintro x y H Q ⟨μ,st,dx,dy,hs,hx,hy,hp⟩
 unfold mulSV at hp
 split at hp
 ·rename_i cs i
  split at hp
  ·rename_i hc
   obtain rfl:=RepV.str_iff.mp hx
   obtain rfl:=RepV.int_iff.mp hy
   obtain⟨n,rfl⟩:=Int.eq_ofNat_of_zero_le hc.1
   rw[Int.toNat_natCast]at hc hp
   exact⟨cs,n,rfl,rfl,by omega,hc.2.2,hp.ret hs (RepV.str_iff.mpr rfl)⟩
  ·exact hp.elim
 ·exact hp.elim
section
variable {X:Cx}{a b c:Expr}{ma mb mc:ME}{pos:Pos}
end
end M
namespace M
open PySem PySem.Spec L2
section
variable {X:Cx}{pos:Pos}{x:Str}
theorem je_globV {d:D}{v:V}{u:Value}(hg:Gl X x)(hm:X.mg x=some u)(r:RelV v u)(hv:∀μ H,RepV X.K μ H d v)(hd:(x==("__debug__":Str))=false:=by decide):JE X (.Name x pos) (ct d):=by
 refine JE.of (pe_glob hg hm r hd) fun σ H Q zz=>?_
 obtain⟨μ,env,st,hE,hs,hp⟩:=zz
 exact hp.ret hs (hv μ H)
theorem zfy {y:Str}(cs:List Nat)(h:∃t,X.mg x=some (.str y t))(hy:y=strOf cs:=by rfl)(hg:Gl X x:=by rfl)(hd:(x==("__debug__":Str))=false:=by decide):JE X (.Name x pos) (ct (.str cs)):=by
 obtain⟨t,h⟩:=h
 exact je_globV (v:=.str y) hg h ⟨t,rfl⟩ (fun _ _=>RepV.str_iff.mpr (by rw[hy])) hd
end
end M
namespace M
open L2
section
variable (st:Stor)
theorem r_join (sep:List Nat)(n:Nat)(ts:List (List Nat))(h:itemsAt st n=some (ts.map D.str))(hl:(ts.map List.length).sum+ts.length*sep.length<=1000000):joinV (.str sep) [.loc n] st=.ok (.str (joinL sep ts)) st:=by
 have e:textsOf (ts.map D.str)=some ts:=by
  clear h hl
  induction ts with
  | nil=>rfl
  | cons t ts ih=>simp[textsOf,ih]
 simp only[joinV,h,Option.bind_some,e]
 rw[if_pos hl,joinM_eq]
end
end M
namespace M
open L2
theorem cut_neg1 {α:Type}(xs:List α):cut xs none (some (-1))=xs.dropLast:=by
 unfold cut
 rw[HT.zgs]
 have:HT.sIx xs.length xs.length (some (-1))=xs.length - 1:=by
  unfold HT.sIx
  dsimp only
  rw[if_pos (by omega)];omega
 rw[this]
 simp[List.dropLast_eq_take]
end M
namespace M
open L2
theorem zbx {g:MG}{b:MS}{gs:List (Nat×MO)}{items:List D}(I:Nat->MEnv->Stor->Prop){env:MEnv}{st:Stor}(h0:I 0 env st)
  (step:∀i d env st,items[i]? = some d->I i env st->okG gs st/\∃env1 st1,g d env st=.ok env1 st1/\∃env2 st2,(b env1 st1=.ok (.nx env2) st2\/b env1 st1=.ok (.cn env2) st2)/\I (i+1) env2 st2)
  (hend:∀env st,I items.length env st->okG gs st):∃env' st',forGo g b gs items env st=.ok (.nx env') st'/\I items.length env' st':=by
 refine forGo_all (fun pre env st=>I pre.length env st) h0 (fun pre d post env st e hI=>?_) hend
 have:=step pre.length d env st (by rw[e];simp) hI
 simpa using this
theorem zek {lo:Int}{n i:Nat}{d:D}(h:(upto lo n)[i]? = some d):i<n/\d=.int (lo+(i:Nat)):=by
 have h2:i<n:=by
  have:=(List.getElem?_eq_some_iff.mp h).1
  rwa[zef]at this
 unfold upto at h
 rw[List.getElem?_map,List.getElem?_range h2]at h
 exact⟨h2,(Option.some.inj h).symm⟩
end M
namespace M
open L2
theorem pickL (ds:List D)(i:Int)(st:Stor)(h0:0<=i)(h1:i<ds.length):∃d,d∈ds/\ixV (.loc st.length) (.int i) (st++[.lst ds])=.ok d (st++[.lst ds]):=by
 obtain⟨j,rfl⟩:=Int.eq_ofNat_of_zero_le h0
 have hj:j<ds.length:=by omega
 exact⟨ds[j],List.getElem_mem hj,zcf _ _ _ ds _ (by simp) (by rw[zc5];exact List.getElem?_eq_getElem hj)⟩
theorem sl_tl (row:List Nat)(st:Stor)(h:row.length<=1000000):slV (.str row) (some 1) none st=.ok (.str row.tail) st:=by
 rw[zdg st _ _ _ h]
 have:=zfr row 1
 rw[List.drop_one]at this
 exact congrArg (fun z=>R.ok (D.str z) st) this
theorem ix_hd (c:Nat)(t:List Nat)(st:Stor)(h:(c::t).length<=1000000):ixV (.str (c::t)) (.int 0) st=.ok (.str [c]) st:=zes st _ _ _ h (by have:=zc5 (c::t) 0;simpa using this)
end M
namespace M
open L2
end M
namespace M
open L2
noncomputable def rstripL (c:Nat)(cs:List Nat):List Nat:=(cs.reverse.dropWhile (fun x=>decide (x=c))).reverse
end M
namespace M
open L2
theorem zli (c k:Nat)(st:Stor)(h:k<=1000000):mulSV (.str [c]) (.int (k:Nat)) st=.ok (.str (List.replicate k c)) st:=by
 have e:∀k:Nat,(List.replicate k [c]).flatten=List.replicate k c:=fun k=>by
  induction k with
  | zero=>rfl
  | succ k ih=>rw[List.replicate_succ,List.replicate_succ,List.flatten_cons,ih];rfl
 unfold mulSV
 dsimp only
 rw[if_pos (by simp;omega),Int.toNat_natCast,e]
theorem rstripL_nil (c:Nat):rstripL c []=[]:=rfl
end M
namespace L2
open PySem PySem.Spec PyProof.Rows
section
variable {X:Cx}{a b:Expr}{rest:List Expr}{pos:Pos}{ta tb:TE}
end
end L2
namespace M
open PySem PySem.Spec L2
section
variable {X:Cx}{a b c:Expr}{ma mb mc:ME}{pos:Pos}{rest:List Expr}
end
end M
namespace L2
open PySem PySem.Spec PyProof.Rows PySem.Builtin PySem.Builtin.Str
end L2
namespace M
open PySem PySem.Spec L2
structure FunD (K:PySem.W.Frag)(x qual:Str)(st:Stmt)(f:Addr)(fd:FuncData):Prop where
 ex:∃(oc:Value) (od:Option Addr) (dV kV doc pm:Value) (an:Option Addr) (cdv ct:Value) (osl:Array (Option Value)),
  fd=PySem.W.fnOf x qual (defArgs st) (defBody st) (defScope st) dV kV doc pm an cdv ct/\K.lookup f=some ⟨oc,od,.func fd,osl⟩/\PySem.W.codeIn K cdv qual=true
 kp:PySem.W.keepIn K (.ref f)=true
section
variable {P:Program}{w:World}{K:PySem.W.Frag}{mg:Str->Option Value}{base:Heap}
end
section
variable {X:Cx}{e:Expr}{es:List Expr}{mA:MA}{pos p:Pos}{x:Str}{k:Nat}{f:Addr}{fd:FuncData}{ps:List Str}{F:FD}{i:Int}
end
end M
namespace M
open PySem PySem.Spec L2 PyProof.Rows
end M
namespace M
open L2
noncomputable def extendV:D->List D->Stor->R D
 | .loc n,[.loc m],st=>match st[n]?,st[m]? with
  | some (.lst a),some (.lst b)=>if a.length+b.length<=1000000 then .ok .non (st.set n (.lst (a++b))) else .bad
  | _,_=>.bad
 | _,_,_=>.bad
end M
namespace M
open PySem PySem.Spec L2
section
variable {X:Cx}
theorem ziu:MtR X "list.extend" (rMM X extendV):=by
 refine MtR.weak mt_extend ?_
 rintro x xs H Q ⟨μ,st,d,ds,hs,hx,hxs,hp⟩
 unfold extendV at hp
 split at hp
 ·rename_i n m
  split at hp
  ·rename_i a b e1 e2
   split at hp
   ·rename_i hl
    obtain⟨p,q1,rfl⟩:=RepV.loc_iff.mp hx
    obtain⟨v,rfl,q⟩:=RepVs.one hxs
    obtain⟨p2,q2,rfl⟩:=RepV.loc_iff.mp q
    obtain⟨p',ys,r1,r2,r3⟩:=hs.lst e1
    rw[q1]at r1;cases r1
    obtain⟨p2',zs,s1,s2,s3⟩:=hs.lst e2
    rw[q2]at s1;cases s1
    obtain⟨g,hs'⟩:=putLst hs e1 q1 r2 (r3.append s3)
    refine⟨p,p2,ys,zs,rfl,rfl,r2,s2,?_,hp _ _ μ g hs' (RepV.non_iff.mpr rfl)⟩
    rw[<-r3.length,<-s3.length];exact zg6 hl
   ·exact hp.elim
  ·exact hp.elim
 ·exact hp.elim
end
end M
namespace M
open PySem PySem.Spec L2
section
variable {X:Cx}{pos p:Pos}{x:Str}{k:Nat}{f:Addr}{fd:FuncData}{F:FD}
end
end M
namespace L2
open PySem PySem.Spec PyProof.Rows
section
variable {P:Program}{w:World}{H H':Hp}{h h':Heap}{L:List (Addr×Obj)}
end
section
variable {X:Cx}{k:Nat}{f:Addr}{fd:FuncData}{ps:List Str}{sp:Sp}{dvs:List V}{ds:List Value}{pins:List (Addr×Obj)}{σ:St}{H:Hp}{s:Shared}{Q:VK}{us:List Value}{vs:List V}
end
end L2
namespace L2
open PySem PySem.Spec PyProof.Rows
noncomputable def BMain (mg:Str->Option Value)(base:Heap):Prop :=
 ∃bm o,mg "__builtins__" = some (.ref bm)/\bm≠builtinsNs/\bm≠mainGlobals/\base.get? bm=some o/\o.cls=.type "module"/\o.dict=some builtinsNs/\o.data=.plain
noncomputable def TabP (H:Hp)(P:Addr)(q:Str):Prop:=∃ps:Array Value,H P=some (.tbl ps)/\TriplesOk ps.toList/\∀pos cv,codeAmong pos ps.toList=some cv->∃c',cv=.ref c'/\M.CodeF H c' q
structure LamNew (H H':Hp)(P f c':Addr)(q:Str)(ob:Obj):Prop where
 new:H' f=some (.frz ob (.own 0))
 nf:H f=none
 code:M.CodeF H' c' q
 tab:TabP H' P q
 same:∀b u,b≠P->H b=some u->H' b=some u
section
variable {X:Cx}{P c:Addr}{q:Str}{params:Arguments}{body:Expr}{scope:Scope}{clos:List (Str×Addr)}{pos:Pos}
end
end L2
namespace L2
open PySem PySem.Spec PyProof.Rows
structure LamScope (cn ps:List Str)(sc:Scope):Prop where
 kind:sc.kind=.function
 co:sc.isCoroutine=false
 gen:sc.isGenerator=false
 nd:(cn++ps).Nodup
 free:∀y∈sc.names,y.2=.free->y.1∈cn
 nocell:∀y∈sc.names,y.2≠.cell
 isfree:∀x∈cn,sc.names.lookup x=some .free
 par:∀x∈ps,sc.names.lookup x=some .local
noncomputable def lamCx (P:Program)(w:World)(K:PySem.W.Frag)(mg:Str->Option Value)(base:Heap)(N:List Str)(qual:Str)(scope:Scope)(f:Addr)(cd:Value)(cl:List (Str×Addr))(A:Around)(outer:List Env)(s:Shared)(H:Hp):Cx where
 prog:=P
 w:=w
 K:=K
 mg:=mg
 base:=base
 A:=A.deeper (PySem.W.envX qual scope s.heap.objs.size f cd cl)
 N:=N
 s₀:=s
 H₀:=H
 env:=PySem.W.envX qual scope s.heap.objs.size f cd cl
 outer:=outer
 stack:=PySem.W.envX qual scope s.heap.objs.size f cd cl::outer
 ex:=[]
 calm:=true
 fn:=fun _=>false
 pn:=[]
 xe:=fun _ _=>False
section
variable {P:Program}{w:World}{K:PySem.W.Frag}{mg:Str->Option Value}{base:Heap}{A:Around}{outer:List Env}{s:Shared}{H:Hp}{qual:Str}{params:Arguments}{body:Expr}{scope:Scope}{cl:List (Str×Addr)}{pm ctv:Value}{c' f:Addr}{k:Nat}
 {cn ps:List Str} {us:List Value} {vs vs0:List V} {Q:VK} {t:TE}
end
end L2
namespace M
open PySem PySem.Spec L2
mutual
theorem RepV.tupMono {K:PySem.W.Frag}{μ:List Addr}{H H':Hp}(e:∀b xs,H b=some (.tup xs)->H' b=some (.tup xs)):∀(d:D) {v:V},RepV K μ H d v->RepV K μ H' d v
 | .non,_,h=>by simpa[RepV] using h
 | .bl _,_,h=>by simpa[RepV] using h
 | .int _,_,h=>by simpa[RepV] using h
 | .str _,_,h=>by simpa[RepV] using h
 | .tup ds,_,h=>by
  rw[RepV]at h ⊢
  obtain⟨a,xs,rfl,h1,h2⟩:=h
  exact⟨a,xs,rfl,h1.elim (fun z=>.inl (e _ _ z)) .inr,RepVs.tupMono e ds h2⟩
 | .loc n,_,h=>by
  rw[RepV]at h ⊢
  exact h
theorem RepVs.tupMono {K:PySem.W.Frag}{μ:List Addr}{H H':Hp}(e:∀b xs,H b=some (.tup xs)->H' b=some (.tup xs)):∀(ds:List D) {vs:List V},RepVs K μ H ds vs->RepVs K μ H' ds vs
 | [],_,h=>by simpa[RepVs] using h
 | d::ds,_,h=>by
  rw[RepVs]at h ⊢
  obtain⟨v,r,rfl,h1,h2⟩:=h
  exact⟨v,r,rfl,RepV.tupMono e d h1,RepVs.tupMono e ds h2⟩
end
noncomputable def MO.isClo:MO->Bool
 | .clo _ _ _=>true
 | _=>false
structure LamOk (P:Program)(w:World)(K:PySem.W.Frag)(mg:Str->Option Value)(base:Heap)(k:Nat)(l:LamS)(ps:List Str)(m:ME):Prop where
 sc:LamScope l.caps ps l.scope
 bind:∀cl pm c' ctv (us:List Value),us.length=ps.length->bindArgs (PySem.W.kla_fn "<lambda>" l.qual l.params l.body l.scope cl pm (.ref c') ctv) ⟨us,[]⟩=pure (ps.zip us)
 body:∀(f:Addr) (cd:Value) (cl:List (Str×Addr)) (A:Around) (outer:List Env) (s:Shared) (H:Hp),Room k (A.deeper (PySem.W.envX l.qual l.scope s.heap.objs.size f cd cl)) ->
  JE (lamCx P w K mg base (l.caps++ps) l.qual l.scope f cd cl A outer s H) l.body m
end M
namespace M
open PySem PySem.Spec L2
section
variable {X:Cx}{e:Expr}{es:List Expr}{mA:MA}{pos p:Pos}{x:Str}{k:Nat}{Λ:Nat->LamS}{G:Nat->FD}
end
end M
namespace M
open PySem PySem.Spec L2
inductive LA where
 | v (d:D) | l (j:Nat) (cap:List Nat)
noncomputable abbrev ML:=MEnv->Stor->R (List LA)
structure LamAtX (X:Cx)(l:LamS)(cap:List Nat):Prop where
 nd:l.caps.Nodup
 cell:∀x∈l.caps,X.env.kindOf x=some .cell
 ix:cap.map (fun i=>X.N[i]?)=l.caps.map some
section
variable {X:Cx}{Λ:Nat->LamS}{μ μ':List Addr}{H H':Hp}
end
section
variable {X:Cx}{Λ:Nat->LamS}{μ:List Addr}{H H':Hp}{st:Stor}{e:Expr}{es:List Expr}{ma:ME}{m:ML}
end
section
variable {X:Cx}{Λ:Nat->LamS}{H:Hp}{env:MEnv}
end
section
variable {X:Cx}{Λ:Nat->LamS}{e:Expr}{es:List Expr}{m:ML}{pos p:Pos}{x:Str}{k:Nat}{f:Addr}{fd:FuncData}{ps:List Str}{F:FD}{dvs:List V}{ds:List Value}{dd:List D}
end
end M
namespace M
open PySem PySem.Spec L2 PyProof.Rows
structure TabK (K:PySem.W.Frag)(x:Str)(P:Addr):Prop where
 code:∃(fa:Addr) (o:Obj) (fd:FuncData) (c:Addr),PySem.W.nsIn K mainGlobals x=some (some (.ref fa))/\K.lookup fa=some o/\o.data=.func fd/\fd.code=.ref c/\PySem.W.codeHdIn K c P=true
 out:K.lookup P=none
theorem law_callT {P:Program}{w:World}{K:PySem.W.Frag}{mg mb:Str->Option Value}{k:Nat}{fa a:Addr}{fd:FuncData}{x:Str}{sp:Sp}{s₁:Shared}{vs:List Value}{ns:List Int}{ts:List (Str×Addr)}
  (KX:K.In s₁.heap) (hns:s₁.heap.Ns mainGlobals mg) (hb:s₁.heap.Ns builtinsNs mb) (hbb:∀x:Str,x ≠ "__name__"->mb x=bootBuiltins x) (hlim:s₁.heap.NoLimit) (hg:s₁.gens=#[])
  (hbm:∃bm ob,mg "__builtins__" = some (.ref bm)/\bm≠builtinsNs/\s₁.heap.get? bm=some ob/\ob.cls=.type "module"/\ob.dict=some builtinsNs/\ob.data=.plain)
  (ht:∀p∈ts,s₁.heap.get? p.2=some (PySem.W.tabObj #[])) (hk:∀p∈ts,TabK K p.1 p.2)
  (ha:s₁.heap.get? a=some { cls:=.type "list",data:=.seq vs.toArray }) (hi:IntsAre vs ns) (hl:ns.length<=sizeLine) (hr:Room k callerA)
  (F:∀base:Heap,K.In base->base.Ns mainGlobals mg->BMain mg base->FnOk P w K mg base CX0 k fa fd [x] sp) (hbind:∀(s:Shared) (u:Value),BindsTo s fd ⟨[u],[]⟩ [(x,u)])
  (hsp:∀H:Hp,FrzL K H a (ns.map V.int)->(∀p∈ts,H p.2=some (.tbl #[]))->sp [.ref a] H (fun v _=>v=.bl true) fun _ _ _=>False) :
  codeAny (model P w) callerA (.call (.ref fa) ⟨[.ref a],[]⟩) (fun r s'=>r=.ok (.ret (.bool true))/\OldK s₁.heap s'.heap/\s'.os=s₁.os/\AllBare s'.gens) s₁:=by
 have rv:=zh9 hi
 have lenV:=hi.length
 have core:∀H:Hp,FrzL K H a (ns.map V.int)->(∀p∈ts,H p.2=some (.tbl #[]))->HOk P w H s₁.heap->(∀b u,H b=some u->(b=a/\K.lookup a=none/\∃o xs,u=.frz o (.lst xs))\/(∃p∈ts,b=p.2/\u=.tbl #[])) ->
   codeAny (model P w) callerA (.call (.ref fa) ⟨[.ref a],[]⟩) (fun r s'=>r=.ok (.ret (.bool true))/\OldK s₁.heap s'.heap/\s'.os=s₁.os/\AllBare s'.gens) s₁:=by
  intro H hS hT hok hA
  have base_of:∀{b:Addr} {o:Obj},s₁.heap.get? b=some o->H b=none->(hidT s₁.heap H).get? b=some o:=fun e n=>zlk e n
  have noH:∀{b:Addr} {o:Obj},s₁.heap.get? b=some o->o.cls≠.type "list"->(∀vs,o.data≠.fields vs)->H b=none:=fun {b o} e d1 d2=>by
   cases q:H b with
   | none=>rfl
   | some u =>
    rcases hA b u q with⟨rfl,_⟩ | ⟨p,hp,rfl,_⟩
    ·rw[ha]at e;cases e;exact absurd rfl d1
    ·rw[ht p hp]at e;cases e;exact absurd rfl (d2 _)
  have noA:∀{b:Addr} {o:Obj} {es:Array DictEntry} {ep:Nat},s₁.heap.get? b=some o->o.data=.dict es ep->H b=none:=fun {b o es ep} e d=>by
   cases q:H b with
   | none=>rfl
   | some u =>
    rcases hA b u q with⟨rfl,_⟩ | ⟨p,hp,rfl,_⟩
    ·rw[ha]at e;cases e
     have d':Data.seq vs.toArray _=Data.dict es ep:=d
     cases d'
    ·rw[ht p hp]at e;cases e
     have d':Data.fields #[]=Data.dict es ep:=d
     cases d'
  have nsK:∀{b:Addr} {m:Str->Option Value},s₁.heap.Ns b m->(hidT s₁.heap H).Ns b m:=fun {b m} ⟨o,es,ep,e,d,r⟩=>⟨o,es,ep,base_of e (noA e d),d,r⟩
  have hKb:K.In (hidT s₁.heap H):=fun b o e=>base_of (KX b o e) (by
   cases q:H b with
   | none=>rfl
   | some u =>
    rcases hA b u q with⟨rfl,z,_⟩ | ⟨p,hp,rfl,_⟩
    ·rw[z]at e;cases e
    ·rw[(hk p hp).out]at e;cases e)
  have hM:Mod K mg (hidT s₁.heap H):=⟨hKb,nsK hns,⟨mb,nsK hb,hbb⟩,let ⟨mc,h1,h2⟩:=hlim;⟨mc,nsK h1,h2⟩⟩
  have e0:Env0 P w K mg (hidT s₁.heap H) callerA [] s₁ H:=⟨rfl,hM,fun b o e=>of_hidT e,Nat.le_of_eq (zkg _ _),trivial,fun b hb=>absurd (show b∈([]:List Addr) from hb) (by simp),hok,.of_eq hg⟩
  have hBM:BMain mg (hidT s₁.heap H):=by
   obtain⟨bm,ob,b1,b2,b3,b4,b5,b6⟩:=hbm
   refine⟨bm,ob,b1,b2,fun z=>?_,base_of b3 (noH b3 (by rw[b4];simp) fun vs z=>by rw[b6]at z;cases z),b4,b5,b6⟩
   obtain⟨o,es,ep,e,d,_⟩:=hns
   rw[<-z,b3]at e;cases e
   rw[b6]at d;cases d
  refine codeAny_mono ((F _ hKb (nsK hns) hBM).run callerA [] s₁ H ⟨[.ref a],[]⟩ [.ref a] [.ref a] _ _ hr e0 (hbind s₁ (.ref a)) (.cons rfl .nil) (hsp H hS hT)) fun r s' h=>?_
  cases r with
  | error e=>exact False.elim h
  | ok fl =>
   cases fl with
   | next=>exact False.elim h
   | brk=>exact False.elim h
   | cont=>exact False.elim h
   | ret u =>
    obtain⟨v,H',os,bare,un,hok',r',q⟩:=h
    have q':v=.bl true:=q
    subst q'
    obtain rfl:u=Value.bool true:=r'
    refine⟨rfl,⟨fun b o e=>?_,fun b o e=>un.there b o e (by simp)⟩,os,bare⟩
    cases q:H b with
    | none=>exact .inl (un.keep b o e q (by intro z;exact absurd (show b∈([]:List Addr) from z) (by simp)) (by simp))
    | some u =>
     rcases hA b u q with⟨rfl,_,ob,xs,rfl⟩ | ⟨p,hp,rfl,rfl⟩
     ·have z2:=un.frzs _ ob _ q
      obtain⟨e1,_⟩:=hok _ _ q
      obtain⟨e2,_⟩:=hok' _ _ z2
      rw[e]at e1;cases e1
      exact .inl e2
     ·obtain⟨more,z2⟩:=un.tbls p.2 #[] q
      have e2:s'.heap.get? p.2=some (PySem.W.tabObj (#[]++more)):=hok' _ _ z2
      obtain⟨_,_,_,c,_,_,_,_,hcd⟩:=(hk p hp).code
      have hTA:=(PySem.W.codeHd_of_K KX hcd).tab (ht p hp)
      rw[ht p hp]at e;cases e
      exact .inr (.inl ⟨hTA.isCodeTable,rfl,#[],more,rfl,e2⟩)
 have nt:∀p∈ts,p.2≠a:=fun p hp z=>by
  have:=ht p hp
  rw[z,ha]at this;cases this
 cases hka:K.lookup a with
 | some o =>
  have e:=KX a o hka
  rw[ha]at e
  cases e
  let H:Hp:=fun b=>if (ts.map (·.2)).contains b=true then some (.tbl #[]) else none
  have hin:∀p∈ts,H p.2=some (.tbl #[]):=fun p hp=>if_pos (by simp;exact⟨p.1,hp⟩)
  refine core H (.inr ⟨_,vs.toArray,_,hka,rfl,rfl,rfl,by rw[List.size_toArray,lenV];exact hl,by simpa using rv⟩) hin (fun b u z=>?_) fun b u z=>?_
  ·by_cases hb:(ts.map (·.2)).contains b=true
   ·have z:(if (ts.map (·.2)).contains b=true then some (HO.tbl #[]) else none)=some u:=z
    rw[if_pos hb]at z;cases z
    obtain⟨p,hp,rfl⟩:=List.mem_map.mp (List.contains_iff_mem.mp hb)
    exact ht p hp
   ·have z:(if (ts.map (·.2)).contains b=true then some (HO.tbl #[]) else none)=some u:=z
    rw[if_neg hb]at z;cases z
  ·by_cases hb:(ts.map (·.2)).contains b=true
   ·have z:(if (ts.map (·.2)).contains b=true then some (HO.tbl #[]) else none)=some u:=z
    rw[if_pos hb]at z;cases z
    obtain⟨p,hp,rfl⟩:=List.mem_map.mp (List.contains_iff_mem.mp hb)
    exact .inr ⟨p,hp,rfl,rfl⟩
   ·have z:(if (ts.map (·.2)).contains b=true then some (HO.tbl #[]) else none)=some u:=z
    rw[if_neg hb]at z;cases z
 | none =>
  let H:Hp:=fun b=>if b=a then some (.frz { cls:=.type "list",data:=.seq vs.toArray } (.lst (ns.map V.int))) else if (ts.map (·.2)).contains b=true then some (.tbl #[]) else none
  have hin:∀p∈ts,H p.2=some (.tbl #[]):=fun p hp=>(if_neg (nt p hp)).trans (if_pos (by simp;exact⟨p.1,hp⟩))
  have hat:H a=some (.frz { cls:=.type "list",data:=.seq vs.toArray } (.lst (ns.map V.int))):=if_pos rfl
  have hcase:∀b u,H b=some u->(b=a/\u=.frz { cls:=.type "list",data:=.seq vs.toArray } (.lst (ns.map V.int)))\/∃p∈ts,b=p.2/\u=.tbl #[]:=fun b u z=>by
   by_cases hba:b=a
   ·subst hba
    rw[hat]at z;cases z
    exact .inl ⟨rfl,rfl⟩
   ·have z:(if b=a then some (HO.frz { cls:=.type "list",data:=.seq vs.toArray } (.lst (ns.map V.int))) else if (ts.map (·.2)).contains b=true then some (HO.tbl #[]) else none)=some u:=z
    rw[if_neg hba]at z
    by_cases hb:(ts.map (·.2)).contains b=true
    ·rw[if_pos hb]at z;cases z
     obtain⟨p,hp,rfl⟩:=List.mem_map.mp (List.contains_iff_mem.mp hb)
     exact .inr ⟨p,hp,rfl,rfl⟩
    ·rw[if_neg hb]at z;cases z
  refine core H (.inl ⟨_,hat⟩) hin (fun b u z=>?_) fun b u z=>?_
  ·rcases hcase b u z with⟨rfl,rfl⟩ | ⟨p,hp,rfl,rfl⟩
   ·exact⟨ha,by rw[List.length_map];exact hl,vs,_,rv,ha⟩
   ·exact ht p hp
  ·rcases hcase b u z with⟨rfl,rfl⟩ | h
   ·exact .inl ⟨rfl,hka,_,_,rfl⟩
   ·exact .inr h
theorem zkv {K:PySem.W.Frag}{H:Hp}{a:Addr}{ns:List Int}{ts:List (Str×Addr)}(hnd:(ts.map (·.2)).Nodup)(hS:FrzL K H a (ns.map V.int))(hT:∀p∈ts,H p.2=some (.tbl #[]))(hk:∀p∈ts,TabK K p.1 p.2) :
  RepS K (a::ts.map (·.2)) H (.frz (ns.map D.int)::ts.map fun p=>.tab p.1):=by
 have hv:∀(μ:List Addr) (l:List Int),RepVs K μ H (l.map D.int) (l.map V.int):=fun μ l=>by
  induction l with
  | nil=>exact RepVs.nil
  | cons i l ih=>exact RepVs.cons (RepV.int_iff.mpr rfl) ih
 refine⟨by simp,fun n o e=>?_,fun i j b oi oj ei ej mi mj hi hj=>?_⟩
 ·match n,e with
  | 0,e =>
   simp at e;subst e
   exact⟨a,rfl,_,hS,hv _ ns⟩
  | n+1,e =>
   rw[List.getElem?_cons_succ,List.getElem?_map]at e
   cases q:ts[n]? with
   | none=>rw[q]at e;cases e
   | some p =>
    rw[q]at e;cases e
    have hp:=List.mem_of_getElem? q
    refine⟨p.2,by rw[List.getElem?_cons_succ,List.getElem?_map,q];rfl,(hk p hp).code,#[],hT p hp,trivial,fun pos cv z=>by cases z⟩
 ·match i,j,ei,ej,hi,hj with
  | 0,_,ei,_,_,_=>simp at ei;subst ei;cases mi
  | _+1,0,_,ej,_,_=>simp at ej;subst ej;cases mj
  | i+1,j+1,_,_,hi,hj =>
   rw[List.getElem?_cons_succ]at hi hj
   have h1:=(List.getElem?_eq_some_iff.mp hi).1
   rw[(List.getElem?_inj h1 hnd).mp (hi.trans hj.symm)]
theorem holds_ofT (ts:List (Str×Addr)){l:PySem.W.OpenLaw}{k:Nat}{q:Program}{loose:List Str}{XP:(Str->Option Value)->Heap->Prop}{YP:World->Heap->Prop}{d:DefRec}{K:Params->PySem.W.Frag}{F:FD}{x:Str}
  (hn:l.most=some 63) (hdf:d.params.defaults=[]) (hr:Room k callerA) (hnd:(ts.map (·.2)).Nodup)
  (hY:∀(w:World) (h:Heap),YP w h->(K w.params).In h/\∀P∈ts.map (·.2),h.get? P=some (PySem.W.tabObj #[]))
  (G:∀(w:World) (mg:Str->Option Value) (fa:Addr) (h:Heap),(K w.params).In h->h.Ns mainGlobals mg->mg d.name=some (.ref fa) ->
   ∃fd:FuncData,(∀(s:Shared) (u:Value),BindsTo s fd ⟨[u],[]⟩ [(x,u)])/\(∀p∈ts,TabK (K w.params) p.1 p.2)/\∀base:Heap,(K w.params).In base->base.Ns mainGlobals mg->BMain mg base->FnOk l.prog w (K w.params) mg base CX0 k fa fd [x] (spM (K w.params) 1 F))
  (hF:∀ns:List Int,ns.length<=63->∃st,F [.loc 0] (.frz (ns.map D.int)::ts.map fun p=>.tab p.1)=.ok (.bl true) st) :
  PySem.W.WalkO q loose XP YP l.row.toRowW d [] (fun f vs=>PySem.call f vs):=by
 refine Att.zhj hn hdf fun w s₀ s₁ mg mb fa o pm cd doc a vs ns G0 Y ho hd hcd hmg hobj hints hlen hg=>?_
 obtain⟨KX,hT⟩:=hY w _ Y
 obtain⟨fd,hb,hk,hF'⟩:=G w mg fa _ KX G0.T.g hmg
 refine law_callT (ts:=ts) KX G0.T.g G0.T.b G0.T.builtins G0.T.nolimit hg G0.T.bmain (fun p hp=>hT p.2 (List.mem_map.mpr ⟨p,hp,rfl⟩)) hk hobj hints (Nat.le_trans hlen (by decide)) hr hF' hb fun H hS hTb=>?_
 obtain⟨st,e⟩:=hF ns hlen
 refine⟨rfl,a::ts.map (·.2),[.loc 0],_,RepVs.cons (RepV.loc_iff.mpr ⟨a,rfl,rfl⟩) RepVs.nil,zkv hnd hS hTb hk,?_⟩
 rw[e]
 exact fun v H' μ' _ _ hv=>RepV.bl_iff.mp hv
structure FunT (K:PySem.W.Frag)(x:Str)(st:Stmt)(f:Addr)(fd:FuncData):Prop where
 ex:∃(oc:Value) (od:Option Addr) (dV kV doc pm:Value) (an:Option Addr) (c:Addr) (ct:Value) (osl:Array (Option Value)),
  fd=PySem.W.fnOf x x (defArgs st) (defBody st) (defScope st) dV kV doc pm an (.ref c) ct/\K.lookup f=some ⟨oc,od,.func fd,osl⟩/\PySem.W.codeIn K (.ref c) x=true
 ns:PySem.W.nsIn K mainGlobals x=some (some (.ref f))
 kp:PySem.W.keepIn K (.ref f)=true
end M
namespace M
open PySem PySem.Spec L2
end M
namespace M
open L2
@[simp] theorem isClo_lst (l:List D):(MO.lst l).isClo=false:=rfl
@[simp] theorem isClo_frz (l:List D):(MO.frz l).isClo=false:=rfl
@[simp] theorem isClo_tab (x:PySem.Str):(MO.tab x).isClo=false:=rfl
@[simp] theorem isClo_dic (l:List (List Key×D)):(MO.dic l).isClo=false:=rfl
@[simp] theorem isClo_dkc (l:List (Key×D)):(MO.dkc l).isClo=false:=rfl
@[simp] theorem isClo_dkf (l:List (Key×D)):(MO.dkf l).isClo=false:=rfl
@[simp] theorem isClo_exc (c:String) (d:D):(MO.exc c d).isClo=false:=rfl
@[simp] theorem isClo_dtf (l:List (List Key×D)):(MO.dtf l).isClo=false:=rfl
end M
namespace M
open PySem PySem.Spec L2
section
variable {X:Cx}{elt tg iter c:Expr}{ifs:List Expr}{scope:Scope}{pos:Pos}{N:List Str}{capt:List (Option Nat)}{mi:MI}{g:MG}{t:MT}{me:ME}
end
end M
namespace L2
open PySem PySem.Spec PyProof.Rows
end L2
namespace M
open PySem PySem.Spec L2
section
variable {X:Cx}{a:Expr}{mA:MA}{μ:List Addr}{H:Hp}{p pos tpos:Pos}
end
end M
namespace M
open PySem PySem.Spec PySem.SeqAt L2
section
variable {X:Cx}{pos:Pos}{x:Str}{L:Nat}
noncomputable def inLV (L:Nat)(neg:Bool):D->D->Stor->R D
 | d,.loc n,st=>match itemsAt st n with
  | some ds=>if flat d=true/\flats ds=true/\(ds.all fun e=>decide (cdep e d<L))=true then .ok (.bl (if neg then !(ds.any fun e=>eqD e d) else ds.any fun e=>eqD e d)) st else .bad
  | none=>.bad
 | _,_,_=>.bad
theorem relV_inj {a b:V}{w:Value}(h:RelV a w)(k:RelV b w):a=b:=by
 cases a<;>cases b<;>simp only[RelV]at h k<;>first
  | rfl
  | (subst h;cases k;done)
  | (subst h;injection k with k;subst k;rfl)
  | (obtain⟨_,rfl⟩:=h;cases k;done)
  | (obtain⟨_,rfl⟩:=k;cases h;done)
  | (obtain⟨_,rfl⟩:=h;obtain⟨_,k⟩:=k;injection k with k;subst k;rfl)
  | (obtain⟨_,rfl⟩:=h;obtain⟨_,k⟩:=k;cases k;done)
open Classical in
theorem inL_core (hu:X.A.units+L<cLine){pins:List (Addr×Obj)}{s:Shared}{σ:L2.St}{H:Hp}{x y:V}{v u:Value}{Q:VK}{neg:Bool}(I:Inv X pins σ H s)(rx:RelV x v)(ry:RelV y u)(h:rM X (inLV L neg) x y H Q) :
  ∃(p:Addr) (its:List Value) (f:Value->Bool),u=.ref p/\s.heap.IsList p its.toArray/\(∀w∈its,EqAt X.A.in1 s w v (f w))/\Q (.bl (if neg then !its.any f else its.any f)) H:=by
 obtain⟨μ,st,dx,dy,hs,hx,hy,hp⟩:=h
 unfold inLV at hp
 split at hp
 ·rename_i n
  split at hp
  ·rename_i ds e
   split at hp
   ·rename_i c
    obtain⟨c1,c2,c3⟩:=c
    obtain⟨p,q1,rfl⟩:=RepV.loc_iff.mp hy
    obtain⟨p',xs,r1,r2,r3⟩:=hs.items e
    rw[q1]at r1;cases r1
    obtain rfl:u=Value.ref p:=ry
    obtain⟨its,ra,pl,_⟩:=I.list r2
    let f:Value->Bool:=fun w=>decide (∃d z,flat d=true/\RepV X.K μ H d z/\RelV z w/\eqD d dx=true)
    have key:∀(ds:List D) (xs:List V) (its:List Value),RepVs X.K μ H ds xs->Vals xs its->flats ds=true->(ds.all fun e=>decide (cdep e dx<L))=true ->
      (∀w∈its,EqAt X.A.in1 s w v (f w))/\its.any f=ds.any fun e=>eqD e dx:=by
     intro ds
     induction ds with
     | nil =>
      intro xs its h1 h2 _ _
      rw[RepVs]at h1;subst h1
      cases h2
      exact⟨fun w hw=>(nomatch hw),rfl⟩
     | cons d ds ih =>
      intro xs its h1 h2 h3 h4
      rw[RepVs]at h1
      obtain⟨z,r,rfl,g1,g2⟩:=h1
      cases h2 with
      | cons rz rr =>
       rw[zd5,Bool.and_eq_true]at h3
       rw[List.all_cons,Bool.and_eq_true]at h4
       obtain⟨i1,i2⟩:=ih _ _ g2 rr h3.2 h4.2
       have fe:∀{w:Value},RelV z w->f w=eqD d dx:=fun {w} hw=>by
        cases q:eqD d dx with
        | true=>exact decide_eq_true ⟨d,z,h3.1,g1,hw,q⟩
        | false =>
         refine decide_eq_false ?_
         rintro ⟨d',z',k1,k2,k3,k4⟩
         have ez:z'=z:=relV_inj k3 hw
         subst ez
         rw[zjh I d' d k1 h3.1 k2 g1]at k4
         rw[k4]at q;cases q
       refine⟨fun w hw=>?_,?_⟩
       ·rcases List.mem_cons.mp hw with rfl | hw
        ·rw[fe rz]
         exact (eq_at I d dx h3.1 c1 (by have:=of_decide_eq_true h4.1;show X.A.units+1+_<_;omega) g1 hx rz rx).1
        ·exact i1 w hw
       ·rw[List.any_cons,List.any_cons,fe rz,i2]
    obtain⟨k1,k2⟩:=key ds xs its r3 ra c2 c3
    refine⟨p,its,f,rfl,pl.isList,k1,?_⟩
    rw[k2]
    exact hp.ret hs (RepV.bl_iff.mpr rfl)
   ·exact hp.elim
  ·exact hp.elim
 ·exact hp.elim
theorem zl4 (hu:X.A.units+L<cLine):OpR X (compareOp .NotIn) (rM X (inLV L true)):=by
 intro pins s σ H x y v u Q I rx ry h
 obtain⟨p,its,f,rfl,pl,k1,q⟩:=inL_core hu I rx ry h
 refine SeqAt.notIn_listAt f pl (fun w hw=>k1 w (by simpa using hw)) ⟨.bl _,H,I,rfl,?_⟩
 rw[show its.toArray.any f=its.any f by simp]
 exact q
end
end M
namespace M
open PySem PySem.Spec L2
section
variable {prog:Program}{w:World}{A:Around}{E:Value->Shared->Prop}{s:Shared}
end
section
variable {X:Cx}{es:List Expr}{pos:Pos}
end
end M
namespace M
open L2
end M
namespace M
open PySem PySem.Spec L2
section
variable {X:Cx}
end
end M
namespace M
open L2
noncomputable def putN (kvs:List (Key×D))(k:Key)(d:D):List (Key×D) :=
 if (kvs.any fun kv=>decide (kv.1=k))=true then kvs.map (fun kv=>if kv.1=k then (kv.1,d) else kv) else kvs++[(k,d)]
noncomputable def dkE:ME:=fun _ st=>.ok (.loc st.length) (st++[.dkc []])
noncomputable def setK:D->D->D->Stor->R Unit
 | .loc n,k,d,st=>match st[n]?,keyOf k with
  | some (.dkc kvs),some kk=>if kvs.length<1000000 then .ok () (st.set n (.dkc (putN kvs kk d))) else .bad
  | _,_=>.bad
 | _,_,_,_=>.bad
end M
namespace M
open PySem PySem.Spec L2
section
variable {X:Cx}{K:PySem.W.Frag}{μ:List Addr}{H:Hp}
theorem RepKV.anyN {k:Key}:∀{kvs:List (Key×D)} {ws:List (Key×V)},RepKV K μ H kvs ws->(kvs.any fun kv=>decide (kv.1=k))=(ws.any fun kv=>decide (kv.1=k))
 | [],ws,h=>by rw[RepKV]at h;rw[h];rfl
 | (j,d)::r,ws,h=>by
  obtain⟨v,r',rfl,h1,h2⟩:=h
  rw[List.any_cons,List.any_cons,RepKV.anyN h2]
theorem RepKV.replN {k:Key}{d:D}{v:V}(hv:RepV K μ H d v):∀{kvs:List (Key×D)} {ws:List (Key×V)},RepKV K μ H kvs ws->RepKV K μ H (kvs.map fun kv=>if kv.1=k then (kv.1,d) else kv) (ws.map fun kv=>if kv.1=k then (kv.1,v) else kv)
 | [],ws,h=>by rw[RepKV]at h;subst h;exact rfl
 | (j,d')::r,ws,h=>by
  obtain⟨v',r',rfl,h1,h2⟩:=h
  rw[List.map_cons,List.map_cons]
  by_cases e:j=k
  ·rw[if_pos e,if_pos e];exact⟨v,_,rfl,hv,RepKV.replN hv h2⟩
  ·rw[if_neg e,if_neg e];exact⟨v',_,rfl,h1,RepKV.replN hv h2⟩
theorem RepKV.snocN {k:Key}{d:D}{v:V}:∀{kvs:List (Key×D)} {ws:List (Key×V)},RepKV K μ H kvs ws->RepV K μ H d v->RepKV K μ H (kvs++[(k,d)]) (ws++[(k,v)])
 | [],ws,h,hv=>by rw[RepKV]at h;subst h;exact⟨v,[],rfl,hv,rfl⟩
 | (j,d')::r,ws,h,hv=>by
  obtain⟨v',r',rfl,h1,h2⟩:=h
  exact⟨v',r'++[(k,v)],rfl,h1,RepKV.snocN h2 hv⟩
theorem RepKV.putN {k:Key}{d:D}{v:V}{kvs:List (Key×D)}{ws:List (Key×V)}(h:RepKV K μ H kvs ws)(hv:RepV K μ H d v):RepKV K μ H (M.putN kvs k d) (putK ws k v):=by
 unfold M.putN putK
 rw[h.anyN]
 split
 ·exact RepKV.replN hv h
 ·exact h.snocN hv
theorem RepS.dkc {st:Stor}{n:Nat}{kvs:List (Key×D)}(h:RepS K μ H st)(e:st[n]? = some (.dkc kvs)):∃p ws,μ[n]? = some p/\H p=some (.dK ws)/\RepKV K μ H kvs ws:=by
 obtain⟨p,h1,xs,h2,h3⟩:=h.at_ n _ e
 exact⟨p,xs,h1,h2,h3⟩
theorem RepV.key {d:D}{v:V}{k:Key}(h:RepV K μ H d v)(e:keyOf d=some k):v=kV k:=by
 cases d with
 | int i=>rw[RepV.int_iff]at h;cases e;exact h
 | str cs=>rw[RepV.str_iff]at h;cases e;exact h
 | _=>cases e
end
section
variable {X:Cx}{a b o i:Expr}{ma mb:ME}{pos:Pos}
theorem je_dictK:JE X (.Dict [] [] pos) dkE:=by
 refine JE.of pe_dnewK fun σ H Q zz=>?_
 obtain⟨μ,env,st,hE,hs,hp⟩:=zz
 refine fun p hn=>?_
 have hr:RepO X.K (μ++[p]) (upd H p (.dK [])) p (.dkc []):=⟨[],zbd,rfl⟩
 exact hp _ _ (μ++[p]) (Grow.new hn) (hs.new hn hr) (RepV.loc_iff.mpr ⟨p,by rw[<-hs.len];simp,rfl⟩)
theorem set_K (hu:X.A.units+1<cLine):PSet X (rMSet X setK):=by
 rintro pins s σ H o i v ov iv u Q I ro ri rv ⟨μ,st,d1,d2,d3,hs,h1,h2,h3,hp⟩
 unfold setK at hp
 split at hp
 ·rename_i n k d
  split at hp
  ·rename_i kvs kk e1 e2
   split at hp
   ·rename_i hl
    obtain⟨p,q1,rfl⟩:=RepV.loc_iff.mp h1
    obtain rfl:=h2.key e2
    obtain⟨p',ws,r1,r2,r3⟩:=hs.dkc e1
    rw[q1]at r1;cases r1
    obtain rfl:ov=Value.ref p:=ro
    refine zkk hu I (DPut.k r2 (by rw[<-r3.len];exact Nat.lt_of_lt_of_le hl (by decide))) ri rv fun s' I'=>⟨_,I',?_⟩
    have g:Ext H (upd H p (.dK (putK ws kk v))):=Ext.mut r2 (fun _ z=>nomatch z) (fun _ _ z=>nomatch z)
    have g':Grow μ H μ (upd H p (.dK (putK ws kk v))):=⟨⟨[],by simp⟩,g⟩
    exact hp () _ μ g' (hs.put e1 rfl rfl q1 g ⟨_,zbd,(r3.putN h3).mono g'⟩) trivial
   ·exact hp.elim
  ·exact hp.elim
 ·exact hp.elim
end
end M
namespace M
open PySem PySem.Spec PySem.SeqAt L2
end M
namespace L2
open PySem PySem.Spec PyProof.Rows
theorem key_rel {P:Program}{w:World}{k:Key}{u:Value}(h:(mixKind P w).is k u=true):RelV (kV k) u:=by
 rw[zll]at h
 rcases zbt h with⟨i,t,rfl,rfl⟩ | ⟨x,t,rfl,rfl⟩
 ·exact⟨t,rfl⟩
 ·exact⟨t,rfl⟩
theorem zh5 {α β:Type}{F:α->β->Prop}:∀{l₁:List α} {l₂:List β},Paired F l₁ l₂->∀(i:Nat) (a:α) (b:β),l₁[i]? = some a->l₂[i]? = some b->F a b
 | _,_,.nil,i,a,b,h,_=>by simp at h
 | _,_,.cons r t,0,a,b,h1,h2=>by simp at h1 h2;subst h1;subst h2;exact r
 | _,_,.cons r t,i+1,a,b,h1,h2=>zh5 t i a b (by simpa using h1) (by simpa using h2)
noncomputable def Itk (d:Addr)(o:Obj)(kvs:List (Key×V)):It :=
 ⟨fun i H=>i<kvs.length/\H d=some (.frz o (.dK kvs)),fun i H y H'=>H'=H/\∃p,kvs[i]? = some p/\y=kV p.1,fun i H=>kvs.length<=i/\H d=some (.frz o (.dK kvs))⟩
theorem dict_at {X:Cx}{pins:List (Addr×Obj)}{σ:St}{H:Hp}{s:Shared}{d:Addr}{o:Obj}{kvs:List (Key×V)}{es:Array DictEntry}{ep:Nat}(I:Inv X pins σ H s)(ho:o.data=.dict es ep)(e:H d=some (.frz o (.dK kvs))) :
  (d==sysModules)=false/\∃vs,KV kvs vs/\s.heap.DictAt (mixKind X.prog X.w) d vs ep:=by
 obtain⟨h1,z,hd,vs,rel,o',es',ep',h2,h3,h4,h5⟩:=(show ObjOk X.prog X.w H s.heap d (.frz o (.dK kvs)) from I.hok d _ e)
 rw[h1]at h2
 cases h2
 rw[ho]at h4
 cases h4
 exact⟨hd,vs,rel,o,es,h1,h3,ho,h5⟩
theorem turn_dk {P:Program}{w:World}{K:PySem.W.Frag}{tg:Expr}(it d:Addr)(o:Obj)(es:Array DictEntry)(ep:Nat)(ho:o.data=.dict es ep)(kvs:List (Key×V)):Turn P w K tg (Itk d o kvs) [it] it (fun i h=>h.IsKeyIter it d i kvs.length ep) where
 mem:=by simp
 obj:=fun i h st b hb=>by
  have e:b=it:=by simpa using hb
  subst e
  obtain⟨o,e,c,d⟩:=st
  exact⟨o,e,fun v z=>by rw[d]at z;cases z⟩
 keep:=fun i h h' st k=>by
  obtain⟨o,e,c,d⟩:=st
  exact⟨o,k it (by simp) o e,c,d⟩
 item:=by
  intro X hP hw hK hc i pins s σ H E I hf st hg
  subst hP hw hK
  obtain⟨f0,f1,f2,f3,f4,f5⟩:=hf it (by simp)
  obtain⟨hi,e⟩:=hg
  obtain⟨hd,vs,rel,da⟩:=dict_at I ho e
  have hl:kvs.length=vs.length:=Paired.length rel
  obtain⟨q,hq⟩:∃q,vs[i]? = some q:=⟨_,List.getElem?_eq_getElem (by omega)⟩
  obtain⟨p,hp⟩:∃p,kvs[i]? = some p:=⟨_,List.getElem?_eq_getElem hi⟩
  have hk:p.1=q.1:=(zh5 rel i p q hp hq).1
  rw[hl]at st
  refine wpAny_pyNext_dict_item (k:=q.1) (v:=q.2) st da hq fun key h' ik st' sb=>?_
  have I1:Inv X pins σ H { s with heap:=h' }:=I.turned (t':=s.toks) (fun b o hb e=>(sb.2 b hb).trans e) f0 f1 f3 f4 f5
  obtain⟨o1,e1,c1,d1⟩:=id st'
  rw[<-hl]at st'
  exact⟨_,rfl,go_of (s:={ s with heap:=h' }) e1 c1 d1 (by decide) ⟨kV p.1,H,I1,by rw[hk];exact key_rel ik,⟨rfl,p,hp,rfl⟩,st',fun b hb=>(hf b hb).1⟩⟩
 done:=by
  intro X hP hw hK hc i pins s σ H E I hf st hg
  subst hP hw hK
  obtain⟨f0,f1,f2,f3,f4,f5⟩:=hf it (by simp)
  obtain⟨hi,e⟩:=hg
  obtain⟨hd,vs,rel,da⟩:=dict_at I ho e
  have hl:kvs.length=vs.length:=Paired.length rel
  rw[hl]at st
  exact wpAny_pyNext_dict_end (I.ok.hd hc) st da (List.getElem?_eq_none (by omega)) fun h' eb=>⟨rfl,I.turned (t':=s.toks) (fun b o hb e=>eb b o hb e) f0 f1 f3 f4 f5⟩
 self:=fun _ _ _ _ _ st h=>wpAny_pyIter_keyiter st h
noncomputable def iDk (tl:TE):TI:=fun σ H R=>tl σ H fun y H1=>∃a kvs,y=.ref a/\((∃o,H1 a=some (.frz o (.dK kvs))/\R (Itk a o kvs) H1)\/(H1 a=some (.dK kvs)/\∀o,R (Itk a o kvs) (upd H1 a (.frz o (.dK kvs)))))
theorem pi_dk {X:Cx}{tg l:Expr}{tl:TE}(hl:PE X l tl):PI X tg l (iDk tl):=by
 intro pins s σ H R I h
 refine thn (hl pins s σ H _ I h) fun v s1 zz=>?_
 obtain⟨y,H1,I1,r1,q1⟩:=zz
 obtain⟨a,kvs,rfl,q⟩:=q1
 cases (show v=Value.ref a from r1)
 have key:∀(H2:Hp) (o:Obj),Inv X pins σ H2 s1->H2 a=some (.frz o (.dK kvs))->R (Itk a o kvs) H2->wpAny (model X.prog X.w) X.A (pyIter (.ref a)) (PIE X pins σ tg R) X.xe s1:=fun H2 o I2 e2 r2=>by
  obtain⟨h1,z,hd,vs,rel,o',es,ep,h2,h3,h4,h5⟩:=(show ObjOk X.prog X.w H2 s1.heap a (.frz o (.dK kvs)) from I2.hok a _ e2)
  rw[h1]at h2
  cases h2
  have hl:kvs.length=vs.length:=Paired.length rel
  refine wpAny_pyIter_dict (knd:=mixKind X.prog X.w) (kvs:=vs) (ep:=ep) hd ⟨o,es,h1,h3,h4,h5⟩ ?_
  refine⟨s1.heap.objs.size,[s1.heap.objs.size],_,_,H2,rfl,I2.kept (t':=s1.toks) fun b u e=>Heap.get?_push_of_some _ e,turn_dk _ a o es ep h4 kvs,⟨_,Heap.get?_push_size _ rfl,rfl,by rw[hl];rfl⟩,fun b hb=>?_,r2⟩
  have e:b=s1.heap.objs.size:=by simpa using hb
  subst e
  exact I2.fpOk (Nat.le_refl _) (I2.hok.fresh (Nat.le_refl _))
 rcases q with⟨o,e,r⟩ | ⟨e,r⟩
 ·exact key H1 o I1 e r
 ·obtain⟨z,hd,vs,rel,o,es,ep,h2,h3⟩:=(show ObjOk X.prog X.w H1 s1.heap a (.dK kvs) from I1.hok a _ e)
  have new:ObjOk X.prog X.w (upd H1 a (.frz o (.dK kvs))) s1.heap a (.frz o (.dK kvs)):=⟨h2,z,hd,vs,rel,o,es,ep,h2,h3⟩
  exact key (upd H1 a (.frz o (.dK kvs))) o (I1.write (x:=a) (e:=a) (t':=s1.toks) (h':=s1.heap) (by rw[e];trivial) (.inl rfl) (fun b u _ z=>z) ⟨o,h2⟩ new) zbd (r o)
end L2
namespace M
open PySem PySem.Spec L2
noncomputable def keyD:Key->D
 | .inl i=>.int i
 | .inr x=>.str x.cps.toList
noncomputable def dkI (m:ME):MI:=fun env st=>(m env st).bind fun d st1=>match d with
 | .loc n=>(match st1[n]? with
  | some (.dkc kvs)=>.ok (kvs.map (fun p=>keyD p.1),[]) (st1.set n (.dkf kvs))
  | some (.dkf kvs)=>.ok (kvs.map (fun p=>keyD p.1),[]) st1
  | _=>.bad)
 | _=>.bad
section
variable {X:Cx}{tg l a b:Expr}{ml ma mb:ME}{μ:List Addr}{H:Hp}{K:PySem.W.Frag}{st:Stor}{pos:Pos}
theorem RepV.keyD (k:Key):RepV K μ H (M.keyD k) (kV k):=by
 cases k with
 | inl i=>exact RepV.int_iff.mpr rfl
 | inr x=>exact RepV.str_iff.mpr (by show V.str x=V.str (strOf x.cps.toList);simp[strOf])
theorem RepKV.keyAt:∀{kvs:List (Key×D)} {ws:List (Key×V)},RepKV K μ H kvs ws->kvs.length=ws.length/\∀(i:Nat) (p:Key×D) (q:Key×V),kvs[i]? = some p->ws[i]? = some q->p.1=q.1
 | [],_,h=>by cases h;exact⟨rfl,fun i p q h1=>by simp at h1⟩
 | (k,d)::r,_,⟨v,s,rfl,h1,h2⟩=>by
  obtain⟨l,hk⟩:=RepKV.keyAt h2
  refine⟨by simp[l],fun i p q e1 e2=>?_⟩
  cases i with
  | zero=>simp at e1 e2;subst e1;subst e2;rfl
  | succ i=>exact hk i p q (by simpa using e1) (by simpa using e2)
theorem itk_rep {a:Addr}{o:Obj}{kvs:List (Key×D)}{ws:List (Key×V)}(e:H a=some (.frz o (.dK ws)))(h:RepKV X.K μ H kvs ws):ItRep X μ H (Itk a o ws) (kvs.map (fun p=>M.keyD p.1),[]):=by
 intro H' μ' st' g hs ok
 obtain⟨hl,hk⟩:=h.keyAt
 have e':=g.ext.frz _ _ _ e
 refine⟨fun i d ed=>?_,⟨by simp[hl],e'⟩⟩
 rw[List.getElem?_map]at ed
 obtain⟨p,e1,rfl⟩:=Option.map_eq_some_iff.mp ed
 have hi:=(List.getElem?_eq_some_iff.mp e1).1
 refine⟨⟨by omega,e'⟩,?_⟩
 rintro x H'' ⟨rfl,q,hq,rfl⟩
 refine⟨.refl _ _,hs,?_⟩
 rw[hk i p q e1 hq]
 exact RepV.keyD _
theorem RepS.putF {n:Nat}{mo mo':MO}{a:Addr}{o':HO}(h:RepS K μ H st)(hn:st[n]? = some mo)(hm:mo.mut=true)(ha:μ[n]? = some a)(g:Ext H (upd H a o'))(new:RepO K μ (upd H a o') a mo'):RepS K μ (upd H a o') (st.set n mo'):=by
 have hl:=(List.getElem?_eq_some_iff.mp hn).1
 refine⟨by simp[h.len],fun k ok e=>?_,fun i j b oi oj ei ej mi mj hi hj=>?_⟩
 ·by_cases hk:n=k
  ·subst hk
   rw[List.getElem?_set_self hl]at e;cases e
   exact⟨a,ha,new⟩
  ·rw[List.getElem?_set_ne hk]at e
   obtain⟨b,h1,h2⟩:=h.at_ k ok e
   refine⟨b,h1,h2.keep ⟨⟨[],by simp⟩,g⟩ fun hmk u q=>?_⟩
   rw[zcx (fun e2=>?_)]
   ·exact q
   ·subst e2;exact hk (h.uniq n k b mo ok hn e hm hmk ha h1)
 ·have key:∀(k:Nat) (ok:MO),(st.set n mo')[k]? = some ok->ok.mut=true->∃ok',st[k]? = some ok'/\ok'.mut=true:=fun k ok ek mk=>by
   by_cases hk:n=k
   ·subst hk;exact⟨mo,hn,hm⟩
   ·rw[List.getElem?_set_ne hk]at ek;exact⟨ok,ek,mk⟩
  obtain⟨oi',ei',mi'⟩:=key i oi ei mi
  obtain⟨oj',ej',mj'⟩:=key j oj ej mj
  exact h.uniq i j b oi' oj' ei' ej' mi' mj' hi hj
theorem ji_dk (hl:JE X l ml):JI X tg l (dkI ml):=by
 refine JI.of (pi_dk hl) fun σ H R zz=>?_
 obtain⟨μ,env,st,hE,hs,hp⟩:=zz
 refine⟨μ,env,st,hE,hs,(Post.bind hp).imp ?_⟩
 rintro v H1 ⟨μ1,st1,d,g1,hs1,hv,hp1⟩
 dsimp only at hp1
 split at hp1
 ·rename_i n
  obtain⟨a,q1,rfl⟩:=RepV.loc_iff.mp hv
  split at hp1
  ·rename_i kvs e1
   obtain⟨a',ws,r1,r2,r3⟩:=hs1.dkc e1
   rw[q1]at r1;cases r1
   refine⟨a,ws,rfl,.inr ⟨r2,fun o=>?_⟩⟩
   have g:Ext H1 (upd H1 a (.frz o (.dK ws))):=Ext.mut r2 (fun _ z=>nomatch z) (fun _ _ z=>nomatch z)
   have g':Grow μ1 H1 μ1 (upd H1 a (.frz o (.dK ws))):=⟨⟨[],by simp⟩,g⟩
   exact hp1 _ _ μ1 g' (hs1.putF e1 rfl q1 g ⟨ws,o,zbd,r3.mono g'⟩) (itk_rep zbd (r3.mono g'))
  ·rename_i kvs e1
   obtain⟨a',r1,ws,o,r2,r3⟩:=hs1.at_ n _ e1
   rw[q1]at r1;cases r1
   exact⟨a,ws,rfl,.inl ⟨o,r2,hp1 _ _ _ (.refl _ _) hs1 (itk_rep r2 r3)⟩⟩
  ·exact hp1.elim
 ·exact hp1.elim
end
end M
namespace L2
open PySem PySem.Spec PyProof.Rows
end L2
namespace L2
open PySem PySem.Spec PyProof.Rows
end L2
namespace M
open PySem PySem.Spec L2
end M
namespace M
open PySem PySem.Spec L2
theorem r_dkI_c {m:ME}{env:MEnv}{st st1:Stor}{n:Nat}{kvs:List (Key×D)}(h:m env st=.ok (.loc n) st1)(e:st1[n]? = some (.dkc kvs)):dkI m env st=.ok (kvs.map (fun p=>keyD p.1),[]) (st1.set n (.dkf kvs)):=by
 unfold dkI;rw[h];simp only[R.bind,e]
noncomputable def keyT (tb:List (List Nat×D)):List (Key×D):=tb.map fun p=>(Sum.inr (strOf p.1),p.2)
structure DictK (w:World)(K:PySem.W.Frag)(a:Addr)(tb:List (List Nat×D)):Prop where
 low:(a==sysModules)=false
 at_:∀P:Program,∃(kvs:List (Key×V)) (vs:List (Key×Value)) (ep:Nat),(∀μ H,RepKV K μ H (keyT tb) kvs)/\KV kvs vs/\∀h:Heap,K.In h->h.DictAt (mixKind P w) a vs ep
inductive Rws (K:PySem.W.Frag) (w:World):List DictEntry->List (List Nat×D)->Prop
 | nil:Rws K w [] []
 | i {h:Int} {x:Str} {t u:Tok} {cs:List Nat} {n:Int} {es:List DictEntry} {tb:List (List Nat×D)} (hx:x=strOf cs) (hh:h=keyH w (.inr x)) (r:Rws K w es tb):Rws K w (⟨h,.str x t,.int n u⟩::es) ((cs,.int n)::tb)
section
variable {X:Cx}{tg b:Expr}{mb:ME}{pos pos':Pos}{x:Str}{tb:List (List Nat×D)}
end
end M
namespace M
open PySem PySem.Spec PySem.SeqAt L2
section
variable {X:Cx}{L:Nat}
end
end M
namespace M
open PySem PySem.Spec L2
section
variable {X:Cx}{b:Expr}{mb:ME}{x:Str}{tb:List (List Nat×D)}{cpos apos pos':Pos}
end
end M
namespace L2
open PySem PySem.Spec PyProof.Rows
section
variable {prog:Program}{w:World}{A:Around}{E:Value->Shared->Prop}{s:Shared}{d:Addr}{o:Obj}{es:Array DictEntry}{ep:Nat}
theorem zio (hd:(d==sysModules)=false):MeetsIn prog w (Builtin.«dict.__len__» ⟨[.ref d],[]⟩) (fun _ R s=>∃o es ep,s.heap.get? d=some o/\o.data=.dict es ep/\R (.ok (.ret (.int es.size s.toks))) { s with toks:=s.toks+1 }) :=
 .of_wp fun A R s zz=>by
  obtain⟨o,es,ep,ho,hdat,h⟩:=zz
  show wpAny _ _ (dictSize d >>= _) _ _ s
  unfold dictSize
  refine wpAny_bind (wpAny_bind (wpAny_dictEntries ho hdat (wpAny_pure ?_)))
  show wpAny _ _ (Builtin.Dict.pendingCount d >>= _) _ _ s
  refine wpAny_bind (wpAny_pendingCount_other hd ?_)
  refine wpAny_ret_mkInt ?_
  simpa using h
theorem len_raw {Q:Value->Shared->Prop}(hd:(d==sysModules)=false)(ho:s.heap.get? d=some o)(hx:o.ExactDict)(hdat:o.data=.dict es ep)(hfit:(es.size:Int)<2 ^ 63)
  (h:Q (.int es.size (s.toks+1)) { s with toks:=s.toks+1+1 }):wpAny (model prog w) A (call (.builtin "len") [.ref d]) Q E s:=by
 have hT:s.TypeIs (.ref d) "dict":=⟨o,ho,hx.1⟩
 refine Calls.call_function_entry PySem.kind_len PySem.plain_len PySem.entry_len (PySem.args_len1 _) ?_
 unfold Builtin.«len»
 refine wpAny_bind (m:=oneArg "len" _) (wpAny_pure ?_)
 refine wpAny_bind (m:=callSpecial? (.ref d) (Str.ofString "__len__")) (wpAny_callSpecial?_slot (name:=Str.ofString "__len__") hT F.slot_dict_len
  (call_meetsIn F.slot_dict_len hT F.entry_dict_len (F.args_dict_len_1 _) (zio hd) ⟨o,es,ep,ho,hdat,?_⟩))
 show wpAny _ _ _ _ _ { s with toks:=s.toks+1 }
 refine wpAny_bind (wpAny_holding (wpAny_pure ?_))
 refine wpAny_bind (wpAny_letGo ?_)
 show wpAny _ _ (if ((es.size:Nat):Int)<0 then _ else _) _ _ _
 rw[if_neg (by omega)]
 show wpAny _ _ (if ((es.size:Nat):Int) ≥ 2 ^ 63 then _ else _) _ _ _
 rw[if_neg (by omega)]
 exact wpAny_bind (wpAny_mkInt (wpAny_pure ⟨_,rfl,h⟩))
end
end L2
namespace M
open PySem PySem.Spec L2
section
variable {K:PySem.W.Frag}{μ ν:List Addr}{H H':Hp}{st st':Stor}
theorem RepS.backM {n:Nat}(hl:μ.length=n)(h:RepS K (μ++ν) H' st')(hn:n<=st'.length)(hu:∀o∈st'.take n,underO n o):RepS K μ H' (st'.take n):=by
 have tg:∀(k:Nat) (o:MO),(st'.take n)[k]? = some o->st'[k]? = some o/\k<n:=fun k o e=>by
  have hk:=(List.getElem?_eq_some_iff.mp e).1
  rw[List.length_take]at hk
  rw[List.getElem?_take,if_pos (by omega)]at e
  exact⟨e,by omega⟩
 refine⟨by rw[List.length_take,hl];omega,fun k o e=>?_,fun i j a oi oj ei ej mi mj hi hj=>?_⟩
 ·obtain⟨e1,hk⟩:=tg k o e
  obtain⟨a,h1,h2⟩:=h.at_ k o e1
  rw[List.getElem?_append_left (by omega)]at h1
  exact⟨a,h1,h2.down (by rw[hl];exact hu o (List.mem_of_getElem? e))⟩
 ·have up:∀k,μ[k]? = some a->(μ++ν)[k]? = some a:=fun k hk=>by rw[List.getElem?_append_left (List.getElem?_eq_some_iff.mp hk).1];exact hk
  exact h.uniq i j a oi oj (tg i oi ei).1 (tg j oj ej).1 mi mj (up i hi) (up j hj)
theorem RepS.back1M {n k:Nat}{o:MO}{a:Addr}(hl:μ.length=n)(h:RepS K (μ++ν) H' st')(hn:n<=st'.length)(hu:∀o∈st'.take n,underO n o)(hk:n<=k)(e:st'[k]? = some o)(u:underO n o)(ha:(μ++ν)[k]? = some a) :
  RepS K (μ++[a]) H' (st'.take n++[o]):=by
 have hb:=RepS.backM hl h hn hu
 have lt:(st'.take n).length=n:=by rw[List.length_take];omega
 obtain⟨a',q1,q2⟩:=h.at_ k o e
 rw[ha]at q1;cases q1
 have key:∀(i:Nat) (on:MO) (c:Addr),(st'.take n++[o])[i]? = some on->(μ++[a])[i]? = some c->(i<n/\(st'.take n)[i]? = some on/\μ[i]? = some c)\/(i=n/\on=o/\c=a):=fun i on c e1 e2=>by
  by_cases hi:i<n
  ·rw[List.getElem?_append_left (by omega)]at e1
   rw[List.getElem?_append_left (by omega)]at e2
   exact .inl ⟨hi,e1,e2⟩
  ·have hl2:=(List.getElem?_eq_some_iff.mp e1).1
   rw[List.length_append,List.length_singleton,lt]at hl2
   have en:i=n:=by omega
   subst en
   rw[List.getElem?_append_right (by omega),lt]at e1
   rw[List.getElem?_append_right (by omega),hl]at e2
   simp at e1 e2
   exact .inr ⟨rfl,e1.symm,e2.symm⟩
 have tg:∀(i:Nat) (o:MO),(st'.take n)[i]? = some o->st'[i]? = some o:=fun i o e=>by
  have hi:=(List.getElem?_eq_some_iff.mp e).1
  rw[lt]at hi
  rw[List.getElem?_take,if_pos hi]at e
  exact e
 refine⟨by simp[lt,hl],fun i on e1=>?_,fun i j c oi oj ei ej mi mj hi hj=>?_⟩
 ·have hi:i<(μ++[a]).length:=by
   have:=(List.getElem?_eq_some_iff.mp e1).1
   simp[lt]at this
   simp[hl];omega
  obtain⟨c,hc⟩:∃c,(μ++[a])[i]? = some c:=⟨_,List.getElem?_eq_getElem hi⟩
  rcases key i on c e1 hc with⟨h1,h2,h3⟩ | ⟨h1,rfl,rfl⟩
  ·obtain⟨c',h4,h5⟩:=hb.at_ i on h2
   rw[h3]at h4;cases h4
   exact⟨c,hc,h5.up _⟩
  ·exact⟨c,hc,(q2.down (by rw[hl];exact u)).up _⟩
 ·have up:∀k,μ[k]? = some c->(μ++ν)[k]? = some c:=fun k hk=>by rw[List.getElem?_append_left (List.getElem?_eq_some_iff.mp hk).1];exact hk
  rcases key i oi c ei hi with⟨h1,h2,h3⟩ | ⟨h1,rfl,rfl⟩
  ·rcases key j oj c ej hj with⟨g1,g2,g3⟩ | ⟨g1,rfl,rfl⟩
   ·exact hb.uniq i j c oi oj h2 g2 mi mj h3 g3
   ·have:=h.uniq i k c oi oj (tg i oi h2) e mi mj (up i h3) ha
    omega
  ·rcases key j oj c ej hj with⟨g1,g2,g3⟩ | ⟨g1,_,_⟩
   ·have:=h.uniq j k c oj oi (tg j oj g2) e mj mi (up j g3) ha
    omega
   ·rw[h1,g1]
end
open Classical in
noncomputable def gcM (st:Stor)(r:R D):R D:=match r with
 | .ok d st'=>if st.length<=st'.length/\∀o∈st'.take st.length,underO st.length o then (if under st.length d then .ok d (st'.take st.length) else (match d with
  | .loc k=>(match st'[k]? with
   | some o=>if st.length<=k/\underO st.length o then .ok (.loc st.length) (st'.take st.length++[o]) else .ok d st'
   | none=>.ok d st')
  | d=>.ok d st')) else .ok d st'
 | r=>r
noncomputable def gcFM (F:FD):FD:=fun ds st=>gcM st (F ds st)
theorem zf3 {st st' g:Stor}{d:D}(hl:st'.length=st.length)(hu:∀o∈st',underO st.length o)(h:under st.length d):gcM st (.ok d (st'++g))=.ok d st':=by
 unfold gcM
 dsimp only
 have e:(st'++g).take st.length=st':=by rw[<-hl,List.take_left'];rfl
 rw[if_pos ⟨by simp;omega,by rw[e];exact hu⟩,if_pos h,e]
theorem gcM_new {st st' g g':Stor}{o:MO}(hl:st'.length=st.length)(hu:∀o∈st',underO st.length o)(h:underO st.length o):gcM st (.ok (.loc (st.length+g.length)) (st'++g++o::g'))=.ok (.loc st.length) (st'++[o]):=by
 unfold gcM
 dsimp only
 have e:(st'++g++o::g').take st.length=st':=by rw[List.append_assoc,<-hl,List.take_left'];rfl
 have e2:(st'++g++o::g')[st.length+g.length]? = some o:=by
  rw[<-hl,List.getElem?_append_right (by simp)];simp
 rw[if_pos ⟨by simp;omega,by rw[e];exact hu⟩,if_neg (by simp),e2]
 dsimp only
 rw[if_pos ⟨by omega,h⟩,e]
theorem gcM_post {K:PySem.W.Frag}{μ:List Addr}{H:Hp}{Q:VK}{st:Stor}{r:R D}(hs:RepS K μ H st)(h:PostF K μ H Q (gcM st r)):PostF K μ H Q r:=by
 cases r with
 | bad=>exact h
 | err x st'=>exact h
 | ok d st' =>
  unfold gcM at h
  dsimp only at h
  by_cases c0:st.length<=st'.length/\∀o∈st'.take st.length,underO st.length o
  ·rw[if_pos c0]at h
   by_cases c1:under st.length d
   ·rw[if_pos c1]at h
    intro v H' μ' g hs' hv
    obtain⟨ν,rfl⟩:=g.pre
    exact h v H' μ ⟨⟨[],by simp⟩,g.ext⟩ (RepS.backM hs.len hs' c0.1 c0.2) (RepV.down d hv (by rw[hs.len];exact c1))
   ·rw[if_neg c1]at h
    cases d with
    | loc k =>
     dsimp only at h
     cases e:st'[k]? with
     | none=>rw[e]at h;exact h
     | some o =>
      rw[e]at h
      dsimp only at h
      by_cases c2:st.length<=k/\underO st.length o
      ·rw[if_pos c2]at h
       intro v H' μ' g hs' hv
       obtain⟨ν,rfl⟩:=g.pre
       obtain⟨a,h1,rfl⟩:=RepV.loc_iff.mp hv
       refine h _ H' (μ++[a]) ⟨⟨[a],rfl⟩,g.ext⟩ (RepS.back1M hs.len hs' c0.1 c0.2 c2.1 e c2.2 h1) (RepV.loc_iff.mpr ⟨a,?_,rfl⟩)
       rw[<-hs.len];simp
      ·rw[if_neg c2]at h;exact h
    | _=>exact h
  ·rw[if_neg c0]at h;exact h
theorem zi4 {K:PySem.W.Frag}{n:Nat}{F:FD}{vs:List V}{H:Hp}{Q:VK}{E:XK}(h:spM K n (gcFM F) vs H Q E):spM K n F vs H Q E:=by
 obtain⟨hl,μ,ds,st,h1,h2,h3⟩:=h
 exact⟨hl,μ,ds,st,h1,h2,gcM_post h2 h3⟩
noncomputable def putFD (f:Str)(d:D):List (Str×D)->List (Str×D)
 | []=>[(f,d)]
 | (g,x)::r=>if g=f then (g,d)::r else (g,x)::putFD f d r
noncomputable def fldE (c f:Str)(m:ME):ME:=fun env st=>(m env st).bind fun d st1=>match d with
 | .loc n=>(match st1[n]? with
  | some (.ins c' fs)=>if c'=c then (match fs.lookup f with | some x=>.ok x st1 | none=>.bad) else .bad
  | _=>.bad)
 | _=>.bad
noncomputable def setFldS (c f:Str)(mo mv:ME):MS:=fun env st=>(mv env st).bind fun d st1=>(mo env st1).bind fun x st2=>match x with
 | .loc n=>(match st2[n]? with
  | some (.ins c' fs)=>if c'=c/\fs.length<1000 then .ok (.nx env) (st2.set n (.ins c (putFD f d fs))) else .bad
  | _=>.bad)
 | _=>.bad
noncomputable def makeE (c:Str)(F:FD)(mA:MA):ME:=fun env st=>(mA env st).bind fun as st1=>((F (.loc st1.length::as) (st1++[.ins c []])).sure).bind fun d st2=>match d with
 | .non=>.ok (.loc st1.length) st2
 | _=>.bad
noncomputable def methI (c m:Str)(F:FD)(mo:ME)(mA:MA):ME:=fun env st=>(mo env st).bind fun x st1=>match x with
 | .loc n=>(match st1[n]? with
  | some (.ins c' fs)=>if c'=c/\fs.lookup m=none then (mA env st1).bind fun as st2=>(match st2[n]? with
   | some (.ins _ _)=>(F (.loc n::as) st2).sure
   | _=>.bad) else .bad
  | _=>.bad)
 | _=>.bad
noncomputable def lenW:List D->Stor->R D
 | [.loc n],st=>(match st[n]? with
  | some (.dic kvs)=>.ok (.int kvs.length) st
  | some (.dkc kvs)=>.ok (.int kvs.length) st
  | _=>lenV [.loc n] st)
 | ds,st=>lenV ds st
noncomputable def ixD:D->D->Stor->R D
 | .loc n,.tup ks,st=>match st[n]?,keysOf ks with
  | some (.dic kvs),some kk=>(match valM kvs kk with | some d=>.ok d st | none=>.bad)
  | _,_=>.bad
 | _,_,_=>.bad
section
variable {X:Cx}{K:PySem.W.Frag}{μ:List Addr}{H:Hp}{e o a b value:Expr}{es:List Expr}{me mo mv ma mb:ME}{mA:MA}{pos pos' apos p:Pos}{c f m x:Str}{C g:Addr}{F:FD}{fd:FuncData}{ps:List Str}{k:Nat}
theorem RepKV.look:∀{fs:List (Str×D)} {ws:List (Str×V)},RepKV K μ H fs ws->(fs.lookup f=none/\ws.lookup f=none)\/∃d v,fs.lookup f=some d/\ws.lookup f=some v/\RepV K μ H d v
 | [],ws,h=>by rw[RepKV]at h;subst h;exact .inl ⟨rfl,rfl⟩
 | (j,d)::r,ws,h=>by
  obtain⟨v,r',rfl,h1,h2⟩:=h
  by_cases q:f=j
  ·subst q
   exact .inr ⟨d,v,by simp[List.lookup],by simp[List.lookup],h1⟩
  ·have q':(f==j)=false:=by simpa using q
   simp only[List.lookup,q']
   exact RepKV.look h2
theorem RepKV.putF {d:D}{v:V}(hv:RepV K μ H d v):∀{fs:List (Str×D)} {ws:List (Str×V)},RepKV K μ H fs ws->RepKV K μ H (putFD f d fs) (L2.putF f v ws)
 | [],ws,h=>by rw[RepKV]at h;subst h;exact⟨v,[],rfl,hv,rfl⟩
 | (j,d')::r,ws,h=>by
  obtain⟨v',r',rfl,h1,h2⟩:=h
  unfold putFD L2.putF
  by_cases q:j=f
  ·rw[if_pos q,if_pos q];exact⟨v,r',rfl,hv,h2⟩
  ·rw[if_neg q,if_neg q];exact⟨v',_,rfl,h1,RepKV.putF hv h2⟩
theorem zmw (h0:PySem.W.nsIn X.K mainGlobals c=some (some (.ref C)))(hc:Cls X.K C)(hn:NoAttr X.K C f)(he:JE X e me)(hb:attributeBase e f X.env (eval e X.env)=eval e X.env:=by rfl):JE X (.Attribute e f pos) (fldE c f me):=by
 refine JE.of (pe_fld he hb) fun σ H Q zz=>?_
 obtain⟨μ,env,st,hE,hs,hp⟩:=zz
 refine⟨μ,env,st,hE,hs,(Post.bind hp).imp ?_⟩
 rintro v H1 ⟨μ1,st1,d,g1,hs1,hx,hp1⟩
 dsimp only at hp1
 split at hp1
 ·rename_i n
  split at hp1
  ·rename_i c' fs e1
   split at hp1
   ·rename_i ec
    subst ec
    obtain⟨p,q1,rfl⟩:=RepV.loc_iff.mp hx
    obtain⟨p',r1,C',dx,ws,r2,r3,r4⟩:=hs1.at_ n _ e1
    rw[q1]at r1;cases r1
    rw[h0]at r2;cases r2
    rcases r4.look (f:=f) with⟨z1,z2⟩ | ⟨d',v',z1,z2,z3⟩
    ·rw[z1]at hp1;exact hp1.elim
    ·rw[z1]at hp1
     exact⟨p,C,dx,ws,v',rfl,r3,hc,hn,z2,hp1.ret hs1 z3⟩
   ·exact hp1.elim
  ·exact hp1.elim
 ·exact hp1.elim
theorem js_fld (h0:PySem.W.nsIn X.K mainGlobals c=some (some (.ref C)))(hc:Cls X.K C)(hn:NoAttr X.K C f)(ho:JE X o mo)(hv:JE X value mv)(hs:swapsWith value (some (.Attribute o f pos')) pos.line X.env=pure false:=by rfl) :
  JS X (.Assign [.Attribute o f pos'] value pos) (setFldS c f mo mv):=by
 refine JS.of (ps_fld ho hv hs) fun E σ H zz=>?_
 obtain⟨μ,env,st,hE,hs,hp⟩:=zz
 refine⟨μ,env,st,hE,hs,hp.val.imp ?_⟩
 rintro y H1 ⟨μ1,st1,d,g1,hs1,hy,hp1⟩
 refine⟨μ1,env,st1,hE.mono g1,hs1,hp1.val.imp ?_⟩
 rintro z H2 ⟨μ2,st2,d2,g2,hs2,hz,hp2⟩
 try dsimp only at hp2
 split at hp2
 ·rename_i n
  split at hp2
  ·rename_i c' fs e1
   split at hp2
   ·rename_i ec
    obtain⟨ec,hl⟩:=ec
    subst ec
    obtain⟨p,q1,rfl⟩:=RepV.loc_iff.mp hz
    obtain⟨p',r1,C',dx,ws,r2,r3,r4⟩:=hs2.at_ n _ e1
    rw[q1]at r1;cases r1
    rw[h0]at r2;cases r2
    have hll:ws.length<1000:=by rw[<-r4.len];exact hl
    have gg:Ext H2 (upd H2 p (.ins C dx (L2.putF f y ws))):=Ext.mut r3 (fun _ z=>nomatch z) (fun _ _ z=>nomatch z)
    have g':Grow μ2 H2 μ2 (upd H2 p (.ins C dx (L2.putF f y ws))):=⟨⟨[],by simp⟩,gg⟩
    refine⟨p,C,dx,ws,rfl,r3,hc,hn,hll,hp2 σ _ μ2 g' (hs2.put e1 rfl rfl q1 gg ⟨C,dx,_,h0,zbd,(r4.putF (hy.mono g2 _)).mono g'⟩) (((hE.mono g1).mono g2).mono g')⟩
   ·exact hp2.elim
  ·exact hp2.elim
 ·exact hp2.elim
theorem je_make (h0:PySem.W.nsIn X.K mainGlobals c=some (some (.ref C)))(MK:Mk X.K C g)(G:FnOk X.prog X.w X.K X.mg X.base CX0 k g fd ps (spM X.K ps.length F))(hr:Room (k+1) X.A)(hm:X.mg c=some (.ref C))(hb:Binds X.K fd ps [])(ha:JA X (e::es) mA)
  (hlen:(e::es).length+1=ps.length:=by rfl) (hg:Gl X c:=by rfl) (hdb:(c==("__debug__":Str))=false:=by decide) (he:starEach (e::es) X.env=(false,eval e X.env)::starEach es X.env:=by rfl) (hpl:(backTo pos (starEach es X.env)).any (·.1)=false:=by rfl)
  (hA:∀env st as st1,mA env st=.ok as st1->as.length=(e::es).length:=by intros;rfl):JE X (.Call (.Name c p) (e::es) [] pos) (makeE c F mA):=by
 refine JE.of (pe_make MK G hr hg hm hb .nil pass0 ha hdb he hpl) fun σ H Q zz=>?_
 obtain⟨μ,env,st,hE,hs,hp⟩:=zz
 refine⟨μ,env,st,hE,hs,?_⟩
 cases hq:mA env st with
 | bad=>unfold makeE at hp;rw[hq]at hp;exact hp
 | err y st1=>unfold makeE at hp;rw[hq]at hp;exact hp
 | ok as st1 =>
  unfold makeE at hp
  rw[hq]at hp
  intro vs H1 μ1 g1 hs1 hv x dx hx hdx hne
  have hne2:upd H1 dx (.own x) x=none:=by rw[zcx (Ne.symm hne)];exact hx
  have ext1:Ext H1 (upd H1 dx (.own x)):=Ext.new hdx
  have gd:Grow μ1 H1 μ1 (upd H1 dx (.own x)):=⟨⟨[],by simp⟩,ext1⟩
  have hs2:RepS X.K μ1 (upd H1 dx (.own x)) st1:=hs1.lay hdx
  have hr3:RepO X.K (μ1++[x]) (upd (upd H1 dx (.own x)) x (.ins C dx [])) x (.ins c []):=⟨C,dx,[],h0,zbd,rfl⟩
  have hs3:=hs2.new hne2 hr3
  have gn:Grow μ1 (upd H1 dx (.own x)) (μ1++[x]) (upd (upd H1 dx (.own x)) x (.ins C dx [])):=Grow.new hne2
  have hv3:RepVs X.K (μ1++[x]) (upd (upd H1 dx (.own x)) x (.ins C dx [])) (.loc st1.length::as) (.ref x::vs):=RepVs.cons (RepV.loc_iff.mpr ⟨x,by rw[<-hs1.len];simp,rfl⟩) ((hv.mono gd _).mono gn _)
  have hl2:(V.ref x::(vs++[])).length=ps.length:=by
   have:=hA env st as st1 hq
   have:=hv.length
   simp only[List.append_nil,List.length_cons]at *
   omega
  rw[List.append_nil]at hl2 ⊢
  refine⟨hl2,μ1++[x],.loc st1.length::as,st1++[.ins c []],hv3,hs3,?_⟩
  cases hF:F (.loc st1.length::as) (st1++[.ins c []]) with
  | bad=>rw[R.bind_ok,hF]at hp;exact hp.elim
  | err y st2=>rw[R.bind_ok,hF]at hp;exact hp.elim
  | ok d st2 =>
   rw[R.bind_ok,hF]at hp
   intro v H' μ' g' hs' hvd
   have gall:Grow μ H μ' H':=(g1.trans gd).trans (gn.trans g')
   cases d with
   | non =>
    refine⟨RepV.non_iff.mp hvd,hp (.ref x) H' μ' gall hs' (RepV.loc_iff.mpr ⟨x,g'.get (by rw[<-hs1.len];simp),rfl⟩)⟩
   | _=>exact hp.elim
theorem zm1 {pl:Sem Bool}(h0:PySem.W.nsIn X.K mainGlobals c=some (some (.ref C)))(hc:Cls X.K C)(hm:Meth X.K C m g)(G:FnOk X.prog X.w X.K X.mg X.base CX0 k g fd ps (spM X.K ps.length F))(hr:Room k X.A)(hb:Binds X.K fd ps [])(ho:JE X o mo)(ha:JA X (e::es) mA)
  (hlen:(e::es).length+1=ps.length:=by rfl) (hst:starEach (e::es) X.env=(false,eval e X.env)::starEach es X.env:=by rfl) (hpl:(backTo pos (starEach es X.env)).any (·.1)=false:=by rfl)
  (ht:eval (.Call (.Attribute o m apos) (e::es) [] pos) X.env=(do
   let ov <-eval o X.env
   standAt apos.atName
   let (f,first) <-holding [ov] (getMethod ov m pl)
   callWith pos f first (backTo pos (starEach (e::es) X.env)) (backToKw pos (keywordEach [] X.env))):=by rfl)
  (hA:∀env st as st1,mA env st=.ok as st1->as.length=(e::es).length:=by intros;rfl):JE X (.Call (.Attribute o m apos) (e::es) [] pos) (methI c m F mo mA):=by
 refine JE.of (pe_meth ho hc hm G hr hb .nil pass0 ha hst hpl ht) fun σ H Q zz=>?_
 obtain⟨μ,env,st,hE,hs,hp⟩:=zz
 refine⟨μ,env,st,hE,hs,(Post.bind hp).imp ?_⟩
 rintro v H1 ⟨μ1,st1,d,g1,hs1,hx,hp1⟩
 dsimp only at hp1
 split at hp1
 ·rename_i n
  split at hp1
  ·rename_i c' fs e1
   split at hp1
   ·rename_i ec
    obtain⟨ec,hl⟩:=ec
    subst ec
    obtain⟨p,q1,rfl⟩:=RepV.loc_iff.mp hx
    obtain⟨p',r1,C',dx,ws,r2,r3,r4⟩:=hs1.at_ n _ e1
    rw[q1]at r1;cases r1
    rw[h0]at r2;cases r2
    have hl2:ws.lookup m=none:=by
     rcases r4.look (f:=m) with⟨_,z2⟩ | ⟨d',v',z1,_,_⟩
     ·exact z2
     ·rw[hl]at z1;cases z1
    refine⟨p,dx,ws,rfl,r3,hl2,μ1,env,st1,hE.mono g1,hs1,?_⟩
    cases hq:mA env st1 with
    | bad=>rw[hq]at hp1;exact hp1
    | err y st2=>rw[hq]at hp1;exact hp1
    | ok as st2 =>
     rw[hq,R.bind_ok]at hp1
     intro vs H2 μ2 g2 hs2 hv
     split at hp1
     ·rename_i c2 fs2 e2
      have hv3:RepVs X.K μ2 H2 (.loc n::as) (.ref p::vs):=RepVs.cons (RepV.loc_iff.mpr ⟨p,g2.get q1,rfl⟩) hv
      have hll:(V.ref p::(vs++[])).length=ps.length:=by
       have:=hA env st1 as st2 hq
       have:=hv.length
       simp only[List.append_nil,List.length_cons]at *
       omega
      rw[List.append_nil]at hll ⊢
      refine⟨hll,μ2,.loc n::as,st2,hv3,hs2,?_⟩
      cases hF:F (.loc n::as) st2 with
      | bad=>rw[hF]at hp1;exact hp1.elim
      | err y st3=>rw[hF]at hp1;exact hp1.elim
      | ok d st3 =>
       rw[hF]at hp1
       intro v H' μ' g' hs' hvd
       exact hp1 v H' μ' (g2.trans g') hs' hvd
     ·exact hp1.elim
   ·exact hp1.elim
  ·exact hp1.elim
 ·exact hp1.elim
theorem zao:CallR X (.builtin "len") (rMC X lenW):=by
 rintro pins s σ H xs us Q I rv ⟨μ,st,ds,hs,hv,hp⟩
 unfold lenW at hp
 split at hp
 ·rename_i n
  split at hp
  ·rename_i kvs e1
   obtain⟨v,rfl,q⟩:=RepVs.one hv
   obtain⟨p,q1,rfl⟩:=RepV.loc_iff.mp q
   obtain⟨u,rfl,ru⟩:=rv.one
   cases ru
   obtain⟨p',ws,r1,r2,r3⟩:=hs.dic e1
   rw[q1]at r1;cases r1
   obtain⟨z,y,xs,r,o,es,ep,h1,h2,h3,h4,h5⟩:=(show ObjOk X.prog X.w H s.heap p (.dT ws) from I.hok p _ r2)
   have hl:es.size=kvs.length:=by
    rw[r3.len,Paired.length r,<-Array.length_toList,h4,List.length_map]
   refine len_raw y h1 h2 h3 (by rw[hl,r3.len];rw[sizeLine_eq]at z;omega) ?_
   rw[hl]
   exact⟨.int kvs.length,H,I.tok _,⟨_,rfl⟩,hp.ret hs (RepV.int_iff.mpr rfl)⟩
  ·rename_i kvs e1
   obtain⟨v,rfl,q⟩:=RepVs.one hv
   obtain⟨p,q1,rfl⟩:=RepV.loc_iff.mp q
   obtain⟨u,rfl,ru⟩:=rv.one
   cases ru
   obtain⟨p',ws,r1,r2,r3⟩:=hs.dkc e1
   rw[q1]at r1;cases r1
   refine d_len I (.inl r2) fun t s' I'=>?_
   rw[<-r3.len]
   exact⟨.int kvs.length,H,I',⟨_,rfl⟩,hp.ret hs (RepV.int_iff.mpr rfl)⟩
  ·exact zj2 pins s σ H xs us Q I rv ⟨μ,st,_,hs,hv,hp⟩
 ·exact zj2 pins s σ H xs us Q I rv ⟨μ,st,_,hs,hv,hp⟩
theorem je_ixD (hu:X.A.units+1<cLine)(ha:JE X a ma)(hb:JE X b mb)(hs:NoSl b:=by exact fun _ _=>rfl):JE X (.Subscript a b pos) (op2 ixD ma mb):=by
 refine JE.of (pe_dget hu ha hb hs) fun σ H Q h=>?_
 obtain⟨μ,env,st,hE,hs,hp⟩:=zmb h
 refine⟨μ,env,st,hE,hs,hp.imp ?_⟩
 rintro x H1 ⟨μ1,env1,st1,hE1,hs1,hp1⟩
 refine⟨μ1,env1,st1,hE1,hs1,hp1.imp ?_⟩
 rintro y H2 ⟨μ2,st2,dx,dy,hs2,hx,hy,hp2⟩
 unfold ixD at hp2
 split at hp2
 ·rename_i n ks
  split at hp2
  ·rename_i kvs kk e1 e2
   obtain⟨p,q1,rfl⟩:=RepV.loc_iff.mp hx
   obtain⟨b,ys,rfl,q3,q4⟩:=RepV.tup_iff.mp hy
   replace q3:=q3.made e2
   obtain rfl:=RepVs.keys q4 e2
   obtain⟨p',ws,r1,r2,r3⟩:=hs2.dic e1
   rw[q1]at r1;cases r1
   rcases r3.val (k:=kk) with⟨z1,z2⟩ | ⟨d',v',z1,z2,z3⟩
   ·rw[z1]at hp2;exact hp2.elim
   ·rw[z1]at hp2
    exact⟨p,v',rfl,by rw[<-z2];exact DGet.t r2 q3,hp2.ret hs2 z3⟩
  ·exact hp2.elim
 ·exact hp2.elim
end
end M
namespace M
open PySem
noncomputable def clsBody:Stmt->List Stmt
 | .ClassDef _ _ _ body _ _ _ _ _ _ _=>body
 | _=>[]
end M
namespace L2
open PySem PySem.Spec PyProof.Rows
end L2
namespace M
open PySem PySem.Spec L2
end M
namespace L2
open PySem PySem.Spec PyProof.Rows
section
variable {P:Program}{w:World}{A:Around}{E:Value->Shared->Prop}{s:Shared}{d it:Addr}{od:Obj}{es:Array DictEntry}{i ep:Nat}
theorem anyd_iter {Q:Value->Shared->Prop}(hd:(d==sysModules)=false)(ho:s.heap.get? d=some od)(hx:od.ExactDict)(hdat:od.data=.dict es ep)
  (hQ:Q (.ref s.heap.objs.size) { s with heap:=s.heap.push { cls:=.type "dict_keyiterator",data:=.fields #[.ref d,.int 0 0,.int es.size 0,.int ep 0] } }) :
  wpAny (model P w) A (pyIter (.ref d)) Q E s:=by
 have hT:s.TypeIs (.ref d) "dict":=⟨od,ho,hx.1⟩
 refine wpAny_pyIter_slot hT PySem.F.slot_dict_iter (wpAny_call_entry PySem.F.slot_dict_iter hT PySem.F.entry_dict_iter ?_ (PySem.F.args_dict_iter_1 _))
 unfold Builtin.«dict.__iter__» Builtin.Dict.dictSlotNone Builtin.Dict.showsAll
 refine wpAny_bind (wpAny_bind (wpAny_notOrdered_dict hT (wpAny_pure ?_)))
 have no:¬ ((d==sysModules)=true):=by rw[hd];exact Bool.false_ne_true
 refine wpAny_bind (wpAny_pure (wpAny_bind ?_))
 rw[if_neg no]
 refine wpAny_pure (wpAny_bind (wpAny_dictEntries ho hdat (wpAny_bind (wpAny_dictEpoch ho hdat ?_))))
 refine wpAny_bind (wpAny_newObj_type ?_)
 exact wpAny_pure ⟨_,rfl,"dict_keyiterator",_,⟨_,Heap.get?_push_size _ rfl,rfl⟩,PySem.F.slot_dict_keyiterator_next.lookup,by simpa[rawInt] using hQ⟩
theorem anyd_next {Q:Option Value->Shared->Prop}(hit:s.heap.IsKeyIter it d i es.size ep)(ho:s.heap.get? d=some od)(hdat:od.data=.dict es ep)(hi:i<es.size)
  (hQ:∀h',h'.IsKeyIter it d (i+1) es.size ep->Heap.SameBut it s.heap h'->Q (some es[i].key) { s with heap:=h' }):wpAny (model P w) A (pyNext (.ref it)) Q E s:=by
 obtain⟨oi,hoi,hci,hdi⟩:=id hit
 unfold pyNext
 refine wpAny_bind (wpAny_attempt (wpAny_callSpecial?_slot (name:=Str.ofString "__next__") hit.typeIs PySem.F.slot_dict_keyiterator_next
  (wpAny_call_entry PySem.F.slot_dict_keyiterator_next hit.typeIs PySem.F.entry_dict_keyiterator_next ?_ (PySem.F.args_dict_keyiterator_next_1 _))))
 refine wpAny_bind (wpAny_pure (wpAny_bind (wpAny_bind (wpAny_bind (wpAny_typeNameOfWhole_keyiter hit.typeIs (wpAny_pure (wpAny_bind (wpAny_fieldsOf hoi hdi ?_))))))))
 have own:Builtin.Dict_items.ownsTuple "dict_keyiterator" = false:=by decide
 simp only[own,Bool.false_eq_true,if_false]
 have nn:¬ ((Value.ref d==Value.none)=true):=Bool.false_ne_true
 refine (show wpAny _ _ (if (Value.ref d==Value.none)=true then _ else _) _ _ s from ?_)
 rw[if_neg nn]
 refine wpAny_bind (wpAny_pure (wpAny_bind (wpAny_dictEntries ho hdat ?_)))
 rw[if_neg (by simp)]
 refine wpAny_bind (wpAny_pure (wpAny_bind (wpAny_dictEpoch ho hdat ?_)))
 rw[if_neg (by simp)]
 have lo:¬ ((i:Int)<0):=by omega
 refine wpAny_pure ?_
 simp only[lo,if_false,Int.toNat_natCast,Array.getElem?_eq_getElem hi]
 refine wpAny_bind (wpAny_bind (wpAny_typeNameOfWhole_keyiter hit.typeIs (wpAny_pure (wpAny_bind (wpAny_isOneOf_keyiter hit.typeIs ?_)))))
 refine (show wpAny _ _ (setField (.ref it) 1 (rawInt ((i:Int)+1)) >>= _) _ _ s from wpAny_bind (wpAny_setField hoi hdi (by simp) ?_))
 generalize eh:s.heap.update it (Obj.mapFields (·.setIfInBounds 1 (rawInt ((i:Int)+1))))=h2
 have st:h2.IsKeyIter it d (i+1) es.size ep:=by
  subst eh
  exact⟨_,Heap.get?_update_self _ hoi (Obj.isFreed_of_fields (Obj.data_mapFields hdi _)),(Obj.cls_mapFields ..).trans hci,by rw[Obj.data_mapFields hdi];simp[rawInt]⟩
 have sb:Heap.SameBut it s.heap h2:=by subst eh;exact Heap.SameBut.update ..
 refine wpAny_bind (wpAny_holding (wpAny_bind (wpAny_isOneOf_keyiter (s:={ s with heap:=h2 }) st.typeIs ?_)))
 exact wpAny_pure (wpAny_pure ⟨_,rfl,wpAny_pure (hQ h2 st sb)⟩)
theorem anyd_end {Q:Option Value->Shared->Prop}(hh:A.handled=none)(hit:s.heap.IsKeyIter it d i es.size ep)(ho:s.heap.get? d=some od)(hdat:od.data=.dict es ep)(hi:es.size<=i)
  (hQ:∀h',Heap.ExtBut it s.heap h'->Q none { s with heap:=h' }):wpAny (model P w) A (pyNext (.ref it)) Q E s:=by
 obtain⟨oi,hoi,hci,hdi⟩:=id hit
 unfold pyNext
 refine wpAny_bind (wpAny_attempt (wpAny_callSpecial?_slot (name:=Str.ofString "__next__") hit.typeIs PySem.F.slot_dict_keyiterator_next
  (wpAny_call_entry PySem.F.slot_dict_keyiterator_next hit.typeIs PySem.F.entry_dict_keyiterator_next ?_ (PySem.F.args_dict_keyiterator_next_1 _))))
 refine wpAny_bind (wpAny_pure (wpAny_bind (wpAny_bind (wpAny_bind (wpAny_typeNameOfWhole_keyiter hit.typeIs (wpAny_pure (wpAny_bind (wpAny_fieldsOf hoi hdi ?_))))))))
 have own:Builtin.Dict_items.ownsTuple "dict_keyiterator" = false:=by decide
 simp only[own,Bool.false_eq_true,if_false]
 have nn:¬ ((Value.ref d==Value.none)=true):=Bool.false_ne_true
 refine (show wpAny _ _ (if (Value.ref d==Value.none)=true then _ else _) _ _ s from ?_)
 rw[if_neg nn]
 refine wpAny_bind (wpAny_pure (wpAny_bind (wpAny_dictEntries ho hdat ?_)))
 rw[if_neg (by simp)]
 refine wpAny_bind (wpAny_pure (wpAny_bind (wpAny_dictEpoch ho hdat ?_)))
 rw[if_neg (by simp)]
 have lo:¬ ((i:Int)<0):=by omega
 refine wpAny_pure ?_
 simp only[lo,if_false,Int.toNat_natCast,Array.getElem?_eq_none hi]
 refine wpAny_bind (wpAny_bind (wpAny_typeNameOfWhole_keyiter hit.typeIs (wpAny_pure ?_)))
 refine (show wpAny _ _ (setField (.ref it) 0 .none >>= _) _ _ s from wpAny_bind (wpAny_setField hoi hdi (by simp) ?_))
 refine (show wpAny _ _ (newExc (.type "StopIteration") [] >>= _) _ _ _ from wpAny_bind ?_)
 simp only[newExc,newTuple]
 refine wpAny_bind (wpAny_newObj_type (wpAny_bind (m:=firstArgMember _ _) (wpAny_of_eq (a:=Value.none) (by simp only[firstArgMember];rfl) (wpAny_newObj_type ?_ (by size_fits)))) (by size_fits))
 simp only[raiseNew]
 have h2:A.in1.handled=none:=hh
 refine wpAny_bind (wpAny_handled ?_)
 rw[h2]
 refine wpAny_bind (wpAny_pure (wpAny_throw (wpAny_bind ?_)))
 refine wpAny_isInstance (T:="StopIteration") (b:=true) ⟨_,Heap.get?_push_size _ rfl,rfl⟩ isSubtype_stop ?_
 exact wpAny_pure (hQ _ (((Heap.SameBut.update ..).extBut.push _).push _))
end
noncomputable def Idt (d:Addr)(o:Obj)(kvs:List (List Key×V)):It :=
 ⟨fun i H=>i<kvs.length/\H d=some (.frz o (.dT kvs)),fun i H y H'=>H'=H/\∃p b,kvs[i]? = some p/\y=.ref b/\H b=some (.tup (p.1.map kV)),fun i H=>kvs.length<=i/\H d=some (.frz o (.dT kvs))⟩
theorem zlz {X:Cx}{pins:List (Addr×Obj)}{σ:St}{H:Hp}{s:Shared}{d:Addr}{o:Obj}{kvs:List (List Key×V)}{es:Array DictEntry}{ep:Nat}(I:Inv X pins σ H s)(ho:o.data=.dict es ep)(e:H d=some (.frz o (.dT kvs))) :
  s.heap.get? d=some o/\es.size=kvs.length/\∀(i:Nat) (p:List Key×V) (hi:i<es.size),kvs[i]? = some p->∃b,es[i].key=.ref b/\H b=some (.tup (p.1.map kV)):=by
 obtain⟨h1,z,hd,xs,rel,o',es',ep',h2,h3,h4,h5,h6⟩:=(show ObjOk X.prog X.w H s.heap d (.frz o (.dT kvs)) from I.hok d _ e)
 rw[h1]at h2
 cases h2
 rw[ho]at h4
 cases h4
 have hl:kvs.length=xs.length:=Paired.length rel
 have hs:es.size=xs.length:=by rw[<-Array.length_toList,h5,List.length_map]
 refine⟨h1,by omega,fun i p hi hp=>?_⟩
 obtain⟨q,hq⟩:∃q,xs[i]? = some q:=⟨_,List.getElem?_eq_getElem (by omega)⟩
 obtain⟨k1,k2,_⟩:=zh5 rel i p q hp hq
 refine⟨q.2.1,?_,k2⟩
 have e1:es.toList[i]? = some (entryOfKey (tupleKind (mixKind X.prog X.w)) q):=by rw[h5,List.getElem?_map,hq];rfl
 have e2:es.toList[i]? = some es[i]:=by rw[Array.getElem?_toList];exact Array.getElem?_eq_getElem hi
 rw[e2]at e1
 rw[Option.some.inj e1]
 rfl
theorem turn_dt {P:Program}{w:World}{K:PySem.W.Frag}{tg:Expr}(it d:Addr)(o:Obj)(es:Array DictEntry)(ep:Nat)(ho:o.data=.dict es ep)(kvs:List (List Key×V)):Turn P w K tg (Idt d o kvs) [it] it (fun i h=>h.IsKeyIter it d i es.size ep) where
 mem:=by simp
 obj:=fun i h st b hb=>by
  have e:b=it:=by simpa using hb
  subst e
  obtain⟨o,e,c,d⟩:=st
  exact⟨o,e,fun v z=>by rw[d]at z;cases z⟩
 keep:=fun i h h' st k=>by
  obtain⟨o,e,c,d⟩:=st
  exact⟨o,k it (by simp) o e,c,d⟩
 item:=by
  intro X hP hw hK hc i pins s σ H E I hf st hg
  subst hP hw hK
  obtain⟨f0,f1,f2,f3,f4,f5⟩:=hf it (by simp)
  obtain⟨hi,e⟩:=hg
  obtain⟨h1,hs,hk⟩:=zlz I ho e
  have hi2:i<es.size:=by omega
  obtain⟨p,hp⟩:∃p,kvs[i]? = some p:=⟨_,List.getElem?_eq_getElem hi⟩
  obtain⟨b,e1,e2⟩:=hk i p hi2 hp
  refine anyd_next st h1 ho hi2 fun h' st' sb=>?_
  have I1:Inv X pins σ H { s with heap:=h' }:=I.turned (t':=s.toks) (fun b o hb e=>(sb.2 b hb).trans e) f0 f1 f3 f4 f5
  obtain⟨o1,e3,c1,d1⟩:=id st'
  exact⟨_,rfl,go_of (s:={ s with heap:=h' }) e3 c1 d1 (by decide) ⟨.ref b,H,I1,by rw[e1];rfl,⟨rfl,p,b,hp,rfl,e2⟩,st',fun b hb=>(hf b hb).1⟩⟩
 done:=by
  intro X hP hw hK hc i pins s σ H E I hf st hg
  subst hP hw hK
  obtain⟨f0,f1,f2,f3,f4,f5⟩:=hf it (by simp)
  obtain⟨hi,e⟩:=hg
  obtain⟨h1,hs,hk⟩:=zlz I ho e
  exact anyd_end (I.ok.hd hc) st h1 ho (by omega) fun h' eb=>⟨rfl,I.turned (t':=s.toks) (fun b o hb e=>eb b o hb e) f0 f1 f3 f4 f5⟩
 self:=fun _ _ _ _ _ st h=>wpAny_pyIter_keyiter st h
noncomputable def iDt (tl:TE):TI:=fun σ H R=>tl σ H fun y H1=>∃a kvs,y=.ref a/\((∃o,H1 a=some (.frz o (.dT kvs))/\R (Idt a o kvs) H1)\/(H1 a=some (.dT kvs)/\∀o,R (Idt a o kvs) (upd H1 a (.frz o (.dT kvs)))))
theorem pi_dt {X:Cx}{tg l:Expr}{tl:TE}(hl:PE X l tl):PI X tg l (iDt tl):=by
 intro pins s σ H R I h
 refine thn (hl pins s σ H _ I h) fun v s1 zz=>?_
 obtain⟨y,H1,I1,r1,q1⟩:=zz
 obtain⟨a,kvs,rfl,q⟩:=q1
 cases (show v=Value.ref a from r1)
 have key:∀(H2:Hp) (o:Obj),Inv X pins σ H2 s1->H2 a=some (.frz o (.dT kvs))->R (Idt a o kvs) H2->wpAny (model X.prog X.w) X.A (pyIter (.ref a)) (PIE X pins σ tg R) X.xe s1:=fun H2 o I2 e2 r2=>by
  obtain⟨h1,z,hd,xs,rel,o',es,ep,h2,h3,h4,h5⟩:=(show ObjOk X.prog X.w H2 s1.heap a (.frz o (.dT kvs)) from I2.hok a _ e2)
  rw[h1]at h2
  cases h2
  refine anyd_iter hd h1 h3 h4 ?_
  refine⟨s1.heap.objs.size,[s1.heap.objs.size],_,_,H2,rfl,I2.kept (t':=s1.toks) fun b u e=>Heap.get?_push_of_some _ e,turn_dt _ a o es ep h4 kvs,⟨_,Heap.get?_push_size _ rfl,rfl,rfl⟩,fun b hb=>?_,r2⟩
  have e:b=s1.heap.objs.size:=by simpa using hb
  subst e
  exact I2.fpOk (Nat.le_refl _) (I2.hok.fresh (Nat.le_refl _))
 rcases q with⟨o,e,r⟩ | ⟨e,r⟩
 ·exact key H1 o I1 e r
 ·obtain⟨z,hd,xs,rel,o,es,ep,h2,h3⟩:=(show ObjOk X.prog X.w H1 s1.heap a (.dT kvs) from I1.hok a _ e)
  have ne:∀q∈xs,q.2.1≠a:=fun q hq z=>by
   obtain⟨i,hi⟩:=List.getElem?_of_mem hq
   obtain⟨p,hp⟩:∃p,kvs[i]? = some p:=⟨_,List.getElem?_eq_getElem (by rw[Paired.length rel];exact (List.getElem?_eq_some_iff.mp hi).1)⟩
   have k:=(zh5 rel i p q hp hi).2.1
   rw[z,e]at k
   cases k
  have new:ObjOk X.prog X.w (upd H1 a (.frz o (.dT kvs))) s1.heap a (.frz o (.dT kvs)):=by
   refine⟨h2,z,hd,xs,?_,o,es,ep,h2,h3⟩
   have go:∀(l1:List (List Key×V)) (l2:List (List Key×Addr×Value)),(∀q∈l2,q.2.1≠a)->Paired (fun (p:List Key×V) (q:List Key×Addr×Value)=>p.1=q.1/\H1 q.2.1=some (.tup (p.1.map kV))/\RelV p.2 q.2.2) l1 l2->Paired (fun (p:List Key×V) (q:List Key×Addr×Value)=>p.1=q.1/\upd H1 a (.frz o (.dT kvs)) q.2.1=some (.tup (p.1.map kV))/\RelV p.2 q.2.2) l1 l2:=by
    intro l1 l2 hn hp
    induction hp with
    | nil=>exact .nil
    | cons r t ih=>exact .cons ⟨r.1,by rw[zcx (hn _ (List.mem_cons_self))];exact r.2.1,r.2.2⟩ (ih fun q hq=>hn q (List.mem_cons_of_mem _ hq))
   exact go kvs xs ne rel
  exact key (upd H1 a (.frz o (.dT kvs))) o (I1.write (x:=a) (e:=a) (t':=s1.toks) (h':=s1.heap) (by rw[e];trivial) (.inl rfl) (fun b u _ z=>z) ⟨o,h2⟩ new) zbd (r o)
end L2
namespace M
open PySem PySem.Spec L2
noncomputable def dtI (m:ME):MI:=fun env st=>(m env st).bind fun d st1=>match d with
 | .loc n=>(match st1[n]? with
  | some (.dic kvs)=>.ok (kvs.map (fun p=>.tup (p.1.map keyD)),[]) (st1.set n (.dtf kvs))
  | some (.dtf kvs)=>.ok (kvs.map (fun p=>.tup (p.1.map keyD)),[]) st1
  | _=>.bad)
 | _=>.bad
section
variable {X:Cx}{tg l a b:Expr}{ml ma mb:ME}{μ:List Addr}{H:Hp}{K:PySem.W.Frag}{st:Stor}{pos:Pos}
theorem RepVs.keyDs:∀(ks:List Key),RepVs K μ H (ks.map M.keyD) (ks.map kV)
 | []=>RepVs.nil
 | k::r=>RepVs.cons (RepV.keyD k) (RepVs.keyDs r)
theorem RepKV.keyAtG {κ:Type}:∀{kvs:List (κ×D)} {ws:List (κ×V)},RepKV K μ H kvs ws->kvs.length=ws.length/\∀(i:Nat) (p:κ×D) (q:κ×V),kvs[i]? = some p->ws[i]? = some q->p.1=q.1
 | [],_,h=>by cases h;exact⟨rfl,fun i p q h1=>by simp at h1⟩
 | (k,d)::r,_,⟨v,s,rfl,h1,h2⟩=>by
  obtain⟨l,hk⟩:=RepKV.keyAtG h2
  refine⟨by simp[l],fun i p q e1 e2=>?_⟩
  cases i with
  | zero=>simp at e1 e2;subst e1;subst e2;rfl
  | succ i=>exact hk i p q (by simpa using e1) (by simpa using e2)
theorem idt_rep {a:Addr}{o:Obj}{kvs:List (List Key×D)}{ws:List (List Key×V)}(e:H a=some (.frz o (.dT ws)))(h:RepKV X.K μ H kvs ws):ItRep X μ H (Idt a o ws) (kvs.map (fun p=>.tup (p.1.map M.keyD)),[]):=by
 intro H' μ' st' g hs ok
 obtain⟨hl,hk⟩:=h.keyAtG
 have e':=g.ext.frz _ _ _ e
 refine⟨fun i d ed=>?_,⟨by simp[hl],e'⟩⟩
 rw[List.getElem?_map]at ed
 obtain⟨p,e1,rfl⟩:=Option.map_eq_some_iff.mp ed
 have hi:=(List.getElem?_eq_some_iff.mp e1).1
 refine⟨⟨by omega,e'⟩,?_⟩
 rintro x H'' ⟨rfl,q,b,hq,rfl,hb⟩
 refine⟨.refl _ _,hs,?_⟩
 rw[hk i p q e1 hq]
 exact RepV.tup_iff.mpr ⟨b,_,rfl,.inl hb,RepVs.keyDs _⟩
theorem ji_dt (hl:JE X l ml):JI X tg l (dtI ml):=by
 refine JI.of (pi_dt hl) fun σ H R zz=>?_
 obtain⟨μ,env,st,hE,hs,hp⟩:=zz
 refine⟨μ,env,st,hE,hs,(Post.bind hp).imp ?_⟩
 rintro v H1 ⟨μ1,st1,d,g1,hs1,hv,hp1⟩
 dsimp only at hp1
 split at hp1
 ·rename_i n
  obtain⟨a,q1,rfl⟩:=RepV.loc_iff.mp hv
  split at hp1
  ·rename_i kvs e1
   obtain⟨a',r1,ws,r2,r3⟩:=hs1.at_ n _ e1
   rw[q1]at r1;cases r1
   refine⟨a,ws,rfl,.inr ⟨r2,fun o=>?_⟩⟩
   have g:Ext H1 (upd H1 a (.frz o (.dT ws))):=Ext.mut r2 (fun _ z=>nomatch z) (fun _ _ z=>nomatch z)
   have g':Grow μ1 H1 μ1 (upd H1 a (.frz o (.dT ws))):=⟨⟨[],by simp⟩,g⟩
   exact hp1 _ _ μ1 g' (hs1.putF e1 rfl q1 g ⟨ws,o,zbd,r3.mono g'⟩) (idt_rep zbd (r3.mono g'))
  ·rename_i kvs e1
   obtain⟨a',r1,ws,o,r2,r3⟩:=hs1.at_ n _ e1
   rw[q1]at r1;cases r1
   exact⟨a,ws,rfl,.inl ⟨o,r2,hp1 _ _ _ (.refl _ _) hs1 (idt_rep r2 r3)⟩⟩
  ·exact hp1.elim
 ·exact hp1.elim
end
theorem r_dtI_c {m:ME}{env:MEnv}{st st1:Stor}{n:Nat}{kvs:List (List Key×D)}(h:m env st=.ok (.loc n) st1)(e:st1[n]? = some (.dic kvs)):dtI m env st=.ok (kvs.map (fun p=>.tup (p.1.map keyD)),[]) (st1.set n (.dtf kvs)):=by
 unfold dtI;rw[h];simp only[R.bind,e]
theorem r_dtI_f {m:ME}{env:MEnv}{st st1:Stor}{n:Nat}{kvs:List (List Key×D)}(h:m env st=.ok (.loc n) st1)(e:st1[n]? = some (.dtf kvs)):dtI m env st=.ok (kvs.map (fun p=>.tup (p.1.map keyD)),[]) st1:=by
 unfold dtI;rw[h];simp only[R.bind,e]
end M
namespace L2
open PySem PySem.Spec PyProof.Rows
section
variable {X:Cx}{pins:List (Addr×Obj)}{σ:St}{H:Hp}{s:Shared}{h':Heap}{lo:Nat}{e C dx:Addr}{E:Value->Shared->Prop}
structure Own (X:Cx):Prop where
 stk:X.stack=X.env::X.outer
 frm:X.env.frame=some X.env.locals
 pn:X.pn=[]
end
end L2
namespace L2
open PySem PySem.Spec PyProof.Rows
section
variable {X:Cx}{W:Addr->Addr->Hp->Prop}{P:Program}{w:World}
end
end L2
namespace L2
open PySem PySem.Spec PyProof.Rows
section
variable {prog:Program}{w:World}{A:Around}{E:Value->Shared->Prop}{h:Heap}{g:Array GenState}{d:Drawn}{t:Nat}{os:OsState}
variable {nm q nm1 q1:Str}{C N C1 N1:Addr}{bs bm bs1 bm1:List Value}{hdct hdct1:Bool}{sn sn1:List Str}{sub sub1:List Value}{ab ab1:Bool}{col col1:Option Bool}{dd dd1:Option Addr}{k0 k1 k2 k3 k5 j0 j1 j2 j3 j5:Option Value}{newId1:String}{mN mN1:Str->Option Value}
end
end L2
set_option maxHeartbeats 0
namespace L2
open PySem PySem.Spec PyProof.Rows
section
variable {prog:Program}{w:World}{A:Around}{E:Value->Shared->Prop}{h:Heap}{g:Array GenState}{d:Drawn}{t:Nat}{os:OsState}
variable {nm q:Str}{C N C1 N1:Addr}{bs bm:List Value}{hdct:Bool}{sn:List Str}{sub:List Value}{ab:Bool}{col:Option Bool}{dd:Option Addr}{k0 k1 k2 k3 k5:Option Value}{newId:String}{mN mN1:Str->Option Value}
structure Two (h:Heap)(C C1 fI:Addr):Prop where
 c:∃nm q N bs sn sub ab col dd k0 k1 k2 k3 k5 mN,h.get? C=some (excClassObj nm q C N bs [.ref C1,.type "ValueError",.type "Exception",.type "BaseException",.type "object"] true sn sub ab col dd k0 k1 k2 k3 k5 "ValueError.__new__")/\h.Ns N mN/\∀x:Str,x∈([("__init__":Str),"at","__setattr__","__getattribute__","__getattr__","__class__"]:List Str)->mN x=none
 c1:∃nm q N bs bm hd sn sub ab col dd k0 k1 k2 k3 k5 nid mN,h.get? C1=some (excClassObj nm q C1 N bs bm hd sn sub ab col dd k0 k1 k2 k3 k5 nid)/\h.Ns N mN/\mN "__init__" = some (.ref fI)/\∀x:Str,x∈([("at":Str),"__setattr__","__getattribute__","__getattr__","__class__"]:List Str)->mN x=none
 f:∃oI,h.get? fI=some oI/\oI.cls=.type "function"
end
end L2
set_option maxHeartbeats 0
namespace L2
open PySem PySem.Spec PyProof.Rows
section
variable {prog:Program}{w:World}{A:Around}{E:Value->Shared->Prop}{h:Heap}{g:Array GenState}{d:Drawn}{t:Nat}{os:OsState}{C C1 fI:Addr}
end
end L2
set_option maxHeartbeats 0
namespace L2
open PySem PySem.Spec PyProof.Rows
section
variable {prog:Program}{w:World}{A:Around}{E:Value->Shared->Prop}{h:Heap}{g:Array GenState}{d:Drawn}{t:Nat}{os:OsState}{C C1 fI:Addr}
end
end L2
set_option maxHeartbeats 0
namespace L2
open PySem PySem.Spec PyProof.Rows
section
variable {prog:Program}{w:World}{A:Around}{E:Value->Shared->Prop}{h:Heap}{g:Array GenState}{d:Drawn}{t:Nat}{os:OsState}{C C1 fI:Addr}
end
end L2
set_option maxHeartbeats 0
namespace L2
open PySem PySem.Spec PyProof.Rows
section
variable {X:Cx}{e:Expr}{te:TE}{p pos p1 p2 p3:Pos}{x:Str}{j:Nat}{pins:List (Addr×Obj)}{σ:St}{H:Hp}{s:Shared}
end
end L2
set_option maxHeartbeats 0
namespace L2
open PySem PySem.Spec PyProof.Rows
section
variable {X:Cx}{pins:List (Addr×Obj)}{σ:St}{H:Hp}{s:Shared}
end
end L2
set_option maxHeartbeats 0
namespace L2
open PySem PySem.Spec PyProof.Rows
section
variable {X:Cx}{pins:List (Addr×Obj)}{σ:St}{H:Hp}{s:Shared}
end
end L2
namespace M
open PySem PySem.Spec L2
end M
set_option maxHeartbeats 0
namespace L2
open PySem PySem.Spec PyProof.Rows
section
variable {X:Cx}{CX:CXT}{k:Nat}{f C:Addr}{fd:FuncData}{ps:List Str}{sp:Sp}{dvs:List V}{ds:List Value}{x m:Str}{p pos apos:Pos}{e o:Expr}{es:List Expr}{ta:TE}{t:TA}{pins:List (Addr×Obj)}{σ:St}{H:Hp}{s:Shared}{Q:VK}
end
end L2
namespace M
open PySem PySem.Spec L2
section
variable {P:Program}{w:World}{K:PySem.W.Frag}{mg:Str->Option Value}{base:Heap}
end
section
variable {X:Cx}{e:Expr}{es:List Expr}{mA:MA}{pos p:Pos}{x:Str}{k:Nat}{f:Addr}{fd:FuncData}{ps:List Str}{F:FD}{dvs:List V}{ds:List Value}{dd:List D}
end
end M
set_option maxHeartbeats 0
namespace L2
open PySem PySem.Spec PyProof.Rows
section
variable {X:Cx}{pins:List (Addr×Obj)}{σ:St}{H:Hp}{s:Shared}
end
end L2
set_option maxHeartbeats 0
namespace L2
open PySem PySem.Spec PyProof.Rows
section
variable {X:Cx}{c:Expr}{pos:Pos}
end
end L2
namespace M
open PySem PySem.Spec L2
section
variable {K:PySem.W.Frag}{μ:List Addr}{H:Hp}{st:Stor}{dx e:Addr}{od oe:Obj}{fs:List (Str×V)}
end
section
variable {X:Cx}{e:Expr}{es:List Expr}{mA:MA}{pos p p1 p2 p3 p4 p5 p6:Pos}{x c1 n y:Str}{k:Nat}{f C1:Addr}{fd:FuncData}{ps:List Str}{F:FD}{dvs:List V}{ds:List Value}{dd:List D}{bst:Stmt}{i:Option Nat}{ie iy:Nat}{ok:String->Bool}
end
end M
set_option maxHeartbeats 0
namespace L2
open PySem PySem.Spec PyProof.Rows PySem.W
noncomputable def nsOkIn (K:Frag)(N:Addr)(no:List Str)(init:Option Value):Bool:=match K.lookup N with
 | some ⟨_,_,.dict es _,_⟩=>es.toList.all (fun e=>match e.key with | .str _ _=>true | _=>false) && no.all (fun x=>(nsFind es x).isNone) && (match init with | none=>true | some v=>nsFind es "__init__" == some v)
 | _=>false
noncomputable def xcIn (K:Frag)(C:Addr)(bm0:Option (List Value))(no:List Str)(init:Option Value):Bool:=match K.lookup C with
 | some ⟨.type "type",_,.cls cd,sl⟩=>(match cd.mro,sl.toList with
  | .ref C'::bm,[_,_,_,_,some (.builtin n),_]=>C'==C && !cd.hasDel && (match bm0 with | none=>true | some b=>cd.hasDict && n == "ValueError.__new__" && bm==b) && nsOkIn K cd.ns no init
  | _,_=>false)
 | _=>false
noncomputable def fnIn (K:Frag)(f:Addr):Bool:=match K.lookup f with
 | some ⟨.type "function",_,_,_⟩=>true
 | _=>false
noncomputable def twoIn (K:Frag)(C C1 fI:Addr):Bool :=
 xcIn K C (some [.ref C1,.type "ValueError",.type "Exception",.type "BaseException",.type "object"]) [("__init__":Str),"at","__setattr__","__getattribute__","__getattr__","__class__"] none &&
 xcIn K C1 none [("at":Str),"__setattr__","__getattribute__","__getattr__","__class__"] (some (.ref fI)) && fnIn K fI
end L2
namespace M
open PySem PySem.Spec L2
noncomputable def exCls (c:String):Bool:=c == "NoProgram" || c == "NoTree"
noncomputable def subX (c T:String):Bool:=c==T || T == "OneError" || T == "ValueError"
noncomputable def isXV (T:String):D->Stor->R D:=fun d st=>match d with
 | .loc n=>(match st[n]? with
  | some (.exc c _)=>if exCls c then .ok (.bl (subX c T)) st else .bad
  | _=>.bad)
 | _=>.bad
noncomputable def noCls (K:PySem.W.Frag)(x:Str):Bool:=match PySem.W.nsIn K mainGlobals x with
 | some (some (.ref _))=>false
 | _=>true
structure ExcK (K:PySem.W.Frag)(C1 fI CP CT:Addr):Prop where
 nP:PySem.W.nsIn K mainGlobals (("NoProgram":String):Str)=some (some (.ref CP))
 nT:noCls K (("NoTree":String):Str)=true
 tP:twoIn K CP C1 fI=true
 b1:PySem.W.ktsIn K C1 "BaseException" = true
 kPV:PySem.W.kitOne K (.ref CP) (.type "ValueError")=some true
section
variable {K:PySem.W.Frag}{C1 fI CP CT:Addr}
end
section
variable {X:Cx}{e:Expr}{ma:ME}{p p2 pos:Pos}{C1 fI CP CT:Addr}
noncomputable def rIx (X:Cx)(T:String)(cv:V):List V->Hp->VK->Prop:=fun xs H Q=>∃μ st d x,xs=[x,cv]/\RepS X.K μ H st/\RepV X.K μ H d x/\Post X μ H (relV X) Q (isXV T d st)
end
end M
namespace L2
open PySem PySem.Spec PyProof.Rows PySem.Calls
section
variable {X:Cx}
end
end L2
namespace M
open PySem PySem.Spec L2
section
variable {X:Cx}
end
end M
namespace M
end M
namespace L2
open PySem PySem.Spec PyProof.Rows
section
variable {X:Cx}
end
end L2
namespace M
open PySem PySem.Spec L2
end M
namespace M
open PySem PySem.Spec L2
noncomputable def notInSV:D->D->Stor->R D
 | .str [c],.str cs,st=>if cs.length<=1000000 then .ok (.bl (!decide (c∈cs))) st else .bad
 | _,_,_=>.bad
theorem zls {X:Cx}:OpR X (compareOp .NotIn) (rM X notInSV):=by
 refine OpR.weak zjd ?_
 rintro x y H Q ⟨μ,st,dx,dy,hs,hx,hy,hp⟩
 unfold notInSV at hp
 split at hp
 ·rename_i c cs
  split at hp
  ·obtain rfl:=RepV.str_iff.mp hx
   obtain rfl:=RepV.str_iff.mp hy
   refine⟨_,_,rfl,rfl,?_⟩
   have e:=PySem.StrLaws.found_one (strOf cs) c
   have e2:(strOf [c])=⟨#[c]⟩:=rfl
   rw[e2,e]
   refine hp.ret hs (RepV.bl_iff.mpr ?_)
   simp
  ·exact hp.elim
 ·exact hp.elim
end M
namespace ST
end ST
namespace ST
open PySem PySem.SetTable
noncomputable def lp (mask:Nat):Nat->Nat×Nat->Nat×Nat
 | 0,x=>x
 | n+1,x=>lp mask n (leap mask x.1 x.2)
end ST
namespace ST
open PySem PySem.SetTable
noncomputable def cnt (owner:Array (Option Nat)):Nat:=owner.toList.countP Option.isSome
structure Lay (mask n:Nat)(owner:Array (Option Nat)):Prop where
 size:owner.size=mask+1
 cnt_:cnt owner=n
 lt:∀(i:Nat) (v:Nat),owner[i]? = some (some v)->v<n
end ST
namespace ST
open PySem PySem.SetTable
section
variable {prog:Program}{w:World}{K:Type}[DecidableEq K]{knd:KeyKind prog w K}{A:Around}{E:Value->Shared->Prop}{s:Shared}
end
end ST
namespace ST
open PySem PySem.SetTable
section
variable {prog:Program}{w:World}{K:Type}[DecidableEq K]{knd:KeyKind prog w K}{A:Around}{E:Value->Shared->Prop}
structure Lies (knd:KeyKind prog w K)(h:Heap)(S:Addr)(o:Obj)(es:Array (Int×Value))(ep:Nat)(t:SetTable)(kk:Nat)(k:List K):Prop where
 ho:h.get? S=some o
 hd:o.data=.set es ep t
 fits:t.fits es.size=true
 dm:t.dummies=#[]
 pw:t.mask+1=2 ^ (kk+3)
 el:∀e∈es.toList,∃ks b,IsTupleKey knd h ks b/\e.2=.ref b/\ks≠k
end
end ST
namespace ST
open PySem PySem.SetTable
section
variable {prog:Program}{w:World}{K:Type}[DecidableEq K]{knd:KeyKind prog w K}{A:Around}{E:Value->Shared->Prop}
end
end ST
namespace ST
open PySem PySem.SetTable
section
variable {prog:Program}{w:World}{K:Type}[DecidableEq K]{knd:KeyKind prog w K}
variable {G:Around}{R:Result->Shared->Prop}{it:Addr}{fp wr:List Addr}{n:Nat}{P:Nat->Value->Prop}{Sx:Nat->Heap->Prop}
end
end ST
namespace ST
open PySem PySem.SetTable
section
variable {prog:Program}{w:World}{K:Type}[DecidableEq K]{knd:KeyKind prog w K}{G:Around}{E:Value->Shared->Prop}{z:Shared}
set_option maxHeartbeats 3200000 in
end
end ST
namespace L2
open PySem PySem.Spec PyProof.Rows
section
variable {X:Cx}{x y:Str}{p pos p2 pos2:Pos}{e:Expr}{te:TE}
end
end L2
namespace M
open PySem PySem.Spec L2
section
variable {X:Cx}{x y:Str}{p pos p2 pos2:Pos}{e:Expr}{m:ME}
end
end M
namespace ST
open PySem PySem.W PyProof.Rows
noncomputable def runT {α:Type}(lt:Nat->Nat->Bool):KasT α->α
 | .ret a=>a
 | .ask i j k=>runT lt (k (lt i j))
structure Pl (n:Nat)(p:Array Nat):Prop where
 pos:0<n
 size:p.size=n
 all:∀x∈p,x<n
variable {lt:Nat->Nat->Bool}{n:Nat}
noncomputable def order (lt:Nat->Nat->Bool)(n:Nat):List Nat:=if n<2 then List.range n else (runT lt (kas_sort n)).toList
end ST
namespace ST
open PySem PySem.W PyProof.Rows
section
variable {prog:Program}{w:World}{A:Around}{E:Value->Shared->Prop}{s:Shared}
end
end ST
namespace ST
open PySem PySem.W PyProof.Rows
section
variable {prog:Program}{w:World}{A:Around}{E:Value->Shared->Prop}{s:Shared}
end
end ST
namespace L2
open PySem PySem.Spec PyProof.Rows
variable {X:Cx}
end L2
namespace M
open PySem PySem.Spec L2
variable {X:Cx}
end M
namespace M
open PySem PySem.Spec PySem.SeqAt L2
variable {X:Cx}
end M
namespace SS
open PySem PySem.SetTable
section
variable {prog:Program}{w:World}{A:Around}{E:Value->Shared->Prop}{s:Shared}
noncomputable def byT (w:World):Bool:=w.params.followText "set-order"
noncomputable abbrev tx:=PyProof.Rows.strOf
noncomputable def SetS (prog:Program)(w:World)(h:Heap)(a:Addr)(l:List Str):Prop :=
 ∃o es ep t,h.get? a=some o/\o.ExactSet/\o.data=.set es ep t/\ElemsOf (strKind prog w) es.toList/\List.Perm (es.toList.map fun e=>tx e.2) l/\es.size<scanBound/\t.fits es.size=true/\t.led=!byT w/\(l≠[]->t.plain=false)
theorem is_tx {k:Str}{v:Value}:(strKind prog w).is k v=true->tx v=k:=fun h=>by
 obtain⟨t,rfl⟩:=Value.isStrOf_shape h;rfl
theorem is_str (k:Str)(u:Tok):(strKind prog w).is k (.str k u)=true:=by
 show Value.isStrOf k (.str k u)=true
 unfold Value.isStrOf;simp
theorem lay_flags (t:SetTable)(es:Array (Int×Value))(h:Int)(x:Value):(layNew t es h x).2.1.led=t.led/\((layNew t es h x).2.1.plain=t.plain\/(layNew t es h x).2.1.plain=false):=by
 unfold layNew
 split
 ·dsimp only
  unfold orStandIn
  split
  ·exact⟨rfl,.inl rfl⟩
  ·exact⟨rfl,.inr rfl⟩
 ·exact⟨rfl,.inr rfl⟩
theorem zk0 {mask finger moves:Nat}{led plain:Bool}{hs:Array Int}{r:SetTable×Array Nat}(h:laid mask finger moves led plain hs=some r):r.1.led=led/\r.1.plain=plain:=by
 unfold laid at h
 cases ho:layClean mask hs with
 | none=>rw[ho]at h;cases h
 | some ow =>
  rw[ho]at h
  cases h
  exact⟨rfl,rfl⟩
theorem zkw (t:SetTable)(es:Array (Int×Value))(n:Nat):(relayAll t es n).2.1.led=t.led/\((relayAll t es n).2.1.plain=t.plain\/(relayAll t es n).2.1.plain=false):=by
 unfold relayAll
 split
 ·rename_i t' order h
  have:=zk0 h
  dsimp only
  split
  ·exact⟨this.1,.inl this.2⟩
  ·exact⟨rfl,.inr rfl⟩
 ·exact⟨rfl,.inr rfl⟩
theorem tail_s {g:Bool->Sem Unit}(hg:∀(b:Bool) (s₁:Shared) (Q':Unit->Shared->Prop),Q' () s₁->wpAny (model prog w) A (g b) Q' E s₁)
  {a:Addr} {o:Obj} {es:Array (Int×Value)} {ep:Nat} {t:SetTable} (ho:s.heap.get? a=some o) (hex:o.ExactSet) (hd:o.data=.set es ep t)
  {es1:Array (Int×Value)} {t2:SetTable} {l:List Str} (hel:ElemsOf (strKind prog w) es1.toList) (hl:List.Perm (es1.toList.map fun e=>tx e.2) l) (hb:es1.size<scanBound) (hf:t2.fits es1.size=true) (hled:t2.led=!byT w) (hpl:t2.plain=false)
  {wasDummy:Bool} {R:Option Bool->Shared->Prop} (h:∀h',Heap.SameBut a s.heap h'->SetS prog w h' a l->R (some true) { s with heap:=h' }) :
  wpAny (model prog w) A (do
    storeSet a es1 t2
    if (!wasDummy && t2.tooFull)=true then do
      g (relayAll t2 es1 (SetTable.grown es1.size)).2.2
      storeSet a (relayAll t2 es1 (SetTable.grown es1.size)).1 (relayAll t2 es1 (SetTable.grown es1.size)).2.1
      pure (some true)
     else pure (some true)) R E s:=by
 refine wpAny_bind (wpAny_storeSet_of ho hd ?_ (fits_of_scanBound hb))
 have hg1:(s.heap.update a (Obj.putSet es1 t2)).get? a=some { o with data:=.set es1 (ep+1) t2 }:=by
  have:=Heap.get?_update_self (Obj.putSet es1 t2) ho (by rw[putSet_of es1 t2 hd];rfl)
  rw[putSet_of es1 t2 hd]at this;exact this
 have hsb1:=Heap.SameBut.update s.heap a (Obj.putSet es1 t2)
 split
 ·have hp:=relayAll_perm t2 es1 (SetTable.grown es1.size)
  have hfr:=relayAll_fits t2 es1 (SetTable.grown es1.size)
  have hfl:=zkw t2 es1 (SetTable.grown es1.size)
  generalize relayAll t2 es1 (SetTable.grown es1.size)=Rl at hp hfr hfl ⊢
  obtain⟨es2,t3,gave⟩:=Rl
  dsimp only at hp hfr hfl ⊢
  have hsz:es2.size=es1.size:=by rw[<-Array.length_toList,hp.length_eq,Array.length_toList]
  refine wpAny_bind (hg _ _ _ ?_)
  refine wpAny_bind (wpAny_storeSet_of (s:={ s with heap:=s.heap.update a (Obj.putSet es1 t2) }) hg1 rfl ?_ (fits_of_scanBound (by rw[hsz];exact hb)))
  have hg2:((s.heap.update a (Obj.putSet es1 t2)).update a (Obj.putSet es2 t3)).get? a=some { o with data:=.set es2 (ep+1+1) t3 }:=by
   have:=Heap.get?_update_self (Obj.putSet es2 t3) hg1 (by rw[putSet_of es2 t3 rfl];rfl)
   rw[putSet_of es2 t3 rfl]at this;exact this
  exact wpAny_pure (h _ (hsb1.trans (Heap.SameBut.update _ a _)) ⟨_,es2,ep+1+1,t3,hg2,hex,rfl,hel.perm hp,(hp.map _).trans hl,by rw[hsz];exact hb,hfr,by rw[hfl.1,hled],fun _=>by rcases hfl.2 with e | e;exact e.trans hpl;exact e⟩)
 ·exact wpAny_pure (h _ hsb1 ⟨_,es1,ep+1,t2,hg1,hex,rfl,hel,hl,hb,hf,hled,fun _=>hpl⟩)
noncomputable def addS (l:List Str)(k:Str):List Str:=if k∈l then l else l++[k]
theorem add_s {a:Addr}{l:List Str}{k:Str}{u:Tok}{Q:Bool->Shared->Prop}(hS:SetS prog w s.heap a l)(hr:l.length+1<scanBound)
  (h:∀b h',Heap.SameBut a s.heap h'->SetS prog w h' a (addS l k)->Q b { s with heap:=h' }) :
  wpAny (model prog w) A (setAddHashed a (.str k u) ((strKind prog w).hash k)) Q E s:=by
 obtain⟨o,es,ep,t,ho,hex,hd,hel,hlp,hb,hf,hled,hpl⟩:=hS
 have hkey:(strKind prog w).is k (.str k u)=true:=is_str k u
 have hsc:(Value.str k u).scannable=true:=rfl
 have hesl:es.size=l.length:=by rw[<-hlp.length_eq,List.length_map,Array.length_toList]
 unfold setAddHashed setAddHashedIn
 refine wpAny_holding (wpAny_bind (wpAny_setState_of ho hd hf ?_))
 dsimp only
 rw[byScan_of hsc hb hel]
 simp only[↓reduceIte]
 unfold setAddByScan
 refine wpAny_bind (wpAny_bind (wpAny_rule ?_))
 refine wpAny_bind (wpAny_setScan_of hkey ho hd hf hel ?_)
 cases hr2:List.findIdx? (fun e=>(strKind prog w).is k e.2) es.toList with
 | some j =>
  dsimp only
  obtain⟨hj,hpj,_⟩:=List.findIdx?_eq_some_iff_getElem.mp hr2
  have hkl:k∈l:=hlp.mem_iff.mp (List.mem_map.mpr ⟨es.toList[j],List.getElem_mem hj,is_tx hpj⟩)
  refine wpAny_pure (wpAny_pure ?_)
  have e:s={ s with heap:=s.heap }:=by cases s;rfl
  have:=h false s.heap (Heap.SameBut.refl a s.heap) ⟨o,es,ep,t,ho,hex,hd,hel,by unfold addS;rw[if_pos hkl];exact hlp,hb,hf,hled,by unfold addS;rw[if_pos hkl];exact hpl⟩
  rw[e];exact this
 | none =>
  dsimp only
  have hkl:k∉l:=fun hk=>by
   obtain⟨e,he,q⟩:=List.mem_map.mp (hlp.mem_iff.mpr hk)
   have:=List.findIdx?_eq_none_iff.mp hr2 e he
   obtain⟨⟨k',hk',_⟩,_⟩:=hel e he
   have:=is_tx hk'
   rw[q]at this
   subst this
   simp_all
  have hgw:∀(b:Bool) {s₁:Shared} {Q':Unit->Shared->Prop},Q' () s₁->wpAny (model prog w) A (match b with | true=>rule "set.scan.the-table-gave-way" | false=>pure ()) Q' E s₁ :=
   fun b s₁ Q' hq=>by cases b<;>first | exact wpAny_pure hq | exact wpAny_rule hq
  have hperm:=layNew_perm t es ((strKind prog w).hash k) (.str k u)
  have hfits:=layNew_fits t es ((strKind prog w).hash k) (.str k u)
  have hfl:=lay_flags t es ((strKind prog w).hash k) (.str k u)
  generalize layNew t es ((strKind prog w).hash k) (.str k u)=L at hperm hfits hfl ⊢
  obtain⟨es1,t1,wasDummy,gave⟩:=L
  dsimp only at hperm hfits hfl ⊢
  rw[Array.toList_push]at hperm
  have hel1:ElemsOf (strKind prog w) es1.toList:=(hel.push hkey hsc).perm hperm
  have hl1:List.Perm (es1.toList.map fun e=>tx e.2) (addS l k):=by
   have h1:=hperm.map fun e=>tx e.2
   rw[List.map_append]at h1
   unfold addS
   rw[if_neg hkl]
   exact h1.trans (hlp.append_right _)
  have hsz1:es1.size=l.length+1:=by rw[<-Array.length_toList,hperm.length_eq,List.length_append,Array.length_toList,hesl];rfl
  have hled1:t1.led=!byT w:=by rw[hfl.1,hled]
  refine wpAny_bind (hgw _ ?_)
  have hend:∀h',Heap.SameBut a s.heap h'->SetS prog w h' a (addS l k)->Q true { s with heap:=h' }:=fun h' h1 h2=>h true h' h1 h2
  split
  ·refine wpAny_bind ?_
   rw[hashByValue_scannable 8 hsc]
   refine wpAny_pure ?_
   refine tail_s (l:=addS l k) ?_ ho hex hd hel1 hl1 (by rw[hsz1];exact hr) ?_ ?_ ?_ ?_
   ·intro b s₁ Q' hq;cases b<;>first | exact wpAny_pure hq | exact wpAny_rule hq
   ·exact SetTable.fits_plain_off hfits
   ·exact hled1
   ·rfl
   ·intro h' hsb hS';dsimp only;exact wpAny_pure (hend h' hsb hS')
  ·rename_i hnp
   refine wpAny_bind (wpAny_pure ?_)
   simp only[↓reduceIte]
   refine tail_s (l:=addS l k) ?_ ho hex hd hel1 hl1 (by rw[hsz1];exact hr) hfits hled1 (by simpa using hnp) ?_
   ·intro b s₁ Q' hq;cases b<;>first | exact wpAny_pure hq | exact wpAny_rule hq
   ·intro h' hsb hS';dsimp only;exact wpAny_pure (hend h' hsb hS')
theorem addS_len (l:List Str)(k:Str):(addS l k).length<=l.length+1:=by unfold addS;split<;>simp
theorem SetS.at' {h h':Heap}{a:Addr}{l:List Str}(H:SetS prog w h a l)(hk:∀o,h.get? a=some o->h'.get? a=some o):SetS prog w h' a l:=by
 obtain⟨o,es,ep,t,h1,h2⟩:=H
 exact⟨o,es,ep,t,hk _ h1,h2⟩
variable {G:Around}{R:Result->Shared->Prop}{it:Addr}{fp wr:List Addr}{n:Nat}{P:Nat->Value->Prop}{Sx:Nat->Heap->Prop}
noncomputable def addsS (kf:Nat->Str):Nat->List Str
 | 0=>[]
 | n+1=>addS (addsS kf n) (kf n)
theorem zki (kf:Nat->Str):∀n,(addsS kf n).length<=n
 | 0=>Nat.le_refl _
 | n+1=>Nat.le_trans (addS_len _ _) (Nat.succ_le_succ (zki kf n))
theorem upd_s (V:Walks prog w G.in1 it fp wr n P Sx)(S:Addr)(hS:S∉fp)(kf:Nat->Str)(hP:∀i v,P i v->∃u,v=.str (kf i) u)(hn:n<=4000)(left:Nat) :
  ∀(j:Nat) (z:Shared),n=j+left->Sx j z.heap->SetS prog w z.heap S (addsS kf j) ->
  (∀g tk,(∀b o,b∉wr->b≠S->z.heap.get? b=some o->g.get? b=some o)->SetS prog w g S (addsS kf n)->R (.ok (.ret .none)) { z with heap:=g,toks:=tk }) ->
  codeAny (model prog w) G (.builtin "set.update.loop" ⟨[.ref S,.ref it],[]⟩) R z:=by
 have nS:S∉wr:=fun q=>hS (V.sub _ q)
 induction left with
 | zero =>
  intro j z hj hs H done
  obtain rfl:n=j:=by omega
  refine codeAny_builtin PyProof.Rows.F.entry_set_update_loop ?_
  rw[Around.under_plainId PyProof.Rows.F.plain_set_update_loop _]
  show wpAny _ G.in1 (pyNext (.ref it) >>= _) _ _ z
  refine wpAny_bind (V.done z _ _ hs fun g tk kp=>?_)
  show wpAny _ G.in1 (ret Value.none) _ _ _
  exact wpAny_pure (done g tk (fun b o h1 _ e=>kp b o h1 e) (H.at' fun o e=>kp S o nS e))
 | succ left ih =>
  intro j z hj hs H done
  have hjn:j<n:=by omega
  refine codeAny_builtin PyProof.Rows.F.entry_set_update_loop ?_
  rw[Around.under_plainId PyProof.Rows.F.plain_set_update_loop _]
  show wpAny _ G.in1 (pyNext (.ref it) >>= _) _ _ z
  refine wpAny_bind (V.item j z _ _ hjn hs fun v g tk hv hs2 kp=>?_)
  obtain⟨u,rfl⟩:=hP j v hv
  have H1:SetS prog w g S (addsS kf j):=H.at' fun o e=>kp S o nS e
  show wpAny _ G.in1 (holding [Value.str (kf j) u] (setAdd S (.str (kf j) u)) >>= _) _ _ _
  refine wpAny_bind (wpAny_holding ?_)
  unfold setAdd
  refine wpAny_holding (wpAny_bind ((strKind prog w).pyHash (k:=kf j) (is_str _ _) ?_))
  have hjl:=zki kf j
  refine add_s (s:={ z with heap:=g,toks:=tk+1 }) H1 (by unfold scanBound;omega) fun b g2 sb H2=>?_
  refine wpAny_pure ⟨plainId_quiet PyProof.Rows.F.plain_set_update_loop _,ih (j+1) _ (by omega) (V.frame _ _ _ hs2 fun b hf o e=>?_) H2 fun g3 tk3 kp3 H3=>?_⟩
  ·rw[sb.2 b (fun q=>hS (q ▸ hf))];exact e
  ·refine done g3 tk3 (fun b o h1 h2 e=>kp3 b o h1 h2 ?_) H3
   show g2.get? b=some o
   rw[sb.2 b h2];exact kp b o h1 e
end
end SS
namespace SS
open PySem PySem.SetTable
section
variable {prog:Program}{w:World}{A G:Around}{E:Value->Shared->Prop}{s z:Shared}
noncomputable abbrev newS (w:World):Obj:={ cls:=.type "set",dict:=none,data:=.set #[] 0 (.fresh 0 0 (!byT w)) }
theorem set0 (h:Heap)(S:Addr)(e:h.get? S=some (newS w)):SetS prog w h S []:=by
 refine⟨_,#[],0,.fresh 0 0 (!byT w),e,⟨rfl,rfl,rfl⟩,rfl,fun e he=>by simp at he,.nil,by unfold scanBound;simp,?_,rfl,fun h=>absurd rfl h⟩
 cases byT w<;>rfl
theorem new_s (a:Value){Q₁:Value->Shared->Prop}(h:Q₁ (.ref s.heap.objs.size) { s with heap:=s.heap.push (newS w) }) :
  codeAny (model prog w) A (.call (.builtin "set.__new__") ⟨[.type "set",a],[]⟩) (wants Q₁ E) s:=by
 refine codeAny_of_tree (?_:wpAny _ A.in1 (do checkBuiltinCall "set.__new__" ⟨[.type "set",a],[]⟩;again (.builtin "set.__new__" ⟨[.type "set",a],[]⟩)) _ _ s)
 refine wpAny_bind (wpAny_of_eq (F.newCall_set_1 a) (wpAny_pure ⟨plainId_quiet F.plain_set_new _,codeAny_builtin F.entry_set_new ?_⟩))
 rw[Around.under_plainId F.plain_set_new _]
 unfold Builtin.«set.__new__» Builtin.Frozenset.newClass
 have hsub:=sub_set_self
 obtain⟨hp,g,d,tk,os⟩:=s
 dsimp only
 wp_walk
 refine wpAny_askSetting (wpAny_pure ?_)
 dsimp only
 simp only[newObj]
 refine wpAny_bind (wpAny_alloc (wpAny_pure ?_))
 exact wpAny_pure h
set_option maxHeartbeats 3200000 in
theorem set_of_s {l:Addr}{items:Array Value}{Q:Value->Shared->Prop}(kf:Nat->Str)(hh:G.handled=none)(hl:z.heap.IsList l items)(hi:∀(i:Nat) (v:Value),items[i]? = some v->∃u,v=.str (kf i) u)(hn:items.size<=4000)
  (h:∀(g:Heap) (tk:Nat),SetS prog w g z.heap.objs.size (addsS kf items.size)->(∀b o,b<z.heap.objs.size->z.heap.get? b=some o->g.get? b=some o)->Q (.ref z.heap.objs.size) { z with heap:=g,toks:=tk }) :
  wpAny (model prog w) G (call (.type "set") [.ref l]) Q E z:=by
 obtain⟨m1,m2,hmro⟩:=F.called_set.mro
 have hmade:=F.called_set.made;have hsub:=F.called_set.sub
 refine wpAny_call (codeAny_of_tree (?_:wpAny _ _ (callAny (.type "set") _) _ _ _))
 refine wpAny_pure ⟨Code.quiet_builtin _ (by decide +kernel),codeAny_builtin F.entry_type_call ?_⟩
 rw[Around.under_plain (weight_type_call_type "set" [.ref l] []) rfl]
 have n1:=F.called_set.notType;have n2:=F.called_set.canCreate;have n3:=F.typeCall_set_1 (.ref l)
 repeat (any_goals first | assumption | wp_step)
 refine codeAny_mono (new_s (.ref l) (E:=E) (Q₁:=fun v y=>v=.ref z.heap.objs.size/\y={ z with heap:=z.heap.push (newS w) }) ⟨rfl,rfl⟩) fun r y hr=>?_
 match r,hr with
 | .error e,hr=>exact hr
 | .ok (.ret v),hr =>
  obtain⟨rfl,rfl⟩:=hr
  have gS:(z.heap.push (newS w)).get? z.heap.objs.size=some (newS w):=Heap.get?_push_size _ rfl
  have tS:Shared.TypeIs { z with heap:=z.heap.push (newS w) } (.ref z.heap.objs.size) "set":=⟨_,gS,rfl⟩
  have i1:=F.called_set.init.lookup;have i2:=F.called_set.init.bind (.ref z.heap.objs.size)
  repeat (any_goals first | assumption | wp_step)
  refine codeAny_mono (codeAny_call_builtin (R:=wants (fun r y2=>r=.none/\∃g tk,y2={ z with heap:=g,toks:=tk }/\SetS prog w g z.heap.objs.size (addsS kf items.size)/\(∀b o,b<z.heap.objs.size->z.heap.get? b=some o->g.get? b=some o)) E) F.called_set.init.plain F.entry_set_init (check_set_init_1 tS ?_)) fun r2 y2 hr2=>?_
  ·obtain⟨ol,hol,hcl,nl,hdl⟩:=id hl
   obtain⟨ocls,odict,odata,oslots⟩:=ol
   simp only at hcl hdl
   subst hcl hdl
   have hol2:(z.heap.push (newS w)).get? l=some { cls:=.type "list",dict:=odict,data:=.seq items nl,slots:=oslots }:=Heap.get?_push_of_some _ hol
   have u1:=F.sub_list_set;have u2:=F.sub_list_frozenset
   have u3:(Value.type "list" == Value.type "dict")=false:=by decide
   have il:(z.heap.push (newS w)).IsList l items:=⟨_,hol2,rfl,nl,rfl⟩
   unfold Builtin.«set.__init__» noKeywords Builtin.Frozenset.updateFrom
   generalize hIT:pyIter=IT
   wp_walk
   subst hIT
   refine wpAny_pyIter_list il (wpAny_bind (wpAny_runValue ?_))
   have lS:l<z.heap.objs.size:=Heap.lt_size hol
   have sz:(z.heap.push (newS w)).objs.size=z.heap.objs.size+1:=Heap.size_push ..
   have w1:l≠(z.heap.push (newS w)).objs.size:=Nat.ne_of_lt (by rw[sz];exact Nat.lt_succ_of_lt lS)
   have w2:z.heap.objs.size∉[(z.heap.push (newS w)).objs.size,l]:=fun hm=>by
    rcases List.mem_cons.mp hm with e | hm
    ·rw[sz]at e;exact Nat.ne_of_lt (Nat.lt_succ_self _) e
    ·have e:=List.mem_singleton.mp hm
     exact Nat.lt_irrefl _ (Nat.lt_of_lt_of_le lS (Nat.le_of_eq e))
   have w3:∀b:Addr,b<z.heap.objs.size->b∉[(z.heap.push (newS w)).objs.size]:=fun b hb hm=>by
    have e:=List.mem_singleton.mp hm
    rw[sz]at e
    exact absurd (Nat.le_of_eq e.symm) (Nat.not_le_of_lt (Nat.lt_succ_of_lt hb))
   have V:=Walks.list (prog:=prog) (w:=w) (A:=G.in1.in1.in1) (by simp[hh]) _ l w1 items
   refine upd_s V z.heap.objs.size w2 kf (fun i v hv=>hi i v hv) hn (items.size - 0) 0 _ (by omega) ⟨⟨_,Heap.get?_push_size _ rfl,rfl,rfl⟩,il.push _⟩ ?_ fun g tk kp H=>?_
   ·exact set0 _ _ (Heap.get?_push_of_some _ gS)
   ·refine wpAny_pure (?_:wpAny _ _ (ret Value.none) _ _ _)
    refine wpAny_pure ⟨rfl,g,tk,rfl,H,fun b o hb e=>kp b o (w3 b hb) (Nat.ne_of_lt hb) (Heap.get?_push_of_some _ (Heap.get?_push_of_some _ e))⟩
  ·match r2,hr2 with
   | .error e,hr2=>exact hr2
   | .ok (.ret v),hr2 =>
    obtain⟨rfl,g,tk,rfl,q1,q2⟩:=hr2
    repeat (any_goals first | assumption | wp_step)
    exact h _ _ q1 q2
   | .ok .next,hr2=>exact hr2.elim
   | .ok .brk,hr2=>exact hr2.elim
   | .ok .cont,hr2=>exact hr2.elim
 | .ok .next,hr=>exact hr.elim
 | .ok .brk,hr=>exact hr.elim
 | .ok .cont,hr=>exact hr.elim
end
end SS
namespace SS
open PySem PySem.SetTable
theorem za6:Slot "set_iterator" "__next__" "set_iterator.__next__" :=
 .of (owner:="set_iterator") (n:="__next__") (by rw[typeLookup_type,builtinLookup_eq_fast];kernel_rfl) (by decide +kernel) (by decide +kernel) (by decide +kernel)
  (by first | exact .inl (by decide +kernel) | exact .inr (by decide +kernel)) (by rw[isSubtype_type];kernel_rfl)
theorem zds:entryFor table "set_iterator.__next__" = some Builtin.«set_iterator.__next__»:=entryFor_of_tree (by kernel_rfl)
theorem zlb:Manifest.owners.lookup (String.ofList ['r','o','t','a','r','e','t','i','_','t','e','s'].reverse)=some Manifest.sig_set_iterator:=by kernel_rfl
theorem zed (a:Value):argsOk "set_iterator.__next__" ⟨[a],[]⟩:=by
 unfold argsOk;rw[signature?_of (id:="set_iterator.__next__") (n:=['_','_','t','x','e','n','_','_']) (o:=['r','o','t','a','r','e','t','i','_','t','e','s']) (by kernel_rfl) zlb];kernel_rfl
theorem zfh:entryFor table "set.__iter__" = some Builtin.«frozenset.__iter__»:=entryFor_alias (id':="frozenset.__iter__") (by kernel_rfl) rfl (by decide +kernel) (by kernel_rfl)
section
variable {prog:Program}{w:World}{A G:Around}{E:Value->Shared->Prop}{s z:Shared}
noncomputable def ItAt (h:Heap)(I:Addr)(first:Value)(i:Nat)(a:Addr)(n ep:Nat):Prop:=∃o,h.get? I=some o/\o.cls=.type "set_iterator"/\o.data=.fields #[first,rawInt i,.ref a,rawInt n,rawInt ep]
theorem ItAt.typeIs {I a:Addr}{first:Value}{i n ep:Nat}(h:ItAt s.heap I first i a n ep):s.TypeIs (.ref I) "set_iterator":=let ⟨o,h1,h2,_⟩:=h;⟨o,h1,h2⟩
noncomputable def SetAt (h:Heap)(a:Addr)(es:Array (Int×Value))(ep:Nat)(t:SetTable):Prop:=∃o,h.get? a=some o/\o.data=.set es ep t/\t.fits es.size=true
theorem zl5 {I a:Addr}{f i n ep nx:Nat}{es:Array (Int×Value)}{t:SetTable}{x:Value}{Q:Option Value->Shared->Prop}(hit:ItAt s.heap I (rawInt f) i a n ep)(hs:SetAt s.heap a es ep t)(hn:es.size=n)
  (hx:∀(A':Around) (Q':Option (Value×Nat)->Shared->Prop) (E':Value->Shared->Prop),Q' (some (x,nx)) s->wpAny (model prog w) A' (setNext a f i ep) Q' E' s)
  (hQ:∀h',ItAt h' I (rawInt nx) (i+1) a n ep->Heap.SameBut I s.heap h'->Q (some x) { s with heap:=h' }):wpAny (model prog w) A (pyNext (.ref I)) Q E s:=by
 obtain⟨o,ho,hc,hd⟩:=id hit
 obtain⟨os,hos,hds,hf⟩:=hs
 unfold pyNext
 refine wpAny_bind (wpAny_attempt (wpAny_callSpecial?_slot (name:=Str.ofString "__next__") hit.typeIs za6 (wpAny_call_entry za6 hit.typeIs zds ?_ (zed _))))
 show wpAny _ _ (fieldsOf (.ref I) >>= _) _ _ s
 refine wpAny_bind (wpAny_fieldsOf ho hd ?_)
 show wpAny _ _ (setEntries a >>= _) _ _ s
 refine wpAny_bind (wpAny_setEntries_of hos hds hf ?_)
 rw[if_neg (by rw[hn];simp)]
 show wpAny _ _ (setNext a (f:Int).toNat (i:Int).toNat (ep:Int).toNat >>= _) _ _ s
 simp only[Int.toNat_natCast]
 refine wpAny_bind (hx _ _ _ ?_)
 show wpAny _ _ (setField (.ref I) 0 (rawInt nx) >>= _) _ _ s
 refine wpAny_bind (wpAny_setField ho hd (by simp) ?_)
 have g1:=Heap.get?_update_self (Obj.mapFields (·.setIfInBounds 0 (rawInt nx))) ho (Obj.isFreed_of_fields (Obj.data_mapFields hd _))
 have d1:=Obj.data_mapFields hd (·.setIfInBounds 0 (rawInt nx))
 refine wpAny_bind (wpAny_setField (s:={ s with heap:=s.heap.update I (Obj.mapFields (·.setIfInBounds 0 (rawInt nx))) }) g1 d1 (by simp) ?_)
 refine wpAny_pure ⟨x,rfl,wpAny_pure (hQ _ ⟨_,Heap.get?_update_self _ g1 (Obj.isFreed_of_fields (Obj.data_mapFields d1 _)),(Obj.cls_mapFields ..).trans ((Obj.cls_mapFields ..).trans hc),?_⟩ ((Heap.SameBut.update ..).trans (Heap.SameBut.update ..)))⟩
 rw[Obj.data_mapFields d1];simp[rawInt]
theorem next_end {I a:Addr}{f i n ep:Nat}{es:Array (Int×Value)}{t:SetTable}{Q:Option Value->Shared->Prop}(hh:A.handled=none)(hit:ItAt s.heap I (rawInt f) i a n ep)(hs:SetAt s.heap a es ep t)(hn:es.size=n)
  (hx:∀(A':Around) (Q':Option (Value×Nat)->Shared->Prop) (E':Value->Shared->Prop),Q' none s->wpAny (model prog w) A' (setNext a f i ep) Q' E' s)
  (hQ:∀h',Heap.ExtBut I s.heap h'->Q none { s with heap:=h' }):wpAny (model prog w) A (pyNext (.ref I)) Q E s:=by
 obtain⟨o,ho,hc,hd⟩:=id hit
 obtain⟨os,hos,hds,hf⟩:=hs
 unfold pyNext
 refine wpAny_bind (wpAny_attempt (wpAny_callSpecial?_slot (name:=Str.ofString "__next__") hit.typeIs za6 (wpAny_call_entry za6 hit.typeIs zds ?_ (zed _))))
 show wpAny _ _ (fieldsOf (.ref I) >>= _) _ _ s
 refine wpAny_bind (wpAny_fieldsOf ho hd ?_)
 show wpAny _ _ (setEntries a >>= _) _ _ s
 refine wpAny_bind (wpAny_setEntries_of hos hds hf ?_)
 rw[if_neg (by rw[hn];simp)]
 show wpAny _ _ (setNext a (f:Int).toNat (i:Int).toNat (ep:Int).toNat >>= _) _ _ s
 simp only[Int.toNat_natCast]
 refine wpAny_bind (hx _ _ _ ?_)
 show wpAny _ _ (setField (.ref I) 2 .none >>= _) _ _ s
 refine wpAny_bind (wpAny_setField ho hd (by simp) ?_)
 show wpAny _ _ (newExc (.type "StopIteration") [] >>= _) _ _ _
 refine wpAny_bind ?_
 simp only[newExc,newTuple]
 refine wpAny_bind (wpAny_newObj_type ?_ (by size_fits))
 refine wpAny_bind (m:=firstArgMember _ _) (wpAny_of_eq (a:=Value.none) (by first | rfl | (simp only[firstArgMember];rfl)) ?_)
 refine wpAny_newObj_type ?_ (by size_fits)
 refine wpAny_raiseNew_none hh ?_
 refine wpAny_bind (wpAny_isInstance (T:="StopIteration") (b:=true) ⟨_,Heap.get?_push_size _ rfl,rfl⟩ isSubtype_stop ?_)
 exact wpAny_pure (hQ _ (((Heap.SameBut.update ..).extBut.push _).push _))
noncomputable def TupAt (h:Heap)(T:Addr)(ps:List Nat):Prop:=∃o e,h.get? T=some o/\o.data=.seq (ps.map fun i:Nat=>rawInt i).toArray e
theorem zlv {I a T:Addr}{i n ep p:Nat}{ps:List Nat}{es:Array (Int×Value)}{t:SetTable}{x:Int×Value}{Q:Option Value->Shared->Prop}(hit:ItAt s.heap I (.ref T) i a n ep)(ht:TupAt s.heap T ps)(hs:SetAt s.heap a es ep t)(hn:es.size=n)(hp:ps[i]? = some p)(hx:es[p]? = some x)
  (hQ:∀h',ItAt h' I (.ref T) (i+1) a n ep->Heap.SameBut I s.heap h'->Q (some x.2) { s with heap:=h' }):wpAny (model prog w) A (pyNext (.ref I)) Q E s:=by
 obtain⟨o,ho,hc,hd⟩:=id hit
 obtain⟨os,hos,hds,hf⟩:=hs
 obtain⟨ot,et,hot,hdt⟩:=ht
 unfold pyNext
 refine wpAny_bind (wpAny_attempt (wpAny_callSpecial?_slot (name:=Str.ofString "__next__") hit.typeIs za6 (wpAny_call_entry za6 hit.typeIs zds ?_ (zed _))))
 show wpAny _ _ (fieldsOf (.ref I) >>= _) _ _ s
 refine wpAny_bind (wpAny_fieldsOf ho hd ?_)
 show wpAny _ _ (setEntries a >>= _) _ _ s
 refine wpAny_bind (wpAny_setEntries_of hos hds hf ?_)
 rw[if_neg (by rw[hn];simp)]
 show wpAny _ _ (seqItems? (.ref T) >>= _) _ _ s
 refine wpAny_bind (wpAny_seqItems hot hdt ?_)
 have e1:(ps.map fun i:Nat=>rawInt i).toArray[(i:Int).toNat]? = some (rawInt p):=by simp[hp]
 simp only[e1]
 show wpAny _ _ (setNextDrawn a (p:Int).toNat (ep:Int).toNat >>= _) _ _ s
 simp only[Int.toNat_natCast]
 unfold setNextDrawn
 refine wpAny_bind (wpAny_bind (wpAny_setState_of hos hds hf ?_))
 dsimp only
 rw[if_neg (by simp),hx]
 refine wpAny_pure ?_
 refine wpAny_bind (wpAny_setField ho hd (by simp) ?_)
 refine wpAny_pure ⟨x.2,rfl,wpAny_pure (hQ _ ⟨_,Heap.get?_update_self _ ho (Obj.isFreed_of_fields (Obj.data_mapFields hd _)),(Obj.cls_mapFields ..).trans hc,?_⟩ (Heap.SameBut.update ..))⟩
 rw[Obj.data_mapFields hd];simp[rawInt]
theorem zh1 {I a T:Addr}{i n ep:Nat}{ps:List Nat}{es:Array (Int×Value)}{t:SetTable}{Q:Option Value->Shared->Prop}(hh:A.handled=none)(hit:ItAt s.heap I (.ref T) i a n ep)(ht:TupAt s.heap T ps)(hs:SetAt s.heap a es ep t)(hn:es.size=n)(hp:ps[i]? = none)
  (hQ:∀h',Heap.ExtBut I s.heap h'->Q none { s with heap:=h' }):wpAny (model prog w) A (pyNext (.ref I)) Q E s:=by
 obtain⟨o,ho,hc,hd⟩:=id hit
 obtain⟨os,hos,hds,hf⟩:=hs
 obtain⟨ot,et,hot,hdt⟩:=ht
 unfold pyNext
 refine wpAny_bind (wpAny_attempt (wpAny_callSpecial?_slot (name:=Str.ofString "__next__") hit.typeIs za6 (wpAny_call_entry za6 hit.typeIs zds ?_ (zed _))))
 show wpAny _ _ (fieldsOf (.ref I) >>= _) _ _ s
 refine wpAny_bind (wpAny_fieldsOf ho hd ?_)
 show wpAny _ _ (setEntries a >>= _) _ _ s
 refine wpAny_bind (wpAny_setEntries_of hos hds hf ?_)
 rw[if_neg (by rw[hn];simp)]
 show wpAny _ _ (seqItems? (.ref T) >>= _) _ _ s
 refine wpAny_bind (wpAny_seqItems hot hdt ?_)
 have e1:(ps.map fun i:Nat=>rawInt i).toArray[(i:Int).toNat]? = none:=by simpa using hp
 simp only[e1]
 refine wpAny_bind (wpAny_setField ho hd (by simp) ?_)
 have g1:=Heap.get?_update_self (Obj.mapFields (·.setIfInBounds 0 (rawInt 0))) ho (Obj.isFreed_of_fields (Obj.data_mapFields hd _))
 have d1:=Obj.data_mapFields hd (·.setIfInBounds 0 (rawInt 0))
 refine wpAny_bind (wpAny_setField (s:={ s with heap:=s.heap.update I (Obj.mapFields (·.setIfInBounds 0 (rawInt 0))) }) g1 d1 (by simp) ?_)
 refine wpAny_bind ?_
 simp only[newExc,newTuple]
 refine wpAny_bind (wpAny_newObj_type ?_ (by size_fits))
 refine wpAny_bind (m:=firstArgMember _ _) (wpAny_of_eq (a:=Value.none) (by first | rfl | (simp only[firstArgMember];rfl)) ?_)
 refine wpAny_newObj_type ?_ (by size_fits)
 refine wpAny_raiseNew_none hh ?_
 refine wpAny_bind (wpAny_isInstance (T:="StopIteration") (b:=true) ⟨_,Heap.get?_push_size _ rfl,rfl⟩ isSubtype_stop ?_)
 exact wpAny_pure (hQ _ ((((Heap.SameBut.update ..).trans (Heap.SameBut.update ..)).extBut.push _).push _))
end
end SS
namespace SS
open PySem PySem.SetTable
theorem zg1:Slot "set_iterator" "__iter__" "set_iterator.__iter__" :=
 .of (owner:="set_iterator") (n:="__iter__") (by rw[typeLookup_type,builtinLookup_eq_fast];kernel_rfl) (by decide +kernel) (by decide +kernel) (by decide +kernel)
  (by first | exact .inl (by decide +kernel) | exact .inr (by decide +kernel)) (by rw[isSubtype_type];kernel_rfl)
theorem zir:entryFor table "set_iterator.__iter__" = some Builtin.«dict_keyiterator.__iter__»:=entryFor_alias (id':="dict_keyiterator.__iter__") (by kernel_rfl) rfl (by decide +kernel) (by kernel_rfl)
theorem zja (a:Value):argsOk "set_iterator.__iter__" ⟨[a],[]⟩:=by
 unfold argsOk;rw[signature?_of (id:="set_iterator.__iter__") (n:=['_','_','r','e','t','i','_','_']) (o:=['r','o','t','a','r','e','t','i','_','t','e','s']) (by kernel_rfl) zlb];kernel_rfl
theorem zep {α:Type}:∀(l:List α) (i:Nat) (x:α),l[i]? = some x->List.Perm l (x::l.eraseIdx i)
 | [],i,x,h=>by simp at h
 | y::l,0,x,h=>by
  simp only[List.getElem?_cons_zero,Option.some.injEq]at h
  subst h;exact .rfl
 | y::l,i+1,x,h=>by
  rw[List.getElem?_cons_succ]at h
  rw[List.eraseIdx_cons_succ]
  exact ((zep l i x h).cons y).trans (List.Perm.swap ..)
theorem pick_go {α:Type}(next:Nat->Nat):∀(fuel k:Nat) (left:List α) (out:Array α),left.length=fuel->List.Perm (pickOrder.go next fuel k left out).toList (out.toList++left)
 | 0,k,left,out,h=>by
  have:left=[]:=List.length_eq_zero_iff.mp h
  subst this
  rw[pickOrder.go,List.append_nil]
 | fuel+1,k,left,out,h=>by
  rw[pickOrder.go]
  have hlt:next k % left.length<left.length:=Nat.mod_lt _ (by omega)
  rw[List.getElem?_eq_getElem hlt]
  dsimp only
  refine (pick_go next fuel (k+1) _ _ (by rw[List.length_eraseIdx_of_lt hlt];omega)).trans ?_
  rw[Array.toList_push,List.append_assoc]
  exact List.Perm.append_left _ (zep left _ _ (List.getElem?_eq_getElem hlt)).symm
theorem zh2 {α:Type}(next:Nat->Nat)(xs:Array α):List.Perm (pickOrder next xs).toList xs.toList:=by
 have:=pick_go next xs.size 0 xs.toList #[] (by simp)
 simpa[pickOrder] using this
section
variable {prog:Program}{w:World}{A G:Around}{E:Value->Shared->Prop}{s z:Shared}
theorem choose_ok {src:Source}{n:Nat}{Q:Nat->Shared->Prop}(hn:n≠0)(h:∀i d,i<n->Q i { s with drawn:=d }):wpAny (model prog w) A (choose src n) Q E s:=by
 intro Γ p hΓ
 show Sem.wp _ _ (.choose src n _) _ _ _ _
 rw[Sem.wp_choose]
 exact⟨hn,h _ _ (Nat.mod_lt _ (Nat.pos_of_ne_zero hn))⟩
theorem draw_ok {α:Type}:∀(n:Nat) (xs:List α) (s:Shared) (Q:List α->Shared->Prop),xs.length=n->(∀ys d,List.Perm ys xs->Q ys { s with drawn:=d })->wpAny (model prog w) A (drawOrder n xs) Q E s
 | 0,xs,s,Q,hl,h=>by
  have:xs=[]:=List.length_eq_zero_iff.mp hl
  subst this
  exact wpAny_pure (h [] s.drawn .nil)
 | n+1,[],s,Q,hl,h=>by simp at hl
 | n+1,x::xs,s,Q,hl,h=>by
  unfold drawOrder
  refine wpAny_bind (choose_ok (by simp) fun i d hi=>?_)
  rw[List.getElem?_eq_getElem hi]
  dsimp only
  refine wpAny_bind (draw_ok n _ _ _ (by rw[List.length_eraseIdx_of_lt hi];simp at hl ⊢;omega) fun ys d2 hp=>?_)
  exact wpAny_pure (h _ d2 ((hp.cons _).trans (zep (x::xs) i _ (List.getElem?_eq_getElem hi)).symm))
theorem zk8 {I a:Addr}{first:Value}{i n ep:Nat}{Q:Value->Shared->Prop}(hit:ItAt s.heap I first i a n ep)(h:Q (.ref I) s):wpAny (model prog w) A (pyIter (.ref I)) Q E s:=by
 refine wpAny_pyIter_slot hit.typeIs zg1 (wpAny_call_entry zg1 hit.typeIs zir ?_ (zja _))
 show wpAny _ _ (ret (.ref I)) _ _ s
 exact wpAny_pure ⟨_,rfl,"set_iterator",_,hit.typeIs,za6.lookup,h⟩
theorem ItAt.at' {h h':Heap}{I a:Addr}{first:Value}{i n ep:Nat}(H:ItAt h I first i a n ep)(hk:∀o,h.get? I=some o->h'.get? I=some o):ItAt h' I first i a n ep:=let ⟨o,h1,h2⟩:=H;⟨o,hk _ h1,h2⟩
theorem SetAt.at' {h h':Heap}{a:Addr}{es:Array (Int×Value)}{ep:Nat}{t:SetTable}(H:SetAt h a es ep t)(hk:∀o,h.get? a=some o->h'.get? a=some o):SetAt h' a es ep t:=let ⟨o,h1,h2⟩:=H;⟨o,hk _ h1,h2⟩
theorem TupAt.at' {h h':Heap}{T:Addr}{ps:List Nat}(H:TupAt h T ps)(hk:∀o,h.get? T=some o->h'.get? T=some o):TupAt h' T ps:=let ⟨o,e,h1,h2⟩:=H;⟨o,e,hk _ h1,h2⟩
theorem zgj {Q:Bool->Shared->Prop}(h:Q (byT w) s):wpAny (model prog w) A setsByText Q E s:=by
 unfold setsByText
 exact wpAny_bind (wpAny_askSetting (wpAny_pure h))
theorem zjx {a:Addr}{f i ep:Nat}{es:Array (Int×Value)}{t:SetTable}{Q:Option (Value×Nat)->Shared->Prop}(hb:byT w=true)(hs:SetAt s.heap a es ep t)
  (h:Q (((pickOrder (w.params.setOrder a ep) es)[i]?).map fun e=>(e.2,f)) s):wpAny (model prog w) A (setNext a f i ep) Q E s:=by
 obtain⟨o,ho,hd,hf⟩:=hs
 unfold setNext
 refine wpAny_bind (wpAny_setState_of ho hd hf ?_)
 dsimp only
 refine wpAny_bind (zgj ?_)
 rw[hb,if_pos rfl,if_neg (by simp)]
 refine wpAny_bind ?_
 unfold setWalk
 refine wpAny_bind (wpAny_setState_of ho hd hf ?_)
 dsimp only
 refine wpAny_bind (zgj ?_)
 rw[hb,if_pos rfl]
 refine wpAny_bind (wpAny_askSetting (wpAny_pure ?_))
 exact wpAny_pure h
noncomputable def nextP (es:Array (Int×Value))(t:SetTable)(f:Nat):Option (Value×Nat):=match es[below t.place f]?,t.place[below t.place f]? with
 | some (_,x),some j=>some (x,j+1)
 | _,_=>none
theorem zmh {a:Addr}{f i ep:Nat}{es:Array (Int×Value)}{t:SetTable}{Q:Option (Value×Nat)->Shared->Prop}(hb:byT w=false)(hs:SetAt s.heap a es ep t)(hl:t.led=true)(hd2:(!t.plain && decide (es.size > 1))=false)
  (h:Q (nextP es t f) s):wpAny (model prog w) A (setNext a f i ep) Q E s:=by
 obtain⟨o,ho,hd,hf⟩:=hs
 unfold setNext
 refine wpAny_bind (wpAny_setState_of ho hd hf ?_)
 dsimp only
 refine wpAny_bind (zgj ?_)
 rw[hb,if_neg (by simp)]
 refine wpAny_ite_split (fun hab=>absurd (show (!t.plain && decide (es.size > 1))=true from hab) (by rw[hd2];simp)) (fun _=>?_)
 refine wpAny_bind ?_
 show wpAny _ _ (if (!t.led && !es.isEmpty)=true then unsupported "set:maker-not-led" else pure ()) _ _ s
 rw[if_neg (by rw[hl];simp)]
 exact wpAny_pure (wpAny_pure h)
end
end SS
namespace SS
open PySem PySem.SetTable
section
variable {prog:Program}{w:World}{A G:Around}{E:Value->Shared->Prop}{s z:Shared}
theorem walk_text (hb:byT w=true)(hh:A.handled=none)(I a:Addr)(hne:a≠I)(es:Array (Int×Value))(ep:Nat)(t:SetTable) :
  Walks prog w A I [I,a] [I] es.size (fun i v=>((pickOrder (w.params.setOrder a ep) es)[i]?).map (·.2)=some v) (fun i h=>ItAt h I (rawInt (0:Nat)) i a es.size ep/\SetAt h a es ep t) where
 sub:=fun b hb=>by simp at hb;simp[hb]
 frame:=fun _ _ _ st hk=>⟨st.1.at' fun o e=>hk I (by simp) o e,st.2.at' fun o e=>hk a (by simp) o e⟩
 item:=fun i s Q E hi st hQ=>by
  have hsz:(pickOrder (w.params.setOrder a ep) es).size=es.size:=by have:=(zh2 (w.params.setOrder a ep) es).length_eq;simpa using this
  have hx:(pickOrder (w.params.setOrder a ep) es)[i]? = some (pickOrder (w.params.setOrder a ep) es)[i]:=Array.getElem?_eq_getElem (by omega)
  refine zl5 (nx:=0) (x:=((pickOrder (w.params.setOrder a ep) es)[i]).2) st.1 st.2 rfl (fun A' Q' E' h=>zjx hb st.2 (by rw[hx];exact h)) fun h' hit sb=>?_
  exact hQ _ h' s.toks (by rw[hx];rfl) ⟨hit,st.2.at' fun o e=>by rw[sb.2 a hne];exact e⟩ fun b o hb2 e=>by rw[sb.2 b (fun q=>hb2 (by simp[q]))];exact e
 done:=fun s Q E st hQ=>by
  have hsz:(pickOrder (w.params.setOrder a ep) es).size=es.size:=by have:=(zh2 (w.params.setOrder a ep) es).length_eq;simpa using this
  refine next_end hh st.1 st.2 rfl (fun A' Q' E' h=>zjx hb st.2 (by rw[Array.getElem?_eq_none (by omega)];exact h)) fun h' eb=>?_
  exact hQ h' s.toks fun b o hb2 e=>eb b o (fun q=>hb2 (by simp[q])) e
 self:=fun _ _ _ _ st hQ=>zk8 st.1 hQ
theorem below0 (xs:Array Nat)(h:xs.size<=1):below xs 0=0:=by
 unfold below
 rcases (show xs.size=0\/xs.size=1 by omega) with e | e
 ·rw[e];rfl
 ·rw[e]
  simp[below.go]
theorem below1 (xs:Array Nat)(j:Nat)(h:xs.size=1)(hj:xs[0]? = some j):below xs (j+1)=1:=by
 unfold below
 rw[h]
 have:xs.getD 0 (j+1)=j:=by
  rw[Array.getD_eq_getD_getElem?,hj];rfl
 simp[below.go,this]
theorem walk_led (hb:byT w=false)(hh:A.handled=none)(I a:Addr)(hne:a≠I)(es:Array (Int×Value))(ep:Nat)(t:SetTable)(hl:t.led=true)(h1:es.size<=1)(hf:t.place.size=es.size) :
  Walks prog w A I [I,a] [I] es.size (fun i v=>(es[i]?).map (·.2)=some v) (fun i h=>ItAt h I (rawInt ((if i=0 then 0 else t.place.getD 0 0+1:Nat):Int)) i a es.size ep/\SetAt h a es ep t) where
 sub:=fun b hb=>by simp at hb;simp[hb]
 frame:=fun _ _ _ st hk=>⟨st.1.at' fun o e=>hk I (by simp) o e,st.2.at' fun o e=>hk a (by simp) o e⟩
 item:=fun i s Q E hi st hQ=>by
  obtain rfl:i=0:=by omega
  have e1:es.size=1:=by omega
  have hp0:t.place[0]? = some t.place[0]:=Array.getElem?_eq_getElem (by omega)
  have he0:es[0]? = some es[0]:=Array.getElem?_eq_getElem (by omega)
  have hgd:t.place.getD 0 0=t.place[0]:=by rw[Array.getD_eq_getD_getElem?,hp0];rfl
  have hnx:nextP es t 0=some (es[0].2,t.place[0]+1):=by
   unfold nextP
   rw[below0 _ (by omega),hp0,he0]
  refine zl5 (f:=0) (nx:=t.place[0]+1) (x:=es[0].2) (by simpa using st.1) st.2 rfl (fun A' Q' E' h=>zmh hb st.2 hl (by simp;omega) (by rw[hnx];exact h)) fun h' hit sb=>?_
  refine hQ _ h' s.toks (by rw[he0];rfl) ⟨?_,st.2.at' fun o e=>by rw[sb.2 a hne];exact e⟩ fun b o hb2 e=>by rw[sb.2 b (fun q=>hb2 (by simp[q]))];exact e
  rw[if_neg (by omega),hgd]
  exact hit
 done:=fun s Q E st hQ=>by
  have key:nextP es t (if es.size=0 then 0 else t.place.getD 0 0+1)=none:=by
   unfold nextP
   rcases (show es.size=0\/es.size=1 by omega) with e | e
   ·rw[if_pos e,below0 _ (by omega),Array.getElem?_eq_none (by omega)]
   ·have hp0:t.place[0]? = some t.place[0]:=Array.getElem?_eq_getElem (by omega)
    have hgd:t.place.getD 0 0=t.place[0]:=by rw[Array.getD_eq_getD_getElem?,hp0];rfl
    rw[if_neg (by omega),hgd,below1 _ _ (by omega) hp0,Array.getElem?_eq_none (by omega)]
  refine next_end hh st.1 st.2 rfl (fun A' Q' E' h=>zmh hb st.2 hl (by simp;omega) (by rw[key];exact h)) fun h' eb=>?_
  exact hQ h' s.toks fun b o hb2 e=>eb b o (fun q=>hb2 (by simp[q])) e
 self:=fun _ _ _ _ st hQ=>zk8 st.1 hQ
theorem zmi (hh:A.handled=none)(I a T:Addr)(hne:a≠I)(hnT:T≠I)(es:Array (Int×Value))(ep:Nat)(t:SetTable)(ps:List Nat)(hp:List.Perm ps (List.range es.size)) :
  Walks prog w A I [I,a,T] [I] es.size (fun i v=>∃p x,ps[i]? = some p/\es[p]? = some x/\v=x.2) (fun i h=>ItAt h I (.ref T) i a es.size ep/\SetAt h a es ep t/\TupAt h T ps) where
 sub:=fun b hb=>by simp at hb;simp[hb]
 frame:=fun _ _ _ st hk=>⟨st.1.at' fun o e=>hk I (by simp) o e,st.2.1.at' fun o e=>hk a (by simp) o e,st.2.2.at' fun o e=>hk T (by simp) o e⟩
 item:=fun i s Q E hi st hQ=>by
  have hl:ps.length=es.size:=by have:=hp.length_eq;simpa using this
  have hpi:ps[i]? = some ps[i]:=List.getElem?_eq_getElem (by omega)
  have hpl:ps[i]<es.size:=by have:=hp.mem_iff.mp (List.getElem_mem (h:=by omega):ps[i]∈ps);simpa using this
  have hx:es[ps[i]]? = some es[ps[i]]:=Array.getElem?_eq_getElem hpl
  refine zlv st.1 st.2.2 st.2.1 rfl hpi hx fun h' hit sb=>?_
  exact hQ _ h' s.toks ⟨_,_,hpi,hx,rfl⟩ ⟨hit,st.2.1.at' fun o e=>by rw[sb.2 a hne];exact e,st.2.2.at' fun o e=>by rw[sb.2 T hnT];exact e⟩ fun b o hb2 e=>by rw[sb.2 b (fun q=>hb2 (by simp[q]))];exact e
 done:=fun s Q E st hQ=>by
  have hl:ps.length=es.size:=by have:=hp.length_eq;simpa using this
  refine zh1 hh st.1 st.2.2 st.2.1 rfl (List.getElem?_eq_none (by omega)) fun h' eb=>?_
  exact hQ h' s.toks fun b o hb2 e=>eb b o (fun q=>hb2 (by simp[q])) e
 self:=fun _ _ _ _ st hQ=>zk8 st.1 hQ
end
end SS
namespace SS
open PySem PySem.SetTable
section
variable {prog:Program}{w:World}{A G:Around}{E:Value->Shared->Prop}{s z:Shared}
theorem zhs {a:Addr}{es:Array (Int×Value)}{ep:Nat}{t:SetTable}{Q:Bool->Shared->Prop}(hs:SetAt s.heap a es ep t)(h:Q (!byT w && (!t.plain && decide (es.size > 1))) s):wpAny (model prog w) A (setDrawn a) Q E s:=by
 obtain⟨o,ho,hd,hf⟩:=hs
 unfold setDrawn
 refine wpAny_bind (wpAny_setState_of ho hd hf ?_)
 dsimp only
 refine wpAny_bind (zgj ?_)
 exact wpAny_pure h
noncomputable abbrev itO (first:Value)(a:Addr)(n ep:Nat):Obj:={ cls:=.type "set_iterator",data:=.fields #[first,rawInt (0:Nat),.ref a,rawInt n,rawInt ep] }
noncomputable abbrev tupO (ps:List Nat):Obj:=PyProof.Rows.seqObj "tuple" (ps.map fun i:Nat=>rawInt i).toArray 0
theorem zi5 {a:Addr}{es:Array (Int×Value)}{ep:Nat}{t:SetTable}{Q:Value->Shared->Prop}(hT:s.TypeIs (.ref a) "set")(hs:SetAt s.heap a es ep t)(hdr:(!byT w && (!t.plain && decide (es.size > 1)))=false)
  (h:Q (.ref s.heap.objs.size) { s with heap:=s.heap.push (itO (rawInt (0:Nat)) a es.size ep) }):wpAny (model prog w) A (pyIter (.ref a)) Q E s:=by
 have hs':=hs
 obtain⟨o,ho,hd,hf⟩:=hs
 refine wpAny_pyIter_slot hT F.slot_set_iter (wpAny_call_entry F.slot_set_iter hT zfh ?_ (F.args_set_iter_1 _))
 show wpAny _ _ (Builtin.Frozenset.sizeOf a >>= _) _ _ s
 unfold Builtin.Frozenset.sizeOf
 refine wpAny_bind (wpAny_bind (wpAny_setEntries_of ho hd hf (wpAny_pure ?_)))
 refine wpAny_bind (zhs hs' ?_)
 rw[hdr,if_neg (by simp)]
 refine wpAny_bind (wpAny_pure ?_)
 refine wpAny_bind (wpAny_setEpoch_of ho hd hf ?_)
 exact wpAny_bind (wpAny_newObj_type (wpAny_pure ⟨_,rfl,"set_iterator",_,⟨_,Heap.get?_push_size _ rfl,rfl⟩,za6.lookup,h⟩))
theorem zlh {a:Addr}{es:Array (Int×Value)}{ep:Nat}{t:SetTable}{Q:Value->Shared->Prop}(hT:s.TypeIs (.ref a) "set")(hs:SetAt s.heap a es ep t)(hdr:(!byT w && (!t.plain && decide (es.size > 1)))=true)(hz:es.size<scanBound)
  (h:∀ps d,List.Perm ps (List.range es.size)->Q (.ref (s.heap.push (tupO ps)).objs.size) { s with heap:=(s.heap.push (tupO ps)).push (itO (.ref s.heap.objs.size) a es.size ep),drawn:=d }):wpAny (model prog w) A (pyIter (.ref a)) Q E s:=by
 have hs':=hs
 obtain⟨o,ho,hd,hf⟩:=hs
 refine wpAny_pyIter_slot hT F.slot_set_iter (wpAny_call_entry F.slot_set_iter hT zfh ?_ (F.args_set_iter_1 _))
 show wpAny _ _ (Builtin.Frozenset.sizeOf a >>= _) _ _ s
 unfold Builtin.Frozenset.sizeOf
 refine wpAny_bind (wpAny_bind (wpAny_setEntries_of ho hd hf (wpAny_pure ?_)))
 refine wpAny_bind (zhs hs' ?_)
 rw[hdr,if_pos rfl]
 refine wpAny_bind (draw_ok es.size (List.range es.size) _ _ (List.length_range) fun ps d hp=>?_)
 refine wpAny_bind (wpAny_newTuple ?_ (by rw[List.length_map,hp.length_eq,List.length_range];exact fits_of_scanBound hz))
 have ho':=Heap.get?_push_of_some (PyProof.Rows.seqObj "tuple" (ps.map fun i:Nat=>rawInt i).toArray 0) ho
 refine wpAny_bind (wpAny_setEpoch_of (s:={ s with heap:=s.heap.push (PyProof.Rows.seqObj "tuple" (ps.map fun i:Nat=>rawInt i).toArray 0),drawn:=d }) ho' hd hf ?_)
 exact wpAny_bind (wpAny_newObj_type (wpAny_pure ⟨_,rfl,"set_iterator",_,⟨_,Heap.get?_push_size _ rfl,rfl⟩,za6.lookup,h ps d hp⟩))
end
end SS
namespace SS
open PySem PySem.SetTable
section
variable {prog:Program}{w:World}{A G:Around}{E:Value->Shared->Prop}{s z:Shared}
theorem hint_set {a:Addr}{Q:Bool->Shared->Prop}(hT:s.TypeIs (.ref a) "set")(h:Q false s):wpAny (model prog w) A (Builtin.List.listLengthHint (.ref a)) Q E s:=by
 unfold Builtin.List.listLengthHint
 refine wpAny_bind (wpAny_specialOf hT F.slot_set_len.lookup ?_)
 generalize hid:("set.__len__":String)=id0
 wp_delta
 rw[show splitId id0=some ("set","__len__") from by subst hid;decide +kernel]
 subst hid
 refine wpAny_bind (wpAny_isInstance (T:="set") (b:=true) hT sub_set_self ?_)
 refine wpAny_ite_split (fun hab=>absurd hab (by decide)) (fun _=>?_)
 refine wpAny_ite_split (fun _=>?_) (fun hab=>absurd (by decide +kernel) hab)
 refine wpAny_bind (wpAny_typeOf hT ?_)
 exact wpAny_pure h
noncomputable def WalkOf (prog:Program)(w:World)(A:Around)(s s1:Shared)(I a:Addr)(es:Array (Int×Value)):Prop :=
 ∃(fp wr:List Addr) (P:Nat->Value->Prop) (St:Nat->Heap->Prop),Walks prog w A I fp wr es.size P St/\St 0 s1.heap/\(∀b∈wr,s.heap.objs.size<=b)/\(∃h d,s1={ s with heap:=h,drawn:=d }) /\
  (∀b o,s.heap.get? b=some o->s1.heap.get? b=some o)/\(∀b∈fp,b=a\/s.heap.objs.size<=b)/\∀acc,ItemsOf P acc es.size->List.Perm acc.toList (es.toList.map (·.2))
theorem zgm {P:Nat->Value->Prop}{acc:Array Value}{l:List Value}(h:ItemsOf P acc l.length)(hP:∀i v,P i v->l[i]? = some v):acc.toList=l:=by
 obtain⟨h1,h2⟩:=h
 refine List.ext_getElem? fun i=>?_
 rw[Array.getElem?_toList]
 by_cases hi:i<acc.size
 ·have e:=Array.getElem?_eq_getElem hi
  rw[e,hP i _ (h2 i _ e)]
 ·rw[Array.getElem?_eq_none (by omega),List.getElem?_eq_none (by omega)]
theorem iter_set {a:Addr}{es:Array (Int×Value)}{ep:Nat}{t:SetTable}{Q:Value->Shared->Prop}(hh:A.handled=none)(hT:s.TypeIs (.ref a) "set")(hs:SetAt s.heap a es ep t)(hz:es.size<scanBound)(hled:t.led=!byT w)(hpl:es.size≠0->t.plain=false)
  (h:∀I s1,WalkOf prog w A s s1 I a es->Q (.ref I) s1):wpAny (model prog w) A (pyIter (.ref a)) Q E s:=by
 have hal:a<s.heap.objs.size:=by obtain⟨o,ho,_⟩:=hs;exact Heap.lt_size ho
 have hne:a≠s.heap.objs.size:=Nat.ne_of_lt hal
 have hfp:t.place.size=es.size:=by
  obtain⟨o,ho,hd,hf⟩:=hs
  simp only[SetTable.fits,Bool.and_eq_true,beq_iff_eq]at hf
  exact hf.1
 cases hb:byT w with
 | true =>
  refine zi5 hT hs (by rw[hb];rfl) (h _ _ ⟨_,_,_,_,walk_text hb hh s.heap.objs.size a hne es ep t,⟨⟨_,Heap.get?_push_size _ rfl,rfl,rfl⟩,hs.at' fun o e=>Heap.get?_push_of_some _ e⟩,by simp,⟨_,s.drawn,rfl⟩,fun b o e=>Heap.get?_push_of_some _ e,fun b hb=>?_,fun acc ha=>?_⟩)
  ·simp only[List.mem_cons,List.not_mem_nil,or_false]at hb
   rcases hb with rfl | rfl
   ·exact .inr (Nat.le_refl _)
   ·exact .inl rfl
  ·have hp:=zh2 (w.params.setOrder a ep) es
   have hl:((pickOrder (w.params.setOrder a ep) es).toList.map (·.2)).length=es.size:=by rw[List.length_map,hp.length_eq,Array.length_toList]
   rw[zgm (l:=(pickOrder (w.params.setOrder a ep) es).toList.map (·.2)) (by rw[hl];exact ha) fun i v hv=>by
    rw[List.getElem?_map,Array.getElem?_toList];exact hv]
   exact hp.map _
 | false =>
  cases hdr:(!t.plain && decide (es.size > 1)) with
  | true =>
   refine zlh hT hs (by rw[hb,hdr];rfl) hz fun ps d hp=>h _ _ ⟨_,_,_,_,zmi hh (s.heap.push (tupO ps)).objs.size a s.heap.objs.size (by rw[Heap.size_push];exact Nat.ne_of_lt (Nat.lt_succ_of_lt hal)) (by rw[Heap.size_push];exact Nat.ne_of_lt (Nat.lt_succ_self _)) es ep t ps hp,⟨⟨_,Heap.get?_push_size _ rfl,rfl,rfl⟩,hs.at' fun o e=>Heap.get?_push_of_some _ (Heap.get?_push_of_some _ e),⟨_,0,Heap.get?_push_of_some _ (Heap.get?_push_size _ rfl),rfl⟩⟩,?_,⟨_,d,rfl⟩,fun b o e=>Heap.get?_push_of_some _ (Heap.get?_push_of_some _ e),fun b hb=>?_,fun acc ha=>?_⟩
   ·intro b hb
    rw[List.mem_singleton.mp hb,Heap.size_push]
    exact Nat.le_succ _
   ·simp only[List.mem_cons,List.not_mem_nil,or_false]at hb
    rcases hb with rfl | rfl | rfl
    ·exact .inr (by rw[Heap.size_push];exact Nat.le_succ _)
    ·exact .inl rfl
    ·exact .inr (Nat.le_refl _)
   ·have hl:(ps.map fun p=>((es[p]?).map (·.2)).getD .none).length=es.size:=by rw[List.length_map,hp.length_eq,List.length_range]
    rw[zgm (l:=ps.map fun p=>((es[p]?).map (·.2)).getD .none) (by rw[hl];exact ha) fun i v hv=>by
     obtain⟨p,x,h1,h2,rfl⟩:=hv
     rw[List.getElem?_map,h1,Option.map_some,h2];rfl]
    refine (hp.map _).trans (.of_eq ?_)
    refine List.ext_getElem? fun i=>?_
    rw[List.getElem?_map,List.getElem?_map,show es.toList[i]? = es[i]? from Array.getElem?_toList ..]
    by_cases hi:i<es.size
    ·rw[List.getElem?_range hi,Array.getElem?_eq_getElem hi];simp[Array.getElem?_eq_getElem hi]
    ·rw[List.getElem?_eq_none (by simp;omega),Array.getElem?_eq_none (by omega)];rfl
  | false =>
   have h1:es.size<=1:=by
    by_cases h0:es.size=0
    ·omega
    ·rw[hpl h0]at hdr
     simpa using hdr
   refine zi5 hT hs (by rw[hdr];simp) (h _ _ ⟨_,_,_,_,walk_led hb hh s.heap.objs.size a hne es ep t (by rw[hled,hb];rfl) h1 hfp,⟨⟨_,Heap.get?_push_size _ rfl,rfl,rfl⟩,hs.at' fun o e=>Heap.get?_push_of_some _ e⟩,by simp,⟨_,s.drawn,rfl⟩,fun b o e=>Heap.get?_push_of_some _ e,fun b hb=>?_,fun acc ha=>?_⟩)
   ·simp only[List.mem_cons,List.not_mem_nil,or_false]at hb
    rcases hb with rfl | rfl
    ·exact .inr (Nat.le_refl _)
    ·exact .inl rfl
   ·rw[zgm (l:=es.toList.map (·.2)) (by rw[List.length_map,Array.length_toList];exact ha) fun i v hv=>by
     rw[List.getElem?_map,Array.getElem?_toList];exact hv]
theorem zku {a:Addr}{l:List Str}{Q:List Value->Shared->Prop}(hh:A.handled=none)(hS:SetS prog w s.heap a l)
  (hQ:∀vs h' d tk,(∀v∈vs,∃x u,v=.str x u)->List.Perm (vs.map tx) l->(∀b o,s.heap.get? b=some o->h'.get? b=some o)->s.heap.objs.size<h'.objs.size->Q vs { s with heap:=h',drawn:=d,toks:=tk }) :
  wpAny (model prog w) A (collect (.ref a)) Q E s:=by
 obtain⟨o,es,ep,t,ho,hex,hd,hel,hlp,hb,hf,hled,hpl⟩:=hS
 have hlen:es.size=l.length:=by rw[<-hlp.length_eq,List.length_map,Array.length_toList]
 have hal:=Heap.lt_size ho
 unfold collect
 refine wpAny_bind (wpAny_runValue (codeAny_builtin F.entry_proto_collect ?_))
 rw[Around.under_plainId F.plain_proto_collect _]
 show wpAny _ A.in1 (newList [] >>= fun l=>again (.builtin "list.__iadd__" ⟨[l,.ref a],[]⟩)) _ _ s
 refine wpAny_bind (wpAny_newObj_type ?_)
 refine wpAny_pure ⟨plainId_quiet F.plain_list_iadd _,codeAny_builtin F.entry_list_iadd ?_⟩
 rw[Around.under_plainId F.plain_list_iadd _]
 show wpAny _ A.in1 (Builtin.List.listExtendWith (.ref s.heap.objs.size) (.ref a) (.ref s.heap.objs.size)) _ _ _
 unfold Builtin.List.listExtendWith
 have ho1:=Heap.get?_push_of_some { cls:=.type "list",data:=.seq ([]:List Value).toArray } ho
 have hT1:Shared.TypeIs { s with heap:=s.heap.push { cls:=.type "list",data:=.seq ([]:List Value).toArray } } (.ref a) "set":=⟨o,ho1,hex.1⟩
 refine wpAny_bind (wpAny_typeOf hT1 ?_)
 have h1:Builtin.List.listSameRef (.ref s.heap.objs.size) (.ref a)=false:=by
  have:s.heap.objs.size≠a:=Nat.ne_of_gt hal
  simp[Builtin.List.listSameRef,this]
 have h2:(Value.type "set" == Value.type "list")=false:=by decide
 have h3:(Value.type "set" == Value.type "tuple")=false:=by decide
 simp only[h1,h2,h3,Bool.or_false,Bool.false_eq_true,if_false]
 refine wpAny_bind (iter_set hh hT1 ⟨o,ho1,hd,hf⟩ hb hled (fun h0=>hpl (by intro e;rw[e]at hlen;exact h0 hlen)) fun I s1 hW=>?_)
 obtain⟨fp,wr,P,St,W,hst,hwr,⟨g,dd,rfl⟩,hkp,hfp,hacc⟩:=hW
 have hsz1:(s.heap.push { cls:=.type "list",data:=.seq ([]:List Value).toArray }).objs.size=s.heap.objs.size+1:=Heap.size_push ..
 have hLf:s.heap.objs.size∉fp:=fun hm=>by
  rcases hfp _ hm with e | e
  ·exact Nat.ne_of_gt hal e
  ·change (s.heap.push { cls:=.type "list",data:=.seq ([]:List Value).toArray }).objs.size<=_ at e
   rw[hsz1]at e;exact absurd e (Nat.not_succ_le_self _)
 have hLw:s.heap.objs.size∉wr:=fun hm=>hLf (W.sub _ hm)
 have hL0:g.get? s.heap.objs.size=some { cls:=.type "list",data:=.seq ([]:List Value).toArray }:=hkp _ _ (Heap.get?_push_size _ rfl)
 have hold:∀b o,s.heap.get? b=some o->g.get? b=some o:=fun b o e=>hkp b o (Heap.get?_push_of_some _ e)
 have hT2:Shared.TypeIs { s with heap:=g,drawn:=dd } (.ref a) "set":=⟨o,hold a o ho,hex.1⟩
 refine wpAny_bind (wpAny_holding (hint_set hT2 ?_))
 have fin:∀(R:Result->Shared->Prop) (g1:Heap) (c:Nat),(∀(vs:List Value) (h':Heap) (tk c':Nat),(∀v∈vs,∃x u,v=Value.str x u)->List.Perm (vs.map tx) l->(∀b o,s.heap.get? b=some o->h'.get? b=some o)->h'.get? s.heap.objs.size=some { cls:=.type "list",data:=.seq vs.toArray c' }->R (.ok (.ret (.ref s.heap.objs.size))) { s with heap:=h',drawn:=dd,toks:=tk }) ->
   St 0 g1->(∀b o,s.heap.get? b=some o->g1.get? b=some o)->g1.get? s.heap.objs.size=some { cls:=.type "list",data:=.seq #[] c } ->
   codeAny (model prog w) A (.builtin "list.extend.loop" ⟨[.ref s.heap.objs.size,.ref I,.ref s.heap.objs.size],[]⟩) R { s with heap:=g1,drawn:=dd }:=by
  intro R g1 c hR hst1 hk1 hL1
  refine codeAny_extend_loopS W.toS (fits_of_scanBound hb) _ hLf _ es.size 0 _ #[] c rfl (Nat.zero_le _) hst1 hL1 (ItemsOf.nil _) fun s' acc' c' hm hS' ha=>?_
  have hp:=hacc acc' ha
  rw[Moved.eq_with hm]
  refine hR acc'.toList s'.heap s'.toks c' (fun v hv=>?_) ((hp.map tx).trans (.trans (.of_eq (by rw[List.map_map];rfl)) hlp)) (fun b ob e=>?_) (by simpa using hS')
  ·obtain⟨e,he,rfl⟩:=List.mem_map.mp (hp.mem_iff.mp hv)
   obtain⟨⟨k,hk,_⟩,_⟩:=hel e he
   obtain⟨u,hu⟩:=Value.isStrOf_shape hk
   exact⟨k,u,hu⟩
  ·refine hm.heap b ob (fun hmem=>?_) (hk1 b ob e)
   rcases List.mem_cons.mp hmem with q | q
   ·exact absurd (Heap.lt_size e) (by rw[q];exact Nat.lt_irrefl _)
   ·have:=hwr b q
    change (s.heap.push { cls:=.type "list",data:=.seq ([]:List Value).toArray }).objs.size<=_ at this
    rw[hsz1]at this
    exact absurd (Nat.lt_of_lt_of_le (Heap.lt_size e) (Nat.le_of_succ_le this)) (Nat.lt_irrefl _)
 have last:∀(vs:List Value) (h':Heap) (tk c':Nat),(∀v∈vs,∃x u,v=Value.str x u)->List.Perm (vs.map tx) l->(∀b o,s.heap.get? b=some o->h'.get? b=some o)->h'.get? s.heap.objs.size=some { cls:=.type "list",data:=.seq vs.toArray c' } ->
   wpAny (model prog w) A (do
    let o <-load s.heap.objs.size
    match o.data with
    | .seq xs _=>pure xs.toList
    | _=>unsupported "internal:collect") Q E { s with heap:=h',drawn:=dd,toks:=tk }:=fun vs h' tk c' q1 q2 q3 q4=>by
  refine wpAny_bind (wpAny_load (s:={ s with heap:=h',drawn:=dd,toks:=tk }) q4 ?_)
  exact wpAny_pure (hQ vs h' dd tk q1 q2 q3 (Heap.lt_size q4))
 refine wpAny_ite_split (fun _=>?_) (fun _=>wpAny_pure ⟨plainId_quiet F.plain_extend_loop _,fin _ g 0 last hst hold hL0⟩)
 refine wpAny_bind (wpAny_rule ?_)
 refine wpAny_bind ?_
 show wpAny _ _ (updateSeq s.heap.objs.size (·.push .none) >>= fun _=>updateSeq s.heap.objs.size (·.pop)) _ _ _
 refine wpAny_bind (wpAny_updateSeq (s:={ s with heap:=g,drawn:=dd }) hL0 rfl ?_)
 have hL1:=Heap.get?_update_self (Obj.mapSeq (·.push Value.none)) hL0 rfl
 refine wpAny_updateSeq (hz:=by seq_fits) hL1 rfl ?_
 have hL2:=Heap.get?_update_self (Obj.mapSeq (·.pop)) hL1 rfl
 have oth:∀b o,b≠s.heap.objs.size->g.get? b=some o->((g.update s.heap.objs.size (Obj.mapSeq (·.push Value.none))).update s.heap.objs.size (Obj.mapSeq (·.pop))).get? b=some o:=fun b o hb e =>
  (Heap.get?_update_other _ _ (Ne.symm hb)).trans ((Heap.get?_update_other _ _ (Ne.symm hb)).trans e)
 refine wpAny_pure ⟨plainId_quiet F.plain_extend_loop _,fin _ _ _ last (W.frame 0 _ _ hst fun b hb o e=>oth b o (fun q=>hLf (q ▸ hb)) e) (fun b o e=>oth b o (Nat.ne_of_lt (Heap.lt_size e)) (hold b o e)) hL2⟩
end
end SS
namespace SS
open PySem PySem.SetTable
section
variable {prog:Program}{w:World}{A G:Around}{E:Value->Shared->Prop}{s z:Shared}
open PyProof.Rows in
theorem zlp {a:Addr}{l:List Str}{Q:Value->Shared->Prop}(hh:A.handled=none)(hS:SetS prog w s.heap a l)(few:l.length<64)
  (h:∀(out:Array Value) (ss:List Str) (g:Heap) (d:Drawn) (tk c:Nat) (L:Addr),StrsAre out.toList ss->List.Perm ss l->sortedS ss=true->s.heap.objs.size<=L->(∀b o,s.heap.get? b=some o->g.get? b=some o)->g.get? L=some (seqObj "list" out c)->Q (.ref L) { s with heap:=g,drawn:=d,toks:=tk }) :
  wpAny (model prog w) A (call (.builtin "sorted") [.ref a]) Q E s:=by
 refine Calls.call_function_entry kind_sorted plain_sorted entry_sorted (args_sorted1 _) ?_
 unfold Builtin.«sorted»
 refine wpAny_bind (m:=checkCount _ _ _ _) (wpAny_pure (wpAny_bind (zku hh hS fun vs g d tk hv hp kp hlt=>?_)))
 have hvl:vs.length=l.length:=by rw[<-hp.length_eq,List.length_map]
 have hst:StrsAre vs (vs.map PyProof.Rows.strOf):=strsAre_map vs hv
 refine wpAny_bind (wpAny_newList ?_ (by rw[hvl,sizeLine_eq];omega))
 have atL:(g.push (seqObj "list" vs.toArray 0)).get? g.objs.size=some (seqObj "list" vs.toArray 0):=Heap.get?_push_size _ rfl
 show wpAny _ _ _ _ _ { s with heap:=g.push (seqObj "list" vs.toArray 0),drawn:=d,toks:=tk }
 refine wpAny_bind (wpAny_holding (wpAny_call_entry (s:={ s with heap:=g.push (seqObj "list" vs.toArray 0),drawn:=d,toks:=tk }) slot_list_sort ⟨_,atL,rfl⟩ entry_list_sort (list_sort_treeK (s:={ s with heap:=g.push (seqObj "list" vs.toArray 0),drawn:=d,toks:=tk }) strKind_oneLt atL hst.keysOf (fun v₁ v₂ rest e=>keyKind_strs (by rw[<-e];exact hst)) (by omega) fun st' a1 a2=>⟨_,rfl,?_⟩) (args_list_sort _)))
 obtain⟨ss',h1,h2,h3⟩:=sorted_out_str hst a1 a2
 obtain⟨e,he⟩:=sortedHeap_at (vs:=vs) (out:=(arrOf st').map (·.2)) atL
 refine wpAny_pure ⟨_,rfl,h _ ss' _ d tk e g.objs.size h1 (h2.trans hp) h3 (Nat.le_of_lt hlt) (fun b ob q=>?_) he⟩
 have q2:=kp b ob q
 have q3:=Heap.lt_size q2
 rw[sortedHeap_old (Nat.ne_of_lt q3) (Nat.lt_of_lt_of_le q3 (by rw[size_push'];exact Nat.le_succ _))]
 exact Heap.get?_push_of_some _ q2
theorem asc_eq:∀{l m:List Nat},l.Pairwise (· < ·)->m.Pairwise (· < ·)->(∀x,x∈l↔x∈m)->l=m
 | [],[],_,_,_=>rfl
 | [],b::m,_,_,h=>by have:=(h b).mpr (by simp);simp at this
 | a::l,[],_,_,h=>by have:=(h a).mp (by simp);simp at this
 | a::l,b::m,hl,hm,h=>by
  have h1:∀{x},x∈l->a<x:=fun hx=>List.rel_of_pairwise_cons hl hx
  have h2:∀{x},x∈m->b<x:=fun hx=>List.rel_of_pairwise_cons hm hx
  have hab:a=b:=by
   rcases List.mem_cons.mp ((h a).mp (by simp)) with e | e
   ·exact e
   ·rcases List.mem_cons.mp ((h b).mpr (by simp)) with e2 | e2
    ·exact e2.symm
    ·have:=h1 e2
     have:=h2 e
     omega
  subst hab
  rw[asc_eq (List.pairwise_cons.mp hl).2 (List.pairwise_cons.mp hm).2 fun x=>?_]
  constructor
  ·intro hx
   rcases List.mem_cons.mp ((h x).mp (by simp[hx])) with e | e
   ·have:=h1 hx;omega
   ·exact e
  ·intro hx
   rcases List.mem_cons.mp ((h x).mpr (by simp[hx])) with e | e
   ·have:=h2 hx;omega
   ·exact e
noncomputable def srtC (cs:List Nat):List Nat:=(List.range 128).filter fun c=>decide (c∈cs)
theorem range_asc:∀n,(List.range n).Pairwise (· < ·):=fun n=>List.pairwise_lt_range
theorem zlq (cs:List Nat):(srtC cs).Pairwise (· < ·):=(range_asc 128).filter _
theorem zjo {cs:List Nat}(h:∀c∈cs,c<128)(x:Nat):x∈srtC cs↔x∈cs:=by
 unfold srtC
 rw[List.mem_filter,List.mem_range]
 constructor
 ·rintro ⟨_,h2⟩;simpa using h2
 ·intro h2;exact⟨h x h2,by simpa using h2⟩
theorem zmc {l:List Str}(h:l.Nodup)(k:Str):(addS l k).Nodup:=by
 unfold addS
 split
 ·exact h
 ·rename_i hk
  rw[List.nodup_append]
  refine⟨h,by simp,fun a ha b hb=>?_⟩
  rw[List.mem_singleton.mp hb]
  rintro rfl;exact hk ha
theorem zfu (kf:Nat->Str):∀n,(addsS kf n).Nodup
 | 0=>.nil
 | n+1=>zmc (zfu kf n) _
theorem zgd (kf:Nat->Str):∀(n:Nat) (k:Str),k∈addsS kf n ↔ ∃i,i<n/\k=kf i
 | 0,k=>by simp[addsS]
 | n+1,k=>by
  have hm:k∈addsS kf (n+1)↔k∈addsS kf n\/k=kf n:=by
   rw[addsS];unfold addS
   split
   ·rename_i hk
    exact⟨.inl,fun h=>h.elim id fun e=>e ▸ hk⟩
   ·simp
  rw[hm,zgd kf n k]
  constructor
  ·rintro (⟨i,h1,h2⟩ | h)
   ·exact⟨i,by omega,h2⟩
   ·exact⟨n,by omega,h⟩
  ·rintro ⟨i,h1,h2⟩
   by_cases e:i=n
   ·exact .inr (e ▸ h2)
   ·exact .inl ⟨i,by omega,h2⟩
noncomputable def sg (c:Nat):Str:=⟨#[c]⟩
theorem sg_inj {a b:Nat}(h:sg a=sg b):a=b:=by
 injection h with h
 have:=congrArg (fun x:Array Nat=>x.toList) h
 simpa using this
theorem zjw:∀(l:List Nat) (p:Nat),PyProof.Rows.risingS (sg p) (l.map sg)=true->(p::l).Pairwise (· <= ·)
 | [],p,_=>by simp
 | c::l,p,h=>by
  rw[List.map_cons,PyProof.Rows.risingS,Bool.and_eq_true]at h
  have ih:=zjw l c h.2
  have hpc:p<=c:=by
   have h1:=h.1
   rw[PyProof.Rows.ltCps_eq]at h1
   simp only[sg,Bool.not_eq_true',decide_eq_false_iff_not]at h1
   rcases Nat.lt_or_ge c p with hlt | hge
   ·exact absurd (show ([c]:List Nat)<[p] from List.Lex.rel hlt) (of_decide_eq_false h1)
   ·exact hge
  refine List.pairwise_cons.mpr ⟨fun x hx=>?_,ih⟩
  rcases List.mem_cons.mp hx with rfl | hx
  ·exact hpc
  ·exact Nat.le_trans hpc (List.rel_of_pairwise_cons ih hx)
theorem only_one {x:Str}{ss:List Str}(h128:∀c∈x.cps.toList,c<128)(hp:List.Perm ss (addsS (fun i=>sg (x.cps.getD i 0)) x.cps.size))(hs:PyProof.Rows.sortedS ss=true):ss=(srtC x.cps.toList).map sg:=by
 have hmem:∀k,k∈ss ↔ ∃c∈x.cps.toList,k=sg c:=fun k=>by
  rw[hp.mem_iff,zgd]
  constructor
  ·rintro ⟨i,hi,rfl⟩
   exact⟨x.cps.getD i 0,by rw[Array.getD_eq_getD_getElem?,Array.getElem?_eq_getElem hi];simp,rfl⟩
  ·rintro ⟨c,hc,rfl⟩
   obtain⟨i,hi,e⟩:=List.getElem_of_mem hc
   rw[Array.length_toList]at hi
   exact⟨i,hi,by rw[Array.getD_eq_getD_getElem?,Array.getElem?_eq_getElem hi,<-e];simp⟩
 have hnd:ss.Nodup:=hp.nodup_iff.mpr (zfu _ _)
 obtain⟨cl,rfl⟩:∃cl:List Nat,ss=cl.map sg:=⟨ss.map fun k=>k.cps.getD 0 0,by
  rw[List.map_map]
  refine (List.map_id ss).symm.trans (List.map_congr_left fun k hk=>?_)
  obtain⟨c,_,rfl⟩:=(hmem k).mp hk
  rfl⟩
 congr 1
 refine asc_eq ?_ (zlq _) fun c=>?_
 ·have hpw:cl.Pairwise (· <= ·):=by
   cases cl with
   | nil=>exact .nil
   | cons p l=>exact zjw l p hs
  have hnd2:cl.Pairwise (· ≠ ·):=by
   have:(cl.map sg).Pairwise (· ≠ ·):=hnd
   rw[List.pairwise_map]at this
   exact this.imp fun h e=>h (by rw[e])
  exact (hpw.and hnd2).imp fun h=>by omega
 ·rw[zjo h128]
  have:=hmem (sg c)
  rw[List.mem_map]at this
  constructor
  ·intro h
   obtain⟨d,h1,h2⟩:=this.mp ⟨c,h,rfl⟩
   rw[sg_inj h2];exact h1
  ·intro h
   obtain⟨d,h1,h2⟩:=this.mpr ⟨c,h,rfl⟩
   rw[<-sg_inj h2];exact h1
end
end SS
namespace L2
open PySem PySem.Spec PyProof.Rows
section
variable {X:Cx}{x y v:Str}{p pos p2 pos2 p3 pos3:Pos}{e:Expr}{te:TE}
theorem Inv.drew {pins:List (Addr×Obj)}{σ:L2.St}{H:Hp}{s:Shared}(I:Inv X pins σ H s)(d:Drawn):Inv X pins σ H { s with drawn:=d } :=
 I.step (h':=s.heap) (g':=s.gens) (t':=s.toks) (d':=d) (ch:=[]) (fun _ z=>nomatch z) (fun b o _ _ _ e _=>e) (fun b o _ _ _ e _=>⟨o.slots,e⟩) (fun _ _ _ _ n=>n) (fun b o _ e=>⟨o,e⟩) (fun _ _ e=>e) (fun _ _ _ e=>e) (fun b ps e=>⟨#[],by rw[e];simp⟩) (fun m hm=>hm) I.hok I.bare
noncomputable def rSS (X:Cx):V->Hp->VK->Prop:=fun v H Q=>∃x:Str,v=.str x/\x.cps.size<=4000/\(∀c∈x.cps.toList,c<128)/\(SS.srtC x.cps.toList).length<64/\∀l,H l=none->Q (.ref l) (upd H l (.lst ((SS.srtC x.cps.toList).map fun c=>V.str (SS.sg c))))
theorem zjy:∀{us:List Value} {ss:List Str},StrsAre us ss->Vals (ss.map V.str) us
 | _,_,.nil=>.nil
 | _,_,.cons x t h=>.cons ⟨t,rfl⟩ (zjy h)
theorem zky (hc:X.A.handled=none)(hg:Gl X x)(hm:X.mg x=none)(hv:bootBuiltins x=some (.builtin "sorted"))(hg2:Gl X y)(hm2:X.mg y=none)(hv2:bootBuiltins y=some (.type "set"))(hg3:Gl X v)(hm3:X.mg v=none)(hv3:bootBuiltins v=some (.type "list"))(ha:PE X e te)
  (hn:x ≠ "__name__":=by decide) (hdb:(x==("__debug__":Str))=false:=by decide) (hn2:y ≠ "__name__":=by decide) (hdb2:(y==("__debug__":Str))=false:=by decide) (hn3:v ≠ "__name__":=by decide) (hdb3:(v==("__debug__":Str))=false:=by decide)
  (hs:starEach [e] X.env=[(false,eval e X.env)]:=by rfl) (hs3:starEach [.Call (.Name v p3) [e] [] pos3] X.env=[(false,eval (.Call (.Name v p3) [e] [] pos3) X.env)]:=by rfl)
  (hs2:starEach [.Call (.Name y p2) [.Call (.Name v p3) [e] [] pos3] [] pos2] X.env=[(false,eval (.Call (.Name y p2) [.Call (.Name v p3) [e] [] pos3] [] pos2) X.env)]:=by rfl) :
  PE X (.Call (.Name x p) [.Call (.Name y p2) [.Call (.Name v p3) [e] [] pos3] [] pos2] [] pos) (tUn (rSS X) te):=by
 intro pins s σ H Q I h
 refine wpAny_Call_Name_kw (zjk I hg hm hv ?_ hn hdb)
 refine PyProof.Rows.callWith_builtin1 (e:=.Call (.Name y p2) [.Call (.Name v p3) [e] [] pos3] [] pos2) (rest:=[]) ?_ (by rw[hs2];rfl) rfl
 rw[hs2]
 show wpAny _ _ (spliced ((false,eval (.Call (.Name y p2) [.Call (.Name v p3) [e] [] pos3] [] pos2) X.env)::backTo pos [])) _ _ s
 refine Calls.spliced_cons (wpAny_Call_Name_kw (zjk I hg2 hm2 hv2 ?_ hn2 hdb2))
 refine PyProof.Rows.callWith_type1 (e:=.Call (.Name v p3) [e] [] pos3) (rest:=[]) ?_ (by rw[hs3];rfl) rfl
 rw[hs3]
 show wpAny _ _ (spliced ((false,eval (.Call (.Name v p3) [e] [] pos3) X.env)::backTo pos2 [])) _ _ s
 refine Calls.spliced_cons (wpAny_Call_Name_kw (zjk I hg3 hm3 hv3 ?_ hn3 hdb3))
 refine PyProof.Rows.callWith_type1 (e:=e) (rest:=[]) ?_ (by rw[hs];rfl) rfl
 rw[hs]
 show wpAny _ _ (spliced ((false,eval e X.env)::backTo pos3 [])) _ _ s
 refine Calls.spliced_cons (thn (ha pins s σ H _ I h) fun u s1 zz=>?_)
 obtain⟨v,H1,I1,r1,q1⟩:=zz
 refine wpAny_pure ?_
 obtain⟨tx,rfl,hz,h128,few,fin⟩:=q1
 obtain⟨t,rfl⟩:=(show ∃t,u=Value.str tx t from r1)
 refine call_list_str hc tx t (fun g tk acc c kp atL hit=>?_) (by rw[sizeLine_eq];omega)
 refine wpAny_pure ?_
 have hl:Heap.IsList g s1.heap.objs.size acc:=⟨_,atL,rfl,c,rfl⟩
 refine SS.set_of_s (z:={ s1 with heap:=g,toks:=tk }) (fun i=>SS.sg (tx.cps.getD i 0)) hc hl (fun i w hw=>?_) (by rw[hit.1];omega) fun g2 tk2 hS kp2=>?_
 ·obtain⟨cc,uu,h1,rfl⟩:=hit.2 i w hw
  exact⟨uu,by rw[Array.getD_eq_getD_getElem?,h1];rfl⟩
 rw[hit.1]at hS
 refine wpAny_pure ?_
 have hlen:(SS.addsS (fun i=>SS.sg (tx.cps.getD i 0)) tx.cps.size).length<64:=by
  obtain⟨cl,e1,e2⟩:∃cl:List Nat,SS.addsS (fun i=>SS.sg (tx.cps.getD i 0)) tx.cps.size=cl.map SS.sg/\∀c∈cl,c∈SS.srtC tx.cps.toList:=by
   refine⟨(SS.addsS (fun i=>SS.sg (tx.cps.getD i 0)) tx.cps.size).map fun k=>k.cps.getD 0 0,?_,?_⟩
   ·rw[List.map_map]
    refine (List.map_id _).symm.trans (List.map_congr_left fun k hk=>?_)
    obtain⟨i,_,rfl⟩:=(SS.zgd _ _ _).mp hk
    rfl
   ·intro c hc
    obtain⟨k,hk,rfl⟩:=List.mem_map.mp hc
    obtain⟨i,hi,rfl⟩:=(SS.zgd _ _ _).mp hk
    rw[SS.zjo h128]
    show tx.cps.getD i 0∈_
    rw[Array.getD_eq_getD_getElem?,Array.getElem?_eq_getElem hi];simp
  have hnd:=SS.zfu (fun i=>SS.sg (tx.cps.getD i 0)) tx.cps.size
  rw[e1]at hnd ⊢
  rw[List.length_map]
  have hcl:cl.Nodup:=by
   have:(cl.map SS.sg).Pairwise (· ≠ ·):=hnd
   rw[List.pairwise_map]at this
   exact this.imp fun h e=>h (by rw[e])
  have:∀(l m:List Nat),l.Nodup->(∀x∈l,x∈m)->l.length<=m.length:=by
   intro l
   induction l with
   | nil=>intro m _ _;simp
   | cons a l ih =>
    intro m h1 h2
    have ham:=h2 a (by simp)
    have:=ih (m.erase a) (List.nodup_cons.mp h1).2 fun x hx=>(List.mem_erase_of_ne (by rintro rfl;exact (List.nodup_cons.mp h1).1 hx)).mpr (h2 x (by simp[hx]))
    rw[List.length_erase_of_mem ham]at this
    have:0<m.length:=List.length_pos_of_mem ham
    simp only[List.length_cons];omega
  exact Nat.lt_of_le_of_lt (this cl _ hcl e2) few
 refine SS.zlp (s:={ s1 with heap:=g2,toks:=tk2 }) hc hS hlen fun out ss g3 d tk3 c3 L hst hp hso hL kp3 at3=>?_
 have hss:=SS.only_one h128 hp hso
 subst hss
 have keep:∀b o,s1.heap.get? b=some o->g3.get? b=some o:=fun b o e=>kp3 b o (kp2 b o (Heap.lt_size (kp b o e)) (kp b o e))
 have hge:s1.heap.objs.size<=L:=by
  have h1:=Heap.lt_size atL
  obtain⟨o,_,_,_,ho,_⟩:=hS
  have h2:=Heap.lt_size ho
  change g.objs.size<g2.objs.size at h2
  change g2.objs.size<=L at hL
  exact Nat.le_trans (Nat.le_of_lt h1) (Nat.le_trans (Nat.le_of_lt h2) hL)
 refine⟨.ref L,_,(I1.laid (t':=tk3) keep hge (show ObjOk X.prog X.w _ g3 L (.lst ((SS.srtC tx.cps.toList).map fun c=>V.str (SS.sg c))) from ⟨?_,out.toList,c3,?_,by simpa using at3⟩)).drew d,rfl,fin _ (I1.hok.fresh hge)⟩
 ·rw[List.length_map,sizeLine_eq];omega
 ·have:=zjy hst
  rw[List.map_map]at this
  exact this
end
end L2
namespace M
open PySem PySem.Spec L2
noncomputable def sortSetV:D->Stor->R D
 | .str cs,st=>if cs.length<=4000/\(∀c∈cs,c<128)/\(SS.srtC cs).length<64 then .ok (.loc st.length) (st++[.lst ((SS.srtC cs).map fun c=>.str [c])]) else .bad
 | _,_=>.bad
theorem zlt {K:PySem.W.Frag}{μ:List Addr}{H:Hp}:∀(l:List Nat),RepVs K μ H (l.map fun c=>D.str [c]) (l.map fun c=>V.str (SS.sg c))
 | []=>RepVs.nil
 | c::l=>RepVs.cons (RepV.str_iff.mpr rfl) (zlt l)
section
variable {X:Cx}{x y v:Str}{p pos p2 pos2 p3 pos3:Pos}{e:Expr}{m:ME}
theorem zl6 (hc:X.A.handled=none)(hg:Gl X x)(hm:X.mg x=none)(hv:bootBuiltins x=some (.builtin "sorted"))(hg2:Gl X y)(hm2:X.mg y=none)(hv2:bootBuiltins y=some (.type "set"))(hg3:Gl X v)(hm3:X.mg v=none)(hv3:bootBuiltins v=some (.type "list"))(ha:JE X e m)
  (hn:x ≠ "__name__":=by decide) (hdb:(x==("__debug__":Str))=false:=by decide) (hn2:y ≠ "__name__":=by decide) (hdb2:(y==("__debug__":Str))=false:=by decide) (hn3:v ≠ "__name__":=by decide) (hdb3:(v==("__debug__":Str))=false:=by decide)
  (hs:starEach [e] X.env=[(false,eval e X.env)]:=by rfl) (hs3:starEach [.Call (.Name v p3) [e] [] pos3] X.env=[(false,eval (.Call (.Name v p3) [e] [] pos3) X.env)]:=by rfl)
  (hs2:starEach [.Call (.Name y p2) [.Call (.Name v p3) [e] [] pos3] [] pos2] X.env=[(false,eval (.Call (.Name y p2) [.Call (.Name v p3) [e] [] pos3] [] pos2) X.env)]:=by rfl) :
  JE X (.Call (.Name x p) [.Call (.Name y p2) [.Call (.Name v p3) [e] [] pos3] [] pos2] [] pos) (op1 sortSetV m):=by
 refine JE.of (zky hc hg hm hv hg2 hm2 hv2 hg3 hm3 hv3 ha hn hdb hn2 hdb2 hn3 hdb3 hs hs3 hs2) fun σ H Q zz=>?_
 obtain⟨μ,env,st,he,hS,hp⟩:=zz
 refine⟨μ,env,st,he,hS,hp.bind.imp ?_⟩
 rintro v H1 ⟨μ1,st1,d,g1,hs1,hx,hp1⟩
 cases d with
 | str cs =>
  unfold sortSetV at hp1
  dsimp only at hp1
  split at hp1
  ·rename_i hh
   obtain⟨h1,h2,h3⟩:=hh
   have e1:=RepV.str_iff.mp hx
   refine⟨strOf cs,e1,by simpa using h1,by simpa using h2,by simpa using h3,fun l hn=>?_⟩
   exact hp1.newList hs1 (zlt _) hn
  ·exact hp1.elim
 | _=>exact hp1.elim
end
end M
namespace M
noncomputable def mxS:List Int->Int
 | []=>0
 | [n]=>n
 | n::m::r=>max n (mxS (m::r))
theorem zmx:∀(l:List Int),l≠[]->mxS l∈l
 | [],h=>absurd rfl h
 | [n],_=>by simp[mxS]
 | n::m::r,_=>by
  have:=zmx (m::r) (by simp)
  rw[mxS]
  rcases Int.le_total n (mxS (m::r)) with h | h
  ·rw[Int.max_eq_right h];exact List.mem_cons_of_mem _ this
  ·rw[Int.max_eq_left h];simp
theorem mxS_le:∀(l:List Int) (a:Int),a∈l->a<=mxS l
 | [n],a,h=>by simp at h;subst h;exact Int.le_refl _
 | n::m::r,a,h=>by
  rw[mxS]
  rcases List.mem_cons.mp h with rfl | h
  ·exact Int.le_max_left _ _
  ·exact Int.le_trans (mxS_le (m::r) a h) (Int.le_max_right _ _)
end M
namespace L2
open PySem PySem.Spec PyProof.Rows
theorem ints_ofV:∀(ns:List Int) (its:List Value),Vals (ns.map V.int) its->IntsAre its ns:=by
 intro ns
 induction ns with
 | nil=>intro its h;cases h;exact .nil
 | cons n ns ih =>
  intro its h
  cases h with
  | cons r1 r2 =>
   obtain⟨t,rfl⟩:=r1
   exact .cons n t (ih _ r2)
variable {X:Cx}
theorem zlw (hc:X.A.handled=none):CallR X (.builtin "max") (fun xs H Q=>∃(p:Addr) (ns:List Int),xs=[.ref p]/\SqL X.K H p (ns.map V.int)/\ns≠[]/\Q (.int (M.mxS ns)) H):=by
 rintro pins s σ H xs us Q I hr ⟨p,ns,rfl,hq,hne,h⟩
 cases hr with
 | cons r1 r2 =>
  cases r2
  cases r1
  obtain⟨its,rv,pl,hz⟩:=I.list hq
  have hi:=ints_ofV ns its rv
  have hl:s.heap.IsList p its.toArray:=pl.isList
  obtain⟨xs,hx⟩:=hi.allInts.items
  have hns:ns=xs.toList.map (·.1):=by rw[<-hi.numsOf,<-nums_intItems,<-hx]
  have hsz:0<xs.size:=by
   have:0<ns.length:=List.length_pos_iff.mpr hne
   rw[hns,List.length_map,Array.length_toList]at this;exact this
  rw[hx]at hl
  refine max_intList hc hl hsz fun v h' tk hv hk=>?_
  obtain⟨t,rfl⟩:=intItems_at hv
  obtain⟨h1,h2⟩:=argBest_gt (numAt xs) (xs.size - 1)
  have e:numAt xs (argBest (fun i j=>decide (numAt xs i > numAt xs j)) (xs.size - 1))=M.mxS ns:=by
   refine Int.le_antisymm (M.mxS_le ns _ ?_) ?_
   ·rw[hns,numAt_eq];exact getD_mem (by rw[List.length_map,Array.length_toList];omega)
   ·have ha:=M.zmx ns hne
    generalize M.mxS ns=a at ha
    rw[hns]at ha
    obtain⟨j,hj,rfl⟩:=mem_getD ha
    rw[List.length_map,Array.length_toList]at hj
    rw[<-numAt_eq];exact h2 j (by omega)
  rw[e]
  refine⟨.int (M.mxS ns),H,I.but (fun b ob hb e=>hk b ob e) (fun m' hm'=>?_),⟨t,rfl⟩,h⟩
  exact ((Att.fr_all hm').keeps hk).ns
end L2
namespace M
open PySem PySem.Spec L2
noncomputable def maxY:List D->Stor->R D
 | [.loc n],st=>match itemsAt st n with
  | some ds=>(match intsOf ds with | some ns=>if ns≠[] then .ok (.int (mxS ns)) st else .bad | none=>.bad)
  | none=>.bad
 | ds,st=>max2V ds st
theorem zjz {X:Cx}(hk:X.calm=true)(hc:X.A.handled=none):CallR X (.builtin "max") (rMC X maxY):=by
 rintro pins s σ H xs us Q I rv ⟨μ,st,ds,hs,hv,hp⟩
 unfold maxY at hp
 split at hp
 ·rename_i n
  cases e1:itemsAt st n with
  | none=>simp only[e1]at hp;exact hp.elim
  | some l =>
   simp only[e1]at hp
   cases e2:intsOf l with
   | none=>simp only[e2]at hp;exact hp.elim
   | some ns =>
    simp only[e2]at hp
    split at hp
    ·rename_i hne
     obtain⟨v,rfl,q⟩:=RepVs.one hv
     obtain⟨p,q1,rfl⟩:=RepV.loc_iff.mp q
     obtain⟨p',ys,r1,r2,r3⟩:=hs.items e1
     rw[q1]at r1;cases r1
     rw[zjc e2 r3]at r2
     exact zlw hc _ _ _ _ _ _ _ I rv ⟨p,ns,rfl,r2,hne,hp.ret hs (RepV.int_iff.mpr rfl)⟩
    ·exact hp.elim
 ·exact zlg hk _ _ _ _ _ _ _ I rv ⟨μ,st,_,hs,hv,hp⟩
end M
set_option maxHeartbeats 0
namespace Law
open PySem PySem.Spec L2 M
noncomputable def top (i:Nat):Stmt:=PySem.Challenge.pw_oneofall_k45_whole_one_step_of_rows_on_t.main.body.getD i (.Pass ⟨0,0,0,0⟩)
noncomputable abbrev zbh:Stmt:=(clsBody (top 1)).getD 0 (.Pass ⟨0,0,0,0⟩)
noncomputable abbrev za1:Stmt:=(clsBody (top 1)).getD 1 (.Pass ⟨0,0,0,0⟩)
noncomputable abbrev zck:Stmt:=top 4
noncomputable abbrev zb6:Stmt:=top 5
noncomputable abbrev zb8:Stmt:=top 6
noncomputable abbrev zau:Stmt:=top 7
noncomputable abbrev zca:Stmt:=top 8
noncomputable abbrev zbi:Stmt:=top 9
noncomputable abbrev zb7:Stmt:=top 10
noncomputable abbrev zfs:Stmt:=top 12
noncomputable abbrev zcz:Stmt:=top 13
noncomputable abbrev zbr:Stmt:=top 14
noncomputable abbrev zcd:Stmt:=top 15
noncomputable abbrev zcc:Stmt:=top 16
noncomputable abbrev zdl:Stmt:=top 17
noncomputable abbrev zex:Stmt:=top 18
noncomputable abbrev zfw:Stmt:=top 19
noncomputable abbrev zc1:Stmt:=top 20
noncomputable abbrev zc0:Stmt:=top 21
noncomputable abbrev zei:Stmt:=top 22
noncomputable abbrev zdm:Stmt:=top 23
noncomputable abbrev zbs:Stmt:=top 24
noncomputable abbrev zew:Stmt:=top 25
noncomputable abbrev zcl:Stmt:=top 26
noncomputable abbrev za3:Stmt:=top 27
noncomputable abbrev zbo:Stmt:=top 28
noncomputable abbrev zcb:Stmt:=top 29
noncomputable abbrev zf0:Stmt:=top 30
noncomputable abbrev zhm:Stmt:=top 31
noncomputable def zby:MS :=
  (seqS (setFldS "Numbers" "first" (vr 0) (vr 1))
  (setFldS "Numbers" "given" (vr 0) dicE))
noncomputable def zbj:FD:=gcFM (fnM 2 zby)
noncomputable def zaz:MS :=
  (seqS (ifS (tB1 (op2 (inDV true) (vr 1) (fldE "Numbers" "given" (vr 0)))) (asgS (op2 addV (fldE "Numbers" "first" (vr 0)) (callE lenW (consA (fldE "Numbers" "given" (vr 0)) nilA))) (subG setDV (fldE "Numbers" "given" (vr 0)) (vr 1))) skipS)
  (retS (op2 ixD (fldE "Numbers" "given" (vr 0)) (vr 1))))
noncomputable def za0:FD:=gcFM (fnM 2 zaz)
noncomputable def zco:MS :=
  (seqS (setS 1 dkE)
  (seqS (forS (dtI (vr 0)) (nameG 2) (asgS (ct (.bl true)) (subG setK (vr 1) (op2 ixV (vr 2) (ct (.int 1))))))
  (retS (vr 1))))
noncomputable def zbp:FD:=gcF (fnM 3 zco)
noncomputable def za9:MS :=
  (retS (compE [some 0,some 2,none] (strI (vr 1)) (nameG 2) yesT (tupE (consA (vr 0) (consA (vr 2) (consA (vr 2) (consA (vr 1) (consA (vr 0) nilA))))))))
noncomputable def zat:FD:=gcF (fnM 3 za9)
noncomputable def zce:MS :=
  (retS (methI "Numbers" "number" za0 (vr 0) (consA (tupE (consA (ct (.str [98,97,99,107])) (consA (vr 1) nilA))) nilA)))
noncomputable def zbc:FD:=gcFM (fnM 2 zce)
noncomputable def zbb:MS :=
  (retS (methI "Numbers" "number" za0 (vr 0) (consA (tupE (consA (ct (.str [103,114,111,119])) (consA (vr 1) (consA (vr 2) nilA)))) nilA)))
noncomputable def zar:FD:=gcFM (fnM 3 zbb)
noncomputable def zb2:MS :=
  (seqS (setS 3 (callF zar [] (consA (vr 0) (consA (vr 1) (consA (vr 2) nilA)))))
  (seqS (ifS (tB1 (op2 (eqV 200) (vr 1) (ct (.str [])))) (retS (tupE (consA (vr 3) (consA (ct (.str [95])) (consA (ct (.str [95])) (consA (ct (.str [108])) (consA (callF zbc [] (consA (vr 0) (consA (vr 2) nilA))) nilA))))))) skipS)
  (retS (tupE (consA (vr 3) (consA (ct (.str [95])) (consA (op2 ixV (vr 1) (ct (.int 0))) (consA (ct (.str [114])) (consA (callF zar [] (consA (vr 0) (consA (slE (vr 1) (inP (ct (.int 1))) noP) (consA (vr 2) nilA)))) nilA)))))))))
noncomputable def zbk:FD:=gcFM (fnM 4 zb2)
noncomputable def zcs:MS :=
  (seqS (setS 1 dicE)
  (seqS (forS (dtI (vr 0)) (nameG 2) (forS (range1I (consA (op2 addV (callE lenW (consA (op2 ixV (vr 2) (ct (.int 0))) nilA)) (ct (.int 1))) nilA)) (nameG 3) (asgS (ct (.bl true)) (subG setDV (vr 1) (tupE (consA (slE (op2 ixV (vr 2) (ct (.int 0))) (inP (vr 3)) noP) (consA (op2 ixV (vr 2) (ct (.int 1))) nilA)))))))
  (retS (vr 1))))
noncomputable def zdk:FD:=gcF (fnM 4 zcs)
noncomputable def zcj:MS :=
  (seqS (setS 3 (makeE "Numbers" zbj (consA (op2 addV (vr 2) (ct (.int 1))) nilA)))
  (seqS (setS 4 (lstE nilA))
  (seqS (setS 5 dicE)
  (seqS (forS (seqI (vr 0)) (nameG 6) (seqS (asgS (ct (.bl true)) (subG setDV (vr 5) (tupE (consA (op2 ixV (vr 6) (ct (.int 2))) (consA (op2 ixV (vr 6) (ct (.int 3))) nilA)))))
  (exprS (methE "list" appendV (vr 4) (consA (tupE (consA (op2 ixV (vr 6) (ct (.int 0))) (consA (op2 ixV (vr 6) (ct (.int 1))) (consA (ct (.str [95])) (consA (ct (.str [114])) (consA (callF zar [] (consA (vr 3) (consA (op2 ixV (vr 6) (ct (.int 2))) (consA (op2 ixV (vr 6) (ct (.int 3))) nilA)))) nilA)))))) nilA)))))
  (seqS (forS (dtI (vr 5)) (nameG 7) (seqS (setS 8 (callF zar [] (consA (vr 3) (consA (op2 ixV (vr 7) (ct (.int 0))) (consA (op2 ixV (vr 7) (ct (.int 1))) nilA)))))
  (exprS (methE "list" extendV (vr 4) (consA (callF zat [] (consA (vr 8) (consA (vr 1) (consA (ct (.str [114])) nilA)))) nilA)))))
  (seqS (setS 9 (callF zdk [] (consA (vr 5) nilA)))
  (seqS (forS (dtI (vr 9)) (nameG 10) (exprS (methE "list" appendV (vr 4) (consA (callF zbk [] (consA (vr 3) (consA (op2 ixV (vr 10) (ct (.int 0))) (consA (op2 ixV (vr 10) (ct (.int 1))) nilA)))) nilA))))
  (seqS (forS (dkI (callF zbp [] (consA (vr 5) nilA))) (nameG 11) (seqS (setS 8 (callF zbc [] (consA (vr 3) (consA (vr 11) nilA))))
  (seqS (exprS (methE "list" extendV (vr 4) (consA (callF zat [] (consA (vr 8) (consA (vr 1) (consA (ct (.str [108])) nilA)))) nilA)))
  (exprS (methE "list" appendV (vr 4) (consA (tupE (consA (vr 8) (consA (ct (.str [95])) (consA (ct (.str [95])) (consA (ct (.str [114])) (consA (vr 11) nilA)))))) nilA))))))
  (retS (vr 4))))))))))
noncomputable def zbn:FD:=gcF (fnM 12 zcj)
noncomputable def zbu:MS :=
  (seqS (ifS (tB1 (op2 ltV (vr 1) (callE lenW (consA (vr 0) nilA)))) (retS (op2 ixV (vr 0) (vr 1))) skipS)
  (seqS (setS 2 (op2 addV (op2 mulV (vr 1) (ct (.int 7919))) (ct (.int 5))))
  (seqS (ifS (tB1 (op2 gtV (callE lenW (consA (vr 0) nilA)) (ct (.int 0)))) (setS 2 (op2 modV (op2 addV (op2 mulV (op2 ixV (vr 0) (op2 modV (op2 mulV (vr 1) (ct (.int 7))) (callE lenW (consA (vr 0) nilA)))) (ct (.int 48271))) (op2 mulV (vr 1) (ct (.int 7919)))) (ct (.int 2147483647)))) skipS)
  (retS (op2 modV (op2 mulV (vr 2) (vr 2)) (ct (.int 2147483629)))))))
noncomputable def zbe:FD:=gcF (fnM 3 zbu)
noncomputable def zdp:MS :=
  (seqS (setS 1 (ct (.str [97,98,99,100,101,102,103,104,105,106,107,108,109,110,111,112,113,114,115,116,117,118,119,120,121,122])))
  (seqS (setS 2 (callF zbe [] (consA (vr 0) (consA (ct (.int 0)) nilA))))
  (seqS (setS 3 (op2 fdivV (vr 2) (ct (.int 4))))
  (seqS (setS 4 (ct (.str [])))
  (seqS (forS (range1I (consA (op2 addV (ct (.int 1)) (op2 modV (vr 2) (ct (.int 4)))) nilA)) (nameG 5) (seqS (setS 6 (op2 modV (vr 3) (callE lenW (consA (vr 1) nilA))))
  (seqS (setS 3 (op2 fdivV (vr 3) (callE lenW (consA (vr 1) nilA))))
  (seqS (setS 4 (op2 addV (vr 4) (op2 ixV (vr 1) (vr 6))))
  (setS 1 (op2 addV (slE (vr 1) noP (inP (vr 6))) (slE (vr 1) (inP (op2 addV (vr 6) (ct (.int 1)))) noP)))))))
  (retS (vr 4)))))))
noncomputable def zeg:FD:=gcF (fnM 7 zdp)
noncomputable def zcg:MS :=
  (seqS (setS 1 (callF zbe [] (consA (vr 0) (consA (ct (.int 1)) nilA))))
  (seqS (setS 2 (op2 ixV (lstE (consA (ct (.int 1)) (consA (ct (.int 900)) nilA))) (op2 modV (op2 fdivV (vr 1) (ct (.int 5))) (ct (.int 2)))))
  (seqS (setS 3 (op2 fdivV (vr 1) (ct (.int 10))))
  (seqS (setS 4 (lstE nilA))
  (seqS (forS (range1I (consA (op2 addV (ct (.int 1)) (op2 modV (vr 1) (ct (.int 5)))) nilA)) (nameG 5) (seqS (exprS (methE "list" appendV (vr 4) (consA (op2 addV (op2 addV (callE sumV (consA (slE (vr 4) (inP (op1 negV (ct (.int 1)))) noP) nilA)) (callE intC (consA (op2 gtV (vr 5) (ct (.int 0))) nilA))) (op2 modV (vr 3) (vr 2))) nilA)))
  (setS 3 (op2 fdivV (vr 3) (vr 2)))))
  (retS (vr 4)))))))
noncomputable def zc8:FD:=gcF (fnM 6 zcg)
noncomputable def zb9:MS :=
  (seqS (setS 3 (ct (.str [])))
  (seqS (setS 4 (op2 fdivV (vr 0) (ct (.int 2))))
  (seqS (forS (range1I (consA (vr 1) nilA)) (nameG 5) (ifS (tB1 (op2 (eqV 200) (op2 modV (vr 0) (ct (.int 2))) (ct (.int 1)))) (seqS (setS 4 (op2 modV (op2 addV (op2 addV (op2 mulV (vr 4) (ct (.int 48271))) (op2 mulV (ct (.int 7919)) (vr 5))) (ct (.int 11))) (ct (.int 2147483647))))
  (setS 3 (op2 addV (vr 3) (op2 ixV (vr 2) (op2 modV (op2 fdivV (vr 4) (ct (.int 64))) (callE lenW (consA (vr 2) nilA))))))) (seqS (setS 3 (op2 addV (vr 3) (op2 ixV (vr 2) (op2 modV (vr 4) (callE lenW (consA (vr 2) nilA))))))
  (setS 4 (op2 fdivV (vr 4) (callE lenW (consA (vr 2) nilA)))))))
  (retS (vr 3)))))
noncomputable def zcu:FD:=gcF (fnM 6 zb9)
noncomputable def zcq:MS :=
  (seqS (setS 2 (op2 ixV (lstE (consA (ct (.int 0)) (consA (ct (.int 1)) (consA (ct (.int 1)) (consA (ct (.int 2)) (consA (ct (.int 3)) (consA (op2 modV (op2 fdivV (vr 0) (ct (.int 6))) (ct (.int 9))) nilA))))))) (op2 modV (vr 0) (ct (.int 6)))))
  (retS (callF zcu [] (consA (op2 fdivV (vr 0) (ct (.int 54))) (consA (vr 2) (consA (vr 1) nilA))))))
noncomputable def zdh:FD:=gcF (fnM 3 zcq)
noncomputable def zd6:MS :=
  (seqS (setS 4 (lstE nilA))
  (seqS (forS (range1I (consA (op2 mulV (callE lenW (consA (vr 1) nilA)) (callE lenW (consA (vr 2) nilA))) nilA)) (nameG 5) (seqS (setS 6 (callF zbe [] (consA (vr 0) (consA (op2 addV (vr 3) (vr 5)) nilA))))
  (ifS (tB1 (op2 gtV (op2 modV (vr 6) (ct (.int 5))) (ct (.int 0)))) (seqS (setS 7 (op2 ixV (vr 2) (op2 modV (op2 fdivV (vr 6) (ct (.int 5))) (callE lenW (consA (vr 2) nilA)))))
  (exprS (methE "list" appendV (vr 4) (consA (tupE (consA (op2 ixV (vr 2) (op2 fdivV (vr 5) (callE lenW (consA (vr 1) nilA)))) (consA (op2 ixV (vr 1) (op2 modV (vr 5) (callE lenW (consA (vr 1) nilA)))) (consA (callF zdh [] (consA (op2 fdivV (vr 6) (ct (.int 25))) (consA (vr 1) nilA))) (consA (vr 7) nilA))))) nilA)))) skipS)))
  (retS (vr 4))))
noncomputable def zez:FD:=gcF (fnM 8 zd6)
noncomputable def ze0:MS :=
  (seqS (setS 1 dicE)
  (seqS (forS (seqI (vr 0)) (tupG 5 (consG (nameG 2) (consG (nameG 3) (consG (nameG 4) (consG (nameG 5) (consG (nameG 6) nilG)))))) (asgS (tupE (consA (vr 4) (consA (vr 5) (consA (vr 6) nilA)))) (subG setDV (vr 1) (tupE (consA (vr 2) (consA (vr 3) nilA))))))
  (retS (vr 1))))
noncomputable def zdt:FD:=gcF (fnM 7 ze0)
noncomputable def ze7:MS :=
  (seqS (asgS (vr 1) (tupG 4 (consG (nameG 2) (consG (nameG 3) (consG (nameG 4) (consG (nameG 5) nilG))))))
  (seqS (ifS (tB1 (op2 (inDV true) (tupE (consA (vr 2) (consA (vr 4) nilA))) (vr 0))) (retS (ct .non)) skipS)
  (seqS (asgS (op2 ixD (vr 0) (tupE (consA (vr 2) (consA (vr 4) nilA)))) (tupG 3 (consG (nameG 6) (consG (nameG 7) (consG (nameG 8) nilG)))))
  (seqS (ifS (tB1 (op2 (eqV 200) (vr 7) (ct (.str [114])))) (retS (tupE (consA (vr 8) (consA (op2 addV (vr 3) (vr 6)) (consA (op2 ixV (op2 addV (vr 5) (ct (.str [95]))) (ct (.int 0))) (consA (slE (vr 5) (inP (ct (.int 1))) noP) nilA)))))) skipS)
  (retS (tupE (consA (vr 8) (consA (slE (vr 3) noP (inP (op1 negV (ct (.int 1))))) (consA (op2 ixV (op2 addV (ct (.str [95])) (vr 3)) (op1 negV (ct (.int 1)))) (consA (op2 addV (vr 6) (vr 5)) nilA))))))))))
noncomputable def zeh:FD:=gcF (fnM 9 ze7)
noncomputable def zc4:MS :=
  (seqS (asgS (vr 0) (tupG 2 (consG (nameG 2) (consG (nameG 3) nilG))))
  (seqS (ifS (tB1 (op2 (eqV 200) (vr 3) (ct (.str [])))) (retS (tupE (consA (vr 2) (consA (op2 mulSV (ct (.str [95])) (vr 1)) (consA (ct (.str [95])) (consA (ct (.str [])) nilA)))))) skipS)
  (retS (tupE (consA (vr 2) (consA (op2 mulSV (ct (.str [95])) (vr 1)) (consA (op2 ixV (vr 3) (ct (.int 0))) (consA (op2 addV (slE (vr 3) (inP (ct (.int 1))) noP) (op2 mulSV (ct (.str [95])) (callE intC (consA (op2 gtV (vr 1) (ct (.int 0))) nilA)))) nilA))))))))
noncomputable def zdq:FD:=gcF (fnM 4 zc4)
noncomputable def zc3:MS :=
  (seqS (forS (seqI (vr 0)) (tupG 4 (consG (nameG 2) (consG (nameG 3) (consG (nameG 4) (consG (nameG 5) nilG))))) (ifS (andT (tB1 (op2 (eqV 200) (vr 2) (op2 ixV (vr 1) (ct (.int 0))))) (tB1 (op2 (eqV 200) (vr 3) (slE (op2 ixV (vr 1) (ct (.int 1))) noP (inP (ct (.int 1))))))) (retS (tupE (consA (vr 5) (consA (op2 addV (slE (op2 ixV (vr 1) (ct (.int 1))) (inP (ct (.int 1))) noP) (vr 4)) nilA)))) skipS))
  (retS (ct .non)))
noncomputable def zc2:FD:=gcF (fnM 6 zc3)
noncomputable def zff:MS :=
  (seqS (setS 2 (ct (.str [97,98,99,100,101,102,103,104,105,106,107,108,109,110,111,112,113,114,115,116,117,118,119,120,121,122])))
  (seqS (setS 3 (methE "str" joinV (ct (.str [])) (consA (compE [some 1,none] (strI (vr 2)) (nameG 1) (tB1 (op2 notInSV (vr 1) (vr 0))) (vr 1)) nilA)))
  (seqS (setS 4 (op2 modV (callF zbe [] (consA (vr 0) (consA (ct (.int 3)) nilA))) (callE lenW (consA (vr 3) nilA))))
  (retS (op2 addV (vr 1) (slE (op2 addV (slE (vr 3) (inP (vr 4)) noP) (slE (vr 3) noP (inP (vr 4)))) noP (inP (op2 modV (op2 fdivV (callF zbe [] (consA (vr 0) (consA (ct (.int 3)) nilA))) (ct (.int 26))) (ct (.int 4))))))))))
noncomputable def zgk:FD:=gcF (fnM 5 zff)
noncomputable def zd2:MS :=
  (seqS (setS 3 (op2 fdivV (callF zbe [] (consA (vr 0) (consA (ct (.int 7)) nilA))) (ct (.int 5))))
  (seqS (ifS (orT (tB1 (op2 (neV 200) (op2 modV (vr 3) (ct (.int 3))) (ct (.int 1)))) (tB1 (op2 ltV (callE lenW (consA (vr 2) nilA)) (ct (.int 2))))) (retS (vr 2)) skipS)
  (seqS (setS 4 (op2 addV (ct (.int 1)) (op2 modV (op2 fdivV (vr 3) (ct (.int 3))) (op2 subV (callE lenW (consA (vr 2) nilA)) (ct (.int 1))))))
  (retS (op2 addV (op2 addV (slE (vr 2) noP (inP (vr 4))) (op2 ixV (vr 1) (op1 negV (ct (.int 1))))) (slE (vr 2) (inP (op2 addV (vr 4) (ct (.int 1)))) noP))))))
noncomputable def zet:FD:=gcF (fnM 5 zd2)
noncomputable def zci:MS :=
  (seqS (setS 4 (callF zbe [] (consA (vr 0) (consA (ct (.int 2)) nilA))))
  (seqS (setS 5 (op2 addV (ct (.int 1)) (op2 modV (vr 4) (ct (.int 12)))))
  (seqS (ifS (tB1 (op2 (eqV 200) (op2 modV (op2 fdivV (vr 4) (ct (.int 12))) (ct (.int 6))) (ct (.int 1)))) (setS 5 (op2 addV (ct (.int 60)) (op2 modV (op2 fdivV (vr 4) (ct (.int 72))) (ct (.int 31))))) skipS)
  (seqS (setS 6 (callF zcu [] (consA (op2 fdivV (vr 4) (ct (.int 2232))) (consA (vr 5) (consA (vr 1) nilA)))))
  (retS (tupE (consA (op2 ixV (vr 3) (op2 modV (callF zbe [] (consA (vr 0) (consA (ct (.int 4)) nilA))) (callE lenW (consA (vr 3) nilA)))) (consA (callF zet [] (consA (vr 0) (consA (vr 2) (consA (vr 6) nilA)))) nilA))))))))
noncomputable def zc6:FD:=gcF (fnM 7 zci)
noncomputable def zbw:MS :=
  (seqS (setS 2 (op2 modV (op2 ixV (vr 0) (ct (.int 0))) (vr 1)))
  (seqS (asgS (op2 fdivV (op2 ixV (vr 0) (ct (.int 0))) (vr 1)) (subG setV (vr 0) (ct (.int 0))))
  (retS (vr 2))))
noncomputable def zaw:FD:=gcFM (fnM 3 zbw)
noncomputable def zb1:MS :=
  (seqS (setS 2 (ct (.str [])))
  (seqS (forS (range1I (consA (vr 1) nilA)) (nameG 3) (setS 2 (op2 addV (vr 2) (op2 ixV (ct (.str [97,98,99,100,101,102,103,104,105,106,107,108,109,110,111,112,113,114,115,116,117,118,119,120,121,122])) (callF zaw [] (consA (vr 0) (consA (ct (.int 26)) nilA)))))))
  (retS (vr 2))))
noncomputable def zbm:FD:=gcFM (fnM 4 zb1)
noncomputable def zbz:MS :=
  (seqS (setS 1 (lstE nilA))
  (seqS (forS (range1I (consA (callF zaw [] (consA (vr 0) (consA (ct (.int 21)) nilA))) nilA)) (nameG 2) (seqS (setS 3 (tupE (consA (callF zaw [] (consA (vr 0) (consA (ct (.int 5001)) nilA))) (consA (callF zbm [] (consA (vr 0) (consA (ct (.int 1)) nilA))) nilA))))
  (seqS (setS 4 (callF zbm [] (consA (vr 0) (consA (callF zaw [] (consA (vr 0) (consA (ct (.int 9)) nilA))) nilA))))
  (seqS (setS 5 (callF zaw [] (consA (vr 0) (consA (ct (.int 5001)) nilA))))
  (ifS (tB1 (op2 (inLV 200 true) (vr 3) (compE [none] (seqI (vr 1)) (nameG 0) yesT (slE (vr 0) noP (inP (ct (.int 2))))))) (exprS (methE "list" appendV (vr 1) (consA (op2 addV (vr 3) (tupE (consA (vr 4) (consA (vr 5) nilA)))) nilA))) skipS)))))
  (retS (vr 1))))
noncomputable def zb5:FD:=gcFM (fnM 6 zbz)
noncomputable def zda:MS :=
  (seqS (setS 2 (lstE (consA (vr 0) nilA)))
  (seqS (setS 3 (callF zb5 [] (consA (vr 2) nilA)))
  (seqS (setS 4 (tupE (consA (callF zaw [] (consA (vr 2) (consA (ct (.int 5001)) nilA))) (consA (callF zbm [] (consA (vr 2) (consA (callF zaw [] (consA (vr 2) (consA (op2 addV (vr 1) (ct (.int 1))) nilA))) nilA))) nilA))))
  (seqS (ifS (andT (tB1 (op2 (neV 200) (vr 3) (lstE nilA))) (tB1 (op2 (eqV 200) (callF zaw [] (consA (vr 2) (consA (ct (.int 2)) nilA))) (ct (.int 1))))) (seqS (setS 5 (op2 ixV (vr 3) (callF zaw [] (consA (vr 2) (consA (callE lenW (consA (vr 3) nilA)) nilA)))))
  (setS 4 (tupE (consA (op2 ixV (vr 5) (ct (.int 0))) (consA (op2 addV (op2 ixV (vr 5) (ct (.int 1))) (slE (op2 ixV (vr 4) (ct (.int 1))) (inP (ct (.int 1))) noP)) nilA))))) skipS)
  (seqS (setS 6 (callE maxY (consA (op2 addV (lstE (consA (op2 ixV (vr 4) (ct (.int 0))) nilA)) (compE [none] (seqI (vr 3)) (nameG 0) yesT (callE maxY (consA (op2 ixV (vr 0) (ct (.int 0))) (consA (op2 ixV (vr 0) (ct (.int 3))) nilA))))) nilA)))
  (seqS (setS 7 (op2 addV (op2 ixV (vr 4) (ct (.int 1))) (methE "str" joinV (ct (.str [])) (consA (compE [none] (seqI (vr 3)) (nameG 0) yesT (op2 addV (op2 ixV (vr 0) (ct (.int 1))) (op2 ixV (vr 0) (ct (.int 2))))) nilA))))
  (retS (tupE (consA (vr 3) (consA (callE min2V (consA (ct (.int 5000)) (consA (op2 addV (vr 6) (callF zaw [] (consA (vr 2) (consA (ct (.int 31)) nilA)))) nilA))) (consA (methE "str" joinV (ct (.str [])) (consA (op1 sortSetV (vr 7)) nilA)) (consA (vr 4) nilA))))))))))))
noncomputable def zdu:FD:=gcF (fnM 8 zda)
noncomputable def zcn:MS :=
  (seqS (setS 1 (callF zeg [] (consA (vr 0) nilA)))
  (seqS (setS 2 (callF zc8 [] (consA (vr 0) nilA)))
  (seqS (setS 3 (callF zez [] (consA (vr 0) (consA (vr 1) (consA (vr 2) (consA (ct (.int 8)) nilA))))))
  (seqS (setS 4 (op2 addV (op2 ixV (vr 2) (op1 negV (ct (.int 1)))) (op2 ixV (lstE (consA (ct (.int 0)) (consA (op2 modV (op2 fdivV (callF zbe [] (consA (vr 0) (consA (ct (.int 5)) nilA))) (ct (.int 3))) (ct (.int 31))) (consA (ct (.int 1)) nilA)))) (op2 modV (callF zbe [] (consA (vr 0) (consA (ct (.int 5)) nilA))) (ct (.int 3))))))
  (seqS (setS 5 (callF zgk [] (consA (vr 0) (consA (vr 1) nilA))))
  (retS (tupE (consA (vr 3) (consA (vr 4) (consA (vr 5) (consA (callF zc6 [] (consA (vr 0) (consA (vr 1) (consA (vr 5) (consA (vr 2) nilA))))) nilA)))))))))))
noncomputable def zdj:FD:=gcF (fnM 6 zcn)
noncomputable def zee:MS :=
  (seqS (setS 5 (callF zdq [] (consA (vr 2) (consA (vr 3) nilA))))
  (seqS (setS 6 (callF zc2 [] (consA (vr 1) (consA (vr 2) nilA))))
  (seqS (ifS (tB1 (op2 isNoneV (vr 6) (ct .non))) (retS (op2 isNoneV (callF zeh [] (consA (vr 0) (consA (vr 5) nilA))) (ct .non))) skipS)
  (seqS (setS 7 (op2 addV (op2 addV (op2 mulV (ct (.int 2)) (callE lenW (consA (op2 ixV (vr 2) (ct (.int 1))) nilA))) (op2 mulV (ct (.int 2)) (op2 addV (op2 subV (callE lenW (consA (op2 ixV (vr 6) (ct (.int 1))) nilA)) (callE lenW (consA (op2 ixV (vr 2) (ct (.int 1))) nilA))) (ct (.int 1))))) (ct (.int 1))))
  (seqS (forS (range1I (consA (vr 7) nilA)) (nameG 8) (seqS (setS 5 (callF zeh [] (consA (vr 0) (consA (vr 5) nilA))))
  (ifS (orT (tB1 (op2 isNoneV (vr 5) (ct .non))) (andT (tB1 (op2 ltV (op2 addV (vr 8) (ct (.int 1))) (vr 7))) (tB1 (op2 leV (op2 ixV (vr 5) (ct (.int 0))) (vr 4))))) (retS (ct (.bl false))) skipS)))
  (retS (op2 (eqV 200) (vr 5) (callF zdq [] (consA (vr 6) (consA (op2 addV (vr 3) (ct (.int 1))) nilA))))))))))
noncomputable def zcw:FD:=gcF (fnM 9 zee)
noncomputable def zj7:MS :=
  (seqS (asgS (callF zdj [] (consA (vr 0) nilA)) (tupG 4 (consG (nameG 1) (consG (nameG 2) (consG (nameG 3) (consG (nameG 4) nilG))))))
  (seqS (ifS (tB1 (op2 (eqV 200) (op2 modV (callF zbe [] (consA (vr 0) (consA (ct (.int 28)) nilA))) (ct (.int 2))) (ct (.int 1)))) (asgS (callF zdu [] (consA (callF zbe [] (consA (vr 0) (consA (ct (.int 29)) nilA))) (consA (ct (.int 90)) nilA))) (tupG 4 (consG (nameG 1) (consG (nameG 2) (consG (nameG 3) (consG (nameG 4) nilG)))))) skipS)
  (seqS (setS 5 (op2 ixV (lstE (consA (ct (.int 0)) (consA (ct (.int 1)) (consA (op2 modV (op2 fdivV (callF zbe [] (consA (vr 0) (consA (ct (.int 6)) nilA))) (ct (.int 3))) (ct (.int 301))) nilA)))) (op2 modV (callF zbe [] (consA (vr 0) (consA (ct (.int 6)) nilA))) (ct (.int 3)))))
  (seqS (setS 6 (callE listC (consA (vr 1) nilA)))
  (seqS (setS 7 (callF zbn [] (consA (vr 6) (consA (vr 3) (consA (vr 2) nilA)))))
  (seqS (ifS (orT (notT (tru (op1 (isV "list") (vr 7)))) (tB1 (op2 (neV 200) (vr 6) (vr 1)))) (retS (ct (.bl false))) skipS)
  (seqS (setS 8 (callF zdt [] (consA (vr 7) nilA)))
  (seqS (ifS (orT (tB1 (op2 (neV 200) (callE lenW (consA (vr 8) nilA)) (callE lenW (consA (vr 7) nilA)))) (notT (tru (callF zcw [] (consA (vr 8) (consA (vr 1) (consA (vr 4) (consA (vr 5) (consA (vr 2) nilA))))))))) (retS (ct (.bl false))) skipS)
  (seqS (exprS (meth0E "list" clearV (vr 6)))
  (seqS (ifS (notT (tru (callF zcw [] (consA (callF zdt [] (consA (callF zbn [] (consA (vr 1) (consA (vr 3) (consA (vr 2) nilA)))) nilA)) (consA (vr 1) (consA (vr 4) (consA (vr 5) (consA (vr 2) nilA)))))))) (retS (ct (.bl false))) skipS)
  (seqS (forS (seqI (vr 1)) (nameG 9) (ifS (notT (tru (callF zcw [] (consA (vr 8) (consA (vr 1) (consA (tupE (consA (op2 ixV (vr 9) (ct (.int 0))) (consA (op2 ixV (vr 9) (ct (.int 1))) nilA))) (consA (vr 5) (consA (vr 2) nilA)))))))) (retS (ct (.bl false))) skipS))
  (retS (andV (callF zcw [] (consA (vr 8) (consA (vr 1) (consA (tupE (consA (op2 ixV (vr 4) (ct (.int 0))) (consA (ct (.str [])) nilA))) (consA (vr 5) (consA (vr 2) nilA)))))) (callF zcw [] (consA (vr 8) (consA (vr 1) (consA (tupE (consA (vr 2) (consA (op2 ixV (vr 4) (ct (.int 1))) nilA))) (consA (vr 5) (consA (vr 2) nilA)))))))))))))))))))
noncomputable def zi1:FD:=gcF (fnM 10 zj7)
set_option genInjectivity false in
structure Adr where
 a_p_Numbers_init:Addr
 d_p_Numbers_init:FuncData
 a_p_Numbers_number:Addr
 d_p_Numbers_number:FuncData
 a_p_make_tape:Addr
 d_p_make_tape:FuncData
 a_p_grow_state:Addr
 d_p_grow_state:FuncData
 a_p_back_state:Addr
 d_p_back_state:FuncData
 a_p_passing_rules:Addr
 d_p_passing_rules:FuncData
 a_p_words_left:Addr
 d_p_words_left:FuncData
 a_p_growing_rule:Addr
 d_p_growing_rule:FuncData
 a_p_targets_of:Addr
 d_p_targets_of:FuncData
 a_l_cell:Addr
 d_l_cell:FuncData
 a_l_alphabet:Addr
 d_l_alphabet:FuncData
 a_l_some_states:Addr
 d_l_some_states:FuncData
 a_l_drawn_text:Addr
 d_l_drawn_text:FuncData
 a_l_drawn_word:Addr
 d_l_drawn_word:FuncData
 a_l_program:Addr
 d_l_program:FuncData
 a_l_table:Addr
 d_l_table:FuncData
 a_l_next:Addr
 d_l_next:FuncData
 a_l_image_of:Addr
 d_l_image_of:FuncData
 a_l_row_next:Addr
 d_l_row_next:FuncData
 a_l_wider:Addr
 d_l_wider:FuncData
 a_l_strange:Addr
 d_l_strange:FuncData
 a_l_drawn_stand:Addr
 d_l_drawn_stand:FuncData
 a_l_digit:Addr
 d_l_digit:FuncData
 a_l_free_text:Addr
 d_l_free_text:FuncData
 a_l_free_program:Addr
 d_l_free_program:FuncData
 a_l_free_case:Addr
 d_l_free_case:FuncData
 a_l_drawn_case:Addr
 d_l_drawn_case:FuncData
 a_l_goes:Addr
 d_l_goes:FuncData
 a_p_law:Addr
 d_p_law:FuncData
 c_Numbers:Addr
structure Txt (K:PySem.W.Frag)(mg:Str->Option Value)(A:Adr):Prop where
 f_p_Numbers_init:Fun K "__init__" "Numbers.__init__" zbh A.a_p_Numbers_init A.d_p_Numbers_init
 m_p_Numbers_init:Mk K A.c_Numbers A.a_p_Numbers_init
 zby:Binds K A.d_p_Numbers_init ["self","first"] []
 f_p_Numbers_number:Fun K "number" "Numbers.number" za1 A.a_p_Numbers_number A.d_p_Numbers_number
 m_p_Numbers_number:Meth K A.c_Numbers "number" A.a_p_Numbers_number
 zaz:Binds K A.d_p_Numbers_number ["self","key"] []
 f_p_make_tape:Fun K "make_tape" "make_tape" zck A.a_p_make_tape A.d_p_make_tape
 m_p_make_tape:mg "make_tape" = some (.ref A.a_p_make_tape)
 zcj:Binds K A.d_p_make_tape ["rules","signs","top"] []
 f_p_grow_state:Fun K "grow_state" "grow_state" zb6 A.a_p_grow_state A.d_p_grow_state
 m_p_grow_state:mg "grow_state" = some (.ref A.a_p_grow_state)
 zbb:Binds K A.d_p_grow_state ["numbers","word","target"] []
 f_p_back_state:Fun K "back_state" "back_state" zb8 A.a_p_back_state A.d_p_back_state
 m_p_back_state:mg "back_state" = some (.ref A.a_p_back_state)
 zce:Binds K A.d_p_back_state ["numbers","target"] []
 f_p_passing_rules:Fun K "passing_rules" "passing_rules" zau A.a_p_passing_rules A.d_p_passing_rules
 m_p_passing_rules:mg "passing_rules" = some (.ref A.a_p_passing_rules)
 za9:Binds K A.d_p_passing_rules ["state","signs","move"] []
 f_p_words_left:Fun K "words_left" "words_left" zca A.a_p_words_left A.d_p_words_left
 m_p_words_left:mg "words_left" = some (.ref A.a_p_words_left)
 zcs:Binds K A.d_p_words_left ["walks"] []
 f_p_growing_rule:Fun K "growing_rule" "growing_rule" zbi A.a_p_growing_rule A.d_p_growing_rule
 m_p_growing_rule:mg "growing_rule" = some (.ref A.a_p_growing_rule)
 zb2:Binds K A.d_p_growing_rule ["numbers","word","target"] []
 f_p_targets_of:Fun K "targets_of" "targets_of" zb7 A.a_p_targets_of A.d_p_targets_of
 m_p_targets_of:mg "targets_of" = some (.ref A.a_p_targets_of)
 zco:Binds K A.d_p_targets_of ["walks"] []
 f_l_cell:Fun K "_law_cell" "_law_cell" zfs A.a_l_cell A.d_l_cell
 m_l_cell:mg "_law_cell" = some (.ref A.a_l_cell)
 zbu:Binds K A.d_l_cell ["_law_script","_law_k"] []
 f_l_alphabet:Fun K "_law_alphabet" "_law_alphabet" zcz A.a_l_alphabet A.d_l_alphabet
 m_l_alphabet:mg "_law_alphabet" = some (.ref A.a_l_alphabet)
 zdp:Binds K A.d_l_alphabet ["_law_script"] []
 f_l_some_states:Fun K "_law_some_states" "_law_some_states" zbr A.a_l_some_states A.d_l_some_states
 m_l_some_states:mg "_law_some_states" = some (.ref A.a_l_some_states)
 zcg:Binds K A.d_l_some_states ["_law_script"] []
 f_l_drawn_text:Fun K "_law_drawn_text" "_law_drawn_text" zcd A.a_l_drawn_text A.d_l_drawn_text
 m_l_drawn_text:mg "_law_drawn_text" = some (.ref A.a_l_drawn_text)
 zb9:Binds K A.d_l_drawn_text ["_law_cell_here","_law_many","_law_signs"] []
 f_l_drawn_word:Fun K "_law_drawn_word" "_law_drawn_word" zcc A.a_l_drawn_word A.d_l_drawn_word
 m_l_drawn_word:mg "_law_drawn_word" = some (.ref A.a_l_drawn_word)
 zcq:Binds K A.d_l_drawn_word ["_law_cell_here","_law_signs"] []
 f_l_program:Fun K "_law_program" "_law_program" zdl A.a_l_program A.d_l_program
 m_l_program:mg "_law_program" = some (.ref A.a_l_program)
 zd6:Binds K A.d_l_program ["_law_script","_law_signs","_law_states","_law_at"] []
 f_l_table:Fun K "_law_table" "_law_table" zex A.a_l_table A.d_l_table
 m_l_table:mg "_law_table" = some (.ref A.a_l_table)
 ze0:Binds K A.d_l_table ["_law_made"] []
 f_l_next:Fun K "_law_next" "_law_next" zfw A.a_l_next A.d_l_next
 m_l_next:mg "_law_next" = some (.ref A.a_l_next)
 ze7:Binds K A.d_l_next ["_law_table_here","_law_stand"] []
 f_l_image_of:Fun K "_law_image_of" "_law_image_of" zc1 A.a_l_image_of A.d_l_image_of
 m_l_image_of:mg "_law_image_of" = some (.ref A.a_l_image_of)
 zc4:Binds K A.d_l_image_of ["_law_stand","_law_k"] []
 f_l_row_next:Fun K "_law_row_next" "_law_row_next" zc0 A.a_l_row_next A.d_l_row_next
 m_l_row_next:mg "_law_row_next" = some (.ref A.a_l_row_next)
 zc3:Binds K A.d_l_row_next ["_law_rules","_law_stand"] []
 f_l_wider:Fun K "_law_wider" "_law_wider" zei A.a_l_wider A.d_l_wider
 m_l_wider:mg "_law_wider" = some (.ref A.a_l_wider)
 zff:Binds K A.d_l_wider ["_law_script","_law_signs"] []
 f_l_strange:Fun K "_law_strange" "_law_strange" zdm A.a_l_strange A.d_l_strange
 m_l_strange:mg "_law_strange" = some (.ref A.a_l_strange)
 zd2:Binds K A.d_l_strange ["_law_script","_law_more","_law_row"] []
 f_l_drawn_stand:Fun K "_law_drawn_stand" "_law_drawn_stand" zbs A.a_l_drawn_stand A.d_l_drawn_stand
 m_l_drawn_stand:mg "_law_drawn_stand" = some (.ref A.a_l_drawn_stand)
 zci:Binds K A.d_l_drawn_stand ["_law_script","_law_signs","_law_more","_law_states"] []
 f_l_digit:Fun K "_law_digit" "_law_digit" zew A.a_l_digit A.d_l_digit
 m_l_digit:mg "_law_digit" = some (.ref A.a_l_digit)
 zbw:Binds K A.d_l_digit ["_law_state","_law_many"] []
 f_l_free_text:Fun K "_law_free_text" "_law_free_text" zcl A.a_l_free_text A.d_l_free_text
 m_l_free_text:mg "_law_free_text" = some (.ref A.a_l_free_text)
 zb1:Binds K A.d_l_free_text ["_law_state","_law_many"] []
 f_l_free_program:Fun K "_law_free_program" "_law_free_program" za3 A.a_l_free_program A.d_l_free_program
 m_l_free_program:mg "_law_free_program" = some (.ref A.a_l_free_program)
 zbz:Binds K A.d_l_free_program ["_law_state"] []
 f_l_free_case:Fun K "_law_free_case" "_law_free_case" zbo A.a_l_free_case A.d_l_free_case
 m_l_free_case:mg "_law_free_case" = some (.ref A.a_l_free_case)
 zda:Binds K A.d_l_free_case ["_law_cell_here","_law_most"] []
 f_l_drawn_case:Fun K "_law_drawn_case" "_law_drawn_case" zcb A.a_l_drawn_case A.d_l_drawn_case
 m_l_drawn_case:mg "_law_drawn_case" = some (.ref A.a_l_drawn_case)
 zcn:Binds K A.d_l_drawn_case ["_law_script"] []
 f_l_goes:Fun K "_law_goes" "_law_goes" zf0 A.a_l_goes A.d_l_goes
 m_l_goes:mg "_law_goes" = some (.ref A.a_l_goes)
 zee:Binds K A.d_l_goes ["_law_table_here","_law_rules","_law_stand","_law_k","_law_top"] []
 f_p_law:Fun K "law" "law" zhm A.a_p_law A.d_p_law
 m_p_law:mg "law" = some (.ref A.a_p_law)
 zj7:Binds K A.d_p_law ["_law_script"] []
 c0_Numbers:PySem.W.nsIn K mainGlobals "Numbers" = some (some (.ref A.c_Numbers))
 cm_Numbers:mg "Numbers" = some (.ref A.c_Numbers)
 cc_Numbers:Cls K A.c_Numbers
 na_Numbers_first:NoAttr K A.c_Numbers "first"
 na_Numbers_given:NoAttr K A.c_Numbers "given"
 v_BLANK:∃t,mg "BLANK" = some (.str "_" t)
 z_int:mg "int" = none
 z_isinstance:mg "isinstance" = none
 z_len:mg "len" = none
 z_list:mg "list" = none
 z_max:mg "max" = none
 z_min:mg "min" = none
 z_range:mg "range" = none
 z_set:mg "set" = none
 z_sorted:mg "sorted" = none
 z_sum:mg "sum" = none
section
variable {P:Program}{w:World}{K:PySem.W.Frag}{mg:Str->Option Value}{base:Heap}{Ad:Adr}
theorem zga:FnScope ["self","first"] ["self","first"] (defScope zbh):=⟨rfl,rfl,rfl,by decide +kernel,rfl,by decide +kernel,by decide +kernel⟩
theorem zgc (T:Txt K mg Ad):FnOk P w K mg base CX0 1 Ad.a_p_Numbers_init Ad.d_p_Numbers_init ["self","first"] (spM K 2 zbj):=by
 refine FnOk.imp (fn_ok (m:=zby) T.f_p_Numbers_init zga fun cdv A outer s H hr=>?_) fun vs H Q E h=>zi4 h
 exact (zaf (js_fld T.c0_Numbers T.cc_Numbers T.na_Numbers_first (zac 0) (zac 1))
  (zam (js_fld T.c0_Numbers T.cc_Numbers T.na_Numbers_given (zac 0) zkc)))
theorem zfb:FnScope ["self","key"] ["self","key"] (defScope za1):=⟨rfl,rfl,rfl,by decide +kernel,rfl,by decide +kernel,by decide +kernel⟩
theorem zdw (T:Txt K mg Ad):FnOk P w K mg base CX0 1 Ad.a_p_Numbers_number Ad.d_p_Numbers_number ["self","key"] (spM K 2 za0):=by
 refine FnOk.imp (fn_ok (m:=zaz) T.f_p_Numbers_number zfb fun cdv A outer s H hr=>?_) fun vs H Q E h=>zi4 h
 exact (zaf (js_if (zdf (zig (hu_of hr)) (zac 1) (zmw T.c0_Numbers T.cc_Numbers T.na_Numbers_given (zac 0)) rfl) (zam (zgp (je_op zal (zmw T.c0_Numbers T.cc_Numbers T.na_Numbers_first (zac 0)) (zaq zao rfl T.z_len (by decide +kernel) (zaa (zmw T.c0_Numbers T.cc_Numbers T.na_Numbers_given (zac 0)) zae))) (zkt (set_DV (hu_of hr)) (zmw T.c0_Numbers T.cc_Numbers T.na_Numbers_given (zac 0)) (zac 1)))) zdz)
  (zam (zbl (je_ixD (hu_of hr) (zmw T.c0_Numbers T.cc_Numbers T.na_Numbers_given (zac 0)) (zac 1)))))
theorem zdx:FnScope ["walks","targets","walk"] ["walks"] (defScope zb7):=⟨rfl,rfl,rfl,by decide +kernel,rfl,by decide +kernel,by decide +kernel⟩
theorem zhb (T:Txt K mg Ad):FnOk P w K mg base CX0 1 Ad.a_p_targets_of Ad.d_p_targets_of ["walks"] (spM K 1 zbp):=by
 refine FnOk.imp (fn_ok (m:=zco) T.f_p_targets_of zdx fun cdv A outer s H hr=>?_) fun vs H Q E h=>sp_gc h
 exact (zaf (zaj 1 je_dictK zdx.nd)
  (zaf (zel (ji_dt (zac 0)) (zak 2 zdx.nd) (zam (zgp je_bl (zkt (set_K (hu_of hr)) (zac 1) (je_ix (zac 2) zad)))) PassesOwn.never rfl)
  (zam (zbl (zac 1)))))
theorem zft:FnScope ["state","signs","move"] ["state","signs","move"] (defScope zau):=⟨rfl,rfl,rfl,by decide +kernel,rfl,by decide +kernel,by decide +kernel⟩
theorem zd0 (T:Txt K mg Ad):FnOk P w K mg base CX0 1 Ad.a_p_passing_rules Ad.d_p_passing_rules ["state","signs","move"] (spM K 3 zat):=by
 refine FnOk.imp (fn_ok (m:=za9) T.f_p_passing_rules zft fun cdv A outer s H hr=>?_) fun vs H Q E h=>sp_gc h
 exact (zam (zbl (zis (N:=["state","move","sign"]) (capt:=[some 0,some 2,none]) (sc0:=defScope zau) (ji_str (zac 1)) ⟨rfl,by decide +kernel,by decide +kernel⟩ (by decide +kernel) ⟨⟨rfl,by first | exact Or.inl rfl | exact Or.inr rfl,rfl⟩,⟨⟨rfl,by first | exact Or.inl rfl | exact Or.inr rfl,rfl⟩,trivial⟩⟩ rfl (fun cl C fp s H=>(zak 2 (show List.Nodup (["state","move","sign"]:List Str) by decide +kernel))) (fun cl C fp s H=>zke) (fun cl C fp s H=>(zct (zaa (zac 0) (zaa (zac 2) (zaa (zac 2) (zaa (zac 1) (zaa (zac 0) zae))))))))))
theorem zhd:FnScope ["numbers","target"] ["numbers","target"] (defScope zb8):=⟨rfl,rfl,rfl,by decide +kernel,rfl,by decide +kernel,by decide +kernel⟩
theorem ze1 (T:Txt K mg Ad):FnOk P w K mg base CX0 2 Ad.a_p_back_state Ad.d_p_back_state ["numbers","target"] (spM K 2 zbc):=by
 refine FnOk.imp (fn_ok (m:=zce) T.f_p_back_state zhd fun cdv A outer s H hr=>?_) fun vs H Q E h=>zi4 h
 exact (zam (zbl (zm1 T.c0_Numbers T.cc_Numbers T.m_p_Numbers_number ((zdw T).mono (by decide)) hr T.zaz (zac 0) (zaa (zct (zaa (zcy [98,97,99,107]) (zaa (zac 1) zae))) zae) rfl rfl rfl rfl (zab zag))))
theorem zg9:FnScope ["numbers","word","target"] ["numbers","word","target"] (defScope zb6):=⟨rfl,rfl,rfl,by decide +kernel,rfl,by decide +kernel,by decide +kernel⟩
theorem zc7 (T:Txt K mg Ad):FnOk P w K mg base CX0 2 Ad.a_p_grow_state Ad.d_p_grow_state ["numbers","word","target"] (spM K 3 zar):=by
 refine FnOk.imp (fn_ok (m:=zbb) T.f_p_grow_state zg9 fun cdv A outer s H hr=>?_) fun vs H Q E h=>zi4 h
 exact (zam (zbl (zm1 T.c0_Numbers T.cc_Numbers T.m_p_Numbers_number ((zdw T).mono (by decide)) hr T.zaz (zac 0) (zaa (zct (zaa (zcy [103,114,111,119]) (zaa (zac 1) (zaa (zac 2) zae)))) zae) rfl rfl rfl rfl (zab zag))))
theorem zej:FnScope ["numbers","word","target","state"] ["numbers","word","target"] (defScope zbi):=⟨rfl,rfl,rfl,by decide +kernel,rfl,by decide +kernel,by decide +kernel⟩
theorem zf9 (T:Txt K mg Ad):FnOk P w K mg base CX0 3 Ad.a_p_growing_rule Ad.d_p_growing_rule ["numbers","word","target"] (spM K 3 zbk):=by
 refine FnOk.imp (fn_ok (m:=zb2) T.f_p_growing_rule zej fun cdv A outer s H hr=>?_) fun vs H Q E h=>zi4 h
 exact (zaf (zaj 3 (zah ((zc7 T).mono (by decide)) hr T.m_p_grow_state T.f_p_grow_state.kp T.zbb .nil (fun _ _=>RepVs.nil) (zaa (zac 0) (zaa (zac 1) (zaa (zac 2) zae))) rfl rfl (by decide) rfl rfl (zab (zab (zab zag)))) zej.nd)
  (zaf (js_if (zdf (zha (hu200 hr)) (zac 1) (zcy []) (nomark _)) (zam (zbl (zct (zaa (zac 3) (zaa (zfy [95] T.v_BLANK) (zaa (zfy [95] T.v_BLANK) (zaa (zcy [108]) (zaa (zah ((ze1 T).mono (by decide)) hr T.m_p_back_state T.f_p_back_state.kp T.zce .nil (fun _ _=>RepVs.nil) (zaa (zac 0) (zaa (zac 2) zae)) rfl rfl (by decide) rfl rfl (zab (zab zag))) zae)))))))) zdz)
  (zam (zbl (zct (zaa (zac 3) (zaa (zfy [95] T.v_BLANK) (zaa (je_ix (zac 1) zad) (zaa (zcy [114]) (zaa (zah ((zc7 T).mono (by decide)) hr T.m_p_grow_state T.f_p_grow_state.kp T.zbb .nil (fun _ _=>RepVs.nil) (zaa (zac 0) (zaa (zb4 (zac 1) (zdc zad) zde) (zaa (zac 2) zae))) rfl rfl (by decide) rfl rfl (zab (zab (zab zag)))) zae))))))))))
theorem zc9:FnScope ["walks","grows","walk","cut"] ["walks"] (defScope zca):=⟨rfl,rfl,rfl,by decide +kernel,rfl,by decide +kernel,by decide +kernel⟩
theorem zg5 (T:Txt K mg Ad):FnOk P w K mg base CX0 1 Ad.a_p_words_left Ad.d_p_words_left ["walks"] (spM K 1 zdk):=by
 refine FnOk.imp (fn_ok (m:=zcs) T.f_p_words_left zc9 fun cdv A outer s H hr=>?_) fun vs H Q E h=>sp_gc h
 exact (zaf (zaj 1 zkc zc9.nd)
  (zaf (zel (ji_dt (zac 0)) (zak 2 zc9.nd) (zam (zel (zdr (zaa (je_op zal (zaq zao rfl T.z_len (by decide +kernel) (zaa (je_ix (zac 2) zad) zae)) zad) zae) rfl T.z_range) (zak 3 zc9.nd) (zam (zgp je_bl (zkt (set_DV (hu_of hr)) (zac 1) (zct (zaa (zb4 (je_ix (zac 2) zad) (zdc (zac 3)) zde) (zaa (je_ix (zac 2) zad) zae)))))) PassesOwn.never rfl)) PassesOwn.never rfl)
  (zam (zbl (zac 1)))))
theorem zap:FnScope ["rules","signs","top","numbers","made","walks","rule","walk","state","grows","grow","target"] ["rules","signs","top"] (defScope zck):=⟨rfl,rfl,rfl,by decide +kernel,rfl,by decide +kernel,by decide +kernel⟩
theorem zfd (T:Txt K mg Ad):FnOk P w K mg base CX0 4 Ad.a_p_make_tape Ad.d_p_make_tape ["rules","signs","top"] (spM K 3 zbn):=by
 refine FnOk.imp (fn_ok (m:=zcj) T.f_p_make_tape zap fun cdv A outer s H hr=>?_) fun vs H Q E h=>sp_gc h
 exact (zaf (zaj 3 (je_make T.c0_Numbers T.m_p_Numbers_init ((zgc T).mono (by decide)) hr T.cm_Numbers T.zby (zaa (je_op zal (zac 2) zad) zae) rfl rfl (by decide) rfl rfl (zab zag)) zap.nd)
  (zaf (zaj 4 (zgz zae) zap.nd)
  (zaf (zaj 5 zkc zap.nd)
  (zaf (zel (zjm (zac 0)) (zak 6 zap.nd) (zaf (zgp je_bl (zkt (set_DV (hu_of hr)) (zac 5) (zct (zaa (je_ix (zac 6) zad) (zaa (je_ix (zac 6) zad) zae)))))
  (zam (zfg (zer PySem.F.plainAttrs_list PySem.F.slot_list_append PySem.F.type_list_append zd8 (zac 4) (zaa (zct (zaa (je_ix (zac 6) zad) (zaa (je_ix (zac 6) zad) (zaa (zfy [95] T.v_BLANK) (zaa (zcy [114]) (zaa (zah ((zc7 T).mono (by decide)) hr T.m_p_grow_state T.f_p_grow_state.kp T.zbb .nil (fun _ _=>RepVs.nil) (zaa (zac 3) (zaa (je_ix (zac 6) zad) (zaa (je_ix (zac 6) zad) zae))) rfl rfl (by decide) rfl rfl (zab (zab (zab zag)))) zae)))))) zae))))) PassesOwn.never rfl)
  (zaf (zel (ji_dt (zac 5)) (zak 7 zap.nd) (zaf (zaj 8 (zah ((zc7 T).mono (by decide)) hr T.m_p_grow_state T.f_p_grow_state.kp T.zbb .nil (fun _ _=>RepVs.nil) (zaa (zac 3) (zaa (je_ix (zac 7) zad) (zaa (je_ix (zac 7) zad) zae))) rfl rfl (by decide) rfl rfl (zab (zab (zab zag)))) zap.nd)
  (zam (zfg (zer PySem.F.plainAttrs_list PySem.F.slot_list_extend PySem.F.type_list_extend ziu (zac 4) (zaa (zah ((zd0 T).mono (by decide)) hr T.m_p_passing_rules T.f_p_passing_rules.kp T.za9 .nil (fun _ _=>RepVs.nil) (zaa (zac 8) (zaa (zac 1) (zaa (zcy [114]) zae))) rfl rfl (by decide) rfl rfl (zab (zab (zab zag)))) zae))))) PassesOwn.never rfl)
  (zaf (zaj 9 (zah ((zg5 T).mono (by decide)) hr T.m_p_words_left T.f_p_words_left.kp T.zcs .nil (fun _ _=>RepVs.nil) (zaa (zac 5) zae) rfl rfl (by decide) rfl rfl (zab zag)) zap.nd)
  (zaf (zel (ji_dt (zac 9)) (zak 10 zap.nd) (zam (zfg (zer PySem.F.plainAttrs_list PySem.F.slot_list_append PySem.F.type_list_append zd8 (zac 4) (zaa (zah ((zf9 T).mono (by decide)) hr T.m_p_growing_rule T.f_p_growing_rule.kp T.zb2 .nil (fun _ _=>RepVs.nil) (zaa (zac 3) (zaa (je_ix (zac 10) zad) (zaa (je_ix (zac 10) zad) zae))) rfl rfl (by decide) rfl rfl (zab (zab (zab zag)))) zae)))) PassesOwn.never rfl)
  (zaf (zel (ji_dk (zah ((zhb T).mono (by decide)) hr T.m_p_targets_of T.f_p_targets_of.kp T.zco .nil (fun _ _=>RepVs.nil) (zaa (zac 5) zae) rfl rfl (by decide) rfl rfl (zab zag))) (zak 11 zap.nd) (zaf (zaj 8 (zah ((ze1 T).mono (by decide)) hr T.m_p_back_state T.f_p_back_state.kp T.zce .nil (fun _ _=>RepVs.nil) (zaa (zac 3) (zaa (zac 11) zae)) rfl rfl (by decide) rfl rfl (zab (zab zag))) zap.nd)
  (zaf (zfg (zer PySem.F.plainAttrs_list PySem.F.slot_list_extend PySem.F.type_list_extend ziu (zac 4) (zaa (zah ((zd0 T).mono (by decide)) hr T.m_p_passing_rules T.f_p_passing_rules.kp T.za9 .nil (fun _ _=>RepVs.nil) (zaa (zac 8) (zaa (zac 1) (zaa (zcy [108]) zae))) rfl rfl (by decide) rfl rfl (zab (zab (zab zag)))) zae)))
  (zam (zfg (zer PySem.F.plainAttrs_list PySem.F.slot_list_append PySem.F.type_list_append zd8 (zac 4) (zaa (zct (zaa (zac 8) (zaa (zfy [95] T.v_BLANK) (zaa (zfy [95] T.v_BLANK) (zaa (zcy [114]) (zaa (zac 11) zae)))))) zae)))))) PassesOwn.never rfl)
  (zam (zbl (zac 4)))))))))))
theorem zh3:FnScope ["_law_script","_law_k","_law_number"] ["_law_script","_law_k"] (defScope zfs):=⟨rfl,rfl,rfl,by decide +kernel,rfl,by decide +kernel,by decide +kernel⟩
theorem zbv (T:Txt K mg Ad):FnOk P w K mg base CX0 1 Ad.a_l_cell Ad.d_l_cell ["_law_script","_law_k"] (spM K 2 zbe):=by
 refine FnOk.imp (fn_ok (m:=zbu) T.f_l_cell zh3 fun cdv A outer s H hr=>?_) fun vs H Q E h=>sp_gc h
 exact (zaf (js_if (zdf op_ltV (zac 1) (zaq zao rfl T.z_len (by decide +kernel) (zaa (zac 0) zae)) (nomark _)) (zam (zbl (je_ix (zac 0) (zac 1)))) zdz)
  (zaf (zaj 2 (je_op zal (je_op ze2 (zac 1) zad) zad) zh3.nd)
  (zaf (js_if (zdf op_gtV (zaq zao rfl T.z_len (by decide +kernel) (zaa (zac 0) zae)) zad (nomark _)) (zam (zaj 2 (je_op za2 (je_op zal (je_op ze2 (je_ix (zac 0) (je_op za2 (je_op ze2 (zac 1) zad) (zaq zao rfl T.z_len (by decide +kernel) (zaa (zac 0) zae)))) zad) (je_op ze2 (zac 1) zad)) zad) zh3.nd)) zdz)
  (zam (zbl (je_op za2 (je_op ze2 (zac 2) (zac 2)) zad))))))
theorem zay:FnScope ["_law_script","_law_rest","_law_cell_here","_law_number","_law_signs","_law_k","_law_at"] ["_law_script"] (defScope zcz):=⟨rfl,rfl,rfl,by decide +kernel,rfl,by decide +kernel,by decide +kernel⟩
theorem ziz (T:Txt K mg Ad):FnOk P w K mg base CX0 2 Ad.a_l_alphabet Ad.d_l_alphabet ["_law_script"] (spM K 1 zeg):=by
 refine FnOk.imp (fn_ok (m:=zdp) T.f_l_alphabet zay fun cdv A outer s H hr=>?_) fun vs H Q E h=>sp_gc h
 exact (zaf (zaj 1 (zcy [97,98,99,100,101,102,103,104,105,106,107,108,109,110,111,112,113,114,115,116,117,118,119,120,121,122]) zay.nd)
  (zaf (zaj 2 (zah ((zbv T).mono (by decide)) hr T.m_l_cell T.f_l_cell.kp T.zbu .nil (fun _ _=>RepVs.nil) (zaa (zac 0) (zaa zad zae)) rfl rfl (by decide) rfl rfl (zab (zab zag))) zay.nd)
  (zaf (zaj 3 (je_op za7 (zac 2) zad) zay.nd)
  (zaf (zaj 4 (zcy []) zay.nd)
  (zaf (zel (zdr (zaa (je_op zal zad (je_op za2 (zac 2) zad)) zae) rfl T.z_range) (zak 5 zay.nd) (zaf (zaj 6 (je_op za2 (zac 3) (zaq zao rfl T.z_len (by decide +kernel) (zaa (zac 1) zae))) zay.nd)
  (zaf (zaj 3 (je_op za7 (zac 3) (zaq zao rfl T.z_len (by decide +kernel) (zaa (zac 1) zae))) zay.nd)
  (zaf (zaj 4 (je_op zal (zac 4) (je_ix (zac 1) (zac 6))) zay.nd)
  (zam (zaj 1 (je_op zal (zb4 (zac 1) zde (zdc (zac 6))) (zb4 (zac 1) (zdc (je_op zal (zac 6) zad)) zde)) zay.nd))))) PassesOwn.never rfl)
  (zam (zbl (zac 4))))))))
theorem za4:FnScope ["_law_script","_law_cell_here","_law_wide","_law_number","_law_states","_law_k"] ["_law_script"] (defScope zbr):=⟨rfl,rfl,rfl,by decide +kernel,rfl,by decide +kernel,by decide +kernel⟩
theorem zgw (T:Txt K mg Ad):FnOk P w K mg base CX0 2 Ad.a_l_some_states Ad.d_l_some_states ["_law_script"] (spM K 1 zc8):=by
 refine FnOk.imp (fn_ok (m:=zcg) T.f_l_some_states za4 fun cdv A outer s H hr=>?_) fun vs H Q E h=>sp_gc h
 exact (zaf (zaj 1 (zah ((zbv T).mono (by decide)) hr T.m_l_cell T.f_l_cell.kp T.zbu .nil (fun _ _=>RepVs.nil) (zaa (zac 0) (zaa zad zae)) rfl rfl (by decide) rfl rfl (zab (zab zag))) za4.nd)
  (zaf (zaj 2 (je_ix (zgz (zaa zad (zaa zad zae))) (je_op za2 (je_op za7 (zac 1) zad) zad)) za4.nd)
  (zaf (zaj 3 (je_op za7 (zac 1) zad) za4.nd)
  (zaf (zaj 4 (zgz zae) za4.nd)
  (zaf (zel (zdr (zaa (je_op zal zad (je_op za2 (zac 1) zad)) zae) rfl T.z_range) (zak 5 za4.nd) (zaf (zfg (zer PySem.F.plainAttrs_list PySem.F.slot_list_append PySem.F.type_list_append zd8 (zac 4) (zaa (je_op zal (je_op zal (zaq (call_sumV hr.hd) rfl T.z_sum (by decide +kernel) (zaa (zb4 (zac 4) (zdc (je_un zit zad)) zde) zae)) (zhy zj6 rfl T.z_int (by decide +kernel) (zaa (je_cmp op_gtV (zac 5) zad (nomark _)) zae))) (je_op za2 (zac 3) (zac 2))) zae)))
  (zam (zaj 3 (je_op za7 (zac 3) (zac 2)) za4.nd))) PassesOwn.never rfl)
  (zam (zbl (zac 4))))))))
theorem zax:FnScope ["_law_cell_here","_law_many","_law_signs","_law_text","_law_number","_law_k"] ["_law_cell_here","_law_many","_law_signs"] (defScope zcd):=⟨rfl,rfl,rfl,by decide +kernel,rfl,by decide +kernel,by decide +kernel⟩
theorem ze3 (T:Txt K mg Ad):FnOk P w K mg base CX0 1 Ad.a_l_drawn_text Ad.d_l_drawn_text ["_law_cell_here","_law_many","_law_signs"] (spM K 3 zcu):=by
 refine FnOk.imp (fn_ok (m:=zb9) T.f_l_drawn_text zax fun cdv A outer s H hr=>?_) fun vs H Q E h=>sp_gc h
 exact (zaf (zaj 3 (zcy []) zax.nd)
  (zaf (zaj 4 (je_op za7 (zac 0) zad) zax.nd)
  (zaf (zel (zdr (zaa (zac 1) zae) rfl T.z_range) (zak 5 zax.nd) (zam (js_if (zdf (zha (hu200 hr)) (je_op za2 (zac 0) zad) zad (nomark _)) (zaf (zaj 4 (je_op za2 (je_op zal (je_op zal (je_op ze2 (zac 4) zad) (je_op ze2 zad (zac 5))) zad) zad) zax.nd)
  (zam (zaj 3 (je_op zal (zac 3) (je_ix (zac 2) (je_op za2 (je_op za7 (zac 4) zad) (zaq zao rfl T.z_len (by decide +kernel) (zaa (zac 2) zae))))) zax.nd))) (zaf (zaj 3 (je_op zal (zac 3) (je_ix (zac 2) (je_op za2 (zac 4) (zaq zao rfl T.z_len (by decide +kernel) (zaa (zac 2) zae))))) zax.nd)
  (zam (zaj 4 (je_op za7 (zac 4) (zaq zao rfl T.z_len (by decide +kernel) (zaa (zac 2) zae))) zax.nd))))) PassesOwn.never rfl)
  (zam (zbl (zac 3))))))
theorem ze4:FnScope ["_law_cell_here","_law_signs","_law_many"] ["_law_cell_here","_law_signs"] (defScope zcc):=⟨rfl,rfl,rfl,by decide +kernel,rfl,by decide +kernel,by decide +kernel⟩
theorem zhc (T:Txt K mg Ad):FnOk P w K mg base CX0 2 Ad.a_l_drawn_word Ad.d_l_drawn_word ["_law_cell_here","_law_signs"] (spM K 2 zdh):=by
 refine FnOk.imp (fn_ok (m:=zcq) T.f_l_drawn_word ze4 fun cdv A outer s H hr=>?_) fun vs H Q E h=>sp_gc h
 exact (zaf (zaj 2 (je_ix (zgz (zaa zad (zaa zad (zaa zad (zaa zad (zaa zad (zaa (je_op za2 (je_op za7 (zac 0) zad) zad) zae))))))) (je_op za2 (zac 0) zad)) ze4.nd)
  (zam (zbl (zah ((ze3 T).mono (by decide)) hr T.m_l_drawn_text T.f_l_drawn_text.kp T.zb9 .nil (fun _ _=>RepVs.nil) (zaa (je_op za7 (zac 0) zad) (zaa (zac 2) (zaa (zac 1) zae))) rfl rfl (by decide) rfl rfl (zab (zab (zab zag)))))))
theorem zdo:FnScope ["_law_script","_law_signs","_law_states","_law_at","_law_rules","_law_k","_law_cell_here","_law_goal"] ["_law_script","_law_signs","_law_states","_law_at"] (defScope zdl):=⟨rfl,rfl,rfl,by decide +kernel,rfl,by decide +kernel,by decide +kernel⟩
theorem zji (T:Txt K mg Ad):FnOk P w K mg base CX0 3 Ad.a_l_program Ad.d_l_program ["_law_script","_law_signs","_law_states","_law_at"] (spM K 4 zez):=by
 refine FnOk.imp (fn_ok (m:=zd6) T.f_l_program zdo fun cdv A outer s H hr=>?_) fun vs H Q E h=>sp_gc h
 exact (zaf (zaj 4 (zgz zae) zdo.nd)
  (zaf (zel (zdr (zaa (je_op ze2 (zaq zao rfl T.z_len (by decide +kernel) (zaa (zac 1) zae)) (zaq zao rfl T.z_len (by decide +kernel) (zaa (zac 2) zae))) zae) rfl T.z_range) (zak 5 zdo.nd) (zaf (zaj 6 (zah ((zbv T).mono (by decide)) hr T.m_l_cell T.f_l_cell.kp T.zbu .nil (fun _ _=>RepVs.nil) (zaa (zac 0) (zaa (je_op zal (zac 3) (zac 5)) zae)) rfl rfl (by decide) rfl rfl (zab (zab zag))) zdo.nd)
  (zam (js_if (zdf op_gtV (je_op za2 (zac 6) zad) zad (nomark _)) (zaf (zaj 7 (je_ix (zac 2) (je_op za2 (je_op za7 (zac 6) zad) (zaq zao rfl T.z_len (by decide +kernel) (zaa (zac 2) zae)))) zdo.nd)
  (zam (zfg (zer PySem.F.plainAttrs_list PySem.F.slot_list_append PySem.F.type_list_append zd8 (zac 4) (zaa (zct (zaa (je_ix (zac 2) (je_op za7 (zac 5) (zaq zao rfl T.z_len (by decide +kernel) (zaa (zac 1) zae)))) (zaa (je_ix (zac 1) (je_op za2 (zac 5) (zaq zao rfl T.z_len (by decide +kernel) (zaa (zac 1) zae)))) (zaa (zah ((zhc T).mono (by decide)) hr T.m_l_drawn_word T.f_l_drawn_word.kp T.zcq .nil (fun _ _=>RepVs.nil) (zaa (je_op za7 (zac 6) zad) (zaa (zac 1) zae)) rfl rfl (by decide) rfl rfl (zab (zab zag))) (zaa (zac 7) zae))))) zae))))) zdz))) PassesOwn.never rfl)
  (zam (zbl (zac 4)))))
theorem zdn:FnScope ["_law_made","_law_table_here","_law_state","_law_sign","_law_write","_law_move","_law_goal"] ["_law_made"] (defScope zex):=⟨rfl,rfl,rfl,by decide +kernel,rfl,by decide +kernel,by decide +kernel⟩
theorem zik (T:Txt K mg Ad):FnOk P w K mg base CX0 1 Ad.a_l_table Ad.d_l_table ["_law_made"] (spM K 1 zdt):=by
 refine FnOk.imp (fn_ok (m:=ze0) T.f_l_table zdn fun cdv A outer s H hr=>?_) fun vs H Q E h=>sp_gc h
 exact (zaf (zaj 1 zkc zdn.nd)
  (zaf (zel (zjm (zac 0)) (zjj 5 rfl (zas (zak 2 zdn.nd) (zas (zak 3 zdn.nd) (zas (zak 4 zdn.nd) (zas (zak 5 zdn.nd) (zas (zak 6 zdn.nd) zgu)))))) (zam (zgp (zct (zaa (zac 4) (zaa (zac 5) (zaa (zac 6) zae)))) (zkt (set_DV (hu_of hr)) (zac 1) (zct (zaa (zac 2) (zaa (zac 3) zae)))))) PassesOwn.never rfl)
  (zam (zbl (zac 1)))))
theorem zdv:FnScope ["_law_table_here","_law_stand","_law_state","_law_left","_law_sign","_law_right","_law_write","_law_move","_law_goal"] ["_law_table_here","_law_stand"] (defScope zfw):=⟨rfl,rfl,rfl,by decide +kernel,rfl,by decide +kernel,by decide +kernel⟩
theorem zj4 (T:Txt K mg Ad):FnOk P w K mg base CX0 1 Ad.a_l_next Ad.d_l_next ["_law_table_here","_law_stand"] (spM K 2 zeh):=by
 refine FnOk.imp (fn_ok (m:=ze7) T.f_l_next zdv fun cdv A outer s H hr=>?_) fun vs H Q E h=>sp_gc h
 exact (zaf (zgp (zac 1) (zjj 4 rfl (zas (zak 2 zdv.nd) (zas (zak 3 zdv.nd) (zas (zak 4 zdv.nd) (zas (zak 5 zdv.nd) zgu))))))
  (zaf (js_if (zdf (zig (hu_of hr)) (zct (zaa (zac 2) (zaa (zac 4) zae))) (zac 0) rfl) (zam (zbl zma)) zdz)
  (zaf (zgp (je_ixD (hu_of hr) (zac 0) (zct (zaa (zac 2) (zaa (zac 4) zae)))) (zjj 3 rfl (zas (zak 6 zdv.nd) (zas (zak 7 zdv.nd) (zas (zak 8 zdv.nd) zgu)))))
  (zaf (js_if (zdf (zha (hu200 hr)) (zac 7) (zcy [114]) (nomark _)) (zam (zbl (zct (zaa (zac 8) (zaa (je_op zal (zac 3) (zac 6)) (zaa (je_ix (je_op zal (zac 5) (zcy [95])) zad) (zaa (zb4 (zac 5) (zdc zad) zde) zae))))))) zdz)
  (zam (zbl (zct (zaa (zac 8) (zaa (zb4 (zac 3) zde (zdc (je_un zit zad))) (zaa (je_ix (je_op zal (zcy [95]) (zac 3)) (je_un zit zad)) (zaa (je_op zal (zac 6) (zac 5)) zae)))))))))))
theorem zeq:FnScope ["_law_stand","_law_k","_law_state","_law_row"] ["_law_stand","_law_k"] (defScope zc1):=⟨rfl,rfl,rfl,by decide +kernel,rfl,by decide +kernel,by decide +kernel⟩
theorem zf5 (T:Txt K mg Ad):FnOk P w K mg base CX0 1 Ad.a_l_image_of Ad.d_l_image_of ["_law_stand","_law_k"] (spM K 2 zdq):=by
 refine FnOk.imp (fn_ok (m:=zc4) T.f_l_image_of zeq fun cdv A outer s H hr=>?_) fun vs H Q E h=>sp_gc h
 exact (zaf (zgp (zac 0) (zjj 2 rfl (zas (zak 2 zeq.nd) (zas (zak 3 zeq.nd) zgu))))
  (zaf (js_if (zdf (zha (hu200 hr)) (zac 3) (zcy []) (nomark _)) (zam (zbl (zct (zaa (zac 2) (zaa (je_op zjq (zcy [95]) (zac 1)) (zaa (zcy [95]) (zaa (zcy []) zae))))))) zdz)
  (zam (zbl (zct (zaa (zac 2) (zaa (je_op zjq (zcy [95]) (zac 1)) (zaa (je_ix (zac 3) zad) (zaa (je_op zal (zb4 (zac 3) (zdc zad) zde) (je_op zjq (zcy [95]) (zhy zj6 rfl T.z_int (by decide +kernel) (zaa (je_cmp op_gtV (zac 1) zad (nomark _)) zae)))) zae)))))))))
theorem zdd:FnScope ["_law_rules","_law_stand","_law_state","_law_sign","_law_word","_law_goal"] ["_law_rules","_law_stand"] (defScope zc0):=⟨rfl,rfl,rfl,by decide +kernel,rfl,by decide +kernel,by decide +kernel⟩
theorem zih (T:Txt K mg Ad):FnOk P w K mg base CX0 1 Ad.a_l_row_next Ad.d_l_row_next ["_law_rules","_law_stand"] (spM K 2 zc2):=by
 refine FnOk.imp (fn_ok (m:=zc3) T.f_l_row_next zdd fun cdv A outer s H hr=>?_) fun vs H Q E h=>sp_gc h
 exact (zaf (zel (zjm (zac 0)) (zjj 4 rfl (zas (zak 2 zdd.nd) (zas (zak 3 zdd.nd) (zas (zak 4 zdd.nd) (zas (zak 5 zdd.nd) zgu))))) (zam (js_if (JW.jt (jw_and (zdf (zha (hu200 hr)) (zac 2) (je_ix (zac 1) zad) (nomark _)) (zme (zdf (zha (hu200 hr)) (zac 3) (zb4 (je_ix (zac 1) zad) zde (zdc zad)) (nomark _))))) (zam (zbl (zct (zaa (zac 5) (zaa (je_op zal (zb4 (je_ix (zac 1) zad) (zdc zad) zde) (zac 4)) zae))))) zdz)) PassesOwn.never rfl)
  (zam (zbl zma)))
theorem zfa:FnScope ["_law_script","_law_signs","_law_letters","_law_rest","_law_at"] ["_law_script","_law_signs"] (defScope zei):=⟨rfl,rfl,rfl,by decide +kernel,rfl,by decide +kernel,by decide +kernel⟩
theorem zmq (T:Txt K mg Ad):FnOk P w K mg base CX0 2 Ad.a_l_wider Ad.d_l_wider ["_law_script","_law_signs"] (spM K 2 zgk):=by
 refine FnOk.imp (fn_ok (m:=zff) T.f_l_wider zfa fun cdv A outer s H hr=>?_) fun vs H Q E h=>sp_gc h
 exact (zaf (zaj 2 (zcy [97,98,99,100,101,102,103,104,105,106,107,108,109,110,111,112,113,114,115,116,117,118,119,120,121,122]) zfa.nd)
  (zaf (zaj 3 (zer PySem.F.plainAttrs_str PySem.F.slot_str_join PySem.F.type_str_join zjf (zcy []) (zaa (zis (N:=["_law_signs","_law_sign"]) (capt:=[some 1,none]) (sc0:=defScope zei) (ji_str (zac 2)) ⟨rfl,by decide +kernel,by decide +kernel⟩ (by decide +kernel) ⟨⟨rfl,by first | exact Or.inl rfl | exact Or.inr rfl,rfl⟩,trivial⟩ rfl (fun cl C fp s H=>(zak 1 (show List.Nodup (["_law_signs","_law_sign"]:List Str) by decide +kernel))) (fun cl C fp s H=>(jts_one (zdf zls (zac 1) (zac 0) rfl))) (fun cl C fp s H=>(zac 1))) zae)) zfa.nd)
  (zaf (zaj 4 (je_op za2 (zah ((zbv T).mono (by decide)) hr T.m_l_cell T.f_l_cell.kp T.zbu .nil (fun _ _=>RepVs.nil) (zaa (zac 0) (zaa zad zae)) rfl rfl (by decide) rfl rfl (zab (zab zag))) (zaq zao rfl T.z_len (by decide +kernel) (zaa (zac 3) zae))) zfa.nd)
  (zam (zbl (je_op zal (zac 1) (zb4 (je_op zal (zb4 (zac 3) (zdc (zac 4)) zde) (zb4 (zac 3) zde (zdc (zac 4)))) zde (zdc (je_op za2 (je_op za7 (zah ((zbv T).mono (by decide)) hr T.m_l_cell T.f_l_cell.kp T.zbu .nil (fun _ _=>RepVs.nil) (zaa (zac 0) (zaa zad zae)) rfl rfl (by decide) rfl rfl (zab (zab zag))) zad) zad)))))))))
theorem ze6:FnScope ["_law_script","_law_more","_law_row","_law_cell_here","_law_at"] ["_law_script","_law_more","_law_row"] (defScope zdm):=⟨rfl,rfl,rfl,by decide +kernel,rfl,by decide +kernel,by decide +kernel⟩
theorem zjg (T:Txt K mg Ad):FnOk P w K mg base CX0 2 Ad.a_l_strange Ad.d_l_strange ["_law_script","_law_more","_law_row"] (spM K 3 zet):=by
 refine FnOk.imp (fn_ok (m:=zd2) T.f_l_strange ze6 fun cdv A outer s H hr=>?_) fun vs H Q E h=>sp_gc h
 exact (zaf (zaj 3 (je_op za7 (zah ((zbv T).mono (by decide)) hr T.m_l_cell T.f_l_cell.kp T.zbu .nil (fun _ _=>RepVs.nil) (zaa (zac 0) (zaa zad zae)) rfl rfl (by decide) rfl rfl (zab (zab zag))) zad) ze6.nd)
  (zaf (js_if (JW.jt (jw_or (zdf (op_neV (hu200 hr)) (je_op za2 (zac 3) zad) zad (nomark _)) (jw_or1 (zdf op_ltV (zaq zao rfl T.z_len (by decide +kernel) (zaa (zac 2) zae)) zad (nomark _))))) (zam (zbl (zac 2))) zdz)
  (zaf (zaj 4 (je_op zal zad (je_op za2 (je_op za7 (zac 3) zad) (je_op op_subV (zaq zao rfl T.z_len (by decide +kernel) (zaa (zac 2) zae)) zad))) ze6.nd)
  (zam (zbl (je_op zal (je_op zal (zb4 (zac 2) zde (zdc (zac 4))) (je_ix (zac 1) (je_un zit zad))) (zb4 (zac 2) (zdc (je_op zal (zac 4) zad)) zde)))))))
theorem zb0:FnScope ["_law_script","_law_signs","_law_more","_law_states","_law_cell_here","_law_many","_law_row"] ["_law_script","_law_signs","_law_more","_law_states"] (defScope zbs):=⟨rfl,rfl,rfl,by decide +kernel,rfl,by decide +kernel,by decide +kernel⟩
theorem zg0 (T:Txt K mg Ad):FnOk P w K mg base CX0 3 Ad.a_l_drawn_stand Ad.d_l_drawn_stand ["_law_script","_law_signs","_law_more","_law_states"] (spM K 4 zc6):=by
 refine FnOk.imp (fn_ok (m:=zci) T.f_l_drawn_stand zb0 fun cdv A outer s H hr=>?_) fun vs H Q E h=>sp_gc h
 exact (zaf (zaj 4 (zah ((zbv T).mono (by decide)) hr T.m_l_cell T.f_l_cell.kp T.zbu .nil (fun _ _=>RepVs.nil) (zaa (zac 0) (zaa zad zae)) rfl rfl (by decide) rfl rfl (zab (zab zag))) zb0.nd)
  (zaf (zaj 5 (je_op zal zad (je_op za2 (zac 4) zad)) zb0.nd)
  (zaf (js_if (zdf (zha (hu200 hr)) (je_op za2 (je_op za7 (zac 4) zad) zad) zad (nomark _)) (zam (zaj 5 (je_op zal zad (je_op za2 (je_op za7 (zac 4) zad) zad)) zb0.nd)) zdz)
  (zaf (zaj 6 (zah ((ze3 T).mono (by decide)) hr T.m_l_drawn_text T.f_l_drawn_text.kp T.zb9 .nil (fun _ _=>RepVs.nil) (zaa (je_op za7 (zac 4) zad) (zaa (zac 5) (zaa (zac 1) zae))) rfl rfl (by decide) rfl rfl (zab (zab (zab zag)))) zb0.nd)
  (zam (zbl (zct (zaa (je_ix (zac 3) (je_op za2 (zah ((zbv T).mono (by decide)) hr T.m_l_cell T.f_l_cell.kp T.zbu .nil (fun _ _=>RepVs.nil) (zaa (zac 0) (zaa zad zae)) rfl rfl (by decide) rfl rfl (zab (zab zag))) (zaq zao rfl T.z_len (by decide +kernel) (zaa (zac 3) zae)))) (zaa (zah ((zjg T).mono (by decide)) hr T.m_l_strange T.f_l_strange.kp T.zd2 .nil (fun _ _=>RepVs.nil) (zaa (zac 0) (zaa (zac 2) (zaa (zac 6) zae))) rfl rfl (by decide) rfl rfl (zab (zab (zab zag)))) zae)))))))))
theorem ziv:FnScope ["_law_state","_law_many","_law_found"] ["_law_state","_law_many"] (defScope zew):=⟨rfl,rfl,rfl,by decide +kernel,rfl,by decide +kernel,by decide +kernel⟩
theorem zch (T:Txt K mg Ad):FnOk P w K mg base CX0 1 Ad.a_l_digit Ad.d_l_digit ["_law_state","_law_many"] (spM K 2 zaw):=by
 refine FnOk.imp (fn_ok (m:=zbw) T.f_l_digit ziv fun cdv A outer s H hr=>?_) fun vs H Q E h=>zi4 h
 exact (zaf (zaj 2 (je_op za2 (je_ix (zac 0) zad) (zac 1)) ziv.nd)
  (zaf (zgp (je_op za7 (je_ix (zac 0) zad) (zac 1)) (zkt set_V (zac 0) zad))
  (zam (zbl (zac 2)))))
theorem zdi:FnScope ["_law_state","_law_many","_law_text","_law_k"] ["_law_state","_law_many"] (defScope zcl):=⟨rfl,rfl,rfl,by decide +kernel,rfl,by decide +kernel,by decide +kernel⟩
theorem zeb (T:Txt K mg Ad):FnOk P w K mg base CX0 2 Ad.a_l_free_text Ad.d_l_free_text ["_law_state","_law_many"] (spM K 2 zbm):=by
 refine FnOk.imp (fn_ok (m:=zb1) T.f_l_free_text zdi fun cdv A outer s H hr=>?_) fun vs H Q E h=>zi4 h
 exact (zaf (zaj 2 (zcy []) zdi.nd)
  (zaf (zel (zdr (zaa (zac 1) zae) rfl T.z_range) (zak 3 zdi.nd) (zam (zaj 2 (je_op zal (zac 2) (je_ix (zcy [97,98,99,100,101,102,103,104,105,106,107,108,109,110,111,112,113,114,115,116,117,118,119,120,121,122]) (zah ((zch T).mono (by decide)) hr T.m_l_digit T.f_l_digit.kp T.zbw .nil (fun _ _=>RepVs.nil) (zaa (zac 0) (zaa zad zae)) rfl rfl (by decide) rfl rfl (zab (zab zag))))) zdi.nd)) PassesOwn.never rfl)
  (zam (zbl (zac 2)))))
theorem za8:FnScope ["_law_state","_law_rules","_law_k","_law_pair","_law_word","_law_goal"] ["_law_state"] (defScope za3):=⟨rfl,rfl,rfl,by decide +kernel,rfl,by decide +kernel,by decide +kernel⟩
theorem zf8 (T:Txt K mg Ad):FnOk P w K mg base CX0 3 Ad.a_l_free_program Ad.d_l_free_program ["_law_state"] (spM K 1 zb5):=by
 refine FnOk.imp (fn_ok (m:=zbz) T.f_l_free_program za8 fun cdv A outer s H hr=>?_) fun vs H Q E h=>zi4 h
 exact (zaf (zaj 1 (zgz zae) za8.nd)
  (zaf (zel (zdr (zaa (zah ((zch T).mono (by decide)) hr T.m_l_digit T.f_l_digit.kp T.zbw .nil (fun _ _=>RepVs.nil) (zaa (zac 0) (zaa zad zae)) rfl rfl (by decide) rfl rfl (zab (zab zag))) zae) rfl T.z_range) (zak 2 za8.nd) (zaf (zaj 3 (zct (zaa (zah ((zch T).mono (by decide)) hr T.m_l_digit T.f_l_digit.kp T.zbw .nil (fun _ _=>RepVs.nil) (zaa (zac 0) (zaa zad zae)) rfl rfl (by decide) rfl rfl (zab (zab zag))) (zaa (zah ((zeb T).mono (by decide)) hr T.m_l_free_text T.f_l_free_text.kp T.zb1 .nil (fun _ _=>RepVs.nil) (zaa (zac 0) (zaa zad zae)) rfl rfl (by decide) rfl rfl (zab (zab zag))) zae))) za8.nd)
  (zaf (zaj 4 (zah ((zeb T).mono (by decide)) hr T.m_l_free_text T.f_l_free_text.kp T.zb1 .nil (fun _ _=>RepVs.nil) (zaa (zac 0) (zaa (zah ((zch T).mono (by decide)) hr T.m_l_digit T.f_l_digit.kp T.zbw .nil (fun _ _=>RepVs.nil) (zaa (zac 0) (zaa zad zae)) rfl rfl (by decide) rfl rfl (zab (zab zag))) zae)) rfl rfl (by decide) rfl rfl (zab (zab zag))) za8.nd)
  (zaf (zaj 5 (zah ((zch T).mono (by decide)) hr T.m_l_digit T.f_l_digit.kp T.zbw .nil (fun _ _=>RepVs.nil) (zaa (zac 0) (zaa zad zae)) rfl rfl (by decide) rfl rfl (zab (zab zag))) za8.nd)
  (zam (js_if (zdf (zl4 (hu200 hr)) (zac 3) (zis (N:=["_law_rule"]) (capt:=[none]) (sc0:=defScope za3) (zjm (zac 1)) ⟨rfl,by decide +kernel,by decide +kernel⟩ (by decide +kernel) trivial rfl (fun cl C fp s H=>(zak 0 (show List.Nodup (["_law_rule"]:List Str) by decide +kernel))) (fun cl C fp s H=>zke) (fun cl C fp s H=>(zb4 (zac 0) zde (zdc zad)))) rfl) (zam (zfg (zer PySem.F.plainAttrs_list PySem.F.slot_list_append PySem.F.type_list_append zd8 (zac 1) (zaa (je_op zal (zac 3) (zct (zaa (zac 4) (zaa (zac 5) zae)))) zae)))) zdz))))) PassesOwn.never rfl)
  (zam (zbl (zac 1)))))
theorem zba:FnScope ["_law_cell_here","_law_most","_law_state","_law_rules","_law_stand","_law_rule","_law_top","_law_letters"] ["_law_cell_here","_law_most"] (defScope zbo):=⟨rfl,rfl,rfl,by decide +kernel,rfl,by decide +kernel,by decide +kernel⟩
theorem zh4 (T:Txt K mg Ad):FnOk P w K mg base CX0 4 Ad.a_l_free_case Ad.d_l_free_case ["_law_cell_here","_law_most"] (spM K 2 zdu):=by
 refine FnOk.imp (fn_ok (m:=zda) T.f_l_free_case zba fun cdv A outer s H hr=>?_) fun vs H Q E h=>sp_gc h
 exact (zaf (zaj 2 (zgz (zaa (zac 0) zae)) zba.nd)
  (zaf (zaj 3 (zah ((zf8 T).mono (by decide)) hr T.m_l_free_program T.f_l_free_program.kp T.zbz .nil (fun _ _=>RepVs.nil) (zaa (zac 2) zae) rfl rfl (by decide) rfl rfl (zab zag)) zba.nd)
  (zaf (zaj 4 (zct (zaa (zah ((zch T).mono (by decide)) hr T.m_l_digit T.f_l_digit.kp T.zbw .nil (fun _ _=>RepVs.nil) (zaa (zac 2) (zaa zad zae)) rfl rfl (by decide) rfl rfl (zab (zab zag))) (zaa (zah ((zeb T).mono (by decide)) hr T.m_l_free_text T.f_l_free_text.kp T.zb1 .nil (fun _ _=>RepVs.nil) (zaa (zac 2) (zaa (zah ((zch T).mono (by decide)) hr T.m_l_digit T.f_l_digit.kp T.zbw .nil (fun _ _=>RepVs.nil) (zaa (zac 2) (zaa (je_op zal (zac 1) zad) zae)) rfl rfl (by decide) rfl rfl (zab (zab zag))) zae)) rfl rfl (by decide) rfl rfl (zab (zab zag))) zae))) zba.nd)
  (zaf (js_if (JW.jt (jw_and (zdf (op_neV (hu200 hr)) (zac 3) (zgz zae) (nomark _)) (zme (zdf (zha (hu200 hr)) (zah ((zch T).mono (by decide)) hr T.m_l_digit T.f_l_digit.kp T.zbw .nil (fun _ _=>RepVs.nil) (zaa (zac 2) (zaa zad zae)) rfl rfl (by decide) rfl rfl (zab (zab zag))) zad (nomark _))))) (zaf (zaj 5 (je_ix (zac 3) (zah ((zch T).mono (by decide)) hr T.m_l_digit T.f_l_digit.kp T.zbw .nil (fun _ _=>RepVs.nil) (zaa (zac 2) (zaa (zaq zao rfl T.z_len (by decide +kernel) (zaa (zac 3) zae)) zae)) rfl rfl (by decide) rfl rfl (zab (zab zag)))) zba.nd)
  (zam (zaj 4 (zct (zaa (je_ix (zac 5) zad) (zaa (je_op zal (je_ix (zac 5) zad) (zb4 (je_ix (zac 4) zad) (zdc zad) zde)) zae))) zba.nd))) zdz)
  (zaf (zaj 6 (zaq (zjz rfl hr.hd) rfl T.z_max (by decide +kernel) (zaa (je_op zal (zgz (zaa (je_ix (zac 4) zad) zae)) (zis (N:=["_law_rule"]) (capt:=[none]) (sc0:=defScope zbo) (zjm (zac 3)) ⟨rfl,by decide +kernel,by decide +kernel⟩ (by decide +kernel) trivial rfl (fun cl C fp s H=>(zak 0 (show List.Nodup (["_law_rule"]:List Str) by decide +kernel))) (fun cl C fp s H=>zke) (fun cl C fp s H=>(zaq (zjz rfl hr.hd) rfl T.z_max (by decide +kernel) (zaa (je_ix (zac 0) zad) (zaa (je_ix (zac 0) zad) zae)))))) zae)) zba.nd)
  (zaf (zaj 7 (je_op zal (je_ix (zac 4) zad) (zer PySem.F.plainAttrs_str PySem.F.slot_str_join PySem.F.type_str_join zjf (zcy []) (zaa (zis (N:=["_law_rule"]) (capt:=[none]) (sc0:=defScope zbo) (zjm (zac 3)) ⟨rfl,by decide +kernel,by decide +kernel⟩ (by decide +kernel) trivial rfl (fun cl C fp s H=>(zak 0 (show List.Nodup (["_law_rule"]:List Str) by decide +kernel))) (fun cl C fp s H=>zke) (fun cl C fp s H=>(je_op zal (je_ix (zac 0) zad) (je_ix (zac 0) zad)))) zae))) zba.nd)
  (zam (zbl (zct (zaa (zac 3) (zaa (zaq (zlx rfl) rfl T.z_min (by decide +kernel) (zaa zad (zaa (je_op zal (zac 6) (zah ((zch T).mono (by decide)) hr T.m_l_digit T.f_l_digit.kp T.zbw .nil (fun _ _=>RepVs.nil) (zaa (zac 2) (zaa zad zae)) rfl rfl (by decide) rfl rfl (zab (zab zag)))) zae))) (zaa (zer PySem.F.plainAttrs_str PySem.F.slot_str_join PySem.F.type_str_join zjf (zcy []) (zaa (zl6 hr.hd rfl T.z_sorted (by decide +kernel) rfl T.z_set (by decide +kernel) rfl T.z_list (by decide +kernel) (zac 7)) zae)) (zaa (zac 4) zae)))))))))))))
theorem zbq:FnScope ["_law_script","_law_signs","_law_states","_law_rules","_law_top","_law_more"] ["_law_script"] (defScope zcb):=⟨rfl,rfl,rfl,by decide +kernel,rfl,by decide +kernel,by decide +kernel⟩
theorem zg3 (T:Txt K mg Ad):FnOk P w K mg base CX0 4 Ad.a_l_drawn_case Ad.d_l_drawn_case ["_law_script"] (spM K 1 zdj):=by
 refine FnOk.imp (fn_ok (m:=zcn) T.f_l_drawn_case zbq fun cdv A outer s H hr=>?_) fun vs H Q E h=>sp_gc h
 exact (zaf (zaj 1 (zah ((ziz T).mono (by decide)) hr T.m_l_alphabet T.f_l_alphabet.kp T.zdp .nil (fun _ _=>RepVs.nil) (zaa (zac 0) zae) rfl rfl (by decide) rfl rfl (zab zag)) zbq.nd)
  (zaf (zaj 2 (zah ((zgw T).mono (by decide)) hr T.m_l_some_states T.f_l_some_states.kp T.zcg .nil (fun _ _=>RepVs.nil) (zaa (zac 0) zae) rfl rfl (by decide) rfl rfl (zab zag)) zbq.nd)
  (zaf (zaj 3 (zah ((zji T).mono (by decide)) hr T.m_l_program T.f_l_program.kp T.zd6 .nil (fun _ _=>RepVs.nil) (zaa (zac 0) (zaa (zac 1) (zaa (zac 2) (zaa zad zae)))) rfl rfl (by decide) rfl rfl (zab (zab (zab (zab zag))))) zbq.nd)
  (zaf (zaj 4 (je_op zal (je_ix (zac 2) (je_un zit zad)) (je_ix (zgz (zaa zad (zaa (je_op za2 (je_op za7 (zah ((zbv T).mono (by decide)) hr T.m_l_cell T.f_l_cell.kp T.zbu .nil (fun _ _=>RepVs.nil) (zaa (zac 0) (zaa zad zae)) rfl rfl (by decide) rfl rfl (zab (zab zag))) zad) zad) (zaa zad zae)))) (je_op za2 (zah ((zbv T).mono (by decide)) hr T.m_l_cell T.f_l_cell.kp T.zbu .nil (fun _ _=>RepVs.nil) (zaa (zac 0) (zaa zad zae)) rfl rfl (by decide) rfl rfl (zab (zab zag))) zad))) zbq.nd)
  (zaf (zaj 5 (zah ((zmq T).mono (by decide)) hr T.m_l_wider T.f_l_wider.kp T.zff .nil (fun _ _=>RepVs.nil) (zaa (zac 0) (zaa (zac 1) zae)) rfl rfl (by decide) rfl rfl (zab (zab zag))) zbq.nd)
  (zam (zbl (zct (zaa (zac 3) (zaa (zac 4) (zaa (zac 5) (zaa (zah ((zg0 T).mono (by decide)) hr T.m_l_drawn_stand T.f_l_drawn_stand.kp T.zci .nil (fun _ _=>RepVs.nil) (zaa (zac 0) (zaa (zac 1) (zaa (zac 5) (zaa (zac 2) zae)))) rfl rfl (by decide) rfl rfl (zab (zab (zab (zab zag))))) zae))))))))))))
theorem zey:FnScope ["_law_table_here","_law_rules","_law_stand","_law_k","_law_top","_law_here","_law_due","_law_many","_law_step"] ["_law_table_here","_law_rules","_law_stand","_law_k","_law_top"] (defScope zf0):=⟨rfl,rfl,rfl,by decide +kernel,rfl,by decide +kernel,by decide +kernel⟩
theorem zfq (T:Txt K mg Ad):FnOk P w K mg base CX0 2 Ad.a_l_goes Ad.d_l_goes ["_law_table_here","_law_rules","_law_stand","_law_k","_law_top"] (spM K 5 zcw):=by
 refine FnOk.imp (fn_ok (m:=zee) T.f_l_goes zey fun cdv A outer s H hr=>?_) fun vs H Q E h=>sp_gc h
 exact (zaf (zaj 5 (zah ((zf5 T).mono (by decide)) hr T.m_l_image_of T.f_l_image_of.kp T.zc4 .nil (fun _ _=>RepVs.nil) (zaa (zac 2) (zaa (zac 3) zae)) rfl rfl (by decide) rfl rfl (zab (zab zag))) zey.nd)
  (zaf (zaj 6 (zah ((zih T).mono (by decide)) hr T.m_l_row_next T.f_l_row_next.kp T.zc3 .nil (fun _ _=>RepVs.nil) (zaa (zac 1) (zaa (zac 2) zae)) rfl rfl (by decide) rfl rfl (zab (zab zag))) zey.nd)
  (zaf (js_if (zdf zgr (zac 6) zma (nomark _)) (zam (zbl (je_cmp zgr (zah ((zj4 T).mono (by decide)) hr T.m_l_next T.f_l_next.kp T.ze7 .nil (fun _ _=>RepVs.nil) (zaa (zac 0) (zaa (zac 5) zae)) rfl rfl (by decide) rfl rfl (zab (zab zag))) zma (nomark _)))) zdz)
  (zaf (zaj 7 (je_op zal (je_op zal (je_op ze2 zad (zaq zao rfl T.z_len (by decide +kernel) (zaa (je_ix (zac 2) zad) zae))) (je_op ze2 zad (je_op zal (je_op op_subV (zaq zao rfl T.z_len (by decide +kernel) (zaa (je_ix (zac 6) zad) zae)) (zaq zao rfl T.z_len (by decide +kernel) (zaa (je_ix (zac 2) zad) zae))) zad))) zad) zey.nd)
  (zaf (zel (zdr (zaa (zac 7) zae) rfl T.z_range) (zak 8 zey.nd) (zaf (zaj 5 (zah ((zj4 T).mono (by decide)) hr T.m_l_next T.f_l_next.kp T.ze7 .nil (fun _ _=>RepVs.nil) (zaa (zac 0) (zaa (zac 5) zae)) rfl rfl (by decide) rfl rfl (zab (zab zag))) zey.nd)
  (zam (js_if (JW.jt (jw_or (zdf zgr (zac 5) zma (nomark _)) (jw_or1 (JW.jt (jw_and (zdf op_ltV (je_op zal (zac 8) zad) (zac 7) (nomark _)) (zme (zdf op_leV (je_ix (zac 5) zad) (zac 4) (nomark _)))))))) (zam (zbl je_bl)) zdz))) PassesOwn.never rfl)
  (zam (zbl (je_cmp (zha (hu200 hr)) (zac 5) (zah ((zf5 T).mono (by decide)) hr T.m_l_image_of T.f_l_image_of.kp T.zc4 .nil (fun _ _=>RepVs.nil) (zaa (zac 6) (zaa (je_op zal (zac 3) zad) zae)) rfl rfl (by decide) rfl rfl (zab (zab zag))) (nomark _)))))))))
theorem zcv:FnScope ["_law_script","_law_rules","_law_top","_law_more","_law_stand","_law_k","_law_given","_law_made","_law_table_here","_law_rule"] ["_law_script"] (defScope zhm):=⟨rfl,rfl,rfl,by decide +kernel,rfl,by decide +kernel,by decide +kernel⟩
theorem ok_p_law (T:Txt K mg Ad):FnOk P w K mg base CX0 5 Ad.a_p_law Ad.d_p_law ["_law_script"] (spM K 1 zi1):=by
 refine FnOk.imp (fn_ok (m:=zj7) T.f_p_law zcv fun cdv A outer s H hr=>?_) fun vs H Q E h=>sp_gc h
 exact (zaf (zgp (zah ((zg3 T).mono (by decide)) hr T.m_l_drawn_case T.f_l_drawn_case.kp T.zcn .nil (fun _ _=>RepVs.nil) (zaa (zac 0) zae) rfl rfl (by decide) rfl rfl (zab zag)) (zjj 4 rfl (zas (zak 1 zcv.nd) (zas (zak 2 zcv.nd) (zas (zak 3 zcv.nd) (zas (zak 4 zcv.nd) zgu))))))
  (zaf (js_if (zdf (zha (hu200 hr)) (je_op za2 (zah ((zbv T).mono (by decide)) hr T.m_l_cell T.f_l_cell.kp T.zbu .nil (fun _ _=>RepVs.nil) (zaa (zac 0) (zaa zad zae)) rfl rfl (by decide) rfl rfl (zab (zab zag))) zad) zad (nomark _)) (zam (zgp (zah ((zh4 T).mono (by decide)) hr T.m_l_free_case T.f_l_free_case.kp T.zda .nil (fun _ _=>RepVs.nil) (zaa (zah ((zbv T).mono (by decide)) hr T.m_l_cell T.f_l_cell.kp T.zbu .nil (fun _ _=>RepVs.nil) (zaa (zac 0) (zaa zad zae)) rfl rfl (by decide) rfl rfl (zab (zab zag))) (zaa zad zae)) rfl rfl (by decide) rfl rfl (zab (zab zag))) (zjj 4 rfl (zas (zak 1 zcv.nd) (zas (zak 2 zcv.nd) (zas (zak 3 zcv.nd) (zas (zak 4 zcv.nd) zgu))))))) zdz)
  (zaf (zaj 5 (je_ix (zgz (zaa zad (zaa zad (zaa (je_op za2 (je_op za7 (zah ((zbv T).mono (by decide)) hr T.m_l_cell T.f_l_cell.kp T.zbu .nil (fun _ _=>RepVs.nil) (zaa (zac 0) (zaa zad zae)) rfl rfl (by decide) rfl rfl (zab (zab zag))) zad) zad) zae)))) (je_op za2 (zah ((zbv T).mono (by decide)) hr T.m_l_cell T.f_l_cell.kp T.zbu .nil (fun _ _=>RepVs.nil) (zaa (zac 0) (zaa zad zae)) rfl rfl (by decide) rfl rfl (zab (zab zag))) zad)) zcv.nd)
  (zaf (zaj 6 (zhy zld rfl T.z_list (by decide +kernel) (zaa (zac 1) zae)) zcv.nd)
  (zaf (zaj 7 (zah ((zfd T).mono (by decide)) hr T.m_p_make_tape T.f_p_make_tape.kp T.zcj .nil (fun _ _=>RepVs.nil) (zaa (zac 6) (zaa (zac 3) (zaa (zac 2) zae))) rfl rfl (by decide) rfl rfl (zab (zab (zab zag)))) zcv.nd)
  (zaf (js_if (JW.jt (jw_or (jt_not (zhx (je_isV kit_list (zac 7) rfl T.z_isinstance rfl T.z_list (by decide +kernel) (by decide +kernel)))) (jw_or1 (zdf (op_neV (hu200 hr)) (zac 6) (zac 1) (nomark _))))) (zam (zbl je_bl)) zdz)
  (zaf (zaj 8 (zah ((zik T).mono (by decide)) hr T.m_l_table T.f_l_table.kp T.ze0 .nil (fun _ _=>RepVs.nil) (zaa (zac 7) zae) rfl rfl (by decide) rfl rfl (zab zag)) zcv.nd)
  (zaf (js_if (JW.jt (jw_or (zdf (op_neV (hu200 hr)) (zaq zao rfl T.z_len (by decide +kernel) (zaa (zac 8) zae)) (zaq zao rfl T.z_len (by decide +kernel) (zaa (zac 7) zae)) (nomark _)) (jw_or1 (jt_not (zhx (zah ((zfq T).mono (by decide)) hr T.m_l_goes T.f_l_goes.kp T.zee .nil (fun _ _=>RepVs.nil) (zaa (zac 8) (zaa (zac 1) (zaa (zac 4) (zaa (zac 5) (zaa (zac 2) zae))))) rfl rfl (by decide) rfl rfl (zab (zab (zab (zab (zab zag))))))))))) (zam (zbl je_bl)) zdz)
  (zaf (zfg (je_meth0 PySem.F.plainAttrs_list PySem.F.slot_list_clear PySem.F.type_list_clear mt_clearV (zac 6)))
  (zaf (js_if (jt_not (zhx (zah ((zfq T).mono (by decide)) hr T.m_l_goes T.f_l_goes.kp T.zee .nil (fun _ _=>RepVs.nil) (zaa (zah ((zik T).mono (by decide)) hr T.m_l_table T.f_l_table.kp T.ze0 .nil (fun _ _=>RepVs.nil) (zaa (zah ((zfd T).mono (by decide)) hr T.m_p_make_tape T.f_p_make_tape.kp T.zcj .nil (fun _ _=>RepVs.nil) (zaa (zac 1) (zaa (zac 3) (zaa (zac 2) zae))) rfl rfl (by decide) rfl rfl (zab (zab (zab zag)))) zae) rfl rfl (by decide) rfl rfl (zab zag)) (zaa (zac 1) (zaa (zac 4) (zaa (zac 5) (zaa (zac 2) zae))))) rfl rfl (by decide) rfl rfl (zab (zab (zab (zab (zab zag)))))))) (zam (zbl je_bl)) zdz)
  (zaf (zel (zjm (zac 1)) (zak 9 zcv.nd) (zam (js_if (jt_not (zhx (zah ((zfq T).mono (by decide)) hr T.m_l_goes T.f_l_goes.kp T.zee .nil (fun _ _=>RepVs.nil) (zaa (zac 8) (zaa (zac 1) (zaa (zct (zaa (je_ix (zac 9) zad) (zaa (je_ix (zac 9) zad) zae))) (zaa (zac 5) (zaa (zac 2) zae))))) rfl rfl (by decide) rfl rfl (zab (zab (zab (zab (zab zag)))))))) (zam (zbl je_bl)) zdz)) PassesOwn.never rfl)
  (zam (zbl (je_and (zah ((zfq T).mono (by decide)) hr T.m_l_goes T.f_l_goes.kp T.zee .nil (fun _ _=>RepVs.nil) (zaa (zac 8) (zaa (zac 1) (zaa (zct (zaa (je_ix (zac 4) zad) (zaa (zcy []) zae))) (zaa (zac 5) (zaa (zac 2) zae))))) rfl rfl (by decide) rfl rfl (zab (zab (zab (zab (zab zag)))))) (je_one (zah ((zfq T).mono (by decide)) hr T.m_l_goes T.f_l_goes.kp T.zee .nil (fun _ _=>RepVs.nil) (zaa (zac 8) (zaa (zac 1) (zaa (zct (zaa (zac 2) (zaa (je_ix (zac 4) zad) zae))) (zaa (zac 5) (zaa (zac 2) zae))))) rfl rfl (by decide) rfl rfl (zab (zab (zab (zab (zab zag)))))))))))))))))))))
end
theorem us1 {us:List Value}(h:us.length=1):∃a0,us=[a0]:=by
 match us,h with | [a0],_=>exact⟨a0,rfl⟩
theorem us2 {us:List Value}(h:us.length=2):∃a0 a1,us=[a0,a1]:=by
 match us,h with | [a0,a1],_=>exact⟨a0,a1,rfl⟩
theorem us3 {us:List Value}(h:us.length=3):∃a0 a1 a2,us=[a0,a1,a2]:=by
 match us,h with | [a0,a1,a2],_=>exact⟨a0,a1,a2,rfl⟩
theorem us4 {us:List Value}(h:us.length=4):∃a0 a1 a2 a3,us=[a0,a1,a2,a3]:=by
 match us,h with | [a0,a1,a2,a3],_=>exact⟨a0,a1,a2,a3,rfl⟩
theorem us5 {us:List Value}(h:us.length=5):∃a0 a1 a2 a3 a4,us=[a0,a1,a2,a3,a4]:=by
 match us,h with | [a0,a1,a2,a3,a4],_=>exact⟨a0,a1,a2,a3,a4,rfl⟩
theorem all_mk {l:PySem.W.OpenLaw}{w:World}{K:PySem.W.Frag}{h:Heap}{mg:Str->Option Value}{fa f0 f1 f2 f3 f4 f5 f6 f7 f8 f9 f10 f11 f12 f13 f14 f15 f16 f17 f18 f19 f20 f21 f22 f23 f24 f25 f26 f27 f28:Addr}(X:K.In h)(G:h.Ns mainGlobals mg)(hfa:mg "law" = some (.ref fa))
  {od0 an0:Option Addr} {sl0:Array (Option Value)} {oc0 kV0 dc0 pm0 cd0 ct0:Value}
  {od1 an1:Option Addr} {sl1:Array (Option Value)} {oc1 kV1 dc1 pm1 cd1 ct1:Value}
  {od2 an2:Option Addr} {sl2:Array (Option Value)} {oc2 kV2 dc2 pm2 cd2 ct2:Value}
  {od3 an3:Option Addr} {sl3:Array (Option Value)} {oc3 kV3 dc3 pm3 cd3 ct3:Value}
  {od4 an4:Option Addr} {sl4:Array (Option Value)} {oc4 kV4 dc4 pm4 cd4 ct4:Value}
  {od5 an5:Option Addr} {sl5:Array (Option Value)} {oc5 kV5 dc5 pm5 cd5 ct5:Value}
  {od6 an6:Option Addr} {sl6:Array (Option Value)} {oc6 kV6 dc6 pm6 cd6 ct6:Value}
  {od7 an7:Option Addr} {sl7:Array (Option Value)} {oc7 kV7 dc7 pm7 cd7 ct7:Value}
  {od8 an8:Option Addr} {sl8:Array (Option Value)} {oc8 kV8 dc8 pm8 cd8 ct8:Value}
  {od9 an9:Option Addr} {sl9:Array (Option Value)} {oc9 kV9 dc9 pm9 cd9 ct9:Value}
  {od10 an10:Option Addr} {sl10:Array (Option Value)} {oc10 kV10 dc10 pm10 cd10 ct10:Value}
  {od11 an11:Option Addr} {sl11:Array (Option Value)} {oc11 kV11 dc11 pm11 cd11 ct11:Value}
  {od12 an12:Option Addr} {sl12:Array (Option Value)} {oc12 kV12 dc12 pm12 cd12 ct12:Value}
  {od13 an13:Option Addr} {sl13:Array (Option Value)} {oc13 kV13 dc13 pm13 cd13 ct13:Value}
  {od14 an14:Option Addr} {sl14:Array (Option Value)} {oc14 kV14 dc14 pm14 cd14 ct14:Value}
  {od15 an15:Option Addr} {sl15:Array (Option Value)} {oc15 kV15 dc15 pm15 cd15 ct15:Value}
  {od16 an16:Option Addr} {sl16:Array (Option Value)} {oc16 kV16 dc16 pm16 cd16 ct16:Value}
  {od17 an17:Option Addr} {sl17:Array (Option Value)} {oc17 kV17 dc17 pm17 cd17 ct17:Value}
  {od18 an18:Option Addr} {sl18:Array (Option Value)} {oc18 kV18 dc18 pm18 cd18 ct18:Value}
  {od19 an19:Option Addr} {sl19:Array (Option Value)} {oc19 kV19 dc19 pm19 cd19 ct19:Value}
  {od20 an20:Option Addr} {sl20:Array (Option Value)} {oc20 kV20 dc20 pm20 cd20 ct20:Value}
  {od21 an21:Option Addr} {sl21:Array (Option Value)} {oc21 kV21 dc21 pm21 cd21 ct21:Value}
  {od22 an22:Option Addr} {sl22:Array (Option Value)} {oc22 kV22 dc22 pm22 cd22 ct22:Value}
  {od23 an23:Option Addr} {sl23:Array (Option Value)} {oc23 kV23 dc23 pm23 cd23 ct23:Value}
  {od24 an24:Option Addr} {sl24:Array (Option Value)} {oc24 kV24 dc24 pm24 cd24 ct24:Value}
  {od25 an25:Option Addr} {sl25:Array (Option Value)} {oc25 kV25 dc25 pm25 cd25 ct25:Value}
  {od26 an26:Option Addr} {sl26:Array (Option Value)} {oc26 kV26 dc26 pm26 cd26 ct26:Value}
  {od27 an27:Option Addr} {sl27:Array (Option Value)} {oc27 kV27 dc27 pm27 cd27 ct27:Value}
  {od28 an28:Option Addr} {sl28:Array (Option Value)} {oc28 kV28 dc28 pm28 cd28 ct28:Value}
  {C_Numbers:Addr} (cz_Numbers:PySem.W.nsIn K mainGlobals "Numbers" = some (some (.ref C_Numbers))) (cp_Numbers:PySem.W.plainGet K C_Numbers Str.empty=true) (ch_Numbers:PySem.W.hasDictIn K C_Numbers=true) (co_Numbers:PySem.W.plainOver K C_Numbers=true) (cs_Numbers:PySem.W.findIn K (.ref C_Numbers) "__setattr__" = some (some (.builtin "object.__setattr__"))) (ck_Numbers:PySem.W.makesIn K C_Numbers=true) (ce_Numbers:PySem.W.keepIn K (.ref C_Numbers)=true)
  (cn_Numbers_first:PySem.W.findIn K (.ref C_Numbers) "first" = some none)
  (cn_Numbers_given:PySem.W.findIn K (.ref C_Numbers) "given" = some none)
  (a0:PySem.W.findIn K (.ref C_Numbers) "__init__" = some (some (.ref f0))) (i0:PySem.W.isFn K (.ref f0)=true) (l0:K.lookup f0=some ⟨oc0,od0,.func (PySem.W.fnOf "__init__" "Numbers.__init__" (defArgs zbh) (defBody zbh) (defScope zbh) .none kV0 dc0 pm0 an0 cd0 ct0),sl0⟩) (c0:PySem.W.codeIn K cd0 "Numbers.__init__" = true) (k0:PySem.W.keepIn K (.ref f0)=true)
  (a1:PySem.W.findIn K (.ref C_Numbers) "number" = some (some (.ref f1))) (i1:PySem.W.isFn K (.ref f1)=true) (l1:K.lookup f1=some ⟨oc1,od1,.func (PySem.W.fnOf "number" "Numbers.number" (defArgs za1) (defBody za1) (defScope za1) .none kV1 dc1 pm1 an1 cd1 ct1),sl1⟩) (c1:PySem.W.codeIn K cd1 "Numbers.number" = true) (k1:PySem.W.keepIn K (.ref f1)=true)
  (a2:PySem.W.nsIn K mainGlobals "make_tape" = some (some (.ref f2))) (l2:K.lookup f2=some ⟨oc2,od2,.func (PySem.W.fnOf "make_tape" "make_tape" (defArgs zck) (defBody zck) (defScope zck) .none kV2 dc2 pm2 an2 cd2 ct2),sl2⟩) (c2:PySem.W.codeIn K cd2 "make_tape" = true) (k2:PySem.W.keepIn K (.ref f2)=true)
  (a3:PySem.W.nsIn K mainGlobals "grow_state" = some (some (.ref f3))) (l3:K.lookup f3=some ⟨oc3,od3,.func (PySem.W.fnOf "grow_state" "grow_state" (defArgs zb6) (defBody zb6) (defScope zb6) .none kV3 dc3 pm3 an3 cd3 ct3),sl3⟩) (c3:PySem.W.codeIn K cd3 "grow_state" = true) (k3:PySem.W.keepIn K (.ref f3)=true)
  (a4:PySem.W.nsIn K mainGlobals "back_state" = some (some (.ref f4))) (l4:K.lookup f4=some ⟨oc4,od4,.func (PySem.W.fnOf "back_state" "back_state" (defArgs zb8) (defBody zb8) (defScope zb8) .none kV4 dc4 pm4 an4 cd4 ct4),sl4⟩) (c4:PySem.W.codeIn K cd4 "back_state" = true) (k4:PySem.W.keepIn K (.ref f4)=true)
  (a5:PySem.W.nsIn K mainGlobals "passing_rules" = some (some (.ref f5))) (l5:K.lookup f5=some ⟨oc5,od5,.func (PySem.W.fnOf "passing_rules" "passing_rules" (defArgs zau) (defBody zau) (defScope zau) .none kV5 dc5 pm5 an5 cd5 ct5),sl5⟩) (c5:PySem.W.codeIn K cd5 "passing_rules" = true) (k5:PySem.W.keepIn K (.ref f5)=true)
  (a6:PySem.W.nsIn K mainGlobals "words_left" = some (some (.ref f6))) (l6:K.lookup f6=some ⟨oc6,od6,.func (PySem.W.fnOf "words_left" "words_left" (defArgs zca) (defBody zca) (defScope zca) .none kV6 dc6 pm6 an6 cd6 ct6),sl6⟩) (c6:PySem.W.codeIn K cd6 "words_left" = true) (k6:PySem.W.keepIn K (.ref f6)=true)
  (a7:PySem.W.nsIn K mainGlobals "growing_rule" = some (some (.ref f7))) (l7:K.lookup f7=some ⟨oc7,od7,.func (PySem.W.fnOf "growing_rule" "growing_rule" (defArgs zbi) (defBody zbi) (defScope zbi) .none kV7 dc7 pm7 an7 cd7 ct7),sl7⟩) (c7:PySem.W.codeIn K cd7 "growing_rule" = true) (k7:PySem.W.keepIn K (.ref f7)=true)
  (a8:PySem.W.nsIn K mainGlobals "targets_of" = some (some (.ref f8))) (l8:K.lookup f8=some ⟨oc8,od8,.func (PySem.W.fnOf "targets_of" "targets_of" (defArgs zb7) (defBody zb7) (defScope zb7) .none kV8 dc8 pm8 an8 cd8 ct8),sl8⟩) (c8:PySem.W.codeIn K cd8 "targets_of" = true) (k8:PySem.W.keepIn K (.ref f8)=true)
  (a9:PySem.W.nsIn K mainGlobals "_law_cell" = some (some (.ref f9))) (l9:K.lookup f9=some ⟨oc9,od9,.func (PySem.W.fnOf "_law_cell" "_law_cell" (defArgs zfs) (defBody zfs) (defScope zfs) .none kV9 dc9 pm9 an9 cd9 ct9),sl9⟩) (c9:PySem.W.codeIn K cd9 "_law_cell" = true) (k9:PySem.W.keepIn K (.ref f9)=true)
  (a10:PySem.W.nsIn K mainGlobals "_law_alphabet" = some (some (.ref f10))) (l10:K.lookup f10=some ⟨oc10,od10,.func (PySem.W.fnOf "_law_alphabet" "_law_alphabet" (defArgs zcz) (defBody zcz) (defScope zcz) .none kV10 dc10 pm10 an10 cd10 ct10),sl10⟩) (c10:PySem.W.codeIn K cd10 "_law_alphabet" = true) (k10:PySem.W.keepIn K (.ref f10)=true)
  (a11:PySem.W.nsIn K mainGlobals "_law_some_states" = some (some (.ref f11))) (l11:K.lookup f11=some ⟨oc11,od11,.func (PySem.W.fnOf "_law_some_states" "_law_some_states" (defArgs zbr) (defBody zbr) (defScope zbr) .none kV11 dc11 pm11 an11 cd11 ct11),sl11⟩) (c11:PySem.W.codeIn K cd11 "_law_some_states" = true) (k11:PySem.W.keepIn K (.ref f11)=true)
  (a12:PySem.W.nsIn K mainGlobals "_law_drawn_text" = some (some (.ref f12))) (l12:K.lookup f12=some ⟨oc12,od12,.func (PySem.W.fnOf "_law_drawn_text" "_law_drawn_text" (defArgs zcd) (defBody zcd) (defScope zcd) .none kV12 dc12 pm12 an12 cd12 ct12),sl12⟩) (c12:PySem.W.codeIn K cd12 "_law_drawn_text" = true) (k12:PySem.W.keepIn K (.ref f12)=true)
  (a13:PySem.W.nsIn K mainGlobals "_law_drawn_word" = some (some (.ref f13))) (l13:K.lookup f13=some ⟨oc13,od13,.func (PySem.W.fnOf "_law_drawn_word" "_law_drawn_word" (defArgs zcc) (defBody zcc) (defScope zcc) .none kV13 dc13 pm13 an13 cd13 ct13),sl13⟩) (c13:PySem.W.codeIn K cd13 "_law_drawn_word" = true) (k13:PySem.W.keepIn K (.ref f13)=true)
  (a14:PySem.W.nsIn K mainGlobals "_law_program" = some (some (.ref f14))) (l14:K.lookup f14=some ⟨oc14,od14,.func (PySem.W.fnOf "_law_program" "_law_program" (defArgs zdl) (defBody zdl) (defScope zdl) .none kV14 dc14 pm14 an14 cd14 ct14),sl14⟩) (c14:PySem.W.codeIn K cd14 "_law_program" = true) (k14:PySem.W.keepIn K (.ref f14)=true)
  (a15:PySem.W.nsIn K mainGlobals "_law_table" = some (some (.ref f15))) (l15:K.lookup f15=some ⟨oc15,od15,.func (PySem.W.fnOf "_law_table" "_law_table" (defArgs zex) (defBody zex) (defScope zex) .none kV15 dc15 pm15 an15 cd15 ct15),sl15⟩) (c15:PySem.W.codeIn K cd15 "_law_table" = true) (k15:PySem.W.keepIn K (.ref f15)=true)
  (a16:PySem.W.nsIn K mainGlobals "_law_next" = some (some (.ref f16))) (l16:K.lookup f16=some ⟨oc16,od16,.func (PySem.W.fnOf "_law_next" "_law_next" (defArgs zfw) (defBody zfw) (defScope zfw) .none kV16 dc16 pm16 an16 cd16 ct16),sl16⟩) (c16:PySem.W.codeIn K cd16 "_law_next" = true) (k16:PySem.W.keepIn K (.ref f16)=true)
  (a17:PySem.W.nsIn K mainGlobals "_law_image_of" = some (some (.ref f17))) (l17:K.lookup f17=some ⟨oc17,od17,.func (PySem.W.fnOf "_law_image_of" "_law_image_of" (defArgs zc1) (defBody zc1) (defScope zc1) .none kV17 dc17 pm17 an17 cd17 ct17),sl17⟩) (c17:PySem.W.codeIn K cd17 "_law_image_of" = true) (k17:PySem.W.keepIn K (.ref f17)=true)
  (a18:PySem.W.nsIn K mainGlobals "_law_row_next" = some (some (.ref f18))) (l18:K.lookup f18=some ⟨oc18,od18,.func (PySem.W.fnOf "_law_row_next" "_law_row_next" (defArgs zc0) (defBody zc0) (defScope zc0) .none kV18 dc18 pm18 an18 cd18 ct18),sl18⟩) (c18:PySem.W.codeIn K cd18 "_law_row_next" = true) (k18:PySem.W.keepIn K (.ref f18)=true)
  (a19:PySem.W.nsIn K mainGlobals "_law_wider" = some (some (.ref f19))) (l19:K.lookup f19=some ⟨oc19,od19,.func (PySem.W.fnOf "_law_wider" "_law_wider" (defArgs zei) (defBody zei) (defScope zei) .none kV19 dc19 pm19 an19 cd19 ct19),sl19⟩) (c19:PySem.W.codeIn K cd19 "_law_wider" = true) (k19:PySem.W.keepIn K (.ref f19)=true)
  (a20:PySem.W.nsIn K mainGlobals "_law_strange" = some (some (.ref f20))) (l20:K.lookup f20=some ⟨oc20,od20,.func (PySem.W.fnOf "_law_strange" "_law_strange" (defArgs zdm) (defBody zdm) (defScope zdm) .none kV20 dc20 pm20 an20 cd20 ct20),sl20⟩) (c20:PySem.W.codeIn K cd20 "_law_strange" = true) (k20:PySem.W.keepIn K (.ref f20)=true)
  (a21:PySem.W.nsIn K mainGlobals "_law_drawn_stand" = some (some (.ref f21))) (l21:K.lookup f21=some ⟨oc21,od21,.func (PySem.W.fnOf "_law_drawn_stand" "_law_drawn_stand" (defArgs zbs) (defBody zbs) (defScope zbs) .none kV21 dc21 pm21 an21 cd21 ct21),sl21⟩) (c21:PySem.W.codeIn K cd21 "_law_drawn_stand" = true) (k21:PySem.W.keepIn K (.ref f21)=true)
  (a22:PySem.W.nsIn K mainGlobals "_law_digit" = some (some (.ref f22))) (l22:K.lookup f22=some ⟨oc22,od22,.func (PySem.W.fnOf "_law_digit" "_law_digit" (defArgs zew) (defBody zew) (defScope zew) .none kV22 dc22 pm22 an22 cd22 ct22),sl22⟩) (c22:PySem.W.codeIn K cd22 "_law_digit" = true) (k22:PySem.W.keepIn K (.ref f22)=true)
  (a23:PySem.W.nsIn K mainGlobals "_law_free_text" = some (some (.ref f23))) (l23:K.lookup f23=some ⟨oc23,od23,.func (PySem.W.fnOf "_law_free_text" "_law_free_text" (defArgs zcl) (defBody zcl) (defScope zcl) .none kV23 dc23 pm23 an23 cd23 ct23),sl23⟩) (c23:PySem.W.codeIn K cd23 "_law_free_text" = true) (k23:PySem.W.keepIn K (.ref f23)=true)
  (a24:PySem.W.nsIn K mainGlobals "_law_free_program" = some (some (.ref f24))) (l24:K.lookup f24=some ⟨oc24,od24,.func (PySem.W.fnOf "_law_free_program" "_law_free_program" (defArgs za3) (defBody za3) (defScope za3) .none kV24 dc24 pm24 an24 cd24 ct24),sl24⟩) (c24:PySem.W.codeIn K cd24 "_law_free_program" = true) (k24:PySem.W.keepIn K (.ref f24)=true)
  (a25:PySem.W.nsIn K mainGlobals "_law_free_case" = some (some (.ref f25))) (l25:K.lookup f25=some ⟨oc25,od25,.func (PySem.W.fnOf "_law_free_case" "_law_free_case" (defArgs zbo) (defBody zbo) (defScope zbo) .none kV25 dc25 pm25 an25 cd25 ct25),sl25⟩) (c25:PySem.W.codeIn K cd25 "_law_free_case" = true) (k25:PySem.W.keepIn K (.ref f25)=true)
  (a26:PySem.W.nsIn K mainGlobals "_law_drawn_case" = some (some (.ref f26))) (l26:K.lookup f26=some ⟨oc26,od26,.func (PySem.W.fnOf "_law_drawn_case" "_law_drawn_case" (defArgs zcb) (defBody zcb) (defScope zcb) .none kV26 dc26 pm26 an26 cd26 ct26),sl26⟩) (c26:PySem.W.codeIn K cd26 "_law_drawn_case" = true) (k26:PySem.W.keepIn K (.ref f26)=true)
  (a27:PySem.W.nsIn K mainGlobals "_law_goes" = some (some (.ref f27))) (l27:K.lookup f27=some ⟨oc27,od27,.func (PySem.W.fnOf "_law_goes" "_law_goes" (defArgs zf0) (defBody zf0) (defScope zf0) .none kV27 dc27 pm27 an27 cd27 ct27),sl27⟩) (c27:PySem.W.codeIn K cd27 "_law_goes" = true) (k27:PySem.W.keepIn K (.ref f27)=true)
  (a28:PySem.W.nsIn K mainGlobals "law" = some (some (.ref f28))) (l28:K.lookup f28=some ⟨oc28,od28,.func (PySem.W.fnOf "law" "law" (defArgs zhm) (defBody zhm) (defScope zhm) .none kV28 dc28 pm28 an28 cd28 ct28),sl28⟩) (c28:PySem.W.codeIn K cd28 "law" = true) (k28:PySem.W.keepIn K (.ref f28)=true)
  {t_BLANK:Tok} (v_BLANK:PySem.W.nsIn K mainGlobals "BLANK" = some (some (.str "_" t_BLANK)))
  (z_int:PySem.W.nsIn K mainGlobals "int" = some none)
  (z_isinstance:PySem.W.nsIn K mainGlobals "isinstance" = some none)
  (z_len:PySem.W.nsIn K mainGlobals "len" = some none)
  (z_list:PySem.W.nsIn K mainGlobals "list" = some none)
  (z_max:PySem.W.nsIn K mainGlobals "max" = some none)
  (z_min:PySem.W.nsIn K mainGlobals "min" = some none)
  (z_range:PySem.W.nsIn K mainGlobals "range" = some none)
  (z_set:PySem.W.nsIn K mainGlobals "set" = some none)
  (z_sorted:PySem.W.nsIn K mainGlobals "sorted" = some none)
  (z_sum:PySem.W.nsIn K mainGlobals "sum" = some none)
  :∃fd:FuncData,(∀(s:Shared) (v:Value),BindsTo s fd ⟨[v],[]⟩ [("_law_script",v)])/\∀base:Heap,K.In base->base.Ns mainGlobals mg->FnOk l.prog w K mg base CX0 5 fa fd ["_law_script"] (spM K 1 zi1):=by
 have e:=hfa.symm.trans (PySem.W.mg_of X G a28)
 cases e
 have F0:=zcp (st:=zbh) l0 c0 k0
 have F1:=zcp (st:=za1) l1 c1 k1
 have F2:=zcp (st:=zck) l2 c2 k2
 have F3:=zcp (st:=zb6) l3 c3 k3
 have F4:=zcp (st:=zb8) l4 c4 k4
 have F5:=zcp (st:=zau) l5 c5 k5
 have F6:=zcp (st:=zca) l6 c6 k6
 have F7:=zcp (st:=zbi) l7 c7 k7
 have F8:=zcp (st:=zb7) l8 c8 k8
 have F9:=zcp (st:=zfs) l9 c9 k9
 have F10:=zcp (st:=zcz) l10 c10 k10
 have F11:=zcp (st:=zbr) l11 c11 k11
 have F12:=zcp (st:=zcd) l12 c12 k12
 have F13:=zcp (st:=zcc) l13 c13 k13
 have F14:=zcp (st:=zdl) l14 c14 k14
 have F15:=zcp (st:=zex) l15 c15 k15
 have F16:=zcp (st:=zfw) l16 c16 k16
 have F17:=zcp (st:=zc1) l17 c17 k17
 have F18:=zcp (st:=zc0) l18 c18 k18
 have F19:=zcp (st:=zei) l19 c19 k19
 have F20:=zcp (st:=zdm) l20 c20 k20
 have F21:=zcp (st:=zbs) l21 c21 k21
 have F22:=zcp (st:=zew) l22 c22 k22
 have F23:=zcp (st:=zcl) l23 c23 k23
 have F24:=zcp (st:=za3) l24 c24 k24
 have F25:=zcp (st:=zbo) l25 c25 k25
 have F26:=zcp (st:=zcb) l26 c26 k26
 have F27:=zcp (st:=zf0) l27 c27 k27
 have F28:=zcp (st:=zhm) l28 c28 k28
 have b0:=F0.binds (ps:=["self","first"]) fun _ _ _ _ _ _ us hl=>by obtain⟨_,_,rfl⟩:=us2 hl;rfl
 have b1:=F1.binds (ps:=["self","key"]) fun _ _ _ _ _ _ us hl=>by obtain⟨_,_,rfl⟩:=us2 hl;rfl
 have b2:=F2.binds (ps:=["rules","signs","top"]) fun _ _ _ _ _ _ us hl=>by obtain⟨_,_,_,rfl⟩:=us3 hl;rfl
 have b3:=F3.binds (ps:=["numbers","word","target"]) fun _ _ _ _ _ _ us hl=>by obtain⟨_,_,_,rfl⟩:=us3 hl;rfl
 have b4:=F4.binds (ps:=["numbers","target"]) fun _ _ _ _ _ _ us hl=>by obtain⟨_,_,rfl⟩:=us2 hl;rfl
 have b5:=F5.binds (ps:=["state","signs","move"]) fun _ _ _ _ _ _ us hl=>by obtain⟨_,_,_,rfl⟩:=us3 hl;rfl
 have b6:=F6.binds (ps:=["walks"]) fun _ _ _ _ _ _ us hl=>by obtain⟨_,rfl⟩:=us1 hl;rfl
 have b7:=F7.binds (ps:=["numbers","word","target"]) fun _ _ _ _ _ _ us hl=>by obtain⟨_,_,_,rfl⟩:=us3 hl;rfl
 have b8:=F8.binds (ps:=["walks"]) fun _ _ _ _ _ _ us hl=>by obtain⟨_,rfl⟩:=us1 hl;rfl
 have b9:=F9.binds (ps:=["_law_script","_law_k"]) fun _ _ _ _ _ _ us hl=>by obtain⟨_,_,rfl⟩:=us2 hl;rfl
 have b10:=F10.binds (ps:=["_law_script"]) fun _ _ _ _ _ _ us hl=>by obtain⟨_,rfl⟩:=us1 hl;rfl
 have b11:=F11.binds (ps:=["_law_script"]) fun _ _ _ _ _ _ us hl=>by obtain⟨_,rfl⟩:=us1 hl;rfl
 have b12:=F12.binds (ps:=["_law_cell_here","_law_many","_law_signs"]) fun _ _ _ _ _ _ us hl=>by obtain⟨_,_,_,rfl⟩:=us3 hl;rfl
 have b13:=F13.binds (ps:=["_law_cell_here","_law_signs"]) fun _ _ _ _ _ _ us hl=>by obtain⟨_,_,rfl⟩:=us2 hl;rfl
 have b14:=F14.binds (ps:=["_law_script","_law_signs","_law_states","_law_at"]) fun _ _ _ _ _ _ us hl=>by obtain⟨_,_,_,_,rfl⟩:=us4 hl;rfl
 have b15:=F15.binds (ps:=["_law_made"]) fun _ _ _ _ _ _ us hl=>by obtain⟨_,rfl⟩:=us1 hl;rfl
 have b16:=F16.binds (ps:=["_law_table_here","_law_stand"]) fun _ _ _ _ _ _ us hl=>by obtain⟨_,_,rfl⟩:=us2 hl;rfl
 have b17:=F17.binds (ps:=["_law_stand","_law_k"]) fun _ _ _ _ _ _ us hl=>by obtain⟨_,_,rfl⟩:=us2 hl;rfl
 have b18:=F18.binds (ps:=["_law_rules","_law_stand"]) fun _ _ _ _ _ _ us hl=>by obtain⟨_,_,rfl⟩:=us2 hl;rfl
 have b19:=F19.binds (ps:=["_law_script","_law_signs"]) fun _ _ _ _ _ _ us hl=>by obtain⟨_,_,rfl⟩:=us2 hl;rfl
 have b20:=F20.binds (ps:=["_law_script","_law_more","_law_row"]) fun _ _ _ _ _ _ us hl=>by obtain⟨_,_,_,rfl⟩:=us3 hl;rfl
 have b21:=F21.binds (ps:=["_law_script","_law_signs","_law_more","_law_states"]) fun _ _ _ _ _ _ us hl=>by obtain⟨_,_,_,_,rfl⟩:=us4 hl;rfl
 have b22:=F22.binds (ps:=["_law_state","_law_many"]) fun _ _ _ _ _ _ us hl=>by obtain⟨_,_,rfl⟩:=us2 hl;rfl
 have b23:=F23.binds (ps:=["_law_state","_law_many"]) fun _ _ _ _ _ _ us hl=>by obtain⟨_,_,rfl⟩:=us2 hl;rfl
 have b24:=F24.binds (ps:=["_law_state"]) fun _ _ _ _ _ _ us hl=>by obtain⟨_,rfl⟩:=us1 hl;rfl
 have b25:=F25.binds (ps:=["_law_cell_here","_law_most"]) fun _ _ _ _ _ _ us hl=>by obtain⟨_,_,rfl⟩:=us2 hl;rfl
 have b26:=F26.binds (ps:=["_law_script"]) fun _ _ _ _ _ _ us hl=>by obtain⟨_,rfl⟩:=us1 hl;rfl
 have b27:=F27.binds (ps:=["_law_table_here","_law_rules","_law_stand","_law_k","_law_top"]) fun _ _ _ _ _ _ us hl=>by obtain⟨_,_,_,_,_,rfl⟩:=us5 hl;rfl
 have b28:=F28.binds (ps:=["_law_script"]) fun _ _ _ _ _ _ us hl=>by obtain⟨_,rfl⟩:=us1 hl;rfl
 exact⟨_,fun s v=>.of_eq rfl,fun base _ _=>ok_p_law (Ad:=⟨_,_,_,_,_,_,_,_,_,_,_,_,_,_,_,_,_,_,_,_,_,_,_,_,_,_,_,_,_,_,_,_,_,_,_,_,_,_,_,_,_,_,_,_,_,_,_,_,_,_,_,_,_,_,_,_,_,_,_⟩) ⟨F0,⟨ck_Numbers,a0,i0,ce_Numbers⟩,b0,F1,⟨a1,i1,k1⟩,b1,F2,PySem.W.mg_of X G a2,b2,F3,PySem.W.mg_of X G a3,b3,F4,PySem.W.mg_of X G a4,b4,F5,PySem.W.mg_of X G a5,b5,F6,PySem.W.mg_of X G a6,b6,F7,PySem.W.mg_of X G a7,b7,F8,PySem.W.mg_of X G a8,b8,F9,PySem.W.mg_of X G a9,b9,F10,PySem.W.mg_of X G a10,b10,F11,PySem.W.mg_of X G a11,b11,F12,PySem.W.mg_of X G a12,b12,F13,PySem.W.mg_of X G a13,b13,F14,PySem.W.mg_of X G a14,b14,F15,PySem.W.mg_of X G a15,b15,F16,PySem.W.mg_of X G a16,b16,F17,PySem.W.mg_of X G a17,b17,F18,PySem.W.mg_of X G a18,b18,F19,PySem.W.mg_of X G a19,b19,F20,PySem.W.mg_of X G a20,b20,F21,PySem.W.mg_of X G a21,b21,F22,PySem.W.mg_of X G a22,b22,F23,PySem.W.mg_of X G a23,b23,F24,PySem.W.mg_of X G a24,b24,F25,PySem.W.mg_of X G a25,b25,F26,PySem.W.mg_of X G a26,b26,F27,PySem.W.mg_of X G a27,b27,F28,PySem.W.mg_of X G a28,b28,cz_Numbers,PySem.W.mg_of X G cz_Numbers,⟨cp_Numbers,ch_Numbers,co_Numbers,cs_Numbers⟩,cn_Numbers_first,cn_Numbers_given,⟨_,PySem.W.mg_of X G v_BLANK⟩,PySem.W.mg_none_of X G z_int,PySem.W.mg_none_of X G z_isinstance,PySem.W.mg_none_of X G z_len,PySem.W.mg_none_of X G z_list,PySem.W.mg_none_of X G z_max,PySem.W.mg_none_of X G z_min,PySem.W.mg_none_of X G z_range,PySem.W.mg_none_of X G z_set,PySem.W.mg_none_of X G z_sorted,PySem.W.mg_none_of X G z_sum⟩⟩
end Law
set_option maxHeartbeats 0
namespace M
open L2
theorem zgi {a b:List Nat}:(strOf a=strOf b)↔a=b:=by
 constructor
 ·intro h
  have:=congrArg (fun s=>s.cps.toList) h
  simpa[strOf] using this
 ·rintro rfl;rfl
noncomputable def wf (st:Stor):Prop:=∀o∈st,underO st.length o
theorem zg7 {st:Stor}{n:Nat}{o:MO}(h:wf st)(ho:underO st.length o):∀q∈st.set n o,underO st.length q:=by
 intro q hq
 rcases List.mem_or_eq_of_mem_set hq with hq | rfl
 ·exact h q hq
 ·exact ho
mutual
theorem ze8 {n m:Nat}(h:n<=m):∀(d:D),under n d->under m d
 | .non,_=>by simp
 | .bl _,_=>by simp
 | .int _,_=>by simp
 | .str _,_=>by simp
 | .tup ds,u=>by rw[zhz]at *;exact zfl h ds u
 | .loc k,u=>by rw[zh7]at *;omega
theorem zfl {n m:Nat}(h:n<=m):∀(ds:List D),unders n ds->unders m ds
 | [],_=>by simp
 | d::ds,u=>by rw[zf1]at *;exact⟨ze8 h d u.1,zfl h ds u.2⟩
end
theorem zju {n m:Nat}(h:n<=m)(o:MO)(u:underO n o):underO m o:=by
 cases o with
 | lst ds=>exact zfl h ds u
 | frz ds=>exact zfl h ds u
 | dic kvs=>exact fun p hp=>ze8 h _ (u p hp)
 | dkc kvs=>exact fun p hp=>ze8 h _ (u p hp)
 | dkf kvs=>exact fun p hp=>ze8 h _ (u p hp)
 | dtf kvs=>exact fun p hp=>ze8 h _ (u p hp)
 | ins c fs=>exact fun p hp=>ze8 h _ (u p hp)
 | tab x=>trivial
 | clo j l ds=>exact zfl h ds u
 | hid=>trivial
 | exc c d=>exact ze8 h _ u
theorem zko {st g:Stor}(h:wf st)(hg:∀o∈g,underO (st++g).length o):wf (st++g):=by
 intro o ho
 rcases List.mem_append.mp ho with ho | ho
 ·exact zju (by simp) o (h o ho)
 ·exact hg o ho
end M
namespace Law
open L2 M
theorem set_id {st:Stor}{n:Nat}{o:MO}(h:st[n]? = some o):st.set n o=st:=List.ext_getElem? fun i=>by
 by_cases e:n=i
 ·subst e;rw[List.getElem?_set_self (List.getElem?_eq_some_iff.mp h).1,h]
 ·rw[List.getElem?_set_ne e]
theorem zl8 (x y:D):List.lookup ("first":PySem.Str) [(("first":PySem.Str),x),(("given":PySem.Str),y)]=some x:=by
 rw[List.lookup];simp
theorem zk9 (x y:D):List.lookup ("given":PySem.Str) [(("first":PySem.Str),x),(("given":PySem.Str),y)]=some y:=by
 have:(("given":PySem.Str)==("first":PySem.Str))=false:=by decide
 rw[List.lookup,this,List.lookup];simp
theorem zkm (x y:D):List.lookup ("number":PySem.Str) [(("first":PySem.Str),x),(("given":PySem.Str),y)]=none:=by
 have h1:(("number":PySem.Str)==("first":PySem.Str))=false:=by decide
 have h2:(("number":PySem.Str)==("given":PySem.Str))=false:=by decide
 simp only[List.lookup,h1,h2]
theorem set_set {st:Stor}{n:Nat}{o q:MO}:(st.set n o).set n q=st.set n q:=by simp
theorem gcM_asis {st st':Stor}{d:D}{o:MO}(hm:o∈st'.take st.length)(h:¬ underO st.length o):gcM st (.ok d st')=.ok d st':=by
 unfold gcM
 dsimp only
 rw[if_neg (fun z=>h (z.2 o hm))]
noncomputable def insN (n f:Nat):MO:=.ins "Numbers" [("first",.int (f:Nat)),("given",.loc (n+1))]
theorem init_ok (st:Stor)(f:Nat):zbj [.loc st.length,.int (f:Nat)] (st++[.ins "Numbers" []])=.ok .non (st++[insN st.length f,.dic []]):=by
 have hu:gcM (st++[.ins "Numbers" []]) (.ok .non (st++[insN st.length f,.dic []]))=.ok .non (st++[insN st.length f,.dic []]):=gcM_asis (o:=insN st.length f) (by
  rw[show st++[insN st.length f,.dic []]=(st++[insN st.length f])++[.dic []] by simp,List.take_left' (by simp)]
  simp) (by
  intro h
  have:=h ("given",.loc (st.length+1)) (by simp)
  simp at this)
 have n1:¬ (("first":PySem.Str) = "given"):=by decide
 unfold zbj gcFM fnM zby setFldS insN at *
 rw[show startM 2 [D.loc st.length,.int (f:Nat)]=[some (.loc st.length),some (.int (f:Nat))] from rfl]
 simp[dicE,putFD,n1]
 exact hu
theorem zht (kvs:List (List Key×D))(k k2:List Key)(d:D):valM (putM kvs k d) k2=if k=k2 then some d else valM kvs k2:=by
 unfold putM
 by_cases h:(kvs.any fun kv=>decide (kv.1=k))=true
 ·rw[if_pos h]
  induction kvs with
  | nil=>simp at h
  | cons p r ih =>
   rw[List.map_cons,zea,zea]
   by_cases e:p.1=k
   ·rw[if_pos e]
    simp only
    by_cases e2:k=k2
    ·rw[if_pos (e.trans e2),if_pos e2]
    ·rw[if_neg (fun z=>e2 (e.symm.trans z)),if_neg e2,if_neg (fun z=>e2 (e.symm.trans z))]
     by_cases h2:(r.any fun kv=>decide (kv.1=k))=true
     ·rw[ih h2,if_neg e2]
     ·congr 1
      have:r.map (fun kv=>if kv.1=k then (kv.1,d) else kv)=r:=by
       conv=>rhs;rw[<-List.map_id r]
       refine List.map_congr_left fun q hq=>?_
       rw[if_neg];rfl
       intro z
       exact h2 (List.any_eq_true.mpr ⟨q,hq,by simpa using z⟩)
      rw[this]
   ·rw[if_neg e]
    have h2:(r.any fun kv=>decide (kv.1=k))=true:=by simpa[e] using h
    rw[ih h2]
    by_cases e2:k=k2
    ·rw[if_pos e2,if_pos e2,if_neg (fun z=>e (z.trans e2.symm))]
    ·rw[if_neg e2,if_neg e2]
 ·rw[if_neg h]
  induction kvs with
  | nil=>rw[List.nil_append,zea]
  | cons p r ih =>
   rw[List.cons_append,zea,zea]
   have h1:¬ p.1=k:=fun z=>h (by simp[z])
   have h2:¬ (r.any fun kv=>decide (kv.1=k))=true:=fun z=>h (by rw[List.any_cons,z];simp)
   rw[ih h2]
   by_cases e2:k=k2
   ·rw[if_pos e2,if_pos e2,if_neg (fun z=>h1 (z.trans e2.symm))]
   ·rw[if_neg e2,if_neg e2]
theorem putM_mem {kvs:List (List Key×D)}{k:List Key}{d:D}{q:List Key×D}(h:q∈putM kvs k d):q∈kvs\/q.2=d:=by
 unfold putM at h
 split at h
 ·obtain⟨p,hp,rfl⟩:=List.mem_map.mp h
  by_cases e:p.1=k
  ·rw[if_pos e];exact .inr rfl
  ·rw[if_neg e];exact .inl hp
 ·rcases List.mem_append.mp h with h | h
  ·exact .inl h
  ·exact .inr (by rw[List.mem_singleton.mp h])
theorem zhg {st:Stor}{n:Nat}{ds:List D}(h:itemsAt st n=some ds):lenW [.loc n] st=.ok (.int ds.length) st:=by
 have h2:=r_len_loc st n ds h
 unfold itemsAt at h
 unfold lenW
 split at h
 ·rename_i q;simp only[q];exact h2
 ·rename_i q;simp only[q];exact h2
 ·cases h
end Law
set_option maxHeartbeats 0
namespace M
open L2
structure Rl where
 s:Nat
 x:Nat
 w:List Nat
 g:Nat
inductive TK where
 | gr (w:List Nat) (t:Nat) | bk (t:Nat)
 deriving DecidableEq
inductive TS where
 | tp (n:Nat) | tk (k:TK)
 deriving DecidableEq
open TK TS
structure TQ where
 s:TS
 x:Nat
 w:Nat
 mv:Bool
 g:TS
noncomputable def srcR (r:Rl):TQ:=⟨tp r.s,r.x,95,true,tk (gr r.w r.g)⟩
noncomputable def pasR (k:TK)(mv:Bool)(c:Nat):TQ:=⟨tk k,c,c,mv,tk k⟩
noncomputable def groR (w:List Nat)(t:Nat):TQ:=match w with
 | []=>⟨tk (gr [] t),95,95,false,tk (bk t)⟩
 | c::r=>⟨tk (gr (c::r) t),95,c,true,tk (gr r t)⟩
noncomputable def bakR (t:Nat):TQ:=⟨tk (bk t),95,95,true,tp t⟩
inductive Gd (RL:List Rl) (signs:List Nat):TQ->Prop where
 | src (r:Rl) (h:r∈RL):Gd RL signs (srcR r)
 | pas (w:List Nat) (t c:Nat) (h:c∈signs):Gd RL signs (pasR (gr w t) true c)
 | gro (w:List Nat) (t:Nat):Gd RL signs (groR w t)
 | pab (t c:Nat) (h:c∈signs):Gd RL signs (pasR (bk t) false c)
 | bak (t:Nat):Gd RL signs (bakR t)
theorem Gd.one {RL:List Rl}{signs:List Nat}(hs:95∉signs)(hR:∀r∈RL,∀r'∈RL,r.s=r'.s->r.x=r'.x->r.w=r'.w/\r.g=r'.g){p q:TQ}(hp:Gd RL signs p)(hq:Gd RL signs q)(e1:p.s=q.s)(e2:p.x=q.x):p=q:=by
 have ng:∀(w:List Nat) (t:Nat),(groR w t).s=tk (gr w t)/\(groR w t).x=95:=fun w t=>by cases w<;>exact⟨rfl,rfl⟩
 cases hp with
 | src r h =>
  cases hq with
  | src r' h' =>
   obtain⟨a,b⟩:=hR r h r' h' (TS.tp.inj e1) e2
   simp only[srcR,pasR,bakR]at e1 e2
   simp[srcR,a,b,e1,e2]
  | pas w t c _=>cases e1
  | gro w t=>rw[(ng w t).1]at e1;cases e1
  | pab t c _=>cases e1
  | bak t=>cases e1
 | pas w t c h =>
  cases hq with
  | src r' h'=>cases e1
  | pas w' t' c' _=>cases e1;cases e2;rfl
  | gro w' t'=>rw[(ng w' t').2]at e2;cases e2;exact absurd h hs
  | pab t c _=>cases e1
  | bak t=>cases e1
 | gro w t =>
  rw[(ng w t).1]at e1
  rw[(ng w t).2]at e2
  cases hq with
  | src r' h'=>cases e1
  | pas w' t' c' h'=>simp only[pasR]at e2;subst e2;exact absurd h' hs
  | gro w' t'=>rw[(ng w' t').1]at e1;cases e1;rfl
  | pab t c _=>cases e1
  | bak t=>cases e1
 | pab t c h =>
  cases hq with
  | src r' h'=>cases e1
  | pas w' t' c' h'=>cases e1
  | gro w' t'=>rw[(ng w' t').1]at e1;cases e1
  | pab t' c' _=>cases e1;cases e2;rfl
  | bak t'=>simp only[pasR,bakR]at e2;subst e2;exact absurd h hs
 | bak t =>
  cases hq with
  | src r' h'=>cases e1
  | pas w' t' c' h'=>cases e1
  | gro w' t'=>rw[(ng w' t').1]at e1;cases e1
  | pab t' c' h'=>simp only[pasR,bakR]at e2;subst e2;exact absurd h' hs
  | bak t'=>cases e1;rfl
noncomputable def keyTK:TK->List Key
 | gr w t=>[.inr (strOf [103,114,111,119]),.inr (strOf w),.inl (t:Nat)]
 | bk t=>[.inr (strOf [98,97,99,107]),.inl (t:Nat)]
noncomputable def keyTD:TK->List D
 | gr w t=>[.str [103,114,111,119],.str w,.int (t:Nat)]
 | bk t=>[.str [98,97,99,107],.int (t:Nat)]
theorem zmr (k:TK):keysOf (keyTD k)=some (keyTK k):=by cases k<;>rfl
theorem zkd {a b:TK}(h:keyTK a=keyTK b):a=b:=by
 cases a<;>cases b<;>simp[keyTK,zgi]at h
 ·obtain⟨h1,h2⟩:=h;rw[h1,show _=_ from Int.ofNat.inj h2]
 ·rw[show _=_ from Int.ofNat.inj h]
noncomputable def posT (k:TK):List TK->Nat
 | []=>0
 | j::ks=>if j=k then 0 else posT k ks+1
theorem posT_app {k:TK}{ks:List TK}(h:k∈ks)(l:List TK):posT k (ks++l)=posT k ks:=by
 induction ks with
 | nil=>exact nomatch h
 | cons j ks ih =>
  rw[List.cons_append,posT,posT]
  by_cases e:j=k
  ·rw[if_pos e,if_pos e]
  ·rw[if_neg e,if_neg e,ih (by rcases List.mem_cons.mp h with z | z;exact absurd z.symm e;exact z)]
theorem zlr {k:TK}{ks:List TK}(h:k∈ks):ks[posT k ks]? = some k:=by
 induction ks with
 | nil=>exact nomatch h
 | cons j ks ih =>
  rw[posT]
  by_cases e:j=k
  ·rw[if_pos e,e];rfl
  ·rw[if_neg e,List.getElem?_cons_succ]
   exact ih (by rcases List.mem_cons.mp h with z | z;exact absurd z.symm e;exact z)
noncomputable def kvsT:Nat->List TK->List (List Key×D)
 | _,[]=>[]
 | f,k::ks=>(keyTK k,.int (f:Nat))::kvsT (f+1) ks
theorem zi7:∀(f:Nat) (ks:List TK),(kvsT f ks).length=ks.length
 | _,[]=>rfl
 | f,k::ks=>by rw[kvsT,List.length_cons,zi7,List.length_cons]
theorem zj3:∀(f:Nat) (ks:List TK) (k:TK),kvsT f (ks++[k])=kvsT f ks++[(keyTK k,.int ((f+ks.length:Nat):Int))]
 | f,[],k=>by simp[kvsT]
 | f,j::ks,k=>by
  rw[List.cons_append,kvsT,zj3 (f+1) ks k,kvsT]
  simp only[List.cons_append,List.length_cons]
  congr 6;omega
theorem valM_T:∀(f:Nat) (ks:List TK) (k:TK),valM (kvsT f ks) (keyTK k)=if k∈ks then some (.int ((f+posT k ks:Nat):Int)) else none
 | f,[],k=>by simp[kvsT]
 | f,j::ks,k=>by
  rw[kvsT,zea,valM_T (f+1) ks k]
  by_cases h:j=k
  ·subst h;simp[posT]
  ·have hk:¬ keyTK j=keyTK k:=fun z=>h (zkd z)
   rw[if_neg hk]
   by_cases hm:k∈ks
   ·rw[if_pos hm,if_pos (by simp[hm]),posT,if_neg h]
    congr 3;omega
   ·rw[if_neg hm,if_neg (by simp[hm];exact fun z=>h z.symm)]
theorem any_T (f:Nat)(ks:List TK)(k:TK)(h:k∉ks):((kvsT f ks).any fun kv=>decide (kv.1=keyTK k))=false:=by
 induction ks generalizing f with
 | nil=>rfl
 | cons j ks ih =>
  rw[kvsT,List.any_cons,ih (f+1) (fun z=>h (by simp[z]))]
  have:¬ keyTK j=keyTK k:=fun z=>h (by simp[zkd z])
  simp[this]
noncomputable def regT (ks:List TK)(k:TK):List TK:=if k∈ks then ks else ks++[k]
theorem ze5 (ks:List TK)(k:TK):k∈regT ks k:=by unfold regT;split;assumption;simp
theorem zfx (ks:List TK)(k:TK):∃l,regT ks k=ks++l:=by unfold regT;split;exact⟨[],by simp⟩;exact⟨[k],rfl⟩
theorem zfv (ks:List TK)(k:TK):(regT ks k).length<=ks.length+1:=by unfold regT;split<;>simp
noncomputable def numT (f:Nat)(ks:List TK):TS->Nat
 | tp n=>n
 | tk k=>f+posT k ks
noncomputable def inT (ks:List TK):TS->Prop
 | tp _=>True
 | tk k=>k∈ks
theorem zm5 {ks:List TK}{s:TS}(l:List TK)(h:inT ks s):inT (ks++l) s:=by
 cases s with
 | tp n=>trivial
 | tk k=>exact List.mem_append_left _ h
theorem zgg {f:Nat}{ks:List TK}{s:TS}(l:List TK)(h:inT ks s):numT f (ks++l) s=numT f ks s:=by
 cases s with
 | tp n=>rfl
 | tk k=>show f+posT k (ks++l)=f+posT k ks;rw[posT_app h]
theorem numT_inj {f:Nat}{ks:List TK}{s u:TS}(h1:inT ks s)(h2:inT ks u)(hp:∀n,s=tp n->n<f)(hq:∀n,u=tp n->n<f)(e:numT f ks s=numT f ks u):s=u:=by
 cases s with
 | tp n =>
  cases u with
  | tp m=>exact congrArg tp e
  | tk k=>have:=hp n rfl;simp only[numT]at e;omega
 | tk j =>
  cases u with
  | tp m=>have:=hq m rfl;simp only[numT]at e;omega
  | tk k =>
   simp only[numT]at e
   have e2:posT j ks=posT k ks:=by omega
   have h1:j∈ks:=h1
   have h2:k∈ks:=h2
   have a:=zlr h1
   have b:=zlr h2
   rw[e2,b]at a
   cases a;rfl
noncomputable def mvC (b:Bool):Nat:=if b then 114 else 108
noncomputable def encT (f:Nat)(ks:List TK)(r:TQ):D:=.tup [.int (numT f ks r.s:Nat),.str [r.x],.str [r.w],.str [mvC r.mv],.int (numT f ks r.g:Nat)]
noncomputable def inRT (ks:List TK)(r:TQ):Prop:=inT ks r.s/\inT ks r.g
theorem zge {ks:List TK}{r:TQ}(l:List TK)(h:inRT ks r):inRT (ks++l) r:=⟨zm5 l h.1,zm5 l h.2⟩
theorem encT_mono {f:Nat}{ks:List TK}{r:TQ}(l:List TK)(h:inRT ks r):encT f (ks++l) r=encT f ks r:=by
 unfold encT;rw[zgg l h.1,zgg l h.2]
theorem zfk {f:Nat}{ks:List TK}{rs:List TQ}(l:List TK)(h:∀r∈rs,inRT ks r):rs.map (encT f (ks++l))=rs.map (encT f ks):=List.map_congr_left fun r hr=>encT_mono l (h r hr)
theorem zhh (n f:Nat)(ks:List TK):underO n (.dic (kvsT f ks)):=by
 induction ks generalizing f with
 | nil=>intro p hp;exact nomatch hp
 | cons k ks ih =>
  intro p hp
  rcases List.mem_cons.mp hp with rfl | hp
  ·simp
  ·exact ih (f+1) p hp
theorem zgv (n f:Nat)(ks:List TK)(r:TQ):under n (encT f ks r):=by simp[encT]
theorem zcm (n f:Nat)(ks:List TK)(rs:List TQ):unders n (rs.map (encT f ks)):=by
 induction rs with
 | nil=>simp
 | cons r rs ih=>simp[ih,zgv]
end M
namespace Law
open L2 M TK TS
structure NumT (st:Stor)(a b f:Nat)(ks:List TK):Prop where
 ins:st[a]? = some (.ins "Numbers" [("first",.int (f:Nat)),("given",.loc b)])
 dic:st[b]? = some (.dic (kvsT f ks))
 ne:a≠b
 wf:M.wf st
theorem NumT.set {st:Stor}{a b f:Nat}{ks ks':List TK}(h:NumT st a b f ks):NumT (st.set b (.dic (kvsT f ks'))) a b f ks':=by
 have hb:=(List.getElem?_eq_some_iff.mp h.dic).1
 refine⟨by rw[List.getElem?_set_ne (Ne.symm h.ne)];exact h.ins,List.getElem?_set_self hb,h.ne,?_⟩
 intro o ho
 rw[List.length_set]
 exact zg7 h.wf (zhh _ _ _) o ho
theorem zij {st:Stor}{a b f:Nat}{ks:List TK}(h:NumT st a b f ks)(m:ME)(env:MEnv)(hm:m env st=.ok (.loc a) st):fldE "Numbers" "given" m env st=.ok (.loc b) st:=by
 unfold fldE
 rw[hm,R.bind_ok]
 simp only[h.ins]
 simp only[if_true,zk9]
theorem zk2 {st:Stor}{a b f:Nat}{ks:List TK}(h:NumT st a b f ks)(m:ME)(env:MEnv)(hm:m env st=.ok (.loc a) st):fldE "Numbers" "first" m env st=.ok (.int (f:Nat)) st:=by
 unfold fldE
 rw[hm,R.bind_ok]
 simp only[h.ins]
 simp only[if_true,zl8]
theorem zk6 {st:Stor}{a b f:Nat}{ks:List TK}(h:NumT st a b f ks)(hl:ks.length<100000)(k:TK) :
  za0 [.loc a,.tup (keyTD k)] st=.ok (.int (numT f (regT ks k) (tk k):Nat)) (st.set b (.dic (kvsT f (regT ks k)))):=by
 have hb:=(List.getElem?_eq_some_iff.mp h.dic).1
 have v0:=valM_T f ks k
 have g1:∀(x:Option D),fldE "Numbers" "given" (vr 0) [some (.loc a),x] st=.ok (.loc b) st:=fun x=>zij h _ _ rfl
 have g2:∀(x:Option D),fldE "Numbers" "first" (vr 0) [some (.loc a),x] st=.ok (.int (f:Nat)) st:=fun x=>zk2 h _ _ rfl
 have i1:inDV true (.tup (keyTD k)) (.loc b) st=.ok (.bl (!decide (k∈ks))) st:=by
  simp only[inDV,h.dic,zmr,v0]
  by_cases c:k∈ks<;>simp[c]
 have h':NumT (st.set b (.dic (kvsT f (regT ks k)))) a b f (regT ks k):=h.set
 have g3:∀(x:Option D),fldE "Numbers" "given" (vr 0) [some (.loc a),x] (st.set b (.dic (kvsT f (regT ks k))))=.ok (.loc b) (st.set b (.dic (kvsT f (regT ks k)))):=fun x=>zij h' _ _ rfl
 have ix:ixD (.loc b) (.tup (keyTD k)) (st.set b (.dic (kvsT f (regT ks k))))=.ok (.int (numT f (regT ks k) (tk k):Nat)) (st.set b (.dic (kvsT f (regT ks k)))):=by
  simp only[ixD,h'.dic,zmr,valM_T]
  rw[if_pos (ze5 ks k)];rfl
 have hu:gcM st (.ok (.int (numT f (regT ks k) (tk k):Nat)) (st.set b (.dic (kvsT f (regT ks k)))))=.ok (.int (numT f (regT ks k) (tk k):Nat)) (st.set b (.dic (kvsT f (regT ks k)))):=by
  have:=zf3 (st:=st) (st':=st.set b (.dic (kvsT f (regT ks k)))) (g:=[]) (d:=.int (numT f (regT ks k) (tk k):Nat)) (by simp) (zg7 h.wf (zhh _ _ _)) (by simp)
  simpa using this
 unfold za0 gcFM fnM zaz
 rw[show startM 2 [D.loc a,.tup (keyTD k)]=[some (.loc a),some (.tup (keyTD k))] from rfl]
 generalize hG:fldE "Numbers" "given" (vr 0)=G at *
 generalize hF:fldE "Numbers" "first" (vr 0)=FF at *
 by_cases c:k∈ks
 ·have er:regT ks k=ks:=if_pos c
  rw[er]at hu ix ⊢
  rw[set_id h.dic]at hu ix ⊢
  rw[decide_eq_true c]at i1
  generalize keyTD k=KT at *
  generalize ((numT f ks (tk k):Nat):Int)=N at *
  simp[g1,i1,ix]
  exact hu
 ·have er:regT ks k=ks++[k]:=if_neg c
  rw[decide_eq_false c]at i1
  have ln:lenW [.loc b] st=.ok (.int (ks.length:Nat)) st:=by simp only[lenW,h.dic,zi7]
  have e1:((f:Nat):Int)+((ks.length:Nat):Int)=((f+ks.length:Nat):Int):=by omega
  have sd:setDV (.loc b) (.tup (keyTD k)) (.int ((f+ks.length:Nat):Int)) st=.ok () (st.set b (.dic (kvsT f (regT ks k)))):=by
   simp only[setDV,h.dic,zmr]
   rw[if_pos (by rw[zi7];omega),er,zj3]
   unfold putM
   rw[any_T f ks k c,if_neg (by simp)]
  generalize st.set b (.dic (kvsT f (regT ks k)))=Z at *
  generalize keyTD k=KT at *
  generalize ((numT f (regT ks k) (tk k):Nat):Int)=N at *
  generalize ((f+ks.length:Nat):Int)=FL at *
  simp[g1,g2,i1,ln,e1,sd,g3,ix]
  exact hu
theorem zmy {st:Stor}{a b f:Nat}{ks:List TK}(h:NumT st a b f ks)(hl:ks.length<100000)(k:TK)(mo:ME)(mA:MA)(env:MEnv)(h1:mo env st=.ok (.loc a) st)(h2:mA env st=.ok [.tup (keyTD k)] st) :
  methI "Numbers" "number" za0 mo mA env st=.ok (.int (numT f (regT ks k) (tk k):Nat)) (st.set b (.dic (kvsT f (regT ks k)))):=by
 unfold methI
 rw[h1,R.bind_ok]
 simp only[h.ins]
 rw[if_pos ⟨trivial,zkm _ _⟩,h2,R.bind_ok]
 rw[zk6 h hl k]
 simp only[h.ins]
 rfl
theorem gcT {st:Stor}{a b f:Nat}{ks ks':List TK}(h:NumT st a b f ks)(v:Int):gcM st (.ok (.int v) (st.set b (.dic (kvsT f ks'))))=.ok (.int v) (st.set b (.dic (kvsT f ks'))):=by
 have:=zf3 (st:=st) (st':=st.set b (.dic (kvsT f ks'))) (g:=[]) (d:=.int v) (by simp) (zg7 h.wf (zhh _ _ _)) (by simp)
 simpa using this
theorem zem {st:Stor}{a b f:Nat}{ks:List TK}(h:NumT st a b f ks)(hl:ks.length<100000)(w:List Nat)(t:Nat) :
  zar [.loc a,.str w,.int (t:Nat)] st=.ok (.int (numT f (regT ks (gr w t)) (tk (gr w t)):Nat)) (st.set b (.dic (kvsT f (regT ks (gr w t))))):=by
 unfold zar gcFM fnM zbb
 rw[show startM 3 [D.loc a,.str w,.int (t:Nat)]=[some (.loc a),some (.str w),some (.int (t:Nat))] from rfl]
 have mt:=zmy h hl (gr w t) (vr 0) (consA (tupE (consA (ct (.str [103,114,111,119])) (consA (vr 1) (consA (vr 2) nilA)))) nilA) [some (.loc a),some (.str w),some (.int (t:Nat))] rfl (by simp[keyTD])
 have hu:=gcT h (ks':=regT ks (gr w t)) ((numT f (regT ks (gr w t)) (tk (gr w t)):Nat):Int)
 generalize methI _ _ _ _ _=MI at *
 generalize st.set b (.dic (kvsT f (regT ks (gr w t))))=Z at *
 generalize ((numT f (regT ks (gr w t)) (tk (gr w t)):Nat):Int)=N at *
 generalize ((t:Nat):Int)=T at *
 simp[mt]
 exact hu
theorem zf7 {st:Stor}{a b f:Nat}{ks:List TK}(h:NumT st a b f ks)(hl:ks.length<100000)(t:Nat) :
  zbc [.loc a,.int (t:Nat)] st=.ok (.int (numT f (regT ks (bk t)) (tk (bk t)):Nat)) (st.set b (.dic (kvsT f (regT ks (bk t))))):=by
 unfold zbc gcFM fnM zce
 rw[show startM 2 [D.loc a,.int (t:Nat)]=[some (.loc a),some (.int (t:Nat))] from rfl]
 have mt:=zmy h hl (bk t) (vr 0) (consA (tupE (consA (ct (.str [98,97,99,107])) (consA (vr 1) nilA))) nilA) [some (.loc a),some (.int (t:Nat))] rfl (by simp[keyTD])
 have hu:=gcT h (ks':=regT ks (bk t)) ((numT f (regT ks (bk t)) (tk (bk t)):Nat):Int)
 generalize methI _ _ _ _ _=MI at *
 generalize st.set b (.dic (kvsT f (regT ks (bk t))))=Z at *
 generalize ((numT f (regT ks (bk t)) (tk (bk t)):Nat):Int)=N at *
 generalize ((t:Nat):Int)=T at *
 simp[mt]
 exact hu
end Law
set_option maxHeartbeats 0
namespace M
open L2 TK TS
noncomputable def addP {α:Type}[DecidableEq α](ps:List α)(p:α):List α:=if p∈ps then ps else ps++[p]
theorem zje {α:Type}[DecidableEq α](ps:List α)(p:α):p∈addP ps p:=by unfold addP;split;assumption;simp
theorem zhu {α:Type}[DecidableEq α]{ps:List α}{q:α}(p:α)(h:q∈ps):q∈addP ps p:=by unfold addP;split;exact h;simp[h]
theorem zim {α:Type}[DecidableEq α]{ps:List α}{p q:α}(h:q∈addP ps p):q∈ps\/q=p:=by
 unfold addP at h
 split at h
 ·exact .inl h
 ·rcases List.mem_append.mp h with h | h
  ·exact .inl h
  ·exact .inr (List.mem_singleton.mp h)
theorem zf2 {α:Type}[DecidableEq α](ps:List α)(p:α):(addP ps p).length<=ps.length+1:=by unfold addP;split<;>simp
theorem zd3 {α:Type}[DecidableEq α]{ps:List α}(h:ps.Nodup)(p:α):(addP ps p).Nodup:=by
 unfold addP
 split
 ·exact h
 ·rename_i hn
  rw[List.nodup_append]
  exact⟨h,by simp,fun a ha b hb e=>by
   have hb:b=p:=by simpa using hb
   rw[hb]at e;exact hn (e ▸ ha)⟩
noncomputable def keyP (p:List Nat×Nat):List Key:=[.inr (strOf p.1),.inl (p.2:Nat)]
theorem keyP_inj {p q:List Nat×Nat}(h:keyP p=keyP q):p=q:=by
 obtain⟨a,b⟩:=p
 obtain⟨c,d⟩:=q
 simp only[keyP,List.cons.injEq,Sum.inr.injEq,Sum.inl.injEq,and_true,zgi]at h
 obtain⟨rfl,h2⟩:=h
 have:b=d:=Int.ofNat.inj h2
 rw[this]
noncomputable def kvsP (ps:List (List Nat×Nat)):List (List Key×D):=ps.map fun p=>(keyP p,.bl true)
theorem kvsP_len (ps:List (List Nat×Nat)):(kvsP ps).length=ps.length:=by simp[kvsP]
theorem kvsP_put (ps:List (List Nat×Nat))(p:List Nat×Nat):putM (kvsP ps) (keyP p) (.bl true)=kvsP (addP ps p):=by
 unfold putM addP
 by_cases h:p∈ps
 ·rw[if_pos h,if_pos (by simp only[kvsP,List.any_map,List.any_eq_true];exact⟨p,h,by simp⟩)]
  unfold kvsP
  rw[List.map_map]
  refine List.map_congr_left fun q _=>?_
  simp only[Function.comp]
  split<;>rfl
 ·rw[if_neg h,if_neg]
  ·simp[kvsP]
  ·simp only[kvsP,List.any_map,List.any_eq_true,Function.comp,decide_eq_true_eq,not_exists,not_and]
   intro q hq e
   exact h (keyP_inj e ▸ hq)
theorem keys_P (p:List Nat×Nat):keysOf [.str p.1,.int (p.2:Nat)]=some (keyP p):=rfl
theorem setDV_P {st:Stor}{n:Nat}{ps:List (List Nat×Nat)}(h:st[n]? = some (.dic (kvsP ps)))(hl:ps.length<1000000)(w:List Nat)(g:Nat):setDV (.loc n) (.tup [.str w,.int (g:Nat)]) (.bl true) st=.ok () (st.set n (.dic (kvsP (addP ps (w,g))))):=by
 have k:=keys_P (w,g)
 simp only at k
 simp only[setDV,h,k]
 rw[if_pos (by rw[kvsP_len];exact hl),kvsP_put]
theorem zfj (ps:List (List Nat×Nat)):(kvsP ps).map (fun p=>D.tup (p.1.map keyD))=ps.map fun p=>.tup [.str p.1,.int (p.2:Nat)]:=by
 unfold kvsP
 rw[List.map_map]
 refine List.map_congr_left fun p _=>?_
 simp[Function.comp,keyP,keyD]
theorem zd1 (n:Nat)(ps:List (List Nat×Nat)):∀p∈kvsP ps,under n p.2:=by
 intro p hp
 obtain⟨q,_,rfl⟩:=List.mem_map.mp hp
 simp
noncomputable def kvsG (ts:List Nat):List (Key×D):=ts.map fun t=>(.inl (t:Nat),.bl true)
theorem kvsG_put (ts:List Nat)(t:Nat):putN (kvsG ts) (.inl (t:Nat)) (.bl true)=kvsG (addP ts t):=by
 unfold putN addP
 by_cases h:t∈ts
 ·rw[if_pos h,if_pos (by simp only[kvsG,List.any_map,List.any_eq_true];exact⟨t,h,by simp⟩)]
  unfold kvsG
  rw[List.map_map]
  refine List.map_congr_left fun q _=>?_
  simp only[Function.comp]
  split<;>rfl
 ·rw[if_neg h,if_neg]
  ·simp[kvsG]
  ·simp only[kvsG,List.any_map,List.any_eq_true,Function.comp,decide_eq_true_eq,not_exists,not_and]
   intro q hq e
   have e2:((q:Nat):Int)=(t:Nat):=Sum.inl.inj e
   have e3:q=t:=by omega
   exact h (e3 ▸ hq)
theorem setK_G {st:Stor}{n:Nat}{ts:List Nat}(h:st[n]? = some (.dkc (kvsG ts)))(hl:ts.length<1000000)(t:Nat):setK (.loc n) (.int (t:Nat)) (.bl true) st=.ok () (st.set n (.dkc (kvsG (addP ts t)))):=by
 simp only[setK,h,keyOf_int]
 rw[if_pos (by simpa[kvsG] using hl),kvsG_put]
theorem zmp (ts:List Nat):(kvsG ts).map (fun p=>keyD p.1)=ts.map fun t=>D.int (t:Nat):=by
 unfold kvsG
 rw[List.map_map]
 rfl
theorem zin (n:Nat)(ts:List Nat):∀p∈kvsG ts,under n p.2:=by
 intro p hp
 obtain⟨q,_,rfl⟩:=List.mem_map.mp hp
 simp
end M
namespace Law
open L2 M TK TS
theorem zie (v:Int)(signs:List Nat)(mv:List Nat)(st:Stor)(hs:∀c∈signs,c<128)(hl:signs.length<=1000) :
  zat [.int v,.str signs,.str mv] st=.ok (.loc st.length) (st++[.lst (signs.map fun c=>.tup [.int v,.str [c],.str [c],.str mv,.int v])]):=by
 unfold zat gcF fnM za9
 rw[show startM 3 [D.int v,.str signs,.str mv]=[some (.int v),some (.str signs),some (.str mv)] from rfl]
 have cm:=zgf (capt:=[some 0,some 2,none]) (mi:=strI (vr 1)) (g:=nameG 2) (e:=tupE (consA (vr 0) (consA (vr 2) (consA (vr 2) (consA (vr 1) (consA (vr 0) nilA)))))) (env:=[some (.int v),some (.str signs),some (.str mv)]) (st:=st) (st1:=st) (items:=signs.map fun c=>D.str [c]) (gs:=[])
  (fun d=>.tup [.int v,d,d,.str mv,.int v]) (fun env=>∃x,env=[some (.int v),some (.str mv),x]) (by
   have:signs.all (fun c=>decide (c<128))=true:=by simpa using hs
   simp
   exact hs) ⟨none,rfl⟩ (by simp;omega) (fun _=>by simp) (by
   rintro d hd env' ys ⟨x,rfl⟩
   refine⟨[some (.int v),some (.str mv),some d],⟨_,rfl⟩,by simp,?_⟩
   simp)
 rw[List.map_map]at cm
 have g:=zi2 (st:=st) (o:=.lst (signs.map fun c=>.tup [.int v,.str [c],.str [c],.str mv,.int v])) (by
  rw[show underO st.length (MO.lst _)=unders st.length _ from rfl,zdb]
  intro d hd
  obtain⟨c,_,rfl⟩:=List.mem_map.mp hd
  simp)
 have e:((fun d=>D.tup [.int v,d,d,.str mv,.int v])∘fun c=>D.str [c])=fun c:Nat=>D.tup [.int v,.str [c],.str [c],.str mv,.int v]:=rfl
 rw[e]at cm
 generalize hC:compE _ _ _ _ _=C at *
 generalize (signs.map fun c=>D.tup [.int v,.str [c],.str [c],.str mv,.int v])=Z at *
 simp[cm]
 exact g
noncomputable def growK (ks:List TK)(w:List Nat)(t:Nat):List TK:=match w with
 | []=>regT (regT ks (gr [] t)) (bk t)
 | c::v=>regT (regT ks (gr (c::v) t)) (gr v t)
theorem zl9 {st:Stor}{a b f:Nat}{ks:List TK}(h:NumT st a b f ks)(hl:ks.length+2<100000)(w:List Nat)(t:Nat)(hw:w.length<=1000) :
  ∃ks' l,ks'=ks++l/\ks'=growK ks w t/\ks'.length<=ks.length+2/\inRT ks' (groR w t)/\zbk [.loc a,.str w,.int (t:Nat)] st=.ok (encT f ks' (groR w t)) (st.set b (.dic (kvsT f ks'))):=by
 have s1:=zem h (by omega) w t
 obtain⟨l1,e1⟩:=zfx ks (gr w t)
 have n1:=zfv ks (gr w t)
 have m1:=ze5 ks (gr w t)
 have h1:=h.set (ks':=regT ks (gr w t))
 generalize hk1:regT ks (gr w t)=ks1 at *
 unfold zbk gcFM fnM zb2
 rw[show startM 4 [D.loc a,.str w,.int (t:Nat)]=[some (.loc a),some (.str w),some (.int (t:Nat)),none] from rfl]
 cases w with
 | nil =>
  have s2:=zf7 h1 (by omega) t
  obtain⟨l2,e2⟩:=zfx ks1 (bk t)
  have n2:=zfv ks1 (bk t)
  have m2:=ze5 ks1 (bk t)
  generalize hk2:regT ks1 (bk t)=ks2 at *
  refine⟨ks2,l1++l2,by rw[e2,e1,List.append_assoc],by unfold growK;rw[<-hk2,<-hk1],by omega,⟨?_,m2⟩,?_⟩
  ·show gr [] t∈ks2
   rw[e2];exact List.mem_append_left _ m1
  ·have hv:numT f ks1 (tk (gr [] t))=numT f ks2 (tk (gr [] t)):=by rw[e2];exact (zgg l2 (s:=tk (gr [] t)) m1).symm
   rw[hv]at s1
   rw[set_set]at s2
   have g:=zf3 (st:=st) (st':=st.set b (.dic (kvsT f ks2))) (g:=[]) (d:=encT f ks2 (groR [] t)) (by simp) (zg7 h.wf (zhh _ _ _)) (zgv _ _ _ _)
   simp only[List.append_nil]at g
   have eD:encT f ks2 (groR [] t)=.tup [.int (numT f ks2 (tk (gr [] t)):Nat),.str [95],.str [95],.str [108],.int (numT f ks2 (tk (bk t)):Nat)]:=rfl
   rw[eD]at g ⊢
   generalize st.set b (.dic (kvsT f ks2))=Z2 at *
   generalize st.set b (.dic (kvsT f ks1))=Z1 at *
   generalize ((numT f ks2 (tk (gr [] t)):Nat):Int)=V1 at *
   generalize ((numT f ks2 (tk (bk t)):Nat):Int)=V2 at *
   generalize ((t:Nat):Int)=T at *
   simp[s1,s2]
   exact g
 | cons c r =>
  have s2:=zem h1 (by omega) r t
  obtain⟨l2,e2⟩:=zfx ks1 (gr r t)
  have n2:=zfv ks1 (gr r t)
  have m2:=ze5 ks1 (gr r t)
  generalize hk2:regT ks1 (gr r t)=ks2 at *
  refine⟨ks2,l1++l2,by rw[e2,e1,List.append_assoc],by unfold growK;rw[<-hk2,<-hk1],by omega,⟨?_,m2⟩,?_⟩
  ·show gr (c::r) t∈ks2
   rw[e2];exact List.mem_append_left _ m1
  ·have hv:numT f ks1 (tk (gr (c::r) t))=numT f ks2 (tk (gr (c::r) t)):=by rw[e2];exact (zgg l2 (s:=tk (gr (c::r) t)) m1).symm
   rw[hv]at s1
   rw[set_set]at s2
   have g:=zf3 (st:=st) (st':=st.set b (.dic (kvsT f ks2))) (g:=[]) (d:=encT f ks2 (groR (c::r) t)) (by simp) (zg7 h.wf (zhh _ _ _)) (zgv _ _ _ _)
   simp only[List.append_nil]at g
   have eD:encT f ks2 (groR (c::r) t)=.tup [.int (numT f ks2 (tk (gr (c::r) t)):Nat),.str [95],.str [c],.str [114],.int (numT f ks2 (tk (gr r t)):Nat)]:=rfl
   rw[eD]at g ⊢
   generalize st.set b (.dic (kvsT f ks2))=Z2 at *
   generalize st.set b (.dic (kvsT f ks1))=Z1 at *
   generalize ((numT f ks2 (tk (gr (c::r) t)):Nat):Int)=V1 at *
   generalize ((numT f ks2 (tk (gr r t)):Nat):Int)=V2 at *
   generalize ((t:Nat):Int)=T at *
   have x1:=ix_hd c r Z1 (by omega)
   have x2:=sl_tl (c::r) Z1 (by omega)
   rw[List.tail_cons]at x2
   simp[s1,x1,x2,s2]
   exact g
end Law
set_option maxHeartbeats 0
namespace Law
open L2 M TK TS
theorem zfr (w:List Nat)(k:Nat)(h:k<=w.length):cut w (some (k:Nat)) none=w.drop k:=by
 unfold cut
 rw[HT.zln,HT.zgs,Nat.min_eq_left h]
 rw[List.take_of_length_le (by simp)]
structure Lft (ps qs:List (List Nat×Nat))(n:Nat):Prop where
 all:∀p∈ps,∀k,k<=p.1.length->(p.1.drop k,p.2)∈qs
 of_:∀q∈qs,∃p∈ps,∃k,k<=p.1.length/\q=(p.1.drop k,p.2)
 len:qs.length<=n
 nd:qs.Nodup
noncomputable def lfn (qs:List (List Nat×Nat))(w:List Nat)(t:Nat):Nat->List (List Nat×Nat)
 | 0=>qs
 | j+1=>addP (lfn qs w t j) (w.drop j,t)
noncomputable def lfK (ps:List (List Nat×Nat)):List (List Nat×Nat):=ps.foldl (fun qs p=>lfn qs p.1 p.2 (p.1.length+1)) []
theorem lfK_snoc (ps:List (List Nat×Nat))(p:List Nat×Nat):lfK (ps++[p])=lfn (lfK ps) p.1 p.2 (p.1.length+1):=by unfold lfK;rw[List.foldl_append];rfl
theorem ziq (ps:List (List Nat×Nat))(n B:Nat)(st:Stor)(hg:st[n]? = some (.dtf (kvsP ps)))(hB:∀p∈ps,p.1.length<=B)(hl:ps.length<=1000)(hb:B<=100) :
  ∃qs,qs=lfK ps/\Lft ps qs (ps.length*(B+1))/\zdk [.loc n] st=.ok (.loc st.length) (st++[.dic (kvsP qs)]):=by
 have hmax:ps.length*(B+1)<=1000*101:=Nat.mul_le_mul hl (by omega)
 unfold zdk gcF fnM zcs
 generalize hBi:(asgS (ct (.bl true)) (subG setDV (vr 1) _):MS)=BI
 generalize hBo:(forS (range1I _) (nameG 3) BI:MS)=BO
 obtain⟨env',st',e1,qs,a2,a3,hQ,hq,rfl,rfl⟩:=zbx (g:=nameG 2) (b:=BO) (gs:=[]) (items:=ps.map fun p=>D.tup [.str p.1,.int (p.2:Nat)])
  (fun i env s=>∃(qs:List (List Nat×Nat)) (a2 a3:Option D),qs=lfK (ps.take i)/\Lft (ps.take i) qs (i*(B+1))/\env=[some (.loc n),some (.loc st.length),a2,a3]/\s=st++[.dic (kvsP qs)])
  (env:=[some (.loc n),some (.loc st.length),none,none]) (st:=st++[.dic []]) ⟨[],none,none,rfl,⟨by simp,by simp,by simp,by simp⟩,rfl,rfl⟩ (by
   rintro i d env s hi ⟨qs,a2,a3,hQ,hq,rfl,rfl⟩
   rw[List.getElem?_map]at hi
   obtain⟨⟨w,t⟩,hp,rfl⟩:=Option.map_eq_some_iff.mp hi
   have hpm:=List.mem_of_getElem? hp
   have hil:=(List.getElem?_eq_some_iff.mp hp).1
   have hw:=hB _ hpm
   simp only at hw
   have him:i*(B+1)+(B+1)<=ps.length*(B+1):=by
    have:=Nat.mul_le_mul_right (B+1) (show i+1<=ps.length by omega)
    rw[Nat.add_mul,Nat.one_mul]at this;exact this

   obtain⟨env2,st2,e2,qs2,a3',hQ2,ha,hb2,hc,hd,rfl,rfl⟩:=zbx (g:=nameG 3) (b:=BI) (gs:=[]) (items:=upto 0 (w.length+1))
    (fun j env s=>∃(qs2:List (List Nat×Nat)) (a3:Option D),qs2=lfn qs w t j/\(∀q∈qs,q∈qs2)/\(∀k,k<j->(w.drop k,t)∈qs2)/\(∀q∈qs2,q∈qs\/∃k,k<=w.length/\q=(w.drop k,t))/\(qs2.length<=qs.length+j/\qs2.Nodup)/\env=[some (.loc n),some (.loc st.length),some (.tup [.str w,.int (t:Nat)]),a3]/\s=st++[.dic (kvsP qs2)])
    (env:=[some (.loc n),some (.loc st.length),some (.tup [.str w,.int (t:Nat)]),a3]) (st:=st++[.dic (kvsP qs)]) ⟨qs,a3,rfl,fun _ h=>h,fun k h=>absurd h (by omega),fun q h=>.inl h,⟨by omega,hq.nd⟩,rfl,rfl⟩ (by
     rintro j d env s hj ⟨qs2,a3,hQ2,ha,hb2,hc,⟨hd,hnd⟩,rfl,rfl⟩
     obtain⟨hj',rfl⟩:=zek hj
     have ej:(0:Int)+((j:Nat):Int)=((j:Nat):Int):=by omega
     rw[ej]
     have ql:=hq.len
     have sd:=setDV_P (st:=st++[.dic (kvsP qs2)]) (n:=st.length) (ps:=qs2) (by simp) (by omega) (w.drop j) t
     have e5:(st++[MO.dic (kvsP qs2)]).set st.length (.dic (kvsP (addP qs2 (w.drop j,t))))=st++[.dic (kvsP (addP qs2 (w.drop j,t)))]:=by simp
     rw[e5]at sd
     have al:=zf2 qs2 (w.drop j,t)
     refine⟨by simp,[some (.loc n),some (.loc st.length),some (.tup [.str w,.int (t:Nat)]),some (.int (j:Nat))],st++[.dic (kvsP qs2)],by simp,[some (.loc n),some (.loc st.length),some (.tup [.str w,.int (t:Nat)]),some (.int (j:Nat))],st++[.dic (kvsP (addP qs2 (w.drop j,t)))],.inl ?_,addP qs2 (w.drop j,t),_,by rw[hQ2];rfl,fun q h=>zhu _ (ha q h),?_,?_,⟨by omega,zd3 hnd _⟩,rfl,rfl⟩
     ·rw[<-hBi]
      have x1:slV (.str w) (some ((j:Nat):Int)) none (st++[.dic (kvsP qs2)])=.ok (.str (w.drop j)) (st++[.dic (kvsP qs2)]):=by rw[zdg _ _ _ _ (by omega),zfr w j (by omega)]
      have x2:∀s,ixV (.tup [.str w,.int (t:Nat)]) (.int 0) s=.ok (.str w) s:=fun s=>zav _ _ _ _ rfl
      have x3:∀s,ixV (.tup [.str w,.int (t:Nat)]) (.int 1) s=.ok (.int (t:Nat)) s:=fun s=>zav _ _ _ _ rfl
      generalize st++[MO.dic (kvsP (addP qs2 (w.drop j,t)))]=Z2 at *
      generalize st++[MO.dic (kvsP qs2)]=Z1 at *
      generalize w.drop j=W at *
      generalize ((t:Nat):Int)=T at *
      generalize ((j:Nat):Int)=J at *
      generalize D.tup [.str w,.int T]=TT at *
      simp[x1,x2,x3,sd]
     ·intro k hk
      by_cases hkj:k<j
      ·exact zhu _ (hb2 k hkj)
      ·have:k=j:=by omega
       subst this;exact zje _ _
     ·intro q hqq
      rcases zim hqq with h | h
      ·exact hc q h
      ·exact .inr ⟨j,by omega,h⟩) (fun _ _ _=>by simp)
   rw[zef]at hb2 hd hQ2
   have tk:ps.take (i+1)=ps.take i++[(w,t)]:=by rw[List.take_succ,hp];rfl
   have ql:=hq.len
   refine⟨by simp,[some (.loc n),some (.loc st.length),some (.tup [.str w,.int (t:Nat)]),a3],st++[.dic (kvsP qs)],by simp,[some (.loc n),some (.loc st.length),some (.tup [.str w,.int (t:Nat)]),a3'],st++[.dic (kvsP qs2)],.inl ?_,qs2,_,_,by rw[tk,lfK_snoc,<-hQ];exact hQ2,⟨?_,?_,by rw[Nat.add_mul];omega,hd.2⟩,rfl,rfl⟩
   ·rw[<-hBo]
    have x2:∀s,ixV (.tup [.str w,.int (t:Nat)]) (.int 0) s=.ok (.str w) s:=fun s=>zav _ _ _ _ rfl
    have ln:∀s,lenW [.str w] s=.ok (.int (w.length:Nat)) s:=fun s=>by simp[lenW,lenV];omega
    have en:((w.length:Nat):Int)+1=((w.length+1:Nat):Int):=by omega
    have hr1:((w.length+1:Nat):Int)<4611686018427387904:=by omega
    have hr2:-4611686018427387904<=((w.length+1:Nat):Int):=by omega
    generalize st++[MO.dic (kvsP qs2)]=Z2 at *
    generalize st++[MO.dic (kvsP qs)]=Z1 at *
    generalize D.tup [.str w,.int ((t:Nat):Int)]=TT at *
    have et:(((w.length+1:Nat):Int)).toNat=w.length+1:=by omega
    generalize hN:((w.length+1:Nat):Int)=N at *
    simp[x2,ln,en,hr1,hr2,et,e2]
   ·intro p hp2 k hk
    rw[tk]at hp2
    rcases List.mem_append.mp hp2 with h | h
    ·exact ha _ (hq.all p h k hk)
    ·have:p=(w,t):=List.mem_singleton.mp h
     subst this
     exact hb2 k (Nat.lt_succ_of_le hk)
   ·intro q hqq
    rcases hc q hqq with h | ⟨k,hk,h⟩
    ·obtain⟨p,h1,h2⟩:=hq.of_ q h
     exact⟨p,by rw[tk];exact List.mem_append_left _ h1,h2⟩
    ·exact⟨(w,t),by rw[tk];simp,k,hk,h⟩) (fun _ _ _=>by simp)
 rw[List.length_map]at hq hQ
 rw[List.take_length]at hq hQ
 refine⟨qs,hQ,hq,?_⟩
 have hdi:=r_dtI_f (m:=vr 0) (env:=[some (.loc n),some (.loc st.length),none,none]) (st:=st++[.dic []]) (st1:=st++[.dic []]) rfl (zbf hg)
 rw[zfj]at hdi
 have g:=zi2 (st:=st) (o:=.dic (kvsP qs)) (zd1 _ _)
 rw[show startM 4 [D.loc n]=[some (.loc n),none,none,none] from rfl]
 generalize hD:dtI (vr 0)=DT at *
 generalize (ps.map fun p=>D.tup [.str p.1,.int (p.2:Nat)])=IT at *
 generalize hZ:st++[MO.dic (kvsP qs)]=Z at *
 simp[dicE,hdi,e1]
 exact g
noncomputable def tgK (ps:List (List Nat×Nat)):List Nat:=ps.foldl (fun ts p=>addP ts p.2) []
theorem tgK_snoc (ps:List (List Nat×Nat))(p:List Nat×Nat):tgK (ps++[p])=addP (tgK ps) p.2:=by unfold tgK;rw[List.foldl_append];rfl
theorem zib (ps:List (List Nat×Nat))(n:Nat)(st:Stor)(hg:st[n]? = some (.dtf (kvsP ps)))(hl:ps.length<=1000) :
  ∃ts:List Nat,ts=tgK ps/\(∀p∈ps,p.2∈ts)/\(∀t∈ts,∃p∈ps,p.2=t)/\ts.length<=ps.length/\ts.Nodup/\zbp [.loc n] st=.ok (.loc st.length) (st++[.dkc (kvsG ts)]):=by
 unfold zbp gcF fnM zco
 generalize hBi:(asgS (ct (.bl true)) (subG setK (vr 1) _):MS)=BI
 obtain⟨env',st',e1,ts,a2,hT,h1,h2,h3,h4,rfl,rfl⟩:=zbx (g:=nameG 2) (b:=BI) (gs:=[]) (items:=ps.map fun p=>D.tup [.str p.1,.int (p.2:Nat)])
  (fun i env s=>∃(ts:List Nat) (a2:Option D),ts=tgK (ps.take i)/\(∀p∈ps.take i,p.2∈ts)/\(∀t∈ts,∃p∈ps,p.2=t)/\ts.length<=i/\ts.Nodup/\env=[some (.loc n),some (.loc st.length),a2]/\s=st++[.dkc (kvsG ts)])
  (env:=[some (.loc n),some (.loc st.length),none]) (st:=st++[.dkc []]) ⟨[],none,rfl,by simp,by simp,by simp,by simp,rfl,rfl⟩ (by
   rintro i d env s hi ⟨ts,a2,hT,h1,h2,h3,h4,rfl,rfl⟩
   rw[List.getElem?_map]at hi
   obtain⟨⟨w,t⟩,hp,rfl⟩:=Option.map_eq_some_iff.mp hi
   have hpm:=List.mem_of_getElem? hp
   have hil:=(List.getElem?_eq_some_iff.mp hp).1
   have tk:ps.take (i+1)=ps.take i++[(w,t)]:=by rw[List.take_succ,hp];rfl
   have sd:=setK_G (st:=st++[.dkc (kvsG ts)]) (n:=st.length) (ts:=ts) (by simp) (by omega) t
   have e5:(st++[MO.dkc (kvsG ts)]).set st.length (.dkc (kvsG (addP ts t)))=st++[.dkc (kvsG (addP ts t))]:=by simp
   rw[e5]at sd
   have al:=zf2 ts t
   refine⟨by simp,[some (.loc n),some (.loc st.length),some (.tup [.str w,.int (t:Nat)])],st++[.dkc (kvsG ts)],by simp,[some (.loc n),some (.loc st.length),some (.tup [.str w,.int (t:Nat)])],st++[.dkc (kvsG (addP ts t))],.inl ?_,addP ts t,_,by rw[tk,tgK_snoc,<-hT],?_,?_,by omega,zd3 h4 _,rfl,rfl⟩
   ·rw[<-hBi]
    have x3:∀s,ixV (.tup [.str w,.int (t:Nat)]) (.int 1) s=.ok (.int (t:Nat)) s:=fun s=>zav _ _ _ _ rfl
    generalize st++[MO.dkc (kvsG (addP ts t))]=Z2 at *
    generalize st++[MO.dkc (kvsG ts)]=Z1 at *
    generalize ((t:Nat):Int)=T at *
    generalize D.tup [.str w,.int T]=TT at *
    simp[x3,sd]
   ·intro p hp2
    rw[tk]at hp2
    rcases List.mem_append.mp hp2 with h | h
    ·exact zhu _ (h1 p h)
    ·have:p=(w,t):=List.mem_singleton.mp h
     subst this
     exact zje _ _
   ·intro q hq
    rcases zim hq with h | h
    ·exact h2 q h
    ·exact⟨(w,t),hpm,h.symm⟩) (fun _ _ _=>by simp)
 rw[List.length_map]at h1 h3 hT
 rw[List.take_length]at h1 hT
 refine⟨ts,hT,h1,h2,h3,h4,?_⟩
 have hdi:=r_dtI_f (m:=vr 0) (env:=[some (.loc n),some (.loc st.length),none]) (st:=st++[.dkc []]) (st1:=st++[.dkc []]) rfl (zbf hg)
 rw[zfj]at hdi
 have g:=zi2 (st:=st) (o:=.dkc (kvsG ts)) (zin _ _)
 rw[show startM 3 [D.loc n]=[some (.loc n),none,none] from rfl]
 generalize hD:dtI (vr 0)=DT at *
 generalize (ps.map fun p=>D.tup [.str p.1,.int (p.2:Nat)])=IT at *
 generalize hZ:st++[MO.dkc (kvsG ts)]=Z at *
 simp[dkE,hdi,e1]
 exact g
end Law
set_option maxHeartbeats 0
namespace Law
open L2 M TK TS
@[irreducible] noncomputable def WT (st:Stor) (f:Nat) (ks:List TK) (rl:List D) (dw:MO) (g:Stor):Stor:=st++[insN st.length f,.dic (kvsT f ks),.lst rl,dw]++g
section
variable {st:Stor}{f:Nat}{ks:List TK}{rl:List D}{dw:MO}{g:Stor}
theorem WT.len:(WT st f ks rl dw g).length=st.length+4+g.length:=by simp[WT];omega
theorem WT.num (h:M.wf st)(hu:∀n,unders n rl)(hd:∀n,underO n dw)(hg:∀o∈g,∀n,underO n o):NumT (WT st f ks rl dw g) st.length (st.length+1) f ks:=by
 refine⟨by unfold WT;rw[List.append_assoc,List.getElem?_append_right (Nat.le_refl _)];simp[insN],by unfold WT;rw[List.append_assoc,List.getElem?_append_right (by omega)];simp,by omega,?_⟩
 intro o ho
 rw[WT.len]
 unfold WT at ho
 rcases List.mem_append.mp ho with ho | ho
 ·rcases List.mem_append.mp ho with ho | ho
  ·exact zju (by omega) o (h o ho)
  ·simp only[List.mem_cons,List.not_mem_nil,or_false]at ho
   rcases ho with rfl | rfl | rfl | rfl
   ·intro p hp
    simp only[List.mem_cons,List.not_mem_nil,or_false]at hp
    rcases hp with rfl | rfl
    ·simp
    ·simp;omega
   ·exact zhh _ _ _
   ·exact hu _
   ·exact hd _
 ·exact hg o ho _
theorem WT.set {ks':List TK}:(WT st f ks rl dw g).set (st.length+1) (.dic (kvsT f ks'))=WT st f ks' rl dw g:=by
 unfold WT
 rw[List.append_assoc st,List.set_append_right _ _ (by omega)]
 simp
theorem WT.old {n:Nat}{o:MO}(h:st[n]? = some o):(WT st f ks rl dw g)[n]? = some o:=by
 unfold WT;exact zbf (zbf h)
theorem WT.at2:(WT st f ks rl dw g)[st.length+2]? = some (.lst rl):=by
 unfold WT;rw[List.append_assoc,List.getElem?_append_right (by omega)];simp
theorem WT.at3:(WT st f ks rl dw g)[st.length+3]? = some dw:=by
 unfold WT;rw[List.append_assoc,List.getElem?_append_right (by omega)];simp
theorem WT.at4 {o:MO}:(WT st f ks rl dw (g++[o]))[st.length+4+g.length]? = some o:=by
 unfold WT;rw[List.getElem?_append_right (by simp)];simp
theorem WT.set2 {rl':List D}:(WT st f ks rl dw g).set (st.length+2) (.lst rl')=WT st f ks rl' dw g:=by
 unfold WT
 rw[List.append_assoc st,List.set_append_right _ _ (by omega)]
 simp
theorem WT.set3 {o:MO}:(WT st f ks rl dw g).set (st.length+3) o=WT st f ks rl o g:=by
 unfold WT
 rw[List.append_assoc st,List.set_append_right _ _ (by omega)]
 simp
theorem WT.set4 {o o':MO}:(WT st f ks rl dw (g++[o])).set (st.length+4+g.length) o'=WT st f ks rl dw (g++[o']):=by
 unfold WT;rw[List.set_append_right _ _ (by simp)];simp
theorem WT.ty:isTy "list" (.loc (st.length+2)) (WT st f ks rl dw g)=true:=by simp[isTy,WT.at2]
theorem WT.app (hl:rl.length<1000000)(d:D):appendV (.loc (st.length+2)) [d] (WT st f ks rl dw g)=.ok .non (WT st f ks (rl++[d]) dw g):=by
 unfold appendV
 simp only[WT.at2]
 rw[if_pos hl,WT.set2]
theorem WT.ext {rs:List D}(hl:rl.length+rs.length<=1000000):extendV (.loc (st.length+2)) [.loc (st.length+4+g.length)] (WT st f ks rl dw (g++[.lst rs]))=.ok .non (WT st f ks (rl++rs) dw (g++[.lst rs])):=by
 unfold extendV
 simp only[WT.at2,WT.at4]
 rw[if_pos hl,WT.set2]
theorem WT.snoc {o:MO}:WT st f ks rl dw g++[o]=WT st f ks rl dw (g++[o]):=by simp[WT]
theorem WT.grow (h:M.wf st)(hu:∀n,unders n rl)(hd:∀n,underO n dw)(hg:∀o∈g,∀n,underO n o)(hl:ks.length<100000)(w:List Nat)(t:Nat) :
  zar [.loc st.length,.str w,.int (t:Nat)] (WT st f ks rl dw g)=.ok (.int (numT f (regT ks (gr w t)) (tk (gr w t)):Nat)) (WT st f (regT ks (gr w t)) rl dw g):=by
 rw[zem (WT.num h hu hd hg) hl,WT.set]
theorem WT.back (h:M.wf st)(hu:∀n,unders n rl)(hd:∀n,underO n dw)(hg:∀o∈g,∀n,underO n o)(hl:ks.length<100000)(t:Nat) :
  zbc [.loc st.length,.int (t:Nat)] (WT st f ks rl dw g)=.ok (.int (numT f (regT ks (bk t)) (tk (bk t)):Nat)) (WT st f (regT ks (bk t)) rl dw g):=by
 rw[zf7 (WT.num h hu hd hg) hl,WT.set]
end
noncomputable def encRl (r:Rl):D:=.tup [.int (r.s:Nat),.str [r.x],.str r.w,.int (r.g:Nat)]
noncomputable def passL (signs:List Nat)(ps:List (List Nat×Nat)):List TQ:=(ps.map fun p=>signs.map (pasR (gr p.1 p.2) true)).flatten
noncomputable def backL (signs:List Nat)(ts:List Nat):List TQ:=(ts.map fun t=>signs.map (pasR (bk t) false)++[bakR t]).flatten
theorem zgn (signs:List Nat)(ps:List (List Nat×Nat))(p:List Nat×Nat):passL signs (ps++[p])=passL signs ps++signs.map (pasR (gr p.1 p.2) true):=by simp[passL]
theorem zgt (signs:List Nat)(ts:List Nat)(t:Nat):backL signs (ts++[t])=backL signs ts++(signs.map (pasR (bk t) false)++[bakR t]):=by simp[backL]
structure AllT (RL:List Rl)(signs:List Nat)(ks:List TK)(ALL:List TQ):Prop where
 good:∀q∈ALL,Gd RL signs q
 inn:∀q∈ALL,inRT ks q
 src:∀r∈RL,srcR r∈ALL
 pas:∀r∈RL,∀c∈signs,pasR (gr r.w r.g) true c∈ALL
 gro:∀r∈RL,∀k,k<=r.w.length->groR (r.w.drop k) r.g∈ALL
 pab:∀r∈RL,∀c∈signs,pasR (bk r.g) false c∈ALL
 bak:∀r∈RL,bakR r.g∈ALL
noncomputable def srcK (RL:List Rl):List TK:=RL.foldl (fun ks r=>regT ks (gr r.w r.g)) []
noncomputable def srcP (RL:List Rl):List (List Nat×Nat):=RL.foldl (fun ps r=>addP ps (r.w,r.g)) []
theorem srcK_snoc (RL:List Rl)(r:Rl):srcK (RL++[r])=regT (srcK RL) (gr r.w r.g):=by unfold srcK;rw[List.foldl_append];rfl
theorem srcP_snoc (RL:List Rl)(r:Rl):srcP (RL++[r])=addP (srcP RL) (r.w,r.g):=by unfold srcP;rw[List.foldl_append];rfl
theorem loop1 (RL:List Rl)(signs:List Nat)(top n f:Nat)(st:Stor)(hwf:M.wf st)(hgt:st[n]? = some (.lst (RL.map encRl)))(hl:RL.length<=1000)(hw:∀r∈RL,r.w.length<=100)(B:MS)
  (hB:(seqS (asgS (ct (.bl true)) (subG setDV (vr 5) (tupE (consA (op2 ixV (vr 6) (ct (.int 2))) (consA (op2 ixV (vr 6) (ct (.int 3))) nilA)))))
  (exprS (methE "list" appendV (vr 4) (consA (tupE (consA (op2 ixV (vr 6) (ct (.int 0))) (consA (op2 ixV (vr 6) (ct (.int 1))) (consA (ct (.str [95])) (consA (ct (.str [114])) (consA (callF zar [] (consA (vr 3) (consA (op2 ixV (vr 6) (ct (.int 2))) (consA (op2 ixV (vr 6) (ct (.int 3))) nilA)))) nilA)))))) nilA))):MS)=B) :
  ∃ks ps a6,(ks=srcK RL/\ps=srcP RL)/\ks.length<=RL.length/\ps.length<=RL.length/\ps.Nodup/\(∀r∈RL,(r.w,r.g)∈ps)/\(∀p∈ps,∃r∈RL,p=(r.w,r.g))/\(∀q∈RL.map srcR,inRT ks q) /\
   forGo (nameG 6) B [(n,.lst (RL.map encRl))] (RL.map encRl) [some (.loc n),some (.str signs),some (.int (top:Nat)),some (.loc st.length),some (.loc (st.length+2)),some (.loc (st.length+3)),none,none,none,none,none,none] (WT st f [] [] (.dic []) [])
    = .ok (.nx [some (.loc n),some (.str signs),some (.int (top:Nat)),some (.loc st.length),some (.loc (st.length+2)),some (.loc (st.length+3)),a6,none,none,none,none,none]) (WT st f ks ((RL.map srcR).map (encT f ks)) (.dic (kvsP ps)) []):=by
 obtain⟨env1,st1,e1,ks,ps,a6,hK,h1,h2,h3,h4,h5,h6,rfl,rfl⟩:=zbx (g:=nameG 6) (b:=B) (gs:=[(n,.lst (RL.map encRl))]) (items:=RL.map encRl)
  (fun i env s=>∃(ks:List TK) (ps:List (List Nat×Nat)) (a6:Option D),(ks=srcK (RL.take i)/\ps=srcP (RL.take i))/\ks.length<=i/\ps.length<=i/\ps.Nodup/\(∀r∈RL.take i,(r.w,r.g)∈ps)/\(∀p∈ps,∃r∈RL,p=(r.w,r.g))/\(∀q∈(RL.take i).map srcR,inRT ks q) /\
   env=[some (.loc n),some (.str signs),some (.int (top:Nat)),some (.loc st.length),some (.loc (st.length+2)),some (.loc (st.length+3)),a6,none,none,none,none,none]/\s=WT st f ks (((RL.take i).map srcR).map (encT f ks)) (.dic (kvsP ps)) [])
  (env:=[some (.loc n),some (.str signs),some (.int (top:Nat)),some (.loc st.length),some (.loc (st.length+2)),some (.loc (st.length+3)),none,none,none,none,none,none]) (st:=WT st f [] [] (.dic []) [])
  ⟨[],[],none,⟨rfl,rfl⟩,by simp,by simp,by simp,by simp,by simp,by simp,rfl,rfl⟩ (by
   rintro i d env s hi ⟨ks,ps,a6,hK,h1,h2,h3,h4,h5,h6,rfl,rfl⟩
   rw[List.getElem?_map]at hi
   obtain⟨r,hr,rfl⟩:=Option.map_eq_some_iff.mp hi
   have hmem:=List.mem_of_getElem? hr
   have hil:=(List.getElem?_eq_some_iff.mp hr).1
   have tk1:RL.take (i+1)=RL.take i++[r]:=by rw[List.take_succ,hr];rfl
   generalize hrl:((RL.take i).map srcR).map (encT f ks)=rl
   have hrll:rl.length<=i:=by rw[<-hrl];simp;omega
   have hu:∀n,unders n rl:=fun n=>by rw[<-hrl];exact zcm _ _ _ _
   have sd:=setDV_P (st:=WT st f ks rl (.dic (kvsP ps)) []) (n:=st.length+3) (ps:=ps) WT.at3 (by omega) r.w r.g
   rw[WT.set3]at sd
   have gs:=WT.grow (st:=st) (f:=f) (ks:=ks) (rl:=rl) (dw:=.dic (kvsP (addP ps (r.w,r.g)))) (g:=[]) hwf hu (fun n=>zd1 n _) (by simp) (by omega) r.w r.g
   obtain⟨l1,hl1⟩:=zfx ks (gr r.w r.g)
   have kl:=zfv ks (gr r.w r.g)
   have km:=ze5 ks (gr r.w r.g)
   generalize hks:regT ks (gr r.w r.g)=ks1 at *
   have e0:D.tup [.int (r.s:Nat),.str [r.x],.str [95],.str [114],.int (numT f ks1 (tk (gr r.w r.g)):Nat)]=encT f ks1 (srcR r):=rfl
   have ap:=WT.app (st:=st) (f:=f) (ks:=ks1) (rl:=rl) (dw:=.dic (kvsP (addP ps (r.w,r.g)))) (g:=[]) (by omega) (encT f ks1 (srcR r))
   rw[<-e0]at ap
   have ty:=WT.ty (st:=st) (f:=f) (ks:=ks1) (rl:=rl) (dw:=.dic (kvsP (addP ps (r.w,r.g)))) (g:=[])
   have ty0:=WT.ty (st:=st) (f:=f) (ks:=ks) (rl:=rl) (dw:=.dic (kvsP (addP ps (r.w,r.g)))) (g:=[])
   have fin:rl++[encT f ks1 (srcR r)]=((RL.take (i+1)).map srcR).map (encT f ks1):=by
    rw[tk1,List.map_append,List.map_append,<-hrl,hl1,zfk l1 h6];rfl
   have al:=zf2 ps (r.w,r.g)
   have hgo:okG [(n,MO.lst (RL.map encRl))] (WT st f ks rl (.dic (kvsP ps)) []):=by simp[WT.old hgt]
   refine⟨hgo,[some (.loc n),some (.str signs),some (.int (top:Nat)),some (.loc st.length),some (.loc (st.length+2)),some (.loc (st.length+3)),some (encRl r),none,none,none,none,none],WT st f ks rl (.dic (kvsP ps)) [],by generalize WT st f ks rl (.dic (kvsP ps)) []=Z;simp,[some (.loc n),some (.str signs),some (.int (top:Nat)),some (.loc st.length),some (.loc (st.length+2)),some (.loc (st.length+3)),some (encRl r),none,none,none,none,none],WT st f ks1 (rl++[encT f ks1 (srcR r)]) (.dic (kvsP (addP ps (r.w,r.g)))) [],.inl ?_,ks1,addP ps (r.w,r.g),_,⟨by rw[tk1,srcK_snoc,<-hK.1];exact hks.symm,by rw[tk1,srcP_snoc,<-hK.2]⟩,by omega,by omega,zd3 h3 _,?_,?_,?_,rfl,by rw[fin]⟩
   ·rw[<-hB]
    have x0:∀s,ixV (encRl r) (.int 0) s=.ok (.int (r.s:Nat)) s:=fun s=>zav _ _ _ _ rfl
    have x1:∀s,ixV (encRl r) (.int 1) s=.ok (.str [r.x]) s:=fun s=>zav _ _ _ _ rfl
    have x2:∀s,ixV (encRl r) (.int 2) s=.ok (.str r.w) s:=fun s=>zav _ _ _ _ rfl
    have x3:∀s,ixV (encRl r) (.int 3) s=.ok (.int (r.g:Nat)) s:=fun s=>zav _ _ _ _ rfl
    rw[<-e0]
    generalize encRl r=ER at *
    generalize ((numT f ks1 (tk (gr r.w r.g)):Nat):Int)=NV at *
    generalize WT st f ks1 (rl++[D.tup [.int (r.s:Nat),.str [r.x],.str [95],.str [114],.int NV]]) (.dic (kvsP (addP ps (r.w,r.g)))) []=Z3 at *
    generalize WT st f ks1 rl (.dic (kvsP (addP ps (r.w,r.g)))) []=Z2 at *
    generalize WT st f ks rl (.dic (kvsP (addP ps (r.w,r.g)))) []=Z1 at *
    generalize WT st f ks rl (.dic (kvsP ps)) []=Z0 at *
    generalize ((r.g:Nat):Int)=RG at *
    generalize ((r.s:Nat):Int)=RS at *
    simp[x0,x1,x2,x3,sd,gs,ap,ty,ty0]
   ·intro q hq
    rw[tk1]at hq
    rcases List.mem_append.mp hq with h | h
    ·exact zhu _ (h4 q h)
    ·have:q=r:=List.mem_singleton.mp h
     subst this;exact zje _ _
   ·intro q hq
    rcases zim hq with h | h
    ·exact h5 q h
    ·exact⟨r,hmem,h⟩
   ·intro q hq
    rw[tk1,List.map_append]at hq
    rcases List.mem_append.mp hq with h | h
    ·rw[hl1];exact zge _ (h6 q h)
    ·have:q=srcR r:=by simpa using h
     subst this
     exact⟨trivial,km⟩) (fun _ _ zz=>by obtain⟨_,_,_,_,_,_,_,_,_,_,_,e⟩:=zz;rw[e];simp[WT.old hgt])
 rw[List.length_map]at h1 h2 h4 h6 e1 hK
 rw[List.take_length]at h4 h6 e1 hK
 exact⟨ks,ps,a6,hK,h1,h2,h3,h4,h5,h6,e1⟩
end Law
set_option maxHeartbeats 0
namespace Law
open L2 M TK TS
noncomputable def EV (n:Nat)(signs:List Nat)(top m:Nat)(a6 a7 a8 a9 a10 a11:Option D):MEnv:=[some (.loc n),some (.str signs),some (.int (top:Nat)),some (.loc m),some (.loc (m+2)),some (.loc (m+3)),a6,a7,a8,a9,a10,a11]
noncomputable def pasK (ks0:List TK)(ps:List (List Nat×Nat)):List TK:=ps.foldl (fun ks p=>regT ks (gr p.1 p.2)) ks0
theorem pasK_snoc (ks0:List TK)(ps:List (List Nat×Nat))(p:List Nat×Nat):pasK ks0 (ps++[p])=regT (pasK ks0 ps) (gr p.1 p.2):=by unfold pasK;rw[List.foldl_append];rfl
noncomputable def groK (ks0:List TK)(qs:List (List Nat×Nat)):List TK:=qs.foldl (fun ks p=>growK ks p.1 p.2) ks0
theorem groK_snoc (ks0:List TK)(ps:List (List Nat×Nat))(p:List Nat×Nat):groK ks0 (ps++[p])=growK (groK ks0 ps) p.1 p.2:=by unfold groK;rw[List.foldl_append];rfl
noncomputable def bakK (ks0:List TK)(ts:List Nat):List TK:=ts.foldl (fun ks t=>regT ks (bk t)) ks0
theorem bakK_snoc (ks0:List TK)(ts:List Nat)(t:Nat):bakK ks0 (ts++[t])=regT (bakK ks0 ts) (bk t):=by unfold bakK;rw[List.foldl_append];rfl
theorem loop2 (ps:List (List Nat×Nat))(signs:List Nat)(top n f:Nat)(st:Stor)(hwf:M.wf st)(hl:ps.length<=1000)(hs:∀c∈signs,c<128)(hsl:signs.length<=100)(B:MS)(ks0:List TK)(R1:List TQ)(h0:∀q∈R1,inRT ks0 q)(hR:R1.length<=1000)(hk:ks0.length<=1000)(a6:Option D)
  (hB:(seqS (setS 8 (callF zar [] (consA (vr 3) (consA (op2 ixV (vr 7) (ct (.int 0))) (consA (op2 ixV (vr 7) (ct (.int 1))) nilA)))))
  (exprS (methE "list" extendV (vr 4) (consA (callF zat [] (consA (vr 8) (consA (vr 1) (consA (ct (.str [114])) nilA)))) nilA))):MS)=B) :
  ∃ks g a7 a8,ks=pasK ks0 ps/\ks.length<=ks0.length+ps.length/\(∀q∈R1++passL signs ps,inRT ks q)/\(∀o∈g,∀n,underO n o)/\(passL signs ps).length<=1000*100 /\
   forGo (nameG 7) B [] (ps.map fun p=>D.tup [.str p.1,.int (p.2:Nat)]) (EV n signs top st.length a6 none none none none none) (WT st f ks0 (R1.map (encT f ks0)) (.dtf (kvsP ps)) [])
    = .ok (.nx (EV n signs top st.length a6 a7 a8 none none none)) (WT st f ks ((R1++passL signs ps).map (encT f ks)) (.dtf (kvsP ps)) g):=by
 obtain⟨env1,st1,e1,ks,g,a7,a8,hK,h1,h2,h3,h4,rfl,rfl⟩:=zbx (g:=nameG 7) (b:=B) (gs:=[]) (items:=ps.map fun p=>D.tup [.str p.1,.int (p.2:Nat)])
  (fun i env s=>∃(ks:List TK) (g:Stor) (a7 a8:Option D),ks=pasK ks0 (ps.take i)/\ks.length<=ks0.length+i/\(∀q∈R1++passL signs (ps.take i),inRT ks q)/\(∀o∈g,∀n,underO n o)/\(passL signs (ps.take i)).length<=i*100 /\
   env=EV n signs top st.length a6 a7 a8 none none none/\s=WT st f ks ((R1++passL signs (ps.take i)).map (encT f ks)) (.dtf (kvsP ps)) g)
  (env:=EV n signs top st.length a6 none none none none none) (st:=WT st f ks0 (R1.map (encT f ks0)) (.dtf (kvsP ps)) [])
  ⟨ks0,[],none,none,rfl,by omega,by simpa[passL] using h0,by simp,by simp[passL],rfl,by simp[passL]⟩ (by
   rintro i d env s hi ⟨ks,g,a7,a8,hK,h1,h2,h3,h4,rfl,rfl⟩
   rw[List.getElem?_map]at hi
   obtain⟨⟨w,t⟩,hr,rfl⟩:=Option.map_eq_some_iff.mp hi
   have hmem:=List.mem_of_getElem? hr
   have hil:=(List.getElem?_eq_some_iff.mp hr).1
   have tk1:ps.take (i+1)=ps.take i++[(w,t)]:=by rw[List.take_succ,hr];rfl
   generalize hrl:(R1++passL signs (ps.take i)).map (encT f ks)=rl
   have hrll:rl.length<=1000+i*100:=by rw[<-hrl];simp;omega
   have hu:∀n,unders n rl:=fun n=>by rw[<-hrl];exact zcm _ _ _ _
   have gs:=WT.grow (st:=st) (f:=f) (ks:=ks) (rl:=rl) (dw:=.dtf (kvsP ps)) (g:=g) hwf hu (fun n=>zd1 n _) h3 (by omega) w t
   obtain⟨l1,hl1⟩:=zfx ks (gr w t)
   have kl:=zfv ks (gr w t)
   have km:=ze5 ks (gr w t)
   generalize hks:regT ks (gr w t)=ks1 at *
   have pa:=zie ((numT f ks1 (tk (gr w t)):Nat):Int) signs [114] (WT st f ks1 rl (.dtf (kvsP ps)) g) hs (by omega)
   rw[WT.len,WT.snoc]at pa
   have eP:(signs.map fun c=>D.tup [.int (numT f ks1 (tk (gr w t)):Nat),.str [c],.str [c],.str [114],.int (numT f ks1 (tk (gr w t)):Nat)])=(signs.map (pasR (gr w t) true)).map (encT f ks1):=by
    rw[List.map_map];rfl
   rw[eP]at pa
   generalize hps:(signs.map (pasR (gr w t) true)).map (encT f ks1)=PS at *
   have hpl:PS.length=signs.length:=by rw[<-hps];simp
   have hxt:=WT.ext (st:=st) (f:=f) (ks:=ks1) (rl:=rl) (dw:=.dtf (kvsP ps)) (g:=g) (rs:=PS) (by omega)
   have ty:=WT.ty (st:=st) (f:=f) (ks:=ks1) (rl:=rl) (dw:=.dtf (kvsP ps)) (g:=g++[.lst PS])
   have ty0:=WT.ty (st:=st) (f:=f) (ks:=ks1) (rl:=rl) (dw:=.dtf (kvsP ps)) (g:=g)
   have fin:rl++PS=(R1++passL signs (ps.take (i+1))).map (encT f ks1):=by
    rw[tk1,zgn,<-List.append_assoc,List.map_append,<-hrl,hl1,zfk l1 h2,<-hl1,hps]
   refine⟨by simp,EV n signs top st.length a6 (some (.tup [.str w,.int (t:Nat)])) a8 none none none,WT st f ks rl (.dtf (kvsP ps)) g,by generalize WT st f ks rl (.dtf (kvsP ps)) g=Z;unfold EV;simp,EV n signs top st.length a6 (some (.tup [.str w,.int (t:Nat)])) (some (.int (numT f ks1 (tk (gr w t)):Nat))) none none none,WT st f ks1 (rl++PS) (.dtf (kvsP ps)) (g++[.lst PS]),.inl ?_,ks1,g++[.lst PS],_,_,by rw[tk1,pasK_snoc,<-hK];exact hks.symm,by omega,?_,?_,?_,rfl,by rw[fin]⟩
   ·rw[<-hB]
    have x0:∀s,ixV (.tup [.str w,.int (t:Nat)]) (.int 0) s=.ok (.str w) s:=fun s=>zav _ _ _ _ rfl
    have x1:∀s,ixV (.tup [.str w,.int (t:Nat)]) (.int 1) s=.ok (.int (t:Nat)) s:=fun s=>zav _ _ _ _ rfl
    generalize ((numT f ks1 (tk (gr w t)):Nat):Int)=NV at *
    generalize WT st f ks1 (rl++PS) (.dtf (kvsP ps)) (g++[.lst PS])=Z3 at *
    generalize WT st f ks1 rl (.dtf (kvsP ps)) (g++[.lst PS])=Z2 at *
    generalize WT st f ks1 rl (.dtf (kvsP ps)) g=Z1 at *
    generalize WT st f ks rl (.dtf (kvsP ps)) g=Z0 at *
    generalize ((t:Nat):Int)=RG at *
    generalize D.tup [.str w,.int RG]=TT at *
    generalize st.length+4+g.length=Y at *
    unfold EV
    simp[x0,x1,gs,pa,hxt,ty,ty0]
   ·intro q hq
    rw[tk1,zgn,<-List.append_assoc]at hq
    rcases List.mem_append.mp hq with h | h
    ·rw[hl1];exact zge _ (h2 q h)
    ·obtain⟨c,_,rfl⟩:=List.mem_map.mp h
     exact⟨km,km⟩
   ·intro o ho
    rcases List.mem_append.mp ho with h | h
    ·exact h3 o h
    ·have:o=_:=List.mem_singleton.mp h
     subst this
     intro m
     rw[<-hps]
     exact zcm _ _ _ _
   ·rw[tk1,zgn,List.length_append,List.length_map];omega) (fun _ _ _=>by simp)
 rw[List.length_map]at h1 h2 h4 e1 hK
 rw[List.take_length]at h2 h4 e1 hK
 exact⟨ks,g,a7,a8,hK,h1,h2,h3,by have:=Nat.mul_le_mul_right 100 hl;omega,e1⟩
theorem loop3 (qs:List (List Nat×Nat))(dw:MO)(hdw:∀n,underO n dw)(signs:List Nat)(top n f:Nat)(st:Stor)(hwf:M.wf st)(hl:qs.length<=40000)(hq:∀p∈qs,p.1.length<=100)(B:MS)(ks0:List TK)(R1:List TQ)(h0:∀q∈R1,inRT ks0 q)(hR:R1.length<=200000)(hk:ks0.length<=2000)(g:Stor)(hg:∀o∈g,∀n,underO n o)(a6 a7 a8 a9:Option D)
  (hB:(exprS (methE "list" appendV (vr 4) (consA (callF zbk [] (consA (vr 3) (consA (op2 ixV (vr 10) (ct (.int 0))) (consA (op2 ixV (vr 10) (ct (.int 1))) nilA)))) nilA)):MS)=B) :
  ∃ks a10,ks=groK ks0 qs/\ks.length<=ks0.length+2*qs.length/\(∀q∈R1++qs.map (fun p=>groR p.1 p.2),inRT ks q) /\
   forGo (nameG 10) B [] (qs.map fun p=>D.tup [.str p.1,.int (p.2:Nat)]) (EV n signs top st.length a6 a7 a8 a9 none none) (WT st f ks0 (R1.map (encT f ks0)) dw g)
    = .ok (.nx (EV n signs top st.length a6 a7 a8 a9 a10 none)) (WT st f ks ((R1++qs.map (fun p=>groR p.1 p.2)).map (encT f ks)) dw g):=by
 obtain⟨env1,st1,e1,ks,a10,hK,h1,h2,rfl,rfl⟩:=zbx (g:=nameG 10) (b:=B) (gs:=[]) (items:=qs.map fun p=>D.tup [.str p.1,.int (p.2:Nat)])
  (fun i env s=>∃(ks:List TK) (a10:Option D),ks=groK ks0 (qs.take i)/\ks.length<=ks0.length+2*i/\(∀q∈R1++(qs.take i).map (fun p=>groR p.1 p.2),inRT ks q) /\
   env=EV n signs top st.length a6 a7 a8 a9 a10 none/\s=WT st f ks ((R1++(qs.take i).map (fun p=>groR p.1 p.2)).map (encT f ks)) dw g)
  (env:=EV n signs top st.length a6 a7 a8 a9 none none) (st:=WT st f ks0 (R1.map (encT f ks0)) dw g)
  ⟨ks0,none,rfl,by omega,by simpa using h0,rfl,by simp⟩ (by
   rintro i d env s hi ⟨ks,a10,hK,h1,h2,rfl,rfl⟩
   rw[List.getElem?_map]at hi
   obtain⟨⟨w,t⟩,hr,rfl⟩:=Option.map_eq_some_iff.mp hi
   have hmem:=List.mem_of_getElem? hr
   have hil:=(List.getElem?_eq_some_iff.mp hr).1
   have hwl:=hq _ hmem
   simp only at hwl
   have tk1:qs.take (i+1)=qs.take i++[(w,t)]:=by rw[List.take_succ,hr];rfl
   generalize hrl:(R1++(qs.take i).map (fun p=>groR p.1 p.2)).map (encT f ks)=rl
   have hrll:rl.length<=200000+i:=by rw[<-hrl];simp;omega
   have hu:∀n,unders n rl:=fun n=>by rw[<-hrl];exact zcm _ _ _ _
   obtain⟨ks1,l1,hl1,hks,kl,hin,gs⟩:=zl9 (WT.num (st:=st) (f:=f) (ks:=ks) (rl:=rl) (dw:=dw) (g:=g) hwf hu hdw hg) (by omega) w t (by omega)
   rw[WT.set]at gs
   have ap:=WT.app (st:=st) (f:=f) (ks:=ks1) (rl:=rl) (dw:=dw) (g:=g) (by omega) (encT f ks1 (groR w t))
   have ty:=WT.ty (st:=st) (f:=f) (ks:=ks1) (rl:=rl) (dw:=dw) (g:=g)
   have ty0:=WT.ty (st:=st) (f:=f) (ks:=ks) (rl:=rl) (dw:=dw) (g:=g)
   have fin:rl++[encT f ks1 (groR w t)]=(R1++(qs.take (i+1)).map (fun p=>groR p.1 p.2)).map (encT f ks1):=by
    have e9:R1++(qs.take (i+1)).map (fun p=>groR p.1 p.2)=(R1++(qs.take i).map (fun p=>groR p.1 p.2))++[groR w t]:=by rw[tk1];simp
    rw[e9,List.map_append,<-hrl,hl1,zfk l1 h2];rfl
   refine⟨by simp,EV n signs top st.length a6 a7 a8 a9 (some (.tup [.str w,.int (t:Nat)])) none,WT st f ks rl dw g,by generalize WT st f ks rl dw g=Z;unfold EV;simp,EV n signs top st.length a6 a7 a8 a9 (some (.tup [.str w,.int (t:Nat)])) none,WT st f ks1 (rl++[encT f ks1 (groR w t)]) dw g,.inl ?_,ks1,_,by rw[tk1,groK_snoc,<-hK];exact hks,by omega,?_,rfl,by rw[fin]⟩
   ·rw[<-hB]
    have x0:∀s,ixV (.tup [.str w,.int (t:Nat)]) (.int 0) s=.ok (.str w) s:=fun s=>zav _ _ _ _ rfl
    have x1:∀s,ixV (.tup [.str w,.int (t:Nat)]) (.int 1) s=.ok (.int (t:Nat)) s:=fun s=>zav _ _ _ _ rfl
    generalize encT f ks1 (groR w t)=ER at *
    generalize WT st f ks1 (rl++[ER]) dw g=Z3 at *
    generalize WT st f ks1 rl dw g=Z1 at *
    generalize WT st f ks rl dw g=Z0 at *
    generalize ((t:Nat):Int)=RG at *
    generalize D.tup [.str w,.int RG]=TT at *
    unfold EV
    simp[x0,x1,gs,ap,ty,ty0]
   ·intro q hqq
    rw[tk1,List.map_append,<-List.append_assoc]at hqq
    rcases List.mem_append.mp hqq with h | h
    ·rw[hl1];exact zge _ (h2 q h)
    ·have:q=groR w t:=by simpa using h
     subst this
     exact hin) (fun _ _ _=>by simp)
 rw[List.length_map]at h1 h2 e1 hK
 rw[List.take_length]at h2 e1 hK
 exact⟨ks,a10,hK,h1,h2,e1⟩
theorem loop4 (ts:List Nat)(dw:MO)(hdw:∀n,underO n dw)(signs:List Nat)(top n f:Nat)(st:Stor)(hwf:M.wf st)(hl:ts.length<=1000)(hs:∀c∈signs,c<128)(hsl:signs.length<=100)(B:MS)(ks0:List TK)(R1:List TQ)(h0:∀q∈R1,inRT ks0 q)(hR:R1.length<=400000)(hk:ks0.length<=90000)(g0:Stor)(hg0:∀o∈g0,∀n,underO n o)(a6 a7 a8 a9 a10:Option D)
  (hB:(seqS (setS 8 (callF zbc [] (consA (vr 3) (consA (vr 11) nilA))))
  (seqS (exprS (methE "list" extendV (vr 4) (consA (callF zat [] (consA (vr 8) (consA (vr 1) (consA (ct (.str [108])) nilA)))) nilA)))
  (exprS (methE "list" appendV (vr 4) (consA (tupE (consA (vr 8) (consA (ct (.str [95])) (consA (ct (.str [95])) (consA (ct (.str [114])) (consA (vr 11) nilA)))))) nilA)))):MS)=B) :
  ∃ks g a8' a11,ks=bakK ks0 ts/\ks.length<=ks0.length+ts.length/\(∀q∈R1++backL signs ts,inRT ks q)/\(∀o∈g,∀n,underO n o)/\(backL signs ts).length<=1000*101 /\
   forGo (nameG 11) B [] (ts.map fun t=>D.int (t:Nat)) (EV n signs top st.length a6 a7 a8 a9 a10 none) (WT st f ks0 (R1.map (encT f ks0)) dw g0)
    = .ok (.nx (EV n signs top st.length a6 a7 a8' a9 a10 a11)) (WT st f ks ((R1++backL signs ts).map (encT f ks)) dw g):=by
 obtain⟨env1,st1,e1,ks,g,a8',a11,hK,h1,h2,h3,h4,rfl,rfl⟩:=zbx (g:=nameG 11) (b:=B) (gs:=[]) (items:=ts.map fun t=>D.int (t:Nat))
  (fun i env s=>∃(ks:List TK) (g:Stor) (a8 a11:Option D),ks=bakK ks0 (ts.take i)/\ks.length<=ks0.length+i/\(∀q∈R1++backL signs (ts.take i),inRT ks q)/\(∀o∈g,∀n,underO n o)/\(backL signs (ts.take i)).length<=i*101 /\
   env=EV n signs top st.length a6 a7 a8 a9 a10 a11/\s=WT st f ks ((R1++backL signs (ts.take i)).map (encT f ks)) dw g)
  (env:=EV n signs top st.length a6 a7 a8 a9 a10 none) (st:=WT st f ks0 (R1.map (encT f ks0)) dw g0)
  ⟨ks0,g0,a8,none,rfl,by omega,by simpa[backL] using h0,hg0,by simp[backL],rfl,by simp[backL]⟩ (by
   rintro i d env s hi ⟨ks,g,a8,a11,hK,h1,h2,h3,h4,rfl,rfl⟩
   rw[List.getElem?_map]at hi
   obtain⟨t,hr,rfl⟩:=Option.map_eq_some_iff.mp hi
   have hil:=(List.getElem?_eq_some_iff.mp hr).1
   have tk1:ts.take (i+1)=ts.take i++[t]:=by rw[List.take_succ,hr];rfl
   generalize hrl:(R1++backL signs (ts.take i)).map (encT f ks)=rl
   have hrll:rl.length<=400000+i*101:=by rw[<-hrl];simp;omega
   have hu:∀n,unders n rl:=fun n=>by rw[<-hrl];exact zcm _ _ _ _
   have gs:=WT.back (st:=st) (f:=f) (ks:=ks) (rl:=rl) (dw:=dw) (g:=g) hwf hu hdw h3 (by omega) t
   obtain⟨l1,hl1⟩:=zfx ks (bk t)
   have kl:=zfv ks (bk t)
   have km:=ze5 ks (bk t)
   generalize hks:regT ks (bk t)=ks1 at *
   have pa:=zie ((numT f ks1 (tk (bk t)):Nat):Int) signs [108] (WT st f ks1 rl dw g) hs (by omega)
   rw[WT.len,WT.snoc]at pa
   have eP:(signs.map fun c=>D.tup [.int (numT f ks1 (tk (bk t)):Nat),.str [c],.str [c],.str [108],.int (numT f ks1 (tk (bk t)):Nat)])=(signs.map (pasR (bk t) false)).map (encT f ks1):=by
    rw[List.map_map];rfl
   rw[eP]at pa
   generalize hps:(signs.map (pasR (bk t) false)).map (encT f ks1)=PS at *
   have hpl:PS.length=signs.length:=by rw[<-hps];simp
   have hxt:=WT.ext (st:=st) (f:=f) (ks:=ks1) (rl:=rl) (dw:=dw) (g:=g) (rs:=PS) (by omega)
   have e0:D.tup [.int (numT f ks1 (tk (bk t)):Nat),.str [95],.str [95],.str [114],.int (t:Nat)]=encT f ks1 (bakR t):=rfl
   have ap:=WT.app (st:=st) (f:=f) (ks:=ks1) (rl:=rl++PS) (dw:=dw) (g:=g++[.lst PS]) (by simp;omega) (encT f ks1 (bakR t))
   rw[<-e0]at ap
   have ty:=WT.ty (st:=st) (f:=f) (ks:=ks1) (rl:=rl) (dw:=dw) (g:=g++[.lst PS])
   have ty0:=WT.ty (st:=st) (f:=f) (ks:=ks1) (rl:=rl) (dw:=dw) (g:=g)
   have ty1:=WT.ty (st:=st) (f:=f) (ks:=ks1) (rl:=rl++PS) (dw:=dw) (g:=g++[.lst PS])
   have fin:rl++PS++[encT f ks1 (bakR t)]=(R1++backL signs (ts.take (i+1))).map (encT f ks1):=by
    have e9:R1++backL signs (ts.take (i+1))=(R1++backL signs (ts.take i))++signs.map (pasR (bk t) false)++[bakR t]:=by rw[tk1,zgt];simp
    rw[e9,List.map_append,List.map_append,hps,<-hrl]
    have e8:(R1++backL signs (ts.take i)).map (encT f ks1)=(R1++backL signs (ts.take i)).map (encT f ks):=by rw[hl1,zfk l1 h2]
    rw[e8];rfl
   refine⟨by simp,EV n signs top st.length a6 a7 a8 a9 a10 (some (.int (t:Nat))),WT st f ks rl dw g,by generalize WT st f ks rl dw g=Z;unfold EV;simp,EV n signs top st.length a6 a7 (some (.int (numT f ks1 (tk (bk t)):Nat))) a9 a10 (some (.int (t:Nat))),WT st f ks1 (rl++PS++[encT f ks1 (bakR t)]) dw (g++[.lst PS]),.inl ?_,ks1,g++[.lst PS],_,_,by rw[tk1,bakK_snoc,<-hK];exact hks.symm,by omega,?_,?_,?_,rfl,by rw[fin]⟩
   ·rw[<-hB]
    rw[<-e0]
    generalize ((numT f ks1 (tk (bk t)):Nat):Int)=NV at *
    generalize ((t:Nat):Int)=RG at *
    generalize WT st f ks1 (rl++PS++[D.tup [.int NV,.str [95],.str [95],.str [114],.int RG]]) dw (g++[.lst PS])=Z4 at *
    generalize WT st f ks1 (rl++PS) dw (g++[.lst PS])=Z3 at *
    generalize WT st f ks1 rl dw (g++[.lst PS])=Z2 at *
    generalize WT st f ks1 rl dw g=Z1 at *
    generalize WT st f ks rl dw g=Z0 at *
    generalize st.length+4+g.length=Y at *
    unfold EV
    simp[gs,pa,hxt,ty,ty0,ty1,ap]
   ·intro q hq
    rw[tk1,zgt,<-List.append_assoc]at hq
    rcases List.mem_append.mp hq with h | h
    ·rw[hl1];exact zge _ (h2 q h)
    ·rcases List.mem_append.mp h with h | h
     ·obtain⟨c,_,rfl⟩:=List.mem_map.mp h
      exact⟨km,km⟩
     ·have:q=bakR t:=by simpa using h
      subst this
      exact⟨km,trivial⟩
   ·intro o ho
    rcases List.mem_append.mp ho with h | h
    ·exact h3 o h
    ·have:o=_:=List.mem_singleton.mp h
     subst this
     intro m
     rw[<-hps]
     exact zcm _ _ _ _
   ·rw[tk1,zgt,List.length_append,List.length_append,List.length_map];simp;omega) (fun _ _ _=>by simp)
 rw[List.length_map]at h1 h2 h4 e1 hK
 rw[List.take_length]at h2 h4 e1 hK
 exact⟨ks,g,a8',a11,hK,h1,h2,h3,by have:=Nat.mul_le_mul_right 101 hl;omega,e1⟩
end Law
set_option maxHeartbeats 0
namespace Law
open L2 M TK TS
theorem zhp {signs:List Nat}{ps:List (List Nat×Nat)}{q:TQ}:q∈passL signs ps ↔ ∃p∈ps,∃c∈signs,q=pasR (gr p.1 p.2) true c:=by
 unfold passL
 simp only[List.mem_flatten,List.mem_map]
 constructor
 ·rintro ⟨l,⟨p,hp,rfl⟩,hq⟩
  obtain⟨c,hc,rfl⟩:=List.mem_map.mp hq
  exact⟨p,hp,c,hc,rfl⟩
 ·rintro ⟨p,hp,c,hc,rfl⟩
  exact⟨_,⟨p,hp,rfl⟩,List.mem_map.mpr ⟨c,hc,rfl⟩⟩
theorem zgh {signs:List Nat}{ts:List Nat}{q:TQ}:q∈backL signs ts ↔ ∃t∈ts,(∃c∈signs,q=pasR (bk t) false c)\/q=bakR t:=by
 unfold backL
 simp only[List.mem_flatten,List.mem_map]
 constructor
 ·rintro ⟨l,⟨t,ht,rfl⟩,hq⟩
  rcases List.mem_append.mp hq with h | h
  ·obtain⟨c,hc,rfl⟩:=List.mem_map.mp h
   exact⟨t,ht,.inl ⟨c,hc,rfl⟩⟩
  ·exact⟨t,ht,.inr (by simpa using h)⟩
 ·rintro ⟨t,ht,h⟩
  refine⟨_,⟨t,ht,rfl⟩,?_⟩
  rcases h with⟨c,hc,rfl⟩ | rfl
  ·exact List.mem_append_left _ (List.mem_map.mpr ⟨c,hc,rfl⟩)
  ·simp
noncomputable def allK (RL:List Rl)(signs:List Nat):List TQ:=RL.map srcR++passL signs (srcP RL)++(lfK (srcP RL)).map (fun p=>groR p.1 p.2)++backL signs (tgK (srcP RL))
noncomputable def ksK (RL:List Rl):List TK:=bakK (groK (pasK (srcK RL) (srcP RL)) (lfK (srcP RL))) (tgK (srcP RL))
theorem zi9 (RL:List Rl)(signs:List Nat)(top n:Nat)(st:Stor)(hwf:M.wf st)(hgt:st[n]? = some (.lst (RL.map encRl)))(hl:RL.length<=400)(hw:∀r∈RL,r.w.length<=90)(hs:∀c∈signs,c<128)(hsl:signs.length<=100) :
  ∃ks ALL,(ks=ksK RL/\ALL=allK RL signs)/\AllT RL signs ks ALL/\ALL.length<=500000/\(∃(ps qs:List (List Nat×Nat)) (ts:List Nat),(ps=srcP RL/\qs=lfK (srcP RL)/\ts=tgK (srcP RL))/\ALL=RL.map srcR++passL signs ps++qs.map (fun p=>groR p.1 p.2)++backL signs ts/\ps.Nodup/\qs.Nodup/\ts.Nodup) /\
   zbn [.loc n,.str signs,.int (top:Nat)] st=.ok (.loc st.length) (st++[.lst (ALL.map (encT (top+1) ks))]):=by
 have hg:lstG st n=some (RL.map encRl,.lst (RL.map encRl)):=by unfold lstG;rw[hgt]
 generalize hf:top+1=f
 unfold zbn gcF fnM zcj
 generalize hB1:(seqS (asgS (ct (.bl true)) (subG setDV (vr 5) _)) _:MS)=B1
 generalize hB2:(seqS (setS 8 (callF zar [] _)) _:MS)=B2
 generalize hB3:(exprS (methE "list" appendV (vr 4) (consA (callF zbk [] _) nilA)):MS)=B3
 generalize hB4:(seqS (setS 8 (callF zbc [] _)) _:MS)=B4
 obtain⟨ks1,ps,a6,hK1,k1,p1,pn,pall,pof,in1,f1⟩:=loop1 RL signs top n f st hwf hgt (by omega) (fun r h=>by have:=hw r h;omega) B1 hB1
 have hpw:∀p∈ps,p.1.length<=90:=fun p hp=>by
  obtain⟨r,h1,rfl⟩:=pof p hp
  exact hw r h1
 obtain⟨ks2,g2,a7,a8,hK2,k2,in2,u2,l2,f2⟩:=loop2 ps signs top n f st hwf (by omega) hs hsl B2 ks1 (RL.map srcR) in1 (by simp;omega) (by omega) a6 hB2
 generalize hR2:RL.map srcR++passL signs ps=R2 at *
 have hR2l:R2.length<=101000:=by rw[<-hR2];simp;omega

 obtain⟨qs,hQ,hq,f3⟩:=ziq ps (st.length+3) 90 (WT st f ks2 (R2.map (encT f ks2)) (.dtf (kvsP ps)) g2) WT.at3 hpw (by omega) (by omega)
 have hql:qs.length<=400*91:=Nat.le_trans hq.len (Nat.mul_le_mul_right 91 (by omega))
 rw[WT.len,WT.snoc]at f3
 have hqw:∀p∈qs,p.1.length<=100:=fun q h=>by
  obtain⟨p,h1,k,h2,rfl⟩:=hq.of_ q h
  have:=hpw p h1
  simp only[List.length_drop];omega
 have u3:∀o∈g2++[MO.dtf (kvsP qs)],∀n,underO n o:=by
  intro o ho
  rcases List.mem_append.mp ho with h | h
  ·exact u2 o h
  ·have:o=_:=List.mem_singleton.mp h
   subst this;exact fun n=>zd1 n _
 obtain⟨ks3,a10,hK3,k3,in3,f4⟩:=loop3 qs (.dtf (kvsP ps)) (fun n=>zd1 n _) signs top n f st hwf (by omega) hqw B3 ks2 R2 in2 (by omega) (by omega) (g2++[.dtf (kvsP qs)]) u3 a6 a7 a8 (some (.loc (st.length+4+g2.length))) hB3
 generalize hR3:R2++qs.map (fun p=>groR p.1 p.2)=R3 at *
 have hR3l:R3.length<=150000:=by rw[<-hR3];simp;omega

 obtain⟨ts,hT,t1,t2,t3,t4,f5⟩:=zib ps (st.length+3) (WT st f ks3 (R3.map (encT f ks3)) (.dtf (kvsP ps)) (g2++[.dtf (kvsP qs)])) WT.at3 (by omega)
 rw[WT.len,WT.snoc]at f5
 have u4:∀o∈g2++[MO.dtf (kvsP qs)]++[MO.dkf (kvsG ts)],∀n,underO n o:=by
  intro o ho
  rcases List.mem_append.mp ho with h | h
  ·exact u3 o h
  ·have:o=_:=List.mem_singleton.mp h
   subst this;exact fun n=>zin n _
 obtain⟨ks4,g4,a8',a11,hK4,k4,in4,u5,l4,f6⟩:=loop4 ts (.dtf (kvsP ps)) (fun n=>zd1 n _) signs top n f st hwf (by omega) hs hsl B4 ks3 R3 in3 (by omega) (by omega) (g2++[.dtf (kvsP qs)]++[.dkf (kvsG ts)]) u4 a6 a7 a8 (some (.loc (st.length+4+g2.length))) a10 hB4
 have eA:R3++backL signs ts=RL.map srcR++passL signs ps++qs.map (fun p=>groR p.1 p.2)++backL signs ts:=by rw[<-hR3,<-hR2]
 refine⟨ks4,R3++backL signs ts,⟨by unfold ksK;rw[<-hK1.1,<-hK1.2,<-hK2,<-hQ,<-hK3,<-hT,<-hK4],by rw[eA];unfold allK;rw[<-hK1.2,<-hQ,<-hT]⟩,⟨?_,in4,?_,?_,?_,?_,?_⟩,by rw[List.length_append];omega,⟨ps,qs,ts,⟨hK1.2,by rw[<-hK1.2];exact hQ,by rw[<-hK1.2];exact hT⟩,eA,pn,hq.nd,t4⟩,?_⟩
 ·intro q h
  rw[eA]at h
  rcases List.mem_append.mp h with h | h
  ·rcases List.mem_append.mp h with h | h
   ·rcases List.mem_append.mp h with h | h
    ·obtain⟨r,hr,rfl⟩:=List.mem_map.mp h
     exact .src r hr
    ·obtain⟨p,_,c,hc,rfl⟩:=zhp.mp h
     exact .pas _ _ c hc
   ·obtain⟨p,_,rfl⟩:=List.mem_map.mp h
    exact .gro _ _
  ·obtain⟨t,_,h⟩:=zgh.mp h
   rcases h with⟨c,hc,rfl⟩ | rfl
   ·exact .pab _ c hc
   ·exact .bak _
 ·intro r hr
  rw[eA]
  exact List.mem_append_left _ (List.mem_append_left _ (List.mem_append_left _ (List.mem_map.mpr ⟨r,hr,rfl⟩)))
 ·intro r hr c hc
  rw[eA]
  exact List.mem_append_left _ (List.mem_append_left _ (List.mem_append_right _ (zhp.mpr ⟨(r.w,r.g),pall r hr,c,hc,rfl⟩)))
 ·intro r hr k hk
  rw[eA]
  exact List.mem_append_left _ (List.mem_append_right _ (List.mem_map.mpr ⟨(r.w.drop k,r.g),hq.all (r.w,r.g) (pall r hr) k hk,rfl⟩))
 ·intro r hr c hc
  exact List.mem_append_right _ (zgh.mpr ⟨r.g,t1 (r.w,r.g) (pall r hr),.inl ⟨c,hc,rfl⟩⟩)
 ·intro r hr
  exact List.mem_append_right _ (zgh.mpr ⟨r.g,t1 (r.w,r.g) (pall r hr),.inr rfl⟩)
 ·have ef:((top:Nat):Int)+1=((f:Nat):Int):=by omega
  have hin:=init_ok st f
  have gcx:=gc_new (st:=st) (g:=[insN st.length f,.dic (kvsT f ks4)]) (g':=MO.dtf (kvsP ps)::g4) (o:=.lst ((R3++backL signs ts).map (encT f ks4))) (zcm _ _ _ _)
  have eW:st++[insN st.length f,.dic (kvsT f ks4)]++MO.lst ((R3++backL signs ts).map (encT f ks4))::(MO.dtf (kvsP ps)::g4)=WT st f ks4 ((R3++backL signs ts).map (encT f ks4)) (.dtf (kvsP ps)) g4:=by simp[WT]
  rw[eW]at gcx
  have eW0:st++[insN st.length f,.dic []]++[.lst [],.dic []]=WT st f [] [] (.dic []) []:=by simp[WT,kvsT]
  have hl0:(st++[insN st.length f,.dic []]).length=st.length+2:=by simp
  have hl1:st.length+2+1=st.length+3:=rfl
  have hg0:(WT st f [] [] (.dic []) [])[n]? = some (.lst (RL.map encRl)):=WT.old hgt
  have hmk:makeE "Numbers" zbj (consA (op2 addV (vr 2) (ct (.int 1))) nilA) [some (.loc n),some (.str signs),some (.int (top:Nat)),none,none,none,none,none,none,none,none,none] st=.ok (.loc st.length) (st++[insN st.length f,.dic []]):=by
   unfold makeE
   have a1:(consA (op2 addV (vr 2) (ct (.int 1))) nilA:MA) [some (.loc n),some (.str signs),some (.int (top:Nat)),none,none,none,none,none,none,none,none,none] st=.ok [.int (f:Nat)] st:=by simp[ef]
   rw[a1,R.bind_ok,hin]
   rfl

  have d1:=r_dtI_c (m:=vr 5) (env:=EV n signs top st.length a6 none none none none none) (st:=WT st f ks1 ((RL.map srcR).map (encT f ks1)) (.dic (kvsP ps)) []) (st1:=WT st f ks1 ((RL.map srcR).map (encT f ks1)) (.dic (kvsP ps)) []) (n:=st.length+3) rfl WT.at3
  rw[zfj,WT.set3]at d1
  have d2:=r_dtI_c (m:=vr 9) (env:=EV n signs top st.length a6 a7 a8 (some (.loc (st.length+4+g2.length))) none none) (st:=WT st f ks2 (R2.map (encT f ks2)) (.dtf (kvsP ps)) (g2++[.dic (kvsP qs)])) (st1:=WT st f ks2 (R2.map (encT f ks2)) (.dtf (kvsP ps)) (g2++[.dic (kvsP qs)])) (n:=st.length+4+g2.length) rfl WT.at4
  rw[zfj,WT.set4]at d2
  have c5:callF zbp [] (consA (vr 5) nilA) (EV n signs top st.length a6 a7 a8 (some (.loc (st.length+4+g2.length))) a10 none) (WT st f ks3 (R3.map (encT f ks3)) (.dtf (kvsP ps)) (g2++[.dtf (kvsP qs)]))=.ok (.loc (st.length+4+(g2++[MO.dtf (kvsP qs)]).length)) (WT st f ks3 (R3.map (encT f ks3)) (.dtf (kvsP ps)) (g2++[.dtf (kvsP qs)]++[.dkc (kvsG ts)])):=by
   generalize WT st f ks3 (R3.map (encT f ks3)) (.dtf (kvsP ps)) (g2++[.dtf (kvsP qs)])=Z at *
   unfold EV
   simp[f5]
  have d3:=r_dkI_c (m:=callF zbp [] (consA (vr 5) nilA)) (env:=EV n signs top st.length a6 a7 a8 (some (.loc (st.length+4+g2.length))) a10 none) (st:=WT st f ks3 (R3.map (encT f ks3)) (.dtf (kvsP ps)) (g2++[.dtf (kvsP qs)])) c5 WT.at4
  rw[zmp,WT.set4]at d3
  rw[show startM 12 [D.loc n,.str signs,.int (top:Nat)]=[some (.loc n),some (.str signs),some (.int (top:Nat)),none,none,none,none,none,none,none,none,none] from rfl]
  generalize hMK:makeE "Numbers" zbj _=MK at *
  generalize hD1:dtI (vr 5)=DT5 at *
  generalize hD2:dtI (vr 9)=DT9 at *
  generalize hD3:dkI (callF zbp [] (consA (vr 5) nilA))=DK at *
  generalize (R3++backL signs ts).map (encT f ks4)=RL4 at *
  generalize WT st f ks4 RL4 _ _=Z9 at *
  generalize WT st f ks3 _ _ (g2++[MO.dtf (kvsP qs)]++[MO.dkf (kvsG ts)])=Z8 at *
  generalize WT st f ks3 _ _ (g2++[MO.dtf (kvsP qs)])=Z7 at *
  generalize WT st f ks2 _ _ (g2++[MO.dtf (kvsP qs)])=Z6 at *
  generalize WT st f ks2 _ _ (g2++[MO.dic (kvsP qs)])=Z5 at *
  generalize WT st f ks2 _ _ g2=Z4 at *
  generalize WT st f ks1 _ (MO.dtf (kvsP ps)) []=Z3 at *
  generalize WT st f ks1 _ (MO.dic (kvsP ps)) []=Z2 at *
  generalize WT st f [] [] (MO.dic []) []=Z1 at *
  generalize (ps.map fun p=>D.tup [.str p.1,.int (p.2:Nat)])=I1 at *
  generalize (qs.map fun p=>D.tup [.str p.1,.int (p.2:Nat)])=I2 at *
  generalize (ts.map fun t=>D.int (t:Nat))=I3 at *
  generalize RL.map encRl=RLE at *
  unfold EV at *
  generalize st++[insN st.length f,.dic []]=Z0 at *
  generalize st.length+4+g2.length=Y at *
  simp[hmk,dicE,hl0,hl1,eW0,hg0,f1,d1,f2,f3,d2,f4,d3,f6]
  exact gcx
end Law
set_option maxHeartbeats 0
namespace Law
open L2 M TK TS
noncomputable def KT (q:TQ):M.TS×Nat:=(q.s,q.x)
noncomputable abbrev unT (a b:TQ):Prop:=KT a≠KT b
theorem unT_s {a b:TQ}(h:a.s≠b.s):unT a b:=fun e=>h (congrArg Prod.fst e)
theorem unT_x {a b:TQ}(h:a.x≠b.x):unT a b:=fun e=>h (congrArg Prod.snd e)
theorem groR_s (w:List Nat)(t:Nat):(groR w t).s=tk (gr w t)/\(groR w t).x=95:=by cases w<;>exact⟨rfl,rfl⟩
theorem passL_un {signs:List Nat}(hs:signs.Nodup){ps:List (List Nat×Nat)}(hp:ps.Nodup):(passL signs ps).Pairwise unT:=by
 unfold passL
 refine List.pairwise_flatten.mpr ⟨fun l hl=>?_,?_⟩
 ·obtain⟨p,_,rfl⟩:=List.mem_map.mp hl
  rw[List.pairwise_map]
  exact hs.imp (fun {a b} (h:a≠b)=>(unT_x h:unT (pasR _ _ a) (pasR _ _ b)))
 ·rw[List.pairwise_map]
  refine hp.imp fun {a b} h x hx y hy=>unT_s ?_
  obtain⟨c,_,rfl⟩:=List.mem_map.mp hx
  obtain⟨d,_,rfl⟩:=List.mem_map.mp hy
  intro e
  have e:tk (gr a.1 a.2)=tk (gr b.1 b.2):=e
  injection e with e
  injection e with e1 e2
  exact h (Prod.ext e1 e2)
theorem backL_un {signs:List Nat}(hs:signs.Nodup)(h95:95∉signs){ts:List Nat}(ht:ts.Nodup):(backL signs ts).Pairwise unT:=by
 unfold backL
 refine List.pairwise_flatten.mpr ⟨fun l hl=>?_,?_⟩
 ·obtain⟨t,_,rfl⟩:=List.mem_map.mp hl
  refine List.pairwise_append.mpr ⟨by rw[List.pairwise_map];exact hs.imp (fun {a b} (h:a≠b)=>(unT_x h:unT (pasR _ _ a) (pasR _ _ b))),by simp,fun a ha b hb=>unT_x ?_⟩
  obtain⟨c,hc,rfl⟩:=List.mem_map.mp ha
  rw[List.mem_singleton.mp hb]
  intro e
  have e:c=95:=e
  exact h95 (e ▸ hc)
 ·rw[List.pairwise_map]
  have own:∀(t:Nat) (x:TQ),x∈signs.map (pasR (bk t) false)++[bakR t]->x.s=tk (bk t):=by
   intro t x hx
   rcases List.mem_append.mp hx with hx | hx
   ·obtain⟨c,_,rfl⟩:=List.mem_map.mp hx;rfl
   ·rw[List.mem_singleton.mp hx];rfl
  refine ht.imp fun {a b} h x hx y hy=>unT_s ?_
  rw[own a x hx,own b y hy]
  intro e
  injection e with e
  injection e with e
  exact h e
theorem allK_un {RL:List Rl}{signs:List Nat}(hR:RL.Pairwise fun a b=>¬ (a.s=b.s/\a.x=b.x))(hs:signs.Nodup)(h95:95∉signs)(hp:(srcP RL).Nodup)(hq:(lfK (srcP RL)).Nodup)(ht:(tgK (srcP RL)).Nodup):(allK RL signs).Pairwise unT:=by
 unfold allK
 have isB:∀x∈backL signs (tgK (srcP RL)),∃t,x.s=tk (bk t):=by
  intro x hx
  obtain⟨t,_,h⟩:=zgh.mp hx
  rcases h with⟨c,_,rfl⟩ | rfl
  ·exact⟨t,rfl⟩
  ·exact⟨t,rfl⟩
 have isG:∀x∈(lfK (srcP RL)).map (fun p=>groR p.1 p.2),∃w t,x.s=tk (gr w t)/\x.x=95:=by
  intro x hx
  obtain⟨p,_,rfl⟩:=List.mem_map.mp hx
  exact⟨p.1,p.2,groR_s _ _⟩
 have isP:∀x∈passL signs (srcP RL),∃w t,x.s=tk (gr w t)/\x.x∈signs:=by
  intro x hx
  obtain⟨p,_,c,hc,rfl⟩:=zhp.mp hx
  exact⟨p.1,p.2,rfl,hc⟩
 have isS:∀x∈RL.map srcR,∃n,x.s=tp n:=by
  intro x hx
  obtain⟨r,_,rfl⟩:=List.mem_map.mp hx
  exact⟨r.s,rfl⟩
 refine List.pairwise_append.mpr ⟨List.pairwise_append.mpr ⟨List.pairwise_append.mpr ⟨?_,passL_un hs hp,?_⟩,?_,?_⟩,backL_un hs h95 ht,?_⟩
 ·rw[List.pairwise_map]
  refine hR.imp fun {a b} h e=>h ?_
  have e:(tp a.s,a.x)=(tp b.s,b.x):=e
  injection e with e1 e2
  injection e1 with e1
  exact⟨e1,e2⟩
 ·intro a ha b hb
  obtain⟨n,e1⟩:=isS a ha
  obtain⟨w,t,e2,_⟩:=isP b hb
  exact unT_s (by rw[e1,e2];exact fun e=>nomatch e)
 ·rw[List.pairwise_map]
  refine hq.imp fun {a b} h=>unT_s ?_
  rw[(groR_s _ _).1,(groR_s _ _).1]
  intro e
  injection e with e
  injection e with e1 e2
  exact h (Prod.ext e1 e2)
 ·intro a ha b hb
  obtain⟨w,t,e2,e3⟩:=isG b hb
  rcases List.mem_append.mp ha with ha | ha
  ·obtain⟨n,e1⟩:=isS a ha
   exact unT_s (by rw[e1,e2];exact fun e=>nomatch e)
  ·obtain⟨_,_,_,e4⟩:=isP a ha
   exact unT_x (fun e=>h95 (by rw[e3]at e;rw[<-e];exact e4))
 ·intro a ha b hb
  obtain⟨t,e2⟩:=isB b hb
  rcases List.mem_append.mp ha with ha | ha
  ·rcases List.mem_append.mp ha with ha | ha
   ·obtain⟨n,e1⟩:=isS a ha
    exact unT_s (by rw[e1,e2];exact fun e=>nomatch e)
   ·obtain⟨_,_,e1,_⟩:=isP a ha
    exact unT_s (by rw[e1,e2];exact fun e=>nomatch e)
  ·obtain⟨_,_,e1,_⟩:=isG a ha
   exact unT_s (by rw[e1,e2];exact fun e=>nomatch e)
end Law
set_option maxHeartbeats 0
namespace Law
open L2 M TK TS
theorem srcP_of (RL:List Rl):(∀p∈srcP RL,∃r∈RL,p=(r.w,r.g))/\(srcP RL).length<=RL.length/\(srcP RL).Nodup:=by
 have key:∀(l:List Rl) (ps:List (List Nat×Nat)),(∀p∈l.foldl (fun ps r=>addP ps (r.w,r.g)) ps,p∈ps\/∃r∈l,p=(r.w,r.g))/\(l.foldl (fun ps r=>addP ps (r.w,r.g)) ps).length<=ps.length+l.length/\(ps.Nodup->(l.foldl (fun ps r=>addP ps (r.w,r.g)) ps).Nodup):=by
  intro l
  induction l with
  | nil=>intro ps;exact⟨fun p h=>.inl h,by simp,fun h=>h⟩
  | cons r l ih =>
   intro ps
   obtain⟨h1,h2,h3⟩:=ih (addP ps (r.w,r.g))
   refine⟨fun p hp=>?_,?_,fun h=>h3 (zd3 h _)⟩
   ·rcases h1 p hp with h | ⟨r',hr,e⟩
    ·rcases zim h with h | h
     ·exact .inl h
     ·exact .inr ⟨r,by simp,h⟩
    ·exact .inr ⟨r',by simp[hr],e⟩
   ·have:=zf2 ps (r.w,r.g)
    simp only[List.foldl_cons,List.length_cons]
    omega
 obtain⟨h1,h2,h3⟩:=key RL []
 refine⟨fun p hp=>?_,by simp only[List.length_nil,Nat.zero_add]at h2;exact h2,h3 .nil⟩
 rcases h1 p hp with h | h
 ·exact nomatch h
 ·exact h
theorem lfn_of (w:List Nat)(t:Nat)(qs:List (List Nat×Nat)):∀j,(∀q∈lfn qs w t j,q∈qs\/∃k,q=(w.drop k,t))/\(lfn qs w t j).length<=qs.length+j/\(qs.Nodup->(lfn qs w t j).Nodup)
 | 0=>⟨fun q h=>.inl h,by simp[lfn],fun h=>h⟩
 | j+1=>by
  obtain⟨h1,h2,h3⟩:=lfn_of w t qs j
  refine⟨fun q hq=>?_,?_,fun h=>zd3 (h3 h) _⟩
  ·rcases zim hq with h | h
   ·exact h1 q h
   ·exact .inr ⟨j,h⟩
  ·have:=zf2 (lfn qs w t j) (w.drop j,t)
   simp only[lfn];omega
theorem lfK_of (B:Nat)(ps:List (List Nat×Nat))(hB:∀p∈ps,p.1.length<=B):(∀q∈lfK ps,∃p∈ps,∃k,q=(p.1.drop k,p.2))/\(lfK ps).length<=ps.length*(B+1)/\(lfK ps).Nodup:=by
 have key:∀(l qs:List (List Nat×Nat)),(∀p∈l,p.1.length<=B)->(∀q∈l.foldl (fun qs p=>lfn qs p.1 p.2 (p.1.length+1)) qs,q∈qs\/∃p∈l,∃k,q=(p.1.drop k,p.2))/\(l.foldl (fun qs p=>lfn qs p.1 p.2 (p.1.length+1)) qs).length<=qs.length+l.length*(B+1)/\(qs.Nodup->(l.foldl (fun qs p=>lfn qs p.1 p.2 (p.1.length+1)) qs).Nodup):=by
  intro l
  induction l with
  | nil=>intro qs _;exact⟨fun p h=>.inl h,by simp,fun h=>h⟩
  | cons p l ih =>
   intro qs hb
   obtain⟨a1,a2,a3⟩:=lfn_of p.1 p.2 qs (p.1.length+1)
   obtain⟨h1,h2,h3⟩:=ih (lfn qs p.1 p.2 (p.1.length+1)) fun x hx=>hb x (by simp[hx])
   have hp:=hb p (by simp)
   refine⟨fun q hq=>?_,?_,fun h=>h3 (a3 h)⟩
   ·rcases h1 q hq with h | ⟨p',hp',e⟩
    ·rcases a1 q h with h | ⟨k,e⟩
     ·exact .inl h
     ·exact .inr ⟨p,by simp,k,e⟩
    ·exact .inr ⟨p',by simp[hp'],e⟩
   ·simp only[List.foldl_cons,List.length_cons]
    rw[Nat.add_mul,Nat.one_mul]
    omega
 obtain⟨h1,h2,h3⟩:=key ps [] hB
 refine⟨fun q hq=>?_,by simp only[List.length_nil,Nat.zero_add]at h2;exact h2,h3 .nil⟩
 rcases h1 q hq with h | h
 ·exact nomatch h
 ·exact h
theorem tgK_of (ps:List (List Nat×Nat)):(tgK ps).length<=ps.length/\(tgK ps).Nodup:=by
 have key:∀(l:List (List Nat×Nat)) (ts:List Nat),(l.foldl (fun ts p=>addP ts p.2) ts).length<=ts.length+l.length/\(ts.Nodup->(l.foldl (fun ts p=>addP ts p.2) ts).Nodup):=by
  intro l
  induction l with
  | nil=>intro ts;exact⟨by simp,fun h=>h⟩
  | cons p l ih =>
   intro ts
   obtain⟨h2,h3⟩:=ih (addP ts p.2)
   refine⟨?_,fun h=>h3 (zd3 h _)⟩
   have:=zf2 ts p.2
   simp only[List.foldl_cons,List.length_cons]
   omega
 obtain⟨h2,h3⟩:=key ps []
 exact⟨by simp only[List.length_nil,Nat.zero_add]at h2;exact h2,h3 .nil⟩
end Law
set_option maxHeartbeats 0
namespace M
open L2 TK TS
structure TC where
 s:TS
 l:List Nat
 h:Nat
 r:List Nat
noncomputable def atR (s:TS)(l r:List Nat):TC:=⟨s,l,r.headD 95,r.tail⟩
noncomputable def atL (s:TS)(l r:List Nat):TC:=⟨s,l.dropLast,l.getLastD 95,r⟩
noncomputable def moved (c:TC)(q:TQ):TC:=if q.mv then atR q.g (c.l++[q.w]) c.r else atL q.g c.l (q.w::c.r)
noncomputable def isTk:TS->Prop
 | tp _=>False
 | tk _=>True
noncomputable def fits (c:TC)(q:TQ):Prop:=c.s=q.s/\c.h=q.x
inductive ChT (ALL:List TQ):TC->Nat->TC->Prop where
 | nil (c:TC):ChT ALL c 0 c
 | cons (c:TC) (q:TQ) (n:Nat) (c':TC) (hq:q∈ALL) (hf:fits c q) (ht:isTk (moved c q).s) (h:ChT ALL (moved c q) n c'):ChT ALL c (n+1) c'
inductive Rn (ALL:List TQ) (c':TC):Nat->TC->Prop where
 | last (c:TC) (q:TQ) (hq:q∈ALL) (hf:fits c q) (e:moved c q=c'):Rn ALL c' 1 c
 | more (c:TC) (q:TQ) (n:Nat) (hq:q∈ALL) (hf:fits c q) (ht:isTk (moved c q).s) (h:Rn ALL c' n (moved c q)):Rn ALL c' (n+1) c
theorem ChT.run {ALL:List TQ}{c c1 c':TC}{n m:Nat}(h:ChT ALL c n c1)(k:Rn ALL c' m c1):Rn ALL c' (n+m) c:=by
 induction h with
 | nil c=>simpa using k
 | cons c q n c1 hq hf ht _ ih =>
  rw[show n+1+m=n+m+1 by omega]
  exact .more c q (n+m) hq hf ht (ih k)
theorem ChT.trans {ALL:List TQ}{c c1 c2:TC}{n m:Nat}(h:ChT ALL c n c1)(k:ChT ALL c1 m c2):ChT ALL c (n+m) c2:=by
 induction h with
 | nil c=>simpa using k
 | cons c q n c1 hq hf ht _ ih =>
  rw[show n+1+m=n+m+1 by omega]
  exact .cons c q (n+m) c2 hq hf ht (ih k)
theorem ChT.pass {ALL:List TQ}{k:TK}:∀(u l t:List Nat),(∀c∈u,pasR k true c∈ALL)->ChT ALL (atR (tk k) l (u++t)) u.length (atR (tk k) (l++u) t)
 | [],l,t,_=>by simpa using ChT.nil _
 | c::u,l,t,h=>by
  have ih:=ChT.pass (k:=k) u (l++[c]) t fun x hx=>h x (List.mem_cons_of_mem _ hx)
  rw[List.append_assoc]at ih
  exact .cons _ (pasR k true c) _ _ (h c List.mem_cons_self) ⟨rfl,rfl⟩ trivial ih
theorem ChT.grow {ALL:List TQ}{t:Nat}:∀(w l:List Nat),(∀j,j<=w.length->groR (w.drop j) t∈ALL)->ChT ALL (atR (tk (gr w t)) l []) w.length (atR (tk (gr [] t)) (l++w) [])
 | [],l,_=>by simpa using ChT.nil _
 | c::w,l,h=>by
  have ih:=ChT.grow (t:=t) w (l++[c]) fun j hj=>by simpa using h (j+1) (by simpa using hj)
  rw[List.append_assoc]at ih
  exact .cons _ (groR (c::w) t) _ _ (by simpa using h 0 (by simp)) ⟨rfl,rfl⟩ trivial ih
theorem ChT.back {ALL:List TQ}{k:TK}(l:List Nat):∀(n:Nat) (u r:List Nat),u.length=n->(∀c∈u,pasR k false c∈ALL)->ChT ALL (atL (tk k) (l++u) r) n (atL (tk k) l (u++r))
 | 0,u,r,hn,_=>by
  have:u=[]:=List.eq_nil_of_length_eq_zero hn
  subst this
  simpa using ChT.nil _
 | n+1,u,r,hn,h=>by
  have hne:u≠[]:=fun e=>by rw[e]at hn;cases hn
  obtain⟨u',c,rfl⟩:∃u' c,u=u'++[c]:=⟨u.dropLast,u.getLast hne,(List.dropLast_concat_getLast hne).symm⟩
  have ih:=ChT.back (k:=k) l n u' (c::r) (by simpa using hn) fun x hx=>h x (List.mem_append_left _ hx)
  have e1:atL (tk k) (l++(u'++[c])) r=⟨tk k,l++u',c,r⟩:=by
   unfold atL
   rw[<-List.append_assoc]
   simp
  rw[e1,List.append_assoc]
  exact .cons _ (pasR k false c) _ _ (h c (by simp)) ⟨rfl,rfl⟩ trivial ih
noncomputable def img (t k:Nat)(u:List Nat):TC:=atR (tp t) (List.replicate k 95) (u++if k=0 then [] else [95])
theorem lapT {RL:List Rl}{signs:List Nat}{ALL:List TQ}(src:∀r∈RL,srcR r∈ALL)(pas:∀r∈RL,∀c∈signs,pasR (gr r.w r.g) true c∈ALL)(gro:∀r∈RL,∀k,k<=r.w.length->groR (r.w.drop k) r.g∈ALL)
  (pab:∀r∈RL,∀c∈signs,pasR (bk r.g) false c∈ALL) (bak:∀r∈RL,bakR r.g∈ALL) {r:Rl} (hr:r∈RL) (rest:List Nat) (k:Nat) (h1:∀c∈rest,c∈signs) (h2:∀c∈r.w,c∈signs) :
  Rn ALL (img r.g (k+1) (rest++r.w)) (2*(rest.length+1)+2*r.w.length+1) (img r.s k (r.x::rest)):=by
 have hu:∀c∈rest++r.w,c∈signs:=fun c hc=>by
  rcases List.mem_append.mp hc with h | h
  ·exact h1 c h
  ·exact h2 c h

 have s6:Rn ALL (img r.g (k+1) (rest++r.w)) 1 (atL (tk (bk r.g)) (List.replicate k 95++[95]) (rest++r.w++[95])):=by
  have e0:atL (tk (bk r.g)) (List.replicate k 95++[95]) (rest++r.w++[95])=⟨tk (bk r.g),List.replicate k 95,95,rest++r.w++[95]⟩:=by unfold atL;simp
  rw[e0]
  refine .last _ (bakR r.g) (bak r hr) ⟨rfl,rfl⟩ ?_
  show atR (tp r.g) (List.replicate k 95++[95]) (rest++r.w++[95])=_
  unfold img
  rw[if_neg (by omega),List.replicate_succ']
 have s5:=(ChT.back (k:=bk r.g) (List.replicate k 95++[95]) (rest++r.w).length (rest++r.w) [95] rfl fun c hc=>pab r hr c (hu c hc)).run s6

 have s4:Rn ALL (img r.g (k+1) (rest++r.w)) ((rest++r.w).length+1+1) (atR (tk (gr [] r.g)) (List.replicate k 95++[95]++rest++r.w) []):=by
  refine .more _ (groR [] r.g) _ (by simpa using gro r hr r.w.length (Nat.le_refl _)) ⟨rfl,rfl⟩ trivial ?_
  have e0:moved (atR (tk (gr [] r.g)) (List.replicate k 95++[95]++rest++r.w) []) (groR [] r.g)=atL (tk (bk r.g)) (List.replicate k 95++[95]++(rest++r.w)) [95]:=by
   rw[<-List.append_assoc];rfl
  rw[e0];exact s5
 have s3:=(ChT.grow (t:=r.g) r.w (List.replicate k 95++[95]++rest) fun j hj=>gro r hr j hj).run s4

 have tail:∀(t:List Nat),(t=[]\/t=[95])->atR (tk (gr r.w r.g)) (List.replicate k 95++[95]++rest) t=atR (tk (gr r.w r.g)) (List.replicate k 95++[95]++rest) []:=by
  rintro t (rfl | rfl)<;>rfl
 have ht:(if k=0 then [] else [95])=([]:List Nat)\/(if k=0 then [] else [95])=([95]:List Nat):=by by_cases c:k=0<;>simp[c]
 rw[<-tail _ ht]at s3
 have s2:=(ChT.pass (k:=gr r.w r.g) rest (List.replicate k 95++[95]) (if k=0 then [] else [95]) fun c hc=>pas r hr c (h1 c hc)).run s3
 have e:2*(rest.length+1)+2*r.w.length+1=rest.length+(r.w.length+((rest++r.w).length+1+1))+1:=by rw[List.length_append];omega
 rw[e]
 exact .more _ (srcR r) _ (src r hr) ⟨rfl,rfl⟩ trivial s2
end M
set_option maxHeartbeats 0
namespace Law
open L2 M TK TS
noncomputable def kT (f:Nat)(ks:List TK)(s:M.TS)(x:Nat):List Key:=[.inl ((numT f ks s:Nat):Int),.inr (strOf [x])]
noncomputable def vT (f:Nat)(ks:List TK)(q:TQ):D:=.tup [.str [q.w],.str [mvC q.mv],.int (numT f ks q.g:Nat)]
theorem src_top {RL:List Rl}{signs:List Nat}{q:TQ}{f:Nat}(h:Gd RL signs q)(hT:∀r∈RL,r.s<f):∀n,q.s=tp n->n<f:=by
 intro n e
 cases h with
 | src r hr=>cases e;exact hT r hr
 | pas w t c _=>cases e
 | gro w t=>cases w<;>cases e
 | pab t c _=>cases e
 | bak t=>cases e
structure TbT (kvs:List (List Key×D))(f:Nat)(ks:List TK)(ALL:List TQ):Prop where
 has:∀q∈ALL,valM kvs (kT f ks q.s q.x)=some (vT f ks q)
 of_:∀k d,valM kvs k=some d->∃q∈ALL,k=kT f ks q.s q.x/\d=vT f ks q
theorem kT_one {RL:List Rl}{signs:List Nat}{ks:List TK}{ALL:List TQ}{f:Nat}(A:AllT RL signs ks ALL)(hs:95∉signs)(hR:∀r∈RL,∀r'∈RL,r.s=r'.s->r.x=r'.x->r.w=r'.w/\r.g=r'.g)(hT:∀r∈RL,r.s<f){a b:TQ}(ha:a∈ALL)(hb:b∈ALL)
  (e:kT f ks a.s a.x=kT f ks b.s b.x):a=b:=by
 unfold kT at e
 simp only[List.cons.injEq,Sum.inl.injEq,Sum.inr.injEq,zgi,and_true]at e
 have e1:numT f ks a.s=numT f ks b.s:=by omega
 have es:a.s=b.s:=numT_inj (A.inn a ha).1 (A.inn b hb).1 (src_top (A.good a ha) hT) (src_top (A.good b hb) hT) e1
 exact Gd.one hs hR (A.good a ha) (A.good b hb) es e.2
theorem putM_new {kvs:List (List Key×D)}{k:List Key}{d:D}:valM kvs k=none->(putM kvs k d).length=kvs.length+1:=by
 intro h
 have hn:(kvs.any fun kv=>decide (kv.1=k))=false:=by
  unfold valM at h
  rw[Option.map_eq_none_iff,List.find?_eq_none]at h
  rw[List.any_eq_false]
  exact h
 unfold putM
 rw[hn,if_neg (by simp)]
 simp
theorem tabT_ok {RL:List Rl}{signs:List Nat}{ks:List TK}{ALL:List TQ}{f:Nat}(A:AllT RL signs ks ALL)(hs:95∉signs)(hR:∀r∈RL,∀r'∈RL,r.s=r'.s->r.x=r'.x->r.w=r'.w/\r.g=r'.g)(hT:∀r∈RL,r.s<f)(hl:ALL.length<=900000)(hpw:ALL.Pairwise fun a b=>¬ (a.s=b.s/\a.x=b.x))(n:Nat)(st:Stor)(hg:st[n]? = some (.lst (ALL.map (encT f ks)))) :
  ∃kvs,TbT kvs f ks ALL/\kvs.length=ALL.length/\(∀p∈kvs,∀m,under m p.2)/\zdt [.loc n] st=.ok (.loc st.length) (st++[.dic kvs]):=by
 unfold zdt gcF fnM ze0
 generalize hBi:(asgS (tupE _) (subG setDV (vr 1) _):MS)=BI
 obtain⟨env',st',e1,kvs,a2,a3,a4,a5,a6,h1,h2,h3,h4,rfl,rfl⟩:=zbx (g:=tupG 5 (consG (nameG 2) (consG (nameG 3) (consG (nameG 4) (consG (nameG 5) (consG (nameG 6) nilG)))))) (b:=BI) (gs:=[(n,.lst (ALL.map (encT f ks)))]) (items:=ALL.map (encT f ks))
  (fun i env s=>∃(kvs:List (List Key×D)) (a2 a3 a4 a5 a6:Option D),(kvs.length=i/\∀k d,valM kvs k=some d->∃q∈ALL.take i,k=kT f ks q.s q.x)/\(∀q∈ALL.take i,valM kvs (kT f ks q.s q.x)=some (vT f ks q))/\(∀k d,valM kvs k=some d->∃q∈ALL,k=kT f ks q.s q.x/\d=vT f ks q)/\(∀p∈kvs,∀m,under m p.2) /\
   env=[some (.loc n),some (.loc st.length),a2,a3,a4,a5,a6]/\s=st++[.dic kvs])
  (env:=[some (.loc n),some (.loc st.length),none,none,none,none,none]) (st:=st++[.dic []]) ⟨[],none,none,none,none,none,by simp,by simp,by simp,by simp,rfl,rfl⟩ (by
   rintro i d env s hi ⟨kvs,a2,a3,a4,a5,a6,h1,h2,h3,h4,rfl,rfl⟩
   rw[List.getElem?_map]at hi
   obtain⟨q,hq,rfl⟩:=Option.map_eq_some_iff.mp hi
   have hmem:=List.mem_of_getElem? hq
   have hil:=(List.getElem?_eq_some_iff.mp hq).1
   have tk1:ALL.take (i+1)=ALL.take i++[q]:=by rw[List.take_succ,hq];rfl
   have kk:keysOf [.int (numT f ks q.s:Nat),.str [q.x]]=some (kT f ks q.s q.x):=rfl
   have sd:setDV (.loc st.length) (.tup [.int (numT f ks q.s:Nat),.str [q.x]]) (vT f ks q) (st++[.dic kvs])=.ok () (st++[.dic (putM kvs (kT f ks q.s q.x) (vT f ks q))]):=by
    simp[setDV,kk];have:=h1.1;omega
   have hnk:valM kvs (kT f ks q.s q.x)=none:=by
    cases hv:valM kvs (kT f ks q.s q.x) with
    | none=>rfl
    | some d =>
     obtain⟨q',hq',e⟩:=h1.2 _ d hv
     have e2:=kT_one A hs hR hT hmem (List.mem_of_mem_take hq') e
     obtain⟨j,hj,ej⟩:=List.getElem_of_mem hq'
     rw[List.length_take]at hj
     rw[List.getElem_take]at ej
     have hji:j<i:=by omega
     have hq3:ALL[i]=q:=(List.getElem?_eq_some_iff.mp hq).2
     have:=(List.pairwise_iff_getElem.mp hpw) j i (by omega) hil hji
     rw[ej,hq3,<-e2]at this
     exact absurd ⟨rfl,rfl⟩ this
   have pl:(putM kvs (kT f ks q.s q.x) (vT f ks q)).length=kvs.length+1:=putM_new hnk
   refine⟨by simp[zbf hg],[some (.loc n),some (.loc st.length),some (.int (numT f ks q.s:Nat)),some (.str [q.x]),some (.str [q.w]),some (.str [mvC q.mv]),some (.int (numT f ks q.g:Nat))],st++[.dic kvs],by unfold encT;simp,[some (.loc n),some (.loc st.length),some (.int (numT f ks q.s:Nat)),some (.str [q.x]),some (.str [q.w]),some (.str [mvC q.mv]),some (.int (numT f ks q.g:Nat))],st++[.dic (putM kvs (kT f ks q.s q.x) (vT f ks q))],.inl ?_,putM kvs (kT f ks q.s q.x) (vT f ks q),_,_,_,_,_,⟨by rw[pl,h1.1],?_⟩,?_,?_,?_,rfl,rfl⟩
   ·rw[<-hBi]
    unfold vT at sd ⊢
    generalize st++[MO.dic (putM kvs (kT f ks q.s q.x) _)]=Z2 at *
    generalize st++[MO.dic kvs]=Z1 at *
    simp[sd]
   ·intro k d hk
    rw[zht]at hk
    rw[tk1]
    by_cases e:kT f ks q.s q.x=k
    ·exact⟨q,by simp,e.symm⟩
    ·rw[if_neg e]at hk
     obtain⟨q',h5,h6⟩:=h1.2 k d hk
     exact⟨q',List.mem_append_left _ h5,h6⟩
   ·intro q' hq'
    rw[zht]
    by_cases e:kT f ks q.s q.x=kT f ks q'.s q'.x
    ·rw[if_pos e]
     rw[tk1]at hq'
     rcases List.mem_append.mp hq' with h | h
     ·have:=kT_one A hs hR hT hmem (List.mem_of_mem_take h) e
      rw[this]
     ·have:q'=q:=List.mem_singleton.mp h
      rw[this]
    ·rw[if_neg e]
     rw[tk1]at hq'
     rcases List.mem_append.mp hq' with h | h
     ·exact h2 q' h
     ·have:q'=q:=List.mem_singleton.mp h
      exact absurd (by rw[this]) e
   ·intro k d hk
    rw[zht]at hk
    by_cases e:kT f ks q.s q.x=k
    ·rw[if_pos e]at hk
     exact⟨q,hmem,e.symm,(Option.some.inj hk).symm⟩
    ·rw[if_neg e]at hk;exact h3 k d hk
   ·intro p hp m
    rcases putM_mem hp with h | h
    ·exact h4 p h m
    ·rw[h];simp[vT]) (fun _ _ zz=>by obtain⟨_,_,_,_,_,_,_,_,_,_,_,e⟩:=zz;rw[e];simp[zbf hg])
 rw[List.length_map]at h2
 rw[List.take_length]at h2
 rw[List.length_map]at h1
 refine⟨kvs,⟨h2,h3⟩,h1.1,h4,?_⟩
 have g:=zi2 (st:=st) (o:=.dic kvs) (fun p hp=>h4 p hp _)
 have hg2:=zbf (l:=[MO.dic []]) hg
 rw[show startM 7 [D.loc n]=[some (.loc n),none,none,none,none,none,none] from rfl]
 generalize ALL.map (encT f ks)=IT at *
 generalize st++[MO.dic kvs]=Z at *
 simp[dicE,hg2,e1]
 exact g
noncomputable def encC (f:Nat)(ks:List TK)(c:TC):D:=.tup [.int (numT f ks c.s:Nat),.str c.l,.str [c.h],.str c.r]
theorem atI_neg1 (l:List Nat):atI (95::l) (-1)=some (l.getLastD 95):=by
 unfold atI ixN
 rw[if_neg (by omega),if_pos (by simp;omega)]
 have e:(-1+(((95::l).length:Nat):Int)).toNat=l.length:=by simp only[List.length_cons];omega
 rw[e]
 simp only[Option.bind_some]
 cases l with
 | nil=>rfl
 | cons a l =>
  show (95::a::l)[l.length+1]? = _
  rw[List.getElem?_cons_succ]
  have h:(a::l)[l.length]? = some ((a::l).getLast (by simp)):=by rw[List.getLast_eq_getElem];exact List.getElem?_eq_getElem (by simp)
  rw[h]
  rfl
theorem zm3 {f:Nat}{ks:List TK}{ALL:List TQ}{kvs:List (List Key×D)}(T:TbT kvs f ks ALL)(n:Nat)(st:Stor)(hg:st[n]? = some (.dic kvs))(c:TC)(q:TQ)(hq:q∈ALL)(hf:fits c q)(hl:c.l.length<=100000)(hr:c.r.length<=100000) :
  zeh [.loc n,encC f ks c] st=.ok (encC f ks (moved c q)) st:=by
 have v:=T.has q hq
 rw[<-hf.1,<-hf.2]at v
 have kk:keysOf [.int (numT f ks c.s:Nat),.str [c.h]]=some (kT f ks c.s c.h):=rfl
 have i1:inDV true (.tup [.int (numT f ks c.s:Nat),.str [c.h]]) (.loc n) st=.ok (.bl false) st:=by simp[inDV,hg,kk,v]
 have i2:ixD (.loc n) (.tup [.int (numT f ks c.s:Nat),.str [c.h]]) st=.ok (vT f ks q) st:=by simp[ixD,hg,kk,v]
 unfold zeh gcF fnM ze7
 rw[show startM 9 [D.loc n,encC f ks c]=[some (.loc n),some (encC f ks c),none,none,none,none,none,none,none] from rfl]
 unfold moved vT encC at *
 cases e:q.mv with
 | true =>
  rw[e]at i2
  have a1:∀s,addV (.str c.l) (.str [q.w]) s=.ok (.str (c.l++[q.w])) s:=fun s=>zbg s _ _ (by simp;omega)
  have a2:∀s,addV (.str c.r) (.str [95]) s=.ok (.str (c.r++[95])) s:=fun s=>zbg s _ _ (by simp;omega)
  have a3:∀s,ixV (.str (c.r++[95])) (.int 0) s=.ok (.str [c.r.headD 95]) s:=fun s=>by
   cases er:c.r with
   | nil=>rfl
   | cons x xs =>
    rw[er]at hr
    exact ix_hd x (xs++[95]) s (by simp at hr ⊢;omega)
  have a4:∀s,slV (.str c.r) (some 1) none s=.ok (.str c.r.tail) s:=fun s=>sl_tl c.r s (by omega)
  rw[if_pos rfl]
  unfold atR
  simp only
  generalize ((numT f ks c.s:Nat):Int)=N1 at *
  generalize ((numT f ks q.g:Nat):Int)=N2 at *
  simp[i1,i2,mvC,a1,a2,a3,a4,zd4]
 | false =>
  rw[e]at i2
  have a1:∀s,slV (.str c.l) none (some (-1)) s=.ok (.str c.l.dropLast) s:=fun s=>by rw[zdg _ _ _ _ (by omega),cut_neg1]
  have a2:∀s,addV (.str [95]) (.str c.l) s=.ok (.str (95::c.l)) s:=fun s=>zbg s _ _ (by simp;omega)
  have a3:∀s,ixV (.str (95::c.l)) (.int (-1)) s=.ok (.str [c.l.getLastD 95]) s:=fun s=>zes s _ _ _ (by simp;omega) (atI_neg1 c.l)
  have a4:∀s,addV (.str [q.w]) (.str c.r) s=.ok (.str (q.w::c.r)) s:=fun s=>zbg s _ _ (by simp;omega)
  rw[if_neg (by simp)]
  unfold atL
  simp only
  generalize ((numT f ks c.s:Nat):Int)=N1 at *
  generalize ((numT f ks q.g:Nat):Int)=N2 at *
  simp[i1,i2,mvC,a1,a2,a3,a4,zd4]
theorem zmj {f:Nat}{ks:List TK}{ALL:List TQ}{kvs:List (List Key×D)}(T:TbT kvs f ks ALL)(n:Nat)(st:Stor)(hg:st[n]? = some (.dic kvs))(c:TC)(h:∀q∈ALL,kT f ks c.s c.h≠kT f ks q.s q.x) :
  zeh [.loc n,encC f ks c] st=.ok .non st:=by
 have v:valM kvs (kT f ks c.s c.h)=none:=by
  cases e:valM kvs (kT f ks c.s c.h) with
  | none=>rfl
  | some d =>
   obtain⟨q,hq,e2,_⟩:=T.of_ _ _ e
   exact absurd e2 (h q hq)
 have kk:keysOf [.int (numT f ks c.s:Nat),.str [c.h]]=some (kT f ks c.s c.h):=rfl
 have i1:inDV true (.tup [.int (numT f ks c.s:Nat),.str [c.h]]) (.loc n) st=.ok (.bl true) st:=by simp[inDV,hg,kk,v]
 unfold zeh gcF fnM ze7
 rw[show startM 9 [D.loc n,encC f ks c]=[some (.loc n),some (encC f ks c),none,none,none,none,none,none,none] from rfl]
 unfold encC
 generalize ((numT f ks c.s:Nat):Int)=N1 at *
 simp[i1,zd4]
end Law
set_option maxHeartbeats 0
namespace Law
open L2 M TK TS
noncomputable def cellI (ns:List Int)(k:Nat):Int :=
 if k<ns.length then ns.getD k 0
 else if 0<ns.length then ((ns.getD (k*7 % ns.length) 0*48271+k*7919) % 2147483647)*((ns.getD (k*7 % ns.length) 0*48271+k*7919) % 2147483647) % 2147483629
 else ((k:Int)*7919+5)*(k*7919+5) % 2147483629
theorem zd7 (ns:List Int)(n k:Nat)(st:Stor)(h:itemsAt st n=some (ns.map D.int))(hk:k<=10000):zbe [.loc n,.int k] st=.ok (.int (cellI ns k)) st:=by
 unfold zbe gcF fnM zbu cellI
 have hln:=zhg h
 rw[List.length_map]at hln
 by_cases h1:k<ns.length
 ·simp[startM,hln,h1,zcf st n k _ (.int (ns.getD k 0)) h (by rw[zc5];simp[h1]),zd4]
 ·by_cases h2:0<ns.length
  ·have e1:(k:Int)*7 % (ns.length:Int)=((k*7 % ns.length:Nat):Int):=by simp
   have hj:k*7 % ns.length<ns.length:=Nat.mod_lt _ h2
   have e2:atI (ns.map D.int) ((k:Int)*7 % (ns.length:Int))=some (.int (ns.getD (k*7 % ns.length) 0)):=by rw[e1,zc5];simp[hj]
   have m1:∀s,mulV (.int k) (.int 7919) s=.ok (.int (k*7919)) s:=fun s=>zcr s k 7919 (by omega)
   have m2:∀s,mulV (.int k) (.int 7) s=.ok (.int (k*7)) s:=fun s=>zcr s k 7 (by omega)
   have m3:∀s i,mulV (.int i) (.int 48271) s=.ok (.int (i*48271)) s:=fun s i=>zcr s i 48271 (by omega)
   have g1:∀s i,modV (.int i) (.int (ns.length:Int)) s=.ok (.int (i % (ns.length:Int))) s:=fun s i=>zai s i _ (by omega)
   have i1:ixV (.loc n) (.int ((k:Int)*7 % (ns.length:Int))) st=.ok (.int (ns.getD (k*7 % ns.length) 0)) st:=zcf st n _ _ _ h e2
   generalize ns.getD (k*7 % ns.length) 0=x at i1 e2 ⊢
   have mm:∀s,mulV (.int ((x*48271+(k:Int)*7919) % 2147483647)) (.int ((x*48271+(k:Int)*7919) % 2147483647)) s=.ok (.int ((x*48271+(k:Int)*7919) % 2147483647*((x*48271+(k:Int)*7919) % 2147483647))) s:=fun s=>zcr s _ _ (by omega)
   simp[startM,hln,h1,h2,m1,m2,m3,g1,i1,zai,mm,zd4]
  ·have m1:∀s,mulV (.int k) (.int 7919) s=.ok (.int (k*7919)) s:=fun s=>zcr s k 7919 (by omega)
   have mm:∀s,mulV (.int ((k:Int)*7919+5)) (.int ((k:Int)*7919+5)) s=.ok (.int (((k:Int)*7919+5)*((k:Int)*7919+5))) s:=fun s=>zcr s _ _ (by omega)
   simp[startM,hln,h1,h2,m1,zai,mm,zd4]
theorem zeo (cs:List Nat)(st:Stor)(h:cs.length<=1000000):lenW [.str cs] st=.ok (.int (cs.length:Nat)) st:=by show lenV [.str cs] st=_;exact r_len_str st cs h
theorem text_ok (c:Int)(m:Nat)(signs:List Nat)(st:Stor)(hs:0<signs.length)(hs2:signs.length<=1000)(hm:m<=1000):∃t:List Nat,t.length=m/\(∀x∈t,x∈signs)/\zcu [.int c,.int m,.str signs] st=.ok (.str t) st:=by
 unfold zcu gcF fnM zb9
 generalize hb:(ifS (tB1 (op2 (eqV 200) (op2 modV (vr 0) (ct (.int 2))) (ct (.int 1)))) _ _:MS)=body
 obtain⟨env',st',h1,t,num,a5,h3,h4,rfl,rfl⟩:=zbx (g:=nameG 5) (b:=body) (gs:=[]) (items:=upto 0 m)
  (fun i env s=>∃(t:List Nat) (num:Int) (a5:Option D),t.length=i/\(∀x∈t,x∈signs)/\env=[some (.int c),some (.int m),some (.str signs),some (.str t),some (.int num),a5]/\s=st)
  (env:=[some (.int c),some (.int m),some (.str signs),some (.str []),some (.int (c / 2)),none]) (st:=st) ⟨[],c / 2,none,rfl,fun x hx=>absurd hx (List.not_mem_nil),rfl,rfl⟩ (by
  rintro i d env s hi ⟨t,num,a5,h1,h2,rfl,rfl⟩
  obtain⟨hp,rfl⟩:=zek hi
  have g1:∀s i,modV (.int i) (.int (signs.length:Int)) s=.ok (.int (i % (signs.length:Int))) s:=fun s i=>zai s i _ (by omega)
  have f1:∀s i,fdivV (.int i) (.int (signs.length:Int)) s=.ok (.int (i / (signs.length:Int))) s:=fun s i=>zan s i _ (by omega)
  have l1:∀s,lenW [.str signs] s=.ok (.int signs.length) s:=fun s=>zeo signs s (by omega)
  have m1:∀s,mulV (.int num) (.int 48271) s=.ok (.int (num*48271)) s:=fun s=>zcr s _ _ (by omega)
  have m2:∀s,mulV (.int 7919) (.int (i:Int)) s=.ok (.int (7919*(i:Int))) s:=fun s=>zcr s _ _ (by omega)
  have x2:∀s a,addV (.str t) (.str [a]) s=.ok (.str (t++[a])) s:=fun s a=>zbg s _ _ (by simp;omega)
  have mem:∀a,a∈signs->∀x∈t++[a],x∈signs:=fun a ha x hx=>by
   rcases List.mem_append.mp hx with hx | hx
   ·exact h2 x hx
   ·obtain rfl:x=a:=by simpa using hx
    exact ha
  by_cases hc:c % 2=1
  ·obtain⟨j,hj,e1,e2⟩:=zid signs ((num*48271+7919*(i:Int)+11) % 2147483647 / 64) hs
   have x1:∀s,ixV (.str signs) (.int ((num*48271+7919*(i:Int)+11) % 2147483647 / 64 % (signs.length:Int))) s=.ok (.str [signs[j]]) s:=fun s=>zes s _ _ _ (by omega) e2
   refine⟨by simp,_,_,rfl,[some (.int c),some (.int m),some (.str signs),some (.str (t++[signs[j]])),some (.int ((num*48271+7919*(i:Int)+11) % 2147483647)),some (.int (0+(i:Nat)))],s,.inl ?_,_,_,_,by simp[h1],mem _ (List.getElem_mem hj),rfl,rfl⟩
   rw[<-hb]
   simp[zai,zan,hc,m1,m2,l1,g1,x1,x2]
  ·obtain⟨j,hj,e1,e2⟩:=zid signs num hs
   have x1:∀s,ixV (.str signs) (.int (num % (signs.length:Int))) s=.ok (.str [signs[j]]) s:=fun s=>zes s _ _ _ (by omega) e2
   refine⟨by simp,_,_,rfl,[some (.int c),some (.int m),some (.str signs),some (.str (t++[signs[j]])),some (.int (num / (signs.length:Int))),some (.int (0+(i:Nat)))],s,.inl ?_,_,_,_,by simp[h1],mem _ (List.getElem_mem hj),rfl,rfl⟩
   rw[<-hb]
   simp[zai,hc,l1,g1,f1,x1,x2]) (fun _ _ _=>by simp)
 rw[zef]at h3
 refine⟨t,h3,h4,?_⟩
 have hr1:-4611686018427387904<=(m:Int):=by omega
 have hr2:(m:Int)<4611686018427387904:=by omega
 rw[show startM 6 [D.int c,D.int (m:Int),D.str signs]=[some (.int c),some (.int m),some (.str signs),none,none,none] from rfl]
 simp[zan,hr1,hr2,h1,zd4]
noncomputable def abcL:List Nat:=[97,98,99,100,101,102,103,104,105,106,107,108,109,110,111,112,113,114,115,116,117,118,119,120,121,122]
theorem zfz (w:List Nat)(k:Nat)(h:k<=w.length):cut w none (some (k:Nat))=w.take k:=by
 unfold cut
 rw[HT.zln,HT.zgs,Nat.min_eq_left h]
 simp
theorem zkx (ns:List Int)(n:Nat)(st:Stor)(h:itemsAt st n=some (ns.map D.int)):∃t:List Nat,0<t.length/\t.length<=4/\t.Nodup/\(∀x∈t,x∈abcL)/\zeg [.loc n] st=.ok (.str t) st:=by
 have c1:=zd7 ns n 0 st h (by omega)
 rw[show ((0:Nat):Int)=0 from rfl]at c1
 generalize cellI ns 0=c at c1
 obtain⟨m,hm⟩:=Int.eq_ofNat_of_zero_le (show 0<=1+c % 4 by omega)
 have hm1:1<=m:=by omega
 have hm2:m<=4:=by omega
 unfold zeg gcF fnM zdp
 rw[show ([97,98,99,100,101,102,103,104,105,106,107,108,109,110,111,112,113,114,115,116,117,118,119,120,121,122]:List Nat)=abcL from rfl]
 have hal:abcL.length=26:=rfl
 have hand:abcL.Nodup:=by decide
 generalize hb:(seqS (setS 6 _) _:MS)=body
 obtain⟨env',st',h1,t,rest,num,a5,a6,k1,k2,k3,k4,rfl,rfl⟩:=zbx (g:=nameG 5) (b:=body) (gs:=[]) (items:=upto 0 m)
  (fun i env s=>∃(t rest:List Nat) (num:Int) (a5 a6:Option D),t.length=i/\rest.length+i=26/\(t++rest).Nodup/\(∀x∈t++rest,x∈abcL)/\env=[some (.loc n),some (.str rest),some (.int c),some (.int num),some (.str t),a5,a6]/\s=st)
  (env:=[some (.loc n),some (.str abcL),some (.int c),some (.int (c / 4)),some (.str []),none,none]) (st:=st) ⟨[],abcL,c / 4,none,none,rfl,hal,hand,fun x hx=>hx,rfl,rfl⟩ (by
   rintro i d env s hi ⟨t,rest,num,a5,a6,k1,k2,k3,k4,rfl,rfl⟩
   obtain⟨hp,rfl⟩:=zek hi
   have hrl:0<rest.length:=by omega
   have g1:∀s i,modV (.int i) (.int (rest.length:Int)) s=.ok (.int (i % (rest.length:Int))) s:=fun s i=>zai s i _ (by omega)
   have f1:∀s i,fdivV (.int i) (.int (rest.length:Int)) s=.ok (.int (i / (rest.length:Int))) s:=fun s i=>zan s i _ (by omega)
   have l1:∀s,lenW [.str rest] s=.ok (.int rest.length) s:=fun s=>zeo rest s (by omega)
   obtain⟨j,hj,e1,e2⟩:=zid rest num hrl
   have x1:∀s,ixV (.str rest) (.int (num % (rest.length:Int))) s=.ok (.str [rest[j]]) s:=fun s=>zes s _ _ _ (by omega) e2
   have x2:∀s a,addV (.str t) (.str [a]) s=.ok (.str (t++[a])) s:=fun s a=>zbg s _ _ (by simp;omega)
   have x3:∀s,slV (.str rest) none (some (num % (rest.length:Int))) s=.ok (.str (rest.take j)) s:=fun s=>by rw[zdg _ _ _ _ (by omega),e1,zfz rest j (by omega)]
   have x4:∀s,slV (.str rest) (some (num % (rest.length:Int)+1)) none s=.ok (.str (rest.drop (j+1))) s:=fun s=>by rw[zdg _ _ _ _ (by omega),e1,show ((j:Nat):Int)+1=((j+1:Nat):Int) by omega,zfr rest (j+1) (by omega)]
   have x5:∀s,addV (.str (rest.take j)) (.str (rest.drop (j+1))) s=.ok (.str (rest.take j++rest.drop (j+1))) s:=fun s=>zbg s _ _ (by rw[List.length_take,List.length_drop];omega)
   have er:rest=rest.take j++rest[j]::rest.drop (j+1):=by rw[List.getElem_cons_drop];exact (List.take_append_drop j rest).symm
   have pm:(t++[rest[j]]++(rest.take j++rest.drop (j+1))).Perm (t++rest):=by
    rw[List.append_assoc]
    refine List.Perm.append_left t ?_
    conv=>rhs;rw[er]
    exact (List.perm_middle (a:=rest[j]) (l₁:=rest.take j) (l₂:=rest.drop (j+1))).symm
   refine⟨by simp,_,_,rfl,[some (.loc n),some (.str (rest.take j++rest.drop (j+1))),some (.int c),some (.int (num / (rest.length:Int))),some (.str (t++[rest[j]])),some (.int (0+(i:Nat))),some (.int (num % (rest.length:Int)))],s,.inl ?_,_,_,_,_,_,by simp[k1],by rw[List.length_append,List.length_take,List.length_drop];omega,pm.nodup_iff.mpr k3,fun x hx=>k4 x (pm.mem_iff.mp hx),rfl,rfl⟩
   rw[<-hb]
   generalize rest.take j++rest.drop (j+1)=R2 at *
   generalize rest.take j=R3 at *
   generalize rest.drop (j+1)=R4 at *
   generalize rest[j]=RJ at *
   generalize hNM:num % (rest.length:Int)=NM at *
   have g2:∀s,modV (.int num) (.int (rest.length:Int)) s=.ok (.int NM) s:=fun s=>by rw[g1,hNM]
   simp[l1,g2,f1,x1,x2,x3,x4,x5]) (fun _ _ _=>by simp)
 rw[zef]at k1 k2
 refine⟨t,by omega,by omega,(List.nodup_append.mp k3).1,fun x hx=>k4 x (List.mem_append_left _ hx),?_⟩
 have hr1:-4611686018427387904<=(m:Int):=by omega
 have hr2:(m:Int)<4611686018427387904:=by omega
 rw[show startM 7 [D.loc n]=[some (.loc n),none,none,none,none,none,none] from rfl]
 simp[c1,zan,zai,hm,hr1,hr2,h1,zd4]
end Law
set_option maxHeartbeats 0
namespace Law
open L2 M TK TS
theorem nd_lt {ss:List Nat}(h:ss.Pairwise (· < ·)){x:Nat}(hx:∀y∈ss,y<x):(ss++[x]).Pairwise (· < ·):=by
 rw[List.pairwise_append]
 exact⟨h,by simp,fun a ha b hb=>by rw[List.mem_singleton.mp hb];exact hx a ha⟩
theorem states_ok (ns:List Int)(n:Nat)(st:Stor)(h:itemsAt st n=some (ns.map D.int)) :
  ∃ss:List Nat,0<ss.length/\ss.length<=5/\ss.Pairwise (· < ·)/\(∀s∈ss,s<=5000)/\zc8 [.loc n] st=.ok (.loc st.length) (st++[.lst (ss.map fun s=>D.int (s:Nat))]):=by
 have c1:=zd7 ns n 1 st h (by omega)
 rw[show ((1:Nat):Int)=1 from rfl]at c1
 generalize cellI ns 1=c at c1
 obtain⟨m,hm⟩:=Int.eq_ofNat_of_zero_le (show 0<=1+c % 5 by omega)
 have hm1:1<=m:=by omega
 have hm2:m<=5:=by omega
 obtain⟨d,hd,pd⟩:=pickL [.int 1,.int 900] (c / 5 % 2) st (by omega) (by show _<(2:Int);omega)
 obtain⟨w,hw1,hw2,rfl⟩:∃w:Nat,1<=w/\w<=900/\d=.int (w:Nat):=by
  simp only[List.mem_cons,List.not_mem_nil,or_false]at hd
  rcases hd with rfl | rfl
  ·exact⟨1,by omega,by omega,rfl⟩
  ·exact⟨900,by omega,by omega,rfl⟩
 unfold zc8 gcF fnM zcg
 generalize hb:(seqS (exprS (methE "list" appendV (vr 4) _)) _:MS)=body
 generalize hL0:MO.lst [.int 1,.int 900]=L0
 obtain⟨env',st',h1,ss,num,a5,g,k1,k2,k3,rfl,rfl⟩:=zbx (g:=nameG 5) (b:=body) (gs:=[]) (items:=upto 0 m)
  (fun i env s=>∃(ss:List Nat) (num:Int) (a5:Option D) (g:Stor),ss.length=i/\ss.Pairwise (· < ·)/\(∀s∈ss,s<=1000*i)/\env=[some (.loc n),some (.int c),some (.int (w:Nat)),some (.int num),some (.loc (st.length+1)),a5]/\s=st++[L0,.lst (ss.map fun s=>D.int (s:Nat))]++g)
  (env:=[some (.loc n),some (.int c),some (.int (w:Nat)),some (.int (c / 10)),some (.loc (st.length+1)),none]) (st:=st++[L0,.lst []]) ⟨[],c / 10,none,[],rfl,by simp,by simp,rfl,by simp⟩ (by
   rintro i d env s hi ⟨ss,num,a5,g,k1,k2,k3,rfl,rfl⟩
   obtain⟨hp,rfl⟩:=zek hi
   have ei:(0:Int)+((i:Nat):Int)=((i:Nat):Int):=by omega
   rw[ei]
   have hat:∀(xs:List D) (g':Stor),(st++[L0,.lst xs]++g')[st.length+1]? = some (.lst xs):=fun xs g'=>by
    rw[List.append_assoc,List.getElem?_append_right (by omega)];simp
   have hset:∀(xs ys:List D) (g':Stor),(st++[L0,.lst xs]++g').set (st.length+1) (.lst ys)=st++[L0,.lst ys]++g':=fun xs ys g'=>by
    rw[List.append_assoc,List.set_append_right _ _ (by omega)];simp
   obtain⟨x,hx⟩:=Int.eq_ofNat_of_zero_le (show 0<=num % (w:Int) from Int.emod_nonneg _ (by omega))
   have hxl:x<900:=by
    have:=Int.emod_lt_of_pos num (show (0:Int)<(w:Int) by omega)
    omega

   obtain⟨p,hp1,hp2⟩:∃p:Nat,(∀y∈ss,y<=p)/\(p<=1000*i/\((cut (ss.map fun s=>D.int (s:Nat)) (some (-1)) none=[]/\p=0/\i=0)\/(cut (ss.map fun s=>D.int (s:Nat)) (some (-1)) none=[.int (p:Nat)]/\0<i))):=by
    by_cases h0:ss=[]
    ·subst h0
     refine⟨0,by simp,by omega,.inl ⟨rfl,rfl,by simpa using k1.symm⟩⟩
    ·obtain⟨s',y,rfl⟩:∃s' y,ss=s'++[y]:=⟨ss.dropLast,ss.getLast h0,(List.dropLast_concat_getLast h0).symm⟩
     have pw:=List.pairwise_append.mp k2
     refine⟨y,fun z hz=>?_,k3 y (by simp),.inr ⟨?_,by simp at k1;omega⟩⟩
     ·rcases List.mem_append.mp hz with hz | hz
      ·exact Nat.le_of_lt (pw.2.2 z hz y (by simp))
      ·rw[List.mem_singleton.mp hz];exact Nat.le_refl _
     ·rw[List.map_append]
      unfold cut
      have e1:HT.sIx (s'.map (fun s=>D.int (s:Nat))++[D.int (y:Nat)]).length 0 (some (-1))=s'.length:=by
       simp only[HT.sIx]
       rw[if_pos (by decide)]
       simp
       omega
      simp only[List.map_cons,List.map_nil]at e1 ⊢
      rw[e1,HT.zgs]
      have e2:(s'.map (fun s=>D.int (s:Nat))++[D.int (y:Nat)]).drop s'.length=[D.int (y:Nat)]:=List.drop_left' (by simp)
      rw[e2]
      simp
   have hsum:∀(z:Stor) (q:Nat),z[q]? = some (.lst (cut (ss.map fun s=>D.int (s:Nat)) (some (-1)) none))->sumV [.loc q] z=.ok (.int (p:Nat)) z:=fun z q hz=>by
    have hi2:itemsAt z q=some (cut (ss.map fun s=>D.int (s:Nat)) (some (-1)) none):=by unfold itemsAt;rw[hz]
    rcases hp2.2 with⟨e,rfl,_⟩ | ⟨e,_⟩
    ·rw[e]at hi2;simp[sumV,hi2,intsOf]
    ·rw[e]at hi2;simp[sumV,hi2,intsOf]
   generalize hxs:(ss.map fun s=>D.int (s:Nat))=xs at *
   have hxl2:xs.length=i:=by rw[<-hxs,List.length_map];exact k1
   generalize hct:cut xs (some (-1)) none=ct' at *
   have sl:slV (.loc (st.length+1)) (some (-1)) none (st++[L0,.lst xs]++g)=.ok (.loc (st++[L0,.lst xs]++g).length) (st++[L0,.lst xs]++(g++[.lst ct'])):=by
    have hi2:itemsAt (st++[L0,.lst xs]++g) (st.length+1)=some xs:=by unfold itemsAt;rw[hat]
    simp only[slV,hi2,hct]
    rw[<-List.append_assoc (st++[L0,.lst xs])]
   have sm:=hsum (st++[L0,.lst xs]++(g++[.lst ct'])) (st++[L0,.lst xs]++g).length (by rw[<-List.append_assoc (st++[L0,.lst xs])];simp)

   obtain⟨v,hv1,hv2,hv3⟩:∃v:Nat,((p:Nat):Int)+(if (0:Int)<((i:Nat):Int) then 1 else 0)+((x:Nat):Int)=(v:Nat)/\(∀y∈ss,y<v)/\v<=1000*(i+1):=by
    rcases hp2.2 with⟨_,rfl,h0⟩ | ⟨_,h0⟩
    ·subst h0
     refine⟨x,by simp,fun y hy=>?_,by omega⟩
     have:ss=[]:=List.eq_nil_of_length_eq_zero k1
     rw[this]at hy;exact nomatch hy
    ·refine⟨p+1+x,by rw[if_pos (by omega)];omega,fun y hy=>?_,?_⟩
     ·have:=hp1 y hy;omega
     ·have:=hp2.1;omega
   have md:∀s,modV (.int num) (.int (w:Nat)) s=.ok (.int (x:Nat)) s:=fun s=>by rw[zai s _ _ (by omega),hx]
   have fd:∀s,fdivV (.int num) (.int (w:Nat)) s=.ok (.int (num / (w:Nat))) s:=fun s=>zan s _ _ (by omega)
   have ap:appendV (.loc (st.length+1)) [.int (v:Nat)] (st++[L0,.lst xs]++(g++[.lst ct']))=.ok .non (st++[L0,.lst (xs++[.int (v:Nat)])]++(g++[.lst ct'])):=by
    unfold appendV
    simp only[hat]
    rw[if_pos (by omega),hset]
   have ty:∀(g':Stor),isTy "list" (.loc (st.length+1)) (st++[L0,.lst xs]++g')=true:=fun g'=>by
    have:=hat xs g'
    simp only[isTy]
    rw[this]
    rfl
   have ty1:=ty g
   have ty2:=ty (g++[.lst ct'])
   have ic:∀s,intC [.bl (decide ((0:Int)<((i:Nat):Int)))] s=.ok (.int (if (0:Int)<((i:Nat):Int) then 1 else 0)) s:=fun s=>by
    by_cases h0:(0:Int)<((i:Nat):Int)
    ·rw[if_pos h0,decide_eq_true h0];rfl
    ·rw[if_neg h0,decide_eq_false h0];rfl
   refine⟨by simp,[some (.loc n),some (.int c),some (.int (w:Nat)),some (.int num),some (.loc (st.length+1)),some (.int (i:Nat))],st++[L0,.lst xs]++g,by generalize st++[L0,.lst xs]++g=Z;simp,[some (.loc n),some (.int c),some (.int (w:Nat)),some (.int (num / (w:Nat))),some (.loc (st.length+1)),some (.int (i:Nat))],st++[L0,.lst (xs++[.int (v:Nat)])]++(g++[.lst ct']),.inl ?_,ss++[v],num / (w:Nat),_,g++[.lst ct'],by simp[k1],nd_lt k2 hv2,?_,rfl,by rw[List.map_append,hxs];rfl⟩
   ·rw[<-hb]
    generalize st++[L0,.lst (xs++[.int (v:Nat)])]++(g++[.lst ct'])=Z3 at *
    generalize st++[L0,.lst xs]++(g++[.lst ct'])=Z2 at *
    generalize st++[L0,.lst xs]++g=Z1 at *
    generalize ((v:Nat):Int)=V at *
    generalize ((x:Nat):Int)=XX at *
    generalize (if (0:Int)<((i:Nat):Int) then (1:Int) else 0)=IFI at *
    generalize ((i:Nat):Int)=II at *
    generalize ((w:Nat):Int)=WW at *
    generalize ((p:Nat):Int)=PP at *
    simp[ty1,ty2,sl,sm,ic,md,hv1,ap,fd]
   ·intro y hy
    rcases List.mem_append.mp hy with hy | hy
    ·have:=k3 y hy;omega
    ·rw[List.mem_singleton.mp hy];exact hv3) (fun _ _ _=>by simp)
 rw[zef]at k1 k3
 refine⟨ss,by omega,by omega,k2,fun s hs=>by have:=k3 s hs;omega,?_⟩
 have hr1:-4611686018427387904<=(m:Int):=by omega
 have hr2:(m:Int)<4611686018427387904:=by omega
 rw[hL0]at pd
 have gcx:=gc_new (st:=st) (g:=[L0]) (g':=g) (o:=.lst (ss.map fun s=>D.int (s:Nat))) (by
  rw[show underO st.length (MO.lst _)=unders st.length _ from rfl,zdb]
  intro d hd
  obtain⟨c,_,rfl⟩:=List.mem_map.mp hd
  simp)
 have eZ:st++[L0]++MO.lst (ss.map fun s=>D.int (s:Nat))::g=st++[L0,.lst (ss.map fun s=>D.int (s:Nat))]++g:=by simp
 rw[eZ]at gcx
 rw[show startM 6 [D.loc n]=[some (.loc n),none,none,none,none,none] from rfl]
 generalize st++[L0,.lst (ss.map fun s=>D.int (s:Nat))]++g=Z at *
 simp[c1,zan,zai,hL0,pd,hm,hr1,hr2,h1]
 exact gcx
end Law
set_option maxHeartbeats 0
namespace Law
open L2 M TK TS
theorem word_ok (c:Int)(signs:List Nat)(st:Stor)(hs:0<signs.length)(hs2:signs.length<=1000):∃t:List Nat,t.length<=8/\(∀x∈t,x∈signs)/\zdh [.int c,.str signs] st=.ok (.str t) st:=by
 obtain⟨v,hv⟩:∃v:Nat,c / 6 % 9=(v:Nat):=Int.eq_ofNat_of_zero_le (by omega)
 obtain⟨j,hj⟩:∃j:Nat,c % 6=(j:Nat):=Int.eq_ofNat_of_zero_le (by omega)
 have hj6:j<6:=by omega
 have hv9:v<9:=by omega
 let L:List D:=[.int 0,.int 1,.int 1,.int 2,.int 3,.int (v:Nat)]
 obtain⟨m,hm,hat⟩:∃m:Nat,m<=8/\L[j]? = some (.int (m:Nat)):=by
  match j,hj6 with
  | 0,_=>exact⟨0,by omega,rfl⟩
  | 1,_=>exact⟨1,by omega,rfl⟩
  | 2,_=>exact⟨1,by omega,rfl⟩
  | 3,_=>exact⟨2,by omega,rfl⟩
  | 4,_=>exact⟨3,by omega,rfl⟩
  | 5,_=>exact⟨v,by omega,rfl⟩
 obtain⟨t,t1,t2,t3⟩:=text_ok (c / 54) m signs (st++[.lst L]) hs hs2 (by omega)
 refine⟨t,by omega,t2,?_⟩
 have ix:ixV (.loc st.length) (.int (j:Nat)) (st++[.lst L])=.ok (.int (m:Nat)) (st++[.lst L]):=zcf _ _ _ L _ (by simp[itemsAt]) (by rw[zc5];exact hat)
 have le:∀(mA:MA) (env:MEnv),mA env st=.ok L st->lstE mA env st=.ok (.loc st.length) (st++[.lst L]):=fun mA env h=>by
  have:L.length<=1000000:=by simp[L]
  simp[h,this]
 have gg:gc st (.ok (.str t) (st++[.lst L]))=.ok (.str t) st:=zf4 (by simp)
 unfold zdh gcF fnM zcq
 rw[show startM 3 [D.int c,.str signs]=[some (.int c),some (.str signs),none] from rfl]
 have f1:∀s,fdivV (.int c) (.int 6) s=.ok (.int (c / 6)) s:=fun s=>zan s c 6 (by omega)
 have f2:∀s,fdivV (.int c) (.int 54) s=.ok (.int (c / 54)) s:=fun s=>zan s c 54 (by omega)
 have m1:∀s,modV (.int (c / 6)) (.int 9) s=.ok (.int (v:Nat)) s:=fun s=>by rw[zai s _ 9 (by omega),hv]
 have m2:∀s,modV (.int c) (.int 6) s=.ok (.int (j:Nat)) s:=fun s=>by rw[zai s _ 6 (by omega),hj]
 have q1:=le (consA (ct (.int 0)) (consA (ct (.int 1)) (consA (ct (.int 1)) (consA (ct (.int 2)) (consA (ct (.int 3)) (consA (op2 modV (op2 fdivV (vr 0) (ct (.int 6))) (ct (.int 9))) nilA)))))) [some (.int c),some (.str signs),none] (by simp[f1,m1,L])
 generalize lstE _=LL at *
 generalize (st++[MO.lst L]:Stor)=Z at *
 generalize c / 54=C5 at *
 generalize ((j:Nat):Int)=J at *
 generalize ((m:Nat):Int)=MM at *
 simp[q1,m2,ix,f2,t3,gg]
end Law
set_option maxHeartbeats 0
namespace Law
open L2 M TK TS
structure Pg (ss signs:List Nat)(i:Nat)(RL:List Rl):Prop where
 len:RL.length<=i
 at_:∀r∈RL,∃k,k<i/\ss[k / signs.length]? = some r.s/\signs[k % signs.length]? = some r.x/\(∀c∈r.w,c∈signs)/\r.w.length<=8/\r.g∈ss
 un:RL.Pairwise fun a b=>¬ (a.s=b.s/\a.x=b.x)
theorem zl1 (ns:List Int)(n m:Nat)(ss signs:List Nat)(st:Stor)(h:itemsAt st n=some (ns.map D.int))(hm:st[m]? = some (.lst (ss.map fun s=>D.int (s:Nat))))(hs:0<ss.length)(hs5:ss.length<=5)(hg:0<signs.length)(hg4:signs.length<=4)(hss:ss.Nodup)(hsg:signs.Nodup) :
  ∃RL,Pg ss signs (signs.length*ss.length) RL/\zez [.loc n,.str signs,.loc m,.int 8] st=.ok (.loc st.length) (st++[.lst (RL.map encRl)]):=by
 have hmul:signs.length*ss.length<=20:=Nat.mul_le_mul hg4 hs5
 unfold zez gcF fnM zd6
 generalize hb:(seqS (setS 6 _) _:MS)=body
 obtain⟨env',st',h1,RL,a5,a6,a7,hR,rfl,rfl⟩:=zbx (g:=nameG 5) (b:=body) (gs:=[]) (items:=upto 0 (signs.length*ss.length))
  (fun i env s=>∃(RL:List Rl) (a5 a6 a7:Option D),Pg ss signs i RL/\env=[some (.loc n),some (.str signs),some (.loc m),some (.int 8),some (.loc st.length),a5,a6,a7]/\s=st++[.lst (RL.map encRl)])
  (env:=[some (.loc n),some (.str signs),some (.loc m),some (.int 8),some (.loc st.length),none,none,none]) (st:=st++[.lst []]) ⟨[],none,none,none,⟨by simp,by simp,.nil⟩,rfl,rfl⟩ (by
   rintro i d env s hi ⟨RL,a5,a6,a7,hR,rfl,rfl⟩
   obtain⟨hp,rfl⟩:=zek hi
   have ei:(0:Int)+((i:Nat):Int)=((i:Nat):Int):=by omega
   rw[ei]
   have hrl:=hR.len
   generalize hZ:st++[MO.lst (RL.map encRl)]=Z1
   have hn1:itemsAt Z1 n=some (ns.map D.int):=by
    rw[<-hZ]
    unfold itemsAt at h ⊢
    cases e:st[n]? with
    | none=>rw[e]at h;cases h
    | some o=>rw[zbf e];rw[e]at h;exact h
   have hm1:Z1[m]? = some (.lst (ss.map fun s=>D.int (s:Nat))):=by rw[<-hZ];exact zbf hm
   have hmi:itemsAt Z1 m=some (ss.map fun s=>D.int (s:Nat)):=by unfold itemsAt;rw[hm1]
   have c1:=zd7 ns n (8+i) Z1 hn1 (by omega)
   rw[show ((8+i:Nat):Int)=8+((i:Nat):Int) by omega]at c1
   generalize cellI ns (8+i)=c at c1
   have l1:∀s,lenW [.str signs] s=.ok (.int (signs.length:Nat)) s:=fun s=>zeo signs s (by omega)
   have l2:lenW [.loc m] Z1=.ok (.int (ss.length:Nat)) Z1:=by have:=zhg hmi;rwa[List.length_map]at this
   have ms:∀s j,modV (.int j) (.int (signs.length:Nat)) s=.ok (.int (j % ((signs.length:Nat):Int))) s:=fun s j=>zai s _ _ (by omega)
   have mt:∀s j,modV (.int j) (.int (ss.length:Nat)) s=.ok (.int (j % ((ss.length:Nat):Int))) s:=fun s j=>zai s _ _ (by omega)
   have fs:∀s j,fdivV (.int j) (.int (signs.length:Nat)) s=.ok (.int (j / ((signs.length:Nat):Int))) s:=fun s j=>zan s _ _ (by omega)

   have hq1:i / signs.length<ss.length:=Nat.div_lt_of_lt_mul hp
   have hq2:i % signs.length<signs.length:=Nat.mod_lt _ hg
   have x1:ixV (.loc m) (.int (((i:Nat):Int) / ((signs.length:Nat):Int))) Z1=.ok (.int (ss[i / signs.length]:Nat)) Z1:=by
    refine zcf Z1 m _ _ _ hmi ?_
    rw[show ((i:Nat):Int) / ((signs.length:Nat):Int)=((i / signs.length:Nat):Int) from rfl,zc5,List.getElem?_map,List.getElem?_eq_getElem hq1];rfl
   have x2:∀s,ixV (.str signs) (.int (((i:Nat):Int) % ((signs.length:Nat):Int))) s=.ok (.str [signs[i % signs.length]]) s:=fun s=>by
    refine zes s _ _ _ (by omega) ?_
    rw[show ((i:Nat):Int) % ((signs.length:Nat):Int)=((i % signs.length:Nat):Int) from rfl,zc5,List.getElem?_eq_getElem hq2]
   obtain⟨j,hj,j1,j2⟩:=zid (ss.map fun s=>D.int (s:Nat)) (c / 5) (by simpa using hs)
   rw[List.length_map]at j1 j2 hj
   have x3:ixV (.loc m) (.int (c / 5 % ((ss.length:Nat):Int))) Z1=.ok (.int (ss[j]:Nat)) Z1:=by
    refine zcf Z1 m _ _ _ hmi ?_
    rw[j2,List.getElem_map]
   obtain⟨w,hw2,hw1,hwS⟩:=word_ok (c / 25) signs Z1 hg (by omega)
   have hty:isTy "list" (.loc st.length) Z1=true:=by rw[<-hZ];simp[isTy]
   obtain⟨rr,hrr⟩:∃rr:Rl,rr=⟨ss[i / signs.length],signs[i % signs.length],w,ss[j]⟩:=⟨_,rfl⟩
   have er0:encRl rr=.tup [.int (ss[i / signs.length]:Nat),.str [signs[i % signs.length]],.str w,.int (ss[j]:Nat)]:=by rw[hrr];rfl
   have ap:appendV (.loc st.length) [encRl rr] Z1=.ok .non (st++[.lst ((RL++[rr]).map encRl)]):=by
    rw[<-hZ]
    have:RL.length<1000000:=by omega
    simp[appendV,this]
   have m5:∀s,modV (.int c) (.int 5) s=.ok (.int (c % 5)) s:=fun s=>zai s c 5 (by omega)
   have f5:∀s,fdivV (.int c) (.int 5) s=.ok (.int (c / 5)) s:=fun s=>zan s c 5 (by omega)
   have f25:∀s,fdivV (.int c) (.int 25) s=.ok (.int (c / 25)) s:=fun s=>zan s c 25 (by omega)
   by_cases hc:0<c % 5
   ·refine⟨by simp,[some (.loc n),some (.str signs),some (.loc m),some (.int 8),some (.loc st.length),some (.int (i:Nat)),a6,a7],Z1,by simp,[some (.loc n),some (.str signs),some (.loc m),some (.int 8),some (.loc st.length),some (.int (i:Nat)),some (.int c),some (.int (ss[j]:Nat))],st++[.lst ((RL++[rr]).map encRl)],.inl ?_,RL++[rr],_,_,_,⟨by simp;omega,?_,?_⟩,rfl,rfl⟩
    ·rw[<-hb]
     rw[er0]at ap
     generalize st++[MO.lst ((RL++[rr]).map encRl)]=Z2 at *
     generalize ss[i / signs.length]=S1 at *
     generalize signs[i % signs.length]=S2 at *
     generalize ss[j]=S3 at *
     simp[c1,m5,f5,f25,hc,l1,l2,fs,ms,mt,x1,x2,x3,hwS,hty,ap]
    ·intro r hr
     rcases List.mem_append.mp hr with hr | hr
     ·obtain⟨k,h1,h2⟩:=hR.at_ r hr
      exact⟨k,by omega,h2⟩
     ·rw[List.mem_singleton.mp hr,hrr]
      exact⟨i,by omega,List.getElem?_eq_getElem hq1,List.getElem?_eq_getElem hq2,hw1,hw2,List.getElem_mem _⟩
    ·refine List.pairwise_append.mpr ⟨hR.un,by simp,fun x hx y hy e=>?_⟩
     rw[List.mem_singleton.mp hy,hrr]at e
     obtain⟨k,h1,h2,h3,_⟩:=hR.at_ x hx
     obtain⟨q1,e1⟩:=List.getElem?_eq_some_iff.mp h2
     obtain⟨q2,e2⟩:=List.getElem?_eq_some_iff.mp h3
     have d1:k / signs.length=i / signs.length:=(List.getElem_inj (h₀:=q1) (h₁:=hq1) hss).mp (e1.trans e.1)
     have d2:k % signs.length=i % signs.length:=(List.getElem_inj (h₀:=q2) (h₁:=hq2) hsg).mp (e2.trans e.2)
     have a1:=Nat.div_add_mod k signs.length
     have a2:=Nat.div_add_mod i signs.length
     rw[d1,d2]at a1
     omega
   ·refine⟨by simp,[some (.loc n),some (.str signs),some (.loc m),some (.int 8),some (.loc st.length),some (.int (i:Nat)),a6,a7],Z1,by simp,[some (.loc n),some (.str signs),some (.loc m),some (.int 8),some (.loc st.length),some (.int (i:Nat)),some (.int c),a7],Z1,.inl ?_,RL,_,_,_,⟨by omega,fun r hr=>?_,hR.un⟩,rfl,hZ.symm⟩
    ·rw[<-hb]
     simp[c1,m5,hc]
    ·obtain⟨k,h1,h2⟩:=hR.at_ r hr
     exact⟨k,by omega,h2⟩) (fun _ _ _=>by simp)
 rw[zef]at hR
 refine⟨RL,hR,?_⟩
 have hmi:itemsAt st m=some (ss.map fun s=>D.int (s:Nat)):=by unfold itemsAt;rw[hm]
 have g:=zi2 (st:=st) (o:=.lst (RL.map encRl)) (by
  rw[show underO st.length (MO.lst _)=unders st.length _ from rfl,zdb]
  intro d hd
  obtain⟨c,_,rfl⟩:=List.mem_map.mp hd
  simp[encRl])
 have l1:∀s,lenW [.str signs] s=.ok (.int (signs.length:Nat)) s:=fun s=>zeo signs s (by omega)
 have hmi2:itemsAt (st++[.lst []]) m=some (ss.map fun s=>D.int (s:Nat)):=by unfold itemsAt;rw[zbf hm]
 have l2:lenW [.loc m] (st++[.lst []])=.ok (.int (ss.length:Nat)) (st++[.lst []]):=by have:=zhg hmi2;rwa[List.length_map]at this
 have ml:∀s,mulV (.int (signs.length:Nat)) (.int (ss.length:Nat)) s=.ok (.int (((signs.length*ss.length:Nat):Nat):Int)) s:=fun s=>by rw[zcr s _ _ (by omega)];rfl
 have hr1:-4611686018427387904<=((signs.length*ss.length:Nat):Int):=by omega
 have hr2:((signs.length*ss.length:Nat):Int)<4611686018427387904:=by omega
 have et:(((signs.length*ss.length:Nat):Int)).toNat=signs.length*ss.length:=rfl
 rw[show startM 8 [D.loc n,.str signs,.loc m,.int 8]=[some (.loc n),some (.str signs),some (.loc m),some (.int 8),none,none,none,none] from rfl]
 generalize hNN:((signs.length*ss.length:Nat):Int)=NN at *
 generalize st++[MO.lst (RL.map encRl)]=Z at *
 simp[l1,l2,ml,hr1,hr2,et,h1]
 exact g
end Law
set_option maxHeartbeats 0
namespace Law
open L2 M TK TS
theorem zhr:∀l:List Nat,joinL [] (l.map fun c=>[c])=l
 | []=>rfl
 | [c]=>rfl
 | c::d::l=>by
  have ih:=zhr (d::l)
  simp only[List.map_cons]at ih ⊢
  rw[joinL,ih]
  rfl
theorem nd_le:∀(l m:List Nat),l.Nodup->(∀x∈l,x∈m)->l.length<=m.length
 | [],_,_,_=>by simp
 | x::l,m,h,hs=>by
  rw[List.nodup_cons]at h
  have hx:=hs x (by simp)
  have:=nd_le l (m.erase x) h.2 fun y hy=>by
   have hne:y≠x:=fun e=>h.1 (by rw[<-e];exact hy)
   exact (List.mem_erase_of_ne hne).mpr (hs y (by simp[hy]))
  rw[List.length_erase_of_mem hx]at this
  have:=List.length_pos_of_mem hx
  simp only[List.length_cons];omega
theorem zlm (l:List Nat):((l.map fun c=>[c]).map List.length).sum=l.length:=by
 induction l with
 | nil=>rfl
 | cons c l ih=>simp only[List.map_cons,List.sum_cons,ih,List.length_cons,List.length_nil];omega
theorem wider_ok (ns:List Int)(n:Nat)(signs:List Nat)(st:Stor)(h:∀g,itemsAt (st++g) n=some (ns.map D.int))(hs:signs.length<=4)(hnd:signs.Nodup)(hab:∀x∈signs,x∈abcL):∃t:List Nat,t.length<=7/\t.Nodup/\(∀x∈t,x∈abcL)/\(∀x∈signs,x∈t)/\zgk [.loc n,.str signs] st=.ok (.str t) st:=by
 let R:List Nat:=abcL.filter fun c=>!decide (c∈signs)
 have hRl:22<=R.length/\R.length<=26:=by
  have h1:R.length<=abcL.length:=List.length_filter_le _ _
  have h2:=nd_le abcL (R++signs) (by decide) fun x hx=>by
   by_cases c:x∈signs
   ·exact List.mem_append_right _ c
   ·exact List.mem_append_left _ (List.mem_filter.mpr ⟨hx,by simpa using c⟩)
  rw[List.length_append]at h2
  have h3:abcL.length=26:=rfl
  omega
 have hRn:R.Nodup:=(by decide:abcL.Nodup).filter _
 have hRd:∀x∈R,x∈abcL/\x∉signs:=fun x hx=>by
  have:=List.mem_filter.mp hx
  exact⟨this.1,by simpa using this.2⟩
 have hc:∀g,zbe [.loc n,.int 3] (st++g)=.ok (.int (cellI ns 3)) (st++g):=fun g=>zd7 ns n 3 (st++g) (h g) (by omega)
 generalize cellI ns 3=c at hc
 obtain⟨j,hj⟩:∃j:Nat,c % (R.length:Nat)=(j:Nat):=Int.eq_ofNat_of_zero_le (Int.emod_nonneg _ (by omega))
 have hjl:j<R.length:=by have:=Int.emod_lt_of_pos c (show (0:Int)<(R.length:Nat) by omega);omega
 obtain⟨k,hk⟩:∃k:Nat,c / 26 % 4=(k:Nat):=Int.eq_ofNat_of_zero_le (by omega)
 have hk4:k<4:=by omega
 have hrot:(R.drop j++R.take j).Perm R:=by
  have:=List.perm_append_comm (l₁:=R.drop j) (l₂:=R.take j)
  rwa[List.take_append_drop]at this
 have hT:∀x∈(R.drop j++R.take j).take k,x∈R:=fun x hx=>hrot.mem_iff.mp (List.mem_of_mem_take hx)
 refine⟨signs++(R.drop j++R.take j).take k,?_,?_,?_,fun x hx=>List.mem_append_left _ hx,?_⟩
 ·rw[List.length_append,List.length_take];omega
 ·refine List.nodup_append.mpr ⟨hnd,((hrot.nodup_iff.mpr hRn).sublist (List.take_sublist _ _)),fun a ha b hb e=>?_⟩
  exact (hRd b (hT b hb)).2 (e ▸ ha)
 ·intro x hx
  rcases List.mem_append.mp hx with hx | hx
  ·exact hab x hx
  ·exact (hRd x (hT x hx)).1
 have cf:=zg2 (capt:=[some 1,none]) (mi:=strI (vr 2)) (g:=nameG 1) (t:=tB1 (op2 notInSV (vr 1) (vr 0))) (e:=vr 1) (env:=[some (.loc n),some (.str signs),some (.str abcL),none,none]) (st:=st) (st1:=st) (items:=abcL.map fun c=>D.str [c]) (gs:=[]) (fun d=>match d with | .str [c]=>!decide (c∈signs) | _=>false) (fun d=>d) (fun e=>∃e0,e=[some (.str signs),e0])
  (by rw[r_strI];simp only[r_vr];rfl) ⟨none,by simp[captE]⟩ (by rw[List.length_map];decide) (fun ys=>by simp) (by
   rintro d hd env' ys ⟨e0,rfl⟩
   obtain⟨x,hx,rfl⟩:=List.mem_map.mp hd
   have nI:∀Z,notInSV (.str [x]) (.str signs) Z=.ok (.bl (!decide (x∈signs))) Z:=fun Z=>by
    show (if signs.length<=1000000 then M.R.ok (D.bl (!decide (x∈signs))) Z else M.R.bad)=_
    rw[if_pos (by omega)]
   generalize (st++[MO.lst ys]:Stor)=Z at *
   exact⟨[some (.str signs),some (.str [x])],⟨_,rfl⟩,by simp,by simp[nI],fun _=>by simp⟩)
 have ef:(((abcL.map fun c=>D.str [c]).filter fun d=>match d with | .str [c]=>!decide (c∈signs) | _=>false).map fun d=>d)=(R.map fun c=>[c]).map D.str:=by
  rw[List.map_id',List.filter_map,List.map_map]
  rfl
 rw[ef]at cf
 have jn:=r_join (st++[.lst ((R.map fun c=>[c]).map D.str)]) [] st.length (R.map fun c=>[c]) (by simp[itemsAt]) (by rw[zlm];simp;omega)
 rw[zhr]at jn
 have hc1:=hc [.lst ((R.map fun c=>[c]).map D.str)]
 have gg:∀t,gc st (.ok (.str t) (st++[.lst ((R.map fun c=>[c]).map D.str)]))=.ok (.str t) st:=fun t=>zf4 (by simp)
 generalize hZ:(st++[MO.lst ((R.map fun c=>[c]).map D.str)]:Stor)=Z at *
 have lW:lenW [.str R] Z=.ok (.int (R.length:Nat)) Z:=zeo R Z (by omega)
 have m1:modV (.int c) (.int (R.length:Nat)) Z=.ok (.int (j:Nat)) Z:=by rw[zai Z c _ (by omega),hj]
 have f1:fdivV (.int c) (.int 26) Z=.ok (.int (c / 26)) Z:=zan Z c 26 (by omega)
 have m2:modV (.int (c / 26)) (.int 4) Z=.ok (.int (k:Nat)) Z:=by rw[zai Z _ 4 (by omega),hk]
 have s1:slV (.str R) (some ((j:Nat):Int)) none Z=.ok (.str (R.drop j)) Z:=by rw[zdg _ _ _ _ (by omega),zfr R j (by omega)]
 have s2:slV (.str R) none (some ((j:Nat):Int)) Z=.ok (.str (R.take j)) Z:=by rw[zdg _ _ _ _ (by omega),Law.zfz R j (by omega)]
 have a1:addV (.str (R.drop j)) (.str (R.take j)) Z=.ok (.str (R.drop j++R.take j)) Z:=by
  show (if (R.drop j).length+(R.take j).length<=1000000 then _ else _)=_
  rw[if_pos (by rw[List.length_drop,List.length_take];omega)]
 have hl2:(R.drop j++R.take j).length=R.length:=hrot.length_eq
 have s3:slV (.str (R.drop j++R.take j)) none (some ((k:Nat):Int)) Z=.ok (.str ((R.drop j++R.take j).take k)) Z:=by rw[zdg _ _ _ _ (by omega),Law.zfz _ k (by omega)]
 have a2:addV (.str signs) (.str ((R.drop j++R.take j).take k)) Z=.ok (.str (signs++(R.drop j++R.take j).take k)) Z:=by
  show (if signs.length+((R.drop j++R.take j).take k).length<=1000000 then _ else _)=_
  rw[if_pos (by rw[List.length_take];omega)]
 have gg:=gg (signs++(R.drop j++R.take j).take k)
 unfold zgk gcF fnM zff
 have hab2:([97,98,99,100,101,102,103,104,105,106,107,108,109,110,111,112,113,114,115,116,117,118,119,120,121,122]:List Nat)=abcL:=rfl
 rw[hab2,show startM 5 [D.loc n,.str signs]=[some (.loc n),some (.str signs),none,none,none] from rfl]
 have ty:∀s,isTy "str" (.str []) s=true:=fun s=>rfl
 generalize signs++(R.drop j++R.take j).take k=T5 at *
 generalize (R.drop j++R.take j).take k=T4 at *
 generalize R.drop j++R.take j=T3 at *
 generalize R.drop j=T2 at *
 generalize R.take j=T1 at *
 generalize ((R.length:Nat):Int)=RL at *
 generalize ((j:Nat):Int)=J at *
 generalize ((k:Nat):Int)=KK at *
 generalize R=RR at *
 generalize compE _ _ _ _ _=CE at *
 generalize abcL=AB at *
 simp[cf,ty,jn,hc1,lW,m1,f1,m2,s1,s2,a1,s3,a2,gg]
end Law
set_option maxHeartbeats 0
namespace Law
open L2 M TK TS
theorem encC_img (f:Nat)(ks:List TK)(t k:Nat)(u:List Nat):encC f ks (img t k u)=.tup [.int (t:Nat),.str (List.replicate k 95),.str [(u++if k=0 then [] else [95]).headD 95],.str (u++if k=0 then [] else [95]).tail]:=rfl
theorem zhi (f:Nat)(ks:List TK)(s k:Nat)(row:List Nat)(st:Stor)(hr:row.length<=1000)(hk:k<=1000):zdq [.tup [.int (s:Nat),.str row],.int (k:Nat)] st=.ok (encC f ks (img s k row)) st:=by
 rw[encC_img]
 unfold zdq gcF fnM zc4
 have mk:∀s1,mulSV (.str [95]) (.int (k:Nat)) s1=.ok (.str (List.replicate k 95)) s1:=fun s1=>zli 95 k s1 (by omega)
 have m0:∀s1,mulSV (.str [95]) (.int 0) s1=.ok (.str []) s1:=fun s1=>zli 95 0 s1 (by omega)
 have m1:∀s1,mulSV (.str [95]) (.int 1) s1=.ok (.str [95]) s1:=fun s1=>zli 95 1 s1 (by omega)
 rw[show startM 4 [D.tup [.int (s:Nat),.str row],.int (k:Nat)]=[some (.tup [.int (s:Nat),.str row]),some (.int (k:Nat)),none,none] from rfl]
 cases row with
 | nil =>
  have e1:((([]:List Nat)++if k=0 then [] else [95]).headD 95)=95:=by by_cases c:k=0<;>simp[c]
  have e2:(([]:List Nat)++if k=0 then [] else [95]).tail=[]:=by by_cases c:k=0<;>simp[c]
  rw[e1,e2]
  simp[mk,zd4]
 | cons c t =>
  have hx:=fun s1=>ix_hd c t s1 (by omega)
  have hs:=fun s1=>sl_tl (c::t) s1 (by omega)
  simp only[List.tail_cons,List.length_cons]at hs hr
  have e1:((c::t++if k=0 then [] else [95]).headD 95)=c:=rfl
  have e2:(c::t++if k=0 then [] else [95]).tail=t++if k=0 then [] else [95]:=rfl
  rw[e1,e2]
  by_cases h0:0<k
  ·have ad:∀s1,addV (.str t) (.str [95]) s1=.ok (.str (t++[95])) s1:=fun s1=>zbg s1 _ _ (by simp;omega)
   rw[if_neg (by omega)]
   simp[mk,m1,h0,hx,hs,ad,zd4]
  ·have ad:∀s1,addV (.str t) (.str []) s1=.ok (.str t) s1:=fun s1=>by rw[zbg s1 _ _ (by simp;omega),List.append_nil]
   rw[if_pos (by omega)]
   simp[mk,m0,h0,hx,hs,ad,zd4]
theorem zic (RL:List Rl)(n:Nat)(st:Stor)(hg:st[n]? = some (.lst (RL.map encRl)))(hR:∀r∈RL,∀r'∈RL,r.s=r'.s->r.x=r'.x->r.w=r'.w/\r.g=r'.g)(r:Rl)(hr:r∈RL)(rest:List Nat)(hl:rest.length<=1000)(hw:r.w.length<=1000) :
  zc2 [.loc n,.tup [.int (r.s:Nat),.str (r.x::rest)]] st=.ok (.tup [.int (r.g:Nat),.str (rest++r.w)]) st:=by
 unfold zc2 gcF fnM zc3
 generalize hb:(ifS (andT _ _) (retS _) skipS:MS)=body
 have j0:∀s1,ixV (.tup [.int (r.s:Nat),.str (r.x::rest)]) (.int 0) s1=.ok (.int (r.s:Nat)) s1:=fun s1=>zav s1 0 _ _ rfl
 have j1:∀s1,ixV (.tup [.int (r.s:Nat),.str (r.x::rest)]) (.int 1) s1=.ok (.str (r.x::rest)) s1:=fun s1=>zav s1 1 _ _ rfl
 have s1:∀s,slV (.str (r.x::rest)) none (some 1) s=.ok (.str [r.x]) s:=fun s=>by
  rw[zdg _ _ _ _ (by simp;omega)]
  have:=zfz (r.x::rest) 1 (by simp)
  rw[show ((1:Nat):Int)=1 from rfl]at this
  rw[this];simp
 have s2:∀s,slV (.str (r.x::rest)) (some 1) none s=.ok (.str rest) s:=fun s=>by
  have:=sl_tl (r.x::rest) s (by simp;omega)
  simpa using this
 obtain⟨o,st',h1,rfl,rfl⟩:=forGo_ret (g:=tupG 4 (consG (nameG 2) (consG (nameG 3) (consG (nameG 4) (consG (nameG 5) nilG))))) (b:=body) (gs:=[(n,.lst (RL.map encRl))]) (items:=RL.map encRl)
  (fun pre env s=>(∀d∈pre,d≠encRl r)/\s=st/\∃a2 a3 a4 a5,env=[some (.loc n),some (.tup [.int (r.s:Nat),.str (r.x::rest)]),a2,a3,a4,a5])
  (fun o s=>o=.rt (.tup [.int (r.g:Nat),.str (rest++r.w)])/\s=st)
  (env:=[some (.loc n),some (.tup [.int (r.s:Nat),.str (r.x::rest)]),none,none,none,none]) (st:=st) ⟨by simp,rfl,none,none,none,none,rfl⟩ (by
   rintro pre d post env s hi ⟨hpre,rfl,a2,a3,a4,a5,rfl⟩
   have hd:d∈RL.map encRl:=by rw[hi];simp
   obtain⟨q,hq,rfl⟩:=List.mem_map.mp hd
   refine⟨by simp[hg],[some (.loc n),some (.tup [.int (r.s:Nat),.str (r.x::rest)]),some (.int (q.s:Nat)),some (.str [q.x]),some (.str q.w),some (.int (q.g:Nat))],s,by unfold encRl;simp,?_⟩
   have ad:∀s1,addV (.str rest) (.str r.w) s1=.ok (.str (rest++r.w)) s1:=fun s1=>zbg s1 _ _ (by omega)
   by_cases e1:q.s=r.s
   ·by_cases e2:q.x=r.x
    ·obtain⟨ew,eg⟩:=hR q hq r hr e1 e2
     refine .inr (.inr ⟨_,s,?_,rfl,rfl⟩)
     rw[<-hb]
     rw[e1,e2,ew,eg]
     generalize D.tup [.int (r.s:Nat),.str (r.x::rest)]=TT at *
     simp[j0,j1,s1,s2,ad]
    ·refine .inl ⟨[some (.loc n),some (.tup [.int (r.s:Nat),.str (r.x::rest)]),some (.int (q.s:Nat)),some (.str [q.x]),some (.str q.w),some (.int (q.g:Nat))],s,.inl ?_,?_,rfl,_,_,_,_,rfl⟩
     ·rw[<-hb,e1]
      generalize D.tup [.int (r.s:Nat),.str (r.x::rest)]=TT at *
      simp[j0,j1,s1,e2]
     ·intro d hd
      rcases List.mem_append.mp hd with hd | hd
      ·exact hpre d hd
      ·rw[List.mem_singleton.mp hd]
       intro z
       unfold encRl at z
       injection z with z
       simp at z
       exact e2 z.2.1
   ·have e1':¬ ((q.s:Nat):Int)=((r.s:Nat):Int):=by omega
    refine .inl ⟨[some (.loc n),some (.tup [.int (r.s:Nat),.str (r.x::rest)]),some (.int (q.s:Nat)),some (.str [q.x]),some (.str q.w),some (.int (q.g:Nat))],s,.inl ?_,?_,rfl,_,_,_,_,rfl⟩
    ·rw[<-hb]
     generalize D.tup [.int (r.s:Nat),.str (r.x::rest)]=TT at *
     generalize ((q.s:Nat):Int)=QS at *
     generalize ((r.s:Nat):Int)=RS at *
     simp[j0,j1,s1,e1']
    ·intro d hd
     rcases List.mem_append.mp hd with hd | hd
     ·exact hpre d hd
     ·rw[List.mem_singleton.mp hd]
      intro z
      unfold encRl at z
      injection z with z
      simp at z
      exact e1 (by omega)) (by
   rintro env s ⟨hall,_⟩
   exact absurd rfl (hall _ (List.mem_map.mpr ⟨r,hr,rfl⟩)))
 rw[show startM 6 [D.loc n,.tup [.int (r.s:Nat),.str (r.x::rest)]]=[some (.loc n),some (.tup [.int (r.s:Nat),.str (r.x::rest)]),none,none,none,none] from rfl]
 generalize RL.map encRl=IT at *
 simp[hg,h1,zd4]
theorem zkp (RL:List Rl)(n:Nat)(st:Stor)(hg:st[n]? = some (.lst (RL.map encRl)))(s0:Nat)(row:List Nat)(hl:row.length<=1000)(hno:∀r∈RL,¬ (r.s=s0/\row.take 1=[r.x])) :
  zc2 [.loc n,.tup [.int (s0:Nat),.str row]] st=.ok .non st:=by
 unfold zc2 gcF fnM zc3
 generalize hb:(ifS (andT _ _) (retS _) skipS:MS)=body
 have j0:∀s1,ixV (.tup [.int (s0:Nat),.str row]) (.int 0) s1=.ok (.int (s0:Nat)) s1:=fun s1=>zav s1 0 _ _ rfl
 have j1:∀s1,ixV (.tup [.int (s0:Nat),.str row]) (.int 1) s1=.ok (.str row) s1:=fun s1=>zav s1 1 _ _ rfl
 have s1:∀s,slV (.str row) none (some 1) s=.ok (.str (row.take 1)) s:=fun s=>by
  rw[zdg _ _ _ _ (by omega)]
  cases row with
  | nil=>rfl
  | cons c t =>
   have:=zfz (c::t) 1 (by simp)
   rw[show ((1:Nat):Int)=1 from rfl]at this
   rw[this]
 obtain⟨env',st',h1,a2,a3,a4,a5,rfl,rfl⟩:=zbx (g:=tupG 4 (consG (nameG 2) (consG (nameG 3) (consG (nameG 4) (consG (nameG 5) nilG))))) (b:=body) (gs:=[(n,.lst (RL.map encRl))]) (items:=RL.map encRl)
  (fun i env s=>∃a2 a3 a4 a5,env=[some (.loc n),some (.tup [.int (s0:Nat),.str row]),a2,a3,a4,a5]/\s=st)
  (env:=[some (.loc n),some (.tup [.int (s0:Nat),.str row]),none,none,none,none]) (st:=st) ⟨none,none,none,none,rfl,rfl⟩ (by
   rintro i d env s hi ⟨a2,a3,a4,a5,rfl,rfl⟩
   rw[List.getElem?_map]at hi
   obtain⟨q,hq,rfl⟩:=Option.map_eq_some_iff.mp hi
   have hq2:=hno q (List.mem_of_getElem? hq)
   refine⟨by simp[hg],[some (.loc n),some (.tup [.int (s0:Nat),.str row]),some (.int (q.s:Nat)),some (.str [q.x]),some (.str q.w),some (.int (q.g:Nat))],s,by unfold encRl;simp,[some (.loc n),some (.tup [.int (s0:Nat),.str row]),some (.int (q.s:Nat)),some (.str [q.x]),some (.str q.w),some (.int (q.g:Nat))],s,.inl ?_,_,_,_,_,rfl,rfl⟩
   rw[<-hb]
   generalize D.tup [.int (s0:Nat),.str row]=TT at *
   by_cases e:((q.s:Nat):Int)=((s0:Nat):Int)
   ·have e2:¬ [q.x]=row.take 1:=fun z=>hq2 ⟨by omega,z.symm⟩
    generalize row.take 1=R1 at *
    generalize ((q.s:Nat):Int)=QS at *
    generalize ((s0:Nat):Int)=RS at *
    simp[j0,j1,s1,e,e2]
   ·generalize ((q.s:Nat):Int)=QS at *
    generalize ((s0:Nat):Int)=RS at *
    simp[j0,j1,s1,e]) (by
   rintro env s ⟨_,_,_,_,_,e⟩
   rw[e];simp[hg])
 rw[show startM 6 [D.loc n,.tup [.int (s0:Nat),.str row]]=[some (.loc n),some (.tup [.int (s0:Nat),.str row]),none,none,none,none] from rfl]
 generalize RL.map encRl=IT at *
 simp[hg,h1,zd4]
end Law
set_option maxHeartbeats 0
namespace Law
open L2 M TK TS
theorem zkh (c:TC)(q:TQ):(moved c q).l.length<=c.l.length+1/\(moved c q).r.length<=c.r.length+1:=by
 unfold moved atR atL
 split<;>simp<;>omega
theorem tk_top {f top:Nat}{ks:List TK}{s:M.TS}(hf:top+1=f)(h:isTk s):¬ ((numT f ks s:Nat):Int)<=((top:Nat):Int):=by
 cases s with
 | tp n=>exact h.elim
 | tk k=>simp only[numT];omega
noncomputable def EG (n m:Nat)(sd:D)(k top:Nat)(a5 a6:Option D)(N:Nat)(a8:Option D):MEnv:=[some (.loc n),some (.loc m),some sd,some (.int (k:Nat)),some (.int (top:Nat)),a5,a6,some (.int (N:Nat)),a8]
theorem steps_ok {ks:List TK}{ALL:List TQ}{kvs:List (List Key×D)}{f top:Nat}(hf:top+1=f)(T:TbT kvs f ks ALL)(S:Stor)(n m:Nat)(hS:S[n]? = some (.dic kvs))(N:Nat)(c c':TC)(hR:Rn ALL c' N c)(hN:N<=1000)(hl:c.l.length<=1000)(hr:c.r.length<=1000)
  (sd:D) (k:Nat) (a6 a8:Option D) (BI:MS)
  (hb:(seqS (setS 5 (callF zeh [] (consA (vr 0) (consA (vr 5) nilA))))
  (ifS (orT (tB1 (op2 isNoneV (vr 5) (ct .non))) (andT (tB1 (op2 ltV (op2 addV (vr 8) (ct (.int 1))) (vr 7))) (tB1 (op2 leV (op2 ixV (vr 5) (ct (.int 0))) (vr 4))))) (retS (ct (.bl false))) skipS):MS)=BI) :
  ∃a8',forGo (nameG 8) BI [] (upto 0 N) (EG n m sd k top (some (encC f ks c)) a6 N a8) S=.ok (.nx (EG n m sd k top (some (encC f ks c')) a6 N a8')) S:=by
 obtain⟨env',st',h1,ci,a8',h2,_,_,rfl,rfl⟩:=zbx (g:=nameG 8) (b:=BI) (gs:=[]) (items:=upto 0 N)
  (fun i env s=>∃(ci:TC) (a8:Option D),((i<N/\Rn ALL c' (N - i) ci)\/(i=N/\ci=c'))/\ci.l.length<=1000+i/\ci.r.length<=1000+i/\env=EG n m sd k top (some (encC f ks ci)) a6 N a8/\s=S)
  (env:=EG n m sd k top (some (encC f ks c)) a6 N a8) (st:=S) ⟨c,a8,by
   cases N with
   | zero=>cases hR
   | succ n=>exact .inl ⟨by omega,hR⟩,by omega,by omega,rfl,rfl⟩ (by
   rintro i d env s hi ⟨ci,a8,h2,h3,h4,rfl,rfl⟩
   obtain⟨hp,rfl⟩:=zek hi
   have ei:(0:Int)+((i:Nat):Int)=((i:Nat):Int):=by omega
   rw[ei]
   have hRn:Rn ALL c' (N - i) ci:=by
    rcases h2 with h | ⟨h,_⟩
    ·exact h.2
    ·omega
   have isn:∀(d:TC) s1,isNoneV (encC f ks d) .non s1=.ok (.bl false) s1:=fun d s1=>rfl
   have ix0:∀(d:TC) s1,ixV (encC f ks d) (.int 0) s1=.ok (.int (numT f ks d.s:Nat)) s1:=fun d s1=>zav _ _ _ _ rfl
   generalize hn:N - i=j at hRn
   cases hRn with
   | last _ q hq hfit e =>
    have nx:=zm3 T n s hS ci q hq hfit (by omega) (by omega)
    have ml:=zkh ci q
    rw[e]at nx ml
    have el:¬ (((i:Nat):Int)+1<((N:Nat):Int)):=by omega
    refine⟨by simp,EG n m sd k top (some (encC f ks ci)) a6 N (some (.int (i:Nat))),s,by unfold EG;simp,EG n m sd k top (some (encC f ks c')) a6 N (some (.int (i:Nat))),s,.inl ?_,c',_,.inr ⟨by omega,rfl⟩,by omega,by omega,rfl,rfl⟩
    rw[<-hb]
    have i1:=isn c'
    have i2:=ix0 c'
    generalize encC f ks ci=C1 at *
    generalize encC f ks c'=C2 at *
    unfold EG
    generalize ((i:Nat):Int)=II at *
    generalize ((N:Nat):Int)=NN at *
    simp[nx,i1,i2,el]
   | more _ q j hq hfit ht h =>
    have nx:=zm3 T n s hS ci q hq hfit (by omega) (by omega)
    have ml:=zkh ci q
    have tt:=tk_top (top:=top) (f:=f) (ks:=ks) hf ht
    refine⟨by simp,EG n m sd k top (some (encC f ks ci)) a6 N (some (.int (i:Nat))),s,by unfold EG;simp,EG n m sd k top (some (encC f ks (moved ci q))) a6 N (some (.int (i:Nat))),s,.inl ?_,moved ci q,_,.inl ⟨?_,?_⟩,by omega,by omega,rfl,rfl⟩
    ·rw[<-hb]
     have i1:=isn (moved ci q)
     have i2:=ix0 (moved ci q)
     generalize encC f ks ci=C1 at *
     generalize encC f ks (moved ci q)=C2 at *
     generalize ((numT f ks (moved ci q).s:Nat):Int)=NT at *
     unfold EG
     generalize ((i:Nat):Int)=II at *
     generalize ((N:Nat):Int)=NN at *
     generalize ((top:Nat):Int)=TP at *
     simp[nx,i1,i2,tt]
    ·have:0<j:=by cases h<;>omega
     omega
    ·rw[show N - (i+1)=j by omega];exact h) (fun _ _ _=>by simp)
 rw[zef]at h2
 rcases h2 with⟨h,_⟩ | ⟨_,rfl⟩
 ·exact absurd h (Nat.lt_irrefl _)
 ·exact⟨a8',h1⟩
structure Gy (RL:List Rl)(signs:List Nat)(top:Nat):Prop where
 len:RL.length<=20
 at_:∀r∈RL,r.s<=top/\r.x∈signs/\(∀c∈r.w,c∈signs)/\r.w.length<=8
 un:RL.Pairwise fun a b=>¬ (a.s=b.s/\a.x=b.x)
theorem Gy.one {RL:List Rl}{signs:List Nat}{top:Nat}(G:Gy RL signs top):∀r∈RL,∀r'∈RL,r.s=r'.s->r.x=r'.x->r.w=r'.w/\r.g=r'.g:=by
 intro r hr r' hr' e1 e2
 obtain⟨i,hi,rfl⟩:=List.getElem_of_mem hr
 obtain⟨j,hj,rfl⟩:=List.getElem_of_mem hr'
 rcases Nat.lt_trichotomy i j with h | h | h
 ·exact absurd ⟨e1,e2⟩ ((List.pairwise_iff_getElem.mp G.un) i j hi hj h)
 ·subst h;exact⟨rfl,rfl⟩
 ·exact absurd ⟨e1.symm,e2.symm⟩ ((List.pairwise_iff_getElem.mp G.un) j i hj hi h)
theorem zil {RL:List Rl}{signs:List Nat}{ks:List TK}{ALL:List TQ}{kvs:List (List Key×D)}{top:Nat}(G:Gy RL signs top)(h95:95∉signs)(A:AllT RL signs ks ALL)(T:TbT kvs (top+1) ks ALL)(n m:Nat)(st:Stor)(hn:st[n]? = some (.dic kvs))(hm:st[m]? = some (.lst (RL.map encRl)))
  (s k:Nat) (row:List Nat) (hs:s<=top) (hrow:∀c∈row,c∈signs) (hrl:row.length<=90) (hk:k<=301) :
  zcw [.loc n,.loc m,.tup [.int (s:Nat),.str row],.int (k:Nat),.int (top:Nat)] st=.ok (.bl true) st:=by
 have im:=zhi (top+1) ks s k row st (by omega) (by omega)
 have j1:∀s1,ixV (.tup [.int (s:Nat),.str row]) (.int 1) s1=.ok (.str row) s1:=fun s1=>zav s1 1 _ _ rfl
 have gcb:gc st (.ok (.bl true) st)=.ok (.bl true) st:=by simpa using zf4 (st:=st) (g:=[]) (d:=.bl true) (by simp)
 unfold zcw gcF fnM zee
 generalize hb:(seqS (setS 5 (callF zeh [] _)) (ifS _ _ _):MS)=BI
 rw[show startM 9 [D.loc n,.loc m,.tup [.int (s:Nat),.str row],.int (k:Nat),.int (top:Nat)]=[some (.loc n),some (.loc m),some (.tup [.int (s:Nat),.str row]),some (.int (k:Nat)),some (.int (top:Nat)),none,none,none,none] from rfl]
 by_cases hex:∃r∈RL,r.s=s/\row.take 1=[r.x]
 ·obtain⟨r,hr,rfl,hx⟩:=hex
  obtain⟨rest,rfl⟩:∃rest,row=r.x::rest:=by
   cases row with
   | nil=>simp at hx
   | cons c t=>exact⟨t,by simp at hx;rw[hx]⟩
  obtain⟨_,g2,g3,g4⟩:=G.at_ r hr
  simp only[List.length_cons]at hrl
  have rn:=zic RL m st hm G.one r hr rest (by omega) (by omega)
  have lp:=lapT A.src A.pas A.gro A.pab A.bak hr rest k (fun c hc=>hrow c (by simp[hc])) g3
  generalize hN:2*(rest.length+1)+2*r.w.length+1=N at lp
  have hil:(img r.s k (r.x::rest)).l.length<=1000:=by unfold img atR;simp;omega
  have hir:(img r.s k (r.x::rest)).r.length<=1000:=by unfold img atR;simp;split<;>simp<;>omega
  obtain⟨a8',fg⟩:=steps_ok rfl T st n m hn N _ _ lp (by omega) hil hir (.tup [.int (r.s:Nat),.str (r.x::rest)]) k (some (.tup [.int (r.g:Nat),.str (rest++r.w)])) none BI hb
  unfold EG at fg
  have i2:=zhi (top+1) ks r.g (k+1) (rest++r.w) st (by rw[List.length_append];omega) (by omega)
  have j2:∀s1,ixV (.tup [.int (r.g:Nat),.str (rest++r.w)]) (.int 1) s1=.ok (.str (rest++r.w)) s1:=fun s1=>zav s1 1 _ _ rfl
  have l1:∀s1,lenW [.str (r.x::rest)] s1=.ok (.int ((rest.length+1:Nat):Int)) s1:=fun s1=>by rw[zeo _ _ (by simp;omega)];simp
  have l2:∀s1,lenW [.str (rest++r.w)] s1=.ok (.int ((rest.length+r.w.length:Nat):Int)) s1:=fun s1=>by rw[zeo _ _ (by simp;omega)];simp
  have en:(2*((rest.length+1:Nat):Int)+2*(((rest.length+r.w.length:Nat):Int) - ((rest.length+1:Nat):Int)+1)+1)=(N:Nat):=by omega
  have isn:∀s1,isNoneV (.tup [.int (r.g:Nat),.str (rest++r.w)]) .non s1=.ok (.bl false) s1:=fun s1=>rfl
  have k1:((k:Nat):Int)+1=((k+1:Nat):Int):=by omega
  have fl:∀s1,eqV 200 (encC (top+1) ks (img r.g (k+1) (rest++r.w))) (encC (top+1) ks (img r.g (k+1) (rest++r.w))) s1=.ok (.bl true) s1:=fun s1=>r_eq_flat s1 200 _ (by simp[encC]) (by simp[encC])
  generalize encC (top+1) ks (img r.g (k+1) (rest++r.w))=C2 at *
  generalize encC (top+1) ks (img r.s k (r.x::rest))=C1 at *
  generalize D.tup [.int (r.g:Nat),.str (rest++r.w)]=T2 at *
  generalize D.tup [.int (r.s:Nat),.str (r.x::rest)]=T1 at *
  generalize D.str (rest++r.w)=W2 at *
  generalize D.str (r.x::rest)=W1 at *
  have mu1:∀s1,mulV (.int 2) (.int ((rest.length+1:Nat):Int)) s1=.ok (.int (2*((rest.length+1:Nat):Int))) s1:=fun s1=>zcr s1 _ _ (.inl (by decide))
  have mu2:∀s1,mulV (.int 2) (.int (((rest.length+r.w.length:Nat):Int) - ((rest.length+1:Nat):Int)+1)) s1=.ok (.int (2*(((rest.length+r.w.length:Nat):Int) - ((rest.length+1:Nat):Int)+1))) s1:=fun s1=>zcr s1 _ _ (.inl (by decide))
  generalize ((rest.length+1:Nat):Int)=n1 at *
  generalize ((rest.length+r.w.length:Nat):Int)=n2 at *
  generalize ((k+1:Nat):Int)=kk1 at *
  generalize hNN:((N:Nat):Int)=NN at *
  have up:range1I (consA (vr 7) nilA) [some (.loc n),some (.loc m),some T1,some (.int (k:Nat)),some (.int (top:Nat)),some C1,some T2,some (.int NN),none] st=.ok (upto 0 N,[]) st:=by rw[<-hNN];simp;omega
  generalize hR1:range1I (consA (vr 7) nilA)=R1 at *
  generalize ((k:Nat):Int)=KK at *
  generalize ((top:Nat):Int)=TT at *
  generalize upto 0 N=UP at *
  simp[im,rn,isn,j1,j2,l1,l2,mu1,mu2,en,up,fg,k1,i2,fl,gcb]
 ·have hno:∀r∈RL,¬ (r.s=s/\row.take 1=[r.x]):=fun r hr h=>hex ⟨r,hr,h⟩
  have rn:=zkp RL m st hm s row (by omega) hno
  have nn:=zmj T n st hn (img s k row) (fun q hq e=>by
   unfold kT at e
   simp only[List.cons.injEq,Sum.inl.injEq,Sum.inr.injEq,zgi,and_true]at e
   obtain⟨e1,e2⟩:=e
   have e1:(s:Int)=((numT (top+1) ks q.s:Nat):Int):=e1
   cases A.good q hq with
   | src r hr =>
    have e1:(s:Int)=((r.s:Nat):Int):=e1
    have e2:(img s k row).h=r.x:=e2
    refine hno r hr ⟨by omega,?_⟩
    cases row with
    | nil =>
     have:(img s k []).h=95:=by unfold img atR;by_cases c:k=0<;>simp[c]
     rw[this]at e2
     exact absurd (e2 ▸ (G.at_ r hr).2.1) h95
    | cons c t =>
     have:(img s k (c::t)).h=c:=rfl
     rw[this]at e2
     rw[e2];rfl
   | pas w t c h=>simp only[pasR,numT]at e1;omega
   | gro w t=>cases w<;>(simp only[groR,numT]at e1;omega)
   | pab t c h=>simp only[pasR,numT]at e1;omega
   | bak t=>simp only[bakR,numT]at e1;omega)
  generalize encC (top+1) ks (img s k row)=C1 at *
  have i1:∀s1,isNoneV .non .non s1=.ok (.bl true) s1:=fun s1=>rfl
  generalize D.tup [.int (s:Nat),.str row]=T1 at *
  simp[im,rn,nn,i1,gcb]
end Law
set_option maxHeartbeats 0
namespace Law
open L2 M TK TS
theorem zm7 (ns:List Int)(n:Nat)(more row:List Nat)(st:Stor)(h:itemsAt st n=some (ns.map D.int))(hm:0<more.length)(hm2:more.length<=1000)(hr:row.length<=1000) :
  ∃t:List Nat,t.length=row.length/\(∀x∈t,x∈row\/x∈more)/\zet [.loc n,.str more,.str row] st=.ok (.str t) st:=by
 have c7:=zd7 ns n 7 st h (by omega)
 rw[show ((7:Nat):Int)=7 from rfl]at c7
 generalize cellI ns 7=e at c7
 have f5:∀s,fdivV (.int e) (.int 5) s=.ok (.int (e / 5)) s:=fun s=>zan s _ _ (by omega)
 generalize e / 5=c at f5
 have m3:∀s,modV (.int c) (.int 3) s=.ok (.int (c % 3)) s:=fun s=>zai s _ _ (by omega)
 have f3:∀s,fdivV (.int c) (.int 3) s=.ok (.int (c / 3)) s:=fun s=>zan s _ _ (by omega)
 have lr:∀s,lenW [.str row] s=.ok (.int (row.length:Nat)) s:=fun s=>zeo row s (by omega)
 unfold zet gcF fnM zd2
 rw[show startM 5 [D.loc n,.str more,.str row]=[some (.loc n),some (.str more),some (.str row),none,none] from rfl]
 have gg:∀t,gc st (.ok (.str t) st)=.ok (.str t) st:=fun t=>by simpa using zf4 (st:=st) (g:=[]) (d:=.str t) (by simp)
 by_cases c1:c % 3=1
 ·by_cases c2:row.length<2
  ·refine⟨row,rfl,fun x hx=>.inl hx,?_⟩
   have c2':((row.length:Nat):Int)<2:=by omega
   generalize ((row.length:Nat):Int)=rl at *
   have:=gg row
   simp[c7,f5,m3,lr,c1,c2',this]
  ·have c2':¬ ((row.length:Nat):Int)<2:=by omega
   obtain⟨j,hj⟩:=Int.eq_ofNat_of_zero_le (show 0<=c / 3 % (((row.length:Nat):Int) - 1) from Int.emod_nonneg _ (by omega))
   have hjl:j<row.length - 1:=by have:=Int.emod_lt_of_pos (c / 3) (show (0:Int)<((row.length:Nat):Int) - 1 by omega);omega
   have mj:∀s,modV (.int (c / 3)) (.int (((row.length:Nat):Int) - 1)) s=.ok (.int (j:Nat)) s:=fun s=>by rw[zai s _ _ (by omega),hj]
   have a1:(1:Int)+((j:Nat):Int)=((j+1:Nat):Int):=by omega
   have a2:((j+1:Nat):Int)+1=((j+2:Nat):Int):=by omega
   have s1:∀s,slV (.str row) none (some ((j+1:Nat):Int)) s=.ok (.str (row.take (j+1))) s:=fun s=>by rw[zdg _ _ _ _ (by omega),Law.zfz row (j+1) (by omega)]
   have s2:∀s,slV (.str row) (some ((j+2:Nat):Int)) none s=.ok (.str (row.drop (j+2))) s:=fun s=>by rw[zdg _ _ _ _ (by omega),zfr row (j+2) (by omega)]
   obtain⟨la,hla⟩:∃la,more[more.length - 1]? = some la:=⟨_,List.getElem?_eq_getElem (by omega)⟩
   have ix:∀s,ixV (.str more) (.int (-1)) s=.ok (.str [la]) s:=fun s=>by
    refine zes s more _ _ (by omega) ?_
    unfold atI ixN
    rw[if_neg (by omega),if_pos (by simp;omega)]
    have e:(-1+((more.length:Nat):Int)).toNat=more.length - 1:=by omega
    rw[e]
    simpa using hla
   have n1:∀s,negV (.int 1) s=.ok (.int (-1)) s:=fun _=>rfl
   have ad1:∀s,addV (.str (row.take (j+1))) (.str [la]) s=.ok (.str (row.take (j+1)++[la])) s:=fun s=>zbg s _ _ (by simp;omega)
   have ad2:∀s,addV (.str (row.take (j+1)++[la])) (.str (row.drop (j+2))) s=.ok (.str (row.take (j+1)++[la]++row.drop (j+2))) s:=fun s=>zbg s _ _ (by simp;omega)
   refine⟨row.take (j+1)++[la]++row.drop (j+2),by simp;omega,fun x hx=>?_,?_⟩
   ·rcases List.mem_append.mp hx with hx | hx
    ·rcases List.mem_append.mp hx with hx | hx
     ·exact .inl (List.mem_of_mem_take hx)
     ·rw[List.mem_singleton.mp hx];exact .inr (List.mem_of_getElem? hla)
    ·exact .inl (List.mem_of_mem_drop hx)
   ·have:=gg (row.take (j+1)++[la]++row.drop (j+2))
    generalize row.take (j+1)++[la]++row.drop (j+2)=W3 at *
    generalize row.take (j+1)++[la]=W2 at *
    generalize row.take (j+1)=W1 at *
    generalize row.drop (j+2)=W4 at *
    generalize ((j+1:Nat):Int)=J1 at *
    generalize ((j+2:Nat):Int)=J2 at *
    generalize ((j:Nat):Int)=J0 at *
    generalize ((row.length:Nat):Int)=rl at *
    simp[c7,f5,m3,f3,lr,c1,c2',mj,a1,a2,s1,s2,ix,n1,ad1,ad2,this]
 ·refine⟨row,rfl,fun x hx=>.inl hx,?_⟩
  have:=gg row
  simp[c7,f5,m3,c1,this]
theorem stand_ok (ns:List Int)(n m:Nat)(ss signs more:List Nat)(st:Stor)(h:itemsAt st n=some (ns.map D.int))(hm:st[m]? = some (.lst (ss.map fun s=>D.int (s:Nat))))(hs:0<ss.length)(hg:0<signs.length)(hg4:signs.length<=4)(h1:0<more.length)(h2:more.length<=1000)(hsm:∀x∈signs,x∈more) :
  ∃(s:Nat) (row:List Nat),s∈ss/\row.length<=90/\(∀x∈row,x∈more)/\zc6 [.loc n,.str signs,.str more,.loc m] st=.ok (.tup [.int (s:Nat),.str row]) st:=by
 have c2:=zd7 ns n 2 st h (by omega)
 rw[show ((2:Nat):Int)=2 from rfl]at c2
 generalize cellI ns 2=e2 at c2
 have c4:=zd7 ns n 4 st h (by omega)
 rw[show ((4:Nat):Int)=4 from rfl]at c4
 generalize cellI ns 4=e4 at c4
 have im:itemsAt st m=some (ss.map fun s=>D.int (s:Nat)):=by unfold itemsAt;rw[hm]
 obtain⟨j,hj,j1,j2⟩:=zid (ss.map fun s=>D.int (s:Nat)) e4 (by simpa using hs)
 rw[List.length_map]at j1 j2 hj
 have ixs:ixV (.loc m) (.int (e4 % ((ss.length:Nat):Int))) st=.ok (.int (ss[j]:Nat)) st:=by
  refine zcf st m _ _ _ im ?_
  rw[j2,List.getElem_map]
 have lss:lenW [.loc m] st=.ok (.int (ss.length:Nat)) st:=by have:=zhg im;rwa[List.length_map]at this
 have m4:∀s,modV (.int e4) (.int (ss.length:Nat)) s=.ok (.int (e4 % ((ss.length:Nat):Int))) s:=fun s=>zai s _ _ (by omega)
 obtain⟨many,hm90,hmn⟩:∃many:Nat,many<=90/\(if e2 / 12 % 6=1 then 60+e2 / 72 % 31 else 1+e2 % 12)=(many:Nat):=by
  by_cases c:e2 / 12 % 6=1
  ·obtain⟨k,hk⟩:=Int.eq_ofNat_of_zero_le (show 0<=60+e2 / 72 % 31 by omega)
   exact⟨k,by omega,by rw[if_pos c];omega⟩
  ·obtain⟨k,hk⟩:=Int.eq_ofNat_of_zero_le (show 0<=1+e2 % 12 by omega)
   exact⟨k,by omega,by rw[if_neg c];omega⟩
 obtain⟨row,r1,r2,fT⟩:=text_ok (e2 / 2232) many signs st hg (by omega) (by omega)
 obtain⟨row',q1,q2,fS⟩:=zm7 ns n more row st h h1 h2 (by omega)
 refine⟨ss[j],row',List.getElem_mem _,by omega,fun x hx=>?_,?_⟩
 ·rcases q2 x hx with hx | hx
  ·exact hsm x (r2 x hx)
  ·exact hx
 generalize ss[j]=s0 at *
 have f12:∀s,fdivV (.int e2) (.int 12) s=.ok (.int (e2 / 12)) s:=fun s=>zan s _ _ (by omega)
 have f72:∀s,fdivV (.int e2) (.int 72) s=.ok (.int (e2 / 72)) s:=fun s=>zan s _ _ (by omega)
 have f22:∀s,fdivV (.int e2) (.int 2232) s=.ok (.int (e2 / 2232)) s:=fun s=>zan s _ _ (by omega)
 have m12:∀s,modV (.int e2) (.int 12) s=.ok (.int (e2 % 12)) s:=fun s=>zai s _ _ (by omega)
 have m6:∀s,modV (.int (e2 / 12)) (.int 6) s=.ok (.int (e2 / 12 % 6)) s:=fun s=>zai s _ _ (by omega)
 have m31:∀s,modV (.int (e2 / 72)) (.int 31) s=.ok (.int (e2 / 72 % 31)) s:=fun s=>zai s _ _ (by omega)
 have gg:gc st (.ok (.tup [.int (s0:Nat),.str row']) st)=.ok (.tup [.int (s0:Nat),.str row']) st:=by simpa using zf4 (st:=st) (g:=[]) (d:=.tup [.int (s0:Nat),.str row']) (by simp)
 unfold zc6 gcF fnM zci
 rw[show startM 7 [D.loc n,.str signs,.str more,.loc m]=[some (.loc n),some (.str signs),some (.str more),some (.loc m),none,none,none] from rfl]
 generalize ((many:Nat):Int)=MN at *
 generalize ((ss.length:Nat):Int)=SL at *
 generalize ((s0:Nat):Int)=S0 at *
 by_cases c:e2 / 12 % 6=1
 ·rw[if_pos c]at hmn
  generalize e2 / 72 % 31=q5 at *
  generalize e2 / 72=q4 at *
  generalize e2 / 12 % 6=q3 at *
  generalize e2 / 12=q2' at *
  generalize e2 % 12=q1' at *
  generalize e2 / 2232=q0 at *
  generalize e4 % SL=q6 at *
  simp[c2,c4,f12,f72,f22,m12,m6,m31,c,hmn,fT,fS,lss,m4,ixs,gg]
 ·rw[if_neg c]at hmn
  generalize e2 / 12 % 6=q3 at *
  generalize e2 / 12=q2' at *
  generalize e2 % 12=q1' at *
  generalize e2 / 2232=q0 at *
  generalize e4 % SL=q6 at *
  simp[c2,c4,f12,f22,m12,m6,c,hmn,fT,fS,lss,m4,ixs,gg]
end Law
set_option maxHeartbeats 0
namespace Law
open L2 M TK TS
theorem le_last:∀{ss:List Nat},ss.Pairwise (· < ·)->∀{x:Nat},ss[ss.length - 1]? = some x->∀y∈ss,y<=x:=by
 intro ss h x hx y hy
 obtain⟨i,hi⟩:=List.getElem?_of_mem hy
 have hil:=(List.getElem?_eq_some_iff.mp hi).1
 by_cases e:i=ss.length - 1
 ·rw[e,hx]at hi
  exact Nat.le_of_eq (Option.some.inj hi).symm
 ·obtain⟨h1,e1⟩:=List.getElem?_eq_some_iff.mp hi
  obtain⟨h2,e2⟩:=List.getElem?_eq_some_iff.mp hx
  have:=(List.pairwise_iff_getElem.mp h) i (ss.length - 1) h1 h2 (by omega)
  rw[e1,e2]at this
  exact Nat.le_of_lt this
theorem gc_asis {st st':Stor}{ds:List D}(h:¬ under st.length (.tup ds)):gc st (.ok (.tup ds) st')=.ok (.tup ds) st':=by
 unfold gc
 dsimp only
 rw[if_neg fun z=>h z.2]
structure Cs (RL:List Rl)(more:List Nat)(top s:Nat)(row:List Nat):Prop where
 g:Gy RL more top
 nd:more.Nodup
 abc:∀x∈more,x∈abcL
 len:more.length<=26
 hs:s<=top
 hrow:∀x∈row,x∈more
 rl:row.length<=90
theorem zhs (ns:List Int):∃(RL:List Rl) (more:List Nat) (top s:Nat) (row:List Nat) (O1 O3:MO),Cs RL more top s row/\(∀n,underO n O1)/\(∀n,underO n O3) /\
  zdj [.loc 0] [.frz (ns.map D.int)]=.ok (.tup [.loc 2,.int (top:Nat),.str more,.tup [.int (s:Nat),.str row]]) [.frz (ns.map D.int),O1,.lst (RL.map encRl),O3]:=by
 generalize hO0:MO.frz (ns.map D.int)=O0
 obtain⟨signs,s1,s2,s3,s4,fA⟩:=zkx ns 0 [O0] (by rw[<-hO0];rfl)
 obtain⟨ss,t1,t2,t3,t4,fS⟩:=states_ok ns 0 [O0] (by rw[<-hO0];rfl)
 have U1:∀n,underO n (.lst (ss.map fun s=>D.int (s:Nat))):=fun n=>by
  show unders _ _
  rw[zdb];intro d hd
  obtain⟨c,_,rfl⟩:=List.mem_map.mp hd
  simp
 generalize hO1:MO.lst (ss.map fun s=>D.int (s:Nat))=O1 at fS U1
 have hsn:ss.Nodup:=t3.imp fun h=>Nat.ne_of_lt h
 obtain⟨RL,H,fR⟩:=zl1 ns 0 1 ss signs [O0,O1] (by rw[<-hO0];rfl) (by rw[<-hO1];rfl) t1 t2 s1 s2 hsn s3
 obtain⟨la,hla⟩:∃la,ss[ss.length - 1]? = some la:=⟨_,List.getElem?_eq_getElem (by omega)⟩
 have ixl:ixV (.loc 1) (.int (-1)) [O0,O1,.lst (RL.map encRl)]=.ok (.int (la:Nat)) [O0,O1,.lst (RL.map encRl)]:=by
  refine zcf _ 1 _ (ss.map fun s=>D.int (s:Nat)) _ (by rw[<-hO1];rfl) ?_
  unfold atI ixN
  rw[if_neg (by omega),if_pos (by simp;omega)]
  have e:(-1+(((ss.map fun s=>D.int (s:Nat)).length:Nat):Int)).toNat=ss.length - 1:=by rw[List.length_map];omega
  rw[e]
  simp only[Option.bind_some]
  rw[List.getElem?_map,hla];rfl
 have c5:=zd7 ns 0 5 [O0,O1,.lst (RL.map encRl)] (by rw[<-hO0];rfl) (by omega)
 rw[show ((5:Nat):Int)=5 from rfl]at c5
 generalize hO3:MO.lst [.int 0,.int (cellI ns 5 / 3 % 31),.int 1]=O3
 have U3:∀n,underO n O3:=fun n=>by
  rw[<-hO3]
  show unders _ _
  simp
 have c5':=zd7 ns 0 5 [O0,O1,.lst (RL.map encRl),O3] (by rw[<-hO0];rfl) (by omega)
 rw[show ((5:Nat):Int)=5 from rfl]at c5'
 obtain⟨top,d5,hd5,hd6,hla5⟩:∃(top:Nat) (d:Int),ixV (.loc 3) (.int (cellI ns 5 % 3)) [O0,O1,.lst (RL.map encRl),O3]=.ok (.int d) [O0,O1,.lst (RL.map encRl),O3]/\((la:Nat):Int)+d=(top:Nat)/\la<=top:=by
  have i3:itemsAt [O0,O1,.lst (RL.map encRl),O3] 3=some [.int 0,.int (cellI ns 5 / 3 % 31),.int 1]:=by rw[<-hO3];rfl
  rcases (show cellI ns 5 % 3=0\/cellI ns 5 % 3=1\/cellI ns 5 % 3=2 by omega) with e | e | e
  ·exact⟨la,0,by rw[e];exact zcf _ 3 _ _ _ i3 rfl,by omega,by omega⟩
  ·obtain⟨j,hj⟩:=Int.eq_ofNat_of_zero_le (show 0<=cellI ns 5 / 3 % 31 by omega)
   exact⟨la+j,cellI ns 5 / 3 % 31,by rw[e];exact zcf _ 3 _ _ _ i3 rfl,by omega,by omega⟩
  ·exact⟨la+1,1,by rw[e];exact zcf _ 3 _ _ _ i3 rfl,by omega,by omega⟩
 have m53:∀s,modV (.int (cellI ns 5)) (.int 3) s=.ok (.int (cellI ns 5 % 3)) s:=fun s=>zai s _ _ (by omega)
 have f53:∀s,fdivV (.int (cellI ns 5)) (.int 3) s=.ok (.int (cellI ns 5 / 3)) s:=fun s=>zan s _ _ (by omega)
 have m31:∀s,modV (.int (cellI ns 5 / 3)) (.int 31) s=.ok (.int (cellI ns 5 / 3 % 31)) s:=fun s=>zai s _ _ (by omega)
 generalize hx5:cellI ns 5 / 3 % 31=x5 at *
 generalize cellI ns 5 / 3=y5 at *
 generalize cellI ns 5 % 3=z5 at *
 generalize cellI ns 5=e5 at *
 have htop:∀s∈ss,s<=top:=fun s hs=>Nat.le_trans (le_last t3 hla s hs) hla5
 obtain⟨more,w1,w2,w3,w4,fW⟩:=wider_ok ns 0 signs [O0,O1,.lst (RL.map encRl),O3] (fun g=>by rw[<-hO0];rfl) s2 s3 s4
 have wpos:0<more.length:=by
  obtain⟨c,hc⟩:∃c,c∈signs:=⟨signs[0],List.getElem_mem _⟩
  exact List.length_pos_of_mem (w4 c hc)
 obtain⟨s0,row,hs0,hrl,hrow,fD⟩:=stand_ok ns 0 1 ss signs more [O0,O1,.lst (RL.map encRl),O3] (by rw[<-hO0];rfl) (by rw[<-hO1];rfl) t1 s1 s2 wpos (by omega) w4
 have hl20:RL.length<=20:=Nat.le_trans H.len (Nat.mul_le_mul s2 t2)
 refine⟨RL,more,top,s0,row,O1,O3,⟨⟨hl20,fun r hr=>?_,H.un⟩,w2,w3,by omega,htop s0 hs0,hrow,hrl⟩,U1,U3,?_⟩
 ·obtain⟨k,_,h1,h2,h3,h4,_⟩:=H.at_ r hr
  exact⟨htop _ (List.mem_of_getElem? h1),w4 _ (List.mem_of_getElem? h2),fun c hc=>w4 c (h3 c hc),h4⟩
 have fS:_=R.ok (D.loc 1) [O0,O1]:=fS
 have fR:_=R.ok (D.loc 2) [O0,O1,.lst (RL.map encRl)]:=fR
 have a5:∀s,addV (.int (la:Nat)) (.int d5) s=.ok (.int (top:Nat)) s:=fun s=>by rw[r_add_int,hd6]
 have n1:∀s,negV (.int 1) s=.ok (.int (-1)) s:=fun _=>rfl
 have hgc:=gc_asis (st:=[O0]) (st':=[O0,O1,.lst (RL.map encRl),O3]) (ds:=[.loc 2,.int (top:Nat),.str more,.tup [.int (s0:Nat),.str row]]) (by simp)
 unfold zdj gcF fnM zcn
 rw[show startM 6 [D.loc 0]=[some (.loc 0),none,none,none,none,none] from rfl]
 generalize hE3:lstE (consA (ct (.int 0)) _)=E3
 have e3:E3 [some (.loc 0),some (.str signs),some (.loc 1),some (.loc 2),none,none] [O0,O1,.lst (RL.map encRl)]=.ok (.loc 3) [O0,O1,.lst (RL.map encRl),O3]:=by
  rw[<-hE3,<-hO3]
  simp[c5,f53,m31]
 clear hE3
 generalize D.tup [.int (s0:Nat),.str row]=TS at *
 generalize ([O0,O1,.lst (RL.map encRl),O3]:Stor)=Z4 at *
 generalize ([O0,O1,.lst (RL.map encRl)]:Stor)=Z3 at *
 generalize ([O0,O1]:Stor)=Z2 at *
 generalize ([O0]:Stor)=Z1 at *
 generalize ((top:Nat):Int)=topI at *
 generalize ((la:Nat):Int)=laI at *
 simp[fA,fS,fR,n1,ixl,e3,c5',m53,hd5,a5,fW,fD,hgc]
end Law
set_option maxHeartbeats 0
namespace Law
open L2 M TK TS
theorem zec (k:Nat)(c:Int):underO k (.lst [.int c]):=by
 show unders _ _
 simp
theorem wf_put {st:Stor}{n:Nat}{c:Int}(h:M.wf st):M.wf (st.set n (.lst [.int c])):=by
 intro o ho
 rw[List.length_set]
 exact zg7 h (zec _ _) o ho
theorem digit_ok (n:Nat)(c:Int)(m:Nat)(st:Stor)(hwf:M.wf st)(hn:st[n]? = some (.lst [.int c]))(hm:0<m)(hm2:m<=100000) :
  zaw [.loc n,.int (m:Nat)] st=.ok (.int (c % (m:Nat))) (st.set n (.lst [.int (c / (m:Nat))])):=by
 have i0:ixV (.loc n) (.int 0) st=.ok (.int c) st:=zcf st n 0 [.int c] _ (by unfold itemsAt;rw[hn]) rfl
 have m1:modV (.int c) (.int (m:Nat)) st=.ok (.int (c % (m:Nat))) st:=zai st _ _ (by omega)
 have f1:fdivV (.int c) (.int (m:Nat)) st=.ok (.int (c / (m:Nat))) st:=zan st _ _ (by omega)
 have s1:setV (.loc n) (.int 0) (.int (c / (m:Nat))) st=.ok () (st.set n (.lst [.int (c / (m:Nat))])):=by
  unfold setV
  simp only[hn]
  rfl
 have g:=zf3 (st:=st) (st':=st.set n (.lst [.int (c / (m:Nat))])) (g:=[]) (d:=.int (c % (m:Nat))) (by simp) (zg7 hwf (zec _ _)) (by simp)
 rw[List.append_nil]at g
 unfold zaw gcFM fnM zbw
 rw[show startM 3 [D.loc n,.int (m:Nat)]=[some (.loc n),some (.int (m:Nat)),none] from rfl]
 generalize st.set n (.lst [.int (c / (m:Nat))])=Z1 at *
 generalize c / ((m:Nat):Int)=q at *
 generalize c % ((m:Nat):Int)=r at *
 generalize ((m:Nat):Int)=MM at *
 simp[i0,m1,f1,s1,g]
theorem zhw (n:Nat)(c:Int)(m:Nat)(st:Stor)(hwf:M.wf st)(hn:st[n]? = some (.lst [.int c]))(hm:0<m)(hm2:m<=100000) :
  ∃(j:Nat) (c':Int),j<m/\zaw [.loc n,.int (m:Nat)] st=.ok (.int (j:Nat)) (st.set n (.lst [.int c'])):=by
 obtain⟨j,hj⟩:=Int.eq_ofNat_of_zero_le (show 0<=c % ((m:Nat):Int) from Int.emod_nonneg _ (by omega))
 have hl:=Int.emod_lt_of_pos c (show (0:Int)<((m:Nat):Int) by omega)
 refine⟨j,c / (m:Nat),by omega,?_⟩
 rw[digit_ok n c m st hwf hn hm hm2,hj]
theorem zms {st:Stor}{n:Nat}{a b:MO}:(st.set n a).set n b=st.set n b:=List.set_set ..
theorem zh8 {st:Stor}{n:Nat}{a o:MO}(h:st[n]? = some o):(st.set n a)[n]? = some a:=by
 have:=(List.getElem?_eq_some_iff.mp h).1
 rw[List.getElem?_set_self this]
theorem zgx (n:Nat)(c:Int)(m:Nat)(st:Stor)(hwf:M.wf st)(hn:st[n]? = some (.lst [.int c]))(hm2:m<=1000) :
  ∃(t:List Nat) (c':Int),t.length=m/\(∀x∈t,x∈abcL)/\zbm [.loc n,.int (m:Nat)] st=.ok (.str t) (st.set n (.lst [.int c'])):=by
 unfold zbm gcFM fnM zb1
 generalize hb:(setS 2 (op2 addV (vr 2) _):MS)=BI
 obtain⟨env',st',h1,t,c',a3,h2,h3,rfl,rfl⟩:=zbx (g:=nameG 3) (b:=BI) (gs:=[]) (items:=upto 0 m)
  (fun i env s=>∃(t:List Nat) (c':Int) (a3:Option D),t.length=i/\(∀x∈t,x∈abcL)/\env=[some (.loc n),some (.int (m:Nat)),some (.str t),a3]/\s=st.set n (.lst [.int c']))
  (env:=[some (.loc n),some (.int (m:Nat)),some (.str []),none]) (st:=st) ⟨[],c,none,rfl,by simp,rfl,by
   refine (List.ext_getElem? fun k=>?_)
   by_cases e:n=k
   ·subst e;rw[zh8 hn,hn]
   ·rw[List.getElem?_set_ne e]⟩ (by
   rintro i d env s hi ⟨t,c',a3,h2,h3,rfl,rfl⟩
   obtain⟨hp,rfl⟩:=zek hi
   obtain⟨j,c2,hj,dg⟩:=zhw n c' 26 (st.set n (.lst [.int c'])) (wf_put hwf) (zh8 hn) (by omega) (by omega)
   rw[zms]at dg
   rw[show ((26:Nat):Int)=26 from rfl]at dg
   have hj2:j<abcL.length:=hj
   have ix:∀s,ixV (.str abcL) (.int (j:Nat)) s=.ok (.str [abcL[j]]) s:=fun s=>zes s abcL _ _ (by decide) (by rw[zc5];exact List.getElem?_eq_getElem hj2)
   have ad:∀s,addV (.str t) (.str [abcL[j]]) s=.ok (.str (t++[abcL[j]])) s:=fun s=>zbg s _ _ (by simp;omega)
   refine⟨by simp,[some (.loc n),some (.int (m:Nat)),some (.str t),some (.int (0+(i:Nat)))],st.set n (.lst [.int c']),by simp,[some (.loc n),some (.int (m:Nat)),some (.str (t++[abcL[j]])),some (.int (0+(i:Nat)))],st.set n (.lst [.int c2]),.inl ?_,t++[abcL[j]],c2,_,by simp[h2],?_,rfl,rfl⟩
   ·rw[<-hb]
    have hab2:([97,98,99,100,101,102,103,104,105,106,107,108,109,110,111,112,113,114,115,116,117,118,119,120,121,122]:List Nat)=abcL:=rfl
    rw[hab2]
    generalize abcL[j]=cc at *
    generalize abcL=AB at *
    generalize st.set n (.lst [.int c2])=Z2 at *
    generalize st.set n (.lst [.int c'])=Z1 at *
    generalize ((j:Nat):Int)=JJ at *
    generalize t++[cc]=t2 at *
    simp[dg,ix,ad]
   ·intro x hx
    rcases List.mem_append.mp hx with hx | hx
    ·exact h3 x hx
    ·rw[List.mem_singleton.mp hx];exact List.getElem_mem _) (fun _ _ _=>by simp)
 rw[zef]at h2
 refine⟨t,c',h2,h3,?_⟩
 have g:=zf3 (st:=st) (st':=st.set n (.lst [.int c'])) (g:=[]) (d:=.str t) (by simp) (zg7 hwf (zec _ _)) (by simp)
 rw[List.append_nil]at g
 rw[show startM 4 [D.loc n,.int (m:Nat)]=[some (.loc n),some (.int (m:Nat)),none,none] from rfl]
 have up:range1I (consA (vr 1) nilA) [some (.loc n),some (.int (m:Nat)),some (.str []),none] st=.ok (upto 0 m,[]) st:=by simp;omega
 generalize range1I (consA (vr 1) nilA)=R1 at *
 generalize upto 0 m=UP at *
 generalize st.set n (.lst [.int c'])=Z at *
 simp[up,h1,g]
end Law
set_option maxHeartbeats 0
namespace Law
open L2 M TK TS
noncomputable def pr2 (r:Rl):D:=.tup [.int (r.s:Nat),.str [r.x]]
theorem in_pairs (RL:List Rl)(p s x:Nat)(st:Stor)(h:itemsAt st p=some (RL.map pr2)):inLV 200 true (.tup [.int (s:Nat),.str [x]]) (.loc p) st=.ok (.bl (!decide (∃r∈RL,r.s=s/\r.x=x))) st:=by
 have fl:flats (RL.map pr2)=true:=by
  clear h
  induction RL with
  | nil=>rfl
  | cons r l ih=>rw[List.map_cons,zd5,ih];simp[pr2]
 have e:inLV 200 true (.tup [.int (s:Nat),.str [x]]) (.loc p) st=.ok (.bl (!(RL.map pr2).any fun e=>eqD e (.tup [.int (s:Nat),.str [x]]))) st:=by
  unfold inLV
  simp only[h]
  rw[if_pos ⟨by simp,fl,by simp[List.all_eq_true,pr2]⟩]
  simp
 rw[e]
 congr 2
 rw[Bool.not_inj_iff]
 rw[Bool.eq_iff_iff,List.any_eq_true,decide_eq_true_eq]
 constructor
 ·rintro ⟨d,hd,h⟩
  obtain⟨r,hr,rfl⟩:=List.mem_map.mp hd
  simp[pr2,eqD,eqDs]at h
  exact⟨r,hr,by omega,h.2⟩
 ·rintro ⟨r,hr,e1,e2⟩
  refine⟨pr2 r,List.mem_map.mpr ⟨r,hr,rfl⟩,?_⟩
  simp[pr2,eqD,eqDs,e1,e2]
noncomputable def SP (st:Stor)(n:Nat)(c:Int)(RL:List Rl)(g:Stor):Stor:=st.set n (.lst [.int c])++(.lst (RL.map encRl)::g)
theorem zd9 (RL:List Rl)(n:Nat):underO n (.lst (RL.map encRl)):=by
 show unders _ _
 rw[zdb];intro d hd
 obtain⟨c,_,rfl⟩:=List.mem_map.mp hd
 simp[encRl]
theorem SP.wf {st:Stor}{n:Nat}{c:Int}{RL:List Rl}{g:Stor}(h:M.wf st)(hg:∀o∈g,∀n,underO n o):M.wf (SP st n c RL g):=by
 unfold SP
 refine zko (wf_put h) fun o ho=>?_
 rcases List.mem_cons.mp ho with rfl | ho
 ·exact zd9 _ _
 ·exact hg o ho _
theorem SP.get {st:Stor}{n:Nat}{c c0:Int}{RL:List Rl}{g:Stor}(h:st[n]? = some (.lst [.int c0])):(SP st n c RL g)[n]? = some (.lst [.int c]):=zbf (zh8 h)
theorem SP.set {st:Stor}{n:Nat}{c c0 c':Int}{RL:List Rl}{g:Stor}(h:st[n]? = some (.lst [.int c0])):(SP st n c RL g).set n (.lst [.int c'])=SP st n c' RL g:=by
 unfold SP
 have:=(List.getElem?_eq_some_iff.mp h).1
 rw[List.set_append_left _ _ (by rw[List.length_set];exact this),zms]
theorem SP.rules {st:Stor}{n:Nat}{c:Int}{RL:List Rl}{g:Stor}:(SP st n c RL g)[st.length]? = some (.lst (RL.map encRl)):=by
 unfold SP
 rw[List.getElem?_append_right (by simp)]
 simp
theorem SP.len {st:Stor}{n:Nat}{c:Int}{RL:List Rl}{g:Stor}:(SP st n c RL g).length=st.length+1+g.length:=by unfold SP;simp;omega
theorem SP.app {st:Stor}{n:Nat}{c:Int}{RL:List Rl}{g:Stor}{o:MO}:SP st n c RL g++[o]=SP st n c RL (g++[o]):=by unfold SP;simp
theorem SP.put {st:Stor}{n:Nat}{c:Int}{RL RL':List Rl}{g:Stor}:(SP st n c RL g).set st.length (.lst (RL'.map encRl))=SP st n c RL' g:=by
 unfold SP
 rw[List.set_append_right _ _ (by simp)]
 simp
structure Fr (RL:List Rl):Prop where
 at_:∀r∈RL,r.s<=5000/\r.x∈abcL/\(∀c∈r.w,c∈abcL)/\r.w.length<=8/\r.g<=5000
 un:RL.Pairwise fun a b=>¬ (a.s=b.s/\a.x=b.x)
theorem zg4 (n:Nat)(c:Int)(st:Stor)(hwf:M.wf st)(hn:st[n]? = some (.lst [.int c])) :
  ∃(RL:List Rl) (c':Int),RL.length<=20/\Fr RL/\zb5 [.loc n] st=.ok (.loc st.length) (st.set n (.lst [.int c'])++[.lst (RL.map encRl)]):=by
 have dg:∀(m:Nat) (c:Int) (RL:List Rl) (g:Stor),(∀o∈g,∀n,underO n o)->0<m->m<=100000->∃(j:Nat) (c':Int),j<m/\zaw [.loc n,.int (m:Nat)] (SP st n c RL g)=.ok (.int (j:Nat)) (SP st n c' RL g):=by
  intro m c RL g hg h1 h2
  obtain⟨j,c',hj,h⟩:=zhw n c m (SP st n c RL g) (SP.wf hwf hg) (SP.get hn) h1 h2
  rw[SP.set hn]at h
  exact⟨j,c',hj,h⟩
 have ft:∀(m:Nat) (c:Int) (RL:List Rl) (g:Stor),(∀o∈g,∀n,underO n o)->m<=1000->∃(t:List Nat) (c':Int),t.length=m/\(∀x∈t,x∈abcL)/\zbm [.loc n,.int (m:Nat)] (SP st n c RL g)=.ok (.str t) (SP st n c' RL g):=by
  intro m c RL g hg h1
  obtain⟨t,c',h2,h3,h⟩:=zgx n c m (SP st n c RL g) (SP.wf hwf hg) (SP.get hn) h1
  rw[SP.set hn]at h
  exact⟨t,c',h2,h3,h⟩
 have start:st++[MO.lst []]=SP st n c [] []:=by
  unfold SP
  congr 1
  refine List.ext_getElem? fun k=>?_
  by_cases e:n=k
  ·subst e;rw[zh8 hn,hn]
  ·rw[List.getElem?_set_ne e]
 obtain⟨many,c0,hmany,d0⟩:=dg 21 c [] [] (by simp) (by omega) (by omega)
 rw[show ((21:Nat):Int)=21 from rfl]at d0
 unfold zb5 gcFM fnM zbz
 generalize hb:(seqS (setS 3 (tupE _)) _:MS)=BI
 obtain⟨env',st',h1,RL,c1,g,a2,a3,a4,a5,hR1,hR2,hg,rfl,rfl⟩:=zbx (g:=nameG 2) (b:=BI) (gs:=[]) (items:=upto 0 many)
  (fun i env s=>∃(RL:List Rl) (c:Int) (g:Stor) (a2 a3 a4 a5:Option D),RL.length<=i/\Fr RL/\(∀o∈g,∀n,underO n o)/\env=[some (.loc n),some (.loc st.length),a2,a3,a4,a5]/\s=SP st n c RL g)
  (env:=[some (.loc n),some (.loc st.length),none,none,none,none]) (st:=SP st n c0 [] []) ⟨[],c0,[],none,none,none,none,by simp,⟨by simp,.nil⟩,by simp,rfl,rfl⟩ (by
   rintro i d env s hi ⟨RL,c,g,a2,a3,a4,a5,hR1,hR2,hg,rfl,rfl⟩
   obtain⟨hp,rfl⟩:=zek hi
   obtain⟨s0,c2,hs0,d1⟩:=dg 5001 c RL g hg (by omega) (by omega)
   obtain⟨x,c3,hx1,hx2,t1⟩:=ft 1 c2 RL g hg (by omega)
   obtain⟨wl,c4,hwl,d2⟩:=dg 9 c3 RL g hg (by omega) (by omega)
   obtain⟨wd,c5,hw1,hw2,t2⟩:=ft wl c4 RL g hg (by omega)
   obtain⟨gl,c6,hgl,d3⟩:=dg 5001 c5 RL g hg (by omega) (by omega)
   rw[show ((5001:Nat):Int)=5001 from rfl]at d1 d3
   rw[show ((9:Nat):Int)=9 from rfl]at d2
   rw[show ((1:Nat):Int)=1 from rfl]at t1
   obtain⟨x0,rfl⟩:∃x0,x=[x0]:=by
    match x,hx1 with
    | [x0],_=>exact⟨x0,rfl⟩
   have hrl:(SP st n c6 RL g)[st.length]? = some (.lst (RL.map encRl)):=SP.rules
   have cm:=zgf (capt:=[none]) (mi:=seqI (vr 1)) (g:=nameG 0) (e:=slE (vr 0) noP (inP (ct (.int 2)))) (env:=[some (.loc n),some (.loc st.length),some (.int (0+(i:Nat))),some (.tup [.int (s0:Nat),.str [x0]]),some (.str wd),some (.int (gl:Nat))]) (st:=SP st n c6 RL g) (st1:=SP st n c6 RL g) (items:=RL.map encRl) (gs:=[(st.length,.lst (RL.map encRl))]) (fun d=>match d with | .tup [a,b,_,_]=>.tup [a,b] | _=>.non) (fun e=>∃e0,e=[e0])
    (by simp[hrl]) ⟨none,by simp[captE]⟩ (by rw[List.length_map];omega) (fun ys=>by simp[zbf hrl]) (by
     rintro d hd env' ys ⟨e0,rfl⟩
     obtain⟨q,hq,rfl⟩:=List.mem_map.mp hd
     have sl:∀Z,slV (encRl q) none (some 2) Z=.ok (pr2 q) Z:=fun Z=>rfl
     have e2:(match encRl q with | .tup [a,b,_,_]=>D.tup [a,b] | _=>.non)=pr2 q:=rfl
     rw[e2]
     generalize encRl q=E at *
     generalize (SP st n c6 RL g++[MO.lst ys]:Stor)=Z at *
     exact⟨[some E],⟨_,rfl⟩,by simp,by simp[sl]⟩)
   rw[List.map_map,show ((fun d=>match d with | .tup [a,b,_,_]=>D.tup [a,b] | _=>.non)∘encRl)=pr2 from rfl,SP.app]at cm
   have hg2:∀o∈g++[MO.lst (RL.map pr2)],∀n,underO n o:=fun o ho k=>by
    rcases List.mem_append.mp ho with ho | ho
    ·exact hg o ho k
    ·rw[List.mem_singleton.mp ho]
     show unders _ _
     rw[zdb];intro d hd
     obtain⟨c,_,rfl⟩:=List.mem_map.mp hd
     simp[pr2]
   have hpl:itemsAt (SP st n c6 RL (g++[MO.lst (RL.map pr2)])) (SP st n c6 RL g).length=some (RL.map pr2):=by
    unfold itemsAt
    rw[<-SP.app];simp
   have inp:=in_pairs RL _ s0 x0 _ hpl
   have tad:∀s,addV (.tup [.int (s0:Nat),.str [x0]]) (.tup [.str wd,.int (gl:Nat)]) s=.ok (encRl ⟨s0,x0,wd,gl⟩) s:=fun s=>rfl
   have app:appendV (.loc st.length) [encRl ⟨s0,x0,wd,gl⟩] (SP st n c6 RL (g++[MO.lst (RL.map pr2)]))=.ok .non (SP st n c6 (RL++[(⟨s0,x0,wd,gl⟩:Rl)]) (g++[MO.lst (RL.map pr2)])):=by
    have h1:(SP st n c6 RL (g++[MO.lst (RL.map pr2)]))[st.length]? = some (.lst (RL.map encRl)):=SP.rules
    have h2:(SP st n c6 RL (g++[MO.lst (RL.map pr2)])).set st.length (.lst ((RL++[(⟨s0,x0,wd,gl⟩:Rl)]).map encRl))=_:=SP.put
    rw[List.map_append]at h2
    rw[<-h2]
    generalize SP st n c6 RL (g++[MO.lst (RL.map pr2)])=Z at *
    have:RL.length<4000000000000000000:=by omega
    have hrl2:RL.length<1000000:=by omega
    simp[appendV,h1,hrl2]
   have aty:isTy "list" (.loc st.length) (SP st n c6 RL (g++[MO.lst (RL.map pr2)]))=true:=by
    have h1:(SP st n c6 RL (g++[MO.lst (RL.map pr2)]))[st.length]? = some (.lst (RL.map encRl)):=SP.rules
    generalize SP st n c6 RL (g++[MO.lst (RL.map pr2)])=Z at *
    simp[isTy,h1]
   refine⟨by simp,[some (.loc n),some (.loc st.length),some (.int (0+(i:Nat))),a3,a4,a5],SP st n c RL g,by simp,?_⟩
   by_cases hex:∃r∈RL,r.s=s0/\r.x=x0
   ·refine⟨[some (.loc n),some (.loc st.length),some (.int (0+(i:Nat))),some (.tup [.int (s0:Nat),.str [x0]]),some (.str wd),some (.int (gl:Nat))],SP st n c6 RL (g++[MO.lst (RL.map pr2)]),.inl ?_,RL,c6,g++[MO.lst (RL.map pr2)],_,_,_,_,by omega,hR2,hg2,rfl,rfl⟩
    rw[decide_eq_true hex]at inp
    rw[<-hb]
    generalize hC:compE [none] (seqI (vr 1)) (nameG 0) yesT (slE (vr 0) noP (inP (ct (.int 2))))=CM at *
    generalize (SP st n c6 RL g).length=PL at *
    generalize SP st n c6 RL (g++[MO.lst (RL.map pr2)])=Z7 at *
    generalize SP st n c6 RL g=Z6 at *
    generalize SP st n c5 RL g=Z5 at *
    generalize SP st n c4 RL g=Z4 at *
    generalize SP st n c3 RL g=Z3 at *
    generalize SP st n c2 RL g=Z2 at *
    generalize SP st n c RL g=Z1 at *
    generalize ((s0:Nat):Int)=S0 at *
    generalize ((gl:Nat):Int)=GL at *
    generalize ((wl:Nat):Int)=WL at *
    generalize (0+((i:Nat):Int))=II at *
    simp[d1,t1,d2,t2,d3,cm,inp]
   ·refine⟨[some (.loc n),some (.loc st.length),some (.int (0+(i:Nat))),some (.tup [.int (s0:Nat),.str [x0]]),some (.str wd),some (.int (gl:Nat))],SP st n c6 (RL++[(⟨s0,x0,wd,gl⟩:Rl)]) (g++[MO.lst (RL.map pr2)]),.inl ?_,RL++[(⟨s0,x0,wd,gl⟩:Rl)],c6,g++[MO.lst (RL.map pr2)],_,_,_,_,by simp;omega,⟨?_,?_⟩,hg2,rfl,rfl⟩
    ·rw[decide_eq_false hex]at inp
     rw[<-hb]
     generalize encRl ⟨s0,x0,wd,gl⟩=ER at *
     generalize SP st n c6 (RL++[(⟨s0,x0,wd,gl⟩:Rl)]) (g++[MO.lst (RL.map pr2)])=Z8 at *
     generalize hC:compE [none] (seqI (vr 1)) (nameG 0) yesT (slE (vr 0) noP (inP (ct (.int 2))))=CM at *
     generalize (SP st n c6 RL g).length=PL at *
     generalize SP st n c6 RL (g++[MO.lst (RL.map pr2)])=Z7 at *
     generalize SP st n c6 RL g=Z6 at *
     generalize SP st n c5 RL g=Z5 at *
     generalize SP st n c4 RL g=Z4 at *
     generalize SP st n c3 RL g=Z3 at *
     generalize SP st n c2 RL g=Z2 at *
     generalize SP st n c RL g=Z1 at *
     generalize ((s0:Nat):Int)=S0 at *
     generalize ((gl:Nat):Int)=GL at *
     generalize ((wl:Nat):Int)=WL at *
     generalize (0+((i:Nat):Int))=II at *
     simp[d1,t1,d2,t2,d3,cm,inp,tad,aty,app]
    ·intro r hr
     rcases List.mem_append.mp hr with hr | hr
     ·exact hR2.at_ r hr
     ·rw[List.mem_singleton.mp hr]
      exact⟨by show s0<=5000;omega,hx2 x0 (by simp),hw2,by show wd.length<=8;omega,by show gl<=5000;omega⟩
    ·refine List.pairwise_append.mpr ⟨hR2.un,by simp,fun a ha b hb2 e=>?_⟩
     rw[List.mem_singleton.mp hb2]at e
     exact hex ⟨a,ha,e.1,e.2⟩) (fun _ _ _=>by simp)
 rw[zef]at hR1
 refine⟨RL,c1,by omega,hR2,?_⟩
 have gn:=gcM_new (st:=st) (st':=st.set n (.lst [.int c1])) (g:=[]) (g':=g) (o:=.lst (RL.map encRl)) (by simp) (zg7 hwf (zec _ _)) (zd9 _ _)
 rw[List.append_nil,List.length_nil,Nat.add_zero]at gn
 change gcM st (.ok (.loc st.length) (SP st n c1 RL g))=_ at gn
 rw[show startM 6 [D.loc n]=[some (.loc n),none,none,none,none,none] from rfl]
 have up:range1I (consA (callF zaw [] (consA (vr 0) (consA (ct (.int 21)) nilA))) nilA) [some (.loc n),some (.loc st.length),none,none,none,none] (SP st n c [] [])=.ok (upto 0 many,[]) (SP st n c0 [] []):=by
  generalize SP st n c [] []=Z1 at *
  generalize SP st n c0 [] []=Z2 at *
  simp[d0];omega
 have st0:∀env:MEnv,lstE nilA env st=.ok (.loc st.length) (SP st n c [] []):=fun env=>by rw[<-start];rfl
 generalize range1I (consA (callF zaw [] _) nilA)=R1 at *
 generalize (lstE nilA:ME)=E0 at *
 generalize upto 0 many=UP at *
 generalize SP st n c [] []=Z1 at *
 generalize SP st n c0 [] []=Z2 at *
 generalize SP st n c1 RL g=Z3 at *
 simp[st0,up,h1,gn]
end Law
set_option maxHeartbeats 0
namespace Law
open L2 M TK TS
theorem zi0:∀ts:List (List Nat),joinL [] ts=ts.flatten
 | []=>rfl
 | [t]=>by simp[joinL]
 | t::u::r=>by
  have ih:=zi0 (u::r)
  rw[joinL,ih];simp
noncomputable def SQ (st:Stor)(c:Int)(RL:List Rl)(g:Stor):Stor:=st++(.lst [.int c]::.lst (RL.map encRl)::g)
theorem SQ.wf {st:Stor}{c:Int}{RL:List Rl}{g:Stor}(h:M.wf st)(hg:∀o∈g,∀n,underO n o):M.wf (SQ st c RL g):=by
 unfold SQ
 refine zko h fun o ho=>?_
 rcases List.mem_cons.mp ho with rfl | ho
 ·exact zec _ _
 ·rcases List.mem_cons.mp ho with rfl | ho
  ·exact zd9 _ _
  ·exact hg o ho _
theorem SQ.get {st:Stor}{c:Int}{RL:List Rl}{g:Stor}:(SQ st c RL g)[st.length]? = some (.lst [.int c]):=by unfold SQ;simp
theorem SQ.set {st:Stor}{c c':Int}{RL:List Rl}{g:Stor}:(SQ st c RL g).set st.length (.lst [.int c'])=SQ st c' RL g:=by
 unfold SQ
 rw[List.set_append_right _ _ (by simp)]
 simp
theorem SQ.rules {st:Stor}{c:Int}{RL:List Rl}{g:Stor}:(SQ st c RL g)[st.length+1]? = some (.lst (RL.map encRl)):=by
 unfold SQ
 rw[List.getElem?_append_right (by simp)]
 simp
theorem SQ.app {st:Stor}{c:Int}{RL:List Rl}{g:Stor}{o:MO}:SQ st c RL g++[o]=SQ st c RL (g++[o]):=by unfold SQ;simp
theorem SQ.last {st:Stor}{c:Int}{RL:List Rl}{g:Stor}{o:MO}:(SQ st c RL (g++[o]))[(SQ st c RL g).length]? = some o:=by rw[<-SQ.app];simp
theorem SQ.last2 {st:Stor}{c:Int}{RL:List Rl}{g:Stor}{o o2:MO}:(SQ st c RL (g++[o]++[o2]))[(SQ st c RL g).length]? = some o:=by rw[<-SQ.app];exact zbf SQ.last
theorem SQ.digit {st:Stor}(hwf:M.wf st)(m:Nat)(c:Int)(RL:List Rl)(g:Stor)(hg:∀o∈g,∀n,underO n o)(h1:0<m)(h2:m<=100000):∃(j:Nat) (c':Int),j<m/\zaw [.loc st.length,.int (m:Nat)] (SQ st c RL g)=.ok (.int (j:Nat)) (SQ st c' RL g):=by
 obtain⟨j,c',hj,h⟩:=zhw st.length c m (SQ st c RL g) (SQ.wf hwf hg) SQ.get h1 h2
 rw[SQ.set]at h
 exact⟨j,c',hj,h⟩
theorem SQ.text {st:Stor}(hwf:M.wf st)(m:Nat)(c:Int)(RL:List Rl)(g:Stor)(hg:∀o∈g,∀n,underO n o)(h1:m<=1000):∃(t:List Nat) (c':Int),t.length=m/\(∀x∈t,x∈abcL)/\zbm [.loc st.length,.int (m:Nat)] (SQ st c RL g)=.ok (.str t) (SQ st c' RL g):=by
 obtain⟨t,c',h2,h3,h⟩:=zgx st.length c m (SQ st c RL g) (SQ.wf hwf hg) SQ.get h1
 rw[SQ.set]at h
 exact⟨t,c',h2,h3,h⟩
noncomputable def mxr (r:Rl):Int:=if ((r.g:Nat):Int) > ((r.s:Nat):Int) then ((r.g:Nat):Int) else ((r.s:Nat):Int)
theorem zj1:∀l:List Int,intsOf (l.map D.int)=some l
 | []=>rfl
 | i::l=>by rw[List.map_cons,intsOf,zj1 l];rfl
theorem zfi {g:Stor}{o:MO}(hg:∀o∈g,∀n,underO n o)(ho:∀n,underO n o):∀o'∈g++[o],∀n,underO n o':=fun o' h n=>by
 rcases List.mem_append.mp h with h | h
 ·exact hg o' h n
 ·rw[List.mem_singleton.mp h];exact ho n
theorem zfe {α:Type}(f:α->D)(hf:∀a n,under n (f a))(l:List α)(n:Nat):underO n (.lst (l.map f)):=by
 show unders _ _
 rw[zdb];intro d hd
 obtain⟨c,_,rfl⟩:=List.mem_map.mp hd
 exact hf c n
theorem srtC_le {cs:List Nat}(h:∀c∈cs,c∈abcL):(SS.srtC cs).length<=26/\(SS.srtC cs).Nodup/\∀x,x∈SS.srtC cs↔x∈cs:=by
 have h128:∀c∈cs,c<128:=fun c hc=>(by decide:∀c∈abcL,c<128) c (h c hc)
 have hm:=SS.zjo h128
 have hn:(SS.srtC cs).Nodup:=(SS.zlq cs).imp fun h=>Nat.ne_of_lt h
 exact⟨nd_le _ abcL hn fun x hx=>h x ((hm x).mp hx),hn,hm⟩
theorem rest_ok (st:Stor)(hwf:M.wf st)(RL:List Rl)(hRl:RL.length<=20)(F:Fr RL)(c:Int)(g:Stor)(hg:∀o∈g,∀n,underO n o)(s:Nat)(row:List Nat)(hs:s<=5000)(hrl:row.length<=90)(hrow:∀x∈row,x∈abcL)(c0:Int)(a5:Option D)(RS:MS)
  (hb:(seqS (setS 6 (callE maxY (consA (op2 addV (lstE (consA (op2 ixV (vr 4) (ct (.int 0))) nilA)) (compE [none] (seqI (vr 3)) (nameG 0) yesT (callE maxY (consA (op2 ixV (vr 0) (ct (.int 0))) (consA (op2 ixV (vr 0) (ct (.int 3))) nilA))))) nilA)))
  (seqS (setS 7 (op2 addV (op2 ixV (vr 4) (ct (.int 1))) (methE "str" joinV (ct (.str [])) (consA (compE [none] (seqI (vr 3)) (nameG 0) yesT (op2 addV (op2 ixV (vr 0) (ct (.int 1))) (op2 ixV (vr 0) (ct (.int 2))))) nilA))))
  (retS (tupE (consA (vr 3) (consA (callE min2V (consA (ct (.int 5000)) (consA (op2 addV (vr 6) (callF zaw [] (consA (vr 2) (consA (ct (.int 31)) nilA)))) nilA))) (consA (methE "str" joinV (ct (.str [])) (consA (op1 sortSetV (vr 7)) nilA)) (consA (vr 4) nilA))))))):MS)=RS) :
  ∃(top:Nat) (more:List Nat) (c':Int) (g':Stor),Cs RL more top s row/\(∀o∈g',∀n,underO n o) /\
   RS [some (.int c0),some (.int 90),some (.loc st.length),some (.loc (st.length+1)),some (.tup [.int (s:Nat),.str row]),a5,none,none] (SQ st c RL g)=.ok (.rt (.tup [.loc (st.length+1),.int (top:Nat),.str more,.tup [.int (s:Nat),.str row]])) (SQ st c' RL g'):=by
 have j0:∀s1,ixV (.tup [.int (s:Nat),.str row]) (.int 0) s1=.ok (.int (s:Nat)) s1:=fun s1=>zav s1 0 _ _ rfl
 have j1:∀s1,ixV (.tup [.int (s:Nat),.str row]) (.int 1) s1=.ok (.str row) s1:=fun s1=>zav s1 1 _ _ rfl

 generalize hg1:g++[MO.lst [.int (s:Nat)]]=g1
 have ug1:∀o∈g1,∀n,underO n o:=by rw[<-hg1];exact zfi hg fun n=>zec n _
 have e1:lstE (consA (op2 ixV (vr 4) (ct (.int 0))) nilA) [some (.int c0),some (.int 90),some (.loc st.length),some (.loc (st.length+1)),some (.tup [.int (s:Nat),.str row]),a5,none,none] (SQ st c RL g)=.ok (.loc (SQ st c RL g).length) (SQ st c RL g1):=by
  rw[<-hg1,<-SQ.app]
  generalize D.tup [.int (s:Nat),.str row]=TT at *
  simp[j0]
 have r1:(SQ st c RL g1)[st.length+1]? = some (.lst (RL.map encRl)):=SQ.rules
 have cm1:=zgf (capt:=[none]) (mi:=seqI (vr 3)) (g:=nameG 0) (e:=callE maxY (consA (op2 ixV (vr 0) (ct (.int 0))) (consA (op2 ixV (vr 0) (ct (.int 3))) nilA))) (env:=[some (.int c0),some (.int 90),some (.loc st.length),some (.loc (st.length+1)),some (.tup [.int (s:Nat),.str row]),a5,none,none]) (st:=SQ st c RL g1) (st1:=SQ st c RL g1) (items:=RL.map encRl) (gs:=[(st.length+1,.lst (RL.map encRl))]) (fun d=>match d with | .tup [.int a,_,_,.int b]=>.int (if b > a then b else a) | _=>.non) (fun e=>∃e0,e=[e0])
  (by simp[r1]) ⟨none,by simp[captE]⟩ (by rw[List.length_map];omega) (fun ys=>by simp[zbf r1]) (by
   rintro d hd env' ys ⟨e0,rfl⟩
   obtain⟨q,hq,rfl⟩:=List.mem_map.mp hd
   have i0:∀Z,ixV (encRl q) (.int 0) Z=.ok (.int (q.s:Nat)) Z:=fun Z=>rfl
   have i3:∀Z,ixV (encRl q) (.int 3) Z=.ok (.int (q.g:Nat)) Z:=fun Z=>rfl
   have mx:∀Z,maxY [.int (q.s:Nat),.int (q.g:Nat)] Z=.ok (.int (mxr q)) Z:=fun Z=>rfl
   have e2:(match encRl q with | .tup [.int a,_,_,.int b]=>D.int (if b > a then b else a) | _=>.non)=.int (mxr q):=rfl
   rw[e2]
   generalize encRl q=EE at *
   generalize (SQ st c RL g1++[MO.lst ys]:Stor)=Z at *
   exact⟨[some EE],⟨_,rfl⟩,by simp,by simp[i0,i3,mx]⟩)
 rw[List.map_map,show ((fun d=>match d with | .tup [.int a,_,_,.int b]=>D.int (if b > a then b else a) | _=>.non)∘encRl)=(fun r=>D.int (mxr r)) from rfl,SQ.app]at cm1
 generalize hg2:g1++[MO.lst (RL.map fun r=>D.int (mxr r))]=g2 at cm1
 have ug2:∀o∈g2,∀n,underO n o:=by rw[<-hg2];exact zfi ug1 fun n=>zfe _ (fun a n=>by simp) RL n
 have at1:(SQ st c RL g2)[(SQ st c RL g).length]? = some (.lst [.int (s:Nat)]):=by rw[<-hg2,<-hg1];exact SQ.last2
 have at2:(SQ st c RL g2)[(SQ st c RL g1).length]? = some (.lst (RL.map fun r=>D.int (mxr r))):=by rw[<-hg2];exact SQ.last
 generalize hms:(((s:Nat):Int)::RL.map mxr)=ms
 have hmd:[D.int (s:Nat)]++(RL.map fun r=>D.int (mxr r))=ms.map D.int:=by rw[<-hms,List.map_cons,List.map_map];rfl
 generalize hg3:g2++[MO.lst (ms.map D.int)]=g3
 have ug3:∀o∈g3,∀n,underO n o:=by rw[<-hg3];exact zfi ug2 fun n=>zfe D.int (fun a n=>by simp) ms n
 have ad:addV (.loc (SQ st c RL g).length) (.loc (SQ st c RL g1).length) (SQ st c RL g2)=.ok (.loc (SQ st c RL g2).length) (SQ st c RL g3):=by
  rw[<-hg3,<-SQ.app]
  unfold addV
  simp only[at1,at2]
  rw[if_pos (by simp;omega),hmd]
 have it3:itemsAt (SQ st c RL g3) (SQ st c RL g2).length=some (ms.map D.int):=by unfold itemsAt;rw[<-hg3,SQ.last]
 have hne:ms≠[]:=by rw[<-hms];simp
 have mxv:maxY [.loc (SQ st c RL g2).length] (SQ st c RL g3)=.ok (.int (mxS ms)) (SQ st c RL g3):=by
  unfold maxY
  simp only[it3,zj1]
  rw[if_pos hne]
 have hmx:∀a∈ms,a<=mxS ms:=fun a ha=>mxS_le ms a ha
 have hmm:=zmx ms hne
 have h5:∀a∈ms,0<=a/\a<=5000:=fun a ha=>by
  rw[<-hms]at ha
  rcases List.mem_cons.mp ha with rfl | ha
  ·omega
  ·obtain⟨r,hr,rfl⟩:=List.mem_map.mp ha
   obtain⟨f1,_,_,_,f5⟩:=F.at_ r hr
   unfold mxr
   split<;>omega
 have hm5:=h5 _ hmm
 have hsm:((s:Nat):Int)<=mxS ms:=hmx _ (by rw[<-hms];simp)
 have hrm:∀r∈RL,((r.s:Nat):Int)<=mxS ms:=fun r hr=>by
  have:=hmx (mxr r) (by rw[<-hms];exact List.mem_cons_of_mem _ (List.mem_map.mpr ⟨r,hr,rfl⟩))
  have h2:((r.s:Nat):Int)<=mxr r:=by unfold mxr;split<;>omega
  omega
 generalize mxS ms=mx at *

 have r3:(SQ st c RL g3)[st.length+1]? = some (.lst (RL.map encRl)):=SQ.rules
 have cm2:=zgf (capt:=[none]) (mi:=seqI (vr 3)) (g:=nameG 0) (e:=op2 addV (op2 ixV (vr 0) (ct (.int 1))) (op2 ixV (vr 0) (ct (.int 2)))) (env:=[some (.int c0),some (.int 90),some (.loc st.length),some (.loc (st.length+1)),some (.tup [.int (s:Nat),.str row]),a5,some (.int mx),none]) (st:=SQ st c RL g3) (st1:=SQ st c RL g3) (items:=RL.map encRl) (gs:=[(st.length+1,.lst (RL.map encRl))]) (fun d=>match d with | .tup [_,.str x,.str w,_]=>.str (x++w) | _=>.non) (fun e=>∃e0,e=[e0])
  (by simp[r3]) ⟨none,by simp[captE]⟩ (by rw[List.length_map];omega) (fun ys=>by simp[zbf r3]) (by
   rintro d hd env' ys ⟨e0,rfl⟩
   obtain⟨q,hq,rfl⟩:=List.mem_map.mp hd
   have i1:∀Z,ixV (encRl q) (.int 1) Z=.ok (.str [q.x]) Z:=fun Z=>rfl
   have i2:∀Z,ixV (encRl q) (.int 2) Z=.ok (.str q.w) Z:=fun Z=>rfl
   have hw:=(F.at_ q hq).2.2.2.1
   have ad:∀Z,addV (.str [q.x]) (.str q.w) Z=.ok (.str (q.x::q.w)) Z:=fun Z=>zbg Z _ _ (by simp;omega)
   have e2:(match encRl q with | .tup [_,.str x,.str w,_]=>D.str (x++w) | _=>.non)=.str (q.x::q.w):=rfl
   rw[e2]
   generalize encRl q=EE at *
   generalize (SQ st c RL g3++[MO.lst ys]:Stor)=Z at *
   exact⟨[some EE],⟨_,rfl⟩,by simp,by simp[i1,i2,ad]⟩)
 rw[List.map_map,show ((fun d=>match d with | .tup [_,.str x,.str w,_]=>D.str (x++w) | _=>.non)∘encRl)=(D.str∘fun r:Rl=>r.x::r.w) from rfl,<-List.map_map,SQ.app]at cm2
 generalize hts:(RL.map fun r:Rl=>r.x::r.w)=ts at cm2
 generalize hg4:g3++[MO.lst (ts.map D.str)]=g4 at cm2
 have ug4:∀o∈g4,∀n,underO n o:=by rw[<-hg4];exact zfi ug3 fun n=>zfe D.str (fun a n=>by simp) ts n
 have it4:itemsAt (SQ st c RL g4) (SQ st c RL g3).length=some (ts.map D.str):=by unfold itemsAt;rw[<-hg4,SQ.last]
 have hsum:(ts.map List.length).sum<=180:=by
  have:∀l:List Rl,(∀r∈l,r.w.length<=8)->((l.map fun r:Rl=>r.x::r.w).map List.length).sum<=9*l.length:=by
   intro l
   induction l with
   | nil=>intro _;simp
   | cons r l ih =>
    intro h
    have h1:=h r (by simp)
    have h2:=ih fun x hx=>h x (by simp[hx])
    simp only[List.map_cons,List.sum_cons,List.length_cons]at h2 ⊢
    omega
  have:=this RL fun r hr=>(F.at_ r hr).2.2.2.1
  rw[hts]at this
  omega
 have jn:=r_join (SQ st c RL g4) [] (SQ st c RL g3).length ts it4 (by simp;omega)
 rw[zi0]at jn
 have hfl:ts.flatten.length<=180:=by rw[List.length_flatten];exact hsum
 have ad2:∀s1,addV (.str row) (.str ts.flatten) s1=.ok (.str (row++ts.flatten)) s1:=fun s1=>zbg s1 _ _ (by omega)
 generalize hle:row++ts.flatten=le at ad2
 have hlel:le.length<=270:=by rw[<-hle,List.length_append];omega
 have hlm:∀x,x∈le↔x∈row\/∃r∈RL,x=r.x\/x∈r.w:=fun x=>by
  rw[<-hle,List.mem_append,List.mem_flatten,<-hts]
  refine or_congr Iff.rfl ⟨?_,?_⟩
  ·rintro ⟨l,hl,hx⟩
   obtain⟨r,hr,rfl⟩:=List.mem_map.mp hl
   exact⟨r,hr,List.mem_cons.mp hx⟩
  ·rintro ⟨r,hr,hx⟩
   exact⟨_,List.mem_map.mpr ⟨r,hr,rfl⟩,List.mem_cons.mpr hx⟩
 have hla:∀x∈le,x∈abcL:=fun x hx=>by
  rcases (hlm x).mp hx with h | ⟨r,hr,h | h⟩
  ·exact hrow x h
  ·rw[h];exact (F.at_ r hr).2.1
  ·exact (F.at_ r hr).2.2.1 x h
 obtain⟨q1,q2,q3⟩:=srtC_le hla
 obtain⟨d,c',hd,dg⟩:=SQ.digit hwf 31 c RL g4 ug4 (by omega) (by omega)
 rw[show ((31:Nat):Int)=31 from rfl]at dg
 generalize hg5:g4++[MO.lst ((SS.srtC le).map fun c=>D.str [c])]=g5
 have ug5:∀o∈g5,∀n,underO n o:=by rw[<-hg5];exact zfi ug4 fun n=>zfe _ (fun a n=>by simp) _ n
 have sv:sortSetV (.str le) (SQ st c' RL g4)=.ok (.loc (SQ st c' RL g4).length) (SQ st c' RL g5):=by
  unfold sortSetV
  dsimp only
  rw[if_pos ⟨by omega,fun c hc=>(by decide:∀c∈abcL,c<128) c (hla c hc),by omega⟩,<-hg5,SQ.app]
 have it5:itemsAt (SQ st c' RL g5) (SQ st c' RL g4).length=some (((SS.srtC le).map fun c=>[c]).map D.str):=by unfold itemsAt;rw[<-hg5,SQ.last,List.map_map];rfl
 have jn2:=r_join (SQ st c' RL g5) [] (SQ st c' RL g4).length ((SS.srtC le).map fun c=>[c]) it5 (by rw[zlm];simp;omega)
 rw[zhr]at jn2
 obtain⟨top,htop⟩:=Int.eq_ofNat_of_zero_le (show 0<=(if mx+((d:Nat):Int)<5000 then mx+((d:Nat):Int) else 5000) by split<;>omega)
 have htm:mx<=(top:Nat):=by rw[<-htop];split<;>omega
 have mn:∀s1,min2V [.int 5000,.int (mx+((d:Nat):Int))] s1=.ok (.int (top:Nat)) s1:=fun s1=>by rw[r_min2,htop]
 refine⟨top,SS.srtC le,c',g5,⟨⟨hRl,fun r hr=>?_,F.un⟩,q2,fun x hx=>hla x ((q3 x).mp hx),q1,by omega,fun x hx=>(q3 x).mpr ((hlm x).mpr (.inl hx)),hrl⟩,ug5,?_⟩
 ·have:=hrm r hr
  exact⟨by omega,(q3 _).mpr ((hlm _).mpr (.inr ⟨r,hr,.inl rfl⟩)),fun c hc=>(q3 _).mpr ((hlm _).mpr (.inr ⟨r,hr,.inr hc⟩)),(F.at_ r hr).2.2.2.1⟩
 rw[<-hb]
 have ty:∀s1,isTy "str" (.str []) s1=true:=fun s1=>rfl
 generalize hE1:lstE (consA (op2 ixV (vr 4) (ct (.int 0))) nilA)=E1 at *
 generalize hC1:compE [none] (seqI (vr 3)) (nameG 0) yesT (callE maxY _)=C1 at *
 generalize hC2:compE [none] (seqI (vr 3)) (nameG 0) yesT (op2 addV _ _)=C2 at *
 generalize SS.srtC le=MR at *
 generalize ts.flatten=TF at *
 generalize D.tup [.int (s:Nat),.str row]=TT at *
 generalize (SQ st c' RL g4).length=n4' at *
 generalize (SQ st c RL g3).length=n3 at *
 generalize (SQ st c RL g2).length=n2 at *
 generalize (SQ st c RL g1).length=n1 at *
 generalize (SQ st c RL g).length=n0 at *
 generalize SQ st c' RL g5=Z5' at *
 generalize SQ st c' RL g4=Z4' at *
 generalize SQ st c RL g4=Z4 at *
 generalize SQ st c RL g3=Z3 at *
 generalize SQ st c RL g2=Z2 at *
 generalize SQ st c RL g1=Z1 at *
 generalize SQ st c RL g=Z0 at *
 generalize ((top:Nat):Int)=TP at *
 generalize hMD:mx+((d:Nat):Int)=MD at *
 generalize ((d:Nat):Int)=DD at *
 simp[e1,cm1,ad,mxv,cm2,j1,ty,jn,ad2,dg,hMD,mn,sv,jn2]
end Law
set_option maxHeartbeats 0
namespace Law
open L2 M TK TS
theorem zfm:∀RL:List Rl,flats (RL.map encRl)=true/\deps (RL.map encRl)<=1
 | []=>⟨rfl,by simp⟩
 | q::l=>by
  obtain⟨h1,h2⟩:=zfm l
  refine⟨by rw[List.map_cons,zd5,h1];simp[encRl],?_⟩
  rw[List.map_cons,zkf]
  have:dep (encRl q)=1:=by simp[encRl]
  omega
theorem neE (RL:List Rl)(s:Stor)(a b:Nat)(h1:itemsAt s a=some (RL.map encRl))(h2:itemsAt s b=some []):neV 200 (.loc a) (.loc b) s=.ok (.bl (!RL.isEmpty)) s:=by
 have hc:cdeps (RL.map encRl) []=0:=by cases RL<;>simp[cdeps]
 simp only[M.neV,eqR,h1,h2]
 rw[if_pos ⟨(zfm RL).1,rfl,by rw[hc];decide⟩]
 cases RL with
 | nil=>rfl
 | cons r K=>simp[eqDs]
theorem zjs (st:Stor)(hwf:M.wf st)(c0:Int) :
  ∃(RL:List Rl) (more:List Nat) (top s:Nat) (row:List Nat) (c:Int) (g:Stor),Cs RL more top s row/\(∀o∈g,∀n,underO n o) /\
   zdu [.int c0,.int 90] st=.ok (.tup [.loc (st.length+1),.int (top:Nat),.str more,.tup [.int (s:Nat),.str row]]) (SQ st c RL g):=by
 have hwf0:M.wf (st++[MO.lst [.int c0]]):=zko hwf fun o ho=>by rw[List.mem_singleton.mp ho];exact zec _ _
 obtain⟨RL,c1,hRl,F,fp⟩:=zg4 st.length c0 (st++[MO.lst [.int c0]]) hwf0 (by simp)
 have e1:(st++[MO.lst [.int c0]]).set st.length (.lst [.int c1])++[.lst (RL.map encRl)]=SQ st c1 RL []:=by
  rw[List.set_append_right _ _ (by simp)]
  unfold SQ;simp
 rw[e1,List.length_append]at fp
 have fp:zb5 [.loc st.length] (st++[MO.lst [.int c0]])=.ok (.loc (st.length+1)) (SQ st c1 RL []):=fp
 obtain⟨s0,c2,hs0,d1⟩:=SQ.digit hwf 5001 c1 RL [] (by simp) (by omega) (by omega)
 obtain⟨m,c3,hm,d2⟩:=SQ.digit hwf 91 c2 RL [] (by simp) (by omega) (by omega)
 obtain⟨row0,c4,hr1,hr2,t1⟩:=SQ.text hwf m c3 RL [] (by simp) (by omega)
 rw[show ((5001:Nat):Int)=5001 from rfl]at d1
 rw[show ((91:Nat):Int)=91 from rfl]at d2
 have u1:∀o∈[MO.lst []],∀n,underO n o:=fun o ho n=>by rw[List.mem_singleton.mp ho];show unders _ _;simp
 have ne:=neE RL (SQ st c4 RL [.lst []]) (st.length+1) (SQ st c4 RL []).length (by unfold itemsAt;rw[SQ.rules]) (by unfold itemsAt;rw[show [MO.lst []]=[]++[MO.lst []] from rfl,SQ.last])
 have l0:∀env:MEnv,lstE nilA env (SQ st c4 RL [])=.ok (.loc (SQ st c4 RL []).length) (SQ st c4 RL [.lst []]):=fun env=>by
  rw[show [MO.lst []]=[]++[MO.lst []] from rfl,<-SQ.app];rfl
 unfold zdu gcF fnM zda
 rw[show startM 8 [D.int c0,.int 90]=[some (.int c0),some (.int 90),none,none,none,none,none,none] from rfl]
 generalize hb:(seqS (setS 6 (callE maxY _)) _:MS)=RS
 have fin:=fun (c:Int) (g:Stor) (hg:∀o∈g,∀n,underO n o) (s:Nat) (row:List Nat) (hs:s<=5000) (hrl:row.length<=90) (hrow:∀x∈row,x∈abcL) (a5:Option D)=>rest_ok st hwf RL hRl F c g hg s row hs hrl hrow c0 a5 RS hb
 clear hb
 have e0:∀env:MEnv,env[0]? = some (some (.int c0))->lstE (consA (vr 0) nilA) env st=.ok (.loc st.length) (st++[MO.lst [.int c0]]):=fun env he=>by simp[he]
 have gca:∀(top:Nat) (more:List Nat) (dd:D) (Z:Stor),gc st (.ok (.tup [.loc (st.length+1),.int (top:Nat),.str more,dd]) Z)=.ok (.tup [.loc (st.length+1),.int (top:Nat),.str more,dd]) Z:=fun top more dd Z=>gc_asis (by simp;intro h;omega)
 have j1:∀s1,ixV (.tup [.int (s0:Nat),.str row0]) (.int 1) s1=.ok (.str row0) s1:=fun s1=>zav s1 1 _ _ rfl
 have a91:∀s,addV (.int 90) (.int 1) s=.ok (.int 91) s:=fun s=>rfl
 by_cases hR:RL=[]
 ·have hie:RL.isEmpty=true:=by rw[hR];rfl
  rw[hie]at ne
  obtain⟨top,more,c',g',C,ug,f⟩:=fin c4 [.lst []] u1 s0 row0 (by omega) (by omega) hr2 none
  refine⟨RL,more,top,s0,row0,c',g',C,ug,?_⟩
  have gc1:=gca top more (.tup [.int (s0:Nat),.str row0]) (SQ st c' RL g')
  have e0':=e0 [some (.int c0),some (.int 90),none,none,none,none,none,none] rfl
  generalize hE0:lstE (consA (vr 0) nilA)=E0 at *
  generalize (lstE nilA:ME)=E1 at *
  generalize (SQ st c4 RL []).length=n4 at *
  generalize SQ st c' RL g'=Z9 at *
  generalize SQ st c4 RL [.lst []]=Z5 at *
  generalize SQ st c4 RL []=Z4 at *
  generalize SQ st c3 RL []=Z3 at *
  generalize SQ st c2 RL []=Z2 at *
  generalize SQ st c1 RL []=Z1 at *
  generalize st++[MO.lst [.int c0]]=Z0 at *
  generalize ((s0:Nat):Int)=S0 at *
  generalize ((m:Nat):Int)=MM at *
  generalize ((top:Nat):Int)=TP at *
  simp[e0',fp,d1,d2,t1,l0,ne,f,gc1]
 ·have hie:RL.isEmpty=false:=by cases RL with | nil=>exact absurd rfl hR | cons _ _=>rfl
  rw[hie]at ne
  obtain⟨d,c5,hd,d3⟩:=SQ.digit hwf 2 c4 RL [.lst []] u1 (by omega) (by omega)
  rw[show ((2:Nat):Int)=2 from rfl]at d3
  by_cases h1:d=1
  ·subst h1
   obtain⟨j,c6,hj,d4⟩:=SQ.digit hwf RL.length c5 RL [.lst []] u1 (List.length_pos_iff.mpr hR) (by omega)
   have lR:lenW [.loc (st.length+1)] (SQ st c5 RL [.lst []])=.ok (.int (RL.length:Nat)) (SQ st c5 RL [.lst []]):=by
    have:=zhg (st:=SQ st c5 RL [.lst []]) (n:=st.length+1) (ds:=RL.map encRl) (by unfold itemsAt;rw[SQ.rules])
    rwa[List.length_map]at this
   have ixr:ixV (.loc (st.length+1)) (.int (j:Nat)) (SQ st c6 RL [.lst []])=.ok (encRl RL[j]) (SQ st c6 RL [.lst []]):=by
    refine zcf _ _ _ (RL.map encRl) _ (by unfold itemsAt;rw[SQ.rules]) ?_
    rw[zc5,List.getElem?_map,List.getElem?_eq_getElem hj];rfl
   have hrm:=List.getElem_mem hj
   generalize RL[j]=r at *
   obtain⟨f1,f2,_⟩:=F.at_ r hrm
   have i0:∀Z,ixV (encRl r) (.int 0) Z=.ok (.int (r.s:Nat)) Z:=fun Z=>rfl
   have i1:∀Z,ixV (encRl r) (.int 1) Z=.ok (.str [r.x]) Z:=fun Z=>rfl
   have tl:∀Z,slV (.str row0) (some 1) none Z=.ok (.str row0.tail) Z:=fun Z=>sl_tl row0 Z (by omega)
   have ad:∀Z,addV (.str [r.x]) (.str row0.tail) Z=.ok (.str (r.x::row0.tail)) Z:=fun Z=>zbg Z _ _ (by simp;omega)
   obtain⟨top,more,c',g',C,ug,f⟩:=fin c6 [.lst []] u1 r.s (r.x::row0.tail) f1 (by simp;omega) (fun x hx=>by
    rcases List.mem_cons.mp hx with rfl | hx
    ·exact f2
    ·exact hr2 x (List.mem_of_mem_tail hx)) (some (encRl r))
   refine⟨RL,more,top,r.s,r.x::row0.tail,c',g',C,ug,?_⟩
   have gc1:=gca top more (.tup [.int (r.s:Nat),.str (r.x::row0.tail)]) (SQ st c' RL g')
   have e0':=e0 [some (.int c0),some (.int 90),none,none,none,none,none,none] rfl
   rw[show ((1:Nat):Int)=1 from rfl]at d3
   generalize r.x::row0.tail=RR at *
   generalize row0.tail=RT at *
   generalize encRl r=ER at *
   generalize hE0:lstE (consA (vr 0) nilA)=E0 at *
   generalize (lstE nilA:ME)=E1 at *
   generalize (SQ st c4 RL []).length=n4 at *
   generalize SQ st c' RL g'=Z9 at *
   generalize SQ st c6 RL [.lst []]=Z7 at *
   generalize SQ st c5 RL [.lst []]=Z6 at *
   generalize SQ st c4 RL [.lst []]=Z5 at *
   generalize SQ st c4 RL []=Z4 at *
   generalize SQ st c3 RL []=Z3 at *
   generalize SQ st c2 RL []=Z2 at *
   generalize SQ st c1 RL []=Z1 at *
   generalize st++[MO.lst [.int c0]]=Z0 at *
   generalize ((s0:Nat):Int)=S0 at *
   generalize ((m:Nat):Int)=MM at *
   generalize ((j:Nat):Int)=JJ at *
   generalize ((RL.length:Nat):Int)=LL at *
   generalize ((r.s:Nat):Int)=RSS at *
   generalize ((top:Nat):Int)=TP at *
   simp[e0',fp,d1,d2,t1,l0,ne,d3,lR,d4,ixr,i0,i1,j1,tl,ad,f,gc1]
  ·have hd1:¬ ((d:Nat):Int)=1:=by omega
   obtain⟨top,more,c',g',C,ug,f⟩:=fin c5 [.lst []] u1 s0 row0 (by omega) (by omega) hr2 none
   refine⟨RL,more,top,s0,row0,c',g',C,ug,?_⟩
   have gc1:=gca top more (.tup [.int (s0:Nat),.str row0]) (SQ st c' RL g')
   have e0':=e0 [some (.int c0),some (.int 90),none,none,none,none,none,none] rfl
   generalize hE0:lstE (consA (vr 0) nilA)=E0 at *
   generalize (lstE nilA:ME)=E1 at *
   generalize (SQ st c4 RL []).length=n4 at *
   generalize SQ st c' RL g'=Z9 at *
   generalize SQ st c5 RL [.lst []]=Z6 at *
   generalize SQ st c4 RL [.lst []]=Z5 at *
   generalize SQ st c4 RL []=Z4 at *
   generalize SQ st c3 RL []=Z3 at *
   generalize SQ st c2 RL []=Z2 at *
   generalize SQ st c1 RL []=Z1 at *
   generalize st++[MO.lst [.int c0]]=Z0 at *
   generalize ((s0:Nat):Int)=S0 at *
   generalize ((m:Nat):Int)=MM at *
   generalize ((d:Nat):Int)=DD at *
   generalize ((top:Nat):Int)=TP at *
   simp[e0',fp,d1,d2,t1,l0,ne,d3,hd1,f,gc1]
end Law
namespace Law
open L2 M TK TS
theorem made_ok {RL:List Rl}{more:List Nat}{top s:Nat}{row:List Nat}(C:Cs RL more top s row)(n:Nat)(st:Stor)(hwf:M.wf st)(hn:st[n]? = some (.lst (RL.map encRl))) :
  ∃(ALL:List TQ) (kvs:List (List Key×D)),AllT RL more (ksK RL) ALL/\TbT kvs (top+1) (ksK RL) ALL/\kvs.length=ALL.length/\ALL.length<=500000/\(∀n,underO n (.lst (ALL.map (encT (top+1) (ksK RL)))))/\(∀n,underO n (.dic kvs)) /\
   zbn [.loc n,.str more,.int (top:Nat)] st=.ok (.loc st.length) (st++[.lst (ALL.map (encT (top+1) (ksK RL)))]) /\
   zdt [.loc st.length] (st++[.lst (ALL.map (encT (top+1) (ksK RL)))])=.ok (.loc (st.length+1)) (st++[.lst (ALL.map (encT (top+1) (ksK RL)))]++[.dic kvs]):=by
 have habc:∀x∈abcL,x<128/\x≠95:=by decide
 have h95:95∉more:=fun h=>(habc 95 (C.abc 95 h)).2 rfl
 have hl:=C.g.len
 have hw:∀r∈RL,r.w.length<=90:=fun r hr=>by have:=(C.g.at_ r hr).2.2.2;omega
 have hwl:∀p∈srcP RL,p.1.length<=8:=fun p hp=>by
  obtain⟨r,hr,rfl⟩:=(srcP_of RL).1 p hp
  exact (C.g.at_ r hr).2.2.2
 have hml:=C.len
 obtain⟨ks,ALL,⟨rfl,rfl⟩,A,hAl,_,fM⟩:=zi9 RL more top n st hwf hn (by omega) hw (fun c hc=>(habc c (C.abc c hc)).1) (by omega)
 have hun:=allK_un (signs:=more) C.g.un C.nd h95 (srcP_of RL).2.2 (lfK_of 8 (srcP RL) hwl).2.2 (tgK_of (srcP RL)).2
 have hpw:(allK RL more).Pairwise fun a b=>¬ (a.s=b.s/\a.x=b.x):=hun.imp fun h e=>h (by unfold KT;rw[e.1,e.2])
 obtain⟨kvs,T,hkl,hku,fT⟩:=tabT_ok (f:=top+1) A h95 C.g.one (fun r hr=>by have:=(C.g.at_ r hr).1;omega) (by omega) hpw st.length (st++[.lst ((allK RL more).map (encT (top+1) (ksK RL)))]) (by simp)
 rw[List.length_append]at fT
 exact⟨_,kvs,A,T,hkl,hAl,fun n=>zcm n _ _ _,fun n p hp=>hku p hp n,fM,fT⟩
theorem main_ok (ns:List Int){RL:List Rl}{more:List Nat}{top s:Nat}{row:List Nat}(C:Cs RL more top s row)(n:Nat)(st:Stor)(hwf:M.wf st)(h0:st[0]? = some (.frz (ns.map D.int)))(hn:st[n]? = some (.lst (RL.map encRl)))(RS:MS)
  (hb:(seqS (setS 5 (op2 ixV (lstE (consA (ct (.int 0)) (consA (ct (.int 1)) (consA (op2 modV (op2 fdivV (callF zbe [] (consA (vr 0) (consA (ct (.int 6)) nilA))) (ct (.int 3))) (ct (.int 301))) nilA)))) (op2 modV (callF zbe [] (consA (vr 0) (consA (ct (.int 6)) nilA))) (ct (.int 3)))))
  (seqS (setS 6 (callE listC (consA (vr 1) nilA)))
  (seqS (setS 7 (callF zbn [] (consA (vr 6) (consA (vr 3) (consA (vr 2) nilA)))))
  (seqS (ifS (orT (notT (tru (op1 (isV "list") (vr 7)))) (tB1 (op2 (neV 200) (vr 6) (vr 1)))) (retS (ct (.bl false))) skipS)
  (seqS (setS 8 (callF zdt [] (consA (vr 7) nilA)))
  (seqS (ifS (orT (tB1 (op2 (neV 200) (callE lenW (consA (vr 8) nilA)) (callE lenW (consA (vr 7) nilA)))) (notT (tru (callF zcw [] (consA (vr 8) (consA (vr 1) (consA (vr 4) (consA (vr 5) (consA (vr 2) nilA))))))))) (retS (ct (.bl false))) skipS)
  (seqS (exprS (meth0E "list" clearV (vr 6)))
  (seqS (ifS (notT (tru (callF zcw [] (consA (callF zdt [] (consA (callF zbn [] (consA (vr 1) (consA (vr 3) (consA (vr 2) nilA)))) nilA)) (consA (vr 1) (consA (vr 4) (consA (vr 5) (consA (vr 2) nilA)))))))) (retS (ct (.bl false))) skipS)
  (seqS (forS (seqI (vr 1)) (nameG 9) (ifS (notT (tru (callF zcw [] (consA (vr 8) (consA (vr 1) (consA (tupE (consA (op2 ixV (vr 9) (ct (.int 0))) (consA (op2 ixV (vr 9) (ct (.int 1))) nilA))) (consA (vr 5) (consA (vr 2) nilA)))))))) (retS (ct (.bl false))) skipS))
  (retS (andV (callF zcw [] (consA (vr 8) (consA (vr 1) (consA (tupE (consA (op2 ixV (vr 4) (ct (.int 0))) (consA (ct (.str [])) nilA))) (consA (vr 5) (consA (vr 2) nilA)))))) (callF zcw [] (consA (vr 8) (consA (vr 1) (consA (tupE (consA (vr 2) (consA (op2 ixV (vr 4) (ct (.int 1))) nilA))) (consA (vr 5) (consA (vr 2) nilA)))))))))))))))):MS)=RS) :
  ∃st',RS [some (.loc 0),some (.loc n),some (.int (top:Nat)),some (.str more),some (.tup [.int (s:Nat),.str row]),none,none,none,none,none] st=.ok (.rt (.bl true)) (st++st'):=by
 have habc:∀x∈abcL,x<128/\x≠95:=by decide
 have h95:95∉more:=fun h=>(habc 95 (C.abc 95 h)).2 rfl
 have i0:∀g,itemsAt (st++g) 0=some (ns.map D.int):=fun g=>by unfold itemsAt;rw[zbf h0]
 have c6:=zd7 ns 0 6 st (by simpa using i0 []) (by omega)
 rw[show ((6:Nat):Int)=6 from rfl]at c6
 generalize hT3:MO.lst [.int 0,.int 1,.int (cellI ns 6 / 3 % 301)]=T3
 have uT3:∀n,underO n T3:=fun n=>by rw[<-hT3];show unders _ _;simp
 generalize hS1:st++[T3]=S1
 have wf1:M.wf S1:=by rw[<-hS1];exact zko hwf fun o ho=>by rw[List.mem_singleton.mp ho];exact uT3 _
 have n1:S1[n]? = some (.lst (RL.map encRl)):=by rw[<-hS1];exact zbf hn
 have c6':=zd7 ns 0 6 S1 (by rw[<-hS1];exact i0 _) (by omega)
 rw[show ((6:Nat):Int)=6 from rfl]at c6'
 have m3:∀s1,modV (.int (cellI ns 6)) (.int 3) s1=.ok (.int (cellI ns 6 % 3)) s1:=fun s1=>zai s1 _ _ (by omega)
 have f3:∀s1,fdivV (.int (cellI ns 6)) (.int 3) s1=.ok (.int (cellI ns 6 / 3)) s1:=fun s1=>zan s1 _ _ (by omega)
 have m301:∀s1,modV (.int (cellI ns 6 / 3)) (.int 301) s1=.ok (.int (cellI ns 6 / 3 % 301)) s1:=fun s1=>zai s1 _ _ (by omega)
 obtain⟨k,hk,ixk⟩:∃k:Nat,k<=301/\ixV (.loc st.length) (.int (cellI ns 6 % 3)) S1=.ok (.int (k:Nat)) S1:=by
  have i3:itemsAt S1 st.length=some [.int 0,.int 1,.int (cellI ns 6 / 3 % 301)]:=by unfold itemsAt;rw[<-hS1,<-hT3];simp
  rcases (show cellI ns 6 % 3=0\/cellI ns 6 % 3=1\/cellI ns 6 % 3=2 by omega) with e | e | e
  ·exact⟨0,by omega,by rw[e];exact zcf _ _ _ _ _ i3 rfl⟩
  ·exact⟨1,by omega,by rw[e];exact zcf _ _ _ _ _ i3 rfl⟩
  ·obtain⟨j,hj⟩:=Int.eq_ofNat_of_zero_le (show 0<=cellI ns 6 / 3 % 301 by omega)
   exact⟨j,by omega,by rw[e,<-hj];exact zcf _ _ _ _ _ i3 rfl⟩
 have e3:lstE (consA (ct (.int 0)) (consA (ct (.int 1)) (consA (op2 modV (op2 fdivV (callF zbe [] (consA (vr 0) (consA (ct (.int 6)) nilA))) (ct (.int 3))) (ct (.int 301))) nilA))) [some (.loc 0),some (.loc n),some (.int (top:Nat)),some (.str more),some (.tup [.int (s:Nat),.str row]),none,none,none,none,none] st=.ok (.loc st.length) S1:=by
  rw[<-hS1,<-hT3]
  simp[c6,f3,m301]
 generalize cellI ns 6 / 3 % 301=x1 at *
 generalize cellI ns 6 / 3=x2 at *
 generalize cellI ns 6 % 3=x3 at *
 generalize cellI ns 6=x4 at *

 have it1:itemsAt S1 n=some (RL.map encRl):=by unfold itemsAt;rw[n1]
 have lc:=zm0 S1 n (RL.map encRl) it1
 generalize hS2:S1++[MO.lst (RL.map encRl)]=S2 at *
 have wf2:M.wf S2:=by rw[<-hS2];exact zko wf1 fun o ho=>by rw[List.mem_singleton.mp ho];exact zd9 _ _
 have n2:S2[n]? = some (.lst (RL.map encRl)):=by rw[<-hS2];exact zbf n1
 have g2:S2[S1.length]? = some (.lst (RL.map encRl)):=by rw[<-hS2];simp
 have l2:S2.length=S1.length+1:=by rw[<-hS2];simp
 obtain⟨ALL,kvs,A,T,hkl,hAl,uA,uK,fM,fT⟩:=made_ok C S1.length S2 wf2 g2
 have hAL:(ALL.map (encT (top+1) (ksK RL))).length=ALL.length:=List.length_map _
 generalize hLA:ALL.map (encT (top+1) (ksK RL))=LA at *
 generalize hS3:S2++[MO.lst LA]=S3 at *
 have l3:S3.length=S2.length+1:=by rw[<-hS3];simp
 have n3:S3[n]? = some (.lst (RL.map encRl)):=by rw[<-hS3];exact zbf n2
 have g3:S3[S1.length]? = some (.lst (RL.map encRl)):=by rw[<-hS3];exact zbf g2
 have m3':S3[S2.length]? = some (.lst LA):=by rw[<-hS3];simp
 have hne:neV 200 (.loc S1.length) (.loc n) S3=.ok (.bl false) S3:=zlj S3 200 S1.length n (RL.map encRl) (by unfold itemsAt;rw[g3]) (by unfold itemsAt;rw[n3]) (zfm RL).1 (by have:=(zfm RL).2;omega)
 have hisl:isV "list" (.loc S2.length) S3=.ok (.bl true) S3:=by simp[isV,tyD,m3',subTy]
 generalize hS4:S3++[MO.dic kvs]=S4 at *
 have l4:S4.length=S3.length+1:=by rw[<-hS4];simp
 have n4:S4[n]? = some (.lst (RL.map encRl)):=by rw[<-hS4];exact zbf n3
 have g4:S4[S1.length]? = some (.lst (RL.map encRl)):=by rw[<-hS4];exact zbf g3
 have m4:S4[S2.length]? = some (.lst LA):=by rw[<-hS4];exact zbf m3'
 have t4:S4[S2.length+1]? = some (.dic kvs):=by rw[<-hS4,<-l3];simp
 have lt:lenW [.loc (S2.length+1)] S4=.ok (.int (ALL.length:Nat)) S4:=by
  unfold lenW
  simp only[t4]
  rw[hkl]
 have lm:lenW [.loc S2.length] S4=.ok (.int (ALL.length:Nat)) S4:=by
  have:=zhg (st:=S4) (n:=S2.length) (ds:=LA) (by unfold itemsAt;rw[m4])
  rwa[hAL]at this
 have go1:=zil C.g h95 A T (S2.length+1) n S4 t4 n4 s k row C.hs C.hrow C.rl hk

 generalize hS5:S4.set S1.length (.lst [])=S5
 have hcl:clearV (.loc S1.length) [] S4=.ok .non S5:=by
  rw[<-hS5]
  simp[clearV,g4]
 have hty:isTy "list" (.loc S1.length) S4=true:=by simp[isTy,g4]
 have l5:S5.length=S4.length:=by rw[<-hS5];simp
 have hn1:n≠S1.length:=Nat.ne_of_lt (List.getElem?_eq_some_iff.mp n1).1
 have n5:S5[n]? = some (.lst (RL.map encRl)):=by rw[<-hS5,List.getElem?_set_ne (Ne.symm hn1)];exact n4
 have t5:S5[S2.length+1]? = some (.dic kvs):=by rw[<-hS5,List.getElem?_set_ne (by omega)];exact t4
 have wf4:M.wf S4:=by
  rw[<-hS4,<-hS3]
  rw[List.append_assoc]
  refine zko wf2 fun o ho=>?_
  simp only[List.cons_append,List.nil_append,List.mem_cons,List.not_mem_nil,or_false]at ho
  rcases ho with rfl | rfl
  ·exact uA _
  ·exact uK _
 have wf5:M.wf S5:=by
  intro o ho
  rw[l5]
  rw[<-hS5]at ho
  exact zg7 wf4 (show underO _ (.lst []) by show unders _ _;simp) o ho
 obtain⟨ALL2,kvs2,A2,T2,_,_,_,_,fM2,fT2⟩:=made_ok C n S5 wf5 n5
 generalize ALL2.map (encT (top+1) (ksK RL))=LA2 at *
 generalize hS6:S5++[MO.lst LA2]=S6 at *
 have l6:S6.length=S5.length+1:=by rw[<-hS6];simp
 have n6:S6[n]? = some (.lst (RL.map encRl)):=by rw[<-hS6];exact zbf n5
 have t6:S6[S2.length+1]? = some (.dic kvs):=by rw[<-hS6];exact zbf t5
 generalize hS7:S6++[MO.dic kvs2]=S7 at *
 have n7:S7[n]? = some (.lst (RL.map encRl)):=by rw[<-hS7];exact zbf n6
 have t7:S7[S2.length+1]? = some (.dic kvs):=by rw[<-hS7];exact zbf t6
 have u7:S7[S5.length+1]? = some (.dic kvs2):=by rw[<-hS7,<-l6];simp
 have go2:=zil C.g h95 A2 T2 (S5.length+1) n S7 u7 n7 s k row C.hs C.hrow C.rl hk
 have go3:=zil C.g h95 A T (S2.length+1) n S7 t7 n7 s k [] C.hs (by simp) (by simp) hk
 have go4:=zil C.g h95 A T (S2.length+1) n S7 t7 n7 top k row (Nat.le_refl _) C.hrow C.rl hk
 generalize hBI:(ifS (notT (tru (callF zcw [] (consA (vr 8) (consA (vr 1) (consA (tupE (consA (op2 ixV (vr 9) _) _)) _)))))) _ _:MS)=BI at hb
 obtain⟨env',st',fg,a9,rfl,hst7⟩:=zbx (g:=nameG 9) (b:=BI) (gs:=[(n,.lst (RL.map encRl))]) (items:=RL.map encRl)
  (fun i env s1=>∃a9:Option D,env=[some (.loc 0),some (.loc n),some (.int (top:Nat)),some (.str more),some (.tup [.int (s:Nat),.str row]),some (.int (k:Nat)),some (.loc S1.length),some (.loc S2.length),some (.loc (S2.length+1)),a9]/\s1=S7)
  (env:=[some (.loc 0),some (.loc n),some (.int (top:Nat)),some (.str more),some (.tup [.int (s:Nat),.str row]),some (.int (k:Nat)),some (.loc S1.length),some (.loc S2.length),some (.loc (S2.length+1)),none]) (st:=S7) ⟨none,rfl,rfl⟩ (by
   rintro i d env s1 hi ⟨a9,rfl,rfl⟩
   rw[List.getElem?_map]at hi
   obtain⟨q,hq,rfl⟩:=Option.map_eq_some_iff.mp hi
   have hqm:=List.mem_of_getElem? hq
   obtain⟨z1,z2,_,_⟩:=C.g.at_ q hqm
   have gq:=zil C.g h95 A T (S2.length+1) n s1 t7 n7 q.s k [q.x] z1 (by simpa using z2) (by simp) hk
   have j0:∀Z,ixV (encRl q) (.int 0) Z=.ok (.int (q.s:Nat)) Z:=fun Z=>rfl
   have j1:∀Z,ixV (encRl q) (.int 1) Z=.ok (.str [q.x]) Z:=fun Z=>rfl
   have tv:∀s:Stor,truV (.bl true) s=some true:=fun _=>rfl
   refine⟨by simp[n7],[some (.loc 0),some (.loc n),some (.int (top:Nat)),some (.str more),some (.tup [.int (s:Nat),.str row]),some (.int (k:Nat)),some (.loc S1.length),some (.loc S2.length),some (.loc (S2.length+1)),some (encRl q)],s1,by simp,[some (.loc 0),some (.loc n),some (.int (top:Nat)),some (.str more),some (.tup [.int (s:Nat),.str row]),some (.int (k:Nat)),some (.loc S1.length),some (.loc S2.length),some (.loc (S2.length+1)),some (encRl q)],s1,.inl ?_,_,rfl,rfl⟩
   rw[<-hBI]
   generalize encRl q=EQ at *
   generalize ((q.s:Nat):Int)=QS at *
   generalize S2.length+1=p8 at *
   generalize S2.length=p7 at *
   generalize S1.length=p6 at *
   generalize ((k:Nat):Int)=KK at *
   generalize ((top:Nat):Int)=TP at *
   generalize D.tup [.int (s:Nat),.str row]=TT at *
   simp[j0,j1,gq,tv]) (by
   rintro env s1 ⟨_,_,e⟩
   rw[e];simp[n7])
 rw[hst7]at fg
 clear hst7
 have l1:S1.length=st.length+1:=by rw[<-hS1];simp
 have hget:∀i,i<st.length->S7[i]? = st[i]?:=fun i hi=>by
  rw[<-hS7,List.getElem?_append_left (by omega),<-hS6,List.getElem?_append_left (by omega),<-hS5,List.getElem?_set_ne (by omega),<-hS4,List.getElem?_append_left (by omega),<-hS3,List.getElem?_append_left (by omega),<-hS2,List.getElem?_append_left (by omega),<-hS1,List.getElem?_append_left hi]
 have hpre:∃x,S7=st++x:=by
  refine⟨S7.drop st.length,?_⟩
  have ht:S7.take st.length=st:=by
   refine List.ext_getElem? fun i=>?_
   rw[List.getElem?_take]
   split
   ·rename_i hi;exact hget i hi
   ·rename_i hi;rw[List.getElem?_eq_none (by omega)]
  exact (List.take_append_drop st.length S7).symm.trans (by rw[ht])
 obtain⟨x,hx⟩:=hpre
 refine⟨x,?_⟩
 rw[<-hx,<-hb]
 have tv:∀s:Stor,truV (.bl true) s=some true:=fun _=>rfl
 have tw:∀s:Stor,truV (.bl false) s=some false:=fun _=>rfl
 have j0:∀Z,ixV (.tup [.int (s:Nat),.str row]) (.int 0) Z=.ok (.int (s:Nat)) Z:=fun Z=>zav Z 0 _ _ rfl
 have j1:∀Z,ixV (.tup [.int (s:Nat),.str row]) (.int 1) Z=.ok (.str row) Z:=fun Z=>zav Z 1 _ _ rfl
 have sI:∀e:MEnv,e[1]? = some (some (.loc n))->seqI (vr 1) e S7=.ok (RL.map encRl,[(n,.lst (RL.map encRl))]) S7:=fun e he=>by simp[he,n7]
 have sI':=sI [some (.loc 0),some (.loc n),some (.int (top:Nat)),some (.str more),some (.tup [.int (s:Nat),.str row]),some (.int (k:Nat)),some (.loc S1.length),some (.loc S2.length),some (.loc (S2.length+1)),none] rfl
 clear hx hb
 generalize hE3:lstE (consA (ct (.int 0)) _)=E3 at *
 generalize hI1:seqI (vr 1)=I1 at *
 generalize RL.map encRl=LR at *
 generalize (S2.length+1)=p8 at *
 generalize (S5.length+1)=p10 at *
 generalize S5.length=p9 at *
 generalize S2.length=p7 at *
 generalize S1.length=p6 at *
 generalize ((ALL.length:Nat):Int)=AL at *
 generalize ((k:Nat):Int)=KK at *
 generalize ((top:Nat):Int)=TP at *
 simp[e3,c6',m3,ixk,lc,fM,hisl,hne,fT,lt,lm,go1,hty,hcl,fM2,fT2,go2,sI',fg,j0,j1,go3,go4,tv,tw]
end Law
namespace Law
open L2 M TK TS
theorem law_true (ns:List Int)(hns:ns.length<=63):∃st,zi1 [.loc 0] [.frz (ns.map D.int)]=.ok (.bl true) st:=by
 have U0:∀n,underO n (.frz (ns.map D.int)):=fun n=>by
  show unders _ _
  rw[zdb];intro d hd
  obtain⟨c,_,rfl⟩:=List.mem_map.mp hd
  simp
 obtain⟨RL,more,top,s,row,O1,O3,C,U1,U3,fD⟩:=zhs ns
 generalize hZ4:([.frz (ns.map D.int),O1,.lst (RL.map encRl),O3]:Stor)=Z4 at *
 have wf4:M.wf Z4:=by
  rw[<-hZ4]
  intro o ho
  simp only[List.mem_cons,List.not_mem_nil,or_false]at ho
  rcases ho with rfl | rfl | rfl | rfl
  ·exact U0 _
  ·exact U1 _
  ·exact zd9 _ _
  ·exact U3 _
 have h0:Z4[0]? = some (.frz (ns.map D.int)):=by rw[<-hZ4];rfl
 have h2:Z4[2]? = some (.lst (RL.map encRl)):=by rw[<-hZ4];rfl
 have l4:Z4.length=4:=by rw[<-hZ4];rfl
 have i0:itemsAt Z4 0=some (ns.map D.int):=by unfold itemsAt;rw[h0]
 have c28:=zd7 ns 0 28 Z4 i0 (by omega)
 have c29:=zd7 ns 0 29 Z4 i0 (by omega)
 rw[show ((28:Nat):Int)=28 from rfl]at c28
 rw[show ((29:Nat):Int)=29 from rfl]at c29
 have m2:∀s1,modV (.int (cellI ns 28)) (.int 2) s1=.ok (.int (cellI ns 28 % 2)) s1:=fun s1=>zai s1 _ _ (by omega)
 have hpre:∀x,∃y,Z4++x=[.frz (ns.map D.int)]++y:=fun x=>⟨[O1,.lst (RL.map encRl),O3]++x,by rw[<-hZ4];rfl⟩
 unfold zi1 gcF fnM zj7
 rw[show startM 10 [D.loc 0]=[some (.loc 0),none,none,none,none,none,none,none,none,none] from rfl]
 generalize hb:(seqS (setS 5 (op2 ixV (lstE _) _)) _:MS)=RS
 refine⟨[.frz (ns.map D.int)],?_⟩
 by_cases hc:cellI ns 28 % 2=1
 ·obtain⟨RL',more',top',s',row',c,g,C',ug,fF⟩:=zjs Z4 wf4 (cellI ns 29)
  rw[l4]at fF
  obtain⟨x,hm⟩:=main_ok ns C' 5 (SQ Z4 c RL' g) (SQ.wf wf4 ug) (by unfold SQ;exact zbf h0) (by have:(SQ Z4 c RL' g)[Z4.length+1]? = _:=SQ.rules;rwa[l4]at this) RS hb
  obtain⟨y,hy⟩:∃y,SQ Z4 c RL' g++x=[.frz (ns.map D.int)]++y:=by
   unfold SQ
   rw[List.append_assoc]
   exact hpre _
  have hg:gc [.frz (ns.map D.int)] (.ok (.bl true) (SQ Z4 c RL' g++x))=.ok (.bl true) [.frz (ns.map D.int)]:=by
   rw[hy]
   exact zf4 (by simp)
  clear hb hy
  generalize SQ Z4 c RL' g++x=ZX at *
  generalize SQ Z4 c RL' g=ZF at *
  generalize ([.frz (ns.map D.int)]:Stor)=Z0 at *
  generalize D.tup [.int (s':Nat),.str row']=TT' at *
  generalize D.tup [.int (s:Nat),.str row]=TT at *
  generalize ((top:Nat):Int)=TP at *
  generalize ((top':Nat):Int)=TP' at *
  generalize cellI ns 29=e29 at *
  generalize cellI ns 28 % 2=e28' at *
  generalize cellI ns 28=e28 at *
  simp[fD,c28,m2,hc,c29,fF,hm,hg]
 ·obtain⟨x,hm⟩:=main_ok ns C 2 Z4 wf4 h0 h2 RS hb
  obtain⟨y,hy⟩:=hpre x
  have hg:gc [.frz (ns.map D.int)] (.ok (.bl true) (Z4++x))=.ok (.bl true) [.frz (ns.map D.int)]:=by
   rw[hy]
   exact zf4 (by simp)
  clear hb hy
  generalize Z4++x=ZX at *
  generalize ([.frz (ns.map D.int)]:Stor)=Z0 at *
  generalize D.tup [.int (s:Nat),.str row]=TT at *
  generalize ((top:Nat):Int)=TP at *
  generalize cellI ns 28 % 2=e28' at *
  generalize cellI ns 28=e28 at *
  simp[fD,c28,m2,hc,hm,hg]
end Law
open PySem PySem.W PyProof.Rows
noncomputable def PySem.W.Fast.tw8042067506267189064:Unit:=()
noncomputable def PySem.W.Fast.tw13058963304299570099:Unit:=()
noncomputable def PySem.W.Fast.tw90813029240395999:Unit:=()
noncomputable def PySem.W.Fast.tw3705605301609687043:Unit:=()
noncomputable def PySem.W.Fast.tw15215622826675782944:Unit:=()
noncomputable def PySem.W.Fast.tw4469742677078973434:Unit:=()
noncomputable def PySem.W.Fast.tw3028530371969761807:Unit:=()
noncomputable def PySem.W.Fast.tw17437849924457776256:Unit:=()
noncomputable def PySem.W.Fast.tw6478631079702736789:Unit:=()
noncomputable def PySem.W.Fast.tw17323422091374461665:Unit:=()
noncomputable def PySem.W.Fast.tw3938189181075854635:Unit:=()
noncomputable def PySem.W.Fast.tw5122896599017171731:Unit:=()
noncomputable def PySem.W.Fast.tw1249067489025808228:Unit:=()
noncomputable def PySem.W.Fast.tw17722041197176655864:Unit:=()
noncomputable def PySem.W.Fast.tw16527277769768954326:Unit:=()
noncomputable def PySem.W.Fast.tw7460207333432431097:Unit:=()
noncomputable def PySem.W.Fast.tw8386523288222516090:Unit:=()
noncomputable def PySem.W.Fast.tw11780736451457203402:Unit:=()
noncomputable def PySem.W.Fast.tw8915976661542747901:Unit:=()
noncomputable def PySem.W.Fast.tw3932077824794340365:Unit:=()
noncomputable def PySem.W.Fast.tw17058189152061025517:Unit:=()
set_option maxRecDepth 100000 in
set_option maxHeartbeats 0 in
theorem PySem.Challenge.cw_oneofall_k45_whole_one_step_of_rows_on_t_holds : PySem.Challenge.rw_oneofall_k45_whole_one_step_of_rows_on_t.Holds := by
 w_on;o_law;k_head;(case hw=>w_witness2)
 k_fill
 refine M.holds_of (F:=Law.zi1) (k:=5) (x:="_law_script") rfl rfl ⟨rfl,by decide,by decide⟩ (fun w h Y=>PySem.W.kIn_of Y) ?F Law.law_true
 case F =>
  intro w mg fa h KX G hmg
  refine' Law.all_mk KX G hmg ?cz_Numbers ?cp_Numbers ?ch_Numbers ?co_Numbers ?cs_Numbers ?ck_Numbers ?ce_Numbers ?cn_Numbers_first ?cn_Numbers_given ?a0 ?i0 ?l0 ?c0 ?k0 ?a1 ?i1 ?l1 ?c1 ?k1 ?a2 ?l2 ?c2 ?k2 ?a3 ?l3 ?c3 ?k3 ?a4 ?l4 ?c4 ?k4 ?a5 ?l5 ?c5 ?k5 ?a6 ?l6 ?c6 ?k6 ?a7 ?l7 ?c7 ?k7 ?a8 ?l8 ?c8 ?k8 ?a9 ?l9 ?c9 ?k9 ?a10 ?l10 ?c10 ?k10 ?a11 ?l11 ?c11 ?k11 ?a12 ?l12 ?c12 ?k12 ?a13 ?l13 ?c13 ?k13 ?a14 ?l14 ?c14 ?k14 ?a15 ?l15 ?c15 ?k15 ?a16 ?l16 ?c16 ?k16 ?a17 ?l17 ?c17 ?k17 ?a18 ?l18 ?c18 ?k18 ?a19 ?l19 ?c19 ?k19 ?a20 ?l20 ?c20 ?k20 ?a21 ?l21 ?c21 ?k21 ?a22 ?l22 ?c22 ?k22 ?a23 ?l23 ?c23 ?k23 ?a24 ?l24 ?c24 ?k24 ?a25 ?l25 ?c25 ?k25 ?a26 ?l26 ?c26 ?k26 ?a27 ?l27 ?c27 ?k27 ?a28 ?l28 ?c28 ?k28 ?v_BLANK ?z_int ?z_isinstance ?z_len ?z_list ?z_max ?z_min ?z_range ?z_set ?z_sorted ?z_sum
  (case cz_Numbers=>first | k_is | kernel_rfl)
  (case cp_Numbers=>first | k_is | kernel_rfl)
  (case ch_Numbers=>first | k_is | kernel_rfl)
  (case co_Numbers=>first | k_is | kernel_rfl)
  (case cs_Numbers=>first | k_is | kernel_rfl)
  (case ck_Numbers=>first | k_is | kernel_rfl)
  (case ce_Numbers=>first | k_is | kernel_rfl)
  (case cn_Numbers_first=>first | k_is | kernel_rfl)
  (case cn_Numbers_given=>first | k_is | kernel_rfl)
  (case a0=>k_is)
  (case i0=>first | k_is | kernel_rfl)
  (case l0=>k_is)
  (case c0=>k_is)
  (case k0=>k_is)
  (case a1=>k_is)
  (case i1=>first | k_is | kernel_rfl)
  (case l1=>k_is)
  (case c1=>k_is)
  (case k1=>k_is)
  (case a2=>k_is)
  (case l2=>k_is)
  (case c2=>k_is)
  (case k2=>k_is)
  (case a3=>k_is)
  (case l3=>k_is)
  (case c3=>k_is)
  (case k3=>k_is)
  (case a4=>k_is)
  (case l4=>k_is)
  (case c4=>k_is)
  (case k4=>k_is)
  (case a5=>k_is)
  (case l5=>k_is)
  (case c5=>k_is)
  (case k5=>k_is)
  (case a6=>k_is)
  (case l6=>k_is)
  (case c6=>k_is)
  (case k6=>k_is)
  (case a7=>k_is)
  (case l7=>k_is)
  (case c7=>k_is)
  (case k7=>k_is)
  (case a8=>k_is)
  (case l8=>k_is)
  (case c8=>k_is)
  (case k8=>k_is)
  (case a9=>k_is)
  (case l9=>k_is)
  (case c9=>k_is)
  (case k9=>k_is)
  (case a10=>k_is)
  (case l10=>k_is)
  (case c10=>k_is)
  (case k10=>k_is)
  (case a11=>k_is)
  (case l11=>k_is)
  (case c11=>k_is)
  (case k11=>k_is)
  (case a12=>k_is)
  (case l12=>k_is)
  (case c12=>k_is)
  (case k12=>k_is)
  (case a13=>k_is)
  (case l13=>k_is)
  (case c13=>k_is)
  (case k13=>k_is)
  (case a14=>k_is)
  (case l14=>k_is)
  (case c14=>k_is)
  (case k14=>k_is)
  (case a15=>k_is)
  (case l15=>k_is)
  (case c15=>k_is)
  (case k15=>k_is)
  (case a16=>k_is)
  (case l16=>k_is)
  (case c16=>k_is)
  (case k16=>k_is)
  (case a17=>k_is)
  (case l17=>k_is)
  (case c17=>k_is)
  (case k17=>k_is)
  (case a18=>k_is)
  (case l18=>k_is)
  (case c18=>k_is)
  (case k18=>k_is)
  (case a19=>k_is)
  (case l19=>k_is)
  (case c19=>k_is)
  (case k19=>k_is)
  (case a20=>k_is)
  (case l20=>k_is)
  (case c20=>k_is)
  (case k20=>k_is)
  (case a21=>k_is)
  (case l21=>k_is)
  (case c21=>k_is)
  (case k21=>k_is)
  (case a22=>k_is)
  (case l22=>k_is)
  (case c22=>k_is)
  (case k22=>k_is)
  (case a23=>k_is)
  (case l23=>k_is)
  (case c23=>k_is)
  (case k23=>k_is)
  (case a24=>k_is)
  (case l24=>k_is)
  (case c24=>k_is)
  (case k24=>k_is)
  (case a25=>k_is)
  (case l25=>k_is)
  (case c25=>k_is)
  (case k25=>k_is)
  (case a26=>k_is)
  (case l26=>k_is)
  (case c26=>k_is)
  (case k26=>k_is)
  (case a27=>k_is)
  (case l27=>k_is)
  (case c27=>k_is)
  (case k27=>k_is)
  (case a28=>k_is)
  (case l28=>k_is)
  (case c28=>k_is)
  (case k28=>k_is)
  (case v_BLANK=>k_is)
  (case z_int=>k_is)
  (case z_isinstance=>k_is)
  (case z_len=>k_is)
  (case z_list=>k_is)
  (case z_max=>k_is)
  (case z_min=>k_is)
  (case z_range=>k_is)
  (case z_set=>k_is)
  (case z_sorted=>k_is)
  (case z_sum=>k_is)
