import PyProof.Rows.All
import Wide.All
import OpenK.AllK
import Wide.FinOn
import Lean
import PyProof.EqAt
import PyProof.EqKinds
import PyProof.TupleCall
import PyProof.DictWalks
import KE.KEqDict
import KE.KIntText
import PyProof.CallStr
import PyProof.DictTruth
import KE.KTupSum
import KE.KListMore
import PyProof.Rows.MinMaxN
import PySem.SetOps
import PyProof.SetKind
import PyProof.TupleKey
import PyProof.Rows.SetFrom
import KE.KSortTup
import PyProof.ListStr
import PyProof.Rows.SortStr
import PyProof.CollectWalk
import PySem.Challenge.RW_oneofall_k48_whole_runs_on_tape
set_option Elab.async false
set_option linter.all false
set_option maxRecDepth 100000

abbrev gb:=@List.mem_map
abbrev gf:=@List.length_map
abbrev gh:=@Nat.le_refl
abbrev gj:=@List.getElem?_eq_some_iff
abbrev gk:=@List.mem_cons
abbrev gm:=@PySem.Heap.lt_size
abbrev gq:=@PySem.Heap.get?_push_of_some
abbrev gw:=@List.mem_append
abbrev g8:=@List.length_cons
abbrev gB:=@List.map_cons
abbrev gC:=@List.length_append
abbrev gF:=@List.getElem?_map
abbrev gG:=@List.mem_singleton
abbrev gH:=@PySem.Heap.get?_push_size
abbrev gJ:=@Nat.ne_of_lt
abbrev gK:=@List.size_toArray
abbrev gM:=@List.getElem?_eq_getElem
abbrev gO:=@List.append_assoc
abbrev gP:=@Nat.lt_of_lt_of_le
abbrev gQ:=@List.getElem?_append_left
abbrev gR:=@List.getElem?_append_right
abbrev gU:=@Nat.le_trans
abbrev gW:=@List.map_map
abbrev gY:=@List.mem_of_getElem?
abbrev gZ:=@List.append_nil
abbrev g_:=@Array.length_toList
abbrev h_:=@List.mem_append_left
abbrev kh:=@Int.eq_ofNat_of_zero_le
abbrev kj:=@List.mem_cons_of_mem
abbrev kE:=@List.map_append
abbrev kI:=@List.mem_append_right
abbrev kJ:=@List.lookup_cons
abbrev kO:=@Array.getElem?_eq_getElem
abbrev kW:=@Nat.lt_irrefl
abbrev kY:=@List.getElem?_set_ne
abbrev kZ:=@List.nodup_cons
abbrev k_:=@List.length_take
abbrev mq:=@Bool.and_eq_true
abbrev my:=@Option.map_eq_some_iff
abbrev mz:=@List.not_mem_nil
abbrev m6:=@List.getElem_mem
abbrev m9:=@PySem.Heap.get?_update_self
abbrev mC:=@Int.toNat_natCast
abbrev mD:=@List.any_cons
abbrev mF:=@List.getElem?_cons_succ
abbrev mH:=@Nat.le_of_lt
abbrev mJ:=@List.getElem?_set_self
abbrev mK:=@PySem.Heap.size_push
abbrev mL:=@List.set_append_right
abbrev mO:=@List.find?_cons
abbrev mQ:=@Nat.zero_le
abbrev mR:=@Option.bind_some
abbrev mU:=@List.map_congr_left
abbrev mV:=@Bool.eq_iff_iff
abbrev mW:=@Bool.false_ne_true
abbrev mX:=@Nat.le_of_eq
abbrev mY:=@List.length_drop
abbrev mZ:=@List.nodup_append
abbrev m_:=@Array.getElem?_eq_none
abbrev ni:=@Array.getD_eq_getD_getElem?
abbrev nj:=@List.foldl_append
abbrev nq:=@List.length_singleton
abbrev nu:=@Option.map_some
abbrev n6:=@List.drop_eq_nil_of_le
abbrev n8:=@List.length_nil
abbrev nA:=@Array.getElem?_toList
abbrev nF:=@List.nil_append
abbrev nG:=@List.cons_append
abbrev nH:=@List.pairwise_cons
abbrev nJ:=@List.take_succ
abbrev nM:=@List.take_length
abbrev nO:=@List.mem_filter
abbrev nQ:=@List.mem_cons_self
abbrev nR:=@Nat.lt_succ_self
abbrev nU:=@List.map_nil
abbrev nW:=@Bool.false_eq_true
abbrev nY:=@List.getElem?_cons_zero
abbrev nZ:=@Int.emod_nonneg
abbrev n_:=@Int.emod_lt_of_pos
abbrev ph:=@List.ext_getElem?
abbrev pq:=@List.rel_of_pairwise_cons
abbrev p7:=@List.any_eq_true
abbrev pA:=@Nat.mul_le_mul
abbrev pB:=@List.filterMap_cons
abbrev pC:=@List.of_mem_zip
abbrev pD:=@PySem.Heap.get?_update_other
abbrev pF:=@List.length_set
abbrev pG:=@Nat.lt_succ_of_lt
abbrev pH:=@List.length_eq_zero_iff
abbrev pI:=@List.replicate_succ
abbrev pJ:=@List.foldl_cons
abbrev pK:=@List.dropLast_concat_getLast
abbrev pL:=@List.getElem_of_mem
abbrev pM:=@List.getElem?_eq_none
abbrev pN:=@Nat.mul_le_mul_right
abbrev pO:=@List.pairwise_append
abbrev pP:=@List.filter_cons
abbrev pQ:=@List.mem_filterMap
abbrev pR:=@List.drop_eq_getElem_cons
abbrev pU:=@List.getElem?_take
abbrev pW:=@Option.map_eq_none_iff
abbrev pX:=@List.find?_eq_none
abbrev pY:=@List.reverse_append
abbrev pZ:=@List.eq_nil_of_length_eq_zero
abbrev p_:=@List.contains_iff_mem
abbrev qb:=@List.getElem?_of_mem
abbrev qd:=@List.length_pos_of_mem
abbrev qe:=@List.pairwise_iff_getElem
abbrev qi:=@List.filter_eq_nil_iff
namespace L2
open PySem PySem.Spec PyProof.Rows
noncomputable abbrev Key:=Sum Int Str
noncomputable def vz:Key->Value->Bool
 | .inl k,v=>Value.isInt k v
 | .inr x,v=>Value.isStrOf x v
noncomputable def Zz (w:World):Key->Int
 | .inl k=>hashInt k
 | .inr x=>hashStr w x
theorem JM:∀{k:Key} {v:Value},vz k v=true->(∃i t,k=Sum.inl i/\v=Value.int i t)\/(∃x t,k=Sum.inr x/\v=Value.str x t)
 | .inl i,v,h=>by
  obtain⟨t,e⟩:=Value.isInt_shape (k:=i) (v:=v) h;exact .inl ⟨i,t,rfl,e⟩
 | .inr x,v,h=>by
  obtain⟨t,e⟩:=Value.isStrOf_shape (x:=x) (v:=v) h;exact .inr ⟨x,t,rfl,e⟩
theorem Dd (i:Int)(t:Tok):vz (.inl i) (.int i t)=true:=by simp[vz,Value.isInt]
theorem Dc (x:Str)(t:Tok):vz (.inr x) (.str x t)=true:=by simp[vz,Value.isStrOf]
theorem SN (a b:Int):decide ((Sum.inl a:Key)=Sum.inl b)=(a==b):=by
 by_cases e:a=b
 ·subst e;simp
 ·have h:¬ (Sum.inl a:Key)=Sum.inl b:=λq=>e (Sum.inl.inj q);rw[decide_eq_false h];exact (beq_eq_false_iff_ne.mpr e).symm
theorem Sy (a b:Str):decide ((Sum.inr a:Key)=Sum.inr b)=decide (a=b):=by
 by_cases e:a=b
 ·subst e;simp
 ·have h:¬ (Sum.inr a:Key)=Sum.inr b:=λq=>e (Sum.inr.inj q);rw[decide_eq_false h,decide_eq_false e]
theorem SM (a:Int)(b:Str):decide ((Sum.inl a:Key)=Sum.inr b)=false:=decide_eq_false (λq=>nomatch q)
theorem SJ (a:Str)(b:Int):decide ((Sum.inr a:Key)=Sum.inl b)=false:=decide_eq_false (λq=>nomatch q)
noncomputable def bR (prog:Program)(w:World):PySem.KeyKind prog w Key where
 is:=vz
 hash:=Zz w
 inj:=λv a b ha hb=>by
  rcases JM ha with⟨i,t,rfl,rfl⟩ | ⟨x,t,rfl,rfl⟩
  ·rcases JM hb with⟨j,u,rfl,e⟩ | ⟨y,u,rfl,e⟩
   ·injection e with e1 _;rw[e1]
   ·exact nomatch e
  ·rcases JM hb with⟨j,u,rfl,e⟩ | ⟨y,u,rfl,e⟩
   ·exact nomatch e
   ·injection e with e1 _;rw[e1]
 byValue:=λk v h=>by
  rcases JM h with⟨i,t,rfl,rfl⟩ | ⟨x,t,rfl,rfl⟩<;>rfl
 pyHash:=λhv h=>by
  rcases JM hv with⟨i,t,rfl,rfl⟩ | ⟨x,t,rfl,rfl⟩
  ·exact wpAny_pyHash_int h
  ·exact wpAny_pyHash_str h
 eqBool:=λhu hv h=>by
  rcases JM hu with⟨i,t,rfl,rfl⟩ | ⟨x,t,rfl,rfl⟩
  ·rcases JM hv with⟨j,u,rfl,rfl⟩ | ⟨y,u,rfl,rfl⟩
   ·rw[SN]at h;exact wpAny_eqBool_int h
   ·rw[SM]at h;exact SeqAt.EqAt.int_str i t y u _ _ _ _ h
  ·rcases JM hv with⟨j,u,rfl,rfl⟩ | ⟨y,u,rfl,rfl⟩
   ·rw[SJ]at h;exact SeqAt.EqAt.str_int x t j u _ _ _ _ h
   ·rw[Sy]at h;exact wpAny_eqBool_str h
 «strs»:=λk x t v h=>by
  rcases JM h with⟨i,u,rfl,e⟩ | ⟨y,u,rfl,e⟩
  ·exact nomatch e
  ·injection e with e1 _;subst e1;cases v<;>rfl
theorem zn5 (prog:Program)(w:World)(k:Key)(v:Value):(bR prog w).is k v=vz k v:=rfl
theorem zmd (prog:Program)(w:World)(i:Int)(t:Tok):(bR prog w).is (.inl i) (.int i t)=true:=Dd i t
theorem zl4 (prog:Program)(w:World)(x:Str)(t:Tok):(bR prog w).is (.inr x) (.str x t)=true:=Dc x t
inductive V where
 | non | bl (b:Bool) | int (i:Int) | str (x:Str) | byt (b:Array UInt8) | flt (b:UInt64) | ref (a:Addr) | ty (n:String)
 deriving DecidableEq
noncomputable def RelV:V->Value->Prop
 | .non,u=>u=Value.none
 | .bl b,u=>u=Value.bool b
 | .int i,u=>∃t,u=Value.int i t
 | .str x,u=>∃t,u=Value.str x t
 | .byt b,u=>∃t,u=Value.bytes b t
 | .flt b,u=>∃t,u=Value.float b t
 | .ref a,u=>u=Value.ref a
 | .ty n,u=>u=Value.type n
noncomputable abbrev Vals:List V->List Value->Prop:=Paired RelV
theorem Vals.length {xs:List V}{us:List Value}(r:Vals xs us):xs.length=us.length:=Paired.length r
theorem Vals.get:∀{xs:List V} {us:List Value} {i:Nat} {x:V},Vals xs us->xs[i]? = some x->∃u,us[i]? = some u/\RelV x u
 | _,_,_,_,.nil,e=>by simp at e
 | _,_,0,_,.cons r _,e=>by simp at e;subst e;exact⟨_,rfl,r⟩
 | _,_,i+1,x,.cons _ t,e=>by
  obtain⟨u,h1,h2⟩:=Vals.get (i:=i) (x:=x) t (by simpa using e);exact⟨u,by simpa using h1,h2⟩
theorem Vals.set {x:V}{u:Value}(r:RelV x u):∀{xs:List V} {us:List Value} (i:Nat),Vals xs us->Vals (xs.set i x) (us.set i u)
 | _,_,_,.nil=>.nil
 | _,_,0,.cons _ t=>.cons r t
 | _,_,i+1,.cons q t=>.cons q (Vals.set r i t)
theorem Vals.append:∀{xs ys:List V} {us ws:List Value},Vals xs us->Vals ys ws->Vals (xs++ys) (us++ws)
 | _,_,_,_,.nil,s=>s
 | _,_,_,_,.cons r t,s=>.cons r (Vals.append t s)
theorem Vals.take:∀{xs:List V} {us:List Value} (n:Nat),Vals xs us->Vals (xs.take n) (us.take n)
 | _,_,0,_=>.nil
 | _,_,_+1,.nil=>.nil
 | _,_,n+1,.cons r t=>.cons r (Vals.take n t)
theorem Vals.drop:∀{xs:List V} {us:List Value} (n:Nat),Vals xs us->Vals (xs.drop n) (us.drop n)
 | _,_,0,r=>r
 | _,_,_+1,.nil=>.nil
 | _,_,n+1,.cons _ t=>Vals.drop n t
noncomputable def o6:Option V->Option Value->Prop
 | some v,some u=>RelV v u
 | none,none=>True
 | _,_=>False
noncomputable def KV {κ:Type}:List (κ×V)->List (κ×Value)->Prop:=Paired λ(p:κ×V) (q:κ×Value)=>p.1=q.1/\RelV p.2 q.2
noncomputable def kV:Key->V
 | .inl i=>.int i
 | .inr x=>.str x
inductive HO where
 
 | lst (xs:List V)
 
 | tup (xs:List V)
 
 | dK (kvs:List (Key×V)) | dT (kvs:List (List Key×V))
 
 | set (S:Int->Bool) (n:Nat)
 
 | ins (C dx:Addr) (fs:List (Str×V))
 
 | own (x:Addr)
 
 | xd (fs:List (Str×V))
 
 | met (f x:Addr)
 
 | rng (lo hi:Int)
 
 | frz (o:Obj) (u:HO)
 
 | tbl (ps:Array Value)
 
 | ext (φ:Heap->Prop)
noncomputable abbrev Hp:=Addr->Option HO
noncomputable def upd (H:Hp)(a:Addr)(o:HO):Hp:=λb=>if b=a then some o else H b
theorem uv {H:Hp}{a:Addr}{o:HO}:upd H a o a=some o:=by unfold upd;rw[if_pos rfl]
theorem lX {H:Hp}{a b:Addr}{o:HO}(h:b≠a):upd H a o b=H b:=by unfold upd;rw[if_neg h]
theorem O5 {H:Hp}{a b:Addr}{o u:HO}(h:H a=some o)(h':H b=some u)(d:o≠u):a≠b:=by
 intro e;subst e;rw[h]at h';exact d (Option.some.inj h')
theorem zP {H:Hp}{a b:Addr}{o:HO}(h:H a=some o)(h':H b=none):a≠b:=by
 intro e;subst e;rw[h]at h';cases h'
section
variable (P:Program)(w:World)
noncomputable def bZ (H:Hp)(h:Heap)(a:Addr):HO->Prop
 | .lst xs=>xs.length<=sizeLine/\∃(its:List Value) (n:Nat),Vals xs its/\h.get? a=some { cls:=.type "list",data:=.seq its.toArray n }
 | .tup xs=>xs.length<=sizeLine/\∃its:List Value,Vals xs its/\IsTup h a its.toArray
 | .dK kvs=>kvs.length<=sizeLine/\(a==sysModules)=false/\∃vs,KV kvs vs/\h.DictOf (bR P w) a vs
 | .dT kvs=>kvs.length<=sizeLine/\(a==sysModules)=false/\∃xs:List (List Key×Addr×Value),
   Paired (λ(p:List Key×V) (q:List Key×Addr×Value)=>p.1=q.1/\H q.2.1=some (.tup (p.1.map kV))/\RelV p.2 q.2.2) kvs xs /\
   ∃o es ep,h.get? a=some o/\o.ExactDict/\o.data=.dict es ep/\es.toList=xs.map (entryOfKey (tupleKind (bR P w)))/\(xs.map (·.1)).Nodup
 | .set S n=>h.SetOf (intKind P w) a S n
 | .ins C dx fs=>H dx=some (.own a)/\fs.length<=1000/\dx≠a/\h.get? a=some (PySem.W.instObj C dx) /\
   ∃mA,h.Ns1 dx mA/\(∀f,o6 (fs.lookup f) (mA f))/\PySem.Within mA (fs.map (·.1))
 | .own _=>∃o,h.get? a=some o
 | .xd fs=>∃mA,h.Ns1 a mA/\∀f,o6 (fs.lookup f) (mA f)
 | .rng lo hi=>∃t u v,h.get? a=some { cls:=.type "range",data:=.fields #[.int lo t,.int hi u,.int 1 v] }
 | .frz o u=>h.get? a=some o/\bZ H h a u
 | .tbl ps=>h.get? a=some { cls:=.none,data:=.fields ps }
 | .met f x=>h.get? a=some (PySem.W.methodObj (.ref f) (.ref x))
 | .ext φ=>φ h/\(∃o,h.get? a=some o)/\∀h1 h2:Heap,φ h1->(∀o,h1.get? a=some o->h2.get? a=some o)->φ h2
noncomputable def o7 (H:Hp)(h:Heap):Prop:=∀a o,H a=some o->bZ P w H h a o
end
section
variable {P:Program}{w:World}{H H':Hp}{h h':Heap}{a:Addr}{o:HO}
theorem bZ.lt (x:bZ P w H h a o):a<h.objs.size:=by
 cases o with
 | lst xs=>obtain⟨_,_,_,_,e⟩:=x;exact gm e
 | tup xs=>obtain⟨_,_,_,p⟩:=x;exact p.lt
 | dK kvs=>obtain⟨_,_,_,_,o,_,_,e,_⟩:=x;exact gm e
 | dT kvs=>obtain⟨_,_,_,_,o,_,_,e,_⟩:=x;exact gm e
 | set S n=>obtain⟨o,_,_,_,e,_⟩:=x;exact gm e
 | ins C dx fs=>obtain⟨_,_,_,e,_⟩:=x;exact gm e
 | own y=>obtain⟨_,e⟩:=x;exact gm e
 | xd fs=>obtain⟨_,⟨_,_,_,e,_⟩,_⟩:=x;exact gm e
 | rng lo hi=>obtain⟨_,_,_,e⟩:=x;exact gm e
 | frz ob u=>obtain⟨e,_⟩:=x;exact gm e
 | tbl ps=>exact gm (show h.get? a=some _ from x)
 | met f y=>exact gm (show h.get? a=some _ from x)
 | ext φ=>obtain⟨_,⟨_,e⟩,_⟩:=x;exact gm e
theorem Paired.Sh {α β:Type}{F G:α->β->Prop}:∀{l₁:List α} {l₂:List β},Paired F l₁ l₂->(∀a b,F a b->G a b)->Paired G l₁ l₂
 | _,_,.nil,_=>.nil
 | _,_,.cons r t,f=>.cons (f _ _ r) (Paired.Sh t f)
theorem bZ.vY (x:bZ P w H h a o)(k:∀b u,(b=a\/H b=some (.own a))->h.get? b=some u->h'.get? b=some u)
  (ho:∀b,H b=some (.own a)->H' b=some (.own a)) (ht:∀b xs,H b=some (.tup xs)->H' b=some (.tup xs)):bZ P w H' h' a o:=by
 induction o with
 | lst xs=>obtain⟨z,its,n,r,e⟩:=x;exact⟨z,its,n,r,k _ _ (.inl rfl) e⟩
 | tup xs=>obtain⟨z,its,r,ob,e,c⟩:=x;exact⟨z,its,r,ob,k _ _ (.inl rfl) e,c⟩
 | dK kvs=>obtain⟨z,y,vs,r,ob,es,ep,e,c⟩:=x;exact⟨z,y,vs,r,ob,es,ep,k _ _ (.inl rfl) e,c⟩
 | dT kvs =>
  obtain⟨z,y,xs,r,ob,es,ep,e,c⟩:=x;exact⟨z,y,xs,Paired.Sh r λp q z=>⟨z.1,ht _ _ z.2.1,z.2.2⟩,ob,es,ep,k _ _ (.inl rfl) e,c⟩
 | set S n=>obtain⟨ob,es,ep,t,e,c⟩:=x;exact⟨ob,es,ep,t,k _ _ (.inl rfl) e,c⟩
 | ins C dx fs =>
  obtain⟨d,z,ne,e,mA,⟨od,es,ep,e2,c⟩,r⟩:=x;exact⟨ho _ d,z,ne,k _ _ (.inl rfl) e,mA,⟨od,es,ep,k _ _ (.inr d) e2,c⟩,r⟩
 | own y=>obtain⟨ob,e⟩:=x;exact⟨ob,k _ _ (.inl rfl) e⟩
 | xd fs=>obtain⟨mA,⟨od,es,ep,e,c⟩,r⟩:=x;exact⟨mA,⟨od,es,ep,k _ _ (.inl rfl) e,c⟩,r⟩
 | rng lo hi=>obtain⟨t,u,v,e⟩:=x;exact⟨t,u,v,k _ _ (.inl rfl) e⟩
 | frz ob u ih=>obtain⟨e,q⟩:=x;exact⟨k _ _ (.inl rfl) e,ih q⟩
 | tbl ps =>
  have e:h.get? a=some { cls:=.none,data:=.fields ps }:=x;show h'.get? a=some { cls:=.none,data:=.fields ps };exact k a _ (.inl rfl) e
 | met f y =>
  have e:h.get? a=some (PySem.W.methodObj (.ref f) (.ref y)):=x;show h'.get? a=some (PySem.W.methodObj (.ref f) (.ref y));exact k a _ (.inl rfl) e
 | ext φ=>obtain⟨p,⟨o,e⟩,st⟩:=x;exact⟨st _ _ p λo q=>k _ _ (.inl rfl) q,⟨o,k _ _ (.inl rfl) e⟩,st⟩
theorem o7.lt (x:o7 P w H h)(e:H a=some o):a<h.objs.size:=(x a o e).lt
theorem o7.fresh (x:o7 P w H h)(e:h.objs.size<=a):H a=none:=by
 cases q:H a with
 | none=>rfl
 | some u=>exact absurd (gP (x.lt q) e) (kW _)
theorem o7.kept (x:o7 P w H h)(k:∀b u,h.get? b=some u->h'.get? b=some u):o7 P w H h':=λa o e =>
 (x a o e).vY (λb u _ q=>k b u q) (λ_ q=>q) λ_ _ q=>q
theorem o7.laid (x:o7 P w H h)(k:∀b u,h.get? b=some u->h'.get? b=some u)(hp:h.objs.size<=a)(new:bZ P w (upd H a o) h' a o):o7 P w (upd H a o) h':=λb u e=>by
 have hn:=x.fresh hp;by_cases hb:b=a
 ·subst hb;rw[uv]at e;cases e;exact new
 ·rw[lX hb]at e;exact (x b u e).vY (λc v _ q=>k c v q) (λc q=>by rw[lX (zP q hn)];exact q) λc xs q=>by rw[lX (zP q hn)];exact q
end
noncomputable def Rd (H:Hp)(a:Addr)(u:HO):Prop:=H a=some u\/∃o,H a=some (.frz o u)
theorem Rd.ok {P:Program}{w:World}{H:Hp}{h:Heap}{a:Addr}{u:HO}(r:Rd H a u)(x:o7 P w H h):bZ P w H h a u:=by
 rcases r with r | ⟨o,r⟩
 ·exact x a u r
 ·obtain⟨_,q⟩:=x a _ r;exact q
noncomputable def Mut:Option HO->Prop
 | some (.lst _)=>True
 | some (.dK _)=>True
 | some (.dT _)=>True
 | some (.set _ _)=>True
 | some (.ins _ _ _)=>True
 | some (.ext _)=>True
 | _=>False
section
variable {P:Program}{w:World}{H:Hp}{h h':Heap}{x e:Addr}{o':HO}
theorem o7.write (ok:o7 P w H h)(mu:Mut (H x))(he:e=x\/H e=some (.own x))(k:∀b u,b≠e->h.get? b=some u->h'.get? b=some u)(Wc:∃u,h'.get? e=some u)
  (new:bZ P w (upd H x o') h' x o'):o7 P w (upd H x o') h':=λb u q=>by
 have GP:∀c y,H c=some (.own y)->c≠x:=λc y r z=>by subst z;rw[r]at mu;exact mu
 have abE:∀c xs,H c=some (.tup xs)->c≠x:=λc xs r z=>by subst z;rw[r]at mu;exact mu
 by_cases hb:b=x
 ·subst hb;rw[uv]at q;cases q;exact new
 ·rw[lX hb]at q;by_cases T_:b=e
  ·have q':H b=some (.own x):=by
    rcases he with z | z
    ·exact absurd (T_.trans z) hb
    ·rw[T_];exact z
   rw[q]at q';cases q';obtain⟨v,hv⟩:=Wc;exact⟨v,by rw[T_];exact hv⟩
  ·refine (ok b u q).vY (λc v hc r=>k c v ?_ r) (λc r=>by rw[lX (GP c b r)];exact r) λc xs r=>by rw[lX (abE c xs r)];exact r
   rcases hc with rfl | hc
   ·exact T_
   ·rintro rfl;rcases he with z | z
    ·exact GP c b hc z
    ·rw[hc]at z;cases z;exact hb rfl
end
structure Un (fs ex:List Addr)(H H':Hp)(h h':Heap):Prop where
 keep:∀b o,h.get? b=some o->H b=none->b∉fs->b∉ex->h'.get? b=some o
 slot:∀b o,h.get? b=some o->H b=none->b∈fs->b∉ex->∃sl,h'.get? b=some { o with slots:=sl }
 free:∀b o,h.get? b=some o->H b=none->b∉ex->H' b=none
 there:∀b o,h.get? b=some o->b∉ex->∃o',h'.get? b=some o'
 u6:∀b xs,H b=some (.tup xs)->H' b=some (.tup xs)
 uc:∀b o u,H b=some (.frz o u)->H' b=some (.frz o u)
 uH:∀b ps,H b=some (.tbl ps)->∃more,H' b=some (.tbl (ps++more))
section
variable {fs fs' ex ex':List Addr}{H H1 H2:Hp}{h h1 h2 h':Heap}{a x e:Addr}{o:HO}
theorem Un.any (u:Un fs ex H H1 h h1){b:Addr}{ob:Obj}(q:h.get? b=some ob)(n:H b=none)(hx:b∉ex):∃sl,h1.get? b=some { ob with slots:=sl }:=by
 by_cases hb:b∈fs
 ·exact u.slot b ob q n hb hx
 ·exact⟨ob.slots,u.keep b ob q n hb hx⟩
theorem Un.kept (k:∀b u,h.get? b=some u->h'.get? b=some u):Un fs ex H H h h' :=
 ⟨λb ob q _ _ _=>k b ob q,λb ob q _ _ _=>⟨ob.slots,k b ob q⟩,λ_ _ _ n _=>n,λb ob q _=>⟨ob,k b ob q⟩,λ_ _ q=>q,λ_ _ _ q=>q,λ_ ps q=>⟨#[],by rw[q];simp⟩⟩
theorem Un.refl:Un fs ex H H h h:=Un.kept λ_ _ q=>q
theorem Un.laid (k:∀b u,h.get? b=some u->h'.get? b=some u)(hp:h.objs.size<=a)(hn:H a=none):Un fs ex H (upd H a o) h h' where
 keep:=λb u q _ _ _=>k b u q
 slot:=λb u q _ _ _=>⟨u.slots,k b u q⟩
 free:=λb u q n _=>by rw[lX (gJ (gP (gm q) hp))];exact n
 there:=λb u q _=>⟨u,k b u q⟩
 u6:=λb xs q=>by rw[lX (zP q hn)];exact q
 uc:=λb u xs q=>by rw[lX (zP q hn)];exact q
 uH:=λb ps q=>⟨#[],by rw[lX (zP q hn),q];simp⟩
theorem Un.write (mu:Mut (H x))(he:e=x\/H e=some (.own x))(k:∀b u,b≠e->h.get? b=some u->h'.get? b=some u)(Wc:∃u,h'.get? e=some u):Un fs ex H (upd H x o) h h':=by
 have hx:∀b,H b=none->b≠x:=λb n z=>by subst z;rw[n]at mu;exact mu
 have hb:∀b,H b=none->b≠e:=λb n z=>by
  subst z;rcases he with r | r
  ·exact hx b n r
  ·rw[n]at r;cases r
 have hm:∀b u,H b=some u->¬ Mut (some u)->b≠x:=λb u q nm z=>by subst z;rw[q]at mu;exact nm mu
 refine⟨λb u q n _ _=>k b u (hb b n) q,λb u q n _ _=>⟨u.slots,k b u (hb b n) q⟩,λb u q n _=>by rw[lX (hx b n)];exact n,λb u q _=>?_,
  λb xs q=>by rw[lX (hm b _ q λz=>z)];exact q,λb u xs q=>by rw[lX (hm b _ q λz=>z)];exact q,λb ps q=>⟨#[],by rw[lX (hm b _ q λz=>z),q];simp⟩⟩
 by_cases T_:b=e
 ·subst T_;exact Wc
 ·exact⟨u,k b u T_ q⟩
end
noncomputable def trk (h:Heap)(H:Hp):List Addr:=(List.range h.objs.size).filter λa=>(H a).isSome
noncomputable def wj (h:Heap)(H:Hp):Heap:=PySem.W.hideAll h (trk h H)
theorem Dj (h:Heap)(H:Hp):(wj h H).objs.size=h.objs.size:=PySem.W.hideAll_size _ _
theorem Ih {h:Heap}{H:Hp}{b:Addr}{o:Obj}(e:h.get? b=some o)(n:H b=none):(wj h H).get? b=some o :=
 PySem.W.hideAll_get _ e λhm=>by
  have q:(H b).isSome=true:=(nO.mp hm).2;rw[n]at q;simp at q
theorem LQ {h:Heap}{H:Hp}{b:Addr}{o:Obj}(e:(wj h H).get? b=some o):h.get? b=some o/\H b=none:=by
 have e':h.get? b=some o:=PySem.W.of_hideAll (trk h H) e;refine⟨e',?_⟩;cases q:H b with
 | none=>rfl
 | some x =>
  have hm:b∈trk h H:=nO.mpr ⟨List.mem_range.mpr (gm e'),by simp[q]⟩;have z:(wj h H).get? b=none:=PySem.W.hideAll_none (trk h H) hm;rw[z]at e;cases e
noncomputable def Nz (g h:Heap)(L:Addr):List (Addr×Obj):=(List.range h.objs.size).filterMap λa=>if a=L\/(g.get? a).isSome=true then none else (h.get? a).map λo=>(a,o)
noncomputable def rest (g h:Heap)(L d:Addr):List (Addr×Obj):=(Nz g h L).filter λp=>decide (p.1≠d)
structure Mod (K:PySem.W.Frag)(mg:Str->Option Value)(base:Heap):Prop where
 Sv:K.In base
 glob:base.Ns mainGlobals mg
 blt:∃mb,base.Ns builtinsNs mb/\∀x:Str,x ≠ "__name__"->mb x=bootBuiltins x
 nolimit:base.NoLimit
structure Cx where
 prog:Program
 w:World
 K:PySem.W.Frag
 mg:Str->Option Value
 base:Heap
 A:Around
 N:List Str
 adz:Shared
 adE:Hp
 env:Env
 outer:List Env
 stack:List Env
 ex:List Addr
 fn:Str->Bool
 calm:Bool
 pn:List (Addr×Obj)
 xe:Value->Shared->Prop
noncomputable def Bc (l:List Env):List Addr:=l.filterMap (·.frame)
noncomputable abbrev Cx.fs (X:Cx):List Addr:=Bc X.outer
noncomputable def Vis (sc:Scope)(x:Str):Prop:=sc.names.lookup x=some .local\/sc.names.lookup x=some .cell\/sc.names.lookup x=some .free
noncomputable def Loc (sc:Scope)(x:Str):Prop:=sc.names.lookup x=some .local\/sc.names.lookup x=some .cell
noncomputable def Look (env:Env)(h:Heap)(m:Str->Option Value)(x:Str)(u:Value):Prop :=
 (env.kindOf x=some .local/\m x=some u)\/((env.kindOf x=some .cell\/env.kindOf x=some .free)/\∃c,env.cells.lookup x=some c/\h.IsCell c (some u))
structure Cx.Ok (X:Cx):Prop where
 mod:Mod X.K X.mg X.base
 kind:X.env.scope.kind=.function
 glob:X.env.globals=mainGlobals
 blt:X.env.builtins=builtinsNs
 above:X.adz.heap.objs.size<=X.env.locals
 inj:∀x y c,X.env.cells.lookup x=some c->X.env.cells.lookup y=some c->x=y
 has:∀x,(X.env.kindOf x=some .cell\/X.env.kindOf x=some .free)->∃c,X.env.cells.lookup x=some c
 Qh:∀x c,X.fn x=true->X.env.cells.lookup x=some c->X.adz.heap.objs.size<=c
 hd:X.calm=true->X.A.handled=none
 frames:X.A.frames=some X.stack
 Vx:X.stack=X.outer\/(X.stack=X.env::X.outer/\X.env.frame=some X.env.locals)
 exf:∀b∈X.ex,b≠X.env.locals/\∀x c,X.env.cells.lookup x=some c->c≠b
 bs:∀b o,X.base.get? b=some o->X.adz.heap.get? b=some o/\X.adE b=none
 D_:X.base.objs.size<=X.adz.heap.objs.size
 Cz:∀b o,X.base.get? b=some o->b∉X.ex
 IK:∀b∈X.ex,b∉X.fs
 rA:X.adz.heap.FunFrames X.base X.outer
 Ir:∀b∈X.fs,X.adE b=none
structure Inv (X:Cx)(pins:List (Addr×Obj))(σ:List (Option V))(H:Hp)(s:Shared):Prop where
 ok:X.Ok
 os:s.os=X.adz.os
 bare:AllBare s.gens
 base:Un X.fs X.ex X.adE H X.adz.heap s.heap
 loc:∃m,s.heap.Ns X.env.locals m/\∀(i:Nat) (x:Str) (v:V),X.N[i]? = some x->σ[i]? = some (some v)->Vis X.env.scope x->∃u,RelV v u/\Look X.env s.heap m x u
 cell:∀x c,X.env.cells.lookup x=some c->∃v,s.heap.IsCell c v
 free:H X.env.locals=none
 lN:∀x c,X.env.cells.lookup x=some c->H c=none
 pin:∀p∈X.pn++pins,s.heap.get? p.1=some p.2/\H p.1=none/\p.1≠X.env.locals/\p.1∉X.fs/\∀v,p.2.data≠.cell v
 bV:o7 X.prog X.w H s.heap
 len:σ.length=X.N.length
section
variable {X:Cx}{pins:List (Addr×Obj)}{σ:List (Option V)}{H H':Hp}{s:Shared}{h':Heap}
theorem Cx.Ok.abG (ok:X.Ok){b:Addr}{o:Obj}(e:X.base.get? b=some o):b∉X.fs:=λhb=>by
 have:=(ok.rA.mem hb).1;rw[e]at this;cases this
theorem Inv.bs (I:Inv X pins σ H s):∀b o,X.base.get? b=some o->s.heap.get? b=some o/\H b=none:=λb o e =>
 ⟨I.base.keep b o (I.ok.bs b o e).1 (I.ok.bs b o e).2 (I.ok.abG e) (I.ok.Cz b o e),I.base.free b o (I.ok.bs b o e).1 (I.ok.bs b o e).2 (I.ok.Cz b o e)⟩
theorem Inv.bk (I:Inv X pins σ H s):∀b o,X.base.get? b=some o->s.heap.get? b=some o:=λb o e=>(I.bs b o e).1
theorem Inv.mod (I:Inv X pins σ H s):Mod X.K X.mg X.base:=I.ok.mod
theorem Inv.tB (I:Inv X pins σ H s):X.K.In s.heap:=I.ok.mod.Sv.keeps I.bk
theorem Inv.lt (I:Inv X pins σ H s):X.env.locals<s.heap.objs.size:=let ⟨_,hn,_⟩:=I.loc;hn.lt
theorem Inv.sz (I:Inv X pins σ H s):X.adz.heap.objs.size<=s.heap.objs.size:=gU I.ok.above (mH I.lt)
theorem Inv.abF (I:Inv X pins σ H s){a:Addr}(h:s.heap.objs.size<=a):a∉X.fs:=λhb=>by
 obtain⟨_,o,ho,_⟩:=I.ok.rA.mem hb;exact absurd (gP (gm ho) (gU I.sz h)) (kW _)
theorem Inv.Qg (I:Inv X pins σ H s):∀x c,X.env.cells.lookup x=some c->c≠X.env.locals:=λx c e z=>by
 obtain⟨v,o,ho,hd⟩:=I.cell x c e;obtain⟨m,⟨o',es,ep,En,hd',_⟩,_⟩:=I.loc;rw[z,En]at ho;cases ho;rw[hd']at hd;cases hd
theorem Inv.rA (I:Inv X pins σ H s):s.heap.FunFrames X.base X.outer:=by
 have all:∀(l:List Env),(∀b∈Bc l,b∈X.fs)->X.adz.heap.FunFrames X.base l->s.heap.FunFrames X.base l:=by
  intro l
  induction l with
  | nil=>intro _ _;trivial
  | cons env r ih =>
   intro hs hl;obtain⟨hk,⟨L,o,hf,hn,ho,hd⟩,hr⟩:=hl;have hL:L∈X.fs:=hs L (by unfold Bc;rw[pB,hf];exact nQ);obtain⟨sl,e⟩:=I.base.slot L o ho (I.ok.Ir L hL) hL λz=>I.ok.IK L z hL;exact⟨hk,⟨L,_,hf,hn,e,hd⟩,ih (λb hb=>hs b (by unfold Bc;rw[pB,hf];exact kj _ hb)) hr⟩
 exact all X.outer (λ_ hb=>hb) I.ok.rA
theorem Inv.stack (I:Inv X pins σ H s):s.heap.FunFrames X.base X.stack:=by
 rcases I.ok.Vx with e | ⟨e,hf⟩
 ·rw[e];exact I.rA
 ·rw[e];obtain⟨m,hn,_⟩:=I.loc;refine .cons (by rw[I.ok.kind];decide) hf hn ?_ I.rA;exact Heap.get?_none_of_le (gU I.ok.D_ I.ok.above)
theorem Inv.u_ (I:Inv X pins σ H s):∀b∈Bc X.stack,b∈X.env.locals::X.fs:=λb hb=>by
 rcases I.ok.Vx with e | ⟨e,hf⟩
 ·rw[e]at hb;exact kj _ hb
 ·rw[e]at hb;unfold Bc at hb;rw[pB,hf]at hb;exact hb
theorem Inv.z6 (I:Inv X pins σ H s):∀b∈Bc X.stack,H b=none:=λb hb=>by
 rcases gk.mp (I.u_ b hb) with e | hb
 ·rw[e];exact I.free
 ·obtain⟨_,o,ho,_⟩:=I.ok.rA.mem hb;exact I.base.free b o ho (I.ok.Ir b hb) λz=>I.ok.IK b z hb
theorem Inv.step {g':Array GenState}{t':Nat}{d':Drawn}{ch:List Addr}(I:Inv X pins σ H s)
  (Ka:∀b∈ch,(b∈X.ex\/X.adz.heap.objs.size<=b)/\b≠X.env.locals/\(∀x c,X.env.cells.lookup x=some c->c≠b)/\∀p∈X.pn++pins,p.1≠b)
  (keep:∀b o,b≠X.env.locals->b∉X.fs->b∉ch->s.heap.get? b=some o->H b=none->h'.get? b=some o)
  (slot:∀b o,b≠X.env.locals->b∈X.fs->b∉ch->s.heap.get? b=some o->H b=none->∃sl,h'.get? b=some { o with slots:=sl }) (free:∀b o,b∉ch->s.heap.get? b=some o->H b=none->H' b=none)
  (there:∀b o,b∉ch->s.heap.get? b=some o->∃o',h'.get? b=some o')
  (u6:∀b xs,H b=some (.tup xs)->H' b=some (.tup xs)) (uc:∀b o u,H b=some (.frz o u)->H' b=some (.frz o u)) (uH:∀b ps,H b=some (.tbl ps)->∃more,H' b=some (.tbl (ps++more)))
  (ns:∀m,s.heap.Ns X.env.locals m->h'.Ns X.env.locals m) (bV:o7 X.prog X.w H' h') (hg:AllBare g') :
  Inv X pins σ H' { s with heap:=h',gens:=g',drawn:=d',toks:=t' }:=by
 have Zk:∀b o,X.adz.heap.get? b=some o->b≠X.env.locals:=λb o e=>gJ (gP (gm e) I.ok.above);have O6:∀b o,X.adz.heap.get? b=some o->b∉X.ex->b∉ch:=λb o e hx hb=>by
  rcases (Ka b hb).1 with z | z
  ·exact hx z
  ·exact absurd (gP (gm e) z) (kW _)
 have cellK:∀x c,X.env.cells.lookup x=some c->∀v,s.heap.IsCell c v->h'.IsCell c v:=λx c e v zz=>by
  obtain⟨o,ho,hd⟩:=zz;have Zn:c∉ch:=λz=>(Ka c z).2.2.1 x c e rfl;by_cases hc:c∈X.fs
  ·obtain⟨sl,q⟩:=slot c o (I.Qg x c e) hc Zn ho (I.lN x c e);exact⟨_,q,hd⟩
  ·exact⟨o,keep c o (I.Qg x c e) hc Zn ho (I.lN x c e),hd⟩
 refine⟨I.ok,I.os,hg,⟨λb o e n hb hx=>?_,λb o e n hb hx=>?_,λb o e n hx=>?_,λb o e hx=>?_,λb xs e=>u6 b xs (I.base.u6 b xs e),λb o xs e=>uc b o xs (I.base.uc b o xs e),λb ps e=>?_⟩,?_,λx c e=>?_,?_,λx c e=>?_,λp hp=>?_,bV,I.len⟩
 ·exact keep b o (Zk b o e) hb (O6 b o e hx) (I.base.keep b o e n hb hx) (I.base.free b o e n hx)
 ·obtain⟨sl,e1⟩:=I.base.slot b o e n hb hx;obtain⟨sl',e2⟩:=slot b _ (Zk b o e) hb (O6 b o e hx) e1 (I.base.free b o e n hx);exact⟨sl',e2⟩
 ·obtain⟨o',e1⟩:=I.base.there b o e hx;exact free b o' (O6 b o e hx) e1 (I.base.free b o e n hx)
 ·obtain⟨o',e1⟩:=I.base.there b o e hx;exact there b o' (O6 b o e hx) e1
 ·obtain⟨m1,e1⟩:=I.base.uH b ps e;obtain⟨m2,e2⟩:=uH b _ e1;exact⟨m1++m2,by rw[e2,Array.append_assoc]⟩
 ·obtain⟨m,hn,hl⟩:=I.loc;refine⟨m,ns m hn,λi x v e1 e2 e3=>?_⟩;obtain⟨u,r,l⟩:=hl i x v e1 e2 e3;refine⟨u,r,?_⟩;rcases l with l | ⟨k,c,e,z⟩
  ·exact .inl l
  ·exact .inr ⟨k,c,e,cellK x c e _ z⟩
 ·obtain⟨v,z⟩:=I.cell x c e;exact⟨v,cellK x c e v z⟩
 ·obtain⟨m,⟨o,_,_,ho,_⟩,_⟩:=I.loc;exact free _ o (λz=>(Ka _ z).2.1 rfl) ho I.free
 ·obtain⟨v,o,ho,hd⟩:=I.cell x c e;exact free c o (λz=>(Ka c z).2.2.1 x c e rfl) ho (I.lN x c e)
 ·obtain⟨e,n,ne,nf,d⟩:=I.pin p hp;have Zn:p.1∉ch:=λz=>(Ka p.1 z).2.2.2 p hp rfl;exact⟨keep p.1 p.2 ne nf Zn e n,free p.1 p.2 Zn e n,ne,nf,d⟩
theorem Inv.un {t':Nat}(I:Inv X pins σ H s)(u:Un X.fs [] H H' s.heap h')(bV:o7 X.prog X.w H' h'):Inv X pins σ H' { s with heap:=h',toks:=t' }:=by
 obtain⟨m,⟨o,es,ep,ho,r⟩,_⟩:=id I.loc;obtain⟨sl,hL⟩:=u.any ho I.free (by simp);exact I.step (g':=s.gens) (d':=s.drawn) (ch:=[]) (λ_ z=>nomatch z) (λb o _ hb _ e n=>u.keep b o e n hb (by simp)) (λb o _ hb _ e n=>u.slot b o e n hb (by simp)) (λb o _ e n=>u.free b o e n (by simp)) (λb o _ e=>u.there b o e (by simp)) u.u6 u.uc u.uH (λm' hm=>by
  obtain⟨o',es',ep',En,r'⟩:=hm;rw[ho]at En;cases En;exact⟨_,es',ep',hL,r'⟩) bV I.bare
theorem Inv.call {g':Array GenState}{t':Nat}{d':Drawn}{ch:List Addr}(I:Inv X pins σ H s)(u:Un (Bc X.stack) ch H H' s.heap h')(bV:o7 X.prog X.w H' h')(hg:AllBare g')
  (Ka:∀b∈ch,(b∈X.ex\/X.adz.heap.objs.size<=b)/\b≠X.env.locals/\(∀x c,X.env.cells.lookup x=some c->c≠b)/\∀p∈X.pn++pins,p.1≠b) :
  Inv X pins σ H' { s with heap:=h',gens:=g',drawn:=d',toks:=t' }:=by
 obtain⟨m,⟨o,es,ep,ho,r⟩,_⟩:=id I.loc;obtain⟨sl,hL⟩:=u.any ho I.free λz=>(Ka _ z).2.1 rfl;exact I.step (ch:=ch) Ka (λb o hL hb hc e n=>u.keep b o e n (λz=>(gk.mp (I.u_ b z)).elim hL hb) hc) (λb o _ _ hc e n=>u.any e n hc) (λb o hc e n=>u.free b o e n hc) (λb o hc e=>u.there b o e hc) u.u6 u.uc u.uH (λm' hm=>by
  obtain⟨o',es',ep',En,r'⟩:=hm;rw[ho]at En;cases En;exact⟨_,es',ep',hL,r'⟩) bV hg
theorem Inv.turned {t':Nat}{it:Addr}(I:Inv X pins σ H s)(k:∀b o,b≠it->s.heap.get? b=some o->h'.get? b=some o)(hn:H it=none)(hL:it≠X.env.locals)
  (h1:it∈X.ex\/X.adz.heap.objs.size<=it) (h2:∀x c,X.env.cells.lookup x=some c->c≠it) (h3:∀p∈X.pn++pins,p.1≠it):Inv X pins σ H { s with heap:=h',toks:=t' }:=by
 have nit:∀b u,H b=some u->b≠it:=λb u e z=>by rw[z,hn]at e;cases e
 refine I.step (g':=s.gens) (d':=s.drawn) (ch:=[it]) (λb hb=>?_) (λb o _ _ hc e _=>k b o (λz=>hc (by simp[z])) e) (λb o _ _ hc e _=>⟨o.slots,k b o (λz=>hc (by simp[z])) e⟩) (λ_ _ _ _ n=>n)
  (λb o hc e=>⟨o,k b o (λz=>hc (by simp[z])) e⟩) (λ_ _ e=>e) (λ_ _ _ e=>e) (λb ps e=>⟨#[],by rw[e];simp⟩) (λm hm=>?_) (λb u e=>?_) I.bare
 ·have e:b=it:=by simpa using hb
  subst e;exact⟨h1,hL,h2,h3⟩
 ·obtain⟨o,es,ep,ho,r⟩:=hm;exact⟨o,es,ep,k _ o (Ne.symm hL) ho,r⟩
 ·refine (I.bV b u e).vY (λc v hc q=>k c v ?_ q) (λ_ q=>q) λ_ _ q=>q;rcases hc with z | z
  ·rw[z];exact nit b u e
  ·exact nit c _ z
theorem Inv.tok (I:Inv X pins σ H s)(t:Nat):Inv X pins σ H { s with toks:=t }:=I.un (h':=s.heap) (t':=t) Un.refl I.bV
theorem Inv.kept {t':Nat}(I:Inv X pins σ H s)(k:∀b u,s.heap.get? b=some u->h'.get? b=some u):Inv X pins σ H { s with heap:=h',toks:=t' }:=I.un (Un.kept k) (I.bV.kept k)
theorem Inv.laid {a:Addr}{o:HO}{t':Nat}(I:Inv X pins σ H s)(k:∀b u,s.heap.get? b=some u->h'.get? b=some u)(hp:s.heap.objs.size<=a)(new:bZ X.prog X.w (upd H a o) h' a o) :
  Inv X pins σ (upd H a o) { s with heap:=h',toks:=t' }:=I.un (Un.laid k hp (I.bV.fresh hp)) (I.bV.laid k hp new)
theorem Inv.write {x e:Addr}{o:HO}{t':Nat}(I:Inv X pins σ H s)(mu:Mut (H x))(he:e=x\/H e=some (.own x))(k:∀b u,b≠e->s.heap.get? b=some u->h'.get? b=some u)(Wc:∃u,h'.get? e=some u)
  (new:bZ X.prog X.w (upd H x o) h' x o):Inv X pins σ (upd H x o) { s with heap:=h',toks:=t' }:=I.un (Un.write mu he k Wc) (I.bV.write mu he k Wc new)
theorem Inv.Af {O2:List (Addr×Obj)}(I:Inv X pins σ H s)(h:∀p∈O2,s.heap.get? p.1=some p.2/\H p.1=none/\p.1≠X.env.locals/\p.1∉X.fs/\∀v,p.2.data≠.cell v):Inv X O2 σ H s :=
 ⟨I.ok,I.os,I.bare,I.base,I.loc,I.cell,I.free,I.lN,λp hp=>(gw.mp hp).elim (λz=>I.pin p (h_ _ z)) (h p),I.bV,I.len⟩
theorem zof {N:List Str}(hN:N.Nodup){i j:Nat}{x:Str}(a:N[i]? = some x)(b:N[j]? = some x):i=j:=by
 obtain⟨h1,e1⟩:=gj.mp a;obtain⟨h2,e2⟩:=gj.mp b;exact (List.getElem_inj hN).mp (e1.trans e2.symm)
theorem BJ {M:Model}{A:Around}{E:Value->Shared->Prop}{i:Nat}{x:Str}{v:V}{u:Value}{Q:Unit->Shared->Prop}(I:Inv X pins σ H s)(hN:X.N.Nodup)(hi:X.N[i]? = some x)(hx:Loc X.env.scope x)(r:RelV v u)
  (h:∀s',Inv X pins (σ.set i (some v)) H s'->(∃a,Heap.SameBut a s.heap s'.heap/\(a=X.env.locals\/X.env.cells.lookup x=some a))->Q () s') (hf:X.fn x=true\/X.env.scope.names.lookup x=some .local:=by first | exact .inl rfl | exact .inr rfl | assumption):wpAny M A (storeName X.env x u) Q E s:=by
 obtain⟨m,hn,hl⟩:=id I.loc;have acf:(X.env.scope.kind == .class || (X.env.scope.kind == .module && X.env.locals != X.env.globals))=false:=by rw[I.ok.kind];rfl
 have ac1:i<σ.length:=by rw[I.len];exact (gj.mp hi).1
 have Qg:=I.Qg;have tracked:∀{a:Addr} {h':Heap},(∃o,s.heap.get? a=some o/\H a=none)->Heap.SameBut a s.heap h'->o7 X.prog X.w H h':=λ{a h'} ha hs b ob e=>by
  obtain⟨_,_,PJ⟩:=ha;refine (I.bV b ob e).vY (λc w' hc q=>(hs.2 c ?_).trans q) (λ_ q=>q) λ_ _ q=>q;rintro rfl;rcases hc with rfl | hc
  ·rw[PJ]at e;cases e
  ·rw[PJ]at hc;cases hc
 rcases hx with hk | hk
 ·refine wpAny_storeName_local hk hn (λh' hn' hs=>?_) acf;obtain⟨oL,_,_,hoL,_⟩:=id hn;refine h _ ⟨I.ok,I.os,I.bare,⟨λb o e n hb hx=>?_,λb o e n hb hx=>?_,I.base.free,λb o e hx=>?_,I.base.u6,I.base.uc,I.base.uH⟩,⟨_,hn',λj y v' e1 e2 e3=>?_⟩,λy c e=>?_,I.free,I.lN,λp hp=>?_,tracked ⟨oL,hoL,I.free⟩ hs,by simpa using I.len⟩ ⟨_,hs,.inl rfl⟩
  ·exact (hs.2 b (gJ (gP (gm e) I.ok.above))).trans (I.base.keep b o e n hb hx)
  ·obtain⟨sl,e1⟩:=I.base.slot b o e n hb hx;exact⟨sl,(hs.2 b (gJ (gP (gm e) I.ok.above))).trans e1⟩
  ·obtain⟨o',e1⟩:=I.base.there b o e hx;exact⟨o',(hs.2 b (gJ (gP (gm e) I.ok.above))).trans e1⟩
  ·by_cases hj:j=i
   ·subst hj;rw[hi]at e1;cases e1;rw[mJ ac1]at e2;cases e2;exact⟨u,r,.inl ⟨hk,by simp⟩⟩
   ·rw[kY (Ne.symm hj)]at e2;obtain⟨u',r',q⟩:=hl j y v' e1 e2 e3;refine⟨u',r',?_⟩;rcases q with⟨k,e⟩ | ⟨k,c,e,z⟩
    ·refine .inl ⟨k,?_⟩;have:y≠x:=λe=>hj (zof hN e1 (e ▸ hi));simp[this,e]
    ·exact .inr ⟨k,c,e,z.sameBut hs (Qg y c e)⟩
  ·obtain⟨w',z⟩:=I.cell y c e;exact⟨w',z.sameBut hs (Qg y c e)⟩
  ·obtain⟨e,n,ne,nf,d⟩:=I.pin p hp;exact⟨(hs.2 p.1 ne).trans e,n,ne,nf,d⟩
 ·have hfn:X.fn x=true:=by
   rcases hf with z | z
   ·exact z
   ·rw[z]at hk;cases hk
  obtain⟨c,hc⟩:=I.ok.has x (.inl hk);obtain⟨w',z⟩:=I.cell x c hc;refine wpAny_storeName_cell I.ok.kind hk hc z (λh' hc' hs=>?_);obtain⟨oc,hoc,ab4⟩:=id z;refine h { s with heap:=h' } ⟨I.ok,I.os,I.bare,⟨λb o e n hb hx=>?_,λb o e n hb hx=>?_,I.base.free,λb o e hx=>?_,I.base.u6,I.base.uc,I.base.uH⟩,⟨m,hn.sameBut hs (Ne.symm (Qg x c hc)),λj y v' e1 e2 e3=>?_⟩,λy c' e=>?_,I.free,I.lN,λp hp=>?_,tracked ⟨oc,hoc,I.lN x c hc⟩ hs,by simpa using I.len⟩ ⟨c,hs,.inr hc⟩
  ·exact (hs.2 b (gJ (gP (gm e) (I.ok.Qh x c hfn hc)))).trans (I.base.keep b o e n hb hx)
  ·obtain⟨sl,e1⟩:=I.base.slot b o e n hb hx;exact⟨sl,(hs.2 b (gJ (gP (gm e) (I.ok.Qh x c hfn hc)))).trans e1⟩
  ·obtain⟨o',e1⟩:=I.base.there b o e hx;exact⟨o',(hs.2 b (gJ (gP (gm e) (I.ok.Qh x c hfn hc)))).trans e1⟩
  ·by_cases hj:j=i
   ·subst hj;rw[hi]at e1;cases e1;rw[mJ ac1]at e2;cases e2;exact⟨u,r,.inr ⟨.inl hk,c,hc,hc'⟩⟩
   ·rw[kY (Ne.symm hj)]at e2;obtain⟨u',r',q⟩:=hl j y v' e1 e2 e3;refine⟨u',r',?_⟩;rcases q with q | ⟨k,c',e,z'⟩
    ·exact .inl q
    ·refine .inr ⟨k,c',e,z'.sameBut hs ?_⟩;rintro rfl;exact hj (zof hN e1 (I.ok.inj _ _ _ e hc ▸ hi))
  ·by_cases hcc:c'=c
   ·subst hcc;exact⟨_,hc'⟩
   ·obtain⟨w2,z2⟩:=I.cell y c' e;exact⟨w2,z2.sameBut hs hcc⟩
  ·obtain⟨e,n,ne,nf,d⟩:=I.pin p hp;refine⟨(hs.2 p.1 ?_).trans e,n,ne,nf,d⟩;intro q;rw[q,hoc]at e;have q':oc=p.2:=Option.some.inj e;exact d w' (by rw[<-q'];exact ab4)
theorem zoo {M:Model}{A:Around}{E:Value->Shared->Prop}{i:Nat}{x:Str}{v:V}{u:Value}{Q:Unit->Shared->Prop}(I:Inv X pins σ H s)(hN:X.N.Nodup)(hi:X.N[i]? = some x)(hx:Loc X.env.scope x)(r:RelV v u)
  (h:∀s',Inv X pins (σ.set i (some v)) H s'->Q () s') (hf:X.fn x=true\/X.env.scope.names.lookup x=some .local:=by first | exact .inl rfl | exact .inr rfl | assumption):wpAny M A (storeName X.env x u) Q E s :=
 BJ I hN hi hx r (λs' I' _=>h s' I') hf
theorem Inv.aaw {s':Shared}{ch:List Addr}(I:Inv X pins σ H s)(ho:s'.os=s.os)(u:Un (Bc X.stack) ch H H' s.heap s'.heap)(bV:o7 X.prog X.w H' s'.heap)(hg:AllBare s'.gens)
  (Ka:∀b∈ch,(b∈X.ex\/X.adz.heap.objs.size<=b)/\b≠X.env.locals/\(∀x c,X.env.cells.lookup x=some c->c≠b)/\∀p∈X.pn++pins,p.1≠b):Inv X pins σ H' s':=by
 obtain⟨h',g',d',t',o'⟩:=s';have e:o'=s.os:=ho;subst e;exact I.call (g':=g') (t':=t') (d':=d') u bV hg Ka
end
noncomputable abbrev XK:=Value->Option Addr->Hp->Prop
noncomputable abbrev St:=List (Option V)
noncomputable abbrev VK:=V->Hp->Prop
noncomputable abbrev TE:=St->Hp->VK->Prop
noncomputable abbrev TT:=St->Hp->(Bool->Hp->Prop)->Prop
noncomputable abbrev TA:=St->Hp->(List V->Hp->Prop)->Prop
structure Ends where
 nx:St->Hp->Prop
 rt:VK
 bk:St->Hp->Prop:=λ_ _=>False
 ct:St->Hp->Prop:=λ_ _=>False
noncomputable abbrev TS:=Ends->St->Hp->Prop
noncomputable def EP (X:Cx)(pins:List (Addr×Obj))(σ:St)(Q:VK)(u:Value)(s':Shared):Prop:=∃v H',Inv X pins σ H' s'/\RelV v u/\Q v H'
noncomputable def TP (X:Cx)(pins:List (Addr×Obj))(σ:St)(Q:Bool->Hp->Prop)(b:Bool)(s':Shared):Prop:=∃H',Inv X pins σ H' s'/\Q b H'
noncomputable def AP (X:Cx)(pins:List (Addr×Obj))(σ:St)(Q:List V->Hp->Prop)(us:List Value)(s':Shared):Prop:=∃vs H',Inv X pins σ H' s'/\Vals vs us/\Q vs H'
noncomputable def SP (X:Cx)(pins:List (Addr×Obj))(D:Ends)(f:Flow)(s':Shared):Prop :=
 match f with
 | .next=>∃σ' H',Inv X pins σ' H' s'/\D.nx σ' H'
 | .brk=>∃σ' H',Inv X pins σ' H' s'/\D.bk σ' H'
 | .cont=>∃σ' H',Inv X pins σ' H' s'/\D.ct σ' H'
 | .ret u=>∃v σ' H',Inv X pins σ' H' s'/\RelV v u/\D.rt v H'
noncomputable def PE (X:Cx)(e:Expr)(t:TE):Prop :=
 ∀(pins:List (Addr×Obj)) (s:Shared) (σ:St) (H:Hp) (Q:VK),Inv X pins σ H s->t σ H Q->wpAny (model X.prog X.w) X.A (eval e X.env) (EP X pins σ Q) X.xe s
noncomputable def PT (X:Cx)(e:Expr)(t:TT):Prop :=
 ∀(pins:List (Addr×Obj)) (s:Shared) (σ:St) (H:Hp) (Q:Bool->Hp->Prop),Inv X pins σ H s->t σ H Q->wpAny (model X.prog X.w) X.A (isTrue e X.env (eval e X.env)) (TP X pins σ Q) X.xe s
noncomputable def PW (X:Cx)(e:Expr)(t:TT):Prop :=
 ∀(whole:Sem Value) (pins:List (Addr×Obj)) (s:Shared) (σ:St) (H:Hp) (Q:Bool->Hp->Prop),Inv X pins σ H s->t σ H Q->wpAny (model X.prog X.w) X.A (isTrue e X.env whole) (TP X pins σ Q) X.xe s
theorem PW.pt {X:Cx}{e:Expr}{t:TT}(h:PW X e t):PT X e t:=h _
noncomputable def PA (X:Cx)(es:List Expr)(t:TA):Prop :=
 ∀(pos:Pos) (pins:List (Addr×Obj)) (s:Shared) (σ:St) (H:Hp) (Q:List V->Hp->Prop),Inv X pins σ H s->t σ H Q->wpAny (model X.prog X.w) X.A (spliced (backTo pos (starEach es X.env))) (AP X pins σ Q) X.xe s
noncomputable def PS (X:Cx)(st:Stmt)(t:TS):Prop :=
 ∀(pins:List (Addr×Obj)) (s:Shared) (σ:St) (H:Hp) (D:Ends),Inv X pins σ H s->t D σ H->wpAny (model X.prog X.w) X.A (exec st X.env) (SP X pins D) X.xe s
noncomputable def yG (X:Cx)(st:List Stmt)(t:TS):Prop :=
 ∀(pins:List (Addr×Obj)) (s:Shared) (σ:St) (H:Hp) (D:Ends),Inv X pins σ H s->t D σ H->wpAny (model X.prog X.w) X.A (execs st X.env) (SP X pins D) X.xe s
theorem dz {α:Type}{t:Sem α}{Q Q':α->Shared->Prop}{M:Model}{A:Around}{E:Value->Shared->Prop}{s:Shared}(h:wpAny M A t Q E s)(hQ:∀a s,Q a s->Q' a s):wpAny M A t Q' E s:=wpAny_mono h hQ λ_ _ x=>x
section
variable {X:Cx}
noncomputable def aaW (i:Nat):TE:=fun σ H Q=>∃v,σ[i]? = some (some v)/\Q v H
noncomputable def tC (v:V):TE:=λ_ H Q=>Q v H
theorem Gq {i:Nat}{x:Str}{pos:Pos}(hN:X.N[i]? = some x)(hv:Vis X.env.scope x)(hd:(x==("__debug__":Str))=false:=by decide)(xH:(x==("__classdict__":Str))=false:=by decide):PE X (.Name x pos) (aaW i):=by
 intro pins s σ H Q I h;obtain⟨v,e,h⟩:=h;obtain⟨m,hn,hl⟩:=I.loc;obtain⟨u,r,l⟩:=hl i x v hN e hv;have fin:EP X pins σ Q u s:=⟨v,H,I,r,h⟩;rcases l with⟨hk,hm⟩ | ⟨hk,c,hc,PX⟩
 ·exact wpAny_Name (wpAny_loadName_local I.ok.kind hk hn hm fin) hd
 ·rcases hk with hk | hk
  ·exact wpAny_Name (wpAny_loadName_cell I.ok.kind hk hc PX fin) hd
  ·exact wpAny_Name (wpAny_loadName_free I.ok.kind hk hc PX fin xH) hd
theorem RW {i j pos}:PE X (.Constant (.int i) j pos) (tC (.int i)):=λ_ _ _ H _ I h=>wpAny_Constant_int ⟨.int i,H,I.tok _,⟨_,rfl⟩,h⟩
theorem Za {b j pos}:PE X (.Constant (.bool b) j pos) (tC (.bl b)):=λ_ _ _ H _ I h=>Constant_bool ⟨.bl b,H,I,rfl,h⟩
theorem RP {j pos}:PE X (.Constant .none j pos) (tC .non):=λ_ _ _ H _ I h=>Constant_none ⟨.non,H,I,rfl,h⟩
theorem RK {x j pos}:PE X (.Constant (.str x) j pos) (tC (.str x)):=λ_ _ _ H _ I h=>Calls.Constant_str ⟨.str x,H,I.tok _,⟨_,rfl⟩,h⟩
noncomputable def Gl (X:Cx)(x:Str):Prop:=X.env.kindOf x=some .globalImplicit
theorem zlo {E:Value->Shared->Prop}{pins:List (Addr×Obj)}{s:Shared}{σ:St}{H:Hp}{x:Str}{u:Value}{pos:Pos}{Q:Value->Shared->Prop}(I:Inv X pins σ H s)(hg:Gl X x)(hm:X.mg x=some u)(h:Q u s)
  (hd:(x==("__debug__":Str))=false:=by decide):wpAny (model X.prog X.w) X.A (eval (.Name x pos) X.env) Q E s :=
 Calls.Name_function_global I.ok.kind hg (Calls.loadGlobal_global (by rw[I.ok.glob];exact I.mod.glob.keeps I.bk) hm h) hd
theorem Qm {E:Value->Shared->Prop}{pins:List (Addr×Obj)}{s:Shared}{σ:St}{H:Hp}{x:Str}{u:Value}{pos:Pos}{Q:Value->Shared->Prop}(I:Inv X pins σ H s)(hg:Gl X x)(hm:X.mg x=none)(hv:bootBuiltins x=some u)(h:Q u s)
  (hn:x ≠ "__name__":=by decide) (hd:(x==("__debug__":Str))=false:=by decide):wpAny (model X.prog X.w) X.A (eval (.Name x pos) X.env) Q E s:=by
 obtain⟨mb,h1,h2⟩:=I.mod.blt;exact Calls.Name_function_global I.ok.kind hg (Calls.loadGlobal_builtin (by rw[I.ok.glob];exact I.mod.glob.keeps I.bk) hm (by rw[I.ok.blt];exact h1.keeps I.bk) ((h2 x hn).trans hv) h) hd
theorem Ln {x:Str}{v:V}{u:Value}{pos:Pos}(hg:Gl X x)(hm:X.mg x=some u)(r:RelV v u)(hd:(x==("__debug__":Str))=false:=by decide):PE X (.Name x pos) (tC v) :=
 λ_ _ _ H _ I h=>zlo I hg hm ⟨v,H,I,r,h⟩ hd
theorem Ls {x:Str}{v:V}{u:Value}{pos:Pos}(hg:Gl X x)(hm:X.mg x=none)(hv:bootBuiltins x=some u)(r:RelV v u)(hn:x ≠ "__name__":=by decide)(hd:(x==("__debug__":Str))=false:=by decide):PE X (.Name x pos) (tC v) :=
 λ_ _ _ H _ I h=>Qm I hg hm hv ⟨v,H,I,r,h⟩ hn hd
variable {a b:Expr}{ta tb:TE}{pos:Pos}
variable {tA tB':TT}{rest:List Expr}
noncomputable def aa8 (t u:TT):TT:=fun σ H Q=>t σ H λc H1=>if c=true then u σ H1 Q else Q false H1
noncomputable def tOr (t u:TT):TT:=fun σ H Q=>t σ H λc H1=>if c=true then Q true H1 else u σ H1 Q
noncomputable def aa1 (t:TT):TT:=fun σ H Q=>t σ H λc H1=>Q (!c) H1
theorem K6 (ha:PT X a tA):PW X (.BoolOp .And [a] pos) tA:=by
 intro wh pins s σ H Q I h;refine isTrue_and (dz (ha pins s σ H Q I h) λc s1 e=>?_);cases c with
 | true=>exact isTrue_and_nil e
 | false=>exact e
theorem Rp (ha:PT X a tA):PW X (.BoolOp .Or [a] pos) tA:=by
 intro wh pins s σ H Q I h;refine isTrue_or (dz (ha pins s σ H Q I h) λc s1 e=>?_);cases c with
 | false=>exact isTrue_or_nil e
 | true=>exact e
theorem Rq (ha:PT X a tA)(hb:PW X (.BoolOp .And (b::rest) pos) tB'):PW X (.BoolOp .And (a::b::rest) pos) (aa8 tA tB'):=by
 intro wh pins s σ H Q I h;refine isTrue_and (dz (ha pins s σ H _ I h) λc s1 zz=>?_);obtain⟨H1,I1,q1⟩:=zz;cases c with
 | true=>exact hb wh pins s1 σ H1 Q I1 q1
 | false=>exact⟨H1,I1,q1⟩
theorem YT (ha:PT X a tA)(hb:PW X (.BoolOp .Or (b::rest) pos) tB'):PW X (.BoolOp .Or (a::b::rest) pos) (tOr tA tB'):=by
 intro wh pins s σ H Q I h;refine isTrue_or (dz (ha pins s σ H _ I h) λc s1 zz=>?_);obtain⟨H1,I1,q1⟩:=zz;cases c with
 | true=>exact⟨H1,I1,q1⟩
 | false=>exact hb wh pins s1 σ H1 Q I1 q1
theorem Rr (ha:PT X a tA):PT X (.UnaryOp .Not a pos) (aa1 tA):=by
 intro pins s σ H Q I h;exact isTrue_not (ha pins s σ H (λc H1=>Q (!c) H1) I h)
theorem RN {op}{t:TE}(h:PE X a t):PE X (.BoolOp op [a] pos) t:=λpins s σ H Q I hw=>BoolOp_one (h pins s σ H Q I hw)
noncomputable def tIf (t:TT)(ta tb:TE):TE:=fun σ H Q=>t σ H λc H1=>if c=true then ta σ H1 Q else tb σ H1 Q
theorem Gs {c:Expr}(hc:PT X c tA)(ha:PE X a ta)(hb:PE X b tb):PE X (.IfExp c a b pos) (tIf tA ta tb):=by
 intro pins s σ H Q I h;refine wpAny_IfExp (dz (hc pins s σ H _ I h) λd s1 zz=>?_);obtain⟨H1,I1,q1⟩:=zz;cases d with
 | true=>exact ha pins s1 σ H1 Q I1 q1
 | false=>exact hb pins s1 σ H1 Q I1 q1
end
noncomputable def uW (K:PySem.W.Frag)(H:Hp)(a:Addr)(xs:List V):Prop :=
 Rd H a (.lst xs) \/
  ∃(o:Obj) (its:Array Value) (n:Nat),K.lookup a=some o/\o.cls=.type "list"/\o.dict=none/\o.data=.seq its n/\its.size<=sizeLine/\Vals xs its.toList
noncomputable def uo (K:PySem.W.Frag)(H:Hp)(a:Addr)(xs:List V):Prop :=
 Rd H a (.tup xs) \/
  ∃(o:Obj) (its:Array Value) (n:Nat),K.lookup a=some o/\o.cls=.type "tuple"/\o.data=.seq its n/\its.size<=sizeLine/\Vals xs its.toList
noncomputable def acH:Value->Option V
 | .none=>some .non
 | .bool b=>some (.bl b)
 | .int i _=>some (.int i)
 | .str x _=>some (.str x)
 | .bytes b _=>some (.byt b)
 | .float b _=>some (.flt b)
 | .ref a=>some (.ref a)
 | .type n=>some (.ty n)
 | _=>none
theorem RelV.abs {x:V}{u:Value}(r:RelV x u):acH u=some x:=by
 cases x with
 | non=>cases r;rfl
 | bl _=>cases r;rfl
 | int _=>obtain⟨t,rfl⟩:=r;rfl
 | str _=>obtain⟨t,rfl⟩:=r;rfl
 | byt _=>obtain⟨t,rfl⟩:=r;rfl
 | flt _=>obtain⟨t,rfl⟩:=r;rfl
 | ref _=>cases r;rfl
 | ty _=>cases r;rfl
theorem RelV.inj {x y:V}{u:Value}(r:RelV x u)(q:RelV y u):x=y:=Option.some.inj (r.abs.symm.trans q.abs)
theorem Vals.inj:∀{xs ys:List V} {us:List Value},Vals xs us->Vals ys us->xs=ys
 | _,_,_,.nil,.nil=>rfl
 | _,_,_,.cons r t,.cons r' t'=>by rw[r.inj r',Vals.inj t t']
section
variable {X:Cx}{pins:List (Addr×Obj)}{σ:St}{H:Hp}{s:Shared}{a:Addr}{xs ys:List V}
theorem uW.of {K:PySem.W.Frag}(h:H a=some (.lst xs)):uW K H a xs:=.inl (.inl h)
theorem uo.of {K:PySem.W.Frag}(h:H a=some (.tup xs)):uo K H a xs:=.inl (.inl h)
theorem Inv.list (I:Inv X pins σ H s)(h:uW X.K H a xs):∃its:List Value,Vals xs its/\PlainL s.heap a its.toArray/\xs.length<=sizeLine:=by
 rcases h with h | ⟨o,its,n,hk,hc,hd,hs,hz,r⟩
 ·obtain⟨z,its,n,r,e⟩:=h.ok I.bV;exact⟨its,r,⟨_,n,e,rfl,rfl,rfl⟩,z⟩
 ·refine⟨its.toList,r,⟨o,n,I.tB a o hk,hc,hd,by simpa using hs⟩,?_⟩;have e:=r.length;simp only[g_]at e;omega
theorem Inv.tuple (I:Inv X pins σ H s)(h:uo X.K H a xs):∃its:List Value,Vals xs its/\IsTup s.heap a its.toArray/\xs.length<=sizeLine:=by
 rcases h with h | ⟨o,its,n,hk,hc,hs,hz,r⟩
 ·obtain⟨z,its,r,p⟩:=h.ok I.bV;exact⟨its,r,p,z⟩
 ·refine⟨its.toList,r,⟨o,I.tB a o hk,hc,n,by simpa using hs⟩,?_⟩;have e:=r.length;simp only[g_]at e;omega
theorem Inv.G8 (I:Inv X pins σ H s)(h:uW X.K H a xs)(h':uW X.K H a ys):xs=ys:=by
 obtain⟨its,r,⟨o,n,e,_,_,d⟩,_⟩:=I.list h;obtain⟨its',r',⟨o',n',e',_,_,d'⟩,_⟩:=I.list h';rw[e]at e';cases e';rw[d]at d';injection d' with d1 _;have:its=its':=by simpa using congrArg Array.toList d1
 subst this;exact r.inj r'
theorem Inv.wG (I:Inv X pins σ H s)(h:uo X.K H a xs)(h':uo X.K H a ys):xs=ys:=by
 obtain⟨its,r,⟨o,e,_,n,d⟩,_⟩:=I.tuple h;obtain⟨its',r',⟨o',e',_,n',d'⟩,_⟩:=I.tuple h';rw[e]at e';cases e';rw[d]at d';injection d' with d1 _;have:its=its':=by simpa using congrArg Array.toList d1
 subst this;exact r.inj r'
end
noncomputable abbrev Cx.wish (X:Cx)(E:Value->Shared->Prop):Cx:={ X with xe:=E }
noncomputable abbrev Cx.J3 (X:Cx):Cx:=X.wish λ_ _=>False
theorem Cx.Ok.wish {X:Cx}(ok:X.Ok)(E:Value->Shared->Prop):(X.wish E).Ok :=
 ⟨ok.mod,ok.kind,ok.glob,ok.blt,ok.above,ok.inj,ok.has,ok.Qh,ok.hd,ok.frames,ok.Vx,ok.exf,ok.bs,ok.D_,ok.Cz,ok.IK,ok.rA,ok.Ir⟩
theorem Cx.Ok.qt {X:Cx}{E:Value->Shared->Prop}(ok:(X.wish E).Ok):X.Ok :=
 ⟨ok.mod,ok.kind,ok.glob,ok.blt,ok.above,ok.inj,ok.has,ok.Qh,ok.hd,ok.frames,ok.Vx,ok.exf,ok.bs,ok.D_,ok.Cz,ok.IK,ok.rA,ok.Ir⟩
section
variable {X:Cx}{pins:List (Addr×Obj)}{σ:St}{H:Hp}{s:Shared}{E:Value->Shared->Prop}
theorem Inv.wish (I:Inv X pins σ H s)(E:Value->Shared->Prop):Inv (X.wish E) pins σ H s:=⟨I.ok.wish E,I.os,I.bare,I.base,I.loc,I.cell,I.free,I.lN,I.pin,I.bV,I.len⟩
theorem Inv.qt (I:Inv (X.wish E) pins σ H s):Inv X pins σ H s:=⟨I.ok.qt,I.os,I.bare,I.base,I.loc,I.cell,I.free,I.lN,I.pin,I.bV,I.len⟩
theorem SP.qt {D:Ends}{f:Flow}{s':Shared}(h:SP (X.wish E) pins D f s'):SP X pins D f s':=by
 cases f with
 | next=>obtain⟨σ',H',I,q⟩:=h;exact⟨σ',H',I.qt,q⟩
 | brk=>obtain⟨σ',H',I,q⟩:=h;exact⟨σ',H',I.qt,q⟩
 | cont=>obtain⟨σ',H',I,q⟩:=h;exact⟨σ',H',I.qt,q⟩
 | ret u=>obtain⟨v,σ',H',I,r,q⟩:=h;exact⟨v,σ',H',I.qt,r,q⟩
theorem yG.J3 {st:List Stmt}{t:TS}(h:yG X.J3 st t):yG X st t:=λpins s σ H D I hw =>
 wpAny_mono (h pins s σ H D (I.wish _) hw) (λ_ _ q=>q.qt) λ_ _ z=>False.elim z
end
section
variable {X:Cx}{st:Stmt}{rest:List Stmt}{t u:TS}{e:Expr}{te:TE}{pos:Pos}
noncomputable def Yj:TS:=λD σ H=>D.nx σ H
noncomputable def aaY (t u:TS):TS:=λD σ H=>t { D with nx:=u D } σ H
theorem Lb:yG X [] Yj:=λ_ _ σ H _ I h=>wpAny_execs_nil ⟨σ,H,I,h⟩
theorem Gi (h1:PS X st t)(h2:yG X rest u):yG X (st::rest) (aaY t u):=by
 intro pins s σ H D I h;refine wpAny_execs_cons (dz (h1 pins s σ H { D with nx:=u D } I h) λf s1 q=>?_);cases f with
 | next =>
  obtain⟨σ',H',I',q⟩:=q;exact h2 pins s1 σ' H' D I' q
 | ret v=>exact q
 | brk=>exact q
 | cont=>exact q
theorem La (h1:PS X st t):yG X [st] t:=by
 intro pins s σ H D I h;refine wpAny_execs_cons (dz (h1 pins s σ H D I h) λf s1 q=>?_);cases f with
 | next=>exact wpAny_execs_nil q
 | ret v=>exact q
 | brk=>exact q
 | cont=>exact q
theorem Inv.quiet {pins:List (Addr×Obj)}{σ:St}{H:Hp}{s:Shared}(I:Inv X pins σ H s):interactive X.env=false:=by simp[interactive,I.ok.kind]
noncomputable def Yn (te:TE):TS:=λD σ H=>te σ H λ_ H1=>D.nx σ H1
theorem Ld (he:PE X e te)(hs:swapsWith e none pos.line X.env=pure false:=by rfl):PS X (.Expr e pos) (Yn te):=by
 intro pins s σ H D I h;refine wpAny_Expr_any (dz (he pins s σ H _ I h) λv s1 zz=>?_) I.quiet hs;obtain⟨x,H1,I1,r1,q1⟩:=zz;exact⟨σ,H1,I1,q1⟩
noncomputable def aaZ (te:TE):TS:=λD σ H=>te σ H D.rt
theorem Ru (he:PE X e te):PS X (.Return (some e) pos) (aaZ te):=by
 intro pins s σ H D I h;refine wpAny_Return_some (dz (he pins s σ H _ I h) λv s1 zz=>?_);obtain⟨x,H1,I1,r1,q1⟩:=zz;exact⟨x,σ,H1,I1,r1,q1⟩
noncomputable def aa5 (c:TT)(t u:TS):TS:=λD σ H=>c σ H λb H1=>if b=true then t D σ H1 else u D σ H1
theorem YX {c:Expr}{a b:List Stmt}{tc:TT}(hc:PT X c tc)(ha:yG X a t)(hb:yG X b u):PS X (.If c a b pos) (aa5 tc t u):=by
 intro pins s σ H D I h;refine wpAny_If (dz (hc pins s σ H _ I h) λd s1 zz=>?_);obtain⟨H1,I1,q1⟩:=zz;cases d with
 | true=>exact ha pins s1 σ H1 D I1 q1
 | false=>exact hb pins s1 σ H1 D I1 q1
end
noncomputable abbrev TG:=V->St->Hp->(St->Hp->Prop)->Prop
noncomputable abbrev NP:=List V->St->Hp->(St->Hp->Prop)->Prop
noncomputable def PG (X:Cx)(target:Expr)(t:TG):Prop :=
 ∀(pins:List (Addr×Obj)) (s:Shared) (σ:St) (H:Hp) (v:V) (u:Value) (Q:St->Hp->Prop),Inv X pins σ H s->RelV v u->t v σ H Q ->
  wpAny (model X.prog X.w) X.A (assign target X.env u) (λ_ s'=>∃σ' H',Inv X pins σ' H' s'/\Q σ' H') X.xe s
noncomputable def Wy (X:Cx)(ts:List Expr)(t:NP):Prop :=
 ∀(pins:List (Addr×Obj)) (s:Shared) (σ:St) (H:Hp) (vs:List V) (us:List Value) (Q:St->Hp->Prop),Inv X pins σ H s->Vals vs us->t vs σ H Q ->
  wpAny (model X.prog X.w) X.A (assignInOrder ((assignEach ts X.env).map (·.2)) us) (λ_ s'=>∃σ' H',Inv X pins σ' H' s'/\Q σ' H') X.xe s
noncomputable abbrev Jw:=V->V->V->Hp->(Hp->Prop)->Prop
noncomputable def wz (X:Cx)(t:Jw):Prop :=
 ∀(pins:List (Addr×Obj)) (s:Shared) (σ:St) (H:Hp) (o i v:V) (ov iv u:Value) (Q:Hp->Prop),Inv X pins σ H s->RelV o ov->RelV i iv->RelV v u->t o i v H Q ->
  wpAny (model X.prog X.w) X.A (setItem ov iv u) (λ_ s'=>∃H',Inv X pins σ H' s'/\Q H') X.xe s
section
variable {X:Cx}{pos:Pos}
noncomputable def Qc (i:Nat):TG:=λv σ H Q=>Q (σ.set i (some v)) H
theorem Li {i:Nat}{x:Str}(hN:X.N.Nodup)(hi:X.N[i]? = some x)(hx:Loc X.env.scope x)(hf:X.fn x=true\/X.env.scope.names.lookup x=some .local:=by first | exact .inl rfl | exact .inr rfl | assumption):PG X (.Name x pos) (Qc i):=by
 intro pins s σ H v u Q I r h;exact wpAny_assign_Name (zoo I hN hi hx r (λs' I'=>⟨_,H,I',h⟩) hf)
noncomputable def acp:NP:=λvs σ H Q=>vs=[]/\Q σ H
noncomputable def aaj (t:TG)(u:NP):NP:=λvs σ H Q=>∃v r,vs=v::r/\t v σ H fun σ' H'=>u r σ' H' Q
theorem Lh:Wy X [] acp:=by
 intro pins s σ H vs us Q I r h;obtain⟨e,h⟩:=h;subst e;cases r;exact assignInOrder_nil ⟨σ,H,I,h⟩
theorem Gp {e:Expr}{es:List Expr}{t:TG}{u:NP}(h1:PG X e t)(h2:Wy X es u)
  (hs:(assignEach (e::es) X.env).map (·.2)=assign e X.env::(assignEach es X.env).map (·.2):=by rfl):Wy X (e::es) (aaj t u):=by
 intro pins s σ H vs us Q I r h;obtain⟨v,vr,e1,h⟩:=h;subst e1;cases r with
 | cons r rr =>
  rw[hs];refine assignInOrder_cons (dz (h1 pins s σ H _ _ _ I r h) λ_ s1 zz=>?_);obtain⟨σ1,H1,I1,q1⟩:=zz;exact h2 pins s1 σ1 H1 _ _ Q I1 rr q1
noncomputable def acn (K:PySem.W.Frag)(n:Nat)(t:NP):TG:=λv σ H Q=>∃a xs,v=.ref a/\uo K H a xs/\xs.length=n/\t xs σ H Q
theorem RB {es:List Expr}{k:Nat}{t:NP}{n:Nat}(hc:X.calm=true)(h:Wy X es t)
  (hn:(assignEach es X.env).length=n:=by rfl) (wO:(assignEach es X.env).findIdx? (·.1)=none:=by rfl):PG X (.Tuple es k pos) (acn X.K n t):=by
 intro pins s σ H v u Q I r hw;obtain⟨a,xs,e1,hq,hl,hw⟩:=hw;subst e1;cases r;obtain⟨its,rv,ht,hz⟩:=I.tuple hq;refine assign_Tuple_tuple (I.ok.hd hc) ht (by simp[hn,<-hl,rv.length]) wO λh' hx=>?_;have I1:Inv X pins σ H { s with heap:=h' }:=I.kept (t':=s.toks) λb o e=>hx b o (gJ (gm e)) e;exact h pins _ σ H xs _ Q I1 (by simpa using rv) hw
noncomputable def aco (to ti:TE)(t:Jw):TG:=λv σ H Q=>to σ H λo H1=>ti σ H1 λi H2=>t o i v H2 λH3=>Q σ H3
theorem RC {o i:Expr}{to ti:TE}{t:Jw}(ho:PE X o to)(hi:PE X i ti)(hs:wz X t)
  (ha:∀v,assign (.Subscript o i pos) X.env v=(do
   let ov <-holding [v] (eval o X.env)
   let iv <-holding [v,ov] (eval i X.env)
   standAt pos
   holding [v,ov,iv] (setItem ov iv v)
   release [v,ov,iv] []):=by intro _;rfl):PG X (.Subscript o i pos) (aco to ti t):=by
 intro pins s σ H v u Q I r h;rw[ha];refine wpAny_bind (wpAny_holding (dz (ho pins s σ H _ I h) λov s1 zz=>?_));obtain⟨x,H1,I1,r1,q1⟩:=zz;refine wpAny_bind (wpAny_holding (dz (hi pins s1 σ H1 _ I1 q1) λiv s2 zz=>?_));obtain⟨y,H2,I2,r2,q2⟩:=zz;refine wpAny_bind (wpAny_standAt (wpAny_bind (wpAny_holding (dz (hs pins s2 σ H2 x y v ov iv u _ I2 r1 r2 r q2) λ_ s3 zz=>?_))));obtain⟨H3,I3,q3⟩:=zz;exact wpAny_release ⟨σ,H3,I3,q3⟩
noncomputable def Yr (te:TE)(g:TG):TS:=λD σ H=>te σ H λx H1=>g x σ H1 D.nx
theorem Rx {tg e:Expr}{te:TE}{g:TG}(he:PE X e te)(hg:PG X tg g)(hs:swapsWithSole [tg] e pos.line X.env=pure false:=by rfl)(hw:swappedStores [tg] e X.env=pure none:=by rfl)
  (h1:(assignEach [tg] X.env).map (·.2)=[assign tg X.env]:=by rfl):PS X (.Assign [tg] e pos) (Yr te g):=by
 intro pins s σ H D I h;refine wpAny_Assign_stores (dz (he pins s σ H _ I h) λv s1 zz=>?_) hs hw;obtain⟨x,H1,I1,r1,q1⟩:=zz;rw[h1];exact dz (hg pins s1 σ H1 x v _ I1 r1 q1) λ_ s2 q=>q
theorem Rt {i:Nat}{x:Str}{e:Expr}{te:TE}{pos':Pos}(hN:X.N.Nodup)(hi:X.N[i]? = some x)(hx:Loc X.env.scope x)(he:PE X e te)(hs:swapsWith e (some (.Name x pos')) pos.line X.env=pure false:=by rfl)(hf:X.fn x=true\/X.env.scope.names.lookup x=some .local:=by first | exact .inl rfl | exact .inr rfl | assumption) :
  PS X (.Assign [.Name x pos'] e pos) (Yr te (Qc i)):=by
 intro pins s σ H D I h;refine wpAny_Assign_Name (dz (he pins s σ H _ I h) λv s1 zz=>?_) hs;obtain⟨y,H1,I1,r1,q1⟩:=zz;exact zoo I1 hN hi hx r1 (λs2 I2=>⟨_,H1,I2,q1⟩) hf
end
section
variable {X:Cx}{pos:Pos}
noncomputable def QX (c:TT)(tb:TS):TS:=λD σ H=>∃W:Nat->St->Hp->Prop,(∃m,W m σ H)/\∀m σ H,W m σ H ->
 c σ H λb H1=>if b=true then ∃N:St->Hp->Prop,(∀σ' H',N σ' H'->∃m',m'<m/\W m' σ' H')/\tb { D with nx:=N,ct:=N,bk:=D.nx } σ H1 else D.nx σ H1
theorem Gj {c:Expr}{body:List Stmt}{tc:TT}{tb:TS}(hp:PassesOwn (model X.prog X.w) X.A X.env X.xe)(hc:PT X c tc)(hb:yG X body tb):PS X (.While c body [] pos) (QX tc tb):=by
 intro pins s σ H D I h;obtain⟨W,⟨m0,w0⟩,turn⟩:=h;refine wpAny_While (codeAny_whileLoop (λn s'=>∃σ' H',Inv X pins σ' H' s'/\W n σ' H') ?_ m0 ⟨σ,H,I,w0⟩);rintro n s1 ⟨σ1,H1,I1,w1⟩;refine wpAny_passesOwn hp (dz (hc pins s1 σ1 H1 _ I1 (turn n σ1 H1 w1)) λb s2 zz=>?_);obtain⟨H2,I2,q2⟩:=zz;cases b with
 | true =>
  obtain⟨N,hN,q2⟩:=q2;rw[if_pos rfl];refine wpAny_passesOwn hp (dz (hb pins s2 σ1 H2 _ I2 q2) λf s3 q3=>?_);cases f with
  | next =>
   obtain⟨σ3,H3,I3,n3⟩:=q3;obtain⟨m',hm,w3⟩:=hN σ3 H3 n3;exact⟨m',hm,σ3,H3,I3,w3⟩
  | cont =>
   obtain⟨σ3,H3,I3,n3⟩:=q3;obtain⟨m',hm,w3⟩:=hN σ3 H3 n3;exact⟨m',hm,σ3,H3,I3,w3⟩
  | brk=>exact q3
  | ret v=>exact q3
 | false =>
  rw[if_neg mW];exact wpAny_execs_nil ⟨σ1,H2,I2,q2⟩
end
structure It where
 go:Nat->Hp->Prop
 X8:Nat->Hp->V->Hp->Prop
 stop:Nat->Hp->Prop
noncomputable def ur (X:Cx)(pins:List (Addr×Obj))(H:Hp)(b:Addr):Prop :=
 H b=none/\b≠X.env.locals/\b∉X.fs/\(b∈X.ex\/X.adz.heap.objs.size<=b)/\(∀x c,X.env.cells.lookup x=some c->c≠b)/\∀p∈X.pn++pins,p.1≠b
theorem Inv.zF {X:Cx}{pins:List (Addr×Obj)}{σ:St}{H H':Hp}{s:Shared}{b:Addr}(I:Inv X pins σ H s)(hb:s.heap.objs.size<=b)(hn:H' b=none):ur X pins H' b:=by
 refine⟨hn,Nat.ne_of_gt (gP I.lt hb),I.abF hb,.inr (gU I.sz hb),λx c e z=>?_,λp hp z=>?_⟩
 ·obtain⟨v,q⟩:=I.cell x c e;exact absurd (gP q.lt (by rw[z];exact hb)) (kW _)
 ·exact absurd (gP (gm (I.pin p hp).1) (by rw[z];exact hb)) (kW _)
structure Turn (P:Program)(w:World)(K:PySem.W.Frag)(tg:Expr)(J:It)(fp:List Addr)(it:Addr)(tn:Nat->Heap->Prop):Prop where
 mem:it∈fp
 obj:∀i h,tn i h->∀b∈fp,∃o,h.get? b=some o/\∀v,o.data≠.cell v
 keep:∀i h h',tn i h->(∀b∈fp,∀o,h.get? b=some o->h'.get? b=some o)->tn i h'
 item:∀(X:Cx),X.prog=P->X.w=w->X.K=K->X.calm=true->∀(i:Nat) (pins:List (Addr×Obj)) (s:Shared) (σ:St) (H:Hp) (E:Value->Shared->Prop),Inv X pins σ H s->(∀b∈fp,ur X pins H b)->tn i s.heap->J.go i H ->
  wpAny (model P w) X.A (pyNext (.ref it)) (λr s1=>∃u,r=some u /\
   wpAny (model P w) X.A (letOwnedTupleGo tg (.ref it) u) (λ_ s2=>∃x H',Inv X pins σ H' s2/\RelV x u/\J.X8 i H x H'/\tn (i+1) s2.heap/\∀b∈fp,H' b=none) E s1) E s
 done:∀(X:Cx),X.prog=P->X.w=w->X.K=K->X.calm=true->∀(i:Nat) (pins:List (Addr×Obj)) (s:Shared) (σ:St) (H:Hp) (E:Value->Shared->Prop),Inv X pins σ H s->(∀b∈fp,ur X pins H b)->tn i s.heap->J.stop i H ->
  wpAny (model P w) X.A (pyNext (.ref it)) (λr s1=>r=none/\Inv X pins σ H s1) E s
 self:∀(A:Around) (i:Nat) (s:Shared) (Q:Value->Shared->Prop) (E:Value->Shared->Prop),tn i s.heap->Q (.ref it) s->wpAny (model P w) A (pyIter (.ref it)) Q E s
noncomputable abbrev TI:=St->Hp->(It->Hp->Prop)->Prop
noncomputable def PIE (X:Cx)(pins:List (Addr×Obj))(σ:St)(tg:Expr)(R:It->Hp->Prop)(itv:Value)(s2:Shared):Prop :=
 ∃(it:Addr) (fp:List Addr) (tn:Nat->Heap->Prop) (J:It) (H':Hp),itv=.ref it/\Inv X pins σ H' s2/\Turn X.prog X.w X.K tg J fp it tn/\tn 0 s2.heap/\(∀b∈fp,ur X pins H' b)/\R J H'
noncomputable def PI (X:Cx)(tg iter:Expr)(wi:TI):Prop :=
 ∀(pins:List (Addr×Obj)) (s:Shared) (σ:St) (H:Hp) (R:It->Hp->Prop),Inv X pins σ H s->wi σ H R ->
  wpAny (model X.prog X.w) X.A (eval iter X.env) (λv s1=>wpAny (model X.prog X.w) X.A (pyIter v) (PIE X pins σ tg R) X.xe s1) X.xe s
theorem wR {M:Model}{A:Around}{E:Value->Shared->Prop}{s:Shared}{tg:Expr}{it:Addr}{u:Value}{o:Obj}{n:String}{vs:Array Value}{Q:Unit->Shared->Prop}(ho:s.heap.get? it=some o)(hc:o.cls=.type n)(hd:o.data=.fields vs)
  (hn:["enumerate","zip","dict_itemiterator","dict_reverseitemiterator","odict_iterator","itertools.zip_longest","itertools.pairwise"].contains n=false) (hQ:Q () s):wpAny M A (letOwnedTupleGo tg (.ref it) u) Q E s:=by
 unfold letOwnedTupleGo;cases tg<;>first
  | exact wpAny_pure hQ
  | (cases u<;>first
    | exact wpAny_pure hQ
    | (refine wpAny_bind (wpAny_load ho ?_)
       rw[hc,hd];show wpAny M A (if (["enumerate","zip","dict_itemiterator","dict_reverseitemiterator","odict_iterator","itertools.zip_longest","itertools.pairwise"].contains n && vs[0]? == some (rawInt _))=true then _ else _) Q E s;rw[if_neg (by intro h;rw[hn,Bool.false_and]at h;cases h)];exact wpAny_pure hQ))
noncomputable def Itl (K:PySem.W.Frag)(a:Addr):It :=
 ⟨λi H=>∃xs x,uW K H a xs/\xs[i]? = some x,λi H x H'=>H'=H/\∀xs,uW K H a xs->xs[i]? = some x,λi H=>∃xs,uW K H a xs/\xs.length<=i⟩
noncomputable def Itt (K:PySem.W.Frag)(a:Addr):It :=
 ⟨λi H=>∃xs x,uo K H a xs/\xs[i]? = some x,λi H x H'=>H'=H/\∀xs,uo K H a xs->xs[i]? = some x,λi H=>∃xs,uo K H a xs/\xs.length<=i⟩
noncomputable def Itr (lo:Int)(n:Nat):It:=⟨λi _=>i<n,λi H x H'=>H'=H/\x=.int (lo+i),λi _=>n<=i⟩
theorem Bu {P:Program}{w:World}{K:PySem.W.Frag}{tg:Expr}(a it:Addr):Turn P w K tg (Itl K a) [it] it (λi h=>h.IsListIter it a i) where
 mem:=by simp
 obj:=λi h st b hb=>by
  have e:b=it:=by simpa using hb
  subst e;obtain⟨o,e,c,d⟩:=st;exact⟨o,e,λv z=>by rw[d]at z;cases z⟩
 keep:=λi h h' st k=>st.at λo e=>k it (by simp) o e
 item:=by
  intro X hP hw hK hc i pins s σ H E I hf st hg;subst hP hw hK;obtain⟨xs,x,hq,hx⟩:=hg;obtain⟨its,rv,p,hz⟩:=I.list hq;obtain⟨u,hu,ru⟩:=rv.get hx;obtain⟨f0,f1,f2,f3,f4,f5⟩:=hf it (by simp);refine wpAny_pyNext_list_item st p.isList (x:=u) (by simpa using hu) λh' st' sb=>?_;have I1:Inv X pins σ H { s with heap:=h' }:=I.turned (t':=s.toks) (λb o hb e=>(sb.2 b hb).trans e) f0 f1 f3 f4 f5;obtain⟨o,e,c,d⟩:=id st';exact⟨u,rfl,wR (s:={ s with heap:=h' }) e c d (by decide) ⟨x,H,I1,ru,⟨rfl,λys hy=>by rw[I.G8 hy hq];exact hx⟩,st',λb hb=>(hf b hb).1⟩⟩
 done:=by
  intro X hP hw hK hc i pins s σ H E I hf st hg;subst hP hw hK;obtain⟨xs,hq,hx⟩:=hg;obtain⟨its,rv,p,hz⟩:=I.list hq;obtain⟨f0,f1,f2,f3,f4,f5⟩:=hf it (by simp);have hl:=rv.length;exact wpAny_pyNext_list_end (I.ok.hd hc) st p.isList (by simp;omega) λh' eb=>⟨rfl,I.turned (t':=s.toks) (λb o hb e=>eb b o hb e) f0 f1 f3 f4 f5⟩
 self:=λ_ _ _ _ _ st h=>wpAny_pyIter_listiter st h
theorem zot {P:Program}{w:World}{K:PySem.W.Frag}{tg:Expr}(a it:Addr):Turn P w K tg (Itt K a) [it] it (λi h=>h.IsTupleIter it a i) where
 mem:=by simp
 obj:=λi h st b hb=>by
  have e:b=it:=by simpa using hb
  subst e;obtain⟨o,e,c,d⟩:=st;exact⟨o,e,λv z=>by rw[d]at z;cases z⟩
 keep:=λi h h' st k=>st.at λo e=>k it (by simp) o e
 item:=by
  intro X hP hw hK hc i pins s σ H E I hf st hg;subst hP hw hK;obtain⟨xs,x,hq,hx⟩:=hg;obtain⟨its,rv,p,hz⟩:=I.tuple hq;obtain⟨u,hu,ru⟩:=rv.get hx;obtain⟨f0,f1,f2,f3,f4,f5⟩:=hf it (by simp);refine wpAny_pyNext_tuple_item st (show s.heap.IsTuple a its.toArray from p) (x:=u) (by simpa using hu) λh' st' sb=>?_;have I1:Inv X pins σ H { s with heap:=h' }:=I.turned (t':=s.toks) (λb o hb e=>(sb.2 b hb).trans e) f0 f1 f3 f4 f5;obtain⟨o,e,c,d⟩:=id st';exact⟨u,rfl,wR (s:={ s with heap:=h' }) e c d (by decide) ⟨x,H,I1,ru,⟨rfl,λys hy=>by rw[I.wG hy hq];exact hx⟩,st',λb hb=>(hf b hb).1⟩⟩
 done:=by
  intro X hP hw hK hc i pins s σ H E I hf st hg;subst hP hw hK;obtain⟨xs,hq,hx⟩:=hg;obtain⟨its,rv,p,hz⟩:=I.tuple hq;obtain⟨f0,f1,f2,f3,f4,f5⟩:=hf it (by simp);have hl:=rv.length;exact wpAny_pyNext_tuple_end (I.ok.hd hc) st (show s.heap.IsTuple a its.toArray from p) (by simp;omega) λh' eb=>⟨rfl,I.turned (t':=s.toks) (λb o hb e=>eb b o hb e) f0 f1 f3 f4 f5⟩
 self:=λ_ _ _ _ _ st h=>wpAny_pyIter_tupleiter st h
theorem zn0 {P:Program}{w:World}{K:PySem.W.Frag}{tg:Expr}(it:Addr)(lo:Int)(n:Nat):Turn P w K tg (Itr lo n) [it] it (λi h=>IsRangeIter h it (lo+(i:Nat)*1) ((n:Int) - (i:Nat)) 1) where
 mem:=by simp
 obj:=λi h st b hb=>by
  have e:b=it:=by simpa using hb
  subst e;exact⟨_,st,λv z=>by
   have z':Data.fields _=Data.cell v:=z;cases z'⟩
 keep:=λi h h' st k=>k it (by simp) _ st
 item:=by
  intro X hP hw hK hc i pins s σ H E I hf st hg;subst hP hw hK;obtain⟨f0,f1,f2,f3,f4,f5⟩:=hf it (by simp);have W:=Walks.range (prog:=X.prog) (w:=X.w) (I.ok.hd hc) it lo 1 n;refine W.item i s _ _ hg st λv h' tk hv st' kk=>?_;obtain⟨t,rfl⟩:=hv;have I1:Inv X pins σ H { s with heap:=h',toks:=tk }:=I.turned (λb o hb e=>kk b o (by simpa using hb) e) f0 f1 f3 f4 f5;refine⟨_,rfl,wR (s:={ s with heap:=h',toks:=tk }) (n:="range_iterator") st' rfl rfl (by decide) ⟨.int (lo+i),H,I1,⟨t,?_⟩,⟨rfl,rfl⟩,st',λb hb=>(hf b hb).1⟩⟩;rw[Int.mul_one]
 done:=by
  intro X hP hw hK hc i pins s σ H E I hf st hg;subst hP hw hK;obtain⟨f0,f1,f2,f3,f4,f5⟩:=hf it (by simp);exact wpAny_pyNext_range_end (I.ok.hd hc) st (by have:n<=i:=hg;omega) λh' eb=>⟨rfl,I.turned (t':=s.toks) (λb o hb e=>eb b o hb e) f0 f1 f3 f4 f5⟩
 self:=λ_ _ _ _ _ st h=>wpAny_pyIter_rangeiter st h
section
variable {X:Cx}{tg:Expr}
noncomputable def ZK (K:PySem.W.Frag)(tl:TE):TI:=fun σ H R=>tl σ H λx H1=>∃a,x=.ref a/\(∃xs,uW K H1 a xs)/\R (Itl K a) H1
noncomputable def abP (K:PySem.W.Frag)(tl:TE):TI:=fun σ H R=>tl σ H λx H1=>∃a,x=.ref a/\(∃xs,uo K H1 a xs)/\R (Itt K a) H1
theorem Lg {l:Expr}{tl:TE}(hl:PE X l tl):PI X tg l (ZK X.K tl):=by
 intro pins s σ H R I h;refine dz (hl pins s σ H _ I h) λv s1 zz=>?_;obtain⟨x,H1,I1,r1,q1⟩:=zz;obtain⟨a,e,⟨xs,hq⟩,q⟩:=q1;subst e;cases r1;obtain⟨its,rv,p,hz⟩:=I1.list hq;refine wpAny_pyIter_list p.isList ?_;refine⟨s1.heap.objs.size,[s1.heap.objs.size],_,_,H1,rfl,I1.kept (t':=s1.toks) λb o e=>gq _ e,Bu a _,⟨_,gH _ rfl,rfl,rfl⟩,λb hb=>?_,q⟩;have e:b=s1.heap.objs.size:=by simpa using hb
 subst e;exact I1.zF (gh _) (I1.bV.fresh (gh _))
theorem Ry {l:Expr}{tl:TE}(hl:PE X l tl):PI X tg l (abP X.K tl):=by
 intro pins s σ H R I h;refine dz (hl pins s σ H _ I h) λv s1 zz=>?_;obtain⟨x,H1,I1,r1,q1⟩:=zz;obtain⟨a,e,⟨xs,hq⟩,q⟩:=q1;subst e;cases r1;obtain⟨its,rv,p,hz⟩:=I1.tuple hq;refine wpAny_pyIter_tuple (show s1.heap.IsTuple a its.toArray from p) ?_;refine⟨s1.heap.objs.size,[s1.heap.objs.size],_,_,H1,rfl,I1.kept (t':=s1.toks) λb o e=>gq _ e,zot a _,⟨_,gH _ rfl,rfl,rfl⟩,λb hb=>?_,q⟩;have e:b=s1.heap.objs.size:=by simpa using hb
 subst e;exact I1.zF (gh _) (I1.bV.fresh (gh _))
theorem Gb {pins:List (Addr×Obj)}{σ:St}{H:Hp}{s:Shared}{R:It->Hp->Prop}{E:Value->Shared->Prop}{lo hi:Int}{t u v:Tok}{tk:Nat}(I:Inv X pins σ H s)(h1:-(2 ^ 62)<=lo)(h2:lo<2 ^ 62)(h3:-(2 ^ 62)<=hi)(h4:hi<2 ^ 62)
  (q:R (Itr lo (hi - lo).toNat) H):wpAny (model X.prog X.w) X.A (pyIter (.ref s.heap.objs.size)) (PIE X pins σ tg R) E { s with heap:=s.heap.push { cls:=.type "range",data:=.fields #[.int lo t,.int hi u,.int 1 v] },toks:=tk }:=by
 refine wpAny_pyIter_range (IsRange.new ..) (small_one h1 h2 h3 h4) ?_;have I1:Inv X pins σ H { s with heap:=s.heap.push { cls:=.type "range",data:=.fields #[.int lo t,.int hi u,.int 1 v] },toks:=tk }:=I.kept λb o e=>gq _ e;refine⟨(s.heap.push { cls:=.type "range",data:=.fields #[.int lo t,.int hi u,.int 1 v] }).objs.size,[(s.heap.push { cls:=.type "range",data:=.fields #[.int lo t,.int hi u,.int 1 v] }).objs.size],_,_,H,rfl,
  I1.kept (t':=tk) λb o e=>gq _ e,zn0 _ lo (hi - lo).toNat,?_,λb hb=>?_,q⟩
 ·have e1:lo+((0:Nat):Int)*1=lo:=by simp
  have e2:(((hi - lo).toNat:Nat):Int) - ((0:Nat):Int)=Builtin.Range.rangeSize lo hi 1:=by rw[rangeSize_one];split<;>omega
  show IsRangeIter _ _ (lo+((0:Nat):Int)*1) ((((hi - lo).toNat:Nat):Int) - ((0:Nat):Int)) 1;rw[e1,e2];exact gH _ rfl
 ·have e:b=(s.heap.push { cls:=.type "range",data:=.fields #[.int lo t,.int hi u,.int 1 v] }).objs.size:=by simpa using hb
  subst e;exact I1.zF (gh _) (I1.bV.fresh (gh _))
noncomputable def ZJ (ta:TA):TI:=fun σ H R=>ta σ H λvs H1=>∃j:Int,vs=[.int j]/\-(2 ^ 62)<=j/\j<2 ^ 62/\R (Itr 0 j.toNat) H1
theorem Cp {a:Expr}{ta:TA}{p pos:Pos}(hg:Gl X "range")(hm:X.mg "range" = none)(ha:PA X [a] ta)(hs:starEach [a] X.env=[(false,eval a X.env)]:=by rfl):PI X tg (.Call (.Name "range" p) [a] [] pos) (ZJ ta):=by
 intro pins s σ H R I h;refine Call_ (Qm I hg hm boot_range (PyProof.Rows.callWith_type1 (dz (ha pos pins s σ H _ I h) λus s1 zz=>?_) hs rfl));obtain⟨vs,H1,I1,r1,q1⟩:=zz;obtain⟨j,e,q1,q2,q⟩:=q1;subst e;cases r1 with
 | cons r rr =>
  cases rr;obtain⟨t,rfl⟩:=r;exact call_range_1 (Gb I1 (by omega) (by omega) q1 q2 (by simpa using q))
noncomputable def aa6 (wi:TI)(g:TG)(tb:TS):TS:=λD σ H=>wi σ H λJ H1=>∃W:Nat->Nat->St->Hp->Prop,(∃m,W 0 m σ H1)/\∀i m σ H,W i m σ H ->
 (J.stop i H/\D.nx σ H)\/(J.go i H/\∃N:St->Hp->Prop,(∀σ' H',N σ' H'->∃m',m'<m/\W (i+1) m' σ' H')/\∀x H',J.X8 i H x H'->g x σ H' fun σ2 H2=>tb { D with nx:=N,ct:=N,bk:=D.nx } σ2 H2)
noncomputable def vd (fp:List Addr)(h:Heap):List (Addr×Obj):=fp.filterMap λb=>(h.get? b).map λo=>(b,o)
theorem zf6 {fp:List Addr}{h:Heap}{b:Addr}{o:Obj}(hb:b∈fp)(e:h.get? b=some o):(b,o)∈vd fp h:=pQ.mpr ⟨b,hb,by rw[e];rfl⟩
theorem Cw {fp:List Addr}{h:Heap}{p:Addr×Obj}(hp:p∈vd fp h):p.1∈fp/\h.get? p.1=some p.2:=by
 obtain⟨b,hb,e⟩:=pQ.mp hp;cases q:h.get? b with
 | none=>rw[q]at e;cases e
 | some o =>
  rw[q]at e;have e':(b,o)=p:=Option.some.inj e;subst e';exact⟨hb,q⟩
theorem Inv.pinned {pins:List (Addr×Obj)}{σ:St}{H:Hp}{s:Shared}{fp:List Addr}(I:Inv X pins σ H s)(hf:∀b∈fp,ur X pins H b)(ho:∀b∈fp,∃o,s.heap.get? b=some o/\∀v,o.data≠.cell v):Inv X (pins++vd fp s.heap) σ H s :=
 I.Af λp hp=>(gw.mp hp).elim (λz=>I.pin p (kI _ z)) λz=>by
  obtain⟨hb,e⟩:=Cw z;obtain⟨f0,f1,f2,_⟩:=hf p.1 hb;obtain⟨o,e',d⟩:=ho p.1 hb;rw[e]at e';cases e';exact⟨e,f0,f1,f2,d⟩
theorem Inv.sV {pins pl:List (Addr×Obj)}{σ:St}{H:Hp}{s:Shared}(I:Inv X (pins++pl) σ H s):Inv X pins σ H s:=I.Af λp hp=>I.pin p (kI _ (h_ _ hp))
theorem Rv {iter:Expr}{body:List Stmt}{wi:TI}{g:TG}{tb:TS}{pos:Pos}(hp:PassesOwn (model X.prog X.w) X.A X.env X.xe)(hc:X.calm=true)(hi:PI X tg iter wi)(hg:PG X tg g)(hb:yG X body tb)
  (hs:∀x,foldedSetIterable iter X.env x=pure x:=by intro _;rfl):PS X (.For tg iter body [] pos) (aa6 wi g tb):=by
 intro pins s σ H D I h;refine wpAny_For (dz (hi pins s σ H _ I h) λv s1 h1=>dz h1 λitv s2 h2=>?_) hs;obtain⟨it,fp,tn,J,H2,e,I2,T,st2,f2,W,⟨m0,w0⟩,turn⟩:=h2;subst e

 have stat:∀{H':Hp},(∀b∈fp,H' b=none)->∀b∈fp,ur X pins H' b:=λhn b hb=>⟨hn b hb,(f2 b hb).2⟩;refine codeAny_forLoop_any (λn s'=>∃i σ' H',Inv X pins σ' H' s'/\tn i s'.heap/\(∀b∈fp,H' b=none)/\W i n σ' H') ?_ m0 ⟨0,σ,H2,I2,st2,λb hb=>(f2 b hb).1,w0⟩;rintro n s3 ⟨i,σ3,H3,I3,o9,fr3,w3⟩;rcases turn i n σ3 H3 w3 with⟨stop,qn⟩ | ⟨go,N,hN,step⟩
 ·refine wpAny_passesOwn hp (dz (T.done X rfl rfl rfl hc i pins s3 σ3 H3 X.xe I3 (stat fr3) o9 stop) λr s4 zz=>?_);obtain⟨hr,I4⟩:=zz;subst hr;exact wpAny_execs_nil ⟨σ3,H3,I4,qn⟩
 ·refine wpAny_passesOwn hp (dz (T.item X rfl rfl rfl hc i pins s3 σ3 H3 X.xe I3 (stat fr3) o9 go) λr s4 zz=>?_);obtain⟨u,hr,h4⟩:=zz;subst hr;refine wpAny_passesOwn hp (dz h4 λ_ s5 zz=>?_);obtain⟨x,H5,I5,r5,y5,JV,fr5⟩:=zz;have I5':=I5.pinned (stat fr5) (T.obj _ _ JV);refine wpAny_passesOwn hp (dz (hg _ s5 σ3 H5 x u _ I5' r5 (step x H5 y5)) λ_ s6 zz=>?_);obtain⟨σ6,H6,I6,q6⟩:=zz;refine wpAny_passesOwn hp (dz (hb _ s6 σ6 H6 _ I6 q6) λf s7 q7=>?_);have again:∀{σ7:St} {H7:Hp},Inv X (pins++vd fp s5.heap) σ7 H7 s7->N σ7 H7->∃m,m<n/\∃i σ' H',Inv X pins σ' H' s7/\tn i s7.heap/\(∀b∈fp,H' b=none)/\W i m σ' H':=λ{σ7 H7} I7 n7=>by
   obtain⟨m',hm,w7⟩:=hN σ7 H7 n7;refine⟨m',hm,i+1,σ7,H7,I7.sV,T.keep _ _ _ JV λb hb o e=>(I7.pin (b,o) (kI _ (kI _ (zf6 hb e)))).1,λb hb=>?_,w7⟩;obtain⟨o,e,d⟩:=T.obj _ _ JV b hb;exact (I7.pin (b,o) (kI _ (kI _ (zf6 hb e)))).2.1
  cases f with
  | next=>obtain⟨σ7,H7,I7,n7⟩:=q7;exact again I7 n7
  | cont=>obtain⟨σ7,H7,I7,n7⟩:=q7;exact again I7 n7
  | brk=>obtain⟨σ7,H7,I7,q7⟩:=q7;exact⟨σ7,H7,I7.sV,q7⟩
  | ret v=>obtain⟨x7,σ7,H7,I7,r7,q7⟩:=q7;exact⟨x7,σ7,H7,I7.sV,r7,q7⟩
end
noncomputable abbrev R2:=V->V->Hp->VK->Prop
noncomputable def dG (X:Cx)(f:Value->Value->Sem Value)(r:R2):Prop :=
 ∀(pins:List (Addr×Obj)) (s:Shared) (σ:St) (H:Hp) (x y:V) (v u:Value) (Q:VK),Inv X pins σ H s->RelV x v->RelV y u->r x y H Q ->
  wpAny (model X.prog X.w) X.A (f v u) (EP X pins σ Q) X.xe s
noncomputable def NB (X:Cx)(f:Value->Sem Value)(r:V->Hp->VK->Prop):Prop :=
 ∀(pins:List (Addr×Obj)) (s:Shared) (σ:St) (H:Hp) (x:V) (v:Value) (Q:VK),Inv X pins σ H s->RelV x v->r x H Q ->
  wpAny (model X.prog X.w) X.A (f v) (EP X pins σ Q) X.xe s
noncomputable def cu (X:Cx)(f:Value)(r:List V->Hp->VK->Prop):Prop :=
 ∀(pins:List (Addr×Obj)) (s:Shared) (σ:St) (H:Hp) (xs:List V) (us:List Value) (Q:VK),Inv X pins σ H s->Vals xs us->r xs H Q ->
  wpAny (model X.prog X.w) X.A (call f us) (EP X pins σ Q) X.xe s
noncomputable def acI (X:Cx)(r:V->Hp->(Bool->Hp->Prop)->Prop):Prop :=
 ∀(pins:List (Addr×Obj)) (s:Shared) (σ:St) (H:Hp) (x:V) (v:Value) (Q:Bool->Hp->Prop),Inv X pins σ H s->RelV x v->r x H Q ->
  wpAny (model X.prog X.w) X.A (truthy v) (TP X pins σ Q) X.xe s
noncomputable def tOp (r:R2)(ta tb:TE):TE:=fun σ H Q=>ta σ H λx H1=>tb σ H1 λy H2=>r x y H2 Q
noncomputable def tUn (r:V->Hp->VK->Prop)(ta:TE):TE:=fun σ H Q=>ta σ H λx H1=>r x H1 Q
noncomputable def rI (C:Int->Int->Prop)(g:Int->Int->V):R2:=λx y H Q=>∃i j,x=.int i/\y=.int j/\C i j/\Q (g i j) H
noncomputable def OJ (g:Int->Int->V):R2:=λx y H Q=>∃i j,x=.int i/\y=.int j/\Q (g i j) H
noncomputable def rU (g:Int->V):V->Hp->VK->Prop:=λx H Q=>∃i,x=.int i/\Q (g i) H
section
variable {X:Cx}{a b c:Expr}{ta tb tc:TE}{pos:Pos}
theorem Ut (ha:PE X a ta)(hb:PE X b tb){pins:List (Addr×Obj)}{s:Shared}{σ:St}{H:Hp}{R:V->V->Hp->Prop}(I:Inv X pins σ H s)
  (h:ta σ H λx H1=>tb σ H1 λy H2=>R x y H2) {Q:Value->Shared->Prop} {f:Value->Value->Sem Value}
  (hf:∀v u s2 x y H2,Inv X pins σ H2 s2->RelV x v->RelV y u->R x y H2->wpAny (model X.prog X.w) X.A (f v u) Q X.xe s2) :
  wpAny (model X.prog X.w) X.A (eval a X.env) (λv ady=>wpAny (model X.prog X.w) X.A (eval b X.env) (λu adx=>wpAny (model X.prog X.w) X.A (f v u) Q X.xe adx) X.xe ady) X.xe s:=by
 refine dz (ha pins s σ H _ I h) λv s1 zz=>?_;obtain⟨x,H1,I1,r1,q1⟩:=zz;refine dz (hb pins s1 σ H1 _ I1 q1) λu s2 zz=>?_;obtain⟨y,H2,I2,r2,q2⟩:=zz;exact hf v u s2 x y H2 I2 r1 r2 q2
theorem Y8 {op:Operator}{r:R2}(ho:dG X (binaryOp op) r)(ha:PE X a ta)(hb:PE X b tb):PE X (.BinOp a op b pos) (tOp r ta tb):=by
 intro pins s σ H Q I h;exact wpAny_BinOp (Ut ha hb I h λv u s2 x y H2 I2 rx ry q=>ho pins s2 σ H2 x y v u Q I2 rx ry q)
theorem Y6 {op:UnaryOp}{r:V->Hp->VK->Prop}(ho:NB X (unaryOp op) r)(ha:PE X a ta):PE X (.UnaryOp op a pos) (tUn r ta):=by
 intro pins s σ H Q I h;refine UnaryOp_ (dz (ha pins s σ H _ I h) λv s1 zz=>?_);obtain⟨x,H1,I1,r1,q1⟩:=zz;exact ho pins s1 σ H1 x v Q I1 r1 q1
theorem opI {f:Value->Value->Sem Value}{C:Int->Int->Prop}{g:Int->Int->Int}
  (rule:∀(i j:Int) (t u:Tok) (s:Shared) (Q:Value->Shared->Prop) (E:Value->Shared->Prop),C i j->Q (.int (g i j) s.toks) { s with toks:=s.toks+1 }->wpAny (model X.prog X.w) X.A (f (.int i t) (.int j u)) Q E s) :
  dG X f (rI C λi j=>.int (g i j)):=by
 intro pins s σ H x y v u Q I rx ry h;obtain⟨i,j,rfl,rfl,hc,q⟩:=h;obtain⟨t,rfl⟩:=rx;obtain⟨t',rfl⟩:=ry;exact rule i j t t' s _ _ hc ⟨.int (g i j),H,I.tok _,⟨_,rfl⟩,q⟩
theorem Ze {f:Value->Value->Sem Value}{g:Int->Int->Int}
  (rule:∀(i j:Int) (t u:Tok) (s:Shared) (Q:Value->Shared->Prop) (E:Value->Shared->Prop),Q (.int (g i j) s.toks) { s with toks:=s.toks+1 }->wpAny (model X.prog X.w) X.A (f (.int i t) (.int j u)) Q E s) :
  dG X f (OJ λi j=>.int (g i j)):=by
 intro pins s σ H x y v u Q I rx ry h;obtain⟨i,j,rfl,rfl,q⟩:=h;obtain⟨t,rfl⟩:=rx;obtain⟨t',rfl⟩:=ry;exact rule i j t t' s _ _ ⟨.int (g i j),H,I.tok _,⟨_,rfl⟩,q⟩
theorem R_ {f:Value->Value->Sem Value}{g:Int->Int->Bool}
  (rule:∀(i j:Int) (t u:Tok) (s:Shared) (Q:Value->Shared->Prop) (E:Value->Shared->Prop),Q (.bool (g i j)) s->wpAny (model X.prog X.w) X.A (f (.int i t) (.int j u)) Q E s) :
  dG X f (OJ λi j=>.bl (g i j)):=by
 intro pins s σ H x y v u Q I rx ry h;obtain⟨i,j,rfl,rfl,q⟩:=h;obtain⟨t,rfl⟩:=rx;obtain⟨t',rfl⟩:=ry;exact rule i j t t' s _ _ ⟨.bl (g i j),H,I,rfl,q⟩
noncomputable def Uy (i j:Int):Prop:=(-(2 ^ 64)<i/\i<2 ^ 64)\/(-(2 ^ 64)<j/\j<2 ^ 64)
theorem Uy.ok {i j:Int}(h:Uy i j):IntMulOk i j:=by
 rcases h with⟨h1,h2⟩ | ⟨h1,h2⟩
 ·exact .of_left (intBits_le_64 h1 h2)
 ·exact .of_right (intBits_le_64 h1 h2)
theorem R9:dG X (binaryOp .Add) (OJ λi j=>.int (i+j)):=Ze λ_ _ _ _ _ _ _ q=>add_int q
theorem R0:dG X (binaryOp .Sub) (OJ λi j=>.int (i - j)):=Ze λ_ _ _ _ _ _ _ q=>sub_int q
theorem R5:dG X (binaryOp .Mult) (rI Uy λi j=>.int (i*j)):=opI λ_ _ _ _ _ _ _ hc q=>mul_int q hc.ok
theorem R6:dG X (binaryOp .Mod) (rI (λ_ j=>0<j) λi j=>.int (i % j)):=opI λi j _ _ _ _ _ hc q=>by
 have h1:(0:Int)<j:=hc;exact mod_int' (by omega) (by rw[Int.fmod_eq_emod_of_nonneg i (by omega)];exact q)
theorem unI {f:Value->Sem Value}{g:Int->Int}
  (rule:∀(i:Int) (t:Tok) (s:Shared) (Q:Value->Shared->Prop) (E:Value->Shared->Prop),Q (.int (g i) s.toks) { s with toks:=s.toks+1 }->wpAny (model X.prog X.w) X.A (f (.int i t)) Q E s) :
  NB X f (rU λi=>.int (g i)):=by
 intro pins s σ H x v Q I rx h;obtain⟨i,rfl,q⟩:=h;obtain⟨t,rfl⟩:=rx;exact rule i t s _ _ ⟨.int (g i),H,I.tok _,⟨_,rfl⟩,q⟩
theorem QL:NB X (unaryOp .USub) (rU λi=>.int (-i)):=unI λ_ _ _ _ _ q=>neg_int q
end
section
variable {X:Cx}{a b c:Expr}{ta tb tc:TE}{pos:Pos}
theorem zG {pins:List (Addr×Obj)}{σ:St}{H:Hp}{s:Shared}{Q:VK}{k k':Bool}(I:Inv X pins σ H s)(q:Q (.bl k) H)(e:k=k'):EP X pins σ Q (.bool k') s:=by
 subst e;exact⟨.bl k,H,I,rfl,q⟩
theorem Zb:dG X (compareOp .Lt) (OJ λi j=>.bl (decide (i<j))):=R_ λ_ _ _ _ _ _ _ q=>lt_int q
theorem Zc:dG X (compareOp .LtE) (OJ λi j=>.bl (decide (i<=j))):=R_ λ_ _ _ _ _ _ _ q=>le_int q
theorem Zd:dG X (compareOp .Gt) (OJ λi j=>.bl (decide (j<i))):=R_ λ_ _ _ _ _ _ _ q=>gt_int q
theorem Cv:dG X (compareOp .In) (λx y H Q=>∃i j,x=.str i/\y=.str j/\Q (.bl (!(Builtin.Str.occurrences j i 0 j.length 1).isEmpty)) H):=by
 intro pins s σ H x y v u Q I rx ry h;obtain⟨i,j,rfl,rfl,q⟩:=h;obtain⟨t,rfl⟩:=rx;obtain⟨t',rfl⟩:=ry;exact in_str (zG I q rfl)
theorem R7:dG X (compareOp .Is) (λx y H Q=>y=.non/\Q (.bl (decide (x=.non))) H):=by
 intro pins s σ H x y v u Q I rx ry h;obtain⟨rfl,q⟩:=h;cases ry;refine is_none_gen (zG I q ?_);cases x<;>first
  | (cases rx;rfl)
  | (obtain⟨t,rfl⟩:=rx;rfl)
theorem Ly:dG X (compareOp .IsNot) (λx y H Q=>y=.non/\Q (.bl (!decide (x=.non))) H):=by
 intro pins s σ H x y v u Q I rx ry h;obtain⟨rfl,q⟩:=h;cases ry;refine isnot_none_gen (zG I q ?_);cases x<;>first
  | (cases rx;rfl)
  | (obtain⟨t,rfl⟩:=rx;rfl)
theorem dG.or {f:Value->Value->Sem Value}{r r':R2}(h:dG X f r)(h':dG X f r'):dG X f (λx y H Q=>r x y H Q\/r' x y H Q):=by
 intro pins s σ H x y v u Q I rx ry q;rcases q with q | q
 ·exact h pins s σ H x y v u Q I rx ry q
 ·exact h' pins s σ H x y v u Q I rx ry q
theorem bN (b:Expr){op:CmpOp}(h:op≠.In:=by decide)(h2:op≠.NotIn:=by decide):behindInMarks op b=false:=by
 have e1:(op==CmpOp.In)=false:=by cases op<;>first | rfl | exact absurd rfl h
 have e2:(op==CmpOp.NotIn)=false:=by cases op<;>first | rfl | exact absurd rfl h2
 cases b<;>simp[behindInMarks,e1,e2]
theorem Lq {op:CmpOp}{r:R2}(ho:dG X (compareOp op) r)(ha:PE X a ta)(hb:PE X b tb)(hm:behindInMarks op b=false):PE X (.Compare a [op] [b] pos) (tOp r ta tb):=by
 intro pins s σ H Q I h;exact wpAny_Compare1 (Ut ha hb I h λv u s2 x y H2 I2 rx ry q=>ho pins s2 σ H2 x y v u Q I2 rx ry q) hm
noncomputable def Yh (t:TE):TT:=fun σ H Q=>t σ H λx H'=>∃k,x=.bl k/\Q k H'
theorem K_ {op:CmpOp}{r:R2}(ho:dG X (compareOp op) r)(ha:PE X a ta)(hb:PE X b tb)(hm:behindInMarks op b=false):PT X (.Compare a [op] [b] pos) (Yh (tOp r ta tb)):=by
 intro pins s σ H Q I h;refine wpAny_isTrue_Compare1 (dz (ha pins s σ H _ I h) λv s1 zz=>?_) hm;obtain⟨x,H1,I1,r1,q1⟩:=zz;refine dz (hb pins s1 σ H1 _ I1 q1) λu s2 zz=>?_;obtain⟨y,H2,I2,r2,q2⟩:=zz;refine dz (ho pins s2 σ H2 x y v u _ I2 r1 r2 q2) λc s3 zz=>?_;obtain⟨z,H3,I3,r3,k,e,q3⟩:=zz;subst e;cases r3;exact wpAny_truthy_bool ⟨H3,I3,q3⟩
noncomputable def NK (K:PySem.W.Frag)(x:V)(H:Hp)(k:Bool):Prop :=
 match x with
 | .non=>k=false
 | .bl b=>k=b
 | .int i=>k=(i != 0)
 | .str y=>y.length<=sizeLine/\k=((y.length:Int) != 0)
 | .byt y=>y.size<=sizeLine/\k=((y.size:Int) != 0)
 | .ref p=>(∃xs,uW K H p xs/\k=!xs.isEmpty)\/(∃xs,uo K H p xs/\k=!xs.isEmpty)\/∃kvs,H p=some (.dK kvs)/\k=!kvs.isEmpty
 | _=>False
theorem zm8 {κ:Type}{kvs:List (κ×V)}{vs:List (κ×Value)}(r:KV kvs vs):(!vs.isEmpty)=!kvs.isEmpty:=by
 cases r<;>rfl
theorem zjv {xs:List V}{its:List Value}(r:Vals xs its):(!its.toArray.isEmpty)=!xs.isEmpty:=by
 cases r<;>simp
theorem rT:(sizeLine:Nat)<2 ^ 63:=by rw[sizeLine_eq];decide
theorem Fp:acI X (λx H Q=>∃k,NK X.K x H k/\Q k H):=by
 intro pins s σ H x v Q I rx h;obtain⟨k,e,q⟩:=h;have hl:=rT;have hs:sizeLine=16777216:=sizeLine_eq;cases x with
 | non =>
  cases rx;have e':k=false:=e;subst e';exact truthy_none ⟨H,I,q⟩
 | bl b =>
  cases rx;have e':k=b:=e;subst e';exact wpAny_truthy_bool ⟨H,I,q⟩
 | int i =>
  obtain⟨t,rfl⟩:=rx;have e':k=(i != 0):=e;subst e';exact PySem.P.truthy_int ⟨H,I,q⟩
 | str y =>
  obtain⟨t,rfl⟩:=rx;obtain⟨hy,e'⟩:y.length<=sizeLine/\k=((y.length:Int) != 0):=e;subst e';exact PySem.P.truthy_str (by omega) ⟨H,I.tok _,q⟩
 | byt y =>
  obtain⟨t,rfl⟩:=rx;obtain⟨hy,e'⟩:y.size<=sizeLine/\k=((y.size:Int) != 0):=e;subst e';exact PySem.W.truthy_bytes (by omega) ⟨H,I.tok _,q⟩
 | ref p =>
  cases rx;have e':(∃xs,uW X.K H p xs/\k=!xs.isEmpty)\/(∃xs,uo X.K H p xs/\k=!xs.isEmpty)\/∃kvs,H p=some (.dK kvs)/\k=!kvs.isEmpty:=e;rcases e' with⟨xs,hx,e'⟩ | ⟨xs,hx,e'⟩ | ⟨kvs,hx,e'⟩
  ·subst e';obtain⟨its,r,pl,hz⟩:=I.list hx;have hlen:=r.length;exact wpAny_truthy_list pl.isList (by simp only[gK];omega) ⟨H,I.tok _,by rw[zjv r];exact q⟩
  ·subst e';obtain⟨its,r,pl,hz⟩:=I.tuple hx;have hlen:=r.length;exact truthy_tuple pl (by simp only[gK];omega) ⟨H,I.tok _,by rw[zjv r];exact q⟩
  ·subst e';obtain⟨hz,hS,vs,r,m⟩:kvs.length<=sizeLine/\(p==sysModules)=false/\∃vs,KV kvs vs/\s.heap.DictOf (bR X.prog X.w) p vs:=I.bV p _ hx;have hlen:kvs.length=vs.length:=Paired.length r;exact wpAny_truthy_dict hS m (by omega) ⟨H,I.tok _,by rw[zm8 r];exact q⟩
 | _=>exact (show False from e).elim
theorem Gh (ha:PE X a ta)(he:∀whole,isTrue a X.env whole=(do let v <-whole;standAt a.pos;holding [v] (truthy v))) :
  PT X a (fun σ H Q=>ta σ H λx H'=>∃k,NK X.K x H' k/\Q k H'):=by
 intro pins s σ H Q I h;refine isTrue_plain (dz (ha pins s σ H _ I h) λv s1 zz=>?_) (he _);obtain⟨x,H1,I1,r1,q1⟩:=zz;exact Fp pins s1 σ H1 x v Q I1 r1 q1
theorem zmm:dG X (binaryOp .Add) (λx y H Q=>∃i j,x=.str i/\y=.str j/\i.length+j.length<=sizeLine/\Q (.str (i++j)) H):=by
 intro pins s σ H x y v u Q I rx ry h;obtain⟨i,j,rfl,rfl,hz,q⟩:=h;obtain⟨t,rfl⟩:=rx;obtain⟨t',rfl⟩:=ry;exact add_str (λt' tk=>⟨.str (i++j),H,I.tok _,⟨_,rfl⟩,q⟩) hz
theorem vals1 {x:V}{us:List Value}(r:Vals [x] us):∃u,us=[u]/\RelV x u:=by
 cases r with
 | cons r1 r2=>cases r2;exact⟨_,rfl,r1⟩
theorem vals2 {x y:V}{us:List Value}(r:Vals [x,y] us):∃u w',us=[u,w']/\RelV x u/\RelV y w':=by
 cases r with
 | cons r1 r2 =>
  cases r2 with
  | cons r3 r4=>cases r4;exact⟨_,_,rfl,r1,r3⟩
theorem DX (hc:X.calm=true):cu X (.builtin "max") (λxs H Q=>∃i j,xs=[.int i,.int j]/\Q (.int (if j > i then j else i)) H):=by
 intro pins s σ H xs us Q I r h;obtain⟨i,j,rfl,q⟩:=h;obtain⟨u,w',rfl,⟨t,rfl⟩,⟨t',rfl⟩⟩:=vals2 r;refine max_two_ints (I.ok.hd hc) λh' tk k=>⟨_,H,I.kept k,?_,q⟩;by_cases hj:j > i
 ·rw[if_pos hj,if_pos hj];exact⟨_,rfl⟩
 ·rw[if_neg hj,if_neg hj];exact⟨_,rfl⟩
theorem DW (hc:X.calm=true):cu X (.builtin "min") (λxs H Q=>∃i j,xs=[.int i,.int j]/\Q (.int (if j<i then j else i)) H):=by
 intro pins s σ H xs us Q I r h;obtain⟨i,j,rfl,q⟩:=h;obtain⟨u,w',rfl,⟨t,rfl⟩,⟨t',rfl⟩⟩:=vals2 r;refine min_two_ints (I.ok.hd hc) λh' tk k=>⟨_,H,I.kept k,?_,q⟩;by_cases hj:j<i
 ·rw[if_pos hj,if_pos hj];exact⟨_,rfl⟩
 ·rw[if_neg hj,if_neg hj];exact⟨_,rfl⟩
theorem DY:cu X (.type "int") (λxs H Q=>(∃i,xs=[.int i]/\Q (.int i) H)\/∃k,xs=[.bl k]/\Q (.int (if k then 1 else 0)) H):=by
 intro pins s σ H xs us Q I r h;rcases h with⟨i,rfl,q⟩ | ⟨k,rfl,q⟩
 ·obtain⟨u,rfl,t,rfl⟩:=vals1 r;exact call_int_int ⟨.int i,H,I,⟨_,rfl⟩,q⟩
 ·obtain⟨u,rfl,r1⟩:=vals1 r;cases r1;exact call_int_bool ⟨.int (if k then 1 else 0),H,I.tok _,⟨_,rfl⟩,q⟩
end
structure zL (h:Heap)(x dx C:Addr)(mA:Str->Option Value):Prop where
 obj:h.get? x=some (PySem.W.instObj C dx)
 ns:h.Ns1 dx mA
 ne:dx≠x
theorem CN {h:Heap}{dx:Addr}{mA:Str->Option Value}(n:h.Ns1 dx mA):∃od,h.get? dx=some od/\∀name,PySem.W.lookIn name od=some (mA name):=by
 obtain⟨o,es,ep,ho,hd,hk,_,hm⟩:=n;refine⟨o,ho,λname=>?_⟩;have e:=hm name;unfold nsFind findBy at e;rw[<-Array.find?_toList]at e;unfold PySem.W.lookIn;rw[hd];dsimp only
 split
 ·rename_i y q;rw[q]at e;exact congrArg some e
 ·rename_i q;rw[q]at e;have a:es.toList.any (·.refKey)=false:=by
   rw[List.any_eq_false];intro y hy;obtain⟨z,t,M4⟩:=hk y (Array.mem_toList_iff.mp hy);simp[DictEntry.refKey,M4]
  have a':¬ es.toList.any (·.refKey)=true:=by rw[a];exact mW
  rw[if_neg a'];exact congrArg some e
theorem zL.look {h:Heap}{x dx C:Addr}{mA:Str->Option Value}(I:zL h x dx C mA):∃od,PySem.W.InstAt h x (PySem.W.instObj C dx) C (some od)/\∀name,PySem.W.lookIn name od=some (mA name) :=
 let ⟨od,ho,hl⟩:=CN I.ns
 ⟨od,⟨I.obj,rfl,rfl,ho⟩,hl⟩
section
variable {prog:Program}{w:World}{A:Around}{E:Value->Shared->Prop}{s:Shared}{K:PySem.W.Frag}{x dx C f:Addr}{mA:Str->Option Value}{name:Str}{v:Value}
theorem get_map {expr:Bool}{Q:Value->Shared->Prop}(X:K.In s.heap)(I:zL s.heap x dx C mA)(hg:PySem.W.plainGet K C name=true)(hh:PySem.W.hasDictIn K C=true)
  (ha:PySem.W.findIn K (.ref C) name=some none) (hv:mA name=some v) (zy:PySem.W.handedIn v=true) (h:Q v { s with toks:=s.toks+1 }) :
  wpAny (model prog w) A (getAttr (.ref x) name expr) Q E s:=by
 obtain⟨od,J,hl⟩:=I.look;exact PySem.W.get_value X J (PySem.W.plainGet_of hg).1 (PySem.W.findObj_own hh ha rfl (by rw[hl,hv])) zy h
theorem Il {pl:Sem Bool}{Q:Value×List Value->Shared->Prop}(X:K.In s.heap)(I:zL s.heap x dx C mA)(hg:PySem.W.plainGet K C name=true)
  (hf:PySem.W.findIn K (.ref C) name=some (some (.ref f))) (ht:PySem.W.isFn K (.ref f)=true) (hv:mA name=none) (h:Q (.ref f,[.ref x]) s) :
  wpAny (model prog w) A (getMethod (.ref x) name pl) Q E s:=by
 obtain⟨od,J,hl⟩:=I.look;exact PySem.W.method_fn X J (PySem.W.plainGet_of hg).1 (PySem.W.plainGet_of hg).2 hf (beq_iff_eq.mp ht) (by show (PySem.W.lookIn name od).map (·.isSome)=some false;rw[hl,hv];rfl) h
theorem KD {ns:List Str}{Q:Unit->Shared->Prop}(X:K.In s.heap)(I:zL s.heap x dx C mA)
  (hs:PySem.W.findIn K (.ref C) "__setattr__" = some (some (.builtin "object.__setattr__"))) (hp:PySem.W.plainOver K C=true) (ht:PySem.W.takerIn K C name=some none) (hh:PySem.W.hasDictIn K C=true)
  (hw:PySem.Within mA ns) (hsz:ns.length<=sizeLine)
  (h:∀h',zL h' x dx C (λy=>if y=name then some v else mA y)->Heap.SameBut dx s.heap h'->Q () { s with heap:=h',toks:=s.toks+2 }) :
  wpAny (model prog w) A (setAttr (.ref x) name v) Q E s:=by
 obtain⟨od,J,hl⟩:=I.look;refine PySem.W.set_plain X J hs (PySem.W.osa_open (s:={ s with toks:=s.toks+1 }) (r:=none) X J hp ht λb=>?_);obtain⟨cd,hc,hd'⟩:=PySem.W.any_some hh;have hx:s.heap.get? x=some ⟨.ref C,some dx,.plain,#[]⟩:=I.obj;refine wpAny_bind (wpAny_pure (wpAny_bind (wpAny_bind (wpAny_loadPart hx (wpAny_bind (PySem.W.Looks.here (s:={ s with toks:=s.toks+1 }) (PySem.W.looks_clsIn X hc) ?_))))));rw[hd'];refine wpAny_pure (a:=some dx) (wpAny_bind (wpAny_pure (wpAny_bind ?_)));refine wpAny_nsSet1 (s:={ s with toks:=s.toks+1 }) I.ns λh' Pk fV=>?_;obtain⟨oD,esD,epD,hoD,hdD,hcD⟩:=Pk.count (PySem.Within.cons name v hw);refine wpAny_bind (wpAny_lookBehind hoD (by rw[hdD];exact pastItsLine_dict (gU hcD (by rw[g8];omega))) ?_);exact wpAny_pure (h _ ⟨(fV.2 _ (Ne.symm I.ne)).trans I.obj,Pk,I.ne⟩ fV)
theorem G6 {R:Result->Shared->Prop}{vs:List Value}{kw:List (Str×Value)}(X:K.In s.heap)(hm:PySem.W.makesIn K C=true)
  (hi:PySem.W.findIn K (.ref C) "__init__" = some (some (.ref f))) (hf:PySem.W.typeIn K (.ref f)=some (.type "function"))
  (h:codeAny (model prog w) (A.under (.builtin "type.__call__" ⟨.ref C::vs,kw⟩)) (.call (.ref f) ⟨.ref (s.heap.objs.size+1)::vs,kw⟩) (PySem.W.InitBack (s.heap.objs.size+1) R)
   { s with heap:=(s.heap.push PySem.W.emptyDict).push (PySem.W.instObj C s.heap.objs.size) }) :
  codeAny (model prog w) A (.call (.ref C) ⟨vs,kw⟩) R s:=by
 obtain⟨hh,g,d,t,os⟩:=s;exact PySem.W.make_core (PySem.W.makes_of X hm) (PySem.W.looks_findIn X hi) (λself=>PySem.W.bind_fn X self hf) (.inl rfl) h
end
noncomputable def iH (f:Str)(v:V):List (Str×V)->List (Str×V)
 | []=>[(f,v)]
 | (g,x)::r=>if g=f then (g,v)::r else (g,x)::iH f v r
theorem zib (f g:Str)(v:V):∀fs:List (Str×V),(iH f v fs).lookup g=if g=f then some v else fs.lookup g
 | []=>by
  show List.lookup g [(f,v)]=_;by_cases h:g=f
  ·have hb:(g==f)=true:=beq_iff_eq.mpr h;simp only[List.lookup,hb,if_pos h]
  ·have hb:(g==f)=false:=beq_eq_false_iff_ne.mpr h;simp only[List.lookup,hb,if_neg h]
 | (k,x)::r=>by
  have ih:=zib f g v r;rw[show iH f v ((k,x)::r)=(if k=f then (k,v)::r else (k,x)::iH f v r) from rfl];by_cases hk:k=f
  ·rw[if_pos hk];by_cases h:g=k
   ·have hb:(g==k)=true:=beq_iff_eq.mpr h;simp only[List.lookup,hb,if_pos (h.trans hk)]
   ·have hb:(g==k)=false:=beq_eq_false_iff_ne.mpr h;simp only[List.lookup,hb,if_neg (λe:g=f=>h (e.trans hk.symm))]
  ·rw[if_neg hk];by_cases h:g=k
   ·have hb:(g==k)=true:=beq_iff_eq.mpr h;simp only[List.lookup,hb,if_neg (λe:g=f=>hk (h.symm.trans e))]
   ·have hb:(g==k)=false:=beq_eq_false_iff_ne.mpr h;simp only[List.lookup,hb];exact ih
theorem zi0 (f:Str)(v:V):∀fs:List (Str×V),f∈(iH f v fs).map (·.1)/\∀g,g∈fs.map (·.1)->g∈(iH f v fs).map (·.1)
 | []=>⟨by simp[iH],λg h=>by simp at h⟩
 | (k,x)::r=>by
  obtain⟨i1,i2⟩:=zi0 f v r;rw[show iH f v ((k,x)::r)=(if k=f then (k,v)::r else (k,x)::iH f v r) from rfl];by_cases hk:k=f
  ·rw[if_pos hk];subst hk;exact⟨by simp,λg h=>by simpa using h⟩
  ·rw[if_neg hk];refine⟨?_,λg h=>?_⟩
   ·rw[gB];exact kj _ i1
   ·rw[gB]at h ⊢;rcases gk.mp h with e | e
    ·exact gk.mpr (.inl e)
    ·exact kj _ (i2 g e)
theorem zia (f:Str)(v:V):∀fs:List (Str×V),(iH f v fs).length<=fs.length+1
 | []=>by simp[iH]
 | (k,x)::r=>by
  have ih:=zia f v r;rw[show iH f v ((k,x)::r)=(if k=f then (k,v)::r else (k,x)::iH f v r) from rfl];by_cases hk:k=f
  ·rw[if_pos hk,g8,g8];omega
  ·rw[if_neg hk,g8,g8];omega
theorem o6.some_of {v:V}{o:Option Value}(r:o6 (some v) o):∃u,o=some u/\RelV v u:=by
 cases o with
 | none=>exact (show False from r).elim
 | some u=>exact⟨u,rfl,r⟩
theorem o6.none_of {o:Option Value}(r:o6 none o):o=none:=by
 cases o with
 | none=>rfl
 | some u=>exact (show False from r).elim
theorem Dm {v:V}{u:Value}(r:RelV v u):PySem.W.handedIn u=true:=by
 cases v with
 | non=>cases (show u=Value.none from r);rfl
 | bl b=>cases (show u=Value.bool b from r);rfl
 | int i=>obtain⟨t,e⟩:=(show ∃t,u=Value.int i t from r);cases e;rfl
 | str x=>obtain⟨t,e⟩:=(show ∃t,u=Value.str x t from r);cases e;rfl
 | byt b=>obtain⟨t,e⟩:=(show ∃t,u=Value.bytes b t from r);cases e;rfl
 | flt b=>obtain⟨t,e⟩:=(show ∃t,u=Value.float b t from r);cases e;rfl
 | ref a=>cases (show u=Value.ref a from r);rfl
 | ty n=>cases (show u=Value.type n from r);rfl
section
variable {P:Program}{w:World}{H H':Hp}{h h':Heap}{a C dx:Addr}{fs fs':List (Str×V)}
theorem zlf (bV:o7 P w H h)(e:H a=some (.ins C dx fs)):∃mA,zL h a dx C mA/\(∀f,o6 (fs.lookup f) (mA f))/\PySem.Within mA (fs.map (·.1))/\fs.length<=1000/\H dx=some (.own a):=by
 obtain⟨d,z,ne,ob,mA,n,r,q⟩:=(show bZ P w H h a (.ins C dx fs) from bV a _ e);exact⟨mA,⟨ob,n,ne⟩,r,q,z,d⟩
end
structure Ei (K:PySem.W.Frag)(C:Addr):Prop where
 pg:PySem.W.plainGet K C Str.empty=true
 hd:PySem.W.hasDictIn K C=true
 po:PySem.W.plainOver K C=true
 sa:PySem.W.findIn K (.ref C) "__setattr__" = some (some (.builtin "object.__setattr__"))
theorem Ei.get {K:PySem.W.Frag}{C:Addr}(c:Ei K C)(f:Str):PySem.W.plainGet K C f=true:=c.pg
noncomputable def lE (K:PySem.W.Frag)(C:Addr)(f:Str):Prop:=PySem.W.findIn K (.ref C) f=some none
theorem lE.Yg {K:PySem.W.Frag}{C:Addr}{f:Str}(n:lE K C f):PySem.W.takerIn K C f=some none:=by
 unfold PySem.W.takerIn;rw[show PySem.W.findIn K (.ref C) f=some none from n]
 rfl
structure Con (K:PySem.W.Frag)(C:Addr)(f:Str)(v:V)(u:Value):Prop where
 at_:PySem.W.findIn K (.ref C) f=some (some u)
 rel:RelV v u
 get:PySem.W.specialIn K u "__get__" = some none
 cp:PySem.W.copiedNames.contains f=false
structure Meth (K:PySem.W.Frag)(C:Addr)(m:Str)(f:Addr):Prop where
 at_:PySem.W.findIn K (.ref C) m=some (some (.ref f))
 fn:PySem.W.isFn K (.ref f)=true
 kp:PySem.W.keepIn K (.ref f)=true
section
variable {X:Cx}{pins:List (Addr×Obj)}{σ:St}{H:Hp}{s:Shared}{a C dx:Addr}{fs:List (Str×V)}{f:Str}{v:V}{A:Around}{E:Value->Shared->Prop}
theorem zop {b:Bool}{Q:Value->Shared->Prop}(I:Inv X pins σ H s)(e:H a=some (.ins C dx fs))(c:Ei X.K C)(n:lE X.K C f)(l:fs.lookup f=some v)
  (h:∀u s',Inv X pins σ H s'->RelV v u->Q u s'):wpAny (model X.prog X.w) A (getAttr (.ref a) f b) Q E s:=by
 obtain⟨mA,O,r,_,_,_⟩:=zlf I.bV e;obtain⟨u,hu,ru⟩:=o6.some_of (v:=v) (o:=mA f) (by rw[<-l];exact r f);exact get_map I.tB O (c.get f) c.hd n hu (Dm ru) (h u _ (I.tok _) ru)
theorem zmh {m:Str}{g:Addr}{pl:Sem Bool}{Q:Value×List Value->Shared->Prop}(I:Inv X pins σ H s)(e:H a=some (.ins C dx fs))(c:Ei X.K C)(k:Meth X.K C m g)(l:fs.lookup m=none)
  (h:Q (.ref g,[.ref a]) s):wpAny (model X.prog X.w) A (getMethod (.ref a) m pl) Q E s:=by
 obtain⟨mA,O,r,_,_,_⟩:=zlf I.bV e;have hn:mA m=none:=o6.none_of (by rw[<-l];exact r m);exact Il I.tB O (c.get m) k.at_ k.fn hn h
theorem zmz {y:V}{u:Value}{Q:Unit->Shared->Prop}(I:Inv X pins σ H s)(e:H a=some (.ins C dx fs))(c:Ei X.K C)(n:lE X.K C f)(hl:fs.length<1000)(ry:RelV y u)
  (h:∀s',Inv X pins σ (upd H a (.ins C dx (iH f y fs))) s'->Q () s'):wpAny (model X.prog X.w) A (setAttr (.ref a) f u) Q E s:=by
 obtain⟨mA,O,r,wi,_,ho⟩:=zlf I.bV e;have hz:(fs.map (·.1)).length<=sizeLine:=by rw[gf,sizeLine_eq];omega
 refine KD I.tB O c.sa c.po n.Yg c.hd wi hz λh' O' sb=>h _ ?_;have hd:∃o,h'.get? dx=some o:=let ⟨o,_,_,e',_⟩:=O'.ns;⟨o,e'⟩;refine I.write (x:=a) (e:=dx) (by rw[e];exact True.intro) (.inr ho) (λb q hb z=>(sb.2 b hb).trans z) hd ?_;refine⟨by rw[lX O.ne];exact ho,?_,O.ne,O'.obj,_,O'.ns,λg=>?_,λg hg=>?_⟩
 ·have:=zia f y fs;omega
 ·show o6 ((iH f y fs).lookup g) (if g=f then some u else mA g);rw[zib];by_cases q:g=f
  ·rw[if_pos q,if_pos q];exact ry
  ·rw[if_neg q,if_neg q];exact r g
 ·by_cases q:g=f
  ·rw[q];exact (zi0 f y fs).1
  ·refine (zi0 f y fs).2 g (wi g λz=>hg ?_);show (if g=f then some u else mA g)=none;rw[if_neg q];exact z
theorem Inv.made (I:Inv X pins σ H s):Inv X pins σ (upd (upd H s.heap.objs.size (.own (s.heap.objs.size+1))) (s.heap.objs.size+1) (.ins C s.heap.objs.size []))
  { s with heap:=(s.heap.push PySem.W.emptyDict).push (PySem.W.instObj C s.heap.objs.size) }:=by
 have e1:(s.heap.push PySem.W.emptyDict).get? s.heap.objs.size=some PySem.W.emptyDict:=gH s.heap rfl;have e2:((s.heap.push PySem.W.emptyDict).push (PySem.W.instObj C s.heap.objs.size)).get? (s.heap.objs.size+1)=some (PySem.W.instObj C s.heap.objs.size):=by
  have:=gH (s.heap.push PySem.W.emptyDict) (o:=PySem.W.instObj C s.heap.objs.size) rfl;rwa[mK]at this
 have e3:(s.heap.push PySem.W.emptyDict).Ns s.heap.objs.size (λ_=>none):=⟨PySem.W.emptyDict,#[],_,e1,rfl,(λe he=>absurd he (by simp)),λ_=>rfl⟩;have I1:=I.laid (a:=s.heap.objs.size) (o:=.own (s.heap.objs.size+1)) (h':=s.heap.push PySem.W.emptyDict) (t':=s.toks) (λb u q=>gq _ q) (gh _) ⟨_,e1⟩;refine I1.laid (a:=s.heap.objs.size+1) (o:=.ins C s.heap.objs.size []) (t':=s.toks) (λb u q=>gq _ q) (mX (mK _ _)) ?_;have ne:s.heap.objs.size≠s.heap.objs.size+1:=gJ (nR _);refine⟨by rw[lX ne,uv],mQ _,ne,e2,λ_=>none,(Heap.Ns1.of_empty e3).at λo q=>gq _ q,λ_=>True.intro,λy hy=>absurd rfl hy⟩
theorem Ny {prog:Program}{w:World}{env:Env}{e:Expr}{f:Str}{pos:Pos}{s:Shared}{Q:Value->Shared->Prop}(hb:attributeBase e f env (eval e env)=eval e env)
  (h:wpAny (model prog w) A (eval e env) (λo ady=>wpAny (model prog w) A (getAttr o f true) Q E ady) E s):wpAny (model prog w) A (eval (.Attribute e f pos) env) Q E s :=
 Attribute_any_ h (by rw[arm_eval_Attribute,hb])
end
noncomputable def aa7 (K:PySem.W.Frag)(ta:TE)(f:Str):TE:=fun σ H Q=>ta σ H λx H1=>∃a C dx fs v,x=.ref a/\H1 a=some (.ins C dx fs)/\Ei K C/\lE K C f/\fs.lookup f=some v/\Q v H1
noncomputable def abf (K:PySem.W.Frag)(ta tv:TE)(f:Str):TS:=λD σ H=>tv σ H λy H1=>ta σ H1 λx H2=>∃a C dx fs,x=.ref a/\H2 a=some (.ins C dx fs)/\Ei K C/\lE K C f/\fs.length<1000 /\
 D.nx σ (upd H2 a (.ins C dx (iH f y fs)))
section
variable {X:Cx}{o e value:Expr}{f:Str}{pos pos' QV:Pos}{ta tv:TE}
theorem RX (he:PE X e ta)(hb:attributeBase e f X.env (eval e X.env)=eval e X.env):PE X (.Attribute e f pos) (aa7 X.K ta f):=by
 intro pins s σ H Q I h;refine Ny hb (dz (he pins s σ H _ I h) λu s1 zz=>?_);obtain⟨x,H1,I1,rx,a,C,dx,fs,v,ex,ea,c,n,l,q⟩:=zz;subst ex;obtain rfl:u=Value.ref a:=rx;exact zop I1 ea c n l λu' s2 I2 ru=>⟨v,H1,I2,ru,q⟩
theorem Rw (ha:PE X o ta)(hv:PE X value tv)(hs:swapsWith value (some (.Attribute o f pos')) pos.line X.env=pure false):PS X (.Assign [.Attribute o f pos'] value pos) (abf X.K ta tv f):=by
 intro pins s σ H D I h;refine plainObj_wpAny_Assign_Attribute (dz (hv pins s σ H _ I h) λu s1 zz=>?_) hs;obtain⟨y,H1,I1,ry,q⟩:=zz;refine dz (ha pins s1 σ H1 _ I1 q) λov s2 zz=>?_;obtain⟨x,H2,I2,rx,a,C,dx,fs,ex,ea,c,n,l,q2⟩:=zz;subst ex;obtain rfl:ov=Value.ref a:=rx;exact zmz I2 ea c n l ry λs3 I3=>⟨σ,_,I3,q2⟩
end
section
variable {X:Cx}{pins:List (Addr×Obj)}{σ:St}{H:Hp}{s:Shared}{A:Around}{E:Value->Shared->Prop}{Q:Value->Shared->Prop}{c:Value}{b:Bool}
inductive uV (K:PySem.W.Frag) (H:Hp):V->Value->Prop where
 | non:uV K H .non (.type "NoneType")
 | bl (x:Bool):uV K H (.bl x) (.type "bool")
 | int (i:Int):uV K H (.int i) (.type "int")
 | str (x:Str):uV K H (.str x) (.type "str")
 | flt (x:UInt64):uV K H (.flt x) (.type "float")
 | lst {a:Addr} {xs:List V} (e:H a=some (.lst xs)):uV K H (.ref a) (.type "list")
 | frz {a:Addr} {o:Obj} {xs:List V} (e:H a=some (.frz o (.lst xs))):uV K H (.ref a) (.type "list")
 | tup {a:Addr} {xs:List V} (e:H a=some (.tup xs)):uV K H (.ref a) (.type "tuple")
 | dK {a:Addr} {kvs:List (Key×V)} (e:H a=some (.dK kvs)):uV K H (.ref a) (.type "dict")
 | dT {a:Addr} {kvs:List (List Key×V)} (e:H a=some (.dT kvs)):uV K H (.ref a) (.type "dict")
 | ins {a C dx:Addr} {fs:List (Str×V)} (e:H a=some (.ins C dx fs)) (cl:Ei K C) (ha:PySem.W.findIn K (.ref C) "__class__" = some (some (.builtin "object.__class__")))
   (hn:PySem.W.specialIn K (.builtin "object.__class__") "__get__" = some (some (.builtin "getset_descriptor.__get__"))) (htk:PySem.W.takesIn K (.builtin "object.__class__")=some true)
   (hm:PySem.W.mroIn K C (.type "object")=some true):uV K H (.ref a) (.ref C)
theorem Ve {x:V}{u t:Value}(I:Inv X pins σ H s)(rx:RelV x u)(ty:uV X.K H x t)(e:PySem.W.kitOne X.K t c=some b)(h:∀tk,Q (.bool b) { s with toks:=tk }) :
  wpAny (model X.prog X.w) A (call (.builtin "isinstance") [u,c]) Q E s:=by
 cases ty with
 | non=>cases (show u=Value.none from rx);exact PySem.W.kia_one PySem.W.kitx_none I.tB True.intro e (λz=>nomatch z) h
 | bl y=>cases (show u=Value.bool y from rx);exact PySem.W.kia_one PySem.W.kitx_bool I.tB True.intro e (λz=>nomatch z) h
 | int i=>obtain⟨t,q⟩:=(show ∃t,u=Value.int i t from rx);cases q;exact PySem.W.kia_one PySem.W.kitx_int I.tB True.intro e (λz=>nomatch z) h
 | str y=>obtain⟨t,q⟩:=(show ∃t,u=Value.str y t from rx);cases q;exact PySem.W.kia_one PySem.W.kitx_str I.tB True.intro e (λz=>nomatch z) h
 | flt y=>obtain⟨t,q⟩:=(show ∃t,u=Value.float y t from rx);cases q;exact PySem.W.kia_one PySem.W.kitx_float I.tB True.intro e (λz=>nomatch z) h
 | @lst a xs ea =>
  cases (show u=Value.ref a from rx);obtain⟨_,_,n,_,h1⟩:=(show bZ X.prog X.w H s.heap a (.lst xs) from I.bV a _ ea);exact PySem.W.kia_one PySem.W.kitx_list I.tB ⟨_,h1,rfl⟩ e (λz=>nomatch z) h
 | @frz a ob xs ea =>
  cases (show u=Value.ref a from rx);obtain⟨_,_,_,n,_,h1⟩:=(show bZ X.prog X.w H s.heap a (.frz ob (.lst xs)) from I.bV a _ ea);exact PySem.W.kia_one PySem.W.kitx_list I.tB ⟨_,h1,rfl⟩ e (λz=>nomatch z) h
 | @tup a xs ea =>
  cases (show u=Value.ref a from rx);obtain⟨_,_,_,p⟩:=(show bZ X.prog X.w H s.heap a (.tup xs) from I.bV a _ ea);obtain⟨o,h1,h2,_⟩:=p;exact PySem.W.kia_one PySem.W.kitx_tuple I.tB ⟨o,h1,h2⟩ e (λz=>nomatch z) h
 | @dK a kvs ea =>
  cases (show u=Value.ref a from rx);obtain⟨_,_,vs,_,p⟩:=(show bZ X.prog X.w H s.heap a (.dK kvs) from I.bV a _ ea);obtain⟨o,es,ep,h1,h2,_⟩:=p;exact PySem.W.kia_one PySem.W.kitx_dict I.tB ⟨o,h1,h2.1⟩ e (λz=>nomatch z) h
 | @dT a kvs ea =>
  cases (show u=Value.ref a from rx);obtain⟨_,_,xs,_,o,es,ep,h1,h2,_⟩:=(show bZ X.prog X.w H s.heap a (.dT kvs) from I.bV a _ ea);exact PySem.W.kia_one PySem.W.kitx_dict I.tB ⟨o,h1,h2.1⟩ e (λz=>nomatch z) h
 | @ins a C dx fs ea cl ha hn htk hm =>
  cases (show u=Value.ref a from rx);obtain⟨mA,O,_⟩:=zlf I.bV ea;obtain⟨od,J,_⟩:=O.look;exact PySem.W.kia_one (PySem.W.kitx_own (cl.get _) cl.hd ha hn htk hm) I.tB J e (λz=>nomatch z) h
end
structure dC (k:Nat)(A:Around):Prop where
 hd:A.handled=none
 dp:A.depth+3*k+5<recursionLimit
 un:A.units+16*k+200<cLine
theorem dC.mono {j k:Nat}{A:Around}(r:dC k A)(h:j<=k):dC j A:=⟨r.hd,by have:=r.dp;omega,by have:=r.un;omega⟩
theorem dC.deeper {k:Nat}{A:Around}(r:dC (k+1) A)(env:Env):dC k (A.deeper env) :=
 ⟨r.hd,by have:=r.dp;show A.depth+1+3*k+5<_;omega,by have:=r.un;show A.units+3+16*k+200<_;omega⟩
theorem znr {A:Around}{C:Addr}{us:List Value}{kw:List (Str×Value)}:(A.under (.builtin "type.__call__" ⟨.ref C::us,kw⟩)).depth=A.depth+1:=by
 first | rfl | simp[Around.under,Code.weight,Code.isCreation,Code.isGuard,Code.isCaller,Code.frames,Code.isFrame,guardIds]
theorem zow {A:Around}{C:Addr}{us:List Value}{kw:List (Str×Value)}:(A.under (.builtin "type.__call__" ⟨.ref C::us,kw⟩)).units=A.units+1:=by
 first | rfl | simp[Around.under,Code.cUnits,Code.frames,Code.isFrame]
theorem dC.make {k:Nat}{A:Around}(r:dC (k+1) A)(C:Addr)(us:List Value)(kw:List (Str×Value)):dC k (A.under (.builtin "type.__call__" ⟨.ref C::us,kw⟩)) :=
 ⟨r.hd,by have:=r.dp;rw[znr];omega,by have:=r.un;rw[zow];omega⟩
theorem dC.depth {k:Nat}{A:Around}(r:dC k A):A.depth<recursionLimit:=by have:=r.dp;omega
theorem dC.units {k:Nat}{A:Around}(r:dC k A):A.units+64<cLine:=by have:=r.un;omega
noncomputable def aa2:TA:=λ_ H Q=>Q [] H
noncomputable def Yp (ta:TE)(tr:TA):TA:=fun σ H Q=>ta σ H λx H1=>tr σ H1 λxs H2=>Q (x::xs) H2
section
variable {X:Cx}{e:Expr}{es:List Expr}{te:TE}{t:TA}{pos:Pos}
theorem zc:PA X [] aa2:=λ_ _ _ _ H Q I h=>Calls.spliced_nil ⟨[],H,I,.nil,h⟩
theorem WX (ha:PE X e te)(hr:PA X es t)(hs:starEach (e::es) X.env=(false,eval e X.env)::starEach es X.env:=by rfl):PA X (e::es) (Yp te t):=by
 intro pos pins s σ H Q I h;rw[hs];show wpAny _ _ (spliced ((false,eval e X.env)::backTo pos (starEach es X.env))) _ _ s;refine Calls.spliced_cons (dz (ha pins s σ H _ I h) λu s1 zz=>?_);obtain⟨x,H1,I1,r1,q1⟩:=zz;refine dz (hr pos pins s1 σ H1 _ I1 q1) λus s2 zz=>?_;obtain⟨xs,H2,I2,r2,q2⟩:=zz;exact⟨x::xs,H2,I2,.cons r1 r2,q2⟩
noncomputable def aaX (t:TA):TE:=fun σ H Q=>t σ H λxs H1=>xs.length<=sizeLine/\∀p,H1 p=none->Q (.ref p) (upd H1 p (.tup xs))
noncomputable def aa3 (t:TA):TE:=fun σ H Q=>t σ H λxs H1=>xs.length<=sizeLine/\∀p,H1 p=none->Q (.ref p) (upd H1 p (.lst xs))
theorem RD {x1}(h:PA X es t):PE X (.Tuple es x1 pos) (aaX t):=by
 intro pins s σ H Q I hq;refine wpAny_Tuple_spliced (dz (h pos pins s σ H _ I hq) λus s1 zz=>?_);obtain⟨xs,H1,I1,r,z,q⟩:=zz;refine⟨by rw[<-r.length];exact z,?_⟩;have hf:H1 s1.heap.objs.size=none:=I1.bV.fresh (gh _);refine⟨.ref s1.heap.objs.size,upd H1 s1.heap.objs.size (.tup xs),I1.laid (t':=s1.toks) (λb u e=>gq _ e) (gh _) ?_,rfl,q _ hf⟩;exact⟨z,us,r,⟨_,gH _ rfl,rfl,_,rfl⟩⟩
theorem RQ (h:PA X es t):PE X (.List es pos) (aa3 t):=by
 intro pins s σ H Q I hq;refine wpAny_List_spliced (dz (h pos pins s σ H _ I hq) λus s1 zz=>?_);obtain⟨xs,H1,I1,r,z,q⟩:=zz;refine⟨by rw[<-r.length];exact z,?_⟩;have hf:H1 s1.heap.objs.size=none:=I1.bV.fresh (gh _);refine⟨.ref s1.heap.objs.size,upd H1 s1.heap.objs.size (.lst xs),I1.laid (t':=s1.toks) (λb u e=>gq _ e) (gh _) ?_,rfl,q _ hf⟩;exact⟨z,us,0,r,gH _ rfl⟩
end
noncomputable abbrev Sp:=List V->Hp->VK->XK->Prop
noncomputable abbrev Eu:=List Env->Hp->Shared->XK->Value->Shared->Prop
structure xQ (P:Program)(w:World)(K:PySem.W.Frag)(mg:Str->Option Value)(base:Heap)(A:Around)(outer:List Env)(s:Shared)(H:Hp):Prop where
 frames:A.frames=some outer
 mod:Mod K mg base
 bs:∀b o,base.get? b=some o->s.heap.get? b=some o/\H b=none
 D_:base.objs.size<=s.heap.objs.size
 rA:s.heap.FunFrames base outer
 Ir:∀b∈Bc outer,H b=none
 bV:o7 P w H s.heap
 bare:AllBare s.gens
noncomputable def CE (outer:List Env)(P:Program)(w:World)(H:Hp)(s:Shared)(Q:VK)(u:Value)(s':Shared):Prop :=
 ∃v H',s'.os=s.os/\AllBare s'.gens/\Un (Bc outer) [] H H' s.heap s'.heap/\o7 P w H' s'.heap/\RelV v u/\Q v H'
noncomputable def CR (CX:Eu)(outer:List Env)(P:Program)(w:World)(H:Hp)(s:Shared)(Q:VK)(E:XK)(r:Result)(s':Shared):Prop :=
 match r with
 | .ok (.ret u)=>CE outer P w H s Q u s'
 | .ok _=>False
 | .error e=>CX outer H s E e s'
structure a_ (P:Program)(w:World)(K:PySem.W.Frag)(mg:Str->Option Value)(base:Heap)(CX:Eu)(k:Nat)(f:Addr)(fd:FuncData)(ps:List Str)(sp:Sp):Prop where
 len:∀vs H Q E,sp vs H Q E->vs.length=ps.length
 run:∀(A:Around) (outer:List Env) (s:Shared) (H:Hp) (args:Args) (us:List Value) (vs:List V) (Q:VK) (E:XK),dC k A->xQ P w K mg base A outer s H->BindsTo s fd args (ps.zip us)->Vals vs us->sp vs H Q E ->
  codeAny (model P w) A (.call (.ref f) args) (CR CX outer P w H s Q E) s
theorem a_.mono {P:Program}{w:World}{K:PySem.W.Frag}{mg:Str->Option Value}{base:Heap}{CX:Eu}{j k:Nat}{f:Addr}{fd:FuncData}{ps:List Str}{sp:Sp}(F:a_ P w K mg base CX j f fd ps sp)(h:j<=k) :
  a_ P w K mg base CX k f fd ps sp:=⟨F.len,λA outer s H args us vs Q E hr=>F.run A outer s H args us vs Q E (hr.mono h)⟩
theorem a_.imp {P:Program}{w:World}{K:PySem.W.Frag}{mg:Str->Option Value}{base:Heap}{CX:Eu}{k:Nat}{f:Addr}{fd:FuncData}{ps:List Str}{sp sp':Sp}(F:a_ P w K mg base CX k f fd ps sp)
  (h:∀vs H Q E,sp' vs H Q E->sp vs H Q E):a_ P w K mg base CX k f fd ps sp' :=
 ⟨λvs H Q E q=>F.len vs H Q E (h _ _ _ _ q),λA outer s H args us vs Q E hr he hb hv hs=>F.run A outer s H args us vs Q E hr he hb hv (h _ _ _ _ hs)⟩
theorem xQ.make {P:Program}{w:World}{K:PySem.W.Frag}{mg:Str->Option Value}{base:Heap}{A:Around}{outer:List Env}{s:Shared}{H:Hp}(e:xQ P w K mg base A outer s H)(C:Addr)(us:List Value)(kw:List (Str×Value)) :
  xQ P w K mg base (A.under (.builtin "type.__call__" ⟨.ref C::us,kw⟩)) outer s H:=⟨by first | exact e.frames | (simpa[Around.under,Code.envs,Code.isFrame,pushEnvs] using e.frames),e.mod,e.bs,e.D_,e.rA,e.Ir,e.bV,e.bare⟩
section
variable {X:Cx}{pins:List (Addr×Obj)}{σ:St}{H:Hp}{s s':Shared}
theorem Inv.Nm (I:Inv X pins σ H s):xQ X.prog X.w X.K X.mg X.base X.A X.stack s H :=
 ⟨I.ok.frames,I.ok.mod,I.bs,gU I.ok.D_ I.sz,I.stack,I.z6,I.bV,I.bare⟩
theorem Inv.after {Q:VK}{u:Value}(I:Inv X pins σ H s)(h:CE X.stack X.prog X.w H s Q u s'):EP X pins σ Q u s':=by
 obtain⟨v,H',os,bare,un,bV,r,q⟩:=h;obtain⟨hh,g,d,t,VD⟩:=s';obtain rfl:VD=s.os:=os;exact⟨v,H',I.call (h':=hh) (g':=g) (d':=d) (t':=t) (ch:=[]) un bV bare (λb z=>absurd z (by simp)),r,q⟩
end
noncomputable def Yq (sp:Sp)(dvs:List V)(E:XK)(t:TA):TE:=fun σ H Q=>t σ H λvs H1=>sp (vs++dvs) H1 Q E
noncomputable def Yk (C:Addr)(m:Str)(sp:Sp)(dvs:List V)(E:XK)(ta:TE)(t:TA):TE:=fun σ H Q=>ta σ H λx H1=>∃a dx fs,x=.ref a/\H1 a=some (.ins C dx fs)/\fs.lookup m=none /\
 t σ H1 λvs H2=>sp (x::(vs++dvs)) H2 Q E
noncomputable def Yl (C:Addr)(sp:Sp)(dvs:List V)(E:XK)(t:TA):TE:=fun σ H Q=>t σ H λvs H1=>∀x dx,H1 x=none->H1 dx=none->dx≠x ->
 sp (.ref x::(vs++dvs)) (upd (upd H1 dx (.own x)) x (.ins C dx [])) (λv H2=>v=.non/\Q (.ref x) H2) E
noncomputable def Binds (K:PySem.W.Frag)(fd:FuncData)(ps:List Str)(ds:List Value):Prop :=
 ∀(s:Shared) (us:List Value),K.In s.heap->(us++ds).length=ps.length->BindsTo s fd ⟨us,[]⟩ (ps.zip (us++ds))
theorem Binds.all {K:PySem.W.Frag}{fd:FuncData}{ps:List Str}(h:∀us:List Value,us.length=ps.length->bindArgs fd ⟨us,[]⟩=pure (ps.zip us)):Binds K fd ps []:=λs us _ hl=>by
 rw[gZ]at hl ⊢;exact .of_eq (h us hl)
noncomputable def Passes (CX:Eu)(X:Cx)(E:XK):Prop:=∀(pins:List (Addr×Obj)) (σ:St) (H:Hp) (s:Shared) (e:Value) (s':Shared),Inv X pins σ H s->CX X.stack H s E e s'->X.xe e s'
section
variable {X:Cx}{CX:Eu}{k:Nat}{f C:Addr}{fd:FuncData}{ps:List Str}{sp:Sp}{dvs:List V}{ds:List Value}{E:XK}{x m:Str}{p pos apos:Pos}{e o:Expr}{es:List Expr}{ta:TE}{t:TA}
theorem FW {pins:List (Addr×Obj)}{σ:St}{H:Hp}{s:Shared}{Q:VK}{us:List Value}{vs:List V}(F:a_ X.prog X.w X.K X.mg X.base CX k f fd ps sp)(hr:dC k X.A)(hb:Binds X.K fd ps ds)(hd:Vals dvs ds)(hx:Passes CX X E)
  (I:Inv X pins σ H s) (r:Vals vs us) (h:sp (vs++dvs) H Q E):wpAny (model X.prog X.w) X.A (call (.ref f) us) (EP X pins σ Q) X.xe s:=by
 have r2:Vals (vs++dvs) (us++ds):=r.append hd;have hl:(us++ds).length=ps.length:=by rw[<-r2.length];exact F.len _ _ _ _ h
 refine wpAny_call (codeAny_mono (F.run X.A X.stack s H ⟨us,[]⟩ (us++ds) (vs++dvs) Q E hr I.Nm (hb s us I.tB hl) r2 h) λr s' hq=>?_);cases r with
 | error e=>exact hx pins σ H s e s' I hq
 | ok fl =>
  cases fl with
  | ret u=>exact I.after hq
  | next=>exact False.elim hq
  | brk=>exact False.elim hq
  | cont=>exact False.elim hq
theorem Lr (F:a_ X.prog X.w X.K X.mg X.base CX k f fd ps sp)(hr:dC k X.A)(hg:Gl X x)(hm:X.mg x=some (.ref f))(hk:PySem.W.keepIn X.K (.ref f)=true)(hb:Binds X.K fd ps ds)(hd:Vals dvs ds)(hx:Passes CX X E)
  (ha:PA X (e::es) t) (vB:(x==("__debug__":Str))=false:=by decide) (he:starEach (e::es) X.env=(false,eval e X.env)::starEach es X.env:=by rfl) (jW:(backTo pos (starEach es X.env)).any (·.1)=false:=by rfl) :
  PE X (.Call (.Name x p) (e::es) [] pos) (Yq sp dvs E t):=by
 intro pins s σ H Q I h;refine wpAny_Call_Name_kw (zlo I hg hm ?_ vB);refine PySem.W.callWith_K (h₀:=X.base) I.ok.mod.Sv hk (dz (ha pos pins s σ H _ I h) λus s1 zz=>?_) he jW;obtain⟨vs,H1,I1,r,q⟩:=zz;refine⟨I1.tB,?_⟩;exact FW F hr hb hd hx I1 r q
theorem Lj {pl:Sem Bool}(he:PE X o ta)(c:Ei X.K C)(hm:Meth X.K C m f)(F:a_ X.prog X.w X.K X.mg X.base CX k f fd ps sp)(hr:dC k X.A)(hb:Binds X.K fd ps ds)(hd:Vals dvs ds)(hx:Passes CX X E)(ha:PA X (e::es) t)
  (wO:starEach (e::es) X.env=(false,eval e X.env)::starEach es X.env:=by rfl) (jW:(backTo pos (starEach es X.env)).any (·.1)=false:=by rfl)
  (ht:eval (.Call (.Attribute o m apos) (e::es) [] pos) X.env=(do
   let ov <-eval o X.env
   standAt apos.atName
   let (f,first) <-holding [ov] (getMethod ov m pl)
   callWith pos f first (backTo pos (starEach (e::es) X.env)) (backToKw pos (keywordEach [] X.env))):=by rfl) :
  PE X (.Call (.Attribute o m apos) (e::es) [] pos) (Yk C m sp dvs E ta t):=by
 intro pins s σ H Q I h;refine PySem.W.methodCall_KW (pl:=pl) (dz (he pins s σ H _ I h) λu s1 zz=>?_) ht;obtain⟨x,H1,I1,rx,a,dx,fs,ex,ea,l,q⟩:=zz;subst ex;obtain rfl:u=Value.ref a:=rx;refine zmh I1 ea c hm l ?_;refine PySem.W.callWith_K (first:=[.ref a]) (h₀:=X.base) I.ok.mod.Sv hm.kp (dz (ha pos pins s1 σ H1 _ I1 q) λus s2 zz=>?_) wO jW;obtain⟨vs,H2,I2,r,q2⟩:=zz;refine⟨I2.tB,?_⟩;exact FW (us:=.ref a::us) (vs:=.ref a::vs) F hr hb hd hx I2 (.cons rfl r) q2
structure Mk (K:PySem.W.Frag)(C f:Addr):Prop where
 makes:PySem.W.makesIn K C=true
 init:PySem.W.findIn K (.ref C) "__init__" = some (some (.ref f))
 fn:PySem.W.isFn K (.ref f)=true
 kp:PySem.W.keepIn K (.ref C)=true
theorem FT {pins:List (Addr×Obj)}{σ:St}{H:Hp}{s:Shared}{Q:VK}{us:List Value}{vs:List V}(M:Mk X.K C f)(F:a_ X.prog X.w X.K X.mg X.base CX k f fd ps sp)(hr:dC (k+1) X.A)(hb:Binds X.K fd ps ds)(hd:Vals dvs ds)
  (hx:Passes CX X E) (I:Inv X pins σ H s) (r:Vals vs us)
  (h:∀x dx,H x=none->H dx=none->dx≠x->sp (.ref x::(vs++dvs)) (upd (upd H dx (.own x)) x (.ins C dx [])) (λv H2=>v=.non/\Q (.ref x) H2) E) :
  wpAny (model X.prog X.w) X.A (call (.ref C) us) (EP X pins σ Q) X.xe s:=by
 have hq:=h (s.heap.objs.size+1) s.heap.objs.size (I.bV.fresh (Nat.le_succ _)) (I.bV.fresh (gh _)) (gJ (nR _));have I2:=Inv.made (C:=C) I;have r2:Vals (V.ref (s.heap.objs.size+1)::(vs++dvs)) (Value.ref (s.heap.objs.size+1)::(us++ds)):=.cons rfl (r.append hd);have hl:(Value.ref (s.heap.objs.size+1)::us++ds).length=ps.length:=by
  have e:=r2.length;rw[F.len _ _ _ _ hq]at e;exact e.symm
 refine wpAny_call (G6 (f:=f) I.tB M.makes M.init (beq_iff_eq.mp M.fn) (codeAny_mono (F.run _ X.stack _ _ ⟨Value.ref (s.heap.objs.size+1)::us,[]⟩ (Value.ref (s.heap.objs.size+1)::(us++ds)) _ _ E (hr.make C us [])
  (I2.Nm.make C us []) (hb _ (Value.ref (s.heap.objs.size+1)::us) I2.tB hl) r2 hq) λr s' MJ=>?_))
 cases r with
 | error e=>exact hx pins σ _ _ e s' I2 MJ
 | ok fl =>
  cases fl with
  | ret u =>
   obtain⟨v,H',I3,rv,ev,q3⟩:=I2.after MJ;subst ev;exact⟨rv,⟨V.ref (s.heap.objs.size+1),H',I3,rfl,q3⟩⟩
  | next=>exact False.elim MJ
  | brk=>exact False.elim MJ
  | cont=>exact False.elim MJ
theorem Lk (M:Mk X.K C f)(F:a_ X.prog X.w X.K X.mg X.base CX k f fd ps sp)(hr:dC (k+1) X.A)(hg:Gl X x)(hm:X.mg x=some (.ref C))(hb:Binds X.K fd ps ds)(hd:Vals dvs ds)(hx:Passes CX X E)
  (ha:PA X (e::es) t) (vB:(x==("__debug__":Str))=false:=by decide) (he:starEach (e::es) X.env=(false,eval e X.env)::starEach es X.env:=by rfl) (jW:(backTo pos (starEach es X.env)).any (·.1)=false:=by rfl) :
  PE X (.Call (.Name x p) (e::es) [] pos) (Yl C sp dvs E t):=by
 intro pins s σ H Q I h;refine wpAny_Call_Name_kw (zlo I hg hm ?_ vB);refine PySem.W.callWith_K (h₀:=X.base) I.ok.mod.Sv M.kp (dz (ha pos pins s σ H _ I h) λus s1 zz=>?_) he jW;obtain⟨vs,H1,I1,r,q⟩:=zz;refine⟨I1.tB,?_⟩;exact FT M F hr hb hd hx I1 r q
end
section
variable {X:Cx}{CX:Eu}{k:Nat}{f C:Addr}{fd:FuncData}{ps ks:List Str}{sp:Sp}{E:XK}{x m:Str}{p pos apos ac_:Pos}{e o:Expr}{es:List Expr}{kws:List Keyword}{te ta:TE}{t tk:TA}{nm:Option Str}
structure acJ (K:PySem.W.Frag)(fd:FuncData)(ps ks:List Str)(g:List Value->List Value->List Value)(gV:List V->List V->List V):Prop where
 to:∀(s:Shared) (us ws:List Value),K.In s.heap->(g us ws).length=ps.length->BindsTo s fd ⟨us,ks.zip ws⟩ (ps.zip (g us ws))
 rel:∀{vs:List V} {us:List Value} {zs:List V} {ws:List Value},Vals vs us->Vals zs ws->Vals (gV vs zs) (g us ws)
variable {g:List Value->List Value->List Value}{gV:List V->List V->List V}
end
structure aX (N P:List Str)(sc:Scope):Prop where
 kind:sc.kind=.function
 co:sc.isCoroutine=false
 gen:sc.isGenerator=false
 nd:N.Nodup
 pre:N.take P.length=P
 par:∀x∈P,sc.names.lookup x=some .local\/sc.names.lookup x=some .cell
 Sd:∀y∈sc.names,y.2≠.free
theorem zk7 {kindOf:Str->Option NameKind}{x:Str}:∀{binds:List (Str×Value)} {m:Str->Option Value},(∀v,(x,v)∉binds)->bindL kindOf binds m x=m x
 | [],_,_=>rfl
 | (n,v)::r,m,h=>by
  unfold bindL;rw[zk7 λw hw=>h w (kj _ hw)]
  split
  ·have:x≠n:=by rintro rfl;exact h v nQ
   simp[this]
  ·rfl
theorem zln {kindOf:Str->Option NameKind}{x:Str}:∀{binds:List (Str×Value)} {m:Str->Option Value},(∀v,(x,v)∉binds)->bindC kindOf binds m x=m x
 | [],_,_=>rfl
 | (n,v)::r,m,h=>by
  unfold bindC;rw[zln λw hw=>h w (kj _ hw)]
  split
  ·rfl
  ·have:x≠n:=by rintro rfl;exact h v nQ
   simp[this]
theorem zkz {kindOf:Str->Option NameKind}{x:Str}{v:Value}:∀{P:List Str} {vs:List Value} {i:Nat} {m:Str->Option Value},P.Nodup->P[i]? = some x->vs[i]? = some v->kindOf x=some .local ->
  bindL kindOf (P.zip vs) m x=some v
 | [],_,_,_,_,h,_,_=>by simp at h
 | _::_,[],_,_,_,_,h,_=>by simp at h
 | p::P,w::vs,0,m,nd,h1,h2,hk=>by
  simp at h1 h2;subst h1;subst h2;show bindL kindOf ((p,w)::P.zip vs) m p=_;unfold bindL;rw[zk7 λv hv=>(kZ.mp nd).1 (pC hv).1,if_pos hk];simp
 | p::P,w::vs,i+1,m,nd,h1,h2,hk=>by
  show bindL kindOf ((p,w)::P.zip vs) m x=_;unfold bindL;exact zkz (i:=i) (kZ.mp nd).2 (by simpa using h1) (by simpa using h2) hk
theorem zku {kindOf:Str->Option NameKind}{x:Str}{v:Value}:∀{P:List Str} {vs:List Value} {i:Nat} {m:Str->Option Value},P.Nodup->P[i]? = some x->vs[i]? = some v->kindOf x≠some .local ->
  bindC kindOf (P.zip vs) m x=some v
 | [],_,_,_,_,h,_,_=>by simp at h
 | _::_,[],_,_,_,_,h,_=>by simp at h
 | p::P,w::vs,0,m,nd,h1,h2,hk=>by
  simp at h1 h2;subst h1;subst h2;show bindC kindOf ((p,w)::P.zip vs) m p=_;unfold bindC;rw[zln λv hv=>(kZ.mp nd).1 (pC hv).1,if_neg hk];simp
 | p::P,w::vs,i+1,m,nd,h1,h2,hk=>by
  show bindC kindOf ((p,w)::P.zip vs) m x=_;unfold bindC;exact zku (i:=i) (kZ.mp nd).2 (by simpa using h1) (by simpa using h2) hk
noncomputable def start (N:List Str)(vs:List V):St:=vs.map some++List.replicate (N.length - vs.length) none
noncomputable def wu (CX:Eu)(P:Program)(w:World)(K:PySem.W.Frag)(mg:Str->Option Value)(base:Heap)(N:List Str)(qual:Str)(scope:Scope)(f:Addr)(cd:Value)(A:Around)(outer:List Env)(s:Shared)(H:Hp)(E:XK):Cx where
 prog:=P
 w:=w
 K:=K
 mg:=mg
 base:=base
 A:=A.deeper (envOfC qual scope s.heap.objs.size f cd)
 N:=N
 adz:=s
 adE:=H
 env:=envOfC qual scope s.heap.objs.size f cd
 outer:=outer
 stack:=envOfC qual scope s.heap.objs.size f cd::outer
 ex:=[]
 calm:=true
 fn:=λ_=>true
 pn:=[]
 xe:=λe s'=>wpAny (model P w) (A.deeper (envOfC qual scope s.heap.objs.size f cd)) (leaving (envOfC qual scope s.heap.objs.size f cd) e) (λ_ s''=>CX outer H s E e s'') (λe' s''=>CX outer H s E e' s'') s'
theorem zm4 {sc:Scope}{n:Nat}{x:Str}(h:sc.names.lookup x=some .cell):∃c,(cellsFrom n sc.names []).lookup x=some c:=by
 have q:=PySem.W.cellsFrom_some sc.names n [] (.inl h);exact Option.isSome_iff_exists.mp q
theorem Df {CX:Eu}{P:Program}{w:World}{K:PySem.W.Frag}{mg:Str->Option Value}{base:Heap}{N ps:List Str}{qual:Str}{scope:Scope}{f:Addr}{cd:Value}{A:Around}{outer:List Env}{s s1:Shared}{H:Hp}{E:XK}{us:List Value}{vs:List V}
  (S:aX N ps scope) (hd:A.handled=none) (e0:xQ P w K mg base A outer s H) (hl:vs.length=ps.length) (r:Vals vs us)
  (x:InCallC s s.heap.objs.size (bindL (envOfC qual scope s.heap.objs.size f cd).kindOf (ps.zip us) λ_=>none) (cellsFrom (s.heap.objs.size+1) scope.names []) (bindC (envOfC qual scope s.heap.objs.size f cd).kindOf (ps.zip us) λ_=>none) s1) :
  Inv (wu CX P w K mg base N qual scope f cd A outer s H E) [] (start N vs) H s1:=by
 have jW:ps.length<=N.length:=by have:=congrArg List.length S.pre;rw[k_]at this;omega
 obtain⟨h1,tk,rfl,hk⟩:=x.done;have LR:∀b:Addr,b∉(wu CX P w K mg base N qual scope f cd A outer s H E).ex:=λb z=>absurd (show b∈([]:List Addr) from z) (by simp);refine⟨⟨e0.mod,S.kind,rfl,rfl,gh _,λy z c h1 h2=>?_,λy hy=>?_,λy c _ h=>?_,λ_=>hd,Around.frames_deeper e0.frames,.inr ⟨rfl,rfl⟩,λb z=>absurd z (LR b),e0.bs,e0.D_,λb _ _=>LR b,λb z=>absurd z (LR b),e0.rA,e0.Ir⟩,
  rfl,e0.bare,Un.kept hk,⟨_,x.toInCall.ns,λi y v h1 h2 h3=>?_⟩,λy c h=>⟨_,x.cell y c h⟩,e0.bV.fresh (gh _),λy c h=>?_,λp hp=>absurd (show p∈([]:List (Addr×Obj)) from hp) (by simp),e0.bV.kept hk,?_⟩
 ·exact name_of_addr x.apart (PySem.mem_of_lookup h1) (PySem.mem_of_lookup h2)
 ·have hy:scope.names.lookup y=some .cell\/scope.names.lookup y=some .free:=hy;rcases hy with hy | hy
  ·exact zm4 hy
  ·exact absurd rfl (S.Sd _ (PySem.mem_of_lookup hy))
 ·exact mH (x.above y c (PySem.mem_of_lookup h))
 ·have hi:i<vs.length:=by
   unfold start at h2;by_cases hi:i<vs.length
   ·exact hi
   ·rw[gR (by simpa using hi)]at h2;rw[List.getElem?_replicate]at h2
    split at h2<;>cases h2
  have ha:vs[i]? = some v:=by
   unfold start at h2;rw[gQ (by simpa using hi),gF]at h2;cases e:vs[i]? with
   | none=>rw[e]at h2;cases h2
   | some a=>rw[e]at h2;cases h2;rfl
  obtain⟨u,hu,rv⟩:=r.get ha;have hp:ps[i]? = some y:=by
   rw[<-S.pre,List.getElem?_take_of_lt (by omega)];exact h1
  have ndP:ps.Nodup:=by rw[<-S.pre];exact S.nd.sublist (List.take_sublist _ _)
  refine⟨u,rv,?_⟩;rcases S.par y (gY hp) with k | k
  ·exact .inl ⟨k,zkz ndP hp hu k⟩
  ·obtain⟨c,e⟩:=zm4 (n:=s.heap.objs.size+1) k;refine .inr ⟨.inl k,c,e,?_⟩;have q:=x.cell y c e;rw[zku ndP hp hu (by show scope.names.lookup y≠_;rw[k];decide)]at q;exact q
 ·exact e0.bV.fresh (mH (x.above y c (PySem.mem_of_lookup h)))
 ·unfold start;show _=N.length;rw[gC,gf,List.length_replicate];omega
theorem Iv {CX:Eu}{P:Program}{w:World}{K:PySem.W.Frag}{mg:Str->Option Value}{base:Heap}{k:Nat}{f:Addr}{name qual:Str}{params:Arguments}{body:List Stmt}{scope:Scope}{dV kV doc pm cdv ct oc:Value}{an od:Option Addr}
  {ux:Array (Option Value)} {N ps:List Str} {sp:Sp} (lk:K.lookup f=some ⟨oc,od,.func (PySem.W.fnOf name qual params body scope dV kV doc pm an cdv ct),ux⟩) (xH:PySem.W.codeIn K cdv qual=true) (S:aX N ps scope)
  (len:∀vs H Q E,sp vs H Q E->vs.length=ps.length)
  (qG:∀(A:Around) (outer:List Env) (s:Shared) (H:Hp) (vs:List V) (Q:VK) (E:XK),dC k (A.deeper (envOfC qual scope s.heap.objs.size f cdv))->sp vs H Q E ->
   ∃t,yG (wu CX P w K mg base N qual scope f cdv A outer s H E) body t/\t { nx:=λ_ H'=>Q .non H',rt:=Q } (start N vs) H) :
  a_ P w K mg base CX (k+1) f (PySem.W.fnOf name qual params body scope dV kV doc pm an cdv ct) ps sp:=by
 refine⟨len,λA outer s H args us vs Q E hr e0 hb r V5=>?_⟩;have hl:=len _ _ _ _ V5;have KX:K.In s.heap:=e0.mod.Sv.keeps λb o e=>(e0.bs b o e).1;have lim:s.heap.NoLimit:=e0.mod.nolimit.keeps λb o e=>(e0.bs b o e).1;have aag:∀y∈ps.zip us,scope.names.lookup y.1=some .local\/(scope.names.lookup y.1=some .cell/\((cellsFrom (s.heap.objs.size+1) scope.names []).lookup y.1).isSome=true):=λ⟨n,v⟩ hy=>by
  rcases S.par n (pC hy).1 with q | q
  ·exact .inl q
  ·exact .inr ⟨q,PySem.W.cellsFrom_some _ _ _ (.inl q)⟩
 refine codeAny_call_function hr.depth (KX _ _ lk) rfl S.co S.gen rfl (PySem.W.codeRec_of KX xH) (hb _ _ _ _ ?_);refine wpAny_newFunctionEnv_cells S.kind aag λenv he s1 x=>?_;subst he;refine⟨lim.keeps x.toInCall.keep,codeAny_func ?_⟩;obtain⟨t,ht,hq⟩:=qG A outer s H vs Q E (hr.deeper _) V5;have I:Inv (wu CX P w K mg base N qual scope f cdv A outer s H E) [] (start N vs) H s1:=Df S hr.hd e0 hl r x;refine wpAny_mono (ht [] s1 (start N vs) H _ I hq) (λfl s' hs=>?_) λe s' hs=>hs;have fin:∀{σ':St} {H':Hp} {v:V} {u:Value},Inv (wu CX P w K mg base N qual scope f cdv A outer s H E) [] σ' H' s'->RelV v u->Q v H'->CE outer P w H s Q u s' :=
  λ{σ' H' v u} J rv q=>⟨v,H',J.os,J.bare,J.base,J.bV,rv,q⟩
 cases fl with
 | ret u =>
  obtain⟨v,σ',H',J,rv,q⟩:=hs;exact fin J rv q
 | next =>
  obtain⟨σ',H',J,q⟩:=hs;exact fin (v:=V.non) (u:=Value.none) J rfl q
 | brk =>
  obtain⟨_,_,_,q⟩:=hs;exact False.elim q
 | cont =>
  obtain⟨_,_,_,q⟩:=hs;exact False.elim q
section
variable {X:Cx}{x:Str}{p pos:Pos}{e:Expr}{es:List Expr}{t:TA}{id T:String}{r:List V->Hp->VK->Prop}
noncomputable def tCB (r:List V->Hp->VK->Prop)(t:TA):TE:=fun σ H Q=>t σ H λvs H1=>r vs H1 Q
theorem zoc (hc:cu X (.builtin id) r)(hg:Gl X x)(hm:X.mg x=none)(hv:bootBuiltins x=some (.builtin id))(ha:PA X (e::es) t)(hn:x ≠ "__name__":=by decide)(vB:(x==("__debug__":Str))=false:=by decide)
  (he:starEach (e::es) X.env=(false,eval e X.env)::starEach es X.env:=by rfl) (jW:(backTo pos (starEach es X.env)).any (·.1)=false:=by rfl):PE X (.Call (.Name x p) (e::es) [] pos) (tCB r t):=by
 intro pins s σ H Q I h;refine wpAny_Call_Name_kw (Qm I hg hm hv ?_ hn vB);refine PyProof.Rows.callWith_builtin1 (dz (ha pos pins s σ H _ I h) λus s1 zz=>?_) he jW;obtain⟨vs,H1,I1,r1,q1⟩:=zz;exact hc pins s1 σ H1 vs us Q I1 r1 q1
theorem Cq (hc:cu X (.type T) r)(hg:Gl X x)(hm:X.mg x=none)(hv:bootBuiltins x=some (.type T))(ha:PA X (e::es) t)(hn:x ≠ "__name__":=by decide)(vB:(x==("__debug__":Str))=false:=by decide)
  (he:starEach (e::es) X.env=(false,eval e X.env)::starEach es X.env:=by rfl) (jW:(backTo pos (starEach es X.env)).any (·.1)=false:=by rfl):PE X (.Call (.Name x p) (e::es) [] pos) (tCB r t):=by
 intro pins s σ H Q I h;refine wpAny_Call_Name_kw (Qm I hg hm hv ?_ hn vB);refine PyProof.Rows.callWith_type1 (dz (ha pos pins s σ H _ I h) λus s1 zz=>?_) he jW;obtain⟨vs,H1,I1,r1,q1⟩:=zz;exact hc pins s1 σ H1 vs us Q I1 r1 q1
end
end L2
namespace HT
open PySem PyProof.Rows
section
open PySem.SeqAt
open PySem.AutoSeq1 (wpAny_loadPart')
open PySem.MeetsSeq PySem.MeetsSeq2 PySem.MeetsSeq3
end
section
variable {prog:Program}{w:World}{A:Around}{E:Value->Shared->Prop}{s:Shared}
theorem Nx {t b:Addr}{vs ws:List Value}{Q:Value->Shared->Prop}(ht:IsTup s.heap t vs.toArray)(hb:IsTup s.heap b ws.toArray)(hv:vs≠[])
  (h1:ws=[]->Q (.ref t) s) (h2:ws≠[]->Q (.ref s.heap.objs.size) { s with heap:=s.heap.push { cls:=.type "tuple",data:=.seq (vs++ws).toArray } })
  (hsz:vs.length+ws.length<=sizeLine):wpAny (model prog w) A (binaryOp .Add (.ref t) (.ref b)) Q E s:=by
 obtain⟨⟨cls,dd,data,sl⟩,ho,hc,n,hd⟩:=id ht;obtain⟨⟨acF,dd2,data2,sl2⟩,M3,T9,n2,hd2⟩:=id hb;simp only at hc hd T9 hd2;subst hc hd T9 hd2;have e:vs.toArray++ws.toArray=(vs++ws).toArray:=by simp
 by_cases hw:ws=[]
 ·exact concat_meets ⟨_,ho,rfl⟩ ⟨_,M3,rfl⟩ noFill_tuple_add seq_tuple_add PySem.F.slot_tuple_add PySem.F.entry_tuple_add (PySem.F.args_tuple_add_2 _ _)
   (tuple_addW1 t b vs.toArray ws.toArray n n2 dd dd2 sl sl2 (by simpa using hv) (by simp[hw])) ⟨ho,M3,h1 hw⟩
 ·refine concat_meets ⟨_,ho,rfl⟩ ⟨_,M3,rfl⟩ noFill_tuple_add seq_tuple_add PySem.F.slot_tuple_add PySem.F.entry_tuple_add (PySem.F.args_tuple_add_2 _ _)
   (tuple_addW2 t b vs.toArray ws.toArray n n2 dd dd2 sl sl2 (by simpa using hv) (by simpa using hw) (by rw[gK,gK];exact hsz)) ⟨ho,M3,?_⟩
  rw[e];exact h2 hw
noncomputable def cR (n d:Nat):Option Int->Nat
 | none=>d
 | some v=>if v<0 then (v+(n:Int)).toNat else min v.toNat n
theorem U9 (n d:Nat):cR n d none=d:=rfl
theorem zog (n d k:Nat):cR n d (some (k:Int))=min k n:=by
 show (if (k:Int)<0 then ((k:Int)+(n:Int)).toNat else min (k:Int).toNat n)=min k n;rw[if_neg (by omega),mC]
theorem FQ (n d:Nat)(hd:d<=n)(o:Option Int):cR n d o<=n:=by
 cases o with
 | none=>exact hd
 | some v =>
  show (if v<0 then (v+(n:Int)).toNat else min v.toNat n)<=n;by_cases hv:v<0
  ·rw[if_pos hv];omega
  ·rw[if_neg hv];exact Nat.min_le_right _ _
theorem Bg (v:Int)(n d:Nat):(if v<0 then max (v+(n:Int)) 0 else min v (n:Int))=((cR n d (some v):Nat):Int):=by
 show (if v<0 then max (v+(n:Int)) 0 else min v (n:Int))=(((if v<0 then (v+(n:Int)).toNat else min v.toNat n):Nat):Int);by_cases hv:v<0
 ·simp only[if_pos hv];omega
 ·simp only[if_neg hv];omega
theorem zmx (lo hi:Option Int)(n:Nat):Builtin.Slice.sliceAdjust lo hi 1 (n:Int)=(((cR n 0 lo:Nat):Int),((cR n n hi:Nat):Int)):=by
 have h1:¬ ((1:Int)<0):=by omega
 unfold Builtin.Slice.sliceAdjust;simp only[h1,if_false];refine Prod.ext ?_ ?_
 ·cases lo with
  | none=>rfl
  | some v=>exact Bg v n 0
 ·cases hi with
  | none=>rfl
  | some v=>exact Bg v n n
theorem zoi (i j:Nat):Builtin.Slice.slicePlaces (i:Int) (j:Int) 1=j - i:=by
 unfold Builtin.Slice.slicePlaces;have h1:(1:Int) > 0:=by omega
 simp only[h1,if_true,Int.ediv_one]
 split<;>omega
theorem zi6 {v:Value}{o:Option Int}{Q:Option Int->Shared->Prop}(p:IsPart v o)(h:Q o s):wpAny (model prog w) A (Builtin.Slice.slicePartIndex v) Q E s:=by
 cases p with
 | none=>exact slicePart_none h
 | int i t=>exact slicePart_int h
theorem zew {sl:Addr}{vl vu:Value}{lo hi:Option Int}{n:Nat}{Q:Int×Int×Nat->Shared->Prop}(hs:s.heap.IsSliceOf sl vl vu .none)(pl:IsPart vl lo)(pu:IsPart vu hi)
  (h:Q (((cR n 0 lo:Nat):Int),1,cR n n hi - cR n 0 lo) s):wpAny (model prog w) A (Builtin.Slice.sliceApplied (.ref sl) (pure (n:Int))) Q E s:=by
 obtain⟨os,yO,hcs,yp⟩:=id hs;unfold Builtin.Slice.sliceApplied Builtin.Slice.sliceFields;refine wpAny_bind (wpAny_bind (wpAny_field yO yp (x:=vl) rfl (wpAny_bind (wpAny_field yO yp (x:=vu) rfl (wpAny_bind (wpAny_field yO yp (x:=.none) rfl (wpAny_pure ?_)))))));refine wpAny_bind (slicePart_none ?_);show wpAny _ _ (if ((1:Int)==0)=true then _ else _) _ _ s;rw[if_neg (by decide)];refine wpAny_bind (zi6 pl (wpAny_bind (zi6 pu (wpAny_bind (wpAny_pure ?_)))));show wpAny _ _ (match Builtin.Slice.sliceAdjust lo hi 1 (n:Int) with | (lo,hi)=>pure (lo,(1:Int),Builtin.Slice.slicePlaces lo hi 1)) _ _ s;rw[zmx lo hi n];show wpAny _ _ (pure (((cR n 0 lo:Nat):Int),(1:Int),Builtin.Slice.slicePlaces ((cR n 0 lo:Nat):Int) ((cR n n hi:Nat):Int) 1)) _ _ s;rw[zoi];exact wpAny_pure h
theorem Gm (xs:Array Value)(i k:Nat):((List.range k).filterMap λ(m:Nat)=>xs[((i:Int)+(m:Int)*1).toNat]?).toArray=((xs.toList.drop i).take k).toArray:=by
 have e:(λ(m:Nat)=>xs[((i:Int)+(m:Int)*1).toNat]?)=λm=>xs[i+m]?:=by
  funext m;have:((i:Int)+(m:Int)*1).toNat=i+m:=by omega
  rw[this]
 rw[e];have:=pick_run xs i k;rw[List.filterMap_map]at this;have e2:((λx=>xs[x]?)∘λx=>i+x)=λm=>xs[i+m]?:=rfl;rw[e2]at this;rw[this]
theorem zgu {t sl:Addr}{items:Array Value}{vl vu:Value}{lo hi:Option Int}{Q:Value->Shared->Prop}(ht:IsTup s.heap t items)(hs:s.heap.IsSliceOf sl vl vu .none)(pl:IsPart vl lo)(pu:IsPart vu hi)
  (hw:¬ (cR items.size 0 lo=0/\cR items.size items.size hi=items.size))
  (h:Q (.ref s.heap.objs.size) { s with heap:=s.heap.push { cls:=.type "tuple",data:=.seq ((items.toList.drop (cR items.size 0 lo)).take (cR items.size items.size hi - cR items.size 0 lo)).toArray } })
  (hsz:items.size<=sizeLine):wpAny (model prog w) A (getItem (.ref t) (.ref sl)) Q E s:=by
 have Ay:sizeOk (.seq ((items.toList.drop (cR items.size 0 lo)).take (cR items.size items.size hi - cR items.size 0 lo)).toArray):=by
  show ((items.toList.drop (cR items.size 0 lo)).take (cR items.size items.size hi - cR items.size 0 lo)).toArray.size<=sizeLine;rw[gK,k_,mY,g_];omega
 have hj:cR items.size items.size hi<=items.size:=FQ _ _ (gh _) hi;obtain⟨os,yO,hcs,yp⟩:=id hs;have hTs:s.TypeIs (.ref sl) "slice":=⟨os,yO,hcs⟩;unfold getItem
 try with_reducible refine wpAny_holding ?_
 first | refine wpAny_bind (wpAny_pure ?_) | skip
 refine wpAny_bind (wpAny_sequenceKey ht.typeIs (by decide) ?_);refine wpAny_bind (wpAny_callSpecial?_slot (name:=Str.ofString "__getitem__") ht.typeIs PyProof.Rows.slot_tuple_getitem
  (wpAny_call_entry PyProof.Rows.slot_tuple_getitem ht.typeIs entry_tuple_getitem ?_ (args_tuple_getitem _ _)))
 show wpAny _ _ (Builtin.Tuple.tupleItemsOf (.ref t) >>= _) _ _ s;refine wpAny_bind (tupleItemsOf_ ht ?_);refine wpAny_bind (wpAny_typeOf hTs ?_);rw[if_pos (by decide)];refine wpAny_bind (zew hs pl pu ?_);have yP:¬ ((((cR items.size 0 lo:Nat):Int)==0 && (1:Int)==1 && (cR items.size items.size hi - cR items.size 0 lo)==items.size)=true):=by
  intro q;rw[mq,mq]at q;have q1:((cR items.size 0 lo:Nat):Int)=0:=eq_of_beq q.1.1;have q2:cR items.size items.size hi - cR items.size 0 lo=items.size:=eq_of_beq q.2;exact hw ⟨by omega,by omega⟩
 show wpAny _ _ (if (((cR items.size 0 lo:Nat):Int)==0 && (1:Int)==1 && (cR items.size items.size hi - cR items.size 0 lo)==items.size)=true then _ else _) _ _ s;rw[if_neg yP,Gm]
 first
  | exact wpAny_bind (m:=Builtin.Tuple.tupleExact _) (wpAny_newObj_type (wpAny_pure ⟨_,rfl,wpAny_pure h⟩) Ay)
  | exact wpAny_bind (m:=Builtin.Tuple.tupleExact _) (wpAny_newObj_type (wpAny_bind (wpAny_pure (wpAny_pure ⟨_,rfl,wpAny_pure h⟩))) Ay)
  | exact wpAny_bind (wpAny_bind (m:=Builtin.Tuple.tupleExact _) (wpAny_newObj_type (wpAny_pure (wpAny_pure ⟨_,rfl,wpAny_pure h⟩)) Ay))
  | exact wpAny_bind (wpAny_bind (m:=Builtin.Tuple.tupleExact _) (wpAny_newObj_type (wpAny_pure ⟨_,rfl,wpAny_pure h⟩) Ay))
end
end HT
namespace L2
open PySem PySem.Spec PyProof.Rows
noncomputable abbrev TO:=St->Hp->(Option Int->Hp->Prop)->Prop
noncomputable def PO (X:Cx)(e:Option Expr)(t:TO):Prop :=
 ∀(pins:List (Addr×Obj)) (s:Shared) (σ:St) (H:Hp) (Q:Option Int->Hp->Prop),Inv X pins σ H s->t σ H Q ->
  wpAny (model X.prog X.w) X.A (evalPart e X.env) (λu s'=>∃o H',Inv X pins σ H' s'/\IsPart u o/\Q o H') X.xe s
noncomputable def Kr:TO:=λ_ H Q=>Q none H
noncomputable def Yi (t:TE):TO:=fun σ H Q=>t σ H λx H1=>∃i,x=.int i/\Q (some i) H1
section
variable {X:Cx}{e:Expr}{te:TE}{lo hi:Option Expr}{tl th:TO}{pos p2:Pos}
theorem Lf:PO X none Kr:=by
 intro pins s σ H Q I h;rw[evalPart_none];exact wpAny_pure ⟨none,H,I,.none,h⟩
theorem Le (h:PE X e te):PO X (some e) (Yi te):=by
 intro pins s σ H Q I hw;rw[evalPart_some];refine dz (h pins s σ H _ I hw) λu s1 zz=>?_;obtain⟨x,H1,I1,r1,q1⟩:=zz;obtain⟨i,rfl,q⟩:=q1;obtain⟨t,rfl⟩:=r1;exact⟨some i,H1,I1,.int i t,q⟩
noncomputable def yF (X:Cx)(r:V->Option Int->Option Int->Hp->VK->Prop):Prop :=
 ∀(pins:List (Addr×Obj)) (s:Shared) (σ:St) (H:Hp) (x:V) (v vl vu:Value) (lo hi:Option Int) (sl:Addr) (Q:VK),Inv X pins σ H s->RelV x v->s.heap.IsSliceOf sl vl vu .none->IsPart vl lo->IsPart vu hi->r x lo hi H Q ->
  ∃T id,typeLookup (.type T) "__getitem__" = pure (some (.builtin id))/\s.TypeIs v T/\wpAny (model X.prog X.w) X.A (getItem v (.ref sl)) (EP X pins σ Q) X.xe s
theorem yF.or {r r':V->Option Int->Option Int->Hp->VK->Prop}(h:yF X r)(h':yF X r'):yF X (λx lo hi H Q=>r x lo hi H Q\/r' x lo hi H Q):=by
 intro pins s σ H x v vl vu lo hi sl Q I rx hs pl pu q;rcases q with q | q
 ·exact h pins s σ H x v vl vu lo hi sl Q I rx hs pl pu q
 ·exact h' pins s σ H x v vl vu lo hi sl Q I rx hs pl pu q
noncomputable def tSl (r:V->Option Int->Option Int->Hp->VK->Prop)(te:TE)(tl th:TO):TE:=fun σ H Q=>te σ H λx H1=>tl σ H1 λl H2=>th σ H2 λu H3=>r x l u H3 Q
theorem Gr {r:V->Option Int->Option Int->Hp->VK->Prop}(hr:yF X r)(he:PE X e te)(hl:PO X lo tl)(hu:PO X hi th):PE X (.Subscript e (.Slice lo hi none p2) pos) (tSl r te tl th):=by
 intro pins s σ H Q I h;refine Subscript_ (dz (he pins s σ H _ I h) λv s1 zz=>?_);obtain⟨x,H1,I1,r1,q1⟩:=zz;refine wpAny_Slice (dz (hl pins s1 σ H1 _ I1 q1) λvl s2 zz=>?_);obtain⟨l,H2,I2,pl,q2⟩:=zz;refine dz (hu pins s2 σ H2 _ I2 q2) λvu s3 zz=>?_;obtain⟨u,H3,I3,pu,q3⟩:=zz;rw[evalPart_none];refine wpAny_pure ?_;have I4:Inv X pins σ H3 { s3 with heap:=s3.heap.push { cls:=.type "slice",data:=.fields #[vl,vu,.none] } }:=I3.kept (t':=s3.toks) λb ob q=>gq _ q;obtain⟨T,id,hT,ht,hg⟩:=hr pins { s3 with heap:=s3.heap.push { cls:=.type "slice",data:=.fields #[vl,vu,.none] } } σ H3 x v vl vu l u s3.heap.objs.size Q I4 r1 (Heap.IsSliceOf.new ..) pl pu q3;show wpAny (model X.prog X.w) X.A (subscriptTail e (.Slice lo hi none p2) v (.ref s3.heap.objs.size)) (EP X pins σ Q) X.xe { s3 with heap:=s3.heap.push { cls:=.type "slice",data:=.fields #[vl,vu,.none] } };exact tail_any (ops:=[.ref s3.heap.objs.size,v]) ht hT hg (by with_unfolding_all rfl)
noncomputable def yz (xs:List V)(lo hi:Option Int):List V:=(xs.drop (HT.cR xs.length 0 lo)).take (HT.cR xs.length xs.length hi - HT.cR xs.length 0 lo)
theorem zh8 (xs:List V)(lo hi:Option Int):(yz xs lo hi).length<=xs.length:=by
 unfold yz;rw[k_,mY];omega
noncomputable def abx (K:PySem.W.Frag):V->Option Int->Option Int->Hp->VK->Prop:=λx lo hi H Q=>∃a xs,x=.ref a/\uo K H a xs /\
 ¬ (HT.cR xs.length 0 lo=0/\HT.cR xs.length xs.length hi=xs.length)/\∀p,H p=none->Q (.ref p) (upd H p (.tup (yz xs lo hi)))
theorem Q6:yF X (abx X.K):=by
 intro pins s σ H x v vl vu lo hi sl Q I rx hs pl pu h;obtain⟨a,xs,rfl,hx,hw,q⟩:=h;cases rx;obtain⟨its,r,ht,hz⟩:=I.tuple hx;have hlen:its.toArray.size=xs.length:=by rw[gK];exact r.length.symm
 refine⟨"tuple",_,PyProof.Rows.slot_tuple_getitem.lookup,ht.typeIs,?_⟩;refine HT.zgu ht hs pl pu (by rw[hlen];exact hw) ?_ (by rw[hlen];exact hz);rw[hlen];refine⟨.ref s.heap.objs.size,_,I.laid (t':=s.toks) (o:=.tup (yz xs lo hi)) (λb ob q=>gq _ q) (gh _) ?_,rfl,q _ (I.bV.fresh (gh _))⟩;exact⟨gU (zh8 xs lo hi) hz,_,(r.drop (HT.cR xs.length 0 lo)).take (HT.cR xs.length xs.length hi - HT.cR xs.length 0 lo),IsTup.new _ _⟩
noncomputable def YS (K:PySem.W.Frag):R2:=λx y H Q=>∃a b xs ys,x=.ref a/\y=.ref b/\uo K H a xs/\uo K H b ys/\xs≠[]/\xs.length+ys.length<=sizeLine /\
 (ys=[]->Q (.ref a) H)/\(ys≠[]->∀p,H p=none->Q (.ref p) (upd H p (.tup (xs++ys))))
theorem Vals.xj {xs:List V}{us:List Value}(r:Vals xs us):us=[]↔xs=[]:=by
 cases r with
 | nil=>simp
 | cons _ _=>simp
theorem LK:dG X (binaryOp .Add) (YS X.K):=by
 intro pins s σ H x y v u Q I rx ry h;obtain⟨a,b,xs,ys,rfl,rfl,ha,hb,hx,hz,q1,q2⟩:=h;cases rx;cases ry;obtain⟨its,r1,p1,_⟩:=I.tuple ha;obtain⟨lZ,r2,p2,_⟩:=I.tuple hb;refine HT.Nx p1 p2 (λz=>hx (r1.xj.mp z)) (λz=>⟨.ref a,H,I,rfl,q1 (r2.xj.mp z)⟩) (λz=>?_) (by rw[<-r1.length,<-r2.length];exact hz);refine⟨.ref s.heap.objs.size,_,I.laid (t':=s.toks) (o:=.tup (xs++ys)) (λb ob q=>gq _ q) (gh _) ?_,rfl,q2 (λw=>z (r2.xj.mpr w)) _ (I.bV.fresh (gh _))⟩;exact⟨by rw[gC];exact hz,_,r1.append r2,IsTup.new _ _⟩
end
noncomputable def Ar (n:Nat)(i:Int):Option Nat:=if 0<=i then (if i<n then some i.toNat else none) else if -(n:Int)<=i then some (i+n).toNat else none
noncomputable def sy {α:Type}(xs:List α)(i:Int):Option α:=(Ar xs.length i).bind λj=>xs[j]?
theorem Aq {n:Nat}{i:Int}{j:Nat}(h:Ar n i=some j):seqIndex? i n=some j/\j<n/\-(n:Int)<=i/\i<n:=by
 unfold Ar at h;by_cases h0:0<=i
 ·rw[if_pos h0]at h;by_cases h1:i<n
  ·rw[if_pos h1]at h;have e:i.toNat=j:=Option.some.inj h;exact⟨by rw[seqIndex_of h0 h1,e],by omega,by omega,h1⟩
  ·rw[if_neg h1]at h;cases h
 ·rw[if_neg h0]at h;by_cases h1:-(n:Int)<=i
  ·rw[if_pos h1]at h;have e:(i+n).toNat=j:=Option.some.inj h;exact⟨by rw[seqIndex_neg (by omega) h1,e],by omega,h1,by omega⟩
  ·rw[if_neg h1]at h;cases h
theorem zno {α:Type}{xs:List α}{i:Int}{v:α}(h:sy xs i=some v):∃j,seqIndex? i xs.length=some j/\xs[j]? = some v/\j<xs.length/\-(xs.length:Int)<=i/\i<xs.length:=by
 unfold sy at h;cases e:Ar xs.length i with
 | none=>rw[e]at h;cases h
 | some j =>
  rw[e]at h;obtain⟨h1,h2,h3,h4⟩:=Aq e;exact⟨j,h1,h,h2,h3,h4⟩
noncomputable def Bm (b:Expr):Prop:=∀o i,subscripted b false o i=operate [o,i] (getItem o i)
noncomputable def Bo (X:Cx)(r:R2):Prop :=
 ∀(value slice:Expr) (pins:List (Addr×Obj)) (s:Shared) (σ:St) (H:Hp) (x y:V) (v u:Value) (Q:VK),Inv X pins σ H s->RelV x v->RelV y u->r x y H Q ->
  subscripted slice false v u=operate [v,u] (getItem v u)->wpAny (model X.prog X.w) X.A (subscriptTail value slice v u) (EP X pins σ Q) X.xe s
noncomputable def yH (X:Cx)(id:String)(r:V->List V->Hp->VK->Prop):Prop :=
 ∀(pins:List (Addr×Obj)) (s:Shared) (σ:St) (H:Hp) (x:V) (xs:List V) (v:Value) (us:List Value) (Q:VK),Inv X pins σ H s->RelV x v->Vals xs us->r x xs H Q ->
  wpAny (model X.prog X.w) X.A (call (.builtin id) (v::us)) (EP X pins σ Q) X.xe s
section
variable {X:Cx}{a b:Expr}{ta tb:TE}{pos:Pos}
theorem Bo.or {r r':R2}(h:Bo X r)(h':Bo X r'):Bo X (λx y H Q=>r x y H Q\/r' x y H Q):=by
 intro value slice pins s σ H x y v u Q I rx ry q hs;rcases q with q | q
 ·exact h value slice pins s σ H x y v u Q I rx ry q hs
 ·exact h' value slice pins s σ H x y v u Q I rx ry q hs
theorem Y9 {r:R2}(hr:Bo X r)(ha:PE X a ta)(hb:PE X b tb)(hs:Bm b):PE X (.Subscript a b pos) (tOp r ta tb):=by
 intro pins s σ H Q I h;exact Subscript_ (Ut ha hb I h λv u s2 x y H2 I2 rx ry q=>hr a b pins s2 σ H2 x y v u Q I2 rx ry q (hs _ _))
noncomputable def YQ (K:PySem.W.Frag):R2:=λx y H Q=>∃p xs i v,x=.ref p/\y=.int i/\uW K H p xs/\sy xs i=some v/\Q v H
noncomputable def YL (K:PySem.W.Frag):R2:=λx y H Q=>∃p xs i v,x=.ref p/\y=.int i/\uo K H p xs/\sy xs i=some v/\Q v H
noncomputable def YM:R2:=λx y H Q=>∃z i c,x=.str z/\y=.int i/\z.length<=sizeLine/\sy z.cps.toList i=some c/\Q (.str ⟨#[c]⟩) H
theorem Ms:Bo X (YQ X.K):=by
 intro value slice pins s σ H x y v u Q I rx ry h hs;obtain⟨p,xs,i,z,rfl,rfl,hq,he,q⟩:=h;cases rx;obtain⟨t,rfl⟩:=ry;obtain⟨its,r,pl,hz⟩:=I.list hq;obtain⟨j,h1,h2,h3,h4,h5⟩:=zno he;obtain⟨w,ew,B_⟩:=r.get h2;have hl:=r.length;have hn:=rT;have fin:EP X pins σ Q w s:=⟨z,H,I,B_,q⟩;by_cases h0:0<=i
 ·have hj:i.toNat=j:=by
   rw[seqIndex_of h0 h5]at h1;exact Option.some.inj h1
  exact item_listR pl.isList h0 (by omega) (by rw[hj];simpa using ew) fin hs
 ·have hj:(i+(its.toArray.size:Int)).toNat=j:=by
   rw[seqIndex_neg (by omega) h4]at h1;rw[gK,<-hl];exact Option.some.inj h1
  exact subscriptTail_builtinR (x:=w) pl.isList.typeIs slot_list_getitem.lookup
   (wpAny_getItem_list_neg (Q:=λr s'=>r=w/\EP X pins σ Q r s') pl.isList (by omega) (by rw[gK]<;>omega) (by omega) (by rw[hj];simpa using ew) ⟨rfl,fin⟩) hs
theorem S8:Bo X (YL X.K):=by
 intro value slice pins s σ H x y v u Q I rx ry h hs;obtain⟨p,xs,i,z,rfl,rfl,hq,he,q⟩:=h;cases rx;obtain⟨t,rfl⟩:=ry;obtain⟨its,r,pl,hz⟩:=I.tuple hq;obtain⟨j,h1,h2,h3,h4,h5⟩:=zno he;obtain⟨w,ew,B_⟩:=r.get h2;have hl:=r.length;have hn:=rT;have fin:EP X pins σ Q w s:=⟨z,H,I,B_,q⟩;exact subscriptTail_builtinR (x:=w) pl.typeIs slot_tuple_getitem.lookup
  (getItem_tuple (j:=j) (Q:=λr s'=>r=w/\EP X pins σ Q r s') pl (by omega) (by omega) (by rw[gK,<-hl];exact h1) (by simpa using ew) ⟨rfl,fin⟩) hs
theorem S9:Bo X YM:=by
 intro value slice pins s σ H x y v u Q I rx ry h hs;obtain⟨z,i,c,rfl,rfl,hz,he,q⟩:=h;obtain⟨t,rfl⟩:=rx;obtain⟨t',rfl⟩:=ry;obtain⟨j,h1,h2,h3,h4,h5⟩:=zno he;have hl:z.cps.toList.length=z.length:=by simp[Str.length]
 rw[hl]at h1 h4 h5;have hn:=rT;exact tail_any (typeIs_str s z t) slot_str_getitem.lookup (getItem_str (c:=c) (by
  have e1:decide (i < -(2 ^ 63:Int))=false:=decide_eq_false (by omega);have e2:decide (i ≥ 2 ^ 63)=false:=decide_eq_false (by omega);rw[e1,e2,Bool.or_false]) (by rw[h1];simpa using h2) ⟨.str ⟨#[c]⟩,H,I.tok _,⟨_,rfl⟩,q⟩) hs
noncomputable def rIx (K:PySem.W.Frag):R2:=λx y H Q=>YQ K x y H Q\/YL K x y H Q\/YM x y H Q
theorem S_:Bo X (rIx X.K):=Ms.or (S8.or S9)
theorem zn3 (its:List Value)(n j:Nat)(u:Value):Obj.mapSeq (·.setIfInBounds j u) { cls:=.type "list",data:=.seq its.toArray n }={ cls:=.type "list",data:=.seq (its.set j u).toArray n }:=by
 simp[Obj.mapSeq]
theorem Inv.lst {pins:List (Addr×Obj)}{σ:St}{H:Hp}{s:Shared}{p:Addr}{xs:List V}(I:Inv X pins σ H s)(h:H p=some (.lst xs)) :
  ∃(its:List Value) (n:Nat),Vals xs its/\s.heap.get? p=some { cls:=.type "list",data:=.seq its.toArray n }/\xs.length<=sizeLine:=by
 obtain⟨z,its,n,r,e⟩:=I.bV p _ h;exact⟨its,n,r,e,z⟩
theorem Inv.Sq {pins:List (Addr×Obj)}{σ:St}{H:Hp}{s:Shared}{p:Addr}{xs ys:List V}{its its':List Value}{n n':Nat}{f:Obj->Obj}(I:Inv X pins σ H s)(h:H p=some (.lst xs))
  (ho:s.heap.get? p=some { cls:=.type "list",data:=.seq its.toArray n }) (hf:f { cls:=.type "list",data:=.seq its.toArray n }={ cls:=.type "list",data:=.seq its'.toArray n' }) (r:Vals ys its') (hz:ys.length<=sizeLine) (t:Nat) :
  Inv X pins σ (upd H p (.lst ys)) { s with heap:=s.heap.update p f,toks:=t }:=by
 have e:(s.heap.update p f).get? p=some { cls:=.type "list",data:=.seq its'.toArray n' }:=by
  rw[m9 f ho (by rw[hf]<;>rfl),hf]
 refine I.write (x:=p) (e:=p) (by rw[h];trivial) (.inl rfl) (λb u hb q=>(pD _ _ (Ne.symm hb)).trans q) ⟨_,e⟩ ?_;exact⟨hz,its',n',r,e⟩
noncomputable def YK:V->V->V->Hp->(Hp->Prop)->Prop:=λo i v H Q=>∃p xs k j,o=.ref p/\i=.int k/\H p=some (.lst xs)/\Ar xs.length k=some j/\Q (upd H p (.lst (xs.set j v)))
theorem set_list:wz X YK:=by
 intro pins s σ H o i v ov iv u Q I ro ri rv h;obtain⟨p,xs,k,j,rfl,rfl,hp,hj,q⟩:=h;cases ro;obtain⟨t,rfl⟩:=ri;obtain⟨its,n,r,ho,hz⟩:=I.lst hp;obtain⟨h1,h2,h3,h4⟩:=Aq hj;have hl:=r.length;have hn:=rT;have I':Inv X pins σ (upd H p (.lst (xs.set j v))) { s with heap:=s.heap.update p (Obj.mapSeq (·.setIfInBounds j u)) } :=
  I.Sq hp ho (zn3 its n j u) (r.set rv j) (by rw[pF];exact hz) s.toks
 by_cases h0:0<=k
 ·have hk:k.toNat=j:=by
   rw[seqIndex_of h0 h4]at h1;exact Option.some.inj h1
  exact PySem.W.ki_setAt ho h0 (by omega) (by rw[gK,<-hl];exact h4) (by rw[hk];exact⟨_,I',q⟩)
 ·have hk:(k+(its.toArray.size:Int)).toNat=j:=by
   rw[seqIndex_neg (by omega) h3]at h1;rw[gK,<-hl];exact Option.some.inj h1
  exact PySem.W.ki_setBack ho (by omega) (by rw[gK,<-hl];exact h3) (by omega) (by rw[hk];exact⟨_,I',q⟩)
theorem zkp (lo hi:Option Int)(n:Nat):(sliceBounds lo hi none n).1=((HT.cR n 0 lo:Nat):Int)/\(sliceBounds lo hi none n).2.1=((HT.cR n n hi:Nat):Int)/\(sliceBounds lo hi none n).2.2=1:=by
 refine⟨?_,?_,rfl⟩
 ·cases lo with
  | none=>simp[sliceBounds,HT.cR]
  | some i =>
   simp only[sliceBounds,HT.cR,Option.getD_none,show (1:Int) > 0 by decide,if_true];by_cases h:i<0
   ·simp only[h,if_true]<;>omega
   ·simp only[h,if_false]<;>omega
 ·cases hi with
  | none=>simp[sliceBounds,HT.cR]
  | some i =>
   simp only[sliceBounds,HT.cR,Option.getD_none,show (1:Int) > 0 by decide,if_true];by_cases h:i<0
   ·simp only[h,if_true]<;>omega
   ·simp only[h,if_false]<;>omega
theorem zjq (its:List Value)(lo hi:Option Int):slicePick its.toArray lo hi none=((its.drop (HT.cR its.length 0 lo)).take (HT.cR its.length its.length hi - HT.cR its.length 0 lo)).toArray:=by
 obtain⟨h1,h2,h3⟩:=zkp lo hi its.toArray.size;unfold slicePick;rw[h1,h2,h3];simp only[sliceRange_one,pick_run,gK]<;>rfl
noncomputable def abz (K:PySem.W.Frag):V->Option Int->Option Int->Hp->VK->Prop:=λx lo hi H Q=>∃a xs,x=.ref a/\uW K H a xs/\∀p,H p=none->Q (.ref p) (upd H p (.lst (yz xs lo hi)))
theorem Kz:yF X (abz X.K):=by
 intro pins s σ H x v vl vu lo hi sl Q I rx hs pl pu h;obtain⟨a,xs,rfl,hx,q⟩:=h;cases rx;obtain⟨its,r,ht,hz⟩:=I.list hx;have hlen:=r.length;refine⟨"list",_,slot_list_getitem.lookup,ht.isList.typeIs,?_⟩;refine wpAny_getItem_list_slice ht.isList hs pl pu .none (by simp) ?_ (by rw[gK]<;>omega);rw[zjq,<-hlen];refine⟨.ref s.heap.objs.size,_,I.laid (t':=s.toks) (o:=.lst (yz xs lo hi)) (λb ob q=>gq _ q) (gh _) ?_,rfl,q _ (I.bV.fresh (gh _))⟩;exact⟨gU (zh8 xs lo hi) hz,_,0,(r.drop (HT.cR xs.length 0 lo)).take (HT.cR xs.length xs.length hi - HT.cR xs.length 0 lo),gH _ rfl⟩
noncomputable def vG:V->V->Bool
 | .non,.non=>true
 | .bl a,.bl b=>a==b
 | .bl a,.int b=>(if a then 1 else 0)==b
 | .int a,.bl b=>a==(if b then 1 else 0)
 | .int a,.int b=>a==b
 | .str a,.str b=>a==b
 | _,_=>false
theorem zj7:dG X (compareOp .NotIn) (λx y H Q=>∃i j,x=.str i/\y=.str j/\Q (.bl (!(!(Builtin.Str.occurrences j i 0 j.length 1).isEmpty))) H):=by
 intro pins s σ H x y v u Q I rx ry h;obtain⟨i,j,rfl,rfl,q⟩:=h;obtain⟨t,rfl⟩:=rx;obtain⟨t',rfl⟩:=ry;exact notIn_str ⟨.bl _,H,I,rfl,q⟩
theorem zj9:cu X (.builtin "len") (λxs H Q=>∃p ys,xs=[.ref p]/\(uW X.K H p ys\/uo X.K H p ys)/\Q (.int ys.length) H):=by
 intro pins s σ H xs us Q I r h;obtain⟨p,ys,rfl,hq,q⟩:=h;obtain⟨u,rfl,rx⟩:=vals1 r;cases rx;have hn:=rT;rcases hq with hq | hq
 ·obtain⟨its,r',pl,hz⟩:=I.list hq;have hlen:=r'.length;exact Calls.call_len_list pl.isList (by simp only[gK]<;>omega) ⟨.int ys.length,H,I.tok _,⟨s.toks+1,by rw[gK,hlen]⟩,q⟩
 ·obtain⟨its,r',pl,hz⟩:=I.tuple hq;have hlen:=r'.length;exact len_tuple pl (by simp only[gK]<;>omega) ⟨.int ys.length,H,I.tok _,⟨s.toks+1,by rw[gK,hlen]⟩,q⟩
theorem zkm:cu X (.builtin "len") (λxs H Q=>∃z,xs=[.str z]/\z.length<=sizeLine/\Q (.int z.length) H):=by
 intro pins s σ H xs us Q I r h;obtain⟨z,rfl,hz,q⟩:=h;obtain⟨u,rfl,t,rfl⟩:=vals1 r;have hn:=rT;exact len_str (by omega) ⟨.int z.length,H,I.tok _,⟨_,rfl⟩,q⟩
theorem cu.or {f:Value}{r r':List V->Hp->VK->Prop}(h:cu X f r)(h':cu X f r'):cu X f (λxs H Q=>r xs H Q\/r' xs H Q):=by
 intro pins s σ H xs us Q I rs q;rcases q with q | q
 ·exact h pins s σ H xs us Q I rs q
 ·exact h' pins s σ H xs us Q I rs q
noncomputable def tyV (K:PySem.W.Frag)(T:String)(x:V)(H:Hp):Prop:=match x with
 | .str _=>T = "str"
 | .int _=>T = "int"
 | .ref p=>(T = "list"/\∃xs,uW K H p xs)\/(T = "tuple"/\∃o,K.lookup p=some o/\o.cls=.type "tuple"/\o.dict=none) \/
   (T = "dict"/\((∃kvs,H p=some (.dK kvs))\/∃kvs,H p=some (.dT kvs)))\/(T = "set"/\∃S n,H p=some (.set S n))
 | _=>False
theorem QM {pins:List (Addr×Obj)}{σ:St}{H:Hp}{s:Shared}{T:String}{x:V}{v:Value}(I:Inv X pins σ H s)(r:RelV x v)(ty:tyV X.K T x H) :
  s.TypeIs v T/\∀a,v=.ref a->∃ob,s.heap.get? a=some ob/\ob.dict=none:=by
 cases x with
 | str z =>
  obtain⟨t,rfl⟩:=r;cases (show T = "str" from ty);exact⟨typeIs_str s z t,λ_ e=>nomatch e⟩
 | int i =>
  obtain⟨t,rfl⟩:=r;cases (show T = "int" from ty);exact⟨typeIs_int s i t,λ_ e=>nomatch e⟩
 | ref p =>
  cases r;rcases ty with⟨rfl,xs,hq⟩ | ⟨rfl,o,hk,hc,hd⟩ | ⟨rfl,hk⟩ | ⟨rfl,S,n,hk⟩
  ·obtain⟨its,_,pl,_⟩:=I.list hq;refine⟨pl.isList.typeIs,λa e=>?_⟩;cases e;obtain⟨o,n,e,c,hd,_⟩:=pl;exact⟨o,e,hd⟩
  ·refine⟨⟨o,I.tB p o hk,hc⟩,λa e=>?_⟩;cases e;exact⟨o,I.tB _ o hk,hd⟩
  ·have z:∃o,s.heap.get? p=some o/\o.ExactDict:=by
    rcases hk with⟨kvs,hk⟩ | ⟨kvs,hk⟩
    ·obtain⟨_,_,_,_,o,_,_,e,ex,_⟩:=I.bV p _ hk;exact⟨o,e,ex⟩
    ·obtain⟨_,_,_,_,o,_,_,e,ex,_⟩:=I.bV p _ hk;exact⟨o,e,ex⟩
   obtain⟨o,e,ex⟩:=z;refine⟨⟨o,e,ex.1⟩,λa e2=>?_⟩;cases e2;exact⟨o,e,ex.2.1⟩
  ·obtain⟨o,_,_,_,e,ex,_⟩:=I.bV p _ hk;refine⟨⟨o,e,ex.1⟩,λa e2=>?_⟩;cases e2;exact⟨o,e,ex.2.1⟩
 | _=>exact False.elim ty
noncomputable def tBM (K:PySem.W.Frag)(T:String)(r:V->List V->Hp->VK->Prop)(to:TE)(t:TA):TE:=fun σ H Q=>to σ H λx H1=>tyV K T x H1/\t σ H1 λxs H2=>r x xs H2 Q
variable {o e:Expr}{es:List Expr}{to:TE}{t:TA}{name:Str}{apos iK:Pos}{T id:String}{r:V->List V->Hp->VK->Prop}
theorem Y_ (pa:PlainAttrs T)(slot:Slot T name id)(ZL:typeOf (.builtin id)=pure (.type "method_descriptor"))(hm:yH X id r)(ho:PE X o to)(ha:PA X (e::es) t)
  (Ij:attributeBase o name X.env (eval o X.env)=eval o X.env:=by rfl)
  (TY:((backTo iK (starEach (e::es) X.env)).all (λx=>!x.1) && (backToKw iK (keywordEach [] X.env)).all (λx=>x.1.isSome)
   && decide ((e::es).length+([]:List Keyword).length+(if ([]:List Keyword).isEmpty then 0 else 1)<30))=true:=by rfl)
  (hline:(apos.endLine==iK.line)=true:=by rfl) (hs:starEach (e::es) X.env=(false,eval e X.env)::starEach es X.env:=by rfl) (zB:(backTo iK (starEach es X.env)).any (·.1)=false:=by rfl) :
  PE X (.Call (.Attribute o name apos) (e::es) [] iK) (tBM X.K T r to t):=by
 intro pins s σ H Q I h;refine wpAny_Call_method_late Ij TY hline rfl (dz (ho pins s σ H _ I h) λv s1 zz=>?_);obtain⟨x,H1,I1,r1,ty,q1⟩:=zz;obtain⟨h1,h2⟩:=QM I1 r1 ty;refine⟨T,id,pa,slot,ZL,h1,h2,?_⟩;have hA:=ha iK pins s1 σ H1 _ I1 q1;rw[hs]at hA ⊢;refine Calls.callWith_builtin (by show (false || (backTo iK (starEach es X.env)).any (·.1))=false;rw[zB]<;>rfl) (Calls.evalArgs_plain ?_);refine dz hA λus s2 zz=>?_;obtain⟨vs,H2,I2,r2,q2⟩:=zz;exact hm pins s2 σ H2 x vs v us Q I2 r1 r2 q2
end
noncomputable def MtM (X:Cx)(id:String)(r:V->List V->Hp->VK->Prop):Prop :=
 ∀(pins:List (Addr×Obj)) (s:Shared) (σ:St) (H:Hp) (x:V) (xs:List V) (v:Value) (us:List Value) (Q:VK),Inv X pins σ H s->RelV x v->Vals xs us->r x xs H Q ->
  wpAny (model X.prog X.w) X.A (call (.builtin id) (v::us)) (EP X pins σ Q) X.xe s
theorem Vals.one:∀{x:V} {us:List Value},Vals [x] us->∃u,us=[u]/\RelV x u
 | _,_,.cons r .nil=>⟨_,rfl,r⟩
section
variable {X:Cx}{pins:List (Addr×Obj)}{σ:St}{H:Hp}{s:Shared}{l b:Addr}{xs ys zs:List V}
theorem Inv.Zr {its its':List Value}{n:Nat}{f:Array Value->Array Value}{t':Nat}(I:Inv X pins σ H s)(hH:H l=some (.lst xs))
  (e:s.heap.get? l=some { cls:=.type "list",data:=.seq its.toArray n }) (hf:f its.toArray=its'.toArray) (hv:Vals ys its') (hz:ys.length<=sizeLine) :
  Inv X pins σ (upd H l (.lst ys)) { s with heap:=s.heap.update l (Obj.mapSeq f),toks:=t' }:=by
 have q:=PySem.IsL.update e f;rw[hf]at q;refine I.write (x:=l) (e:=l) (by rw[hH];exact trivial) (.inl rfl) (λb' u hb hu=>(pD s.heap (Obj.mapSeq f) (Ne.symm hb)).trans hu) ⟨_,q⟩ ?_;exact⟨hz,its',_,hv,q⟩
theorem Inv.abJ {its:List Value}{t':Nat}(I:Inv X pins σ H s)(hv:Vals ys its)(hz:ys.length<=sizeLine) :
  Inv X pins σ (upd H s.heap.objs.size (.lst ys)) { s with heap:=s.heap.push { cls:=.type "list",data:=.seq its.toArray },toks:=t' } :=
 I.laid (λ_ _ q=>gq _ q) (gh _) ⟨hz,its,0,hv,gH _ rfl⟩
theorem Inv.fresh (I:Inv X pins σ H s):H s.heap.objs.size=none:=I.bV.fresh (gh _)
theorem Inv.G7 (I:Inv X pins σ H s)(hH:H l=some (.lst xs)):xs.length<=sizeLine/\∃(its:List Value) (n:Nat),Vals xs its/\xs.length=its.length/\s.heap.get? l=some { cls:=.type "list",data:=.seq its.toArray n }:=by
 obtain⟨z,its,n,r,e⟩:=I.bV l _ hH;exact⟨z,its,n,r,r.length,e⟩
theorem GQ {n:Nat}(h:n<=sizeLine):Builtin.List.listTooLong n=false:=by
 unfold Builtin.List.listTooLong;exact decide_eq_false (by omega)
end
section
variable {X:Cx}
noncomputable def K5:V->List V->Hp->VK->Prop:=λx vs H Q=>∃l xs y,x=.ref l/\vs=[y]/\H l=some (.lst xs)/\xs.length<sizeLine/\Q .non (upd H l (.lst (xs++[y])))
theorem zk9:MtM X "list.append" K5:=by
 intro pins s σ H x vs v us Q I rx rv h;obtain⟨l,xs,y,rfl,rfl,hH,hz,q⟩:=h;cases rx;obtain⟨u,rfl,ru⟩:=rv.one;obtain⟨z,its,n,r,hl,e⟩:=I.G7 hH;refine call_meets F.slot_list_append ⟨_,e,rfl⟩ F.entry_list_append (F.args_list_append_2 _ _) (PySem.list_append l its.toArray n u (by rw[gK];omega)) ⟨e,?_⟩;refine⟨.non,_,I.Zr (its':=its++[u]) hH e (by simp) (r.append (.cons ru .nil)) ?_,rfl,q⟩;rw[gC,nq];omega
noncomputable def K4:V->List V->Hp->VK->Prop:=λx vs H Q=>∃l b xs zs,x=.ref l/\vs=[.ref b]/\H l=some (.lst xs)/\H b=some (.lst zs)/\xs.length+zs.length<=sizeLine/\Q .non (upd H l (.lst (xs++zs)))
theorem CG:MtM X "list.extend" K4:=by
 intro pins s σ H x vs v us Q I rx rv h;obtain⟨l,b,xs,zs,rfl,rfl,hH,hB,hz,q⟩:=h;cases rx;obtain⟨u,rfl,ru⟩:=rv.one;cases ru;obtain⟨z,its,n,r,hl,e⟩:=I.G7 hH;obtain⟨z2,lZ,n2,r2,wg,e2⟩:=I.G7 hB;have hsz:its.toArray.size+lZ.toArray.size<=sizeLine:=by rw[gK,gK];omega
 have aaf:¬ (!its.toArray.isEmpty && Builtin.List.listTooLong (its.toArray.size+lZ.toArray.size))=true:=by
  rw[GQ hsz,Bool.and_false];exact mW
 refine call_meets F.slot_list_extend ⟨_,e,rfl⟩ F.entry_list_extend (F.args_list_extend_2 _ _)
  (AutoSeq1.list_extend_list_list_0 l its.toArray n b lZ.toArray n2 aaf (by rw[gK];omega) (by omega)) ⟨e,e2,?_⟩
 refine⟨.non,_,I.Zr (its':=its++lZ) hH e (by simp) (r.append r2) ?_,rfl,q⟩;rw[gC];omega
noncomputable def abA:R2:=λx y H Q=>∃l b xs zs,x=.ref l/\y=.ref b/\H l=some (.lst xs)/\H b=some (.lst zs)/\xs.length+zs.length<=sizeLine/\∀p,H p=none->Q (.ref p) (upd H p (.lst (xs++zs)))
theorem R8:dG X (binaryOp .Add) abA:=by
 intro pins s σ H x y v u Q I rx ry h;obtain⟨l,b,xs,zs,rfl,rfl,hH,hB,hz,q⟩:=h;cases rx;cases ry;obtain⟨z,its,n,r,hl,e⟩:=I.G7 hH;obtain⟨z2,lZ,n2,r2,wg,e2⟩:=I.G7 hB;refine PySem.P.add_list e e2 ?_ (by rw[gK,gK];omega);have ea:its.toArray++lZ.toArray=(its++lZ).toArray:=by simp
 rw[ea];exact⟨.ref _,_,I.abJ (t':=s.toks) (r.append r2) (by rw[gC];omega),rfl,q _ I.fresh⟩
end
section
variable {prog:Program}{w:World}{A:Around}{E:Value->Shared->Prop}{s:Shared}
set_option maxRecDepth 100000 in
end
section
variable {X:Cx}
end
end L2
namespace Wz
open PySem PySem.W PySem.Calls PyProof.Rows
theorem zht {P:Params}{h:Heap}:∀(ns:List Int) (vs:List Value),WellAll P h vs (ns.map WData.int)->IntsAre vs ns:=by
 intro ns
 induction ns with
 | nil =>
  intro vs w;rw[nU]at w;cases w;exact .nil
 | cons n ns ih =>
  intro vs w;rw[gB]at w;cases w with
  | cons a b =>
   cases a;exact .cons _ _ (ih _ b)
theorem BX {l:OpenLaw}{n:Nat}(hn:l.most=some n){P:Params}{h:Heap}{args:List WData}{vals:List Value}
  (v9:l.row.toRowW.claim.pre args=true) (Ph:WellAll P h vals args) :
  ∃a vs ns,vals=[Value.ref a]/\args=[WData.list (ns.map WData.int)]/\h.get? a=some { cls:=.type "list",data:=.seq vs.toArray }/\IntsAre vs ns/\ns.length<=n:=by
 have hsh:WShape.hasAll [] args [.list .int]=true:=(pre_splitW v9).1;have hc:l.pre.holds [] { args:=args }=true:=(pre_splitW v9).2;obtain⟨d,r,rfl,h1,h2⟩:=hasAllW_cons hsh;obtain rfl:=hasAllW_nil h2;obtain⟨xs,rfl,h3⟩:=hasW_list h1;obtain⟨ns,rfl⟩:=items_int h3;have hlen:ns.length<=n:=by
  unfold OpenLaw.pre at hc;have h4:(WTm.not (.lt (.lit (.int (n:Int))) (.len (.arg 0)))).holds [] { args:=[.list (ns.map .int)] }=true:=by
   have h4:=(holds_andW hc).1;rw[hn]at h4;exact h4
  have h5:=condW_of h4 (w_not (w_lt w_lit (w_len_list (w_arg rfl))));rw[gf]at h5;refine Nat.le_of_not_lt λq=>?_;have q':(n:Int)<(ns.length:Int):=by omega
  first
   | (rw[decide_eq_true q']at h5;exact absurd h5 (by decide))
   | (simp at h5;omega)
 cases Ph with
 | cons w1 w2 =>
  cases w2;cases w1 with
  | list ho wk=>exact⟨_,_,ns,rfl,rfl,ho,zht ns _ wk,hlen⟩
theorem Cm (l:OpenLaw)(args:List WData):l.row.toRowW.claim.post args (.bool true) args=true :=
 postW_of (r:=l.row.toRowW) (X:=(true==true))
  (show WShape.has [] (.bool true) .bool=true by first | rfl | decide | simp[WShape.has,WShape.arms,WShape.armsAll])
  (show (WTm.eq .res (.lit (.bool true))).value [] { args:=args,res:=some (.bool true),after:=args }=some (.bool (true==true)) from w_eq_bool (w_res rfl) w_lit) rfl
theorem zlz {l:OpenLaw}{n:Nat}{q:Program}{loose:List Str}{XP:(Str->Option Value)->Heap->Prop}{YP:World->Heap->Prop}{d:DefRec}
  (hn:l.most=some n) (hdf:d.params.defaults=[])
  (call:∀(w:World) (adz ady:Shared) (mg mb:Str->Option Value) (fa:Addr) (o:Obj) (pm cd doc:Value) (a:Addr) (vs:List Value) (ns:List Int),
   Ground q loose [] XP w adz mg mb ady.heap->YP w ady.heap ->
   ady.heap.get? fa=some o->o.data=.func (docDef d.name d.params d.body d.scope pm cd doc)->ady.heap.CodeRec cd d.name->mg d.name=some (.ref fa) ->
   ady.heap.get? a=some { cls:=.type "list",data:=.seq vs.toArray }->IntsAre vs ns->ns.length<=n->ady.gens=#[] ->
   codeAny (model l.prog w) callerA (.call (.ref fa) ⟨[.ref a],[]⟩) (λr s'=>r=.ok (.ret (.bool true))/\OldK ady.heap s'.heap/\s'.os=ady.os/\AllBare s'.gens) ady) :
  WalkO q loose XP YP l.row.toRowW d [] (λf vs=>PySem.call f vs):=by
 intro w adz ady mg mb G Y fa o pm cd doc dV kV ho hd xH hD hmg hg args vals as v9 hlay hrd Ph hlo;obtain rfl:dV=.none:=Dflts.none hD hdf;obtain rfl:kV=.none:=Dflts.noKw hD;obtain⟨a,vs,ns,rfl,rfl,Tw,hints,hlen⟩:=BX hn v9 Ph;refine enter_call (codeAny_mono (call w adz ady mg mb fa o pm cd doc a vs ns G Y ho (fd_plain hd) xH hmg Tw hints hlen hg) λr s' hq=>?_);obtain⟨rfl,h2,h3,h4⟩:=hq;exact⟨.inl ⟨.bool true,.bool true,[],rfl,λ_=>rfl,.bool true,Cm l _,λ_=>⟨List.Pairwise.nil,λ_ hm=>(nomatch hm)⟩⟩,h2,h3,h4⟩
section
variable {prog:Program}{w:World}{A:Around}{E:Value->Shared->Prop}{s:Shared}{K:Frag}
noncomputable def xg (h:Heap):Heap:={ h with objs:=#[] }
theorem zhk (h:Heap)(b:Addr):(xg h).get? b=none:=by
 cases e:(xg h).get? b with
 | none=>rfl
 | some o=>exact absurd (gm e) (Nat.not_lt_zero _)
noncomputable def ledger (h:Heap)(L d:Addr):List (Addr×Obj):=(List.range h.objs.size).filterMap λa=>if a=L\/a=d then none else (h.get? a).map λo=>(a,o)
theorem zjo {h:Heap}{L d a:Addr}{o:Obj}:(a,o)∈ledger h L d↔a≠L/\a≠d/\h.get? a=some o:=by
 unfold ledger;rw[pQ];constructor
 ·rintro ⟨b,_,e⟩
  split at e
  ·cases e
  ·rename_i hb;obtain⟨o',ho,e'⟩:=my.mp e;cases e';exact⟨λq=>hb (.inl q),λq=>hb (.inr q),ho⟩
 ·rintro ⟨n1,n2,ho⟩;refine⟨a,List.mem_range.mpr (gm ho),?_⟩;rw[if_neg (show ¬ (a=L\/a=d) from λq=>q.elim n1 n2),ho]<;>rfl
theorem zlx {h:Heap}{L d:Addr}{od:Obj}(qY:d≠L)(ho:h.get? d=some od):News (xg h) L h ([]++(d,od)::ledger h L d):=by
 rintro ⟨a,o⟩ hp;rcases gk.mp hp with e | hp
 ·cases e;exact⟨ho,qY,zhk _ _⟩
 ·obtain⟨n1,n2,e⟩:=zjo.mp hp;exact⟨e,n1,zhk _ _⟩
theorem Iu {h:Heap}{L:Addr}{m:Str->Option Value}(n:h.Ns L m):Fr (xg h) L h m :=
 ⟨n,λb o e=>(by rw[zhk]at e;cases e),mQ _⟩
end
end Wz
namespace L2
open PySem PySem.Spec PyProof.Rows
theorem zlv:∀{vs:List Value} {ns:List Int},IntsAre vs ns->Vals (ns.map V.int) vs
 | _,_,.nil=>.nil
 | _,_,.cons n t h=>.cons ⟨t,rfl⟩ (zlv h)
noncomputable abbrev KOf {K:PySem.W.Frag}{h:Heap}(_:K.In h):PySem.W.Frag:=K
noncomputable def cG (s:Stmt):Arguments:=match s with
 | .FunctionDef _ a _ _ _ _ _ _ _ _=>a
 | _=>{ posonlyargs:=[],args:=[],vararg:=none,kwonlyargs:=[],kw_defaults:=[],kwarg:=none,defaults:=[] }
noncomputable def bT (s:Stmt):List Stmt:=match s with
 | .FunctionDef _ _ b _ _ _ _ _ _ _=>b
 | _=>[]
noncomputable def aA (s:Stmt):Scope:=match s with
 | .FunctionDef _ _ _ _ _ _ sc _ _ _=>sc
 | _=>{ kind:=.function,names:=[],isGenerator:=false,isCoroutine:=false }
noncomputable abbrev iR:Eu:=λ_ _ _ _ _ _=>False
noncomputable abbrev E0:XK:=λ_ _ _=>False
theorem Gw {X:Cx}:Passes iR X E0:=λ_ _ _ _ _ _ _ h=>h.elim
structure dX (K:PySem.W.Frag)(x qual:Str)(st:Stmt)(f:Addr)(fd:FuncData):Prop where
 ex:∃(oc:Value) (od:Option Addr) (kV doc pm:Value) (an:Option Addr) (cdv ct:Value) (ux:Array (Option Value)),
  fd=PySem.W.fnOf x qual (cG st) (bT st) (aA st) .none kV doc pm an cdv ct/\K.lookup f=some ⟨oc,od,.func fd,ux⟩/\PySem.W.codeIn K cdv qual=true
 kp:PySem.W.keepIn K (.ref f)=true
section
variable {P:Program}{w:World}{K:PySem.W.Frag}{mg:Str->Option Value}{base:Heap}
theorem dX.ok {x qual:Str}{st:Stmt}{f:Addr}{fd:FuncData}{N ps:List Str}{k:Nat}{sp:Sp}(F:dX K x qual st f fd)(S:aX N ps (aA st))(len:∀vs H Q E,sp vs H Q E->vs.length=ps.length)
  (qG:∀(cdv:Value) (A:Around) (outer:List Env) (s:Shared) (H:Hp) (vs:List V) (Q:VK) (E:XK),dC k (A.deeper (envOfC qual (aA st) s.heap.objs.size f cdv))->sp vs H Q E ->
   ∃t,yG (wu iR P w K mg base N qual (aA st) f cdv A outer s H E).J3 (bT st) t/\t { nx:=λ_ H'=>Q .non H',rt:=Q } (start N vs) H):a_ P w K mg base iR (k+1) f fd ps sp:=by
 obtain⟨oc,od,kV,doc,pm,an,cdv,ct,ux,rfl,lk,xH⟩:=F.ex;refine Iv lk xH S len λA outer s H vs Q E hr V5=>?_;obtain⟨t,h,q⟩:=qG cdv A outer s H vs Q E hr V5;exact⟨t,h.J3,q⟩
theorem dX.binds {x qual:Str}{st:Stmt}{f:Addr}{fd:FuncData}{ps:List Str}(F:dX K x qual st f fd)
  (h:∀(kV doc pm:Value) (an:Option Addr) (cdv ct:Value) (us:List Value),us.length=ps.length->bindArgs (PySem.W.fnOf x qual (cG st) (bT st) (aA st) .none kV doc pm an cdv ct) ⟨us,[]⟩=pure (ps.zip us)):Binds K fd ps []:=by
 obtain⟨oc,od,kV,doc,pm,an,cdv,ct,ux,rfl,lk,xH⟩:=F.ex;exact .all (h kV doc pm an cdv ct)
theorem zcp {x qual:Str}{st:Stmt}{f:Addr}{oc:Value}{od an:Option Addr}{ux:Array (Option Value)}{kV doc pm cdv ct:Value}(l:K.lookup f=some ⟨oc,od,.func (PySem.W.fnOf x qual (cG st) (bT st) (aA st) .none kV doc pm an cdv ct),ux⟩)
  (c:PySem.W.codeIn K cdv qual=true) (k:PySem.W.keepIn K (.ref f)=true):dX K x qual st f (PySem.W.fnOf x qual (cG st) (bT st) (aA st) .none kV doc pm an cdv ct):=⟨⟨oc,od,kV,doc,pm,an,cdv,ct,ux,rfl,l,c⟩,k⟩
end
theorem oV {A:Around}{k:Nat}(hr:dC k A):A.units+1<cLine:=Nat.lt_of_le_of_lt (Nat.add_le_add_left (by decide:1<=64) _) hr.units
section
variable {X:Cx}
end
theorem zu {A B:Prop}(h:B):if false=true then A else B:=by
 rw[if_neg mW];exact h
theorem zr {A B:Prop}(h:A):if true=true then A else B:=by
 rw[if_pos rfl];exact h
noncomputable def Xo (lo:Nat)(e C dx:Addr)(fl:Option Value)(H:Hp)(h:Heap):Prop :=
 lo<=e/\H e=none/\∃oe vs,h.get? e=some oe/\oe.cls=.ref C/\oe.dict=some dx/\oe.data=.fields vs/\1<vs.size /\
  match fl with
  | none=>vs[1]? = some .none
  | some v=>∃T oT ts,vs[1]? = some (.ref T)/\lo<=T/\T≠e/\H T=none/\h.get? T=some oT/\oT.data=.fields ts/\ts[3]? = some v
section
variable {X:Cx}
theorem GC:dG X (binaryOp .FloorDiv) (rI (λ_ j=>0<j/\j<2 ^ 64) λi j=>.int (i / j)):=by
 refine opI λi j t u s Q E hc h=>?_;obtain⟨h0,h1⟩:=hc;have e:i.fdiv j=i / j:=Int.fdiv_eq_ediv_of_nonneg i (Int.le_of_lt h0);refine floordiv_int (by omega) (by rw[e];exact h) (.inl (PyProof.noPylong_of_log2 ?_));have h2:j.natAbs<2 ^ 64:=by omega
 have h3:j.natAbs≠0:=by omega
 have:=(Nat.log2_lt h3).mpr h2;omega
theorem Jj {prog:Program}{w:World}{A:Around}{E:Value->Shared->Prop}{s:Shared}{t b:Addr}{ws:List Value}{Q:Value->Shared->Prop}(ht:IsTup s.heap t #[])(hb:IsTup s.heap b ws.toArray)
  (h1:Q (.ref b) s):wpAny (model prog w) A (binaryOp .Add (.ref t) (.ref b)) Q E s:=by
 obtain⟨⟨cls,dd,data,sl⟩,ho,hc,n,hd⟩:=id ht;obtain⟨⟨acF,dd2,data2,sl2⟩,M3,T9,n2,hd2⟩:=id hb;simp only at hc hd T9 hd2;subst hc hd T9 hd2;exact concat_meets ⟨_,ho,rfl⟩ ⟨_,M3,rfl⟩ noFill_tuple_add seq_tuple_add PySem.F.slot_tuple_add PySem.F.entry_tuple_add (PySem.F.args_tuple_add_2 _ _)
   (tuple_addW0 t b #[] ws.toArray n n2 dd dd2 sl sl2 (by simp)) ⟨ho,M3,h1⟩
noncomputable def Ro (K:PySem.W.Frag):R2:=λx y H Q=>∃a b ys,x=.ref a/\y=.ref b/\uo K H a []/\uo K H b ys/\Q (.ref b) H
theorem GD:dG X (binaryOp .Add) (Ro X.K):=by
 intro pins s σ H x y v u Q I rx ry h;obtain⟨a,b,ys,rfl,rfl,ha,hb,q⟩:=h;cases rx;cases ry;obtain⟨its,r1,p1,_⟩:=I.tuple ha;obtain⟨lZ,r2,p2,_⟩:=I.tuple hb;cases r1;exact Jj p1 p2 ⟨.ref b,H,I,rfl,q⟩
end
end L2
namespace HT
open PySem PyProof.Rows
section
variable {prog:Program}{w:World}{A:Around}{E:Value->Shared->Prop}{s:Shared}
theorem zf1 {t sl:Addr}{items:Array Value}{vl vu:Value}{lo hi:Option Int}{Q:Value->Shared->Prop}(ht:IsTup s.heap t items)(hs:s.heap.IsSliceOf sl vl vu .none)(pl:IsPart vl lo)(pu:IsPart vu hi)
  (hw:cR items.size 0 lo=0/\cR items.size items.size hi=items.size)
  (h:Q (.ref t) s):wpAny (model prog w) A (getItem (.ref t) (.ref sl)) Q E s:=by
 obtain⟨os,yO,hcs,yp⟩:=id hs;have hTs:s.TypeIs (.ref sl) "slice":=⟨os,yO,hcs⟩;unfold getItem
 try with_reducible refine wpAny_holding ?_
 first | refine wpAny_bind (wpAny_pure ?_) | skip
 refine wpAny_bind (wpAny_sequenceKey ht.typeIs (by decide) ?_);refine wpAny_bind (wpAny_callSpecial?_slot (name:=Str.ofString "__getitem__") ht.typeIs PyProof.Rows.slot_tuple_getitem
  (wpAny_call_entry PyProof.Rows.slot_tuple_getitem ht.typeIs entry_tuple_getitem ?_ (args_tuple_getitem _ _)))
 show wpAny _ _ (Builtin.Tuple.tupleItemsOf (.ref t) >>= _) _ _ s;refine wpAny_bind (tupleItemsOf_ ht ?_);refine wpAny_bind (wpAny_typeOf hTs ?_);rw[if_pos (by decide)];refine wpAny_bind (zew hs pl pu ?_);have yP:((((cR items.size 0 lo:Nat):Int)==0 && (1:Int)==1 && (cR items.size items.size hi - cR items.size 0 lo)==items.size)=true):=by
  rw[hw.1,hw.2];simp
 show wpAny _ _ (if (((cR items.size 0 lo:Nat):Int)==0 && (1:Int)==1 && (cR items.size items.size hi - cR items.size 0 lo)==items.size)=true then _ else _) _ _ s;rw[if_pos yP];unfold Builtin.Tuple.tupleIsExact;refine wpAny_bind (wpAny_bind (wpAny_typeOf ht.typeIs ?_));refine wpAny_pure ?_;rw[if_pos (by decide)];exact wpAny_bind (wpAny_rule (wpAny_pure ⟨_,rfl,wpAny_pure h⟩))
end
end HT
namespace L2
open PySem PySem.Spec PyProof.Rows
section
variable {X:Cx}
noncomputable def YJ (K:PySem.W.Frag):V->Option Int->Option Int->Hp->VK->Prop:=λx lo hi H Q=>∃a xs,x=.ref a/\uo K H a xs /\
 (HT.cR xs.length 0 lo=0/\HT.cR xs.length xs.length hi=xs.length)/\Q (.ref a) H
theorem Ky:yF X (YJ X.K):=by
 intro pins s σ H x v vl vu lo hi sl Q I rx hs pl pu h;obtain⟨a,xs,rfl,hx,hw,q⟩:=h;cases rx;obtain⟨its,r,ht,hz⟩:=I.tuple hx;have hlen:its.toArray.size=xs.length:=by rw[gK];exact r.length.symm
 refine⟨"tuple",_,PyProof.Rows.slot_tuple_getitem.lookup,ht.typeIs,?_⟩;exact HT.zf1 ht hs pl pu (by rw[hlen];exact hw) ⟨.ref a,H,I,rfl,q⟩
end
section
variable {X:Cx}{pins:List (Addr×Obj)}{σ:St}{H:Hp}{s:Shared}{h':Heap}{t':Nat}
end
theorem zi9 {scope:Scope}{env:Env}(h:∀x∈scope.names,x.2=.free->∃c,env.cells.lookup x.1=some c) :
  ∃cl,closureFor scope env=pure cl/\(∀x c,cl.lookup x=some c->env.cells.lookup x=some c)/\∀x,(x,NameKind.free)∈scope.names->∃c,cl.lookup x=some c:=by
 have key:∀(names:List (Str×NameKind)) (acc:List (Str×Addr)),(∀x∈names,x.2=.free->∃c,env.cells.lookup x.1=some c)->(∀x c,acc.lookup x=some c->env.cells.lookup x=some c) ->
   ∃cl,(forIn names acc λ(x:Str×NameKind) (cs:List (Str×Addr))=>(if x.2 == .free then do let a <-cellOf env x.1;pure (ForInStep.yield ((x.1,a)::cs)) else pure (ForInStep.yield cs):Sem _))=pure cl/\(∀x c,cl.lookup x=some c->env.cells.lookup x=some c) /\
    (∀x,(x,NameKind.free)∈names->∃c,cl.lookup x=some c)/\∀x c,acc.lookup x=some c->∃c',cl.lookup x=some c':=by
  intro names
  induction names with
  | nil=>intro acc _ ha;exact⟨acc,rfl,ha,⟨(λx hx=>nomatch hx),λx c q=>⟨c,q⟩⟩⟩
  | cons y r ih =>
   intro acc hn ha;obtain⟨n,k⟩:=y;have hr:∀x∈r,x.2=.free->∃c,env.cells.lookup x.1=some c:=λx hx=>hn x (kj _ hx);by_cases hk:k=.free
   ·subst hk;obtain⟨c,hc⟩:=hn (n,.free) (by simp) rfl;have ha':∀x c',((n,c)::acc).lookup x=some c'->env.cells.lookup x=some c':=λx c' q=>by
     rw[kJ]at q;cases e:x==n with
     | true=>rw[e]at q;cases q;rw[eq_of_beq e];exact hc
     | false=>rw[e]at q;exact ha x c' q
    obtain⟨cl,h1,h2,h3,h4⟩:=ih ((n,c)::acc) hr ha';refine⟨cl,?_,h2,λx hx=>?_,λx c' q=>?_⟩
    ·rw[List.forIn_cons];simp only[beq_self_eq_true,if_true,cellOf,hc];exact h1
    ·rcases gk.mp hx with e | hx
     ·cases e;exact h4 n c (by simp)
     ·exact h3 x hx
    ·cases e:x==n with
     | true=>exact h4 x c (by rw[kJ,e])
     | false=>exact h4 x c' (by rw[kJ,e];exact q)
   ·have hb:(k==NameKind.free)=false:=by simpa using hk
    obtain⟨cl,h1,h2,h3,h4⟩:=ih acc hr ha;refine⟨cl,?_,h2,λx hx=>?_,h4⟩
    ·rw[List.forIn_cons];simp only[hb,nW,if_false];exact h1
    ·rcases gk.mp hx with e | hx
     ·cases e;exact absurd rfl hk
     ·exact h3 x hx
 obtain⟨cl,h1,h2,h3,_⟩:=key scope.names [] h (λx c q=>by simp at q);refine⟨cl,?_,h2,h3⟩;unfold closureFor;show (forIn scope.names [] (λ(x:Str×NameKind) (cs:List (Str×Addr))=>(if x.2 == .free then do let a <-cellOf env x.1;pure (ForInStep.yield ((x.1,a)::cs)) else pure (ForInStep.yield cs):Sem _)) >>= λcs=>pure cs)=pure cl;rw[h1]
 rfl
theorem zd6 {f:Str×NameKind->Str×NameKind}(h1:∀p,(f p).1=p.1):∀{names:List (Str×NameKind)} {x:Str},(names.map f).lookup x=(names.lookup x).map λk=>(f (x,k)).2
 | [],_=>rfl
 | (n,j)::r,x=>by
  rw[gB];have e:f (n,j)=(n,(f (n,j)).2):=by
   have:=h1 (n,j);exact Prod.ext this rfl
  rw[e,kJ,kJ];cases hx:x==n with
  | true=>rw[eq_of_beq hx];rfl
  | false=>exact zd6 h1
noncomputable def za (env:Env)(p:Str×NameKind):Str×NameKind:=if (p.2 == .free && env.scope.kind == .function && env.kindOf p.1==some .cell)=true then (p.1,.cell) else (p.1,p.2)
theorem zob (env:Env)(p:Str×NameKind):(za env p).1=p.1:=by unfold za;split<;>rfl
theorem zmi (env:Env)(p:Str×NameKind):(za env p).2=p.2\/(p.2=.free/\(za env p).2=.cell):=by
 unfold za
 split
 ·rename_i h;rw[mq,mq]at h;exact .inr ⟨eq_of_beq h.1.1,rfl⟩
 ·exact .inl rfl
theorem zgl (scope:Scope)(env:Env):(relabel scope env).names=scope.names.map (za env):=rfl
theorem zf5 {scope:Scope}{env:Env}{x:Str}{k:NameKind}(h:(relabel scope env).names.lookup x=some k):scope.names.lookup x=some k\/(scope.names.lookup x=some .free/\k=.cell):=by
 rw[zgl,zd6 (zob env)]at h;cases e:scope.names.lookup x with
 | none=>rw[e]at h;cases h
 | some j =>
  rw[e]at h;have h':(za env (x,j)).2=k:=Option.some.inj h;rcases zmi env (x,j) with q | ⟨q1,q2⟩
  ·rw[q]at h';exact .inl (by rw[<-h'])
  ·rw[q2]at h';exact .inr ⟨by rw[show j=NameKind.free from q1],h'.symm⟩
theorem zf3 {scope:Scope}{env:Env}{x:Str}(h:scope.names.lookup x=some .free):(relabel scope env).names.lookup x=some .cell\/(relabel scope env).names.lookup x=some .free:=by
 rw[zgl,zd6 (zob env),h];rcases zmi env (x,.free) with q | ⟨_,q⟩
 ·exact .inr (by rw[nu,q])
 ·exact .inl (by rw[nu,q])
theorem mem_of_lookup {α β:Type}[BEq α][LawfulBEq α]{x:α}{k:β}:∀{l:List (α×β)},l.lookup x=some k->(x,k)∈l
 | [],h=>by simp at h
 | (n,j)::r,h=>by
  rw[kJ]at h;cases e:x==n with
  | true=>rw[e]at h;cases h;rw[eq_of_beq e];simp
  | false=>rw[e]at h;exact kj _ (mem_of_lookup h)
noncomputable def fC (X:Cx)(N:List Str)(scope:Scope)(cl:List (Str×Addr))(C:Addr)(fp:List Addr)(s:Shared)(H:Hp):Cx :=
 { X with N:=N,adz:=s,adE:=H,env:=compEnvC scope cl C X.env,outer:=X.stack,stack:=X.stack,ex:=fp,fn:=λ_=>false,pn:=[],xe:=λ_ _=>False }
structure lV (scope:Scope):Prop where
 kind:scope.kind=.function
 cell:∀y∈scope.names,y.2≠.cell
 names:∀y∈scope.names,y.2=.local->scope.names.lookup y.1=some .local
noncomputable def rC (X:Cx)(scope:Scope):List (Option Nat)->List Str->Prop
 | [],[]=>True
 | none::r,_::xs=>rC X scope r xs
 | some j::r,x::xs=>(X.N[j]? = some x/\(X.env.kindOf x=some .cell\/X.env.kindOf x=some .free)/\scope.names.lookup x=some .free)/\rC X scope r xs
 | _,_=>False
noncomputable def lu (capt:List (Option Nat))(σ:St):St:=capt.map λo=>o.bind λj=>(σ[j]?).join
theorem rC.len {X:Cx}{scope:Scope}:∀{capt:List (Option Nat)} {N:List Str},rC X scope capt N->capt.length=N.length
 | [],[],_=>rfl
 | none::r,_::xs,h=>by simp[rC.len (show rC X scope r xs from h)]
 | some j::r,x::xs,h=>by simp[rC.len h.2]
 | [],_::_,h=>h.elim
 | none::_,[],h=>h.elim
 | some _::_,[],h=>h.elim
theorem rC.at_ {X:Cx}{scope:Scope}:∀{capt:List (Option Nat)} {N:List Str} {i j:Nat} {x:Str},rC X scope capt N->capt[i]? = some (some j)->N[i]? = some x ->
  X.N[j]? = some x/\(X.env.kindOf x=some .cell\/X.env.kindOf x=some .free)/\scope.names.lookup x=some .free
 | [],[],_,_,_,_,e,_=>by simp at e
 | none::r,y::xs,0,_,_,_,e,_=>by simp at e
 | none::r,y::xs,i+1,_,_,h,e,e2=>rC.at_ (i:=i) (show rC X scope r xs from h) (by simpa using e) (by simpa using e2)
 | some k::r,y::xs,0,_,_,h,e,e2=>by
  simp at e e2;subst e e2;exact h.1
 | some k::r,y::xs,i+1,_,_,h,e,e2=>rC.at_ (i:=i) h.2 (by simpa using e) (by simpa using e2)
 | [],_::_,_,_,_,h,_,_=>h.elim
 | none::_,[],_,_,_,h,_,_=>h.elim
 | some _::_,[],_,_,_,h,_,_=>h.elim
section
variable {X:Cx}{pins:List (Addr×Obj)}{σ:St}{H:Hp}{s:Shared}{N:List Str}{scope:Scope}{cl:List (Str×Addr)}{C:Addr}{fp:List Addr}{capt:List (Option Nat)}
theorem Nu (I:Inv X pins σ H s)(S:lV scope)(uU:∀x c,cl.lookup x=some c->X.env.cells.lookup x=some c)(wk:∀x,(x,NameKind.free)∈scope.names->∃c,cl.lookup x=some c)
  (hC:s.heap.objs.size<=C) (hf:∀b∈fp,ur X pins H b) (hb:∀b∈fp,b<s.heap.objs.size):(fC X N scope cl C fp s H).Ok where
 mod:=I.ok.mod
 kind:=S.kind
 glob:=I.ok.glob
 blt:=I.ok.blt
 above:=hC
 inj:=λx y c h1 h2=>I.ok.inj x y c (uU x c h1) (uU y c h2)
 has:=λx hx=>by
  have q:scope.names.lookup x=some .free:=by
   rcases hx with hx | hx
   ·rcases zf5 hx with e | ⟨e,_⟩
    ·exact absurd rfl (S.cell _ (mem_of_lookup e))
    ·exact e
   ·rcases zf5 hx with e | ⟨e,_⟩
    ·exact e
    ·exact e
  exact wk x (mem_of_lookup q)
 Qh:=λx c h=>by cases h
 hd:=I.ok.hd
 frames:=I.ok.frames
 Vx:=.inl rfl
 exf:=λb yR=>⟨gJ (gP (hb b yR) hC),λx c h=>(hf b yR).2.2.2.2.1 x c (uU x c h)⟩
 bs:=I.bs
 D_:=gU I.ok.D_ I.sz
 Cz:=λb o e yR=>by
  rcases (hf b yR).2.2.2.1 with z | z
  ·exact I.ok.Cz b o e z
  ·exact absurd (gm e) (Nat.not_lt.mpr (gU I.ok.D_ z))
 IK:=λb yR z=>by
  rcases gk.mp (I.u_ b z) with e | e
  ·exact (hf b yR).2.1 e
  ·exact (hf b yR).2.2.1 e
 rA:=I.stack
 Ir:=I.z6
theorem Jg {h':Heap}{t':Nat}{m:Str->Option Value}(I:Inv X pins σ H s)(S:lV scope)(uU:∀x c,cl.lookup x=some c->X.env.cells.lookup x=some c)(wk:∀x,(x,NameKind.free)∈scope.names->∃c,cl.lookup x=some c)
  (hC:s.heap.objs.size<=C) (hf:∀b∈fp,ur X pins H b) (hb:∀b∈fp,b<s.heap.objs.size) (yr:rC X scope capt N) (hn:h'.Ns C m) (hk:∀b o,s.heap.get? b=some o->h'.get? b=some o) :
  Inv (fC X N scope cl C fp s H) [] (lu capt σ) H { s with heap:=h',toks:=t' } where
 ok:=Nu I S uU wk hC hf hb
 os:=rfl
 bare:=I.bare
 base:=Un.kept hk
 loc:=by
  refine⟨m,hn,λi x v hN hv ade=>?_⟩;have hN':N[i]? = some x:=hN;unfold lu at hv;rw[gF]at hv;cases e:capt[i]? with
  | none=>rw[e]at hv;cases hv
  | some o =>
   rw[e]at hv;cases o with
   | none=>cases hv
   | some j =>
    have zy:(σ[j]?).join=some v:=by simpa using hv
    have J5:σ[j]? = some (some v):=by
     cases q:σ[j]? with
     | none=>rw[q]at zy;cases zy
     | some z=>rw[q]at zy;cases zy;rfl
    obtain⟨h1,h2,h3⟩:=yr.at_ e hN';obtain⟨m0,hm0,hl⟩:=I.loc;have hvx:Vis X.env.scope x:=by
     rcases h2 with h2 | h2
     ·exact .inr (.inl h2)
     ·exact .inr (.inr h2)
    obtain⟨u,r,lk⟩:=hl j x v h1 J5 hvx;refine⟨u,r,?_⟩;rcases lk with⟨k1,_⟩ | ⟨_,c,k2,k3⟩
    ·rcases h2 with h2 | h2<;>(rw[h2]at k1;cases k1)
    ·obtain⟨c',hc'⟩:=wk x (mem_of_lookup h3);have:=uU x c' hc';rw[k2]at this;cases this;refine .inr ⟨zf3 h3,c,hc',?_⟩;obtain⟨o,e1,e2⟩:=k3;exact⟨o,hk c o e1,e2⟩
 cell:=λx c h=>by
  obtain⟨v,o,e1,e2⟩:=I.cell x c (uU x c h);exact⟨v,o,hk c o e1,e2⟩
 free:=I.bV.fresh hC
 lN:=λx c h=>I.lN x c (uU x c h)
 pin:=λp hp=>by simp[fC]at hp
 bV:=I.bV.kept hk
 len:=by show (lu capt σ).length=N.length;unfold lu;rw[gf];exact yr.len
end
noncomputable abbrev zW (ifs:List Expr)(env:Env):Sem Bool:=forIn ifs true λc r=>if r=true then do let ok <-isTrue c env (eval c env);pure (ForInStep.yield ok) else pure (ForInStep.yield r)
theorem zkk {prog:Program}{w:World}{A:Around}{R:Result->Shared->Prop}{s:Shared}{elt target iter:Expr}{ifs:List Expr}{scope:Scope}{pos:Pos}{it acc:Value}{env:Env}(I:Nat->Shared->Prop)
  (turn:∀n s,I n s->wpAny (model prog w) A (pyNext it) (λr ady=>match r with
   | none=>R (.ok .next) ady
   | some v=>wpAny (model prog w) A (letOwnedTupleGo target it v) (λ_ acL=>wpAny (model prog w) A (assign target env v) (λ_ adx =>
     wpAny (model prog w) A (zW ifs env) (λok adw =>
      if ok=true then wpAny (model prog w) A (eval elt env) (λx adv =>
       wpAny (model prog w) A (call (.builtin "list.append") [acc,x]) (λ_ adu=>∃m,m<n/\I m adu) (λ_ _=>False) adv) (λ_ _=>False) adw
      else ∃m,m<n/\I m adw) (λ_ _=>False) adx) (λ_ _=>False) acL) (λ_ _=>False) ady) (λ_ _=>False) s)
  (n:Nat) (h:I n s) :
  codeAny (model prog w) A (.compLoop (.ListComp elt [⟨target,iter,ifs,0⟩] scope pos) 0 it acc env) R s:=by
 refine codeAny_loop rfl I (λn s hI=>?_) n h;show wpAny _ A ((compTurn (.ListComp elt [⟨target,iter,ifs,0⟩] scope pos) 0 it acc env).onRaise (λx=>do noteFrame x env;theTreesLotGoes x)) _ _ s;refine wpAny_noted ?_;rw[compTurn_list];refine wpAny_bind (wpAny_standAt (wpAny_bind (wpAny_mono (turn n s hI) (λr ady h₁=>?_) λ_ _ h'=>h'.elim)));cases r with
 | none=>exact wpAny_pure h₁
 | some v =>
  refine wpAny_bind (wpAny_mono h₁ (λ_ acL ada=>?_) λ_ _ h'=>h'.elim);refine wpAny_bind (wpAny_mono ada (λ_ adx adD=>wpAny_bind (wpAny_mono adD (λok adw adC=>?_) λ_ _ h'=>h'.elim)) λ_ _ h'=>h'.elim);cases ok with
  | false=>exact wpAny_pure ⟨rfl,adC⟩
  | true =>
   exact wpAny_bind (wpAny_bind (wpAny_mono adC (λx adv adB=>wpAny_bind (wpAny_mono adB (λ_ adu adA=>wpAny_pure (wpAny_pure ⟨rfl,adA⟩)) λ_ _ h'=>h'.elim)) λ_ _ h'=>h'.elim))
noncomputable def Wx (X:Cx)(ifs:List Expr)(t:TT):Prop :=
 ∀(pins:List (Addr×Obj)) (s:Shared) (σ:St) (H:Hp) (Q:Bool->Hp->Prop),Inv X pins σ H s->t σ H Q->wpAny (model X.prog X.w) X.A (zW ifs X.env) (TP X pins σ Q) X.xe s
theorem K9 {X:Cx}:Wx X [] (fun σ H Q=>Q true H):=λpins s σ H Q I h=>wpAny_tests_nil ⟨H,I,h⟩
theorem K8 {X:Cx}{c:Expr}{t:TT}(h:PT X c t):Wx X [c] t:=λpins s σ H Q I q=>wpAny_tests_one (h pins s σ H Q I q)
noncomputable def Ot (capt:List (Option Nat))(wi:TI)(g:TG)(tt:TT)(te:TE):TE:=fun σ H Q=>wi σ H λJ H1=>∀D,H1 D=none->∃W:Nat->Nat->St->Hp->Prop,(∃m,W 0 m (lu capt σ) (upd H1 D (.lst []))) /\
 ∀i m σ' H',W i m σ' H'->(J.stop i H'/\Q (.ref D) H')\/(J.go i H'/\∃N:St->Hp->Prop,(∀σ2 H2,N σ2 H2->∃m',m'<m/\W (i+1) m' σ2 H2) /\
  ∀x H2,J.X8 i H' x H2->g x σ' H2 fun σ3 H3=>tt σ3 H3 λok H4=>if ok=true then te σ3 H4 λy H5=>∃xs,H5 D=some (.lst xs)/\xs.length<sizeLine/\N σ3 (upd H5 D (.lst (xs++[y]))) else N σ3 H4)
section
variable {X:Cx}{elt tg iter:Expr}{ifs:List Expr}{scope:Scope}{pos:Pos}{N:List Str}{capt:List (Option Nat)}{wi:TI}{g:TG}{tt:TT}{te:TE}
theorem znm {pins:List (Addr×Obj)}{σ:St}{H:Hp}{s:Shared}{it:Addr}{fp:List Addr}{tn:Nat->Heap->Prop}{J:It}{cl:List (Str×Addr)}{Q:VK}{E:Value->Shared->Prop}{RR:Value->Addr->Result->Shared->Prop}
  (I:Inv X pins σ H s) (T:Turn X.prog X.w X.K tg J fp it tn) (st:tn 0 s.heap) (hf:∀b∈fp,ur X pins H b)
  (S:lV scope) (uU:∀x c,cl.lookup x=some c->X.env.cells.lookup x=some c) (wk:∀x,(x,NameKind.free)∈scope.names->∃c,cl.lookup x=some c) (yr:rC X scope capt N) (hc:X.calm=true)
  (hg:∀cl C fp s H,PG (fC X N scope cl C fp s H) tg g) (ht:∀cl C fp s H,Wx (fC X N scope cl C fp s H) ifs tt) (he:∀cl C fp s H,PE (fC X N scope cl C fp s H) elt te)
  (h:∀D,H D=none->∃W:Nat->Nat->St->Hp->Prop,(∃m,W 0 m (lu capt σ) (upd H D (.lst []))) /\
   ∀i m σ' H',W i m σ' H'->(J.stop i H'/\Q (.ref D) H')\/(J.go i H'/\∃N:St->Hp->Prop,(∀σ2 H2,N σ2 H2->∃m',m'<m/\W (i+1) m' σ2 H2) /\
    ∀x H2,J.X8 i H' x H2->g x σ' H2 fun σ3 H3=>tt σ3 H3 λok H4=>if ok=true then te σ3 H4 λy H5=>∃xs,H5 D=some (.lst xs)/\xs.length<sizeLine/\N σ3 (upd H5 D (.lst (xs++[y]))) else N σ3 H4))
  (hRR:∀(D C:Addr) (H':Hp) (s':Shared) (m:Str->Option Value),s'.heap.Ns C m->Inv X pins σ H' s'->ur X pins H' C->Q (.ref D) H'->RR (.ref D) C (.ok .next) s') :
  wpAny (model X.prog X.w) X.A (newList []) (λacc adw=>wpAny (model X.prog X.w) X.A (newFunctionEnv scope X.env.globals cl [] X.env.qual none .none (some X.env)) (λaaq adv =>
   codeAny (model X.prog X.w) X.A (.compStart (.ListComp elt [⟨tg,iter,ifs,0⟩] scope pos) 0 (.ref it) acc { aaq with scope:=relabel scope X.env }) (RR acc aaq.locals) adv) E adw) E s:=by
 have hD:H s.heap.objs.size=none:=I.bV.fresh (gh _);have I3:Inv X pins σ (upd H s.heap.objs.size (.lst [])) { s with heap:=s.heap.push { cls:=.type "list",dict:=none,data:=.seq ([]:List Value).toArray } } :=
  I.laid (t':=s.toks) (λb o q=>gq _ q) (gh _) ⟨by show 0<=sizeLine;decide,[],0,.nil,gH _ rfl⟩
 obtain⟨W,⟨m0,w0⟩,turn⟩:=h _ hD;refine wpAny_newObj_type (wpAny_newFunctionEnv S.cell (by intro y hy;simp at hy) (λh₁ Tz Tn=>?_) S.kind);dsimp only at Tz Tn ⊢;generalize hH2:s.heap.push { cls:=.type "list",dict:=none,data:=.seq ([]:List Value).toArray }=Hh at Tz Tn I3 ⊢;have Qd:∀b∈fp,b<s.heap.objs.size:=λb hb=>by
  obtain⟨o,e,_⟩:=T.obj 0 s.heap st b hb;exact gm e
 have szH:Hh.objs.size=s.heap.objs.size+1:=by rw[<-hH2,mK]
 have aak:∀b∈fp,b<Hh.objs.size:=λb hb=>by rw[szH];exact pG (Qd b hb)
 have Wb:∀b∈fp,ur X pins (upd H s.heap.objs.size (.lst [])) b:=λb hb=>by
  obtain⟨f0,fr⟩:=hf b hb;exact⟨by rw[lX (gJ (Qd b hb))];exact f0,fr⟩
 have J8:∀b o,Hh.get? b=some o->h₁.get? b=some o:=λb o e=>Tn.extBut b o (gJ (gm e)) (gq _ e);have st1:tn 0 h₁:=T.keep 0 _ _ st λb hb o e=>J8 b o (by rw[<-hH2];exact gq _ e);generalize hX:fC X N scope cl Hh.objs.size fp { s with heap:=Hh } (upd H s.heap.objs.size (.lst []))=X';have I4:Inv X' [] (lu capt σ) (upd H s.heap.objs.size (.lst [])) { s with heap:=h₁,toks:=s.toks+([]:List (Str×Value)).length }:=by
  rw[<-hX];exact Jg (capt:=capt) I3 S uU wk (gh _) Wb aak yr Tz J8
 have eP:X'.prog=X.prog:=by rw[<-hX];rfl
 have ew:X'.w=X.w:=by rw[<-hX];rfl
 have eK:X'.K=X.K:=by rw[<-hX];rfl
 have eA:X'.A=X.A:=by rw[<-hX];rfl
 have eC:X'.calm=true:=by rw[<-hX];exact hc
 have eE:X'.env=compEnvC scope cl Hh.objs.size X.env:=by rw[<-hX];rfl
 have eX:X'.xe=λ_ _=>False:=by rw[<-hX];rfl
 have ePn:X'.pn=[]:=by rw[<-hX];rfl
 have hg':PG X' tg g:=by rw[<-hX];exact hg _ _ _ _ _
 have ht':Wx X' ifs tt:=by rw[<-hX];exact ht _ _ _ _ _
 have he':PE X' elt te:=by rw[<-hX];exact he _ _ _ _ _
 have stat:∀{H':Hp},(∀b∈fp,H' b=none)->∀b∈fp,ur X' [] H' b:=λ{H'} hn b hb=>by
  rw[<-hX];refine⟨hn b hb,gJ (aak b hb),λz=>?_,.inl hb,λx c q=>(hf b hb).2.2.2.2.1 x c (uU x c q),λp hp=>by simp[fC]at hp⟩;rcases gk.mp (I3.u_ b z) with e | e
  ·exact (hf b hb).2.1 e
  ·exact (hf b hb).2.2.1 e
 have back:∀{σ':St} {H':Hp} {s':Shared},Inv X' [] σ' H' s'->∀h'',Heap.SameBut Hh.objs.size s'.heap h''->Inv X pins σ H' { s' with heap:=h'' }:=λ{σ' H' s'} I' h'' sb=>by
  have u:=I'.base;rw[<-hX]at u;have O6:∀b o,Hh.get? b=some o->b≠Hh.objs.size:=λb o e=>gJ (gm e);have nC:H' Hh.objs.size=none:=by have:=I'.free;rw[eE]at this;exact this
  refine I3.aaw (s':={ s' with heap:=h'' }) (ch:=fp) (by have:=I'.os;rw[<-hX]at this;exact this) ?_ ?_ I'.bare (λb hb=>⟨(Wb b hb).2.2.2.1,(Wb b hb).2.1,(Wb b hb).2.2.2.2.1,(Wb b hb).2.2.2.2.2⟩)
  ·exact⟨λb o e n hb hx=>sb.extBut b _ (O6 b o e) (u.keep b o e n hb hx),λb o e n hb hx=>let ⟨sl,q⟩:=u.slot b o e n hb hx;⟨sl,sb.extBut b _ (O6 b o e) q⟩,u.free,
    λb o e hx=>let ⟨o',q⟩:=u.there b o e hx;⟨o',sb.extBut b _ (O6 b o e) q⟩,u.u6,u.uc,u.uH⟩
  ·have hk:=I'.bV;rw[eP,ew]at hk;intro b ob e;have nb:∀c v,H' c=some v->c≠Hh.objs.size:=λc v q=>zP q nC;refine (hk b ob e).vY (λc v hc q=>sb.extBut c v ?_ q) (λ_ q=>q) λ_ _ q=>q;rcases hc with z | z
   ·rw[z];exact nb b _ e
   ·exact nb c _ z
 have loop:∀adw:Shared,adw={ s with heap:=h₁,toks:=s.toks+([]:List (Str×Value)).length } ->
   codeAny (model X.prog X.w) X.A (.compLoop (.ListComp elt [⟨tg,iter,ifs,0⟩] scope pos) 0 (.ref it) (.ref s.heap.objs.size) (compEnvC scope cl Hh.objs.size X.env)) (RR (.ref s.heap.objs.size) Hh.objs.size) adw:=by
  rintro adw rfl;refine zkk (λn s'=>∃i σ' H',Inv X' [] σ' H' s'/\tn i s'.heap/\(∀b∈fp,H' b=none)/\W i n σ' H') ?_ m0 ⟨0,_,_,I4,st1,λb hb=>(Wb b hb).1,w0⟩;rintro n s3 ⟨i,σ3,H3,I5,o9,fr3,w3⟩;rw[<-eP,<-ew,<-eA,<-eE];rcases turn i n σ3 H3 w3 with⟨stop,qn⟩ | ⟨go,Nn,hN,step⟩
  ·have d:=T.done X' eP ew eK eC i [] s3 σ3 H3 (λ_ _=>False) I5 (stat fr3) o9 stop;rw[<-eP,<-ew]at d;refine dz d λr s4 zz=>?_;obtain⟨hr,I6⟩:=zz;subst hr;obtain⟨mm,A_,_⟩:=I6.loc;rw[eE]at A_;have nC:H3 Hh.objs.size=none:=by have:=I6.free;rw[eE]at this;exact this
   exact hRR _ _ H3 s4 mm A_ (back I6 s4.heap (.refl ..)) (I3.zF (gh _) nC) qn
  ·have d:=T.item X' eP ew eK eC i [] s3 σ3 H3 (λ_ _=>False) I5 (stat fr3) o9 go;rw[<-eP,<-ew]at d;refine dz d λr s4 zz=>?_;obtain⟨u,hr,h4⟩:=zz;subst hr;refine dz h4 λ_ s5 zz=>?_;obtain⟨x,H5,I6,r5,y5,JV,fr5⟩:=zz;have I6':=I6.pinned (stat fr5) (T.obj _ _ JV);have dg:=hg' _ s5 σ3 H5 x u _ I6' r5 (step x H5 y5);rw[eX]at dg;refine dz dg λ_ s6 zz=>?_;obtain⟨σ6,H6,I7,q6⟩:=zz;have dt:=ht' _ s6 σ6 H6 _ I7 q6;rw[eX]at dt;refine dz dt λok s7 zz=>?_;obtain⟨H7,I8,q7⟩:=zz;have again:∀{σ9:St} {H9:Hp} {s9:Shared},Inv X' ([]++vd fp s5.heap) σ9 H9 s9->Nn σ9 H9->∃m,m<n/\∃i σ' H',Inv X' [] σ' H' s9/\tn i s9.heap/\(∀b∈fp,H' b=none)/\W i m σ' H':=λ{σ9 H9 s9} I9 n9=>by
    obtain⟨m',hm,w9⟩:=hN σ9 H9 n9;refine⟨m',hm,i+1,σ9,H9,I9.sV,T.keep _ _ _ JV λb hb o e=>(I9.pin (b,o) (kI _ (kI _ (zf6 hb e)))).1,λb hb=>?_,w9⟩;obtain⟨o,e,d⟩:=T.obj _ _ JV b hb;exact (I9.pin (b,o) (kI _ (kI _ (zf6 hb e)))).2.1
   cases ok with
   | false=>exact again I8 q7
   | true =>
    have de:=he' _ s7 σ6 H7 _ I8 q7;rw[eX]at de;refine dz de λy s8 zz=>?_;obtain⟨v,H8,I9,r8,q8⟩:=zz;obtain⟨xs,hx,hz,nn⟩:=q8;have da:=zk9 (X:=X') _ s8 σ6 H8 (.ref s.heap.objs.size) [v] (.ref s.heap.objs.size) [y] (λ_ H9=>Nn σ6 H9) I9 rfl (.cons r8 .nil) ⟨_,xs,v,rfl,rfl,hx,hz,nn⟩;rw[eX]at da;refine dz da λ_ s9 zz=>?_;obtain⟨_,H9,I10,_,n9⟩:=zz;exact again I10 n9
 exact codeAny_compStart_list (loop _ rfl) (T.self _ 0 _ _ _ st1 (loop _ rfl))
theorem zom {pins:List (Addr×Obj)}{σ:St}{H:Hp}{s:Shared}(I:Inv X pins σ H s)(M5:∀x∈scope.names,x.2=.free->X.env.kindOf x.1=some .cell\/X.env.kindOf x.1=some .free) :
  ∃cl,closureFor scope X.env=pure cl/\(∀x c,cl.lookup x=some c->X.env.cells.lookup x=some c)/\∀x,(x,NameKind.free)∈scope.names->∃c,cl.lookup x=some c :=
 zi9 λx hx hk=>I.ok.has x.1 (M5 x hx hk)
theorem Inv.Ea {pins:List (Addr×Obj)}{σ:St}{H:Hp}{s:Shared}{C:Addr}{h':Heap}(I:Inv X pins σ H s)(f:ur X pins H C)(sb:Heap.SameBut C s.heap h'):Inv X pins σ H { s with heap:=h' } :=
 I.turned (t':=s.toks) (λb o hb e=>sb.extBut b o hb e) f.1 f.2.1 f.2.2.2.1 f.2.2.2.2.1 f.2.2.2.2.2
theorem Lp (hi:PI X tg iter wi)(S:lV scope)(M5:∀x∈scope.names,x.2=.free->X.env.kindOf x.1=some .cell\/X.env.kindOf x.1=some .free)(yr:rC X scope capt N)(hc:X.calm=true)
  (hg:∀cl C fp s H,PG (fC X N scope cl C fp s H) tg g) (ht:∀cl C fp s H,Wx (fC X N scope cl C fp s H) ifs tt) (he:∀cl C fp s H,PE (fC X N scope cl C fp s H) elt te)
  (hs:∀x,foldedSetIterable iter X.env x=pure x:=by intro _;rfl):PE X (.ListComp elt [⟨tg,iter,ifs,0⟩] scope pos) (Ot capt wi g tt te):=by
 intro pins s σ H Q I h;obtain⟨cl,uU,h1,h2⟩:=zom I M5;rw[eval_ListComp];refine wpAny_comprehension_free (use:=none) rfl hs uU S.kind S.names (dz (hi pins s σ H _ I h) λv s1 q1=>dz q1 λitv s2 q2=>?_);obtain⟨it,fp,tn,J,H2,e,I2,T,st2,f2,q⟩:=q2;subst e;refine znm (RR:=λacc C=>compPost (model X.prog X.w) X.A X.xe none (EP X pins σ Q) acc C) I2 T st2 f2 S h1 h2 yr hc hg ht he q ?_;intro D C H' s' m hn I' f' q';exact⟨m,hn,λh'' sb=>⟨.ref D,H',I'.Ea f' sb,rfl,q'⟩⟩
end
end L2
namespace M
open PySem PySem.Spec L2
inductive D where
 | non | bl (b:Bool) | int (i:Int) | str (cs:List Nat) | tup (xs:List D) | loc (n:Nat)
instance:Inhabited D:=⟨.non⟩
structure fJ where
 qual:Str
 params:Arguments
 body:Expr
 scope:Scope
 rB:List Str
inductive MO where
 | lst (xs:List D) | frz (xs:List D) | dic (kvs:List (List Key×D)) | dkc (kvs:List (Key×D))
 
 | dkf (kvs:List (Key×D))
 
 | dtf (kvs:List (List Key×D))
 
 | ins (c:Str) (fs:List (Str×D))
 
 | tab (x:Str)
 
 | clo (j:Nat) (l:fJ) (ds:List D)
 
 | exc (c:String) (d:D)
 
 | hid
noncomputable abbrev aq:=List MO
noncomputable abbrev bA:=List (Option D)
structure Xc where
 cls:String
 fld:D
inductive R (α:Type) where
 | ok (a:α) (st:aq) | err (x:Xc) (st:aq) | bad
theorem iT {α:Sort u}{a b:α}(h:a=b):a=b:=h
noncomputable def R.bind {α β:Type}(r:R α)(f:α->aq->R β):R β:=match r with
 | .ok a st=>f a st
 | .err x st=>.err x st
 | .bad=>.bad
@[simp] theorem R.aG {α β:Type} (a:α) (st:aq) (f:α->aq->R β):(R.ok a st).bind f=f a st:=iT rfl
@[simp] theorem R.tQ {α β:Type} (x:Xc) (st:aq) (f:α->aq->R β):(R.err x st:R α).bind f=.err x st:=iT rfl
@[simp] theorem R.tR {α β:Type} (f:α->aq->R β):(R.bad:R α).bind f=.bad:=iT rfl
noncomputable abbrev strOf (cs:List Nat):Str:=⟨cs.toArray⟩
instance acM {K:PySem.W.Frag} {H:Hp} {a:Addr} {xs:List V}:CoeTail (H a=some (.tup xs)) (uo K H a xs):=⟨uo.of⟩
noncomputable def wJ:List D->Bool
 | []=>false
 | .int _::r=>wJ r
 | .str _::r=>wJ r
 | _::_=>true
noncomputable def yE (K:PySem.W.Frag)(H:Hp)(a:Addr)(xs:List V)(ds:List D):Prop :=
 H a=some (.tup xs)\/(wJ ds=true/\∃(o:Obj) (its:Array Value) (n:Nat),K.lookup a=some o/\o.cls=.type "tuple"/\o.data=.seq its n/\its.size<=sizeLine/\Vals xs its.toList)
theorem yE.uY {K:PySem.W.Frag}{H:Hp}{a:Addr}{xs:List V}{ds:List D}(h:yE K H a xs ds):uo K H a xs:=by
 rcases h with h | ⟨_,h⟩
 ·exact uo.of h
 ·exact .inr h
mutual
noncomputable def ao (K:PySem.W.Frag)(μ:List Addr)(H:Hp):D->V->Prop
 | .non,v=>v=.non
 | .bl b,v=>v=.bl b
 | .int i,v=>v=.int i
 | .str cs,v=>v=.str (strOf cs)
 | .tup ds,v=>∃a xs,v=.ref a/\yE K H a xs ds/\ak K μ H ds xs
 | .loc n,v=>∃a,μ[n]? = some a/\v=.ref a
noncomputable def ak (K:PySem.W.Frag)(μ:List Addr)(H:Hp):List D->List V->Prop
 | [],vs=>vs=[]
 | d::ds,vs=>∃v r,vs=v::r/\ao K μ H d v/\ak K μ H ds r
end
structure Ext (H H':Hp):Prop where
 tup:∀b xs,H b=some (.tup xs)->H' b=some (.tup xs)
 frz:∀b o u,H b=some (.frz o u)->H' b=some (.frz o u)
theorem Ext.refl (H:Hp):Ext H H:=⟨λ_ _ h=>h,λ_ _ _ h=>h⟩
theorem Ext.trans {H H1 H2:Hp}(a:Ext H H1)(b:Ext H1 H2):Ext H H2:=⟨λc xs h=>b.tup c xs (a.tup c xs h),λc o u h=>b.frz c o u (a.frz c o u h)⟩
theorem Ext.uY {K:PySem.W.Frag}{H H':Hp}{a:Addr}{xs:List V}(e:Ext H H')(h:uo K H a xs):uo K H' a xs:=by
 rcases h with (h | ⟨o,h⟩) | h
 ·exact .inl (.inl (e.tup _ _ h))
 ·exact .inl (.inr ⟨o,e.frz _ _ _ h⟩)
 ·exact .inr h
theorem Ext.aaU {K:PySem.W.Frag}{H H':Hp}{a:Addr}{xs:List V}{ds:List D}(e:Ext H H')(h:yE K H a xs ds):yE K H' a xs ds:=by
 rcases h with h | h
 ·exact .inl (e.tup _ _ h)
 ·exact .inr h
theorem Ext.new {H:Hp}{p:Addr}{o:HO}(h:H p=none):Ext H (upd H p o) :=
 ⟨λb xs q=>by rw[lX (zP q h)];exact q,λb o' u q=>by rw[lX (zP q h)];exact q⟩
structure bC (μ:List Addr)(H:Hp)(μ':List Addr)(H':Hp):Prop where
 pre:∃ν,μ'=μ++ν
 ext:Ext H H'
theorem bC.refl (μ:List Addr)(H:Hp):bC μ H μ H:=⟨⟨[],by simp⟩,.refl H⟩
theorem bC.trans {μ μ1 μ2:List Addr}{H H1 H2:Hp}(a:bC μ H μ1 H1)(b:bC μ1 H1 μ2 H2):bC μ H μ2 H2:=by
 obtain⟨ν1,rfl⟩:=a.pre;obtain⟨ν2,rfl⟩:=b.pre;exact⟨⟨ν1++ν2,by simp⟩,a.ext.trans b.ext⟩
theorem bC.get {μ μ':List Addr}{H H':Hp}(g:bC μ H μ' H'){n:Nat}{a:Addr}(h:μ[n]? = some a):μ'[n]? = some a:=by
 obtain⟨ν,rfl⟩:=g.pre;rw[gQ (gj.mp h).1];exact h
mutual
theorem ao.mono {K:PySem.W.Frag}{μ μ':List Addr}{H H':Hp}(g:bC μ H μ' H'):∀(d:D) {v:V},ao K μ H d v->ao K μ' H' d v
 | .non,_,h=>by simpa[ao] using h
 | .bl _,_,h=>by simpa[ao] using h
 | .int _,_,h=>by simpa[ao] using h
 | .str _,_,h=>by simpa[ao] using h
 | .tup ds,_,h=>by
  rw[ao]at h ⊢;obtain⟨a,xs,rfl,h1,h2⟩:=h;exact⟨a,xs,rfl,g.ext.aaU h1,ak.mono g ds h2⟩
 | .loc n,_,h=>by
  rw[ao]at h ⊢;obtain⟨a,h1,rfl⟩:=h;exact⟨a,g.get h1,rfl⟩
theorem ak.mono {K:PySem.W.Frag}{μ μ':List Addr}{H H':Hp}(g:bC μ H μ' H'):∀(ds:List D) {vs:List V},ak K μ H ds vs->ak K μ' H' ds vs
 | [],_,h=>by simpa[ak] using h
 | d::ds,_,h=>by
  rw[ak]at h ⊢;obtain⟨v,r,rfl,h1,h2⟩:=h;exact⟨v,r,rfl,ao.mono g d h1,ak.mono g ds h2⟩
end
section
variable {K:PySem.W.Frag}{μ:List Addr}{H:Hp}
theorem ak.length:∀{ds:List D} {vs:List V},ak K μ H ds vs->ds.length=vs.length
 | [],_,h=>by rw[ak]at h;subst h;rfl
 | d::ds,_,h=>by
  rw[ak]at h;obtain⟨v,r,rfl,_,h2⟩:=h;rw[g8,g8,ak.length h2]
theorem ak.get:∀{ds:List D} {vs:List V} {i:Nat} {d:D},ak K μ H ds vs->ds[i]? = some d->∃v,vs[i]? = some v/\ao K μ H d v
 | [],_,_,_,_,e=>by simp at e
 | d::ds,_,0,_,h,e=>by
  rw[ak]at h;obtain⟨v,r,rfl,h1,_⟩:=h;simp at e;subst e;exact⟨v,rfl,h1⟩
 | d::ds,_,i+1,x,h,e=>by
  rw[ak]at h;obtain⟨v,r,rfl,_,h2⟩:=h;obtain⟨u,h3,h4⟩:=ak.get (i:=i) h2 (by simpa using e);exact⟨u,by simpa using h3,h4⟩
theorem ak.append:∀{ds es:List D} {vs ws:List V},ak K μ H ds vs->ak K μ H es ws->ak K μ H (ds++es) (vs++ws)
 | [],_,_,_,h,k=>by rw[ak]at h;subst h;exact k
 | d::ds,es,_,ws,h,k=>by
  rw[ak]at h;obtain⟨v,r,rfl,h1,h2⟩:=h;show ak K μ H (d::(ds++es)) (v::(r++ws));rw[ak];exact⟨v,r++ws,rfl,h1,ak.append h2 k⟩
theorem ak.nil:ak K μ H [] []:=by rw[ak]
theorem ak.cons {d:D}{ds:List D}{v:V}{vs:List V}(h:ao K μ H d v)(k:ak K μ H ds vs):ak K μ H (d::ds) (v::vs):=by rw[ak];exact⟨v,vs,rfl,h,k⟩
theorem ak.take:∀{ds:List D} {vs:List V} (n:Nat),ak K μ H ds vs->ak K μ H (ds.take n) (vs.take n)
 | _,_,0,_=>by simp[ak]
 | [],_,n+1,h=>by rw[ak]at h;subst h;simp[ak]
 | d::ds,_,n+1,h=>by
  rw[ak]at h;obtain⟨v,r,rfl,h1,h2⟩:=h;exact ak.cons h1 (ak.take n h2)
theorem ak.drop:∀{ds:List D} {vs:List V} (n:Nat),ak K μ H ds vs->ak K μ H (ds.drop n) (vs.drop n)
 | _,_,0,h=>h
 | [],_,n+1,h=>by rw[ak]at h;subst h;simp[ak]
 | d::ds,_,n+1,h=>by
  rw[ak]at h;obtain⟨v,r,rfl,h1,h2⟩:=h;exact ak.drop n h2
theorem ak.set {d:D}{v:V}(hd:ao K μ H d v):∀{ds:List D} {vs:List V} (i:Nat),ak K μ H ds vs->ak K μ H (ds.set i d) (vs.set i v)
 | [],_,_,h=>by rw[ak]at h;subst h;simp[ak]
 | x::ds,_,0,h=>by
  rw[ak]at h;obtain⟨w,r,rfl,h1,h2⟩:=h;exact ak.cons hd h2
 | x::ds,_,i+1,h=>by
  rw[ak]at h;obtain⟨w,r,rfl,h1,h2⟩:=h;exact ak.cons h1 (ak.set hd i h2)
theorem ao.aO {i:Int}{v:V}:ao K μ H (.int i) v↔v=.int i:=by rw[ao]
theorem ao.bH {b:Bool}{v:V}:ao K μ H (.bl b) v↔v=.bl b:=by rw[ao]
theorem ao.bL {v:V}:ao K μ H .non v↔v=.non:=by rw[ao]
theorem ao.aU {cs:List Nat}{v:V}:ao K μ H (.str cs) v↔v=.str (strOf cs):=by rw[ao]
theorem ao.aY {ds:List D}{v:V}:ao K μ H (.tup ds) v ↔ ∃a xs,v=.ref a/\yE K H a xs ds/\ak K μ H ds xs:=by rw[ao]
theorem ao.aN {n:Nat}{v:V}:ao K μ H (.loc n) v ↔ ∃a,μ[n]? = some a/\v=.ref a:=by rw[ao]
end
noncomputable def aM {κ:Type}(K:PySem.W.Frag)(μ:List Addr)(H:Hp):List (κ×D)->List (κ×V)->Prop
 | [],vs=>vs=[]
 | (k,d)::ds,vs=>∃v r,vs=(k,v)::r/\ao K μ H d v/\aM K μ H ds r
theorem aM.mono {κ:Type}{K:PySem.W.Frag}{μ μ':List Addr}{H H':Hp}(g:bC μ H μ' H'):∀{ds:List (κ×D)} {vs:List (κ×V)},aM K μ H ds vs->aM K μ' H' ds vs
 | [],_,h=>h
 | (k,d)::ds,_,⟨v,r,e,h1,h2⟩=>⟨v,r,e,h1.mono g d,aM.mono g h2⟩
noncomputable def xP (K:PySem.W.Frag)(H:Hp)(a:Addr)(xs:List V):Prop :=
 (∃o,H a=some (.frz o (.lst xs)))\/∃(o:Obj) (its:Array Value) (n:Nat),K.lookup a=some o/\o.cls=.type "list"/\o.dict=none/\o.data=.seq its n/\its.size<=sizeLine/\Vals xs its.toList
theorem xP.sqL {K:PySem.W.Frag}{H:Hp}{a:Addr}{xs:List V}(h:xP K H a xs):uW K H a xs:=by
 rcases h with h | h
 ·exact .inl (.inr h)
 ·exact .inr h
theorem xP.ext {K:PySem.W.Frag}{H H':Hp}{a:Addr}{xs:List V}(e:Ext H H')(h:xP K H a xs):xP K H' a xs:=by
 rcases h with⟨o,h⟩ | h
 ·exact .inl ⟨o,e.frz _ _ _ h⟩
 ·exact .inr h
noncomputable def MO.mut:MO->Bool
 | .frz _=>false
 | .clo _ _ _=>false
 | .hid=>false
 | .dkf _=>false
 | .dtf _=>false
 | .exc _ _=>false
 | _=>true
noncomputable def tV (H:Hp)(c:Addr)(q:Str):Prop:=∃oc vs t,H c=some (.frz oc (.own 0))/\oc.data=.fields vs/\vs[1]? = some (.str q t)
noncomputable def fK (H:Hp):List (Str×Addr)->List V->Prop
 | [],vs=>vs=[]
 | (_,c)::cl,vs=>∃v r o u,vs=v::r/\H c=some (.frz o (.own 0))/\o.data=.cell (some u)/\RelV v u/\fK H cl r
theorem tV.ext {H H':Hp}{c:Addr}{q:Str}(e:Ext H H')(h:tV H c q):tV H' c q :=
 let ⟨oc,vs,t,h1,h2⟩:=h;⟨oc,vs,t,e.frz _ _ _ h1,h2⟩
theorem fK.ext {H H':Hp}(e:Ext H H'):∀{cl:List (Str×Addr)} {vs:List V},fK H cl vs->fK H' cl vs
 | [],_,h=>h
 | (_,c)::cl,_,⟨v,r,o,u,h1,h2,h3,h4,h5⟩=>⟨v,r,o,u,h1,e.frz _ _ _ h2,h3,h4,fK.ext e h5⟩
noncomputable def tu (x:Str):Str:=x ++ ".<locals>." ++ "<lambda>"
noncomputable def jk (K:PySem.W.Frag)(μ:List Addr)(H:Hp)(a:Addr):MO->Prop
 | .lst ds=>∃xs,H a=some (.lst xs)/\ak K μ H ds xs
 | .frz ds=>∃xs,xP K H a xs/\ak K μ H ds xs
 | .dic kvs=>∃ws,H a=some (.dT ws)/\aM K μ H kvs ws
 | .dkc kvs=>∃ws,H a=some (.dK ws)/\aM K μ H kvs ws
 | .dkf kvs=>∃ws o,H a=some (.frz o (.dK ws))/\aM K μ H kvs ws
 | .dtf kvs=>∃ws o,H a=some (.frz o (.dT ws))/\aM K μ H kvs ws
 | .ins c fs=>∃C dx ws,PySem.W.nsIn K mainGlobals c=some (some (.ref C))/\H a=some (.ins C dx ws)/\aM K μ H fs ws
 | .tab x=>(∃(fa:Addr) (o:Obj) (fd:FuncData) (c:Addr),PySem.W.nsIn K mainGlobals x=some (some (.ref fa))/\K.lookup fa=some o/\o.data=.func fd/\fd.code=.ref c/\PySem.W.codeHdIn K c a=true) /\
   ∃ps:Array Value,H a=some (.tbl ps)/\TriplesOk ps.toList/\∀pos cv,codeAmong pos ps.toList=some cv->∃c',cv=.ref c'/\tV H c' (tu x)
 | .clo _ l ds=>∃(cl:List (Str×Addr)) (pm:Value) (c':Addr) (tO:Value) (vs:List V),H a=some (.frz (PySem.W.kla_obj "<lambda>" l.qual l.params l.body l.scope cl pm c' tO) (.own 0))/\tV H c' l.qual /\
   cl.map (·.1)=l.rB/\(cl.map (·.2)).Nodup/\fK H cl vs/\ak K μ H ds vs
 | .exc c d=>∃oe C dx od v fs,H a=some (.frz oe (.own 0))/\oe.cls=.ref C/\oe.dict=some dx/\oe.data=.fields fs/\H dx=some (.frz od (.xd [("at",v)]))/\PySem.W.nsIn K mainGlobals (c:Str)=some (some (.ref C))/\ao K μ H d v
 | .hid=>True
structure aV (K:PySem.W.Frag)(μ:List Addr)(H:Hp)(st:aq):Prop where
 len:μ.length=st.length
 at_:∀(n:Nat) (o:MO),st[n]? = some o->∃a,μ[n]? = some a/\jk K μ H a o
 uniq:∀(i j:Nat) (a:Addr) (oi oj:MO),st[i]? = some oi->st[j]? = some oj->oi.mut=true->oj.mut=true->μ[i]? = some a->μ[j]? = some a->i=j
structure dR (K:PySem.W.Frag)(μ:List Addr)(H:Hp)(env:bA)(σ:St):Prop where
 len:env.length=σ.length
 at_:∀(i:Nat) (d:D),env[i]? = some (some d)->∃v,σ[i]? = some (some v)/\ao K μ H d v
theorem dR.mono {K:PySem.W.Frag}{μ μ':List Addr}{H H':Hp}{env:bA}{σ:St}(g:bC μ H μ' H')(h:dR K μ H env σ):dR K μ' H' env σ :=
 ⟨h.len,λi d e=>let ⟨v,h1,h2⟩:=h.at_ i d e;⟨v,h1,h2.mono g d⟩⟩
theorem dR.set {K:PySem.W.Frag}{μ:List Addr}{H:Hp}{env:bA}{σ:St}{i:Nat}{d:D}{v:V}(h:dR K μ H env σ)(r:ao K μ H d v):dR K μ H (env.set i (some d)) (σ.set i (some v)):=by
 refine⟨by simp[h.len],λj e hj=>?_⟩;by_cases hij:i=j
 ·subst hij;have hl:i<env.length:=by
   have:=(gj.mp hj).1;simpa using this
  rw[mJ hl]at hj;cases hj;exact⟨v,by rw[mJ (by rw[<-h.len];exact hl)],r⟩
 ·rw[kY hij]at hj;rw[kY hij];exact h.at_ j e hj
theorem jk.some_of {K:PySem.W.Frag}{μ:List Addr}{H:Hp}{a:Addr}{o:MO}(h:jk K μ H a o)(hm:o.mut=true):∃u,H a=some u:=by
 cases o with
 | lst ds=>obtain⟨xs,h1,_⟩:=h;exact⟨_,h1⟩
 | frz ds=>cases hm
 | dic kvs=>obtain⟨xs,h1,_⟩:=h;exact⟨_,h1⟩
 | dkc kvs=>obtain⟨xs,h1,_⟩:=h;exact⟨_,h1⟩
 | dkf kvs=>cases hm
 | dtf kvs=>cases hm
 | ins c fs=>obtain⟨_,_,_,_,h1,_⟩:=h;exact⟨_,h1⟩
 | tab x=>obtain⟨_,_,h1,_⟩:=h;exact⟨_,h1⟩
 | clo j l ds=>cases hm
 | exc c d=>cases hm
 | hid=>cases hm
theorem jk.keep {K:PySem.W.Frag}{μ μ':List Addr}{H H':Hp}{a:Addr}{o:MO}(g:bC μ H μ' H')(hk:o.mut=true->∀u,H a=some u->H' a=some u)(h:jk K μ H a o):jk K μ' H' a o:=by
 cases o with
 | lst ds=>obtain⟨xs,h1,h2⟩:=h;exact⟨xs,hk rfl _ h1,h2.mono g ds⟩
 | frz ds=>obtain⟨xs,h1,h2⟩:=h;exact⟨xs,h1.ext g.ext,h2.mono g ds⟩
 | dic kvs=>obtain⟨ws,h1,h2⟩:=h;exact⟨ws,hk rfl _ h1,h2.mono g⟩
 | dkc kvs=>obtain⟨ws,h1,h2⟩:=h;exact⟨ws,hk rfl _ h1,h2.mono g⟩
 | dkf kvs=>obtain⟨ws,o,h1,h2⟩:=h;exact⟨ws,o,g.ext.frz _ _ _ h1,h2.mono g⟩
 | dtf kvs=>obtain⟨ws,o,h1,h2⟩:=h;exact⟨ws,o,g.ext.frz _ _ _ h1,h2.mono g⟩
 | exc c d=>obtain⟨oe,C,dx,od,v,fs,h1,h2,h3,h4,h5,h6,h7⟩:=h;exact⟨oe,C,dx,od,v,fs,g.ext.frz _ _ _ h1,h2,h3,h4,g.ext.frz _ _ _ h5,h6,h7.mono g d⟩
 | ins c fs=>obtain⟨C,dx,ws,h0,h1,h2⟩:=h;exact⟨C,dx,ws,h0,hk rfl _ h1,h2.mono g⟩
 | tab x=>obtain⟨h0,ps,h1,h2,h3⟩:=h;exact⟨h0,ps,hk rfl _ h1,h2,λpos cv e=>let ⟨c',e1,e2⟩:=h3 pos cv e;⟨c',e1,e2.ext g.ext⟩⟩
 | clo j l ds=>obtain⟨cl,pm,c',tO,vs,h1,h2,h3,h4,h5,h6⟩:=h;exact⟨cl,pm,c',tO,vs,g.ext.frz _ _ _ h1,h2.ext g.ext,h3,h4,h5.ext g.ext,h6.mono g ds⟩
 | hid=>trivial
section
variable {K:PySem.W.Frag}{μ:List Addr}{H:Hp}{st:aq}{p a:Addr}{xs:List V}{n:Nat}{mo O7:MO}{o o':HO}
theorem aV.lay (h:aV K μ H st)(hp:H p=none):aV K μ (upd H p o) st :=
 ⟨h.len,λn mo e=>let ⟨a,h1,h2⟩:=h.at_ n mo e;⟨a,h1,h2.keep ⟨⟨[],by simp⟩,.new hp⟩ λ_ u q=>by rw[lX (zP q hp)];exact q⟩,h.uniq⟩
theorem bC.lay (hp:H p=none):bC μ H μ (upd H p o):=⟨⟨[],by simp⟩,.new hp⟩
theorem bC.new (hp:H p=none):bC μ H (μ++[p]) (upd H p o):=⟨⟨[p],rfl⟩,.new hp⟩
theorem aV.new (h:aV K μ H st)(hp:H p=none)(hn:jk K (μ++[p]) (upd H p o) p mo):aV K (μ++[p]) (upd H p o) (st++[mo]):=by
 refine⟨by simp[h.len],λn Ma e=>?_,λi j b oi oj ei ej mi mj hi hj=>?_⟩
 ·by_cases hl:n<st.length
  ·rw[gQ hl]at e;obtain⟨b,h1,h2⟩:=h.at_ n Ma e;exact⟨b,by rw[gQ (by rw[h.len];exact hl)];exact h1,h2.keep (bC.new hp) λ_ u q=>by rw[lX (zP q hp)];exact q⟩
  ·have wg:=(gj.mp e).1;rw[gC,nq]at wg;have e2:n=st.length:=by omega
   subst e2;rw[gR (gh _)]at e;simp at e;subst e;exact⟨p,by rw[<-h.len];simp,hn⟩
 ·have key:∀(k:Nat) (ok:MO),(st++[mo])[k]? = some ok->ok.mut=true->(μ++[p])[k]? = some b->(k<st.length/\st[k]? = some ok/\μ[k]? = some b/\b≠p)\/(k=st.length/\b=p):=λk ok ek mk hk=>by
   by_cases hl:k<st.length
   ·rw[gQ hl]at ek;rw[gQ (by rw[h.len];exact hl)]at hk;obtain⟨c,h1,h2⟩:=h.at_ k ok ek;rw[hk]at h1;cases h1;obtain⟨u,hu⟩:=h2.some_of mk;exact .inl ⟨hl,ek,hk,zP hu hp⟩
   ·have wg:=(gj.mp ek).1;rw[gC,nq]at wg;have e2:k=st.length:=by omega
    subst e2;rw[<-h.len]at hk;simp at hk;exact .inr ⟨rfl,hk.symm⟩
  rcases key i oi ei mi hi with⟨_,a1,a2,a3⟩ | ⟨a1,a2⟩
  ·rcases key j oj ej mj hj with⟨_,b1,b2,b3⟩ | ⟨b1,b2⟩
   ·exact h.uniq i j b oi oj a1 b1 mi mj a2 b2
   ·exact absurd b2 a3
  ·rcases key j oj ej mj hj with⟨_,b1,b2,b3⟩ | ⟨b1,b2⟩
   ·exact absurd a2 b3
   ·rw[a1,b1]
theorem Ext.mut (h:H a=some o)(ht:∀ys,o≠.tup ys)(hf:∀w u,o≠.frz w u):Ext H (upd H a o') :=
 ⟨λb ys q=>by rw[lX (λe=>by subst e;rw[h]at q;exact ht _ (Option.some.inj q))];exact q,
  λb w u q=>by rw[lX (λe=>by subst e;rw[h]at q;exact hf _ _ (Option.some.inj q))];exact q⟩
theorem aV.put (h:aV K μ H st)(hn:st[n]? = some mo)(hm:mo.mut=true)(TJ:O7.mut=true)(ha:μ[n]? = some a)(g:Ext H (upd H a o'))(new:jk K μ (upd H a o') a O7):aV K μ (upd H a o') (st.set n O7):=by
 have hl:=(gj.mp hn).1;refine⟨by simp[h.len],λk ok e=>?_,λi j b oi oj ei ej mi mj hi hj=>?_⟩
 ·by_cases hk:n=k
  ·subst hk;rw[mJ hl]at e;cases e;exact⟨a,ha,new⟩
  ·rw[kY hk]at e;obtain⟨b,h1,h2⟩:=h.at_ k ok e;refine⟨b,h1,h2.keep ⟨⟨[],by simp⟩,g⟩ λhmk u q=>?_⟩;rw[lX (λe2=>?_)]
   ·exact q
   ·subst e2;exact hk (h.uniq n k b mo ok hn e hm hmk ha h1)
 ·have key:∀(k:Nat) (ok:MO),(st.set n O7)[k]? = some ok->ok.mut=true->∃Zg,st[k]? = some Zg/\Zg.mut=true:=λk ok ek mk=>by
   by_cases hk:n=k
   ·subst hk;exact⟨mo,hn,hm⟩
   ·rw[kY hk]at ek;exact⟨ok,ek,mk⟩
  obtain⟨oi',ei',mi'⟩:=key i oi ei mi;obtain⟨oj',ej',mj'⟩:=key j oj ej mj;exact h.uniq i j b oi' oj' ei' ej' mi' mj' hi hj
end
noncomputable def ExcAt (X:Cx)(μ:List Addr)(H:Hp)(x:Xc)(e:Value)(s:Shared):Prop :=
 ∃a C dx lo fl v,e=.ref a/\X.adz.heap.objs.size<=lo/\Xo lo a C dx fl H s.heap/\H dx=some (.xd [("at",v)])/\PySem.W.nsIn X.K mainGlobals (x.cls:Str)=some (some (.ref C))/\ao X.K μ H x.fld v
noncomputable def vO (X:Cx)(μ:List Addr)(H:Hp)(x:Xc)(st:aq):Prop :=
 ∀(pins:List (Addr×Obj)) (σ':L2.St) (H':Hp) (μ':List Addr) (e:Value) (s':Shared),bC μ H μ' H'->aV X.K μ' H' st->Inv X pins σ' H' s'->ExcAt X μ' H' x e s'->X.xe e s'
theorem vO.mono {X:Cx}{μ μ1:List Addr}{H H1:Hp}{x:Xc}{st:aq}(g:bC μ H μ1 H1)(h:vO X μ H x st):vO X μ1 H1 x st :=
 λpins σ' H' μ' e s' g'=>h pins σ' H' μ' e s' (g.trans g')
noncomputable abbrev Rel (α β:Type):=List Addr->Hp->α->β->Prop
noncomputable def cg {α β:Type}(X:Cx)(μ:List Addr)(H:Hp)(rel:Rel α β)(Q:β->Hp->Prop)(r:R α):Prop:=match r with
 | .ok a st=>∀(b:β) (H':Hp) (μ':List Addr),bC μ H μ' H'->aV X.K μ' H' st->rel μ' H' a b->Q b H'
 | .err x st=>vO X μ H x st
 | .bad=>False
section
variable {α β γ δ:Type}{X:Cx}{μ μ1:List Addr}{H H1:Hp}{rel:Rel α β}{KQ:Rel γ δ}{Q Q':β->Hp->Prop}{r:R α}
theorem cg.mono (g:bC μ H μ1 H1)(h:cg X μ H rel Q r):cg X μ1 H1 rel Q r:=by
 cases r with
 | ok a st=>exact λb H' μ' g'=>h b H' μ' (g.trans g')
 | err x st=>exact vO.mono g h
 | bad=>exact h
theorem cg.imp (h:cg X μ H rel Q r)(k:∀b H',Q b H'->Q' b H'):cg X μ H rel Q' r:=by
 cases r with
 | ok a st=>exact λb H' μ' g' h1 h2=>k b H' (h b H' μ' g' h1 h2)
 | err x st=>exact h
 | bad=>exact h
noncomputable def Then (X:Cx)(μ:List Addr)(H:Hp)(rel:Rel α β)(KQ:Rel γ δ)(Q2:δ->Hp->Prop)(f:α->aq->R γ):β->Hp->Prop :=
 λb H1=>∃μ1 st1 a,bC μ H μ1 H1/\aV X.K μ1 H1 st1/\rel μ1 H1 a b/\cg X μ1 H1 KQ Q2 (f a st1)
theorem cg.bind {Q2:δ->Hp->Prop}{f:α->aq->R γ}(h:cg X μ H KQ Q2 (r.bind f)):cg X μ H rel (Then X μ H rel KQ Q2 f) r:=by
 cases r with
 | ok a st=>exact λb H' μ' g h1 h2=>⟨μ',st,a,g,h1,h2,cg.mono g h⟩
 | err x st=>exact h
 | bad=>exact h
theorem cg.ret {a:α}{b:β}{st:aq}(h:cg X μ H rel Q (.ok a st))(hs:aV X.K μ H st)(hr:rel μ H a b):Q b H:=h b H μ (.refl _ _) hs hr
end
noncomputable abbrev q9 (X:Cx):Rel D V:=fun μ H d v=>ao X.K μ H d v
noncomputable abbrev abk (X:Cx):Rel (List D) (List V):=fun μ H d v=>ak X.K μ H d v
noncomputable abbrev Cd:Rel Bool Bool:=λ_ _ a b=>a=b
noncomputable abbrev abh:Rel (Option Int) (Option Int):=λ_ _ a b=>a=b
noncomputable abbrev ME:=bA->aq->R D
noncomputable abbrev MA:=bA->aq->R (List D)
noncomputable abbrev MT:=bA->aq->R Bool
noncomputable abbrev MP:=bA->aq->R (Option Int)
noncomputable def tM (X:Cx)(m:ME):TE:=fun σ H Q=>∃μ env st,dR X.K μ H env σ/\aV X.K μ H st/\cg X μ H (q9 X) Q (m env st)
noncomputable def tMA (X:Cx)(m:MA):TA:=fun σ H Q=>∃μ env st,dR X.K μ H env σ/\aV X.K μ H st/\cg X μ H (abk X) Q (m env st)
noncomputable def tMT (X:Cx)(m:MT):TT:=fun σ H Q=>∃μ env st,dR X.K μ H env σ/\aV X.K μ H st/\cg X μ H Cd Q (m env st)
noncomputable def tMP (X:Cx)(m:MP):TO:=fun σ H Q=>∃μ env st,dR X.K μ H env σ/\aV X.K μ H st/\cg X μ H abh Q (m env st)
noncomputable def JE (X:Cx)(e:Expr)(m:ME):Prop:=PE X e (tM X m)
noncomputable def JT (X:Cx)(e:Expr)(m:MT):Prop:=PT X e (tMT X m)
noncomputable def JA (X:Cx)(es:List Expr)(m:MA):Prop:=PA X es (tMA X m)
noncomputable def JP (X:Cx)(e:Option Expr)(m:MP):Prop:=PO X e (tMP X m)
section
variable {X:Cx}{e a b c:Expr}{es:List Expr}{t:TE}{ma mb mc:ME}{mA:MA}{pos:Pos}
theorem JE.of {m:ME}(h:PE X e t)(k:∀σ H Q,tM X m σ H Q->t σ H Q):JE X e m:=λpins s σ H Q I q=>h pins s σ H Q I (k σ H Q q)
theorem JT.of {t:TT}{m:MT}(h:PT X e t)(k:∀σ H Q,tMT X m σ H Q->t σ H Q):JT X e m:=λpins s σ H Q I q=>h pins s σ H Q I (k σ H Q q)
theorem JA.of {t:TA}{m:MA}(h:PA X es t)(k:∀σ H Q,tMA X m σ H Q->t σ H Q):JA X es m:=λpos pins s σ H Q I q=>h pos pins s σ H Q I (k σ H Q q)
theorem JP.of {o:Option Expr}{t:TO}{m:MP}(h:PO X o t)(k:∀σ H Q,tMP X m σ H Q->t σ H Q):JP X o m:=λpins s σ H Q I q=>h pins s σ H Q I (k σ H Q q)
noncomputable def vr (i:Nat):ME:=λenv st=>match env[i]? with | some (some d)=>.ok d st | _=>.bad
noncomputable def ct (d:D):ME:=λ_ st=>.ok d st
theorem aC (i:Nat){x:Str}{pos:Pos}(hN:X.N[i]? = some x:=by rfl)(hv:Vis X.env.scope x:=by first | exact Or.inl rfl | exact Or.inr (Or.inl rfl) | exact Or.inr (Or.inr rfl))(hd:(x==("__debug__":Str))=false:=by decide)
  (xH:(x==("__classdict__":Str))=false:=by decide):JE X (.Name x pos) (vr i):=JE.of (Gq hN hv hd xH) fun σ H Q zz=>by
 obtain⟨μ,env,st,he,hs,hp⟩:=zz;unfold vr at hp
 split at hp
 ·rename_i d e;obtain⟨v,h1,h2⟩:=he.at_ i d e;exact⟨v,h1,hp.ret hs h2⟩
 ·exact hp.elim
theorem bf {i j pos}:JE X (.Constant (.int i) j pos) (ct (.int i)):=by
 refine JE.of RW fun σ H Q zz=>?_;obtain⟨μ,env,st,he,hs,hp⟩:=zz;exact hp.ret hs (ao.aO.mpr rfl)
theorem vA {b j pos}:JE X (.Constant (.bool b) j pos) (ct (.bl b)):=by
 refine JE.of Za fun σ H Q zz=>?_;obtain⟨μ,env,st,he,hs,hp⟩:=zz;exact hp.ret hs (ao.bH.mpr rfl)
theorem NT {j pos}:JE X (.Constant .none j pos) (ct .non):=by
 refine JE.of RP fun σ H Q zz=>?_;obtain⟨μ,env,st,he,hs,hp⟩:=zz;exact hp.ret hs (ao.bL.mpr rfl)
theorem tX {x:Str}{j pos}(cs:List Nat)(h:x=strOf cs:=by decide +kernel):JE X (.Constant (.str x) j pos) (ct (.str cs)):=by
 refine JE.of RK fun σ H Q zz=>?_;obtain⟨μ,env,st,he,hs,hp⟩:=zz;exact hp.ret hs (ao.aU.mpr (by rw[h]))
noncomputable def aL (g:D->D->aq->R D)(a b:ME):ME:=λenv st=>(a env st).bind λx st1=>(b env st1).bind λy st2=>g x y st2
noncomputable def ye (g:D->aq->R D)(a:ME):ME:=λenv st=>(a env st).bind λx st1=>g x st1
noncomputable def rM (X:Cx)(g:D->D->aq->R D):R2:=λx y H Q=>∃μ st dx dy,aV X.K μ H st/\ao X.K μ H dx x/\ao X.K μ H dy y/\cg X μ H (q9 X) Q (g dx dy st)
noncomputable def rM1 (X:Cx)(g:D->aq->R D):V->Hp->VK->Prop:=λx H Q=>∃μ st dx,aV X.K μ H st/\ao X.K μ H dx x/\cg X μ H (q9 X) Q (g dx st)
noncomputable def JX (X:Cx)(g:List D->aq->R D):List V->Hp->VK->Prop:=λxs H Q=>∃μ st ds,aV X.K μ H st/\ak X.K μ H ds xs/\cg X μ H (q9 X) Q (g ds st)
noncomputable def Rm (X:Cx)(g:D->List D->aq->R D):V->List V->Hp->VK->Prop:=λx xs H Q=>∃μ st d ds,aV X.K μ H st/\ao X.K μ H d x/\ak X.K μ H ds xs/\cg X μ H (q9 X) Q (g d ds st)
theorem dG.weak {f:Value->Value->Sem Value}{r r':R2}(h:dG X f r)(k:∀x y H Q,r' x y H Q->r x y H Q):dG X f r':=λpins s σ H x y v u Q I rx ry q=>h pins s σ H x y v u Q I rx ry (k x y H Q q)
theorem NB.weak {f:Value->Sem Value}{r r':V->Hp->VK->Prop}(h:NB X f r)(k:∀x H Q,r' x H Q->r x H Q):NB X f r':=λpins s σ H x v Q I rx q=>h pins s σ H x v Q I rx (k x H Q q)
theorem cu.weak {f:Value}{r r':List V->Hp->VK->Prop}(h:cu X f r)(k:∀x H Q,r' x H Q->r x H Q):cu X f r':=λpins s σ H x v Q I rx q=>h pins s σ H x v Q I rx (k x H Q q)
theorem yH.weak {id:String}{r r':V->List V->Hp->VK->Prop}(h:yH X id r)(k:∀x xs H Q,r' x xs H Q->r x xs H Q):yH X id r':=λpins s σ H x xs v us Q I rx rs q=>h pins s σ H x xs v us Q I rx rs (k x xs H Q q)
theorem Bo.weak {r r':R2}(h:Bo X r)(k:∀x y H Q,r' x y H Q->r x y H Q):Bo X r':=λva sl pins s σ H x y v u Q I rx ry q=>h va sl pins s σ H x y v u Q I rx ry (k x y H Q q)
theorem yF.weak {r r':V->Option Int->Option Int->Hp->VK->Prop}(h:yF X r)(k:∀x l u H Q,r' x l u H Q->r x l u H Q):yF X r':=λpins s σ H x v vl vu lo hi sl Q I rx hs pl pu q=>h pins s σ H x v vl vu lo hi sl Q I rx hs pl pu (k x lo hi H Q q)
theorem wz.weak {t t':Jw}(h:wz X t)(k:∀o i v H Q,t' o i v H Q->t o i v H Q):wz X t':=λpins s σ H o i v ov iv u Q I ro ri rv q=>h pins s σ H o i v ov iv u Q I ro ri rv (k o i v H Q q)
theorem UG {g:D->D->aq->R D}{σ:L2.St}{H:Hp}{Q:VK}(h:tM X (aL g ma mb) σ H Q):tM X ma σ H λx H1=>tM X mb σ H1 λy H2=>rM X g x y H2 Q:=by
 obtain⟨μ,env,st,he,hs,hp⟩:=h;refine⟨μ,env,st,he,hs,hp.bind.imp ?_⟩;rintro x H1 ⟨μ1,st1,d,g1,bQ,hx,aZ⟩;refine⟨μ1,env,st1,he.mono g1,bQ,aZ.bind.imp ?_⟩;rintro y H2 ⟨μ2,st2,d2,g2,fV,hy,cZ⟩;exact⟨μ2,st2,d,d2,fV,hx.mono g2 _,hy,cZ⟩
theorem aD {op:Operator}{g:D->D->aq->R D}(ho:dG X (binaryOp op) (rM X g))(ha:JE X a ma)(hb:JE X b mb):JE X (.BinOp a op b pos) (aL g ma mb) :=
 JE.of (Y8 ho ha hb) fun σ H Q h=>UG h
theorem Hy {op:CmpOp}{g:D->D->aq->R D}(ho:dG X (compareOp op) (rM X g))(ha:JE X a ma)(hb:JE X b mb)(hm:behindInMarks op b=false):JE X (.Compare a [op] [b] pos) (aL g ma mb) :=
 JE.of (Lq ho ha hb hm) fun σ H Q h=>UG h
theorem wN {op:UnaryOp}{g:D->aq->R D}(ho:NB X (unaryOp op) (rM1 X g))(ha:JE X a ma):JE X (.UnaryOp op a pos) (ye g ma):=by
 refine JE.of (Y6 ho ha) fun σ H Q zz=>?_;obtain⟨μ,env,st,he,hs,hp⟩:=zz;refine⟨μ,env,st,he,hs,hp.bind.imp λx H1 zz=>?_⟩;obtain⟨μ1,st1,d,g1,bQ,hx,aZ⟩:=zz;exact⟨μ1,st1,d,bQ,hx,aZ⟩
noncomputable def jl (a:ME):MT:=λenv st=>(a env st).bind λx st1=>match x with | .bl b=>.ok b st1 | _=>.bad
theorem qp {op:CmpOp}{g:D->D->aq->R D}(ho:dG X (compareOp op) (rM X g))(ha:JE X a ma)(hb:JE X b mb)(hm:behindInMarks op b=false):JT X (.Compare a [op] [b] pos) (jl (aL g ma mb)):=by
 refine JT.of (K_ ho ha hb hm) fun σ H Q zz=>?_;obtain⟨μ,env,st,he,hs,hp⟩:=zz;refine UG ⟨μ,env,st,he,hs,hp.bind.imp ?_⟩;rintro x H1 ⟨μ1,st1,d,g1,bQ,hx,aZ⟩;cases d with
 | bl b=>exact⟨b,ao.bH.mp hx,aZ.ret bQ rfl⟩
 | _=>exact aZ.elim
noncomputable def vX:D->aq->Option Bool
 | .non,_=>some false
 | .bl b,_=>some b
 | .int i,_=>some (i != 0)
 | .str cs,_=>if cs.length<=1000000 then some (!cs.isEmpty) else none
 | .tup ds,_=>some (!ds.isEmpty)
 | .loc n,st=>match st[n]? with
  | some (.lst ds)=>some (!ds.isEmpty)
  | some (.frz ds)=>some (!ds.isEmpty)
  | _=>none
noncomputable def Vw (a:ME):MT:=λenv st=>(a env st).bind λx st1=>match vX x st1 with | some b=>.ok b st1 | none=>.bad
theorem Ew {n:Nat}(h:n<=1000000):n<=sizeLine:=gU h (by decide)
theorem aV.lst {K:PySem.W.Frag}{μ:List Addr}{H:Hp}{st:aq}{n:Nat}{ds:List D}(h:aV K μ H st)(e:st[n]? = some (.lst ds)):∃p xs,μ[n]? = some p/\H p=some (.lst xs)/\ak K μ H ds xs:=by
 obtain⟨p,h1,xs,h2,h3⟩:=h.at_ n _ e;exact⟨p,xs,h1,h2,h3⟩
noncomputable def az (st:aq)(n:Nat):Option (List D):=match st[n]? with
 | some (.lst ds)=>some ds
 | some (.frz ds)=>some ds
 | _=>none
theorem aV.items {K:PySem.W.Frag}{μ:List Addr}{H:Hp}{st:aq}{n:Nat}{ds:List D}(h:aV K μ H st)(e:az st n=some ds):∃p xs,μ[n]? = some p/\uW K H p xs/\ak K μ H ds xs:=by
 unfold az at e
 split at e
 ·rename_i es q;cases e;obtain⟨p,xs,h1,h2,h3⟩:=h.lst q;exact⟨p,xs,h1,uW.of h2,h3⟩
 ·rename_i es q;cases e;obtain⟨p,h1,xs,h2,h3⟩:=h.at_ n _ q;exact⟨p,xs,h1,h2.sqL,h3⟩
 ·cases e
theorem ak.isEmpty {K:PySem.W.Frag}{μ:List Addr}{H:Hp}{ds:List D}{xs:List V}(h:ak K μ H ds xs):ds.isEmpty=xs.isEmpty:=by
 have:=h.length;cases ds<;>cases xs<;>simp_all
theorem zR {d:D}{st:aq}{b:Bool}{μ:List Addr}{H:Hp}{v:V}(h:vX d st=some b)(hs:aV X.K μ H st)(hv:ao X.K μ H d v):NK X.K v H b:=by
 cases d with
 | non=>rw[ao.bL]at hv;subst hv;cases h;rfl
 | bl c=>rw[ao.bH]at hv;subst hv;cases h;rfl
 | int i=>rw[ao.aO]at hv;subst hv;cases h;rfl
 | str cs =>
  rw[ao.aU]at hv;subst hv;simp only[vX]at h
  split at h
  ·rename_i hl;cases h;have e:(strOf cs).length=cs.length:=by simp[Str.length,strOf]
   refine⟨by rw[e];exact Ew hl,?_⟩;rw[e];cases cs<;>simp;omega
  ·cases h
 | tup ds =>
  rw[ao.aY]at hv;obtain⟨a,xs,rfl,h1,h2⟩:=hv;cases h;exact .inr (.inl ⟨xs,h1.uY,by rw[h2.isEmpty]⟩)
 | loc n =>
  rw[ao.aN]at hv;obtain⟨a,h1,rfl⟩:=hv;have key:∃ds,az st n=some ds/\b=!ds.isEmpty:=by
   unfold az;simp only[vX]at h
   split at h
   ·rename_i q;cases h;exact⟨_,rfl,rfl⟩
   ·rename_i q;cases h;exact⟨_,rfl,rfl⟩
   ·cases h
  obtain⟨ds,q,rfl⟩:=key;obtain⟨p,xs,h3,h4,h5⟩:=hs.items q;rw[h1]at h3;cases h3;exact .inl ⟨xs,h4,by rw[h5.isEmpty]⟩
theorem znx (ha:JE X a ma)(he:∀whole,isTrue a X.env whole=(do let v <-whole;standAt a.pos;holding [v] (truthy v)):=by intro _;rfl):JT X a (Vw ma):=by
 refine JT.of (Gh ha he) fun σ H Q zz=>?_;obtain⟨μ,env,st,hE,hs,hp⟩:=zz;refine⟨μ,env,st,hE,hs,hp.bind.imp ?_⟩;rintro x H1 ⟨μ1,st1,d,g1,bQ,hx,aZ⟩;cases e:vX d st1 with
 | none=>simp only[e]at aZ;exact aZ.elim
 | some b=>simp only[e]at aZ;exact⟨b,zR e bQ hx,aZ.ret bQ rfl⟩
noncomputable def JW (X:Cx)(e:Expr)(m:MT):Prop:=PW X e (tMT X m)
theorem JW.jt {m:MT}(h:JW X e m):JT X e m:=PW.pt h
theorem JW.of {t:TT}{m:MT}(h:PW X e t)(k:∀σ H Q,tMT X m σ H Q->t σ H Q):JW X e m:=λw pins s σ H Q I q=>h w pins s σ H Q I (k σ H Q q)
noncomputable def yD (a b:MT):MT:=λenv st=>(a env st).bind λx st1=>if x then b env st1 else .ok false st1
noncomputable def JZ (a b:MT):MT:=λenv st=>(a env st).bind λx st1=>if x then .ok true st1 else b env st1
noncomputable def Cy (a:MT):MT:=λenv st=>(a env st).bind λx st1=>.ok (!x) st1
variable {ta tb tc:MT}{rest:List Expr}
theorem znj (ha:JT X a ta):JW X (.BoolOp .And [a] pos) ta:=K6 ha
theorem WD (ha:JT X a ta):JW X (.BoolOp .Or [a] pos) ta:=Rp ha
theorem zq (ha:JT X a ta)(hb:JW X (.BoolOp .And (b::rest) pos) tb):JW X (.BoolOp .And (a::b::rest) pos) (yD ta tb):=by
 refine JW.of (Rq ha hb) fun σ H Q zz=>?_;obtain⟨μ,env,st,hE,hs,hp⟩:=zz;refine⟨μ,env,st,hE,hs,hp.bind.imp ?_⟩;rintro x H1 ⟨μ1,st1,d,g1,bQ,rfl,aZ⟩;cases d with
 | true=>exact zr ⟨μ1,env,st1,hE.mono g1,bQ,aZ⟩
 | false=>exact zu (aZ.ret bQ rfl)
theorem wM (ha:JT X a ta)(hb:JW X (.BoolOp .Or (b::rest) pos) tb):JW X (.BoolOp .Or (a::b::rest) pos) (JZ ta tb):=by
 refine JW.of (YT ha hb) fun σ H Q zz=>?_;obtain⟨μ,env,st,hE,hs,hp⟩:=zz;refine⟨μ,env,st,hE,hs,hp.bind.imp ?_⟩;rintro x H1 ⟨μ1,st1,d,g1,bQ,rfl,aZ⟩;cases d with
 | true=>exact zr (aZ.ret bQ rfl)
 | false=>exact zu ⟨μ1,env,st1,hE.mono g1,bQ,aZ⟩
theorem Hn (ha:JT X a ta):JT X (.UnaryOp .Not a pos) (Cy ta):=by
 refine JT.of (Rr ha) fun σ H Q zz=>?_;obtain⟨μ,env,st,hE,hs,hp⟩:=zz;refine⟨μ,env,st,hE,hs,hp.bind.imp ?_⟩;rintro x H1 ⟨μ1,st1,d,g1,bQ,rfl,aZ⟩;exact aZ.ret bQ rfl
theorem Hu {op}{m:ME}(h:JE X a m):JE X (.BoolOp op [a] pos) m:=RN h
noncomputable def ifE (c:MT)(a b:ME):ME:=λenv st=>(c env st).bind λx st1=>if x then a env st1 else b env st1
theorem ZD (hc:JT X c tc)(ha:JE X a ma)(hb:JE X b mb):JE X (.IfExp c a b pos) (ifE tc ma mb):=by
 refine JE.of (Gs hc ha hb) fun σ H Q zz=>?_;obtain⟨μ,env,st,hE,hs,hp⟩:=zz;refine⟨μ,env,st,hE,hs,hp.bind.imp ?_⟩;rintro x H1 ⟨μ1,st1,d,g1,bQ,rfl,aZ⟩;cases d with
 | true=>exact zr ⟨μ1,env,st1,hE.mono g1,bQ,aZ⟩
 | false=>exact zu ⟨μ1,env,st1,hE.mono g1,bQ,aZ⟩
noncomputable def au:MA:=λ_ st=>.ok [] st
noncomputable def aj (a:ME)(r:MA):MA:=λenv st=>(a env st).bind λx st1=>(r env st1).bind λxs st2=>.ok (x::xs) st2
theorem bz:JA X [] au:=by
 refine JA.of zc fun σ H Q zz=>?_;obtain⟨μ,env,st,hE,hs,hp⟩:=zz;exact hp.ret hs ak.nil
theorem aH {e:Expr}{es:List Expr}{m:ME}{mA:MA}(h:JE X e m)(hr:JA X es mA)(hs:starEach (e::es) X.env=(false,eval e X.env)::starEach es X.env:=by rfl):JA X (e::es) (aj m mA):=by
 refine JA.of (WX h hr hs) fun σ H Q zz=>?_;obtain⟨μ,env,st,hE,hs,hp⟩:=zz;refine⟨μ,env,st,hE,hs,hp.bind.imp ?_⟩;rintro x H1 ⟨μ1,st1,d,g1,bQ,hx,aZ⟩;refine⟨μ1,env,st1,hE.mono g1,bQ,aZ.bind.imp ?_⟩;rintro xs H2 ⟨μ2,st2,ds,g2,fV,uB,cZ⟩;exact cZ.ret fV (ak.cons (hx.mono g2 _) uB)
noncomputable def dh (m:MA):ME:=λenv st=>(m env st).bind λds st1=>if ds.length<=1000000 then .ok (.tup ds) st1 else .bad
noncomputable def dJ (m:MA):ME:=λenv st=>(m env st).bind λds st1=>if ds.length<=1000000 then .ok (.loc st1.length) (st1++[.lst ds]) else .bad
theorem sU {es:List Expr}{mA:MA}{x1}(h:JA X es mA):JE X (.Tuple es x1 pos) (dh mA):=by
 refine JE.of (RD h) fun σ H Q zz=>?_;obtain⟨μ,env,st,hE,hs,hp⟩:=zz;refine⟨μ,env,st,hE,hs,hp.bind.imp ?_⟩;rintro xs H1 ⟨μ1,st1,ds,g1,bQ,uB,aZ⟩;dsimp only at aZ
 split at aZ
 ·rename_i hl;refine⟨by rw[<-uB.length];exact Ew hl,λp hn=>?_⟩;exact aZ _ _ μ1 (bC.lay hn) (bQ.lay hn) (ao.aY.mpr ⟨p,xs,rfl,.inl uv,uB.mono (bC.lay hn) _⟩)
 ·exact aZ.elim
theorem cg.newList {μ:List Addr}{H:Hp}{st:aq}{ds:List D}{xs:List V}{p:Addr}{Q:VK}(h:cg X μ H (q9 X) Q (.ok (.loc st.length) (st++[.lst ds])))(hs:aV X.K μ H st)(hx:ak X.K μ H ds xs)(hn:H p=none) :
  Q (.ref p) (upd H p (.lst xs)):=by
 have g:bC μ H (μ++[p]) (upd H p (.lst xs)):=bC.new hn;refine h _ _ (μ++[p]) g (hs.new hn ⟨xs,uv,hx.mono g _⟩) (ao.aN.mpr ⟨p,?_,rfl⟩);rw[<-hs.len];simp
theorem Ek {es:List Expr}{mA:MA}(h:JA X es mA):JE X (.List es pos) (dJ mA):=by
 refine JE.of (RQ h) fun σ H Q zz=>?_;obtain⟨μ,env,st,hE,hs,hp⟩:=zz;refine⟨μ,env,st,hE,hs,hp.bind.imp ?_⟩;rintro xs H1 ⟨μ1,st1,ds,g1,bQ,uB,aZ⟩;dsimp only at aZ
 split at aZ
 ·rename_i hl;exact⟨by rw[<-uB.length];exact Ew hl,λp hn=>aZ.newList bQ uB hn⟩
 ·exact aZ.elim
end
section
variable {X:Cx}{e a b c:Expr}{es:List Expr}{t:TE}{ma mb mc:ME}{mA:MA}{pos:Pos}
theorem Xg (cs:List Nat):(strOf cs).length=cs.length:=by simp[Str.length,strOf]
theorem Bx (a b:List Nat):strOf a++strOf b=strOf (a++b):=by
 show Str.append _ _=_;simp[Str.append,strOf]
theorem zkx {a b:List Nat}:strOf a=strOf b↔a=b:=by
 constructor
 ·intro h;have:=congrArg (λs:Str=>s.cps.toList) h;simpa[strOf] using this
 ·intro h;rw[h]
noncomputable def bj:D->D->aq->R D
 | .int i,.int j,st=>.ok (.int (i+j)) st
 | .str a,.str b,st=>if a.length+b.length<=1000000 then .ok (.str (a++b)) st else .bad
 | .tup a,.tup b,st=>if a.length+b.length<=1000000 then .ok (.tup (a++b)) st else .bad
 | .loc m,.loc n,st=>match st[m]?,st[n]? with
  | some (.lst a),some (.lst b)=>if a.length+b.length<=1000000 then .ok (.loc st.length) (st++[.lst (a++b)]) else .bad
  | _,_=>.bad
 | _,_,_=>.bad
theorem jU:dG X (binaryOp .Add) (rM X bj):=by
 refine dG.weak (dG.or R9 (dG.or zmm (dG.or LK (dG.or GD R8)))) ?_;rintro x y H Q ⟨μ,st,dx,dy,hs,hx,hy,hp⟩;cases dx with
 | int i =>
  cases dy with
  | int j =>
   rw[ao.aO]at hx hy;subst hx hy;exact .inl ⟨i,j,rfl,rfl,hp.ret hs (ao.aO.mpr rfl)⟩
  | _=>exact hp.elim
 | str i =>
  cases dy with
  | str j =>
   rw[ao.aU]at hx hy;subst hx hy;simp only[bj]at hp
   split at hp
   ·rename_i hl;refine .inr (.inl ⟨_,_,rfl,rfl,?_,?_⟩)
    ·rw[Xg,Xg];exact Ew hl
    ·rw[Bx];exact hp.ret hs (ao.aU.mpr rfl)
   ·exact hp.elim
  | _=>exact hp.elim
 | tup i =>
  cases dy with
  | tup j =>
   rw[ao.aY]at hx hy;obtain⟨p,xs,rfl,h1,h2⟩:=hx;obtain⟨q,ys,rfl,h3,h4⟩:=hy;simp only[bj]at hp
   split at hp
   ·rename_i hl;by_cases hx0:xs=[]
    ·subst hx0;have hi:i=[]:=by have:=h2.length;simpa using this
     subst hi;exact .inr (.inr (.inr (.inl ⟨p,q,ys,rfl,rfl,h1.uY,h3.uY,hp.ret hs (ao.aY.mpr ⟨q,ys,rfl,h3,h4⟩)⟩)))
    ·refine .inr (.inr (.inl ⟨p,q,xs,ys,rfl,rfl,h1.uY,h3.uY,hx0,by rw[<-h2.length,<-h4.length];exact Ew hl,λhy0=>?_,λ_ r hr=>?_⟩))
     ·subst hy0;have hj:j=[]:=by have:=h4.length;simpa using this
      subst hj;exact hp.ret hs (ao.aY.mpr ⟨p,xs,rfl,by rw[gZ];exact h1,by rw[gZ];exact h2⟩)
     ·exact hp _ _ μ (bC.lay hr) (hs.lay hr) (ao.aY.mpr ⟨r,_,rfl,.inl uv,(h2.append h4).mono (bC.lay hr) _⟩)
   ·exact hp.elim
  | _=>exact hp.elim
 | loc m =>
  cases dy with
  | loc n =>
   rw[ao.aN]at hx hy;obtain⟨p,h1,rfl⟩:=hx;obtain⟨q,h2,rfl⟩:=hy;simp only[bj]at hp
   split at hp
   ·rename_i da db e1 e2
    split at hp
    ·rename_i hl;obtain⟨p',xs,h3,h4,h5⟩:=hs.lst e1;obtain⟨q',ys,h6,h7,h8⟩:=hs.lst e2;rw[h1]at h3;cases h3;rw[h2]at h6;cases h6;exact .inr (.inr (.inr (.inr ⟨p,q,xs,ys,rfl,rfl,h4,h7,by rw[<-h5.length,<-h8.length];exact Ew hl,λr hr=>hp.newList hs (h5.append h8) hr⟩)))
    ·exact hp.elim
   ·exact hp.elim
  | _=>exact hp.elim
 | _=>exact hp.elim
noncomputable def rm (C:Int->Int->Prop)[∀i j,Decidable (C i j)](g:Int->Int->D):D->D->aq->R D
 | .int i,.int j,st=>if C i j then .ok (g i j) st else .bad
 | _,_,_=>.bad
theorem Qn {f:Value->Value->Sem Value}{C:Int->Int->Prop}[∀i j,Decidable (C i j)]{g:Int->Int->D}{gv:Int->Int->V}(h:dG X f (rI C gv))(hg:∀i j μ H,ao X.K μ H (g i j) (gv i j)):dG X f (rM X (rm C g)):=by
 refine dG.weak h ?_;rintro x y H Q ⟨μ,st,dx,dy,hs,hx,hy,hp⟩;cases dx with
 | int i =>
  cases dy with
  | int j =>
   rw[ao.aO]at hx hy;subst hx hy;simp only[rm]at hp
   split at hp
   ·rename_i hc;exact⟨i,j,rfl,rfl,hc,hp.ret hs (hg i j μ H)⟩
   ·exact hp.elim
  | _=>exact hp.elim
 | _=>exact hp.elim
theorem dG.top {f:Value->Value->Sem Value}{gv:Int->Int->V}(h:dG X f (OJ gv)):dG X f (rI (λ_ _=>True) gv):=by
 refine dG.weak h λx y H Q zz=>?_;obtain⟨i,j,a,b,_,q⟩:=zz;exact⟨i,j,a,b,q⟩
noncomputable def Fy:D->D->aq->R D:=rm (λ_ _=>True) λi j=>.int (i - j)
theorem Ai:dG X (binaryOp .Sub) (rM X Fy):=Qn (dG.top R0) λi j μ H=>ao.aO.mpr rfl
noncomputable def jh:D->D->aq->R D:=rm (λi j=>(-(2 ^ 64)<i/\i<2 ^ 64)\/(-(2 ^ 64)<j/\j<2 ^ 64)) λi j=>.int (i*j)
theorem JD:dG X (binaryOp .Mult) (rM X jh):=Qn (dG.weak R5 λx y H Q h=>h) λi j μ H=>ao.aO.mpr rfl
noncomputable def bI:D->D->aq->R D:=rm (λ_ j=>0<j/\j<2 ^ 64) λi j=>.int (i / j)
theorem vW:dG X (binaryOp .FloorDiv) (rM X bI):=Qn GC λi j μ H=>ao.aO.mpr rfl
noncomputable def bD:D->D->aq->R D:=rm (λ_ j=>0<j) λi j=>.int (i % j)
theorem rD:dG X (binaryOp .Mod) (rM X bD):=Qn R6 λi j μ H=>ao.aO.mpr rfl
noncomputable def ltV:D->D->aq->R D:=rm (λ_ _=>True) λi j=>.bl (decide (i<j))
theorem Gz:dG X (compareOp .Lt) (rM X ltV):=Qn (dG.top Zb) λi j μ H=>ao.bH.mpr rfl
noncomputable def O8:D->D->aq->R D:=rm (λ_ _=>True) λi j=>.bl (decide (i<=j))
theorem zf:dG X (compareOp .LtE) (rM X O8):=Qn (dG.top Zc) λi j μ H=>ao.bH.mpr rfl
noncomputable def Nb:D->D->aq->R D:=rm (λ_ _=>True) λi j=>.bl (decide (j<i))
theorem Uz:dG X (compareOp .Gt) (rM X Nb):=Qn (dG.top Zd) λi j μ H=>ao.bH.mpr rfl
noncomputable def vg:D->aq->R D
 | .int i,st=>.ok (.int (-i)) st
 | _,_=>.bad
theorem UT:NB X (unaryOp .USub) (rM1 X vg):=by
 refine NB.weak QL ?_;rintro x H Q ⟨μ,st,dx,hs,hx,hp⟩;cases dx with
 | int i=>rw[ao.aO]at hx;subst hx;exact⟨i,rfl,hp.ret hs (ao.aO.mpr rfl)⟩
 | _=>exact hp.elim
noncomputable def ji:D->D->aq->R D
 | .non,.non,st=>.ok (.bl true) st
 | _,.non,st=>.ok (.bl false) st
 | _,_,_=>.bad
noncomputable def lH:D->D->aq->R D
 | .non,.non,st=>.ok (.bl false) st
 | _,.non,st=>.ok (.bl true) st
 | _,_,_=>.bad
theorem ao.wI {K:PySem.W.Frag}{μ:List Addr}{H:Hp}{d:D}{v:V}(h:ao K μ H d v):decide (v=.non)=(match d with | .non=>true | _=>false):=by
 cases d with
 | non=>rw[ao.bL]at h;subst h;rfl
 | bl b=>rw[ao.bH]at h;subst h;rfl
 | int b=>rw[ao.aO]at h;subst h;rfl
 | str b=>rw[ao.aU]at h;subst h;rfl
 | tup b=>rw[ao.aY]at h;obtain⟨_,_,rfl,_⟩:=h;rfl
 | loc b=>rw[ao.aN]at h;obtain⟨_,_,rfl⟩:=h;rfl
theorem zg9:dG X (compareOp .Is) (rM X ji):=by
 refine dG.weak R7 ?_;rintro x y H Q ⟨μ,st,dx,dy,hs,hx,hy,hp⟩;cases dy with
 | non =>
  rw[ao.bL]at hy;refine⟨hy,?_⟩;rw[hx.wI];cases dx<;>exact hp.ret hs (ao.bH.mpr rfl)
 | _=>cases dx<;>exact hp.elim
theorem zh3:dG X (compareOp .IsNot) (rM X lH):=by
 refine dG.weak Ly ?_;rintro x y H Q ⟨μ,st,dx,dy,hs,hx,hy,hp⟩;cases dy with
 | non =>
  rw[ao.bL]at hy;refine⟨hy,?_⟩;rw[hx.wI];cases dx<;>exact hp.ret hs (ao.bH.mpr rfl)
 | _=>cases dx<;>exact hp.elim
noncomputable def bh:D->D->aq->R D
 | .loc n,.int i,st=>match (az st n).bind λds=>sy ds i with | some d=>.ok d st | none=>.bad
 | .tup ds,.int i,st=>match sy ds i with | some d=>.ok d st | none=>.bad
 | .str cs,.int i,st=>if cs.length<=1000000 then (match sy cs i with | some c=>.ok (.str [c]) st | none=>.bad) else .bad
 | _,_,_=>.bad
theorem ak.sy {K:PySem.W.Frag}{μ:List Addr}{H:Hp}{ds:List D}{xs:List V}{i:Int}{d:D}(h:ak K μ H ds xs)(e:L2.sy ds i=some d):∃v,L2.sy xs i=some v/\ao K μ H d v:=by
 unfold L2.sy at e ⊢;rw[<-h.length];cases q:Ar ds.length i with
 | none=>rw[q]at e;cases e
 | some j =>
  rw[q]at e;exact h.get (by simpa using e)
theorem abN:Bo X (rM X bh):=by
 refine Bo.weak S_ ?_;rintro x y H Q ⟨μ,st,dx,dy,hs,hx,hy,hp⟩;cases dy with
 | int i =>
  rw[ao.aO]at hy;subst hy;cases dx with
  | loc n =>
   rw[ao.aN]at hx;obtain⟨p,h1,rfl⟩:=hx;simp only[bh]at hp;cases e:az st n with
   | none=>rw[e]at hp;exact hp.elim
   | some ds =>
    rw[e]at hp;cases e2:L2.sy ds i with
    | none=>simp only[mR,e2]at hp;exact hp.elim
    | some d =>
     simp only[mR,e2]at hp;obtain⟨p',xs,h3,h4,h5⟩:=hs.items e;rw[h1]at h3;cases h3;obtain⟨v,h6,h7⟩:=h5.sy e2;exact .inl ⟨p,xs,i,v,rfl,rfl,h4,h6,hp.ret hs h7⟩
  | tup ds =>
   rw[ao.aY]at hx;obtain⟨p,xs,rfl,h1,h2⟩:=hx;simp only[bh]at hp;cases e2:L2.sy ds i with
   | none=>simp only[e2]at hp;exact hp.elim
   | some d =>
    simp only[e2]at hp;obtain⟨v,h6,h7⟩:=h2.sy e2;exact .inr (.inl ⟨p,xs,i,v,rfl,rfl,h1.uY,h6,hp.ret hs h7⟩)
  | str cs =>
   rw[ao.aU]at hx;subst hx;simp only[bh]at hp
   split at hp
   ·rename_i hl;cases e2:L2.sy cs i with
    | none=>simp only[e2]at hp;exact hp.elim
    | some c =>
     simp only[e2]at hp;exact .inr (.inr ⟨_,i,c,rfl,rfl,by rw[Xg];exact Ew hl,by simpa[strOf] using e2,hp.ret hs (ao.aU.mpr rfl)⟩)
   ·exact hp.elim
  | _=>exact hp.elim
 | _=>cases dx<;>exact hp.elim
theorem aR (ha:JE X a ma)(hb:JE X b mb)(hs:Bm b:=by exact λ_ _=>rfl):JE X (.Subscript a b pos) (aL bh ma mb) :=
 JE.of (Y9 abN ha hb hs) fun σ H Q h=>UG h
end
section
variable {X:Cx}{e a b c:Expr}{es:List Expr}{t:TE}{ma mb mc:ME}{mA:MA}{pos p2:Pos}
noncomputable def cut {α:Type}(xs:List α)(lo hi:Option Int):List α:=(xs.drop (HT.cR xs.length 0 lo)).take (HT.cR xs.length xs.length hi - HT.cR xs.length 0 lo)
theorem ak.cut {K:PySem.W.Frag}{μ:List Addr}{H:Hp}{ds:List D}{xs:List V}(h:ak K μ H ds xs)(lo hi:Option Int):ak K μ H (M.cut ds lo hi) (yz xs lo hi):=by
 unfold M.cut yz;rw[<-h.length];exact (h.drop _).take _
theorem DG {α:Type}{xs:List α}{lo hi:Option Int}(h:HT.cR xs.length 0 lo=0/\HT.cR xs.length xs.length hi=xs.length):cut xs lo hi=xs:=by
 unfold cut;rw[h.1,h.2];simp
theorem BZ (i j:Nat):sliceRange (i:Int) (j:Int) 1=(List.range (j - i)).map λk=>i+k:=by
 unfold sliceRange;simp only[show (1:Int) > 0 by decide,if_true];have e:(if (i:Int)<(j:Int) then ((j:Int) - (i:Int)+1 - 1) / 1 else 0).toNat=j - i:=by
  split
  ·rw[Int.ediv_one];omega
  ·omega
 rw[e];refine mU λk _=>?_;omega
theorem KH (lo hi:Option Int)(n:Nat):Builtin.Str.strSliceIndices lo hi 1 n=(List.range (HT.cR n n hi - HT.cR n 0 lo)).map λk=>HT.cR n 0 lo+k:=by
 rw[<-BZ];unfold Builtin.Str.strSliceIndices;simp only[show (1:Int) > 0 by decide,if_true];congr 1
 ·cases lo with
  | none=>rfl
  | some v =>
   show max 0 (min (if v<0 then v+(n:Int) else v) (n:Int))=((if v<0 then (v+(n:Int)).toNat else min v.toNat n:Nat):Int)
   split<;>omega
 ·cases hi with
  | none=>rfl
  | some v =>
   show max 0 (min (if v<0 then v+(n:Int) else v) (n:Int))=((if v<0 then (v+(n:Int)).toNat else min v.toNat n:Nat):Int)
   split<;>omega
theorem Gn (cs:List Nat)(i k:Nat):((List.range k).map λm=>i+m).filterMap (λm=>cs[m]?)=(cs.drop i).take k:=by
 induction k generalizing i with
 | zero=>simp
 | succ k ih =>
  rw[List.range_succ_eq_map,gB,pB,gW];have e:((λm=>i+m)∘Nat.succ)=λm=>(i+1)+m:=by funext m;simp;omega
  rw[e,ih (i+1)];cases q:cs[i]? with
  | none =>
   have hl:cs.length<=i:=List.getElem?_eq_none_iff.mp q;simp[q,n6 hl,n6 (Nat.le_succ_of_le hl)]
  | some c =>
   have hl:=(gj.mp q).1;have hc:=(gj.mp q).2;simp[q,pR hl,hc]
theorem BW (cs:List Nat)(lo hi:Option Int):Txt.slice (strOf cs) lo hi=strOf (cut cs lo hi):=by
 have e:(strOf cs).length=cs.length:=by simp[Str.length,strOf]
 unfold Txt.slice;rw[e,KH];have hj:HT.cR cs.length cs.length hi<=cs.length:=HT.FQ _ _ (gh _) hi;have q:((List.range (HT.cR cs.length cs.length hi - HT.cR cs.length 0 lo)).map λk=>HT.cR cs.length 0 lo+k).filterMap (λm=>(strOf cs).cps[m]?)=cut cs lo hi:=by
  have:(λ(m:Nat)=>(strOf cs).cps[m]?)=λ(m:Nat)=>cs[m]?:=by funext m;simp[strOf]
  rw[this,Gn];rfl
 split
 ·rename_i h;rw[mq]at h;have h2:HT.cR cs.length cs.length hi - HT.cR cs.length 0 lo=cs.length:=by simpa using h.2
  have h3:cut cs lo hi=cs:=by
   unfold cut;rw[h2];by_cases hz:cs.length=0
   ·have:cs=[]:=pH.mp hz;subst this;simp
   ·have:HT.cR cs.length 0 lo=0:=by omega
    rw[this];simp
  rw[h3]
 ·rw[q]
noncomputable def rP:D->Option Int->Option Int->aq->R D
 | .loc n,lo,hi,st=>match az st n with | some ds=>.ok (.loc st.length) (st++[.lst (cut ds lo hi)]) | none=>.bad
 | .tup ds,lo,hi,st=>.ok (.tup (cut ds lo hi)) st
 | .str cs,lo,hi,st=>if cs.length<=1000000 then .ok (.str (cut cs lo hi)) st else .bad
 | _,_,_,_=>.bad
noncomputable def rMS (X:Cx)(g:D->Option Int->Option Int->aq->R D):V->Option Int->Option Int->Hp->VK->Prop:=λx lo hi H Q=>∃μ st dx,aV X.K μ H st/\ao X.K μ H dx x/\cg X μ H (q9 X) Q (g dx lo hi st)
noncomputable def aby:V->Option Int->Option Int->Hp->VK->Prop:=λx lo hi H Q=>∃cs,x=.str (strOf cs)/\cs.length<=sizeLine/\Q (.str (strOf (cut cs lo hi))) H
theorem Q7:yF X aby:=by
 intro pins s σ H x v vl vu lo hi sl Q I rx hs pl pu h;obtain⟨cs,rfl,hz,q⟩:=h;obtain⟨t,rfl⟩:=rx;obtain⟨l,el,ml⟩:∃l:Option (Int×Tok),vl=partValue l/\l.map (·.1)=lo:=by
  cases pl with
  | none=>exact⟨none,rfl,rfl⟩
  | int i u=>exact⟨some (i,u),rfl,rfl⟩
 obtain⟨u,eu,mu⟩:∃l:Option (Int×Tok),vu=partValue l/\l.map (·.1)=hi:=by
  cases pu with
  | none=>exact⟨none,rfl,rfl⟩
  | int i u=>exact⟨some (i,u),rfl,rfl⟩
 subst el eu;have oZ:s.heap.IsSlice sl l u none:=hs;refine⟨"str",_,F.slot_str_getitem.lookup,typeIs_str _ _ _,wpAny_getItem_str_slice (l:=l) (u:=u) (st:=none) oZ rfl ?_⟩;have e:Txt.slice (strOf cs) lo hi=strOf (cut cs lo hi):=BW cs lo hi;unfold Txt.slice at e;unfold sliceMade slicePicked;rw[ml,mu]
 split
 ·rename_i h;have h':((1:Int)==1 && (Builtin.Str.strSliceIndices lo hi 1 (strOf cs).length).length==(strOf cs).length)=true:=h;rw[if_pos h']at e;exact⟨.str (strOf cs),H,I,⟨t,rfl⟩,by rw[<-e]at q;exact q⟩
 ·rename_i h;have h':¬ ((1:Int)==1 && (Builtin.Str.strSliceIndices lo hi 1 (strOf cs).length).length==(strOf cs).length)=true:=h;rw[if_neg h']at e;have e':({ cps:=((Builtin.Str.strSliceIndices lo hi ((Option.map (·.1) (none:Option (Int×Tok))).getD 1) (strOf cs).length).filterMap λx=>(strOf cs).cps[x]?).toArray }:Str)=strOf (cut cs lo hi):=e;rw[e'];refine⟨?_,.str (strOf (cut cs lo hi)),H,I.tok _,⟨_,rfl⟩,q⟩;have:(strOf (cut cs lo hi)).length=(cut cs lo hi).length:=by simp[Str.length,strOf]
  rw[this];refine gU ?_ hz;unfold cut;rw[k_,mY];omega
theorem abb:yF X (rMS X rP):=by
 refine yF.weak (yF.or Kz (yF.or Q6 (yF.or Ky Q7))) ?_;rintro x lo hi H Q ⟨μ,st,dx,hs,hx,hp⟩;cases dx with
 | loc n =>
  rw[ao.aN]at hx;obtain⟨p,h1,rfl⟩:=hx;simp only[rP]at hp;cases e:az st n with
  | none=>rw[e]at hp;exact hp.elim
  | some ds =>
   rw[e]at hp;obtain⟨p',xs,h3,h4,h5⟩:=hs.items e;rw[h1]at h3;cases h3;exact .inl ⟨p,xs,rfl,h4,λq hq=>hp.newList hs (h5.cut lo hi) hq⟩
 | tup ds =>
  rw[ao.aY]at hx;obtain⟨p,xs,rfl,h1,h2⟩:=hx;by_cases hw:HT.cR xs.length 0 lo=0/\HT.cR xs.length xs.length hi=xs.length
  ·refine .inr (.inr (.inl ⟨p,xs,rfl,h1.uY,hw,hp.ret hs ?_⟩));rw[<-h2.length]at hw;rw[DG hw];exact ao.aY.mpr ⟨p,xs,rfl,h1,h2⟩
  ·exact .inr (.inl ⟨p,xs,rfl,h1.uY,hw,λq hq=>hp _ _ μ (bC.lay hq) (hs.lay hq) (ao.aY.mpr ⟨q,_,rfl,.inl uv,(h2.cut lo hi).mono (bC.lay hq) _⟩)⟩)
 | str cs =>
  rw[ao.aU]at hx;subst hx;simp only[rP]at hp
  split at hp
  ·rename_i hl;exact .inr (.inr (.inr ⟨cs,rfl,Ew hl,hp.ret hs (ao.aU.mpr rfl)⟩))
  ·exact hp.elim
 | _=>exact hp.elim
noncomputable def uK:MP:=λ_ st=>.ok none st
noncomputable def uQ (m:ME):MP:=λenv st=>(m env st).bind λx st1=>match x with | .int i=>.ok (some i) st1 | _=>.bad
theorem wB:JP X none uK:=by
 refine JP.of Lf fun σ H Q zz=>?_;obtain⟨μ,env,st,hE,hs,hp⟩:=zz;exact hp.ret hs rfl
theorem wA {m:ME}(h:JE X e m):JP X (some e) (uQ m):=by
 refine JP.of (Le h) fun σ H Q zz=>?_;obtain⟨μ,env,st,hE,hs,hp⟩:=zz;refine⟨μ,env,st,hE,hs,hp.bind.imp ?_⟩;rintro x H1 ⟨μ1,st1,d,g1,bQ,hx,aZ⟩;cases d with
 | int i=>exact⟨i,ao.aO.mp hx,aZ.ret bQ rfl⟩
 | _=>exact aZ.elim
noncomputable def uI (a:ME)(l h:MP):ME:=λenv st=>(a env st).bind λx st1=>(l env st1).bind λlo st2=>(h env st2).bind λhi o9=>rP x lo hi o9
theorem wD {lo hi:Option Expr}{ml mh:MP}(he:JE X e ma)(hl:JP X lo ml)(hu:JP X hi mh):JE X (.Subscript e (.Slice lo hi none p2) pos) (uI ma ml mh):=by
 refine JE.of (Gr abb he hl hu) fun σ H Q zz=>?_;obtain⟨μ,env,st,hE,hs,hp⟩:=zz;refine⟨μ,env,st,hE,hs,hp.bind.imp ?_⟩;rintro x H1 ⟨μ1,st1,d,g1,bQ,hx,aZ⟩;refine⟨μ1,env,st1,hE.mono g1,bQ,aZ.bind.imp ?_⟩;rintro l H2 ⟨μ2,st2,l',g2,fV,rfl,cZ⟩;refine⟨μ2,env,st2,(hE.mono g1).mono g2,fV,cZ.bind.imp ?_⟩;rintro u H3 ⟨μ3,o9,u',g3,xX,rfl,yN⟩;exact⟨μ3,o9,d,xX,hx.mono (g2.trans g3) _,yN⟩
noncomputable def bF (g:List D->aq->R D)(mA:MA):ME:=λenv st=>(mA env st).bind λds st1=>g ds st1
theorem znw {g:List D->aq->R D}{σ:L2.St}{H:Hp}{Q:VK}(h:tM X (bF g mA) σ H Q):tMA X mA σ H λvs H1=>JX X g vs H1 Q:=by
 obtain⟨μ,env,st,hE,hs,hp⟩:=h;refine⟨μ,env,st,hE,hs,hp.bind.imp ?_⟩;rintro xs H1 ⟨μ1,st1,ds,g1,bQ,hx,aZ⟩;exact⟨μ1,st1,ds,bQ,hx,aZ⟩
theorem sJ {x:Str}{p:Pos}{id:String}{g:List D->aq->R D}(hc:cu X (.builtin id) (JX X g))(hg:Gl X x)(hm:X.mg x=none)(hv:bootBuiltins x=some (.builtin id))(ha:JA X (e::es) mA)(hn:x ≠ "__name__":=by decide)(vB:(x==("__debug__":Str))=false:=by decide)
  (he:starEach (e::es) X.env=(false,eval e X.env)::starEach es X.env:=by rfl) (jW:(backTo pos (starEach es X.env)).any (·.1)=false:=by rfl):JE X (.Call (.Name x p) (e::es) [] pos) (bF g mA) :=
 JE.of (zoc hc hg hm hv ha hn vB he jW) fun σ H Q h=>znw h
theorem zk4 {x:Str}{p:Pos}{T:String}{g:List D->aq->R D}(hc:cu X (.type T) (JX X g))(hg:Gl X x)(hm:X.mg x=none)(hv:bootBuiltins x=some (.type T))(ha:JA X (e::es) mA)(hn:x ≠ "__name__":=by decide)(vB:(x==("__debug__":Str))=false:=by decide)
  (he:starEach (e::es) X.env=(false,eval e X.env)::starEach es X.env:=by rfl) (jW:(backTo pos (starEach es X.env)).any (·.1)=false:=by rfl):JE X (.Call (.Name x p) (e::es) [] pos) (bF g mA) :=
 JE.of (Cq hc hg hm hv ha hn vB he jW) fun σ H Q h=>znw h
end
inductive Out where
 | nx (env:bA) | rt (d:D) | bk (env:bA) | cn (env:bA)
noncomputable abbrev MS:=bA->aq->R Out
noncomputable def cN (X:Cx)(μ:List Addr)(H:Hp)(E:Ends)(r:R Out):Prop:=match r with
 | .ok (.nx env) st=>∀(σ':L2.St) (H':Hp) (μ':List Addr),bC μ H μ' H'->aV X.K μ' H' st->dR X.K μ' H' env σ'->E.nx σ' H'
 | .ok (.rt d) st=>∀(v:V) (H':Hp) (μ':List Addr),bC μ H μ' H'->aV X.K μ' H' st->ao X.K μ' H' d v->E.rt v H'
 | .ok (.bk env) st=>∀(σ':L2.St) (H':Hp) (μ':List Addr),bC μ H μ' H'->aV X.K μ' H' st->dR X.K μ' H' env σ'->E.bk σ' H'
 | .ok (.cn env) st=>∀(σ':L2.St) (H':Hp) (μ':List Addr),bC μ H μ' H'->aV X.K μ' H' st->dR X.K μ' H' env σ'->E.ct σ' H'
 | .err x st=>vO X μ H x st
 | .bad=>False
noncomputable def QZ (X:Cx)(m:MS):TS:=λE σ H=>∃μ env st,dR X.K μ H env σ/\aV X.K μ H st/\cN X μ H E (m env st)
noncomputable def JS (X:Cx)(s:Stmt)(m:MS):Prop:=PS X s (QZ X m)
noncomputable def yU (X:Cx)(s:List Stmt)(m:MS):Prop:=yG X s (QZ X m)
section
variable {X:Cx}{e a b c:Expr}{es:List Expr}{t:TE}{ma mb mc:ME}{mA:MA}{pos p2:Pos}{s:Stmt}{ss:List Stmt}{m m1 m2:MS}{μ μ1:List Addr}{H H1:Hp}{E E':Ends}{r:R Out}
theorem cN.mono (g:bC μ H μ1 H1)(h:cN X μ H E r):cN X μ1 H1 E r:=by
 match r,h with
 | .ok (.nx _) _,h=>exact fun σ' H' μ' g'=>h σ' H' μ' (g.trans g')
 | .ok (.rt _) _,h=>exact fun σ' H' μ' g'=>h σ' H' μ' (g.trans g')
 | .ok (.bk _) _,h=>exact fun σ' H' μ' g'=>h σ' H' μ' (g.trans g')
 | .ok (.cn _) _,h=>exact fun σ' H' μ' g'=>h σ' H' μ' (g.trans g')
 | .err _ _,h=>exact vO.mono g h
 | .bad,h=>exact h
theorem JS.of {t:TS}(h:PS X s t)(k:∀E σ H,QZ X m E σ H->t E σ H):JS X s m:=λpins s σ H D I q=>h pins s σ H D I (k D σ H q)
theorem yU.of {t:TS}(h:yG X ss t)(k:∀E σ H,QZ X m E σ H->t E σ H):yU X ss m:=λpins s σ H D I q=>h pins s σ H D I (k D σ H q)
theorem cN.nx {env:bA}{st:aq}{σ:L2.St}(h:cN X μ H E (.ok (.nx env) st))(hs:aV X.K μ H st)(hE:dR X.K μ H env σ):E.nx σ H:=h σ H μ (.refl _ _) hs hE
noncomputable def cL:MS:=λenv st=>.ok (.nx env) st
noncomputable def aK (a b:MS):MS:=λenv st=>(a env st).bind λo st1=>match o with | .nx bM=>b bM st1 | o=>.ok o st1
noncomputable def retS (m:ME):MS:=λenv st=>(m env st).bind λd st1=>.ok (.rt d) st1
noncomputable def eV (m:ME):MS:=λenv st=>(m env st).bind λ_ st1=>.ok (.nx env) st1
noncomputable def qF (c:MT)(a b:MS):MS:=λenv st=>(c env st).bind λx st1=>if x then a env st1 else b env st1
theorem vV:yU X [] cL:=by
 refine yU.of Lb λE σ H zz=>?_;obtain⟨μ,env,st,hE,hs,hp⟩:=zz;exact hp.nx hs hE
theorem dq (h:JS X s m):yU X [s] m:=La h
theorem cN.seq (h:cN X μ H E (r.bind λo st1=>match o with | .nx bM=>m2 bM st1 | o=>.ok o st1)):cN X μ H { E with nx:=QZ X m2 E } r:=by
 match r,h with
 | .ok (.nx bM) st1,h=>exact fun σ' H' μ' g hs hE=>⟨μ',bM,st1,hE,hs,cN.mono g h⟩
 | .ok (.rt _) _,h=>exact h
 | .ok (.bk _) _,h=>exact h
 | .ok (.cn _) _,h=>exact h
 | .err _ _,h=>exact h
 | .bad,h=>exact h
theorem bW (h1:JS X s m1)(h2:yU X ss m2):yU X (s::ss) (aK m1 m2):=by
 refine yU.of (Gi h1 h2) λE σ H zz=>?_;obtain⟨μ,env,st,hE,hs,hp⟩:=zz;exact⟨μ,env,st,hE,hs,cN.seq hp⟩
theorem cN.val {α β:Type}{rel:Rel α β}{r:R α}{f:α->aq->R Out}(h:cN X μ H E (r.bind f)):cg X μ H rel (λb H1=>∃μ1 st1 a,bC μ H μ1 H1/\aV X.K μ1 H1 st1/\rel μ1 H1 a b/\cN X μ1 H1 E (f a st1)) r:=by
 cases r with
 | ok a st=>exact λb H' μ' g h1 h2=>⟨μ',st,a,g,h1,h2,cN.mono g h⟩
 | err x st=>exact h
 | bad=>exact h
theorem jR (h:JE X e ma):JS X (.Return (some e) pos) (retS ma):=by
 refine JS.of (Ru h) λE σ H zz=>?_;obtain⟨μ,env,st,hE,hs,hp⟩:=zz;refine⟨μ,env,st,hE,hs,hp.val.imp ?_⟩;rintro v H1 ⟨μ1,st1,d,g1,bQ,hv,aZ⟩;exact aZ v H1 μ1 (.refl _ _) bQ hv
theorem JF (h:JE X e ma)(hs:swapsWith e none pos.line X.env=pure false:=by rfl):JS X (.Expr e pos) (eV ma):=by
 refine JS.of (Ld h hs) λE σ H zz=>?_;obtain⟨μ,env,st,hE,hs,hp⟩:=zz;refine⟨μ,env,st,hE,hs,hp.val.imp ?_⟩;rintro v H1 ⟨μ1,st1,d,g1,bQ,hv,aZ⟩;exact aZ.nx bQ (hE.mono g1)
theorem dD {sa sb:List Stmt}{tc:MT}(hc:JT X c tc)(ha:yU X sa m1)(hb:yU X sb m2):JS X (.If c sa sb pos) (qF tc m1 m2):=by
 refine JS.of (YX hc ha hb) λE σ H zz=>?_;obtain⟨μ,env,st,hE,hs,hp⟩:=zz;refine⟨μ,env,st,hE,hs,hp.val.imp ?_⟩;rintro v H1 ⟨μ1,st1,d,g1,bQ,rfl,aZ⟩;cases d with
 | true=>exact zr ⟨μ1,env,st1,hE.mono g1,bQ,aZ⟩
 | false=>exact zu ⟨μ1,env,st1,hE.mono g1,bQ,aZ⟩
noncomputable abbrev MG:=D->bA->aq->R bA
noncomputable abbrev Jx:=List D->bA->aq->R bA
noncomputable abbrev Yz (X:Cx):Rel bA L2.St:=fun μ H env σ=>dR X.K μ H env σ
noncomputable def tMG (X:Cx)(m:MG):TG:=λv σ H Q=>∃μ env st d,dR X.K μ H env σ/\aV X.K μ H st/\ao X.K μ H d v/\cg X μ H (Yz X) Q (m d env st)
noncomputable def Ym (X:Cx)(m:Jx):NP:=λvs σ H Q=>∃μ env st ds,dR X.K μ H env σ/\aV X.K μ H st/\ak X.K μ H ds vs/\cg X μ H (Yz X) Q (m ds env st)
noncomputable def JG (X:Cx)(t:Expr)(m:MG):Prop:=PG X t (tMG X m)
noncomputable def Qk (X:Cx)(ts:List Expr)(m:Jx):Prop:=Wy X ts (Ym X m)
theorem JG.of {g:TG}{m:MG}(h:PG X e g)(k:∀v σ H Q,tMG X m v σ H Q->g v σ H Q):JG X e m:=λpins s σ H v u Q I r q=>h pins s σ H v u Q I r (k v σ H Q q)
theorem Qk.of {g:NP}{m:Jx}(h:Wy X es g)(k:∀v σ H Q,Ym X m v σ H Q->g v σ H Q):Qk X es m:=λpins s σ H v u Q I r q=>h pins s σ H v u Q I r (k v σ H Q q)
noncomputable def aP (i:Nat):MG:=λd env st=>.ok (env.set i (some d)) st
theorem o8 (i:Nat){x:Str}(hN:X.N.Nodup)(hi:X.N[i]? = some x:=by rfl)(hx:Loc X.env.scope x:=by first | exact Or.inl rfl | exact Or.inr rfl)(hf:X.fn x=true\/X.env.scope.names.lookup x=some .local:=by first | exact .inl rfl | exact .inr rfl | assumption):JG X (.Name x pos) (aP i):=by
 refine JG.of (Li hN hi hx hf) λv σ H Q zz=>?_;obtain⟨μ,env,st,d,hE,hs,hv,hp⟩:=zz;exact hp.ret hs (hE.set hv)
noncomputable def vf:Jx:=λds env st=>match ds with | []=>.ok env st | _=>.bad
noncomputable def cH (g:MG)(r:Jx):Jx:=λds env st=>match ds with | d::ds=>(g d env st).bind λbM st1=>r ds bM st1 | _=>.bad
theorem W6:Qk X [] vf:=Qk.of Lh λvs σ H Q zz=>by
 obtain⟨μ,env,st,ds,hE,hs,hv,hp⟩:=zz;cases ds with
 | nil=>rw[ak]at hv;exact⟨hv,hp.ret hs hE⟩
 | cons _ _=>exact hp.elim
theorem yL {g:MG}{gs:Jx}(h1:JG X e g)(h2:Qk X es gs)(hs:(assignEach (e::es) X.env).map (·.2)=assign e X.env::(assignEach es X.env).map (·.2):=by rfl):Qk X (e::es) (cH g gs) :=
 Qk.of (Gp h1 h2 hs) λvs σ H Q zz=>by
 obtain⟨μ,env,st,ds,hE,hs,hv,hp⟩:=zz;cases ds with
 | nil=>exact hp.elim
 | cons d ds =>
  rw[ak]at hv;obtain⟨v,r,rfl,h3,h4⟩:=hv;refine⟨v,r,rfl,μ,env,st,d,hE,hs,h3,(cg.bind hp).imp ?_⟩;rintro σ1 H1 ⟨μ1,st1,bM,g1,bQ,Wm,aZ⟩;exact⟨μ1,bM,st1,ds,Wm,bQ,h4.mono g1 _,aZ⟩
noncomputable def uG (n:Nat)(g:Jx):MG:=λd env st=>match d with | .tup ds=>if ds.length=n then g ds env st else .bad | _=>.bad
theorem WN {gs:Jx}{k:Nat}(n:Nat)(hc:X.calm=true)(h:Qk X es gs)(hn:(assignEach es X.env).length=n:=by rfl)(wO:(assignEach es X.env).findIdx? (·.1)=none:=by rfl):JG X (.Tuple es k pos) (uG n gs) :=
 JG.of (RB hc h hn wO) λv σ H Q zz=>by
 obtain⟨μ,env,st,d,hE,hs,hv,hp⟩:=zz;cases d with
 | tup ds =>
  rw[ao.aY]at hv;obtain⟨p,xs,rfl,h1,h2⟩:=hv;simp only[uG]at hp
  split at hp
  ·rename_i hl;exact⟨p,xs,rfl,h1.uY,by rw[<-h2.length];exact hl,μ,env,st,ds,hE,hs,h2,hp⟩
  ·exact hp.elim
 | _=>exact hp.elim
noncomputable def FP:D->D->D->aq->R Unit
 | .loc n,.int i,d,st=>match st[n]? with
  | some (.lst ds)=>(match Ar ds.length i with | some j=>.ok () (st.set n (.lst (ds.set j d))) | none=>.bad)
  | _=>.bad
 | _,_,_,_=>.bad
noncomputable abbrev abg:Rel Unit Unit:=λ_ _ _ _=>True
noncomputable def Ae (X:Cx)(g:D->D->D->aq->R Unit):Jw:=λo i v H Q=>∃μ st d1 d2 d3,aV X.K μ H st/\ao X.K μ H d1 o/\ao X.K μ H d2 i/\ao X.K μ H d3 v/\cg X μ H abg (λ_=>Q) (g d1 d2 d3 st)
theorem wZ {st:aq}{n:Nat}{ds Um:List D}{p:Addr}{xs ys:List V}(hs:aV X.K μ H st)(e:st[n]? = some (.lst ds))(hp:μ[n]? = some p)(hx:H p=some (.lst xs))(hy:ak X.K μ H Um ys) :
  bC μ H μ (upd H p (.lst ys))/\aV X.K μ (upd H p (.lst ys)) (st.set n (.lst Um)):=by
 have g:Ext H (upd H p (.lst ys)):=Ext.mut hx (λ_ z=>nomatch z) (λ_ _ z=>nomatch z);have g':bC μ H μ (upd H p (.lst ys)):=⟨⟨[],by simp⟩,g⟩;exact⟨g',hs.put e rfl rfl hp g ⟨ys,uv,hy.mono g' _⟩⟩
theorem Yt:wz X (Ae X FP):=by
 refine wz.weak set_list ?_;rintro o i v H Q ⟨μ,st,d1,d2,d3,hs,h1,h2,h3,hp⟩;cases d1 with
 | loc n =>
  cases d2 with
  | int k =>
   rw[ao.aN]at h1;rw[ao.aO]at h2;obtain⟨p,hn,rfl⟩:=h1;subst h2;simp only[FP]at hp;cases e:st[n]? with
   | none=>rw[e]at hp;exact hp.elim
   | some mo =>
    cases mo with
    | lst ds =>
     rw[e]at hp;simp only at hp;obtain⟨p',xs,q1,q2,q3⟩:=hs.lst e;rw[hn]at q1;cases q1;cases e2:Ar ds.length k with
     | none=>rw[e2]at hp;exact hp.elim
     | some j =>
      rw[e2]at hp;obtain⟨g,oZ⟩:=wZ hs e hn q2 (ak.set h3 j q3);exact⟨p,xs,k,j,rfl,rfl,q2,by rw[<-q3.length];exact e2,hp () _ μ g oZ trivial⟩
    | _=>rw[e]at hp;exact hp.elim
  | _=>exact hp.elim
 | _=>exact hp.elim
noncomputable def t6 (g:D->D->D->aq->R Unit)(o i:ME):MG:=λd env st=>(o env st).bind λx st1=>(i env st1).bind λy st2=>(g x y d st2).bind λ_ o9=>.ok env o9
theorem UL {o i:Expr}{mo mi:ME}{g:D->D->D->aq->R Unit}(Tj:wz X (Ae X g))(ho:JE X o mo)(hi:JE X i mi)
  (ha:∀v,assign (.Subscript o i pos) X.env v=(do
   let ov <-holding [v] (eval o X.env)
   let iv <-holding [v,ov] (eval i X.env)
   standAt pos
   holding [v,ov,iv] (setItem ov iv v)
   release [v,ov,iv] []):=by intro _;rfl):JG X (.Subscript o i pos) (t6 g mo mi):=by
 refine JG.of (RC ho hi Tj ha) λv σ H Q zz=>?_;obtain⟨μ,env,st,d,hE,hs,hv,hp⟩:=zz;refine⟨μ,env,st,hE,hs,(cg.bind hp).imp ?_⟩;rintro x H1 ⟨μ1,st1,dx,g1,bQ,hx,aZ⟩;refine⟨μ1,env,st1,hE.mono g1,bQ,(cg.bind aZ).imp ?_⟩;rintro y H2 ⟨μ2,st2,dy,g2,fV,hy,cZ⟩;refine⟨μ2,st2,dx,dy,d,fV,hx.mono g2 _,hy,(hv.mono g1 _).mono g2 _,(cg.bind cZ).imp ?_⟩;rintro _ H3 ⟨μ3,o9,_,g3,xX,_,yN⟩;exact yN.ret xX (((hE.mono g1).mono g2).mono g3)
noncomputable def lU (m:ME)(g:MG):MS:=λenv st=>(m env st).bind λd st1=>(g d env st1).bind λbM st2=>.ok (.nx bM) st2
theorem JC {tg:Expr}{g:MG}(he:JE X e ma)(hg:JG X tg g)(hs:swapsWithSole [tg] e pos.line X.env=pure false:=by rfl)(hw:swappedStores [tg] e X.env=pure none:=by rfl)(h1:(assignEach [tg] X.env).map (·.2)=[assign tg X.env]:=by rfl):JS X (.Assign [tg] e pos) (lU ma g):=by
 refine JS.of (Rx he hg hs hw h1) λE σ H zz=>?_;obtain⟨μ,env,st,hE,hs,hp⟩:=zz;refine⟨μ,env,st,hE,hs,hp.val.imp ?_⟩;rintro x H1 ⟨μ1,st1,d,g1,bQ,hx,aZ⟩;refine⟨μ1,env,st1,d,hE.mono g1,bQ,hx,aZ.val.imp ?_⟩;rintro σ2 H2 ⟨μ2,st2,bw,g2,fV,Qa,cZ⟩;exact cZ.nx fV Qa
noncomputable def aQ (i:Nat)(m:ME):MS:=lU m (aP i)
theorem cT (i:Nat){x:Str}{pos':Pos}(he:JE X e ma)(hN:X.N.Nodup)(hi:X.N[i]? = some x:=by rfl)(hx:Loc X.env.scope x:=by first | exact Or.inl rfl | exact Or.inr rfl)(hs:swapsWith e (some (.Name x pos')) pos.line X.env=pure false:=by rfl)
  (hf:X.fn x=true\/X.env.scope.names.lookup x=some .local:=by first | exact .inl rfl | exact .inr rfl | assumption):JS X (.Assign [.Name x pos'] e pos) (aQ i ma):=by
 refine JS.of (Rt hN hi hx he hs hf) λE σ H zz=>?_;obtain⟨μ,env,st,hE,hs,hp⟩:=zz;refine⟨μ,env,st,hE,hs,hp.val.imp ?_⟩;rintro x H1 ⟨μ1,st1,d,g1,bQ,hx,aZ⟩;exact aZ.nx bQ ((hE.mono g1).set hx)
end
noncomputable def bB (c:MT)(b:MS):Nat->MS
 | 0,_,_=>.bad
 | n+1,env,st=>(c env st).bind λx st1=>if x then (b env st1).bind λo st2=>(match o with
   | .nx bw=>bB c b n bw st2
   | .cn bw=>bB c b n bw st2
   | .bk bw=>.ok (.nx bw) st2
   | .rt d=>.ok (.rt d) st2) else .ok (.nx env) st1
section
variable {X:Cx}{e a b c:Expr}{es:List Expr}{t:TE}{ma mb mc:ME}{mA:MA}{pos p2:Pos}{s:Stmt}{ss body:List Stmt}{m m1 m2 mb:MS}{μ μ1:List Addr}{H H1:Hp}{E E':Ends}{r:R Out}{tc:MT}
theorem cN.loop {nxt:bA->aq->R Out}{N:L2.St->Hp->Prop}
  (h:cN X μ H E (r.bind λo st2=>(match o with
   | .nx bw=>nxt bw st2
   | .cn bw=>nxt bw st2
   | .bk bw=>.ok (.nx bw) st2
   | .rt d=>.ok (.rt d) st2)))
  (hN:∀bw st2 σ' H' μ',bC μ H μ' H'->aV X.K μ' H' st2->dR X.K μ' H' bw σ'->cN X μ' H' E (nxt bw st2)->N σ' H') :
  cN X μ H { E with nx:=N,ct:=N,bk:=E.nx } r:=by
 match r,h with
 | .ok (.nx bM) st1,h=>exact fun σ' H' μ' g hs hE=>hN bM st1 σ' H' μ' g hs hE (cN.mono g h)
 | .ok (.cn bM) st1,h=>exact fun σ' H' μ' g hs hE=>hN bM st1 σ' H' μ' g hs hE (cN.mono g h)
 | .ok (.rt _) _,h=>exact h
 | .ok (.bk _) _,h=>exact h
 | .err _ _,h=>exact h
 | .bad,h=>exact h
theorem Ho (n:Nat)(hc:JT X c tc)(hb:yU X body mb)(hp:PassesOwn (model X.prog X.w) X.A X.env X.xe):JS X (.While c body [] pos) (bB tc mb n):=by
 refine JS.of (Gj hp hc hb) λE σ H h=>?_;refine⟨λk σ H=>QZ X (bB tc mb k) E σ H,⟨n,h⟩,?_⟩;rintro k σ H ⟨μ,env,st,hE,hs,hp⟩;cases k with
 | zero=>exact hp.elim
 | succ k =>
  refine⟨μ,env,st,hE,hs,(cN.val hp).imp ?_⟩;rintro v H1 ⟨μ1,st1,d,g1,bQ,rfl,aZ⟩;cases d with
  | false=>exact zu (aZ.nx bQ (hE.mono g1))
  | true =>
   refine zr ⟨fun σ' H'=>QZ X (bB tc mb k) E σ' H',fun σ' H' q=>⟨k,nR _,q⟩,μ1,env,st1,hE.mono g1,bQ,?_⟩;exact cN.loop (nxt:=bB tc mb k) aZ λbw st2 σ' H' μ' g fV Qa q=>⟨μ',bw,st2,Qa,fV,q⟩
noncomputable abbrev Src:=List D×List (Nat×MO)
noncomputable abbrev MI:=bA->aq->R Src
noncomputable def vQ (gs:List (Nat×MO))(st:aq):Prop:=∀g∈gs,st[g.1]? = some g.2
@[simp] theorem aaM (st:aq):vQ [] st:=λ_ h=>nomatch h
@[simp] theorem Zf (g:Nat×MO) (gs:List (Nat×MO)) (st:aq):vQ (g::gs) st↔st[g.1]? = some g.2/\vQ gs st:=by simp[vQ]
noncomputable def vN (X:Cx)(μ:List Addr)(H:Hp)(J:It)(s:Src):Prop:=∀(H':Hp) (μ':List Addr) (st':aq),bC μ H μ' H'->aV X.K μ' H' st'->vQ s.2 st' ->
 (∀(i:Nat) (d:D),s.1[i]? = some d->J.go i H'/\∀x Ke,J.X8 i H' x Ke->bC μ' H' μ' Ke/\aV X.K μ' Ke st'/\ao X.K μ' Ke d x)/\J.stop s.1.length H'
noncomputable abbrev abj (X:Cx):Rel Src It:=fun μ H s J=>vN X μ H J s
noncomputable def tMI (X:Cx)(m:MI):TI:=fun σ H Q=>∃μ env st,dR X.K μ H env σ/\aV X.K μ H st/\cg X μ H (abj X) (λJ H'=>Q J H') (m env st)
noncomputable def JI (X:Cx)(tg iter:Expr)(m:MI):Prop:=PI X tg iter (tMI X m)
theorem JI.of {tg iter:Expr}{wi:TI}{m:MI}(h:PI X tg iter wi)(k:∀σ H Q,tMI X m σ H Q->wi σ H Q):JI X tg iter m:=λpins s σ H R I q=>h pins s σ H R I (k σ H R q)
open Classical in
noncomputable def cW (g:MG)(b:MS)(gs:List (Nat×MO)):List D->MS
 | [],env,st=>if vQ gs st then .ok (.nx env) st else .bad
 | d::r,env,st=>if vQ gs st then (g d env st).bind λbM st1=>(b bM st1).bind λo st2=>(match o with
   | .nx bw=>cW g b gs r bw st2
   | .cn bw=>cW g b gs r bw st2
   | .bk bw=>.ok (.nx bw) st2
   | .rt d=>.ok (.rt d) st2) else .bad
noncomputable def oh (mi:MI)(g:MG)(b:MS):MS:=λenv st=>(mi env st).bind λs st1=>cW g b s.2 s.1 env st1
theorem yK {tg iter:Expr}{mi:MI}{g:MG}(hi:JI X tg iter mi)(hg:JG X tg g)(hb:yU X body mb)(hp:PassesOwn (model X.prog X.w) X.A X.env X.xe)(hc:X.calm=true)
  (hs:∀x,foldedSetIterable iter X.env x=pure x:=by intro _;rfl):JS X (.For tg iter body [] pos) (oh mi g mb):=by
 refine JS.of (Rv hp hc hi hg hb hs) λE σ H zz=>?_;obtain⟨μ,env,st,hE,hs,hp⟩:=zz;refine⟨μ,env,st,hE,hs,(cN.val hp).imp ?_⟩;rintro J H1 ⟨μ1,st1,s,g1,bQ,hJ,aZ⟩;refine⟨λi k σ H=>∃μ2 bw st2,bC μ1 H1 μ2 H/\dR X.K μ2 H bw σ/\aV X.K μ2 H st2/\cN X μ2 H E (cW g mb s.2 (s.1.drop i) bw st2)/\i<=s.1.length/\k=s.1.length - i,
  ⟨_,μ1,env,st1,.refl _ _,hE.mono g1,bQ,by simpa using aZ,mQ _,rfl⟩,?_⟩
 rintro i k σ2 H2 ⟨μ2,bw,st2,g2,Qa,fV,cZ,hi,rfl⟩;by_cases yQ:i<s.1.length
 ·have e1:s.1.drop i=s.1[i]::s.1.drop (i+1):=pR yQ;rw[e1,cW]at cZ;by_cases ok:vQ s.2 st2
  ·rw[if_pos ok]at cZ;obtain⟨q1,q2⟩:=(hJ H2 μ2 st2 g2 fV ok).1 i s.1[i] (gM yQ);refine .inr ⟨q1,fun σ' H'=>∃μ3 xJ o9,bC μ1 H1 μ3 H'/\dR X.K μ3 H' xJ σ'/\aV X.K μ3 H' o9/\cN X μ3 H' E (cW g mb s.2 (s.1.drop (i+1)) xJ o9),?_,?_⟩
   ·rintro σ' H' ⟨μ3,xJ,o9,g3,Ue,xX,yN⟩;exact⟨s.1.length - (i+1),by omega,μ3,xJ,o9,g3,Ue,xX,yN,by omega,rfl⟩
   ·intro x H3 hx;obtain⟨g3,xX,hd⟩:=q2 x H3 hx;refine⟨μ2,bw,st2,s.1[i],Qa.mono g3,xX,hd,(cN.val (cN.mono g3 cZ)).imp ?_⟩;rintro σ4 H4 ⟨μ4,st4,aam,g4,hs4,hE4,hp4⟩;refine⟨μ4,aam,st4,hE4,hs4,?_⟩;exact cN.loop (nxt:=cW g mb s.2 (s.1.drop (i+1))) hp4 λacq JV σ' H' μ' g5 ZV hE5 q=>⟨μ',acq,JV,((g2.trans g3).trans g4).trans g5,hE5,ZV,q⟩
  ·rw[if_neg ok]at cZ;exact cZ.elim
 ·have e1:s.1.drop i=[]:=n6 (by omega);rw[e1,cW]at cZ;have e2:i=s.1.length:=by omega
  by_cases ok:vQ s.2 st2
  ·rw[if_pos ok]at cZ;refine .inl ⟨by rw[e2];exact (hJ H2 μ2 st2 g2 fV ok).2,cZ.nx fV Qa⟩
  ·rw[if_neg ok]at cZ;exact cZ.elim
noncomputable def oY (m:ME):MI:=λenv st=>(m env st).bind λd st1=>match d with
 | .loc n=>(match st1[n]? with
  | some (.lst ds)=>.ok (ds,[(n,.lst ds)]) st1
  | some (.frz ds)=>.ok (ds,[(n,.frz ds)]) st1
  | _=>.bad)
 | .tup ds=>.ok (ds,[]) st1
 | _=>.bad
theorem PI.or {tg l:Expr}{w1 w2:TI}(h1:PI X tg l w1)(h2:PI X tg l w2):PI X tg l (fun σ H R=>w1 σ H R\/w2 σ H R):=λpins s σ H R I h=>h.elim (h1 pins s σ H R I) (h2 pins s σ H R I)
theorem Av {n:Nat}{ds:List D}{p:Addr}{o:MO}{st:aq}(ho:o=.lst ds\/o=.frz ds)(hp:μ[n]? = some p):vN X μ H (Itl X.K p) (ds,[(n,o)]):=by
 intro H' μ' st' g hs ok;have e:st'[n]? = some o:=(ok (n,o) (by simp));have e2:az st' n=some ds:=by
  unfold az;rcases ho with rfl | rfl<;>rw[e]
 obtain⟨p',xs,q1,q2,q3⟩:=hs.items e2;rw[g.get hp]at q1;cases q1;refine⟨λi d hd=>?_,xs,q2,mX q3.length.symm⟩;obtain⟨v,h1,h2⟩:=q3.get hd;refine⟨⟨xs,v,q2,h1⟩,?_⟩;rintro x Ke ⟨rfl,hx⟩;have:=hx xs q2;rw[h1]at this;cases this;exact⟨.refl _ _,hs,h2⟩
theorem Mt {ds:List D}{p:Addr}{xs:List V}(hq:uo X.K H p xs)(hd:ak X.K μ H ds xs):vN X μ H (Itt X.K p) (ds,[]):=by
 intro H' μ' st' g hs ok;have MJ:=g.ext.uY hq;have hd':=hd.mono g ds;refine⟨λi d e=>?_,xs,MJ,mX hd.length.symm⟩;obtain⟨v,h1,h2⟩:=hd'.get e;refine⟨⟨xs,v,MJ,h1⟩,?_⟩;rintro x Ke ⟨rfl,hx⟩;have:=hx xs MJ;rw[h1]at this;cases this;exact⟨.refl _ _,hs,h2⟩
theorem UJ {tg l:Expr}(h:JE X l ma):JI X tg l (oY ma):=by
 refine JI.of (PI.or (Lg h) (Ry h)) fun σ H R hh=>?_

 obtain⟨μ,env,st,hE,hs,hp⟩:=hh;unfold oY at hp;cases hr:ma env st with
 | bad=>rw[hr]at hp;exact hp.elim
 | err x st1 =>
  rw[hr]at hp;refine .inl ⟨μ,env,st,hE,hs,?_⟩;rw[hr];exact hp
 | ok d st1 =>
  rw[hr,M.R.aG]at hp;cases d with
  | loc n =>
   simp only at hp;refine .inl ⟨μ,env,st,hE,hs,?_⟩;rw[hr];intro v H1 μ1 g1 bQ hv;obtain⟨p,q1,rfl⟩:=ao.aN.mp hv;cases e:st1[n]? with
   | none=>rw[e]at hp;exact hp.elim
   | some mo =>
    cases mo with
    | lst ds =>
     rw[e]at hp;obtain⟨p',xs,r1,r2,r3⟩:=bQ.lst e;rw[q1]at r1;cases r1;exact⟨p,rfl,⟨xs,uW.of r2⟩,hp _ _ _ g1 bQ (Av (st:=st1) (.inl rfl) q1)⟩
    | frz ds =>
     rw[e]at hp;obtain⟨p',r1,xs,r2,r3⟩:=bQ.at_ n _ e;rw[q1]at r1;cases r1;exact⟨p,rfl,⟨xs,r2.sqL⟩,hp _ _ _ g1 bQ (Av (st:=st1) (.inr rfl) q1)⟩
    | _=>rw[e]at hp;exact hp.elim
  | tup ds =>
   refine .inr ⟨μ,env,st,hE,hs,?_⟩;rw[hr];intro v H1 μ1 g1 bQ hv;obtain⟨p,xs,rfl,q1,q2⟩:=ao.aY.mp hv;exact⟨p,rfl,⟨xs,q1.uY⟩,hp _ _ _ g1 bQ (Mt q1.uY q2)⟩
  | _=>exact hp.elim
noncomputable def je (lo:Int)(n:Nat):List D:=(List.range n).map λ(k:Nat)=>.int (lo+k)
noncomputable def cM (mA:MA):MI:=λenv st=>(mA env st).bind λds st1=>match ds with
 | [.int j]=>if -(2 ^ 62)<=j/\j<2 ^ 62 then .ok (je 0 j.toNat,[]) st1 else .bad
 | _=>.bad
theorem Mv (lo:Int)(n:Nat):vN X μ H (Itr lo n) (je lo n,[]):=by
 intro H' μ' st' g hs ok;refine⟨λi d e=>?_,by show n<=_;simp[je]⟩;have hi:i<n:=by have:=(gj.mp e).1;simpa[je] using this
 simp[je,hi]at e;subst e;refine⟨hi,?_⟩;rintro x Ke ⟨rfl,rfl⟩;exact⟨.refl _ _,hs,ao.aO.mpr rfl⟩
theorem ak.one {K:PySem.W.Frag}{μ:List Addr}{H:Hp}{d:D}{vs:List V}(h:ak K μ H [d] vs):∃v,vs=[v]/\ao K μ H d v:=by
 rw[ak]at h;obtain⟨v,r,rfl,q1,q2⟩:=h;rw[ak]at q2;subst q2;exact⟨v,rfl,q1⟩
theorem ak.two {K:PySem.W.Frag}{μ:List Addr}{H:Hp}{d1 d2:D}{vs:List V}(h:ak K μ H [d1,d2] vs):∃v w,vs=[v,w]/\ao K μ H d1 v/\ao K μ H d2 w:=by
 rw[ak]at h;obtain⟨v,r,rfl,q1,q2⟩:=h;obtain⟨w,rfl,q3⟩:=ak.one q2;exact⟨v,w,rfl,q1,q3⟩
theorem N_ {tg:Expr}{p:Pos}(ha:JA X [a] mA)(hg:Gl X "range")(hm:X.mg "range" = none)(hs:starEach [a] X.env=[(false,eval a X.env)]:=by rfl):JI X tg (.Call (.Name "range" p) [a] [] pos) (cM mA):=by
 refine JI.of (Cp hg hm ha hs) fun σ H R zz=>?_;obtain⟨μ,env,st,hE,hs,hp⟩:=zz;refine⟨μ,env,st,hE,hs,(cg.bind hp).imp ?_⟩;rintro vs H1 ⟨μ1,st1,ds,g1,bQ,hv,aZ⟩;dsimp only at aZ
 split at aZ
 ·split at aZ
  ·rename_i hc;obtain⟨v,rfl,q1⟩:=ak.one hv;rw[ao.aO]at q1;subst q1;exact⟨_,rfl,hc.1,hc.2,aZ _ _ _ (.refl _ _) bQ (Mv 0 _)⟩
  ·exact aZ.elim
 ·exact aZ.elim
end
noncomputable abbrev FD:=List D->aq->R D
noncomputable def vL (K:PySem.W.Frag)(μ:List Addr)(H:Hp)(Q:VK)(r:R D):Prop:=match r with
 | .ok d st=>∀(v:V) (H':Hp) (μ':List Addr),bC μ H μ' H'->aV K μ' H' st->ao K μ' H' d v->Q v H'
 | _=>False
noncomputable def jo (K:PySem.W.Frag)(n:Nat)(fd:FD):Sp:=λvs H Q _=>vs.length=n/\∃μ ds st,ak K μ H ds vs/\aV K μ H st/\vL K μ H Q (fd ds st)
noncomputable def startM (n:Nat)(ds:List D):bA:=ds.map some++List.replicate (n - ds.length) none
noncomputable def dF (n:Nat)(m:MS):FD:=λds st=>(m (startM n ds) st).bind λo st1=>match o with
 | .rt d=>.ok d st1
 | .nx _=>.ok .non st1
 | _=>.bad
theorem ak.start {K:PySem.W.Frag}{μ:List Addr}{H:Hp}{ds:List D}{vs:List V}(N:List Str)(h:ak K μ H ds vs):dR K μ H (startM N.length ds) (L2.start N vs):=by
 unfold startM L2.start;refine⟨by simp[h.length],λi d e=>?_⟩;rw[<-h.length];by_cases hi:i<ds.length
 ·rw[gQ (by simpa using hi)]at e;rw[gQ (by rw[gf,<-h.length];exact hi)];rw[gF]at e ⊢;cases q:ds[i]? with
  | none=>rw[q]at e;cases e
  | some d' =>
   rw[q]at e;cases e;obtain⟨v,q1,q2⟩:=h.get q;exact⟨v,by rw[q1];rfl,q2⟩
 ·rw[gR (by simpa using hi)]at e;rw[List.getElem?_replicate]at e
  split at e<;>cases e
section
variable {P:Program}{w:World}{K:PySem.W.Frag}{mg:Str->Option Value}{base:Heap}
theorem cA {x qual:Str}{st:Stmt}{f:Addr}{fd:FuncData}{N ps:List Str}{k:Nat}{m:MS}(F:dX K x qual st f fd)(S:aX N ps (aA st))
  (qG:∀(cdv:Value) (A:Around) (outer:List Env) (s:Shared) (H:Hp),dC k (A.deeper (PyProof.Rows.envOfC qual (aA st) s.heap.objs.size f cdv)) ->
   yU (wu iR P w K mg base N qual (aA st) f cdv A outer s H E0).J3 (bT st) m):a_ P w K mg base iR (k+1) f fd ps (jo K ps.length (dF N.length m)):=by
 refine F.ok S (λvs H Q E h=>h.1) (λcdv A outer s H vs Q E hr h=>?_);obtain⟨hl,μ,ds,Ou,hv,hs,hp⟩:=h;refine⟨_,qG cdv A outer s H hr,μ,startM N.length ds,Ou,ak.start N hv,hs,?_⟩;unfold dF at hp;cases hr:m (startM N.length ds) Ou with
 | bad=>rw[hr]at hp;exact hp.elim
 | err x st1=>rw[hr]at hp;exact hp.elim
 | ok o st1 =>
  rw[hr]at hp;cases o with
  | rt d=>exact hp
  | nx env=>exact fun σ' H' μ' g oZ _=>hp .non H' μ' g oZ (ao.bL.mpr rfl)
  | bk env=>exact hp.elim
  | cn env=>exact hp.elim
end
section
variable {X:Cx}{e:Expr}{es:List Expr}{mA:MA}{pos p:Pos}{x:Str}{k:Nat}{f:Addr}{fd:FuncData}{ps:List Str}{F:FD}{dvs:List V}{ds:List Value}{dd:List D}
noncomputable def R.sure {α:Type}(r:R α):R α:=match r with
 | .ok a st=>.ok a st
 | _=>.bad
@[simp] theorem R.zZ {α:Type} (a:α) (st:aq):(R.ok a st).sure=.ok a st:=iT rfl
noncomputable def aF (F:FD)(dd:List D)(mA:MA):ME:=λenv st=>(mA env st).bind λas st1=>(F (as++dd) st1).sure
theorem eF (G:a_ X.prog X.w X.K X.mg X.base iR k f fd ps (jo X.K ps.length F))(hr:dC k X.A)(hm:X.mg x=some (.ref f))(hk:PySem.W.keepIn X.K (.ref f)=true)(hb:Binds X.K fd ps ds)(hd:Vals dvs ds)
  (hdd:∀μ H,ak X.K μ H dd dvs) (ha:JA X (e::es) mA) (hlen:(e::es).length+dvs.length=ps.length:=by rfl) (hg:Gl X x:=by rfl) (vB:(x==("__debug__":Str))=false:=by decide) (he:starEach (e::es) X.env=(false,eval e X.env)::starEach es X.env:=by rfl) (jW:(backTo pos (starEach es X.env)).any (·.1)=false:=by rfl)
  (hA:∀env st as st1,mA env st=.ok as st1->as.length=(e::es).length:=by intros;rfl) :
  JE X (.Call (.Name x p) (e::es) [] pos) (aF F dd mA):=by
 refine JE.of (Lr G hr hg hm hk hb hd Gw ha vB he jW) fun σ H Q zz=>?_;obtain⟨μ,env,st,hE,hs,hp⟩:=zz;refine⟨μ,env,st,hE,hs,?_⟩;cases hr:mA env st with
 | bad=>unfold aF at hp;rw[hr]at hp;exact hp
 | err y st1=>unfold aF at hp;rw[hr]at hp;exact hp
 | ok as st1 =>
  unfold aF at hp;rw[hr]at hp;intro vs H1 μ1 g1 bQ hv;have zy:ak X.K μ1 H1 (as++dd) (vs++dvs):=hv.append (hdd μ1 H1);refine⟨?_,μ1,as++dd,st1,zy,bQ,?_⟩
  ·rw[gC,<-hv.length,hA env st as st1 hr];exact hlen
  ·have cZ:=cg.mono g1 (show cg X μ H (q9 X) Q (F (as++dd) st1).sure from hp);cases hF:F (as++dd) st1 with
   | ok d st2=>rw[hF]at cZ;exact cZ
   | err y st2=>rw[hF]at cZ;exact cZ.elim
   | bad=>rw[hF]at cZ;exact cZ.elim
end
mutual
noncomputable def under (n:Nat):D->Prop
 | .loc k=>k<n
 | .tup ds=>bu n ds
 | _=>True
noncomputable def bu (n:Nat):List D->Prop
 | []=>True
 | d::ds=>under n d/\bu n ds
end
@[simp] theorem Vu (n:Nat):under n .non=True:=by simp[under]
@[simp] theorem Yc (n:Nat) (b:Bool):under n (.bl b)=True:=by simp[under]
@[simp] theorem Vv (n:Nat) (i:Int):under n (.int i)=True:=by simp[under]
@[simp] theorem Vt (n:Nat) (c:List Nat):under n (.str c)=True:=by simp[under]
@[simp] theorem zis (n:Nat) (ds:List D):under n (.tup ds)=bu n ds:=by simp[under]
@[simp] theorem ziu (n k:Nat):under n (.loc k)=(k<n):=by simp[under]
@[simp] theorem QK (n:Nat):bu n []=True:=by simp[bu]
@[simp] theorem zgb (n:Nat) (d:D) (ds:List D):bu n (d::ds)=(under n d/\bu n ds):=by simp[bu]
theorem JH (n:Nat)(ds:List D):bu n ds ↔ ∀d∈ds,under n d:=by
 induction ds with
 | nil=>simp
 | cons d ds ih=>simp[ih]
noncomputable def aJ (n:Nat):MO->Prop
 | .lst ds=>bu n ds
 | .frz ds=>bu n ds
 | .dic kvs=>∀p∈kvs,under n p.2
 | .dkc kvs=>∀p∈kvs,under n p.2
 | .dkf kvs=>∀p∈kvs,under n p.2
 | .dtf kvs=>∀p∈kvs,under n p.2
 | .exc _ d=>under n d
 | .ins _ fs=>∀p∈fs,under n p.2
 | .tab _=>True
 | .clo _ _ ds=>bu n ds
 | .hid=>True
mutual
theorem ao.under {K:PySem.W.Frag}{μ:List Addr}{H:Hp}:∀(d:D) {v:V},ao K μ H d v->M.under μ.length d
 | .non,_,_=>by simp
 | .bl _,_,_=>by simp
 | .int _,_,_=>by simp
 | .str _,_,_=>by simp
 | .tup ds,_,h=>by
  obtain⟨a,xs,_,_,h2⟩:=ao.aY.mp h;rw[zis];exact ak.bu ds h2
 | .loc n,_,h=>by
  obtain⟨a,h1,_⟩:=ao.aN.mp h;rw[ziu];exact (gj.mp h1).1
theorem ak.bu {K:PySem.W.Frag}{μ:List Addr}{H:Hp}:∀(ds:List D) {vs:List V},ak K μ H ds vs->M.bu μ.length ds
 | [],_,_=>by simp
 | d::ds,_,h=>by
  rw[ak]at h;obtain⟨v,r,_,h1,h2⟩:=h;rw[zgb];exact⟨ao.under d h1,ak.bu ds h2⟩
end
mutual
theorem ao.down {K:PySem.W.Frag}{μ ν:List Addr}{H:Hp}:∀(d:D) {v:V},ao K (μ++ν) H d v->M.under μ.length d->ao K μ H d v
 | .non,_,h,_=>by simpa[ao] using h
 | .bl _,_,h,_=>by simpa[ao] using h
 | .int _,_,h,_=>by simpa[ao] using h
 | .str _,_,h,_=>by simpa[ao] using h
 | .tup ds,_,h,u=>by
  obtain⟨a,xs,e,h1,h2⟩:=ao.aY.mp h;rw[zis]at u;exact ao.aY.mpr ⟨a,xs,e,h1,ak.down ds h2 u⟩
 | .loc n,_,h,u=>by
  obtain⟨a,h1,e⟩:=ao.aN.mp h;rw[ziu]at u;rw[gQ u]at h1;exact ao.aN.mpr ⟨a,h1,e⟩
theorem ak.down {K:PySem.W.Frag}{μ ν:List Addr}{H:Hp}:∀(ds:List D) {vs:List V},ak K (μ++ν) H ds vs->M.bu μ.length ds->ak K μ H ds vs
 | [],_,h,_=>by simpa[ak] using h
 | d::ds,_,h,u=>by
  rw[ak]at h ⊢;obtain⟨v,r,e,h1,h2⟩:=h;rw[zgb]at u;exact⟨v,r,e,ao.down d h1 u.1,ak.down ds h2 u.2⟩
end
theorem aM.under {κ:Type}{K:PySem.W.Frag}{μ:List Addr}{H:Hp}:∀{ds:List (κ×D)} {vs:List (κ×V)},aM K μ H ds vs->∀p∈ds,M.under μ.length p.2
 | [],_,_,_,hp=>nomatch hp
 | (k,d)::ds,_,⟨v,r,e,h1,h2⟩,p,hp=>by
  rcases gk.mp hp with rfl | hp
  ·exact ao.under d h1
  ·exact aM.under h2 p hp
theorem aM.down {κ:Type}{K:PySem.W.Frag}{μ ν:List Addr}{H:Hp}:∀{ds:List (κ×D)} {vs:List (κ×V)},aM K (μ++ν) H ds vs->(∀p∈ds,M.under μ.length p.2)->aM K μ H ds vs
 | [],_,h,_=>h
 | (k,d)::ds,_,⟨v,r,e,h1,h2⟩,u=>⟨v,r,e,ao.down d h1 (u (k,d) (by simp)),aM.down h2 λp hp=>u p (kj _ hp)⟩
theorem jk.under {K:PySem.W.Frag}{μ:List Addr}{H:Hp}{a:Addr}{o:MO}(h:jk K μ H a o):aJ μ.length o:=by
 cases o with
 | lst ds=>obtain⟨xs,_,h2⟩:=h;exact ak.bu ds h2
 | frz ds=>obtain⟨xs,_,h2⟩:=h;exact ak.bu ds h2
 | dic ds=>obtain⟨xs,_,h2⟩:=h;exact h2.under
 | dkc ds=>obtain⟨xs,_,h2⟩:=h;exact h2.under
 | dkf ds=>obtain⟨xs,_,_,h2⟩:=h;exact h2.under
 | dtf ds=>obtain⟨xs,_,_,h2⟩:=h;exact h2.under
 | exc c d=>obtain⟨_,_,_,_,_,_,_,_,_,_,_,_,h7⟩:=h;exact ao.under d h7
 | ins c ds=>obtain⟨_,_,xs,_,_,h2⟩:=h;exact h2.under
 | tab x=>trivial
 | clo j l ds=>obtain⟨_,_,_,_,xs,_,_,_,_,_,h2⟩:=h;exact ak.bu ds h2
 | hid=>trivial
theorem jk.down {K:PySem.W.Frag}{μ ν:List Addr}{H:Hp}{a:Addr}{o:MO}(h:jk K (μ++ν) H a o)(u:aJ μ.length o):jk K μ H a o:=by
 cases o with
 | lst ds=>obtain⟨xs,h1,h2⟩:=h;exact⟨xs,h1,ak.down ds h2 u⟩
 | frz ds=>obtain⟨xs,h1,h2⟩:=h;exact⟨xs,h1,ak.down ds h2 u⟩
 | dic ds=>obtain⟨xs,h1,h2⟩:=h;exact⟨xs,h1,h2.down u⟩
 | dkc ds=>obtain⟨xs,h1,h2⟩:=h;exact⟨xs,h1,h2.down u⟩
 | dkf ds=>obtain⟨xs,o,h1,h2⟩:=h;exact⟨xs,o,h1,h2.down u⟩
 | dtf ds=>obtain⟨xs,o,h1,h2⟩:=h;exact⟨xs,o,h1,h2.down u⟩
 | exc c d=>obtain⟨oe,C,dx,od,v,fs,h1,h2,h3,h4,h5,h6,h7⟩:=h;exact⟨oe,C,dx,od,v,fs,h1,h2,h3,h4,h5,h6,ao.down d h7 u⟩
 | ins c ds=>obtain⟨C,dx,xs,h0,h1,h2⟩:=h;exact⟨C,dx,xs,h0,h1,h2.down u⟩
 | tab x=>exact h
 | clo j l ds=>obtain⟨cl,pm,c',tO,vs,h1,h2,h3,h4,h5,h6⟩:=h;exact⟨cl,pm,c',tO,vs,h1,h2,h3,h4,h5,ak.down ds h6 u⟩
 | hid=>trivial
theorem jk.up {K:PySem.W.Frag}{μ:List Addr}{H:Hp}{a:Addr}{o:MO}(ν:List Addr)(h:jk K μ H a o):jk K (μ++ν) H a o:=h.keep ⟨⟨ν,rfl⟩,.refl H⟩ λ_ _ q=>q
theorem Xb {α:Type}{l l':List α}(h:l'.take l.length=l){n:Nat}{o:α}(e:l[n]? = some o):l'[n]? = some o:=by
 have hl:=(gj.mp e).1;rw[<-h,pU]at e;rw[if_pos hl]at e;exact e
theorem aV.back {K:PySem.W.Frag}{μ ν:List Addr}{H H':Hp}{st st':aq}(h0:aV K μ H st)(h:aV K (μ++ν) H' st')(ht:st'.take st.length=st):aV K μ H' st:=by
 refine⟨h0.len,λn o e=>?_,λi j a oi oj ei ej mi mj hi hj=>?_⟩
 ·obtain⟨a,h1,h2⟩:=h.at_ n o (Xb ht e);obtain⟨a0,h3,h4⟩:=h0.at_ n o e;have hn:n<μ.length:=by rw[h0.len];exact (gj.mp e).1
  rw[gQ hn]at h1;exact⟨a,h1,h2.down h4.under⟩
 ·have up:∀k,μ[k]? = some a->(μ++ν)[k]? = some a:=λk hk=>by rw[gQ (gj.mp hk).1];exact hk
  exact h.uniq i j a oi oj (Xb ht ei) (Xb ht ej) mi mj (up i hi) (up j hj)
theorem aV.aax {K:PySem.W.Frag}{μ ν:List Addr}{H H':Hp}{st st':aq}{k:Nat}{o:MO}{a:Addr}(h0:aV K μ H st)(h:aV K (μ++ν) H' st')(ht:st'.take st.length=st)(hk:st.length<=k)(e:st'[k]? = some o)(u:aJ st.length o)(ha:(μ++ν)[k]? = some a) :
  aV K (μ++[a]) H' (st++[o]):=by
 have hb:=h0.back h ht;obtain⟨a',q1,q2⟩:=h.at_ k o e;rw[ha]at q1;cases q1;have key:∀(n:Nat) (on:MO) (c:Addr),(st++[o])[n]? = some on->(μ++[a])[n]? = some c->(n<st.length/\st[n]? = some on/\μ[n]? = some c)\/(n=st.length/\on=o/\c=a):=λn on c e1 e2=>by
  by_cases hn:n<st.length
  ·rw[gQ hn]at e1;rw[gQ (by rw[h0.len];exact hn)]at e2;exact .inl ⟨hn,e1,e2⟩
  ·have hl:=(gj.mp e1).1;rw[gC,nq]at hl;have en:n=st.length:=by omega
   subst en;rw[gR (gh _)]at e1;rw[<-h0.len,gR (gh _)]at e2;simp at e1 e2;exact .inr ⟨rfl,e1.symm,e2.symm⟩
 refine⟨by simp[h0.len],λn on e1=>?_,λi j c oi oj ei ej mi mj hi hj=>?_⟩
 ·have hn:n<(μ++[a]).length:=by
   have:=(gj.mp e1).1;simpa[h0.len] using this
  obtain⟨c,hc⟩:∃c,(μ++[a])[n]? = some c:=⟨_,gM hn⟩;rcases key n on c e1 hc with⟨h1,h2,h3⟩ | ⟨h1,rfl,rfl⟩
  ·obtain⟨c',h4,h5⟩:=hb.at_ n on h2;rw[h3]at h4;cases h4;exact⟨c,hc,h5.up _⟩
  ·exact⟨c,hc,(q2.down (by rw[h0.len];exact u)).up _⟩
 ·have up:∀k,μ[k]? = some c->(μ++ν)[k]? = some c:=λk hk=>by rw[gQ (gj.mp hk).1];exact hk
  rcases key i oi c ei hi with⟨h1,h2,h3⟩ | ⟨h1,rfl,rfl⟩
  ·rcases key j oj c ej hj with⟨g1,g2,g3⟩ | ⟨g1,rfl,rfl⟩
   ·exact hb.uniq i j c oi oj h2 g2 mi mj h3 g3
   ·have:=h.uniq i k c oi oj (Xb ht h2) e mi mj (up i h3) ha;omega
  ·rcases key j oj c ej hj with⟨g1,g2,g3⟩ | ⟨g1,_,_⟩
   ·have:=h.uniq j k c oj oi (Xb ht g2) e mj mi (up j g3) ha;omega
   ·rw[h1,g1]
open Classical in
noncomputable def gc (st:aq)(r:R D):R D:=match r with
 | .ok d st'=>if st'.take st.length=st/\under st.length d then .ok d st else (match d with
  | .loc k=>(match st'[k]? with
   | some o=>if st'.take st.length=st/\st.length<=k/\aJ st.length o then .ok (.loc st.length) (st++[o]) else .ok d st'
   | none=>.ok d st')
  | d=>.ok d st')
 | r=>r
noncomputable def iU (F:FD):FD:=λds st=>gc st (F ds st)
theorem zoq {K:PySem.W.Frag}{μ:List Addr}{H:Hp}{Q:VK}{st:aq}{r:R D}(hs:aV K μ H st)(h:vL K μ H Q (gc st r)):vL K μ H Q r:=by
 cases r with
 | bad=>exact h
 | err x st'=>exact h
 | ok d st' =>
  unfold gc at h;dsimp only at h;by_cases c1:st'.take st.length=st/\under st.length d
  ·rw[if_pos c1]at h;intro v H' μ' g oZ hv;obtain⟨ν,rfl⟩:=g.pre;exact h v H' μ ⟨⟨[],by simp⟩,g.ext⟩ (hs.back oZ c1.1) (ao.down d hv (by rw[hs.len];exact c1.2))
  ·rw[if_neg c1]at h;cases d with
   | loc k =>
    dsimp only at h;cases e:st'[k]? with
    | none=>rw[e]at h;exact h
    | some o =>
     rw[e]at h;dsimp only at h;by_cases c2:st'.take st.length=st/\st.length<=k/\aJ st.length o
     ·rw[if_pos c2]at h;intro v H' μ' g oZ hv;obtain⟨ν,rfl⟩:=g.pre;obtain⟨a,h1,rfl⟩:=ao.aN.mp hv;refine h _ H' (μ++[a]) ⟨⟨[a],rfl⟩,g.ext⟩ (hs.aax oZ c2.1 c2.2.1 e c2.2.2 h1) (ao.aN.mpr ⟨a,?_,rfl⟩);rw[<-hs.len];simp
     ·rw[if_neg c2]at h;exact h
   | _=>exact h
theorem du {K:PySem.W.Frag}{n:Nat}{F:FD}{vs:List V}{H:Hp}{Q:VK}{E:XK}(h:jo K n (iU F) vs H Q E):jo K n F vs H Q E:=by
 obtain⟨hl,μ,ds,st,h1,h2,h3⟩:=h;exact⟨hl,μ,ds,st,h1,h2,zoq h2 h3⟩
theorem Qo {st:aq}{g:List MO}{d:D}(h:under st.length d):gc st (.ok d (st++g))=.ok d st:=by
 unfold gc;dsimp only;rw[if_pos ⟨by simp,h⟩]
theorem WK {st:aq}{g g':List MO}{o:MO}(h:aJ st.length o):gc st (.ok (.loc (st.length+g.length)) (st++g++o::g'))=.ok (.loc st.length) (st++[o]):=by
 unfold gc;dsimp only;rw[if_neg (by simp)];have e:(st++g++o::g')[st.length+g.length]? = some o:=by
  rw[gR (by simp)];simp
 rw[e];dsimp only;rw[if_pos ⟨by simp,by omega,h⟩]
section
variable {X:Cx}{e a b c:Expr}{es:List Expr}{ma mb mc:ME}{mA:MA}{pos p2 p:Pos}
noncomputable def uP:List D->aq->R D
 | [.str cs],st=>if cs.length<=1000000 then .ok (.int cs.length) st else .bad
 | [.tup ds],st=>.ok (.int ds.length) st
 | [.loc n],st=>match az st n with | some ds=>.ok (.int ds.length) st | none=>.bad
 | _,_=>.bad
theorem zlr:cu X (.builtin "len") (JX X uP):=by
 refine cu.weak (cu.or zkm zj9) ?_;rintro xs H Q ⟨μ,st,ds,hs,hv,hp⟩;unfold uP at hp
 split at hp
 ·rename_i cs
  split at hp
  ·rename_i hl;obtain⟨v,rfl,q⟩:=ak.one hv;rw[ao.aU]at q;subst q;exact .inl ⟨_,rfl,by rw[Xg];exact Ew hl,by rw[Xg];exact hp.ret hs (ao.aO.mpr rfl)⟩
  ·exact hp.elim
 ·obtain⟨v,rfl,q⟩:=ak.one hv;obtain⟨p,ys,rfl,q1,q2⟩:=ao.aY.mp q;exact .inr ⟨p,ys,rfl,.inr q1.uY,by rw[<-q2.length];exact hp.ret hs (ao.aO.mpr rfl)⟩
 ·rename_i n;cases e:az st n with
  | none=>rw[e]at hp;exact hp.elim
  | some ds =>
   rw[e]at hp;obtain⟨v,rfl,q⟩:=ak.one hv;obtain⟨p,q1,rfl⟩:=ao.aN.mp q;obtain⟨p',ys,r1,r2,r3⟩:=hs.items e;rw[q1]at r1;cases r1;exact .inr ⟨p,ys,rfl,.inl r2,by rw[<-r3.length];exact hp.ret hs (ao.aO.mpr rfl)⟩
 ·exact hp.elim
noncomputable def Dg:List D->aq->R D
 | [.int i],st=>.ok (.int i) st
 | [.bl k],st=>.ok (.int (if k then 1 else 0)) st
 | _,_=>.bad
theorem zlt:cu X (.type "int") (JX X Dg):=by
 refine cu.weak DY ?_;rintro xs H Q ⟨μ,st,ds,hs,hv,hp⟩;unfold Dg at hp
 split at hp
 ·obtain⟨v,rfl,q⟩:=ak.one hv;rw[ao.aO]at q;subst q;exact .inl ⟨_,rfl,hp.ret hs (ao.aO.mpr rfl)⟩
 ·obtain⟨v,rfl,q⟩:=ak.one hv;rw[ao.bH]at q;subst q;exact .inr ⟨_,rfl,hp.ret hs (ao.aO.mpr rfl)⟩
 ·exact hp.elim
noncomputable def wK:List D->aq->R D
 | [.int i,.int j],st=>.ok (.int (if j<i then j else i)) st
 | _,_=>.bad
theorem zn9 (hc:X.calm=true):cu X (.builtin "min") (JX X wK):=by
 refine cu.weak (DW hc) ?_;rintro xs H Q ⟨μ,st,ds,hs,hv,hp⟩;unfold wK at hp
 split at hp
 ·obtain⟨v,w,rfl,q1,q2⟩:=ak.two hv;rw[ao.aO]at q1 q2;subst q1 q2;exact⟨_,_,rfl,hp.ret hs (ao.aO.mpr rfl)⟩
 ·exact hp.elim
noncomputable def G5:List D->aq->R D
 | [.int i,.int j],st=>.ok (.int (if j > i then j else i)) st
 | _,_=>.bad
theorem zoj (hc:X.calm=true):cu X (.builtin "max") (JX X G5):=by
 refine cu.weak (DX hc) ?_;rintro xs H Q ⟨μ,st,ds,hs,hv,hp⟩;unfold G5 at hp
 split at hp
 ·obtain⟨v,w,rfl,q1,q2⟩:=ak.two hv;rw[ao.aO]at q1 q2;subst q1 q2;exact⟨_,_,rfl,hp.ret hs (ao.aO.mpr rfl)⟩
 ·exact hp.elim
noncomputable def QQ:D->aq->Option String
 | .non,_=>some "NoneType"
 | .bl _,_=>some "bool"
 | .int _,_=>some "int"
 | .str _,_=>some "str"
 | .tup _,_=>some "tuple"
 | .loc n,st=>match st[n]? with
  | some (.lst _)=>some "list"
  | some (.frz _)=>some "list"
  | some (.dic _)=>some "dict"
  | some (.dkc _)=>some "dict"
  | _=>none
theorem HJ {pins:List (Addr×Obj)}{σ:L2.St}{μ:List Addr}{H:Hp}{s:Shared}{A:Around}{E:Value->Shared->Prop}{Q:Value->Shared->Prop}{cv:Value}{k:Bool}{d:D}{st:aq}{x:V}{u:Value}{T:String}
  (I:Inv X pins σ H s) (hs:aV X.K μ H st) (hd:ao X.K μ H d x) (rx:RelV x u) (ht:QQ d st=some T) (e:PySem.W.kitOne X.K (.type T) cv=some k) (h:∀tk,Q (.bool k) { s with toks:=tk }) :
  wpAny (model X.prog X.w) A (call (.builtin "isinstance") [u,cv]) Q E s:=by
 cases d with
 | non=>rw[ao.bL]at hd;subst hd;cases ht;exact Ve I rx (.non) e h
 | bl y=>rw[ao.bH]at hd;subst hd;cases ht;exact Ve I rx (.bl y) e h
 | int y=>rw[ao.aO]at hd;subst hd;cases ht;exact Ve I rx (.int y) e h
 | str y=>rw[ao.aU]at hd;subst hd;cases ht;exact Ve I rx (.str _) e h
 | tup ds =>
  obtain⟨a,xs,rfl,q1,q2⟩:=ao.aY.mp hd;cases ht;obtain⟨its,_,p,_⟩:=I.tuple (q1.uY);obtain⟨o,h1,h2,_⟩:=p;cases (show u=Value.ref a from rx);exact PySem.W.kia_one PySem.W.kitx_tuple I.tB ⟨o,h1,h2⟩ e (λz=>nomatch z) h
 | loc n =>
  obtain⟨a,q1,rfl⟩:=ao.aN.mp hd;simp only[QQ]at ht;have lst:∀ds,az st n=some ds->PySem.W.kitOne X.K (.type "list") cv=some k->wpAny (model X.prog X.w) A (call (.builtin "isinstance") [u,cv]) Q E s:=λds e1 e2=>by
   obtain⟨p',ys,r1,r2,r3⟩:=hs.items e1;rw[q1]at r1;cases r1;obtain⟨its,_,p,_⟩:=I.list r2;cases (show u=Value.ref a from rx);exact PySem.W.kia_one PySem.W.kitx_list I.tB p.isList.typeIs e2 (λz=>nomatch z) h
  cases e1:st[n]? with
  | none=>rw[e1]at ht;cases ht
  | some mo =>
   rw[e1]at ht;cases mo with
   | lst ds=>cases ht;exact lst ds (by unfold az;rw[e1]) e
   | frz ds=>cases ht;exact lst ds (by unfold az;rw[e1]) e
   | dic kvs =>
    cases ht;obtain⟨p',r1,ws,r2,_⟩:=hs.at_ n _ e1;rw[q1]at r1;cases r1;exact Ve I rx (.dT r2) e h
   | dkc kvs =>
    cases ht;obtain⟨p',r1,ws,r2,_⟩:=hs.at_ n _ e1;rw[q1]at r1;cases r1;exact Ve I rx (.dK r2) e h
   | _=>cases ht
noncomputable def u9 (t T:String):Bool:=t==T || (t == "bool" && T == "int")
noncomputable def HQ (T:String):D->aq->R D:=λd st=>match QQ d st with | some t=>.ok (.bl (u9 t T)) st | none=>.bad
noncomputable def yZ:List String:=["NoneType","bool","int","str","tuple","list","dict"]
theorem Km {d:D}{st:aq}{t:String}(h:QQ d st=some t):t∈yZ:=by
 cases d with
 | loc n =>
  simp only[QQ]at h
  split at h<;>cases h<;>decide
 | _=>cases h;decide
noncomputable def rIs (X:Cx)(T:String):List V->Hp->VK->Prop:=λxs H Q=>∃μ st d x,xs=[x,.ty T]/\aV X.K μ H st/\ao X.K μ H d x/\cg X μ H (q9 X) Q (HQ T d st)
theorem Jk {T:String}(hT:∀t∈yZ,PySem.W.kitOne X.K (.type t) (.type T)=some (u9 t T)):cu X (.builtin "isinstance") (rIs X T):=by
 rintro pins s σ H xs us Q I hr ⟨μ,st,d,x,rfl,hs,hd,hp⟩;obtain⟨u,w',rfl,r1,r2⟩:=vals2 hr;cases (show w'=Value.type T from r2);unfold HQ at hp;cases e:QQ d st with
 | none=>rw[e]at hp;exact hp.elim
 | some t =>
  rw[e]at hp;exact HJ I hs hd r1 e (hT t (Km e)) λtk=>⟨.bl (u9 t T),H,I.tok tk,rfl,hp.ret hs (ao.bH.mpr rfl)⟩
theorem kit_tuple {K:PySem.W.Frag}:∀t∈yZ,PySem.W.kitOne K (.type t) (.type "tuple")=some (u9 t "tuple"):=by
 intro t ht;simp only[yZ,gk,mz,or_false]at ht;rcases ht with rfl | rfl | rfl | rfl | rfl | rfl | rfl<;>rfl
theorem Hk {K:PySem.W.Frag}:∀t∈yZ,PySem.W.kitOne K (.type t) (.type "list")=some (u9 t "list"):=by
 intro t ht;simp only[yZ,gk,mz,or_false]at ht;rcases ht with rfl | rfl | rfl | rfl | rfl | rfl | rfl<;>rfl
theorem Hw {T:String}{xT:Str}(hT:∀t∈yZ,PySem.W.kitOne X.K (.type t) (.type T)=some (u9 t T))(h:JE X e ma)(hg:Gl X "isinstance")(hm:X.mg "isinstance" = none)(hgT:Gl X xT)(hmT:X.mg xT=none)
  (hv:bootBuiltins xT=some (.type T)) (hb:bootBuiltins "isinstance" = some (.builtin "isinstance")) (hnT:xT ≠ "__name__":=by decide) (hdT:(xT==("__debug__":Str))=false:=by decide)
  (bQ:starEach [e,.Name xT p2] X.env=[(false,eval e X.env),(false,eval (.Name xT p2) X.env)]:=by rfl) (fV:starEach [.Name xT p2] X.env=[(false,eval (.Name xT p2) X.env)]:=by rfl) (jW:(backTo pos (starEach [.Name xT p2] X.env)).any (·.1)=false:=by rfl) :
  JE X (.Call (.Name "isinstance" p) [e,.Name xT p2] [] pos) (ye (HQ T) ma):=by
 refine JE.of (zoc (Jk hT) hg hm hb (WX h (WX (Ls (v:=.ty T) hgT hmT hv rfl hnT hdT) zc fV) bQ) (by decide) (by decide) bQ jW) fun σ H Q zz=>?_;obtain⟨μ,env,st,hE,hs,hp⟩:=zz;refine⟨μ,env,st,hE,hs,(cg.bind hp).imp ?_⟩;rintro x H1 ⟨μ1,st1,d,g1,bQ,hx,aZ⟩;exact⟨μ1,st1,d,x,rfl,bQ,hx,aZ⟩
end
end M
namespace M
open PySem PySem.Spec PySem.SeqAt L2
mutual
noncomputable def qm:D->D->Bool
 | .non,.non=>true
 | .bl a,.bl b=>a==b
 | .bl a,.int b=>(if a then 1 else 0)==b
 | .int a,.bl b=>a==(if b then 1 else 0)
 | .int a,.int b=>a==b
 | .str a,.str b=>a==b
 | .tup a,.tup b=>o5 a b
 | _,_=>false
noncomputable def o5:List D->List D->Bool
 | [],[]=>true
 | a::as,b::bs=>qm a b && o5 as bs
 | _,_=>false
end
mutual
noncomputable def flat:D->Bool
 | .loc _=>false
 | .tup ds=>d_ ds
 | _=>true
noncomputable def d_:List D->Bool
 | []=>true
 | d::ds=>flat d && d_ ds
end
mutual
noncomputable def dep:D->Nat
 | .tup ds=>deps ds+1
 | _=>0
noncomputable def deps:List D->Nat
 | []=>0
 | d::ds=>max (dep d) (deps ds)
end
mutual
noncomputable def eY:D->D->Nat
 | .tup a,.tup b=>iM a b+1
 | _,_=>0
noncomputable def iM:List D->List D->Nat
 | a::as,b::bs=>max (eY a b) (iM as bs)
 | _,_=>0
end
@[simp] theorem zny (a b:List D):eY (.tup a) (.tup b)=iM a b+1:=by simp[eY]
@[simp] theorem aas (d:D):eY .non d=0:=by simp[eY]
@[simp] theorem aaS (b:Bool) (d:D):eY (.bl b) d=0:=by simp[eY]
@[simp] theorem zm2 (b:Int) (d:D):eY (.int b) d=0:=by simp[eY]
@[simp] theorem Ji (b:List Nat) (d:D):eY (.str b) d=0:=by simp[eY]
@[simp] theorem aat (b:Nat) (d:D):eY (.loc b) d=0:=by simp[eY]
@[simp] theorem Wu (d:D):eY d .non=0:=by cases d<;>simp[eY]
@[simp] theorem aau (b:Bool) (d:D):eY d (.bl b)=0:=by cases d<;>simp[eY]
@[simp] theorem Wv (b:Int) (d:D):eY d (.int b)=0:=by cases d<;>simp[eY]
@[simp] theorem Wt (b:List Nat) (d:D):eY d (.str b)=0:=by cases d<;>simp[eY]
@[simp] theorem Ws (bs:List D):iM [] bs=0:=by simp[iM]
@[simp] theorem Us (as:List D):iM as []=0:=by cases as<;>simp[iM]
@[simp] theorem zjs (a b:D) (as bs:List D):iM (a::as) (b::bs)=max (eY a b) (iM as bs):=by simp[iM]
@[simp] theorem zol (b:Int):flat (.int b)=true:=by simp[flat]
@[simp] theorem Iz (b:List Nat):flat (.str b)=true:=by simp[flat]
@[simp] theorem Iw (b:List D):flat (.tup b)=d_ b:=by simp[flat]
@[simp] theorem Wo:d_ []=true:=by simp[d_]
@[simp] theorem Vc (d:D) (ds:List D):d_ (d::ds)=(flat d && d_ ds):=by simp[d_]
@[simp] theorem aaQ:dep .non=0:=by simp[dep]
@[simp] theorem acB (b:Bool):dep (.bl b)=0:=by simp[dep]
@[simp] theorem aaR (b:Int):dep (.int b)=0:=by simp[dep]
@[simp] theorem aaP (b:List Nat):dep (.str b)=0:=by simp[dep]
@[simp] theorem Nq (b:List D):dep (.tup b)=deps b+1:=by simp[dep]
@[simp] theorem aao:deps []=0:=by simp[deps]
@[simp] theorem zlw (d:D) (ds:List D):deps (d::ds)=max (dep d) (deps ds):=by simp[deps]
mutual
theorem Bh:∀(a b:D),eY a b<=dep a
 | .tup a,.tup b=>by rw[zny,Nq];exact Nat.succ_le_succ (zmt a b)
 | .tup a,.non=>by simp
 | .tup a,.bl _=>by simp
 | .tup a,.int _=>by simp
 | .tup a,.str _=>by simp
 | .tup a,.loc _=>by simp[eY]
 | .non,_=>by simp
 | .bl _,_=>by simp
 | .int _,_=>by simp
 | .str _,_=>by simp
 | .loc _,_=>by simp
theorem zmt:∀(a b:List D),iM a b<=deps a
 | [],b=>by simp
 | a::as,[]=>by simp
 | a::as,b::bs=>by
  rw[zjs,zlw];have h1:=Bh a b;have h2:=zmt as bs;omega
end
noncomputable def eqJ (as bs:List D)(j:Nat):Bool:=match as[j]?,bs[j]? with | some a,some b=>qm a b | _,_=>true
theorem zij:∀(as bs:List D),o5 as bs=((List.range (min as.length bs.length)).all (eqJ as bs) && as.length==bs.length)
 | [],[]=>by simp[o5]
 | [],b::bs=>by simp[o5]
 | a::as,[]=>by simp[o5]
 | a::as,b::bs=>by
  rw[o5,zij as bs];have e1:min (a::as).length (b::bs).length=min as.length bs.length+1:=by simp
  rw[e1,List.range_succ_eq_map,List.all_cons,List.all_map];have e2:((a::as).length==(b::bs).length)=(as.length==bs.length):=by
   rw[mV];simp
  rw[e2];have e3:eqJ (a::as) (b::bs) 0=qm a b:=rfl;rw[e3,Bool.and_assoc]
  rfl
mutual
theorem zkb:∀(d:D),flat d=true->qm d d=true
 | .non,_=>by simp[qm]
 | .bl _,_=>by simp[qm]
 | .int _,_=>by simp[qm]
 | .str _,_=>by simp[qm]
 | .tup ds,h=>by rw[qm];exact zlb ds (by simpa using h)
 | .loc _,h=>by simp[flat]at h
theorem zlb:∀(ds:List D),d_ ds=true->o5 ds ds=true
 | [],_=>by simp[o5]
 | d::ds,h=>by
  rw[Vc,mq]at h;rw[o5,zkb d h.1,zlb ds h.2];rfl
end
section
variable {X:Cx}{pins:List (Addr×Obj)}{σ:L2.St}{μ:List Addr}{H:Hp}{s:Shared}
mutual
theorem zkj (I:Inv X pins σ H s):∀(d1 d2:D) {v:V},flat d1=true->flat d2=true->ao X.K μ H d1 v->ao X.K μ H d2 v->d1=d2
 | .non,d2,_,_,f2,h1,h2=>by
  rw[ao.bL]at h1;subst h1;cases d2 with
  | non=>rfl
  | bl _=>rw[ao.bH]at h2;cases h2
  | int _=>rw[ao.aO]at h2;cases h2
  | str _=>rw[ao.aU]at h2;cases h2
  | tup _=>obtain⟨_,_,q,_⟩:=ao.aY.mp h2;cases q
  | loc _=>simp[flat]at f2
 | .bl b,d2,_,_,f2,h1,h2=>by
  rw[ao.bH]at h1;subst h1;cases d2 with
  | bl _=>rw[ao.bH]at h2;cases h2;rfl
  | non=>rw[ao.bL]at h2;cases h2
  | int _=>rw[ao.aO]at h2;cases h2
  | str _=>rw[ao.aU]at h2;cases h2
  | tup _=>obtain⟨_,_,q,_⟩:=ao.aY.mp h2;cases q
  | loc _=>simp[flat]at f2
 | .int b,d2,_,_,f2,h1,h2=>by
  rw[ao.aO]at h1;subst h1;cases d2 with
  | int _=>rw[ao.aO]at h2;cases h2;rfl
  | non=>rw[ao.bL]at h2;cases h2
  | bl _=>rw[ao.bH]at h2;cases h2
  | str _=>rw[ao.aU]at h2;cases h2
  | tup _=>obtain⟨_,_,q,_⟩:=ao.aY.mp h2;cases q
  | loc _=>simp[flat]at f2
 | .str b,d2,_,_,f2,h1,h2=>by
  rw[ao.aU]at h1;subst h1;cases d2 with
  | str _=>rw[ao.aU]at h2;injection h2 with h3;rw[zkx.mp h3]
  | non=>rw[ao.bL]at h2;cases h2
  | bl _=>rw[ao.bH]at h2;cases h2
  | int _=>rw[ao.aO]at h2;cases h2
  | tup _=>obtain⟨_,_,q,_⟩:=ao.aY.mp h2;cases q
  | loc _=>simp[flat]at f2
 | .tup as,d2,_,f1,f2,h1,h2=>by
  obtain⟨a,xs,rfl,q1,q2⟩:=ao.aY.mp h1;cases d2 with
  | tup bs =>
   obtain⟨b,ys,e,r1,r2⟩:=ao.aY.mp h2;cases e;rw[I.wG (r1.uY) (q1.uY)]at r2;rw[zls I as bs (by simpa using f1) (by simpa using f2) q2 r2]
  | non=>rw[ao.bL]at h2;cases h2
  | bl _=>rw[ao.bH]at h2;cases h2
  | int _=>rw[ao.aO]at h2;cases h2
  | str _=>rw[ao.aU]at h2;cases h2
  | loc _=>simp[flat]at f2
 | .loc _,_,_,f1,_,_,_=>by simp[flat]at f1
theorem zls (I:Inv X pins σ H s):∀(as bs:List D) {vs:List V},d_ as=true->d_ bs=true->ak X.K μ H as vs->ak X.K μ H bs vs->as=bs
 | [],bs,_,_,_,h1,h2=>by
  rw[ak]at h1;subst h1;cases bs with
  | nil=>rfl
  | cons _ _=>rw[ak]at h2;obtain⟨_,_,q,_⟩:=h2;cases q
 | a::as,bs,_,f1,f2,h1,h2=>by
  rw[ak]at h1;obtain⟨v,r,rfl,q1,q2⟩:=h1;cases bs with
  | nil=>rw[ak]at h2;cases h2
  | cons b bs =>
   rw[ak]at h2;obtain⟨v',r',e,r1,r2⟩:=h2;cases e;rw[Vc,mq]at f1 f2;rw[zkj I a b f1.1 f2.1 q1 r1,zls I as bs f1.2 f2.2 q2 r2]
end
mutual
theorem IV (I:Inv X pins σ H s):∀(d1 d2:D) {A:Around} {x y:V} {u w:Value},flat d1=true->flat d2=true->A.units+eY d1 d2<cLine->ao X.K μ H d1 x->ao X.K μ H d2 y->RelV x u->RelV y w ->
  EqAt A s u w (qm d1 d2)/\RcAt A s u w (qm d1 d2)/\RcNeAt A s u w (!qm d1 d2)
 | d1,d2,A,x,y,u,w,f1,f2,hu,h1,h2,r1,r2=>by
  cases d1 with
  | loc _=>simp[flat]at f1
  | non =>
   rw[ao.bL]at h1;subst h1;cases (show u=Value.none from r1);cases d2 with
   | loc _=>simp[flat]at f2
   | non=>rw[ao.bL]at h2;subst h2;cases (show w=Value.none from r2);exact⟨EqAt.same _,RcAt.none_none,RcNeAt.none_none⟩
   | bl b=>rw[ao.bH]at h2;subst h2;cases (show w=Value.bool b from r2);exact⟨EqAt.none_bool b,RcAt.none_bool b,RcNeAt.none_bool b⟩
   | int b=>rw[ao.aO]at h2;subst h2;obtain⟨t,rfl⟩:=r2;exact⟨EqAt.none_int b t,RcAt.none_int b t,RcNeAt.none_int b t⟩
   | str b=>rw[ao.aU]at h2;subst h2;obtain⟨t,rfl⟩:=r2;exact⟨EqAt.none_str _ t,RcAt.none_str _ t,RcNeAt.none_str _ t⟩
   | tup bs =>
    obtain⟨b,ys,rfl,q1,q2⟩:=ao.aY.mp h2;cases (show w=Value.ref b from r2);obtain⟨its,_,p,_⟩:=I.tuple (q1.uY);exact⟨EqAt.none_tuple p (by omega),RcAt.none_tuple p (by omega),RcNeAt.none_tuple p (by omega)⟩
  | bl a =>
   rw[ao.bH]at h1;subst h1;cases (show u=Value.bool a from r1);cases d2 with
   | loc _=>simp[flat]at f2
   | non=>rw[ao.bL]at h2;subst h2;cases (show w=Value.none from r2);exact⟨EqAt.bool_none a,RcAt.bool_none a,RcNeAt.bool_none a⟩
   | bl b=>rw[ao.bH]at h2;subst h2;cases (show w=Value.bool b from r2);simp only[qm];exact⟨EqAt.bool_bool a b,RcAt.bool_bool a b,RcNeAt.bool_bool a b⟩
   | int b=>rw[ao.aO]at h2;subst h2;obtain⟨t,rfl⟩:=r2;simp only[qm];exact⟨EqAt.bool_int a b t,RcAt.bool_int a b t,RcNeAt.bool_int a b t⟩
   | str b=>rw[ao.aU]at h2;subst h2;obtain⟨t,rfl⟩:=r2;exact⟨EqAt.bool_str a _ t,RcAt.bool_str a _ t,RcNeAt.bool_str a _ t⟩
   | tup bs =>
    obtain⟨b,ys,rfl,q1,q2⟩:=ao.aY.mp h2;cases (show w=Value.ref b from r2);obtain⟨its,_,p,_⟩:=I.tuple (q1.uY);exact⟨EqAt.bool_tuple a p (by omega),RcAt.bool_tuple a p (by omega),RcNeAt.bool_tuple a p (by omega)⟩
  | int a =>
   rw[ao.aO]at h1;subst h1;obtain⟨ta,rfl⟩:=r1;cases d2 with
   | loc _=>simp[flat]at f2
   | non=>rw[ao.bL]at h2;subst h2;cases (show w=Value.none from r2);exact⟨EqAt.int_none a ta,RcAt.int_none a ta,RcNeAt.int_none a ta⟩
   | bl b=>rw[ao.bH]at h2;subst h2;cases (show w=Value.bool b from r2);simp only[qm];exact⟨EqAt.int_bool a ta b,RcAt.int_bool a ta b,RcNeAt.int_bool a ta b⟩
   | int b=>rw[ao.aO]at h2;subst h2;obtain⟨t,rfl⟩:=r2;simp only[qm];exact⟨EqAt.int_int a ta b t,RcAt.int_int a ta b t,RcNeAt.int_int a ta b t⟩
   | str b=>rw[ao.aU]at h2;subst h2;obtain⟨t,rfl⟩:=r2;exact⟨EqAt.int_str a ta _ t,RcAt.int_str a ta _ t,RcNeAt.int_str a ta _ t⟩
   | tup bs =>
    obtain⟨b,ys,rfl,q1,q2⟩:=ao.aY.mp h2;cases (show w=Value.ref b from r2);obtain⟨its,_,p,_⟩:=I.tuple (q1.uY);exact⟨EqAt.int_tuple a ta p (by omega),RcAt.int_tuple a ta p (by omega),RcNeAt.int_tuple a ta p (by omega)⟩
  | str a =>
   rw[ao.aU]at h1;subst h1;obtain⟨ta,rfl⟩:=r1;cases d2 with
   | loc _=>simp[flat]at f2
   | non=>rw[ao.bL]at h2;subst h2;cases (show w=Value.none from r2);exact⟨EqAt.str_none _ ta,RcAt.str_none _ ta,RcNeAt.str_none _ ta⟩
   | bl b=>rw[ao.bH]at h2;subst h2;cases (show w=Value.bool b from r2);exact⟨EqAt.str_bool _ ta b,RcAt.str_bool _ ta b,RcNeAt.str_bool _ ta b⟩
   | int b=>rw[ao.aO]at h2;subst h2;obtain⟨t,rfl⟩:=r2;exact⟨EqAt.str_int _ ta b t,RcAt.str_int _ ta b t,RcNeAt.str_int _ ta b t⟩
   | str b =>
    rw[ao.aU]at h2;subst h2;obtain⟨t,rfl⟩:=r2;have e:(strOf a==strOf b)=qm (.str a) (.str b):=by
     rw[qm,mV,beq_iff_eq,beq_iff_eq];exact zkx
    rw[<-e];exact⟨EqAt.str_str _ ta _ t,RcAt.str_str _ ta _ t,RcNeAt.str_str _ ta _ t⟩
   | tup bs =>
    obtain⟨b,ys,rfl,q1,q2⟩:=ao.aY.mp h2;cases (show w=Value.ref b from r2);obtain⟨its,_,p,_⟩:=I.tuple (q1.uY);exact⟨EqAt.str_tuple _ ta p (by omega),RcAt.str_tuple _ ta p (by omega),RcNeAt.str_tuple _ ta p (by omega)⟩
  | tup as =>
   have h1':=h1;have h2':=h2;obtain⟨a,xs,rfl,q1,q2⟩:=ao.aY.mp h1;cases (show u=Value.ref a from r1);obtain⟨its,ra,p,_⟩:=I.tuple (q1.uY);cases d2 with
   | loc _=>simp[flat]at f2
   | non=>rw[ao.bL]at h2;subst h2;cases (show w=Value.none from r2);exact⟨EqAt.tuple_none p (by omega),RcAt.tuple_none p (by omega),RcNeAt.tuple_none p (by omega)⟩
   | bl b=>rw[ao.bH]at h2;subst h2;cases (show w=Value.bool b from r2);exact⟨EqAt.tuple_bool b p (by omega),RcAt.tuple_bool b p (by omega),RcNeAt.tuple_bool b p (by omega)⟩
   | int b=>rw[ao.aO]at h2;subst h2;obtain⟨t,rfl⟩:=r2;exact⟨EqAt.tuple_int b t p (by omega),RcAt.tuple_int b t p (by omega),RcNeAt.tuple_int b t p (by omega)⟩
   | str b=>rw[ao.aU]at h2;subst h2;obtain⟨t,rfl⟩:=r2;exact⟨EqAt.tuple_str _ t p (by omega),RcAt.tuple_str _ t p (by omega),RcNeAt.tuple_str _ t p (by omega)⟩
   | tup bs =>
    obtain⟨b,ys,rfl,g1,g2⟩:=ao.aY.mp h2;cases (show w=Value.ref b from r2);obtain⟨lZ,rb,p2,_⟩:=I.tuple (g1.uY);rw[zny]at hu;rw[Iw]at f1 f2;have items:=zH I as bs (A:=A.in1) f1 f2 (by show A.units+1+iM as bs<cLine;omega) q2 g2 ra rb;have la:as.length=its.toArray.size:=by rw[gK,q2.length,ra.length]
    have lb:bs.length=lZ.toArray.size:=by rw[gK,g2.length,rb.length]
    have e:((List.range (min its.toArray.size lZ.toArray.size)).all (eqJ as bs) && its.toArray.size==lZ.toArray.size)=qm (.tup as) (.tup bs):=by
     rw[qm,zij,la,lb]
    have rc:RcAt A s (.ref a) (.ref b) (qm (.tup as) (.tup bs)):=by
     rw[<-e];exact RcAt.tuples p p2 (by omega) λj j1 j2=>items j (by simpa using j1) (by simpa using j2)
    have ne:RcNeAt A s (.ref a) (.ref b) (!qm (.tup as) (.tup bs)):=by
     rw[<-e];exact RcNeAt.tuples p p2 (by omega) λj j1 j2=>items j (by simpa using j1) (by simpa using j2)
    refine⟨?_,rc,ne⟩;by_cases Ep:a=b
    ·subst Ep;have:(D.tup as)=.tup bs:=zkj I _ _ (by simpa using f1) (by simpa using f2) h1' h2';rw[<-this,zkb _ (by simpa using f1)];exact EqAt.same _
    ·exact EqAt.of_refs Ep rc
theorem zH (I:Inv X pins σ H s):∀(as bs:List D) {A:Around} {xs ys:List V} {us ws:List Value},d_ as=true->d_ bs=true->A.units+iM as bs<cLine->ak X.K μ H as xs->ak X.K μ H bs ys->Vals xs us->Vals ys ws ->
  ∀(j:Nat) (h1:j<us.length) (h2:j<ws.length),EqAt A s us[j] ws[j] (eqJ as bs j)
 | [],bs,A,xs,ys,us,ws,_,_,_,h1,_,r1,_,j,j1,_=>by
  rw[ak]at h1;subst h1;cases r1;simp at j1
 | a::as,[],A,xs,ys,us,ws,_,_,_,_,h2,_,r2,j,_,j2=>by
  rw[ak]at h2;subst h2;cases r2;simp at j2
 | a::as,b::bs,A,xs,ys,us,ws,f1,f2,hu,h1,h2,r1,r2,j,j1,j2=>by
  rw[ak]at h1 h2;obtain⟨v,r,rfl,q1,q2⟩:=h1;obtain⟨v',r',rfl,g1,g2⟩:=h2;cases r1 with
  | cons r1 t1 =>
  cases r2 with
  | cons r2 t2 =>
  rw[Vc,mq]at f1 f2;rw[zjs]at hu;cases j with
  | zero=>exact (IV I a b f1.1 f2.1 (by omega) q1 g1 r1 r2).1
  | succ j=>exact zH I as bs f1.2 f2.2 (by omega) q2 g2 t1 t2 j (by simpa using j1) (by simpa using j2)
end
end
noncomputable def rN (L:Nat):D->D->aq->Option Bool
 | .loc m,.loc n,st=>match az st m,az st n with
  | some a,some b=>if d_ a=true/\d_ b=true/\iM a b+1<L then some (o5 a b) else none
  | _,_=>none
 | .loc m,.non,st=>(az st m).map λ_=>false
 | .loc m,.tup b,st=>if 0<L then (az st m).map λ_=>false else none
 | .non,.loc n,st=>(az st n).map λ_=>false
 | .tup a,.loc n,st=>if 0<L then (az st n).map λ_=>false else none
 | d1,d2,_=>if flat d1=true/\flat d2=true/\eY d1 d2<L then some (qm d1 d2) else none
section
variable {X:Cx}{pins:List (Addr×Obj)}{σ:L2.St}{μ:List Addr}{H:Hp}{s:Shared}{L:Nat}
theorem Du {as bs:List D}{A:Around}{xs ys:List V}{a b:Addr}(I:Inv X pins σ H s)(f1:d_ as=true)(f2:d_ bs=true)(hu:A.units+1+iM as bs<cLine)(h1:ak X.K μ H as xs)(h2:ak X.K μ H bs ys)
  (q1:uW X.K H a xs) (q2:uW X.K H b ys):RcAt A s (.ref a) (.ref b) (o5 as bs)/\RcNeAt A s (.ref a) (.ref b) (!o5 as bs):=by
 obtain⟨its,ra,p,_⟩:=I.list q1;obtain⟨lZ,rb,p2,_⟩:=I.list q2;have la:as.length=its.toArray.size:=by rw[gK,h1.length,ra.length]
 have lb:bs.length=lZ.toArray.size:=by rw[gK,h2.length,rb.length]
 by_cases hl:its.toArray.size=lZ.toArray.size
 ·have items:=zH I as bs (A:=A.in1) f1 f2 hu h1 h2 ra rb;have e:((List.range its.toArray.size).all (eqJ as bs))=o5 as bs:=by
   rw[zij,la,lb,<-hl,Nat.min_self];simp
  rw[<-e];exact⟨RcAt.lists p.isList p2.isList hl (by omega) λj j1 j2=>items j (by simpa using j1) (by simpa using j2),RcNeAt.lists p.isList p2.isList hl (by omega) λj j1 j2=>items j (by simpa using j1) (by simpa using j2)⟩
 ·have e:o5 as bs=false:=by
   rw[zij,la,lb,Bool.and_eq_false_iff];exact .inr (by simpa using hl)
  have hl':(its.toArray.size != lZ.toArray.size)=true:=by simpa using hl
  rw[e];exact⟨RcAt.lists_lengths p.isList p2.isList hl' (by omega),RcNeAt.lists_lengths p.isList p2.isList hl' (by omega)⟩
theorem I_ {d1 d2:D}{st:aq}{k:Bool}{A:Around}{x y:V}{u w:Value}(I:Inv X pins σ H s)(hs:aV X.K μ H st)(e:rN L d1 d2 st=some k)(hu:A.units+L<cLine)(h1:ao X.K μ H d1 x)(h2:ao X.K μ H d2 y)(r1:RelV x u)(r2:RelV y w) :
  RcAt A s u w k/\RcNeAt A s u w (!k):=by
 have plain:∀{d1 d2:D},ao X.K μ H d1 x->ao X.K μ H d2 y->(if flat d1=true/\flat d2=true/\eY d1 d2<L then some (qm d1 d2) else none)=some k->RcAt A s u w k/\RcNeAt A s u w (!k):=λ{d1 d2} h1 h2 e=>by
  split at e
  ·rename_i c;cases e;exact (IV I d1 d2 c.1 c.2.1 (by omega) h1 h2 r1 r2).2
  ·cases e
 have list:∀{n:Nat} {v:V} {z:Value} {ds:List D},ao X.K μ H (.loc n) v->RelV v z->az st n=some ds->∃p its,z=.ref p/\s.heap.IsList p its:=λ{n v z ds} h r q=>by
  obtain⟨p,q1,rfl⟩:=ao.aN.mp h;obtain⟨p',xs,g1,g2,g3⟩:=hs.items q;rw[q1]at g1;cases g1;cases (show z=Value.ref p from r);obtain⟨its,_,pl,_⟩:=I.list g2;exact⟨p,_,rfl,pl.isList⟩
 have tuple:∀{bs:List D} {v:V} {z:Value},ao X.K μ H (.tup bs) v->RelV v z->∃p its,z=.ref p/\s.heap.IsTuple p its:=λ{bs v z} h r=>by
  obtain⟨p,xs,rfl,q1,_⟩:=ao.aY.mp h;cases (show z=Value.ref p from r);obtain⟨its,_,pl,_⟩:=I.tuple (q1.uY);exact⟨p,_,rfl,pl⟩
 match d1,d2,e,h1,h2 with
 | .loc m,.loc n,e,h1,h2 =>
  simp only[rN]at e;cases e1:az st m with
  | none=>rw[e1]at e;cases e
  | some as =>
   cases e2:az st n with
   | none=>rw[e1,e2]at e;cases e
   | some bs =>
    rw[e1,e2]at e;dsimp only at e
    split at e
    ·rename_i c;cases e;obtain⟨p,q1,rfl⟩:=ao.aN.mp h1;obtain⟨p',xs,g1,g2,g3⟩:=hs.items e1;rw[q1]at g1;cases g1;obtain⟨q,q2,rfl⟩:=ao.aN.mp h2;obtain⟨q',ys,k1,k2,k3⟩:=hs.items e2;rw[q2]at k1;cases k1;cases (show u=Value.ref p from r1);cases (show w=Value.ref q from r2);exact Du I c.1 c.2.1 (by omega) g3 k3 g2 k2
    ·cases e
 | .loc m,.non,e,h1,h2 =>
  simp only[rN]at e;cases e1:az st m with
  | none=>rw[e1]at e;cases e
  | some as =>
   rw[e1]at e;cases e;obtain⟨p,its,rfl,pl⟩:=list h1 r1 e1;rw[ao.bL]at h2;subst h2;cases (show w=Value.none from r2);exact⟨RcAt.list_none pl (by omega),RcNeAt.list_none pl (by omega)⟩
 | .non,.loc n,e,h1,h2 =>
  simp only[rN]at e;cases e1:az st n with
  | none=>rw[e1]at e;cases e
  | some as =>
   rw[e1]at e;cases e;obtain⟨p,its,rfl,pl⟩:=list h2 r2 e1;rw[ao.bL]at h1;subst h1;cases (show u=Value.none from r1);exact⟨RcAt.none_list pl (by omega),RcNeAt.none_list pl (by omega)⟩
 | .loc m,.tup bs,e,h1,h2 =>
  simp only[rN]at e
  split at e
  ·cases e1:az st m with
   | none=>rw[e1]at e;cases e
   | some as =>
    rw[e1]at e;cases e;obtain⟨p,its,rfl,pl⟩:=list h1 r1 e1;obtain⟨q,lZ,rfl,pt⟩:=tuple h2 r2;exact⟨RcAt.list_tuple pl pt (by omega),RcNeAt.list_tuple pl pt (by omega)⟩
  ·cases e
 | .tup as,.loc n,e,h1,h2 =>
  simp only[rN]at e
  split at e
  ·cases e1:az st n with
   | none=>rw[e1]at e;cases e
   | some as =>
    rw[e1]at e;cases e;obtain⟨p,its,rfl,pl⟩:=list h2 r2 e1;obtain⟨q,lZ,rfl,pt⟩:=tuple h1 r1;exact⟨RcAt.tuple_list pt pl (by omega),RcNeAt.tuple_list pt pl (by omega)⟩
  ·cases e
 | .non,.non,e,h1,h2=>exact plain h1 h2 (by simpa only[rN] using e)
 | .non,.bl _,e,h1,h2=>exact plain h1 h2 (by simpa only[rN] using e)
 | .non,.int _,e,h1,h2=>exact plain h1 h2 (by simpa only[rN] using e)
 | .non,.str _,e,h1,h2=>exact plain h1 h2 (by simpa only[rN] using e)
 | .non,.tup _,e,h1,h2=>exact plain h1 h2 (by simpa only[rN] using e)
 | .bl _,d2,e,h1,h2=>exact plain h1 h2 (by simpa only[rN] using e)
 | .int _,d2,e,h1,h2=>exact plain h1 h2 (by simpa only[rN] using e)
 | .str _,d2,e,h1,h2=>exact plain h1 h2 (by simpa only[rN] using e)
 | .tup _,.non,e,h1,h2=>exact plain h1 h2 (by simpa only[rN] using e)
 | .tup _,.bl _,e,h1,h2=>exact plain h1 h2 (by simpa only[rN] using e)
 | .tup _,.int _,e,h1,h2=>exact plain h1 h2 (by simpa only[rN] using e)
 | .tup _,.str _,e,h1,h2=>exact plain h1 h2 (by simpa only[rN] using e)
 | .tup _,.tup _,e,h1,h2=>exact plain h1 h2 (by simpa only[rN] using e)
 | .loc _,.bl _,e,h1,h2=>simp[rN,flat]at e
 | .loc _,.int _,e,h1,h2=>simp[rN,flat]at e
 | .loc _,.str _,e,h1,h2=>simp[rN,flat]at e
noncomputable def vG (L:Nat):D->D->aq->R D:=λd1 d2 st=>match rN L d1 d2 st with | some k=>.ok (.bl k) st | none=>.bad
noncomputable def yg (L:Nat):D->D->aq->R D:=λd1 d2 st=>match rN L d1 d2 st with | some k=>.ok (.bl (!k)) st | none=>.bad
theorem Ex (hu:X.A.units+L<cLine):dG X (compareOp .Eq) (rM X (vG L)):=by
 rintro pins s σ H x y v u Q I rx ry ⟨μ,st,dx,dy,hs,hx,hy,hp⟩;unfold vG at hp;cases e:rN L dx dy st with
 | none=>rw[e]at hp;exact hp.elim
 | some k =>
  rw[e]at hp;exact (I_ I hs e hu hx hy rx ry).1 X.prog X.w X.xe _ ⟨.bl k,H,I,rfl,hp.ret hs (ao.bH.mpr rfl)⟩
theorem WM (hu:X.A.units+L<cLine):dG X (compareOp .NotEq) (rM X (yg L)):=by
 rintro pins s σ H x y v u Q I rx ry ⟨μ,st,dx,dy,hs,hx,hy,hp⟩;unfold yg at hp;cases e:rN L dx dy st with
 | none=>rw[e]at hp;exact hp.elim
 | some k =>
  rw[e]at hp;exact (I_ I hs e hu hx hy rx ry).2 X.prog X.w X.xe _ ⟨.bl (!k),H,I,rfl,hp.ret hs (ao.bH.mpr rfl)⟩
end
end M
namespace M
open PySem PySem.Spec L2
noncomputable def iI (T:String)(d:D)(st:aq):Bool:=match d with
 | .str _=>T == "str"
 | .loc n=>(match st[n]? with
  | some (.lst _)=>T == "list"
  | some (.frz _)=>T == "list"
  | some (.dic _)=>T == "dict"
  | some (.dkc _)=>T == "dict"
  | _=>false)
 | _=>false
section
variable {X:Cx}{e a b c o:Expr}{es:List Expr}{ma mb mc mo:ME}{mA:MA}{pos p2 p apos iK:Pos}{T id:String}{name:Str}{g:D->List D->aq->R D}
theorem Mw {μ:List Addr}{H:Hp}{d:D}{st:aq}{v:V}(h:iI T d st=true)(hs:aV X.K μ H st)(hv:ao X.K μ H d v):tyV X.K T v H:=by
 cases d with
 | str cs=>rw[ao.aU]at hv;subst hv;exact eq_of_beq h
 | loc n =>
  obtain⟨p,q1,rfl⟩:=ao.aN.mp hv;simp only[iI]at h;cases e:st[n]? with
  | none=>rw[e]at h;cases h
  | some o =>
   rw[e]at h;obtain⟨p',r1,r2⟩:=hs.at_ n o e;rw[q1]at r1;cases r1;cases o with
   | lst ds=>obtain⟨xs,r3,_⟩:=r2;exact .inl ⟨eq_of_beq h,xs,uW.of r3⟩
   | frz ds=>obtain⟨xs,r3,_⟩:=r2;exact .inl ⟨eq_of_beq h,xs,r3.sqL⟩
   | dic ds=>obtain⟨xs,r3,_⟩:=r2;exact .inr (.inr (.inl ⟨eq_of_beq h,.inr ⟨xs,r3⟩⟩))
   | dkc ds=>obtain⟨xs,r3,_⟩:=r2;exact .inr (.inr (.inl ⟨eq_of_beq h,.inl ⟨xs,r3⟩⟩))
   | _=>cases h
 | _=>simp[iI]at h
noncomputable def cV (T:String)(g:D->List D->aq->R D)(mo:ME)(mA:MA):ME:=λenv st=>(mo env st).bind λx st1=>if iI T x st1=true then (mA env st1).bind λxs st2=>g x xs st2 else .bad
theorem yV (pa:PlainAttrs T)(slot:Slot T name id)(ZL:typeOf (.builtin id)=pure (.type "method_descriptor"))(hm:yH X id (Rm X g))(ho:JE X o mo)(ha:JA X (e::es) mA)
  (Ij:attributeBase o name X.env (eval o X.env)=eval o X.env:=by rfl)
  (TY:((backTo iK (starEach (e::es) X.env)).all (λx=>!x.1) && (backToKw iK (keywordEach [] X.env)).all (λx=>x.1.isSome)
   && decide ((e::es).length+([]:List Keyword).length+(if ([]:List Keyword).isEmpty then 0 else 1)<30))=true:=by rfl)
  (hline:(apos.endLine==iK.line)=true:=by rfl) (hs:starEach (e::es) X.env=(false,eval e X.env)::starEach es X.env:=by rfl) (zB:(backTo iK (starEach es X.env)).any (·.1)=false:=by rfl):JE X (.Call (.Attribute o name apos) (e::es) [] iK) (cV T g mo mA):=by
 refine JE.of (Y_ pa slot ZL hm ho ha Ij TY hline hs zB) fun σ H Q zz=>?_;obtain⟨μ,env,st,hE,hs,hp⟩:=zz;refine⟨μ,env,st,hE,hs,(cg.bind hp).imp ?_⟩;rintro x H1 ⟨μ1,st1,d,g1,bQ,hx,aZ⟩;dsimp only at aZ
 split at aZ
 ·rename_i hT;refine⟨Mw hT bQ hx,μ1,env,st1,hE.mono g1,bQ,(cg.bind aZ).imp ?_⟩;rintro xs H2 ⟨μ2,st2,ds,g2,fV,uB,cZ⟩;exact⟨μ2,st2,d,ds,fV,hx.mono g2 _,uB,cZ⟩
 ·exact aZ.elim
noncomputable def bU:D->List D->aq->R D
 | .loc n,[d],st=>match st[n]? with
  | some (.lst ds)=>if ds.length<1000000 then .ok .non (st.set n (.lst (ds++[d]))) else .bad
  | _=>.bad
 | _,_,_=>.bad
theorem QG {μ:List Addr}{H:Hp}{st:aq}{n:Nat}{ds Um:List D}{p:Addr}{xs ys:List V}{Q:VK}(hp:cg X μ H (q9 X) Q (.ok .non (st.set n (.lst Um))))(hs:aV X.K μ H st)(e:st[n]? = some (.lst ds))(hq:μ[n]? = some p)(hx:H p=some (.lst xs))(hy:ak X.K μ H Um ys) :
  Q .non (upd H p (.lst ys)):=by
 obtain⟨g,oZ⟩:=wZ hs e hq hx hy;exact hp _ _ μ g oZ (ao.bL.mpr rfl)
theorem Qx:yH X "list.append" (Rm X bU):=by
 refine yH.weak zk9 ?_;rintro x xs H Q ⟨μ,st,d,ds,hs,hx,uB,hp⟩;unfold bU at hp
 split at hp
 ·rename_i n d' ;cases e:st[n]? with
  | none=>rw[e]at hp;exact hp.elim
  | some mo =>
   cases mo with
   | lst l =>
    rw[e]at hp;dsimp only at hp
    split at hp
    ·rename_i hl;obtain⟨p,q1,rfl⟩:=ao.aN.mp hx;obtain⟨y,rfl,q2⟩:=ak.one uB;obtain⟨p',ys,r1,r2,r3⟩:=hs.lst e;rw[q1]at r1;cases r1;refine⟨p,ys,y,rfl,rfl,r2,by rw[<-r3.length];exact gP hl (by decide),QG hp hs e q1 r2 (r3.append (ak.cons q2 ak.nil))⟩
    ·exact hp.elim
   | _=>rw[e]at hp;exact hp.elim
 ·exact hp.elim
end
section
variable {X:Cx}{e a b c l:Expr}{es:List Expr}{ma mb mc:ME}{mA:MA}{pos p2 p QV:Pos}{μ:List Addr}{H:Hp}
noncomputable def Zq (st:aq)(n:Nat):Option (List D×MO):=match st[n]? with
 | some (.lst ds)=>some (ds,.lst ds)
 | some (.frz ds)=>some (ds,.frz ds)
 | _=>none
end
noncomputable def jZ {α β:Type}(K:PySem.W.Frag)(μ:List Addr)(H:Hp)(rel:Rel α β)(Q:β->Hp->Prop)(r:R α):Prop:=match r with
 | .ok a st=>∀(b:β) (H':Hp) (μ':List Addr),bC μ H μ' H'->aV K μ' H' st->rel μ' H' a b->Q b H'
 | _=>False
noncomputable def tK {α β:Type}(K:PySem.W.Frag)(rel:Rel α β)(m:bA->aq->R α):L2.St->Hp->(β->Hp->Prop)->Prop:=fun σ H Q=>∃μ env st,dR K μ H env σ/\aV K μ H st/\jZ K μ H rel Q (m env st)
noncomputable def tKG (K:PySem.W.Frag)(m:MG):TG:=λv σ H Q=>∃μ env st d,dR K μ H env σ/\aV K μ H st/\ao K μ H d v/\jZ K μ H (fun μ H env σ=>dR K μ H env σ) Q (m d env st)
theorem jZ.post {α β:Type}{X:Cx}{μ:List Addr}{H:Hp}{rel:Rel α β}{Q:β->Hp->Prop}{r:R α}(h:jZ X.K μ H rel Q r):cg X μ H rel Q r:=by
 cases r with
 | ok a st=>exact h
 | err x st=>exact h.elim
 | bad=>exact h.elim
theorem jZ.mono {α β:Type}{K:PySem.W.Frag}{μ μ1:List Addr}{H H1:Hp}{rel:Rel α β}{Q:β->Hp->Prop}{r:R α}(g:bC μ H μ1 H1)(h:jZ K μ H rel Q r):jZ K μ1 H1 rel Q r:=by
 cases r with
 | ok a st=>exact λb H' μ' g'=>h b H' μ' (g.trans g')
 | err x st=>exact h.elim
 | bad=>exact h.elim
noncomputable def jY (capt:List (Option Nat))(env:bA):bA:=capt.map λo=>o.bind λj=>(env[j]?).join
open Classical in
noncomputable def ig (g:MG)(t:MT)(e:ME)(gs:List (Nat×MO))(n:Nat):List D->bA->aq->R D
 | [],_,st=>if vQ gs st then .ok (.loc n) st else .bad
 | d::r,env,st=>if vQ gs st then (g d env st).bind λbM st1=>(t bM st1).bind λok st2=>if ok then (e bM st2).bind λy o9=>(match o9[n]? with
   | some (.lst xs)=>if xs.length<1000000 then ig g t e gs n r bM (o9.set n (.lst (xs++[y]))) else .bad
   | _=>.bad) else ig g t e gs n r bM st2 else .bad
noncomputable def fO (capt:List (Option Nat))(mi:MI)(g:MG)(t:MT)(e:ME):ME:=λenv st=>(mi env st).bind λs st1=>(ig g t e s.2 st1.length s.1 (jY capt env) (st1++[.lst []])).sure
noncomputable def tZ:MT:=λ_ st=>.ok true st
section
variable {X:Cx}{elt tg iter c:Expr}{ifs:List Expr}{scope:Scope}{pos:Pos}{N:List Str}{capt:List (Option Nat)}{mi:MI}{g:MG}{t:MT}{me:ME}
theorem dR.taken {K:PySem.W.Frag}{μ:List Addr}{H:Hp}{env:bA}{σ:L2.St}(cp:List (Option Nat))(h:dR K μ H env σ):dR K μ H (jY cp env) (lu cp σ):=by
 refine⟨by simp[jY,lu],λi d e=>?_⟩;unfold jY at e;unfold lu;rw[gF]at e ⊢;cases q:cp[i]? with
 | none=>rw[q]at e;cases e
 | some o =>
  rw[q]at e;cases o with
  | none=>cases e
  | some j =>
   have e':(env[j]?).join=some d:=by simpa using e
   have e2:env[j]? = some (some d):=by
    cases z:env[j]? with
    | none=>rw[z]at e';cases e'
    | some y=>rw[z]at e';cases e';rfl
   obtain⟨v,h1,h2⟩:=h.at_ j d e2;exact⟨v,by simp[h1],h2⟩
theorem jZ.val {α β γ:Type}{K:PySem.W.Frag}{μ:List Addr}{H:Hp}{rel:Rel α β}{r:R α}{f:α->aq->R γ}{G:List Addr->Hp->R γ->Prop}(hG:∀μ μ1 H H1 r,bC μ H μ1 H1->G μ H r->G μ1 H1 r)(hb:∀μ H,¬ G μ H .bad)(he:∀μ H x st,¬ G μ H (.err x st))
  (h:G μ H (r.bind f)):jZ K μ H rel (λb H1=>∃μ1 st1 a,bC μ H μ1 H1/\aV K μ1 H1 st1/\rel μ1 H1 a b/\G μ1 H1 (f a st1)) r:=by
 cases r with
 | ok a st=>exact λb H' μ' g h1 h2=>⟨μ',st,a,g,h1,h2,hG _ _ _ _ _ g h⟩
 | err x st=>exact (he _ _ _ _ h).elim
 | bad=>exact (hb _ _ h).elim
noncomputable def yJ (X:Cx)(Q:VK):List Addr->Hp->R D->Prop:=fun μ H r=>jZ X.K μ H (q9 X) Q r
theorem Fx {σ:L2.St}{H:Hp}{Q:VK}(h:tM X (fO capt mi g t me) σ H Q):Ot capt (tMI X mi) (tKG X.K g) (tK X.K Cd t) (tK X.K (q9 X) me) σ H Q:=by
 obtain⟨μ,env,st,hE,hs,hp⟩:=h;refine⟨μ,env,st,hE,hs,(cg.bind hp).imp ?_⟩;rintro J H1 ⟨μ1,st1,s,g1,bQ,hJ,aZ⟩;dsimp only at aZ;have cZ:yJ X Q μ1 H1 (ig g t me s.2 st1.length s.1 (jY capt env) (st1++[.lst []])):=by
  cases hr:ig g t me s.2 st1.length s.1 (jY capt env) (st1++[.lst []]) with
  | ok d st2=>rw[hr]at aZ;exact aZ
  | err y st2=>rw[hr]at aZ;exact aZ.elim
  | bad=>rw[hr]at aZ;exact aZ.elim
 have mG:∀μ μ1 H H1 r,bC μ H μ1 H1->yJ X Q μ H r->yJ X Q μ1 H1 r:=fun μ μ1 H H1 r g h=>jZ.mono g h;have nb:∀μ H,¬ yJ X Q μ H .bad:=fun μ H h=>h;have ne:∀μ H x st,¬ yJ X Q μ H (.err x st):=fun μ H x st h=>h;intro D hD;have gD:bC μ1 H1 (μ1++[D]) (upd H1 D (.lst [])):=bC.new hD;have sD:aV X.K (μ1++[D]) (upd H1 D (.lst [])) (st1++[.lst []]):=bQ.new hD ⟨[],uv,ak.nil⟩;have nD:(μ1++[D])[st1.length]? = some D:=by rw[<-bQ.len];simp
 refine⟨λi k σ' H'=>∃μ2 bw st2,bC (μ1++[D]) (upd H1 D (.lst [])) μ2 H'/\dR X.K μ2 H' bw σ'/\aV X.K μ2 H' st2/\yJ X Q μ2 H' (ig g t me s.2 st1.length (s.1.drop i) bw st2)/\i<=s.1.length/\k=s.1.length - i,
  ⟨_,μ1++[D],jY capt env,_,.refl _ _,(hE.mono (g1.trans gD)).taken capt,sD,by simpa using mG _ _ _ _ _ gD cZ,mQ _,rfl⟩,?_⟩
 rintro i k σ2 H2 ⟨μ2,bw,st2,g2,Qa,fV,yN,hi,rfl⟩;have atD:μ2[st1.length]? = some D:=g2.get nD;by_cases yQ:i<s.1.length
 ·have e1:s.1.drop i=s.1[i]::s.1.drop (i+1):=pR yQ;rw[e1,ig]at yN;by_cases ok:vQ s.2 st2
  ·rw[if_pos ok]at yN;obtain⟨q1,q2⟩:=(hJ H2 μ2 st2 (gD.trans g2) fV ok).1 i s.1[i] (gM yQ);refine .inr ⟨q1,fun σ' H'=>∃μ3 xJ o9,bC (μ1++[D]) (upd H1 D (.lst [])) μ3 H'/\dR X.K μ3 H' xJ σ'/\aV X.K μ3 H' o9/\yJ X Q μ3 H' (ig g t me s.2 st1.length (s.1.drop (i+1)) xJ o9),?_,?_⟩
   ·rintro σ' H' ⟨μ3,xJ,o9,g3,Ue,xX,hp4⟩;exact⟨s.1.length - (i+1),by omega,μ3,xJ,o9,g3,Ue,xX,hp4,by omega,rfl⟩
   ·intro x H3 hx;obtain⟨g3,xX,hd⟩:=q2 x H3 hx;refine⟨μ2,bw,st2,s.1[i],Qa.mono g3,xX,hd,?_⟩;have w1:=jZ.val (K:=X.K) (rel:=fun μ H env σ=>dR X.K μ H env σ) mG nb ne (mG _ _ _ _ _ g3 yN);cases Az:g s.1[i] bw st2 with
    | bad=>rw[Az]at w1;exact w1
    | err y z=>rw[Az]at w1;exact w1
    | ok aam st4 =>
     rw[Az]at w1;intro σ4 H4 μ4 g4 hs4 hE4;obtain⟨ac4,Ys,uE,g4',abV,M_,hp4⟩:=w1 σ4 H4 μ4 g4 hs4 hE4;refine⟨ac4,uE,Ys,M_,abV,?_⟩;have w2:=jZ.val (K:=X.K) (rel:=Cd) mG nb ne hp4;cases rG:t uE Ys with
     | bad=>rw[rG]at w2;exact w2
     | err y z=>rw[rG]at w2;exact w2
     | ok b5 JV =>
      rw[rG]at w2;intro b H5 μ5 g5 ZV hb5;obtain⟨aaG,Kv,b5',g5',ZS,ach,hp5⟩:=w2 b H5 μ5 g5 ZV hb5;subst ach;have gg:bC (μ1++[D]) (upd H1 D (.lst [])) aaG H5:=((g2.trans g3).trans g4').trans g5';cases b5' with
      | false=>exact zu ⟨aaG,uE,Kv,gg,M_.mono g5',ZS,by simpa using hp5⟩
      | true =>
       refine zr ⟨aaG,uE,Kv,M_.mono g5',ZS,?_⟩;have ab2:yJ X Q aaG H5 ((me uE Kv).bind λy o9=>(match o9[st1.length]? with
        | some (.lst xs)=>if xs.length<1000000 then ig g t me s.2 st1.length (s.1.drop (i+1)) uE (o9.set st1.length (.lst (xs++[y]))) else .bad
        | _=>.bad)):=by simpa using hp5
       have w3:=jZ.val (K:=X.K) (rel:=q9 X) mG nb ne ab2;cases ZW:me uE Kv with
       | bad=>rw[ZW]at w3;exact w3
       | err y z=>rw[ZW]at w3;exact w3
       | ok y6 st6 =>
        rw[ZW]at w3;intro v H6 μ6 g6 hs6 hv6;obtain⟨acK,aa_,y6',g6',ZR,abS,MN⟩:=w3 v H6 μ6 g6 hs6 hv6;have gg6:=gg.trans g6';have aay:acK[st1.length]? = some D:=gg6.get nD;cases e6:aa_[st1.length]? with
        | none=>rw[e6]at MN;exact MN.elim
        | some mo =>
         cases mo with
         | lst xs =>
          rw[e6]at MN;dsimp only at MN
          split at MN
          ·rename_i hl;obtain⟨p',ys,r1,r2,r3⟩:=ZR.lst e6;rw[aay]at r1;cases r1;obtain⟨g7,hs7⟩:=wZ ZR e6 aay r2 (r3.append (ak.cons abS ak.nil));refine⟨ys,r2,by rw[<-r3.length];exact gP hl (by decide),acK,uE,_,gg6.trans g7,((M_.mono g5').mono g6').mono g7,hs7,mG _ _ _ _ _ g7 MN⟩
          ·exact MN.elim
         | _=>rw[e6]at MN;exact MN.elim
  ·rw[if_neg ok]at yN;exact yN.elim
 ·have e1:s.1.drop i=[]:=n6 (by omega);rw[e1,ig]at yN;have e2:i=s.1.length:=by omega
  by_cases ok:vQ s.2 st2
  ·rw[if_pos ok]at yN;refine .inl ⟨by rw[e2];exact (hJ H2 μ2 st2 (gD.trans g2) fV ok).2,?_⟩;exact yN _ H2 μ2 (.refl _ _) fV (ao.aN.mpr ⟨D,atD,rfl⟩)
  ·rw[if_neg ok]at yN;exact yN.elim
theorem Y7 {X':Cx}{e:Expr}{m:ME}(h:JE X' e m):PE X' e (tK X'.K (q9 X') m):=by
 refine λpins s σ H Q I zz=>?_;obtain⟨μ,env,st,a,b,c⟩:=zz;exact h pins s σ H Q I ⟨μ,env,st,a,b,c.post⟩
theorem Y5 {X':Cx}{e:Expr}{m:MG}(h:JG X' e m):PG X' e (tKG X'.K m):=by
 refine λpins s σ H v u Q I r zz=>?_;obtain⟨μ,env,st,d,a,b,b2,c⟩:=zz;exact h pins s σ H v u Q I r ⟨μ,env,st,d,a,b,b2,c.post⟩
theorem YW {X':Cx}{e:Expr}{m:MT}(h:JT X' e m):PT X' e (tK X'.K Cd m):=by
 refine λpins s σ H Q I zz=>?_;obtain⟨μ,env,st,a,b,c⟩:=zz;exact h pins s σ H Q I ⟨μ,env,st,a,b,c.post⟩
noncomputable def JTs (X:Cx)(ifs:List Expr)(m:MT):Prop:=Wx X ifs (tK X.K Cd m)
theorem zk3 {X':Cx}:JTs X' [] tZ:=by
 refine λpins s σ H Q I zz=>?_;obtain⟨μ,env,st,a,b,c⟩:=zz;exact K9 pins s σ H Q I (c true H μ (.refl _ _) b rfl)
theorem Mq {X':Cx}{m:MT}(h:JT X' c m):JTs X' [c] m:=K8 (YW h)
noncomputable def JB (sc sc0:Scope):Prop:=∀x∈sc.names,x.2=.free->sc0.names.lookup x.1=some .cell\/sc0.names.lookup x.1=some .free
instance (sc sc0:Scope):Decidable (JB sc sc0):=inferInstanceAs (Decidable (∀x∈sc.names,x.2=.free->sc0.names.lookup x.1=some .cell\/sc0.names.lookup x.1=some .free))
theorem W8 {sc0:Scope}(hi:JI X tg iter mi)(S:lV scope)(M5:JB scope sc0)(yr:rC X scope capt N)(hc:X.calm=true)
  (hg:∀cl C fp s H,JG (fC X N scope cl C fp s H) tg g) (ht:∀cl C fp s H,JTs (fC X N scope cl C fp s H) ifs t) (he:∀cl C fp s H,JE (fC X N scope cl C fp s H) elt me)
  (h0:X.env.scope=sc0:=by rfl) (hs:∀x,foldedSetIterable iter X.env x=pure x:=by intro _;rfl):JE X (.ListComp elt [⟨tg,iter,ifs,0⟩] scope pos) (fO capt mi g t me) :=
 JE.of (Lp (g:=tKG X.K g) (tt:=tK X.K Cd t) (te:=tK X.K (q9 X) me) hi S (by subst h0;exact M5) yr hc (λcl C fp s H=>Y5 (hg cl C fp s H)) ht (λcl C fp s H=>Y7 (he cl C fp s H)) hs) fun σ H Q h=>Fx h
end
theorem dW:∀(env:bA) (st:aq) (as:List D) (st1:aq),au env st=.ok as st1->as.length=([]:List Expr).length:=by
 intro env st as st1 h;cases h;rfl
theorem bG {e:Expr}{es:List Expr}{a:ME}{r:MA}(h:∀(env:bA) (st:aq) (as:List D) (st1:aq),r env st=.ok as st1->as.length=es.length) :
  ∀(env:bA) (st:aq) (as:List D) (st1:aq),aj a r env st=.ok as st1->as.length=(e::es).length:=by
 intro env st as st1 q;unfold aj at q;cases h1:a env st with
 | bad=>rw[h1]at q;cases q
 | err x s=>rw[h1]at q;cases q
 | ok x s =>
  rw[h1,R.aG]at q;cases h2:r env s with
  | bad=>rw[h2]at q;cases q
  | err x s=>rw[h2]at q;cases q
  | ok xs s2 =>
   rw[h2,R.aG]at q;cases q;rw[g8,g8,h env s xs _ h2]
theorem iJ {A:Around}{k:Nat}(hr:dC k A):A.units+200<cLine:=by have:=hr.un;omega
noncomputable def fuel:Nat:=1000000
end M
namespace M
open L2
theorem vP {st:aq}{d:D}(h:under st.length d):gc st (.ok d st)=.ok d st:=by
 have:=Qo (st:=st) (g:=[]) h;simpa using this
theorem Qp {st:aq}{o:MO}(h:aJ st.length o):gc st (.ok (.loc st.length) (st++[o]))=.ok (.loc st.length) (st++[o]):=by
 have:=WK (st:=st) (g:=[]) (g':=[]) h;simpa using this
theorem rO {st l:aq}{n:Nat}{o:MO}(h:st[n]? = some o):(st++l)[n]? = some o:=by rw[gQ (gj.mp h).1];exact h
@[simp] theorem zke {st l:aq}:(st++l)[st.length]? = l[0]?:=by rw[gR (gh _)];simp
@[simp] theorem FN {st l:aq} {o:MO}:(st++l).set st.length o=st++l.set 0 o:=by rw[mL _ _ (gh _)];simp
@[simp] theorem Tc {st l:aq}:az (st++l) st.length=az l 0:=by unfold az;rw[zke]
@[simp] theorem Pa {o:MO} {l:aq}:az (o::l) 0=(match o with | .lst ds=>some ds | .frz ds=>some ds | _=>none):=by
 unfold az;cases o<;>rfl
theorem Ey {α:Type}(xs:List α)(k:Nat):sy xs (k:Int)=xs[k]?:=by
 unfold sy Ar;rw[if_pos (by omega)];by_cases h:k<xs.length
 ·rw[if_pos (by omega)];simp
 ·rw[if_neg (by omega)];simp;omega
theorem Dt {g:MG}{b:MS}{gs:List (Nat×MO)}{items:List D}(I:List D->bA->aq->Prop){env:bA}{st:aq}(h0:I [] env st)
  (step:∀pre d post env st,items=pre++d::post->I pre env st->vQ gs st/\∃bM st1,g d env st=.ok bM st1/\∃bw st2,(b bM st1=.ok (.nx bw) st2\/b bM st1=.ok (.cn bw) st2)/\I (pre++[d]) bw st2)
  (xF:∀env st,I items env st->vQ gs st):∃di st',cW g b gs items env st=.ok (.nx di) st'/\I items di st':=by
 have key:∀(post pre:List D) (env:bA) (st:aq),items=pre++post->I pre env st->∃di st',cW g b gs post env st=.ok (.nx di) st'/\I items di st':=by
  intro post
  induction post with
  | nil =>
   intro pre env st e hI;have:items=pre:=by simpa using e
   subst this;exact⟨env,st,by rw[cW,if_pos (xF env st hI)],hI⟩
  | cons d post ih =>
   intro pre env st e hI;obtain⟨ok,bM,st1,h1,bw,st2,h2,hI2⟩:=step pre d post env st e hI;obtain⟨di,st',h3,h4⟩:=ih (pre++[d]) bw st2 (by simp[e]) hI2;refine⟨di,st',?_,h4⟩;rw[cW,if_pos ok,h1,R.aG];rcases h2 with h2 | h2<;>(rw[h2,R.aG];exact h3)
 exact key items [] env st rfl h0
theorem Ds {g:MG}{b:MS}{gs:List (Nat×MO)}{items:List D}(I:List D->bA->aq->Prop)(Q:Out->aq->Prop){env:bA}{st:aq}(h0:I [] env st)
  (step:∀pre d post env st,items=pre++d::post->I pre env st->vQ gs st/\∃bM st1,g d env st=.ok bM st1/\((∃bw st2,(b bM st1=.ok (.nx bw) st2\/b bM st1=.ok (.cn bw) st2)/\I (pre++[d]) bw st2) \/
   (∃bw st2,b bM st1=.ok (.bk bw) st2/\Q (.nx bw) st2)\/∃d2 st2,b bM st1=.ok (.rt d2) st2/\Q (.rt d2) st2))
  (xF:∀env st,I items env st->vQ gs st/\Q (.nx env) st):∃o st',cW g b gs items env st=.ok o st'/\Q o st':=by
 have key:∀(post pre:List D) (env:bA) (st:aq),items=pre++post->I pre env st->∃o st',cW g b gs post env st=.ok o st'/\Q o st':=by
  intro post
  induction post with
  | nil =>
   intro pre env st e hI;have:items=pre:=by simpa using e
   subst this;exact⟨.nx env,st,by rw[cW,if_pos (xF env st hI).1],(xF env st hI).2⟩
  | cons d post ih =>
   intro pre env st e hI;obtain⟨ok,bM,st1,h1,h2⟩:=step pre d post env st e hI;rcases h2 with⟨bw,st2,h2,hI2⟩ | ⟨bw,st2,h2,hQ⟩ | ⟨d2,st2,h2,hQ⟩
   ·obtain⟨o,st',h3,h4⟩:=ih (pre++[d]) bw st2 (by simp[e]) hI2;refine⟨o,st',?_,h4⟩;rw[cW,if_pos ok,h1,R.aG];rcases h2 with h2 | h2<;>(rw[h2,R.aG];exact h3)
   ·exact⟨_,_,by rw[cW,if_pos ok,h1,R.aG,h2,R.aG],hQ⟩
   ·exact⟨_,_,by rw[cW,if_pos ok,h1,R.aG,h2,R.aG],hQ⟩
 exact key items [] env st rfl h0
theorem zhp {capt:List (Option Nat)}{mi:MI}{g:MG}{t:MT}{e:ME}{env:bA}{st st1:aq}{items:List D}{gs:List (Nat×MO)}(p:D->Bool)(f:D->D)(Pe:bA->Prop)
  (hi:mi env st=.ok (items,gs) st1) (h0:Pe (jY capt env)) (hl:items.length<=1000000) (hg:∀ys,vQ gs (st1++[.lst ys]))
  (step:∀d∈items,∀di ys,Pe di->∃bM,Pe bM/\g d di (st1++[.lst ys])=.ok bM (st1++[.lst ys])/\t bM (st1++[.lst ys])=.ok (p d) (st1++[.lst ys]) /\
   (p d=true->e bM (st1++[.lst ys])=.ok (f d) (st1++[.lst ys]))) :
  fO capt mi g t e env st=.ok (.loc st1.length) (st1++[.lst ((items.filter p).map f)]):=by
 have key:∀(post:List D) (di:bA) (ys:List D),(∀d∈post,d∈items)->Pe di->ys.length+post.length<=1000000 ->
   ig g t e gs st1.length post di (st1++[.lst ys])=.ok (.loc st1.length) (st1++[.lst (ys++(post.filter p).map f)]):=by
  intro post
  induction post with
  | nil=>intro di ys _ _ _;rw[ig,if_pos (hg ys)];simp
  | cons d post ih =>
   intro di ys hm hP hn;obtain⟨bM,hP1,h1,h2,h3⟩:=step d (hm d (by simp)) di ys hP;have TJ:∀d∈post,d∈items:=λd hd=>hm d (kj _ hd);rw[g8]at hn;rw[ig,if_pos (hg ys),h1,R.aG,h2,R.aG];cases hp:p d with
   | false =>
    rw[if_neg (by simp),ih bM ys TJ hP1 (by omega)];simp[hp]
   | true =>
    rw[if_pos rfl,h3 hp,R.aG];simp only[zke,nY];rw[if_pos (by omega),FN,List.set_cons_zero,ih bM (ys++[f d]) TJ hP1 (by simp;omega)];simp[hp]
 unfold fO;rw[hi,R.aG,key items (jY capt env) [] (λd hd=>hd) h0 (by simpa using hl)];simp
theorem zg0 {capt:List (Option Nat)}{mi:MI}{g:MG}{e:ME}{env:bA}{st st1:aq}{items:List D}{gs:List (Nat×MO)}(f:D->D)(Pe:bA->Prop)
  (hi:mi env st=.ok (items,gs) st1) (h0:Pe (jY capt env)) (hl:items.length<=1000000) (hg:∀ys,vQ gs (st1++[.lst ys]))
  (step:∀d∈items,∀di ys,Pe di->∃bM,Pe bM/\g d di (st1++[.lst ys])=.ok bM (st1++[.lst ys])/\e bM (st1++[.lst ys])=.ok (f d) (st1++[.lst ys])) :
  fO capt mi g tZ e env st=.ok (.loc st1.length) (st1++[.lst (items.map f)]):=by
 have:=zhp (capt:=capt) (mi:=mi) (g:=g) (t:=tZ) (e:=e) (env:=env) (st:=st) (λ_=>true) f Pe hi h0 hl hg λd hd di ys hP=>by
  obtain⟨bM,a,b,c⟩:=step d hd di ys hP;exact⟨bM,a,b,rfl,λ_=>c⟩
 have e2:items.filter (λ_=>true)=items:=List.filter_eq_self.mpr (by simp);rw[e2]at this;exact this
section
variable (env:bA)(st:aq)(a b:ME)(x y:D)(mA:MA)(tc ta tb:MT)(m1 m2:MS)
@[simp] theorem Rb (i:Nat):vr i env st=match env[i]? with | some (some d)=>.ok d st | _=>.bad:=iT rfl
@[simp] theorem ac8 (d:D):ct d env st=.ok d st:=iT rfl
@[simp] theorem acS (g:D->D->aq->R D):aL g a b env st=(a env st).bind λx st1=>(b env st1).bind λy st2=>g x y st2:=iT rfl
@[simp] theorem acT (g:D->aq->R D):ye g a env st=(a env st).bind λx st1=>g x st1:=iT rfl
@[simp] theorem acO :jl a env st=(a env st).bind λx st1=>match x with | .bl b=>.ok b st1 | _=>.bad:=iT rfl
@[simp] theorem acN :Vw a env st=(a env st).bind λx st1=>match vX x st1 with | some b=>.ok b st1 | none=>.bad:=iT rfl
@[simp] theorem abw :yD ta tb env st=(ta env st).bind λx st1=>if x then tb env st1 else .ok false st1:=iT rfl
@[simp] theorem acQ :JZ ta tb env st=(ta env st).bind λx st1=>if x then .ok true st1 else tb env st1:=iT rfl
@[simp] theorem abp :Cy ta env st=(ta env st).bind λx st1=>.ok (!x) st1:=iT rfl
@[simp] theorem acX :ifE tc a b env st=(tc env st).bind λx st1=>if x then a env st1 else b env st1:=iT rfl
@[simp] theorem Ge :au env st=.ok [] st:=iT rfl
@[simp] theorem Ab :aj a mA env st=(a env st).bind λx st1=>(mA env st1).bind λxs st2=>.ok (x::xs) st2:=iT rfl
@[simp] theorem abm :dh mA env st=(mA env st).bind λds st1=>if ds.length<=1000000 then .ok (.tup ds) st1 else .bad:=iT rfl
@[simp] theorem abr :dJ mA env st=(mA env st).bind λds st1=>if ds.length<=1000000 then .ok (.loc st1.length) (st1++[.lst ds]) else .bad:=iT rfl
@[simp] theorem acU :uK env st=.ok none st:=iT rfl
@[simp] theorem acV :uQ a env st=(a env st).bind λx st1=>match x with | .int i=>.ok (some i) st1 | _=>.bad:=iT rfl
@[simp] theorem acP (l h:MP):uI a l h env st=(a env st).bind λx st1=>(l env st1).bind λlo st2=>(h env st2).bind λhi o9=>rP x lo hi o9:=iT rfl
@[simp] theorem aaL (g:List D->aq->R D):bF g mA env st=(mA env st).bind λds st1=>g ds st1:=iT rfl
@[simp] theorem aaH :cL env st=.ok (.nx env) st:=iT rfl
@[simp] theorem Rg :aK m1 m2 env st=(m1 env st).bind λo st1=>match o with | .nx bM=>m2 bM st1 | o=>.ok o st1:=iT rfl
@[simp] theorem Rh :retS a env st=(a env st).bind λd st1=>.ok (.rt d) st1:=iT rfl
@[simp] theorem aaJ :eV a env st=(a env st).bind λ_ st1=>.ok (.nx env) st1:=iT rfl
@[simp] theorem acW :qF tc m1 m2 env st=(tc env st).bind λx st1=>if x then m1 env st1 else m2 env st1:=iT rfl
@[simp] theorem KR (i:Nat):aP i x env st=.ok (env.set i (some x)) st:=iT rfl
@[simp] theorem abv (g:MG):lU a g env st=(a env st).bind λd st1=>(g d env st1).bind λbM st2=>.ok (.nx bM) st2:=iT rfl
@[simp] theorem Rf (i:Nat):aQ i a env st=(a env st).bind λd st1=>.ok (.nx (env.set i (some d))) st1:=iT rfl
@[simp] theorem abq :vf [] env st=.ok env st:=iT rfl
@[simp] theorem aaK (g:MG) (r:Jx) (d:D) (ds:List D):cH g r (d::ds) env st=(g d env st).bind λbM st1=>r ds bM st1:=iT rfl
@[simp] theorem abl (n:Nat) (g:Jx) (ds:List D):uG n g (.tup ds) env st=if ds.length=n then g ds env st else .bad:=iT rfl
@[simp] theorem abn (g:D->D->D->aq->R Unit) (d:D):t6 g a b d env st=(a env st).bind λx st1=>(b env st1).bind λy st2=>(g x y d st2).bind λ_ o9=>.ok env o9:=iT rfl
@[simp] theorem Ac (F:FD) (dd:List D):aF F dd mA env st=(mA env st).bind λas st1=>(F (as++dd) st1).sure:=iT rfl
@[simp] theorem aaI (T:String) (g:D->List D->aq->R D):cV T g a mA env st=(a env st).bind λx st1=>if iI T x st1=true then (mA env st1).bind λxs st2=>g x xs st2 else .bad:=iT rfl
@[simp] theorem abt (mi:MI) (g:MG):oh mi g m1 env st=(mi env st).bind λs st1=>cW g m1 s.2 s.1 env st1:=iT rfl
@[simp] theorem abo :oY a env st=(a env st).bind λd st1=>match d with
 | .loc n=>(match st1[n]? with
  | some (.lst ds)=>.ok (ds,[(n,.lst ds)]) st1
  | some (.frz ds)=>.ok (ds,[(n,.frz ds)]) st1
  | _=>.bad)
 | .tup ds=>.ok (ds,[]) st1
 | _=>.bad:=iT rfl
@[simp] theorem Vz :cM mA env st=(mA env st).bind λds st1=>match ds with
 | [.int j]=>if -(2 ^ 62)<=j/\j<2 ^ 62 then .ok (je 0 j.toNat,[]) st1 else .bad
 | _=>.bad:=iT rfl
@[simp] theorem Cj (i j:Int):bj (.int i) (.int j) st=.ok (.int (i+j)) st:=iT rfl
@[simp] theorem Vy (i j:Int):Fy (.int i) (.int j) st=.ok (.int (i - j)) st:=by simp[Fy,rm]
theorem Ez (i j:Int)(h:(-(2 ^ 64)<i/\i<2 ^ 64)\/(-(2 ^ 64)<j/\j<2 ^ 64)):jh (.int i) (.int j) st=.ok (.int (i*j)) st:=by
 unfold jh rm;dsimp only;rw[if_pos h]
theorem wF (i j:Int)(h:0<j/\j<2 ^ 64):bI (.int i) (.int j) st=.ok (.int (i / j)) st:=by
 unfold bI rm;dsimp only;rw[if_pos h]
theorem sO (i j:Int)(h:0<j):bD (.int i) (.int j) st=.ok (.int (i % j)) st:=by
 unfold bD rm;dsimp only;rw[if_pos h]
@[simp] theorem YC (i j:Int):ltV (.int i) (.int j) st=.ok (.bl (decide (i<j))) st:=by simp[ltV,rm]
@[simp] theorem YD (i j:Int):O8 (.int i) (.int j) st=.ok (.bl (decide (i<=j))) st:=by simp[O8,rm]
@[simp] theorem YF (i j:Int):Nb (.int i) (.int j) st=.ok (.bl (decide (j<i))) st:=by simp[Nb,rm]
@[simp] theorem VB (i:Int):vg (.int i) st=.ok (.int (-i)) st:=iT rfl
@[simp] theorem YH (L:Nat) (i j:Int):vG (L+1) (.int i) (.int j) st=.ok (.bl (decide (i=j))) st:=by
 have e:(i==j)=decide (i=j):=by rw[mV];simp
 simp only[vG,rN,qm,e,zol,zm2];rw[if_pos ⟨trivial,trivial,Nat.succ_pos L⟩]
@[simp] theorem YB (L:Nat) (i j:Int):yg (L+1) (.int i) (.int j) st=.ok (.bl (!decide (i=j))) st:=by
 have e:(i==j)=decide (i=j):=by rw[mV];simp
 simp only[yg,rN,qm,e,zol,zm2];rw[if_pos ⟨trivial,trivial,Nat.succ_pos L⟩]
@[simp] theorem YG (L:Nat) (i j:List Nat):vG (L+1) (.str i) (.str j) st=.ok (.bl (decide (i=j))) st:=by
 have e:(i==j)=decide (i=j):=by rw[mV];simp
 simp only[vG,rN,qm,e,Iz,Ji];rw[if_pos ⟨trivial,trivial,Nat.succ_pos L⟩]
theorem IW (L:Nat)(d:D)(st:aq)(hf:flat d=true)(hd:dep d+dep d<L):rN L d d st=some true:=by
 have e:=zkb d hf;have c:flat d=true/\flat d=true/\eY d d<L:=⟨hf,hf,by have:=Bh d d;omega⟩;cases d with
 | loc n=>simp[flat]at hf
 | non=>exact (if_pos c).trans (congrArg some e)
 | bl b=>exact (if_pos c).trans (congrArg some e)
 | int i=>exact (if_pos c).trans (congrArg some e)
 | str s=>exact (if_pos c).trans (congrArg some e)
 | tup ds=>exact (if_pos c).trans (congrArg some e)
theorem zk5 (L:Nat)(d:D)(hf:flat d=true)(hd:dep d+dep d<L):yg L d d st=.ok (.bl false) st:=by
 have:rN L d d st=some true:=IW L d st hf hd;unfold yg;rw[this];rfl
theorem xR (n:Nat)(i:Int)(ds:List D)(d:D)(h:az st n=some ds)(hi:sy ds i=some d):bh (.loc n) (.int i) st=.ok d st:=by
 simp[bh,h,hi]
theorem qW (i:Int)(ds:List D)(d:D)(hi:sy ds i=some d):bh (.tup ds) (.int i) st=.ok d st:=by
 simp[bh,hi]
@[simp] theorem Rk (b:Bool):Dg [.bl b] st=.ok (.int (if b then 1 else 0)) st:=iT rfl
@[simp] theorem Rj (i j:Int):wK [.int i,.int j] st=.ok (.int (if j<i then j else i)) st:=iT rfl
theorem Ci (n:Nat)(ds:List D)(h:az st n=some ds):uP [.loc n] st=.ok (.int ds.length) st:=by simp[uP,h]
@[simp] theorem Ri:ji .non .non st=.ok (.bl true) st:=iT rfl
end
end M
namespace L2
open PySem PySem.Spec PyProof.Rows
section
variable {κ:Type}[DecidableEq κ]
noncomputable def jT (kvs:List (κ×V))(k:κ):Option V:=(kvs.find? λkv=>decide (kv.1=k)).map (·.2)
noncomputable def putK (kvs:List (κ×V))(k:κ)(v:V):List (κ×V) :=
 if (kvs.any λkv=>decide (kv.1=k))=true then kvs.map (λkv=>if kv.1=k then (kv.1,v) else kv) else kvs++[(k,v)]
theorem W9 {p:κ×V}{r:List (κ×V)}{k:κ}(e:p.1=k):jT (p::r) k=some p.2:=by simp[jT,mO,e]
theorem Xa {p:κ×V}{r:List (κ×V)}{k:κ}(e:¬ p.1=k):jT (p::r) k=jT r k:=by simp[jT,mO,e]
theorem zkh (k:κ):∀kvs:List (κ×V),(kvs.any λkv=>decide (kv.1=k))=(jT kvs k).isSome
 | []=>rfl
 | p::r=>by
  rw[mD];by_cases e:p.1=k
  ·simp only[W9 e,decide_eq_true e,Bool.true_or,Option.isSome_some]
  ·rw[Xa e,decide_eq_false e,Bool.false_or];exact zkh k r
theorem zh7 (kvs:List (κ×V))(k:κ)(v:V):(putK kvs k v).length<=kvs.length+1:=by
 unfold putK
 split
 ·rw[gf];omega
 ·rw[gC,g8,n8];omega
theorem Gg {kvs:List (κ×V)}{k:κ}(v:V)(h:jT kvs k=none):putK kvs k v=kvs++[(k,v)]:=by
 unfold putK;rw[zkh,h];exact if_neg (by decide)
theorem o6.lL {o:Option V}{u:Option Value}(r:o6 o u):o.isSome=u.isSome:=by
 cases o with
 | none=>cases u with
  | none=>rfl
  | some _=>exact (show False from r).elim
 | some _=>cases u with
  | none=>exact (show False from r).elim
  | some _=>rfl
theorem o6.getD {o:Option V}{u:Option Value}{d:V}{d':Value}(r:o6 o u)(rd:RelV d d'):RelV (o.getD d) (u.getD d'):=by
 cases o with
 | none=>cases u with
  | none=>exact rd
  | some _=>exact (show False from r).elim
 | some _=>cases u with
  | none=>exact (show False from r).elim
  | some _=>exact r
theorem KV.val {kvs:List (κ×V)}{vs:List (κ×Value)}(r:KV kvs vs)(k:κ):o6 (jT kvs k) (valueAt vs k):=by
 unfold KV at r
 induction r with
 | nil=>exact True.intro
 | @cons p q ps qs h t ih =>
  obtain⟨h1,h2⟩:=h;by_cases e:p.1=k
  ·have e':q.1=k:=h1.symm.trans e;have b:valueAt (q::qs) k=some q.2:=by simp[valueAt,mO,e']
   rw[W9 e,b];exact h2
  ·have e':¬ q.1=k:=λz=>e (h1.trans z);have b:valueAt (q::qs) k=valueAt qs k:=by simp[valueAt,mO,e']
   rw[Xa e,b];exact ih
theorem KV.any {kvs:List (κ×V)}{vs:List (κ×Value)}(r:KV kvs vs)(k:κ):(kvs.any λkv=>decide (kv.1=k))=vs.any λkv=>decide (kv.1=k):=by
 unfold KV at r
 induction r with
 | nil=>rfl
 | cons h t ih=>rw[mD,mD,ih,h.1]
theorem KV.repl {kvs:List (κ×V)}{vs:List (κ×Value)}(r:KV kvs vs)(k:κ){y:V}{u:Value}(ry:RelV y u) :
  KV (kvs.map λkv=>if kv.1=k then (kv.1,y) else kv) (vs.map λkv=>if kv.1=k then (kv.1,u) else kv):=by
 unfold KV at r ⊢
 induction r with
 | nil=>exact .nil
 | @cons p q ps qs h t ih =>
  rw[gB,gB];refine .cons ?_ ih;obtain⟨h1,h2⟩:=h;by_cases e:p.1=k
  ·rw[if_pos e,if_pos (h1.symm.trans e)];exact⟨h1,ry⟩
  ·rw[if_neg e,if_neg (λz=>e (h1.trans z))];exact⟨h1,h2⟩
theorem KV.put {kvs:List (κ×V)}{vs:List (κ×Value)}(r:KV kvs vs)(k:κ){y:V}{u:Value}(ry:RelV y u):KV (putK kvs k y) (stored vs k u):=by
 unfold putK stored;rw[r.any k];by_cases e:(vs.any λkv=>decide (kv.1=k))=true
 ·rw[if_pos e,if_pos e];exact r.repl k ry
 ·rw[if_neg e,if_neg e];exact Paired.snoc r ⟨rfl,ry⟩
theorem KV.length {kvs:List (κ×V)}{vs:List (κ×Value)}(r:KV kvs vs):kvs.length=vs.length:=Paired.length r
end
theorem wL {P:Program}{w:World}{k:Key}{u:Value}(r:RelV (kV k) u):(bR P w).is k u=true:=by
 cases k with
 | inl i=>obtain⟨t,e⟩:=(show ∃t,u=Value.int i t from r);subst e;exact zmd P w i t
 | inr x=>obtain⟨t,e⟩:=(show ∃t,u=Value.str x t from r);subst e;exact zl4 P w x t
theorem zlm {P:Program}{w:World}:∀{ks:List Key} {us:List Value},Vals (ks.map kV) us->ItemsAre (bR P w) ks us
 | [],_,r=>by rw[nU]at r;cases r;exact .nil
 | k::ks,_,r=>by
  rw[gB]at r;cases r with
  | cons h t=>exact .cons (wL h) (zlm t)
noncomputable abbrev KT (H:Hp):List (List Key×V)->List (List Key×Addr×Value)->Prop:=Paired λp q=>p.1=q.1/\H q.2.1=some (.tup (p.1.map kV))/\RelV p.2 q.2.2
theorem KT.val {H:Hp}{kvs:List (List Key×V)}{xs:List (List Key×Addr×Value)}(r:KT H kvs xs)(k:List Key):o6 (jT kvs k) ((atKey xs k).map (·.2)):=by
 induction r with
 | nil=>exact True.intro
 | @cons p q ps qs h t ih =>
  obtain⟨h1,_,h2⟩:=h;by_cases e:p.1=k
  ·have e':q.1=k:=h1.symm.trans e;have b:atKey (q::qs) k=some q.2:=by simp[atKey,mO,e']
   rw[W9 e,b];exact h2
  ·have e':¬ q.1=k:=λz=>e (h1.trans z);have b:atKey (q::qs) k=atKey qs k:=by simp[atKey,mO,e']
   rw[Xa e,b];exact ih
theorem KT.repl {H:Hp}{kvs:List (List Key×V)}{xs:List (List Key×Addr×Value)}(r:KT H kvs xs)(k:List Key){y:V}{u:Value}(ry:RelV y u) :
  KT H (kvs.map λkv=>if kv.1=k then (kv.1,y) else kv) (xs.map (putAt k u)):=by
 induction r with
 | nil=>exact .nil
 | @cons p q ps qs h t ih =>
  rw[gB,gB];refine .cons ?_ ih;obtain⟨h1,h2,h3⟩:=h;unfold putAt;by_cases e:p.1=k
  ·rw[if_pos e,if_pos (h1.symm.trans e)];exact⟨h1,h2,ry⟩
  ·rw[if_neg e,if_neg (λz=>e (h1.trans z))];exact⟨h1,h2,h3⟩
theorem KT.put {H:Hp}{kvs:List (List Key×V)}{xs:List (List Key×Addr×Value)}(r:KT H kvs xs)(k:List Key){b:Addr}{y:V}{u:Value}(hb:H b=some (.tup (k.map kV)))(ry:RelV y u) :
  KT H (putK kvs k y) (storedH xs k b u):=by
 have e:(kvs.any λkv=>decide (kv.1=k))=(atKey xs k).isSome:=by
  rw[zkh,(r.val k).lL,Option.isSome_map]
 unfold putK storedH;rw[e];by_cases q:(atKey xs k).isSome=true
 ·rw[if_pos q,if_pos q];exact r.repl k ry
 ·rw[if_neg q,if_neg q];exact Paired.snoc r ⟨rfl,hb,ry⟩
theorem KT.keeps {H H':Hp}{kvs:List (List Key×V)}{xs:List (List Key×Addr×Value)}(r:KT H kvs xs)(ht:∀b ys,H b=some (.tup ys)->H' b=some (.tup ys)):KT H' kvs xs :=
 Paired.Sh r λ_ _ z=>⟨z.1,ht _ _ z.2.1,z.2.2⟩
section
variable {P:Program}{w:World}{H:Hp}{h:Heap}{a:Addr}
theorem OD {u:HO}(ok:o7 P w H h)(e:Rd H a u):bZ P w H h a u:=e.ok ok
theorem vH {kvs:List (Key×V)}(ok:o7 P w H h)(e:Rd H a (.dK kvs)):kvs.length<=sizeLine/\(a==sysModules)=false/\∃vs,KV kvs vs/\h.DictOf (bR P w) a vs :=
 show bZ P w H h a (.dK kvs) from OD ok e
theorem aan {kvs:List (Key×V)}(ok:o7 P w H h)(e:H a=some (.dK kvs)):kvs.length<=sizeLine/\(a==sysModules)=false/\∃vs,KV kvs vs/\h.DictOf (bR P w) a vs:=vH ok (.inl e)
theorem Ql {ks:List Key}(ok:o7 P w H h)(e:H a=some (.tup (ks.map kV))):(tupleKind (bR P w)).is h ks a:=by
 obtain⟨_,its,r,o,h1,h2,n,h3⟩:=(show bZ P w H h a (.tup (ks.map kV)) from ok a _ e);exact⟨o,its.toArray,n,h1,h2,h3,by simpa using zlm r⟩
theorem wV {kvs:List (List Key×V)}(ok:o7 P w H h)(e:Rd H a (.dT kvs)):kvs.length<=sizeLine/\(a==sysModules)=false /\
  ∃xs,KT H kvs xs/\h.DictOfH (tupleKind (bR P w)) a xs:=by
 obtain⟨z,y,xs,r,o,es,ep,h1,h2,h3,h4,h5⟩:=(show bZ P w H h a (.dT kvs) from OD ok e);refine⟨z,y,xs,r,o,es,ep,h1,h2,h3,h4,λx hx=>?_,h5⟩;have all:∀{l:List (List Key×V)} {m:List (List Key×Addr×Value)},KT H l m->∀x∈m,(tupleKind (bR P w)).is h x.1 x.2.1:=by
  intro l m q
  induction q with
  | nil=>intro x hx;exact nomatch hx
  | @cons p q ps qs hq t ih =>
   intro x hx;rcases gk.mp hx with e | hx
   ·subst e;exact Ql ok (by rw[<-hq.1];exact hq.2.1)
   ·exact ih x hx
 exact all r x hx
theorem Qf {kvs:List (List Key×V)}(ok:o7 P w H h)(e:H a=some (.dT kvs)):kvs.length<=sizeLine/\(a==sysModules)=false /\
  ∃xs,KT H kvs xs/\h.DictOfH (tupleKind (bR P w)) a xs:=wV ok (.inl e)
end
noncomputable def qU (H:Hp)(a:Addr)(y:V)(r:Option V):Prop :=
 (∃kvs k,Rd H a (.dK kvs)/\y=kV k/\r=jT kvs k)\/∃kvs k b,Rd H a (.dT kvs)/\y=.ref b/\H b=some (.tup (k.map kV))/\r=jT kvs k
noncomputable def zM (H:Hp)(a:Addr)(y v:V)(H':Hp):Prop :=
 (∃kvs k,H a=some (.dK kvs)/\y=kV k/\kvs.length<sizeLine/\H'=upd H a (.dK (putK kvs k v))) \/
 ∃kvs k b,H a=some (.dT kvs)/\y=.ref b/\H b=some (.tup (k.map kV))/\kvs.length<sizeLine/\H'=upd H a (.dT (putK kvs k v))
theorem qU.k {H:Hp}{a:Addr}{kvs:List (Key×V)}{k:Key}(e:H a=some (.dK kvs)):qU H a (kV k) (jT kvs k):=.inl ⟨kvs,k,.inl e,rfl,rfl⟩
theorem qU.t {H:Hp}{a b:Addr}{kvs:List (List Key×V)}{k:List Key}(e:H a=some (.dT kvs))(eb:H b=some (.tup (k.map kV))):qU H a (.ref b) (jT kvs k):=.inr ⟨kvs,k,b,.inl e,rfl,eb,rfl⟩
theorem zM.k {H:Hp}{a:Addr}{kvs:List (Key×V)}{k:Key}{v:V}(e:H a=some (.dK kvs))(hl:kvs.length<sizeLine):zM H a (kV k) v (upd H a (.dK (putK kvs k v))):=.inl ⟨kvs,k,e,rfl,hl,rfl⟩
theorem zM.t {H:Hp}{a b:Addr}{kvs:List (List Key×V)}{k:List Key}{v:V}(e:H a=some (.dT kvs))(eb:H b=some (.tup (k.map kV)))(hl:kvs.length<sizeLine) :
  zM H a (.ref b) v (upd H a (.dT (putK kvs k v))):=.inr ⟨kvs,k,b,e,rfl,eb,hl,rfl⟩
section
variable {X:Cx}{pins:List (Addr×Obj)}{σ:St}{H:Hp}{s:Shared}{a:Addr}{y v:V}{u r:Value}{o:Option V}{A:Around}{E:Value->Shared->Prop}
theorem Inv.big (I:Inv X pins σ H s):sysModules<s.heap.objs.size:=by
 have h:mainGlobals<s.heap.objs.size:=(I.mod.glob.keeps I.bk).lt;exact Nat.lt_trans (by decide) h
theorem Dz {Q:Value->Shared->Prop}(hu:A.units+1<cLine)(I:Inv X pins σ H s)(g:qU H a y (some v))(ry:RelV y u)(h:∀w' s',Inv X pins σ H s'->RelV v w'->Q w' s') :
  wpAny (model X.prog X.w) A (getItem (.ref a) u) Q E s:=by
 rcases g with⟨kvs,k,e,ey,l⟩ | ⟨kvs,k,b,e,ey,eb,l⟩
 ·subst ey;obtain⟨z,hd,vs,rel,dd⟩:=vH I.bV e;obtain⟨w',hw,B_⟩:=o6.some_of (v:=v) (o:=valueAt vs k) (by rw[l];exact rel.val k);exact wpAny_getItem_of (wL ry) dd.mapOf hw (h w' _ (I.tok _) B_)
 ·subst ey;cases (show u=Value.ref b from ry);obtain⟨z,hd,xs,rel,dd⟩:=wV I.bV e;obtain⟨w',hw,B_⟩:=o6.some_of (v:=v) (o:=(atKey xs k).map (·.2)) (by rw[l];exact rel.val k);obtain⟨p,hp,cZ⟩:=my.mp hw;refine wpAny_getItem_heap (tupleKind_room_in1 hu) (Ql I.bV eb) dd hp ?_;rw[cZ];exact h w' _ (I.tok _) B_
theorem acD {Q:Value->Shared->Prop}(hu:A.units+1<cLine)(I:Inv X pins σ H s)(g:qU H a y o)(ry:RelV y u)(h:∀s',Inv X pins σ H s'->Q (.bool o.isSome) s') :
  wpAny (model X.prog X.w) A (compareOp .In u (.ref a)) Q E s:=by
 rcases g with⟨kvs,k,e,ey,l⟩ | ⟨kvs,k,b,e,ey,eb,l⟩
 ·subst ey;obtain⟨z,hd,vs,rel,dd⟩:=vH I.bV e;refine wpAny_in_of (wL ry) hd dd.mapOf ?_;rw[<-(rel.val k).lL,<-l];exact h _ (I.tok _)
 ·subst ey;cases (show u=Value.ref b from ry);obtain⟨z,hd,xs,rel,dd⟩:=wV I.bV e;refine wpAny_in_heap (tupleKind_room_in1 hu) (Ql I.bV eb) hd dd ?_;have q:=(rel.val k).lL;rw[Option.isSome_map]at q;rw[<-q,<-l];exact h _ (I.tok _)
theorem Nr {Q:Value->Shared->Prop}(hu:A.units+1<cLine)(I:Inv X pins σ H s)(g:qU H a y o)(ry:RelV y u)(h:∀s',Inv X pins σ H s'->Q (.bool (!o.isSome)) s') :
  wpAny (model X.prog X.w) A (compareOp .NotIn u (.ref a)) Q E s:=by
 rcases g with⟨kvs,k,e,ey,l⟩ | ⟨kvs,k,b,e,ey,eb,l⟩
 ·subst ey;obtain⟨z,hd,vs,rel,dd⟩:=vH I.bV e;refine wpAny_notIn_of (wL ry) hd dd.mapOf ?_;rw[<-(rel.val k).lL,<-l];exact h _ (I.tok _)
 ·subst ey;cases (show u=Value.ref b from ry);obtain⟨z,hd,xs,rel,dd⟩:=wV I.bV e;refine wpAny_notIn_heap (tupleKind_room_in1 hu) (Ql I.bV eb) hd dd ?_;have q:=(rel.val k).lL;rw[Option.isSome_map]at q;rw[<-q,<-l];exact h _ (I.tok _)
theorem zn8 {h':Heap}{t':Nat}{ob:HO}(I:Inv X pins σ H s)(mu:Mut (H a))(hs:Heap.SameBut a s.heap h')(he:∃q,h'.get? a=some q)(new:bZ X.prog X.w (upd H a ob) h' a ob) :
  Inv X pins σ (upd H a ob) { s with heap:=h',toks:=t' } :=
 I.write (x:=a) (e:=a) mu (.inl rfl) (λb q hb z=>(hs.2 b hb).trans z) he new
theorem Uo {P:Program}{w:World}{H':Hp}{h':Heap}{kvs:List (Key×V)}{vs:List (Key×Value)}(z:kvs.length<=sizeLine)(hd:(a==sysModules)=false)(rel:KV kvs vs)(dd:h'.DictOf (bR P w) a vs) :
  bZ P w H' h' a (.dK kvs):=⟨z,hd,vs,rel,dd⟩
theorem zky {H':Hp}{Q:Unit->Shared->Prop}(hu:A.units+1<cLine)(I:Inv X pins σ H s)(g:zM H a y v H')(ry:RelV y u)(rv:RelV v r)(h:∀s',Inv X pins σ H' s'->Q () s') :
  wpAny (model X.prog X.w) A (setItem (.ref a) u r) Q E s:=by
 rcases g with⟨kvs,k,e,ey,l,eH⟩ | ⟨kvs,k,b,e,ey,eb,l,eH⟩
 ·subst ey eH;obtain⟨z,hd,vs,rel,dd⟩:=aan I.bV e;have hz:vs.length<=sizeLine:=by rw[<-rel.length];exact z
  have hl:(putK kvs k v).length<=sizeLine:=by have:=zh7 kvs k v;omega
  refine wpAny_setItem_pairs (hsz:=hz) (wL ry) dd λh' Wr hs=>h _ ?_;have he:∃q,h'.get? a=some q:=let ⟨q,_,_,hq,_⟩:=Wr;⟨q,hq⟩;exact zn8 I (by rw[e];exact True.intro) hs he (Uo hl hd (rel.put k rv) Wr)
 ·subst ey eH;cases (show u=Value.ref b from ry);obtain⟨z,hd,xs,rel,dd⟩:=Qf I.bV e;have hz:xs.length<=sizeLine:=by rw[<-Paired.length rel];exact z
  have hl:(putK kvs k v).length<=sizeLine:=by have:=zh7 kvs k v;omega
  refine wpAny_setItem_heap (hsz:=hz) (tupleKind_room_in1 hu) (Ql I.bV eb) dd λh' Wr hs=>h _ ?_;obtain⟨q,es,ep,hq,h2,h3,h4,_,h5⟩:=Wr;refine zn8 I (by rw[e];exact True.intro) hs ⟨q,hq⟩ ⟨hl,hd,_,(rel.put k eb rv).keeps λc ys ec=>?_,q,es,ep,hq,h2,h3,h4,h5⟩;rw[lX (O5 ec e (λz=>nomatch z))];exact ec
end
section
variable {X:Cx}{pins:List (Addr×Obj)}{σ:St}{H:Hp}{s:Shared}{a:Addr}{kvs:List (Key×V)}{k:Key}{u:Value}{A:Around}{E:Value->Shared->Prop}
theorem aap {Q:Value->Shared->Prop}(I:Inv X pins σ H s)(e:Rd H a (.dK kvs))(h:∀t s',Inv X pins σ H s'->Q (.int kvs.length t) s'):wpAny (model X.prog X.w) A (call (.builtin "len") [.ref a]) Q E s:=by
 obtain⟨z,hd,vs,rel,dd⟩:=vH I.bV e;refine call_len_dict hd dd (by rw[<-rel.length];rw[sizeLine_eq]at z;omega) ?_;rw[<-rel.length];exact h _ _ (I.tok _)
end
noncomputable def NQ (i:Expr):Prop:=∀ov iv,subscripted i false ov iv=operate [ov,iv] (getItem ov iv)
theorem Ks {prog:Program}{w:World}{A:Around}{E:Value->Shared->Prop}{s:Shared}{env:Env}{value slice:Expr}{pos:Pos}{T id:String}{Q:Value->Shared->Prop}
  (hl:typeLookup (.type T) "__getitem__" = pure (some (.builtin id))) (hs:NQ slice)
  (h:wpAny (model prog w) A (eval value env) (λo ady=>wpAny (model prog w) A (eval slice env) (λi adx=>adx.TypeIs o T/\wpAny (model prog w) A (getItem o i) Q E adx) E ady) E s) :
  wpAny (model prog w) A (eval (.Subscript value slice pos) env) Q E s:=by
 refine Subscript_ (wpAny_mono h (λo ady h₁=>wpAny_mono h₁ (λi adx adD=>?_) λ_ _ x=>x) λ_ _ x=>x);obtain⟨hT,adD⟩:=adD;unfold subscriptTail;refine wpAny_bind ?_;rw[getitemInPython_of_ne hT.not_modules];refine wpAny_bind (wpAny_specialOf hT hl ?_);have fin:wpAny (model prog w) A (subscripted slice false o i) (λr adw=>wpAny (model prog w) A (letTemporaryGo value o r >>= λ_=>pure r) Q E adw) E adx:=by
  rw[hs o i];exact wpAny_operating (wpAny_mono adD (λr adw adC=>wpAny_bind (wpAny_letTemporaryGo (wpAny_pure adC))) λ_ _ x=>x)
 first
  | exact wpAny_pure (wpAny_bind fin)
  | exact wpAny_bind (wpAny_pure (wpAny_bind fin))
  | exact wpAny_bind fin
theorem zmc {X:Cx}{pins:List (Addr×Obj)}{σ:St}{H:Hp}{s:Shared}{a:Addr}{y:V}{o:Option V}(I:Inv X pins σ H s)(g:qU H a y o):s.TypeIs (.ref a) "dict":=by
 rcases g with⟨kvs,k,e,_,_⟩ | ⟨kvs,k,b,e,_,_,_⟩
 ·obtain⟨_,_,vs,_,dd⟩:=vH I.bV e;exact dd.typeIs
 ·obtain⟨_,_,xs,_,dd⟩:=wV I.bV e;exact dd.typeIs
noncomputable def Yo (td ty:TE):TE:=fun σ H Q=>td σ H λx H1=>ty σ H1 λy H2=>∃a v,x=.ref a/\qU H2 a y (some v)/\Q v H2
section
variable {X:Cx}{o i e value:Expr}{pos pos' QV:Pos}{td ty tv:TE}
theorem Ah (hu:X.A.units+1<cLine)(ho:PE X o td)(hi:PE X i ty)(hs:NQ i):PE X (.Subscript o i pos) (Yo td ty):=by
 intro pins s σ H Q I h;refine Ks PySem.F.slot_dict_getitem.lookup hs (dz (ho pins s σ H _ I h) λu s1 zz=>?_);obtain⟨x,H1,I1,rx,q1⟩:=zz;refine dz (hi pins s1 σ H1 _ I1 q1) λiv s2 zz=>?_;obtain⟨y,H2,I2,ry,a,v,ex,g,q2⟩:=zz;subst ex;obtain rfl:u=Value.ref a:=rx;exact⟨zmc I2 g,Dz hu I2 g ry λw' s3 I3 B_=>⟨v,H2,I3,B_,q2⟩⟩
end
theorem Jc {P:Program}{w:World}{H:Hp}(h:Heap)(hb:sysModules<h.objs.size):bZ P w H (h.push { cls:=.type "dict",data:=.dict #[] }) h.objs.size (.dK []) :=
 ⟨mQ _,beq_eq_false_iff_ne.mpr (Ne.symm (gJ hb)),[],.nil,Heap.DictOf.new h⟩
theorem Jb {P:Program}{w:World}{H:Hp}(h:Heap)(hb:sysModules<h.objs.size):bZ P w H (h.push { cls:=.type "dict",data:=.dict #[] }) h.objs.size (.dT []) :=
 ⟨mQ _,beq_eq_false_iff_ne.mpr (Ne.symm (gJ hb)),[],.nil,_,#[],0,gH _ rfl,⟨rfl,rfl,rfl⟩,rfl,rfl,List.nodup_nil⟩
noncomputable def Q5:TE:=λ_ H Q=>∀p,H p=none->Q (.ref p) (upd H p (.dK []))
noncomputable def Q0:TE:=λ_ H Q=>∀p,H p=none->Q (.ref p) (upd H p (.dT []))
section
variable {X:Cx}{pos:Pos}
theorem Gv:PE X (.Dict [] [] pos) Q5:=λpins s σ H Q I h =>
 wpAny_Dict_empty ⟨.ref s.heap.objs.size,_,I.laid (a:=s.heap.objs.size) (o:=.dK []) (t':=s.toks) (λ_ _ q=>gq _ q) (gh _) (Jc s.heap I.big),rfl,h _ (I.bV.fresh (gh _))⟩
theorem Gu:PE X (.Dict [] [] pos) Q0:=λpins s σ H Q I h =>
 wpAny_Dict_empty ⟨.ref s.heap.objs.size,_,I.laid (a:=s.heap.objs.size) (o:=.dT []) (t':=s.toks) (λ_ _ q=>gq _ q) (gh _) (Jb s.heap I.big),rfl,h _ (I.bV.fresh (gh _))⟩
end
structure M1 (X:Cx)(o:Expr)(m:Str)(apos:Pos)(e:Expr)(iK:Pos):Prop where
 base:attributeBase o m X.env (eval o X.env)=eval o X.env
 few:((backTo iK (starEach [e] X.env)).all (λx=>!x.1) && (backToKw iK (keywordEach [] X.env)).all (λx=>x.1.isSome)
  && decide (([e]:List Expr).length+([]:List Keyword).length+(if ([]:List Keyword).isEmpty then 0 else 1)<30))=true
 line:(apos.endLine==iK.line)=true
 trees:backTo iK (starEach [e] X.env)=[(false,eval e X.env)]
structure M2 (X:Cx)(o:Expr)(m:Str)(apos:Pos)(e f:Expr)(iK:Pos):Prop where
 base:attributeBase o m X.env (eval o X.env)=eval o X.env
 few:((backTo iK (starEach [e,f] X.env)).all (λx=>!x.1) && (backToKw iK (keywordEach [] X.env)).all (λx=>x.1.isSome)
  && decide (([e,f]:List Expr).length+([]:List Keyword).length+(if ([]:List Keyword).isEmpty then 0 else 1)<30))=true
 line:(apos.endLine==iK.line)=true
 trees:backTo iK (starEach [e,f] X.env)=[(false,eval e X.env),(false,eval f X.env)]
section
variable {X:Cx}{pins:List (Addr×Obj)}{σ:St}{H:Hp}{s:Shared}{a:Addr}{y d:V}{u r:Value}{o:Option V}{A:Around}{E:Value->Shared->Prop}
theorem Up {Q:Value->Shared->Prop}(hu:A.units+1<cLine)(I:Inv X pins σ H s)(g:qU H a y o)(ry:RelV y u)(h:∀w' s',Inv X pins σ H s'->RelV (o.getD .non) w'->Q w' s') :
  wpAny (model X.prog X.w) A (call (.builtin "dict.get") [.ref a,u]) Q E s:=by
 rcases g with⟨kvs,k,e,ey,l⟩ | ⟨kvs,k,b,e,ey,eb,l⟩
 ·subst ey;obtain⟨z,hd,vs,rel,dd⟩:=vH I.bV e;refine call_meetsIn PySem.F.slot_dict_get dd.typeIs PySem.F.entry_dict_get (PySem.F.args_dict_get_2 _ _) (meets_dict_get (bR X.prog X.w) a (wL ry) hd) ⟨_,dd.mapOf,h _ _ (I.tok _) ?_⟩;rw[l];exact (rel.val k).getD rfl
 ·subst ey;cases (show u=Value.ref b from ry);obtain⟨z,hd,xs,rel,dd⟩:=wV I.bV e;refine call_meetsIn PySem.F.slot_dict_get dd.typeIs PySem.F.entry_dict_get (PySem.F.args_dict_get_2 _ _) (meetsH_dict_get (tupleKind (bR X.prog X.w)) a b hd) ⟨tupleKind_room_in1 hu,k,xs,Ql I.bV eb,dd,h _ _ (I.tok _) ?_⟩;rw[l];exact (rel.val k).getD rfl
end
section
variable {X:Cx}{o e f:Expr}{apos iK:Pos}{td ty tx:TE}
end
section
variable {X:Cx}{pins:List (Addr×Obj)}{σ:St}{H:Hp}{s:Shared}{a:Addr}{kvs:List (Key×V)}{A:Around}{E:Value->Shared->Prop}
end
section
variable {X:Cx}{pins:List (Addr×Obj)}{σ:St}{H:Hp}{s:Shared}{a:Addr}{y:V}{u:Value}{A:Around}{E:Value->Shared->Prop}
end
theorem zfw {prog:Program}{w:World}{κ:Type}[DecidableEq κ]{knd:HeapKind prog w κ}{A:Around}{E:Value->Shared->Prop}{s:Shared}{d a:Addr}{xs:List (κ×Addr×Value)}{k:κ}{dflt:Value}{Q:Value->Shared->Prop}
  (hr:knd.room A) (hk:knd.is s.heap k a) (hd:s.heap.DictOfH knd d xs) (hz:xs.length<=sizeLine)
  (h1:∀p,atKey xs k=some p->Q p.2 { s with toks:=s.toks+knd.draws k })
  (h2:atKey xs k=none->∀h':Heap,h'.DictOfH knd d (xs++[(k,a,dflt)])->Heap.SameBut d s.heap h'->Q dflt { s with heap:=h',toks:=s.toks+knd.draws k }) :
  wpAny (model prog w) A (dictSetDefault d (.ref a) dflt) Q E s:=by
 obtain⟨o,es,ep,ho,hx,PK,hes,his,uR⟩:=hd;unfold dictSetDefault;refine wpAny_holding (wpAny_bind (knd.pyHash hr hk (wpAny_bind ?_)));refine wpAny_dictFind_heap (s:={ s with toks:=s.toks+knd.draws k }) (o:=o) (es:=es) (ep:=ep) (xs:=xs) hr hk ho PK hes his uR (λyP=>?_) (λj p hj=>?_)
 ·have hn:atKey xs k=none:=by
   unfold atKey;rw[pW,pX];intro x hx' hxk;obtain⟨j,hj,e⟩:=List.mem_iff_getElem.mp hx';refine yP j x.2 ?_;rw[gM hj,e];have:=of_decide_eq_true hxk;rw[<-this]
  refine wpAny_bind (wpAny_rule (wpAny_bind (wpAny_updateDictKeys (s:={ s with toks:=s.toks+knd.draws k }) ho PK (wpAny_pure ?_) ?_ ?_)))
  ·obtain⟨cls,dct,dat,sl⟩:=o;obtain rfl:dat=Data.dict es ep:=PK;have J6:Heap.SameBut d s.heap (s.heap.update d (Obj.mapDictKeys λx=>x.push { hash:=knd.hash k,key:=.ref a,val:=dflt })):=Heap.SameBut.update _ _ _;refine h2 hn _ ⟨_,es.push { hash:=knd.hash k,key:=.ref a,val:=dflt },ep+1,m9 _ ho rfl,hx,rfl,?_,?_,?_⟩ J6
   ·rw[Array.toList_push,hes,kE];rfl
   ·intro x hx';rcases gw.mp hx' with q | q
    ·exact knd.keeps (his x q) ho rfl J6
    ·obtain rfl:x=(k,a,dflt):=by simpa using q
     exact knd.keeps hk ho rfl J6
   ·rw[kE];refine mZ.mpr ⟨uR,by simp,?_⟩;rintro y hy z hz' rfl;have hz2:y=k:=by simpa using hz'
    subst hz2;obtain⟨x,hxm,rfl⟩:=gb.mp hy;obtain⟨j,hj,e⟩:=List.mem_iff_getElem.mp hxm;exact yP j x.2 (by rw[gM hj,e])
  ·have:es.size=xs.length:=by rw[<-g_,hes,gf]
   omega
  ·rw[Array.size_push];omega
 ·refine wpAny_bind (wpAny_dictEntries (s:={ s with toks:=s.toks+knd.draws k }) ho PK ?_);have e1:es[j]? = some (entryOfKey knd (k,p)):=by
   rw[<-nA,hes,gF,hj];rfl
  rw[e1];refine wpAny_bind (wpAny_rule (wpAny_pure ?_));exact h1 p (atKey_of_get uR hj)
theorem zgv {prog:Program}{w:World}{κ:Type}[DecidableEq κ](knd:HeapKind prog w κ)(d b:Addr)(v:Value)(hd:(d==sysModules)=false) :
  MeetsIn prog w (Builtin.«dict.setdefault» { pos:=[.ref d,.ref b,v] }) λA R s=>knd.room A.in1/\∃k xs,knd.is s.heap k b/\s.heap.DictOfH knd d xs/\xs.length<=sizeLine /\
   (∀p,atKey xs k=some p->R (.ok (.ret p.2)) { s with toks:=s.toks+knd.draws k }) /\
   (atKey xs k=none->∀h':Heap,h'.DictOfH knd d (xs++[(k,b,v)])->Heap.SameBut d s.heap h'->R (.ok (.ret v)) { s with heap:=h',toks:=s.toks+knd.draws k }):=by
 rintro A R s ⟨hr,k,xs,hk,dd,hz,h1,h2⟩;unfold Builtin.«dict.setdefault»;refine wpAny_bind ?_;unfold Builtin.Dict.keyAndDefault;refine wpAny_bind ?_;unfold Builtin.Dict.notOrdered;rw[if_pos (by decide)];refine wpAny_bind (wpAny_typeOf dd.typeIs ?_);rw[if_neg (by decide)];refine wpAny_pure (wpAny_bind ?_);refine wpAny_pure (wpAny_bind ?_);refine wpAny_bind (wpAny_pure (wpAny_bind ?_));refine wpAny_pure (wpAny_pure ?_);refine wpAny_bind (wpAny_pure (wpAny_pure ?_));dsimp only;rw[if_neg (by rw[hd];decide)];refine wpAny_bind (zfw hr hk dd hz (λp e=>wpAny_pure (h1 p e)) λe h' q1 q2=>wpAny_pure (h2 e h' q1 q2))
section
variable {X:Cx}{pins:List (Addr×Obj)}{σ:St}{H:Hp}{s:Shared}{a b:Addr}{v:V}{u r:Value}{A:Around}{E:Value->Shared->Prop}{kvs:List (List Key×V)}{k:List Key}
theorem Je {Q:Value->Shared->Prop}(hu:A.units+1<cLine)(I:Inv X pins σ H s)(e:H a=some (.dT kvs))(eb:H b=some (.tup (k.map kV)))(rv:RelV v r)(hl:kvs.length<sizeLine)
  (h1:∀x w' s',jT kvs k=some x->RelV x w'->Inv X pins σ H s'->Q w' s')
  (h2:jT kvs k=none->∀s',Inv X pins σ (upd H a (.dT (kvs++[(k,v)]))) s'->Q r s') :
  wpAny (model X.prog X.w) A (call (.builtin "dict.setdefault") [.ref a,.ref b,r]) Q E s:=by
 obtain⟨z,hd,xs,rel,dd⟩:=Qf I.bV e;have hz:xs.length<=sizeLine:=by rw[<-Paired.length rel];exact z
 refine call_meetsIn PySem.F.slot_dict_setdefault dd.typeIs PySem.F.entry_dict_setdefault (PySem.F.args_dict_setdefault_3 _ _ _) (zgv (tupleKind (bR X.prog X.w)) a b r hd) ⟨tupleKind_room_in1 hu,k,xs,Ql I.bV eb,dd,hz,λp ep=>?_,λen h' Wr hs=>?_⟩
 ·have q:=rel.val k;rw[ep]at q;cases q2:jT kvs k with
  | none=>rw[q2]at q;exact q.elim
  | some x=>rw[q2]at q;exact h1 x _ _ q2 q (I.tok _)
 ·have q:=rel.val k;rw[en]at q;have q2:jT kvs k=none:=by
   cases q2:jT kvs k with
   | none=>rfl
   | some x=>rw[q2]at q;exact q.elim
  refine h2 q2 _ ?_;obtain⟨ob,es,ep,hq,h2,h3,h4,_,h5⟩:=Wr;have wO:storedH xs k b r=xs++[(k,b,r)]:=by unfold storedH;rw[en];rfl
  have hp:=rel.put k eb rv;rw[Gg v q2,wO]at hp;refine zn8 I (by rw[e];exact True.intro) hs ⟨ob,hq⟩ ⟨by rw[gC];exact hl,hd,_,hp.keeps λc ys ec=>?_,ob,es,ep,hq,h2,h3,h4,h5⟩;rw[lX (O5 ec e (λz=>nomatch z))];exact ec
end
end L2
namespace M
open PySem PySem.Spec L2
noncomputable def keyOf:D->Option Key
 | .int i=>some (.inl i)
 | .str cs=>some (.inr (strOf cs))
 | _=>none
noncomputable def keysOf:List D->Option (List Key)
 | []=>some []
 | d::ds=>(keyOf d).bind λk=>(keysOf ds).map λks=>k::ks
noncomputable def jm (kvs:List (List Key×D))(k:List Key):Option D:=(kvs.find? λkv=>decide (kv.1=k)).map (·.2)
@[simp] theorem C_ (i:Int):keyOf (.int i)=some (.inl i):=iT rfl
@[simp] theorem VH (cs:List Nat):keyOf (.str cs)=some (.inr (strOf cs)):=iT rfl
@[simp] theorem znk:keysOf []=some []:=iT rfl
@[simp] theorem zic (d:D) (ds:List D):keysOf (d::ds)=(keyOf d).bind λk=>(keysOf ds).map λks=>k::ks:=iT rfl
@[simp] theorem Fl (k:List Key):jm [] k=none:=iT rfl
theorem U_ (p:List Key×D)(r:List (List Key×D))(k:List Key):jm (p::r) k=if p.1=k then some p.2 else jm r k:=by
 unfold jm;rw[mO];by_cases h:p.1=k
 ·simp[h]
 ·simp[h]
theorem zkw (kvs:List (List Key×D))(k j:List Key)(y:D)(h:jm kvs k=none):jm (kvs++[(k,y)]) j=if k=j then some y else jm kvs j:=by
 induction kvs with
 | nil=>rw[nF,U_]
 | cons p r ih =>
  rw[U_]at h
  split at h
  ·cases h
  ·rename_i hn;rw[nG,U_,U_,ih h];by_cases e:p.1=j
   ·rw[if_pos e,if_pos e,if_neg (λz=>hn (e.trans z.symm))]
   ·rw[if_neg e,if_neg e]
theorem ak.keys {K:PySem.W.Frag}{μ:List Addr}{H:Hp}:∀{ds:List D} {xs:List V} {ks:List Key},ak K μ H ds xs->keysOf ds=some ks->xs=ks.map kV
 | [],xs,ks,h,e=>by
  rw[ak]at h;rw[znk]at e;cases e;exact h
 | d::ds,xs,ks,h,e=>by
  rw[ak]at h;obtain⟨v,r,rfl,h1,h2⟩:=h;rw[zic]at e;cases e1:keyOf d with
  | none=>rw[e1]at e;cases e
  | some k1 =>
   rw[e1]at e;cases e2:keysOf ds with
   | none=>rw[e2]at e;cases e
   | some o_ =>
    rw[e2]at e;cases e;rw[ak.keys h2 e2];have:v=kV k1:=by
     cases d with
     | int i=>rw[ao.aO]at h1;cases e1;exact h1
     | str cs=>rw[ao.aU]at h1;cases e1;exact h1
     | _=>cases e1
    rw[this];rfl
theorem zho:∀{ds:List D} {ks:List Key},keysOf ds=some ks->wJ ds=false
 | [],_,_=>rfl
 | d::ds,ks,e=>by
  rw[zic]at e;cases e1:keyOf d with
  | none=>rw[e1]at e;cases e
  | some k1 =>
   rw[e1]at e;cases e2:keysOf ds with
   | none=>rw[e2]at e;cases e
   | some o_ =>
    have ih:=zho e2;cases d with
    | int i=>rw[wJ];exact ih
    | str cs=>rw[wJ];exact ih
    | _=>cases e1
theorem yE.made {K:PySem.W.Frag}{H:Hp}{a:Addr}{xs:List V}{ds:List D}{ks:List Key}(h:yE K H a xs ds)(e:keysOf ds=some ks):H a=some (.tup xs):=by
 rcases h with h | ⟨h,_⟩
 ·exact h
 ·rw[zho e]at h;cases h
theorem aM.val {K:PySem.W.Frag}{μ:List Addr}{H:Hp}{k:List Key}:∀{kvs:List (List Key×D)} {ws:List (List Key×V)},aM K μ H kvs ws ->
  (jm kvs k=none/\jT ws k=none)\/∃d v,jm kvs k=some d/\jT ws k=some v/\ao K μ H d v
 | [],ws,h=>.inl ⟨rfl,by rw[aM]at h;rw[h];rfl⟩
 | (j,d)::r,ws,h=>by
  obtain⟨v,r',rfl,h1,h2⟩:=h;rw[U_];by_cases e:j=k
  ·rw[if_pos e];exact .inr ⟨d,v,rfl,W9 (p:=(j,v)) e,h1⟩
  ·rw[if_neg e,Xa (p:=(j,v)) e];exact aM.val h2
theorem aM.snoc {K:PySem.W.Frag}{μ:List Addr}{H:Hp}{k:List Key}{d:D}{v:V}:∀{kvs:List (List Key×D)} {ws:List (List Key×V)},aM K μ H kvs ws->ao K μ H d v->aM K μ H (kvs++[(k,d)]) (ws++[(k,v)])
 | [],ws,h,hv=>by rw[aM]at h;subst h;exact⟨v,[],rfl,hv,rfl⟩
 | (j,d')::r,ws,h,hv=>by
  obtain⟨v',r',rfl,h1,h2⟩:=h;exact⟨v',r'++[(k,v)],rfl,h1,aM.snoc h2 hv⟩
theorem aM.len {κ:Type}{K:PySem.W.Frag}{μ:List Addr}{H:Hp}:∀{kvs:List (κ×D)} {ws:List (κ×V)},aM K μ H kvs ws->kvs.length=ws.length
 | [],ws,h=>by rw[aM]at h;rw[h];rfl
 | (j,d)::r,ws,h=>by
  obtain⟨v,r',rfl,h1,h2⟩:=h;rw[g8,g8,aM.len h2]
theorem aV.dic {K:PySem.W.Frag}{μ:List Addr}{H:Hp}{st:aq}{n:Nat}{kvs:List (List Key×D)}(h:aV K μ H st)(e:st[n]? = some (.dic kvs)):∃p ws,μ[n]? = some p/\H p=some (.dT ws)/\aM K μ H kvs ws:=by
 obtain⟨p,h1,xs,h2,h3⟩:=h.at_ n _ e;exact⟨p,xs,h1,h2,h3⟩
section
variable {X:Cx}{e a b c o:Expr}{es:List Expr}{ma mb mc mo:ME}{mA:MA}{pos p2 p apos iK:Pos}
noncomputable def xK:ME:=λ_ st=>.ok (.loc st.length) (st++[.dic []])
theorem zle:JE X (.Dict [] [] pos) xK:=by
 refine JE.of Gu fun σ H Q zz=>?_;obtain⟨μ,env,st,hE,hs,hp⟩:=zz;refine λp hn=>?_;have hr:jk X.K (μ++[p]) (upd H p (.dT [])) p (.dic []):=⟨[],uv,rfl⟩;exact hp _ _ (μ++[p]) (bC.new hn) (hs.new hn hr) (ao.aN.mpr ⟨p,by rw[<-hs.len];simp,rfl⟩)
noncomputable def yw:D->List D->aq->R D
 | .loc n,[.tup ks],st=>match st[n]?,keysOf ks with
  | some (.dic kvs),some k=>.ok ((jm kvs k).getD .non) st
  | _,_=>.bad
 | _,_,_=>.bad
theorem L_ (hu:X.A.units+1<cLine):yH X "dict.get" (Rm X yw):=by
 rintro pins s σ H x xs v us Q I rx Q_ ⟨μ,st,d,ds,hs,hx,uB,hp⟩;unfold yw at hp
 split at hp
 ·rename_i n ks
  split at hp
  ·rename_i kvs k e1 e2;obtain⟨p,q1,rfl⟩:=ao.aN.mp hx;obtain⟨y,rfl,q2⟩:=ak.one uB;obtain⟨b,ys,rfl,q3,q4⟩:=ao.aY.mp q2;replace q3:=q3.made e2;obtain rfl:=q4.keys e2;obtain⟨p',ws,r1,r2,r3⟩:=hs.dic e1;rw[q1]at r1;cases r1;cases Q_ with
   | cons ry rr =>
    cases rr;obtain rfl:v=Value.ref p:=rx;refine Up hu I (qU.t r2 q3) ry λw' s' I' B_=>⟨_,H,I',B_,?_⟩;rcases r3.val (k:=k) with⟨z1,z2⟩ | ⟨d',v',z1,z2,z3⟩
    ·rw[z1]at hp;rw[z2];exact hp.ret hs (ao.bL.mpr rfl)
    ·rw[z1]at hp;rw[z2];exact hp.ret hs z3
  ·exact hp.elim
 ·exact hp.elim
noncomputable def qX:D->List D->aq->R D
 | .loc n,[.tup ks,d],st=>match st[n]?,keysOf ks with
  | some (.dic kvs),some k=>if kvs.length<1000000 then (match jm kvs k with
   | some d'=>.ok d' st
   | none=>.ok d (st.set n (.dic (kvs++[(k,d)])))) else .bad
  | _,_=>.bad
 | _,_,_=>.bad
theorem zmg (hu:X.A.units+1<cLine):yH X "dict.setdefault" (Rm X qX):=by
 rintro pins s σ H x xs v us Q I rx Q_ ⟨μ,st,d,ds,hs,hx,uB,hp⟩;unfold qX at hp
 split at hp
 ·rename_i n ks d1
  split at hp
  ·rename_i kvs k e1 e2
   split at hp
   ·rename_i hl;obtain⟨p,q1,rfl⟩:=ao.aN.mp hx;obtain⟨y,z,rfl,q2,q5⟩:=ak.two uB;obtain⟨b,ys,rfl,q3,q4⟩:=ao.aY.mp q2;replace q3:=q3.made e2;obtain rfl:=q4.keys e2;obtain⟨p',ws,r1,r2,r3⟩:=hs.dic e1;rw[q1]at r1;cases r1;cases Q_ with
    | cons ry rr =>
     cases rr with
     | cons rz rr =>
      cases rr;obtain rfl:v=Value.ref p:=rx;rename_i uy uz;obtain rfl:uy=Value.ref b:=ry;refine Je hu I r2 q3 rz (by rw[<-r3.len];exact gP hl (by decide)) (λx' w' s' ex B_ I'=>⟨_,H,I',B_,?_⟩) λen s' I'=>⟨_,_,I',rz,?_⟩
      ·rcases r3.val (k:=k) with⟨z1,z2⟩ | ⟨d',v',z1,z2,z3⟩
       ·rw[z2]at ex;cases ex
       ·rw[z1]at hp;rw[z2]at ex;cases ex;exact hp.ret hs z3
      ·rcases r3.val (k:=k) with⟨z1,z2⟩ | ⟨d',v',z1,z2,z3⟩
       ·rw[z1]at hp;have g:Ext H (upd H p (.dT (ws++[(k,z)]))):=Ext.mut r2 (λ_ z=>nomatch z) (λ_ _ z=>nomatch z);have g':bC μ H μ (upd H p (.dT (ws++[(k,z)]))):=⟨⟨[],by simp⟩,g⟩;exact hp _ _ μ g' (hs.put e1 rfl rfl q1 g ⟨_,uv,(r3.snoc q5).mono g'⟩) (q5.mono g' _)
       ·rw[z2]at en;cases en
   ·exact hp.elim
  ·exact hp.elim
 ·exact hp.elim
end
end M
namespace L2
open PySem PySem.Spec PyProof.Rows
noncomputable def Its (x:Str):It:=⟨λi _=>i<x.cps.size,λi H y H'=>H'=H/\∃c,x.cps[i]? = some c/\y=.str ⟨#[c]⟩,λi _=>x.cps.size<=i⟩
theorem Fo {P:Program}{w:World}{K:PySem.W.Frag}{tg:Expr}(it:Addr)(x:Str)(t:Tok):Turn P w K tg (Its x) [it] it (λi h=>h.IsStrIter it "str_ascii_iterator" x t i) where
 mem:=by simp
 obj:=λi h st b hb=>by
  have e:b=it:=by simpa using hb
  subst e;obtain⟨o,e,c,d⟩:=st;exact⟨o,e,λv z=>by rw[d]at z;cases z⟩
 keep:=λi h h' st k=>by
  obtain⟨o,e,c,d⟩:=st;exact⟨o,k it (by simp) o e,c,d⟩
 item:=by
  intro X hP hw hK hc i pins s σ H E I hf st hg;subst hP hw hK;obtain⟨f0,f1,f2,f3,f4,f5⟩:=hf it (by simp);have hi:i<x.cps.size:=hg;refine wpAny_pyNext_ascii_item st (kO hi) λh' st' sb=>?_;have I1:Inv X pins σ H { s with heap:=h',toks:=s.toks+1 }:=I.turned (λb o hb e=>(sb.2 b hb).trans e) f0 f1 f3 f4 f5;obtain⟨o,e,c,d⟩:=id st';exact⟨_,rfl,wR (s:={ s with heap:=h',toks:=s.toks+1 }) e c d (by decide) ⟨.str ⟨#[x.cps[i]]⟩,H,I1,⟨_,rfl⟩,⟨rfl,_,kO hi,rfl⟩,st',λb hb=>(hf b hb).1⟩⟩
 done:=by
  intro X hP hw hK hc i pins s σ H E I hf st hg;subst hP hw hK;obtain⟨f0,f1,f2,f3,f4,f5⟩:=hf it (by simp);have hi:x.cps.size<=i:=hg;exact wpAny_pyNext_ascii_end (I.ok.hd hc) st (m_ hi) λh' eb=>⟨rfl,I.turned (t':=s.toks) (λb o hb e=>eb b o hb e) f0 f1 f3 f4 f5⟩
 self:=λ_ _ _ _ _ st h=>wpAny_pyIter_striter_ascii st h
noncomputable def abQ (tl:TE):TI:=fun σ H R=>tl σ H λy H1=>∃x,y=.str x/\strIterType x = "str_ascii_iterator"/\R (Its x) H1
theorem Rz {X:Cx}{tg l:Expr}{tl:TE}(hl:PE X l tl):PI X tg l (abQ tl):=by
 intro pins s σ H R I h;refine dz (hl pins s σ H _ I h) λv s1 zz=>?_;obtain⟨y,H1,I1,r1,q1⟩:=zz;obtain⟨x,e,ha,q⟩:=q1;subst e;obtain⟨t,rfl⟩:=r1;refine wpAny_pyIter_strU ?_;rw[ha];refine⟨s1.heap.objs.size,[s1.heap.objs.size],_,_,H1,rfl,I1.kept (t':=s1.toks) λb o e=>gq _ e,Fo _ x t,⟨_,gH _ rfl,rfl,rfl⟩,λb hb=>?_,q⟩;have e:b=s1.heap.objs.size:=by simpa using hb
 subst e;exact I1.zF (gh _) (I1.bV.fresh (gh _))
end L2
namespace M
open PySem PySem.Spec L2
section
variable {X:Cx}{tg l:Expr}{ml:ME}{μ:List Addr}{H:Hp}
noncomputable def By (m:ME):MI:=λenv st=>(m env st).bind λd st1=>match d with
 | .str cs=>if cs.all (λc=>decide (c<128))=true then .ok (cs.map λc=>D.str [c],[]) st1 else .bad
 | _=>.bad
theorem Mu (cs:List Nat):vN X μ H (Its (strOf cs)) (cs.map λc=>D.str [c],[]):=by
 intro H' μ' st' g hs ok;refine⟨λi d e=>?_,by show (strOf cs).cps.size<=_;simp⟩;rw[gF]at e;obtain⟨c,e1,rfl⟩:=my.mp e;refine⟨by show i<(strOf cs).cps.size;simpa using (gj.mp e1).1,?_⟩;rintro x Ke ⟨rfl,c',hc,rfl⟩;have:c'=c:=by
  have h2:cs[i]? = some c':=by simpa using hc
  rw[e1]at h2;exact (Option.some.inj h2).symm
 subst this;exact⟨.refl _ _,hs,ao.aU.mpr rfl⟩
theorem Hs (hl:JE X l ml):JI X tg l (By ml):=by
 refine JI.of (Rz hl) fun σ H R zz=>?_;obtain⟨μ,env,st,hE,hs,hp⟩:=zz;refine⟨μ,env,st,hE,hs,(cg.bind hp).imp ?_⟩;rintro v H1 ⟨μ1,st1,d,g1,bQ,hv,aZ⟩;dsimp only at aZ
 split at aZ
 ·rename_i cs
  split at aZ
  ·rename_i hc;obtain rfl:=ao.aU.mp hv;refine⟨strOf cs,rfl,?_,aZ _ _ _ (.refl _ _) bQ (Mu cs)⟩;unfold strIterType;rw[if_pos];show (cs.toArray.all _)=true;rw[List.all_toArray];exact hc
  ·exact aZ.elim
 ·exact aZ.elim
end
end M
namespace L2
open PySem PySem.Spec PyProof.Rows
theorem Inv.but {X:Cx}{pins:List (Addr×Obj)}{σ:St}{H:Hp}{s:Shared}{h':Heap}{t':Nat}(I:Inv X pins σ H s)(k:∀b o,b≠X.env.locals->s.heap.get? b=some o->h'.get? b=some o)
  (ns:∀m,s.heap.Ns X.env.locals m->h'.Ns X.env.locals m):Inv X pins σ H { s with heap:=h',toks:=t' }:=by
 have Zk:∀b u,H b=some u->b≠X.env.locals:=λb u e z=>by rw[z,I.free]at e;cases e
 refine I.step (g':=s.gens) (d':=s.drawn) (ch:=[]) (λ_ z=>nomatch z) (λb o hL _ _ e _=>k b o hL e) (λb o hL _ _ e _=>⟨o.slots,k b o hL e⟩) (λ_ _ _ _ n=>n) (λb o _ e=>?_) (λ_ _ e=>e) (λ_ _ _ e=>e) (λb ps e=>⟨#[],by rw[e];simp⟩) ns (λb u e=>?_) I.bare
 ·by_cases hb:b=X.env.locals
  ·subst hb;obtain⟨m,hm,_⟩:=I.loc;obtain⟨o',_,_,q,_⟩:=ns m hm;exact⟨o',q⟩
  ·exact⟨o,k b o hb e⟩
 ·refine (I.bV b u e).vY (λc v hc q=>k c v ?_ q) (λc q=>q) λc xs q=>q;rcases hc with z | z
  ·rw[z];exact Zk b u e
  ·exact Zk c _ z
theorem DR {X:Cx}(hc:X.A.handled=none):cu X (.builtin "sum") (λxs H Q=>∃(p:Addr) (ns:List Int),xs=[.ref p]/\uW X.K H p (ns.map V.int)/\Q (.int ns.sum) H):=by
 rintro pins s σ H xs us Q I hr ⟨p,ns,rfl,hq,h⟩;cases hr with
 | cons r1 r2 =>
  cases r2;cases r1;obtain⟨its,rv,pl,hz⟩:=I.list hq;have hi:IntsAre its ns:=by
   have key:∀(ns:List Int) (its:List Value),Vals (ns.map V.int) its->IntsAre its ns:=by
    intro ns
    induction ns with
    | nil=>intro its h;cases h;exact .nil
    | cons n ns ih =>
     intro its h;cases h with
     | cons r1 r2 =>
      obtain⟨t,rfl⟩:=r1;exact .cons n t (ih _ r2)
   exact key ns its rv
  obtain⟨m,hm,_⟩:=id I.loc;obtain⟨o,ho,_⟩:=id pl.isList;have qY:p≠X.env.locals:=λz=>by
   obtain⟨o',es,ep,q1,q2,_⟩:=hm;obtain⟨o2,w1,w2,w3⟩:=id pl.isList;rw[z,q1]at w1;cases w1;rw[q2]at w3;obtain⟨_,w4⟩:=w3;cases w4
  refine LSm.sum_ints (Wz.Iu hm) (Wz.zlx qY ho) hc pl.isList hi λh' tk t' F' N'=>⟨.int ns.sum,H,I.but (λb ob hb e=>?_) (λm' TJ=>?_),⟨t',rfl⟩,h⟩
  ·by_cases hbp:b=p
   ·subst hbp;rw[ho]at e;cases e;exact N'.get (List.Mem.head _)
   ·exact N'.get (List.Mem.tail _ (Wz.zjo.mpr ⟨hb,hbp,e⟩))
  ·have:m'=m:=by
    obtain⟨o1,qZ,ep1,q1,q2,_,q3⟩:=hm;obtain⟨o2,Qe,ep2,w1,w2,_,w3⟩:=TJ;rw[q1]at w1;cases w1;rw[q2]at w2;cases w2;funext x;rw[<-q3 x,<-w3 x]
   subst this;exact F'.ns
end L2
namespace M
open PySem PySem.Spec L2
noncomputable def intsOf:List D->Option (List Int)
 | []=>some []
 | .int i::r=>(intsOf r).map (i :: ·)
 | _::_=>none
theorem zkc {K:PySem.W.Frag}{μ:List Addr}{H:Hp}:∀{ds:List D} {xs:List V} {ns:List Int},intsOf ds=some ns->ak K μ H ds xs->xs=ns.map V.int
 | [],_,_,e,h=>by cases e;rw[ak]at h;exact h
 | d::ds,_,ns,e,h=>by
  rw[ak]at h;obtain⟨v,t,rfl,h1,h2⟩:=h;cases d with
  | int i =>
   simp only[intsOf]at e;cases q:intsOf ds with
   | none=>rw[q]at e;cases e
   | some bs' =>
    rw[q]at e;cases e;rw[ao.aO]at h1;subst h1;rw[zkc q h2];rfl
  | _=>simp[intsOf]at e
noncomputable def Bw:List D->aq->R D
 | [.loc n],st=>match (az st n).bind intsOf with | some ns=>.ok (.int ns.sum) st | none=>.bad
 | _,_=>.bad
theorem DQ {X:Cx}(hc:X.A.handled=none):cu X (.builtin "sum") (JX X Bw):=by
 refine cu.weak (DR hc) ?_;rintro xs H Q ⟨μ,st,ds,hs,hv,hp⟩;unfold Bw at hp
 split at hp
 ·rename_i n;cases e:az st n with
  | none=>rw[e]at hp;exact hp.elim
  | some l =>
   rw[e]at hp;cases e2:intsOf l with
   | none=>simp only[mR,e2]at hp;exact hp.elim
   | some ns =>
    simp only[mR,e2]at hp;obtain⟨v,rfl,q⟩:=ak.one hv;obtain⟨p,q1,rfl⟩:=ao.aN.mp q;obtain⟨p',ys,r1,r2,r3⟩:=hs.items e;rw[q1]at r1;cases r1;rw[zkc e2 r3]at r2;exact⟨p,ns,rfl,r2,hp.ret hs (ao.aO.mpr rfl)⟩
 ·exact hp.elim
end M
namespace M
open L2
theorem U8 {α:Type}(xs:List α)(c:Nat):cut xs (some (c:Int)) none=xs.drop c:=by
 unfold cut;rw[HT.U9,HT.zog];by_cases h:c<=xs.length
 ·rw[Nat.min_eq_left h,List.take_of_length_le (by simp)]
 ·rw[Nat.min_eq_right (by omega),n6 (gh _),n6 (by omega)];simp
theorem N6 (lo:Int)(n:Nat):(je lo n).length=n:=by simp[je]
theorem W0 {α:Type}(l:List α)(i:Int)(h:0<l.length):∃(j:Nat) (hj:j<l.length),i % (l.length:Int)=(j:Int)/\sy l (i % (l.length:Int))=some l[j]:=by
 have h1:=nZ i (show (l.length:Int)≠0 by omega);have h2:=n_ i (show 0<(l.length:Int) by omega);obtain⟨j,hj⟩:=kh h1;have hl:j<l.length:=by omega
 exact⟨j,hl,hj,by rw[hj,Ey];exact gM hl⟩
section
variable (st:aq)
theorem Qu (cs:List Nat)(i:Int)(c:Nat)(h:cs.length<=1000000)(hi:sy cs i=some c):bh (.str cs) (.int i) st=.ok (.str [c]) st:=by simp[bh,h,hi]
theorem xZ (a b:List Nat)(h:a.length+b.length<=1000000):bj (.str a) (.str b) st=.ok (.str (a++b)) st:=by simp[bj,h]
theorem xU (cs:List Nat)(lo hi:Option Int)(h:cs.length<=1000000):rP (.str cs) lo hi st=.ok (.str (cut cs lo hi)) st:=by simp[rP,h]
theorem Cg (cs:List Nat)(h:cs.length<=1000000):uP [.str cs] st=.ok (.int cs.length) st:=by simp[uP,h]
@[simp] theorem abu (env:bA):xK env st=.ok (.loc st.length) (st++[.dic []]):=iT rfl
@[simp] theorem Rc (a:ME) (env:bA):By a env st=(a env st).bind λd st1=>match d with
 | .str cs=>if cs.all (λc=>decide (c<128))=true then .ok (cs.map λc=>D.str [c],[]) st1 else .bad
 | _=>.bad:=iT rfl
end
end M
namespace M
open PySem PySem.Spec L2
section
variable {X:Cx}
noncomputable def Dh (neg:Bool):D->D->aq->R D
 | .tup ks,.loc n,st=>match st[n]?,keysOf ks with
  | some (.dic kvs),some k=>.ok (.bl (if neg then !(jm kvs k).isSome else (jm kvs k).isSome)) st
  | _,_=>.bad
 | _,_,_=>.bad
theorem H_ {H:Hp}{x y:V}{Q:VK}{neg:Bool}(h:rM X (Dh neg) x y H Q):∃p o,y=.ref p/\qU H p x o/\Q (.bl (if neg then !o.isSome else o.isSome)) H:=by
 obtain⟨μ,st,dx,dy,hs,hx,hy,hp⟩:=h;unfold Dh at hp
 split at hp
 ·rename_i ks n
  split at hp
  ·rename_i kvs k e1 e2;obtain⟨p,q1,rfl⟩:=ao.aN.mp hy;obtain⟨b,ys,rfl,q3,q4⟩:=ao.aY.mp hx;replace q3:=q3.made e2;obtain rfl:=q4.keys e2;obtain⟨p',ws,r1,r2,r3⟩:=hs.dic e1;rw[q1]at r1;cases r1;refine⟨p,_,rfl,qU.t r2 q3,?_⟩;rcases r3.val (k:=k) with⟨z1,z2⟩ | ⟨d',v',z1,z2,z3⟩
   ·rw[z1]at hp;rw[z2];exact hp.ret hs (ao.bH.mpr rfl)
   ·rw[z1]at hp;rw[z2];exact hp.ret hs (ao.bH.mpr rfl)
  ·exact hp.elim
 ·exact hp.elim
theorem zon (hu:X.A.units+1<cLine):dG X (compareOp .NotIn) (rM X (Dh true)):=by
 intro pins s σ H x y v u Q I rx ry h;obtain⟨p,o,rfl,g,q⟩:=H_ h;obtain rfl:u=Value.ref p:=ry;exact Nr hu I g rx λs' I'=>⟨.bl (!o.isSome),H,I',rfl,q⟩
noncomputable def Ck (kvs:List (List Key×D))(k:List Key)(d:D):List (List Key×D) :=
 if (kvs.any λkv=>decide (kv.1=k))=true then kvs.map (λkv=>if kv.1=k then (kv.1,d) else kv) else kvs++[(k,d)]
theorem aM.any {K:PySem.W.Frag}{μ:List Addr}{H:Hp}{k:List Key}:∀{kvs:List (List Key×D)} {ws:List (List Key×V)},aM K μ H kvs ws->(kvs.any λkv=>decide (kv.1=k))=(ws.any λkv=>decide (kv.1=k))
 | [],ws,h=>by rw[aM]at h;rw[h];rfl
 | (j,d)::r,ws,h=>by
  obtain⟨v,r',rfl,h1,h2⟩:=h;rw[mD,mD,aM.any h2]
theorem aM.repl {K:PySem.W.Frag}{μ:List Addr}{H:Hp}{k:List Key}{d:D}{v:V}(hv:ao K μ H d v):∀{kvs:List (List Key×D)} {ws:List (List Key×V)},aM K μ H kvs ws->aM K μ H (kvs.map λkv=>if kv.1=k then (kv.1,d) else kv) (ws.map λkv=>if kv.1=k then (kv.1,v) else kv)
 | [],ws,h=>by rw[aM]at h;subst h;exact rfl
 | (j,d')::r,ws,h=>by
  obtain⟨v',r',rfl,h1,h2⟩:=h;rw[gB,gB];by_cases e:j=k
  ·rw[if_pos e,if_pos e];exact⟨v,_,rfl,hv,aM.repl hv h2⟩
  ·rw[if_neg e,if_neg e];exact⟨v',_,rfl,h1,aM.repl hv h2⟩
theorem aM.put {K:PySem.W.Frag}{μ:List Addr}{H:Hp}{k:List Key}{d:D}{v:V}{kvs:List (List Key×D)}{ws:List (List Key×V)}(h:aM K μ H kvs ws)(hv:ao K μ H d v):aM K μ H (Ck kvs k d) (putK ws k v):=by
 unfold Ck putK;rw[h.any]
 split
 ·exact aM.repl hv h
 ·exact h.snoc hv
noncomputable def oO:D->D->D->aq->R Unit
 | .loc n,.tup ks,d,st=>match st[n]?,keysOf ks with
  | some (.dic kvs),some k=>if kvs.length<1000000 then .ok () (st.set n (.dic (Ck kvs k d))) else .bad
  | _,_=>.bad
 | _,_,_,_=>.bad
theorem y_ (hu:X.A.units+1<cLine):wz X (Ae X oO):=by
 rintro pins s σ H o i v ov iv u Q I ro ri rv ⟨μ,st,d1,d2,d3,hs,h1,h2,h3,hp⟩;unfold oO at hp
 split at hp
 ·rename_i n ks d
  split at hp
  ·rename_i kvs k e1 e2
   split at hp
   ·rename_i hl;obtain⟨p,q1,rfl⟩:=ao.aN.mp h1;obtain⟨b,ys,rfl,q3,q4⟩:=ao.aY.mp h2;replace q3:=q3.made e2;obtain rfl:=q4.keys e2;obtain⟨p',ws,r1,r2,r3⟩:=hs.dic e1;rw[q1]at r1;cases r1;obtain rfl:ov=Value.ref p:=ro;refine zky hu I (zM.t r2 q3 (by rw[<-r3.len];exact gP hl (by decide))) ri rv λs' I'=>⟨_,I',?_⟩;have g:Ext H (upd H p (.dT (putK ws k v))):=Ext.mut r2 (λ_ z=>nomatch z) (λ_ _ z=>nomatch z);have g':bC μ H μ (upd H p (.dT (putK ws k v))):=⟨⟨[],by simp⟩,g⟩;exact hp () _ μ g' (hs.put e1 rfl rfl q1 g ⟨_,uv,(r3.put h3).mono g'⟩) trivial
   ·exact hp.elim
  ·exact hp.elim
 ·exact hp.elim
end
end M
namespace L2
open PySem PySem.Spec PyProof.Rows
theorem znl:∀(ys:List Str) (its:List Value),Vals (ys.map V.str) its->StrsAre its ys
 | [],_,h=>by cases h;exact .nil
 | y::ys,_,h=>by
  cases h with
  | cons r1 r2 =>
   obtain⟨t,rfl⟩:=r1;exact .cons y t (znl ys _ r2)
theorem G3 {X:Cx}:yH X "str.join" (λx xs H Q=>∃(z:Str) (p:Addr) (ys:List Str),x=.str z/\xs=[.ref p]/\uW X.K H p (ys.map V.str)/\(ys.map λy=>y.length).sum+ys.length*z.length<=16777216/\Q (.str (Txt.join z ys)) H):=by
 rintro pins s σ H x xs v us Q I rx Q_ ⟨z,p,ys,rfl,rfl,hq,hz,h⟩;obtain⟨t,rfl⟩:=rx;cases Q_ with
 | cons r1 r2 =>
  cases r2;cases r1;obtain⟨its,rv,pl,_⟩:=I.list hq;exact join_list pl.isList (znl ys its rv) hz λt' k=>⟨.str (Txt.join z ys),H,I.kept (t':=k) λb u h=>h,⟨t',rfl⟩,h⟩
end L2
namespace M
open PySem PySem.Spec L2
section
variable {X:Cx}
noncomputable def jf:List D->Option (List (List Nat))
 | []=>some []
 | .str cs::r=>(jf r).map (cs :: ·)
 | _::_=>none
theorem zk2 {K:PySem.W.Frag}{μ:List Addr}{H:Hp}:∀{ds:List D} {xs:List V} {ts:List (List Nat)},jf ds=some ts->ak K μ H ds xs->xs=(ts.map strOf).map V.str
 | [],_,_,e,h=>by cases e;rw[ak]at h;exact h
 | d::ds,_,ts,e,h=>by
  rw[ak]at h;obtain⟨v,t,rfl,h1,h2⟩:=h;cases d with
  | str cs =>
   simp only[jf]at e;cases q:jf ds with
   | none=>rw[q]at e;cases e
   | some ts' =>
    rw[q]at e;cases e;rw[ao.aU]at h1;subst h1;rw[zk2 q h2];rfl
  | _=>simp[jf]at e
noncomputable def joinM (sep:List Nat)(ts:List (List Nat)):List Nat:=(Txt.join (strOf sep) (ts.map strOf)).cps.toList
noncomputable def tD:D->List D->aq->R D
 | .str sep,[.loc n],st=>match (az st n).bind jf with
  | some ts=>if (ts.map List.length).sum+ts.length*sep.length<=1000000 then .ok (.str (joinM sep ts)) st else .bad
  | none=>.bad
 | _,_,_=>.bad
theorem zks:yH X "str.join" (Rm X tD):=by
 refine yH.weak G3 ?_;rintro x xs H Q ⟨μ,st,d,ds,hs,hx,uB,hp⟩;unfold tD at hp
 split at hp
 ·rename_i sep n;cases e:az st n with
  | none=>rw[e]at hp;exact hp.elim
  | some l =>
   rw[e]at hp;cases e2:jf l with
   | none=>simp only[mR,e2]at hp;exact hp.elim
   | some ts =>
    simp only[mR,e2]at hp
    split at hp
    ·rename_i hl;obtain⟨v,rfl,q⟩:=ak.one uB;obtain⟨p,q1,rfl⟩:=ao.aN.mp q;obtain⟨p',ys,r1,r2,r3⟩:=hs.items e;rw[q1]at r1;cases r1;rw[zk2 e2 r3]at r2;obtain rfl:=ao.aU.mp hx;refine⟨_,p,ts.map strOf,rfl,rfl,r2,?_,hp.ret hs (ao.aU.mpr rfl)⟩;rw[gW,gf];have e3:(ts.map ((λy:Str=>y.length)∘strOf))=ts.map List.length:=mU λt _=>by
      show (strOf t).cps.size=t.length;simp
     rw[e3];have e4:(strOf sep).length=sep.length:=by show (strOf sep).cps.size=sep.length;simp
     rw[e4];omega
    ·exact hp.elim
 ·exact hp.elim
end
noncomputable def rF (sep:List Nat):List (List Nat)->List Nat
 | []=>[]
 | [t]=>t
 | t::u::r=>t++sep++rF sep (u::r)
theorem Ku {a b:Str}(h:a.cps.toList=b.cps.toList):a=b:=by
 cases a;cases b;congr 1;exact Array.toList_inj.mp h
theorem zh6 (sep:Str):∀(ts:List Str),(sep.join ts).cps.toList=rF sep.cps.toList (ts.map λt=>t.cps.toList)
 | []=>by rw[PyProof.Rows.join_nil];rfl
 | [t]=>by rw[PyProof.Rows.join_one];rfl
 | t::u::r=>by
  have ih:=zh6 sep (u::r);rw[gB]at ih;rw[PyProof.Rows.join_cons_cons,gB,gB,rF,<-ih];show (t.cps++sep.cps++(sep.join (u::r)).cps).toList=_;simp
theorem Hr (sep:List Nat)(ts:List (List Nat)):joinM sep ts=rF sep ts:=by
 unfold joinM;rw[show Txt.join (strOf sep) (ts.map strOf)=(strOf sep).join (ts.map strOf) from StrLaws.glued_eq_join _ _,zh6,gW];have:(λt:Str=>t.cps.toList)∘strOf=id:=by funext t;simp
 rw[this,List.map_id]
end M
namespace L2
open PySem PySem.Spec PyProof.Rows
theorem zoh (cs:List Nat):∀(n:Nat) (a:Array Nat),(List.foldl (λx1 x2=>x1++x2) a (List.replicate n cs.toArray)).toList=a.toList++(List.replicate n cs).flatten
 | 0,a=>by simp
 | n+1,a=>by
  rw[pI,pI,pJ,zoh cs n,List.flatten_cons];simp
theorem znn {X:Cx}:dG X (binaryOp .Mult) (λx y H Q=>∃(cs:List Nat) (n:Nat),x=.str ⟨cs.toArray⟩/\y=.int n/\n<=1000000/\cs.length*n<=1000000/\Q (.str ⟨(List.replicate n cs).flatten.toArray⟩) H):=by
 intro pins s σ H x y v u Q I rx ry h;obtain⟨cs,n,rfl,rfl,hn,hz,q⟩:=h;obtain⟨t,rfl⟩:=rx;obtain⟨t',rfl⟩:=ry;have hlen:(Str.mk cs.toArray).length=cs.length:=by show cs.toArray.size=_;simp
 refine P.mul_str ?_ ?_ ?_ ?_
 ·rw[Bool.or_eq_false_iff];exact⟨decide_eq_false (by omega),decide_eq_false (by omega)⟩
 ·intro h1 h2;rw[hlen];have h3:(cs.length:Int)*(n:Int)<=2 ^ 63 - 1:=by
   have:((cs.length*n:Nat):Int)<=1000000:=by omega
   rw[Int.natCast_mul]at this;omega
  have:=(Int.le_ediv_iff_mul_le (show (0:Int)<(n:Int) by omega)).mpr h3;omega
 ·intro _ _;rw[hlen];unfold Builtin.Str.tooLong;rw[mC];exact decide_eq_false (by
   have ZM:1000000<=sizeLine:=by decide
   omega)
 ·split
  ·have h0:n=0:=by omega
   subst h0;exact⟨mQ _,.str ⟨#[]⟩,H,I.tok _,⟨_,rfl⟩,q⟩
  ·split
   ·rename_i h1 h2;have e:(List.replicate n cs).flatten=cs:=by
     rw[Bool.or_eq_true]at h2;rcases h2 with h2 | h2
     ·have:n=1:=by have:=eq_of_beq h2;omega
      subst this;simp
     ·have:cs=[]:=by rw[hlen]at h2;exact pH.mp (eq_of_beq h2)
      subst this;simp
    rw[e]at q;exact⟨.str ⟨cs.toArray⟩,H,I,⟨t,rfl⟩,q⟩
   ·have e:(Str.mk (List.foldl (λx1 x2=>x1++x2) #[] (List.replicate (n:Int).toNat cs.toArray)))=⟨(List.replicate n cs).flatten.toArray⟩:=by
     congr 1;apply Array.toList_inj.mp;rw[mC,zoh];simp
    rw[e];have Ii:(List.replicate n cs).flatten.length=n*cs.length:=by simp
    have wg:(Str.mk (List.replicate n cs).flatten.toArray).length<=sizeLine:=by
     show (List.replicate n cs).flatten.toArray.size<=sizeLine;rw[gK,Ii,Nat.mul_comm];exact gU hz (by decide)
    exact⟨wg,.str _,H,I.tok _,⟨_,rfl⟩,q⟩
end L2
namespace M
open PySem PySem.Spec L2
noncomputable def lK:D->D->aq->R D
 | .str cs,.int i,st=>if 0<=i/\i<=1000000/\cs.length*i.toNat<=1000000 then .ok (.str (List.replicate i.toNat cs).flatten) st else .bad
 | _,_,_=>.bad
theorem W_ {X:Cx}:dG X (binaryOp .Mult) (rM X lK):=by
 refine dG.weak znn ?_;rintro x y H Q ⟨μ,st,dx,dy,hs,hx,hy,hp⟩;unfold lK at hp
 split at hp
 ·rename_i cs i
  split at hp
  ·rename_i hc;obtain rfl:=ao.aU.mp hx;obtain rfl:=ao.aO.mp hy;obtain⟨n,rfl⟩:=kh hc.1;rw[mC]at hc hp;exact⟨cs,n,rfl,rfl,by omega,hc.2.2,hp.ret hs (ao.aU.mpr rfl)⟩
  ·exact hp.elim
 ·exact hp.elim
section
variable {X:Cx}{a b c:Expr}{ma mb mc:ME}{pos:Pos}
end
section
variable {X:Cx}{pos:Pos}{x:Str}
theorem Hx {d:D}{v:V}{u:Value}(hg:Gl X x)(hm:X.mg x=some u)(r:RelV v u)(hv:∀μ H,ao X.K μ H d v)(hd:(x==("__debug__":Str))=false:=by decide):JE X (.Name x pos) (ct d):=by
 refine JE.of (Ln hg hm r hd) fun σ H Q zz=>?_;obtain⟨μ,env,st,hE,hs,hp⟩:=zz;exact hp.ret hs (hv μ H)
theorem zO {y:Str}(cs:List Nat)(h:∃t,X.mg x=some (.str y t))(hy:y=strOf cs:=by rfl)(hg:Gl X x:=by rfl)(hd:(x==("__debug__":Str))=false:=by decide):JE X (.Name x pos) (ct (.str cs)):=by
 obtain⟨t,h⟩:=h;exact Hx (v:=.str y) hg h ⟨t,rfl⟩ (λ_ _=>ao.aU.mpr (by rw[hy])) hd
end
end M
namespace M
open L2
section
variable (st:aq)
theorem zb (sep:List Nat)(n:Nat)(ts:List (List Nat))(h:az st n=some (ts.map D.str))(hl:(ts.map List.length).sum+ts.length*sep.length<=1000000):tD (.str sep) [.loc n] st=.ok (.str (rF sep ts)) st:=by
 have e:jf (ts.map D.str)=some ts:=by
  clear h hl
  induction ts with
  | nil=>rfl
  | cons t ts ih=>simp[jf,ih]
 simp only[tD,h,mR,e];rw[if_pos hl,Hr]
end
theorem znf {α:Type}(xs:List α):cut xs none (some (-1))=xs.dropLast:=by
 unfold cut;rw[HT.U9];have:HT.cR xs.length xs.length (some (-1))=xs.length - 1:=by
  unfold HT.cR;dsimp only;rw[if_pos (by omega)];omega
 rw[this];simp[List.dropLast_eq_take]
theorem yW {g:MG}{b:MS}{gs:List (Nat×MO)}{items:List D}(I:Nat->bA->aq->Prop){env:bA}{st:aq}(h0:I 0 env st)
  (step:∀i d env st,items[i]? = some d->I i env st->vQ gs st/\∃bM st1,g d env st=.ok bM st1/\∃bw st2,(b bM st1=.ok (.nx bw) st2\/b bM st1=.ok (.cn bw) st2)/\I (i+1) bw st2)
  (xF:∀env st,I items.length env st->vQ gs st):∃di st',cW g b gs items env st=.ok (.nx di) st'/\I items.length di st':=by
 refine Dt (λpre env st=>I pre.length env st) h0 (λpre d post env st e hI=>?_) xF;have:=step pre.length d env st (by rw[e];simp) hI;simpa using this
theorem N7 {lo:Int}{n i:Nat}{d:D}(h:(je lo n)[i]? = some d):i<n/\d=.int (lo+(i:Nat)):=by
 have h2:i<n:=by
  have:=(gj.mp h).1;rwa[N6]at this
 unfold je at h;rw[gF,List.getElem?_range h2]at h;exact⟨h2,(Option.some.inj h).symm⟩
theorem YZ (ds:List D)(i:Int)(st:aq)(h0:0<=i)(h1:i<ds.length):∃d,d∈ds/\bh (.loc st.length) (.int i) (st++[.lst ds])=.ok d (st++[.lst ds]):=by
 obtain⟨j,rfl⟩:=kh h0;have hj:j<ds.length:=by omega
 exact⟨ds[j],m6 hj,xR _ _ _ ds _ (by simp) (by rw[Ey];exact gM hj)⟩
theorem wH (row:List Nat)(st:aq)(h:row.length<=1000000):rP (.str row) (some 1) none st=.ok (.str row.tail) st:=by
 rw[xU st _ _ _ h];have:=U8 row 1;rw[List.drop_one]at this;exact congrArg (λz=>R.ok (D.str z) st) this
theorem HD (c:Nat)(t:List Nat)(st:aq)(h:(c::t).length<=1000000):bh (.str (c::t)) (.int 0) st=.ok (.str [c]) st:=Qu st _ _ _ h (by have:=Ey (c::t) 0;simpa using this)
noncomputable def orS (a b:ME):ME:=λenv st=>(a env st).bind λx st1=>match x with
 | .str cs=>if cs.length<=1000000 then (if cs=[] then b env st1 else .ok x st1) else .bad
 | _=>.bad
@[simp] theorem acR (a b:ME) (env:bA) (st:aq):orS a b env st=(a env st).bind λx st1=>match x with
 | .str cs=>if cs.length<=1000000 then (if cs=[] then b env st1 else .ok x st1) else .bad
 | _=>.bad:=iT rfl
theorem zge {c:MT}{b:MS}:∀(n:Nat) (env:bA) (st:aq),bB c b n env st≠.bad->bB c b (n+1) env st=bB c b n env st
 | 0,env,st,h=>absurd (by rw[bB]) h
 | n+1,env,st,h=>by
  rw[bB]at h;rw[bB,bB];cases e:c env st with
  | bad=>rfl
  | err x s=>rfl
  | ok x st1 =>
   rw[e,R.aG]at h;rw[R.aG,R.aG];cases x with
   | false=>rfl
   | true =>
    rw[if_pos rfl]at h ⊢;rw[if_pos rfl];cases e2:b env st1 with
    | bad=>rfl
    | err x s=>rfl
    | ok o st2 =>
     rw[e2,R.aG]at h;rw[R.aG,R.aG];cases o with
     | nx bw=>exact zge n bw st2 h
     | cn bw=>exact zge n bw st2 h
     | bk bw=>rfl
     | rt d=>rfl
theorem zha {c:MT}{b:MS}{n:Nat}{env:bA}{st:aq}(h:bB c b n env st≠.bad):∀k,bB c b (n+k) env st=bB c b n env st
 | 0=>rfl
 | k+1=>by
  have:=zha h k;rw[<-Nat.add_assoc,zge (n+k) env st (by rw[this];exact h),this]
open Classical in
noncomputable def cO (c:MT)(b:MS):MS:=λenv st=>if h:∃n,bB c b n env st≠.bad then bB c b (Classical.choose h) env st else .bad
theorem Qv {c:MT}{b:MS}{n:Nat}{env:bA}{st:aq}(h:bB c b n env st≠.bad):cO c b env st=bB c b n env st:=by
 have hx:∃n,bB c b n env st≠.bad:=⟨n,h⟩;unfold cO;rw[dif_pos hx];have h2:=Classical.choose_spec hx;generalize Classical.choose hx=m at h2 ⊢;by_cases hmn:m<=n
 ·obtain⟨k,rfl⟩:=Nat.le.dest hmn;exact (zha h2 k).symm
 ·obtain⟨k,rfl⟩:=Nat.le.dest (show n<=m by omega);exact zha h k
theorem Bq {c:MT}{b:MS}{env:bA}{st:aq}:cO c b env st=.bad\/∃n,cO c b env st=bB c b n env st:=by
 unfold cO
 split
 ·exact .inr ⟨_,rfl⟩
 ·exact .inl rfl
theorem Va (c:MT)(b:MS)(env:bA)(st:aq):cO c b env st=(c env st).bind λx st1=>if x then (b env st1).bind λo st2=>(match o with
   | .nx bw=>cO c b bw st2
   | .cn bw=>cO c b bw st2
   | .bk bw=>.ok (.nx bw) st2
   | .rt d=>.ok (.rt d) st2) else .ok (.nx env) st1:=by
 have one:∀n,bB c b (n+1) env st=(c env st).bind λx st1=>if x then (b env st1).bind λo st2=>(match o with
   | .nx bw=>bB c b n bw st2
   | .cn bw=>bB c b n bw st2
   | .bk bw=>.ok (.nx bw) st2
   | .rt d=>.ok (.rt d) st2) else .ok (.nx env) st1:=λn=>by rw[bB]<;>rfl
 have bd:(∀n,bB c b (n+1) env st=.bad)->cO c b env st=.bad:=λh=>by
  unfold cO;rw[dif_neg];rintro ⟨n,hn⟩;cases n with
  | zero=>exact hn (by rw[bB])
  | succ n=>exact hn (h n)
 have go:∀(bw:bA) (st2:aq),(∀n,bB c b (n+1) env st=bB c b n bw st2)->cO c b env st=cO c b bw st2:=λbw st2 h=>by
  by_cases hx:∃n,bB c b n bw st2≠.bad
  ·obtain⟨n,hn⟩:=hx;rw[Qv hn,<-h n,Qv (n:=n+1) (by rw[h n];exact hn)]
  ·have e2:cO c b bw st2=.bad:=by unfold cO;rw[dif_neg hx]
   rw[e2];refine bd λn=>?_;rw[h n];by_cases q:bB c b n bw st2=.bad
   ·exact q
   ·exact absurd ⟨n,q⟩ hx
 cases e:c env st with
 | bad=>rw[R.tR];exact bd λn=>by rw[one n,e,R.tR]
 | err x s =>
  rw[R.tQ];have:bB c b 1 env st=.err x s:=by rw[one 0,e,R.tQ]
  rw[Qv (n:=1) (by rw[this];exact λz=>nomatch z),this]
 | ok x st1 =>
  rw[R.aG];cases x with
  | false =>
   have:bB c b 1 env st=.ok (.nx env) st1:=by rw[one 0,e,R.aG];rfl
   rw[Qv (n:=1) (by rw[this];exact λz=>nomatch z),this];rfl
  | true =>
   rw[if_pos rfl];cases e2:b env st1 with
   | bad=>rw[R.tR];exact bd λn=>by rw[one n,e,R.aG,if_pos rfl,e2,R.tR]
   | err x s =>
    rw[R.tQ];have:bB c b 1 env st=.err x s:=by rw[one 0,e,R.aG,if_pos rfl,e2,R.tQ]
    rw[Qv (n:=1) (by rw[this];exact λz=>nomatch z),this]
   | ok o st2 =>
    rw[R.aG];cases o with
    | nx bw=>exact go bw st2 λn=>by rw[one n,e,R.aG,if_pos rfl,e2,R.aG]
    | cn bw=>exact go bw st2 λn=>by rw[one n,e,R.aG,if_pos rfl,e2,R.aG]
    | bk bw =>
     have:bB c b 1 env st=.ok (.nx bw) st2:=by rw[one 0,e,R.aG,if_pos rfl,e2,R.aG]
     rw[Qv (n:=1) (by rw[this];exact λz=>nomatch z),this]
    | rt d =>
     have:bB c b 1 env st=.ok (.rt d) st2:=by rw[one 0,e,R.aG,if_pos rfl,e2,R.aG]
     rw[Qv (n:=1) (by rw[this];exact λz=>nomatch z),this]
noncomputable def cF (c:Nat)(cs:List Nat):List Nat:=(cs.reverse.dropWhile (λx=>decide (x=c))).reverse
noncomputable def sW:D->List D->aq->R D
 | .str cs,[.str [c]],st=>if cs.length<=1000000 then .ok (.str (cF c cs)) st else .bad
 | _,_,_=>.bad
noncomputable def HW:D->D->aq->R D
 | .str [c],.str cs,st=>if cs.length<=1000000 then .ok (.bl (decide (c∈cs))) st else .bad
 | _,_,_=>.bad
theorem zlc (c k:Nat)(st:aq)(h:k<=1000000):lK (.str [c]) (.int k) st=.ok (.str (List.replicate k c)) st:=by
 have e:∀k:Nat,(List.replicate k [c]).flatten=List.replicate k c:=λk=>by
  induction k with
  | zero=>rfl
  | succ k ih=>rw[pI,pI,List.flatten_cons,ih];rfl
 unfold lK;dsimp only;rw[if_pos (by simp;omega),mC,e]
theorem Ox (c:Nat):cF c []=[]:=rfl
theorem zj6 (c:Nat)(t:List Nat):cF c (t++[c])=cF c t:=by
 unfold cF;rw[pY];simp
theorem zjt (c x:Nat)(t:List Nat)(h:x≠c):cF c (t++[x])=t++[x]:=by
 unfold cF;rw[pY];simp[h]
theorem zjj (c:Nat)(t:List Nat)(h:c∉t):cF c t=t:=by
 by_cases ht:t=[]
 ·subst ht;rfl
 ·have e:=(pK ht).symm;rw[e];refine zjt _ _ _ λz=>h ?_;rw[<-z];exact List.getLast_mem ht
theorem zl5 (c:Nat)(t:List Nat):(cF c t).length<=t.length:=by
 unfold cF;have:∀(p:Nat->Bool) (l:List Nat),(l.dropWhile p).length<=l.length:=λp l=>by
  induction l with
  | nil=>simp
  | cons a l ih=>rw[List.dropWhile_cons];split<;>simp<;>omega
 have:=this (λx=>decide (x=c)) t.reverse;simpa using this
end M
namespace L2
open PySem PySem.Spec PyProof.Rows
section
variable {X:Cx}{a b:Expr}{rest:List Expr}{pos:Pos}{ta tb:TE}
noncomputable def aa0 (K:PySem.W.Frag)(ta tb:TE):TE:=fun σ H Q=>ta σ H λx H1=>∃k,NK K x H1 k/\if k=true then Q x H1 else tb σ H1 Q
theorem RM (ha:PE X a ta)(hb:PE X (.BoolOp .Or (b::rest) pos) tb):PE X (.BoolOp .Or (a::b::rest) pos) (aa0 X.K ta tb):=by
 intro pins s σ H Q I h;refine BoolOp_or (dz (ha pins s σ H _ I h) λv s1 zz=>?_);obtain⟨x,H1,I1,r1,q1⟩:=zz;refine dz (Fp pins s1 σ H1 x v (λk' H'=>if k'=true then Q x H' else tb σ H' Q) I1 r1 q1) λc s2 zz=>?_;obtain⟨H2,I2,q2⟩:=zz;cases c with
 | false=>exact hb pins s2 σ H2 Q I2 q2
 | true=>exact⟨x,H2,I2,r1,q2⟩
theorem zn2 {X:Cx}:yH X "str.rstrip" (λx xs H Q=>∃z y:Str,x=.str z/\xs=[.str y]/\z.length<=sizeLine/\Q (.str (Txt.rstripChars z y)) H):=by
 rintro pins s σ H x xs v us Q I rx Q_ ⟨z,y,rfl,rfl,hz,h⟩;obtain⟨t,rfl⟩:=rx;cases Q_ with
 | cons r1 r2 =>
  cases r2;obtain⟨u,rfl⟩:=r1;exact SCL.rstripChars (λt' k _=>⟨.str (Txt.rstripChars z y),H,I.kept (t':=k) λb u h=>h,⟨t',rfl⟩,h⟩) hz
end
end L2
namespace M
open PySem PySem.Spec L2
section
variable {X:Cx}{a b c:Expr}{ma mb mc:ME}{pos:Pos}{rest:List Expr}
theorem Ht (ha:JE X a ma)(hb:JE X (.BoolOp .Or (b::rest) pos) mb):JE X (.BoolOp .Or (a::b::rest) pos) (orS ma mb):=by
 refine JE.of (RM ha hb) fun σ H Q zz=>?_;obtain⟨μ,env,st,hE,hs,hp⟩:=zz;refine⟨μ,env,st,hE,hs,hp.bind.imp ?_⟩;rintro x H1 ⟨μ1,st1,d,g1,bQ,hx,aZ⟩;cases d with
 | str cs =>
  dsimp only at aZ
  split at aZ
  ·rename_i hl;have ht:vX (.str cs) st1=some (!cs.isEmpty):=by simp[vX,hl]
   refine⟨_,zR ht bQ hx,?_⟩;cases cs with
   | nil =>
    rw[if_pos rfl]at aZ;exact zu ⟨μ1,env,st1,hE.mono g1,bQ,aZ⟩
   | cons y t =>
    rw[if_neg (by simp)]at aZ;exact zr (aZ.ret bQ hx)
  ·exact aZ.elim
 | _=>exact aZ.elim
theorem zll {body:List Stmt}{tc:MT}{mb:MS}(hc:JT X c tc)(hb:yU X body mb)(hp:PassesOwn (model X.prog X.w) X.A X.env X.xe):JS X (.While c body [] pos) (cO tc mb):=by
 rintro pins s σ H D I ⟨μ,env,st,hE,hs,q⟩;rcases Bq (c:=tc) (b:=mb) (env:=env) (st:=st) with e | ⟨n,e⟩
 ·rw[e]at q;exact q.elim
 ·rw[e]at q;exact Ho n hc hb hp pins s σ H D I ⟨μ,env,st,hE,hs,q⟩
theorem Lz:dG X (compareOp .In) (rM X HW):=by
 refine dG.weak Cv ?_;rintro x y H Q ⟨μ,st,dx,dy,hs,hx,hy,hp⟩;unfold HW at hp
 split at hp
 ·rename_i c cs
  split at hp
  ·obtain rfl:=ao.aU.mp hx;obtain rfl:=ao.aU.mp hy;refine⟨_,_,rfl,rfl,?_⟩;have e:=PySem.StrLaws.found_one (strOf cs) c;have e2:(strOf [c])=⟨#[c]⟩:=rfl;rw[e2,e];refine hp.ret hs (ao.bH.mpr ?_);simp
  ·exact hp.elim
 ·exact hp.elim
theorem Ca (c:Nat)(cs:List Nat):(Txt.rstripChars (strOf cs) (strOf [c])).cps.toList=cF c cs:=by
 unfold Txt.rstripChars;rw[PyProof.Rows.stripBy_eq,PySem.StrLaws.strSub_toList];have hg:(strOf [c]).cps.contains=λx=>decide (x=c):=by
  funext x;rw[mV];simp
 rw[hg];have e:(strOf cs).length=cs.length:=by simp[Str.length,strOf]
 unfold PySem.stripHi PySem.stripLo;simp only[nW,if_false,if_true,List.drop_zero,Nat.sub_zero,e];unfold cF;have h1:=List.takeWhile_append_dropWhile (p:=λx=>decide (x=c)) (l:=cs.reverse);have h2:cs=(cs.reverse.dropWhile λx=>decide (x=c)).reverse++(cs.reverse.takeWhile λx=>decide (x=c)).reverse:=by
  rw[<-pY,h1,List.reverse_reverse]
 have h3:cs.length=(cs.reverse.dropWhile λx=>decide (x=c)).length+(cs.reverse.takeWhile λx=>decide (x=c)).length:=by
  have:=congrArg List.length h2;rw[gC,List.length_reverse,List.length_reverse]at this;exact this
 generalize (cs.reverse.dropWhile λx=>decide (x=c))=A at h2 h3 ⊢;generalize (cs.reverse.takeWhile λx=>decide (x=c))=B at h2 h3 ⊢;subst h2;simp
theorem znc:yH X "str.rstrip" (Rm X sW):=by
 refine yH.weak zn2 ?_;rintro x xs H Q ⟨μ,st,d,ds,hs,hx,hv,hp⟩;unfold sW at hp
 split at hp
 ·rename_i cs c
  split at hp
  ·rename_i hl;obtain rfl:=ao.aU.mp hx;obtain⟨v,rfl,q⟩:=ak.one hv;obtain rfl:=ao.aU.mp q;refine⟨_,_,rfl,rfl,?_,?_⟩
   ·have e:(strOf cs).length=cs.length:=by simp[Str.length,strOf]
    rw[e];exact Ew hl
   ·refine hp.ret hs (ao.aU.mpr ?_);congr 1;exact Ku (by rw[Ca])
  ·exact hp.elim
 ·exact hp.elim
end
end M
namespace L2
open PySem PySem.Spec PyProof.Rows PySem.Builtin PySem.Builtin.Str
end L2
namespace M
open PySem PySem.Spec L2
structure Ux (K:PySem.W.Frag)(x qual:Str)(st:Stmt)(f:Addr)(fd:FuncData):Prop where
 ex:∃(oc:Value) (od:Option Addr) (dV kV doc pm:Value) (an:Option Addr) (cdv ct:Value) (ux:Array (Option Value)),
  fd=PySem.W.fnOf x qual (cG st) (bT st) (aA st) dV kV doc pm an cdv ct/\K.lookup f=some ⟨oc,od,.func fd,ux⟩/\PySem.W.codeIn K cdv qual=true
 kp:PySem.W.keepIn K (.ref f)=true
section
variable {P:Program}{w:World}{K:PySem.W.Frag}{mg:Str->Option Value}{base:Heap}
theorem Uj {x qual:Str}{st:Stmt}{f:Addr}{fd:FuncData}{N ps:List Str}{k:Nat}{m:MS}(F:Ux K x qual st f fd)(S:aX N ps (aA st))
  (qG:∀(cdv:Value) (A:Around) (outer:List Env) (s:Shared) (H:Hp),dC k (A.deeper (PyProof.Rows.envOfC qual (aA st) s.heap.objs.size f cdv)) ->
   yU (wu iR P w K mg base N qual (aA st) f cdv A outer s H E0).J3 (bT st) m):a_ P w K mg base iR (k+1) f fd ps (jo K ps.length (dF N.length m)):=by
 obtain⟨oc,od,dV,kV,doc,pm,an,cdv,ct,ux,rfl,lk,xH⟩:=F.ex;refine Iv lk xH S (λvs H Q E h=>h.1) λA outer s H vs Q E hr h=>?_;obtain⟨hl,μ,ds,Ou,hv,hs,hp⟩:=h;have hb:=qG cdv A outer s H hr;refine⟨_,yG.J3 hb,μ,startM N.length ds,Ou,ak.start N hv,hs,?_⟩;unfold dF at hp;cases hr:m (startM N.length ds) Ou with
 | bad=>rw[hr]at hp;exact hp.elim
 | err x st1=>rw[hr]at hp;exact hp.elim
 | ok o st1 =>
  rw[hr]at hp;cases o with
  | rt d=>exact hp
  | nx env=>exact fun σ' H' μ' g oZ _=>hp .non H' μ' g oZ (ao.bL.mpr rfl)
  | bk env=>exact hp.elim
  | cn env=>exact hp.elim
theorem Nh {x qual:Str}{st:Stmt}{f:Addr}{oc:Value}{od an:Option Addr}{ux:Array (Option Value)}{dV kV doc pm cdv ct:Value}(l:K.lookup f=some ⟨oc,od,.func (PySem.W.fnOf x qual (cG st) (bT st) (aA st) dV kV doc pm an cdv ct),ux⟩)
  (c:PySem.W.codeIn K cdv qual=true) (k:PySem.W.keepIn K (.ref f)=true):Ux K x qual st f (PySem.W.fnOf x qual (cG st) (bT st) (aA st) dV kV doc pm an cdv ct):=⟨⟨oc,od,dV,kV,doc,pm,an,cdv,ct,ux,rfl,l,c⟩,k⟩
theorem Jl {x qual:Str}{st:Stmt}{ps:List Str}{T:Addr}{oc:Value}{od:Option Addr}{d:Value}{n:Nat}{ux:Array (Option Value)}{kV doc pm cdv ct:Value}{an:Option Addr}(l:K.lookup T=some ⟨oc,od,.seq #[d] n,ux⟩)
  (h:∀us:List Value,us.length=ps.length->∃k:Option (Array Value)->Sem (List (Str×Value)),bindArgs (PySem.W.fnOf x qual (cG st) (bT st) (aA st) (.ref T) kV doc pm an cdv ct) ⟨us,[]⟩=seqItems? (.ref T) >>= k/\k (some #[d])=pure (ps.zip us)) :
  Binds K (PySem.W.fnOf x qual (cG st) (bT st) (aA st) (.ref T) kV doc pm an cdv ct) ps []:=λs us hK hl=>by
 rw[gZ]at hl ⊢;obtain⟨k,h1,h2⟩:=h us hl;exact BindsTo.of_defaults (T:=T) rfl (hK _ _ l) rfl h1 h2
theorem Bk {x qual:Str}{st:Stmt}{ps:List Str}{T:Addr}{oc:Value}{od:Option Addr}{d:Value}{n:Nat}{ux:Array (Option Value)}{kV doc pm cdv ct:Value}{an:Option Addr}(l:K.lookup T=some ⟨oc,od,.seq #[d] n,ux⟩)
  (h:∀us:List Value,us.length+1=ps.length->∃k:Option (Array Value)->Sem (List (Str×Value)),bindArgs (PySem.W.fnOf x qual (cG st) (bT st) (aA st) (.ref T) kV doc pm an cdv ct) ⟨us,[]⟩=seqItems? (.ref T) >>= k/\k (some #[d])=pure (ps.zip (us++[d]))) :
  Binds K (PySem.W.fnOf x qual (cG st) (bT st) (aA st) (.ref T) kV doc pm an cdv ct) ps [d]:=λs us hK hl=>by
 obtain⟨k,h1,h2⟩:=h us (by simpa using hl);exact BindsTo.of_defaults (T:=T) rfl (hK _ _ l) rfl h1 h2
end
section
variable {X:Cx}{e:Expr}{es:List Expr}{mA:MA}{pos p:Pos}{x:Str}{k:Nat}{f:Addr}{fd:FuncData}{ps:List Str}{F:FD}{i:Int}
theorem Hz (G:a_ X.prog X.w X.K X.mg X.base iR k f fd ps (jo X.K ps.length F))(hr:dC k X.A)(hm:X.mg x=some (.ref f))(hk:PySem.W.keepIn X.K (.ref f)=true)(hb:∃t,Binds X.K fd ps [.int i t])
  (ha:JA X (e::es) mA) (hlen:(e::es).length+1=ps.length:=by rfl) (hg:Gl X x:=by rfl) (vB:(x==("__debug__":Str))=false:=by decide) (he:starEach (e::es) X.env=(false,eval e X.env)::starEach es X.env:=by rfl) (jW:(backTo pos (starEach es X.env)).any (·.1)=false:=by rfl)
  (hA:∀env st as st1,mA env st=.ok as st1->as.length=(e::es).length:=by intros;rfl) :
  JE X (.Call (.Name x p) (e::es) [] pos) (aF F [.int i] mA):=by
 obtain⟨t,hb⟩:=hb;exact eF (dvs:=[.int i]) (dd:=[.int i]) G hr hm hk hb (.cons ⟨t,rfl⟩ .nil) (λ_ _=>ak.cons (ao.aO.mpr rfl) ak.nil) ha hlen hg vB he jW hA
end
end M
namespace M
open PySem PySem.Spec L2 PyProof.Rows
end M
namespace M
open L2
noncomputable def jX:D->List D->aq->R D
 | .loc n,[.loc m],st=>match st[n]?,st[m]? with
  | some (.lst a),some (.lst b)=>if a.length+b.length<=1000000 then .ok .non (st.set n (.lst (a++b))) else .bad
  | _,_=>.bad
 | _,_,_=>.bad
end M
namespace M
open PySem PySem.Spec L2
section
variable {X:Cx}
theorem zj3:yH X "list.extend" (Rm X jX):=by
 refine yH.weak CG ?_;rintro x xs H Q ⟨μ,st,d,ds,hs,hx,uB,hp⟩;unfold jX at hp
 split at hp
 ·rename_i n m
  split at hp
  ·rename_i a b e1 e2
   split at hp
   ·rename_i hl;obtain⟨p,q1,rfl⟩:=ao.aN.mp hx;obtain⟨v,rfl,q⟩:=ak.one uB;obtain⟨p2,q2,rfl⟩:=ao.aN.mp q;obtain⟨p',ys,r1,r2,r3⟩:=hs.lst e1;rw[q1]at r1;cases r1;obtain⟨p2',zs,s1,s2,s3⟩:=hs.lst e2;rw[q2]at s1;cases s1;obtain⟨g,oZ⟩:=wZ hs e1 q1 r2 (r3.append s3);refine⟨p,p2,ys,zs,rfl,rfl,r2,s2,?_,hp _ _ μ g oZ (ao.bL.mpr rfl)⟩;rw[<-r3.length,<-s3.length];exact Ew hl
   ·exact hp.elim
  ·exact hp.elim
 ·exact hp.elim
end
section
variable {X:Cx}{pos p:Pos}{x:Str}{k:Nat}{f:Addr}{fd:FuncData}{F:FD}
end
end M
namespace L2
open PySem PySem.Spec PyProof.Rows
noncomputable def eO (L:List (Addr×Obj))(H:Hp):Hp:=λb=>match L.lookup b with | some o=>some (.frz o (.own 0)) | none=>H b
noncomputable def dN (L:List (Addr×Obj))(H:Hp):Hp:=λb=>match L.lookup b with | some _=>none | none=>H b
theorem WY {L:List (Addr×Obj)}{H:Hp}{b:Addr}{o:Obj}(h:L.lookup b=some o):eO L H b=some (.frz o (.own 0)):=by unfold eO;rw[h]
theorem wW {L:List (Addr×Obj)}{H:Hp}{b:Addr}(h:L.lookup b=none):eO L H b=H b:=by unfold eO;rw[h]
theorem W7 {L:List (Addr×Obj)}{H:Hp}{b:Addr}{o:Obj}(h:L.lookup b=some o):dN L H b=none:=by unfold dN;rw[h]
theorem Bp {L:List (Addr×Obj)}{H:Hp}{b:Addr}(h:L.lookup b=none):dN L H b=H b:=by unfold dN;rw[h]
theorem Eg {L:List (Addr×Obj)}{H:Hp}{b:Addr}{u:HO}(h:eO L H b=some u):(∃o,L.lookup b=some o/\u=.frz o (.own 0))\/(L.lookup b=none/\H b=some u):=by
 unfold eO at h;cases e:L.lookup b with
 | some o=>rw[e]at h;cases h;exact .inl ⟨o,rfl,rfl⟩
 | none=>rw[e]at h;exact .inr ⟨rfl,h⟩
theorem Dy {L:List (Addr×Obj)}{H:Hp}{b:Addr}{u:HO}(h:dN L H b=some u):L.lookup b=none/\H b=some u:=by
 unfold dN at h;cases e:L.lookup b with
 | some o=>rw[e]at h;cases h
 | none=>rw[e]at h;exact⟨rfl,h⟩
section
variable {P:Program}{w:World}{H H':Hp}{h h':Heap}{L:List (Addr×Obj)}
theorem o7.eO (x:o7 P w H h)(n:∀b o,L.lookup b=some o->H b=none)(k:∀b o,L.lookup b=some o->h.get? b=some o):o7 P w (eO L H) h:=λa u e=>by
 have up:∀b v,H b=some v->L2.eO L H b=some v:=λb v q=>by
  cases z:L.lookup b with
  | some o=>rw[n b o z]at q;cases q
  | none=>rw[wW z];exact q
 rcases Eg e with⟨o,e1,rfl⟩ | ⟨e1,e2⟩
 ·exact⟨k a o e1,o,k a o e1⟩
 ·exact (x a u e2).vY (λ_ _ _ q=>q) (λb q=>up b _ q) λb xs q=>up b _ q
theorem o7.dN (x:o7 P w H h)(n:∀b o,L.lookup b=some o->∃o',H b=some (.frz o' (.own 0))):o7 P w (dN L H) h:=λa u e=>by
 have up:∀b v,H b=some v->(∀o',v≠.frz o' (.own 0))->L2.dN L H b=some v:=λb v q z=>by
  cases y:L.lookup b with
  | some o =>
   obtain⟨o',e'⟩:=n b o y;rw[e']at q;exact absurd (Option.some.inj q).symm (z o')
  | none=>rw[Bp y];exact q
 obtain⟨_,e2⟩:=Dy e;exact (x a u e2).vY (λ_ _ _ q=>q) (λb q=>up b _ q λ_ z=>nomatch z) λb xs q=>up b _ q λ_ z=>nomatch z
end
section
variable {X:Cx}{k:Nat}{f:Addr}{fd:FuncData}{ps:List Str}{sp:Sp}{dvs:List V}{ds:List Value}{pins:List (Addr×Obj)}{σ:St}{H:Hp}{s:Shared}{Q:VK}{us:List Value}{vs:List V}
theorem KJ {L:List (Addr×Obj)}(F:a_ X.prog X.w X.K X.mg X.base iR k f fd ps sp)(hr:dC k X.A)(hb:Binds X.K fd ps ds)(hd:Vals dvs ds)(I:Inv X pins σ H s)
  (hL:∀b o,L.lookup b=some o->s.heap.get? b=some o/\∃x,X.env.cells.lookup x=some b/\X.fn x=true)
  (r:Vals vs us) (h:sp (vs++dvs) (eO L H) (λv H'=>Q v (dN L H')) E0):wpAny (model X.prog X.w) X.A (call (.ref f) us) (EP X pins σ Q) X.xe s:=by
 have r2:Vals (vs++dvs) (us++ds):=r.append hd;have hl:(us++ds).length=ps.length:=by rw[<-r2.length];exact F.len _ _ _ _ h
 have nL:∀b o,L.lookup b=some o->H b=none:=λb o e=>let ⟨_,x,hx,_⟩:=hL b o e;I.lN x b hx;have e0:=I.Nm;have e1:xQ X.prog X.w X.K X.mg X.base X.A X.stack s (eO L H):=by
  refine⟨e0.frames,e0.mod,λb o e=>⟨(e0.bs b o e).1,?_⟩,e0.D_,e0.rA,λb yR=>?_,I.bV.eO nL λb o e=>(hL b o e).1,e0.bare⟩
  ·cases z:L.lookup b with
   | none=>rw[wW z];exact (e0.bs b o e).2
   | some o' =>
    obtain⟨_,x,hx,hf⟩:=hL b o' z;have h1:=I.ok.Qh x b hf hx;exact absurd (gP (gm e) (gU I.ok.D_ h1)) (kW _)
  ·cases z:L.lookup b with
   | none=>rw[wW z];exact e0.Ir b yR
   | some o' =>
    obtain⟨_,x,hx,hf⟩:=hL b o' z;rcases gk.mp (I.u_ b yR) with q | q
    ·exact absurd q (I.Qg x b hx)
    ·have h1:=I.ok.Qh x b hf hx;obtain⟨_,o2,M3,_⟩:=I.ok.rA.mem q;exact absurd (gP (gm M3) h1) (kW _)
 refine wpAny_call (codeAny_mono (F.run X.A X.stack s (eO L H) ⟨us,[]⟩ (us++ds) (vs++dvs) _ E0 hr e1 (hb s us I.tB hl) r2 h) λr s' hq=>?_);cases r with
 | error e=>exact False.elim hq
 | ok fl =>
  cases fl with
  | ret u =>
   obtain⟨v,H',os,bare,un,bV,rv,q⟩:=hq;obtain⟨hh,g,d,t,VD⟩:=s';obtain rfl:VD=s.os:=os;have kept:∀b o,L.lookup b=some o->H' b=some (.frz o (.own 0)):=λb o e=>un.uc b o (.own 0) (WY e);have un':Un (Bc X.stack) [] H (dN L H') s.heap hh:=by
    refine⟨λb o e n hb hx=>?_,λb o e n hb hx=>?_,λb o e n hx=>?_,un.there,λb xs e=>?_,λb o u e=>?_,λb ps e=>?_⟩
    ·cases z:L.lookup b with
     | none=>exact un.keep b o e (by rw[wW z];exact n) hb hx
     | some o' =>
      have e2:=(hL b o' z).1;rw[e]at e2;cases e2;exact (bV b _ (kept b o z)).1
    ·cases z:L.lookup b with
     | none=>exact un.slot b o e (by rw[wW z];exact n) hb hx
     | some o' =>
      have e2:=(hL b o' z).1;rw[e]at e2;cases e2;exact⟨o.slots,(bV b _ (kept b o z)).1⟩
    ·cases z:L.lookup b with
     | none=>rw[Bp z];exact un.free b o e (by rw[wW z];exact n) hx
     | some o'=>exact W7 z
    ·have z:L.lookup b=none:=by
      cases z:L.lookup b with
      | none=>rfl
      | some o'=>rw[nL b o' z]at e;cases e
     rw[Bp z];exact un.u6 b xs (by rw[wW z];exact e)
    ·have z:L.lookup b=none:=by
      cases z:L.lookup b with
      | none=>rfl
      | some o'=>rw[nL b o' z]at e;cases e
     rw[Bp z];exact un.uc b o u (by rw[wW z];exact e)
    ·have z:L.lookup b=none:=by
      cases z:L.lookup b with
      | none=>rfl
      | some o'=>rw[nL b o' z]at e;cases e
     rw[Bp z];exact un.uH b ps (by rw[wW z];exact e)
   exact⟨v,dN L H',I.call (h':=hh) (g':=g) (d':=d) (t':=t) (ch:=[]) un' (bV.dN λb o e=>⟨o,kept b o e⟩) bare (λb z=>absurd z (by simp)),rv,q⟩
  | next=>exact False.elim hq
  | brk=>exact False.elim hq
  | cont=>exact False.elim hq
end
noncomputable def BMain (mg:Str->Option Value)(base:Heap):Prop :=
 ∃bm o,mg "__builtins__" = some (.ref bm)/\bm≠builtinsNs/\bm≠mainGlobals/\base.get? bm=some o/\o.cls=.type "module"/\o.dict=some builtinsNs/\o.data=.plain
noncomputable def aaF (H:Hp)(P:Addr)(q:Str):Prop:=∃ps:Array Value,H P=some (.tbl ps)/\TriplesOk ps.toList/\∀pos cv,codeAmong pos ps.toList=some cv->∃c',cv=.ref c'/\M.tV H c' q
structure vM (H H':Hp)(P f c':Addr)(q:Str)(ob:Obj):Prop where
 new:H' f=some (.frz ob (.own 0))
 nf:H f=none
 code:M.tV H' c' q
 tab:aaF H' P q
 same:∀b u,b≠P->H b=some u->H' b=some u
noncomputable def aa4 (P:Addr)(q:Str)(params:Arguments)(body:Expr)(scope:Scope)(clos:List (Str×Addr)):TE:=fun σ H Q=>aaF H P q /\
 ∀f c' pm tO H',vM H H' P f c' q (PySem.W.kla_obj "<lambda>" q params body scope clos pm c' tO)->Q (.ref f) H'
theorem zj0 {pos pos':Pos}{c cv:Value}{l:List Value}(ht:TriplesOk l)(hn:codeAmong pos l=none)(h:codeAmong pos' (l++[rawInt pos.line,rawInt pos.col,c])=some cv):codeAmong pos' l=some cv\/cv=c:=by
 clear hn
 fun_induction TriplesOk l with
 | case1 =>
  simp only[nF,codeAmong,rawInt]at h
  split at h
  ·cases h;exact .inr rfl
  ·cases h
 | case2 a t b u x rest ih =>
  simp only[nG,codeAmong]at h ⊢
  split at h
  ·rename_i hc;rw[if_pos hc];exact .inl h
  ·rename_i hc;rw[if_neg hc];exact ih ht h
 | case3 l h1 h2=>exact ht.elim
section
variable {X:Cx}{P c:Addr}{q:Str}{params:Arguments}{body:Expr}{scope:Scope}{clos:List (Str×Addr)}{pos:Pos}
theorem RV (hB:BMain X.mg X.base)(hc:X.env.code=.ref c)(hh:PySem.W.codeHdIn X.K c P=true)(hq:X.env.qual ++ "<lambda>" = q)(uU:closureFor scope X.env=pure clos)(T6:defaultsOf params X.env=([],[]):=by rfl) :
  PE X (.Lambda params body scope pos) (aa4 P q params body scope clos):=by
 rintro pins s σ H Q I ⟨⟨ps,hP,ht,zE⟩,h⟩;refine PySem.W.kla_eval T6 ?_;rw[hq];have oP:s.heap.get? P=some (PySem.W.tabObj ps):=I.bV P _ hP;have hg:s.heap.Ns mainGlobals X.mg:=I.mod.glob.keeps I.bk;have CH:PySem.W.CodeHd s.heap c P:=PySem.W.codeHd_of_K I.tB hh;have hgP:mainGlobals≠P:=λz=>by
  obtain⟨o,es,ep,e,d,_⟩:=hg;rw[z,oP]at e;cases e;cases d
 have hb:s.heap.BuiltinsAt X.mg P:=by
  obtain⟨bm,o,b1,b2,b3,b4,b5,b6,b7⟩:=hB;have e:=I.bk bm o b4;refine⟨bm,o,b1,b2,b3,λz=>?_,e,b5,b6,b7⟩;rw[z,oP]at e;cases e;cases b7
 have hLP:X.env.locals≠P:=λz=>by have:=I.free;rw[z,hP]at this;cases this
 cases hca:codeAmong pos ps.toList with
 | none =>
  refine PySem.W.kla_makeFunction (mg:=X.mg) uU I.ok.glob hg hc CH oP ht hca hgP hb λc' tO h' tk hx Px yQ abY htb=>?_;obtain⟨c2,oc,vs,t,e2,hoc,hd,hv⟩:=abY;cases e2;have hsz:s.heap.objs.size<=h'.objs.size:=gU Px (mH yQ);have nc:H c'=none:=I.bV.fresh Px;have nf:H h'.objs.size=none:=I.bV.fresh hsz;have cf:c'≠h'.objs.size:=gJ yQ;have cP:c'≠P:=λz=>by rw[z,hP]at nc;cases nc
  have fP:h'.objs.size≠P:=λz=>by rw[z,hP]at nf;cases nf
  let ob:Obj:=PySem.W.kla_obj "<lambda>" q params body scope clos ((X.mg "__name__").getD .none) c' tO
  let ps':Array Value:=ps++#[rawInt pos.line,rawInt pos.col,.ref c']
  let H1:Hp:=upd H P (.tbl ps')
  let H2:Hp:=upd H1 c' (.frz oc (.own 0))
  let H':Hp:=upd H2 h'.objs.size (.frz ob (.own 0))
  have s1:∀b u,b≠P->H b=some u->H' b=some u:=λb u M7 e=>by
   have n1:b≠h'.objs.size:=zP e nf;have n2:b≠c':=zP e nc;show upd H2 h'.objs.size _ b=_;rw[lX n1];show upd H1 c' _ b=_;rw[lX n2];show upd H P _ b=_;rw[lX M7];exact e
  have atP:H' P=some (.tbl ps'):=by
   show upd H2 h'.objs.size _ P=_;rw[lX (Ne.symm fP)];show upd H1 c' _ P=_;rw[lX (Ne.symm cP)];exact uv
  have atc:H' c'=some (.frz oc (.own 0)):=by
   show upd H2 h'.objs.size _ c'=_;rw[lX cf];exact uv
  have atf:H' h'.objs.size=some (.frz ob (.own 0)):=uv;have back:∀b u,H' b=some u->b=h'.objs.size\/b=c'\/b=P\/(b≠P/\H b=some u):=λb u e=>by
   by_cases n1:b=h'.objs.size
   ·exact .inl n1
   by_cases n2:b=c'
   ·exact .inr (.inl n2)
   by_cases n3:b=P
   ·exact .inr (.inr (.inl n3))
   ·refine .inr (.inr (.inr ⟨n3,?_⟩));have e:upd H2 h'.objs.size _ b=some u:=e;rw[lX n1]at e;have e:upd H1 c' _ b=some u:=e;rw[lX n2]at e;have e:upd H P _ b=some u:=e;rw[lX n3]at e;exact e
  have kp:∀b o,b≠P->s.heap.get? b=some o->(h'.push ob).get? b=some o:=λb o M7 e=>gq _ (hx b o M7 e);have ext:M.Ext H H':=⟨λb xs e=>s1 b _ (λz=>by rw[z,hP]at e;cases e) e,λb o u e=>s1 b _ (λz=>by rw[z,hP]at e;cases e) e⟩;have new:vM H H' P h'.objs.size c' q ob:=by
   refine⟨atf,nf,⟨oc,vs,t,atc,hd,hv⟩,⟨ps',atP,?_,λpos' cv e=>?_⟩,s1⟩
   ·show TriplesOk (ps++#[rawInt pos.line,rawInt pos.col,Value.ref c']).toList;rw[Array.toList_append];exact TriplesOk_snoc _ _ _ _ ht
   ·have e':codeAmong pos' (ps.toList++[rawInt pos.line,rawInt pos.col,Value.ref c'])=some cv:=by
     rw[<-Array.toList_append];exact e
    rcases zj0 ht hca e' with e1 | e1
    ·obtain⟨c2,q1,q2⟩:=zE pos' cv e1;exact⟨c2,q1,q2.ext ext⟩
    ·exact⟨c',e1,⟨oc,vs,t,atc,hd,hv⟩⟩
  refine⟨.ref h'.objs.size,H',?_,rfl,h _ _ _ _ _ new⟩;have nP:∀b,H b=none->b≠P:=λb n z=>by rw[z,hP]at n;cases n
  refine I.step (g':=s.gens) (d':=s.drawn) (ch:=[]) (λ_ z=>nomatch z) (λb o _ _ _ e n=>kp b o (nP b n) e) (λb o _ _ _ e n=>⟨o.slots,kp b o (nP b n) e⟩) (λb o _ e n=>?_) (λb o _ e=>?_)
   (λb xs e=>ext.tup b xs e) (λb o u e=>ext.frz b o u e) (λb ps2 e=>?_) (λm hm=>(hm.extBut hx hLP).push _) (λb u e=>?_) I.bare
  ·cases z:H' b with
   | none=>rfl
   | some u =>
    have lt:=gm e;rcases back b u z with z1 | z1 | z1 | ⟨_,z1⟩
    ·rw[z1]at lt;exact absurd (gP lt hsz) (kW _)
    ·rw[z1]at lt;exact absurd (gP lt Px) (kW _)
    ·exact absurd z1 (nP b n)
    ·rw[n]at z1;cases z1
  ·by_cases M7:b=P
   ·subst M7;exact⟨_,gq _ htb⟩
   ·exact⟨o,kp b o M7 e⟩
  ·by_cases M7:b=P
   ·subst M7;rw[hP]at e;cases e;exact⟨_,atP⟩
   ·exact⟨#[],by rw[s1 b _ M7 e];simp⟩
  ·rcases back b u e with z1 | z1 | z1 | ⟨z0,z1⟩
   ·subst z1;rw[atf]at e;cases e;exact⟨gH _ rfl,ob,gH _ rfl⟩
   ·subst z1;rw[atc]at e;cases e;exact⟨gq _ hoc,oc,gq _ hoc⟩
   ·subst z1;rw[atP]at e;cases e;exact gq _ htb
   ·have GP:∀b2 u2,H b2=some u2->(∀ps2,u2≠.tbl ps2)->H' b2=some u2:=λb2 u2 q z=>s1 b2 u2 (λy=>by rw[y,hP]at q;exact z _ (Option.some.inj q).symm) q;refine (I.bV b u z1).vY (λc2 v hc q=>kp c2 v ?_ q) (λc2 q=>GP c2 _ q λ_ z=>nomatch z) λc2 xs q=>GP c2 _ q λ_ z=>nomatch z;rcases hc with y | y
    ·rw[y];exact z0
    ·exact λy2=>by rw[y2,hP]at y;cases y
 | some cv =>
  obtain⟨c',rfl,yq⟩:=zE pos cv hca;refine PySem.W.kla_makeFunctionHit (mg:=X.mg) uU I.ok.glob hg hc CH oP ht hca hb λtO h' tk hk hsz=>?_;have nf:H h'.objs.size=none:=I.bV.fresh hsz
  let ob:Obj:=PySem.W.kla_obj "<lambda>" q params body scope clos ((X.mg "__name__").getD .none) c' tO
  have kp:∀b o,s.heap.get? b=some o->(h'.push ob).get? b=some o:=λb o e=>gq _ (hk b o e);have s1:∀b u,H b=some u->upd H h'.objs.size (.frz ob (.own 0)) b=some u:=λb u e=>by rw[lX (zP e nf)];exact e
  have ext:M.Ext H (upd H h'.objs.size (.frz ob (.own 0))):=⟨λb xs e=>s1 b _ e,λb o u e=>s1 b _ e⟩;refine⟨.ref h'.objs.size,upd H h'.objs.size (.frz ob (.own 0)),I.laid (t':=tk) kp (by exact hsz) ⟨gH _ rfl,ob,gH _ rfl⟩,rfl,h _ c' _ _ _ ⟨uv,nf,yq.ext ext,⟨ps,s1 _ _ hP,ht,λpos' cv e=>?_⟩,λb u _ e=>s1 b u e⟩⟩;obtain⟨c2,q1,q2⟩:=zE pos' cv e;exact⟨c2,q1,q2.ext ext⟩
end
theorem zi8 {cl:List (Str×Addr)}(nd:(cl.map (·.2)).Nodup){x y:Str}{c:Addr}(h1:cl.lookup x=some c)(h2:cl.lookup y=some c):x=y:=by
 induction cl with
 | nil=>cases h1
 | cons p cl ih =>
  obtain⟨z,d⟩:=p;rw[gB,kZ]at nd;have mem:∀w,cl.lookup w=some c->c∈cl.map (·.2):=λw e=>gb.mpr ⟨(w,c),PySem.mem_of_lookup e,rfl⟩;rw[kJ]at h1 h2;by_cases e1:(x==z)=true
  ·simp only[e1]at h1;cases h1;by_cases e2:(y==z)=true
   ·rw[eq_of_beq e1,eq_of_beq e2]
   ·simp only[show (y==z)=false by simpa using e2]at h2;exact absurd (mem y h2) nd.1
  ·simp only[show (x==z)=false by simpa using e1]at h1;by_cases e2:(y==z)=true
   ·simp only[e2]at h2;cases h2;exact absurd (mem x h1) nd.1
   ·simp only[show (y==z)=false by simpa using e2]at h2;exact ih nd.2 h1 h2
theorem CK {β:Type}{cl:List (Str×β)}{x:Str}(h:x∈cl.map (·.1)):∃c,cl.lookup x=some c:=by
 induction cl with
 | nil=>cases h
 | cons p cl ih =>
  rw[kJ];by_cases e:(x==p.1)=true
  ·simp only[e];exact⟨_,rfl⟩
  ·simp only[show (x==p.1)=false by simpa using e];refine ih ?_;rcases gk.mp h with z | z
   ·rw[z]at e;simp at e
   ·exact z
theorem lookup_mem {β:Type}{l:List (Str×β)}{x:Str}{u:β}(nd:(l.map (·.1)).Nodup)(h:(x,u)∈l):l.lookup x=some u:=by
 induction l with
 | nil=>cases h
 | cons p l ih =>
  rw[gB,kZ]at nd;rw[kJ];rcases gk.mp h with z | z
  ·subst z;simp
  ·have:(x==p.1)=false:=by
    have hx:x∈l.map (·.1):=gb.mpr ⟨(x,u),z,rfl⟩;have:x≠p.1:=λy=>nd.1 (y ▸ hx);simpa using this
   simp only[this];exact ih nd.2 z
theorem zi3 {H:Hp}:∀{cl:List (Str×Addr)} {vs:List V},M.fK H cl vs->(cl.map (·.2)).Nodup->∃L:List (Addr×Obj),(∀b o,L.lookup b=some o->H b=some (.frz o (.own 0))/\∃u,o.data=.cell (some u)) /\
  (∀(i:Nat) (x:Str) (c:Addr),cl[i]? = some (x,c)->∃v o u,vs[i]? = some v/\L.lookup c=some o/\o.data=.cell (some u)/\RelV v u)/\vs.length=cl.length
 | [],vs,h,_=>by
  have h:vs=[]:=h;subst h;exact⟨[],λb o e=>by simp at e,λi x c e=>by simp at e,rfl⟩
 | (x,c)::cl,_,⟨v,r,o,u,rfl,h2,h3,h4,h5⟩,nd=>by
  rw[gB,kZ]at nd;obtain⟨L,yt,Ud,hlen⟩:=zi3 h5 nd.2;refine⟨(c,o)::L,λb o' e=>?_,λi y d e=>?_,by simp[hlen]⟩
  ·rw[kJ]at e;by_cases hb:(b==c)=true
   ·simp only[hb]at e;cases e;rw[eq_of_beq hb];exact⟨h2,u,h3⟩
   ·simp only[show (b==c)=false by simpa using hb]at e;exact yt b o' e
  ·cases i with
   | zero =>
    simp at e;obtain⟨rfl,rfl⟩:=e;exact⟨v,o,u,rfl,by rw[kJ];simp,h3,h4⟩
   | succ i =>
    have e:cl[i]? = some (y,d):=by simpa using e
    obtain⟨v',o',u',q1,q2,q3,q4⟩:=Ud i y d e;have hd:(d==c)=false:=by
     have:d∈cl.map (·.2):=gb.mpr ⟨(y,d),gY e,rfl⟩;have:d≠c:=λz=>nd.1 (z ▸ this);simpa using this
    exact⟨v',o',u',by simpa using q1,by rw[kJ];simp only[hd];exact q2,q3,q4⟩
structure yI (cn ps:List Str)(sc:Scope):Prop where
 kind:sc.kind=.function
 co:sc.isCoroutine=false
 gen:sc.isGenerator=false
 nd:(cn++ps).Nodup
 free:∀y∈sc.names,y.2=.free->y.1∈cn
 GR:∀y∈sc.names,y.2≠.cell
 Td:∀x∈cn,sc.names.lookup x=some .free
 par:∀x∈ps,sc.names.lookup x=some .local
noncomputable def Am (P:Program)(w:World)(K:PySem.W.Frag)(mg:Str->Option Value)(base:Heap)(N:List Str)(qual:Str)(scope:Scope)(f:Addr)(cd:Value)(cl:List (Str×Addr))(A:Around)(outer:List Env)(s:Shared)(H:Hp):Cx where
 prog:=P
 w:=w
 K:=K
 mg:=mg
 base:=base
 A:=A.deeper (PySem.W.envX qual scope s.heap.objs.size f cd cl)
 N:=N
 adz:=s
 adE:=H
 env:=PySem.W.envX qual scope s.heap.objs.size f cd cl
 outer:=outer
 stack:=PySem.W.envX qual scope s.heap.objs.size f cd cl::outer
 ex:=[]
 calm:=true
 fn:=λ_=>false
 pn:=[]
 xe:=λ_ _=>False
section
variable {P:Program}{w:World}{K:PySem.W.Frag}{mg:Str->Option Value}{base:Heap}{A:Around}{outer:List Env}{s:Shared}{H:Hp}{qual:Str}{params:Arguments}{body:Expr}{scope:Scope}{cl:List (Str×Addr)}{pm tO:Value}{c' f:Addr}{k:Nat}
 {cn ps:List Str} {us:List Value} {vs Kh:List V} {Q:VK} {t:TE}
theorem Mj (e0:xQ P w K mg base A outer s H)(hr:dC (k+1) A)(S:yI cn ps scope)(hf:H f=some (.frz (PySem.W.kla_obj "<lambda>" qual params body scope cl pm c' tO) (.own 0)))(yq:M.tV H c' qual)
  (PQ:cl.map (·.1)=cn) (uR:(cl.map (·.2)).Nodup) (xG:M.fK H cl Kh) (hb:bindArgs (PySem.W.kla_fn "<lambda>" qual params body scope cl pm (.ref c') tO) ⟨us,[]⟩=pure (ps.zip us)) (hl:us.length=ps.length) (r:Vals vs us)
  (qG:∀L:List (Addr×Obj),(∀b o,L.lookup b=some o->H b=some (.frz o (.own 0))/\∃u,o.data=.cell (some u))->∃t,PE (Am P w K mg base (cn++ps) qual scope f (.ref c') cl A outer s (dN L H)) body t/\t ((Kh++vs).map some) (dN L H) λv H'=>(∀b o,L.lookup b=some o->H' b=none)->Q v (eO L H')) :
  codeAny (model P w) A (.call (.ref f) ⟨us,[]⟩) (CR iR outer P w H s Q E0) s:=by
 obtain⟨L,yt,Ud,Pr⟩:=zi3 xG uR;obtain⟨t,hPE,ht⟩:=qG L yt;have of:=(e0.bV f _ hf).1;obtain⟨oc,cvs,ct,hc1,T9,hc3⟩:=yq;have occ:=(e0.bV c' _ hc1).1;have lim:s.heap.NoLimit:=e0.mod.nolimit.keeps λb o e=>(e0.bs b o e).1;have cellIn:∀x c,cl.lookup x=some c->∃i,cl[i]? = some (x,c):=λx c e=>by
  obtain⟨i,hi,e2⟩:=pL (PySem.mem_of_lookup e);exact⟨i,by rw[gM hi,e2]⟩
 have aar:∀x c,cl.lookup x=some c->∃o,L.lookup c=some o:=λx c e=>by
  obtain⟨i,hi⟩:=cellIn x c e;obtain⟨_,o,_,_,q,_⟩:=Ud i x c hi;exact⟨o,q⟩
 have aac:o7 P w (dN L H) s.heap:=e0.bV.dN λb o e=>⟨o,(yt b o e).1⟩;refine PySem.W.kla_callFunE hr.depth of rfl S.co S.gen rfl ⟨c',oc,cvs,ct,rfl,occ,T9,hc3⟩ ?_;rw[hb];have ab9:∀x∈ps.zip us,scope.names.lookup x.1=some .local:=λ⟨n,v⟩ hy=>S.par n (pC hy).1;refine wpAny_pure (wpAny_newFunctionEnv S.GR ab9 (λh₁ A_ J6=>⟨lim.fresh _ J6,?_⟩) S.kind);have aaO:∀b o,s.heap.get? b=some o->h₁.get? b=some o:=λb o e=>J6.extBut b o (gJ (gm e)) (gq _ e);show codeAny _ _ (.expr body (PySem.W.envX qual scope s.heap.objs.size f (.ref c') cl)) _ _;have LR:∀b:Addr,b∉(Am P w K mg base (cn++ps) qual scope f (.ref c') cl A outer s (dN L H)).ex:=λb z=>absurd (show b∈([]:List Addr) from z) (by simp);have yx:∀b,H b=none->dN L H b=none:=λb n=>by
  cases z:L.lookup b with
  | some o=>exact W7 z
  | none=>rw[Bp z];exact n
 have I:Inv (Am P w K mg base (cn++ps) qual scope f (.ref c') cl A outer s (dN L H)) [] ((Kh++vs).map some) (dN L H) { s with heap:=h₁,toks:=s.toks+(ps.zip us).length }:=by
  refine⟨⟨e0.mod,S.kind,rfl,rfl,gh _,λy z c h1 h2=>zi8 uR h1 h2,λy hy=>?_,λy c z _=>(by cases z),λ_=>hr.hd,Around.frames_deeper e0.frames,.inr ⟨rfl,rfl⟩,λb z=>absurd z (LR b),λb o e=>⟨(e0.bs b o e).1,yx b (e0.bs b o e).2⟩,e0.D_,λb _ _=>LR b,λb z=>absurd z (LR b),e0.rA,λb yR=>yx b (e0.Ir b yR)⟩,
   rfl,e0.bare,Un.kept aaO,⟨_,A_,λi y v h1 h2 h3=>?_⟩,λy c h=>?_,aac.fresh (gh _),λy c h=>?_,λp hp=>absurd (show p∈([]:List (Addr×Obj)) from hp) (by simp),aac.kept aaO,?_⟩
  ·have hy:scope.names.lookup y=some .cell\/scope.names.lookup y=some .free:=hy;rcases hy with hy | hy
   ·exact absurd rfl (S.GR _ (PySem.mem_of_lookup hy))
   ·have hm:=S.free _ (PySem.mem_of_lookup hy) rfl;rw[<-PQ]at hm;obtain⟨p,hp,rfl⟩:=gb.mp hm;exact CK (gb.mpr ⟨p,hp,rfl⟩)
  ·have ndc:(cl.map (·.1)).Nodup:=by rw[PQ];exact (mZ.mp S.nd).1
   have ndp:ps.Nodup:=(mZ.mp S.nd).2.1;have uU:cn.length=cl.length:=by rw[<-PQ,gf]
   have h2:(Kh++vs)[i]? = some v:=by
    rw[gF]at h2;cases q:(Kh++vs)[i]? with
    | none=>rw[q]at h2;cases h2
    | some v'=>rw[q]at h2;cases h2;rfl
   have h1:(cn++ps)[i]? = some y:=h1;by_cases hi:i<cn.length
   ·rw[gQ hi]at h1;rw[gQ (by rw[Pr,<-uU];exact hi)]at h2;have hci:i<cl.length:=by omega
    have ec:cl[i]? = some (y,(cl[i]).2):=by
     rw[gM hci];have:(cl.map (·.1))[i]? = some y:=by rw[PQ];exact h1
     rw[gF,gM hci]at this;have e:cl[i].1=y:=Option.some.inj this;rw[<-e]
    obtain⟨v',o,u,q1,q2,q3,q4⟩:=Ud i y _ ec;rw[h2]at q1;cases q1;refine⟨u,q4,.inr ⟨.inr (S.Td y (gY h1)),_,lookup_mem ndc (gY ec),o,aaO _ _ (e0.bV _ _ (yt _ o q2).1).1,q3⟩⟩
   ·rw[gR (by omega)]at h1;rw[gR (by omega)]at h2;have hij:i - Kh.length=i - cn.length:=by omega
    rw[hij]at h2;obtain⟨u,hu,rv⟩:=r.get h2;refine⟨u,rv,.inl ⟨S.par y (gY h1),?_⟩⟩;have hm:(y,u)∈(ps.zip us).reverse:=by
     rw[List.mem_reverse];refine gY (i:=i - cn.length) ?_;rw[List.getElem?_zip_eq_some];exact⟨h1,hu⟩
    refine lookup_mem ?_ hm;rw[List.map_reverse,List.map_fst_zip (by omega)];exact List.pairwise_reverse.mpr (ndp.imp λh=>Ne.symm h)
  ·obtain⟨i,hi⟩:=cellIn y c h;obtain⟨v,o,u,_,q2,q3,_⟩:=Ud i y c hi;exact⟨some u,o,aaO _ _ (e0.bV c _ (yt c o q2).1).1,q3⟩
  ·obtain⟨o,q⟩:=aar y c h;exact W7 q
  ·show ((Kh++vs).map some).length=(cn++ps).length;rw[gf,gC,gC,Pr,<-PQ,gf,r.length,hl]
 refine PySem.W.kla_codeExpr (wpAny_mono (hPE [] _ _ _ _ I ht) (λv s' h=>?_) λe s' h=>h.elim);obtain⟨x,H',J,rx,q⟩:=h;obtain⟨hh,g,d,tk,VD⟩:=s';have jb:Un (Bc outer) [] (dN L H) H' s.heap hh:=J.base;have kc:∀b o,L.lookup b=some o->hh.get? b=some o/\H' b=none:=λb o e=>by
  have e1:=(e0.bV b _ (yt b o e).1).1;have nfr:b∉Bc outer:=λz=>by have:=e0.Ir b z;rw[(yt b o e).1]at this;cases this
  exact⟨jb.keep b o e1 (W7 e) nfr (by simp),jb.free b o e1 (W7 e) (by simp)⟩
 refine⟨x,eO L H',J.os,J.bare,⟨λb o e n yR hx=>?_,λb o e n yR hx=>?_,λb o e n hx=>?_,jb.there,λb xs e=>?_,λb o u e=>?_,λb ps e=>?_⟩,J.bV.eO (λb o e=>(kc b o e).2) (λb o e=>(kc b o e).1),rx,q λb o e=>(kc b o e).2⟩
 ·exact jb.keep b o e (yx b n) yR hx
 ·exact jb.slot b o e (yx b n) yR hx
 ·have z:L.lookup b=none:=by
   cases z:L.lookup b with
   | none=>rfl
   | some o'=>rw[(yt b o' z).1]at n;cases n
  rw[wW z];exact jb.free b o e (yx b n) hx
 ·have z:L.lookup b=none:=by
   cases z:L.lookup b with
   | none=>rfl
   | some o'=>rw[(yt b o' z).1]at e;cases e
  rw[wW z];exact jb.u6 b xs (by rw[Bp z];exact e)
 ·cases z:L.lookup b with
  | some o' =>
   rw[(yt b o' z).1]at e;cases e;exact WY z
  | none=>rw[wW z];exact jb.uc b o u (by rw[Bp z];exact e)
 ·have z:L.lookup b=none:=by
   cases z:L.lookup b with
   | none=>rfl
   | some o'=>rw[(yt b o' z).1]at e;cases e
  rw[wW z];exact jb.uH b ps (by rw[Bp z];exact e)
end
end L2
namespace M
open PySem PySem.Spec L2
mutual
theorem ao.cD {K:PySem.W.Frag}{μ:List Addr}{H H':Hp}(e:∀b xs,H b=some (.tup xs)->H' b=some (.tup xs)):∀(d:D) {v:V},ao K μ H d v->ao K μ H' d v
 | .non,_,h=>by simpa[ao] using h
 | .bl _,_,h=>by simpa[ao] using h
 | .int _,_,h=>by simpa[ao] using h
 | .str _,_,h=>by simpa[ao] using h
 | .tup ds,_,h=>by
  rw[ao]at h ⊢;obtain⟨a,xs,rfl,h1,h2⟩:=h;exact⟨a,xs,rfl,h1.elim (λz=>.inl (e _ _ z)) .inr,ak.cD e ds h2⟩
 | .loc n,_,h=>by
  rw[ao]at h ⊢;exact h
theorem ak.cD {K:PySem.W.Frag}{μ:List Addr}{H H':Hp}(e:∀b xs,H b=some (.tup xs)->H' b=some (.tup xs)):∀(ds:List D) {vs:List V},ak K μ H ds vs->ak K μ H' ds vs
 | [],_,h=>by simpa[ak] using h
 | d::ds,_,h=>by
  rw[ak]at h ⊢;obtain⟨v,r,rfl,h1,h2⟩:=h;exact⟨v,r,rfl,ao.cD e d h1,ak.cD e ds h2⟩
end
theorem aM.cD {κ:Type}{K:PySem.W.Frag}{μ:List Addr}{H H':Hp}(e:∀b xs,H b=some (.tup xs)->H' b=some (.tup xs)):∀{ds:List (κ×D)} {vs:List (κ×V)},aM K μ H ds vs->aM K μ H' ds vs
 | [],_,h=>h
 | (k,d)::ds,_,⟨v,r,e1,h1,h2⟩=>⟨v,r,e1,h1.cD e d,aM.cD e h2⟩
noncomputable def MO.dH:MO->Bool
 | .clo _ _ _=>true
 | _=>false
noncomputable def tW (L:List (Addr×Obj))(H:Hp):Prop:=∀b o,L.lookup b=some o->H b=some (.frz o (.own 0))/\∃u,o.data=.cell (some u)
theorem tW.del {L:List (Addr×Obj)}{H:Hp}(h:tW L H){b:Addr}{u:HO}(e:H b=some u)(n:∀o,u=.frz o (.own 0)->∀v,o.data≠.cell v):dN L H b=some u:=by
 cases z:L.lookup b with
 | none=>rw[Bp z];exact e
 | some o =>
  obtain⟨e1,v,hv⟩:=h b o z;rw[e]at e1;exact absurd hv (n o (Option.some.inj e1) _)
theorem jk.del {K:PySem.W.Frag}{μ:List Addr}{H:Hp}{a:Addr}{o:MO}{L:List (Addr×Obj)}(hL:tW L H)(hc:o.dH=false)(h:jk K μ H a o):jk K μ (dN L H) a o:=by
 have ht:∀b xs,H b=some (.tup xs)->dN L H b=some (.tup xs):=λb xs e=>hL.del e λ_ z=>nomatch z;cases o with
 | lst ds=>obtain⟨xs,h1,h2⟩:=h;exact⟨xs,hL.del h1 (λ_ z=>nomatch z),h2.cD ht⟩
 | frz ds =>
  obtain⟨xs,h1,h2⟩:=h;refine⟨xs,?_,h2.cD ht⟩;rcases h1 with⟨o,h1⟩ | h1
  ·exact .inl ⟨o,hL.del h1 λ_ z=>(by cases z)⟩
  ·exact .inr h1
 | dic kvs=>obtain⟨ws,h1,h2⟩:=h;exact⟨ws,hL.del h1 (λ_ z=>nomatch z),h2.cD ht⟩
 | dkc kvs=>obtain⟨ws,h1,h2⟩:=h;exact⟨ws,hL.del h1 (λ_ z=>nomatch z),h2.cD ht⟩
 | dkf kvs=>obtain⟨ws,o,h1,h2⟩:=h;exact⟨ws,o,hL.del h1 (λ_ z=>(by cases z)),h2.cD ht⟩
 | dtf kvs=>obtain⟨ws,o,h1,h2⟩:=h;exact⟨ws,o,hL.del h1 (λ_ z=>(by cases z)),h2.cD ht⟩
 | exc c d=>obtain⟨oe,C,dx,od,v,fs,h1,h2,h3,h4,h5,h6,h7⟩:=h;exact⟨oe,C,dx,od,v,fs,hL.del h1 (λo z w q=>(by cases z;rw[h4]at q;cases q)),h2,h3,h4,hL.del h5 (λ_ z=>(by cases z)),h6,h7.cD ht d⟩
 | ins c fs=>obtain⟨C,dx,ws,h0,h1,h2⟩:=h;exact⟨C,dx,ws,h0,hL.del h1 (λ_ z=>nomatch z),h2.cD ht⟩
 | tab x =>
  obtain⟨h0,ps,h1,h2,h3⟩:=h;refine⟨h0,ps,hL.del h1 (λ_ z=>nomatch z),h2,λpos cv e=>?_⟩;obtain⟨c',e1,oc,vs,t,e2,e3,e4⟩:=h3 pos cv e;exact⟨c',e1,oc,vs,t,hL.del e2 (λo z v=>by cases z;rw[e3];exact λy=>nomatch y),e3,e4⟩
 | clo j l ds=>cases hc
 | hid=>trivial
noncomputable def dU (st:aq):aq:=st.map λo=>if o.dH then .hid else o
theorem ziv (st:aq):(dU st).length=st.length:=by simp[dU]
theorem zif {st:aq}{n:Nat}{o:MO}(h:(dU st)[n]? = some o):∃o',st[n]? = some o'/\((o'.dH=true/\o=.hid)\/(o'.dH=false/\o=o')):=by
 unfold dU at h;rw[gF]at h;cases e:st[n]? with
 | none=>rw[e]at h;cases h
 | some o' =>
  rw[e]at h;refine⟨o',rfl,?_⟩;have h:(if o'.dH=true then MO.hid else o')=o:=Option.some.inj h;by_cases hc:o'.dH=true
  ·rw[if_pos hc]at h;exact .inl ⟨hc,h.symm⟩
  ·rw[if_neg hc]at h;exact .inr ⟨by simpa using hc,h.symm⟩
theorem znu {st:aq}{n:Nat}{o:MO}(h:st[n]? = some o):(dU st)[n]? = some (if o.dH then .hid else o):=by
 unfold dU;rw[gF,h];rfl
theorem aV.hide {K:PySem.W.Frag}{μ:List Addr}{H:Hp}{st:aq}{L:List (Addr×Obj)}(hL:tW L H)(h:aV K μ H st):aV K μ (dN L H) (dU st):=by
 refine⟨by rw[h.len,ziv],λn o e=>?_,λi j a oi oj ei ej mi mj hi hj=>?_⟩
 ·obtain⟨o',e1,e2⟩:=zif e;obtain⟨a,h1,h2⟩:=h.at_ n o' e1;rcases e2 with⟨c,rfl⟩ | ⟨c,rfl⟩
  ·exact⟨a,h1,trivial⟩
  ·exact⟨a,h1,h2.del hL c⟩
 ·obtain⟨oi',e1,e2⟩:=zif ei;obtain⟨oj',e3,e4⟩:=zif ej;rcases e2 with⟨_,rfl⟩ | ⟨_,rfl⟩
  ·cases mi
  ·rcases e4 with⟨_,rfl⟩ | ⟨_,rfl⟩
   ·cases mj
   ·exact h.uniq i j a oi oj e1 e3 mi mj hi hj
theorem aV.QJ {K:PySem.W.Frag}{μ:List Addr}{H H':Hp}{st:aq}{L:List (Addr×Obj)}(h0:aV K μ H st)(h:aV K μ H' (dU st))(hn:∀b o,L.lookup b=some o->H' b=none)(ext:Ext H (eO L H')):aV K μ (eO L H') st:=by
 have up:∀b u,H' b=some u->eO L H' b=some u:=λb u e=>by
  cases z:L.lookup b with
  | none=>rw[wW z];exact e
  | some o=>rw[hn b o z]at e;cases e
 refine⟨h0.len,λn o e=>?_,h0.uniq⟩;by_cases hc:o.dH=true
 ·obtain⟨a,h1,h2⟩:=h0.at_ n o e;refine⟨a,h1,h2.keep ⟨⟨[],by simp⟩,ext⟩ λhm=>?_⟩;cases o<;>simp[MO.dH,MO.mut]at hc hm
 ·have e2:=znu e;rw[if_neg hc]at e2;obtain⟨a,h1,h2⟩:=h.at_ n o e2;exact⟨a,h1,h2.keep ⟨⟨[],by simp⟩,⟨λb xs q=>up b _ q,λb o u q=>up b _ q⟩⟩ λ_ u q=>up a u q⟩
structure Qj (P:Program)(w:World)(K:PySem.W.Frag)(mg:Str->Option Value)(base:Heap)(k:Nat)(l:fJ)(ps:List Str)(m:ME):Prop where
 sc:yI l.rB ps l.scope
 bind:∀cl pm c' tO (us:List Value),us.length=ps.length->bindArgs (PySem.W.kla_fn "<lambda>" l.qual l.params l.body l.scope cl pm (.ref c') tO) ⟨us,[]⟩=pure (ps.zip us)
 body:∀(f:Addr) (cd:Value) (cl:List (Str×Addr)) (A:Around) (outer:List Env) (s:Shared) (H:Hp),dC k (A.deeper (PySem.W.envX l.qual l.scope s.heap.objs.size f cd cl)) ->
  JE (Am P w K mg base (l.rB++ps) l.qual l.scope f cd cl A outer s H) l.body m
open Classical in
noncomputable def Bj (Λ:Nat->fJ)(G:Nat->FD)(n:Nat)(as:List D)(st:aq):R D:=match st[n]? with
 | some (.clo j l ds)=>if l=Λ j then (match gc (dU st) (G j (ds++as) (dU st)) with
  | .ok d st2=>if st2=dU st/\under st.length d then .ok d st else .bad
  | _=>.bad) else .bad
 | _=>.bad
noncomputable def CW (n:Nat)(m:ME):FD:=λds st=>if ds.length=n then m (ds.map some) st else .bad
noncomputable def Jy (P:Program)(w:World)(K:PySem.W.Frag)(mg:Str->Option Value)(base:Heap)(k:Nat)(Λ:Nat->fJ)(G:Nat->FD):Prop :=
 ∀j,(∀ds st,G j ds st=.bad)\/∃ps m,Qj P w K mg base k (Λ j) ps m/\G j=CW ((Λ j).rB.length+ps.length) m
theorem fK.len {H:Hp}:∀{cl:List (Str×Addr)} {vs:List V},fK H cl vs->vs.length=cl.length
 | [],_,h=>by have h:_=[]:=h;subst h;rfl
 | (_,c)::cl,_,⟨v,r,o,u,h1,_,_,_,h5⟩=>by subst h1;simp[fK.len h5]
theorem tW.back {L:List (Addr×Obj)}{H H':Hp}(hL:tW L H)(e:Ext (dN L H) H')(hn:∀b o,L.lookup b=some o->H' b=none):Ext H (eO L H'):=by
 have up:∀b u,H' b=some u->eO L H' b=some u:=λb u e=>by
  cases z:L.lookup b with
  | none=>rw[wW z];exact e
  | some o=>rw[hn b o z]at e;cases e
 refine⟨λb xs q=>up b _ (e.tup b xs (hL.del q λ_ z=>nomatch z)),λb o u q=>?_⟩;cases z:L.lookup b with
 | none=>exact up b _ (e.frz b o u (by rw[Bp z];exact q))
 | some o' =>
  have q2:=(hL b o' z).1;rw[q]at q2;cases q2;exact WY z
noncomputable def callC (Λ:Nat->fJ)(G:Nat->FD)(i:Nat)(mA:MA):ME:=λenv st=>match env[i]? with
 | some (some (.loc n))=>(match st[n]? with
  | some (.clo _ _ _)=>(mA env st).bind λas st1=>Bj Λ G n as st1
  | _=>.bad)
 | _=>.bad
section
variable {X:Cx}{e:Expr}{es:List Expr}{mA:MA}{pos p:Pos}{x:Str}{k:Nat}{Λ:Nat->fJ}{G:Nat->FD}
theorem HB (hΛ:Jy X.prog X.w X.K X.mg X.base k Λ G)(hr:dC (k+1) X.A)(i:Nat)(ha:JA X (e::es) mA)(hN:X.N[i]? = some x:=by rfl)(hv:Vis X.env.scope x:=by first | exact Or.inl rfl | exact Or.inr (Or.inl rfl) | exact Or.inr (Or.inr rfl))
  (hd:(x==("__debug__":Str))=false:=by decide) (xH:(x==("__classdict__":Str))=false:=by decide) (he:starEach (e::es) X.env=(false,eval e X.env)::starEach es X.env:=by rfl) (jW:(backTo pos (starEach es X.env)).any (·.1)=false:=by rfl) :
  JE X (.Call (.Name x p) (e::es) [] pos) (callC Λ G i mA):=by
 rintro pins s σ H Q I ⟨μ,env,st,hE,hs,hp⟩;unfold callC at hp
 split at hp
 case h_2=>exact hp.elim
 rename_i n hi
 split at hp
 case h_2=>exact hp.elim
 rename_i j0 l0 ds0 hn;obtain⟨v,h1,h2⟩:=hE.at_ i _ hi;obtain⟨a,q1,rfl⟩:=ao.aN.mp h2;obtain⟨a',r1,r2⟩:=hs.at_ n _ hn;rw[q1]at r1;cases r1;obtain⟨cl0,pm0,c0,adl,ac5,w1,_⟩:=r2;refine wpAny_Call_Name_kw (dz (Gq hN hv hd xH pins s σ H (λv' H'=>v'=.ref a/\H'=H) I ⟨.ref a,h1,rfl,rfl⟩) λu s0 zz=>?_);obtain⟨v',H',I0,r0,ev,eH⟩:=zz;subst ev eH;cases (show u=Value.ref a from r0);have fnAt:∀(s:Shared) (H:Hp) (o:Obj),Inv X pins σ H s->(∃q ps b sc cl pm c' tO,o=PySem.W.kla_obj "<lambda>" q ps b sc cl pm c' tO)->H a=some (.frz o (.own 0))->PySem.W.FnAt a s.heap:=by
  rintro s H o I ⟨q,ps,b,sc,cl,pm,c',tO,rfl⟩ h;exact⟨_,_,_,_,(I.bV a _ h).1⟩
 refine PySem.W.callWith_F (fnAt s0 H' _ I0 ⟨_,_,_,_,_,_,_,_,rfl⟩ w1) (dz (ha pos pins s0 σ H' _ I0 ⟨μ,env,st,hE,hs,cg.bind hp⟩) λus s1 zz=>?_) he jW;obtain⟨vs,H1,I1,r,μ1,st1,as,g1,bQ,MF,aZ⟩:=zz;have g2:=g1.get q1;unfold Bj at aZ;dsimp only at aZ
 split at aZ
 case h_2=>exact aZ.elim
 rename_i j l ds hn1
 split at aZ
 case isFalse=>exact aZ.elim
 rename_i hl;subst hl;obtain⟨a',r1,cl,pm,c',tO,Kh,hf,yq,PQ,uR,xG,yp⟩:=bQ.at_ n _ hn1;rw[g2]at r1;cases r1;refine⟨fnAt s1 H1 _ I1 ⟨_,_,_,_,_,_,_,_,rfl⟩ hf,?_⟩;rcases hΛ j with acg | ⟨ps,m,LO,hG⟩
 ·rw[acg]at aZ;exact aZ.elim
 have hlen:(ds++as).length=(Λ j).rB.length+ps.length:=by
  refine Classical.byContradiction λh=>?_;rw[hG]at aZ;unfold CW at aZ;rw[if_neg h]at aZ;exact aZ.elim
 have e1:ds.length=(Λ j).rB.length:=by rw[yp.length,xG.len,<-PQ,gf]
 have hul:us.length=ps.length:=by
  rw[<-r.length,<-MF.length];rw[gC]at hlen;omega
 refine wpAny_call (codeAny_mono (Mj (k:=k) (Q:=Q) (vs:=vs) I1.Nm hr LO.sc hf yq PQ uR xG (LO.bind cl pm c' tO us hul) hul r ?_) λr s' hq=>?_)
 ·intro L hL;have hL:tW L H1:=hL;refine⟨_,LO.body a (.ref c') cl X.A X.stack s1 (dN L H1) (hr.deeper _),μ1,(ds++as).map some,dU st1,?_,bQ.hide hL,?_⟩
  ·have J5:ak X.K μ1 (dN L H1) (ds++as) (Kh++vs):=(yp.append MF).cD (λb xs q=>hL.del q λ_ z=>nomatch z) _;refine⟨by rw[gf,gf,J5.length],λi d e=>?_⟩;rw[gF]at e ⊢;cases q:(ds++as)[i]? with
   | none=>rw[q]at e;cases e
   | some d' =>
    rw[q]at e;cases e;obtain⟨v,q1,q2⟩:=J5.get q;exact⟨v,by rw[q1];rfl,q2⟩
  ·have key:vL X.K μ1 (dN L H1) (λv H'=>(∀b o,L.lookup b=some o->H' b=none)->Q v (eO L H')) (G j (ds++as) (dU st1)):=by
    refine zoq (bQ.hide hL) ?_
    split at aZ
    case h_2=>exact aZ.elim
    rename_i d st2 Py
    split at aZ
    case isFalse=>exact aZ.elim
    rename_i hc;rw[Py];intro v H' μ' g oZ zy hn';obtain⟨rfl,_⟩:=hc;obtain⟨ν,rfl⟩:=g.pre;have hν:ν=[]:=by
     have:=oZ.len;rw[gC,bQ.len,ziv]at this;exact pZ (by omega)
    subst hν;rw[gZ]at oZ zy;have ext:=hL.back g.ext hn';refine aZ v (eO L H') μ1 ⟨⟨[],by simp⟩,ext⟩ (bQ.QJ oZ hn' ext) (zy.cD (λb xs q=>?_) d);cases z:L.lookup b with
    | none=>rw[wW z];exact q
    | some o=>rw[hn' b o z]at q;cases q
   rw[hG]at key;unfold CW at key;rw[if_pos hlen]at key;cases hm:m ((ds++as).map some) (dU st1) with
   | bad=>rw[hm]at key;exact key.elim
   | err y st2=>rw[hm]at key;exact key.elim
   | ok d st2=>rw[hm]at key;exact key
 ·cases r with
  | error e=>exact False.elim hq
  | ok fl =>
   cases fl with
   | ret u=>exact I1.after hq
   | next=>exact False.elim hq
   | brk=>exact False.elim hq
   | cont=>exact False.elim hq
end
inductive LA where
 | v (d:D) | l (j:Nat) (cap:List Nat)
noncomputable abbrev ML:=bA->aq->R (List LA)
noncomputable def lq (X:Cx)(l:fJ):List (Str×Addr):=l.rB.map λx=>(x,(X.env.cells.lookup x).getD 0)
structure sH (X:Cx)(l:fJ)(cap:List Nat):Prop where
 nd:l.rB.Nodup
 cell:∀x∈l.rB,X.env.kindOf x=some .cell
 ix:cap.map (λi=>X.N[i]?)=l.rB.map some
noncomputable def Bl (X:Cx)(Λ:Nat->fJ)(μ:List Addr)(H:Hp):LA->V->Prop
 | .v d,v=>ao X.K μ H d v
 | .l j cap,v=>sH X (Λ j) cap/\∃f pm c' tO,v=.ref f/\H f=some (.frz (PySem.W.kla_obj "<lambda>" (Λ j).qual (Λ j).params (Λ j).body (Λ j).scope (lq X (Λ j)) pm c' tO) (.own 0))/\tV H c' (Λ j).qual
noncomputable def jQ (X:Cx)(Λ:Nat->fJ)(μ:List Addr)(H:Hp):List LA->List V->Prop
 | [],vs=>vs=[]
 | a::r,vs=>∃v t,vs=v::t/\Bl X Λ μ H a v/\jQ X Λ μ H r t
noncomputable abbrev abi (X:Cx)(Λ:Nat->fJ):Rel (List LA) (List V):=fun μ H d v=>jQ X Λ μ H d v
section
variable {X:Cx}{Λ:Nat->fJ}{μ μ':List Addr}{H H':Hp}
theorem Bl.mono (g:bC μ H μ' H'):∀{a:LA} {v:V},Bl X Λ μ H a v->Bl X Λ μ' H' a v
 | .v d,_,h=>ao.mono g d h
 | .l j cap,_,⟨h0,f,pm,c',tO,h1,h2,h3⟩=>⟨h0,f,pm,c',tO,h1,g.ext.frz _ _ _ h2,h3.ext g.ext⟩
theorem jQ.mono (g:bC μ H μ' H'):∀{a:List LA} {v:List V},jQ X Λ μ H a v->jQ X Λ μ' H' a v
 | [],_,h=>h
 | a::r,_,⟨v,t,e,h1,h2⟩=>⟨v,t,e,h1.mono g,jQ.mono g h2⟩
theorem jQ.length:∀{a:List LA} {v:List V},jQ X Λ μ H a v->a.length=v.length
 | [],_,h=>by have h:_=[]:=h;subst h;rfl
 | a::r,_,⟨v,t,e,h1,h2⟩=>by subst e;simp[jQ.length h2]
end
noncomputable def tML (X:Cx)(Λ:Nat->fJ)(m:ML):TA:=fun σ H Q=>∃μ env st,dR X.K μ H env σ/\aV X.K μ H st/\cg X μ H (abi X Λ) Q (m env st)
noncomputable def JL (X:Cx)(Λ:Nat->fJ)(es:List Expr)(m:ML):Prop:=PA X es (tML X Λ m)
noncomputable def GX:ML:=λ_ st=>.ok [] st
noncomputable def uF (a:ME)(r:ML):ML:=λenv st=>(a env st).bind λx st1=>(r env st1).bind λxs st2=>.ok (.v x::xs) st2
noncomputable def zm (j:Nat)(cap:List Nat)(k:Nat)(x:Str)(r:ML):ML:=λenv st=>match st[k]? with
 | some (.tab y)=>if y=x then (r env st).bind λxs st2=>.ok (.l j cap::xs) st2 else .bad
 | _=>.bad
noncomputable def aaE (X:Cx)(x:Str):Prop:=X.env.qual=x ++ ".<locals>."/\∃(c fa:Addr) (o:Obj) (fd:FuncData),X.env.code=.ref c/\PySem.W.nsIn X.K mainGlobals x=some (some (.ref fa))/\X.K.lookup fa=some o/\o.data=.func fd/\fd.code=.ref c
section
variable {X:Cx}{Λ:Nat->fJ}{μ:List Addr}{H H':Hp}{st:aq}{e:Expr}{es:List Expr}{ma:ME}{m:ML}
theorem S5:JL X Λ [] GX:=by
 refine λpos pins s σ H Q I zz=>?_;obtain⟨μ,env,st,hE,hs,hp⟩:=zz;exact zc pos pins s σ H Q I (hp.ret hs rfl)
theorem An (h:JE X e ma)(hr:JL X Λ es m)(hs:starEach (e::es) X.env=(false,eval e X.env)::starEach es X.env:=by rfl):JL X Λ (e::es) (uF ma m):=by
 rintro pos pins s σ H Q I ⟨μ,env,st,hE,Pj,hp⟩;refine WX h hr hs pos pins s σ H Q I ⟨μ,env,st,hE,Pj,hp.bind.imp ?_⟩;rintro x H1 ⟨μ1,st1,d,g1,bQ,hx,aZ⟩;refine⟨μ1,env,st1,hE.mono g1,bQ,aZ.bind.imp ?_⟩;rintro xs H2 ⟨μ2,st2,ds,g2,fV,uB,cZ⟩;exact cZ.ret fV ⟨x,xs,rfl,hx.mono g2 _,uB⟩
theorem _root_.L2.vM.ext {P f c':Addr}{q:Str}{ob:Obj}(n:vM H H' P f c' q ob){ps:Array Value}(hP:H P=some (.tbl ps)):Ext H H' :=
 ⟨λb xs e=>n.same b _ (λz=>by rw[z,hP]at e;cases e) e,λb o u e=>n.same b _ (λz=>by rw[z,hP]at e;cases e) e⟩
theorem aV.lam {P f c':Addr}{x:Str}{ob:Obj}{k:Nat}(hs:aV X.K μ H st)(hk:st[k]? = some (.tab x))(ha:μ[k]? = some P)(n:vM H H' P f c' (tu x) ob):aV X.K μ H' st:=by
 obtain⟨a,h1,h2⟩:=hs.at_ k _ hk;rw[ha]at h1;cases h1;obtain⟨wO,ps,hP,_⟩:=h2;have ext:=n.ext hP;refine⟨hs.len,λi o e=>?_,hs.uniq⟩;obtain⟨b,q1,q2⟩:=hs.at_ i o e;refine⟨b,q1,?_⟩;by_cases hm:o.mut=true
 ·by_cases hb:b=P
  ·subst hb;have hik:=hs.uniq i k b o (.tab x) e hk hm rfl q1 ha;subst hik;rw[hk]at e;cases e;exact⟨wO,n.tab⟩
  ·exact q2.keep ⟨⟨[],by simp⟩,ext⟩ λ_ u q=>n.same b u hb q
 ·exact q2.keep ⟨⟨[],by simp⟩,ext⟩ λz=>absurd z hm
theorem S6 {x:Str}{j k:Nat}{cap:List Nat}{params:Arguments}{body:Expr}{scope:Scope}{pos:Pos}(hB:BMain X.mg X.base)(hT:aaE X x)(Eo:sH X (Λ j) cap)(hq:(Λ j).qual=tu x)(hp:(Λ j).params=params)(hb:(Λ j).body=body)(ZP:(Λ j).scope=scope)
  (uU:closureFor scope X.env=pure (lq X (Λ j))) (hr:JL X Λ es m) (T6:defaultsOf params X.env=([],[]):=by rfl) (hs:starEach (.Lambda params body scope pos::es) X.env=(false,eval (.Lambda params body scope pos) X.env)::starEach es X.env:=by rfl) :
  JL X Λ (.Lambda params body scope pos::es) (zm j cap k x m):=by
 subst hp hb ZP;rintro sX pins s σ H Q I ⟨μ,env,st,hE,Pj,hp⟩;unfold zm at hp
 split at hp
 case h_2=>exact hp.elim
 rename_i y hk
 split at hp
 case isFalse=>exact hp.elim
 rename_i hy;subst hy;obtain⟨P,h1,h2⟩:=Pj.at_ k _ hk;obtain⟨⟨fa',o',fd',c',w1,w2,w3,w4,w5⟩,ps,w6,w7,w8⟩:=h2;obtain⟨ZZ,c,fa,o,fd,t1,t2,t3,t4,t5⟩:=hT;rw[t2]at w1;cases w1;rw[t3]at w2;cases w2;rw[t4]at w3;cases w3;rw[t5]at w4;cases w4;refine WX (RV (P:=P) (c:=c') (q:=tu y) (clos:=lq X (Λ j)) hB t1 w5 (by rw[ZZ];rfl) uU T6) hr hs sX pins s σ H Q I ⟨⟨ps,w6,w7,w8⟩,λf c' pm tO H' n=>?_⟩;have g:bC μ H μ H':=⟨⟨[],by simp⟩,n.ext w6⟩;refine⟨μ,env,st,hE.mono g,Pj.lam hk h1 n,(cg.mono g hp).bind.imp ?_⟩;rintro xs H2 ⟨μ2,st2,ds,g2,fV,uB,cZ⟩;refine cZ.ret fV ⟨.ref f,xs,rfl,⟨Eo,f,pm,c',tO,rfl,?_,?_⟩,uB⟩
 ·rw[hq];exact g2.ext.frz _ _ _ n.new
 ·rw[hq];exact n.code.ext g2.ext
end
noncomputable def cellAt (h:Heap)(c:Addr):Option Obj:=match h.get? c with
 | some o=>(match o.data with | .cell (some _)=>some o | _=>none)
 | none=>none
theorem zid {h:Heap}{c:Addr}{o:Obj}(e:cellAt h c=some o):h.get? c=some o/\∃u,o.data=.cell (some u):=by
 unfold cellAt at e
 split at e
 ·rename_i o' h1
  split at e
  ·rename_i u h2;cases e;exact⟨h1,u,h2⟩
  ·cases e
 ·cases e
theorem DP {h:Heap}{c:Addr}{o:Obj}{u:Value}(h1:h.get? c=some o)(h2:o.data=.cell (some u)):cellAt h c=some o:=by
 unfold cellAt;rw[h1];dsimp only;rw[h2]
noncomputable def qP (cl:List (Str×Addr))(h:Heap):List Str->List (Addr×Obj)
 | []=>[]
 | x::r=>match cl.lookup x with
  | some c=>(match cellAt h c with | some o=>(c,o)::qP cl h r | none=>qP cl h r)
  | none=>qP cl h r
theorem zg4 {cl:List (Str×Addr)}{h:Heap}{b:Addr}{o:Obj}:∀{xs:List Str},(qP cl h xs).lookup b=some o->cellAt h b=some o/\∃x,cl.lookup x=some b
 | [],e=>by cases e
 | x::r,e=>by
  unfold qP at e
  split at e
  ·rename_i c hc
   split at e
   ·rename_i o' ho;rw[kJ]at e;by_cases hb:(b==c)=true
    ·simp only[hb]at e;cases e;obtain rfl:=eq_of_beq hb;exact⟨ho,x,hc⟩
    ·simp only[show (b==c)=false by simpa using hb]at e;exact zg4 e
   ·exact zg4 e
  ·exact zg4 e
theorem zi5 {cl:List (Str×Addr)}{h:Heap}{b:Addr}{o:Obj}{x:Str}(hx:cl.lookup x=some b)(ho:cellAt h b=some o):∀{xs:List Str},x∈xs->(qP cl h xs).lookup b=some o
 | [],e=>by cases e
 | y::r,e=>by
  unfold qP;by_cases hy:x=y
  ·subst hy;rw[hx];dsimp only;rw[ho];dsimp only;rw[kJ];simp
  ·have e:=zi5 hx ho (xs:=r) (by simpa[hy] using e)
   split
   ·rename_i c hc
    split
    ·rename_i o' En;rw[kJ];by_cases hb:(b==c)=true
     ·simp only[hb];obtain rfl:=eq_of_beq hb;rw[ho]at En;exact En.symm
     ·simp only[show (b==c)=false by simpa using hb];exact e
    ·exact e
   ·exact e
noncomputable def zK:List Nat->bA->Option (List D)
 | [],_=>some []
 | i::r,env=>match env[i]? with
  | some (some d)=>(match zK r env with | some ds=>some (d::ds) | none=>none)
  | _=>none
noncomputable def qu (Λ:Nat->fJ)(env:bA):Nat->List LA->Option (List D×List MO)
 | _,[]=>some ([],[])
 | n,.v d::r=>(match qu Λ env n r with | some (ds,os)=>some (d::ds,os) | none=>none)
 | n,.l j cap::r=>(match zK cap env with
  | some cs=>(match qu Λ env (n+1) r with | some (ds,os)=>some (.loc n::ds,.clo j (Λ j) cs::os) | none=>none)
  | none=>none)
noncomputable def dZ (st:aq):Prop:=∀o∈st,o.dH=false
open Classical in
noncomputable def vJ (Λ:Nat->fJ)(F:FD)(dd:List D)(m:ML):ME:=λenv st=>(m env st).bind λas st1=>if dZ st1 then (match qu Λ env st1.length as with
 | some (ds,os)=>(match gc st1 (F (ds++dd) (st1++os)) with
  | .ok d st2=>if dZ st2 then .ok d st2 else .bad
  | _=>.bad)
 | none=>.bad) else .bad
theorem aV.snoc {K:PySem.W.Frag}{μ:List Addr}{H:Hp}{st:aq}{a:Addr}{o:MO}(h:aV K μ H st)(hm:o.mut=false)(ho:jk K (μ++[a]) H a o):aV K (μ++[a]) H (st++[o]):=by
 have key:∀(n:Nat) (on:MO) (c:Addr),(st++[o])[n]? = some on->on.mut=true->(μ++[a])[n]? = some c->st[n]? = some on/\μ[n]? = some c:=λn on c e1 hmn e2=>by
  by_cases hn:n<st.length
  ·rw[gQ hn]at e1;rw[gQ (by rw[h.len];exact hn)]at e2;exact⟨e1,e2⟩
  ·rw[gR (by omega)]at e1;have:=gY e1;simp at this;subst this;rw[hm]at hmn;cases hmn
 refine⟨by simp[h.len],λn on e1=>?_,λi j c oi oj ei ej mi mj hi hj=>?_⟩
 ·by_cases hn:n<st.length
  ·rw[gQ hn]at e1;obtain⟨b,q1,q2⟩:=h.at_ n on e1;exact⟨b,by rw[gQ (by rw[h.len];exact hn)];exact q1,q2.up _⟩
  ·have hl:=(gj.mp e1).1;rw[gC,nq]at hl;have en:n=st.length:=by omega
   subst en;rw[gR (gh _)]at e1;simp at e1;subst e1;exact⟨a,by rw[<-h.len];simp,ho⟩
 ·obtain⟨a1,a2⟩:=key i oi c ei mi hi;obtain⟨b1,b2⟩:=key j oj c ej mj hj;exact h.uniq i j c oi oj a1 b1 mi mj a2 b2
theorem aV.del {K:PySem.W.Frag}{μ:List Addr}{H:Hp}{st:aq}{L:List (Addr×Obj)}(hL:tW L H)(hc:dZ st)(h:aV K μ H st):aV K μ (dN L H) st :=
 ⟨h.len,λn o e=>let ⟨a,h1,h2⟩:=h.at_ n o e;⟨a,h1,h2.del hL (hc o (gY e))⟩,h.uniq⟩
section
variable {X:Cx}{Λ:Nat->fJ}{H:Hp}{env:bA}
theorem zj8 (uR:∀l cap,sH X l cap->((lq X l).map (·.2)).Nodup):∀{as:List LA} {vs:List V} {μ:List Addr} {st:aq} {n:Nat} {ds:List D} {os:List MO},(∀l cap,sH X l cap->∀cs,zK cap env=some cs->∃vs,fK H (lq X l) vs/\ak X.K μ H cs vs)->qu Λ env n as=some (ds,os)->jQ X Λ μ H as vs->aV X.K μ H st->n=st.length ->
  ∃ν,aV X.K (μ++ν) H (st++os)/\ak X.K (μ++ν) H ds vs
 | [],vs,μ,st,n,ds,os,hc,e,h,hs,hn=>by
  cases e;have h:vs=[]:=h;subst h;exact⟨[],by simpa using hs,ak.nil⟩
 | .v d::r,_,μ,st,n,ds,os,hc,e,⟨v,t,rfl,h1,h2⟩,hs,hn=>by
  unfold qu at e
  split at e
  ·rename_i Um VD e';cases e;obtain⟨ν,q1,q2⟩:=zj8 uR hc e' h2 hs hn;exact⟨ν,q1,ak.cons (ao.mono ⟨⟨ν,rfl⟩,.refl H⟩ d h1) q2⟩
  ·cases e
 | .l j cap::r,_,μ,st,n,ds,os,hc,e,⟨v,t,rfl,Ie,h2⟩,hs,hn=>by
  obtain⟨h0,f,pm,c',tO,rfl,h3,h4⟩:=Ie;unfold qu at e
  split at e
  ·rename_i cs ec
   split at e
   ·rename_i Um VD e';cases e;obtain⟨vs,q1,q2⟩:=hc _ cap h0 cs ec;have g:bC μ H (μ++[f]) H:=⟨⟨[f],rfl⟩,.refl H⟩;have bQ:aV X.K (μ++[f]) H (st++[.clo j (Λ j) cs]):=hs.snoc rfl ⟨lq X (Λ j),pm,c',tO,vs,h3,h4,by simp[lq,Function.comp_def],uR _ cap h0,q1,q2.mono g _⟩;obtain⟨ν,r1,r2⟩:=zj8 uR (μ:=μ++[f]) (λl cap hl cs ec=>let ⟨vs,a1,a2⟩:=hc l cap hl cs ec;⟨vs,a1,a2.mono g _⟩) e' (h2.mono g) bQ (by simp[hn]);refine⟨f::ν,by simpa using r1,ak.cons (ao.aN.mpr ⟨f,?_,rfl⟩) (by simpa using r2)⟩;rw[hn,<-hs.len];simp
   ·cases e
  ·cases e
end
section
variable {X:Cx}{Λ:Nat->fJ}{e:Expr}{es:List Expr}{m:ML}{pos p:Pos}{x:Str}{k:Nat}{f:Addr}{fd:FuncData}{ps:List Str}{F:FD}{dvs:List V}{ds:List Value}{dd:List D}
theorem Nv {pins:List (Addr×Obj)}{σ:L2.St}{H:Hp}{s:Shared}(I:Inv X pins σ H s){l:fJ}{cap:List Nat}(h:sH X l cap):((lq X l).map (·.2)).Nodup:=by
 unfold lq;rw[gW];have key:∀xs:List Str,xs.Nodup->(∀x∈xs,X.env.kindOf x=some .cell)->(xs.map ((λp:Str×Addr=>p.2)∘λx=>(x,(X.env.cells.lookup x).getD 0))).Nodup:=by
  intro xs
  induction xs with
  | nil=>intros;simp
  | cons x xs ih =>
   intro nd hc;rw[kZ]at nd;rw[gB,kZ];refine⟨λhm=>?_,ih nd.2 λy hy=>hc y (by simp[hy])⟩;obtain⟨y,hy,e⟩:=gb.mp hm;obtain⟨c,h1⟩:=I.ok.has x (.inl (hc x (by simp)));obtain⟨c2,h2⟩:=I.ok.has y (.inl (hc y (by simp[hy])));simp only[Function.comp,h1,h2,Option.getD_some]at e;subst e;have:=I.ok.inj x y _ h1 h2;subst this;exact nd.1 hy
 exact key _ h.nd h.cell
theorem Jh {pins:List (Addr×Obj)}{σ:L2.St}{H H2:Hp}{s:Shared}{μ:List Addr}{env:bA}(I:Inv X pins σ H s)(hE:dR X.K μ H2 env σ)(hc:∀x b o,X.env.cells.lookup x=some b->cellAt s.heap b=some o->H2 b=some (.frz o (.own 0))){l:fJ}{cap:List Nat}(h:sH X l cap){cs:List D}(e:zK cap env=some cs) :
  ∃vs,fK H2 (lq X l) vs/\ak X.K μ H2 cs vs:=by
 obtain⟨mm,A_,hl⟩:=I.loc;have key:∀(xs:List Str) (cap:List Nat) (cs:List D),(∀x∈xs,X.env.kindOf x=some .cell)->cap.map (λi=>X.N[i]?)=xs.map some->zK cap env=some cs->∃vs,fK H2 (xs.map λx=>(x,(X.env.cells.lookup x).getD 0)) vs/\ak X.K μ H2 cs vs:=by
  intro xs
  induction xs with
  | nil =>
   intro cap cs _ hx e;cases cap with
   | nil=>cases e;exact⟨[],rfl,ak.nil⟩
   | cons i cap=>cases hx
  | cons x xs ih =>
   intro cap cs hk hx e;cases cap with
   | nil=>cases hx
   | cons i cap =>
    rw[gB,gB]at hx;obtain⟨hx1,hx2⟩:=List.cons.inj hx;unfold zK at e
    split at e
    ·rename_i d ed
     split at e
     ·rename_i cs' ec;cases e;obtain⟨vs,a1,a2⟩:=ih cap cs' (λy hy=>hk y (by simp[hy])) hx2 ec;obtain⟨v,b1,b2⟩:=hE.at_ i d ed;have hkx:=hk x (by simp);obtain⟨u,r,lk⟩:=hl i x v hx1 b1 (.inr (.inl hkx));rcases lk with⟨z,_⟩ | ⟨_,c,hcx,o,ho,hd⟩
      ·rw[hkx]at z;cases z
      ·refine⟨v::vs,⟨v,vs,o,u,rfl,?_,hd,r,a1⟩,ak.cons b2 a2⟩;have:((X.env.cells.lookup x).getD 0)=c:=by rw[hcx];rfl
       rw[this];exact hc x c o hcx (DP ho hd)
     ·cases e
    ·cases e
 exact key l.rB cap cs h.cell h.ix e
theorem De (G:a_ X.prog X.w X.K X.mg X.base iR k f fd ps (jo X.K ps.length F))(hr:dC k X.A)(hm:X.mg x=some (.ref f))(hk:PySem.W.keepIn X.K (.ref f)=true)(hb:Binds X.K fd ps ds)(hd:Vals dvs ds)
  (hdd:∀μ H,ak X.K μ H dd dvs) (ha:JL X Λ (e::es) m) (hfn:∀x,X.fn x=true) (hlen:(e::es).length+dvs.length=ps.length:=by rfl) (hg:Gl X x:=by rfl) (vB:(x==("__debug__":Str))=false:=by decide) (he:starEach (e::es) X.env=(false,eval e X.env)::starEach es X.env:=by rfl) (jW:(backTo pos (starEach es X.env)).any (·.1)=false:=by rfl)
  (hA:∀env st as st1,m env st=.ok as st1->as.length=(e::es).length) :
  JE X (.Call (.Name x p) (e::es) [] pos) (vJ Λ F dd m):=by
 rintro pins s σ H Q I ⟨μ,env,st,hE,hs,hp⟩;refine wpAny_Call_Name_kw (zlo I hg hm ?_ vB);unfold vJ at hp;cases V9:m env st with
 | bad=>rw[V9]at hp;exact hp.elim
 | err y st1 =>
  rw[V9]at hp;refine PySem.W.callWith_K (h₀:=X.base) I.ok.mod.Sv hk (dz (ha pos pins s σ H (λ_ _=>False) I ⟨μ,env,st,hE,hs,by rw[V9];exact hp⟩) λus s1 zz=>?_) he jW;obtain⟨vs,H1,I1,r,q⟩:=zz;exact q.elim
 | ok as st1 =>
 have M8:=hA env st as st1 V9;rw[V9,R.aG]at hp
 split at hp
 case isFalse=>exact hp.elim
 rename_i hnc
 split at hp
 case h_2=>exact hp.elim
 rename_i as' os ab0
 split at hp
 case h_2=>exact hp.elim
 rename_i d st2 Py
 split at hp
 case isFalse=>exact hp.elim
 rename_i ab6;refine PySem.W.callWith_K (h₀:=X.base) I.ok.mod.Sv hk (dz (ha pos pins s σ H (λvs H1=>∃μ1,bC μ H μ1 H1/\aV X.K μ1 H1 st1/\jQ X Λ μ1 H1 as vs) I ⟨μ,env,st,hE,hs,?_⟩) λus s1 ⟨vs,H1,I1,r,μ1,g1,bQ,MF⟩=>⟨I1.tB,?_⟩) he jW
 ·rw[V9];exact λvs H1 μ1 g1 bQ MF=>⟨μ1,g1,bQ,MF⟩
 ·let L:=qP X.env.cells s1.heap (X.env.cells.map (·.1))
  have lin:∀b o,L.lookup b=some o->cellAt s1.heap b=some o/\∃x,X.env.cells.lookup x=some b:=λb o e=>zg4 e;have nL:∀b o,L.lookup b=some o->H1 b=none:=λb o e=>let ⟨_,x,hx⟩:=lin b o e;I1.lN x b hx;have Gx:∀b u,H1 b=some u->L.lookup b=none:=λb u e=>by
   cases z:L.lookup b with
   | none=>rfl
   | some o=>rw[nL b o z]at e;cases e
  have Uk:Ext H1 (eO L H1):=⟨λb xs e=>by rw[wW (Gx b _ e)];exact e,λb o u e=>by rw[wW (Gx b _ e)];exact e⟩;have gA:bC μ1 H1 μ1 (eO L H1):=⟨⟨[],by simp⟩,Uk⟩;have hsA:aV X.K μ1 (eO L H1) st1:=⟨bQ.len,λn o e=>let ⟨a,h1,h2⟩:=bQ.at_ n o e;⟨a,h1,h2.keep gA λ_ u q=>by rw[wW (Gx a u q)];exact q⟩,bQ.uniq⟩;have hcA:∀x b o,X.env.cells.lookup x=some b->cellAt s1.heap b=some o->eO L H1 b=some (.frz o (.own 0)):=λx b o hx ho =>
   WY (zi5 hx ho (gb.mpr ⟨(x,b),PySem.mem_of_lookup hx,rfl⟩))
  obtain⟨ν,hsN,hvN⟩:=zj8 (Λ:=Λ) (H:=eO L H1) (env:=env) (λl cap h=>Nv I1 h) (λl cap h cs ec=>Jh I1 ((hE.mono g1).mono gA) hcA h ec) ab0 (MF.mono gA) hsA rfl;refine KJ (L:=L) G hr hb hd I1 (λb o e=>?_) r ⟨?_,μ1++ν,as'++dd,st1++os,hvN.append (hdd _ _),hsN,?_⟩
  ·obtain⟨h1,x,h2⟩:=lin b o e;exact⟨(zid h1).1,x,h2,hfn x⟩
  ·rw[gC,<-MF.length,M8];exact hlen
  ·have key:vL X.K μ1 (eO L H1) (λv H'=>Q v (dN L H')) (F (as'++dd) (st1++os)):=by
    refine zoq hsA ?_;rw[Py];intro v H' μ' g oZ zy;have hL:tW L H':=λb o e=>⟨g.ext.frz b o _ (WY e),(zid (lin b o e).1).2⟩;have ext:Ext H1 (dN L H'):=⟨λb xs e=>by rw[Bp (Gx b _ e)];exact g.ext.tup b xs (Uk.tup b xs e),λb o u e=>by rw[Bp (Gx b _ e)];exact g.ext.frz b o u (Uk.frz b o u e)⟩;exact hp v (dN L H') μ' ⟨g1.trans ⟨g.pre,ext⟩ |>.pre,(g1.trans ⟨g.pre,ext⟩).ext⟩ (oZ.del hL ab6) (zy.cD (λb xs q=>hL.del q λ_ z=>nomatch z) d)
   have gN:bC μ1 (eO L H1) (μ1++ν) (eO L H1):=⟨⟨ν,rfl⟩,.refl _⟩;cases hF:F (as'++dd) (st1++os) with
   | bad=>rw[hF]at key;exact key.elim
   | err y o9=>rw[hF]at key;exact key.elim
   | ok d3 o9 =>
    rw[hF]at key;exact λv H' μ' g oZ zy=>key v H' μ' (gN.trans g) oZ zy
end
end M
namespace M
open PySem PySem.Spec L2 PyProof.Rows
structure Jv (K:PySem.W.Frag)(x:Str)(P:Addr):Prop where
 code:∃(fa:Addr) (o:Obj) (fd:FuncData) (c:Addr),PySem.W.nsIn K mainGlobals x=some (some (.ref fa))/\K.lookup fa=some o/\o.data=.func fd/\fd.code=.ref c/\PySem.W.codeHdIn K c P=true
 out:K.lookup P=none
theorem CV {P:Program}{w:World}{K:PySem.W.Frag}{mg mb:Str->Option Value}{k:Nat}{fa a:Addr}{fd:FuncData}{x:Str}{sp:Sp}{ady:Shared}{vs:List Value}{ns:List Int}{ts:List (Str×Addr)}
  (KX:K.In ady.heap) (A_:ady.heap.Ns mainGlobals mg) (hb:ady.heap.Ns builtinsNs mb) (hbb:∀x:Str,x ≠ "__name__"->mb x=bootBuiltins x) (ab_:ady.heap.NoLimit) (hg:ady.gens=#[])
  (hbm:∃bm ob,mg "__builtins__" = some (.ref bm)/\bm≠builtinsNs/\ady.heap.get? bm=some ob/\ob.cls=.type "module"/\ob.dict=some builtinsNs/\ob.data=.plain)
  (ht:∀p∈ts,ady.heap.get? p.2=some (PySem.W.tabObj #[])) (hk:∀p∈ts,Jv K p.1 p.2)
  (ha:ady.heap.get? a=some { cls:=.type "list",data:=.seq vs.toArray }) (hi:IntsAre vs ns) (hl:ns.length<=sizeLine) (hr:dC k callerA)
  (F:∀base:Heap,K.In base->base.Ns mainGlobals mg->BMain mg base->a_ P w K mg base iR k fa fd [x] sp) (aai:∀(s:Shared) (u:Value),BindsTo s fd ⟨[u],[]⟩ [(x,u)])
  (V5:∀H:Hp,xP K H a (ns.map V.int)->(∀p∈ts,H p.2=some (.tbl #[]))->sp [.ref a] H (λv _=>v=.bl true) λ_ _ _=>False) :
  codeAny (model P w) callerA (.call (.ref fa) ⟨[.ref a],[]⟩) (λr s'=>r=.ok (.ret (.bool true))/\OldK ady.heap s'.heap/\s'.os=ady.os/\AllBare s'.gens) ady:=by
 have rv:=zlv hi;have uP:=hi.length;have core:∀H:Hp,xP K H a (ns.map V.int)->(∀p∈ts,H p.2=some (.tbl #[]))->o7 P w H ady.heap->(∀b u,H b=some u->(b=a/\K.lookup a=none/\∃o xs,u=.frz o (.lst xs))\/(∃p∈ts,b=p.2/\u=.tbl #[])) ->
   codeAny (model P w) callerA (.call (.ref fa) ⟨[.ref a],[]⟩) (λr s'=>r=.ok (.ret (.bool true))/\OldK ady.heap s'.heap/\s'.os=ady.os/\AllBare s'.gens) ady:=by
  intro H hS hT bV hA;have xN:∀{b:Addr} {o:Obj},ady.heap.get? b=some o->H b=none->(wj ady.heap H).get? b=some o:=λe n=>Ih e n;have noH:∀{b:Addr} {o:Obj},ady.heap.get? b=some o->o.cls≠.type "list"->(∀vs,o.data≠.fields vs)->H b=none:=λ{b o} e d1 d2=>by
   cases q:H b with
   | none=>rfl
   | some u =>
    rcases hA b u q with⟨rfl,_⟩ | ⟨p,hp,rfl,_⟩
    ·rw[ha]at e;cases e;exact absurd rfl d1
    ·rw[ht p hp]at e;cases e;exact absurd rfl (d2 _)
  have LR:∀{b:Addr} {o:Obj} {es:Array DictEntry} {ep:Nat},ady.heap.get? b=some o->o.data=.dict es ep->H b=none:=λ{b o es ep} e d=>by
   cases q:H b with
   | none=>rfl
   | some u =>
    rcases hA b u q with⟨rfl,_⟩ | ⟨p,hp,rfl,_⟩
    ·rw[ha]at e;cases e;have d':Data.seq vs.toArray _=Data.dict es ep:=d;cases d'
    ·rw[ht p hp]at e;cases e;have d':Data.fields #[]=Data.dict es ep:=d;cases d'
  have nsK:∀{b:Addr} {m:Str->Option Value},ady.heap.Ns b m->(wj ady.heap H).Ns b m:=λ{b m} ⟨o,es,ep,e,d,r⟩=>⟨o,es,ep,xN e (LR e d),d,r⟩;have hKb:K.In (wj ady.heap H):=λb o e=>xN (KX b o e) (by
   cases q:H b with
   | none=>rfl
   | some u =>
    rcases hA b u q with⟨rfl,z,_⟩ | ⟨p,hp,rfl,_⟩
    ·rw[z]at e;cases e
    ·rw[(hk p hp).out]at e;cases e)
  have hM:Mod K mg (wj ady.heap H):=⟨hKb,nsK A_,⟨mb,nsK hb,hbb⟩,let ⟨mc,h1,h2⟩:=ab_;⟨mc,nsK h1,h2⟩⟩;have e0:xQ P w K mg (wj ady.heap H) callerA [] ady H:=⟨rfl,hM,λb o e=>LQ e,mX (Dj _ _),trivial,λb hb=>absurd (show b∈([]:List Addr) from hb) (by simp),bV,.of_eq hg⟩;have hBM:BMain mg (wj ady.heap H):=by
   obtain⟨bm,ob,b1,b2,b3,b4,b5,b6⟩:=hbm;refine⟨bm,ob,b1,b2,λz=>?_,xN b3 (noH b3 (by rw[b4];simp) λvs z=>by rw[b6]at z;cases z),b4,b5,b6⟩;obtain⟨o,es,ep,e,d,_⟩:=A_;rw[<-z,b3]at e;cases e;rw[b6]at d;cases d
  refine codeAny_mono ((F _ hKb (nsK A_) hBM).run callerA [] ady H ⟨[.ref a],[]⟩ [.ref a] [.ref a] _ _ hr e0 (aai ady (.ref a)) (.cons rfl .nil) (V5 H hS hT)) λr s' h=>?_;cases r with
  | error e=>exact False.elim h
  | ok fl =>
   cases fl with
   | next=>exact False.elim h
   | brk=>exact False.elim h
   | cont=>exact False.elim h
   | ret u =>
    obtain⟨v,H',os,bare,un,aad,r',q⟩:=h;have q':v=.bl true:=q;subst q';obtain rfl:u=Value.bool true:=r';refine⟨rfl,⟨λb o e=>?_,λb o e=>un.there b o e (by simp)⟩,os,bare⟩;cases q:H b with
    | none=>exact .inl (un.keep b o e q (by intro z;exact absurd (show b∈([]:List Addr) from z) (by simp)) (by simp))
    | some u =>
     rcases hA b u q with⟨rfl,_,ob,xs,rfl⟩ | ⟨p,hp,rfl,rfl⟩
     ·have z2:=un.uc _ ob _ q;obtain⟨e1,_⟩:=bV _ _ q;obtain⟨e2,_⟩:=aad _ _ z2;rw[e]at e1;cases e1;exact .inl e2
     ·obtain⟨more,z2⟩:=un.uH p.2 #[] q;have e2:s'.heap.get? p.2=some (PySem.W.tabObj (#[]++more)):=aad _ _ z2;obtain⟨_,_,_,c,_,_,_,_,xH⟩:=(hk p hp).code;have hTA:=(PySem.W.codeHd_of_K KX xH).tab (ht p hp);rw[ht p hp]at e;cases e;exact .inr (.inl ⟨hTA.isCodeTable,rfl,#[],more,rfl,e2⟩)
 have nt:∀p∈ts,p.2≠a:=λp hp z=>by
  have:=ht p hp;rw[z,ha]at this;cases this
 cases hka:K.lookup a with
 | some o =>
  have e:=KX a o hka;rw[ha]at e;cases e
  let H:Hp:=λb=>if (ts.map (·.2)).contains b=true then some (.tbl #[]) else none
  have J9:∀p∈ts,H p.2=some (.tbl #[]):=λp hp=>if_pos (by simp;exact⟨p.1,hp⟩);refine core H (.inr ⟨_,vs.toArray,_,hka,rfl,rfl,rfl,by rw[gK,uP];exact hl,by simpa using rv⟩) J9 (λb u z=>?_) λb u z=>?_
  ·by_cases hb:(ts.map (·.2)).contains b=true
   ·have z:(if (ts.map (·.2)).contains b=true then some (HO.tbl #[]) else none)=some u:=z;rw[if_pos hb]at z;cases z;obtain⟨p,hp,rfl⟩:=gb.mp (p_.mp hb);exact ht p hp
   ·have z:(if (ts.map (·.2)).contains b=true then some (HO.tbl #[]) else none)=some u:=z;rw[if_neg hb]at z;cases z
  ·by_cases hb:(ts.map (·.2)).contains b=true
   ·have z:(if (ts.map (·.2)).contains b=true then some (HO.tbl #[]) else none)=some u:=z;rw[if_pos hb]at z;cases z;obtain⟨p,hp,rfl⟩:=gb.mp (p_.mp hb);exact .inr ⟨p,hp,rfl,rfl⟩
   ·have z:(if (ts.map (·.2)).contains b=true then some (HO.tbl #[]) else none)=some u:=z;rw[if_neg hb]at z;cases z
 | none =>
  let H:Hp:=λb=>if b=a then some (.frz { cls:=.type "list",data:=.seq vs.toArray } (.lst (ns.map V.int))) else if (ts.map (·.2)).contains b=true then some (.tbl #[]) else none
  have J9:∀p∈ts,H p.2=some (.tbl #[]):=λp hp=>(if_neg (nt p hp)).trans (if_pos (by simp;exact⟨p.1,hp⟩));have Eo:H a=some (.frz { cls:=.type "list",data:=.seq vs.toArray } (.lst (ns.map V.int))):=if_pos rfl;have P0:∀b u,H b=some u->(b=a/\u=.frz { cls:=.type "list",data:=.seq vs.toArray } (.lst (ns.map V.int)))\/∃p∈ts,b=p.2/\u=.tbl #[]:=λb u z=>by
   by_cases hba:b=a
   ·subst hba;rw[Eo]at z;cases z;exact .inl ⟨rfl,rfl⟩
   ·have z:(if b=a then some (HO.frz { cls:=.type "list",data:=.seq vs.toArray } (.lst (ns.map V.int))) else if (ts.map (·.2)).contains b=true then some (HO.tbl #[]) else none)=some u:=z;rw[if_neg hba]at z;by_cases hb:(ts.map (·.2)).contains b=true
    ·rw[if_pos hb]at z;cases z;obtain⟨p,hp,rfl⟩:=gb.mp (p_.mp hb);exact .inr ⟨p,hp,rfl,rfl⟩
    ·rw[if_neg hb]at z;cases z
  refine core H (.inl ⟨_,Eo⟩) J9 (λb u z=>?_) λb u z=>?_
  ·rcases P0 b u z with⟨rfl,rfl⟩ | ⟨p,hp,rfl,rfl⟩
   ·exact⟨ha,by rw[gf];exact hl,vs,_,rv,ha⟩
   ·exact ht p hp
  ·rcases P0 b u z with⟨rfl,rfl⟩ | h
   ·exact .inl ⟨rfl,hka,_,_,rfl⟩
   ·exact .inr h
theorem zmf {K:PySem.W.Frag}{H:Hp}{a:Addr}{ns:List Int}{ts:List (Str×Addr)}(uR:(ts.map (·.2)).Nodup)(hS:xP K H a (ns.map V.int))(hT:∀p∈ts,H p.2=some (.tbl #[]))(hk:∀p∈ts,Jv K p.1 p.2) :
  aV K (a::ts.map (·.2)) H (.frz (ns.map D.int)::ts.map λp=>.tab p.1):=by
 have hv:∀(μ:List Addr) (l:List Int),ak K μ H (l.map D.int) (l.map V.int):=fun μ l=>by
  induction l with
  | nil=>exact ak.nil
  | cons i l ih=>exact ak.cons (ao.aO.mpr rfl) ih
 refine⟨by simp,λn o e=>?_,λi j b oi oj ei ej mi mj hi hj=>?_⟩
 ·match n,e with
  | 0,e =>
   simp at e;subst e;exact⟨a,rfl,_,hS,hv _ ns⟩
  | n+1,e =>
   rw[mF,gF]at e;cases q:ts[n]? with
   | none=>rw[q]at e;cases e
   | some p =>
    rw[q]at e;cases e;have hp:=gY q;refine⟨p.2,by rw[mF,gF,q];rfl,(hk p hp).code,#[],hT p hp,trivial,λpos cv z=>by cases z⟩
 ·match i,j,ei,ej,hi,hj with
  | 0,_,ei,_,_,_=>simp at ei;subst ei;cases mi
  | _+1,0,_,ej,_,_=>simp at ej;subst ej;cases mj
  | i+1,j+1,_,_,hi,hj =>
   rw[mF]at hi hj;have h1:=(gj.mp hi).1;rw[(List.getElem?_inj h1 uR).mp (hi.trans hj.symm)]
theorem holds_ofT (ts:List (Str×Addr)){l:PySem.W.OpenLaw}{k:Nat}{q:Program}{loose:List Str}{XP:(Str->Option Value)->Heap->Prop}{YP:World->Heap->Prop}{d:DefRec}{K:Params->PySem.W.Frag}{F:FD}{x:Str}
  (hn:l.most=some 63) (hdf:d.params.defaults=[]) (hr:dC k callerA) (uR:(ts.map (·.2)).Nodup)
  (hY:∀(w:World) (h:Heap),YP w h->(K w.params).In h/\∀P∈ts.map (·.2),h.get? P=some (PySem.W.tabObj #[]))
  (G:∀(w:World) (mg:Str->Option Value) (fa:Addr) (h:Heap),(K w.params).In h->h.Ns mainGlobals mg->mg d.name=some (.ref fa) ->
   ∃fd:FuncData,(∀(s:Shared) (u:Value),BindsTo s fd ⟨[u],[]⟩ [(x,u)])/\(∀p∈ts,Jv (K w.params) p.1 p.2)/\∀base:Heap,(K w.params).In base->base.Ns mainGlobals mg->BMain mg base->a_ l.prog w (K w.params) mg base iR k fa fd [x] (jo (K w.params) 1 F))
  (hF:∀ns:List Int,ns.length<=63->∃st,F [.loc 0] (.frz (ns.map D.int)::ts.map λp=>.tab p.1)=.ok (.bl true) st) :
  PySem.W.WalkO q loose XP YP l.row.toRowW d [] (λf vs=>PySem.call f vs):=by
 refine Wz.zlz hn hdf λw adz ady mg mb fa o pm cd doc a vs ns G0 Y ho hd xH hmg Tw hints hlen hg=>?_;obtain⟨KX,hT⟩:=hY w _ Y;obtain⟨fd,hb,hk,hF'⟩:=G w mg fa _ KX G0.T.g hmg;refine CV (ts:=ts) KX G0.T.g G0.T.b G0.T.builtins G0.T.nolimit hg G0.T.bmain (λp hp=>hT p.2 (gb.mpr ⟨p,hp,rfl⟩)) hk Tw hints (gU hlen (by decide)) hr hF' hb λH hS hTb=>?_;obtain⟨st,e⟩:=hF ns hlen;refine⟨rfl,a::ts.map (·.2),[.loc 0],_,ak.cons (ao.aN.mpr ⟨a,rfl,rfl⟩) ak.nil,zmf uR hS hTb hk,?_⟩;rw[e];exact λv H' μ' _ _ hv=>ao.bH.mp hv
structure Jz (K:PySem.W.Frag)(x:Str)(st:Stmt)(f:Addr)(fd:FuncData):Prop where
 ex:∃(oc:Value) (od:Option Addr) (dV kV doc pm:Value) (an:Option Addr) (c:Addr) (ct:Value) (ux:Array (Option Value)),
  fd=PySem.W.fnOf x x (cG st) (bT st) (aA st) dV kV doc pm an (.ref c) ct/\K.lookup f=some ⟨oc,od,.func fd,ux⟩/\PySem.W.codeIn K (.ref c) x=true
 ns:PySem.W.nsIn K mainGlobals x=some (some (.ref f))
 kp:PySem.W.keepIn K (.ref f)=true
theorem Ui {P:Program}{w:World}{K:PySem.W.Frag}{mg:Str->Option Value}{base:Heap}{x:Str}{st:Stmt}{f:Addr}{fd:FuncData}{N ps:List Str}{k:Nat}{m:MS}(F:Jz K x st f fd)(S:aX N ps (aA st))
  (qG:∀(cdv:Value) (A:Around) (outer:List Env) (s:Shared) (H:Hp),dC k (A.deeper (PyProof.Rows.envOfC x (aA st) s.heap.objs.size f cdv)) ->
   aaE (wu iR P w K mg base N x (aA st) f cdv A outer s H E0).J3 x->yU (wu iR P w K mg base N x (aA st) f cdv A outer s H E0).J3 (bT st) m):a_ P w K mg base iR (k+1) f fd ps (jo K ps.length (dF N.length m)):=by
 obtain⟨oc,od,dV,kV,doc,pm,an,c,ct,ux,rfl,lk,xH⟩:=F.ex;refine Iv lk xH S (λvs H Q E h=>h.1) λA outer s H vs Q E hr h=>?_;obtain⟨hl,μ,ds,Ou,hv,hs,hp⟩:=h;have hb:=qG (.ref c) A outer s H hr ⟨rfl,c,f,_,_,rfl,F.ns,lk,rfl,rfl⟩;refine⟨_,yG.J3 hb,μ,startM N.length ds,Ou,ak.start N hv,hs,?_⟩;unfold dF at hp;cases hr:m (startM N.length ds) Ou with
 | bad=>rw[hr]at hp;exact hp.elim
 | err x st1=>rw[hr]at hp;exact hp.elim
 | ok o st1 =>
  rw[hr]at hp;cases o with
  | rt d=>exact hp
  | nx env=>exact fun σ' H' μ' g oZ _=>hp .non H' μ' g oZ (ao.bL.mpr rfl)
  | bk env=>exact hp.elim
  | cn env=>exact hp.elim
theorem Ng {K:PySem.W.Frag}{x:Str}{st:Stmt}{f:Addr}{oc:Value}{od an:Option Addr}{ux:Array (Option Value)}{dV kV doc pm ct:Value}{c:Addr}(n:PySem.W.nsIn K mainGlobals x=some (some (.ref f)))(l:K.lookup f=some ⟨oc,od,.func (PySem.W.fnOf x x (cG st) (bT st) (aA st) dV kV doc pm an (.ref c) ct),ux⟩)
  (h:PySem.W.codeIn K (.ref c) x=true) (k:PySem.W.keepIn K (.ref f)=true):Jz K x st f (PySem.W.fnOf x x (cG st) (bT st) (aA st) dV kV doc pm an (.ref c) ct):=⟨⟨oc,od,dV,kV,doc,pm,an,c,ct,ux,rfl,l,h⟩,n,k⟩
theorem Jz.aaV {K:PySem.W.Frag}{x:Str}{f P:Addr}{oc:Value}{od an:Option Addr}{ux:Array (Option Value)}{name qual:Str}{params:Arguments}{body:List Stmt}{scope:Scope}{dV kV doc pm ct:Value}{c:Addr}(n:PySem.W.nsIn K mainGlobals x=some (some (.ref f)))(l:K.lookup f=some ⟨oc,od,.func (PySem.W.fnOf name qual params body scope dV kV doc pm an (.ref c) ct),ux⟩)
  (h:PySem.W.codeHdIn K c P=true) (o:K.lookup P=none):Jv K x P:=⟨⟨f,_,_,c,n,l,rfl,rfl,h⟩,o⟩
theorem Hb:∀(env:bA) (st:aq) (as:List LA) (st1:aq),GX env st=.ok as st1->as.length=([]:List Expr).length:=by
 intro env st as st1 h;cases h;rfl
theorem zk8 {e:Expr}{es:List Expr}{a:ME}{r:ML}(h:∀(env:bA) (st:aq) (as:List LA) (st1:aq),r env st=.ok as st1->as.length=es.length) :
  ∀(env:bA) (st:aq) (as:List LA) (st1:aq),uF a r env st=.ok as st1->as.length=(e::es).length:=by
 intro env st as st1 q;unfold uF at q;cases h1:a env st with
 | bad=>rw[h1]at q;cases q
 | err x s=>rw[h1]at q;cases q
 | ok x s =>
  rw[h1,R.aG]at q;cases h2:r env s with
  | bad=>rw[h2]at q;cases q
  | err x s=>rw[h2]at q;cases q
  | ok xs s2 =>
   rw[h2,R.aG]at q;cases q;rw[g8,g8,h env s xs _ h2]
theorem Hc {e:Expr}{es:List Expr}{j k:Nat}{cap:List Nat}{x:Str}{r:ML}(h:∀(env:bA) (st:aq) (as:List LA) (st1:aq),r env st=.ok as st1->as.length=es.length) :
  ∀(env:bA) (st:aq) (as:List LA) (st1:aq),zm j cap k x r env st=.ok as st1->as.length=(e::es).length:=by
 intro env st as st1 q;unfold zm at q
 split at q
 ·split at q
  ·cases h2:r env st with
   | bad=>rw[h2]at q;cases q
   | err x s=>rw[h2]at q;cases q
   | ok xs s2 =>
    rw[h2,R.aG]at q;cases q;rw[g8,g8,h env st xs _ h2]
  ·cases q
 ·cases q
end M
namespace M
open PySem PySem.Spec L2
noncomputable def aaz:Expr->Nat->Expr
 | .Call _ as _ _,i=>as.getD i (.Constant .none 0 ⟨0,0,0,0⟩)
 | e,_=>e
noncomputable def QH:Stmt->Expr
 | .Return (some e) _=>e
 | .Assign _ e _=>e
 | _=>.Constant .none 0 ⟨0,0,0,0⟩
noncomputable def O4:fJ:=⟨"",⟨[],[],none,[],[],none,[]⟩,.Constant .none 0 ⟨0,0,0,0⟩,aA (.Pass ⟨0,0,0,0⟩),[]⟩
noncomputable def Zy (x:Str)(rB:List Str):Expr->fJ
 | .Lambda ps b sc _=>⟨tu x,ps,b,sc,rB⟩
 | _=>O4
theorem Hf {X:Cx}{l:fJ}{cap:List Nat}{sc0:Scope}(h0:X.env.scope=sc0)(nd:l.rB.Nodup)(hc:∀x∈l.rB,sc0.names.lookup x=some .cell)(ix:cap.map (λi=>X.N[i]?)=l.rB.map some):sH X l cap :=
 ⟨nd,λx hx=>by subst h0;exact hc x hx,ix⟩
end M
namespace M
open L2
theorem Im {s:aq}{n:Nat}{o:MO}(h:s[n]? = some o)(hc:o.dH=false):(dU s)[n]? = some o:=by
 rw[znu h,hc];rfl
theorem KZ {Λ:Nat->fJ}{G:Nat->FD}{c j:Nat}{as ds:List D}{s:aq}{d:D}(h:s[c]? = some (.clo j (Λ j) ds))(hG:G j (ds++as) (dU s)=.ok d (dU s))(hu:under s.length d):Bj Λ G c as s=.ok d s:=by
 unfold Bj;rw[h];dsimp only;rw[if_pos rfl,hG,vP (by rw[ziv];exact hu)];dsimp only;rw[if_pos ⟨rfl,hu⟩]
theorem K3 {Λ:Nat->fJ}{G:Nat->FD}{i n j:Nat}{mA:MA}{env:bA}{st st1:aq}{as ds:List D}{d:D}(hi:env[i]? = some (some (.loc n)))(h0:st[n]? = some (.clo j (Λ j) ds))(hA:mA env st=.ok as st1)(h:st1[n]? = some (.clo j (Λ j) ds))(hG:G j (ds++as) (dU st1)=.ok d (dU st1))(hu:under st1.length d) :
  callC Λ G i mA env st=.ok d st1:=by
 unfold callC;rw[hi];dsimp only;rw[h0];dsimp only;rw[hA,R.aG];exact KZ h hG hu
theorem Gf {Λ:Nat->fJ}{F:FD}{dd:List D}{m:ML}{env:bA}{st st1 st2:aq}{as:List LA}{ds:List D}{os:List MO}{d:D}(hm:m env st=.ok as st1)(hn:dZ st1)(hp:qu Λ env st1.length as=some (ds,os))(hF:gc st1 (F (ds++dd) (st1++os))=.ok d st2)(Pk:dZ st2) :
  vJ Λ F dd m env st=.ok d st2:=by
 unfold vJ;rw[hm,R.aG,if_pos hn,hp];dsimp only;rw[hF];dsimp only;rw[if_pos Pk]
@[simp] theorem VF:dZ []:=λ_ h=>nomatch h
@[simp] theorem Sg (o:MO) (st:aq):dZ (o::st)↔o.dH=false/\dZ st:=by simp[dZ]
@[simp] theorem VG (a b:aq):dZ (a++b)↔dZ a/\dZ b:=by
 simp only[dZ,gw];exact⟨λh=>⟨λo ho=>h o (.inl ho),λo ho=>h o (.inr ho)⟩,λh o ho=>ho.elim (h.1 o) (h.2 o)⟩
@[simp] theorem VM (l:List D):(MO.lst l).dH=false:=rfl
@[simp] theorem VN (l:List D):(MO.frz l).dH=false:=rfl
@[simp] theorem VL (x:PySem.Str):(MO.tab x).dH=false:=rfl
@[simp] theorem V4 (l:List (List Key×D)):(MO.dic l).dH=false:=rfl
@[simp] theorem V3 (l:List (Key×D)):(MO.dkc l).dH=false:=rfl
@[simp] theorem V0 (l:List (Key×D)):(MO.dkf l).dH=false:=rfl
@[simp] theorem VP (c:String) (d:D):(MO.exc c d).dH=false:=rfl
@[simp] theorem VR (l:List (List Key×D)):(MO.dtf l).dH=false:=rfl
end M
namespace M
open PySem PySem.Spec L2
section
variable {X:Cx}{elt tg iter c:Expr}{ifs:List Expr}{scope:Scope}{pos:Pos}{N:List Str}{capt:List (Option Nat)}{mi:MI}{g:MG}{t:MT}{me:ME}
end
end M
namespace L2
open PySem PySem.Spec PyProof.Rows
end L2
namespace M
open PySem PySem.Spec L2
section
variable {X:Cx}{a:Expr}{mA:MA}{μ:List Addr}{H:Hp}{p pos QV:Pos}
end
end M
namespace M
open PySem PySem.Spec PySem.SeqAt L2
section
variable {X:Cx}{pos:Pos}{x:Str}{L:Nat}
noncomputable def zx (L:Nat)(neg:Bool):D->D->aq->R D
 | d,.loc n,st=>match az st n with
  | some ds=>if flat d=true/\d_ ds=true/\(ds.all λe=>decide (eY e d<L))=true then .ok (.bl (if neg then !(ds.any λe=>qm e d) else ds.any λe=>qm e d)) st else .bad
  | none=>.bad
 | _,_,_=>.bad
theorem Ga {a b:V}{w:Value}(h:RelV a w)(k:RelV b w):a=b:=by
 cases a<;>cases b<;>simp only[RelV]at h k<;>first
  | rfl
  | (subst h;cases k;done)
  | (subst h;injection k with k;subst k;rfl)
  | (obtain⟨_,rfl⟩:=h;cases k;done)
  | (obtain⟨_,rfl⟩:=k;cases h;done)
  | (obtain⟨_,rfl⟩:=h;obtain⟨_,k⟩:=k;injection k with k;subst k;rfl)
  | (obtain⟨_,rfl⟩:=h;obtain⟨_,k⟩:=k;cases k;done)
open Classical in
theorem HX (hu:X.A.units+L<cLine){pins:List (Addr×Obj)}{s:Shared}{σ:L2.St}{H:Hp}{x y:V}{v u:Value}{Q:VK}{neg:Bool}(I:Inv X pins σ H s)(rx:RelV x v)(ry:RelV y u)(h:rM X (zx L neg) x y H Q) :
  ∃(p:Addr) (its:List Value) (f:Value->Bool),u=.ref p/\s.heap.IsList p its.toArray/\(∀w∈its,EqAt X.A.in1 s w v (f w))/\Q (.bl (if neg then !its.any f else its.any f)) H:=by
 obtain⟨μ,st,dx,dy,hs,hx,hy,hp⟩:=h;unfold zx at hp
 split at hp
 ·rename_i n
  split at hp
  ·rename_i ds e
   split at hp
   ·rename_i c;obtain⟨c1,c2,c3⟩:=c;obtain⟨p,q1,rfl⟩:=ao.aN.mp hy;obtain⟨p',xs,r1,r2,r3⟩:=hs.items e;rw[q1]at r1;cases r1;obtain rfl:u=Value.ref p:=ry;obtain⟨its,ra,pl,_⟩:=I.list r2
    let f:Value->Bool:=λw=>decide (∃d z,flat d=true/\ao X.K μ H d z/\RelV z w/\qm d dx=true)
    have key:∀(ds:List D) (xs:List V) (its:List Value),ak X.K μ H ds xs->Vals xs its->d_ ds=true->(ds.all λe=>decide (eY e dx<L))=true ->
      (∀w∈its,EqAt X.A.in1 s w v (f w))/\its.any f=ds.any λe=>qm e dx:=by
     intro ds
     induction ds with
     | nil =>
      intro xs its h1 h2 _ _;rw[ak]at h1;subst h1;cases h2;exact⟨λw hw=>(nomatch hw),rfl⟩
     | cons d ds ih =>
      intro xs its h1 h2 h3 h4;rw[ak]at h1;obtain⟨z,r,rfl,g1,g2⟩:=h1;cases h2 with
      | cons rz rr =>
       rw[Vc,mq]at h3;rw[List.all_cons,mq]at h4;obtain⟨i1,i2⟩:=ih _ _ g2 rr h3.2 h4.2;have fe:∀{w:Value},RelV z w->f w=qm d dx:=λ{w} hw=>by
        cases q:qm d dx with
        | true=>exact decide_eq_true ⟨d,z,h3.1,g1,hw,q⟩
        | false =>
         refine decide_eq_false ?_;rintro ⟨d',z',k1,k2,k3,k4⟩;have ez:z'=z:=Ga k3 hw;subst ez;rw[zkj I d' d k1 h3.1 k2 g1]at k4;rw[k4]at q;cases q
       refine⟨λw hw=>?_,?_⟩
       ·rcases gk.mp hw with rfl | hw
        ·rw[fe rz];exact (IV I d dx h3.1 c1 (by have:=of_decide_eq_true h4.1;show X.A.units+1+_<_;omega) g1 hx rz rx).1
        ·exact i1 w hw
       ·rw[mD,mD,fe rz,i2]
    obtain⟨k1,k2⟩:=key ds xs its r3 ra c2 c3;refine⟨p,its,f,rfl,pl.isList,k1,?_⟩;rw[k2];exact hp.ret hs (ao.bH.mpr rfl)
   ·exact hp.elim
  ·exact hp.elim
 ·exact hp.elim
theorem zm7 (hu:X.A.units+L<cLine):dG X (compareOp .NotIn) (rM X (zx L true)):=by
 intro pins s σ H x y v u Q I rx ry h;obtain⟨p,its,f,rfl,pl,k1,q⟩:=HX hu I rx ry h;refine SeqAt.notIn_listAt f pl (λw hw=>k1 w (by simpa using hw)) ⟨.bl _,H,I,rfl,?_⟩;rw[show its.toArray.any f=its.any f by simp];exact q
end
end M
namespace M
open PySem PySem.Spec L2
section
variable {prog:Program}{w:World}{A:Around}{E:Value->Shared->Prop}{s:Shared}
end
section
variable {X:Cx}{es:List Expr}{pos:Pos}
end
end M
namespace M
open L2
end M
namespace M
open PySem PySem.Spec L2
section
variable {X:Cx}
end
end M
namespace M
open L2
noncomputable def valN (kvs:List (Key×D))(k:Key):Option D:=(kvs.find? λkv=>decide (kv.1=k)).map (·.2)
theorem zk6 (p:Key×D)(r:List (Key×D))(k:Key):valN (p::r) k=if p.1=k then some p.2 else valN r k:=by
 unfold valN;rw[mO];by_cases h:p.1=k
 ·simp[h]
 ·simp[h]
noncomputable def putN (kvs:List (Key×D))(k:Key)(d:D):List (Key×D) :=
 if (kvs.any λkv=>decide (kv.1=k))=true then kvs.map (λkv=>if kv.1=k then (kv.1,d) else kv) else kvs++[(k,d)]
noncomputable def Wq:ME:=λ_ st=>.ok (.loc st.length) (st++[.dkc []])
noncomputable def vZ:D->D->D->aq->R Unit
 | .loc n,k,d,st=>match st[n]?,keyOf k with
  | some (.dkc kvs),some kk=>if kvs.length<1000000 then .ok () (st.set n (.dkc (putN kvs kk d))) else .bad
  | _,_=>.bad
 | _,_,_,_=>.bad
end M
namespace M
open PySem PySem.Spec L2
section
variable {X:Cx}{K:PySem.W.Frag}{μ:List Addr}{H:Hp}
theorem aM.valN {k:Key}:∀{kvs:List (Key×D)} {ws:List (Key×V)},aM K μ H kvs ws ->
  (M.valN kvs k=none/\jT ws k=none)\/∃d v,M.valN kvs k=some d/\jT ws k=some v/\ao K μ H d v
 | [],ws,h=>.inl ⟨rfl,by rw[aM]at h;rw[h];rfl⟩
 | (j,d)::r,ws,h=>by
  obtain⟨v,r',rfl,h1,h2⟩:=h;rw[zk6];by_cases e:j=k
  ·rw[if_pos e];exact .inr ⟨d,v,rfl,W9 (p:=(j,v)) e,h1⟩
  ·rw[if_neg e,Xa (p:=(j,v)) e];exact aM.valN h2
theorem aM.aaB {k:Key}:∀{kvs:List (Key×D)} {ws:List (Key×V)},aM K μ H kvs ws->(kvs.any λkv=>decide (kv.1=k))=(ws.any λkv=>decide (kv.1=k))
 | [],ws,h=>by rw[aM]at h;rw[h];rfl
 | (j,d)::r,ws,h=>by
  obtain⟨v,r',rfl,h1,h2⟩:=h;rw[mD,mD,aM.aaB h2]
theorem aM.FZ {k:Key}{d:D}{v:V}(hv:ao K μ H d v):∀{kvs:List (Key×D)} {ws:List (Key×V)},aM K μ H kvs ws->aM K μ H (kvs.map λkv=>if kv.1=k then (kv.1,d) else kv) (ws.map λkv=>if kv.1=k then (kv.1,v) else kv)
 | [],ws,h=>by rw[aM]at h;subst h;exact rfl
 | (j,d')::r,ws,h=>by
  obtain⟨v',r',rfl,h1,h2⟩:=h;rw[gB,gB];by_cases e:j=k
  ·rw[if_pos e,if_pos e];exact⟨v,_,rfl,hv,aM.FZ hv h2⟩
  ·rw[if_neg e,if_neg e];exact⟨v',_,rfl,h1,aM.FZ hv h2⟩
theorem aM.Ov {k:Key}{d:D}{v:V}:∀{kvs:List (Key×D)} {ws:List (Key×V)},aM K μ H kvs ws->ao K μ H d v->aM K μ H (kvs++[(k,d)]) (ws++[(k,v)])
 | [],ws,h,hv=>by rw[aM]at h;subst h;exact⟨v,[],rfl,hv,rfl⟩
 | (j,d')::r,ws,h,hv=>by
  obtain⟨v',r',rfl,h1,h2⟩:=h;exact⟨v',r'++[(k,v)],rfl,h1,aM.Ov h2 hv⟩
theorem aM.putN {k:Key}{d:D}{v:V}{kvs:List (Key×D)}{ws:List (Key×V)}(h:aM K μ H kvs ws)(hv:ao K μ H d v):aM K μ H (M.putN kvs k d) (putK ws k v):=by
 unfold M.putN putK;rw[h.aaB]
 split
 ·exact aM.FZ hv h
 ·exact h.Ov hv
theorem aV.dkc {st:aq}{n:Nat}{kvs:List (Key×D)}(h:aV K μ H st)(e:st[n]? = some (.dkc kvs)):∃p ws,μ[n]? = some p/\H p=some (.dK ws)/\aM K μ H kvs ws:=by
 obtain⟨p,h1,xs,h2,h3⟩:=h.at_ n _ e;exact⟨p,xs,h1,h2,h3⟩
theorem ao.key {d:D}{v:V}{k:Key}(h:ao K μ H d v)(e:keyOf d=some k):v=kV k:=by
 cases d with
 | int i=>rw[ao.aO]at h;cases e;exact h
 | str cs=>rw[ao.aU]at h;cases e;exact h
 | _=>cases e
end
section
variable {X:Cx}{a b o i:Expr}{ma mb:ME}{pos:Pos}
theorem zn7:JE X (.Dict [] [] pos) Wq:=by
 refine JE.of Gv fun σ H Q zz=>?_;obtain⟨μ,env,st,hE,hs,hp⟩:=zz;refine λp hn=>?_;have hr:jk X.K (μ++[p]) (upd H p (.dK [])) p (.dkc []):=⟨[],uv,rfl⟩;exact hp _ _ (μ++[p]) (bC.new hn) (hs.new hn hr) (ao.aN.mpr ⟨p,by rw[<-hs.len];simp,rfl⟩)
theorem Ow (hu:X.A.units+1<cLine):wz X (Ae X vZ):=by
 rintro pins s σ H o i v ov iv u Q I ro ri rv ⟨μ,st,d1,d2,d3,hs,h1,h2,h3,hp⟩;unfold vZ at hp
 split at hp
 ·rename_i n k d
  split at hp
  ·rename_i kvs kk e1 e2
   split at hp
   ·rename_i hl;obtain⟨p,q1,rfl⟩:=ao.aN.mp h1;obtain rfl:=h2.key e2;obtain⟨p',ws,r1,r2,r3⟩:=hs.dkc e1;rw[q1]at r1;cases r1;obtain rfl:ov=Value.ref p:=ro;refine zky hu I (zM.k r2 (by rw[<-r3.len];exact gP hl (by decide))) ri rv λs' I'=>⟨_,I',?_⟩;have g:Ext H (upd H p (.dK (putK ws kk v))):=Ext.mut r2 (λ_ z=>nomatch z) (λ_ _ z=>nomatch z);have g':bC μ H μ (upd H p (.dK (putK ws kk v))):=⟨⟨[],by simp⟩,g⟩;exact hp () _ μ g' (hs.put e1 rfl rfl q1 g ⟨_,uv,(r3.putN h3).mono g'⟩) trivial
   ·exact hp.elim
  ·exact hp.elim
 ·exact hp.elim
end
end M
namespace M
open PySem PySem.Spec PySem.SeqAt L2
end M
namespace L2
open PySem PySem.Spec PyProof.Rows
theorem Mm {P:Program}{w:World}{k:Key}{u:Value}(h:(bR P w).is k u=true):RelV (kV k) u:=by
 rw[zn5]at h;rcases JM h with⟨i,t,rfl,rfl⟩ | ⟨x,t,rfl,rfl⟩
 ·exact⟨t,rfl⟩
 ·exact⟨t,rfl⟩
theorem zih {α β:Type}{F:α->β->Prop}:∀{l₁:List α} {l₂:List β},Paired F l₁ l₂->∀(i:Nat) (a:α) (b:β),l₁[i]? = some a->l₂[i]? = some b->F a b
 | _,_,.nil,i,a,b,h,_=>by simp at h
 | _,_,.cons r t,0,a,b,h1,h2=>by simp at h1 h2;subst h1;subst h2;exact r
 | _,_,.cons r t,i+1,a,b,h1,h2=>zih t i a b (by simpa using h1) (by simpa using h2)
noncomputable def Itk (d:Addr)(o:Obj)(kvs:List (Key×V)):It :=
 ⟨λi H=>i<kvs.length/\H d=some (.frz o (.dK kvs)),λi H y H'=>H'=H/\∃p,kvs[i]? = some p/\y=kV p.1,λi H=>kvs.length<=i/\H d=some (.frz o (.dK kvs))⟩
theorem Be {X:Cx}{pins:List (Addr×Obj)}{σ:St}{H:Hp}{s:Shared}{d:Addr}{o:Obj}{kvs:List (Key×V)}{es:Array DictEntry}{ep:Nat}(I:Inv X pins σ H s)(ho:o.data=.dict es ep)(e:H d=some (.frz o (.dK kvs))) :
  (d==sysModules)=false/\∃vs,KV kvs vs/\s.heap.DictAt (bR X.prog X.w) d vs ep:=by
 obtain⟨h1,z,hd,vs,rel,o',es',ep',h2,h3,h4,h5⟩:=(show bZ X.prog X.w H s.heap d (.frz o (.dK kvs)) from I.bV d _ e);rw[h1]at h2;cases h2;rw[ho]at h4;cases h4;exact⟨hd,vs,rel,o,es,h1,h3,ho,h5⟩
theorem Kp {P:Program}{w:World}{K:PySem.W.Frag}{tg:Expr}(it d:Addr)(o:Obj)(es:Array DictEntry)(ep:Nat)(ho:o.data=.dict es ep)(kvs:List (Key×V)):Turn P w K tg (Itk d o kvs) [it] it (λi h=>h.IsKeyIter it d i kvs.length ep) where
 mem:=by simp
 obj:=λi h st b hb=>by
  have e:b=it:=by simpa using hb
  subst e;obtain⟨o,e,c,d⟩:=st;exact⟨o,e,λv z=>by rw[d]at z;cases z⟩
 keep:=λi h h' st k=>by
  obtain⟨o,e,c,d⟩:=st;exact⟨o,k it (by simp) o e,c,d⟩
 item:=by
  intro X hP hw hK hc i pins s σ H E I hf st hg;subst hP hw hK;obtain⟨f0,f1,f2,f3,f4,f5⟩:=hf it (by simp);obtain⟨hi,e⟩:=hg;obtain⟨hd,vs,rel,da⟩:=Be I ho e;have hl:kvs.length=vs.length:=Paired.length rel;obtain⟨q,hq⟩:∃q,vs[i]? = some q:=⟨_,gM (by omega)⟩;obtain⟨p,hp⟩:∃p,kvs[i]? = some p:=⟨_,gM hi⟩;have hk:p.1=q.1:=(zih rel i p q hp hq).1;rw[hl]at st;refine wpAny_pyNext_dict_item (k:=q.1) (v:=q.2) st da hq λkey h' ik st' sb=>?_;have I1:Inv X pins σ H { s with heap:=h' }:=I.turned (t':=s.toks) (λb o hb e=>(sb.2 b hb).trans e) f0 f1 f3 f4 f5;obtain⟨o1,e1,c1,d1⟩:=id st';rw[<-hl]at st';exact⟨_,rfl,wR (s:={ s with heap:=h' }) e1 c1 d1 (by decide) ⟨kV p.1,H,I1,by rw[hk];exact Mm ik,⟨rfl,p,hp,rfl⟩,st',λb hb=>(hf b hb).1⟩⟩
 done:=by
  intro X hP hw hK hc i pins s σ H E I hf st hg;subst hP hw hK;obtain⟨f0,f1,f2,f3,f4,f5⟩:=hf it (by simp);obtain⟨hi,e⟩:=hg;obtain⟨hd,vs,rel,da⟩:=Be I ho e;have hl:kvs.length=vs.length:=Paired.length rel;rw[hl]at st;exact wpAny_pyNext_dict_end (I.ok.hd hc) st da (pM (by omega)) λh' eb=>⟨rfl,I.turned (t':=s.toks) (λb o hb e=>eb b o hb e) f0 f1 f3 f4 f5⟩
 self:=λ_ _ _ _ _ st h=>wpAny_pyIter_keyiter st h
noncomputable def iDk (tl:TE):TI:=fun σ H R=>tl σ H λy H1=>∃a kvs,y=.ref a/\((∃o,H1 a=some (.frz o (.dK kvs))/\R (Itk a o kvs) H1)\/(H1 a=some (.dK kvs)/\∀o,R (Itk a o kvs) (upd H1 a (.frz o (.dK kvs)))))
theorem Y4 {X:Cx}{tg l:Expr}{tl:TE}(hl:PE X l tl):PI X tg l (iDk tl):=by
 intro pins s σ H R I h;refine dz (hl pins s σ H _ I h) λv s1 zz=>?_;obtain⟨y,H1,I1,r1,q1⟩:=zz;obtain⟨a,kvs,rfl,q⟩:=q1;cases (show v=Value.ref a from r1);have key:∀(H2:Hp) (o:Obj),Inv X pins σ H2 s1->H2 a=some (.frz o (.dK kvs))->R (Itk a o kvs) H2->wpAny (model X.prog X.w) X.A (pyIter (.ref a)) (PIE X pins σ tg R) X.xe s1:=λH2 o I2 e2 r2=>by
  obtain⟨h1,z,hd,vs,rel,o',es,ep,h2,h3,h4,h5⟩:=(show bZ X.prog X.w H2 s1.heap a (.frz o (.dK kvs)) from I2.bV a _ e2);rw[h1]at h2;cases h2;have hl:kvs.length=vs.length:=Paired.length rel;refine wpAny_pyIter_dict (knd:=bR X.prog X.w) (kvs:=vs) (ep:=ep) hd ⟨o,es,h1,h3,h4,h5⟩ ?_;refine⟨s1.heap.objs.size,[s1.heap.objs.size],_,_,H2,rfl,I2.kept (t':=s1.toks) λb u e=>gq _ e,Kp _ a o es ep h4 kvs,⟨_,gH _ rfl,rfl,by rw[hl];rfl⟩,λb hb=>?_,r2⟩;have e:b=s1.heap.objs.size:=by simpa using hb
  subst e;exact I2.zF (gh _) (I2.bV.fresh (gh _))
 rcases q with⟨o,e,r⟩ | ⟨e,r⟩
 ·exact key H1 o I1 e r
 ·obtain⟨z,hd,vs,rel,o,es,ep,h2,h3⟩:=(show bZ X.prog X.w H1 s1.heap a (.dK kvs) from I1.bV a _ e);have new:bZ X.prog X.w (upd H1 a (.frz o (.dK kvs))) s1.heap a (.frz o (.dK kvs)):=⟨h2,z,hd,vs,rel,o,es,ep,h2,h3⟩;exact key (upd H1 a (.frz o (.dK kvs))) o (I1.write (x:=a) (e:=a) (t':=s1.toks) (h':=s1.heap) (by rw[e];trivial) (.inl rfl) (λb u _ z=>z) ⟨o,h2⟩ new) uv (r o)
end L2
namespace M
open PySem PySem.Spec L2
noncomputable def qC:Key->D
 | .inl i=>.int i
 | .inr x=>.str x.cps.toList
noncomputable def dkI (m:ME):MI:=λenv st=>(m env st).bind λd st1=>match d with
 | .loc n=>(match st1[n]? with
  | some (.dkc kvs)=>.ok (kvs.map (λp=>qC p.1),[]) (st1.set n (.dkf kvs))
  | some (.dkf kvs)=>.ok (kvs.map (λp=>qC p.1),[]) st1
  | _=>.bad)
 | _=>.bad
noncomputable def VJ:D->D->aq->R D
 | .loc n,k,st=>match st[n]?,keyOf k with
  | some (.dkc kvs),some kk=>(match valN kvs kk with | some d=>.ok d st | none=>.bad)
  | some (.dkf kvs),some kk=>(match valN kvs kk with | some d=>.ok d st | none=>.bad)
  | _,_=>.bad
 | _,_,_=>.bad
section
variable {X:Cx}{tg l a b:Expr}{ml ma mb:ME}{μ:List Addr}{H:Hp}{K:PySem.W.Frag}{st:aq}{pos:Pos}
theorem ao.qC (k:Key):ao K μ H (M.qC k) (kV k):=by
 cases k with
 | inl i=>exact ao.aO.mpr rfl
 | inr x=>exact ao.aU.mpr (by show V.str x=V.str (strOf x.cps.toList);simp[strOf])
theorem aM.O_:∀{kvs:List (Key×D)} {ws:List (Key×V)},aM K μ H kvs ws->kvs.length=ws.length/\∀(i:Nat) (p:Key×D) (q:Key×V),kvs[i]? = some p->ws[i]? = some q->p.1=q.1
 | [],_,h=>by cases h;exact⟨rfl,λi p q h1=>by simp at h1⟩
 | (k,d)::r,_,⟨v,s,rfl,h1,h2⟩=>by
  obtain⟨l,hk⟩:=aM.O_ h2;refine⟨by simp[l],λi p q e1 e2=>?_⟩;cases i with
  | zero=>simp at e1 e2;subst e1;subst e2;rfl
  | succ i=>exact hk i p q (by simpa using e1) (by simpa using e2)
theorem Aw {a:Addr}{o:Obj}{kvs:List (Key×D)}{ws:List (Key×V)}(e:H a=some (.frz o (.dK ws)))(h:aM X.K μ H kvs ws):vN X μ H (Itk a o ws) (kvs.map (λp=>M.qC p.1),[]):=by
 intro H' μ' st' g hs ok;obtain⟨hl,hk⟩:=h.O_;have e':=g.ext.frz _ _ _ e;refine⟨λi d ed=>?_,⟨by simp[hl],e'⟩⟩;rw[gF]at ed;obtain⟨p,e1,rfl⟩:=my.mp ed;have hi:=(gj.mp e1).1;refine⟨⟨by omega,e'⟩,?_⟩;rintro x Ke ⟨rfl,q,hq,rfl⟩;refine⟨.refl _ _,hs,?_⟩;rw[hk i p q e1 hq];exact ao.qC _
theorem aV.iH {n:Nat}{mo O7:MO}{a:Addr}{o':HO}(h:aV K μ H st)(hn:st[n]? = some mo)(hm:mo.mut=true)(ha:μ[n]? = some a)(g:Ext H (upd H a o'))(new:jk K μ (upd H a o') a O7):aV K μ (upd H a o') (st.set n O7):=by
 have hl:=(gj.mp hn).1;refine⟨by simp[h.len],λk ok e=>?_,λi j b oi oj ei ej mi mj hi hj=>?_⟩
 ·by_cases hk:n=k
  ·subst hk;rw[mJ hl]at e;cases e;exact⟨a,ha,new⟩
  ·rw[kY hk]at e;obtain⟨b,h1,h2⟩:=h.at_ k ok e;refine⟨b,h1,h2.keep ⟨⟨[],by simp⟩,g⟩ λhmk u q=>?_⟩;rw[lX (λe2=>?_)]
   ·exact q
   ·subst e2;exact hk (h.uniq n k b mo ok hn e hm hmk ha h1)
 ·have key:∀(k:Nat) (ok:MO),(st.set n O7)[k]? = some ok->ok.mut=true->∃Zg,st[k]? = some Zg/\Zg.mut=true:=λk ok ek mk=>by
   by_cases hk:n=k
   ·subst hk;exact⟨mo,hn,hm⟩
   ·rw[kY hk]at ek;exact⟨ok,ek,mk⟩
  obtain⟨oi',ei',mi'⟩:=key i oi ei mi;obtain⟨oj',ej',mj'⟩:=key j oj ej mj;exact h.uniq i j b oi' oj' ei' ej' mi' mj' hi hj
theorem ZC (hl:JE X l ml):JI X tg l (dkI ml):=by
 refine JI.of (Y4 hl) fun σ H R zz=>?_;obtain⟨μ,env,st,hE,hs,hp⟩:=zz;refine⟨μ,env,st,hE,hs,(cg.bind hp).imp ?_⟩;rintro v H1 ⟨μ1,st1,d,g1,bQ,hv,aZ⟩;dsimp only at aZ
 split at aZ
 ·rename_i n;obtain⟨a,q1,rfl⟩:=ao.aN.mp hv
  split at aZ
  ·rename_i kvs e1;obtain⟨a',ws,r1,r2,r3⟩:=bQ.dkc e1;rw[q1]at r1;cases r1;refine⟨a,ws,rfl,.inr ⟨r2,λo=>?_⟩⟩;have g:Ext H1 (upd H1 a (.frz o (.dK ws))):=Ext.mut r2 (λ_ z=>nomatch z) (λ_ _ z=>nomatch z);have g':bC μ1 H1 μ1 (upd H1 a (.frz o (.dK ws))):=⟨⟨[],by simp⟩,g⟩;exact aZ _ _ μ1 g' (bQ.iH e1 rfl q1 g ⟨ws,o,uv,r3.mono g'⟩) (Aw uv (r3.mono g'))
  ·rename_i kvs e1;obtain⟨a',r1,ws,o,r2,r3⟩:=bQ.at_ n _ e1;rw[q1]at r1;cases r1;exact⟨a,ws,rfl,.inl ⟨o,r2,aZ _ _ _ (.refl _ _) bQ (Aw r2 r3)⟩⟩
  ·exact aZ.elim
 ·exact aZ.elim
theorem Hv (hu:X.A.units+1<cLine)(ha:JE X a ma)(hb:JE X b mb)(hs:NQ b:=by exact λ_ _=>rfl):JE X (.Subscript a b pos) (aL VJ ma mb):=by
 refine JE.of (Ah hu ha hb hs) fun σ H Q h=>?_;obtain⟨μ,env,st,hE,hs,hp⟩:=UG h;refine⟨μ,env,st,hE,hs,hp.imp ?_⟩;rintro x H1 ⟨μ1,bM,st1,Wm,bQ,aZ⟩;refine⟨μ1,bM,st1,Wm,bQ,aZ.imp ?_⟩;rintro y H2 ⟨μ2,st2,dx,dy,fV,hx,hy,cZ⟩;unfold VJ at cZ
 split at cZ
 ·rename_i n k
  split at cZ
  ·rename_i kvs kk e1 e2;obtain⟨p,q1,rfl⟩:=ao.aN.mp hx;obtain rfl:=hy.key e2;obtain⟨p',ws,r1,r2,r3⟩:=fV.dkc e1;rw[q1]at r1;cases r1;rcases r3.valN (k:=kk) with⟨z1,z2⟩ | ⟨d',v',z1,z2,z3⟩
   ·rw[z1]at cZ;exact cZ.elim
   ·rw[z1]at cZ;exact⟨p,v',rfl,by rw[<-z2];exact qU.k r2,cZ.ret fV z3⟩
  ·rename_i kvs kk e1 e2;obtain⟨p,q1,rfl⟩:=ao.aN.mp hx;obtain rfl:=hy.key e2;obtain⟨p',r1,ws,o,r2,r3⟩:=fV.at_ _ _ e1;rw[q1]at r1;cases r1;rcases r3.valN (k:=kk) with⟨z1,z2⟩ | ⟨d',v',z1,z2,z3⟩
   ·rw[z1]at cZ;exact cZ.elim
   ·rw[z1]at cZ;exact⟨p,v',rfl,.inl ⟨ws,kk,.inr ⟨o,r2⟩,rfl,z2.symm⟩,cZ.ret fV z3⟩
  ·exact cZ.elim
 ·exact cZ.elim
end
end M
namespace L2
open PySem PySem.Spec PyProof.Rows
end L2
namespace M
open PySem PySem.Spec L2
theorem KY {m:ME}{env:bA}{st st1:aq}{n:Nat}{kvs:List (Key×D)}(h:m env st=.ok (.loc n) st1)(e:st1[n]? = some (.dkc kvs)):dkI m env st=.ok (kvs.map (λp=>qC p.1),[]) (st1.set n (.dkf kvs)):=by
 unfold dkI;rw[h];simp only[R.bind,e]
noncomputable def abL (tb:List (List Nat×D)):List (Key×D):=tb.map λp=>(Sum.inr (strOf p.1),p.2)
structure ac3 (w:World)(K:PySem.W.Frag)(a:Addr)(tb:List (List Nat×D)):Prop where
 low:(a==sysModules)=false
 at_:∀P:Program,∃(kvs:List (Key×V)) (vs:List (Key×Value)) (ep:Nat),(∀μ H,aM K μ H (abL tb) kvs)/\KV kvs vs/\∀h:Heap,K.In h->h.DictAt (bR P w) a vs ep
inductive Rws (K:PySem.W.Frag) (w:World):List DictEntry->List (List Nat×D)->Prop
 | nil:Rws K w [] []
 | i {h:Int} {x:Str} {t u:Tok} {cs:List Nat} {n:Int} {es:List DictEntry} {tb:List (List Nat×D)} (hx:x=strOf cs) (hh:h=Zz w (.inr x)) (r:Rws K w es tb):Rws K w (⟨h,.str x t,.int n u⟩::es) ((cs,.int n)::tb)
section
variable {X:Cx}{tg b:Expr}{mb:ME}{pos pos':Pos}{x:Str}{tb:List (List Nat×D)}
end
end M
namespace M
open PySem PySem.Spec PySem.SeqAt L2
section
variable {X:Cx}{L:Nat}
end
end M
namespace M
open PySem PySem.Spec L2
section
variable {X:Cx}{b:Expr}{mb:ME}{x:Str}{tb:List (List Nat×D)}{iK apos pos':Pos}
end
end M
namespace L2
open PySem PySem.Spec PyProof.Rows
section
variable {prog:Program}{w:World}{A:Around}{E:Value->Shared->Prop}{s:Shared}{d:Addr}{o:Obj}{es:Array DictEntry}{ep:Nat}
theorem zi2 (hd:(d==sysModules)=false):MeetsIn prog w (Builtin.«dict.__len__» ⟨[.ref d],[]⟩) (λ_ R s=>∃o es ep,s.heap.get? d=some o/\o.data=.dict es ep/\R (.ok (.ret (.int es.size s.toks))) { s with toks:=s.toks+1 }) :=
 .of_wp λA R s zz=>by
  obtain⟨o,es,ep,ho,uT,h⟩:=zz;show wpAny _ _ (dictSize d >>= _) _ _ s;unfold dictSize;refine wpAny_bind (wpAny_bind (wpAny_dictEntries ho uT (wpAny_pure ?_)));show wpAny _ _ (Builtin.Dict.pendingCount d >>= _) _ _ s;refine wpAny_bind (wpAny_pendingCount_other hd ?_);refine wpAny_ret_mkInt ?_;simpa using h
theorem Mh {Q:Value->Shared->Prop}(hd:(d==sysModules)=false)(ho:s.heap.get? d=some o)(hx:o.ExactDict)(uT:o.data=.dict es ep)(M6:(es.size:Int)<2 ^ 63)
  (h:Q (.int es.size (s.toks+1)) { s with toks:=s.toks+1+1 }):wpAny (model prog w) A (call (.builtin "len") [.ref d]) Q E s:=by
 have hT:s.TypeIs (.ref d) "dict":=⟨o,ho,hx.1⟩;refine Calls.call_function_entry PySem.kind_len PySem.plain_len PySem.entry_len (PySem.args_len1 _) ?_;unfold Builtin.«len»;refine wpAny_bind (m:=oneArg "len" _) (wpAny_pure ?_);refine wpAny_bind (m:=callSpecial? (.ref d) (Str.ofString "__len__")) (wpAny_callSpecial?_slot (name:=Str.ofString "__len__") hT F.slot_dict_len
  (call_meetsIn F.slot_dict_len hT F.entry_dict_len (F.args_dict_len_1 _) (zi2 hd) ⟨o,es,ep,ho,uT,?_⟩))
 show wpAny _ _ _ _ _ { s with toks:=s.toks+1 };refine wpAny_bind (wpAny_holding (wpAny_pure ?_));refine wpAny_bind (wpAny_letGo ?_);show wpAny _ _ (if (es.size:Int)<0 then _ else _) _ _ _;rw[if_neg (by omega)];show wpAny _ _ (if (es.size:Int) ≥ 2 ^ 63 then _ else _) _ _ _;rw[if_neg (by omega)];exact wpAny_bind (wpAny_mkInt (wpAny_pure ⟨_,rfl,h⟩))
end
end L2
namespace M
open PySem PySem.Spec L2
section
variable {K:PySem.W.Frag}{μ ν:List Addr}{H H':Hp}{st st':aq}
theorem aV.Qi {n:Nat}(hl:μ.length=n)(h:aV K (μ++ν) H' st')(hn:n<=st'.length)(hu:∀o∈st'.take n,aJ n o):aV K μ H' (st'.take n):=by
 have tg:∀(k:Nat) (o:MO),(st'.take n)[k]? = some o->st'[k]? = some o/\k<n:=λk o e=>by
  have hk:=(gj.mp e).1;rw[k_]at hk;rw[pU,if_pos (by omega)]at e;exact⟨e,by omega⟩
 refine⟨by rw[k_,hl];omega,λk o e=>?_,λi j a oi oj ei ej mi mj hi hj=>?_⟩
 ·obtain⟨e1,hk⟩:=tg k o e;obtain⟨a,h1,h2⟩:=h.at_ k o e1;rw[gQ (by omega)]at h1;exact⟨a,h1,h2.down (by rw[hl];exact hu o (gY e))⟩
 ·have up:∀k,μ[k]? = some a->(μ++ν)[k]? = some a:=λk hk=>by rw[gQ (gj.mp hk).1];exact hk
  exact h.uniq i j a oi oj (tg i oi ei).1 (tg j oj ej).1 mi mj (up i hi) (up j hj)
theorem aV.Uv {n k:Nat}{o:MO}{a:Addr}(hl:μ.length=n)(h:aV K (μ++ν) H' st')(hn:n<=st'.length)(hu:∀o∈st'.take n,aJ n o)(hk:n<=k)(e:st'[k]? = some o)(u:aJ n o)(ha:(μ++ν)[k]? = some a) :
  aV K (μ++[a]) H' (st'.take n++[o]):=by
 have hb:=aV.Qi hl h hn hu;have lt:(st'.take n).length=n:=by rw[k_];omega
 obtain⟨a',q1,q2⟩:=h.at_ k o e;rw[ha]at q1;cases q1;have key:∀(i:Nat) (on:MO) (c:Addr),(st'.take n++[o])[i]? = some on->(μ++[a])[i]? = some c->(i<n/\(st'.take n)[i]? = some on/\μ[i]? = some c)\/(i=n/\on=o/\c=a):=λi on c e1 e2=>by
  by_cases hi:i<n
  ·rw[gQ (by omega)]at e1;rw[gQ (by omega)]at e2;exact .inl ⟨hi,e1,e2⟩
  ·have wg:=(gj.mp e1).1;rw[gC,nq,lt]at wg;have en:i=n:=by omega
   subst en;rw[gR (by omega),lt]at e1;rw[gR (by omega),hl]at e2;simp at e1 e2;exact .inr ⟨rfl,e1.symm,e2.symm⟩
 have tg:∀(i:Nat) (o:MO),(st'.take n)[i]? = some o->st'[i]? = some o:=λi o e=>by
  have hi:=(gj.mp e).1;rw[lt]at hi;rw[pU,if_pos hi]at e;exact e
 refine⟨by simp[lt,hl],λi on e1=>?_,λi j c oi oj ei ej mi mj hi hj=>?_⟩
 ·have hi:i<(μ++[a]).length:=by
   have:=(gj.mp e1).1;simp[lt]at this;simp[hl];omega
  obtain⟨c,hc⟩:∃c,(μ++[a])[i]? = some c:=⟨_,gM hi⟩;rcases key i on c e1 hc with⟨h1,h2,h3⟩ | ⟨h1,rfl,rfl⟩
  ·obtain⟨c',h4,h5⟩:=hb.at_ i on h2;rw[h3]at h4;cases h4;exact⟨c,hc,h5.up _⟩
  ·exact⟨c,hc,(q2.down (by rw[hl];exact u)).up _⟩
 ·have up:∀k,μ[k]? = some c->(μ++ν)[k]? = some c:=λk hk=>by rw[gQ (gj.mp hk).1];exact hk
  rcases key i oi c ei hi with⟨h1,h2,h3⟩ | ⟨h1,rfl,rfl⟩
  ·rcases key j oj c ej hj with⟨g1,g2,g3⟩ | ⟨g1,rfl,rfl⟩
   ·exact hb.uniq i j c oi oj h2 g2 mi mj h3 g3
   ·have:=h.uniq i k c oi oj (tg i oi h2) e mi mj (up i h3) ha;omega
  ·rcases key j oj c ej hj with⟨g1,g2,g3⟩ | ⟨g1,_,_⟩
   ·have:=h.uniq j k c oj oi (tg j oj g2) e mj mi (up j g3) ha;omega
   ·rw[h1,g1]
end
open Classical in
noncomputable def Dr (st:aq)(r:R D):R D:=match r with
 | .ok d st'=>if st.length<=st'.length/\∀o∈st'.take st.length,aJ st.length o then (if under st.length d then .ok d (st'.take st.length) else (match d with
  | .loc k=>(match st'[k]? with
   | some o=>if st.length<=k/\aJ st.length o then .ok (.loc st.length) (st'.take st.length++[o]) else .ok d st'
   | none=>.ok d st')
  | d=>.ok d st')) else .ok d st'
 | r=>r
noncomputable def qH (F:FD):FD:=λds st=>Dr st (F ds st)
theorem U6 {st st' g:aq}{d:D}(hl:st'.length=st.length)(hu:∀o∈st',aJ st.length o)(h:under st.length d):Dr st (.ok d (st'++g))=.ok d st':=by
 unfold Dr;dsimp only;have e:(st'++g).take st.length=st':=by rw[<-hl,List.take_left'];rfl
 rw[if_pos ⟨by simp;omega,by rw[e];exact hu⟩,if_pos h,e]
theorem Nf {st st' g g':aq}{o:MO}(hl:st'.length=st.length)(hu:∀o∈st',aJ st.length o)(h:aJ st.length o):Dr st (.ok (.loc (st.length+g.length)) (st'++g++o::g'))=.ok (.loc st.length) (st'++[o]):=by
 unfold Dr;dsimp only;have e:(st'++g++o::g').take st.length=st':=by rw[gO,<-hl,List.take_left'];rfl
 have e2:(st'++g++o::g')[st.length+g.length]? = some o:=by
  rw[<-hl,gR (by simp)];simp
 rw[if_pos ⟨by simp;omega,by rw[e];exact hu⟩,if_neg (by simp),e2];dsimp only;rw[if_pos ⟨by omega,h⟩,e]
theorem Io {K:PySem.W.Frag}{μ:List Addr}{H:Hp}{Q:VK}{st:aq}{r:R D}(hs:aV K μ H st)(h:vL K μ H Q (Dr st r)):vL K μ H Q r:=by
 cases r with
 | bad=>exact h
 | err x st'=>exact h
 | ok d st' =>
  unfold Dr at h;dsimp only at h;by_cases c0:st.length<=st'.length/\∀o∈st'.take st.length,aJ st.length o
  ·rw[if_pos c0]at h;by_cases c1:under st.length d
   ·rw[if_pos c1]at h;intro v H' μ' g oZ hv;obtain⟨ν,rfl⟩:=g.pre;exact h v H' μ ⟨⟨[],by simp⟩,g.ext⟩ (aV.Qi hs.len oZ c0.1 c0.2) (ao.down d hv (by rw[hs.len];exact c1))
   ·rw[if_neg c1]at h;cases d with
    | loc k =>
     dsimp only at h;cases e:st'[k]? with
     | none=>rw[e]at h;exact h
     | some o =>
      rw[e]at h;dsimp only at h;by_cases c2:st.length<=k/\aJ st.length o
      ·rw[if_pos c2]at h;intro v H' μ' g oZ hv;obtain⟨ν,rfl⟩:=g.pre;obtain⟨a,h1,rfl⟩:=ao.aN.mp hv;refine h _ H' (μ++[a]) ⟨⟨[a],rfl⟩,g.ext⟩ (aV.Uv hs.len oZ c0.1 c0.2 c2.1 e c2.2 h1) (ao.aN.mpr ⟨a,?_,rfl⟩);rw[<-hs.len];simp
      ·rw[if_neg c2]at h;exact h
    | _=>exact h
  ·rw[if_neg c0]at h;exact h
theorem NZ {K:PySem.W.Frag}{n:Nat}{F:FD}{vs:List V}{H:Hp}{Q:VK}{E:XK}(h:jo K n (qH F) vs H Q E):jo K n F vs H Q E:=by
 obtain⟨hl,μ,ds,st,h1,h2,h3⟩:=h;exact⟨hl,μ,ds,st,h1,h2,Io h2 h3⟩
noncomputable def yd (f:Str)(d:D):List (Str×D)->List (Str×D)
 | []=>[(f,d)]
 | (g,x)::r=>if g=f then (g,d)::r else (g,x)::yd f d r
noncomputable def rZ (c f:Str)(m:ME):ME:=λenv st=>(m env st).bind λd st1=>match d with
 | .loc n=>(match st1[n]? with
  | some (.ins c' fs)=>if c'=c then (match fs.lookup f with | some x=>.ok x st1 | none=>.bad) else .bad
  | _=>.bad)
 | _=>.bad
noncomputable def uZ (c f:Str)(mo mv:ME):MS:=λenv st=>(mv env st).bind λd st1=>(mo env st1).bind λx st2=>match x with
 | .loc n=>(match st2[n]? with
  | some (.ins c' fs)=>if c'=c/\fs.length<1000 then .ok (.nx env) (st2.set n (.ins c (yd f d fs))) else .bad
  | _=>.bad)
 | _=>.bad
noncomputable def uA (c:Str)(F:FD)(mA:MA):ME:=λenv st=>(mA env st).bind λas st1=>((F (.loc st1.length::as) (st1++[.ins c []])).sure).bind λd st2=>match d with
 | .non=>.ok (.loc st1.length) st2
 | _=>.bad
noncomputable def vh (c m:Str)(F:FD)(mo:ME)(mA:MA):ME:=λenv st=>(mo env st).bind λx st1=>match x with
 | .loc n=>(match st1[n]? with
  | some (.ins c' fs)=>if c'=c/\fs.lookup m=none then (mA env st1).bind λas st2=>(match st2[n]? with
   | some (.ins _ _)=>(F (.loc n::as) st2).sure
   | _=>.bad) else .bad
  | _=>.bad)
 | _=>.bad
noncomputable def bY:List D->aq->R D
 | [.loc n],st=>(match st[n]? with
  | some (.dic kvs)=>.ok (.int kvs.length) st
  | some (.dkc kvs)=>.ok (.int kvs.length) st
  | _=>uP [.loc n] st)
 | ds,st=>uP ds st
noncomputable def ZG:D->D->aq->R D
 | .loc n,.tup ks,st=>match st[n]?,keysOf ks with
  | some (.dic kvs),some kk=>(match jm kvs kk with | some d=>.ok d st | none=>.bad)
  | _,_=>.bad
 | _,_,_=>.bad
section
variable {X:Cx}{K:PySem.W.Frag}{μ:List Addr}{H:Hp}{e o a b value:Expr}{es:List Expr}{me mo mv ma mb:ME}{mA:MA}{pos pos' apos p:Pos}{c f m x:Str}{C g:Addr}{F:FD}{fd:FuncData}{ps:List Str}{k:Nat}
theorem aM.look:∀{fs:List (Str×D)} {ws:List (Str×V)},aM K μ H fs ws->(fs.lookup f=none/\ws.lookup f=none)\/∃d v,fs.lookup f=some d/\ws.lookup f=some v/\ao K μ H d v
 | [],ws,h=>by rw[aM]at h;subst h;exact .inl ⟨rfl,rfl⟩
 | (j,d)::r,ws,h=>by
  obtain⟨v,r',rfl,h1,h2⟩:=h;by_cases q:f=j
  ·subst q;exact .inr ⟨d,v,by simp[List.lookup],by simp[List.lookup],h1⟩
  ·have q':(f==j)=false:=by simpa using q
   simp only[List.lookup,q'];exact aM.look h2
theorem aM.iH {d:D}{v:V}(hv:ao K μ H d v):∀{fs:List (Str×D)} {ws:List (Str×V)},aM K μ H fs ws->aM K μ H (yd f d fs) (L2.iH f v ws)
 | [],ws,h=>by rw[aM]at h;subst h;exact⟨v,[],rfl,hv,rfl⟩
 | (j,d')::r,ws,h=>by
  obtain⟨v',r',rfl,h1,h2⟩:=h;unfold yd L2.iH;by_cases q:j=f
  ·rw[if_pos q,if_pos q];exact⟨v,r',rfl,hv,h2⟩
  ·rw[if_neg q,if_neg q];exact⟨v',_,rfl,h1,aM.iH hv h2⟩
theorem WR (h0:PySem.W.nsIn X.K mainGlobals c=some (some (.ref C)))(hc:Ei X.K C)(hn:lE X.K C f)(he:JE X e me)(hb:attributeBase e f X.env (eval e X.env)=eval e X.env:=by rfl):JE X (.Attribute e f pos) (rZ c f me):=by
 refine JE.of (RX he hb) fun σ H Q zz=>?_;obtain⟨μ,env,st,hE,hs,hp⟩:=zz;refine⟨μ,env,st,hE,hs,(cg.bind hp).imp ?_⟩;rintro v H1 ⟨μ1,st1,d,g1,bQ,hx,aZ⟩;dsimp only at aZ
 split at aZ
 ·rename_i n
  split at aZ
  ·rename_i c' fs e1
   split at aZ
   ·rename_i ec;subst ec;obtain⟨p,q1,rfl⟩:=ao.aN.mp hx;obtain⟨p',r1,C',dx,ws,r2,r3,r4⟩:=bQ.at_ n _ e1;rw[q1]at r1;cases r1;rw[h0]at r2;cases r2;rcases r4.look (f:=f) with⟨z1,z2⟩ | ⟨d',v',z1,z2,z3⟩
    ·rw[z1]at aZ;exact aZ.elim
    ·rw[z1]at aZ;exact⟨p,C,dx,ws,v',rfl,r3,hc,hn,z2,aZ.ret bQ z3⟩
   ·exact aZ.elim
  ·exact aZ.elim
 ·exact aZ.elim
theorem Hq (h0:PySem.W.nsIn X.K mainGlobals c=some (some (.ref C)))(hc:Ei X.K C)(hn:lE X.K C f)(ho:JE X o mo)(hv:JE X value mv)(hs:swapsWith value (some (.Attribute o f pos')) pos.line X.env=pure false:=by rfl) :
  JS X (.Assign [.Attribute o f pos'] value pos) (uZ c f mo mv):=by
 refine JS.of (Rw ho hv hs) λE σ H zz=>?_;obtain⟨μ,env,st,hE,hs,hp⟩:=zz;refine⟨μ,env,st,hE,hs,hp.val.imp ?_⟩;rintro y H1 ⟨μ1,st1,d,g1,bQ,hy,aZ⟩;refine⟨μ1,env,st1,hE.mono g1,bQ,aZ.val.imp ?_⟩;rintro z H2 ⟨μ2,st2,d2,g2,fV,hz,cZ⟩
 try dsimp only at cZ
 split at cZ
 ·rename_i n
  split at cZ
  ·rename_i c' fs e1
   split at cZ
   ·rename_i ec;obtain⟨ec,hl⟩:=ec;subst ec;obtain⟨p,q1,rfl⟩:=ao.aN.mp hz;obtain⟨p',r1,C',dx,ws,r2,r3,r4⟩:=fV.at_ n _ e1;rw[q1]at r1;cases r1;rw[h0]at r2;cases r2;have hll:ws.length<1000:=by rw[<-r4.len];exact hl
    have gg:Ext H2 (upd H2 p (.ins C dx (L2.iH f y ws))):=Ext.mut r3 (λ_ z=>nomatch z) (λ_ _ z=>nomatch z);have g':bC μ2 H2 μ2 (upd H2 p (.ins C dx (L2.iH f y ws))):=⟨⟨[],by simp⟩,gg⟩;refine⟨p,C,dx,ws,rfl,r3,hc,hn,hll,cZ σ _ μ2 g' (fV.put e1 rfl rfl q1 gg ⟨C,dx,_,h0,uv,(r4.iH (hy.mono g2 _)).mono g'⟩) (((hE.mono g1).mono g2).mono g')⟩
   ·exact cZ.elim
  ·exact cZ.elim
 ·exact cZ.elim
theorem Mr (h0:PySem.W.nsIn X.K mainGlobals c=some (some (.ref C)))(MK:Mk X.K C g)(G:a_ X.prog X.w X.K X.mg X.base iR k g fd ps (jo X.K ps.length F))(hr:dC (k+1) X.A)(hm:X.mg c=some (.ref C))(hb:Binds X.K fd ps [])(ha:JA X (e::es) mA)
  (hlen:(e::es).length+1=ps.length:=by rfl) (hg:Gl X c:=by rfl) (vB:(c==("__debug__":Str))=false:=by decide) (he:starEach (e::es) X.env=(false,eval e X.env)::starEach es X.env:=by rfl) (jW:(backTo pos (starEach es X.env)).any (·.1)=false:=by rfl)
  (hA:∀env st as st1,mA env st=.ok as st1->as.length=(e::es).length:=by intros;rfl):JE X (.Call (.Name c p) (e::es) [] pos) (uA c F mA):=by
 refine JE.of (Lk MK G hr hg hm hb .nil Gw ha vB he jW) fun σ H Q zz=>?_;obtain⟨μ,env,st,hE,hs,hp⟩:=zz;refine⟨μ,env,st,hE,hs,?_⟩;cases hq:mA env st with
 | bad=>unfold uA at hp;rw[hq]at hp;exact hp
 | err y st1=>unfold uA at hp;rw[hq]at hp;exact hp
 | ok as st1 =>
  unfold uA at hp;rw[hq]at hp;intro vs H1 μ1 g1 bQ hv x dx hx hdx qY;have aae:upd H1 dx (.own x) x=none:=by rw[lX (Ne.symm qY)];exact hx
  have ext1:Ext H1 (upd H1 dx (.own x)):=Ext.new hdx;have gd:bC μ1 H1 μ1 (upd H1 dx (.own x)):=⟨⟨[],by simp⟩,ext1⟩;have fV:aV X.K μ1 (upd H1 dx (.own x)) st1:=bQ.lay hdx;have ZW:jk X.K (μ1++[x]) (upd (upd H1 dx (.own x)) x (.ins C dx [])) x (.ins c []):=⟨C,dx,[],h0,uv,rfl⟩;have xX:=fV.new aae ZW;have gn:bC μ1 (upd H1 dx (.own x)) (μ1++[x]) (upd (upd H1 dx (.own x)) x (.ins C dx [])):=bC.new aae;have Mz:ak X.K (μ1++[x]) (upd (upd H1 dx (.own x)) x (.ins C dx [])) (.loc st1.length::as) (.ref x::vs):=ak.cons (ao.aN.mpr ⟨x,by rw[<-bQ.len];simp,rfl⟩) ((hv.mono gd _).mono gn _);have wg:(V.ref x::(vs++[])).length=ps.length:=by
   have:=hA env st as st1 hq;have:=hv.length;simp only[gZ,g8]at *;omega
  rw[gZ]at wg ⊢;refine⟨wg,μ1++[x],.loc st1.length::as,st1++[.ins c []],Mz,xX,?_⟩;cases hF:F (.loc st1.length::as) (st1++[.ins c []]) with
  | bad=>rw[R.aG,hF]at hp;exact hp.elim
  | err y st2=>rw[R.aG,hF]at hp;exact hp.elim
  | ok d st2 =>
   rw[R.aG,hF]at hp;intro v H' μ' g' oZ hvd;have ack:bC μ H μ' H':=(g1.trans gd).trans (gn.trans g');cases d with
   | non =>
    refine⟨ao.bL.mp hvd,hp (.ref x) H' μ' ack oZ (ao.aN.mpr ⟨x,g'.get (by rw[<-bQ.len];simp),rfl⟩)⟩
   | _=>exact hp.elim
theorem zns {pl:Sem Bool}(h0:PySem.W.nsIn X.K mainGlobals c=some (some (.ref C)))(hc:Ei X.K C)(hm:Meth X.K C m g)(G:a_ X.prog X.w X.K X.mg X.base iR k g fd ps (jo X.K ps.length F))(hr:dC k X.A)(hb:Binds X.K fd ps [])(ho:JE X o mo)(ha:JA X (e::es) mA)
  (hlen:(e::es).length+1=ps.length:=by rfl) (wO:starEach (e::es) X.env=(false,eval e X.env)::starEach es X.env:=by rfl) (jW:(backTo pos (starEach es X.env)).any (·.1)=false:=by rfl)
  (ht:eval (.Call (.Attribute o m apos) (e::es) [] pos) X.env=(do
   let ov <-eval o X.env
   standAt apos.atName
   let (f,first) <-holding [ov] (getMethod ov m pl)
   callWith pos f first (backTo pos (starEach (e::es) X.env)) (backToKw pos (keywordEach [] X.env))):=by rfl)
  (hA:∀env st as st1,mA env st=.ok as st1->as.length=(e::es).length:=by intros;rfl):JE X (.Call (.Attribute o m apos) (e::es) [] pos) (vh c m F mo mA):=by
 refine JE.of (Lj ho hc hm G hr hb .nil Gw ha wO jW ht) fun σ H Q zz=>?_;obtain⟨μ,env,st,hE,hs,hp⟩:=zz;refine⟨μ,env,st,hE,hs,(cg.bind hp).imp ?_⟩;rintro v H1 ⟨μ1,st1,d,g1,bQ,hx,aZ⟩;dsimp only at aZ
 split at aZ
 ·rename_i n
  split at aZ
  ·rename_i c' fs e1
   split at aZ
   ·rename_i ec;obtain⟨ec,hl⟩:=ec;subst ec;obtain⟨p,q1,rfl⟩:=ao.aN.mp hx;obtain⟨p',r1,C',dx,ws,r2,r3,r4⟩:=bQ.at_ n _ e1;rw[q1]at r1;cases r1;rw[h0]at r2;cases r2;have wg:ws.lookup m=none:=by
     rcases r4.look (f:=m) with⟨_,z2⟩ | ⟨d',v',z1,_,_⟩
     ·exact z2
     ·rw[hl]at z1;cases z1
    refine⟨p,dx,ws,rfl,r3,wg,μ1,env,st1,hE.mono g1,bQ,?_⟩;cases hq:mA env st1 with
    | bad=>rw[hq]at aZ;exact aZ
    | err y st2=>rw[hq]at aZ;exact aZ
    | ok as st2 =>
     rw[hq,R.aG]at aZ;intro vs H2 μ2 g2 fV hv
     split at aZ
     ·rename_i c2 fs2 e2;have Mz:ak X.K μ2 H2 (.loc n::as) (.ref p::vs):=ak.cons (ao.aN.mpr ⟨p,g2.get q1,rfl⟩) hv;have hll:(V.ref p::(vs++[])).length=ps.length:=by
       have:=hA env st1 as st2 hq;have:=hv.length;simp only[gZ,g8]at *;omega
      rw[gZ]at hll ⊢;refine⟨hll,μ2,.loc n::as,st2,Mz,fV,?_⟩;cases hF:F (.loc n::as) st2 with
      | bad=>rw[hF]at aZ;exact aZ.elim
      | err y o9=>rw[hF]at aZ;exact aZ.elim
      | ok d o9 =>
       rw[hF]at aZ;intro v H' μ' g' oZ hvd;exact aZ v H' μ' (g2.trans g') oZ hvd
     ·exact aZ.elim
   ·exact aZ.elim
  ·exact aZ.elim
 ·exact aZ.elim
theorem uw:cu X (.builtin "len") (JX X bY):=by
 rintro pins s σ H xs us Q I rv ⟨μ,st,ds,hs,hv,hp⟩;unfold bY at hp
 split at hp
 ·rename_i n
  split at hp
  ·rename_i kvs e1;obtain⟨v,rfl,q⟩:=ak.one hv;obtain⟨p,q1,rfl⟩:=ao.aN.mp q;obtain⟨u,rfl,ru⟩:=rv.one;cases ru;obtain⟨p',ws,r1,r2,r3⟩:=hs.dic e1;rw[q1]at r1;cases r1;obtain⟨z,y,xs,r,o,es,ep,h1,h2,h3,h4,h5⟩:=(show bZ X.prog X.w H s.heap p (.dT ws) from I.bV p _ r2);have hl:es.size=kvs.length:=by
    rw[r3.len,Paired.length r,<-g_,h4,gf]
   refine Mh y h1 h2 h3 (by rw[hl,r3.len];rw[sizeLine_eq]at z;omega) ?_;rw[hl];exact⟨.int kvs.length,H,I.tok _,⟨_,rfl⟩,hp.ret hs (ao.aO.mpr rfl)⟩
  ·rename_i kvs e1;obtain⟨v,rfl,q⟩:=ak.one hv;obtain⟨p,q1,rfl⟩:=ao.aN.mp q;obtain⟨u,rfl,ru⟩:=rv.one;cases ru;obtain⟨p',ws,r1,r2,r3⟩:=hs.dkc e1;rw[q1]at r1;cases r1;refine aap I (.inl r2) λt s' I'=>?_;rw[<-r3.len];exact⟨.int kvs.length,H,I',⟨_,rfl⟩,hp.ret hs (ao.aO.mpr rfl)⟩
  ·exact zlr pins s σ H xs us Q I rv ⟨μ,st,_,hs,hv,hp⟩
 ·exact zlr pins s σ H xs us Q I rv ⟨μ,st,_,hs,hv,hp⟩
theorem S7 (hu:X.A.units+1<cLine)(ha:JE X a ma)(hb:JE X b mb)(hs:NQ b:=by exact λ_ _=>rfl):JE X (.Subscript a b pos) (aL ZG ma mb):=by
 refine JE.of (Ah hu ha hb hs) fun σ H Q h=>?_;obtain⟨μ,env,st,hE,hs,hp⟩:=UG h;refine⟨μ,env,st,hE,hs,hp.imp ?_⟩;rintro x H1 ⟨μ1,bM,st1,Wm,bQ,aZ⟩;refine⟨μ1,bM,st1,Wm,bQ,aZ.imp ?_⟩;rintro y H2 ⟨μ2,st2,dx,dy,fV,hx,hy,cZ⟩;unfold ZG at cZ
 split at cZ
 ·rename_i n ks
  split at cZ
  ·rename_i kvs kk e1 e2;obtain⟨p,q1,rfl⟩:=ao.aN.mp hx;obtain⟨b,ys,rfl,q3,q4⟩:=ao.aY.mp hy;replace q3:=q3.made e2;obtain rfl:=ak.keys q4 e2;obtain⟨p',ws,r1,r2,r3⟩:=fV.dic e1;rw[q1]at r1;cases r1;rcases r3.val (k:=kk) with⟨z1,z2⟩ | ⟨d',v',z1,z2,z3⟩
   ·rw[z1]at cZ;exact cZ.elim
   ·rw[z1]at cZ;exact⟨p,v',rfl,by rw[<-z2];exact qU.t r2 q3,cZ.ret fV z3⟩
  ·exact cZ.elim
 ·exact cZ.elim
end
end M
namespace M
open PySem
noncomputable def Bf:Stmt->List Stmt
 | .ClassDef _ _ _ body _ _ _ _ _ _ _=>body
 | _=>[]
end M
namespace L2
open PySem PySem.Spec PyProof.Rows
end L2
namespace M
open PySem PySem.Spec L2
end M
namespace L2
open PySem PySem.Spec PyProof.Rows
section
variable {P:Program}{w:World}{A:Around}{E:Value->Shared->Prop}{s:Shared}{d it:Addr}{od:Obj}{es:Array DictEntry}{i ep:Nat}
theorem Ef {Q:Value->Shared->Prop}(hd:(d==sysModules)=false)(ho:s.heap.get? d=some od)(hx:od.ExactDict)(uT:od.data=.dict es ep)
  (hQ:Q (.ref s.heap.objs.size) { s with heap:=s.heap.push { cls:=.type "dict_keyiterator",data:=.fields #[.ref d,.int 0 0,.int es.size 0,.int ep 0] } }) :
  wpAny (model P w) A (pyIter (.ref d)) Q E s:=by
 have hT:s.TypeIs (.ref d) "dict":=⟨od,ho,hx.1⟩;refine wpAny_pyIter_slot hT PySem.F.slot_dict_iter (wpAny_call_entry PySem.F.slot_dict_iter hT PySem.F.entry_dict_iter ?_ (PySem.F.args_dict_iter_1 _));unfold Builtin.«dict.__iter__» Builtin.Dict.dictSlotNone Builtin.Dict.showsAll;refine wpAny_bind (wpAny_bind (wpAny_notOrdered_dict hT (wpAny_pure ?_)));have no:¬ ((d==sysModules)=true):=by rw[hd];exact mW
 refine wpAny_bind (wpAny_pure (wpAny_bind ?_));rw[if_neg no];refine wpAny_pure (wpAny_bind (wpAny_dictEntries ho uT (wpAny_bind (wpAny_dictEpoch ho uT ?_))));refine wpAny_bind (wpAny_newObj_type ?_);exact wpAny_pure ⟨_,rfl,"dict_keyiterator",_,⟨_,gH _ rfl,rfl⟩,PySem.F.slot_dict_keyiterator_next.lookup,by simpa[rawInt] using hQ⟩
theorem Ed {Q:Option Value->Shared->Prop}(hit:s.heap.IsKeyIter it d i es.size ep)(ho:s.heap.get? d=some od)(uT:od.data=.dict es ep)(hi:i<es.size)
  (hQ:∀h',h'.IsKeyIter it d (i+1) es.size ep->Heap.SameBut it s.heap h'->Q (some es[i].key) { s with heap:=h' }):wpAny (model P w) A (pyNext (.ref it)) Q E s:=by
 obtain⟨oi,V7,hci,Dl⟩:=id hit;unfold pyNext;refine wpAny_bind (wpAny_attempt (wpAny_callSpecial?_slot (name:=Str.ofString "__next__") hit.typeIs PySem.F.slot_dict_keyiterator_next
  (wpAny_call_entry PySem.F.slot_dict_keyiterator_next hit.typeIs PySem.F.entry_dict_keyiterator_next ?_ (PySem.F.args_dict_keyiterator_next_1 _))))
 refine wpAny_bind (wpAny_pure (wpAny_bind (wpAny_bind (wpAny_bind (wpAny_typeNameOfWhole_keyiter hit.typeIs (wpAny_pure (wpAny_bind (wpAny_fieldsOf V7 Dl ?_))))))));have own:Builtin.Dict_items.ownsTuple "dict_keyiterator" = false:=by decide
 simp only[own,nW,if_false];have nn:¬ ((Value.ref d==Value.none)=true):=mW;refine (show wpAny _ _ (if (Value.ref d==Value.none)=true then _ else _) _ _ s from ?_);rw[if_neg nn];refine wpAny_bind (wpAny_pure (wpAny_bind (wpAny_dictEntries ho uT ?_)));rw[if_neg (by simp)];refine wpAny_bind (wpAny_pure (wpAny_bind (wpAny_dictEpoch ho uT ?_)));rw[if_neg (by simp)];have lo:¬ ((i:Int)<0):=by omega
 refine wpAny_pure ?_;simp only[lo,if_false,mC,kO hi];refine wpAny_bind (wpAny_bind (wpAny_typeNameOfWhole_keyiter hit.typeIs (wpAny_pure (wpAny_bind (wpAny_isOneOf_keyiter hit.typeIs ?_)))));refine (show wpAny _ _ (setField (.ref it) 1 (rawInt ((i:Int)+1)) >>= _) _ _ s from wpAny_bind (wpAny_setField V7 Dl (by simp) ?_));generalize eh:s.heap.update it (Obj.mapFields (·.setIfInBounds 1 (rawInt ((i:Int)+1))))=h2;have st:h2.IsKeyIter it d (i+1) es.size ep:=by
  subst eh;exact⟨_,m9 _ V7 (Obj.isFreed_of_fields (Obj.data_mapFields Dl _)),(Obj.cls_mapFields ..).trans hci,by rw[Obj.data_mapFields Dl];simp[rawInt]⟩
 have sb:Heap.SameBut it s.heap h2:=by subst eh;exact Heap.SameBut.update ..
 refine wpAny_bind (wpAny_holding (wpAny_bind (wpAny_isOneOf_keyiter (s:={ s with heap:=h2 }) st.typeIs ?_)));exact wpAny_pure (wpAny_pure ⟨_,rfl,wpAny_pure (hQ h2 st sb)⟩)
theorem Jr {Q:Option Value->Shared->Prop}(hh:A.handled=none)(hit:s.heap.IsKeyIter it d i es.size ep)(ho:s.heap.get? d=some od)(uT:od.data=.dict es ep)(hi:es.size<=i)
  (hQ:∀h',Heap.ExtBut it s.heap h'->Q none { s with heap:=h' }):wpAny (model P w) A (pyNext (.ref it)) Q E s:=by
 obtain⟨oi,V7,hci,Dl⟩:=id hit;unfold pyNext;refine wpAny_bind (wpAny_attempt (wpAny_callSpecial?_slot (name:=Str.ofString "__next__") hit.typeIs PySem.F.slot_dict_keyiterator_next
  (wpAny_call_entry PySem.F.slot_dict_keyiterator_next hit.typeIs PySem.F.entry_dict_keyiterator_next ?_ (PySem.F.args_dict_keyiterator_next_1 _))))
 refine wpAny_bind (wpAny_pure (wpAny_bind (wpAny_bind (wpAny_bind (wpAny_typeNameOfWhole_keyiter hit.typeIs (wpAny_pure (wpAny_bind (wpAny_fieldsOf V7 Dl ?_))))))));have own:Builtin.Dict_items.ownsTuple "dict_keyiterator" = false:=by decide
 simp only[own,nW,if_false];have nn:¬ ((Value.ref d==Value.none)=true):=mW;refine (show wpAny _ _ (if (Value.ref d==Value.none)=true then _ else _) _ _ s from ?_);rw[if_neg nn];refine wpAny_bind (wpAny_pure (wpAny_bind (wpAny_dictEntries ho uT ?_)));rw[if_neg (by simp)];refine wpAny_bind (wpAny_pure (wpAny_bind (wpAny_dictEpoch ho uT ?_)));rw[if_neg (by simp)];have lo:¬ ((i:Int)<0):=by omega
 refine wpAny_pure ?_;simp only[lo,if_false,mC,m_ hi];refine wpAny_bind (wpAny_bind (wpAny_typeNameOfWhole_keyiter hit.typeIs (wpAny_pure ?_)));refine (show wpAny _ _ (setField (.ref it) 0 .none >>= _) _ _ s from wpAny_bind (wpAny_setField V7 Dl (by simp) ?_));refine (show wpAny _ _ (newExc (.type "StopIteration") [] >>= _) _ _ _ from wpAny_bind ?_);simp only[newExc,newTuple];refine wpAny_bind (wpAny_newObj_type (wpAny_bind (m:=firstArgMember _ _) (wpAny_of_eq (a:=Value.none) (by simp only[firstArgMember];rfl) (wpAny_newObj_type ?_ (by size_fits)))) (by size_fits));simp only[raiseNew];have h2:A.in1.handled=none:=hh;refine wpAny_bind (wpAny_handled ?_);rw[h2];refine wpAny_bind (wpAny_pure (wpAny_throw (wpAny_bind ?_)));refine wpAny_isInstance (T:="StopIteration") (b:=true) ⟨_,gH _ rfl,rfl⟩ isSubtype_stop ?_;exact wpAny_pure (hQ _ (((Heap.SameBut.update ..).extBut.push _).push _))
end
noncomputable def Idt (d:Addr)(o:Obj)(kvs:List (List Key×V)):It :=
 ⟨λi H=>i<kvs.length/\H d=some (.frz o (.dT kvs)),λi H y H'=>H'=H/\∃p b,kvs[i]? = some p/\y=.ref b/\H b=some (.tup (p.1.map kV)),λi H=>kvs.length<=i/\H d=some (.frz o (.dT kvs))⟩
theorem zoe {X:Cx}{pins:List (Addr×Obj)}{σ:St}{H:Hp}{s:Shared}{d:Addr}{o:Obj}{kvs:List (List Key×V)}{es:Array DictEntry}{ep:Nat}(I:Inv X pins σ H s)(ho:o.data=.dict es ep)(e:H d=some (.frz o (.dT kvs))) :
  s.heap.get? d=some o/\es.size=kvs.length/\∀(i:Nat) (p:List Key×V) (hi:i<es.size),kvs[i]? = some p->∃b,es[i].key=.ref b/\H b=some (.tup (p.1.map kV)):=by
 obtain⟨h1,z,hd,xs,rel,o',es',ep',h2,h3,h4,h5,h6⟩:=(show bZ X.prog X.w H s.heap d (.frz o (.dT kvs)) from I.bV d _ e);rw[h1]at h2;cases h2;rw[ho]at h4;cases h4;have hl:kvs.length=xs.length:=Paired.length rel;have hs:es.size=xs.length:=by rw[<-g_,h5,gf]
 refine⟨h1,by omega,λi p hi hp=>?_⟩;obtain⟨q,hq⟩:∃q,xs[i]? = some q:=⟨_,gM (by omega)⟩;obtain⟨k1,k2,_⟩:=zih rel i p q hp hq;refine⟨q.2.1,?_,k2⟩;have e1:es.toList[i]? = some (entryOfKey (tupleKind (bR X.prog X.w)) q):=by rw[h5,gF,hq];rfl
 have e2:es.toList[i]? = some es[i]:=by rw[nA];exact kO hi
 rw[e2]at e1;rw[Option.some.inj e1]
 rfl
theorem Ko {P:Program}{w:World}{K:PySem.W.Frag}{tg:Expr}(it d:Addr)(o:Obj)(es:Array DictEntry)(ep:Nat)(ho:o.data=.dict es ep)(kvs:List (List Key×V)):Turn P w K tg (Idt d o kvs) [it] it (λi h=>h.IsKeyIter it d i es.size ep) where
 mem:=by simp
 obj:=λi h st b hb=>by
  have e:b=it:=by simpa using hb
  subst e;obtain⟨o,e,c,d⟩:=st;exact⟨o,e,λv z=>by rw[d]at z;cases z⟩
 keep:=λi h h' st k=>by
  obtain⟨o,e,c,d⟩:=st;exact⟨o,k it (by simp) o e,c,d⟩
 item:=by
  intro X hP hw hK hc i pins s σ H E I hf st hg;subst hP hw hK;obtain⟨f0,f1,f2,f3,f4,f5⟩:=hf it (by simp);obtain⟨hi,e⟩:=hg;obtain⟨h1,hs,hk⟩:=zoe I ho e;have Ba:i<es.size:=by omega
  obtain⟨p,hp⟩:∃p,kvs[i]? = some p:=⟨_,gM hi⟩;obtain⟨b,e1,e2⟩:=hk i p Ba hp;refine Ed st h1 ho Ba λh' st' sb=>?_;have I1:Inv X pins σ H { s with heap:=h' }:=I.turned (t':=s.toks) (λb o hb e=>(sb.2 b hb).trans e) f0 f1 f3 f4 f5;obtain⟨o1,e3,c1,d1⟩:=id st';exact⟨_,rfl,wR (s:={ s with heap:=h' }) e3 c1 d1 (by decide) ⟨.ref b,H,I1,by rw[e1];rfl,⟨rfl,p,b,hp,rfl,e2⟩,st',λb hb=>(hf b hb).1⟩⟩
 done:=by
  intro X hP hw hK hc i pins s σ H E I hf st hg;subst hP hw hK;obtain⟨f0,f1,f2,f3,f4,f5⟩:=hf it (by simp);obtain⟨hi,e⟩:=hg;obtain⟨h1,hs,hk⟩:=zoe I ho e;exact Jr (I.ok.hd hc) st h1 ho (by omega) λh' eb=>⟨rfl,I.turned (t':=s.toks) (λb o hb e=>eb b o hb e) f0 f1 f3 f4 f5⟩
 self:=λ_ _ _ _ _ st h=>wpAny_pyIter_keyiter st h
noncomputable def iDt (tl:TE):TI:=fun σ H R=>tl σ H λy H1=>∃a kvs,y=.ref a/\((∃o,H1 a=some (.frz o (.dT kvs))/\R (Idt a o kvs) H1)\/(H1 a=some (.dT kvs)/\∀o,R (Idt a o kvs) (upd H1 a (.frz o (.dT kvs)))))
theorem Y0 {X:Cx}{tg l:Expr}{tl:TE}(hl:PE X l tl):PI X tg l (iDt tl):=by
 intro pins s σ H R I h;refine dz (hl pins s σ H _ I h) λv s1 zz=>?_;obtain⟨y,H1,I1,r1,q1⟩:=zz;obtain⟨a,kvs,rfl,q⟩:=q1;cases (show v=Value.ref a from r1);have key:∀(H2:Hp) (o:Obj),Inv X pins σ H2 s1->H2 a=some (.frz o (.dT kvs))->R (Idt a o kvs) H2->wpAny (model X.prog X.w) X.A (pyIter (.ref a)) (PIE X pins σ tg R) X.xe s1:=λH2 o I2 e2 r2=>by
  obtain⟨h1,z,hd,xs,rel,o',es,ep,h2,h3,h4,h5⟩:=(show bZ X.prog X.w H2 s1.heap a (.frz o (.dT kvs)) from I2.bV a _ e2);rw[h1]at h2;cases h2;refine Ef hd h1 h3 h4 ?_;refine⟨s1.heap.objs.size,[s1.heap.objs.size],_,_,H2,rfl,I2.kept (t':=s1.toks) λb u e=>gq _ e,Ko _ a o es ep h4 kvs,⟨_,gH _ rfl,rfl,rfl⟩,λb hb=>?_,r2⟩;have e:b=s1.heap.objs.size:=by simpa using hb
  subst e;exact I2.zF (gh _) (I2.bV.fresh (gh _))
 rcases q with⟨o,e,r⟩ | ⟨e,r⟩
 ·exact key H1 o I1 e r
 ·obtain⟨z,hd,xs,rel,o,es,ep,h2,h3⟩:=(show bZ X.prog X.w H1 s1.heap a (.dT kvs) from I1.bV a _ e);have ne:∀q∈xs,q.2.1≠a:=λq hq z=>by
   obtain⟨i,hi⟩:=qb hq;obtain⟨p,hp⟩:∃p,kvs[i]? = some p:=⟨_,gM (by rw[Paired.length rel];exact (gj.mp hi).1)⟩;have k:=(zih rel i p q hp hi).2.1;rw[z,e]at k;cases k
  have new:bZ X.prog X.w (upd H1 a (.frz o (.dT kvs))) s1.heap a (.frz o (.dT kvs)):=by
   refine⟨h2,z,hd,xs,?_,o,es,ep,h2,h3⟩;have go:∀(l1:List (List Key×V)) (l2:List (List Key×Addr×Value)),(∀q∈l2,q.2.1≠a)->Paired (λ(p:List Key×V) (q:List Key×Addr×Value)=>p.1=q.1/\H1 q.2.1=some (.tup (p.1.map kV))/\RelV p.2 q.2.2) l1 l2->Paired (λ(p:List Key×V) (q:List Key×Addr×Value)=>p.1=q.1/\upd H1 a (.frz o (.dT kvs)) q.2.1=some (.tup (p.1.map kV))/\RelV p.2 q.2.2) l1 l2:=by
    intro l1 l2 hn hp
    induction hp with
    | nil=>exact .nil
    | cons r t ih=>exact .cons ⟨r.1,by rw[lX (hn _ (nQ))];exact r.2.1,r.2.2⟩ (ih λq hq=>hn q (kj _ hq))
   exact go kvs xs ne rel
  exact key (upd H1 a (.frz o (.dT kvs))) o (I1.write (x:=a) (e:=a) (t':=s1.toks) (h':=s1.heap) (by rw[e];trivial) (.inl rfl) (λb u _ z=>z) ⟨o,h2⟩ new) uv (r o)
end L2
namespace M
open PySem PySem.Spec L2
noncomputable def Dw (m:ME):MI:=λenv st=>(m env st).bind λd st1=>match d with
 | .loc n=>(match st1[n]? with
  | some (.dic kvs)=>.ok (kvs.map (λp=>.tup (p.1.map qC)),[]) (st1.set n (.dtf kvs))
  | some (.dtf kvs)=>.ok (kvs.map (λp=>.tup (p.1.map qC)),[]) st1
  | _=>.bad)
 | _=>.bad
section
variable {X:Cx}{tg l a b:Expr}{ml ma mb:ME}{μ:List Addr}{H:Hp}{K:PySem.W.Frag}{st:aq}{pos:Pos}
theorem ak.O9:∀(ks:List Key),ak K μ H (ks.map M.qC) (ks.map kV)
 | []=>ak.nil
 | k::r=>ak.cons (ao.qC k) (ak.O9 r)
theorem aM.Hm {κ:Type}:∀{kvs:List (κ×D)} {ws:List (κ×V)},aM K μ H kvs ws->kvs.length=ws.length/\∀(i:Nat) (p:κ×D) (q:κ×V),kvs[i]? = some p->ws[i]? = some q->p.1=q.1
 | [],_,h=>by cases h;exact⟨rfl,λi p q h1=>by simp at h1⟩
 | (k,d)::r,_,⟨v,s,rfl,h1,h2⟩=>by
  obtain⟨l,hk⟩:=aM.Hm h2;refine⟨by simp[l],λi p q e1 e2=>?_⟩;cases i with
  | zero=>simp at e1 e2;subst e1;subst e2;rfl
  | succ i=>exact hk i p q (by simpa using e1) (by simpa using e2)
theorem Ax {a:Addr}{o:Obj}{kvs:List (List Key×D)}{ws:List (List Key×V)}(e:H a=some (.frz o (.dT ws)))(h:aM X.K μ H kvs ws):vN X μ H (Idt a o ws) (kvs.map (λp=>.tup (p.1.map M.qC)),[]):=by
 intro H' μ' st' g hs ok;obtain⟨hl,hk⟩:=h.Hm;have e':=g.ext.frz _ _ _ e;refine⟨λi d ed=>?_,⟨by simp[hl],e'⟩⟩;rw[gF]at ed;obtain⟨p,e1,rfl⟩:=my.mp ed;have hi:=(gj.mp e1).1;refine⟨⟨by omega,e'⟩,?_⟩;rintro x Ke ⟨rfl,q,b,hq,rfl,hb⟩;refine⟨.refl _ _,hs,?_⟩;rw[hk i p q e1 hq];exact ao.aY.mpr ⟨b,_,rfl,.inl hb,ak.O9 _⟩
theorem Ao (hl:JE X l ml):JI X tg l (Dw ml):=by
 refine JI.of (Y0 hl) fun σ H R zz=>?_;obtain⟨μ,env,st,hE,hs,hp⟩:=zz;refine⟨μ,env,st,hE,hs,(cg.bind hp).imp ?_⟩;rintro v H1 ⟨μ1,st1,d,g1,bQ,hv,aZ⟩;dsimp only at aZ
 split at aZ
 ·rename_i n;obtain⟨a,q1,rfl⟩:=ao.aN.mp hv
  split at aZ
  ·rename_i kvs e1;obtain⟨a',r1,ws,r2,r3⟩:=bQ.at_ n _ e1;rw[q1]at r1;cases r1;refine⟨a,ws,rfl,.inr ⟨r2,λo=>?_⟩⟩;have g:Ext H1 (upd H1 a (.frz o (.dT ws))):=Ext.mut r2 (λ_ z=>nomatch z) (λ_ _ z=>nomatch z);have g':bC μ1 H1 μ1 (upd H1 a (.frz o (.dT ws))):=⟨⟨[],by simp⟩,g⟩;exact aZ _ _ μ1 g' (bQ.iH e1 rfl q1 g ⟨ws,o,uv,r3.mono g'⟩) (Ax uv (r3.mono g'))
  ·rename_i kvs e1;obtain⟨a',r1,ws,o,r2,r3⟩:=bQ.at_ n _ e1;rw[q1]at r1;cases r1;exact⟨a,ws,rfl,.inl ⟨o,r2,aZ _ _ _ (.refl _ _) bQ (Ax r2 r3)⟩⟩
  ·exact aZ.elim
 ·exact aZ.elim
end
theorem Aa {m:ME}{env:bA}{st st1:aq}{n:Nat}{kvs:List (List Key×D)}(h:m env st=.ok (.loc n) st1)(e:st1[n]? = some (.dic kvs)):Dw m env st=.ok (kvs.map (λp=>.tup (p.1.map qC)),[]) (st1.set n (.dtf kvs)):=by
 unfold Dw;rw[h];simp only[R.bind,e]
theorem z_ {m:ME}{env:bA}{st st1:aq}{n:Nat}{kvs:List (List Key×D)}(h:m env st=.ok (.loc n) st1)(e:st1[n]? = some (.dtf kvs)):Dw m env st=.ok (kvs.map (λp=>.tup (p.1.map qC)),[]) st1:=by
 unfold Dw;rw[h];simp only[R.bind,e]
end M
namespace L2
open PySem PySem.Spec PyProof.Rows
section
variable {X:Cx}{pins:List (Addr×Obj)}{σ:St}{H:Hp}{s:Shared}{h':Heap}{lo:Nat}{e C dx:Addr}{E:Value->Shared->Prop}
structure Own (X:Cx):Prop where
 Vx:X.stack=X.env::X.outer
 frm:X.env.frame=some X.env.locals
 pn:X.pn=[]
end
section
variable {X:Cx}{W:Addr->Addr->Hp->Prop}{P:Program}{w:World}
end
section
variable {prog:Program}{w:World}{A:Around}{E:Value->Shared->Prop}{h:Heap}{g:Array GenState}{d:Drawn}{t:Nat}{os:OsState}
variable {nm q nm1 q1:Str}{C N C1 N1:Addr}{bs bm bs1 bm1:List Value}{ace ac2:Bool}{sn sn1:List Str}{sub ac7:List Value}{ab ab1:Bool}{col adn:Option Bool}{dd dd1:Option Addr}{k0 k1 k2 k3 k5 j0 j1 j2 j3 j5:Option Value}{abH:String}{mN mN1:Str->Option Value}
end
end L2
set_option maxHeartbeats 0
namespace L2
open PySem PySem.Spec PyProof.Rows
section
variable {prog:Program}{w:World}{A:Around}{E:Value->Shared->Prop}{h:Heap}{g:Array GenState}{d:Drawn}{t:Nat}{os:OsState}
variable {nm q:Str}{C N C1 N1:Addr}{bs bm:List Value}{ace:Bool}{sn:List Str}{sub:List Value}{ab:Bool}{col:Option Bool}{dd:Option Addr}{k0 k1 k2 k3 k5:Option Value}{newId:String}{mN mN1:Str->Option Value}
structure Two (h:Heap)(C C1 fI:Addr):Prop where
 c:∃nm q N bs sn sub ab col dd k0 k1 k2 k3 k5 mN,h.get? C=some (excClassObj nm q C N bs [.ref C1,.type "ValueError",.type "Exception",.type "BaseException",.type "object"] true sn sub ab col dd k0 k1 k2 k3 k5 "ValueError.__new__")/\h.Ns N mN/\∀x:Str,x∈([("__init__":Str),"at","__setattr__","__getattribute__","__getattr__","__class__"]:List Str)->mN x=none
 c1:∃nm q N bs bm hd sn sub ab col dd k0 k1 k2 k3 k5 nid mN,h.get? C1=some (excClassObj nm q C1 N bs bm hd sn sub ab col dd k0 k1 k2 k3 k5 nid)/\h.Ns N mN/\mN "__init__" = some (.ref fI)/\∀x:Str,x∈([("at":Str),"__setattr__","__getattribute__","__getattr__","__class__"]:List Str)->mN x=none
 f:∃oI,h.get? fI=some oI/\oI.cls=.type "function"
end
end L2
set_option maxHeartbeats 0
namespace L2
open PySem PySem.Spec PyProof.Rows
section
variable {prog:Program}{w:World}{A:Around}{E:Value->Shared->Prop}{h:Heap}{g:Array GenState}{d:Drawn}{t:Nat}{os:OsState}{C C1 fI:Addr}
end
end L2
set_option maxHeartbeats 0
namespace L2
open PySem PySem.Spec PyProof.Rows
section
variable {prog:Program}{w:World}{A:Around}{E:Value->Shared->Prop}{h:Heap}{g:Array GenState}{d:Drawn}{t:Nat}{os:OsState}{C C1 fI:Addr}
end
end L2
set_option maxHeartbeats 0
namespace L2
open PySem PySem.Spec PyProof.Rows
section
variable {prog:Program}{w:World}{A:Around}{E:Value->Shared->Prop}{h:Heap}{g:Array GenState}{d:Drawn}{t:Nat}{os:OsState}{C C1 fI:Addr}
end
end L2
set_option maxHeartbeats 0
namespace L2
open PySem PySem.Spec PyProof.Rows
section
variable {X:Cx}{e:Expr}{te:TE}{p pos p1 p2 p3:Pos}{x:Str}{j:Nat}{pins:List (Addr×Obj)}{σ:St}{H:Hp}{s:Shared}
end
end L2
set_option maxHeartbeats 0
namespace L2
open PySem PySem.Spec PyProof.Rows
section
variable {X:Cx}{pins:List (Addr×Obj)}{σ:St}{H:Hp}{s:Shared}
end
end L2
set_option maxHeartbeats 0
namespace L2
open PySem PySem.Spec PyProof.Rows
section
variable {X:Cx}{pins:List (Addr×Obj)}{σ:St}{H:Hp}{s:Shared}
end
end L2
namespace M
open PySem PySem.Spec L2
end M
set_option maxHeartbeats 0
namespace L2
open PySem PySem.Spec PyProof.Rows
section
variable {X:Cx}{CX:Eu}{k:Nat}{f C:Addr}{fd:FuncData}{ps:List Str}{sp:Sp}{dvs:List V}{ds:List Value}{x m:Str}{p pos apos:Pos}{e o:Expr}{es:List Expr}{ta:TE}{t:TA}{pins:List (Addr×Obj)}{σ:St}{H:Hp}{s:Shared}{Q:VK}
end
end L2
namespace M
open PySem PySem.Spec L2
section
variable {P:Program}{w:World}{K:PySem.W.Frag}{mg:Str->Option Value}{base:Heap}
end
section
variable {X:Cx}{e:Expr}{es:List Expr}{mA:MA}{pos p:Pos}{x:Str}{k:Nat}{f:Addr}{fd:FuncData}{ps:List Str}{F:FD}{dvs:List V}{ds:List Value}{dd:List D}
end
end M
set_option maxHeartbeats 0
namespace L2
open PySem PySem.Spec PyProof.Rows
section
variable {X:Cx}{pins:List (Addr×Obj)}{σ:St}{H:Hp}{s:Shared}
end
end L2
set_option maxHeartbeats 0
namespace L2
open PySem PySem.Spec PyProof.Rows
section
variable {X:Cx}{c:Expr}{pos:Pos}
end
end L2
namespace M
open PySem PySem.Spec L2
section
variable {K:PySem.W.Frag}{μ:List Addr}{H:Hp}{st:aq}{dx e:Addr}{od oe:Obj}{fs:List (Str×V)}
end
section
variable {X:Cx}{e:Expr}{es:List Expr}{mA:MA}{pos p p1 p2 p3 p4 p5 p6:Pos}{x c1 n y:Str}{k:Nat}{f C1:Addr}{fd:FuncData}{ps:List Str}{F:FD}{dvs:List V}{ds:List Value}{dd:List D}{bst:Stmt}{i:Option Nat}{ie iy:Nat}{ok:String->Bool}
end
end M
set_option maxHeartbeats 0
namespace L2
open PySem PySem.Spec PyProof.Rows PySem.W
noncomputable def nsOkIn (K:Frag)(N:Addr)(no:List Str)(init:Option Value):Bool:=match K.lookup N with
 | some ⟨_,_,.dict es _,_⟩=>es.toList.all (λe=>match e.key with | .str _ _=>true | _=>false) && no.all (λx=>(nsFind es x).isNone) && (match init with | none=>true | some v=>nsFind es "__init__" == some v)
 | _=>false
noncomputable def X_ (K:Frag)(C:Addr)(bm0:Option (List Value))(no:List Str)(init:Option Value):Bool:=match K.lookup C with
 | some ⟨.type "type",_,.cls cd,sl⟩=>(match cd.mro,sl.toList with
  | .ref C'::bm,[_,_,_,_,some (.builtin n),_]=>C'==C && !cd.hasDel && (match bm0 with | none=>true | some b=>cd.hasDict && n == "ValueError.__new__" && bm==b) && nsOkIn K cd.ns no init
  | _,_=>false)
 | _=>false
noncomputable def fnIn (K:Frag)(f:Addr):Bool:=match K.lookup f with
 | some ⟨.type "function",_,_,_⟩=>true
 | _=>false
noncomputable def Yd (K:Frag)(C C1 fI:Addr):Bool :=
 X_ K C (some [.ref C1,.type "ValueError",.type "Exception",.type "BaseException",.type "object"]) [("__init__":Str),"at","__setattr__","__getattribute__","__getattr__","__class__"] none &&
 X_ K C1 none [("at":Str),"__setattr__","__getattribute__","__getattr__","__class__"] (some (.ref fI)) && fnIn K fI
end L2
namespace M
open PySem PySem.Spec L2
noncomputable def aal (c:String):Bool:=c == "NoProgram" || c == "NoTree"
noncomputable def aa9 (c T:String):Bool:=c==T || T == "OneError" || T == "ValueError"
noncomputable def abO (T:String):D->aq->R D:=λd st=>match d with
 | .loc n=>(match st[n]? with
  | some (.exc c _)=>if aal c then .ok (.bl (aa9 c T)) st else .bad
  | _=>.bad)
 | _=>.bad
noncomputable def Zi (K:PySem.W.Frag)(x:Str):Bool:=match PySem.W.nsIn K mainGlobals x with
 | some (some (.ref _))=>false
 | _=>true
structure adp (K:PySem.W.Frag)(C1 fI CP CT:Addr):Prop where
 nP:PySem.W.nsIn K mainGlobals (("NoProgram":String):Str)=some (some (.ref CP))
 nT:Zi K (("NoTree":String):Str)=true
 tP:Yd K CP C1 fI=true
 b1:PySem.W.ktsIn K C1 "BaseException" = true
 kPV:PySem.W.kitOne K (.ref CP) (.type "ValueError")=some true
section
variable {K:PySem.W.Frag}{C1 fI CP CT:Addr}
end
section
variable {X:Cx}{e:Expr}{ma:ME}{p p2 pos:Pos}{C1 fI CP CT:Addr}
noncomputable def rIx (X:Cx)(T:String)(cv:V):List V->Hp->VK->Prop:=λxs H Q=>∃μ st d x,xs=[x,cv]/\aV X.K μ H st/\ao X.K μ H d x/\cg X μ H (q9 X) Q (abO T d st)
end
end M
namespace L2
open PySem PySem.Spec PyProof.Rows PySem.Calls
section
variable {X:Cx}
end
end L2
namespace M
open PySem PySem.Spec L2
section
variable {X:Cx}
end
end M
namespace M
end M
namespace L2
open PySem PySem.Spec PyProof.Rows
section
variable {X:Cx}
end
end L2
namespace M
open PySem PySem.Spec L2
noncomputable def sY:D->D->aq->R D
 | .str [c],.str cs,st=>if cs.length<=1000000 then .ok (.bl (!decide (c∈cs))) st else .bad
 | _,_,_=>.bad
theorem zmr {X:Cx}:dG X (compareOp .NotIn) (rM X sY):=by
 refine dG.weak zj7 ?_;rintro x y H Q ⟨μ,st,dx,dy,hs,hx,hy,hp⟩;unfold sY at hp
 split at hp
 ·rename_i c cs
  split at hp
  ·obtain rfl:=ao.aU.mp hx;obtain rfl:=ao.aU.mp hy;refine⟨_,_,rfl,rfl,?_⟩;have e:=PySem.StrLaws.found_one (strOf cs) c;have e2:(strOf [c])=⟨#[c]⟩:=rfl;rw[e2,e];refine hp.ret hs (ao.bH.mpr ?_);simp
  ·exact hp.elim
 ·exact hp.elim
end M
namespace ST
end ST
namespace ST
open PySem PySem.SetTable
noncomputable def lp (mask:Nat):Nat->Nat×Nat->Nat×Nat
 | 0,x=>x
 | n+1,x=>lp mask n (leap mask x.1 x.2)
noncomputable def cnt (owner:Array (Option Nat)):Nat:=owner.toList.countP Option.isSome
structure Lay (mask n:Nat)(owner:Array (Option Nat)):Prop where
 size:owner.size=mask+1
 ado:cnt owner=n
 lt:∀(i:Nat) (v:Nat),owner[i]? = some (some v)->v<n
section
variable {prog:Program}{w:World}{K:Type}[DecidableEq K]{knd:KeyKind prog w K}{A:Around}{E:Value->Shared->Prop}{s:Shared}
end
section
variable {prog:Program}{w:World}{K:Type}[DecidableEq K]{knd:KeyKind prog w K}{A:Around}{E:Value->Shared->Prop}
structure Lies (knd:KeyKind prog w K)(h:Heap)(S:Addr)(o:Obj)(es:Array (Int×Value))(ep:Nat)(t:SetTable)(kk:Nat)(k:List K):Prop where
 ho:h.get? S=some o
 hd:o.data=.set es ep t
 fits:t.fits es.size=true
 dm:t.dummies=#[]
 pw:t.mask+1=2 ^ (kk+3)
 el:∀e∈es.toList,∃ks b,IsTupleKey knd h ks b/\e.2=.ref b/\ks≠k
end
section
variable {prog:Program}{w:World}{K:Type}[DecidableEq K]{knd:KeyKind prog w K}{A:Around}{E:Value->Shared->Prop}
end
section
variable {prog:Program}{w:World}{K:Type}[DecidableEq K]{knd:KeyKind prog w K}
variable {G:Around}{R:Result->Shared->Prop}{it:Addr}{fp wr:List Addr}{n:Nat}{P:Nat->Value->Prop}{Sx:Nat->Heap->Prop}
end
section
variable {prog:Program}{w:World}{K:Type}[DecidableEq K]{knd:KeyKind prog w K}{G:Around}{E:Value->Shared->Prop}{z:Shared}
set_option maxHeartbeats 3200000 in
end
end ST
namespace L2
open PySem PySem.Spec PyProof.Rows
section
variable {X:Cx}{x y:Str}{p pos p2 sX:Pos}{e:Expr}{te:TE}
end
end L2
namespace M
open PySem PySem.Spec L2
section
variable {X:Cx}{x y:Str}{p pos p2 sX:Pos}{e:Expr}{m:ME}
end
end M
namespace ST
open PySem PySem.W PyProof.Rows
noncomputable def Yx {α:Type}(lt:Nat->Nat->Bool):KasT α->α
 | .ret a=>a
 | .ask i j k=>Yx lt (k (lt i j))
structure Pl (n:Nat)(p:Array Nat):Prop where
 pos:0<n
 size:p.size=n
 all:∀x∈p,x<n
variable {lt:Nat->Nat->Bool}{n:Nat}
noncomputable def order (lt:Nat->Nat->Bool)(n:Nat):List Nat:=if n<2 then List.range n else (Yx lt (kas_sort n)).toList
section
variable {prog:Program}{w:World}{A:Around}{E:Value->Shared->Prop}{s:Shared}
end
section
variable {prog:Program}{w:World}{A:Around}{E:Value->Shared->Prop}{s:Shared}
end
end ST
namespace L2
open PySem PySem.Spec PyProof.Rows
variable {X:Cx}
end L2
namespace M
open PySem PySem.Spec L2
variable {X:Cx}
end M
namespace M
open PySem PySem.Spec PySem.SeqAt L2
variable {X:Cx}
end M
namespace SS
open PySem PySem.SetTable
section
variable {prog:Program}{w:World}{A:Around}{E:Value->Shared->Prop}{s:Shared}
noncomputable def yS (w:World):Bool:=w.params.followText "set-order"
noncomputable abbrev tx:=PyProof.Rows.strOf
noncomputable def sG (prog:Program)(w:World)(h:Heap)(a:Addr)(l:List Str):Prop :=
 ∃o es ep t,h.get? a=some o/\o.ExactSet/\o.data=.set es ep t/\ElemsOf (strKind prog w) es.toList/\List.Perm (es.toList.map λe=>tx e.2) l/\es.size<scanBound/\t.fits es.size=true/\t.led=!yS w/\(l≠[]->t.plain=false)
theorem Pb {k:Str}{v:Value}:(strKind prog w).is k v=true->tx v=k:=λh=>by
 obtain⟨t,rfl⟩:=Value.isStrOf_shape h;rfl
theorem HN (k:Str)(u:Tok):(strKind prog w).is k (.str k u)=true:=by
 show Value.isStrOf k (.str k u)=true;unfold Value.isStrOf;simp
theorem CQ (t:SetTable)(es:Array (Int×Value))(h:Int)(x:Value):(layNew t es h x).2.1.led=t.led/\((layNew t es h x).2.1.plain=t.plain\/(layNew t es h x).2.1.plain=false):=by
 unfold layNew
 split
 ·dsimp only;unfold orStandIn
  split
  ·exact⟨rfl,.inl rfl⟩
  ·exact⟨rfl,.inr rfl⟩
 ·exact⟨rfl,.inr rfl⟩
theorem zmy {mask finger moves:Nat}{led plain:Bool}{hs:Array Int}{r:SetTable×Array Nat}(h:laid mask finger moves led plain hs=some r):r.1.led=led/\r.1.plain=plain:=by
 unfold laid at h;cases ho:layClean mask hs with
 | none=>rw[ho]at h;cases h
 | some ow =>
  rw[ho]at h;cases h;exact⟨rfl,rfl⟩
theorem zl8 (t:SetTable)(es:Array (Int×Value))(n:Nat):(relayAll t es n).2.1.led=t.led/\((relayAll t es n).2.1.plain=t.plain\/(relayAll t es n).2.1.plain=false):=by
 unfold relayAll
 split
 ·rename_i t' order h;have:=zmy h;dsimp only
  split
  ·exact⟨this.1,.inl this.2⟩
  ·exact⟨rfl,.inr rfl⟩
 ·exact⟨rfl,.inr rfl⟩
theorem Fv {g:Bool->Sem Unit}(hg:∀(b:Bool) (ady:Shared) (Q':Unit->Shared->Prop),Q' () ady->wpAny (model prog w) A (g b) Q' E ady)
  {a:Addr} {o:Obj} {es:Array (Int×Value)} {ep:Nat} {t:SetTable} (ho:s.heap.get? a=some o) (hex:o.ExactSet) (hd:o.data=.set es ep t)
  {qZ:Array (Int×Value)} {t2:SetTable} {l:List Str} (J_:ElemsOf (strKind prog w) qZ.toList) (hl:List.Perm (qZ.toList.map λe=>tx e.2) l) (hb:qZ.size<scanBound) (hf:t2.fits qZ.size=true) (xx:t2.led=!yS w) (jW:t2.plain=false)
  {yc:Bool} {R:Option Bool->Shared->Prop} (h:∀h',Heap.SameBut a s.heap h'->sG prog w h' a l->R (some true) { s with heap:=h' }) :
  wpAny (model prog w) A (do
    storeSet a qZ t2
    if (!yc && t2.tooFull)=true then do
      g (relayAll t2 qZ (SetTable.grown qZ.size)).2.2
      storeSet a (relayAll t2 qZ (SetTable.grown qZ.size)).1 (relayAll t2 qZ (SetTable.grown qZ.size)).2.1
      pure (some true)
     else pure (some true)) R E s:=by
 refine wpAny_bind (wpAny_storeSet_of ho hd ?_ (fits_of_scanBound hb));have PB:(s.heap.update a (Obj.putSet qZ t2)).get? a=some { o with data:=.set qZ (ep+1) t2 }:=by
  have:=m9 (Obj.putSet qZ t2) ho (by rw[putSet_of qZ t2 hd];rfl);rw[putSet_of qZ t2 hd]at this;exact this
 have ZQ:=Heap.SameBut.update s.heap a (Obj.putSet qZ t2)
 split
 ·have hp:=relayAll_perm t2 qZ (SetTable.grown qZ.size);have M5:=relayAll_fits t2 qZ (SetTable.grown qZ.size);have Ii:=zl8 t2 qZ (SetTable.grown qZ.size);generalize relayAll t2 qZ (SetTable.grown qZ.size)=Rl at hp M5 Ii ⊢;obtain⟨Qe,t3,gave⟩:=Rl;dsimp only at hp M5 Ii ⊢;have hsz:Qe.size=qZ.size:=by rw[<-g_,hp.length_eq,g_]
  refine wpAny_bind (hg _ _ _ ?_);refine wpAny_bind (wpAny_storeSet_of (s:={ s with heap:=s.heap.update a (Obj.putSet qZ t2) }) PB rfl ?_ (fits_of_scanBound (by rw[hsz];exact hb)));have Dk:((s.heap.update a (Obj.putSet qZ t2)).update a (Obj.putSet Qe t3)).get? a=some { o with data:=.set Qe (ep+1+1) t3 }:=by
   have:=m9 (Obj.putSet Qe t3) PB (by rw[putSet_of Qe t3 rfl];rfl);rw[putSet_of Qe t3 rfl]at this;exact this
  exact wpAny_pure (h _ (ZQ.trans (Heap.SameBut.update _ a _)) ⟨_,Qe,ep+1+1,t3,Dk,hex,rfl,J_.perm hp,(hp.map _).trans hl,by rw[hsz];exact hb,M5,by rw[Ii.1,xx],λ_=>by rcases Ii.2 with e | e;exact e.trans jW;exact e⟩)
 ·exact wpAny_pure (h _ ZQ ⟨_,qZ,ep+1,t2,PB,hex,rfl,J_,hl,hb,hf,xx,λ_=>jW⟩)
noncomputable def tU (l:List Str)(k:Str):List Str:=if k∈l then l else l++[k]
theorem aaC {a:Addr}{l:List Str}{k:Str}{u:Tok}{Q:Bool->Shared->Prop}(hS:sG prog w s.heap a l)(hr:l.length+1<scanBound)
  (h:∀b h',Heap.SameBut a s.heap h'->sG prog w h' a (tU l k)->Q b { s with heap:=h' }) :
  wpAny (model prog w) A (setAddHashed a (.str k u) ((strKind prog w).hash k)) Q E s:=by
 obtain⟨o,es,ep,t,ho,hex,hd,J_,Pq,hb,hf,xx,jW⟩:=hS;have M4:(strKind prog w).is k (.str k u)=true:=HN k u;have ZP:(Value.str k u).scannable=true:=rfl;have acd:es.size=l.length:=by rw[<-Pq.length_eq,gf,g_]
 unfold setAddHashed setAddHashedIn;refine wpAny_holding (wpAny_bind (wpAny_setState_of ho hd hf ?_));dsimp only;rw[byScan_of ZP hb J_];simp only[↓reduceIte];unfold setAddByScan;refine wpAny_bind (wpAny_bind (wpAny_rule ?_));refine wpAny_bind (wpAny_setScan_of M4 ho hd hf J_ ?_);cases rG:List.findIdx? (λe=>(strKind prog w).is k e.2) es.toList with
 | some j =>
  dsimp only;obtain⟨hj,hpj,_⟩:=List.findIdx?_eq_some_iff_getElem.mp rG;have V_:k∈l:=Pq.mem_iff.mp (gb.mpr ⟨es.toList[j],m6 hj,Pb hpj⟩);refine wpAny_pure (wpAny_pure ?_);have e:s={ s with heap:=s.heap }:=by cases s;rfl
  have:=h false s.heap (Heap.SameBut.refl a s.heap) ⟨o,es,ep,t,ho,hex,hd,J_,by unfold tU;rw[if_pos V_];exact Pq,hb,hf,xx,by unfold tU;rw[if_pos V_];exact jW⟩;rw[e];exact this
 | none =>
  dsimp only;have V_:k∉l:=λhk=>by
   obtain⟨e,he,q⟩:=gb.mp (Pq.mem_iff.mpr hk);have:=List.findIdx?_eq_none_iff.mp rG e he;obtain⟨⟨k',hk',_⟩,_⟩:=J_ e he;have:=Pb hk';rw[q]at this;subst this
   simp_all
  have hgw:∀(b:Bool) {ady:Shared} {Q':Unit->Shared->Prop},Q' () ady->wpAny (model prog w) A (match b with | true=>rule "set.scan.the-table-gave-way" | false=>pure ()) Q' E ady :=
   λb ady Q' hq=>by cases b<;>first | exact wpAny_pure hq | exact wpAny_rule hq
  have wQ:=layNew_perm t es ((strKind prog w).hash k) (.str k u);have Bb:=layNew_fits t es ((strKind prog w).hash k) (.str k u);have Ii:=CQ t es ((strKind prog w).hash k) (.str k u);generalize layNew t es ((strKind prog w).hash k) (.str k u)=L at wQ Bb Ii ⊢;obtain⟨qZ,t1,yc,gave⟩:=L;dsimp only at wQ Bb Ii ⊢;rw[Array.toList_push]at wQ;have aah:ElemsOf (strKind prog w) qZ.toList:=(J_.push M4 ZP).perm wQ;have yo:List.Perm (qZ.toList.map λe=>tx e.2) (tU l k):=by
   have h1:=wQ.map λe=>tx e.2;rw[kE]at h1;unfold tU;rw[if_neg V_];exact h1.trans (Pq.append_right _)
  have Ib:qZ.size=l.length+1:=by rw[<-g_,wQ.length_eq,gC,g_,acd];rfl
  have Pu:t1.led=!yS w:=by rw[Ii.1,xx]
  refine wpAny_bind (hgw _ ?_);have xF:∀h',Heap.SameBut a s.heap h'->sG prog w h' a (tU l k)->Q true { s with heap:=h' }:=λh' h1 h2=>h true h' h1 h2
  split
  ·refine wpAny_bind ?_;rw[hashByValue_scannable 8 ZP];refine wpAny_pure ?_;refine Fv (l:=tU l k) ?_ ho hex hd aah yo (by rw[Ib];exact hr) ?_ ?_ ?_ ?_
   ·intro b ady Q' hq;cases b<;>first | exact wpAny_pure hq | exact wpAny_rule hq
   ·exact SetTable.fits_plain_off Bb
   ·exact Pu
   ·rfl
   ·intro h' J6 hS';dsimp only;exact wpAny_pure (xF h' J6 hS')
  ·rename_i hnp;refine wpAny_bind (wpAny_pure ?_);simp only[↓reduceIte];refine Fv (l:=tU l k) ?_ ho hex hd aah yo (by rw[Ib];exact hr) Bb Pu (by simpa using hnp) ?_
   ·intro b ady Q' hq;cases b<;>first | exact wpAny_pure hq | exact wpAny_rule hq
   ·intro h' J6 hS';dsimp only;exact wpAny_pure (xF h' J6 hS')
theorem Ju (l:List Str)(k:Str):(tU l k).length<=l.length+1:=by unfold tU;split<;>simp
theorem sG.at' {h h':Heap}{a:Addr}{l:List Str}(H:sG prog w h a l)(hk:∀o,h.get? a=some o->h'.get? a=some o):sG prog w h' a l:=by
 obtain⟨o,es,ep,t,h1,h2⟩:=H;exact⟨o,es,ep,t,hk _ h1,h2⟩
variable {G:Around}{R:Result->Shared->Prop}{it:Addr}{fp wr:List Addr}{n:Nat}{P:Nat->Value->Prop}{Sx:Nat->Heap->Prop}
noncomputable def iQ (kf:Nat->Str):Nat->List Str
 | 0=>[]
 | n+1=>tU (iQ kf n) (kf n)
theorem zli (kf:Nat->Str):∀n,(iQ kf n).length<=n
 | 0=>gh _
 | n+1=>gU (Ju _ _) (Nat.succ_le_succ (zli kf n))
theorem Yb (V:Walks prog w G.in1 it fp wr n P Sx)(S:Addr)(hS:S∉fp)(kf:Nat->Str)(hP:∀i v,P i v->∃u,v=.str (kf i) u)(hn:n<=4000)(left:Nat) :
  ∀(j:Nat) (z:Shared),n=j+left->Sx j z.heap->sG prog w z.heap S (iQ kf j) ->
  (∀g tk,(∀b o,b∉wr->b≠S->z.heap.get? b=some o->g.get? b=some o)->sG prog w g S (iQ kf n)->R (.ok (.ret .none)) { z with heap:=g,toks:=tk }) ->
  codeAny (model prog w) G (.builtin "set.update.loop" ⟨[.ref S,.ref it],[]⟩) R z:=by
 have nS:S∉wr:=λq=>hS (V.sub _ q)
 induction left with
 | zero =>
  intro j z hj hs H done;obtain rfl:n=j:=by omega
  refine codeAny_builtin PyProof.Rows.F.entry_set_update_loop ?_;rw[Around.under_plainId PyProof.Rows.F.plain_set_update_loop _];show wpAny _ G.in1 (pyNext (.ref it) >>= _) _ _ z;refine wpAny_bind (V.done z _ _ hs λg tk kp=>?_);show wpAny _ G.in1 (ret Value.none) _ _ _;exact wpAny_pure (done g tk (λb o h1 _ e=>kp b o h1 e) (H.at' λo e=>kp S o nS e))
 | succ left ih =>
  intro j z hj hs H done;have hjn:j<n:=by omega
  refine codeAny_builtin PyProof.Rows.F.entry_set_update_loop ?_;rw[Around.under_plainId PyProof.Rows.F.plain_set_update_loop _];show wpAny _ G.in1 (pyNext (.ref it) >>= _) _ _ z;refine wpAny_bind (V.item j z _ _ hjn hs λv g tk hv fV kp=>?_);obtain⟨u,rfl⟩:=hP j v hv;have H1:sG prog w g S (iQ kf j):=H.at' λo e=>kp S o nS e;show wpAny _ G.in1 (holding [Value.str (kf j) u] (setAdd S (.str (kf j) u)) >>= _) _ _ _;refine wpAny_bind (wpAny_holding ?_);unfold setAdd;refine wpAny_holding (wpAny_bind ((strKind prog w).pyHash (k:=kf j) (HN _ _) ?_));have hjl:=zli kf j;refine aaC (s:={ z with heap:=g,toks:=tk+1 }) H1 (by unfold scanBound;omega) λb g2 sb H2=>?_;refine wpAny_pure ⟨plainId_quiet PyProof.Rows.F.plain_set_update_loop _,ih (j+1) _ (by omega) (V.frame _ _ _ fV λb hf o e=>?_) H2 λg3 tk3 kp3 H3=>?_⟩
  ·rw[sb.2 b (λq=>hS (q ▸ hf))];exact e
  ·refine done g3 tk3 (λb o h1 h2 e=>kp3 b o h1 h2 ?_) H3;show g2.get? b=some o;rw[sb.2 b h2];exact kp b o h1 e
end
section
variable {prog:Program}{w:World}{A G:Around}{E:Value->Shared->Prop}{s z:Shared}
noncomputable abbrev uL (w:World):Obj:={ cls:=.type "set",dict:=none,data:=.set #[] 0 (.fresh 0 0 (!yS w)) }
theorem abe (h:Heap)(S:Addr)(e:h.get? S=some (uL w)):sG prog w h S []:=by
 refine⟨_,#[],0,.fresh 0 0 (!yS w),e,⟨rfl,rfl,rfl⟩,rfl,λe he=>by simp at he,.nil,by unfold scanBound;simp,?_,rfl,λh=>absurd rfl h⟩;cases yS w<;>rfl
theorem Zj (a:Value){Q₁:Value->Shared->Prop}(h:Q₁ (.ref s.heap.objs.size) { s with heap:=s.heap.push (uL w) }) :
  codeAny (model prog w) A (.call (.builtin "set.__new__") ⟨[.type "set",a],[]⟩) (wants Q₁ E) s:=by
 refine codeAny_of_tree (?_:wpAny _ A.in1 (do checkBuiltinCall "set.__new__" ⟨[.type "set",a],[]⟩;again (.builtin "set.__new__" ⟨[.type "set",a],[]⟩)) _ _ s);refine wpAny_bind (wpAny_of_eq (F.newCall_set_1 a) (wpAny_pure ⟨plainId_quiet F.plain_set_new _,codeAny_builtin F.entry_set_new ?_⟩));rw[Around.under_plainId F.plain_set_new _];unfold Builtin.«set.__new__» Builtin.Frozenset.newClass;have abT:=sub_set_self;obtain⟨hp,g,d,tk,os⟩:=s;dsimp only
 wp_walk
 refine wpAny_askSetting (wpAny_pure ?_);dsimp only;simp only[newObj];refine wpAny_bind (wpAny_alloc (wpAny_pure ?_));exact wpAny_pure h
set_option maxHeartbeats 3200000 in
theorem FJ {l:Addr}{items:Array Value}{Q:Value->Shared->Prop}(kf:Nat->Str)(hh:G.handled=none)(hl:z.heap.IsList l items)(hi:∀(i:Nat) (v:Value),items[i]? = some v->∃u,v=.str (kf i) u)(hn:items.size<=4000)
  (h:∀(g:Heap) (tk:Nat),sG prog w g z.heap.objs.size (iQ kf items.size)->(∀b o,b<z.heap.objs.size->z.heap.get? b=some o->g.get? b=some o)->Q (.ref z.heap.objs.size) { z with heap:=g,toks:=tk }) :
  wpAny (model prog w) G (call (.type "set") [.ref l]) Q E z:=by
 obtain⟨m1,m2,adf⟩:=F.called_set.mro;have ac0:=F.called_set.made;have abT:=F.called_set.sub;refine wpAny_call (codeAny_of_tree (?_:wpAny _ _ (callAny (.type "set") _) _ _ _));refine wpAny_pure ⟨Code.quiet_builtin _ (by decide +kernel),codeAny_builtin F.entry_type_call ?_⟩;rw[Around.under_plain (weight_type_call_type "set" [.ref l] []) rfl];have n1:=F.called_set.notType;have n2:=F.called_set.canCreate;have n3:=F.typeCall_set_1 (.ref l)
 repeat (any_goals first | assumption | wp_step)
 refine codeAny_mono (Zj (.ref l) (E:=E) (Q₁:=λv y=>v=.ref z.heap.objs.size/\y={ z with heap:=z.heap.push (uL w) }) ⟨rfl,rfl⟩) λr y hr=>?_
 match r,hr with
 | .error e,hr=>exact hr
 | .ok (.ret v),hr =>
  obtain⟨rfl,rfl⟩:=hr;have gS:(z.heap.push (uL w)).get? z.heap.objs.size=some (uL w):=gH _ rfl;have tS:Shared.TypeIs { z with heap:=z.heap.push (uL w) } (.ref z.heap.objs.size) "set":=⟨_,gS,rfl⟩;have i1:=F.called_set.init.lookup;have i2:=F.called_set.init.bind (.ref z.heap.objs.size)
  repeat (any_goals first | assumption | wp_step)
  refine codeAny_mono (codeAny_call_builtin (R:=wants (λr y2=>r=.none/\∃g tk,y2={ z with heap:=g,toks:=tk }/\sG prog w g z.heap.objs.size (iQ kf items.size)/\(∀b o,b<z.heap.objs.size->z.heap.get? b=some o->g.get? b=some o)) E) F.called_set.init.plain F.entry_set_init (check_set_init_1 tS ?_)) λr2 y2 rG=>?_
  ·obtain⟨ol,hol,uU,nl,hdl⟩:=id hl;obtain⟨ac9,Zh,acY,RZ⟩:=ol;simp only at uU hdl;subst uU hdl;have ab3:(z.heap.push (uL w)).get? l=some { cls:=.type "list",dict:=Zh,data:=.seq items nl,slots:=RZ }:=gq _ hol;have u1:=F.sub_list_set;have u2:=F.sub_list_frozenset;have u3:(Value.type "list" == Value.type "dict")=false:=by decide
   have il:(z.heap.push (uL w)).IsList l items:=⟨_,ab3,rfl,nl,rfl⟩;unfold Builtin.«set.__init__» noKeywords Builtin.Frozenset.updateFrom;generalize hIT:pyIter=IT
   wp_walk
   subst hIT;refine wpAny_pyIter_list il (wpAny_bind (wpAny_runValue ?_));have lS:l<z.heap.objs.size:=gm hol;have sz:(z.heap.push (uL w)).objs.size=z.heap.objs.size+1:=mK ..;have w1:l≠(z.heap.push (uL w)).objs.size:=gJ (by rw[sz];exact pG lS);have w2:z.heap.objs.size∉[(z.heap.push (uL w)).objs.size,l]:=λhm=>by
    rcases gk.mp hm with e | hm
    ·rw[sz]at e;exact gJ (nR _) e
    ·have e:=gG.mp hm;exact kW _ (gP lS (mX e))
   have w3:∀b:Addr,b<z.heap.objs.size->b∉[(z.heap.push (uL w)).objs.size]:=λb hb hm=>by
    have e:=gG.mp hm;rw[sz]at e;exact absurd (mX e.symm) (Nat.not_le_of_lt (pG hb))
   have V:=Walks.list (prog:=prog) (w:=w) (A:=G.in1.in1.in1) (by simp[hh]) _ l w1 items;refine Yb V z.heap.objs.size w2 kf (λi v hv=>hi i v hv) hn (items.size - 0) 0 _ (by omega) ⟨⟨_,gH _ rfl,rfl,rfl⟩,il.push _⟩ ?_ λg tk kp H=>?_
   ·exact abe _ _ (gq _ gS)
   ·refine wpAny_pure (?_:wpAny _ _ (ret Value.none) _ _ _);refine wpAny_pure ⟨rfl,g,tk,rfl,H,λb o hb e=>kp b o (w3 b hb) (gJ hb) (gq _ (gq _ e))⟩
  ·match r2,rG with
   | .error e,rG=>exact rG
   | .ok (.ret v),rG =>
    obtain⟨rfl,g,tk,rfl,q1,q2⟩:=rG
    repeat (any_goals first | assumption | wp_step)
    exact h _ _ q1 q2
   | .ok .next,rG=>exact rG.elim
   | .ok .brk,rG=>exact rG.elim
   | .ok .cont,rG=>exact rG.elim
 | .ok .next,hr=>exact hr.elim
 | .ok .brk,hr=>exact hr.elim
 | .ok .cont,hr=>exact hr.elim
end
theorem Fd:Slot "set_iterator" "__next__" "set_iterator.__next__" :=
 .of (owner:="set_iterator") (n:="__next__") (by rw[typeLookup_type,builtinLookup_eq_fast];kernel_rfl) (by decide +kernel) (by decide +kernel) (by decide +kernel)
  (by first | exact .inl (by decide +kernel) | exact .inr (by decide +kernel)) (by rw[isSubtype_type];kernel_rfl)
theorem zd1:entryFor table "set_iterator.__next__" = some Builtin.«set_iterator.__next__»:=entryFor_of_tree (by kernel_rfl)
theorem znp:Manifest.owners.lookup (String.ofList ['r','o','t','a','r','e','t','i','_','t','e','s'].reverse)=some Manifest.sig_set_iterator:=by kernel_rfl
theorem zer (a:Value):argsOk "set_iterator.__next__" ⟨[a],[]⟩:=by
 unfold argsOk;rw[signature?_of (id:="set_iterator.__next__") (n:=['_','_','t','x','e','n','_','_']) (o:=['r','o','t','a','r','e','t','i','_','t','e','s']) (by kernel_rfl) znp];kernel_rfl
theorem zf7:entryFor table "set.__iter__" = some Builtin.«frozenset.__iter__»:=entryFor_alias (id':="frozenset.__iter__") (by kernel_rfl) rfl (by decide +kernel) (by kernel_rfl)
section
variable {prog:Program}{w:World}{A G:Around}{E:Value->Shared->Prop}{s z:Shared}
noncomputable def sI (h:Heap)(I:Addr)(first:Value)(i:Nat)(a:Addr)(n ep:Nat):Prop:=∃o,h.get? I=some o/\o.cls=.type "set_iterator"/\o.data=.fields #[first,rawInt i,.ref a,rawInt n,rawInt ep]
theorem sI.typeIs {I a:Addr}{first:Value}{i n ep:Nat}(h:sI s.heap I first i a n ep):s.TypeIs (.ref I) "set_iterator":=let ⟨o,h1,h2,_⟩:=h;⟨o,h1,h2⟩
noncomputable def jd (h:Heap)(a:Addr)(es:Array (Int×Value))(ep:Nat)(t:SetTable):Prop:=∃o,h.get? a=some o/\o.data=.set es ep t/\t.fits es.size=true
theorem zn4 {I a:Addr}{f i n ep nx:Nat}{es:Array (Int×Value)}{t:SetTable}{x:Value}{Q:Option Value->Shared->Prop}(hit:sI s.heap I (rawInt f) i a n ep)(hs:jd s.heap a es ep t)(hn:es.size=n)
  (hx:∀(A':Around) (Q':Option (Value×Nat)->Shared->Prop) (E':Value->Shared->Prop),Q' (some (x,nx)) s->wpAny (model prog w) A' (setNext a f i ep) Q' E' s)
  (hQ:∀h',sI h' I (rawInt nx) (i+1) a n ep->Heap.SameBut I s.heap h'->Q (some x) { s with heap:=h' }):wpAny (model prog w) A (pyNext (.ref I)) Q E s:=by
 obtain⟨o,ho,hc,hd⟩:=id hit;obtain⟨os,yO,yp,hf⟩:=hs;unfold pyNext;refine wpAny_bind (wpAny_attempt (wpAny_callSpecial?_slot (name:=Str.ofString "__next__") hit.typeIs Fd (wpAny_call_entry Fd hit.typeIs zd1 ?_ (zer _))));show wpAny _ _ (fieldsOf (.ref I) >>= _) _ _ s;refine wpAny_bind (wpAny_fieldsOf ho hd ?_);show wpAny _ _ (setEntries a >>= _) _ _ s;refine wpAny_bind (wpAny_setEntries_of yO yp hf ?_);rw[if_neg (by rw[hn];simp)];show wpAny _ _ (setNext a (f:Int).toNat (i:Int).toNat (ep:Int).toNat >>= _) _ _ s;simp only[mC];refine wpAny_bind (hx _ _ _ ?_);show wpAny _ _ (setField (.ref I) 0 (rawInt nx) >>= _) _ _ s;refine wpAny_bind (wpAny_setField ho hd (by simp) ?_);have g1:=m9 (Obj.mapFields (·.setIfInBounds 0 (rawInt nx))) ho (Obj.isFreed_of_fields (Obj.data_mapFields hd _));have d1:=Obj.data_mapFields hd (·.setIfInBounds 0 (rawInt nx));refine wpAny_bind (wpAny_setField (s:={ s with heap:=s.heap.update I (Obj.mapFields (·.setIfInBounds 0 (rawInt nx))) }) g1 d1 (by simp) ?_);refine wpAny_pure ⟨x,rfl,wpAny_pure (hQ _ ⟨_,m9 _ g1 (Obj.isFreed_of_fields (Obj.data_mapFields d1 _)),(Obj.cls_mapFields ..).trans ((Obj.cls_mapFields ..).trans hc),?_⟩ ((Heap.SameBut.update ..).trans (Heap.SameBut.update ..)))⟩;rw[Obj.data_mapFields d1];simp[rawInt]
theorem next_end {I a:Addr}{f i n ep:Nat}{es:Array (Int×Value)}{t:SetTable}{Q:Option Value->Shared->Prop}(hh:A.handled=none)(hit:sI s.heap I (rawInt f) i a n ep)(hs:jd s.heap a es ep t)(hn:es.size=n)
  (hx:∀(A':Around) (Q':Option (Value×Nat)->Shared->Prop) (E':Value->Shared->Prop),Q' none s->wpAny (model prog w) A' (setNext a f i ep) Q' E' s)
  (hQ:∀h',Heap.ExtBut I s.heap h'->Q none { s with heap:=h' }):wpAny (model prog w) A (pyNext (.ref I)) Q E s:=by
 obtain⟨o,ho,hc,hd⟩:=id hit;obtain⟨os,yO,yp,hf⟩:=hs;unfold pyNext;refine wpAny_bind (wpAny_attempt (wpAny_callSpecial?_slot (name:=Str.ofString "__next__") hit.typeIs Fd (wpAny_call_entry Fd hit.typeIs zd1 ?_ (zer _))));show wpAny _ _ (fieldsOf (.ref I) >>= _) _ _ s;refine wpAny_bind (wpAny_fieldsOf ho hd ?_);show wpAny _ _ (setEntries a >>= _) _ _ s;refine wpAny_bind (wpAny_setEntries_of yO yp hf ?_);rw[if_neg (by rw[hn];simp)];show wpAny _ _ (setNext a (f:Int).toNat (i:Int).toNat (ep:Int).toNat >>= _) _ _ s;simp only[mC];refine wpAny_bind (hx _ _ _ ?_);show wpAny _ _ (setField (.ref I) 2 .none >>= _) _ _ s;refine wpAny_bind (wpAny_setField ho hd (by simp) ?_);show wpAny _ _ (newExc (.type "StopIteration") [] >>= _) _ _ _;refine wpAny_bind ?_;simp only[newExc,newTuple];refine wpAny_bind (wpAny_newObj_type ?_ (by size_fits));refine wpAny_bind (m:=firstArgMember _ _) (wpAny_of_eq (a:=Value.none) (by first | rfl | (simp only[firstArgMember];rfl)) ?_);refine wpAny_newObj_type ?_ (by size_fits);refine wpAny_raiseNew_none hh ?_;refine wpAny_bind (wpAny_isInstance (T:="StopIteration") (b:=true) ⟨_,gH _ rfl,rfl⟩ isSubtype_stop ?_);exact wpAny_pure (hQ _ (((Heap.SameBut.update ..).extBut.push _).push _))
noncomputable def TupAt (h:Heap)(T:Addr)(ps:List Nat):Prop:=∃o e,h.get? T=some o/\o.data=.seq (ps.map λi:Nat=>rawInt i).toArray e
theorem zmj {I a T:Addr}{i n ep p:Nat}{ps:List Nat}{es:Array (Int×Value)}{t:SetTable}{x:Int×Value}{Q:Option Value->Shared->Prop}(hit:sI s.heap I (.ref T) i a n ep)(ht:TupAt s.heap T ps)(hs:jd s.heap a es ep t)(hn:es.size=n)(hp:ps[i]? = some p)(hx:es[p]? = some x)
  (hQ:∀h',sI h' I (.ref T) (i+1) a n ep->Heap.SameBut I s.heap h'->Q (some x.2) { s with heap:=h' }):wpAny (model prog w) A (pyNext (.ref I)) Q E s:=by
 obtain⟨o,ho,hc,hd⟩:=id hit;obtain⟨os,yO,yp,hf⟩:=hs;obtain⟨ot,et,hot,PK⟩:=ht;unfold pyNext;refine wpAny_bind (wpAny_attempt (wpAny_callSpecial?_slot (name:=Str.ofString "__next__") hit.typeIs Fd (wpAny_call_entry Fd hit.typeIs zd1 ?_ (zer _))));show wpAny _ _ (fieldsOf (.ref I) >>= _) _ _ s;refine wpAny_bind (wpAny_fieldsOf ho hd ?_);show wpAny _ _ (setEntries a >>= _) _ _ s;refine wpAny_bind (wpAny_setEntries_of yO yp hf ?_);rw[if_neg (by rw[hn];simp)];show wpAny _ _ (seqItems? (.ref T) >>= _) _ _ s;refine wpAny_bind (wpAny_seqItems hot PK ?_);have e1:(ps.map λi:Nat=>rawInt i).toArray[(i:Int).toNat]? = some (rawInt p):=by simp[hp]
 simp only[e1];show wpAny _ _ (setNextDrawn a (p:Int).toNat (ep:Int).toNat >>= _) _ _ s;simp only[mC];unfold setNextDrawn;refine wpAny_bind (wpAny_bind (wpAny_setState_of yO yp hf ?_));dsimp only;rw[if_neg (by simp),hx];refine wpAny_pure ?_;refine wpAny_bind (wpAny_setField ho hd (by simp) ?_);refine wpAny_pure ⟨x.2,rfl,wpAny_pure (hQ _ ⟨_,m9 _ ho (Obj.isFreed_of_fields (Obj.data_mapFields hd _)),(Obj.cls_mapFields ..).trans hc,?_⟩ (Heap.SameBut.update ..))⟩;rw[Obj.data_mapFields hd];simp[rawInt]
theorem zin {I a T:Addr}{i n ep:Nat}{ps:List Nat}{es:Array (Int×Value)}{t:SetTable}{Q:Option Value->Shared->Prop}(hh:A.handled=none)(hit:sI s.heap I (.ref T) i a n ep)(ht:TupAt s.heap T ps)(hs:jd s.heap a es ep t)(hn:es.size=n)(hp:ps[i]? = none)
  (hQ:∀h',Heap.ExtBut I s.heap h'->Q none { s with heap:=h' }):wpAny (model prog w) A (pyNext (.ref I)) Q E s:=by
 obtain⟨o,ho,hc,hd⟩:=id hit;obtain⟨os,yO,yp,hf⟩:=hs;obtain⟨ot,et,hot,PK⟩:=ht;unfold pyNext;refine wpAny_bind (wpAny_attempt (wpAny_callSpecial?_slot (name:=Str.ofString "__next__") hit.typeIs Fd (wpAny_call_entry Fd hit.typeIs zd1 ?_ (zer _))));show wpAny _ _ (fieldsOf (.ref I) >>= _) _ _ s;refine wpAny_bind (wpAny_fieldsOf ho hd ?_);show wpAny _ _ (setEntries a >>= _) _ _ s;refine wpAny_bind (wpAny_setEntries_of yO yp hf ?_);rw[if_neg (by rw[hn];simp)];show wpAny _ _ (seqItems? (.ref T) >>= _) _ _ s;refine wpAny_bind (wpAny_seqItems hot PK ?_);have e1:(ps.map λi:Nat=>rawInt i).toArray[(i:Int).toNat]? = none:=by simpa using hp
 simp only[e1];refine wpAny_bind (wpAny_setField ho hd (by simp) ?_);have g1:=m9 (Obj.mapFields (·.setIfInBounds 0 (rawInt 0))) ho (Obj.isFreed_of_fields (Obj.data_mapFields hd _));have d1:=Obj.data_mapFields hd (·.setIfInBounds 0 (rawInt 0));refine wpAny_bind (wpAny_setField (s:={ s with heap:=s.heap.update I (Obj.mapFields (·.setIfInBounds 0 (rawInt 0))) }) g1 d1 (by simp) ?_);refine wpAny_bind ?_;simp only[newExc,newTuple];refine wpAny_bind (wpAny_newObj_type ?_ (by size_fits));refine wpAny_bind (m:=firstArgMember _ _) (wpAny_of_eq (a:=Value.none) (by first | rfl | (simp only[firstArgMember];rfl)) ?_);refine wpAny_newObj_type ?_ (by size_fits);refine wpAny_raiseNew_none hh ?_;refine wpAny_bind (wpAny_isInstance (T:="StopIteration") (b:=true) ⟨_,gH _ rfl,rfl⟩ isSubtype_stop ?_);exact wpAny_pure (hQ _ ((((Heap.SameBut.update ..).trans (Heap.SameBut.update ..)).extBut.push _).push _))
end
theorem zg5:Slot "set_iterator" "__iter__" "set_iterator.__iter__" :=
 .of (owner:="set_iterator") (n:="__iter__") (by rw[typeLookup_type,builtinLookup_eq_fast];kernel_rfl) (by decide +kernel) (by decide +kernel) (by decide +kernel)
  (by first | exact .inl (by decide +kernel) | exact .inr (by decide +kernel)) (by rw[isSubtype_type];kernel_rfl)
theorem zi4:entryFor table "set_iterator.__iter__" = some Builtin.«dict_keyiterator.__iter__»:=entryFor_alias (id':="dict_keyiterator.__iter__") (by kernel_rfl) rfl (by decide +kernel) (by kernel_rfl)
theorem zkg (a:Value):argsOk "set_iterator.__iter__" ⟨[a],[]⟩:=by
 unfold argsOk;rw[signature?_of (id:="set_iterator.__iter__") (n:=['_','_','r','e','t','i','_','_']) (o:=['r','o','t','a','r','e','t','i','_','t','e','s']) (by kernel_rfl) znp];kernel_rfl
theorem ze4 {α:Type}:∀(l:List α) (i:Nat) (x:α),l[i]? = some x->List.Perm l (x::l.eraseIdx i)
 | [],i,x,h=>by simp at h
 | y::l,0,x,h=>by
  simp only[nY,Option.some.injEq]at h;subst h;exact .rfl
 | y::l,i+1,x,h=>by
  rw[mF]at h;rw[List.eraseIdx_cons_succ];exact ((ze4 l i x h).cons y).trans (List.Perm.swap ..)
theorem Ag {α:Type}(next:Nat->Nat):∀(fuel k:Nat) (left:List α) (out:Array α),left.length=fuel->List.Perm (pickOrder.go next fuel k left out).toList (out.toList++left)
 | 0,k,left,out,h=>by
  have:left=[]:=pH.mp h;subst this;rw[pickOrder.go,gZ]
 | fuel+1,k,left,out,h=>by
  rw[pickOrder.go];have yQ:next k % left.length<left.length:=Nat.mod_lt _ (by omega);rw[gM yQ];dsimp only;refine (Ag next fuel (k+1) _ _ (by rw[List.length_eraseIdx_of_lt yQ];omega)).trans ?_;rw[Array.toList_push,gO];exact List.Perm.append_left _ (ze4 left _ _ (gM yQ)).symm
theorem zix {α:Type}(next:Nat->Nat)(xs:Array α):List.Perm (pickOrder next xs).toList xs.toList:=by
 have:=Ag next xs.size 0 xs.toList #[] (by simp);simpa[pickOrder] using this
section
variable {prog:Program}{w:World}{A G:Around}{E:Value->Shared->Prop}{s z:Shared}
theorem DN {src:Source}{n:Nat}{Q:Nat->Shared->Prop}(hn:n≠0)(h:∀i d,i<n->Q i { s with drawn:=d }):wpAny (model prog w) A (choose src n) Q E s:=by
 intro Γ p hΓ;show Sem.wp _ _ (.choose src n _) _ _ _ _;rw[Sem.wp_choose];exact⟨hn,h _ _ (Nat.mod_lt _ (Nat.pos_of_ne_zero hn))⟩
theorem Bd {α:Type}:∀(n:Nat) (xs:List α) (s:Shared) (Q:List α->Shared->Prop),xs.length=n->(∀ys d,List.Perm ys xs->Q ys { s with drawn:=d })->wpAny (model prog w) A (drawOrder n xs) Q E s
 | 0,xs,s,Q,hl,h=>by
  have:xs=[]:=pH.mp hl;subst this;exact wpAny_pure (h [] s.drawn .nil)
 | n+1,[],s,Q,hl,h=>by simp at hl
 | n+1,x::xs,s,Q,hl,h=>by
  unfold drawOrder;refine wpAny_bind (DN (by simp) λi d hi=>?_);rw[gM hi];dsimp only;refine wpAny_bind (Bd n _ _ _ (by rw[List.length_eraseIdx_of_lt hi];simp at hl ⊢;omega) λys d2 hp=>?_);exact wpAny_pure (h _ d2 ((hp.cons _).trans (ze4 (x::xs) i _ (gM hi)).symm))
theorem zn6 {I a:Addr}{first:Value}{i n ep:Nat}{Q:Value->Shared->Prop}(hit:sI s.heap I first i a n ep)(h:Q (.ref I) s):wpAny (model prog w) A (pyIter (.ref I)) Q E s:=by
 refine wpAny_pyIter_slot hit.typeIs zg5 (wpAny_call_entry zg5 hit.typeIs zi4 ?_ (zkg _));show wpAny _ _ (ret (.ref I)) _ _ s;exact wpAny_pure ⟨_,rfl,"set_iterator",_,hit.typeIs,Fd.lookup,h⟩
theorem sI.at' {h h':Heap}{I a:Addr}{first:Value}{i n ep:Nat}(H:sI h I first i a n ep)(hk:∀o,h.get? I=some o->h'.get? I=some o):sI h' I first i a n ep:=let ⟨o,h1,h2⟩:=H;⟨o,hk _ h1,h2⟩
theorem jd.at' {h h':Heap}{a:Addr}{es:Array (Int×Value)}{ep:Nat}{t:SetTable}(H:jd h a es ep t)(hk:∀o,h.get? a=some o->h'.get? a=some o):jd h' a es ep t:=let ⟨o,h1,h2⟩:=H;⟨o,hk _ h1,h2⟩
theorem TupAt.at' {h h':Heap}{T:Addr}{ps:List Nat}(H:TupAt h T ps)(hk:∀o,h.get? T=some o->h'.get? T=some o):TupAt h' T ps:=let ⟨o,e,h1,h2⟩:=H;⟨o,e,hk _ h1,h2⟩
theorem zgz {Q:Bool->Shared->Prop}(h:Q (yS w) s):wpAny (model prog w) A setsByText Q E s:=by
 unfold setsByText;exact wpAny_bind (wpAny_askSetting (wpAny_pure h))
theorem zlj {a:Addr}{f i ep:Nat}{es:Array (Int×Value)}{t:SetTable}{Q:Option (Value×Nat)->Shared->Prop}(hb:yS w=true)(hs:jd s.heap a es ep t)
  (h:Q (((pickOrder (w.params.setOrder a ep) es)[i]?).map λe=>(e.2,f)) s):wpAny (model prog w) A (setNext a f i ep) Q E s:=by
 obtain⟨o,ho,hd,hf⟩:=hs;unfold setNext;refine wpAny_bind (wpAny_setState_of ho hd hf ?_);dsimp only;refine wpAny_bind (zgz ?_);rw[hb,if_pos rfl,if_neg (by simp)];refine wpAny_bind ?_;unfold setWalk;refine wpAny_bind (wpAny_setState_of ho hd hf ?_);dsimp only;refine wpAny_bind (zgz ?_);rw[hb,if_pos rfl];refine wpAny_bind (wpAny_askSetting (wpAny_pure ?_));exact wpAny_pure h
noncomputable def yf (es:Array (Int×Value))(t:SetTable)(f:Nat):Option (Value×Nat):=match es[below t.place f]?,t.place[below t.place f]? with
 | some (_,x),some j=>some (x,j+1)
 | _,_=>none
theorem zm5 {a:Addr}{f i ep:Nat}{es:Array (Int×Value)}{t:SetTable}{Q:Option (Value×Nat)->Shared->Prop}(hb:yS w=false)(hs:jd s.heap a es ep t)(hl:t.led=true)(hd2:(!t.plain && decide (es.size > 1))=false)
  (h:Q (yf es t f) s):wpAny (model prog w) A (setNext a f i ep) Q E s:=by
 obtain⟨o,ho,hd,hf⟩:=hs;unfold setNext;refine wpAny_bind (wpAny_setState_of ho hd hf ?_);dsimp only;refine wpAny_bind (zgz ?_);rw[hb,if_neg (by simp)];refine wpAny_ite_split (λEp=>absurd (show (!t.plain && decide (es.size > 1))=true from Ep) (by rw[hd2];simp)) (λ_=>?_);refine wpAny_bind ?_;show wpAny _ _ (if (!t.led && !es.isEmpty)=true then unsupported "set:maker-not-led" else pure ()) _ _ s;rw[if_neg (by rw[hl];simp)];exact wpAny_pure (wpAny_pure h)
end
section
variable {prog:Program}{w:World}{A G:Around}{E:Value->Shared->Prop}{s z:Shared}
theorem Bs (hb:yS w=true)(hh:A.handled=none)(I a:Addr)(qY:a≠I)(es:Array (Int×Value))(ep:Nat)(t:SetTable) :
  Walks prog w A I [I,a] [I] es.size (λi v=>((pickOrder (w.params.setOrder a ep) es)[i]?).map (·.2)=some v) (λi h=>sI h I (rawInt (0:Nat)) i a es.size ep/\jd h a es ep t) where
 sub:=λb hb=>by simp at hb;simp[hb]
 frame:=λ_ _ _ st hk=>⟨st.1.at' λo e=>hk I (by simp) o e,st.2.at' λo e=>hk a (by simp) o e⟩
 item:=λi s Q E hi st hQ=>by
  have hsz:(pickOrder (w.params.setOrder a ep) es).size=es.size:=by have:=(zix (w.params.setOrder a ep) es).length_eq;simpa using this
  have hx:(pickOrder (w.params.setOrder a ep) es)[i]? = some (pickOrder (w.params.setOrder a ep) es)[i]:=kO (by omega);refine zn4 (nx:=0) (x:=((pickOrder (w.params.setOrder a ep) es)[i]).2) st.1 st.2 rfl (λA' Q' E' h=>zlj hb st.2 (by rw[hx];exact h)) λh' hit sb=>?_;exact hQ _ h' s.toks (by rw[hx];rfl) ⟨hit,st.2.at' λo e=>by rw[sb.2 a qY];exact e⟩ λb o xY e=>by rw[sb.2 b (λq=>xY (by simp[q]))];exact e
 done:=λs Q E st hQ=>by
  have hsz:(pickOrder (w.params.setOrder a ep) es).size=es.size:=by have:=(zix (w.params.setOrder a ep) es).length_eq;simpa using this
  refine next_end hh st.1 st.2 rfl (λA' Q' E' h=>zlj hb st.2 (by rw[m_ (by omega)];exact h)) λh' eb=>?_;exact hQ h' s.toks λb o xY e=>eb b o (λq=>xY (by simp[q])) e
 self:=λ_ _ _ _ st hQ=>zn6 st.1 hQ
theorem Jm (xs:Array Nat)(h:xs.size<=1):below xs 0=0:=by
 unfold below;rcases (show xs.size=0\/xs.size=1 by omega) with e | e
 ·rw[e];rfl
 ·rw[e];simp[below.go]
theorem Uu (xs:Array Nat)(j:Nat)(h:xs.size=1)(hj:xs[0]? = some j):below xs (j+1)=1:=by
 unfold below;rw[h];have:xs.getD 0 (j+1)=j:=by
  rw[ni,hj];rfl
 simp[below.go,this]
theorem Fg (hb:yS w=false)(hh:A.handled=none)(I a:Addr)(qY:a≠I)(es:Array (Int×Value))(ep:Nat)(t:SetTable)(hl:t.led=true)(h1:es.size<=1)(hf:t.place.size=es.size) :
  Walks prog w A I [I,a] [I] es.size (λi v=>(es[i]?).map (·.2)=some v) (λi h=>sI h I (rawInt ((if i=0 then 0 else t.place.getD 0 0+1:Nat):Int)) i a es.size ep/\jd h a es ep t) where
 sub:=λb hb=>by simp at hb;simp[hb]
 frame:=λ_ _ _ st hk=>⟨st.1.at' λo e=>hk I (by simp) o e,st.2.at' λo e=>hk a (by simp) o e⟩
 item:=λi s Q E hi st hQ=>by
  obtain rfl:i=0:=by omega
  have e1:es.size=1:=by omega
  have hp0:t.place[0]? = some t.place[0]:=kO (by omega);have he0:es[0]? = some es[0]:=kO (by omega);have hgd:t.place.getD 0 0=t.place[0]:=by rw[ni,hp0];rfl
  have hnx:yf es t 0=some (es[0].2,t.place[0]+1):=by
   unfold yf;rw[Jm _ (by omega),hp0,he0]
  refine zn4 (f:=0) (nx:=t.place[0]+1) (x:=es[0].2) (by simpa using st.1) st.2 rfl (λA' Q' E' h=>zm5 hb st.2 hl (by simp;omega) (by rw[hnx];exact h)) λh' hit sb=>?_;refine hQ _ h' s.toks (by rw[he0];rfl) ⟨?_,st.2.at' λo e=>by rw[sb.2 a qY];exact e⟩ λb o xY e=>by rw[sb.2 b (λq=>xY (by simp[q]))];exact e
  rw[if_neg (by omega),hgd];exact hit
 done:=λs Q E st hQ=>by
  have key:yf es t (if es.size=0 then 0 else t.place.getD 0 0+1)=none:=by
   unfold yf;rcases (show es.size=0\/es.size=1 by omega) with e | e
   ·rw[if_pos e,Jm _ (by omega),m_ (by omega)]
   ·have hp0:t.place[0]? = some t.place[0]:=kO (by omega);have hgd:t.place.getD 0 0=t.place[0]:=by rw[ni,hp0];rfl
    rw[if_neg (by omega),hgd,Uu _ _ (by omega) hp0,m_ (by omega)]
  refine next_end hh st.1 st.2 rfl (λA' Q' E' h=>zm5 hb st.2 hl (by simp;omega) (by rw[key];exact h)) λh' eb=>?_;exact hQ h' s.toks λb o xY e=>eb b o (λq=>xY (by simp[q])) e
 self:=λ_ _ _ _ st hQ=>zn6 st.1 hQ
theorem zmn (hh:A.handled=none)(I a T:Addr)(qY:a≠I)(hnT:T≠I)(es:Array (Int×Value))(ep:Nat)(t:SetTable)(ps:List Nat)(hp:List.Perm ps (List.range es.size)) :
  Walks prog w A I [I,a,T] [I] es.size (λi v=>∃p x,ps[i]? = some p/\es[p]? = some x/\v=x.2) (λi h=>sI h I (.ref T) i a es.size ep/\jd h a es ep t/\TupAt h T ps) where
 sub:=λb hb=>by simp at hb;simp[hb]
 frame:=λ_ _ _ st hk=>⟨st.1.at' λo e=>hk I (by simp) o e,st.2.1.at' λo e=>hk a (by simp) o e,st.2.2.at' λo e=>hk T (by simp) o e⟩
 item:=λi s Q E hi st hQ=>by
  have hl:ps.length=es.size:=by have:=hp.length_eq;simpa using this
  have hpi:ps[i]? = some ps[i]:=gM (by omega);have jW:ps[i]<es.size:=by have:=hp.mem_iff.mp (m6 (h:=by omega):ps[i]∈ps);simpa using this
  have hx:es[ps[i]]? = some es[ps[i]]:=kO jW;refine zmj st.1 st.2.2 st.2.1 rfl hpi hx λh' hit sb=>?_;exact hQ _ h' s.toks ⟨_,_,hpi,hx,rfl⟩ ⟨hit,st.2.1.at' λo e=>by rw[sb.2 a qY];exact e,st.2.2.at' λo e=>by rw[sb.2 T hnT];exact e⟩ λb o xY e=>by rw[sb.2 b (λq=>xY (by simp[q]))];exact e
 done:=λs Q E st hQ=>by
  have hl:ps.length=es.size:=by have:=hp.length_eq;simpa using this
  refine zin hh st.1 st.2.2 st.2.1 rfl (pM (by omega)) λh' eb=>?_;exact hQ h' s.toks λb o xY e=>eb b o (λq=>xY (by simp[q])) e
 self:=λ_ _ _ _ st hQ=>zn6 st.1 hQ
end
section
variable {prog:Program}{w:World}{A G:Around}{E:Value->Shared->Prop}{s z:Shared}
theorem ziw {a:Addr}{es:Array (Int×Value)}{ep:Nat}{t:SetTable}{Q:Bool->Shared->Prop}(hs:jd s.heap a es ep t)(h:Q (!yS w && (!t.plain && decide (es.size > 1))) s):wpAny (model prog w) A (setDrawn a) Q E s:=by
 obtain⟨o,ho,hd,hf⟩:=hs;unfold setDrawn;refine wpAny_bind (wpAny_setState_of ho hd hf ?_);dsimp only;refine wpAny_bind (zgz ?_);exact wpAny_pure h
noncomputable abbrev itO (first:Value)(a:Addr)(n ep:Nat):Obj:={ cls:=.type "set_iterator",data:=.fields #[first,rawInt (0:Nat),.ref a,rawInt n,rawInt ep] }
noncomputable abbrev QT (ps:List Nat):Obj:=PyProof.Rows.seqObj "tuple" (ps.map λi:Nat=>rawInt i).toArray 0
theorem zj1 {a:Addr}{es:Array (Int×Value)}{ep:Nat}{t:SetTable}{Q:Value->Shared->Prop}(hT:s.TypeIs (.ref a) "set")(hs:jd s.heap a es ep t)(PN:(!yS w && (!t.plain && decide (es.size > 1)))=false)
  (h:Q (.ref s.heap.objs.size) { s with heap:=s.heap.push (itO (rawInt (0:Nat)) a es.size ep) }):wpAny (model prog w) A (pyIter (.ref a)) Q E s:=by
 have oZ:=hs;obtain⟨o,ho,hd,hf⟩:=hs;refine wpAny_pyIter_slot hT F.slot_set_iter (wpAny_call_entry F.slot_set_iter hT zf7 ?_ (F.args_set_iter_1 _));show wpAny _ _ (Builtin.Frozenset.sizeOf a >>= _) _ _ s;unfold Builtin.Frozenset.sizeOf;refine wpAny_bind (wpAny_bind (wpAny_setEntries_of ho hd hf (wpAny_pure ?_)));refine wpAny_bind (ziw oZ ?_);rw[PN,if_neg (by simp)];refine wpAny_bind (wpAny_pure ?_);refine wpAny_bind (wpAny_setEpoch_of ho hd hf ?_);exact wpAny_bind (wpAny_newObj_type (wpAny_pure ⟨_,rfl,"set_iterator",_,⟨_,gH _ rfl,rfl⟩,Fd.lookup,h⟩))
theorem zmk {a:Addr}{es:Array (Int×Value)}{ep:Nat}{t:SetTable}{Q:Value->Shared->Prop}(hT:s.TypeIs (.ref a) "set")(hs:jd s.heap a es ep t)(PN:(!yS w && (!t.plain && decide (es.size > 1)))=true)(hz:es.size<scanBound)
  (h:∀ps d,List.Perm ps (List.range es.size)->Q (.ref (s.heap.push (QT ps)).objs.size) { s with heap:=(s.heap.push (QT ps)).push (itO (.ref s.heap.objs.size) a es.size ep),drawn:=d }):wpAny (model prog w) A (pyIter (.ref a)) Q E s:=by
 have oZ:=hs;obtain⟨o,ho,hd,hf⟩:=hs;refine wpAny_pyIter_slot hT F.slot_set_iter (wpAny_call_entry F.slot_set_iter hT zf7 ?_ (F.args_set_iter_1 _));show wpAny _ _ (Builtin.Frozenset.sizeOf a >>= _) _ _ s;unfold Builtin.Frozenset.sizeOf;refine wpAny_bind (wpAny_bind (wpAny_setEntries_of ho hd hf (wpAny_pure ?_)));refine wpAny_bind (ziw oZ ?_);rw[PN,if_pos rfl];refine wpAny_bind (Bd es.size (List.range es.size) _ _ (List.length_range) λps d hp=>?_);refine wpAny_bind (wpAny_newTuple ?_ (by rw[gf,hp.length_eq,List.length_range];exact fits_of_scanBound hz));have En:=gq (PyProof.Rows.seqObj "tuple" (ps.map λi:Nat=>rawInt i).toArray 0) ho;refine wpAny_bind (wpAny_setEpoch_of (s:={ s with heap:=s.heap.push (PyProof.Rows.seqObj "tuple" (ps.map λi:Nat=>rawInt i).toArray 0),drawn:=d }) En hd hf ?_);exact wpAny_bind (wpAny_newObj_type (wpAny_pure ⟨_,rfl,"set_iterator",_,⟨_,gH _ rfl,rfl⟩,Fd.lookup,h ps d hp⟩))
end
section
variable {prog:Program}{w:World}{A G:Around}{E:Value->Shared->Prop}{s z:Shared}
theorem Ig {a:Addr}{Q:Bool->Shared->Prop}(hT:s.TypeIs (.ref a) "set")(h:Q false s):wpAny (model prog w) A (Builtin.List.listLengthHint (.ref a)) Q E s:=by
 unfold Builtin.List.listLengthHint;refine wpAny_bind (wpAny_specialOf hT F.slot_set_len.lookup ?_);generalize hid:("set.__len__":String)=id0
 wp_delta
 rw[show splitId id0=some ("set","__len__") from by subst hid;decide +kernel];subst hid;refine wpAny_bind (wpAny_isInstance (T:="set") (b:=true) hT sub_set_self ?_);refine wpAny_ite_split (λEp=>absurd Ep (by decide)) (λ_=>?_);refine wpAny_ite_split (λ_=>?_) (λEp=>absurd (by decide +kernel) Ep);refine wpAny_bind (wpAny_typeOf hT ?_);exact wpAny_pure h
noncomputable def Uw (prog:Program)(w:World)(A:Around)(s s1:Shared)(I a:Addr)(es:Array (Int×Value)):Prop :=
 ∃(fp wr:List Addr) (P:Nat->Value->Prop) (St:Nat->Heap->Prop),Walks prog w A I fp wr es.size P St/\St 0 s1.heap/\(∀b∈wr,s.heap.objs.size<=b)/\(∃h d,s1={ s with heap:=h,drawn:=d }) /\
  (∀b o,s.heap.get? b=some o->s1.heap.get? b=some o)/\(∀b∈fp,b=a\/s.heap.objs.size<=b)/\∀acc,ItemsOf P acc es.size->List.Perm acc.toList (es.toList.map (·.2))
theorem zhn {P:Nat->Value->Prop}{acc:Array Value}{l:List Value}(h:ItemsOf P acc l.length)(hP:∀i v,P i v->l[i]? = some v):acc.toList=l:=by
 obtain⟨h1,h2⟩:=h;refine ph λi=>?_;rw[nA];by_cases hi:i<acc.size
 ·have e:=kO hi;rw[e,hP i _ (h2 i _ e)]
 ·rw[m_ (by omega),pM (by omega)]
theorem HF {a:Addr}{es:Array (Int×Value)}{ep:Nat}{t:SetTable}{Q:Value->Shared->Prop}(hh:A.handled=none)(hT:s.TypeIs (.ref a) "set")(hs:jd s.heap a es ep t)(hz:es.size<scanBound)(xx:t.led=!yS w)(jW:es.size≠0->t.plain=false)
  (h:∀I s1,Uw prog w A s s1 I a es->Q (.ref I) s1):wpAny (model prog w) A (pyIter (.ref a)) Q E s:=by
 have M8:a<s.heap.objs.size:=by obtain⟨o,ho,_⟩:=hs;exact gm ho
 have qY:a≠s.heap.objs.size:=gJ M8;have hfp:t.place.size=es.size:=by
  obtain⟨o,ho,hd,hf⟩:=hs;simp only[SetTable.fits,mq,beq_iff_eq]at hf;exact hf.1
 cases hb:yS w with
 | true =>
  refine zj1 hT hs (by rw[hb];rfl) (h _ _ ⟨_,_,_,_,Bs hb hh s.heap.objs.size a qY es ep t,⟨⟨_,gH _ rfl,rfl,rfl⟩,hs.at' λo e=>gq _ e⟩,by simp,⟨_,s.drawn,rfl⟩,λb o e=>gq _ e,λb hb=>?_,λacc ha=>?_⟩)
  ·simp only[gk,mz,or_false]at hb;rcases hb with rfl | rfl
   ·exact .inr (gh _)
   ·exact .inl rfl
  ·have hp:=zix (w.params.setOrder a ep) es;have hl:((pickOrder (w.params.setOrder a ep) es).toList.map (·.2)).length=es.size:=by rw[gf,hp.length_eq,g_]
   rw[zhn (l:=(pickOrder (w.params.setOrder a ep) es).toList.map (·.2)) (by rw[hl];exact ha) λi v hv=>by
    rw[gF,nA];exact hv]
   exact hp.map _
 | false =>
  cases PN:(!t.plain && decide (es.size > 1)) with
  | true =>
   refine zmk hT hs (by rw[hb,PN];rfl) hz λps d hp=>h _ _ ⟨_,_,_,_,zmn hh (s.heap.push (QT ps)).objs.size a s.heap.objs.size (by rw[mK];exact gJ (pG M8)) (by rw[mK];exact gJ (nR _)) es ep t ps hp,⟨⟨_,gH _ rfl,rfl,rfl⟩,hs.at' λo e=>gq _ (gq _ e),⟨_,0,gq _ (gH _ rfl),rfl⟩⟩,?_,⟨_,d,rfl⟩,λb o e=>gq _ (gq _ e),λb hb=>?_,λacc ha=>?_⟩
   ·intro b hb;rw[gG.mp hb,mK];exact Nat.le_succ _
   ·simp only[gk,mz,or_false]at hb;rcases hb with rfl | rfl | rfl
    ·exact .inr (by rw[mK];exact Nat.le_succ _)
    ·exact .inl rfl
    ·exact .inr (gh _)
   ·have hl:(ps.map λp=>((es[p]?).map (·.2)).getD .none).length=es.size:=by rw[gf,hp.length_eq,List.length_range]
    rw[zhn (l:=ps.map λp=>((es[p]?).map (·.2)).getD .none) (by rw[hl];exact ha) λi v hv=>by
     obtain⟨p,x,h1,h2,rfl⟩:=hv;rw[gF,h1,nu,h2];rfl]
    refine (hp.map _).trans (.of_eq ?_);refine ph λi=>?_;rw[gF,gF,show es.toList[i]? = es[i]? from nA ..];by_cases hi:i<es.size
    ·rw[List.getElem?_range hi,kO hi];simp[kO hi]
    ·rw[pM (by simp;omega),m_ (by omega)];rfl
  | false =>
   have h1:es.size<=1:=by
    by_cases h0:es.size=0
    ·omega
    ·rw[jW h0]at PN;simpa using PN
   refine zj1 hT hs (by rw[PN];simp) (h _ _ ⟨_,_,_,_,Fg hb hh s.heap.objs.size a qY es ep t (by rw[xx,hb];rfl) h1 hfp,⟨⟨_,gH _ rfl,rfl,rfl⟩,hs.at' λo e=>gq _ e⟩,by simp,⟨_,s.drawn,rfl⟩,λb o e=>gq _ e,λb hb=>?_,λacc ha=>?_⟩)
   ·simp only[gk,mz,or_false]at hb;rcases hb with rfl | rfl
    ·exact .inr (gh _)
    ·exact .inl rfl
   ·rw[zhn (l:=es.toList.map (·.2)) (by rw[gf,g_];exact ha) λi v hv=>by
     rw[gF,nA];exact hv]
theorem zly {a:Addr}{l:List Str}{Q:List Value->Shared->Prop}(hh:A.handled=none)(hS:sG prog w s.heap a l)
  (hQ:∀vs h' d tk,(∀v∈vs,∃x u,v=.str x u)->List.Perm (vs.map tx) l->(∀b o,s.heap.get? b=some o->h'.get? b=some o)->s.heap.objs.size<h'.objs.size->Q vs { s with heap:=h',drawn:=d,toks:=tk }) :
  wpAny (model prog w) A (collect (.ref a)) Q E s:=by
 obtain⟨o,es,ep,t,ho,hex,hd,J_,Pq,hb,hf,xx,jW⟩:=hS;have hlen:es.size=l.length:=by rw[<-Pq.length_eq,gf,g_]
 have M8:=gm ho;unfold collect;refine wpAny_bind (wpAny_runValue (codeAny_builtin F.entry_proto_collect ?_));rw[Around.under_plainId F.plain_proto_collect _];show wpAny _ A.in1 (newList [] >>= λl=>again (.builtin "list.__iadd__" ⟨[l,.ref a],[]⟩)) _ _ s;refine wpAny_bind (wpAny_newObj_type ?_);refine wpAny_pure ⟨plainId_quiet F.plain_list_iadd _,codeAny_builtin F.entry_list_iadd ?_⟩;rw[Around.under_plainId F.plain_list_iadd _];show wpAny _ A.in1 (Builtin.List.listExtendWith (.ref s.heap.objs.size) (.ref a) (.ref s.heap.objs.size)) _ _ _;unfold Builtin.List.listExtendWith;have ho1:=gq { cls:=.type "list",data:=.seq ([]:List Value).toArray } ho;have hT1:Shared.TypeIs { s with heap:=s.heap.push { cls:=.type "list",data:=.seq ([]:List Value).toArray } } (.ref a) "set":=⟨o,ho1,hex.1⟩;refine wpAny_bind (wpAny_typeOf hT1 ?_);have h1:Builtin.List.listSameRef (.ref s.heap.objs.size) (.ref a)=false:=by
  have:s.heap.objs.size≠a:=Nat.ne_of_gt M8;simp[Builtin.List.listSameRef,this]
 have h2:(Value.type "set" == Value.type "list")=false:=by decide
 have h3:(Value.type "set" == Value.type "tuple")=false:=by decide
 simp only[h1,h2,h3,Bool.or_false,nW,if_false];refine wpAny_bind (HF hh hT1 ⟨o,ho1,hd,hf⟩ hb xx (λh0=>jW (by intro e;rw[e]at hlen;exact h0 hlen)) λI s1 hW=>?_);obtain⟨fp,wr,P,St,W,wO,hwr,⟨g,dd,rfl⟩,hkp,hfp,acj⟩:=hW;have Ib:(s.heap.push { cls:=.type "list",data:=.seq ([]:List Value).toArray }).objs.size=s.heap.objs.size+1:=mK ..;have hLf:s.heap.objs.size∉fp:=λhm=>by
  rcases hfp _ hm with e | e
  ·exact Nat.ne_of_gt M8 e
  ·change (s.heap.push { cls:=.type "list",data:=.seq ([]:List Value).toArray }).objs.size<=_ at e;rw[Ib]at e;exact absurd e (Nat.not_succ_le_self _)
 have hLw:s.heap.objs.size∉wr:=λhm=>hLf (W.sub _ hm);have Wi:g.get? s.heap.objs.size=some { cls:=.type "list",data:=.seq ([]:List Value).toArray }:=hkp _ _ (gH _ rfl);have hold:∀b o,s.heap.get? b=some o->g.get? b=some o:=λb o e=>hkp b o (gq _ e);have hT2:Shared.TypeIs { s with heap:=g,drawn:=dd } (.ref a) "set":=⟨o,hold a o ho,hex.1⟩;refine wpAny_bind (wpAny_holding (Ig hT2 ?_));have fin:∀(R:Result->Shared->Prop) (g1:Heap) (c:Nat),(∀(vs:List Value) (h':Heap) (tk c':Nat),(∀v∈vs,∃x u,v=Value.str x u)->List.Perm (vs.map tx) l->(∀b o,s.heap.get? b=some o->h'.get? b=some o)->h'.get? s.heap.objs.size=some { cls:=.type "list",data:=.seq vs.toArray c' }->R (.ok (.ret (.ref s.heap.objs.size))) { s with heap:=h',drawn:=dd,toks:=tk }) ->
   St 0 g1->(∀b o,s.heap.get? b=some o->g1.get? b=some o)->g1.get? s.heap.objs.size=some { cls:=.type "list",data:=.seq #[] c } ->
   codeAny (model prog w) A (.builtin "list.extend.loop" ⟨[.ref s.heap.objs.size,.ref I,.ref s.heap.objs.size],[]⟩) R { s with heap:=g1,drawn:=dd }:=by
  intro R g1 c hR abU J8 yt;refine codeAny_extend_loopS W.toS (fits_of_scanBound hb) _ hLf _ es.size 0 _ #[] c rfl (mQ _) abU yt (ItemsOf.nil _) λs' aaD c' hm hS' ha=>?_;have hp:=acj aaD ha;rw[Moved.eq_with hm];refine hR aaD.toList s'.heap s'.toks c' (λv hv=>?_) ((hp.map tx).trans (.trans (.of_eq (by rw[gW];rfl)) Pq)) (λb ob e=>?_) (by simpa using hS')
  ·obtain⟨e,he,rfl⟩:=gb.mp (hp.mem_iff.mp hv);obtain⟨⟨k,hk,_⟩,_⟩:=J_ e he;obtain⟨u,hu⟩:=Value.isStrOf_shape hk;exact⟨k,u,hu⟩
  ·refine hm.heap b ob (λxu=>?_) (J8 b ob e);rcases gk.mp xu with q | q
   ·exact absurd (gm e) (by rw[q];exact kW _)
   ·have:=hwr b q;change (s.heap.push { cls:=.type "list",data:=.seq ([]:List Value).toArray }).objs.size<=_ at this;rw[Ib]at this;exact absurd (gP (gm e) (Nat.le_of_succ_le this)) (kW _)
 have last:∀(vs:List Value) (h':Heap) (tk c':Nat),(∀v∈vs,∃x u,v=Value.str x u)->List.Perm (vs.map tx) l->(∀b o,s.heap.get? b=some o->h'.get? b=some o)->h'.get? s.heap.objs.size=some { cls:=.type "list",data:=.seq vs.toArray c' } ->
   wpAny (model prog w) A (do
    let o <-load s.heap.objs.size
    match o.data with
    | .seq xs _=>pure xs.toList
    | _=>unsupported "internal:collect") Q E { s with heap:=h',drawn:=dd,toks:=tk }:=λvs h' tk c' q1 q2 q3 q4=>by
  refine wpAny_bind (wpAny_load (s:={ s with heap:=h',drawn:=dd,toks:=tk }) q4 ?_);exact wpAny_pure (hQ vs h' dd tk q1 q2 q3 (gm q4))
 refine wpAny_ite_split (λ_=>?_) (λ_=>wpAny_pure ⟨plainId_quiet F.plain_extend_loop _,fin _ g 0 last wO hold Wi⟩);refine wpAny_bind (wpAny_rule ?_);refine wpAny_bind ?_;show wpAny _ _ (updateSeq s.heap.objs.size (·.push .none) >>= λ_=>updateSeq s.heap.objs.size (·.pop)) _ _ _;refine wpAny_bind (wpAny_updateSeq (s:={ s with heap:=g,drawn:=dd }) Wi rfl ?_);have yt:=m9 (Obj.mapSeq (·.push Value.none)) Wi rfl;refine wpAny_updateSeq (hz:=by seq_fits) yt rfl ?_;have Ud:=m9 (Obj.mapSeq (·.pop)) yt rfl;have oth:∀b o,b≠s.heap.objs.size->g.get? b=some o->((g.update s.heap.objs.size (Obj.mapSeq (·.push Value.none))).update s.heap.objs.size (Obj.mapSeq (·.pop))).get? b=some o:=λb o hb e =>
  (pD _ _ (Ne.symm hb)).trans ((pD _ _ (Ne.symm hb)).trans e)
 refine wpAny_pure ⟨plainId_quiet F.plain_extend_loop _,fin _ _ _ last (W.frame 0 _ _ wO λb hb o e=>oth b o (λq=>hLf (q ▸ hb)) e) (λb o e=>oth b o (gJ (gm e)) (hold b o e)) Ud⟩
end
section
variable {prog:Program}{w:World}{A G:Around}{E:Value->Shared->Prop}{s z:Shared}
open PyProof.Rows in
theorem zmo {a:Addr}{l:List Str}{Q:Value->Shared->Prop}(hh:A.handled=none)(hS:sG prog w s.heap a l)(few:l.length<64)
  (h:∀(out:Array Value) (ss:List Str) (g:Heap) (d:Drawn) (tk c:Nat) (L:Addr),StrsAre out.toList ss->List.Perm ss l->sortedS ss=true->s.heap.objs.size<=L->(∀b o,s.heap.get? b=some o->g.get? b=some o)->g.get? L=some (seqObj "list" out c)->Q (.ref L) { s with heap:=g,drawn:=d,toks:=tk }) :
  wpAny (model prog w) A (call (.builtin "sorted") [.ref a]) Q E s:=by
 refine Calls.call_function_entry kind_sorted plain_sorted entry_sorted (args_sorted1 _) ?_;unfold Builtin.«sorted»;refine wpAny_bind (m:=checkCount _ _ _ _) (wpAny_pure (wpAny_bind (zly hh hS λvs g d tk hv hp kp yQ=>?_)));have hvl:vs.length=l.length:=by rw[<-hp.length_eq,gf]
 have wO:StrsAre vs (vs.map PyProof.Rows.strOf):=strsAre_map vs hv;refine wpAny_bind (wpAny_newList ?_ (by rw[hvl,sizeLine_eq];omega));have yC:(g.push (seqObj "list" vs.toArray 0)).get? g.objs.size=some (seqObj "list" vs.toArray 0):=gH _ rfl;show wpAny _ _ _ _ _ { s with heap:=g.push (seqObj "list" vs.toArray 0),drawn:=d,toks:=tk };refine wpAny_bind (wpAny_holding (wpAny_call_entry (s:={ s with heap:=g.push (seqObj "list" vs.toArray 0),drawn:=d,toks:=tk }) slot_list_sort ⟨_,yC,rfl⟩ entry_list_sort (list_sort_treeK (s:={ s with heap:=g.push (seqObj "list" vs.toArray 0),drawn:=d,toks:=tk }) strKind_oneLt yC wO.keysOf (λadt adq rest e=>keyKind_strs (by rw[<-e];exact wO)) (by omega) λst' a1 a2=>⟨_,rfl,?_⟩) (args_list_sort _)));obtain⟨ss',h1,h2,h3⟩:=sorted_out_str wO a1 a2;obtain⟨e,he⟩:=sortedHeap_at (vs:=vs) (out:=(arrOf st').map (·.2)) yC;refine wpAny_pure ⟨_,rfl,h _ ss' _ d tk e g.objs.size h1 (h2.trans hp) h3 (mH yQ) (λb ob q=>?_) he⟩;have q2:=kp b ob q;have q3:=gm q2;rw[sortedHeap_old (gJ q3) (gP q3 (by rw[size_push'];exact Nat.le_succ _))];exact gq _ q2
theorem Jq:∀{l m:List Nat},l.Pairwise (· < ·)->m.Pairwise (· < ·)->(∀x,x∈l↔x∈m)->l=m
 | [],[],_,_,_=>rfl
 | [],b::m,_,_,h=>by have:=(h b).mpr (by simp);simp at this
 | a::l,[],_,_,h=>by have:=(h a).mp (by simp);simp at this
 | a::l,b::m,hl,hm,h=>by
  have h1:∀{x},x∈l->a<x:=λhx=>pq hl hx;have h2:∀{x},x∈m->b<x:=λhx=>pq hm hx;have Ep:a=b:=by
   rcases gk.mp ((h a).mp (by simp)) with e | e
   ·exact e
   ·rcases gk.mp ((h b).mpr (by simp)) with e2 | e2
    ·exact e2.symm
    ·have:=h1 e2;have:=h2 e;omega
  subst Ep;rw[Jq (nH.mp hl).2 (nH.mp hm).2 λx=>?_];constructor
  ·intro hx;rcases gk.mp ((h x).mp (by simp[hx])) with e | e
   ·have:=h1 hx;omega
   ·exact e
  ·intro hx;rcases gk.mp ((h x).mpr (by simp[hx])) with e | e
   ·have:=h2 hx;omega
   ·exact e
noncomputable def lY (cs:List Nat):List Nat:=(List.range 128).filter λc=>decide (c∈cs)
theorem Ce:∀n,(List.range n).Pairwise (· < ·):=λn=>List.pairwise_lt_range
theorem zou (cs:List Nat):(lY cs).Pairwise (· < ·):=(Ce 128).filter _
theorem zkd {cs:List Nat}(h:∀c∈cs,c<128)(x:Nat):x∈lY cs↔x∈cs:=by
 unfold lY;rw[nO,List.mem_range];constructor
 ·rintro ⟨_,h2⟩;simpa using h2
 ·intro h2;exact⟨h x h2,by simpa using h2⟩
theorem zml {l:List Str}(h:l.Nodup)(k:Str):(tU l k).Nodup:=by
 unfold tU
 split
 ·exact h
 ·rename_i hk;rw[mZ];refine⟨h,by simp,λa ha b hb=>?_⟩;rw[gG.mp hb];rintro rfl;exact hk ha
theorem zf9 (kf:Nat->Str):∀n,(iQ kf n).Nodup
 | 0=>.nil
 | n+1=>zml (zf9 kf n) _
theorem zg2 (kf:Nat->Str):∀(n:Nat) (k:Str),k∈iQ kf n ↔ ∃i,i<n/\k=kf i
 | 0,k=>by simp[iQ]
 | n+1,k=>by
  have hm:k∈iQ kf (n+1)↔k∈iQ kf n\/k=kf n:=by
   rw[iQ];unfold tU
   split
   ·rename_i hk;exact⟨.inl,λh=>h.elim id λe=>e ▸ hk⟩
   ·simp
  rw[hm,zg2 kf n k];constructor
  ·rintro (⟨i,h1,h2⟩ | h)
   ·exact⟨i,by omega,h2⟩
   ·exact⟨n,by omega,h⟩
  ·rintro ⟨i,h1,h2⟩;by_cases e:i=n
   ·exact .inr (e ▸ h2)
   ·exact .inl ⟨i,by omega,h2⟩
noncomputable def sg (c:Nat):Str:=⟨#[c]⟩
theorem Fz {a b:Nat}(h:sg a=sg b):a=b:=by
 injection h with h;have:=congrArg (λx:Array Nat=>x.toList) h;simpa using this
theorem zlg:∀(l:List Nat) (p:Nat),PyProof.Rows.risingS (sg p) (l.map sg)=true->(p::l).Pairwise (· <= ·)
 | [],p,_=>by simp
 | c::l,p,h=>by
  rw[gB,PyProof.Rows.risingS,mq]at h;have ih:=zlg l c h.2;have hpc:p<=c:=by
   have h1:=h.1;rw[PyProof.Rows.ltCps_eq]at h1;simp only[sg,Bool.not_eq_true',decide_eq_false_iff_not]at h1;rcases Nat.lt_or_ge c p with yQ | Px
   ·exact absurd (show ([c]:List Nat)<[p] from List.Lex.rel yQ) (of_decide_eq_false h1)
   ·exact Px
  refine nH.mpr ⟨λx hx=>?_,ih⟩;rcases gk.mp hx with rfl | hx
  ·exact hpc
  ·exact gU hpc (pq ih hx)
theorem GF {x:Str}{ss:List Str}(Dn:∀c∈x.cps.toList,c<128)(hp:List.Perm ss (iQ (λi=>sg (x.cps.getD i 0)) x.cps.size))(hs:PyProof.Rows.sortedS ss=true):ss=(lY x.cps.toList).map sg:=by
 have xu:∀k,k∈ss ↔ ∃c∈x.cps.toList,k=sg c:=λk=>by
  rw[hp.mem_iff,zg2];constructor
  ·rintro ⟨i,hi,rfl⟩;exact⟨x.cps.getD i 0,by rw[ni,kO hi];simp,rfl⟩
  ·rintro ⟨c,hc,rfl⟩;obtain⟨i,hi,e⟩:=pL hc;rw[g_]at hi;exact⟨i,hi,by rw[ni,kO hi,<-e];simp⟩
 have uR:ss.Nodup:=hp.nodup_iff.mpr (zf9 _ _);obtain⟨cl,rfl⟩:∃cl:List Nat,ss=cl.map sg:=⟨ss.map λk=>k.cps.getD 0 0,by
  rw[gW];refine (List.map_id ss).symm.trans (mU λk hk=>?_);obtain⟨c,_,rfl⟩:=(xu k).mp hk
  rfl⟩
 congr 1;refine Jq ?_ (zou _) λc=>?_
 ·have hpw:cl.Pairwise (· <= ·):=by
   cases cl with
   | nil=>exact .nil
   | cons p l=>exact zlg l p hs
  have ab5:cl.Pairwise (· ≠ ·):=by
   have:(cl.map sg).Pairwise (· ≠ ·):=uR;rw[List.pairwise_map]at this;exact this.imp λh e=>h (by rw[e])
  exact (hpw.and ab5).imp λh=>by omega
 ·rw[zkd Dn];have:=xu (sg c);rw[gb]at this;constructor
  ·intro h;obtain⟨d,h1,h2⟩:=this.mp ⟨c,h,rfl⟩;rw[Fz h2];exact h1
  ·intro h;obtain⟨d,h1,h2⟩:=this.mpr ⟨c,h,rfl⟩;rw[<-Fz h2];exact h1
end
end SS
namespace L2
open PySem PySem.Spec PyProof.Rows
section
variable {X:Cx}{x y v:Str}{p pos p2 sX p3 q_:Pos}{e:Expr}{te:TE}
theorem Inv.drew {pins:List (Addr×Obj)}{σ:L2.St}{H:Hp}{s:Shared}(I:Inv X pins σ H s)(d:Drawn):Inv X pins σ H { s with drawn:=d } :=
 I.step (h':=s.heap) (g':=s.gens) (t':=s.toks) (d':=d) (ch:=[]) (λ_ z=>nomatch z) (λb o _ _ _ e _=>e) (λb o _ _ _ e _=>⟨o.slots,e⟩) (λ_ _ _ _ n=>n) (λb o _ e=>⟨o,e⟩) (λ_ _ e=>e) (λ_ _ _ e=>e) (λb ps e=>⟨#[],by rw[e];simp⟩) (λm hm=>hm) I.bV I.bare
noncomputable def rSS (X:Cx):V->Hp->VK->Prop:=λv H Q=>∃x:Str,v=.str x/\x.cps.size<=4000/\(∀c∈x.cps.toList,c<128)/\(SS.lY x.cps.toList).length<64/\∀l,H l=none->Q (.ref l) (upd H l (.lst ((SS.lY x.cps.toList).map λc=>V.str (SS.sg c))))
theorem zlq:∀{us:List Value} {ss:List Str},StrsAre us ss->Vals (ss.map V.str) us
 | _,_,.nil=>.nil
 | _,_,.cons x t h=>.cons ⟨t,rfl⟩ (zlq h)
theorem znz (hc:X.A.handled=none)(hg:Gl X x)(hm:X.mg x=none)(hv:bootBuiltins x=some (.builtin "sorted"))(Dk:Gl X y)(J7:X.mg y=none)(J5:bootBuiltins y=some (.type "set"))(Pz:Gl X v)(hm3:X.mg v=none)(Mz:bootBuiltins v=some (.type "list"))(ha:PE X e te)
  (hn:x ≠ "__name__":=by decide) (vB:(x==("__debug__":Str))=false:=by decide) (Pk:y ≠ "__name__":=by decide) (T8:(y==("__debug__":Str))=false:=by decide) (hn3:v ≠ "__name__":=by decide) (T7:(v==("__debug__":Str))=false:=by decide)
  (hs:starEach [e] X.env=[(false,eval e X.env)]:=by rfl) (xX:starEach [.Call (.Name v p3) [e] [] q_] X.env=[(false,eval (.Call (.Name v p3) [e] [] q_) X.env)]:=by rfl)
  (fV:starEach [.Call (.Name y p2) [.Call (.Name v p3) [e] [] q_] [] sX] X.env=[(false,eval (.Call (.Name y p2) [.Call (.Name v p3) [e] [] q_] [] sX) X.env)]:=by rfl) :
  PE X (.Call (.Name x p) [.Call (.Name y p2) [.Call (.Name v p3) [e] [] q_] [] sX] [] pos) (tUn (rSS X) te):=by
 intro pins s σ H Q I h;refine wpAny_Call_Name_kw (Qm I hg hm hv ?_ hn vB);refine PyProof.Rows.callWith_builtin1 (e:=.Call (.Name y p2) [.Call (.Name v p3) [e] [] q_] [] sX) (rest:=[]) ?_ (by rw[fV];rfl) rfl;rw[fV];show wpAny _ _ (spliced ((false,eval (.Call (.Name y p2) [.Call (.Name v p3) [e] [] q_] [] sX) X.env)::backTo pos [])) _ _ s;refine Calls.spliced_cons (wpAny_Call_Name_kw (Qm I Dk J7 J5 ?_ Pk T8));refine PyProof.Rows.callWith_type1 (e:=.Call (.Name v p3) [e] [] q_) (rest:=[]) ?_ (by rw[xX];rfl) rfl;rw[xX];show wpAny _ _ (spliced ((false,eval (.Call (.Name v p3) [e] [] q_) X.env)::backTo sX [])) _ _ s;refine Calls.spliced_cons (wpAny_Call_Name_kw (Qm I Pz hm3 Mz ?_ hn3 T7));refine PyProof.Rows.callWith_type1 (e:=e) (rest:=[]) ?_ (by rw[hs];rfl) rfl;rw[hs];show wpAny _ _ (spliced ((false,eval e X.env)::backTo q_ [])) _ _ s;refine Calls.spliced_cons (dz (ha pins s σ H _ I h) λu s1 zz=>?_);obtain⟨v,H1,I1,r1,q1⟩:=zz;refine wpAny_pure ?_;obtain⟨tx,rfl,hz,Dn,few,fin⟩:=q1;obtain⟨t,rfl⟩:=(show ∃t,u=Value.str tx t from r1);refine call_list_str hc tx t (λg tk acc c kp yC hit=>?_) (by rw[sizeLine_eq];omega);refine wpAny_pure ?_;have hl:Heap.IsList g s1.heap.objs.size acc:=⟨_,yC,rfl,c,rfl⟩;refine SS.FJ (z:={ s1 with heap:=g,toks:=tk }) (λi=>SS.sg (tx.cps.getD i 0)) hc hl (λi w hw=>?_) (by rw[hit.1];omega) λg2 tk2 hS kp2=>?_
 ·obtain⟨cc,uu,h1,rfl⟩:=hit.2 i w hw;exact⟨uu,by rw[ni,h1];rfl⟩
 rw[hit.1]at hS;refine wpAny_pure ?_;have hlen:(SS.iQ (λi=>SS.sg (tx.cps.getD i 0)) tx.cps.size).length<64:=by
  obtain⟨cl,e1,e2⟩:∃cl:List Nat,SS.iQ (λi=>SS.sg (tx.cps.getD i 0)) tx.cps.size=cl.map SS.sg/\∀c∈cl,c∈SS.lY tx.cps.toList:=by
   refine⟨(SS.iQ (λi=>SS.sg (tx.cps.getD i 0)) tx.cps.size).map λk=>k.cps.getD 0 0,?_,?_⟩
   ·rw[gW];refine (List.map_id _).symm.trans (mU λk hk=>?_);obtain⟨i,_,rfl⟩:=(SS.zg2 _ _ _).mp hk
    rfl
   ·intro c hc;obtain⟨k,hk,rfl⟩:=gb.mp hc;obtain⟨i,hi,rfl⟩:=(SS.zg2 _ _ _).mp hk;rw[SS.zkd Dn];show tx.cps.getD i 0∈_;rw[ni,kO hi];simp
  have uR:=SS.zf9 (λi=>SS.sg (tx.cps.getD i 0)) tx.cps.size;rw[e1]at uR ⊢;rw[gf];have uU:cl.Nodup:=by
   have:(cl.map SS.sg).Pairwise (· ≠ ·):=uR;rw[List.pairwise_map]at this;exact this.imp λh e=>h (by rw[e])
  have:∀(l m:List Nat),l.Nodup->(∀x∈l,x∈m)->l.length<=m.length:=by
   intro l
   induction l with
   | nil=>intro m _ _;simp
   | cons a l ih =>
    intro m h1 h2;have ham:=h2 a (by simp);have:=ih (m.erase a) (kZ.mp h1).2 λx hx=>(List.mem_erase_of_ne (by rintro rfl;exact (kZ.mp h1).1 hx)).mpr (h2 x (by simp[hx]));rw[List.length_erase_of_mem ham]at this;have:0<m.length:=qd ham;simp only[g8];omega
  exact Nat.lt_of_le_of_lt (this cl _ uU e2) few
 refine SS.zmo (s:={ s1 with heap:=g2,toks:=tk2 }) hc hS hlen λout ss g3 d tk3 c3 L wO hp hso hL kp3 Ww=>?_;have hss:=SS.GF Dn hp hso;subst hss;have keep:∀b o,s1.heap.get? b=some o->g3.get? b=some o:=λb o e=>kp3 b o (kp2 b o (gm (kp b o e)) (kp b o e));have Px:s1.heap.objs.size<=L:=by
  have h1:=gm yC;obtain⟨o,_,_,_,ho,_⟩:=hS;have h2:=gm ho;change g.objs.size<g2.objs.size at h2;change g2.objs.size<=L at hL;exact gU (mH h1) (gU (mH h2) hL)
 refine⟨.ref L,_,(I1.laid (t':=tk3) keep Px (show bZ X.prog X.w _ g3 L (.lst ((SS.lY tx.cps.toList).map λc=>V.str (SS.sg c))) from ⟨?_,out.toList,c3,?_,by simpa using Ww⟩)).drew d,rfl,fin _ (I1.bV.fresh Px)⟩
 ·rw[gf,sizeLine_eq];omega
 ·have:=zlq wO;rw[gW]at this;exact this
end
end L2
namespace M
open PySem PySem.Spec L2
noncomputable def lF:D->aq->R D
 | .str cs,st=>if cs.length<=4000/\(∀c∈cs,c<128)/\(SS.lY cs).length<64 then .ok (.loc st.length) (st++[.lst ((SS.lY cs).map λc=>.str [c])]) else .bad
 | _,_=>.bad
theorem zmq {K:PySem.W.Frag}{μ:List Addr}{H:Hp}:∀(l:List Nat),ak K μ H (l.map λc=>D.str [c]) (l.map λc=>V.str (SS.sg c))
 | []=>ak.nil
 | c::l=>ak.cons (ao.aU.mpr rfl) (zmq l)
section
variable {X:Cx}{x y v:Str}{p pos p2 sX p3 q_:Pos}{e:Expr}{m:ME}
theorem zms (hc:X.A.handled=none)(hg:Gl X x)(hm:X.mg x=none)(hv:bootBuiltins x=some (.builtin "sorted"))(Dk:Gl X y)(J7:X.mg y=none)(J5:bootBuiltins y=some (.type "set"))(Pz:Gl X v)(hm3:X.mg v=none)(Mz:bootBuiltins v=some (.type "list"))(ha:JE X e m)
  (hn:x ≠ "__name__":=by decide) (vB:(x==("__debug__":Str))=false:=by decide) (Pk:y ≠ "__name__":=by decide) (T8:(y==("__debug__":Str))=false:=by decide) (hn3:v ≠ "__name__":=by decide) (T7:(v==("__debug__":Str))=false:=by decide)
  (hs:starEach [e] X.env=[(false,eval e X.env)]:=by rfl) (xX:starEach [.Call (.Name v p3) [e] [] q_] X.env=[(false,eval (.Call (.Name v p3) [e] [] q_) X.env)]:=by rfl)
  (fV:starEach [.Call (.Name y p2) [.Call (.Name v p3) [e] [] q_] [] sX] X.env=[(false,eval (.Call (.Name y p2) [.Call (.Name v p3) [e] [] q_] [] sX) X.env)]:=by rfl) :
  JE X (.Call (.Name x p) [.Call (.Name y p2) [.Call (.Name v p3) [e] [] q_] [] sX] [] pos) (ye lF m):=by
 refine JE.of (znz hc hg hm hv Dk J7 J5 Pz hm3 Mz ha hn vB Pk T8 hn3 T7 hs xX fV) fun σ H Q zz=>?_;obtain⟨μ,env,st,he,hS,hp⟩:=zz;refine⟨μ,env,st,he,hS,hp.bind.imp ?_⟩;rintro v H1 ⟨μ1,st1,d,g1,bQ,hx,aZ⟩;cases d with
 | str cs =>
  unfold lF at aZ;dsimp only at aZ
  split at aZ
  ·rename_i hh;obtain⟨h1,h2,h3⟩:=hh;have e1:=ao.aU.mp hx;refine⟨strOf cs,e1,by simpa using h1,by simpa using h2,by simpa using h3,λl hn=>?_⟩;exact aZ.newList bQ (zmq _) hn
  ·exact aZ.elim
 | _=>exact aZ.elim
end
end M
namespace M
noncomputable def xW:List Int->Int
 | []=>0
 | [n]=>n
 | n::m::r=>max n (xW (m::r))
theorem zm9:∀(l:List Int),l≠[]->xW l∈l
 | [],h=>absurd rfl h
 | [n],_=>by simp[xW]
 | n::m::r,_=>by
  have:=zm9 (m::r) (by simp);rw[xW];rcases Int.le_total n (xW (m::r)) with h | h
  ·rw[Int.max_eq_right h];exact kj _ this
  ·rw[Int.max_eq_left h];simp
theorem zg:∀(l:List Int) (a:Int),a∈l->a<=xW l
 | [n],a,h=>by simp at h;subst h;exact Int.le_refl _
 | n::m::r,a,h=>by
  rw[xW];rcases gk.mp h with rfl | h
  ·exact Int.le_max_left _ _
  ·exact Int.le_trans (zg (m::r) a h) (Int.le_max_right _ _)
end M
namespace L2
open PySem PySem.Spec PyProof.Rows
theorem HR:∀(ns:List Int) (its:List Value),Vals (ns.map V.int) its->IntsAre its ns:=by
 intro ns
 induction ns with
 | nil=>intro its h;cases h;exact .nil
 | cons n ns ih =>
  intro its h;cases h with
  | cons r1 r2 =>
   obtain⟨t,rfl⟩:=r1;exact .cons n t (ih _ r2)
variable {X:Cx}
theorem zm1 (hc:X.A.handled=none):cu X (.builtin "max") (λxs H Q=>∃(p:Addr) (ns:List Int),xs=[.ref p]/\uW X.K H p (ns.map V.int)/\ns≠[]/\Q (.int (M.xW ns)) H):=by
 rintro pins s σ H xs us Q I hr ⟨p,ns,rfl,hq,qY,h⟩;cases hr with
 | cons r1 r2 =>
  cases r2;cases r1;obtain⟨its,rv,pl,hz⟩:=I.list hq;have hi:=HR ns its rv;have hl:s.heap.IsList p its.toArray:=pl.isList;obtain⟨xs,hx⟩:=hi.allInts.items;have A_:ns=xs.toList.map (·.1):=by rw[<-hi.numsOf,<-nums_intItems,<-hx]
  have hsz:0<xs.size:=by
   have:0<ns.length:=List.length_pos_iff.mpr qY;rw[A_,gf,g_]at this;exact this
  rw[hx]at hl;refine max_intList hc hl hsz λv h' tk hv hk=>?_;obtain⟨t,rfl⟩:=intItems_at hv;obtain⟨h1,h2⟩:=argBest_gt (numAt xs) (xs.size - 1);have e:numAt xs (argBest (λi j=>decide (numAt xs i > numAt xs j)) (xs.size - 1))=M.xW ns:=by
   refine Int.le_antisymm (M.zg ns _ ?_) ?_
   ·rw[A_,numAt_eq];exact getD_mem (by rw[gf,g_];omega)
   ·have ha:=M.zm9 ns qY;generalize M.xW ns=a at ha;rw[A_]at ha;obtain⟨j,hj,rfl⟩:=mem_getD ha;rw[gf,g_]at hj;rw[<-numAt_eq];exact h2 j (by omega)
  rw[e];refine⟨.int (M.xW ns),H,I.but (λb ob hb e=>hk b ob e) (λm' TJ=>?_),⟨t,rfl⟩,h⟩;exact ((Wz.Iu TJ).keeps hk).ns
end L2
namespace M
open PySem PySem.Spec L2
noncomputable def uM:List D->aq->R D
 | [.loc n],st=>match az st n with
  | some ds=>(match intsOf ds with | some ns=>if ns≠[] then .ok (.int (xW ns)) st else .bad | none=>.bad)
  | none=>.bad
 | ds,st=>G5 ds st
theorem zk0 {X:Cx}(hk:X.calm=true)(hc:X.A.handled=none):cu X (.builtin "max") (JX X uM):=by
 rintro pins s σ H xs us Q I rv ⟨μ,st,ds,hs,hv,hp⟩;unfold uM at hp
 split at hp
 ·rename_i n;cases e1:az st n with
  | none=>simp only[e1]at hp;exact hp.elim
  | some l =>
   simp only[e1]at hp;cases e2:intsOf l with
   | none=>simp only[e2]at hp;exact hp.elim
   | some ns =>
    simp only[e2]at hp
    split at hp
    ·rename_i qY;obtain⟨v,rfl,q⟩:=ak.one hv;obtain⟨p,q1,rfl⟩:=ao.aN.mp q;obtain⟨p',ys,r1,r2,r3⟩:=hs.items e1;rw[q1]at r1;cases r1;rw[zkc e2 r3]at r2;exact zm1 hc _ _ _ _ _ _ _ I rv ⟨p,ns,rfl,r2,qY,hp.ret hs (ao.aO.mpr rfl)⟩
    ·exact hp.elim
 ·exact zoj hk _ _ _ _ _ _ _ I rv ⟨μ,st,_,hs,hv,hp⟩
noncomputable def yl (neg:Bool):D->D->aq->R D
 | k,.loc n,st=>match st[n]?,keyOf k with
  | some (.dkc kvs),some kk=>.ok (.bl (if neg then !(valN kvs kk).isSome else (valN kvs kk).isSome)) st
  | _,_=>.bad
 | _,_,_=>.bad
variable {X:Cx}
theorem HY {H:Hp}{x y:V}{Q:VK}{neg:Bool}(h:rM X (yl neg) x y H Q):∃p o,y=.ref p/\qU H p x o/\Q (.bl (if neg then !o.isSome else o.isSome)) H:=by
 obtain⟨μ,st,dx,dy,hs,hx,hy,hp⟩:=h;unfold yl at hp
 split at hp
 ·rename_i k n
  split at hp
  ·rename_i kvs kk e1 e2;obtain⟨p,q1,rfl⟩:=ao.aN.mp hy;obtain rfl:=ao.key hx e2;obtain⟨p',ws,r1,r2,r3⟩:=hs.dkc e1;rw[q1]at r1;cases r1;refine⟨p,_,rfl,qU.k r2,?_⟩;rcases r3.valN (k:=kk) with⟨z1,z2⟩ | ⟨d',v',z1,z2,z3⟩
   ·rw[z1]at hp;rw[z2];exact hp.ret hs (ao.bH.mpr rfl)
   ·rw[z1]at hp;rw[z2];exact hp.ret hs (ao.bH.mpr rfl)
  ·exact hp.elim
 ·exact hp.elim
theorem LC (hu:X.A.units+1<cLine):dG X (compareOp .In) (rM X (yl false)):=by
 intro pins s σ H x y v u Q I rx ry h;obtain⟨p,o,rfl,g,q⟩:=HY h;obtain rfl:u=Value.ref p:=ry;exact acD hu I g rx λs' I'=>⟨.bl o.isSome,H,I',rfl,q⟩
end M
set_option maxHeartbeats 0
namespace Law
open PySem PySem.Spec L2 M
noncomputable def top (i:Nat):Stmt:=PySem.Challenge.pw_oneofall_k48_whole_runs_on_tape.main.body.getD i (.Pass ⟨0,0,0,0⟩)
noncomputable abbrev zd2:Stmt:=top 1
noncomputable abbrev zei:Stmt:=top 2
noncomputable abbrev zdq:Stmt:=(Bf (top 3)).getD 0 (.Pass ⟨0,0,0,0⟩)
noncomputable abbrev Vs:Stmt:=(Bf (top 3)).getD 1 (.Pass ⟨0,0,0,0⟩)
noncomputable abbrev JN:Stmt:=top 6
noncomputable abbrev zc7:Stmt:=top 7
noncomputable abbrev Oe:Stmt:=top 9
noncomputable abbrev zfo:Stmt:=top 10
noncomputable abbrev zex:Stmt:=top 11
noncomputable abbrev zek:Stmt:=top 12
noncomputable abbrev zeq:Stmt:=top 13
noncomputable abbrev zcn:Stmt:=top 14
noncomputable abbrev zeh:Stmt:=top 15
noncomputable abbrev zdt:Stmt:=top 16
noncomputable abbrev zef:Stmt:=top 17
noncomputable abbrev zkn:Stmt:=top 19
noncomputable abbrev zfi:Stmt:=top 20
noncomputable abbrev zd3:Stmt:=top 21
noncomputable abbrev zeg:Stmt:=top 22
noncomputable abbrev zeo:Stmt:=top 23
noncomputable abbrev zga:Stmt:=top 24
noncomputable abbrev zfq:Stmt:=top 25
noncomputable abbrev zfp:Stmt:=top 26
noncomputable abbrev zg1:Stmt:=top 27
noncomputable abbrev zgi:Stmt:=top 28
noncomputable abbrev ziy:Stmt:=top 29
noncomputable abbrev ze5:Stmt:=top 30
noncomputable abbrev zcy:Stmt:=top 31
noncomputable abbrev Xu:Stmt:=top 32
noncomputable abbrev zep:Stmt:=top 33
noncomputable abbrev ze1:Stmt:=top 34
noncomputable abbrev zhg:Stmt:=top 35
noncomputable abbrev U4:Stmt:=top 36
noncomputable abbrev l_0:fJ:=Zy "tape_run" ["table"] (aaz (QH ((bT JN).getD 1 (.Pass ⟨0,0,0,0⟩))) 0)
noncomputable def Eh:Nat->fJ
 | 0=>l_0
 | _=>O4
noncomputable def tabs:List (Str×Addr):=[("tape_run",59)]
noncomputable def X4:MS :=
  (aK (aQ 2 (cV "dict" yw (vr 0) (aj (dh (aj (aL bh (vr 1) (ct (.int 0))) (aj (aL bh (vr 1) (ct (.int 2))) au))) au)))
  (aK (qF (jl (aL ji (vr 2) (ct .non))) (retS (ct .non)) cL)
  (aK (aQ 3 (aL bh (vr 1) (ct (.int 1))))
  (aK (aQ 4 (aL bh (vr 1) (ct (.int 3))))
  (aK (qF (jl (aL (vG 200) (aL bh (vr 2) (ct (.int 3))) (ct (.str [108])))) (retS (dh (aj (aL bh (vr 2) (ct (.int 4))) (aj (uI (vr 3) uK (uQ (ye vg (ct (.int 1))))) (aj (orS (uI (vr 3) (uQ (ye vg (ct (.int 1)))) uK) (ct (.str [95]))) (aj (aL bj (aL bh (vr 2) (ct (.int 2))) (vr 4)) au)))))) cL)
  (retS (dh (aj (aL bh (vr 2) (ct (.int 4))) (aj (aL bj (vr 3) (aL bh (vr 2) (ct (.int 2)))) (aj (orS (uI (vr 4) uK (uQ (ct (.int 1)))) (ct (.str [95]))) (aj (uI (vr 4) (uQ (ct (.int 1))) uK) au)))))))))))
noncomputable def zcb:FD:=iU (dF 5 X4)
noncomputable def e_0:ME :=
  (aF zcb [] (aj (vr 0) (aj (vr 1) au)))
noncomputable def GL:Nat->FD
 | 0=>CW 2 e_0
 | _=>λ_ _=>.bad
noncomputable def XQ:MS :=
  (aK (aQ 3 (dJ (aj (vr 1) au)))
  (aK (cO (jl (aL O8 (bF bY (aj (vr 3) au)) (vr 2))) (aK (aQ 4 (callC Eh GL 0 (aj (aL bh (vr 3) (ye vg (ct (.int 1)))) au)))
  (aK (qF (jl (aL ji (vr 4) (ct .non))) (retS (vr 3)) cL)
  (eV (cV "list" bU (vr 3) (aj (vr 4) au))))))
  (retS (vr 3))))
noncomputable def XJ:FD:=iU (dF 5 XQ)
noncomputable def XC:MS :=
  (aK (aQ 1 xK)
  (aK (oh (oY (vr 0)) (aP 2) (eV (cV "dict" qX (vr 1) (aj (dh (aj (aL bh (vr 2) (ct (.int 0))) (aj (aL bh (vr 2) (ct (.int 1))) au))) (aj (vr 2) au)))))
  (retS (vr 1))))
noncomputable def zdm:FD:=iU (dF 3 XC)
noncomputable def XR:MS :=
  (aK (uZ "Numbers" "first" (vr 0) (vr 1))
  (uZ "Numbers" "given" (vr 0) xK))
noncomputable def Vn:FD:=qH (dF 2 XR)
noncomputable def Vq:MS :=
  (aK (qF (jl (aL (Dh true) (vr 1) (rZ "Numbers" "given" (vr 0)))) (lU (aL bj (rZ "Numbers" "first" (vr 0)) (bF bY (aj (rZ "Numbers" "given" (vr 0)) au))) (t6 oO (rZ "Numbers" "given" (vr 0)) (vr 1))) cL)
  (retS (aL ZG (rZ "Numbers" "given" (vr 0)) (vr 1))))
noncomputable def Vr:FD:=qH (dF 2 Vq)
noncomputable def Xp:MS :=
  (aK (aQ 3 (aF zdm [] (aj (vr 0) au)))
  (retS (vJ Eh XJ [] (zm 0 [3] 1 "tape_run" (uF (vr 1) (uF (vr 2) GX))))))
noncomputable def Fb:FD:=iU (dF 4 Xp)
noncomputable def Vg:MS :=
  (aK (aQ 2 (aL bh (vr 0) (ct (.int 1))))
  (aK (qF (jl (aL (vG 200) (vr 2) (ct (.str [])))) (retS (dh (aj (aL bh (vr 0) (ct (.int 0))) (aj (aL lK (ct (.str [95])) (vr 1)) (aj (ct (.str [95])) (aj (ct (.str [])) au)))))) cL)
  (aK (aQ 3 (ifE (jl (aL Nb (vr 1) (ct (.int 0)))) (ct (.str [95])) (ct (.str []))))
  (retS (dh (aj (aL bh (vr 0) (ct (.int 0))) (aj (aL lK (ct (.str [95])) (vr 1)) (aj (aL bh (vr 2) (ct (.int 0))) (aj (aL bj (uI (vr 2) (uQ (ct (.int 1))) uK) (vr 3)) au)))))))))
noncomputable def JQ:FD:=iU (dF 4 Vg)
noncomputable def Xn:MS :=
  (aK (aQ 2 (cV "str" sW (aL bj (aL bh (vr 1) (ct (.int 2))) (aL bh (vr 1) (ct (.int 3)))) (aj (ct (.str [95])) au)))
  (aK (qF (JZ (jl (aL Nb (aL bh (vr 1) (ct (.int 0))) (vr 0))) (jl (aL HW (ct (.str [95])) (vr 2)))) (retS (ct .non)) cL)
  (retS (dh (aj (aL bh (vr 1) (ct (.int 0))) (aj (vr 2) au))))))
noncomputable def Ol:FD:=iU (dF 3 Xn)
noncomputable def X3:MS :=
  (aK (aQ 1 Wq)
  (aK (oh (Dw (vr 0)) (aP 2) (lU (ct (.bl true)) (t6 vZ (vr 1) (aL bh (vr 2) (ct (.int 1))))))
  (retS (vr 1))))
noncomputable def Qz:FD:=iU (dF 3 X3)
noncomputable def Vo:MS :=
  (retS (fO [some 0,some 2,none] (By (vr 1)) (aP 2) tZ (dh (aj (vr 0) (aj (vr 2) (aj (vr 2) (aj (vr 1) (aj (vr 0) au))))))))
noncomputable def QD:FD:=iU (dF 3 Vo)
noncomputable def Vk:MS :=
  (retS (vh "Numbers" "number" Vr (vr 0) (aj (dh (aj (ct (.str [98,97,99,107])) (aj (vr 1) au))) au)))
noncomputable def Oi:FD:=qH (dF 2 Vk)
noncomputable def Og:MS :=
  (retS (vh "Numbers" "number" Vr (vr 0) (aj (dh (aj (ct (.str [103,114,111,119])) (aj (vr 1) (aj (vr 2) au)))) au)))
noncomputable def E_:FD:=qH (dF 3 Og)
noncomputable def X5:MS :=
  (aK (aQ 3 (aF E_ [] (aj (vr 0) (aj (vr 1) (aj (vr 2) au)))))
  (aK (qF (jl (aL (vG 200) (vr 1) (ct (.str [])))) (retS (dh (aj (vr 3) (aj (ct (.str [95])) (aj (ct (.str [95])) (aj (ct (.str [108])) (aj (aF Oi [] (aj (vr 0) (aj (vr 2) au))) au))))))) cL)
  (retS (dh (aj (vr 3) (aj (ct (.str [95])) (aj (aL bh (vr 1) (ct (.int 0))) (aj (ct (.str [114])) (aj (aF E_ [] (aj (vr 0) (aj (uI (vr 1) (uQ (ct (.int 1))) uK) (aj (vr 2) au)))) au)))))))))
noncomputable def Vm:FD:=qH (dF 4 X5)
noncomputable def XH:MS :=
  (aK (aQ 1 xK)
  (aK (oh (Dw (vr 0)) (aP 2) (oh (cM (aj (aL bj (bF bY (aj (aL bh (vr 2) (ct (.int 0))) au)) (ct (.int 1))) au)) (aP 3) (lU (ct (.bl true)) (t6 oO (vr 1) (dh (aj (uI (aL bh (vr 2) (ct (.int 0))) (uQ (vr 3)) uK) (aj (aL bh (vr 2) (ct (.int 1))) au)))))))
  (retS (vr 1))))
noncomputable def zdk:FD:=iU (dF 4 XH)
noncomputable def Xx:MS :=
  (aK (aQ 3 (uA "Numbers" Vn (aj (aL bj (vr 2) (ct (.int 1))) au)))
  (aK (aQ 4 (dJ au))
  (aK (aQ 5 xK)
  (aK (oh (oY (vr 0)) (aP 6) (aK (lU (ct (.bl true)) (t6 oO (vr 5) (dh (aj (aL bh (vr 6) (ct (.int 2))) (aj (aL bh (vr 6) (ct (.int 3))) au)))))
  (eV (cV "list" bU (vr 4) (aj (dh (aj (aL bh (vr 6) (ct (.int 0))) (aj (aL bh (vr 6) (ct (.int 1))) (aj (ct (.str [95])) (aj (ct (.str [114])) (aj (aF E_ [] (aj (vr 3) (aj (aL bh (vr 6) (ct (.int 2))) (aj (aL bh (vr 6) (ct (.int 3))) au)))) au)))))) au)))))
  (aK (oh (Dw (vr 5)) (aP 7) (aK (aQ 8 (aF E_ [] (aj (vr 3) (aj (aL bh (vr 7) (ct (.int 0))) (aj (aL bh (vr 7) (ct (.int 1))) au)))))
  (eV (cV "list" jX (vr 4) (aj (aF QD [] (aj (vr 8) (aj (vr 1) (aj (ct (.str [114])) au)))) au)))))
  (aK (aQ 9 (aF zdk [] (aj (vr 5) au)))
  (aK (oh (Dw (vr 9)) (aP 10) (eV (cV "list" bU (vr 4) (aj (aF Vm [] (aj (vr 3) (aj (aL bh (vr 10) (ct (.int 0))) (aj (aL bh (vr 10) (ct (.int 1))) au)))) au))))
  (aK (oh (dkI (aF Qz [] (aj (vr 5) au))) (aP 11) (aK (aQ 8 (aF Oi [] (aj (vr 3) (aj (vr 11) au))))
  (aK (eV (cV "list" jX (vr 4) (aj (aF QD [] (aj (vr 8) (aj (vr 1) (aj (ct (.str [108])) au)))) au)))
  (eV (cV "list" bU (vr 4) (aj (dh (aj (vr 8) (aj (ct (.str [95])) (aj (ct (.str [95])) (aj (ct (.str [114])) (aj (vr 11) au)))))) au))))))
  (retS (vr 4))))))))))
noncomputable def QB:FD:=iU (dF 12 Xx)
noncomputable def wC:MS :=
  (aK (qF (jl (aL ltV (vr 1) (bF bY (aj (vr 0) au)))) (retS (aL bh (vr 0) (vr 1))) cL)
  (aK (aQ 2 (aL bj (aL jh (vr 1) (ct (.int 7919))) (ct (.int 5))))
  (aK (qF (jl (aL Nb (bF bY (aj (vr 0) au)) (ct (.int 0)))) (aQ 2 (aL bD (aL bj (aL jh (aL bh (vr 0) (aL bD (aL jh (vr 1) (ct (.int 7))) (bF bY (aj (vr 0) au)))) (ct (.int 48271))) (aL jh (vr 1) (ct (.int 7919)))) (ct (.int 2147483647)))) cL)
  (retS (aL bD (aL jh (vr 2) (vr 2)) (ct (.int 2147483629)))))))
noncomputable def tY:FD:=iU (dF 3 wC)
noncomputable def Xr:MS :=
  (aK (aQ 1 (ct (.str [97,98,99,100,101,102,103,104,105,106,107,108,109,110,111,112,113,114,115,116,117,118,119,120,121,122])))
  (aK (aQ 2 (aF tY [] (aj (vr 0) (aj (ct (.int 0)) au))))
  (aK (aQ 3 (aL bI (vr 2) (ct (.int 4))))
  (aK (aQ 4 (ct (.str [])))
  (aK (oh (cM (aj (aL bj (ct (.int 1)) (aL bD (vr 2) (ct (.int 4)))) au)) (aP 5) (aK (aQ 6 (aL bD (vr 3) (bF bY (aj (vr 1) au))))
  (aK (aQ 3 (aL bI (vr 3) (bF bY (aj (vr 1) au))))
  (aK (aQ 4 (aL bj (vr 4) (aL bh (vr 1) (vr 6))))
  (aQ 1 (aL bj (uI (vr 1) uK (uQ (vr 6))) (uI (vr 1) (uQ (aL bj (vr 6) (ct (.int 1)))) uK)))))))
  (retS (vr 4)))))))
noncomputable def zel:FD:=iU (dF 7 Xr)
noncomputable def XM:MS :=
  (aK (aQ 1 (aF tY [] (aj (vr 0) (aj (ct (.int 1)) au))))
  (aK (aQ 2 (aL bh (dJ (aj (ct (.int 1)) (aj (ct (.int 900)) au))) (aL bD (aL bI (vr 1) (ct (.int 5))) (ct (.int 2)))))
  (aK (aQ 3 (aL bI (vr 1) (ct (.int 10))))
  (aK (aQ 4 (dJ au))
  (aK (oh (cM (aj (aL bj (ct (.int 1)) (aL bD (vr 1) (ct (.int 5)))) au)) (aP 5) (aK (eV (cV "list" bU (vr 4) (aj (aL bj (aL bj (bF Bw (aj (uI (vr 4) (uQ (ye vg (ct (.int 1)))) uK) au)) (bF Dg (aj (aL Nb (vr 5) (ct (.int 0))) au))) (aL bD (vr 3) (vr 2))) au)))
  (aQ 3 (aL bI (vr 3) (vr 2)))))
  (retS (vr 4)))))))
noncomputable def zc9:FD:=iU (dF 6 XM)
noncomputable def Vh:MS :=
  (aK (aQ 3 (ct (.str [])))
  (aK (aQ 4 (aL bI (vr 0) (ct (.int 2))))
  (aK (oh (cM (aj (vr 1) au)) (aP 5) (qF (jl (aL (vG 200) (aL bD (vr 0) (ct (.int 2))) (ct (.int 1)))) (aK (aQ 4 (aL bD (aL bj (aL bj (aL jh (vr 4) (ct (.int 48271))) (aL jh (ct (.int 7919)) (vr 5))) (ct (.int 11))) (ct (.int 2147483647))))
  (aQ 3 (aL bj (vr 3) (aL bh (vr 2) (aL bD (aL bI (vr 4) (ct (.int 64))) (bF bY (aj (vr 2) au))))))) (aK (aQ 3 (aL bj (vr 3) (aL bh (vr 2) (aL bD (vr 4) (bF bY (aj (vr 2) au))))))
  (aQ 4 (aL bI (vr 4) (bF bY (aj (vr 2) au)))))))
  (retS (vr 3)))))
noncomputable def XF:FD:=iU (dF 6 Vh)
noncomputable def XS:MS :=
  (aK (aQ 2 (aL bh (dJ (aj (ct (.int 0)) (aj (ct (.int 1)) (aj (ct (.int 1)) (aj (ct (.int 2)) (aj (ct (.int 3)) (aj (aL bD (aL bI (vr 0) (ct (.int 6))) (ct (.int 9))) au))))))) (aL bD (vr 0) (ct (.int 6)))))
  (retS (aF XF [] (aj (aL bI (vr 0) (ct (.int 54))) (aj (vr 2) (aj (vr 1) au))))))
noncomputable def zdl:FD:=iU (dF 3 XS)
noncomputable def Xk:MS :=
  (aK (aQ 4 (dJ au))
  (aK (oh (cM (aj (aL jh (bF bY (aj (vr 1) au)) (bF bY (aj (vr 2) au))) au)) (aP 5) (aK (aQ 6 (aF tY [] (aj (vr 0) (aj (aL bj (vr 3) (vr 5)) au))))
  (qF (jl (aL Nb (aL bD (vr 6) (ct (.int 5))) (ct (.int 0)))) (aK (aQ 7 (aL bh (vr 2) (aL bD (aL bI (vr 6) (ct (.int 5))) (bF bY (aj (vr 2) au)))))
  (eV (cV "list" bU (vr 4) (aj (dh (aj (aL bh (vr 2) (aL bI (vr 5) (bF bY (aj (vr 1) au)))) (aj (aL bh (vr 1) (aL bD (vr 5) (bF bY (aj (vr 1) au)))) (aj (aF zdl [] (aj (aL bI (vr 6) (ct (.int 25))) (aj (vr 1) au))) (aj (vr 7) au))))) au)))) cL)))
  (retS (vr 4))))
noncomputable def Xj:FD:=iU (dF 8 Xk)
noncomputable def Xm:MS :=
  (aK (lU (vr 0) (uG 2 (cH (aP 2) (cH (aP 3) vf))))
  (aK (qF (jl (aL (vG 200) (vr 3) (ct (.str [])))) (retS (dh (aj (vr 2) (aj (aL lK (ct (.str [95])) (vr 1)) (aj (ct (.str [95])) (aj (ct (.str [])) au)))))) cL)
  (retS (dh (aj (vr 2) (aj (aL lK (ct (.str [95])) (vr 1)) (aj (aL bh (vr 3) (ct (.int 0))) (aj (aL bj (uI (vr 3) (uQ (ct (.int 1))) uK) (aL lK (ct (.str [95])) (bF Dg (aj (aL Nb (vr 1) (ct (.int 0))) au)))) au))))))))
noncomputable def Xl:FD:=iU (dF 4 Xm)
noncomputable def Vl:MS :=
  (aK (oh (oY (vr 0)) (uG 4 (cH (aP 2) (cH (aP 3) (cH (aP 4) (cH (aP 5) vf))))) (qF (yD (jl (aL (vG 200) (vr 2) (aL bh (vr 1) (ct (.int 0))))) (jl (aL (vG 200) (vr 3) (uI (aL bh (vr 1) (ct (.int 1))) uK (uQ (ct (.int 1))))))) (retS (dh (aj (vr 5) (aj (aL bj (uI (aL bh (vr 1) (ct (.int 1))) (uQ (ct (.int 1))) uK) (vr 4)) au)))) cL))
  (retS (ct .non)))
noncomputable def Oj:FD:=iU (dF 6 Vl)
noncomputable def Xe:MS :=
  (aK (aQ 2 (ct (.str [97,98,99,100,101,102,103,104,105,106,107,108,109,110,111,112,113,114,115,116,117,118,119,120,121,122])))
  (aK (aQ 3 (cV "str" tD (ct (.str [])) (aj (fO [some 1,none] (By (vr 2)) (aP 1) (jl (aL sY (vr 1) (vr 0))) (vr 1)) au)))
  (aK (aQ 4 (aL bD (aF tY [] (aj (vr 0) (aj (ct (.int 3)) au))) (bF bY (aj (vr 3) au))))
  (retS (aL bj (vr 1) (uI (aL bj (uI (vr 3) (uQ (vr 4)) uK) (uI (vr 3) uK (uQ (vr 4)))) uK (uQ (aL bD (aL bI (aF tY [] (aj (vr 0) (aj (ct (.int 3)) au))) (ct (.int 26))) (ct (.int 4))))))))))
noncomputable def zg3:FD:=iU (dF 5 Xe)
noncomputable def Xi:MS :=
  (aK (aQ 3 (aL bI (aF tY [] (aj (vr 0) (aj (ct (.int 7)) au))) (ct (.int 5))))
  (aK (qF (JZ (jl (aL (yg 200) (aL bD (vr 3) (ct (.int 3))) (ct (.int 1)))) (jl (aL ltV (bF bY (aj (vr 2) au)) (ct (.int 2))))) (retS (vr 2)) cL)
  (aK (aQ 4 (aL bj (ct (.int 1)) (aL bD (aL bI (vr 3) (ct (.int 3))) (aL Fy (bF bY (aj (vr 2) au)) (ct (.int 1))))))
  (retS (aL bj (aL bj (uI (vr 2) uK (uQ (vr 4))) (aL bh (vr 1) (ye vg (ct (.int 1))))) (uI (vr 2) (uQ (aL bj (vr 4) (ct (.int 1)))) uK))))))
noncomputable def ze7:FD:=iU (dF 5 Xi)
noncomputable def zQ:MS :=
  (aK (aQ 2 (aL bD (aL bh (vr 0) (ct (.int 0))) (vr 1)))
  (aK (lU (aL bI (aL bh (vr 0) (ct (.int 0))) (vr 1)) (t6 FP (vr 0) (ct (.int 0))))
  (retS (vr 2))))
noncomputable def wX:FD:=qH (dF 3 zQ)
noncomputable def QC:MS :=
  (aK (aQ 2 (ct (.str [])))
  (aK (oh (cM (aj (vr 1) au)) (aP 3) (aQ 2 (aL bj (vr 2) (aL bh (ct (.str [97,98,99,100,101,102,103,104,105,106,107,108,109,110,111,112,113,114,115,116,117,118,119,120,121,122])) (aF wX [] (aj (vr 0) (aj (ct (.int 26)) au)))))))
  (retS (vr 2))))
noncomputable def Oc:FD:=qH (dF 4 QC)
noncomputable def X6:MS :=
  (aK (aQ 1 (dJ au))
  (aK (oh (cM (aj (aF wX [] (aj (vr 0) (aj (ct (.int 21)) au))) au)) (aP 2) (aK (aQ 3 (dh (aj (aF wX [] (aj (vr 0) (aj (ct (.int 5001)) au))) (aj (aF Oc [] (aj (vr 0) (aj (ct (.int 1)) au))) au))))
  (aK (aQ 4 (aF Oc [] (aj (vr 0) (aj (aF wX [] (aj (vr 0) (aj (ct (.int 9)) au))) au))))
  (aK (aQ 5 (aF wX [] (aj (vr 0) (aj (ct (.int 5001)) au))))
  (qF (jl (aL (zx 200 true) (vr 3) (fO [none] (oY (vr 1)) (aP 0) tZ (uI (vr 0) uK (uQ (ct (.int 2))))))) (eV (cV "list" bU (vr 1) (aj (aL bj (vr 3) (dh (aj (vr 4) (aj (vr 5) au)))) au))) cL)))))
  (retS (vr 1))))
noncomputable def X7:FD:=qH (dF 6 X6)
noncomputable def Xy:MS :=
  (aK (aQ 2 (dJ (aj (vr 0) au)))
  (aK (aQ 3 (aF X7 [] (aj (vr 2) au)))
  (aK (aQ 4 (dh (aj (aF wX [] (aj (vr 2) (aj (ct (.int 5001)) au))) (aj (aF Oc [] (aj (vr 2) (aj (aF wX [] (aj (vr 2) (aj (aL bj (vr 1) (ct (.int 1))) au))) au))) au))))
  (aK (qF (yD (jl (aL (yg 200) (vr 3) (dJ au))) (jl (aL (vG 200) (aF wX [] (aj (vr 2) (aj (ct (.int 2)) au))) (ct (.int 1))))) (aK (aQ 5 (aL bh (vr 3) (aF wX [] (aj (vr 2) (aj (bF bY (aj (vr 3) au)) au)))))
  (aQ 4 (dh (aj (aL bh (vr 5) (ct (.int 0))) (aj (aL bj (aL bh (vr 5) (ct (.int 1))) (uI (aL bh (vr 4) (ct (.int 1))) (uQ (ct (.int 1))) uK)) au))))) cL)
  (aK (aQ 6 (bF uM (aj (aL bj (dJ (aj (aL bh (vr 4) (ct (.int 0))) au)) (fO [none] (oY (vr 3)) (aP 0) tZ (bF uM (aj (aL bh (vr 0) (ct (.int 0))) (aj (aL bh (vr 0) (ct (.int 3))) au))))) au)))
  (aK (aQ 7 (aL bj (aL bh (vr 4) (ct (.int 1))) (cV "str" tD (ct (.str [])) (aj (fO [none] (oY (vr 3)) (aP 0) tZ (aL bj (aL bh (vr 0) (ct (.int 1))) (aL bh (vr 0) (ct (.int 2))))) au))))
  (retS (dh (aj (vr 3) (aj (bF wK (aj (ct (.int 5000)) (aj (aL bj (vr 6) (aF wX [] (aj (vr 2) (aj (ct (.int 31)) au)))) au))) (aj (cV "str" tD (ct (.str [])) (aj (ye lF (vr 7)) au)) (aj (vr 4) au))))))))))))
noncomputable def Xv:FD:=iU (dF 8 Xy)
noncomputable def XD:MS :=
  (aK (aQ 1 (aF zel [] (aj (vr 0) au)))
  (aK (aQ 2 (aF zc9 [] (aj (vr 0) au)))
  (aK (aQ 3 (aF Xj [] (aj (vr 0) (aj (vr 1) (aj (vr 2) (aj (ct (.int 8)) au))))))
  (aK (aQ 4 (aL bj (aL bh (vr 2) (ye vg (ct (.int 1)))) (aL bh (dJ (aj (ct (.int 0)) (aj (aL bD (aL bI (aF tY [] (aj (vr 0) (aj (ct (.int 5)) au))) (ct (.int 3))) (ct (.int 31))) (aj (ct (.int 1)) au)))) (aL bD (aF tY [] (aj (vr 0) (aj (ct (.int 5)) au))) (ct (.int 3))))))
  (aK (aQ 5 (aF tY [] (aj (vr 0) (aj (ct (.int 2)) au))))
  (aK (aQ 6 (aF zg3 [] (aj (vr 0) (aj (vr 1) au))))
  (aK (aQ 7 (aF ze7 [] (aj (vr 0) (aj (vr 6) (aj (aF XF [] (aj (aL bI (vr 5) (ct (.int 7))) (aj (aL bD (vr 5) (ct (.int 7))) (aj (vr 1) au)))) au)))))
  (retS (dh (aj (vr 3) (aj (vr 4) (aj (vr 6) (aj (dh (aj (aL bh (vr 2) (aL bD (aF tY [] (aj (vr 0) (aj (ct (.int 4)) au))) (bF bY (aj (vr 2) au)))) (aj (vr 7) au))) au)))))))))))))
noncomputable def Vi:FD:=iU (dF 8 XD)
noncomputable def Xz:MS :=
  (aK (aQ 3 Wq)
  (aK (aQ 4 (ct (.int 0)))
  (aK (cO (yD (jl (aL lH (vr 1) (ct .non))) (jl (aL O8 (vr 4) (vr 2)))) (aK (lU (vr 1) (t6 vZ (vr 3) (vr 4)))
  (aK (aQ 5 (aF Oj [] (aj (vr 0) (aj (vr 1) au))))
  (aK (qF (jl (aL ji (vr 5) (ct .non))) (retS (dh (aj (vr 3) (aj (vr 4) au)))) cL)
  (aK (aQ 4 (aL bj (aL bj (aL bj (vr 4) (aL jh (ct (.int 2)) (bF bY (aj (aL bh (vr 1) (ct (.int 1))) au)))) (aL jh (ct (.int 2)) (aL bj (aL Fy (bF bY (aj (aL bh (vr 5) (ct (.int 1))) au)) (bF bY (aj (aL bh (vr 1) (ct (.int 1))) au))) (ct (.int 1))))) (ct (.int 1))))
  (aQ 1 (vr 5)))))))
  (retS (dh (aj (vr 3) (aj (vr 2) au)))))))
noncomputable def Od:FD:=iU (dF 6 Xz)
noncomputable def Xh:MS :=
  (aK (oh (cM (aj (bF bY (aj (vr 0) au)) au)) (aP 4) (aK (aQ 5 (aF Ol [] (aj (vr 2) (aj (aL bh (vr 0) (vr 4)) au))))
  (qF (jl (aL (yl false) (vr 4) (vr 1))) (aK (qF (JZ (jl (aL (yg 200) (aL bh (vr 0) (vr 4)) (aF Xl [] (aj (aL VJ (vr 1) (vr 4)) (aj (vr 3) au))))) (jl (aL (yg 200) (vr 5) (aL VJ (vr 1) (vr 4))))) (retS (ct (.bl false))) cL)
  (aQ 3 (aL bj (vr 3) (ct (.int 1))))) (qF (JZ (Cy (Vw (ye (HQ "tuple") (aL bh (vr 0) (vr 4))))) (JZ (jl (aL O8 (aL bh (aL bh (vr 0) (vr 4)) (ct (.int 0))) (vr 2))) (jl (aL lH (vr 5) (ct .non))))) (retS (ct (.bl false))) cL))))
  (retS (ct (.bl true))))
noncomputable def Oa:FD:=iU (dF 6 Xh)
noncomputable def zla:MS :=
  (aK (lU (aF Vi [] (aj (vr 0) au)) (uG 4 (cH (aP 1) (cH (aP 2) (cH (aP 3) (cH (aP 4) vf))))))
  (aK (qF (jl (aL (vG 200) (aL bD (aF tY [] (aj (vr 0) (aj (ct (.int 28)) au))) (ct (.int 2))) (ct (.int 1)))) (lU (aF Xv [] (aj (aF tY [] (aj (vr 0) (aj (ct (.int 29)) au))) (aj (ct (.int 40)) au))) (uG 4 (cH (aP 1) (cH (aP 2) (cH (aP 3) (cH (aP 4) vf)))))) cL)
  (aK (aQ 5 (aL bh (dJ (aj (ct (.int 0)) (aj (ct (.int 1)) (aj (aL bD (aL bI (aF tY [] (aj (vr 0) (aj (ct (.int 6)) au))) (ct (.int 3))) (ct (.int 21))) au)))) (aL bD (aF tY [] (aj (vr 0) (aj (ct (.int 6)) au))) (ct (.int 3)))))
  (aK (aQ 6 (aF QB [] (aj (vr 1) (aj (vr 3) (aj (vr 2) au)))))
  (aK (aQ 7 (aL bD (aF tY [] (aj (vr 0) (aj (ct (.int 7)) au))) (ct (.int 251))))
  (aK (qF (jl (aL (vG 200) (aL bD (aL bI (aF tY [] (aj (vr 0) (aj (ct (.int 7)) au))) (ct (.int 251))) (ct (.int 16))) (ct (.int 1)))) (aQ 7 (ct (.int 1500))) cL)
  (aK (qF (jl (aL (vG 200) (aL bD (vr 7) (ct (.int 8))) (ct (.int 1)))) (aK (aQ 7 (ct (.int 100)))
  (aQ 8 (aF Fb [.int 100] (aj (vr 6) (aj (aF JQ [] (aj (vr 4) (aj (vr 5) au))) au))))) (aQ 8 (aF Fb [] (aj (vr 6) (aj (aF JQ [] (aj (vr 4) (aj (vr 5) au))) (aj (vr 7) au))))))
  (aK (lU (aF Od [] (aj (vr 1) (aj (vr 4) (aj (vr 7) au)))) (uG 2 (cH (aP 9) (cH (aP 10) vf))))
  (aK (qF (JZ (Cy (Vw (ye (HQ "list") (vr 8)))) (jl (aL (yg 200) (bF bY (aj (vr 8) au)) (aL bj (vr 10) (ct (.int 1)))))) (retS (ct (.bl false))) cL)
  (retS (aF Oa [] (aj (vr 8) (aj (vr 9) (aj (vr 2) (aj (vr 5) au)))))))))))))))
noncomputable def zjc:FD:=iU (dF 11 zla)
set_option genInjectivity false in
structure Adr where
 iZ:Addr
 iW:FuncData
 jK:Addr
 jB:FuncData
 iz:Addr
 fY:FuncData
 eU:Addr
 eN:FuncData
 oH:Addr
 jj:FuncData
 eQ:Addr
 eG:FuncData
 lz:Addr
 iG:FuncData
 oJ:Addr
 oA:FuncData
 lA:Addr
 j8:FuncData
 jL:Addr
 jC:FuncData
 jM:Addr
 jD:FuncData
 fH:Addr
 fB:FuncData
 jH:Addr
 jz:FuncData
 iw:Addr
 fX:FuncData
 jJ:Addr
 jA:FuncData
 vK:Addr
 vI:FuncData
 oN:Addr
 oG:FuncData
 i_:Addr
 iY:FuncData
 jO:Addr
 jF:FuncData
 jN:Addr
 jE:FuncData
 qT:Addr
 qO:FuncData
 oM:Addr
 oF:FuncData
 oK:Addr
 oE:FuncData
 uh:Addr
 ue:FuncData
 qR:Addr
 qN:FuncData
 um:Addr
 uf:FuncData
 lB:Addr
 j9:FuncData
 iB:Addr
 fZ:FuncData
 lC:Addr
 j_:FuncData
 jP:Addr
 jG:FuncData
 lD:Addr
 lg:FuncData
 sE:Addr
 su:FuncData
 xO:Addr
 xM:FuncData
 iu:Addr
structure Txt (K:PySem.W.Frag)(mg:Str->Option Value)(base:Heap)(A:Adr):Prop where
 hB:BMain mg base
 oW:dX K "stands_from" "stands_from" zd2 A.iZ A.iW
 uN:mg "stands_from" = some (.ref A.iZ)
 XQ:Binds K A.iW ["step","stand","most"] []
 qK:dX K "rule_table" "rule_table" zei A.jK A.jB
 vp:mg "rule_table" = some (.ref A.jK)
 XC:Binds K A.jB ["rules"] []
 ud:dX K "__init__" "Numbers.__init__" zdq A.iz A.fY
 t8:Mk K A.iu A.iz
 XR:Binds K A.fY ["self","first"] []
 sr:dX K "number" "Numbers.number" Vs A.eU A.eN
 jq:Meth K A.iu "number" A.eU
 Vq:Binds K A.eN ["self","key"] []
 ou:Jz K "tape_run" JN A.oH A.jj
 sZ:mg "tape_run" = some (.ref A.oH)
 Xp:Binds K A.jj ["rules","stand","most"] []
 wy:∃t,Binds K A.jj ["rules","stand","most"] [.int 100 t]
 jw:dX K "moved_by_table" "moved_by_table" zc7 A.eQ A.eG
 rR:mg "moved_by_table" = some (.ref A.eQ)
 X4:Binds K A.eG ["table","stand"] []
 j7:Ux K "row_image" "row_image" Oe A.lz A.iG
 rE:mg "row_image" = some (.ref A.lz)
 Vg:Binds K A.iG ["stand","k"] []
 Jo:∃t,Binds K A.iG ["stand","k"] [.int 0 t]
 tE:dX K "row_told" "row_told" zfo A.oJ A.oA
 xm:mg "row_told" = some (.ref A.oJ)
 Xn:Binds K A.oA ["top","stand"] []
 rH:dX K "make_tape" "make_tape" zex A.lA A.j8
 v5:mg "make_tape" = some (.ref A.lA)
 Xx:Binds K A.j8 ["rules","signs","top"] []
 dI:dX K "grow_state" "grow_state" zek A.jL A.jC
 fj:mg "grow_state" = some (.ref A.jL)
 Og:Binds K A.jC ["numbers","word","target"] []
 jx:dX K "back_state" "back_state" zeq A.jM A.jD
 qy:mg "back_state" = some (.ref A.jM)
 Vk:Binds K A.jD ["numbers","target"] []
 fu:dX K "passing_rules" "passing_rules" zcn A.fH A.fB
 jV:mg "passing_rules" = some (.ref A.fH)
 Vo:Binds K A.fB ["state","signs","move"] []
 qI:dX K "words_left" "words_left" zeh A.jH A.jz
 vm:mg "words_left" = some (.ref A.jH)
 XH:Binds K A.jz ["walks"] []
 lO:dX K "growing_rule" "growing_rule" zdt A.iw A.fX
 t7:mg "growing_rule" = some (.ref A.iw)
 X5:Binds K A.fX ["numbers","word","target"] []
 qJ:dX K "targets_of" "targets_of" zef A.jJ A.jA
 vo:mg "targets_of" = some (.ref A.jJ)
 X3:Binds K A.jA ["walks"] []
 b_:dX K "_law_cell" "_law_cell" zkn A.vK A.vI
 cj:mg "_law_cell" = some (.ref A.vK)
 wC:Binds K A.vI ["_law_script","_law_k"] []
 tL:dX K "_law_alphabet" "_law_alphabet" zfi A.oN A.oG
 xr:mg "_law_alphabet" = some (.ref A.oN)
 Xr:Binds K A.oG ["_law_script"] []
 oX:dX K "_law_some_states" "_law_some_states" zd3 A.i_ A.iY
 uO:mg "_law_some_states" = some (.ref A.i_)
 XM:Binds K A.iY ["_law_script"] []
 jy:dX K "_law_drawn_text" "_law_drawn_text" zeg A.jO A.jF
 qz:mg "_law_drawn_text" = some (.ref A.jO)
 Vh:Binds K A.jF ["_law_cell_here","_law_many","_law_signs"] []
 qL:dX K "_law_drawn_word" "_law_drawn_word" zeo A.jN A.jE
 vq:mg "_law_drawn_word" = some (.ref A.jN)
 XS:Binds K A.jE ["_law_cell_here","_law_signs"] []
 uD:dX K "_law_program" "_law_program" zga A.qT A.qO
 yj:mg "_law_program" = some (.ref A.qT)
 Xk:Binds K A.qO ["_law_script","_law_signs","_law_states","_law_at"] []
 tH:dX K "_law_image_of" "_law_image_of" zfq A.oM A.oF
 xq:mg "_law_image_of" = some (.ref A.oM)
 Xm:Binds K A.oF ["_law_stand","_law_k"] []
 tG:dX K "_law_row_next" "_law_row_next" zfp A.oK A.oE
 xn:mg "_law_row_next" = some (.ref A.oK)
 Vl:Binds K A.oE ["_law_rules","_law_stand"] []
 wU:dX K "_law_wider" "_law_wider" zg1 A.uh A.ue
 CJ:mg "_law_wider" = some (.ref A.uh)
 Xe:Binds K A.ue ["_law_script","_law_signs"] []
 uC:dX K "_law_strange" "_law_strange" zgi A.qR A.qN
 yh:mg "_law_strange" = some (.ref A.qR)
 Xi:Binds K A.qN ["_law_script","_law_more","_law_row"] []
 cX:dX K "_law_digit" "_law_digit" ziy A.um A.uf
 dB:mg "_law_digit" = some (.ref A.um)
 zQ:Binds K A.uf ["_law_state","_law_many"] []
 iD:dX K "_law_free_text" "_law_free_text" ze5 A.lB A.j9
 j6:mg "_law_free_text" = some (.ref A.lB)
 QC:Binds K A.j9 ["_law_state","_law_many"] []
 lQ:dX K "_law_free_program" "_law_free_program" zcy A.iB A.fZ
 t_:mg "_law_free_program" = some (.ref A.iB)
 X6:Binds K A.fZ ["_law_state"] []
 rJ:dX K "_law_free_case" "_law_free_case" Xu A.lC A.j_
 v7:mg "_law_free_case" = some (.ref A.lC)
 Xy:Binds K A.j_ ["_law_cell_here","_law_most"] []
 qM:dX K "_law_drawn_case" "_law_drawn_case" zep A.jP A.jG
 vy:mg "_law_drawn_case" = some (.ref A.jP)
 XD:Binds K A.jG ["_law_script"] []
 rK:dX K "_law_due_marks" "_law_due_marks" ze1 A.lD A.lg
 v8:mg "_law_due_marks" = some (.ref A.lD)
 Xz:Binds K A.lg ["_law_rules","_law_stand","_law_most"] []
 vD:dX K "_law_walked" "_law_walked" zhg A.sE A.su
 zj:mg "_law_walked" = some (.ref A.sE)
 Xh:Binds K A.su ["_law_found","_law_marks","_law_top","_law_k"] []
 Ni:dX K "law" "law" U4 A.xO A.xM
 aaN:mg "law" = some (.ref A.xO)
 zla:Binds K A.xM ["_law_script"] []
 cQ:PySem.W.nsIn K mainGlobals "Numbers" = some (some (.ref A.iu))
 zJ:mg "Numbers" = some (.ref A.iu)
 dj:Ei K A.iu
 lJ:lE K A.iu "first"
 cU:lE K A.iu "given"
 v_BLANK:∃t,mg "BLANK" = some (.str "_" t)
 z_int:mg "int" = none
 z_isinstance:mg "isinstance" = none
 z_len:mg "len" = none
 z_list:mg "list" = none
 z_max:mg "max" = none
 z_min:mg "min" = none
 z_range:mg "range" = none
 z_set:mg "set" = none
 z_sorted:mg "sorted" = none
 z_sum:mg "sum" = none
 z_tuple:mg "tuple" = none
section
variable {P:Program}{w:World}{K:PySem.W.Frag}{mg:Str->Option Value}{base:Heap}{Ad:Adr}
theorem zb1:aX ["table","stand","rule","left","right"] ["table","stand"] (aA zc7):=⟨rfl,rfl,rfl,by decide +kernel,rfl,by decide +kernel,by decide +kernel⟩
theorem zfs (T:Txt K mg base Ad):a_ P w K mg base iR 1 Ad.eQ Ad.eG ["table","stand"] (jo K 2 zcb):=by
 refine a_.imp (cA (m:=X4) T.jw zb1 λcdv A outer s H hr=>?_) λvs H Q E h=>du h;exact (bW (cT 2 (yV PySem.F.plainAttrs_dict PySem.F.slot_dict_get PySem.F.type_dict_get (L_ (oV hr)) (aC 0) (aH (sU (aH (aR (aC 1) bf) (aH (aR (aC 1) bf) bz))) bz)) zb1.nd)
  (bW (dD (qp zg9 (aC 2) NT (bN _)) (dq (jR NT)) vV)
  (bW (cT 3 (aR (aC 1) bf) zb1.nd)
  (bW (cT 4 (aR (aC 1) bf) zb1.nd)
  (bW (dD (qp (Ex (iJ hr)) (aR (aC 2) bf) (tX [108]) (bN _)) (dq (jR (sU (aH (aR (aC 2) bf) (aH (wD (aC 3) wB (wA (wN UT bf))) (aH (Ht (wD (aC 3) (wA (wN UT bf)) wB) (Hu (zO [95] T.v_BLANK))) (aH (aD jU (aR (aC 2) bf) (aC 4)) bz))))))) vV)
  (dq (jR (sU (aH (aR (aC 2) bf) (aH (aD jU (aC 3) (aR (aC 2) bf)) (aH (Ht (wD (aC 4) wB (wA bf)) (Hu (zO [95] T.v_BLANK))) (aH (wD (aC 4) (wA bf) wB) bz))))))))))))
theorem Kl {us:List Value}(h:us.length=1):∃a0,us=[a0]:=by
 match us,h with | [a0],_=>exact⟨a0,rfl⟩
theorem Bt {us:List Value}(h:us.length=2):∃a0 a1,us=[a0,a1]:=by
 match us,h with | [a0,a1],_=>exact⟨a0,a1,rfl⟩
theorem Oq {us:List Value}(h:us.length=3):∃a0 a1 a2,us=[a0,a1,a2]:=by
 match us,h with | [a0,a1,a2],_=>exact⟨a0,a1,a2,rfl⟩
theorem us4 {us:List Value}(h:us.length=4):∃a0 a1 a2 a3,us=[a0,a1,a2,a3]:=by
 match us,h with | [a0,a1,a2,a3],_=>exact⟨a0,a1,a2,a3,rfl⟩
theorem Hd (T:Txt K mg base Ad):Qj P w K mg base 1 (Eh 0) ["here"] e_0 :=
 ⟨⟨rfl,rfl,rfl,by decide +kernel,by decide +kernel,by decide +kernel,by decide +kernel,by decide +kernel⟩,λ_ _ _ _ us hl=>by obtain⟨_,rfl⟩:=Kl hl;rfl,λf cd cl A outer s H hr=>(eF ((zfs T).mono (by decide)) hr T.rR T.jw.kp T.X4 .nil (λ_ _=>ak.nil) (aH (aC 0) (aH (aC 1) bz)) rfl rfl (by decide) rfl rfl (bG (bG dW)))⟩
theorem Mi (T:Txt K mg base Ad):Jy P w K mg base 1 Eh GL
 | 0=>.inr ⟨["here"],_,Hd T,rfl⟩
 | _+1=>.inl λ_ _=>rfl
theorem zdo:aX ["step","stand","most","stands","behind"] ["step","stand","most"] (aA zd2):=⟨rfl,rfl,rfl,by decide +kernel,rfl,by decide +kernel,by decide +kernel⟩
theorem zhc (T:Txt K mg base Ad):a_ P w K mg base iR 3 Ad.iZ Ad.iW ["step","stand","most"] (jo K 3 XJ):=by
 refine a_.imp (cA (m:=XQ) T.oW zdo λcdv A outer s H hr=>?_) λvs H Q E h=>du h;exact (bW (cT 3 (Ek (aH (aC 1) bz)) zdo.nd)
  (bW (zll (qp zf (sJ uw rfl T.z_len (by decide +kernel) (aH (aC 3) bz)) (aC 2) (bN _)) (bW (cT 4 (HB (Mi T) (hr.mono (by decide)) 0 (aH (aR (aC 3) (wN UT bf)) bz)) zdo.nd)
  (bW (dD (qp zg9 (aC 4) NT (bN _)) (dq (jR (aC 3))) vV)
  (dq (JF (yV PySem.F.plainAttrs_list PySem.F.slot_list_append PySem.F.type_list_append Qx (aC 3) (aH (aC 4) bz)))))) PassesOwn.never)
  (dq (jR (aC 3)))))
theorem zd7:aX ["rules","table","rule"] ["rules"] (aA zei):=⟨rfl,rfl,rfl,by decide +kernel,rfl,by decide +kernel,by decide +kernel⟩
theorem zhz (T:Txt K mg base Ad):a_ P w K mg base iR 1 Ad.jK Ad.jB ["rules"] (jo K 1 zdm):=by
 refine a_.imp (cA (m:=XC) T.qK zd7 λcdv A outer s H hr=>?_) λvs H Q E h=>du h;exact (bW (cT 1 zle zd7.nd)
  (bW (yK (UJ (aC 0)) (o8 2 zd7.nd) (dq (JF (yV PySem.F.plainAttrs_dict PySem.F.slot_dict_setdefault PySem.F.type_dict_setdefault (zmg (oV hr)) (aC 1) (aH (sU (aH (aR (aC 2) bf) (aH (aR (aC 2) bf) bz))) (aH (aC 2) bz))))) PassesOwn.never rfl)
  (dq (jR (aC 1)))))
theorem zgs:aX ["self","first"] ["self","first"] (aA zdq):=⟨rfl,rfl,rfl,by decide +kernel,rfl,by decide +kernel,by decide +kernel⟩
theorem zgq (T:Txt K mg base Ad):a_ P w K mg base iR 1 Ad.iz Ad.fY ["self","first"] (jo K 2 Vn):=by
 refine a_.imp (cA (m:=XR) T.ud zgs λcdv A outer s H hr=>?_) λvs H Q E h=>NZ h;exact (bW (Hq T.cQ T.dj T.lJ (aC 0) (aC 1))
  (dq (Hq T.cQ T.dj T.cU (aC 0) zle)))
theorem zfz:aX ["self","key"] ["self","key"] (aA Vs):=⟨rfl,rfl,rfl,by decide +kernel,rfl,by decide +kernel,by decide +kernel⟩
theorem zd0 (T:Txt K mg base Ad):a_ P w K mg base iR 1 Ad.eU Ad.eN ["self","key"] (jo K 2 Vr):=by
 refine a_.imp (cA (m:=Vq) T.sr zfz λcdv A outer s H hr=>?_) λvs H Q E h=>NZ h;exact (bW (dD (qp (zon (oV hr)) (aC 1) (WR T.cQ T.dj T.cU (aC 0)) rfl) (dq (JC (aD jU (WR T.cQ T.dj T.lJ (aC 0)) (sJ uw rfl T.z_len (by decide +kernel) (aH (WR T.cQ T.dj T.cU (aC 0)) bz))) (UL (y_ (oV hr)) (WR T.cQ T.dj T.cU (aC 0)) (aC 1)))) vV)
  (dq (jR (S7 (oV hr) (WR T.cQ T.dj T.cU (aC 0)) (aC 1)))))
theorem zgm:aX ["rules","stand","most","table"] ["rules","stand","most"] (aA JN):=⟨rfl,rfl,rfl,by decide +kernel,rfl,by decide +kernel,by decide +kernel⟩
theorem zgn (T:Txt K mg base Ad):a_ P w K mg base iR 4 Ad.oH Ad.jj ["rules","stand","most"] (jo K 3 Fb):=by
 refine a_.imp (Ui (m:=Xp) T.ou zgm λcdv A outer s H hr hT=>?_) λvs H Q E h=>du h;exact (bW (cT 3 (eF ((zhz T).mono (by decide)) hr T.vp T.qK.kp T.XC .nil (λ_ _=>ak.nil) (aH (aC 0) bz) rfl rfl (by decide) rfl rfl (bG dW)) zgm.nd)
  (dq (jR (De ((zhc T).mono (by decide)) hr T.uN T.oW.kp T.XQ .nil (λ_ _=>ak.nil) (S6 (Λ:=Eh) (x:="tape_run") (j:=0) (k:=1) (cap:=[3]) T.hB hT (Hf (sc0:=aA JN) rfl (by decide +kernel) (by decide +kernel) rfl) rfl rfl rfl rfl rfl (An (aC 1) (An (aC 2) S5))) (λ_=>rfl) rfl rfl (by decide) rfl rfl (Hc (zk8 (zk8 Hb)))))))
theorem zej:aX ["stand","k","row","behind"] ["stand","k"] (aA Oe):=⟨rfl,rfl,rfl,by decide +kernel,rfl,by decide +kernel,by decide +kernel⟩
theorem zfu (T:Txt K mg base Ad):a_ P w K mg base iR 1 Ad.lz Ad.iG ["stand","k"] (jo K 2 JQ):=by
 refine a_.imp (Uj (m:=Vg) T.j7 zej λcdv A outer s H hr=>?_) λvs H Q E h=>du h;exact (bW (cT 2 (aR (aC 0) bf) zej.nd)
  (bW (dD (qp (Ex (iJ hr)) (aC 2) (tX []) (bN _)) (dq (jR (sU (aH (aR (aC 0) bf) (aH (aD W_ (zO [95] T.v_BLANK) (aC 1)) (aH (zO [95] T.v_BLANK) (aH (tX []) bz))))))) vV)
  (bW (cT 3 (ZD (qp Uz (aC 1) bf (bN _)) (zO [95] T.v_BLANK) (tX [])) zej.nd)
  (dq (jR (sU (aH (aR (aC 0) bf) (aH (aD W_ (zO [95] T.v_BLANK) (aC 1)) (aH (aR (aC 2) bf) (aH (aD jU (wD (aC 2) (wA bf) wB) (aC 3)) bz))))))))))
theorem zgk:aX ["top","stand","row"] ["top","stand"] (aA zfo):=⟨rfl,rfl,rfl,by decide +kernel,rfl,by decide +kernel,by decide +kernel⟩
theorem zi1 (T:Txt K mg base Ad):a_ P w K mg base iR 1 Ad.oJ Ad.oA ["top","stand"] (jo K 2 Ol):=by
 refine a_.imp (cA (m:=Xn) T.tE zgk λcdv A outer s H hr=>?_) λvs H Q E h=>du h;exact (bW (cT 2 (yV PySem.F.plainAttrs_str PySem.F.slot_str_rstrip PySem.F.type_str_rstrip znc (aD jU (aR (aC 1) bf) (aR (aC 1) bf)) (aH (zO [95] T.v_BLANK) bz)) zgk.nd)
  (bW (dD (JW.jt (wM (qp Uz (aR (aC 1) bf) (aC 0) (bN _)) (WD (qp Lz (zO [95] T.v_BLANK) (aC 2) rfl)))) (dq (jR NT)) vV)
  (dq (jR (sU (aH (aR (aC 1) bf) (aH (aC 2) bz)))))))
theorem zd5:aX ["walks","targets","walk"] ["walks"] (aA zef):=⟨rfl,rfl,rfl,by decide +kernel,rfl,by decide +kernel,by decide +kernel⟩
theorem zh2 (T:Txt K mg base Ad):a_ P w K mg base iR 1 Ad.jJ Ad.jA ["walks"] (jo K 1 Qz):=by
 refine a_.imp (cA (m:=X3) T.qJ zd5 λcdv A outer s H hr=>?_) λvs H Q E h=>du h;exact (bW (cT 1 zn7 zd5.nd)
  (bW (yK (Ao (aC 0)) (o8 2 zd5.nd) (dq (JC vA (UL (Ow (oV hr)) (aC 1) (aR (aC 2) bf)))) PassesOwn.never rfl)
  (dq (jR (aC 1)))))
theorem zgf:aX ["state","signs","move"] ["state","signs","move"] (aA zcn):=⟨rfl,rfl,rfl,by decide +kernel,rfl,by decide +kernel,by decide +kernel⟩
theorem zd8 (T:Txt K mg base Ad):a_ P w K mg base iR 1 Ad.fH Ad.fB ["state","signs","move"] (jo K 3 QD):=by
 refine a_.imp (cA (m:=Vo) T.fu zgf λcdv A outer s H hr=>?_) λvs H Q E h=>du h;exact (dq (jR (W8 (N:=["state","move","sign"]) (capt:=[some 0,some 2,none]) (sc0:=aA zcn) (Hs (aC 1)) ⟨rfl,by decide +kernel,by decide +kernel⟩ (by decide +kernel) ⟨⟨rfl,by first | exact Or.inl rfl | exact Or.inr rfl,rfl⟩,⟨⟨rfl,by first | exact Or.inl rfl | exact Or.inr rfl,rfl⟩,trivial⟩⟩ rfl (λcl C fp s H=>(o8 2 (show List.Nodup (["state","move","sign"]:List Str) by decide +kernel))) (λcl C fp s H=>zk3) (λcl C fp s H=>(sU (aH (aC 0) (aH (aC 2) (aH (aC 2) (aH (aC 1) (aH (aC 0) bz))))))))))
theorem zhs:aX ["numbers","target"] ["numbers","target"] (aA zeq):=⟨rfl,rfl,rfl,by decide +kernel,rfl,by decide +kernel,by decide +kernel⟩
theorem zff (T:Txt K mg base Ad):a_ P w K mg base iR 2 Ad.jM Ad.jD ["numbers","target"] (jo K 2 Oi):=by
 refine a_.imp (cA (m:=Vk) T.jx zhs λcdv A outer s H hr=>?_) λvs H Q E h=>NZ h;exact (dq (jR (zns T.cQ T.dj T.jq ((zd0 T).mono (by decide)) hr T.Vq (aC 0) (aH (sU (aH (tX [98,97,99,107]) (aH (aC 1) bz))) bz) rfl rfl rfl rfl (bG dW))))
theorem zhv:aX ["numbers","word","target"] ["numbers","word","target"] (aA zek):=⟨rfl,rfl,rfl,by decide +kernel,rfl,by decide +kernel,by decide +kernel⟩
theorem zdb (T:Txt K mg base Ad):a_ P w K mg base iR 2 Ad.jL Ad.jC ["numbers","word","target"] (jo K 3 E_):=by
 refine a_.imp (cA (m:=Og) T.dI zhv λcdv A outer s H hr=>?_) λvs H Q E h=>NZ h;exact (dq (jR (zns T.cQ T.dj T.jq ((zd0 T).mono (by decide)) hr T.Vq (aC 0) (aH (sU (aH (tX [103,114,111,119]) (aH (aC 1) (aH (aC 2) bz)))) bz) rfl rfl rfl rfl (bG dW))))
theorem zet:aX ["numbers","word","target","state"] ["numbers","word","target"] (aA zdt):=⟨rfl,rfl,rfl,by decide +kernel,rfl,by decide +kernel,by decide +kernel⟩
theorem zgr (T:Txt K mg base Ad):a_ P w K mg base iR 3 Ad.iw Ad.fX ["numbers","word","target"] (jo K 3 Vm):=by
 refine a_.imp (cA (m:=X5) T.lO zet λcdv A outer s H hr=>?_) λvs H Q E h=>NZ h;exact (bW (cT 3 (eF ((zdb T).mono (by decide)) hr T.fj T.dI.kp T.Og .nil (λ_ _=>ak.nil) (aH (aC 0) (aH (aC 1) (aH (aC 2) bz))) rfl rfl (by decide) rfl rfl (bG (bG (bG dW)))) zet.nd)
  (bW (dD (qp (Ex (iJ hr)) (aC 1) (tX []) (bN _)) (dq (jR (sU (aH (aC 3) (aH (zO [95] T.v_BLANK) (aH (zO [95] T.v_BLANK) (aH (tX [108]) (aH (eF ((zff T).mono (by decide)) hr T.qy T.jx.kp T.Vk .nil (λ_ _=>ak.nil) (aH (aC 0) (aH (aC 2) bz)) rfl rfl (by decide) rfl rfl (bG (bG dW))) bz)))))))) vV)
  (dq (jR (sU (aH (aC 3) (aH (zO [95] T.v_BLANK) (aH (aR (aC 1) bf) (aH (tX [114]) (aH (eF ((zdb T).mono (by decide)) hr T.fj T.dI.kp T.Og .nil (λ_ _=>ak.nil) (aH (aC 0) (aH (wD (aC 1) (wA bf) wB) (aH (aC 2) bz))) rfl rfl (by decide) rfl rfl (bG (bG (bG dW)))) bz))))))))))
theorem zda:aX ["walks","grows","walk","cut"] ["walks"] (aA zeh):=⟨rfl,rfl,rfl,by decide +kernel,rfl,by decide +kernel,by decide +kernel⟩
theorem zhu (T:Txt K mg base Ad):a_ P w K mg base iR 1 Ad.jH Ad.jz ["walks"] (jo K 1 zdk):=by
 refine a_.imp (cA (m:=XH) T.qI zda λcdv A outer s H hr=>?_) λvs H Q E h=>du h;exact (bW (cT 1 zle zda.nd)
  (bW (yK (Ao (aC 0)) (o8 2 zda.nd) (dq (yK (N_ (aH (aD jU (sJ uw rfl T.z_len (by decide +kernel) (aH (aR (aC 2) bf) bz)) bf) bz) rfl T.z_range) (o8 3 zda.nd) (dq (JC vA (UL (y_ (oV hr)) (aC 1) (sU (aH (wD (aR (aC 2) bf) (wA (aC 3)) wB) (aH (aR (aC 2) bf) bz)))))) PassesOwn.never rfl)) PassesOwn.never rfl)
  (dq (jR (aC 1)))))
theorem EY:aX ["rules","signs","top","numbers","made","walks","rule","walk","state","grows","grow","target"] ["rules","signs","top"] (aA zex):=⟨rfl,rfl,rfl,by decide +kernel,rfl,by decide +kernel,by decide +kernel⟩
theorem zim (T:Txt K mg base Ad):a_ P w K mg base iR 4 Ad.lA Ad.j8 ["rules","signs","top"] (jo K 3 QB):=by
 refine a_.imp (cA (m:=Xx) T.rH EY λcdv A outer s H hr=>?_) λvs H Q E h=>du h;exact (bW (cT 3 (Mr T.cQ T.t8 ((zgq T).mono (by decide)) hr T.zJ T.XR (aH (aD jU (aC 2) bf) bz) rfl rfl (by decide) rfl rfl (bG dW)) EY.nd)
  (bW (cT 4 (Ek bz) EY.nd)
  (bW (cT 5 zle EY.nd)
  (bW (yK (UJ (aC 0)) (o8 6 EY.nd) (bW (JC vA (UL (y_ (oV hr)) (aC 5) (sU (aH (aR (aC 6) bf) (aH (aR (aC 6) bf) bz)))))
  (dq (JF (yV PySem.F.plainAttrs_list PySem.F.slot_list_append PySem.F.type_list_append Qx (aC 4) (aH (sU (aH (aR (aC 6) bf) (aH (aR (aC 6) bf) (aH (zO [95] T.v_BLANK) (aH (tX [114]) (aH (eF ((zdb T).mono (by decide)) hr T.fj T.dI.kp T.Og .nil (λ_ _=>ak.nil) (aH (aC 3) (aH (aR (aC 6) bf) (aH (aR (aC 6) bf) bz))) rfl rfl (by decide) rfl rfl (bG (bG (bG dW)))) bz)))))) bz))))) PassesOwn.never rfl)
  (bW (yK (Ao (aC 5)) (o8 7 EY.nd) (bW (cT 8 (eF ((zdb T).mono (by decide)) hr T.fj T.dI.kp T.Og .nil (λ_ _=>ak.nil) (aH (aC 3) (aH (aR (aC 7) bf) (aH (aR (aC 7) bf) bz))) rfl rfl (by decide) rfl rfl (bG (bG (bG dW)))) EY.nd)
  (dq (JF (yV PySem.F.plainAttrs_list PySem.F.slot_list_extend PySem.F.type_list_extend zj3 (aC 4) (aH (eF ((zd8 T).mono (by decide)) hr T.jV T.fu.kp T.Vo .nil (λ_ _=>ak.nil) (aH (aC 8) (aH (aC 1) (aH (tX [114]) bz))) rfl rfl (by decide) rfl rfl (bG (bG (bG dW)))) bz))))) PassesOwn.never rfl)
  (bW (cT 9 (eF ((zhu T).mono (by decide)) hr T.vm T.qI.kp T.XH .nil (λ_ _=>ak.nil) (aH (aC 5) bz) rfl rfl (by decide) rfl rfl (bG dW)) EY.nd)
  (bW (yK (Ao (aC 9)) (o8 10 EY.nd) (dq (JF (yV PySem.F.plainAttrs_list PySem.F.slot_list_append PySem.F.type_list_append Qx (aC 4) (aH (eF ((zgr T).mono (by decide)) hr T.t7 T.lO.kp T.X5 .nil (λ_ _=>ak.nil) (aH (aC 3) (aH (aR (aC 10) bf) (aH (aR (aC 10) bf) bz))) rfl rfl (by decide) rfl rfl (bG (bG (bG dW)))) bz)))) PassesOwn.never rfl)
  (bW (yK (ZC (eF ((zh2 T).mono (by decide)) hr T.vo T.qJ.kp T.X3 .nil (λ_ _=>ak.nil) (aH (aC 5) bz) rfl rfl (by decide) rfl rfl (bG dW))) (o8 11 EY.nd) (bW (cT 8 (eF ((zff T).mono (by decide)) hr T.qy T.jx.kp T.Vk .nil (λ_ _=>ak.nil) (aH (aC 3) (aH (aC 11) bz)) rfl rfl (by decide) rfl rfl (bG (bG dW))) EY.nd)
  (bW (JF (yV PySem.F.plainAttrs_list PySem.F.slot_list_extend PySem.F.type_list_extend zj3 (aC 4) (aH (eF ((zd8 T).mono (by decide)) hr T.jV T.fu.kp T.Vo .nil (λ_ _=>ak.nil) (aH (aC 8) (aH (aC 1) (aH (tX [108]) bz))) rfl rfl (by decide) rfl rfl (bG (bG (bG dW)))) bz)))
  (dq (JF (yV PySem.F.plainAttrs_list PySem.F.slot_list_append PySem.F.type_list_append Qx (aC 4) (aH (sU (aH (aC 8) (aH (zO [95] T.v_BLANK) (aH (zO [95] T.v_BLANK) (aH (tX [114]) (aH (aC 11) bz)))))) bz)))))) PassesOwn.never rfl)
  (dq (jR (aC 4)))))))))))
theorem zil:aX ["_law_script","_law_k","_law_number"] ["_law_script","_law_k"] (aA zkn):=⟨rfl,rfl,rfl,by decide +kernel,rfl,by decide +kernel,by decide +kernel⟩
theorem yM (T:Txt K mg base Ad):a_ P w K mg base iR 1 Ad.vK Ad.vI ["_law_script","_law_k"] (jo K 2 tY):=by
 refine a_.imp (cA (m:=wC) T.b_ zil λcdv A outer s H hr=>?_) λvs H Q E h=>du h;exact (bW (dD (qp Gz (aC 1) (sJ uw rfl T.z_len (by decide +kernel) (aH (aC 0) bz)) (bN _)) (dq (jR (aR (aC 0) (aC 1)))) vV)
  (bW (cT 2 (aD jU (aD JD (aC 1) bf) bf) zil.nd)
  (bW (dD (qp Uz (sJ uw rfl T.z_len (by decide +kernel) (aH (aC 0) bz)) bf (bN _)) (dq (cT 2 (aD rD (aD jU (aD JD (aR (aC 0) (aD rD (aD JD (aC 1) bf) (sJ uw rfl T.z_len (by decide +kernel) (aH (aC 0) bz)))) bf) (aD JD (aC 1) bf)) bf) zil.nd)) vV)
  (dq (jR (aD rD (aD JD (aC 2) (aC 2)) bf))))))
theorem JR:aX ["_law_script","_law_rest","_law_cell_here","_law_number","_law_signs","_law_k","_law_at"] ["_law_script"] (aA zfi):=⟨rfl,rfl,rfl,by decide +kernel,rfl,by decide +kernel,by decide +kernel⟩
theorem zjl (T:Txt K mg base Ad):a_ P w K mg base iR 2 Ad.oN Ad.oG ["_law_script"] (jo K 1 zel):=by
 refine a_.imp (cA (m:=Xr) T.tL JR λcdv A outer s H hr=>?_) λvs H Q E h=>du h;exact (bW (cT 1 (tX [97,98,99,100,101,102,103,104,105,106,107,108,109,110,111,112,113,114,115,116,117,118,119,120,121,122]) JR.nd)
  (bW (cT 2 (eF ((yM T).mono (by decide)) hr T.cj T.b_.kp T.wC .nil (λ_ _=>ak.nil) (aH (aC 0) (aH bf bz)) rfl rfl (by decide) rfl rfl (bG (bG dW))) JR.nd)
  (bW (cT 3 (aD vW (aC 2) bf) JR.nd)
  (bW (cT 4 (tX []) JR.nd)
  (bW (yK (N_ (aH (aD jU bf (aD rD (aC 2) bf)) bz) rfl T.z_range) (o8 5 JR.nd) (bW (cT 6 (aD rD (aC 3) (sJ uw rfl T.z_len (by decide +kernel) (aH (aC 1) bz))) JR.nd)
  (bW (cT 3 (aD vW (aC 3) (sJ uw rfl T.z_len (by decide +kernel) (aH (aC 1) bz))) JR.nd)
  (bW (cT 4 (aD jU (aC 4) (aR (aC 1) (aC 6))) JR.nd)
  (dq (cT 1 (aD jU (wD (aC 1) wB (wA (aC 6))) (wD (aC 1) (wA (aD jU (aC 6) bf)) wB)) JR.nd))))) PassesOwn.never rfl)
  (dq (jR (aC 4))))))))
theorem QF:aX ["_law_script","_law_cell_here","_law_wide","_law_number","_law_states","_law_k"] ["_law_script"] (aA zd3):=⟨rfl,rfl,rfl,by decide +kernel,rfl,by decide +kernel,by decide +kernel⟩
theorem zhd (T:Txt K mg base Ad):a_ P w K mg base iR 2 Ad.i_ Ad.iY ["_law_script"] (jo K 1 zc9):=by
 refine a_.imp (cA (m:=XM) T.oX QF λcdv A outer s H hr=>?_) λvs H Q E h=>du h;exact (bW (cT 1 (eF ((yM T).mono (by decide)) hr T.cj T.b_.kp T.wC .nil (λ_ _=>ak.nil) (aH (aC 0) (aH bf bz)) rfl rfl (by decide) rfl rfl (bG (bG dW))) QF.nd)
  (bW (cT 2 (aR (Ek (aH bf (aH bf bz))) (aD rD (aD vW (aC 1) bf) bf)) QF.nd)
  (bW (cT 3 (aD vW (aC 1) bf) QF.nd)
  (bW (cT 4 (Ek bz) QF.nd)
  (bW (yK (N_ (aH (aD jU bf (aD rD (aC 1) bf)) bz) rfl T.z_range) (o8 5 QF.nd) (bW (JF (yV PySem.F.plainAttrs_list PySem.F.slot_list_append PySem.F.type_list_append Qx (aC 4) (aH (aD jU (aD jU (sJ (DQ hr.hd) rfl T.z_sum (by decide +kernel) (aH (wD (aC 4) (wA (wN UT bf)) wB) bz)) (zk4 zlt rfl T.z_int (by decide +kernel) (aH (Hy Uz (aC 5) bf (bN _)) bz))) (aD rD (aC 3) (aC 2))) bz)))
  (dq (cT 3 (aD vW (aC 3) (aC 2)) QF.nd))) PassesOwn.never rfl)
  (dq (jR (aC 4))))))))
theorem Om:aX ["_law_cell_here","_law_many","_law_signs","_law_text","_law_number","_law_k"] ["_law_cell_here","_law_many","_law_signs"] (aA zeg):=⟨rfl,rfl,rfl,by decide +kernel,rfl,by decide +kernel,by decide +kernel⟩
theorem zfg (T:Txt K mg base Ad):a_ P w K mg base iR 1 Ad.jO Ad.jF ["_law_cell_here","_law_many","_law_signs"] (jo K 3 XF):=by
 refine a_.imp (cA (m:=Vh) T.jy Om λcdv A outer s H hr=>?_) λvs H Q E h=>du h;exact (bW (cT 3 (tX []) Om.nd)
  (bW (cT 4 (aD vW (aC 0) bf) Om.nd)
  (bW (yK (N_ (aH (aC 1) bz) rfl T.z_range) (o8 5 Om.nd) (dq (dD (qp (Ex (iJ hr)) (aD rD (aC 0) bf) bf (bN _)) (bW (cT 4 (aD rD (aD jU (aD jU (aD JD (aC 4) bf) (aD JD bf (aC 5))) bf) bf) Om.nd)
  (dq (cT 3 (aD jU (aC 3) (aR (aC 2) (aD rD (aD vW (aC 4) bf) (sJ uw rfl T.z_len (by decide +kernel) (aH (aC 2) bz))))) Om.nd))) (bW (cT 3 (aD jU (aC 3) (aR (aC 2) (aD rD (aC 4) (sJ uw rfl T.z_len (by decide +kernel) (aH (aC 2) bz))))) Om.nd)
  (dq (cT 4 (aD vW (aC 4) (sJ uw rfl T.z_len (by decide +kernel) (aH (aC 2) bz))) Om.nd))))) PassesOwn.never rfl)
  (dq (jR (aC 3))))))
theorem zfe:aX ["_law_cell_here","_law_signs","_law_many"] ["_law_cell_here","_law_signs"] (aA zeo):=⟨rfl,rfl,rfl,by decide +kernel,rfl,by decide +kernel,by decide +kernel⟩
theorem zh1 (T:Txt K mg base Ad):a_ P w K mg base iR 2 Ad.jN Ad.jE ["_law_cell_here","_law_signs"] (jo K 2 zdl):=by
 refine a_.imp (cA (m:=XS) T.qL zfe λcdv A outer s H hr=>?_) λvs H Q E h=>du h;exact (bW (cT 2 (aR (Ek (aH bf (aH bf (aH bf (aH bf (aH bf (aH (aD rD (aD vW (aC 0) bf) bf) bz))))))) (aD rD (aC 0) bf)) zfe.nd)
  (dq (jR (eF ((zfg T).mono (by decide)) hr T.qz T.jy.kp T.Vh .nil (λ_ _=>ak.nil) (aH (aD vW (aC 0) bf) (aH (aC 2) (aH (aC 1) bz))) rfl rfl (by decide) rfl rfl (bG (bG (bG dW)))))))
theorem Xq:aX ["_law_script","_law_signs","_law_states","_law_at","_law_rules","_law_k","_law_cell_here","_law_goal"] ["_law_script","_law_signs","_law_states","_law_at"] (aA zga):=⟨rfl,rfl,rfl,by decide +kernel,rfl,by decide +kernel,by decide +kernel⟩
theorem zkq (T:Txt K mg base Ad):a_ P w K mg base iR 3 Ad.qT Ad.qO ["_law_script","_law_signs","_law_states","_law_at"] (jo K 4 Xj):=by
 refine a_.imp (cA (m:=Xk) T.uD Xq λcdv A outer s H hr=>?_) λvs H Q E h=>du h;exact (bW (cT 4 (Ek bz) Xq.nd)
  (bW (yK (N_ (aH (aD JD (sJ uw rfl T.z_len (by decide +kernel) (aH (aC 1) bz)) (sJ uw rfl T.z_len (by decide +kernel) (aH (aC 2) bz))) bz) rfl T.z_range) (o8 5 Xq.nd) (bW (cT 6 (eF ((yM T).mono (by decide)) hr T.cj T.b_.kp T.wC .nil (λ_ _=>ak.nil) (aH (aC 0) (aH (aD jU (aC 3) (aC 5)) bz)) rfl rfl (by decide) rfl rfl (bG (bG dW))) Xq.nd)
  (dq (dD (qp Uz (aD rD (aC 6) bf) bf (bN _)) (bW (cT 7 (aR (aC 2) (aD rD (aD vW (aC 6) bf) (sJ uw rfl T.z_len (by decide +kernel) (aH (aC 2) bz)))) Xq.nd)
  (dq (JF (yV PySem.F.plainAttrs_list PySem.F.slot_list_append PySem.F.type_list_append Qx (aC 4) (aH (sU (aH (aR (aC 2) (aD vW (aC 5) (sJ uw rfl T.z_len (by decide +kernel) (aH (aC 1) bz)))) (aH (aR (aC 1) (aD rD (aC 5) (sJ uw rfl T.z_len (by decide +kernel) (aH (aC 1) bz)))) (aH (eF ((zh1 T).mono (by decide)) hr T.vq T.qL.kp T.XS .nil (λ_ _=>ak.nil) (aH (aD vW (aC 6) bf) (aH (aC 1) bz)) rfl rfl (by decide) rfl rfl (bG (bG dW))) (aH (aC 7) bz))))) bz))))) vV))) PassesOwn.never rfl)
  (dq (jR (aC 4)))))
theorem ze3:aX ["_law_stand","_law_k","_law_state","_law_row"] ["_law_stand","_law_k"] (aA zfq):=⟨rfl,rfl,rfl,by decide +kernel,rfl,by decide +kernel,by decide +kernel⟩
theorem zi7 (T:Txt K mg base Ad):a_ P w K mg base iR 1 Ad.oM Ad.oF ["_law_stand","_law_k"] (jo K 2 Xl):=by
 refine a_.imp (cA (m:=Xm) T.tH ze3 λcdv A outer s H hr=>?_) λvs H Q E h=>du h;exact (bW (JC (aC 0) (WN 2 rfl (yL (o8 2 ze3.nd) (yL (o8 3 ze3.nd) W6))))
  (bW (dD (qp (Ex (iJ hr)) (aC 3) (tX []) (bN _)) (dq (jR (sU (aH (aC 2) (aH (aD W_ (tX [95]) (aC 1)) (aH (tX [95]) (aH (tX []) bz))))))) vV)
  (dq (jR (sU (aH (aC 2) (aH (aD W_ (tX [95]) (aC 1)) (aH (aR (aC 3) bf) (aH (aD jU (wD (aC 3) (wA bf) wB) (aD W_ (tX [95]) (zk4 zlt rfl T.z_int (by decide +kernel) (aH (Hy Uz (aC 1) bf (bN _)) bz)))) bz)))))))))
theorem Xw:aX ["_law_rules","_law_stand","_law_state","_law_sign","_law_word","_law_goal"] ["_law_rules","_law_stand"] (aA zfp):=⟨rfl,rfl,rfl,by decide +kernel,rfl,by decide +kernel,by decide +kernel⟩
theorem zju (T:Txt K mg base Ad):a_ P w K mg base iR 1 Ad.oK Ad.oE ["_law_rules","_law_stand"] (jo K 2 Oj):=by
 refine a_.imp (cA (m:=Vl) T.tG Xw λcdv A outer s H hr=>?_) λvs H Q E h=>du h;exact (bW (yK (UJ (aC 0)) (WN 4 rfl (yL (o8 2 Xw.nd) (yL (o8 3 Xw.nd) (yL (o8 4 Xw.nd) (yL (o8 5 Xw.nd) W6))))) (dq (dD (JW.jt (zq (qp (Ex (iJ hr)) (aC 2) (aR (aC 1) bf) (bN _)) (znj (qp (Ex (iJ hr)) (aC 3) (wD (aR (aC 1) bf) wB (wA bf)) (bN _))))) (dq (jR (sU (aH (aC 5) (aH (aD jU (wD (aR (aC 1) bf) (wA bf) wB) (aC 4)) bz))))) vV)) PassesOwn.never rfl)
  (dq (jR NT)))
theorem zf4:aX ["_law_script","_law_signs","_law_letters","_law_rest","_law_at"] ["_law_script","_law_signs"] (aA zg1):=⟨rfl,rfl,rfl,by decide +kernel,rfl,by decide +kernel,by decide +kernel⟩
theorem zni (T:Txt K mg base Ad):a_ P w K mg base iR 2 Ad.uh Ad.ue ["_law_script","_law_signs"] (jo K 2 zg3):=by
 refine a_.imp (cA (m:=Xe) T.wU zf4 λcdv A outer s H hr=>?_) λvs H Q E h=>du h;exact (bW (cT 2 (tX [97,98,99,100,101,102,103,104,105,106,107,108,109,110,111,112,113,114,115,116,117,118,119,120,121,122]) zf4.nd)
  (bW (cT 3 (yV PySem.F.plainAttrs_str PySem.F.slot_str_join PySem.F.type_str_join zks (tX []) (aH (W8 (N:=["_law_signs","_law_sign"]) (capt:=[some 1,none]) (sc0:=aA zg1) (Hs (aC 2)) ⟨rfl,by decide +kernel,by decide +kernel⟩ (by decide +kernel) ⟨⟨rfl,by first | exact Or.inl rfl | exact Or.inr rfl,rfl⟩,trivial⟩ rfl (λcl C fp s H=>(o8 1 (show List.Nodup (["_law_signs","_law_sign"]:List Str) by decide +kernel))) (λcl C fp s H=>(Mq (qp zmr (aC 1) (aC 0) rfl))) (λcl C fp s H=>(aC 1))) bz)) zf4.nd)
  (bW (cT 4 (aD rD (eF ((yM T).mono (by decide)) hr T.cj T.b_.kp T.wC .nil (λ_ _=>ak.nil) (aH (aC 0) (aH bf bz)) rfl rfl (by decide) rfl rfl (bG (bG dW))) (sJ uw rfl T.z_len (by decide +kernel) (aH (aC 3) bz))) zf4.nd)
  (dq (jR (aD jU (aC 1) (wD (aD jU (wD (aC 3) (wA (aC 4)) wB) (wD (aC 3) wB (wA (aC 4)))) wB (wA (aD rD (aD vW (eF ((yM T).mono (by decide)) hr T.cj T.b_.kp T.wC .nil (λ_ _=>ak.nil) (aH (aC 0) (aH bf bz)) rfl rfl (by decide) rfl rfl (bG (bG dW))) bf) bf)))))))))
theorem zfm:aX ["_law_script","_law_more","_law_row","_law_cell_here","_law_at"] ["_law_script","_law_more","_law_row"] (aA zgi):=⟨rfl,rfl,rfl,by decide +kernel,rfl,by decide +kernel,by decide +kernel⟩
theorem zki (T:Txt K mg base Ad):a_ P w K mg base iR 2 Ad.qR Ad.qN ["_law_script","_law_more","_law_row"] (jo K 3 ze7):=by
 refine a_.imp (cA (m:=Xi) T.uC zfm λcdv A outer s H hr=>?_) λvs H Q E h=>du h;exact (bW (cT 3 (aD vW (eF ((yM T).mono (by decide)) hr T.cj T.b_.kp T.wC .nil (λ_ _=>ak.nil) (aH (aC 0) (aH bf bz)) rfl rfl (by decide) rfl rfl (bG (bG dW))) bf) zfm.nd)
  (bW (dD (JW.jt (wM (qp (WM (iJ hr)) (aD rD (aC 3) bf) bf (bN _)) (WD (qp Gz (sJ uw rfl T.z_len (by decide +kernel) (aH (aC 2) bz)) bf (bN _))))) (dq (jR (aC 2))) vV)
  (bW (cT 4 (aD jU bf (aD rD (aD vW (aC 3) bf) (aD Ai (sJ uw rfl T.z_len (by decide +kernel) (aH (aC 2) bz)) bf))) zfm.nd)
  (dq (jR (aD jU (aD jU (wD (aC 2) wB (wA (aC 4))) (aR (aC 1) (wN UT bf))) (wD (aC 2) (wA (aD jU (aC 4) bf)) wB)))))))
theorem zjf:aX ["_law_state","_law_many","_law_found"] ["_law_state","_law_many"] (aA ziy):=⟨rfl,rfl,rfl,by decide +kernel,rfl,by decide +kernel,by decide +kernel⟩
theorem JK (T:Txt K mg base Ad):a_ P w K mg base iR 1 Ad.um Ad.uf ["_law_state","_law_many"] (jo K 2 wX):=by
 refine a_.imp (cA (m:=zQ) T.cX zjf λcdv A outer s H hr=>?_) λvs H Q E h=>NZ h;exact (bW (cT 2 (aD rD (aR (aC 0) bf) (aC 1)) zjf.nd)
  (bW (JC (aD vW (aR (aC 0) bf) (aC 1)) (UL Yt (aC 0) bf))
  (dq (jR (aC 2)))))
theorem zdj:aX ["_law_state","_law_many","_law_text","_law_k"] ["_law_state","_law_many"] (aA ze5):=⟨rfl,rfl,rfl,by decide +kernel,rfl,by decide +kernel,by decide +kernel⟩
theorem zen (T:Txt K mg base Ad):a_ P w K mg base iR 2 Ad.lB Ad.j9 ["_law_state","_law_many"] (jo K 2 Oc):=by
 refine a_.imp (cA (m:=QC) T.iD zdj λcdv A outer s H hr=>?_) λvs H Q E h=>NZ h;exact (bW (cT 2 (tX []) zdj.nd)
  (bW (yK (N_ (aH (aC 1) bz) rfl T.z_range) (o8 3 zdj.nd) (dq (cT 2 (aD jU (aC 2) (aR (tX [97,98,99,100,101,102,103,104,105,106,107,108,109,110,111,112,113,114,115,116,117,118,119,120,121,122]) (eF ((JK T).mono (by decide)) hr T.dB T.cX.kp T.zQ .nil (λ_ _=>ak.nil) (aH (aC 0) (aH bf bz)) rfl rfl (by decide) rfl rfl (bG (bG dW))))) zdj.nd)) PassesOwn.never rfl)
  (dq (jR (aC 2)))))
theorem Vp:aX ["_law_state","_law_rules","_law_k","_law_pair","_law_word","_law_goal"] ["_law_state"] (aA zcy):=⟨rfl,rfl,rfl,by decide +kernel,rfl,by decide +kernel,by decide +kernel⟩
theorem zgt (T:Txt K mg base Ad):a_ P w K mg base iR 3 Ad.iB Ad.fZ ["_law_state"] (jo K 1 X7):=by
 refine a_.imp (cA (m:=X6) T.lQ Vp λcdv A outer s H hr=>?_) λvs H Q E h=>NZ h;exact (bW (cT 1 (Ek bz) Vp.nd)
  (bW (yK (N_ (aH (eF ((JK T).mono (by decide)) hr T.dB T.cX.kp T.zQ .nil (λ_ _=>ak.nil) (aH (aC 0) (aH bf bz)) rfl rfl (by decide) rfl rfl (bG (bG dW))) bz) rfl T.z_range) (o8 2 Vp.nd) (bW (cT 3 (sU (aH (eF ((JK T).mono (by decide)) hr T.dB T.cX.kp T.zQ .nil (λ_ _=>ak.nil) (aH (aC 0) (aH bf bz)) rfl rfl (by decide) rfl rfl (bG (bG dW))) (aH (eF ((zen T).mono (by decide)) hr T.j6 T.iD.kp T.QC .nil (λ_ _=>ak.nil) (aH (aC 0) (aH bf bz)) rfl rfl (by decide) rfl rfl (bG (bG dW))) bz))) Vp.nd)
  (bW (cT 4 (eF ((zen T).mono (by decide)) hr T.j6 T.iD.kp T.QC .nil (λ_ _=>ak.nil) (aH (aC 0) (aH (eF ((JK T).mono (by decide)) hr T.dB T.cX.kp T.zQ .nil (λ_ _=>ak.nil) (aH (aC 0) (aH bf bz)) rfl rfl (by decide) rfl rfl (bG (bG dW))) bz)) rfl rfl (by decide) rfl rfl (bG (bG dW))) Vp.nd)
  (bW (cT 5 (eF ((JK T).mono (by decide)) hr T.dB T.cX.kp T.zQ .nil (λ_ _=>ak.nil) (aH (aC 0) (aH bf bz)) rfl rfl (by decide) rfl rfl (bG (bG dW))) Vp.nd)
  (dq (dD (qp (zm7 (iJ hr)) (aC 3) (W8 (N:=["_law_rule"]) (capt:=[none]) (sc0:=aA zcy) (UJ (aC 1)) ⟨rfl,by decide +kernel,by decide +kernel⟩ (by decide +kernel) trivial rfl (λcl C fp s H=>(o8 0 (show List.Nodup (["_law_rule"]:List Str) by decide +kernel))) (λcl C fp s H=>zk3) (λcl C fp s H=>(wD (aC 0) wB (wA bf)))) rfl) (dq (JF (yV PySem.F.plainAttrs_list PySem.F.slot_list_append PySem.F.type_list_append Qx (aC 1) (aH (aD jU (aC 3) (sU (aH (aC 4) (aH (aC 5) bz)))) bz)))) vV))))) PassesOwn.never rfl)
  (dq (jR (aC 1)))))
theorem Oh:aX ["_law_cell_here","_law_most","_law_state","_law_rules","_law_stand","_law_rule","_law_top","_law_letters"] ["_law_cell_here","_law_most"] (aA Xu):=⟨rfl,rfl,rfl,by decide +kernel,rfl,by decide +kernel,by decide +kernel⟩
theorem zit (T:Txt K mg base Ad):a_ P w K mg base iR 4 Ad.lC Ad.j_ ["_law_cell_here","_law_most"] (jo K 2 Xv):=by
 refine a_.imp (cA (m:=Xy) T.rJ Oh λcdv A outer s H hr=>?_) λvs H Q E h=>du h;exact (bW (cT 2 (Ek (aH (aC 0) bz)) Oh.nd)
  (bW (cT 3 (eF ((zgt T).mono (by decide)) hr T.t_ T.lQ.kp T.X6 .nil (λ_ _=>ak.nil) (aH (aC 2) bz) rfl rfl (by decide) rfl rfl (bG dW)) Oh.nd)
  (bW (cT 4 (sU (aH (eF ((JK T).mono (by decide)) hr T.dB T.cX.kp T.zQ .nil (λ_ _=>ak.nil) (aH (aC 2) (aH bf bz)) rfl rfl (by decide) rfl rfl (bG (bG dW))) (aH (eF ((zen T).mono (by decide)) hr T.j6 T.iD.kp T.QC .nil (λ_ _=>ak.nil) (aH (aC 2) (aH (eF ((JK T).mono (by decide)) hr T.dB T.cX.kp T.zQ .nil (λ_ _=>ak.nil) (aH (aC 2) (aH (aD jU (aC 1) bf) bz)) rfl rfl (by decide) rfl rfl (bG (bG dW))) bz)) rfl rfl (by decide) rfl rfl (bG (bG dW))) bz))) Oh.nd)
  (bW (dD (JW.jt (zq (qp (WM (iJ hr)) (aC 3) (Ek bz) (bN _)) (znj (qp (Ex (iJ hr)) (eF ((JK T).mono (by decide)) hr T.dB T.cX.kp T.zQ .nil (λ_ _=>ak.nil) (aH (aC 2) (aH bf bz)) rfl rfl (by decide) rfl rfl (bG (bG dW))) bf (bN _))))) (bW (cT 5 (aR (aC 3) (eF ((JK T).mono (by decide)) hr T.dB T.cX.kp T.zQ .nil (λ_ _=>ak.nil) (aH (aC 2) (aH (sJ uw rfl T.z_len (by decide +kernel) (aH (aC 3) bz)) bz)) rfl rfl (by decide) rfl rfl (bG (bG dW)))) Oh.nd)
  (dq (cT 4 (sU (aH (aR (aC 5) bf) (aH (aD jU (aR (aC 5) bf) (wD (aR (aC 4) bf) (wA bf) wB)) bz))) Oh.nd))) vV)
  (bW (cT 6 (sJ (zk0 rfl hr.hd) rfl T.z_max (by decide +kernel) (aH (aD jU (Ek (aH (aR (aC 4) bf) bz)) (W8 (N:=["_law_rule"]) (capt:=[none]) (sc0:=aA Xu) (UJ (aC 3)) ⟨rfl,by decide +kernel,by decide +kernel⟩ (by decide +kernel) trivial rfl (λcl C fp s H=>(o8 0 (show List.Nodup (["_law_rule"]:List Str) by decide +kernel))) (λcl C fp s H=>zk3) (λcl C fp s H=>(sJ (zk0 rfl hr.hd) rfl T.z_max (by decide +kernel) (aH (aR (aC 0) bf) (aH (aR (aC 0) bf) bz)))))) bz)) Oh.nd)
  (bW (cT 7 (aD jU (aR (aC 4) bf) (yV PySem.F.plainAttrs_str PySem.F.slot_str_join PySem.F.type_str_join zks (tX []) (aH (W8 (N:=["_law_rule"]) (capt:=[none]) (sc0:=aA Xu) (UJ (aC 3)) ⟨rfl,by decide +kernel,by decide +kernel⟩ (by decide +kernel) trivial rfl (λcl C fp s H=>(o8 0 (show List.Nodup (["_law_rule"]:List Str) by decide +kernel))) (λcl C fp s H=>zk3) (λcl C fp s H=>(aD jU (aR (aC 0) bf) (aR (aC 0) bf)))) bz))) Oh.nd)
  (dq (jR (sU (aH (aC 3) (aH (sJ (zn9 rfl) rfl T.z_min (by decide +kernel) (aH bf (aH (aD jU (aC 6) (eF ((JK T).mono (by decide)) hr T.dB T.cX.kp T.zQ .nil (λ_ _=>ak.nil) (aH (aC 2) (aH bf bz)) rfl rfl (by decide) rfl rfl (bG (bG dW)))) bz))) (aH (yV PySem.F.plainAttrs_str PySem.F.slot_str_join PySem.F.type_str_join zks (tX []) (aH (zms hr.hd rfl T.z_sorted (by decide +kernel) rfl T.z_set (by decide +kernel) rfl T.z_list (by decide +kernel) (aC 7)) bz)) (aH (aC 4) bz)))))))))))))
theorem Oo:aX ["_law_script","_law_signs","_law_states","_law_rules","_law_top","_law_cell_here","_law_more","_law_row"] ["_law_script"] (aA zep):=⟨rfl,rfl,rfl,by decide +kernel,rfl,by decide +kernel,by decide +kernel⟩
theorem zhw (T:Txt K mg base Ad):a_ P w K mg base iR 4 Ad.jP Ad.jG ["_law_script"] (jo K 1 Vi):=by
 refine a_.imp (cA (m:=XD) T.qM Oo λcdv A outer s H hr=>?_) λvs H Q E h=>du h;exact (bW (cT 1 (eF ((zjl T).mono (by decide)) hr T.xr T.tL.kp T.Xr .nil (λ_ _=>ak.nil) (aH (aC 0) bz) rfl rfl (by decide) rfl rfl (bG dW)) Oo.nd)
  (bW (cT 2 (eF ((zhd T).mono (by decide)) hr T.uO T.oX.kp T.XM .nil (λ_ _=>ak.nil) (aH (aC 0) bz) rfl rfl (by decide) rfl rfl (bG dW)) Oo.nd)
  (bW (cT 3 (eF ((zkq T).mono (by decide)) hr T.yj T.uD.kp T.Xk .nil (λ_ _=>ak.nil) (aH (aC 0) (aH (aC 1) (aH (aC 2) (aH bf bz)))) rfl rfl (by decide) rfl rfl (bG (bG (bG (bG dW))))) Oo.nd)
  (bW (cT 4 (aD jU (aR (aC 2) (wN UT bf)) (aR (Ek (aH bf (aH (aD rD (aD vW (eF ((yM T).mono (by decide)) hr T.cj T.b_.kp T.wC .nil (λ_ _=>ak.nil) (aH (aC 0) (aH bf bz)) rfl rfl (by decide) rfl rfl (bG (bG dW))) bf) bf) (aH bf bz)))) (aD rD (eF ((yM T).mono (by decide)) hr T.cj T.b_.kp T.wC .nil (λ_ _=>ak.nil) (aH (aC 0) (aH bf bz)) rfl rfl (by decide) rfl rfl (bG (bG dW))) bf))) Oo.nd)
  (bW (cT 5 (eF ((yM T).mono (by decide)) hr T.cj T.b_.kp T.wC .nil (λ_ _=>ak.nil) (aH (aC 0) (aH bf bz)) rfl rfl (by decide) rfl rfl (bG (bG dW))) Oo.nd)
  (bW (cT 6 (eF ((zni T).mono (by decide)) hr T.CJ T.wU.kp T.Xe .nil (λ_ _=>ak.nil) (aH (aC 0) (aH (aC 1) bz)) rfl rfl (by decide) rfl rfl (bG (bG dW))) Oo.nd)
  (bW (cT 7 (eF ((zki T).mono (by decide)) hr T.yh T.uC.kp T.Xi .nil (λ_ _=>ak.nil) (aH (aC 0) (aH (aC 6) (aH (eF ((zfg T).mono (by decide)) hr T.qz T.jy.kp T.Vh .nil (λ_ _=>ak.nil) (aH (aD vW (aC 5) bf) (aH (aD rD (aC 5) bf) (aH (aC 1) bz))) rfl rfl (by decide) rfl rfl (bG (bG (bG dW)))) bz))) rfl rfl (by decide) rfl rfl (bG (bG (bG dW)))) Oo.nd)
  (dq (jR (sU (aH (aC 3) (aH (aC 4) (aH (aC 6) (aH (sU (aH (aR (aC 2) (aD rD (eF ((yM T).mono (by decide)) hr T.cj T.b_.kp T.wC .nil (λ_ _=>ak.nil) (aH (aC 0) (aH bf bz)) rfl rfl (by decide) rfl rfl (bG (bG dW))) (sJ uw rfl T.z_len (by decide +kernel) (aH (aC 2) bz)))) (aH (aC 7) bz))) bz))))))))))))))
theorem Vj:aX ["_law_rules","_law_stand","_law_most","_law_marks","_law_at","_law_due"] ["_law_rules","_law_stand","_law_most"] (aA ze1):=⟨rfl,rfl,rfl,by decide +kernel,rfl,by decide +kernel,by decide +kernel⟩
theorem zii (T:Txt K mg base Ad):a_ P w K mg base iR 2 Ad.lD Ad.lg ["_law_rules","_law_stand","_law_most"] (jo K 3 Od):=by
 refine a_.imp (cA (m:=Xz) T.rK Vj λcdv A outer s H hr=>?_) λvs H Q E h=>du h;exact (bW (cT 3 zn7 Vj.nd)
  (bW (cT 4 bf Vj.nd)
  (bW (zll (JW.jt (zq (qp zh3 (aC 1) NT (bN _)) (znj (qp zf (aC 4) (aC 2) (bN _))))) (bW (JC (aC 1) (UL (Ow (oV hr)) (aC 3) (aC 4)))
  (bW (cT 5 (eF ((zju T).mono (by decide)) hr T.xn T.tG.kp T.Vl .nil (λ_ _=>ak.nil) (aH (aC 0) (aH (aC 1) bz)) rfl rfl (by decide) rfl rfl (bG (bG dW))) Vj.nd)
  (bW (dD (qp zg9 (aC 5) NT (bN _)) (dq (jR (sU (aH (aC 3) (aH (aC 4) bz))))) vV)
  (bW (cT 4 (aD jU (aD jU (aD jU (aC 4) (aD JD bf (sJ uw rfl T.z_len (by decide +kernel) (aH (aR (aC 1) bf) bz)))) (aD JD bf (aD jU (aD Ai (sJ uw rfl T.z_len (by decide +kernel) (aH (aR (aC 5) bf) bz)) (sJ uw rfl T.z_len (by decide +kernel) (aH (aR (aC 1) bf) bz))) bf))) bf) Vj.nd)
  (dq (cT 1 (aC 5) Vj.nd)))))) PassesOwn.never)
  (dq (jR (sU (aH (aC 3) (aH (aC 2) bz))))))))
theorem ze8:aX ["_law_found","_law_marks","_law_top","_law_k","_law_at","_law_told"] ["_law_found","_law_marks","_law_top","_law_k"] (aA zhg):=⟨rfl,rfl,rfl,by decide +kernel,rfl,by decide +kernel,by decide +kernel⟩
theorem zme (T:Txt K mg base Ad):a_ P w K mg base iR 2 Ad.sE Ad.su ["_law_found","_law_marks","_law_top","_law_k"] (jo K 4 Oa):=by
 refine a_.imp (cA (m:=Xh) T.vD ze8 λcdv A outer s H hr=>?_) λvs H Q E h=>du h;exact (bW (yK (N_ (aH (sJ uw rfl T.z_len (by decide +kernel) (aH (aC 0) bz)) bz) rfl T.z_range) (o8 4 ze8.nd) (bW (cT 5 (eF ((zi1 T).mono (by decide)) hr T.xm T.tE.kp T.Xn .nil (λ_ _=>ak.nil) (aH (aC 2) (aH (aR (aC 0) (aC 4)) bz)) rfl rfl (by decide) rfl rfl (bG (bG dW))) ze8.nd)
  (dq (dD (qp (LC (oV hr)) (aC 4) (aC 1) rfl) (bW (dD (JW.jt (wM (qp (WM (iJ hr)) (aR (aC 0) (aC 4)) (eF ((zi7 T).mono (by decide)) hr T.xq T.tH.kp T.Xm .nil (λ_ _=>ak.nil) (aH (Hv (oV hr) (aC 1) (aC 4)) (aH (aC 3) bz)) rfl rfl (by decide) rfl rfl (bG (bG dW))) (bN _)) (WD (qp (WM (iJ hr)) (aC 5) (Hv (oV hr) (aC 1) (aC 4)) (bN _))))) (dq (jR vA)) vV)
  (dq (cT 3 (aD jU (aC 3) bf) ze8.nd))) (dq (dD (JW.jt (wM (Hn (znx (Hw kit_tuple (aR (aC 0) (aC 4)) rfl T.z_isinstance rfl T.z_tuple (by decide +kernel) (by decide +kernel)))) (wM (qp zf (aR (aR (aC 0) (aC 4)) bf) (aC 2) (bN _)) (WD (qp zh3 (aC 5) NT (bN _)))))) (dq (jR vA)) vV))))) PassesOwn.never rfl)
  (dq (jR vA)))
theorem xV:aX ["_law_script","_law_rules","_law_top","_law_more","_law_stand","_law_k","_law_made","_law_most","_law_found","_law_marks","_law_end"] ["_law_script"] (aA U4):=⟨rfl,rfl,rfl,by decide +kernel,rfl,by decide +kernel,by decide +kernel⟩
theorem GJ (T:Txt K mg base Ad):a_ P w K mg base iR 5 Ad.xO Ad.xM ["_law_script"] (jo K 1 zjc):=by
 refine a_.imp (cA (m:=zla) T.Ni xV λcdv A outer s H hr=>?_) λvs H Q E h=>du h;exact (bW (JC (eF ((zhw T).mono (by decide)) hr T.vy T.qM.kp T.XD .nil (λ_ _=>ak.nil) (aH (aC 0) bz) rfl rfl (by decide) rfl rfl (bG dW)) (WN 4 rfl (yL (o8 1 xV.nd) (yL (o8 2 xV.nd) (yL (o8 3 xV.nd) (yL (o8 4 xV.nd) W6))))))
  (bW (dD (qp (Ex (iJ hr)) (aD rD (eF ((yM T).mono (by decide)) hr T.cj T.b_.kp T.wC .nil (λ_ _=>ak.nil) (aH (aC 0) (aH bf bz)) rfl rfl (by decide) rfl rfl (bG (bG dW))) bf) bf (bN _)) (dq (JC (eF ((zit T).mono (by decide)) hr T.v7 T.rJ.kp T.Xy .nil (λ_ _=>ak.nil) (aH (eF ((yM T).mono (by decide)) hr T.cj T.b_.kp T.wC .nil (λ_ _=>ak.nil) (aH (aC 0) (aH bf bz)) rfl rfl (by decide) rfl rfl (bG (bG dW))) (aH bf bz)) rfl rfl (by decide) rfl rfl (bG (bG dW))) (WN 4 rfl (yL (o8 1 xV.nd) (yL (o8 2 xV.nd) (yL (o8 3 xV.nd) (yL (o8 4 xV.nd) W6))))))) vV)
  (bW (cT 5 (aR (Ek (aH bf (aH bf (aH (aD rD (aD vW (eF ((yM T).mono (by decide)) hr T.cj T.b_.kp T.wC .nil (λ_ _=>ak.nil) (aH (aC 0) (aH bf bz)) rfl rfl (by decide) rfl rfl (bG (bG dW))) bf) bf) bz)))) (aD rD (eF ((yM T).mono (by decide)) hr T.cj T.b_.kp T.wC .nil (λ_ _=>ak.nil) (aH (aC 0) (aH bf bz)) rfl rfl (by decide) rfl rfl (bG (bG dW))) bf)) xV.nd)
  (bW (cT 6 (eF ((zim T).mono (by decide)) hr T.v5 T.rH.kp T.Xx .nil (λ_ _=>ak.nil) (aH (aC 1) (aH (aC 3) (aH (aC 2) bz))) rfl rfl (by decide) rfl rfl (bG (bG (bG dW)))) xV.nd)
  (bW (cT 7 (aD rD (eF ((yM T).mono (by decide)) hr T.cj T.b_.kp T.wC .nil (λ_ _=>ak.nil) (aH (aC 0) (aH bf bz)) rfl rfl (by decide) rfl rfl (bG (bG dW))) bf) xV.nd)
  (bW (dD (qp (Ex (iJ hr)) (aD rD (aD vW (eF ((yM T).mono (by decide)) hr T.cj T.b_.kp T.wC .nil (λ_ _=>ak.nil) (aH (aC 0) (aH bf bz)) rfl rfl (by decide) rfl rfl (bG (bG dW))) bf) bf) bf (bN _)) (dq (cT 7 bf xV.nd)) vV)
  (bW (dD (qp (Ex (iJ hr)) (aD rD (aC 7) bf) bf (bN _)) (bW (cT 7 bf xV.nd)
  (dq (cT 8 (Hz ((zgn T).mono (by decide)) hr T.sZ T.ou.kp T.wy (aH (aC 6) (aH (eF ((zfu T).mono (by decide)) hr T.rE T.j7.kp T.Vg .nil (λ_ _=>ak.nil) (aH (aC 4) (aH (aC 5) bz)) rfl rfl (by decide) rfl rfl (bG (bG dW))) bz)) rfl rfl (by decide) rfl rfl (bG (bG dW))) xV.nd))) (dq (cT 8 (eF ((zgn T).mono (by decide)) hr T.sZ T.ou.kp T.Xp .nil (λ_ _=>ak.nil) (aH (aC 6) (aH (eF ((zfu T).mono (by decide)) hr T.rE T.j7.kp T.Vg .nil (λ_ _=>ak.nil) (aH (aC 4) (aH (aC 5) bz)) rfl rfl (by decide) rfl rfl (bG (bG dW))) (aH (aC 7) bz))) rfl rfl (by decide) rfl rfl (bG (bG (bG dW)))) xV.nd)))
  (bW (JC (eF ((zii T).mono (by decide)) hr T.v8 T.rK.kp T.Xz .nil (λ_ _=>ak.nil) (aH (aC 1) (aH (aC 4) (aH (aC 7) bz))) rfl rfl (by decide) rfl rfl (bG (bG (bG dW)))) (WN 2 rfl (yL (o8 9 xV.nd) (yL (o8 10 xV.nd) W6))))
  (bW (dD (JW.jt (wM (Hn (znx (Hw Hk (aC 8) rfl T.z_isinstance rfl T.z_list (by decide +kernel) (by decide +kernel)))) (WD (qp (WM (iJ hr)) (sJ uw rfl T.z_len (by decide +kernel) (aH (aC 8) bz)) (aD jU (aC 10) bf) (bN _))))) (dq (jR vA)) vV)
  (dq (jR (eF ((zme T).mono (by decide)) hr T.zj T.vD.kp T.Xh .nil (λ_ _=>ak.nil) (aH (aC 8) (aH (aC 9) (aH (aC 2) (aH (aC 5) bz)))) rfl rfl (by decide) rfl rfl (bG (bG (bG (bG dW))))))))))))))))
end
theorem all_mk {l:PySem.W.OpenLaw}{w:World}{K:PySem.W.Frag}{h:Heap}{mg:Str->Option Value}{fa f0 f1 f2 f3 f4 f5 f6 f7 f8 f9 f10 f11 f12 f13 f14 f15 f16 f17 f18 f19 f20 f21 f22 f23 f24 f25 f26 f27 f28 f29 f30 f31 f32:Addr}(X:K.In h)(G:h.Ns mainGlobals mg)(hfa:mg "law" = some (.ref fa))
  {od3 an3:Option Addr} {sl3:Array (Option Value)} {oc3 kV3 dc3 pm3 cd3 ct3:Value}
  {od4 an4:Option Addr} {sl4:Array (Option Value)} {oc4 kV4 dc4 pm4 ct4:Value}
  {od6 an6:Option Addr} {sl6:Array (Option Value)} {oc6 kV6 dc6 pm6 cd6 ct6:Value}
  {abC acG:Option Addr} {abd:Array (Option Value)} {abD abM acC abB aav acE:Value}
  {cY:Addr} (cz_Numbers:PySem.W.nsIn K mainGlobals "Numbers" = some (some (.ref cY))) (cp_Numbers:PySem.W.plainGet K cY Str.empty=true) (ch_Numbers:PySem.W.hasDictIn K cY=true) (co_Numbers:PySem.W.plainOver K cY=true) (cs_Numbers:PySem.W.findIn K (.ref cY) "__setattr__" = some (some (.builtin "object.__setattr__"))) (ck_Numbers:PySem.W.makesIn K cY=true) (ce_Numbers:PySem.W.keepIn K (.ref cY)=true)
  (cn_Numbers_first:PySem.W.findIn K (.ref cY) "first" = some none)
  (cn_Numbers_given:PySem.W.findIn K (.ref cY) "given" = some none)
  (a0:PySem.W.nsIn K mainGlobals "stands_from" = some (some (.ref f0))) {d0:FuncData} (F0:dX K "stands_from" "stands_from" zd2 f0 d0)
  (a1:PySem.W.nsIn K mainGlobals "rule_table" = some (some (.ref f1))) {d1:FuncData} (F1:dX K "rule_table" "rule_table" zei f1 d1)
  (a2:PySem.W.findIn K (.ref cY) "__init__" = some (some (.ref f2))) (i2:PySem.W.isFn K (.ref f2)=true) {d2:FuncData} (F2:dX K "__init__" "Numbers.__init__" zdq f2 d2)
  (a3:PySem.W.findIn K (.ref cY) "number" = some (some (.ref f3))) (i3:PySem.W.isFn K (.ref f3)=true) (l3:K.lookup f3=some ⟨oc3,od3,.func (PySem.W.fnOf "number" "Numbers.number" (cG Vs) (bT Vs) (aA Vs) .none kV3 dc3 pm3 an3 cd3 ct3),sl3⟩) (c3:PySem.W.codeIn K cd3 "Numbers.number" = true) (k3:PySem.W.keepIn K (.ref f3)=true)
  {dT4:Addr} {acA:Value} {acy:Option Addr} {dn4:Nat} {acu:Tok} {acw:Array (Option Value)}
  {q4:Addr}
  (a4:PySem.W.nsIn K mainGlobals "tape_run" = some (some (.ref f4))) (l4:K.lookup f4=some ⟨oc4,od4,.func (PySem.W.fnOf "tape_run" "tape_run" (cG JN) (bT JN) (aA JN) (.ref dT4) kV4 dc4 pm4 an4 (.ref q4) ct4),sl4⟩) (c4:PySem.W.codeIn K (.ref q4) "tape_run" = true) (k4:PySem.W.keepIn K (.ref f4)=true) (h4:PySem.W.codeHdIn K q4 59=true) (n4:K.lookup 59=none) (ld4:K.lookup dT4=some ⟨acA,acy,.seq #[.int 100 acu] dn4,acw⟩)
  (a5:PySem.W.nsIn K mainGlobals "moved_by_table" = some (some (.ref f5))) {d5:FuncData} (F5:dX K "moved_by_table" "moved_by_table" zc7 f5 d5)
  {dT6:Addr} {acz:Value} {acx:Option Addr} {dn6:Nat} {acs:Tok} {acv:Array (Option Value)}
  (a6:PySem.W.nsIn K mainGlobals "row_image" = some (some (.ref f6))) (l6:K.lookup f6=some ⟨oc6,od6,.func (PySem.W.fnOf "row_image" "row_image" (cG Oe) (bT Oe) (aA Oe) (.ref dT6) kV6 dc6 pm6 an6 cd6 ct6),sl6⟩) (c6:PySem.W.codeIn K cd6 "row_image" = true) (k6:PySem.W.keepIn K (.ref f6)=true) (ld6:K.lookup dT6=some ⟨acz,acx,.seq #[.int 0 acs] dn6,acv⟩)
  (a7:PySem.W.nsIn K mainGlobals "row_told" = some (some (.ref f7))) {d7:FuncData} (F7:dX K "row_told" "row_told" zfo f7 d7)
  (a8:PySem.W.nsIn K mainGlobals "make_tape" = some (some (.ref f8))) {d8:FuncData} (F8:dX K "make_tape" "make_tape" zex f8 d8)
  (a9:PySem.W.nsIn K mainGlobals "grow_state" = some (some (.ref f9))) {d9:FuncData} (F9:dX K "grow_state" "grow_state" zek f9 d9)
  (a10:PySem.W.nsIn K mainGlobals "back_state" = some (some (.ref f10))) {d10:FuncData} (F10:dX K "back_state" "back_state" zeq f10 d10)
  (a11:PySem.W.nsIn K mainGlobals "passing_rules" = some (some (.ref f11))) {d11:FuncData} (F11:dX K "passing_rules" "passing_rules" zcn f11 d11)
  (a12:PySem.W.nsIn K mainGlobals "words_left" = some (some (.ref f12))) {d12:FuncData} (F12:dX K "words_left" "words_left" zeh f12 d12)
  (a13:PySem.W.nsIn K mainGlobals "growing_rule" = some (some (.ref f13))) {d13:FuncData} (F13:dX K "growing_rule" "growing_rule" zdt f13 d13)
  (a14:PySem.W.nsIn K mainGlobals "targets_of" = some (some (.ref f14))) {d14:FuncData} (F14:dX K "targets_of" "targets_of" zef f14 d14)
  (a15:PySem.W.nsIn K mainGlobals "_law_cell" = some (some (.ref f15))) {d15:FuncData} (F15:dX K "_law_cell" "_law_cell" zkn f15 d15)
  (a16:PySem.W.nsIn K mainGlobals "_law_alphabet" = some (some (.ref f16))) {d16:FuncData} (F16:dX K "_law_alphabet" "_law_alphabet" zfi f16 d16)
  (a17:PySem.W.nsIn K mainGlobals "_law_some_states" = some (some (.ref f17))) {d17:FuncData} (F17:dX K "_law_some_states" "_law_some_states" zd3 f17 d17)
  (a18:PySem.W.nsIn K mainGlobals "_law_drawn_text" = some (some (.ref f18))) {d18:FuncData} (F18:dX K "_law_drawn_text" "_law_drawn_text" zeg f18 d18)
  (a19:PySem.W.nsIn K mainGlobals "_law_drawn_word" = some (some (.ref f19))) {d19:FuncData} (F19:dX K "_law_drawn_word" "_law_drawn_word" zeo f19 d19)
  (a20:PySem.W.nsIn K mainGlobals "_law_program" = some (some (.ref f20))) {d20:FuncData} (F20:dX K "_law_program" "_law_program" zga f20 d20)
  (a21:PySem.W.nsIn K mainGlobals "_law_image_of" = some (some (.ref f21))) {d21:FuncData} (F21:dX K "_law_image_of" "_law_image_of" zfq f21 d21)
  (a22:PySem.W.nsIn K mainGlobals "_law_row_next" = some (some (.ref f22))) {d22:FuncData} (F22:dX K "_law_row_next" "_law_row_next" zfp f22 d22)
  (a23:PySem.W.nsIn K mainGlobals "_law_wider" = some (some (.ref f23))) {d23:FuncData} (F23:dX K "_law_wider" "_law_wider" zg1 f23 d23)
  (a24:PySem.W.nsIn K mainGlobals "_law_strange" = some (some (.ref f24))) {d24:FuncData} (F24:dX K "_law_strange" "_law_strange" zgi f24 d24)
  (a25:PySem.W.nsIn K mainGlobals "_law_digit" = some (some (.ref f25))) {d25:FuncData} (F25:dX K "_law_digit" "_law_digit" ziy f25 d25)
  (a26:PySem.W.nsIn K mainGlobals "_law_free_text" = some (some (.ref f26))) {d26:FuncData} (F26:dX K "_law_free_text" "_law_free_text" ze5 f26 d26)
  (a27:PySem.W.nsIn K mainGlobals "_law_free_program" = some (some (.ref f27))) {d27:FuncData} (F27:dX K "_law_free_program" "_law_free_program" zcy f27 d27)
  (a28:PySem.W.nsIn K mainGlobals "_law_free_case" = some (some (.ref f28))) {d28:FuncData} (F28:dX K "_law_free_case" "_law_free_case" Xu f28 d28)
  (a29:PySem.W.nsIn K mainGlobals "_law_drawn_case" = some (some (.ref f29))) {d29:FuncData} (F29:dX K "_law_drawn_case" "_law_drawn_case" zep f29 d29)
  (a30:PySem.W.nsIn K mainGlobals "_law_due_marks" = some (some (.ref f30))) {d30:FuncData} (F30:dX K "_law_due_marks" "_law_due_marks" ze1 f30 d30)
  (a31:PySem.W.nsIn K mainGlobals "_law_walked" = some (some (.ref f31))) {d31:FuncData} (F31:dX K "_law_walked" "_law_walked" zhg f31 d31)
  (a32:PySem.W.nsIn K mainGlobals "law" = some (some (.ref f32))) (l32:K.lookup f32=some ⟨abD,abC,.func (PySem.W.fnOf "law" "law" (cG U4) (bT U4) (aA U4) .none abM acC abB acG aav acE),abd⟩) (c32:PySem.W.codeIn K aav "law" = true) (k32:PySem.W.keepIn K (.ref f32)=true)
  {Kq:Tok} (v_BLANK:PySem.W.nsIn K mainGlobals "BLANK" = some (some (.str "_" Kq)))
  (z_int:PySem.W.nsIn K mainGlobals "int" = some none)
  (z_isinstance:PySem.W.nsIn K mainGlobals "isinstance" = some none)
  (z_len:PySem.W.nsIn K mainGlobals "len" = some none)
  (z_list:PySem.W.nsIn K mainGlobals "list" = some none)
  (z_max:PySem.W.nsIn K mainGlobals "max" = some none)
  (z_min:PySem.W.nsIn K mainGlobals "min" = some none)
  (z_range:PySem.W.nsIn K mainGlobals "range" = some none)
  (z_set:PySem.W.nsIn K mainGlobals "set" = some none)
  (z_sorted:PySem.W.nsIn K mainGlobals "sorted" = some none)
  (z_sum:PySem.W.nsIn K mainGlobals "sum" = some none)
  (z_tuple:PySem.W.nsIn K mainGlobals "tuple" = some none)
  :∃fd:FuncData,(∀(s:Shared) (v:Value),BindsTo s fd ⟨[v],[]⟩ [("_law_script",v)])/\(∀p∈tabs,Jv K p.1 p.2)/\∀base:Heap,K.In base->base.Ns mainGlobals mg->BMain mg base->a_ l.prog w K mg base iR 5 fa fd ["_law_script"] (jo K 1 zjc):=by
 have e:=hfa.symm.trans (PySem.W.mg_of X G a32);cases e;have F3:=zcp (st:=Vs) l3 c3 k3;have F4:=Ng (st:=JN) a4 l4 c4 k4;have F6:=Nh (st:=Oe) l6 c6 k6;have F32:=zcp (st:=U4) l32 c32 k32;have b0:=F0.binds (ps:=["step","stand","most"]) λ_ _ _ _ _ _ us hl=>by obtain⟨_,_,_,rfl⟩:=Oq hl;rfl
 have b1:=F1.binds (ps:=["rules"]) λ_ _ _ _ _ _ us hl=>by obtain⟨_,rfl⟩:=Kl hl;rfl
 have b2:=F2.binds (ps:=["self","first"]) λ_ _ _ _ _ _ us hl=>by obtain⟨_,_,rfl⟩:=Bt hl;rfl
 have b3:=F3.binds (ps:=["self","key"]) λ_ _ _ _ _ _ us hl=>by obtain⟨_,_,rfl⟩:=Bt hl;rfl
 have b4:=Jl (x:="tape_run") (qual:="tape_run") (st:=JN) (ps:=["rules","stand","most"]) (kV:=kV4) (doc:=dc4) (pm:=pm4) (cdv:=(.ref q4)) (ct:=ct4) (an:=an4) ld4 λus hl=>match us,hl with | [_,_,_],_=>⟨_,rfl,rfl⟩
 have bd4:=Bk (x:="tape_run") (qual:="tape_run") (st:=JN) (ps:=["rules","stand","most"]) (kV:=kV4) (doc:=dc4) (pm:=pm4) (cdv:=(.ref q4)) (ct:=ct4) (an:=an4) ld4 λus hl=>match us,hl with | [_,_],_=>⟨_,rfl,rfl⟩
 have b5:=F5.binds (ps:=["table","stand"]) λ_ _ _ _ _ _ us hl=>by obtain⟨_,_,rfl⟩:=Bt hl;rfl
 have b6:=Jl (x:="row_image") (qual:="row_image") (st:=Oe) (ps:=["stand","k"]) (kV:=kV6) (doc:=dc6) (pm:=pm6) (cdv:=cd6) (ct:=ct6) (an:=an6) ld6 λus hl=>match us,hl with | [_,_],_=>⟨_,rfl,rfl⟩
 have bd6:=Bk (x:="row_image") (qual:="row_image") (st:=Oe) (ps:=["stand","k"]) (kV:=kV6) (doc:=dc6) (pm:=pm6) (cdv:=cd6) (ct:=ct6) (an:=an6) ld6 λus hl=>match us,hl with | [_],_=>⟨_,rfl,rfl⟩
 have b7:=F7.binds (ps:=["top","stand"]) λ_ _ _ _ _ _ us hl=>by obtain⟨_,_,rfl⟩:=Bt hl;rfl
 have b8:=F8.binds (ps:=["rules","signs","top"]) λ_ _ _ _ _ _ us hl=>by obtain⟨_,_,_,rfl⟩:=Oq hl;rfl
 have b9:=F9.binds (ps:=["numbers","word","target"]) λ_ _ _ _ _ _ us hl=>by obtain⟨_,_,_,rfl⟩:=Oq hl;rfl
 have b10:=F10.binds (ps:=["numbers","target"]) λ_ _ _ _ _ _ us hl=>by obtain⟨_,_,rfl⟩:=Bt hl;rfl
 have b11:=F11.binds (ps:=["state","signs","move"]) λ_ _ _ _ _ _ us hl=>by obtain⟨_,_,_,rfl⟩:=Oq hl;rfl
 have b12:=F12.binds (ps:=["walks"]) λ_ _ _ _ _ _ us hl=>by obtain⟨_,rfl⟩:=Kl hl;rfl
 have b13:=F13.binds (ps:=["numbers","word","target"]) λ_ _ _ _ _ _ us hl=>by obtain⟨_,_,_,rfl⟩:=Oq hl;rfl
 have b14:=F14.binds (ps:=["walks"]) λ_ _ _ _ _ _ us hl=>by obtain⟨_,rfl⟩:=Kl hl;rfl
 have b15:=F15.binds (ps:=["_law_script","_law_k"]) λ_ _ _ _ _ _ us hl=>by obtain⟨_,_,rfl⟩:=Bt hl;rfl
 have b16:=F16.binds (ps:=["_law_script"]) λ_ _ _ _ _ _ us hl=>by obtain⟨_,rfl⟩:=Kl hl;rfl
 have b17:=F17.binds (ps:=["_law_script"]) λ_ _ _ _ _ _ us hl=>by obtain⟨_,rfl⟩:=Kl hl;rfl
 have b18:=F18.binds (ps:=["_law_cell_here","_law_many","_law_signs"]) λ_ _ _ _ _ _ us hl=>by obtain⟨_,_,_,rfl⟩:=Oq hl;rfl
 have b19:=F19.binds (ps:=["_law_cell_here","_law_signs"]) λ_ _ _ _ _ _ us hl=>by obtain⟨_,_,rfl⟩:=Bt hl;rfl
 have b20:=F20.binds (ps:=["_law_script","_law_signs","_law_states","_law_at"]) λ_ _ _ _ _ _ us hl=>by obtain⟨_,_,_,_,rfl⟩:=us4 hl;rfl
 have b21:=F21.binds (ps:=["_law_stand","_law_k"]) λ_ _ _ _ _ _ us hl=>by obtain⟨_,_,rfl⟩:=Bt hl;rfl
 have b22:=F22.binds (ps:=["_law_rules","_law_stand"]) λ_ _ _ _ _ _ us hl=>by obtain⟨_,_,rfl⟩:=Bt hl;rfl
 have b23:=F23.binds (ps:=["_law_script","_law_signs"]) λ_ _ _ _ _ _ us hl=>by obtain⟨_,_,rfl⟩:=Bt hl;rfl
 have b24:=F24.binds (ps:=["_law_script","_law_more","_law_row"]) λ_ _ _ _ _ _ us hl=>by obtain⟨_,_,_,rfl⟩:=Oq hl;rfl
 have b25:=F25.binds (ps:=["_law_state","_law_many"]) λ_ _ _ _ _ _ us hl=>by obtain⟨_,_,rfl⟩:=Bt hl;rfl
 have b26:=F26.binds (ps:=["_law_state","_law_many"]) λ_ _ _ _ _ _ us hl=>by obtain⟨_,_,rfl⟩:=Bt hl;rfl
 have b27:=F27.binds (ps:=["_law_state"]) λ_ _ _ _ _ _ us hl=>by obtain⟨_,rfl⟩:=Kl hl;rfl
 have b28:=F28.binds (ps:=["_law_cell_here","_law_most"]) λ_ _ _ _ _ _ us hl=>by obtain⟨_,_,rfl⟩:=Bt hl;rfl
 have b29:=F29.binds (ps:=["_law_script"]) λ_ _ _ _ _ _ us hl=>by obtain⟨_,rfl⟩:=Kl hl;rfl
 have b30:=F30.binds (ps:=["_law_rules","_law_stand","_law_most"]) λ_ _ _ _ _ _ us hl=>by obtain⟨_,_,_,rfl⟩:=Oq hl;rfl
 have b31:=F31.binds (ps:=["_law_found","_law_marks","_law_top","_law_k"]) λ_ _ _ _ _ _ us hl=>by obtain⟨_,_,_,_,rfl⟩:=us4 hl;rfl
 have b32:=F32.binds (ps:=["_law_script"]) λ_ _ _ _ _ _ us hl=>by obtain⟨_,rfl⟩:=Kl hl;rfl
 exact⟨_,λs v=>.of_eq rfl,List.forall_mem_cons.mpr ⟨Jz.aaV a4 l4 h4 n4,List.forall_mem_nil _⟩,λbase _ _ hB=>GJ (Ad:=⟨_,_,_,_,_,_,_,_,_,_,_,_,_,_,_,_,_,_,_,_,_,_,_,_,_,_,_,_,_,_,_,_,_,_,_,_,_,_,_,_,_,_,_,_,_,_,_,_,_,_,_,_,_,_,_,_,_,_,_,_,_,_,_,_,_,_,_⟩) ⟨hB,F0,PySem.W.mg_of X G a0,b0,F1,PySem.W.mg_of X G a1,b1,F2,⟨ck_Numbers,a2,i2,ce_Numbers⟩,b2,F3,⟨a3,i3,k3⟩,b3,F4,PySem.W.mg_of X G a4,b4,⟨_,bd4⟩,F5,PySem.W.mg_of X G a5,b5,F6,PySem.W.mg_of X G a6,b6,⟨_,bd6⟩,F7,PySem.W.mg_of X G a7,b7,F8,PySem.W.mg_of X G a8,b8,F9,PySem.W.mg_of X G a9,b9,F10,PySem.W.mg_of X G a10,b10,F11,PySem.W.mg_of X G a11,b11,F12,PySem.W.mg_of X G a12,b12,F13,PySem.W.mg_of X G a13,b13,F14,PySem.W.mg_of X G a14,b14,F15,PySem.W.mg_of X G a15,b15,F16,PySem.W.mg_of X G a16,b16,F17,PySem.W.mg_of X G a17,b17,F18,PySem.W.mg_of X G a18,b18,F19,PySem.W.mg_of X G a19,b19,F20,PySem.W.mg_of X G a20,b20,F21,PySem.W.mg_of X G a21,b21,F22,PySem.W.mg_of X G a22,b22,F23,PySem.W.mg_of X G a23,b23,F24,PySem.W.mg_of X G a24,b24,F25,PySem.W.mg_of X G a25,b25,F26,PySem.W.mg_of X G a26,b26,F27,PySem.W.mg_of X G a27,b27,F28,PySem.W.mg_of X G a28,b28,F29,PySem.W.mg_of X G a29,b29,F30,PySem.W.mg_of X G a30,b30,F31,PySem.W.mg_of X G a31,b31,F32,PySem.W.mg_of X G a32,b32,cz_Numbers,PySem.W.mg_of X G cz_Numbers,⟨cp_Numbers,ch_Numbers,co_Numbers,cs_Numbers⟩,cn_Numbers_first,cn_Numbers_given,⟨_,PySem.W.mg_of X G v_BLANK⟩,PySem.W.mg_none_of X G z_int,PySem.W.mg_none_of X G z_isinstance,PySem.W.mg_none_of X G z_len,PySem.W.mg_none_of X G z_list,PySem.W.mg_none_of X G z_max,PySem.W.mg_none_of X G z_min,PySem.W.mg_none_of X G z_range,PySem.W.mg_none_of X G z_set,PySem.W.mg_none_of X G z_sorted,PySem.W.mg_none_of X G z_sum,PySem.W.mg_none_of X G z_tuple⟩⟩
end Law
set_option maxHeartbeats 0
namespace M
open L2
theorem ziz {a b:List Nat}:(strOf a=strOf b)↔a=b:=by
 constructor
 ·intro h;have:=congrArg (λs=>s.cps.toList) h;simpa[strOf] using this
 ·rintro rfl;rfl
noncomputable def wf (st:aq):Prop:=∀o∈st,aJ st.length o
theorem Kf {st:aq}{n:Nat}{o:MO}(h:wf st)(ho:aJ st.length o):∀q∈st.set n o,aJ st.length q:=by
 intro q hq;rcases List.mem_or_eq_of_mem_set hq with hq | rfl
 ·exact h q hq
 ·exact ho
mutual
theorem Qs {n m:Nat}(h:n<=m):∀(d:D),under n d->under m d
 | .non,_=>by simp
 | .bl _,_=>by simp
 | .int _,_=>by simp
 | .str _,_=>by simp
 | .tup ds,u=>by rw[zis]at *;exact Xf h ds u
 | .loc k,u=>by rw[ziu]at *;omega
theorem Xf {n m:Nat}(h:n<=m):∀(ds:List D),bu n ds->bu m ds
 | [],_=>by simp
 | d::ds,u=>by rw[zgb]at *;exact⟨Qs h d u.1,Xf h ds u.2⟩
end
theorem zld {n m:Nat}(h:n<=m)(o:MO)(u:aJ n o):aJ m o:=by
 cases o with
 | lst ds=>exact Xf h ds u
 | frz ds=>exact Xf h ds u
 | dic kvs=>exact λp hp=>Qs h _ (u p hp)
 | dkc kvs=>exact λp hp=>Qs h _ (u p hp)
 | dkf kvs=>exact λp hp=>Qs h _ (u p hp)
 | dtf kvs=>exact λp hp=>Qs h _ (u p hp)
 | ins c fs=>exact λp hp=>Qs h _ (u p hp)
 | tab x=>trivial
 | clo j l ds=>exact Xf h ds u
 | hid=>trivial
 | exc c d=>exact Qs h _ u
theorem WQ {st g:aq}(h:wf st)(hg:∀o∈g,aJ (st++g).length o):wf (st++g):=by
 intro o ho;rcases gw.mp ho with ho | ho
 ·exact zld (by simp) o (h o ho)
 ·exact hg o ho
end M
namespace Law
open L2 M
theorem Q8 {st:aq}{n:Nat}{o:MO}(h:st[n]? = some o):st.set n o=st:=ph λi=>by
 by_cases e:n=i
 ·subst e;rw[mJ (gj.mp h).1,h]
 ·rw[kY e]
theorem zmv (x y:D):List.lookup ("first":PySem.Str) [(("first":PySem.Str),x),(("given":PySem.Str),y)]=some x:=by
 rw[List.lookup];simp
theorem zoa (x y:D):List.lookup ("given":PySem.Str) [(("first":PySem.Str),x),(("given":PySem.Str),y)]=some y:=by
 have:(("given":PySem.Str)==("first":PySem.Str))=false:=by decide
 rw[List.lookup,this,List.lookup];simp
theorem zmb (x y:D):List.lookup ("number":PySem.Str) [(("first":PySem.Str),x),(("given":PySem.Str),y)]=none:=by
 have h1:(("number":PySem.Str)==("first":PySem.Str))=false:=by decide
 have h2:(("number":PySem.Str)==("given":PySem.Str))=false:=by decide
 simp only[List.lookup,h1,h2]
theorem set_set {st:aq}{n:Nat}{o q:MO}:(st.set n o).set n q=st.set n q:=by simp
theorem Ip {st st':aq}{d:D}{o:MO}(hm:o∈st'.take st.length)(h:¬ aJ st.length o):Dr st (.ok d st')=.ok d st':=by
 unfold Dr;dsimp only;rw[if_neg (λz=>h (z.2 o hm))]
noncomputable def rY (n f:Nat):MO:=.ins "Numbers" [("first",.int f),("given",.loc (n+1))]
theorem Mx (st:aq)(f:Nat):Vn [.loc st.length,.int f] (st++[.ins "Numbers" []])=.ok .non (st++[rY st.length f,.dic []]):=by
 have hu:Dr (st++[.ins "Numbers" []]) (.ok .non (st++[rY st.length f,.dic []]))=.ok .non (st++[rY st.length f,.dic []]):=Ip (o:=rY st.length f) (by
  rw[show st++[rY st.length f,.dic []]=(st++[rY st.length f])++[.dic []] by simp,List.take_left' (by simp)];simp) (by
  intro h;have:=h ("given",.loc (st.length+1)) (by simp);simp at this)
 have n1:¬ (("first":PySem.Str) = "given"):=by decide
 unfold Vn qH dF XR uZ rY at *;rw[show startM 2 [D.loc st.length,.int f]=[some (.loc st.length),some (.int f)] from rfl];simp[xK,yd,n1];exact hu
theorem N5 {st:aq}{n:Nat}{ds:List D}(h:az st n=some ds):bY [.loc n] st=.ok (.int ds.length) st:=by
 have h2:=Ci st n ds h;unfold az at h;unfold bY
 split at h
 ·rename_i q;simp only[q];exact h2
 ·rename_i q;simp only[q];exact h2
 ·cases h
end Law
set_option maxHeartbeats 0
namespace M
open L2
structure Rl where
 s:Nat
 x:Nat
 w:List Nat
 g:Nat
inductive TK where
 | gr (w:List Nat) (t:Nat) | bk (t:Nat)
 deriving DecidableEq
inductive TS where
 | tp (n:Nat) | tk (k:TK)
 deriving DecidableEq
open TK TS
structure TQ where
 s:TS
 x:Nat
 w:Nat
 mv:Bool
 g:TS
noncomputable def jg (r:Rl):TQ:=⟨tp r.s,r.x,95,true,tk (gr r.w r.g)⟩
noncomputable def fU (k:TK)(mv:Bool)(c:Nat):TQ:=⟨tk k,c,c,mv,tk k⟩
noncomputable def dM (w:List Nat)(t:Nat):TQ:=match w with
 | []=>⟨tk (gr [] t),95,95,false,tk (bk t)⟩
 | c::r=>⟨tk (gr (c::r) t),95,c,true,tk (gr r t)⟩
noncomputable def qQ (t:Nat):TQ:=⟨tk (bk t),95,95,true,tp t⟩
inductive Gd (RL:List Rl) (signs:List Nat):TQ->Prop where
 | src (r:Rl) (h:r∈RL):Gd RL signs (jg r)
 | pas (w:List Nat) (t c:Nat) (h:c∈signs):Gd RL signs (fU (gr w t) true c)
 | gro (w:List Nat) (t:Nat):Gd RL signs (dM w t)
 | pab (t c:Nat) (h:c∈signs):Gd RL signs (fU (bk t) false c)
 | bak (t:Nat):Gd RL signs (qQ t)
theorem Gd.one {RL:List Rl}{signs:List Nat}(hs:95∉signs)(hR:∀r∈RL,∀r'∈RL,r.s=r'.s->r.x=r'.x->r.w=r'.w/\r.g=r'.g){p q:TQ}(hp:Gd RL signs p)(hq:Gd RL signs q)(e1:p.s=q.s)(e2:p.x=q.x):p=q:=by
 have ng:∀(w:List Nat) (t:Nat),(dM w t).s=tk (gr w t)/\(dM w t).x=95:=λw t=>by cases w<;>exact⟨rfl,rfl⟩
 cases hp with
 | src r h =>
  cases hq with
  | src r' h' =>
   obtain⟨a,b⟩:=hR r h r' h' (TS.tp.inj e1) e2;simp only[jg,fU,qQ]at e1 e2;simp[jg,a,b,e1,e2]
  | pas w t c _=>cases e1
  | gro w t=>rw[(ng w t).1]at e1;cases e1
  | pab t c _=>cases e1
  | bak t=>cases e1
 | pas w t c h =>
  cases hq with
  | src r' h'=>cases e1
  | pas w' t' c' _=>cases e1;cases e2;rfl
  | gro w' t'=>rw[(ng w' t').2]at e2;cases e2;exact absurd h hs
  | pab t c _=>cases e1
  | bak t=>cases e1
 | gro w t =>
  rw[(ng w t).1]at e1;rw[(ng w t).2]at e2;cases hq with
  | src r' h'=>cases e1
  | pas w' t' c' h'=>simp only[fU]at e2;subst e2;exact absurd h' hs
  | gro w' t'=>rw[(ng w' t').1]at e1;cases e1;rfl
  | pab t c _=>cases e1
  | bak t=>cases e1
 | pab t c h =>
  cases hq with
  | src r' h'=>cases e1
  | pas w' t' c' h'=>cases e1
  | gro w' t'=>rw[(ng w' t').1]at e1;cases e1
  | pab t' c' _=>cases e1;cases e2;rfl
  | bak t'=>simp only[fU,qQ]at e2;subst e2;exact absurd h hs
 | bak t =>
  cases hq with
  | src r' h'=>cases e1
  | pas w' t' c' h'=>cases e1
  | gro w' t'=>rw[(ng w' t').1]at e1;cases e1
  | pab t' c' h'=>simp only[fU,qQ]at e2;subst e2;exact absurd h' hs
  | bak t'=>cases e1;rfl
noncomputable def oR:TK->List Key
 | gr w t=>[.inr (strOf [103,114,111,119]),.inr (strOf w),.inl (t:Nat)]
 | bk t=>[.inr (strOf [98,97,99,107]),.inl (t:Nat)]
noncomputable def oU:TK->List D
 | gr w t=>[.str [103,114,111,119],.str w,.int t]
 | bk t=>[.str [98,97,99,107],.int t]
theorem zmw (k:TK):keysOf (oU k)=some (oR k):=by cases k<;>rfl
theorem zlu {a b:TK}(h:oR a=oR b):a=b:=by
 cases a<;>cases b<;>simp[oR,ziz]at h
 ·obtain⟨h1,h2⟩:=h;rw[h1,show _=_ from Int.ofNat.inj h2]
 ·rw[show _=_ from Int.ofNat.inj h]
noncomputable def rQ (k:TK):List TK->Nat
 | []=>0
 | j::ks=>if j=k then 0 else rQ k ks+1
theorem Gk {k:TK}{ks:List TK}(h:k∈ks)(l:List TK):rQ k (ks++l)=rQ k ks:=by
 induction ks with
 | nil=>exact nomatch h
 | cons j ks ih =>
  rw[nG,rQ,rQ];by_cases e:j=k
  ·rw[if_pos e,if_pos e]
  ·rw[if_neg e,if_neg e,ih (by rcases gk.mp h with z | z;exact absurd z.symm e;exact z)]
theorem zn1 {k:TK}{ks:List TK}(h:k∈ks):ks[rQ k ks]? = some k:=by
 induction ks with
 | nil=>exact nomatch h
 | cons j ks ih =>
  rw[rQ];by_cases e:j=k
  ·rw[if_pos e,e];rfl
  ·rw[if_neg e,mF];exact ih (by rcases gk.mp h with z | z;exact absurd z.symm e;exact z)
noncomputable def cz:Nat->List TK->List (List Key×D)
 | _,[]=>[]
 | f,k::ks=>(oR k,.int f)::cz (f+1) ks
theorem zj5:∀(f:Nat) (ks:List TK),(cz f ks).length=ks.length
 | _,[]=>rfl
 | f,k::ks=>by rw[cz,g8,zj5,g8]
theorem zlp:∀(f:Nat) (ks:List TK) (k:TK),cz f (ks++[k])=cz f ks++[(oR k,.int ((f+ks.length:Nat):Int))]
 | f,[],k=>by simp[cz]
 | f,j::ks,k=>by
  rw[nG,cz,zlp (f+1) ks k,cz];simp only[nG,g8];congr 6;omega
theorem yX:∀(f:Nat) (ks:List TK) (k:TK),jm (cz f ks) (oR k)=if k∈ks then some (.int ((f+rQ k ks:Nat):Int)) else none
 | f,[],k=>by simp[cz]
 | f,j::ks,k=>by
  rw[cz,U_,yX (f+1) ks k];by_cases h:j=k
  ·subst h;simp[rQ]
  ·have hk:¬ oR j=oR k:=λz=>h (zlu z);rw[if_neg hk];by_cases hm:k∈ks
   ·rw[if_pos hm,if_pos (by simp[hm]),rQ,if_neg h];congr 3;omega
   ·rw[if_neg hm,if_neg (by simp[hm];exact λz=>h z.symm)]
theorem aaA (f:Nat)(ks:List TK)(k:TK)(h:k∉ks):((cz f ks).any λkv=>decide (kv.1=oR k))=false:=by
 induction ks generalizing f with
 | nil=>rfl
 | cons j ks ih =>
  rw[cz,mD,ih (f+1) (λz=>h (by simp[z]))];have:¬ oR j=oR k:=λz=>h (by simp[zlu z]);simp[this]
noncomputable def bO (ks:List TK)(k:TK):List TK:=if k∈ks then ks else ks++[k]
theorem Qt (ks:List TK)(k:TK):k∈bO ks k:=by unfold bO;split;assumption;simp
theorem U5 (ks:List TK)(k:TK):∃l,bO ks k=ks++l:=by unfold bO;split;exact⟨[],by simp⟩;exact⟨[k],rfl⟩
theorem Vb (ks:List TK)(k:TK):(bO ks k).length<=ks.length+1:=by unfold bO;split<;>simp
noncomputable def bK (f:Nat)(ks:List TK):TS->Nat
 | tp n=>n
 | tk k=>f+rQ k ks
noncomputable def Tf (ks:List TK):TS->Prop
 | tp _=>True
 | tk k=>k∈ks
theorem znd {ks:List TK}{s:TS}(l:List TK)(h:Tf ks s):Tf (ks++l) s:=by
 cases s with
 | tp n=>trivial
 | tk k=>exact h_ _ h
theorem zgy {f:Nat}{ks:List TK}{s:TS}(l:List TK)(h:Tf ks s):bK f (ks++l) s=bK f ks s:=by
 cases s with
 | tp n=>rfl
 | tk k=>show f+rQ k (ks++l)=f+rQ k ks;rw[Gk h]
theorem GK {f:Nat}{ks:List TK}{s u:TS}(h1:Tf ks s)(h2:Tf ks u)(hp:∀n,s=tp n->n<f)(hq:∀n,u=tp n->n<f)(e:bK f ks s=bK f ks u):s=u:=by
 cases s with
 | tp n =>
  cases u with
  | tp m=>exact congrArg tp e
  | tk k=>have:=hp n rfl;simp only[bK]at e;omega
 | tk j =>
  cases u with
  | tp m=>have:=hq m rfl;simp only[bK]at e;omega
  | tk k =>
   simp only[bK]at e;have e2:rQ j ks=rQ k ks:=by omega
   have h1:j∈ks:=h1;have h2:k∈ks:=h2;have a:=zn1 h1;have b:=zn1 h2;rw[e2,b]at a;cases a;rfl
noncomputable def mvC (b:Bool):Nat:=if b then 114 else 108
noncomputable def bJ (f:Nat)(ks:List TK)(r:TQ):D:=.tup [.int (bK f ks r.s:Nat),.str [r.x],.str [r.w],.str [mvC r.mv],.int (bK f ks r.g:Nat)]
noncomputable def qD (ks:List TK)(r:TQ):Prop:=Tf ks r.s/\Tf ks r.g
theorem zgx {ks:List TK}{r:TQ}(l:List TK)(h:qD ks r):qD (ks++l) r:=⟨znd l h.1,znd l h.2⟩
theorem Dv {f:Nat}{ks:List TK}{r:TQ}(l:List TK)(h:qD ks r):bJ f (ks++l) r=bJ f ks r:=by
 unfold bJ;rw[zgy l h.1,zgy l h.2]
theorem zft {f:Nat}{ks:List TK}{rs:List TQ}(l:List TK)(h:∀r∈rs,qD ks r):rs.map (bJ f (ks++l))=rs.map (bJ f ks):=mU λr hr=>Dv l (h r hr)
theorem UW (n f:Nat)(ks:List TK):aJ n (.dic (cz f ks)):=by
 induction ks generalizing f with
 | nil=>intro p hp;exact nomatch hp
 | cons k ks ih =>
  intro p hp;rcases gk.mp hp with rfl | hp
  ·simp
  ·exact ih (f+1) p hp
theorem zhb (n f:Nat)(ks:List TK)(r:TQ):under n (bJ f ks r):=by simp[bJ]
theorem Qy (n f:Nat)(ks:List TK)(rs:List TQ):bu n (rs.map (bJ f ks)):=by
 induction rs with
 | nil=>simp
 | cons r rs ih=>simp[ih,zhb]
end M
namespace Law
open L2 M TK TS
structure uq (st:aq)(a b f:Nat)(ks:List TK):Prop where
 ins:st[a]? = some (.ins "Numbers" [("first",.int f),("given",.loc b)])
 dic:st[b]? = some (.dic (cz f ks))
 ne:a≠b
 wf:M.wf st
theorem uq.set {st:aq}{a b f:Nat}{ks ks':List TK}(h:uq st a b f ks):uq (st.set b (.dic (cz f ks'))) a b f ks':=by
 have hb:=(gj.mp h.dic).1;refine⟨by rw[kY (Ne.symm h.ne)];exact h.ins,mJ hb,h.ne,?_⟩;intro o ho;rw[pF];exact Kf h.wf (UW _ _ _) o ho
theorem zjn {st:aq}{a b f:Nat}{ks:List TK}(h:uq st a b f ks)(m:ME)(env:bA)(hm:m env st=.ok (.loc a) st):rZ "Numbers" "given" m env st=.ok (.loc b) st:=by
 unfold rZ;rw[hm,R.aG];simp only[h.ins];simp only[if_true,zoa]
theorem zov {st:aq}{a b f:Nat}{ks:List TK}(h:uq st a b f ks)(m:ME)(env:bA)(hm:m env st=.ok (.loc a) st):rZ "Numbers" "first" m env st=.ok (.int f) st:=by
 unfold rZ;rw[hm,R.aG];simp only[h.ins];simp only[if_true,zmv]
theorem zng {st:aq}{a b f:Nat}{ks:List TK}(h:uq st a b f ks)(hl:ks.length<100000)(k:TK) :
  Vr [.loc a,.tup (oU k)] st=.ok (.int (bK f (bO ks k) (tk k):Nat)) (st.set b (.dic (cz f (bO ks k)))):=by
 have hb:=(gj.mp h.dic).1;have v0:=yX f ks k;have g1:∀(x:Option D),rZ "Numbers" "given" (vr 0) [some (.loc a),x] st=.ok (.loc b) st:=λx=>zjn h _ _ rfl;have g2:∀(x:Option D),rZ "Numbers" "first" (vr 0) [some (.loc a),x] st=.ok (.int f) st:=λx=>zov h _ _ rfl;have i1:Dh true (.tup (oU k)) (.loc b) st=.ok (.bl (!decide (k∈ks))) st:=by
  simp only[Dh,h.dic,zmw,v0];by_cases c:k∈ks<;>simp[c]
 have h':uq (st.set b (.dic (cz f (bO ks k)))) a b f (bO ks k):=h.set;have g3:∀(x:Option D),rZ "Numbers" "given" (vr 0) [some (.loc a),x] (st.set b (.dic (cz f (bO ks k))))=.ok (.loc b) (st.set b (.dic (cz f (bO ks k)))):=λx=>zjn h' _ _ rfl;have ix:ZG (.loc b) (.tup (oU k)) (st.set b (.dic (cz f (bO ks k))))=.ok (.int (bK f (bO ks k) (tk k):Nat)) (st.set b (.dic (cz f (bO ks k)))):=by
  simp only[ZG,h'.dic,zmw,yX];rw[if_pos (Qt ks k)];rfl
 have hu:Dr st (.ok (.int (bK f (bO ks k) (tk k):Nat)) (st.set b (.dic (cz f (bO ks k)))))=.ok (.int (bK f (bO ks k) (tk k):Nat)) (st.set b (.dic (cz f (bO ks k)))):=by
  have:=U6 (st:=st) (st':=st.set b (.dic (cz f (bO ks k)))) (g:=[]) (d:=.int (bK f (bO ks k) (tk k):Nat)) (by simp) (Kf h.wf (UW _ _ _)) (by simp);simpa using this
 unfold Vr qH dF Vq;rw[show startM 2 [D.loc a,.tup (oU k)]=[some (.loc a),some (.tup (oU k))] from rfl];generalize hG:rZ "Numbers" "given" (vr 0)=G at *;generalize hF:rZ "Numbers" "first" (vr 0)=FF at *;by_cases c:k∈ks
 ·have er:bO ks k=ks:=if_pos c;rw[er]at hu ix ⊢;rw[Q8 h.dic]at hu ix ⊢;rw[decide_eq_true c]at i1;generalize oU k=KT at *;generalize ((bK f ks (tk k):Nat):Int)=N at *;simp[g1,i1,ix];exact hu
 ·have er:bO ks k=ks++[k]:=if_neg c;rw[decide_eq_false c]at i1;have ln:bY [.loc b] st=.ok (.int ks.length) st:=by simp only[bY,h.dic,zj5]
  have e1:(f:Int)+(ks.length:Int)=((f+ks.length:Nat):Int):=by omega
  have sd:oO (.loc b) (.tup (oU k)) (.int ((f+ks.length:Nat):Int)) st=.ok () (st.set b (.dic (cz f (bO ks k)))):=by
   simp only[oO,h.dic,zmw];rw[if_pos (by rw[zj5];omega),er,zlp];unfold Ck;rw[aaA f ks k c,if_neg (by simp)]
  generalize st.set b (.dic (cz f (bO ks k)))=Z at *;generalize oU k=KT at *;generalize ((bK f (bO ks k) (tk k):Nat):Int)=N at *;generalize ((f+ks.length:Nat):Int)=FL at *;simp[g1,g2,i1,ln,e1,sd,g3,ix];exact hu
theorem zm3 {st:aq}{a b f:Nat}{ks:List TK}(h:uq st a b f ks)(hl:ks.length<100000)(k:TK)(mo:ME)(mA:MA)(env:bA)(h1:mo env st=.ok (.loc a) st)(h2:mA env st=.ok [.tup (oU k)] st) :
  vh "Numbers" "number" Vr mo mA env st=.ok (.int (bK f (bO ks k) (tk k):Nat)) (st.set b (.dic (cz f (bO ks k)))):=by
 unfold vh;rw[h1,R.aG];simp only[h.ins];rw[if_pos ⟨trivial,zmb _ _⟩,h2,R.aG];rw[zng h hl k];simp only[h.ins]
 rfl
theorem gcT {st:aq}{a b f:Nat}{ks ks':List TK}(h:uq st a b f ks)(v:Int):Dr st (.ok (.int v) (st.set b (.dic (cz f ks'))))=.ok (.int v) (st.set b (.dic (cz f ks'))):=by
 have:=U6 (st:=st) (st':=st.set b (.dic (cz f ks'))) (g:=[]) (d:=.int v) (by simp) (Kf h.wf (UW _ _ _)) (by simp);simpa using this
theorem ze0 {st:aq}{a b f:Nat}{ks:List TK}(h:uq st a b f ks)(hl:ks.length<100000)(w:List Nat)(t:Nat) :
  E_ [.loc a,.str w,.int t] st=.ok (.int (bK f (bO ks (gr w t)) (tk (gr w t)):Nat)) (st.set b (.dic (cz f (bO ks (gr w t))))):=by
 unfold E_ qH dF Og;rw[show startM 3 [D.loc a,.str w,.int t]=[some (.loc a),some (.str w),some (.int t)] from rfl];have mt:=zm3 h hl (gr w t) (vr 0) (aj (dh (aj (ct (.str [103,114,111,119])) (aj (vr 1) (aj (vr 2) au)))) au) [some (.loc a),some (.str w),some (.int t)] rfl (by simp[oU]);have hu:=gcT h (ks':=bO ks (gr w t)) ((bK f (bO ks (gr w t)) (tk (gr w t)):Nat):Int);generalize vh _ _ _ _ _=MI at *;generalize st.set b (.dic (cz f (bO ks (gr w t))))=Z at *;generalize ((bK f (bO ks (gr w t)) (tk (gr w t)):Nat):Int)=N at *;generalize (t:Int)=T at *;simp[mt];exact hu
theorem zgo {st:aq}{a b f:Nat}{ks:List TK}(h:uq st a b f ks)(hl:ks.length<100000)(t:Nat) :
  Oi [.loc a,.int t] st=.ok (.int (bK f (bO ks (bk t)) (tk (bk t)):Nat)) (st.set b (.dic (cz f (bO ks (bk t))))):=by
 unfold Oi qH dF Vk;rw[show startM 2 [D.loc a,.int t]=[some (.loc a),some (.int t)] from rfl];have mt:=zm3 h hl (bk t) (vr 0) (aj (dh (aj (ct (.str [98,97,99,107])) (aj (vr 1) au))) au) [some (.loc a),some (.int t)] rfl (by simp[oU]);have hu:=gcT h (ks':=bO ks (bk t)) ((bK f (bO ks (bk t)) (tk (bk t)):Nat):Int);generalize vh _ _ _ _ _=MI at *;generalize st.set b (.dic (cz f (bO ks (bk t))))=Z at *;generalize ((bK f (bO ks (bk t)) (tk (bk t)):Nat):Int)=N at *;generalize (t:Int)=T at *;simp[mt];exact hu
end Law
set_option maxHeartbeats 0
namespace M
open L2 TK TS
noncomputable def cB {α:Type}[DecidableEq α](ps:List α)(p:α):List α:=if p∈ps then ps else ps++[p]
theorem zkl {α:Type}[DecidableEq α](ps:List α)(p:α):p∈cB ps p:=by unfold cB;split;assumption;simp
theorem zio {α:Type}[DecidableEq α]{ps:List α}{q:α}(p:α)(h:q∈ps):q∈cB ps p:=by unfold cB;split;exact h;simp[h]
theorem W5 {α:Type}[DecidableEq α]{ps:List α}{p q:α}(h:q∈cB ps p):q∈ps\/q=p:=by
 unfold cB at h
 split at h
 ·exact .inl h
 ·rcases gw.mp h with h | h
  ·exact .inl h
  ·exact .inr (gG.mp h)
theorem U7 {α:Type}[DecidableEq α](ps:List α)(p:α):(cB ps p).length<=ps.length+1:=by unfold cB;split<;>simp
theorem Vf {α:Type}[DecidableEq α]{ps:List α}(h:ps.Nodup)(p:α):(cB ps p).Nodup:=by
 unfold cB
 split
 ·exact h
 ·rename_i hn;rw[mZ];exact⟨h,by simp,λa ha b hb e=>by
   have hb:b=p:=by simpa using hb
   rw[hb]at e;exact hn (e ▸ ha)⟩
noncomputable def zp (p:List Nat×Nat):List Key:=[.inr (strOf p.1),.inl (p.2:Nat)]
theorem Hl {p q:List Nat×Nat}(h:zp p=zp q):p=q:=by
 obtain⟨a,b⟩:=p;obtain⟨c,d⟩:=q;simp only[zp,List.cons.injEq,Sum.inr.injEq,Sum.inl.injEq,and_true,ziz]at h;obtain⟨rfl,h2⟩:=h;have:b=d:=Int.ofNat.inj h2;rw[this]
noncomputable def aW (ps:List (List Nat×Nat)):List (List Key×D):=ps.map λp=>(zp p,.bl true)
theorem Hi (ps:List (List Nat×Nat)):(aW ps).length=ps.length:=by simp[aW]
theorem Hg (ps:List (List Nat×Nat))(p:List Nat×Nat):Ck (aW ps) (zp p) (.bl true)=aW (cB ps p):=by
 unfold Ck cB;by_cases h:p∈ps
 ·rw[if_pos h,if_pos (by simp only[aW,List.any_map,p7];exact⟨p,h,by simp⟩)];unfold aW;rw[gW];refine mU λq _=>?_;simp only[Function.comp]
  split<;>rfl
 ·rw[if_neg h,if_neg]
  ·simp[aW]
  ·simp only[aW,List.any_map,p7,Function.comp,decide_eq_true_eq,not_exists,not_and];intro q hq e;exact h (Hl e ▸ hq)
theorem Sw (p:List Nat×Nat):keysOf [.str p.1,.int (p.2:Nat)]=some (zp p):=rfl
theorem z9 {st:aq}{n:Nat}{ps:List (List Nat×Nat)}(h:st[n]? = some (.dic (aW ps)))(hl:ps.length<1000000)(w:List Nat)(g:Nat):oO (.loc n) (.tup [.str w,.int g]) (.bl true) st=.ok () (st.set n (.dic (aW (cB ps (w,g))))):=by
 have k:=Sw (w,g);simp only at k;simp only[oO,h,k];rw[if_pos (by rw[Hi];exact hl),Hg]
theorem zf2 (ps:List (List Nat×Nat)):(aW ps).map (λp=>D.tup (p.1.map qC))=ps.map λp=>.tup [.str p.1,.int (p.2:Nat)]:=by
 unfold aW;rw[gW];refine mU λp _=>?_;simp[Function.comp,zp,qC]
theorem Vd (n:Nat)(ps:List (List Nat×Nat)):∀p∈aW ps,under n p.2:=by
 intro p hp;obtain⟨q,_,rfl⟩:=gb.mp hp;simp
noncomputable def fL (ts:List Nat):List (Key×D):=ts.map λt=>(.inl (t:Nat),.bl true)
theorem Hj (ts:List Nat)(t:Nat):putN (fL ts) (.inl (t:Nat)) (.bl true)=fL (cB ts t):=by
 unfold putN cB;by_cases h:t∈ts
 ·rw[if_pos h,if_pos (by simp only[fL,List.any_map,p7];exact⟨t,h,by simp⟩)];unfold fL;rw[gW];refine mU λq _=>?_;simp only[Function.comp]
  split<;>rfl
 ·rw[if_neg h,if_neg]
  ·simp[fL]
  ·simp only[fL,List.any_map,p7,Function.comp,decide_eq_true_eq,not_exists,not_and];intro q hq e;have e2:(q:Int)=(t:Nat):=Sum.inl.inj e;have e3:q=t:=by omega
   exact h (e3 ▸ hq)
theorem Q9 {st:aq}{n:Nat}{ts:List Nat}(h:st[n]? = some (.dkc (fL ts)))(hl:ts.length<1000000)(t:Nat):vZ (.loc n) (.int t) (.bl true) st=.ok () (st.set n (.dkc (fL (cB ts t)))):=by
 simp only[vZ,h,C_];rw[if_pos (by simpa[fL] using hl),Hj]
theorem zor (ts:List Nat):(fL ts).map (λp=>qC p.1)=ts.map λt=>D.int (t:Nat):=by
 unfold fL;rw[gW]
 rfl
theorem zjp (n:Nat)(ts:List Nat):∀p∈fL ts,under n p.2:=by
 intro p hp;obtain⟨q,_,rfl⟩:=gb.mp hp;simp
end M
namespace Law
open L2 M TK TS
theorem zjb (v:Int)(signs:List Nat)(mv:List Nat)(st:aq)(hs:∀c∈signs,c<128)(hl:signs.length<=1000) :
  QD [.int v,.str signs,.str mv] st=.ok (.loc st.length) (st++[.lst (signs.map λc=>.tup [.int v,.str [c],.str [c],.str mv,.int v])]):=by
 unfold QD iU dF Vo;rw[show startM 3 [D.int v,.str signs,.str mv]=[some (.int v),some (.str signs),some (.str mv)] from rfl];have cm:=zg0 (capt:=[some 0,some 2,none]) (mi:=By (vr 1)) (g:=aP 2) (e:=dh (aj (vr 0) (aj (vr 2) (aj (vr 2) (aj (vr 1) (aj (vr 0) au)))))) (env:=[some (.int v),some (.str signs),some (.str mv)]) (st:=st) (st1:=st) (items:=signs.map λc=>D.str [c]) (gs:=[])
  (λd=>.tup [.int v,d,d,.str mv,.int v]) (λenv=>∃x,env=[some (.int v),some (.str mv),x]) (by
   have:signs.all (λc=>decide (c<128))=true:=by simpa using hs
   simp;exact hs) ⟨none,rfl⟩ (by simp;omega) (λ_=>by simp) (by
   rintro d hd di ys ⟨x,rfl⟩;refine⟨[some (.int v),some (.str mv),some d],⟨_,rfl⟩,by simp,?_⟩;simp)
 rw[gW]at cm;have g:=Qp (st:=st) (o:=.lst (signs.map λc=>.tup [.int v,.str [c],.str [c],.str mv,.int v])) (by
  rw[show aJ st.length (MO.lst _)=bu st.length _ from rfl,JH];intro d hd;obtain⟨c,_,rfl⟩:=gb.mp hd;simp)
 have e:((λd=>D.tup [.int v,d,d,.str mv,.int v])∘λc=>D.str [c])=λc:Nat=>D.tup [.int v,.str [c],.str [c],.str mv,.int v]:=rfl;rw[e]at cm;generalize hC:fO _ _ _ _ _=C at *;generalize (signs.map λc=>D.tup [.int v,.str [c],.str [c],.str mv,.int v])=Z at *;simp[cm];exact g
noncomputable def yu (ks:List TK)(w:List Nat)(t:Nat):List TK:=match w with
 | []=>bO (bO ks (gr [] t)) (bk t)
 | c::v=>bO (bO ks (gr (c::v) t)) (gr v t)
theorem znb {st:aq}{a b f:Nat}{ks:List TK}(h:uq st a b f ks)(hl:ks.length+2<100000)(w:List Nat)(t:Nat)(hw:w.length<=1000) :
  ∃ks' l,ks'=ks++l/\ks'=yu ks w t/\ks'.length<=ks.length+2/\qD ks' (dM w t)/\Vm [.loc a,.str w,.int t] st=.ok (bJ f ks' (dM w t)) (st.set b (.dic (cz f ks'))):=by
 have s1:=ze0 h (by omega) w t;obtain⟨l1,e1⟩:=U5 ks (gr w t);have n1:=Vb ks (gr w t);have m1:=Qt ks (gr w t);have h1:=h.set (ks':=bO ks (gr w t));generalize J8:bO ks (gr w t)=cJ at *;unfold Vm qH dF X5;rw[show startM 4 [D.loc a,.str w,.int t]=[some (.loc a),some (.str w),some (.int t),none] from rfl];cases w with
 | nil =>
  have s2:=zgo h1 (by omega) t;obtain⟨l2,e2⟩:=U5 cJ (bk t);have n2:=Vb cJ (bk t);have m2:=Qt cJ (bk t);generalize hk2:bO cJ (bk t)=o_ at *;refine⟨o_,l1++l2,by rw[e2,e1,gO],by unfold yu;rw[<-hk2,<-J8],by omega,⟨?_,m2⟩,?_⟩
  ·show gr [] t∈o_;rw[e2];exact h_ _ m1
  ·have hv:bK f cJ (tk (gr [] t))=bK f o_ (tk (gr [] t)):=by rw[e2];exact (zgy l2 (s:=tk (gr [] t)) m1).symm
   rw[hv]at s1;rw[set_set]at s2;have g:=U6 (st:=st) (st':=st.set b (.dic (cz f o_))) (g:=[]) (d:=bJ f o_ (dM [] t)) (by simp) (Kf h.wf (UW _ _ _)) (zhb _ _ _ _);simp only[gZ]at g;have eD:bJ f o_ (dM [] t)=.tup [.int (bK f o_ (tk (gr [] t)):Nat),.str [95],.str [95],.str [108],.int (bK f o_ (tk (bk t)):Nat)]:=rfl;rw[eD]at g ⊢;generalize st.set b (.dic (cz f o_))=Z2 at *;generalize st.set b (.dic (cz f cJ))=Z1 at *;generalize ((bK f o_ (tk (gr [] t)):Nat):Int)=V1 at *;generalize ((bK f o_ (tk (bk t)):Nat):Int)=V2 at *;generalize (t:Int)=T at *;simp[s1,s2];exact g
 | cons c r =>
  have s2:=ze0 h1 (by omega) r t;obtain⟨l2,e2⟩:=U5 cJ (gr r t);have n2:=Vb cJ (gr r t);have m2:=Qt cJ (gr r t);generalize hk2:bO cJ (gr r t)=o_ at *;refine⟨o_,l1++l2,by rw[e2,e1,gO],by unfold yu;rw[<-hk2,<-J8],by omega,⟨?_,m2⟩,?_⟩
  ·show gr (c::r) t∈o_;rw[e2];exact h_ _ m1
  ·have hv:bK f cJ (tk (gr (c::r) t))=bK f o_ (tk (gr (c::r) t)):=by rw[e2];exact (zgy l2 (s:=tk (gr (c::r) t)) m1).symm
   rw[hv]at s1;rw[set_set]at s2;have g:=U6 (st:=st) (st':=st.set b (.dic (cz f o_))) (g:=[]) (d:=bJ f o_ (dM (c::r) t)) (by simp) (Kf h.wf (UW _ _ _)) (zhb _ _ _ _);simp only[gZ]at g;have eD:bJ f o_ (dM (c::r) t)=.tup [.int (bK f o_ (tk (gr (c::r) t)):Nat),.str [95],.str [c],.str [114],.int (bK f o_ (tk (gr r t)):Nat)]:=rfl;rw[eD]at g ⊢;generalize st.set b (.dic (cz f o_))=Z2 at *;generalize st.set b (.dic (cz f cJ))=Z1 at *;generalize ((bK f o_ (tk (gr (c::r) t)):Nat):Int)=V1 at *;generalize ((bK f o_ (tk (gr r t)):Nat):Int)=V2 at *;generalize (t:Int)=T at *;have x1:=HD c r Z1 (by omega);have x2:=wH (c::r) Z1 (by omega);rw[List.tail_cons]at x2;simp[s1,x1,x2,s2];exact g
end Law
set_option maxHeartbeats 0
namespace Law
open L2 M TK TS
theorem U8 (w:List Nat)(k:Nat)(h:k<=w.length):cut w (some (k:Nat)) none=w.drop k:=by
 unfold cut;rw[HT.zog,HT.U9,Nat.min_eq_left h];rw[List.take_of_length_le (by simp)]
structure Lft (ps qs:List (List Nat×Nat))(n:Nat):Prop where
 all:∀p∈ps,∀k,k<=p.1.length->(p.1.drop k,p.2)∈qs
 of_:∀q∈qs,∃p∈ps,∃k,k<=p.1.length/\q=(p.1.drop k,p.2)
 len:qs.length<=n
 nd:qs.Nodup
noncomputable def Al (qs:List (List Nat×Nat))(w:List Nat)(t:Nat):Nat->List (List Nat×Nat)
 | 0=>qs
 | j+1=>cB (Al qs w t j) (w.drop j,t)
noncomputable def Em (ps:List (List Nat×Nat)):List (List Nat×Nat):=ps.foldl (λqs p=>Al qs p.1 p.2 (p.1.length+1)) []
theorem Ha (ps:List (List Nat×Nat))(p:List Nat×Nat):Em (ps++[p])=Al (Em ps) p.1 p.2 (p.1.length+1):=by unfold Em;rw[nj];rfl
theorem zj2 (ps:List (List Nat×Nat))(n B:Nat)(st:aq)(hg:st[n]? = some (.dtf (aW ps)))(hB:∀p∈ps,p.1.length<=B)(hl:ps.length<=1000)(hb:B<=100) :
  ∃qs,qs=Em ps/\Lft ps qs (ps.length*(B+1))/\zdk [.loc n] st=.ok (.loc st.length) (st++[.dic (aW qs)]):=by
 have adg:ps.length*(B+1)<=1000*101:=pA hl (by omega);unfold zdk iU dF XH;generalize hBi:(lU (ct (.bl true)) (t6 oO (vr 1) _):MS)=BI;generalize hBo:(oh (cM _) (aP 3) BI:MS)=BO;obtain⟨di,st',e1,qs,a2,a3,hQ,hq,rfl,rfl⟩:=yW (g:=aP 2) (b:=BO) (gs:=[]) (items:=ps.map λp=>D.tup [.str p.1,.int (p.2:Nat)])
  (λi env s=>∃(qs:List (List Nat×Nat)) (a2 a3:Option D),qs=Em (ps.take i)/\Lft (ps.take i) qs (i*(B+1))/\env=[some (.loc n),some (.loc st.length),a2,a3]/\s=st++[.dic (aW qs)])
  (env:=[some (.loc n),some (.loc st.length),none,none]) (st:=st++[.dic []]) ⟨[],none,none,rfl,⟨by simp,by simp,by simp,by simp⟩,rfl,rfl⟩ (by
   rintro i d env s hi ⟨qs,a2,a3,hQ,hq,rfl,rfl⟩;rw[gF]at hi;obtain⟨⟨w,t⟩,hp,rfl⟩:=my.mp hi;have ym:=gY hp;have TX:=(gj.mp hp).1;have hw:=hB _ ym;simp only at hw;have him:i*(B+1)+(B+1)<=ps.length*(B+1):=by
    have:=pN (B+1) (show i+1<=ps.length by omega);rw[Nat.add_mul,Nat.one_mul]at this;exact this

   obtain⟨bw,st2,e2,uJ,a3',hQ2,ha,xY,hc,hd,rfl,rfl⟩:=yW (g:=aP 3) (b:=BI) (gs:=[]) (items:=je 0 (w.length+1))
    (λj env s=>∃(uJ:List (List Nat×Nat)) (a3:Option D),uJ=Al qs w t j/\(∀q∈qs,q∈uJ)/\(∀k,k<j->(w.drop k,t)∈uJ)/\(∀q∈uJ,q∈qs\/∃k,k<=w.length/\q=(w.drop k,t))/\(uJ.length<=qs.length+j/\uJ.Nodup)/\env=[some (.loc n),some (.loc st.length),some (.tup [.str w,.int t]),a3]/\s=st++[.dic (aW uJ)])
    (env:=[some (.loc n),some (.loc st.length),some (.tup [.str w,.int t]),a3]) (st:=st++[.dic (aW qs)]) ⟨qs,a3,rfl,λ_ h=>h,λk h=>absurd h (by omega),λq h=>.inl h,⟨by omega,hq.nd⟩,rfl,rfl⟩ (by
     rintro j d env s hj ⟨uJ,a3,hQ2,ha,xY,hc,⟨hd,uR⟩,rfl,rfl⟩;obtain⟨hj',rfl⟩:=N7 hj;have ej:(0:Int)+(j:Int)=(j:Int):=by omega
     rw[ej];have ql:=hq.len;have sd:=z9 (st:=st++[.dic (aW uJ)]) (n:=st.length) (ps:=uJ) (by simp) (by omega) (w.drop j) t;have e5:(st++[MO.dic (aW uJ)]).set st.length (.dic (aW (cB uJ (w.drop j,t))))=st++[.dic (aW (cB uJ (w.drop j,t)))]:=by simp
     rw[e5]at sd;have al:=U7 uJ (w.drop j,t);refine⟨by simp,[some (.loc n),some (.loc st.length),some (.tup [.str w,.int t]),some (.int j)],st++[.dic (aW uJ)],by simp,[some (.loc n),some (.loc st.length),some (.tup [.str w,.int t]),some (.int j)],st++[.dic (aW (cB uJ (w.drop j,t)))],.inl ?_,cB uJ (w.drop j,t),_,by rw[hQ2];rfl,λq h=>zio _ (ha q h),?_,?_,⟨by omega,Vf uR _⟩,rfl,rfl⟩
     ·rw[<-hBi];have x1:rP (.str w) (some (j:Int)) none (st++[.dic (aW uJ)])=.ok (.str (w.drop j)) (st++[.dic (aW uJ)]):=by rw[xU _ _ _ _ (by omega),U8 w j (by omega)]
      have x2:∀s,bh (.tup [.str w,.int t]) (.int 0) s=.ok (.str w) s:=λs=>qW _ _ _ _ rfl;have x3:∀s,bh (.tup [.str w,.int t]) (.int 1) s=.ok (.int t) s:=λs=>qW _ _ _ _ rfl;generalize st++[MO.dic (aW (cB uJ (w.drop j,t)))]=Z2 at *;generalize st++[MO.dic (aW uJ)]=Z1 at *;generalize w.drop j=W at *;generalize (t:Int)=T at *;generalize (j:Int)=J at *;generalize D.tup [.str w,.int T]=TT at *;simp[x1,x2,x3,sd]
     ·intro k hk;by_cases hkj:k<j
      ·exact zio _ (xY k hkj)
      ·have:k=j:=by omega
       subst this;exact zkl _ _
     ·intro q V6;rcases W5 V6 with h | h
      ·exact hc q h
      ·exact .inr ⟨j,by omega,h⟩) (λ_ _ _=>by simp)
   rw[N6]at xY hd hQ2;have tk:ps.take (i+1)=ps.take i++[(w,t)]:=by rw[nJ,hp];rfl
   have ql:=hq.len;refine⟨by simp,[some (.loc n),some (.loc st.length),some (.tup [.str w,.int t]),a3],st++[.dic (aW qs)],by simp,[some (.loc n),some (.loc st.length),some (.tup [.str w,.int t]),a3'],st++[.dic (aW uJ)],.inl ?_,uJ,_,_,by rw[tk,Ha,<-hQ];exact hQ2,⟨?_,?_,by rw[Nat.add_mul];omega,hd.2⟩,rfl,rfl⟩
   ·rw[<-hBo];have x2:∀s,bh (.tup [.str w,.int t]) (.int 0) s=.ok (.str w) s:=λs=>qW _ _ _ _ rfl;have ln:∀s,bY [.str w] s=.ok (.int w.length) s:=λs=>by simp[bY,uP];omega
    have en:(w.length:Int)+1=((w.length+1:Nat):Int):=by omega
    have Az:((w.length+1:Nat):Int)<4611686018427387904:=by omega
    have rG:-4611686018427387904<=((w.length+1:Nat):Int):=by omega
    generalize st++[MO.dic (aW uJ)]=Z2 at *;generalize st++[MO.dic (aW qs)]=Z1 at *;generalize D.tup [.str w,.int (t:Int)]=TT at *;have et:(((w.length+1:Nat):Int)).toNat=w.length+1:=by omega
    generalize hN:((w.length+1:Nat):Int)=N at *;simp[x2,ln,en,Az,rG,et,e2]
   ·intro p cZ k hk;rw[tk]at cZ;rcases gw.mp cZ with h | h
    ·exact ha _ (hq.all p h k hk)
    ·have:p=(w,t):=gG.mp h;subst this;exact xY k (Nat.lt_succ_of_le hk)
   ·intro q V6;rcases hc q V6 with h | ⟨k,hk,h⟩
    ·obtain⟨p,h1,h2⟩:=hq.of_ q h;exact⟨p,by rw[tk];exact h_ _ h1,h2⟩
    ·exact⟨(w,t),by rw[tk];simp,k,hk,h⟩) (λ_ _ _=>by simp)
 rw[gf]at hq hQ;rw[nM]at hq hQ;refine⟨qs,hQ,hq,?_⟩;have Dl:=z_ (m:=vr 0) (env:=[some (.loc n),some (.loc st.length),none,none]) (st:=st++[.dic []]) (st1:=st++[.dic []]) rfl (rO hg);rw[zf2]at Dl;have g:=Qp (st:=st) (o:=.dic (aW qs)) (Vd _ _);rw[show startM 4 [D.loc n]=[some (.loc n),none,none,none] from rfl];generalize hD:Dw (vr 0)=DT at *;generalize (ps.map λp=>D.tup [.str p.1,.int (p.2:Nat)])=IT at *;generalize hZ:st++[MO.dic (aW qs)]=Z at *;simp[xK,Dl,e1];exact g
noncomputable def El (ps:List (List Nat×Nat)):List Nat:=ps.foldl (λts p=>cB ts p.2) []
theorem Ft (ps:List (List Nat×Nat))(p:List Nat×Nat):El (ps++[p])=cB (El ps) p.2:=by unfold El;rw[nj];rfl
theorem zjh (ps:List (List Nat×Nat))(n:Nat)(st:aq)(hg:st[n]? = some (.dtf (aW ps)))(hl:ps.length<=1000) :
  ∃ts:List Nat,ts=El ps/\(∀p∈ps,p.2∈ts)/\(∀t∈ts,∃p∈ps,p.2=t)/\ts.length<=ps.length/\ts.Nodup/\Qz [.loc n] st=.ok (.loc st.length) (st++[.dkc (fL ts)]):=by
 unfold Qz iU dF X3;generalize hBi:(lU (ct (.bl true)) (t6 vZ (vr 1) _):MS)=BI;obtain⟨di,st',e1,ts,a2,hT,h1,h2,h3,h4,rfl,rfl⟩:=yW (g:=aP 2) (b:=BI) (gs:=[]) (items:=ps.map λp=>D.tup [.str p.1,.int (p.2:Nat)])
  (λi env s=>∃(ts:List Nat) (a2:Option D),ts=El (ps.take i)/\(∀p∈ps.take i,p.2∈ts)/\(∀t∈ts,∃p∈ps,p.2=t)/\ts.length<=i/\ts.Nodup/\env=[some (.loc n),some (.loc st.length),a2]/\s=st++[.dkc (fL ts)])
  (env:=[some (.loc n),some (.loc st.length),none]) (st:=st++[.dkc []]) ⟨[],none,rfl,by simp,by simp,by simp,by simp,rfl,rfl⟩ (by
   rintro i d env s hi ⟨ts,a2,hT,h1,h2,h3,h4,rfl,rfl⟩;rw[gF]at hi;obtain⟨⟨w,t⟩,hp,rfl⟩:=my.mp hi;have ym:=gY hp;have TX:=(gj.mp hp).1;have tk:ps.take (i+1)=ps.take i++[(w,t)]:=by rw[nJ,hp];rfl
   have sd:=Q9 (st:=st++[.dkc (fL ts)]) (n:=st.length) (ts:=ts) (by simp) (by omega) t;have e5:(st++[MO.dkc (fL ts)]).set st.length (.dkc (fL (cB ts t)))=st++[.dkc (fL (cB ts t))]:=by simp
   rw[e5]at sd;have al:=U7 ts t;refine⟨by simp,[some (.loc n),some (.loc st.length),some (.tup [.str w,.int t])],st++[.dkc (fL ts)],by simp,[some (.loc n),some (.loc st.length),some (.tup [.str w,.int t])],st++[.dkc (fL (cB ts t))],.inl ?_,cB ts t,_,by rw[tk,Ft,<-hT],?_,?_,by omega,Vf h4 _,rfl,rfl⟩
   ·rw[<-hBi];have x3:∀s,bh (.tup [.str w,.int t]) (.int 1) s=.ok (.int t) s:=λs=>qW _ _ _ _ rfl;generalize st++[MO.dkc (fL (cB ts t))]=Z2 at *;generalize st++[MO.dkc (fL ts)]=Z1 at *;generalize (t:Int)=T at *;generalize D.tup [.str w,.int T]=TT at *;simp[x3,sd]
   ·intro p cZ;rw[tk]at cZ;rcases gw.mp cZ with h | h
    ·exact zio _ (h1 p h)
    ·have:p=(w,t):=gG.mp h;subst this;exact zkl _ _
   ·intro q hq;rcases W5 hq with h | h
    ·exact h2 q h
    ·exact⟨(w,t),ym,h.symm⟩) (λ_ _ _=>by simp)
 rw[gf]at h1 h3 hT;rw[nM]at h1 hT;refine⟨ts,hT,h1,h2,h3,h4,?_⟩;have Dl:=z_ (m:=vr 0) (env:=[some (.loc n),some (.loc st.length),none]) (st:=st++[.dkc []]) (st1:=st++[.dkc []]) rfl (rO hg);rw[zf2]at Dl;have g:=Qp (st:=st) (o:=.dkc (fL ts)) (zjp _ _);rw[show startM 3 [D.loc n]=[some (.loc n),none,none] from rfl];generalize hD:Dw (vr 0)=DT at *;generalize (ps.map λp=>D.tup [.str p.1,.int (p.2:Nat)])=IT at *;generalize hZ:st++[MO.dkc (fL ts)]=Z at *;simp[Wq,Dl,e1];exact g
end Law
set_option maxHeartbeats 0
namespace Law
open L2 M TK TS
@[irreducible] noncomputable def WT (st:aq) (f:Nat) (ks:List TK) (rl:List D) (dw:MO) (g:aq):aq:=st++[rY st.length f,.dic (cz f ks),.lst rl,dw]++g
section
variable {st:aq}{f:Nat}{ks:List TK}{rl:List D}{dw:MO}{g:aq}
theorem WT.len:(WT st f ks rl dw g).length=st.length+4+g.length:=by simp[WT];omega
theorem WT.num (h:M.wf st)(hu:∀n,bu n rl)(hd:∀n,aJ n dw)(hg:∀o∈g,∀n,aJ n o):uq (WT st f ks rl dw g) st.length (st.length+1) f ks:=by
 refine⟨by unfold WT;rw[gO,gR (gh _)];simp[rY],by unfold WT;rw[gO,gR (by omega)];simp,by omega,?_⟩;intro o ho;rw[WT.len];unfold WT at ho;rcases gw.mp ho with ho | ho
 ·rcases gw.mp ho with ho | ho
  ·exact zld (by omega) o (h o ho)
  ·simp only[gk,mz,or_false]at ho;rcases ho with rfl | rfl | rfl | rfl
   ·intro p hp;simp only[gk,mz,or_false]at hp;rcases hp with rfl | rfl
    ·simp
    ·simp;omega
   ·exact UW _ _ _
   ·exact hu _
   ·exact hd _
 ·exact hg o ho _
theorem WT.set {ks':List TK}:(WT st f ks rl dw g).set (st.length+1) (.dic (cz f ks'))=WT st f ks' rl dw g:=by
 unfold WT;rw[gO st,mL _ _ (by omega)];simp
theorem WT.old {n:Nat}{o:MO}(h:st[n]? = some o):(WT st f ks rl dw g)[n]? = some o:=by
 unfold WT;exact rO (rO h)
theorem WT.at2:(WT st f ks rl dw g)[st.length+2]? = some (.lst rl):=by
 unfold WT;rw[gO,gR (by omega)];simp
theorem WT.Ww:(WT st f ks rl dw g)[st.length+3]? = some dw:=by
 unfold WT;rw[gO,gR (by omega)];simp
theorem WT.at4 {o:MO}:(WT st f ks rl dw (g++[o]))[st.length+4+g.length]? = some o:=by
 unfold WT;rw[gR (by simp)];simp
theorem WT.Yw {rl':List D}:(WT st f ks rl dw g).set (st.length+2) (.lst rl')=WT st f ks rl' dw g:=by
 unfold WT;rw[gO st,mL _ _ (by omega)];simp
theorem WT.Yv {o:MO}:(WT st f ks rl dw g).set (st.length+3) o=WT st f ks rl o g:=by
 unfold WT;rw[gO st,mL _ _ (by omega)];simp
theorem WT.Yu {o o':MO}:(WT st f ks rl dw (g++[o])).set (st.length+4+g.length) o'=WT st f ks rl dw (g++[o']):=by
 unfold WT;rw[mL _ _ (by simp)];simp
theorem WT.ty:iI "list" (.loc (st.length+2)) (WT st f ks rl dw g)=true:=by simp[iI,WT.at2]
theorem WT.app (hl:rl.length<1000000)(d:D):bU (.loc (st.length+2)) [d] (WT st f ks rl dw g)=.ok .non (WT st f ks (rl++[d]) dw g):=by
 unfold bU;simp only[WT.at2];rw[if_pos hl,WT.Yw]
theorem WT.ext {rs:List D}(hl:rl.length+rs.length<=1000000):jX (.loc (st.length+2)) [.loc (st.length+4+g.length)] (WT st f ks rl dw (g++[.lst rs]))=.ok .non (WT st f ks (rl++rs) dw (g++[.lst rs])):=by
 unfold jX;simp only[WT.at2,WT.at4];rw[if_pos hl,WT.Yw]
theorem WT.snoc {o:MO}:WT st f ks rl dw g++[o]=WT st f ks rl dw (g++[o]):=by simp[WT]
theorem WT.grow (h:M.wf st)(hu:∀n,bu n rl)(hd:∀n,aJ n dw)(hg:∀o∈g,∀n,aJ n o)(hl:ks.length<100000)(w:List Nat)(t:Nat) :
  E_ [.loc st.length,.str w,.int t] (WT st f ks rl dw g)=.ok (.int (bK f (bO ks (gr w t)) (tk (gr w t)):Nat)) (WT st f (bO ks (gr w t)) rl dw g):=by
 rw[ze0 (WT.num h hu hd hg) hl,WT.set]
theorem WT.back (h:M.wf st)(hu:∀n,bu n rl)(hd:∀n,aJ n dw)(hg:∀o∈g,∀n,aJ n o)(hl:ks.length<100000)(t:Nat) :
  Oi [.loc st.length,.int t] (WT st f ks rl dw g)=.ok (.int (bK f (bO ks (bk t)) (tk (bk t)):Nat)) (WT st f (bO ks (bk t)) rl dw g):=by
 rw[zgo (WT.num h hu hd hg) hl,WT.set]
end
noncomputable def aB (r:Rl):D:=.tup [.int r.s,.str [r.x],.str r.w,.int r.g]
noncomputable def dY (signs:List Nat)(ps:List (List Nat×Nat)):List TQ:=(ps.map λp=>signs.map (fU (gr p.1 p.2) true)).flatten
noncomputable def cI (signs:List Nat)(ts:List Nat):List TQ:=(ts.map λt=>signs.map (fU (bk t) false)++[qQ t]).flatten
theorem zg8 (signs:List Nat)(ps:List (List Nat×Nat))(p:List Nat×Nat):dY signs (ps++[p])=dY signs ps++signs.map (fU (gr p.1 p.2) true):=by simp[dY]
theorem zhl (signs:List Nat)(ts:List Nat)(t:Nat):cI signs (ts++[t])=cI signs ts++(signs.map (fU (bk t) false)++[qQ t]):=by simp[cI]
structure Ej (RL:List Rl)(signs:List Nat)(ks:List TK)(ALL:List TQ):Prop where
 good:∀q∈ALL,Gd RL signs q
 inn:∀q∈ALL,qD ks q
 src:∀r∈RL,jg r∈ALL
 pas:∀r∈RL,∀c∈signs,fU (gr r.w r.g) true c∈ALL
 gro:∀r∈RL,∀k,k<=r.w.length->dM (r.w.drop k) r.g∈ALL
 pab:∀r∈RL,∀c∈signs,fU (bk r.g) false c∈ALL
 bak:∀r∈RL,qQ r.g∈ALL
noncomputable def BV (RL:List Rl):List TK:=RL.foldl (λks r=>bO ks (gr r.w r.g)) []
noncomputable def iV (RL:List Rl):List (List Nat×Nat):=RL.foldl (λps r=>cB ps (r.w,r.g)) []
theorem BR (RL:List Rl)(r:Rl):BV (RL++[r])=bO (BV RL) (gr r.w r.g):=by unfold BV;rw[nj];rfl
theorem BP (RL:List Rl)(r:Rl):iV (RL++[r])=cB (iV RL) (r.w,r.g):=by unfold iV;rw[nj];rfl
theorem Zw (RL:List Rl)(signs:List Nat)(top n f:Nat)(st:aq)(lM:M.wf st)(Wa:st[n]? = some (.lst (RL.map aB)))(hl:RL.length<=1000)(hw:∀r∈RL,r.w.length<=100)(B:MS)
  (hB:(aK (lU (ct (.bl true)) (t6 oO (vr 5) (dh (aj (aL bh (vr 6) (ct (.int 2))) (aj (aL bh (vr 6) (ct (.int 3))) au)))))
  (eV (cV "list" bU (vr 4) (aj (dh (aj (aL bh (vr 6) (ct (.int 0))) (aj (aL bh (vr 6) (ct (.int 1))) (aj (ct (.str [95])) (aj (ct (.str [114])) (aj (aF E_ [] (aj (vr 3) (aj (aL bh (vr 6) (ct (.int 2))) (aj (aL bh (vr 6) (ct (.int 3))) au)))) au)))))) au))):MS)=B) :
  ∃ks ps a6,(ks=BV RL/\ps=iV RL)/\ks.length<=RL.length/\ps.length<=RL.length/\ps.Nodup/\(∀r∈RL,(r.w,r.g)∈ps)/\(∀p∈ps,∃r∈RL,p=(r.w,r.g))/\(∀q∈RL.map jg,qD ks q) /\
   cW (aP 6) B [(n,.lst (RL.map aB))] (RL.map aB) [some (.loc n),some (.str signs),some (.int top),some (.loc st.length),some (.loc (st.length+2)),some (.loc (st.length+3)),none,none,none,none,none,none] (WT st f [] [] (.dic []) [])
    = .ok (.nx [some (.loc n),some (.str signs),some (.int top),some (.loc st.length),some (.loc (st.length+2)),some (.loc (st.length+3)),a6,none,none,none,none,none]) (WT st f ks ((RL.map jg).map (bJ f ks)) (.dic (aW ps)) []):=by
 obtain⟨bM,st1,e1,ks,ps,a6,hK,h1,h2,h3,h4,h5,h6,rfl,rfl⟩:=yW (g:=aP 6) (b:=B) (gs:=[(n,.lst (RL.map aB))]) (items:=RL.map aB)
  (λi env s=>∃(ks:List TK) (ps:List (List Nat×Nat)) (a6:Option D),(ks=BV (RL.take i)/\ps=iV (RL.take i))/\ks.length<=i/\ps.length<=i/\ps.Nodup/\(∀r∈RL.take i,(r.w,r.g)∈ps)/\(∀p∈ps,∃r∈RL,p=(r.w,r.g))/\(∀q∈(RL.take i).map jg,qD ks q) /\
   env=[some (.loc n),some (.str signs),some (.int top),some (.loc st.length),some (.loc (st.length+2)),some (.loc (st.length+3)),a6,none,none,none,none,none]/\s=WT st f ks (((RL.take i).map jg).map (bJ f ks)) (.dic (aW ps)) [])
  (env:=[some (.loc n),some (.str signs),some (.int top),some (.loc st.length),some (.loc (st.length+2)),some (.loc (st.length+3)),none,none,none,none,none,none]) (st:=WT st f [] [] (.dic []) [])
  ⟨[],[],none,⟨rfl,rfl⟩,by simp,by simp,by simp,by simp,by simp,by simp,rfl,rfl⟩ (by
   rintro i d env s hi ⟨ks,ps,a6,hK,h1,h2,h3,h4,h5,h6,rfl,rfl⟩;rw[gF]at hi;obtain⟨r,hr,rfl⟩:=my.mp hi;have xu:=gY hr;have TX:=(gj.mp hr).1;have wY:RL.take (i+1)=RL.take i++[r]:=by rw[nJ,hr];rfl
   generalize o4:((RL.take i).map jg).map (bJ f ks)=rl;have Tr:rl.length<=i:=by rw[<-o4];simp;omega
   have hu:∀n,bu n rl:=λn=>by rw[<-o4];exact Qy _ _ _ _
   have sd:=z9 (st:=WT st f ks rl (.dic (aW ps)) []) (n:=st.length+3) (ps:=ps) WT.Ww (by omega) r.w r.g;rw[WT.Yv]at sd;have gs:=WT.grow (st:=st) (f:=f) (ks:=ks) (rl:=rl) (dw:=.dic (aW (cB ps (r.w,r.g)))) (g:=[]) lM hu (λn=>Vd n _) (by simp) (by omega) r.w r.g;obtain⟨l1,yo⟩:=U5 ks (gr r.w r.g);have kl:=Vb ks (gr r.w r.g);have km:=Qt ks (gr r.w r.g);generalize TV:bO ks (gr r.w r.g)=cJ at *;have e0:D.tup [.int r.s,.str [r.x],.str [95],.str [114],.int (bK f cJ (tk (gr r.w r.g)):Nat)]=bJ f cJ (jg r):=rfl;have ap:=WT.app (st:=st) (f:=f) (ks:=cJ) (rl:=rl) (dw:=.dic (aW (cB ps (r.w,r.g)))) (g:=[]) (by omega) (bJ f cJ (jg r));rw[<-e0]at ap;have ty:=WT.ty (st:=st) (f:=f) (ks:=cJ) (rl:=rl) (dw:=.dic (aW (cB ps (r.w,r.g)))) (g:=[]);have QR:=WT.ty (st:=st) (f:=f) (ks:=ks) (rl:=rl) (dw:=.dic (aW (cB ps (r.w,r.g)))) (g:=[]);have fin:rl++[bJ f cJ (jg r)]=((RL.take (i+1)).map jg).map (bJ f cJ):=by
    rw[wY,kE,kE,<-o4,yo,zft l1 h6];rfl
   have al:=U7 ps (r.w,r.g);have hgo:vQ [(n,MO.lst (RL.map aB))] (WT st f ks rl (.dic (aW ps)) []):=by simp[WT.old Wa]
   refine⟨hgo,[some (.loc n),some (.str signs),some (.int top),some (.loc st.length),some (.loc (st.length+2)),some (.loc (st.length+3)),some (aB r),none,none,none,none,none],WT st f ks rl (.dic (aW ps)) [],by generalize WT st f ks rl (.dic (aW ps)) []=Z;simp,[some (.loc n),some (.str signs),some (.int top),some (.loc st.length),some (.loc (st.length+2)),some (.loc (st.length+3)),some (aB r),none,none,none,none,none],WT st f cJ (rl++[bJ f cJ (jg r)]) (.dic (aW (cB ps (r.w,r.g)))) [],.inl ?_,cJ,cB ps (r.w,r.g),_,⟨by rw[wY,BR,<-hK.1];exact TV.symm,by rw[wY,BP,<-hK.2]⟩,by omega,by omega,Vf h3 _,?_,?_,?_,rfl,by rw[fin]⟩
   ·rw[<-hB];have x0:∀s,bh (aB r) (.int 0) s=.ok (.int r.s) s:=λs=>qW _ _ _ _ rfl;have x1:∀s,bh (aB r) (.int 1) s=.ok (.str [r.x]) s:=λs=>qW _ _ _ _ rfl;have x2:∀s,bh (aB r) (.int 2) s=.ok (.str r.w) s:=λs=>qW _ _ _ _ rfl;have x3:∀s,bh (aB r) (.int 3) s=.ok (.int r.g) s:=λs=>qW _ _ _ _ rfl;rw[<-e0];generalize aB r=ER at *;generalize ((bK f cJ (tk (gr r.w r.g)):Nat):Int)=NV at *;generalize WT st f cJ (rl++[D.tup [.int r.s,.str [r.x],.str [95],.str [114],.int NV]]) (.dic (aW (cB ps (r.w,r.g)))) []=Z3 at *;generalize WT st f cJ rl (.dic (aW (cB ps (r.w,r.g)))) []=Z2 at *;generalize WT st f ks rl (.dic (aW (cB ps (r.w,r.g)))) []=Z1 at *;generalize WT st f ks rl (.dic (aW ps)) []=Z0 at *;generalize (r.g:Int)=RG at *;generalize (r.s:Int)=RS at *;simp[x0,x1,x2,x3,sd,gs,ap,ty,QR]
   ·intro q hq;rw[wY]at hq;rcases gw.mp hq with h | h
    ·exact zio _ (h4 q h)
    ·have:q=r:=gG.mp h;subst this;exact zkl _ _
   ·intro q hq;rcases W5 hq with h | h
    ·exact h5 q h
    ·exact⟨r,xu,h⟩
   ·intro q hq;rw[wY,kE]at hq;rcases gw.mp hq with h | h
    ·rw[yo];exact zgx _ (h6 q h)
    ·have:q=jg r:=by simpa using h
     subst this;exact⟨trivial,km⟩) (λ_ _ zz=>by obtain⟨_,_,_,_,_,_,_,_,_,_,_,e⟩:=zz;rw[e];simp[WT.old Wa])
 rw[gf]at h1 h2 h4 h6 e1 hK;rw[nM]at h4 h6 e1 hK;exact⟨ks,ps,a6,hK,h1,h2,h3,h4,h5,h6,e1⟩
end Law
set_option maxHeartbeats 0
namespace Law
open L2 M TK TS
noncomputable def EV (n:Nat)(signs:List Nat)(top m:Nat)(a6 a7 a8 a9 a10 a11:Option D):bA:=[some (.loc n),some (.str signs),some (.int top),some (.loc m),some (.loc (m+2)),some (.loc (m+3)),a6,a7,a8,a9,a10,a11]
noncomputable def Cu (jc:List TK)(ps:List (List Nat×Nat)):List TK:=ps.foldl (λks p=>bO ks (gr p.1 p.2)) jc
theorem Cr (jc:List TK)(ps:List (List Nat×Nat))(p:List Nat×Nat):Cu jc (ps++[p])=bO (Cu jc ps) (gr p.1 p.2):=by unfold Cu;rw[nj];rfl
noncomputable def Dq (jc:List TK)(qs:List (List Nat×Nat)):List TK:=qs.foldl (λks p=>yu ks p.1 p.2) jc
theorem Dp (jc:List TK)(ps:List (List Nat×Nat))(p:List Nat×Nat):Dq jc (ps++[p])=yu (Dq jc ps) p.1 p.2:=by unfold Dq;rw[nj];rfl
noncomputable def Ec (jc:List TK)(ts:List Nat):List TK:=ts.foldl (λks t=>bO ks (bk t)) jc
theorem Eb (jc:List TK)(ts:List Nat)(t:Nat):Ec jc (ts++[t])=bO (Ec jc ts) (bk t):=by unfold Ec;rw[nj];rfl
theorem Zv (ps:List (List Nat×Nat))(signs:List Nat)(top n f:Nat)(st:aq)(lM:M.wf st)(hl:ps.length<=1000)(hs:∀c∈signs,c<128)(ZM:signs.length<=100)(B:MS)(jc:List TK)(R1:List TQ)(h0:∀q∈R1,qD jc q)(hR:R1.length<=1000)(hk:jc.length<=1000)(a6:Option D)
  (hB:(aK (aQ 8 (aF E_ [] (aj (vr 3) (aj (aL bh (vr 7) (ct (.int 0))) (aj (aL bh (vr 7) (ct (.int 1))) au)))))
  (eV (cV "list" jX (vr 4) (aj (aF QD [] (aj (vr 8) (aj (vr 1) (aj (ct (.str [114])) au)))) au))):MS)=B) :
  ∃ks g a7 a8,ks=Cu jc ps/\ks.length<=jc.length+ps.length/\(∀q∈R1++dY signs ps,qD ks q)/\(∀o∈g,∀n,aJ n o)/\(dY signs ps).length<=1000*100 /\
   cW (aP 7) B [] (ps.map λp=>D.tup [.str p.1,.int (p.2:Nat)]) (EV n signs top st.length a6 none none none none none) (WT st f jc (R1.map (bJ f jc)) (.dtf (aW ps)) [])
    = .ok (.nx (EV n signs top st.length a6 a7 a8 none none none)) (WT st f ks ((R1++dY signs ps).map (bJ f ks)) (.dtf (aW ps)) g):=by
 obtain⟨bM,st1,e1,ks,g,a7,a8,hK,h1,h2,h3,h4,rfl,rfl⟩:=yW (g:=aP 7) (b:=B) (gs:=[]) (items:=ps.map λp=>D.tup [.str p.1,.int (p.2:Nat)])
  (λi env s=>∃(ks:List TK) (g:aq) (a7 a8:Option D),ks=Cu jc (ps.take i)/\ks.length<=jc.length+i/\(∀q∈R1++dY signs (ps.take i),qD ks q)/\(∀o∈g,∀n,aJ n o)/\(dY signs (ps.take i)).length<=i*100 /\
   env=EV n signs top st.length a6 a7 a8 none none none/\s=WT st f ks ((R1++dY signs (ps.take i)).map (bJ f ks)) (.dtf (aW ps)) g)
  (env:=EV n signs top st.length a6 none none none none none) (st:=WT st f jc (R1.map (bJ f jc)) (.dtf (aW ps)) [])
  ⟨jc,[],none,none,rfl,by omega,by simpa[dY] using h0,by simp,by simp[dY],rfl,by simp[dY]⟩ (by
   rintro i d env s hi ⟨ks,g,a7,a8,hK,h1,h2,h3,h4,rfl,rfl⟩;rw[gF]at hi;obtain⟨⟨w,t⟩,hr,rfl⟩:=my.mp hi;have xu:=gY hr;have TX:=(gj.mp hr).1;have wY:ps.take (i+1)=ps.take i++[(w,t)]:=by rw[nJ,hr];rfl
   generalize o4:(R1++dY signs (ps.take i)).map (bJ f ks)=rl;have Tr:rl.length<=1000+i*100:=by rw[<-o4];simp;omega
   have hu:∀n,bu n rl:=λn=>by rw[<-o4];exact Qy _ _ _ _
   have gs:=WT.grow (st:=st) (f:=f) (ks:=ks) (rl:=rl) (dw:=.dtf (aW ps)) (g:=g) lM hu (λn=>Vd n _) h3 (by omega) w t;obtain⟨l1,yo⟩:=U5 ks (gr w t);have kl:=Vb ks (gr w t);have km:=Qt ks (gr w t);generalize TV:bO ks (gr w t)=cJ at *;have pa:=zjb ((bK f cJ (tk (gr w t)):Nat):Int) signs [114] (WT st f cJ rl (.dtf (aW ps)) g) hs (by omega);rw[WT.len,WT.snoc]at pa;have eP:(signs.map λc=>D.tup [.int (bK f cJ (tk (gr w t)):Nat),.str [c],.str [c],.str [114],.int (bK f cJ (tk (gr w t)):Nat)])=(signs.map (fU (gr w t) true)).map (bJ f cJ):=by
    rw[gW];rfl
   rw[eP]at pa;generalize Tv:(signs.map (fU (gr w t) true)).map (bJ f cJ)=PS at *;have jW:PS.length=signs.length:=by rw[<-Tv];simp
   have hxt:=WT.ext (st:=st) (f:=f) (ks:=cJ) (rl:=rl) (dw:=.dtf (aW ps)) (g:=g) (rs:=PS) (by omega);have ty:=WT.ty (st:=st) (f:=f) (ks:=cJ) (rl:=rl) (dw:=.dtf (aW ps)) (g:=g++[.lst PS]);have QR:=WT.ty (st:=st) (f:=f) (ks:=cJ) (rl:=rl) (dw:=.dtf (aW ps)) (g:=g);have fin:rl++PS=(R1++dY signs (ps.take (i+1))).map (bJ f cJ):=by
    rw[wY,zg8,<-gO,kE,<-o4,yo,zft l1 h2,<-yo,Tv]
   refine⟨by simp,EV n signs top st.length a6 (some (.tup [.str w,.int t])) a8 none none none,WT st f ks rl (.dtf (aW ps)) g,by generalize WT st f ks rl (.dtf (aW ps)) g=Z;unfold EV;simp,EV n signs top st.length a6 (some (.tup [.str w,.int t])) (some (.int (bK f cJ (tk (gr w t)):Nat))) none none none,WT st f cJ (rl++PS) (.dtf (aW ps)) (g++[.lst PS]),.inl ?_,cJ,g++[.lst PS],_,_,by rw[wY,Cr,<-hK];exact TV.symm,by omega,?_,?_,?_,rfl,by rw[fin]⟩
   ·rw[<-hB];have x0:∀s,bh (.tup [.str w,.int t]) (.int 0) s=.ok (.str w) s:=λs=>qW _ _ _ _ rfl;have x1:∀s,bh (.tup [.str w,.int t]) (.int 1) s=.ok (.int t) s:=λs=>qW _ _ _ _ rfl;generalize ((bK f cJ (tk (gr w t)):Nat):Int)=NV at *;generalize WT st f cJ (rl++PS) (.dtf (aW ps)) (g++[.lst PS])=Z3 at *;generalize WT st f cJ rl (.dtf (aW ps)) (g++[.lst PS])=Z2 at *;generalize WT st f cJ rl (.dtf (aW ps)) g=Z1 at *;generalize WT st f ks rl (.dtf (aW ps)) g=Z0 at *;generalize (t:Int)=RG at *;generalize D.tup [.str w,.int RG]=TT at *;generalize st.length+4+g.length=Y at *;unfold EV;simp[x0,x1,gs,pa,hxt,ty,QR]
   ·intro q hq;rw[wY,zg8,<-gO]at hq;rcases gw.mp hq with h | h
    ·rw[yo];exact zgx _ (h2 q h)
    ·obtain⟨c,_,rfl⟩:=gb.mp h;exact⟨km,km⟩
   ·intro o ho;rcases gw.mp ho with h | h
    ·exact h3 o h
    ·have:o=_:=gG.mp h;subst this;intro m;rw[<-Tv];exact Qy _ _ _ _
   ·rw[wY,zg8,gC,gf];omega) (λ_ _ _=>by simp)
 rw[gf]at h1 h2 h4 e1 hK;rw[nM]at h2 h4 e1 hK;exact⟨ks,g,a7,a8,hK,h1,h2,h3,by have:=pN 100 hl;omega,e1⟩
theorem Zu (qs:List (List Nat×Nat))(dw:MO)(hdw:∀n,aJ n dw)(signs:List Nat)(top n f:Nat)(st:aq)(lM:M.wf st)(hl:qs.length<=40000)(hq:∀p∈qs,p.1.length<=100)(B:MS)(jc:List TK)(R1:List TQ)(h0:∀q∈R1,qD jc q)(hR:R1.length<=200000)(hk:jc.length<=2000)(g:aq)(hg:∀o∈g,∀n,aJ n o)(a6 a7 a8 a9:Option D)
  (hB:(eV (cV "list" bU (vr 4) (aj (aF Vm [] (aj (vr 3) (aj (aL bh (vr 10) (ct (.int 0))) (aj (aL bh (vr 10) (ct (.int 1))) au)))) au)):MS)=B) :
  ∃ks a10,ks=Dq jc qs/\ks.length<=jc.length+2*qs.length/\(∀q∈R1++qs.map (λp=>dM p.1 p.2),qD ks q) /\
   cW (aP 10) B [] (qs.map λp=>D.tup [.str p.1,.int (p.2:Nat)]) (EV n signs top st.length a6 a7 a8 a9 none none) (WT st f jc (R1.map (bJ f jc)) dw g)
    = .ok (.nx (EV n signs top st.length a6 a7 a8 a9 a10 none)) (WT st f ks ((R1++qs.map (λp=>dM p.1 p.2)).map (bJ f ks)) dw g):=by
 obtain⟨bM,st1,e1,ks,a10,hK,h1,h2,rfl,rfl⟩:=yW (g:=aP 10) (b:=B) (gs:=[]) (items:=qs.map λp=>D.tup [.str p.1,.int (p.2:Nat)])
  (λi env s=>∃(ks:List TK) (a10:Option D),ks=Dq jc (qs.take i)/\ks.length<=jc.length+2*i/\(∀q∈R1++(qs.take i).map (λp=>dM p.1 p.2),qD ks q) /\
   env=EV n signs top st.length a6 a7 a8 a9 a10 none/\s=WT st f ks ((R1++(qs.take i).map (λp=>dM p.1 p.2)).map (bJ f ks)) dw g)
  (env:=EV n signs top st.length a6 a7 a8 a9 none none) (st:=WT st f jc (R1.map (bJ f jc)) dw g)
  ⟨jc,none,rfl,by omega,by simpa using h0,rfl,by simp⟩ (by
   rintro i d env s hi ⟨ks,a10,hK,h1,h2,rfl,rfl⟩;rw[gF]at hi;obtain⟨⟨w,t⟩,hr,rfl⟩:=my.mp hi;have xu:=gY hr;have TX:=(gj.mp hr).1;have Ph:=hq _ xu;simp only at Ph;have wY:qs.take (i+1)=qs.take i++[(w,t)]:=by rw[nJ,hr];rfl
   generalize o4:(R1++(qs.take i).map (λp=>dM p.1 p.2)).map (bJ f ks)=rl;have Tr:rl.length<=200000+i:=by rw[<-o4];simp;omega
   have hu:∀n,bu n rl:=λn=>by rw[<-o4];exact Qy _ _ _ _
   obtain⟨cJ,l1,yo,TV,kl,J9,gs⟩:=znb (WT.num (st:=st) (f:=f) (ks:=ks) (rl:=rl) (dw:=dw) (g:=g) lM hu hdw hg) (by omega) w t (by omega);rw[WT.set]at gs;have ap:=WT.app (st:=st) (f:=f) (ks:=cJ) (rl:=rl) (dw:=dw) (g:=g) (by omega) (bJ f cJ (dM w t));have ty:=WT.ty (st:=st) (f:=f) (ks:=cJ) (rl:=rl) (dw:=dw) (g:=g);have QR:=WT.ty (st:=st) (f:=f) (ks:=ks) (rl:=rl) (dw:=dw) (g:=g);have fin:rl++[bJ f cJ (dM w t)]=(R1++(qs.take (i+1)).map (λp=>dM p.1 p.2)).map (bJ f cJ):=by
    have e9:R1++(qs.take (i+1)).map (λp=>dM p.1 p.2)=(R1++(qs.take i).map (λp=>dM p.1 p.2))++[dM w t]:=by rw[wY];simp
    rw[e9,kE,<-o4,yo,zft l1 h2];rfl
   refine⟨by simp,EV n signs top st.length a6 a7 a8 a9 (some (.tup [.str w,.int t])) none,WT st f ks rl dw g,by generalize WT st f ks rl dw g=Z;unfold EV;simp,EV n signs top st.length a6 a7 a8 a9 (some (.tup [.str w,.int t])) none,WT st f cJ (rl++[bJ f cJ (dM w t)]) dw g,.inl ?_,cJ,_,by rw[wY,Dp,<-hK];exact TV,by omega,?_,rfl,by rw[fin]⟩
   ·rw[<-hB];have x0:∀s,bh (.tup [.str w,.int t]) (.int 0) s=.ok (.str w) s:=λs=>qW _ _ _ _ rfl;have x1:∀s,bh (.tup [.str w,.int t]) (.int 1) s=.ok (.int t) s:=λs=>qW _ _ _ _ rfl;generalize bJ f cJ (dM w t)=ER at *;generalize WT st f cJ (rl++[ER]) dw g=Z3 at *;generalize WT st f cJ rl dw g=Z1 at *;generalize WT st f ks rl dw g=Z0 at *;generalize (t:Int)=RG at *;generalize D.tup [.str w,.int RG]=TT at *;unfold EV;simp[x0,x1,gs,ap,ty,QR]
   ·intro q V6;rw[wY,kE,<-gO]at V6;rcases gw.mp V6 with h | h
    ·rw[yo];exact zgx _ (h2 q h)
    ·have:q=dM w t:=by simpa using h
     subst this;exact J9) (λ_ _ _=>by simp)
 rw[gf]at h1 h2 e1 hK;rw[nM]at h2 e1 hK;exact⟨ks,a10,hK,h1,h2,e1⟩
theorem Zt (ts:List Nat)(dw:MO)(hdw:∀n,aJ n dw)(signs:List Nat)(top n f:Nat)(st:aq)(lM:M.wf st)(hl:ts.length<=1000)(hs:∀c∈signs,c<128)(ZM:signs.length<=100)(B:MS)(jc:List TK)(R1:List TQ)(h0:∀q∈R1,qD jc q)(hR:R1.length<=400000)(hk:jc.length<=90000)(g0:aq)(hg0:∀o∈g0,∀n,aJ n o)(a6 a7 a8 a9 a10:Option D)
  (hB:(aK (aQ 8 (aF Oi [] (aj (vr 3) (aj (vr 11) au))))
  (aK (eV (cV "list" jX (vr 4) (aj (aF QD [] (aj (vr 8) (aj (vr 1) (aj (ct (.str [108])) au)))) au)))
  (eV (cV "list" bU (vr 4) (aj (dh (aj (vr 8) (aj (ct (.str [95])) (aj (ct (.str [95])) (aj (ct (.str [114])) (aj (vr 11) au)))))) au)))):MS)=B) :
  ∃ks g a8' a11,ks=Ec jc ts/\ks.length<=jc.length+ts.length/\(∀q∈R1++cI signs ts,qD ks q)/\(∀o∈g,∀n,aJ n o)/\(cI signs ts).length<=1000*101 /\
   cW (aP 11) B [] (ts.map λt=>D.int (t:Nat)) (EV n signs top st.length a6 a7 a8 a9 a10 none) (WT st f jc (R1.map (bJ f jc)) dw g0)
    = .ok (.nx (EV n signs top st.length a6 a7 a8' a9 a10 a11)) (WT st f ks ((R1++cI signs ts).map (bJ f ks)) dw g):=by
 obtain⟨bM,st1,e1,ks,g,a8',a11,hK,h1,h2,h3,h4,rfl,rfl⟩:=yW (g:=aP 11) (b:=B) (gs:=[]) (items:=ts.map λt=>D.int (t:Nat))
  (λi env s=>∃(ks:List TK) (g:aq) (a8 a11:Option D),ks=Ec jc (ts.take i)/\ks.length<=jc.length+i/\(∀q∈R1++cI signs (ts.take i),qD ks q)/\(∀o∈g,∀n,aJ n o)/\(cI signs (ts.take i)).length<=i*101 /\
   env=EV n signs top st.length a6 a7 a8 a9 a10 a11/\s=WT st f ks ((R1++cI signs (ts.take i)).map (bJ f ks)) dw g)
  (env:=EV n signs top st.length a6 a7 a8 a9 a10 none) (st:=WT st f jc (R1.map (bJ f jc)) dw g0)
  ⟨jc,g0,a8,none,rfl,by omega,by simpa[cI] using h0,hg0,by simp[cI],rfl,by simp[cI]⟩ (by
   rintro i d env s hi ⟨ks,g,a8,a11,hK,h1,h2,h3,h4,rfl,rfl⟩;rw[gF]at hi;obtain⟨t,hr,rfl⟩:=my.mp hi;have TX:=(gj.mp hr).1;have wY:ts.take (i+1)=ts.take i++[t]:=by rw[nJ,hr];rfl
   generalize o4:(R1++cI signs (ts.take i)).map (bJ f ks)=rl;have Tr:rl.length<=400000+i*101:=by rw[<-o4];simp;omega
   have hu:∀n,bu n rl:=λn=>by rw[<-o4];exact Qy _ _ _ _
   have gs:=WT.back (st:=st) (f:=f) (ks:=ks) (rl:=rl) (dw:=dw) (g:=g) lM hu hdw h3 (by omega) t;obtain⟨l1,yo⟩:=U5 ks (bk t);have kl:=Vb ks (bk t);have km:=Qt ks (bk t);generalize TV:bO ks (bk t)=cJ at *;have pa:=zjb ((bK f cJ (tk (bk t)):Nat):Int) signs [108] (WT st f cJ rl dw g) hs (by omega);rw[WT.len,WT.snoc]at pa;have eP:(signs.map λc=>D.tup [.int (bK f cJ (tk (bk t)):Nat),.str [c],.str [c],.str [108],.int (bK f cJ (tk (bk t)):Nat)])=(signs.map (fU (bk t) false)).map (bJ f cJ):=by
    rw[gW];rfl
   rw[eP]at pa;generalize Tv:(signs.map (fU (bk t) false)).map (bJ f cJ)=PS at *;have jW:PS.length=signs.length:=by rw[<-Tv];simp
   have hxt:=WT.ext (st:=st) (f:=f) (ks:=cJ) (rl:=rl) (dw:=dw) (g:=g) (rs:=PS) (by omega);have e0:D.tup [.int (bK f cJ (tk (bk t)):Nat),.str [95],.str [95],.str [114],.int t]=bJ f cJ (qQ t):=rfl;have ap:=WT.app (st:=st) (f:=f) (ks:=cJ) (rl:=rl++PS) (dw:=dw) (g:=g++[.lst PS]) (by simp;omega) (bJ f cJ (qQ t));rw[<-e0]at ap;have ty:=WT.ty (st:=st) (f:=f) (ks:=cJ) (rl:=rl) (dw:=dw) (g:=g++[.lst PS]);have QR:=WT.ty (st:=st) (f:=f) (ks:=cJ) (rl:=rl) (dw:=dw) (g:=g);have ty1:=WT.ty (st:=st) (f:=f) (ks:=cJ) (rl:=rl++PS) (dw:=dw) (g:=g++[.lst PS]);have fin:rl++PS++[bJ f cJ (qQ t)]=(R1++cI signs (ts.take (i+1))).map (bJ f cJ):=by
    have e9:R1++cI signs (ts.take (i+1))=(R1++cI signs (ts.take i))++signs.map (fU (bk t) false)++[qQ t]:=by rw[wY,zhl];simp
    rw[e9,kE,kE,Tv,<-o4];have e8:(R1++cI signs (ts.take i)).map (bJ f cJ)=(R1++cI signs (ts.take i)).map (bJ f ks):=by rw[yo,zft l1 h2]
    rw[e8];rfl
   refine⟨by simp,EV n signs top st.length a6 a7 a8 a9 a10 (some (.int t)),WT st f ks rl dw g,by generalize WT st f ks rl dw g=Z;unfold EV;simp,EV n signs top st.length a6 a7 (some (.int (bK f cJ (tk (bk t)):Nat))) a9 a10 (some (.int t)),WT st f cJ (rl++PS++[bJ f cJ (qQ t)]) dw (g++[.lst PS]),.inl ?_,cJ,g++[.lst PS],_,_,by rw[wY,Eb,<-hK];exact TV.symm,by omega,?_,?_,?_,rfl,by rw[fin]⟩
   ·rw[<-hB];rw[<-e0];generalize ((bK f cJ (tk (bk t)):Nat):Int)=NV at *;generalize (t:Int)=RG at *;generalize WT st f cJ (rl++PS++[D.tup [.int NV,.str [95],.str [95],.str [114],.int RG]]) dw (g++[.lst PS])=Z4 at *;generalize WT st f cJ (rl++PS) dw (g++[.lst PS])=Z3 at *;generalize WT st f cJ rl dw (g++[.lst PS])=Z2 at *;generalize WT st f cJ rl dw g=Z1 at *;generalize WT st f ks rl dw g=Z0 at *;generalize st.length+4+g.length=Y at *;unfold EV;simp[gs,pa,hxt,ty,QR,ty1,ap]
   ·intro q hq;rw[wY,zhl,<-gO]at hq;rcases gw.mp hq with h | h
    ·rw[yo];exact zgx _ (h2 q h)
    ·rcases gw.mp h with h | h
     ·obtain⟨c,_,rfl⟩:=gb.mp h;exact⟨km,km⟩
     ·have:q=qQ t:=by simpa using h
      subst this;exact⟨km,trivial⟩
   ·intro o ho;rcases gw.mp ho with h | h
    ·exact h3 o h
    ·have:o=_:=gG.mp h;subst this;intro m;rw[<-Tv];exact Qy _ _ _ _
   ·rw[wY,zhl,gC,gC,gf];simp;omega) (λ_ _ _=>by simp)
 rw[gf]at h1 h2 h4 e1 hK;rw[nM]at h2 h4 e1 hK;exact⟨ks,g,a8',a11,hK,h1,h2,h3,by have:=pN 101 hl;omega,e1⟩
end Law
set_option maxHeartbeats 0
namespace Law
open L2 M TK TS
theorem zk1 {signs:List Nat}{ps:List (List Nat×Nat)}{q:TQ}:q∈dY signs ps ↔ ∃p∈ps,∃c∈signs,q=fU (gr p.1 p.2) true c:=by
 unfold dY;simp only[List.mem_flatten,gb];constructor
 ·rintro ⟨l,⟨p,hp,rfl⟩,hq⟩;obtain⟨c,hc,rfl⟩:=gb.mp hq;exact⟨p,hp,c,hc,rfl⟩
 ·rintro ⟨p,hp,c,hc,rfl⟩;exact⟨_,⟨p,hp,rfl⟩,gb.mpr ⟨c,hc,rfl⟩⟩
theorem zir {signs:List Nat}{ts:List Nat}{q:TQ}:q∈cI signs ts ↔ ∃t∈ts,(∃c∈signs,q=fU (bk t) false c)\/q=qQ t:=by
 unfold cI;simp only[List.mem_flatten,gb];constructor
 ·rintro ⟨l,⟨t,ht,rfl⟩,hq⟩;rcases gw.mp hq with h | h
  ·obtain⟨c,hc,rfl⟩:=gb.mp h;exact⟨t,ht,.inl ⟨c,hc,rfl⟩⟩
  ·exact⟨t,ht,.inr (by simpa using h)⟩
 ·rintro ⟨t,ht,h⟩;refine⟨_,⟨t,ht,rfl⟩,?_⟩;rcases h with⟨c,hc,rfl⟩ | rfl
  ·exact h_ _ (gb.mpr ⟨c,hc,rfl⟩)
  ·simp
noncomputable def Jt (RL:List Rl)(signs:List Nat):List TQ:=RL.map jg++dY signs (iV RL)++(Em (iV RL)).map (λp=>dM p.1 p.2)++cI signs (El (iV RL))
noncomputable def vU (RL:List Rl):List TK:=Ec (Dq (Cu (BV RL) (iV RL)) (Em (iV RL))) (El (iV RL))
theorem zj4 (RL:List Rl)(signs:List Nat)(top n:Nat)(st:aq)(lM:M.wf st)(Wa:st[n]? = some (.lst (RL.map aB)))(hl:RL.length<=400)(hw:∀r∈RL,r.w.length<=90)(hs:∀c∈signs,c<128)(ZM:signs.length<=100) :
  ∃ks ALL,(ks=vU RL/\ALL=Jt RL signs)/\Ej RL signs ks ALL/\ALL.length<=500000/\(∃(ps qs:List (List Nat×Nat)) (ts:List Nat),(ps=iV RL/\qs=Em (iV RL)/\ts=El (iV RL))/\ALL=RL.map jg++dY signs ps++qs.map (λp=>dM p.1 p.2)++cI signs ts/\ps.Nodup/\qs.Nodup/\ts.Nodup) /\
   QB [.loc n,.str signs,.int top] st=.ok (.loc st.length) (st++[.lst (ALL.map (bJ (top+1) ks))]):=by
 have hg:Zq st n=some (RL.map aB,.lst (RL.map aB)):=by unfold Zq;rw[Wa]
 generalize hf:top+1=f;unfold QB iU dF Xx;generalize hB1:(aK (lU (ct (.bl true)) (t6 oO (vr 5) _)) _:MS)=B1;generalize hB2:(aK (aQ 8 (aF E_ [] _)) _:MS)=B2;generalize hB3:(eV (cV "list" bU (vr 4) (aj (aF Vm [] _) au)):MS)=B3;generalize hB4:(aK (aQ 8 (aF Oi [] _)) _:MS)=B4;obtain⟨cJ,ps,a6,Wj,k1,p1,pn,Lx,pof,in1,f1⟩:=Zw RL signs top n f st lM Wa (by omega) (λr h=>by have:=hw r h;omega) B1 hB1;have hpw:∀p∈ps,p.1.length<=90:=λp hp=>by
  obtain⟨r,h1,rfl⟩:=pof p hp;exact hw r h1
 obtain⟨o_,g2,a7,a8,hK2,k2,in2,u2,l2,f2⟩:=Zv ps signs top n f st lM (by omega) hs ZM B2 cJ (RL.map jg) in1 (by simp;omega) (by omega) a6 hB2;generalize P_:RL.map jg++dY signs ps=R2 at *;have adk:R2.length<=101000:=by rw[<-P_];simp;omega

 obtain⟨qs,hQ,hq,f3⟩:=zj2 ps (st.length+3) 90 (WT st f o_ (R2.map (bJ f o_)) (.dtf (aW ps)) g2) WT.Ww hpw (by omega) (by omega);have hql:qs.length<=400*91:=gU hq.len (pN 91 (by omega));rw[WT.len,WT.snoc]at f3;have hqw:∀p∈qs,p.1.length<=100:=λq h=>by
  obtain⟨p,h1,k,h2,rfl⟩:=hq.of_ q h;have:=hpw p h1;simp only[mY];omega
 have u3:∀o∈g2++[MO.dtf (aW qs)],∀n,aJ n o:=by
  intro o ho;rcases gw.mp ho with h | h
  ·exact u2 o h
  ·have:o=_:=gG.mp h;subst this;exact λn=>Vd n _
 obtain⟨CZ,a10,hK3,k3,in3,f4⟩:=Zu qs (.dtf (aW ps)) (λn=>Vd n _) signs top n f st lM (by omega) hqw B3 o_ R2 in2 (by omega) (by omega) (g2++[.dtf (aW qs)]) u3 a6 a7 a8 (some (.loc (st.length+4+g2.length))) hB3;generalize hR3:R2++qs.map (λp=>dM p.1 p.2)=R3 at *;have adi:R3.length<=150000:=by rw[<-hR3];simp;omega

 obtain⟨ts,hT,t1,t2,t3,t4,f5⟩:=zjh ps (st.length+3) (WT st f CZ (R3.map (bJ f CZ)) (.dtf (aW ps)) (g2++[.dtf (aW qs)])) WT.Ww (by omega);rw[WT.len,WT.snoc]at f5;have u4:∀o∈g2++[MO.dtf (aW qs)]++[MO.dkf (fL ts)],∀n,aJ n o:=by
  intro o ho;rcases gw.mp ho with h | h
  ·exact u3 o h
  ·have:o=_:=gG.mp h;subst this;exact λn=>zjp n _
 obtain⟨Ml,g4,a8',a11,hK4,k4,in4,u5,l4,f6⟩:=Zt ts (.dtf (aW ps)) (λn=>Vd n _) signs top n f st lM (by omega) hs ZM B4 CZ R3 in3 (by omega) (by omega) (g2++[.dtf (aW qs)]++[.dkf (fL ts)]) u4 a6 a7 a8 (some (.loc (st.length+4+g2.length))) a10 hB4;have eA:R3++cI signs ts=RL.map jg++dY signs ps++qs.map (λp=>dM p.1 p.2)++cI signs ts:=by rw[<-hR3,<-P_]
 refine⟨Ml,R3++cI signs ts,⟨by unfold vU;rw[<-Wj.1,<-Wj.2,<-hK2,<-hQ,<-hK3,<-hT,<-hK4],by rw[eA];unfold Jt;rw[<-Wj.2,<-hQ,<-hT]⟩,⟨?_,in4,?_,?_,?_,?_,?_⟩,by rw[gC];omega,⟨ps,qs,ts,⟨Wj.2,by rw[<-Wj.2];exact hQ,by rw[<-Wj.2];exact hT⟩,eA,pn,hq.nd,t4⟩,?_⟩
 ·intro q h;rw[eA]at h;rcases gw.mp h with h | h
  ·rcases gw.mp h with h | h
   ·rcases gw.mp h with h | h
    ·obtain⟨r,hr,rfl⟩:=gb.mp h;exact .src r hr
    ·obtain⟨p,_,c,hc,rfl⟩:=zk1.mp h;exact .pas _ _ c hc
   ·obtain⟨p,_,rfl⟩:=gb.mp h;exact .gro _ _
  ·obtain⟨t,_,h⟩:=zir.mp h;rcases h with⟨c,hc,rfl⟩ | rfl
   ·exact .pab _ c hc
   ·exact .bak _
 ·intro r hr;rw[eA];exact h_ _ (h_ _ (h_ _ (gb.mpr ⟨r,hr,rfl⟩)))
 ·intro r hr c hc;rw[eA];exact h_ _ (h_ _ (kI _ (zk1.mpr ⟨(r.w,r.g),Lx r hr,c,hc,rfl⟩)))
 ·intro r hr k hk;rw[eA];exact h_ _ (kI _ (gb.mpr ⟨(r.w.drop k,r.g),hq.all (r.w,r.g) (Lx r hr) k hk,rfl⟩))
 ·intro r hr c hc;exact kI _ (zir.mpr ⟨r.g,t1 (r.w,r.g) (Lx r hr),.inl ⟨c,hc,rfl⟩⟩)
 ·intro r hr;exact kI _ (zir.mpr ⟨r.g,t1 (r.w,r.g) (Lx r hr),.inr rfl⟩)
 ·have ef:(top:Int)+1=(f:Int):=by omega
  have J9:=Mx st f;have gcx:=WK (st:=st) (g:=[rY st.length f,.dic (cz f Ml)]) (g':=MO.dtf (aW ps)::g4) (o:=.lst ((R3++cI signs ts).map (bJ f Ml))) (Qy _ _ _ _);have eW:st++[rY st.length f,.dic (cz f Ml)]++MO.lst ((R3++cI signs ts).map (bJ f Ml))::(MO.dtf (aW ps)::g4)=WT st f Ml ((R3++cI signs ts).map (bJ f Ml)) (.dtf (aW ps)) g4:=by simp[WT]
  rw[eW]at gcx;have eW0:st++[rY st.length f,.dic []]++[.lst [],.dic []]=WT st f [] [] (.dic []) []:=by simp[WT,cz]
  have hl0:(st++[rY st.length f,.dic []]).length=st.length+2:=by simp
  have yo:st.length+2+1=st.length+3:=rfl;have hg0:(WT st f [] [] (.dic []) [])[n]? = some (.lst (RL.map aB)):=WT.old Wa;have hmk:uA "Numbers" Vn (aj (aL bj (vr 2) (ct (.int 1))) au) [some (.loc n),some (.str signs),some (.int top),none,none,none,none,none,none,none,none,none] st=.ok (.loc st.length) (st++[rY st.length f,.dic []]):=by
   unfold uA;have a1:(aj (aL bj (vr 2) (ct (.int 1))) au:MA) [some (.loc n),some (.str signs),some (.int top),none,none,none,none,none,none,none,none,none] st=.ok [.int f] st:=by simp[ef]
   rw[a1,R.aG,J9]
   rfl

  have d1:=Aa (m:=vr 5) (env:=EV n signs top st.length a6 none none none none none) (st:=WT st f cJ ((RL.map jg).map (bJ f cJ)) (.dic (aW ps)) []) (st1:=WT st f cJ ((RL.map jg).map (bJ f cJ)) (.dic (aW ps)) []) (n:=st.length+3) rfl WT.Ww;rw[zf2,WT.Yv]at d1;have d2:=Aa (m:=vr 9) (env:=EV n signs top st.length a6 a7 a8 (some (.loc (st.length+4+g2.length))) none none) (st:=WT st f o_ (R2.map (bJ f o_)) (.dtf (aW ps)) (g2++[.dic (aW qs)])) (st1:=WT st f o_ (R2.map (bJ f o_)) (.dtf (aW ps)) (g2++[.dic (aW qs)])) (n:=st.length+4+g2.length) rfl WT.at4;rw[zf2,WT.Yu]at d2;have c5:aF Qz [] (aj (vr 5) au) (EV n signs top st.length a6 a7 a8 (some (.loc (st.length+4+g2.length))) a10 none) (WT st f CZ (R3.map (bJ f CZ)) (.dtf (aW ps)) (g2++[.dtf (aW qs)]))=.ok (.loc (st.length+4+(g2++[MO.dtf (aW qs)]).length)) (WT st f CZ (R3.map (bJ f CZ)) (.dtf (aW ps)) (g2++[.dtf (aW qs)]++[.dkc (fL ts)])):=by
   generalize WT st f CZ (R3.map (bJ f CZ)) (.dtf (aW ps)) (g2++[.dtf (aW qs)])=Z at *;unfold EV;simp[f5]
  have d3:=KY (m:=aF Qz [] (aj (vr 5) au)) (env:=EV n signs top st.length a6 a7 a8 (some (.loc (st.length+4+g2.length))) a10 none) (st:=WT st f CZ (R3.map (bJ f CZ)) (.dtf (aW ps)) (g2++[.dtf (aW qs)])) c5 WT.at4;rw[zor,WT.Yu]at d3;rw[show startM 12 [D.loc n,.str signs,.int top]=[some (.loc n),some (.str signs),some (.int top),none,none,none,none,none,none,none,none,none] from rfl];generalize hMK:uA "Numbers" Vn _=MK at *;generalize hD1:Dw (vr 5)=DT5 at *;generalize hD2:Dw (vr 9)=DT9 at *;generalize hD3:dkI (aF Qz [] (aj (vr 5) au))=DK at *;generalize (R3++cI signs ts).map (bJ f Ml)=RL4 at *;generalize WT st f Ml RL4 _ _=Z9 at *;generalize WT st f CZ _ _ (g2++[MO.dtf (aW qs)]++[MO.dkf (fL ts)])=Z8 at *;generalize WT st f CZ _ _ (g2++[MO.dtf (aW qs)])=Z7 at *;generalize WT st f o_ _ _ (g2++[MO.dtf (aW qs)])=Z6 at *;generalize WT st f o_ _ _ (g2++[MO.dic (aW qs)])=Z5 at *;generalize WT st f o_ _ _ g2=Z4 at *;generalize WT st f cJ _ (MO.dtf (aW ps)) []=Z3 at *;generalize WT st f cJ _ (MO.dic (aW ps)) []=Z2 at *;generalize WT st f [] [] (MO.dic []) []=Z1 at *;generalize (ps.map λp=>D.tup [.str p.1,.int (p.2:Nat)])=I1 at *;generalize (qs.map λp=>D.tup [.str p.1,.int (p.2:Nat)])=I2 at *;generalize (ts.map λt=>D.int (t:Nat))=I3 at *;generalize RL.map aB=RLE at *;unfold EV at *;generalize st++[rY st.length f,.dic []]=Z0 at *;generalize st.length+4+g2.length=Y at *;simp[hmk,xK,hl0,yo,eW0,hg0,f1,d1,f2,f3,d2,f4,d3,f6];exact gcx
end Law
set_option maxHeartbeats 0
namespace Law
open L2 M TK TS
noncomputable def KT (q:TQ):M.TS×Nat:=(q.s,q.x)
theorem z8 (RL:List Rl):(∀p∈iV RL,∃r∈RL,p=(r.w,r.g))/\(iV RL).length<=RL.length/\(iV RL).Nodup:=by
 have key:∀(l:List Rl) (ps:List (List Nat×Nat)),(∀p∈l.foldl (λps r=>cB ps (r.w,r.g)) ps,p∈ps\/∃r∈l,p=(r.w,r.g))/\(l.foldl (λps r=>cB ps (r.w,r.g)) ps).length<=ps.length+l.length/\(ps.Nodup->(l.foldl (λps r=>cB ps (r.w,r.g)) ps).Nodup):=by
  intro l
  induction l with
  | nil=>intro ps;exact⟨λp h=>.inl h,by simp,λh=>h⟩
  | cons r l ih =>
   intro ps;obtain⟨h1,h2,h3⟩:=ih (cB ps (r.w,r.g));refine⟨λp hp=>?_,?_,λh=>h3 (Vf h _)⟩
   ·rcases h1 p hp with h | ⟨r',hr,e⟩
    ·rcases W5 h with h | h
     ·exact .inl h
     ·exact .inr ⟨r,by simp,h⟩
    ·exact .inr ⟨r',by simp[hr],e⟩
   ·have:=U7 ps (r.w,r.g);simp only[pJ,g8];omega
 obtain⟨h1,h2,h3⟩:=key RL [];refine⟨λp hp=>?_,by simp only[n8,Nat.zero_add]at h2;exact h2,h3 .nil⟩;rcases h1 p hp with h | h
 ·exact nomatch h
 ·exact h
theorem G_ (w:List Nat)(t:Nat)(qs:List (List Nat×Nat)):∀j,(∀q∈Al qs w t j,q∈qs\/∃k,q=(w.drop k,t))/\(Al qs w t j).length<=qs.length+j/\(qs.Nodup->(Al qs w t j).Nodup)
 | 0=>⟨λq h=>.inl h,by simp[Al],λh=>h⟩
 | j+1=>by
  obtain⟨h1,h2,h3⟩:=G_ w t qs j;refine⟨λq hq=>?_,?_,λh=>Vf (h3 h) _⟩
  ·rcases W5 hq with h | h
   ·exact h1 q h
   ·exact .inr ⟨j,h⟩
  ·have:=U7 (Al qs w t j) (w.drop j,t);simp only[Al];omega
theorem Ss (B:Nat)(ps:List (List Nat×Nat))(hB:∀p∈ps,p.1.length<=B):(∀q∈Em ps,∃p∈ps,∃k,q=(p.1.drop k,p.2))/\(Em ps).length<=ps.length*(B+1)/\(Em ps).Nodup:=by
 have key:∀(l qs:List (List Nat×Nat)),(∀p∈l,p.1.length<=B)->(∀q∈l.foldl (λqs p=>Al qs p.1 p.2 (p.1.length+1)) qs,q∈qs\/∃p∈l,∃k,q=(p.1.drop k,p.2))/\(l.foldl (λqs p=>Al qs p.1 p.2 (p.1.length+1)) qs).length<=qs.length+l.length*(B+1)/\(qs.Nodup->(l.foldl (λqs p=>Al qs p.1 p.2 (p.1.length+1)) qs).Nodup):=by
  intro l
  induction l with
  | nil=>intro qs _;exact⟨λp h=>.inl h,by simp,λh=>h⟩
  | cons p l ih =>
   intro qs hb;obtain⟨a1,a2,a3⟩:=G_ p.1 p.2 qs (p.1.length+1);obtain⟨h1,h2,h3⟩:=ih (Al qs p.1 p.2 (p.1.length+1)) λx hx=>hb x (by simp[hx]);have hp:=hb p (by simp);refine⟨λq hq=>?_,?_,λh=>h3 (a3 h)⟩
   ·rcases h1 q hq with h | ⟨p',hp',e⟩
    ·rcases a1 q h with h | ⟨k,e⟩
     ·exact .inl h
     ·exact .inr ⟨p,by simp,k,e⟩
    ·exact .inr ⟨p',by simp[hp'],e⟩
   ·simp only[pJ,g8];rw[Nat.add_mul,Nat.one_mul];omega
 obtain⟨h1,h2,h3⟩:=key ps [] hB;refine⟨λq hq=>?_,by simp only[n8,Nat.zero_add]at h2;exact h2,h3 .nil⟩;rcases h1 q hq with h | h
 ·exact nomatch h
 ·exact h
theorem QW (ps:List (List Nat×Nat)):(El ps).length<=ps.length/\(El ps).Nodup:=by
 have key:∀(l:List (List Nat×Nat)) (ts:List Nat),(l.foldl (λts p=>cB ts p.2) ts).length<=ts.length+l.length/\(ts.Nodup->(l.foldl (λts p=>cB ts p.2) ts).Nodup):=by
  intro l
  induction l with
  | nil=>intro ts;exact⟨by simp,λh=>h⟩
  | cons p l ih =>
   intro ts;obtain⟨h2,h3⟩:=ih (cB ts p.2);refine⟨?_,λh=>h3 (Vf h _)⟩;have:=U7 ts p.2;simp only[pJ,g8];omega
 obtain⟨h2,h3⟩:=key ps [];exact⟨by simp only[n8,Nat.zero_add]at h2;exact h2,h3 .nil⟩
end Law
set_option maxHeartbeats 0
namespace M
open L2 TK TS
structure TC where
 s:TS
 l:List Nat
 h:Nat
 r:List Nat
noncomputable def Et (s:TS)(l r:List Nat):TC:=⟨s,l,r.headD 95,r.tail⟩
noncomputable def yC (s:TS)(l r:List Nat):TC:=⟨s,l.dropLast,l.getLastD 95,r⟩
noncomputable def moved (c:TC)(q:TQ):TC:=if q.mv then Et q.g (c.l++[q.w]) c.r else yC q.g c.l (q.w::c.r)
noncomputable def Te:TS->Prop
 | tp _=>False
 | tk _=>True
noncomputable def fits (c:TC)(q:TQ):Prop:=c.s=q.s/\c.h=q.x
inductive u0 (ALL:List TQ):TC->Nat->TC->Prop where
 | nil (c:TC):u0 ALL c 0 c
 | cons (c:TC) (q:TQ) (n:Nat) (c':TC) (hq:q∈ALL) (hf:fits c q) (ht:Te (moved c q).s) (h:u0 ALL (moved c q) n c'):u0 ALL c (n+1) c'
inductive Rn (ALL:List TQ) (c':TC):Nat->TC->Prop where
 | last (c:TC) (q:TQ) (hq:q∈ALL) (hf:fits c q) (e:moved c q=c'):Rn ALL c' 1 c
 | more (c:TC) (q:TQ) (n:Nat) (hq:q∈ALL) (hf:fits c q) (ht:Te (moved c q).s) (h:Rn ALL c' n (moved c q)):Rn ALL c' (n+1) c
theorem u0.run {ALL:List TQ}{c c1 c':TC}{n m:Nat}(h:u0 ALL c n c1)(k:Rn ALL c' m c1):Rn ALL c' (n+m) c:=by
 induction h with
 | nil c=>simpa using k
 | cons c q n c1 hq hf ht _ ih =>
  rw[show n+1+m=n+m+1 by omega];exact .more c q (n+m) hq hf ht (ih k)
theorem u0.trans {ALL:List TQ}{c c1 c2:TC}{n m:Nat}(h:u0 ALL c n c1)(k:u0 ALL c1 m c2):u0 ALL c (n+m) c2:=by
 induction h with
 | nil c=>simpa using k
 | cons c q n c1 hq hf ht _ ih =>
  rw[show n+1+m=n+m+1 by omega];exact .cons c q (n+m) c2 hq hf ht (ih k)
theorem u0.pass {ALL:List TQ}{k:TK}:∀(u l t:List Nat),(∀c∈u,fU k true c∈ALL)->u0 ALL (Et (tk k) l (u++t)) u.length (Et (tk k) (l++u) t)
 | [],l,t,_=>by simpa using u0.nil _
 | c::u,l,t,h=>by
  have ih:=u0.pass (k:=k) u (l++[c]) t λx hx=>h x (kj _ hx);rw[gO]at ih;exact .cons _ (fU k true c) _ _ (h c nQ) ⟨rfl,rfl⟩ trivial ih
theorem u0.grow {ALL:List TQ}{t:Nat}:∀(w l:List Nat),(∀j,j<=w.length->dM (w.drop j) t∈ALL)->u0 ALL (Et (tk (gr w t)) l []) w.length (Et (tk (gr [] t)) (l++w) [])
 | [],l,_=>by simpa using u0.nil _
 | c::w,l,h=>by
  have ih:=u0.grow (t:=t) w (l++[c]) λj hj=>by simpa using h (j+1) (by simpa using hj)
  rw[gO]at ih;exact .cons _ (dM (c::w) t) _ _ (by simpa using h 0 (by simp)) ⟨rfl,rfl⟩ trivial ih
theorem u0.back {ALL:List TQ}{k:TK}(l:List Nat):∀(n:Nat) (u r:List Nat),u.length=n->(∀c∈u,fU k false c∈ALL)->u0 ALL (yC (tk k) (l++u) r) n (yC (tk k) l (u++r))
 | 0,u,r,hn,_=>by
  have:u=[]:=pZ hn;subst this;simpa using u0.nil _
 | n+1,u,r,hn,h=>by
  have qY:u≠[]:=λe=>by rw[e]at hn;cases hn
  obtain⟨u',c,rfl⟩:∃u' c,u=u'++[c]:=⟨u.dropLast,u.getLast qY,(pK qY).symm⟩;have ih:=u0.back (k:=k) l n u' (c::r) (by simpa using hn) λx hx=>h x (h_ _ hx);have e1:yC (tk k) (l++(u'++[c])) r=⟨tk k,l++u',c,r⟩:=by
   unfold yC;rw[<-gO];simp
  rw[e1,gO];exact .cons _ (fU k false c) _ _ (h c (by simp)) ⟨rfl,rfl⟩ trivial ih
noncomputable def qj (t k:Nat)(u:List Nat):TC:=Et (tp t) (List.replicate k 95) (u++if k=0 then [] else [95])
theorem abK {RL:List Rl}{signs:List Nat}{ALL:List TQ}(src:∀r∈RL,jg r∈ALL)(pas:∀r∈RL,∀c∈signs,fU (gr r.w r.g) true c∈ALL)(gro:∀r∈RL,∀k,k<=r.w.length->dM (r.w.drop k) r.g∈ALL)
  (pab:∀r∈RL,∀c∈signs,fU (bk r.g) false c∈ALL) (bak:∀r∈RL,qQ r.g∈ALL) {r:Rl} (hr:r∈RL) (rest:List Nat) (k:Nat) (h1:∀c∈rest,c∈signs) (h2:∀c∈r.w,c∈signs) :
  Rn ALL (qj r.g (k+1) (rest++r.w)) (2*(rest.length+1)+2*r.w.length+1) (qj r.s k (r.x::rest)):=by
 have hu:∀c∈rest++r.w,c∈signs:=λc hc=>by
  rcases gw.mp hc with h | h
  ·exact h1 c h
  ·exact h2 c h

 have s6:Rn ALL (qj r.g (k+1) (rest++r.w)) 1 (yC (tk (bk r.g)) (List.replicate k 95++[95]) (rest++r.w++[95])):=by
  have e0:yC (tk (bk r.g)) (List.replicate k 95++[95]) (rest++r.w++[95])=⟨tk (bk r.g),List.replicate k 95,95,rest++r.w++[95]⟩:=by unfold yC;simp
  rw[e0];refine .last _ (qQ r.g) (bak r hr) ⟨rfl,rfl⟩ ?_;show Et (tp r.g) (List.replicate k 95++[95]) (rest++r.w++[95])=_;unfold qj;rw[if_neg (by omega),List.replicate_succ']
 have s5:=(u0.back (k:=bk r.g) (List.replicate k 95++[95]) (rest++r.w).length (rest++r.w) [95] rfl λc hc=>pab r hr c (hu c hc)).run s6

 have s4:Rn ALL (qj r.g (k+1) (rest++r.w)) ((rest++r.w).length+1+1) (Et (tk (gr [] r.g)) (List.replicate k 95++[95]++rest++r.w) []):=by
  refine .more _ (dM [] r.g) _ (by simpa using gro r hr r.w.length (gh _)) ⟨rfl,rfl⟩ trivial ?_;have e0:moved (Et (tk (gr [] r.g)) (List.replicate k 95++[95]++rest++r.w) []) (dM [] r.g)=yC (tk (bk r.g)) (List.replicate k 95++[95]++(rest++r.w)) [95]:=by
   rw[<-gO];rfl
  rw[e0];exact s5
 have s3:=(u0.grow (t:=r.g) r.w (List.replicate k 95++[95]++rest) λj hj=>gro r hr j hj).run s4

 have tail:∀(t:List Nat),(t=[]\/t=[95])->Et (tk (gr r.w r.g)) (List.replicate k 95++[95]++rest) t=Et (tk (gr r.w r.g)) (List.replicate k 95++[95]++rest) []:=by
  rintro t (rfl | rfl)<;>rfl
 have ht:(if k=0 then [] else [95])=([]:List Nat)\/(if k=0 then [] else [95])=([95]:List Nat):=by by_cases c:k=0<;>simp[c]
 rw[<-tail _ ht]at s3;have s2:=(u0.pass (k:=gr r.w r.g) rest (List.replicate k 95++[95]) (if k=0 then [] else [95]) λc hc=>pas r hr c (h1 c hc)).run s3;have e:2*(rest.length+1)+2*r.w.length+1=rest.length+(r.w.length+((rest++r.w).length+1+1))+1:=by rw[gC];omega
 rw[e];exact .more _ (jg r) _ (src r hr) ⟨rfl,rfl⟩ trivial s2
end M
set_option maxHeartbeats 0
namespace Law
open L2 M TK TS
noncomputable def kT (f:Nat)(ks:List TK)(s:M.TS)(x:Nat):List Key:=[.inl ((bK f ks s:Nat):Int),.inr (strOf [x])]
theorem z7 {RL:List Rl}{signs:List Nat}{q:TQ}{f:Nat}(h:Gd RL signs q)(hT:∀r∈RL,r.s<f):∀n,q.s=tp n->n<f:=by
 intro n e;cases h with
 | src r hr=>cases e;exact hT r hr
 | pas w t c _=>cases e
 | gro w t=>cases w<;>cases e
 | pab t c _=>cases e
 | bak t=>cases e
theorem SX {RL:List Rl}{signs:List Nat}{ks:List TK}{ALL:List TQ}{f:Nat}(A:Ej RL signs ks ALL)(hs:95∉signs)(hR:∀r∈RL,∀r'∈RL,r.s=r'.s->r.x=r'.x->r.w=r'.w/\r.g=r'.g)(hT:∀r∈RL,r.s<f){a b:TQ}(ha:a∈ALL)(hb:b∈ALL)
  (e:kT f ks a.s a.x=kT f ks b.s b.x):a=b:=by
 unfold kT at e;simp only[List.cons.injEq,Sum.inl.injEq,Sum.inr.injEq,ziz,and_true]at e;have e1:bK f ks a.s=bK f ks b.s:=by omega
 have es:a.s=b.s:=GK (A.inn a ha).1 (A.inn b hb).1 (z7 (A.good a ha) hT) (z7 (A.good b hb) hT) e1;exact Gd.one hs hR (A.good a ha) (A.good b hb) es e.2
noncomputable def encC (f:Nat)(ks:List TK)(c:TC):D:=.tup [.int (bK f ks c.s:Nat),.str c.l,.str [c.h],.str c.r]
end Law
set_option maxHeartbeats 0
namespace Law
open L2 M TK TS
noncomputable def bx (ns:List Int)(k:Nat):Int :=
 if k<ns.length then ns.getD k 0
 else if 0<ns.length then ((ns.getD (k*7 % ns.length) 0*48271+k*7919) % 2147483647)*((ns.getD (k*7 % ns.length) 0*48271+k*7919) % 2147483647) % 2147483629
 else ((k:Int)*7919+5)*(k*7919+5) % 2147483629
theorem zN (ns:List Int)(n k:Nat)(st:aq)(h:az st n=some (ns.map D.int))(hk:k<=10000):tY [.loc n,.int k] st=.ok (.int (bx ns k)) st:=by
 unfold tY iU dF wC bx;have hln:=N5 h;rw[gf]at hln;by_cases h1:k<ns.length
 ·simp[startM,hln,h1,xR st n k _ (.int (ns.getD k 0)) h (by rw[Ey];simp[h1]),vP]
 ·by_cases h2:0<ns.length
  ·have e1:(k:Int)*7 % (ns.length:Int)=((k*7 % ns.length:Nat):Int):=by simp
   have hj:k*7 % ns.length<ns.length:=Nat.mod_lt _ h2;have e2:sy (ns.map D.int) ((k:Int)*7 % (ns.length:Int))=some (.int (ns.getD (k*7 % ns.length) 0)):=by rw[e1,Ey];simp[hj]
   have m1:∀s,jh (.int k) (.int 7919) s=.ok (.int (k*7919)) s:=λs=>Ez s k 7919 (by omega);have m2:∀s,jh (.int k) (.int 7) s=.ok (.int (k*7)) s:=λs=>Ez s k 7 (by omega);have m3:∀s i,jh (.int i) (.int 48271) s=.ok (.int (i*48271)) s:=λs i=>Ez s i 48271 (by omega);have g1:∀s i,bD (.int i) (.int (ns.length:Int)) s=.ok (.int (i % (ns.length:Int))) s:=λs i=>sO s i _ (by omega);have i1:bh (.loc n) (.int ((k:Int)*7 % (ns.length:Int))) st=.ok (.int (ns.getD (k*7 % ns.length) 0)) st:=xR st n _ _ _ h e2;generalize ns.getD (k*7 % ns.length) 0=x at i1 e2 ⊢;have mm:∀s,jh (.int ((x*48271+(k:Int)*7919) % 2147483647)) (.int ((x*48271+(k:Int)*7919) % 2147483647)) s=.ok (.int ((x*48271+(k:Int)*7919) % 2147483647*((x*48271+(k:Int)*7919) % 2147483647))) s:=λs=>Ez s _ _ (by omega);simp[startM,hln,h1,h2,m1,m2,m3,g1,i1,sO,mm,vP]
  ·have m1:∀s,jh (.int k) (.int 7919) s=.ok (.int (k*7919)) s:=λs=>Ez s k 7919 (by omega);have mm:∀s,jh (.int ((k:Int)*7919+5)) (.int ((k:Int)*7919+5)) s=.ok (.int (((k:Int)*7919+5)*((k:Int)*7919+5))) s:=λs=>Ez s _ _ (by omega);simp[startM,hln,h1,h2,m1,sO,mm,vP]
theorem N8 (cs:List Nat)(st:aq)(h:cs.length<=1000000):bY [.str cs] st=.ok (.int cs.length) st:=by show uP [.str cs] st=_;exact Cg st cs h
theorem zV (c:Int)(m:Nat)(signs:List Nat)(st:aq)(hs:0<signs.length)(fV:signs.length<=1000)(hm:m<=1000):∃t:List Nat,t.length=m/\(∀x∈t,x∈signs)/\XF [.int c,.int m,.str signs] st=.ok (.str t) st:=by
 unfold XF iU dF Vh;generalize hb:(qF (jl (aL (vG 200) (aL bD (vr 0) (ct (.int 2))) (ct (.int 1)))) _ _:MS)=body;obtain⟨di,st',h1,t,num,a5,h3,h4,rfl,rfl⟩:=yW (g:=aP 5) (b:=body) (gs:=[]) (items:=je 0 m)
  (λi env s=>∃(t:List Nat) (num:Int) (a5:Option D),t.length=i/\(∀x∈t,x∈signs)/\env=[some (.int c),some (.int m),some (.str signs),some (.str t),some (.int num),a5]/\s=st)
  (env:=[some (.int c),some (.int m),some (.str signs),some (.str []),some (.int (c / 2)),none]) (st:=st) ⟨[],c / 2,none,rfl,λx hx=>absurd hx (mz),rfl,rfl⟩ (by
  rintro i d env s hi ⟨t,num,a5,h1,h2,rfl,rfl⟩;obtain⟨hp,rfl⟩:=N7 hi;have g1:∀s i,bD (.int i) (.int (signs.length:Int)) s=.ok (.int (i % (signs.length:Int))) s:=λs i=>sO s i _ (by omega);have f1:∀s i,bI (.int i) (.int (signs.length:Int)) s=.ok (.int (i / (signs.length:Int))) s:=λs i=>wF s i _ (by omega);have l1:∀s,bY [.str signs] s=.ok (.int signs.length) s:=λs=>N8 signs s (by omega);have m1:∀s,jh (.int num) (.int 48271) s=.ok (.int (num*48271)) s:=λs=>Ez s _ _ (by omega);have m2:∀s,jh (.int 7919) (.int (i:Int)) s=.ok (.int (7919*(i:Int))) s:=λs=>Ez s _ _ (by omega);have x2:∀s a,bj (.str t) (.str [a]) s=.ok (.str (t++[a])) s:=λs a=>xZ s _ _ (by simp;omega);have mem:∀a,a∈signs->∀x∈t++[a],x∈signs:=λa ha x hx=>by
   rcases gw.mp hx with hx | hx
   ·exact h2 x hx
   ·obtain rfl:x=a:=by simpa using hx
    exact ha
  by_cases hc:c % 2=1
  ·obtain⟨j,hj,e1,e2⟩:=W0 signs ((num*48271+7919*(i:Int)+11) % 2147483647 / 64) hs;have x1:∀s,bh (.str signs) (.int ((num*48271+7919*(i:Int)+11) % 2147483647 / 64 % (signs.length:Int))) s=.ok (.str [signs[j]]) s:=λs=>Qu s _ _ _ (by omega) e2;refine⟨by simp,_,_,rfl,[some (.int c),some (.int m),some (.str signs),some (.str (t++[signs[j]])),some (.int ((num*48271+7919*(i:Int)+11) % 2147483647)),some (.int (0+(i:Nat)))],s,.inl ?_,_,_,_,by simp[h1],mem _ (m6 hj),rfl,rfl⟩;rw[<-hb];simp[sO,wF,hc,m1,m2,l1,g1,x1,x2]
  ·obtain⟨j,hj,e1,e2⟩:=W0 signs num hs;have x1:∀s,bh (.str signs) (.int (num % (signs.length:Int))) s=.ok (.str [signs[j]]) s:=λs=>Qu s _ _ _ (by omega) e2;refine⟨by simp,_,_,rfl,[some (.int c),some (.int m),some (.str signs),some (.str (t++[signs[j]])),some (.int (num / (signs.length:Int))),some (.int (0+(i:Nat)))],s,.inl ?_,_,_,_,by simp[h1],mem _ (m6 hj),rfl,rfl⟩;rw[<-hb];simp[sO,hc,l1,g1,f1,x1,x2]) (λ_ _ _=>by simp)
 rw[N6]at h3;refine⟨t,h3,h4,?_⟩;have Az:-4611686018427387904<=(m:Int):=by omega
 have rG:(m:Int)<4611686018427387904:=by omega
 rw[show startM 6 [D.int c,D.int (m:Int),D.str signs]=[some (.int c),some (.int m),some (.str signs),none,none,none] from rfl];simp[wF,Az,rG,h1,vP]
noncomputable def cC:List Nat:=[97,98,99,100,101,102,103,104,105,106,107,108,109,110,111,112,113,114,115,116,117,118,119,120,121,122]
theorem Qq (w:List Nat)(k:Nat)(h:k<=w.length):cut w none (some (k:Nat))=w.take k:=by
 unfold cut;rw[HT.zog,HT.U9,Nat.min_eq_left h];simp
theorem zma (ns:List Int)(n:Nat)(st:aq)(h:az st n=some (ns.map D.int)):∃t:List Nat,0<t.length/\t.length<=4/\t.Nodup/\(∀x∈t,x∈cC)/\zel [.loc n] st=.ok (.str t) st:=by
 have c1:=zN ns n 0 st h (by omega);rw[show ((0:Nat):Int)=0 from rfl]at c1;generalize bx ns 0=c at c1;obtain⟨m,hm⟩:=kh (show 0<=1+c % 4 by omega);have hm1:1<=m:=by omega
 have J7:m<=4:=by omega
 unfold zel iU dF Xr;rw[show ([97,98,99,100,101,102,103,104,105,106,107,108,109,110,111,112,113,114,115,116,117,118,119,120,121,122]:List Nat)=cC from rfl];have M8:cC.length=26:=rfl;have hand:cC.Nodup:=by decide
 generalize hb:(aK (aQ 6 _) _:MS)=body;obtain⟨di,st',h1,t,rest,num,a5,a6,k1,k2,k3,k4,rfl,rfl⟩:=yW (g:=aP 5) (b:=body) (gs:=[]) (items:=je 0 m)
  (λi env s=>∃(t rest:List Nat) (num:Int) (a5 a6:Option D),t.length=i/\rest.length+i=26/\(t++rest).Nodup/\(∀x∈t++rest,x∈cC)/\env=[some (.loc n),some (.str rest),some (.int c),some (.int num),some (.str t),a5,a6]/\s=st)
  (env:=[some (.loc n),some (.str cC),some (.int c),some (.int (c / 4)),some (.str []),none,none]) (st:=st) ⟨[],cC,c / 4,none,none,rfl,M8,hand,λx hx=>hx,rfl,rfl⟩ (by
   rintro i d env s hi ⟨t,rest,num,a5,a6,k1,k2,k3,k4,rfl,rfl⟩;obtain⟨hp,rfl⟩:=N7 hi;have o4:0<rest.length:=by omega
   have g1:∀s i,bD (.int i) (.int (rest.length:Int)) s=.ok (.int (i % (rest.length:Int))) s:=λs i=>sO s i _ (by omega);have f1:∀s i,bI (.int i) (.int (rest.length:Int)) s=.ok (.int (i / (rest.length:Int))) s:=λs i=>wF s i _ (by omega);have l1:∀s,bY [.str rest] s=.ok (.int rest.length) s:=λs=>N8 rest s (by omega);obtain⟨j,hj,e1,e2⟩:=W0 rest num o4;have x1:∀s,bh (.str rest) (.int (num % (rest.length:Int))) s=.ok (.str [rest[j]]) s:=λs=>Qu s _ _ _ (by omega) e2;have x2:∀s a,bj (.str t) (.str [a]) s=.ok (.str (t++[a])) s:=λs a=>xZ s _ _ (by simp;omega);have x3:∀s,rP (.str rest) none (some (num % (rest.length:Int))) s=.ok (.str (rest.take j)) s:=λs=>by rw[xU _ _ _ _ (by omega),e1,Qq rest j (by omega)]
   have x4:∀s,rP (.str rest) (some (num % (rest.length:Int)+1)) none s=.ok (.str (rest.drop (j+1))) s:=λs=>by rw[xU _ _ _ _ (by omega),e1,show (j:Int)+1=((j+1:Nat):Int) by omega,U8 rest (j+1) (by omega)]
   have x5:∀s,bj (.str (rest.take j)) (.str (rest.drop (j+1))) s=.ok (.str (rest.take j++rest.drop (j+1))) s:=λs=>xZ s _ _ (by rw[k_,mY];omega);have er:rest=rest.take j++rest[j]::rest.drop (j+1):=by rw[List.getElem_cons_drop];exact (List.take_append_drop j rest).symm
   have pm:(t++[rest[j]]++(rest.take j++rest.drop (j+1))).Perm (t++rest):=by
    rw[gO];refine List.Perm.append_left t ?_
    conv=>rhs;rw[er]
    exact (List.perm_middle (a:=rest[j]) (l₁:=rest.take j) (l₂:=rest.drop (j+1))).symm
   refine⟨by simp,_,_,rfl,[some (.loc n),some (.str (rest.take j++rest.drop (j+1))),some (.int c),some (.int (num / (rest.length:Int))),some (.str (t++[rest[j]])),some (.int (0+(i:Nat))),some (.int (num % (rest.length:Int)))],s,.inl ?_,_,_,_,_,_,by simp[k1],by rw[gC,k_,mY];omega,pm.nodup_iff.mpr k3,λx hx=>k4 x (pm.mem_iff.mp hx),rfl,rfl⟩;rw[<-hb];generalize rest.take j++rest.drop (j+1)=R2 at *;generalize rest.take j=R3 at *;generalize rest.drop (j+1)=R4 at *;generalize rest[j]=RJ at *;generalize hNM:num % (rest.length:Int)=NM at *;have g2:∀s,bD (.int num) (.int (rest.length:Int)) s=.ok (.int NM) s:=λs=>by rw[g1,hNM]
   simp[l1,g2,f1,x1,x2,x3,x4,x5]) (λ_ _ _=>by simp)
 rw[N6]at k1 k2;refine⟨t,by omega,by omega,(mZ.mp k3).1,λx hx=>k4 x (h_ _ hx),?_⟩;have Az:-4611686018427387904<=(m:Int):=by omega
 have rG:(m:Int)<4611686018427387904:=by omega
 rw[show startM 7 [D.loc n]=[some (.loc n),none,none,none,none,none,none] from rfl];simp[c1,wF,sO,hm,Az,rG,h1,vP]
theorem Zm {ss:List Nat}(h:ss.Pairwise (· < ·)){x:Nat}(hx:∀y∈ss,y<x):(ss++[x]).Pairwise (· < ·):=by
 rw[pO];exact⟨h,by simp,λa ha b hb=>by rw[gG.mp hb];exact hx a ha⟩
theorem BL (ns:List Int)(n:Nat)(st:aq)(h:az st n=some (ns.map D.int)) :
  ∃ss:List Nat,0<ss.length/\ss.length<=5/\ss.Pairwise (· < ·)/\(∀s∈ss,s<=5000)/\zc9 [.loc n] st=.ok (.loc st.length) (st++[.lst (ss.map λs=>D.int (s:Nat))]):=by
 have c1:=zN ns n 1 st h (by omega);rw[show ((1:Nat):Int)=1 from rfl]at c1;generalize bx ns 1=c at c1;obtain⟨m,hm⟩:=kh (show 0<=1+c % 5 by omega);have hm1:1<=m:=by omega
 have J7:m<=5:=by omega
 obtain⟨d,hd,pd⟩:=YZ [.int 1,.int 900] (c / 5 % 2) st (by omega) (by show _<(2:Int);omega);obtain⟨w,hw1,hw2,rfl⟩:∃w:Nat,1<=w/\w<=900/\d=.int w:=by
  simp only[gk,mz,or_false]at hd;rcases hd with rfl | rfl
  ·exact⟨1,by omega,by omega,rfl⟩
  ·exact⟨900,by omega,by omega,rfl⟩
 unfold zc9 iU dF XM;generalize hb:(aK (eV (cV "list" bU (vr 4) _)) _:MS)=body;generalize Wi:MO.lst [.int 1,.int 900]=L0;obtain⟨di,st',h1,ss,num,a5,g,k1,k2,k3,rfl,rfl⟩:=yW (g:=aP 5) (b:=body) (gs:=[]) (items:=je 0 m)
  (λi env s=>∃(ss:List Nat) (num:Int) (a5:Option D) (g:aq),ss.length=i/\ss.Pairwise (· < ·)/\(∀s∈ss,s<=1000*i)/\env=[some (.loc n),some (.int c),some (.int w),some (.int num),some (.loc (st.length+1)),a5]/\s=st++[L0,.lst (ss.map λs=>D.int (s:Nat))]++g)
  (env:=[some (.loc n),some (.int c),some (.int w),some (.int (c / 10)),some (.loc (st.length+1)),none]) (st:=st++[L0,.lst []]) ⟨[],c / 10,none,[],rfl,by simp,by simp,rfl,by simp⟩ (by
   rintro i d env s hi ⟨ss,num,a5,g,k1,k2,k3,rfl,rfl⟩;obtain⟨hp,rfl⟩:=N7 hi;have ei:(0:Int)+(i:Int)=(i:Int):=by omega
   rw[ei];have Eo:∀(xs:List D) (g':aq),(st++[L0,.lst xs]++g')[st.length+1]? = some (.lst xs):=λxs g'=>by
    rw[gO,gR (by omega)];simp
   have Tj:∀(xs ys:List D) (g':aq),(st++[L0,.lst xs]++g').set (st.length+1) (.lst ys)=st++[L0,.lst ys]++g':=λxs ys g'=>by
    rw[gO,mL _ _ (by omega)];simp
   obtain⟨x,hx⟩:=kh (show 0<=num % (w:Int) from nZ _ (by omega));have hxl:x<900:=by
    have:=n_ num (show (0:Int)<(w:Int) by omega);omega

   obtain⟨p,aZ,cZ⟩:∃p:Nat,(∀y∈ss,y<=p)/\(p<=1000*i/\((cut (ss.map λs=>D.int (s:Nat)) (some (-1)) none=[]/\p=0/\i=0)\/(cut (ss.map λs=>D.int (s:Nat)) (some (-1)) none=[.int p]/\0<i))):=by
    by_cases h0:ss=[]
    ·subst h0;refine⟨0,by simp,by omega,.inl ⟨rfl,rfl,by simpa using k1.symm⟩⟩
    ·obtain⟨s',y,rfl⟩:∃s' y,ss=s'++[y]:=⟨ss.dropLast,ss.getLast h0,(pK h0).symm⟩;have pw:=pO.mp k2;refine⟨y,λz hz=>?_,k3 y (by simp),.inr ⟨?_,by simp at k1;omega⟩⟩
     ·rcases gw.mp hz with hz | hz
      ·exact mH (pw.2.2 z hz y (by simp))
      ·rw[gG.mp hz];exact gh _
     ·rw[kE];unfold cut;have e1:HT.cR (s'.map (λs=>D.int (s:Nat))++[D.int y]).length 0 (some (-1))=s'.length:=by
       simp only[HT.cR];rw[if_pos (by decide)];simp;omega
      simp only[gB,nU]at e1 ⊢;rw[e1,HT.U9];have e2:(s'.map (λs=>D.int (s:Nat))++[D.int y]).drop s'.length=[D.int y]:=List.drop_left' (by simp);rw[e2];simp
   have Ti:∀(z:aq) (q:Nat),z[q]? = some (.lst (cut (ss.map λs=>D.int (s:Nat)) (some (-1)) none))->Bw [.loc q] z=.ok (.int p) z:=λz q hz=>by
    have Ba:az z q=some (cut (ss.map λs=>D.int (s:Nat)) (some (-1)) none):=by unfold az;rw[hz]
    rcases cZ.2 with⟨e,rfl,_⟩ | ⟨e,_⟩
    ·rw[e]at Ba;simp[Bw,Ba,intsOf]
    ·rw[e]at Ba;simp[Bw,Ba,intsOf]
   generalize uB:(ss.map λs=>D.int (s:Nat))=xs at *;have adb:xs.length=i:=by rw[<-uB,gf];exact k1
   generalize hct:cut xs (some (-1)) none=Nt at *;have sl:rP (.loc (st.length+1)) (some (-1)) none (st++[L0,.lst xs]++g)=.ok (.loc (st++[L0,.lst xs]++g).length) (st++[L0,.lst xs]++(g++[.lst Nt])):=by
    have Ba:az (st++[L0,.lst xs]++g) (st.length+1)=some xs:=by unfold az;rw[Eo]
    simp only[rP,Ba,hct];rw[<-gO (st++[L0,.lst xs])]
   have sm:=Ti (st++[L0,.lst xs]++(g++[.lst Nt])) (st++[L0,.lst xs]++g).length (by rw[<-gO (st++[L0,.lst xs])];simp)

   obtain⟨v,MF,J5,Mz⟩:∃v:Nat,(p:Int)+(if (0:Int)<(i:Int) then 1 else 0)+(x:Int)=(v:Nat)/\(∀y∈ss,y<v)/\v<=1000*(i+1):=by
    rcases cZ.2 with⟨_,rfl,h0⟩ | ⟨_,h0⟩
    ·subst h0;refine⟨x,by simp,λy hy=>?_,by omega⟩;have:ss=[]:=pZ k1;rw[this]at hy;exact nomatch hy
    ·refine⟨p+1+x,by rw[if_pos (by omega)];omega,λy hy=>?_,?_⟩
     ·have:=aZ y hy;omega
     ·have:=cZ.1;omega
   have md:∀s,bD (.int num) (.int w) s=.ok (.int x) s:=λs=>by rw[sO s _ _ (by omega),hx]
   have fd:∀s,bI (.int num) (.int w) s=.ok (.int (num / (w:Nat))) s:=λs=>wF s _ _ (by omega);have ap:bU (.loc (st.length+1)) [.int v] (st++[L0,.lst xs]++(g++[.lst Nt]))=.ok .non (st++[L0,.lst (xs++[.int v])]++(g++[.lst Nt])):=by
    unfold bU;simp only[Eo];rw[if_pos (by omega),Tj]
   have ty:∀(g':aq),iI "list" (.loc (st.length+1)) (st++[L0,.lst xs]++g')=true:=λg'=>by
    have:=Eo xs g';simp only[iI];rw[this]
    rfl
   have ty1:=ty g;have ty2:=ty (g++[.lst Nt]);have ic:∀s,Dg [.bl (decide ((0:Int)<(i:Int)))] s=.ok (.int (if (0:Int)<(i:Int) then 1 else 0)) s:=λs=>by
    by_cases h0:(0:Int)<(i:Int)
    ·rw[if_pos h0,decide_eq_true h0];rfl
    ·rw[if_neg h0,decide_eq_false h0];rfl
   refine⟨by simp,[some (.loc n),some (.int c),some (.int w),some (.int num),some (.loc (st.length+1)),some (.int i)],st++[L0,.lst xs]++g,by generalize st++[L0,.lst xs]++g=Z;simp,[some (.loc n),some (.int c),some (.int w),some (.int (num / (w:Nat))),some (.loc (st.length+1)),some (.int i)],st++[L0,.lst (xs++[.int v])]++(g++[.lst Nt]),.inl ?_,ss++[v],num / (w:Nat),_,g++[.lst Nt],by simp[k1],Zm k2 J5,?_,rfl,by rw[kE,uB];rfl⟩
   ·rw[<-hb];generalize st++[L0,.lst (xs++[.int v])]++(g++[.lst Nt])=Z3 at *;generalize st++[L0,.lst xs]++(g++[.lst Nt])=Z2 at *;generalize st++[L0,.lst xs]++g=Z1 at *;generalize (v:Int)=V at *;generalize (x:Int)=XX at *;generalize (if (0:Int)<(i:Int) then (1:Int) else 0)=IFI at *;generalize (i:Int)=II at *;generalize (w:Int)=WW at *;generalize (p:Int)=PP at *;simp[ty1,ty2,sl,sm,ic,md,MF,ap,fd]
   ·intro y hy;rcases gw.mp hy with hy | hy
    ·have:=k3 y hy;omega
    ·rw[gG.mp hy];exact Mz) (λ_ _ _=>by simp)
 rw[N6]at k1 k3;refine⟨ss,by omega,by omega,k2,λs hs=>by have:=k3 s hs;omega,?_⟩;have Az:-4611686018427387904<=(m:Int):=by omega
 have rG:(m:Int)<4611686018427387904:=by omega
 rw[Wi]at pd;have gcx:=WK (st:=st) (g:=[L0]) (g':=g) (o:=.lst (ss.map λs=>D.int (s:Nat))) (by
  rw[show aJ st.length (MO.lst _)=bu st.length _ from rfl,JH];intro d hd;obtain⟨c,_,rfl⟩:=gb.mp hd;simp)
 have eZ:st++[L0]++MO.lst (ss.map λs=>D.int (s:Nat))::g=st++[L0,.lst (ss.map λs=>D.int (s:Nat))]++g:=by simp
 rw[eZ]at gcx;rw[show startM 6 [D.loc n]=[some (.loc n),none,none,none,none,none] from rfl];generalize st++[L0,.lst (ss.map λs=>D.int (s:Nat))]++g=Z at *;simp[c1,wF,sO,Wi,pd,hm,Az,rG,h1];exact gcx
end Law
set_option maxHeartbeats 0
namespace Law
open L2 M TK TS
theorem Kg (c:Int)(signs:List Nat)(st:aq)(hs:0<signs.length)(fV:signs.length<=1000):∃t:List Nat,t.length<=8/\(∀x∈t,x∈signs)/\zdl [.int c,.str signs] st=.ok (.str t) st:=by
 obtain⟨v,hv⟩:∃v:Nat,c / 6 % 9=(v:Nat):=kh (by omega);obtain⟨j,hj⟩:∃j:Nat,c % 6=(j:Nat):=kh (by omega);have hj6:j<6:=by omega
 have hv9:v<9:=by omega
 let L:List D:=[.int 0,.int 1,.int 1,.int 2,.int 3,.int v]
 obtain⟨m,hm,Eo⟩:∃m:Nat,m<=8/\L[j]? = some (.int m):=by
  match j,hj6 with
  | 0,_=>exact⟨0,by omega,rfl⟩
  | 1,_=>exact⟨1,by omega,rfl⟩
  | 2,_=>exact⟨1,by omega,rfl⟩
  | 3,_=>exact⟨2,by omega,rfl⟩
  | 4,_=>exact⟨3,by omega,rfl⟩
  | 5,_=>exact⟨v,by omega,rfl⟩
 obtain⟨t,t1,t2,t3⟩:=zV (c / 54) m signs (st++[.lst L]) hs fV (by omega);refine⟨t,by omega,t2,?_⟩;have ix:bh (.loc st.length) (.int j) (st++[.lst L])=.ok (.int m) (st++[.lst L]):=xR _ _ _ L _ (by simp[az]) (by rw[Ey];exact Eo);have le:∀(mA:MA) (env:bA),mA env st=.ok L st->dJ mA env st=.ok (.loc st.length) (st++[.lst L]):=λmA env h=>by
  have:L.length<=1000000:=by simp[L]
  simp[h,this]
 have gg:gc st (.ok (.str t) (st++[.lst L]))=.ok (.str t) st:=Qo (by simp);unfold zdl iU dF XS;rw[show startM 3 [D.int c,.str signs]=[some (.int c),some (.str signs),none] from rfl];have f1:∀s,bI (.int c) (.int 6) s=.ok (.int (c / 6)) s:=λs=>wF s c 6 (by omega);have f2:∀s,bI (.int c) (.int 54) s=.ok (.int (c / 54)) s:=λs=>wF s c 54 (by omega);have m1:∀s,bD (.int (c / 6)) (.int 9) s=.ok (.int v) s:=λs=>by rw[sO s _ 9 (by omega),hv]
 have m2:∀s,bD (.int c) (.int 6) s=.ok (.int j) s:=λs=>by rw[sO s _ 6 (by omega),hj]
 have q1:=le (aj (ct (.int 0)) (aj (ct (.int 1)) (aj (ct (.int 1)) (aj (ct (.int 2)) (aj (ct (.int 3)) (aj (aL bD (aL bI (vr 0) (ct (.int 6))) (ct (.int 9))) au)))))) [some (.int c),some (.str signs),none] (by simp[f1,m1,L]);generalize dJ _=LL at *;generalize (st++[MO.lst L]:aq)=Z at *;generalize c / 54=C5 at *;generalize (j:Int)=J at *;generalize (m:Int)=MM at *;simp[q1,m2,ix,f2,t3,gg]
structure Pg (ss signs:List Nat)(i:Nat)(RL:List Rl):Prop where
 len:RL.length<=i
 at_:∀r∈RL,∃k,k<i/\ss[k / signs.length]? = some r.s/\signs[k % signs.length]? = some r.x/\(∀c∈r.w,c∈signs)/\r.w.length<=8/\r.g∈ss
 un:RL.Pairwise λa b=>¬ (a.s=b.s/\a.x=b.x)
theorem zmu (ns:List Int)(n m:Nat)(ss signs:List Nat)(st:aq)(h:az st n=some (ns.map D.int))(hm:st[m]? = some (.lst (ss.map λs=>D.int (s:Nat))))(hs:0<ss.length)(ZV:ss.length<=5)(hg:0<signs.length)(hg4:signs.length<=4)(hss:ss.Nodup)(hsg:signs.Nodup) :
  ∃RL,Pg ss signs (signs.length*ss.length) RL/\Xj [.loc n,.str signs,.loc m,.int 8] st=.ok (.loc st.length) (st++[.lst (RL.map aB)]):=by
 have hmul:signs.length*ss.length<=20:=pA hg4 ZV;unfold Xj iU dF Xk;generalize hb:(aK (aQ 6 _) _:MS)=body;obtain⟨di,st',h1,RL,a5,a6,a7,hR,rfl,rfl⟩:=yW (g:=aP 5) (b:=body) (gs:=[]) (items:=je 0 (signs.length*ss.length))
  (λi env s=>∃(RL:List Rl) (a5 a6 a7:Option D),Pg ss signs i RL/\env=[some (.loc n),some (.str signs),some (.loc m),some (.int 8),some (.loc st.length),a5,a6,a7]/\s=st++[.lst (RL.map aB)])
  (env:=[some (.loc n),some (.str signs),some (.loc m),some (.int 8),some (.loc st.length),none,none,none]) (st:=st++[.lst []]) ⟨[],none,none,none,⟨by simp,by simp,.nil⟩,rfl,rfl⟩ (by
   rintro i d env s hi ⟨RL,a5,a6,a7,hR,rfl,rfl⟩;obtain⟨hp,rfl⟩:=N7 hi;have ei:(0:Int)+(i:Int)=(i:Int):=by omega
   rw[ei];have o4:=hR.len;generalize hZ:st++[MO.lst (RL.map aB)]=Z1;have hn1:az Z1 n=some (ns.map D.int):=by
    rw[<-hZ];unfold az at h ⊢;cases e:st[n]? with
    | none=>rw[e]at h;cases h
    | some o=>rw[rO e];rw[e]at h;exact h
   have hm1:Z1[m]? = some (.lst (ss.map λs=>D.int (s:Nat))):=by rw[<-hZ];exact rO hm
   have hmi:az Z1 m=some (ss.map λs=>D.int (s:Nat)):=by unfold az;rw[hm1]
   have c1:=zN ns n (8+i) Z1 hn1 (by omega);rw[show ((8+i:Nat):Int)=8+(i:Int) by omega]at c1;generalize bx ns (8+i)=c at c1;have l1:∀s,bY [.str signs] s=.ok (.int signs.length) s:=λs=>N8 signs s (by omega);have l2:bY [.loc m] Z1=.ok (.int ss.length) Z1:=by have:=N5 hmi;rwa[gf]at this
   have ms:∀s j,bD (.int j) (.int signs.length) s=.ok (.int (j % (signs.length:Int))) s:=λs j=>sO s _ _ (by omega);have mt:∀s j,bD (.int j) (.int ss.length) s=.ok (.int (j % (ss.length:Int))) s:=λs j=>sO s _ _ (by omega);have fs:∀s j,bI (.int j) (.int signs.length) s=.ok (.int (j / (signs.length:Int))) s:=λs j=>wF s _ _ (by omega)

   have hq1:i / signs.length<ss.length:=Nat.div_lt_of_lt_mul hp;have Z_:i % signs.length<signs.length:=Nat.mod_lt _ hg;have x1:bh (.loc m) (.int ((i:Int) / (signs.length:Int))) Z1=.ok (.int (ss[i / signs.length]:Nat)) Z1:=by
    refine xR Z1 m _ _ _ hmi ?_;rw[show (i:Int) / (signs.length:Int)=((i / signs.length:Nat):Int) from rfl,Ey,gF,gM hq1];rfl
   have x2:∀s,bh (.str signs) (.int ((i:Int) % (signs.length:Int))) s=.ok (.str [signs[i % signs.length]]) s:=λs=>by
    refine Qu s _ _ _ (by omega) ?_;rw[show (i:Int) % (signs.length:Int)=((i % signs.length:Nat):Int) from rfl,Ey,gM Z_]
   obtain⟨j,hj,j1,j2⟩:=W0 (ss.map λs=>D.int (s:Nat)) (c / 5) (by simpa using hs);rw[gf]at j1 j2 hj;have x3:bh (.loc m) (.int (c / 5 % (ss.length:Int))) Z1=.ok (.int (ss[j]:Nat)) Z1:=by
    refine xR Z1 m _ _ _ hmi ?_;rw[j2,List.getElem_map]
   obtain⟨w,hw2,hw1,hwS⟩:=Kg (c / 25) signs Z1 hg (by omega);have ZL:iI "list" (.loc st.length) Z1=true:=by rw[<-hZ];simp[iI]
   obtain⟨rr,hrr⟩:∃rr:Rl,rr=⟨ss[i / signs.length],signs[i % signs.length],w,ss[j]⟩:=⟨_,rfl⟩;have er0:aB rr=.tup [.int (ss[i / signs.length]:Nat),.str [signs[i % signs.length]],.str w,.int (ss[j]:Nat)]:=by rw[hrr];rfl
   have ap:bU (.loc st.length) [aB rr] Z1=.ok .non (st++[.lst ((RL++[rr]).map aB)]):=by
    rw[<-hZ];have:RL.length<1000000:=by omega
    simp[bU,this]
   have m5:∀s,bD (.int c) (.int 5) s=.ok (.int (c % 5)) s:=λs=>sO s c 5 (by omega);have f5:∀s,bI (.int c) (.int 5) s=.ok (.int (c / 5)) s:=λs=>wF s c 5 (by omega);have f25:∀s,bI (.int c) (.int 25) s=.ok (.int (c / 25)) s:=λs=>wF s c 25 (by omega);by_cases hc:0<c % 5
   ·refine⟨by simp,[some (.loc n),some (.str signs),some (.loc m),some (.int 8),some (.loc st.length),some (.int i),a6,a7],Z1,by simp,[some (.loc n),some (.str signs),some (.loc m),some (.int 8),some (.loc st.length),some (.int i),some (.int c),some (.int (ss[j]:Nat))],st++[.lst ((RL++[rr]).map aB)],.inl ?_,RL++[rr],_,_,_,⟨by simp;omega,?_,?_⟩,rfl,rfl⟩
    ·rw[<-hb];rw[er0]at ap;generalize st++[MO.lst ((RL++[rr]).map aB)]=Z2 at *;generalize ss[i / signs.length]=S1 at *;generalize signs[i % signs.length]=S2 at *;generalize ss[j]=S3 at *;simp[c1,m5,f5,f25,hc,l1,l2,fs,ms,mt,x1,x2,x3,hwS,ZL,ap]
    ·intro r hr;rcases gw.mp hr with hr | hr
     ·obtain⟨k,h1,h2⟩:=hR.at_ r hr;exact⟨k,by omega,h2⟩
     ·rw[gG.mp hr,hrr];exact⟨i,by omega,gM hq1,gM Z_,hw1,hw2,m6 _⟩
    ·refine pO.mpr ⟨hR.un,by simp,λx hx y hy e=>?_⟩;rw[gG.mp hy,hrr]at e;obtain⟨k,h1,h2,h3,_⟩:=hR.at_ x hx;obtain⟨q1,e1⟩:=gj.mp h2;obtain⟨q2,e2⟩:=gj.mp h3;have d1:k / signs.length=i / signs.length:=(List.getElem_inj (h₀:=q1) (h₁:=hq1) hss).mp (e1.trans e.1);have d2:k % signs.length=i % signs.length:=(List.getElem_inj (h₀:=q2) (h₁:=Z_) hsg).mp (e2.trans e.2);have a1:=Nat.div_add_mod k signs.length;have a2:=Nat.div_add_mod i signs.length;rw[d1,d2]at a1;omega
   ·refine⟨by simp,[some (.loc n),some (.str signs),some (.loc m),some (.int 8),some (.loc st.length),some (.int i),a6,a7],Z1,by simp,[some (.loc n),some (.str signs),some (.loc m),some (.int 8),some (.loc st.length),some (.int i),some (.int c),a7],Z1,.inl ?_,RL,_,_,_,⟨by omega,λr hr=>?_,hR.un⟩,rfl,hZ.symm⟩
    ·rw[<-hb];simp[c1,m5,hc]
    ·obtain⟨k,h1,h2⟩:=hR.at_ r hr;exact⟨k,by omega,h2⟩) (λ_ _ _=>by simp)
 rw[N6]at hR;refine⟨RL,hR,?_⟩;have hmi:az st m=some (ss.map λs=>D.int (s:Nat)):=by unfold az;rw[hm]
 have g:=Qp (st:=st) (o:=.lst (RL.map aB)) (by
  rw[show aJ st.length (MO.lst _)=bu st.length _ from rfl,JH];intro d hd;obtain⟨c,_,rfl⟩:=gb.mp hd;simp[aB])
 have l1:∀s,bY [.str signs] s=.ok (.int signs.length) s:=λs=>N8 signs s (by omega);have ab8:az (st++[.lst []]) m=some (ss.map λs=>D.int (s:Nat)):=by unfold az;rw[rO hm]
 have l2:bY [.loc m] (st++[.lst []])=.ok (.int ss.length) (st++[.lst []]):=by have:=N5 ab8;rwa[gf]at this
 have ml:∀s,jh (.int signs.length) (.int ss.length) s=.ok (.int (((signs.length*ss.length:Nat):Nat):Int)) s:=λs=>by rw[Ez s _ _ (by omega)];rfl
 have Az:-4611686018427387904<=((signs.length*ss.length:Nat):Int):=by omega
 have rG:((signs.length*ss.length:Nat):Int)<4611686018427387904:=by omega
 have et:(((signs.length*ss.length:Nat):Int)).toNat=signs.length*ss.length:=rfl;rw[show startM 8 [D.loc n,.str signs,.loc m,.int 8]=[some (.loc n),some (.str signs),some (.loc m),some (.int 8),none,none,none,none] from rfl];generalize hNN:((signs.length*ss.length:Nat):Int)=NN at *;generalize st++[MO.lst (RL.map aB)]=Z at *;simp[l1,l2,ml,Az,rG,et,h1];exact g
end Law
set_option maxHeartbeats 0
namespace Law
open L2 M TK TS
theorem zig:∀l:List Nat,rF [] (l.map λc=>[c])=l
 | []=>rfl
 | [c]=>rfl
 | c::d::l=>by
  have ih:=zig (d::l);simp only[gB]at ih ⊢;rw[rF,ih]
  rfl
theorem GZ:∀(l m:List Nat),l.Nodup->(∀x∈l,x∈m)->l.length<=m.length
 | [],_,_,_=>by simp
 | x::l,m,h,hs=>by
  rw[kZ]at h;have hx:=hs x (by simp);have:=GZ l (m.erase x) h.2 λy hy=>by
   have qY:y≠x:=λe=>h.1 (by rw[<-e];exact hy);exact (List.mem_erase_of_ne qY).mpr (hs y (by simp[hy]))
  rw[List.length_erase_of_mem hx]at this;have:=qd hx;simp only[g8];omega
theorem zna (l:List Nat):((l.map λc=>[c]).map List.length).sum=l.length:=by
 induction l with
 | nil=>rfl
 | cons c l ih=>simp only[gB,List.sum_cons,ih,g8,n8];omega
theorem Fe (ns:List Int)(n:Nat)(signs:List Nat)(st:aq)(h:∀g,az (st++g) n=some (ns.map D.int))(hs:signs.length<=4)(uR:signs.Nodup)(Ep:∀x∈signs,x∈cC):∃t:List Nat,t.length<=7/\t.Nodup/\(∀x∈t,x∈cC)/\(∀x∈signs,x∈t)/\zg3 [.loc n,.str signs] st=.ok (.str t) st:=by
 let R:List Nat:=cC.filter λc=>!decide (c∈signs)
 have hRl:22<=R.length/\R.length<=26:=by
  have h1:R.length<=cC.length:=List.length_filter_le _ _;have h2:=GZ cC (R++signs) (by decide) λx hx=>by
   by_cases c:x∈signs
   ·exact kI _ c
   ·exact h_ _ (nO.mpr ⟨hx,by simpa using c⟩)
  rw[gC]at h2;have h3:cC.length=26:=rfl;omega
 have hRn:R.Nodup:=(by decide:cC.Nodup).filter _;have hRd:∀x∈R,x∈cC/\x∉signs:=λx hx=>by
  have:=nO.mp hx;exact⟨this.1,by simpa using this.2⟩
 have hc:∀g,tY [.loc n,.int 3] (st++g)=.ok (.int (bx ns 3)) (st++g):=λg=>zN ns n 3 (st++g) (h g) (by omega);generalize bx ns 3=c at hc;obtain⟨j,hj⟩:∃j:Nat,c % (R.length:Nat)=(j:Nat):=kh (nZ _ (by omega));have hjl:j<R.length:=by have:=n_ c (show (0:Int)<(R.length:Nat) by omega);omega
 obtain⟨k,hk⟩:∃k:Nat,c / 26 % 4=(k:Nat):=kh (by omega);have hk4:k<4:=by omega
 have Tq:(R.drop j++R.take j).Perm R:=by
  have:=List.perm_append_comm (l₁:=R.drop j) (l₂:=R.take j);rwa[List.take_append_drop]at this
 have hT:∀x∈(R.drop j++R.take j).take k,x∈R:=λx hx=>Tq.mem_iff.mp (List.mem_of_mem_take hx);refine⟨signs++(R.drop j++R.take j).take k,?_,?_,?_,λx hx=>h_ _ hx,?_⟩
 ·rw[gC,k_];omega
 ·refine mZ.mpr ⟨uR,((Tq.nodup_iff.mpr hRn).sublist (List.take_sublist _ _)),λa ha b hb e=>?_⟩;exact (hRd b (hT b hb)).2 (e ▸ ha)
 ·intro x hx;rcases gw.mp hx with hx | hx
  ·exact Ep x hx
  ·exact (hRd x (hT x hx)).1
 have cf:=zhp (capt:=[some 1,none]) (mi:=By (vr 2)) (g:=aP 1) (t:=jl (aL sY (vr 1) (vr 0))) (e:=vr 1) (env:=[some (.loc n),some (.str signs),some (.str cC),none,none]) (st:=st) (st1:=st) (items:=cC.map λc=>D.str [c]) (gs:=[]) (λd=>match d with | .str [c]=>!decide (c∈signs) | _=>false) (λd=>d) (λe=>∃e0,e=[some (.str signs),e0])
  (by rw[Rc];simp only[Rb];rfl) ⟨none,by simp[jY]⟩ (by rw[gf];decide) (λys=>by simp) (by
   rintro d hd di ys ⟨e0,rfl⟩;obtain⟨x,hx,rfl⟩:=gb.mp hd;have nI:∀Z,sY (.str [x]) (.str signs) Z=.ok (.bl (!decide (x∈signs))) Z:=λZ=>by
    show (if signs.length<=1000000 then M.R.ok (D.bl (!decide (x∈signs))) Z else M.R.bad)=_;rw[if_pos (by omega)]
   generalize (st++[MO.lst ys]:aq)=Z at *;exact⟨[some (.str signs),some (.str [x])],⟨_,rfl⟩,by simp,by simp[nI],λ_=>by simp⟩)
 have ef:(((cC.map λc=>D.str [c]).filter λd=>match d with | .str [c]=>!decide (c∈signs) | _=>false).map λd=>d)=(R.map λc=>[c]).map D.str:=by
  rw[List.map_id',List.filter_map,gW]
  rfl
 rw[ef]at cf;have jn:=zb (st++[.lst ((R.map λc=>[c]).map D.str)]) [] st.length (R.map λc=>[c]) (by simp[az]) (by rw[zna];simp;omega);rw[zig]at jn;have hc1:=hc [.lst ((R.map λc=>[c]).map D.str)];have gg:∀t,gc st (.ok (.str t) (st++[.lst ((R.map λc=>[c]).map D.str)]))=.ok (.str t) st:=λt=>Qo (by simp);generalize hZ:(st++[MO.lst ((R.map λc=>[c]).map D.str)]:aq)=Z at *;have lW:bY [.str R] Z=.ok (.int R.length) Z:=N8 R Z (by omega);have m1:bD (.int c) (.int R.length) Z=.ok (.int j) Z:=by rw[sO Z c _ (by omega),hj]
 have f1:bI (.int c) (.int 26) Z=.ok (.int (c / 26)) Z:=wF Z c 26 (by omega);have m2:bD (.int (c / 26)) (.int 4) Z=.ok (.int k) Z:=by rw[sO Z _ 4 (by omega),hk]
 have s1:rP (.str R) (some (j:Int)) none Z=.ok (.str (R.drop j)) Z:=by rw[xU _ _ _ _ (by omega),U8 R j (by omega)]
 have s2:rP (.str R) none (some (j:Int)) Z=.ok (.str (R.take j)) Z:=by rw[xU _ _ _ _ (by omega),Law.Qq R j (by omega)]
 have a1:bj (.str (R.drop j)) (.str (R.take j)) Z=.ok (.str (R.drop j++R.take j)) Z:=by
  show (if (R.drop j).length+(R.take j).length<=1000000 then _ else _)=_;rw[if_pos (by rw[mY,k_];omega)]
 have wg:(R.drop j++R.take j).length=R.length:=Tq.length_eq;have s3:rP (.str (R.drop j++R.take j)) none (some (k:Int)) Z=.ok (.str ((R.drop j++R.take j).take k)) Z:=by rw[xU _ _ _ _ (by omega),Law.Qq _ k (by omega)]
 have a2:bj (.str signs) (.str ((R.drop j++R.take j).take k)) Z=.ok (.str (signs++(R.drop j++R.take j).take k)) Z:=by
  show (if signs.length+((R.drop j++R.take j).take k).length<=1000000 then _ else _)=_;rw[if_pos (by rw[k_];omega)]
 have gg:=gg (signs++(R.drop j++R.take j).take k);unfold zg3 iU dF Xe;have Ub:([97,98,99,100,101,102,103,104,105,106,107,108,109,110,111,112,113,114,115,116,117,118,119,120,121,122]:List Nat)=cC:=rfl;rw[Ub,show startM 5 [D.loc n,.str signs]=[some (.loc n),some (.str signs),none,none,none] from rfl];have ty:∀s,iI "str" (.str []) s=true:=λs=>rfl;generalize signs++(R.drop j++R.take j).take k=T5 at *;generalize (R.drop j++R.take j).take k=T4 at *;generalize R.drop j++R.take j=T3 at *;generalize R.drop j=T2 at *;generalize R.take j=T1 at *;generalize (R.length:Int)=RL at *;generalize (j:Int)=J at *;generalize (k:Int)=KK at *;generalize R=RR at *;generalize fO _ _ _ _ _=CE at *;generalize cC=AB at *;simp[cf,ty,jn,hc1,lW,m1,f1,m2,s1,s2,a1,s3,a2,gg]
end Law
set_option maxHeartbeats 0
namespace Law
open L2 M TK TS
theorem Ja (f:Nat)(ks:List TK)(t k:Nat)(u:List Nat):encC f ks (qj t k u)=.tup [.int t,.str (List.replicate k 95),.str [(u++if k=0 then [] else [95]).headD 95],.str (u++if k=0 then [] else [95]).tail]:=rfl
theorem zl1 (f:Nat)(ks:List TK)(s k:Nat)(row:List Nat)(st:aq)(hr:row.length<=1000)(hk:k<=1000):Xl [.tup [.int s,.str row],.int k] st=.ok (encC f ks (qj s k row)) st:=by
 rw[Ja];unfold Xl iU dF Xm;have mk:∀s1,lK (.str [95]) (.int k) s1=.ok (.str (List.replicate k 95)) s1:=λs1=>zlc 95 k s1 (by omega);have m0:∀s1,lK (.str [95]) (.int 0) s1=.ok (.str []) s1:=λs1=>zlc 95 0 s1 (by omega);have m1:∀s1,lK (.str [95]) (.int 1) s1=.ok (.str [95]) s1:=λs1=>zlc 95 1 s1 (by omega);rw[show startM 4 [D.tup [.int s,.str row],.int k]=[some (.tup [.int s,.str row]),some (.int k),none,none] from rfl];cases row with
 | nil =>
  have e1:((([]:List Nat)++if k=0 then [] else [95]).headD 95)=95:=by by_cases c:k=0<;>simp[c]
  have e2:(([]:List Nat)++if k=0 then [] else [95]).tail=[]:=by by_cases c:k=0<;>simp[c]
  rw[e1,e2];simp[mk,vP]
 | cons c t =>
  have hx:=λs1=>HD c t s1 (by omega);have hs:=λs1=>wH (c::t) s1 (by omega);simp only[List.tail_cons,g8]at hs hr;have e1:((c::t++if k=0 then [] else [95]).headD 95)=c:=rfl;have e2:(c::t++if k=0 then [] else [95]).tail=t++if k=0 then [] else [95]:=rfl;rw[e1,e2];by_cases h0:0<k
  ·have ad:∀s1,bj (.str t) (.str [95]) s1=.ok (.str (t++[95])) s1:=λs1=>xZ s1 _ _ (by simp;omega);rw[if_neg (by omega)];simp[mk,m1,h0,hx,hs,ad,vP]
  ·have ad:∀s1,bj (.str t) (.str []) s1=.ok (.str t) s1:=λs1=>by rw[xZ s1 _ _ (by simp;omega),gZ]
   rw[if_pos (by omega)];simp[mk,m0,h0,hx,hs,ad,vP]
theorem zjr (RL:List Rl)(n:Nat)(st:aq)(hg:st[n]? = some (.lst (RL.map aB)))(hR:∀r∈RL,∀r'∈RL,r.s=r'.s->r.x=r'.x->r.w=r'.w/\r.g=r'.g)(r:Rl)(hr:r∈RL)(rest:List Nat)(hl:rest.length<=1000)(hw:r.w.length<=1000) :
  Oj [.loc n,.tup [.int r.s,.str (r.x::rest)]] st=.ok (.tup [.int r.g,.str (rest++r.w)]) st:=by
 unfold Oj iU dF Vl;generalize hb:(qF (yD _ _) (retS _) cL:MS)=body;have j0:∀s1,bh (.tup [.int r.s,.str (r.x::rest)]) (.int 0) s1=.ok (.int r.s) s1:=λs1=>qW s1 0 _ _ rfl;have j1:∀s1,bh (.tup [.int r.s,.str (r.x::rest)]) (.int 1) s1=.ok (.str (r.x::rest)) s1:=λs1=>qW s1 1 _ _ rfl;have s1:∀s,rP (.str (r.x::rest)) none (some 1) s=.ok (.str [r.x]) s:=λs=>by
  rw[xU _ _ _ _ (by simp;omega)];have:=Qq (r.x::rest) 1 (by simp);rw[show ((1:Nat):Int)=1 from rfl]at this;rw[this];simp
 have s2:∀s,rP (.str (r.x::rest)) (some 1) none s=.ok (.str rest) s:=λs=>by
  have:=wH (r.x::rest) s (by simp;omega);simpa using this
 obtain⟨o,st',h1,rfl,rfl⟩:=Ds (g:=uG 4 (cH (aP 2) (cH (aP 3) (cH (aP 4) (cH (aP 5) vf))))) (b:=body) (gs:=[(n,.lst (RL.map aB))]) (items:=RL.map aB)
  (λpre env s=>(∀d∈pre,d≠aB r)/\s=st/\∃a2 a3 a4 a5,env=[some (.loc n),some (.tup [.int r.s,.str (r.x::rest)]),a2,a3,a4,a5])
  (λo s=>o=.rt (.tup [.int r.g,.str (rest++r.w)])/\s=st)
  (env:=[some (.loc n),some (.tup [.int r.s,.str (r.x::rest)]),none,none,none,none]) (st:=st) ⟨by simp,rfl,none,none,none,none,rfl⟩ (by
   rintro pre d post env s hi ⟨v9,rfl,a2,a3,a4,a5,rfl⟩;have hd:d∈RL.map aB:=by rw[hi];simp
   obtain⟨q,hq,rfl⟩:=gb.mp hd;refine⟨by simp[hg],[some (.loc n),some (.tup [.int r.s,.str (r.x::rest)]),some (.int q.s),some (.str [q.x]),some (.str q.w),some (.int q.g)],s,by unfold aB;simp,?_⟩;have ad:∀s1,bj (.str rest) (.str r.w) s1=.ok (.str (rest++r.w)) s1:=λs1=>xZ s1 _ _ (by omega);by_cases e1:q.s=r.s
   ·by_cases e2:q.x=r.x
    ·obtain⟨ew,eg⟩:=hR q hq r hr e1 e2;refine .inr (.inr ⟨_,s,?_,rfl,rfl⟩);rw[<-hb];rw[e1,e2,ew,eg];generalize D.tup [.int r.s,.str (r.x::rest)]=TT at *;simp[j0,j1,s1,s2,ad]
    ·refine .inl ⟨[some (.loc n),some (.tup [.int r.s,.str (r.x::rest)]),some (.int q.s),some (.str [q.x]),some (.str q.w),some (.int q.g)],s,.inl ?_,?_,rfl,_,_,_,_,rfl⟩
     ·rw[<-hb,e1];generalize D.tup [.int r.s,.str (r.x::rest)]=TT at *;simp[j0,j1,s1,e2]
     ·intro d hd;rcases gw.mp hd with hd | hd
      ·exact v9 d hd
      ·rw[gG.mp hd];intro z;unfold aB at z;injection z with z;simp at z;exact e2 z.2.1
   ·have e1':¬ (q.s:Int)=(r.s:Int):=by omega
    refine .inl ⟨[some (.loc n),some (.tup [.int r.s,.str (r.x::rest)]),some (.int q.s),some (.str [q.x]),some (.str q.w),some (.int q.g)],s,.inl ?_,?_,rfl,_,_,_,_,rfl⟩
    ·rw[<-hb];generalize D.tup [.int r.s,.str (r.x::rest)]=TT at *;generalize (q.s:Int)=QS at *;generalize (r.s:Int)=RS at *;simp[j0,j1,s1,e1']
    ·intro d hd;rcases gw.mp hd with hd | hd
     ·exact v9 d hd
     ·rw[gG.mp hd];intro z;unfold aB at z;injection z with z;simp at z;exact e1 (by omega)) (by
   rintro env s ⟨wk,_⟩;exact absurd rfl (wk _ (gb.mpr ⟨r,hr,rfl⟩)))
 rw[show startM 6 [D.loc n,.tup [.int r.s,.str (r.x::rest)]]=[some (.loc n),some (.tup [.int r.s,.str (r.x::rest)]),none,none,none,none] from rfl];generalize RL.map aB=IT at *;simp[hg,h1,vP]
theorem zl2 (RL:List Rl)(n:Nat)(st:aq)(hg:st[n]? = some (.lst (RL.map aB)))(s0:Nat)(row:List Nat)(hl:row.length<=1000)(yP:∀r∈RL,¬ (r.s=s0/\row.take 1=[r.x])) :
  Oj [.loc n,.tup [.int s0,.str row]] st=.ok .non st:=by
 unfold Oj iU dF Vl;generalize hb:(qF (yD _ _) (retS _) cL:MS)=body;have j0:∀s1,bh (.tup [.int s0,.str row]) (.int 0) s1=.ok (.int s0) s1:=λs1=>qW s1 0 _ _ rfl;have j1:∀s1,bh (.tup [.int s0,.str row]) (.int 1) s1=.ok (.str row) s1:=λs1=>qW s1 1 _ _ rfl;have s1:∀s,rP (.str row) none (some 1) s=.ok (.str (row.take 1)) s:=λs=>by
  rw[xU _ _ _ _ (by omega)];cases row with
  | nil=>rfl
  | cons c t =>
   have:=Qq (c::t) 1 (by simp);rw[show ((1:Nat):Int)=1 from rfl]at this;rw[this]
 obtain⟨di,st',h1,a2,a3,a4,a5,rfl,rfl⟩:=yW (g:=uG 4 (cH (aP 2) (cH (aP 3) (cH (aP 4) (cH (aP 5) vf))))) (b:=body) (gs:=[(n,.lst (RL.map aB))]) (items:=RL.map aB)
  (λi env s=>∃a2 a3 a4 a5,env=[some (.loc n),some (.tup [.int s0,.str row]),a2,a3,a4,a5]/\s=st)
  (env:=[some (.loc n),some (.tup [.int s0,.str row]),none,none,none,none]) (st:=st) ⟨none,none,none,none,rfl,rfl⟩ (by
   rintro i d env s hi ⟨a2,a3,a4,a5,rfl,rfl⟩;rw[gF]at hi;obtain⟨q,hq,rfl⟩:=my.mp hi;have Z_:=yP q (gY hq);refine⟨by simp[hg],[some (.loc n),some (.tup [.int s0,.str row]),some (.int q.s),some (.str [q.x]),some (.str q.w),some (.int q.g)],s,by unfold aB;simp,[some (.loc n),some (.tup [.int s0,.str row]),some (.int q.s),some (.str [q.x]),some (.str q.w),some (.int q.g)],s,.inl ?_,_,_,_,_,rfl,rfl⟩;rw[<-hb];generalize D.tup [.int s0,.str row]=TT at *;by_cases e:(q.s:Int)=(s0:Int)
   ·have e2:¬ [q.x]=row.take 1:=λz=>Z_ ⟨by omega,z.symm⟩;generalize row.take 1=R1 at *;generalize (q.s:Int)=QS at *;generalize (s0:Int)=RS at *;simp[j0,j1,s1,e,e2]
   ·generalize (q.s:Int)=QS at *;generalize (s0:Int)=RS at *;simp[j0,j1,s1,e]) (by
   rintro env s ⟨_,_,_,_,_,e⟩;rw[e];simp[hg])
 rw[show startM 6 [D.loc n,.tup [.int s0,.str row]]=[some (.loc n),some (.tup [.int s0,.str row]),none,none,none,none] from rfl];generalize RL.map aB=IT at *;simp[hg,h1,vP]
end Law
set_option maxHeartbeats 0
namespace Law
open L2 M TK TS
structure dO where
 st:Int
 c:Nat
 w:Nat
 m:Nat
 g:Int
noncomputable def dO.d (r:dO):D:=.tup [.int r.st,.str [r.c],.str [r.w],.str [r.m],.int r.g]
end Law
namespace Law
open L2 M
noncomputable def rW (r:dO):List Key:=[.inl r.st,.inr (strOf [r.c])]
theorem znq (r:dO)(s:Int)(c:Nat):rW r=[.inl s,.inr (strOf [c])]↔r.st=s/\r.c=c:=by
 unfold rW;constructor
 ·intro h;injection h with h1 h2;injection h2 with h2 h3;injection h1 with h1;injection h2 with h2;injection h2 with h2;refine⟨h1,?_⟩;have:=congrArg Array.toList h2;simpa using this
 ·rintro ⟨rfl,rfl⟩;rfl
noncomputable def tab:List (List Key×D)->List dO->List (List Key×D)
 | kvs,[]=>kvs
 | kvs,r::rs=>tab (match jm kvs (rW r) with | some _=>kvs | none=>kvs++[(rW r,r.d)]) rs
theorem zX (s:Int)(c:Nat):∀(rs:List dO) (kvs:List (List Key×D)),jm (tab kvs rs) [.inl s,.inr (strOf [c])]=match jm kvs [.inl s,.inr (strOf [c])] with | some d=>some d | none=>(rs.find? λr=>decide (r.st=s/\r.c=c)).map dO.d
 | [],kvs=>by rw[tab];cases jm kvs [.inl s,.inr (strOf [c])]<;>rfl
 | r::rs,kvs=>by
  rw[tab,zX s c rs,mO];by_cases h:r.st=s/\r.c=c
  ·have hk:=(znq r s c).mpr h;rw[hk];cases e:jm kvs [.inl s,.inr (strOf [c])] with
   | some d=>simp only[e]
   | none =>
    dsimp only;rw[zkw _ _ _ _ e,if_pos rfl];simp[h]
  ·have hk:¬ rW r=[.inl s,.inr (strOf [c])]:=λz=>h ((znq r s c).mp z);have hd:decide (r.st=s/\r.c=c)=false:=decide_eq_false h;rw[hd];cases e:jm kvs (rW r) with
   | some d=>rfl
   | none =>
    dsimp only;rw[zkw _ _ _ _ e,if_neg hk]
theorem zY {p:List Key×D}:∀{rs:List dO} {kvs:List (List Key×D)},p∈tab kvs rs->p∈kvs\/∃r∈rs,p.2=r.d
 | [],kvs,h=>by rw[tab]at h;exact .inl h
 | r::rs,kvs,h=>by
  rw[tab]at h;rcases zY h with h | ⟨q,hq,e⟩
  ·cases e:jm kvs (rW r) with
   | some d=>rw[e]at h;exact .inl h
   | none =>
    rw[e]at h;rcases gw.mp h with h | h
    ·exact .inl h
    ·obtain rfl:p=(rW r,r.d):=by simpa using h
     exact .inr ⟨r,by simp,rfl⟩
  ·exact .inr ⟨q,kj _ hq,e⟩
theorem Fw (rs:List dO)(n:Nat)(st:aq)(h:st[n]? = some (.lst (rs.map dO.d)))(hl:rs.length<=5000):zdm [.loc n] st=.ok (.loc st.length) (st++[.dic (tab [] rs)]):=by
 unfold zdm iU dF XC;generalize hb:(eV (cV "dict" qX (vr 1) _):MS)=body;have key:∀(l:List dO) (kvs:List (List Key×D)) (a2:Option D),kvs.length+l.length<=5000->∃a2',cW (aP 2) body [(n,.lst (rs.map dO.d))] (l.map dO.d) [some (.loc n),some (.loc st.length),a2] (st++[.dic kvs])=.ok (.nx [some (.loc n),some (.loc st.length),a2']) (st++[.dic (tab kvs l)]):=by
  intro l
  induction l with
  | nil=>intro kvs a2 _;exact⟨a2,by rw[nU,cW,if_pos (by simp[rO h]),tab]⟩
  | cons r l ih =>
   intro kvs a2 hk;rw[g8]at hk;have J8:kvs.length<1000000:=by omega
   have ks:keysOf [.int r.st,.str [r.c]]=some (rW r):=rfl;rw[gB,cW,if_pos (by simp[rO h]),KR,R.aG,tab];rw[show List.set [some (D.loc n),some (D.loc st.length),a2] 2 (some r.d)=[some (.loc n),some (.loc st.length),some r.d] from rfl];cases e:jm kvs (rW r) with
   | some d =>
    obtain⟨a2',h2⟩:=ih kvs (some r.d) (by omega);refine⟨a2',?_⟩;have qY:body [some (.loc n),some (.loc st.length),some r.d] (st++[.dic kvs])=.ok (.nx [some (.loc n),some (.loc st.length),some r.d]) (st++[.dic kvs]):=by
     rw[<-hb];simp only[rW]at e;simp[iI,dO.d,bh,sy,Ar,qX,J8,e]
    rw[qY,R.aG];exact h2
   | none =>
    obtain⟨a2',h2⟩:=ih (kvs++[(rW r,r.d)]) (some r.d) (by simp;omega);refine⟨a2',?_⟩;have qY:body [some (.loc n),some (.loc st.length),some r.d] (st++[.dic kvs])=.ok (.nx [some (.loc n),some (.loc st.length),some r.d]) (st++[.dic (kvs++[(rW r,r.d)])]):=by
     rw[<-hb];simp only[rW]at e;simp[iI,dO.d,bh,sy,Ar,qX,J8,e,rW]
    rw[qY,R.aG];exact h2
 obtain⟨a2,k1⟩:=key rs [] none (by simpa using hl);rw[show startM 3 [D.loc n]=[some (.loc n),none,none] from rfl];simp[rO h,k1];refine Qp (o:=.dic (tab [] rs)) (λp hp=>?_);rcases zY hp with hp | ⟨r,_,e⟩
 ·exact absurd hp (mz)
 ·rw[e];simp[dO.d]
noncomputable def pick (rs:List dO)(s:Int)(c:Nat):Option dO:=rs.find? λr=>decide (r.st=s/\r.c=c)
noncomputable def Oz (r:List Nat):Nat×List Nat:=match r with | []=>(95,[]) | x::t=>(x,t)
noncomputable def J4 (l:List Nat):List Nat×Nat:=if l=[] then ([],95) else (l.dropLast,l.getLastD 0)
noncomputable def goD (q:dO)(l r:List Nat):D:=if q.m=108 then .tup [.int q.g,.str (J4 l).1,.str [(J4 l).2],.str (q.w::r)] else .tup [.int q.g,.str (l++[q.w]),.str [(Oz r).1],.str (Oz r).2]
noncomputable def Np (rs:List dO)(s:Int)(l:List Nat)(c:Nat)(r:List Nat):D:=match pick rs s c with
 | none=>.non
 | some q=>goD q l r
theorem Jp {α:Type}(l:List α)(x:α):sy (l++[x]) (-1)=some x:=by
 unfold sy Ar;rw[if_neg (by omega),if_pos (by simp;omega)];have:((-1:Int)+((l++[x]).length:Nat)).toNat=l.length:=by simp;omega
 rw[this];simp
theorem Jf {α:Type}(l:List α)(x:α):cut (l++[x]) (some (-1)) none=[x]:=by
 unfold cut;rw[HT.U9];have:HT.cR (l++[x]).length 0 (some (-1))=l.length:=by
  unfold HT.cR;dsimp only;rw[if_pos (by omega)];simp;omega
 rw[this];simp
theorem Nk {l:List Nat}(h:l≠[]):∃k x,l=k++[x]:=⟨l.dropLast,l.getLast h,(pK h).symm⟩
theorem G9 (k:List Nat)(x:Nat):J4 (k++[x])=(k,x):=by
 unfold J4;rw[if_neg (by simp)];simp
theorem G4 (rs:List dO)(m:Nat)(s:Int)(l:List Nat)(c:Nat)(r:List Nat)(st:aq)(h:st[m]? = some (.dic (tab [] rs)))(hl:l.length<=100000)(hr:r.length<=100000) :
  zcb [.loc m,.tup [.int s,.str l,.str [c],.str r]] st=.ok (Np rs s l c r) st:=by
 unfold zcb iU dF X4;rw[show startM 5 [D.loc m,.tup [.int s,.str l,.str [c],.str r]]=[some (.loc m),some (.tup [.int s,.str l,.str [c],.str r]),none,none,none] from rfl];have j0:∀s1,bh (.tup [.int s,.str l,.str [c],.str r]) (.int 0) s1=.ok (.int s) s1:=λs1=>qW s1 0 _ _ rfl;have j1:∀s1,bh (.tup [.int s,.str l,.str [c],.str r]) (.int 1) s1=.ok (.str l) s1:=λs1=>qW s1 1 _ _ rfl;have j2:∀s1,bh (.tup [.int s,.str l,.str [c],.str r]) (.int 2) s1=.ok (.str [c]) s1:=λs1=>qW s1 2 _ _ rfl;have j3:∀s1,bh (.tup [.int s,.str l,.str [c],.str r]) (.int 3) s1=.ok (.str r) s1:=λs1=>qW s1 3 _ _ rfl;have hv:=zX s c rs [];rw[Fl]at hv;dsimp only at hv;have hp:pick rs s c=rs.find? λr=>decide (r.st=s/\r.c=c):=rfl;rw[<-hp]at hv;unfold Np;cases e:pick rs s c with
 | none =>
  rw[e]at hv;simp only[Option.map_none]at hv;generalize tab [] rs=TB at *;simp[j0,j2,iI,h,yw,hv,vP]
 | some q =>
  rw[e]at hv;simp only[nu]at hv;have i0:∀s1,bh q.d (.int 0) s1=.ok (.int q.st) s1:=λs1=>qW s1 0 _ _ rfl;have i1:∀s1,bh q.d (.int 1) s1=.ok (.str [q.c]) s1:=λs1=>qW s1 1 _ _ rfl;have i2:∀s1,bh q.d (.int 2) s1=.ok (.str [q.w]) s1:=λs1=>qW s1 2 _ _ rfl;have i3:∀s1,bh q.d (.int 3) s1=.ok (.str [q.m]) s1:=λs1=>qW s1 3 _ _ rfl;have i4:∀s1,bh q.d (.int 4) s1=.ok (.int q.g) s1:=λs1=>qW s1 4 _ _ rfl;have jn:∀s1,ji q.d .non s1=.ok (.bl false) s1:=λs1=>rfl;dsimp only;generalize tab [] rs=TB at *;unfold goD;by_cases hq:q.m=108
  ·rw[if_pos hq];have ad:∀s1,bj (.str [q.w]) (.str r) s1=.ok (.str (q.w::r)) s1:=λs1=>xZ s1 _ _ (by simp;omega);by_cases hl0:l=[]
   ·subst hl0;have s1:∀s2,rP (.str []) none (some (-1)) s2=.ok (.str []) s2:=λs2=>by rw[xU s2 _ _ _ (by decide),znf];rfl
    have s3:∀s2,rP (.str []) (some (-1)) none s2=.ok (.str []) s2:=λs2=>by rw[xU s2 _ _ _ (by decide)];rfl
    simp[j0,j1,j2,j3,iI,h,yw,hv,jn,i2,i3,i4,hq,s1,s3,ad,J4,vP]
   ·obtain⟨k,x,rfl⟩:=Nk hl0;have V_:k.length+1<=100000:=by simpa using hl
    have s1:∀s2,rP (.str (k++[x])) none (some (-1)) s2=.ok (.str k) s2:=λs2=>by rw[xU s2 _ _ _ (by simp;omega),znf,List.dropLast_concat]
    have s3:∀s2,rP (.str (k++[x])) (some (-1)) none s2=.ok (.str [x]) s2:=λs2=>by rw[xU s2 _ _ _ (by simp;omega),Jf]
    rw[G9];generalize k++[x]=K at *;simp[j0,j1,j2,j3,iI,h,yw,hv,jn,i2,i3,i4,hq,s1,s3,ad,vP]
  ·rw[if_neg hq];have ad:∀s1,bj (.str l) (.str [q.w]) s1=.ok (.str (l++[q.w])) s1:=λs1=>xZ s1 _ _ (by simp;omega);cases r with
   | nil =>
    have s1:∀s2,rP (.str []) none (some 1) s2=.ok (.str []) s2:=λs2=>by rw[xU s2 _ _ _ (by decide)];rfl
    have s3:∀s2,rP (.str []) (some 1) none s2=.ok (.str []) s2:=λs2=>by rw[xU s2 _ _ _ (by decide)];rfl
    simp[j0,j1,j2,j3,iI,h,yw,hv,jn,i2,i3,i4,hq,s1,s3,ad,Oz,vP]
   | cons y t =>
    have V_:t.length+1<=100000:=by simpa using hr
    have s1:∀s2,rP (.str (y::t)) none (some 1) s2=.ok (.str [y]) s2:=λs2=>by
     rw[xU s2 _ _ _ (by simp;omega)];have:=Qq (y::t) 1 (by simp);exact congrArg (λz=>R.ok (D.str z) s2) this
    have s3:∀s2,rP (.str (y::t)) (some 1) none s2=.ok (.str t) s2:=λs2=>wH (y::t) s2 (by simp;omega);simp[j0,j1,j2,j3,iI,h,yw,hv,jn,i2,i3,i4,hq,s1,s3,ad,Oz,vP]
noncomputable def fc {α:Type}(nx:α->Option α):Nat->α->List α
 | 0,x=>[x]
 | n+1,x=>match nx x with
  | none=>[x]
  | some y=>x::fc nx n y
theorem znt {α:Type}(nx:α->Option α):∀(n:Nat) (x:α),1<=(fc nx n x).length/\(fc nx n x).length<=n+1
 | 0,x=>by simp[fc]
 | n+1,x=>by
  rw[fc]
  split
  ·simp
  ·rename_i y _;have:=znt nx n y;simp;omega
theorem zhx {α:Type}(enc:α->D)(nx:α->Option α)(P:Nat->α->Prop)(cap:D)(c most:Nat)(st:aq)(x:α)(hP0:P 0 x)(hPs:∀k y z,k<most->P k y->nx y=some z->P (k+1) z)
  (hnn:∀y s,ji (enc y) .non s=.ok (.bl false) s) (hu:∀y k,under k (enc y)) (hG:∀k y l,k<most->P k y->GL 0 ([cap]++[enc y]) (dU (st++[.lst l]))=.ok ((nx y).elim .non enc) (dU (st++[.lst l])))
  (hc:st[c]? = some (.clo 0 (Eh 0) [cap])) (hmo:most<999990):XJ [.loc c,enc x,.int most] st=.ok (.loc st.length) (st++[.lst ((fc nx most x).map enc)]):=by
 unfold XJ iU dF XQ;generalize hC:(jl (aL O8 (bF bY (aj (vr 3) au)) (vr 2)):MT)=C;generalize hB:(aK (aQ 4 (callC Eh GL 0 _)) _:MS)=B;have Ug:∀(l:List D) (a4:Option D),C [some (.loc c),some (enc x),some (.int most),some (.loc st.length),a4] (st++[.lst l])=.ok (decide ((l.length:Int)<=(most:Int))) (st++[.lst l]):=λl a4=>by
  rw[<-hC];have wg:=N5 (st:=st++[.lst l]) (n:=st.length) (ds:=l) (by simp[az]);simp[wg]
 have hBv:∀(pre:List α) (y:α) (a4:Option D),P pre.length y->pre.length<most->B [some (.loc c),some (enc x),some (.int most),some (.loc st.length),a4] (st++[.lst ((pre++[y]).map enc)]) =
   match nx y with
   | none=>.ok (.rt (.loc st.length)) (st++[.lst ((pre++[y]).map enc)])
   | some z=>.ok (.nx [some (.loc c),some (enc x),some (.int most),some (.loc st.length),some (enc z)]) (st++[.lst ((pre++[y]++[z]).map enc)]):=λpre y a4 hy hp=>by
  rw[<-hB];have hix:sy ((pre++[y]).map enc) (-1)=some (enc y):=by
   rw[kE];exact Jp _ _
  have hA:(aj (aL bh (vr 3) (ye vg (ct (.int 1)))) au) [some (.loc c),some (enc x),some (.int most),some (.loc st.length),a4] (st++[.lst ((pre++[y]).map enc)])=.ok [enc y] (st++[.lst ((pre++[y]).map enc)]):=by
   have:=xR (st++[.lst ((pre++[y]).map enc)]) st.length (-1) ((pre++[y]).map enc) (enc y) (by simp) hix;generalize (pre++[y]).map enc=l at this ⊢;simp[this]
  have vC:=K3 (Λ:=Eh) (G:=GL) (i:=0) (n:=c) (j:=0) (d:=(nx y).elim .non enc) (env:=[some (.loc c),some (enc x),some (.int most),some (.loc st.length),a4]) rfl (rO hc) hA (rO hc) (hG pre.length y _ hp hy) (by cases nx y with | none=>simp | some z=>exact hu z _);have hlen:((pre++[y]).map enc).length<1000000:=by simp;omega
  have aci:∀z,(pre++[y]++[z]).map enc=(pre++[y]).map enc++[enc z]:=λz=>by simp
  simp only[aci];generalize (pre++[y]).map enc=l at vC hlen ⊢;cases e:nx y with
  | none =>
   rw[e]at vC;simp only[Option.elim]at vC;simp[vC]
  | some z =>
   rw[e]at vC;simp only[Option.elim]at vC;simp[vC,iI,bU,hlen,hnn z]
 have loop:∀(k:Nat) (pre:List α) (y:α) (a4:Option D),pre.length+k=most->P pre.length y ->
   ∃o a4',cO C B [some (.loc c),some (enc x),some (.int most),some (.loc st.length),a4] (st++[.lst ((pre++[y]).map enc)])=.ok o (st++[.lst ((pre++fc nx k y).map enc)])/\(o=.nx [some (.loc c),some (enc x),some (.int most),some (.loc st.length),a4']\/o=.rt (.loc st.length)):=by
  intro k
  induction k with
  | zero =>
   intro pre y a4 hk hy;refine⟨_,a4,?_,.inl rfl⟩;rw[Va,Ug,R.aG];have hl:¬ (((pre++[y]).map enc).length:Int)<=(most:Int):=by simp;omega
   rw[decide_eq_false hl]
   rfl
  | succ k ih =>
   intro pre y a4 hk hy;have hl:(((pre++[y]).map enc).length:Int)<=(most:Int):=by simp;omega
   rw[Va,Ug,R.aG,decide_eq_true hl,if_pos rfl,hBv pre y a4 hy (by omega)];rw[fc];cases e:nx y with
   | none=>exact⟨_,none,rfl,.inr rfl⟩
   | some z =>
    obtain⟨o,a4',h1,h2⟩:=ih (pre++[y]) z (some (enc z)) (by simp;omega) (by rw[gC];exact hPs pre.length y z (by omega) hy e);refine⟨o,a4',?_,h2⟩;dsimp only;rw[R.aG];dsimp only;rw[h1];simp
 obtain⟨o,a4',h1,h2⟩:=loop most [] x none (by simp) hP0;rw[nF,nF]at h1;have h1:cO C B [some (.loc c),some (enc x),some (.int most),some (.loc st.length),none] (st++[.lst [enc x]])=.ok o (st++[.lst ((fc nx most x).map enc)]):=h1;have hun:aJ st.length (.lst ((fc nx most x).map enc)):=(JH _ _).mpr λd hd=>by
  obtain⟨y,_,rfl⟩:=gb.mp hd;exact hu y _
 generalize (fc nx most x).map enc=l at h1 hun ⊢;rw[show startM 5 [D.loc c,enc x,.int most]=[some (.loc c),some (enc x),some (.int most),none,none] from rfl];rcases h2 with rfl | rfl
 ·simp[h1,Qp hun]
 ·simp[h1,Qp hun]
structure Tp where
 s:Int
 l:List Nat
 c:Nat
 r:List Nat
noncomputable def Tp.d (x:Tp):D:=.tup [.int x.s,.str x.l,.str [x.c],.str x.r]
noncomputable def Uh (q:dO)(x:Tp):Tp:=if q.m=108 then ⟨q.g,(J4 x.l).1,(J4 x.l).2,q.w::x.r⟩ else ⟨q.g,x.l++[q.w],(Oz x.r).1,(Oz x.r).2⟩
noncomputable def vR (rs:List dO)(x:Tp):Option Tp:=(pick rs x.s x.c).map λq=>Uh q x
theorem Ul (rs:List dO)(x:Tp):Np rs x.s x.l x.c x.r=(vR rs x).elim .non Tp.d:=by
 unfold Np vR;cases pick rs x.s x.c with
 | none=>rfl
 | some q =>
  simp only[nu,Option.elim,goD,Uh]
  split<;>rfl
noncomputable def Small (n:Nat)(x:Tp):Prop:=x.l.length<=1000+n/\x.r.length<=1000+n
theorem zod {rs:List dO}{n:Nat}{x y:Tp}(h:Small n x)(e:vR rs x=some y):Small (n+1) y:=by
 unfold vR at e;cases q:pick rs x.s x.c with
 | none=>rw[q]at e;cases e
 | some r =>
  rw[q]at e;simp only[nu,Option.some.injEq]at e;subst e;obtain⟨h1,h2⟩:=h;unfold Uh
  split
  ·refine⟨?_,by simp;omega⟩;show (J4 x.l).1.length<=_;unfold J4
   split
   ·simp
   ·simp;omega
  ·refine⟨by simp;omega,?_⟩;show (Oz x.r).2.length<=_;unfold Oz
   split
   ·simp
   ·rename_i t e;rw[e]at h2;simp at h2 ⊢;omega
theorem zl6 (rs:List dO)(n:Nat)(x:Tp)(most k0:Nat)(st:aq)(h:st[n]? = some (.lst (rs.map dO.d)))(hrs:rs.length<=5000)(hx:Small k0 x)(hk:k0<=10000)(hmo:most<=10000)(hn:dZ st)(ht:st[1]? = some (.tab "tape_run")) :
  Fb [.loc n,x.d,.int most] st=.ok (.loc st.length) (st++[.lst ((fc (vR rs) most x).map Tp.d)]):=by
 unfold Fb iU dF Xp;have e1:=Fw rs n st h hrs;have hs:=zhx Tp.d (vR rs) (λk y=>Small (k0+k) y) (.loc st.length) (st.length+1) most (st++[.dic (tab [] rs),.clo 0 (Eh 0) [.loc st.length]]) x hx (λk y z _ hy e=>zod hy e) (λ_ _=>rfl) (λy k=>by simp[Tp.d])
  (λk y l hk hy=>by
   have hm:=G4 rs st.length y.s y.l y.c y.r (dU (st++[.dic (tab [] rs),.clo 0 (Eh 0) [.loc st.length]]++[.lst l])) (Im (by simp) rfl) (by have:=hy.1;omega) (by have:=hy.2;omega);rw[Ul]at hm;show CW 2 e_0 [.loc st.length,y.d] _=_;unfold CW e_0;rw[if_pos (by rfl)];simp only[Tp.d]at hm ⊢;simp only[Ac,Ab,Rb,Ge,gB,nU,nY,mF,R.aG,gZ,hm,R.zZ]) (by simp) (by omega)
 have hu:∀k,aJ k (.lst ((fc (vR rs) most x).map Tp.d)):=λk=>(JH _ _).mpr λd hd=>by
  obtain⟨y,_,rfl⟩:=gb.mp hd;simp[Tp.d]
 generalize (fc (vR rs) most x).map Tp.d=l at hs hu ⊢;generalize tab [] rs=TB at e1 hs;have hc:=Gf (Λ:=Eh) (F:=XJ) (dd:=[]) (m:=zm 0 [3] 1 "tape_run" (uF (vr 1) (uF (vr 2) GX))) (env:=[some (.loc n),some x.d,some (.int most),some (.loc st.length)]) (st:=st++[.dic TB]) (st1:=st++[.dic TB]) (as:=[.l 0 [3],.v x.d,.v (.int most)])
  (ds:=[.loc (st.length+1),x.d,.int most]) (os:=[.clo 0 (Eh 0) [.loc st.length]]) (d:=.loc (st.length+1)) (st2:=st++[.dic TB,.lst l])
  (by unfold zm;rw[rO ht];dsimp only;rw[if_pos rfl];simp[uF,GX]) (by simp[hn]) (by simp[qu,zK]) (by
   rw[gZ,gO,nG,nF,hs];have:=WK (st:=st++[.dic TB]) (g:=[.clo 0 (Eh 0) [.loc st.length]]) (g':=[]) (o:=.lst l) (hu _);simpa using this) (by simp[hn])
 rw[show startM 4 [D.loc n,x.d,.int most]=[some (.loc n),some x.d,some (.int most),none] from rfl];rw[Rg,Rf,Ac,Ab,Rb];simp only[nY,R.aG,Ge,gZ,e1,R.zZ,List.set_cons_succ,List.set_cons_zero];rw[Rh,hc];have:=WK (st:=st) (g:=[.dic TB]) (g':=[]) (o:=.lst l) (hu _);simpa using this
end Law
set_option maxHeartbeats 0
namespace Law
open L2 M
noncomputable abbrev fQ (s:Int)(l:List Nat)(c:Nat)(r:List Nat):D:=.tup [.int s,.str l,.str [c],.str r]
noncomputable def Tg (s:Int)(row:List Nat)(k:Nat):D:=match row with
 | []=>fQ s (List.replicate k 95) 95 []
 | c::t=>fQ s (List.replicate k 95) c (t++(if 0<k then [95] else []))
theorem Ia (s:Int)(row:List Nat)(k:Nat)(st:aq)(hr:row.length<=1000)(hk:k<=1000):JQ [.tup [.int s,.str row],.int k] st=.ok (Tg s row k) st:=by
 unfold JQ iU dF Vg Tg;have j0:∀s1,bh (.tup [.int s,.str row]) (.int 0) s1=.ok (.int s) s1:=λs1=>qW s1 0 _ _ rfl;have j1:∀s1,bh (.tup [.int s,.str row]) (.int 1) s1=.ok (.str row) s1:=λs1=>qW s1 1 _ _ rfl;have mk:∀s1,lK (.str [95]) (.int k) s1=.ok (.str (List.replicate k 95)) s1:=λs1=>zlc 95 k s1 (by omega);rw[show startM 4 [D.tup [.int s,.str row],.int k]=[some (.tup [.int s,.str row]),some (.int k),none,none] from rfl];cases row with
 | nil=>simp[j0,j1,mk,fQ,vP]
 | cons c t =>
  have hx:=λs1=>HD c t s1 (by omega);have hs:=λs1=>wH (c::t) s1 (by omega);simp only[List.tail_cons,g8]at hs hr;by_cases h0:0<k
  ·have ad:∀s1,bj (.str t) (.str [95]) s1=.ok (.str (t++[95])) s1:=λs1=>xZ s1 _ _ (by simp;omega);simp[j0,j1,mk,h0,hx,hs,ad,fQ,vP]
  ·have ad:∀s1,bj (.str t) (.str []) s1=.ok (.str t) s1:=λs1=>by rw[xZ s1 _ _ (by simp;omega),gZ]
   simp[j0,j1,mk,h0,hx,hs,ad,fQ,vP]
noncomputable def zU (top s:Int)(c:Nat)(r:List Nat):D:=if top<s\/95∈cF 95 (c::r) then .non else .tup [.int s,.str (cF 95 (c::r))]
theorem zT (top s:Int)(l:List Nat)(c:Nat)(r:List Nat)(st:aq)(hr:r.length<=100000):Ol [.int top,fQ s l c r] st=.ok (zU top s c r) st:=by
 unfold Ol iU dF Xn zU;have j0:∀s1,bh (fQ s l c r) (.int 0) s1=.ok (.int s) s1:=λs1=>qW s1 0 _ _ rfl;have j2:∀s1,bh (fQ s l c r) (.int 2) s1=.ok (.str [c]) s1:=λs1=>qW s1 2 _ _ rfl;have j3:∀s1,bh (fQ s l c r) (.int 3) s1=.ok (.str r) s1:=λs1=>qW s1 3 _ _ rfl;have ad:∀s1,bj (.str [c]) (.str r) s1=.ok (.str (c::r)) s1:=λs1=>xZ s1 _ _ (by simp;omega);have hl:=zl5 95 (c::r);rw[g8]at hl;have rs:∀s1,sW (.str (c::r)) [.str [95]] s1=.ok (.str (cF 95 (c::r))) s1:=λs1=>by
  unfold sW;dsimp only;rw[if_pos (by simp;omega)]
 generalize cF 95 (c::r)=T at *;have J9:∀s1,HW (.str [95]) (.str T) s1=.ok (.bl (decide (95∈T))) s1:=λs1=>by
  unfold HW;dsimp only;rw[if_pos (by omega)]
 rw[show startM 3 [D.int top,fQ s l c r]=[some (.int top),some (fQ s l c r),none] from rfl];generalize fQ s l c r=X at *;by_cases h1:top<s
 ·simp[j0,j2,j3,ad,iI,rs,h1,vP]
 ·by_cases h2:95∈T
  ·simp[j0,j2,j3,ad,iI,rs,h1,J9,h2,vP]
  ·simp[j0,j2,j3,ad,iI,rs,h1,J9,h2,vP]
theorem zkv {rs:List dO}:∀(n k:Nat) (x:Tp),Small k x->∀(i:Nat) (y:Tp),(fc (vR rs) n x)[i]? = some y->Small (k+i) y
 | 0,k,x,hx,i,y,h=>by
  cases i with
  | zero=>simp[fc]at h;subst h;exact hx
  | succ i=>simp[fc]at h
 | n+1,k,x,hx,i,y,h=>by
  rw[fc]at h
  split at h
  ·cases i with
   | zero=>simp at h;subst h;exact hx
   | succ i=>simp at h
  ·rename_i z e;cases i with
   | zero=>simp at h;subst h;exact hx
   | succ i =>
    have:=zkv n (k+1) z (zod hx e) i y (by simpa using h);rw[show k+(i+1)=k+1+i by omega];exact this
end Law
set_option maxHeartbeats 0
namespace Law
open L2 M TK TS
theorem zok (ns:List Int)(n:Nat)(more row:List Nat)(st:aq)(h:az st n=some (ns.map D.int))(hm:0<more.length)(J7:more.length<=1000)(hr:row.length<=1000) :
  ∃t:List Nat,t.length=row.length/\(∀x∈t,x∈row\/x∈more)/\ze7 [.loc n,.str more,.str row] st=.ok (.str t) st:=by
 have c7:=zN ns n 7 st h (by omega);rw[show ((7:Nat):Int)=7 from rfl]at c7;generalize bx ns 7=e at c7;have f5:∀s,bI (.int e) (.int 5) s=.ok (.int (e / 5)) s:=λs=>wF s _ _ (by omega);generalize e / 5=c at f5;have m3:∀s,bD (.int c) (.int 3) s=.ok (.int (c % 3)) s:=λs=>sO s _ _ (by omega);have f3:∀s,bI (.int c) (.int 3) s=.ok (.int (c / 3)) s:=λs=>wF s _ _ (by omega);have lr:∀s,bY [.str row] s=.ok (.int row.length) s:=λs=>N8 row s (by omega);unfold ze7 iU dF Xi;rw[show startM 5 [D.loc n,.str more,.str row]=[some (.loc n),some (.str more),some (.str row),none,none] from rfl];have gg:∀t,gc st (.ok (.str t) st)=.ok (.str t) st:=λt=>by simpa using Qo (st:=st) (g:=[]) (d:=.str t) (by simp)
 by_cases c1:c % 3=1
 ·by_cases c2:row.length<2
  ·refine⟨row,rfl,λx hx=>.inl hx,?_⟩;have c2':(row.length:Int)<2:=by omega
   generalize (row.length:Int)=rl at *;have:=gg row;simp[c7,f5,m3,lr,c1,c2',this]
  ·have c2':¬ (row.length:Int)<2:=by omega
   obtain⟨j,hj⟩:=kh (show 0<=c / 3 % ((row.length:Int) - 1) from nZ _ (by omega));have hjl:j<row.length - 1:=by have:=n_ (c / 3) (show (0:Int)<(row.length:Int) - 1 by omega);omega
   have mj:∀s,bD (.int (c / 3)) (.int ((row.length:Int) - 1)) s=.ok (.int j) s:=λs=>by rw[sO s _ _ (by omega),hj]
   have a1:(1:Int)+(j:Int)=((j+1:Nat):Int):=by omega
   have a2:((j+1:Nat):Int)+1=((j+2:Nat):Int):=by omega
   have s1:∀s,rP (.str row) none (some ((j+1:Nat):Int)) s=.ok (.str (row.take (j+1))) s:=λs=>by rw[xU _ _ _ _ (by omega),Law.Qq row (j+1) (by omega)]
   have s2:∀s,rP (.str row) (some ((j+2:Nat):Int)) none s=.ok (.str (row.drop (j+2))) s:=λs=>by rw[xU _ _ _ _ (by omega),U8 row (j+2) (by omega)]
   obtain⟨la,Ie⟩:∃la,more[more.length - 1]? = some la:=⟨_,gM (by omega)⟩;have ix:∀s,bh (.str more) (.int (-1)) s=.ok (.str [la]) s:=λs=>by
    refine Qu s more _ _ (by omega) ?_;unfold sy Ar;rw[if_neg (by omega),if_pos (by simp;omega)];have e:(-1+(more.length:Int)).toNat=more.length - 1:=by omega
    rw[e];simpa using Ie
   have n1:∀s,vg (.int 1) s=.ok (.int (-1)) s:=λ_=>rfl;have ad1:∀s,bj (.str (row.take (j+1))) (.str [la]) s=.ok (.str (row.take (j+1)++[la])) s:=λs=>xZ s _ _ (by simp;omega);have ad2:∀s,bj (.str (row.take (j+1)++[la])) (.str (row.drop (j+2))) s=.ok (.str (row.take (j+1)++[la]++row.drop (j+2))) s:=λs=>xZ s _ _ (by simp;omega);refine⟨row.take (j+1)++[la]++row.drop (j+2),by simp;omega,λx hx=>?_,?_⟩
   ·rcases gw.mp hx with hx | hx
    ·rcases gw.mp hx with hx | hx
     ·exact .inl (List.mem_of_mem_take hx)
     ·rw[gG.mp hx];exact .inr (gY Ie)
    ·exact .inl (List.mem_of_mem_drop hx)
   ·have:=gg (row.take (j+1)++[la]++row.drop (j+2));generalize row.take (j+1)++[la]++row.drop (j+2)=W3 at *;generalize row.take (j+1)++[la]=W2 at *;generalize row.take (j+1)=W1 at *;generalize row.drop (j+2)=W4 at *;generalize ((j+1:Nat):Int)=J1 at *;generalize ((j+2:Nat):Int)=J2 at *;generalize (j:Int)=J0 at *;generalize (row.length:Int)=rl at *;simp[c7,f5,m3,f3,lr,c1,c2',mj,a1,a2,s1,s2,ix,n1,ad1,ad2,this]
 ·refine⟨row,rfl,λx hx=>.inl hx,?_⟩;have:=gg row;simp[c7,f5,m3,c1,this]
theorem le_last:∀{ss:List Nat},ss.Pairwise (· < ·)->∀{x:Nat},ss[ss.length - 1]? = some x->∀y∈ss,y<=x:=by
 intro ss h x hx y hy;obtain⟨i,hi⟩:=qb hy;have TX:=(gj.mp hi).1;by_cases e:i=ss.length - 1
 ·rw[e,hx]at hi;exact mX (Option.some.inj hi).symm
 ·obtain⟨h1,e1⟩:=gj.mp hi;obtain⟨h2,e2⟩:=gj.mp hx;have:=(qe.mp h) i (ss.length - 1) h1 h2 (by omega);rw[e1,e2]at this;exact mH this
theorem zm6 {st st':aq}{ds:List D}(h:¬ under st.length (.tup ds)):gc st (.ok (.tup ds) st')=.ok (.tup ds) st':=by
 unfold gc;dsimp only;rw[if_neg λz=>h z.2]
structure Gy (RL:List Rl)(signs:List Nat)(top:Nat):Prop where
 len:RL.length<=20
 at_:∀r∈RL,r.s<=top/\r.x∈signs/\(∀c∈r.w,c∈signs)/\r.w.length<=8/\r.g<=top
 un:RL.Pairwise λa b=>¬ (a.s=b.s/\a.x=b.x)
theorem Gy.one {RL:List Rl}{signs:List Nat}{top:Nat}(G:Gy RL signs top):∀r∈RL,∀r'∈RL,r.s=r'.s->r.x=r'.x->r.w=r'.w/\r.g=r'.g:=by
 intro r hr r' hr' e1 e2;obtain⟨i,hi,rfl⟩:=pL hr;obtain⟨j,hj,rfl⟩:=pL hr';rcases Nat.lt_trichotomy i j with h | h | h
 ·exact absurd ⟨e1,e2⟩ ((qe.mp G.un) i j hi hj h)
 ·subst h;exact⟨rfl,rfl⟩
 ·exact absurd ⟨e1.symm,e2.symm⟩ ((qe.mp G.un) j i hj hi h)
structure Cs (RL:List Rl)(more:List Nat)(top s:Nat)(row:List Nat):Prop where
 g:Gy RL more top
 nd:more.Nodup
 abc:∀x∈more,x∈cC
 len:more.length<=26
 hs:s<=top
 zA:∀x∈row,x∈more
 rl:row.length<=90
theorem ziw (ns:List Int)(st:aq)(h0:st[0]? = some (.frz (ns.map D.int))):∃(RL:List Rl) (more:List Nat) (top s:Nat) (row:List Nat) (O1 O3:MO),Cs RL more top s row/\(∀n,aJ n O1)/\(∀n,aJ n O3)/\(∃ds,O1=.lst ds)/\(∃ds,O3=.lst ds) /\
  Vi [.loc 0] st=.ok (.tup [.loc (st.length+1),.int top,.str more,.tup [.int s,.str row]]) (st++[O1,.lst (RL.map aB),O3]):=by
 have it:∀g,az (st++g) 0=some (ns.map D.int):=λg=>by unfold az;rw[rO h0]
 have it0:az st 0=some (ns.map D.int):=by simpa using it []
 obtain⟨signs,s1,s2,s3,s4,fA⟩:=zma ns 0 st it0;obtain⟨ss,t1,t2,t3,t4,fS⟩:=BL ns 0 st it0;have U1:∀n,aJ n (.lst (ss.map λs=>D.int (s:Nat))):=λn=>by
  show bu _ _;rw[JH];intro d hd;obtain⟨c,_,rfl⟩:=gb.mp hd;simp
 generalize Wh:MO.lst (ss.map λs=>D.int (s:Nat))=O1 at fS U1;have hsn:ss.Nodup:=t3.imp λh=>gJ h;obtain⟨RL,H,fR⟩:=zmu ns 0 st.length ss signs (st++[O1]) (it _) (by rw[<-Wh];simp) t1 t2 s1 s2 hsn s3;obtain⟨la,Ie⟩:∃la,ss[ss.length - 1]? = some la:=⟨_,gM (by omega)⟩;have ixl:bh (.loc st.length) (.int (-1)) (st++[O1,.lst (RL.map aB)])=.ok (.int la) (st++[O1,.lst (RL.map aB)]):=by
  refine xR _ st.length _ (ss.map λs=>D.int (s:Nat)) _ (by rw[<-Wh];simp[az]) ?_;unfold sy Ar;rw[if_neg (by omega),if_pos (by simp;omega)];have e:(-1+(((ss.map λs=>D.int (s:Nat)).length:Nat):Int)).toNat=ss.length - 1:=by rw[gf];omega
  rw[e];simp only[mR];rw[gF,Ie];rfl
 have c5:=zN ns 0 5 (st++[O1,.lst (RL.map aB)]) (it _) (by omega);rw[show ((5:Nat):Int)=5 from rfl]at c5;generalize Wg:MO.lst [.int 0,.int (bx ns 5 / 3 % 31),.int 1]=O3;have U3:∀n,aJ n O3:=λn=>by
  rw[<-Wg];show bu _ _;simp
 have c5':=zN ns 0 5 (st++[O1,.lst (RL.map aB),O3]) (it _) (by omega);rw[show ((5:Nat):Int)=5 from rfl]at c5';obtain⟨top,d5,hd5,hd6,aca⟩:∃(top:Nat) (d:Int),bh (.loc (st.length+2)) (.int (bx ns 5 % 3)) (st++[O1,.lst (RL.map aB),O3])=.ok (.int d) (st++[O1,.lst (RL.map aB),O3])/\(la:Int)+d=(top:Nat)/\la<=top:=by
  have i3:az (st++[O1,.lst (RL.map aB),O3]) (st.length+2)=some [.int 0,.int (bx ns 5 / 3 % 31),.int 1]:=by rw[<-Wg];simp[az]
  rcases (show bx ns 5 % 3=0\/bx ns 5 % 3=1\/bx ns 5 % 3=2 by omega) with e | e | e
  ·exact⟨la,0,by rw[e];exact xR _ _ _ _ _ i3 rfl,by omega,by omega⟩
  ·obtain⟨j,hj⟩:=kh (show 0<=bx ns 5 / 3 % 31 by omega);exact⟨la+j,bx ns 5 / 3 % 31,by rw[e];exact xR _ _ _ _ _ i3 rfl,by omega,by omega⟩
  ·exact⟨la+1,1,by rw[e];exact xR _ _ _ _ _ i3 rfl,by omega,by omega⟩
 have m53:∀s,bD (.int (bx ns 5)) (.int 3) s=.ok (.int (bx ns 5 % 3)) s:=λs=>sO s _ _ (by omega);have f53:∀s,bI (.int (bx ns 5)) (.int 3) s=.ok (.int (bx ns 5 / 3)) s:=λs=>wF s _ _ (by omega);have m31:∀s,bD (.int (bx ns 5 / 3)) (.int 31) s=.ok (.int (bx ns 5 / 3 % 31)) s:=λs=>sO s _ _ (by omega);generalize hx5:bx ns 5 / 3 % 31=x5 at *;generalize bx ns 5 / 3=y5 at *;generalize bx ns 5 % 3=z5 at *;generalize bx ns 5=e5 at *;have Di:∀s∈ss,s<=top:=λs hs=>gU (le_last t3 Ie s hs) aca;obtain⟨more,w1,w2,w3,w4,fW⟩:=Fe ns 0 signs (st++[O1,.lst (RL.map aB),O3]) (λg=>by rw[gO];exact it _) s2 s3 s4;have aaT:0<more.length:=by
  obtain⟨c,hc⟩:∃c,c∈signs:=⟨signs[0],m6 _⟩;exact qd (w4 c hc)
 have c2:=zN ns 0 2 (st++[O1,.lst (RL.map aB),O3]) (it _) (by omega);rw[show ((2:Nat):Int)=2 from rfl]at c2;generalize bx ns 2=e2 at c2;have c4:=zN ns 0 4 (st++[O1,.lst (RL.map aB),O3]) (it _) (by omega);rw[show ((4:Nat):Int)=4 from rfl]at c4;generalize bx ns 4=e4 at c4;have f7:∀s,bI (.int e2) (.int 7) s=.ok (.int (e2 / 7)) s:=λs=>wF s _ _ (by omega);obtain⟨m7,hm7⟩:=kh (show 0<=e2 % 7 by omega);have mm7:∀s,bD (.int e2) (.int 7) s=.ok (.int m7) s:=λs=>by rw[sO s _ _ (by omega),hm7]
 obtain⟨lG,r1,r2,fT⟩:=zV (e2 / 7) m7 signs (st++[O1,.lst (RL.map aB),O3]) s1 (by omega) (by omega);obtain⟨row,q1,q2,fG⟩:=zok ns 0 more lG (st++[O1,.lst (RL.map aB),O3]) (it _) aaT (by omega) (by omega);have o4:row.length<=90:=by omega
 have zA:∀x∈row,x∈more:=λx hx=>by
  rcases q2 x hx with hx | hx
  ·exact w4 x (r2 x hx)
  ·exact hx
 have im:az (st++[O1,.lst (RL.map aB),O3]) st.length=some (ss.map λs=>D.int (s:Nat)):=by rw[<-Wh];simp[az]
 obtain⟨j4,hj,j1,j2⟩:=W0 (ss.map λs=>D.int (s:Nat)) e4 (by simpa using t1);rw[gf]at j1 j2 hj;have ixs:bh (.loc st.length) (.int (e4 % (ss.length:Int))) (st++[O1,.lst (RL.map aB),O3])=.ok (.int (ss[j4]:Nat)) (st++[O1,.lst (RL.map aB),O3]):=by
  refine xR _ _ _ _ _ im ?_;rw[j2,List.getElem_map]
 have lss:bY [.loc st.length] (st++[O1,.lst (RL.map aB),O3])=.ok (.int ss.length) (st++[O1,.lst (RL.map aB),O3]):=by have:=N5 im;rwa[gf]at this
 have m4:∀s,bD (.int e4) (.int ss.length) s=.ok (.int (e4 % (ss.length:Int))) s:=λs=>sO s _ _ (by omega);have Pj:ss[j4]∈ss:=m6 _;generalize ss[j4]=s0 at *;have acb:RL.length<=20:=gU H.len (pA s2 t2);refine⟨RL,more,top,s0,row,O1,O3,⟨⟨acb,λr hr=>?_,H.un⟩,w2,w3,by omega,Di s0 Pj,zA,o4⟩,U1,U3,⟨_,Wh.symm⟩,⟨_,Wg.symm⟩,?_⟩
 ·obtain⟨k,_,h1,h2,h3,h4,h5⟩:=H.at_ r hr;exact⟨Di _ (gY h1),w4 _ (gY h2),λc hc=>w4 c (h3 c hc),h4,Di _ h5⟩
 have fR:Xj [.loc 0,.str signs,.loc st.length,.int 8] (st++[O1])=R.ok (D.loc (st.length+1)) (st++[O1,.lst (RL.map aB)]):=by
  rw[fR];simp
 have a5:∀s,bj (.int la) (.int d5) s=.ok (.int top) s:=λs=>by rw[Cj,hd6]
 have n1:∀s,vg (.int 1) s=.ok (.int (-1)) s:=λ_=>rfl;have Py:=zm6 (st:=st) (st':=st++[O1,.lst (RL.map aB),O3]) (ds:=[.loc (st.length+1),.int top,.str more,.tup [.int s0,.str row]]) (by simp);unfold Vi iU dF XD;rw[show startM 8 [D.loc 0]=[some (.loc 0),none,none,none,none,none,none,none] from rfl];generalize Ue:dJ (aj (ct (.int 0)) _)=E3;have e3:E3 [some (.loc 0),some (.str signs),some (.loc st.length),some (.loc (st.length+1)),none,none,none,none] (st++[O1,.lst (RL.map aB)])=.ok (.loc (st.length+2)) (st++[O1,.lst (RL.map aB),O3]):=by
  rw[<-Ue,<-Wg];simp[c5,f53,m31]
 clear Ue;generalize st++[O1,.lst (RL.map aB),O3]=Z4 at *;generalize st++[O1,.lst (RL.map aB)]=Z3 at *;generalize st++[O1]=Z2 at *;generalize (top:Int)=ac6 at *;generalize (la:Int)=laI at *;generalize (m7:Int)=m7I at *;generalize (ss.length:Int)=SL at *;generalize e4 % SL=q6 at *;generalize e2 / 7=q7 at *;generalize (s0:Int)=S0 at *;simp[fA,fS,fR,n1,ixl,e3,c5',m53,hd5,a5,c2,fW,f7,mm7,fT,fG,c4,lss,m4,ixs,Py]
end Law
set_option maxHeartbeats 0
namespace Law
open L2 M TK TS
theorem Qw (k:Nat)(c:Int):aJ k (.lst [.int c]):=by
 show bu _ _;simp
theorem Ff {st:aq}{n:Nat}{c:Int}(h:M.wf st):M.wf (st.set n (.lst [.int c])):=by
 intro o ho;rw[pF];exact Kf h (Qw _ _) o ho
theorem Jd (n:Nat)(c:Int)(m:Nat)(st:aq)(lM:M.wf st)(hn:st[n]? = some (.lst [.int c]))(hm:0<m)(J7:m<=100000) :
  wX [.loc n,.int m] st=.ok (.int (c % (m:Nat))) (st.set n (.lst [.int (c / (m:Nat))])):=by
 have i0:bh (.loc n) (.int 0) st=.ok (.int c) st:=xR st n 0 [.int c] _ (by unfold az;rw[hn]) rfl;have m1:bD (.int c) (.int m) st=.ok (.int (c % (m:Nat))) st:=sO st _ _ (by omega);have f1:bI (.int c) (.int m) st=.ok (.int (c / (m:Nat))) st:=wF st _ _ (by omega);have s1:FP (.loc n) (.int 0) (.int (c / (m:Nat))) st=.ok () (st.set n (.lst [.int (c / (m:Nat))])):=by
  unfold FP;simp only[hn]
  rfl
 have g:=U6 (st:=st) (st':=st.set n (.lst [.int (c / (m:Nat))])) (g:=[]) (d:=.int (c % (m:Nat))) (by simp) (Kf lM (Qw _ _)) (by simp);rw[gZ]at g;unfold wX qH dF zQ;rw[show startM 3 [D.loc n,.int m]=[some (.loc n),some (.int m),none] from rfl];generalize st.set n (.lst [.int (c / (m:Nat))])=Z1 at *;generalize c / (m:Int)=q at *;generalize c % (m:Int)=r at *;generalize (m:Int)=MM at *;simp[i0,m1,f1,s1,g]
theorem ziq (n:Nat)(c:Int)(m:Nat)(st:aq)(lM:M.wf st)(hn:st[n]? = some (.lst [.int c]))(hm:0<m)(J7:m<=100000) :
  ∃(j:Nat) (c':Int),j<m/\wX [.loc n,.int m] st=.ok (.int j) (st.set n (.lst [.int c'])):=by
 obtain⟨j,hj⟩:=kh (show 0<=c % (m:Int) from nZ _ (by omega));have hl:=n_ c (show (0:Int)<(m:Int) by omega);refine⟨j,c / (m:Nat),by omega,?_⟩;rw[Jd n c m st lM hn hm J7,hj]
theorem zox {st:aq}{n:Nat}{a b:MO}:(st.set n a).set n b=st.set n b:=List.set_set ..
theorem zie {st:aq}{n:Nat}{a o:MO}(h:st[n]? = some o):(st.set n a)[n]? = some a:=by
 have:=(gj.mp h).1;rw[mJ this]
theorem zg7 (n:Nat)(c:Int)(m:Nat)(st:aq)(lM:M.wf st)(hn:st[n]? = some (.lst [.int c]))(J7:m<=1000) :
  ∃(t:List Nat) (c':Int),t.length=m/\(∀x∈t,x∈cC)/\Oc [.loc n,.int m] st=.ok (.str t) (st.set n (.lst [.int c'])):=by
 unfold Oc qH dF QC;generalize hb:(aQ 2 (aL bj (vr 2) _):MS)=BI;obtain⟨di,st',h1,t,c',a3,h2,h3,rfl,rfl⟩:=yW (g:=aP 3) (b:=BI) (gs:=[]) (items:=je 0 m)
  (λi env s=>∃(t:List Nat) (c':Int) (a3:Option D),t.length=i/\(∀x∈t,x∈cC)/\env=[some (.loc n),some (.int m),some (.str t),a3]/\s=st.set n (.lst [.int c']))
  (env:=[some (.loc n),some (.int m),some (.str []),none]) (st:=st) ⟨[],c,none,rfl,by simp,rfl,by
   refine (ph λk=>?_);by_cases e:n=k
   ·subst e;rw[zie hn,hn]
   ·rw[kY e]⟩ (by
   rintro i d env s hi ⟨t,c',a3,h2,h3,rfl,rfl⟩;obtain⟨hp,rfl⟩:=N7 hi;obtain⟨j,c2,hj,dg⟩:=ziq n c' 26 (st.set n (.lst [.int c'])) (Ff lM) (zie hn) (by omega) (by omega);rw[zox]at dg;rw[show ((26:Nat):Int)=26 from rfl]at dg;have hj2:j<cC.length:=hj;have ix:∀s,bh (.str cC) (.int j) s=.ok (.str [cC[j]]) s:=λs=>Qu s cC _ _ (by decide) (by rw[Ey];exact gM hj2);have ad:∀s,bj (.str t) (.str [cC[j]]) s=.ok (.str (t++[cC[j]])) s:=λs=>xZ s _ _ (by simp;omega);refine⟨by simp,[some (.loc n),some (.int m),some (.str t),some (.int (0+(i:Nat)))],st.set n (.lst [.int c']),by simp,[some (.loc n),some (.int m),some (.str (t++[cC[j]])),some (.int (0+(i:Nat)))],st.set n (.lst [.int c2]),.inl ?_,t++[cC[j]],c2,_,by simp[h2],?_,rfl,rfl⟩
   ·rw[<-hb];have Ub:([97,98,99,100,101,102,103,104,105,106,107,108,109,110,111,112,113,114,115,116,117,118,119,120,121,122]:List Nat)=cC:=rfl;rw[Ub];generalize cC[j]=cc at *;generalize cC=AB at *;generalize st.set n (.lst [.int c2])=Z2 at *;generalize st.set n (.lst [.int c'])=Z1 at *;generalize (j:Int)=JJ at *;generalize t++[cc]=t2 at *;simp[dg,ix,ad]
   ·intro x hx;rcases gw.mp hx with hx | hx
    ·exact h3 x hx
    ·rw[gG.mp hx];exact m6 _) (λ_ _ _=>by simp)
 rw[N6]at h2;refine⟨t,c',h2,h3,?_⟩;have g:=U6 (st:=st) (st':=st.set n (.lst [.int c'])) (g:=[]) (d:=.str t) (by simp) (Kf lM (Qw _ _)) (by simp);rw[gZ]at g;rw[show startM 4 [D.loc n,.int m]=[some (.loc n),some (.int m),none,none] from rfl];have up:cM (aj (vr 1) au) [some (.loc n),some (.int m),some (.str []),none] st=.ok (je 0 m,[]) st:=by simp;omega
 generalize cM (aj (vr 1) au)=R1 at *;generalize je 0 m=UP at *;generalize st.set n (.lst [.int c'])=Z at *;simp[up,h1,g]
end Law
set_option maxHeartbeats 0
namespace Law
open L2 M TK TS
noncomputable def sS (r:Rl):D:=.tup [.int r.s,.str [r.x]]
theorem HS (RL:List Rl)(p s x:Nat)(st:aq)(h:az st p=some (RL.map sS)):zx 200 true (.tup [.int s,.str [x]]) (.loc p) st=.ok (.bl (!decide (∃r∈RL,r.s=s/\r.x=x))) st:=by
 have fl:d_ (RL.map sS)=true:=by
  clear h
  induction RL with
  | nil=>rfl
  | cons r l ih=>rw[gB,Vc,ih];simp[sS]
 have e:zx 200 true (.tup [.int s,.str [x]]) (.loc p) st=.ok (.bl (!(RL.map sS).any λe=>qm e (.tup [.int s,.str [x]]))) st:=by
  unfold zx;simp only[h];rw[if_pos ⟨by simp,fl,by simp[List.all_eq_true,sS]⟩];simp
 rw[e];congr 2;rw[Bool.not_inj_iff];rw[mV,p7,decide_eq_true_eq];constructor
 ·rintro ⟨d,hd,h⟩;obtain⟨r,hr,rfl⟩:=gb.mp hd;simp[sS,qm,o5]at h;exact⟨r,hr,by omega,h.2⟩
 ·rintro ⟨r,hr,e1,e2⟩;refine⟨sS r,gb.mpr ⟨r,hr,rfl⟩,?_⟩;simp[sS,qm,o5,e1,e2]
noncomputable def SP (st:aq)(n:Nat)(c:Int)(RL:List Rl)(g:aq):aq:=st.set n (.lst [.int c])++(.lst (RL.map aB)::g)
theorem ze6 (RL:List Rl)(n:Nat):aJ n (.lst (RL.map aB)):=by
 show bu _ _;rw[JH];intro d hd;obtain⟨c,_,rfl⟩:=gb.mp hd;simp[aB]
theorem SP.wf {st:aq}{n:Nat}{c:Int}{RL:List Rl}{g:aq}(h:M.wf st)(hg:∀o∈g,∀n,aJ n o):M.wf (SP st n c RL g):=by
 unfold SP;refine WQ (Ff h) λo ho=>?_;rcases gk.mp ho with rfl | ho
 ·exact ze6 _ _
 ·exact hg o ho _
theorem SP.get {st:aq}{n:Nat}{c c0:Int}{RL:List Rl}{g:aq}(h:st[n]? = some (.lst [.int c0])):(SP st n c RL g)[n]? = some (.lst [.int c]):=rO (zie h)
theorem SP.set {st:aq}{n:Nat}{c c0 c':Int}{RL:List Rl}{g:aq}(h:st[n]? = some (.lst [.int c0])):(SP st n c RL g).set n (.lst [.int c'])=SP st n c' RL g:=by
 unfold SP;have:=(gj.mp h).1;rw[List.set_append_left _ _ (by rw[pF];exact this),zox]
theorem SP.rules {st:aq}{n:Nat}{c:Int}{RL:List Rl}{g:aq}:(SP st n c RL g)[st.length]? = some (.lst (RL.map aB)):=by
 unfold SP;rw[gR (by simp)];simp
theorem SP.len {st:aq}{n:Nat}{c:Int}{RL:List Rl}{g:aq}:(SP st n c RL g).length=st.length+1+g.length:=by unfold SP;simp;omega
theorem SP.app {st:aq}{n:Nat}{c:Int}{RL:List Rl}{g:aq}{o:MO}:SP st n c RL g++[o]=SP st n c RL (g++[o]):=by unfold SP;simp
theorem SP.put {st:aq}{n:Nat}{c:Int}{RL Kd:List Rl}{g:aq}:(SP st n c RL g).set st.length (.lst (Kd.map aB))=SP st n c Kd g:=by
 unfold SP;rw[mL _ _ (by simp)];simp
structure Fr (RL:List Rl):Prop where
 at_:∀r∈RL,r.s<=5000/\r.x∈cC/\(∀c∈r.w,c∈cC)/\r.w.length<=8/\r.g<=5000
 un:RL.Pairwise λa b=>¬ (a.s=b.s/\a.x=b.x)
theorem zh0 (n:Nat)(c:Int)(st:aq)(lM:M.wf st)(hn:st[n]? = some (.lst [.int c])) :
  ∃(RL:List Rl) (c':Int),RL.length<=20/\Fr RL/\X7 [.loc n] st=.ok (.loc st.length) (st.set n (.lst [.int c'])++[.lst (RL.map aB)]):=by
 have dg:∀(m:Nat) (c:Int) (RL:List Rl) (g:aq),(∀o∈g,∀n,aJ n o)->0<m->m<=100000->∃(j:Nat) (c':Int),j<m/\wX [.loc n,.int m] (SP st n c RL g)=.ok (.int j) (SP st n c' RL g):=by
  intro m c RL g hg h1 h2;obtain⟨j,c',hj,h⟩:=ziq n c m (SP st n c RL g) (SP.wf lM hg) (SP.get hn) h1 h2;rw[SP.set hn]at h;exact⟨j,c',hj,h⟩
 have ft:∀(m:Nat) (c:Int) (RL:List Rl) (g:aq),(∀o∈g,∀n,aJ n o)->m<=1000->∃(t:List Nat) (c':Int),t.length=m/\(∀x∈t,x∈cC)/\Oc [.loc n,.int m] (SP st n c RL g)=.ok (.str t) (SP st n c' RL g):=by
  intro m c RL g hg h1;obtain⟨t,c',h2,h3,h⟩:=zg7 n c m (SP st n c RL g) (SP.wf lM hg) (SP.get hn) h1;rw[SP.set hn]at h;exact⟨t,c',h2,h3,h⟩
 have start:st++[MO.lst []]=SP st n c [] []:=by
  unfold SP;congr 1;refine ph λk=>?_;by_cases e:n=k
  ·subst e;rw[zie hn,hn]
  ·rw[kY e]
 obtain⟨many,c0,acZ,d0⟩:=dg 21 c [] [] (by simp) (by omega) (by omega);rw[show ((21:Nat):Int)=21 from rfl]at d0;unfold X7 qH dF X6;generalize hb:(aK (aQ 3 (dh _)) _:MS)=BI;obtain⟨di,st',h1,RL,c1,g,a2,a3,a4,a5,hR1,P_,hg,rfl,rfl⟩:=yW (g:=aP 2) (b:=BI) (gs:=[]) (items:=je 0 many)
  (λi env s=>∃(RL:List Rl) (c:Int) (g:aq) (a2 a3 a4 a5:Option D),RL.length<=i/\Fr RL/\(∀o∈g,∀n,aJ n o)/\env=[some (.loc n),some (.loc st.length),a2,a3,a4,a5]/\s=SP st n c RL g)
  (env:=[some (.loc n),some (.loc st.length),none,none,none,none]) (st:=SP st n c0 [] []) ⟨[],c0,[],none,none,none,none,by simp,⟨by simp,.nil⟩,by simp,rfl,rfl⟩ (by
   rintro i d env s hi ⟨RL,c,g,a2,a3,a4,a5,hR1,P_,hg,rfl,rfl⟩;obtain⟨hp,rfl⟩:=N7 hi;obtain⟨s0,c2,Pj,d1⟩:=dg 5001 c RL g hg (by omega) (by omega);obtain⟨x,c3,hx1,hx2,t1⟩:=ft 1 c2 RL g hg (by omega);obtain⟨wl,c4,Ph,d2⟩:=dg 9 c3 RL g hg (by omega) (by omega);obtain⟨wd,c5,hw1,hw2,t2⟩:=ft wl c4 RL g hg (by omega);obtain⟨gl,c6,hgl,d3⟩:=dg 5001 c5 RL g hg (by omega) (by omega);rw[show ((5001:Nat):Int)=5001 from rfl]at d1 d3;rw[show ((9:Nat):Int)=9 from rfl]at d2;rw[show ((1:Nat):Int)=1 from rfl]at t1;obtain⟨x0,rfl⟩:∃x0,x=[x0]:=by
    match x,hx1 with
    | [x0],_=>exact⟨x0,rfl⟩
   have o4:(SP st n c6 RL g)[st.length]? = some (.lst (RL.map aB)):=SP.rules;have cm:=zg0 (capt:=[none]) (mi:=oY (vr 1)) (g:=aP 0) (e:=uI (vr 0) uK (uQ (ct (.int 2)))) (env:=[some (.loc n),some (.loc st.length),some (.int (0+(i:Nat))),some (.tup [.int s0,.str [x0]]),some (.str wd),some (.int gl)]) (st:=SP st n c6 RL g) (st1:=SP st n c6 RL g) (items:=RL.map aB) (gs:=[(st.length,.lst (RL.map aB))]) (λd=>match d with | .tup [a,b,_,_]=>.tup [a,b] | _=>.non) (λe=>∃e0,e=[e0])
    (by simp[o4]) ⟨none,by simp[jY]⟩ (by rw[gf];omega) (λys=>by simp[rO o4]) (by
     rintro d hd di ys ⟨e0,rfl⟩;obtain⟨q,hq,rfl⟩:=gb.mp hd;have sl:∀Z,rP (aB q) none (some 2) Z=.ok (sS q) Z:=λZ=>rfl;have e2:(match aB q with | .tup [a,b,_,_]=>D.tup [a,b] | _=>.non)=sS q:=rfl;rw[e2];generalize aB q=E at *;generalize (SP st n c6 RL g++[MO.lst ys]:aq)=Z at *;exact⟨[some E],⟨_,rfl⟩,by simp,by simp[sl]⟩)
   rw[gW,show ((λd=>match d with | .tup [a,b,_,_]=>D.tup [a,b] | _=>.non)∘aB)=sS from rfl,SP.app]at cm;have Dk:∀o∈g++[MO.lst (RL.map sS)],∀n,aJ n o:=λo ho k=>by
    rcases gw.mp ho with ho | ho
    ·exact hg o ho k
    ·rw[gG.mp ho];show bu _ _;rw[JH];intro d hd;obtain⟨c,_,rfl⟩:=gb.mp hd;simp[sS]
   have jW:az (SP st n c6 RL (g++[MO.lst (RL.map sS)])) (SP st n c6 RL g).length=some (RL.map sS):=by
    unfold az;rw[<-SP.app];simp
   have inp:=HS RL _ s0 x0 _ jW;have tad:∀s,bj (.tup [.int s0,.str [x0]]) (.tup [.str wd,.int gl]) s=.ok (aB ⟨s0,x0,wd,gl⟩) s:=λs=>rfl;have app:bU (.loc st.length) [aB ⟨s0,x0,wd,gl⟩] (SP st n c6 RL (g++[MO.lst (RL.map sS)]))=.ok .non (SP st n c6 (RL++[(⟨s0,x0,wd,gl⟩:Rl)]) (g++[MO.lst (RL.map sS)])):=by
    have h1:(SP st n c6 RL (g++[MO.lst (RL.map sS)]))[st.length]? = some (.lst (RL.map aB)):=SP.rules;have h2:(SP st n c6 RL (g++[MO.lst (RL.map sS)])).set st.length (.lst ((RL++[(⟨s0,x0,wd,gl⟩:Rl)]).map aB))=_:=SP.put;rw[kE]at h2;rw[<-h2];generalize SP st n c6 RL (g++[MO.lst (RL.map sS)])=Z at *;have:RL.length<4000000000000000000:=by omega
    have abX:RL.length<1000000:=by omega
    simp[bU,h1,abX]
   have aty:iI "list" (.loc st.length) (SP st n c6 RL (g++[MO.lst (RL.map sS)]))=true:=by
    have h1:(SP st n c6 RL (g++[MO.lst (RL.map sS)]))[st.length]? = some (.lst (RL.map aB)):=SP.rules;generalize SP st n c6 RL (g++[MO.lst (RL.map sS)])=Z at *;simp[iI,h1]
   refine⟨by simp,[some (.loc n),some (.loc st.length),some (.int (0+(i:Nat))),a3,a4,a5],SP st n c RL g,by simp,?_⟩;by_cases hex:∃r∈RL,r.s=s0/\r.x=x0
   ·refine⟨[some (.loc n),some (.loc st.length),some (.int (0+(i:Nat))),some (.tup [.int s0,.str [x0]]),some (.str wd),some (.int gl)],SP st n c6 RL (g++[MO.lst (RL.map sS)]),.inl ?_,RL,c6,g++[MO.lst (RL.map sS)],_,_,_,_,by omega,P_,Dk,rfl,rfl⟩;rw[decide_eq_true hex]at inp;rw[<-hb];generalize hC:fO [none] (oY (vr 1)) (aP 0) tZ (uI (vr 0) uK (uQ (ct (.int 2))))=CM at *;generalize (SP st n c6 RL g).length=PL at *;generalize SP st n c6 RL (g++[MO.lst (RL.map sS)])=Z7 at *;generalize SP st n c6 RL g=Z6 at *;generalize SP st n c5 RL g=Z5 at *;generalize SP st n c4 RL g=Z4 at *;generalize SP st n c3 RL g=Z3 at *;generalize SP st n c2 RL g=Z2 at *;generalize SP st n c RL g=Z1 at *;generalize (s0:Int)=S0 at *;generalize (gl:Int)=GL at *;generalize (wl:Int)=WL at *;generalize (0+(i:Int))=II at *;simp[d1,t1,d2,t2,d3,cm,inp]
   ·refine⟨[some (.loc n),some (.loc st.length),some (.int (0+(i:Nat))),some (.tup [.int s0,.str [x0]]),some (.str wd),some (.int gl)],SP st n c6 (RL++[(⟨s0,x0,wd,gl⟩:Rl)]) (g++[MO.lst (RL.map sS)]),.inl ?_,RL++[(⟨s0,x0,wd,gl⟩:Rl)],c6,g++[MO.lst (RL.map sS)],_,_,_,_,by simp;omega,⟨?_,?_⟩,Dk,rfl,rfl⟩
    ·rw[decide_eq_false hex]at inp;rw[<-hb];generalize aB ⟨s0,x0,wd,gl⟩=ER at *;generalize SP st n c6 (RL++[(⟨s0,x0,wd,gl⟩:Rl)]) (g++[MO.lst (RL.map sS)])=Z8 at *;generalize hC:fO [none] (oY (vr 1)) (aP 0) tZ (uI (vr 0) uK (uQ (ct (.int 2))))=CM at *;generalize (SP st n c6 RL g).length=PL at *;generalize SP st n c6 RL (g++[MO.lst (RL.map sS)])=Z7 at *;generalize SP st n c6 RL g=Z6 at *;generalize SP st n c5 RL g=Z5 at *;generalize SP st n c4 RL g=Z4 at *;generalize SP st n c3 RL g=Z3 at *;generalize SP st n c2 RL g=Z2 at *;generalize SP st n c RL g=Z1 at *;generalize (s0:Int)=S0 at *;generalize (gl:Int)=GL at *;generalize (wl:Int)=WL at *;generalize (0+(i:Int))=II at *;simp[d1,t1,d2,t2,d3,cm,inp,tad,aty,app]
    ·intro r hr;rcases gw.mp hr with hr | hr
     ·exact P_.at_ r hr
     ·rw[gG.mp hr];exact⟨by show s0<=5000;omega,hx2 x0 (by simp),hw2,by show wd.length<=8;omega,by show gl<=5000;omega⟩
    ·refine pO.mpr ⟨P_.un,by simp,λa ha b xY e=>?_⟩;rw[gG.mp xY]at e;exact hex ⟨a,ha,e.1,e.2⟩) (λ_ _ _=>by simp)
 rw[N6]at hR1;refine⟨RL,c1,by omega,P_,?_⟩;have gn:=Nf (st:=st) (st':=st.set n (.lst [.int c1])) (g:=[]) (g':=g) (o:=.lst (RL.map aB)) (by simp) (Kf lM (Qw _ _)) (ze6 _ _);rw[gZ,n8,Nat.add_zero]at gn;change Dr st (.ok (.loc st.length) (SP st n c1 RL g))=_ at gn;rw[show startM 6 [D.loc n]=[some (.loc n),none,none,none,none,none] from rfl];have up:cM (aj (aF wX [] (aj (vr 0) (aj (ct (.int 21)) au))) au) [some (.loc n),some (.loc st.length),none,none,none,none] (SP st n c [] [])=.ok (je 0 many,[]) (SP st n c0 [] []):=by
  generalize SP st n c [] []=Z1 at *;generalize SP st n c0 [] []=Z2 at *;simp[d0];omega
 have st0:∀env:bA,dJ au env st=.ok (.loc st.length) (SP st n c [] []):=λenv=>by rw[<-start];rfl
 generalize cM (aj (aF wX [] _) au)=R1 at *;generalize (dJ au:ME)=E0 at *;generalize je 0 many=UP at *;generalize SP st n c [] []=Z1 at *;generalize SP st n c0 [] []=Z2 at *;generalize SP st n c1 RL g=Z3 at *;simp[st0,up,h1,gn]
end Law
set_option maxHeartbeats 0
namespace Law
open L2 M TK TS
theorem zje:∀ts:List (List Nat),rF [] ts=ts.flatten
 | []=>rfl
 | [t]=>by simp[rF]
 | t::u::r=>by
  have ih:=zje (u::r);rw[rF,ih];simp
noncomputable def SQ (st:aq)(c:Int)(RL:List Rl)(g:aq):aq:=st++(.lst [.int c]::.lst (RL.map aB)::g)
theorem SQ.wf {st:aq}{c:Int}{RL:List Rl}{g:aq}(h:M.wf st)(hg:∀o∈g,∀n,aJ n o):M.wf (SQ st c RL g):=by
 unfold SQ;refine WQ h λo ho=>?_;rcases gk.mp ho with rfl | ho
 ·exact Qw _ _
 ·rcases gk.mp ho with rfl | ho
  ·exact ze6 _ _
  ·exact hg o ho _
theorem SQ.get {st:aq}{c:Int}{RL:List Rl}{g:aq}:(SQ st c RL g)[st.length]? = some (.lst [.int c]):=by unfold SQ;simp
theorem SQ.set {st:aq}{c c':Int}{RL:List Rl}{g:aq}:(SQ st c RL g).set st.length (.lst [.int c'])=SQ st c' RL g:=by
 unfold SQ;rw[mL _ _ (by simp)];simp
theorem SQ.rules {st:aq}{c:Int}{RL:List Rl}{g:aq}:(SQ st c RL g)[st.length+1]? = some (.lst (RL.map aB)):=by
 unfold SQ;rw[gR (by simp)];simp
theorem SQ.app {st:aq}{c:Int}{RL:List Rl}{g:aq}{o:MO}:SQ st c RL g++[o]=SQ st c RL (g++[o]):=by unfold SQ;simp
theorem SQ.last {st:aq}{c:Int}{RL:List Rl}{g:aq}{o:MO}:(SQ st c RL (g++[o]))[(SQ st c RL g).length]? = some o:=by rw[<-SQ.app];simp
theorem SQ.Zx {st:aq}{c:Int}{RL:List Rl}{g:aq}{o o2:MO}:(SQ st c RL (g++[o]++[o2]))[(SQ st c RL g).length]? = some o:=by rw[<-SQ.app];exact rO SQ.last
theorem SQ.digit {st:aq}(lM:M.wf st)(m:Nat)(c:Int)(RL:List Rl)(g:aq)(hg:∀o∈g,∀n,aJ n o)(h1:0<m)(h2:m<=100000):∃(j:Nat) (c':Int),j<m/\wX [.loc st.length,.int m] (SQ st c RL g)=.ok (.int j) (SQ st c' RL g):=by
 obtain⟨j,c',hj,h⟩:=ziq st.length c m (SQ st c RL g) (SQ.wf lM hg) SQ.get h1 h2;rw[SQ.set]at h;exact⟨j,c',hj,h⟩
theorem SQ.text {st:aq}(lM:M.wf st)(m:Nat)(c:Int)(RL:List Rl)(g:aq)(hg:∀o∈g,∀n,aJ n o)(h1:m<=1000):∃(t:List Nat) (c':Int),t.length=m/\(∀x∈t,x∈cC)/\Oc [.loc st.length,.int m] (SQ st c RL g)=.ok (.str t) (SQ st c' RL g):=by
 obtain⟨t,c',h2,h3,h⟩:=zg7 st.length c m (SQ st c RL g) (SQ.wf lM hg) SQ.get h1;rw[SQ.set]at h;exact⟨t,c',h2,h3,h⟩
noncomputable def Aj (r:Rl):Int:=if (r.g:Int) > (r.s:Int) then (r.g:Int) else (r.s:Int)
theorem zlk:∀l:List Int,intsOf (l.map D.int)=some l
 | []=>rfl
 | i::l=>by rw[gB,intsOf,zlk l];rfl
theorem Xd {g:aq}{o:MO}(hg:∀o∈g,∀n,aJ n o)(ho:∀n,aJ n o):∀o'∈g++[o],∀n,aJ n o':=λo' h n=>by
 rcases gw.mp h with h | h
 ·exact hg o' h n
 ·rw[gG.mp h];exact ho n
theorem zf0 {α:Type}(f:α->D)(hf:∀a n,under n (f a))(l:List α)(n:Nat):aJ n (.lst (l.map f)):=by
 show bu _ _;rw[JH];intro d hd;obtain⟨c,_,rfl⟩:=gb.mp hd;exact hf c n
theorem Kw {cs:List Nat}(h:∀c∈cs,c∈cC):(SS.lY cs).length<=26/\(SS.lY cs).Nodup/\∀x,x∈SS.lY cs↔x∈cs:=by
 have Dn:∀c∈cs,c<128:=λc hc=>(by decide:∀c∈cC,c<128) c (h c hc);have hm:=SS.zkd Dn;have hn:(SS.lY cs).Nodup:=(SS.zou cs).imp λh=>gJ h;exact⟨GZ _ cC hn λx hx=>h x ((hm x).mp hx),hn,hm⟩
theorem KN (st:aq)(lM:M.wf st)(RL:List Rl)(hRl:RL.length<=20)(F:Fr RL)(c:Int)(g:aq)(hg:∀o∈g,∀n,aJ n o)(s:Nat)(row:List Nat)(hs:s<=5000)(o4:row.length<=90)(zA:∀x∈row,x∈cC)(c0:Int)(a5:Option D)(RS:MS)
  (hb:(aK (aQ 6 (bF uM (aj (aL bj (dJ (aj (aL bh (vr 4) (ct (.int 0))) au)) (fO [none] (oY (vr 3)) (aP 0) tZ (bF uM (aj (aL bh (vr 0) (ct (.int 0))) (aj (aL bh (vr 0) (ct (.int 3))) au))))) au)))
  (aK (aQ 7 (aL bj (aL bh (vr 4) (ct (.int 1))) (cV "str" tD (ct (.str [])) (aj (fO [none] (oY (vr 3)) (aP 0) tZ (aL bj (aL bh (vr 0) (ct (.int 1))) (aL bh (vr 0) (ct (.int 2))))) au))))
  (retS (dh (aj (vr 3) (aj (bF wK (aj (ct (.int 5000)) (aj (aL bj (vr 6) (aF wX [] (aj (vr 2) (aj (ct (.int 31)) au)))) au))) (aj (cV "str" tD (ct (.str [])) (aj (ye lF (vr 7)) au)) (aj (vr 4) au))))))):MS)=RS) :
  ∃(top:Nat) (more:List Nat) (c':Int) (g':aq),Cs RL more top s row/\(∀o∈g',∀n,aJ n o)/\((∀o∈g,∃ds,o=MO.lst ds)->∀o∈g',∃ds,o=MO.lst ds) /\
   RS [some (.int c0),some (.int 40),some (.loc st.length),some (.loc (st.length+1)),some (.tup [.int s,.str row]),a5,none,none] (SQ st c RL g)=.ok (.rt (.tup [.loc (st.length+1),.int top,.str more,.tup [.int s,.str row]])) (SQ st c' RL g'):=by
 have j0:∀s1,bh (.tup [.int s,.str row]) (.int 0) s1=.ok (.int s) s1:=λs1=>qW s1 0 _ _ rfl;have j1:∀s1,bh (.tup [.int s,.str row]) (.int 1) s1=.ok (.str row) s1:=λs1=>qW s1 1 _ _ rfl

 generalize PB:g++[MO.lst [.int s]]=g1;have ug1:∀o∈g1,∀n,aJ n o:=by rw[<-PB];exact Xd hg λn=>Qw n _
 have e1:dJ (aj (aL bh (vr 4) (ct (.int 0))) au) [some (.int c0),some (.int 40),some (.loc st.length),some (.loc (st.length+1)),some (.tup [.int s,.str row]),a5,none,none] (SQ st c RL g)=.ok (.loc (SQ st c RL g).length) (SQ st c RL g1):=by
  rw[<-PB,<-SQ.app];generalize D.tup [.int s,.str row]=TT at *;simp[j0]
 have r1:(SQ st c RL g1)[st.length+1]? = some (.lst (RL.map aB)):=SQ.rules;have cm1:=zg0 (capt:=[none]) (mi:=oY (vr 3)) (g:=aP 0) (e:=bF uM (aj (aL bh (vr 0) (ct (.int 0))) (aj (aL bh (vr 0) (ct (.int 3))) au))) (env:=[some (.int c0),some (.int 40),some (.loc st.length),some (.loc (st.length+1)),some (.tup [.int s,.str row]),a5,none,none]) (st:=SQ st c RL g1) (st1:=SQ st c RL g1) (items:=RL.map aB) (gs:=[(st.length+1,.lst (RL.map aB))]) (λd=>match d with | .tup [.int a,_,_,.int b]=>.int (if b > a then b else a) | _=>.non) (λe=>∃e0,e=[e0])
  (by simp[r1]) ⟨none,by simp[jY]⟩ (by rw[gf];omega) (λys=>by simp[rO r1]) (by
   rintro d hd di ys ⟨e0,rfl⟩;obtain⟨q,hq,rfl⟩:=gb.mp hd;have i0:∀Z,bh (aB q) (.int 0) Z=.ok (.int q.s) Z:=λZ=>rfl;have i3:∀Z,bh (aB q) (.int 3) Z=.ok (.int q.g) Z:=λZ=>rfl;have mx:∀Z,uM [.int q.s,.int q.g] Z=.ok (.int (Aj q)) Z:=λZ=>rfl;have e2:(match aB q with | .tup [.int a,_,_,.int b]=>D.int (if b > a then b else a) | _=>.non)=.int (Aj q):=rfl;rw[e2];generalize aB q=EE at *;generalize (SQ st c RL g1++[MO.lst ys]:aq)=Z at *;exact⟨[some EE],⟨_,rfl⟩,by simp,by simp[i0,i3,mx]⟩)
 rw[gW,show ((λd=>match d with | .tup [.int a,_,_,.int b]=>D.int (if b > a then b else a) | _=>.non)∘aB)=(λr=>D.int (Aj r)) from rfl,SQ.app]at cm1;generalize Dk:g1++[MO.lst (RL.map λr=>D.int (Aj r))]=g2 at cm1;have ug2:∀o∈g2,∀n,aJ n o:=by rw[<-Dk];exact Xd ug1 λn=>zf0 _ (λa n=>by simp) RL n
 have at1:(SQ st c RL g2)[(SQ st c RL g).length]? = some (.lst [.int s]):=by rw[<-Dk,<-PB];exact SQ.Zx
 have at2:(SQ st c RL g2)[(SQ st c RL g1).length]? = some (.lst (RL.map λr=>D.int (Aj r))):=by rw[<-Dk];exact SQ.last
 generalize V8:((s:Int)::RL.map Aj)=ms;have hmd:[D.int s]++(RL.map λr=>D.int (Aj r))=ms.map D.int:=by rw[<-V8,gB,gW];rfl
 generalize Pz:g2++[MO.lst (ms.map D.int)]=g3;have ug3:∀o∈g3,∀n,aJ n o:=by rw[<-Pz];exact Xd ug2 λn=>zf0 D.int (λa n=>by simp) ms n
 have ad:bj (.loc (SQ st c RL g).length) (.loc (SQ st c RL g1).length) (SQ st c RL g2)=.ok (.loc (SQ st c RL g2).length) (SQ st c RL g3):=by
  rw[<-Pz,<-SQ.app];unfold bj;simp only[at1,at2];rw[if_pos (by simp;omega),hmd]
 have it3:az (SQ st c RL g3) (SQ st c RL g2).length=some (ms.map D.int):=by unfold az;rw[<-Pz,SQ.last]
 have qY:ms≠[]:=by rw[<-V8];simp
 have mxv:uM [.loc (SQ st c RL g2).length] (SQ st c RL g3)=.ok (.int (xW ms)) (SQ st c RL g3):=by
  unfold uM;simp only[it3,zlk];rw[if_pos qY]
 have hmx:∀a∈ms,a<=xW ms:=λa ha=>zg ms a ha;have hmm:=zm9 ms qY;have h5:∀a∈ms,0<=a/\a<=5000:=λa ha=>by
  rw[<-V8]at ha;rcases gk.mp ha with rfl | ha
  ·omega
  ·obtain⟨r,hr,rfl⟩:=gb.mp ha;obtain⟨f1,_,_,_,f5⟩:=F.at_ r hr;unfold Aj
   split<;>omega
 have hm5:=h5 _ hmm;have hsm:(s:Int)<=xW ms:=hmx _ (by rw[<-V8];simp);have hrm:∀r∈RL,(r.s:Int)<=xW ms:=λr hr=>by
  have:=hmx (Aj r) (by rw[<-V8];exact kj _ (gb.mpr ⟨r,hr,rfl⟩));have h2:(r.s:Int)<=Aj r:=by unfold Aj;split<;>omega
  omega
 have hrg:∀r∈RL,(r.g:Int)<=xW ms:=λr hr=>by
  have:=hmx (Aj r) (by rw[<-V8];exact kj _ (gb.mpr ⟨r,hr,rfl⟩));have h2:(r.g:Int)<=Aj r:=by unfold Aj;split<;>omega
  omega
 generalize xW ms=mx at *

 have r3:(SQ st c RL g3)[st.length+1]? = some (.lst (RL.map aB)):=SQ.rules;have cm2:=zg0 (capt:=[none]) (mi:=oY (vr 3)) (g:=aP 0) (e:=aL bj (aL bh (vr 0) (ct (.int 1))) (aL bh (vr 0) (ct (.int 2)))) (env:=[some (.int c0),some (.int 40),some (.loc st.length),some (.loc (st.length+1)),some (.tup [.int s,.str row]),a5,some (.int mx),none]) (st:=SQ st c RL g3) (st1:=SQ st c RL g3) (items:=RL.map aB) (gs:=[(st.length+1,.lst (RL.map aB))]) (λd=>match d with | .tup [_,.str x,.str w,_]=>.str (x++w) | _=>.non) (λe=>∃e0,e=[e0])
  (by simp[r3]) ⟨none,by simp[jY]⟩ (by rw[gf];omega) (λys=>by simp[rO r3]) (by
   rintro d hd di ys ⟨e0,rfl⟩;obtain⟨q,hq,rfl⟩:=gb.mp hd;have i1:∀Z,bh (aB q) (.int 1) Z=.ok (.str [q.x]) Z:=λZ=>rfl;have i2:∀Z,bh (aB q) (.int 2) Z=.ok (.str q.w) Z:=λZ=>rfl;have hw:=(F.at_ q hq).2.2.2.1;have ad:∀Z,bj (.str [q.x]) (.str q.w) Z=.ok (.str (q.x::q.w)) Z:=λZ=>xZ Z _ _ (by simp;omega);have e2:(match aB q with | .tup [_,.str x,.str w,_]=>D.str (x++w) | _=>.non)=.str (q.x::q.w):=rfl;rw[e2];generalize aB q=EE at *;generalize (SQ st c RL g3++[MO.lst ys]:aq)=Z at *;exact⟨[some EE],⟨_,rfl⟩,by simp,by simp[i1,i2,ad]⟩)
 rw[gW,show ((λd=>match d with | .tup [_,.str x,.str w,_]=>D.str (x++w) | _=>.non)∘aB)=(D.str∘λr:Rl=>r.x::r.w) from rfl,<-gW,SQ.app]at cm2;generalize hts:(RL.map λr:Rl=>r.x::r.w)=ts at cm2;generalize hg4:g3++[MO.lst (ts.map D.str)]=g4 at cm2;have ug4:∀o∈g4,∀n,aJ n o:=by rw[<-hg4];exact Xd ug3 λn=>zf0 D.str (λa n=>by simp) ts n
 have it4:az (SQ st c RL g4) (SQ st c RL g3).length=some (ts.map D.str):=by unfold az;rw[<-hg4,SQ.last]
 have Ti:(ts.map List.length).sum<=180:=by
  have:∀l:List Rl,(∀r∈l,r.w.length<=8)->((l.map λr:Rl=>r.x::r.w).map List.length).sum<=9*l.length:=by
   intro l
   induction l with
   | nil=>intro _;simp
   | cons r l ih =>
    intro h;have h1:=h r (by simp);have h2:=ih λx hx=>h x (by simp[hx]);simp only[gB,List.sum_cons,g8]at h2 ⊢;omega
  have:=this RL λr hr=>(F.at_ r hr).2.2.2.1;rw[hts]at this;omega
 have jn:=zb (SQ st c RL g4) [] (SQ st c RL g3).length ts it4 (by simp;omega);rw[zje]at jn;have Ii:ts.flatten.length<=180:=by rw[List.length_flatten];exact Ti
 have ad2:∀s1,bj (.str row) (.str ts.flatten) s1=.ok (.str (row++ts.flatten)) s1:=λs1=>xZ s1 _ _ (by omega);generalize hle:row++ts.flatten=le at ad2;have adh:le.length<=270:=by rw[<-hle,gC];omega
 have hlm:∀x,x∈le↔x∈row\/∃r∈RL,x=r.x\/x∈r.w:=λx=>by
  rw[<-hle,gw,List.mem_flatten,<-hts];refine or_congr Iff.rfl ⟨?_,?_⟩
  ·rintro ⟨l,hl,hx⟩;obtain⟨r,hr,rfl⟩:=gb.mp hl;exact⟨r,hr,gk.mp hx⟩
  ·rintro ⟨r,hr,hx⟩;exact⟨_,gb.mpr ⟨r,hr,rfl⟩,gk.mpr hx⟩
 have Ie:∀x∈le,x∈cC:=λx hx=>by
  rcases (hlm x).mp hx with h | ⟨r,hr,h | h⟩
  ·exact zA x h
  ·rw[h];exact (F.at_ r hr).2.1
  ·exact (F.at_ r hr).2.2.1 x h
 obtain⟨q1,q2,q3⟩:=Kw Ie;obtain⟨d,c',hd,dg⟩:=SQ.digit lM 31 c RL g4 ug4 (by omega) (by omega);rw[show ((31:Nat):Int)=31 from rfl]at dg;generalize hg5:g4++[MO.lst ((SS.lY le).map λc=>D.str [c])]=g5;have ug5:∀o∈g5,∀n,aJ n o:=by rw[<-hg5];exact Xd ug4 λn=>zf0 _ (λa n=>by simp) _ n
 have sv:lF (.str le) (SQ st c' RL g4)=.ok (.loc (SQ st c' RL g4).length) (SQ st c' RL g5):=by
  unfold lF;dsimp only;rw[if_pos ⟨by omega,λc hc=>(by decide:∀c∈cC,c<128) c (Ie c hc),by omega⟩,<-hg5,SQ.app]
 have it5:az (SQ st c' RL g5) (SQ st c' RL g4).length=some (((SS.lY le).map λc=>[c]).map D.str):=by unfold az;rw[<-hg5,SQ.last,gW];rfl
 have jn2:=zb (SQ st c' RL g5) [] (SQ st c' RL g4).length ((SS.lY le).map λc=>[c]) it5 (by rw[zna];simp;omega);rw[zig]at jn2;obtain⟨top,Di⟩:=kh (show 0<=(if mx+(d:Int)<5000 then mx+(d:Int) else 5000) by split<;>omega);have htm:mx<=(top:Nat):=by rw[<-Di];split<;>omega
 have mn:∀s1,wK [.int 5000,.int (mx+(d:Int))] s1=.ok (.int top) s1:=λs1=>by rw[Rj,Di]
 refine⟨top,SS.lY le,c',g5,⟨⟨hRl,λr hr=>?_,F.un⟩,q2,λx hx=>Ie x ((q3 x).mp hx),q1,by omega,λx hx=>(q3 x).mpr ((hlm x).mpr (.inl hx)),o4⟩,ug5,λhL o ho=>?_,?_⟩
 ·have:=hrm r hr;have hgm:=hrg r hr;exact⟨by omega,(q3 _).mpr ((hlm _).mpr (.inr ⟨r,hr,.inl rfl⟩)),λc hc=>(q3 _).mpr ((hlm _).mpr (.inr ⟨r,hr,.inr hc⟩)),(F.at_ r hr).2.2.2.1,by omega⟩
 ·rw[<-hg5,<-hg4,<-Pz,<-Dk,<-PB]at ho;simp only[gw,gG]at ho;rcases ho with ((((h | h) | h) | h) | h) | h
  ·exact hL o h
  ·exact⟨_,h⟩
  ·exact⟨_,h⟩
  ·exact⟨_,h⟩
  ·exact⟨_,h⟩
  ·exact⟨_,h⟩
 rw[<-hb];have ty:∀s1,iI "str" (.str []) s1=true:=λs1=>rfl;generalize Wm:dJ (aj (aL bh (vr 4) (ct (.int 0))) au)=E1 at *;generalize hC1:fO [none] (oY (vr 3)) (aP 0) tZ (bF uM _)=C1 at *;generalize hC2:fO [none] (oY (vr 3)) (aP 0) tZ (aL bj _ _)=C2 at *;generalize SS.lY le=MR at *;generalize ts.flatten=TF at *;generalize D.tup [.int s,.str row]=TT at *;generalize (SQ st c' RL g4).length=n4' at *;generalize (SQ st c RL g3).length=n3 at *;generalize (SQ st c RL g2).length=n2 at *;generalize (SQ st c RL g1).length=n1 at *;generalize (SQ st c RL g).length=n0 at *;generalize SQ st c' RL g5=Z5' at *;generalize SQ st c' RL g4=Z4' at *;generalize SQ st c RL g4=Z4 at *;generalize SQ st c RL g3=Z3 at *;generalize SQ st c RL g2=Z2 at *;generalize SQ st c RL g1=Z1 at *;generalize SQ st c RL g=Z0 at *;generalize (top:Int)=TP at *;generalize hMD:mx+(d:Int)=MD at *;generalize (d:Int)=DD at *;simp[e1,cm1,ad,mxv,cm2,j1,ty,jn,ad2,dg,hMD,mn,sv,jn2]
end Law
set_option maxHeartbeats 0
namespace Law
open L2 M TK TS
theorem zjm:∀RL:List Rl,d_ (RL.map aB)=true/\deps (RL.map aB)<=1
 | []=>⟨rfl,by simp⟩
 | q::l=>by
  obtain⟨h1,h2⟩:=zjm l;refine⟨by rw[gB,Vc,h1];simp[aB],?_⟩;rw[gB,zlw];have:dep (aB q)=1:=by simp[aB]
  omega
theorem neE (RL:List Rl)(s:aq)(a b:Nat)(h1:az s a=some (RL.map aB))(h2:az s b=some []):yg 200 (.loc a) (.loc b) s=.ok (.bl (!RL.isEmpty)) s:=by
 have hc:iM (RL.map aB) []=0:=by cases RL<;>simp[iM]
 simp only[M.yg,rN,h1,h2];rw[if_pos ⟨(zjm RL).1,rfl,by rw[hc];decide⟩];cases RL with
 | nil=>rfl
 | cons r K=>simp[o5]
theorem zkr (st:aq)(lM:M.wf st)(c0:Int) :
  ∃(RL:List Rl) (more:List Nat) (top s:Nat) (row:List Nat) (c:Int) (g:aq),Cs RL more top s row/\(∀o∈g,∀n,aJ n o)/\(∀o∈g,∃ds,o=MO.lst ds) /\
   Xv [.int c0,.int 40] st=.ok (.tup [.loc (st.length+1),.int top,.str more,.tup [.int s,.str row]]) (SQ st c RL g):=by
 have abR:M.wf (st++[MO.lst [.int c0]]):=WQ lM λo ho=>by rw[gG.mp ho];exact Qw _ _
 obtain⟨RL,c1,hRl,F,fp⟩:=zh0 st.length c0 (st++[MO.lst [.int c0]]) abR (by simp);have e1:(st++[MO.lst [.int c0]]).set st.length (.lst [.int c1])++[.lst (RL.map aB)]=SQ st c1 RL []:=by
  rw[mL _ _ (by simp)];unfold SQ;simp
 rw[e1,gC]at fp;have fp:X7 [.loc st.length] (st++[MO.lst [.int c0]])=.ok (.loc (st.length+1)) (SQ st c1 RL []):=fp;obtain⟨s0,c2,Pj,d1⟩:=SQ.digit lM 5001 c1 RL [] (by simp) (by omega) (by omega);obtain⟨m,c3,hm,d2⟩:=SQ.digit lM 41 c2 RL [] (by simp) (by omega) (by omega);obtain⟨lG,c4,Az,rG,t1⟩:=SQ.text lM m c3 RL [] (by simp) (by omega);rw[show ((5001:Nat):Int)=5001 from rfl]at d1;rw[show ((41:Nat):Int)=41 from rfl]at d2;have u1:∀o∈[MO.lst []],∀n,aJ n o:=λo ho n=>by rw[gG.mp ho];show bu _ _;simp
 have ne:=neE RL (SQ st c4 RL [.lst []]) (st.length+1) (SQ st c4 RL []).length (by unfold az;rw[SQ.rules]) (by unfold az;rw[show [MO.lst []]=[]++[MO.lst []] from rfl,SQ.last]);have l0:∀env:bA,dJ au env (SQ st c4 RL [])=.ok (.loc (SQ st c4 RL []).length) (SQ st c4 RL [.lst []]):=λenv=>by
  rw[show [MO.lst []]=[]++[MO.lst []] from rfl,<-SQ.app];rfl
 unfold Xv iU dF Xy;rw[show startM 8 [D.int c0,.int 40]=[some (.int c0),some (.int 40),none,none,none,none,none,none] from rfl];generalize hb:(aK (aQ 6 (bF uM _)) _:MS)=RS;have fin:=λ(c:Int) (g:aq) (hg:∀o∈g,∀n,aJ n o) (s:Nat) (row:List Nat) (hs:s<=5000) (o4:row.length<=90) (zA:∀x∈row,x∈cC) (a5:Option D)=>KN st lM RL hRl F c g hg s row hs o4 zA c0 a5 RS hb;clear hb;have e0:∀env:bA,env[0]? = some (some (.int c0))->dJ (aj (vr 0) au) env st=.ok (.loc st.length) (st++[MO.lst [.int c0]]):=λenv he=>by simp[he]
 have gca:∀(top:Nat) (more:List Nat) (dd:D) (Z:aq),gc st (.ok (.tup [.loc (st.length+1),.int (top:Nat),.str more,dd]) Z)=.ok (.tup [.loc (st.length+1),.int (top:Nat),.str more,dd]) Z:=λtop more dd Z=>zm6 (by simp;intro h;omega);have j1:∀s1,bh (.tup [.int s0,.str lG]) (.int 1) s1=.ok (.str lG) s1:=λs1=>qW s1 1 _ _ rfl;have a91:∀s,bj (.int 40) (.int 1) s=.ok (.int 41) s:=λs=>rfl;by_cases hR:RL=[]
 ·have hie:RL.isEmpty=true:=by rw[hR];rfl
  rw[hie]at ne;obtain⟨top,more,c',g',C,ug,gl,f⟩:=fin c4 [.lst []] u1 s0 lG (by omega) (by omega) rG none;refine⟨RL,more,top,s0,lG,c',g',C,ug,gl λo ho=>⟨[],gG.mp ho⟩,?_⟩;have gc1:=gca top more (.tup [.int s0,.str lG]) (SQ st c' RL g');have e0':=e0 [some (.int c0),some (.int 40),none,none,none,none,none,none] rfl;generalize hE0:dJ (aj (vr 0) au)=E0 at *;generalize (dJ au:ME)=E1 at *;generalize (SQ st c4 RL []).length=n4 at *;generalize SQ st c' RL g'=Z9 at *;generalize SQ st c4 RL [.lst []]=Z5 at *;generalize SQ st c4 RL []=Z4 at *;generalize SQ st c3 RL []=Z3 at *;generalize SQ st c2 RL []=Z2 at *;generalize SQ st c1 RL []=Z1 at *;generalize st++[MO.lst [.int c0]]=Z0 at *;generalize (s0:Int)=S0 at *;generalize (m:Int)=MM at *;generalize (top:Int)=TP at *;simp[e0',fp,d1,d2,t1,l0,ne,f,gc1]
 ·have hie:RL.isEmpty=false:=by cases RL with | nil=>exact absurd rfl hR | cons _ _=>rfl
  rw[hie]at ne;obtain⟨d,c5,hd,d3⟩:=SQ.digit lM 2 c4 RL [.lst []] u1 (by omega) (by omega);rw[show ((2:Nat):Int)=2 from rfl]at d3;by_cases h1:d=1
  ·subst h1;obtain⟨j,c6,hj,d4⟩:=SQ.digit lM RL.length c5 RL [.lst []] u1 (List.length_pos_iff.mpr hR) (by omega);have lR:bY [.loc (st.length+1)] (SQ st c5 RL [.lst []])=.ok (.int RL.length) (SQ st c5 RL [.lst []]):=by
    have:=N5 (st:=SQ st c5 RL [.lst []]) (n:=st.length+1) (ds:=RL.map aB) (by unfold az;rw[SQ.rules]);rwa[gf]at this
   have ixr:bh (.loc (st.length+1)) (.int j) (SQ st c6 RL [.lst []])=.ok (aB RL[j]) (SQ st c6 RL [.lst []]):=by
    refine xR _ _ _ (RL.map aB) _ (by unfold az;rw[SQ.rules]) ?_;rw[Ey,gF,gM hj];rfl
   have hrm:=m6 hj;generalize RL[j]=r at *;obtain⟨f1,f2,_⟩:=F.at_ r hrm;have i0:∀Z,bh (aB r) (.int 0) Z=.ok (.int r.s) Z:=λZ=>rfl;have i1:∀Z,bh (aB r) (.int 1) Z=.ok (.str [r.x]) Z:=λZ=>rfl;have tl:∀Z,rP (.str lG) (some 1) none Z=.ok (.str lG.tail) Z:=λZ=>wH lG Z (by omega);have ad:∀Z,bj (.str [r.x]) (.str lG.tail) Z=.ok (.str (r.x::lG.tail)) Z:=λZ=>xZ Z _ _ (by simp;omega);obtain⟨top,more,c',g',C,ug,gl,f⟩:=fin c6 [.lst []] u1 r.s (r.x::lG.tail) f1 (by simp;omega) (λx hx=>by
    rcases gk.mp hx with rfl | hx
    ·exact f2
    ·exact rG x (List.mem_of_mem_tail hx)) (some (aB r))
   refine⟨RL,more,top,r.s,r.x::lG.tail,c',g',C,ug,gl λo ho=>⟨[],gG.mp ho⟩,?_⟩;have gc1:=gca top more (.tup [.int r.s,.str (r.x::lG.tail)]) (SQ st c' RL g');have e0':=e0 [some (.int c0),some (.int 40),none,none,none,none,none,none] rfl;rw[show ((1:Nat):Int)=1 from rfl]at d3;generalize r.x::lG.tail=RR at *;generalize lG.tail=RT at *;generalize aB r=ER at *;generalize hE0:dJ (aj (vr 0) au)=E0 at *;generalize (dJ au:ME)=E1 at *;generalize (SQ st c4 RL []).length=n4 at *;generalize SQ st c' RL g'=Z9 at *;generalize SQ st c6 RL [.lst []]=Z7 at *;generalize SQ st c5 RL [.lst []]=Z6 at *;generalize SQ st c4 RL [.lst []]=Z5 at *;generalize SQ st c4 RL []=Z4 at *;generalize SQ st c3 RL []=Z3 at *;generalize SQ st c2 RL []=Z2 at *;generalize SQ st c1 RL []=Z1 at *;generalize st++[MO.lst [.int c0]]=Z0 at *;generalize (s0:Int)=S0 at *;generalize (m:Int)=MM at *;generalize (j:Int)=JJ at *;generalize (RL.length:Int)=LL at *;generalize (r.s:Int)=RSS at *;generalize (top:Int)=TP at *;simp[e0',fp,d1,d2,t1,l0,ne,d3,lR,d4,ixr,i0,i1,j1,tl,ad,f,gc1]
  ·have hd1:¬ (d:Int)=1:=by omega
   obtain⟨top,more,c',g',C,ug,gl,f⟩:=fin c5 [.lst []] u1 s0 lG (by omega) (by omega) rG none;refine⟨RL,more,top,s0,lG,c',g',C,ug,gl λo ho=>⟨[],gG.mp ho⟩,?_⟩;have gc1:=gca top more (.tup [.int s0,.str lG]) (SQ st c' RL g');have e0':=e0 [some (.int c0),some (.int 40),none,none,none,none,none,none] rfl;generalize hE0:dJ (aj (vr 0) au)=E0 at *;generalize (dJ au:ME)=E1 at *;generalize (SQ st c4 RL []).length=n4 at *;generalize SQ st c' RL g'=Z9 at *;generalize SQ st c5 RL [.lst []]=Z6 at *;generalize SQ st c4 RL [.lst []]=Z5 at *;generalize SQ st c4 RL []=Z4 at *;generalize SQ st c3 RL []=Z3 at *;generalize SQ st c2 RL []=Z2 at *;generalize SQ st c1 RL []=Z1 at *;generalize st++[MO.lst [.int c0]]=Z0 at *;generalize (s0:Int)=S0 at *;generalize (m:Int)=MM at *;generalize (d:Int)=DD at *;generalize (top:Int)=TP at *;simp[e0',fp,d1,d2,t1,l0,ne,d3,hd1,f,gc1]
end Law
set_option maxHeartbeats 0
namespace Law
open L2 M TK TS
noncomputable def uX (f:Nat)(ks:List TK)(q:TQ):dO:=⟨(bK f ks q.s:Nat),q.x,q.w,mvC q.mv,(bK f ks q.g:Nat)⟩
noncomputable def toT (f:Nat)(ks:List TK)(c:TC):Tp:=⟨(bK f ks c.s:Nat),c.l,c.h,c.r⟩
theorem Ik (f:Nat)(ks:List TK)(q:TQ)(c:TC):Uh (uX f ks q) (toT f ks c)=toT f ks (moved c q):=by
 obtain⟨qs,qx,qw,mv,qg⟩:=q;obtain⟨cs,cl,ch,cr⟩:=c;cases mv with
 | true =>
  unfold Uh moved;rw[if_neg (show ¬ (uX f ks ⟨qs,qx,qw,true,qg⟩).m=108 from (by decide:¬ mvC true=108)),if_pos rfl];cases cr<;>rfl
 | false =>
  unfold Uh moved;rw[if_pos (show (uX f ks ⟨qs,qx,qw,false,qg⟩).m=108 from (by decide:mvC false=108)),if_neg (by simp)];unfold yC toT J4;by_cases h:cl=[]
  ·subst h;rfl
  ·show (⟨_,(if cl=[] then ([],95) else (cl.dropLast,cl.getLastD 0)).1,(if cl=[] then ([],95) else (cl.dropLast,cl.getLastD 0)).2,_⟩:Tp)=⟨_,cl.dropLast,cl.getLastD 95,_⟩;rw[if_neg h];have:cl.getLastD 0=cl.getLastD 95:=by
    cases cl with
    | nil=>exact absurd rfl h
    | cons a l=>simp[List.getLastD]
   rw[this];rfl
section
variable {RL:List Rl}{signs:List Nat}{ks:List TK}{ALL:List TQ}{f:Nat}
theorem zlh (A:Ej RL signs ks ALL)(hs:95∉signs)(hR:∀r∈RL,∀r'∈RL,r.s=r'.s->r.x=r'.x->r.w=r'.w/\r.g=r'.g)(hT:∀r∈RL,r.s<f){c:TC}{q:TQ}(hq:q∈ALL)(hf:fits c q) :
  vR (ALL.map (uX f ks)) (toT f ks c)=some (toT f ks (moved c q)):=by
 have hp:pick (ALL.map (uX f ks)) (toT f ks c).s (toT f ks c).c=some (uX f ks q):=by
  unfold pick;rw[List.find?_map];have hex:(ALL.find? ((λr:dO=>decide (r.st=(toT f ks c).s/\r.c=(toT f ks c).c))∘uX f ks)).isSome=true:=by
   rw[List.find?_isSome];exact⟨q,hq,by simp[uX,toT,hf.1,hf.2]⟩
  obtain⟨q0,h0⟩:=Option.isSome_iff_exists.mp hex;rw[h0];have hm:=List.mem_of_find?_eq_some h0;have hp:=List.find?_some h0;simp only[Function.comp,decide_eq_true_eq]at hp;have e:q0=q:=SX A hs hR hT hm hq (by
   unfold kT;have e1:((bK f ks q0.s:Nat):Int)=(bK f ks q.s:Nat):=by rw[<-hf.1];exact hp.1
   have e2:q0.x=q.x:=by rw[<-hf.2];exact hp.2
   rw[e1,e2])
  rw[e];rfl
 unfold vR;rw[hp];show some (Uh (uX f ks q) (toT f ks c))=_;rw[Ik]
theorem BK {c:TC}(h:∀q∈ALL,¬ (((bK f ks q.s:Nat):Int)=(bK f ks c.s:Nat)/\q.x=c.h)):vR (ALL.map (uX f ks)) (toT f ks c)=none:=by
 unfold vR pick;rw[pW,pX];intro r hr;obtain⟨q,hq,rfl⟩:=gb.mp hr;rw[Bool.not_eq_true,decide_eq_false_iff_not];exact h q hq
theorem Lw (A:Ej RL signs ks ALL)(hs:95∉signs)(hR:∀r∈RL,∀r'∈RL,r.s=r'.s->r.x=r'.x->r.w=r'.w/\r.g=r'.g)(hT:∀r∈RL,r.s<f){top:Nat}(hf:top+1=f){c':TC}:∀{N:Nat} {c:TC},Rn ALL c' N c->∀m,
  (N<=m->∃mid:List Tp,mid.length+1=N/\(∀x∈mid,(top:Int)<x.s)/\fc (vR (ALL.map (uX f ks))) m (toT f ks c)=toT f ks c::(mid++fc (vR (ALL.map (uX f ks))) (m - N) (toT f ks c'))) /\
  (m<N->∃mid:List Tp,mid.length=m/\(∀x∈mid,(top:Int)<x.s)/\fc (vR (ALL.map (uX f ks))) m (toT f ks c)=toT f ks c::mid):=by
 intro N c h
 induction h with
 | last c q hq M6 e =>
  intro m;have st:=zlh A hs hR hT hq M6;rw[e]at st;cases m with
  | zero=>exact⟨λz=>absurd z (by omega),λ_=>⟨[],rfl,by simp,rfl⟩⟩
  | succ m =>
   refine⟨λ_=>⟨[],rfl,by simp,?_⟩,λz=>absurd z (by omega)⟩;rw[fc,st,Nat.add_sub_cancel];rfl
 | more c q n hq M6 ht h ih =>
  intro m;have st:=zlh A hs hR hT hq M6;have hi:(top:Int)<(toT f ks (moved c q)).s:=by
   have:Te (moved c q).s:=ht;unfold toT;cases e:(moved c q).s with
   | tp n=>rw[e]at this;exact this.elim
   | tk k=>simp only[bK];omega
  cases m with
  | zero=>exact⟨λz=>absurd z (by omega),λ_=>⟨[],rfl,by simp,rfl⟩⟩
  | succ m =>
   obtain⟨i1,i2⟩:=ih m;refine⟨λz=>?_,λz=>?_⟩
   ·obtain⟨mid,m1,m2,m3⟩:=i1 (by omega);refine⟨toT f ks (moved c q)::mid,by simp[m1],λx hx=>?_,?_⟩
    ·rcases gk.mp hx with rfl | hx
     ·exact hi
     ·exact m2 x hx
    ·rw[fc,st];dsimp only;rw[m3,show m+1 - (n+1)=m - n by omega];rfl
   ·obtain⟨mid,m1,m2,m3⟩:=i2 (by omega);refine⟨toT f ks (moved c q)::mid,by simp[m1],λx hx=>?_,?_⟩
    ·rcases gk.mp hx with rfl | hx
     ·exact hi
     ·exact m2 x hx
    ·rw[fc,st];dsimp only;rw[m3]
end
noncomputable def jr (r:Rl)(rest:List Nat):Nat:=2*(rest.length+1)+2*r.w.length+1
structure Ob (signs:List Nat)(top k s:Nat)(row:List Nat):Prop where
 rl:row.length<=750
 k:k<=600
 s:s<=top
 row:∀c∈row,c∈signs
inductive Wk (RL:List Rl) (signs:List Nat) (f:Nat) (ks:List TK) (top:Nat):Nat->Nat->Nat->Nat->List Nat->List Tp->List (Nat×Nat×List Nat)->Nat->Prop where
 | stop (k at_ m s:Nat) (row:List Nat) (hb:Ob signs top k s row) (yP:∀r∈RL,¬ (r.s=s/\row.take 1=[r.x])):Wk RL signs f ks top k at_ m s row [toT f ks (qj s k row)] [(at_,s,row)] at_
 | out (k at_ m:Nat) (r:Rl) (rest:List Nat) (mid:List Tp) (hb:Ob signs top k r.s (r.x::rest)) (hr:r∈RL) (hN:m<jr r rest) (hl:mid.length=m) (hm:∀x∈mid,(top:Int)<x.s):Wk RL signs f ks top k at_ m r.s (r.x::rest) (toT f ks (qj r.s k (r.x::rest))::mid) [(at_,r.s,r.x::rest)] (at_+m)
 | lap (k at_ m:Nat) (r:Rl) (rest:List Nat) (mid F:List Tp) (M:List (Nat×Nat×List Nat)) (e:Nat) (hb:Ob signs top k r.s (r.x::rest)) (hr:r∈RL) (hN:jr r rest<=m) (hl:mid.length+1=jr r rest) (hm:∀x∈mid,(top:Int)<x.s) (h:Wk RL signs f ks top (k+1) (at_+jr r rest) (m - jr r rest) r.g (rest++r.w) F M e) :
  Wk RL signs f ks top k at_ m r.s (r.x::rest) (toT f ks (qj r.s k (r.x::rest))::(mid++F)) ((at_,r.s,r.x::rest)::M) e
theorem Ra {RL:List Rl}{signs:List Nat}{ks:List TK}{ALL:List TQ}{top:Nat}(A:Ej RL signs ks ALL)(hs:95∉signs)(G:Gy RL signs top):∀(m k at_ s:Nat) (row:List Nat),row.length<=750->3*k<=63+at_->at_+m<=1500->s<=top->(∀c∈row,c∈signs) ->
  ∃M e,Wk RL signs (top+1) ks top k at_ m s row (fc (vR (ALL.map (uX (top+1) ks))) m (toT (top+1) ks (qj s k row))) M e:=by
 intro m
 induction m using Nat.strongRecOn with
 | ind m ih =>
  intro k at_ s row h1 h2 h3 h4 h5;have hb:Ob signs top k s row:=⟨h1,by omega,h4,h5⟩;have hT:∀r∈RL,r.s<top+1:=λr hr=>by have:=(G.at_ r hr).1;omega
  by_cases hex:∃r∈RL,r.s=s/\row.take 1=[r.x]
  ·obtain⟨r,hr,rfl,hx⟩:=hex;obtain⟨rest,rfl⟩:∃rest,row=r.x::rest:=by
    cases row with
    | nil=>simp at hx
    | cons c t=>exact⟨t,by simp at hx;rw[hx]⟩
   obtain⟨_,_,g3,g4,g5⟩:=G.at_ r hr;have lp:=abK A.src A.pas A.gro A.pab A.bak hr rest k (λc hc=>h5 c (by simp[hc])) g3;change Rn ALL _ (jr r rest) _ at lp;obtain⟨p1,p2⟩:=Lw A hs G.one hT rfl lp m;have abZ:3<=jr r rest:=by unfold jr;omega
   by_cases hN:jr r rest<=m
   ·obtain⟨mid,m1,m2,m3⟩:=p1 hN;have o4:(rest++r.w).length<=750:=by unfold jr at hN;rw[gC];omega
    obtain⟨M,e,hw⟩:=ih (m - jr r rest) (by omega) (k+1) (at_+jr r rest) r.g (rest++r.w) o4 (by omega) (by omega) g5 (λc hc=>by
     rcases gw.mp hc with hc | hc
     ·exact h5 c (by simp[hc])
     ·exact g3 c hc)
    rw[m3];exact⟨_,e,.lap k at_ m r rest mid _ M e hb hr hN m1 m2 hw⟩
   ·obtain⟨mid,m1,m2,m3⟩:=p2 (by omega);rw[m3];exact⟨_,_,.out k at_ m r rest mid hb hr (by omega) m1 m2⟩
  ·have yP:∀r∈RL,¬ (r.s=s/\row.take 1=[r.x]):=λr hr h=>hex ⟨r,hr,h⟩;have sn:vR (ALL.map (uX (top+1) ks)) (toT (top+1) ks (qj s k row))=none:=BK λq hq e=>by
    obtain⟨e1,e2⟩:=e;have e1:((bK (top+1) ks q.s:Nat):Int)=(s:Nat):=e1;cases A.good q hq with
    | src r hr =>
     have e1:(r.s:Int)=(s:Nat):=e1;have e2:r.x=(qj s k row).h:=e2;refine yP r hr ⟨by omega,?_⟩;cases row with
     | nil =>
      have:(qj s k []).h=95:=by unfold qj Et;by_cases c:k=0<;>simp[c]
      rw[this]at e2;exact absurd (e2 ▸ (G.at_ r hr).2.1) hs
     | cons c t =>
      have:(qj s k (c::t)).h=c:=rfl;rw[this]at e2;rw[e2];rfl
    | pas w t c h=>simp only[fU,bK]at e1;omega
    | gro w t=>cases w<;>(simp only[dM,bK]at e1;omega)
    | pab t c h=>simp only[fU,bK]at e1;omega
    | bak t=>simp only[qQ,bK]at e1;omega
   have abW:fc (vR (ALL.map (uX (top+1) ks))) m (toT (top+1) ks (qj s k row))=[toT (top+1) ks (qj s k row)]:=by
    cases m with
    | zero=>rfl
    | succ m=>rw[fc,sn]
   rw[abW];exact⟨_,_,.stop k at_ m s row hb yP⟩
section
variable {RL:List Rl}{signs:List Nat}{f:Nat}{ks:List TK}{top:Nat}{k at_ m s:Nat}{row:List Nat}{F:List Tp}{M:List (Nat×Nat×List Nat)}{e:Nat}
theorem Wk.len (h:Wk RL signs f ks top k at_ m s row F M e):F.length+at_=e+1/\at_<=e/\e<=at_+m/\(∀p∈M,at_<=p.1/\p.1<=e)/\M.Pairwise λa b=>a.1<b.1:=by
 induction h with
 | stop k at_ m s row hb yP=>exact⟨by simp;omega,by omega,by omega,by simp,by simp⟩
 | out k at_ m r rest mid hb hr hN hl hm=>exact⟨by simp[hl];omega,by omega,by omega,by simp,by simp⟩
 | lap k at_ m r rest mid F M e hb hr hN hl hm h ih =>
  obtain⟨i1,i2,i3,i4,i5⟩:=ih;have hp:3<=jr r rest:=by unfold jr;omega
  refine⟨by simp;omega,by omega,by omega,λp ym=>?_,nH.mpr ⟨λp ym=>?_,i5⟩⟩
  ·rcases gk.mp ym with rfl | ym
   ·exact⟨gh _,by show at_<=e;omega⟩
   ·have:=i4 p ym;exact⟨by omega,this.2⟩
  ·have:=(i4 p ym).1;show at_<p.1;omega
theorem Wk.at' (h:Wk RL signs f ks top k at_ m s row F M e):∀i,i<F.length->(∃j p,M[j]? = some p/\p.1=at_+i/\F[i]? = some (toT f ks (qj p.2.1 (k+j) p.2.2))/\Ob signs top (k+j) p.2.1 p.2.2)\/((∀p∈M,p.1≠at_+i)/\∃c,F[i]? = some c/\(top:Int)<c.s):=by
 induction h with
 | stop k at_ m s row hb yP =>
  intro i hi;have:i=0:=by simpa using hi
  subst this;exact .inl ⟨0,_,rfl,rfl,rfl,hb⟩
 | out k at_ m r rest mid hb hr hN hl hm =>
  intro i hi;cases i with
  | zero=>exact .inl ⟨0,_,rfl,rfl,rfl,hb⟩
  | succ i =>
   have Ba:i<mid.length:=by simpa using hi
   refine .inr ⟨by simp,mid[i],?_,hm _ (m6 _)⟩;rw[mF,gM Ba]
 | lap k at_ m r rest mid F M e hb hr hN hl hm h ih =>
  intro i hi;obtain⟨l1,l2,l3,l4,l5⟩:=h.len;cases i with
  | zero=>exact .inl ⟨0,_,rfl,rfl,rfl,hb⟩
  | succ i =>
   by_cases Ba:i<mid.length
   ·refine .inr ⟨λp hp=>?_,mid[i],?_,hm _ (m6 _)⟩
    ·rcases gk.mp hp with rfl | hp
     ·show at_≠_;omega
     ·have:=(l4 p hp).1;omega
    ·rw[mF,gQ Ba,gM Ba]
   ·have hi3:i - mid.length<F.length:=by simp at hi;omega
    rcases ih (i - mid.length) hi3 with⟨j,p,j1,j2,j3,j4⟩ | ⟨h1,c,h2,h3⟩
    ·refine .inl ⟨j+1,p,by simpa using j1,by rw[j2];omega,?_,?_⟩
     ·rw[mF,gR (by omega),j3,show k+1+j=k+(j+1) by omega]
     ·rw[show k+(j+1)=k+1+j by omega];exact j4
    ·refine .inr ⟨λp hp=>?_,c,?_,h3⟩
     ·rcases gk.mp hp with rfl | hp
      ·show at_≠_;omega
      ·have:=h1 p hp;omega
     ·rw[mF,gR (by omega),h2]
end
end Law
set_option maxHeartbeats 0
namespace Law
open L2 M TK TS
noncomputable def iC (s:Nat)(row:List Nat):D:=.tup [.int s,.str row]
noncomputable def ju (M:List (Nat×Nat×List Nat)):List (Key×D):=M.map λp=>(Sum.inl ((p.1:Nat):Int),iC p.2.1 p.2.2)
theorem Fj {M:List (Nat×Nat×List Nat)}{i:Nat}(h:∀p∈M,p.1≠i):valN (ju M) (.inl (i:Int))=none:=by
 unfold valN ju;rw[pW,pX];intro q hq;obtain⟨p,hp,rfl⟩:=gb.mp hq;have:=h p hp;simp;omega
theorem Fi {M:List (Nat×Nat×List Nat)}(hp:M.Pairwise λa b=>a.1<b.1){j:Nat}{p:Nat×Nat×List Nat}(h:M[j]? = some p):valN (ju M) (.inl (p.1:Int))=some (iC p.2.1 p.2.2):=by
 induction M generalizing j with
 | nil=>simp at h
 | cons q M ih =>
  show valN ((Sum.inl ((q.1:Nat):Int),iC q.2.1 q.2.2)::ju M) _=_;rw[zk6];cases j with
  | zero =>
   have:q=p:=by simpa using h
   subst this;rw[if_pos rfl]
  | succ j =>
   have hm:p∈M:=gY (by simpa using h);have:=pq hp hm;rw[if_neg (by simp;omega)];exact ih (nH.mp hp).2 (by simpa using h)
theorem K7 {M:List (Nat×Nat×List Nat)}{i s:Nat}{row:List Nat}(h:∀p∈M,p.1≠i):putN (ju M) (.inl (i:Int)) (iC s row)=ju (M++[(i,s,row)]):=by
 have hn:((ju M).any λkv=>decide (kv.1=(.inl (i:Int):Key)))=false:=by
  rw[List.any_eq_false];intro q hq;obtain⟨p,hp,rfl⟩:=gb.mp hq;have:=h p hp;simp;omega
 unfold putN;rw[hn,if_neg (by simp)];unfold ju;rw[kE];rfl
theorem Ur {M:List (Nat×Nat×List Nat)}(hp:M.Pairwise λa b=>a.1<b.1){j:Nat}{p:Nat×Nat×List Nat}(h:M[j]? = some p):(M.filter λq=>decide (q.1<p.1)).length=j/\(M.filter λq=>decide (q.1<p.1+1)).length=j+1:=by
 induction M generalizing j with
 | nil=>simp at h
 | cons q M ih =>
  have hq:∀{x},x∈M->q.1<x.1:=λhx=>pq hp hx;cases j with
  | zero =>
   have:q=p:=by simpa using h
   subst this;have h1:M.filter (λx=>decide (x.1<q.1))=[]:=by
    rw[qi];intro x hx;have:=hq hx;simp;omega
   have h2:M.filter (λx=>decide (x.1<q.1+1))=[]:=by
    rw[qi];intro x hx;have:=hq hx;simp;omega
   rw[pP,pP,if_neg (by simp),if_pos (by simp),h1,g8,h2];exact⟨rfl,rfl⟩
  | succ j =>
   have hm:p∈M:=gY (by simpa using h);have:=hq hm;obtain⟨i1,i2⟩:=ih (nH.mp hp).2 (j:=j) (by simpa using h);rw[pP,pP,if_pos (by simp;omega),if_pos (by simp;omega),g8,g8,i1,i2];exact⟨rfl,rfl⟩
theorem Uq {M:List (Nat×Nat×List Nat)}{i:Nat}(h:∀p∈M,p.1≠i):(M.filter λq=>decide (q.1<i+1))=M.filter λq=>decide (q.1<i):=by
 refine List.filter_congr λq hq=>?_;have:=h q hq;rw[mV];simp;omega
theorem zkf {RL:List Rl}{signs:List Nat}{f:Nat}{ks:List TK}{top:Nat}(G:Gy RL signs top){k at_ m s:Nat}{row:List Nat}{F:List Tp}{M:List (Nat×Nat×List Nat)}{e:Nat}(h:Wk RL signs f ks top k at_ m s row F M e)(h0:at_=0)(hm:m<=1500)(n:Nat)(st:aq)(hn:st[n]? = some (.lst (RL.map aB))) :
  Od [.loc n,iC s row,.int m] st=.ok (.tup [.loc st.length,.int e]) (st++[.dkc (ju M)]):=by
 unfold Od iU dF Xz;generalize hC:(yD (jl (aL lH (vr 1) (ct .non))) (jl (aL O8 (vr 4) (vr 2))):MT)=C;generalize hB:(aK (lU (vr 1) (t6 vZ (vr 3) (vr 4))) _:MS)=B;have nn:∀(s:Nat) (row:List Nat) (S:aq),lH (iC s row) .non S=.ok (.bl true) S:=λs row S=>rfl;have Ug:∀(s:Nat) (row:List Nat) (a most:Nat) (a5:Option D) (S:aq),C [some (.loc n),some (iC s row),some (.int (most:Nat)),some (.loc st.length),some (.int (a:Nat)),a5] S=.ok (decide ((a:Int)<=(most:Int))) S:=λs row a most a5 S=>by
  rw[<-hC];have:=nn s row S;generalize iC s row=X at *;simp[this]
 have hgn:∀kvs,(st++[MO.dkc kvs])[n]? = some (.lst (RL.map aB)):=λkvs=>rO hn;have j1:∀(s:Nat) (row:List Nat) S,bh (iC s row) (.int 1) S=.ok (.str row) S:=λs row S=>qW S 1 _ _ rfl;have sk:∀(Mp:List (Nat×Nat×List Nat)) (a s:Nat) (row:List Nat),(∀p∈Mp,p.1<a)->Mp.length<=100000->vZ (.loc st.length) (.int (a:Nat)) (iC s row) (st++[.dkc (ju Mp)])=.ok () (st++[.dkc (ju (Mp++[(a,s,row)]))]):=λMp a s row hp hl=>by
  have e:=K7 (M:=Mp) (i:=a) (s:=s) (row:=row) λp ym=>gJ (hp p ym);have hk:keyOf (.int (a:Int))=some (.inl (a:Int)):=rfl;have wg:(ju Mp).length<1000000:=by unfold ju;rw[gf];omega
  unfold vZ;simp only[zke,nY,hk];rw[if_pos wg,e];simp
 have hBr:∀(r:Rl) (rest:List Nat) (Mp:List (Nat×Nat×List Nat)) (a most:Nat) (a5:Option D),r∈RL->rest.length<=749->a<=1500->(∀p∈Mp,p.1<a)->Mp.length<=a ->
   B [some (.loc n),some (iC r.s (r.x::rest)),some (.int most),some (.loc st.length),some (.int a),a5] (st++[.dkc (ju Mp)])=.ok (.nx [some (.loc n),some (iC r.g (rest++r.w)),some (.int most),some (.loc st.length),some (.int ((a+jr r rest:Nat):Int)),some (iC r.g (rest++r.w))]) (st++[.dkc (ju (Mp++[(a,r.s,r.x::rest)]))]):=by
  intro r rest Mp a most a5 hr o4 ha hp hl;obtain⟨_,_,_,g4,_⟩:=G.at_ r hr;have s1:=sk Mp a r.s (r.x::rest) hp (by omega);have rn:=zjr RL n (st++[.dkc (ju (Mp++[(a,r.s,r.x::rest)]))]) (hgn _) G.one r hr rest (by omega) (by omega);change Oj [.loc n,iC r.s (r.x::rest)] _=.ok (iC r.g (rest++r.w)) _ at rn;have isn:∀S,ji (iC r.g (rest++r.w)) .non S=.ok (.bl false) S:=λS=>rfl;have i1:=j1 r.s (r.x::rest);have i2:=j1 r.g (rest++r.w);have l1:∀s1,bY [.str (r.x::rest)] s1=.ok (.int ((rest.length+1:Nat):Int)) s1:=λs1=>by rw[N8 _ _ (by simp;omega)];simp
  have l2:∀s1,bY [.str (rest++r.w)] s1=.ok (.int ((rest.length+r.w.length:Nat):Int)) s1:=λs1=>by rw[N8 _ _ (by simp;omega)];simp
  have mu1:∀s1,jh (.int 2) (.int ((rest.length+1:Nat):Int)) s1=.ok (.int (2*((rest.length+1:Nat):Int))) s1:=λs1=>Ez s1 _ _ (.inl (by decide));have mu2:∀s1,jh (.int 2) (.int (((rest.length+r.w.length:Nat):Int) - ((rest.length+1:Nat):Int)+1)) s1=.ok (.int (2*(((rest.length+r.w.length:Nat):Int) - ((rest.length+1:Nat):Int)+1))) s1:=λs1=>Ez s1 _ _ (.inl (by decide));have en:(a:Int)+2*((rest.length+1:Nat):Int)+2*(((rest.length+r.w.length:Nat):Int) - ((rest.length+1:Nat):Int)+1)+1=((a+jr r rest:Nat):Int):=by unfold jr;omega
  rw[<-hB];generalize iC r.g (rest++r.w)=X2 at *;generalize iC r.s (r.x::rest)=X1 at *;generalize (st++[.dkc (ju (Mp++[(a,r.s,r.x::rest)]))]:aq)=Z2 at *;generalize (st++[.dkc (ju Mp)]:aq)=Z1 at *;generalize D.str (rest++r.w)=W2 at *;generalize D.str (r.x::rest)=W1 at *;generalize ((rest.length+1:Nat):Int)=n1 at *;generalize ((rest.length+r.w.length:Nat):Int)=n2 at *;generalize ((a+jr r rest:Nat):Int)=AN at *;generalize (a:Int)=AT at *;simp[s1,rn,isn,i1,i2,l1,l2,mu1,mu2,en]
 have loop:∀{k at_ m s:Nat} {row:List Nat} {F:List Tp} {M:List (Nat×Nat×List Nat)} {e:Nat},Wk RL signs f ks top k at_ m s row F M e->∀(most:Nat) (Mp:List (Nat×Nat×List Nat)) (a5:Option D),at_+m=most->most<=1500->(∀p∈Mp,p.1<at_)->Mp.length<=at_ ->
   ∃o a1 a4 a5',cO C B [some (.loc n),some (iC s row),some (.int most),some (.loc st.length),some (.int at_),a5] (st++[.dkc (ju Mp)])=.ok o (st++[.dkc (ju (Mp++M))])/\(o=.rt (.tup [.loc st.length,.int e])\/(o=.nx [some (.loc n),a1,some (.int most),some (.loc st.length),a4,a5']/\e=most)):=by
  intro k at_ m s row F M e h
  induction h with
  | stop k at_ m s row hb yP =>
   intro most Mp a5 hmo h15 hp hl;refine⟨_,none,none,none,?_,.inl rfl⟩;have o4:=hb.rl;rw[Va,Ug,R.aG,decide_eq_true (show (at_:Int)<=(most:Nat) by omega),if_pos rfl];have s1:=sk Mp at_ s row hp (by omega);have rn:=zl2 RL n (st++[.dkc (ju (Mp++[(at_,s,row)]))]) (hgn _) s row (by omega) yP;change Oj [.loc n,iC s row] _=_ at rn;have isn:∀S,ji .non .non S=.ok (.bl true) S:=λS=>rfl;rw[<-hB];generalize iC s row=X at *;generalize (st++[.dkc (ju (Mp++[(at_,s,row)]))]:aq)=Z2 at *;generalize (st++[.dkc (ju Mp)]:aq)=Z1 at *;generalize (at_:Int)=AT at *;simp[s1,rn,isn]
  | out k at_ m r rest mid hb hr hN wg hm =>
   intro most Mp a5 hmo h15 hp hl;have o4:=hb.rl;simp only[g8]at o4;refine⟨.nx [some (.loc n),some (iC r.g (rest++r.w)),some (.int most),some (.loc st.length),some (.int ((at_+jr r rest:Nat):Int)),some (iC r.g (rest++r.w))],some (iC r.g (rest++r.w)),some (.int ((at_+jr r rest:Nat):Int)),some (iC r.g (rest++r.w)),?_,.inr ⟨rfl,hmo⟩⟩;rw[Va,Ug,R.aG,decide_eq_true (show (at_:Int)<=(most:Nat) by omega),if_pos rfl,hBr r rest Mp at_ most a5 hr (by omega) (by omega) hp hl,R.aG];dsimp only;rw[Va,Ug,R.aG,decide_eq_false (show ¬ ((at_+jr r rest:Nat):Int)<=(most:Nat) by omega)]
   rfl
  | lap k at_ m r rest mid F M e hb hr hN wg hm h ih =>
   intro most Mp a5 hmo h15 hp hl;have o4:=hb.rl;simp only[g8]at o4;have abZ:3<=jr r rest:=by unfold jr;omega
   obtain⟨o,a1,a4,a5',i1,i2⟩:=ih most (Mp++[(at_,r.s,r.x::rest)]) (some (iC r.g (rest++r.w))) (by omega) h15 (λp ym=>by
    rcases gw.mp ym with ym | ym
    ·have:=hp p ym;omega
    ·rw[gG.mp ym];show at_<_;omega) (by simp;omega)
   refine⟨o,a1,a4,a5',?_,i2⟩;rw[Va,Ug,R.aG,decide_eq_true (show (at_:Int)<=(most:Nat) by omega),if_pos rfl,hBr r rest Mp at_ most a5 hr (by omega) (by omega) hp hl,R.aG];dsimp only;rw[i1];simp
 obtain⟨o,a1,a4,a5',h1,h2⟩:=loop h m [] none (by omega) hm (by simp) (by simp);subst h0;rw[nF]at h1;have Py:∀e':Nat,gc st (.ok (.tup [.loc st.length,.int (e':Nat)]) (st++[.dkc (ju M)]))=.ok (.tup [.loc st.length,.int (e':Nat)]) (st++[.dkc (ju M)]):=λe'=>zm6 (by simp);rw[show startM 6 [D.loc n,iC s row,.int m]=[some (.loc n),some (iC s row),some (.int m),none,none,none] from rfl];have dk:∀env:bA,Wq env st=.ok (.loc st.length) (st++[.dkc []]):=λenv=>rfl;change cO C B [some (.loc n),some (iC s row),some (.int m),some (.loc st.length),some (.int 0),none] (st++[.dkc []])=_ at h1;generalize (Wq:ME)=DK at *;generalize (st++[.dkc []]:aq)=Z1 at *;generalize (st++[.dkc (ju M)]:aq)=Z2 at *;generalize iC s row=X at *;rcases h2 with rfl | ⟨rfl,rfl⟩
 ·simp[dk,h1,Py]
 ·simp[dk,h1,Py]
theorem Fq {f:Nat}{ks:List TK}{signs:List Nat}{top k s:Nat}{row:List Nat}(Wn:95∉signs)(O:Ob signs top k s row)(st:aq):Ol [.int top,(toT f ks (qj s k row)).d] st=.ok (iC s row) st:=by
 have Tt:95∉row:=λh=>Wn (O.row 95 h);have o4:=O.rl;have hs:=O.s;have e0:(toT f ks (qj s k row)).d=fQ (s:Int) (List.replicate k 95) ((row++if k=0 then [] else [95]).headD 95) (row++if k=0 then [] else [95]).tail:=rfl;rw[e0,zT _ _ _ _ _ st (by simp;split<;>simp<;>omega)];unfold zU;have e:cF 95 ((row++if k=0 then [] else [95]).headD 95::(row++if k=0 then [] else [95]).tail)=row:=by
  cases row with
  | nil =>
   split
   ·rfl
   ·rfl
  | cons c t =>
   show cF 95 (c::(t++if k=0 then [] else [95]))=c::t
   split
   ·rw[gZ,zjj _ _ Tt]
   ·rw[show c::(t++[95])=(c::t)++[95] from rfl,zj6,zjj _ _ Tt]
 rw[e,if_neg (by
  rintro (z | z)
  ·omega
  ·exact Tt z)]
 rfl
theorem Bv {top:Nat}(x:Tp)(h:(top:Int)<x.s)(hr:x.r.length<=100000)(st:aq):Ol [.int top,x.d] st=.ok .non st:=by
 have:=zT (top:Nat) x.s x.l x.c x.r st hr;change Ol [.int top,x.d] st=_ at this;rw[this];unfold zU;rw[if_pos (.inl h)]
theorem Br {RL:List Rl}{signs:List Nat}{f:Nat}{ks:List TK}{top:Nat}(Wn:95∉signs){k m s:Nat}{row:List Nat}{F:List Tp}{M:List (Nat×Nat×List Nat)}{e:Nat}(h:Wk RL signs f ks top k 0 m s row F M e)(hm:m<=1500)(hF:∀x∈F,x.r.length<=100000)(a b:Nat)(st:aq)(ha:st[a]? = some (.lst (F.map Tp.d)))(hb:st[b]? = some (.dkc (ju M))) :
  Oa [.loc a,.loc b,.int top,.int k] st=.ok (.bl true) st:=by
 obtain⟨l1,l2,l3,l4,l5⟩:=h.len;have Eo:=h.at';have ia:az st a=some (F.map Tp.d):=by unfold az;rw[ha]
 unfold Oa iU dF Xh;generalize hB:(aK (aQ 5 (aF Ol [] _)) _:MS)=BI;obtain⟨di,st',h1,a4,a5,rfl,rfl⟩:=yW (g:=aP 4) (b:=BI) (gs:=[]) (items:=je 0 F.length)
  (λi env s1=>∃a4 a5:Option D,env=[some (.loc a),some (.loc b),some (.int top),some (.int ((k+(M.filter λq=>decide (q.1<i)).length:Nat):Int)),a4,a5]/\s1=st)
  (env:=[some (.loc a),some (.loc b),some (.int top),some (.int k),none,none]) (st:=st) ⟨none,none,by
   have:(M.filter λq=>decide (q.1<0))=[]:=by rw[qi];intro x _;simp
   rw[this];rfl,rfl⟩ (by
   rintro i d env s1 hi ⟨a4,a5,rfl,rfl⟩;obtain⟨hp,rfl⟩:=N7 hi;have ei:(0:Int)+(i:Int)=(i:Int):=by omega
   rw[ei];have ix:∀x,F[i]? = some x->bh (.loc a) (.int i) s1=.ok x.d s1:=λx hx=>by
    refine xR s1 a _ _ _ ia ?_;rw[Ey,gF,hx];rfl
   have kk:keyOf (.int (i:Int))=some (.inl (i:Int)):=rfl;rcases Eo i hp with⟨j,p,p1,p2,p3,p4⟩ | ⟨p1,c,p2,p3⟩
   ·rw[Nat.zero_add]at p2;obtain⟨c1,c2⟩:=Ur l5 p1;rw[p2]at c1 c2;have hv:=Fi l5 p1;rw[p2]at hv;have ik:yl false (.int (i:Int)) (.loc b) s1=.ok (.bl true) s1:=by
     unfold yl;simp only[hb,kk,hv];rfl
    have ia2:VJ (.loc b) (.int (i:Int)) s1=.ok (iC p.2.1 p.2.2) s1:=by
     unfold VJ;simp only[hb,kk,hv]
    have ix1:=ix _ p3;have td:=Fq (f:=f) (ks:=ks) Wn p4 s1;have im:=zl1 f ks p.2.1 (k+j) p.2.2 s1 (by have:=p4.rl;omega) (by have:=p4.k;omega);change Xl [iC p.2.1 p.2.2,_] _=.ok ((toT f ks (qj p.2.1 (k+j) p.2.2)).d) _ at im;have ne1:∀S,yg 200 ((toT f ks (qj p.2.1 (k+j) p.2.2)).d) ((toT f ks (qj p.2.1 (k+j) p.2.2)).d) S=.ok (.bl false) S:=λS=>zk5 S 200 _ (by simp[Tp.d]) (by simp[Tp.d]);have ne2:∀S,yg 200 (iC p.2.1 p.2.2) (iC p.2.1 p.2.2) S=.ok (.bl false) S:=λS=>zk5 S 200 _ (by simp[iC]) (by simp[iC]);have ek:((k+j:Nat):Int)+1=((k+(j+1):Nat):Int):=by omega
    rw[c1];refine⟨by simp,[some (.loc a),some (.loc b),some (.int top),some (.int ((k+j:Nat):Int)),some (.int i),a5],s1,by simp,[some (.loc a),some (.loc b),some (.int top),some (.int ((k+(j+1):Nat):Int)),some (.int i),some (iC p.2.1 p.2.2)],s1,.inl ?_,some (.int i),some (iC p.2.1 p.2.2),by rw[c2],rfl⟩;rw[<-hB];generalize (toT f ks (qj p.2.1 (k+j) p.2.2)).d=X1 at *;generalize iC p.2.1 p.2.2=X2 at *;generalize ((k+(j+1):Nat):Int)=K1 at *;generalize ((k+j:Nat):Int)=K0 at *;generalize (i:Int)=II at *;generalize (top:Int)=TP at *;simp[ix1,td,ik,ia2,im,ne1,ne2,ek]
   ·have qY:∀q∈M,q.1≠i:=λq hq=>by have:=p1 q hq;omega
    have cn:=Uq qY;have hv:=Fj qY;have ik:yl false (.int (i:Int)) (.loc b) s1=.ok (.bl false) s1:=by
     unfold yl;simp only[hb,kk,hv];rfl
    have ix1:=ix _ p2;have td:=Bv c p3 (hF c (gY p2)) s1;have it:∀S,HQ "tuple" c.d S=.ok (.bl true) S:=λS=>rfl;have i0:∀S,bh c.d (.int 0) S=.ok (.int c.s) S:=λS=>rfl;have hle:¬ c.s<=(top:Int):=by omega
    have nn:∀S,lH .non .non S=.ok (.bl false) S:=λS=>rfl;have tv:∀s:aq,vX (.bl true) s=some true:=λ_=>rfl;generalize hKC:((k+(M.filter λq=>decide (q.1<i)).length:Nat):Int)=KC;refine⟨by simp,[some (.loc a),some (.loc b),some (.int top),some (.int KC),some (.int i),a5],s1,by simp,[some (.loc a),some (.loc b),some (.int top),some (.int KC),some (.int i),some .non],s1,.inl ?_,some (.int i),some .non,by rw[cn,hKC],rfl⟩;rw[<-hB];generalize c.d=X1 at *;generalize c.s=CS at *;generalize (i:Int)=II at *;generalize (top:Int)=TP at *;simp[ix1,td,ik,it,i0,hle,nn,tv]) (λ_ _ _=>by simp)
 have lW:bY [.loc a] st'=.ok (.int F.length) st':=by
  have:=N5 ia;rwa[gf]at this
 have hFl:F.length<=2000:=by omega
 have up:∀env:bA,env[0]? = some (some (.loc a))->cM (aj (bF bY (aj (vr 0) au)) au) env st'=.ok (je 0 F.length,[]) st':=λenv he=>by
  simp[he,lW];omega
 have up':=up [some (.loc a),some (.loc b),some (.int top),some (.int k),none,none] rfl;have gg:gc st' (.ok (.bl true) st')=.ok (.bl true) st':=by simpa using Qo (st:=st') (g:=[]) (d:=.bl true) (by simp)
 rw[show startM 6 [D.loc a,.loc b,.int top,.int k]=[some (.loc a),some (.loc b),some (.int top),some (.int k),none,none] from rfl];generalize cM (aj (bF bY _) au)=R1 at *;generalize je 0 F.length=UP at *;simp[up',h1,gg]
end Law
set_option maxHeartbeats 0
namespace Law
open L2 M TK TS
theorem zko {α β:Type}(f:α->List β)(n:Nat)(h:∀a,(f a).length=n):∀l:List α,((l.map f).flatten).length=n*l.length
 | []=>by simp
 | a::l=>by
  rw[gB,List.flatten_cons,gC,h,zko f n h l,g8,Nat.mul_succ,Nat.add_comm]
theorem Js (RL:List Rl)(signs:List Nat):(Jt RL signs).length=RL.length+signs.length*(iV RL).length+(Em (iV RL)).length+(signs.length+1)*(El (iV RL)).length:=by
 unfold Jt dY cI;rw[gC,gC,gC,gf,gf,zko _ signs.length (λp=>by simp),zko _ (signs.length+1) (λp=>by simp)]
theorem My (f:Nat)(ks:List TK)(s k:Nat)(row:List Nat):Tg (s:Int) row k=(toT f ks (qj s k row)).d:=by
 cases row with
 | nil=>cases k<;>rfl
 | cons c t=>cases k<;>rfl
theorem Mf {RL:List Rl}{more:List Nat}{top s:Nat}{row:List Nat}(C:Cs RL more top s row)(n:Nat)(st:aq)(lM:M.wf st)(hn:st[n]? = some (.lst (RL.map aB))) :
  ∃(ALL:List TQ),Ej RL more (vU RL) ALL/\ALL.length<=5000/\QB [.loc n,.str more,.int top] st=.ok (.loc st.length) (st++[.lst ((ALL.map (uX (top+1) (vU RL))).map dO.d)]):=by
 have Ua:∀x∈cC,x<128/\x≠95:=by decide
 have hl:=C.g.len;have hw:∀r∈RL,r.w.length<=90:=λr hr=>by have:=(C.g.at_ r hr).2.2.2.1;omega
 have Ph:∀p∈iV RL,p.1.length<=8:=λp hp=>by
  obtain⟨r,hr,rfl⟩:=(z8 RL).1 p hp;exact (C.g.at_ r hr).2.2.2.1
 have hml:=C.len;obtain⟨ks,ALL,⟨rfl,rfl⟩,A,hAl,_,fM⟩:=zj4 RL more top n st lM hn (by omega) hw (λc hc=>(Ua c (C.abc c hc)).1) (by omega);have hlen:(Jt RL more).length<=5000:=by
  rw[Js];have h1:=(z8 RL).2.1;have h2:=(Ss 8 (iV RL) Ph).2.1;have h3:=(QW (iV RL)).1;have a1:more.length*(iV RL).length<=26*20:=pA hml (by omega);have a2:(more.length+1)*(El (iV RL)).length<=27*20:=pA (by omega) (by omega);omega
 refine⟨_,A,hlen,?_⟩;rw[fM,gW];rfl
theorem Ak (ns:List Int){RL:List Rl}{more:List Nat}{top s:Nat}{row:List Nat}(C:Cs RL more top s row)(n:Nat)(st:aq)(lM:M.wf st)(hnc:dZ st)(h0:st[0]? = some (.frz (ns.map D.int)))(h1:st[1]? = some (.tab "tape_run"))(hn:st[n]? = some (.lst (RL.map aB)))(RS:MS)
  (hb:(aK (aQ 5 (aL bh (dJ (aj (ct (.int 0)) (aj (ct (.int 1)) (aj (aL bD (aL bI (aF tY [] (aj (vr 0) (aj (ct (.int 6)) au))) (ct (.int 3))) (ct (.int 21))) au)))) (aL bD (aF tY [] (aj (vr 0) (aj (ct (.int 6)) au))) (ct (.int 3)))))
  (aK (aQ 6 (aF QB [] (aj (vr 1) (aj (vr 3) (aj (vr 2) au)))))
  (aK (aQ 7 (aL bD (aF tY [] (aj (vr 0) (aj (ct (.int 7)) au))) (ct (.int 251))))
  (aK (qF (jl (aL (vG 200) (aL bD (aL bI (aF tY [] (aj (vr 0) (aj (ct (.int 7)) au))) (ct (.int 251))) (ct (.int 16))) (ct (.int 1)))) (aQ 7 (ct (.int 1500))) cL)
  (aK (qF (jl (aL (vG 200) (aL bD (vr 7) (ct (.int 8))) (ct (.int 1)))) (aK (aQ 7 (ct (.int 100)))
  (aQ 8 (aF Fb [.int 100] (aj (vr 6) (aj (aF JQ [] (aj (vr 4) (aj (vr 5) au))) au))))) (aQ 8 (aF Fb [] (aj (vr 6) (aj (aF JQ [] (aj (vr 4) (aj (vr 5) au))) (aj (vr 7) au))))))
  (aK (lU (aF Od [] (aj (vr 1) (aj (vr 4) (aj (vr 7) au)))) (uG 2 (cH (aP 9) (cH (aP 10) vf))))
  (aK (qF (JZ (Cy (Vw (ye (HQ "list") (vr 8)))) (jl (aL (yg 200) (bF bY (aj (vr 8) au)) (aL bj (vr 10) (ct (.int 1)))))) (retS (ct (.bl false))) cL)
  (retS (aF Oa [] (aj (vr 8) (aj (vr 9) (aj (vr 2) (aj (vr 5) au)))))))))))):MS)=RS) :
  ∃st',RS [some (.loc 0),some (.loc n),some (.int top),some (.str more),some (iC s row),none,none,none,none,none,none] st=.ok (.rt (.bl true)) (st++st'):=by
 have Ua:∀x∈cC,x<128/\x≠95:=by decide
 have Wn:95∉more:=λh=>(Ua 95 (C.abc 95 h)).2 rfl;have o4:=C.rl;have i0:∀g,az (st++g) 0=some (ns.map D.int):=λg=>by unfold az;rw[rO h0]
 have c6:=zN ns 0 6 st (by simpa using i0 []) (by omega);rw[show ((6:Nat):Int)=6 from rfl]at c6;generalize hT3:MO.lst [.int 0,.int 1,.int (bx ns 6 / 3 % 21)]=T3;have uT3:∀n,aJ n T3:=λn=>by rw[<-hT3];show bu _ _;simp
 generalize M9:st++[T3]=S1;have wf1:M.wf S1:=by rw[<-M9];exact WQ lM λo ho=>by rw[gG.mp ho];exact uT3 _
 have nc1:dZ S1:=by rw[<-M9,<-hT3];simp[hnc]
 have n1:S1[n]? = some (.lst (RL.map aB)):=by rw[<-M9];exact rO hn
 have t1:S1[1]? = some (.tab "tape_run"):=by rw[<-M9];exact rO h1
 have c6':=zN ns 0 6 S1 (by rw[<-M9];exact i0 _) (by omega);rw[show ((6:Nat):Int)=6 from rfl]at c6';have m3:∀s1,bD (.int (bx ns 6)) (.int 3) s1=.ok (.int (bx ns 6 % 3)) s1:=λs1=>sO s1 _ _ (by omega);have f3:∀s1,bI (.int (bx ns 6)) (.int 3) s1=.ok (.int (bx ns 6 / 3)) s1:=λs1=>wF s1 _ _ (by omega);have abI:∀s1,bD (.int (bx ns 6 / 3)) (.int 21) s1=.ok (.int (bx ns 6 / 3 % 21)) s1:=λs1=>sO s1 _ _ (by omega);obtain⟨k,hk,ixk⟩:∃k:Nat,k<=21/\bh (.loc st.length) (.int (bx ns 6 % 3)) S1=.ok (.int k) S1:=by
  have i3:az S1 st.length=some [.int 0,.int 1,.int (bx ns 6 / 3 % 21)]:=by unfold az;rw[<-M9,<-hT3];simp
  rcases (show bx ns 6 % 3=0\/bx ns 6 % 3=1\/bx ns 6 % 3=2 by omega) with e | e | e
  ·exact⟨0,by omega,by rw[e];exact xR _ _ _ _ _ i3 rfl⟩
  ·exact⟨1,by omega,by rw[e];exact xR _ _ _ _ _ i3 rfl⟩
  ·obtain⟨j,hj⟩:=kh (show 0<=bx ns 6 / 3 % 21 by omega);exact⟨j,by omega,by rw[e,<-hj];exact xR _ _ _ _ _ i3 rfl⟩
 have e3:dJ (aj (ct (.int 0)) (aj (ct (.int 1)) (aj (aL bD (aL bI (aF tY [] (aj (vr 0) (aj (ct (.int 6)) au))) (ct (.int 3))) (ct (.int 21))) au))) [some (.loc 0),some (.loc n),some (.int top),some (.str more),some (iC s row),none,none,none,none,none,none] st=.ok (.loc st.length) S1:=by
  rw[<-M9,<-hT3];simp[c6,f3,abI]
 generalize bx ns 6 / 3 % 21=x1 at *;generalize bx ns 6 / 3=x2 at *;generalize bx ns 6 % 3=x3 at *;generalize bx ns 6=x4 at *;obtain⟨ALL,A,hAl,fM⟩:=Mf C n S1 wf1 n1;generalize Wf:S1++[MO.lst ((ALL.map (uX (top+1) (vU RL))).map dO.d)]=S2 at *;have nc2:dZ S2:=by rw[<-Wf];simp[nc1]
 have n2:S2[n]? = some (.lst (RL.map aB)):=by rw[<-Wf];exact rO n1
 have t2:S2[1]? = some (.tab "tape_run"):=by rw[<-Wf];exact rO t1
 have g2:S2[S1.length]? = some (.lst ((ALL.map (uX (top+1) (vU RL))).map dO.d)):=by rw[<-Wf];simp
 have c7:=zN ns 0 7 S2 (by rw[<-Wf,<-M9,gO];exact i0 _) (by omega);rw[show ((7:Nat):Int)=7 from rfl]at c7;generalize bx ns 7=e7 at *;have Nj:∀s1,bI (.int e7) (.int 251) s1=.ok (.int (e7 / 251)) s1:=λs1=>wF s1 _ _ (by omega);have m16:∀s1,bD (.int (e7 / 251)) (.int 16) s1=.ok (.int (e7 / 251 % 16)) s1:=λs1=>sO s1 _ _ (by omega);obtain⟨mo0,ab7⟩:=kh (show 0<=e7 % 251 by omega);have Mg:∀s1,bD (.int e7) (.int 251) s1=.ok (.int mo0) s1:=λs1=>by rw[sO s1 _ _ (by omega),ab7]
 have im:∀S,JQ [iC s row,.int k] S=.ok ((toT (top+1) (vU RL) (qj s k row)).d) S:=λS=>by
  have:=Ia (s:Int) row k S (by omega) (by omega);rw[My (top+1) (vU RL)]at this;exact this

 have go:∀most:Nat,most<=1500->∃(F:List Tp) (M:List (Nat×Nat×List Nat)) (e:Nat),F.length=e+1 /\
   Fb [.loc S1.length,(toT (top+1) (vU RL) (qj s k row)).d,.int most] S2=.ok (.loc S2.length) (S2++[.lst (F.map Tp.d)]) /\
   Od [.loc n,iC s row,.int most] (S2++[.lst (F.map Tp.d)])=.ok (.tup [.loc (S2.length+1),.int e]) (S2++[.lst (F.map Tp.d)]++[.dkc (ju M)]) /\
   Oa [.loc S2.length,.loc (S2.length+1),.int top,.int k] (S2++[.lst (F.map Tp.d)]++[.dkc (ju M)])=.ok (.bl true) (S2++[.lst (F.map Tp.d)]++[.dkc (ju M)]) /\
   bY [.loc S2.length] (S2++[.lst (F.map Tp.d)]++[.dkc (ju M)])=.ok (.int ((e+1:Nat):Int)) (S2++[.lst (F.map Tp.d)]++[.dkc (ju M)]) /\
   HQ "list" (.loc S2.length) (S2++[.lst (F.map Tp.d)]++[.dkc (ju M)])=.ok (.bl true) (S2++[.lst (F.map Tp.d)]++[.dkc (ju M)]):=by
  intro most Pn;obtain⟨M,e,hw⟩:=Ra A Wn C.g most k 0 s row (by omega) (by omega) (by omega) C.hs C.zA;have sm:Small 0 (toT (top+1) (vU RL) (qj s k row)):=by
   refine⟨?_,?_⟩
   ·show (List.replicate k 95).length<=_;simp;omega
   ·show (row++if k=0 then [] else [95]).tail.length<=_;simp;split<;>simp<;>omega
  have tr:=zl6 (ALL.map (uX (top+1) (vU RL))) S1.length (toT (top+1) (vU RL) (qj s k row)) most 0 S2 g2 (by rw[gf];exact hAl) sm (by omega) (by omega) nc2 t2;have rsm:∀x∈fc (vR (ALL.map (uX (top+1) (vU RL)))) most (toT (top+1) (vU RL) (qj s k row)),x.r.length<=100000:=λx hx=>by
   obtain⟨i,hi⟩:=qb hx;have:=(zkv most 0 _ sm i x hi).2;have TX:=(gj.mp hi).1;have:=(znt (vR (ALL.map (uX (top+1) (vU RL)))) most (toT (top+1) (vU RL) (qj s k row))).2;omega
  generalize fc (vR (ALL.map (uX (top+1) (vU RL)))) most (toT (top+1) (vU RL) (qj s k row))=F at *;obtain⟨l1,l2,l3,_,_⟩:=hw.len;generalize Er:S2++[MO.lst (F.map Tp.d)]=S3 at *;have l3':S3.length=S2.length+1:=by rw[<-Er];simp
  have n3:S3[n]? = some (.lst (RL.map aB)):=by rw[<-Er];exact rO n2
  have f3:S3[S2.length]? = some (.lst (F.map Tp.d)):=by rw[<-Er];simp
  have dm:=zkf C.g hw rfl Pn n S3 n3;rw[l3']at dm;generalize Kc:S3++[MO.dkc (ju M)]=S4 at *;have f4:S4[S2.length]? = some (.lst (F.map Tp.d)):=by rw[<-Kc];exact rO f3
  have k4:S4[S2.length+1]? = some (.dkc (ju M)):=by rw[<-Kc,<-l3'];simp
  refine⟨F,M,e,by omega,by rw[Er];exact tr,by rw[Er,Kc];exact dm,?_,?_,?_⟩
  ·rw[Er,Kc];exact Br Wn hw Pn rsm S2.length (S2.length+1) S4 f4 k4
  ·rw[Er,Kc];have:=N5 (st:=S4) (n:=S2.length) (ds:=F.map Tp.d) (by unfold az;rw[f4]);rw[gf,show F.length=e+1 by omega]at this;exact this
  ·rw[Er,Kc];simp[HQ,QQ,f4,u9]
 have hx:∀g,∃y,S2++g=st++y:=λg=>⟨[T3,MO.lst ((ALL.map (uX (top+1) (vU RL))).map dO.d)]++g,by rw[<-Wf,<-M9];simp⟩;have tv:∀s:aq,vX (.bl true) s=some true:=λ_=>rfl;rw[<-hb];clear hb;generalize Ue:dJ (aj (ct (.int 0)) _)=E3 at *

 have fin:∀(most:Nat),most<=1500->∃(F:List Tp) (M:List (Nat×Nat×List Nat)) (e:Nat) (y:aq),S2++[.lst (F.map Tp.d)]++[.dkc (ju M)]=st++y /\
   Fb [.loc S1.length,(toT (top+1) (vU RL) (qj s k row)).d,.int most] S2=.ok (.loc S2.length) (S2++[.lst (F.map Tp.d)]) /\
   Od [.loc n,iC s row,.int most] (S2++[.lst (F.map Tp.d)])=.ok (.tup [.loc (S2.length+1),.int e]) (S2++[.lst (F.map Tp.d)]++[.dkc (ju M)]) /\
   Oa [.loc S2.length,.loc (S2.length+1),.int top,.int k] (S2++[.lst (F.map Tp.d)]++[.dkc (ju M)])=.ok (.bl true) (S2++[.lst (F.map Tp.d)]++[.dkc (ju M)]) /\
   bY [.loc S2.length] (S2++[.lst (F.map Tp.d)]++[.dkc (ju M)])=.ok (.int ((e+1:Nat):Int)) (S2++[.lst (F.map Tp.d)]++[.dkc (ju M)]) /\
   HQ "list" (.loc S2.length) (S2++[.lst (F.map Tp.d)]++[.dkc (ju M)])=.ok (.bl true) (S2++[.lst (F.map Tp.d)]++[.dkc (ju M)]):=λmost hm=>by
  obtain⟨F,M,e,_,q1,q2,q3,q4,q5⟩:=go most hm;obtain⟨y,hy⟩:=hx ([.lst (F.map Tp.d)]++[.dkc (ju M)]);exact⟨F,M,e,y,by rw[gO];exact hy,q1,q2,q3,q4,q5⟩
 clear go hx;have key:∀(Ma:Nat),Ma<=1500->∀(g1:(if e7 / 251 % 16=1 then (1500:Int) else (mo0:Nat))=(Ma:Nat)),∃st',(aK (aQ 5 (aL bh E3 (aL bD (aF tY [] (aj (vr 0) (aj (ct (.int 6)) au))) (ct (.int 3)))))
  (aK (aQ 6 (aF QB [] (aj (vr 1) (aj (vr 3) (aj (vr 2) au)))))
  (aK (aQ 7 (aL bD (aF tY [] (aj (vr 0) (aj (ct (.int 7)) au))) (ct (.int 251))))
  (aK (qF (jl (aL (vG 200) (aL bD (aL bI (aF tY [] (aj (vr 0) (aj (ct (.int 7)) au))) (ct (.int 251))) (ct (.int 16))) (ct (.int 1)))) (aQ 7 (ct (.int 1500))) cL)
  (aK (qF (jl (aL (vG 200) (aL bD (vr 7) (ct (.int 8))) (ct (.int 1)))) (aK (aQ 7 (ct (.int 100)))
  (aQ 8 (aF Fb [.int 100] (aj (vr 6) (aj (aF JQ [] (aj (vr 4) (aj (vr 5) au))) au))))) (aQ 8 (aF Fb [] (aj (vr 6) (aj (aF JQ [] (aj (vr 4) (aj (vr 5) au))) (aj (vr 7) au))))))
  (aK (lU (aF Od [] (aj (vr 1) (aj (vr 4) (aj (vr 7) au)))) (uG 2 (cH (aP 9) (cH (aP 10) vf))))
  (aK (qF (JZ (Cy (Vw (ye (HQ "list") (vr 8)))) (jl (aL (yg 200) (bF bY (aj (vr 8) au)) (aL bj (vr 10) (ct (.int 1)))))) (retS (ct (.bl false))) cL)
  (retS (aF Oa [] (aj (vr 8) (aj (vr 9) (aj (vr 2) (aj (vr 5) au)))))))))))):MS) [some (.loc 0),some (.loc n),some (.int top),some (.str more),some (iC s row),none,none,none,none,none,none] st=.ok (.rt (.bl true)) (st++st'):=by
  intro Ma hm1 g1;have m8:∀s1,bD (.int Ma) (.int 8) s1=.ok (.int ((Ma:Int) % 8)) s1:=λs1=>sO s1 _ _ (by omega);by_cases h8:(Ma:Int) % 8=1
  ·obtain⟨F,M,e,y,hy,q1,q2,q3,q4,q5⟩:=fin 100 (by omega);refine⟨y,?_⟩;rw[<-hy];rw[show ((100:Nat):Int)=100 from rfl]at q1 q2;have ee:(e:Int)+1=((e+1:Nat):Int):=by omega
   generalize (toT (top+1) (vU RL) (qj s k row)).d=IM at *;generalize iC s row=SD at *;generalize Kc:(S2++[.lst (F.map Tp.d)]++[.dkc (ju M)]:aq)=S4 at *;generalize Er:(S2++[.lst (F.map Tp.d)]:aq)=S3 at *;clear Kc Er hy fin;generalize (S2.length+1)=p9 at *;generalize S2.length=p8 at *;generalize S1.length=p6 at *;generalize st.length=p5 at *;generalize ((e+1:Nat):Int)=E1 at *;generalize (k:Int)=KK at *;generalize (top:Int)=TP at *;by_cases Es:e7 / 251 % 16=1
   ·rw[if_pos Es]at g1;generalize e7 / 251 % 16=y1 at *;generalize e7 / 251=y2 at *;simp[e3,c6',m3,ixk,fM,c7,Mg,Nj,m16,Es,g1,m8,h8,im,q1,q2,q5,q4,ee,q3,tv]
   ·rw[if_neg Es]at g1;generalize e7 / 251 % 16=y1 at *;generalize e7 / 251=y2 at *;simp[e3,c6',m3,ixk,fM,c7,Mg,Nj,m16,Es,g1,m8,h8,im,q1,q2,q5,q4,ee,q3,tv]
  ·obtain⟨F,M,e,y,hy,q1,q2,q3,q4,q5⟩:=fin Ma hm1;refine⟨y,?_⟩;rw[<-hy];have ee:(e:Int)+1=((e+1:Nat):Int):=by omega
   generalize (toT (top+1) (vU RL) (qj s k row)).d=IM at *;generalize iC s row=SD at *;generalize Kc:(S2++[.lst (F.map Tp.d)]++[.dkc (ju M)]:aq)=S4 at *;generalize Er:(S2++[.lst (F.map Tp.d)]:aq)=S3 at *;clear Kc Er hy fin;generalize (S2.length+1)=p9 at *;generalize S2.length=p8 at *;generalize S1.length=p6 at *;generalize st.length=p5 at *;generalize ((e+1:Nat):Int)=E1 at *;generalize (k:Int)=KK at *;generalize (top:Int)=TP at *;by_cases Es:e7 / 251 % 16=1
   ·rw[if_pos Es]at g1;generalize e7 / 251 % 16=y1 at *;generalize e7 / 251=y2 at *;simp[e3,c6',m3,ixk,fM,c7,Mg,Nj,m16,Es,g1,m8,h8,im,q1,q2,q5,q4,ee,q3,tv]
   ·rw[if_neg Es]at g1;generalize e7 / 251 % 16=y1 at *;generalize e7 / 251=y2 at *;simp[e3,c6',m3,ixk,fM,c7,Mg,Nj,m16,Es,g1,m8,h8,im,q1,q2,q5,q4,ee,q3,tv]
 by_cases Es:e7 / 251 % 16=1
 ·exact key 1500 (by omega) (by rw[if_pos Es];rfl)
 ·exact key mo0 (by omega) (by rw[if_neg Es])
theorem law_true (ns:List Int)(A_:ns.length<=63):∃st,zjc [.loc 0] (.frz (ns.map D.int)::tabs.map λp=>.tab p.1)=.ok (.bl true) st:=by
 have htb:(tabs.map λp=>MO.tab p.1)=[MO.tab "tape_run"]:=rfl;rw[htb];have U0:∀n,aJ n (.frz (ns.map D.int)):=λn=>by
  show bu _ _;rw[JH];intro d hd;obtain⟨c,_,rfl⟩:=gb.mp hd;simp
 generalize Uc:([.frz (ns.map D.int),.tab "tape_run"]:aq)=Z0;have z0:Z0[0]? = some (.frz (ns.map D.int)):=by rw[<-Uc];rfl
 have z1:Z0[1]? = some (.tab "tape_run"):=by rw[<-Uc];rfl
 have zl:Z0.length=2:=by rw[<-Uc];rfl
 have wf0:M.wf Z0:=by
  rw[<-Uc];intro o ho;simp only[gk,mz,or_false]at ho;rcases ho with rfl | rfl
  ·exact U0 _
  ·exact trivial
 have nc0:dZ Z0:=by rw[<-Uc];simp[MO.dH]
 obtain⟨RL,more,top,s,row,O1,O3,C,U1,U3,⟨d1,Wh⟩,⟨d3,Wg⟩,fD⟩:=ziw ns Z0 z0;rw[zl]at fD;have nc4:dZ (Z0++[O1,.lst (RL.map aB),O3]):=by rw[Wh,Wg];simp[nc0,MO.dH]
 generalize Wd:Z0++[O1,.lst (RL.map aB),O3]=Z4 at *;have wf4:M.wf Z4:=by
  rw[<-Wd];refine WQ wf0 λo ho=>?_;simp only[gk,mz,or_false]at ho;rcases ho with rfl | rfl | rfl
  ·exact U1 _
  ·exact ze6 _ _
  ·exact U3 _
 have h0:Z4[0]? = some (.frz (ns.map D.int)):=by rw[<-Wd];exact rO z0
 have h1:Z4[1]? = some (.tab "tape_run"):=by rw[<-Wd];exact rO z1
 have h3:Z4[3]? = some (.lst (RL.map aB)):=by rw[<-Wd,<-Uc];rfl
 have l4:Z4.length=5:=by rw[<-Wd,<-Uc];rfl
 have i0:az Z4 0=some (ns.map D.int):=by unfold az;rw[h0]
 have c28:=zN ns 0 28 Z4 i0 (by omega);have c29:=zN ns 0 29 Z4 i0 (by omega);rw[show ((28:Nat):Int)=28 from rfl]at c28;rw[show ((29:Nat):Int)=29 from rfl]at c29;have m2:∀s1,bD (.int (bx ns 28)) (.int 2) s1=.ok (.int (bx ns 28 % 2)) s1:=λs1=>sO s1 _ _ (by omega);have v9:∀x,∃y,Z4++x=Z0++y:=λx=>⟨[O1,.lst (RL.map aB),O3]++x,by rw[<-Wd];simp⟩;unfold zjc iU dF zla;rw[show startM 11 [D.loc 0]=[some (.loc 0),none,none,none,none,none,none,none,none,none,none] from rfl];generalize hb:(aK (aQ 5 (aL bh (dJ _) _)) _:MS)=RS;refine⟨Z0,?_⟩;by_cases hc:bx ns 28 % 2=1
 ·obtain⟨Kd,Zo,Ye,s',Yy,c,g,C',ug,gl,fF⟩:=zkr Z4 wf4 (bx ns 29);rw[l4]at fF;have ncF:dZ (SQ Z4 c Kd g):=by
   unfold SQ;have:dZ g:=λo ho=>by obtain⟨ds,rfl⟩:=gl o ho;rfl
   simp[nc4,this,MO.dH]
  obtain⟨x,hm⟩:=Ak ns C' 6 (SQ Z4 c Kd g) (SQ.wf wf4 ug) ncF (by unfold SQ;exact rO h0) (by unfold SQ;exact rO h1) (by have:(SQ Z4 c Kd g)[Z4.length+1]? = _:=SQ.rules;rwa[l4]at this) RS hb;obtain⟨y,hy⟩:∃y,SQ Z4 c Kd g++x=Z0++y:=by
   unfold SQ;rw[gO];exact v9 _
  have hg:gc Z0 (.ok (.bl true) (SQ Z4 c Kd g++x))=.ok (.bl true) Z0:=by
   rw[hy];exact Qo (by simp)
  clear hb hy;change Xv _ _=R.ok (.tup [.loc 6,.int Ye,.str Zo,iC s' Yy]) _ at fF;change Vi _ _=R.ok (.tup [.loc 3,.int top,.str more,iC s row]) _ at fD;generalize SQ Z4 c Kd g++x=ZX at *;generalize SQ Z4 c Kd g=ZF at *;generalize iC s' Yy=TT' at *;generalize iC s row=TT at *;generalize (top:Int)=TP at *;generalize (Ye:Int)=TP' at *;generalize bx ns 29=e29 at *;generalize bx ns 28 % 2=acr at *;generalize bx ns 28=e28 at *;simp[fD,c28,m2,hc,c29,fF,hm,hg]
 ·obtain⟨x,hm⟩:=Ak ns C 3 Z4 wf4 nc4 h0 h1 h3 RS hb;obtain⟨y,hy⟩:=v9 x;have hg:gc Z0 (.ok (.bl true) (Z4++x))=.ok (.bl true) Z0:=by
   rw[hy];exact Qo (by simp)
  clear hb hy;change Vi _ _=R.ok (.tup [.loc 3,.int top,.str more,iC s row]) _ at fD;generalize Z4++x=ZX at *;generalize iC s row=TT at *;generalize (top:Int)=TP at *;generalize bx ns 28 % 2=acr at *;generalize bx ns 28=e28 at *;simp[fD,c28,m2,hc,hm,hg]
end Law
open PySem PySem.W PyProof.Rows
noncomputable def PySem.W.Fast.tw5012833192240874572:Unit:=()
noncomputable def PySem.W.Fast.tw8499335449874314757:Unit:=()
noncomputable def PySem.W.Fast.tw8195451206065735786:Unit:=()
noncomputable def PySem.W.Fast.tw4245668191707057047:Unit:=()
noncomputable def PySem.W.Fast.tw1337085205998902159:Unit:=()
noncomputable def PySem.W.Fast.tw4143970572766313491:Unit:=()
noncomputable def PySem.W.Fast.tw5135063178317968229:Unit:=()
noncomputable def PySem.W.Fast.tw12938748343730767696:Unit:=()
noncomputable def PySem.W.Fast.tw13560420938655064029:Unit:=()
noncomputable def PySem.W.Fast.tw15505919340185994862:Unit:=()
noncomputable def PySem.W.Fast.tw12420732332613639412:Unit:=()
noncomputable def PySem.W.Fast.tw15890122573365015837:Unit:=()
noncomputable def PySem.W.Fast.tw156156455335381134:Unit:=()
noncomputable def PySem.W.Fast.tw5711062774295167705:Unit:=()
noncomputable def PySem.W.Fast.tw6390215397728554170:Unit:=()
noncomputable def PySem.W.Fast.tw2281295324705828679:Unit:=()
noncomputable def PySem.W.Fast.tw1040628843401916630:Unit:=()
noncomputable def PySem.W.Fast.tw12800509467165570599:Unit:=()
noncomputable def PySem.W.Fast.tw9948440922578728059:Unit:=()
noncomputable def PySem.W.Fast.tw6606563457521254709:Unit:=()
noncomputable def PySem.W.Fast.tw9765777525244674105:Unit:=()
noncomputable def PySem.W.Fast.tw14358694902779055296:Unit:=()
set_option maxRecDepth 100000 in
set_option maxHeartbeats 0 in
theorem PySem.Challenge.cw_oneofall_k48_whole_runs_on_tape_holds : PySem.Challenge.rw_oneofall_k48_whole_runs_on_tape.Holds := by
 w_on;o_law;k_head;(case hw=>w_witness2)
 k_fill
 refine M.holds_ofT Law.tabs (F:=Law.zjc) (k:=5) (x:="_law_script") rfl rfl ⟨rfl,by decide,by decide⟩ (by decide) (fun w h Y=>⟨PySem.W.km_in_of Y,PySem.W.km_tabs_of Y⟩) ?F Law.law_true
 case F =>
  intro w mg fa h KX G hmg
  refine' Law.all_mk KX G hmg ?cz_Numbers ?cp_Numbers ?ch_Numbers ?co_Numbers ?cs_Numbers ?ck_Numbers ?ce_Numbers ?cn_Numbers_first ?cn_Numbers_given ?a0 ?F0 ?a1 ?F1 ?a2 ?i2 ?F2 ?a3 ?i3 ?l3 ?c3 ?k3 ?a4 ?l4 ?c4 ?k4 ?h4 ?n4 ?ld4 ?a5 ?F5 ?a6 ?l6 ?c6 ?k6 ?ld6 ?a7 ?F7 ?a8 ?F8 ?a9 ?F9 ?a10 ?F10 ?a11 ?F11 ?a12 ?F12 ?a13 ?F13 ?a14 ?F14 ?a15 ?F15 ?a16 ?F16 ?a17 ?F17 ?a18 ?F18 ?a19 ?F19 ?a20 ?F20 ?a21 ?F21 ?a22 ?F22 ?a23 ?F23 ?a24 ?F24 ?a25 ?F25 ?a26 ?F26 ?a27 ?F27 ?a28 ?F28 ?a29 ?F29 ?a30 ?F30 ?a31 ?F31 ?a32 ?l32 ?c32 ?k32 ?v_BLANK ?z_int ?z_isinstance ?z_len ?z_list ?z_max ?z_min ?z_range ?z_set ?z_sorted ?z_sum ?z_tuple
  (case cz_Numbers=>first | k_is | kernel_rfl)
  (case cp_Numbers=>first | k_is | kernel_rfl)
  (case ch_Numbers=>first | k_is | kernel_rfl)
  (case co_Numbers=>first | k_is | kernel_rfl)
  (case cs_Numbers=>first | k_is | kernel_rfl)
  (case ck_Numbers=>first | k_is | kernel_rfl)
  (case ce_Numbers=>first | k_is | kernel_rfl)
  (case cn_Numbers_first=>first | k_is | kernel_rfl)
  (case cn_Numbers_given=>first | k_is | kernel_rfl)
  (case a0=>k_is)
  (case F0=>refine' L2.zcp ?l ?c ?k;(case l=>k_is);(case c=>k_is);(case k=>k_is))
  (case a1=>k_is)
  (case F1=>refine' L2.zcp ?l ?c ?k;(case l=>k_is);(case c=>k_is);(case k=>k_is))
  (case a2=>k_is)
  (case i2=>first | k_is | kernel_rfl)
  (case F2=>refine' L2.zcp ?l ?c ?k;(case l=>k_is);(case c=>k_is);(case k=>k_is))
  (case a3=>k_is)
  (case i3=>first | k_is | kernel_rfl)
  (case l3=>k_is)
  (case c3=>k_is)
  (case k3=>k_is)
  (case a4=>k_is)
  (case l4=>k_is)
  (case c4=>k_is)
  (case k4=>k_is)
  (case h4=>kernel_rfl)
  (case n4=>kernel_rfl)
  (case ld4=>k_is)
  (case a5=>k_is)
  (case F5=>refine' L2.zcp ?l ?c ?k;(case l=>k_is);(case c=>k_is);(case k=>k_is))
  (case a6=>k_is)
  (case l6=>k_is)
  (case c6=>k_is)
  (case k6=>k_is)
  (case ld6=>k_is)
  (case a7=>k_is)
  (case F7=>refine' L2.zcp ?l ?c ?k;(case l=>k_is);(case c=>k_is);(case k=>k_is))
  (case a8=>k_is)
  (case F8=>refine' L2.zcp ?l ?c ?k;(case l=>k_is);(case c=>k_is);(case k=>k_is))
  (case a9=>k_is)
  (case F9=>refine' L2.zcp ?l ?c ?k;(case l=>k_is);(case c=>k_is);(case k=>k_is))
  (case a10=>k_is)
  (case F10=>refine' L2.zcp ?l ?c ?k;(case l=>k_is);(case c=>k_is);(case k=>k_is))
  (case a11=>k_is)
  (case F11=>refine' L2.zcp ?l ?c ?k;(case l=>k_is);(case c=>k_is);(case k=>k_is))
  (case a12=>k_is)
  (case F12=>refine' L2.zcp ?l ?c ?k;(case l=>k_is);(case c=>k_is);(case k=>k_is))
  (case a13=>k_is)
  (case F13=>refine' L2.zcp ?l ?c ?k;(case l=>k_is);(case c=>k_is);(case k=>k_is))
  (case a14=>k_is)
  (case F14=>refine' L2.zcp ?l ?c ?k;(case l=>k_is);(case c=>k_is);(case k=>k_is))
  (case a15=>k_is)
  (case F15=>refine' L2.zcp ?l ?c ?k;(case l=>k_is);(case c=>k_is);(case k=>k_is))
  (case a16=>k_is)
  (case F16=>refine' L2.zcp ?l ?c ?k;(case l=>k_is);(case c=>k_is);(case k=>k_is))
  (case a17=>k_is)
  (case F17=>refine' L2.zcp ?l ?c ?k;(case l=>k_is);(case c=>k_is);(case k=>k_is))
  (case a18=>k_is)
  (case F18=>refine' L2.zcp ?l ?c ?k;(case l=>k_is);(case c=>k_is);(case k=>k_is))
  (case a19=>k_is)
  (case F19=>refine' L2.zcp ?l ?c ?k;(case l=>k_is);(case c=>k_is);(case k=>k_is))
  (case a20=>k_is)
  (case F20=>refine' L2.zcp ?l ?c ?k;(case l=>k_is);(case c=>k_is);(case k=>k_is))
  (case a21=>k_is)
  (case F21=>refine' L2.zcp ?l ?c ?k;(case l=>k_is);(case c=>k_is);(case k=>k_is))
  (case a22=>k_is)
  (case F22=>refine' L2.zcp ?l ?c ?k;(case l=>k_is);(case c=>k_is);(case k=>k_is))
  (case a23=>k_is)
  (case F23=>refine' L2.zcp ?l ?c ?k;(case l=>k_is);(case c=>k_is);(case k=>k_is))
  (case a24=>k_is)
  (case F24=>refine' L2.zcp ?l ?c ?k;(case l=>k_is);(case c=>k_is);(case k=>k_is))
  (case a25=>k_is)
  (case F25=>refine' L2.zcp ?l ?c ?k;(case l=>k_is);(case c=>k_is);(case k=>k_is))
  (case a26=>k_is)
  (case F26=>refine' L2.zcp ?l ?c ?k;(case l=>k_is);(case c=>k_is);(case k=>k_is))
  (case a27=>k_is)
  (case F27=>refine' L2.zcp ?l ?c ?k;(case l=>k_is);(case c=>k_is);(case k=>k_is))
  (case a28=>k_is)
  (case F28=>refine' L2.zcp ?l ?c ?k;(case l=>k_is);(case c=>k_is);(case k=>k_is))
  (case a29=>k_is)
  (case F29=>refine' L2.zcp ?l ?c ?k;(case l=>k_is);(case c=>k_is);(case k=>k_is))
  (case a30=>k_is)
  (case F30=>refine' L2.zcp ?l ?c ?k;(case l=>k_is);(case c=>k_is);(case k=>k_is))
  (case a31=>k_is)
  (case F31=>refine' L2.zcp ?l ?c ?k;(case l=>k_is);(case c=>k_is);(case k=>k_is))
  (case a32=>k_is)
  (case l32=>k_is)
  (case c32=>k_is)
  (case k32=>k_is)
  (case v_BLANK=>k_is)
  (case z_int=>k_is)
  (case z_isinstance=>k_is)
  (case z_len=>k_is)
  (case z_list=>k_is)
  (case z_max=>k_is)
  (case z_min=>k_is)
  (case z_range=>k_is)
  (case z_set=>k_is)
  (case z_sorted=>k_is)
  (case z_sum=>k_is)
  (case z_tuple=>k_is)
