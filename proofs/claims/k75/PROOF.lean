import PyProof.Rows.All
import Wide.All
import OpenK.AllK
import Wide.FinOn
import Lean
import PyProof.EqAt
import PyProof.EqKinds
import PyProof.TupleCall
import PyProof.DictWalks
import KE.KEqDict
import KE.KIntText
import PyProof.CallStr
import PyProof.DictTruth
import KE.KTupSum
import KE.KRevIter
import PyProof.EnumMake
import PyProof.Rows.Range3
import PyProof.StrLawsFirst
import KE.KFind
import PySem.Challenge.RW_oneofall_k75_whole_one_step_of_a_tape
set_option Elab.async false
set_option linter.all false
set_option maxRecDepth 100000
noncomputable section

abbrev gb:=@Nat.le_refl
abbrev gf:=@List.getElem?_eq_some_iff
abbrev gh:=@List.mem_map
abbrev gj:=@List.mem_cons
abbrev gq:=@List.length_map
abbrev gr:=@List.map_cons
abbrev gw:=@PySem.Heap.lt_size
abbrev gB:=@List.append_nil
abbrev gC:=@List.length_cons
abbrev gF:=@PySem.Heap.get?_push_of_some
abbrev gG:=@List.size_toArray
abbrev gH:=@Bool.and_eq_true
abbrev gJ:=@List.length_append
abbrev gK:=@List.getElem?_append_left
abbrev gM:=@List.getElem?_eq_getElem
abbrev gO:=@List.map_map
abbrev gP:=@List.getElem?_map
abbrev gQ:=@Nat.lt_of_lt_of_le
abbrev gR:=@List.getElem?_set_ne
abbrev gU:=@Nat.ne_of_lt
abbrev gW:=@List.mem_of_getElem?
abbrev gY:=@List.append_assoc
abbrev gZ:=@PySem.Heap.get?_push_size
abbrev g_:=@List.mem_singleton
abbrev h_:=@List.getElem?_append_right
abbrev kh:=@Nat.le_trans
abbrev kj:=@List.not_mem_nil
abbrev km:=@List.map_nil
abbrev kE:=@List.lookup_cons
abbrev kI:=@List.length_take
abbrev kJ:=@List.map_congr_left
abbrev kO:=@List.take_add_one
abbrev kW:=@List.mem_cons_of_mem
abbrev k_:=@List.getElem?_set_self
abbrev mq:=@List.find?_cons
abbrev my:=@List.take_length
abbrev mz:=@Bool.eq_iff_iff
abbrev m7:=@List.length_eq_one_iff
abbrev mC:=@List.mem_append
abbrev mD:=@Nat.zero_le
abbrev mF:=@List.nodup_cons
abbrev mH:=@List.length_singleton
abbrev mJ:=@List.getElem?_cons_succ
abbrev mK:=@List.length_nil
abbrev mL:=@List.map_append
abbrev mO:=@List.mem_append_right
abbrev mQ:=@List.nil_append
abbrev mR:=@Nat.lt_irrefl
abbrev mU:=@Nat.ne_of_gt
abbrev mV:=@List.length_drop
abbrev mW:=@List.any_cons
abbrev mX:=@Option.bind_some
abbrev mY:=@List.getElem?_cons_zero
abbrev mZ:=@List.mem_of_mem_take
abbrev m_:=@List.mem_of_mem_drop
abbrev ni:=@Option.map_eq_some_iff
abbrev nj:=@List.mem_iff_getElem
abbrev nq:=@Nat.add_zero
abbrev nu:=@List.of_mem_zip
abbrev nA:=@List.length_set
abbrev nF:=@List.reverse_cons
abbrev nG:=@List.drop_eq_nil_of_le
abbrev nH:=@List.drop_eq_getElem_cons
abbrev nJ:=@List.nodup_append
abbrev nM:=@List.getElem?_inj
abbrev nO:=@Bool.not_eq_true'
abbrev nQ:=@List.set_append
abbrev nR:=@Array.length_toList
abbrev nT:=@Nat.lt_succ_self
abbrev nU:=@List.length_eq_zero_iff
abbrev nW:=@List.cons_append
abbrev nY:=@Nat.zero_add
abbrev nZ:=@Nat.pow_succ
abbrev n_:=@List.mem_of_find?_eq_some
abbrev ph:=@List.any_eq_true
abbrev pq:=@List.filterMap_cons
abbrev p6:=@List.mem_cons_self
abbrev p7:=@List.mem_append_left
abbrev p8:=@PySem.Heap.get?_update_self
abbrev pA:=@List.getElem?_reverse
abbrev pB:=@List.map_reverse
abbrev pC:=@List.getElem_take
abbrev pD:=@List.sum_cons
abbrev pF:=@Bool.false_ne_true
abbrev pG:=@List.mem_filterMap
abbrev pH:=@List.length_reverse
abbrev pI:=@List.getElem?_take
abbrev pJ:=@Bool.and_eq_false_iff
abbrev pK:=@List.set_cons_zero
abbrev pL:=@Array.getElem?_eq_getElem
abbrev pM:=@List.take_of_length_le
abbrev pN:=@Nat.add_right_comm
abbrev pO:=@List.getElem?_zip_eq_some
abbrev pP:=@List.contains_iff_mem
abbrev pQ:=@List.findIdx?_eq_some_iff_getElem
abbrev aeS:=@PySem.wpAny_bind
abbrev aeT:=@if_pos
abbrev aeU:=@if_neg
abbrev aeV:=@PySem.wpAny_pure
abbrev aeW:=@decide_eq_false
abbrev aeX:=@Option.some.inj
abbrev aeY:=@PySem.W.mg_of
abbrev aeZ:=@PySem.mem_of_lookup
abbrev ae0:=@PySem.W.kia_one
abbrev ae1:=@PyProof.Rows.callWith_type1
abbrev ae2:=@decide_eq_true_eq
abbrev ae3:=@decide_eq_true
abbrev ae4:=@Ne.symm
abbrev ae5:=@PySem.F.slot_dict_get
abbrev ae6:=@PySem.wpAny_mono
abbrev ae7:=@PySem.wpAny_Call_Name_kw
abbrev ae8:=@PyProof.Rows.slot_tuple_getitem
abbrev ae9:=@PySem.wpAny_newObj_type
abbrev ae_:=@PySem.wpAny_of_eq
abbrev afa:=@PySem.wpAny_callSpecial?_slot
abbrev afb:=@PySem.Paired.length
abbrev afc:=@or_false
abbrev afd:=@of_decide_eq_true
abbrev afe:=@PySem.tupleKind_room_in1
abbrev afg:=@PySem.wpAny_passesOwn
abbrev afh:=@PySem.builtinLookup_eq_fast
abbrev afi:=@Sum.inr.inj
abbrev afj:=@PySem.W.callWith_K
abbrev afk:=@PySem.F.plainAttrs_list
abbrev afl:=@PySem.F.plainAttrs_dict
abbrev afm:=@PySem.F.plainAttrs_str
abbrev afn:=@PySem.F.entry_dict_get
abbrev afo:=@PySem.wpAny_holding
abbrev afp:=@PySem.wpAny_field
abbrev afq:=@PySem.wpAny_call_entry
abbrev afr:=@Classical.byContradiction
abbrev afs:=@PySem.typeIs_str
abbrev aft:=@PySem.wpAny_specialOf
abbrev afu:=@PySem.typeLookup_type
abbrev afv:=@PySem.sizeLine_eq
abbrev afw:=@PySem.F.args_tuple_add_2
abbrev afx:=@PySem.Heap.SameBut.update
abbrev afy:=@PySem.F.entry_tuple_add
abbrev afz:=@PySem.codeAny_mono
abbrev afA:=@PySem.call_meetsIn
abbrev afB:=@PySem.isSubtype_type
abbrev afC:=@PySem.F.slot_tuple_add
namespace L2
open PySem PySem.Spec PyProof.Rows
abbrev Key:=Sum Int Str
def uO:Key->Value->Bool
 | .inl k,v=>Value.isInt k v
 | .inr x,v=>Value.isStrOf x v
def aa6(w:World):Key->Int
 | .inl k=>hashInt k
 | .inr x=>hashStr w x
theorem Ml:∀{k:Key} {v:Value},uO k v=true->(∃i t,k=Sum.inl i/\v=Value.int i t)\/(∃x t,k=Sum.inr x/\v=Value.str x t)
 | .inl i,v,h=>by
  obtain⟨t,e⟩:=Value.isInt_shape (k:=i) (v:=v) h;exact .inl ⟨i,t,rfl,e⟩
 | .inr x,v,h=>by
  obtain⟨t,e⟩:=Value.isStrOf_shape (x:=x) (v:=v) h;exact .inr ⟨x,t,rfl,e⟩
def Ed(i:Int)(t:Tok):uO (.inl i) (.int i t)=true:=by simp[uO,Value.isInt]
def Ec(x:Str)(t:Tok):uO (.inr x) (.str x t)=true:=by simp[uO,Value.isStrOf]
def V7(a b:Int):decide ((Sum.inl a:Key)=Sum.inl b)=(a==b):=by
 by_cases e:a=b
 ·subst e;simp
 ·have h:¬ (Sum.inl a:Key)=Sum.inl b:=λq=>e (Sum.inl.inj q);rw[aeW h];exact (beq_eq_false_iff_ne.mpr e).symm
def V4(a b:Str):decide ((Sum.inr a:Key)=Sum.inr b)=decide (a=b):=by
 by_cases e:a=b
 ·subst e;simp
 ·have h:¬ (Sum.inr a:Key)=Sum.inr b:=λq=>e (afi q);rw[aeW h,aeW e]
def V6(a:Int)(b:Str):decide ((Sum.inl a:Key)=Sum.inr b)=false:=aeW (λq=>nomatch q)
def V5(a:Str)(b:Int):decide ((Sum.inr a:Key)=Sum.inl b)=false:=aeW (λq=>nomatch q)
def bF(prog:Program)(w:World):PySem.KeyKind prog w Key where
 is:=uO
 hash:=aa6 w
 inj:=λv a b ha hb=>by
  rcases Ml ha with⟨i,t,rfl,rfl⟩ | ⟨x,t,rfl,rfl⟩
  ·rcases Ml hb with⟨j,u,rfl,e⟩ | ⟨y,u,rfl,e⟩
   ·injection e with e1 _;rw[e1]
   ·exact nomatch e
  ·rcases Ml hb with⟨j,u,rfl,e⟩ | ⟨y,u,rfl,e⟩
   ·exact nomatch e
   ·injection e with e1 _;rw[e1]
 byValue:=λk v h=>by
  rcases Ml h with⟨i,t,rfl,rfl⟩ | ⟨x,t,rfl,rfl⟩<;>rfl
 pyHash:=λhv h=>by
  rcases Ml hv with⟨i,t,rfl,rfl⟩ | ⟨x,t,rfl,rfl⟩
  ·exact wpAny_pyHash_int h
  ·exact wpAny_pyHash_str h
 eqBool:=λhu hv h=>by
  rcases Ml hu with⟨i,t,rfl,rfl⟩ | ⟨x,t,rfl,rfl⟩
  ·rcases Ml hv with⟨j,u,rfl,rfl⟩ | ⟨y,u,rfl,rfl⟩
   ·rw[V7]at h;exact wpAny_eqBool_int h
   ·rw[V6]at h;exact SeqAt.EqAt.int_str i t y u _ _ _ _ h
  ·rcases Ml hv with⟨j,u,rfl,rfl⟩ | ⟨y,u,rfl,rfl⟩
   ·rw[V5]at h;exact SeqAt.EqAt.str_int x t j u _ _ _ _ h
   ·rw[V4]at h;exact wpAny_eqBool_str h
 «strs»:=λk x t v h=>by
  rcases Ml h with⟨i,u,rfl,e⟩ | ⟨y,u,rfl,e⟩
  ·exact nomatch e
  ·injection e with e1 _;subst e1;cases v<;>rfl
def zss(prog:Program)(w:World)(k:Key)(v:Value):(bF prog w).is k v=uO k v:=rfl
def zox(prog:Program)(w:World)(i:Int)(t:Tok):(bF prog w).is (.inl i) (.int i t)=true:=Ed i t
def zot(prog:Program)(w:World)(x:Str)(t:Tok):(bF prog w).is (.inr x) (.str x t)=true:=Ec x t
inductive V where
 | non | bl (b:Bool) | int (i:Int) | str (x:Str) | byt (b:Array UInt8) | flt (b:UInt64) | ref (a:Addr) | ty (n:String)
 deriving DecidableEq
def RelV:V->Value->Prop
 | .non,u=>u=Value.none
 | .bl b,u=>u=Value.bool b
 | .int i,u=>∃t,u=Value.int i t
 | .str x,u=>∃t,u=Value.str x t
 | .byt b,u=>∃t,u=Value.bytes b t
 | .flt b,u=>∃t,u=Value.float b t
 | .ref a,u=>u=Value.ref a
 | .ty n,u=>u=Value.type n
abbrev Vals:List V->List Value->Prop:=Paired RelV
def Vals.length{xs:List V}{us:List Value}(r:Vals xs us):xs.length=us.length:=afb r
theorem Vals.get:∀{xs:List V} {us:List Value} {i:Nat} {x:V},Vals xs us->xs[i]? = some x->∃u,us[i]? = some u/\RelV x u
 | _,_,_,_,.nil,e=>by simp at e
 | _,_,0,_,.cons r _,e=>by simp at e;subst e;exact⟨_,rfl,r⟩
 | _,_,i+1,x,.cons _ t,e=>by
  obtain⟨u,h1,h2⟩:=Vals.get (i:=i) (x:=x) t (by simpa using e);exact⟨u,by simpa using h1,h2⟩
theorem Vals.set{x:V}{u:Value}(r:RelV x u):∀{xs:List V} {us:List Value} (i:Nat),Vals xs us->Vals (xs.set i x) (us.set i u)
 | _,_,_,.nil=>.nil
 | _,_,0,.cons _ t=>.cons r t
 | _,_,i+1,.cons q t=>.cons q (Vals.set r i t)
theorem Vals.append:∀{xs ys:List V} {us ws:List Value},Vals xs us->Vals ys ws->Vals (xs++ys) (us++ws)
 | _,_,_,_,.nil,s=>s
 | _,_,_,_,.cons r t,s=>.cons r (Vals.append t s)
theorem Vals.take:∀{xs:List V} {us:List Value} (n:Nat),Vals xs us->Vals (xs.take n) (us.take n)
 | _,_,0,_=>.nil
 | _,_,_+1,.nil=>.nil
 | _,_,n+1,.cons r t=>.cons r (Vals.take n t)
theorem Vals.drop:∀{xs:List V} {us:List Value} (n:Nat),Vals xs us->Vals (xs.drop n) (us.drop n)
 | _,_,0,r=>r
 | _,_,_+1,.nil=>.nil
 | _,_,n+1,.cons _ t=>Vals.drop n t
def lD:Option V->Option Value->Prop
 | some v,some u=>RelV v u
 | none,none=>True
 | _,_=>False
def KV{κ:Type}:List (κ×V)->List (κ×Value)->Prop:=Paired λ(p:κ×V) (q:κ×Value)=>p.1=q.1/\RelV p.2 q.2
def kV:Key->V
 | .inl i=>.int i
 | .inr x=>.str x
inductive HO where
 
 | lst (xs:List V)
 
 | tup (xs:List V)
 
 | dK (kvs:List (Key×V)) | dT (kvs:List (List Key×V))
 
 | set (S:Int->Bool) (n:Nat)
 
 | ins (C dx:Addr) (fs:List (Str×V))
 
 | own (x:Addr)
 
 | xd (fs:List (Str×V))
 
 | met (f x:Addr)
 
 | rng (lo hi:Int)
 
 | frz (o:Obj) (u:HO)
 
 | tbl (ps:Array Value)
 
 | ext (φ:Heap->Prop)
abbrev Hp:=Addr->Option HO
def upd(H:Hp)(a:Addr)(o:HO):Hp:=λb=>if b=a then some o else H b
def qt:upd H a o a=some o:=by unfold upd;rw[aeT rfl]
def iC(h:b≠a):upd H a o b=H b:=by unfold upd;rw[aeU h]
def Sh{H:Hp}{a b:Addr}{o u:HO}(h:H a=some o)(h':H b=some u)(d:o≠u):a≠b:=by
 intro e;subst e;rw[h]at h';exact d (aeX h')
def zr{H:Hp}{a b:Addr}{o:HO}(h:H a=some o)(h':H b=none):a≠b:=by
 intro e;subst e;rw[h]at h';cases h'
section
variable  (P:Program)(w:World)
def bW(H:Hp)(h:Heap)(a:Addr):HO->Prop
 | .lst xs=>xs.length<=sizeLine/\∃(its:List Value) (n:Nat),Vals xs its/\h.get? a=some { cls:=.type "list",data:=.seq its.toArray n }
 | .tup xs=>xs.length<=sizeLine/\∃its:List Value,Vals xs its/\IsTup h a its.toArray
 | .dK kvs=>kvs.length<=sizeLine/\(a==sysModules)=false/\∃vs,KV kvs vs/\h.DictOf (bF P w) a vs
 | .dT kvs=>kvs.length<=sizeLine/\(a==sysModules)=false/\∃xs:List (List Key×Addr×Value),
   Paired (λ(p:List Key×V) (q:List Key×Addr×Value)=>p.1=q.1/\H q.2.1=some (.tup (p.1.map kV))/\RelV p.2 q.2.2) kvs xs /\
   ∃o es ep,h.get? a=some o/\o.ExactDict/\o.data=.dict es ep/\es.toList=xs.map (entryOfKey (tupleKind (bF P w)))/\(xs.map (·.1)).Nodup
 | .set S n=>h.SetOf (intKind P w) a S n
 | .ins C dx fs=>H dx=some (.own a)/\fs.length<=1000/\dx≠a/\h.get? a=some (PySem.W.instObj C dx) /\
   ∃mA,h.Ns1 dx mA/\(∀f,lD (fs.lookup f) (mA f))/\PySem.Within mA (fs.map (·.1))
 | .own _=>∃o,h.get? a=some o
 | .xd fs=>∃mA,h.Ns1 a mA/\∀f,lD (fs.lookup f) (mA f)
 | .rng lo hi=>∃t u v,h.get? a=some { cls:=.type "range",data:=.fields #[.int lo t,.int hi u,.int 1 v] }
 | .frz o u=>h.get? a=some o/\bW H h a u
 | .tbl ps=>h.get? a=some { cls:=.none,data:=.fields ps }
 | .met f x=>h.get? a=some (PySem.W.methodObj (.ref f) (.ref x))
 | .ext φ=>φ h/\(∃o,h.get? a=some o)/\∀h1 h2:Heap,φ h1->(∀o,h1.get? a=some o->h2.get? a=some o)->φ h2
def lE(H:Hp)(h:Heap):Prop:=∀a o,H a=some o->bW P w H h a o
end
section
variable  {P:Program}{w:World}{H H':Hp}{h h':Heap}{a:Addr}{o:HO}
def bW.lt(x:bW P w H h a o):a<h.objs.size:=by
 cases o with
 | lst xs=>obtain⟨_,_,_,_,e⟩:=x;exact gw e
 | tup xs=>obtain⟨_,_,_,p⟩:=x;exact p.lt
 | dK kvs=>obtain⟨_,_,_,_,o,_,_,e,_⟩:=x;exact gw e
 | dT kvs=>obtain⟨_,_,_,_,o,_,_,e,_⟩:=x;exact gw e
 | set S n=>obtain⟨o,_,_,_,e,_⟩:=x;exact gw e
 | ins C dx fs=>obtain⟨_,_,_,e,_⟩:=x;exact gw e
 | own y=>obtain⟨_,e⟩:=x;exact gw e
 | xd fs=>obtain⟨_,⟨_,_,_,e,_⟩,_⟩:=x;exact gw e
 | rng lo hi=>obtain⟨_,_,_,e⟩:=x;exact gw e
 | frz ob u=>obtain⟨e,_⟩:=x;exact gw e
 | tbl ps=>exact gw (show h.get? a=some _ from x)
 | met f y=>exact gw (show h.get? a=some _ from x)
 | ext φ=>obtain⟨_,⟨_,e⟩,_⟩:=x;exact gw e
theorem Paired.VR:∀{aeL:List α} {aeK:List β},Paired F aeL aeK->(∀a b,F a b->G a b)->Paired G aeL aeK
 | _,_,.nil,_=>.nil
 | _,_,.cons r t,f=>.cons (f _ _ r) (Paired.VR t f)
def bW.ud(x:bW P w H h a o)(k:∀b u,(b=a\/H b=some (.own a))->h.get? b=some u->h'.get? b=some u)
  (ho:∀b,H b=some (.own a)->H' b=some (.own a)) (ht:∀b xs,H b=some (.tup xs)->H' b=some (.tup xs)):bW P w H' h' a o:=by
 induction o with
 | lst xs=>obtain⟨z,its,n,r,e⟩:=x;exact⟨z,its,n,r,k _ _ (.inl rfl) e⟩
 | tup xs=>obtain⟨z,its,r,ob,e,c⟩:=x;exact⟨z,its,r,ob,k _ _ (.inl rfl) e,c⟩
 | dK kvs=>obtain⟨z,y,vs,r,ob,es,ep,e,c⟩:=x;exact⟨z,y,vs,r,ob,es,ep,k _ _ (.inl rfl) e,c⟩
 | dT kvs =>
  obtain⟨z,y,xs,r,ob,es,ep,e,c⟩:=x;exact⟨z,y,xs,Paired.VR r λp q z=>⟨z.1,ht _ _ z.2.1,z.2.2⟩,ob,es,ep,k _ _ (.inl rfl) e,c⟩
 | set S n=>obtain⟨ob,es,ep,t,e,c⟩:=x;exact⟨ob,es,ep,t,k _ _ (.inl rfl) e,c⟩
 | ins C dx fs =>
  obtain⟨d,z,ne,e,mA,⟨od,es,ep,e2,c⟩,r⟩:=x;exact⟨ho _ d,z,ne,k _ _ (.inl rfl) e,mA,⟨od,es,ep,k _ _ (.inr d) e2,c⟩,r⟩
 | own y=>obtain⟨ob,e⟩:=x;exact⟨ob,k _ _ (.inl rfl) e⟩
 | xd fs=>obtain⟨mA,⟨od,es,ep,e,c⟩,r⟩:=x;exact⟨mA,⟨od,es,ep,k _ _ (.inl rfl) e,c⟩,r⟩
 | rng lo hi=>obtain⟨t,u,v,e⟩:=x;exact⟨t,u,v,k _ _ (.inl rfl) e⟩
 | frz ob u ih=>obtain⟨e,q⟩:=x;exact⟨k _ _ (.inl rfl) e,ih q⟩
 | tbl ps =>
  have e:h.get? a=some { cls:=.none,data:=.fields ps }:=x;show h'.get? a=some { cls:=.none,data:=.fields ps };exact k a _ (.inl rfl) e
 | met f y =>
  have e:h.get? a=some (PySem.W.methodObj (.ref f) (.ref y)):=x;show h'.get? a=some (PySem.W.methodObj (.ref f) (.ref y));exact k a _ (.inl rfl) e
 | ext φ=>obtain⟨p,⟨o,e⟩,st⟩:=x;exact⟨st _ _ p λo q=>k _ _ (.inl rfl) q,⟨o,k _ _ (.inl rfl) e⟩,st⟩
def lE.lt(x:lE P w H h)(e:H a=some o):a<h.objs.size:=(x a o e).lt
def lE.fresh(x:lE P w H h)(e:h.objs.size<=a):H a=none:=by
 cases q:H a with
 | none=>rfl
 | some u=>exact absurd (gQ (x.lt q) e) (mR _)
def lE.kept(x:lE P w H h)(k:∀b u,h.get? b=some u->h'.get? b=some u):lE P w H h':=λa o e =>
 (x a o e).ud (λb u _ q=>k b u q) (λ_ q=>q) λ_ _ q=>q
def lE.laid(x:lE P w H h)(k:∀b u,h.get? b=some u->h'.get? b=some u)(hp:h.objs.size<=a)(new:bW P w (upd H a o) h' a o):lE P w (upd H a o) h':=λb u e=>by
 have hn:=x.fresh hp;by_cases hb:b=a
 ·subst hb;rw[qt]at e;cases e;exact new
 ·rw[iC hb]at e;exact (x b u e).ud (λc v _ q=>k c v q) (λc q=>by rw[iC (zr q hn)];exact q) λc xs q=>by rw[iC (zr q hn)];exact q
end
def Rd(H:Hp)(a:Addr)(u:HO):Prop:=H a=some u\/∃o,H a=some (.frz o u)
def Rd.ok(r:Rd H a u)(x:lE P w H h):bW P w H h a u:=by
 rcases r with r | ⟨o,r⟩
 ·exact x a u r
 ·obtain⟨_,q⟩:=x a _ r;exact q
def Mut:Option HO->Prop
 | some (.lst _)=>True
 | some (.dK _)=>True
 | some (.dT _)=>True
 | some (.set _ _)=>True
 | some (.ins _ _ _)=>True
 | some (.ext _)=>True
 | _=>False
section
variable  {P:Program}{w:World}{H:Hp}{h h':Heap}{x e:Addr}{o':HO}
def lE.write(ok:lE P w H h)(mu:Mut (H x))(he:e=x\/H e=some (.own x))(k:∀b u,b≠e->h.get? b=some u->h'.get? b=some u)(Mx:∃u,h'.get? e=some u)
  (new:bW P w (upd H x o') h' x o'):lE P w (upd H x o') h':=λb u q=>by
 have Iv:∀c y,H c=some (.own y)->c≠x:=λc y r z=>by subst z;rw[r]at mu;exact mu
 have adl:∀c xs,H c=some (.tup xs)->c≠x:=λc xs r z=>by subst z;rw[r]at mu;exact mu
 by_cases hb:b=x
 ·subst hb;rw[qt]at q;cases q;exact new
 ·rw[iC hb]at q;by_cases Xi:b=e
  ·have q':H b=some (.own x):=by
    rcases he with z | z
    ·exact absurd (Xi.trans z) hb
    ·rw[Xi];exact z
   rw[q]at q';cases q';obtain⟨v,hv⟩:=Mx;exact⟨v,by rw[Xi];exact hv⟩
  ·refine (ok b u q).ud (λc v hc r=>k c v ?_ r) (λc r=>by rw[iC (Iv c b r)];exact r) λc xs r=>by rw[iC (adl c xs r)];exact r
   rcases hc with rfl | hc
   ·exact Xi
   ·rintro rfl;rcases he with z | z
    ·exact Iv c b hc z
    ·rw[hc]at z;cases z;exact hb rfl
end
structure Un(fs ex:List Addr)(H H':Hp)(h h':Heap):Prop where
 keep:∀b o,h.get? b=some o->H b=none->b∉fs->b∉ex->h'.get? b=some o
 slot:∀b o,h.get? b=some o->H b=none->b∈fs->b∉ex->∃sl,h'.get? b=some { o with slots:=sl }
 free:∀b o,h.get? b=some o->H b=none->b∉ex->H' b=none
 there:∀b o,h.get? b=some o->b∉ex->∃o',h'.get? b=some o'
 uw:∀b xs,H b=some (.tup xs)->H' b=some (.tup xs)
 sG:∀b o u,H b=some (.frz o u)->H' b=some (.frz o u)
 uc:∀b ps,H b=some (.tbl ps)->∃more,H' b=some (.tbl (ps++more))
section
variable  {fs wH ex ex':List Addr}{H H1 H2:Hp}{h h1 h2 h':Heap}{a x e:Addr}{o:HO}
def Un.any(u:Un fs ex H H1 h h1){b:Addr}{ob:Obj}(q:h.get? b=some ob)(n:H b=none)(hx:b∉ex):∃sl,h1.get? b=some { ob with slots:=sl }:=by
 by_cases hb:b∈fs
 ·exact u.slot b ob q n hb hx
 ·exact⟨ob.slots,u.keep b ob q n hb hx⟩
def Un.kept(k:∀b u,h.get? b=some u->h'.get? b=some u):Un fs ex H H h h' :=
 ⟨λb ob q _ _ _=>k b ob q,λb ob q _ _ _=>⟨ob.slots,k b ob q⟩,λ_ _ _ n _=>n,λb ob q _=>⟨ob,k b ob q⟩,λ_ _ q=>q,λ_ _ _ q=>q,λ_ ps q=>⟨#[],by rw[q];simp⟩⟩
def Un.refl:Un fs ex H H h h:=Un.kept λ_ _ q=>q
def Un.laid(k:∀b u,h.get? b=some u->h'.get? b=some u)(hp:h.objs.size<=a)(hn:H a=none):Un fs ex H (upd H a o) h h' where
 keep:=λb u q _ _ _=>k b u q
 slot:=λb u q _ _ _=>⟨u.slots,k b u q⟩
 free:=λb u q n _=>by rw[iC (gU (gQ (gw q) hp))];exact n
 there:=λb u q _=>⟨u,k b u q⟩
 uw:=λb xs q=>by rw[iC (zr q hn)];exact q
 sG:=λb u xs q=>by rw[iC (zr q hn)];exact q
 uc:=λb ps q=>⟨#[],by rw[iC (zr q hn),q];simp⟩
def Un.write(mu:Mut (H x))(he:e=x\/H e=some (.own x))(k:∀b u,b≠e->h.get? b=some u->h'.get? b=some u)(Mx:∃u,h'.get? e=some u):Un fs ex H (upd H x o) h h':=by
 have hx:∀b,H b=none->b≠x:=λb n z=>by subst z;rw[n]at mu;exact mu
 have hb:∀b,H b=none->b≠e:=λb n z=>by
  subst z;rcases he with r | r
  ·exact hx b n r
  ·rw[n]at r;cases r
 have hm:∀b u,H b=some u->¬ Mut (some u)->b≠x:=λb u q nm z=>by subst z;rw[q]at mu;exact nm mu
 refine⟨λb u q n _ _=>k b u (hb b n) q,λb u q n _ _=>⟨u.slots,k b u (hb b n) q⟩,λb u q n _=>by rw[iC (hx b n)];exact n,λb u q _=>?_,
  λb xs q=>by rw[iC (hm b _ q λz=>z)];exact q,λb u xs q=>by rw[iC (hm b _ q λz=>z)];exact q,λb ps q=>⟨#[],by rw[iC (hm b _ q λz=>z),q];simp⟩⟩
 by_cases Xi:b=e
 ·subst Xi;exact Mx
 ·exact⟨u,k b u Xi q⟩
end
def trk(h:Heap)(H:Hp):List Addr:=(List.range h.objs.size).filter λa=>(H a).isSome
def wj(h:Heap)(H:Hp):Heap:=PySem.W.hideAll h (trk h H)
def Ep(h:Heap)(H:Hp):(wj h H).objs.size=h.objs.size:=PySem.W.hideAll_size _ _
def J7(e:h.get? b=some o)(n:H b=none):(wj h H).get? b=some o :=
 PySem.W.hideAll_get _ e λhm=>by
  have q:(H b).isSome=true:=(List.mem_filter.mp hm).2;rw[n]at q;simp at q
def Pk(e:(wj h H).get? b=some o):h.get? b=some o/\H b=none:=by
 have e':h.get? b=some o:=PySem.W.of_hideAll (trk h H) e;refine⟨e',?_⟩;cases q:H b with
 | none=>rfl
 | some x =>
  have hm:b∈trk h H:=List.mem_filter.mpr ⟨List.mem_range.mpr (gw e'),by simp[q]⟩;have z:(wj h H).get? b=none:=PySem.W.hideAll_none (trk h H) hm;rw[z]at e;cases e
def Rw(g h:Heap)(L:Addr):List (Addr×Obj):=(List.range h.objs.size).filterMap λa=>if a=L\/(g.get? a).isSome=true then none else (h.get? a).map λo=>(a,o)
def rest(g h:Heap)(L d:Addr):List (Addr×Obj):=(Rw g h L).filter λp=>decide (p.1≠d)
structure Mod(K:PySem.W.Frag)(mg:Str->Option Value)(base:Heap):Prop where
 V3:K.In base
 glob:base.Ns mainGlobals mg
 blt:∃mb,base.Ns builtinsNs mb/\∀x:Str,x ≠ "__name__"->mb x=bootBuiltins x
 nolimit:base.NoLimit
structure Cx where
 prog:Program
 w:World
 K:PySem.W.Frag
 mg:Str->Option Value
 base:Heap
 A:Around
 N:List Str
 aeJ:Shared
 aeR:Hp
 env:Env
 outer:List Env
 stack:List Env
 ex:List Addr
 fn:Str->Bool
 calm:Bool
 pn:List (Addr×Obj)
 xe:Value->Shared->Prop
def BL(l:List Env):List Addr:=l.filterMap (·.frame)
abbrev Cx.fs(X:Cx):List Addr:=BL X.outer
def Vis(sc:Scope)(x:Str):Prop:=sc.names.lookup x=some .local\/sc.names.lookup x=some .cell\/sc.names.lookup x=some .free
def Loc(sc:Scope)(x:Str):Prop:=sc.names.lookup x=some .local\/sc.names.lookup x=some .cell
def Look(env:Env)(h:Heap)(m:Str->Option Value)(x:Str)(u:Value):Prop :=
 (env.kindOf x=some .local/\m x=some u)\/((env.kindOf x=some .cell\/env.kindOf x=some .free)/\∃c,env.cells.lookup x=some c/\h.IsCell c (some u))
structure Cx.Ok(X:Cx):Prop where
 mod:Mod X.K X.mg X.base
 kind:X.env.scope.kind=.function
 glob:X.env.globals=mainGlobals
 blt:X.env.builtins=builtinsNs
 above:X.aeJ.heap.objs.size<=X.env.locals
 inj:∀x y c,X.env.cells.lookup x=some c->X.env.cells.lookup y=some c->x=y
 has:∀x,(X.env.kindOf x=some .cell\/X.env.kindOf x=some .free)->∃c,X.env.cells.lookup x=some c
 Tz:∀x c,X.fn x=true->X.env.cells.lookup x=some c->X.aeJ.heap.objs.size<=c
 hd:X.calm=true->X.A.handled=none
 frames:X.A.frames=some X.stack
 stk:X.stack=X.outer\/(X.stack=X.env::X.outer/\X.env.frame=some X.env.locals)
 exf:∀b∈X.ex,b≠X.env.locals/\∀x c,X.env.cells.lookup x=some c->c≠b
 bs:∀b o,X.base.get? b=some o->X.aeJ.heap.get? b=some o/\X.aeR b=none
 Fw:X.base.objs.size<=X.aeJ.heap.objs.size
 DW:∀b o,X.base.get? b=some o->b∉X.ex
 Ky:∀b∈X.ex,b∉X.fs
 oN:X.aeJ.heap.FunFrames X.base X.outer
 Kl:∀b∈X.fs,X.aeR b=none
structure Inv(X:Cx)(pins:List (Addr×Obj))(σ:List (Option V))(H:Hp)(s:Shared):Prop where
 ok:X.Ok
 os:s.os=X.aeJ.os
 bare:AllBare s.gens
 base:Un X.fs X.ex X.aeR H X.aeJ.heap s.heap
 loc:∃m,s.heap.Ns X.env.locals m/\∀(i:Nat) (x:Str) (v:V),X.N[i]? = some x->σ[i]? = some (some v)->Vis X.env.scope x->∃u,RelV v u/\Look X.env s.heap m x u
 cell:∀x c,X.env.cells.lookup x=some c->∃v,s.heap.IsCell c v
 free:H X.env.locals=none
 jL:∀x c,X.env.cells.lookup x=some c->H c=none
 pin:∀p∈X.pn++pins,s.heap.get? p.1=some p.2/\H p.1=none/\p.1≠X.env.locals/\p.1∉X.fs/\∀v,p.2.data≠.cell v
 bI:lE X.prog X.w H s.heap
 len:σ.length=X.N.length
section
variable  {X:Cx}{pins:List (Addr×Obj)}{σ:List (Option V)}{H H':Hp}{s:Shared}{h':Heap}
def Cx.Ok.adp(ok:X.Ok)(e:X.base.get? b=some o):b∉X.fs:=λhb=>by
 have:=(ok.oN.mem hb).1;rw[e]at this;cases this
def Inv.bs(I:Inv X pins σ H s):∀b o,X.base.get? b=some o->s.heap.get? b=some o/\H b=none:=λb o e =>
 ⟨I.base.keep b o (I.ok.bs b o e).1 (I.ok.bs b o e).2 (I.ok.adp e) (I.ok.DW b o e),I.base.free b o (I.ok.bs b o e).1 (I.ok.bs b o e).2 (I.ok.DW b o e)⟩
def Inv.bk(I:Inv X pins σ H s):∀b o,X.base.get? b=some o->s.heap.get? b=some o:=λb o e=>(I.bs b o e).1
def Inv.mod(I:Inv X pins σ H s):Mod X.K X.mg X.base:=I.ok.mod
def Inv.qp(I:Inv X pins σ H s):X.K.In s.heap:=I.ok.mod.V3.keeps I.bk
def Inv.lt(I:Inv X pins σ H s):X.env.locals<s.heap.objs.size:=let ⟨_,hn,_⟩:=I.loc;hn.lt
def Inv.sz(I:Inv X pins σ H s):X.aeJ.heap.objs.size<=s.heap.objs.size:=kh I.ok.above (Nat.le_of_lt I.lt)
def Inv.ado(I:Inv X pins σ H s)(h:s.heap.objs.size<=a):a∉X.fs:=λhb=>by
 obtain⟨_,o,ho,_⟩:=I.ok.oN.mem hb;exact absurd (gQ (gw ho) (kh I.sz h)) (mR _)
def Inv.Tv(I:Inv X pins σ H s):∀x c,X.env.cells.lookup x=some c->c≠X.env.locals:=λx c e z=>by
 obtain⟨v,o,ho,hd⟩:=I.cell x c e;obtain⟨m,⟨o',es,ep,Mv,yD,_⟩,_⟩:=I.loc;rw[z,Mv]at ho;cases ho;rw[yD]at hd;cases hd
def Inv.oN(I:Inv X pins σ H s):s.heap.FunFrames X.base X.outer:=by
 have all:∀(l:List Env),(∀b∈BL l,b∈X.fs)->X.aeJ.heap.FunFrames X.base l->s.heap.FunFrames X.base l:=by
  intro l
  induction l with
  | nil=>intro _ _;trivial
  | cons env r ih =>
   intro hs hl;obtain⟨hk,⟨L,o,hf,hn,ho,hd⟩,hr⟩:=hl;have hL:L∈X.fs:=hs L (by unfold BL;rw[pq,hf];exact p6);obtain⟨sl,e⟩:=I.base.slot L o ho (I.ok.Kl L hL) hL λz=>I.ok.Ky L z hL;exact⟨hk,⟨L,_,hf,hn,e,hd⟩,ih (λb hb=>hs b (by unfold BL;rw[pq,hf];exact kW _ hb)) hr⟩
 exact all X.outer (λ_ hb=>hb) I.ok.oN
def Inv.stack(I:Inv X pins σ H s):s.heap.FunFrames X.base X.stack:=by
 rcases I.ok.stk with e | ⟨e,hf⟩
 ·rw[e];exact I.oN
 ·rw[e];obtain⟨m,hn,_⟩:=I.loc;refine .cons (by rw[I.ok.kind];decide) hf hn ?_ I.oN;exact Heap.get?_none_of_le (kh I.ok.Fw I.ok.above)
def Inv.uE(I:Inv X pins σ H s):∀b∈BL X.stack,b∈X.env.locals::X.fs:=λb hb=>by
 rcases I.ok.stk with e | ⟨e,hf⟩
 ·rw[e]at hb;exact kW _ hb
 ·rw[e]at hb;unfold BL at hb;rw[pq,hf]at hb;exact hb
def Inv.Al(I:Inv X pins σ H s):∀b∈BL X.stack,H b=none:=λb hb=>by
 rcases gj.mp (I.uE b hb) with e | hb
 ·rw[e];exact I.free
 ·obtain⟨_,o,ho,_⟩:=I.ok.oN.mem hb;exact I.base.free b o ho (I.ok.Kl b hb) λz=>I.ok.Ky b z hb
def Inv.step{g':Array GenState}{t':Nat}{d':Drawn}{ch:List Addr}(I:Inv X pins σ H s)
  (My:∀b∈ch,(b∈X.ex\/X.aeJ.heap.objs.size<=b)/\b≠X.env.locals/\(∀x c,X.env.cells.lookup x=some c->c≠b)/\∀p∈X.pn++pins,p.1≠b)
  (keep:∀b o,b≠X.env.locals->b∉X.fs->b∉ch->s.heap.get? b=some o->H b=none->h'.get? b=some o)
  (slot:∀b o,b≠X.env.locals->b∈X.fs->b∉ch->s.heap.get? b=some o->H b=none->∃sl,h'.get? b=some { o with slots:=sl }) (free:∀b o,b∉ch->s.heap.get? b=some o->H b=none->H' b=none)
  (there:∀b o,b∉ch->s.heap.get? b=some o->∃o',h'.get? b=some o')
  (uw:∀b xs,H b=some (.tup xs)->H' b=some (.tup xs)) (sG:∀b o u,H b=some (.frz o u)->H' b=some (.frz o u)) (uc:∀b ps,H b=some (.tbl ps)->∃more,H' b=some (.tbl (ps++more)))
  (ns:∀m,s.heap.Ns X.env.locals m->h'.Ns X.env.locals m) (bI:lE X.prog X.w H' h') (hg:AllBare g') :
  Inv X pins σ H' { s with heap:=h',gens:=g',drawn:=d',toks:=t' }:=by
 have neL:∀b o,X.aeJ.heap.get? b=some o->b≠X.env.locals:=λb o e=>gU (gQ (gw e) I.ok.above);have Ms:∀b o,X.aeJ.heap.get? b=some o->b∉X.ex->b∉ch:=λb o e hx hb=>by
  rcases (My b hb).1 with z | z
  ·exact hx z
  ·exact absurd (gQ (gw e) z) (mR _)
 have cellK:∀x c,X.env.cells.lookup x=some c->∀v,s.heap.IsCell c v->h'.IsCell c v:=λx c e v zz=>by
  obtain⟨o,ho,hd⟩:=zz;have Iz:c∉ch:=λz=>(My c z).2.2.1 x c e rfl;by_cases hc:c∈X.fs
  ·obtain⟨sl,q⟩:=slot c o (I.Tv x c e) hc Iz ho (I.jL x c e);exact⟨_,q,hd⟩
  ·exact⟨o,keep c o (I.Tv x c e) hc Iz ho (I.jL x c e),hd⟩
 refine⟨I.ok,I.os,hg,⟨λb o e n hb hx=>?_,λb o e n hb hx=>?_,λb o e n hx=>?_,λb o e hx=>?_,λb xs e=>uw b xs (I.base.uw b xs e),λb o xs e=>sG b o xs (I.base.sG b o xs e),λb ps e=>?_⟩,?_,λx c e=>?_,?_,λx c e=>?_,λp hp=>?_,bI,I.len⟩
 ·exact keep b o (neL b o e) hb (Ms b o e hx) (I.base.keep b o e n hb hx) (I.base.free b o e n hx)
 ·obtain⟨sl,e1⟩:=I.base.slot b o e n hb hx;obtain⟨sl',e2⟩:=slot b _ (neL b o e) hb (Ms b o e hx) e1 (I.base.free b o e n hx);exact⟨sl',e2⟩
 ·obtain⟨o',e1⟩:=I.base.there b o e hx;exact free b o' (Ms b o e hx) e1 (I.base.free b o e n hx)
 ·obtain⟨o',e1⟩:=I.base.there b o e hx;exact there b o' (Ms b o e hx) e1
 ·obtain⟨m1,e1⟩:=I.base.uc b ps e;obtain⟨m2,e2⟩:=uc b _ e1;exact⟨m1++m2,by rw[e2,Array.append_assoc]⟩
 ·obtain⟨m,hn,hl⟩:=I.loc;refine⟨m,ns m hn,λi x v e1 e2 e3=>?_⟩;obtain⟨u,r,l⟩:=hl i x v e1 e2 e3;refine⟨u,r,?_⟩;rcases l with l | ⟨k,c,e,z⟩
  ·exact .inl l
  ·exact .inr ⟨k,c,e,cellK x c e _ z⟩
 ·obtain⟨v,z⟩:=I.cell x c e;exact⟨v,cellK x c e v z⟩
 ·obtain⟨m,⟨o,_,_,ho,_⟩,_⟩:=I.loc;exact free _ o (λz=>(My _ z).2.1 rfl) ho I.free
 ·obtain⟨v,o,ho,hd⟩:=I.cell x c e;exact free c o (λz=>(My c z).2.2.1 x c e rfl) ho (I.jL x c e)
 ·obtain⟨e,n,ne,nf,d⟩:=I.pin p hp;have Iz:p.1∉ch:=λz=>(My p.1 z).2.2.2 p hp rfl;exact⟨keep p.1 p.2 ne nf Iz e n,free p.1 p.2 Iz e n,ne,nf,d⟩
def Inv.un{t':Nat}(I:Inv X pins σ H s)(u:Un X.fs [] H H' s.heap h')(bI:lE X.prog X.w H' h'):Inv X pins σ H' { s with heap:=h',toks:=t' }:=by
 obtain⟨m,⟨o,es,ep,ho,r⟩,_⟩:=id I.loc;obtain⟨sl,hL⟩:=u.any ho I.free (by simp);exact I.step (g':=s.gens) (d':=s.drawn) (ch:=[]) (λ_ z=>nomatch z) (λb o _ hb _ e n=>u.keep b o e n hb (by simp)) (λb o _ hb _ e n=>u.slot b o e n hb (by simp)) (λb o _ e n=>u.free b o e n (by simp)) (λb o _ e=>u.there b o e (by simp)) u.uw u.sG u.uc (λm' hm=>by
  obtain⟨o',es',ep',Mv,r'⟩:=hm;rw[ho]at Mv;cases Mv;exact⟨_,es',ep',hL,r'⟩) bI I.bare
def Inv.call{g':Array GenState}{t':Nat}{d':Drawn}{ch:List Addr}(I:Inv X pins σ H s)(u:Un (BL X.stack) ch H H' s.heap h')(bI:lE X.prog X.w H' h')(hg:AllBare g')
  (My:∀b∈ch,(b∈X.ex\/X.aeJ.heap.objs.size<=b)/\b≠X.env.locals/\(∀x c,X.env.cells.lookup x=some c->c≠b)/\∀p∈X.pn++pins,p.1≠b) :
  Inv X pins σ H' { s with heap:=h',gens:=g',drawn:=d',toks:=t' }:=by
 obtain⟨m,⟨o,es,ep,ho,r⟩,_⟩:=id I.loc;obtain⟨sl,hL⟩:=u.any ho I.free λz=>(My _ z).2.1 rfl;exact I.step (ch:=ch) My (λb o hL hb hc e n=>u.keep b o e n (λz=>(gj.mp (I.uE b z)).elim hL hb) hc) (λb o _ _ hc e n=>u.any e n hc) (λb o hc e n=>u.free b o e n hc) (λb o hc e=>u.there b o e hc) u.uw u.sG u.uc (λm' hm=>by
  obtain⟨o',es',ep',Mv,r'⟩:=hm;rw[ho]at Mv;cases Mv;exact⟨_,es',ep',hL,r'⟩) bI hg
def Inv.turned{t':Nat}{it:Addr}(I:Inv X pins σ H s)(k:∀b o,b≠it->s.heap.get? b=some o->h'.get? b=some o)(hn:H it=none)(hL:it≠X.env.locals)
  (h1:it∈X.ex\/X.aeJ.heap.objs.size<=it) (h2:∀x c,X.env.cells.lookup x=some c->c≠it) (h3:∀p∈X.pn++pins,p.1≠it):Inv X pins σ H { s with heap:=h',toks:=t' }:=by
 have nit:∀b u,H b=some u->b≠it:=λb u e z=>by rw[z,hn]at e;cases e
 refine I.step (g':=s.gens) (d':=s.drawn) (ch:=[it]) (λb hb=>?_) (λb o _ _ hc e _=>k b o (λz=>hc (by simp[z])) e) (λb o _ _ hc e _=>⟨o.slots,k b o (λz=>hc (by simp[z])) e⟩) (λ_ _ _ _ n=>n)
  (λb o hc e=>⟨o,k b o (λz=>hc (by simp[z])) e⟩) (λ_ _ e=>e) (λ_ _ _ e=>e) (λb ps e=>⟨#[],by rw[e];simp⟩) (λm hm=>?_) (λb u e=>?_) I.bare
 ·have e:b=it:=by simpa using hb
  subst e;exact⟨h1,hL,h2,h3⟩
 ·obtain⟨o,es,ep,ho,r⟩:=hm;exact⟨o,es,ep,k _ o (ae4 hL) ho,r⟩
 ·refine (I.bI b u e).ud (λc v hc q=>k c v ?_ q) (λ_ q=>q) λ_ _ q=>q;rcases hc with z | z
  ·rw[z];exact nit b u e
  ·exact nit c _ z
def Inv.tok(I:Inv X pins σ H s)(t:Nat):Inv X pins σ H { s with toks:=t }:=I.un (h':=s.heap) (t':=t) Un.refl I.bI
def Inv.kept(I:Inv X pins σ H s)(k:∀b u,s.heap.get? b=some u->h'.get? b=some u):Inv X pins σ H { s with heap:=h',toks:=t' }:=I.un (Un.kept k) (I.bI.kept k)
def Inv.laid(I:Inv X pins σ H s)(k:∀b u,s.heap.get? b=some u->h'.get? b=some u)(hp:s.heap.objs.size<=a)(new:bW X.prog X.w (upd H a o) h' a o) :
  Inv X pins σ (upd H a o) { s with heap:=h',toks:=t' }:=I.un (Un.laid k hp (I.bI.fresh hp)) (I.bI.laid k hp new)
def Inv.write(I:Inv X pins σ H s)(mu:Mut (H x))(he:e=x\/H e=some (.own x))(k:∀b u,b≠e->s.heap.get? b=some u->h'.get? b=some u)(Mx:∃u,h'.get? e=some u) 
  (new:bW X.prog X.w (upd H x o) h' x o):Inv X pins σ (upd H x o) { s with heap:=h',toks:=t' }:=I.un (Un.write mu he k Mx) (I.bI.write mu he k Mx new)
def Inv.A_(I:Inv X pins σ H s)(h:∀p∈aaQ,s.heap.get? p.1=some p.2/\H p.1=none/\p.1≠X.env.locals/\p.1∉X.fs/\∀v,p.2.data≠.cell v):Inv X aaQ σ H s :=
 ⟨I.ok,I.os,I.bare,I.base,I.loc,I.cell,I.free,I.jL,λp hp=>(mC.mp hp).elim (λz=>I.pin p (p7 _ z)) (h p),I.bI,I.len⟩
def zp8{N:List Str}(hN:N.Nodup){i j:Nat}{x:Str}(a:N[i]? = some x)(b:N[j]? = some x):i=j:=by
 obtain⟨h1,e1⟩:=gf.mp a;obtain⟨h2,e2⟩:=gf.mp b;exact (List.getElem_inj hN).mp (e1.trans e2.symm)
def znw{M:Model}{A:Around}{E:Value->Shared->Prop}{i:Nat}{x:Str}{v:V}{u:Value}{Q:Unit->Shared->Prop}(I:Inv X pins σ H s)(hN:X.N.Nodup)(hi:X.N[i]? = some x)(hx:Loc X.env.scope x)(r:RelV v u)
  (h:∀s',Inv X pins (σ.set i (some v)) H s'->(∃a,Heap.SameBut a s.heap s'.heap/\(a=X.env.locals\/X.env.cells.lookup x=some a))->Q () s') (hf:X.fn x=true\/X.env.scope.names.lookup x=some .local:=by first | exact .inl rfl | exact .inr rfl | assumption):wpAny M A (storeName X.env x u) Q E s:=by
 obtain⟨m,hn,hl⟩:=id I.loc;have adP:(X.env.scope.kind == .class || (X.env.scope.kind == .module && X.env.locals != X.env.globals))=false:=by rw[I.ok.kind];rfl
 have aes:i<σ.length:=by rw[I.len];exact (gf.mp hi).1
 have Tv:=I.Tv;have tracked:∀{a:Addr} {h':Heap},(∃o,s.heap.get? a=some o/\H a=none)->Heap.SameBut a s.heap h'->lE X.prog X.w H h':=λ{a h'} ha hs b ob e=>by
  obtain⟨_,_,S_⟩:=ha;refine (I.bI b ob e).ud (λc w' hc q=>(hs.2 c ?_).trans q) (λ_ q=>q) λ_ _ q=>q;rintro rfl;rcases hc with rfl | hc
  ·rw[S_]at e;cases e
  ·rw[S_]at hc;cases hc
 rcases hx with hk | hk
 ·refine wpAny_storeName_local hk hn (λh' hn' hs=>?_) adP;obtain⟨oL,_,_,hoL,_⟩:=id hn;refine h _ ⟨I.ok,I.os,I.bare,⟨λb o e n hb hx=>?_,λb o e n hb hx=>?_,I.base.free,λb o e hx=>?_,I.base.uw,I.base.sG,I.base.uc⟩,⟨_,hn',λj y v' e1 e2 e3=>?_⟩,λy c e=>?_,I.free,I.jL,λp hp=>?_,tracked ⟨oL,hoL,I.free⟩ hs,by simpa using I.len⟩ ⟨_,hs,.inl rfl⟩
  ·exact (hs.2 b (gU (gQ (gw e) I.ok.above))).trans (I.base.keep b o e n hb hx)
  ·obtain⟨sl,e1⟩:=I.base.slot b o e n hb hx;exact⟨sl,(hs.2 b (gU (gQ (gw e) I.ok.above))).trans e1⟩
  ·obtain⟨o',e1⟩:=I.base.there b o e hx;exact⟨o',(hs.2 b (gU (gQ (gw e) I.ok.above))).trans e1⟩
  ·by_cases hj:j=i
   ·subst hj;rw[hi]at e1;cases e1;rw[k_ aes]at e2;cases e2;exact⟨u,r,.inl ⟨hk,by simp⟩⟩
   ·rw[gR (ae4 hj)]at e2;obtain⟨u',r',q⟩:=hl j y v' e1 e2 e3;refine⟨u',r',?_⟩;rcases q with⟨k,e⟩ | ⟨k,c,e,z⟩
    ·refine .inl ⟨k,?_⟩;have:y≠x:=λe=>hj (zp8 hN e1 (e ▸ hi));simp[this,e]
    ·exact .inr ⟨k,c,e,z.sameBut hs (Tv y c e)⟩
  ·obtain⟨w',z⟩:=I.cell y c e;exact⟨w',z.sameBut hs (Tv y c e)⟩
  ·obtain⟨e,n,ne,nf,d⟩:=I.pin p hp;exact⟨(hs.2 p.1 ne).trans e,n,ne,nf,d⟩
 ·have Xb:X.fn x=true:=by
   rcases hf with z | z
   ·exact z
   ·rw[z]at hk;cases hk
  obtain⟨c,hc⟩:=I.ok.has x (.inl hk);obtain⟨w',z⟩:=I.cell x c hc;refine wpAny_storeName_cell I.ok.kind hk hc z (λh' hc' hs=>?_);obtain⟨oc,hoc,adG⟩:=id z;refine h { s with heap:=h' } ⟨I.ok,I.os,I.bare,⟨λb o e n hb hx=>?_,λb o e n hb hx=>?_,I.base.free,λb o e hx=>?_,I.base.uw,I.base.sG,I.base.uc⟩,⟨m,hn.sameBut hs (ae4 (Tv x c hc)),λj y v' e1 e2 e3=>?_⟩,λy c' e=>?_,I.free,I.jL,λp hp=>?_,tracked ⟨oc,hoc,I.jL x c hc⟩ hs,by simpa using I.len⟩ ⟨c,hs,.inr hc⟩
  ·exact (hs.2 b (gU (gQ (gw e) (I.ok.Tz x c Xb hc)))).trans (I.base.keep b o e n hb hx)
  ·obtain⟨sl,e1⟩:=I.base.slot b o e n hb hx;exact⟨sl,(hs.2 b (gU (gQ (gw e) (I.ok.Tz x c Xb hc)))).trans e1⟩
  ·obtain⟨o',e1⟩:=I.base.there b o e hx;exact⟨o',(hs.2 b (gU (gQ (gw e) (I.ok.Tz x c Xb hc)))).trans e1⟩
  ·by_cases hj:j=i
   ·subst hj;rw[hi]at e1;cases e1;rw[k_ aes]at e2;cases e2;exact⟨u,r,.inr ⟨.inl hk,c,hc,hc'⟩⟩
   ·rw[gR (ae4 hj)]at e2;obtain⟨u',r',q⟩:=hl j y v' e1 e2 e3;refine⟨u',r',?_⟩;rcases q with q | ⟨k,c',e,z'⟩
    ·exact .inl q
    ·refine .inr ⟨k,c',e,z'.sameBut hs ?_⟩;rintro rfl;exact hj (zp8 hN e1 (I.ok.inj _ _ _ e hc ▸ hi))
  ·by_cases hcc:c'=c
   ·subst hcc;exact⟨_,hc'⟩
   ·obtain⟨w2,z2⟩:=I.cell y c' e;exact⟨w2,z2.sameBut hs hcc⟩
  ·obtain⟨e,n,ne,nf,d⟩:=I.pin p hp;refine⟨(hs.2 p.1 ?_).trans e,n,ne,nf,d⟩;intro q;rw[q,hoc]at e;have q':oc=p.2:=aeX e;exact d w' (by rw[<-q'];exact adG)
def zri(I:Inv X pins σ H s)(hN:X.N.Nodup)(hi:X.N[i]? = some x)(hx:Loc X.env.scope x)(r:RelV v u) 
  (h:∀s',Inv X pins (σ.set i (some v)) H s'->Q () s') (hf:X.fn x=true\/X.env.scope.names.lookup x=some .local:=by first | exact .inl rfl | exact .inr rfl | assumption):wpAny M A (storeName X.env x u) Q E s :=
 znw I hN hi hx r (λs' I' _=>h s' I') hf
def Inv.abR(I:Inv X pins σ H s)(ho:s'.os=s.os)(u:Un (BL X.stack) ch H H' s.heap s'.heap)(bI:lE X.prog X.w H' s'.heap)(hg:AllBare s'.gens) 
  (My:∀b∈ch,(b∈X.ex\/X.aeJ.heap.objs.size<=b)/\b≠X.env.locals/\(∀x c,X.env.cells.lookup x=some c->c≠b)/\∀p∈X.pn++pins,p.1≠b):Inv X pins σ H' s':=by
 obtain⟨h',g',d',t',o'⟩:=s';have e:o'=s.os:=ho;subst e;exact I.call (g':=g') (t':=t') (d':=d') u bI hg My
end
abbrev XK:=Value->Option Addr->Hp->Prop
abbrev St:=List (Option V)
abbrev VK:=V->Hp->Prop
abbrev TE:=St->Hp->VK->Prop
abbrev TT:=St->Hp->(Bool->Hp->Prop)->Prop
abbrev TA:=St->Hp->(List V->Hp->Prop)->Prop
structure Ends where
 nx:St->Hp->Prop
 rt:VK
 bk:St->Hp->Prop:=λ_ _=>False
 ct:St->Hp->Prop:=λ_ _=>False
abbrev TS:=Ends->St->Hp->Prop
def EP(X:Cx)(pins:List (Addr×Obj))(σ:St)(Q:VK)(u:Value)(s':Shared):Prop:=∃v H',Inv X pins σ H' s'/\RelV v u/\Q v H'
def TP(X:Cx)(pins:List (Addr×Obj))(σ:St)(Q:Bool->Hp->Prop)(b:Bool)(s':Shared):Prop:=∃H',Inv X pins σ H' s'/\Q b H'
def AP(X:Cx)(pins:List (Addr×Obj))(σ:St)(Q:List V->Hp->Prop)(us:List Value)(s':Shared):Prop:=∃vs H',Inv X pins σ H' s'/\Vals vs us/\Q vs H'
def SP(X:Cx)(pins:List (Addr×Obj))(D:Ends)(f:Flow)(s':Shared):Prop :=
 match f with
 | .next=>∃σ' H',Inv X pins σ' H' s'/\D.nx σ' H'
 | .brk=>∃σ' H',Inv X pins σ' H' s'/\D.bk σ' H'
 | .cont=>∃σ' H',Inv X pins σ' H' s'/\D.ct σ' H'
 | .ret u=>∃v σ' H',Inv X pins σ' H' s'/\RelV v u/\D.rt v H'
def PE(X:Cx)(e:Expr)(t:TE):Prop :=
 ∀(pins:List (Addr×Obj)) (s:Shared) (σ:St) (H:Hp) (Q:VK),Inv X pins σ H s->t σ H Q->wpAny (model X.prog X.w) X.A (eval e X.env) (EP X pins σ Q) X.xe s
def PT(X:Cx)(e:Expr)(t:TT):Prop :=
 ∀(pins:List (Addr×Obj)) (s:Shared) (σ:St) (H:Hp) (Q:Bool->Hp->Prop),Inv X pins σ H s->t σ H Q->wpAny (model X.prog X.w) X.A (isTrue e X.env (eval e X.env)) (TP X pins σ Q) X.xe s
def PW(X:Cx)(e:Expr)(t:TT):Prop :=
 ∀(whole:Sem Value) (pins:List (Addr×Obj)) (s:Shared) (σ:St) (H:Hp) (Q:Bool->Hp->Prop),Inv X pins σ H s->t σ H Q->wpAny (model X.prog X.w) X.A (isTrue e X.env whole) (TP X pins σ Q) X.xe s
def PW.pt(h:PW X e t):PT X e t:=h _
def PA(X:Cx)(es:List Expr)(t:TA):Prop :=
 ∀(pos:Pos) (pins:List (Addr×Obj)) (s:Shared) (σ:St) (H:Hp) (Q:List V->Hp->Prop),Inv X pins σ H s->t σ H Q->wpAny (model X.prog X.w) X.A (spliced (backTo pos (starEach es X.env))) (AP X pins σ Q) X.xe s
def PS(X:Cx)(st:Stmt)(t:TS):Prop :=
 ∀(pins:List (Addr×Obj)) (s:Shared) (σ:St) (H:Hp) (D:Ends),Inv X pins σ H s->t D σ H->wpAny (model X.prog X.w) X.A (exec st X.env) (SP X pins D) X.xe s
def yP(X:Cx)(st:List Stmt)(t:TS):Prop :=
 ∀(pins:List (Addr×Obj)) (s:Shared) (σ:St) (H:Hp) (D:Ends),Inv X pins σ H s->t D σ H->wpAny (model X.prog X.w) X.A (execs st X.env) (SP X pins D) X.xe s
def cI{α:Type}{t:Sem α}{Q Q':α->Shared->Prop}{M:Model}{A:Around}{E:Value->Shared->Prop}{s:Shared}(h:wpAny M A t Q E s)(hQ:∀a s,Q a s->Q' a s):wpAny M A t Q' E s:=ae6 h hQ λ_ _ x=>x
section
variable  {X:Cx}
def acq(i:Nat):TE:=fun σ H Q=>∃v,σ[i]? = some (some v)/\Q v H
def tC(v:V):TE:=λ_ H Q=>Q v H
def HW(hN:X.N[i]? = some x)(hv:Vis X.env.scope x)(hd:(x==("__debug__":Str))=false:=by decide)(xJ:(x==("__classdict__":Str))=false:=by decide):PE X (.Name x pos) (acq i):=by
 intro pins s σ H Q I h;obtain⟨v,e,h⟩:=h;obtain⟨m,hn,hl⟩:=I.loc;obtain⟨u,r,l⟩:=hl i x v hN e hv;have fin:EP X pins σ Q u s:=⟨v,H,I,r,h⟩;rcases l with⟨hk,hm⟩ | ⟨hk,c,hc,Td⟩
 ·exact wpAny_Name (wpAny_loadName_local I.ok.kind hk hn hm fin) hd
 ·rcases hk with hk | hk
  ·exact wpAny_Name (wpAny_loadName_cell I.ok.kind hk hc Td fin) hd
  ·exact wpAny_Name (wpAny_loadName_free I.ok.kind hk hc Td fin xJ) hd
def Vt{i j pos}:PE X (.Constant (.int i) j pos) (tC (.int i)):=λ_ _ _ H _ I h=>wpAny_Constant_int ⟨.int i,H,I.tok _,⟨_,rfl⟩,h⟩
def aaX{b j pos}:PE X (.Constant (.bool b) j pos) (tC (.bl b)):=λ_ _ _ H _ I h=>Constant_bool ⟨.bl b,H,I,rfl,h⟩
def Vq{j pos}:PE X (.Constant .none j pos) (tC .non):=λ_ _ _ H _ I h=>Constant_none ⟨.non,H,I,rfl,h⟩
def Vo{x j pos}:PE X (.Constant (.str x) j pos) (tC (.str x)):=λ_ _ _ H _ I h=>Calls.Constant_str ⟨.str x,H,I.tok _,⟨_,rfl⟩,h⟩
def Gl(X:Cx)(x:Str):Prop:=X.env.kindOf x=some .globalImplicit
def Z7(I:Inv X pins σ H s)(hg:Gl X x)(hm:X.mg x=some u)(h:Q u s) 
  (hd:(x==("__debug__":Str))=false:=by decide):wpAny (model X.prog X.w) X.A (eval (.Name x pos) X.env) Q E s :=
 Calls.Name_function_global I.ok.kind hg (Calls.loadGlobal_global (by rw[I.ok.glob];exact I.mod.glob.keeps I.bk) hm h) hd
def M3(I:Inv X pins σ H s)(hg:Gl X x)(hm:X.mg x=none)(hv:bootBuiltins x=some u)(h:Q u s) 
  (hn:x ≠ "__name__":=by decide) (hd:(x==("__debug__":Str))=false:=by decide):wpAny (model X.prog X.w) X.A (eval (.Name x pos) X.env) Q E s:=by
 obtain⟨mb,h1,h2⟩:=I.mod.blt;exact Calls.Name_function_global I.ok.kind hg (Calls.loadGlobal_builtin (by rw[I.ok.glob];exact I.mod.glob.keeps I.bk) hm (by rw[I.ok.blt];exact h1.keeps I.bk) ((h2 x hn).trans hv) h) hd
def O1(hg:Gl X x)(hm:X.mg x=some u)(r:RelV v u)(hd:(x==("__debug__":Str))=false:=by decide):PE X (.Name x pos) (tC v) :=
 λ_ _ _ H _ I h=>Z7 I hg hm ⟨v,H,I,r,h⟩ hd
def O8{x:Str}{v:V}{u:Value}{pos:Pos}(hg:Gl X x)(hm:X.mg x=none)(hv:bootBuiltins x=some u)(r:RelV v u)(hn:x ≠ "__name__":=by decide)(hd:(x==("__debug__":Str))=false:=by decide):PE X (.Name x pos) (tC v) :=
 λ_ _ _ H _ I h=>M3 I hg hm hv ⟨v,H,I,r,h⟩ hn hd
variable  {a b:Expr}{ta tb:TE}{pos:Pos}
variable  {tA tB':TT}{rest:List Expr}
def acD(t u:TT):TT:=fun σ H Q=>t σ H λc H1=>if c=true then u σ H1 Q else Q false H1
def tOr(t u:TT):TT:=fun σ H Q=>t σ H λc H1=>if c=true then Q true H1 else u σ H1 Q
def acw(t:TT):TT:=fun σ H Q=>t σ H λc H1=>Q (!c) H1
def Oa(ha:PT X a tA):PW X (.BoolOp .And [a] pos) tA:=by
 intro wh pins s σ H Q I h;refine isTrue_and (cI (ha pins s σ H Q I h) λc s1 e=>?_);cases c with
 | true=>exact isTrue_and_nil e
 | false=>exact e
def Va(ha:PT X a tA):PW X (.BoolOp .Or [a] pos) tA:=by
 intro wh pins s σ H Q I h;refine isTrue_or (cI (ha pins s σ H Q I h) λc s1 e=>?_);cases c with
 | false=>exact isTrue_or_nil e
 | true=>exact e
def Vb(ha:PT X a tA)(hb:PW X (.BoolOp .And (b::rest) pos) tB'):PW X (.BoolOp .And (a::b::rest) pos) (acD tA tB'):=by
 intro wh pins s σ H Q I h;refine isTrue_and (cI (ha pins s σ H _ I h) λc s1 zz=>?_);obtain⟨H1,I1,q1⟩:=zz;cases c with
 | true=>exact hb wh pins s1 σ H1 Q I1 q1
 | false=>exact⟨H1,I1,q1⟩
def aaM(ha:PT X a tA)(hb:PW X (.BoolOp .Or (b::rest) pos) tB'):PW X (.BoolOp .Or (a::b::rest) pos) (tOr tA tB'):=by
 intro wh pins s σ H Q I h;refine isTrue_or (cI (ha pins s σ H _ I h) λc s1 zz=>?_);obtain⟨H1,I1,q1⟩:=zz;cases c with
 | true=>exact⟨H1,I1,q1⟩
 | false=>exact hb wh pins s1 σ H1 Q I1 q1
def Vc(ha:PT X a tA):PT X (.UnaryOp .Not a pos) (acw tA):=by
 intro pins s σ H Q I h;exact isTrue_not (ha pins s σ H (λc H1=>Q (!c) H1) I h)
def aar(ta tb:TE):TE:=fun σ H Q=>ta σ H λx H1=>∃c,x=.bl c/\if c=true then tb σ H1 Q else Q (.bl false) H1
def acv(ta tb:TE):TE:=fun σ H Q=>ta σ H λx H1=>∃c,x=.bl c/\if c=true then Q (.bl true) H1 else tb σ H1 Q
def Vp{op}(h:PE X a t):PE X (.BoolOp op [a] pos) t:=λpins s σ H Q I hw=>BoolOp_one (h pins s σ H Q I hw)
def Vw(ha:PE X a ta)(hb:PE X (.BoolOp .And (b::rest) pos) tb):PE X (.BoolOp .And (a::b::rest) pos) (aar ta tb):=by
 intro pins s σ H Q I h;refine BoolOp_and (cI (ha pins s σ H _ I h) λv s1 zz=>?_);obtain⟨x,H1,I1,r1,q1⟩:=zz;obtain⟨c,rfl,q1⟩:=q1;cases r1;refine wpAny_truthy_bool ?_;cases c with
 | true=>exact hb pins s1 σ H1 Q I1 q1
 | false=>exact⟨.bl false,H1,I1,rfl,q1⟩
def aaT(ha:PE X a ta)(hb:PE X (.BoolOp .Or (b::rest) pos) tb):PE X (.BoolOp .Or (a::b::rest) pos) (acv ta tb):=by
 intro pins s σ H Q I h;refine BoolOp_or (cI (ha pins s σ H _ I h) λv s1 zz=>?_);obtain⟨x,H1,I1,r1,q1⟩:=zz;obtain⟨c,rfl,q1⟩:=q1;cases r1;refine wpAny_truthy_bool ?_;cases c with
 | false=>exact hb pins s1 σ H1 Q I1 q1
 | true=>exact⟨.bl true,H1,I1,rfl,q1⟩
def tIf(t:TT)(ta tb:TE):TE:=fun σ H Q=>t σ H λc H1=>if c=true then ta σ H1 Q else tb σ H1 Q
def HY{c:Expr}(hc:PT X c tA)(ha:PE X a ta)(hb:PE X b tb):PE X (.IfExp c a b pos) (tIf tA ta tb):=by
 intro pins s σ H Q I h;refine wpAny_IfExp (cI (hc pins s σ H _ I h) λd s1 zz=>?_);obtain⟨H1,I1,q1⟩:=zz;cases d with
 | true=>exact ha pins s1 σ H1 Q I1 q1
 | false=>exact hb pins s1 σ H1 Q I1 q1
end
def ou(K:PySem.W.Frag)(H:Hp)(a:Addr)(xs:List V):Prop :=
 Rd H a (.lst xs) \/
  ∃(o:Obj) (its:Array Value) (n:Nat),K.lookup a=some o/\o.cls=.type "list"/\o.dict=none/\o.data=.seq its n/\its.size<=sizeLine/\Vals xs its.toList
def oG(K:PySem.W.Frag)(H:Hp)(a:Addr)(xs:List V):Prop :=
 Rd H a (.tup xs) \/
  ∃(o:Obj) (its:Array Value) (n:Nat),K.lookup a=some o/\o.cls=.type "tuple"/\o.data=.seq its n/\its.size<=sizeLine/\Vals xs its.toList
noncomputable def aec:Value->Option V
 | .none=>some .non
 | .bool b=>some (.bl b)
 | .int i _=>some (.int i)
 | .str x _=>some (.str x)
 | .bytes b _=>some (.byt b)
 | .float b _=>some (.flt b)
 | .ref a=>some (.ref a)
 | .type n=>some (.ty n)
 | _=>none
def RelV.abs(r:RelV x u):aec u=some x:=by
 cases x with
 | non=>cases r;rfl
 | bl _=>cases r;rfl
 | int _=>obtain⟨t,rfl⟩:=r;rfl
 | str _=>obtain⟨t,rfl⟩:=r;rfl
 | byt _=>obtain⟨t,rfl⟩:=r;rfl
 | flt _=>obtain⟨t,rfl⟩:=r;rfl
 | ref _=>cases r;rfl
 | ty _=>cases r;rfl
def RelV.inj{x y:V}{u:Value}(r:RelV x u)(q:RelV y u):x=y:=aeX (r.abs.symm.trans q.abs)
theorem Vals.inj:∀{xs ys:List V} {us:List Value},Vals xs us->Vals ys us->xs=ys
 | _,_,_,.nil,.nil=>rfl
 | _,_,_,.cons r t,.cons r' t'=>by rw[r.inj r',Vals.inj t t']
section
variable  {X:Cx}{pins:List (Addr×Obj)}{σ:St}{H:Hp}{s:Shared}{a:Addr}{xs ys:List V}
def ou.of{K:PySem.W.Frag}(h:H a=some (.lst xs)):ou K H a xs:=.inl (.inl h)
def oG.of{K:PySem.W.Frag}(h:H a=some (.tup xs)):oG K H a xs:=.inl (.inl h)
def Inv.list(I:Inv X pins σ H s)(h:ou X.K H a xs):∃its:List Value,Vals xs its/\PlainL s.heap a its.toArray/\xs.length<=sizeLine:=by
 rcases h with h | ⟨o,its,n,hk,hc,hd,hs,hz,r⟩
 ·obtain⟨z,its,n,r,e⟩:=h.ok I.bI;exact⟨its,r,⟨_,n,e,rfl,rfl,rfl⟩,z⟩
 ·refine⟨its.toList,r,⟨o,n,I.qp a o hk,hc,hd,by simpa using hs⟩,?_⟩;have e:=r.length;simp only[nR]at e;omega
def Inv.tuple(I:Inv X pins σ H s)(h:oG X.K H a xs):∃its:List Value,Vals xs its/\IsTup s.heap a its.toArray/\xs.length<=sizeLine:=by
 rcases h with h | ⟨o,its,n,hk,hc,hs,hz,r⟩
 ·obtain⟨z,its,r,p⟩:=h.ok I.bI;exact⟨its,r,p,z⟩
 ·refine⟨its.toList,r,⟨o,I.qp a o hk,hc,n,by simpa using hs⟩,?_⟩;have e:=r.length;simp only[nR]at e;omega
def Inv.uL(I:Inv X pins σ H s)(h:ou X.K H a xs)(h':ou X.K H a ys):xs=ys:=by
 obtain⟨its,r,⟨o,n,e,_,_,d⟩,_⟩:=I.list h;obtain⟨its',r',⟨o',n',e',_,_,d'⟩,_⟩:=I.list h';rw[e]at e';cases e';rw[d]at d';injection d' with d1 _;have:its=its':=by simpa using congrArg Array.toList d1
 subst this;exact r.inj r'
def Inv.rK(I:Inv X pins σ H s)(h:oG X.K H a xs)(h':oG X.K H a ys):xs=ys:=by
 obtain⟨its,r,⟨o,e,_,n,d⟩,_⟩:=I.tuple h;obtain⟨its',r',⟨o',e',_,n',d'⟩,_⟩:=I.tuple h';rw[e]at e';cases e';rw[d]at d';injection d' with d1 _;have:its=its':=by simpa using congrArg Array.toList d1
 subst this;exact r.inj r'
end
noncomputable abbrev Cx.wish(X:Cx)(E:Value->Shared->Prop):Cx:={ X with xe:=E }
abbrev Cx.Iu(X:Cx):Cx:=X.wish λ_ _=>False
def Cx.Ok.wish{X:Cx}(ok:X.Ok)(E:Value->Shared->Prop):(X.wish E).Ok :=
 ⟨ok.mod,ok.kind,ok.glob,ok.blt,ok.above,ok.inj,ok.has,ok.Tz,ok.hd,ok.frames,ok.stk,ok.exf,ok.bs,ok.Fw,ok.DW,ok.Ky,ok.oN,ok.Kl⟩
def Cx.Ok.lJ{X:Cx}{E:Value->Shared->Prop}(ok:(X.wish E).Ok):X.Ok :=
 ⟨ok.mod,ok.kind,ok.glob,ok.blt,ok.above,ok.inj,ok.has,ok.Tz,ok.hd,ok.frames,ok.stk,ok.exf,ok.bs,ok.Fw,ok.DW,ok.Ky,ok.oN,ok.Kl⟩
section
variable  {X:Cx}{pins:List (Addr×Obj)}{σ:St}{H:Hp}{s:Shared}{E:Value->Shared->Prop}
def Inv.wish(I:Inv X pins σ H s)(E:Value->Shared->Prop):Inv (X.wish E) pins σ H s:=⟨I.ok.wish E,I.os,I.bare,I.base,I.loc,I.cell,I.free,I.jL,I.pin,I.bI,I.len⟩
def Inv.lJ(I:Inv (X.wish E) pins σ H s):Inv X pins σ H s:=⟨I.ok.lJ,I.os,I.bare,I.base,I.loc,I.cell,I.free,I.jL,I.pin,I.bI,I.len⟩
def SP.lJ(h:SP (X.wish E) pins D f s'):SP X pins D f s':=by
 cases f with
 | next=>obtain⟨σ',H',I,q⟩:=h;exact⟨σ',H',I.lJ,q⟩
 | brk=>obtain⟨σ',H',I,q⟩:=h;exact⟨σ',H',I.lJ,q⟩
 | cont=>obtain⟨σ',H',I,q⟩:=h;exact⟨σ',H',I.lJ,q⟩
 | ret u=>obtain⟨v,σ',H',I,r,q⟩:=h;exact⟨v,σ',H',I.lJ,r,q⟩
def yP.Iu{st:List Stmt}{t:TS}(h:yP X.Iu st t):yP X st t:=λpins s σ H D I hw =>
 ae6 (h pins s σ H D (I.wish _) hw) (λ_ _ q=>q.lJ) λ_ _ z=>False.elim z
end
section
variable  {X:Cx}{st:Stmt}{rest:List Stmt}{t u:TS}{e:Expr}{te:TE}{pos:Pos}
def aaj:TS:=λD σ H=>D.nx σ H
def acs(t u:TS):TS:=λD σ H=>t { D with nx:=u D } σ H
def Oh:yP X [] aaj:=λ_ _ σ H _ I h=>wpAny_execs_nil ⟨σ,H,I,h⟩
def Hw(h1:PS X st t)(h2:yP X rest u):yP X (st::rest) (acs t u):=by
 intro pins s σ H D I h;refine wpAny_execs_cons (cI (h1 pins s σ H { D with nx:=u D } I h) λf s1 q=>?_);cases f with
 | next =>
  obtain⟨σ',H',I',q⟩:=q;exact h2 pins s1 σ' H' D I' q
 | ret v=>exact q
 | brk=>exact q
 | cont=>exact q
def Og(h1:PS X st t):yP X [st] t:=by
 intro pins s σ H D I h;refine wpAny_execs_cons (cI (h1 pins s σ H D I h) λf s1 q=>?_);cases f with
 | next=>exact wpAny_execs_nil q
 | ret v=>exact q
 | brk=>exact q
 | cont=>exact q
def Uw:TS:=λD σ H=>D.bk σ H
def Hy:PS X (.Break pos) Uw:=λ_ _ σ H _ I h=>wpAny_Break ⟨σ,H,I,h⟩
def Inv.quiet(I:Inv X pins σ H s):interactive X.env=false:=by simp[interactive,I.ok.kind]
def aan(te:TE):TS:=λD σ H=>te σ H λ_ H1=>D.nx σ H1
def Oi(he:PE X e te)(hs:swapsWith e none pos.line X.env=pure false:=by rfl):PS X (.Expr e pos) (aan te):=by
 intro pins s σ H D I h;refine wpAny_Expr_any (cI (he pins s σ H _ I h) λv s1 zz=>?_) I.quiet hs;obtain⟨x,H1,I1,r1,q1⟩:=zz;exact⟨σ,H1,I1,q1⟩
def acu(te:TE):TS:=λD σ H=>te σ H D.rt
def Ve(he:PE X e te):PS X (.Return (some e) pos) (acu te):=by
 intro pins s σ H D I h;refine wpAny_Return_some (cI (he pins s σ H _ I h) λv s1 zz=>?_);obtain⟨x,H1,I1,r1,q1⟩:=zz;exact⟨x,σ,H1,I1,r1,q1⟩
def acz(c:TT)(t u:TS):TS:=λD σ H=>c σ H λb H1=>if b=true then t D σ H1 else u D σ H1
def aaO{c:Expr}{a b:List Stmt}{tc:TT}(hc:PT X c tc)(ha:yP X a t)(hb:yP X b u):PS X (.If c a b pos) (acz tc t u):=by
 intro pins s σ H D I h;refine wpAny_If (cI (hc pins s σ H _ I h) λd s1 zz=>?_);obtain⟨H1,I1,q1⟩:=zz;cases d with
 | true=>exact ha pins s1 σ H1 D I1 q1
 | false=>exact hb pins s1 σ H1 D I1 q1
end
abbrev TG:=V->St->Hp->(St->Hp->Prop)->Prop
abbrev TJ:=List V->St->Hp->(St->Hp->Prop)->Prop
def PG(X:Cx)(target:Expr)(t:TG):Prop :=
 ∀(pins:List (Addr×Obj)) (s:Shared) (σ:St) (H:Hp) (v:V) (u:Value) (Q:St->Hp->Prop),Inv X pins σ H s->RelV v u->t v σ H Q ->
  wpAny (model X.prog X.w) X.A (assign target X.env u) (λ_ s'=>∃σ' H',Inv X pins σ' H' s'/\Q σ' H') X.xe s
def ZM(X:Cx)(ts:List Expr)(t:TJ):Prop :=
 ∀(pins:List (Addr×Obj)) (s:Shared) (σ:St) (H:Hp) (vs:List V) (us:List Value) (Q:St->Hp->Prop),Inv X pins σ H s->Vals vs us->t vs σ H Q ->
  wpAny (model X.prog X.w) X.A (assignInOrder ((assignEach ts X.env).map (·.2)) us) (λ_ s'=>∃σ' H',Inv X pins σ' H' s'/\Q σ' H') X.xe s
abbrev Ls:=V->V->V->Hp->(Hp->Prop)->Prop
def wB(X:Cx)(t:Ls):Prop :=
 ∀(pins:List (Addr×Obj)) (s:Shared) (σ:St) (H:Hp) (o i v:V) (ov iv u:Value) (Q:Hp->Prop),Inv X pins σ H s->RelV o ov->RelV i iv->RelV v u->t o i v H Q ->
  wpAny (model X.prog X.w) X.A (setItem ov iv u) (λ_ s'=>∃H',Inv X pins σ H' s'/\Q H') X.xe s
section
variable  {X:Cx}{pos:Pos}
def BJ(i:Nat):TG:=λv σ H Q=>Q (σ.set i (some v)) H
def Oz(hN:X.N.Nodup)(hi:X.N[i]? = some x)(hx:Loc X.env.scope x)(hf:X.fn x=true\/X.env.scope.names.lookup x=some .local:=by first | exact .inl rfl | exact .inr rfl | assumption):PG X (.Name x pos) (BJ i):=by
 intro pins s σ H v u Q I r h;exact wpAny_assign_Name (zri I hN hi hx r (λs' I'=>⟨_,H,I',h⟩) hf)
def adV:TJ:=λvs σ H Q=>vs=[]/\Q σ H
def aby(t:TG)(u:TJ):TJ:=λvs σ H Q=>∃v r,vs=v::r/\t v σ H fun σ' H'=>u r σ' H' Q
def Ox:ZM X [] adV:=by
 intro pins s σ H vs us Q I r h;obtain⟨e,h⟩:=h;subst e;cases r;exact assignInOrder_nil ⟨σ,H,I,h⟩
def HS{e:Expr}{es:List Expr}{t:TG}{u:TJ}(h1:PG X e t)(h2:ZM X es u)
  (hs:(assignEach (e::es) X.env).map (·.2)=assign e X.env::(assignEach es X.env).map (·.2):=by rfl):ZM X (e::es) (aby t u):=by
 intro pins s σ H vs us Q I r h;obtain⟨v,vr,e1,h⟩:=h;subst e1;cases r with
 | cons r rr =>
  rw[hs];refine assignInOrder_cons (cI (h1 pins s σ H _ _ _ I r h) λ_ s1 zz=>?_);obtain⟨σ1,H1,I1,q1⟩:=zz;exact h2 pins s1 σ1 H1 _ _ Q I1 rr q1
def adT(K:PySem.W.Frag)(n:Nat)(t:TJ):TG:=λv σ H Q=>∃a xs,v=.ref a/\oG K H a xs/\xs.length=n/\t xs σ H Q
def Vl(hc:X.calm=true)(h:ZM X es t) 
  (hn:(assignEach es X.env).length=n:=by rfl) (Em:(assignEach es X.env).findIdx? (·.1)=none:=by rfl):PG X (.Tuple es k pos) (adT X.K n t):=by
 intro pins s σ H v u Q I r hw;obtain⟨a,xs,e1,hq,hl,hw⟩:=hw;subst e1;cases r;obtain⟨its,rv,ht,hz⟩:=I.tuple hq;refine assign_Tuple_tuple (I.ok.hd hc) ht (by simp[hn,<-hl,rv.length]) Em λh' hx=>?_;have I1:Inv X pins σ H { s with heap:=h' }:=I.kept (t':=s.toks) λb o e=>hx b o (gU (gw e)) e;exact h pins _ σ H xs _ Q I1 (by simpa using rv) hw
def adU(to ti:TE)(t:Ls):TG:=λv σ H Q=>to σ H λo H1=>ti σ H1 λi H2=>t o i v H2 λH3=>Q σ H3
def Vm{o i:Expr}{to ti:TE}{t:Ls}(ho:PE X o to)(hi:PE X i ti)(hs:wB X t)
  (ha:∀v,assign (.Subscript o i pos) X.env v=(do
   let ov <-holding [v] (eval o X.env)
   let iv <-holding [v,ov] (eval i X.env)
   standAt pos
   holding [v,ov,iv] (setItem ov iv v)
   release [v,ov,iv] []):=by intro _;rfl):PG X (.Subscript o i pos) (adU to ti t):=by
 intro pins s σ H v u Q I r h;rw[ha];refine aeS (afo (cI (ho pins s σ H _ I h) λov s1 zz=>?_));obtain⟨x,H1,I1,r1,q1⟩:=zz;refine aeS (afo (cI (hi pins s1 σ H1 _ I1 q1) λiv s2 zz=>?_));obtain⟨y,H2,I2,r2,q2⟩:=zz;refine aeS (wpAny_standAt (aeS (afo (cI (hs pins s2 σ H2 x y v ov iv u _ I2 r1 r2 r q2) λ_ s3 zz=>?_))));obtain⟨H3,I3,q3⟩:=zz;exact wpAny_release ⟨σ,H3,I3,q3⟩
def Ux(te:TE)(g:TG):TS:=λD σ H=>te σ H λx H1=>g x σ H1 D.nx
def Vh{tg e:Expr}{te:TE}{g:TG}(he:PE X e te)(hg:PG X tg g)(hs:swapsWithSole [tg] e pos.line X.env=pure false:=by rfl)(hw:swappedStores [tg] e X.env=pure none:=by rfl)
  (h1:(assignEach [tg] X.env).map (·.2)=[assign tg X.env]:=by rfl):PS X (.Assign [tg] e pos) (Ux te g):=by
 intro pins s σ H D I h;refine wpAny_Assign_stores (cI (he pins s σ H _ I h) λv s1 zz=>?_) hs hw;obtain⟨x,H1,I1,r1,q1⟩:=zz;rw[h1];exact cI (hg pins s1 σ H1 x v _ I1 r1 q1) λ_ s2 q=>q
def Vd{i:Nat}{x:Str}{e:Expr}{te:TE}{pos':Pos}(hN:X.N.Nodup)(hi:X.N[i]? = some x)(hx:Loc X.env.scope x)(he:PE X e te)(hs:swapsWith e (some (.Name x pos')) pos.line X.env=pure false:=by rfl)(hf:X.fn x=true\/X.env.scope.names.lookup x=some .local:=by first | exact .inl rfl | exact .inr rfl | assumption) :
  PS X (.Assign [.Name x pos'] e pos) (Ux te (BJ i)):=by
 intro pins s σ H D I h;refine wpAny_Assign_Name (cI (he pins s σ H _ I h) λv s1 zz=>?_) hs;obtain⟨y,H1,I1,r1,q1⟩:=zz;exact zri I1 hN hi hx r1 (λs2 I2=>⟨_,H1,I2,q1⟩) hf
end
section
variable  {X:Cx}{pos:Pos}
def Ur(c:TT)(tb:TS):TS:=λD σ H=>∃W:Nat->St->Hp->Prop,(∃m,W m σ H)/\∀m σ H,W m σ H ->
 c σ H λb H1=>if b=true then ∃N:St->Hp->Prop,(∀σ' H',N σ' H'->∃m',m'<m/\W m' σ' H')/\tb { D with nx:=N,ct:=N,bk:=D.nx } σ H1 else D.nx σ H1
def Hx{c:Expr}{body:List Stmt}{tc:TT}{tb:TS}(hp:PassesOwn (model X.prog X.w) X.A X.env X.xe)(hc:PT X c tc)(hb:yP X body tb):PS X (.While c body [] pos) (Ur tc tb):=by
 intro pins s σ H D I h;obtain⟨W,⟨m0,w0⟩,turn⟩:=h;refine wpAny_While (codeAny_whileLoop (λn s'=>∃σ' H',Inv X pins σ' H' s'/\W n σ' H') ?_ m0 ⟨σ,H,I,w0⟩);rintro n s1 ⟨σ1,H1,I1,w1⟩;refine afg hp (cI (hc pins s1 σ1 H1 _ I1 (turn n σ1 H1 w1)) λb s2 zz=>?_);obtain⟨H2,I2,q2⟩:=zz;cases b with
 | true =>
  obtain⟨N,hN,q2⟩:=q2;rw[aeT rfl];refine afg hp (cI (hb pins s2 σ1 H2 _ I2 q2) λf s3 q3=>?_);cases f with
  | next =>
   obtain⟨σ3,H3,I3,n3⟩:=q3;obtain⟨m',hm,w3⟩:=hN σ3 H3 n3;exact⟨m',hm,σ3,H3,I3,w3⟩
  | cont =>
   obtain⟨σ3,H3,I3,n3⟩:=q3;obtain⟨m',hm,w3⟩:=hN σ3 H3 n3;exact⟨m',hm,σ3,H3,I3,w3⟩
  | brk=>exact q3
  | ret v=>exact q3
 | false =>
  rw[aeU pF];exact wpAny_execs_nil ⟨σ1,H2,I2,q2⟩
end
structure It where
 go:Nat->Hp->Prop
 yld:Nat->Hp->V->Hp->Prop
 stop:Nat->Hp->Prop
def qe(X:Cx)(pins:List (Addr×Obj))(H:Hp)(b:Addr):Prop :=
 H b=none/\b≠X.env.locals/\b∉X.fs/\(b∈X.ex\/X.aeJ.heap.objs.size<=b)/\(∀x c,X.env.cells.lookup x=some c->c≠b)/\∀p∈X.pn++pins,p.1≠b
def Inv.uV(I:Inv X pins σ H s)(hb:s.heap.objs.size<=b)(hn:H' b=none):qe X pins H' b:=by
 refine⟨hn,mU (gQ I.lt hb),I.ado hb,.inr (kh I.sz hb),λx c e z=>?_,λp hp z=>?_⟩
 ·obtain⟨v,q⟩:=I.cell x c e;exact absurd (gQ q.lt (by rw[z];exact hb)) (mR _)
 ·exact absurd (gQ (gw (I.pin p hp).1) (by rw[z];exact hb)) (mR _)
structure Turn(P:Program)(w:World)(K:PySem.W.Frag)(tg:Expr)(J:It)(fp:List Addr)(it:Addr)(tn:Nat->Heap->Prop):Prop where
 mem:it∈fp
 obj:∀i h,tn i h->∀b∈fp,∃o,h.get? b=some o/\∀v,o.data≠.cell v
 keep:∀i h h',tn i h->(∀b∈fp,∀o,h.get? b=some o->h'.get? b=some o)->tn i h'
 item:∀(X:Cx),X.prog=P->X.w=w->X.K=K->X.calm=true->∀(i:Nat) (pins:List (Addr×Obj)) (s:Shared) (σ:St) (H:Hp) (E:Value->Shared->Prop),Inv X pins σ H s->(∀b∈fp,qe X pins H b)->tn i s.heap->J.go i H ->
  wpAny (model P w) X.A (pyNext (.ref it)) (λr s1=>∃u,r=some u /\
   wpAny (model P w) X.A (letOwnedTupleGo tg (.ref it) u) (λ_ s2=>∃x H',Inv X pins σ H' s2/\RelV x u/\J.yld i H x H'/\tn (i+1) s2.heap/\∀b∈fp,H' b=none) E s1) E s
 done:∀(X:Cx),X.prog=P->X.w=w->X.K=K->X.calm=true->∀(i:Nat) (pins:List (Addr×Obj)) (s:Shared) (σ:St) (H:Hp) (E:Value->Shared->Prop),Inv X pins σ H s->(∀b∈fp,qe X pins H b)->tn i s.heap->J.stop i H ->
  wpAny (model P w) X.A (pyNext (.ref it)) (λr s1=>r=none/\Inv X pins σ H s1) E s
 self:∀(A:Around) (i:Nat) (s:Shared) (Q:Value->Shared->Prop) (E:Value->Shared->Prop),tn i s.heap->Q (.ref it) s->wpAny (model P w) A (pyIter (.ref it)) Q E s
abbrev TI:=St->Hp->(It->Hp->Prop)->Prop
def PIE(X:Cx)(pins:List (Addr×Obj))(σ:St)(tg:Expr)(R:It->Hp->Prop)(itv:Value)(s2:Shared):Prop :=
 ∃(it:Addr) (fp:List Addr) (tn:Nat->Heap->Prop) (J:It) (H':Hp),itv=.ref it/\Inv X pins σ H' s2/\Turn X.prog X.w X.K tg J fp it tn/\tn 0 s2.heap/\(∀b∈fp,qe X pins H' b)/\R J H'
def PI(X:Cx)(tg iter:Expr)(wi:TI):Prop :=
 ∀(pins:List (Addr×Obj)) (s:Shared) (σ:St) (H:Hp) (R:It->Hp->Prop),Inv X pins σ H s->wi σ H R ->
  wpAny (model X.prog X.w) X.A (eval iter X.env) (λv s1=>wpAny (model X.prog X.w) X.A (pyIter v) (PIE X pins σ tg R) X.xe s1) X.xe s
def sW(ho:s.heap.get? it=some o)(hc:o.cls=.type n)(hd:o.data=.fields vs) 
  (hn:["enumerate","zip","dict_itemiterator","dict_reverseitemiterator","odict_iterator","itertools.zip_longest","itertools.pairwise"].contains n=false) (hQ:Q () s):wpAny M A (letOwnedTupleGo tg (.ref it) u) Q E s:=by
 unfold letOwnedTupleGo;cases tg<;>first
  | exact aeV hQ
  | (cases u<;>first
    | exact aeV hQ
    | (refine aeS (wpAny_load ho ?_)
       rw[hc,hd];show wpAny M A (if (["enumerate","zip","dict_itemiterator","dict_reverseitemiterator","odict_iterator","itertools.zip_longest","itertools.pairwise"].contains n && vs[0]? == some (rawInt _))=true then _ else _) Q E s;rw[aeU (by intro h;rw[hn,Bool.false_and]at h;cases h)];exact aeV hQ))
def Itl(K:PySem.W.Frag)(a:Addr):It :=
 ⟨λi H=>∃xs x,ou K H a xs/\xs[i]? = some x,λi H x H'=>H'=H/\∀xs,ou K H a xs->xs[i]? = some x,λi H=>∃xs,ou K H a xs/\xs.length<=i⟩
def Itt(K:PySem.W.Frag)(a:Addr):It :=
 ⟨λi H=>∃xs x,oG K H a xs/\xs[i]? = some x,λi H x H'=>H'=H/\∀xs,oG K H a xs->xs[i]? = some x,λi H=>∃xs,oG K H a xs/\xs.length<=i⟩
def Itr(lo:Int)(n:Nat):It:=⟨λi _=>i<n,λi H x H'=>H'=H/\x=.int (lo+i),λi _=>n<=i⟩
def Dd{P:Program}{w:World}{K:PySem.W.Frag}{tg:Expr}(a it:Addr):Turn P w K tg (Itl K a) [it] it (λi h=>h.IsListIter it a i) where
 mem:=by simp
 obj:=λi h st b hb=>by
  have e:b=it:=by simpa using hb
  subst e;obtain⟨o,e,c,d⟩:=st;exact⟨o,e,λv z=>by rw[d]at z;cases z⟩
 keep:=λi h h' st k=>st.at λo e=>k it (by simp) o e
 item:=by
  intro X hP hw hK hc i pins s σ H E I hf st hg;subst hP hw hK;obtain⟨xs,x,hq,hx⟩:=hg;obtain⟨its,rv,p,hz⟩:=I.list hq;obtain⟨u,hu,ru⟩:=rv.get hx;obtain⟨f0,f1,f2,f3,f4,f5⟩:=hf it (by simp);refine wpAny_pyNext_list_item st p.isList (x:=u) (by simpa using hu) λh' st' sb=>?_;have I1:Inv X pins σ H { s with heap:=h' }:=I.turned (t':=s.toks) (λb o hb e=>(sb.2 b hb).trans e) f0 f1 f3 f4 f5;obtain⟨o,e,c,d⟩:=id st';exact⟨u,rfl,sW (s:={ s with heap:=h' }) e c d (by decide) ⟨x,H,I1,ru,⟨rfl,λys hy=>by rw[I.uL hy hq];exact hx⟩,st',λb hb=>(hf b hb).1⟩⟩
 done:=by
  intro X hP hw hK hc i pins s σ H E I hf st hg;subst hP hw hK;obtain⟨xs,hq,hx⟩:=hg;obtain⟨its,rv,p,hz⟩:=I.list hq;obtain⟨f0,f1,f2,f3,f4,f5⟩:=hf it (by simp);have hl:=rv.length;exact wpAny_pyNext_list_end (I.ok.hd hc) st p.isList (by simp;omega) λh' eb=>⟨rfl,I.turned (t':=s.toks) (λb o hb e=>eb b o hb e) f0 f1 f3 f4 f5⟩
 self:=λ_ _ _ _ _ st h=>wpAny_pyIter_listiter st h
def zr7{P:Program}{w:World}{K:PySem.W.Frag}{tg:Expr}(a it:Addr):Turn P w K tg (Itt K a) [it] it (λi h=>h.IsTupleIter it a i) where
 mem:=by simp
 obj:=λi h st b hb=>by
  have e:b=it:=by simpa using hb
  subst e;obtain⟨o,e,c,d⟩:=st;exact⟨o,e,λv z=>by rw[d]at z;cases z⟩
 keep:=λi h h' st k=>st.at λo e=>k it (by simp) o e
 item:=by
  intro X hP hw hK hc i pins s σ H E I hf st hg;subst hP hw hK;obtain⟨xs,x,hq,hx⟩:=hg;obtain⟨its,rv,p,hz⟩:=I.tuple hq;obtain⟨u,hu,ru⟩:=rv.get hx;obtain⟨f0,f1,f2,f3,f4,f5⟩:=hf it (by simp);refine wpAny_pyNext_tuple_item st (show s.heap.IsTuple a its.toArray from p) (x:=u) (by simpa using hu) λh' st' sb=>?_;have I1:Inv X pins σ H { s with heap:=h' }:=I.turned (t':=s.toks) (λb o hb e=>(sb.2 b hb).trans e) f0 f1 f3 f4 f5;obtain⟨o,e,c,d⟩:=id st';exact⟨u,rfl,sW (s:={ s with heap:=h' }) e c d (by decide) ⟨x,H,I1,ru,⟨rfl,λys hy=>by rw[I.rK hy hq];exact hx⟩,st',λb hb=>(hf b hb).1⟩⟩
 done:=by
  intro X hP hw hK hc i pins s σ H E I hf st hg;subst hP hw hK;obtain⟨xs,hq,hx⟩:=hg;obtain⟨its,rv,p,hz⟩:=I.tuple hq;obtain⟨f0,f1,f2,f3,f4,f5⟩:=hf it (by simp);have hl:=rv.length;exact wpAny_pyNext_tuple_end (I.ok.hd hc) st (show s.heap.IsTuple a its.toArray from p) (by simp;omega) λh' eb=>⟨rfl,I.turned (t':=s.toks) (λb o hb e=>eb b o hb e) f0 f1 f3 f4 f5⟩
 self:=λ_ _ _ _ _ st h=>wpAny_pyIter_tupleiter st h
def zsh{P:Program}{w:World}{K:PySem.W.Frag}{tg:Expr}(it:Addr)(lo:Int)(n:Nat):Turn P w K tg (Itr lo n) [it] it (λi h=>IsRangeIter h it (lo+(i:Nat)*1) ((n:Int) - (i:Nat)) 1) where
 mem:=by simp
 obj:=λi h st b hb=>by
  have e:b=it:=by simpa using hb
  subst e;exact⟨_,st,λv z=>by
   have z':Data.fields _=Data.cell v:=z;cases z'⟩
 keep:=λi h h' st k=>k it (by simp) _ st
 item:=by
  intro X hP hw hK hc i pins s σ H E I hf st hg;subst hP hw hK;obtain⟨f0,f1,f2,f3,f4,f5⟩:=hf it (by simp);have W:=Walks.range (prog:=X.prog) (w:=X.w) (I.ok.hd hc) it lo 1 n;refine W.item i s _ _ hg st λv h' tk hv st' kk=>?_;obtain⟨t,rfl⟩:=hv;have I1:Inv X pins σ H { s with heap:=h',toks:=tk }:=I.turned (λb o hb e=>kk b o (by simpa using hb) e) f0 f1 f3 f4 f5;refine⟨_,rfl,sW (s:={ s with heap:=h',toks:=tk }) (n:="range_iterator") st' rfl rfl (by decide) ⟨.int (lo+i),H,I1,⟨t,?_⟩,⟨rfl,rfl⟩,st',λb hb=>(hf b hb).1⟩⟩;rw[Int.mul_one]
 done:=by
  intro X hP hw hK hc i pins s σ H E I hf st hg;subst hP hw hK;obtain⟨f0,f1,f2,f3,f4,f5⟩:=hf it (by simp);exact wpAny_pyNext_range_end (I.ok.hd hc) st (by have:n<=i:=hg;omega) λh' eb=>⟨rfl,I.turned (t':=s.toks) (λb o hb e=>eb b o hb e) f0 f1 f3 f4 f5⟩
 self:=λ_ _ _ _ _ st h=>wpAny_pyIter_rangeiter st h
section
variable  {X:Cx}{tg:Expr}
def abk(K:PySem.W.Frag)(tl:TE):TI:=fun σ H R=>tl σ H λx H1=>∃a,x=.ref a/\(∃xs,ou K H1 a xs)/\R (Itl K a) H1
def adx(K:PySem.W.Frag)(tl:TE):TI:=fun σ H R=>tl σ H λx H1=>∃a,x=.ref a/\(∃xs,oG K H1 a xs)/\R (Itt K a) H1
def Ov{l:Expr}{tl:TE}(hl:PE X l tl):PI X tg l (abk X.K tl):=by
 intro pins s σ H R I h;refine cI (hl pins s σ H _ I h) λv s1 zz=>?_;obtain⟨x,H1,I1,r1,q1⟩:=zz;obtain⟨a,e,⟨xs,hq⟩,q⟩:=q1;subst e;cases r1;obtain⟨its,rv,p,hz⟩:=I1.list hq;refine wpAny_pyIter_list p.isList ?_;refine⟨s1.heap.objs.size,[s1.heap.objs.size],_,_,H1,rfl,I1.kept (t':=s1.toks) λb o e=>gF _ e,Dd a _,⟨_,gZ _ rfl,rfl,rfl⟩,λb hb=>?_,q⟩;have e:b=s1.heap.objs.size:=by simpa using hb
 subst e;exact I1.uV (gb _) (I1.bI.fresh (gb _))
def Vi{l:Expr}{tl:TE}(hl:PE X l tl):PI X tg l (adx X.K tl):=by
 intro pins s σ H R I h;refine cI (hl pins s σ H _ I h) λv s1 zz=>?_;obtain⟨x,H1,I1,r1,q1⟩:=zz;obtain⟨a,e,⟨xs,hq⟩,q⟩:=q1;subst e;cases r1;obtain⟨its,rv,p,hz⟩:=I1.tuple hq;refine wpAny_pyIter_tuple (show s1.heap.IsTuple a its.toArray from p) ?_;refine⟨s1.heap.objs.size,[s1.heap.objs.size],_,_,H1,rfl,I1.kept (t':=s1.toks) λb o e=>gF _ e,zr7 a _,⟨_,gZ _ rfl,rfl,rfl⟩,λb hb=>?_,q⟩;have e:b=s1.heap.objs.size:=by simpa using hb
 subst e;exact I1.uV (gb _) (I1.bI.fresh (gb _))
def Hm{pins:List (Addr×Obj)}{σ:St}{H:Hp}{s:Shared}{R:It->Hp->Prop}{E:Value->Shared->Prop}{lo hi:Int}{t u v:Tok}{tk:Nat}(I:Inv X pins σ H s)(h1:-(2 ^ 62)<=lo)(h2:lo<2 ^ 62)(h3:-(2 ^ 62)<=hi)(h4:hi<2 ^ 62)
  (q:R (Itr lo (hi - lo).toNat) H):wpAny (model X.prog X.w) X.A (pyIter (.ref s.heap.objs.size)) (PIE X pins σ tg R) E { s with heap:=s.heap.push { cls:=.type "range",data:=.fields #[.int lo t,.int hi u,.int 1 v] },toks:=tk }:=by
 refine wpAny_pyIter_range (IsRange.new ..) (small_one h1 h2 h3 h4) ?_;have I1:Inv X pins σ H { s with heap:=s.heap.push { cls:=.type "range",data:=.fields #[.int lo t,.int hi u,.int 1 v] },toks:=tk }:=I.kept λb o e=>gF _ e;refine⟨(s.heap.push { cls:=.type "range",data:=.fields #[.int lo t,.int hi u,.int 1 v] }).objs.size,[(s.heap.push { cls:=.type "range",data:=.fields #[.int lo t,.int hi u,.int 1 v] }).objs.size],_,_,H,rfl,
  I1.kept (t':=tk) λb o e=>gF _ e,zsh _ lo (hi - lo).toNat,?_,λb hb=>?_,q⟩
 ·have e1:lo+((0:Nat):Int)*1=lo:=by simp
  have e2:(((hi - lo).toNat:Nat):Int) - ((0:Nat):Int)=Builtin.Range.rangeSize lo hi 1:=by rw[rangeSize_one];split<;>omega
  show IsRangeIter _ _ (lo+((0:Nat):Int)*1) ((((hi - lo).toNat:Nat):Int) - ((0:Nat):Int)) 1;rw[e1,e2];exact gZ _ rfl
 ·have e:b=(s.heap.push { cls:=.type "range",data:=.fields #[.int lo t,.int hi u,.int 1 v] }).objs.size:=by simpa using hb
  subst e;exact I1.uV (gb _) (I1.bI.fresh (gb _))
def abh(ta:TA):TI:=fun σ H R=>ta σ H λvs H1=>∃j:Int,vs=[.int j]/\-(2 ^ 62)<=j/\j<2 ^ 62/\R (Itr 0 j.toNat) H1
def DN{a:Expr}{ta:TA}{p pos:Pos}(hg:Gl X "range")(hm:X.mg "range" = none)(ha:PA X [a] ta)(hs:starEach [a] X.env=[(false,eval a X.env)]:=by rfl):PI X tg (.Call (.Name "range" p) [a] [] pos) (abh ta):=by
 intro pins s σ H R I h;refine Call_ (M3 I hg hm boot_range (ae1 (cI (ha pos pins s σ H _ I h) λus s1 zz=>?_) hs rfl));obtain⟨vs,H1,I1,r1,q1⟩:=zz;obtain⟨j,e,q1,q2,q⟩:=q1;subst e;cases r1 with
 | cons r rr =>
  cases rr;obtain⟨t,rfl⟩:=r;exact call_range_1 (Hm I1 (by omega) (by omega) q1 q2 (by simpa using q))
def acA(wi:TI)(g:TG)(tb:TS):TS:=λD σ H=>wi σ H λJ H1=>∃W:Nat->Nat->St->Hp->Prop,(∃m,W 0 m σ H1)/\∀i m σ H,W i m σ H ->
 (J.stop i H/\D.nx σ H)\/(J.go i H/\∃N:St->Hp->Prop,(∀σ' H',N σ' H'->∃m',m'<m/\W (i+1) m' σ' H')/\∀x H',J.yld i H x H'->g x σ H' fun σ2 H2=>tb { D with nx:=N,ct:=N,bk:=D.nx } σ2 H2)
def uI(fp:List Addr)(h:Heap):List (Addr×Obj):=fp.filterMap λb=>(h.get? b).map λo=>(b,o)
def zfk(hb:b∈fp)(e:h.get? b=some o):(b,o)∈uI fp h:=pG.mpr ⟨b,hb,by rw[e];rfl⟩
def DR(hp:p∈uI fp h):p.1∈fp/\h.get? p.1=some p.2:=by
 obtain⟨b,hb,e⟩:=pG.mp hp;cases q:h.get? b with
 | none=>rw[q]at e;cases e
 | some o =>
  rw[q]at e;have e':(b,o)=p:=aeX e;subst e';exact⟨hb,q⟩
def Inv.pinned(I:Inv X pins σ H s)(hf:∀b∈fp,qe X pins H b)(ho:∀b∈fp,∃o,s.heap.get? b=some o/\∀v,o.data≠.cell v):Inv X (pins++uI fp s.heap) σ H s :=
 I.A_ λp hp=>(mC.mp hp).elim (λz=>I.pin p (mO _ z)) λz=>by
  obtain⟨hb,e⟩:=DR z;obtain⟨f0,f1,f2,_⟩:=hf p.1 hb;obtain⟨o,e',d⟩:=ho p.1 hb;rw[e]at e';cases e';exact⟨e,f0,f1,f2,d⟩
def Inv.qu(I:Inv X (pins++pl) σ H s):Inv X pins σ H s:=I.A_ λp hp=>I.pin p (mO _ (p7 _ hp))
def Vf{iter:Expr}{body:List Stmt}{wi:TI}{g:TG}{tb:TS}{pos:Pos}(hp:PassesOwn (model X.prog X.w) X.A X.env X.xe)(hc:X.calm=true)(hi:PI X tg iter wi)(hg:PG X tg g)(hb:yP X body tb)
  (hs:∀x,foldedSetIterable iter X.env x=pure x:=by intro _;rfl):PS X (.For tg iter body [] pos) (acA wi g tb):=by
 intro pins s σ H D I h;refine wpAny_For (cI (hi pins s σ H _ I h) λv s1 h1=>cI h1 λitv s2 h2=>?_) hs;obtain⟨it,fp,tn,J,H2,e,I2,T,st2,f2,W,⟨m0,w0⟩,turn⟩:=h2;subst e

 have stat:∀{H':Hp},(∀b∈fp,H' b=none)->∀b∈fp,qe X pins H' b:=λhn b hb=>⟨hn b hb,(f2 b hb).2⟩;refine codeAny_forLoop_any (λn s'=>∃i σ' H',Inv X pins σ' H' s'/\tn i s'.heap/\(∀b∈fp,H' b=none)/\W i n σ' H') ?_ m0 ⟨0,σ,H2,I2,st2,λb hb=>(f2 b hb).1,w0⟩;rintro n s3 ⟨i,σ3,H3,I3,ig,fr3,w3⟩;rcases turn i n σ3 H3 w3 with⟨stop,qn⟩ | ⟨go,N,hN,step⟩
 ·refine afg hp (cI (T.done X rfl rfl rfl hc i pins s3 σ3 H3 X.xe I3 (stat fr3) ig stop) λr s4 zz=>?_);obtain⟨hr,I4⟩:=zz;subst hr;exact wpAny_execs_nil ⟨σ3,H3,I4,qn⟩
 ·refine afg hp (cI (T.item X rfl rfl rfl hc i pins s3 σ3 H3 X.xe I3 (stat fr3) ig go) λr s4 zz=>?_);obtain⟨u,hr,h4⟩:=zz;subst hr;refine afg hp (cI h4 λ_ s5 zz=>?_);obtain⟨x,H5,I5,r5,y5,Mq,fr5⟩:=zz;have I5':=I5.pinned (stat fr5) (T.obj _ _ Mq);refine afg hp (cI (hg _ s5 σ3 H5 x u _ I5' r5 (step x H5 y5)) λ_ s6 zz=>?_);obtain⟨σ6,H6,I6,q6⟩:=zz;refine afg hp (cI (hb _ s6 σ6 H6 _ I6 q6) λf s7 q7=>?_);have again:∀{σ7:St} {H7:Hp},Inv X (pins++uI fp s5.heap) σ7 H7 s7->N σ7 H7->∃m,m<n/\∃i σ' H',Inv X pins σ' H' s7/\tn i s7.heap/\(∀b∈fp,H' b=none)/\W i m σ' H':=λ{σ7 H7} I7 n7=>by
   obtain⟨m',hm,w7⟩:=hN σ7 H7 n7;refine⟨m',hm,i+1,σ7,H7,I7.qu,T.keep _ _ _ Mq λb hb o e=>(I7.pin (b,o) (mO _ (mO _ (zfk hb e)))).1,λb hb=>?_,w7⟩;obtain⟨o,e,d⟩:=T.obj _ _ Mq b hb;exact (I7.pin (b,o) (mO _ (mO _ (zfk hb e)))).2.1
  cases f with
  | next=>obtain⟨σ7,H7,I7,n7⟩:=q7;exact again I7 n7
  | cont=>obtain⟨σ7,H7,I7,n7⟩:=q7;exact again I7 n7
  | brk=>obtain⟨σ7,H7,I7,q7⟩:=q7;exact⟨σ7,H7,I7.qu,q7⟩
  | ret v=>obtain⟨x7,σ7,H7,I7,r7,q7⟩:=q7;exact⟨x7,σ7,H7,I7.qu,r7,q7⟩
end
abbrev R2:=V->V->Hp->VK->Prop
def dZ(X:Cx)(f:Value->Value->Sem Value)(r:R2):Prop :=
 ∀(pins:List (Addr×Obj)) (s:Shared) (σ:St) (H:Hp) (x y:V) (v u:Value) (Q:VK),Inv X pins σ H s->RelV x v->RelV y u->r x y H Q ->
  wpAny (model X.prog X.w) X.A (f v u) (EP X pins σ Q) X.xe s
def Rz(X:Cx)(f:Value->Sem Value)(r:V->Hp->VK->Prop):Prop :=
 ∀(pins:List (Addr×Obj)) (s:Shared) (σ:St) (H:Hp) (x:V) (v:Value) (Q:VK),Inv X pins σ H s->RelV x v->r x H Q ->
  wpAny (model X.prog X.w) X.A (f v) (EP X pins σ Q) X.xe s
def cB(X:Cx)(f:Value)(r:List V->Hp->VK->Prop):Prop :=
 ∀(pins:List (Addr×Obj)) (s:Shared) (σ:St) (H:Hp) (xs:List V) (us:List Value) (Q:VK),Inv X pins σ H s->Vals xs us->r xs H Q ->
  wpAny (model X.prog X.w) X.A (call f us) (EP X pins σ Q) X.xe s
def aed(X:Cx)(r:V->Hp->(Bool->Hp->Prop)->Prop):Prop :=
 ∀(pins:List (Addr×Obj)) (s:Shared) (σ:St) (H:Hp) (x:V) (v:Value) (Q:Bool->Hp->Prop),Inv X pins σ H s->RelV x v->r x H Q ->
  wpAny (model X.prog X.w) X.A (truthy v) (TP X pins σ Q) X.xe s
def tOp(r:R2)(ta tb:TE):TE:=fun σ H Q=>ta σ H λx H1=>tb σ H1 λy H2=>r x y H2 Q
def tUn(r:V->Hp->VK->Prop)(ta:TE):TE:=fun σ H Q=>ta σ H λx H1=>r x H1 Q
def rI(C:Int->Int->Prop)(g:Int->Int->V):R2:=λx y H Q=>∃i j,x=.int i/\y=.int j/\C i j/\Q (g i j) H
def U9(g:Int->Int->V):R2:=λx y H Q=>∃i j,x=.int i/\y=.int j/\Q (g i j) H
def rU(g:Int->V):V->Hp->VK->Prop:=λx H Q=>∃i,x=.int i/\Q (g i) H
section
variable  {X:Cx}{a b c:Expr}{ta tb tc:TE}{pos:Pos}
def XD(ha:PE X a ta)(hb:PE X b tb){pins:List (Addr×Obj)}{s:Shared}{σ:St}{H:Hp}{R:V->V->Hp->Prop}(I:Inv X pins σ H s)
  (h:ta σ H λx H1=>tb σ H1 λy H2=>R x y H2) {Q:Value->Shared->Prop} {f:Value->Value->Sem Value}
  (hf:∀v u s2 x y H2,Inv X pins σ H2 s2->RelV x v->RelV y u->R x y H2->wpAny (model X.prog X.w) X.A (f v u) Q X.xe s2) :
  wpAny (model X.prog X.w) X.A (eval a X.env) (λv aeI=>wpAny (model X.prog X.w) X.A (eval b X.env) (λu aeH=>wpAny (model X.prog X.w) X.A (f v u) Q X.xe aeH) X.xe aeI) X.xe s:=by
 refine cI (ha pins s σ H _ I h) λv s1 zz=>?_;obtain⟨x,H1,I1,r1,q1⟩:=zz;refine cI (hb pins s1 σ H1 _ I1 q1) λu s2 zz=>?_;obtain⟨y,H2,I2,r2,q2⟩:=zz;exact hf v u s2 x y H2 I2 r1 r2 q2
def aaU{op:Operator}{r:R2}(ho:dZ X (binaryOp op) r)(ha:PE X a ta)(hb:PE X b tb):PE X (.BinOp a op b pos) (tOp r ta tb):=by
 intro pins s σ H Q I h;exact wpAny_BinOp (XD ha hb I h λv u s2 x y H2 I2 rx ry q=>ho pins s2 σ H2 x y v u Q I2 rx ry q)
def aaS{op:UnaryOp}{r:V->Hp->VK->Prop}(ho:Rz X (unaryOp op) r)(ha:PE X a ta):PE X (.UnaryOp op a pos) (tUn r ta):=by
 intro pins s σ H Q I h;refine UnaryOp_ (cI (ha pins s σ H _ I h) λv s1 zz=>?_);obtain⟨x,H1,I1,r1,q1⟩:=zz;exact ho pins s1 σ H1 x v Q I1 r1 q1
def opI{f:Value->Value->Sem Value}{C:Int->Int->Prop}{g:Int->Int->Int}
  (rule:∀(i j:Int) (t u:Tok) (s:Shared) (Q:Value->Shared->Prop) (E:Value->Shared->Prop),C i j->Q (.int (g i j) s.toks) { s with toks:=s.toks+1 }->wpAny (model X.prog X.w) X.A (f (.int i t) (.int j u)) Q E s) :
  dZ X f (rI C λi j=>.int (g i j)):=by
 intro pins s σ H x y v u Q I rx ry h;obtain⟨i,j,rfl,rfl,hc,q⟩:=h;obtain⟨t,rfl⟩:=rx;obtain⟨t',rfl⟩:=ry;exact rule i j t t' s _ _ hc ⟨.int (g i j),H,I.tok _,⟨_,rfl⟩,q⟩
def aa0{f:Value->Value->Sem Value}{g:Int->Int->Int}
  (rule:∀(i j:Int) (t u:Tok) (s:Shared) (Q:Value->Shared->Prop) (E:Value->Shared->Prop),Q (.int (g i j) s.toks) { s with toks:=s.toks+1 }->wpAny (model X.prog X.w) X.A (f (.int i t) (.int j u)) Q E s) :
  dZ X f (U9 λi j=>.int (g i j)):=by
 intro pins s σ H x y v u Q I rx ry h;obtain⟨i,j,rfl,rfl,q⟩:=h;obtain⟨t,rfl⟩:=rx;obtain⟨t',rfl⟩:=ry;exact rule i j t t' s _ _ ⟨.int (g i j),H,I.tok _,⟨_,rfl⟩,q⟩
def aa1{f:Value->Value->Sem Value}{g:Int->Int->Bool}
  (rule:∀(i j:Int) (t u:Tok) (s:Shared) (Q:Value->Shared->Prop) (E:Value->Shared->Prop),Q (.bool (g i j)) s->wpAny (model X.prog X.w) X.A (f (.int i t) (.int j u)) Q E s) :
  dZ X f (U9 λi j=>.bl (g i j)):=by
 intro pins s σ H x y v u Q I rx ry h;obtain⟨i,j,rfl,rfl,q⟩:=h;obtain⟨t,rfl⟩:=rx;obtain⟨t',rfl⟩:=ry;exact rule i j t t' s _ _ ⟨.bl (g i j),H,I,rfl,q⟩
def X_(i j:Int):Prop:=(-(2 ^ 64)<i/\i<2 ^ 64)\/(-(2 ^ 64)<j/\j<2 ^ 64)
def X_.ok(h:X_ i j):IntMulOk i j:=by
 rcases h with⟨h1,h2⟩ | ⟨h1,h2⟩
 ·exact .of_left (intBits_le_64 h1 h2)
 ·exact .of_right (intBits_le_64 h1 h2)
def VF:dZ X (binaryOp .Add) (U9 λi j=>.int (i+j)):=aa0 λ_ _ _ _ _ _ _ q=>add_int q
def Vx:dZ X (binaryOp .Sub) (U9 λi j=>.int (i - j)):=aa0 λ_ _ _ _ _ _ _ q=>sub_int q
def Vy:dZ X (binaryOp .Mult) (rI X_ λi j=>.int (i*j)):=opI λ_ _ _ _ _ _ _ hc q=>mul_int q hc.ok
def Vz:dZ X (binaryOp .Mod) (rI (λ_ j=>0<j) λi j=>.int (i % j)):=opI λi j _ _ _ _ _ hc q=>by
 have h1:(0:Int)<j:=hc;exact mod_int' (by omega) (by rw[Int.fmod_eq_emod_of_nonneg i (by omega)];exact q)
def unI{f:Value->Sem Value}{g:Int->Int}
  (rule:∀(i:Int) (t:Tok) (s:Shared) (Q:Value->Shared->Prop) (E:Value->Shared->Prop),Q (.int (g i) s.toks) { s with toks:=s.toks+1 }->wpAny (model X.prog X.w) X.A (f (.int i t)) Q E s) :
  Rz X f (rU λi=>.int (g i)):=by
 intro pins s σ H x v Q I rx h;obtain⟨i,rfl,q⟩:=h;obtain⟨t,rfl⟩:=rx;exact rule i t s _ _ ⟨.int (g i),H,I.tok _,⟨_,rfl⟩,q⟩
def Uq:Rz X (unaryOp .USub) (rU λi=>.int (-i)):=unI λ_ _ _ _ _ q=>neg_int q
end
section
variable  {X:Cx}{a b c:Expr}{ta tb tc:TE}{pos:Pos}
def Kv(I:Inv X pins σ H s)(q:Q (.bl k) H)(e:k=k'):EP X pins σ Q (.bool k') s:=by
 subst e;exact⟨.bl k,H,I,rfl,q⟩
def aaY:dZ X (compareOp .Lt) (U9 λi j=>.bl (decide (i<j))):=aa1 λ_ _ _ _ _ _ _ q=>lt_int q
def aaZ:dZ X (compareOp .Gt) (U9 λi j=>.bl (decide (j<i))):=aa1 λ_ _ _ _ _ _ _ q=>gt_int q
def VB:dZ X (compareOp .Is) (λx y H Q=>y=.non/\Q (.bl (decide (x=.non))) H):=by
 intro pins s σ H x y v u Q I rx ry h;obtain⟨rfl,q⟩:=h;cases ry;refine is_none_gen (Kv I q ?_);cases x<;>first
  | (cases rx;rfl)
  | (obtain⟨t,rfl⟩:=rx;rfl)
def Pb:dZ X (compareOp .IsNot) (λx y H Q=>y=.non/\Q (.bl (!decide (x=.non))) H):=by
 intro pins s σ H x y v u Q I rx ry h;obtain⟨rfl,q⟩:=h;cases ry;refine isnot_none_gen (Kv I q ?_);cases x<;>first
  | (cases rx;rfl)
  | (obtain⟨t,rfl⟩:=rx;rfl)
def dZ.or{f:Value->Value->Sem Value}{r r':R2}(h:dZ X f r)(h':dZ X f r'):dZ X f (λx y H Q=>r x y H Q\/r' x y H Q):=by
 intro pins s σ H x y v u Q I rx ry q;rcases q with q | q
 ·exact h pins s σ H x y v u Q I rx ry q
 ·exact h' pins s σ H x y v u Q I rx ry q
def O6{op:CmpOp}{r:R2}(ho:dZ X (compareOp op) r)(ha:PE X a ta)(hb:PE X b tb)(hm:behindInMarks op b=false):PE X (.Compare a [op] [b] pos) (tOp r ta tb):=by
 intro pins s σ H Q I h;exact wpAny_Compare1 (XD ha hb I h λv u s2 x y H2 I2 rx ry q=>ho pins s2 σ H2 x y v u Q I2 rx ry q) hm
def aag(t:TE):TT:=fun σ H Q=>t σ H λx H'=>∃k,x=.bl k/\Q k H'
def Oe{op:CmpOp}{r:R2}(ho:dZ X (compareOp op) r)(ha:PE X a ta)(hb:PE X b tb)(hm:behindInMarks op b=false):PT X (.Compare a [op] [b] pos) (aag (tOp r ta tb)):=by
 intro pins s σ H Q I h;refine wpAny_isTrue_Compare1 (cI (ha pins s σ H _ I h) λv s1 zz=>?_) hm;obtain⟨x,H1,I1,r1,q1⟩:=zz;refine cI (hb pins s1 σ H1 _ I1 q1) λu s2 zz=>?_;obtain⟨y,H2,I2,r2,q2⟩:=zz;refine cI (ho pins s2 σ H2 x y v u _ I2 r1 r2 q2) λc s3 zz=>?_;obtain⟨z,H3,I3,r3,k,e,q3⟩:=zz;subst e;cases r3;exact wpAny_truthy_bool ⟨H3,I3,q3⟩
def XF(K:PySem.W.Frag)(x:V)(H:Hp)(k:Bool):Prop :=
 match x with
 | .non=>k=false
 | .bl b=>k=b
 | .int i=>k=(i != 0)
 | .str y=>y.length<=sizeLine/\k=((y.length:Int) != 0)
 | .byt y=>y.size<=sizeLine/\k=((y.size:Int) != 0)
 | .ref p=>(∃xs,ou K H p xs/\k=!xs.isEmpty)\/(∃xs,oG K H p xs/\k=!xs.isEmpty)\/∃kvs,H p=some (.dK kvs)/\k=!kvs.isEmpty
 | _=>False
def zp3{κ:Type}{kvs:List (κ×V)}{vs:List (κ×Value)}(r:KV kvs vs):(!vs.isEmpty)=!kvs.isEmpty:=by
 cases r<;>rfl
def zkh{xs:List V}{its:List Value}(r:Vals xs its):(!its.toArray.isEmpty)=!xs.isEmpty:=by
 cases r<;>simp
def f9:(sizeLine:Nat)<2 ^ 63:=by rw[afv];decide
def ZX:aed X (λx H Q=>∃k,XF X.K x H k/\Q k H):=by
 intro pins s σ H x v Q I rx h;obtain⟨k,e,q⟩:=h;have hl:=f9;have hs:sizeLine=16777216:=afv;cases x with
 | non =>
  cases rx;have e':k=false:=e;subst e';exact truthy_none ⟨H,I,q⟩
 | bl b =>
  cases rx;have e':k=b:=e;subst e';exact wpAny_truthy_bool ⟨H,I,q⟩
 | int i =>
  obtain⟨t,rfl⟩:=rx;have e':k=(i != 0):=e;subst e';exact PySem.P.truthy_int ⟨H,I,q⟩
 | str y =>
  obtain⟨t,rfl⟩:=rx;obtain⟨hy,e'⟩:y.length<=sizeLine/\k=((y.length:Int) != 0):=e;subst e';exact PySem.P.truthy_str (by omega) ⟨H,I.tok _,q⟩
 | byt y =>
  obtain⟨t,rfl⟩:=rx;obtain⟨hy,e'⟩:y.size<=sizeLine/\k=((y.size:Int) != 0):=e;subst e';exact PySem.W.truthy_bytes (by omega) ⟨H,I.tok _,q⟩
 | ref p =>
  cases rx;have e':(∃xs,ou X.K H p xs/\k=!xs.isEmpty)\/(∃xs,oG X.K H p xs/\k=!xs.isEmpty)\/∃kvs,H p=some (.dK kvs)/\k=!kvs.isEmpty:=e;rcases e' with⟨xs,hx,e'⟩ | ⟨xs,hx,e'⟩ | ⟨kvs,hx,e'⟩
  ·subst e';obtain⟨its,r,pl,hz⟩:=I.list hx;have hlen:=r.length;exact wpAny_truthy_list pl.isList (by simp only[gG];omega) ⟨H,I.tok _,by rw[zkh r];exact q⟩
  ·subst e';obtain⟨its,r,pl,hz⟩:=I.tuple hx;have hlen:=r.length;exact truthy_tuple pl (by simp only[gG];omega) ⟨H,I.tok _,by rw[zkh r];exact q⟩
  ·subst e';obtain⟨hz,hS,vs,r,m⟩:kvs.length<=sizeLine/\(p==sysModules)=false/\∃vs,KV kvs vs/\s.heap.DictOf (bF X.prog X.w) p vs:=I.bI p _ hx;have hlen:kvs.length=vs.length:=afb r;exact wpAny_truthy_dict hS m (by omega) ⟨H,I.tok _,by rw[zp3 r];exact q⟩
 | _=>exact (show False from e).elim
def Hv(ha:PE X a ta)(he:∀whole,isTrue a X.env whole=(do let v <-whole;standAt a.pos;holding [v] (truthy v))) :
  PT X a (fun σ H Q=>ta σ H λx H'=>∃k,XF X.K x H' k/\Q k H'):=by
 intro pins s σ H Q I h;refine isTrue_plain (cI (ha pins s σ H _ I h) λv s1 zz=>?_) (he _);obtain⟨x,H1,I1,r1,q1⟩:=zz;exact ZX pins s1 σ H1 x v Q I1 r1 q1
def zqx:dZ X (binaryOp .Add) (λx y H Q=>∃i j,x=.str i/\y=.str j/\i.length+j.length<=sizeLine/\Q (.str (i++j)) H):=by
 intro pins s σ H x y v u Q I rx ry h;obtain⟨i,j,rfl,rfl,hz,q⟩:=h;obtain⟨t,rfl⟩:=rx;obtain⟨t',rfl⟩:=ry;exact add_str (λt' tk=>⟨.str (i++j),H,I.tok _,⟨_,rfl⟩,q⟩) hz
def vals1(r:Vals [x] us):∃u,us=[u]/\RelV x u:=by
 cases r with
 | cons r1 r2=>cases r2;exact⟨_,rfl,r1⟩
def vals2(r:Vals [x,y] us):∃u w',us=[u,w']/\RelV x u/\RelV y w':=by
 cases r with
 | cons r1 r2 =>
  cases r2 with
  | cons r3 r4=>cases r4;exact⟨_,_,rfl,r1,r3⟩
def Fp:cB X (.type "int") (λxs H Q=>(∃i,xs=[.int i]/\Q (.int i) H)\/∃k,xs=[.bl k]/\Q (.int (if k then 1 else 0)) H):=by
 intro pins s σ H xs us Q I r h;rcases h with⟨i,rfl,q⟩ | ⟨k,rfl,q⟩
 ·obtain⟨u,rfl,t,rfl⟩:=vals1 r;exact call_int_int ⟨.int i,H,I,⟨_,rfl⟩,q⟩
 ·obtain⟨u,rfl,r1⟩:=vals1 r;cases r1;exact call_int_bool ⟨.int (if k then 1 else 0),H,I.tok _,⟨_,rfl⟩,q⟩
end
structure Ab(h:Heap)(x dx C:Addr)(mA:Str->Option Value):Prop where
 obj:h.get? x=some (PySem.W.instObj C dx)
 ns:h.Ns1 dx mA
 ne:dx≠x
def D_{h:Heap}{dx:Addr}{mA:Str->Option Value}(n:h.Ns1 dx mA):∃od,h.get? dx=some od/\∀name,PySem.W.lookIn name od=some (mA name):=by
 obtain⟨o,es,ep,ho,hd,hk,_,hm⟩:=n;refine⟨o,ho,λname=>?_⟩;have e:=hm name;unfold nsFind findBy at e;rw[<-Array.find?_toList]at e;unfold PySem.W.lookIn;rw[hd];dsimp only
 split
 ·rename_i y q;rw[q]at e;exact congrArg some e
 ·rename_i q;rw[q]at e;have a:es.toList.any (·.refKey)=false:=by
   rw[List.any_eq_false];intro y hy;obtain⟨z,t,adN⟩:=hk y (Array.mem_toList_iff.mp hy);simp[DictEntry.refKey,adN]
  have a':¬ es.toList.any (·.refKey)=true:=by rw[a];exact pF
  rw[aeU a'];exact congrArg some e
def Ab.look(I:Ab h x dx C mA):∃od,PySem.W.InstAt h x (PySem.W.instObj C dx) C (some od)/\∀name,PySem.W.lookIn name od=some (mA name) :=
 let ⟨od,ho,hl⟩:=D_ I.ns
 ⟨od,⟨I.obj,rfl,rfl,ho⟩,hl⟩
section
variable  {prog:Program}{w:World}{A:Around}{E:Value->Shared->Prop}{s:Shared}{K:PySem.W.Frag}{x dx C f:Addr}{mA:Str->Option Value}{name:Str}{v:Value}
def get_map{expr:Bool}(X:K.In s.heap)(I:Ab s.heap x dx C mA)(hg:PySem.W.plainGet K C name=true)(hh:PySem.W.hasDictIn K C=true) 
  (ha:PySem.W.findIn K (.ref C) name=some none) (hv:mA name=some v) (zY:PySem.W.handedIn v=true) (h:Q v { s with toks:=s.toks+1 }) :
  wpAny (model prog w) A (getAttr (.ref x) name expr) Q E s:=by
 obtain⟨od,J,hl⟩:=I.look;exact PySem.W.get_value X J (PySem.W.plainGet_of hg).1 (PySem.W.findObj_own hh ha rfl (by rw[hl,hv])) zY h
def Kc(X:K.In s.heap)(I:Ab s.heap x dx C mA)(hg:PySem.W.plainGet K C name=true) 
  (hf:PySem.W.findIn K (.ref C) name=some (some (.ref f))) (ht:PySem.W.isFn K (.ref f)=true) (hv:mA name=none) (h:Q (.ref f,[.ref x]) s) :
  wpAny (model prog w) A (getMethod (.ref x) name pl) Q E s:=by
 obtain⟨od,J,hl⟩:=I.look;exact PySem.W.method_fn X J (PySem.W.plainGet_of hg).1 (PySem.W.plainGet_of hg).2 hf (beq_iff_eq.mp ht) (by show (PySem.W.lookIn name od).map (·.isSome)=some false;rw[hl,hv];rfl) h
def Nu(X:K.In s.heap)(I:Ab s.heap x dx C mA) 
  (hs:PySem.W.findIn K (.ref C) "__setattr__" = some (some (.builtin "object.__setattr__"))) (hp:PySem.W.plainOver K C=true) (ht:PySem.W.takerIn K C name=some none) (hh:PySem.W.hasDictIn K C=true)
  (hw:PySem.Within mA ns) (hsz:ns.length<=sizeLine)
  (h:∀h',Ab h' x dx C (λy=>if y=name then some v else mA y)->Heap.SameBut dx s.heap h'->Q () { s with heap:=h',toks:=s.toks+2 }) :
  wpAny (model prog w) A (setAttr (.ref x) name v) Q E s:=by
 obtain⟨od,J,hl⟩:=I.look;refine PySem.W.set_plain X J hs (PySem.W.osa_open (s:={ s with toks:=s.toks+1 }) (r:=none) X J hp ht λb=>?_);obtain⟨cd,hc,yD⟩:=PySem.W.any_some hh;have hx:s.heap.get? x=some ⟨.ref C,some dx,.plain,#[]⟩:=I.obj;refine aeS (aeV (aeS (aeS (wpAny_loadPart hx (aeS (PySem.W.Looks.here (s:={ s with toks:=s.toks+1 }) (PySem.W.looks_clsIn X hc) ?_))))));rw[yD];refine aeV (a:=some dx) (aeS (aeV (aeS ?_)));refine wpAny_nsSet1 (s:={ s with toks:=s.toks+1 }) I.ns λh' hn2 ie=>?_;obtain⟨oD,esD,epD,hoD,hdD,hcD⟩:=hn2.count (PySem.Within.cons name v hw);refine aeS (wpAny_lookBehind hoD (by rw[hdD];exact pastItsLine_dict (kh hcD (by rw[gC];omega))) ?_);exact aeV (h _ ⟨(ie.2 _ (ae4 I.ne)).trans I.obj,hn2,I.ne⟩ ie)
def Jd(X:K.In s.heap)(hm:PySem.W.makesIn K C=true) 
  (hi:PySem.W.findIn K (.ref C) "__init__" = some (some (.ref f))) (hf:PySem.W.typeIn K (.ref f)=some (.type "function"))
  (h:codeAny (model prog w) (A.under (.builtin "type.__call__" ⟨.ref C::vs,kw⟩)) (.call (.ref f) ⟨.ref (s.heap.objs.size+1)::vs,kw⟩) (PySem.W.InitBack (s.heap.objs.size+1) R)
   { s with heap:=(s.heap.push PySem.W.emptyDict).push (PySem.W.instObj C s.heap.objs.size) }) :
  codeAny (model prog w) A (.call (.ref C) ⟨vs,kw⟩) R s:=by
 obtain⟨hh,g,d,t,os⟩:=s;exact PySem.W.make_core (PySem.W.makes_of X hm) (PySem.W.looks_findIn X hi) (λself=>PySem.W.bind_fn X self hf) (.inl rfl) h
end
def fY(f:Str)(v:V):List (Str×V)->List (Str×V)
 | []=>[(f,v)]
 | (g,x)::r=>if g=f then (g,v)::r else (g,x)::fY f v r
theorem zi1(f g:Str)(v:V):∀fs:List (Str×V),(fY f v fs).lookup g=if g=f then some v else fs.lookup g
 | []=>by
  show List.lookup g [(f,v)]=_;by_cases h:g=f
  ·have hb:(g==f)=true:=beq_iff_eq.mpr h;simp only[List.lookup,hb,aeT h]
  ·have hb:(g==f)=false:=beq_eq_false_iff_ne.mpr h;simp only[List.lookup,hb,aeU h]
 | (k,x)::r=>by
  have ih:=zi1 f g v r;rw[show fY f v ((k,x)::r)=(if k=f then (k,v)::r else (k,x)::fY f v r) from rfl];by_cases hk:k=f
  ·rw[aeT hk];by_cases h:g=k
   ·have hb:(g==k)=true:=beq_iff_eq.mpr h;simp only[List.lookup,hb,aeT (h.trans hk)]
   ·have hb:(g==k)=false:=beq_eq_false_iff_ne.mpr h;simp only[List.lookup,hb,aeU (λe:g=f=>h (e.trans hk.symm))]
  ·rw[aeU hk];by_cases h:g=k
   ·have hb:(g==k)=true:=beq_iff_eq.mpr h;simp only[List.lookup,hb,aeU (λe:g=f=>hk (h.symm.trans e))]
   ·have hb:(g==k)=false:=beq_eq_false_iff_ne.mpr h;simp only[List.lookup,hb];exact ih
theorem zi6(f:Str)(v:V):∀fs:List (Str×V),f∈(fY f v fs).map (·.1)/\∀g,g∈fs.map (·.1)->g∈(fY f v fs).map (·.1)
 | []=>⟨by simp[fY],λg h=>by simp at h⟩
 | (k,x)::r=>by
  obtain⟨i1,i2⟩:=zi6 f v r;rw[show fY f v ((k,x)::r)=(if k=f then (k,v)::r else (k,x)::fY f v r) from rfl];by_cases hk:k=f
  ·rw[aeT hk];subst hk;exact⟨by simp,λg h=>by simpa using h⟩
  ·rw[aeU hk];refine⟨?_,λg h=>?_⟩
   ·rw[gr];exact kW _ i1
   ·rw[gr]at h ⊢;rcases gj.mp h with e | e
    ·exact gj.mpr (.inl e)
    ·exact kW _ (i2 g e)
theorem ziy(f:Str)(v:V):∀fs:List (Str×V),(fY f v fs).length<=fs.length+1
 | []=>by simp[fY]
 | (k,x)::r=>by
  have ih:=ziy f v r;rw[show fY f v ((k,x)::r)=(if k=f then (k,v)::r else (k,x)::fY f v r) from rfl];by_cases hk:k=f
  ·rw[aeT hk,gC,gC];omega
  ·rw[aeU hk,gC,gC];omega
def lD.some_of(r:lD (some v) o):∃u,o=some u/\RelV v u:=by
 cases o with
 | none=>exact (show False from r).elim
 | some u=>exact⟨u,rfl,r⟩
def lD.none_of(r:lD none o):o=none:=by
 cases o with
 | none=>rfl
 | some u=>exact (show False from r).elim
def Es(r:RelV v u):PySem.W.handedIn u=true:=by
 cases v with
 | non=>cases (show u=Value.none from r);rfl
 | bl b=>cases (show u=Value.bool b from r);rfl
 | int i=>obtain⟨t,e⟩:=(show ∃t,u=Value.int i t from r);cases e;rfl
 | str x=>obtain⟨t,e⟩:=(show ∃t,u=Value.str x t from r);cases e;rfl
 | byt b=>obtain⟨t,e⟩:=(show ∃t,u=Value.bytes b t from r);cases e;rfl
 | flt b=>obtain⟨t,e⟩:=(show ∃t,u=Value.float b t from r);cases e;rfl
 | ref a=>cases (show u=Value.ref a from r);rfl
 | ty n=>cases (show u=Value.type n from r);rfl
section
variable  {P:Program}{w:World}{H H':Hp}{h h':Heap}{a C dx:Addr}{fs wH:List (Str×V)}
def zoj(bI:lE P w H h)(e:H a=some (.ins C dx fs)):∃mA,Ab h a dx C mA/\(∀f,lD (fs.lookup f) (mA f))/\PySem.Within mA (fs.map (·.1))/\fs.length<=1000/\H dx=some (.own a):=by
 obtain⟨d,z,ne,ob,mA,n,r,q⟩:=(show bW P w H h a (.ins C dx fs) from bI a _ e);exact⟨mA,⟨ob,n,ne⟩,r,q,z,d⟩
end
structure CJ(K:PySem.W.Frag)(C:Addr):Prop where
 pg:PySem.W.plainGet K C Str.empty=true
 hd:PySem.W.hasDictIn K C=true
 po:PySem.W.plainOver K C=true
 sa:PySem.W.findIn K (.ref C) "__setattr__" = some (some (.builtin "object.__setattr__"))
def CJ.get{K:PySem.W.Frag}{C:Addr}(c:CJ K C)(f:Str):PySem.W.plainGet K C f=true:=c.pg
def iQ(K:PySem.W.Frag)(C:Addr)(f:Str):Prop:=PySem.W.findIn K (.ref C) f=some none
def iQ.aae{K:PySem.W.Frag}{C:Addr}{f:Str}(n:iQ K C f):PySem.W.takerIn K C f=some none:=by
 unfold PySem.W.takerIn;rw[show PySem.W.findIn K (.ref C) f=some none from n]
 rfl
structure Con(K:PySem.W.Frag)(C:Addr)(f:Str)(v:V)(u:Value):Prop where
 at_:PySem.W.findIn K (.ref C) f=some (some u)
 rel:RelV v u
 get:PySem.W.specialIn K u "__get__" = some none
 cp:PySem.W.copiedNames.contains f=false
structure Meth(K:PySem.W.Frag)(C:Addr)(m:Str)(f:Addr):Prop where
 at_:PySem.W.findIn K (.ref C) m=some (some (.ref f))
 fn:PySem.W.isFn K (.ref f)=true
 kp:PySem.W.keepIn K (.ref f)=true
section
variable  {X:Cx}{pins:List (Addr×Obj)}{σ:St}{H:Hp}{s:Shared}{a C dx:Addr}{fs:List (Str×V)}{f:Str}{v:V}{A:Around}{E:Value->Shared->Prop}
def zrg(I:Inv X pins σ H s)(e:H a=some (.ins C dx fs))(c:CJ X.K C)(n:iQ X.K C f)(l:fs.lookup f=some v) 
  (h:∀u s',Inv X pins σ H s'->RelV v u->Q u s'):wpAny (model X.prog X.w) A (getAttr (.ref a) f b) Q E s:=by
 obtain⟨mA,O,r,_,_,_⟩:=zoj I.bI e;obtain⟨u,hu,ru⟩:=lD.some_of (v:=v) (o:=mA f) (by rw[<-l];exact r f);exact get_map I.qp O (c.get f) c.hd n hu (Es ru) (h u _ (I.tok _) ru)
def zre(I:Inv X pins σ H s)(e:H a=some (.ins C dx fs))(c:CJ X.K C)(k:Meth X.K C m g)(l:fs.lookup m=none) 
  (h:Q (.ref g,[.ref a]) s):wpAny (model X.prog X.w) A (getMethod (.ref a) m pl) Q E s:=by
 obtain⟨mA,O,r,_,_,_⟩:=zoj I.bI e;have hn:mA m=none:=lD.none_of (by rw[<-l];exact r m);exact Kc I.qp O (c.get m) k.at_ k.fn hn h
def zr0(I:Inv X pins σ H s)(e:H a=some (.ins C dx fs))(c:CJ X.K C)(n:iQ X.K C f)(hl:fs.length<1000)(ry:RelV y u) 
  (h:∀s',Inv X pins σ (upd H a (.ins C dx (fY f y fs))) s'->Q () s'):wpAny (model X.prog X.w) A (setAttr (.ref a) f u) Q E s:=by
 obtain⟨mA,O,r,wi,_,ho⟩:=zoj I.bI e;have hz:(fs.map (·.1)).length<=sizeLine:=by rw[gq,afv];omega
 refine Nu I.qp O c.sa c.po n.aae c.hd wi hz λh' O' sb=>h _ ?_;have hd:∃o,h'.get? dx=some o:=let ⟨o,_,_,e',_⟩:=O'.ns;⟨o,e'⟩;refine I.write (x:=a) (e:=dx) (by rw[e];exact True.intro) (.inr ho) (λb q hb z=>(sb.2 b hb).trans z) hd ?_;refine⟨by rw[iC O.ne];exact ho,?_,O.ne,O'.obj,_,O'.ns,λg=>?_,λg hg=>?_⟩
 ·have:=ziy f y fs;omega
 ·show lD ((fY f y fs).lookup g) (if g=f then some u else mA g);rw[zi1];by_cases q:g=f
  ·rw[aeT q,aeT q];exact ry
  ·rw[aeU q,aeU q];exact r g
 ·by_cases q:g=f
  ·rw[q];exact (zi6 f y fs).1
  ·refine (zi6 f y fs).2 g (wi g λz=>hg ?_);show (if g=f then some u else mA g)=none;rw[aeU q];exact z
def Inv.made(I:Inv X pins σ H s):Inv X pins σ (upd (upd H s.heap.objs.size (.own (s.heap.objs.size+1))) (s.heap.objs.size+1) (.ins C s.heap.objs.size []))
  { s with heap:=(s.heap.push PySem.W.emptyDict).push (PySem.W.instObj C s.heap.objs.size) }:=by
 have e1:(s.heap.push PySem.W.emptyDict).get? s.heap.objs.size=some PySem.W.emptyDict:=gZ s.heap rfl;have e2:((s.heap.push PySem.W.emptyDict).push (PySem.W.instObj C s.heap.objs.size)).get? (s.heap.objs.size+1)=some (PySem.W.instObj C s.heap.objs.size):=by
  have:=gZ (s.heap.push PySem.W.emptyDict) (o:=PySem.W.instObj C s.heap.objs.size) rfl;rwa[Heap.size_push]at this
 have e3:(s.heap.push PySem.W.emptyDict).Ns s.heap.objs.size (λ_=>none):=⟨PySem.W.emptyDict,#[],_,e1,rfl,(λe he=>absurd he (by simp)),λ_=>rfl⟩;have I1:=I.laid (a:=s.heap.objs.size) (o:=.own (s.heap.objs.size+1)) (h':=s.heap.push PySem.W.emptyDict) (t':=s.toks) (λb u q=>gF _ q) (gb _) ⟨_,e1⟩;refine I1.laid (a:=s.heap.objs.size+1) (o:=.ins C s.heap.objs.size []) (t':=s.toks) (λb u q=>gF _ q) (Nat.le_of_eq (Heap.size_push _ _)) ?_;have ne:s.heap.objs.size≠s.heap.objs.size+1:=gU (nT _);refine⟨by rw[iC ne,qt],mD _,ne,e2,λ_=>none,(Heap.Ns1.of_empty e3).at λo q=>gF _ q,λ_=>True.intro,λy hy=>absurd rfl hy⟩
def Ro(hb:attributeBase e f env (eval e env)=eval e env) 
  (h:wpAny (model prog w) A (eval e env) (λo aeI=>wpAny (model prog w) A (getAttr o f true) Q E aeI) E s):wpAny (model prog w) A (eval (.Attribute e f pos) env) Q E s :=
 Attribute_any_ h (by rw[arm_eval_Attribute,hb])
end
def acB(K:PySem.W.Frag)(ta:TE)(f:Str):TE:=fun σ H Q=>ta σ H λx H1=>∃a C dx fs v,x=.ref a/\H1 a=some (.ins C dx fs)/\CJ K C/\iQ K C f/\fs.lookup f=some v/\Q v H1
def acL(K:PySem.W.Frag)(ta tv:TE)(f:Str):TS:=λD σ H=>tv σ H λy H1=>ta σ H1 λx H2=>∃a C dx fs,x=.ref a/\H2 a=some (.ins C dx fs)/\CJ K C/\iQ K C f/\fs.length<1000 /\
 D.nx σ (upd H2 a (.ins C dx (fY f y fs)))
section
variable  {X:Cx}{o e value:Expr}{f:Str}{pos pos' wR:Pos}{ta tv:TE}
def Vu(he:PE X e ta)(hb:attributeBase e f X.env (eval e X.env)=eval e X.env):PE X (.Attribute e f pos) (acB X.K ta f):=by
 intro pins s σ H Q I h;refine Ro hb (cI (he pins s σ H _ I h) λu s1 zz=>?_);obtain⟨x,H1,I1,rx,a,C,dx,fs,v,ex,ea,c,n,l,q⟩:=zz;subst ex;obtain rfl:u=Value.ref a:=rx;exact zrg I1 ea c n l λu' s2 I2 ru=>⟨v,H1,I2,ru,q⟩
def Vg(ha:PE X o ta)(hv:PE X value tv)(hs:swapsWith value (some (.Attribute o f pos')) pos.line X.env=pure false):PS X (.Assign [.Attribute o f pos'] value pos) (acL X.K ta tv f):=by
 intro pins s σ H D I h;refine plainObj_wpAny_Assign_Attribute (cI (hv pins s σ H _ I h) λu s1 zz=>?_) hs;obtain⟨y,H1,I1,ry,q⟩:=zz;refine cI (ha pins s1 σ H1 _ I1 q) λov s2 zz=>?_;obtain⟨x,H2,I2,rx,a,C,dx,fs,ex,ea,c,n,l,q2⟩:=zz;subst ex;obtain rfl:ov=Value.ref a:=rx;exact zr0 I2 ea c n l ry λs3 I3=>⟨σ,_,I3,q2⟩
end
section
variable  {X:Cx}{pins:List (Addr×Obj)}{σ:St}{H:Hp}{s:Shared}{A:Around}{E:Value->Shared->Prop}{Q:Value->Shared->Prop}{c:Value}{b:Bool}
inductive uq (K:PySem.W.Frag) (H:Hp):V->Value->Prop where
 | non:uq K H .non (.type "NoneType")
 | bl (x:Bool):uq K H (.bl x) (.type "bool")
 | int (i:Int):uq K H (.int i) (.type "int")
 | str (x:Str):uq K H (.str x) (.type "str")
 | flt (x:UInt64):uq K H (.flt x) (.type "float")
 | lst {a:Addr} {xs:List V} (e:H a=some (.lst xs)):uq K H (.ref a) (.type "list")
 | frz {a:Addr} {o:Obj} {xs:List V} (e:H a=some (.frz o (.lst xs))):uq K H (.ref a) (.type "list")
 | tup {a:Addr} {xs:List V} (e:H a=some (.tup xs)):uq K H (.ref a) (.type "tuple")
 | dK {a:Addr} {kvs:List (Key×V)} (e:H a=some (.dK kvs)):uq K H (.ref a) (.type "dict")
 | dT {a:Addr} {kvs:List (List Key×V)} (e:H a=some (.dT kvs)):uq K H (.ref a) (.type "dict")
 | ins {a C dx:Addr} {fs:List (Str×V)} (e:H a=some (.ins C dx fs)) (cl:CJ K C) (ha:PySem.W.findIn K (.ref C) "__class__" = some (some (.builtin "object.__class__")))
   (hn:PySem.W.specialIn K (.builtin "object.__class__") "__get__" = some (some (.builtin "getset_descriptor.__get__"))) (htk:PySem.W.takesIn K (.builtin "object.__class__")=some true)
   (hm:PySem.W.mroIn K C (.type "object")=some true):uq K H (.ref a) (.ref C)
def Yv{x:V}{u t:Value}(I:Inv X pins σ H s)(rx:RelV x u)(ty:uq X.K H x t)(e:PySem.W.kitOne X.K t c=some b)(h:∀tk,Q (.bool b) { s with toks:=tk }) :
  wpAny (model X.prog X.w) A (call (.builtin "isinstance") [u,c]) Q E s:=by
 cases ty with
 | non=>cases (show u=Value.none from rx);exact ae0 PySem.W.kitx_none I.qp True.intro e (λz=>nomatch z) h
 | bl y=>cases (show u=Value.bool y from rx);exact ae0 PySem.W.kitx_bool I.qp True.intro e (λz=>nomatch z) h
 | int i=>obtain⟨t,q⟩:=(show ∃t,u=Value.int i t from rx);cases q;exact ae0 PySem.W.kitx_int I.qp True.intro e (λz=>nomatch z) h
 | str y=>obtain⟨t,q⟩:=(show ∃t,u=Value.str y t from rx);cases q;exact ae0 PySem.W.kitx_str I.qp True.intro e (λz=>nomatch z) h
 | flt y=>obtain⟨t,q⟩:=(show ∃t,u=Value.float y t from rx);cases q;exact ae0 PySem.W.kitx_float I.qp True.intro e (λz=>nomatch z) h
 | @lst a xs ea =>
  cases (show u=Value.ref a from rx);obtain⟨_,_,n,_,h1⟩:=(show bW X.prog X.w H s.heap a (.lst xs) from I.bI a _ ea);exact ae0 PySem.W.kitx_list I.qp ⟨_,h1,rfl⟩ e (λz=>nomatch z) h
 | @frz a ob xs ea =>
  cases (show u=Value.ref a from rx);obtain⟨_,_,_,n,_,h1⟩:=(show bW X.prog X.w H s.heap a (.frz ob (.lst xs)) from I.bI a _ ea);exact ae0 PySem.W.kitx_list I.qp ⟨_,h1,rfl⟩ e (λz=>nomatch z) h
 | @tup a xs ea =>
  cases (show u=Value.ref a from rx);obtain⟨_,_,_,p⟩:=(show bW X.prog X.w H s.heap a (.tup xs) from I.bI a _ ea);obtain⟨o,h1,h2,_⟩:=p;exact ae0 PySem.W.kitx_tuple I.qp ⟨o,h1,h2⟩ e (λz=>nomatch z) h
 | @dK a kvs ea =>
  cases (show u=Value.ref a from rx);obtain⟨_,_,vs,_,p⟩:=(show bW X.prog X.w H s.heap a (.dK kvs) from I.bI a _ ea);obtain⟨o,es,ep,h1,h2,_⟩:=p;exact ae0 PySem.W.kitx_dict I.qp ⟨o,h1,h2.1⟩ e (λz=>nomatch z) h
 | @dT a kvs ea =>
  cases (show u=Value.ref a from rx);obtain⟨_,_,xs,_,o,es,ep,h1,h2,_⟩:=(show bW X.prog X.w H s.heap a (.dT kvs) from I.bI a _ ea);exact ae0 PySem.W.kitx_dict I.qp ⟨o,h1,h2.1⟩ e (λz=>nomatch z) h
 | @ins a C dx fs ea cl ha hn htk hm =>
  cases (show u=Value.ref a from rx);obtain⟨mA,O,_⟩:=zoj I.bI ea;obtain⟨od,J,_⟩:=O.look;exact ae0 (PySem.W.kitx_own (cl.get _) cl.hd ha hn htk hm) I.qp J e (λz=>nomatch z) h
end
structure cH(k:Nat)(A:Around):Prop where
 hd:A.handled=none
 dp:A.depth+3*k+5<recursionLimit
 un:A.units+16*k+200<cLine
def cH.mono(r:cH k A)(h:j<=k):cH j A:=⟨r.hd,by have:=r.dp;omega,by have:=r.un;omega⟩
def cH.deeper(r:cH (k+1) A)(env:Env):cH k (A.deeper env) :=
 ⟨r.hd,by have:=r.dp;show A.depth+1+3*k+5<_;omega,by have:=r.un;show A.units+3+16*k+200<_;omega⟩
def zro{A:Around}{C:Addr}{us:List Value}{kw:List (Str×Value)}:(A.under (.builtin "type.__call__" ⟨.ref C::us,kw⟩)).depth=A.depth+1:=by
 first | rfl | simp[Around.under,Code.weight,Code.isCreation,Code.isGuard,Code.isCaller,Code.frames,Code.isFrame,guardIds]
def zqj{A:Around}{C:Addr}{us:List Value}{kw:List (Str×Value)}:(A.under (.builtin "type.__call__" ⟨.ref C::us,kw⟩)).units=A.units+1:=by
 first | rfl | simp[Around.under,Code.cUnits,Code.frames,Code.isFrame]
def cH.make(r:cH (k+1) A)(C:Addr)(us:List Value)(kw:List (Str×Value)):cH k (A.under (.builtin "type.__call__" ⟨.ref C::us,kw⟩)) :=
 ⟨r.hd,by have:=r.dp;rw[zro];omega,by have:=r.un;rw[zqj];omega⟩
def cH.depth(r:cH k A):A.depth<recursionLimit:=by have:=r.dp;omega
def cH.units(r:cH k A):A.units+64<cLine:=by have:=r.un;omega
def aai:TA:=λ_ H Q=>Q [] H
def aaq(ta:TE)(tr:TA):TA:=fun σ H Q=>ta σ H λx H1=>tr σ H1 λxs H2=>Q (x::xs) H2
section
variable  {X:Cx}{e:Expr}{es:List Expr}{te:TE}{t:TA}{pos:Pos}
def zK:PA X [] aai:=λ_ _ _ _ H Q I h=>Calls.spliced_nil ⟨[],H,I,.nil,h⟩
def Z4(ha:PE X e te)(hr:PA X es t)(hs:starEach (e::es) X.env=(false,eval e X.env)::starEach es X.env:=by rfl):PA X (e::es) (aaq te t):=by
 intro pos pins s σ H Q I h;rw[hs];show wpAny _ _ (spliced ((false,eval e X.env)::backTo pos (starEach es X.env))) _ _ s;refine Calls.spliced_cons (cI (ha pins s σ H _ I h) λu s1 zz=>?_);obtain⟨x,H1,I1,r1,q1⟩:=zz;refine cI (hr pos pins s1 σ H1 _ I1 q1) λus s2 zz=>?_;obtain⟨xs,H2,I2,r2,q2⟩:=zz;exact⟨x::xs,H2,I2,.cons r1 r2,q2⟩
def acr(t:TA):TE:=fun σ H Q=>t σ H λxs H1=>xs.length<=sizeLine/\∀p,H1 p=none->Q (.ref p) (upd H1 p (.tup xs))
def acx(t:TA):TE:=fun σ H Q=>t σ H λxs H1=>xs.length<=sizeLine/\∀p,H1 p=none->Q (.ref p) (upd H1 p (.lst xs))
def Vn{x1}(h:PA X es t):PE X (.Tuple es x1 pos) (acr t):=by
 intro pins s σ H Q I hq;refine wpAny_Tuple_spliced (cI (h pos pins s σ H _ I hq) λus s1 zz=>?_);obtain⟨xs,H1,I1,r,z,q⟩:=zz;refine⟨by rw[<-r.length];exact z,?_⟩;have hf:H1 s1.heap.objs.size=none:=I1.bI.fresh (gb _);refine⟨.ref s1.heap.objs.size,upd H1 s1.heap.objs.size (.tup xs),I1.laid (t':=s1.toks) (λb u e=>gF _ e) (gb _) ?_,rfl,q _ hf⟩;exact⟨z,us,r,⟨_,gZ _ rfl,rfl,_,rfl⟩⟩
def Vr(h:PA X es t):PE X (.List es pos) (acx t):=by
 intro pins s σ H Q I hq;refine wpAny_List_spliced (cI (h pos pins s σ H _ I hq) λus s1 zz=>?_);obtain⟨xs,H1,I1,r,z,q⟩:=zz;refine⟨by rw[<-r.length];exact z,?_⟩;have hf:H1 s1.heap.objs.size=none:=I1.bI.fresh (gb _);refine⟨.ref s1.heap.objs.size,upd H1 s1.heap.objs.size (.lst xs),I1.laid (t':=s1.toks) (λb u e=>gF _ e) (gb _) ?_,rfl,q _ hf⟩;exact⟨z,us,0,r,gZ _ rfl⟩
end
abbrev Sp:=List V->Hp->VK->XK->Prop
abbrev Lz:=List Env->Hp->Shared->XK->Value->Shared->Prop
structure yc(P:Program)(w:World)(K:PySem.W.Frag)(mg:Str->Option Value)(base:Heap)(A:Around)(outer:List Env)(s:Shared)(H:Hp):Prop where
 frames:A.frames=some outer
 mod:Mod K mg base
 bs:∀b o,base.get? b=some o->s.heap.get? b=some o/\H b=none
 Fw:base.objs.size<=s.heap.objs.size
 oN:s.heap.FunFrames base outer
 Kl:∀b∈BL outer,H b=none
 bI:lE P w H s.heap
 bare:AllBare s.gens
def CE(outer:List Env)(P:Program)(w:World)(H:Hp)(s:Shared)(Q:VK)(u:Value)(s':Shared):Prop :=
 ∃v H',s'.os=s.os/\AllBare s'.gens/\Un (BL outer) [] H H' s.heap s'.heap/\lE P w H' s'.heap/\RelV v u/\Q v H'
def CR(CX:Lz)(outer:List Env)(P:Program)(w:World)(H:Hp)(s:Shared)(Q:VK)(E:XK)(r:Result)(s':Shared):Prop :=
 match r with
 | .ok (.ret u)=>CE outer P w H s Q u s'
 | .ok _=>False
 | .error e=>CX outer H s E e s'
structure cu(P:Program)(w:World)(K:PySem.W.Frag)(mg:Str->Option Value)(base:Heap)(CX:Lz)(k:Nat)(f:Addr)(fd:FuncData)(ps:List Str)(sp:Sp):Prop where
 len:∀vs H Q E,sp vs H Q E->vs.length=ps.length
 run:∀(A:Around) (outer:List Env) (s:Shared) (H:Hp) (args:Args) (us:List Value) (vs:List V) (Q:VK) (E:XK),cH k A->yc P w K mg base A outer s H->BindsTo s fd args (ps.zip us)->Vals vs us->sp vs H Q E ->
  codeAny (model P w) A (.call (.ref f) args) (CR CX outer P w H s Q E) s
def cu.mono{P:Program}{w:World}{K:PySem.W.Frag}{mg:Str->Option Value}{base:Heap}{CX:Lz}{j k:Nat}{f:Addr}{fd:FuncData}{ps:List Str}{sp:Sp}(F:cu P w K mg base CX j f fd ps sp)(h:j<=k) :
  cu P w K mg base CX k f fd ps sp:=⟨F.len,λA outer s H args us vs Q E hr=>F.run A outer s H args us vs Q E (hr.mono h)⟩
def cu.imp{P:Program}{w:World}{K:PySem.W.Frag}{mg:Str->Option Value}{base:Heap}{CX:Lz}{k:Nat}{f:Addr}{fd:FuncData}{ps:List Str}{sp sp':Sp}(F:cu P w K mg base CX k f fd ps sp)
  (h:∀vs H Q E,sp' vs H Q E->sp vs H Q E):cu P w K mg base CX k f fd ps sp' :=
 ⟨λvs H Q E q=>F.len vs H Q E (h _ _ _ _ q),λA outer s H args us vs Q E hr he hb hv hs=>F.run A outer s H args us vs Q E hr he hb hv (h _ _ _ _ hs)⟩
def yc.make{P:Program}{w:World}{K:PySem.W.Frag}{mg:Str->Option Value}{base:Heap}{A:Around}{outer:List Env}{s:Shared}{H:Hp}(e:yc P w K mg base A outer s H)(C:Addr)(us:List Value)(kw:List (Str×Value)) :
  yc P w K mg base (A.under (.builtin "type.__call__" ⟨.ref C::us,kw⟩)) outer s H:=⟨by first | exact e.frames | (simpa[Around.under,Code.envs,Code.isFrame,pushEnvs] using e.frames),e.mod,e.bs,e.Fw,e.oN,e.Kl,e.bI,e.bare⟩
section
variable  {X:Cx}{pins:List (Addr×Obj)}{σ:St}{H:Hp}{s s':Shared}
def Inv.QR(I:Inv X pins σ H s):yc X.prog X.w X.K X.mg X.base X.A X.stack s H :=
 ⟨I.ok.frames,I.ok.mod,I.bs,kh I.ok.Fw I.sz,I.stack,I.Al,I.bI,I.bare⟩
def Inv.after(I:Inv X pins σ H s)(h:CE X.stack X.prog X.w H s Q u s'):EP X pins σ Q u s':=by
 obtain⟨v,H',os,bare,un,bI,r,q⟩:=h;obtain⟨hh,g,d,t,YW⟩:=s';obtain rfl:YW=s.os:=os;exact⟨v,H',I.call (h':=hh) (g':=g) (d':=d) (t':=t) (ch:=[]) un bI bare (λb z=>absurd z (by simp)),r,q⟩
end
def R3(sp:Sp)(lW:List V)(E:XK)(t:TA):TE:=fun σ H Q=>t σ H λvs H1=>sp (vs++lW) H1 Q E
def aak(C:Addr)(m:Str)(sp:Sp)(lW:List V)(E:XK)(ta:TE)(t:TA):TE:=fun σ H Q=>ta σ H λx H1=>∃a dx fs,x=.ref a/\H1 a=some (.ins C dx fs)/\fs.lookup m=none /\
 t σ H1 λvs H2=>sp (x::(vs++lW)) H2 Q E
def aal(C:Addr)(sp:Sp)(lW:List V)(E:XK)(t:TA):TE:=fun σ H Q=>t σ H λvs H1=>∀x dx,H1 x=none->H1 dx=none->dx≠x ->
 sp (.ref x::(vs++lW)) (upd (upd H1 dx (.own x)) x (.ins C dx [])) (λv H2=>v=.non/\Q (.ref x) H2) E
def Binds(K:PySem.W.Frag)(fd:FuncData)(ps:List Str)(ds:List Value):Prop :=
 ∀(s:Shared) (us:List Value),K.In s.heap->(us++ds).length=ps.length->BindsTo s fd ⟨us,[]⟩ (ps.zip (us++ds))
def Binds.all{K:PySem.W.Frag}{fd:FuncData}{ps:List Str}(h:∀us:List Value,us.length=ps.length->bindArgs fd ⟨us,[]⟩=pure (ps.zip us)):Binds K fd ps []:=λs us _ hl=>by
 rw[gB]at hl ⊢;exact .of_eq (h us hl)
def Passes(CX:Lz)(X:Cx)(E:XK):Prop:=∀(pins:List (Addr×Obj)) (σ:St) (H:Hp) (s:Shared) (e:Value) (s':Shared),Inv X pins σ H s->CX X.stack H s E e s'->X.xe e s'
section
variable  {X:Cx}{CX:Lz}{k:Nat}{f C:Addr}{fd:FuncData}{ps:List Str}{sp:Sp}{lW:List V}{ds:List Value}{E:XK}{x m:Str}{p pos apos:Pos}{e o:Expr}{es:List Expr}{ta:TE}{t:TA}
def zy(F:cu X.prog X.w X.K X.mg X.base CX k f fd ps sp)(hr:cH k X.A)(hb:Binds X.K fd ps ds)(hd:Vals lW ds)(hx:Passes CX X E) 
  (I:Inv X pins σ H s) (r:Vals vs us) (h:sp (vs++lW) H Q E):wpAny (model X.prog X.w) X.A (call (.ref f) us) (EP X pins σ Q) X.xe s:=by
 have r2:Vals (vs++lW) (us++ds):=r.append hd;have hl:(us++ds).length=ps.length:=by rw[<-r2.length];exact F.len _ _ _ _ h
 refine wpAny_call (afz (F.run X.A X.stack s H ⟨us,[]⟩ (us++ds) (vs++lW) Q E hr I.QR (hb s us I.qp hl) r2 h) λr s' hq=>?_);cases r with
 | error e=>exact hx pins σ H s e s' I hq
 | ok fl =>
  cases fl with
  | ret u=>exact I.after hq
  | next=>exact False.elim hq
  | brk=>exact False.elim hq
  | cont=>exact False.elim hq
def O7(F:cu X.prog X.w X.K X.mg X.base CX k f fd ps sp)(hr:cH k X.A)(hg:Gl X x)(hm:X.mg x=some (.ref f))(hk:PySem.W.keepIn X.K (.ref f)=true)(hb:Binds X.K fd ps ds)(hd:Vals lW ds)(hx:Passes CX X E)
  (ha:PA X (e::es) t) (qU:(x==("__debug__":Str))=false:=by decide) (he:starEach (e::es) X.env=(false,eval e X.env)::starEach es X.env:=by rfl) (oJ:(backTo pos (starEach es X.env)).any (·.1)=false:=by rfl) :
  PE X (.Call (.Name x p) (e::es) [] pos) (R3 sp lW E t):=by
 intro pins s σ H Q I h;refine ae7 (Z7 I hg hm ?_ qU);refine afj (h₀:=X.base) I.ok.mod.V3 hk (cI (ha pos pins s σ H _ I h) λus s1 zz=>?_) he oJ;obtain⟨vs,H1,I1,r,q⟩:=zz;refine⟨I1.qp,?_⟩;exact zy F hr hb hd hx I1 r q
def Ib(F:cu X.prog X.w X.K X.mg X.base CX k f fd ps sp)(hr:cH k X.A)(hg:Gl X x)(hm:X.mg x=some (.ref f))(hk:PySem.W.keepIn X.K (.ref f)=true)(hb:Binds X.K fd ps ds)(hd:Vals lW ds)(hx:Passes CX X E)
  (qU:(x==("__debug__":Str))=false:=by decide):PE X (.Call (.Name x p) [] [] pos) (R3 sp lW E aai):=by
 intro pins s σ H Q I h;refine ae7 (Z7 I hg hm ?_ qU);exact PySem.W.callWith_K0 I.qp hk (zy (us:=[]) F hr hb hd hx I .nil h)
def OD{pl:Sem Bool}(he:PE X o ta)(c:CJ X.K C)(hm:Meth X.K C m f)(F:cu X.prog X.w X.K X.mg X.base CX k f fd ps sp)(hr:cH k X.A)(hb:Binds X.K fd ps ds)(hd:Vals lW ds)(hx:Passes CX X E)(ha:PA X (e::es) t)
  (Em:starEach (e::es) X.env=(false,eval e X.env)::starEach es X.env:=by rfl) (oJ:(backTo pos (starEach es X.env)).any (·.1)=false:=by rfl)
  (ht:eval (.Call (.Attribute o m apos) (e::es) [] pos) X.env=(do
   let ov <-eval o X.env
   standAt apos.atName
   let (f,first) <-holding [ov] (getMethod ov m pl)
   callWith pos f first (backTo pos (starEach (e::es) X.env)) (backToKw pos (keywordEach [] X.env))):=by rfl) :
  PE X (.Call (.Attribute o m apos) (e::es) [] pos) (aak C m sp lW E ta t):=by
 intro pins s σ H Q I h;refine PySem.W.methodCall_KW (pl:=pl) (cI (he pins s σ H _ I h) λu s1 zz=>?_) ht;obtain⟨x,H1,I1,rx,a,dx,fs,ex,ea,l,q⟩:=zz;subst ex;obtain rfl:u=Value.ref a:=rx;refine zre I1 ea c hm l ?_;refine afj (first:=[.ref a]) (h₀:=X.base) I.ok.mod.V3 hm.kp (cI (ha pos pins s1 σ H1 _ I1 q) λus s2 zz=>?_) Em oJ;obtain⟨vs,H2,I2,r,q2⟩:=zz;refine⟨I2.qp,?_⟩;exact zy (us:=.ref a::us) (vs:=.ref a::vs) F hr hb hd hx I2 (.cons rfl r) q2
structure Mk(K:PySem.W.Frag)(C f:Addr):Prop where
 makes:PySem.W.makesIn K C=true
 init:PySem.W.findIn K (.ref C) "__init__" = some (some (.ref f))
 fn:PySem.W.isFn K (.ref f)=true
 kp:PySem.W.keepIn K (.ref C)=true
def Hc(M:Mk X.K C f)(F:cu X.prog X.w X.K X.mg X.base CX k f fd ps sp)(hr:cH (k+1) X.A)(hb:Binds X.K fd ps ds)(hd:Vals lW ds) 
  (hx:Passes CX X E) (I:Inv X pins σ H s) (r:Vals vs us)
  (h:∀x dx,H x=none->H dx=none->dx≠x->sp (.ref x::(vs++lW)) (upd (upd H dx (.own x)) x (.ins C dx [])) (λv H2=>v=.non/\Q (.ref x) H2) E) :
  wpAny (model X.prog X.w) X.A (call (.ref C) us) (EP X pins σ Q) X.xe s:=by
 have hq:=h (s.heap.objs.size+1) s.heap.objs.size (I.bI.fresh (Nat.le_succ _)) (I.bI.fresh (gb _)) (gU (nT _));have I2:=Inv.made (C:=C) I;have r2:Vals (V.ref (s.heap.objs.size+1)::(vs++lW)) (Value.ref (s.heap.objs.size+1)::(us++ds)):=.cons rfl (r.append hd);have hl:(Value.ref (s.heap.objs.size+1)::us++ds).length=ps.length:=by
  have e:=r2.length;rw[F.len _ _ _ _ hq]at e;exact e.symm
 refine wpAny_call (Jd (f:=f) I.qp M.makes M.init (beq_iff_eq.mp M.fn) (afz (F.run _ X.stack _ _ ⟨Value.ref (s.heap.objs.size+1)::us,[]⟩ (Value.ref (s.heap.objs.size+1)::(us++ds)) _ _ E (hr.make C us [])
  (I2.QR.make C us []) (hb _ (Value.ref (s.heap.objs.size+1)::us) I2.qp hl) r2 hq) λr s' En=>?_))
 cases r with
 | error e=>exact hx pins σ _ _ e s' I2 En
 | ok fl =>
  cases fl with
  | ret u =>
   obtain⟨v,H',I3,rv,ev,q3⟩:=I2.after En;subst ev;exact⟨rv,⟨V.ref (s.heap.objs.size+1),H',I3,rfl,q3⟩⟩
  | next=>exact False.elim En
  | brk=>exact False.elim En
  | cont=>exact False.elim En
def OJ(M:Mk X.K C f)(F:cu X.prog X.w X.K X.mg X.base CX k f fd ps sp)(hr:cH (k+1) X.A)(hg:Gl X x)(hm:X.mg x=some (.ref C))(hb:Binds X.K fd ps ds)(hd:Vals lW ds)(hx:Passes CX X E)
  (ha:PA X (e::es) t) (qU:(x==("__debug__":Str))=false:=by decide) (he:starEach (e::es) X.env=(false,eval e X.env)::starEach es X.env:=by rfl) (oJ:(backTo pos (starEach es X.env)).any (·.1)=false:=by rfl) :
  PE X (.Call (.Name x p) (e::es) [] pos) (aal C sp lW E t):=by
 intro pins s σ H Q I h;refine ae7 (Z7 I hg hm ?_ qU);refine afj (h₀:=X.base) I.ok.mod.V3 M.kp (cI (ha pos pins s σ H _ I h) λus s1 zz=>?_) he oJ;obtain⟨vs,H1,I1,r,q⟩:=zz;refine⟨I1.qp,?_⟩;exact Hc M F hr hb hd hx I1 r q
end
section
variable  {X:Cx}{CX:Lz}{k:Nat}{f C:Addr}{fd:FuncData}{ps ks:List Str}{sp:Sp}{E:XK}{x m:Str}{p pos apos aex:Pos}{e o:Expr}{es:List Expr}{kws:List Keyword}{te ta:TE}{t tk:TA}{nm:Option Str}
structure aee(K:PySem.W.Frag)(fd:FuncData)(ps ks:List Str)(g:List Value->List Value->List Value)(gV:List V->List V->List V):Prop where
 to:∀(s:Shared) (us ws:List Value),K.In s.heap->(g us ws).length=ps.length->BindsTo s fd ⟨us,ks.zip ws⟩ (ps.zip (g us ws))
 rel:∀{vs:List V} {us:List Value} {zs:List V} {ws:List Value},Vals vs us->Vals zs ws->Vals (gV vs zs) (g us ws)
variable  {g:List Value->List Value->List Value}{gV:List V->List V->List V}
end
structure cU(N P:List Str)(sc:Scope):Prop where
 kind:sc.kind=.function
 co:sc.isCoroutine=false
 gen:sc.isGenerator=false
 nd:N.Nodup
 pre:N.take P.length=P
 par:∀x∈P,sc.names.lookup x=some .local\/sc.names.lookup x=some .cell
 VH:∀y∈sc.names,y.2≠.free
theorem zm4{kindOf:Str->Option NameKind}{x:Str}:∀{binds:List (Str×Value)} {m:Str->Option Value},(∀v,(x,v)∉binds)->bindL kindOf binds m x=m x
 | [],_,_=>rfl
 | (n,v)::r,m,h=>by
  unfold bindL;rw[zm4 λw hw=>h w (kW _ hw)]
  split
  ·have:x≠n:=by rintro rfl;exact h v p6
   simp[this]
  ·rfl
theorem zn7{kindOf:Str->Option NameKind}{x:Str}:∀{binds:List (Str×Value)} {m:Str->Option Value},(∀v,(x,v)∉binds)->bindC kindOf binds m x=m x
 | [],_,_=>rfl
 | (n,v)::r,m,h=>by
  unfold bindC;rw[zn7 λw hw=>h w (kW _ hw)]
  split
  ·rfl
  ·have:x≠n:=by rintro rfl;exact h v p6
   simp[this]
theorem zn4{kindOf:Str->Option NameKind}{x:Str}{v:Value}:∀{P:List Str} {vs:List Value} {i:Nat} {m:Str->Option Value},P.Nodup->P[i]? = some x->vs[i]? = some v->kindOf x=some .local ->
  bindL kindOf (P.zip vs) m x=some v
 | [],_,_,_,_,h,_,_=>by simp at h
 | _::_,[],_,_,_,_,h,_=>by simp at h
 | p::P,w::vs,0,m,nd,h1,h2,hk=>by
  simp at h1 h2;subst h1;subst h2;show bindL kindOf ((p,w)::P.zip vs) m p=_;unfold bindL;rw[zm4 λv hv=>(mF.mp nd).1 (nu hv).1,aeT hk];simp
 | p::P,w::vs,i+1,m,nd,h1,h2,hk=>by
  show bindL kindOf ((p,w)::P.zip vs) m x=_;unfold bindL;exact zn4 (i:=i) (mF.mp nd).2 (by simpa using h1) (by simpa using h2) hk
theorem znx{kindOf:Str->Option NameKind}{x:Str}{v:Value}:∀{P:List Str} {vs:List Value} {i:Nat} {m:Str->Option Value},P.Nodup->P[i]? = some x->vs[i]? = some v->kindOf x≠some .local ->
  bindC kindOf (P.zip vs) m x=some v
 | [],_,_,_,_,h,_,_=>by simp at h
 | _::_,[],_,_,_,_,h,_=>by simp at h
 | p::P,w::vs,0,m,nd,h1,h2,hk=>by
  simp at h1 h2;subst h1;subst h2;show bindC kindOf ((p,w)::P.zip vs) m p=_;unfold bindC;rw[zn7 λv hv=>(mF.mp nd).1 (nu hv).1,aeU hk];simp
 | p::P,w::vs,i+1,m,nd,h1,h2,hk=>by
  show bindC kindOf ((p,w)::P.zip vs) m x=_;unfold bindC;exact znx (i:=i) (mF.mp nd).2 (by simpa using h1) (by simpa using h2) hk
def start(N:List Str)(vs:List V):St:=vs.map some++List.replicate (N.length - vs.length) none
def uZ(CX:Lz)(P:Program)(w:World)(K:PySem.W.Frag)(mg:Str->Option Value)(base:Heap)(N:List Str)(qual:Str)(scope:Scope)(f:Addr)(cd:Value)(A:Around)(outer:List Env)(s:Shared)(H:Hp)(E:XK):Cx where
 prog:=P
 w:=w
 K:=K
 mg:=mg
 base:=base
 A:=A.deeper (envOfC qual scope s.heap.objs.size f cd)
 N:=N
 aeJ:=s
 aeR:=H
 env:=envOfC qual scope s.heap.objs.size f cd
 outer:=outer
 stack:=envOfC qual scope s.heap.objs.size f cd::outer
 ex:=[]
 calm:=true
 fn:=λ_=>true
 pn:=[]
 xe:=λe s'=>wpAny (model P w) (A.deeper (envOfC qual scope s.heap.objs.size f cd)) (leaving (envOfC qual scope s.heap.objs.size f cd) e) (λ_ s''=>CX outer H s E e s'') (λe' s''=>CX outer H s E e' s'') s'
def zqv{sc:Scope}{n:Nat}{x:Str}(h:sc.names.lookup x=some .cell):∃c,(cellsFrom n sc.names []).lookup x=some c:=by
 have q:=PySem.W.cellsFrom_some sc.names n [] (.inl h);exact Option.isSome_iff_exists.mp q
def Ej{CX:Lz}{P:Program}{w:World}{K:PySem.W.Frag}{mg:Str->Option Value}{base:Heap}{N ps:List Str}{qual:Str}{scope:Scope}{f:Addr}{cd:Value}{A:Around}{outer:List Env}{s s1:Shared}{H:Hp}{E:XK}{us:List Value}{vs:List V}
  (S:cU N ps scope) (hd:A.handled=none) (e0:yc P w K mg base A outer s H) (hl:vs.length=ps.length) (r:Vals vs us)
  (x:InCallC s s.heap.objs.size (bindL (envOfC qual scope s.heap.objs.size f cd).kindOf (ps.zip us) λ_=>none) (cellsFrom (s.heap.objs.size+1) scope.names []) (bindC (envOfC qual scope s.heap.objs.size f cd).kindOf (ps.zip us) λ_=>none) s1) :
  Inv (uZ CX P w K mg base N qual scope f cd A outer s H E) [] (start N vs) H s1:=by
 have oJ:ps.length<=N.length:=by have:=congrArg List.length S.pre;rw[kI]at this;omega
 obtain⟨h1,tk,rfl,hk⟩:=x.done;have Pq:∀b:Addr,b∉(uZ CX P w K mg base N qual scope f cd A outer s H E).ex:=λb z=>absurd (show b∈([]:List Addr) from z) (by simp);refine⟨⟨e0.mod,S.kind,rfl,rfl,gb _,λy z c h1 h2=>?_,λy hy=>?_,λy c _ h=>?_,λ_=>hd,Around.frames_deeper e0.frames,.inr ⟨rfl,rfl⟩,λb z=>absurd z (Pq b),e0.bs,e0.Fw,λb _ _=>Pq b,λb z=>absurd z (Pq b),e0.oN,e0.Kl⟩,
  rfl,e0.bare,Un.kept hk,⟨_,x.toInCall.ns,λi y v h1 h2 h3=>?_⟩,λy c h=>⟨_,x.cell y c h⟩,e0.bI.fresh (gb _),λy c h=>?_,λp hp=>absurd (show p∈([]:List (Addr×Obj)) from hp) (by simp),e0.bI.kept hk,?_⟩
 ·exact name_of_addr x.apart (aeZ h1) (aeZ h2)
 ·have hy:scope.names.lookup y=some .cell\/scope.names.lookup y=some .free:=hy;rcases hy with hy | hy
  ·exact zqv hy
  ·exact absurd rfl (S.VH _ (aeZ hy))
 ·exact Nat.le_of_lt (x.above y c (aeZ h))
 ·have hi:i<vs.length:=by
   unfold start at h2;by_cases hi:i<vs.length
   ·exact hi
   ·rw[h_ (by simpa using hi)]at h2;rw[List.getElem?_replicate]at h2
    split at h2<;>cases h2
  have ha:vs[i]? = some v:=by
   unfold start at h2;rw[gK (by simpa using hi),gP]at h2;cases e:vs[i]? with
   | none=>rw[e]at h2;cases h2
   | some a=>rw[e]at h2;cases h2;rfl
  obtain⟨u,hu,rv⟩:=r.get ha;have hp:ps[i]? = some y:=by
   rw[<-S.pre,List.getElem?_take_of_lt (by omega)];exact h1
  have ndP:ps.Nodup:=by rw[<-S.pre];exact S.nd.sublist (List.take_sublist _ _)
  refine⟨u,rv,?_⟩;rcases S.par y (gW hp) with k | k
  ·exact .inl ⟨k,zn4 ndP hp hu k⟩
  ·obtain⟨c,e⟩:=zqv (n:=s.heap.objs.size+1) k;refine .inr ⟨.inl k,c,e,?_⟩;have q:=x.cell y c e;rw[znx ndP hp hu (by show scope.names.lookup y≠_;rw[k];decide)]at q;exact q
 ·exact e0.bI.fresh (Nat.le_of_lt (x.above y c (aeZ h)))
 ·unfold start;show _=N.length;rw[gJ,gq,List.length_replicate];omega
def Kq{CX:Lz}{P:Program}{w:World}{K:PySem.W.Frag}{mg:Str->Option Value}{base:Heap}{k:Nat}{f:Addr}{name qual:Str}{params:Arguments}{body:List Stmt}{scope:Scope}{dV kV doc pm cdv ct oc:Value}{an od:Option Addr}
  {sS:Array (Option Value)} {N ps:List Str} {sp:Sp} (lk:K.lookup f=some ⟨oc,od,.func (PySem.W.fnOf name qual params body scope dV kV doc pm an cdv ct),sS⟩) (xJ:PySem.W.codeIn K cdv qual=true) (S:cU N ps scope)
  (len:∀vs H Q E,sp vs H Q E->vs.length=ps.length)
  (lV:∀(A:Around) (outer:List Env) (s:Shared) (H:Hp) (vs:List V) (Q:VK) (E:XK),cH k (A.deeper (envOfC qual scope s.heap.objs.size f cdv))->sp vs H Q E ->
   ∃t,yP (uZ CX P w K mg base N qual scope f cdv A outer s H E) body t/\t { nx:=λ_ H'=>Q .non H',rt:=Q } (start N vs) H) :
  cu P w K mg base CX (k+1) f (PySem.W.fnOf name qual params body scope dV kV doc pm an cdv ct) ps sp:=by
 refine⟨len,λA outer s H args us vs Q E hr e0 hb r Zn=>?_⟩;have hl:=len _ _ _ _ Zn;have KX:K.In s.heap:=e0.mod.V3.keeps λb o e=>(e0.bs b o e).1;have lim:s.heap.NoLimit:=e0.mod.nolimit.keeps λb o e=>(e0.bs b o e).1;have abt:∀y∈ps.zip us,scope.names.lookup y.1=some .local\/(scope.names.lookup y.1=some .cell/\((cellsFrom (s.heap.objs.size+1) scope.names []).lookup y.1).isSome=true):=λ⟨n,v⟩ hy=>by
  rcases S.par n (nu hy).1 with q | q
  ·exact .inl q
  ·exact .inr ⟨q,PySem.W.cellsFrom_some _ _ _ (.inl q)⟩
 refine codeAny_call_function hr.depth (KX _ _ lk) rfl S.co S.gen rfl (PySem.W.codeRec_of KX xJ) (hb _ _ _ _ ?_);refine wpAny_newFunctionEnv_cells S.kind abt λenv he s1 x=>?_;subst he;refine⟨lim.keeps x.toInCall.keep,codeAny_func ?_⟩;obtain⟨t,ht,hq⟩:=lV A outer s H vs Q E (hr.deeper _) Zn;have I:Inv (uZ CX P w K mg base N qual scope f cdv A outer s H E) [] (start N vs) H s1:=Ej S hr.hd e0 hl r x;refine ae6 (ht [] s1 (start N vs) H _ I hq) (λfl s' hs=>?_) λe s' hs=>hs;have fin:∀{σ':St} {H':Hp} {v:V} {u:Value},Inv (uZ CX P w K mg base N qual scope f cdv A outer s H E) [] σ' H' s'->RelV v u->Q v H'->CE outer P w H s Q u s' :=
  λ{σ' H' v u} J rv q=>⟨v,H',J.os,J.bare,J.base,J.bI,rv,q⟩
 cases fl with
 | ret u =>
  obtain⟨v,σ',H',J,rv,q⟩:=hs;exact fin J rv q
 | next =>
  obtain⟨σ',H',J,q⟩:=hs;exact fin (v:=V.non) (u:=Value.none) J rfl q
 | brk =>
  obtain⟨_,_,_,q⟩:=hs;exact False.elim q
 | cont =>
  obtain⟨_,_,_,q⟩:=hs;exact False.elim q
section
variable  {X:Cx}{x:Str}{p pos:Pos}{e:Expr}{es:List Expr}{t:TA}{id T:String}{r:List V->Hp->VK->Prop}
def tCB(r:List V->Hp->VK->Prop)(t:TA):TE:=fun σ H Q=>t σ H λvs H1=>r vs H1 Q
def zsc(hc:cB X (.builtin id) r)(hg:Gl X x)(hm:X.mg x=none)(hv:bootBuiltins x=some (.builtin id))(ha:PA X (e::es) t)(hn:x ≠ "__name__":=by decide)(qU:(x==("__debug__":Str))=false:=by decide)
  (he:starEach (e::es) X.env=(false,eval e X.env)::starEach es X.env:=by rfl) (oJ:(backTo pos (starEach es X.env)).any (·.1)=false:=by rfl):PE X (.Call (.Name x p) (e::es) [] pos) (tCB r t):=by
 intro pins s σ H Q I h;refine ae7 (M3 I hg hm hv ?_ hn qU);refine PyProof.Rows.callWith_builtin1 (cI (ha pos pins s σ H _ I h) λus s1 zz=>?_) he oJ;obtain⟨vs,H1,I1,r1,q1⟩:=zz;exact hc pins s1 σ H1 vs us Q I1 r1 q1
def DP(hc:cB X (.type T) r)(hg:Gl X x)(hm:X.mg x=none)(hv:bootBuiltins x=some (.type T))(ha:PA X (e::es) t)(hn:x ≠ "__name__":=by decide)(qU:(x==("__debug__":Str))=false:=by decide)
  (he:starEach (e::es) X.env=(false,eval e X.env)::starEach es X.env:=by rfl) (oJ:(backTo pos (starEach es X.env)).any (·.1)=false:=by rfl):PE X (.Call (.Name x p) (e::es) [] pos) (tCB r t):=by
 intro pins s σ H Q I h;refine ae7 (M3 I hg hm hv ?_ hn qU);refine ae1 (cI (ha pos pins s σ H _ I h) λus s1 zz=>?_) he oJ;obtain⟨vs,H1,I1,r1,q1⟩:=zz;exact hc pins s1 σ H1 vs us Q I1 r1 q1
end
end L2
namespace HT
open PySem PyProof.Rows
section
open PySem.SeqAt
open PySem.AutoSeq1 (wpAny_loadPart')
open PySem.MeetsSeq PySem.MeetsSeq2 PySem.MeetsSeq3
end
section
variable  {prog:Program}{w:World}{A:Around}{E:Value->Shared->Prop}{s:Shared}
def Rk(ht:IsTup s.heap t vs.toArray)(hb:IsTup s.heap b ws.toArray)(hv:vs≠[]) 
  (h1:ws=[]->Q (.ref t) s) (h2:ws≠[]->Q (.ref s.heap.objs.size) { s with heap:=s.heap.push { cls:=.type "tuple",data:=.seq (vs++ws).toArray } })
  (hsz:vs.length+ws.length<=sizeLine):wpAny (model prog w) A (binaryOp .Add (.ref t) (.ref b)) Q E s:=by
 obtain⟨⟨cls,dd,data,sl⟩,ho,hc,n,hd⟩:=id ht;obtain⟨⟨ad9,dd2,data2,sl2⟩,J5,Xh,n2,hd2⟩:=id hb;simp only at hc hd Xh hd2;subst hc hd Xh hd2;have e:vs.toArray++ws.toArray=(vs++ws).toArray:=by simp
 by_cases hw:ws=[]
 ·exact concat_meets ⟨_,ho,rfl⟩ ⟨_,J5,rfl⟩ noFill_tuple_add seq_tuple_add afC afy (afw _ _)
   (tuple_addW1 t b vs.toArray ws.toArray n n2 dd dd2 sl sl2 (by simpa using hv) (by simp[hw])) ⟨ho,J5,h1 hw⟩
 ·refine concat_meets ⟨_,ho,rfl⟩ ⟨_,J5,rfl⟩ noFill_tuple_add seq_tuple_add afC afy (afw _ _)
   (tuple_addW2 t b vs.toArray ws.toArray n n2 dd dd2 sl sl2 (by simpa using hv) (by simpa using hw) (by rw[gG,gG];exact hsz)) ⟨ho,J5,?_⟩
  rw[e];exact h2 hw
noncomputable def cO(n d:Nat):Option Int->Nat
 | none=>d
 | some v=>if v<0 then (v+(n:Int)).toNat else min v.toNat n
def zl1(n d:Nat):cO n d none=d:=rfl
def Aq(n d k:Nat):cO n d (some (k:Int))=min k n:=by
 show (if (k:Int)<0 then ((k:Int)+(n:Int)).toNat else min (k:Int).toNat n)=min k n;rw[aeU (by omega),Int.toNat_natCast]
def Hb(n d:Nat)(hd:d<=n)(o:Option Int):cO n d o<=n:=by
 cases o with
 | none=>exact hd
 | some v =>
  show (if v<0 then (v+(n:Int)).toNat else min v.toNat n)<=n;by_cases hv:v<0
  ·rw[aeT hv];omega
  ·rw[aeU hv];exact Nat.min_le_right _ _
def Ce(v:Int)(n d:Nat):(if v<0 then max (v+(n:Int)) 0 else min v (n:Int))=((cO n d (some v):Nat):Int):=by
 show (if v<0 then max (v+(n:Int)) 0 else min v (n:Int))=(((if v<0 then (v+(n:Int)).toNat else min v.toNat n):Nat):Int);by_cases hv:v<0
 ·simp only[aeT hv];omega
 ·simp only[aeU hv];omega
def zrh(lo hi:Option Int)(n:Nat):Builtin.Slice.sliceAdjust lo hi 1 (n:Int)=(((cO n 0 lo:Nat):Int),((cO n n hi:Nat):Int)):=by
 have h1:¬ ((1:Int)<0):=by omega
 unfold Builtin.Slice.sliceAdjust;simp only[h1,if_false];refine Prod.ext ?_ ?_
 ·cases lo with
  | none=>rfl
  | some v=>exact Ce v n 0
 ·cases hi with
  | none=>rfl
  | some v=>exact Ce v n n
def zsn(i j:Nat):Builtin.Slice.slicePlaces (i:Int) (j:Int) 1=j - i:=by
 unfold Builtin.Slice.slicePlaces;have h1:(1:Int) > 0:=by omega
 simp only[h1,if_true,Int.ediv_one]
 split<;>omega
def zla(p:IsPart v o)(h:Q o s):wpAny (model prog w) A (Builtin.Slice.slicePartIndex v) Q E s:=by
 cases p with
 | none=>exact slicePart_none h
 | int i t=>exact slicePart_int h
def zdw{sl:Addr}{vl vu:Value}{lo hi:Option Int}{n:Nat}{Q:Int×Int×Nat->Shared->Prop}(hs:s.heap.IsSliceOf sl vl vu .none)(pl:IsPart vl lo)(pu:IsPart vu hi)
  (h:Q (((cO n 0 lo:Nat):Int),1,cO n n hi - cO n 0 lo) s):wpAny (model prog w) A (Builtin.Slice.sliceApplied (.ref sl) (pure (n:Int))) Q E s:=by
 obtain⟨os,W5,hcs,wk⟩:=id hs;unfold Builtin.Slice.sliceApplied Builtin.Slice.sliceFields;refine aeS (aeS (afp W5 wk (x:=vl) rfl (aeS (afp W5 wk (x:=vu) rfl (aeS (afp W5 wk (x:=.none) rfl (aeV ?_)))))));refine aeS (slicePart_none ?_);show wpAny _ _ (if ((1:Int)==0)=true then _ else _) _ _ s;rw[aeU (by decide)];refine aeS (zla pl (aeS (zla pu (aeS (aeV ?_)))));show wpAny _ _ (match Builtin.Slice.sliceAdjust lo hi 1 (n:Int) with | (lo,hi)=>pure (lo,(1:Int),Builtin.Slice.slicePlaces lo hi 1)) _ _ s;rw[zrh lo hi n];show wpAny _ _ (pure (((cO n 0 lo:Nat):Int),(1:Int),Builtin.Slice.slicePlaces ((cO n 0 lo:Nat):Int) ((cO n n hi:Nat):Int) 1)) _ _ s;rw[zsn];exact aeV h
def HJ(xs:Array Value)(i k:Nat):((List.range k).filterMap λ(m:Nat)=>xs[((i:Int)+(m:Int)*1).toNat]?).toArray=((xs.toList.drop i).take k).toArray:=by
 have e:(λ(m:Nat)=>xs[((i:Int)+(m:Int)*1).toNat]?)=λm=>xs[i+m]?:=by
  funext m;have:((i:Int)+(m:Int)*1).toNat=i+m:=by omega
  rw[this]
 rw[e];have:=pick_run xs i k;rw[List.filterMap_map]at this;have e2:((λx=>xs[x]?)∘λx=>i+x)=λm=>xs[i+m]?:=rfl;rw[e2]at this;rw[this]
def zgm{t sl:Addr}{items:Array Value}{vl vu:Value}{lo hi:Option Int}{Q:Value->Shared->Prop}(ht:IsTup s.heap t items)(hs:s.heap.IsSliceOf sl vl vu .none)(pl:IsPart vl lo)(pu:IsPart vu hi)
  (hw:¬ (cO items.size 0 lo=0/\cO items.size items.size hi=items.size))
  (h:Q (.ref s.heap.objs.size) { s with heap:=s.heap.push { cls:=.type "tuple",data:=.seq ((items.toList.drop (cO items.size 0 lo)).take (cO items.size items.size hi - cO items.size 0 lo)).toArray } })
  (hsz:items.size<=sizeLine):wpAny (model prog w) A (getItem (.ref t) (.ref sl)) Q E s:=by
 have Bx:sizeOk (.seq ((items.toList.drop (cO items.size 0 lo)).take (cO items.size items.size hi - cO items.size 0 lo)).toArray):=by
  show ((items.toList.drop (cO items.size 0 lo)).take (cO items.size items.size hi - cO items.size 0 lo)).toArray.size<=sizeLine;rw[gG,kI,mV,nR];omega
 have hj:cO items.size items.size hi<=items.size:=Hb _ _ (gb _) hi;obtain⟨os,W5,hcs,wk⟩:=id hs;have hTs:s.TypeIs (.ref sl) "slice":=⟨os,W5,hcs⟩;unfold getItem
 try with_reducible refine afo ?_
 first | refine aeS (aeV ?_) | skip
 refine aeS (wpAny_sequenceKey ht.typeIs (by decide) ?_);refine aeS (afa (name:=Str.ofString "__getitem__") ht.typeIs ae8
  (afq ae8 ht.typeIs entry_tuple_getitem ?_ (args_tuple_getitem _ _)))
 show wpAny _ _ (Builtin.Tuple.tupleItemsOf (.ref t) >>= _) _ _ s;refine aeS (tupleItemsOf_ ht ?_);refine aeS (wpAny_typeOf hTs ?_);rw[aeT (by decide)];refine aeS (zdw hs pl pu ?_);have Zr:¬ ((((cO items.size 0 lo:Nat):Int)==0 && (1:Int)==1 && (cO items.size items.size hi - cO items.size 0 lo)==items.size)=true):=by
  intro q;rw[gH,gH]at q;have q1:((cO items.size 0 lo:Nat):Int)=0:=eq_of_beq q.1.1;have q2:cO items.size items.size hi - cO items.size 0 lo=items.size:=eq_of_beq q.2;exact hw ⟨by omega,by omega⟩
 show wpAny _ _ (if (((cO items.size 0 lo:Nat):Int)==0 && (1:Int)==1 && (cO items.size items.size hi - cO items.size 0 lo)==items.size)=true then _ else _) _ _ s;rw[aeU Zr,HJ]
 first
  | exact aeS (m:=Builtin.Tuple.tupleExact _) (ae9 (aeV ⟨_,rfl,aeV h⟩) Bx)
  | exact aeS (m:=Builtin.Tuple.tupleExact _) (ae9 (aeS (aeV (aeV ⟨_,rfl,aeV h⟩))) Bx)
  | exact aeS (aeS (m:=Builtin.Tuple.tupleExact _) (ae9 (aeV (aeV ⟨_,rfl,aeV h⟩)) Bx))
  | exact aeS (aeS (m:=Builtin.Tuple.tupleExact _) (ae9 (aeV ⟨_,rfl,aeV h⟩) Bx))
end
end HT
namespace L2
open PySem PySem.Spec PyProof.Rows
abbrev TO:=St->Hp->(Option Int->Hp->Prop)->Prop
def PO(X:Cx)(e:Option Expr)(t:TO):Prop :=
 ∀(pins:List (Addr×Obj)) (s:Shared) (σ:St) (H:Hp) (Q:Option Int->Hp->Prop),Inv X pins σ H s->t σ H Q ->
  wpAny (model X.prog X.w) X.A (evalPart e X.env) (λu s'=>∃o H',Inv X pins σ H' s'/\IsPart u o/\Q o H') X.xe s
def Nk:TO:=λ_ H Q=>Q none H
def aah(t:TE):TO:=fun σ H Q=>t σ H λx H1=>∃i,x=.int i/\Q (some i) H1
section
variable  {X:Cx}{e:Expr}{te:TE}{lo hi:Option Expr}{tl th:TO}{pos p2:Pos}
def Om:PO X none Nk:=by
 intro pins s σ H Q I h;rw[evalPart_none];exact aeV ⟨none,H,I,.none,h⟩
def Ol(h:PE X e te):PO X (some e) (aah te):=by
 intro pins s σ H Q I hw;rw[evalPart_some];refine cI (h pins s σ H _ I hw) λu s1 zz=>?_;obtain⟨x,H1,I1,r1,q1⟩:=zz;obtain⟨i,rfl,q⟩:=q1;obtain⟨t,rfl⟩:=r1;exact⟨some i,H1,I1,.int i t,q⟩
def yM(X:Cx)(r:V->Option Int->Option Int->Hp->VK->Prop):Prop :=
 ∀(pins:List (Addr×Obj)) (s:Shared) (σ:St) (H:Hp) (x:V) (v vl vu:Value) (lo hi:Option Int) (sl:Addr) (Q:VK),Inv X pins σ H s->RelV x v->s.heap.IsSliceOf sl vl vu .none->IsPart vl lo->IsPart vu hi->r x lo hi H Q ->
  ∃T id,typeLookup (.type T) "__getitem__" = pure (some (.builtin id))/\s.TypeIs v T/\wpAny (model X.prog X.w) X.A (getItem v (.ref sl)) (EP X pins σ Q) X.xe s
def yM.or{r r':V->Option Int->Option Int->Hp->VK->Prop}(h:yM X r)(h':yM X r'):yM X (λx lo hi H Q=>r x lo hi H Q\/r' x lo hi H Q):=by
 intro pins s σ H x v vl vu lo hi sl Q I rx hs pl pu q;rcases q with q | q
 ·exact h pins s σ H x v vl vu lo hi sl Q I rx hs pl pu q
 ·exact h' pins s σ H x v vl vu lo hi sl Q I rx hs pl pu q
def tSl(r:V->Option Int->Option Int->Hp->VK->Prop)(te:TE)(tl th:TO):TE:=fun σ H Q=>te σ H λx H1=>tl σ H1 λl H2=>th σ H2 λu H3=>r x l u H3 Q
def HX{r:V->Option Int->Option Int->Hp->VK->Prop}(hr:yM X r)(he:PE X e te)(hl:PO X lo tl)(hu:PO X hi th):PE X (.Subscript e (.Slice lo hi none p2) pos) (tSl r te tl th):=by
 intro pins s σ H Q I h;refine Subscript_ (cI (he pins s σ H _ I h) λv s1 zz=>?_);obtain⟨x,H1,I1,r1,q1⟩:=zz;refine wpAny_Slice (cI (hl pins s1 σ H1 _ I1 q1) λvl s2 zz=>?_);obtain⟨l,H2,I2,pl,q2⟩:=zz;refine cI (hu pins s2 σ H2 _ I2 q2) λvu s3 zz=>?_;obtain⟨u,H3,I3,pu,q3⟩:=zz;rw[evalPart_none];refine aeV ?_;have I4:Inv X pins σ H3 { s3 with heap:=s3.heap.push { cls:=.type "slice",data:=.fields #[vl,vu,.none] } }:=I3.kept (t':=s3.toks) λb ob q=>gF _ q;obtain⟨T,id,hT,ht,hg⟩:=hr pins { s3 with heap:=s3.heap.push { cls:=.type "slice",data:=.fields #[vl,vu,.none] } } σ H3 x v vl vu l u s3.heap.objs.size Q I4 r1 (Heap.IsSliceOf.new ..) pl pu q3;show wpAny (model X.prog X.w) X.A (subscriptTail e (.Slice lo hi none p2) v (.ref s3.heap.objs.size)) (EP X pins σ Q) X.xe { s3 with heap:=s3.heap.push { cls:=.type "slice",data:=.fields #[vl,vu,.none] } };exact tail_any (ops:=[.ref s3.heap.objs.size,v]) ht hT hg (by with_unfolding_all rfl)
def yJ(xs:List V)(lo hi:Option Int):List V:=(xs.drop (HT.cO xs.length 0 lo)).take (HT.cO xs.length xs.length hi - HT.cO xs.length 0 lo)
def zi3(xs:List V)(lo hi:Option Int):(yJ xs lo hi).length<=xs.length:=by
 unfold yJ;rw[kI,mV];omega
def ac4(K:PySem.W.Frag):V->Option Int->Option Int->Hp->VK->Prop:=λx lo hi H Q=>∃a xs,x=.ref a/\oG K H a xs /\
 ¬ (HT.cO xs.length 0 lo=0/\HT.cO xs.length xs.length hi=xs.length)/\∀p,H p=none->Q (.ref p) (upd H p (.tup (yJ xs lo hi)))
def UG:yM X (ac4 X.K):=by
 intro pins s σ H x v vl vu lo hi sl Q I rx hs pl pu h;obtain⟨a,xs,rfl,hx,hw,q⟩:=h;cases rx;obtain⟨its,r,ht,hz⟩:=I.tuple hx;have hlen:its.toArray.size=xs.length:=by rw[gG];exact r.length.symm
 refine⟨"tuple",_,PyProof.Rows.slot_tuple_getitem.lookup,ht.typeIs,?_⟩;refine HT.zgm ht hs pl pu (by rw[hlen];exact hw) ?_ (by rw[hlen];exact hz);rw[hlen];refine⟨.ref s.heap.objs.size,_,I.laid (t':=s.toks) (o:=.tup (yJ xs lo hi)) (λb ob q=>gF _ q) (gb _) ?_,rfl,q _ (I.bI.fresh (gb _))⟩;exact⟨kh (zi3 xs lo hi) hz,_,(r.drop (HT.cO xs.length 0 lo)).take (HT.cO xs.length xs.length hi - HT.cO xs.length 0 lo),IsTup.new _ _⟩
def aaL(K:PySem.W.Frag):R2:=λx y H Q=>∃a b xs ys,x=.ref a/\y=.ref b/\oG K H a xs/\oG K H b ys/\xs≠[]/\xs.length+ys.length<=sizeLine /\
 (ys=[]->Q (.ref a) H)/\(ys≠[]->∀p,H p=none->Q (.ref p) (upd H p (.tup (xs++ys))))
def Vals.xm(r:Vals xs us):us=[]↔xs=[]:=by
 cases r with
 | nil=>simp
 | cons _ _=>simp
def Pj:dZ X (binaryOp .Add) (aaL X.K):=by
 intro pins s σ H x y v u Q I rx ry h;obtain⟨a,b,xs,ys,rfl,rfl,ha,hb,hx,hz,q1,q2⟩:=h;cases rx;cases ry;obtain⟨its,r1,p1,_⟩:=I.tuple ha;obtain⟨qQ,r2,p2,_⟩:=I.tuple hb;refine HT.Rk p1 p2 (λz=>hx (r1.xm.mp z)) (λz=>⟨.ref a,H,I,rfl,q1 (r2.xm.mp z)⟩) (λz=>?_) (by rw[<-r1.length,<-r2.length];exact hz);refine⟨.ref s.heap.objs.size,_,I.laid (t':=s.toks) (o:=.tup (xs++ys)) (λb ob q=>gF _ q) (gb _) ?_,rfl,q2 (λw=>z (r2.xm.mpr w)) _ (I.bI.fresh (gb _))⟩;exact⟨by rw[gJ];exact hz,_,r1.append r2,IsTup.new _ _⟩
end
noncomputable def zW(n:Nat)(i:Int):Option Nat:=if 0<=i then (if i<n then some i.toNat else none) else if -(n:Int)<=i then some (i+n).toNat else none
def p_{α:Type}(xs:List α)(i:Int):Option α:=(zW xs.length i).bind λj=>xs[j]?
def Bt(h:zW n i=some j):seqIndex? i n=some j/\j<n/\-(n:Int)<=i/\i<n:=by
 unfold zW at h;by_cases h0:0<=i
 ·rw[aeT h0]at h;by_cases h1:i<n
  ·rw[aeT h1]at h;have e:i.toNat=j:=aeX h;exact⟨by rw[seqIndex_of h0 h1,e],by omega,by omega,h1⟩
  ·rw[aeU h1]at h;cases h
 ·rw[aeU h0]at h;by_cases h1:-(n:Int)<=i
  ·rw[aeT h1]at h;have e:(i+n).toNat=j:=aeX h;exact⟨by rw[seqIndex_neg (by omega) h1,e],by omega,h1,by omega⟩
  ·rw[aeU h1]at h;cases h
def zr5{α:Type}{xs:List α}{i:Int}{v:α}(h:p_ xs i=some v):∃j,seqIndex? i xs.length=some j/\xs[j]? = some v/\j<xs.length/\-(xs.length:Int)<=i/\i<xs.length:=by
 unfold p_ at h;cases e:zW xs.length i with
 | none=>rw[e]at h;cases h
 | some j =>
  rw[e]at h;obtain⟨h1,h2,h3,h4⟩:=Bt e;exact⟨j,h1,h,h2,h3,h4⟩
def Rp{α:Type}{xs:List α}{j:Nat}{v:α}(h:xs[j]? = some v):p_ xs (j:Int)=some v:=by
 have hj:j<xs.length:=(gf.mp h).1;have e:zW xs.length (j:Int)=some j:=by
  unfold zW;rw[aeT (by omega),aeT (by omega)];simp
 unfold p_;rw[e];exact h
def Cw(b:Expr):Prop:=∀o i,subscripted b false o i=operate [o,i] (getItem o i)
def Cy(X:Cx)(r:R2):Prop :=
 ∀(value slice:Expr) (pins:List (Addr×Obj)) (s:Shared) (σ:St) (H:Hp) (x y:V) (v u:Value) (Q:VK),Inv X pins σ H s->RelV x v->RelV y u->r x y H Q ->
  subscripted slice false v u=operate [v,u] (getItem v u)->wpAny (model X.prog X.w) X.A (subscriptTail value slice v u) (EP X pins σ Q) X.xe s
def rF(X:Cx)(id:String)(r:V->List V->Hp->VK->Prop):Prop :=
 ∀(pins:List (Addr×Obj)) (s:Shared) (σ:St) (H:Hp) (x:V) (xs:List V) (v:Value) (us:List Value) (Q:VK),Inv X pins σ H s->RelV x v->Vals xs us->r x xs H Q ->
  wpAny (model X.prog X.w) X.A (call (.builtin id) (v::us)) (EP X pins σ Q) X.xe s
section
variable  {X:Cx}{a b:Expr}{ta tb:TE}{pos:Pos}
def Cy.or{r r':R2}(h:Cy X r)(h':Cy X r'):Cy X (λx y H Q=>r x y H Q\/r' x y H Q):=by
 intro value slice pins s σ H x y v u Q I rx ry q hs;rcases q with q | q
 ·exact h value slice pins s σ H x y v u Q I rx ry q hs
 ·exact h' value slice pins s σ H x y v u Q I rx ry q hs
def aaV(hr:Cy X r)(ha:PE X a ta)(hb:PE X b tb)(hs:Cw b):PE X (.Subscript a b pos) (tOp r ta tb):=by
 intro pins s σ H Q I h;exact Subscript_ (XD ha hb I h λv u s2 x y H2 I2 rx ry q=>hr a b pins s2 σ H2 x y v u Q I2 rx ry q (hs _ _))
def aaK(K:PySem.W.Frag):R2:=λx y H Q=>∃p xs i v,x=.ref p/\y=.int i/\ou K H p xs/\p_ xs i=some v/\Q v H
def aaI(K:PySem.W.Frag):R2:=λx y H Q=>∃p xs i v,x=.ref p/\y=.int i/\oG K H p xs/\p_ xs i=some v/\Q v H
def aaJ:R2:=λx y H Q=>∃z i c,x=.str z/\y=.int i/\z.length<=sizeLine/\p_ z.cps.toList i=some c/\Q (.str ⟨#[c]⟩) H
def Qo:Cy X (aaK X.K):=by
 intro value slice pins s σ H x y v u Q I rx ry h hs;obtain⟨p,xs,i,z,rfl,rfl,hq,he,q⟩:=h;cases rx;obtain⟨t,rfl⟩:=ry;obtain⟨its,r,pl,hz⟩:=I.list hq;obtain⟨j,h1,h2,h3,h4,h5⟩:=zr5 he;obtain⟨w,ew,zx⟩:=r.get h2;have hl:=r.length;have hn:=f9;have fin:EP X pins σ Q w s:=⟨z,H,I,zx,q⟩;by_cases h0:0<=i
 ·have hj:i.toNat=j:=by
   rw[seqIndex_of h0 h5]at h1;exact aeX h1
  exact item_listR pl.isList h0 (by omega) (by rw[hj];simpa using ew) fin hs
 ·have hj:(i+(its.toArray.size:Int)).toNat=j:=by
   rw[seqIndex_neg (by omega) h4]at h1;rw[gG,<-hl];exact aeX h1
  exact subscriptTail_builtinR (x:=w) pl.isList.typeIs slot_list_getitem.lookup
   (wpAny_getItem_list_neg (Q:=λr s'=>r=w/\EP X pins σ Q r s') pl.isList (by omega) (by rw[gG]<;>omega) (by omega) (by rw[hj];simpa using ew) ⟨rfl,fin⟩) hs
def Wu:Cy X (aaI X.K):=by
 intro value slice pins s σ H x y v u Q I rx ry h hs;obtain⟨p,xs,i,z,rfl,rfl,hq,he,q⟩:=h;cases rx;obtain⟨t,rfl⟩:=ry;obtain⟨its,r,pl,hz⟩:=I.tuple hq;obtain⟨j,h1,h2,h3,h4,h5⟩:=zr5 he;obtain⟨w,ew,zx⟩:=r.get h2;have hl:=r.length;have hn:=f9;have fin:EP X pins σ Q w s:=⟨z,H,I,zx,q⟩;exact subscriptTail_builtinR (x:=w) pl.typeIs slot_tuple_getitem.lookup
  (getItem_tuple (j:=j) (Q:=λr s'=>r=w/\EP X pins σ Q r s') pl (by omega) (by omega) (by rw[gG,<-hl];exact h1) (by simpa using ew) ⟨rfl,fin⟩) hs
def zV:Cy X aaJ:=by
 intro value slice pins s σ H x y v u Q I rx ry h hs;obtain⟨z,i,c,rfl,rfl,hz,he,q⟩:=h;obtain⟨t,rfl⟩:=rx;obtain⟨t',rfl⟩:=ry;obtain⟨j,h1,h2,h3,h4,h5⟩:=zr5 he;have hl:z.cps.toList.length=z.length:=by simp[Str.length]
 rw[hl]at h1 h4 h5;have hn:=f9;exact tail_any (afs s z t) slot_str_getitem.lookup (getItem_str (c:=c) (by
  have e1:decide (i < -(2 ^ 63:Int))=false:=aeW (by omega);have e2:decide (i ≥ 2 ^ 63)=false:=aeW (by omega);rw[e1,e2,Bool.or_false]) (by rw[h1];simpa using h2) ⟨.str ⟨#[c]⟩,H,I.tok _,⟨_,rfl⟩,q⟩) hs
def rIx(K:PySem.W.Frag):R2:=λx y H Q=>aaK K x y H Q\/aaI K x y H Q\/aaJ x y H Q
def Wv:Cy X (rIx X.K):=Qo.or (Wu.or zV)
def zq3(its:List Value)(n j:Nat)(u:Value):Obj.mapSeq (·.setIfInBounds j u) { cls:=.type "list",data:=.seq its.toArray n }={ cls:=.type "list",data:=.seq (its.set j u).toArray n }:=by
 simp[Obj.mapSeq]
def Inv.lst(I:Inv X pins σ H s)(h:H p=some (.lst xs)) :
  ∃(its:List Value) (n:Nat),Vals xs its/\s.heap.get? p=some { cls:=.type "list",data:=.seq its.toArray n }/\xs.length<=sizeLine:=by
 obtain⟨z,its,n,r,e⟩:=I.bI p _ h;exact⟨its,n,r,e,z⟩
def Inv.V1{pins:List (Addr×Obj)}{σ:St}{H:Hp}{s:Shared}{p:Addr}{xs ys:List V}{its its':List Value}{n n':Nat}{f:Obj->Obj}(I:Inv X pins σ H s)(h:H p=some (.lst xs))
  (ho:s.heap.get? p=some { cls:=.type "list",data:=.seq its.toArray n }) (hf:f { cls:=.type "list",data:=.seq its.toArray n }={ cls:=.type "list",data:=.seq its'.toArray n' }) (r:Vals ys its') (hz:ys.length<=sizeLine) (t:Nat) :
  Inv X pins σ (upd H p (.lst ys)) { s with heap:=s.heap.update p f,toks:=t }:=by
 have e:(s.heap.update p f).get? p=some { cls:=.type "list",data:=.seq its'.toArray n' }:=by
  rw[p8 f ho (by rw[hf]<;>rfl),hf]
 refine I.write (x:=p) (e:=p) (by rw[h];trivial) (.inl rfl) (λb u hb q=>(Heap.get?_update_other _ _ (ae4 hb)).trans q) ⟨_,e⟩ ?_;exact⟨hz,its',n',r,e⟩
def aaH:V->V->V->Hp->(Hp->Prop)->Prop:=λo i v H Q=>∃p xs k j,o=.ref p/\i=.int k/\H p=some (.lst xs)/\zW xs.length k=some j/\Q (upd H p (.lst (xs.set j v)))
def set_list:wB X aaH:=by
 intro pins s σ H o i v ov iv u Q I ro ri rv h;obtain⟨p,xs,k,j,rfl,rfl,hp,hj,q⟩:=h;cases ro;obtain⟨t,rfl⟩:=ri;obtain⟨its,n,r,ho,hz⟩:=I.lst hp;obtain⟨h1,h2,h3,h4⟩:=Bt hj;have hl:=r.length;have hn:=f9;have I':Inv X pins σ (upd H p (.lst (xs.set j v))) { s with heap:=s.heap.update p (Obj.mapSeq (·.setIfInBounds j u)) } :=
  I.V1 hp ho (zq3 its n j u) (r.set rv j) (by rw[nA];exact hz) s.toks
 by_cases h0:0<=k
 ·have hk:k.toNat=j:=by
   rw[seqIndex_of h0 h4]at h1;exact aeX h1
  exact PySem.W.ki_setAt ho h0 (by omega) (by rw[gG,<-hl];exact h4) (by rw[hk];exact⟨_,I',q⟩)
 ·have hk:(k+(its.toArray.size:Int)).toNat=j:=by
   rw[seqIndex_neg (by omega) h3]at h1;rw[gG,<-hl];exact aeX h1
  exact PySem.W.ki_setBack ho (by omega) (by rw[gG,<-hl];exact h3) (by omega) (by rw[hk];exact⟨_,I',q⟩)
def zmo(lo hi:Option Int)(n:Nat):(sliceBounds lo hi none n).1=((HT.cO n 0 lo:Nat):Int)/\(sliceBounds lo hi none n).2.1=((HT.cO n n hi:Nat):Int)/\(sliceBounds lo hi none n).2.2=1:=by
 refine⟨?_,?_,rfl⟩
 ·cases lo with
  | none=>simp[sliceBounds,HT.cO]
  | some i =>
   simp only[sliceBounds,HT.cO,Option.getD_none,show (1:Int) > 0 by decide,if_true];by_cases h:i<0
   ·simp only[h,if_true]<;>omega
   ·simp only[h,if_false]<;>omega
 ·cases hi with
  | none=>simp[sliceBounds,HT.cO]
  | some i =>
   simp only[sliceBounds,HT.cO,Option.getD_none,show (1:Int) > 0 by decide,if_true];by_cases h:i<0
   ·simp only[h,if_true]<;>omega
   ·simp only[h,if_false]<;>omega
def zll(its:List Value)(lo hi:Option Int):slicePick its.toArray lo hi none=((its.drop (HT.cO its.length 0 lo)).take (HT.cO its.length its.length hi - HT.cO its.length 0 lo)).toArray:=by
 obtain⟨h1,h2,h3⟩:=zmo lo hi its.toArray.size;unfold slicePick;rw[h1,h2,h3];simp only[sliceRange_one,pick_run,gG]<;>rfl
def ac6(K:PySem.W.Frag):V->Option Int->Option Int->Hp->VK->Prop:=λx lo hi H Q=>∃a xs,x=.ref a/\ou K H a xs/\∀p,H p=none->Q (.ref p) (upd H p (.lst (yJ xs lo hi)))
def Nr:yM X (ac6 X.K):=by
 intro pins s σ H x v vl vu lo hi sl Q I rx hs pl pu h;obtain⟨a,xs,rfl,hx,q⟩:=h;cases rx;obtain⟨its,r,ht,hz⟩:=I.list hx;have hlen:=r.length;refine⟨"list",_,slot_list_getitem.lookup,ht.isList.typeIs,?_⟩;refine wpAny_getItem_list_slice ht.isList hs pl pu .none (by simp) ?_ (by rw[gG]<;>omega);rw[zll,<-hlen];refine⟨.ref s.heap.objs.size,_,I.laid (t':=s.toks) (o:=.lst (yJ xs lo hi)) (λb ob q=>gF _ q) (gb _) ?_,rfl,q _ (I.bI.fresh (gb _))⟩;exact⟨kh (zi3 xs lo hi) hz,_,0,(r.drop (HT.cO xs.length 0 lo)).take (HT.cO xs.length xs.length hi - HT.cO xs.length 0 lo),gZ _ rfl⟩
def eN:V->V->Bool
 | .non,.non=>true
 | .bl a,.bl b=>a==b
 | .bl a,.int b=>(if a then 1 else 0)==b
 | .int a,.bl b=>a==(if b then 1 else 0)
 | .int a,.int b=>a==b
 | .str a,.str b=>a==b
 | _,_=>false
def zmf:cB X (.builtin "len") (λxs H Q=>∃p ys,xs=[.ref p]/\(ou X.K H p ys\/oG X.K H p ys)/\Q (.int ys.length) H):=by
 intro pins s σ H xs us Q I r h;obtain⟨p,ys,rfl,hq,q⟩:=h;obtain⟨u,rfl,rx⟩:=vals1 r;cases rx;have hn:=f9;rcases hq with hq | hq
 ·obtain⟨its,r',pl,hz⟩:=I.list hq;have hlen:=r'.length;exact Calls.call_len_list pl.isList (by simp only[gG]<;>omega) ⟨.int ys.length,H,I.tok _,⟨s.toks+1,by rw[gG,hlen]⟩,q⟩
 ·obtain⟨its,r',pl,hz⟩:=I.tuple hq;have hlen:=r'.length;exact len_tuple pl (by simp only[gG]<;>omega) ⟨.int ys.length,H,I.tok _,⟨s.toks+1,by rw[gG,hlen]⟩,q⟩
def zmq:cB X (.builtin "len") (λxs H Q=>∃z,xs=[.str z]/\z.length<=sizeLine/\Q (.int z.length) H):=by
 intro pins s σ H xs us Q I r h;obtain⟨z,rfl,hz,q⟩:=h;obtain⟨u,rfl,t,rfl⟩:=vals1 r;have hn:=f9;exact len_str (by omega) ⟨.int z.length,H,I.tok _,⟨_,rfl⟩,q⟩
def cB.or(h:cB X f r)(h':cB X f r'):cB X f (λxs H Q=>r xs H Q\/r' xs H Q):=by
 intro pins s σ H xs us Q I rs q;rcases q with q | q
 ·exact h pins s σ H xs us Q I rs q
 ·exact h' pins s σ H xs us Q I rs q
def zm0:cB X (.type "list") (λxs H Q=>∃p ys,xs=[.ref p]/\(ou X.K H p ys\/oG X.K H p ys)/\∀l,H l=none->Q (.ref l) (upd H l (.lst ys))):=by
 intro pins s σ H xs us Q I r h;obtain⟨p,ys,rfl,hq,q⟩:=h;obtain⟨u,rfl,rx⟩:=vals1 r;cases rx;have fin:∀(its:List Value),Vals ys its->ys.length<=sizeLine->∀(h':Heap) (c':Nat),(∀b o',s.heap.get? b=some o'->h'.get? b=some o') ->
   h'.get? s.heap.objs.size=some { cls:=.type "list",dict:=none,data:=.seq its.toArray c',slots:=#[] }->EP X pins σ Q (.ref s.heap.objs.size) { s with heap:=h' }:=λits r' hz h' c' kp e =>
  ⟨.ref s.heap.objs.size,_,I.laid (t':=s.toks) kp (gb _) (show bW X.prog X.w _ h' _ (.lst ys) from ⟨hz,its,c',r',e⟩),rfl,q _ (I.bI.fresh (gb _))⟩
 rcases hq with hq | hq
 ·obtain⟨its,r',pl,hz⟩:=I.list hq;have hlen:=r'.length;obtain⟨o,ho,hc,n,hd⟩:=pl.isList;exact call_list_seq p (.inl rfl) ho hc hd (λh' c' kp e=>fin its r' hz h' c' kp e) (by simp only[gG]<;>omega)
 ·obtain⟨its,r',pl,hz⟩:=I.tuple hq;have hlen:=r'.length;obtain⟨o,ho,hc,n,hd⟩:=pl;exact call_list_seq p (.inr rfl) ho hc hd (λh' c' kp e=>fin its r' hz h' c' kp e) (by simp only[gG]<;>omega)
def tyV(K:PySem.W.Frag)(T:String)(x:V)(H:Hp):Prop:=match x with
 | .str _=>T = "str"
 | .int _=>T = "int"
 | .ref p=>(T = "list"/\∃xs,ou K H p xs)\/(T = "tuple"/\∃o,K.lookup p=some o/\o.cls=.type "tuple"/\o.dict=none) \/
   (T = "dict"/\((∃kvs,H p=some (.dK kvs))\/∃kvs,H p=some (.dT kvs)))\/(T = "set"/\∃S n,H p=some (.set S n))
 | _=>False
def GK(I:Inv X pins σ H s)(r:RelV x v)(ty:tyV X.K T x H) :
  s.TypeIs v T/\∀a,v=.ref a->∃ob,s.heap.get? a=some ob/\ob.dict=none:=by
 cases x with
 | str z =>
  obtain⟨t,rfl⟩:=r;cases (show T = "str" from ty);exact⟨afs s z t,λ_ e=>nomatch e⟩
 | int i =>
  obtain⟨t,rfl⟩:=r;cases (show T = "int" from ty);exact⟨typeIs_int s i t,λ_ e=>nomatch e⟩
 | ref p =>
  cases r;rcases ty with⟨rfl,xs,hq⟩ | ⟨rfl,o,hk,hc,hd⟩ | ⟨rfl,hk⟩ | ⟨rfl,S,n,hk⟩
  ·obtain⟨its,_,pl,_⟩:=I.list hq;refine⟨pl.isList.typeIs,λa e=>?_⟩;cases e;obtain⟨o,n,e,c,hd,_⟩:=pl;exact⟨o,e,hd⟩
  ·refine⟨⟨o,I.qp p o hk,hc⟩,λa e=>?_⟩;cases e;exact⟨o,I.qp _ o hk,hd⟩
  ·have z:∃o,s.heap.get? p=some o/\o.ExactDict:=by
    rcases hk with⟨kvs,hk⟩ | ⟨kvs,hk⟩
    ·obtain⟨_,_,_,_,o,_,_,e,ex,_⟩:=I.bI p _ hk;exact⟨o,e,ex⟩
    ·obtain⟨_,_,_,_,o,_,_,e,ex,_⟩:=I.bI p _ hk;exact⟨o,e,ex⟩
   obtain⟨o,e,ex⟩:=z;refine⟨⟨o,e,ex.1⟩,λa e2=>?_⟩;cases e2;exact⟨o,e,ex.2.1⟩
  ·obtain⟨o,_,_,_,e,ex,_⟩:=I.bI p _ hk;refine⟨⟨o,e,ex.1⟩,λa e2=>?_⟩;cases e2;exact⟨o,e,ex.2.1⟩
 | _=>exact False.elim ty
def acC(K:PySem.W.Frag)(T:String)(r:V->List V->Hp->VK->Prop)(to:TE):TE:=fun σ H Q=>to σ H λx H1=>tyV K T x H1/\r x [] H1 Q
def tBM(K:PySem.W.Frag)(T:String)(r:V->List V->Hp->VK->Prop)(to:TE)(t:TA):TE:=fun σ H Q=>to σ H λx H1=>tyV K T x H1/\t σ H1 λxs H2=>r x xs H2 Q
variable  {o e:Expr}{es:List Expr}{to:TE}{t:TA}{name:Str}{apos dz:Pos}{T id:String}{r:V->List V->Hp->VK->Prop}
def Vv(pa:PlainAttrs T)(slot:Slot T name id)(WQ:typeOf (.builtin id)=pure (.type "method_descriptor"))(hm:rF X id r)(ho:PE X o to)
  (qX:attributeBase o name X.env (eval o X.env)=eval o X.env:=by rfl) (hline:(apos.endLine==dz.line)=true:=by rfl):PE X (.Call (.Attribute o name apos) [] [] dz) (acC X.K T r to):=by
 intro pins s σ H Q I h;refine wpAny_Call_method0_late qX hline (cI (ho pins s σ H _ I h) λv s1 zz=>?_);obtain⟨x,H1,I1,r1,ty,q1⟩:=zz;obtain⟨h1,h2⟩:=GK I1 r1 ty;exact⟨T,id,pa,slot,WQ,h1,h2,Calls.callWith_builtin rfl (PySem.evalArgs_none (hm pins s1 σ H1 x [] v [] Q I1 r1 .nil q1))⟩
def aaW(pa:PlainAttrs T)(slot:Slot T name id)(WQ:typeOf (.builtin id)=pure (.type "method_descriptor"))(hm:rF X id r)(ho:PE X o to)(ha:PA X (e::es) t)
  (qX:attributeBase o name X.env (eval o X.env)=eval o X.env:=by rfl)
  (Er:((backTo dz (starEach (e::es) X.env)).all (λx=>!x.1) && (backToKw dz (keywordEach [] X.env)).all (λx=>x.1.isSome)
   && decide ((e::es).length+([]:List Keyword).length+(if ([]:List Keyword).isEmpty then 0 else 1)<30))=true:=by rfl)
  (hline:(apos.endLine==dz.line)=true:=by rfl) (hs:starEach (e::es) X.env=(false,eval e X.env)::starEach es X.env:=by rfl) (uT:(backTo dz (starEach es X.env)).any (·.1)=false:=by rfl) :
  PE X (.Call (.Attribute o name apos) (e::es) [] dz) (tBM X.K T r to t):=by
 intro pins s σ H Q I h;refine wpAny_Call_method_late qX Er hline rfl (cI (ho pins s σ H _ I h) λv s1 zz=>?_);obtain⟨x,H1,I1,r1,ty,q1⟩:=zz;obtain⟨h1,h2⟩:=GK I1 r1 ty;refine⟨T,id,pa,slot,WQ,h1,h2,?_⟩;have hA:=ha dz pins s1 σ H1 _ I1 q1;rw[hs]at hA ⊢;refine Calls.callWith_builtin (by show (false || (backTo dz (starEach es X.env)).any (·.1))=false;rw[uT]<;>rfl) (Calls.evalArgs_plain ?_);refine cI hA λus s2 zz=>?_;obtain⟨vs,H2,I2,r2,q2⟩:=zz;exact hm pins s2 σ H2 x vs v us Q I2 r1 r2 q2
end
def MtM(X:Cx)(id:String)(r:V->List V->Hp->VK->Prop):Prop :=
 ∀(pins:List (Addr×Obj)) (s:Shared) (σ:St) (H:Hp) (x:V) (xs:List V) (v:Value) (us:List Value) (Q:VK),Inv X pins σ H s->RelV x v->Vals xs us->r x xs H Q ->
  wpAny (model X.prog X.w) X.A (call (.builtin id) (v::us)) (EP X pins σ Q) X.xe s
theorem Vals.one:∀{x:V} {us:List Value},Vals [x] us->∃u,us=[u]/\RelV x u
 | _,_,.cons r .nil=>⟨_,rfl,r⟩
theorem Vals.zero:∀{us:List Value},Vals [] us->us=[]
 | _,.nil=>rfl
def Vals.dropLast{xs:List V}{us:List Value}(h:Vals xs us):Vals xs.dropLast us.dropLast:=by
 induction h with
 | nil=>exact .nil
 | cons r t ih =>
  cases t with
  | nil=>exact .nil
  | cons q t'=>exact .cons r ih
def Vals.reverse{xs:List V}{us:List Value}(h:Vals xs us):Vals xs.reverse us.reverse:=by
 induction h with
 | nil=>exact .nil
 | cons r t ih=>rw[nF,nF];exact Vals.append ih (.cons r .nil)
def zqn{α:Type}(l:List α):l.eraseIdx (l.length - 1)=l.dropLast:=by
 induction l with
 | nil=>rfl
 | cons a r ih =>
  cases r with
  | nil=>rfl
  | cons b r =>
   have e:(a::b::r).length - 1=((b::r).length - 1)+1:=by
    have h1:(a::b::r).length=r.length+2:=rfl;have h2:(b::r).length=r.length+1:=rfl;omega
   rw[e,List.eraseIdx_cons_succ,ih]
   all_goals rfl
section
variable  {X:Cx}{pins:List (Addr×Obj)}{σ:St}{H:Hp}{s:Shared}{l b:Addr}{xs ys zs:List V}
def Inv.V2{its its':List Value}{n:Nat}{f:Array Value->Array Value}{t':Nat}(I:Inv X pins σ H s)(hH:H l=some (.lst xs))
  (e:s.heap.get? l=some { cls:=.type "list",data:=.seq its.toArray n }) (hf:f its.toArray=its'.toArray) (hv:Vals ys its') (hz:ys.length<=sizeLine) :
  Inv X pins σ (upd H l (.lst ys)) { s with heap:=s.heap.update l (Obj.mapSeq f),toks:=t' }:=by
 have q:=PySem.IsL.update e f;rw[hf]at q;refine I.write (x:=l) (e:=l) (by rw[hH];exact trivial) (.inl rfl) (λb' u hb hu=>(Heap.get?_update_other s.heap (Obj.mapSeq f) (ae4 hb)).trans hu) ⟨_,q⟩ ?_;exact⟨hz,its',_,hv,q⟩
def Inv.adq(I:Inv X pins σ H s)(hv:Vals ys its)(hz:ys.length<=sizeLine) :
  Inv X pins σ (upd H s.heap.objs.size (.lst ys)) { s with heap:=s.heap.push { cls:=.type "list",data:=.seq its.toArray },toks:=t' } :=
 I.laid (λ_ _ q=>gF _ q) (gb _) ⟨hz,its,0,hv,gZ _ rfl⟩
def Inv.fresh(I:Inv X pins σ H s):H s.heap.objs.size=none:=I.bI.fresh (gb _)
def Inv.Jg(I:Inv X pins σ H s)(hH:H l=some (.lst xs)):xs.length<=sizeLine/\∃(its:List Value) (n:Nat),Vals xs its/\xs.length=its.length/\s.heap.get? l=some { cls:=.type "list",data:=.seq its.toArray n }:=by
 obtain⟨z,its,n,r,e⟩:=I.bI l _ hH;exact⟨z,its,n,r,r.length,e⟩
end
section
variable  {X:Cx}
def N_:V->List V->Hp->VK->Prop:=λx vs H Q=>∃l xs y,x=.ref l/\vs=[y]/\H l=some (.lst xs)/\xs.length<sizeLine/\Q .non (upd H l (.lst (xs++[y])))
def znv:MtM X "list.append" N_:=by
 intro pins s σ H x vs v us Q I rx rv h;obtain⟨l,xs,y,rfl,rfl,hH,hz,q⟩:=h;cases rx;obtain⟨u,rfl,ru⟩:=rv.one;obtain⟨z,its,n,r,hl,e⟩:=I.Jg hH;refine call_meets F.slot_list_append ⟨_,e,rfl⟩ F.entry_list_append (F.args_list_append_2 _ _) (PySem.list_append l its.toArray n u (by rw[gG];omega)) ⟨e,?_⟩;refine⟨.non,_,I.V2 (its':=its++[u]) hH e (by simp) (r.append (.cons ru .nil)) ?_,rfl,q⟩;rw[gJ,mH];omega
def ac7:V->List V->Hp->VK->Prop:=λx vs H Q=>∃l xs y,x=.ref l/\vs=[]/\H l=some (.lst xs)/\xs[xs.length - 1]? = some y/\Q y (upd H l (.lst xs.dropLast))
def VN:MtM X "list.pop" ac7:=by
 intro pins s σ H x vs v us Q I rx rv h;obtain⟨l,xs,y,rfl,rfl,hH,hy,q⟩:=h;cases rx;have hus:=rv.zero;subst hus;obtain⟨z,its,n,r,hl,e⟩:=I.Jg hH;obtain⟨u,hu,ru⟩:=r.get hy;have WL:its.toArray[its.toArray.size - 1]? = some u:=by
  show its.toArray[its.length - 1]? = some u;rw[<-Array.getElem?_toList,<-hl];exact hu
 refine call_meets F.slot_list_pop ⟨_,e,rfl⟩ F.entry_list_pop (F.args_list_pop_1 _) (MeetsSeq.list_pop_last l its.toArray n u WL (by rw[gG];omega)) ⟨e,?_⟩;refine⟨y,_,I.V2 (its':=its.dropLast) hH e ?_ r.dropLast ?_,ru,q⟩
 ·show its.toArray.eraseIdxIfInBounds (its.toArray.size - 1)=its.dropLast.toArray;rw[gG,List.eraseIdxIfInBounds_toArray,zqn]
 ·rw[List.length_dropLast];omega
def Ht:V->List V->Hp->VK->Prop:=λx vs H Q=>∃l xs,x=.ref l/\vs=[]/\H l=some (.lst xs)/\Q .non (upd H l (.lst xs.reverse))
def zq1:MtM X "list.reverse" Ht:=by
 intro pins s σ H x vs v us Q I rx rv h;obtain⟨l,xs,rfl,rfl,hH,q⟩:=h;cases rx;have hus:=rv.zero;subst hus;obtain⟨z,its,n,r,hl,e⟩:=I.Jg hH;refine call_meets F.slot_list_reverse ⟨_,e,rfl⟩ F.entry_list_reverse (F.args_list_reverse_1 _) (AutoSeq1.list_reverse_list_0 l its.toArray n (by rw[gG];omega)) ⟨e,?_⟩;refine⟨.non,_,I.V2 (its':=its.reverse) hH e (by simp) r.reverse ?_,rfl,q⟩;rw[pH];omega
def ac8:R2:=λx y H Q=>∃l b xs zs,x=.ref l/\y=.ref b/\H l=some (.lst xs)/\H b=some (.lst zs)/\xs.length+zs.length<=sizeLine/\∀p,H p=none->Q (.ref p) (upd H p (.lst (xs++zs)))
def VD:dZ X (binaryOp .Add) ac8:=by
 intro pins s σ H x y v u Q I rx ry h;obtain⟨l,b,xs,zs,rfl,rfl,hH,hB,hz,q⟩:=h;cases rx;cases ry;obtain⟨z,its,n,r,hl,e⟩:=I.Jg hH;obtain⟨z2,qQ,n2,r2,J6,e2⟩:=I.Jg hB;refine PySem.P.add_list e e2 ?_ (by rw[gG,gG];omega);have ea:its.toArray++qQ.toArray=(its++qQ).toArray:=by simp
 rw[ea];exact⟨.ref _,_,I.adq (t':=s.toks) (r.append r2) (by rw[gJ];omega),rfl,q _ I.fresh⟩
end
section
variable  {prog:Program}{w:World}{A:Around}{E:Value->Shared->Prop}{s:Shared}
set_option maxRecDepth 100000 in
end
section
variable  {X:Cx}
end
end L2
namespace ZP
open PySem PySem.W PySem.Calls PyProof.Rows
def zic:∀(ns:List Int) (vs:List Value),WellAll P h vs (ns.map WData.int)->IntsAre vs ns:=by
 intro ns
 induction ns with
 | nil =>
  intro vs w;rw[km]at w;cases w;exact .nil
 | cons n ns ih =>
  intro vs w;rw[gr]at w;cases w with
  | cons a b =>
   cases a;exact .cons _ _ (ih _ b)
def Dq{l:OpenLaw}{n:Nat}(hn:l.most=some n){P:Params}{h:Heap}{args:List WData}{vals:List Value}
  (Qz:l.row.toRowW.claim.pre args=true) (hwl:WellAll P h vals args) :
  ∃a vs ns,vals=[Value.ref a]/\args=[WData.list (ns.map WData.int)]/\h.get? a=some { cls:=.type "list",data:=.seq vs.toArray }/\IntsAre vs ns/\ns.length<=n:=by
 have hsh:WShape.hasAll [] args [.list .int]=true:=(pre_splitW Qz).1;have hc:l.pre.holds [] { args:=args }=true:=(pre_splitW Qz).2;obtain⟨d,r,rfl,h1,h2⟩:=hasAllW_cons hsh;obtain rfl:=hasAllW_nil h2;obtain⟨xs,rfl,h3⟩:=hasW_list h1;obtain⟨ns,rfl⟩:=items_int h3;have hlen:ns.length<=n:=by
  unfold OpenLaw.pre at hc;have h4:(WTm.not (.lt (.lit (.int (n:Int))) (.len (.arg 0)))).holds [] { args:=[.list (ns.map .int)] }=true:=by
   have h4:=(holds_andW hc).1;rw[hn]at h4;exact h4
  have h5:=condW_of h4 (w_not (w_lt w_lit (w_len_list (w_arg rfl))));rw[gq]at h5;refine Nat.le_of_not_lt λq=>?_;have q':(n:Int)<(ns.length:Int):=by omega
  first
   | (rw[ae3 q']at h5;exact absurd h5 (by decide))
   | (simp at h5;omega)
 cases hwl with
 | cons w1 w2 =>
  cases w2;cases w1 with
  | list ho um=>exact⟨_,_,ns,rfl,rfl,ho,zic ns _ um,hlen⟩
def Dz(l:OpenLaw)(args:List WData):l.row.toRowW.claim.post args (.bool true) args=true :=
 postW_of (r:=l.row.toRowW) (X:=(true==true))
  (show WShape.has [] (.bool true) .bool=true by first | rfl | decide | simp[WShape.has,WShape.arms,WShape.armsAll])
  (show (WTm.eq .res (.lit (.bool true))).value [] { args:=args,res:=some (.bool true),after:=args }=some (.bool (true==true)) from w_eq_bool (w_res rfl) w_lit) rfl
def zo8{l:OpenLaw}{n:Nat}{q:Program}{loose:List Str}{XP:(Str->Option Value)->Heap->Prop}{YP:World->Heap->Prop}{d:DefRec}
  (hn:l.most=some n) (hdf:d.params.defaults=[])
  (call:∀(w:World) (aeJ aeI:Shared) (mg mb:Str->Option Value) (fa:Addr) (o:Obj) (pm cd doc:Value) (a:Addr) (vs:List Value) (ns:List Int),
   Ground q loose [] XP w aeJ mg mb aeI.heap->YP w aeI.heap ->
   aeI.heap.get? fa=some o->o.data=.func (docDef d.name d.params d.body d.scope pm cd doc)->aeI.heap.CodeRec cd d.name->mg d.name=some (.ref fa) ->
   aeI.heap.get? a=some { cls:=.type "list",data:=.seq vs.toArray }->IntsAre vs ns->ns.length<=n->aeI.gens=#[] ->
   codeAny (model l.prog w) callerA (.call (.ref fa) ⟨[.ref a],[]⟩) (λr s'=>r=.ok (.ret (.bool true))/\OldK aeI.heap s'.heap/\s'.os=aeI.os/\AllBare s'.gens) aeI) :
  WalkO q loose XP YP l.row.toRowW d [] (λf vs=>PySem.call f vs):=by
 intro w aeJ aeI mg mb G Y fa o pm cd doc dV kV ho hd xJ hD hmg hg args vals as Qz hlay hrd hwl hlo;obtain rfl:dV=.none:=Dflts.none hD hdf;obtain rfl:kV=.none:=Dflts.noKw hD;obtain⟨a,vs,ns,rfl,rfl,W6,hints,hlen⟩:=Dq hn Qz hwl;refine enter_call (afz (call w aeJ aeI mg mb fa o pm cd doc a vs ns G Y ho (fd_plain hd) xJ hmg W6 hints hlen hg) λr s' hq=>?_);obtain⟨rfl,h2,h3,h4⟩:=hq;exact⟨.inl ⟨.bool true,.bool true,[],rfl,λ_=>rfl,.bool true,Dz l _,λ_=>⟨List.Pairwise.nil,λ_ hm=>(nomatch hm)⟩⟩,h2,h3,h4⟩
section
variable  {prog:Program}{w:World}{A:Around}{E:Value->Shared->Prop}{s:Shared}{K:Frag}
def xj(h:Heap):Heap:={ h with objs:=#[] }
def zht(h:Heap)(b:Addr):(xj h).get? b=none:=by
 cases e:(xj h).get? b with
 | none=>rfl
 | some o=>exact absurd (gw e) (Nat.not_lt_zero _)
def ledger(h:Heap)(L d:Addr):List (Addr×Obj):=(List.range h.objs.size).filterMap λa=>if a=L\/a=d then none else (h.get? a).map λo=>(a,o)
def zk9:(a,o)∈ledger h L d↔a≠L/\a≠d/\h.get? a=some o:=by
 unfold ledger;rw[pG];constructor
 ·rintro ⟨b,_,e⟩
  split at e
  ·cases e
  ·rename_i hb;obtain⟨o',ho,e'⟩:=ni.mp e;cases e';exact⟨λq=>hb (.inl q),λq=>hb (.inr q),ho⟩
 ·rintro ⟨n1,n2,ho⟩;refine⟨a,List.mem_range.mpr (gw ho),?_⟩;rw[aeU (show ¬ (a=L\/a=d) from λq=>q.elim n1 n2),ho]<;>rfl
def zow(oK:d≠L)(ho:h.get? d=some od):News (xj h) L h ([]++(d,od)::ledger h L d):=by
 rintro ⟨a,o⟩ hp;rcases gj.mp hp with e | hp
 ·cases e;exact⟨ho,oK,zht _ _⟩
 ·obtain⟨n1,n2,e⟩:=zk9.mp hp;exact⟨e,n1,zht _ _⟩
def Ko(n:h.Ns L m):Fr (xj h) L h m :=
 ⟨n,λb o e=>(by rw[zht]at e;cases e),mD _⟩
end
end ZP
namespace L2
open PySem PySem.Spec PyProof.Rows
theorem zn0:∀{vs:List Value} {ns:List Int},IntsAre vs ns->Vals (ns.map V.int) vs
 | _,_,.nil=>.nil
 | _,_,.cons n t h=>.cons ⟨t,rfl⟩ (zn0 h)
abbrev KOf{K:PySem.W.Frag}{h:Heap}(_:K.In h):PySem.W.Frag:=K
def bL(s:Stmt):Arguments:=match s with
 | .FunctionDef _ a _ _ _ _ _ _ _ _=>a
 | _=>{ posonlyargs:=[],args:=[],vararg:=none,kwonlyargs:=[],kw_defaults:=[],kwarg:=none,defaults:=[] }
def a_(s:Stmt):List Stmt:=match s with
 | .FunctionDef _ _ b _ _ _ _ _ _ _=>b
 | _=>[]
noncomputable def aD(s:Stmt):Scope:=match s with
 | .FunctionDef _ _ _ _ _ _ sc _ _ _=>sc
 | _=>{ kind:=.function,names:=[],isGenerator:=false,isCoroutine:=false }
abbrev qj:Lz:=λ_ _ _ _ _ _=>False
abbrev E0:XK:=λ_ _ _=>False
def Ba:Passes qj X E0:=λ_ _ _ _ _ _ _ h=>h.elim
structure CG(K:PySem.W.Frag)(x qual:Str)(st:Stmt)(f:Addr)(fd:FuncData):Prop where
 ex:∃(oc:Value) (od:Option Addr) (kV doc pm:Value) (an:Option Addr) (cdv ct:Value) (sS:Array (Option Value)),
  fd=PySem.W.fnOf x qual (bL st) (a_ st) (aD st) .none kV doc pm an cdv ct/\K.lookup f=some ⟨oc,od,.func fd,sS⟩/\PySem.W.codeIn K cdv qual=true
 kp:PySem.W.keepIn K (.ref f)=true
section
variable  {P:Program}{w:World}{K:PySem.W.Frag}{mg:Str->Option Value}{base:Heap}
def CG.ok{x qual:Str}{st:Stmt}{f:Addr}{fd:FuncData}{N ps:List Str}{k:Nat}{sp:Sp}(F:CG K x qual st f fd)(S:cU N ps (aD st))(len:∀vs H Q E,sp vs H Q E->vs.length=ps.length)
  (lV:∀(cdv:Value) (A:Around) (outer:List Env) (s:Shared) (H:Hp) (vs:List V) (Q:VK) (E:XK),cH k (A.deeper (envOfC qual (aD st) s.heap.objs.size f cdv))->sp vs H Q E ->
   ∃t,yP (uZ qj P w K mg base N qual (aD st) f cdv A outer s H E).Iu (a_ st) t/\t { nx:=λ_ H'=>Q .non H',rt:=Q } (start N vs) H):cu P w K mg base qj (k+1) f fd ps sp:=by
 obtain⟨oc,od,kV,doc,pm,an,cdv,ct,sS,rfl,lk,xJ⟩:=F.ex;refine Kq lk xJ S len λA outer s H vs Q E hr Zn=>?_;obtain⟨t,h,q⟩:=lV cdv A outer s H vs Q E hr Zn;exact⟨t,h.Iu,q⟩
def CG.binds{x qual:Str}{st:Stmt}{f:Addr}{fd:FuncData}{ps:List Str}(F:CG K x qual st f fd)
  (h:∀(kV doc pm:Value) (an:Option Addr) (cdv ct:Value) (us:List Value),us.length=ps.length->bindArgs (PySem.W.fnOf x qual (bL st) (a_ st) (aD st) .none kV doc pm an cdv ct) ⟨us,[]⟩=pure (ps.zip us)):Binds K fd ps []:=by
 obtain⟨oc,od,kV,doc,pm,an,cdv,ct,sS,rfl,lk,xJ⟩:=F.ex;exact .all (h kV doc pm an cdv ct)
def fun_mk{x qual:Str}{st:Stmt}{f:Addr}{oc:Value}{od an:Option Addr}{sS:Array (Option Value)}{kV doc pm cdv ct:Value}(l:K.lookup f=some ⟨oc,od,.func (PySem.W.fnOf x qual (bL st) (a_ st) (aD st) .none kV doc pm an cdv ct),sS⟩)
  (c:PySem.W.codeIn K cdv qual=true) (k:PySem.W.keepIn K (.ref f)=true):CG K x qual st f (PySem.W.fnOf x qual (bL st) (a_ st) (aD st) .none kV doc pm an cdv ct):=⟨⟨oc,od,kV,doc,pm,an,cdv,ct,sS,rfl,l,c⟩,k⟩
end
def SN(hr:cH k A):A.units+1<cLine:=Nat.lt_of_le_of_lt (Nat.add_le_add_left (by decide:1<=64) _) hr.units
section
variable  {X:Cx}
end
def yz{A B:Prop}(h:B):if false=true then A else B:=by
 rw[aeU pF];exact h
def yx{A B:Prop}(h:A):if true=true then A else B:=by
 rw[aeT rfl];exact h
def Xo(lo:Nat)(e C dx:Addr)(fl:Option Value)(H:Hp)(h:Heap):Prop :=
 lo<=e/\H e=none/\∃oe vs,h.get? e=some oe/\oe.cls=.ref C/\oe.dict=some dx/\oe.data=.fields vs/\1<vs.size /\
  match fl with
  | none=>vs[1]? = some .none
  | some v=>∃T oT ts,vs[1]? = some (.ref T)/\lo<=T/\T≠e/\H T=none/\h.get? T=some oT/\oT.data=.fields ts/\ts[3]? = some v
section
variable  {X:Cx}
def Ij:dZ X (binaryOp .FloorDiv) (rI (λ_ j=>0<j/\j<2 ^ 64) λi j=>.int (i / j)):=by
 refine opI λi j t u s Q E hc h=>?_;obtain⟨h0,h1⟩:=hc;have e:i.fdiv j=i / j:=Int.fdiv_eq_ediv_of_nonneg i (Int.le_of_lt h0);refine floordiv_int (by omega) (by rw[e];exact h) (.inl (PyProof.noPylong_of_log2 ?_));have h2:j.natAbs<2 ^ 64:=by omega
 have h3:j.natAbs≠0:=by omega
 have:=(Nat.log2_lt h3).mpr h2;omega
def K9{prog:Program}{w:World}{A:Around}{E:Value->Shared->Prop}{s:Shared}{t b:Addr}{ws:List Value}{Q:Value->Shared->Prop}(ht:IsTup s.heap t #[])(hb:IsTup s.heap b ws.toArray)
  (h1:Q (.ref b) s):wpAny (model prog w) A (binaryOp .Add (.ref t) (.ref b)) Q E s:=by
 obtain⟨⟨cls,dd,data,sl⟩,ho,hc,n,hd⟩:=id ht;obtain⟨⟨ad9,dd2,data2,sl2⟩,J5,Xh,n2,hd2⟩:=id hb;simp only at hc hd Xh hd2;subst hc hd Xh hd2;exact concat_meets ⟨_,ho,rfl⟩ ⟨_,J5,rfl⟩ noFill_tuple_add seq_tuple_add afC afy (afw _ _)
   (tuple_addW0 t b #[] ws.toArray n n2 dd dd2 sl sl2 (by simp)) ⟨ho,J5,h1⟩
def U_(K:PySem.W.Frag):R2:=λx y H Q=>∃a b ys,x=.ref a/\y=.ref b/\oG K H a []/\oG K H b ys/\Q (.ref b) H
def Im:dZ X (binaryOp .Add) (U_ X.K):=by
 intro pins s σ H x y v u Q I rx ry h;obtain⟨a,b,ys,rfl,rfl,ha,hb,q⟩:=h;cases rx;cases ry;obtain⟨its,r1,p1,_⟩:=I.tuple ha;obtain⟨qQ,r2,p2,_⟩:=I.tuple hb;cases r1;exact K9 p1 p2 ⟨.ref b,H,I,rfl,q⟩
end
end L2
namespace HT
open PySem PyProof.Rows
section
variable  {prog:Program}{w:World}{A:Around}{E:Value->Shared->Prop}{s:Shared}
def ze0{t sl:Addr}{items:Array Value}{vl vu:Value}{lo hi:Option Int}{Q:Value->Shared->Prop}(ht:IsTup s.heap t items)(hs:s.heap.IsSliceOf sl vl vu .none)(pl:IsPart vl lo)(pu:IsPart vu hi)
  (hw:cO items.size 0 lo=0/\cO items.size items.size hi=items.size)
  (h:Q (.ref t) s):wpAny (model prog w) A (getItem (.ref t) (.ref sl)) Q E s:=by
 obtain⟨os,W5,hcs,wk⟩:=id hs;have hTs:s.TypeIs (.ref sl) "slice":=⟨os,W5,hcs⟩;unfold getItem
 try with_reducible refine afo ?_
 first | refine aeS (aeV ?_) | skip
 refine aeS (wpAny_sequenceKey ht.typeIs (by decide) ?_);refine aeS (afa (name:=Str.ofString "__getitem__") ht.typeIs ae8
  (afq ae8 ht.typeIs entry_tuple_getitem ?_ (args_tuple_getitem _ _)))
 show wpAny _ _ (Builtin.Tuple.tupleItemsOf (.ref t) >>= _) _ _ s;refine aeS (tupleItemsOf_ ht ?_);refine aeS (wpAny_typeOf hTs ?_);rw[aeT (by decide)];refine aeS (zdw hs pl pu ?_);have Zr:((((cO items.size 0 lo:Nat):Int)==0 && (1:Int)==1 && (cO items.size items.size hi - cO items.size 0 lo)==items.size)=true):=by
  rw[hw.1,hw.2];simp
 show wpAny _ _ (if (((cO items.size 0 lo:Nat):Int)==0 && (1:Int)==1 && (cO items.size items.size hi - cO items.size 0 lo)==items.size)=true then _ else _) _ _ s;rw[aeT Zr];unfold Builtin.Tuple.tupleIsExact;refine aeS (aeS (wpAny_typeOf ht.typeIs ?_));refine aeV ?_;rw[aeT (by decide)];exact aeS (wpAny_rule (aeV ⟨_,rfl,aeV h⟩))
end
end HT
namespace L2
open PySem PySem.Spec PyProof.Rows
section
variable  {X:Cx}
def aaG(K:PySem.W.Frag):V->Option Int->Option Int->Hp->VK->Prop:=λx lo hi H Q=>∃a xs,x=.ref a/\oG K H a xs /\
 (HT.cO xs.length 0 lo=0/\HT.cO xs.length xs.length hi=xs.length)/\Q (.ref a) H
def Nq:yM X (aaG X.K):=by
 intro pins s σ H x v vl vu lo hi sl Q I rx hs pl pu h;obtain⟨a,xs,rfl,hx,hw,q⟩:=h;cases rx;obtain⟨its,r,ht,hz⟩:=I.tuple hx;have hlen:its.toArray.size=xs.length:=by rw[gG];exact r.length.symm
 refine⟨"tuple",_,PyProof.Rows.slot_tuple_getitem.lookup,ht.typeIs,?_⟩;exact HT.ze0 ht hs pl pu (by rw[hlen];exact hw) ⟨.ref a,H,I,rfl,q⟩
end
section
variable  {X:Cx}{pins:List (Addr×Obj)}{σ:St}{H:Hp}{s:Shared}{h':Heap}{t':Nat}
def Inv.Ah{ch:List Addr}{a:Addr}{o:HO}(I:Inv X pins σ H s)(hf:∀b∈ch,qe X pins H b)(k:∀b ob,b∉ch->s.heap.get? b=some ob->h'.get? b=some ob)(hp:s.heap.objs.size<=a)
  (new:bW X.prog X.w (upd H a o) h' a o):Inv X pins σ (upd H a o) { s with heap:=h',toks:=t' }:=by
 have hn:H a=none:=I.bI.fresh hp;have Iz:∀b u,H b=some u->b∉ch:=λb u e hb=>by rw[(hf b hb).1]at e;cases e
 have na:∀b u,H b=some u->b≠a:=λb u e=>zr e hn;refine I.step (g':=s.gens) (d':=s.drawn) (ch:=ch) (λb hb=>?_) (λb o _ _ hc e _=>k b o hc e) (λb o _ _ hc e _=>⟨o.slots,k b o hc e⟩)
  (λb o _ e n=>by rw[iC (gU (gQ (gw e) hp))];exact n)
  (λb o hc e=>⟨o,k b o hc e⟩) (λb xs e=>by rw[iC (na b _ e)];exact e) (λb o u e=>by rw[iC (na b _ e)];exact e) (λb ps e=>⟨#[],by rw[iC (na b _ e),e];simp⟩) (λm hm=>?_) (λb u e=>?_) I.bare
 ·obtain⟨f0,f1,f2,f3,f4,f5⟩:=hf b hb;exact⟨f3,f1,f4,f5⟩
 ·obtain⟨ob,es,ep,ho,r⟩:=hm;exact⟨ob,es,ep,k _ ob (λz=>(hf _ z).2.1 rfl) ho,r⟩
 ·by_cases hb:b=a
  ·subst hb;rw[qt]at e;cases e;exact new
  ·rw[iC hb]at e;refine (I.bI b u e).ud (λc v hc q=>k c v ?_ q) (λc q=>by rw[iC (na c _ q)];exact q) λc xs q=>by rw[iC (na c _ q)];exact q
   rcases hc with z | z
   ·rw[z];exact Iz b u e
   ·exact Iz c _ z
def Inv.turns{ch:List Addr}(I:Inv X pins σ H s)(hf:∀b∈ch,qe X pins H b)(k:∀b ob,b∉ch->s.heap.get? b=some ob->h'.get? b=some ob):Inv X pins σ H { s with heap:=h',toks:=t' }:=by
 have Iz:∀b u,H b=some u->b∉ch:=λb u e hb=>by rw[(hf b hb).1]at e;cases e
 refine I.step (g':=s.gens) (d':=s.drawn) (ch:=ch) (λb hb=>?_) (λb o _ _ hc e _=>k b o hc e) (λb o _ _ hc e _=>⟨o.slots,k b o hc e⟩)
  (λb o _ e n=>n) (λb o hc e=>⟨o,k b o hc e⟩) (λb xs e=>e) (λb o u e=>e) (λb ps e=>⟨#[],by rw[e];simp⟩) (λm hm=>?_) (λb u e=>?_) I.bare
 ·obtain⟨f0,f1,f2,f3,f4,f5⟩:=hf b hb;exact⟨f3,f1,f4,f5⟩
 ·obtain⟨ob,es,ep,ho,r⟩:=hm;exact⟨ob,es,ep,k _ ob (λz=>(hf _ z).2.1 rfl) ho,r⟩
 ·refine (I.bI b u e).ud (λc v hc q=>k c v ?_ q) (λc q=>q) λc xs q=>q;rcases hc with z | z
  ·rw[z];exact Iz b u e
  ·exact Iz c _ z
end
def Ite(K:PySem.W.Frag)(a:Addr):It :=
 ⟨λi H=>∃xs x,ou K H a xs/\xs[i]? = some x,
  λi H y H'=>∃p x,H p=none/\y=.ref p/\H'=upd H p (.tup [.int i,x])/\∀xs,ou K H a xs->xs[i]? = some x,
  λi H=>∃xs,ou K H a xs/\xs.length<=i⟩
def De{P:Program}{w:World}{K:PySem.W.Frag}{elts:List Expr}{x1:Nat}{pos:Pos}(a e it:Addr)(oK:e≠it) :
  Turn P w K (.Tuple elts x1 pos) (Ite K a) [e,it] e (λi h=>∃old,IsEnum h e it (i:Int) old/\h.IsListIter it a i) where
 mem:=by simp
 obj:=λi h st b hb=>by
  obtain⟨old,h1,h2⟩:=st;rcases gj.mp hb with rfl | hb
  ·exact⟨_,h1,λv z=>by cases z⟩
  ·have e:b=it:=by simpa using hb
   subst e;obtain⟨o,q,c,d⟩:=h2;exact⟨o,q,λv z=>by rw[d]at z;cases z⟩
 keep:=λi h h' st k=>by
  obtain⟨old,h1,h2⟩:=st;exact⟨old,k e (by simp) _ h1,h2.at λo q=>k it (by simp) o q⟩
 item:=by
  intro X hP hw hK hc i pins s σ H E I hf st hg;subst hP hw hK;obtain⟨xs,x,hq,hx⟩:=hg;obtain⟨old,h1,h2⟩:=st;obtain⟨its,rv,p,hz⟩:=I.list hq;obtain⟨u,hu,ru⟩:=rv.get hx;refine wpAny_pyNext_enum_item h1 h2 p.isList (x:=u) (by simpa using hu) oK λaeQ Mx hit ht hsz hk=>?_;refine⟨_,rfl,wpAny_letOwnedTupleGo_enum Mx λaeP adO J4=>?_⟩;replace J4:Heap.SameBut e aeQ aeP:=J4;have vo:e<s.heap.objs.size:=gw h1;have Ww:it<s.heap.objs.size:=by obtain⟨o,q,_⟩:=h2;exact gw q
  have ht2:aeP.get? s.heap.objs.size=some { cls:=.type "tuple",data:=.seq #[.int i s.toks,u] }:=by rw[J4.2 _ (mU vo)];exact ht
  have kk:∀b ob,b∉[e,it]->s.heap.get? b=some ob->aeP.get? b=some ob:=λb ob hb q=>by
   have b1:b≠e:=λz=>hb (by simp[z]);have b2:b≠it:=λz=>hb (by simp[z]);exact J4.extBut b ob b1 (hk b ob b1 b2 q)
  refine⟨.ref s.heap.objs.size,upd H s.heap.objs.size (.tup [.int i,x]),I.Ah hf kk (gb _) ?_,rfl,⟨_,x,I.bI.fresh (gb _),rfl,rfl,λys hy=>by rw[I.uL hy hq];exact hx⟩,?_,λb hb=>?_⟩
  ·refine⟨by show 2<=sizeLine;decide,[.int i s.toks,u],.cons ⟨_,rfl⟩ (.cons ru .nil),?_⟩;exact⟨_,ht2,rfl,_,rfl⟩
  ·refine⟨u,?_,hit.extBut J4.extBut (ae4 oK)⟩;have:(i:Int)+1=((i+1:Nat):Int):=by omega
   rw[<-this];exact adO
  ·rw[iC]
   ·exact (hf b hb).1
   ·intro z;subst z;rcases gj.mp hb with z | z
    ·exact mU vo z
    ·exact mU Ww (by simpa using z)
 done:=by
  intro X hP hw hK hc i pins s σ H E I hf st hg;subst hP hw hK;obtain⟨xs,hq,hx⟩:=hg;obtain⟨old,h1,h2⟩:=st;obtain⟨its,rv,p,hz⟩:=I.list hq;have hl:=rv.length;exact wpAny_pyNext_enum_end (I.ok.hd hc) h1 h2 p.isList (by simp;omega) λh' eb=>⟨rfl,I.turns (t':=s.toks) (ch:=[e,it]) hf λb o hb q=>eb b o (λz=>hb (by simp[z])) q⟩
 self:=λ_ _ _ _ _ st h=>by
  obtain⟨old,h1,h2⟩:=st;exact wpAny_pyIter_enum h1 h
def abl(K:PySem.W.Frag)(ta:TA):TI:=fun σ H R=>ta σ H λvs H1=>∃a,vs=[.ref a]/\(∃xs,ou K H1 a xs)/\R (Ite K a) H1
def zoc:bootBuiltins "enumerate" = some (.type "enumerate"):=by decide +kernel
def Ow{X:Cx}{elts:List Expr}{x1:Nat}{wR:Pos}{a:Expr}{ta:TA}{p pos:Pos}(hg:Gl X "enumerate")(hm:X.mg "enumerate" = none)(ha:PA X [a] ta)(hs:starEach [a] X.env=[(false,eval a X.env)]:=by rfl) :
  PI X (.Tuple elts x1 wR) (.Call (.Name "enumerate" p) [a] [] pos) (abl X.K ta):=by
 intro pins s σ H R I h;refine Call_ (M3 I hg hm zoc (ae1 (cI (ha pos pins s σ H _ I h) λus s1 zz=>?_) hs rfl));obtain⟨vs,H1,I1,r1,q1⟩:=zz;obtain⟨l,e,⟨xs,hq⟩,q⟩:=q1;subst e;cases r1 with
 | cons r rr =>
  cases rr;cases r;obtain⟨its,rv,pl,hz⟩:=I1.list hq;refine call_enumerate_list pl.isList λh' he hit hsz hk=>?_;refine wpAny_pyIter_enum he ?_;have I2:Inv X pins σ H1 { s1 with heap:=h' }:=I1.kept (t':=s1.toks) hk;refine⟨s1.heap.objs.size+1,[s1.heap.objs.size+1,s1.heap.objs.size],_,_,H1,rfl,I2,De l _ _ (mU (nT _)),⟨.none,he,hit⟩,λb hb=>?_,q⟩;have oM:s1.heap.objs.size<=b:=by
   rcases gj.mp hb with z | z
   ·rw[z];exact Nat.le_succ _
   ·have:b=s1.heap.objs.size:=by simpa using z
    rw[this];exact gb _
  exact I1.uV oM (I1.bI.fresh oM)
def Itv(K:PySem.W.Frag)(a:Addr)(n:Nat):It :=
 ⟨λi H=>∃xs x,ou K H a xs/\xs.length=n/\i<n/\xs[n - 1 - i]? = some x,λi H x H'=>H'=H/\∀xs,ou K H a xs->xs[n - 1 - i]? = some x,λi H=>(∃xs,ou K H a xs/\xs.length=n)/\i=n⟩
def GQ{P:Program}{w:World}{K:PySem.W.Frag}{tg:Expr}(a it:Addr)(n:Nat):Turn P w K tg (Itv K a n) [it] it (λi h=>h.IsRevIter it a ((n:Int) - 1 - (i:Nat))) where
 mem:=by simp
 obj:=λi h st b hb=>by
  have e:b=it:=by simpa using hb
  subst e;obtain⟨o,e,c,d⟩:=st;exact⟨o,e,λv z=>by rw[d]at z;cases z⟩
 keep:=λi h h' st k=>st.at λo e=>k it (by simp) o e
 item:=by
  intro X hP hw hK hc i pins s σ H E I hf st hg;subst hP hw hK;obtain⟨xs,x,hq,hn,hi,hx⟩:=hg;obtain⟨its,rv,p,hz⟩:=I.list hq;obtain⟨u,hu,ru⟩:=rv.get hx;obtain⟨f0,f1,f2,f3,f4,f5⟩:=hf it (by simp);have ei:(n:Int) - 1 - (i:Nat)=((n - 1 - i:Nat):Int):=by omega
  rw[ei]at st;refine wpAny_pyNext_rev_item st p.isList (x:=u) (by simpa using hu) λh' st' sb=>?_;have I1:Inv X pins σ H { s with heap:=h' }:=I.turned (t':=s.toks) (λb o hb e=>(sb.2 b hb).trans e) f0 f1 f3 f4 f5;obtain⟨o,e,c,d⟩:=id st';refine⟨u,rfl,sW (s:={ s with heap:=h' }) e c d (by decide) ⟨x,H,I1,ru,⟨rfl,λys hy=>by rw[I.uL hy hq];exact hx⟩,?_,λb hb=>(hf b hb).1⟩⟩;have e2:(n:Int) - 1 - ((i+1:Nat))=((n - 1 - i:Nat):Int) - 1:=by omega
  rw[e2];exact st'
 done:=by
  intro X hP hw hK hc i pins s σ H E I hf st hg;subst hP hw hK;obtain⟨⟨xs,hq,hn⟩,hi⟩:=hg;obtain⟨f0,f1,f2,f3,f4,f5⟩:=hf it (by simp);have ei:(n:Int) - 1 - (i:Nat)=-1:=by omega
  rw[ei]at st;exact wpAny_pyNext_rev_end (I.ok.hd hc) st λh' eb=>⟨rfl,I.turned (t':=s.toks) (λb o hb e=>eb b o hb e) f0 f1 f3 f4 f5⟩
 self:=λ_ _ _ _ _ st h=>wpAny_pyIter_revIter st h
def adz(K:PySem.W.Frag)(ta:TA):TI:=fun σ H R=>ta σ H λvs H1=>∃a xs,vs=[.ref a]/\ou K H1 a xs/\R (Itv K a xs.length) H1
def zml:bootBuiltins "reversed" = some (.type "reversed"):=by decide +kernel
def Vk{X:Cx}{tg a:Expr}{ta:TA}{p pos:Pos}(hg:Gl X "reversed")(hm:X.mg "reversed" = none)(ha:PA X [a] ta)(hs:starEach [a] X.env=[(false,eval a X.env)]:=by rfl) :
  PI X tg (.Call (.Name "reversed" p) [a] [] pos) (adz X.K ta):=by
 intro pins s σ H R I h;refine Call_ (M3 I hg hm zml (ae1 (cI (ha pos pins s σ H _ I h) λus s1 zz=>?_) hs rfl));obtain⟨vs,H1,I1,r1,q1⟩:=zz;obtain⟨l,xs,e,hq,q⟩:=q1;subst e;cases r1 with
 | cons r rr =>
  cases rr;cases r;obtain⟨its,rv,pl,hz⟩:=I1.list hq;refine call_reversed_list pl.isList ?_;have st:(s1.heap.push (revObj l ((its.toArray.size:Int) - 1))).IsRevIter s1.heap.objs.size l ((xs.length:Int) - 1 - ((0:Nat):Int)):=by
   refine⟨_,gZ _ rfl,rfl,?_⟩;have e1:(its.toArray.size:Int) - 1=(xs.length:Int) - 1 - ((0:Nat):Int):=by rw[gG,<-rv.length];omega
   rw[<-e1];rfl
  refine wpAny_pyIter_revIter st ?_;refine⟨s1.heap.objs.size,[s1.heap.objs.size],_,_,H1,rfl,I1.kept (t':=s1.toks) λb o e=>gF _ e,GQ l _ xs.length,st,λb hb=>?_,q⟩;have e:b=s1.heap.objs.size:=by simpa using hb
  subst e;exact I1.uV (gb _) (I1.bI.fresh (gb _))
def zkj(h:∀x∈scope.names,x.2=.free->∃c,env.cells.lookup x.1=some c) :
  ∃cl,closureFor scope env=pure cl/\(∀x c,cl.lookup x=some c->env.cells.lookup x=some c)/\∀x,(x,NameKind.free)∈scope.names->∃c,cl.lookup x=some c:=by
 have key:∀(names:List (Str×NameKind)) (acc:List (Str×Addr)),(∀x∈names,x.2=.free->∃c,env.cells.lookup x.1=some c)->(∀x c,acc.lookup x=some c->env.cells.lookup x=some c) ->
   ∃cl,(forIn names acc λ(x:Str×NameKind) (cs:List (Str×Addr))=>(if x.2 == .free then do let a <-cellOf env x.1;pure (ForInStep.yield ((x.1,a)::cs)) else pure (ForInStep.yield cs):Sem _))=pure cl/\(∀x c,cl.lookup x=some c->env.cells.lookup x=some c) /\
    (∀x,(x,NameKind.free)∈names->∃c,cl.lookup x=some c)/\∀x c,acc.lookup x=some c->∃c',cl.lookup x=some c':=by
  intro names
  induction names with
  | nil=>intro acc _ ha;exact⟨acc,rfl,ha,⟨(λx hx=>nomatch hx),λx c q=>⟨c,q⟩⟩⟩
  | cons y r ih =>
   intro acc hn ha;obtain⟨n,k⟩:=y;have hr:∀x∈r,x.2=.free->∃c,env.cells.lookup x.1=some c:=λx hx=>hn x (kW _ hx);by_cases hk:k=.free
   ·subst hk;obtain⟨c,hc⟩:=hn (n,.free) (by simp) rfl;have ha':∀x c',((n,c)::acc).lookup x=some c'->env.cells.lookup x=some c':=λx c' q=>by
     rw[kE]at q;cases e:x==n with
     | true=>rw[e]at q;cases q;rw[eq_of_beq e];exact hc
     | false=>rw[e]at q;exact ha x c' q
    obtain⟨cl,h1,h2,h3,h4⟩:=ih ((n,c)::acc) hr ha';refine⟨cl,?_,h2,λx hx=>?_,λx c' q=>?_⟩
    ·rw[List.forIn_cons];simp only[beq_self_eq_true,if_true,cellOf,hc];exact h1
    ·rcases gj.mp hx with e | hx
     ·cases e;exact h4 n c (by simp)
     ·exact h3 x hx
    ·cases e:x==n with
     | true=>exact h4 x c (by rw[kE,e])
     | false=>exact h4 x c' (by rw[kE,e];exact q)
   ·have hb:(k==NameKind.free)=false:=by simpa using hk
    obtain⟨cl,h1,h2,h3,h4⟩:=ih acc hr ha;refine⟨cl,?_,h2,λx hx=>?_,h4⟩
    ·rw[List.forIn_cons];simp only[hb,Bool.false_eq_true,if_false];exact h1
    ·rcases gj.mp hx with e | hx
     ·cases e;exact absurd rfl hk
     ·exact h3 x hx
 obtain⟨cl,h1,h2,h3,_⟩:=key scope.names [] h (λx c q=>by simp at q);refine⟨cl,?_,h2,h3⟩;unfold closureFor;show (forIn scope.names [] (λ(x:Str×NameKind) (cs:List (Str×Addr))=>(if x.2 == .free then do let a <-cellOf env x.1;pure (ForInStep.yield ((x.1,a)::cs)) else pure (ForInStep.yield cs):Sem _)) >>= λcs=>pure cs)=pure cl;rw[h1]
 rfl
theorem zcx{f:Str×NameKind->Str×NameKind}(h1:∀p,(f p).1=p.1):∀{names:List (Str×NameKind)} {x:Str},(names.map f).lookup x=(names.lookup x).map λk=>(f (x,k)).2
 | [],_=>rfl
 | (n,j)::r,x=>by
  rw[gr];have e:f (n,j)=(n,(f (n,j)).2):=by
   have:=h1 (n,j);exact Prod.ext this rfl
  rw[e,kE,kE];cases hx:x==n with
  | true=>rw[eq_of_beq hx];rfl
  | false=>exact zcx h1
def zB(env:Env)(p:Str×NameKind):Str×NameKind:=if (p.2 == .free && env.scope.kind == .function && env.kindOf p.1==some .cell)=true then (p.1,.cell) else (p.1,p.2)
def zqh(env:Env)(p:Str×NameKind):(zB env p).1=p.1:=by unfold zB;split<;>rfl
def zp7(env:Env)(p:Str×NameKind):(zB env p).2=p.2\/(p.2=.free/\(zB env p).2=.cell):=by
 unfold zB
 split
 ·rename_i h;rw[gH,gH]at h;exact .inr ⟨eq_of_beq h.1.1,rfl⟩
 ·exact .inl rfl
def zgi(scope:Scope)(env:Env):(relabel scope env).names=scope.names.map (zB env):=rfl
def zfl{scope:Scope}{env:Env}{x:Str}{k:NameKind}(h:(relabel scope env).names.lookup x=some k):scope.names.lookup x=some k\/(scope.names.lookup x=some .free/\k=.cell):=by
 rw[zgi,zcx (zqh env)]at h;cases e:scope.names.lookup x with
 | none=>rw[e]at h;cases h
 | some j =>
  rw[e]at h;have h':(zB env (x,j)).2=k:=aeX h;rcases zp7 env (x,j) with q | ⟨q1,q2⟩
  ·rw[q]at h';exact .inl (by rw[<-h'])
  ·rw[q2]at h';exact .inr ⟨by rw[show j=NameKind.free from q1],h'.symm⟩
def zfg{scope:Scope}{env:Env}{x:Str}(h:scope.names.lookup x=some .free):(relabel scope env).names.lookup x=some .cell\/(relabel scope env).names.lookup x=some .free:=by
 rw[zgi,zcx (zqh env),h];rcases zp7 env (x,.free) with q | ⟨_,q⟩
 ·exact .inr (by rw[Option.map_some,q])
 ·exact .inl (by rw[Option.map_some,q])
theorem mem_of_lookup[BEq α][LawfulBEq α]:∀{l:List (α×β)},l.lookup x=some k->(x,k)∈l
 | [],h=>by simp at h
 | (n,j)::r,h=>by
  rw[kE]at h;cases e:x==n with
  | true=>rw[e]at h;cases h;rw[eq_of_beq e];simp
  | false=>rw[e]at h;exact kW _ (mem_of_lookup h)
def cN(X:Cx)(N:List Str)(scope:Scope)(cl:List (Str×Addr))(C:Addr)(fp:List Addr)(s:Shared)(H:Hp):Cx :=
 { X with N:=N,aeJ:=s,aeR:=H,env:=compEnvC scope cl C X.env,outer:=X.stack,stack:=X.stack,ex:=fp,fn:=λ_=>false,pn:=[],xe:=λ_ _=>False }
structure fK(scope:Scope):Prop where
 kind:scope.kind=.function
 cell:∀y∈scope.names,y.2≠.cell
 names:∀y∈scope.names,y.2=.local->scope.names.lookup y.1=some .local
def lF(X:Cx)(scope:Scope):List (Option Nat)->List Str->Prop
 | [],[]=>True
 | none::r,_::xs=>lF X scope r xs
 | some j::r,x::xs=>(X.N[j]? = some x/\(X.env.kindOf x=some .cell\/X.env.kindOf x=some .free)/\scope.names.lookup x=some .free)/\lF X scope r xs
 | _,_=>False
def jB(capt:List (Option Nat))(σ:St):St:=capt.map λo=>o.bind λj=>(σ[j]?).join
theorem lF.len:∀{capt:List (Option Nat)} {N:List Str},lF X scope capt N->capt.length=N.length
 | [],[],_=>rfl
 | none::r,_::xs,h=>by simp[lF.len (show lF X scope r xs from h)]
 | some j::r,x::xs,h=>by simp[lF.len h.2]
 | [],_::_,h=>h.elim
 | none::_,[],h=>h.elim
 | some _::_,[],h=>h.elim
theorem lF.at_:∀{capt:List (Option Nat)} {N:List Str} {i j:Nat} {x:Str},lF X scope capt N->capt[i]? = some (some j)->N[i]? = some x ->
  X.N[j]? = some x/\(X.env.kindOf x=some .cell\/X.env.kindOf x=some .free)/\scope.names.lookup x=some .free
 | [],[],_,_,_,_,e,_=>by simp at e
 | none::r,y::xs,0,_,_,_,e,_=>by simp at e
 | none::r,y::xs,i+1,_,_,h,e,e2=>lF.at_ (i:=i) (show lF X scope r xs from h) (by simpa using e) (by simpa using e2)
 | some k::r,y::xs,0,_,_,h,e,e2=>by
  simp at e e2;subst e e2;exact h.1
 | some k::r,y::xs,i+1,_,_,h,e,e2=>lF.at_ (i:=i) h.2 (by simpa using e) (by simpa using e2)
 | [],_::_,_,_,_,h,_,_=>h.elim
 | none::_,[],_,_,_,h,_,_=>h.elim
 | some _::_,[],_,_,_,h,_,_=>h.elim
section
variable  {X:Cx}{pins:List (Addr×Obj)}{σ:St}{H:Hp}{s:Shared}{N:List Str}{scope:Scope}{cl:List (Str×Addr)}{C:Addr}{fp:List Addr}{capt:List (Option Nat)}
def Q8(I:Inv X pins σ H s)(S:fK scope)(ug:∀x c,cl.lookup x=some c->X.env.cells.lookup x=some c)(um:∀x,(x,NameKind.free)∈scope.names->∃c,cl.lookup x=some c)
  (hC:s.heap.objs.size<=C) (hf:∀b∈fp,qe X pins H b) (hb:∀b∈fp,b<s.heap.objs.size):(cN X N scope cl C fp s H).Ok where
 mod:=I.ok.mod
 kind:=S.kind
 glob:=I.ok.glob
 blt:=I.ok.blt
 above:=hC
 inj:=λx y c h1 h2=>I.ok.inj x y c (ug x c h1) (ug y c h2)
 has:=λx hx=>by
  have q:scope.names.lookup x=some .free:=by
   rcases hx with hx | hx
   ·rcases zfl hx with e | ⟨e,_⟩
    ·exact absurd rfl (S.cell _ (mem_of_lookup e))
    ·exact e
   ·rcases zfl hx with e | ⟨e,_⟩
    ·exact e
    ·exact e
  exact um x (mem_of_lookup q)
 Tz:=λx c h=>by cases h
 hd:=I.ok.hd
 frames:=I.ok.frames
 stk:=.inl rfl
 exf:=λb oM=>⟨gU (gQ (hb b oM) hC),λx c h=>(hf b oM).2.2.2.2.1 x c (ug x c h)⟩
 bs:=I.bs
 Fw:=kh I.ok.Fw I.sz
 DW:=λb o e oM=>by
  rcases (hf b oM).2.2.2.1 with z | z
  ·exact I.ok.DW b o e z
  ·exact absurd (gw e) (Nat.not_lt.mpr (kh I.ok.Fw z))
 Ky:=λb oM z=>by
  rcases gj.mp (I.uE b z) with e | e
  ·exact (hf b oM).2.1 e
  ·exact (hf b oM).2.2.1 e
 oN:=I.stack
 Kl:=I.Al
def K5(I:Inv X pins σ H s)(S:fK scope)(ug:∀x c,cl.lookup x=some c->X.env.cells.lookup x=some c)(um:∀x,(x,NameKind.free)∈scope.names->∃c,cl.lookup x=some c) 
  (hC:s.heap.objs.size<=C) (hf:∀b∈fp,qe X pins H b) (hb:∀b∈fp,b<s.heap.objs.size) (uh:lF X scope capt N) (hn:h'.Ns C m) (hk:∀b o,s.heap.get? b=some o->h'.get? b=some o) :
  Inv (cN X N scope cl C fp s H) [] (jB capt σ) H { s with heap:=h',toks:=t' } where
 ok:=Q8 I S ug um hC hf hb
 os:=rfl
 bare:=I.bare
 base:=Un.kept hk
 loc:=by
  refine⟨m,hn,λi x v hN hv aez=>?_⟩;have hN':N[i]? = some x:=hN;unfold jB at hv;rw[gP]at hv;cases e:capt[i]? with
  | none=>rw[e]at hv;cases hv
  | some o =>
   rw[e]at hv;cases o with
   | none=>cases hv
   | some j =>
    have zY:(σ[j]?).join=some v:=by simpa using hv
    have hv2:σ[j]? = some (some v):=by
     cases q:σ[j]? with
     | none=>rw[q]at zY;cases zY
     | some z=>rw[q]at zY;cases zY;rfl
    obtain⟨h1,h2,h3⟩:=uh.at_ e hN';obtain⟨m0,hm0,hl⟩:=I.loc;have hvx:Vis X.env.scope x:=by
     rcases h2 with h2 | h2
     ·exact .inr (.inl h2)
     ·exact .inr (.inr h2)
    obtain⟨u,r,lk⟩:=hl j x v h1 hv2 hvx;refine⟨u,r,?_⟩;rcases lk with⟨k1,_⟩ | ⟨_,c,k2,k3⟩
    ·rcases h2 with h2 | h2<;>(rw[h2]at k1;cases k1)
    ·obtain⟨c',hc'⟩:=um x (mem_of_lookup h3);have:=ug x c' hc';rw[k2]at this;cases this;refine .inr ⟨zfg h3,c,hc',?_⟩;obtain⟨o,e1,e2⟩:=k3;exact⟨o,hk c o e1,e2⟩
 cell:=λx c h=>by
  obtain⟨v,o,e1,e2⟩:=I.cell x c (ug x c h);exact⟨v,o,hk c o e1,e2⟩
 free:=I.bI.fresh hC
 jL:=λx c h=>I.jL x c (ug x c h)
 pin:=λp hp=>by simp[cN]at hp
 bI:=I.bI.kept hk
 len:=by show (jB capt σ).length=N.length;unfold jB;rw[gq];exact uh.len
end
abbrev Ai(ifs:List Expr)(env:Env):Sem Bool:=forIn ifs true λc r=>if r=true then do let ok <-isTrue c env (eval c env);pure (ForInStep.yield ok) else pure (ForInStep.yield r)
theorem zme(I:Nat->Shared->Prop) 
  (turn:∀n s,I n s->wpAny (model prog w) A (pyNext it) (λr aeI=>match r with
   | none=>R (.ok .next) aeI
   | some v=>wpAny (model prog w) A (letOwnedTupleGo target it v) (λ_ aeg=>wpAny (model prog w) A (assign target env v) (λ_ aeH =>
     wpAny (model prog w) A (Ai ifs env) (λok aeG =>
      if ok=true then wpAny (model prog w) A (eval elt env) (λx aeF =>
       wpAny (model prog w) A (call (.builtin "list.append") [acc,x]) (λ_ aeE=>∃m,m<n/\I m aeE) (λ_ _=>False) aeF) (λ_ _=>False) aeG
      else ∃m,m<n/\I m aeG) (λ_ _=>False) aeH) (λ_ _=>False) aeg) (λ_ _=>False) aeI) (λ_ _=>False) s)
  (n:Nat) (h:I n s) :
  codeAny (model prog w) A (.compLoop (.ListComp elt [⟨target,iter,ifs,0⟩] scope pos) 0 it acc env) R s:=by
 refine codeAny_loop rfl I (λn s hI=>?_) n h;show wpAny _ A ((compTurn (.ListComp elt [⟨target,iter,ifs,0⟩] scope pos) 0 it acc env).onRaise (λx=>do noteFrame x env;theTreesLotGoes x)) _ _ s;refine wpAny_noted ?_;rw[compTurn_list];refine aeS (wpAny_standAt (aeS (ae6 (turn n s hI) (λr aeI aeQ=>?_) λ_ _ h'=>h'.elim)));cases r with
 | none=>exact aeV aeQ
 | some v =>
  refine aeS (ae6 aeQ (λ_ aeg aey=>?_) λ_ _ h'=>h'.elim);refine aeS (ae6 aey (λ_ aeH aeP=>aeS (ae6 aeP (λok aeG aeO=>?_) λ_ _ h'=>h'.elim)) λ_ _ h'=>h'.elim);cases ok with
  | false=>exact aeV ⟨rfl,aeO⟩
  | true =>
   exact aeS (aeS (ae6 aeO (λx aeF aeN=>aeS (ae6 aeN (λ_ aeE aeM=>aeV (aeV ⟨rfl,aeM⟩)) λ_ _ h'=>h'.elim)) λ_ _ h'=>h'.elim))
def XJ(X:Cx)(ifs:List Expr)(t:TT):Prop :=
 ∀(pins:List (Addr×Obj)) (s:Shared) (σ:St) (H:Hp) (Q:Bool->Hp->Prop),Inv X pins σ H s->t σ H Q->wpAny (model X.prog X.w) X.A (Ai ifs X.env) (TP X pins σ Q) X.xe s
def Od:XJ X [] (fun σ H Q=>Q true H):=λpins s σ H Q I h=>wpAny_tests_nil ⟨H,I,h⟩
def Oc{X:Cx}{c:Expr}{t:TT}(h:PT X c t):XJ X [c] t:=λpins s σ H Q I q=>wpAny_tests_one (h pins s σ H Q I q)
def GX(capt:List (Option Nat))(wi:TI)(g:TG)(tt:TT)(te:TE):TE:=fun σ H Q=>wi σ H λJ H1=>∀D,H1 D=none->∃W:Nat->Nat->St->Hp->Prop,(∃m,W 0 m (jB capt σ) (upd H1 D (.lst []))) /\
 ∀i m σ' H',W i m σ' H'->(J.stop i H'/\Q (.ref D) H')\/(J.go i H'/\∃N:St->Hp->Prop,(∀σ2 H2,N σ2 H2->∃m',m'<m/\W (i+1) m' σ2 H2) /\
  ∀x H2,J.yld i H' x H2->g x σ' H2 fun σ3 H3=>tt σ3 H3 λok H4=>if ok=true then te σ3 H4 λy H5=>∃xs,H5 D=some (.lst xs)/\xs.length<sizeLine/\N σ3 (upd H5 D (.lst (xs++[y]))) else N σ3 H4)
section
variable  {X:Cx}{elt tg iter:Expr}{ifs:List Expr}{scope:Scope}{pos:Pos}{N:List Str}{capt:List (Option Nat)}{wi:TI}{g:TG}{tt:TT}{te:TE}
def zlx{pins:List (Addr×Obj)}{σ:St}{H:Hp}{s:Shared}{it:Addr}{fp:List Addr}{tn:Nat->Heap->Prop}{J:It}{cl:List (Str×Addr)}{Q:VK}{E:Value->Shared->Prop}{RR:Value->Addr->Result->Shared->Prop}
  (I:Inv X pins σ H s) (T:Turn X.prog X.w X.K tg J fp it tn) (st:tn 0 s.heap) (hf:∀b∈fp,qe X pins H b)
  (S:fK scope) (ug:∀x c,cl.lookup x=some c->X.env.cells.lookup x=some c) (um:∀x,(x,NameKind.free)∈scope.names->∃c,cl.lookup x=some c) (uh:lF X scope capt N) (hc:X.calm=true)
  (hg:∀cl C fp s H,PG (cN X N scope cl C fp s H) tg g) (ht:∀cl C fp s H,XJ (cN X N scope cl C fp s H) ifs tt) (he:∀cl C fp s H,PE (cN X N scope cl C fp s H) elt te)
  (h:∀D,H D=none->∃W:Nat->Nat->St->Hp->Prop,(∃m,W 0 m (jB capt σ) (upd H D (.lst []))) /\
   ∀i m σ' H',W i m σ' H'->(J.stop i H'/\Q (.ref D) H')\/(J.go i H'/\∃N:St->Hp->Prop,(∀σ2 H2,N σ2 H2->∃m',m'<m/\W (i+1) m' σ2 H2) /\
    ∀x H2,J.yld i H' x H2->g x σ' H2 fun σ3 H3=>tt σ3 H3 λok H4=>if ok=true then te σ3 H4 λy H5=>∃xs,H5 D=some (.lst xs)/\xs.length<sizeLine/\N σ3 (upd H5 D (.lst (xs++[y]))) else N σ3 H4))
  (hRR:∀(D C:Addr) (H':Hp) (s':Shared) (m:Str->Option Value),s'.heap.Ns C m->Inv X pins σ H' s'->qe X pins H' C->Q (.ref D) H'->RR (.ref D) C (.ok .next) s') :
  wpAny (model X.prog X.w) X.A (newList []) (λacc aeG=>wpAny (model X.prog X.w) X.A (newFunctionEnv scope X.env.globals cl [] X.env.qual none .none (some X.env)) (λabK aeF =>
   codeAny (model X.prog X.w) X.A (.compStart (.ListComp elt [⟨tg,iter,ifs,0⟩] scope pos) 0 (.ref it) acc { abK with scope:=relabel scope X.env }) (RR acc abK.locals) aeF) E aeG) E s:=by
 have hD:H s.heap.objs.size=none:=I.bI.fresh (gb _);have I3:Inv X pins σ (upd H s.heap.objs.size (.lst [])) { s with heap:=s.heap.push { cls:=.type "list",dict:=none,data:=.seq ([]:List Value).toArray } } :=
  I.laid (t':=s.toks) (λb o q=>gF _ q) (gb _) ⟨by show 0<=sizeLine;decide,[],0,.nil,gZ _ rfl⟩
 obtain⟨W,⟨m0,w0⟩,turn⟩:=h _ hD;refine ae9 (wpAny_newFunctionEnv S.cell (by intro y hy;simp at hy) (λaeQ W7 WR=>?_) S.kind);dsimp only at W7 WR ⊢;generalize hH2:s.heap.push { cls:=.type "list",dict:=none,data:=.seq ([]:List Value).toArray }=Hh at W7 WR I3 ⊢;have Tj:∀b∈fp,b<s.heap.objs.size:=λb hb=>by
  obtain⟨o,e,_⟩:=T.obj 0 s.heap st b hb;exact gw e
 have szH:Hh.objs.size=s.heap.objs.size+1:=by rw[<-hH2,Heap.size_push]
 have abA:∀b∈fp,b<Hh.objs.size:=λb hb=>by rw[szH];exact Nat.lt_succ_of_lt (Tj b hb)
 have Zv:∀b∈fp,qe X pins (upd H s.heap.objs.size (.lst [])) b:=λb hb=>by
  obtain⟨f0,fr⟩:=hf b hb;exact⟨by rw[iC (gU (Tj b hb))];exact f0,fr⟩
 have Gk:∀b o,Hh.get? b=some o->aeQ.get? b=some o:=λb o e=>WR.extBut b o (gU (gw e)) (gF _ e);have st1:tn 0 aeQ:=T.keep 0 _ _ st λb hb o e=>Gk b o (by rw[<-hH2];exact gF _ e);generalize hX:cN X N scope cl Hh.objs.size fp { s with heap:=Hh } (upd H s.heap.objs.size (.lst []))=X';have I4:Inv X' [] (jB capt σ) (upd H s.heap.objs.size (.lst [])) { s with heap:=aeQ,toks:=s.toks+([]:List (Str×Value)).length }:=by
  rw[<-hX];exact K5 (capt:=capt) I3 S ug um (gb _) Zv abA uh W7 Gk
 have eP:X'.prog=X.prog:=by rw[<-hX];rfl
 have ew:X'.w=X.w:=by rw[<-hX];rfl
 have eK:X'.K=X.K:=by rw[<-hX];rfl
 have eA:X'.A=X.A:=by rw[<-hX];rfl
 have eC:X'.calm=true:=by rw[<-hX];exact hc
 have eE:X'.env=compEnvC scope cl Hh.objs.size X.env:=by rw[<-hX];rfl
 have eX:X'.xe=λ_ _=>False:=by rw[<-hX];rfl
 have ePn:X'.pn=[]:=by rw[<-hX];rfl
 have hg':PG X' tg g:=by rw[<-hX];exact hg _ _ _ _ _
 have ht':XJ X' ifs tt:=by rw[<-hX];exact ht _ _ _ _ _
 have he':PE X' elt te:=by rw[<-hX];exact he _ _ _ _ _
 have stat:∀{H':Hp},(∀b∈fp,H' b=none)->∀b∈fp,qe X' [] H' b:=λ{H'} hn b hb=>by
  rw[<-hX];refine⟨hn b hb,gU (abA b hb),λz=>?_,.inl hb,λx c q=>(hf b hb).2.2.2.2.1 x c (ug x c q),λp hp=>by simp[cN]at hp⟩;rcases gj.mp (I3.uE b z) with e | e
  ·exact (hf b hb).2.1 e
  ·exact (hf b hb).2.2.1 e
 have back:∀{σ':St} {H':Hp} {s':Shared},Inv X' [] σ' H' s'->∀Zz,Heap.SameBut Hh.objs.size s'.heap Zz->Inv X pins σ H' { s' with heap:=Zz }:=λ{σ' H' s'} I' Zz sb=>by
  have u:=I'.base;rw[<-hX]at u;have Ms:∀b o,Hh.get? b=some o->b≠Hh.objs.size:=λb o e=>gU (gw e);have nC:H' Hh.objs.size=none:=by have:=I'.free;rw[eE]at this;exact this
  refine I3.abR (s':={ s' with heap:=Zz }) (ch:=fp) (by have:=I'.os;rw[<-hX]at this;exact this) ?_ ?_ I'.bare (λb hb=>⟨(Zv b hb).2.2.2.1,(Zv b hb).2.1,(Zv b hb).2.2.2.2.1,(Zv b hb).2.2.2.2.2⟩)
  ·exact⟨λb o e n hb hx=>sb.extBut b _ (Ms b o e) (u.keep b o e n hb hx),λb o e n hb hx=>let ⟨sl,q⟩:=u.slot b o e n hb hx;⟨sl,sb.extBut b _ (Ms b o e) q⟩,u.free,
    λb o e hx=>let ⟨o',q⟩:=u.there b o e hx;⟨o',sb.extBut b _ (Ms b o e) q⟩,u.uw,u.sG,u.uc⟩
  ·have hk:=I'.bI;rw[eP,ew]at hk;intro b ob e;have nb:∀c v,H' c=some v->c≠Hh.objs.size:=λc v q=>zr q nC;refine (hk b ob e).ud (λc v hc q=>sb.extBut c v ?_ q) (λ_ q=>q) λ_ _ q=>q;rcases hc with z | z
   ·rw[z];exact nb b _ e
   ·exact nb c _ z
 have loop:∀aeG:Shared,aeG={ s with heap:=aeQ,toks:=s.toks+([]:List (Str×Value)).length } ->
   codeAny (model X.prog X.w) X.A (.compLoop (.ListComp elt [⟨tg,iter,ifs,0⟩] scope pos) 0 (.ref it) (.ref s.heap.objs.size) (compEnvC scope cl Hh.objs.size X.env)) (RR (.ref s.heap.objs.size) Hh.objs.size) aeG:=by
  rintro aeG rfl;refine zme (λn s'=>∃i σ' H',Inv X' [] σ' H' s'/\tn i s'.heap/\(∀b∈fp,H' b=none)/\W i n σ' H') ?_ m0 ⟨0,_,_,I4,st1,λb hb=>(Zv b hb).1,w0⟩;rintro n s3 ⟨i,σ3,H3,I5,ig,fr3,w3⟩;rw[<-eP,<-ew,<-eA,<-eE];rcases turn i n σ3 H3 w3 with⟨stop,qn⟩ | ⟨go,Nn,hN,step⟩
  ·have d:=T.done X' eP ew eK eC i [] s3 σ3 H3 (λ_ _=>False) I5 (stat fr3) ig stop;rw[<-eP,<-ew]at d;refine cI d λr s4 zz=>?_;obtain⟨hr,I6⟩:=zz;subst hr;obtain⟨mm,Eo,_⟩:=I6.loc;rw[eE]at Eo;have nC:H3 Hh.objs.size=none:=by have:=I6.free;rw[eE]at this;exact this
   exact hRR _ _ H3 s4 mm Eo (back I6 s4.heap (.refl ..)) (I3.uV (gb _) nC) qn
  ·have d:=T.item X' eP ew eK eC i [] s3 σ3 H3 (λ_ _=>False) I5 (stat fr3) ig go;rw[<-eP,<-ew]at d;refine cI d λr s4 zz=>?_;obtain⟨u,hr,h4⟩:=zz;subst hr;refine cI h4 λ_ s5 zz=>?_;obtain⟨x,H5,I6,r5,y5,Mq,fr5⟩:=zz;have I6':=I6.pinned (stat fr5) (T.obj _ _ Mq);have dg:=hg' _ s5 σ3 H5 x u _ I6' r5 (step x H5 y5);rw[eX]at dg;refine cI dg λ_ s6 zz=>?_;obtain⟨σ6,H6,I7,q6⟩:=zz;have dt:=ht' _ s6 σ6 H6 _ I7 q6;rw[eX]at dt;refine cI dt λok s7 zz=>?_;obtain⟨H7,I8,q7⟩:=zz;have again:∀{σ9:St} {H9:Hp} {s9:Shared},Inv X' ([]++uI fp s5.heap) σ9 H9 s9->Nn σ9 H9->∃m,m<n/\∃i σ' H',Inv X' [] σ' H' s9/\tn i s9.heap/\(∀b∈fp,H' b=none)/\W i m σ' H':=λ{σ9 H9 s9} I9 n9=>by
    obtain⟨m',hm,w9⟩:=hN σ9 H9 n9;refine⟨m',hm,i+1,σ9,H9,I9.qu,T.keep _ _ _ Mq λb hb o e=>(I9.pin (b,o) (mO _ (mO _ (zfk hb e)))).1,λb hb=>?_,w9⟩;obtain⟨o,e,d⟩:=T.obj _ _ Mq b hb;exact (I9.pin (b,o) (mO _ (mO _ (zfk hb e)))).2.1
   cases ok with
   | false=>exact again I8 q7
   | true =>
    have de:=he' _ s7 σ6 H7 _ I8 q7;rw[eX]at de;refine cI de λy s8 zz=>?_;obtain⟨v,H8,I9,r8,q8⟩:=zz;obtain⟨xs,hx,hz,nn⟩:=q8;have da:=znv (X:=X') _ s8 σ6 H8 (.ref s.heap.objs.size) [v] (.ref s.heap.objs.size) [y] (λ_ H9=>Nn σ6 H9) I9 rfl (.cons r8 .nil) ⟨_,xs,v,rfl,rfl,hx,hz,nn⟩;rw[eX]at da;refine cI da λ_ s9 zz=>?_;obtain⟨_,H9,I10,_,n9⟩:=zz;exact again I10 n9
 exact codeAny_compStart_list (loop _ rfl) (T.self _ 0 _ _ _ st1 (loop _ rfl))
def zkm(I:Inv X pins σ H s)(QD:∀x∈scope.names,x.2=.free->X.env.kindOf x.1=some .cell\/X.env.kindOf x.1=some .free) :
  ∃cl,closureFor scope X.env=pure cl/\(∀x c,cl.lookup x=some c->X.env.cells.lookup x=some c)/\∀x,(x,NameKind.free)∈scope.names->∃c,cl.lookup x=some c :=
 zkj λx hx hk=>I.ok.has x.1 (QD x hx hk)
def Inv.wJ(I:Inv X pins σ H s)(f:qe X pins H C)(sb:Heap.SameBut C s.heap h'):Inv X pins σ H { s with heap:=h' } :=
 I.turned (t':=s.toks) (λb o hb e=>sb.extBut b o hb e) f.1 f.2.1 f.2.2.2.1 f.2.2.2.2.1 f.2.2.2.2.2
def O5(hi:PI X tg iter wi)(S:fK scope)(QD:∀x∈scope.names,x.2=.free->X.env.kindOf x.1=some .cell\/X.env.kindOf x.1=some .free)(uh:lF X scope capt N)(hc:X.calm=true)
  (hg:∀cl C fp s H,PG (cN X N scope cl C fp s H) tg g) (ht:∀cl C fp s H,XJ (cN X N scope cl C fp s H) ifs tt) (he:∀cl C fp s H,PE (cN X N scope cl C fp s H) elt te)
  (hs:∀x,foldedSetIterable iter X.env x=pure x:=by intro _;rfl):PE X (.ListComp elt [⟨tg,iter,ifs,0⟩] scope pos) (GX capt wi g tt te):=by
 intro pins s σ H Q I h;obtain⟨cl,ug,h1,h2⟩:=zkm I QD;rw[eval_ListComp];refine wpAny_comprehension_free (use:=none) rfl hs ug S.kind S.names (cI (hi pins s σ H _ I h) λv s1 q1=>cI q1 λitv s2 q2=>?_);obtain⟨it,fp,tn,J,H2,e,I2,T,st2,f2,q⟩:=q2;subst e;refine zlx (RR:=λacc C=>compPost (model X.prog X.w) X.A X.xe none (EP X pins σ Q) acc C) I2 T st2 f2 S h1 h2 uh hc hg ht he q ?_;intro D C H' s' m hn I' f' q';exact⟨m,hn,λZz sb=>⟨.ref D,H',I'.wJ f' sb,rfl,q'⟩⟩
def zqp(hN:X.N.Nodup)(hy:X.N[i]? = some y)(hx:Loc X.env.scope y)(hsw:swapsWith (.ListComp elt [⟨tg,iter,ifs,0⟩] scope pos) (some (.Name y py)) Uz.line X.env=pure true) 
  (hi:PI X tg iter wi) (S:fK scope) (QD:∀x∈scope.names,x.2=.free->X.env.kindOf x.1=some .cell\/X.env.kindOf x.1=some .free) (uh:lF X scope capt N) (hc:X.calm=true)
  (hg:∀cl C fp s H,PG (cN X N scope cl C fp s H) tg g) (ht:∀cl C fp s H,XJ (cN X N scope cl C fp s H) ifs tt) (he:∀cl C fp s H,PE (cN X N scope cl C fp s H) elt te)
  (hs:∀x,foldedSetIterable iter X.env x=pure x:=by intro _;rfl) (hf:X.fn y=true\/X.env.scope.names.lookup y=some .local:=by first | exact .inl rfl | exact .inr rfl | assumption) :
  PS X (.Assign [.Name y py] (.ListComp elt [⟨tg,iter,ifs,0⟩] scope pos) Uz) (Ux (GX capt wi g tt te) (BJ i)):=by
 intro pins s σ H D I h;obtain⟨cl,ug,h1,h2⟩:=zkm I QD;rw[exec_Assign_Name_used _ _ _ _ hsw];refine aeS (wpAny_standAt (aeS ?_));show wpAny _ X.A (do let _ <-comprehension (.ListComp elt [⟨tg,iter,ifs,0⟩] scope pos) scope X.env _ (newList []) false (eval iter X.env) (some (assign (.Name y py) X.env))) _ _ s;refine aeS (ae6 (wpAny_comprehension_free (use:=some (assign (.Name y py) X.env)) (Q:=λ_ s'=>SP X pins D .next s') rfl hs ug S.kind S.names
  (cI (hi pins s σ H _ I h) λv s1 q1=>cI q1 λitv s2 q2=>?_)) (λ_ s' hq=>aeV (aeV hq)) λ_ _ e=>e)
 obtain⟨it,fp,tn,J,H2,e,I2,T,st2,f2,q⟩:=q2;subst e;refine zlx (Q:=λx H1=>BJ i x σ H1 D.nx) (RR:=λacc C=>compPost (model X.prog X.w) X.A X.xe (some (assign (.Name y py) X.env)) (λ_ s'=>SP X pins D .next s') acc C) I2 T st2 f2 S h1 h2 uh hc hg ht he q ?_;intro D' C H' s' m hn I' f' q';show wpAny _ X.A (assign (.Name y py) X.env (.ref D')) _ _ _;refine wpAny_assign_Name (znw I' hN hy hx (v:=.ref D') rfl (λs'' I'' zz=>?_) hf);obtain⟨a,sb,ha⟩:=zz;have Ms:C≠a:=by
  rcases ha with e | e
  ·rw[e];exact f'.2.1
  ·exact ae4 (f'.2.2.2.2.1 _ _ e)
 obtain⟨o,es,ep,ho,r⟩:=hn;exact⟨m,⟨o,es,ep,sb.extBut C o Ms ho,r⟩,λZz sb'=>⟨_,H',I''.wJ f' sb',q'⟩⟩
end
end L2
namespace M
open PySem PySem.Spec L2
inductive D where
 | non | bl (b:Bool) | int (i:Int) | str (cs:List Nat) | tup (xs:List D) | loc (n:Nat)
instance:Inhabited D:=⟨.non⟩
structure fJ where
 qual:Str
 params:Arguments
 body:Expr
 scope:Scope
 oO:List Str
inductive MO where
 | lst (xs:List D) | frz (xs:List D) | dic (kvs:List (List Key×D)) | dkc (kvs:List (Key×D))
 
 | dkf (kvs:List (Key×D))
 
 | dtf (kvs:List (List Key×D))
 
 | ins (c:Str) (fs:List (Str×D))
 
 | tab (x:Str)
 
 | clo (j:Nat) (l:fJ) (ds:List D)
 
 | exc (c:String) (d:D)
 
 | hid
abbrev ak:=List MO
abbrev aM:=List (Option D)
structure Xc where
 cls:String
 fld:D
inductive R (α:Type) where
 | ok (a:α) (st:ak) | err (x:Xc) (st:ak) | bad
def dW{α:Sort u}{a b:α}(h:a=b):a=b:=h
noncomputable def R.bind{α β:Type}(r:R α)(f:α->ak->R β):R β:=match r with
 | .ok a st=>f a st
 | .err x st=>.err x st
 | .bad=>.bad
@[simp] def R.aB{α β:Type}(a:α)(st:ak)(f:α->ak->R β):(R.ok a st).bind f=f a st:=dW rfl
@[simp] def R.rB{α β:Type}(x:Xc)(st:ak)(f:α->ak->R β):(R.err x st:R α).bind f=.err x st:=dW rfl
@[simp] def R.rC{α β:Type}(f:α->ak->R β):(R.bad:R α).bind f=.bad:=dW rfl
noncomputable abbrev strOf(cs:List Nat):Str:=⟨cs.toArray⟩
instance aeh {K:PySem.W.Frag} {H:Hp} {a:Addr} {xs:List V}:CoeTail (H a=some (.tup xs)) (oG K H a xs):=⟨oG.of⟩
def DX:List D->Bool
 | []=>false
 | .int _::r=>DX r
 | .str _::r=>DX r
 | _::_=>true
def FJ:List D->Bool
 | []=>true
 | .str _::r=>FJ r
 | _::_=>false
def Bd(ds:List D):Bool:=FJ ds || DX ds
def yL(K:PySem.W.Frag)(H:Hp)(a:Addr)(xs:List V)(ds:List D):Prop :=
 H a=some (.tup xs)\/(Bd ds=true/\∃(o:Obj) (its:Array Value) (n:Nat),K.lookup a=some o/\o.cls=.type "tuple"/\o.data=.seq its n/\its.size<=sizeLine/\Vals xs its.toList)
def yL.qK(h:yL K H a xs ds):oG K H a xs:=by
 rcases h with h | ⟨_,h⟩
 ·exact oG.of h
 ·exact .inr h
mutual
def aq(K:PySem.W.Frag)(μ:List Addr)(H:Hp):D->V->Prop
 | .non,v=>v=.non
 | .bl b,v=>v=.bl b
 | .int i,v=>v=.int i
 | .str cs,v=>v=.str (strOf cs)
 | .tup ds,v=>∃a xs,v=.ref a/\yL K H a xs ds/\ao K μ H ds xs
 | .loc n,v=>∃a,μ[n]? = some a/\v=.ref a
def ao(K:PySem.W.Frag)(μ:List Addr)(H:Hp):List D->List V->Prop
 | [],vs=>vs=[]
 | d::ds,vs=>∃v r,vs=v::r/\aq K μ H d v/\ao K μ H ds r
end
structure Ext(H H':Hp):Prop where
 tup:∀b xs,H b=some (.tup xs)->H' b=some (.tup xs)
 frz:∀b o u,H b=some (.frz o u)->H' b=some (.frz o u)
def Ext.refl(H:Hp):Ext H H:=⟨λ_ _ h=>h,λ_ _ _ h=>h⟩
def Ext.trans(a:Ext H H1)(b:Ext H1 H2):Ext H H2:=⟨λc xs h=>b.tup c xs (a.tup c xs h),λc o u h=>b.frz c o u (a.frz c o u h)⟩
def Ext.qK(e:Ext H H')(h:oG K H a xs):oG K H' a xs:=by
 rcases h with (h | ⟨o,h⟩) | h
 ·exact .inl (.inl (e.tup _ _ h))
 ·exact .inl (.inr ⟨o,e.frz _ _ _ h⟩)
 ·exact .inr h
def Ext.ack(e:Ext H H')(h:yL K H a xs ds):yL K H' a xs ds:=by
 rcases h with h | h
 ·exact .inl (e.tup _ _ h)
 ·exact .inr h
def Ext.new(h:H p=none):Ext H (upd H p o) :=
 ⟨λb xs q=>by rw[iC (zr q h)];exact q,λb o' u q=>by rw[iC (zr q h)];exact q⟩
structure aZ(μ:List Addr)(H:Hp)(μ':List Addr)(H':Hp):Prop where
 pre:∃ν,μ'=μ++ν
 ext:Ext H H'
def aZ.refl(μ:List Addr)(H:Hp):aZ μ H μ H:=⟨⟨[],by simp⟩,.refl H⟩
def aZ.trans(a:aZ μ H μ1 H1)(b:aZ μ1 H1 μ2 H2):aZ μ H μ2 H2:=by
 obtain⟨ν1,rfl⟩:=a.pre;obtain⟨ν2,rfl⟩:=b.pre;exact⟨⟨ν1++ν2,by simp⟩,a.ext.trans b.ext⟩
def aZ.get{μ μ':List Addr}{H H':Hp}(g:aZ μ H μ' H'){n:Nat}{a:Addr}(h:μ[n]? = some a):μ'[n]? = some a:=by
 obtain⟨ν,rfl⟩:=g.pre;rw[gK (gf.mp h).1];exact h
mutual
theorem aq.mono{K:PySem.W.Frag}{μ μ':List Addr}{H H':Hp}(g:aZ μ H μ' H'):∀(d:D) {v:V},aq K μ H d v->aq K μ' H' d v
 | .non,_,h=>by simpa[aq] using h
 | .bl _,_,h=>by simpa[aq] using h
 | .int _,_,h=>by simpa[aq] using h
 | .str _,_,h=>by simpa[aq] using h
 | .tup ds,_,h=>by
  rw[aq]at h ⊢;obtain⟨a,xs,rfl,h1,h2⟩:=h;exact⟨a,xs,rfl,g.ext.ack h1,ao.mono g ds h2⟩
 | .loc n,_,h=>by
  rw[aq]at h ⊢;obtain⟨a,h1,rfl⟩:=h;exact⟨a,g.get h1,rfl⟩
theorem ao.mono(g:aZ μ H μ' H'):∀(ds:List D) {vs:List V},ao K μ H ds vs->ao K μ' H' ds vs
 | [],_,h=>by simpa[ao] using h
 | d::ds,_,h=>by
  rw[ao]at h ⊢;obtain⟨v,r,rfl,h1,h2⟩:=h;exact⟨v,r,rfl,aq.mono g d h1,ao.mono g ds h2⟩
end
section
variable  {K:PySem.W.Frag}{μ:List Addr}{H:Hp}
theorem ao.length:∀{ds:List D} {vs:List V},ao K μ H ds vs->ds.length=vs.length
 | [],_,h=>by rw[ao]at h;subst h;rfl
 | d::ds,_,h=>by
  rw[ao]at h;obtain⟨v,r,rfl,_,h2⟩:=h;rw[gC,gC,ao.length h2]
theorem ao.get:∀{ds:List D} {vs:List V} {i:Nat} {d:D},ao K μ H ds vs->ds[i]? = some d->∃v,vs[i]? = some v/\aq K μ H d v
 | [],_,_,_,_,e=>by simp at e
 | d::ds,_,0,_,h,e=>by
  rw[ao]at h;obtain⟨v,r,rfl,h1,_⟩:=h;simp at e;subst e;exact⟨v,rfl,h1⟩
 | d::ds,_,i+1,x,h,e=>by
  rw[ao]at h;obtain⟨v,r,rfl,_,h2⟩:=h;obtain⟨u,h3,h4⟩:=ao.get (i:=i) h2 (by simpa using e);exact⟨u,by simpa using h3,h4⟩
theorem ao.append:∀{ds es:List D} {vs ws:List V},ao K μ H ds vs->ao K μ H es ws->ao K μ H (ds++es) (vs++ws)
 | [],_,_,_,h,k=>by rw[ao]at h;subst h;exact k
 | d::ds,es,_,ws,h,k=>by
  rw[ao]at h;obtain⟨v,r,rfl,h1,h2⟩:=h;show ao K μ H (d::(ds++es)) (v::(r++ws));rw[ao];exact⟨v,r++ws,rfl,h1,ao.append h2 k⟩
def ao.nil:ao K μ H [] []:=by rw[ao]
def ao.cons(h:aq K μ H d v)(k:ao K μ H ds vs):ao K μ H (d::ds) (v::vs):=by rw[ao];exact⟨v,vs,rfl,h,k⟩
theorem ao.take:∀{ds:List D} {vs:List V} (n:Nat),ao K μ H ds vs->ao K μ H (ds.take n) (vs.take n)
 | _,_,0,_=>by simp[ao]
 | [],_,n+1,h=>by rw[ao]at h;subst h;simp[ao]
 | d::ds,_,n+1,h=>by
  rw[ao]at h;obtain⟨v,r,rfl,h1,h2⟩:=h;exact ao.cons h1 (ao.take n h2)
theorem ao.drop:∀{ds:List D} {vs:List V} (n:Nat),ao K μ H ds vs->ao K μ H (ds.drop n) (vs.drop n)
 | _,_,0,h=>h
 | [],_,n+1,h=>by rw[ao]at h;subst h;simp[ao]
 | d::ds,_,n+1,h=>by
  rw[ao]at h;obtain⟨v,r,rfl,h1,h2⟩:=h;exact ao.drop n h2
theorem ao.set(hd:aq K μ H d v):∀{ds:List D} {vs:List V} (i:Nat),ao K μ H ds vs->ao K μ H (ds.set i d) (vs.set i v)
 | [],_,_,h=>by rw[ao]at h;subst h;simp[ao]
 | x::ds,_,0,h=>by
  rw[ao]at h;obtain⟨w,r,rfl,h1,h2⟩:=h;exact ao.cons hd h2
 | x::ds,_,i+1,h=>by
  rw[ao]at h;obtain⟨w,r,rfl,h1,h2⟩:=h;exact ao.cons h1 (ao.set hd i h2)
def ao.reverse{ds:List D}{vs:List V}(h:ao K μ H ds vs):ao K μ H ds.reverse vs.reverse:=by
 induction ds generalizing vs with
 | nil=>rw[ao]at h;subst h;simp[ao]
 | cons d ds ih =>
  rw[ao]at h;obtain⟨v,r,rfl,h1,h2⟩:=h;rw[nF,nF];exact (ih h2).append (ao.cons h1 ao.nil)
def aq.aL:aq K μ H (.int i) v↔v=.int i:=by rw[aq]
def aq.bj:aq K μ H (.bl b) v↔v=.bl b:=by rw[aq]
def aq.bD:aq K μ H .non v↔v=.non:=by rw[aq]
def aq.aP:aq K μ H (.str cs) v↔v=.str (strOf cs):=by rw[aq]
def aq.aQ:aq K μ H (.tup ds) v ↔ ∃a xs,v=.ref a/\yL K H a xs ds/\ao K μ H ds xs:=by rw[aq]
def aq.aK:aq K μ H (.loc n) v ↔ ∃a,μ[n]? = some a/\v=.ref a:=by rw[aq]
end
def aH{κ:Type}(K:PySem.W.Frag)(μ:List Addr)(H:Hp):List (κ×D)->List (κ×V)->Prop
 | [],vs=>vs=[]
 | (k,d)::ds,vs=>∃v r,vs=(k,v)::r/\aq K μ H d v/\aH K μ H ds r
theorem aH.mono(g:aZ μ H μ' H'):∀{ds:List (κ×D)} {vs:List (κ×V)},aH K μ H ds vs->aH K μ' H' ds vs
 | [],_,h=>h
 | (k,d)::ds,_,⟨v,r,e,h1,h2⟩=>⟨v,r,e,h1.mono g d,aH.mono g h2⟩
def xZ(K:PySem.W.Frag)(H:Hp)(a:Addr)(xs:List V):Prop :=
 (∃o,H a=some (.frz o (.lst xs)))\/∃(o:Obj) (its:Array Value) (n:Nat),K.lookup a=some o/\o.cls=.type "list"/\o.dict=none/\o.data=.seq its n/\its.size<=sizeLine/\Vals xs its.toList
def xZ.sqL(h:xZ K H a xs):ou K H a xs:=by
 rcases h with h | h
 ·exact .inl (.inr h)
 ·exact .inr h
def xZ.ext(e:Ext H H')(h:xZ K H a xs):xZ K H' a xs:=by
 rcases h with⟨o,h⟩ | h
 ·exact .inl ⟨o,e.frz _ _ _ h⟩
 ·exact .inr h
def MO.mut:MO->Bool
 | .frz _=>false
 | .clo _ _ _=>false
 | .hid=>false
 | .dkf _=>false
 | .dtf _=>false
 | .exc _ _=>false
 | _=>true
def rD(H:Hp)(c:Addr)(q:Str):Prop:=∃oc vs t,H c=some (.frz oc (.own 0))/\oc.data=.fields vs/\vs[1]? = some (.str q t)
def eV(H:Hp):List (Str×Addr)->List V->Prop
 | [],vs=>vs=[]
 | (_,c)::cl,vs=>∃v r o u,vs=v::r/\H c=some (.frz o (.own 0))/\o.data=.cell (some u)/\RelV v u/\eV H cl r
def rD.ext(e:Ext H H')(h:rD H c q):rD H' c q :=
 let ⟨oc,vs,t,h1,h2⟩:=h;⟨oc,vs,t,e.frz _ _ _ h1,h2⟩
theorem eV.ext(e:Ext H H'):∀{cl:List (Str×Addr)} {vs:List V},eV H cl vs->eV H' cl vs
 | [],_,h=>h
 | (_,c)::cl,_,⟨v,r,o,u,h1,h2,h3,h4,h5⟩=>⟨v,r,o,u,h1,e.frz _ _ _ h2,h3,h4,eV.ext e h5⟩
def qO(x:Str):Str:=x ++ ".<locals>." ++ "<lambda>"
def fX(K:PySem.W.Frag)(μ:List Addr)(H:Hp)(a:Addr):MO->Prop
 | .lst ds=>∃xs,H a=some (.lst xs)/\ao K μ H ds xs
 | .frz ds=>∃xs,xZ K H a xs/\ao K μ H ds xs
 | .dic kvs=>∃ws,H a=some (.dT ws)/\aH K μ H kvs ws
 | .dkc kvs=>∃ws,H a=some (.dK ws)/\aH K μ H kvs ws
 | .dkf kvs=>∃ws o,H a=some (.frz o (.dK ws))/\aH K μ H kvs ws
 | .dtf kvs=>∃ws o,H a=some (.frz o (.dT ws))/\aH K μ H kvs ws
 | .ins c fs=>∃C dx ws,PySem.W.nsIn K mainGlobals c=some (some (.ref C))/\H a=some (.ins C dx ws)/\aH K μ H fs ws
 | .tab x=>(∃(fa:Addr) (o:Obj) (fd:FuncData) (c:Addr),PySem.W.nsIn K mainGlobals x=some (some (.ref fa))/\K.lookup fa=some o/\o.data=.func fd/\fd.code=.ref c/\PySem.W.codeHdIn K c a=true) /\
   ∃ps:Array Value,H a=some (.tbl ps)/\TriplesOk ps.toList/\∀pos cv,codeAmong pos ps.toList=some cv->∃c',cv=.ref c'/\rD H c' (qO x)
 | .clo _ l ds=>∃(cl:List (Str×Addr)) (pm:Value) (c':Addr) (q9:Value) (vs:List V),H a=some (.frz (PySem.W.kla_obj "<lambda>" l.qual l.params l.body l.scope cl pm c' q9) (.own 0))/\rD H c' l.qual /\
   cl.map (·.1)=l.oO/\(cl.map (·.2)).Nodup/\eV H cl vs/\ao K μ H ds vs
 | .exc c d=>∃oe C dx od v fs,H a=some (.frz oe (.own 0))/\oe.cls=.ref C/\oe.dict=some dx/\oe.data=.fields fs/\H dx=some (.frz od (.xd [("at",v)]))/\PySem.W.nsIn K mainGlobals (c:Str)=some (some (.ref C))/\aq K μ H d v
 | .hid=>True
structure aU(K:PySem.W.Frag)(μ:List Addr)(H:Hp)(st:ak):Prop where
 len:μ.length=st.length
 at_:∀(n:Nat) (o:MO),st[n]? = some o->∃a,μ[n]? = some a/\fX K μ H a o
 uniq:∀(i j:Nat) (a:Addr) (oi oj:MO),st[i]? = some oi->st[j]? = some oj->oi.mut=true->oj.mut=true->μ[i]? = some a->μ[j]? = some a->i=j
structure dD(K:PySem.W.Frag)(μ:List Addr)(H:Hp)(env:aM)(σ:St):Prop where
 len:env.length=σ.length
 at_:∀(i:Nat) (d:D),env[i]? = some (some d)->∃v,σ[i]? = some (some v)/\aq K μ H d v
def dD.mono(g:aZ μ H μ' H')(h:dD K μ H env σ):dD K μ' H' env σ :=
 ⟨h.len,λi d e=>let ⟨v,h1,h2⟩:=h.at_ i d e;⟨v,h1,h2.mono g d⟩⟩
def dD.set(h:dD K μ H env σ)(r:aq K μ H d v):dD K μ H (env.set i (some d)) (σ.set i (some v)):=by
 refine⟨by simp[h.len],λj e hj=>?_⟩;by_cases Xa:i=j
 ·subst Xa;have hl:i<env.length:=by
   have:=(gf.mp hj).1;simpa using this
  rw[k_ hl]at hj;cases hj;exact⟨v,by rw[k_ (by rw[<-h.len];exact hl)],r⟩
 ·rw[gR Xa]at hj;rw[gR Xa];exact h.at_ j e hj
def fX.some_of(h:fX K μ H a o)(hm:o.mut=true):∃u,H a=some u:=by
 cases o with
 | lst ds=>obtain⟨xs,h1,_⟩:=h;exact⟨_,h1⟩
 | frz ds=>cases hm
 | dic kvs=>obtain⟨xs,h1,_⟩:=h;exact⟨_,h1⟩
 | dkc kvs=>obtain⟨xs,h1,_⟩:=h;exact⟨_,h1⟩
 | dkf kvs=>cases hm
 | dtf kvs=>cases hm
 | ins c fs=>obtain⟨_,_,_,_,h1,_⟩:=h;exact⟨_,h1⟩
 | tab x=>obtain⟨_,_,h1,_⟩:=h;exact⟨_,h1⟩
 | clo j l ds=>cases hm
 | exc c d=>cases hm
 | hid=>cases hm
def fX.keep(g:aZ μ H μ' H')(hk:o.mut=true->∀u,H a=some u->H' a=some u)(h:fX K μ H a o):fX K μ' H' a o:=by
 cases o with
 | lst ds=>obtain⟨xs,h1,h2⟩:=h;exact⟨xs,hk rfl _ h1,h2.mono g ds⟩
 | frz ds=>obtain⟨xs,h1,h2⟩:=h;exact⟨xs,h1.ext g.ext,h2.mono g ds⟩
 | dic kvs=>obtain⟨ws,h1,h2⟩:=h;exact⟨ws,hk rfl _ h1,h2.mono g⟩
 | dkc kvs=>obtain⟨ws,h1,h2⟩:=h;exact⟨ws,hk rfl _ h1,h2.mono g⟩
 | dkf kvs=>obtain⟨ws,o,h1,h2⟩:=h;exact⟨ws,o,g.ext.frz _ _ _ h1,h2.mono g⟩
 | dtf kvs=>obtain⟨ws,o,h1,h2⟩:=h;exact⟨ws,o,g.ext.frz _ _ _ h1,h2.mono g⟩
 | exc c d=>obtain⟨oe,C,dx,od,v,fs,h1,h2,h3,h4,h5,h6,h7⟩:=h;exact⟨oe,C,dx,od,v,fs,g.ext.frz _ _ _ h1,h2,h3,h4,g.ext.frz _ _ _ h5,h6,h7.mono g d⟩
 | ins c fs=>obtain⟨C,dx,ws,h0,h1,h2⟩:=h;exact⟨C,dx,ws,h0,hk rfl _ h1,h2.mono g⟩
 | tab x=>obtain⟨h0,ps,h1,h2,h3⟩:=h;exact⟨h0,ps,hk rfl _ h1,h2,λpos cv e=>let ⟨c',e1,e2⟩:=h3 pos cv e;⟨c',e1,e2.ext g.ext⟩⟩
 | clo j l ds=>obtain⟨cl,pm,c',q9,vs,h1,h2,h3,h4,h5,h6⟩:=h;exact⟨cl,pm,c',q9,vs,g.ext.frz _ _ _ h1,h2.ext g.ext,h3,h4,h5.ext g.ext,h6.mono g ds⟩
 | hid=>trivial
section
variable  {K:PySem.W.Frag}{μ:List Addr}{H:Hp}{st:ak}{p a:Addr}{xs:List V}{n:Nat}{mo Sq:MO}{o o':HO}
def aU.lay(h:aU K μ H st)(hp:H p=none):aU K μ (upd H p o) st :=
 ⟨h.len,λn mo e=>let ⟨a,h1,h2⟩:=h.at_ n mo e;⟨a,h1,h2.keep ⟨⟨[],by simp⟩,.new hp⟩ λ_ u q=>by rw[iC (zr q hp)];exact q⟩,h.uniq⟩
def aZ.lay(hp:H p=none):aZ μ H μ (upd H p o):=⟨⟨[],by simp⟩,.new hp⟩
def aZ.new(hp:H p=none):aZ μ H (μ++[p]) (upd H p o):=⟨⟨[p],rfl⟩,.new hp⟩
def aU.new(h:aU K μ H st)(hp:H p=none)(hn:fX K (μ++[p]) (upd H p o) p mo):aU K (μ++[p]) (upd H p o) (st++[mo]):=by
 refine⟨by simp[h.len],λn mo1 e=>?_,λi j b oi oj ei ej mi mj hi hj=>?_⟩
 ·by_cases hl:n<st.length
  ·rw[gK hl]at e;obtain⟨b,h1,h2⟩:=h.at_ n mo1 e;exact⟨b,by rw[gK (by rw[h.len];exact hl)];exact h1,h2.keep (aZ.new hp) λ_ u q=>by rw[iC (zr q hp)];exact q⟩
  ·have J6:=(gf.mp e).1;rw[gJ,mH]at J6;have e2:n=st.length:=by omega
   subst e2;rw[h_ (gb _)]at e;simp at e;subst e;exact⟨p,by rw[<-h.len];simp,hn⟩
 ·have key:∀(k:Nat) (ok:MO),(st++[mo])[k]? = some ok->ok.mut=true->(μ++[p])[k]? = some b->(k<st.length/\st[k]? = some ok/\μ[k]? = some b/\b≠p)\/(k=st.length/\b=p):=λk ok ek mk hk=>by
   by_cases hl:k<st.length
   ·rw[gK hl]at ek;rw[gK (by rw[h.len];exact hl)]at hk;obtain⟨c,h1,h2⟩:=h.at_ k ok ek;rw[hk]at h1;cases h1;obtain⟨u,hu⟩:=h2.some_of mk;exact .inl ⟨hl,ek,hk,zr hu hp⟩
   ·have J6:=(gf.mp ek).1;rw[gJ,mH]at J6;have e2:k=st.length:=by omega
    subst e2;rw[<-h.len]at hk;simp at hk;exact .inr ⟨rfl,hk.symm⟩
  rcases key i oi ei mi hi with⟨_,a1,a2,a3⟩ | ⟨a1,a2⟩
  ·rcases key j oj ej mj hj with⟨_,b1,b2,b3⟩ | ⟨b1,b2⟩
   ·exact h.uniq i j b oi oj a1 b1 mi mj a2 b2
   ·exact absurd b2 a3
  ·rcases key j oj ej mj hj with⟨_,b1,b2,b3⟩ | ⟨b1,b2⟩
   ·exact absurd a2 b3
   ·rw[a1,b1]
def Ext.mut(h:H a=some o)(ht:∀ys,o≠.tup ys)(hf:∀w u,o≠.frz w u):Ext H (upd H a o') :=
 ⟨λb ys q=>by rw[iC (λe=>by subst e;rw[h]at q;exact ht _ (aeX q))];exact q,
  λb w u q=>by rw[iC (λe=>by subst e;rw[h]at q;exact hf _ _ (aeX q))];exact q⟩
def aU.put(h:aU K μ H st)(hn:st[n]? = some mo)(hm:mo.mut=true)(Mw:Sq.mut=true)(ha:μ[n]? = some a)(g:Ext H (upd H a o'))(new:fX K μ (upd H a o') a Sq):aU K μ (upd H a o') (st.set n Sq):=by
 have hl:=(gf.mp hn).1;refine⟨by simp[h.len],λk ok e=>?_,λi j b oi oj ei ej mi mj hi hj=>?_⟩
 ·by_cases hk:n=k
  ·subst hk;rw[k_ hl]at e;cases e;exact⟨a,ha,new⟩
  ·rw[gR hk]at e;obtain⟨b,h1,h2⟩:=h.at_ k ok e;refine⟨b,h1,h2.keep ⟨⟨[],by simp⟩,g⟩ λhmk u q=>?_⟩;rw[iC (λe2=>?_)]
   ·exact q
   ·subst e2;exact hk (h.uniq n k b mo ok hn e hm hmk ha h1)
 ·have key:∀(k:Nat) (ok:MO),(st.set n Sq)[k]? = some ok->ok.mut=true->∃ok',st[k]? = some ok'/\ok'.mut=true:=λk ok ek mk=>by
   by_cases hk:n=k
   ·subst hk;exact⟨mo,hn,hm⟩
   ·rw[gR hk]at ek;exact⟨ok,ek,mk⟩
  obtain⟨oi',ei',mi'⟩:=key i oi ei mi;obtain⟨oj',ej',mj'⟩:=key j oj ej mj;exact h.uniq i j b oi' oj' ei' ej' mi' mj' hi hj
end
def ExcAt(X:Cx)(μ:List Addr)(H:Hp)(x:Xc)(e:Value)(s:Shared):Prop :=
 ∃a C dx lo fl v,e=.ref a/\X.aeJ.heap.objs.size<=lo/\Xo lo a C dx fl H s.heap/\H dx=some (.xd [("at",v)])/\PySem.W.nsIn X.K mainGlobals (x.cls:Str)=some (some (.ref C))/\aq X.K μ H x.fld v
def vd(X:Cx)(μ:List Addr)(H:Hp)(x:Xc)(st:ak):Prop :=
 ∀(pins:List (Addr×Obj)) (σ':L2.St) (H':Hp) (μ':List Addr) (e:Value) (s':Shared),aZ μ H μ' H'->aU X.K μ' H' st->Inv X pins σ' H' s'->ExcAt X μ' H' x e s'->X.xe e s'
def vd.mono(g:aZ μ H μ1 H1)(h:vd X μ H x st):vd X μ1 H1 x st :=
 λpins σ' H' μ' e s' g'=>h pins σ' H' μ' e s' (g.trans g')
abbrev Rel(α β:Type):=List Addr->Hp->α->β->Prop
def bJ{α β:Type}(X:Cx)(μ:List Addr)(H:Hp)(rel:Rel α β)(Q:β->Hp->Prop)(r:R α):Prop:=match r with
 | .ok a st=>∀(b:β) (H':Hp) (μ':List Addr),aZ μ H μ' H'->aU X.K μ' H' st->rel μ' H' a b->Q b H'
 | .err x st=>vd X μ H x st
 | .bad=>False
section
variable  {α β γ δ:Type}{X:Cx}{μ μ1:List Addr}{H H1:Hp}{rel:Rel α β}{NZ:Rel γ δ}{Q Q':β->Hp->Prop}{r:R α}
def bJ.mono(g:aZ μ H μ1 H1)(h:bJ X μ H rel Q r):bJ X μ1 H1 rel Q r:=by
 cases r with
 | ok a st=>exact λb H' μ' g'=>h b H' μ' (g.trans g')
 | err x st=>exact vd.mono g h
 | bad=>exact h
def bJ.imp(h:bJ X μ H rel Q r)(k:∀b H',Q b H'->Q' b H'):bJ X μ H rel Q' r:=by
 cases r with
 | ok a st=>exact λb H' μ' g' h1 h2=>k b H' (h b H' μ' g' h1 h2)
 | err x st=>exact h
 | bad=>exact h
def Then(X:Cx)(μ:List Addr)(H:Hp)(rel:Rel α β)(NZ:Rel γ δ)(Q2:δ->Hp->Prop)(f:α->ak->R γ):β->Hp->Prop :=
 λb H1=>∃μ1 st1 a,aZ μ H μ1 H1/\aU X.K μ1 H1 st1/\rel μ1 H1 a b/\bJ X μ1 H1 NZ Q2 (f a st1)
def bJ.bind(h:bJ X μ H NZ Q2 (r.bind f)):bJ X μ H rel (Then X μ H rel NZ Q2 f) r:=by
 cases r with
 | ok a st=>exact λb H' μ' g h1 h2=>⟨μ',st,a,g,h1,h2,bJ.mono g h⟩
 | err x st=>exact h
 | bad=>exact h
def bJ.ret(h:bJ X μ H rel Q (.ok a st))(hs:aU X.K μ H st)(hr:rel μ H a b):Q b H:=h b H μ (.refl _ _) hs hr
end
abbrev lQ(X:Cx):Rel D V:=fun μ H d v=>aq X.K μ H d v
abbrev acR(X:Cx):Rel (List D) (List V):=fun μ H d v=>ao X.K μ H d v
abbrev zE:Rel Bool Bool:=λ_ _ a b=>a=b
abbrev acO:Rel (Option Int) (Option Int):=λ_ _ a b=>a=b
abbrev ME:=aM->ak->R D
abbrev MA:=aM->ak->R (List D)
abbrev MT:=aM->ak->R Bool
abbrev MP:=aM->ak->R (Option Int)
def tM(X:Cx)(m:ME):TE:=fun σ H Q=>∃μ env st,dD X.K μ H env σ/\aU X.K μ H st/\bJ X μ H (lQ X) Q (m env st)
def tMA(X:Cx)(m:MA):TA:=fun σ H Q=>∃μ env st,dD X.K μ H env σ/\aU X.K μ H st/\bJ X μ H (acR X) Q (m env st)
def tMT(X:Cx)(m:MT):TT:=fun σ H Q=>∃μ env st,dD X.K μ H env σ/\aU X.K μ H st/\bJ X μ H zE Q (m env st)
def tMP(X:Cx)(m:MP):TO:=fun σ H Q=>∃μ env st,dD X.K μ H env σ/\aU X.K μ H st/\bJ X μ H acO Q (m env st)
def JE(X:Cx)(e:Expr)(m:ME):Prop:=PE X e (tM X m)
def JT(X:Cx)(e:Expr)(m:MT):Prop:=PT X e (tMT X m)
def JA(X:Cx)(es:List Expr)(m:MA):Prop:=PA X es (tMA X m)
def JP(X:Cx)(e:Option Expr)(m:MP):Prop:=PO X e (tMP X m)
section
variable  {X:Cx}{e a b c:Expr}{es:List Expr}{t:TE}{ma mb mc:ME}{mA:MA}{pos:Pos}
def JE.of(h:PE X e t)(k:∀σ H Q,tM X m σ H Q->t σ H Q):JE X e m:=λpins s σ H Q I q=>h pins s σ H Q I (k σ H Q q)
def JT.of{t:TT}{m:MT}(h:PT X e t)(k:∀σ H Q,tMT X m σ H Q->t σ H Q):JT X e m:=λpins s σ H Q I q=>h pins s σ H Q I (k σ H Q q)
def JA.of{t:TA}{m:MA}(h:PA X es t)(k:∀σ H Q,tMA X m σ H Q->t σ H Q):JA X es m:=λpos pins s σ H Q I q=>h pos pins s σ H Q I (k σ H Q q)
def JP.of{o:Option Expr}{t:TO}{m:MP}(h:PO X o t)(k:∀σ H Q,tMP X m σ H Q->t σ H Q):JP X o m:=λpins s σ H Q I q=>h pins s σ H Q I (k σ H Q q)
def vr(i:Nat):ME:=λenv st=>match env[i]? with | some (some d)=>.ok d st | _=>.bad
def ct(d:D):ME:=λ_ st=>.ok d st
def FZ(i:Nat){pos:Pos}(hN:X.N[i]? = some x:=by rfl)(hv:Vis X.env.scope x:=by first | exact Or.inl rfl | exact Or.inr (Or.inl rfl) | exact Or.inr (Or.inr rfl))(hd:(x==("__debug__":Str))=false:=by decide) 
  (xJ:(x==("__classdict__":Str))=false:=by decide):JE X (.Name x pos) (vr i):=JE.of (HW hN hv hd xJ) fun σ H Q zz=>by
 obtain⟨μ,env,st,he,hs,hp⟩:=zz;unfold vr at hp
 split at hp
 ·rename_i d e;obtain⟨v,h1,h2⟩:=he.at_ i d e;exact⟨v,h1,hp.ret hs h2⟩
 ·exact hp.elim
def Wo{i j pos}:JE X (.Constant (.int i) j pos) (ct (.int i)):=by
 refine JE.of Vt fun σ H Q zz=>?_;obtain⟨μ,env,st,he,hs,hp⟩:=zz;exact hp.ret hs (aq.aL.mpr rfl)
def abf{b j pos}:JE X (.Constant (.bool b) j pos) (ct (.bl b)):=by
 refine JE.of aaX fun σ H Q zz=>?_;obtain⟨μ,env,st,he,hs,hp⟩:=zz;exact hp.ret hs (aq.bj.mpr rfl)
def Wj{j pos}:JE X (.Constant .none j pos) (ct .non):=by
 refine JE.of Vq fun σ H Q zz=>?_;obtain⟨μ,env,st,he,hs,hp⟩:=zz;exact hp.ret hs (aq.bD.mpr rfl)
def Wh{j pos}(cs:List Nat)(h:x=strOf cs:=by decide +kernel):JE X (.Constant (.str x) j pos) (ct (.str cs)):=by
 refine JE.of Vo fun σ H Q zz=>?_;obtain⟨μ,env,st,he,hs,hp⟩:=zz;exact hp.ret hs (aq.aP.mpr (by rw[h]))
def aF(g:D->D->ak->R D)(a b:ME):ME:=λenv st=>(a env st).bind λx st1=>(b env st1).bind λy st2=>g x y st2
def zL(g:D->ak->R D)(a:ME):ME:=λenv st=>(a env st).bind λx st1=>g x st1
def rM(X:Cx)(g:D->D->ak->R D):R2:=λx y H Q=>∃μ st dx dy,aU X.K μ H st/\aq X.K μ H dx x/\aq X.K μ H dy y/\bJ X μ H (lQ X) Q (g dx dy st)
def rM1(X:Cx)(g:D->ak->R D):V->Hp->VK->Prop:=λx H Q=>∃μ st dx,aU X.K μ H st/\aq X.K μ H dx x/\bJ X μ H (lQ X) Q (g dx st)
def Mr(X:Cx)(g:List D->ak->R D):List V->Hp->VK->Prop:=λxs H Q=>∃μ st ds,aU X.K μ H st/\ao X.K μ H ds xs/\bJ X μ H (lQ X) Q (g ds st)
def Gg(X:Cx)(g:D->List D->ak->R D):V->List V->Hp->VK->Prop:=λx xs H Q=>∃μ st d ds,aU X.K μ H st/\aq X.K μ H d x/\ao X.K μ H ds xs/\bJ X μ H (lQ X) Q (g d ds st)
def dZ.weak(h:dZ X f r)(k:∀x y H Q,r' x y H Q->r x y H Q):dZ X f r':=λpins s σ H x y v u Q I rx ry q=>h pins s σ H x y v u Q I rx ry (k x y H Q q)
def Rz.weak(h:Rz X f r)(k:∀x H Q,r' x H Q->r x H Q):Rz X f r':=λpins s σ H x v Q I rx q=>h pins s σ H x v Q I rx (k x H Q q)
def cB.weak(h:cB X f r)(k:∀x H Q,r' x H Q->r x H Q):cB X f r':=λpins s σ H x v Q I rx q=>h pins s σ H x v Q I rx (k x H Q q)
def rF.weak{id:String}{r r':V->List V->Hp->VK->Prop}(h:rF X id r)(k:∀x xs H Q,r' x xs H Q->r x xs H Q):rF X id r':=λpins s σ H x xs v us Q I rx rs q=>h pins s σ H x xs v us Q I rx rs (k x xs H Q q)
def Cy.weak(h:Cy X r)(k:∀x y H Q,r' x y H Q->r x y H Q):Cy X r':=λva sl pins s σ H x y v u Q I rx ry q=>h va sl pins s σ H x y v u Q I rx ry (k x y H Q q)
def yM.weak(h:yM X r)(k:∀x l u H Q,r' x l u H Q->r x l u H Q):yM X r':=λpins s σ H x v vl vu lo hi sl Q I rx hs pl pu q=>h pins s σ H x v vl vu lo hi sl Q I rx hs pl pu (k x lo hi H Q q)
def wB.weak{t t':Ls}(h:wB X t)(k:∀o i v H Q,t' o i v H Q->t o i v H Q):wB X t':=λpins s σ H o i v ov iv u Q I ro ri rv q=>h pins s σ H o i v ov iv u Q I ro ri rv (k o i v H Q q)
def ZQ(h:tM X (aF g ma mb) σ H Q):tM X ma σ H λx H1=>tM X mb σ H1 λy H2=>rM X g x y H2 Q:=by
 obtain⟨μ,env,st,he,hs,hp⟩:=h;refine⟨μ,env,st,he,hs,hp.bind.imp ?_⟩;rintro x H1 ⟨μ1,st1,d,g1,bB,hx,aR⟩;refine⟨μ1,env,st1,he.mono g1,bB,aR.bind.imp ?_⟩;rintro y H2 ⟨μ2,st2,d2,g2,ie,hy,dH⟩;exact⟨μ2,st2,d,d2,ie,hx.mono g2 _,hy,dH⟩
def Jz(ho:dZ X (binaryOp op) (rM X g))(ha:JE X a ma)(hb:JE X b mb):JE X (.BinOp a op b pos) (aF g ma mb) :=
 JE.of (aaU ho ha hb) fun σ H Q h=>ZQ h
def Ws(ho:dZ X (compareOp op) (rM X g))(ha:JE X a ma)(hb:JE X b mb)(hm:behindInMarks op b=false):JE X (.Compare a [op] [b] pos) (aF g ma mb) :=
 JE.of (O6 ho ha hb hm) fun σ H Q h=>ZQ h
def aa9(ho:Rz X (unaryOp op) (rM1 X g))(ha:JE X a ma):JE X (.UnaryOp op a pos) (zL g ma):=by
 refine JE.of (aaS ho ha) fun σ H Q zz=>?_;obtain⟨μ,env,st,he,hs,hp⟩:=zz;refine⟨μ,env,st,he,hs,hp.bind.imp λx H1 zz=>?_⟩;obtain⟨μ1,st1,d,g1,bB,hx,aR⟩:=zz;exact⟨μ1,st1,d,bB,hx,aR⟩
def fu(a:ME):MT:=λenv st=>(a env st).bind λx st1=>match x with | .bl b=>.ok b st1 | _=>.bad
def V_(ho:dZ X (compareOp op) (rM X g))(ha:JE X a ma)(hb:JE X b mb)(hm:behindInMarks op b=false):JT X (.Compare a [op] [b] pos) (fu (aF g ma mb)):=by
 refine JT.of (Oe ho ha hb hm) fun σ H Q zz=>?_;obtain⟨μ,env,st,he,hs,hp⟩:=zz;refine ZQ ⟨μ,env,st,he,hs,hp.bind.imp ?_⟩;rintro x H1 ⟨μ1,st1,d,g1,bB,hx,aR⟩;cases d with
 | bl b=>exact⟨b,aq.bj.mp hx,aR.ret bB rfl⟩
 | _=>exact aR.elim
noncomputable def cT:D->ak->Option Bool
 | .non,_=>some false
 | .bl b,_=>some b
 | .int i,_=>some (i != 0)
 | .str cs,_=>if cs.length<=1000000 then some (!cs.isEmpty) else none
 | .tup ds,_=>some (!ds.isEmpty)
 | .loc n,st=>match st[n]? with
  | some (.lst ds)=>some (!ds.isEmpty)
  | some (.frz ds)=>some (!ds.isEmpty)
  | _=>none
def qm(a:ME):MT:=λenv st=>(a env st).bind λx st1=>match cT x st1 with | some b=>.ok b st1 | none=>.bad
def yf(h:n<=1000000):n<=sizeLine:=kh h (by decide)
def aU.lst{K:PySem.W.Frag}{μ:List Addr}{H:Hp}{st:ak}{n:Nat}{ds:List D}(h:aU K μ H st)(e:st[n]? = some (.lst ds)):∃p xs,μ[n]? = some p/\H p=some (.lst xs)/\ao K μ H ds xs:=by
 obtain⟨p,h1,xs,h2,h3⟩:=h.at_ n _ e;exact⟨p,xs,h1,h2,h3⟩
noncomputable def aA(st:ak)(n:Nat):Option (List D):=match st[n]? with
 | some (.lst ds)=>some ds
 | some (.frz ds)=>some ds
 | _=>none
def aU.items{K:PySem.W.Frag}{μ:List Addr}{H:Hp}{st:ak}{n:Nat}{ds:List D}(h:aU K μ H st)(e:aA st n=some ds):∃p xs,μ[n]? = some p/\ou K H p xs/\ao K μ H ds xs:=by
 unfold aA at e
 split at e
 ·rename_i es q;cases e;obtain⟨p,xs,h1,h2,h3⟩:=h.lst q;exact⟨p,xs,h1,ou.of h2,h3⟩
 ·rename_i es q;cases e;obtain⟨p,h1,xs,h2,h3⟩:=h.at_ n _ q;exact⟨p,xs,h1,h2.sqL,h3⟩
 ·cases e
def ao.isEmpty(h:ao K μ H ds xs):ds.isEmpty=xs.isEmpty:=by
 have:=h.length;cases ds<;>cases xs<;>simp_all
def Ni{d:D}{st:ak}{b:Bool}{μ:List Addr}{H:Hp}{v:V}(h:cT d st=some b)(hs:aU X.K μ H st)(hv:aq X.K μ H d v):XF X.K v H b:=by
 cases d with
 | non=>rw[aq.bD]at hv;subst hv;cases h;rfl
 | bl c=>rw[aq.bj]at hv;subst hv;cases h;rfl
 | int i=>rw[aq.aL]at hv;subst hv;cases h;rfl
 | str cs =>
  rw[aq.aP]at hv;subst hv;simp only[cT]at h
  split at h
  ·rename_i hl;cases h;have e:(strOf cs).length=cs.length:=by simp[Str.length,strOf]
   refine⟨by rw[e];exact yf hl,?_⟩;rw[e];cases cs<;>simp;omega
  ·cases h
 | tup ds =>
  rw[aq.aQ]at hv;obtain⟨a,xs,rfl,h1,h2⟩:=hv;cases h;exact .inr (.inl ⟨xs,h1.qK,by rw[h2.isEmpty]⟩)
 | loc n =>
  rw[aq.aK]at hv;obtain⟨a,h1,rfl⟩:=hv;have key:∃ds,aA st n=some ds/\b=!ds.isEmpty:=by
   unfold aA;simp only[cT]at h
   split at h
   ·rename_i q;cases h;exact⟨_,rfl,rfl⟩
   ·rename_i q;cases h;exact⟨_,rfl,rfl⟩
   ·cases h
  obtain⟨ds,q,rfl⟩:=key;obtain⟨p,xs,h3,h4,h5⟩:=hs.items q;rw[h1]at h3;cases h3;exact .inl ⟨xs,h4,by rw[h5.isEmpty]⟩
def Jp(ha:JE X a ma)(he:∀whole,isTrue a X.env whole=(do let v <-whole;standAt a.pos;holding [v] (truthy v)):=by intro _;rfl):JT X a (qm ma):=by
 refine JT.of (Hv ha he) fun σ H Q zz=>?_;obtain⟨μ,env,st,hE,hs,hp⟩:=zz;refine⟨μ,env,st,hE,hs,hp.bind.imp ?_⟩;rintro x H1 ⟨μ1,st1,d,g1,bB,hx,aR⟩;cases e:cT d st1 with
 | none=>simp only[e]at aR;exact aR.elim
 | some b=>simp only[e]at aR;exact⟨b,Ni e bB hx,aR.ret bB rfl⟩
def JW(X:Cx)(e:Expr)(m:MT):Prop:=PW X e (tMT X m)
def JW.jt(h:JW X e m):JT X e m:=PW.pt h
def JW.of{t:TT}{m:MT}(h:PW X e t)(k:∀σ H Q,tMT X m σ H Q->t σ H Q):JW X e m:=λw pins s σ H Q I q=>h w pins s σ H Q I (k σ H Q q)
def oR(a b:MT):MT:=λenv st=>(a env st).bind λx st1=>if x then b env st1 else .ok false st1
def O_(a b:MT):MT:=λenv st=>(a env st).bind λx st1=>if x then .ok true st1 else b env st1
def vU(a:MT):MT:=λenv st=>(a env st).bind λx st1=>.ok (!x) st1
variable  {ta tb tc:MT}{rest:List Expr}
def Qd(ha:JT X a ta):JW X (.BoolOp .And [a] pos) ta:=Oa ha
def V8(ha:JT X a ta):JW X (.BoolOp .Or [a] pos) ta:=Va ha
def Jo(ha:JT X a ta)(hb:JW X (.BoolOp .And (b::rest) pos) tb):JW X (.BoolOp .And (a::b::rest) pos) (oR ta tb):=by
 refine JW.of (Vb ha hb) fun σ H Q zz=>?_;obtain⟨μ,env,st,hE,hs,hp⟩:=zz;refine⟨μ,env,st,hE,hs,hp.bind.imp ?_⟩;rintro x H1 ⟨μ1,st1,d,g1,bB,rfl,aR⟩;cases d with
 | true=>exact yx ⟨μ1,env,st1,hE.mono g1,bB,aR⟩
 | false=>exact yz (aR.ret bB rfl)
def Sx(ha:JT X a ta)(hb:JW X (.BoolOp .Or (b::rest) pos) tb):JW X (.BoolOp .Or (a::b::rest) pos) (O_ ta tb):=by
 refine JW.of (aaM ha hb) fun σ H Q zz=>?_;obtain⟨μ,env,st,hE,hs,hp⟩:=zz;refine⟨μ,env,st,hE,hs,hp.bind.imp ?_⟩;rintro x H1 ⟨μ1,st1,d,g1,bB,rfl,aR⟩;cases d with
 | true=>exact yx (aR.ret bB rfl)
 | false=>exact yz ⟨μ1,env,st1,hE.mono g1,bB,aR⟩
def V9(ha:JT X a ta):JT X (.UnaryOp .Not a pos) (vU ta):=by
 refine JT.of (Vc ha) fun σ H Q zz=>?_;obtain⟨μ,env,st,hE,hs,hp⟩:=zz;refine⟨μ,env,st,hE,hs,hp.bind.imp ?_⟩;rintro x H1 ⟨μ1,st1,d,g1,bB,rfl,aR⟩;exact aR.ret bB rfl
def xX(a b:ME):ME:=λenv st=>(a env st).bind λx st1=>match x with | .bl true=>b env st1 | .bl false=>.ok (.bl false) st1 | _=>.bad
def orV(a b:ME):ME:=λenv st=>(a env st).bind λx st1=>match x with | .bl true=>.ok (.bl true) st1 | .bl false=>b env st1 | _=>.bad
def Wi{op}(h:JE X a m):JE X (.BoolOp op [a] pos) m:=Vp h
def Wt(ha:JE X a ma)(hb:JE X (.BoolOp .And (b::rest) pos) mb):JE X (.BoolOp .And (a::b::rest) pos) (xX ma mb):=by
 refine JE.of (Vw ha hb) fun σ H Q zz=>?_;obtain⟨μ,env,st,hE,hs,hp⟩:=zz;refine⟨μ,env,st,hE,hs,hp.bind.imp ?_⟩;rintro x H1 ⟨μ1,st1,d,g1,bB,hx,aR⟩;cases d with
 | bl c =>
  refine⟨c,aq.bj.mp hx,?_⟩;cases c with
  | true=>exact yx ⟨μ1,env,st1,hE.mono g1,bB,aR⟩
  | false=>exact yz (aR.ret bB (aq.bj.mpr rfl))
 | _=>exact aR.elim
def aa_(ha:JE X a ma)(hb:JE X (.BoolOp .Or (b::rest) pos) mb):JE X (.BoolOp .Or (a::b::rest) pos) (orV ma mb):=by
 refine JE.of (aaT ha hb) fun σ H Q zz=>?_;obtain⟨μ,env,st,hE,hs,hp⟩:=zz;refine⟨μ,env,st,hE,hs,hp.bind.imp ?_⟩;rintro x H1 ⟨μ1,st1,d,g1,bB,hx,aR⟩;cases d with
 | bl c =>
  refine⟨c,aq.bj.mp hx,?_⟩;cases c with
  | true=>exact yx (aR.ret bB (aq.bj.mpr rfl))
  | false=>exact yz ⟨μ1,env,st1,hE.mono g1,bB,aR⟩
 | _=>exact aR.elim
def Mu(c:MT)(a b:ME):ME:=λenv st=>(c env st).bind λx st1=>if x then a env st1 else b env st1
def abd(hc:JT X c tc)(ha:JE X a ma)(hb:JE X b mb):JE X (.IfExp c a b pos) (Mu tc ma mb):=by
 refine JE.of (HY hc ha hb) fun σ H Q zz=>?_;obtain⟨μ,env,st,hE,hs,hp⟩:=zz;refine⟨μ,env,st,hE,hs,hp.bind.imp ?_⟩;rintro x H1 ⟨μ1,st1,d,g1,bB,rfl,aR⟩;cases d with
 | true=>exact yx ⟨μ1,env,st1,hE.mono g1,bB,aR⟩
 | false=>exact yz ⟨μ1,env,st1,hE.mono g1,bB,aR⟩
def au:MA:=λ_ st=>.ok [] st
def aj(a:ME)(r:MA):MA:=λenv st=>(a env st).bind λx st1=>(r env st1).bind λxs st2=>.ok (x::xs) st2
def Yd:JA X [] au:=by
 refine JA.of zK fun σ H Q zz=>?_;obtain⟨μ,env,st,hE,hs,hp⟩:=zz;exact hp.ret hs ao.nil
def TY{e:Expr}{es:List Expr}{m:ME}{mA:MA}(h:JE X e m)(hr:JA X es mA)(hs:starEach (e::es) X.env=(false,eval e X.env)::starEach es X.env:=by rfl):JA X (e::es) (aj m mA):=by
 refine JA.of (Z4 h hr hs) fun σ H Q zz=>?_;obtain⟨μ,env,st,hE,hs,hp⟩:=zz;refine⟨μ,env,st,hE,hs,hp.bind.imp ?_⟩;rintro x H1 ⟨μ1,st1,d,g1,bB,hx,aR⟩;refine⟨μ1,env,st1,hE.mono g1,bB,aR.bind.imp ?_⟩;rintro xs H2 ⟨μ2,st2,ds,g2,ie,jY,dH⟩;exact dH.ret ie (ao.cons (hx.mono g2 _) jY)
def fM(m:MA):ME:=λenv st=>(m env st).bind λds st1=>if ds.length<=1000000 then .ok (.tup ds) st1 else .bad
def dw(m:MA):ME:=λenv st=>(m env st).bind λds st1=>if ds.length<=1000000 then .ok (.loc st1.length) (st1++[.lst ds]) else .bad
def Wg{x1}(h:JA X es mA):JE X (.Tuple es x1 pos) (fM mA):=by
 refine JE.of (Vn h) fun σ H Q zz=>?_;obtain⟨μ,env,st,hE,hs,hp⟩:=zz;refine⟨μ,env,st,hE,hs,hp.bind.imp ?_⟩;rintro xs H1 ⟨μ1,st1,ds,g1,bB,jY,aR⟩;dsimp only at aR
 split at aR
 ·rename_i hl;refine⟨by rw[<-jY.length];exact yf hl,λp hn=>?_⟩;exact aR _ _ μ1 (aZ.lay hn) (bB.lay hn) (aq.aQ.mpr ⟨p,xs,rfl,.inl qt,jY.mono (aZ.lay hn) _⟩)
 ·exact aR.elim
def bJ.newList(h:bJ X μ H (lQ X) Q (.ok (.loc st.length) (st++[.lst ds])))(hs:aU X.K μ H st)(hx:ao X.K μ H ds xs)(hn:H p=none) :
  Q (.ref p) (upd H p (.lst xs)):=by
 have g:aZ μ H (μ++[p]) (upd H p (.lst xs)):=aZ.new hn;refine h _ _ (μ++[p]) g (hs.new hn ⟨xs,qt,hx.mono g _⟩) (aq.aK.mpr ⟨p,?_,rfl⟩);rw[<-hs.len];simp
def Wk(h:JA X es mA):JE X (.List es pos) (dw mA):=by
 refine JE.of (Vr h) fun σ H Q zz=>?_;obtain⟨μ,env,st,hE,hs,hp⟩:=zz;refine⟨μ,env,st,hE,hs,hp.bind.imp ?_⟩;rintro xs H1 ⟨μ1,st1,ds,g1,bB,jY,aR⟩;dsimp only at aR
 split at aR
 ·rename_i hl;exact⟨by rw[<-jY.length];exact yf hl,λp hn=>aR.newList bB jY hn⟩
 ·exact aR.elim
end
section
variable  {X:Cx}{e a b c:Expr}{es:List Expr}{t:TE}{ma mb mc:ME}{mA:MA}{pos:Pos}
def zfc(cs:List Nat):(strOf cs).length=cs.length:=by simp[Str.length,strOf]
def Dj(a b:List Nat):strOf a++strOf b=strOf (a++b):=by
 show Str.append _ _=_;simp[Str.append,strOf]
def znm{a b:List Nat}:strOf a=strOf b↔a=b:=by
 constructor
 ·intro h;have:=congrArg (λs:Str=>s.cps.toList) h;simpa[strOf] using this
 ·intro h;rw[h]
noncomputable def aX:D->D->ak->R D
 | .int i,.int j,st=>.ok (.int (i+j)) st
 | .str a,.str b,st=>if a.length+b.length<=1000000 then .ok (.str (a++b)) st else .bad
 | .tup a,.tup b,st=>if a.length+b.length<=1000000 then .ok (.tup (a++b)) st else .bad
 | .loc m,.loc n,st=>match st[m]?,st[n]? with
  | some (.lst a),some (.lst b)=>if a.length+b.length<=1000000 then .ok (.loc st.length) (st++[.lst (a++b)]) else .bad
  | _,_=>.bad
 | _,_,_=>.bad
def zr4:dZ X (binaryOp .Add) (rM X aX):=by
 refine dZ.weak (dZ.or VF (dZ.or zqx (dZ.or Pj (dZ.or Im VD)))) ?_;rintro x y H Q ⟨μ,st,dx,dy,hs,hx,hy,hp⟩;cases dx with
 | int i =>
  cases dy with
  | int j =>
   rw[aq.aL]at hx hy;subst hx hy;exact .inl ⟨i,j,rfl,rfl,hp.ret hs (aq.aL.mpr rfl)⟩
  | _=>exact hp.elim
 | str i =>
  cases dy with
  | str j =>
   rw[aq.aP]at hx hy;subst hx hy;simp only[aX]at hp
   split at hp
   ·rename_i hl;refine .inr (.inl ⟨_,_,rfl,rfl,?_,?_⟩)
    ·rw[zfc,zfc];exact yf hl
    ·rw[Dj];exact hp.ret hs (aq.aP.mpr rfl)
   ·exact hp.elim
  | _=>exact hp.elim
 | tup i =>
  cases dy with
  | tup j =>
   rw[aq.aQ]at hx hy;obtain⟨p,xs,rfl,h1,h2⟩:=hx;obtain⟨q,ys,rfl,h3,h4⟩:=hy;simp only[aX]at hp
   split at hp
   ·rename_i hl;by_cases hx0:xs=[]
    ·subst hx0;have hi:i=[]:=by have:=h2.length;simpa using this
     subst hi;exact .inr (.inr (.inr (.inl ⟨p,q,ys,rfl,rfl,h1.qK,h3.qK,hp.ret hs (aq.aQ.mpr ⟨q,ys,rfl,h3,h4⟩)⟩)))
    ·refine .inr (.inr (.inl ⟨p,q,xs,ys,rfl,rfl,h1.qK,h3.qK,hx0,by rw[<-h2.length,<-h4.length];exact yf hl,λhy0=>?_,λ_ r hr=>?_⟩))
     ·subst hy0;have hj:j=[]:=by have:=h4.length;simpa using this
      subst hj;exact hp.ret hs (aq.aQ.mpr ⟨p,xs,rfl,by rw[gB];exact h1,by rw[gB];exact h2⟩)
     ·exact hp _ _ μ (aZ.lay hr) (hs.lay hr) (aq.aQ.mpr ⟨r,_,rfl,.inl qt,(h2.append h4).mono (aZ.lay hr) _⟩)
   ·exact hp.elim
  | _=>exact hp.elim
 | loc m =>
  cases dy with
  | loc n =>
   rw[aq.aK]at hx hy;obtain⟨p,h1,rfl⟩:=hx;obtain⟨q,h2,rfl⟩:=hy;simp only[aX]at hp
   split at hp
   ·rename_i da db e1 e2
    split at hp
    ·rename_i hl;obtain⟨p',xs,h3,h4,h5⟩:=hs.lst e1;obtain⟨q',ys,h6,h7,h8⟩:=hs.lst e2;rw[h1]at h3;cases h3;rw[h2]at h6;cases h6;exact .inr (.inr (.inr (.inr ⟨p,q,xs,ys,rfl,rfl,h4,h7,by rw[<-h5.length,<-h8.length];exact yf hl,λr hr=>hp.newList hs (h5.append h8) hr⟩)))
    ·exact hp.elim
   ·exact hp.elim
  | _=>exact hp.elim
 | _=>exact hp.elim
noncomputable def qR(C:Int->Int->Prop)[∀i j,Decidable (C i j)](g:Int->Int->D):D->D->ak->R D
 | .int i,.int j,st=>if C i j then .ok (g i j) st else .bad
 | _,_,_=>.bad
def Yj[∀i j,Decidable (C i j)](h:dZ X f (rI C gv))(hg:∀i j μ H,aq X.K μ H (g i j) (gv i j)):dZ X f (rM X (qR C g)):=by
 refine dZ.weak h ?_;rintro x y H Q ⟨μ,st,dx,dy,hs,hx,hy,hp⟩;cases dx with
 | int i =>
  cases dy with
  | int j =>
   rw[aq.aL]at hx hy;subst hx hy;simp only[qR]at hp
   split at hp
   ·rename_i hc;exact⟨i,j,rfl,rfl,hc,hp.ret hs (hg i j μ H)⟩
   ·exact hp.elim
  | _=>exact hp.elim
 | _=>exact hp.elim
def dZ.top(h:dZ X f (U9 gv)):dZ X f (rI (λ_ _=>True) gv):=by
 refine dZ.weak h λx y H Q zz=>?_;obtain⟨i,j,a,b,_,q⟩:=zz;exact⟨i,j,a,b,q⟩
def uD:D->D->ak->R D:=qR (λ_ _=>True) λi j=>.int (i - j)
def Pa:dZ X (binaryOp .Sub) (rM X uD):=Yj (dZ.top Vx) λi j μ H=>aq.aL.mpr rfl
def eZ:D->D->ak->R D:=qR (λi j=>(-(2 ^ 64)<i/\i<2 ^ 64)\/(-(2 ^ 64)<j/\j<2 ^ 64)) λi j=>.int (i*j)
def Pg:dZ X (binaryOp .Mult) (rM X eZ):=Yj (dZ.weak Vy λx y H Q h=>h) λi j μ H=>aq.aL.mpr rfl
def eQ:D->D->ak->R D:=qR (λ_ j=>0<j/\j<2 ^ 64) λi j=>.int (i / j)
def Ik:dZ X (binaryOp .FloorDiv) (rM X eQ):=Yj Ij λi j μ H=>aq.aL.mpr rfl
def fZ:D->D->ak->R D:=qR (λ_ j=>0<j) λi j=>.int (i % j)
def Ph:dZ X (binaryOp .Mod) (rM X fZ):=Yj Vz λi j μ H=>aq.aL.mpr rfl
def ltV:D->D->ak->R D:=qR (λ_ _=>True) λi j=>.bl (decide (i<j))
def Ih:dZ X (compareOp .Lt) (rM X ltV):=Yj (dZ.top aaY) λi j μ H=>aq.bj.mpr rfl
def Ka:D->D->ak->R D:=qR (λ_ _=>True) λi j=>.bl (decide (j<i))
def Ii:dZ X (compareOp .Gt) (rM X Ka):=Yj (dZ.top aaZ) λi j μ H=>aq.bj.mpr rfl
def VL:D->ak->R D
 | .int i,st=>.ok (.int (-i)) st
 | _,_=>.bad
def Nf:Rz X (unaryOp .USub) (rM1 X VL):=by
 refine Rz.weak Uq ?_;rintro x H Q ⟨μ,st,dx,hs,hx,hp⟩;cases dx with
 | int i=>rw[aq.aL]at hx;subst hx;exact⟨i,rfl,hp.ret hs (aq.aL.mpr rfl)⟩
 | _=>exact hp.elim
def fL:D->D->ak->R D
 | .non,.non,st=>.ok (.bl true) st
 | _,.non,st=>.ok (.bl false) st
 | _,_,_=>.bad
def uK:D->D->ak->R D
 | .non,.non,st=>.ok (.bl false) st
 | _,.non,st=>.ok (.bl true) st
 | _,_,_=>.bad
def aq.wD(h:aq K μ H d v):decide (v=.non)=(match d with | .non=>true | _=>false):=by
 cases d with
 | non=>rw[aq.bD]at h;subst h;rfl
 | bl b=>rw[aq.bj]at h;subst h;rfl
 | int b=>rw[aq.aL]at h;subst h;rfl
 | str b=>rw[aq.aP]at h;subst h;rfl
 | tup b=>rw[aq.aQ]at h;obtain⟨_,_,rfl,_⟩:=h;rfl
 | loc b=>rw[aq.aK]at h;obtain⟨_,_,rfl⟩:=h;rfl
def zkw:dZ X (compareOp .Is) (rM X fL):=by
 refine dZ.weak VB ?_;rintro x y H Q ⟨μ,st,dx,dy,hs,hx,hy,hp⟩;cases dy with
 | non =>
  rw[aq.bD]at hy;refine⟨hy,?_⟩;rw[hx.wD];cases dx<;>exact hp.ret hs (aq.bj.mpr rfl)
 | _=>cases dx<;>exact hp.elim
def zio:dZ X (compareOp .IsNot) (rM X uK):=by
 refine dZ.weak Pb ?_;rintro x y H Q ⟨μ,st,dx,dy,hs,hx,hy,hp⟩;cases dy with
 | non =>
  rw[aq.bD]at hy;refine⟨hy,?_⟩;rw[hx.wD];cases dx<;>exact hp.ret hs (aq.bj.mpr rfl)
 | _=>cases dx<;>exact hp.elim
def aN:D->D->ak->R D
 | .loc n,.int i,st=>match (aA st n).bind λds=>p_ ds i with | some d=>.ok d st | none=>.bad
 | .tup ds,.int i,st=>match p_ ds i with | some d=>.ok d st | none=>.bad
 | .str cs,.int i,st=>if cs.length<=1000000 then (match p_ cs i with | some c=>.ok (.str [c]) st | none=>.bad) else .bad
 | _,_,_=>.bad
def ao.p_(h:ao K μ H ds xs)(e:L2.p_ ds i=some d):∃v,L2.p_ xs i=some v/\aq K μ H d v:=by
 unfold L2.p_ at e ⊢;rw[<-h.length];cases q:zW ds.length i with
 | none=>rw[q]at e;cases e
 | some j =>
  rw[q]at e;exact h.get (by simpa using e)
def adw:Cy X (rM X aN):=by
 refine Cy.weak Wv ?_;rintro x y H Q ⟨μ,st,dx,dy,hs,hx,hy,hp⟩;cases dy with
 | int i =>
  rw[aq.aL]at hy;subst hy;cases dx with
  | loc n =>
   rw[aq.aK]at hx;obtain⟨p,h1,rfl⟩:=hx;simp only[aN]at hp;cases e:aA st n with
   | none=>rw[e]at hp;exact hp.elim
   | some ds =>
    rw[e]at hp;cases e2:L2.p_ ds i with
    | none=>simp only[mX,e2]at hp;exact hp.elim
    | some d =>
     simp only[mX,e2]at hp;obtain⟨p',xs,h3,h4,h5⟩:=hs.items e;rw[h1]at h3;cases h3;obtain⟨v,h6,h7⟩:=h5.p_ e2;exact .inl ⟨p,xs,i,v,rfl,rfl,h4,h6,hp.ret hs h7⟩
  | tup ds =>
   rw[aq.aQ]at hx;obtain⟨p,xs,rfl,h1,h2⟩:=hx;simp only[aN]at hp;cases e2:L2.p_ ds i with
   | none=>simp only[e2]at hp;exact hp.elim
   | some d =>
    simp only[e2]at hp;obtain⟨v,h6,h7⟩:=h2.p_ e2;exact .inr (.inl ⟨p,xs,i,v,rfl,rfl,h1.qK,h6,hp.ret hs h7⟩)
  | str cs =>
   rw[aq.aP]at hx;subst hx;simp only[aN]at hp
   split at hp
   ·rename_i hl;cases e2:L2.p_ cs i with
    | none=>simp only[e2]at hp;exact hp.elim
    | some c =>
     simp only[e2]at hp;exact .inr (.inr ⟨_,i,c,rfl,rfl,by rw[zfc];exact yf hl,by simpa[strOf] using e2,hp.ret hs (aq.aP.mpr rfl)⟩)
   ·exact hp.elim
  | _=>exact hp.elim
 | _=>cases dx<;>exact hp.elim
def abb(ha:JE X a ma)(hb:JE X b mb)(hs:Cw b:=by exact λ_ _=>rfl):JE X (.Subscript a b pos) (aF aN ma mb) :=
 JE.of (aaV adw ha hb hs) fun σ H Q h=>ZQ h
end
section
variable  {X:Cx}{e a b c:Expr}{es:List Expr}{t:TE}{ma mb mc:ME}{mA:MA}{pos p2:Pos}
def cut{α:Type}(xs:List α)(lo hi:Option Int):List α:=(xs.drop (HT.cO xs.length 0 lo)).take (HT.cO xs.length xs.length hi - HT.cO xs.length 0 lo)
def ao.cut{K:PySem.W.Frag}{μ:List Addr}{H:Hp}{ds:List D}{xs:List V}(h:ao K μ H ds xs)(lo hi:Option Int):ao K μ H (M.cut ds lo hi) (yJ xs lo hi):=by
 unfold M.cut yJ;rw[<-h.length];exact (h.drop _).take _
def Fd{α:Type}{xs:List α}{lo hi:Option Int}(h:HT.cO xs.length 0 lo=0/\HT.cO xs.length xs.length hi=xs.length):cut xs lo hi=xs:=by
 unfold cut;rw[h.1,h.2];simp
def Dr(i j:Nat):sliceRange (i:Int) (j:Int) 1=(List.range (j - i)).map λk=>i+k:=by
 unfold sliceRange;simp only[show (1:Int) > 0 by decide,if_true];have e:(if (i:Int)<(j:Int) then ((j:Int) - (i:Int)+1 - 1) / 1 else 0).toNat=j - i:=by
  split
  ·rw[Int.ediv_one];omega
  ·omega
 rw[e];refine kJ λk _=>?_;omega
def Ny(lo hi:Option Int)(n:Nat):Builtin.Str.strSliceIndices lo hi 1 n=(List.range (HT.cO n n hi - HT.cO n 0 lo)).map λk=>HT.cO n 0 lo+k:=by
 rw[<-Dr];unfold Builtin.Str.strSliceIndices;simp only[show (1:Int) > 0 by decide,if_true];congr 1
 ·cases lo with
  | none=>rfl
  | some v =>
   show max 0 (min (if v<0 then v+(n:Int) else v) (n:Int))=((if v<0 then (v+(n:Int)).toNat else min v.toNat n:Nat):Int)
   split<;>omega
 ·cases hi with
  | none=>rfl
  | some v =>
   show max 0 (min (if v<0 then v+(n:Int) else v) (n:Int))=((if v<0 then (v+(n:Int)).toNat else min v.toNat n:Nat):Int)
   split<;>omega
def HN(cs:List Nat)(i k:Nat):((List.range k).map λm=>i+m).filterMap (λm=>cs[m]?)=(cs.drop i).take k:=by
 induction k generalizing i with
 | zero=>simp
 | succ k ih =>
  rw[List.range_succ_eq_map,gr,pq,gO];have e:((λm=>i+m)∘Nat.succ)=λm=>(i+1)+m:=by funext m;simp;omega
  rw[e,ih (i+1)];cases q:cs[i]? with
  | none =>
   have hl:cs.length<=i:=List.getElem?_eq_none_iff.mp q;simp[q,nG hl,nG (Nat.le_succ_of_le hl)]
  | some c =>
   have hl:=(gf.mp q).1;have hc:=(gf.mp q).2;simp[q,nH hl,hc]
def Dp(cs:List Nat)(lo hi:Option Int):Txt.slice (strOf cs) lo hi=strOf (cut cs lo hi):=by
 have e:(strOf cs).length=cs.length:=by simp[Str.length,strOf]
 unfold Txt.slice;rw[e,Ny];have hj:HT.cO cs.length cs.length hi<=cs.length:=HT.Hb _ _ (gb _) hi;have q:((List.range (HT.cO cs.length cs.length hi - HT.cO cs.length 0 lo)).map λk=>HT.cO cs.length 0 lo+k).filterMap (λm=>(strOf cs).cps[m]?)=cut cs lo hi:=by
  have:(λ(m:Nat)=>(strOf cs).cps[m]?)=λ(m:Nat)=>cs[m]?:=by funext m;simp[strOf]
  rw[this,HN];rfl
 split
 ·rename_i h;rw[gH]at h;have h2:HT.cO cs.length cs.length hi - HT.cO cs.length 0 lo=cs.length:=by simpa using h.2
  have h3:cut cs lo hi=cs:=by
   unfold cut;rw[h2];by_cases hz:cs.length=0
   ·have:cs=[]:=nU.mp hz;subst this;simp
   ·have:HT.cO cs.length 0 lo=0:=by omega
    rw[this];simp
  rw[h3]
 ·rw[q]
def Am:D->Option Int->Option Int->ak->R D
 | .loc n,lo,hi,st=>match aA st n with | some ds=>.ok (.loc st.length) (st++[.lst (cut ds lo hi)]) | none=>.bad
 | .tup ds,lo,hi,st=>.ok (.tup (cut ds lo hi)) st
 | .str cs,lo,hi,st=>if cs.length<=1000000 then .ok (.str (cut cs lo hi)) st else .bad
 | _,_,_,_=>.bad
def rMS(X:Cx)(g:D->Option Int->Option Int->ak->R D):V->Option Int->Option Int->Hp->VK->Prop:=λx lo hi H Q=>∃μ st dx,aU X.K μ H st/\aq X.K μ H dx x/\bJ X μ H (lQ X) Q (g dx lo hi st)
def ac5:V->Option Int->Option Int->Hp->VK->Prop:=λx lo hi H Q=>∃cs,x=.str (strOf cs)/\cs.length<=sizeLine/\Q (.str (strOf (cut cs lo hi))) H
def UJ:yM X ac5:=by
 intro pins s σ H x v vl vu lo hi sl Q I rx hs pl pu h;obtain⟨cs,rfl,hz,q⟩:=h;obtain⟨t,rfl⟩:=rx;obtain⟨l,el,ml⟩:∃l:Option (Int×Tok),vl=partValue l/\l.map (·.1)=lo:=by
  cases pl with
  | none=>exact⟨none,rfl,rfl⟩
  | int i u=>exact⟨some (i,u),rfl,rfl⟩
 obtain⟨u,eu,mu⟩:∃l:Option (Int×Tok),vu=partValue l/\l.map (·.1)=hi:=by
  cases pu with
  | none=>exact⟨none,rfl,rfl⟩
  | int i u=>exact⟨some (i,u),rfl,rfl⟩
 subst el eu;have pX:s.heap.IsSlice sl l u none:=hs;refine⟨"str",_,F.slot_str_getitem.lookup,afs _ _ _,wpAny_getItem_str_slice (l:=l) (u:=u) (st:=none) pX rfl ?_⟩;have e:Txt.slice (strOf cs) lo hi=strOf (cut cs lo hi):=Dp cs lo hi;unfold Txt.slice at e;unfold sliceMade slicePicked;rw[ml,mu]
 split
 ·rename_i h;have h':((1:Int)==1 && (Builtin.Str.strSliceIndices lo hi 1 (strOf cs).length).length==(strOf cs).length)=true:=h;rw[aeT h']at e;exact⟨.str (strOf cs),H,I,⟨t,rfl⟩,by rw[<-e]at q;exact q⟩
 ·rename_i h;have h':¬ ((1:Int)==1 && (Builtin.Str.strSliceIndices lo hi 1 (strOf cs).length).length==(strOf cs).length)=true:=h;rw[aeU h']at e;have e':({ cps:=((Builtin.Str.strSliceIndices lo hi ((Option.map (·.1) (none:Option (Int×Tok))).getD 1) (strOf cs).length).filterMap λx=>(strOf cs).cps[x]?).toArray }:Str)=strOf (cut cs lo hi):=e;rw[e'];refine⟨?_,.str (strOf (cut cs lo hi)),H,I.tok _,⟨_,rfl⟩,q⟩;have:(strOf (cut cs lo hi)).length=(cut cs lo hi).length:=by simp[Str.length,strOf]
  rw[this];refine kh ?_ hz;unfold cut;rw[kI,mV];omega
def acF:yM X (rMS X Am):=by
 refine yM.weak (yM.or Nr (yM.or UG (yM.or Nq UJ))) ?_;rintro x lo hi H Q ⟨μ,st,dx,hs,hx,hp⟩;cases dx with
 | loc n =>
  rw[aq.aK]at hx;obtain⟨p,h1,rfl⟩:=hx;simp only[Am]at hp;cases e:aA st n with
  | none=>rw[e]at hp;exact hp.elim
  | some ds =>
   rw[e]at hp;obtain⟨p',xs,h3,h4,h5⟩:=hs.items e;rw[h1]at h3;cases h3;exact .inl ⟨p,xs,rfl,h4,λq hq=>hp.newList hs (h5.cut lo hi) hq⟩
 | tup ds =>
  rw[aq.aQ]at hx;obtain⟨p,xs,rfl,h1,h2⟩:=hx;by_cases hw:HT.cO xs.length 0 lo=0/\HT.cO xs.length xs.length hi=xs.length
  ·refine .inr (.inr (.inl ⟨p,xs,rfl,h1.qK,hw,hp.ret hs ?_⟩));rw[<-h2.length]at hw;rw[Fd hw];exact aq.aQ.mpr ⟨p,xs,rfl,h1,h2⟩
  ·exact .inr (.inl ⟨p,xs,rfl,h1.qK,hw,λq hq=>hp _ _ μ (aZ.lay hq) (hs.lay hq) (aq.aQ.mpr ⟨q,_,rfl,.inl qt,(h2.cut lo hi).mono (aZ.lay hq) _⟩)⟩)
 | str cs =>
  rw[aq.aP]at hx;subst hx;simp only[Am]at hp
  split at hp
  ·rename_i hl;exact .inr (.inr (.inr ⟨cs,rfl,yf hl,hp.ret hs (aq.aP.mpr rfl)⟩))
  ·exact hp.elim
 | _=>exact hp.elim
def Y4:MP:=λ_ st=>.ok none st
def Zf(m:ME):MP:=λenv st=>(m env st).bind λx st1=>match x with | .int i=>.ok (some i) st1 | _=>.bad
def Qg:JP X none Y4:=by
 refine JP.of Om fun σ H Q zz=>?_;obtain⟨μ,env,st,hE,hs,hp⟩:=zz;exact hp.ret hs rfl
def Qf(h:JE X e m):JP X (some e) (Zf m):=by
 refine JP.of (Ol h) fun σ H Q zz=>?_;obtain⟨μ,env,st,hE,hs,hp⟩:=zz;refine⟨μ,env,st,hE,hs,hp.bind.imp ?_⟩;rintro x H1 ⟨μ1,st1,d,g1,bB,hx,aR⟩;cases d with
 | int i=>exact⟨i,aq.aL.mp hx,aR.ret bB rfl⟩
 | _=>exact aR.elim
def UL(a:ME)(l h:MP):ME:=λenv st=>(a env st).bind λx st1=>(l env st1).bind λlo st2=>(h env st2).bind λhi ig=>Am x lo hi ig
def Jy(he:JE X e ma)(hl:JP X lo ml)(hu:JP X hi mh):JE X (.Subscript e (.Slice lo hi none p2) pos) (UL ma ml mh):=by
 refine JE.of (HX acF he hl hu) fun σ H Q zz=>?_;obtain⟨μ,env,st,hE,hs,hp⟩:=zz;refine⟨μ,env,st,hE,hs,hp.bind.imp ?_⟩;rintro x H1 ⟨μ1,st1,d,g1,bB,hx,aR⟩;refine⟨μ1,env,st1,hE.mono g1,bB,aR.bind.imp ?_⟩;rintro l H2 ⟨μ2,st2,l',g2,ie,rfl,dH⟩;refine⟨μ2,env,st2,(hE.mono g1).mono g2,ie,dH.bind.imp ?_⟩;rintro u H3 ⟨μ3,ig,u',g3,yC,rfl,zf⟩;exact⟨μ3,ig,d,yC,hx.mono (g2.trans g3) _,zf⟩
def bw(g:List D->ak->R D)(mA:MA):ME:=λenv st=>(mA env st).bind λds st1=>g ds st1
def zpv(h:tM X (bw g mA) σ H Q):tMA X mA σ H λvs H1=>Mr X g vs H1 Q:=by
 obtain⟨μ,env,st,hE,hs,hp⟩:=h;refine⟨μ,env,st,hE,hs,hp.bind.imp ?_⟩;rintro xs H1 ⟨μ1,st1,ds,g1,bB,hx,aR⟩;exact⟨μ1,st1,ds,bB,hx,aR⟩
def JH{x:Str}{p:Pos}{id:String}{g:List D->ak->R D}(hc:cB X (.builtin id) (Mr X g))(hg:Gl X x)(hm:X.mg x=none)(hv:bootBuiltins x=some (.builtin id))(ha:JA X (e::es) mA)(hn:x ≠ "__name__":=by decide)(qU:(x==("__debug__":Str))=false:=by decide)
  (he:starEach (e::es) X.env=(false,eval e X.env)::starEach es X.env:=by rfl) (oJ:(backTo pos (starEach es X.env)).any (·.1)=false:=by rfl):JE X (.Call (.Name x p) (e::es) [] pos) (bw g mA) :=
 JE.of (zsc hc hg hm hv ha hn qU he oJ) fun σ H Q h=>zpv h
def Eh{p:Pos}(hc:cB X (.type T) (Mr X g))(hg:Gl X x)(hm:X.mg x=none)(hv:bootBuiltins x=some (.type T))(ha:JA X (e::es) mA)(hn:x ≠ "__name__":=by decide)(qU:(x==("__debug__":Str))=false:=by decide) 
  (he:starEach (e::es) X.env=(false,eval e X.env)::starEach es X.env:=by rfl) (oJ:(backTo pos (starEach es X.env)).any (·.1)=false:=by rfl):JE X (.Call (.Name x p) (e::es) [] pos) (bw g mA) :=
 JE.of (DP hc hg hm hv ha hn qU he oJ) fun σ H Q h=>zpv h
end
inductive Out where
 | nx (env:aM) | rt (d:D) | bk (env:aM) | cn (env:aM)
abbrev MS:=aM->ak->R Out
def cz(X:Cx)(μ:List Addr)(H:Hp)(E:Ends)(r:R Out):Prop:=match r with
 | .ok (.nx env) st=>∀(σ':L2.St) (H':Hp) (μ':List Addr),aZ μ H μ' H'->aU X.K μ' H' st->dD X.K μ' H' env σ'->E.nx σ' H'
 | .ok (.rt d) st=>∀(v:V) (H':Hp) (μ':List Addr),aZ μ H μ' H'->aU X.K μ' H' st->aq X.K μ' H' d v->E.rt v H'
 | .ok (.bk env) st=>∀(σ':L2.St) (H':Hp) (μ':List Addr),aZ μ H μ' H'->aU X.K μ' H' st->dD X.K μ' H' env σ'->E.bk σ' H'
 | .ok (.cn env) st=>∀(σ':L2.St) (H':Hp) (μ':List Addr),aZ μ H μ' H'->aU X.K μ' H' st->dD X.K μ' H' env σ'->E.ct σ' H'
 | .err x st=>vd X μ H x st
 | .bad=>False
def Ut(X:Cx)(m:MS):TS:=λE σ H=>∃μ env st,dD X.K μ H env σ/\aU X.K μ H st/\cz X μ H E (m env st)
def JS(X:Cx)(s:Stmt)(m:MS):Prop:=PS X s (Ut X m)
def yS(X:Cx)(s:List Stmt)(m:MS):Prop:=yP X s (Ut X m)
section
variable  {X:Cx}{e a b c:Expr}{es:List Expr}{t:TE}{ma mb mc:ME}{mA:MA}{pos p2:Pos}{s:Stmt}{ss:List Stmt}{m m1 m2:MS}{μ μ1:List Addr}{H H1:Hp}{E E':Ends}{r:R Out}
def cz.mono(g:aZ μ H μ1 H1)(h:cz X μ H E r):cz X μ1 H1 E r:=by
 match r,h with
 | .ok (.nx _) _,h=>exact fun σ' H' μ' g'=>h σ' H' μ' (g.trans g')
 | .ok (.rt _) _,h=>exact fun σ' H' μ' g'=>h σ' H' μ' (g.trans g')
 | .ok (.bk _) _,h=>exact fun σ' H' μ' g'=>h σ' H' μ' (g.trans g')
 | .ok (.cn _) _,h=>exact fun σ' H' μ' g'=>h σ' H' μ' (g.trans g')
 | .err _ _,h=>exact vd.mono g h
 | .bad,h=>exact h
def JS.of{t:TS}(h:PS X s t)(k:∀E σ H,Ut X m E σ H->t E σ H):JS X s m:=λpins s σ H D I q=>h pins s σ H D I (k D σ H q)
def yS.of{t:TS}(h:yP X ss t)(k:∀E σ H,Ut X m E σ H->t E σ H):yS X ss m:=λpins s σ H D I q=>h pins s σ H D I (k D σ H q)
def cz.nx{env:aM}{st:ak}{σ:L2.St}(h:cz X μ H E (.ok (.nx env) st))(hs:aU X.K μ H st)(hE:dD X.K μ H env σ):E.nx σ H:=h σ H μ (.refl _ _) hs hE
def bN:MS:=λenv st=>.ok (.nx env) st
def aC(a b:MS):MS:=λenv st=>(a env st).bind λo st1=>match o with | .nx env1=>b env1 st1 | o=>.ok o st1
def retS(m:ME):MS:=λenv st=>(m env st).bind λd st1=>.ok (.rt d) st1
def eF(m:ME):MS:=λenv st=>(m env st).bind λ_ st1=>.ok (.nx env) st1
def iJ(c:MT)(a b:MS):MS:=λenv st=>(c env st).bind λx st1=>if x then a env st1 else b env st1
def Xz:MS:=λenv st=>.ok (.bk env) st
def zQ:yS X [] bN:=by
 refine yS.of Oh λE σ H zz=>?_;obtain⟨μ,env,st,hE,hs,hp⟩:=zz;exact hp.nx hs hE
def Jr:JS X (.Break pos) Xz:=by
 refine JS.of Hy λE σ H zz=>?_;obtain⟨μ,env,st,hE,hs,hp⟩:=zz;exact hp σ H μ (.refl _ _) hs hE
def FW(h:JS X s m):yS X [s] m:=Og h
def cz.seq(h:cz X μ H E (r.bind λo st1=>match o with | .nx env1=>m2 env1 st1 | o=>.ok o st1)):cz X μ H { E with nx:=Ut X m2 E } r:=by
 match r,h with
 | .ok (.nx env1) st1,h=>exact fun σ' H' μ' g hs hE=>⟨μ',env1,st1,hE,hs,cz.mono g h⟩
 | .ok (.rt _) _,h=>exact h
 | .ok (.bk _) _,h=>exact h
 | .ok (.cn _) _,h=>exact h
 | .err _ _,h=>exact h
 | .bad,h=>exact h
def lq(h1:JS X s m1)(h2:yS X ss m2):yS X (s::ss) (aC m1 m2):=by
 refine yS.of (Hw h1 h2) λE σ H zz=>?_;obtain⟨μ,env,st,hE,hs,hp⟩:=zz;exact⟨μ,env,st,hE,hs,cz.seq hp⟩
def cz.val{α β:Type}{rel:Rel α β}{r:R α}{f:α->ak->R Out}(h:cz X μ H E (r.bind f)):bJ X μ H rel (λb H1=>∃μ1 st1 a,aZ μ H μ1 H1/\aU X.K μ1 H1 st1/\rel μ1 H1 a b/\cz X μ1 H1 E (f a st1)) r:=by
 cases r with
 | ok a st=>exact λb H' μ' g h1 h2=>⟨μ',st,a,g,h1,h2,cz.mono g h⟩
 | err x st=>exact h
 | bad=>exact h
def ZR(h:JE X e ma):JS X (.Return (some e) pos) (retS ma):=by
 refine JS.of (Ve h) λE σ H zz=>?_;obtain⟨μ,env,st,hE,hs,hp⟩:=zz;refine⟨μ,env,st,hE,hs,hp.val.imp ?_⟩;rintro v H1 ⟨μ1,st1,d,g1,bB,hv,aR⟩;exact aR v H1 μ1 (.refl _ _) bB hv
def zpr(h:JE X e ma)(hs:swapsWith e none pos.line X.env=pure false:=by rfl):JS X (.Expr e pos) (eF ma):=by
 refine JS.of (Oi h hs) λE σ H zz=>?_;obtain⟨μ,env,st,hE,hs,hp⟩:=zz;refine⟨μ,env,st,hE,hs,hp.val.imp ?_⟩;rintro v H1 ⟨μ1,st1,d,g1,bB,hv,aR⟩;exact aR.nx bB (hE.mono g1)
def Bo{sa sb:List Stmt}{tc:MT}(hc:JT X c tc)(ha:yS X sa m1)(hb:yS X sb m2):JS X (.If c sa sb pos) (iJ tc m1 m2):=by
 refine JS.of (aaO hc ha hb) λE σ H zz=>?_;obtain⟨μ,env,st,hE,hs,hp⟩:=zz;refine⟨μ,env,st,hE,hs,hp.val.imp ?_⟩;rintro v H1 ⟨μ1,st1,d,g1,bB,rfl,aR⟩;cases d with
 | true=>exact yx ⟨μ1,env,st1,hE.mono g1,bB,aR⟩
 | false=>exact yz ⟨μ1,env,st1,hE.mono g1,bB,aR⟩
abbrev MG:=D->aM->ak->R aM
abbrev MJ:=List D->aM->ak->R aM
abbrev aaz(X:Cx):Rel aM L2.St:=fun μ H env σ=>dD X.K μ H env σ
def tMG(X:Cx)(m:MG):TG:=λv σ H Q=>∃μ env st d,dD X.K μ H env σ/\aU X.K μ H st/\aq X.K μ H d v/\bJ X μ H (aaz X) Q (m d env st)
def aam(X:Cx)(m:MJ):TJ:=λvs σ H Q=>∃μ env st ds,dD X.K μ H env σ/\aU X.K μ H st/\ao X.K μ H ds vs/\bJ X μ H (aaz X) Q (m ds env st)
def JG(X:Cx)(t:Expr)(m:MG):Prop:=PG X t (tMG X m)
def TQ(X:Cx)(ts:List Expr)(m:MJ):Prop:=ZM X ts (aam X m)
def JG.of{g:TG}{m:MG}(h:PG X e g)(k:∀v σ H Q,tMG X m v σ H Q->g v σ H Q):JG X e m:=λpins s σ H v u Q I r q=>h pins s σ H v u Q I r (k v σ H Q q)
def TQ.of{g:TJ}{m:MJ}(h:ZM X es g)(k:∀v σ H Q,aam X m v σ H Q->g v σ H Q):TQ X es m:=λpins s σ H v u Q I r q=>h pins s σ H v u Q I r (k v σ H Q q)
def aO(i:Nat):MG:=λd env st=>.ok (env.set i (some d)) st
def Ql(i:Nat)(hN:X.N.Nodup)(hi:X.N[i]? = some x:=by rfl)(hx:Loc X.env.scope x:=by first | exact Or.inl rfl | exact Or.inr rfl)(hf:X.fn x=true\/X.env.scope.names.lookup x=some .local:=by first | exact .inl rfl | exact .inr rfl | assumption):JG X (.Name x pos) (aO i):=by
 refine JG.of (Oz hN hi hx hf) λv σ H Q zz=>?_;obtain⟨μ,env,st,d,hE,hs,hv,hp⟩:=zz;exact hp.ret hs (hE.set hv)
def vY:MJ:=λds env st=>match ds with | []=>.ok env st | _=>.bad
def eG(g:MG)(r:MJ):MJ:=λds env st=>match ds with | d::ds=>(g d env st).bind λenv1 st1=>r ds env1 st1 | _=>.bad
def Qk:TQ X [] vY:=TQ.of Ox λvs σ H Q zz=>by
 obtain⟨μ,env,st,ds,hE,hs,hv,hp⟩:=zz;cases ds with
 | nil=>rw[ao]at hv;exact⟨hv,hp.ret hs hE⟩
 | cons _ _=>exact hp.elim
def Jx(h1:JG X e g)(h2:TQ X es gs)(hs:(assignEach (e::es) X.env).map (·.2)=assign e X.env::(assignEach es X.env).map (·.2):=by rfl):TQ X (e::es) (eG g gs) :=
 TQ.of (HS h1 h2 hs) λvs σ H Q zz=>by
 obtain⟨μ,env,st,ds,hE,hs,hv,hp⟩:=zz;cases ds with
 | nil=>exact hp.elim
 | cons d ds =>
  rw[ao]at hv;obtain⟨v,r,rfl,h3,h4⟩:=hv;refine⟨v,r,rfl,μ,env,st,d,hE,hs,h3,(bJ.bind hp).imp ?_⟩;rintro σ1 H1 ⟨μ1,st1,env1,g1,bB,hE1,aR⟩;exact⟨μ1,env1,st1,ds,hE1,bB,h4.mono g1 _,aR⟩
def ux(n:Nat)(g:MJ):MG:=λd env st=>match d with | .tup ds=>if ds.length=n then g ds env st else .bad | _=>.bad
def Wd{gs:MJ}{k:Nat}(n:Nat)(hc:X.calm=true)(h:TQ X es gs)(hn:(assignEach es X.env).length=n:=by rfl)(Em:(assignEach es X.env).findIdx? (·.1)=none:=by rfl):JG X (.Tuple es k pos) (ux n gs) :=
 JG.of (Vl hc h hn Em) λv σ H Q zz=>by
 obtain⟨μ,env,st,d,hE,hs,hv,hp⟩:=zz;cases d with
 | tup ds =>
  rw[aq.aQ]at hv;obtain⟨p,xs,rfl,h1,h2⟩:=hv;simp only[ux]at hp
  split at hp
  ·rename_i hl;exact⟨p,xs,rfl,h1.qK,by rw[<-h2.length];exact hl,μ,env,st,ds,hE,hs,h2,hp⟩
  ·exact hp.elim
 | _=>exact hp.elim
def yo:D->D->D->ak->R Unit
 | .loc n,.int i,d,st=>match st[n]? with
  | some (.lst ds)=>(match zW ds.length i with | some j=>.ok () (st.set n (.lst (ds.set j d))) | none=>.bad)
  | _=>.bad
 | _,_,_,_=>.bad
abbrev acN:Rel Unit Unit:=λ_ _ _ _=>True
def Ay(X:Cx)(g:D->D->D->ak->R Unit):Ls:=λo i v H Q=>∃μ st d1 d2 d3,aU X.K μ H st/\aq X.K μ H d1 o/\aq X.K μ H d2 i/\aq X.K μ H d3 v/\bJ X μ H acN (λ_=>Q) (g d1 d2 d3 st)
def uH(hs:aU X.K μ H st)(e:st[n]? = some (.lst ds))(hp:μ[n]? = some p)(hx:H p=some (.lst xs))(hy:ao X.K μ H ZD ys) :
  aZ μ H μ (upd H p (.lst ys))/\aU X.K μ (upd H p (.lst ys)) (st.set n (.lst ZD)):=by
 have g:Ext H (upd H p (.lst ys)):=Ext.mut hx (λ_ z=>nomatch z) (λ_ _ z=>nomatch z);have g':aZ μ H μ (upd H p (.lst ys)):=⟨⟨[],by simp⟩,g⟩;exact⟨g',hs.put e rfl rfl hp g ⟨ys,qt,hy.mono g' _⟩⟩
def aat:wB X (Ay X yo):=by
 refine wB.weak set_list ?_;rintro o i v H Q ⟨μ,st,d1,d2,d3,hs,h1,h2,h3,hp⟩;cases d1 with
 | loc n =>
  cases d2 with
  | int k =>
   rw[aq.aK]at h1;rw[aq.aL]at h2;obtain⟨p,hn,rfl⟩:=h1;subst h2;simp only[yo]at hp;cases e:st[n]? with
   | none=>rw[e]at hp;exact hp.elim
   | some mo =>
    cases mo with
    | lst ds =>
     rw[e]at hp;simp only at hp;obtain⟨p',xs,q1,q2,q3⟩:=hs.lst e;rw[hn]at q1;cases q1;cases e2:zW ds.length k with
     | none=>rw[e2]at hp;exact hp.elim
     | some j =>
      rw[e2]at hp;obtain⟨g,pX⟩:=uH hs e hn q2 (ao.set h3 j q3);exact⟨p,xs,k,j,rfl,rfl,q2,by rw[<-q3.length];exact e2,hp () _ μ g pX trivial⟩
    | _=>rw[e]at hp;exact hp.elim
  | _=>exact hp.elim
 | _=>exact hp.elim
def rY(g:D->D->D->ak->R Unit)(o i:ME):MG:=λd env st=>(o env st).bind λx st1=>(i env st1).bind λy st2=>(g x y d st2).bind λ_ ig=>.ok env ig
def Wf(adB:wB X (Ay X g))(ho:JE X o mo)(hi:JE X i mi) 
  (ha:∀v,assign (.Subscript o i pos) X.env v=(do
   let ov <-holding [v] (eval o X.env)
   let iv <-holding [v,ov] (eval i X.env)
   standAt pos
   holding [v,ov,iv] (setItem ov iv v)
   release [v,ov,iv] []):=by intro _;rfl):JG X (.Subscript o i pos) (rY g mo mi):=by
 refine JG.of (Vm ho hi adB ha) λv σ H Q zz=>?_;obtain⟨μ,env,st,d,hE,hs,hv,hp⟩:=zz;refine⟨μ,env,st,hE,hs,(bJ.bind hp).imp ?_⟩;rintro x H1 ⟨μ1,st1,dx,g1,bB,hx,aR⟩;refine⟨μ1,env,st1,hE.mono g1,bB,(bJ.bind aR).imp ?_⟩;rintro y H2 ⟨μ2,st2,dy,g2,ie,hy,dH⟩;refine⟨μ2,st2,dx,dy,d,ie,hx.mono g2 _,hy,(hv.mono g1 _).mono g2 _,(bJ.bind dH).imp ?_⟩;rintro _ H3 ⟨μ3,ig,_,g3,yC,_,zf⟩;exact zf.ret yC (((hE.mono g1).mono g2).mono g3)
def jC(m:ME)(g:MG):MS:=λenv st=>(m env st).bind λd st1=>(g d env st1).bind λenv1 st2=>.ok (.nx env1) st2
def Js{tg:Expr}{g:MG}(he:JE X e ma)(hg:JG X tg g)(hs:swapsWithSole [tg] e pos.line X.env=pure false:=by rfl)(hw:swappedStores [tg] e X.env=pure none:=by rfl)(h1:(assignEach [tg] X.env).map (·.2)=[assign tg X.env]:=by rfl):JS X (.Assign [tg] e pos) (jC ma g):=by
 refine JS.of (Vh he hg hs hw h1) λE σ H zz=>?_;obtain⟨μ,env,st,hE,hs,hp⟩:=zz;refine⟨μ,env,st,hE,hs,hp.val.imp ?_⟩;rintro x H1 ⟨μ1,st1,d,g1,bB,hx,aR⟩;refine⟨μ1,env,st1,d,hE.mono g1,bB,hx,aR.val.imp ?_⟩;rintro σ2 H2 ⟨μ2,st2,bf,g2,ie,Tf,dH⟩;exact dH.nx ie Tf
def aJ(i:Nat)(m:ME):MS:=jC m (aO i)
def RJ(i:Nat){x:Str}{pos':Pos}(he:JE X e ma)(hN:X.N.Nodup)(hi:X.N[i]? = some x:=by rfl)(hx:Loc X.env.scope x:=by first | exact Or.inl rfl | exact Or.inr rfl)(hs:swapsWith e (some (.Name x pos')) pos.line X.env=pure false:=by rfl)
  (hf:X.fn x=true\/X.env.scope.names.lookup x=some .local:=by first | exact .inl rfl | exact .inr rfl | assumption):JS X (.Assign [.Name x pos'] e pos) (aJ i ma):=by
 refine JS.of (Vd hN hi hx he hs hf) λE σ H zz=>?_;obtain⟨μ,env,st,hE,hs,hp⟩:=zz;refine⟨μ,env,st,hE,hs,hp.val.imp ?_⟩;rintro x H1 ⟨μ1,st1,d,g1,bB,hx,aR⟩;exact aR.nx bB ((hE.mono g1).set hx)
end
noncomputable def bh(c:MT)(b:MS):Nat->MS
 | 0,_,_=>.bad
 | n+1,env,st=>(c env st).bind λx st1=>if x then (b env st1).bind λo st2=>(match o with
   | .nx bf=>bh c b n bf st2
   | .cn bf=>bh c b n bf st2
   | .bk bf=>.ok (.nx bf) st2
   | .rt d=>.ok (.rt d) st2) else .ok (.nx env) st1
section
variable  {X:Cx}{e a b c:Expr}{es:List Expr}{t:TE}{ma mb mc:ME}{mA:MA}{pos p2:Pos}{s:Stmt}{ss body:List Stmt}{m m1 m2 mb:MS}{μ μ1:List Addr}{H H1:Hp}{E E':Ends}{r:R Out}{tc:MT}
theorem cz.loop{nxt:aM->ak->R Out}{N:L2.St->Hp->Prop}
  (h:cz X μ H E (r.bind λo st2=>(match o with
   | .nx bf=>nxt bf st2
   | .cn bf=>nxt bf st2
   | .bk bf=>.ok (.nx bf) st2
   | .rt d=>.ok (.rt d) st2)))
  (hN:∀bf st2 σ' H' μ',aZ μ H μ' H'->aU X.K μ' H' st2->dD X.K μ' H' bf σ'->cz X μ' H' E (nxt bf st2)->N σ' H') :
  cz X μ H { E with nx:=N,ct:=N,bk:=E.nx } r:=by
 match r,h with
 | .ok (.nx env1) st1,h=>exact fun σ' H' μ' g hs hE=>hN env1 st1 σ' H' μ' g hs hE (cz.mono g h)
 | .ok (.cn env1) st1,h=>exact fun σ' H' μ' g hs hE=>hN env1 st1 σ' H' μ' g hs hE (cz.mono g h)
 | .ok (.rt _) _,h=>exact h
 | .ok (.bk _) _,h=>exact h
 | .err _ _,h=>exact h
 | .bad,h=>exact h
def Jq(n:Nat)(hc:JT X c tc)(hb:yS X body mb)(hp:PassesOwn (model X.prog X.w) X.A X.env X.xe):JS X (.While c body [] pos) (bh tc mb n):=by
 refine JS.of (Hx hp hc hb) λE σ H h=>?_;refine⟨λk σ H=>Ut X (bh tc mb k) E σ H,⟨n,h⟩,?_⟩;rintro k σ H ⟨μ,env,st,hE,hs,hp⟩;cases k with
 | zero=>exact hp.elim
 | succ k =>
  refine⟨μ,env,st,hE,hs,(cz.val hp).imp ?_⟩;rintro v H1 ⟨μ1,st1,d,g1,bB,rfl,aR⟩;cases d with
  | false=>exact yz (aR.nx bB (hE.mono g1))
  | true =>
   refine yx ⟨fun σ' H'=>Ut X (bh tc mb k) E σ' H',fun σ' H' q=>⟨k,nT _,q⟩,μ1,env,st1,hE.mono g1,bB,?_⟩;exact cz.loop (nxt:=bh tc mb k) aR λbf st2 σ' H' μ' g ie Tf q=>⟨μ',bf,st2,Tf,ie,q⟩
abbrev Src:=List D×List (Nat×MO)
abbrev MI:=aM->ak->R Src
def ue(gs:List (Nat×MO))(st:ak):Prop:=∀g∈gs,st[g.1]? = some g.2
@[simp] def acb(st:ak):ue [] st:=λ_ h=>nomatch h
@[simp] def aa2(g:Nat×MO)(gs:List (Nat×MO))(st:ak):ue (g::gs) st↔st[g.1]? = some g.2/\ue gs st:=by simp[ue]
def oA(X:Cx)(μ:List Addr)(H:Hp)(J:It)(s:Src):Prop:=∀(H':Hp) (μ':List Addr) (st':ak),aZ μ H μ' H'->aU X.K μ' H' st'->ue s.2 st' ->
 (∀(i:Nat) (d:D),s.1[i]? = some d->J.go i H'/\∀x Cz,J.yld i H' x Cz->aZ μ' H' μ' Cz/\aU X.K μ' Cz st'/\aq X.K μ' Cz d x)/\J.stop s.1.length H'
abbrev acQ(X:Cx):Rel Src It:=fun μ H s J=>oA X μ H J s
def tMI(X:Cx)(m:MI):TI:=fun σ H Q=>∃μ env st,dD X.K μ H env σ/\aU X.K μ H st/\bJ X μ H (acQ X) (λJ H'=>Q J H') (m env st)
def JI(X:Cx)(tg iter:Expr)(m:MI):Prop:=PI X tg iter (tMI X m)
def JI.of{tg iter:Expr}{wi:TI}{m:MI}(h:PI X tg iter wi)(k:∀σ H Q,tMI X m σ H Q->wi σ H Q):JI X tg iter m:=λpins s σ H R I q=>h pins s σ H R I (k σ H R q)
open Classical in
def cg(g:MG)(b:MS)(gs:List (Nat×MO)):List D->MS
 | [],env,st=>if ue gs st then .ok (.nx env) st else .bad
 | d::r,env,st=>if ue gs st then (g d env st).bind λenv1 st1=>(b env1 st1).bind λo st2=>(match o with
   | .nx bf=>cg g b gs r bf st2
   | .cn bf=>cg g b gs r bf st2
   | .bk bf=>.ok (.nx bf) st2
   | .rt d=>.ok (.rt d) st2) else .bad
def je(mi:MI)(g:MG)(b:MS):MS:=λenv st=>(mi env st).bind λs st1=>cg g b s.2 s.1 env st1
def zR(hi:JI X tg iter mi)(hg:JG X tg g)(hb:yS X body mb)(hp:PassesOwn (model X.prog X.w) X.A X.env X.xe)(hc:X.calm=true) 
  (hs:∀x,foldedSetIterable iter X.env x=pure x:=by intro _;rfl):JS X (.For tg iter body [] pos) (je mi g mb):=by
 refine JS.of (Vf hp hc hi hg hb hs) λE σ H zz=>?_;obtain⟨μ,env,st,hE,hs,hp⟩:=zz;refine⟨μ,env,st,hE,hs,(cz.val hp).imp ?_⟩;rintro J H1 ⟨μ1,st1,s,g1,bB,hJ,aR⟩;refine⟨λi k σ H=>∃μ2 bf st2,aZ μ1 H1 μ2 H/\dD X.K μ2 H bf σ/\aU X.K μ2 H st2/\cz X μ2 H E (cg g mb s.2 (s.1.drop i) bf st2)/\i<=s.1.length/\k=s.1.length - i,
  ⟨_,μ1,env,st1,.refl _ _,hE.mono g1,bB,by simpa using aR,mD _,rfl⟩,?_⟩
 rintro i k σ2 H2 ⟨μ2,bf,st2,g2,Tf,ie,dH,hi,rfl⟩;by_cases vo:i<s.1.length
 ·have e1:s.1.drop i=s.1[i]::s.1.drop (i+1):=nH vo;rw[e1,cg]at dH;by_cases ok:ue s.2 st2
  ·rw[aeT ok]at dH;obtain⟨q1,q2⟩:=(hJ H2 μ2 st2 g2 ie ok).1 i s.1[i] (gM vo);refine .inr ⟨q1,fun σ' H'=>∃μ3 xN ig,aZ μ1 H1 μ3 H'/\dD X.K μ3 H' xN σ'/\aU X.K μ3 H' ig/\cz X μ3 H' E (cg g mb s.2 (s.1.drop (i+1)) xN ig),?_,?_⟩
   ·rintro σ' H' ⟨μ3,xN,ig,g3,hE3,yC,zf⟩;exact⟨s.1.length - (i+1),by omega,μ3,xN,ig,g3,hE3,yC,zf,by omega,rfl⟩
   ·intro x H3 hx;obtain⟨g3,yC,hd⟩:=q2 x H3 hx;refine⟨μ2,bf,st2,s.1[i],Tf.mono g3,yC,hd,(cz.val (cz.mono g3 dH)).imp ?_⟩;rintro σ4 H4 ⟨μ4,st4,abB,g4,hs4,hE4,hp4⟩;refine⟨μ4,abB,st4,hE4,hs4,?_⟩;exact cz.loop (nxt:=cg g mb s.2 (s.1.drop (i+1))) hp4 λadW Mq σ' H' μ' g5 hs5 hE5 q=>⟨μ',adW,Mq,((g2.trans g3).trans g4).trans g5,hE5,hs5,q⟩
  ·rw[aeU ok]at dH;exact dH.elim
 ·have e1:s.1.drop i=[]:=nG (by omega);rw[e1,cg]at dH;have e2:i=s.1.length:=by omega
  by_cases ok:ue s.2 st2
  ·rw[aeT ok]at dH;refine .inl ⟨by rw[e2];exact (hJ H2 μ2 st2 g2 ie ok).2,dH.nx ie Tf⟩
  ·rw[aeU ok]at dH;exact dH.elim
def jr(m:ME):MI:=λenv st=>(m env st).bind λd st1=>match d with
 | .loc n=>(match st1[n]? with
  | some (.lst ds)=>.ok (ds,[(n,.lst ds)]) st1
  | some (.frz ds)=>.ok (ds,[(n,.frz ds)]) st1
  | _=>.bad)
 | .tup ds=>.ok (ds,[]) st1
 | _=>.bad
def PI.or(h1:PI X tg l w1)(h2:PI X tg l w2):PI X tg l (fun σ H R=>w1 σ H R\/w2 σ H R):=λpins s σ H R I h=>h.elim (h1 pins s σ H R I) (h2 pins s σ H R I)
def Bu{st:ak}(ho:o=.lst ds\/o=.frz ds)(hp:μ[n]? = some p):oA X μ H (Itl X.K p) (ds,[(n,o)]):=by
 intro H' μ' st' g hs ok;have e:st'[n]? = some o:=(ok (n,o) (by simp));have e2:aA st' n=some ds:=by
  unfold aA;rcases ho with rfl | rfl<;>rw[e]
 obtain⟨p',xs,q1,q2,q3⟩:=hs.items e2;rw[g.get hp]at q1;cases q1;refine⟨λi d hd=>?_,xs,q2,Nat.le_of_eq q3.length.symm⟩;obtain⟨v,h1,h2⟩:=q3.get hd;refine⟨⟨xs,v,q2,h1⟩,?_⟩;rintro x Cz ⟨rfl,hx⟩;have:=hx xs q2;rw[h1]at this;cases this;exact⟨.refl _ _,hs,h2⟩
def Qs(hq:oG X.K H p xs)(hd:ao X.K μ H ds xs):oA X μ H (Itt X.K p) (ds,[]):=by
 intro H' μ' st' g hs ok;have En:=g.ext.qK hq;have yD:=hd.mono g ds;refine⟨λi d e=>?_,xs,En,Nat.le_of_eq hd.length.symm⟩;obtain⟨v,h1,h2⟩:=yD.get e;refine⟨⟨xs,v,En,h1⟩,?_⟩;rintro x Cz ⟨rfl,hx⟩;have:=hx xs En;rw[h1]at this;cases this;exact⟨.refl _ _,hs,h2⟩
def Wb(h:JE X l ma):JI X tg l (jr ma):=by
 refine JI.of (PI.or (Ov h) (Vi h)) fun σ H R hh=>?_

 obtain⟨μ,env,st,hE,hs,hp⟩:=hh;unfold jr at hp;cases hr:ma env st with
 | bad=>rw[hr]at hp;exact hp.elim
 | err x st1 =>
  rw[hr]at hp;refine .inl ⟨μ,env,st,hE,hs,?_⟩;rw[hr];exact hp
 | ok d st1 =>
  rw[hr,M.R.aB]at hp;cases d with
  | loc n =>
   simp only at hp;refine .inl ⟨μ,env,st,hE,hs,?_⟩;rw[hr];intro v H1 μ1 g1 bB hv;obtain⟨p,q1,rfl⟩:=aq.aK.mp hv;cases e:st1[n]? with
   | none=>rw[e]at hp;exact hp.elim
   | some mo =>
    cases mo with
    | lst ds =>
     rw[e]at hp;obtain⟨p',xs,r1,r2,r3⟩:=bB.lst e;rw[q1]at r1;cases r1;exact⟨p,rfl,⟨xs,ou.of r2⟩,hp _ _ _ g1 bB (Bu (st:=st1) (.inl rfl) q1)⟩
    | frz ds =>
     rw[e]at hp;obtain⟨p',r1,xs,r2,r3⟩:=bB.at_ n _ e;rw[q1]at r1;cases r1;exact⟨p,rfl,⟨xs,r2.sqL⟩,hp _ _ _ g1 bB (Bu (st:=st1) (.inr rfl) q1)⟩
    | _=>rw[e]at hp;exact hp.elim
  | tup ds =>
   refine .inr ⟨μ,env,st,hE,hs,?_⟩;rw[hr];intro v H1 μ1 g1 bB hv;obtain⟨p,xs,rfl,q1,q2⟩:=aq.aQ.mp hv;exact⟨p,rfl,⟨xs,q1.qK⟩,hp _ _ _ g1 bB (Qs q1.qK q2)⟩
  | _=>exact hp.elim
def jq(lo:Int)(n:Nat):List D:=(List.range n).map λ(k:Nat)=>.int (lo+k)
def dq(mA:MA):MI:=λenv st=>(mA env st).bind λds st1=>match ds with
 | [.int j]=>if -(2 ^ 62)<=j/\j<2 ^ 62 then .ok (jq 0 j.toNat,[]) st1 else .bad
 | _=>.bad
def Qu(lo:Int)(n:Nat):oA X μ H (Itr lo n) (jq lo n,[]):=by
 intro H' μ' st' g hs ok;refine⟨λi d e=>?_,by show n<=_;simp[jq]⟩;have hi:i<n:=by have:=(gf.mp e).1;simpa[jq] using this
 simp[jq,hi]at e;subst e;refine⟨hi,?_⟩;rintro x Cz ⟨rfl,rfl⟩;exact⟨.refl _ _,hs,aq.aL.mpr rfl⟩
def ao.one(h:ao K μ H [d] vs):∃v,vs=[v]/\aq K μ H d v:=by
 rw[ao]at h;obtain⟨v,r,rfl,q1,q2⟩:=h;rw[ao]at q2;subst q2;exact⟨v,rfl,q1⟩
def ao.two(h:ao K μ H [d1,d2] vs):∃v w,vs=[v,w]/\aq K μ H d1 v/\aq K μ H d2 w:=by
 rw[ao]at h;obtain⟨v,r,rfl,q1,q2⟩:=h;obtain⟨w,rfl,q3⟩:=ao.one q2;exact⟨v,w,rfl,q1,q3⟩
def Eg(ha:JA X [a] mA)(hg:Gl X "range")(hm:X.mg "range" = none)(hs:starEach [a] X.env=[(false,eval a X.env)]:=by rfl):JI X tg (.Call (.Name "range" p) [a] [] pos) (dq mA):=by
 refine JI.of (DN hg hm ha hs) fun σ H R zz=>?_;obtain⟨μ,env,st,hE,hs,hp⟩:=zz;refine⟨μ,env,st,hE,hs,(bJ.bind hp).imp ?_⟩;rintro vs H1 ⟨μ1,st1,ds,g1,bB,hv,aR⟩;dsimp only at aR
 split at aR
 ·split at aR
  ·rename_i hc;obtain⟨v,rfl,q1⟩:=ao.one hv;rw[aq.aL]at q1;subst q1;exact⟨_,rfl,hc.1,hc.2,aR _ _ _ (.refl _ _) bB (Qu 0 _)⟩
  ·exact aR.elim
 ·exact aR.elim
end
abbrev FD:=List D->ak->R D
def yO(K:PySem.W.Frag)(μ:List Addr)(H:Hp)(Q:VK)(r:R D):Prop:=match r with
 | .ok d st=>∀(v:V) (H':Hp) (μ':List Addr),aZ μ H μ' H'->aU K μ' H' st->aq K μ' H' d v->Q v H'
 | _=>False
def vh(K:PySem.W.Frag)(n:Nat)(fd:FD):Sp:=λvs H Q _=>vs.length=n/\∃μ ds st,ao K μ H ds vs/\aU K μ H st/\yO K μ H Q (fd ds st)
def startM(n:Nat)(ds:List D):aM:=ds.map some++List.replicate (n - ds.length) none
def bx(n:Nat)(m:MS):FD:=λds st=>(m (startM n ds) st).bind λo st1=>match o with
 | .rt d=>.ok d st1
 | .nx _=>.ok .non st1
 | _=>.bad
def ao.start(N:List Str)(h:ao K μ H ds vs):dD K μ H (startM N.length ds) (L2.start N vs):=by
 unfold startM L2.start;refine⟨by simp[h.length],λi d e=>?_⟩;rw[<-h.length];by_cases hi:i<ds.length
 ·rw[gK (by simpa using hi)]at e;rw[gK (by rw[gq,<-h.length];exact hi)];rw[gP]at e ⊢;cases q:ds[i]? with
  | none=>rw[q]at e;cases e
  | some d' =>
   rw[q]at e;cases e;obtain⟨v,q1,q2⟩:=h.get q;exact⟨v,by rw[q1];rfl,q2⟩
 ·rw[h_ (by simpa using hi)]at e;rw[List.getElem?_replicate]at e
  split at e<;>cases e
section
variable  {P:Program}{w:World}{K:PySem.W.Frag}{mg:Str->Option Value}{base:Heap}
def yG(F:CG K x qual st f fd)(S:cU N ps (aD st)) 
  (lV:∀(cdv:Value) (A:Around) (outer:List Env) (s:Shared) (H:Hp),cH k (A.deeper (PyProof.Rows.envOfC qual (aD st) s.heap.objs.size f cdv)) ->
   yS (uZ qj P w K mg base N qual (aD st) f cdv A outer s H E0).Iu (a_ st) m):cu P w K mg base qj (k+1) f fd ps (vh K ps.length (bx N.length m)):=by
 refine F.ok S (λvs H Q E h=>h.1) (λcdv A outer s H vs Q E hr h=>?_);obtain⟨hl,μ,ds,R4,hv,hs,hp⟩:=h;refine⟨_,lV cdv A outer s H hr,μ,startM N.length ds,R4,ao.start N hv,hs,?_⟩;unfold bx at hp;cases hr:m (startM N.length ds) R4 with
 | bad=>rw[hr]at hp;exact hp.elim
 | err x st1=>rw[hr]at hp;exact hp.elim
 | ok o st1 =>
  rw[hr]at hp;cases o with
  | rt d=>exact hp
  | nx env=>exact fun σ' H' μ' g pX _=>hp .non H' μ' g pX (aq.bD.mpr rfl)
  | bk env=>exact hp.elim
  | cn env=>exact hp.elim
end
section
variable  {X:Cx}{e:Expr}{es:List Expr}{mA:MA}{pos p:Pos}{x:Str}{k:Nat}{f:Addr}{fd:FuncData}{ps:List Str}{F:FD}{lW:List V}{ds:List Value}{dd:List D}
def R.sure{α:Type}(r:R α):R α:=match r with
 | .ok a st=>.ok a st
 | _=>.bad
@[simp] def R.ab2(a:α)(st:ak):(R.ok a st).sure=.ok a st:=dW rfl
def az(F:FD)(dd:List D)(mA:MA):ME:=λenv st=>(mA env st).bind λas st1=>(F (as++dd) st1).sure
def Qn(G:cu X.prog X.w X.K X.mg X.base qj k f fd ps (vh X.K ps.length F))(hr:cH k X.A)(hm:X.mg x=some (.ref f))(hk:PySem.W.keepIn X.K (.ref f)=true)(hb:Binds X.K fd ps ds)(hd:Vals lW ds)
  (hdd:∀μ H,ao X.K μ H dd lW) (ha:JA X (e::es) mA) (hlen:(e::es).length+lW.length=ps.length:=by rfl) (hg:Gl X x:=by rfl) (qU:(x==("__debug__":Str))=false:=by decide) (he:starEach (e::es) X.env=(false,eval e X.env)::starEach es X.env:=by rfl) (oJ:(backTo pos (starEach es X.env)).any (·.1)=false:=by rfl)
  (hA:∀env st as st1,mA env st=.ok as st1->as.length=(e::es).length:=by intros;rfl) :
  JE X (.Call (.Name x p) (e::es) [] pos) (az F dd mA):=by
 refine JE.of (O7 G hr hg hm hk hb hd Ba ha qU he oJ) fun σ H Q zz=>?_;obtain⟨μ,env,st,hE,hs,hp⟩:=zz;refine⟨μ,env,st,hE,hs,?_⟩;cases hr:mA env st with
 | bad=>unfold az at hp;rw[hr]at hp;exact hp
 | err y st1=>unfold az at hp;rw[hr]at hp;exact hp
 | ok as st1 =>
  unfold az at hp;rw[hr]at hp;intro vs H1 μ1 g1 bB hv;have zY:ao X.K μ1 H1 (as++dd) (vs++lW):=hv.append (hdd μ1 H1);refine⟨?_,μ1,as++dd,st1,zY,bB,?_⟩
  ·rw[gJ,<-hv.length,hA env st as st1 hr];exact hlen
  ·have dH:=bJ.mono g1 (show bJ X μ H (lQ X) Q (F (as++dd) st1).sure from hp);cases hF:F (as++dd) st1 with
   | ok d st2=>rw[hF]at dH;exact dH
   | err y st2=>rw[hF]at dH;exact dH.elim
   | bad=>rw[hF]at dH;exact dH.elim
end
mutual
def under(n:Nat):D->Prop
 | .loc k=>k<n
 | .tup ds=>bQ n ds
 | _=>True
def bQ(n:Nat):List D->Prop
 | []=>True
 | d::ds=>under n d/\bQ n ds
end
@[simp] def YQ(n:Nat):under n .non=True:=by simp[under]
@[simp] def aad(n:Nat)(b:Bool):under n (.bl b)=True:=by simp[under]
@[simp] def YS(n:Nat)(i:Int):under n (.int i)=True:=by simp[under]
@[simp] def YM(n:Nat)(c:List Nat):under n (.str c)=True:=by simp[under]
@[simp] def zod(n:Nat)(ds:List D):under n (.tup ds)=bQ n ds:=by simp[under]
@[simp] def zom(n k:Nat):under n (.loc k)=(k<n):=by simp[under]
@[simp] def Up(n:Nat):bQ n []=True:=by simp[bQ]
@[simp] def zii(n:Nat)(d:D)(ds:List D):bQ n (d::ds)=(under n d/\bQ n ds):=by simp[bQ]
def o9(n:Nat):MO->Prop
 | .lst ds=>bQ n ds
 | .frz ds=>bQ n ds
 | .dic kvs=>∀p∈kvs,under n p.2
 | .dkc kvs=>∀p∈kvs,under n p.2
 | .dkf kvs=>∀p∈kvs,under n p.2
 | .dtf kvs=>∀p∈kvs,under n p.2
 | .exc _ d=>under n d
 | .ins _ fs=>∀p∈fs,under n p.2
 | .tab _=>True
 | .clo _ _ ds=>bQ n ds
 | .hid=>True
mutual
theorem aq.under:∀(d:D) {v:V},aq K μ H d v->M.under μ.length d
 | .non,_,_=>by simp
 | .bl _,_,_=>by simp
 | .int _,_,_=>by simp
 | .str _,_,_=>by simp
 | .tup ds,_,h=>by
  obtain⟨a,xs,_,_,h2⟩:=aq.aQ.mp h;rw[zod];exact ao.bQ ds h2
 | .loc n,_,h=>by
  obtain⟨a,h1,_⟩:=aq.aK.mp h;rw[zom];exact (gf.mp h1).1
theorem ao.bQ:∀(ds:List D) {vs:List V},ao K μ H ds vs->M.bQ μ.length ds
 | [],_,_=>by simp
 | d::ds,_,h=>by
  rw[ao]at h;obtain⟨v,r,_,h1,h2⟩:=h;rw[zii];exact⟨aq.under d h1,ao.bQ ds h2⟩
end
mutual
theorem aq.down:∀(d:D) {v:V},aq K (μ++ν) H d v->M.under μ.length d->aq K μ H d v
 | .non,_,h,_=>by simpa[aq] using h
 | .bl _,_,h,_=>by simpa[aq] using h
 | .int _,_,h,_=>by simpa[aq] using h
 | .str _,_,h,_=>by simpa[aq] using h
 | .tup ds,_,h,u=>by
  obtain⟨a,xs,e,h1,h2⟩:=aq.aQ.mp h;rw[zod]at u;exact aq.aQ.mpr ⟨a,xs,e,h1,ao.down ds h2 u⟩
 | .loc n,_,h,u=>by
  obtain⟨a,h1,e⟩:=aq.aK.mp h;rw[zom]at u;rw[gK u]at h1;exact aq.aK.mpr ⟨a,h1,e⟩
theorem ao.down:∀(ds:List D) {vs:List V},ao K (μ++ν) H ds vs->M.bQ μ.length ds->ao K μ H ds vs
 | [],_,h,_=>by simpa[ao] using h
 | d::ds,_,h,u=>by
  rw[ao]at h ⊢;obtain⟨v,r,e,h1,h2⟩:=h;rw[zii]at u;exact⟨v,r,e,aq.down d h1 u.1,ao.down ds h2 u.2⟩
end
theorem aH.under:∀{ds:List (κ×D)} {vs:List (κ×V)},aH K μ H ds vs->∀p∈ds,M.under μ.length p.2
 | [],_,_,_,hp=>nomatch hp
 | (k,d)::ds,_,⟨v,r,e,h1,h2⟩,p,hp=>by
  rcases gj.mp hp with rfl | hp
  ·exact aq.under d h1
  ·exact aH.under h2 p hp
theorem aH.down:∀{ds:List (κ×D)} {vs:List (κ×V)},aH K (μ++ν) H ds vs->(∀p∈ds,M.under μ.length p.2)->aH K μ H ds vs
 | [],_,h,_=>h
 | (k,d)::ds,_,⟨v,r,e,h1,h2⟩,u=>⟨v,r,e,aq.down d h1 (u (k,d) (by simp)),aH.down h2 λp hp=>u p (kW _ hp)⟩
def fX.under(h:fX K μ H a o):o9 μ.length o:=by
 cases o with
 | lst ds=>obtain⟨xs,_,h2⟩:=h;exact ao.bQ ds h2
 | frz ds=>obtain⟨xs,_,h2⟩:=h;exact ao.bQ ds h2
 | dic ds=>obtain⟨xs,_,h2⟩:=h;exact h2.under
 | dkc ds=>obtain⟨xs,_,h2⟩:=h;exact h2.under
 | dkf ds=>obtain⟨xs,_,_,h2⟩:=h;exact h2.under
 | dtf ds=>obtain⟨xs,_,_,h2⟩:=h;exact h2.under
 | exc c d=>obtain⟨_,_,_,_,_,_,_,_,_,_,_,_,h7⟩:=h;exact aq.under d h7
 | ins c ds=>obtain⟨_,_,xs,_,_,h2⟩:=h;exact h2.under
 | tab x=>trivial
 | clo j l ds=>obtain⟨_,_,_,_,xs,_,_,_,_,_,h2⟩:=h;exact ao.bQ ds h2
 | hid=>trivial
def fX.down(h:fX K (μ++ν) H a o)(u:o9 μ.length o):fX K μ H a o:=by
 cases o with
 | lst ds=>obtain⟨xs,h1,h2⟩:=h;exact⟨xs,h1,ao.down ds h2 u⟩
 | frz ds=>obtain⟨xs,h1,h2⟩:=h;exact⟨xs,h1,ao.down ds h2 u⟩
 | dic ds=>obtain⟨xs,h1,h2⟩:=h;exact⟨xs,h1,h2.down u⟩
 | dkc ds=>obtain⟨xs,h1,h2⟩:=h;exact⟨xs,h1,h2.down u⟩
 | dkf ds=>obtain⟨xs,o,h1,h2⟩:=h;exact⟨xs,o,h1,h2.down u⟩
 | dtf ds=>obtain⟨xs,o,h1,h2⟩:=h;exact⟨xs,o,h1,h2.down u⟩
 | exc c d=>obtain⟨oe,C,dx,od,v,fs,h1,h2,h3,h4,h5,h6,h7⟩:=h;exact⟨oe,C,dx,od,v,fs,h1,h2,h3,h4,h5,h6,aq.down d h7 u⟩
 | ins c ds=>obtain⟨C,dx,xs,h0,h1,h2⟩:=h;exact⟨C,dx,xs,h0,h1,h2.down u⟩
 | tab x=>exact h
 | clo j l ds=>obtain⟨cl,pm,c',q9,vs,h1,h2,h3,h4,h5,h6⟩:=h;exact⟨cl,pm,c',q9,vs,h1,h2,h3,h4,h5,ao.down ds h6 u⟩
 | hid=>trivial
def fX.up(ν:List Addr)(h:fX K μ H a o):fX K (μ++ν) H a o:=h.keep ⟨⟨ν,rfl⟩,.refl H⟩ λ_ _ q=>q
def zh6{α:Type}{l l':List α}(h:l'.take l.length=l){n:Nat}{o:α}(e:l[n]? = some o):l'[n]? = some o:=by
 have hl:=(gf.mp e).1;rw[<-h,pI]at e;rw[aeT hl]at e;exact e
def aU.back{K:PySem.W.Frag}{μ ν:List Addr}{H H':Hp}{st st':ak}(h0:aU K μ H st)(h:aU K (μ++ν) H' st')(ht:st'.take st.length=st):aU K μ H' st:=by
 refine⟨h0.len,λn o e=>?_,λi j a oi oj ei ej mi mj hi hj=>?_⟩
 ·obtain⟨a,h1,h2⟩:=h.at_ n o (zh6 ht e);obtain⟨a0,h3,h4⟩:=h0.at_ n o e;have hn:n<μ.length:=by rw[h0.len];exact (gf.mp e).1
  rw[gK hn]at h1;exact⟨a,h1,h2.down h4.under⟩
 ·have up:∀k,μ[k]? = some a->(μ++ν)[k]? = some a:=λk hk=>by rw[gK (gf.mp hk).1];exact hk
  exact h.uniq i j a oi oj (zh6 ht ei) (zh6 ht ej) mi mj (up i hi) (up j hj)
def aU.abS{K:PySem.W.Frag}{μ ν:List Addr}{H H':Hp}{st st':ak}{k:Nat}{o:MO}{a:Addr}(h0:aU K μ H st)(h:aU K (μ++ν) H' st')(ht:st'.take st.length=st)(hk:st.length<=k)(e:st'[k]? = some o)(u:o9 st.length o)(ha:(μ++ν)[k]? = some a) :
  aU K (μ++[a]) H' (st++[o]):=by
 have hb:=h0.back h ht;obtain⟨a',q1,q2⟩:=h.at_ k o e;rw[ha]at q1;cases q1;have key:∀(n:Nat) (on:MO) (c:Addr),(st++[o])[n]? = some on->(μ++[a])[n]? = some c->(n<st.length/\st[n]? = some on/\μ[n]? = some c)\/(n=st.length/\on=o/\c=a):=λn on c e1 e2=>by
  by_cases hn:n<st.length
  ·rw[gK hn]at e1;rw[gK (by rw[h0.len];exact hn)]at e2;exact .inl ⟨hn,e1,e2⟩
  ·have hl:=(gf.mp e1).1;rw[gJ,mH]at hl;have en:n=st.length:=by omega
   subst en;rw[h_ (gb _)]at e1;rw[<-h0.len,h_ (gb _)]at e2;simp at e1 e2;exact .inr ⟨rfl,e1.symm,e2.symm⟩
 refine⟨by simp[h0.len],λn on e1=>?_,λi j c oi oj ei ej mi mj hi hj=>?_⟩
 ·have hn:n<(μ++[a]).length:=by
   have:=(gf.mp e1).1;simpa[h0.len] using this
  obtain⟨c,hc⟩:∃c,(μ++[a])[n]? = some c:=⟨_,gM hn⟩;rcases key n on c e1 hc with⟨h1,h2,h3⟩ | ⟨h1,rfl,rfl⟩
  ·obtain⟨c',h4,h5⟩:=hb.at_ n on h2;rw[h3]at h4;cases h4;exact⟨c,hc,h5.up _⟩
  ·exact⟨c,hc,(q2.down (by rw[h0.len];exact u)).up _⟩
 ·have up:∀k,μ[k]? = some c->(μ++ν)[k]? = some c:=λk hk=>by rw[gK (gf.mp hk).1];exact hk
  rcases key i oi c ei hi with⟨h1,h2,h3⟩ | ⟨h1,rfl,rfl⟩
  ·rcases key j oj c ej hj with⟨g1,g2,g3⟩ | ⟨g1,rfl,rfl⟩
   ·exact hb.uniq i j c oi oj h2 g2 mi mj h3 g3
   ·have:=h.uniq i k c oi oj (zh6 ht h2) e mi mj (up i h3) ha;omega
  ·rcases key j oj c ej hj with⟨g1,g2,g3⟩ | ⟨g1,_,_⟩
   ·have:=h.uniq j k c oj oi (zh6 ht g2) e mj mi (up j g3) ha;omega
   ·rw[h1,g1]
open Classical in
def gc(st:ak)(r:R D):R D:=match r with
 | .ok d st'=>if st'.take st.length=st/\under st.length d then .ok d st else (match d with
  | .loc k=>(match st'[k]? with
   | some o=>if st'.take st.length=st/\st.length<=k/\o9 st.length o then .ok (.loc st.length) (st++[o]) else .ok d st'
   | none=>.ok d st')
  | d=>.ok d st')
 | r=>r
def bA(F:FD):FD:=λds st=>gc st (F ds st)
def zqo(hs:aU K μ H st)(h:yO K μ H Q (gc st r)):yO K μ H Q r:=by
 cases r with
 | bad=>exact h
 | err x st'=>exact h
 | ok d st' =>
  unfold gc at h;dsimp only at h;by_cases c1:st'.take st.length=st/\under st.length d
  ·rw[aeT c1]at h;intro v H' μ' g pX hv;obtain⟨ν,rfl⟩:=g.pre;exact h v H' μ ⟨⟨[],by simp⟩,g.ext⟩ (hs.back pX c1.1) (aq.down d hv (by rw[hs.len];exact c1.2))
  ·rw[aeU c1]at h;cases d with
   | loc k =>
    dsimp only at h;cases e:st'[k]? with
    | none=>rw[e]at h;exact h
    | some o =>
     rw[e]at h;dsimp only at h;by_cases c2:st'.take st.length=st/\st.length<=k/\o9 st.length o
     ·rw[aeT c2]at h;intro v H' μ' g pX hv;obtain⟨ν,rfl⟩:=g.pre;obtain⟨a,h1,rfl⟩:=aq.aK.mp hv;refine h _ H' (μ++[a]) ⟨⟨[a],rfl⟩,g.ext⟩ (hs.abS pX c2.1 c2.2.1 e c2.2.2 h1) (aq.aK.mpr ⟨a,?_,rfl⟩);rw[<-hs.len];simp
     ·rw[aeU c2]at h;exact h
   | _=>exact h
def sO(h:vh K n (bA F) vs H Q E):vh K n F vs H Q E:=by
 obtain⟨hl,μ,ds,st,h1,h2,h3⟩:=h;exact⟨hl,μ,ds,st,h1,h2,zqo h2 h3⟩
def sJ(h:under st.length d):gc st (.ok d (st++g))=.ok d st:=by
 unfold gc;dsimp only;rw[aeT ⟨by simp,h⟩]
def z7(h:o9 st.length o):gc st (.ok (.loc (st.length+g.length)) (st++g++o::g'))=.ok (.loc st.length) (st++[o]):=by
 unfold gc;dsimp only;rw[aeU (by simp)];have e:(st++g++o::g')[st.length+g.length]? = some o:=by
  rw[h_ (by simp)];simp
 rw[e];dsimp only;rw[aeT ⟨by simp,by omega,h⟩]
section
variable  {X:Cx}{e a b c:Expr}{es:List Expr}{ma mb mc:ME}{mA:MA}{pos p2 p:Pos}
def wg:List D->ak->R D
 | [.str cs],st=>if cs.length<=1000000 then .ok (.int cs.length) st else .bad
 | [.tup ds],st=>.ok (.int ds.length) st
 | [.loc n],st=>match aA st n with | some ds=>.ok (.int ds.length) st | none=>.bad
 | _,_=>.bad
def zn8:cB X (.builtin "len") (Mr X wg):=by
 refine cB.weak (cB.or zmq zmf) ?_;rintro xs H Q ⟨μ,st,ds,hs,hv,hp⟩;unfold wg at hp
 split at hp
 ·rename_i cs
  split at hp
  ·rename_i hl;obtain⟨v,rfl,q⟩:=ao.one hv;rw[aq.aP]at q;subst q;exact .inl ⟨_,rfl,by rw[zfc];exact yf hl,by rw[zfc];exact hp.ret hs (aq.aL.mpr rfl)⟩
  ·exact hp.elim
 ·obtain⟨v,rfl,q⟩:=ao.one hv;obtain⟨p,ys,rfl,q1,q2⟩:=aq.aQ.mp q;exact .inr ⟨p,ys,rfl,.inr q1.qK,by rw[<-q2.length];exact hp.ret hs (aq.aL.mpr rfl)⟩
 ·rename_i n;cases e:aA st n with
  | none=>rw[e]at hp;exact hp.elim
  | some ds =>
   rw[e]at hp;obtain⟨v,rfl,q⟩:=ao.one hv;obtain⟨p,q1,rfl⟩:=aq.aK.mp q;obtain⟨p',ys,r1,r2,r3⟩:=hs.items e;rw[q1]at r1;cases r1;exact .inr ⟨p,ys,rfl,.inl r2,by rw[<-r3.length];exact hp.ret hs (aq.aL.mpr rfl)⟩
 ·exact hp.elim
def xG:List D->ak->R D
 | [.int i],st=>.ok (.int i) st
 | [.bl k],st=>.ok (.int (if k then 1 else 0)) st
 | _,_=>.bad
def Fo:cB X (.type "int") (Mr X xG):=by
 refine cB.weak Fp ?_;rintro xs H Q ⟨μ,st,ds,hs,hv,hp⟩;unfold xG at hp
 split at hp
 ·obtain⟨v,rfl,q⟩:=ao.one hv;rw[aq.aL]at q;subst q;exact .inl ⟨_,rfl,hp.ret hs (aq.aL.mpr rfl)⟩
 ·obtain⟨v,rfl,q⟩:=ao.one hv;rw[aq.bj]at q;subst q;exact .inr ⟨_,rfl,hp.ret hs (aq.aL.mpr rfl)⟩
 ·exact hp.elim
def oW:List D->ak->R D
 | [.tup ds],st=>.ok (.loc st.length) (st++[.lst ds])
 | [.loc n],st=>match aA st n with | some ds=>.ok (.loc st.length) (st++[.lst ds]) | none=>.bad
 | _,_=>.bad
def zrq:cB X (.type "list") (Mr X oW):=by
 refine cB.weak zm0 ?_;rintro xs H Q ⟨μ,st,ds,hs,hv,hp⟩;unfold oW at hp
 split at hp
 ·obtain⟨v,rfl,q⟩:=ao.one hv;obtain⟨p,ys,rfl,q1,q2⟩:=aq.aQ.mp q;exact⟨p,ys,rfl,.inr q1.qK,λl hl=>hp.newList hs q2 hl⟩
 ·rename_i n;cases e:aA st n with
  | none=>rw[e]at hp;exact hp.elim
  | some ds =>
   rw[e]at hp;obtain⟨v,rfl,q⟩:=ao.one hv;obtain⟨p,q1,rfl⟩:=aq.aK.mp q;obtain⟨p',ys,r1,r2,r3⟩:=hs.items e;rw[q1]at r1;cases r1;exact⟨p,ys,rfl,.inl r2,λl hl=>hp.newList hs r3 hl⟩
 ·exact hp.elim
noncomputable def R1:D->ak->Option String
 | .non,_=>some "NoneType"
 | .bl _,_=>some "bool"
 | .int _,_=>some "int"
 | .str _,_=>some "str"
 | .tup _,_=>some "tuple"
 | .loc n,st=>match st[n]? with
  | some (.lst _)=>some "list"
  | some (.frz _)=>some "list"
  | some (.dic _)=>some "dict"
  | some (.dkc _)=>some "dict"
  | _=>none
def JV{pins:List (Addr×Obj)}{σ:L2.St}{μ:List Addr}{H:Hp}{s:Shared}{A:Around}{E:Value->Shared->Prop}{Q:Value->Shared->Prop}{cv:Value}{k:Bool}{d:D}{st:ak}{x:V}{u:Value}{T:String}
  (I:Inv X pins σ H s) (hs:aU X.K μ H st) (hd:aq X.K μ H d x) (rx:RelV x u) (ht:R1 d st=some T) (e:PySem.W.kitOne X.K (.type T) cv=some k) (h:∀tk,Q (.bool k) { s with toks:=tk }) :
  wpAny (model X.prog X.w) A (call (.builtin "isinstance") [u,cv]) Q E s:=by
 cases d with
 | non=>rw[aq.bD]at hd;subst hd;cases ht;exact Yv I rx (.non) e h
 | bl y=>rw[aq.bj]at hd;subst hd;cases ht;exact Yv I rx (.bl y) e h
 | int y=>rw[aq.aL]at hd;subst hd;cases ht;exact Yv I rx (.int y) e h
 | str y=>rw[aq.aP]at hd;subst hd;cases ht;exact Yv I rx (.str _) e h
 | tup ds =>
  obtain⟨a,xs,rfl,q1,q2⟩:=aq.aQ.mp hd;cases ht;obtain⟨its,_,p,_⟩:=I.tuple (q1.qK);obtain⟨o,h1,h2,_⟩:=p;cases (show u=Value.ref a from rx);exact ae0 PySem.W.kitx_tuple I.qp ⟨o,h1,h2⟩ e (λz=>nomatch z) h
 | loc n =>
  obtain⟨a,q1,rfl⟩:=aq.aK.mp hd;simp only[R1]at ht;have lst:∀ds,aA st n=some ds->PySem.W.kitOne X.K (.type "list") cv=some k->wpAny (model X.prog X.w) A (call (.builtin "isinstance") [u,cv]) Q E s:=λds e1 e2=>by
   obtain⟨p',ys,r1,r2,r3⟩:=hs.items e1;rw[q1]at r1;cases r1;obtain⟨its,_,p,_⟩:=I.list r2;cases (show u=Value.ref a from rx);exact ae0 PySem.W.kitx_list I.qp p.isList.typeIs e2 (λz=>nomatch z) h
  cases e1:st[n]? with
  | none=>rw[e1]at ht;cases ht
  | some mo =>
   rw[e1]at ht;cases mo with
   | lst ds=>cases ht;exact lst ds (by unfold aA;rw[e1]) e
   | frz ds=>cases ht;exact lst ds (by unfold aA;rw[e1]) e
   | dic kvs =>
    cases ht;obtain⟨p',r1,ws,r2,_⟩:=hs.at_ n _ e1;rw[q1]at r1;cases r1;exact Yv I rx (.dT r2) e h
   | dkc kvs =>
    cases ht;obtain⟨p',r1,ws,r2,_⟩:=hs.at_ n _ e1;rw[q1]at r1;cases r1;exact Yv I rx (.dK r2) e h
   | _=>cases ht
def iG(t T:String):Bool:=t==T || (t == "bool" && T == "int")
def wG(T:String):D->ak->R D:=λd st=>match R1 d st with | some t=>.ok (.bl (iG t T)) st | none=>.bad
def wQ:List String:=["NoneType","bool","int","str","tuple","list","dict"]
def Ng{d:D}{st:ak}{t:String}(h:R1 d st=some t):t∈wQ:=by
 cases d with
 | loc n =>
  simp only[R1]at h
  split at h<;>cases h<;>decide
 | _=>cases h;decide
def rIs(X:Cx)(T:String):List V->Hp->VK->Prop:=λxs H Q=>∃μ st d x,xs=[x,.ty T]/\aU X.K μ H st/\aq X.K μ H d x/\bJ X μ H (lQ X) Q (wG T d st)
def Lb{T:String}(hT:∀t∈wQ,PySem.W.kitOne X.K (.type t) (.type T)=some (iG t T)):cB X (.builtin "isinstance") (rIs X T):=by
 rintro pins s σ H xs us Q I hr ⟨μ,st,d,x,rfl,hs,hd,hp⟩;obtain⟨u,w',rfl,r1,r2⟩:=vals2 hr;cases (show w'=Value.type T from r2);unfold wG at hp;cases e:R1 d st with
 | none=>rw[e]at hp;exact hp.elim
 | some t =>
  rw[e]at hp;exact JV I hs hd r1 e (hT t (Ng e)) λtk=>⟨.bl (iG t T),H,I.tok tk,rfl,hp.ret hs (aq.bj.mpr rfl)⟩
def P0{K:PySem.W.Frag}:∀t∈wQ,PySem.W.kitOne K (.type t) (.type "int")=some (iG t "int"):=by
 intro t ht;simp only[wQ,gj,kj,afc]at ht;rcases ht with rfl | rfl | rfl | rfl | rfl | rfl | rfl<;>rfl
def Jm{K:PySem.W.Frag}:∀t∈wQ,PySem.W.kitOne K (.type t) (.type "bool")=some (iG t "bool"):=by
 intro t ht;simp only[wQ,gj,kj,afc]at ht;rcases ht with rfl | rfl | rfl | rfl | rfl | rfl | rfl<;>rfl
def PX{K:PySem.W.Frag}:∀t∈wQ,PySem.W.kitOne K (.type t) (.type "str")=some (iG t "str"):=by
 intro t ht;simp only[wQ,gj,kj,afc]at ht;rcases ht with rfl | rfl | rfl | rfl | rfl | rfl | rfl<;>rfl
def Wn{T:String}{xT:Str}(hT:∀t∈wQ,PySem.W.kitOne X.K (.type t) (.type T)=some (iG t T))(h:JE X e ma)(hg:Gl X "isinstance")(hm:X.mg "isinstance" = none)(hgT:Gl X xT)(hmT:X.mg xT=none)
  (hv:bootBuiltins xT=some (.type T)) (hb:bootBuiltins "isinstance" = some (.builtin "isinstance")) (hnT:xT ≠ "__name__":=by decide) (hdT:(xT==("__debug__":Str))=false:=by decide)
  (bB:starEach [e,.Name xT p2] X.env=[(false,eval e X.env),(false,eval (.Name xT p2) X.env)]:=by rfl) (ie:starEach [.Name xT p2] X.env=[(false,eval (.Name xT p2) X.env)]:=by rfl) (oJ:(backTo pos (starEach [.Name xT p2] X.env)).any (·.1)=false:=by rfl) :
  JE X (.Call (.Name "isinstance" p) [e,.Name xT p2] [] pos) (zL (wG T) ma):=by
 refine JE.of (zsc (Lb hT) hg hm hb (Z4 h (Z4 (O8 (v:=.ty T) hgT hmT hv rfl hnT hdT) zK ie) bB) (by decide) (by decide) bB oJ) fun σ H Q zz=>?_;obtain⟨μ,env,st,hE,hs,hp⟩:=zz;refine⟨μ,env,st,hE,hs,(bJ.bind hp).imp ?_⟩;rintro x H1 ⟨μ1,st1,d,g1,bB,hx,aR⟩;exact⟨μ1,st1,d,x,rfl,bB,hx,aR⟩
end
end M
namespace M
open PySem PySem.Spec PySem.SeqAt L2
mutual
def jJ:D->D->Bool
 | .non,.non=>true
 | .bl a,.bl b=>a==b
 | .bl a,.int b=>(if a then 1 else 0)==b
 | .int a,.bl b=>a==(if b then 1 else 0)
 | .int a,.int b=>a==b
 | .str a,.str b=>a==b
 | .tup a,.tup b=>ju a b
 | _,_=>false
def ju:List D->List D->Bool
 | [],[]=>true
 | a::as,b::bs=>jJ a b && ju as bs
 | _,_=>false
end
mutual
def flat:D->Bool
 | .loc _=>false
 | .tup ds=>dC ds
 | _=>true
def dC:List D->Bool
 | []=>true
 | d::ds=>flat d && dC ds
end
mutual
def dep:D->Nat
 | .tup ds=>deps ds+1
 | _=>0
def deps:List D->Nat
 | []=>0
 | d::ds=>max (dep d) (deps ds)
end
mutual
def dU:D->D->Nat
 | .tup a,.tup b=>fW a b+1
 | _,_=>0
def fW:List D->List D->Nat
 | a::as,b::bs=>max (dU a b) (fW as bs)
 | _,_=>0
end
@[simp] def zpy(a b:List D):dU (.tup a) (.tup b)=fW a b+1:=by simp[dU]
@[simp] def abM(d:D):dU .non d=0:=by simp[dU]
@[simp] def acj(b:Bool)(d:D):dU (.bl b) d=0:=by simp[dU]
@[simp] def K8(b:Int)(d:D):dU (.int b) d=0:=by simp[dU]
@[simp] def K7(b:List Nat)(d:D):dU (.str b) d=0:=by simp[dU]
@[simp] def abN(b:Nat)(d:D):dU (.loc b) d=0:=by simp[dU]
@[simp] def ZK(d:D):dU d .non=0:=by cases d<;>simp[dU]
@[simp] def abO(b:Bool)(d:D):dU d (.bl b)=0:=by cases d<;>simp[dU]
@[simp] def ZL(b:Int)(d:D):dU d (.int b)=0:=by cases d<;>simp[dU]
@[simp] def ZJ(b:List Nat)(d:D):dU d (.str b)=0:=by cases d<;>simp[dU]
@[simp] def ZG(bs:List D):fW [] bs=0:=by simp[fW]
@[simp] def Xy(as:List D):fW as []=0:=by cases as<;>simp[fW]
@[simp] def zlp(a b:D)(as bs:List D):fW (a::as) (b::bs)=max (dU a b) (fW as bs):=by simp[fW]
@[simp] def acf(b:Bool):flat (.bl b)=true:=by simp[flat]
@[simp] def Ku(b:Int):flat (.int b)=true:=by simp[flat]
@[simp] def Ks(b:List Nat):flat (.str b)=true:=by simp[flat]
@[simp] def Kr(b:List D):flat (.tup b)=dC b:=by simp[flat]
@[simp] def ZC:dC []=true:=by simp[dC]
@[simp] def ze7(d:D)(ds:List D):dC (d::ds)=(flat d && dC ds):=by simp[dC]
@[simp] def ach:dep .non=0:=by simp[dep]
@[simp] def ad4(b:Bool):dep (.bl b)=0:=by simp[dep]
@[simp] def aci(b:Int):dep (.int b)=0:=by simp[dep]
@[simp] def acg(b:List Nat):dep (.str b)=0:=by simp[dep]
@[simp] def QX(b:List D):dep (.tup b)=deps b+1:=by simp[dep]
@[simp] def abF:deps []=0:=by simp[deps]
@[simp] def EY(d:D)(ds:List D):deps (d::ds)=max (dep d) (deps ds):=by simp[deps]
mutual
theorem Ci:∀(a b:D),dU a b<=dep a
 | .tup a,.tup b=>by rw[zpy,QX];exact Nat.succ_le_succ (zpp a b)
 | .tup a,.non=>by simp
 | .tup a,.bl _=>by simp
 | .tup a,.int _=>by simp
 | .tup a,.str _=>by simp
 | .tup a,.loc _=>by simp[dU]
 | .non,_=>by simp
 | .bl _,_=>by simp
 | .int _,_=>by simp
 | .str _,_=>by simp
 | .loc _,_=>by simp
theorem zpp:∀(a b:List D),fW a b<=deps a
 | [],b=>by simp
 | a::as,[]=>by simp
 | a::as,b::bs=>by
  rw[zlp,EY];have h1:=Ci a b;have h2:=zpp as bs;omega
end
def eqJ(as bs:List D)(j:Nat):Bool:=match as[j]?,bs[j]? with | some a,some b=>jJ a b | _,_=>true
theorem zjm:∀(as bs:List D),ju as bs=((List.range (min as.length bs.length)).all (eqJ as bs) && as.length==bs.length)
 | [],[]=>by simp[ju]
 | [],b::bs=>by simp[ju]
 | a::as,[]=>by simp[ju]
 | a::as,b::bs=>by
  rw[ju,zjm as bs];have e1:min (a::as).length (b::bs).length=min as.length bs.length+1:=by simp
  rw[e1,List.range_succ_eq_map,List.all_cons,List.all_map];have e2:((a::as).length==(b::bs).length)=(as.length==bs.length):=by
   rw[mz];simp
  rw[e2];have e3:eqJ (a::as) (b::bs) 0=jJ a b:=rfl;rw[e3,Bool.and_assoc]
  rfl
mutual
theorem zqd:∀(d:D),flat d=true->jJ d d=true
 | .non,_=>by simp[jJ]
 | .bl _,_=>by simp[jJ]
 | .int _,_=>by simp[jJ]
 | .str _,_=>by simp[jJ]
 | .tup ds,h=>by rw[jJ];exact zob ds (by simpa using h)
 | .loc _,h=>by simp[flat]at h
theorem zob:∀(ds:List D),dC ds=true->ju ds ds=true
 | [],_=>by simp[ju]
 | d::ds,h=>by
  rw[ze7,gH]at h;rw[ju,zqd d h.1,zob ds h.2];rfl
end
section
variable  {X:Cx}{pins:List (Addr×Obj)}{σ:L2.St}{μ:List Addr}{H:Hp}{s:Shared}
mutual
theorem zl8(I:Inv X pins σ H s):∀(d1 d2:D) {v:V},flat d1=true->flat d2=true->aq X.K μ H d1 v->aq X.K μ H d2 v->d1=d2
 | .non,d2,_,_,f2,h1,h2=>by
  rw[aq.bD]at h1;subst h1;cases d2 with
  | non=>rfl
  | bl _=>rw[aq.bj]at h2;cases h2
  | int _=>rw[aq.aL]at h2;cases h2
  | str _=>rw[aq.aP]at h2;cases h2
  | tup _=>obtain⟨_,_,q,_⟩:=aq.aQ.mp h2;cases q
  | loc _=>simp[flat]at f2
 | .bl b,d2,_,_,f2,h1,h2=>by
  rw[aq.bj]at h1;subst h1;cases d2 with
  | bl _=>rw[aq.bj]at h2;cases h2;rfl
  | non=>rw[aq.bD]at h2;cases h2
  | int _=>rw[aq.aL]at h2;cases h2
  | str _=>rw[aq.aP]at h2;cases h2
  | tup _=>obtain⟨_,_,q,_⟩:=aq.aQ.mp h2;cases q
  | loc _=>simp[flat]at f2
 | .int b,d2,_,_,f2,h1,h2=>by
  rw[aq.aL]at h1;subst h1;cases d2 with
  | int _=>rw[aq.aL]at h2;cases h2;rfl
  | non=>rw[aq.bD]at h2;cases h2
  | bl _=>rw[aq.bj]at h2;cases h2
  | str _=>rw[aq.aP]at h2;cases h2
  | tup _=>obtain⟨_,_,q,_⟩:=aq.aQ.mp h2;cases q
  | loc _=>simp[flat]at f2
 | .str b,d2,_,_,f2,h1,h2=>by
  rw[aq.aP]at h1;subst h1;cases d2 with
  | str _=>rw[aq.aP]at h2;injection h2 with h3;rw[znm.mp h3]
  | non=>rw[aq.bD]at h2;cases h2
  | bl _=>rw[aq.bj]at h2;cases h2
  | int _=>rw[aq.aL]at h2;cases h2
  | tup _=>obtain⟨_,_,q,_⟩:=aq.aQ.mp h2;cases q
  | loc _=>simp[flat]at f2
 | .tup as,d2,_,f1,f2,h1,h2=>by
  obtain⟨a,xs,rfl,q1,q2⟩:=aq.aQ.mp h1;cases d2 with
  | tup bs =>
   obtain⟨b,ys,e,r1,r2⟩:=aq.aQ.mp h2;cases e;rw[I.rK (r1.qK) (q1.qK)]at r2;rw[zoh I as bs (by simpa using f1) (by simpa using f2) q2 r2]
  | non=>rw[aq.bD]at h2;cases h2
  | bl _=>rw[aq.bj]at h2;cases h2
  | int _=>rw[aq.aL]at h2;cases h2
  | str _=>rw[aq.aP]at h2;cases h2
  | loc _=>simp[flat]at f2
 | .loc _,_,_,f1,_,_,_=>by simp[flat]at f1
theorem zoh(I:Inv X pins σ H s):∀(as bs:List D) {vs:List V},dC as=true->dC bs=true->ao X.K μ H as vs->ao X.K μ H bs vs->as=bs
 | [],bs,_,_,_,h1,h2=>by
  rw[ao]at h1;subst h1;cases bs with
  | nil=>rfl
  | cons _ _=>rw[ao]at h2;obtain⟨_,_,q,_⟩:=h2;cases q
 | a::as,bs,_,f1,f2,h1,h2=>by
  rw[ao]at h1;obtain⟨v,r,rfl,q1,q2⟩:=h1;cases bs with
  | nil=>rw[ao]at h2;cases h2
  | cons b bs =>
   rw[ao]at h2;obtain⟨v',r',e,r1,r2⟩:=h2;cases e;rw[ze7,gH]at f1 f2;rw[zl8 I a b f1.1 f2.1 q1 r1,zoh I as bs f1.2 f2.2 q2 r2]
end
mutual
theorem Kz(I:Inv X pins σ H s):∀(d1 d2:D) {A:Around} {x y:V} {u w:Value},flat d1=true->flat d2=true->A.units+dU d1 d2<cLine->aq X.K μ H d1 x->aq X.K μ H d2 y->RelV x u->RelV y w ->
  EqAt A s u w (jJ d1 d2)/\RcAt A s u w (jJ d1 d2)/\RcNeAt A s u w (!jJ d1 d2)
 | d1,d2,A,x,y,u,w,f1,f2,hu,h1,h2,r1,r2=>by
  cases d1 with
  | loc _=>simp[flat]at f1
  | non =>
   rw[aq.bD]at h1;subst h1;cases (show u=Value.none from r1);cases d2 with
   | loc _=>simp[flat]at f2
   | non=>rw[aq.bD]at h2;subst h2;cases (show w=Value.none from r2);exact⟨EqAt.same _,RcAt.none_none,RcNeAt.none_none⟩
   | bl b=>rw[aq.bj]at h2;subst h2;cases (show w=Value.bool b from r2);exact⟨EqAt.none_bool b,RcAt.none_bool b,RcNeAt.none_bool b⟩
   | int b=>rw[aq.aL]at h2;subst h2;obtain⟨t,rfl⟩:=r2;exact⟨EqAt.none_int b t,RcAt.none_int b t,RcNeAt.none_int b t⟩
   | str b=>rw[aq.aP]at h2;subst h2;obtain⟨t,rfl⟩:=r2;exact⟨EqAt.none_str _ t,RcAt.none_str _ t,RcNeAt.none_str _ t⟩
   | tup bs =>
    obtain⟨b,ys,rfl,q1,q2⟩:=aq.aQ.mp h2;cases (show w=Value.ref b from r2);obtain⟨its,_,p,_⟩:=I.tuple (q1.qK);exact⟨EqAt.none_tuple p (by omega),RcAt.none_tuple p (by omega),RcNeAt.none_tuple p (by omega)⟩
  | bl a =>
   rw[aq.bj]at h1;subst h1;cases (show u=Value.bool a from r1);cases d2 with
   | loc _=>simp[flat]at f2
   | non=>rw[aq.bD]at h2;subst h2;cases (show w=Value.none from r2);exact⟨EqAt.bool_none a,RcAt.bool_none a,RcNeAt.bool_none a⟩
   | bl b=>rw[aq.bj]at h2;subst h2;cases (show w=Value.bool b from r2);simp only[jJ];exact⟨EqAt.bool_bool a b,RcAt.bool_bool a b,RcNeAt.bool_bool a b⟩
   | int b=>rw[aq.aL]at h2;subst h2;obtain⟨t,rfl⟩:=r2;simp only[jJ];exact⟨EqAt.bool_int a b t,RcAt.bool_int a b t,RcNeAt.bool_int a b t⟩
   | str b=>rw[aq.aP]at h2;subst h2;obtain⟨t,rfl⟩:=r2;exact⟨EqAt.bool_str a _ t,RcAt.bool_str a _ t,RcNeAt.bool_str a _ t⟩
   | tup bs =>
    obtain⟨b,ys,rfl,q1,q2⟩:=aq.aQ.mp h2;cases (show w=Value.ref b from r2);obtain⟨its,_,p,_⟩:=I.tuple (q1.qK);exact⟨EqAt.bool_tuple a p (by omega),RcAt.bool_tuple a p (by omega),RcNeAt.bool_tuple a p (by omega)⟩
  | int a =>
   rw[aq.aL]at h1;subst h1;obtain⟨ta,rfl⟩:=r1;cases d2 with
   | loc _=>simp[flat]at f2
   | non=>rw[aq.bD]at h2;subst h2;cases (show w=Value.none from r2);exact⟨EqAt.int_none a ta,RcAt.int_none a ta,RcNeAt.int_none a ta⟩
   | bl b=>rw[aq.bj]at h2;subst h2;cases (show w=Value.bool b from r2);simp only[jJ];exact⟨EqAt.int_bool a ta b,RcAt.int_bool a ta b,RcNeAt.int_bool a ta b⟩
   | int b=>rw[aq.aL]at h2;subst h2;obtain⟨t,rfl⟩:=r2;simp only[jJ];exact⟨EqAt.int_int a ta b t,RcAt.int_int a ta b t,RcNeAt.int_int a ta b t⟩
   | str b=>rw[aq.aP]at h2;subst h2;obtain⟨t,rfl⟩:=r2;exact⟨EqAt.int_str a ta _ t,RcAt.int_str a ta _ t,RcNeAt.int_str a ta _ t⟩
   | tup bs =>
    obtain⟨b,ys,rfl,q1,q2⟩:=aq.aQ.mp h2;cases (show w=Value.ref b from r2);obtain⟨its,_,p,_⟩:=I.tuple (q1.qK);exact⟨EqAt.int_tuple a ta p (by omega),RcAt.int_tuple a ta p (by omega),RcNeAt.int_tuple a ta p (by omega)⟩
  | str a =>
   rw[aq.aP]at h1;subst h1;obtain⟨ta,rfl⟩:=r1;cases d2 with
   | loc _=>simp[flat]at f2
   | non=>rw[aq.bD]at h2;subst h2;cases (show w=Value.none from r2);exact⟨EqAt.str_none _ ta,RcAt.str_none _ ta,RcNeAt.str_none _ ta⟩
   | bl b=>rw[aq.bj]at h2;subst h2;cases (show w=Value.bool b from r2);exact⟨EqAt.str_bool _ ta b,RcAt.str_bool _ ta b,RcNeAt.str_bool _ ta b⟩
   | int b=>rw[aq.aL]at h2;subst h2;obtain⟨t,rfl⟩:=r2;exact⟨EqAt.str_int _ ta b t,RcAt.str_int _ ta b t,RcNeAt.str_int _ ta b t⟩
   | str b =>
    rw[aq.aP]at h2;subst h2;obtain⟨t,rfl⟩:=r2;have e:(strOf a==strOf b)=jJ (.str a) (.str b):=by
     rw[jJ,mz,beq_iff_eq,beq_iff_eq];exact znm
    rw[<-e];exact⟨EqAt.str_str _ ta _ t,RcAt.str_str _ ta _ t,RcNeAt.str_str _ ta _ t⟩
   | tup bs =>
    obtain⟨b,ys,rfl,q1,q2⟩:=aq.aQ.mp h2;cases (show w=Value.ref b from r2);obtain⟨its,_,p,_⟩:=I.tuple (q1.qK);exact⟨EqAt.str_tuple _ ta p (by omega),RcAt.str_tuple _ ta p (by omega),RcNeAt.str_tuple _ ta p (by omega)⟩
  | tup as =>
   have h1':=h1;have h2':=h2;obtain⟨a,xs,rfl,q1,q2⟩:=aq.aQ.mp h1;cases (show u=Value.ref a from r1);obtain⟨its,ra,p,_⟩:=I.tuple (q1.qK);cases d2 with
   | loc _=>simp[flat]at f2
   | non=>rw[aq.bD]at h2;subst h2;cases (show w=Value.none from r2);exact⟨EqAt.tuple_none p (by omega),RcAt.tuple_none p (by omega),RcNeAt.tuple_none p (by omega)⟩
   | bl b=>rw[aq.bj]at h2;subst h2;cases (show w=Value.bool b from r2);exact⟨EqAt.tuple_bool b p (by omega),RcAt.tuple_bool b p (by omega),RcNeAt.tuple_bool b p (by omega)⟩
   | int b=>rw[aq.aL]at h2;subst h2;obtain⟨t,rfl⟩:=r2;exact⟨EqAt.tuple_int b t p (by omega),RcAt.tuple_int b t p (by omega),RcNeAt.tuple_int b t p (by omega)⟩
   | str b=>rw[aq.aP]at h2;subst h2;obtain⟨t,rfl⟩:=r2;exact⟨EqAt.tuple_str _ t p (by omega),RcAt.tuple_str _ t p (by omega),RcNeAt.tuple_str _ t p (by omega)⟩
   | tup bs =>
    obtain⟨b,ys,rfl,g1,g2⟩:=aq.aQ.mp h2;cases (show w=Value.ref b from r2);obtain⟨qQ,rb,p2,_⟩:=I.tuple (g1.qK);rw[zpy]at hu;rw[Kr]at f1 f2;have items:=z9 I as bs (A:=A.in1) f1 f2 (by show A.units+1+fW as bs<cLine;omega) q2 g2 ra rb;have la:as.length=its.toArray.size:=by rw[gG,q2.length,ra.length]
    have lb:bs.length=qQ.toArray.size:=by rw[gG,g2.length,rb.length]
    have e:((List.range (min its.toArray.size qQ.toArray.size)).all (eqJ as bs) && its.toArray.size==qQ.toArray.size)=jJ (.tup as) (.tup bs):=by
     rw[jJ,zjm,la,lb]
    have rc:RcAt A s (.ref a) (.ref b) (jJ (.tup as) (.tup bs)):=by
     rw[<-e];exact RcAt.tuples p p2 (by omega) λj j1 j2=>items j (by simpa using j1) (by simpa using j2)
    have ne:RcNeAt A s (.ref a) (.ref b) (!jJ (.tup as) (.tup bs)):=by
     rw[<-e];exact RcNeAt.tuples p p2 (by omega) λj j1 j2=>items j (by simpa using j1) (by simpa using j2)
    refine⟨?_,rc,ne⟩;by_cases hab:a=b
    ·subst hab;have:(D.tup as)=.tup bs:=zl8 I _ _ (by simpa using f1) (by simpa using f2) h1' h2';rw[<-this,zqd _ (by simpa using f1)];exact EqAt.same _
    ·exact EqAt.of_refs hab rc
theorem z9(I:Inv X pins σ H s):∀(as bs:List D) {A:Around} {xs ys:List V} {us ws:List Value},dC as=true->dC bs=true->A.units+fW as bs<cLine->ao X.K μ H as xs->ao X.K μ H bs ys->Vals xs us->Vals ys ws ->
  ∀(j:Nat) (h1:j<us.length) (h2:j<ws.length),EqAt A s us[j] ws[j] (eqJ as bs j)
 | [],bs,A,xs,ys,us,ws,_,_,_,h1,_,r1,_,j,j1,_=>by
  rw[ao]at h1;subst h1;cases r1;simp at j1
 | a::as,[],A,xs,ys,us,ws,_,_,_,_,h2,_,r2,j,_,j2=>by
  rw[ao]at h2;subst h2;cases r2;simp at j2
 | a::as,b::bs,A,xs,ys,us,ws,f1,f2,hu,h1,h2,r1,r2,j,j1,j2=>by
  rw[ao]at h1 h2;obtain⟨v,r,rfl,q1,q2⟩:=h1;obtain⟨v',r',rfl,g1,g2⟩:=h2;cases r1 with
  | cons r1 t1 =>
  cases r2 with
  | cons r2 t2 =>
  rw[ze7,gH]at f1 f2;rw[zlp]at hu;cases j with
  | zero=>exact (Kz I a b f1.1 f2.1 (by omega) q1 g1 r1 r2).1
  | succ j=>exact z9 I as bs f1.2 f2.2 (by omega) q2 g2 t1 t2 j (by simpa using j1) (by simpa using j2)
end
end
def lC(L:Nat):D->D->ak->Option Bool
 | .loc m,.loc n,st=>match aA st m,aA st n with
  | some a,some b=>if dC a=true/\dC b=true/\fW a b+1<L then some (ju a b) else none
  | _,_=>none
 | .loc m,.non,st=>(aA st m).map λ_=>false
 | .loc m,.tup b,st=>if 0<L then (aA st m).map λ_=>false else none
 | .non,.loc n,st=>(aA st n).map λ_=>false
 | .tup a,.loc n,st=>if 0<L then (aA st n).map λ_=>false else none
 | d1,d2,_=>if flat d1=true/\flat d2=true/\dU d1 d2<L then some (jJ d1 d2) else none
section
variable  {X:Cx}{pins:List (Addr×Obj)}{σ:L2.St}{μ:List Addr}{H:Hp}{s:Shared}{L:Nat}
def Ey(I:Inv X pins σ H s)(f1:dC as=true)(f2:dC bs=true)(hu:A.units+1+fW as bs<cLine)(h1:ao X.K μ H as xs)(h2:ao X.K μ H bs ys) 
  (q1:ou X.K H a xs) (q2:ou X.K H b ys):RcAt A s (.ref a) (.ref b) (ju as bs)/\RcNeAt A s (.ref a) (.ref b) (!ju as bs):=by
 obtain⟨its,ra,p,_⟩:=I.list q1;obtain⟨qQ,rb,p2,_⟩:=I.list q2;have la:as.length=its.toArray.size:=by rw[gG,h1.length,ra.length]
 have lb:bs.length=qQ.toArray.size:=by rw[gG,h2.length,rb.length]
 by_cases hl:its.toArray.size=qQ.toArray.size
 ·have items:=z9 I as bs (A:=A.in1) f1 f2 hu h1 h2 ra rb;have e:((List.range its.toArray.size).all (eqJ as bs))=ju as bs:=by
   rw[zjm,la,lb,<-hl,Nat.min_self];simp
  rw[<-e];exact⟨RcAt.lists p.isList p2.isList hl (by omega) λj j1 j2=>items j (by simpa using j1) (by simpa using j2),RcNeAt.lists p.isList p2.isList hl (by omega) λj j1 j2=>items j (by simpa using j1) (by simpa using j2)⟩
 ·have e:ju as bs=false:=by
   rw[zjm,la,lb,pJ];exact .inr (by simpa using hl)
  have hl':(its.toArray.size != qQ.toArray.size)=true:=by simpa using hl
  rw[e];exact⟨RcAt.lists_lengths p.isList p2.isList hl' (by omega),RcNeAt.lists_lengths p.isList p2.isList hl' (by omega)⟩
def KC(I:Inv X pins σ H s)(hs:aU X.K μ H st)(e:lC L d1 d2 st=some k)(hu:A.units+L<cLine)(h1:aq X.K μ H d1 x)(h2:aq X.K μ H d2 y)(r1:RelV x u)(r2:RelV y w) :
  RcAt A s u w k/\RcNeAt A s u w (!k):=by
 have plain:∀{d1 d2:D},aq X.K μ H d1 x->aq X.K μ H d2 y->(if flat d1=true/\flat d2=true/\dU d1 d2<L then some (jJ d1 d2) else none)=some k->RcAt A s u w k/\RcNeAt A s u w (!k):=λ{d1 d2} h1 h2 e=>by
  split at e
  ·rename_i c;cases e;exact (Kz I d1 d2 c.1 c.2.1 (by omega) h1 h2 r1 r2).2
  ·cases e
 have list:∀{n:Nat} {v:V} {z:Value} {ds:List D},aq X.K μ H (.loc n) v->RelV v z->aA st n=some ds->∃p its,z=.ref p/\s.heap.IsList p its:=λ{n v z ds} h r q=>by
  obtain⟨p,q1,rfl⟩:=aq.aK.mp h;obtain⟨p',xs,g1,g2,g3⟩:=hs.items q;rw[q1]at g1;cases g1;cases (show z=Value.ref p from r);obtain⟨its,_,pl,_⟩:=I.list g2;exact⟨p,_,rfl,pl.isList⟩
 have tuple:∀{bs:List D} {v:V} {z:Value},aq X.K μ H (.tup bs) v->RelV v z->∃p its,z=.ref p/\s.heap.IsTuple p its:=λ{bs v z} h r=>by
  obtain⟨p,xs,rfl,q1,_⟩:=aq.aQ.mp h;cases (show z=Value.ref p from r);obtain⟨its,_,pl,_⟩:=I.tuple (q1.qK);exact⟨p,_,rfl,pl⟩
 match d1,d2,e,h1,h2 with
 | .loc m,.loc n,e,h1,h2 =>
  simp only[lC]at e;cases e1:aA st m with
  | none=>rw[e1]at e;cases e
  | some as =>
   cases e2:aA st n with
   | none=>rw[e1,e2]at e;cases e
   | some bs =>
    rw[e1,e2]at e;dsimp only at e
    split at e
    ·rename_i c;cases e;obtain⟨p,q1,rfl⟩:=aq.aK.mp h1;obtain⟨p',xs,g1,g2,g3⟩:=hs.items e1;rw[q1]at g1;cases g1;obtain⟨q,q2,rfl⟩:=aq.aK.mp h2;obtain⟨q',ys,k1,k2,k3⟩:=hs.items e2;rw[q2]at k1;cases k1;cases (show u=Value.ref p from r1);cases (show w=Value.ref q from r2);exact Ey I c.1 c.2.1 (by omega) g3 k3 g2 k2
    ·cases e
 | .loc m,.non,e,h1,h2 =>
  simp only[lC]at e;cases e1:aA st m with
  | none=>rw[e1]at e;cases e
  | some as =>
   rw[e1]at e;cases e;obtain⟨p,its,rfl,pl⟩:=list h1 r1 e1;rw[aq.bD]at h2;subst h2;cases (show w=Value.none from r2);exact⟨RcAt.list_none pl (by omega),RcNeAt.list_none pl (by omega)⟩
 | .non,.loc n,e,h1,h2 =>
  simp only[lC]at e;cases e1:aA st n with
  | none=>rw[e1]at e;cases e
  | some as =>
   rw[e1]at e;cases e;obtain⟨p,its,rfl,pl⟩:=list h2 r2 e1;rw[aq.bD]at h1;subst h1;cases (show u=Value.none from r1);exact⟨RcAt.none_list pl (by omega),RcNeAt.none_list pl (by omega)⟩
 | .loc m,.tup bs,e,h1,h2 =>
  simp only[lC]at e
  split at e
  ·cases e1:aA st m with
   | none=>rw[e1]at e;cases e
   | some as =>
    rw[e1]at e;cases e;obtain⟨p,its,rfl,pl⟩:=list h1 r1 e1;obtain⟨q,qQ,rfl,pt⟩:=tuple h2 r2;exact⟨RcAt.list_tuple pl pt (by omega),RcNeAt.list_tuple pl pt (by omega)⟩
  ·cases e
 | .tup as,.loc n,e,h1,h2 =>
  simp only[lC]at e
  split at e
  ·cases e1:aA st n with
   | none=>rw[e1]at e;cases e
   | some as =>
    rw[e1]at e;cases e;obtain⟨p,its,rfl,pl⟩:=list h2 r2 e1;obtain⟨q,qQ,rfl,pt⟩:=tuple h1 r1;exact⟨RcAt.tuple_list pt pl (by omega),RcNeAt.tuple_list pt pl (by omega)⟩
  ·cases e
 | .non,.non,e,h1,h2=>exact plain h1 h2 (by simpa only[lC] using e)
 | .non,.bl _,e,h1,h2=>exact plain h1 h2 (by simpa only[lC] using e)
 | .non,.int _,e,h1,h2=>exact plain h1 h2 (by simpa only[lC] using e)
 | .non,.str _,e,h1,h2=>exact plain h1 h2 (by simpa only[lC] using e)
 | .non,.tup _,e,h1,h2=>exact plain h1 h2 (by simpa only[lC] using e)
 | .bl _,d2,e,h1,h2=>exact plain h1 h2 (by simpa only[lC] using e)
 | .int _,d2,e,h1,h2=>exact plain h1 h2 (by simpa only[lC] using e)
 | .str _,d2,e,h1,h2=>exact plain h1 h2 (by simpa only[lC] using e)
 | .tup _,.non,e,h1,h2=>exact plain h1 h2 (by simpa only[lC] using e)
 | .tup _,.bl _,e,h1,h2=>exact plain h1 h2 (by simpa only[lC] using e)
 | .tup _,.int _,e,h1,h2=>exact plain h1 h2 (by simpa only[lC] using e)
 | .tup _,.str _,e,h1,h2=>exact plain h1 h2 (by simpa only[lC] using e)
 | .tup _,.tup _,e,h1,h2=>exact plain h1 h2 (by simpa only[lC] using e)
 | .loc _,.bl _,e,h1,h2=>simp[lC,flat]at e
 | .loc _,.int _,e,h1,h2=>simp[lC,flat]at e
 | .loc _,.str _,e,h1,h2=>simp[lC,flat]at e
def eN(L:Nat):D->D->ak->R D:=λd1 d2 st=>match lC L d1 d2 st with | some k=>.ok (.bl k) st | none=>.bad
def Gi(L:Nat):D->D->ak->R D:=λd1 d2 st=>match lC L d1 d2 st with | some k=>.ok (.bl (!k)) st | none=>.bad
def Il(hu:X.A.units+L<cLine):dZ X (compareOp .Eq) (rM X (eN L)):=by
 rintro pins s σ H x y v u Q I rx ry ⟨μ,st,dx,dy,hs,hx,hy,hp⟩;unfold eN at hp;cases e:lC L dx dy st with
 | none=>rw[e]at hp;exact hp.elim
 | some k =>
  rw[e]at hp;exact (KC I hs e hu hx hy rx ry).1 X.prog X.w X.xe _ ⟨.bl k,H,I,rfl,hp.ret hs (aq.bj.mpr rfl)⟩
def Ig(hu:X.A.units+L<cLine):dZ X (compareOp .NotEq) (rM X (Gi L)):=by
 rintro pins s σ H x y v u Q I rx ry ⟨μ,st,dx,dy,hs,hx,hy,hp⟩;unfold Gi at hp;cases e:lC L dx dy st with
 | none=>rw[e]at hp;exact hp.elim
 | some k =>
  rw[e]at hp;exact (KC I hs e hu hx hy rx ry).2 X.prog X.w X.xe _ ⟨.bl (!k),H,I,rfl,hp.ret hs (aq.bj.mpr rfl)⟩
end
end M
namespace M
open PySem PySem.Spec L2
def cM(T:String)(d:D)(st:ak):Bool:=match d with
 | .str _=>T == "str"
 | .loc n=>(match st[n]? with
  | some (.lst _)=>T == "list"
  | some (.frz _)=>T == "list"
  | some (.dic _)=>T == "dict"
  | some (.dkc _)=>T == "dict"
  | _=>false)
 | _=>false
section
variable  {X:Cx}{e a b c o:Expr}{es:List Expr}{ma mb mc mo:ME}{mA:MA}{pos p2 p apos dz:Pos}{T id:String}{name:Str}{g:D->List D->ak->R D}
def Bw(h:cM T d st=true)(hs:aU X.K μ H st)(hv:aq X.K μ H d v):tyV X.K T v H:=by
 cases d with
 | str cs=>rw[aq.aP]at hv;subst hv;exact eq_of_beq h
 | loc n =>
  obtain⟨p,q1,rfl⟩:=aq.aK.mp hv;simp only[cM]at h;cases e:st[n]? with
  | none=>rw[e]at h;cases h
  | some o =>
   rw[e]at h;obtain⟨p',r1,r2⟩:=hs.at_ n o e;rw[q1]at r1;cases r1;cases o with
   | lst ds=>obtain⟨xs,r3,_⟩:=r2;exact .inl ⟨eq_of_beq h,xs,ou.of r3⟩
   | frz ds=>obtain⟨xs,r3,_⟩:=r2;exact .inl ⟨eq_of_beq h,xs,r3.sqL⟩
   | dic ds=>obtain⟨xs,r3,_⟩:=r2;exact .inr (.inr (.inl ⟨eq_of_beq h,.inr ⟨xs,r3⟩⟩))
   | dkc ds=>obtain⟨xs,r3,_⟩:=r2;exact .inr (.inr (.inl ⟨eq_of_beq h,.inl ⟨xs,r3⟩⟩))
   | _=>cases h
 | _=>simp[cM]at h
def cL(T:String)(g:D->List D->ak->R D)(mo:ME)(mA:MA):ME:=λenv st=>(mo env st).bind λx st1=>if cM T x st1=true then (mA env st1).bind λxs st2=>g x xs st2 else .bad
def iI(T:String)(g:D->List D->ak->R D)(mo:ME):ME:=λenv st=>(mo env st).bind λx st1=>if cM T x st1=true then g x [] st1 else .bad
def M5(pa:PlainAttrs T)(slot:Slot T name id)(WQ:typeOf (.builtin id)=pure (.type "method_descriptor"))(hm:rF X id (Gg X g))(ho:JE X o mo)(ha:JA X (e::es) mA)
  (qX:attributeBase o name X.env (eval o X.env)=eval o X.env:=by rfl)
  (Er:((backTo dz (starEach (e::es) X.env)).all (λx=>!x.1) && (backToKw dz (keywordEach [] X.env)).all (λx=>x.1.isSome)
   && decide ((e::es).length+([]:List Keyword).length+(if ([]:List Keyword).isEmpty then 0 else 1)<30))=true:=by rfl)
  (hline:(apos.endLine==dz.line)=true:=by rfl) (hs:starEach (e::es) X.env=(false,eval e X.env)::starEach es X.env:=by rfl) (uT:(backTo dz (starEach es X.env)).any (·.1)=false:=by rfl):JE X (.Call (.Attribute o name apos) (e::es) [] dz) (cL T g mo mA):=by
 refine JE.of (aaW pa slot WQ hm ho ha qX Er hline hs uT) fun σ H Q zz=>?_;obtain⟨μ,env,st,hE,hs,hp⟩:=zz;refine⟨μ,env,st,hE,hs,(bJ.bind hp).imp ?_⟩;rintro x H1 ⟨μ1,st1,d,g1,bB,hx,aR⟩;dsimp only at aR
 split at aR
 ·rename_i hT;refine⟨Bw hT bB hx,μ1,env,st1,hE.mono g1,bB,(bJ.bind aR).imp ?_⟩;rintro xs H2 ⟨μ2,st2,ds,g2,ie,jY,dH⟩;exact⟨μ2,st2,d,ds,ie,hx.mono g2 _,jY,dH⟩
 ·exact aR.elim
def zmb(pa:PlainAttrs T)(slot:Slot T name id)(WQ:typeOf (.builtin id)=pure (.type "method_descriptor"))(hm:rF X id (Gg X g))(ho:JE X o mo)
  (qX:attributeBase o name X.env (eval o X.env)=eval o X.env:=by rfl) (hline:(apos.endLine==dz.line)=true:=by rfl):JE X (.Call (.Attribute o name apos) [] [] dz) (iI T g mo):=by
 refine JE.of (Vv pa slot WQ hm ho qX hline) fun σ H Q zz=>?_;obtain⟨μ,env,st,hE,hs,hp⟩:=zz;refine⟨μ,env,st,hE,hs,(bJ.bind hp).imp ?_⟩;rintro x H1 ⟨μ1,st1,d,g1,bB,hx,aR⟩;dsimp only at aR
 split at aR
 ·rename_i hT;exact⟨Bw hT bB hx,μ1,st1,d,[],bB,hx,ao.nil,aR⟩
 ·exact aR.elim
noncomputable def aV:D->List D->ak->R D
 | .loc n,[d],st=>match st[n]? with
  | some (.lst ds)=>if ds.length<1000000 then .ok .non (st.set n (.lst (ds++[d]))) else .bad
  | _=>.bad
 | _,_,_=>.bad
def Uj{μ:List Addr}{H:Hp}{st:ak}{n:Nat}{ds ZD:List D}{p:Addr}{xs ys:List V}{Q:VK}(hp:bJ X μ H (lQ X) Q (.ok .non (st.set n (.lst ZD))))(hs:aU X.K μ H st)(e:st[n]? = some (.lst ds))(hq:μ[n]? = some p)(hx:H p=some (.lst xs))(hy:ao X.K μ H ZD ys) :
  Q .non (upd H p (.lst ys)):=by
 obtain⟨g,pX⟩:=uH hs e hq hx hy;exact hp _ _ μ g pX (aq.bD.mpr rfl)
def zpx:rF X "list.append" (Gg X aV):=by
 refine rF.weak znv ?_;rintro x xs H Q ⟨μ,st,d,ds,hs,hx,jY,hp⟩;unfold aV at hp
 split at hp
 ·rename_i n d' ;cases e:st[n]? with
  | none=>rw[e]at hp;exact hp.elim
  | some mo =>
   cases mo with
   | lst l =>
    rw[e]at hp;dsimp only at hp
    split at hp
    ·rename_i hl;obtain⟨p,q1,rfl⟩:=aq.aK.mp hx;obtain⟨y,rfl,q2⟩:=ao.one jY;obtain⟨p',ys,r1,r2,r3⟩:=hs.lst e;rw[q1]at r1;cases r1;refine⟨p,ys,y,rfl,rfl,r2,by rw[<-r3.length];exact gQ hl (by decide),Uj hp hs e q1 r2 (r3.append (ao.cons q2 ao.nil))⟩
    ·exact hp.elim
   | _=>rw[e]at hp;exact hp.elim
 ·exact hp.elim
end
section
variable  {X:Cx}{e a b c l:Expr}{es:List Expr}{ma mb mc:ME}{mA:MA}{pos p2 p wR:Pos}{μ:List Addr}{H:Hp}
def sy(st:ak)(n:Nat):Option (List D×MO):=match st[n]? with
 | some (.lst ds)=>some (ds,.lst ds)
 | some (.frz ds)=>some (ds,.frz ds)
 | _=>none
def zlw(h:sy st n=some (ds,o)):aA st n=some ds/\st[n]? = some o/\(o=.lst ds\/o=.frz ds):=by
 unfold sy at h;unfold aA
 split at h
 ·rename_i q;cases h;rw[q];exact⟨rfl,rfl,.inl rfl⟩
 ·rename_i q;cases h;rw[q];exact⟨rfl,rfl,.inr rfl⟩
 ·cases h
def zkf{K:PySem.W.Frag}{st':ak}{n:Nat}{ds:List D}{o:MO}{μ':List Addr}{H':Hp}(ho:o=.lst ds\/o=.frz ds)(hs:aU K μ' H' st')(e:st'[n]? = some o):∃p xs,μ'[n]? = some p/\ou K H' p xs/\ao K μ' H' ds xs:=by
 refine hs.items ?_;unfold aA;rcases ho with rfl | rfl<;>rw[e]
def dJ:Nat->List D->List D
 | _,[]=>[]
 | k,d::ds=>.tup [.int k,d]::dJ (k+1) ds
theorem zi9:∀(ds:List D) (k i:Nat),(dJ k ds)[i]? = (ds[i]?).map λd=>.tup [.int ((k+i:Nat):Int),d]
 | [],k,i=>by simp[dJ]
 | d::ds,k,0=>by simp[dJ]
 | d::ds,k,i+1=>by
  have:=zi9 ds (k+1) i;simp only[dJ,mJ];rw[this,show k+1+i=k+(i+1) by omega]
theorem Yu:∀(ds:List D) (k:Nat),(dJ k ds).length=ds.length
 | [],_=>rfl
 | _::ds,k=>by simp[dJ,Yu ds (k+1)]
def yH(mA:MA):MI:=λenv st=>(mA env st).bind λds st1=>match ds with
 | [.loc n]=>(match sy st1 n with | some (xs,o)=>.ok (dJ 0 xs,[(n,o)]) st1 | none=>.bad)
 | _=>.bad
def Qv{n:Nat}{ds:List D}{q:Addr}{o:MO}(ho:o=.lst ds\/o=.frz ds)(hp:μ[n]? = some q):oA X μ H (Ite X.K q) (dJ 0 ds,[(n,o)]):=by
 intro H' μ' st' g hs ok;have e:st'[n]? = some o:=(ok (n,o) (by simp));obtain⟨p',xs,q1,q2,q3⟩:=zkf ho hs e;rw[g.get hp]at q1;cases q1;refine⟨λi d hd=>?_,xs,q2,by rw[<-q3.length];show ds.length<=(dJ 0 ds).length;rw[Yu];exact gb _⟩;have yD:(dJ 0 ds)[i]? = some d:=hd;rw[zi9]at yD;cases e2:ds[i]? with
 | none=>rw[e2]at yD;cases yD
 | some d0 =>
  rw[e2]at yD;cases yD;obtain⟨v,h1,h2⟩:=q3.get e2;refine⟨⟨xs,v,q2,h1⟩,?_⟩;rintro x Cz ⟨pp,y,hn,rfl,rfl,hy⟩;have:=hy xs q2;rw[h1]at this;cases this;refine⟨aZ.lay hn,hs.lay hn,aq.aQ.mpr ⟨pp,_,rfl,.inl qt,?_⟩⟩;exact (ao.cons (aq.aL.mpr (by simp)) (ao.cons h2 ao.nil)).mono (aZ.lay hn) _
def Qj(ha:JA X [a] mA)(hg:Gl X "enumerate")(hm:X.mg "enumerate" = none)(hs:starEach [a] X.env=[(false,eval a X.env)]:=by rfl):JI X (.Tuple elts x1 wR) (.Call (.Name "enumerate" p) [a] [] pos) (yH mA):=by
 refine JI.of (Ow hg hm ha hs) fun σ H R zz=>?_;obtain⟨μ,env,st,hE,hs,hp⟩:=zz;refine⟨μ,env,st,hE,hs,(bJ.bind hp).imp ?_⟩;rintro vs H1 ⟨μ1,st1,ds,g1,bB,hv,aR⟩;dsimp only at aR
 split at aR
 ·rename_i n;cases e:sy st1 n with
  | none=>rw[e]at aR;exact aR.elim
  | some y =>
   obtain⟨xs,o⟩:=y;rw[e]at aR;obtain⟨k1,k2,k3⟩:=zlw e;obtain⟨v,rfl,q1⟩:=ao.one hv;obtain⟨q,q2,rfl⟩:=aq.aK.mp q1;obtain⟨q',zs,r1,r2,r3⟩:=bB.items k1;rw[q2]at r1;cases r1;exact⟨q,rfl,⟨zs,r2⟩,aR _ _ _ (.refl _ _) bB (Qv k3 q2)⟩
 ·exact aR.elim
def NT(mA:MA):MI:=λenv st=>(mA env st).bind λds st1=>match ds with
 | [.loc n]=>(match sy st1 n with | some (xs,o)=>.ok (xs.reverse,[(n,o)]) st1 | none=>.bad)
 | _=>.bad
def Qq{n:Nat}{ds:List D}{q:Addr}{o:MO}(ho:o=.lst ds\/o=.frz ds)(hp:μ[n]? = some q):oA X μ H (Itv X.K q ds.length) (ds.reverse,[(n,o)]):=by
 intro H' μ' st' g hs ok;have e:st'[n]? = some o:=(ok (n,o) (by simp));obtain⟨p',xs,q1,q2,q3⟩:=zkf ho hs e;rw[g.get hp]at q1;cases q1;refine⟨λi d hd=>?_,⟨xs,q2,q3.length.symm⟩,by simp⟩;have yD:ds.reverse[i]? = some d:=hd;have hi:i<ds.length:=by have:=(gf.mp yD).1;simpa using this
 rw[pA hi]at yD;obtain⟨v,h1,h2⟩:=q3.get yD;refine⟨⟨xs,v,q2,q3.length.symm,hi,h1⟩,?_⟩;rintro x Cz ⟨rfl,hy⟩;have:=hy xs q2;rw[h1]at this;cases this;exact⟨.refl _ _,hs,h2⟩
def Wc{tg:Expr}(ha:JA X [a] mA)(hg:Gl X "reversed")(hm:X.mg "reversed" = none)(hs:starEach [a] X.env=[(false,eval a X.env)]:=by rfl):JI X tg (.Call (.Name "reversed" p) [a] [] pos) (NT mA):=by
 refine JI.of (Vk hg hm ha hs) fun σ H R zz=>?_;obtain⟨μ,env,st,hE,hs,hp⟩:=zz;refine⟨μ,env,st,hE,hs,(bJ.bind hp).imp ?_⟩;rintro vs H1 ⟨μ1,st1,ds,g1,bB,hv,aR⟩;dsimp only at aR
 split at aR
 ·rename_i n;cases e:sy st1 n with
  | none=>rw[e]at aR;exact aR.elim
  | some y =>
   obtain⟨xs,o⟩:=y;rw[e]at aR;obtain⟨k1,k2,k3⟩:=zlw e;obtain⟨v,rfl,q1⟩:=ao.one hv;obtain⟨q,q2,rfl⟩:=aq.aK.mp q1;obtain⟨q',zs,r1,r2,r3⟩:=bB.items k1;rw[q2]at r1;cases r1;exact⟨q,zs,rfl,r2,by rw[<-r3.length];exact aR _ _ _ (.refl _ _) bB (Qq k3 q2)⟩
 ·exact aR.elim
end
def jk{α β:Type}(K:PySem.W.Frag)(μ:List Addr)(H:Hp)(rel:Rel α β)(Q:β->Hp->Prop)(r:R α):Prop:=match r with
 | .ok a st=>∀(b:β) (H':Hp) (μ':List Addr),aZ μ H μ' H'->aU K μ' H' st->rel μ' H' a b->Q b H'
 | _=>False
def tK{α β:Type}(K:PySem.W.Frag)(rel:Rel α β)(m:aM->ak->R α):L2.St->Hp->(β->Hp->Prop)->Prop:=fun σ H Q=>∃μ env st,dD K μ H env σ/\aU K μ H st/\jk K μ H rel Q (m env st)
def tKG(K:PySem.W.Frag)(m:MG):TG:=λv σ H Q=>∃μ env st d,dD K μ H env σ/\aU K μ H st/\aq K μ H d v/\jk K μ H (fun μ H env σ=>dD K μ H env σ) Q (m d env st)
def jk.post{α β:Type}{X:Cx}{μ:List Addr}{H:Hp}{rel:Rel α β}{Q:β->Hp->Prop}{r:R α}(h:jk X.K μ H rel Q r):bJ X μ H rel Q r:=by
 cases r with
 | ok a st=>exact h
 | err x st=>exact h.elim
 | bad=>exact h.elim
def jk.mono{α β:Type}{K:PySem.W.Frag}{μ μ1:List Addr}{H H1:Hp}{rel:Rel α β}{Q:β->Hp->Prop}{r:R α}(g:aZ μ H μ1 H1)(h:jk K μ H rel Q r):jk K μ1 H1 rel Q r:=by
 cases r with
 | ok a st=>exact λb H' μ' g'=>h b H' μ' (g.trans g')
 | err x st=>exact h.elim
 | bad=>exact h.elim
def j9(capt:List (Option Nat))(env:aM):aM:=capt.map λo=>o.bind λj=>(env[j]?).join
open Classical in
def fG(g:MG)(t:MT)(e:ME)(gs:List (Nat×MO))(n:Nat):List D->aM->ak->R D
 | [],_,st=>if ue gs st then .ok (.loc n) st else .bad
 | d::r,env,st=>if ue gs st then (g d env st).bind λenv1 st1=>(t env1 st1).bind λok st2=>if ok then (e env1 st2).bind λy ig=>(match ig[n]? with
   | some (.lst xs)=>if xs.length<1000000 then fG g t e gs n r env1 (ig.set n (.lst (xs++[y]))) else .bad
   | _=>.bad) else fG g t e gs n r env1 st2 else .bad
def cR(capt:List (Option Nat))(mi:MI)(g:MG)(t:MT)(e:ME):ME:=λenv st=>(mi env st).bind λs st1=>(fG g t e s.2 st1.length s.1 (j9 capt env) (st1++[.lst []])).sure
def rH:MT:=λ_ st=>.ok true st
section
variable  {X:Cx}{elt tg iter c:Expr}{ifs:List Expr}{scope:Scope}{pos:Pos}{N:List Str}{capt:List (Option Nat)}{mi:MI}{g:MG}{t:MT}{me:ME}
def dD.taken{K:PySem.W.Frag}{μ:List Addr}{H:Hp}{env:aM}{σ:L2.St}(cp:List (Option Nat))(h:dD K μ H env σ):dD K μ H (j9 cp env) (jB cp σ):=by
 refine⟨by simp[j9,jB],λi d e=>?_⟩;unfold j9 at e;unfold jB;rw[gP]at e ⊢;cases q:cp[i]? with
 | none=>rw[q]at e;cases e
 | some o =>
  rw[q]at e;cases o with
  | none=>cases e
  | some j =>
   have e':(env[j]?).join=some d:=by simpa using e
   have e2:env[j]? = some (some d):=by
    cases z:env[j]? with
    | none=>rw[z]at e';cases e'
    | some y=>rw[z]at e';cases e';rfl
   obtain⟨v,h1,h2⟩:=h.at_ j d e2;exact⟨v,by simp[h1],h2⟩
def jk.val{α β γ:Type}{K:PySem.W.Frag}{μ:List Addr}{H:Hp}{rel:Rel α β}{r:R α}{f:α->ak->R γ}{G:List Addr->Hp->R γ->Prop}(hG:∀μ μ1 H H1 r,aZ μ H μ1 H1->G μ H r->G μ1 H1 r)(hb:∀μ H,¬ G μ H .bad)(he:∀μ H x st,¬ G μ H (.err x st))
  (h:G μ H (r.bind f)):jk K μ H rel (λb H1=>∃μ1 st1 a,aZ μ H μ1 H1/\aU K μ1 H1 st1/\rel μ1 H1 a b/\G μ1 H1 (f a st1)) r:=by
 cases r with
 | ok a st=>exact λb H' μ' g h1 h2=>⟨μ',st,a,g,h1,h2,hG _ _ _ _ _ g h⟩
 | err x st=>exact (he _ _ _ _ h).elim
 | bad=>exact (hb _ _ h).elim
def yU(X:Cx)(Q:VK):List Addr->Hp->R D->Prop:=fun μ H r=>jk X.K μ H (lQ X) Q r
def zso{σ:L2.St}{H:Hp}{Q:VK}(h:tM X (cR capt mi g t me) σ H Q):GX capt (tMI X mi) (tKG X.K g) (tK X.K zE t) (tK X.K (lQ X) me) σ H Q:=by
 obtain⟨μ,env,st,hE,hs,hp⟩:=h;refine⟨μ,env,st,hE,hs,(bJ.bind hp).imp ?_⟩;rintro J H1 ⟨μ1,st1,s,g1,bB,hJ,aR⟩;dsimp only at aR;have dH:yU X Q μ1 H1 (fG g t me s.2 st1.length s.1 (j9 capt env) (st1++[.lst []])):=by
  cases hr:fG g t me s.2 st1.length s.1 (j9 capt env) (st1++[.lst []]) with
  | ok d st2=>rw[hr]at aR;exact aR
  | err y st2=>rw[hr]at aR;exact aR.elim
  | bad=>rw[hr]at aR;exact aR.elim
 have mG:∀μ μ1 H H1 r,aZ μ H μ1 H1->yU X Q μ H r->yU X Q μ1 H1 r:=fun μ μ1 H H1 r g h=>jk.mono g h;have nb:∀μ H,¬ yU X Q μ H .bad:=fun μ H h=>h;have ne:∀μ H x st,¬ yU X Q μ H (.err x st):=fun μ H x st h=>h;intro D hD;have gD:aZ μ1 H1 (μ1++[D]) (upd H1 D (.lst [])):=aZ.new hD;have sD:aU X.K (μ1++[D]) (upd H1 D (.lst [])) (st1++[.lst []]):=bB.new hD ⟨[],qt,ao.nil⟩;have nD:(μ1++[D])[st1.length]? = some D:=by rw[<-bB.len];simp
 refine⟨λi k σ' H'=>∃μ2 bf st2,aZ (μ1++[D]) (upd H1 D (.lst [])) μ2 H'/\dD X.K μ2 H' bf σ'/\aU X.K μ2 H' st2/\yU X Q μ2 H' (fG g t me s.2 st1.length (s.1.drop i) bf st2)/\i<=s.1.length/\k=s.1.length - i,
  ⟨_,μ1++[D],j9 capt env,_,.refl _ _,(hE.mono (g1.trans gD)).taken capt,sD,by simpa using mG _ _ _ _ _ gD dH,mD _,rfl⟩,?_⟩
 rintro i k σ2 H2 ⟨μ2,bf,st2,g2,Tf,ie,zf,hi,rfl⟩;have atD:μ2[st1.length]? = some D:=g2.get nD;by_cases vo:i<s.1.length
 ·have e1:s.1.drop i=s.1[i]::s.1.drop (i+1):=nH vo;rw[e1,fG]at zf;by_cases ok:ue s.2 st2
  ·rw[aeT ok]at zf;obtain⟨q1,q2⟩:=(hJ H2 μ2 st2 (gD.trans g2) ie ok).1 i s.1[i] (gM vo);refine .inr ⟨q1,fun σ' H'=>∃μ3 xN ig,aZ (μ1++[D]) (upd H1 D (.lst [])) μ3 H'/\dD X.K μ3 H' xN σ'/\aU X.K μ3 H' ig/\yU X Q μ3 H' (fG g t me s.2 st1.length (s.1.drop (i+1)) xN ig),?_,?_⟩
   ·rintro σ' H' ⟨μ3,xN,ig,g3,hE3,yC,hp4⟩;exact⟨s.1.length - (i+1),by omega,μ3,xN,ig,g3,hE3,yC,hp4,by omega,rfl⟩
   ·intro x H3 hx;obtain⟨g3,yC,hd⟩:=q2 x H3 hx;refine⟨μ2,bf,st2,s.1[i],Tf.mono g3,yC,hd,?_⟩;have w1:=jk.val (K:=X.K) (rel:=fun μ H env σ=>dD X.K μ H env σ) mG nb ne (mG _ _ _ _ _ g3 zf);cases Zq:g s.1[i] bf st2 with
    | bad=>rw[Zq]at w1;exact w1
    | err y z=>rw[Zq]at w1;exact w1
    | ok abB st4 =>
     rw[Zq]at w1;intro σ4 H4 μ4 g4 hs4 hE4;obtain⟨aeu,aas,sX,g4',adC,QH,hp4⟩:=w1 σ4 H4 μ4 g4 hs4 hE4;refine⟨aeu,sX,aas,QH,adC,?_⟩;have w2:=jk.val (K:=X.K) (rel:=zE) mG nb ne hp4;cases W4:t sX aas with
     | bad=>rw[W4]at w2;exact w2
     | err y z=>rw[W4]at w2;exact w2
     | ok b5 Mq =>
      rw[W4]at w2;intro b H5 μ5 g5 hs5 hb5;obtain⟨ab1,Np,b5',g5',abn,adR,hp5⟩:=w2 b H5 μ5 g5 hs5 hb5;subst adR;have gg:aZ (μ1++[D]) (upd H1 D (.lst [])) ab1 H5:=((g2.trans g3).trans g4').trans g5';cases b5' with
      | false=>exact yz ⟨ab1,sX,Np,gg,QH.mono g5',abn,by simpa using hp5⟩
      | true =>
       refine yx ⟨ab1,sX,Np,QH.mono g5',abn,?_⟩;have adF:yU X Q ab1 H5 ((me sX Np).bind λy ig=>(match ig[st1.length]? with
        | some (.lst xs)=>if xs.length<1000000 then fG g t me s.2 st1.length (s.1.drop (i+1)) sX (ig.set st1.length (.lst (xs++[y]))) else .bad
        | _=>.bad)):=by simpa using hp5
       have w3:=jk.val (K:=X.K) (rel:=lQ X) mG nb ne adF;cases WX:me sX Np with
       | bad=>rw[WX]at w3;exact w3
       | err y z=>rw[WX]at w3;exact w3
       | ok y6 st6 =>
        rw[WX]at w3;intro v H6 μ6 g6 hs6 hv6;obtain⟨aef,acE,y6',g6',abm,adA,QB⟩:=w3 v H6 μ6 g6 hs6 hv6;have gg6:=gg.trans g6';have abT:aef[st1.length]? = some D:=gg6.get nD;cases e6:acE[st1.length]? with
        | none=>rw[e6]at QB;exact QB.elim
        | some mo =>
         cases mo with
         | lst xs =>
          rw[e6]at QB;dsimp only at QB
          split at QB
          ·rename_i hl;obtain⟨p',ys,r1,r2,r3⟩:=abm.lst e6;rw[abT]at r1;cases r1;obtain⟨g7,hs7⟩:=uH abm e6 abT r2 (r3.append (ao.cons adA ao.nil));refine⟨ys,r2,by rw[<-r3.length];exact gQ hl (by decide),aef,sX,_,gg6.trans g7,((QH.mono g5').mono g6').mono g7,hs7,mG _ _ _ _ _ g7 QB⟩
          ·exact QB.elim
         | _=>rw[e6]at QB;exact QB.elim
  ·rw[aeU ok]at zf;exact zf.elim
 ·have e1:s.1.drop i=[]:=nG (by omega);rw[e1,fG]at zf;have e2:i=s.1.length:=by omega
  by_cases ok:ue s.2 st2
  ·rw[aeT ok]at zf;refine .inl ⟨by rw[e2];exact (hJ H2 μ2 st2 (gD.trans g2) ie ok).2,?_⟩;exact zf _ H2 μ2 (.refl _ _) ie (aq.aK.mpr ⟨D,atD,rfl⟩)
  ·rw[aeU ok]at zf;exact zf.elim
def R_{X':Cx}{e:Expr}{m:ME}(h:JE X' e m):PE X' e (tK X'.K (lQ X') m):=by
 refine λpins s σ H Q I zz=>?_;obtain⟨μ,env,st,a,b,c⟩:=zz;exact h pins s σ H Q I ⟨μ,env,st,a,b,c.post⟩
def R9{X':Cx}{e:Expr}{m:MG}(h:JG X' e m):PG X' e (tKG X'.K m):=by
 refine λpins s σ H v u Q I r zz=>?_;obtain⟨μ,env,st,d,a,b,b2,c⟩:=zz;exact h pins s σ H v u Q I r ⟨μ,env,st,d,a,b,b2,c.post⟩
def aaN{X':Cx}{e:Expr}{m:MT}(h:JT X' e m):PT X' e (tK X'.K zE m):=by
 refine λpins s σ H Q I zz=>?_;obtain⟨μ,env,st,a,b,c⟩:=zz;exact h pins s σ H Q I ⟨μ,env,st,a,b,c.post⟩
def JTs(X:Cx)(ifs:List Expr)(m:MT):Prop:=XJ X ifs (tK X.K zE m)
def M4:JTs X' [] rH:=by
 refine λpins s σ H Q I zz=>?_;obtain⟨μ,env,st,a,b,c⟩:=zz;exact Od pins s σ H Q I (c true H μ (.refl _ _) b rfl)
def Qe{X':Cx}{m:MT}(h:JT X' c m):JTs X' [c] m:=Oc (aaN h)
def Ae(sc sc0:Scope):Prop:=∀x∈sc.names,x.2=.free->sc0.names.lookup x.1=some .cell\/sc0.names.lookup x.1=some .free
instance (sc sc0:Scope):Decidable (Ae sc sc0):=inferInstanceAs (Decidable (∀x∈sc.names,x.2=.free->sc0.names.lookup x.1=some .cell\/sc0.names.lookup x.1=some .free))
def RL(hi:JI X tg iter mi)(S:fK scope)(QD:Ae scope sc0)(uh:lF X scope capt N)(hc:X.calm=true) 
  (hg:∀cl C fp s H,JG (cN X N scope cl C fp s H) tg g) (ht:∀cl C fp s H,JTs (cN X N scope cl C fp s H) ifs t) (he:∀cl C fp s H,JE (cN X N scope cl C fp s H) elt me)
  (h0:X.env.scope=sc0:=by rfl) (hs:∀x,foldedSetIterable iter X.env x=pure x:=by intro _;rfl):JE X (.ListComp elt [⟨tg,iter,ifs,0⟩] scope pos) (cR capt mi g t me) :=
 JE.of (O5 (g:=tKG X.K g) (tt:=tK X.K zE t) (te:=tK X.K (lQ X) me) hi S (by subst h0;exact QD) uh hc (λcl C fp s H=>R9 (hg cl C fp s H)) ht (λcl C fp s H=>R_ (he cl C fp s H)) hs) fun σ H Q h=>zso h
def zk4(i:Nat)(hi:JI X tg iter mi)(S:fK scope)(QD:Ae scope sc0)(uh:lF X scope capt N)(hc:X.calm=true) 
  (hg:∀cl C fp s H,JG (cN X N scope cl C fp s H) tg g) (ht:∀cl C fp s H,JTs (cN X N scope cl C fp s H) ifs t) (he:∀cl C fp s H,JE (cN X N scope cl C fp s H) elt me)
  (hN:X.N.Nodup) (hy:X.N[i]? = some y:=by rfl) (hx:Loc X.env.scope y:=by first | exact Or.inl rfl | exact Or.inr rfl) (hsw:swapsWith (.ListComp elt [⟨tg,iter,ifs,0⟩] scope pos) (some (.Name y py)) Uz.line X.env=pure true:=by rfl)
  (h0:X.env.scope=sc0:=by rfl) (hs:∀x,foldedSetIterable iter X.env x=pure x:=by intro _;rfl) (hf:X.fn y=true\/X.env.scope.names.lookup y=some .local:=by first | exact .inl rfl | exact .inr rfl | assumption) :
  JS X (.Assign [.Name y py] (.ListComp elt [⟨tg,iter,ifs,0⟩] scope pos) Uz) (aJ i (cR capt mi g t me)):=by
 refine JS.of (zqp (g:=tKG X.K g) (tt:=tK X.K zE t) (te:=tK X.K (lQ X) me) hN hy hx hsw hi S (by subst h0;exact QD) uh hc (λcl C fp s H=>R9 (hg cl C fp s H)) ht (λcl C fp s H=>R_ (he cl C fp s H)) hs hf) λE σ H zz=>?_;obtain⟨μ,env,st,hE,hs,hp⟩:=zz;refine zso ⟨μ,env,st,hE,hs,(cz.val hp).imp ?_⟩;rintro x H1 ⟨μ1,st1,d,g1,bB,hx,aR⟩;exact aR.nx bB ((hE.mono g1).set hx)
end
def zhn:∀(env:aM) (st:ak) (as:List D) (st1:ak),au env st=.ok as st1->as.length=([]:List Expr).length:=by
 intro env st as st1 h;cases h;rfl
def Mh{e:Expr}{es:List Expr}{a:ME}{r:MA}(h:∀(env:aM) (st:ak) (as:List D) (st1:ak),r env st=.ok as st1->as.length=es.length) :
  ∀(env:aM) (st:ak) (as:List D) (st1:ak),aj a r env st=.ok as st1->as.length=(e::es).length:=by
 intro env st as st1 q;unfold aj at q;cases h1:a env st with
 | bad=>rw[h1]at q;cases q
 | err x s=>rw[h1]at q;cases q
 | ok x s =>
  rw[h1,R.aB]at q;cases h2:r env s with
  | bad=>rw[h2]at q;cases q
  | err x s=>rw[h2]at q;cases q
  | ok xs s2 =>
   rw[h2,R.aB]at q;cases q;rw[gC,gC,h env s xs _ h2]
def fuel:Nat:=1000000
end M
namespace M
open L2
def eY(h:under st.length d):gc st (.ok d st)=.ok d st:=by
 have:=sJ (st:=st) (g:=[]) h;simpa using this
def Yh(h:o9 st.length o):gc st (.ok (.loc st.length) (st++[o]))=.ok (.loc st.length) (st++[o]):=by
 have:=z7 (st:=st) (g:=[]) (g':=[]) h;simpa using this
def zo4(h:aA st n=some ds):aA (st++l) n=some ds:=by
 unfold aA at h ⊢;cases e:st[n]? with
 | none=>rw[e]at h;cases h
 | some o =>
  rw[gK (gf.mp e).1,e];rw[e]at h;exact h
def dG{st l:ak}{n:Nat}{o:MO}(h:st[n]? = some o):(st++l)[n]? = some o:=by rw[gK (gf.mp h).1];exact h
@[simp] def zsa{st l:ak}:(st++l)[st.length]? = l[0]?:=by rw[h_ (gb _)];simp
@[simp] def Ke{st l:ak}{k:Nat}:(st++l)[st.length+k]? = l[k]?:=by rw[h_ (Nat.le_add_right _ _)];simp
@[simp] def G8{st l:ak}{o:MO}:(st++l).set st.length o=st++l.set 0 o:=by rw[List.set_append_right _ _ (gb _)];simp
@[simp] def Wx{st l:ak}{k:Nat}:aA (st++l) (st.length+k)=aA l k:=by unfold aA;rw[Ke]
@[simp] def SM:aA (o::l) 0=(match o with | .lst ds=>some ds | .frz ds=>some ds | _=>none):=by
 unfold aA;cases o<;>rfl
@[simp] def SJ:aA (o::l) (n+1)=aA l n:=by unfold aA;simp
def Yw(xs:List α)(k:Nat):p_ xs (k:Int)=xs[k]?:=by
 unfold p_ zW;rw[aeT (by omega)];by_cases h:k<xs.length
 ·rw[aeT (by omega)];simp
 ·rw[aeU (by omega)];simp;omega
def Ex(I:List D->aM->ak->Prop)(h0:I [] env st) 
  (step:∀pre d post env st,items=pre++d::post->I pre env st->ue gs st/\∃env1 st1,g d env st=.ok env1 st1/\∃bf st2,(b env1 st1=.ok (.nx bf) st2\/b env1 st1=.ok (.cn bf) st2)/\I (pre++[d]) bf st2)
  (Xd:∀env st,I items env st->ue gs st):∃bY st',cg g b gs items env st=.ok (.nx bY) st'/\I items bY st':=by
 have key:∀(post pre:List D) (env:aM) (st:ak),items=pre++post->I pre env st->∃bY st',cg g b gs post env st=.ok (.nx bY) st'/\I items bY st':=by
  intro post
  induction post with
  | nil =>
   intro pre env st e hI;have:items=pre:=by simpa using e
   subst this;exact⟨env,st,by rw[cg,aeT (Xd env st hI)],hI⟩
  | cons d post ih =>
   intro pre env st e hI;obtain⟨ok,env1,st1,h1,bf,st2,h2,hI2⟩:=step pre d post env st e hI;obtain⟨bY,st',h3,h4⟩:=ih (pre++[d]) bf st2 (by simp[e]) hI2;refine⟨bY,st',?_,h4⟩;rw[cg,aeT ok,h1,R.aB];rcases h2 with h2 | h2<;>(rw[h2,R.aB];exact h3)
 exact key items [] env st rfl h0
def zex{capt:List (Option Nat)}{mi:MI}{g:MG}{t:MT}{e:ME}{env:aM}{st st1:ak}{items:List D}{gs:List (Nat×MO)}(p:D->Bool)(f:D->D)(Pe:aM->Prop)
  (hi:mi env st=.ok (items,gs) st1) (h0:Pe (j9 capt env)) (hl:items.length<=1000000) (hg:∀ys,ue gs (st1++[.lst ys]))
  (step:∀d∈items,∀bY ys,Pe bY->∃env1,Pe env1/\g d bY (st1++[.lst ys])=.ok env1 (st1++[.lst ys])/\t env1 (st1++[.lst ys])=.ok (p d) (st1++[.lst ys]) /\
   (p d=true->e env1 (st1++[.lst ys])=.ok (f d) (st1++[.lst ys]))) :
  cR capt mi g t e env st=.ok (.loc st1.length) (st1++[.lst ((items.filter p).map f)]):=by
 have key:∀(post:List D) (bY:aM) (ys:List D),(∀d∈post,d∈items)->Pe bY->ys.length+post.length<=1000000 ->
   fG g t e gs st1.length post bY (st1++[.lst ys])=.ok (.loc st1.length) (st1++[.lst (ys++(post.filter p).map f)]):=by
  intro post
  induction post with
  | nil=>intro bY ys _ _ _;rw[fG,aeT (hg ys)];simp
  | cons d post ih =>
   intro bY ys hm hP hn;obtain⟨env1,hP1,h1,h2,h3⟩:=step d (hm d (by simp)) bY ys hP;have Mw:∀d∈post,d∈items:=λd hd=>hm d (kW _ hd);rw[gC]at hn;rw[fG,aeT (hg ys),h1,R.aB,h2,R.aB];cases hp:p d with
   | false =>
    rw[aeU (by simp),ih env1 ys Mw hP1 (by omega)];simp[hp]
   | true =>
    rw[aeT rfl,h3 hp,R.aB];simp only[zsa,mY];rw[aeT (by omega),G8,pK,ih env1 (ys++[f d]) Mw hP1 (by simp;omega)];simp[hp]
 unfold cR;rw[hi,R.aB,key items (j9 capt env) [] (λd hd=>hd) h0 (by simpa using hl)];simp
def T_(f:D->D)(Pe:aM->Prop) 
  (hi:mi env st=.ok (items,gs) st1) (h0:Pe (j9 capt env)) (hl:items.length<=1000000) (hg:∀ys,ue gs (st1++[.lst ys]))
  (step:∀d∈items,∀bY ys,Pe bY->∃env1,Pe env1/\g d bY (st1++[.lst ys])=.ok env1 (st1++[.lst ys])/\e env1 (st1++[.lst ys])=.ok (f d) (st1++[.lst ys])) :
  cR capt mi g rH e env st=.ok (.loc st1.length) (st1++[.lst (items.map f)]):=by
 have:=zex (capt:=capt) (mi:=mi) (g:=g) (t:=rH) (e:=e) (env:=env) (st:=st) (λ_=>true) f Pe hi h0 hl hg λd hd bY ys hP=>by
  obtain⟨env1,a,b,c⟩:=step d hd bY ys hP;exact⟨env1,a,b,rfl,λ_=>c⟩
 have e2:items.filter (λ_=>true)=items:=List.filter_eq_self.mpr (by simp);rw[e2]at this;exact this
section
variable  (env:aM)(st:ak)(a b:ME)(x y:D)(mA:MA)(tc ta tb:MT)(m1 m2:MS)
@[simp] def vN(i:Nat):vr i env st=match env[i]? with | some (some d)=>.ok d st | _=>.bad:=dW rfl
@[simp] def N6(d:D):ct d env st=.ok d st:=dW rfl
@[simp] def aem(g:D->D->ak->R D):aF g a b env st=(a env st).bind λx st1=>(b env st1).bind λy st2=>g x y st2:=dW rfl
@[simp] def aen(g:D->ak->R D):zL g a env st=(a env st).bind λx st1=>g x st1:=dW rfl
@[simp] def aei :fu a env st=(a env st).bind λx st1=>match x with | .bl b=>.ok b st1 | _=>.bad:=dW rfl
@[simp] def aaA :qm a env st=(a env st).bind λx st1=>match cT x st1 with | some b=>.ok b st1 | none=>.bad:=dW rfl
@[simp] def ac3 :oR ta tb env st=(ta env st).bind λx st1=>if x then tb env st1 else .ok false st1:=dW rfl
@[simp] def ael :O_ ta tb env st=(ta env st).bind λx st1=>if x then .ok true st1 else tb env st1:=dW rfl
@[simp] def acX :vU ta env st=(ta env st).bind λx st1=>.ok (!x) st1:=dW rfl
@[simp] def ac2 :xX a b env st=(a env st).bind λx st1=>match x with | .bl true=>b env st1 | .bl false=>.ok (.bl false) st1 | _=>.bad:=dW rfl
@[simp] def aek :orV a b env st=(a env st).bind λx st1=>match x with | .bl true=>.ok (.bl true) st1 | .bl false=>b env st1 | _=>.bad:=dW rfl
@[simp] def aer :Mu tc a b env st=(tc env st).bind λx st1=>if x then a env st1 else b env st1:=dW rfl
@[simp] def zG :au env st=.ok [] st:=dW rfl
@[simp] def N7 :aj a mA env st=(a env st).bind λx st1=>(mA env st1).bind λxs st2=>.ok (x::xs) st2:=dW rfl
@[simp] def acT :fM mA env st=(mA env st).bind λds st1=>if ds.length<=1000000 then .ok (.tup ds) st1 else .bad:=dW rfl
@[simp] def Hq :dw mA env st=(mA env st).bind λds st1=>if ds.length<=1000000 then .ok (.loc st1.length) (st1++[.lst ds]) else .bad:=dW rfl
@[simp] def aeo :Y4 env st=.ok none st:=dW rfl
@[simp] def aep :Zf a env st=(a env st).bind λx st1=>match x with | .int i=>.ok (some i) st1 | _=>.bad:=dW rfl
@[simp] def aej(l h:MP):UL a l h env st=(a env st).bind λx st1=>(l env st1).bind λlo st2=>(h env st2).bind λhi ig=>Am x lo hi ig:=dW rfl
@[simp] def aca(g:List D->ak->R D):bw g mA env st=(mA env st).bind λds st1=>g ds st1:=dW rfl
@[simp] def ab3 :bN env st=.ok (.nx env) st:=dW rfl
@[simp] def wW :aC m1 m2 env st=(m1 env st).bind λo st1=>match o with | .nx env1=>m2 env1 st1 | o=>.ok o st1:=dW rfl
@[simp] def acW :retS a env st=(a env st).bind λd st1=>.ok (.rt d) st1:=dW rfl
@[simp] def ab7 :eF a env st=(a env st).bind λ_ st1=>.ok (.nx env) st1:=dW rfl
@[simp] def aeq :iJ tc m1 m2 env st=(tc env st).bind λx st1=>if x then m1 env st1 else m2 env st1:=dW rfl
@[simp] def ac0 :Xz env st=.ok (.bk env) st:=dW rfl
@[simp] def zs2(i:Nat):aO i x env st=.ok (env.set i (some x)) st:=dW rfl
@[simp] def ac1(g:MG):jC a g env st=(a env st).bind λd st1=>(g d env st1).bind λenv1 st2=>.ok (.nx env1) st2:=dW rfl
@[simp] def zF(i:Nat):aJ i a env st=(a env st).bind λd st1=>.ok (.nx (env.set i (some d))) st1:=dW rfl
@[simp] def acY :vY [] env st=.ok env st:=dW rfl
@[simp] def ab9(g:MG)(r:MJ)(d:D)(ds:List D):eG g r (d::ds) env st=(g d env st).bind λenv1 st1=>r ds env1 st1:=dW rfl
@[simp] def acS(n:Nat)(g:MJ)(ds:List D):ux n g (.tup ds) env st=if ds.length=n then g ds env st else .bad:=dW rfl
@[simp] def acU(g:D->D->D->ak->R Unit)(d:D):rY g a b d env st=(a env st).bind λx st1=>(b env st1).bind λy st2=>(g x y d st2).bind λ_ ig=>.ok env ig:=dW rfl
@[simp] def ab_(F:FD)(dd:List D):az F dd mA env st=(mA env st).bind λas st1=>(F (as++dd) st1).sure:=dW rfl
@[simp] def ab6(T:String)(g:D->List D->ak->R D):cL T g a mA env st=(a env st).bind λx st1=>if cM T x st1=true then (mA env st1).bind λxs st2=>g x xs st2 else .bad:=dW rfl
@[simp] def aaB(T:String)(g:D->List D->ak->R D):iI T g a env st=(a env st).bind λx st1=>if cM T x st1=true then g x [] st1 else .bad:=dW rfl
@[simp] def zH(mi:MI)(g:MG):je mi g m1 env st=(mi env st).bind λs st1=>cg g m1 s.2 s.1 env st1:=dW rfl
@[simp] theorem wX :jr a env st=(a env st).bind λd st1=>match d with
 | .loc n=>(match st1[n]? with
  | some (.lst ds)=>.ok (ds,[(n,.lst ds)]) st1
  | some (.frz ds)=>.ok (ds,[(n,.frz ds)]) st1
  | _=>.bad)
 | .tup ds=>.ok (ds,[]) st1
 | _=>.bad:=dW rfl
@[simp] theorem Dv :dq mA env st=(mA env st).bind λds st1=>match ds with
 | [.int j]=>if -(2 ^ 62)<=j/\j<2 ^ 62 then .ok (jq 0 j.toNat,[]) st1 else .bad
 | _=>.bad:=dW rfl
@[simp] theorem ab8 :yH mA env st=(mA env st).bind λds st1=>match ds with
 | [.loc n]=>(match sy st1 n with | some (xs,o)=>.ok (dJ 0 xs,[(n,o)]) st1 | none=>.bad)
 | _=>.bad:=dW rfl
@[simp] theorem acV :NT mA env st=(mA env st).bind λds st1=>match ds with
 | [.loc n]=>(match sy st1 n with | some (xs,o)=>.ok (xs.reverse,[(n,o)]) st1 | none=>.bad)
 | _=>.bad:=dW rfl
@[simp] def Dy(i j:Int):aX (.int i) (.int j) st=.ok (.int (i+j)) st:=dW rfl
@[simp] def YT(i j:Int):uD (.int i) (.int j) st=.ok (.int (i - j)) st:=by simp[uD,qR]
def CP(i j:Int)(h:(-(2 ^ 64)<i/\i<2 ^ 64)\/(-(2 ^ 64)<j/\j<2 ^ 64)):eZ (.int i) (.int j) st=.ok (.int (i*j)) st:=by
 unfold eZ qR;dsimp only;rw[aeT h]
def zd7(i j:Int)(h:0<j/\j<2 ^ 64):eQ (.int i) (.int j) st=.ok (.int (i / j)) st:=by
 unfold eQ qR;dsimp only;rw[aeT h]
def zfp(i j:Int)(h:0<j):fZ (.int i) (.int j) st=.ok (.int (i % j)) st:=by
 unfold fZ qR;dsimp only;rw[aeT h]
@[simp] def Ho(i j:Int):ltV (.int i) (.int j) st=.ok (.bl (decide (i<j))) st:=by simp[ltV,qR]
@[simp] def aaE(i j:Int):Ka (.int i) (.int j) st=.ok (.bl (decide (j<i))) st:=by simp[Ka,qR]
@[simp] def aaF(L:Nat)(i j:Int):eN (L+1) (.int i) (.int j) st=.ok (.bl (decide (i=j))) st:=by
 have e:(i==j)=decide (i=j):=by rw[mz];simp
 simp only[eN,lC,jJ,e,Ku,K8];rw[aeT ⟨trivial,trivial,Nat.succ_pos L⟩]
@[simp] def Hr(L:Nat)(i j:List Nat):eN (L+1) (.str i) (.str j) st=.ok (.bl (decide (i=j))) st:=by
 have e:(i==j)=decide (i=j):=by rw[mz];simp
 simp only[eN,lC,jJ,e,Ks,K7];rw[aeT ⟨trivial,trivial,Nat.succ_pos L⟩]
def yh(n:Nat)(i:Int)(ds:List D)(d:D)(h:aA st n=some ds)(hi:p_ ds i=some d):aN (.loc n) (.int i) st=.ok d st:=by
 simp[aN,h,hi]
def iw(i:Int)(ds:List D)(d:D)(hi:p_ ds i=some d):aN (.tup ds) (.int i) st=.ok d st:=by
 simp[aN,hi]
@[simp] def aaD(T:String)(i:List Nat):wG T (.str i) st=.ok (.bl (iG "str" T)) st:=dW rfl
@[simp] def aaC(T:String)(i:List D):wG T (.tup i) st=.ok (.bl (iG "tuple" T)) st:=dW rfl
@[simp] def U7:fL .non .non st=.ok (.bl true) st:=dW rfl
end
end M
namespace L2
open PySem PySem.Spec PyProof.Rows
section
variable  {κ:Type}[DecidableEq κ]
def iY(kvs:List (κ×V))(k:κ):Option V:=(kvs.find? λkv=>decide (kv.1=k)).map (·.2)
noncomputable def putK(kvs:List (κ×V))(k:κ)(v:V):List (κ×V) :=
 if (kvs.any λkv=>decide (kv.1=k))=true then kvs.map (λkv=>if kv.1=k then (kv.1,v) else kv) else kvs++[(k,v)]
def zh8{p:κ×V}{r:List (κ×V)}{k:κ}(e:p.1=k):iY (p::r) k=some p.2:=by simp[iY,mq,e]
def zhk{p:κ×V}{r:List (κ×V)}{k:κ}(e:¬ p.1=k):iY (p::r) k=iY r k:=by simp[iY,mq,e]
theorem zlz(k:κ):∀kvs:List (κ×V),(kvs.any λkv=>decide (kv.1=k))=(iY kvs k).isSome
 | []=>rfl
 | p::r=>by
  rw[mW];by_cases e:p.1=k
  ·simp only[zh8 e,ae3 e,Bool.true_or,Option.isSome_some]
  ·rw[zhk e,aeW e,Bool.false_or];exact zlz k r
def zfv(kvs:List (κ×V))(k:κ)(v:V):(putK kvs k v).length<=kvs.length+1:=by
 unfold putK
 split
 ·rw[gq];omega
 ·rw[gJ,gC,mK];omega
def Hu{kvs:List (κ×V)}{k:κ}(v:V)(h:iY kvs k=none):putK kvs k v=kvs++[(k,v)]:=by
 unfold putK;rw[zlz,h];exact aeU (by decide)
def lD.sE(r:lD o u):o.isSome=u.isSome:=by
 cases o with
 | none=>cases u with
  | none=>rfl
  | some _=>exact (show False from r).elim
 | some _=>cases u with
  | none=>exact (show False from r).elim
  | some _=>rfl
def lD.getD(r:lD o u)(rd:RelV d d'):RelV (o.getD d) (u.getD d'):=by
 cases o with
 | none=>cases u with
  | none=>exact rd
  | some _=>exact (show False from r).elim
 | some _=>cases u with
  | none=>exact (show False from r).elim
  | some _=>exact r
def KV.val{kvs:List (κ×V)}{vs:List (κ×Value)}(r:KV kvs vs)(k:κ):lD (iY kvs k) (valueAt vs k):=by
 unfold KV at r
 induction r with
 | nil=>exact True.intro
 | @cons p q ps qs h t ih =>
  obtain⟨h1,h2⟩:=h;by_cases e:p.1=k
  ·have e':q.1=k:=h1.symm.trans e;have b:valueAt (q::qs) k=some q.2:=by simp[valueAt,mq,e']
   rw[zh8 e,b];exact h2
  ·have e':¬ q.1=k:=λz=>e (h1.trans z);have b:valueAt (q::qs) k=valueAt qs k:=by simp[valueAt,mq,e']
   rw[zhk e,b];exact ih
def KV.any(r:KV kvs vs)(k:κ):(kvs.any λkv=>decide (kv.1=k))=vs.any λkv=>decide (kv.1=k):=by
 unfold KV at r
 induction r with
 | nil=>rfl
 | cons h t ih=>rw[mW,mW,ih,h.1]
def KV.repl(r:KV kvs vs)(k:κ)(ry:RelV y u) :
  KV (kvs.map λkv=>if kv.1=k then (kv.1,y) else kv) (vs.map λkv=>if kv.1=k then (kv.1,u) else kv):=by
 unfold KV at r ⊢
 induction r with
 | nil=>exact .nil
 | @cons p q ps qs h t ih =>
  rw[gr,gr];refine .cons ?_ ih;obtain⟨h1,h2⟩:=h;by_cases e:p.1=k
  ·rw[aeT e,aeT (h1.symm.trans e)];exact⟨h1,ry⟩
  ·rw[aeU e,aeU (λz=>e (h1.trans z))];exact⟨h1,h2⟩
def KV.put(r:KV kvs vs)(k:κ)(ry:RelV y u):KV (putK kvs k y) (stored vs k u):=by
 unfold putK stored;rw[r.any k];by_cases e:(vs.any λkv=>decide (kv.1=k))=true
 ·rw[aeT e,aeT e];exact r.repl k ry
 ·rw[aeU e,aeU e];exact Paired.snoc r ⟨rfl,ry⟩
def KV.length(r:KV kvs vs):kvs.length=vs.length:=afb r
end
def uP(r:RelV (kV k) u):(bF P w).is k u=true:=by
 cases k with
 | inl i=>obtain⟨t,e⟩:=(show ∃t,u=Value.int i t from r);subst e;exact zox P w i t
 | inr x=>obtain⟨t,e⟩:=(show ∃t,u=Value.str x t from r);subst e;exact zot P w x t
theorem zne:∀{ks:List Key} {us:List Value},Vals (ks.map kV) us->ItemsAre (bF P w) ks us
 | [],_,r=>by rw[km]at r;cases r;exact .nil
 | k::ks,_,r=>by
  rw[gr]at r;cases r with
  | cons h t=>exact .cons (uP h) (zne t)
abbrev KT(H:Hp):List (List Key×V)->List (List Key×Addr×Value)->Prop:=Paired λp q=>p.1=q.1/\H q.2.1=some (.tup (p.1.map kV))/\RelV p.2 q.2.2
def KT.val{H:Hp}{kvs:List (List Key×V)}{xs:List (List Key×Addr×Value)}(r:KT H kvs xs)(k:List Key):lD (iY kvs k) ((atKey xs k).map (·.2)):=by
 induction r with
 | nil=>exact True.intro
 | @cons p q ps qs h t ih =>
  obtain⟨h1,_,h2⟩:=h;by_cases e:p.1=k
  ·have e':q.1=k:=h1.symm.trans e;have b:atKey (q::qs) k=some q.2:=by simp[atKey,mq,e']
   rw[zh8 e,b];exact h2
  ·have e':¬ q.1=k:=λz=>e (h1.trans z);have b:atKey (q::qs) k=atKey qs k:=by simp[atKey,mq,e']
   rw[zhk e,b];exact ih
def KT.repl(r:KT H kvs xs)(k:List Key)(ry:RelV y u) :
  KT H (kvs.map λkv=>if kv.1=k then (kv.1,y) else kv) (xs.map (putAt k u)):=by
 induction r with
 | nil=>exact .nil
 | @cons p q ps qs h t ih =>
  rw[gr,gr];refine .cons ?_ ih;obtain⟨h1,h2,h3⟩:=h;unfold putAt;by_cases e:p.1=k
  ·rw[aeT e,aeT (h1.symm.trans e)];exact⟨h1,h2,ry⟩
  ·rw[aeU e,aeU (λz=>e (h1.trans z))];exact⟨h1,h2,h3⟩
def KT.put(r:KT H kvs xs)(k:List Key)(hb:H b=some (.tup (k.map kV)))(ry:RelV y u) :
  KT H (putK kvs k y) (storedH xs k b u):=by
 have e:(kvs.any λkv=>decide (kv.1=k))=(atKey xs k).isSome:=by
  rw[zlz,(r.val k).sE,Option.isSome_map]
 unfold putK storedH;rw[e];by_cases q:(atKey xs k).isSome=true
 ·rw[aeT q,aeT q];exact r.repl k ry
 ·rw[aeU q,aeU q];exact Paired.snoc r ⟨rfl,hb,ry⟩
def KT.keeps(r:KT H kvs xs)(ht:∀b ys,H b=some (.tup ys)->H' b=some (.tup ys)):KT H' kvs xs :=
 Paired.VR r λ_ _ z=>⟨z.1,ht _ _ z.2.1,z.2.2⟩
section
variable  {P:Program}{w:World}{H:Hp}{h:Heap}{a:Addr}
def R8(ok:lE P w H h)(e:Rd H a u):bW P w H h a u:=e.ok ok
def sY(ok:lE P w H h)(e:Rd H a (.dK kvs)):kvs.length<=sizeLine/\(a==sysModules)=false/\∃vs,KV kvs vs/\h.DictOf (bF P w) a vs :=
 show bW P w H h a (.dK kvs) from R8 ok e
def Tp(ok:lE P w H h)(e:H a=some (.dK kvs)):kvs.length<=sizeLine/\(a==sysModules)=false/\∃vs,KV kvs vs/\h.DictOf (bF P w) a vs:=sY ok (.inl e)
def TX(ok:lE P w H h)(e:H a=some (.tup (ks.map kV))):(tupleKind (bF P w)).is h ks a:=by
 obtain⟨_,its,r,o,h1,h2,n,h3⟩:=(show bW P w H h a (.tup (ks.map kV)) from ok a _ e);exact⟨o,its.toArray,n,h1,h2,h3,by simpa using zne r⟩
def wI(ok:lE P w H h)(e:Rd H a (.dT kvs)):kvs.length<=sizeLine/\(a==sysModules)=false /\
  ∃xs,KT H kvs xs/\h.DictOfH (tupleKind (bF P w)) a xs:=by
 obtain⟨z,y,xs,r,o,es,ep,h1,h2,h3,h4,h5⟩:=(show bW P w H h a (.dT kvs) from R8 ok e);refine⟨z,y,xs,r,o,es,ep,h1,h2,h3,h4,λx hx=>?_,h5⟩;have all:∀{l:List (List Key×V)} {m:List (List Key×Addr×Value)},KT H l m->∀x∈m,(tupleKind (bF P w)).is h x.1 x.2.1:=by
  intro l m q
  induction q with
  | nil=>intro x hx;exact nomatch hx
  | @cons p q ps qs hq t ih =>
   intro x hx;rcases gj.mp hx with e | hx
   ·subst e;exact TX ok (by rw[<-hq.1];exact hq.2.1)
   ·exact ih x hx
 exact all r x hx
def Tn(ok:lE P w H h)(e:H a=some (.dT kvs)):kvs.length<=sizeLine/\(a==sysModules)=false /\
  ∃xs,KT H kvs xs/\h.DictOfH (tupleKind (bF P w)) a xs:=wI ok (.inl e)
end
def qi(H:Hp)(a:Addr)(y:V)(r:Option V):Prop :=
 (∃kvs k,Rd H a (.dK kvs)/\y=kV k/\r=iY kvs k)\/∃kvs k b,Rd H a (.dT kvs)/\y=.ref b/\H b=some (.tup (k.map kV))/\r=iY kvs k
def Af(H:Hp)(a:Addr)(y v:V)(H':Hp):Prop :=
 (∃kvs k,H a=some (.dK kvs)/\y=kV k/\kvs.length<sizeLine/\H'=upd H a (.dK (putK kvs k v))) \/
 ∃kvs k b,H a=some (.dT kvs)/\y=.ref b/\H b=some (.tup (k.map kV))/\kvs.length<sizeLine/\H'=upd H a (.dT (putK kvs k v))
def qi.k{H:Hp}{a:Addr}{kvs:List (Key×V)}{k:Key}(e:H a=some (.dK kvs)):qi H a (kV k) (iY kvs k):=.inl ⟨kvs,k,.inl e,rfl,rfl⟩
def qi.t{H:Hp}{a b:Addr}{kvs:List (List Key×V)}{k:List Key}(e:H a=some (.dT kvs))(eb:H b=some (.tup (k.map kV))):qi H a (.ref b) (iY kvs k):=.inr ⟨kvs,k,b,.inl e,rfl,eb,rfl⟩
def Af.k{H:Hp}{a:Addr}{kvs:List (Key×V)}{k:Key}{v:V}(e:H a=some (.dK kvs))(hl:kvs.length<sizeLine):Af H a (kV k) v (upd H a (.dK (putK kvs k v))):=.inl ⟨kvs,k,e,rfl,hl,rfl⟩
def Af.t{H:Hp}{a b:Addr}{kvs:List (List Key×V)}{k:List Key}{v:V}(e:H a=some (.dT kvs))(eb:H b=some (.tup (k.map kV)))(hl:kvs.length<sizeLine) :
  Af H a (.ref b) v (upd H a (.dT (putK kvs k v))):=.inr ⟨kvs,k,b,e,rfl,eb,hl,rfl⟩
section
variable  {X:Cx}{pins:List (Addr×Obj)}{σ:St}{H:Hp}{s:Shared}{a:Addr}{y v:V}{u r:Value}{o:Option V}{A:Around}{E:Value->Shared->Prop}
def Inv.big(I:Inv X pins σ H s):sysModules<s.heap.objs.size:=by
 have h:mainGlobals<s.heap.objs.size:=(I.mod.glob.keeps I.bk).lt;exact Nat.lt_trans (by decide) h
def Fb(hu:A.units+1<cLine)(I:Inv X pins σ H s)(g:qi H a y (some v))(ry:RelV y u)(h:∀w' s',Inv X pins σ H s'->RelV v w'->Q w' s') :
  wpAny (model X.prog X.w) A (getItem (.ref a) u) Q E s:=by
 rcases g with⟨kvs,k,e,ey,l⟩ | ⟨kvs,k,b,e,ey,eb,l⟩
 ·subst ey;obtain⟨z,hd,vs,rel,dd⟩:=sY I.bI e;obtain⟨w',hw,zx⟩:=lD.some_of (v:=v) (o:=valueAt vs k) (by rw[l];exact rel.val k);exact wpAny_getItem_of (uP ry) dd.mapOf hw (h w' _ (I.tok _) zx)
 ·subst ey;cases (show u=Value.ref b from ry);obtain⟨z,hd,xs,rel,dd⟩:=wI I.bI e;obtain⟨w',hw,zx⟩:=lD.some_of (v:=v) (o:=(atKey xs k).map (·.2)) (by rw[l];exact rel.val k);obtain⟨p,hp,dH⟩:=ni.mp hw;refine wpAny_getItem_heap (afe hu) (TX I.bI eb) dd hp ?_;rw[dH];exact h w' _ (I.tok _) zx
def QZ(hu:A.units+1<cLine)(I:Inv X pins σ H s)(g:qi H a y o)(ry:RelV y u)(h:∀s',Inv X pins σ H s'->Q (.bool (!o.isSome)) s') :
  wpAny (model X.prog X.w) A (compareOp .NotIn u (.ref a)) Q E s:=by
 rcases g with⟨kvs,k,e,ey,l⟩ | ⟨kvs,k,b,e,ey,eb,l⟩
 ·subst ey;obtain⟨z,hd,vs,rel,dd⟩:=sY I.bI e;refine wpAny_notIn_of (uP ry) hd dd.mapOf ?_;rw[<-(rel.val k).sE,<-l];exact h _ (I.tok _)
 ·subst ey;cases (show u=Value.ref b from ry);obtain⟨z,hd,xs,rel,dd⟩:=wI I.bI e;refine wpAny_notIn_heap (afe hu) (TX I.bI eb) hd dd ?_;have q:=(rel.val k).sE;rw[Option.isSome_map]at q;rw[<-q,<-l];exact h _ (I.tok _)
def znu(I:Inv X pins σ H s)(mu:Mut (H a))(hs:Heap.SameBut a s.heap h')(he:∃q,h'.get? a=some q)(new:bW X.prog X.w (upd H a ob) h' a ob) :
  Inv X pins σ (upd H a ob) { s with heap:=h',toks:=t' } :=
 I.write (x:=a) (e:=a) mu (.inl rfl) (λb q hb z=>(hs.2 b hb).trans z) he new
def Aa(z:kvs.length<=sizeLine)(hd:(a==sysModules)=false)(rel:KV kvs vs)(dd:h'.DictOf (bF P w) a vs) :
  bW P w H' h' a (.dK kvs):=⟨z,hd,vs,rel,dd⟩
def zno(hu:A.units+1<cLine)(I:Inv X pins σ H s)(g:Af H a y v H')(ry:RelV y u)(rv:RelV v r)(h:∀s',Inv X pins σ H' s'->Q () s') :
  wpAny (model X.prog X.w) A (setItem (.ref a) u r) Q E s:=by
 rcases g with⟨kvs,k,e,ey,l,eH⟩ | ⟨kvs,k,b,e,ey,eb,l,eH⟩
 ·subst ey eH;obtain⟨z,hd,vs,rel,dd⟩:=Tp I.bI e;have hz:vs.length<=sizeLine:=by rw[<-rel.length];exact z
  have hl:(putK kvs k v).length<=sizeLine:=by have:=zfv kvs k v;omega
  refine wpAny_setItem_pairs (hsz:=hz) (uP ry) dd λh' KR hs=>h _ ?_;have he:∃q,h'.get? a=some q:=let ⟨q,_,_,hq,_⟩:=KR;⟨q,hq⟩;exact znu I (by rw[e];exact True.intro) hs he (Aa hl hd (rel.put k rv) KR)
 ·subst ey eH;cases (show u=Value.ref b from ry);obtain⟨z,hd,xs,rel,dd⟩:=Tn I.bI e;have hz:xs.length<=sizeLine:=by rw[<-afb rel];exact z
  have hl:(putK kvs k v).length<=sizeLine:=by have:=zfv kvs k v;omega
  refine wpAny_setItem_heap (hsz:=hz) (afe hu) (TX I.bI eb) dd λh' KR hs=>h _ ?_;obtain⟨q,es,ep,hq,h2,h3,h4,_,h5⟩:=KR;refine znu I (by rw[e];exact True.intro) hs ⟨q,hq⟩ ⟨hl,hd,_,(rel.put k eb rv).keeps λc ys ec=>?_,q,es,ep,hq,h2,h3,h4,h5⟩;rw[iC (Sh ec e (λz=>nomatch z))];exact ec
end
section
variable  {X:Cx}{pins:List (Addr×Obj)}{σ:St}{H:Hp}{s:Shared}{a:Addr}{kvs:List (Key×V)}{k:Key}{u:Value}{A:Around}{E:Value->Shared->Prop}
def abH(I:Inv X pins σ H s)(e:Rd H a (.dK kvs))(h:∀t s',Inv X pins σ H s'->Q (.int kvs.length t) s'):wpAny (model X.prog X.w) A (call (.builtin "len") [.ref a]) Q E s:=by
 obtain⟨z,hd,vs,rel,dd⟩:=sY I.bI e;refine call_len_dict hd dd (by rw[<-rel.length];rw[afv]at z;omega) ?_;rw[<-rel.length];exact h _ _ (I.tok _)
end
def XM(i:Expr):Prop:=∀ov iv,subscripted i false ov iv=operate [ov,iv] (getItem ov iv)
def Nm{prog:Program}{w:World}{A:Around}{E:Value->Shared->Prop}{s:Shared}{env:Env}{value slice:Expr}{pos:Pos}{T id:String}{Q:Value->Shared->Prop}
  (hl:typeLookup (.type T) "__getitem__" = pure (some (.builtin id))) (hs:XM slice)
  (h:wpAny (model prog w) A (eval value env) (λo aeI=>wpAny (model prog w) A (eval slice env) (λi aeH=>aeH.TypeIs o T/\wpAny (model prog w) A (getItem o i) Q E aeH) E aeI) E s) :
  wpAny (model prog w) A (eval (.Subscript value slice pos) env) Q E s:=by
 refine Subscript_ (ae6 h (λo aeI aeQ=>ae6 aeQ (λi aeH aeP=>?_) λ_ _ x=>x) λ_ _ x=>x);obtain⟨hT,aeP⟩:=aeP;unfold subscriptTail;refine aeS ?_;rw[getitemInPython_of_ne hT.not_modules];refine aeS (aft hT hl ?_);have fin:wpAny (model prog w) A (subscripted slice false o i) (λr aeG=>wpAny (model prog w) A (letTemporaryGo value o r >>= λ_=>pure r) Q E aeG) E aeH:=by
  rw[hs o i];exact wpAny_operating (ae6 aeP (λr aeG aeO=>aeS (wpAny_letTemporaryGo (aeV aeO))) λ_ _ x=>x)
 first
  | exact aeV (aeS fin)
  | exact aeS (aeV (aeS fin))
  | exact aeS fin
def zo5(I:Inv X pins σ H s)(g:qi H a y o):s.TypeIs (.ref a) "dict":=by
 rcases g with⟨kvs,k,e,_,_⟩ | ⟨kvs,k,b,e,_,_,_⟩
 ·obtain⟨_,_,vs,_,dd⟩:=sY I.bI e;exact dd.typeIs
 ·obtain⟨_,_,xs,_,dd⟩:=wI I.bI e;exact dd.typeIs
def aap(td ty:TE):TE:=fun σ H Q=>td σ H λx H1=>ty σ H1 λy H2=>∃a v,x=.ref a/\qi H2 a y (some v)/\Q v H2
section
variable  {X:Cx}{o i e value:Expr}{pos pos' wR:Pos}{td ty tv:TE}
def O4(hu:X.A.units+1<cLine)(ho:PE X o td)(hi:PE X i ty)(hs:XM i):PE X (.Subscript o i pos) (aap td ty):=by
 intro pins s σ H Q I h;refine Nm PySem.F.slot_dict_getitem.lookup hs (cI (ho pins s σ H _ I h) λu s1 zz=>?_);obtain⟨x,H1,I1,rx,q1⟩:=zz;refine cI (hi pins s1 σ H1 _ I1 q1) λiv s2 zz=>?_;obtain⟨y,H2,I2,ry,a,v,ex,g,q2⟩:=zz;subst ex;obtain rfl:u=Value.ref a:=rx;exact⟨zo5 I2 g,Fb hu I2 g ry λw' s3 I3 zx=>⟨v,H2,I3,zx,q2⟩⟩
end
def zrr(h:Heap)(hb:sysModules<h.objs.size):bW P w H (h.push { cls:=.type "dict",data:=.dict #[] }) h.objs.size (.dK []) :=
 ⟨mD _,beq_eq_false_iff_ne.mpr (ae4 (gU hb)),[],.nil,Heap.DictOf.new h⟩
def KH(h:Heap)(hb:sysModules<h.objs.size):bW P w H (h.push { cls:=.type "dict",data:=.dict #[] }) h.objs.size (.dT []) :=
 ⟨mD _,beq_eq_false_iff_ne.mpr (ae4 (gU hb)),[],.nil,_,#[],0,gZ _ rfl,⟨rfl,rfl,rfl⟩,rfl,rfl,List.nodup_nil⟩
def Uv:TE:=λ_ H Q=>∀p,H p=none->Q (.ref p) (upd H p (.dK []))
def Uu:TE:=λ_ H Q=>∀p,H p=none->Q (.ref p) (upd H p (.dT []))
section
variable  {X:Cx}{pos:Pos}
def Ia:PE X (.Dict [] [] pos) Uv:=λpins s σ H Q I h =>
 wpAny_Dict_empty ⟨.ref s.heap.objs.size,_,I.laid (a:=s.heap.objs.size) (o:=.dK []) (t':=s.toks) (λ_ _ q=>gF _ q) (gb _) (zrr s.heap I.big),rfl,h _ (I.bI.fresh (gb _))⟩
def H_:PE X (.Dict [] [] pos) Uu:=λpins s σ H Q I h =>
 wpAny_Dict_empty ⟨.ref s.heap.objs.size,_,I.laid (a:=s.heap.objs.size) (o:=.dT []) (t':=s.toks) (λ_ _ q=>gF _ q) (gb _) (KH s.heap I.big),rfl,h _ (I.bI.fresh (gb _))⟩
end
def wU:List (TE×TE)->St->Hp->(List (V×V)->Hp->Prop)->Prop
 | [],_,H,Q=>Q [] H
 | (tk,tv)::r,σ,H,Q=>tk σ H λx H1=>tv σ H1 λy H2=>wU r σ H2 λps H3=>Q ((x,y)::ps) H3
abbrev VV:List (V×V)->List (Value×Value)->Prop:=Paired λp q=>RelV p.1 q.1/\RelV p.2 q.2
def PPs(X:Cx)(pos:Pos)(keys:List (Option Expr))(values:List Expr)(zu:List (TE×TE)):Prop :=
 ∀(pins:List (Addr×Obj)) (s:Shared) (σ:St) (H:Hp) (Q:List (V×V)->Hp->Prop),Inv X pins σ H s->wU zu σ H Q ->
  wpAny (model X.prog X.w) X.A (evalPairs (pairTrees keys values X.env pos)) (λvs s'=>∃ps H',Inv X pins σ H' s'/\VV ps vs/\Q ps H') X.xe s
def Oj{X:Cx}{pos:Pos}:PPs X pos [] [] []:=λpins s σ H Q I h=>pairTrees_nil_walk ⟨[],H,I,.nil,h⟩
def Hz{X:Cx}{pos:Pos}{k v:Expr}{ks:List (Option Expr)}{vs:List Expr}{tk tv:TE}{zu:List (TE×TE)}(hk:PE X k tk)(hv:PE X v tv)(hr:PPs X pos ks vs zu) :
  PPs X pos (some k::ks) (v::vs) ((tk,tv)::zu):=λpins s σ H Q I h =>
 pairTrees_cons_walk (cI (hk pins s σ H _ I h) λu s1 ⟨x,H1,I1,rx,q1⟩=>cI (hv pins s1 σ H1 _ I1 q1) λw2 s2 ⟨y,H2,I2,ry,q2⟩ =>
  cI (hr pins s2 σ H2 _ I2 q2) λws s3 ⟨ps,H3,I3,rel,q3⟩=>⟨(x,y)::ps,H3,I3,.cons ⟨rx,ry⟩ rel,q3⟩)
def jW(kvs more:List (Key×V)):List (Key×V):=more.foldl (λacc kv=>putK acc kv.1 kv.2) kvs
def KV.merge:∀{more:List (Key×V)} {rs:List (Key×Value)} {kvs:List (Key×V)} {vs:List (Key×Value)},KV more rs->KV kvs vs->KV (jW kvs more) (merged vs rs):=by
 intro more rs kvs vs r;unfold KV at r
 induction r generalizing kvs vs with
 | nil=>intro q;exact q
 | @cons p q ps qs h t ih =>
  intro r0;have e:KV (putK kvs p.1 p.2) (stored vs q.1 q.2):=by
   have:=r0.put p.1 h.2;rw[<-h.1];exact this
  exact ih e
theorem zf2:∀(more kvs:List (Key×V)),(jW kvs more).length<=kvs.length+more.length
 | [],kvs=>by show kvs.length<=kvs.length+0;omega
 | p::r,kvs=>by
  have h1:=zf2 r (putK kvs p.1 p.2);have h2:=zfv kvs p.1 p.2;show (jW (putK kvs p.1 p.2) r).length<=_;rw[gC];omega
theorem zln{P:Program}{w:World}:∀{kvs:List (Key×V)} {ws:List (Value×Value)},VV (kvs.map λkv=>(kV kv.1,kv.2)) ws->∃rs,Carries (bF P w) ws rs/\KV kvs rs
 | [],_,r=>by rw[km]at r;cases r;exact⟨[],True.intro,.nil⟩
 | p::kvs,_,r=>by
  rw[gr]at r;cases r with
  | @cons a b as bs h t =>
   obtain⟨rs,c,q⟩:=zln (P:=P) (w:=w) t;obtain⟨b1,b2⟩:=b;exact⟨(p.1,b2)::rs,⟨uP h.1,rfl,c⟩,.cons ⟨rfl,h.2⟩ q⟩
def aao(zu:List (TE×TE)):TE:=fun σ H Q=>∀p,H p=none->wU zu σ (upd H p (.dK [])) λps H2=>H2 p=some (.dK [])/\∃kvs:List (Key×V),ps=kvs.map (λkv=>(kV kv.1,kv.2))/\kvs.length<=15/\Q (.ref p) (upd H2 p (.dK (jW [] kvs)))
def O2{X:Cx}{pos:Pos}{keys:List (Option Expr)}{values:List Expr}{zu:List (TE×TE)}(h:PPs X pos keys values zu)(um:keys.all (·.isSome)=true)(hl:keys.length=values.length)(h0:keys≠[])
  (h15:keys.length<=15):PE X (.Dict keys values pos) (aao zu):=by
 intro pins s σ H Q I q;have hn:=I.bI.fresh (gb s.heap.objs.size);have I1:=I.laid (a:=s.heap.objs.size) (o:=.dK []) (h':=s.heap.push { cls:=.type "dict",data:=.dict #[] }) (t':=s.toks) (λ_ _ q=>gF _ q) (gb _) (zrr s.heap I.big);refine wpAny_Dict_walk (knd:=bF X.prog X.w) um hl h0 h15 (cI (h pins _ σ _ _ I1 (q _ hn)) λws s2 zz=>?_);obtain⟨ps,H2,I2,rel,e,kvs,ep,lk,q2⟩:=zz;subst ep;obtain⟨rs,c,rk⟩:=zln (P:=X.prog) (w:=X.w) rel;obtain⟨z,hd,Mp,r0,dd⟩:=Tp I2.bI e;cases r0;refine⟨rs,c,dd,λh' KR hs=>⟨.ref s.heap.objs.size,_,?_,rfl,q2⟩⟩;have hz:(jW [] kvs).length<=sizeLine:=by
  have h1:=zf2 kvs [];rw[mK]at h1;rw[afv];omega
 have he:∃q,h'.get? s.heap.objs.size=some q:=let ⟨q,_,_,hq,_⟩:=KR;⟨q,hq⟩;exact znu I2 (by rw[e];exact True.intro) hs he (Aa hz hd (rk.merge .nil) KR)
structure M1(X:Cx)(o:Expr)(m:Str)(apos:Pos)(e:Expr)(dz:Pos):Prop where
 base:attributeBase o m X.env (eval o X.env)=eval o X.env
 few:((backTo dz (starEach [e] X.env)).all (λx=>!x.1) && (backToKw dz (keywordEach [] X.env)).all (λx=>x.1.isSome)
  && decide (([e]:List Expr).length+([]:List Keyword).length+(if ([]:List Keyword).isEmpty then 0 else 1)<30))=true
 line:(apos.endLine==dz.line)=true
 trees:backTo dz (starEach [e] X.env)=[(false,eval e X.env)]
structure M2(X:Cx)(o:Expr)(m:Str)(apos:Pos)(e f:Expr)(dz:Pos):Prop where
 base:attributeBase o m X.env (eval o X.env)=eval o X.env
 few:((backTo dz (starEach [e,f] X.env)).all (λx=>!x.1) && (backToKw dz (keywordEach [] X.env)).all (λx=>x.1.isSome)
  && decide (([e,f]:List Expr).length+([]:List Keyword).length+(if ([]:List Keyword).isEmpty then 0 else 1)<30))=true
 line:(apos.endLine==dz.line)=true
 trees:backTo dz (starEach [e,f] X.env)=[(false,eval e X.env),(false,eval f X.env)]
section
variable  {X:Cx}{pins:List (Addr×Obj)}{σ:St}{H:Hp}{s:Shared}{a:Addr}{y d:V}{u r:Value}{o:Option V}{A:Around}{E:Value->Shared->Prop}
def Xw(hu:A.units+1<cLine)(I:Inv X pins σ H s)(g:qi H a y o)(ry:RelV y u)(h:∀w' s',Inv X pins σ H s'->RelV (o.getD .non) w'->Q w' s') :
  wpAny (model X.prog X.w) A (call (.builtin "dict.get") [.ref a,u]) Q E s:=by
 rcases g with⟨kvs,k,e,ey,l⟩ | ⟨kvs,k,b,e,ey,eb,l⟩
 ·subst ey;obtain⟨z,hd,vs,rel,dd⟩:=sY I.bI e;refine afA ae5 dd.typeIs afn (PySem.F.args_dict_get_2 _ _) (meets_dict_get (bF X.prog X.w) a (uP ry) hd) ⟨_,dd.mapOf,h _ _ (I.tok _) ?_⟩;rw[l];exact (rel.val k).getD rfl
 ·subst ey;cases (show u=Value.ref b from ry);obtain⟨z,hd,xs,rel,dd⟩:=wI I.bI e;refine afA ae5 dd.typeIs afn (PySem.F.args_dict_get_2 _ _) (meetsH_dict_get (tupleKind (bF X.prog X.w)) a b hd) ⟨afe hu,k,xs,TX I.bI eb,dd,h _ _ (I.tok _) ?_⟩;rw[l];exact (rel.val k).getD rfl
def Xv(hu:A.units+1<cLine)(I:Inv X pins σ H s)(g:qi H a y o)(ry:RelV y u)(rd:RelV d r)(h:∀w' s',Inv X pins σ H s'->RelV (o.getD d) w'->Q w' s') :
  wpAny (model X.prog X.w) A (call (.builtin "dict.get") [.ref a,u,r]) Q E s:=by
 rcases g with⟨kvs,k,e,ey,l⟩ | ⟨kvs,k,b,e,ey,eb,l⟩
 ·subst ey;obtain⟨z,hd,vs,rel,dd⟩:=sY I.bI e;refine afA ae5 dd.typeIs afn (PySem.F.args_dict_get_3 _ _ _) (meets_dict_get_default (bF X.prog X.w) a (uP ry) hd r) ⟨_,dd.mapOf,h _ _ (I.tok _) ?_⟩;rw[l];exact (rel.val k).getD rd
 ·subst ey;cases (show u=Value.ref b from ry);obtain⟨z,hd,xs,rel,dd⟩:=wI I.bI e;refine afA ae5 dd.typeIs afn (PySem.F.args_dict_get_3 _ _ _) (meetsH_dict_get_default (tupleKind (bF X.prog X.w)) a b hd r) ⟨afe hu,k,xs,TX I.bI eb,dd,h _ _ (I.tok _) ?_⟩;rw[l];exact (rel.val k).getD rd
end
section
variable  {X:Cx}{o e f:Expr}{apos dz:Pos}{td ty tx:TE}
end
section
variable  {X:Cx}{pins:List (Addr×Obj)}{σ:St}{H:Hp}{s:Shared}{a:Addr}{kvs:List (Key×V)}{A:Around}{E:Value->Shared->Prop}
def KZ{Q:Value->Shared->Prop}(I:Inv X pins σ H s)(e:Rd H a (.dK kvs))(h:∀p s',H p=none->Inv X pins σ (upd H p (.dK kvs)) s'->Q (.ref p) s'):wpAny (model X.prog X.w) A (call (.type "dict") [.ref a]) Q E s:=by
 obtain⟨z,hd,vs,rel,dd⟩:=sY I.bI e;refine kt_call_dict hd dd (by rw[<-rel.length];exact z) λh' KR hs=>?_;refine h _ _ (I.bI.fresh (gb _)) (I.laid (a:=s.heap.objs.size) (o:=.dK kvs) (t':=s.toks) (λb q hq=>?_) (gb _) (Aa z (beq_eq_false_iff_ne.mpr (ae4 (gU I.big))) rel KR));exact (hs.2 b (gU (gw hq))).trans (gF _ hq)
end
section
variable  {X:Cx}{pins:List (Addr×Obj)}{σ:St}{H:Hp}{s:Shared}{a:Addr}{y:V}{u:Value}{A:Around}{E:Value->Shared->Prop}
end
def zfe{prog:Program}{w:World}{κ:Type}[DecidableEq κ]{knd:HeapKind prog w κ}{A:Around}{E:Value->Shared->Prop}{s:Shared}{d a:Addr}{xs:List (κ×Addr×Value)}{k:κ}{dflt:Value}{Q:Value->Shared->Prop}
  (hr:knd.room A) (hk:knd.is s.heap k a) (hd:s.heap.DictOfH knd d xs) (hz:xs.length<=sizeLine)
  (h1:∀p,atKey xs k=some p->Q p.2 { s with toks:=s.toks+knd.draws k })
  (h2:atKey xs k=none->∀h':Heap,h'.DictOfH knd d (xs++[(k,a,dflt)])->Heap.SameBut d s.heap h'->Q dflt { s with heap:=h',toks:=s.toks+knd.draws k }) :
  wpAny (model prog w) A (dictSetDefault d (.ref a) dflt) Q E s:=by
 obtain⟨o,es,ep,ho,hx,hdt,hes,his,zg⟩:=hd;unfold dictSetDefault;refine afo (aeS (knd.pyHash hr hk (aeS ?_)));refine wpAny_dictFind_heap (s:={ s with toks:=s.toks+knd.draws k }) (o:=o) (es:=es) (ep:=ep) (xs:=xs) hr hk ho hdt hes his zg (λZr=>?_) (λj p hj=>?_)
 ·have hn:atKey xs k=none:=by
   unfold atKey;rw[Option.map_eq_none_iff,List.find?_eq_none];intro x hx' Zk;obtain⟨j,hj,e⟩:=nj.mp hx';refine Zr j x.2 ?_;rw[gM hj,e];have:=afd Zk;rw[<-this]
  refine aeS (wpAny_rule (aeS (wpAny_updateDictKeys (s:={ s with toks:=s.toks+knd.draws k }) ho hdt (aeV ?_) ?_ ?_)))
  ·obtain⟨cls,dct,dat,sl⟩:=o;obtain rfl:dat=Data.dict es ep:=hdt;have Zo:Heap.SameBut d s.heap (s.heap.update d (Obj.mapDictKeys λx=>x.push { hash:=knd.hash k,key:=.ref a,val:=dflt })):=afx _ _ _;refine h2 hn _ ⟨_,es.push { hash:=knd.hash k,key:=.ref a,val:=dflt },ep+1,p8 _ ho rfl,hx,rfl,?_,?_,?_⟩ Zo
   ·rw[Array.toList_push,hes,mL];rfl
   ·intro x hx';rcases mC.mp hx' with q | q
    ·exact knd.keeps (his x q) ho rfl Zo
    ·obtain rfl:x=(k,a,dflt):=by simpa using q
     exact knd.keeps hk ho rfl Zo
   ·rw[mL];refine nJ.mpr ⟨zg,by simp,?_⟩;rintro y hy z hz' rfl;have hz2:y=k:=by simpa using hz'
    subst hz2;obtain⟨x,WM,rfl⟩:=gh.mp hy;obtain⟨j,hj,e⟩:=nj.mp WM;exact Zr j x.2 (by rw[gM hj,e])
  ·have:es.size=xs.length:=by rw[<-nR,hes,gq]
   omega
  ·rw[Array.size_push];omega
 ·refine aeS (wpAny_dictEntries (s:={ s with toks:=s.toks+knd.draws k }) ho hdt ?_);have e1:es[j]? = some (entryOfKey knd (k,p)):=by
   rw[<-Array.getElem?_toList,hes,gP,hj];rfl
  rw[e1];refine aeS (wpAny_rule (aeV ?_));exact h1 p (atKey_of_get zg hj)
def zgj{prog:Program}{w:World}{κ:Type}[DecidableEq κ](knd:HeapKind prog w κ)(d b:Addr)(v:Value)(hd:(d==sysModules)=false) :
  MeetsIn prog w (Builtin.«dict.setdefault» { pos:=[.ref d,.ref b,v] }) λA R s=>knd.room A.in1/\∃k xs,knd.is s.heap k b/\s.heap.DictOfH knd d xs/\xs.length<=sizeLine /\
   (∀p,atKey xs k=some p->R (.ok (.ret p.2)) { s with toks:=s.toks+knd.draws k }) /\
   (atKey xs k=none->∀h':Heap,h'.DictOfH knd d (xs++[(k,b,v)])->Heap.SameBut d s.heap h'->R (.ok (.ret v)) { s with heap:=h',toks:=s.toks+knd.draws k }):=by
 rintro A R s ⟨hr,k,xs,hk,dd,hz,h1,h2⟩;unfold Builtin.«dict.setdefault»;refine aeS ?_;unfold Builtin.Dict.keyAndDefault;refine aeS ?_;unfold Builtin.Dict.notOrdered;rw[aeT (by decide)];refine aeS (wpAny_typeOf dd.typeIs ?_);rw[aeU (by decide)];refine aeV (aeS ?_);refine aeV (aeS ?_);refine aeS (aeV (aeS ?_));refine aeV (aeV ?_);refine aeS (aeV (aeV ?_));dsimp only;rw[aeU (by rw[hd];decide)];refine aeS (zfe hr hk dd hz (λp e=>aeV (h1 p e)) λe h' q1 q2=>aeV (h2 e h' q1 q2))
section
variable  {X:Cx}{pins:List (Addr×Obj)}{σ:St}{H:Hp}{s:Shared}{a b:Addr}{v:V}{u r:Value}{A:Around}{E:Value->Shared->Prop}{kvs:List (List Key×V)}{k:List Key}
def KY(hu:A.units+1<cLine)(I:Inv X pins σ H s)(e:H a=some (.dT kvs))(eb:H b=some (.tup (k.map kV)))(rv:RelV v r)(hl:kvs.length<sizeLine) 
  (h1:∀x w' s',iY kvs k=some x->RelV x w'->Inv X pins σ H s'->Q w' s')
  (h2:iY kvs k=none->∀s',Inv X pins σ (upd H a (.dT (kvs++[(k,v)]))) s'->Q r s') :
  wpAny (model X.prog X.w) A (call (.builtin "dict.setdefault") [.ref a,.ref b,r]) Q E s:=by
 obtain⟨z,hd,xs,rel,dd⟩:=Tn I.bI e;have hz:xs.length<=sizeLine:=by rw[<-afb rel];exact z
 refine afA PySem.F.slot_dict_setdefault dd.typeIs PySem.F.entry_dict_setdefault (PySem.F.args_dict_setdefault_3 _ _ _) (zgj (tupleKind (bF X.prog X.w)) a b r hd) ⟨afe hu,k,xs,TX I.bI eb,dd,hz,λp ep=>?_,λen h' KR hs=>?_⟩
 ·have q:=rel.val k;rw[ep]at q;cases q2:iY kvs k with
  | none=>rw[q2]at q;exact q.elim
  | some x=>rw[q2]at q;exact h1 x _ _ q2 q (I.tok _)
 ·have q:=rel.val k;rw[en]at q;have q2:iY kvs k=none:=by
   cases q2:iY kvs k with
   | none=>rfl
   | some x=>rw[q2]at q;exact q.elim
  refine h2 q2 _ ?_;obtain⟨ob,es,ep,hq,h2,h3,h4,_,h5⟩:=KR;have Em:storedH xs k b r=xs++[(k,b,r)]:=by unfold storedH;rw[en];rfl
  have hp:=rel.put k eb rv;rw[Hu v q2,Em]at hp;refine znu I (by rw[e];exact True.intro) hs ⟨ob,hq⟩ ⟨by rw[gJ];exact hl,hd,_,hp.keeps λc ys ec=>?_,ob,es,ep,hq,h2,h3,h4,h5⟩;rw[iC (Sh ec e (λz=>nomatch z))];exact ec
end
end L2
namespace M
open PySem PySem.Spec L2
def keyOf:D->Option Key
 | .int i=>some (.inl i)
 | .str cs=>some (.inr (strOf cs))
 | _=>none
noncomputable def lR:List D->Option (List Key)
 | []=>some []
 | d::ds=>(keyOf d).bind λk=>(lR ds).map λks=>k::ks
def keysOf(ds:List D):Option (List Key):=if FJ ds=true then none else lR ds
def iZ(kvs:List (List Key×D))(k:List Key):Option D:=(kvs.find? λkv=>decide (kv.1=k)).map (·.2)
@[simp] def zn3(i:Int):keyOf (.int i)=some (.inl i):=dW rfl
@[simp] def Y7(cs:List Nat):keyOf (.str cs)=some (.inr (strOf cs)):=dW rfl
@[simp] def Eb:lR []=some []:=dW rfl
@[simp] def abW(i:Int)(r:List D):FJ (.int i::r)=false:=dW rfl
@[simp] def zlg(d:D)(ds:List D):lR (d::ds)=(keyOf d).bind λk=>(lR ds).map λks=>k::ks:=dW rfl
@[simp] def Sv(d:D)(ds:List D):keysOf (d::ds)=if FJ (d::ds)=true then none else (keyOf d).bind λk=>(lR ds).map λks=>k::ks:=dW rfl
@[simp] def GJ(k:List Key):iZ [] k=none:=dW rfl
def Yx(p:List Key×D)(r:List (List Key×D))(k:List Key):iZ (p::r) k=if p.1=k then some p.2 else iZ r k:=by
 unfold iZ;rw[mq];by_cases h:p.1=k
 ·simp[h]
 ·simp[h]
def znq(kvs:List (List Key×D))(k j:List Key)(y:D)(h:iZ kvs k=none):iZ (kvs++[(k,y)]) j=if k=j then some y else iZ kvs j:=by
 induction kvs with
 | nil=>rw[mQ,Yx]
 | cons p r ih =>
  rw[Yx]at h
  split at h
  ·cases h
  ·rename_i hn;rw[nW,Yx,Yx,ih h];by_cases e:p.1=j
   ·rw[aeT e,aeT e,aeU (λz=>hn (e.trans z.symm))]
   ·rw[aeU e,aeU e]
theorem ao.Ss{K:PySem.W.Frag}{μ:List Addr}{H:Hp}:∀{ds:List D} {xs:List V} {ks:List Key},ao K μ H ds xs->lR ds=some ks->xs=ks.map kV
 | [],xs,ks,h,e=>by
  rw[ao]at h;rw[Eb]at e;cases e;exact h
 | d::ds,xs,ks,h,e=>by
  rw[ao]at h;obtain⟨v,r,rfl,h1,h2⟩:=h;rw[zlg]at e;cases e1:keyOf d with
  | none=>rw[e1]at e;cases e
  | some k1 =>
   rw[e1]at e;cases e2:lR ds with
   | none=>rw[e2]at e;cases e
   | some ks2 =>
    rw[e2]at e;cases e;rw[ao.Ss h2 e2];have:v=kV k1:=by
     cases d with
     | int i=>rw[aq.aL]at h1;cases e1;exact h1
     | str cs=>rw[aq.aP]at h1;cases e1;exact h1
     | _=>cases e1
    rw[this];rfl
theorem zk5:∀{ds:List D} {ks:List Key},lR ds=some ks->DX ds=false
 | [],_,_=>rfl
 | d::ds,ks,e=>by
  rw[zlg]at e;cases e1:keyOf d with
  | none=>rw[e1]at e;cases e
  | some k1 =>
   rw[e1]at e;cases e2:lR ds with
   | none=>rw[e2]at e;cases e
   | some ks2 =>
    have ih:=zk5 e2;cases d with
    | int i=>rw[DX];exact ih
    | str cs=>rw[DX];exact ih
    | _=>cases e1
def zl7{ds:List D}{ks:List Key}(h:keysOf ds=some ks):FJ ds=false/\lR ds=some ks:=by
 unfold keysOf at h
 split at h
 ·cases h
 ·rename_i n;exact⟨by simpa using n,h⟩
def ao.keys(h:ao K μ H ds xs)(e:keysOf ds=some ks):xs=ks.map kV:=h.Ss (zl7 e).2
def zmm{ds:List D}{ks:List Key}(e:keysOf ds=some ks):Bd ds=false:=by
 unfold Bd;rw[(zl7 e).1,zk5 (zl7 e).2];rfl
def yL.made(h:yL K H a xs ds)(e:keysOf ds=some ks):H a=some (.tup xs):=by
 rcases h with h | ⟨h,_⟩
 ·exact h
 ·rw[zmm e]at h;cases h
theorem aH.val:∀{kvs:List (List Key×D)} {ws:List (List Key×V)},aH K μ H kvs ws ->
  (iZ kvs k=none/\iY ws k=none)\/∃d v,iZ kvs k=some d/\iY ws k=some v/\aq K μ H d v
 | [],ws,h=>.inl ⟨rfl,by rw[aH]at h;rw[h];rfl⟩
 | (j,d)::r,ws,h=>by
  obtain⟨v,r',rfl,h1,h2⟩:=h;rw[Yx];by_cases e:j=k
  ·rw[aeT e];exact .inr ⟨d,v,rfl,zh8 (p:=(j,v)) e,h1⟩
  ·rw[aeU e,zhk (p:=(j,v)) e];exact aH.val h2
theorem aH.snoc:∀{kvs:List (List Key×D)} {ws:List (List Key×V)},aH K μ H kvs ws->aq K μ H d v->aH K μ H (kvs++[(k,d)]) (ws++[(k,v)])
 | [],ws,h,hv=>by rw[aH]at h;subst h;exact⟨v,[],rfl,hv,rfl⟩
 | (j,d')::r,ws,h,hv=>by
  obtain⟨v',r',rfl,h1,h2⟩:=h;exact⟨v',r'++[(k,v)],rfl,h1,aH.snoc h2 hv⟩
theorem aH.len:∀{kvs:List (κ×D)} {ws:List (κ×V)},aH K μ H kvs ws->kvs.length=ws.length
 | [],ws,h=>by rw[aH]at h;rw[h];rfl
 | (j,d)::r,ws,h=>by
  obtain⟨v,r',rfl,h1,h2⟩:=h;rw[gC,gC,aH.len h2]
def aU.dic{K:PySem.W.Frag}{μ:List Addr}{H:Hp}{st:ak}{n:Nat}{kvs:List (List Key×D)}(h:aU K μ H st)(e:st[n]? = some (.dic kvs)):∃p ws,μ[n]? = some p/\H p=some (.dT ws)/\aH K μ H kvs ws:=by
 obtain⟨p,h1,xs,h2,h3⟩:=h.at_ n _ e;exact⟨p,xs,h1,h2,h3⟩
section
variable  {X:Cx}{e a b c o:Expr}{es:List Expr}{ma mb mc mo:ME}{mA:MA}{pos p2 p apos dz:Pos}
def QW:ME:=λ_ st=>.ok (.loc st.length) (st++[.dic []])
def Qm:JE X (.Dict [] [] pos) QW:=by
 refine JE.of H_ fun σ H Q zz=>?_;obtain⟨μ,env,st,hE,hs,hp⟩:=zz;refine λp hn=>?_;have hr:fX X.K (μ++[p]) (upd H p (.dT [])) p (.dic []):=⟨[],qt,rfl⟩;exact hp _ _ (μ++[p]) (aZ.new hn) (hs.new hn hr) (aq.aK.mpr ⟨p,by rw[<-hs.len];simp,rfl⟩)
def Et:D->List D->ak->R D
 | .loc n,[.tup ks],st=>match st[n]?,keysOf ks with
  | some (.dic kvs),some k=>.ok ((iZ kvs k).getD .non) st
  | _,_=>.bad
 | _,_,_=>.bad
def Pz(hu:X.A.units+1<cLine):rF X "dict.get" (Gg X Et):=by
 rintro pins s σ H x xs v us Q I rx Ds ⟨μ,st,d,ds,hs,hx,jY,hp⟩;unfold Et at hp
 split at hp
 ·rename_i n ks
  split at hp
  ·rename_i kvs k e1 e2;obtain⟨p,q1,rfl⟩:=aq.aK.mp hx;obtain⟨y,rfl,q2⟩:=ao.one jY;obtain⟨b,ys,rfl,q3,q4⟩:=aq.aQ.mp q2;replace q3:=q3.made e2;obtain rfl:=q4.keys e2;obtain⟨p',ws,r1,r2,r3⟩:=hs.dic e1;rw[q1]at r1;cases r1;cases Ds with
   | cons ry rr =>
    cases rr;obtain rfl:v=Value.ref p:=rx;refine Xw hu I (qi.t r2 q3) ry λw' s' I' zx=>⟨_,H,I',zx,?_⟩;rcases r3.val (k:=k) with⟨z1,z2⟩ | ⟨d',v',z1,z2,z3⟩
    ·rw[z1]at hp;rw[z2];exact hp.ret hs (aq.bD.mpr rfl)
    ·rw[z1]at hp;rw[z2];exact hp.ret hs z3
  ·exact hp.elim
 ·exact hp.elim
def oF:D->List D->ak->R D
 | .loc n,[.tup ks,d],st=>match st[n]?,keysOf ks with
  | some (.dic kvs),some k=>if kvs.length<1000000 then (match iZ kvs k with
   | some d'=>.ok d' st
   | none=>.ok d (st.set n (.dic (kvs++[(k,d)])))) else .bad
  | _,_=>.bad
 | _,_,_=>.bad
def zpw(hu:X.A.units+1<cLine):rF X "dict.setdefault" (Gg X oF):=by
 rintro pins s σ H x xs v us Q I rx Ds ⟨μ,st,d,ds,hs,hx,jY,hp⟩;unfold oF at hp
 split at hp
 ·rename_i n ks d1
  split at hp
  ·rename_i kvs k e1 e2
   split at hp
   ·rename_i hl;obtain⟨p,q1,rfl⟩:=aq.aK.mp hx;obtain⟨y,z,rfl,q2,q5⟩:=ao.two jY;obtain⟨b,ys,rfl,q3,q4⟩:=aq.aQ.mp q2;replace q3:=q3.made e2;obtain rfl:=q4.keys e2;obtain⟨p',ws,r1,r2,r3⟩:=hs.dic e1;rw[q1]at r1;cases r1;cases Ds with
    | cons ry rr =>
     cases rr with
     | cons rz rr =>
      cases rr;obtain rfl:v=Value.ref p:=rx;rename_i uy uz;obtain rfl:uy=Value.ref b:=ry;refine KY hu I r2 q3 rz (by rw[<-r3.len];exact gQ hl (by decide)) (λx' w' s' ex zx I'=>⟨_,H,I',zx,?_⟩) λen s' I'=>⟨_,_,I',rz,?_⟩
      ·rcases r3.val (k:=k) with⟨z1,z2⟩ | ⟨d',v',z1,z2,z3⟩
       ·rw[z2]at ex;cases ex
       ·rw[z1]at hp;rw[z2]at ex;cases ex;exact hp.ret hs z3
      ·rcases r3.val (k:=k) with⟨z1,z2⟩ | ⟨d',v',z1,z2,z3⟩
       ·rw[z1]at hp;have g:Ext H (upd H p (.dT (ws++[(k,z)]))):=Ext.mut r2 (λ_ z=>nomatch z) (λ_ _ z=>nomatch z);have g':aZ μ H μ (upd H p (.dT (ws++[(k,z)]))):=⟨⟨[],by simp⟩,g⟩;exact hp _ _ μ g' (hs.put e1 rfl rfl q1 g ⟨_,qt,(r3.snoc q5).mono g'⟩) (q5.mono g' _)
       ·rw[z2]at en;cases en
   ·exact hp.elim
  ·exact hp.elim
 ·exact hp.elim
end
end M
namespace L2
open PySem PySem.Spec PyProof.Rows
def Its(x:Str):It:=⟨λi _=>i<x.cps.size,λi H y H'=>H'=H/\∃c,x.cps[i]? = some c/\y=.str ⟨#[c]⟩,λi _=>x.cps.size<=i⟩
def GP{P:Program}{w:World}{K:PySem.W.Frag}{tg:Expr}(it:Addr)(x:Str)(t:Tok):Turn P w K tg (Its x) [it] it (λi h=>h.IsStrIter it "str_ascii_iterator" x t i) where
 mem:=by simp
 obj:=λi h st b hb=>by
  have e:b=it:=by simpa using hb
  subst e;obtain⟨o,e,c,d⟩:=st;exact⟨o,e,λv z=>by rw[d]at z;cases z⟩
 keep:=λi h h' st k=>by
  obtain⟨o,e,c,d⟩:=st;exact⟨o,k it (by simp) o e,c,d⟩
 item:=by
  intro X hP hw hK hc i pins s σ H E I hf st hg;subst hP hw hK;obtain⟨f0,f1,f2,f3,f4,f5⟩:=hf it (by simp);have hi:i<x.cps.size:=hg;refine wpAny_pyNext_ascii_item st (pL hi) λh' st' sb=>?_;have I1:Inv X pins σ H { s with heap:=h',toks:=s.toks+1 }:=I.turned (λb o hb e=>(sb.2 b hb).trans e) f0 f1 f3 f4 f5;obtain⟨o,e,c,d⟩:=id st';exact⟨_,rfl,sW (s:={ s with heap:=h',toks:=s.toks+1 }) e c d (by decide) ⟨.str ⟨#[x.cps[i]]⟩,H,I1,⟨_,rfl⟩,⟨rfl,_,pL hi,rfl⟩,st',λb hb=>(hf b hb).1⟩⟩
 done:=by
  intro X hP hw hK hc i pins s σ H E I hf st hg;subst hP hw hK;obtain⟨f0,f1,f2,f3,f4,f5⟩:=hf it (by simp);have hi:x.cps.size<=i:=hg;exact wpAny_pyNext_ascii_end (I.ok.hd hc) st (Array.getElem?_eq_none hi) λh' eb=>⟨rfl,I.turned (t':=s.toks) (λb o hb e=>eb b o hb e) f0 f1 f3 f4 f5⟩
 self:=λ_ _ _ _ _ st h=>wpAny_pyIter_striter_ascii st h
def ady(tl:TE):TI:=fun σ H R=>tl σ H λy H1=>∃x,y=.str x/\strIterType x = "str_ascii_iterator"/\R (Its x) H1
def Vj{X:Cx}{tg l:Expr}{tl:TE}(hl:PE X l tl):PI X tg l (ady tl):=by
 intro pins s σ H R I h;refine cI (hl pins s σ H _ I h) λv s1 zz=>?_;obtain⟨y,H1,I1,r1,q1⟩:=zz;obtain⟨x,e,ha,q⟩:=q1;subst e;obtain⟨t,rfl⟩:=r1;refine wpAny_pyIter_strU ?_;rw[ha];refine⟨s1.heap.objs.size,[s1.heap.objs.size],_,_,H1,rfl,I1.kept (t':=s1.toks) λb o e=>gF _ e,GP _ x t,⟨_,gZ _ rfl,rfl,rfl⟩,λb hb=>?_,q⟩;have e:b=s1.heap.objs.size:=by simpa using hb
 subst e;exact I1.uV (gb _) (I1.bI.fresh (gb _))
end L2
namespace M
open PySem PySem.Spec L2
section
variable  {X:Cx}{tg l:Expr}{ml:ME}{μ:List Addr}{H:Hp}
def ym(m:ME):MI:=λenv st=>(m env st).bind λd st1=>match d with
 | .str cs=>if cs.all (λc=>decide (c<128))=true then .ok (cs.map λc=>D.str [c],[]) st1 else .bad
 | _=>.bad
def Qt(cs:List Nat):oA X μ H (Its (strOf cs)) (cs.map λc=>D.str [c],[]):=by
 intro H' μ' st' g hs ok;refine⟨λi d e=>?_,by show (strOf cs).cps.size<=_;simp⟩;rw[gP]at e;obtain⟨c,e1,rfl⟩:=ni.mp e;refine⟨by show i<(strOf cs).cps.size;simpa using (gf.mp e1).1,?_⟩;rintro x Cz ⟨rfl,c',hc,rfl⟩;have:c'=c:=by
  have h2:cs[i]? = some c':=by simpa using hc
  rw[e1]at h2;exact (aeX h2).symm
 subst this;exact⟨.refl _ _,hs,aq.aP.mpr rfl⟩
def Wa(hl:JE X l ml):JI X tg l (ym ml):=by
 refine JI.of (Vj hl) fun σ H R zz=>?_;obtain⟨μ,env,st,hE,hs,hp⟩:=zz;refine⟨μ,env,st,hE,hs,(bJ.bind hp).imp ?_⟩;rintro v H1 ⟨μ1,st1,d,g1,bB,hv,aR⟩;dsimp only at aR
 split at aR
 ·rename_i cs
  split at aR
  ·rename_i hc;obtain rfl:=aq.aP.mp hv;refine⟨strOf cs,rfl,?_,aR _ _ _ (.refl _ _) bB (Qt cs)⟩;unfold strIterType;rw[aeT];show (cs.toArray.all _)=true;rw[List.all_toArray];exact hc
  ·exact aR.elim
 ·exact aR.elim
end
end M
namespace L2
open PySem PySem.Spec PyProof.Rows
def Inv.but(I:Inv X pins σ H s)(k:∀b o,b≠X.env.locals->s.heap.get? b=some o->h'.get? b=some o) 
  (ns:∀m,s.heap.Ns X.env.locals m->h'.Ns X.env.locals m):Inv X pins σ H { s with heap:=h',toks:=t' }:=by
 have neL:∀b u,H b=some u->b≠X.env.locals:=λb u e z=>by rw[z,I.free]at e;cases e
 refine I.step (g':=s.gens) (d':=s.drawn) (ch:=[]) (λ_ z=>nomatch z) (λb o hL _ _ e _=>k b o hL e) (λb o hL _ _ e _=>⟨o.slots,k b o hL e⟩) (λ_ _ _ _ n=>n) (λb o _ e=>?_) (λ_ _ e=>e) (λ_ _ _ e=>e) (λb ps e=>⟨#[],by rw[e];simp⟩) ns (λb u e=>?_) I.bare
 ·by_cases hb:b=X.env.locals
  ·subst hb;obtain⟨m,hm,_⟩:=I.loc;obtain⟨o',_,_,q,_⟩:=ns m hm;exact⟨o',q⟩
  ·exact⟨o,k b o hb e⟩
 ·refine (I.bI b u e).ud (λc v hc q=>k c v ?_ q) (λc q=>q) λc xs q=>q;rcases hc with z | z
  ·rw[z];exact neL b u e
  ·exact neL c _ z
def Fj(hc:X.A.handled=none):cB X (.builtin "sum") (λxs H Q=>∃(p:Addr) (ns:List Int),xs=[.ref p]/\ou X.K H p (ns.map V.int)/\Q (.int ns.sum) H):=by
 rintro pins s σ H xs us Q I hr ⟨p,ns,rfl,hq,h⟩;cases hr with
 | cons r1 r2 =>
  cases r2;cases r1;obtain⟨its,rv,pl,hz⟩:=I.list hq;have hi:IntsAre its ns:=by
   have key:∀(ns:List Int) (its:List Value),Vals (ns.map V.int) its->IntsAre its ns:=by
    intro ns
    induction ns with
    | nil=>intro its h;cases h;exact .nil
    | cons n ns ih =>
     intro its h;cases h with
     | cons r1 r2 =>
      obtain⟨t,rfl⟩:=r1;exact .cons n t (ih _ r2)
   exact key ns its rv
  obtain⟨m,hm,_⟩:=id I.loc;obtain⟨o,ho,_⟩:=id pl.isList;have oK:p≠X.env.locals:=λz=>by
   obtain⟨o',es,ep,q1,q2,_⟩:=hm;obtain⟨o2,w1,w2,w3⟩:=id pl.isList;rw[z,q1]at w1;cases w1;rw[q2]at w3;obtain⟨_,w4⟩:=w3;cases w4
  refine LSm.sum_ints (ZP.Ko hm) (ZP.zow oK ho) hc pl.isList hi λh' tk t' F' N'=>⟨.int ns.sum,H,I.but (λb ob hb e=>?_) (λm' Mw=>?_),⟨t',rfl⟩,h⟩
  ·by_cases hbp:b=p
   ·subst hbp;rw[ho]at e;cases e;exact N'.get (List.Mem.head _)
   ·exact N'.get (List.Mem.tail _ (ZP.zk9.mpr ⟨hb,hbp,e⟩))
  ·have:m'=m:=by
    obtain⟨o1,es1,ep1,q1,q2,_,q3⟩:=hm;obtain⟨o2,es2,ep2,w1,w2,_,w3⟩:=Mw;rw[q1]at w1;cases w1;rw[q2]at w2;cases w2;funext x;rw[<-q3 x,<-w3 x]
   subst this;exact F'.ns
end L2
namespace M
open PySem PySem.Spec L2
def intsOf:List D->Option (List Int)
 | []=>some []
 | .int i::r=>(intsOf r).map (i :: ·)
 | _::_=>none
theorem zjh:∀{ds:List D} {xs:List V} {ns:List Int},intsOf ds=some ns->ao K μ H ds xs->xs=ns.map V.int
 | [],_,_,e,h=>by cases e;rw[ao]at h;exact h
 | d::ds,_,ns,e,h=>by
  rw[ao]at h;obtain⟨v,t,rfl,h1,h2⟩:=h;cases d with
  | int i =>
   simp only[intsOf]at e;cases q:intsOf ds with
   | none=>rw[q]at e;cases e
   | some bs' =>
    rw[q]at e;cases e;rw[aq.aL]at h1;subst h1;rw[zjh q h2];rfl
  | _=>simp[intsOf]at e
def GZ:List D->ak->R D
 | [.loc n],st=>match (aA st n).bind intsOf with | some ns=>.ok (.int ns.sum) st | none=>.bad
 | _,_=>.bad
def Fg(hc:X.A.handled=none):cB X (.builtin "sum") (Mr X GZ):=by
 refine cB.weak (Fj hc) ?_;rintro xs H Q ⟨μ,st,ds,hs,hv,hp⟩;unfold GZ at hp
 split at hp
 ·rename_i n;cases e:aA st n with
  | none=>rw[e]at hp;exact hp.elim
  | some l =>
   rw[e]at hp;cases e2:intsOf l with
   | none=>simp only[mX,e2]at hp;exact hp.elim
   | some ns =>
    simp only[mX,e2]at hp;obtain⟨v,rfl,q⟩:=ao.one hv;obtain⟨p,q1,rfl⟩:=aq.aK.mp q;obtain⟨p',ys,r1,r2,r3⟩:=hs.items e;rw[q1]at r1;cases r1;rw[zjh e2 r3]at r2;exact⟨p,ns,rfl,r2,hp.ret hs (aq.aL.mpr rfl)⟩
 ·exact hp.elim
end M
namespace M
open L2
def K3(xs:List α)(c:Nat)(h:c<=xs.length):cut xs none (some (c:Int))=xs.take c:=by
 unfold cut;rw[HT.zl1,HT.Aq,Nat.min_eq_left h];simp
def zqq(xs:List α)(c:Nat):cut xs (some (c:Int)) none=xs.drop c:=by
 unfold cut;rw[HT.zl1,HT.Aq];by_cases h:c<=xs.length
 ·rw[Nat.min_eq_left h,pM (by simp)]
 ·rw[Nat.min_eq_right (by omega),nG (gb _),nG (by omega)];simp
def T8(lo:Int)(n:Nat):(jq lo n).length=n:=by simp[jq]
section
variable  (st:ak)
def zqk(cs:List Nat)(lo hi:Option Int)(h:cs.length<=1000000):Am (.str cs) lo hi st=.ok (.str (cut cs lo hi)) st:=by simp[Am,h]
def zgz(cs:List Nat)(h:cs.length<=1000000):wg [.str cs] st=.ok (.int cs.length) st:=by simp[wg,h]
@[simp] def acZ(env:aM):QW env st=.ok (.loc st.length) (st++[.dic []]):=dW rfl
@[simp] theorem U6(a:ME)(env:aM):ym a env st=(a env st).bind λd st1=>match d with
 | .str cs=>if cs.all (λc=>decide (c<128))=true then .ok (cs.map λc=>D.str [c],[]) st1 else .bad
 | _=>.bad:=dW rfl
end
end M
namespace M
open PySem PySem.Spec L2
section
variable  {X:Cx}
def El(neg:Bool):D->D->ak->R D
 | .tup ks,.loc n,st=>match st[n]?,keysOf ks with
  | some (.dic kvs),some k=>.ok (.bl (if neg then !(iZ kvs k).isSome else (iZ kvs k).isSome)) st
  | _,_=>.bad
 | _,_,_=>.bad
def J1(h:rM X (El neg) x y H Q):∃p o,y=.ref p/\qi H p x o/\Q (.bl (if neg then !o.isSome else o.isSome)) H:=by
 obtain⟨μ,st,dx,dy,hs,hx,hy,hp⟩:=h;unfold El at hp
 split at hp
 ·rename_i ks n
  split at hp
  ·rename_i kvs k e1 e2;obtain⟨p,q1,rfl⟩:=aq.aK.mp hy;obtain⟨b,ys,rfl,q3,q4⟩:=aq.aQ.mp hx;replace q3:=q3.made e2;obtain rfl:=q4.keys e2;obtain⟨p',ws,r1,r2,r3⟩:=hs.dic e1;rw[q1]at r1;cases r1;refine⟨p,_,rfl,qi.t r2 q3,?_⟩;rcases r3.val (k:=k) with⟨z1,z2⟩ | ⟨d',v',z1,z2,z3⟩
   ·rw[z1]at hp;rw[z2];exact hp.ret hs (aq.bj.mpr rfl)
   ·rw[z1]at hp;rw[z2];exact hp.ret hs (aq.bj.mpr rfl)
  ·exact hp.elim
 ·exact hp.elim
def zkx(hu:X.A.units+1<cLine):dZ X (compareOp .NotIn) (rM X (El true)):=by
 intro pins s σ H x y v u Q I rx ry h;obtain⟨p,o,rfl,g,q⟩:=J1 h;obtain rfl:u=Value.ref p:=ry;exact QZ hu I g rx λs' I'=>⟨.bl (!o.isSome),H,I',rfl,q⟩
def Ob(kvs:List (List Key×D))(k:List Key)(d:D):List (List Key×D) :=
 if (kvs.any λkv=>decide (kv.1=k))=true then kvs.map (λkv=>if kv.1=k then (kv.1,d) else kv) else kvs++[(k,d)]
theorem aH.any:∀{kvs:List (List Key×D)} {ws:List (List Key×V)},aH K μ H kvs ws->(kvs.any λkv=>decide (kv.1=k))=(ws.any λkv=>decide (kv.1=k))
 | [],ws,h=>by rw[aH]at h;rw[h];rfl
 | (j,d)::r,ws,h=>by
  obtain⟨v,r',rfl,h1,h2⟩:=h;rw[mW,mW,aH.any h2]
theorem aH.repl(hv:aq K μ H d v):∀{kvs:List (List Key×D)} {ws:List (List Key×V)},aH K μ H kvs ws->aH K μ H (kvs.map λkv=>if kv.1=k then (kv.1,d) else kv) (ws.map λkv=>if kv.1=k then (kv.1,v) else kv)
 | [],ws,h=>by rw[aH]at h;subst h;exact rfl
 | (j,d')::r,ws,h=>by
  obtain⟨v',r',rfl,h1,h2⟩:=h;rw[gr,gr];by_cases e:j=k
  ·rw[aeT e,aeT e];exact⟨v,_,rfl,hv,aH.repl hv h2⟩
  ·rw[aeU e,aeU e];exact⟨v',_,rfl,h1,aH.repl hv h2⟩
def aH.put(h:aH K μ H kvs ws)(hv:aq K μ H d v):aH K μ H (Ob kvs k d) (putK ws k v):=by
 unfold Ob putK;rw[h.any]
 split
 ·exact aH.repl hv h
 ·exact h.snoc hv
def yp:D->D->D->ak->R Unit
 | .loc n,.tup ks,d,st=>match st[n]?,keysOf ks with
  | some (.dic kvs),some k=>if kvs.length<1000000 then .ok () (st.set n (.dic (Ob kvs k d))) else .bad
  | _,_=>.bad
 | _,_,_,_=>.bad
def UT(hu:X.A.units+1<cLine):wB X (Ay X yp):=by
 rintro pins s σ H o i v ov iv u Q I ro ri rv ⟨μ,st,d1,d2,d3,hs,h1,h2,h3,hp⟩;unfold yp at hp
 split at hp
 ·rename_i n ks d
  split at hp
  ·rename_i kvs k e1 e2
   split at hp
   ·rename_i hl;obtain⟨p,q1,rfl⟩:=aq.aK.mp h1;obtain⟨b,ys,rfl,q3,q4⟩:=aq.aQ.mp h2;replace q3:=q3.made e2;obtain rfl:=q4.keys e2;obtain⟨p',ws,r1,r2,r3⟩:=hs.dic e1;rw[q1]at r1;cases r1;obtain rfl:ov=Value.ref p:=ro;refine zno hu I (Af.t r2 q3 (by rw[<-r3.len];exact gQ hl (by decide))) ri rv λs' I'=>⟨_,I',?_⟩;have g:Ext H (upd H p (.dT (putK ws k v))):=Ext.mut r2 (λ_ z=>nomatch z) (λ_ _ z=>nomatch z);have g':aZ μ H μ (upd H p (.dT (putK ws k v))):=⟨⟨[],by simp⟩,g⟩;exact hp () _ μ g' (hs.put e1 rfl rfl q1 g ⟨_,qt,(r3.put h3).mono g'⟩) trivial
   ·exact hp.elim
  ·exact hp.elim
 ·exact hp.elim
noncomputable def jT:D->List D->ak->R D
 | .loc n,[],st=>match st[n]? with
  | some (.lst ds)=>(match ds[ds.length - 1]? with | some d=>.ok d (st.set n (.lst ds.dropLast)) | none=>.bad)
  | _=>.bad
 | _,_,_=>.bad
theorem ao.dropLast{K:PySem.W.Frag}{μ:List Addr}{H:Hp}:∀{ds:List D} {xs:List V},ao K μ H ds xs->ao K μ H ds.dropLast xs.dropLast
 | [],xs,h=>by rw[ao]at h;subst h;exact ao.nil
 | [d],xs,h=>by obtain⟨v,rfl,_⟩:=ao.one h;exact ao.nil
 | d::e::ds,xs,h=>by
  rw[ao]at h;obtain⟨v,r,rfl,h1,h2⟩:=h;obtain⟨w,r',rfl,h3,h4⟩:=(by rw[ao]at h2;exact h2:∃v r',r=v::r'/\aq K μ H e v/\ao K μ H ds r');rw[List.dropLast_cons_cons,List.dropLast_cons_cons];exact ao.cons h1 (ao.dropLast h2)
def Py:rF X "list.pop" (Gg X jT):=by
 refine rF.weak VN ?_;rintro x xs H Q ⟨μ,st,d,ds,hs,hx,jY,hp⟩;unfold jT at hp
 split at hp
 ·rename_i n;cases e:st[n]? with
  | none=>rw[e]at hp;exact hp.elim
  | some mo =>
   cases mo with
   | lst l =>
    rw[e]at hp;dsimp only at hp;cases e2:l[l.length - 1]? with
    | none=>rw[e2]at hp;exact hp.elim
    | some d =>
     rw[e2]at hp;obtain⟨p,q1,rfl⟩:=aq.aK.mp hx;rw[ao]at jY;obtain⟨p',ys,r1,r2,r3⟩:=hs.lst e;rw[q1]at r1;cases r1;obtain⟨v,z1,z2⟩:=r3.get e2;obtain⟨g,pX⟩:=uH hs e q1 r2 r3.dropLast;exact⟨p,ys,v,rfl,jY,r2,by rw[<-r3.length];exact z1,hp _ _ μ g pX (z2.mono g _)⟩
   | _=>rw[e]at hp;exact hp.elim
 ·exact hp.elim
end
end M
namespace L2
open PySem PySem.Spec PyProof.Rows
theorem zp4:∀(ys:List Str) (its:List Value),Vals (ys.map V.str) its->StrsAre its ys
 | [],_,h=>by cases h;exact .nil
 | y::ys,_,h=>by
  cases h with
  | cons r1 r2 =>
   obtain⟨t,rfl⟩:=r1;exact .cons y t (zp4 ys _ r2)
def I_:rF X "str.join" (λx xs H Q=>∃(z:Str) (p:Addr) (ys:List Str),x=.str z/\xs=[.ref p]/\ou X.K H p (ys.map V.str)/\(ys.map λy=>y.length).sum+ys.length*z.length<=16777216/\Q (.str (Txt.join z ys)) H):=by
 rintro pins s σ H x xs v us Q I rx Ds ⟨z,p,ys,rfl,rfl,hq,hz,h⟩;obtain⟨t,rfl⟩:=rx;cases Ds with
 | cons r1 r2 =>
  cases r2;cases r1;obtain⟨its,rv,pl,_⟩:=I.list hq;exact join_list pl.isList (zp4 ys its rv) hz λt' k=>⟨.str (Txt.join z ys),H,I.kept (t':=k) λb u h=>h,⟨t',rfl⟩,h⟩
end L2
namespace M
open PySem PySem.Spec L2
section
variable  {X:Cx}
def iy:List D->Option (List (List Nat))
 | []=>some []
 | .str cs::r=>(iy r).map (cs :: ·)
 | _::_=>none
theorem znt:∀{ds:List D} {xs:List V} {ts:List (List Nat)},iy ds=some ts->ao K μ H ds xs->xs=(ts.map strOf).map V.str
 | [],_,_,e,h=>by cases e;rw[ao]at h;exact h
 | d::ds,_,ts,e,h=>by
  rw[ao]at h;obtain⟨v,t,rfl,h1,h2⟩:=h;cases d with
  | str cs =>
   simp only[iy]at e;cases q:iy ds with
   | none=>rw[q]at e;cases e
   | some ts' =>
    rw[q]at e;cases e;rw[aq.aP]at h1;subst h1;rw[znt q h2];rfl
  | _=>simp[iy]at e
def joinM(sep:List Nat)(ts:List (List Nat)):List Nat:=(Txt.join (strOf sep) (ts.map strOf)).cps.toList
def wF:D->List D->ak->R D
 | .str sep,[.loc n],st=>match (aA st n).bind iy with
  | some ts=>if (ts.map List.length).sum+ts.length*sep.length<=1000000 then .ok (.str (joinM sep ts)) st else .bad
  | none=>.bad
 | _,_,_=>.bad
def zst:rF X "str.join" (Gg X wF):=by
 refine rF.weak I_ ?_;rintro x xs H Q ⟨μ,st,d,ds,hs,hx,jY,hp⟩;unfold wF at hp
 split at hp
 ·rename_i sep n;cases e:aA st n with
  | none=>rw[e]at hp;exact hp.elim
  | some l =>
   rw[e]at hp;cases e2:iy l with
   | none=>simp only[mX,e2]at hp;exact hp.elim
   | some ts =>
    simp only[mX,e2]at hp
    split at hp
    ·rename_i hl;obtain⟨v,rfl,q⟩:=ao.one jY;obtain⟨p,q1,rfl⟩:=aq.aK.mp q;obtain⟨p',ys,r1,r2,r3⟩:=hs.items e;rw[q1]at r1;cases r1;rw[znt e2 r3]at r2;obtain rfl:=aq.aP.mp hx;refine⟨_,p,ts.map strOf,rfl,rfl,r2,?_,hp.ret hs (aq.aP.mpr rfl)⟩;rw[gO,gq];have e3:(ts.map ((λy:Str=>y.length)∘strOf))=ts.map List.length:=kJ λt _=>by
      show (strOf t).cps.size=t.length;simp
     rw[e3];have e4:(strOf sep).length=sep.length:=by show (strOf sep).cps.size=sep.length;simp
     rw[e4];omega
    ·exact hp.elim
 ·exact hp.elim
end
def sV(sep:List Nat):List (List Nat)->List Nat
 | []=>[]
 | [t]=>t
 | t::u::r=>t++sep++sV sep (u::r)
theorem zix(sep:Str):∀(ts:List Str),(sep.join ts).cps.toList=sV sep.cps.toList (ts.map λt=>t.cps.toList)
 | []=>by rw[PyProof.Rows.join_nil];rfl
 | [t]=>by rw[PyProof.Rows.join_one];rfl
 | t::u::r=>by
  have ih:=zix sep (u::r);rw[gr]at ih;rw[PyProof.Rows.join_cons_cons,gr,gr,sV,<-ih];show (t.cps++sep.cps++(sep.join (u::r)).cps).toList=_;simp
def Jt(sep:List Nat)(ts:List (List Nat)):joinM sep ts=sV sep ts:=by
 unfold joinM;rw[show Txt.join (strOf sep) (ts.map strOf)=(strOf sep).join (ts.map strOf) from StrLaws.glued_eq_join _ _,zix,gO];have:(λt:Str=>t.cps.toList)∘strOf=id:=by funext t;simp
 rw[this,List.map_id]
end M
namespace L2
open PySem PySem.Spec PyProof.Rows
end L2
namespace M
open PySem PySem.Spec L2
section
variable  {X:Cx}{a b c:Expr}{ma mb mc:ME}{pos:Pos}
end
section
variable  {X:Cx}{pos:Pos}{x:Str}
def zsl(hg:Gl X x)(hm:X.mg x=some u)(r:RelV v u)(hv:∀μ H,aq X.K μ H d v)(hd:(x==("__debug__":Str))=false:=by decide):JE X (.Name x pos) (ct d):=by
 refine JE.of (O1 hg hm r hd) fun σ H Q zz=>?_;obtain⟨μ,env,st,hE,hs,hp⟩:=zz;exact hp.ret hs (hv μ H)
def JD(cs:List Nat)(h:∃t,X.mg x=some (.str y t))(hy:y=strOf cs:=by rfl)(hg:Gl X x:=by rfl)(hd:(x==("__debug__":Str))=false:=by decide):JE X (.Name x pos) (ct (.str cs)):=by
 obtain⟨t,h⟩:=h;exact zsl (v:=.str y) hg h ⟨t,rfl⟩ (λ_ _=>aq.aP.mpr (by rw[hy])) hd
end
end M
namespace M
open L2
section
variable  (st:ak)
def U8(sep:List Nat)(n:Nat)(ts:List (List Nat))(h:aA st n=some (ts.map D.str))(hl:(ts.map List.length).sum+ts.length*sep.length<=1000000):wF (.str sep) [.loc n] st=.ok (.str (sV sep ts)) st:=by
 have e:iy (ts.map D.str)=some ts:=by
  clear h hl
  induction ts with
  | nil=>rfl
  | cons t ts ih=>simp[iy,ih]
 simp only[wF,h,mX,e];rw[aeT hl,Jt]
end
def K4(xs:List α):cut xs none (some (-1))=xs.dropLast:=by
 unfold cut;rw[HT.zl1];have:HT.cO xs.length xs.length (some (-1))=xs.length - 1:=by
  unfold HT.cO;dsimp only;rw[aeT (by omega)];omega
 rw[this];simp[List.dropLast_eq_take]
def yV(I:Nat->aM->ak->Prop)(h0:I 0 env st) 
  (step:∀i d env st,items[i]? = some d->I i env st->ue gs st/\∃env1 st1,g d env st=.ok env1 st1/\∃bf st2,(b env1 st1=.ok (.nx bf) st2\/b env1 st1=.ok (.cn bf) st2)/\I (i+1) bf st2)
  (Xd:∀env st,I items.length env st->ue gs st):∃bY st',cg g b gs items env st=.ok (.nx bY) st'/\I items.length bY st':=by
 refine Ex (λpre env st=>I pre.length env st) h0 (λpre d post env st e hI=>?_) Xd;have:=step pre.length d env st (by rw[e];simp) hI;simpa using this
def zhv(h:(jq lo n)[i]? = some d):i<n/\d=.int (lo+(i:Nat)):=by
 have h2:i<n:=by
  have:=(gf.mp h).1;rwa[T8]at this
 unfold jq at h;rw[gP,List.getElem?_range h2]at h;exact⟨h2,(aeX h).symm⟩
def zjx{xs:List D}{i:Nat}{d:D}(h:(dJ 0 xs)[i]? = some d):∃x,xs[i]? = some x/\d=.tup [.int i,x]:=by
 rw[zi9]at h;cases e:xs[i]? with
 | none=>rw[e]at h;cases h
 | some x =>
  rw[e]at h;simp at h;exact⟨x,rfl,h.symm⟩
def Gr{α:Type}{f:α->D}{xs:List α}{i:Nat}{d:D}(h:(xs.map f)[i]? = some d):∃x,xs[i]? = some x/\d=f x:=by
 rw[gP]at h;cases e:xs[i]? with
 | none=>rw[e]at h;cases h
 | some x=>rw[e]at h;exact⟨x,rfl,(aeX h).symm⟩
def rZ:D->D->ak->R D
 | .str cs,.bl b,st=>if cs.length<=1000000 then .ok (.str (if b then cs else [])) st else .bad
 | _,_,_=>.bad
theorem zfx:∀(n:Nat) (env:aM) (st:ak),bh c b n env st≠.bad->bh c b (n+1) env st=bh c b n env st
 | 0,env,st,h=>absurd (by rw[bh]) h
 | n+1,env,st,h=>by
  rw[bh]at h;rw[bh,bh];cases e:c env st with
  | bad=>rfl
  | err x s=>rfl
  | ok x st1 =>
   rw[e,R.aB]at h;rw[R.aB,R.aB];cases x with
   | false=>rfl
   | true =>
    rw[aeT rfl]at h ⊢;rw[aeT rfl];cases e2:b env st1 with
    | bad=>rfl
    | err x s=>rfl
    | ok o st2 =>
     rw[e2,R.aB]at h;rw[R.aB,R.aB];cases o with
     | nx bf=>exact zfx n bf st2 h
     | cn bf=>exact zfx n bf st2 h
     | bk bf=>rfl
     | rt d=>rfl
theorem zhh(h:bh c b n env st≠.bad):∀k,bh c b (n+k) env st=bh c b n env st
 | 0=>rfl
 | k+1=>by
  have:=zhh h k;rw[<-Nat.add_assoc,zfx (n+k) env st (by rw[this];exact h),this]
open Classical in
def bG(c:MT)(b:MS):MS:=λenv st=>if h:∃n,bh c b n env st≠.bad then bh c b (Classical.choose h) env st else .bad
def Ue(h:bh c b n env st≠.bad):bG c b env st=bh c b n env st:=by
 have hx:∃n,bh c b n env st≠.bad:=⟨n,h⟩;unfold bG;rw[dif_pos hx];have h2:=Classical.choose_spec hx;generalize Classical.choose hx=m at h2 ⊢;by_cases hmn:m<=n
 ·obtain⟨k,rfl⟩:=Nat.le.dest hmn;exact (zhh h2 k).symm
 ·obtain⟨k,rfl⟩:=Nat.le.dest (show n<=m by omega);exact zhh h k
def CV:bG c b env st=.bad\/∃n,bG c b env st=bh c b n env st:=by
 unfold bG
 split
 ·exact .inr ⟨_,rfl⟩
 ·exact .inl rfl
theorem yX(c:MT)(b:MS)(env:aM)(st:ak):bG c b env st=(c env st).bind λx st1=>if x then (b env st1).bind λo st2=>(match o with
   | .nx bf=>bG c b bf st2
   | .cn bf=>bG c b bf st2
   | .bk bf=>.ok (.nx bf) st2
   | .rt d=>.ok (.rt d) st2) else .ok (.nx env) st1:=by
 have one:∀n,bh c b (n+1) env st=(c env st).bind λx st1=>if x then (b env st1).bind λo st2=>(match o with
   | .nx bf=>bh c b n bf st2
   | .cn bf=>bh c b n bf st2
   | .bk bf=>.ok (.nx bf) st2
   | .rt d=>.ok (.rt d) st2) else .ok (.nx env) st1:=λn=>by rw[bh]<;>rfl
 have bd:(∀n,bh c b (n+1) env st=.bad)->bG c b env st=.bad:=λh=>by
  unfold bG;rw[dif_neg];rintro ⟨n,hn⟩;cases n with
  | zero=>exact hn (by rw[bh])
  | succ n=>exact hn (h n)
 have go:∀(bf:aM) (st2:ak),(∀n,bh c b (n+1) env st=bh c b n bf st2)->bG c b env st=bG c b bf st2:=λbf st2 h=>by
  by_cases hx:∃n,bh c b n bf st2≠.bad
  ·obtain⟨n,hn⟩:=hx;rw[Ue hn,<-h n,Ue (n:=n+1) (by rw[h n];exact hn)]
  ·have e2:bG c b bf st2=.bad:=by unfold bG;rw[dif_neg hx]
   rw[e2];refine bd λn=>?_;rw[h n];by_cases q:bh c b n bf st2=.bad
   ·exact q
   ·exact absurd ⟨n,q⟩ hx
 cases e:c env st with
 | bad=>rw[R.rC];exact bd λn=>by rw[one n,e,R.rC]
 | err x s =>
  rw[R.rB];have:bh c b 1 env st=.err x s:=by rw[one 0,e,R.rB]
  rw[Ue (n:=1) (by rw[this];exact λz=>nomatch z),this]
 | ok x st1 =>
  rw[R.aB];cases x with
  | false =>
   have:bh c b 1 env st=.ok (.nx env) st1:=by rw[one 0,e,R.aB];rfl
   rw[Ue (n:=1) (by rw[this];exact λz=>nomatch z),this];rfl
  | true =>
   rw[aeT rfl];cases e2:b env st1 with
   | bad=>rw[R.rC];exact bd λn=>by rw[one n,e,R.aB,aeT rfl,e2,R.rC]
   | err x s =>
    rw[R.rB];have:bh c b 1 env st=.err x s:=by rw[one 0,e,R.aB,aeT rfl,e2,R.rB]
    rw[Ue (n:=1) (by rw[this];exact λz=>nomatch z),this]
   | ok o st2 =>
    rw[R.aB];cases o with
    | nx bf=>exact go bf st2 λn=>by rw[one n,e,R.aB,aeT rfl,e2,R.aB]
    | cn bf=>exact go bf st2 λn=>by rw[one n,e,R.aB,aeT rfl,e2,R.aB]
    | bk bf =>
     have:bh c b 1 env st=.ok (.nx bf) st2:=by rw[one 0,e,R.aB,aeT rfl,e2,R.aB]
     rw[Ue (n:=1) (by rw[this];exact λz=>nomatch z),this]
    | rt d =>
     have:bh c b 1 env st=.ok (.rt d) st2:=by rw[one 0,e,R.aB,aeT rfl,e2,R.aB]
     rw[Ue (n:=1) (by rw[this];exact λz=>nomatch z),this]
def NP(c:Nat)(cs:List Nat):List Nat:=(cs.reverse.dropWhile (λx=>decide (x=c))).reverse
def R6(c:Nat):NP c []=[]:=rfl
end M
namespace L2
open PySem PySem.Spec PyProof.Rows
section
variable  {X:Cx}{a b:Expr}{rest:List Expr}{pos:Pos}{ta tb:TE}
end
end L2
namespace M
open PySem PySem.Spec L2
section
variable  {X:Cx}{a b c:Expr}{ma mb mc:ME}{pos:Pos}{rest:List Expr}
def Ef{body:List Stmt}{tc:MT}{mb:MS}(hc:JT X c tc)(hb:yS X body mb)(hp:PassesOwn (model X.prog X.w) X.A X.env X.xe):JS X (.While c body [] pos) (bG tc mb):=by
 rintro pins s σ H D I ⟨μ,env,st,hE,hs,q⟩;rcases CV (c:=tc) (b:=mb) (env:=env) (st:=st) with e | ⟨n,e⟩
 ·rw[e]at q;exact q.elim
 ·rw[e]at q;exact Jq n hc hb hp pins s σ H D I ⟨μ,env,st,hE,hs,q⟩
end
end M
namespace L2
open PySem PySem.Spec PyProof.Rows PySem.Builtin PySem.Builtin.Str
def zk0(c:Bool)(b:Str)(u:Tok):Gives (Builtin.«int.__rmul__» ⟨[.bool c,.str b u],[]⟩) (.val (Value.notImplemented)) :=
 .of_wp λM A E s Q h=>by obtain⟨hp,g,d,tk,os⟩:=s;wp_walk;exact⟨_,rfl,h⟩
def zmz(x:Str)(t:Tok):Gives («str.__mul__» ⟨[.str x t,.bool true],[]⟩) (.val (.str x t)):=.rule (.of_eq rfl)
def zku(x:Str)(t:Tok):Gives («str.__mul__» ⟨[.str x t,.bool false],[]⟩) (.str Str.empty):=.rule (.of_eq rfl)
def zoo{X:Cx}:dZ X (binaryOp .Mult) (λx y H Q=>∃(z:Str) (b:Bool),x=.str z/\y=.bl b/\z.length<=sizeLine/\Q (.str (if b=true then z else Str.empty)) H):=by
 intro pins s σ H x y v u Q I rx ry h;obtain⟨z,b,rfl,rfl,hz,q⟩:=h;obtain⟨t,rfl⟩:=rx;cases ry;refine wpAny_binaryOp_repeat (T:="str") (U:="bool") (by decide) (λs'=>afs s' z t) (λs'=>PyProof.Rows.typeIs_bool' s' b) noFill_str_mul F.fills_bool_mul F.slot_bool_rmul repeat_str F.slot_bool_index.lookup
  (call_gives F.slot_bool_rmul (PyProof.Rows.typeIs_bool' s b) F.entry_int_rmul (F.args_int_rmul_2 _ _) (zk0 b z t) ⟨rfl,?_⟩)
 cases b with
 | true=>exact call_gives F.slot_str_mul (afs s z t) F.entry_str_mul (F.args_str_mul_2 _ _) (zmz z t) ⟨.str z,H,I,⟨t,rfl⟩,q⟩
 | false=>exact call_gives F.slot_str_mul (afs s z t) F.entry_str_mul (F.args_str_mul_2 _ _) (zku z t) ⟨by decide,.str Str.empty,H,I.tok _,⟨_,rfl⟩,q⟩
end L2
namespace M
open PySem PySem.Spec L2
def DQ{X:Cx}:dZ X (binaryOp .Mult) (rM X rZ):=by
 refine dZ.weak zoo ?_;rintro x y H Q ⟨μ,st,dx,dy,hs,hx,hy,hp⟩;unfold rZ at hp
 split at hp
 ·rename_i cs b
  split at hp
  ·rename_i hl;obtain rfl:=aq.aP.mp hx;obtain rfl:=aq.bj.mp hy;refine⟨_,b,rfl,rfl,?_,?_⟩
   ·have e:(strOf cs).length=cs.length:=by simp[Str.length,strOf]
    rw[e];exact yf hl
   ·refine hp.ret hs (aq.aP.mpr ?_);cases b<;>rfl
  ·exact hp.elim
 ·exact hp.elim
structure XX(K:PySem.W.Frag)(x qual:Str)(st:Stmt)(f:Addr)(fd:FuncData):Prop where
 ex:∃(oc:Value) (od:Option Addr) (dV kV doc pm:Value) (an:Option Addr) (cdv ct:Value) (sS:Array (Option Value)),
  fd=PySem.W.fnOf x qual (bL st) (a_ st) (aD st) dV kV doc pm an cdv ct/\K.lookup f=some ⟨oc,od,.func fd,sS⟩/\PySem.W.codeIn K cdv qual=true
 kp:PySem.W.keepIn K (.ref f)=true
section
variable  {P:Program}{w:World}{K:PySem.W.Frag}{mg:Str->Option Value}{base:Heap}
def Xk(F:XX K x qual st f fd)(S:cU N ps (aD st)) 
  (lV:∀(cdv:Value) (A:Around) (outer:List Env) (s:Shared) (H:Hp),cH k (A.deeper (PyProof.Rows.envOfC qual (aD st) s.heap.objs.size f cdv)) ->
   yS (uZ qj P w K mg base N qual (aD st) f cdv A outer s H E0).Iu (a_ st) m):cu P w K mg base qj (k+1) f fd ps (vh K ps.length (bx N.length m)):=by
 obtain⟨oc,od,dV,kV,doc,pm,an,cdv,ct,sS,rfl,lk,xJ⟩:=F.ex;refine Kq lk xJ S (λvs H Q E h=>h.1) λA outer s H vs Q E hr h=>?_;obtain⟨hl,μ,ds,R4,hv,hs,hp⟩:=h;have hb:=lV cdv A outer s H hr;refine⟨_,yP.Iu hb,μ,startM N.length ds,R4,ao.start N hv,hs,?_⟩;unfold bx at hp;cases hr:m (startM N.length ds) R4 with
 | bad=>rw[hr]at hp;exact hp.elim
 | err x st1=>rw[hr]at hp;exact hp.elim
 | ok o st1 =>
  rw[hr]at hp;cases o with
  | rt d=>exact hp
  | nx env=>exact fun σ' H' μ' g pX _=>hp .non H' μ' g pX (aq.bD.mpr rfl)
  | bk env=>exact hp.elim
  | cn env=>exact hp.elim
def QL{x qual:Str}{st:Stmt}{f:Addr}{oc:Value}{od an:Option Addr}{sS:Array (Option Value)}{dV kV doc pm cdv ct:Value}(l:K.lookup f=some ⟨oc,od,.func (PySem.W.fnOf x qual (bL st) (a_ st) (aD st) dV kV doc pm an cdv ct),sS⟩)
  (c:PySem.W.codeIn K cdv qual=true) (k:PySem.W.keepIn K (.ref f)=true):XX K x qual st f (PySem.W.fnOf x qual (bL st) (a_ st) (aD st) dV kV doc pm an cdv ct):=⟨⟨oc,od,dV,kV,doc,pm,an,cdv,ct,sS,rfl,l,c⟩,k⟩
def XC{x qual:Str}{st:Stmt}{ps:List Str}{T:Addr}{oc:Value}{od:Option Addr}{d:Value}{n:Nat}{sS:Array (Option Value)}{kV doc pm cdv ct:Value}{an:Option Addr}(l:K.lookup T=some ⟨oc,od,.seq #[d] n,sS⟩)
  (h:∀us:List Value,us.length=ps.length->∃k:Option (Array Value)->Sem (List (Str×Value)),bindArgs (PySem.W.fnOf x qual (bL st) (a_ st) (aD st) (.ref T) kV doc pm an cdv ct) ⟨us,[]⟩=seqItems? (.ref T) >>= k/\k (some #[d])=pure (ps.zip us)) :
  Binds K (PySem.W.fnOf x qual (bL st) (a_ st) (aD st) (.ref T) kV doc pm an cdv ct) ps []:=λs us hK hl=>by
 rw[gB]at hl ⊢;obtain⟨k,h1,h2⟩:=h us hl;exact BindsTo.of_defaults (T:=T) rfl (hK _ _ l) rfl h1 h2
def Rn{x qual:Str}{st:Stmt}{ps:List Str}{T:Addr}{oc:Value}{od:Option Addr}{d:Value}{n:Nat}{sS:Array (Option Value)}{kV doc pm cdv ct:Value}{an:Option Addr}(l:K.lookup T=some ⟨oc,od,.seq #[d] n,sS⟩)
  (h:∀us:List Value,us.length+1=ps.length->∃k:Option (Array Value)->Sem (List (Str×Value)),bindArgs (PySem.W.fnOf x qual (bL st) (a_ st) (aD st) (.ref T) kV doc pm an cdv ct) ⟨us,[]⟩=seqItems? (.ref T) >>= k/\k (some #[d])=pure (ps.zip (us++[d]))) :
  Binds K (PySem.W.fnOf x qual (bL st) (a_ st) (aD st) (.ref T) kV doc pm an cdv ct) ps [d]:=λs us hK hl=>by
 obtain⟨k,h1,h2⟩:=h us (by simpa using hl);exact BindsTo.of_defaults (T:=T) rfl (hK _ _ l) rfl h1 h2
end
section
variable  {X:Cx}{e:Expr}{es:List Expr}{mA:MA}{pos p:Pos}{x:Str}{k:Nat}{f:Addr}{fd:FuncData}{ps:List Str}{F:FD}{i:Int}
end
def huL(L:Nat){A:Around}{k:Nat}(hr:cH k A)(h:L<=16*k+200):A.units+L<cLine:=by have:=hr.un;omega
end M
namespace M
inductive Tr where
 | lf (s:List Nat) | jn (l r:Tr)
namespace Tr
def uQ:Tr->Bool
 | .jn (.lf s) _=>s==[83]
 | _=>false
def val:Tr->Bool
 | .lf _=>true
 | .jn l r=>val r && (match l with
  | .lf s=>s==[83] || s==[75]
  | .jn _ _=>uQ l && val l)
def lv:Tr->Nat
 | .lf _=>1
 | .jn l r=>lv l+lv r
def dp:Tr->Nat
 | .lf _=>0
 | .jn l r=>max (dp l) (dp r)+1
def Ug(s:List Nat)(r:Tr):val (.jn (.lf s) r)=(val r && (s==[83] || s==[75])):=by rw[val]
def Ub(a b r:Tr):val (.jn (.jn a b) r)=(val r && (uQ (.jn a b) && val (.jn a b))):=by rw[val]
def RT{l r:Tr}(h:val (.jn l r)=true):val l=true/\val r=true:=by
 cases l with
 | lf s=>rw[Ug,gH]at h;exact⟨rfl,h.1⟩
 | jn a b=>rw[Ub,gH,gH]at h;exact⟨h.2.2,h.1⟩
def zjr(t:Tr):dp t<lv t:=by
 induction t with
 | lf s=>simp[dp,lv]
 | jn l r h1 h2=>rw[dp,lv];omega
def fO:Tr->Tr->Option Tr
 | .jn (.lf s) b,_=>if s=[75] then some b else none
 | .jn (.jn _ u) v,r=>some (.jn (.jn u r) (.jn v r))
 | .lf _,_=>none
noncomputable def step:Tr->Option Tr
 | .lf _=>none
 | .jn l r=>if val l=false then (step l).map (λx=>.jn x r) else if val r=false then (step r).map (λx=>.jn l x) else if val (.jn l r)=true then none else fO l r
def Yn{t:Tr}(h:val t=true):step t=none:=by
 cases t with
 | lf s=>rw[step]
 | jn l r =>
  obtain⟨h1,h2⟩:=RT h;rw[step,aeU (by simp[h1]),aeU (by simp[h2]),aeT h]
def zg2{l r:Tr}(h:val l=false):step (.jn l r)=(step l).map (λx=>.jn x r):=by rw[step,aeT h]
def zfi{l r:Tr}(h1:val l=true)(h:val r=false):step (.jn l r)=(step r).map (λx=>.jn l x):=by rw[step,aeU (by simp[h1]),aeT h]
def zfd{l r:Tr}(h1:val l=true)(h2:val r=true)(h:val (.jn l r)=false):step (.jn l r)=fO l r:=by rw[step,aeU (by simp[h1]),aeU (by simp[h2]),aeU (by simp[h])]
def run:Nat->Tr->Tr×Nat
 | 0,t=>(t,0)
 | n+1,t=>match step t with
  | none=>(t,0)
  | some u=>((run n u).1,(run n u).2+1)
theorem T9{t:Tr}(h:step t=none):∀n,run n t=(t,0)
 | 0=>rfl
 | n+1=>by rw[run,h]
def zjl{t u:Tr}(h:step t=some u)(n:Nat):run (n+1) t=((run n u).1,(run n u).2+1):=by rw[run,h]
def NK(a b:Nat):∀t,run (a+b) t=((run b (run a t).1).1,(run a t).2+(run b (run a t).1).2):=by
 induction a with
 | zero=>intro t;simp[run]
 | succ a ih =>
  intro t;rw[pN];cases h:step t with
  | none=>rw[T9 h,T9 h,T9 h];rfl
  | some u =>
   rw[zjl h,zjl h,ih u];simp only;rw[pN]
inductive Fr where
 | fl (r:Tr) | fr (l:Tr)
def fill:Fr->Tr->Tr
 | .fl r,t=>.jn t r
 | .fr l,t=>.jn l t
def cQ(fs:List Fr)(t:Tr):Tr:=fs.foldr fill t
def good(fs:List Fr):Prop:=∀f∈fs,∀l,f=.fr l->val l=true
def zgw(fs:List Fr)(f:Fr)(t:Tr):cQ (fs++[f]) t=cQ fs (fill f t):=by simp[cQ]
def zon(fs:List Fr)(f:Fr)(t:Tr):cQ (f::fs) t=fill f (cQ fs t):=rfl
def Kw{f:Fr}{t:Tr}(h:val t=false):val (fill f t)=false:=by
 cases hv:val (fill f t) with
 | false=>rfl
 | true =>
  cases f with
  | fl r=>rw[(RT hv).1]at h;exact h
  | fr l=>rw[(RT hv).2]at h;exact h
def HD{fs:List Fr}{t:Tr}(h:val t=false):val (cQ fs t)=false:=by
 induction fs with
 | nil=>exact h
 | cons f fs ih=>exact Kw ih
def Dk{fs:List Fr}{t:Tr}(hg:good fs)(h:val t=false):step (cQ fs t)=(step t).map (cQ fs):=by
 induction fs with
 | nil=>show step t=_;cases step t<;>rfl
 | cons f fs ih =>
  have ih:=ih λf hf=>hg f (kW _ hf);have hv:=HD (fs:=fs) h;rw[zon];cases f with
  | fl r =>
   show step (.jn (cQ fs t) r)=_;rw[zg2 hv,ih];cases step t<;>rfl
  | fr l =>
   show step (.jn l (cQ fs t))=_;rw[zfi (hg (.fr l) (by simp) l rfl) hv,ih];cases step t<;>rfl
def Oo(fs:List Fr)(t:Tr):fs.length+dp t<=dp (cQ fs t):=by
 induction fs with
 | nil=>simp[cQ]
 | cons f fs ih =>
  rw[zon,gC];cases f with
  | fl r=>show _<=dp (.jn (cQ fs t) r);rw[dp];omega
  | fr l=>show _<=dp (.jn l (cQ fs t));rw[dp];omega
def Hl{l r u:Tr}(h:fO l r=some u):dp u<=dp (.jn l r)+1:=by
 cases l with
 | lf s=>rw[fO]at h;cases h
 | jn a b =>
  cases a with
  | lf s =>
   rw[fO]at h
   split at h
   ·cases h;rw[dp,dp];omega
   ·cases h
  | jn a c =>
   rw[fO]at h;cases h;simp only[dp];omega
theorem zqc:∀{t u:Tr},step t=some u->dp u<=dp t+1
 | .lf _,_,h=>by rw[step]at h;cases h
 | .jn l r,u,h=>by
  rw[step]at h
  split at h
  ·cases e:step l with
   | none=>rw[e]at h;cases h
   | some x =>
    rw[e]at h;cases h;have:=zqc e;rw[dp,dp];omega
  ·split at h
   ·cases e:step r with
    | none=>rw[e]at h;cases h
    | some x =>
     rw[e]at h;cases h;have:=zqc e;rw[dp,dp];omega
   ·split at h
    ·cases h
    ·exact Hl h
def sk:Tr->Prop
 | .lf s=>s=[83]\/s=[75]
 | .jn l r=>sk l/\sk r
end Tr
open Tr
noncomputable def enc:Tr->D
 | .lf s=>.str s
 | .jn l r=>.tup [enc l,enc r,.int (lv (.jn l r):Nat),.bl (val (.jn l r))]
def zmg(t:Tr):flat (enc t)=true:=by
 induction t with
 | lf s=>simp[enc]
 | jn l r h1 h2=>simp[enc,h1,h2]
def QS(t:Tr):dep (enc t)=dp t:=by
 induction t with
 | lf s=>simp[enc,dp]
 | jn l r h1 h2=>simp[enc,dp,h1,h2]
def iV(n:Nat)(t:Tr):under n (enc t):=by
 induction t with
 | lf s=>simp[enc]
 | jn l r h1 h2=>simp[enc,h1,h2]
def zh0(L:Nat)(t:Tr)(s:List Nat)(st:ak):eN (L+1) (enc t) (.str s) st=.ok (.bl (match t with | .lf c=>decide (c=s) | .jn _ _=>false)) st:=by
 cases t with
 | lf c=>exact Hr st L c s
 | jn l r =>
  have hf:=zmg (.jn l r);unfold eN;have:lC (L+1) (enc (.jn l r)) (.str s) st=some false:=by
   rw[enc]at hf ⊢;simp only[lC];rw[aeT ⟨hf,by simp,by simp⟩];simp[jJ]
  rw[this]
def Uc(t:Tr)(st:ak):wG "str" (enc t) st=.ok (.bl (match t with | .lf _=>true | .jn _ _=>false)) st:=by
 cases t with
 | lf s=>rw[enc];simp[iG]
 | jn l r=>rw[enc];simp[iG]
def KD(t:Tr)(st:ak):fL (enc t) .non st=.ok (.bl false) st:=by
 cases t with
 | lf s=>rfl
 | jn l r=>rfl
end M
namespace M
open PySem PySem.Spec L2 PyProof.Rows
end M
namespace M
open L2
def lO:D->List D->ak->R D
 | .loc n,[],st=>match st[n]? with
  | some (.lst a)=>.ok .non (st.set n (.lst a.reverse))
  | _=>.bad
 | _,_,_=>.bad
end M
namespace M
open PySem PySem.Spec L2
section
variable  {X:Cx}
def zpj:rF X "list.reverse" (Gg X lO):=by
 refine rF.weak zq1 ?_;rintro x xs H Q ⟨μ,st,d,ds,hs,hx,jY,hp⟩;unfold lO at hp
 split at hp
 ·rename_i n
  split at hp
  ·rename_i a e1;obtain⟨p,q1,rfl⟩:=aq.aK.mp hx;rw[ao]at jY;obtain⟨p',ys,r1,r2,r3⟩:=hs.lst e1;rw[q1]at r1;cases r1;obtain⟨g,pX⟩:=uH hs e1 q1 r2 r3.reverse;exact⟨p,ys,rfl,jY,r2,hp _ _ μ g pX (aq.bD.mpr rfl)⟩
  ·exact hp.elim
 ·exact hp.elim
def cu.never{P:Program}{w:World}{K:PySem.W.Frag}{mg:Str->Option Value}{base:Heap}{k n:Nat}{f:Addr}{fd:FuncData}{ps:List Str}(h:n=ps.length:=by rfl):cu P w K mg base qj k f fd ps (vh K n λ_ _=>.bad) :=
 ⟨λvs H Q E q=>q.1.trans h,λA outer s H args us vs Q E hr he hb hv hs=>by
  obtain⟨_,_,_,_,_,_,hp⟩:=hs;exact hp.elim⟩
end
section
variable  {X:Cx}{pos p:Pos}{x:Str}{k:Nat}{f:Addr}{fd:FuncData}{F:FD}
def JK(G:cu X.prog X.w X.K X.mg X.base qj k f fd [] (vh X.K 0 F))(hr:cH k X.A)(hm:X.mg x=some (.ref f))(hk:PySem.W.keepIn X.K (.ref f)=true)(hb:Binds X.K fd [] [])(hg:Gl X x:=by rfl)(qU:(x==("__debug__":Str))=false:=by decide) :
  JE X (.Call (.Name x p) [] [] pos) (az F [] au):=by
 refine JE.of (Ib G hr hg hm hk hb .nil Ba qU) fun σ H Q zz=>?_;obtain⟨μ,env,st,hE,hs,hp⟩:=zz;refine⟨rfl,μ,[],st,ao.nil,hs,?_⟩;have dH:bJ X μ H (lQ X) Q (F ([]++[]) st).sure:=hp;rw[gB]at dH;cases hF:F [] st with
 | ok d st2=>rw[hF]at dH;exact dH
 | err y st2=>rw[hF]at dH;exact dH.elim
 | bad=>rw[hF]at dH;exact dH.elim
end
end M
namespace L2
open PySem PySem.Spec PyProof.Rows
def d_(L:List (Addr×Obj))(H:Hp):Hp:=λb=>match L.lookup b with | some o=>some (.frz o (.own 0)) | none=>H b
def dI(L:List (Addr×Obj))(H:Hp):Hp:=λb=>match L.lookup b with | some _=>none | none=>H b
def Z9(h:L.lookup b=some o):d_ L H b=some (.frz o (.own 0)):=by unfold d_;rw[h]
def wL(h:L.lookup b=none):d_ L H b=H b:=by unfold d_;rw[h]
def Z6(h:L.lookup b=some o):dI L H b=none:=by unfold dI;rw[h]
def CN(h:L.lookup b=none):dI L H b=H b:=by unfold dI;rw[h]
def FN(h:d_ L H b=some u):(∃o,L.lookup b=some o/\u=.frz o (.own 0))\/(L.lookup b=none/\H b=some u):=by
 unfold d_ at h;cases e:L.lookup b with
 | some o=>rw[e]at h;cases h;exact .inl ⟨o,rfl,rfl⟩
 | none=>rw[e]at h;exact .inr ⟨rfl,h⟩
def E_(h:dI L H b=some u):L.lookup b=none/\H b=some u:=by
 unfold dI at h;cases e:L.lookup b with
 | some o=>rw[e]at h;cases h
 | none=>rw[e]at h;exact⟨rfl,h⟩
section
variable  {P:Program}{w:World}{H H':Hp}{h h':Heap}{L:List (Addr×Obj)}
def lE.d_(x:lE P w H h)(n:∀b o,L.lookup b=some o->H b=none)(k:∀b o,L.lookup b=some o->h.get? b=some o):lE P w (d_ L H) h:=λa u e=>by
 have up:∀b v,H b=some v->L2.d_ L H b=some v:=λb v q=>by
  cases z:L.lookup b with
  | some o=>rw[n b o z]at q;cases q
  | none=>rw[wL z];exact q
 rcases FN e with⟨o,e1,rfl⟩ | ⟨e1,e2⟩
 ·exact⟨k a o e1,o,k a o e1⟩
 ·exact (x a u e2).ud (λ_ _ _ q=>q) (λb q=>up b _ q) λb xs q=>up b _ q
def lE.dI(x:lE P w H h)(n:∀b o,L.lookup b=some o->∃o',H b=some (.frz o' (.own 0))):lE P w (dI L H) h:=λa u e=>by
 have up:∀b v,H b=some v->(∀o',v≠.frz o' (.own 0))->L2.dI L H b=some v:=λb v q z=>by
  cases y:L.lookup b with
  | some o =>
   obtain⟨o',e'⟩:=n b o y;rw[e']at q;exact absurd (aeX q).symm (z o')
  | none=>rw[CN y];exact q
 obtain⟨_,e2⟩:=E_ e;exact (x a u e2).ud (λ_ _ _ q=>q) (λb q=>up b _ q λ_ z=>nomatch z) λb xs q=>up b _ q λ_ z=>nomatch z
end
section
variable  {X:Cx}{k:Nat}{f:Addr}{fd:FuncData}{ps:List Str}{sp:Sp}{lW:List V}{ds:List Value}{pins:List (Addr×Obj)}{σ:St}{H:Hp}{s:Shared}{Q:VK}{us:List Value}{vs:List V}
def NB(F:cu X.prog X.w X.K X.mg X.base qj k f fd ps sp)(hr:cH k X.A)(hb:Binds X.K fd ps ds)(hd:Vals lW ds)(I:Inv X pins σ H s) 
  (hL:∀b o,L.lookup b=some o->s.heap.get? b=some o/\∃x,X.env.cells.lookup x=some b/\X.fn x=true)
  (r:Vals vs us) (h:sp (vs++lW) (d_ L H) (λv H'=>Q v (dI L H')) E0):wpAny (model X.prog X.w) X.A (call (.ref f) us) (EP X pins σ Q) X.xe s:=by
 have r2:Vals (vs++lW) (us++ds):=r.append hd;have hl:(us++ds).length=ps.length:=by rw[<-r2.length];exact F.len _ _ _ _ h
 have nL:∀b o,L.lookup b=some o->H b=none:=λb o e=>let ⟨_,x,hx,_⟩:=hL b o e;I.jL x b hx;have e0:=I.QR;have e1:yc X.prog X.w X.K X.mg X.base X.A X.stack s (d_ L H):=by
  refine⟨e0.frames,e0.mod,λb o e=>⟨(e0.bs b o e).1,?_⟩,e0.Fw,e0.oN,λb oM=>?_,I.bI.d_ nL λb o e=>(hL b o e).1,e0.bare⟩
  ·cases z:L.lookup b with
   | none=>rw[wL z];exact (e0.bs b o e).2
   | some o' =>
    obtain⟨_,x,hx,hf⟩:=hL b o' z;have h1:=I.ok.Tz x b hf hx;exact absurd (gQ (gw e) (kh I.ok.Fw h1)) (mR _)
  ·cases z:L.lookup b with
   | none=>rw[wL z];exact e0.Kl b oM
   | some o' =>
    obtain⟨_,x,hx,hf⟩:=hL b o' z;rcases gj.mp (I.uE b oM) with q | q
    ·exact absurd q (I.Tv x b hx)
    ·have h1:=I.ok.Tz x b hf hx;obtain⟨_,o2,J5,_⟩:=I.ok.oN.mem q;exact absurd (gQ (gw J5) h1) (mR _)
 refine wpAny_call (afz (F.run X.A X.stack s (d_ L H) ⟨us,[]⟩ (us++ds) (vs++lW) _ E0 hr e1 (hb s us I.qp hl) r2 h) λr s' hq=>?_);cases r with
 | error e=>exact False.elim hq
 | ok fl =>
  cases fl with
  | ret u =>
   obtain⟨v,H',os,bare,un,bI,rv,q⟩:=hq;obtain⟨hh,g,d,t,YW⟩:=s';obtain rfl:YW=s.os:=os;have kept:∀b o,L.lookup b=some o->H' b=some (.frz o (.own 0)):=λb o e=>un.sG b o (.own 0) (Z9 e);have un':Un (BL X.stack) [] H (dI L H') s.heap hh:=by
    refine⟨λb o e n hb hx=>?_,λb o e n hb hx=>?_,λb o e n hx=>?_,un.there,λb xs e=>?_,λb o u e=>?_,λb ps e=>?_⟩
    ·cases z:L.lookup b with
     | none=>exact un.keep b o e (by rw[wL z];exact n) hb hx
     | some o' =>
      have e2:=(hL b o' z).1;rw[e]at e2;cases e2;exact (bI b _ (kept b o z)).1
    ·cases z:L.lookup b with
     | none=>exact un.slot b o e (by rw[wL z];exact n) hb hx
     | some o' =>
      have e2:=(hL b o' z).1;rw[e]at e2;cases e2;exact⟨o.slots,(bI b _ (kept b o z)).1⟩
    ·cases z:L.lookup b with
     | none=>rw[CN z];exact un.free b o e (by rw[wL z];exact n) hx
     | some o'=>exact Z6 z
    ·have z:L.lookup b=none:=by
      cases z:L.lookup b with
      | none=>rfl
      | some o'=>rw[nL b o' z]at e;cases e
     rw[CN z];exact un.uw b xs (by rw[wL z];exact e)
    ·have z:L.lookup b=none:=by
      cases z:L.lookup b with
      | none=>rfl
      | some o'=>rw[nL b o' z]at e;cases e
     rw[CN z];exact un.sG b o u (by rw[wL z];exact e)
    ·have z:L.lookup b=none:=by
      cases z:L.lookup b with
      | none=>rfl
      | some o'=>rw[nL b o' z]at e;cases e
     rw[CN z];exact un.uc b ps (by rw[wL z];exact e)
   exact⟨v,dI L H',I.call (h':=hh) (g':=g) (d':=d) (t':=t) (ch:=[]) un' (bI.dI λb o e=>⟨o,kept b o e⟩) bare (λb z=>absurd z (by simp)),rv,q⟩
  | next=>exact False.elim hq
  | brk=>exact False.elim hq
  | cont=>exact False.elim hq
end
def BMain(mg:Str->Option Value)(base:Heap):Prop :=
 ∃bm o,mg "__builtins__" = some (.ref bm)/\bm≠builtinsNs/\bm≠mainGlobals/\base.get? bm=some o/\o.cls=.type "module"/\o.dict=some builtinsNs/\o.data=.plain
def abY(H:Hp)(P:Addr)(q:Str):Prop:=∃ps:Array Value,H P=some (.tbl ps)/\TriplesOk ps.toList/\∀pos cv,codeAmong pos ps.toList=some cv->∃c',cv=.ref c'/\M.rD H c' q
structure u_(H H':Hp)(P f c':Addr)(q:Str)(ob:Obj):Prop where
 new:H' f=some (.frz ob (.own 0))
 nf:H f=none
 code:M.rD H' c' q
 tab:abY H' P q
 same:∀b u,b≠P->H b=some u->H' b=some u
def acy(P:Addr)(q:Str)(params:Arguments)(body:Expr)(scope:Scope)(clos:List (Str×Addr)):TE:=fun σ H Q=>abY H P q /\
 ∀f c' pm q9 H',u_ H H' P f c' q (PySem.W.kla_obj "<lambda>" q params body scope clos pm c' q9)->Q (.ref f) H'
def zli(ht:TriplesOk l)(hn:codeAmong pos l=none)(h:codeAmong pos' (l++[rawInt pos.line,rawInt pos.col,c])=some cv):codeAmong pos' l=some cv\/cv=c:=by
 clear hn
 fun_induction TriplesOk l with
 | case1 =>
  simp only[mQ,codeAmong,rawInt]at h
  split at h
  ·cases h;exact .inr rfl
  ·cases h
 | case2 a t b u x rest ih =>
  simp only[nW,codeAmong]at h ⊢
  split at h
  ·rename_i hc;rw[aeT hc];exact .inl h
  ·rename_i hc;rw[aeU hc];exact ih ht h
 | case3 l h1 h2=>exact ht.elim
section
variable  {X:Cx}{P c:Addr}{q:Str}{params:Arguments}{body:Expr}{scope:Scope}{clos:List (Str×Addr)}{pos:Pos}
def Vs(hB:BMain X.mg X.base)(hc:X.env.code=.ref c)(hh:PySem.W.codeHdIn X.K c P=true)(hq:X.env.qual ++ "<lambda>" = q)(ug:closureFor scope X.env=pure clos)(Xe:defaultsOf params X.env=([],[]):=by rfl) :
  PE X (.Lambda params body scope pos) (acy P q params body scope clos):=by
 rintro pins s σ H Q I ⟨⟨ps,hP,ht,zZ⟩,h⟩;refine PySem.W.kla_eval Xe ?_;rw[hq];have oP:s.heap.get? P=some (PySem.W.tabObj ps):=I.bI P _ hP;have hg:s.heap.Ns mainGlobals X.mg:=I.mod.glob.keeps I.bk;have CH:PySem.W.CodeHd s.heap c P:=PySem.W.codeHd_of_K I.qp hh;have hgP:mainGlobals≠P:=λz=>by
  obtain⟨o,es,ep,e,d,_⟩:=hg;rw[z,oP]at e;cases e;cases d
 have hb:s.heap.BuiltinsAt X.mg P:=by
  obtain⟨bm,o,b1,b2,b3,b4,b5,b6,b7⟩:=hB;have e:=I.bk bm o b4;refine⟨bm,o,b1,b2,b3,λz=>?_,e,b5,b6,b7⟩;rw[z,oP]at e;cases e;cases b7
 have hLP:X.env.locals≠P:=λz=>by have:=I.free;rw[z,hP]at this;cases this
 cases hca:codeAmong pos ps.toList with
 | none =>
  refine PySem.W.kla_makeFunction (mg:=X.mg) ug I.ok.glob hg hc CH oP ht hca hgP hb λc' q9 h' tk hx hge vo adD htb=>?_;obtain⟨c2,oc,vs,t,e2,hoc,hd,hv⟩:=adD;cases e2;have hsz:s.heap.objs.size<=h'.objs.size:=kh hge (Nat.le_of_lt vo);have nc:H c'=none:=I.bI.fresh hge;have nf:H h'.objs.size=none:=I.bI.fresh hsz;have cf:c'≠h'.objs.size:=gU vo;have cP:c'≠P:=λz=>by rw[z,hP]at nc;cases nc
  have fP:h'.objs.size≠P:=λz=>by rw[z,hP]at nf;cases nf
  let ob:Obj:=PySem.W.kla_obj "<lambda>" q params body scope clos ((X.mg "__name__").getD .none) c' q9
  let ps':Array Value:=ps++#[rawInt pos.line,rawInt pos.col,.ref c']
  let H1:Hp:=upd H P (.tbl ps')
  let H2:Hp:=upd H1 c' (.frz oc (.own 0))
  let H':Hp:=upd H2 h'.objs.size (.frz ob (.own 0))
  have s1:∀b u,b≠P->H b=some u->H' b=some u:=λb u QG e=>by
   have n1:b≠h'.objs.size:=zr e nf;have n2:b≠c':=zr e nc;show upd H2 h'.objs.size _ b=_;rw[iC n1];show upd H1 c' _ b=_;rw[iC n2];show upd H P _ b=_;rw[iC QG];exact e
  have atP:H' P=some (.tbl ps'):=by
   show upd H2 h'.objs.size _ P=_;rw[iC (ae4 fP)];show upd H1 c' _ P=_;rw[iC (ae4 cP)];exact qt
  have atc:H' c'=some (.frz oc (.own 0)):=by
   show upd H2 h'.objs.size _ c'=_;rw[iC cf];exact qt
  have atf:H' h'.objs.size=some (.frz ob (.own 0)):=qt;have back:∀b u,H' b=some u->b=h'.objs.size\/b=c'\/b=P\/(b≠P/\H b=some u):=λb u e=>by
   by_cases n1:b=h'.objs.size
   ·exact .inl n1
   by_cases n2:b=c'
   ·exact .inr (.inl n2)
   by_cases n3:b=P
   ·exact .inr (.inr (.inl n3))
   ·refine .inr (.inr (.inr ⟨n3,?_⟩));have e:upd H2 h'.objs.size _ b=some u:=e;rw[iC n1]at e;have e:upd H1 c' _ b=some u:=e;rw[iC n2]at e;have e:upd H P _ b=some u:=e;rw[iC n3]at e;exact e
  have kp:∀b o,b≠P->s.heap.get? b=some o->(h'.push ob).get? b=some o:=λb o QG e=>gF _ (hx b o QG e);have ext:M.Ext H H':=⟨λb xs e=>s1 b _ (λz=>by rw[z,hP]at e;cases e) e,λb o u e=>s1 b _ (λz=>by rw[z,hP]at e;cases e) e⟩;have new:u_ H H' P h'.objs.size c' q ob:=by
   refine⟨atf,nf,⟨oc,vs,t,atc,hd,hv⟩,⟨ps',atP,?_,λpos' cv e=>?_⟩,s1⟩
   ·show TriplesOk (ps++#[rawInt pos.line,rawInt pos.col,Value.ref c']).toList;rw[Array.toList_append];exact TriplesOk_snoc _ _ _ _ ht
   ·have e':codeAmong pos' (ps.toList++[rawInt pos.line,rawInt pos.col,Value.ref c'])=some cv:=by
     rw[<-Array.toList_append];exact e
    rcases zli ht hca e' with e1 | e1
    ·obtain⟨c2,q1,q2⟩:=zZ pos' cv e1;exact⟨c2,q1,q2.ext ext⟩
    ·exact⟨c',e1,⟨oc,vs,t,atc,hd,hv⟩⟩
  refine⟨.ref h'.objs.size,H',?_,rfl,h _ _ _ _ _ new⟩;have nP:∀b,H b=none->b≠P:=λb n z=>by rw[z,hP]at n;cases n
  refine I.step (g':=s.gens) (d':=s.drawn) (ch:=[]) (λ_ z=>nomatch z) (λb o _ _ _ e n=>kp b o (nP b n) e) (λb o _ _ _ e n=>⟨o.slots,kp b o (nP b n) e⟩) (λb o _ e n=>?_) (λb o _ e=>?_)
   (λb xs e=>ext.tup b xs e) (λb o u e=>ext.frz b o u e) (λb ps2 e=>?_) (λm hm=>(hm.extBut hx hLP).push _) (λb u e=>?_) I.bare
  ·cases z:H' b with
   | none=>rfl
   | some u =>
    have lt:=gw e;rcases back b u z with z1 | z1 | z1 | ⟨_,z1⟩
    ·rw[z1]at lt;exact absurd (gQ lt hsz) (mR _)
    ·rw[z1]at lt;exact absurd (gQ lt hge) (mR _)
    ·exact absurd z1 (nP b n)
    ·rw[n]at z1;cases z1
  ·by_cases QG:b=P
   ·subst QG;exact⟨_,gF _ htb⟩
   ·exact⟨o,kp b o QG e⟩
  ·by_cases QG:b=P
   ·subst QG;rw[hP]at e;cases e;exact⟨_,atP⟩
   ·exact⟨#[],by rw[s1 b _ QG e];simp⟩
  ·rcases back b u e with z1 | z1 | z1 | ⟨z0,z1⟩
   ·subst z1;rw[atf]at e;cases e;exact⟨gZ _ rfl,ob,gZ _ rfl⟩
   ·subst z1;rw[atc]at e;cases e;exact⟨gF _ hoc,oc,gF _ hoc⟩
   ·subst z1;rw[atP]at e;cases e;exact gF _ htb
   ·have Iv:∀b2 u2,H b2=some u2->(∀ps2,u2≠.tbl ps2)->H' b2=some u2:=λb2 u2 q z=>s1 b2 u2 (λy=>by rw[y,hP]at q;exact z _ (aeX q).symm) q;refine (I.bI b u z1).ud (λc2 v hc q=>kp c2 v ?_ q) (λc2 q=>Iv c2 _ q λ_ z=>nomatch z) λc2 xs q=>Iv c2 _ q λ_ z=>nomatch z;rcases hc with y | y
    ·rw[y];exact z0
    ·exact λy2=>by rw[y2,hP]at y;cases y
 | some cv =>
  obtain⟨c',rfl,yE⟩:=zZ pos cv hca;refine PySem.W.kla_makeFunctionHit (mg:=X.mg) ug I.ok.glob hg hc CH oP ht hca hb λq9 h' tk hk hsz=>?_;have nf:H h'.objs.size=none:=I.bI.fresh hsz
  let ob:Obj:=PySem.W.kla_obj "<lambda>" q params body scope clos ((X.mg "__name__").getD .none) c' q9
  have kp:∀b o,s.heap.get? b=some o->(h'.push ob).get? b=some o:=λb o e=>gF _ (hk b o e);have s1:∀b u,H b=some u->upd H h'.objs.size (.frz ob (.own 0)) b=some u:=λb u e=>by rw[iC (zr e nf)];exact e
  have ext:M.Ext H (upd H h'.objs.size (.frz ob (.own 0))):=⟨λb xs e=>s1 b _ e,λb o u e=>s1 b _ e⟩;refine⟨.ref h'.objs.size,upd H h'.objs.size (.frz ob (.own 0)),I.laid (t':=tk) kp (by exact hsz) ⟨gZ _ rfl,ob,gZ _ rfl⟩,rfl,h _ c' _ _ _ ⟨qt,nf,yE.ext ext,⟨ps,s1 _ _ hP,ht,λpos' cv e=>?_⟩,λb u _ e=>s1 b u e⟩⟩;obtain⟨c2,q1,q2⟩:=zZ pos' cv e;exact⟨c2,q1,q2.ext ext⟩
end
def zkk{cl:List (Str×Addr)}(nd:(cl.map (·.2)).Nodup){x y:Str}{c:Addr}(h1:cl.lookup x=some c)(h2:cl.lookup y=some c):x=y:=by
 induction cl with
 | nil=>cases h1
 | cons p cl ih =>
  obtain⟨z,d⟩:=p;rw[gr,mF]at nd;have mem:∀w,cl.lookup w=some c->c∈cl.map (·.2):=λw e=>gh.mpr ⟨(w,c),aeZ e,rfl⟩;rw[kE]at h1 h2;by_cases e1:(x==z)=true
  ·simp only[e1]at h1;cases h1;by_cases e2:(y==z)=true
   ·rw[eq_of_beq e1,eq_of_beq e2]
   ·simp only[show (y==z)=false by simpa using e2]at h2;exact absurd (mem y h2) nd.1
  ·simp only[show (x==z)=false by simpa using e1]at h1;by_cases e2:(y==z)=true
   ·simp only[e2]at h2;cases h2;exact absurd (mem x h1) nd.1
   ·simp only[show (y==z)=false by simpa using e2]at h2;exact ih nd.2 h1 h2
def DY{β:Type}{cl:List (Str×β)}{x:Str}(h:x∈cl.map (·.1)):∃c,cl.lookup x=some c:=by
 induction cl with
 | nil=>cases h
 | cons p cl ih =>
  rw[kE];by_cases e:(x==p.1)=true
  ·simp only[e];exact⟨_,rfl⟩
  ·simp only[show (x==p.1)=false by simpa using e];refine ih ?_;rcases gj.mp h with z | z
   ·rw[z]at e;simp at e
   ·exact z
def lookup_mem{β:Type}{l:List (Str×β)}{x:Str}{u:β}(nd:(l.map (·.1)).Nodup)(h:(x,u)∈l):l.lookup x=some u:=by
 induction l with
 | nil=>cases h
 | cons p l ih =>
  rw[gr,mF]at nd;rw[kE];rcases gj.mp h with z | z
  ·subst z;simp
  ·have:(x==p.1)=false:=by
    have hx:x∈l.map (·.1):=gh.mpr ⟨(x,u),z,rfl⟩;have:x≠p.1:=λy=>nd.1 (y ▸ hx);simpa using this
   simp only[this];exact ih nd.2 z
theorem zk7:∀{cl:List (Str×Addr)} {vs:List V},M.eV H cl vs->(cl.map (·.2)).Nodup->∃L:List (Addr×Obj),(∀b o,L.lookup b=some o->H b=some (.frz o (.own 0))/\∃u,o.data=.cell (some u)) /\
  (∀(i:Nat) (x:Str) (c:Addr),cl[i]? = some (x,c)->∃v o u,vs[i]? = some v/\L.lookup c=some o/\o.data=.cell (some u)/\RelV v u)/\vs.length=cl.length
 | [],vs,h,_=>by
  have h:vs=[]:=h;subst h;exact⟨[],λb o e=>by simp at e,λi x c e=>by simp at e,rfl⟩
 | (x,c)::cl,_,⟨v,r,o,u,rfl,h2,h3,h4,h5⟩,nd=>by
  rw[gr,mF]at nd;obtain⟨L,Gn,hL2,hlen⟩:=zk7 h5 nd.2;refine⟨(c,o)::L,λb o' e=>?_,λi y d e=>?_,by simp[hlen]⟩
  ·rw[kE]at e;by_cases hb:(b==c)=true
   ·simp only[hb]at e;cases e;rw[eq_of_beq hb];exact⟨h2,u,h3⟩
   ·simp only[show (b==c)=false by simpa using hb]at e;exact Gn b o' e
  ·cases i with
   | zero =>
    simp at e;obtain⟨rfl,rfl⟩:=e;exact⟨v,o,u,rfl,by rw[kE];simp,h3,h4⟩
   | succ i =>
    have e:cl[i]? = some (y,d):=by simpa using e
    obtain⟨v',o',u',q1,q2,q3,q4⟩:=hL2 i y d e;have hd:(d==c)=false:=by
     have:d∈cl.map (·.2):=gh.mpr ⟨(y,d),gW e,rfl⟩;have:d≠c:=λz=>nd.1 (z ▸ this);simpa using this
    exact⟨v',o',u',by simpa using q1,by rw[kE];simp only[hd];exact q2,q3,q4⟩
structure yQ(cn ps:List Str)(sc:Scope):Prop where
 kind:sc.kind=.function
 co:sc.isCoroutine=false
 gen:sc.isGenerator=false
 nd:(cn++ps).Nodup
 free:∀y∈sc.names,y.2=.free->y.1∈cn
 Iw:∀y∈sc.names,y.2≠.cell
 Wy:∀x∈cn,sc.names.lookup x=some .free
 par:∀x∈ps,sc.names.lookup x=some .local
def Bl(P:Program)(w:World)(K:PySem.W.Frag)(mg:Str->Option Value)(base:Heap)(N:List Str)(qual:Str)(scope:Scope)(f:Addr)(cd:Value)(cl:List (Str×Addr))(A:Around)(outer:List Env)(s:Shared)(H:Hp):Cx where
 prog:=P
 w:=w
 K:=K
 mg:=mg
 base:=base
 A:=A.deeper (PySem.W.envX qual scope s.heap.objs.size f cd cl)
 N:=N
 aeJ:=s
 aeR:=H
 env:=PySem.W.envX qual scope s.heap.objs.size f cd cl
 outer:=outer
 stack:=PySem.W.envX qual scope s.heap.objs.size f cd cl::outer
 ex:=[]
 calm:=true
 fn:=λ_=>false
 pn:=[]
 xe:=λ_ _=>False
section
variable  {P:Program}{w:World}{K:PySem.W.Frag}{mg:Str->Option Value}{base:Heap}{A:Around}{outer:List Env}{s:Shared}{H:Hp}{qual:Str}{params:Arguments}{body:Expr}{scope:Scope}{cl:List (Str×Addr)}{pm q9:Value}{c' f:Addr}{k:Nat}
 {cn ps:List Str} {us:List Value} {vs Mp:List V} {Q:VK} {t:TE}
def PN(e0:yc P w K mg base A outer s H)(hr:cH (k+1) A)(S:yQ cn ps scope)(hf:H f=some (.frz (PySem.W.kla_obj "<lambda>" qual params body scope cl pm c' q9) (.own 0)))(yE:M.rD H c' qual)
  (Tc:cl.map (·.1)=cn) (zg:(cl.map (·.2)).Nodup) (xH:M.eV H cl Mp) (hb:bindArgs (PySem.W.kla_fn "<lambda>" qual params body scope cl pm (.ref c') q9) ⟨us,[]⟩=pure (ps.zip us)) (hl:us.length=ps.length) (r:Vals vs us)
  (lV:∀L:List (Addr×Obj),(∀b o,L.lookup b=some o->H b=some (.frz o (.own 0))/\∃u,o.data=.cell (some u))->∃t,PE (Bl P w K mg base (cn++ps) qual scope f (.ref c') cl A outer s (dI L H)) body t/\t ((Mp++vs).map some) (dI L H) λv H'=>(∀b o,L.lookup b=some o->H' b=none)->Q v (d_ L H')) :
  codeAny (model P w) A (.call (.ref f) ⟨us,[]⟩) (CR qj outer P w H s Q E0) s:=by
 obtain⟨L,Gn,hL2,S9⟩:=zk7 xH zg;obtain⟨t,hPE,ht⟩:=lV L Gn;have of:=(e0.bI f _ hf).1;obtain⟨oc,cvs,ct,hc1,Xh,hc3⟩:=yE;have occ:=(e0.bI c' _ hc1).1;have lim:s.heap.NoLimit:=e0.mod.nolimit.keeps λb o e=>(e0.bs b o e).1;have cellIn:∀x c,cl.lookup x=some c->∃i,cl[i]? = some (x,c):=λx c e=>by
  obtain⟨i,hi,e2⟩:=List.getElem_of_mem (aeZ e);exact⟨i,by rw[gM hi,e2]⟩
 have abL:∀x c,cl.lookup x=some c->∃o,L.lookup c=some o:=λx c e=>by
  obtain⟨i,hi⟩:=cellIn x c e;obtain⟨_,o,_,_,q,_⟩:=hL2 i x c hi;exact⟨o,q⟩
 have abp:lE P w (dI L H) s.heap:=e0.bI.dI λb o e=>⟨o,(Gn b o e).1⟩;refine PySem.W.kla_callFunE hr.depth of rfl S.co S.gen rfl ⟨c',oc,cvs,ct,rfl,occ,Xh,hc3⟩ ?_;rw[hb];have adK:∀x∈ps.zip us,scope.names.lookup x.1=some .local:=λ⟨n,v⟩ hy=>S.par n (nu hy).1;refine aeV (wpAny_newFunctionEnv S.Iw adK (λaeQ Eo Zo=>⟨lim.fresh _ Zo,?_⟩) S.kind);have ace:∀b o,s.heap.get? b=some o->aeQ.get? b=some o:=λb o e=>Zo.extBut b o (gU (gw e)) (gF _ e);show codeAny _ _ (.expr body (PySem.W.envX qual scope s.heap.objs.size f (.ref c') cl)) _ _;have Pq:∀b:Addr,b∉(Bl P w K mg base (cn++ps) qual scope f (.ref c') cl A outer s (dI L H)).ex:=λb z=>absurd (show b∈([]:List Addr) from z) (by simp);have yI:∀b,H b=none->dI L H b=none:=λb n=>by
  cases z:L.lookup b with
  | some o=>exact Z6 z
  | none=>rw[CN z];exact n
 have I:Inv (Bl P w K mg base (cn++ps) qual scope f (.ref c') cl A outer s (dI L H)) [] ((Mp++vs).map some) (dI L H) { s with heap:=aeQ,toks:=s.toks+(ps.zip us).length }:=by
  refine⟨⟨e0.mod,S.kind,rfl,rfl,gb _,λy z c h1 h2=>zkk zg h1 h2,λy hy=>?_,λy c z _=>(by cases z),λ_=>hr.hd,Around.frames_deeper e0.frames,.inr ⟨rfl,rfl⟩,λb z=>absurd z (Pq b),λb o e=>⟨(e0.bs b o e).1,yI b (e0.bs b o e).2⟩,e0.Fw,λb _ _=>Pq b,λb z=>absurd z (Pq b),e0.oN,λb oM=>yI b (e0.Kl b oM)⟩,
   rfl,e0.bare,Un.kept ace,⟨_,Eo,λi y v h1 h2 h3=>?_⟩,λy c h=>?_,abp.fresh (gb _),λy c h=>?_,λp hp=>absurd (show p∈([]:List (Addr×Obj)) from hp) (by simp),abp.kept ace,?_⟩
  ·have hy:scope.names.lookup y=some .cell\/scope.names.lookup y=some .free:=hy;rcases hy with hy | hy
   ·exact absurd rfl (S.Iw _ (aeZ hy))
   ·have hm:=S.free _ (aeZ hy) rfl;rw[<-Tc]at hm;obtain⟨p,hp,rfl⟩:=gh.mp hm;exact DY (gh.mpr ⟨p,hp,rfl⟩)
  ·have ndc:(cl.map (·.1)).Nodup:=by rw[Tc];exact (nJ.mp S.nd).1
   have ndp:ps.Nodup:=(nJ.mp S.nd).2.1;have ug:cn.length=cl.length:=by rw[<-Tc,gq]
   have h2:(Mp++vs)[i]? = some v:=by
    rw[gP]at h2;cases q:(Mp++vs)[i]? with
    | none=>rw[q]at h2;cases h2
    | some v'=>rw[q]at h2;cases h2;rfl
   have h1:(cn++ps)[i]? = some y:=h1;by_cases hi:i<cn.length
   ·rw[gK hi]at h1;rw[gK (by rw[S9,<-ug];exact hi)]at h2;have hci:i<cl.length:=by omega
    have ec:cl[i]? = some (y,(cl[i]).2):=by
     rw[gM hci];have:(cl.map (·.1))[i]? = some y:=by rw[Tc];exact h1
     rw[gP,gM hci]at this;have e:cl[i].1=y:=aeX this;rw[<-e]
    obtain⟨v',o,u,q1,q2,q3,q4⟩:=hL2 i y _ ec;rw[h2]at q1;cases q1;refine⟨u,q4,.inr ⟨.inr (S.Wy y (gW h1)),_,lookup_mem ndc (gW ec),o,ace _ _ (e0.bI _ _ (Gn _ o q2).1).1,q3⟩⟩
   ·rw[h_ (by omega)]at h1;rw[h_ (by omega)]at h2;have Xa:i - Mp.length=i - cn.length:=by omega
    rw[Xa]at h2;obtain⟨u,hu,rv⟩:=r.get h2;refine⟨u,rv,.inl ⟨S.par y (gW h1),?_⟩⟩;have hm:(y,u)∈(ps.zip us).reverse:=by
     rw[List.mem_reverse];refine gW (i:=i - cn.length) ?_;rw[pO];exact⟨h1,hu⟩
    refine lookup_mem ?_ hm;rw[pB,List.map_fst_zip (by omega)];exact List.pairwise_reverse.mpr (ndp.imp λh=>ae4 h)
  ·obtain⟨i,hi⟩:=cellIn y c h;obtain⟨v,o,u,_,q2,q3,_⟩:=hL2 i y c hi;exact⟨some u,o,ace _ _ (e0.bI c _ (Gn c o q2).1).1,q3⟩
  ·obtain⟨o,q⟩:=abL y c h;exact Z6 q
  ·show ((Mp++vs).map some).length=(cn++ps).length;rw[gq,gJ,gJ,S9,<-Tc,gq,r.length,hl]
 refine PySem.W.kla_codeExpr (ae6 (hPE [] _ _ _ _ I ht) (λv s' h=>?_) λe s' h=>h.elim);obtain⟨x,H',J,rx,q⟩:=h;obtain⟨hh,g,d,tk,YW⟩:=s';have jb:Un (BL outer) [] (dI L H) H' s.heap hh:=J.base;have kc:∀b o,L.lookup b=some o->hh.get? b=some o/\H' b=none:=λb o e=>by
  have e1:=(e0.bI b _ (Gn b o e).1).1;have nfr:b∉BL outer:=λz=>by have:=e0.Kl b z;rw[(Gn b o e).1]at this;cases this
  exact⟨jb.keep b o e1 (Z6 e) nfr (by simp),jb.free b o e1 (Z6 e) (by simp)⟩
 refine⟨x,d_ L H',J.os,J.bare,⟨λb o e n oM hx=>?_,λb o e n oM hx=>?_,λb o e n hx=>?_,jb.there,λb xs e=>?_,λb o u e=>?_,λb ps e=>?_⟩,J.bI.d_ (λb o e=>(kc b o e).2) (λb o e=>(kc b o e).1),rx,q λb o e=>(kc b o e).2⟩
 ·exact jb.keep b o e (yI b n) oM hx
 ·exact jb.slot b o e (yI b n) oM hx
 ·have z:L.lookup b=none:=by
   cases z:L.lookup b with
   | none=>rfl
   | some o'=>rw[(Gn b o' z).1]at n;cases n
  rw[wL z];exact jb.free b o e (yI b n) hx
 ·have z:L.lookup b=none:=by
   cases z:L.lookup b with
   | none=>rfl
   | some o'=>rw[(Gn b o' z).1]at e;cases e
  rw[wL z];exact jb.uw b xs (by rw[CN z];exact e)
 ·cases z:L.lookup b with
  | some o' =>
   rw[(Gn b o' z).1]at e;cases e;exact Z9 z
  | none=>rw[wL z];exact jb.sG b o u (by rw[CN z];exact e)
 ·have z:L.lookup b=none:=by
   cases z:L.lookup b with
   | none=>rfl
   | some o'=>rw[(Gn b o' z).1]at e;cases e
  rw[wL z];exact jb.uc b ps (by rw[CN z];exact e)
end
end L2
namespace M
open PySem PySem.Spec L2
mutual
theorem aq.cj(e:∀b xs,H b=some (.tup xs)->H' b=some (.tup xs)):∀(d:D) {v:V},aq K μ H d v->aq K μ H' d v
 | .non,_,h=>by simpa[aq] using h
 | .bl _,_,h=>by simpa[aq] using h
 | .int _,_,h=>by simpa[aq] using h
 | .str _,_,h=>by simpa[aq] using h
 | .tup ds,_,h=>by
  rw[aq]at h ⊢;obtain⟨a,xs,rfl,h1,h2⟩:=h;exact⟨a,xs,rfl,h1.elim (λz=>.inl (e _ _ z)) .inr,ao.cj e ds h2⟩
 | .loc n,_,h=>by
  rw[aq]at h ⊢;exact h
theorem ao.cj(e:∀b xs,H b=some (.tup xs)->H' b=some (.tup xs)):∀(ds:List D) {vs:List V},ao K μ H ds vs->ao K μ H' ds vs
 | [],_,h=>by simpa[ao] using h
 | d::ds,_,h=>by
  rw[ao]at h ⊢;obtain⟨v,r,rfl,h1,h2⟩:=h;exact⟨v,r,rfl,aq.cj e d h1,ao.cj e ds h2⟩
end
theorem aH.cj(e:∀b xs,H b=some (.tup xs)->H' b=some (.tup xs)):∀{ds:List (κ×D)} {vs:List (κ×V)},aH K μ H ds vs->aH K μ H' ds vs
 | [],_,h=>h
 | (k,d)::ds,_,⟨v,r,e1,h1,h2⟩=>⟨v,r,e1,h1.cj e d,aH.cj e h2⟩
def MO.dR:MO->Bool
 | .clo _ _ _=>true
 | _=>false
def rE(L:List (Addr×Obj))(H:Hp):Prop:=∀b o,L.lookup b=some o->H b=some (.frz o (.own 0))/\∃u,o.data=.cell (some u)
def rE.del(h:rE L H)(e:H b=some u)(n:∀o,u=.frz o (.own 0)->∀v,o.data≠.cell v):dI L H b=some u:=by
 cases z:L.lookup b with
 | none=>rw[CN z];exact e
 | some o =>
  obtain⟨e1,v,hv⟩:=h b o z;rw[e]at e1;exact absurd hv (n o (aeX e1) _)
def fX.del(hL:rE L H)(hc:o.dR=false)(h:fX K μ H a o):fX K μ (dI L H) a o:=by
 have ht:∀b xs,H b=some (.tup xs)->dI L H b=some (.tup xs):=λb xs e=>hL.del e λ_ z=>nomatch z;cases o with
 | lst ds=>obtain⟨xs,h1,h2⟩:=h;exact⟨xs,hL.del h1 (λ_ z=>nomatch z),h2.cj ht⟩
 | frz ds =>
  obtain⟨xs,h1,h2⟩:=h;refine⟨xs,?_,h2.cj ht⟩;rcases h1 with⟨o,h1⟩ | h1
  ·exact .inl ⟨o,hL.del h1 λ_ z=>(by cases z)⟩
  ·exact .inr h1
 | dic kvs=>obtain⟨ws,h1,h2⟩:=h;exact⟨ws,hL.del h1 (λ_ z=>nomatch z),h2.cj ht⟩
 | dkc kvs=>obtain⟨ws,h1,h2⟩:=h;exact⟨ws,hL.del h1 (λ_ z=>nomatch z),h2.cj ht⟩
 | dkf kvs=>obtain⟨ws,o,h1,h2⟩:=h;exact⟨ws,o,hL.del h1 (λ_ z=>(by cases z)),h2.cj ht⟩
 | dtf kvs=>obtain⟨ws,o,h1,h2⟩:=h;exact⟨ws,o,hL.del h1 (λ_ z=>(by cases z)),h2.cj ht⟩
 | exc c d=>obtain⟨oe,C,dx,od,v,fs,h1,h2,h3,h4,h5,h6,h7⟩:=h;exact⟨oe,C,dx,od,v,fs,hL.del h1 (λo z w q=>(by cases z;rw[h4]at q;cases q)),h2,h3,h4,hL.del h5 (λ_ z=>(by cases z)),h6,h7.cj ht d⟩
 | ins c fs=>obtain⟨C,dx,ws,h0,h1,h2⟩:=h;exact⟨C,dx,ws,h0,hL.del h1 (λ_ z=>nomatch z),h2.cj ht⟩
 | tab x =>
  obtain⟨h0,ps,h1,h2,h3⟩:=h;refine⟨h0,ps,hL.del h1 (λ_ z=>nomatch z),h2,λpos cv e=>?_⟩;obtain⟨c',e1,oc,vs,t,e2,e3,e4⟩:=h3 pos cv e;exact⟨c',e1,oc,vs,t,hL.del e2 (λo z v=>by cases z;rw[e3];exact λy=>nomatch y),e3,e4⟩
 | clo j l ds=>cases hc
 | hid=>trivial
def bZ(st:ak):ak:=st.map λo=>if o.dR then .hid else o
def zj3(st:ak):(bZ st).length=st.length:=by simp[bZ]
def zjs{st:ak}{n:Nat}{o:MO}(h:(bZ st)[n]? = some o):∃o',st[n]? = some o'/\((o'.dR=true/\o=.hid)\/(o'.dR=false/\o=o')):=by
 unfold bZ at h;rw[gP]at h;cases e:st[n]? with
 | none=>rw[e]at h;cases h
 | some o' =>
  rw[e]at h;refine⟨o',rfl,?_⟩;have h:(if o'.dR=true then MO.hid else o')=o:=aeX h;by_cases hc:o'.dR=true
  ·rw[aeT hc]at h;exact .inl ⟨hc,h.symm⟩
  ·rw[aeU hc]at h;exact .inr ⟨by simpa using hc,h.symm⟩
def zsb{st:ak}{n:Nat}{o:MO}(h:st[n]? = some o):(bZ st)[n]? = some (if o.dR then .hid else o):=by
 unfold bZ;rw[gP,h];rfl
def aU.hide{K:PySem.W.Frag}{μ:List Addr}{H:Hp}{st:ak}{L:List (Addr×Obj)}(hL:rE L H)(h:aU K μ H st):aU K μ (dI L H) (bZ st):=by
 refine⟨by rw[h.len,zj3],λn o e=>?_,λi j a oi oj ei ej mi mj hi hj=>?_⟩
 ·obtain⟨o',e1,e2⟩:=zjs e;obtain⟨a,h1,h2⟩:=h.at_ n o' e1;rcases e2 with⟨c,rfl⟩ | ⟨c,rfl⟩
  ·exact⟨a,h1,trivial⟩
  ·exact⟨a,h1,h2.del hL c⟩
 ·obtain⟨oi',e1,e2⟩:=zjs ei;obtain⟨oj',e3,e4⟩:=zjs ej;rcases e2 with⟨_,rfl⟩ | ⟨_,rfl⟩
  ·cases mi
  ·rcases e4 with⟨_,rfl⟩ | ⟨_,rfl⟩
   ·cases mj
   ·exact h.uniq i j a oi oj e1 e3 mi mj hi hj
def aU.Uo{K:PySem.W.Frag}{μ:List Addr}{H H':Hp}{st:ak}{L:List (Addr×Obj)}(h0:aU K μ H st)(h:aU K μ H' (bZ st))(hn:∀b o,L.lookup b=some o->H' b=none)(ext:Ext H (d_ L H')):aU K μ (d_ L H') st:=by
 have up:∀b u,H' b=some u->d_ L H' b=some u:=λb u e=>by
  cases z:L.lookup b with
  | none=>rw[wL z];exact e
  | some o=>rw[hn b o z]at e;cases e
 refine⟨h0.len,λn o e=>?_,h0.uniq⟩;by_cases hc:o.dR=true
 ·obtain⟨a,h1,h2⟩:=h0.at_ n o e;refine⟨a,h1,h2.keep ⟨⟨[],by simp⟩,ext⟩ λhm=>?_⟩;cases o<;>simp[MO.dR,MO.mut]at hc hm
 ·have e2:=zsb e;rw[aeU hc]at e2;obtain⟨a,h1,h2⟩:=h.at_ n o e2;exact⟨a,h1,h2.keep ⟨⟨[],by simp⟩,⟨λb xs q=>up b _ q,λb o u q=>up b _ q⟩⟩ λ_ u q=>up a u q⟩
structure yR(P:Program)(w:World)(K:PySem.W.Frag)(mg:Str->Option Value)(base:Heap)(k:Nat)(l:fJ)(ps:List Str)(m:ME):Prop where
 sc:yQ l.oO ps l.scope
 bind:∀cl pm c' q9 (us:List Value),us.length=ps.length->bindArgs (PySem.W.kla_fn "<lambda>" l.qual l.params l.body l.scope cl pm (.ref c') q9) ⟨us,[]⟩=pure (ps.zip us)
 body:∀(f:Addr) (cd:Value) (cl:List (Str×Addr)) (A:Around) (outer:List Env) (s:Shared) (H:Hp),cH k (A.deeper (PySem.W.envX l.qual l.scope s.heap.objs.size f cd cl)) ->
  JE (Bl P w K mg base (l.oO++ps) l.qual l.scope f cd cl A outer s H) l.body m
open Classical in
def Cp(Λ:Nat->fJ)(G:Nat->FD)(n:Nat)(as:List D)(st:ak):R D:=match st[n]? with
 | some (.clo j l ds)=>if l=Λ j then (match gc (bZ st) (G j (ds++as) (bZ st)) with
  | .ok d st2=>if st2=bZ st/\under st.length d then .ok d st else .bad
  | _=>.bad) else .bad
 | _=>.bad
def uM(n:Nat)(m:ME):FD:=λds st=>if ds.length=n then m (ds.map some) st else .bad
def Lx(P:Program)(w:World)(K:PySem.W.Frag)(mg:Str->Option Value)(base:Heap)(k:Nat)(Λ:Nat->fJ)(G:Nat->FD):Prop :=
 ∀j,(∀ds st,G j ds st=.bad)\/∃ps m,yR P w K mg base k (Λ j) ps m/\G j=uM ((Λ j).oO.length+ps.length) m
theorem eV.len:∀{cl:List (Str×Addr)} {vs:List V},eV H cl vs->vs.length=cl.length
 | [],_,h=>by have h:_=[]:=h;subst h;rfl
 | (_,c)::cl,_,⟨v,r,o,u,h1,_,_,_,h5⟩=>by subst h1;simp[eV.len h5]
def rE.back(hL:rE L H)(e:Ext (dI L H) H')(hn:∀b o,L.lookup b=some o->H' b=none):Ext H (d_ L H'):=by
 have up:∀b u,H' b=some u->d_ L H' b=some u:=λb u e=>by
  cases z:L.lookup b with
  | none=>rw[wL z];exact e
  | some o=>rw[hn b o z]at e;cases e
 refine⟨λb xs q=>up b _ (e.tup b xs (hL.del q λ_ z=>nomatch z)),λb o u q=>?_⟩;cases z:L.lookup b with
 | none=>exact up b _ (e.frz b o u (by rw[CN z];exact q))
 | some o' =>
  have q2:=(hL b o' z).1;rw[q]at q2;cases q2;exact Z9 z
def callC(Λ:Nat->fJ)(G:Nat->FD)(i:Nat)(mA:MA):ME:=λenv st=>match env[i]? with
 | some (some (.loc n))=>(match st[n]? with
  | some (.clo _ _ _)=>(mA env st).bind λas st1=>Cp Λ G n as st1
  | _=>.bad)
 | _=>.bad
section
variable  {X:Cx}{e:Expr}{es:List Expr}{mA:MA}{pos p:Pos}{x:Str}{k:Nat}{Λ:Nat->fJ}{G:Nat->FD}
def zqa(hΛ:Lx X.prog X.w X.K X.mg X.base k Λ G)(hr:cH (k+1) X.A)(i:Nat)(ha:JA X (e::es) mA)(hN:X.N[i]? = some x:=by rfl)(hv:Vis X.env.scope x:=by first | exact Or.inl rfl | exact Or.inr (Or.inl rfl) | exact Or.inr (Or.inr rfl))
  (hd:(x==("__debug__":Str))=false:=by decide) (xJ:(x==("__classdict__":Str))=false:=by decide) (he:starEach (e::es) X.env=(false,eval e X.env)::starEach es X.env:=by rfl) (oJ:(backTo pos (starEach es X.env)).any (·.1)=false:=by rfl) :
  JE X (.Call (.Name x p) (e::es) [] pos) (callC Λ G i mA):=by
 rintro pins s σ H Q I ⟨μ,env,st,hE,hs,hp⟩;unfold callC at hp
 split at hp
 case h_2=>exact hp.elim
 rename_i n hi
 split at hp
 case h_2=>exact hp.elim
 rename_i j0 l0 ds0 hn;obtain⟨v,h1,h2⟩:=hE.at_ i _ hi;obtain⟨a,q1,rfl⟩:=aq.aK.mp h2;obtain⟨a',r1,r2⟩:=hs.at_ n _ hn;rw[q1]at r1;cases r1;obtain⟨cl0,pm0,c0,aeD,aev,w1,_⟩:=r2;refine ae7 (cI (HW hN hv hd xJ pins s σ H (λv' H'=>v'=.ref a/\H'=H) I ⟨.ref a,h1,rfl,rfl⟩) λu s0 zz=>?_);obtain⟨v',H',I0,r0,ev,eH⟩:=zz;subst ev eH;cases (show u=Value.ref a from r0);have fnAt:∀(s:Shared) (H:Hp) (o:Obj),Inv X pins σ H s->(∃q ps b sc cl pm c' q9,o=PySem.W.kla_obj "<lambda>" q ps b sc cl pm c' q9)->H a=some (.frz o (.own 0))->PySem.W.FnAt a s.heap:=by
  rintro s H o I ⟨q,ps,b,sc,cl,pm,c',q9,rfl⟩ h;exact⟨_,_,_,_,(I.bI a _ h).1⟩
 refine PySem.W.callWith_F (fnAt s0 H' _ I0 ⟨_,_,_,_,_,_,_,_,rfl⟩ w1) (cI (ha pos pins s0 σ H' _ I0 ⟨μ,env,st,hE,hs,bJ.bind hp⟩) λus s1 zz=>?_) he oJ;obtain⟨vs,H1,I1,r,μ1,st1,as,g1,bB,WN,aR⟩:=zz;have g2:=g1.get q1;unfold Cp at aR;dsimp only at aR
 split at aR
 case h_2=>exact aR.elim
 rename_i j l ds hn1
 split at aR
 case isFalse=>exact aR.elim
 rename_i hl;subst hl;obtain⟨a',r1,cl,pm,c',q9,Mp,hf,yE,Tc,zg,xH,wk⟩:=bB.at_ n _ hn1;rw[g2]at r1;cases r1;refine⟨fnAt s1 H1 _ I1 ⟨_,_,_,_,_,_,_,_,rfl⟩ hf,?_⟩;rcases hΛ j with adQ | ⟨ps,m,LO,hG⟩
 ·rw[adQ]at aR;exact aR.elim
 have hlen:(ds++as).length=(Λ j).oO.length+ps.length:=by
  refine afr λh=>?_;rw[hG]at aR;unfold uM at aR;rw[aeU h]at aR;exact aR.elim
 have e1:ds.length=(Λ j).oO.length:=by rw[wk.length,xH.len,<-Tc,gq]
 have hul:us.length=ps.length:=by
  rw[<-r.length,<-WN.length];rw[gJ]at hlen;omega
 refine wpAny_call (afz (PN (k:=k) (Q:=Q) (vs:=vs) I1.QR hr LO.sc hf yE Tc zg xH (LO.bind cl pm c' q9 us hul) hul r ?_) λr s' hq=>?_)
 ·intro L hL;have hL:rE L H1:=hL;refine⟨_,LO.body a (.ref c') cl X.A X.stack s1 (dI L H1) (hr.deeper _),μ1,(ds++as).map some,bZ st1,?_,bB.hide hL,?_⟩
  ·have hv2:ao X.K μ1 (dI L H1) (ds++as) (Mp++vs):=(wk.append WN).cj (λb xs q=>hL.del q λ_ z=>nomatch z) _;refine⟨by rw[gq,gq,hv2.length],λi d e=>?_⟩;rw[gP]at e ⊢;cases q:(ds++as)[i]? with
   | none=>rw[q]at e;cases e
   | some d' =>
    rw[q]at e;cases e;obtain⟨v,q1,q2⟩:=hv2.get q;exact⟨v,by rw[q1];rfl,q2⟩
  ·have key:yO X.K μ1 (dI L H1) (λv H'=>(∀b o,L.lookup b=some o->H' b=none)->Q v (d_ L H')) (G j (ds++as) (bZ st1)):=by
    refine zqo (bB.hide hL) ?_
    split at aR
    case h_2=>exact aR.elim
    rename_i d st2 J8
    split at aR
    case isFalse=>exact aR.elim
    rename_i hc;rw[J8];intro v H' μ' g pX zY hn';obtain⟨rfl,_⟩:=hc;obtain⟨ν,rfl⟩:=g.pre;have hν:ν=[]:=by
     have:=pX.len;rw[gJ,bB.len,zj3]at this;exact List.eq_nil_of_length_eq_zero (by omega)
    subst hν;rw[gB]at pX zY;have ext:=hL.back g.ext hn';refine aR v (d_ L H') μ1 ⟨⟨[],by simp⟩,ext⟩ (bB.Uo pX hn' ext) (zY.cj (λb xs q=>?_) d);cases z:L.lookup b with
    | none=>rw[wL z];exact q
    | some o=>rw[hn' b o z]at q;cases q
   rw[hG]at key;unfold uM at key;rw[aeT hlen]at key;cases hm:m ((ds++as).map some) (bZ st1) with
   | bad=>rw[hm]at key;exact key.elim
   | err y st2=>rw[hm]at key;exact key.elim
   | ok d st2=>rw[hm]at key;exact key
 ·cases r with
  | error e=>exact False.elim hq
  | ok fl =>
   cases fl with
   | ret u=>exact I1.after hq
   | next=>exact False.elim hq
   | brk=>exact False.elim hq
   | cont=>exact False.elim hq
end
inductive LA where
 | v (d:D) | l (j:Nat) (cap:List Nat)
abbrev ML:=aM->ak->R (List LA)
def jA(X:Cx)(l:fJ):List (Str×Addr):=l.oO.map λx=>(x,(X.env.cells.lookup x).getD 0)
structure qd(X:Cx)(l:fJ)(cap:List Nat):Prop where
 nd:l.oO.Nodup
 cell:∀x∈l.oO,X.env.kindOf x=some .cell
 ix:cap.map (λi=>X.N[i]?)=l.oO.map some
def Cv(X:Cx)(Λ:Nat->fJ)(μ:List Addr)(H:Hp):LA->V->Prop
 | .v d,v=>aq X.K μ H d v
 | .l j cap,v=>qd X (Λ j) cap/\∃f pm c' q9,v=.ref f/\H f=some (.frz (PySem.W.kla_obj "<lambda>" (Λ j).qual (Λ j).params (Λ j).body (Λ j).scope (jA X (Λ j)) pm c' q9) (.own 0))/\rD H c' (Λ j).qual
def iM(X:Cx)(Λ:Nat->fJ)(μ:List Addr)(H:Hp):List LA->List V->Prop
 | [],vs=>vs=[]
 | a::r,vs=>∃v t,vs=v::t/\Cv X Λ μ H a v/\iM X Λ μ H r t
abbrev acP(X:Cx)(Λ:Nat->fJ):Rel (List LA) (List V):=fun μ H d v=>iM X Λ μ H d v
section
variable  {X:Cx}{Λ:Nat->fJ}{μ μ':List Addr}{H H':Hp}
theorem Cv.mono(g:aZ μ H μ' H'):∀{a:LA} {v:V},Cv X Λ μ H a v->Cv X Λ μ' H' a v
 | .v d,_,h=>aq.mono g d h
 | .l j cap,_,⟨h0,f,pm,c',q9,h1,h2,h3⟩=>⟨h0,f,pm,c',q9,h1,g.ext.frz _ _ _ h2,h3.ext g.ext⟩
theorem iM.mono(g:aZ μ H μ' H'):∀{a:List LA} {v:List V},iM X Λ μ H a v->iM X Λ μ' H' a v
 | [],_,h=>h
 | a::r,_,⟨v,t,e,h1,h2⟩=>⟨v,t,e,h1.mono g,iM.mono g h2⟩
theorem iM.length:∀{a:List LA} {v:List V},iM X Λ μ H a v->a.length=v.length
 | [],_,h=>by have h:_=[]:=h;subst h;rfl
 | a::r,_,⟨v,t,e,h1,h2⟩=>by subst e;simp[iM.length h2]
end
def tML(X:Cx)(Λ:Nat->fJ)(m:ML):TA:=fun σ H Q=>∃μ env st,dD X.K μ H env σ/\aU X.K μ H st/\bJ X μ H (acP X Λ) Q (m env st)
def JL(X:Cx)(Λ:Nat->fJ)(es:List Expr)(m:ML):Prop:=PA X es (tML X Λ m)
def vX:ML:=λ_ st=>.ok [] st
def lX(a:ME)(r:ML):ML:=λenv st=>(a env st).bind λx st1=>(r env st1).bind λxs st2=>.ok (.v x::xs) st2
def lA(j:Nat)(cap:List Nat)(k:Nat)(x:Str)(r:ML):ML:=λenv st=>match st[k]? with
 | some (.tab y)=>if y=x then (r env st).bind λxs st2=>.ok (.l j cap::xs) st2 else .bad
 | _=>.bad
def abX(X:Cx)(x:Str):Prop:=X.env.qual=x ++ ".<locals>."/\∃(c fa:Addr) (o:Obj) (fd:FuncData),X.env.code=.ref c/\PySem.W.nsIn X.K mainGlobals x=some (some (.ref fa))/\X.K.lookup fa=some o/\o.data=.func fd/\fd.code=.ref c
section
variable  {X:Cx}{Λ:Nat->fJ}{μ:List Addr}{H H':Hp}{st:ak}{e:Expr}{es:List Expr}{ma:ME}{m:ML}
def Jv:JL X Λ [] vX:=by
 refine λpos pins s σ H Q I zz=>?_;obtain⟨μ,env,st,hE,hs,hp⟩:=zz;exact zK pos pins s σ H Q I (hp.ret hs rfl)
def Bq(h:JE X e ma)(hr:JL X Λ es m)(hs:starEach (e::es) X.env=(false,eval e X.env)::starEach es X.env:=by rfl):JL X Λ (e::es) (lX ma m):=by
 rintro pos pins s σ H Q I ⟨μ,env,st,hE,hs0,hp⟩;refine Z4 h hr hs pos pins s σ H Q I ⟨μ,env,st,hE,hs0,hp.bind.imp ?_⟩;rintro x H1 ⟨μ1,st1,d,g1,bB,hx,aR⟩;refine⟨μ1,env,st1,hE.mono g1,bB,aR.bind.imp ?_⟩;rintro xs H2 ⟨μ2,st2,ds,g2,ie,jY,dH⟩;exact dH.ret ie ⟨x,xs,rfl,hx.mono g2 _,jY⟩
def _root_.L2.u_.ext(n:u_ H H' P f c' q ob)(hP:H P=some (.tbl ps)):Ext H H' :=
 ⟨λb xs e=>n.same b _ (λz=>by rw[z,hP]at e;cases e) e,λb o u e=>n.same b _ (λz=>by rw[z,hP]at e;cases e) e⟩
def aU.lam{P f c':Addr}{x:Str}{ob:Obj}{k:Nat}(hs:aU X.K μ H st)(hk:st[k]? = some (.tab x))(ha:μ[k]? = some P)(n:u_ H H' P f c' (qO x) ob):aU X.K μ H' st:=by
 obtain⟨a,h1,h2⟩:=hs.at_ k _ hk;rw[ha]at h1;cases h1;obtain⟨Em,ps,hP,_⟩:=h2;have ext:=n.ext hP;refine⟨hs.len,λi o e=>?_,hs.uniq⟩;obtain⟨b,q1,q2⟩:=hs.at_ i o e;refine⟨b,q1,?_⟩;by_cases hm:o.mut=true
 ·by_cases hb:b=P
  ·subst hb;have hik:=hs.uniq i k b o (.tab x) e hk hm rfl q1 ha;subst hik;rw[hk]at e;cases e;exact⟨Em,n.tab⟩
  ·exact q2.keep ⟨⟨[],by simp⟩,ext⟩ λ_ u q=>n.same b u hb q
 ·exact q2.keep ⟨⟨[],by simp⟩,ext⟩ λz=>absurd z hm
def xF{x:Str}{j k:Nat}{cap:List Nat}{params:Arguments}{body:Expr}{scope:Scope}{pos:Pos}(hB:BMain X.mg X.base)(hT:abX X x)(hat:qd X (Λ j) cap)(hq:(Λ j).qual=qO x)(hp:(Λ j).params=params)(hb:(Λ j).body=body)(hsc:(Λ j).scope=scope)
  (ug:closureFor scope X.env=pure (jA X (Λ j))) (hr:JL X Λ es m) (Xe:defaultsOf params X.env=([],[]):=by rfl) (hs:starEach (.Lambda params body scope pos::es) X.env=(false,eval (.Lambda params body scope pos) X.env)::starEach es X.env:=by rfl) :
  JL X Λ (.Lambda params body scope pos::es) (lA j cap k x m):=by
 subst hp hb hsc;rintro ac9 pins s σ H Q I ⟨μ,env,st,hE,hs0,hp⟩;unfold lA at hp
 split at hp
 case h_2=>exact hp.elim
 rename_i y hk
 split at hp
 case isFalse=>exact hp.elim
 rename_i hy;subst hy;obtain⟨P,h1,h2⟩:=hs0.at_ k _ hk;obtain⟨⟨fa',o',fd',c',w1,w2,w3,w4,w5⟩,ps,w6,w7,w8⟩:=h2;obtain⟨abo,c,fa,o,fd,t1,t2,t3,t4,t5⟩:=hT;rw[t2]at w1;cases w1;rw[t3]at w2;cases w2;rw[t4]at w3;cases w3;rw[t5]at w4;cases w4;refine Z4 (Vs (P:=P) (c:=c') (q:=qO y) (clos:=jA X (Λ j)) hB t1 w5 (by rw[abo];rfl) ug Xe) hr hs ac9 pins s σ H Q I ⟨⟨ps,w6,w7,w8⟩,λf c' pm q9 H' n=>?_⟩;have g:aZ μ H μ H':=⟨⟨[],by simp⟩,n.ext w6⟩;refine⟨μ,env,st,hE.mono g,hs0.lam hk h1 n,(bJ.mono g hp).bind.imp ?_⟩;rintro xs H2 ⟨μ2,st2,ds,g2,ie,jY,dH⟩;refine dH.ret ie ⟨.ref f,xs,rfl,⟨hat,f,pm,c',q9,rfl,?_,?_⟩,jY⟩
 ·rw[hq];exact g2.ext.frz _ _ _ n.new
 ·rw[hq];exact n.code.ext g2.ext
end
def cellAt(h:Heap)(c:Addr):Option Obj:=match h.get? c with
 | some o=>(match o.data with | .cell (some _)=>some o | _=>none)
 | none=>none
def zi2(e:cellAt h c=some o):h.get? c=some o/\∃u,o.data=.cell (some u):=by
 unfold cellAt at e
 split at e
 ·rename_i o' h1
  split at e
  ·rename_i u h2;cases e;exact⟨h1,u,h2⟩
  ·cases e
 ·cases e
def Fe(h1:h.get? c=some o)(h2:o.data=.cell (some u)):cellAt h c=some o:=by
 unfold cellAt;rw[h1];dsimp only;rw[h2]
def lZ(cl:List (Str×Addr))(h:Heap):List Str->List (Addr×Obj)
 | []=>[]
 | x::r=>match cl.lookup x with
  | some c=>(match cellAt h c with | some o=>(c,o)::lZ cl h r | none=>lZ cl h r)
  | none=>lZ cl h r
theorem zgp:∀{xs:List Str},(lZ cl h xs).lookup b=some o->cellAt h b=some o/\∃x,cl.lookup x=some b
 | [],e=>by cases e
 | x::r,e=>by
  unfold lZ at e
  split at e
  ·rename_i c hc
   split at e
   ·rename_i o' ho;rw[kE]at e;by_cases hb:(b==c)=true
    ·simp only[hb]at e;cases e;obtain rfl:=eq_of_beq hb;exact⟨ho,x,hc⟩
    ·simp only[show (b==c)=false by simpa using hb]at e;exact zgp e
   ·exact zgp e
  ·exact zgp e
theorem zki(hx:cl.lookup x=some b)(ho:cellAt h b=some o):∀{xs:List Str},x∈xs->(lZ cl h xs).lookup b=some o
 | [],e=>by cases e
 | y::r,e=>by
  unfold lZ;by_cases hy:x=y
  ·subst hy;rw[hx];dsimp only;rw[ho];dsimp only;rw[kE];simp
  ·have e:=zki hx ho (xs:=r) (by simpa[hy] using e)
   split
   ·rename_i c hc
    split
    ·rename_i o' Mv;rw[kE];by_cases hb:(b==c)=true
     ·simp only[hb];obtain rfl:=eq_of_beq hb;rw[ho]at Mv;exact Mv.symm
     ·simp only[show (b==c)=false by simpa using hb];exact e
    ·exact e
   ·exact e
def yK:List Nat->aM->Option (List D)
 | [],_=>some []
 | i::r,env=>match env[i]? with
  | some (some d)=>(match yK r env with | some ds=>some (d::ds) | none=>none)
  | _=>none
noncomputable def jU(Λ:Nat->fJ)(env:aM):Nat->List LA->Option (List D×List MO)
 | _,[]=>some ([],[])
 | n,.v d::r=>(match jU Λ env n r with | some (ds,os)=>some (d::ds,os) | none=>none)
 | n,.l j cap::r=>(match yK cap env with
  | some cs=>(match jU Λ env (n+1) r with | some (ds,os)=>some (.loc n::ds,.clo j (Λ j) cs::os) | none=>none)
  | none=>none)
def aY(st:ak):Prop:=∀o∈st,o.dR=false
open Classical in
def jZ(Λ:Nat->fJ)(F:FD)(dd:List D)(m:ML):ME:=λenv st=>(m env st).bind λas st1=>if aY st1 then (match jU Λ env st1.length as with
 | some (ds,os)=>(match gc st1 (F (ds++dd) (st1++os)) with
  | .ok d st2=>if aY st2 then .ok d st2 else .bad
  | _=>.bad)
 | none=>.bad) else .bad
def aU.snoc(h:aU K μ H st)(hm:o.mut=false)(ho:fX K (μ++[a]) H a o):aU K (μ++[a]) H (st++[o]):=by
 have key:∀(n:Nat) (on:MO) (c:Addr),(st++[o])[n]? = some on->on.mut=true->(μ++[a])[n]? = some c->st[n]? = some on/\μ[n]? = some c:=λn on c e1 hmn e2=>by
  by_cases hn:n<st.length
  ·rw[gK hn]at e1;rw[gK (by rw[h.len];exact hn)]at e2;exact⟨e1,e2⟩
  ·rw[h_ (by omega)]at e1;have:=gW e1;simp at this;subst this;rw[hm]at hmn;cases hmn
 refine⟨by simp[h.len],λn on e1=>?_,λi j c oi oj ei ej mi mj hi hj=>?_⟩
 ·by_cases hn:n<st.length
  ·rw[gK hn]at e1;obtain⟨b,q1,q2⟩:=h.at_ n on e1;exact⟨b,by rw[gK (by rw[h.len];exact hn)];exact q1,q2.up _⟩
  ·have hl:=(gf.mp e1).1;rw[gJ,mH]at hl;have en:n=st.length:=by omega
   subst en;rw[h_ (gb _)]at e1;simp at e1;subst e1;exact⟨a,by rw[<-h.len];simp,ho⟩
 ·obtain⟨a1,a2⟩:=key i oi c ei mi hi;obtain⟨b1,b2⟩:=key j oj c ej mj hj;exact h.uniq i j c oi oj a1 b1 mi mj a2 b2
def aU.del(hL:rE L H)(hc:aY st)(h:aU K μ H st):aU K μ (dI L H) st :=
 ⟨h.len,λn o e=>let ⟨a,h1,h2⟩:=h.at_ n o e;⟨a,h1,h2.del hL (hc o (gW e))⟩,h.uniq⟩
section
variable  {X:Cx}{Λ:Nat->fJ}{H:Hp}{env:aM}
theorem zl5(zg:∀l cap,qd X l cap->((jA X l).map (·.2)).Nodup):∀{as:List LA} {vs:List V} {μ:List Addr} {st:ak} {n:Nat} {ds:List D} {os:List MO},(∀l cap,qd X l cap->∀cs,yK cap env=some cs->∃vs,eV H (jA X l) vs/\ao X.K μ H cs vs)->jU Λ env n as=some (ds,os)->iM X Λ μ H as vs->aU X.K μ H st->n=st.length ->
  ∃ν,aU X.K (μ++ν) H (st++os)/\ao X.K (μ++ν) H ds vs
 | [],vs,μ,st,n,ds,os,hc,e,h,hs,hn=>by
  cases e;have h:vs=[]:=h;subst h;exact⟨[],by simpa using hs,ao.nil⟩
 | .v d::r,_,μ,st,n,ds,os,hc,e,⟨v,t,rfl,h1,h2⟩,hs,hn=>by
  unfold jU at e
  split at e
  ·rename_i ZD YW e';cases e;obtain⟨ν,q1,q2⟩:=zl5 zg hc e' h2 hs hn;exact⟨ν,q1,ao.cons (aq.mono ⟨⟨ν,rfl⟩,.refl H⟩ d h1) q2⟩
  ·cases e
 | .l j cap::r,_,μ,st,n,ds,os,hc,e,⟨v,t,rfl,hla,h2⟩,hs,hn=>by
  obtain⟨h0,f,pm,c',q9,rfl,h3,h4⟩:=hla;unfold jU at e
  split at e
  ·rename_i cs ec
   split at e
   ·rename_i ZD YW e';cases e;obtain⟨vs,q1,q2⟩:=hc _ cap h0 cs ec;have g:aZ μ H (μ++[f]) H:=⟨⟨[f],rfl⟩,.refl H⟩;have bB:aU X.K (μ++[f]) H (st++[.clo j (Λ j) cs]):=hs.snoc rfl ⟨jA X (Λ j),pm,c',q9,vs,h3,h4,by simp[jA,Function.comp_def],zg _ cap h0,q1,q2.mono g _⟩;obtain⟨ν,r1,r2⟩:=zl5 zg (μ:=μ++[f]) (λl cap hl cs ec=>let ⟨vs,a1,a2⟩:=hc l cap hl cs ec;⟨vs,a1,a2.mono g _⟩) e' (h2.mono g) bB (by simp[hn]);refine⟨f::ν,by simpa using r1,ao.cons (aq.aK.mpr ⟨f,?_,rfl⟩) (by simpa using r2)⟩;rw[hn,<-hs.len];simp
   ·cases e
  ·cases e
end
section
variable  {X:Cx}{Λ:Nat->fJ}{e:Expr}{es:List Expr}{m:ML}{pos p:Pos}{x:Str}{k:Nat}{f:Addr}{fd:FuncData}{ps:List Str}{F:FD}{lW:List V}{ds:List Value}{dd:List D}
def Rb(I:Inv X pins σ H s)(h:qd X l cap):((jA X l).map (·.2)).Nodup:=by
 unfold jA;rw[gO];have key:∀xs:List Str,xs.Nodup->(∀x∈xs,X.env.kindOf x=some .cell)->(xs.map ((λp:Str×Addr=>p.2)∘λx=>(x,(X.env.cells.lookup x).getD 0))).Nodup:=by
  intro xs
  induction xs with
  | nil=>intros;simp
  | cons x xs ih =>
   intro nd hc;rw[mF]at nd;rw[gr,mF];refine⟨λhm=>?_,ih nd.2 λy hy=>hc y (by simp[hy])⟩;obtain⟨y,hy,e⟩:=gh.mp hm;obtain⟨c,h1⟩:=I.ok.has x (.inl (hc x (by simp)));obtain⟨c2,h2⟩:=I.ok.has y (.inl (hc y (by simp[hy])));simp only[Function.comp,h1,h2,Option.getD_some]at e;subst e;have:=I.ok.inj x y _ h1 h2;subst this;exact nd.1 hy
 exact key _ h.nd h.cell
def K6(I:Inv X pins σ H s)(hE:dD X.K μ H2 env σ)(hc:∀x b o,X.env.cells.lookup x=some b->cellAt s.heap b=some o->H2 b=some (.frz o (.own 0)))(h:qd X l cap)(e:yK cap env=some cs) :
  ∃vs,eV H2 (jA X l) vs/\ao X.K μ H2 cs vs:=by
 obtain⟨mm,Eo,hl⟩:=I.loc;have key:∀(xs:List Str) (cap:List Nat) (cs:List D),(∀x∈xs,X.env.kindOf x=some .cell)->cap.map (λi=>X.N[i]?)=xs.map some->yK cap env=some cs->∃vs,eV H2 (xs.map λx=>(x,(X.env.cells.lookup x).getD 0)) vs/\ao X.K μ H2 cs vs:=by
  intro xs
  induction xs with
  | nil =>
   intro cap cs _ hx e;cases cap with
   | nil=>cases e;exact⟨[],rfl,ao.nil⟩
   | cons i cap=>cases hx
  | cons x xs ih =>
   intro cap cs hk hx e;cases cap with
   | nil=>cases hx
   | cons i cap =>
    rw[gr,gr]at hx;obtain⟨Zm,Qw⟩:=List.cons.inj hx;unfold yK at e
    split at e
    ·rename_i d ed
     split at e
     ·rename_i cs' ec;cases e;obtain⟨vs,a1,a2⟩:=ih cap cs' (λy hy=>hk y (by simp[hy])) Qw ec;obtain⟨v,b1,b2⟩:=hE.at_ i d ed;have hkx:=hk x (by simp);obtain⟨u,r,lk⟩:=hl i x v Zm b1 (.inr (.inl hkx));rcases lk with⟨z,_⟩ | ⟨_,c,Xg,o,ho,hd⟩
      ·rw[hkx]at z;cases z
      ·refine⟨v::vs,⟨v,vs,o,u,rfl,?_,hd,r,a1⟩,ao.cons b2 a2⟩;have:((X.env.cells.lookup x).getD 0)=c:=by rw[Xg];rfl
       rw[this];exact hc x c o Xg (Fe ho hd)
     ·cases e
    ·cases e
 exact key l.oO cap cs h.cell h.ix e
def Ei(G:cu X.prog X.w X.K X.mg X.base qj k f fd ps (vh X.K ps.length F))(hr:cH k X.A)(hm:X.mg x=some (.ref f))(hk:PySem.W.keepIn X.K (.ref f)=true)(hb:Binds X.K fd ps ds)(hd:Vals lW ds)
  (hdd:∀μ H,ao X.K μ H dd lW) (ha:JL X Λ (e::es) m) (Xb:∀x,X.fn x=true) (hlen:(e::es).length+lW.length=ps.length:=by rfl) (hg:Gl X x:=by rfl) (qU:(x==("__debug__":Str))=false:=by decide) (he:starEach (e::es) X.env=(false,eval e X.env)::starEach es X.env:=by rfl) (oJ:(backTo pos (starEach es X.env)).any (·.1)=false:=by rfl)
  (hA:∀env st as st1,m env st=.ok as st1->as.length=(e::es).length) :
  JE X (.Call (.Name x p) (e::es) [] pos) (jZ Λ F dd m):=by
 rintro pins s σ H Q I ⟨μ,env,st,hE,hs,hp⟩;refine ae7 (Z7 I hg hm ?_ qU);unfold jZ at hp;cases Zt:m env st with
 | bad=>rw[Zt]at hp;exact hp.elim
 | err y st1 =>
  rw[Zt]at hp;refine afj (h₀:=X.base) I.ok.mod.V3 hk (cI (ha pos pins s σ H (λ_ _=>False) I ⟨μ,env,st,hE,hs,by rw[Zt];exact hp⟩) λus s1 zz=>?_) he oJ;obtain⟨vs,H1,I1,r,q⟩:=zz;exact q.elim
 | ok as st1 =>
 have hal:=hA env st as st1 Zt;rw[Zt,R.aB]at hp
 split at hp
 case isFalse=>exact hp.elim
 rename_i hnc
 split at hp
 case h_2=>exact hp.elim
 rename_i as' os adE
 split at hp
 case h_2=>exact hp.elim
 rename_i d st2 J8
 split at hp
 case isFalse=>exact hp.elim
 rename_i adH;refine afj (h₀:=X.base) I.ok.mod.V3 hk (cI (ha pos pins s σ H (λvs H1=>∃μ1,aZ μ H μ1 H1/\aU X.K μ1 H1 st1/\iM X Λ μ1 H1 as vs) I ⟨μ,env,st,hE,hs,?_⟩) λus s1 ⟨vs,H1,I1,r,μ1,g1,bB,WN⟩=>⟨I1.qp,?_⟩) he oJ
 ·rw[Zt];exact λvs H1 μ1 g1 bB WN=>⟨μ1,g1,bB,WN⟩
 ·let L:=lZ X.env.cells s1.heap (X.env.cells.map (·.1))
  have lin:∀b o,L.lookup b=some o->cellAt s1.heap b=some o/\∃x,X.env.cells.lookup x=some b:=λb o e=>zgp e;have nL:∀b o,L.lookup b=some o->H1 b=none:=λb o e=>let ⟨_,x,hx⟩:=lin b o e;I1.jL x b hx;have Ie:∀b u,H1 b=some u->L.lookup b=none:=λb u e=>by
   cases z:L.lookup b with
   | none=>rfl
   | some o=>rw[nL b o z]at e;cases e
  have Xl:Ext H1 (d_ L H1):=⟨λb xs e=>by rw[wL (Ie b _ e)];exact e,λb o u e=>by rw[wL (Ie b _ e)];exact e⟩;have gA:aZ μ1 H1 μ1 (d_ L H1):=⟨⟨[],by simp⟩,Xl⟩;have hsA:aU X.K μ1 (d_ L H1) st1:=⟨bB.len,λn o e=>let ⟨a,h1,h2⟩:=bB.at_ n o e;⟨a,h1,h2.keep gA λ_ u q=>by rw[wL (Ie a u q)];exact q⟩,bB.uniq⟩;have hcA:∀x b o,X.env.cells.lookup x=some b->cellAt s1.heap b=some o->d_ L H1 b=some (.frz o (.own 0)):=λx b o hx ho =>
   Z9 (zki hx ho (gh.mpr ⟨(x,b),aeZ hx,rfl⟩))
  obtain⟨ν,hsN,hvN⟩:=zl5 (Λ:=Λ) (H:=d_ L H1) (env:=env) (λl cap h=>Rb I1 h) (λl cap h cs ec=>K6 I1 ((hE.mono g1).mono gA) hcA h ec) adE (WN.mono gA) hsA rfl;refine NB (L:=L) G hr hb hd I1 (λb o e=>?_) r ⟨?_,μ1++ν,as'++dd,st1++os,hvN.append (hdd _ _),hsN,?_⟩
  ·obtain⟨h1,x,h2⟩:=lin b o e;exact⟨(zi2 h1).1,x,h2,Xb x⟩
  ·rw[gJ,<-WN.length,hal];exact hlen
  ·have key:yO X.K μ1 (d_ L H1) (λv H'=>Q v (dI L H')) (F (as'++dd) (st1++os)):=by
    refine zqo hsA ?_;rw[J8];intro v H' μ' g pX zY;have hL:rE L H':=λb o e=>⟨g.ext.frz b o _ (Z9 e),(zi2 (lin b o e).1).2⟩;have ext:Ext H1 (dI L H'):=⟨λb xs e=>by rw[CN (Ie b _ e)];exact g.ext.tup b xs (Xl.tup b xs e),λb o u e=>by rw[CN (Ie b _ e)];exact g.ext.frz b o u (Xl.frz b o u e)⟩;exact hp v (dI L H') μ' ⟨g1.trans ⟨g.pre,ext⟩ |>.pre,(g1.trans ⟨g.pre,ext⟩).ext⟩ (pX.del hL adH) (zY.cj (λb xs q=>hL.del q λ_ z=>nomatch z) d)
   have gN:aZ μ1 (d_ L H1) (μ1++ν) (d_ L H1):=⟨⟨ν,rfl⟩,.refl _⟩;cases hF:F (as'++dd) (st1++os) with
   | bad=>rw[hF]at key;exact key.elim
   | err y ig=>rw[hF]at key;exact key.elim
   | ok d3 ig =>
    rw[hF]at key;exact λv H' μ' g pX zY=>key v H' μ' (gN.trans g) pX zY
end
end M
namespace M
open PySem PySem.Spec L2 PyProof.Rows
structure Lr(K:PySem.W.Frag)(x:Str)(P:Addr):Prop where
 code:∃(fa:Addr) (o:Obj) (fd:FuncData) (c:Addr),PySem.W.nsIn K mainGlobals x=some (some (.ref fa))/\K.lookup fa=some o/\o.data=.func fd/\fd.code=.ref c/\PySem.W.codeHdIn K c P=true
 out:K.lookup P=none
def Ea{P:Program}{w:World}{K:PySem.W.Frag}{mg mb:Str->Option Value}{k:Nat}{fa a:Addr}{fd:FuncData}{x:Str}{sp:Sp}{aeI:Shared}{vs:List Value}{ns:List Int}{ts:List (Str×Addr)}
  (KX:K.In aeI.heap) (Eo:aeI.heap.Ns mainGlobals mg) (hb:aeI.heap.Ns builtinsNs mb) (hbb:∀x:Str,x ≠ "__name__"->mb x=bootBuiltins x) (adL:aeI.heap.NoLimit) (hg:aeI.gens=#[])
  (hbm:∃bm ob,mg "__builtins__" = some (.ref bm)/\bm≠builtinsNs/\aeI.heap.get? bm=some ob/\ob.cls=.type "module"/\ob.dict=some builtinsNs/\ob.data=.plain)
  (ht:∀p∈ts,aeI.heap.get? p.2=some (PySem.W.tabObj #[])) (hk:∀p∈ts,Lr K p.1 p.2)
  (ha:aeI.heap.get? a=some { cls:=.type "list",data:=.seq vs.toArray }) (hi:IntsAre vs ns) (hl:ns.length<=sizeLine) (hr:cH k callerA)
  (F:∀base:Heap,K.In base->base.Ns mainGlobals mg->BMain mg base->cu P w K mg base qj k fa fd [x] sp) (abu:∀(s:Shared) (u:Value),BindsTo s fd ⟨[u],[]⟩ [(x,u)])
  (Zn:∀H:Hp,xZ K H a (ns.map V.int)->(∀p∈ts,H p.2=some (.tbl #[]))->sp [.ref a] H (λv _=>v=.bl true) λ_ _ _=>False) :
  codeAny (model P w) callerA (.call (.ref fa) ⟨[.ref a],[]⟩) (λr s'=>r=.ok (.ret (.bool true))/\OldK aeI.heap s'.heap/\s'.os=aeI.os/\AllBare s'.gens) aeI:=by
 have rv:=zn0 hi;have wg:=hi.length;have core:∀H:Hp,xZ K H a (ns.map V.int)->(∀p∈ts,H p.2=some (.tbl #[]))->lE P w H aeI.heap->(∀b u,H b=some u->(b=a/\K.lookup a=none/\∃o xs,u=.frz o (.lst xs))\/(∃p∈ts,b=p.2/\u=.tbl #[])) ->
   codeAny (model P w) callerA (.call (.ref fa) ⟨[.ref a],[]⟩) (λr s'=>r=.ok (.ret (.bool true))/\OldK aeI.heap s'.heap/\s'.os=aeI.os/\AllBare s'.gens) aeI:=by
  intro H hS hT bI hA;have xV:∀{b:Addr} {o:Obj},aeI.heap.get? b=some o->H b=none->(wj aeI.heap H).get? b=some o:=λe n=>J7 e n;have noH:∀{b:Addr} {o:Obj},aeI.heap.get? b=some o->o.cls≠.type "list"->(∀vs,o.data≠.fields vs)->H b=none:=λ{b o} e d1 d2=>by
   cases q:H b with
   | none=>rfl
   | some u =>
    rcases hA b u q with⟨rfl,_⟩ | ⟨p,hp,rfl,_⟩
    ·rw[ha]at e;cases e;exact absurd rfl d1
    ·rw[ht p hp]at e;cases e;exact absurd rfl (d2 _)
  have Pq:∀{b:Addr} {o:Obj} {es:Array DictEntry} {ep:Nat},aeI.heap.get? b=some o->o.data=.dict es ep->H b=none:=λ{b o es ep} e d=>by
   cases q:H b with
   | none=>rfl
   | some u =>
    rcases hA b u q with⟨rfl,_⟩ | ⟨p,hp,rfl,_⟩
    ·rw[ha]at e;cases e;have d':Data.seq vs.toArray _=Data.dict es ep:=d;cases d'
    ·rw[ht p hp]at e;cases e;have d':Data.fields #[]=Data.dict es ep:=d;cases d'
  have nsK:∀{b:Addr} {m:Str->Option Value},aeI.heap.Ns b m->(wj aeI.heap H).Ns b m:=λ{b m} ⟨o,es,ep,e,d,r⟩=>⟨o,es,ep,xV e (Pq e d),d,r⟩;have hKb:K.In (wj aeI.heap H):=λb o e=>xV (KX b o e) (by
   cases q:H b with
   | none=>rfl
   | some u =>
    rcases hA b u q with⟨rfl,z,_⟩ | ⟨p,hp,rfl,_⟩
    ·rw[z]at e;cases e
    ·rw[(hk p hp).out]at e;cases e)
  have hM:Mod K mg (wj aeI.heap H):=⟨hKb,nsK Eo,⟨mb,nsK hb,hbb⟩,let ⟨mc,h1,h2⟩:=adL;⟨mc,nsK h1,h2⟩⟩;have e0:yc P w K mg (wj aeI.heap H) callerA [] aeI H:=⟨rfl,hM,λb o e=>Pk e,Nat.le_of_eq (Ep _ _),trivial,λb hb=>absurd (show b∈([]:List Addr) from hb) (by simp),bI,.of_eq hg⟩;have hBM:BMain mg (wj aeI.heap H):=by
   obtain⟨bm,ob,b1,b2,b3,b4,b5,b6⟩:=hbm;refine⟨bm,ob,b1,b2,λz=>?_,xV b3 (noH b3 (by rw[b4];simp) λvs z=>by rw[b6]at z;cases z),b4,b5,b6⟩;obtain⟨o,es,ep,e,d,_⟩:=Eo;rw[<-z,b3]at e;cases e;rw[b6]at d;cases d
  refine afz ((F _ hKb (nsK Eo) hBM).run callerA [] aeI H ⟨[.ref a],[]⟩ [.ref a] [.ref a] _ _ hr e0 (abu aeI (.ref a)) (.cons rfl .nil) (Zn H hS hT)) λr s' h=>?_;cases r with
  | error e=>exact False.elim h
  | ok fl =>
   cases fl with
   | next=>exact False.elim h
   | brk=>exact False.elim h
   | cont=>exact False.elim h
   | ret u =>
    obtain⟨v,H',os,bare,un,abq,r',q⟩:=h;have q':v=.bl true:=q;subst q';obtain rfl:u=Value.bool true:=r';refine⟨rfl,⟨λb o e=>?_,λb o e=>un.there b o e (by simp)⟩,os,bare⟩;cases q:H b with
    | none=>exact .inl (un.keep b o e q (by intro z;exact absurd (show b∈([]:List Addr) from z) (by simp)) (by simp))
    | some u =>
     rcases hA b u q with⟨rfl,_,ob,xs,rfl⟩ | ⟨p,hp,rfl,rfl⟩
     ·have z2:=un.sG _ ob _ q;obtain⟨e1,_⟩:=bI _ _ q;obtain⟨e2,_⟩:=abq _ _ z2;rw[e]at e1;cases e1;exact .inl e2
     ·obtain⟨more,z2⟩:=un.uc p.2 #[] q;have e2:s'.heap.get? p.2=some (PySem.W.tabObj (#[]++more)):=abq _ _ z2;obtain⟨_,_,_,c,_,_,_,_,xJ⟩:=(hk p hp).code;have hTA:=(PySem.W.codeHd_of_K KX xJ).tab (ht p hp);rw[ht p hp]at e;cases e;exact .inr (.inl ⟨hTA.isCodeTable,rfl,#[],more,rfl,e2⟩)
 have nt:∀p∈ts,p.2≠a:=λp hp z=>by
  have:=ht p hp;rw[z,ha]at this;cases this
 cases hka:K.lookup a with
 | some o =>
  have e:=KX a o hka;rw[ha]at e;cases e
  let H:Hp:=λb=>if (ts.map (·.2)).contains b=true then some (.tbl #[]) else none
  have hin:∀p∈ts,H p.2=some (.tbl #[]):=λp hp=>aeT (by simp;exact⟨p.1,hp⟩);refine core H (.inr ⟨_,vs.toArray,_,hka,rfl,rfl,rfl,by rw[gG,wg];exact hl,by simpa using rv⟩) hin (λb u z=>?_) λb u z=>?_
  ·by_cases hb:(ts.map (·.2)).contains b=true
   ·have z:(if (ts.map (·.2)).contains b=true then some (HO.tbl #[]) else none)=some u:=z;rw[aeT hb]at z;cases z;obtain⟨p,hp,rfl⟩:=gh.mp (pP.mp hb);exact ht p hp
   ·have z:(if (ts.map (·.2)).contains b=true then some (HO.tbl #[]) else none)=some u:=z;rw[aeU hb]at z;cases z
  ·by_cases hb:(ts.map (·.2)).contains b=true
   ·have z:(if (ts.map (·.2)).contains b=true then some (HO.tbl #[]) else none)=some u:=z;rw[aeT hb]at z;cases z;obtain⟨p,hp,rfl⟩:=gh.mp (pP.mp hb);exact .inr ⟨p,hp,rfl,rfl⟩
   ·have z:(if (ts.map (·.2)).contains b=true then some (HO.tbl #[]) else none)=some u:=z;rw[aeU hb]at z;cases z
 | none =>
  let H:Hp:=λb=>if b=a then some (.frz { cls:=.type "list",data:=.seq vs.toArray } (.lst (ns.map V.int))) else if (ts.map (·.2)).contains b=true then some (.tbl #[]) else none
  have hin:∀p∈ts,H p.2=some (.tbl #[]):=λp hp=>(aeU (nt p hp)).trans (aeT (by simp;exact⟨p.1,hp⟩));have hat:H a=some (.frz { cls:=.type "list",data:=.seq vs.toArray } (.lst (ns.map V.int))):=aeT rfl;have Te:∀b u,H b=some u->(b=a/\u=.frz { cls:=.type "list",data:=.seq vs.toArray } (.lst (ns.map V.int)))\/∃p∈ts,b=p.2/\u=.tbl #[]:=λb u z=>by
   by_cases hba:b=a
   ·subst hba;rw[hat]at z;cases z;exact .inl ⟨rfl,rfl⟩
   ·have z:(if b=a then some (HO.frz { cls:=.type "list",data:=.seq vs.toArray } (.lst (ns.map V.int))) else if (ts.map (·.2)).contains b=true then some (HO.tbl #[]) else none)=some u:=z;rw[aeU hba]at z;by_cases hb:(ts.map (·.2)).contains b=true
    ·rw[aeT hb]at z;cases z;obtain⟨p,hp,rfl⟩:=gh.mp (pP.mp hb);exact .inr ⟨p,hp,rfl,rfl⟩
    ·rw[aeU hb]at z;cases z
  refine core H (.inl ⟨_,hat⟩) hin (λb u z=>?_) λb u z=>?_
  ·rcases Te b u z with⟨rfl,rfl⟩ | ⟨p,hp,rfl,rfl⟩
   ·exact⟨ha,by rw[gq];exact hl,vs,_,rv,ha⟩
   ·exact ht p hp
  ·rcases Te b u z with⟨rfl,rfl⟩ | h
   ·exact .inl ⟨rfl,hka,_,_,rfl⟩
   ·exact .inr h
def zpk{K:PySem.W.Frag}{H:Hp}{a:Addr}{ns:List Int}{ts:List (Str×Addr)}(zg:(ts.map (·.2)).Nodup)(hS:xZ K H a (ns.map V.int))(hT:∀p∈ts,H p.2=some (.tbl #[]))(hk:∀p∈ts,Lr K p.1 p.2) :
  aU K (a::ts.map (·.2)) H (.frz (ns.map D.int)::ts.map λp=>.tab p.1):=by
 have hv:∀(μ:List Addr) (l:List Int),ao K μ H (l.map D.int) (l.map V.int):=fun μ l=>by
  induction l with
  | nil=>exact ao.nil
  | cons i l ih=>exact ao.cons (aq.aL.mpr rfl) ih
 refine⟨by simp,λn o e=>?_,λi j b oi oj ei ej mi mj hi hj=>?_⟩
 ·match n,e with
  | 0,e =>
   simp at e;subst e;exact⟨a,rfl,_,hS,hv _ ns⟩
  | n+1,e =>
   rw[mJ,gP]at e;cases q:ts[n]? with
   | none=>rw[q]at e;cases e
   | some p =>
    rw[q]at e;cases e;have hp:=gW q;refine⟨p.2,by rw[mJ,gP,q];rfl,(hk p hp).code,#[],hT p hp,trivial,λpos cv z=>by cases z⟩
 ·match i,j,ei,ej,hi,hj with
  | 0,_,ei,_,_,_=>simp at ei;subst ei;cases mi
  | _+1,0,_,ej,_,_=>simp at ej;subst ej;cases mj
  | i+1,j+1,_,_,hi,hj =>
   rw[mJ]at hi hj;have h1:=(gf.mp hi).1;rw[(nM h1 zg).mp (hi.trans hj.symm)]
def holds_ofT(ts:List (Str×Addr)){l:PySem.W.OpenLaw}{k:Nat}{q:Program}{loose:List Str}{XP:(Str->Option Value)->Heap->Prop}{YP:World->Heap->Prop}{d:DefRec}{K:Params->PySem.W.Frag}{F:FD}{x:Str}
  (hn:l.most=some 63) (hdf:d.params.defaults=[]) (hr:cH k callerA) (zg:(ts.map (·.2)).Nodup)
  (hY:∀(w:World) (h:Heap),YP w h->(K w.params).In h/\∀P∈ts.map (·.2),h.get? P=some (PySem.W.tabObj #[]))
  (G:∀(w:World) (mg:Str->Option Value) (fa:Addr) (h:Heap),(K w.params).In h->h.Ns mainGlobals mg->mg d.name=some (.ref fa) ->
   ∃fd:FuncData,(∀(s:Shared) (u:Value),BindsTo s fd ⟨[u],[]⟩ [(x,u)])/\(∀p∈ts,Lr (K w.params) p.1 p.2)/\∀base:Heap,(K w.params).In base->base.Ns mainGlobals mg->BMain mg base->cu l.prog w (K w.params) mg base qj k fa fd [x] (vh (K w.params) 1 F))
  (hF:∀ns:List Int,ns.length<=63->∃st,F [.loc 0] (.frz (ns.map D.int)::ts.map λp=>.tab p.1)=.ok (.bl true) st) :
  PySem.W.WalkO q loose XP YP l.row.toRowW d [] (λf vs=>PySem.call f vs):=by
 refine ZP.zo8 hn hdf λw aeJ aeI mg mb fa o pm cd doc a vs ns G0 Y ho hd xJ hmg W6 hints hlen hg=>?_;obtain⟨KX,hT⟩:=hY w _ Y;obtain⟨fd,hb,hk,hF'⟩:=G w mg fa _ KX G0.T.g hmg;refine Ea (ts:=ts) KX G0.T.g G0.T.b G0.T.builtins G0.T.nolimit hg G0.T.bmain (λp hp=>hT p.2 (gh.mpr ⟨p,hp,rfl⟩)) hk W6 hints (kh hlen (by decide)) hr hF' hb λH hS hTb=>?_;obtain⟨st,e⟩:=hF ns hlen;refine⟨rfl,a::ts.map (·.2),[.loc 0],_,ao.cons (aq.aK.mpr ⟨a,rfl,rfl⟩) ao.nil,zpk zg hS hTb hk,?_⟩;rw[e];exact λv H' μ' _ _ hv=>aq.bj.mp hv
structure Ac(K:PySem.W.Frag)(x:Str)(st:Stmt)(f:Addr)(fd:FuncData):Prop where
 ex:∃(oc:Value) (od:Option Addr) (dV kV doc pm:Value) (an:Option Addr) (c:Addr) (ct:Value) (sS:Array (Option Value)),
  fd=PySem.W.fnOf x x (bL st) (a_ st) (aD st) dV kV doc pm an (.ref c) ct/\K.lookup f=some ⟨oc,od,.func fd,sS⟩/\PySem.W.codeIn K (.ref c) x=true
 ns:PySem.W.nsIn K mainGlobals x=some (some (.ref f))
 kp:PySem.W.keepIn K (.ref f)=true
def Kp{P:Program}{w:World}{K:PySem.W.Frag}{mg:Str->Option Value}{base:Heap}{x:Str}{st:Stmt}{f:Addr}{fd:FuncData}{N ps:List Str}{k:Nat}{m:MS}(F:Ac K x st f fd)(S:cU N ps (aD st))
  (lV:∀(cdv:Value) (A:Around) (outer:List Env) (s:Shared) (H:Hp),cH k (A.deeper (PyProof.Rows.envOfC x (aD st) s.heap.objs.size f cdv)) ->
   abX (uZ qj P w K mg base N x (aD st) f cdv A outer s H E0).Iu x->yS (uZ qj P w K mg base N x (aD st) f cdv A outer s H E0).Iu (a_ st) m):cu P w K mg base qj (k+1) f fd ps (vh K ps.length (bx N.length m)):=by
 obtain⟨oc,od,dV,kV,doc,pm,an,c,ct,sS,rfl,lk,xJ⟩:=F.ex;refine Kq lk xJ S (λvs H Q E h=>h.1) λA outer s H vs Q E hr h=>?_;obtain⟨hl,μ,ds,R4,hv,hs,hp⟩:=h;have hb:=lV (.ref c) A outer s H hr ⟨rfl,c,f,_,_,rfl,F.ns,lk,rfl,rfl⟩;refine⟨_,yP.Iu hb,μ,startM N.length ds,R4,ao.start N hv,hs,?_⟩;unfold bx at hp;cases hr:m (startM N.length ds) R4 with
 | bad=>rw[hr]at hp;exact hp.elim
 | err x st1=>rw[hr]at hp;exact hp.elim
 | ok o st1 =>
  rw[hr]at hp;cases o with
  | rt d=>exact hp
  | nx env=>exact fun σ' H' μ' g pX _=>hp .non H' μ' g pX (aq.bD.mpr rfl)
  | bk env=>exact hp.elim
  | cn env=>exact hp.elim
def BK{K:PySem.W.Frag}{x:Str}{st:Stmt}{f:Addr}{oc:Value}{od an:Option Addr}{sS:Array (Option Value)}{dV kV doc pm ct:Value}{c:Addr}(n:PySem.W.nsIn K mainGlobals x=some (some (.ref f)))(l:K.lookup f=some ⟨oc,od,.func (PySem.W.fnOf x x (bL st) (a_ st) (aD st) dV kV doc pm an (.ref c) ct),sS⟩)
  (h:PySem.W.codeIn K (.ref c) x=true) (k:PySem.W.keepIn K (.ref f)=true):Ac K x st f (PySem.W.fnOf x x (bL st) (a_ st) (aD st) dV kV doc pm an (.ref c) ct):=⟨⟨oc,od,dV,kV,doc,pm,an,c,ct,sS,rfl,l,h⟩,n,k⟩
def Ac.aaf{K:PySem.W.Frag}{x:Str}{f P:Addr}{oc:Value}{od an:Option Addr}{sS:Array (Option Value)}{name qual:Str}{params:Arguments}{body:List Stmt}{scope:Scope}{dV kV doc pm ct:Value}{c:Addr}(n:PySem.W.nsIn K mainGlobals x=some (some (.ref f)))(l:K.lookup f=some ⟨oc,od,.func (PySem.W.fnOf name qual params body scope dV kV doc pm an (.ref c) ct),sS⟩)
  (h:PySem.W.codeHdIn K c P=true) (o:K.lookup P=none):Lr K x P:=⟨⟨f,_,_,c,n,l,rfl,rfl,h⟩,o⟩
def zpn:∀(env:aM) (st:ak) (as:List LA) (st1:ak),vX env st=.ok as st1->as.length=([]:List Expr).length:=by
 intro env st as st1 h;cases h;rfl
def zn6{e:Expr}{es:List Expr}{a:ME}{r:ML}(h:∀(env:aM) (st:ak) (as:List LA) (st1:ak),r env st=.ok as st1->as.length=es.length) :
  ∀(env:aM) (st:ak) (as:List LA) (st1:ak),lX a r env st=.ok as st1->as.length=(e::es).length:=by
 intro env st as st1 q;unfold lX at q;cases h1:a env st with
 | bad=>rw[h1]at q;cases q
 | err x s=>rw[h1]at q;cases q
 | ok x s =>
  rw[h1,R.aB]at q;cases h2:r env s with
  | bad=>rw[h2]at q;cases q
  | err x s=>rw[h2]at q;cases q
  | ok xs s2 =>
   rw[h2,R.aB]at q;cases q;rw[gC,gC,h env s xs _ h2]
def zjg{e:Expr}{es:List Expr}{j k:Nat}{cap:List Nat}{x:Str}{r:ML}(h:∀(env:aM) (st:ak) (as:List LA) (st1:ak),r env st=.ok as st1->as.length=es.length) :
  ∀(env:aM) (st:ak) (as:List LA) (st1:ak),lA j cap k x r env st=.ok as st1->as.length=(e::es).length:=by
 intro env st as st1 q;unfold lA at q
 split at q
 ·split at q
  ·cases h2:r env st with
   | bad=>rw[h2]at q;cases q
   | err x s=>rw[h2]at q;cases q
   | ok xs s2 =>
    rw[h2,R.aB]at q;cases q;rw[gC,gC,h env st xs _ h2]
  ·cases q
 ·cases q
end M
namespace M
open PySem PySem.Spec L2
def Cr:Expr->Nat->Expr
 | .Call _ as _ _,i=>as.getD i (.Constant .none 0 ⟨0,0,0,0⟩)
 | e,_=>e
def wN:Stmt->Expr
 | .Return (some e) _=>e
 | .Assign _ e _=>e
 | _=>.Constant .none 0 ⟨0,0,0,0⟩
def Sg:fJ:=⟨"",⟨[],[],none,[],[],none,[]⟩,.Constant .none 0 ⟨0,0,0,0⟩,aD (.Pass ⟨0,0,0,0⟩),[]⟩
def Bj(x:Str)(oO:List Str):Expr->fJ
 | .Lambda ps b sc _=>⟨qO x,ps,b,sc,oO⟩
 | _=>Sg
def zj7(h0:X.env.scope=sc0)(nd:l.oO.Nodup)(hc:∀x∈l.oO,sc0.names.lookup x=some .cell)(ix:cap.map (λi=>X.N[i]?)=l.oO.map some):qd X l cap :=
 ⟨nd,λx hx=>by subst h0;exact hc x hx,ix⟩
end M
namespace M
open L2
def Kd{s:ak}{n:Nat}{o:MO}(h:s[n]? = some o)(hc:o.dR=false):(bZ s)[n]? = some o:=by
 rw[zsb h,hc];rfl
def N8(h:s[c]? = some (.clo j (Λ j) ds))(hG:G j (ds++as) (bZ s)=.ok d (bZ s))(hu:under s.length d):Cp Λ G c as s=.ok d s:=by
 unfold Cp;rw[h];dsimp only;rw[aeT rfl,hG,eY (by rw[zj3];exact hu)];dsimp only;rw[aeT ⟨rfl,hu⟩]
def Ax(hi:env[i]? = some (some (.loc n)))(h0:st[n]? = some (.clo j (Λ j) ds))(hA:mA env st=.ok as st1)(h:st1[n]? = some (.clo j (Λ j) ds))(hG:G j (ds++as) (bZ st1)=.ok d (bZ st1))(hu:under st1.length d) :
  callC Λ G i mA env st=.ok d st1:=by
 unfold callC;rw[hi];dsimp only;rw[h0];dsimp only;rw[hA,R.aB];exact N8 h hG hu
def zsd(hm:m env st=.ok as st1)(hn:aY st1)(hp:jU Λ env st1.length as=some (ds,os))(hF:gc st1 (F (ds++dd) (st1++os))=.ok d st2)(hn2:aY st2) :
  jZ Λ F dd m env st=.ok d st2:=by
 unfold jZ;rw[hm,R.aB,aeT hn,hp];dsimp only;rw[hF];dsimp only;rw[aeT hn2]
@[simp] def Y5:aY []:=λ_ h=>nomatch h
@[simp] def VJ(o:MO)(st:ak):aY (o::st)↔o.dR=false/\aY st:=by simp[aY]
@[simp] def RV(a b:ak):aY (a++b)↔aY a/\aY b:=by
 simp only[aY,mC];exact⟨λh=>⟨λo ho=>h o (.inl ho),λo ho=>h o (.inr ho)⟩,λh o ho=>ho.elim (h.1 o) (h.2 o)⟩
@[simp] def Y9(l:List D):(MO.lst l).dR=false:=rfl
@[simp] def Y_(l:List D):(MO.frz l).dR=false:=rfl
@[simp] def Y8(x:PySem.Str):(MO.tab x).dR=false:=rfl
@[simp] def Ze(l:List (List Key×D)):(MO.dic l).dR=false:=rfl
@[simp] def Zd(l:List (Key×D)):(MO.dkc l).dR=false:=rfl
@[simp] def Zc(l:List (Key×D)):(MO.dkf l).dR=false:=rfl
@[simp] def Za(c:String)(d:D):(MO.exc c d).dR=false:=rfl
@[simp] def Zb(l:List (List Key×D)):(MO.dtf l).dR=false:=rfl
end M
namespace M
open PySem PySem.Spec L2
section
variable  {X:Cx}{elt tg iter c:Expr}{ifs:List Expr}{scope:Scope}{pos:Pos}{N:List Str}{capt:List (Option Nat)}{mi:MI}{g:MG}{t:MT}{me:ME}
end
end M
namespace L2
open PySem PySem.Spec PyProof.Rows
def XS(x:Str):It :=
 ⟨λi _=>i<x.cps.size,
  λi H y H'=>∃p c,H p=none/\y=.ref p/\x.cps[i]? = some c/\H'=upd H p (.tup [.int i,.str ⟨#[c]⟩]),
  λi _=>x.cps.size<=i⟩
def zrw{P:Program}{w:World}{K:PySem.W.Frag}{elts:List Expr}{x1:Nat}{pos:Pos}(x:Str)(t:Tok)(e it:Addr)(oK:e≠it) :
  Turn P w K (.Tuple elts x1 pos) (XS x) [e,it] e (λi h=>i<=x.cps.size/\∃old,IsEnum h e it (i:Int) old/\h.IsStrIter it "str_ascii_iterator" x t i) where
 mem:=by simp
 obj:=λi h st b hb=>by
  obtain⟨_,old,h1,h2⟩:=st;rcases gj.mp hb with rfl | hb
  ·exact⟨_,h1,λv z=>by cases z⟩
  ·have e:b=it:=by simpa using hb
   subst e;obtain⟨o,q,c,d⟩:=h2;exact⟨o,q,λv z=>by rw[d]at z;cases z⟩
 keep:=λi h h' st k=>by
  obtain⟨h0,old,h1,h2⟩:=st;refine⟨h0,old,k e (by simp) _ h1,?_⟩;obtain⟨o,q,c,d⟩:=h2;exact⟨o,k it (by simp) o q,c,d⟩
 item:=by
  intro X hP hw hK hc i pins s σ H E I hf st hg;subst hP hw hK;obtain⟨_,old,h1,h2⟩:=st;have hi:i<x.cps.size:=hg;have D:=Draws.strAscii (prog:=X.prog) (w:=X.w) (A:=X.A.in1) (I.ok.hd hc) it x t;refine wpAny_pyNext_enum_itemD D h1 h2 hi oK (by simpa using oK) λu aeQ tk hPu Mx hit ht hsz hk=>?_;refine⟨_,rfl,wpAny_letOwnedTupleGo_enum Mx λaeP adO J4=>?_⟩;replace J4:Heap.SameBut e aeQ aeP:=J4;have vo:e<s.heap.objs.size:=gw h1;have Ww:it<s.heap.objs.size:=by obtain⟨o,q,_⟩:=h2;exact gw q
  have ht2:aeP.get? s.heap.objs.size=some { cls:=.type "tuple",data:=.seq #[.int i tk,u] }:=by rw[J4.2 _ (mU vo)];exact ht
  have kk:∀b ob,b∉[e,it]->s.heap.get? b=some ob->aeP.get? b=some ob:=λb ob hb q=>by
   have b1:b≠e:=λz=>hb (by simp[z]);have b2:b≠it:=λz=>hb (by simp[z]);exact J4.extBut b ob b1 (hk b ob b1 b2 q)
  obtain⟨c,t2,Xg,rfl⟩:=hPu;refine⟨.ref s.heap.objs.size,upd H s.heap.objs.size (.tup [.int i,.str ⟨#[c]⟩]),I.Ah hf kk (gb _) ?_,rfl,⟨_,c,I.bI.fresh (gb _),rfl,Xg,rfl⟩,?_,λb hb=>?_⟩
  ·refine⟨by show 2<=sizeLine;decide,[.int i tk,.str ⟨#[c]⟩ t2],.cons ⟨_,rfl⟩ (.cons ⟨_,rfl⟩ .nil),?_⟩;exact⟨_,ht2,rfl,_,rfl⟩
  ·refine⟨hi,.str ⟨#[c]⟩ t2,?_,?_⟩
   ·have:(i:Int)+1=((i+1:Nat):Int):=by omega
    rw[<-this];exact adO
   ·obtain⟨o,q,c,d⟩:=hit;exact⟨o,J4.extBut it o (ae4 oK) q,c,d⟩
  ·rw[iC]
   ·exact (hf b hb).1
   ·intro z;subst z;rcases gj.mp hb with z | z
    ·exact mU vo z
    ·exact mU Ww (by simpa using z)
 done:=by
  intro X hP hw hK hc i pins s σ H E I hf st hg;subst hP hw hK;obtain⟨h0,old,h1,h2⟩:=st;have hi:x.cps.size<=i:=hg;have hii:i=x.cps.size:=by omega
  subst hii;have D:=Draws.strAscii (prog:=X.prog) (w:=X.w) (A:=X.A.in1) (I.ok.hd hc) it x t;exact wpAny_pyNext_enum_endD D h1 h2 λh' eb=>⟨rfl,I.turns (t':=s.toks) (ch:=[e,it]) hf λb o hb q=>eb b o (λz=>hb (by simp[z])) q⟩
 self:=λ_ _ _ _ _ st h=>by
  obtain⟨_,old,h1,h2⟩:=st;exact wpAny_pyIter_enum h1 h
def WK(ta:TA):TI:=fun σ H R=>ta σ H λvs H1=>∃x,vs=[.str x]/\strIterType x = "str_ascii_iterator"/\R (XS x) H1
def HR{X:Cx}{elts:List Expr}{x1:Nat}{wR:Pos}{a:Expr}{ta:TA}{p pos:Pos}(hg:Gl X "enumerate")(hm:X.mg "enumerate" = none)(ha:PA X [a] ta)(hs:starEach [a] X.env=[(false,eval a X.env)]:=by rfl) :
  PI X (.Tuple elts x1 wR) (.Call (.Name "enumerate" p) [a] [] pos) (WK ta):=by
 intro pins s σ H R I h;refine Call_ (M3 I hg hm zoc (ae1 (cI (ha pos pins s σ H _ I h) λus s1 zz=>?_) hs rfl));obtain⟨vs,H1,I1,r1,q1⟩:=zz;obtain⟨x,e,hq,q⟩:=q1;subst e;cases r1 with
 | cons r rr =>
  cases rr;obtain⟨t,rfl⟩:=r;refine call_enumerate_str λh' he hit hsz hk=>?_;rw[hq]at hit;refine wpAny_pyIter_enum he ?_;have I2:Inv X pins σ H1 { s1 with heap:=h' }:=I1.kept (t':=s1.toks) hk;refine⟨s1.heap.objs.size+1,[s1.heap.objs.size+1,s1.heap.objs.size],_,_,H1,rfl,I2,zrw x t _ _ (mU (nT _)),⟨mD _,.none,he,hit⟩,λb hb=>?_,q⟩;have oM:s1.heap.objs.size<=b:=by
   rcases gj.mp hb with z | z
   ·rw[z];exact Nat.le_succ _
   ·have:b=s1.heap.objs.size:=by simpa using z
    rw[this];exact gb _
  exact I1.uV oM (I1.bI.fresh oM)
end L2
namespace M
open PySem PySem.Spec L2
section
variable  {X:Cx}{a:Expr}{mA:MA}{μ:List Addr}{H:Hp}{p pos wR:Pos}
def uX(mA:MA):MI:=λenv st=>(mA env st).bind λds st1=>match ds with
 | [.str cs]=>if cs.all (λc=>decide (c<128))=true then .ok (dJ 0 (cs.map λc=>D.str [c]),[]) st1 else .bad
 | _=>.bad
@[simp] theorem Hs(env:aM)(st:ak):uX mA env st=(mA env st).bind λds st1=>match ds with
 | [.str cs]=>if cs.all (λc=>decide (c<128))=true then .ok (dJ 0 (cs.map λc=>D.str [c]),[]) st1 else .bad
 | _=>.bad:=dW rfl
def JR(cs:List Nat):oA X μ H (XS (strOf cs)) (dJ 0 (cs.map λc=>D.str [c]),[]):=by
 intro H' μ' st' g hs ok;refine⟨λi d e=>?_,by show (strOf cs).cps.size<=_;rw[Yu];simp⟩;obtain⟨y,e1,rfl⟩:=zjx e;rw[gP]at e1;obtain⟨c,e2,rfl⟩:=ni.mp e1;refine⟨by show i<(strOf cs).cps.size;simpa using (gf.mp e2).1,?_⟩;rintro x Cz ⟨pp,c',hn,rfl,hc,rfl⟩;have:c'=c:=by
  have h2:cs[i]? = some c':=by simpa using hc
  rw[e2]at h2;exact (aeX h2).symm
 subst this;refine⟨aZ.lay hn,hs.lay hn,aq.aQ.mpr ⟨pp,_,rfl,.inl qt,?_⟩⟩;exact ao.cons (aq.aL.mpr rfl) (ao.cons (aq.aP.mpr rfl) ao.nil)
def Jw{elts:List Expr}{x1:Nat}(ha:JA X [a] mA)(hg:Gl X "enumerate")(hm:X.mg "enumerate" = none)(hs:starEach [a] X.env=[(false,eval a X.env)]:=by rfl):JI X (.Tuple elts x1 wR) (.Call (.Name "enumerate" p) [a] [] pos) (uX mA):=by
 refine JI.of (HR hg hm ha hs) fun σ H R zz=>?_;obtain⟨μ,env,st,hE,hs,hp⟩:=zz;refine⟨μ,env,st,hE,hs,(bJ.bind hp).imp ?_⟩;rintro vs H1 ⟨μ1,st1,ds,g1,bB,hv,aR⟩;dsimp only at aR
 split at aR
 ·rename_i cs
  split at aR
  ·rename_i hc;obtain⟨v,rfl,q1⟩:=ao.one hv;obtain rfl:=aq.aP.mp q1;refine⟨strOf cs,rfl,?_,aR _ _ _ (.refl _ _) bB (JR cs)⟩;unfold strIterType;rw[aeT];show (cs.toArray.all _)=true;rw[List.all_toArray];exact hc
  ·exact aR.elim
 ·exact aR.elim
end
end M
namespace M
open PySem PySem.Spec PySem.SeqAt L2
def aq.kt{K:PySem.W.Frag}{a:Addr}{od:Option Addr}{its:Array Value}{n:Nat}{sl:Array (Option Value)}{ds:List D}(xs:List V)(l:K.lookup a=some ⟨.type "tuple",od,.seq its n,sl⟩)(hs:its.size<=sizeLine)(hv:Vals xs its.toList)(nk:Bd ds=true)
  (hr:∀μ H,ao K μ H ds xs):∀μ H,aq K μ H (.tup ds) (.ref a):=fun μ H=>aq.aQ.mpr ⟨a,xs,rfl,.inr ⟨nk,_,its,n,l,rfl,rfl,hs,hv⟩,hr μ H⟩
def ao.n{K:PySem.W.Frag}:∀μ H,ao K μ H [] []:=λ_ _=>ao.nil
def ao.c{K:PySem.W.Frag}{d:D}{ds:List D}{v:V}{vs:List V}(h:∀μ H,aq K μ H d v)(k:∀μ H,ao K μ H ds vs):∀μ H,ao K μ H (d::ds) (v::vs):=fun μ H=>ao.cons (h μ H) (k μ H)
def aq.ks{K:PySem.W.Frag}{cs:List Nat}{y:Str}(hy:y=strOf cs):∀μ H,aq K μ H (.str cs) (.str y):=λ_ _=>aq.aP.mpr (by rw[hy])
def aq.ki{K:PySem.W.Frag}{i:Int}:∀μ H,aq K μ H (.int i) (.int i):=λ_ _=>aq.aL.mpr rfl
def aq.kb{K:PySem.W.Frag}{b:Bool}:∀μ H,aq K μ H (.bl b) (.bl b):=λ_ _=>aq.bj.mpr rfl
section
variable  {X:Cx}{pos:Pos}{x:Str}{L:Nat}
def JC{d:D}(h:∃a,X.mg x=some (.ref a)/\∀μ H,aq X.K μ H d (.ref a))(hg:Gl X x:=by rfl)(hd:(x==("__debug__":Str))=false:=by decide):JE X (.Name x pos) (ct d):=by
 obtain⟨a,h,hv⟩:=h;exact zsl (v:=.ref a) hg h rfl hv hd
def uR(L:Nat)(neg:Bool):D->D->ak->R D
 | d,.loc n,st=>match aA st n with
  | some ds=>if flat d=true/\dC ds=true/\(ds.all λe=>decide (dU e d<L))=true then .ok (.bl (if neg then !(ds.any λe=>jJ e d) else ds.any λe=>jJ e d)) st else .bad
  | none=>.bad
 | _,_,_=>.bad
def Hj{a b:V}{w:Value}(h:RelV a w)(k:RelV b w):a=b:=by
 cases a<;>cases b<;>simp only[RelV]at h k<;>first
  | rfl
  | (subst h;cases k;done)
  | (subst h;injection k with k;subst k;rfl)
  | (obtain⟨_,rfl⟩:=h;cases k;done)
  | (obtain⟨_,rfl⟩:=k;cases h;done)
  | (obtain⟨_,rfl⟩:=h;obtain⟨_,k⟩:=k;injection k with k;subst k;rfl)
  | (obtain⟨_,rfl⟩:=h;obtain⟨_,k⟩:=k;cases k;done)
open Classical in
def zsg(hu:X.A.units+L<cLine){pins:List (Addr×Obj)}{s:Shared}{σ:L2.St}{H:Hp}{x y:V}{v u:Value}{Q:VK}{neg:Bool}(I:Inv X pins σ H s)(rx:RelV x v)(ry:RelV y u)(h:rM X (uR L neg) x y H Q) :
  ∃(p:Addr) (its:List Value) (f:Value->Bool),u=.ref p/\s.heap.IsList p its.toArray/\(∀w∈its,EqAt X.A.in1 s w v (f w))/\Q (.bl (if neg then !its.any f else its.any f)) H:=by
 obtain⟨μ,st,dx,dy,hs,hx,hy,hp⟩:=h;unfold uR at hp
 split at hp
 ·rename_i n
  split at hp
  ·rename_i ds e
   split at hp
   ·rename_i c;obtain⟨c1,c2,c3⟩:=c;obtain⟨p,q1,rfl⟩:=aq.aK.mp hy;obtain⟨p',xs,r1,r2,r3⟩:=hs.items e;rw[q1]at r1;cases r1;obtain rfl:u=Value.ref p:=ry;obtain⟨its,ra,pl,_⟩:=I.list r2
    let f:Value->Bool:=λw=>decide (∃d z,flat d=true/\aq X.K μ H d z/\RelV z w/\jJ d dx=true)
    have key:∀(ds:List D) (xs:List V) (its:List Value),ao X.K μ H ds xs->Vals xs its->dC ds=true->(ds.all λe=>decide (dU e dx<L))=true ->
      (∀w∈its,EqAt X.A.in1 s w v (f w))/\its.any f=ds.any λe=>jJ e dx:=by
     intro ds
     induction ds with
     | nil =>
      intro xs its h1 h2 _ _;rw[ao]at h1;subst h1;cases h2;exact⟨λw hw=>(nomatch hw),rfl⟩
     | cons d ds ih =>
      intro xs its h1 h2 h3 h4;rw[ao]at h1;obtain⟨z,r,rfl,g1,g2⟩:=h1;cases h2 with
      | cons rz rr =>
       rw[ze7,gH]at h3;rw[List.all_cons,gH]at h4;obtain⟨i1,i2⟩:=ih _ _ g2 rr h3.2 h4.2;have fe:∀{w:Value},RelV z w->f w=jJ d dx:=λ{w} hw=>by
        cases q:jJ d dx with
        | true=>exact ae3 ⟨d,z,h3.1,g1,hw,q⟩
        | false =>
         refine aeW ?_;rintro ⟨d',z',k1,k2,k3,k4⟩;have ez:z'=z:=Hj k3 hw;subst ez;rw[zl8 I d' d k1 h3.1 k2 g1]at k4;rw[k4]at q;cases q
       refine⟨λw hw=>?_,?_⟩
       ·rcases gj.mp hw with rfl | hw
        ·rw[fe rz];exact (Kz I d dx h3.1 c1 (by have:=afd h4.1;show X.A.units+1+_<_;omega) g1 hx rz rx).1
        ·exact i1 w hw
       ·rw[mW,mW,fe rz,i2]
    obtain⟨k1,k2⟩:=key ds xs its r3 ra c2 c3;refine⟨p,its,f,rfl,pl.isList,k1,?_⟩;rw[k2];exact hp.ret hs (aq.bj.mpr rfl)
   ·exact hp.elim
  ·exact hp.elim
 ·exact hp.elim
def Bb(hu:X.A.units+L<cLine):dZ X (compareOp .In) (rM X (uR L false)):=by
 intro pins s σ H x y v u Q I rx ry h;obtain⟨p,its,f,rfl,pl,k1,q⟩:=zsg hu I rx ry h;refine SeqAt.in_listAt f pl (λw hw=>k1 w (by simpa using hw)) ⟨.bl _,H,I,rfl,?_⟩;rw[show its.toArray.any f=its.any f by simp];exact q
def zkl(hu:X.A.units+L<cLine):dZ X (compareOp .NotIn) (rM X (uR L true)):=by
 intro pins s σ H x y v u Q I rx ry h;obtain⟨p,its,f,rfl,pl,k1,q⟩:=zsg hu I rx ry h;refine SeqAt.notIn_listAt f pl (λw hw=>k1 w (by simpa using hw)) ⟨.bl _,H,I,rfl,?_⟩;rw[show its.toArray.any f=its.any f by simp];exact q
end
end M
namespace M
open PySem PySem.Spec L2
section
variable  {prog:Program}{w:World}{A:Around}{E:Value->Shared->Prop}{s:Shared}
end
section
variable  {X:Cx}{es:List Expr}{pos:Pos}
end
end M
namespace M
namespace Tr
def iT:Nat->Tr->Option Tr
 | 0,t=>some t
 | n+1,t=>(step t).bind (iT n)
def vp{n:Nat}{t u:Tr}(h:step t=some u):iT (n+1) t=iT n u:=by rw[iT,h];rfl
theorem T5:∀{a b:Nat} {t u:Tr},iT a t=some u->iT (a+b) t=iT b u
 | 0,b,t,u,h=>by rw[iT]at h;cases h;rw[nY]
 | a+1,b,t,u,h=>by
  cases e:step t with
  | none=>rw[iT,e]at h;cases h
  | some x =>
   rw[vp e]at h;rw[pN,vp e];exact T5 h
def zrp{t u:Tr}(h:step t=some u):val t=false:=by
 cases e:val t with
 | false=>rfl
 | true=>rw[Yn e]at h;cases h
theorem zmw{r:Tr}:∀{n:Nat} {l l':Tr},iT n l=some l'->iT n (.jn l r)=some (.jn l' r)
 | 0,l,l',h=>by rw[iT]at h ⊢;cases h;rfl
 | n+1,l,l',h=>by
  cases e:step l with
  | none=>rw[iT,e]at h;cases h
  | some x =>
   rw[vp e]at h;rw[vp (u:=.jn x r) (by rw[zg2 (zrp e),e];rfl)];exact zmw h
theorem zm5{l:Tr}(hl:val l=true):∀{n:Nat} {r r':Tr},iT n r=some r'->iT n (.jn l r)=some (.jn l r')
 | 0,l,l',h=>by rw[iT]at h ⊢;cases h;rfl
 | n+1,r,r',h=>by
  cases e:step r with
  | none=>rw[iT,e]at h;cases h
  | some x =>
   rw[vp e]at h;rw[vp (u:=.jn l x) (by rw[zfi hl (zrp e),e];rfl)];exact zm5 hl h
theorem zk3:∀{n:Nat} {t u:Tr},iT n t=some u->run n t=(u,n)
 | 0,t,u,h=>by rw[iT]at h;cases h;rfl
 | n+1,t,u,h=>by
  cases e:step t with
  | none=>rw[iT,e]at h;cases h
  | some x =>
   rw[vp e]at h;rw[zjl e,zk3 h]
def Nz{n m:Nat}{t v:Tr}(h:iT n t=some v)(hv:val v=true)(hm:n<=m):run m t=(v,n):=by
 obtain⟨k,rfl⟩:=Nat.exists_eq_add_of_le hm;rw[NK,zk3 h,T9 (Yn hv)];rfl
def Ev(t:Tr)(n:Nat)(v:Tr):Prop:=iT n t=some v/\val v=true
def Ev.v{v:Tr}(h:Tr.val v=true):Ev v 0 v:=⟨rfl,h⟩
def Ev.to{t v:Tr}{n m:Nat}(h:Ev t n v)(e:n=m):Ev t m v:=e ▸ h
def Ev.run{t v:Tr}{n m:Nat}(h:Ev t n v)(hm:n<=m):Tr.run m t=(v,n):=Nz h.1 h.2 hm
def Ev.both{l r a b:Tr}{n m:Nat}(h:Ev l n a)(k:Ev r m b):iT (n+m) (.jn l r)=some (.jn a b):=by
 rw[T5 (zmw h.1)];exact zm5 h.2 k.1
def Ev.jv{l r a b:Tr}{n m:Nat}(h:Ev l n a)(k:Ev r m b)(hv:Tr.val (.jn a b)=true):Ev (.jn l r) (n+m) (.jn a b):=⟨h.both k,hv⟩
def Ev.red{l r a b u v:Tr}{n m k:Nat}(h:Ev l n a)(h2:Ev r m b)(hn:Tr.val (.jn a b)=false)(hr:fO a b=some u)(h3:Ev u k v):Ev (.jn l r) (n+m+1+k) v:=by
 refine⟨?_,h3.2⟩;rw[Nat.add_assoc (n+m),T5 (h.both h2),Nat.add_comm 1 k,vp (u:=u) (by rw[zfd h.2 h2.2 hn,hr])];exact h3.1
abbrev tS:Tr:=.lf [83]
noncomputable abbrev tK:Tr:=.lf [75]
abbrev tI:Tr:=.jn (.jn tS tK) tK
def eO(v:Tr):val (.jn tK v)=val v:=by rw[Ug];simp
def GC(v:Tr):val (.jn tS v)=val v:=by rw[Ug];simp
def RG(u v:Tr):val (.jn (.jn tS u) v)=(val v && val u):=by rw[Ub,GC];simp[uQ]
def Um(u v:Tr):val (.jn (.jn tK u) v)=false:=by rw[Ub];simp[uQ]
def Yk(u v w:Tr):val (.jn (.jn (.jn tS u) v) w)=false:=by rw[Ub];simp[uQ]
def GD:val tI=true:=by decide
def Ev.K{l r v w:Tr}{n m:Nat}(h:Ev l n (.jn tK v))(h2:Ev r m w):Ev (.jn l r) (n+m+1) v:=by
 have hv:val v=true:=by rw[<-eO];exact h.2
 exact (h.red h2 (Um _ _) (by rw[fO,aeT rfl]) (Ev.v hv)).to (by omega)
def Ev.S{l r u v w x:Tr}{n m k:Nat}(h:Ev l n (.jn (.jn tS u) v))(h2:Ev r m w)(h3:Ev (.jn (.jn u w) (.jn v w)) k x):Ev (.jn l r) (n+m+1+k) x :=
 h.red h2 (Yk _ _ _) rfl h3
def Ev.I{r w:Tr}{m:Nat}(h:Ev r m w):Ev (.jn tI r) (m+2) w:=by
 have hK:Ev tK 0 tK:=Ev.v rfl;have hw:Ev w 0 w:=Ev.v h.2;have h1:Ev (.jn tK w) 0 (.jn tK w):=Ev.v (by rw[eO];exact h.2);exact ((Ev.v GD).S h (h1.K h1)).to (by omega)
def Ev.det{t v w:Tr}{n m:Nat}(h:Ev t n v)(k:Ev t m w):n=m/\v=w:=by
 have a:=h.run (Nat.le_add_right n m);have b:=k.run (Nat.le_add_left m n);rw[a]at b;exact⟨congrArg Prod.snd b,congrArg Prod.fst b⟩
end Tr
end M
namespace M
namespace Tr
def Ev.comp{l r a b v:Tr}{n m k:Nat}(h:Ev l n a)(h2:Ev r m b)(h3:Ev (.jn a b) k v):Ev (.jn l r) (n+m+k) v:=by
 refine⟨?_,h3.2⟩;rw[T5 (h.both h2)];exact h3.1
inductive cW (p:Tr):List Tr->Nat->Tr->Prop
 | nil (h:val p=true):cW p [] 0 p
 | snoc (ts:List Tr) (t w v:Tr) (n m:Nat) (h:cW p ts n w) (ht:val t=true) (k:Ev (.jn w t) m v):cW p (ts++[t]) (n+m) v
noncomputable def apps(p:Tr)(ts:List Tr):Tr:=ts.foldl (λw t=>.jn w t) p
def zgu(p:Tr)(ts:List Tr)(t:Tr):apps p (ts++[t])=.jn (apps p ts) t:=by simp[apps]
def cW.apps{p v:Tr}{ts:List Tr}{n:Nat}(h:cW p ts n v):Ev (Tr.apps p ts) n v:=by
 induction h with
 | nil h=>exact Ev.v h
 | snoc ts t w v n m h ht k ih =>
  rw[zgu];exact (ih.comp (Ev.v ht) k).to (by omega)
def hold(ts:List Tr):Tr:=ts.foldl (λw t=>.jn (.jn tS w) (.jn tK t)) tI
def zfh(ts:List Tr)(t:Tr):hold (ts++[t])=.jn (.jn tS (hold ts)) (.jn tK t):=by simp[hold]
theorem zr6:∀(ts:List Tr) (w:Tr),val w=true->(∀t∈ts,val t=true)->val (ts.foldl (λw t=>.jn (.jn tS w) (.jn tK t)) w)=true
 | [],w,h,_=>h
 | t::ts,w,h,k=>zr6 ts _ (by rw[RG,eO,h,k t (by simp)];rfl) λx hx=>k x (by simp[hx])
def Gx{ts:List Tr}(h:∀t∈ts,val t=true):val (hold ts)=true:=zr6 ts tI GD h
def zn9{p v:Tr}{ts:List Tr}{n:Nat}(hp:Tr.val p=true)(h:cW p ts n v):val (hold ts)=true/\Ev (.jn (hold ts) p) (n+2+2*ts.length) v:=by
 induction h with
 | nil h=>exact⟨GD,Ev.I (Ev.v h)⟩
 | snoc ts t w v n m h ht k ih =>
  obtain⟨i1,i2⟩:=ih;have hv:val (hold (ts++[t]))=true:=by rw[zfh,RG,eO,ht,i1];rfl
  refine⟨hv,?_⟩;have e1:Ev (.jn (.jn tK t) p) 1 t:=((Ev.v (v:=.jn tK t) (by rw[eO];exact ht)).K (Ev.v hp)).to (by omega);have e2:=(Ev.v hv);rw[zfh]at e2 ⊢;refine (e2.S (Ev.v hp) (i2.comp e1 k)).to ?_;rw[gJ,mH];omega
def cZ:Nat->Tr->Tr
 | 0,v=>v
 | n+1,v=>.jn tK (cZ n v)
theorem zh9{v:Tr}(h:val v=true):∀n,val (cZ n v)=true
 | 0=>h
 | n+1=>by rw[cZ,eO];exact zh9 h n
noncomputable def vQ:Nat->Tr
 | 0=>tI
 | 1=>tK
 | m+2=>.jn (.jn tS (.jn tK tK)) (vQ (m+1))
noncomputable def DG:Nat->Nat
 | 0=>2
 | 1=>0
 | m+2=>2+DG (m+1)
theorem zn1:∀m,val (vQ m)=true
 | 0=>rfl
 | 1=>rfl
 | m+2=>by rw[vQ,RG,zn1 (m+1)];rfl
theorem Ly{a:Tr}(h:val a=true):∀m,Ev (.jn (vQ m) a) (DG m) (cZ m a)
 | 0=>Ev.I (Ev.v h)
 | 1=>Ev.v (by rw[show (.jn (vQ 1) a:Tr)=.jn tK a from rfl,eO];exact h)
 | m+2=>by
  have hv:=zn1 (m+2);have ih:=Ly h (m+1);have e1:Ev (.jn (.jn tK tK) a) 1 tK:=((Ev.v (v:=.jn tK tK) rfl).K (Ev.v h)).to (by omega);rw[vQ]at hv ⊢;exact ((Ev.v hv).S (Ev.v h) (e1.jv ih (by rw[eO];exact zh9 h _))).to (by rw[DG];omega)
def bV(k many:Nat):Tr:=cZ k (vQ (many - 1 - k))
def Gy(k many:Nat):val (bV k many)=true:=zh9 (zn1 _) _
def zkq{w:Tr}(hw:val w=true):∀(ts:List Tr) (j:Nat),(∀t∈ts,val t=true)->cW (cZ (ts.length+j) w) ts ts.length (cZ j w):=by
 intro ts
 induction hn:ts.length generalizing ts with
 | zero =>
  intro j h;have:ts=[]:=nU.mp hn;subst this;rw[nY];exact .nil (zh9 hw _)
 | succ n ih =>
  intro j h;obtain⟨us,t,rfl⟩:∃us t,ts=us++[t]:=by
   rcases List.eq_nil_or_concat ts with rfl | ⟨us,t,rfl⟩
   ·cases hn
   ·exact⟨us,t,by rw[List.concat_eq_append]⟩
  have hl:us.length=n:=by simpa using hn
  have h1:=ih us hl (j+1) λx hx=>h x (by simp[hx]);rw[show n+1+j=n+(j+1) by omega];refine .snoc _ _ _ _ _ 1 h1 (h t (by simp)) ?_;exact ((Ev.v (v:=.jn tK (cZ j w)) (by rw[eO];exact zh9 hw _)).K (Ev.v (h t (by simp)))).to (by omega)
def cW.trans{p w v:Tr}{ts us:List Tr}{n m:Nat}(h:cW p ts n w)(k:cW w us m v):cW p (ts++us) (n+m) v:=by
 induction k with
 | nil hw=>simpa using h
 | snoc us t x v m k hk ht e ih =>
  rw[<-gY,<-Nat.add_assoc];exact .snoc _ _ _ _ _ _ ih ht e
def zlh{ts:List Tr}{k:Nat}{t:Tr}(hv:∀x∈ts,val x=true)(hk:ts[k]? = some t):cW (bV k ts.length) ts (k+DG (ts.length - 1 - k)+(ts.length - 1 - k)) t:=by
 have hl:=(gf.mp hk).1;have ht:val t=true:=hv t (gW hk);have e:ts=ts.take k++[t]++ts.drop (k+1):=by
  rw[gY];have h1:ts.drop k=t::ts.drop (k+1):=by
   rw[nH hl];rw[gM hl]at hk;cases hk;rfl
  rw[List.singleton_append,<-h1,List.take_append_drop]
 have l1:(ts.take k).length=k:=by rw[kI];omega
 have l2:(ts.drop (k+1)).length=ts.length - 1 - k:=by rw[mV];omega
 have a1:=zkq (zn1 (ts.length - 1 - k)) (ts.take k) 0 λx hx=>hv x (mZ hx);have a2:=zkq ht (ts.drop (k+1)) 0 λx hx=>hv x (m_ hx);rw[l1,nq]at a1;rw[l2,nq]at a2;have a3:cW (bV k ts.length) (ts.take k++[t]) (k+DG (ts.length - 1 - k)) (cZ (ts.length - 1 - k) t):=.snoc _ _ _ _ _ _ a1 ht (Ly ht _);have:=a3.trans a2;rw[<-e]at this;exact this
theorem HF:∀m,DG m<=2*m+2
 | 0=>by decide
 | 1=>by decide
 | m+2=>by have:=HF (m+1);rw[DG];omega
theorem zqe(v:Tr):∀n,dp (cZ n v)=dp v+n
 | 0=>rfl
 | n+1=>by
  rw[cZ,dp,zqe v n];have:dp tK=0:=rfl;omega
theorem z_:∀m,dp (vQ m)<=m+2
 | 0=>by decide
 | 1=>by decide
 | m+2=>by
  have:=z_ (m+1);rw[vQ,dp];have e:dp (.jn tS (.jn tK tK))=2:=rfl;rw[e];omega
end Tr
end M
namespace M
open Tr
open Classical in
theorem zq4:∀(t u:Tr),jJ (enc t) (enc u)=decide (t=u)
 | .lf a,.lf b=>by
  rw[enc,enc,jJ,mz];simp
 | .lf a,.jn l r=>by rw[enc,enc];simp[jJ]
 | .jn l r,.lf a=>by rw[enc,enc];simp[jJ]
 | .jn l r,.jn l' r'=>by
  have h1:=zq4 l l';have h2:=zq4 r r';rw[enc,enc,jJ,ju,ju,h1,h2];by_cases e1:l=l'
  ·by_cases e2:r=r'
   ·subst e1 e2;simp[jJ,ju]
   ·have:(Tr.jn l r=.jn l' r')=False:=by simp[e2]
    simp[e2]
  ·simp[e1]
open Classical in
def BR(t u:Tr)(st:ak)(h:dp t<800):eN 800 (enc t) (enc u) st=.ok (.bl (decide (t=u))) st:=by
 have hc:=Ci (enc t) (enc u);rw[QS]at hc;have hr:lC 800 (enc t) (enc u) st=some (decide (t=u)):=by
  have h1:=zmg t;have h2:=zmg u;have h3:=zq4 t u;rw[<-h3];have h4:dU (enc t) (enc u)<800:=by omega
  cases t<;>cases u<;>(rw[enc,enc]at *;simp only[lC];rw[aeT ⟨h1,h2,h4⟩])
 unfold eN;rw[hr]
end M
namespace M
open L2
end M
namespace M
open PySem PySem.Spec L2
section
variable  {X:Cx}
end
end M
namespace M
open L2
def valN(kvs:List (Key×D))(k:Key):Option D:=(kvs.find? λkv=>decide (kv.1=k)).map (·.2)
def Yy(p:Key×D)(r:List (Key×D))(k:Key):valN (p::r) k=if p.1=k then some p.2 else valN r k:=by
 unfold valN;rw[mq];by_cases h:p.1=k
 ·simp[h]
 ·simp[h]
def putN(kvs:List (Key×D))(k:Key)(d:D):List (Key×D) :=
 if (kvs.any λkv=>decide (kv.1=k))=true then kvs.map (λkv=>if kv.1=k then (kv.1,d) else kv) else kvs++[(k,d)]
def jV(kvs more:List (Key×D)):List (Key×D):=more.foldl (λacc kv=>putN acc kv.1 kv.2) kvs
def ZF:ME:=λ_ st=>.ok (.loc st.length) (st++[.dkc []])
def yF:D->List D->ak->R D
 | .loc n,[k,d],st=>match st[n]?,keyOf k with
  | some (.dkc kvs),some kk=>.ok ((valN kvs kk).getD d) st
  | _,_=>.bad
 | _,_,_=>.bad
def lN:D->D->D->ak->R Unit
 | .loc n,k,d,st=>match st[n]?,keyOf k with
  | some (.dkc kvs),some kk=>if kvs.length<1000000 then .ok () (st.set n (.dkc (putN kvs kk d))) else .bad
  | _,_=>.bad
 | _,_,_,_=>.bad
abbrev RB:=aM->ak->R (List (D×D))
def iH:RB:=λ_ st=>.ok [] st
def cG(a b:ME)(r:RB):RB:=λenv st=>(a env st).bind λx st1=>(b env st1).bind λy st2=>(r env st2).bind λps ig=>.ok ((x,y)::ps) ig
noncomputable def uN:List (D×D)->Option (List (Key×D))
 | []=>some []
 | (k,d)::r=>match keyOf k,uN r with | some kk,some l=>some ((kk,d)::l) | _,_=>none
def fV(m:RB):ME:=λenv st=>(m env (st++[.dkc []])).bind λps st1=>match uN ps,st1[st.length]? with
 | some kvs,some (.dkc [])=>if kvs.length<=15 then .ok (.loc st.length) (st1.set st.length (.dkc (jV [] kvs))) else .bad
 | _,_=>.bad
@[simp] def N5(env:aM)(st:ak):iH env st=.ok [] st:=dW rfl
@[simp] def zqu(a b:ME)(r:RB)(env:aM)(st:ak):cG a b r env st=(a env st).bind λx st1=>(b env st1).bind λy st2=>(r env st2).bind λps ig=>.ok ((x,y)::ps) ig:=dW rfl
end M
namespace M
open PySem PySem.Spec L2
section
variable  {X:Cx}{K:PySem.W.Frag}{μ:List Addr}{H:Hp}
theorem aH.valN:∀{kvs:List (Key×D)} {ws:List (Key×V)},aH K μ H kvs ws ->
  (M.valN kvs k=none/\iY ws k=none)\/∃d v,M.valN kvs k=some d/\iY ws k=some v/\aq K μ H d v
 | [],ws,h=>.inl ⟨rfl,by rw[aH]at h;rw[h];rfl⟩
 | (j,d)::r,ws,h=>by
  obtain⟨v,r',rfl,h1,h2⟩:=h;rw[Yy];by_cases e:j=k
  ·rw[aeT e];exact .inr ⟨d,v,rfl,zh8 (p:=(j,v)) e,h1⟩
  ·rw[aeU e,zhk (p:=(j,v)) e];exact aH.valN h2
theorem aH.abU:∀{kvs:List (Key×D)} {ws:List (Key×V)},aH K μ H kvs ws->(kvs.any λkv=>decide (kv.1=k))=(ws.any λkv=>decide (kv.1=k))
 | [],ws,h=>by rw[aH]at h;rw[h];rfl
 | (j,d)::r,ws,h=>by
  obtain⟨v,r',rfl,h1,h2⟩:=h;rw[mW,mW,aH.abU h2]
theorem aH.Hi(hv:aq K μ H d v):∀{kvs:List (Key×D)} {ws:List (Key×V)},aH K μ H kvs ws->aH K μ H (kvs.map λkv=>if kv.1=k then (kv.1,d) else kv) (ws.map λkv=>if kv.1=k then (kv.1,v) else kv)
 | [],ws,h=>by rw[aH]at h;subst h;exact rfl
 | (j,d')::r,ws,h=>by
  obtain⟨v',r',rfl,h1,h2⟩:=h;rw[gr,gr];by_cases e:j=k
  ·rw[aeT e,aeT e];exact⟨v,_,rfl,hv,aH.Hi hv h2⟩
  ·rw[aeU e,aeU e];exact⟨v',_,rfl,h1,aH.Hi hv h2⟩
theorem aH.R5:∀{kvs:List (Key×D)} {ws:List (Key×V)},aH K μ H kvs ws->aq K μ H d v->aH K μ H (kvs++[(k,d)]) (ws++[(k,v)])
 | [],ws,h,hv=>by rw[aH]at h;subst h;exact⟨v,[],rfl,hv,rfl⟩
 | (j,d')::r,ws,h,hv=>by
  obtain⟨v',r',rfl,h1,h2⟩:=h;exact⟨v',r'++[(k,v)],rfl,h1,aH.R5 h2 hv⟩
def aH.putN(h:aH K μ H kvs ws)(hv:aq K μ H d v):aH K μ H (M.putN kvs k d) (putK ws k v):=by
 unfold M.putN putK;rw[h.abU]
 split
 ·exact aH.Hi hv h
 ·exact h.R5 hv
theorem aH.jV:∀{more:List (Key×D)} {ms:List (Key×V)} {kvs:List (Key×D)} {ws:List (Key×V)},aH K μ H more ms->aH K μ H kvs ws->aH K μ H (M.jV kvs more) (jW ws ms)
 | [],ms,kvs,ws,h,k=>by rw[aH]at h;subst h;exact k
 | (j,d)::r,ms,kvs,ws,h,k=>by
  obtain⟨v,r',rfl,h1,h2⟩:=h;show aH K μ H (M.jV (M.putN kvs j d) r) (jW (putK ws j v) r');exact aH.jV h2 (k.putN h1)
def aU.dkc{st:ak}{n:Nat}{kvs:List (Key×D)}(h:aU K μ H st)(e:st[n]? = some (.dkc kvs)):∃p ws,μ[n]? = some p/\H p=some (.dK ws)/\aH K μ H kvs ws:=by
 obtain⟨p,h1,xs,h2,h3⟩:=h.at_ n _ e;exact⟨p,xs,h1,h2,h3⟩
def aq.key(h:aq K μ H d v)(e:keyOf d=some k):v=kV k:=by
 cases d with
 | int i=>rw[aq.aL]at h;cases e;exact h
 | str cs=>rw[aq.aP]at h;cases e;exact h
 | _=>cases e
end
section
variable  {X:Cx}{a b o i:Expr}{ma mb:ME}{pos:Pos}
def JF:JE X (.Dict [] [] pos) ZF:=by
 refine JE.of Ia fun σ H Q zz=>?_;obtain⟨μ,env,st,hE,hs,hp⟩:=zz;refine λp hn=>?_;have hr:fX X.K (μ++[p]) (upd H p (.dK [])) p (.dkc []):=⟨[],qt,rfl⟩;exact hp _ _ (μ++[p]) (aZ.new hn) (hs.new hn hr) (aq.aK.mpr ⟨p,by rw[<-hs.len];simp,rfl⟩)
def zq9(hu:X.A.units+1<cLine):rF X "dict.get" (Gg X yF):=by
 rintro pins s σ H x xs v us Q I rx Ds ⟨μ,st,d,ds,hs,hx,jY,hp⟩;unfold yF at hp
 split at hp
 ·rename_i n k dd
  split at hp
  ·rename_i kvs kk e1 e2;obtain⟨p,q1,rfl⟩:=aq.aK.mp hx;obtain⟨y,z,rfl,q2,q5⟩:=ao.two jY;obtain rfl:=q2.key e2;obtain⟨p',ws,r1,r2,r3⟩:=hs.dkc e1;rw[q1]at r1;cases r1;cases Ds with
   | cons ry rr =>
    cases rr with
    | cons rz rr =>
     cases rr;obtain rfl:v=Value.ref p:=rx;refine Xv hu I (qi.k r2) ry rz λw' s' I' zx=>⟨_,H,I',zx,?_⟩;rcases r3.valN (k:=kk) with⟨z1,z2⟩ | ⟨d',v',z1,z2,z3⟩
     ·rw[z1]at hp;rw[z2];exact hp.ret hs q5
     ·rw[z1]at hp;rw[z2];exact hp.ret hs z3
  ·exact hp.elim
 ·exact hp.elim
def aau(hu:X.A.units+1<cLine):wB X (Ay X lN):=by
 rintro pins s σ H o i v ov iv u Q I ro ri rv ⟨μ,st,d1,d2,d3,hs,h1,h2,h3,hp⟩;unfold lN at hp
 split at hp
 ·rename_i n k d
  split at hp
  ·rename_i kvs kk e1 e2
   split at hp
   ·rename_i hl;obtain⟨p,q1,rfl⟩:=aq.aK.mp h1;obtain rfl:=h2.key e2;obtain⟨p',ws,r1,r2,r3⟩:=hs.dkc e1;rw[q1]at r1;cases r1;obtain rfl:ov=Value.ref p:=ro;refine zno hu I (Af.k r2 (by rw[<-r3.len];exact gQ hl (by decide))) ri rv λs' I'=>⟨_,I',?_⟩;have g:Ext H (upd H p (.dK (putK ws kk v))):=Ext.mut r2 (λ_ z=>nomatch z) (λ_ _ z=>nomatch z);have g':aZ μ H μ (upd H p (.dK (putK ws kk v))):=⟨⟨[],by simp⟩,g⟩;exact hp () _ μ g' (hs.put e1 rfl rfl q1 g ⟨_,qt,(r3.putN h3).mono g'⟩) trivial
   ·exact hp.elim
  ·exact hp.elim
 ·exact hp.elim
def yN(K:PySem.W.Frag)(μ:List Addr)(H:Hp):List (D×D)->List (V×V)->Prop
 | [],vs=>vs=[]
 | (k,d)::r,vs=>∃u v s,vs=(u,v)::s/\aq K μ H k u/\aq K μ H d v/\yN K μ H r s
theorem yN.keys{K:PySem.W.Frag}{μ:List Addr}{H:Hp}:∀{ps:List (D×D)} {vs:List (V×V)} {kvs:List (Key×D)},yN K μ H ps vs->uN ps=some kvs->∃ws:List (Key×V),vs=ws.map (λkv=>(kV kv.1,kv.2))/\aH K μ H kvs ws
 | [],vs,kvs,h,e=>by cases e;cases h;exact⟨[],rfl,rfl⟩
 | (k,d)::r,vs,kvs,h,e=>by
  obtain⟨u,v,s,rfl,h1,h2,h3⟩:=h;unfold uN at e
  split at e
  ·rename_i kk l e1 e2;cases e;obtain⟨ws,rfl,q⟩:=yN.keys h3 e2;obtain rfl:=h1.key e1;exact⟨(kk,v)::ws,rfl,v,ws,rfl,h2,q⟩
  ·cases e
abbrev R7(X:Cx):Rel (List (D×D)) (List (V×V)):=fun μ H d v=>yN X.K μ H d v
def JPs(X:Cx)(pos:Pos)(keys:List (Option Expr))(values:List Expr)(m:RB):Prop :=
 ∃zu,PPs X pos keys values zu/\∀(σ:L2.St) (H:Hp) (Q:List (V×V)->Hp->Prop) (μ:List Addr) (env:aM) (st:ak),dD X.K μ H env σ->aU X.K μ H st->bJ X μ H (R7 X) Q (m env st)->wU zu σ H Q
def Bp:JPs X pos [] [] iH:=⟨[],Oj,fun σ H Q μ env st hE hs hp=>hp.ret hs rfl⟩
def zmk{k v:Expr}{ks:List (Option Expr)}{vs:List Expr}{mk mv:ME}{r:RB}(hk:JE X k mk)(hv:JE X v mv)(hr:JPs X pos ks vs r):JPs X pos (some k::ks) (v::vs) (cG mk mv r):=by
 obtain⟨zu,hp,hq⟩:=hr;refine⟨(tM X mk,tM X mv)::zu,Hz hk hv hp,fun σ H Q μ env st hE hs h=>?_⟩;refine⟨μ,env,st,hE,hs,(bJ.bind h).imp ?_⟩;rintro x H1 ⟨μ1,st1,d1,g1,bB,h1,p1⟩;refine⟨μ1,env,st1,hE.mono g1,bB,(bJ.bind p1).imp ?_⟩;rintro y H2 ⟨μ2,st2,d2,g2,ie,h2,p2⟩;refine hq σ H2 _ μ2 env st2 ((hE.mono g1).mono g2) ie ((bJ.bind p2).imp ?_);rintro ps H3 ⟨μ3,ig,d3,g3,yC,h3,p3⟩;exact p3.ret yC ⟨x,y,ps,rfl,(h1.mono g2 _).mono g3 _,h2.mono g3 _,h3⟩
def Br{keys:List (Option Expr)}{values:List Expr}{m:RB}(h:JPs X pos keys values m)(um:keys.all (·.isSome)=true:=by rfl)(hl:keys.length=values.length:=by rfl)(h0:keys≠[]:=by exact λz=>nomatch z)(h15:keys.length<=15:=by decide):JE X (.Dict keys values pos) (fV m):=by
 obtain⟨zu,hp,hq⟩:=h;refine JE.of (O2 hp um hl h0 h15) fun σ H Q zz=>?_;obtain⟨μ,env,st,hE,hs,hP⟩:=zz;refine λp hn=>?_;have hr:fX X.K (μ++[p]) (upd H p (.dK [])) p (.dkc []):=⟨[],qt,rfl⟩;have bB:=hs.new hn hr;have g0:aZ μ H (μ++[p]) (upd H p (.dK [])):=aZ.new hn;refine hq σ _ _ (μ++[p]) env (st++[.dkc []]) (hE.mono g0) bB ?_;have hP1:=bJ.mono g0 hP;refine (bJ.bind (rel:=R7 X) hP1).imp ?_;rintro ps H2 ⟨μ2,st2,d2,g2,ie,h2,p2⟩;dsimp only at p2
 split at p2
 ·rename_i kvs e1 e2
  split at p2
  ·rename_i adM;have hmu:(μ++[p])[st.length]? = some p:=by rw[<-hs.len];simp
   have SX:=g2.get hmu;obtain⟨p',ws0,r1,r2,r3⟩:=ie.dkc e2;rw[SX]at r1;cases r1;rw[aH]at r3;subst r3;obtain⟨ws,rfl,q⟩:=h2.keys e1;refine⟨r2,ws,rfl,by rw[<-q.len];exact adM,?_⟩;have g:Ext H2 (upd H2 p (.dK (jW [] ws))):=Ext.mut r2 (λ_ z=>nomatch z) (λ_ _ z=>nomatch z);have g':aZ μ2 H2 μ2 (upd H2 p (.dK (jW [] ws))):=⟨⟨[],by simp⟩,g⟩;exact p2 _ _ μ2 g' (ie.put e2 rfl rfl SX g ⟨_,qt,(q.jV (show aH X.K μ2 H2 [] [] from rfl)).mono g'⟩) (aq.aK.mpr ⟨p,SX,rfl⟩)
  ·exact p2.elim
 ·exact p2.elim
end
end M
namespace M
open PySem PySem.Spec PySem.SeqAt L2
end M
namespace L2
open PySem PySem.Spec PyProof.Rows
def P_(h:(bF P w).is k u=true):RelV (kV k) u:=by
 rw[zss]at h;rcases Ml h with⟨i,t,rfl,rfl⟩ | ⟨x,t,rfl,rfl⟩
 ·exact⟨t,rfl⟩
 ·exact⟨t,rfl⟩
theorem zpl:∀{aeL:List α} {aeK:List β},Paired F aeL aeK->∀(i:Nat) (a:α) (b:β),aeL[i]? = some a->aeK[i]? = some b->F a b
 | _,_,.nil,i,a,b,h,_=>by simp at h
 | _,_,.cons r t,0,a,b,h1,h2=>by simp at h1 h2;subst h1;subst h2;exact r
 | _,_,.cons r t,i+1,a,b,h1,h2=>zpl t i a b (by simpa using h1) (by simpa using h2)
def Itk(d:Addr)(o:Obj)(kvs:List (Key×V)):It :=
 ⟨λi H=>i<kvs.length/\H d=some (.frz o (.dK kvs)),λi H y H'=>H'=H/\∃p,kvs[i]? = some p/\y=kV p.1,λi H=>kvs.length<=i/\H d=some (.frz o (.dK kvs))⟩
def BZ(I:Inv X pins σ H s)(ho:o.data=.dict es ep)(e:H d=some (.frz o (.dK kvs))) :
  (d==sysModules)=false/\∃vs,KV kvs vs/\s.heap.DictAt (bF X.prog X.w) d vs ep:=by
 obtain⟨h1,z,hd,vs,rel,o',es',ep',h2,h3,h4,h5⟩:=(show bW X.prog X.w H s.heap d (.frz o (.dK kvs)) from I.bI d _ e);rw[h1]at h2;cases h2;rw[ho]at h4;cases h4;exact⟨hd,vs,rel,o,es,h1,h3,ho,h5⟩
def Nh{P:Program}{w:World}{K:PySem.W.Frag}{tg:Expr}(it d:Addr)(o:Obj)(es:Array DictEntry)(ep:Nat)(ho:o.data=.dict es ep)(kvs:List (Key×V)):Turn P w K tg (Itk d o kvs) [it] it (λi h=>h.IsKeyIter it d i kvs.length ep) where
 mem:=by simp
 obj:=λi h st b hb=>by
  have e:b=it:=by simpa using hb
  subst e;obtain⟨o,e,c,d⟩:=st;exact⟨o,e,λv z=>by rw[d]at z;cases z⟩
 keep:=λi h h' st k=>by
  obtain⟨o,e,c,d⟩:=st;exact⟨o,k it (by simp) o e,c,d⟩
 item:=by
  intro X hP hw hK hc i pins s σ H E I hf st hg;subst hP hw hK;obtain⟨f0,f1,f2,f3,f4,f5⟩:=hf it (by simp);obtain⟨hi,e⟩:=hg;obtain⟨hd,vs,rel,da⟩:=BZ I ho e;have hl:kvs.length=vs.length:=afb rel;obtain⟨q,hq⟩:∃q,vs[i]? = some q:=⟨_,gM (by omega)⟩;obtain⟨p,hp⟩:∃p,kvs[i]? = some p:=⟨_,gM hi⟩;have hk:p.1=q.1:=(zpl rel i p q hp hq).1;rw[hl]at st;refine wpAny_pyNext_dict_item (k:=q.1) (v:=q.2) st da hq λkey h' ik st' sb=>?_;have I1:Inv X pins σ H { s with heap:=h' }:=I.turned (t':=s.toks) (λb o hb e=>(sb.2 b hb).trans e) f0 f1 f3 f4 f5;obtain⟨o1,e1,c1,d1⟩:=id st';rw[<-hl]at st';exact⟨_,rfl,sW (s:={ s with heap:=h' }) e1 c1 d1 (by decide) ⟨kV p.1,H,I1,by rw[hk];exact P_ ik,⟨rfl,p,hp,rfl⟩,st',λb hb=>(hf b hb).1⟩⟩
 done:=by
  intro X hP hw hK hc i pins s σ H E I hf st hg;subst hP hw hK;obtain⟨f0,f1,f2,f3,f4,f5⟩:=hf it (by simp);obtain⟨hi,e⟩:=hg;obtain⟨hd,vs,rel,da⟩:=BZ I ho e;have hl:kvs.length=vs.length:=afb rel;rw[hl]at st;exact wpAny_pyNext_dict_end (I.ok.hd hc) st da (List.getElem?_eq_none (by omega)) λh' eb=>⟨rfl,I.turned (t':=s.toks) (λb o hb e=>eb b o hb e) f0 f1 f3 f4 f5⟩
 self:=λ_ _ _ _ _ st h=>wpAny_pyIter_keyiter st h
def iDk(tl:TE):TI:=fun σ H R=>tl σ H λy H1=>∃a kvs,y=.ref a/\((∃o,H1 a=some (.frz o (.dK kvs))/\R (Itk a o kvs) H1)\/(H1 a=some (.dK kvs)/\∀o,R (Itk a o kvs) (upd H1 a (.frz o (.dK kvs)))))
def aaR{X:Cx}{tg l:Expr}{tl:TE}(hl:PE X l tl):PI X tg l (iDk tl):=by
 intro pins s σ H R I h;refine cI (hl pins s σ H _ I h) λv s1 zz=>?_;obtain⟨y,H1,I1,r1,q1⟩:=zz;obtain⟨a,kvs,rfl,q⟩:=q1;cases (show v=Value.ref a from r1);have key:∀(H2:Hp) (o:Obj),Inv X pins σ H2 s1->H2 a=some (.frz o (.dK kvs))->R (Itk a o kvs) H2->wpAny (model X.prog X.w) X.A (pyIter (.ref a)) (PIE X pins σ tg R) X.xe s1:=λH2 o I2 e2 r2=>by
  obtain⟨h1,z,hd,vs,rel,o',es,ep,h2,h3,h4,h5⟩:=(show bW X.prog X.w H2 s1.heap a (.frz o (.dK kvs)) from I2.bI a _ e2);rw[h1]at h2;cases h2;have hl:kvs.length=vs.length:=afb rel;refine wpAny_pyIter_dict (knd:=bF X.prog X.w) (kvs:=vs) (ep:=ep) hd ⟨o,es,h1,h3,h4,h5⟩ ?_;refine⟨s1.heap.objs.size,[s1.heap.objs.size],_,_,H2,rfl,I2.kept (t':=s1.toks) λb u e=>gF _ e,Nh _ a o es ep h4 kvs,⟨_,gZ _ rfl,rfl,by rw[hl];rfl⟩,λb hb=>?_,r2⟩;have e:b=s1.heap.objs.size:=by simpa using hb
  subst e;exact I2.uV (gb _) (I2.bI.fresh (gb _))
 rcases q with⟨o,e,r⟩ | ⟨e,r⟩
 ·exact key H1 o I1 e r
 ·obtain⟨z,hd,vs,rel,o,es,ep,h2,h3⟩:=(show bW X.prog X.w H1 s1.heap a (.dK kvs) from I1.bI a _ e);have new:bW X.prog X.w (upd H1 a (.frz o (.dK kvs))) s1.heap a (.frz o (.dK kvs)):=⟨h2,z,hd,vs,rel,o,es,ep,h2,h3⟩;exact key (upd H1 a (.frz o (.dK kvs))) o (I1.write (x:=a) (e:=a) (t':=s1.toks) (h':=s1.heap) (by rw[e];trivial) (.inl rfl) (λb u _ z=>z) ⟨o,h2⟩ new) qt (r o)
end L2
namespace M
open PySem PySem.Spec L2
def xx:Key->D
 | .inl i=>.int i
 | .inr x=>.str x.cps.toList
def Tq(m:ME):MI:=λenv st=>(m env st).bind λd st1=>match d with
 | .loc n=>(match st1[n]? with
  | some (.dkc kvs)=>.ok (kvs.map (λp=>xx p.1),[]) (st1.set n (.dkf kvs))
  | some (.dkf kvs)=>.ok (kvs.map (λp=>xx p.1),[]) st1
  | _=>.bad)
 | _=>.bad
def vm:D->D->ak->R D
 | .loc n,k,st=>match st[n]?,keyOf k with
  | some (.dkc kvs),some kk=>(match valN kvs kk with | some d=>.ok d st | none=>.bad)
  | some (.dkf kvs),some kk=>(match valN kvs kk with | some d=>.ok d st | none=>.bad)
  | _,_=>.bad
 | _,_,_=>.bad
section
variable  {X:Cx}{tg l a b:Expr}{ml ma mb:ME}{μ:List Addr}{H:Hp}{K:PySem.W.Frag}{st:ak}{pos:Pos}
def aq.xx(k:Key):aq K μ H (M.xx k) (kV k):=by
 cases k with
 | inl i=>exact aq.aL.mpr rfl
 | inr x=>exact aq.aP.mpr (by show V.str x=V.str (strOf x.cps.toList);simp[strOf])
theorem aH.Sw:∀{kvs:List (Key×D)} {ws:List (Key×V)},aH K μ H kvs ws->kvs.length=ws.length/\∀(i:Nat) (p:Key×D) (q:Key×V),kvs[i]? = some p->ws[i]? = some q->p.1=q.1
 | [],_,h=>by cases h;exact⟨rfl,λi p q h1=>by simp at h1⟩
 | (k,d)::r,_,⟨v,s,rfl,h1,h2⟩=>by
  obtain⟨l,hk⟩:=aH.Sw h2;refine⟨by simp[l],λi p q e1 e2=>?_⟩;cases i with
  | zero=>simp at e1 e2;subst e1;subst e2;rfl
  | succ i=>exact hk i p q (by simpa using e1) (by simpa using e2)
def Bv{a:Addr}{o:Obj}{kvs:List (Key×D)}{ws:List (Key×V)}(e:H a=some (.frz o (.dK ws)))(h:aH X.K μ H kvs ws):oA X μ H (Itk a o ws) (kvs.map (λp=>M.xx p.1),[]):=by
 intro H' μ' st' g hs ok;obtain⟨hl,hk⟩:=h.Sw;have e':=g.ext.frz _ _ _ e;refine⟨λi d ed=>?_,⟨by simp[hl],e'⟩⟩;rw[gP]at ed;obtain⟨p,e1,rfl⟩:=ni.mp ed;have hi:=(gf.mp e1).1;refine⟨⟨by omega,e'⟩,?_⟩;rintro x Cz ⟨rfl,q,hq,rfl⟩;refine⟨.refl _ _,hs,?_⟩;rw[hk i p q e1 hq];exact aq.xx _
def aU.fY{n:Nat}{mo Sq:MO}{a:Addr}{o':HO}(h:aU K μ H st)(hn:st[n]? = some mo)(hm:mo.mut=true)(ha:μ[n]? = some a)(g:Ext H (upd H a o'))(new:fX K μ (upd H a o') a Sq):aU K μ (upd H a o') (st.set n Sq):=by
 have hl:=(gf.mp hn).1;refine⟨by simp[h.len],λk ok e=>?_,λi j b oi oj ei ej mi mj hi hj=>?_⟩
 ·by_cases hk:n=k
  ·subst hk;rw[k_ hl]at e;cases e;exact⟨a,ha,new⟩
  ·rw[gR hk]at e;obtain⟨b,h1,h2⟩:=h.at_ k ok e;refine⟨b,h1,h2.keep ⟨⟨[],by simp⟩,g⟩ λhmk u q=>?_⟩;rw[iC (λe2=>?_)]
   ·exact q
   ·subst e2;exact hk (h.uniq n k b mo ok hn e hm hmk ha h1)
 ·have key:∀(k:Nat) (ok:MO),(st.set n Sq)[k]? = some ok->ok.mut=true->∃ok',st[k]? = some ok'/\ok'.mut=true:=λk ok ek mk=>by
   by_cases hk:n=k
   ·subst hk;exact⟨mo,hn,hm⟩
   ·rw[gR hk]at ek;exact⟨ok,ek,mk⟩
  obtain⟨oi',ei',mi'⟩:=key i oi ei mi;obtain⟨oj',ej',mj'⟩:=key j oj ej mj;exact h.uniq i j b oi' oj' ei' ej' mi' mj' hi hj
def aa8(hl:JE X l ml):JI X tg l (Tq ml):=by
 refine JI.of (aaR hl) fun σ H R zz=>?_;obtain⟨μ,env,st,hE,hs,hp⟩:=zz;refine⟨μ,env,st,hE,hs,(bJ.bind hp).imp ?_⟩;rintro v H1 ⟨μ1,st1,d,g1,bB,hv,aR⟩;dsimp only at aR
 split at aR
 ·rename_i n;obtain⟨a,q1,rfl⟩:=aq.aK.mp hv
  split at aR
  ·rename_i kvs e1;obtain⟨a',ws,r1,r2,r3⟩:=bB.dkc e1;rw[q1]at r1;cases r1;refine⟨a,ws,rfl,.inr ⟨r2,λo=>?_⟩⟩;have g:Ext H1 (upd H1 a (.frz o (.dK ws))):=Ext.mut r2 (λ_ z=>nomatch z) (λ_ _ z=>nomatch z);have g':aZ μ1 H1 μ1 (upd H1 a (.frz o (.dK ws))):=⟨⟨[],by simp⟩,g⟩;exact aR _ _ μ1 g' (bB.fY e1 rfl q1 g ⟨ws,o,qt,r3.mono g'⟩) (Bv qt (r3.mono g'))
  ·rename_i kvs e1;obtain⟨a',r1,ws,o,r2,r3⟩:=bB.at_ n _ e1;rw[q1]at r1;cases r1;exact⟨a,ws,rfl,.inl ⟨o,r2,aR _ _ _ (.refl _ _) bB (Bv r2 r3)⟩⟩
  ·exact aR.elim
 ·exact aR.elim
def Wm(hu:X.A.units+1<cLine)(ha:JE X a ma)(hb:JE X b mb)(hs:XM b:=by exact λ_ _=>rfl):JE X (.Subscript a b pos) (aF vm ma mb):=by
 refine JE.of (O4 hu ha hb hs) fun σ H Q h=>?_;obtain⟨μ,env,st,hE,hs,hp⟩:=ZQ h;refine⟨μ,env,st,hE,hs,hp.imp ?_⟩;rintro x H1 ⟨μ1,env1,st1,hE1,bB,aR⟩;refine⟨μ1,env1,st1,hE1,bB,aR.imp ?_⟩;rintro y H2 ⟨μ2,st2,dx,dy,ie,hx,hy,dH⟩;unfold vm at dH
 split at dH
 ·rename_i n k
  split at dH
  ·rename_i kvs kk e1 e2;obtain⟨p,q1,rfl⟩:=aq.aK.mp hx;obtain rfl:=hy.key e2;obtain⟨p',ws,r1,r2,r3⟩:=ie.dkc e1;rw[q1]at r1;cases r1;rcases r3.valN (k:=kk) with⟨z1,z2⟩ | ⟨d',v',z1,z2,z3⟩
   ·rw[z1]at dH;exact dH.elim
   ·rw[z1]at dH;exact⟨p,v',rfl,by rw[<-z2];exact qi.k r2,dH.ret ie z3⟩
  ·rename_i kvs kk e1 e2;obtain⟨p,q1,rfl⟩:=aq.aK.mp hx;obtain rfl:=hy.key e2;obtain⟨p',r1,ws,o,r2,r3⟩:=ie.at_ _ _ e1;rw[q1]at r1;cases r1;rcases r3.valN (k:=kk) with⟨z1,z2⟩ | ⟨d',v',z1,z2,z3⟩
   ·rw[z1]at dH;exact dH.elim
   ·rw[z1]at dH;exact⟨p,v',rfl,.inl ⟨ws,kk,.inr ⟨o,r2⟩,rfl,z2.symm⟩,dH.ret ie z3⟩
  ·exact dH.elim
 ·exact dH.elim
end
end M
namespace L2
open PySem PySem.Spec PyProof.Rows
end L2
namespace M
open PySem PySem.Spec L2
def adt(tb:List (List Nat×D)):List (Key×D):=tb.map λp=>(Sum.inr (strOf p.1),p.2)
structure aet(w:World)(K:PySem.W.Frag)(a:Addr)(tb:List (List Nat×D)):Prop where
 low:(a==sysModules)=false
 at_:∀P:Program,∃(kvs:List (Key×V)) (vs:List (Key×Value)) (ep:Nat),(∀μ H,aH K μ H (adt tb) kvs)/\KV kvs vs/\∀h:Heap,K.In h->h.DictAt (bF P w) a vs ep
inductive Rws (K:PySem.W.Frag) (w:World):List DictEntry->List (List Nat×D)->Prop
 | nil:Rws K w [] []
 | i {h:Int} {x:Str} {t u:Tok} {cs:List Nat} {n:Int} {es:List DictEntry} {tb:List (List Nat×D)} (hx:x=strOf cs) (hh:h=aa6 w (.inr x)) (r:Rws K w es tb):Rws K w (⟨h,.str x t,.int n u⟩::es) ((cs,.int n)::tb)
section
variable  {X:Cx}{tg b:Expr}{mb:ME}{pos pos':Pos}{x:Str}{tb:List (List Nat×D)}
end
end M
namespace M
open PySem PySem.Spec PySem.SeqAt L2
noncomputable def sZ:List D->ak->R D
 | [.loc n],st=>match st[n]? with | some (.dkc kvs)=>.ok (.loc st.length) (st++[.dkc kvs]) | _=>.bad
 | _,_=>.bad
section
variable  {X:Cx}{L:Nat}
def zp9:cB X (.type "dict") (Mr X sZ):=by
 rintro pins s σ H xs us Q I rv ⟨μ,st,ds,hs,hv,hp⟩;unfold sZ at hp
 split at hp
 ·rename_i n
  split at hp
  ·rename_i kvs e;obtain⟨v,rfl,q⟩:=ao.one hv;obtain⟨p,q1,rfl⟩:=aq.aK.mp q;obtain⟨u,rfl,ru⟩:=rv.one;cases ru;obtain⟨p',ws,r1,r2,r3⟩:=hs.dkc e;rw[q1]at r1;cases r1;refine KZ I (.inl r2) λl s' hn I'=>⟨.ref l,_,I',rfl,?_⟩;have g:=aZ.new (μ:=μ) (o:=.dK ws) hn;have hr:fX X.K (μ++[l]) (upd H l (.dK ws)) l (.dkc kvs):=⟨ws,qt,r3.mono g⟩;exact hp _ _ (μ++[l]) g (hs.new hn hr) (aq.aK.mpr ⟨l,by rw[<-hs.len];simp,rfl⟩)
  ·exact hp.elim
 ·exact hp.elim
end
end M
namespace M
open PySem PySem.Spec L2
section
variable  {X:Cx}{b:Expr}{mb:ME}{x:Str}{tb:List (List Nat×D)}{dz apos pos':Pos}
end
end M
namespace L2
open PySem PySem.Spec PyProof.Rows
section
variable  {prog:Program}{w:World}{A:Around}{E:Value->Shared->Prop}{s:Shared}{d:Addr}{o:Obj}{es:Array DictEntry}{ep:Nat}
def zlf(hd:(d==sysModules)=false):MeetsIn prog w (Builtin.«dict.__len__» ⟨[.ref d],[]⟩) (λ_ R s=>∃o es ep,s.heap.get? d=some o/\o.data=.dict es ep/\R (.ok (.ret (.int es.size s.toks))) { s with toks:=s.toks+1 }) :=
 .of_wp λA R s zz=>by
  obtain⟨o,es,ep,ho,Xf,h⟩:=zz;show wpAny _ _ (dictSize d >>= _) _ _ s;unfold dictSize;refine aeS (aeS (wpAny_dictEntries ho Xf (aeV ?_)));show wpAny _ _ (Builtin.Dict.pendingCount d >>= _) _ _ s;refine aeS (wpAny_pendingCount_other hd ?_);refine wpAny_ret_mkInt ?_;simpa using h
def PK(hd:(d==sysModules)=false)(ho:s.heap.get? d=some o)(hx:o.ExactDict)(Xf:o.data=.dict es ep)(aeB:(es.size:Int)<2 ^ 63) 
  (h:Q (.int es.size (s.toks+1)) { s with toks:=s.toks+1+1 }):wpAny (model prog w) A (call (.builtin "len") [.ref d]) Q E s:=by
 have hT:s.TypeIs (.ref d) "dict":=⟨o,ho,hx.1⟩;refine Calls.call_function_entry PySem.kind_len PySem.plain_len PySem.entry_len (PySem.args_len1 _) ?_;unfold Builtin.«len»;refine aeS (m:=oneArg "len" _) (aeV ?_);refine aeS (m:=callSpecial? (.ref d) (Str.ofString "__len__")) (afa (name:=Str.ofString "__len__") hT F.slot_dict_len
  (afA F.slot_dict_len hT F.entry_dict_len (F.args_dict_len_1 _) (zlf hd) ⟨o,es,ep,ho,Xf,?_⟩))
 show wpAny _ _ _ _ _ { s with toks:=s.toks+1 };refine aeS (afo (aeV ?_));refine aeS (wpAny_letGo ?_);show wpAny _ _ (if (es.size:Int)<0 then _ else _) _ _ _;rw[aeU (by omega)];show wpAny _ _ (if (es.size:Int) ≥ 2 ^ 63 then _ else _) _ _ _;rw[aeU (by omega)];exact aeS (wpAny_mkInt (aeV ⟨_,rfl,h⟩))
end
end L2
namespace M
open PySem PySem.Spec L2
section
variable  {K:PySem.W.Frag}{μ ν:List Addr}{H H':Hp}{st st':ak}
end
def wC(f:Str)(d:D):List (Str×D)->List (Str×D)
 | []=>[(f,d)]
 | (g,x)::r=>if g=f then (g,d)::r else (g,x)::wC f d r
def cV(c f:Str)(m:ME):ME:=λenv st=>(m env st).bind λd st1=>match d with
 | .loc n=>(match st1[n]? with
  | some (.ins c' fs)=>if c'=c then (match fs.lookup f with | some x=>.ok x st1 | none=>.bad) else .bad
  | _=>.bad)
 | _=>.bad
def cD(c f:Str)(mo mv:ME):MS:=λenv st=>(mv env st).bind λd st1=>(mo env st1).bind λx st2=>match x with
 | .loc n=>(match st2[n]? with
  | some (.ins c' fs)=>if c'=c/\fs.length<1000 then .ok (.nx env) (st2.set n (.ins c (wC f d fs))) else .bad
  | _=>.bad)
 | _=>.bad
def jK(c:Str)(F:FD)(mA:MA):ME:=λenv st=>(mA env st).bind λas st1=>((F (.loc st1.length::as) (st1++[.ins c []])).sure).bind λd st2=>match d with
 | .non=>.ok (.loc st1.length) st2
 | _=>.bad
def Be(c m:Str)(F:FD)(mo:ME)(mA:MA):ME:=λenv st=>(mo env st).bind λx st1=>match x with
 | .loc n=>(match st1[n]? with
  | some (.ins c' fs)=>if c'=c/\fs.lookup m=none then (mA env st1).bind λas st2=>(match st2[n]? with
   | some (.ins _ _)=>(F (.loc n::as) st2).sure
   | _=>.bad) else .bad
  | _=>.bad)
 | _=>.bad
def dj:List D->ak->R D
 | [.loc n],st=>(match st[n]? with
  | some (.dic kvs)=>.ok (.int kvs.length) st
  | some (.dkc kvs)=>.ok (.int kvs.length) st
  | _=>wg [.loc n] st)
 | ds,st=>wg ds st
section
variable  {X:Cx}{K:PySem.W.Frag}{μ:List Addr}{H:Hp}{e o a b value:Expr}{es:List Expr}{me mo mv ma mb:ME}{mA:MA}{pos pos' apos p:Pos}{c f m x:Str}{C g:Addr}{F:FD}{fd:FuncData}{ps:List Str}{k:Nat}
theorem aH.look:∀{fs:List (Str×D)} {ws:List (Str×V)},aH K μ H fs ws->(fs.lookup f=none/\ws.lookup f=none)\/∃d v,fs.lookup f=some d/\ws.lookup f=some v/\aq K μ H d v
 | [],ws,h=>by rw[aH]at h;subst h;exact .inl ⟨rfl,rfl⟩
 | (j,d)::r,ws,h=>by
  obtain⟨v,r',rfl,h1,h2⟩:=h;by_cases q:f=j
  ·subst q;exact .inr ⟨d,v,by simp[List.lookup],by simp[List.lookup],h1⟩
  ·have q':(f==j)=false:=by simpa using q
   simp only[List.lookup,q'];exact aH.look h2
theorem aH.fY(hv:aq K μ H d v):∀{fs:List (Str×D)} {ws:List (Str×V)},aH K μ H fs ws->aH K μ H (wC f d fs) (L2.fY f v ws)
 | [],ws,h=>by rw[aH]at h;subst h;exact⟨v,[],rfl,hv,rfl⟩
 | (j,d')::r,ws,h=>by
  obtain⟨v',r',rfl,h1,h2⟩:=h;unfold wC L2.fY;by_cases q:j=f
  ·rw[aeT q,aeT q];exact⟨v,r',rfl,hv,h2⟩
  ·rw[aeU q,aeU q];exact⟨v',_,rfl,h1,aH.fY hv h2⟩
def Wq(h0:PySem.W.nsIn X.K mainGlobals c=some (some (.ref C)))(hc:CJ X.K C)(hn:iQ X.K C f)(he:JE X e me)(hb:attributeBase e f X.env (eval e X.env)=eval e X.env:=by rfl):JE X (.Attribute e f pos) (cV c f me):=by
 refine JE.of (Vu he hb) fun σ H Q zz=>?_;obtain⟨μ,env,st,hE,hs,hp⟩:=zz;refine⟨μ,env,st,hE,hs,(bJ.bind hp).imp ?_⟩;rintro v H1 ⟨μ1,st1,d,g1,bB,hx,aR⟩;dsimp only at aR
 split at aR
 ·rename_i n
  split at aR
  ·rename_i c' fs e1
   split at aR
   ·rename_i ec;subst ec;obtain⟨p,q1,rfl⟩:=aq.aK.mp hx;obtain⟨p',r1,C',dx,ws,r2,r3,r4⟩:=bB.at_ n _ e1;rw[q1]at r1;cases r1;rw[h0]at r2;cases r2;rcases r4.look (f:=f) with⟨z1,z2⟩ | ⟨d',v',z1,z2,z3⟩
    ·rw[z1]at aR;exact aR.elim
    ·rw[z1]at aR;exact⟨p,C,dx,ws,v',rfl,r3,hc,hn,z2,aR.ret bB z3⟩
   ·exact aR.elim
  ·exact aR.elim
 ·exact aR.elim
def zT(h0:PySem.W.nsIn X.K mainGlobals c=some (some (.ref C)))(hc:CJ X.K C)(hn:iQ X.K C f)(ho:JE X o mo)(hv:JE X value mv)(hs:swapsWith value (some (.Attribute o f pos')) pos.line X.env=pure false:=by rfl) :
  JS X (.Assign [.Attribute o f pos'] value pos) (cD c f mo mv):=by
 refine JS.of (Vg ho hv hs) λE σ H zz=>?_;obtain⟨μ,env,st,hE,hs,hp⟩:=zz;refine⟨μ,env,st,hE,hs,hp.val.imp ?_⟩;rintro y H1 ⟨μ1,st1,d,g1,bB,hy,aR⟩;refine⟨μ1,env,st1,hE.mono g1,bB,aR.val.imp ?_⟩;rintro z H2 ⟨μ2,st2,d2,g2,ie,hz,dH⟩
 try dsimp only at dH
 split at dH
 ·rename_i n
  split at dH
  ·rename_i c' fs e1
   split at dH
   ·rename_i ec;obtain⟨ec,hl⟩:=ec;subst ec;obtain⟨p,q1,rfl⟩:=aq.aK.mp hz;obtain⟨p',r1,C',dx,ws,r2,r3,r4⟩:=ie.at_ n _ e1;rw[q1]at r1;cases r1;rw[h0]at r2;cases r2;have hll:ws.length<1000:=by rw[<-r4.len];exact hl
    have gg:Ext H2 (upd H2 p (.ins C dx (L2.fY f y ws))):=Ext.mut r3 (λ_ z=>nomatch z) (λ_ _ z=>nomatch z);have g':aZ μ2 H2 μ2 (upd H2 p (.ins C dx (L2.fY f y ws))):=⟨⟨[],by simp⟩,gg⟩;refine⟨p,C,dx,ws,rfl,r3,hc,hn,hll,dH σ _ μ2 g' (ie.put e1 rfl rfl q1 gg ⟨C,dx,_,h0,qt,(r4.fY (hy.mono g2 _)).mono g'⟩) (((hE.mono g1).mono g2).mono g')⟩
   ·exact dH.elim
  ·exact dH.elim
 ·exact dH.elim
def zsu(h0:PySem.W.nsIn X.K mainGlobals c=some (some (.ref C)))(MK:Mk X.K C g)(G:cu X.prog X.w X.K X.mg X.base qj k g fd ps (vh X.K ps.length F))(hr:cH (k+1) X.A)(hm:X.mg c=some (.ref C))(hb:Binds X.K fd ps [])(ha:JA X (e::es) mA)
  (hlen:(e::es).length+1=ps.length:=by rfl) (hg:Gl X c:=by rfl) (qU:(c==("__debug__":Str))=false:=by decide) (he:starEach (e::es) X.env=(false,eval e X.env)::starEach es X.env:=by rfl) (oJ:(backTo pos (starEach es X.env)).any (·.1)=false:=by rfl)
  (hA:∀env st as st1,mA env st=.ok as st1->as.length=(e::es).length:=by intros;rfl):JE X (.Call (.Name c p) (e::es) [] pos) (jK c F mA):=by
 refine JE.of (OJ MK G hr hg hm hb .nil Ba ha qU he oJ) fun σ H Q zz=>?_;obtain⟨μ,env,st,hE,hs,hp⟩:=zz;refine⟨μ,env,st,hE,hs,?_⟩;cases hq:mA env st with
 | bad=>unfold jK at hp;rw[hq]at hp;exact hp
 | err y st1=>unfold jK at hp;rw[hq]at hp;exact hp
 | ok as st1 =>
  unfold jK at hp;rw[hq]at hp;intro vs H1 μ1 g1 bB hv x dx hx hdx oK;have QC:upd H1 dx (.own x) x=none:=by rw[iC (ae4 oK)];exact hx
  have ext1:Ext H1 (upd H1 dx (.own x)):=Ext.new hdx;have gd:aZ μ1 H1 μ1 (upd H1 dx (.own x)):=⟨⟨[],by simp⟩,ext1⟩;have ie:aU X.K μ1 (upd H1 dx (.own x)) st1:=bB.lay hdx;have WX:fX X.K (μ1++[x]) (upd (upd H1 dx (.own x)) x (.ins C dx [])) x (.ins c []):=⟨C,dx,[],h0,qt,rfl⟩;have yC:=ie.new QC WX;have gn:aZ μ1 (upd H1 dx (.own x)) (μ1++[x]) (upd (upd H1 dx (.own x)) x (.ins C dx [])):=aZ.new QC;have hv3:ao X.K (μ1++[x]) (upd (upd H1 dx (.own x)) x (.ins C dx [])) (.loc st1.length::as) (.ref x::vs):=ao.cons (aq.aK.mpr ⟨x,by rw[<-bB.len];simp,rfl⟩) ((hv.mono gd _).mono gn _);have J6:(V.ref x::(vs++[])).length=ps.length:=by
   have:=hA env st as st1 hq;have:=hv.length;simp only[gB,gC]at *;omega
  rw[gB]at J6 ⊢;refine⟨J6,μ1++[x],.loc st1.length::as,st1++[.ins c []],hv3,yC,?_⟩;cases hF:F (.loc st1.length::as) (st1++[.ins c []]) with
  | bad=>rw[R.aB,hF]at hp;exact hp.elim
  | err y st2=>rw[R.aB,hF]at hp;exact hp.elim
  | ok d st2 =>
   rw[R.aB,hF]at hp;intro v H' μ' g' pX hvd;have adS:aZ μ H μ' H':=(g1.trans gd).trans (gn.trans g');cases d with
   | non =>
    refine⟨aq.bD.mp hvd,hp (.ref x) H' μ' adS pX (aq.aK.mpr ⟨x,g'.get (by rw[<-bB.len];simp),rfl⟩)⟩
   | _=>exact hp.elim
def JB{pl:Sem Bool}(h0:PySem.W.nsIn X.K mainGlobals c=some (some (.ref C)))(hc:CJ X.K C)(hm:Meth X.K C m g)(G:cu X.prog X.w X.K X.mg X.base qj k g fd ps (vh X.K ps.length F))(hr:cH k X.A)(hb:Binds X.K fd ps [])(ho:JE X o mo)(ha:JA X (e::es) mA)
  (hlen:(e::es).length+1=ps.length:=by rfl) (Em:starEach (e::es) X.env=(false,eval e X.env)::starEach es X.env:=by rfl) (oJ:(backTo pos (starEach es X.env)).any (·.1)=false:=by rfl)
  (ht:eval (.Call (.Attribute o m apos) (e::es) [] pos) X.env=(do
   let ov <-eval o X.env
   standAt apos.atName
   let (f,first) <-holding [ov] (getMethod ov m pl)
   callWith pos f first (backTo pos (starEach (e::es) X.env)) (backToKw pos (keywordEach [] X.env))):=by rfl)
  (hA:∀env st as st1,mA env st=.ok as st1->as.length=(e::es).length:=by intros;rfl):JE X (.Call (.Attribute o m apos) (e::es) [] pos) (Be c m F mo mA):=by
 refine JE.of (OD ho hc hm G hr hb .nil Ba ha Em oJ ht) fun σ H Q zz=>?_;obtain⟨μ,env,st,hE,hs,hp⟩:=zz;refine⟨μ,env,st,hE,hs,(bJ.bind hp).imp ?_⟩;rintro v H1 ⟨μ1,st1,d,g1,bB,hx,aR⟩;dsimp only at aR
 split at aR
 ·rename_i n
  split at aR
  ·rename_i c' fs e1
   split at aR
   ·rename_i ec;obtain⟨ec,hl⟩:=ec;subst ec;obtain⟨p,q1,rfl⟩:=aq.aK.mp hx;obtain⟨p',r1,C',dx,ws,r2,r3,r4⟩:=bB.at_ n _ e1;rw[q1]at r1;cases r1;rw[h0]at r2;cases r2;have J6:ws.lookup m=none:=by
     rcases r4.look (f:=m) with⟨_,z2⟩ | ⟨d',v',z1,_,_⟩
     ·exact z2
     ·rw[hl]at z1;cases z1
    refine⟨p,dx,ws,rfl,r3,J6,μ1,env,st1,hE.mono g1,bB,?_⟩;cases hq:mA env st1 with
    | bad=>rw[hq]at aR;exact aR
    | err y st2=>rw[hq]at aR;exact aR
    | ok as st2 =>
     rw[hq,R.aB]at aR;intro vs H2 μ2 g2 ie hv
     split at aR
     ·rename_i c2 fs2 e2;have hv3:ao X.K μ2 H2 (.loc n::as) (.ref p::vs):=ao.cons (aq.aK.mpr ⟨p,g2.get q1,rfl⟩) hv;have hll:(V.ref p::(vs++[])).length=ps.length:=by
       have:=hA env st1 as st2 hq;have:=hv.length;simp only[gB,gC]at *;omega
      rw[gB]at hll ⊢;refine⟨hll,μ2,.loc n::as,st2,hv3,ie,?_⟩;cases hF:F (.loc n::as) st2 with
      | bad=>rw[hF]at aR;exact aR.elim
      | err y ig=>rw[hF]at aR;exact aR.elim
      | ok d ig =>
       rw[hF]at aR;intro v H' μ' g' pX hvd;exact aR v H' μ' (g2.trans g') pX hvd
     ·exact aR.elim
   ·exact aR.elim
  ·exact aR.elim
 ·exact aR.elim
def Fl:cB X (.builtin "len") (Mr X dj):=by
 rintro pins s σ H xs us Q I rv ⟨μ,st,ds,hs,hv,hp⟩;unfold dj at hp
 split at hp
 ·rename_i n
  split at hp
  ·rename_i kvs e1;obtain⟨v,rfl,q⟩:=ao.one hv;obtain⟨p,q1,rfl⟩:=aq.aK.mp q;obtain⟨u,rfl,ru⟩:=rv.one;cases ru;obtain⟨p',ws,r1,r2,r3⟩:=hs.dic e1;rw[q1]at r1;cases r1;obtain⟨z,y,xs,r,o,es,ep,h1,h2,h3,h4,h5⟩:=(show bW X.prog X.w H s.heap p (.dT ws) from I.bI p _ r2);have hl:es.size=kvs.length:=by
    rw[r3.len,afb r,<-nR,h4,gq]
   refine PK y h1 h2 h3 (by rw[hl,r3.len];rw[afv]at z;omega) ?_;rw[hl];exact⟨.int kvs.length,H,I.tok _,⟨_,rfl⟩,hp.ret hs (aq.aL.mpr rfl)⟩
  ·rename_i kvs e1;obtain⟨v,rfl,q⟩:=ao.one hv;obtain⟨p,q1,rfl⟩:=aq.aK.mp q;obtain⟨u,rfl,ru⟩:=rv.one;cases ru;obtain⟨p',ws,r1,r2,r3⟩:=hs.dkc e1;rw[q1]at r1;cases r1;refine abH I (.inl r2) λt s' I'=>?_;rw[<-r3.len];exact⟨.int kvs.length,H,I',⟨_,rfl⟩,hp.ret hs (aq.aL.mpr rfl)⟩
  ·exact zn8 pins s σ H xs us Q I rv ⟨μ,st,_,hs,hv,hp⟩
 ·exact zn8 pins s σ H xs us Q I rv ⟨μ,st,_,hs,hv,hp⟩
end
end M
namespace M
open PySem
def xR:Stmt->List Stmt
 | .ClassDef _ _ _ body _ _ _ _ _ _ _=>body
 | _=>[]
end M
namespace L2
open PySem PySem.Spec PyProof.Rows
def Fi(hc:X.A.handled=none):cB X (.builtin "sum") (λxs H Q=>∃(p:Addr) (ns:List Int),xs=[.ref p]/\oG X.K H p (ns.map V.int)/\Q (.int ns.sum) H):=by
 rintro pins s σ H xs us Q I hr ⟨p,ns,rfl,hq,h⟩;cases hr with
 | cons r1 r2 =>
  cases r2;cases r1;obtain⟨its,rv,pl,hz⟩:=I.tuple hq;have hi:IntsAre its ns:=by
   have key:∀(ns:List Int) (its:List Value),Vals (ns.map V.int) its->IntsAre its ns:=by
    intro ns
    induction ns with
    | nil=>intro its h;cases h;exact .nil
    | cons n ns ih =>
     intro its h;cases h with
     | cons r1 r2 =>
      obtain⟨t,rfl⟩:=r1;exact .cons n t (ih _ r2)
   exact key ns its rv
  obtain⟨m,hm,_⟩:=id I.loc;have hl:s.heap.IsTuple p its.toArray:=pl;obtain⟨xs,hx⟩:=hi.allInts.items;have hn:numsOf its.toArray.toList=ns:=by rw[show its.toArray.toList=its from rfl,hi.numsOf]
  rw[hx]at hl hn;rw[nums_intItems]at hn;refine PySem.W.ktm_sumG hc hl λh' tk t' hk=>?_;rw[preSum_eq,pM (by simp),hn];refine⟨.int ns.sum,H,I.but (λb ob hb e=>hk b ob e) (λm' Mw=>?_),⟨t',rfl⟩,h⟩;exact ((ZP.Ko Mw).keeps hk).ns
end L2
namespace M
open PySem PySem.Spec L2
def vK:List D->ak->R D
 | [.tup ds],st=>match intsOf ds with | some ns=>.ok (.int ns.sum) st | none=>.bad
 | ds,st=>GZ ds st
def Ff(hc:X.A.handled=none):cB X (.builtin "sum") (Mr X vK):=by
 rintro pins s σ H xs us Q I rv ⟨μ,st,ds,hs,hv,hp⟩;unfold vK at hp
 split at hp
 ·rename_i l;cases e2:intsOf l with
  | none=>simp only[e2]at hp;exact hp.elim
  | some ns =>
   simp only[e2]at hp;obtain⟨v,rfl,q⟩:=ao.one hv;obtain⟨p,ys,rfl,r2,r3⟩:=aq.aQ.mp q;rw[zjh e2 r3]at r2;exact Fi hc _ _ _ _ _ _ _ I rv ⟨p,ns,rfl,r2.qK,hp.ret hs (aq.aL.mpr rfl)⟩
 ·exact Fg hc _ _ _ _ _ _ _ I rv ⟨μ,st,_,hs,hv,hp⟩
end M
namespace L2
open PySem PySem.Spec PyProof.Rows
section
variable  {P:Program}{w:World}{A:Around}{E:Value->Shared->Prop}{s:Shared}{d it:Addr}{od:Obj}{es:Array DictEntry}{i ep:Nat}
end
end L2
namespace M
open PySem PySem.Spec L2
section
variable  {X:Cx}{tg l a b:Expr}{ml ma mb:ME}{μ:List Addr}{H:Hp}{K:PySem.W.Frag}{st:ak}{pos:Pos}
end
def Ti{N P:List Str}{sc:Scope}(h1:sc.kind=.function:=by rfl)(h2:sc.isCoroutine=false:=by rfl)(h3:sc.isGenerator=false:=by rfl)(h4:N.Nodup:=by decide +kernel)(h5:N.take P.length=P:=by rfl)(h6:∀x∈P,sc.names.lookup x=some .local\/sc.names.lookup x=some .cell:=by decide +kernel)(h7:∀y∈sc.names,y.2≠.free:=by decide +kernel):cU N P sc:=⟨h1,h2,h3,h4,h5,h6,h7⟩
section
variable  {X:Cx}
def abe{k k':Nat}{f:Addr}{fd:FuncData}{ps:List Str}{F:FD}{x:Str}{e:Expr}{es:List Expr}{mA:MA}{p pos:Pos}(G:cu X.prog X.w X.K X.mg X.base qj k f fd ps (vh X.K ps.length F))(hr:cH k' X.A)(hm:X.mg x=some (.ref f))(hk:PySem.W.keepIn X.K (.ref f)=true)(hb:Binds X.K fd ps [])(ha:JA X (e::es) mA)
  (hA:∀env st as st1,mA env st=.ok as st1->as.length=(e::es).length) (W9:k<=k':=by decide) (hlen:(e::es).length+([]:List V).length=ps.length:=by rfl) (hg:Gl X x:=by rfl) (qU:(x==("__debug__":Str))=false:=by decide) (he:starEach (e::es) X.env=(false,eval e X.env)::starEach es X.env:=by rfl) (oJ:(backTo pos (starEach es X.env)).any (·.1)=false:=by rfl) :
  JE X (.Call (.Name x p) (e::es) [] pos) (az F [] mA):=Qn (G.mono W9) hr hm hk hb .nil (λ_ _=>ao.nil) ha hlen hg qU he oJ hA
def zU{o e:Expr}{mo:ME}{mA:MA}{apos dz:Pos}(ho:JE X o mo)(ha:JA X [e] mA)(qX:attributeBase o "append" X.env (eval o X.env)=eval o X.env:=by rfl)
  (Er:((backTo dz (starEach [e] X.env)).all (λx=>!x.1) && (backToKw dz (keywordEach [] X.env)).all (λx=>x.1.isSome)
   && decide ([e].length+([]:List Keyword).length+(if ([]:List Keyword).isEmpty then 0 else 1)<30))=true:=by rfl)
  (hline:(apos.endLine==dz.line)=true:=by rfl) (hs:starEach [e] X.env=(false,eval e X.env)::starEach [] X.env:=by rfl) (uT:(backTo dz (starEach [] X.env)).any (·.1)=false:=by rfl):JE X (.Call (.Attribute o "append" apos) [e] [] dz) (cL "list" aV mo mA) :=
 M5 afk PySem.F.slot_list_append PySem.F.type_list_append zpx ho ha qX Er hline hs uT
end
end M
namespace L2
open PySem PySem.Spec PyProof.Rows
namespace Rv
def owner:Manifest.owners.lookup (String.ofList ['d','e','s','r','e','v','e','r'].reverse)=some Manifest.sig_reversed:=by kernel_rfl
def Dn:Slot "reversed" "__init__" "object.__init__" :=
 .of (owner:="object") (n:="__init__") (by rw[afu,afh];kernel_rfl) (by decide +kernel) (by decide +kernel) (by decide +kernel)
  (by first | exact .inl (by decide +kernel) | exact .inr (by decide +kernel)) (by rw[afB];kernel_rfl)
def slot_next:Slot "reversed" "__next__" "reversed.__next__" :=
 .of (owner:="reversed") (n:="__next__") (by rw[afu,afh];kernel_rfl) (by decide +kernel) (by decide +kernel) (by decide +kernel)
  (by first | exact .inl (by decide +kernel) | exact .inr (by decide +kernel)) (by rw[afB];kernel_rfl)
def zol:Slot "reversed" "__iter__" "reversed.__iter__" :=
 .of (owner:="reversed") (n:="__iter__") (by rw[afu,afh];kernel_rfl) (by decide +kernel) (by decide +kernel) (by decide +kernel)
  (by first | exact .inl (by decide +kernel) | exact .inr (by decide +kernel)) (by rw[afB];kernel_rfl)
def entry_next:entryFor table "reversed.__next__" = some Builtin.«reversed.__next__»:=entryFor_of_tree (by kernel_rfl)
def zr1:entryFor table "reversed.__iter__" = some Builtin.«dict_keyiterator.__iter__» :=
 entryFor_alias (id':="dict_keyiterator.__iter__") (by kernel_rfl) (by first | rfl | decide +kernel | (unfold String.splitOn;simp +decide [String.splitOnAux])) (by decide +kernel) (by kernel_rfl)
def args_next(a:Value):argsOk "reversed.__next__" ⟨[a],[]⟩:=by
 unfold argsOk;rw[signature?_of (id:="reversed.__next__") (n:=['_','_','t','x','e','n','_','_']) (o:=['d','e','s','r','e','v','e','r']) (by kernel_rfl) owner];kernel_rfl
def Fy(a:Value):argsOk "reversed.__iter__" ⟨[a],[]⟩:=by
 unfold argsOk;rw[signature?_of (id:="reversed.__iter__") (n:=['_','_','r','e','t','i','_','_']) (o:=['d','e','s','r','e','v','e','r']) (by kernel_rfl) owner];kernel_rfl
def called:TypeCalled "reversed" "reversed.__new__" "object.__init__" :=
 ⟨by decide +kernel,by decide +kernel,⟨_,_,F.mro_reversed⟩,F.made_reversed,by decide +kernel,by rw[afB];kernel_rfl,Dn⟩
def Di:typeLookup (.type "str") "__reversed__" = pure none:=by rw[afu,afh];kernel_rfl
def Df:typeLookup (.type "tuple") "__reversed__" = pure none:=by rw[afu,afh];kernel_rfl
def zqz:isSubtype (.type "tuple") (.type "dict")=pure false:=by rw[afB];kernel_rfl
def ob(q:Value)(i:Int):Obj:={ cls:=.type "reversed",data:=.fields #[q,rawInt i] }
def At(h:Heap)(a:Addr)(q:Value)(i:Int):Prop:=∃o,h.get? a=some o/\o.cls=.type "reversed"/\o.data=.fields #[q,rawInt i]
def At.typeIs{s:Shared}{a:Addr}{q:Value}{i:Int}(x:At s.heap a q i):s.TypeIs (.ref a) "reversed":=let ⟨o,ho,hc,_⟩:=x;⟨o,ho,hc⟩
section
variable  {prog:Program}{w:World}{A:Around}{E:Value->Shared->Prop}{s:Shared}
def Px(x:Str)(t:Tok)(hx:x.length<=sizeLine):MeetsIn prog w (Builtin.«reversed.__new__» ⟨[.type "reversed",.str x t],[]⟩)
  (λA R s=>R (.ok (.ret (.ref s.heap.objs.size))) { s with toks:=s.toks+2,heap:=s.heap.push (ob (.str x t) ((x.length:Int) - 1)) }) :=
 .of_wp λA R s h=>by
  have hn:=f9;unfold Builtin.«reversed.__new__»;refine aeS (ae_ (newClass_reversed _) ?_)
  try dsimp only
  refine aeS (ae_ (a:=()) (by first | rfl | kernel_rfl) ?_);refine aeS (ae_ (a:=()) (by first | rfl | kernel_rfl) ?_)
  try dsimp only
  refine aeS (aft (T:="str") (afs s x t) Di ?_)
  try dsimp only
  refine aeS (aeV ?_);rw[aeU (by decide)];refine aeS (P.len_str (by omega) ?_);refine aeS (ae_ (a:=some (x.length:Int)) rfl ?_);show wpAny _ _ (newObj (.type "reversed") (.fields #[.str x t,rawInt ((x.length:Int) - 1)]) >>= _) _ _ _;refine aeS (ae9 ?_ (by size_fits));exact aeV ⟨_,rfl,h⟩
def Pu(a:Addr)(items:Array Value):MeetsIn prog w (Builtin.«reversed.__new__» ⟨[.type "reversed",.ref a],[]⟩)
  (λA R s=>IsTup s.heap a items/\items.size<=sizeLine/\R (.ok (.ret (.ref s.heap.objs.size))) { s with toks:=s.toks+2,heap:=s.heap.push (ob (.ref a) ((items.size:Int) - 1)) }) :=
 .of_wp λA R s zz=>by
  obtain⟨ht,hx,h⟩:=zz;have hn:=f9;unfold Builtin.«reversed.__new__»;refine aeS (ae_ (newClass_reversed _) ?_)
  try dsimp only
  refine aeS (ae_ (a:=()) (by first | rfl | kernel_rfl) ?_);refine aeS (ae_ (a:=()) (by first | rfl | kernel_rfl) ?_)
  try dsimp only
  refine aeS (aft (T:="tuple") ht.typeIs Df ?_)
  try dsimp only
  refine aeS ?_;show wpAny _ _ (isInstance (.ref a) (.type "dict") >>= _) _ _ _;refine aeS (wpAny_isInstance ht.typeIs zqz ?_);show wpAny _ _ (specialOf (.ref a) "__getitem__" >>= _) _ _ _;refine aeS (aft ht.typeIs slot_tuple_getitem.lookup ?_);refine aeV ?_;rw[aeU (by decide)];refine aeS (len_tuple ht (by omega) ?_);refine aeS (ae_ (a:=some (items.size:Int)) rfl ?_);show wpAny _ _ (newObj (.type "reversed") (.fields #[.ref a,rawInt ((items.size:Int) - 1)]) >>= _) _ _ _;refine aeS (ae9 ?_ (by size_fits));exact aeV ⟨_,rfl,h⟩
def La{x:Str}{t:Tok}{Q:Value->Shared->Prop}(hx:x.length<=sizeLine)(h:Q (.ref s.heap.objs.size) { s with toks:=s.toks+2,heap:=s.heap.push (ob (.str x t) ((x.length:Int) - 1)) }) :
  wpAny (model prog w) A (call (.type "reversed") [.str x t]) Q E s :=
 callType_newIn called (by decide) (F.typeCall_reversed_1 _) (F.newCall_reversed_1 _) (λobj=>F.args_object_init_2 obj _) F.entry_reversed_new (Px x t hx) ⟨⟨_,gZ _ rfl,rfl⟩,h⟩
def K_{a:Addr}{items:Array Value}{Q:Value->Shared->Prop}(ht:IsTup s.heap a items)(hx:items.size<=sizeLine)(h:Q (.ref s.heap.objs.size) { s with toks:=s.toks+2,heap:=s.heap.push (ob (.ref a) ((items.size:Int) - 1)) }) :
  wpAny (model prog w) A (call (.type "reversed") [.ref a]) Q E s :=
 callType_newIn called (by decide) (F.typeCall_reversed_1 _) (F.newCall_reversed_1 _) (λobj=>F.args_object_init_2 obj _) F.entry_reversed_new (Pu a items) ⟨ht,hx,⟨_,gZ _ rfl,rfl⟩,h⟩
def next_item{it:Addr}{q u:Value}{T gid:String}{i:Nat}{k:Tok}{Q:Option Value->Shared->Prop}(hit:At s.heap it q (i:Int))(hT:s.TypeIs q T)(sl:Slot T "__getitem__" gid)
  (get:∀(A':Around) (Q':Value->Shared->Prop) (E':Value->Shared->Prop),Q' u { s with toks:=s.toks+1+k }->wpAny (model prog w) A' (getItem q (.int i s.toks)) Q' E' { s with toks:=s.toks+1 })
  (hQ:∀h',At h' it q ((i:Int) - 1)->Heap.SameBut it s.heap h'->Q (some u) { s with toks:=s.toks+1+k,heap:=h' }):wpAny (model prog w) A (pyNext (.ref it)) Q E s:=by
 obtain⟨o,ho,hc,hd⟩:=id hit;unfold pyNext;refine aeS (wpAny_attempt (afa (name:=Str.ofString "__next__") hit.typeIs slot_next (afq slot_next hit.typeIs entry_next ?_ (args_next _))));unfold Builtin.«reversed.__next__»;refine aeS (ae_ (a:=(Value.ref it,[])) rfl ?_)
 try dsimp only
 refine aeS (afp ho hd (x:=q) rfl ?_);refine aeS (afp ho hd (x:=rawInt (i:Int)) rfl ?_);show wpAny _ _ (if (i:Int)<0 then _ else _) _ _ s;rw[aeU (by omega)];refine aeS (aft hT sl.lookup ?_);rw[aeU (by simp)];refine aeS (wpAny_mkInt ?_);refine aeS (wpAny_attempt (get _ _ _ ?_));dsimp only;refine aeS (afp (s:={ s with toks:=s.toks+1+k }) ho hd (x:=rawInt (i:Int)) rfl ?_);show wpAny _ _ (setField (.ref it) 1 (rawInt ((i:Int) - 1)) >>= _) _ _ _;refine aeS (wpAny_setField (s:={ s with toks:=s.toks+1+k }) ho hd (by simp) ?_);refine aeV ⟨_,rfl,aeV (hQ _ ?_ (afx ..))⟩;exact⟨_,p8 _ ho (Obj.isFreed_of_fields (Obj.data_mapFields hd _)),(Obj.cls_mapFields ..).trans hc,by rw[Obj.data_mapFields hd];simp⟩
def next_end{it:Addr}{q:Value}{Q:Option Value->Shared->Prop}(hh:A.handled=none)(hit:At s.heap it q (-1))(hQ:∀h',Heap.ExtBut it s.heap h'->Q none { s with heap:=h' }):wpAny (model prog w) A (pyNext (.ref it)) Q E s:=by
 obtain⟨o,ho,hc,hd⟩:=id hit;unfold pyNext;refine aeS (wpAny_attempt (afa (name:=Str.ofString "__next__") hit.typeIs slot_next (afq slot_next hit.typeIs entry_next ?_ (args_next _))));unfold Builtin.«reversed.__next__»;refine aeS (ae_ (a:=(Value.ref it,[])) rfl ?_)
 try dsimp only
 refine aeS (afp ho hd (x:=q) rfl ?_);refine aeS (afp ho hd (x:=rawInt (-1)) rfl ?_);show wpAny _ _ (if (-1:Int)<0 then _ else _) _ _ s;rw[aeT (by decide)];refine aeS (wpAny_rule ?_);refine aeS ?_;show wpAny _ _ (setField (.ref it) 1 (rawInt (-1)) >>= _) _ _ _;refine aeS (wpAny_setField ho hd (by simp) ?_);have hd1:=Obj.data_mapFields hd (λvs=>vs.set! 1 (rawInt (-1)));have ho1:=p8 (λo=>o.mapFields λvs=>vs.set! 1 (rawInt (-1))) ho (Obj.isFreed_of_fields hd1);refine wpAny_setField ho1 hd1 (by simp) ?_;refine aeS ?_;unfold Builtin.SmallTypes.stopIteration newExc newTuple raiseNew
 wp_walk
 refine ae_ isSubtype_stop ?_;rw[aeT rfl];refine aeV (hQ _ λb o hb e=>gF _ (gF _ ?_));exact (afx ..).extBut b o hb ((afx ..).extBut b o hb e)
def zg1{it:Addr}{q:Value}{i:Int}{Q:Value->Shared->Prop}(hit:At s.heap it q i)(h:Q (.ref it) s):wpAny (model prog w) A (pyIter (.ref it)) Q E s:=by
 refine wpAny_pyIter_slot hit.typeIs zol (afq zol hit.typeIs zr1 ?_ (Fy _));show wpAny _ _ (ret (.ref it)) _ _ s;exact aeV ⟨_,rfl,"reversed",_,hit.typeIs,slot_next.lookup,h⟩
end
end Rv
end L2
namespace L2
open PySem PySem.Spec PyProof.Rows
def XR(x:Str):It :=
 ⟨λi _=>i<x.cps.size,λi H y H'=>H'=H/\∃c,x.cps[x.cps.size - 1 - i]? = some c/\y=.str ⟨#[c]⟩,λi _=>i=x.cps.size⟩
def Dc{P:Program}{w:World}{K:PySem.W.Frag}{tg:Expr}(x:Str)(t:Tok)(hx:x.cps.size<=sizeLine)(it:Addr):Turn P w K tg (XR x) [it] it (λi h=>Rv.At h it (.str x t) ((x.cps.size:Int) - 1 - (i:Nat))) where
 mem:=g_.mpr rfl
 obj:=λi h st b hb=>by
  obtain rfl:=g_.mp hb;obtain⟨o,e,_,d⟩:=st;exact⟨o,e,λv z=>by rw[d]at z;cases z⟩
 keep:=λi h h' ⟨o,e,r⟩ k=>⟨o,k it (g_.mpr rfl) o e,r⟩
 item:=by
  intro X hP hw hK hc i pins s σ H E I hf st hg;subst hP hw hK;have hi:i<x.cps.size:=hg;have hl:=f9;obtain⟨f0,f1,f2,f3,f4,f5⟩:=hf it (g_.mpr rfl);rw[show (x.cps.size:Int) - 1 - (i:Nat)=((x.cps.size - 1 - i:Nat):Int) by omega]at st;obtain⟨c,Xg⟩:∃c,x.cps[x.cps.size - 1 - i]? = some c:=⟨_,pL (by omega)⟩;refine Rv.next_item (k:=1) (u:=.str ⟨#[c]⟩ (s.toks+1)) (T:="str") st (afs s x t) PySem.F.slot_str_getitem (λA' Q' E' q=>P.getItem_str (c:=c) ?_ ?_ q) λh' st' sb=>?_
  ·have h1:¬ (((x.cps.size - 1 - i:Nat):Int) < -(2 ^ 63:Int)):=by omega
   have h2:¬ (((x.cps.size - 1 - i:Nat):Int) ≥ 2 ^ 63):=by omega
   rw[aeW h1,aeW h2];rfl
  ·have e:seqIndex? ((x.cps.size - 1 - i:Nat):Int) x.length=some (x.cps.size - 1 - i):=by
    unfold seqIndex?;have:x.length=x.cps.size:=rfl;simp only[this]
    split
    ·omega
    ·simp;omega
   rw[e];exact Xg
  ·have I1:Inv X pins σ H { s with toks:=s.toks+1+1,heap:=h' }:=I.turned (t':=s.toks+1+1) (λb o hb e=>(sb.2 b hb).trans e) f0 f1 f3 f4 f5;obtain⟨o,e,c',d⟩:=id st';refine⟨_,rfl,sW (s:={ s with toks:=s.toks+1+1,heap:=h' }) e c' d (by decide) ⟨.str ⟨#[c]⟩,H,I1,⟨_,rfl⟩,⟨rfl,c,Xg,rfl⟩,?_,λb hb=>(hf b hb).1⟩⟩;rw[show (x.cps.size:Int) - 1 - ((i+1:Nat))=((x.cps.size - 1 - i:Nat):Int) - 1 by omega];exact st'
 done:=by
  intro X hP hw hK hc i pins s σ H E I hf st hg;subst hP hw hK;obtain rfl:i=x.cps.size:=hg;obtain⟨f0,f1,f2,f3,f4,f5⟩:=hf it (g_.mpr rfl);rw[show (x.cps.size:Int) - 1 - (x.cps.size:Nat)=-1 by omega]at st;exact Rv.next_end (I.ok.hd hc) st λh' eb=>⟨rfl,I.turned (t':=s.toks) (λb o hb e=>eb b o hb e) f0 f1 f3 f4 f5⟩
 self:=λ_ _ _ _ _ st h=>Rv.zg1 st h
def abj(ta:TA):TI:=fun σ H R=>ta σ H λvs H1=>∃x,vs=[.str x]/\x.cps.size<=sizeLine/\R (XR x) H1
def Ou{X:Cx}{tg a:Expr}{ta:TA}{p pos:Pos}(hg:Gl X "reversed")(hm:X.mg "reversed" = none)(ha:PA X [a] ta)(hs:starEach [a] X.env=[(false,eval a X.env)]:=by rfl) :
  PI X tg (.Call (.Name "reversed" p) [a] [] pos) (abj ta):=by
 intro pins s σ H R I h;refine Call_ (M3 I hg hm zml (ae1 (cI (ha pos pins s σ H _ I h) λus s1 zz=>?_) hs rfl));obtain⟨vs,H1,I1,r1,q1⟩:=zz;obtain⟨x,rfl,hx,q⟩:=q1;obtain⟨u,rfl,t,rfl⟩:=vals1 r1;refine Rv.La hx ?_;have st:Rv.At (s1.heap.push (Rv.ob (.str x t) ((x.length:Int) - 1))) s1.heap.objs.size (.str x t) ((x.cps.size:Int) - 1 - ((0:Nat):Int)):=by
  refine⟨_,gZ _ rfl,rfl,?_⟩;rw[show (x.cps.size:Int) - 1 - ((0:Nat):Int)=(x.length:Int) - 1 by have:x.length=x.cps.size:=rfl;omega];rfl
 refine Rv.zg1 st ?_;refine⟨s1.heap.objs.size,[s1.heap.objs.size],_,_,H1,rfl,I1.kept (t':=s1.toks+2) λb o e=>gF _ e,Dc x t hx _,st,λb hb=>?_,q⟩;obtain rfl:=g_.mp hb;exact I1.uV (gb _) (I1.bI.fresh (gb _))
def XQ(K:PySem.W.Frag)(a:Addr)(n:Nat):It :=
 ⟨λi H=>∃xs x,oG K H a xs/\xs.length=n/\i<n/\xs[n - 1 - i]? = some x,λi H x H'=>H'=H/\∀xs,oG K H a xs->xs[n - 1 - i]? = some x,λi H=>(∃xs,oG K H a xs/\xs.length=n)/\i=n⟩
def C_{P:Program}{w:World}{K:PySem.W.Frag}{tg:Expr}(a it:Addr)(n:Nat):Turn P w K tg (XQ K a n) [it] it (λi h=>Rv.At h it (.ref a) ((n:Int) - 1 - (i:Nat))) where
 mem:=g_.mpr rfl
 obj:=λi h st b hb=>by
  obtain rfl:=g_.mp hb;obtain⟨o,e,_,d⟩:=st;exact⟨o,e,λv z=>by rw[d]at z;cases z⟩
 keep:=λi h h' ⟨o,e,r⟩ k=>⟨o,k it (g_.mpr rfl) o e,r⟩
 item:=by
  intro X hP hw hK hc i pins s σ H E I hf st hg;subst hP hw hK;obtain⟨xs,x,hq,hn,hi,hx⟩:=hg;obtain⟨its,rv,p,hz⟩:=I.tuple hq;obtain⟨u,hu,ru⟩:=rv.get hx;have hl:=f9;have hlen:=rv.length;obtain⟨f0,f1,f2,f3,f4,f5⟩:=hf it (g_.mpr rfl);rw[show (n:Int) - 1 - (i:Nat)=((n - 1 - i:Nat):Int) by omega]at st;refine Rv.next_item (k:=0) (u:=u) (T:="tuple") st p.typeIs slot_tuple_getitem (λA' Q' E' q=>getItem_tuple (s:={ s with toks:=s.toks+1 }) p (by omega) (by omega) (j:=n - 1 - i) ?_ (by simpa using hu) q) λh' st' sb=>?_
  ·unfold seqIndex?
   split
   ·omega
   ·simp;omega
  ·have I1:Inv X pins σ H { s with toks:=s.toks+1+0,heap:=h' }:=I.turned (t':=s.toks+1+0) (λb o hb e=>(sb.2 b hb).trans e) f0 f1 f3 f4 f5;obtain⟨o,e,c',d⟩:=id st';refine⟨u,rfl,sW (s:={ s with toks:=s.toks+1+0,heap:=h' }) e c' d (by decide) ⟨x,H,I1,ru,⟨rfl,λys hy=>by rw[I.rK hy hq];exact hx⟩,?_,λb hb=>(hf b hb).1⟩⟩;rw[show (n:Int) - 1 - ((i+1:Nat))=((n - 1 - i:Nat):Int) - 1 by omega];exact st'
 done:=by
  intro X hP hw hK hc i pins s σ H E I hf st hg;subst hP hw hK;obtain⟨_,rfl⟩:=hg;obtain⟨f0,f1,f2,f3,f4,f5⟩:=hf it (g_.mpr rfl);rw[show (i:Int) - 1 - (i:Nat)=-1 by omega]at st;exact Rv.next_end (I.ok.hd hc) st λh' eb=>⟨rfl,I.turned (t':=s.toks) (λb o hb e=>eb b o hb e) f0 f1 f3 f4 f5⟩
 self:=λ_ _ _ _ _ st h=>Rv.zg1 st h
def abi(K:PySem.W.Frag)(ta:TA):TI:=fun σ H R=>ta σ H λvs H1=>∃a xs,vs=[.ref a]/\oG K H1 a xs/\R (XQ K a xs.length) H1
def Ot{X:Cx}{tg a:Expr}{ta:TA}{p pos:Pos}(hg:Gl X "reversed")(hm:X.mg "reversed" = none)(ha:PA X [a] ta)(hs:starEach [a] X.env=[(false,eval a X.env)]:=by rfl) :
  PI X tg (.Call (.Name "reversed" p) [a] [] pos) (abi X.K ta):=by
 intro pins s σ H R I h;refine Call_ (M3 I hg hm zml (ae1 (cI (ha pos pins s σ H _ I h) λus s1 zz=>?_) hs rfl));obtain⟨vs,H1,I1,r1,q1⟩:=zz;obtain⟨l,xs,rfl,hq,q⟩:=q1;obtain⟨u,rfl,rx⟩:=vals1 r1;cases rx;obtain⟨its,rv,pl,hz⟩:=I1.tuple hq;have hlen:=rv.length;refine Rv.K_ pl (by simp only[gG];omega) ?_;have st:Rv.At (s1.heap.push (Rv.ob (.ref l) ((its.toArray.size:Int) - 1))) s1.heap.objs.size (.ref l) ((xs.length:Int) - 1 - ((0:Nat):Int)):=by
  refine⟨_,gZ _ rfl,rfl,?_⟩;rw[show (xs.length:Int) - 1 - ((0:Nat):Int)=(its.toArray.size:Int) - 1 by rw[gG];omega];rfl
 refine Rv.zg1 st ?_;refine⟨s1.heap.objs.size,[s1.heap.objs.size],_,_,H1,rfl,I1.kept (t':=s1.toks+2) λb o e=>gF _ e,C_ l _ xs.length,st,λb hb=>?_,q⟩;obtain rfl:=g_.mp hb;exact I1.uV (gb _) (I1.bI.fresh (gb _))
end L2
namespace M
open PySem PySem.Spec L2
section
variable  {X:Cx}{a:Expr}{mA:MA}{μ:List Addr}{H:Hp}{p pos:Pos}
def Aw(mA:MA):MI:=λenv st=>(mA env st).bind λds st1=>match ds with
 | [.str cs]=>if cs.length<=1000000 then .ok (cs.reverse.map λc=>D.str [c],[]) st1 else .bad
 | _=>.bad
def Hf(mA:MA):MI:=λenv st=>(mA env st).bind λds st1=>match ds with
 | [.tup xs]=>.ok (xs.reverse,[]) st1
 | _=>.bad
@[simp] theorem ab5(env:aM)(st:ak):Aw mA env st=(mA env st).bind λds st1=>match ds with
 | [.str cs]=>if cs.length<=1000000 then .ok (cs.reverse.map λc=>D.str [c],[]) st1 else .bad
 | _=>.bad:=dW rfl
@[simp] theorem ab4(env:aM)(st:ak):Hf mA env st=(mA env st).bind λds st1=>match ds with
 | [.tup xs]=>.ok (xs.reverse,[]) st1
 | _=>.bad:=dW rfl
def JQ(cs:List Nat):oA X μ H (XR (strOf cs)) (cs.reverse.map λc=>D.str [c],[]):=by
 intro H' μ' st' g hs ok;have hz:(strOf cs).cps.size=cs.length:=by simp
 refine⟨λi d e=>?_,by show _=(strOf cs).cps.size;rw[hz];simp⟩;have e:(cs.reverse.map λc=>D.str [c])[i]? = some d:=e;rw[gP]at e;obtain⟨c,e2,rfl⟩:=ni.mp e;have hi:i<cs.length:=by have:=(gf.mp e2).1;simpa using this
 rw[pA hi]at e2;refine⟨by show i<(strOf cs).cps.size;omega,?_⟩;rintro x Cz ⟨rfl,c',hc,rfl⟩;rw[hz]at hc;have h2:cs[cs.length - 1 - i]? = some c':=by simpa using hc
 rw[e2]at h2;cases h2;exact⟨.refl _ _,hs,aq.aP.mpr rfl⟩
def Qi{tg:Expr}(ha:JA X [a] mA)(hg:Gl X "reversed")(hm:X.mg "reversed" = none)(hs:starEach [a] X.env=[(false,eval a X.env)]:=by rfl):JI X tg (.Call (.Name "reversed" p) [a] [] pos) (Aw mA):=by
 refine JI.of (Ou hg hm ha hs) fun σ H R zz=>?_;obtain⟨μ,env,st,hE,hs,hp⟩:=zz;refine⟨μ,env,st,hE,hs,(bJ.bind hp).imp ?_⟩;rintro vs H1 ⟨μ1,st1,ds,g1,bB,hv,aR⟩;dsimp only at aR
 split at aR
 ·rename_i cs
  split at aR
  ·rename_i hc;obtain⟨v,rfl,q1⟩:=ao.one hv;obtain rfl:=aq.aP.mp q1;refine⟨strOf cs,rfl,?_,aR _ _ _ (.refl _ _) bB (JQ cs)⟩;show cs.toArray.size<=sizeLine;rw[afv];simp;omega
  ·exact aR.elim
 ·exact aR.elim
def JN{ds:List D}{q:Addr}{xs:List V}(hq:oG X.K H q xs)(hd:ao X.K μ H ds xs):oA X μ H (XQ X.K q ds.length) (ds.reverse,[]):=by
 intro H' μ' st' g hs ok;have En:=g.ext.qK hq;have yD:=hd.mono g ds;refine⟨λi d e=>?_,⟨xs,En,hd.length.symm⟩,by simp⟩;have e:ds.reverse[i]? = some d:=e;have hi:i<ds.length:=by have:=(gf.mp e).1;simpa using this
 rw[pA hi]at e;obtain⟨v,h1,h2⟩:=yD.get e;refine⟨⟨xs,v,En,hd.length.symm,hi,h1⟩,?_⟩;rintro x Cz ⟨rfl,hx⟩;have:=hx xs En;rw[h1]at this;cases this;exact⟨.refl _ _,hs,h2⟩
def Qh{tg:Expr}(ha:JA X [a] mA)(hg:Gl X "reversed")(hm:X.mg "reversed" = none)(hs:starEach [a] X.env=[(false,eval a X.env)]:=by rfl):JI X tg (.Call (.Name "reversed" p) [a] [] pos) (Hf mA):=by
 refine JI.of (Ot hg hm ha hs) fun σ H R zz=>?_;obtain⟨μ,env,st,hE,hs,hp⟩:=zz;refine⟨μ,env,st,hE,hs,(bJ.bind hp).imp ?_⟩;rintro vs H1 ⟨μ1,st1,ds,g1,bB,hv,aR⟩;dsimp only at aR
 split at aR
 ·rename_i xs;obtain⟨v,rfl,q1⟩:=ao.one hv;obtain⟨b,ys,rfl,q2,q3⟩:=aq.aQ.mp q1;exact⟨b,ys,rfl,q2.qK,by rw[<-q3.length];exact aR _ _ _ (.refl _ _) bB (JN q2.qK q3)⟩
 ·exact aR.elim
end
end M
namespace L2
open PySem PySem.Spec PyProof.Rows
section
variable  {X:Cx}
def zpg:rF X "str.isalpha" (λx xs H Q=>∃z:Str,x=.str z/\xs=[]/\Q (.bl (Txt.isalpha z)) H):=by
 rintro pins s σ H x xs v us Q I rx Ds ⟨z,rfl,rfl,h⟩;obtain⟨t,rfl⟩:=rx;cases Ds;exact SC.isalpha ⟨.bl (Txt.isalpha z),H,I,rfl,h⟩
def zrz:rF X "str.index" (λx xs H Q=>∃(z:Str) (y:Str) (i:Nat) (r:List Nat),x=.str z/\xs=[.str y]/\Builtin.Str.occurrences z y 0 z.length 1=i::r/\Q (.int i) H):=by
 rintro pins s σ H x xs v us Q I rx Ds ⟨z,y,i,r,rfl,rfl,ho,h⟩;obtain⟨t,rfl⟩:=rx;obtain⟨u,rfl,t',rfl⟩:=vals1 Ds;exact SC.index ho ⟨.int i,H,I.tok _,⟨_,rfl⟩,h⟩
def zpz:rF X "list.index" (λx xs H Q=>∃(a:Addr) (ns:List Int) (k:Int) (j:Nat),x=.ref a/\xs=[.int k]/\ou X.K H a (ns.map V.int)/\ns.findIdx? (λz=>decide (z=k))=some j/\Q (.int j) H):=by
 rintro pins s σ H x xs v us Q I rx Ds ⟨a,ns,k,j,rfl,rfl,hq,hj,h⟩;cases rx;obtain⟨u,rfl,t,rfl⟩:=vals1 Ds;obtain⟨its,rv,⟨⟨c0,d0,dt,sl⟩,n,e,hc,hd,hs⟩,hz⟩:=I.list hq;replace hc:c0=.type "list":=hc;replace hd:d0=none:=hd;replace hs:dt=.seq its.toArray n:=hs;subst hc hd hs;have hl:=f9;have hlen:=rv.length;rw[gq]at hlen hz;have at_:∀(m:Nat) (hm:m<its.length),∃t',its[m]=.int (ns[m]'(by omega)) t':=λm hm=>by
  obtain⟨u,hu,ru⟩:=rv.get (i:=m) (x:=.int (ns[m]'(by omega))) (by rw[gP,gM (by omega)];rfl);rw[gM hm]at hu;cases hu;exact ru
 obtain⟨hj1,hj2,hj3⟩:=pQ.mp hj
 let f:Value->Bool:=PyProof.Rows.isInt k
 have fe:∀(m:Nat) (hm:m<its.length),f its[m]=decide (ns[m]'(by omega)=k):=λm hm=>by
  obtain⟨t',e'⟩:=at_ m hm;rw[e'];show PyProof.Rows.isInt k _=_;unfold PyProof.Rows.isInt;rw[mz];simp
 refine call_meets PySem.F.slot_list_index ⟨_,e,rfl⟩ PySem.F.entry_list_index (PySem.F.args_list_index_2 _ _)
  (PySem.SeqAt.list_indexAt a its.toArray n none sl (.int k t) f j (by simp;omega) (by omega) ?_ λm hm vo=>?_) ⟨e,λy hy=>?_,⟨.int j,H,I.tok _,⟨_,rfl⟩,h⟩⟩
 ·simp only[List.getElem_toArray];rw[fe j (by omega)];exact hj2
 ·simp only[List.getElem_toArray];rw[fe m (by simpa using hm)];have:=hj3 m vo;simpa using this
 ·have WL:y∈its:=by simpa using hy
  obtain⟨m,hm,rfl⟩:=nj.mp WL;obtain⟨t',e'⟩:=at_ m hm;rw[e'];exact (PySem.MeetsSeq.EqGives.int _ k t' t).at _ _
end
end L2
namespace M
open PySem PySem.Spec L2
section
variable  {X:Cx}
def sI(cs:List Nat):Bool:=!cs.isEmpty && cs.all PySem.Unicode.isAlpha
def lU:D->List D->ak->R D
 | .str cs,[],st=>.ok (.bl (sI cs)) st
 | _,_,_=>.bad
def zou:rF X "str.isalpha" (Gg X lU):=by
 refine rF.weak zpg ?_;rintro x xs H Q ⟨μ,st,d,ds,hs,hx,jY,hp⟩;unfold lU at hp
 split at hp
 ·rename_i cs;obtain rfl:=aq.aP.mp hx;cases jY;refine⟨strOf cs,rfl,rfl,?_⟩;have e:Txt.isalpha (strOf cs)=sI cs:=by
   unfold Txt.isalpha sI;cases cs<;>simp[Str.length,strOf]
  rw[e];exact hp.ret hs (aq.bj.mpr rfl)
 ·exact hp.elim
noncomputable def qL:D->List D->ak->R D
 | .str cs,[.str [c]],st=>match cs.findIdx? (λz=>decide (z=c)) with
  | some j=>.ok (.int j) st
  | none=>.bad
 | _,_,_=>.bad
theorem Pn(cs:List Nat)(c:Nat):match cs.findIdx? (λz=>decide (z=c)) with
  | some j=>∃r,Builtin.Str.occurrences (strOf cs) (strOf [c]) 0 (strOf cs).length 1=j::r
  | none=>Builtin.Str.occurrences (strOf cs) (strOf [c]) 0 (strOf cs).length 1=[]:=by
 have key:∀i,PySem.StrLaws.At (strOf cs) (strOf [c]) (strOf cs).length i↔cs[i]? = some c:=λi=>by
  have:=PySem.StrLaws.subAt_one (strOf cs) c i;rw[show (strOf cs).cps.toList=cs by simp]at this;exact this
 rcases PySem.StrLaws.occ_head (strOf cs) (strOf [c]) 1 (gb _) with⟨e,h⟩ | ⟨i,r,e,h1,h2⟩
 ·cases hj:cs.findIdx? (λz=>decide (z=c)) with
  | none=>exact e
  | some j =>
   obtain⟨q1,q2,_⟩:=pQ.mp hj;exact absurd ((key j).mpr (by rw[gM q1];simpa using q2)) (h j)
 ·rw[key]at h1;obtain⟨hi,h1⟩:=gf.mp h1;have:cs.findIdx? (λz=>decide (z=c))=some i:=by
   rw[pQ];refine⟨hi,by simpa using h1,λk hk=>?_⟩;have:=h2 k hk;rw[key,gM (by omega)]at this;simpa using this
  rw[this];exact⟨r,e⟩
def zsj:rF X "str.index" (Gg X qL):=by
 refine rF.weak zrz ?_;rintro x xs H Q ⟨μ,st,d,ds,hs,hx,jY,hp⟩;unfold qL at hp
 split at hp
 ·rename_i cs c;obtain rfl:=aq.aP.mp hx;obtain⟨v,rfl,q⟩:=ao.one jY;obtain rfl:=aq.aP.mp q;have h:=Pn cs c;cases e:cs.findIdx? (λz=>decide (z=c)) with
  | none=>rw[e]at hp;exact hp.elim
  | some j =>
   rw[e]at hp h;obtain⟨r,h⟩:=h;exact⟨_,_,j,r,rfl,rfl,h,hp.ret hs (aq.aL.mpr rfl)⟩
 ·exact hp.elim
def jX:D->List D->ak->R D
 | .loc n,[.int k],st=>match aA st n with
  | some l=>(match intsOf l with
   | some ns=>(match ns.findIdx? (λz=>decide (z=k)) with
    | some j=>.ok (.int j) st
    | none=>.bad)
   | none=>.bad)
  | none=>.bad
 | _,_,_=>.bad
def zrn:rF X "list.index" (Gg X jX):=by
 refine rF.weak zpz ?_;rintro x xs H Q ⟨μ,st,d,ds,hs,hx,jY,hp⟩;unfold jX at hp
 split at hp
 ·rename_i n k;obtain⟨a,q1,rfl⟩:=aq.aK.mp hx;obtain⟨v,rfl,q⟩:=ao.one jY;obtain rfl:=aq.aL.mp q;cases e1:aA st n with
  | none=>rw[e1]at hp;exact hp.elim
  | some l =>
   rw[e1]at hp;dsimp only at hp;cases e2:intsOf l with
   | none=>rw[e2]at hp;exact hp.elim
   | some ns =>
    rw[e2]at hp;dsimp only at hp;cases e3:ns.findIdx? (λz=>decide (z=k)) with
    | none=>rw[e3]at hp;exact hp.elim
    | some j =>
     rw[e3]at hp;obtain⟨p',ys,r1,r2,r3⟩:=hs.items e1;rw[q1]at r1;cases r1;rw[zjh e2 r3]at r2;exact⟨a,ns,k,j,rfl,rfl,r2,e3,hp.ret hs (aq.aL.mpr rfl)⟩
 ·exact hp.elim
end
def abz{α:Type}:List (Str×α)->Nat->List Str
 | (x,_)::l,n+1=>x::abz l n
 | _,_=>[]
def zJ(st:Stmt)(a:Nat):List Str:=abz (aD st).names a
abbrev Row:Type:=Str×Stmt×Nat
def Fn(K:PySem.W.Frag)(mg:Str->Option Value)(p:Row):Prop:=∃f fd,CG K p.1 p.1 p.2.1 f fd/\mg p.1=some (.ref f)/\Binds K fd (zJ p.2.1 p.2.2) []
inductive Us (K:PySem.W.Frag):List Row->Prop
 | nil:Us K []
 | cons {n:Str} {st:Stmt} {a:Nat} {l:List Row} {f:Addr} {fd:FuncData} (h:PySem.W.nsIn K mainGlobals n=some (some (.ref f))) (F:CG K n n st f fd)
  (b:∀(kV doc pm:Value) (an:Option Addr) (cdv ct:Value) (us:List Value),us.length=(zJ st a).length->bindArgs (PySem.W.fnOf n n (bL st) (a_ st) (aD st) .none kV doc pm an cdv ct) ⟨us,[]⟩=pure ((zJ st a).zip us)) (r:Us K l):Us K ((n,st,a)::l)
def Us.all{K:PySem.W.Frag}{h:Heap}{mg:Str->Option Value}(X:K.In h)(G:h.Ns mainGlobals mg){l:List Row}(u:Us K l):∀p∈l,Fn K mg p:=by
 induction u with
 | nil=>intro p hp;cases hp
 | cons a F b r ih =>
  intro p hp;rcases gj.mp hp with rfl | hp
  ·exact⟨_,_,F,aeY X G a,F.binds b⟩
  ·exact ih p hp
inductive Zs (K:PySem.W.Frag):List Str->Prop
 | nil:Zs K []
 | cons {n:Str} {l:List Str} (h:PySem.W.nsIn K mainGlobals n=some none) (r:Zs K l):Zs K (n::l)
def Zs.all{K:PySem.W.Frag}{h:Heap}{mg:Str->Option Value}(X:K.In h)(G:h.Ns mainGlobals mg){l:List Str}(u:Zs K l):∀x∈l,mg x=none:=by
 induction u with
 | nil=>intro p hp;cases hp
 | cons a r ih =>
  intro p hp;rcases gj.mp hp with rfl | hp
  ·exact PySem.W.mg_none_of X G a
  ·exact ih p hp
inductive As (K:PySem.W.Frag) (C:Addr):List Str->Prop
 | nil:As K C []
 | cons {n:Str} {l:List Str} (h:PySem.W.findIn K (.ref C) n=some none) (r:As K C l):As K C (n::l)
def As.all{K:PySem.W.Frag}{C:Addr}{l:List Str}(u:As K C l):∀x∈l,iQ K C x:=by
 induction u with
 | nil=>intro p hp;cases hp
 | cons a r ih =>
  intro p hp;rcases gj.mp hp with rfl | hp
  ·exact a
  ·exact ih p hp
def nth{K:PySem.W.Frag}{mg:Str->Option Value}{l:List Row}(i:Nat){p:Row}(h:∀p∈l,Fn K mg p)(e:l[i]? = some p:=by rfl):Fn K mg p:=h p (gW e)
def Cl(F:FD)(n:Str)(k a:Nat)(P:Program)(w:World)(K:PySem.W.Frag)(mg:Str->Option Value)(base:Heap):Prop :=
 ∃f fd ps,ps.length=a/\mg n=some (.ref f)/\PySem.W.keepIn K (.ref f)=true/\Binds K fd ps []/\cu P w K mg base qj k f fd ps (vh K ps.length F)
section
variable  {P:Program}{w:World}{K:PySem.W.Frag}{mg:Str->Option Value}{base:Heap}
def dY{l:List Row}{n:Str}{st:Stmt}{a k:Nat}{N:List Str}{m:MS}(i:Nat)(h:∀p∈l,Fn K mg p)(e:l[i]? = some (n,st,a):=by exact rfl)(hN:zJ st N.length=N:=by exact rfl)
  (hb:∀f cdv A outer s H,cH k (A.deeper (PyProof.Rows.envOfC n (aD st) s.heap.objs.size f cdv))->N.Nodup->yS (uZ qj P w K mg base N n (aD st) f cdv A outer s H E0).Iu (a_ st) m)
  (S:cU N (zJ st a) (aD st):=by exact Ti) (hp:(zJ st a).length=a:=by exact rfl):Cl (bA (bx N.length m)) n (k+1) a P w K mg base:=by
 obtain⟨f,fd,F,hm,hbd⟩:=h _ (gW e);have q:=yG F S (λcdv A outer s H hr=>hb f cdv A outer s H hr S.nd);exact⟨f,fd,_,hp,hm,F.kp,hbd,cu.imp q λvs H Q E h=>sO h⟩
def Cl.never{n:Str}{st:Stmt}{a k:Nat}(h:Fn K mg (n,st,a))(hp:(zJ st a).length=a:=by rfl):Cl (λ_ _=>.bad) n k a P w K mg base:=by
 obtain⟨f,fd,F,hm,hbd⟩:=h;exact⟨f,fd,_,hp,hm,F.kp,hbd,cu.never⟩
end
section
variable  {X:Cx}{P:Program}{w:World}{K:PySem.W.Frag}{mg:Str->Option Value}{base:Heap}
def JZ(X:Cx)(es:List Expr)(mA:MA):Prop:=JA X es mA/\∀(env:aM) (st:ak) (as:List D) (st1:ak),mA env st=.ok as st1->as.length=es.length
def Qc:JZ X [] au:=⟨Yd,zhn⟩
def zP{e:Expr}{es:List Expr}{m:ME}{mA:MA}(h:JE X e m)(r:JZ X es mA)(hs:starEach (e::es) X.env=(false,eval e X.env)::starEach es X.env:=by rfl):JZ X (e::es) (aj m mA):=⟨TY h r.1 hs,Mh r.2⟩
def qP{F:FD}{n x:Str}{k k' a:Nat}{e:Expr}{es:List Expr}{mA:MA}{p pos:Pos}(G:Cl F n k a P w K mg base)(hr:cH k' X.A)(ha:JZ X (e::es) mA)
  (hX:X.prog=P/\X.w=w/\X.K=K/\X.mg=mg/\X.base=base:=by exact⟨rfl,rfl,rfl,rfl,rfl⟩) (hn:n=x:=by rfl) (W9:k<=k':=by first | decide | omega) (hlen:(e::es).length=a:=by rfl) (hg:Gl X x:=by rfl) (qU:(x==("__debug__":Str))=false:=by decide)
  (he:starEach (e::es) X.env=(false,eval e X.env)::starEach es X.env:=by rfl) (oJ:(backTo pos (starEach es X.env)).any (·.1)=false:=by rfl):JE X (.Call (.Name x p) (e::es) [] pos) (az F [] mA):=by
 obtain⟨rfl,rfl,rfl,rfl,rfl⟩:=hX;subst hn;obtain⟨f,fd,ps,hl,hm,hk,hb,g⟩:=G;exact abe g hr hm hk hb ha.1 ha.2 W9 (hlen.trans hl.symm) hg qU he oJ
def Sy{F:FD}{n x:Str}{k k' a:Nat}{Λ:Nat->fJ}{e:Expr}{es:List Expr}{m:ML}{p pos:Pos}(G:Cl F n k a P w K mg base)(hr:cH k' X.A)(ha:JL X Λ (e::es) m)(Xb:∀x,X.fn x=true)(hA:∀env st as st1,m env st=.ok as st1->as.length=(e::es).length)
  (hX:X.prog=P/\X.w=w/\X.K=K/\X.mg=mg/\X.base=base:=by exact⟨rfl,rfl,rfl,rfl,rfl⟩) (hn:n=x:=by rfl) (W9:k<=k':=by first | decide | omega) (hlen:(e::es).length=a:=by rfl) (hg:Gl X x:=by rfl) (qU:(x==("__debug__":Str))=false:=by decide)
  (he:starEach (e::es) X.env=(false,eval e X.env)::starEach es X.env:=by rfl) (oJ:(backTo pos (starEach es X.env)).any (·.1)=false:=by rfl):JE X (.Call (.Name x p) (e::es) [] pos) (jZ Λ F [] m):=by
 obtain⟨rfl,rfl,rfl,rfl,rfl⟩:=hX;subst hn;obtain⟨f,fd,ps,hl,hm,hk,hb,g⟩:=G;exact Ei (g.mono W9) hr hm hk hb .nil (λ_ _=>ao.nil) ha Xb (hlen.trans hl.symm) hg qU he oJ hA
def Wr{F:FD}{n x:Str}{k k':Nat}{p pos:Pos}(G:Cl F n k 0 P w K mg base)(hr:cH k' X.A)
  (hX:X.prog=P/\X.w=w/\X.K=K/\X.mg=mg/\X.base=base:=by exact⟨rfl,rfl,rfl,rfl,rfl⟩) (hn:n=x:=by rfl) (W9:k<=k':=by first | decide | omega) (hg:Gl X x:=by rfl) (qU:(x==("__debug__":Str))=false:=by decide):JE X (.Call (.Name x p) [] [] pos) (az F [] au):=by
 obtain⟨rfl,rfl,rfl,rfl,rfl⟩:=hX;subst hn;obtain⟨f,fd,ps,hl,hm,hk,hb,g⟩:=G;obtain rfl:=List.eq_nil_of_length_eq_zero hl;exact JK (g.mono W9) hr hm hk hb hg qU
end
end M
set_option maxHeartbeats 0
namespace Law
open PySem PySem.Spec L2 M
noncomputable def top(i:Nat):Stmt:=PySem.Challenge.pw_oneofall_k75_whole_one_step_of_a_tape.main.body.getD i (.Pass ⟨0,0,0,0⟩)
abbrev RX:Stmt:=top 6
abbrev CT:Stmt:=top 11
abbrev CQ:Stmt:=top 18
abbrev zd2:Stmt:=(xR (top 52)).getD 0 (.Pass ⟨0,0,0,0⟩)
abbrev YH:Stmt:=(xR (top 52)).getD 1 (.Pass ⟨0,0,0,0⟩)
abbrev zb4:Stmt:=(xR (top 64)).getD 0 (.Pass ⟨0,0,0,0⟩)
abbrev T3:Stmt:=top 85
abbrev l_0:fJ:=Bj "put_in" ["puts"] (Cr (wN ((a_ CT).getD 0 (.Pass ⟨0,0,0,0⟩))) 1)
abbrev l_1:fJ:=Bj "put_in" [] (Cr (wN ((a_ CT).getD 0 (.Pass ⟨0,0,0,0⟩))) 2)
abbrev l_2:fJ:=Bj "out_and_cost" ["name"] (Cr (wN ((a_ CQ).getD 0 (.Pass ⟨0,0,0,0⟩))) 1)
abbrev l_3:fJ:=Bj "out_and_cost" ["name"] (Cr (wN ((a_ CQ).getD 0 (.Pass ⟨0,0,0,0⟩))) 2)
def j5:Nat->fJ
 | 0=>l_0
 | 1=>l_1
 | 2=>l_2
 | 3=>l_3
 | _=>Sg
def tabs:List (Str×Addr):=[("out_and_cost",124),("put_in",75)]
def zg9:MS :=
  (retS (orV (zL (wG "str") (vr 0)) (aF aN (vr 0) (ct (.int 3)))))
def Gd:FD:=bA (bx 1 zg9)
def zig:MS :=
  (aC (iJ (vU (qm (az Gd [] (aj (vr 1) au)))) (retS (ct (.bl false))) bN)
  (aC (iJ (qm (zL (wG "str") (vr 0))) (retS (orV (aF (eN 800) (vr 0) (ct (.str [83]))) (aF (eN 800) (vr 0) (ct (.str [75]))))) bN)
  (retS (xX (aF (eN 800) (aF aN (vr 0) (ct (.int 0))) (ct (.str [83]))) (aF aN (vr 0) (ct (.int 3)))))))
def zee:FD:=bA (bx 2 zig)
def zky:MS :=
  (aC (iJ (qm (zL (wG "str") (vr 0))) (retS (ct (.int 1))) bN)
  (retS (aF aN (vr 0) (ct (.int 2)))))
def zd1:FD:=bA (bx 1 zky)
def zog:MS :=
  (retS (fM (aj (vr 0) (aj (vr 1) (aj (aF aX (az zd1 [] (aj (vr 0) au)) (az zd1 [] (aj (vr 1) au))) (aj (az zee [] (aj (vr 0) (aj (vr 1) au))) au))))))
def ql:FD:=bA (bx 2 zog)
def zlb:MS :=
  (aC (iJ (fu (aF fL (aF aN (vr 0) (ct (.int 0))) (ct .non))) (retS (az ql [] (aj (vr 1) (aj (aF aN (vr 0) (ct (.int 1))) au)))) bN)
  (retS (az ql [] (aj (aF aN (vr 0) (ct (.int 0))) (aj (vr 1) au)))))
def YC:FD:=bA (bx 2 zlb)
def ziv:MS :=
  (aC (iJ (fu (aF (eN 800) (aF aN (vr 0) (ct (.int 0))) (ct (.str [75])))) (retS (aF aN (vr 0) (ct (.int 1)))) bN)
  (retS (az ql [] (aj (az ql [] (aj (aF aN (aF aN (vr 0) (ct (.int 0))) (ct (.int 1))) (aj (vr 1) au))) (aj (az ql [] (aj (aF aN (vr 0) (ct (.int 1))) (aj (vr 1) au))) au)))))
def zed:FD:=bA (bx 2 ziv)
def zcm:MS :=
  (aC (aJ 2 (vr 0))
  (aC (aJ 3 (dw au))
  (aC (aJ 4 (ct (.int 0)))
  (aC (bG (oR (fu (aF ltV (vr 4) (vr 1))) (O_ (qm (vr 3)) (vU (qm (az Gd [] (aj (vr 2) au)))))) (iJ (qm (az Gd [] (aj (vr 2) au))) (aJ 2 (az YC [] (aj (iI "list" jT (vr 3)) (aj (vr 2) au)))) (iJ (vU (qm (az Gd [] (aj (aF aN (vr 2) (ct (.int 0))) au)))) (aC (eF (cL "list" aV (vr 3) (aj (fM (aj (ct .non) (aj (aF aN (vr 2) (ct (.int 1))) au))) au)))
  (aJ 2 (aF aN (vr 2) (ct (.int 0))))) (iJ (vU (qm (az Gd [] (aj (aF aN (vr 2) (ct (.int 1))) au)))) (aC (eF (cL "list" aV (vr 3) (aj (fM (aj (aF aN (vr 2) (ct (.int 0))) (aj (ct .non) au))) au)))
  (aJ 2 (aF aN (vr 2) (ct (.int 1))))) (iJ (qm (zL (wG "str") (aF aN (vr 2) (ct (.int 0))))) Xz (aC (aJ 2 (az zed [] (aj (aF aN (vr 2) (ct (.int 0))) (aj (aF aN (vr 2) (ct (.int 1))) au))))
  (aJ 4 (aF aX (vr 4) (ct (.int 1))))))))))
  (aC (bG (qm (vr 3)) (aJ 2 (az YC [] (aj (iI "list" jT (vr 3)) (aj (vr 2) au)))))
  (retS (fM (aj (Mu (qm (az Gd [] (aj (vr 2) au))) (ct (.str [118,97,108,117,101])) (ct (.str [111,110]))) (aj (vr 2) (aj (vr 4) au))))))))))
def YD:FD:=bA (bx 5 zcm)
def ze4:MS :=
  (aC (iJ (fu (aF (eN 800) (vr 1) (vr 0))) (retS (fM (aj (ct (.tup [.tup [.str [83],.str [75],.int 2,.bl true],.str [75],.int 3,.bl true])) (aj (ct (.int 2)) au)))) bN)
  (retS (ct .non)))
def zb9:FD:=bA (bx 2 ze4)
def zep:MS :=
  (aC (iJ (fu (aF fL (vr 0) (ct .non))) (retS (fM (aj (az ql [] (aj (ct (.str [75])) (aj (vr 1) au))) (aj (ct (.int 1)) au)))) bN)
  (retS (vr 0)))
def YL:FD:=bA (bx 2 zep)
def zer:MS :=
  (aC (iJ (oR (fu (aF fL (vr 2) (ct .non))) (oR (fu (aF fL (vr 3) (ct .non))) (qm (az Gd [] (aj (vr 1) au))))) (retS (ct .non)) bN)
  (aC (iJ (oR (fu (aF fL (vr 2) (ct .non))) (fu (aF (eN 800) (aF aN (vr 1) (ct (.int 1))) (vr 0)))) (retS (fM (aj (aF aN (vr 1) (ct (.int 0))) (aj (ct (.int 0)) au)))) bN)
  (aC (aJ 4 (az YL [] (aj (vr 2) (aj (aF aN (vr 1) (ct (.int 0))) au))))
  (aC (aJ 5 (az YL [] (aj (vr 3) (aj (aF aN (vr 1) (ct (.int 1))) au))))
  (retS (fM (aj (az ql [] (aj (az ql [] (aj (ct (.str [83])) (aj (aF aN (vr 4) (ct (.int 0))) au))) (aj (aF aN (vr 5) (ct (.int 0))) au))) (aj (aF aX (aF aX (ct (.int 1)) (aF aN (vr 4) (ct (.int 1)))) (aF aN (vr 5) (ct (.int 1)))) au))))))))
def zb0:FD:=bA (bx 6 zer)
def e_0:ME :=
  (cL "dict" yF (vr 0) (aj (vr 1) (aj (vr 1) au)))
def e_1:ME :=
  (az ql [] (aj (vr 1) (aj (vr 2) au)))
def e_2:ME :=
  (az zb9 [] (aj (vr 0) (aj (vr 1) au)))
def e_3:ME :=
  (az zb0 [] (aj (vr 0) (aj (vr 1) (aj (vr 2) (aj (vr 3) au)))))
def GL:Nat->FD
 | 0=>uM 2 e_0
 | 1=>uM 3 e_1
 | 2=>uM 2 e_2
 | 3=>uM 4 e_3
 | _=>λ_ _=>.bad
def zkp:MS :=
  (aC (aJ 3 (dw au))
  (aC (aJ 4 (dw (aj (vr 0) au)))
  (aC (bG (qm (vr 4)) (aC (aJ 5 (iI "list" jT (vr 4)))
  (aC (eF (cL "list" aV (vr 3) (aj (vr 5) au)))
  (iJ (vU (qm (zL (wG "str") (vr 5)))) (aC (eF (cL "list" aV (vr 4) (aj (aF aN (vr 5) (ct (.int 0))) au)))
  (eF (cL "list" aV (vr 4) (aj (aF aN (vr 5) (ct (.int 1))) au)))) bN))))
  (aC (aJ 6 (dw au))
  (aC (je (NT (aj (vr 3) au)) (aO 5) (iJ (qm (zL (wG "str") (vr 5))) (eF (cL "list" aV (vr 6) (aj (callC j5 GL 1 (aj (vr 5) au)) au))) (aC (aJ 7 (iI "list" jT (vr 6)))
  (aC (aJ 8 (iI "list" jT (vr 6)))
  (eF (cL "list" aV (vr 6) (aj (callC j5 GL 2 (aj (vr 5) (aj (vr 8) (aj (vr 7) au)))) au)))))))
  (retS (aF aN (vr 6) (ct (.int 0)))))))))
def Gz:FD:=bA (bx 9 zkp)
def zdv:MS :=
  (retS (jZ j5 Gz [] (lX (vr 0) (lA 0 [1] 2 "put_in" (lA 1 [] 2 "put_in" vX)))))
def Ge:FD:=bA (bx 2 zdv)
def za9:MS :=
  (aC (aJ 2 (jZ j5 Gz [] (lX (vr 1) (lA 2 [0] 1 "out_and_cost" (lA 3 [0] 1 "out_and_cost" vX)))))
  (retS (az YL [] (aj (vr 2) (aj (vr 1) au)))))
def RZ:FD:=bA (bx 3 za9)
def zf3:MS :=
  (retS (aF aN (az RZ [] (aj (vr 0) (aj (vr 1) au))) (ct (.int 0))))
def zb2:FD:=bA (bx 2 zf3)
def zh2:MS :=
  (retS (aF aN (az RZ [] (aj (vr 0) (aj (vr 1) au))) (ct (.int 1))))
def zdj:FD:=bA (bx 2 zh2)
def zc2:MS :=
  (aC (aJ 2 (vr 1))
  (aC (aJ 3 (dw au))
  (aC (je (Hf (aj (vr 0) au)) (aO 4) (aC (aJ 5 (az RZ [] (aj (vr 4) (aj (vr 2) au))))
  (aC (aJ 2 (aF aN (vr 5) (ct (.int 0))))
  (eF (cL "list" aV (vr 3) (aj (aF aN (vr 5) (ct (.int 1))) au))))))
  (aC (eF (iI "list" lO (vr 3)))
  (retS (fM (aj (vr 2) (aj (vr 3) au))))))))
def zaz:FD:=bA (bx 6 zc2)
def zi0:MS :=
  (retS (aF aN (az zaz [] (aj (vr 0) (aj (vr 1) au))) (ct (.int 0))))
def M7:FD:=bA (bx 2 zi0)
def ze5:MS :=
  (retS (aF aN (az zaz [] (aj (vr 0) (aj (vr 1) au))) (ct (.int 1))))
def Mj:FD:=bA (bx 2 ze5)
def zlr:MS :=
  (aC (aJ 2 (vr 0))
  (aC (je (jr (vr 1)) (aO 3) (aJ 2 (az ql [] (aj (vr 2) (aj (vr 3) au)))))
  (retS (vr 2))))
def Mg:FD:=bA (bx 4 zlr)
def zi5:MS :=
  (aC (aJ 2 (vr 1))
  (aC (je (dq (aj (vr 0) au)) (aO 3) (aJ 2 (az ql [] (aj (ct (.str [75])) (aj (vr 2) au)))))
  (retS (vr 2))))
def M8:FD:=bA (bx 4 zi5)
def zsf:MS :=
  (retS (az M8 [] (aj (vr 0) (aj (az zb2 [] (aj (ct (.str [120])) (aj (az M8 [] (aj (aF uD (aF uD (vr 1) (ct (.int 1))) (vr 0)) (aj (ct (.str [120])) au))) au))) au))))
def M6:FD:=bA (bx 2 zsf)
def zf7:MS :=
  (retS (aF aX (aF uD (vr 1) (ct (.int 1))) (az zdj [] (aj (ct (.str [120])) (aj (az M8 [] (aj (aF uD (aF uD (vr 1) (ct (.int 1))) (vr 0)) (aj (ct (.str [120])) au))) au)))))
def YJ:FD:=bA (bx 2 zf7)
def zqr:MS :=
  (aC (iJ (qm (az Gd [] (aj (vr 0) au))) (retS (az ql [] (aj (ct (.str [75])) (aj (vr 0) au)))) bN)
  (retS (az zb2 [] (aj (ct (.str [112])) (aj (vr 0) au)))))
def zjz:FD:=bA (bx 1 zqr)
def zlv:MS :=
  (aC (aJ 1 (ct (.tup [.tup [.str [83],.str [75],.int 2,.bl true],.str [75],.int 3,.bl true])))
  (aC (je (jr (vr 0)) (aO 2) (aJ 1 (az ql [] (aj (az ql [] (aj (ct (.str [83])) (aj (vr 1) au))) (aj (az zjz [] (aj (vr 2) au)) au)))))
  (retS (vr 1))))
def Mf:FD:=bA (bx 3 zlv)
def zgg:MS :=
  (retS (az M8 [] (aj (ct (.int 1)) (aj (az Mf [] (aj (dw (aj (vr 0) (aj (vr 1) au))) au)) au))))
def Ui:FD:=bA (bx 2 zgg)
def zij:MS :=
  (aC (aJ 1 (ct (.str [75])))
  (aC (je (NT (aj (vr 0) au)) (aO 2) (aJ 1 (az Ui [] (aj (vr 2) (aj (vr 1) au)))))
  (retS (vr 1))))
def Yz:FD:=bA (bx 3 zij)
def zsk:MS :=
  (retS (az Mf [] (aj (dw (aj (vr 0) (aj (vr 1) (aj (vr 2) au)))) au)))
def Yq:FD:=bA (bx 3 zsk)
def zkz:MS :=
  (retS (az Mf [] (aj (dw (aj (vr 0) (aj (vr 1) (aj (vr 2) (aj (vr 3) au))))) au)))
def zd4:FD:=bA (bx 4 zkz)
def zeq:MS :=
  (retS (aF aX (ct (.int 2)) (aF eZ (ct (.int 2)) (vr 0))))
def M_:FD:=bA (bx 1 zeq)
def ze8:MS :=
  (aC (aJ 1 QW)
  (aC (je (jr (vr 0)) (aO 2) (eF (cL "dict" oF (vr 1) (aj (fM (aj (aF aN (vr 2) (ct (.int 0))) (aj (aF aN (vr 2) (ct (.int 1))) au))) (aj (vr 2) au)))))
  (retS (vr 1))))
def zb8:FD:=bA (bx 3 ze8)
def zgh:MS :=
  (retS (Mu (qm (iI "str" lU (vr 0))) (aF aX (ct (.str [100])) (vr 0)) (ct (.str [100]))))
def YK:FD:=bA (bx 1 zgh)
def zh7:MS :=
  (retS (az Mg [] (aj (ct (.str [115])) (aj (aF aX (cR [none] (ym (vr 0)) (aO 0) rH (az YK [] (aj (vr 0) au))) (bw oW (aj (ct (.tup [.str [110],.str [102],.str [108],.str [114]])) au))) au))))
def zck:FD:=bA (bx 1 zh7)
def zhg:MS :=
  (retS (az M7 [] (aj (ct (.tup [.str [108],.str [115],.str [114],.str [102]])) (aj (az zck [] (aj (vr 0) au)) au))))
def zdl:FD:=bA (bx 1 zhg)
def zlm:MS :=
  (aC (aJ 3 (fV (cG (ct (.str [110])) (vr 1) iH)))
  (aC (je (Tq (vr 2)) (aO 4) (jC (aF vm (vr 2) (vr 4)) (rY lN (vr 3) (az YK [] (aj (vr 4) au)))))
  (retS (az Ge [] (aj (vr 0) (aj (vr 3) au))))))
def ze3:FD:=bA (bx 5 zlm)
def zhq:MS :=
  (retS (aF aX (aF aX (az M_ [] (aj (ct (.int 2)) au)) (az M_ [] (aj (ct (.int 3)) au))) (bw vK (aj (az Mj [] (aj (ct (.tup [.str [108],.str [115],.str [114],.str [102]])) (aj (az zck [] (aj (vr 0) au)) au))) au))))
def zdk:FD:=bA (bx 1 zhq)
def zhz:MS :=
  (retS (az zd4 [] (aj (ct (.str [110])) (aj (ct (.str [108])) (aj (ct (.str [119])) (aj (ct (.str [114])) au))))))
def zco:FD:=bA (bx 0 zhz)
def zhd:MS :=
  (retS (az Ge [] (aj (az M7 [] (aj (ct (.tup [.str [110],.str [102],.str [108],.str [114]])) (aj (az zco [] au) au))) (aj (fV (cG (ct (.str [119])) (vr 0) iH)) au))))
def zcd:FD:=bA (bx 1 zhd)
def zg5:MS :=
  (retS (bw vK (aj (az Mj [] (aj (ct (.tup [.str [110],.str [102],.str [108],.str [114]])) (aj (az zco [] au) au))) au)))
def zdm:FD:=bA (bx 0 zg5)
def zgb:MS :=
  (aC (aJ 1 (Mu (fu (aF (eN 800) (vr 0) (ct (.str [108])))) (fM (aj (ct (.str [108])) (aj (ct (.str [114])) au))) (fM (aj (ct (.str [114])) (aj (ct (.str [108])) au)))))
  (retS (az Mg [] (aj (aF aN (vr 1) (ct (.int 0))) (aj (dw (aj (ct (.str [98,97,114,101])) (aj (ct (.str [102,117,108,108])) (aj (az ql [] (aj (az ql [] (aj (ct (.str [103])) (aj (ct (.str [102])) au))) (aj (ct (.str [102])) au))) (aj (aF aN (vr 1) (ct (.int 1))) au))))) au)))))
def zb3:FD:=bA (bx 2 zgb)
def zfb:MS :=
  (aC (aJ 1 (az Ui [] (aj (ct (.str [119])) (aj (ct (.str [120])) au))))
  (aC (iJ (fu (aF (eN 800) (vr 0) (ct (.str [108])))) (retS (az ql [] (aj (ct (.str [121])) (aj (az Yq [] (aj (ct (.str [116])) (aj (ct (.str [97])) (aj (vr 1) au)))) au)))) bN)
  (retS (az ql [] (aj (ct (.str [121])) (aj (az Yq [] (aj (vr 1) (aj (ct (.str [97])) (aj (ct (.str [116])) au)))) au))))))
def zca:FD:=bA (bx 2 zfb)
def YG:MS :=
  (aC (aJ 3 (az zca [] (aj (vr 1) au)))
  (aC (aJ 4 (az Ge [] (aj (az M7 [] (aj (ct (.tup [.str [121],.str [120]])) (aj (vr 3) au))) (aj (fV (cG (ct (.str [97])) (aF vm (vr 2) (ct (.str [95]))) (cG (ct (.str [116])) (ct (.str [75])) iH))) au))))
  (aC (aJ 5 (az M7 [] (aj (ct (.tup [.str [97],.str [116],.str [121],.str [120]])) (aj (vr 3) au))))
  (aC (cD "Move" "plan" (vr 0) (az M7 [] (aj (ct (.tup [.str [110],.str [102],.str [108],.str [114]])) (aj (az zb3 [] (aj (vr 1) au)) au))))
  (aC (cD "Move" "written" (vr 0) ZF)
  (aC (je (Tq (vr 2)) (aO 6) (aC (aJ 7 (fV (cG (ct (.str [119])) (aF vm (vr 2) (vr 6)) iH)))
  (jC (fV (cG (ct (.str [98,97,114,101])) (az Ge [] (aj (vr 4) (aj (vr 7) au))) (cG (ct (.str [102,117,108,108])) (az Ge [] (aj (vr 5) (aj (vr 7) au))) iH))) (rY lN (cV "Move" "written" (vr 0)) (vr 6)))))
  (aC (aJ 8 (aF aX (bw vK (aj (az Mj [] (aj (ct (.tup [.str [110],.str [102],.str [108],.str [114]])) (aj (az zb3 [] (aj (vr 1) au)) au))) au)) (ct (.int 1))))
  (aC (cD "Move" "bare_cost" (vr 0) (aF aX (vr 8) (bw vK (aj (az Mj [] (aj (ct (.tup [.str [121],.str [120]])) (aj (vr 3) au))) au))))
  (cD "Move" "full_cost" (vr 0) (aF aX (aF aX (vr 8) (az M_ [] (aj (ct (.int 2)) au))) (bw vK (aj (az Mj [] (aj (ct (.tup [.str [97],.str [116],.str [121],.str [120]])) (aj (vr 3) au))) au))))))))))))
def Uh:FD:=bA (bx 9 YG)
def zct:MS :=
  (aC (aJ 3 (bw sZ (aj (aF vm (cV "Move" "written" (vr 0)) (vr 1)) au)))
  (aC (jC (vr 2) (rY lN (vr 3) (ct (.str [103]))))
  (retS (az Ge [] (aj (cV "Move" "plan" (vr 0)) (aj (vr 3) au))))))
def zdt:FD:=bA (bx 4 zct)
def zfa:MS :=
  (retS (az Mg [] (aj (ct (.str [118])) (aj (dw (aj (ct (.str [101])) (aj (ct (.str [102])) au))) au))))
def zbt:FD:=bA (bx 0 zfa)
def zh4:MS :=
  (retS (az Ge [] (aj (az M7 [] (aj (ct (.tup [.str [102],.str [118]])) (aj (az zbt [] au) au))) (aj (fV (cG (ct (.str [101])) (vr 0) iH)) au))))
def zdg:FD:=bA (bx 1 zh4)
def zem:MS :=
  (retS (az Mf [] (aj (dw (aj (vr 0) (aj (vr 1) au))) au)))
def zbz:FD:=bA (bx 2 zem)
def ziq:MS :=
  (retS (aF eQ (vr 0) (ct (.int 2))))
def zc4:FD:=bA (bx 1 ziq)
def zcn(TV:FD):MS :=
  (aC (iJ (fu (aF (eN 800) (bw dj (aj (vr 0) au)) (ct (.int 1)))) (retS (aF aN (vr 0) (ct (.int 0)))) bN)
  (aC (aJ 1 (az zc4 [] (aj (bw dj (aj (vr 0) au)) au)))
  (retS (az Mf [] (aj (dw (aj (az TV [] (aj (UL (vr 0) Y4 (Zf (vr 1))) au)) (aj (az TV [] (aj (UL (vr 0) (Zf (vr 1)) Y4) au)) au))) au)))))
def Mi:Nat->FD
 | 0=>λ_ _=>.bad
 | n+1=>bA (bx 2 (zcn (Mi n)))
def zhy:MS :=
  (aC (aJ 2 (dw au))
  (aC (aJ 3 (ct (.int 0)))
  (aC (aJ 4 (vr 1))
  (aC (bG (fu (aF Ka (vr 4) (ct (.int 1)))) (aC (aJ 5 (az zc4 [] (aj (vr 4) au)))
  (aC (aJ 6 (Mu (fu (aF ltV (vr 0) (aF aX (vr 3) (vr 5)))) (ct (.int 0)) (ct (.int 1))))
  (aC (eF (cL "list" aV (vr 2) (aj (vr 6) au)))
  (aC (aJ 3 (aF aX (vr 3) (aF eZ (vr 5) (vr 6))))
  (aJ 4 (Mu (fu (aF (eN 800) (vr 6) (ct (.int 0)))) (vr 5) (aF uD (vr 4) (vr 5)))))))))
  (retS (vr 2))))))
def YF:FD:=bA (bx 7 zhy)
def zld:MS :=
  (retS (az Mf [] (aj (cR [none] (jr (az YF [] (aj (vr 0) (aj (vr 1) au)))) (aO 0) rH (az M6 [] (aj (vr 0) (aj (ct (.int 2)) au)))) au)))
def zdx:FD:=bA (bx 2 zld)
def zg8:MS :=
  (aC (aJ 2 (az YF [] (aj (vr 0) (aj (vr 1) au))))
  (aC (aJ 3 (cR [none] (jr (vr 2)) (aO 0) rH (aF aX (az M_ [] (aj (ct (.int 2)) au)) (az YJ [] (aj (vr 0) (aj (ct (.int 2)) au))))))
  (retS (aF aX (aF aX (az M_ [] (aj (bw dj (aj (vr 2) au)) au)) (bw vK (aj (vr 3) au))) (aF aN (az Mj [] (aj (ct (.tup [.str [102],.str [118]])) (aj (az zbt [] au) au))) (ct (.int 0)))))))
def zde:FD:=bA (bx 4 zg8)
def zg7:MS :=
  (aC (aJ 4 (bw sZ (aj (vr 2) au)))
  (aC (je (ym (cV "Book" "letters" (vr 0))) (aO 5) (aC (aJ 6 (cL "dict" Et (cV "Book" "by_key" (vr 0)) (aj (fM (aj (vr 1) (aj (vr 5) au))) au)))
  (iJ (fu (aF uK (vr 6) (ct .non))) (jC (Be "Move" "deed" zdt (aF vm (cV "Book" "moves" (vr 0)) (aF aN (vr 6) (ct (.int 3)))) (aj (aF aN (vr 6) (ct (.int 2))) (aj (aF vm (vr 3) (aF aN (vr 6) (ct (.int 4)))) au))) (rY lN (vr 4) (vr 5))) bN)))
  (retS (vr 4))))
def zc8:FD:=bA (bx 7 zg7)
def zit:MS :=
  (aC (aJ 1 (bw dj (aj (cV "Book" "states" (vr 0)) au)))
  (aC (aJ 2 (az zdl [] (aj (cV "Book" "letters" (vr 0)) au)))
  (aC (aJ 3 ZF)
  (aC (je (ym (cV "Book" "letters" (vr 0))) (aO 4) (jC (az zcd [] (aj (aF vm (cV "Book" "sign_trees" (vr 0)) (vr 4)) au)) (rY lN (vr 3) (vr 4))))
  (aC (aJ 5 ZF)
  (aC (je (yH (aj (cV "Book" "states" (vr 0)) au)) (ux 2 (eG (aO 6) (eG (aO 7) vY))) (jC (az zdx [] (aj (vr 6) (aj (vr 1) au))) (rY lN (vr 5) (vr 7))))
  (aC (aJ 8 (dw au))
  (aC (je (yH (aj (cV "Book" "states" (vr 0)) au)) (ux 2 (eG (aO 6) (eG (aO 7) vY))) (eF (cL "list" aV (vr 8) (aj (az ze3 [] (aj (vr 2) (aj (az M6 [] (aj (vr 6) (aj (vr 1) au))) (aj (az zc8 [] (aj (vr 0) (aj (vr 7) (aj (vr 3) (aj (vr 5) au))))) au)))) au))))
  (retS (vr 8))))))))))
def zea:FD:=bA (bx 9 zit)
def zdn:MS :=
  (aC (aJ 1 ZF)
  (aC (je (uX (aj (vr 0) au)) (ux 2 (eG (aO 2) (eG (aO 3) vY))) (jC (az M6 [] (aj (vr 2) (aj (bw dj (aj (vr 0) au)) au))) (rY lN (vr 1) (vr 3))))
  (retS (vr 1))))
def zbj:FD:=bA (bx 4 zdn)
def zcq:MS :=
  (aC (cD "Book" "rules" (vr 0) (bw oW (aj (vr 1) au)))
  (aC (cD "Book" "signs" (vr 0) (vr 2))
  (aC (cD "Book" "states" (vr 0) (bw oW (aj (vr 3) au)))
  (aC (cD "Book" "letters" (vr 0) (aF aX (ct (.str [95])) (vr 2)))
  (aC (cD "Book" "by_key" (vr 0) (az zb8 [] (aj (vr 1) au)))
  (aC (cD "Book" "sign_trees" (vr 0) (az zbj [] (aj (cV "Book" "letters" (vr 0)) au)))
  (aC (cD "Book" "moves" (vr 0) (fV (cG (ct (.str [108])) (jK "Move" Uh (aj (ct (.str [108])) (aj (cV "Book" "sign_trees" (vr 0)) au))) (cG (ct (.str [114])) (jK "Move" Uh (aj (ct (.str [114])) (aj (cV "Book" "sign_trees" (vr 0)) au))) iH))))
  (aC (cD "Book" "start_cost" (vr 0) (az zdk [] (aj (cV "Book" "letters" (vr 0)) au)))
  (aC (aJ 4 (az zea [] (aj (vr 0) au)))
  (aC (aJ 5 (az (Mi 10) [] (aj (cR [none] (jr (vr 4)) (aO 0) rH (az zdg [] (aj (vr 0) au))) au)))
  (cD "Book" "state_trees" (vr 0) (cR [some 5,none] (jr (vr 4)) (aO 1) rH (az zbz [] (aj (vr 1) (aj (vr 0) au)))))))))))))))
def zdr:FD:=bA (bx 6 zcq)
def zj9:MS :=
  (retS (aF aN (cV "Book" "state_trees" (vr 0)) (cL "list" jX (cV "Book" "states" (vr 0)) (aj (vr 1) au))))
def zdi:FD:=bA (bx 2 zj9)
def zl6:MS :=
  (aC (aJ 2 (az Yz [] (aj (cR [some 0,none] (Aw (aj (aF aN (vr 1) (ct (.int 1))) au)) (aO 1) rH (aF vm (cV "Book" "sign_trees" (vr 0)) (vr 1))) au)))
  (aC (aJ 3 (az Yz [] (aj (cR [some 0,none] (ym (aF aN (vr 1) (ct (.int 3)))) (aO 1) rH (aF vm (cV "Book" "sign_trees" (vr 0)) (vr 1))) au)))
  (retS (fM (aj (vr 2) (aj (aF vm (cV "Book" "sign_trees" (vr 0)) (aF aN (vr 1) (ct (.int 2)))) (aj (vr 3) au)))))))
def zdh:FD:=bA (bx 4 zl6)
def zj1:MS :=
  (aC (aJ 2 (az zdh [] (aj (vr 0) (aj (vr 1) au))))
  (retS (az ql [] (aj (az zdi [] (aj (vr 0) (aj (aF aN (vr 1) (ct (.int 0))) au))) (aj (az Yq [] (aj (aF aN (vr 2) (ct (.int 0))) (aj (aF aN (vr 2) (ct (.int 1))) (aj (aF aN (vr 2) (ct (.int 2))) au)))) au)))))
def zbr:FD:=bA (bx 3 zj1)
def zmp:MS :=
  (aC (aJ 2 (az zdh [] (aj (vr 0) (aj (vr 1) au))))
  (aC (aJ 3 (az M6 [] (aj (cL "list" jX (cV "Book" "states" (vr 0)) (aj (aF aN (vr 1) (ct (.int 0))) au)) (aj (bw dj (aj (cV "Book" "states" (vr 0)) au)) au))))
  (retS (az zd4 [] (aj (vr 3) (aj (aF aN (vr 2) (ct (.int 0))) (aj (aF aN (vr 2) (ct (.int 1))) (aj (aF aN (vr 2) (ct (.int 2))) au))))))))
def zes:FD:=bA (bx 4 zmp)
def zf6:MS :=
  (aC (aJ 2 (aF aX (cV "Book" "start_cost" (vr 0)) (az YJ [] (aj (cL "str" qL (cV "Book" "letters" (vr 0)) (aj (aF aN (vr 1) (ct (.int 2))) au)) (aj (bw dj (aj (cV "Book" "letters" (vr 0)) au)) au)))))
  (aC (aJ 3 (cL "dict" Et (cV "Book" "by_key" (vr 0)) (aj (fM (aj (aF aN (vr 1) (ct (.int 0))) (aj (aF aN (vr 1) (ct (.int 2))) au))) au)))
  (aC (iJ (fu (aF fL (vr 3) (ct .non))) (retS (aF aX (vr 2) (az zdm [] au))) bN)
  (aC (aJ 4 (aF vm (cV "Book" "moves" (vr 0)) (aF aN (vr 3) (ct (.int 3)))))
  (aC (aJ 5 (Mu (fu (aF (eN 800) (aF aN (vr 3) (ct (.int 3))) (ct (.str [108])))) (aF aN (vr 1) (ct (.int 1))) (aF aN (vr 1) (ct (.int 3)))))
  (aC (aJ 6 (Mu (fu (aF (eN 800) (vr 5) (ct (.str [])))) (cV "Move" "bare_cost" (vr 4)) (cV "Move" "full_cost" (vr 4))))
  (retS (aF aX (aF aX (vr 2) (vr 6)) (az zde [] (aj (cL "list" jX (cV "Book" "states" (vr 0)) (aj (aF aN (vr 3) (ct (.int 4))) au)) (aj (bw dj (aj (cV "Book" "states" (vr 0)) au)) au)))))))))))
def zcv:FD:=bA (bx 7 zf6)
def zp1:MS :=
  (aC (iJ (fu (aF ltV (vr 1) (bw dj (aj (vr 0) au)))) (retS (aF aN (vr 0) (vr 1))) bN)
  (retS (aF aX (aF eZ (ct (.int 7919)) (vr 1)) (ct (.int 13)))))
def RN:FD:=bA (bx 2 zp1)
def zna:MS :=
  (aC (aJ 2 (aF fZ (aF aX (aF aX (aF eZ (aF fZ (vr 0) (ct (.int 2147483647))) (ct (.int 48271))) (aF eZ (vr 1) (ct (.int 69621)))) (ct (.int 11))) (ct (.int 2147483629))))
  (aC (aJ 2 (aF fZ (aF aX (aF eZ (vr 2) (vr 2)) (ct (.int 7))) (ct (.int 998244353))))
  (retS (aF fZ (aF aX (aF eZ (vr 2) (vr 2)) (vr 1)) (ct (.int 1000000007))))))
def zgx:FD:=bA (bx 3 zna)
def zmy:MS :=
  (aC (iJ (qm (aF aN (vr 0) (ct (.int 0)))) (aC (aJ 2 (aF fZ (aF aN (vr 0) (ct (.int 1))) (vr 1)))
  (aC (jC (aF eQ (aF aN (vr 0) (ct (.int 1))) (vr 1)) (rY yo (vr 0) (ct (.int 1))))
  (retS (vr 2)))) bN)
  (aC (jC (aF aX (aF aN (vr 0) (ct (.int 2))) (ct (.int 1))) (rY yo (vr 0) (ct (.int 2))))
  (retS (aF fZ (aF eQ (az zgx [] (aj (aF aN (vr 0) (ct (.int 1))) (aj (aF aN (vr 0) (ct (.int 2))) au))) (ct (.int 7))) (vr 1)))))
def tB:FD:=bA (bx 3 zmy)
def zkb:MS :=
  (aC (aJ 3 (dw au))
  (aC (je (dq (aj (vr 2) au)) (aO 4) (aC (aJ 5 (az tB [] (aj (vr 0) (aj (vr 1) au))))
  (aC (bG (fu (aF (uR 800 false) (vr 5) (vr 3))) (aJ 5 (aF fZ (aF aX (vr 5) (ct (.int 1))) (vr 1))))
  (eF (cL "list" aV (vr 3) (aj (vr 5) au))))))
  (retS (vr 3))))
def zdz:FD:=bA (bx 6 zkb)
def zoa:MS :=
  (aC (aJ 4 (dw au))
  (aC (aJ 5 QW)
  (aC (je (dq (aj (vr 3) au)) (aO 6) (aC (aJ 7 (aF aN (vr 2) (az tB [] (aj (vr 0) (aj (bw dj (aj (vr 2) au)) au)))))
  (aC (aJ 8 (aF aN (aF aX (ct (.str [95])) (vr 1)) (az tB [] (aj (vr 0) (aj (aF aX (bw dj (aj (vr 1) au)) (ct (.int 1))) au)))))
  (aC (aJ 9 (aF aN (aF aX (ct (.str [95])) (vr 1)) (az tB [] (aj (vr 0) (aj (aF aX (bw dj (aj (vr 1) au)) (ct (.int 1))) au)))))
  (aC (aJ 10 (aF aN (ct (.str [108,114])) (az tB [] (aj (vr 0) (aj (ct (.int 2)) au)))))
  (aC (aJ 11 (aF aN (vr 2) (az tB [] (aj (vr 0) (aj (bw dj (aj (vr 2) au)) au)))))
  (iJ (fu (aF (El true) (fM (aj (vr 7) (aj (vr 8) au))) (vr 5))) (aC (jC (ct (.bl true)) (rY yp (vr 5) (fM (aj (vr 7) (aj (vr 8) au)))))
  (eF (cL "list" aV (vr 4) (aj (fM (aj (vr 7) (aj (vr 8) (aj (vr 9) (aj (vr 10) (aj (vr 11) au)))))) au)))) bN)))))))
  (retS (vr 4)))))
def zg0:FD:=bA (bx 12 zoa)
def zqy:MS :=
  (aC (aJ 2 (az zdz [] (aj (vr 0) (aj (ct (.int 5001)) (aj (aF aX (ct (.int 1)) (az tB [] (aj (vr 0) (aj (vr 1) au)))) au)))))
  (aC (aJ 3 (aF aX (aF aN (dw (aj (ct (.int 3)) (aj (ct (.int 9)) au))) (bw xG (aj (aF ltV (bw dj (aj (vr 2) au)) (ct (.int 3))) au))) (aF eZ (ct (.int 2)) (bw xG (aj (xX (aF Ka (bw dj (aj (vr 2) au)) (ct (.int 2))) (aF (eN 800) (az tB [] (aj (vr 0) (aj (ct (.int 4)) au))) (ct (.int 0)))) au)))))
  (aC (aJ 4 (az zdz [] (aj (vr 0) (aj (ct (.int 26)) (aj (az tB [] (aj (vr 0) (aj (vr 3) au))) au)))))
  (aC (aJ 5 (cL "str" wF (ct (.str [])) (aj (cR [none] (jr (vr 4)) (aO 0) rH (aF aN (ct (.str [97,98,99,100,101,102,103,104,105,106,107,108,109,110,111,112,113,114,115,116,117,118,119,120,121,122])) (vr 0))) au)))
  (retS (fM (aj (az zg0 [] (aj (vr 0) (aj (vr 5) (aj (vr 2) (aj (aF aX (ct (.int 1)) (az tB [] (aj (vr 0) (aj (ct (.int 12)) au)))) au))))) (aj (vr 5) (aj (vr 2) au)))))))))
def zjt:FD:=bA (bx 6 zqy)
def zsi:MS :=
  (aC (aJ 3 (ct (.str [])))
  (aC (je (dq (aj (az tB [] (aj (vr 0) (aj (aF aX (vr 2) (ct (.int 1))) au))) au)) (aO 4) (aJ 3 (aF aX (vr 3) (aF aN (aF aX (ct (.str [95])) (vr 1)) (az tB [] (aj (vr 0) (aj (aF aX (bw dj (aj (vr 1) au)) (ct (.int 1))) au)))))))
  (retS (vr 3))))
def T7:FD:=bA (bx 5 zsi)
def znj:MS :=
  (aC (aJ 5 (aF aN (vr 3) (az tB [] (aj (vr 0) (aj (bw dj (aj (vr 3) au)) au)))))
  (aC (aJ 6 (aF aN (aF aX (ct (.str [95])) (vr 2)) (az tB [] (aj (vr 0) (aj (aF aX (bw dj (aj (vr 2) au)) (ct (.int 1))) au)))))
  (aC (iJ (oR (fu (aF (Gi 800) (vr 1) (dw au))) (fu (aF Ka (az tB [] (aj (vr 0) (aj (ct (.int 4)) au))) (ct (.int 0))))) (aC (aJ 7 (aF aN (vr 1) (az tB [] (aj (vr 0) (aj (bw dj (aj (vr 1) au)) au)))))
  (aC (aJ 5 (aF aN (vr 7) (ct (.int 0))))
  (aJ 6 (aF aN (vr 7) (ct (.int 1)))))) bN)
  (aC (aJ 8 (az T7 [] (aj (vr 0) (aj (vr 2) (aj (vr 4) au)))))
  (retS (fM (aj (vr 5) (aj (vr 8) (aj (vr 6) (aj (az T7 [] (aj (vr 0) (aj (vr 2) (aj (vr 4) au)))) au))))))))))
def zgy:FD:=bA (bx 9 znj)
def zq6:MS :=
  (aC (je (jr (vr 0)) (aO 2) (iJ (oR (fu (aF (eN 800) (aF aN (vr 2) (ct (.int 0))) (aF aN (vr 1) (ct (.int 0))))) (fu (aF (eN 800) (aF aN (vr 2) (ct (.int 1))) (aF aN (vr 1) (ct (.int 2)))))) (aC (iJ (fu (aF (eN 800) (aF aN (vr 2) (ct (.int 3))) (ct (.str [114])))) (aC (aJ 3 (aF aX (aF aN (vr 1) (ct (.int 3))) (aF rZ (ct (.str [95])) (aF (eN 800) (aF aN (vr 1) (ct (.int 3))) (ct (.str []))))))
  (retS (fM (aj (aF aN (vr 2) (ct (.int 4))) (aj (aF aX (aF aN (vr 1) (ct (.int 1))) (aF aN (vr 2) (ct (.int 2)))) (aj (aF aN (vr 3) (ct (.int 0))) (aj (UL (vr 3) (Zf (ct (.int 1))) Y4) au))))))) bN)
  (aC (aJ 3 (aF aX (aF rZ (ct (.str [95])) (aF (eN 800) (aF aN (vr 1) (ct (.int 1))) (ct (.str [])))) (aF aN (vr 1) (ct (.int 1)))))
  (retS (fM (aj (aF aN (vr 2) (ct (.int 4))) (aj (UL (vr 3) Y4 (Zf (zL VL (ct (.int 1))))) (aj (aF aN (vr 3) (zL VL (ct (.int 1)))) (aj (aF aX (aF aN (vr 2) (ct (.int 2))) (aF aN (vr 1) (ct (.int 3)))) au)))))))) bN))
  (retS (ct .non)))
def zj5:FD:=bA (bx 4 zq6)
def zpu:MS :=
  (aC (aJ 4 (cR [some 2,none] (jr (vr 1)) (aO 1) (oR (fu (aF (eN 800) (aF aN (vr 1) (ct (.int 0))) (aF aN (vr 0) (ct (.int 0))))) (fu (aF (eN 800) (aF aN (vr 1) (ct (.int 1))) (aF aN (vr 0) (ct (.int 2)))))) (aF aN (vr 1) (ct (.int 3)))))
  (aC (aJ 5 (dw au))
  (aC (je (dq (aj (ct (.int 2)) au)) (aO 6) (aC (aJ 7 (az T7 [] (aj (vr 0) (aj (vr 3) (aj (ct (.int 3)) au)))))
  (aC (iJ (fu (aF (eN 800) (vr 4) (dw (aj (aF aN (ct (.str [108,114])) (vr 6)) au)))) (iJ (fu (aF (eN 800) (aF aN (vr 2) (aF aX (ct (.int 1)) (aF eZ (ct (.int 2)) (vr 6)))) (ct (.str [])))) (aJ 7 (ct (.str []))) (iJ (fu (aF (eN 800) (vr 7) (ct (.str [])))) (aJ 7 (ct (.str [95]))) bN)) bN)
  (eF (cL "list" aV (vr 5) (aj (vr 7) au))))))
  (retS (fM (aj (aF aN (vr 2) (ct (.int 0))) (aj (aF aN (vr 5) (ct (.int 0))) (aj (aF aN (vr 2) (ct (.int 2))) (aj (aF aN (vr 5) (ct (.int 1))) au)))))))))
def zi8:FD:=bA (bx 8 zpu)
def Ln:MS :=
  (aC (aJ 4 (az zj5 [] (aj (vr 1) (aj (vr 2) au))))
  (aC (jC (az YD [] (aj (az zbr [] (aj (vr 0) (aj (vr 2) au))) (aj (vr 3) au))) (ux 3 (eG (aO 5) (eG (aO 6) (eG (aO 7) vY)))))
  (aC (iJ (fu (aF (Gi 800) (vr 7) (vr 3))) (retS (ct (.bl false))) bN)
  (aC (iJ (fu (aF uK (vr 4) (ct .non))) (aC (aJ 8 (az zbr [] (aj (vr 0) (aj (vr 4) au))))
  (retS (xX (aF (eN 800) (vr 5) (ct (.str [111,110]))) (xX (aF (eN 800) (aF aN (vr 6) (ct (.int 2))) (aF aN (vr 8) (ct (.int 2)))) (aF (eN 800) (vr 6) (vr 8)))))) bN)
  (aC (aJ 9 (az zes [] (aj (vr 0) (aj (vr 2) au))))
  (aC (iJ (O_ (fu (aF (Gi 800) (vr 5) (ct (.str [118,97,108,117,101])))) (O_ (fu (aF (Gi 800) (aF aN (vr 6) (ct (.int 2))) (aF aN (vr 9) (ct (.int 2))))) (fu (aF (Gi 800) (vr 6) (vr 9))))) (retS (ct (.bl false))) bN)
  (retS (aF (eN 800) (aF aN (az YD [] (aj (az zbr [] (aj (vr 0) (aj (vr 2) au))) (aj (aF uD (vr 3) (ct (.int 1))) au))) (ct (.int 0))) (ct (.str [111,110]))))))))))
def zjp:FD:=bA (bx 10 Ln)
def znz:MS :=
  (aC (aJ 1 (az RN [] (aj (vr 0) (aj (ct (.int 0)) au))))
  (aC (aJ 2 (dw (aj (aF (eN 800) (aF fZ (vr 1) (ct (.int 2))) (ct (.int 1))) (aj (az RN [] (aj (vr 0) (aj (ct (.int 1)) au))) (aj (ct (.int 0)) au)))))
  (aC (jC (az zjt [] (aj (vr 2) (aj (ct (.int 4)) au))) (ux 3 (eG (aO 3) (eG (aO 4) (eG (aO 5) vY)))))
  (aC (iJ (fu (aF (eN 800) (aF fZ (aF eQ (vr 1) (ct (.int 2))) (ct (.int 8))) (ct (.int 1)))) (aJ 5 (aF aX (vr 5) (cR [some 5,none] (dq (aj (aF aX (ct (.int 4)) (aF fZ (aF eQ (vr 1) (ct (.int 16))) (ct (.int 31)))) au)) (aO 1) (fu (aF (uR 800 true) (vr 1) (vr 0))) (vr 1)))) bN)
  (aC (aJ 6 (jK "Book" zdr (aj (bw oW (aj (vr 3) au)) (aj (vr 4) (aj (bw oW (aj (vr 5) au)) au)))))
  (aC (aJ 7 (az zgy [] (aj (vr 2) (aj (vr 3) (aj (vr 4) (aj (vr 5) (aj (aF aN (dw (aj (ct (.int 3)) (aj (ct (.int 39)) (aj (ct (.int 3)) au)))) (aF fZ (aF eQ (vr 1) (ct (.int 16))) (ct (.int 3)))) au)))))))
  (aC (aJ 8 (az zcv [] (aj (vr 6) (aj (vr 7) au))))
  (aC (iJ (O_ (vU (qm (zL (wG "int") (vr 8)))) (O_ (qm (zL (wG "bool") (vr 8))) (fu (aF ltV (vr 8) (ct (.int 1)))))) (retS (ct (.bl false))) bN)
  (aC (iJ (O_ (fu (aF Ka (vr 8) (aF aX (aF aX (ct (.int 2000)) (aF eZ (ct (.int 20)) (bw dj (aj (vr 5) au)))) (aF eZ (ct (.int 200)) (bw dj (aj (vr 4) au)))))) (vU (qm (az zjp [] (aj (vr 6) (aj (vr 3) (aj (vr 7) (aj (vr 8) au)))))))) (retS (ct (.bl false))) bN)
  (aC (aJ 2 (dw (aj (aF (eN 800) (aF fZ (aF eQ (vr 1) (ct (.int 4))) (ct (.int 2))) (ct (.int 1))) (aj (az RN [] (aj (vr 0) (aj (ct (.int 2)) au))) (aj (ct (.int 0)) au)))))
  (aC (aJ 9 (az zi8 [] (aj (vr 2) (aj (vr 3) (aj (vr 7) (aj (vr 4) au))))))
  (retS (xX (aF (eN 800) (az zcv [] (aj (vr 6) (aj (vr 9) au))) (vr 8)) (az zjp [] (aj (vr 6) (aj (vr 3) (aj (vr 9) (aj (vr 8) au))))))))))))))))))
def zlu:FD:=bA (bx 10 znz)
def acp:List M.Row:=[("joint",top 2,2),("is_done",top 3,2),("leaves",top 4,1),("is_value",top 5,1),("joined",top 7,2),("changed",top 8,2),("folded",top 9,3),("taken_out",top 12,2),("out_cost",top 13,2),("made_of",top 14,2),("made_costs",top 15,2),("handed",top 16,2),("made_and_costs",top 17,2),("leaf_taken",top 19,2),("joint_taken",top 20,4),("or_constant",top 21,2),("pick",top 24,2),("pick_cost",top 25,2),("unasked",top 26,2),("list_of",top 27,1),("list_with",top 28,2),("pack",top 29,3),("end_of",top 30,4),("holder",top 31,1),("kept",top 32,1)]
def aco:List M.Row:=[("holder_cost",top 33,1),("rule_table",top 35,1),("row_term",top 42,1),("deed_name",top 43,1),("row_plan",top 44,1),("row_of",top 45,3),("row_cost",top 46,1),("end_term",top 47,0),("end_deed",top 48,1),("end_cost",top 49,0),("side_term",top 50,1),("image_term",top 51,1),("entry_term",top 55,0),("entry_of",top 56,1),("tree_of_row",top 57,2),("table_of",top 58,1),("half_of",top 59,1),("turns_to",top 60,2),("way_to",top 61,2),("way_cost",top 62,2),("sign_trees_of",top 65,1),("rows_of",top 66,1),("deeds_of",top 67,4),("state_tree",top 68,2),("tape_image",top 69,2)]
def acn:List M.Row:=[("tape_end",top 70,2),("parts_of",top 71,2),("tape_cost",top 72,2),("_law_cell",top 74,2),("_law_mixed",top 75,2),("_law_draw",top 76,2),("_law_unlike",top 77,3),("_law_rules",top 78,4),("_law_book",top 79,2),("_law_side",top 80,3),("_law_stand",top 81,5),("_law_next",top 82,2),("_law_like",top 83,4),("_law_came",top 84,4)]
def tbl:List M.Row:=acp++aco++acn
noncomputable def zs:List Str:=["bool","dict","enumerate","int","isinstance","len","list","range","reversed","str","sum"]
noncomputable def IK:List Str:=["bare_cost","full_cost","plan","written"]
noncomputable def IV:List Str:=["by_key","letters","moves","rules","sign_trees","signs","start_cost","state_trees","states"]
def zny{us:List Value}{n:Nat}(h:us.length=n+1):∃a v,us=a::v/\v.length=n:=by
 cases us with
 | nil=>cases h
 | cons a v=>exact⟨a,v,rfl,by simpa using h⟩
def us1{us:List Value}(h:us.length=1):∃a,us=[a]:=m7.mp h
def us2{us:List Value}(h:us.length=2):∃a0 a1,us=[a0,a1]:=by
 obtain⟨a0,v,e,h⟩:=zny h;obtain⟨a1,e2⟩:=us1 h;exact⟨a0,a1,by rw[e,e2]⟩
def us3{us:List Value}(h:us.length=3):∃a0 a1 a2,us=[a0,a1,a2]:=by
 obtain⟨a0,v,e,h⟩:=zny h;obtain⟨a1,a2,e2⟩:=us2 h;exact⟨a0,a1,a2,by rw[e,e2]⟩
def us4{us:List Value}(h:us.length=4):∃a0 a1 a2 a3,us=[a0,a1,a2,a3]:=by
 obtain⟨a0,v,e,h⟩:=zny h;obtain⟨a1,a2,a3,e2⟩:=us3 h;exact⟨a0,a1,a2,a3,by rw[e,e2]⟩
def us5{us:List Value}(h:us.length=5):∃a0 a1 a2 a3 a4,us=[a0,a1,a2,a3,a4]:=by
 obtain⟨a0,v,e,h⟩:=zny h;obtain⟨a1,a2,a3,a4,e2⟩:=us4 h;exact⟨a0,a1,a2,a3,a4,by rw[e,e2]⟩
set_option genInjectivity false in
structure Adr where
 j4:Addr
 iB:FuncData
 qb:Addr
 pZ:FuncData
 fH:Addr
 fD:FuncData
 jD:Addr
 jx:FuncData
 jE:Addr
 jy:FuncData
 jF:Addr
 jz:FuncData
 xY:Addr
 xQ:FuncData
 sH:Addr
 u9:Addr
structure Txt(P:Program)(w:World)(K:PySem.W.Frag)(mg:Str->Option Value)(base:Heap)(A:Adr):Prop where
 hB:BMain mg base
 tb:∀p∈tbl,Fn K mg p
 z:∀x∈zs,mg x=none
 aa3:∀f∈IK,iQ K A.sH f
 IW:∀f∈IV,iQ K A.u9 f
 qZ:XX K "tree_run" "tree_run" RX A.j4 A.iB
 xn:mg "tree_run" = some (.ref A.j4)
 zcm:Binds K A.iB ["tree","most"] []
 Mz:∃t,Binds K A.iB ["tree","most"] [.int 1000 t]
 uW:Ac K "put_in" CT A.qb A.pZ
 zM:mg "put_in" = some (.ref A.qb)
 zdv:Binds K A.pZ ["term","puts"] []
 jM:Ac K "out_and_cost" CQ A.fH A.fD
 su:mg "out_and_cost" = some (.ref A.fH)
 za9:Binds K A.fD ["name","term"] []
 wu:CG K "__init__" "Move.__init__" zd2 A.jD A.jx
 oV:Mk K A.sH A.jD
 YG:Binds K A.jx ["self","move","sign_trees"] []
 wz:CG K "deed" "Move.deed" YH A.jE A.jy
 v7:Meth K A.sH "deed" A.jE
 zct:Binds K A.jy ["self","sign","way"] []
 wA:CG K "__init__" "Book.__init__" zb4 A.jF A.jz
 v8:Mk K A.u9 A.jF
 zcq:Binds K A.jz ["self","rules","signs","states"] []
 QQ:CG K "law" "law" T3 A.xY A.xQ
 acd:mg "law" = some (.ref A.xY)
 znz:Binds K A.xQ ["_law_script"] []
 rm:PySem.W.nsIn K mainGlobals "Move" = some (some (.ref A.sH))
 Cd:mg "Move" = some (.ref A.sH)
 Cj:CJ K A.sH
 rA:PySem.W.nsIn K mainGlobals "Book" = some (some (.ref A.u9))
 Ra:mg "Book" = some (.ref A.u9)
 xU:CJ K A.u9
 wO:∃t,mg "BLANK" = some (.str "_" t)
 lH:∃t,mg "NO_THINGS" = some (.str "K" t)
 jQ:∃a,mg "BARE_NAMES" = some (.ref a)/\∀μ H,aq K μ H (.tup [.str [121],.str [120]]) (.ref a)
 jP:∃a,mg "DEED_NAMES" = some (.ref a)/\∀μ H,aq K μ H (.tup [.str [110],.str [102],.str [108],.str [114]]) (.ref a)
 jo:∃a,mg "ENTRY_NAMES" = some (.ref a)/\∀μ H,aq K μ H (.tup [.str [102],.str [118]]) (.ref a)
 jO:∃a,mg "FULL_NAMES" = some (.ref a)/\∀μ H,aq K μ H (.tup [.str [97],.str [116],.str [121],.str [120]]) (.ref a)
 oZ:∃a,mg "IDENTITY" = some (.ref a)/\∀μ H,aq K μ H (.tup [.tup [.str [83],.str [75],.int 2,.bl true],.str [75],.int 3,.bl true]) (.ref a)
 lG:∃a,mg "ROW_NAMES" = some (.ref a)/\∀μ H,aq K μ H (.tup [.str [108],.str [115],.str [114],.str [102]]) (.ref a)
def zgd:cU ["tree","most","here","above","steps"] ["tree","most"] (aD RX):=Ti
def zis:cU ["term","puts"] ["term","puts"] (aD CT):=Ti
def zdo:cU ["name","term","taken"] ["name","term"] (aD CQ):=Ti
def zff:cU ["self","move","sign_trees","term","bare","full","sign","puts","start"] ["self","move","sign_trees"] (aD zd2):=Ti
def zfo:cU ["self","sign","way","puts"] ["self","sign","way"] (aD YH):=Ti
def zfj:cU ["self","rules","signs","states","rows","table"] ["self","rules","signs","states"] (aD zb4):=Ti
def zrt:cU ["_law_script","_law_head","_law_draws","_law_rules_here","_law_signs","_law_states","_law_book_here","_law_stand_here","_law_cost","_law_other"] ["_law_script"] (aD T3):=Ti
section
variable  {P:Program}{w:World}{K:PySem.W.Frag}{mg:Str->Option Value}{base:Heap}{Ad:Adr}(T:Txt P w K mg base Ad)
abbrev Ck(_:Txt P w K mg base Ad)(F:FD)(n:Str)(k a:Nat):Prop:=Cl F n k a P w K mg base
include T
set_option hygiene false in
local macro_rules | `(tactic| trivial)=>`(tactic| repeat' first | eq_refl | (with_reducible (first | refine' FZ _ ?_ ?_ ?_ ?_ | refine' zP ?_ ?_ ?_ | exact Qc | exact Wo)) | exact Or.inl rfl | exact Or.inr rfl | exact Or.inr (Or.inl rfl) | exact Or.inr (Or.inr rfl) | exact nd | ((with_reducible refine' qP ?G ?H ?_ ?_ ?_ ?_ ?_ ?_ ?_ ?_ ?_);(case G=>with_reducible assumption);(case H=>exact hr)) | (with_reducible (first | refine' TY ?_ ?_ ?_ | exact Yd | refine' FW ?_ | refine' lq ?_ ?_ | refine' ZR ?_ | refine' RJ _ ?_ ?_ ?_ ?_ ?_ ?_ | exact zQ | refine' Bo ?_ ?_ ?_ | refine' abb ?_ ?_ ?_ | refine' Wh _ ?_ | refine' Wg ?_ | refine' Wk ?_ | refine' Jp ?_ ?_ | refine' zpr ?_ ?_ | refine' zU ?_ ?_ ?_ ?_ ?_ ?_ ?_ | refine' Wm ?_ ?_ ?_ ?_ | refine' zR ?_ ?_ ?_ ?_ ?_ ?_ | refine' Ql _ ?_ ?_ ?_ ?_ | refine' Jo ?_ ?_ | refine' Qd ?_ | refine' Sx ?_ ?_ | refine' V8 ?_ | refine' V9 ?_ | refine' Js ?_ ?_ ?_ ?_ ?_ | refine' Ef ?_ ?_ ?_ | exact Jr | exact abf | exact Wj | refine' Wd _ ?_ ?_ ?_ ?_ | refine' Jx ?_ ?_ ?_ | exact Qk | refine' Wb ?_ | refine' Wa ?_ | refine' aa8 ?_ | refine' Eg ?_ ?_ ?_ ?_ | refine' Qj ?_ ?_ ?_ ?_ | refine' Jw ?_ ?_ ?_ ?_ | refine' Wc ?_ ?_ ?_ ?_ | refine' Qi ?_ ?_ ?_ ?_ | refine' Qh ?_ ?_ ?_ ?_ | refine' Wi ?_ | refine' Wt ?_ ?_ | refine' aa_ ?_ ?_ | refine' abd ?_ ?_ ?_ | refine' Jy ?_ ?_ ?_ | exact Qg | refine' Qf ?_ | refine' Br ?_ ?_ ?_ ?_ ?_ | refine' zmk ?_ ?_ ?_ | exact Bp | exact Qm | exact JF | refine' Qe ?_ | exact M4)) | ((with_reducible refine' Jz ?_ ?_ ?_);(with_reducible first | exact zr4 | exact Ph | exact Pg | exact Pa | exact Ik | exact DQ)) | ((with_reducible refine' V_ ?_ ?_ ?_ ?_);(with_reducible first | refine' Il ?_ | refine' Ig ?_ | exact Ih | exact Ii | exact zkw | exact zio | refine' Bb ?_ | refine' zkl ?_ | refine' zkx ?_)) | ((with_reducible refine' Ws ?_ ?_ ?_ ?_);(with_reducible first | refine' Il ?_ | refine' Ig ?_ | exact Ih | exact Ii | exact zkw | exact zio | refine' Bb ?_ | refine' zkl ?_ | refine' zkx ?_)) | ((with_reducible refine' Wr ?G ?H ?_ ?_ ?_ ?_ ?_);(case G=>with_reducible assumption);(case H=>exact hr)) | ((with_reducible refine' JH ?G ?_ ?_ ?_ ?_ ?_ ?_ ?_ ?_);(case G=>first | (with_reducible exact Fl) | exact Ff hr.hd)) | ((with_reducible refine' Eh ?G ?_ ?_ ?_ ?_ ?_ ?_ ?_ ?_);(case G=>with_reducible first | exact zp9 | exact Fo | exact zrq)) | ((with_reducible refine' aa9 ?_ ?_);(with_reducible first | exact Nf)) | ((with_reducible refine' Wf ?_ ?_ ?_ ?_);(with_reducible first | refine' UT ?_ | refine' aau ?_ | exact aat)) | ((with_reducible refine' Wq ?G ?_ ?_ ?_ ?_);(case G=>first | exact T.rA | exact T.rm)) | ((with_reducible refine' zT ?G ?_ ?_ ?_ ?_ ?_);(case G=>first | exact T.rA | exact T.rm)) | ((with_reducible refine' Wn ?_ ?_ ?_ ?_ ?_ ?_ ?_ ?_ ?_ ?_ ?_ ?_ ?_);(with_reducible first | exact Jm | exact P0 | exact PX)) | (with_reducible refine JW.jt (Jo ?_ ?_)) | (with_reducible refine JW.jt (Sx ?_ ?_)) | (with_reducible refine' M5 afl ae5 PySem.F.type_dict_get (zq9 ?_) ?_ ?_ ?_ ?_ ?_ ?_ ?_) | (with_reducible refine' M5 afl ae5 PySem.F.type_dict_get (Pz ?_) ?_ ?_ ?_ ?_ ?_ ?_ ?_) | (with_reducible refine' M5 afl PySem.F.slot_dict_setdefault PySem.F.type_dict_setdefault (zpw ?_) ?_ ?_ ?_ ?_ ?_ ?_ ?_) | (with_reducible refine' M5 afk PySem.F.slot_list_index PySem.F.type_list_index zrn ?_ ?_ ?_ ?_ ?_ ?_ ?_) | (with_reducible refine' M5 afm PySem.F.slot_str_index PySem.F.type_str_index zsj ?_ ?_ ?_ ?_ ?_ ?_ ?_) | (with_reducible refine' M5 afm PySem.F.slot_str_join PySem.F.type_str_join zst ?_ ?_ ?_ ?_ ?_ ?_ ?_) | (with_reducible refine' zmb afk PySem.F.slot_list_pop PySem.F.type_list_pop Py ?_ ?_ ?_) | (with_reducible refine' zmb afk PySem.F.slot_list_reverse PySem.F.type_list_reverse zpj ?_ ?_ ?_) | (with_reducible refine' zmb afm PySem.F.slot_str_isalpha PySem.F.type_str_isalpha zou ?_ ?_ ?_) | ((with_reducible refine' JD _ ?G ?_ ?_ ?_);(case G=>first | exact T.wO | exact T.lH)) | ((with_reducible refine' JC ?G ?_ ?_);(case G=>first | exact T.jQ | exact T.jP | exact T.jo | exact T.jO | exact T.oZ | exact T.lG)) | decide +kernel | exact hr | exact λ_ _=>rfl | (intro _;rfl) | exact PassesOwn.never | exact adn _ | (show List.Nodup [_];decide +kernel) | (show List.Nodup [_,_];decide +kernel) | exact SN hr | exact huL 800 hr (by omega) | exact T.z _ (by decide +kernel) | exact hr.hd | exact⟨rfl,rfl,rfl,rfl,rfl⟩ | exact List.cons_ne_nil _ _ | exact T.xU | exact T.Cj | exact T.IW _ (by decide +kernel) | exact T.aa3 _ (by decide +kernel) | omega | refine FW ?_ | refine lq ?_ ?_ | refine ZR ?_ | intro _ _ _ _ _ _ hr nd)
def zdf:Ck T Gd "is_value" 41 1:=dY (N:=[_]) 3 T.tb (hb:=by trivial)
def zpc:Ck T zee "is_done" 42 2:=dY (N:=[_,_]) 1 T.tb (hb:=by have:=zdf T;trivial)
def zsz:Ck T zd1 "leaves" 41 1:=dY (N:=[_]) 2 T.tb (hb:=by trivial)
def Gb:Ck T ql "joint" 43 2:=dY (N:=[_,_]) 0 T.tb (hb:=by have:=zsz T;have:=zpc T;trivial)
def zp2:Ck T YC "joined" 44 2:=dY (N:=[_,_]) 4 T.tb (hb:=by have:=Gb T;trivial)
def zoz:Ck T zed "changed" 44 2:=dY (N:=[_,_]) 5 T.tb (hb:=by have:=Gb T;trivial)
def zle:cu P w K mg base qj 45 Ad.j4 Ad.iB ["tree","most"] (vh K 2 YD):=by
 have nd:=zgd.nd;refine cu.imp (Xk (m:=zcm) T.qZ zgd λcdv A outer s H hr=>?_) λvs H Q E h=>sO h;exact (by have:=zdf T;have:=zp2 T;have:=zoz T;trivial)
def zmr:Ck T YD "tree_run" 45 2:=⟨_,_,_,rfl,T.xn,T.qZ.kp,T.zcm,zle T⟩
def zjo:Ck T zb9 "leaf_taken" 41 2:=dY (N:=[_,_]) 13 T.tb (hb:=by trivial)
def zeo:Ck T YL "or_constant" 44 2:=dY (N:=[_,_]) 15 T.tb (hb:=by have:=Gb T;trivial)
def zib:Ck T zb0 "joint_taken" 45 4:=dY (N:=[_,_,_,_,_,_]) 14 T.tb (hb:=by have:=zdf T;have:=zeo T;have:=Gb T;trivial)
def Jl:yR P w K mg base 45 (j5 0) ["leaf"] e_0 :=
 let _:=T;⟨⟨rfl,rfl,rfl,by decide +kernel,by decide +kernel,by decide +kernel,by decide +kernel,by decide +kernel⟩,λ_ _ _ _ us hl=>by obtain⟨_,rfl⟩:=us1 hl;exact rfl,λf cd cl A outer s H hr=>(M5 afl ae5 PySem.F.type_dict_get (zq9 (SN hr)) (FZ 0) (TY (FZ 1) (TY (FZ 1) Yd)))⟩
def Jk:yR P w K mg base 45 (j5 1) ["part","left","right"] e_1 :=
 ⟨⟨rfl,rfl,rfl,by decide +kernel,by decide +kernel,by decide +kernel,by decide +kernel,by decide +kernel⟩,λ_ _ _ _ us hl=>by obtain⟨_,_,_,rfl⟩:=us3 hl;exact rfl,λf cd cl A outer s H hr=>(qP (Gb T) hr (zP (FZ 1) (zP (FZ 2) Qc)))⟩
def Jj:yR P w K mg base 45 (j5 2) ["leaf"] e_2 :=
 ⟨⟨rfl,rfl,rfl,by decide +kernel,by decide +kernel,by decide +kernel,by decide +kernel,by decide +kernel⟩,λ_ _ _ _ us hl=>by obtain⟨_,rfl⟩:=us1 hl;exact rfl,λf cd cl A outer s H hr=>(qP (zjo T) hr (zP (FZ 0) (zP (FZ 1) Qc)))⟩
def Ji:yR P w K mg base 45 (j5 3) ["part","left","right"] e_3 :=
 ⟨⟨rfl,rfl,rfl,by decide +kernel,by decide +kernel,by decide +kernel,by decide +kernel,by decide +kernel⟩,λ_ _ _ _ us hl=>by obtain⟨_,_,_,rfl⟩:=us3 hl;exact rfl,λf cd cl A outer s H hr=>(qP (zib T) hr (zP (FZ 0) (zP (FZ 1) (zP (FZ 2) (zP (FZ 3) Qc)))))⟩
theorem Bh:Lx P w K mg base 45 j5 GL
 | 0=>.inr ⟨["leaf"],_,Jl T,rfl⟩
 | 1=>.inr ⟨["part","left","right"],_,Jk T,rfl⟩
 | 2=>.inr ⟨["leaf"],_,Jj T,rfl⟩
 | 3=>.inr ⟨["part","left","right"],_,Ji T,rfl⟩
 | _+4=>.inl λ_ _=>rfl
def zks:Ck T Gz "folded" 47 3:=dY (N:=[_,_,_,_,_,_,_,_,_]) 6 T.tb (hb:=by intro _ _ _ _ _ _ hr nd;exact (lq (by trivial) (lq (by trivial) (lq (by trivial) (lq (by trivial) (lq (zR (by trivial) (by trivial) (FW (Bo (by trivial) (FW (zpr (zU (by trivial) (TY (zqa (Bh T) (hr.mono (by decide)) 1 (by trivial)) Yd)))) (lq (by trivial) (lq (by trivial) (FW (zpr (zU (by trivial) (TY (zqa (Bh T) (hr.mono (by decide)) 2 (by trivial)) Yd)))))))) PassesOwn.never rfl) (by trivial)))))))
def zpf:cu P w K mg base qj 48 Ad.qb Ad.pZ ["term","puts"] (vh K 2 Ge):=by
 have nd:=zis.nd;refine cu.imp (Kp (m:=zdv) T.uW zis λcdv A outer s H hr hT=>?_) λvs H Q E h=>sO h;exact (by exact (FW (ZR (Sy (zks T) hr (Bq (by trivial) (xF (Λ:=j5) (x:="put_in") (j:=0) (k:=2) (cap:=[1]) T.hB hT (zj7 (sc0:=aD CT) rfl (by decide +kernel) (by decide +kernel) rfl) rfl rfl rfl rfl rfl (xF (Λ:=j5) (x:="put_in") (j:=1) (k:=2) (cap:=[]) T.hB hT (zj7 (sc0:=aD CT) rfl (by decide +kernel) (by decide +kernel) rfl) rfl rfl rfl rfl rfl Jv))) (λ_=>rfl) (zn6 (zjg (zjg zpn)))))))
def zd6:Ck T Ge "put_in" 48 2:=⟨_,_,_,rfl,T.zM,T.uW.kp,T.zdv,zpf T⟩
def zgk:cu P w K mg base qj 48 Ad.fH Ad.fD ["name","term"] (vh K 2 RZ):=by
 have nd:=zdo.nd;refine cu.imp (Kp (m:=za9) T.jM zdo λcdv A outer s H hr hT=>?_) λvs H Q E h=>sO h;exact (by have:=zeo T;exact (lq (RJ 2 (Sy (zks T) hr (Bq (by trivial) (xF (Λ:=j5) (x:="out_and_cost") (j:=2) (k:=1) (cap:=[0]) T.hB hT (zj7 (sc0:=aD CQ) rfl (by decide +kernel) (by decide +kernel) rfl) rfl rfl rfl rfl rfl (xF (Λ:=j5) (x:="out_and_cost") (j:=3) (k:=1) (cap:=[0]) T.hB hT (zj7 (sc0:=aD CQ) rfl (by decide +kernel) (by decide +kernel) rfl) rfl rfl rfl rfl rfl Jv))) (λ_=>rfl) (zn6 (zjg (zjg zpn)))) nd) (by trivial)))
def zch:Ck T RZ "out_and_cost" 48 2:=⟨_,_,_,rfl,T.su,T.jM.kp,T.za9,zgk T⟩
def zge:Ck T zb2 "taken_out" 49 2:=dY (N:=[_,_]) 7 T.tb (hb:=by have:=zch T;trivial)
def zmx:Ck T zdj "out_cost" 49 2:=dY (N:=[_,_]) 8 T.tb (hb:=by have:=zch T;trivial)
def zc6:Ck T zaz "made_and_costs" 49 2:=dY (N:=[_,_,_,_,_,_]) 12 T.tb (hb:=by have:=zch T;trivial)
def zel:Ck T M7 "made_of" 50 2:=dY (N:=[_,_]) 9 T.tb (hb:=by have:=zc6 T;trivial)
def zcb:Ck T Mj "made_costs" 50 2:=dY (N:=[_,_]) 10 T.tb (hb:=by have:=zc6 T;trivial)
def ze2:Ck T Mg "handed" 44 2:=dY (N:=[_,_,_,_]) 11 T.tb (hb:=by have:=Gb T;trivial)
def zfw:Ck T M8 "unasked" 44 2:=dY (N:=[_,_,_,_]) 18 T.tb (hb:=by have:=Gb T;trivial)
def zje:Ck T M6 "pick" 50 2:=dY (N:=[_,_]) 16 T.tb (hb:=by have:=zfw T;have:=zge T;trivial)
def zf1:Ck T YJ "pick_cost" 50 2:=dY (N:=[_,_]) 17 T.tb (hb:=by have:=zmx T;have:=zfw T;trivial)
def Ld:Ck T zjz "kept" 50 1:=dY (N:=[_]) 24 T.tb (hb:=by have:=zdf T;have:=Gb T;have:=zge T;trivial)
def Ud:Ck T Mf "holder" 51 1:=dY (N:=[_,_,_]) 23 T.tb (hb:=by have:=Gb T;have:=Ld T;trivial)
def zf9:Ck T Ui "list_with" 52 2:=dY (N:=[_,_]) 20 T.tb (hb:=by have:=zfw T;have:=Ud T;trivial)
def zf0:Ck T Yz "list_of" 53 1:=dY (N:=[_,_,_]) 19 T.tb (hb:=by have:=zf9 T;trivial)
def zpq:Ck T Yq "pack" 52 3:=dY (N:=[_,_,_]) 21 T.tb (hb:=by have:=Ud T;trivial)
def zke:Ck T zd4 "end_of" 52 4:=dY (N:=[_,_,_,_]) 22 T.tb (hb:=by have:=Ud T;trivial)
def zcw:Ck T M_ "holder_cost" 41 1:=dY (N:=[_]) 25 T.tb (hb:=by trivial)
def zjn:Ck T zb8 "rule_table" 41 1:=dY (N:=[_,_,_]) 26 T.tb (hb:=by trivial)
def zgc:Ck T YK "deed_name" 41 1:=dY (N:=[_]) 28 T.tb (hb:=by trivial)
def zh3:Ck T zck "row_term" 45 1:=dY (N:=[_]) 27 T.tb (hb:=by intro _ _ _ _ _ _ hr nd;have:=ze2 T;have:=zgc T;exact (FW (ZR (qP (ze2 T) hr (zP (by trivial) (zP (Jz zr4 (RL (N:=["sign"]) (capt:=[none]) (sc0:=aD (top 42)) (by trivial) ⟨rfl,by decide +kernel,by decide +kernel⟩ (by decide +kernel) trivial rfl (λcl C fp s H=>(by trivial)) (λcl C fp s H=>M4) (λcl C fp s H=>(by trivial))) (by trivial)) Qc))))))
def zm2:Ck T zdl "row_plan" 51 1:=dY (N:=[_]) 29 T.tb (hb:=by have:=zel T;have:=zh3 T;trivial)
def zpm:Ck T ze3 "row_of" 49 3:=dY (N:=[_,_,_,_,_]) 30 T.tb (hb:=by have:=zgc T;have:=zd6 T;trivial)
def zl0:Ck T zdk "row_cost" 51 1:=dY (N:=[_]) 31 T.tb (hb:=by have:=zcw T;have:=zcb T;have:=zh3 T;trivial)
def zg3:Ck T zco "end_term" 53 0:=dY (N:=[]) 32 T.tb (hb:=by have:=zke T;trivial)
def zmi:Ck T zcd "end_deed" 54 1:=dY (N:=[_]) 33 T.tb (hb:=by have:=zd6 T;have:=zel T;have:=zg3 T;trivial)
def zmc:Ck T zdm "end_cost" 54 0:=dY (N:=[]) 34 T.tb (hb:=by have:=zcb T;have:=zg3 T;trivial)
def zkd:Ck T zb3 "side_term" 45 1:=dY (N:=[_,_]) 35 T.tb (hb:=by have:=ze2 T;have:=Gb T;trivial)
def zj0:Ck T zca "image_term" 53 1:=dY (N:=[_,_]) 36 T.tb (hb:=by have:=zf9 T;have:=Gb T;have:=zpq T;trivial)
def ze1:cu P w K mg base qj 54 Ad.jD Ad.jx ["self","move","sign_trees"] (vh K 3 Uh):=by
 have nd:=zff.nd;refine cu.imp (yG (m:=YG) T.wu zff λcdv A outer s H hr=>?_) λvs H Q E h=>sO h;exact (by have:=zj0 T;have:=zd6 T;have:=zel T;have:=zkd T;have:=zcb T;have:=zcw T;trivial)
def zjb:cu P w K mg base qj 49 Ad.jE Ad.jy ["self","sign","way"] (vh K 3 zdt):=by
 have nd:=zfo.nd;refine cu.imp (yG (m:=zct) T.wz zfo λcdv A outer s H hr=>?_) λvs H Q E h=>sO h;exact (by have:=zd6 T;trivial)
def ze9:Ck T zbt "entry_term" 45 0:=dY (N:=[]) 37 T.tb (hb:=by have:=ze2 T;trivial)
def zl9:Ck T zdg "entry_of" 51 1:=dY (N:=[_]) 38 T.tb (hb:=by have:=zd6 T;have:=zel T;have:=ze9 T;trivial)
def zid:Ck T zbz "tree_of_row" 52 2:=dY (N:=[_,_]) 39 T.tb (hb:=by have:=Ud T;trivial)
def ziw:Ck T zc4 "half_of" 41 1:=dY (N:=[_]) 41 T.tb (hb:=by trivial)
theorem zeu:∀n:Nat,Ck T (Mi n) "table_of" (52+n) 1
 | 0=>Cl.never (nth 40 T.tb)
 | n+1=>by
  have IH:=zeu n;exact dY (N:=[_,_]) (k:=52+n) 40 T.tb (hb:=λ_ _ _ _ _ _ hr nd=>by have:=ziw T;have:=Ud T;trivial)
def zhc:Ck T YF "turns_to" 42 2:=dY (N:=[_,_,_,_,_,_,_]) 42 T.tb (hb:=by have:=ziw T;trivial)
def zrb:Ck T zdx "way_to" 52 2:=dY (N:=[_,_]) 43 T.tb (hb:=by intro _ _ _ _ _ _ hr nd;have:=Ud T;have:=zhc T;have:=zje T;exact (FW (ZR (qP (Ud T) hr (zP (RL (N:=["turn"]) (capt:=[none]) (sc0:=aD (top 61)) (by trivial) ⟨rfl,by decide +kernel,by decide +kernel⟩ (by decide +kernel) trivial rfl (λcl C fp s H=>(by trivial)) (λcl C fp s H=>M4) (λcl C fp s H=>(by trivial))) Qc)))))
def zms:Ck T zde "way_cost" 51 2:=dY (N:=[_,_,_,_]) 44 T.tb (hb:=by intro _ _ _ _ _ _ hr nd;have:=zhc T;have:=zcw T;have:=zf1 T;have:=zcb T;have:=ze9 T;exact (lq (by trivial) (lq (zk4 3 (N:=["turn"]) (capt:=[none]) (sc0:=aD (top 62)) (by trivial) ⟨rfl,by decide +kernel,by decide +kernel⟩ (by decide +kernel) trivial rfl (λcl C fp s H=>(by trivial)) (λcl C fp s H=>M4) (λcl C fp s H=>(by trivial)) nd) (by trivial))))
def zmt:Ck T zc8 "deeds_of" 50 4:=dY (N:=[_,_,_,_,_,_,_]) 47 T.tb (hb:=by intro _ _ _ _ _ _ hr nd;exact (lq (by trivial) (lq (zR (by trivial) (by trivial) (lq (by trivial) (FW (Bo (by trivial) (FW (Js (JB T.rm T.Cj T.v7 ((zjb T).mono (by decide)) hr T.zct (by trivial) (by trivial) rfl rfl rfl rfl (Mh (Mh zhn))) (by trivial))) zQ))) PassesOwn.never rfl) (by trivial))))
def zph:Ck T zea "rows_of" 55 1:=dY (N:=[_,_,_,_,_,_,_,_,_]) 46 T.tb (hb:=by have:=zm2 T;have:=zmi T;have:=zrb T;have:=zpm T;have:=zje T;have:=zmt T;trivial)
def zgl:Ck T zbj "sign_trees_of" 51 1:=dY (N:=[_,_,_,_]) 45 T.tb (hb:=by have:=zje T;trivial)
def zj2:cu P w K mg base qj 63 Ad.jF Ad.jz ["self","rules","signs","states"] (vh K 4 zdr):=by
 have nd:=zfj.nd;refine cu.imp (yG (m:=zcq) T.wA zfj λcdv A outer s H hr=>?_) λvs H Q E h=>sO h;exact (by have:=zjn T;have:=zgl T;have:=zl0 T;have:=zph T;have:=zeu T 10;have:=zl9 T;have:=zid T;exact (lq (by trivial) (lq (by trivial) (lq (by trivial) (lq (by trivial) (lq (by trivial) (lq (by trivial) (lq (zT T.rA T.xU (T.IW _ (by decide +kernel)) (by trivial) (Br (zmk (by trivial) (zsu T.rm T.oV ((ze1 T).mono (by decide)) hr T.Cd T.YG (by trivial) rfl rfl (by decide) rfl rfl (Mh (Mh zhn))) (zmk (by trivial) (zsu T.rm T.oV ((ze1 T).mono (by decide)) hr T.Cd T.YG (by trivial) rfl rfl (by decide) rfl rfl (Mh (Mh zhn))) Bp)))) (lq (by trivial) (lq (by trivial) (lq (RJ 5 (qP (zeu T 10) hr (zP (RL (N:=["row"]) (capt:=[none]) (sc0:=aD zb4) (by trivial) ⟨rfl,by decide +kernel,by decide +kernel⟩ (by decide +kernel) trivial rfl (λcl C fp s H=>(by trivial)) (λcl C fp s H=>M4) (λcl C fp s H=>(by trivial))) Qc)) nd) (FW (zT T.rA T.xU (T.IW _ (by decide +kernel)) (by trivial) (RL (N:=["table","row"]) (capt:=[some 5,none]) (sc0:=aD zb4) (by trivial) ⟨rfl,by decide +kernel,by decide +kernel⟩ (by decide +kernel) ⟨⟨rfl,by first | exact Or.inl rfl | exact Or.inr rfl,rfl⟩,trivial⟩ rfl (λcl C fp s H=>(by trivial)) (λcl C fp s H=>M4) (λcl C fp s H=>(by trivial))))))))))))))))
def zj8:Ck T zdi "state_tree" 41 2:=dY (N:=[_,_]) 48 T.tb (hb:=by trivial)
def zhp:Ck T zdh "parts_of" 54 2:=dY (N:=[_,_,_,_]) 51 T.tb (hb:=by intro _ _ _ _ _ _ hr nd;have:=zf0 T;exact (lq (RJ 2 (qP (zf0 T) hr (zP (RL (N:=["book","sign"]) (capt:=[some 0,none]) (sc0:=aD (top 71)) (by trivial) ⟨rfl,by decide +kernel,by decide +kernel⟩ (by decide +kernel) ⟨⟨rfl,by first | exact Or.inl rfl | exact Or.inr rfl,rfl⟩,trivial⟩ rfl (λcl C fp s H=>(by trivial)) (λcl C fp s H=>M4) (λcl C fp s H=>(by trivial))) Qc)) nd) (lq (RJ 3 (qP (zf0 T) hr (zP (RL (N:=["book","sign"]) (capt:=[some 0,none]) (sc0:=aD (top 71)) (by trivial) ⟨rfl,by decide +kernel,by decide +kernel⟩ (by decide +kernel) ⟨⟨rfl,by first | exact Or.inl rfl | exact Or.inr rfl,rfl⟩,trivial⟩ rfl (λcl C fp s H=>(by trivial)) (λcl C fp s H=>M4) (λcl C fp s H=>(by trivial))) Qc)) nd) (by trivial))))
def zju:Ck T zbr "tape_image" 55 2:=dY (N:=[_,_,_]) 49 T.tb (hb:=by have:=zhp T;have:=Gb T;have:=zj8 T;have:=zpq T;trivial)
def zmv:Ck T zes "tape_end" 55 2:=dY (N:=[_,_,_,_]) 50 T.tb (hb:=by have:=zhp T;have:=zje T;have:=zke T;trivial)
def zkr:Ck T zcv "tape_cost" 55 2:=dY (N:=[_,_,_,_,_,_,_]) 52 T.tb (hb:=by have:=zf1 T;have:=zmc T;have:=zms T;trivial)
def Lg:Ck T RN "_law_cell" 41 2:=dY (N:=[_,_]) 53 T.tb (hb:=by trivial)
def Fv:Ck T zgx "_law_mixed" 41 2:=dY (N:=[_,_,_]) 54 T.tb (hb:=by trivial)
def zhf:Ck T tB "_law_draw" 42 2:=dY (N:=[_,_,_]) 55 T.tb (hb:=by have:=Fv T;trivial)
def zrx:Ck T zdz "_law_unlike" 43 3:=dY (N:=[_,_,_,_,_,_]) 56 T.tb (hb:=by have:=zhf T;trivial)
def Ft:Ck T zg0 "_law_rules" 43 4:=dY (N:=[_,_,_,_,_,_,_,_,_,_,_,_]) 57 T.tb (hb:=by have:=zhf T;trivial)
def Li:Ck T zjt "_law_book" 44 2:=dY (N:=[_,_,_,_,_,_]) 58 T.tb (hb:=by intro _ _ _ _ _ _ hr nd;have:=zrx T;have:=zhf T;have:=Ft T;exact (lq (by trivial) (lq (by trivial) (lq (by trivial) (lq (RJ 5 (M5 afm PySem.F.slot_str_join PySem.F.type_str_join zst (by trivial) (TY (RL (N:=["_law_k"]) (capt:=[none]) (sc0:=aD (top 79)) (by trivial) ⟨rfl,by decide +kernel,by decide +kernel⟩ (by decide +kernel) trivial rfl (λcl C fp s H=>(by trivial)) (λcl C fp s H=>M4) (λcl C fp s H=>(by trivial))) Yd)) nd) (by trivial))))))
def zq5:Ck T T7 "_law_side" 43 3:=dY (N:=[_,_,_,_,_]) 59 T.tb (hb:=by have:=zhf T;trivial)
def Fq:Ck T zgy "_law_stand" 44 5:=dY (N:=[_,_,_,_,_,_,_,_,_]) 60 T.tb (hb:=by have:=zhf T;have:=zq5 T;trivial)
def Le:Ck T zj5 "_law_next" 41 2:=dY (N:=[_,_,_,_]) 61 T.tb (hb:=by trivial)
def Lf:Ck T zi8 "_law_like" 44 4:=dY (N:=[_,_,_,_,_,_,_,_]) 62 T.tb (hb:=by intro _ _ _ _ _ _ hr nd;have:=zq5 T;exact (lq (zk4 4 (N:=["_law_stand_here","_law_rule"]) (capt:=[some 2,none]) (sc0:=aD (top 83)) (by trivial) ⟨rfl,by decide +kernel,by decide +kernel⟩ (by decide +kernel) ⟨⟨rfl,by first | exact Or.inl rfl | exact Or.inr rfl,rfl⟩,trivial⟩ rfl (λcl C fp s H=>(by trivial)) (λcl C fp s H=>(by trivial)) (λcl C fp s H=>(by trivial)) nd) (by trivial)))
def Lh:Ck T zjp "_law_came" 56 4:=dY (N:=[_,_,_,_,_,_,_,_,_,_]) 63 T.tb (hb:=by have:=Le T;have:=zmr T;have:=zju T;have:=zmv T;trivial)
def Ir:cu P w K mg base qj 65 Ad.xY Ad.xQ ["_law_script"] (vh K 1 zlu):=by
 have nd:=zrt.nd;refine cu.imp (yG (m:=znz) T.QQ zrt λcdv A outer s H hr=>?_) λvs H Q E h=>sO h;exact (by have:=Lg T;have:=Li T;have:=Fq T;have:=zkr T;have:=Lh T;have:=Lf T;exact (lq (by trivial) (lq (by trivial) (lq (by trivial) (lq (Bo (by trivial) (FW (RJ 5 (Jz zr4 (by trivial) (RL (N:=["_law_states","_law_k"]) (capt:=[some 5,none]) (sc0:=aD T3) (by trivial) ⟨rfl,by decide +kernel,by decide +kernel⟩ (by decide +kernel) ⟨⟨rfl,by first | exact Or.inl rfl | exact Or.inr rfl,rfl⟩,trivial⟩ rfl (λcl C fp s H=>(by trivial)) (λcl C fp s H=>(by trivial)) (λcl C fp s H=>(by trivial)))) nd)) zQ) (lq (RJ 6 (zsu T.rA T.v8 ((zj2 T).mono (by decide)) hr T.Ra T.zcq (by trivial) rfl rfl (by decide) rfl rfl (Mh (Mh (Mh zhn)))) nd) (by trivial)))))))
end
def all_mk{l:PySem.W.OpenLaw}{w:World}{K:PySem.W.Frag}{h:Heap}{mg:Str->Option Value}{fa f4 f8 f15 f40 f41 f50 f70:Addr}(X:K.In h)(G:h.Ns mainGlobals mg)(hfa:mg "law" = some (.ref fa))
  {od4 an4:Option Addr} {sl4:Array (Option Value)} {oc4 kV4 dc4 pm4 cd4 ct4:Value}
  {od8 an8:Option Addr} {sl8:Array (Option Value)} {oc8 kV8 dc8 pm8 ct8:Value}
  {adg abV:Option Addr} {acI:Array (Option Value)} {adk aa7 abG aaP abI:Value}
  {adf aeb:Option Addr} {acH:Array (Option Value)} {adi adv ad6 ada abQ ad8:Value}
  {ade aea:Option Addr} {acG:Array (Option Value)} {adh adu ad5 ac_ abP ad7:Value}
  {jH:Addr} (B_:PySem.W.nsIn K mainGlobals "Move" = some (some (.ref jH))) (Q6:PySem.W.plainGet K jH Str.empty=true) (Rg:PySem.W.hasDictIn K jH=true) (Q9:PySem.W.plainOver K jH=true) (Q0:PySem.W.findIn K (.ref jH) "__setattr__" = some (some (.builtin "object.__setattr__"))) (Rc:PySem.W.makesIn K jH=true) (Ri:PySem.W.keepIn K (.ref jH)=true)
  {j6:Addr} (Ca:PySem.W.nsIn K mainGlobals "Book" = some (some (.ref j6))) (Q7:PySem.W.plainGet K j6 Str.empty=true) (Rh:PySem.W.hasDictIn K j6=true) (Q_:PySem.W.plainOver K j6=true) (Q5:PySem.W.findIn K (.ref j6) "__setattr__" = some (some (.builtin "object.__setattr__"))) (Rf:PySem.W.makesIn K j6=true) (Rj:PySem.W.keepIn K (.ref j6)=true)
  {dT4:Addr} {ad2:Value} {ad0:Option Addr} {dn4:Nat} {adY:Tok} {adZ:Array (Option Value)}
  (a4:PySem.W.nsIn K mainGlobals "tree_run" = some (some (.ref f4))) (l4:K.lookup f4=some ⟨oc4,od4,.func (PySem.W.fnOf "tree_run" "tree_run" (bL RX) (a_ RX) (aD RX) (.ref dT4) kV4 dc4 pm4 an4 cd4 ct4),sl4⟩) (c4:PySem.W.codeIn K cd4 "tree_run" = true) (k4:PySem.W.keepIn K (.ref f4)=true) (ld4:K.lookup dT4=some ⟨ad2,ad0,.seq #[.int 1000 adY] dn4,adZ⟩)
  {q8:Addr}
  (a8:PySem.W.nsIn K mainGlobals "put_in" = some (some (.ref f8))) (l8:K.lookup f8=some ⟨oc8,od8,.func (PySem.W.fnOf "put_in" "put_in" (bL CT) (a_ CT) (aD CT) .none kV8 dc8 pm8 an8 (.ref q8) ct8),sl8⟩) (c8:PySem.W.codeIn K (.ref q8) "put_in" = true) (k8:PySem.W.keepIn K (.ref f8)=true) (h8:PySem.W.codeHdIn K q8 75=true) (n8:K.lookup 75=none)
  {q15:Addr}
  (a15:PySem.W.nsIn K mainGlobals "out_and_cost" = some (some (.ref f15))) (l15:K.lookup f15=some ⟨adk,adg,.func (PySem.W.fnOf "out_and_cost" "out_and_cost" (bL CQ) (a_ CQ) (aD CQ) .none aa7 abG aaP abV (.ref q15) abI),acI⟩) (c15:PySem.W.codeIn K (.ref q15) "out_and_cost" = true) (k15:PySem.W.keepIn K (.ref f15)=true) (h15:PySem.W.codeHdIn K q15 124=true) (n15:K.lookup 124=none)
  (a40:PySem.W.findIn K (.ref jH) "__init__" = some (some (.ref f40))) (i40:PySem.W.isFn K (.ref f40)=true) {d40:FuncData} (F40:CG K "__init__" "Move.__init__" zd2 f40 d40)
  (a41:PySem.W.findIn K (.ref jH) "deed" = some (some (.ref f41))) (i41:PySem.W.isFn K (.ref f41)=true) (l41:K.lookup f41=some ⟨adi,adf,.func (PySem.W.fnOf "deed" "Move.deed" (bL YH) (a_ YH) (aD YH) .none adv ad6 ada aeb abQ ad8),acH⟩) (c41:PySem.W.codeIn K abQ "Move.deed" = true) (k41:PySem.W.keepIn K (.ref f41)=true)
  (a50:PySem.W.findIn K (.ref j6) "__init__" = some (some (.ref f50))) (i50:PySem.W.isFn K (.ref f50)=true) {d50:FuncData} (F50:CG K "__init__" "Book.__init__" zb4 f50 d50)
  (a70:PySem.W.nsIn K mainGlobals "law" = some (some (.ref f70))) (l70:K.lookup f70=some ⟨adh,ade,.func (PySem.W.fnOf "law" "law" (bL T3) (a_ T3) (aD T3) .none adu ad5 ac_ aea abP ad7),acG⟩) (c70:PySem.W.codeIn K abP "law" = true) (k70:PySem.W.keepIn K (.ref f70)=true)
  {Nj:Tok} (wO:PySem.W.nsIn K mainGlobals "BLANK" = some (some (.str "_" Nj)))
  {yl:Tok} (lH:PySem.W.nsIn K mainGlobals "NO_THINGS" = some (some (.str "K" yl)))
  {lM:Addr} {tU:Option Addr} {tX:Nat} {tO:Array (Option Value)} {qI:Tok} {qH:Tok}
  (jQ:PySem.W.nsIn K mainGlobals "BARE_NAMES" = some (some (.ref lM)))
  (tG:K.lookup lM=some ⟨.type "tuple",tU,.seq #[.str "y" qI,.str "x" qH] tX,tO⟩)
  {lL:Addr} {tR:Option Addr} {tW:Nat} {tL:Array (Option Value)} {qG:Tok} {qF:Tok} {qD:Tok} {qC:Tok}
  (jP:PySem.W.nsIn K mainGlobals "DEED_NAMES" = some (some (.ref lL)))
  (tE:K.lookup lL=some ⟨.type "tuple",tR,.seq #[.str "n" qG,.str "f" qF,.str "l" qD,.str "r" qC] tW,tL⟩)
  {j7:Addr} {rO:Option Addr} {rP:Nat} {rN:Array (Option Value)} {pR:Tok} {o_:Tok}
  (jo:PySem.W.nsIn K mainGlobals "ENTRY_NAMES" = some (some (.ref j7)))
  (rJ:K.lookup j7=some ⟨.type "tuple",rO,.seq #[.str "f" pR,.str "v" o_] rP,rN⟩)
  {lK:Addr} {tQ:Option Addr} {tV:Nat} {tH:Array (Option Value)} {qz:Tok} {qy:Tok} {qx:Tok} {qw:Tok}
  (jO:PySem.W.nsIn K mainGlobals "FULL_NAMES" = some (some (.ref lK)))
  (tD:K.lookup lK=some ⟨.type "tuple",tQ,.seq #[.str "a" qz,.str "t" qy,.str "y" qx,.str "x" qw] tV,tH⟩)
  {qJ:Addr} {vG:Option Addr} {vJ:Nat} {vC:Array (Option Value)} {jR:Addr} {vD:Option Addr} {vI:Nat} {vz:Array (Option Value)} {t7:Tok} {t6:Tok} {tZ:Tok} {t_:Tok} {t8:Tok}
  (oZ:PySem.W.nsIn K mainGlobals "IDENTITY" = some (some (.ref qJ)))
  (vy:K.lookup qJ=some ⟨.type "tuple",vG,.seq #[.ref jR,.str "K" t_,.int 3 t8,.bool true] vJ,vC⟩)
  (vq:K.lookup jR=some ⟨.type "tuple",vD,.seq #[.str "S" t7,.str "K" t6,.int 2 tZ,.bool true] vI,vz⟩)
  {oU:Addr} {uB:Option Addr} {uC:Nat} {uA:Array (Option Value)} {rW:Tok} {rT:Tok} {rR:Tok} {rQ:Tok}
  (lG:PySem.W.nsIn K mainGlobals "ROW_NAMES" = some (some (.ref oU)))
  (ur:K.lookup oU=some ⟨.type "tuple",uB,.seq #[.str "l" rW,.str "s" rT,.str "r" rR,.str "f" rQ] uC,uA⟩)
  (U:Us K tbl) (Z:Zs K zs) (abZ:As K jH IK) (ab0:As K j6 IV)
  :∃fd:FuncData,(∀(s:Shared) (v:Value),BindsTo s fd ⟨[v],[]⟩ [("_law_script",v)])/\(∀p∈tabs,Lr K p.1 p.2)/\∀base:Heap,K.In base->base.Ns mainGlobals mg->BMain mg base->cu l.prog w K mg base qj 65 fa fd ["_law_script"] (vh K 1 zlu):=by
 have e:=hfa.symm.trans (aeY X G a70);cases e;have F4:=QL (st:=RX) l4 c4 k4;have F8:=BK (st:=CT) a8 l8 c8 k8;have F15:=BK (st:=CQ) a15 l15 c15 k15;have F41:=fun_mk (st:=YH) l41 c41 k41;have F70:=fun_mk (st:=T3) l70 c70 k70;have b4:=XC (x:="tree_run") (qual:="tree_run") (st:=RX) (ps:=["tree","most"]) (kV:=kV4) (doc:=dc4) (pm:=pm4) (cdv:=cd4) (ct:=ct4) (an:=an4) ld4 λus hl=>by obtain⟨_,_,rfl⟩:=us2 hl;exact⟨_,rfl,rfl⟩
 have bd4:=Rn (x:="tree_run") (qual:="tree_run") (st:=RX) (ps:=["tree","most"]) (kV:=kV4) (doc:=dc4) (pm:=pm4) (cdv:=cd4) (ct:=ct4) (an:=an4) ld4 λus hl=>by obtain⟨_,rfl⟩:=us1 (Nat.succ.inj hl);exact⟨_,rfl,rfl⟩
 have b8:Binds K (PySem.W.fnOf "put_in" "put_in" (bL CT) (a_ CT) (aD CT) .none kV8 dc8 pm8 an8 (.ref q8) ct8) ["term","puts"] []:=Binds.all λus hl=>by obtain⟨_,_,rfl⟩:=us2 hl;exact rfl
 have b15:Binds K (PySem.W.fnOf "out_and_cost" "out_and_cost" (bL CQ) (a_ CQ) (aD CQ) .none aa7 abG aaP abV (.ref q15) abI) ["name","term"] []:=Binds.all λus hl=>by obtain⟨_,_,rfl⟩:=us2 hl;exact rfl
 have b40:=F40.binds (ps:=["self","move","sign_trees"]) λ_ _ _ _ _ _ us hl=>by obtain⟨_,_,_,rfl⟩:=us3 hl;exact rfl
 have b41:=F41.binds (ps:=["self","sign","way"]) λ_ _ _ _ _ _ us hl=>by obtain⟨_,_,_,rfl⟩:=us3 hl;exact rfl
 have b50:=F50.binds (ps:=["self","rules","signs","states"]) λ_ _ _ _ _ _ us hl=>by obtain⟨_,_,_,_,rfl⟩:=us4 hl;exact rfl
 have b70:=F70.binds (ps:=["_law_script"]) λ_ _ _ _ _ _ us hl=>by obtain⟨_,rfl⟩:=us1 hl;exact rfl
 exact⟨_,λs v=>.of_eq rfl,List.forall_mem_cons.mpr ⟨Ac.aaf a15 l15 h15 n15,List.forall_mem_cons.mpr ⟨Ac.aaf a8 l8 h8 n8,List.forall_mem_nil _⟩⟩,λbase _ _ hB=>Ir (Ad:=⟨_,_,_,_,_,_,_,_,_,_,_,_,_,_,_,_⟩) ⟨hB,U.all X G,Z.all X G,abZ.all,ab0.all,F4,aeY X G a4,b4,⟨_,bd4⟩,F8,aeY X G a8,b8,F15,aeY X G a15,b15,F40,⟨Rc,a40,i40,Ri⟩,b40,F41,⟨a41,i41,k41⟩,b41,F50,⟨Rf,a50,i50,Rj⟩,b50,F70,aeY X G a70,b70,B_,aeY X G B_,⟨Q6,Rg,Q9,Q0⟩,Ca,aeY X G Ca,⟨Q7,Rh,Q_,Q5⟩,⟨_,aeY X G wO⟩,⟨_,aeY X G lH⟩,⟨_,aeY X G jQ,(aq.kt [.str "y",.str "x"] tG (yf (n:=2) (by decide)) (.cons ⟨_,rfl⟩ (.cons ⟨_,rfl⟩ .nil)) rfl (ao.c (aq.ks rfl) (ao.c (aq.ks rfl) ao.n)))⟩,⟨_,aeY X G jP,(aq.kt [.str "n",.str "f",.str "l",.str "r"] tE (yf (n:=4) (by decide)) (.cons ⟨_,rfl⟩ (.cons ⟨_,rfl⟩ (.cons ⟨_,rfl⟩ (.cons ⟨_,rfl⟩ .nil)))) rfl (ao.c (aq.ks rfl) (ao.c (aq.ks rfl) (ao.c (aq.ks rfl) (ao.c (aq.ks rfl) ao.n)))))⟩,⟨_,aeY X G jo,(aq.kt [.str "f",.str "v"] rJ (yf (n:=2) (by decide)) (.cons ⟨_,rfl⟩ (.cons ⟨_,rfl⟩ .nil)) rfl (ao.c (aq.ks rfl) (ao.c (aq.ks rfl) ao.n)))⟩,⟨_,aeY X G jO,(aq.kt [.str "a",.str "t",.str "y",.str "x"] tD (yf (n:=4) (by decide)) (.cons ⟨_,rfl⟩ (.cons ⟨_,rfl⟩ (.cons ⟨_,rfl⟩ (.cons ⟨_,rfl⟩ .nil)))) rfl (ao.c (aq.ks rfl) (ao.c (aq.ks rfl) (ao.c (aq.ks rfl) (ao.c (aq.ks rfl) ao.n)))))⟩,⟨_,aeY X G oZ,(aq.kt [.ref jR,.str "K",.int 3,.bl true] vy (yf (n:=4) (by decide)) (.cons rfl (.cons ⟨_,rfl⟩ (.cons ⟨_,rfl⟩ (.cons rfl .nil)))) rfl (ao.c (aq.kt [.str "S",.str "K",.int 2,.bl true] vq (yf (n:=4) (by decide)) (.cons ⟨_,rfl⟩ (.cons ⟨_,rfl⟩ (.cons ⟨_,rfl⟩ (.cons rfl .nil)))) rfl (ao.c (aq.ks rfl) (ao.c (aq.ks rfl) (ao.c aq.ki (ao.c aq.kb ao.n))))) (ao.c (aq.ks rfl) (ao.c aq.ki (ao.c aq.kb ao.n)))))⟩,⟨_,aeY X G lG,(aq.kt [.str "l",.str "s",.str "r",.str "f"] ur (yf (n:=4) (by decide)) (.cons ⟨_,rfl⟩ (.cons ⟨_,rfl⟩ (.cons ⟨_,rfl⟩ (.cons ⟨_,rfl⟩ .nil)))) rfl (ao.c (aq.ks rfl) (ao.c (aq.ks rfl) (ao.c (aq.ks rfl) (ao.c (aq.ks rfl) ao.n)))))⟩⟩⟩
end Law
set_option maxHeartbeats 0
namespace Law
open L2 M Tr
def yg(t:Tr)(st:ak):Gd [enc t] st=.ok (.bl (val t)) st:=by
 unfold Gd bA bx zg9;have h1:=Uc t st;cases t with
 | lf s=>simp[startM,h1,eY,val]
 | jn l r =>
  have j3:aN (enc (.jn l r)) (.int 3) st=.ok (.bl (val (.jn l r))) st:=by rw[enc];exact iw st 3 _ _ rfl
  generalize enc (.jn l r)=X at *;simp[startM,h1,j3,eY]
def zm9(t:Tr)(st:ak):zd1 [enc t] st=.ok (.int (lv t:Nat)) st:=by
 unfold zd1 bA bx zky;have h1:=Uc t st;cases t with
 | lf s=>simp[startM,h1,cT,eY,lv]
 | jn l r =>
  have j2:aN (enc (.jn l r)) (.int 2) st=.ok (.int (lv (.jn l r):Nat)) st:=by rw[enc];exact iw st 2 _ _ rfl
  generalize enc (.jn l r)=X at *;simp[startM,h1,cT,j2,eY]
def zr3(l r:Tr)(st:ak):zee [enc l,enc r] st=.ok (.bl (val (.jn l r))) st:=by
 unfold zee bA bx zig;have hv:=yg r st;rw[show startM 2 [enc l,enc r]=[some (enc l),some (enc r)] from rfl];cases hr:val r with
 | false =>
  rw[hr]at hv;have e:val (.jn l r)=false:=by
   cases q:val (.jn l r) with
   | false=>rfl
   | true=>rw[(RT q).2]at hr;cases hr
  simp[hv,cT,e,eY]
 | true =>
  rw[hr]at hv;have h1:=Uc l st;cases l with
  | lf s =>
   rw[Ug,hr];have e1:=zh0 799 (.lf s) [83] st;have e2:=zh0 799 (.lf s) [75] st;generalize enc (.lf s)=X at *;by_cases hs:s=[83]
   ·simp[hv,cT,h1,e1,hs,eY]
   ·by_cases ie:s=[75]
    ·simp[hv,cT,h1,e1,e2,hs,ie,eY]
    ·simp[hv,cT,h1,e1,e2,hs,ie,eY]
  | jn a b =>
   rw[Ub,hr];have j0:aN (enc (.jn a b)) (.int 0) st=.ok (enc a) st:=by rw[enc];exact iw st 0 _ _ rfl
   have j3:aN (enc (.jn a b)) (.int 3) st=.ok (.bl (val (.jn a b))) st:=by rw[enc];exact iw st 3 _ _ rfl
   have e1:=zh0 799 a [83] st;generalize enc (.jn a b)=X at *;cases a with
   | lf s =>
    by_cases hs:s=[83]
    ·subst hs;simp[hv,cT,h1,j0,j3,e1,uQ,eY]
    ·simp[hv,cT,h1,j0,j3,e1,hs,uQ,eY]
   | jn a c =>
    simp[hv,cT,h1,j0,j3,e1,uQ,eY]
def wK(l r:Tr)(st:ak):ql [enc l,enc r] st=.ok (enc (.jn l r)) st:=by
 unfold ql bA bx zog;have h1:=zm9 l st;have h2:=zm9 r st;have h3:=zr3 l r st;have hu1:=iV st.length l;have hu2:=iV st.length r;have e:enc (.jn l r)=.tup [enc l,enc r,.int ((lv l:Nat)+(lv r:Nat)),.bl (val (.jn l r))]:=by rw[enc,lv];simp
 rw[e];generalize enc l=X at *;generalize enc r=Y at *;simp[startM,h1,h2,h3,eY,hu1,hu2]
def iK:Fr->D
 | .fl r=>.tup [.non,enc r]
 | .fr l=>.tup [enc l,.non]
def znf(f:Fr)(t:Tr)(st:ak):YC [iK f,enc t] st=.ok (enc (fill f t)) st:=by
 unfold YC bA bx zlb;cases f with
 | fl r =>
  have h:=wK t r st;have hu:=iV st.length (.jn t r);have j0:aN (iK (.fl r)) (.int 0) st=.ok .non st:=iw st 0 _ _ rfl;have j1:aN (iK (.fl r)) (.int 1) st=.ok (enc r) st:=iw st 1 _ _ rfl;show _=R.ok (enc (.jn t r)) st;generalize enc (.jn t r)=Z at *;generalize iK (.fl r)=W at *;simp[startM,j0,j1,h,eY hu]
 | fr l =>
  have h:=wK l t st;have hu:=iV st.length (.jn l t);have hn:=KD l st;have j0:aN (iK (.fr l)) (.int 0) st=.ok (enc l) st:=iw st 0 _ _ rfl;show _=R.ok (enc (.jn l t)) st;generalize enc (.jn l t)=Z at *;generalize iK (.fr l)=W at *;simp[startM,j0,hn,h,eY hu]
def zrj(l r u:Tr)(st:ak)(h:fO l r=some u):zed [enc l,enc r] st=.ok (enc u) st:=by
 unfold zed bA bx ziv;have hu:=iV st.length u;cases l with
 | lf s=>rw[fO]at h;cases h
 | jn a b =>
  have j0:aN (enc (.jn a b)) (.int 0) st=.ok (enc a) st:=by rw[enc];exact iw st 0 _ _ rfl
  have j1:aN (enc (.jn a b)) (.int 1) st=.ok (enc b) st:=by rw[enc];exact iw st 1 _ _ rfl
  have e1:=zh0 799 a [75] st;cases a with
  | lf s =>
   rw[fO]at h
   split at h
   ·rename_i hs;subst hs;generalize enc (.jn (.lf [75]) b)=X at *;cases h;simp[startM,j0,j1,e1,eY hu]
   ·cases h
  | jn a c =>
   rw[fO]at h;cases h;have k1:aN (enc (.jn a c)) (.int 1) st=.ok (enc c) st:=by rw[enc];exact iw st 1 _ _ rfl
   have q1:=wK c r st;have q2:=wK b r st;have q3:=wK (.jn c r) (.jn b r) st;generalize enc (.jn (.jn a c) b)=X at *;generalize enc (.jn (.jn c r) (.jn b r))=Z at *;simp[startM,j0,j1,e1,k1,q1,q2,q3,eY hu]
def Hk{l r:Tr}(hl:val l=true)(hr:val r=true)(h:val (.jn l r)=false):(∃s,l=.lf s)\/∃u,fO l r=some u:=by
 cases l with
 | lf s=>exact .inl ⟨s,rfl⟩
 | jn a b =>
  refine .inr ?_;cases a with
  | jn a c=>exact⟨_,rfl⟩
  | lf s =>
   rw[Ug,gH,Bool.or_eq_true]at hl;rcases hl.2 with e | e
   ·have:val (.jn (.jn (.lf s) b) r)=true:=by rw[Ub,hr,Ug,hl.1];simp[uQ,eq_of_beq e]
    rw[this]at h;cases h
   ·exact⟨b,by rw[fO,aeT (eq_of_beq e)]⟩
def yj(b:Bool)(st:ak):cT (.bl b) st=some b:=dW rfl
def zsp(st:ak)(ds:List D)(d:D):jT (.loc st.length) [] (st++[.lst (ds++[d])])=.ok d (st++[.lst ds]):=by
 simp[jT]
def zrc(st:ak)(ds:List D):cT (.loc st.length) (st++[.lst ds])=some (!ds.isEmpty):=by
 simp[cT]
def zin(t:Tr)(n:Nat)(st:ak)(h:dp t+n<=900000) :
  YD [enc t,.int n] st=.ok (.tup [.str (if val (run n t).1=true then [118,97,108,117,101] else [111,110]),enc (run n t).1,.int ((run n t).2:Nat)]) st:=by
 unfold YD bA bx zcm;generalize hC:(oR (fu (aF ltV (vr 4) (vr 1))) _:MT)=C;generalize hB:(iJ (qm (az Gd [] (aj (vr 2) au))) (aJ 2 _) _:MS)=B;generalize hP:(aJ 2 (az YC [] (aj (iI "list" jT (vr 3)) (aj (vr 2) au))):MS)=P
 let E:Tr->Nat->aM:=λx k=>[some (enc t),some (.int n),some (enc x),some (.loc st.length),some (.int k)]
 let S:List Fr->ak:=λfs=>st++[.lst (fs.map iK)]
 have hE:∀x k,E x k=[some (enc t),some (.int n),some (enc x),some (.loc st.length),some (.int k)]:=λ_ _=>rfl;have fC:∀(x:Tr) (fs:List Fr) (k:Nat),C (E x k) (S fs)=.ok (decide (k<n) && (!fs.isEmpty || !val x)) (S fs):=by
  intro x fs k;have hv:=yg x (S fs);have ht:cT (.loc st.length) (S fs)=some (!fs.isEmpty):=by
   have:=zrc st (fs.map iK);rw[List.isEmpty_map]at this;exact this
  rw[<-hC,hE];generalize S fs=Z at *;generalize enc x=X at *;by_cases hk:k<n
  ·cases hf:fs.isEmpty with
   | false =>
    have ht:cT (.loc st.length) Z=some true:=by rw[ht,hf];rfl
    simp[hk,ht]
   | true =>
    have ht:cT (.loc st.length) Z=some false:=by rw[ht,hf];rfl
    simp[hk,ht,hv,yj]
  ·simp[hk]
 have fB1:∀(x:Tr) (gs:List Fr) (f:Fr) (k:Nat),val x=true->B (E x k) (S (gs++[f]))=.ok (.nx (E (fill f x) k)) (S gs):=by
  intro x gs f k hx;have hv:=yg x (S (gs++[f]));rw[hx]at hv;have hp:jT (.loc st.length) [] (S (gs++[f]))=.ok (iK f) (S gs):=by
   show jT (.loc st.length) [] (st++[.lst ((gs++[f]).map iK)])=_;rw[mL];exact zsp st (gs.map iK) (iK f)
  have ht:cM "list" (.loc st.length) (S (gs++[f]))=true:=by simp[S,cM]
  have hj:=znf f x (S gs);rw[<-hB,hE,hE];generalize S (gs++[f])=Z at *;generalize S gs=Z' at *;generalize enc x=X at *;simp[hv,yj,ht,hp,hj]
 have app:∀(fs:List Fr) (f:Fr),fs.length<1000000->aV (.loc st.length) [iK f] (S fs)=.ok .non (S (fs++[f])):=by
  intro fs f hl;have hl':(fs.map iK).length<1000000:=by rw[gq];exact hl
  show aV (.loc st.length) [iK f] (st++[.lst (fs.map iK)])=.ok .non (st++[.lst ((fs++[f]).map iK)]);rw[mL];generalize fs.map iK=L at *;simp[aV,hl']
 have isl:∀fs,cM "list" (.loc st.length) (S fs)=true:=λfs=>by simp[S,cM]
 have fB2:∀(l r:Tr) (fs:List Fr) (k:Nat),fs.length<1000000->val (.jn l r)=false->val l=false->B (E (.jn l r) k) (S fs)=.ok (.nx (E l k)) (S (fs++[.fl r])):=by
  intro l r fs k QF hv hl;have v1:=yg (.jn l r) (S fs);have v2:=yg l (S fs);have ap:=app fs (.fl r) QF;have ty:=isl fs;have j0:∀s,aN (enc (.jn l r)) (.int 0) s=.ok (enc l) s:=λs=>by rw[enc];exact iw s 0 _ _ rfl
  have j1:∀s,aN (enc (.jn l r)) (.int 1) s=.ok (enc r) s:=λs=>by rw[enc];exact iw s 1 _ _ rfl
  have ap':aV (.loc st.length) [.tup [.non,enc r]] (S fs)=.ok .non (S (fs++[.fl r])):=ap;rw[hv]at v1;rw[hl]at v2;rw[<-hB,hE,hE];generalize enc (.jn l r)=X at *;generalize S (fs++[.fl r])=Z' at *;generalize S fs=Z at *;simp[v1,v2,yj,j0,j1,ty,ap']
 have fB3:∀(l r:Tr) (fs:List Fr) (k:Nat),fs.length<1000000->val (.jn l r)=false->val l=true->val r=false->B (E (.jn l r) k) (S fs)=.ok (.nx (E r k)) (S (fs++[.fr l])):=by
  intro l r fs k QF hv hl hr;have v1:=yg (.jn l r) (S fs);have v2:=yg l (S fs);have v3:=yg r (S fs);have ap:=app fs (.fr l) QF;have ty:=isl fs;have j0:∀s,aN (enc (.jn l r)) (.int 0) s=.ok (enc l) s:=λs=>by rw[enc];exact iw s 0 _ _ rfl
  have j1:∀s,aN (enc (.jn l r)) (.int 1) s=.ok (enc r) s:=λs=>by rw[enc];exact iw s 1 _ _ rfl
  have ap':aV (.loc st.length) [.tup [enc l,.non]] (S fs)=.ok .non (S (fs++[.fr l])):=ap;rw[hv]at v1;rw[hl]at v2;rw[hr]at v3;rw[<-hB,hE,hE];generalize enc (.jn l r)=X at *;generalize S (fs++[.fr l])=Z' at *;generalize S fs=Z at *;simp[v1,v2,v3,yj,j0,j1,ty,ap']
 have fB4:∀(s:List Nat) (r:Tr) (fs:List Fr) (k:Nat),val (.jn (.lf s) r)=false->val r=true->B (E (.jn (.lf s) r) k) (S fs)=.ok (.bk (E (.jn (.lf s) r) k)) (S fs):=by
  intro s r fs k hv hr;have v1:=yg (.jn (.lf s) r) (S fs);have v2:=yg (.lf s) (S fs);have v3:=yg r (S fs);have j0:∀z,aN (enc (.jn (.lf s) r)) (.int 0) z=.ok (enc (.lf s)) z:=λz=>by rw[enc];exact iw z 0 _ _ rfl
  have j1:∀z,aN (enc (.jn (.lf s) r)) (.int 1) z=.ok (enc r) z:=λz=>by rw[enc];exact iw z 1 _ _ rfl
  have i1:=Uc (.lf s) (S fs);rw[hv]at v1;rw[hr]at v3;rw[<-hB,hE];generalize enc (.jn (.lf s) r)=X at *;generalize enc (.lf s)=X2 at *;generalize S fs=Z at *;simp[v1,v2,v3,yj,j0,j1,i1,val]
 have fB5:∀(l r u:Tr) (fs:List Fr) (k:Nat),val (.jn l r)=false->val l=true->val r=true->fO l r=some u->B (E (.jn l r) k) (S fs)=.ok (.nx (E u (k+1))) (S fs):=by
  intro l r u fs k hv hl hr hx;have v1:=yg (.jn l r) (S fs);have v2:=yg l (S fs);have v3:=yg r (S fs);have j0:∀z,aN (enc (.jn l r)) (.int 0) z=.ok (enc l) z:=λz=>by rw[enc];exact iw z 0 _ _ rfl
  have j1:∀z,aN (enc (.jn l r)) (.int 1) z=.ok (enc r) z:=λz=>by rw[enc];exact iw z 1 _ _ rfl
  have i1:wG "str" (enc l) (S fs)=.ok (.bl false) (S fs):=by
   cases l with
   | lf s=>rw[fO]at hx;cases hx
   | jn _ _=>exact Uc _ _
  have ch:=zrj l r u (S fs) hx;rw[hv]at v1;rw[hl]at v2;rw[hr]at v3;rw[<-hB,hE,hE];generalize enc (.jn l r)=X at *;generalize S fs=Z at *;simp[v1,v2,v3,yj,j0,j1,i1,ch]

 have W:∀(m:Nat) (x:Tr) (fs:List Fr) (k:Nat),k+m=n->good fs->dp (cQ fs x)+m<=900000 ->
   ∃x' wH,bG C B (E x k) (S fs)=.ok (.nx (E x' (k+(run m (cQ fs x)).2))) (S wH)/\cQ wH x'=(run m (cQ fs x)).1:=by
  intro m
  induction m with
  | zero =>
   intro x fs k hk hg hd;refine⟨x,fs,?_,rfl⟩;rw[yX,fC,show decide (k<n)=false from aeW (by omega)];simp[run]
  | succ m ih =>
   have hN:∀(x:Tr) (fs:List Fr) (k:Nat),val x=false->k+(m+1)=n->good fs->dp (cQ fs x)+(m+1)<=900000 ->
     ∃x' wH,bG C B (E x k) (S fs)=.ok (.nx (E x' (k+(run (m+1) (cQ fs x)).2))) (S wH)/\cQ wH x'=(run (m+1) (cQ fs x)).1:=by
    intro x
    induction x with
    | lf s=>intro fs k hv;simp[val]at hv
    | jn l r Zh Zg =>
     intro fs k hv hk hg hd;have QF:fs.length<1000000:=by have:=Oo fs (.jn l r);omega
     have hc:C (E (.jn l r) k) (S fs)=.ok true (S fs):=by
      rw[fC,hv,show decide (k<n)=true from ae3 (by omega)];simp
     rw[yX,hc,R.aB,aeT rfl];cases hl:val l with
     | false =>
      rw[fB2 l r fs k QF hv hl,R.aB];have e:cQ (fs++[.fl r]) l=cQ fs (.jn l r):=zgw fs (.fl r) l;have:=Zh (fs++[.fl r]) k hl hk (λf hf l' e'=>by
       rcases mC.mp hf with hf | hf
       ·exact hg f hf l' e'
       ·obtain rfl:f=.fl r:=by simpa using hf
        cases e') (by rw[e];exact hd)
      rw[e]at this;exact this
     | true =>
      cases hr:val r with
      | false =>
       rw[fB3 l r fs k QF hv hl hr,R.aB];have e:cQ (fs++[.fr l]) r=cQ fs (.jn l r):=zgw fs (.fr l) r;have:=Zg (fs++[.fr l]) k hr hk (λf hf l' e'=>by
        rcases mC.mp hf with hf | hf
        ·exact hg f hf l' e'
        ·obtain rfl:f=.fr l:=by simpa using hf
         cases e';exact hl) (by rw[e];exact hd)
       rw[e]at this;exact this
      | true =>
       have hs:=Dk (fs:=fs) hg hv;rw[zfd hl hr hv]at hs;rcases Hk hl hr hv with⟨s,rfl⟩ | ⟨u,hu⟩
       ·rw[fO]at hs;rw[fB4 s r fs k hv hr,R.aB,T9 hs];exact⟨_,fs,rfl,rfl⟩
       ·rw[hu]at hs;have hs:step (cQ fs (.jn l r))=some (cQ fs u):=hs;rw[fB5 l r u fs k hv hl hr hu,R.aB,zjl hs];have hd2:=zqc hs;obtain⟨x',wH,h1,h2⟩:=ih u fs (k+1) (by omega) hg (by omega);refine⟨x',wH,?_,h2⟩;dsimp only;rw[show k+((run m (cQ fs u)).2+1)=k+1+(run m (cQ fs u)).2 by omega];exact h1
   have hV:∀(q:Nat) (x:Tr) (fs:List Fr) (k:Nat),fs.length<=q->k+(m+1)=n->good fs->dp (cQ fs x)+(m+1)<=900000 ->
     ∃x' wH,bG C B (E x k) (S fs)=.ok (.nx (E x' (k+(run (m+1) (cQ fs x)).2))) (S wH)/\cQ wH x'=(run (m+1) (cQ fs x)).1:=by
    intro q
    induction q with
    | zero =>
     intro x fs k hq hk hg hd;obtain rfl:fs=[]:=nU.mp (by omega);cases hv:val x with
     | false=>exact hN x [] k hv hk hg hd
     | true =>
      refine⟨x,[],?_,?_⟩
      ·rw[yX,fC,hv,T9 (Yn (show val (cQ [] x)=true from hv))];simp
      ·rw[T9 (Yn (show val (cQ [] x)=true from hv))]
    | succ q ihq =>
     intro x fs k hq hk hg hd;cases hv:val x with
     | false=>exact hN x fs k hv hk hg hd
     | true =>
      by_cases hf:fs=[]
      ·subst hf;exact ihq x [] k (by simp) hk hg hd
      ·obtain⟨gs,f,rfl⟩:∃gs f,fs=gs++[f]:=⟨fs.dropLast,fs.getLast hf,(List.dropLast_concat_getLast hf).symm⟩;have hc:C (E x k) (S (gs++[f]))=.ok true (S (gs++[f])):=by
        rw[fC,show decide (k<n)=true from ae3 (by omega)];simp
       rw[yX,hc,R.aB,aeT rfl,fB1 x gs f k hv,R.aB];have e:cQ (gs++[f]) x=cQ gs (fill f x):=zgw gs f x;rw[e]at hd ⊢;exact ihq (fill f x) gs k (by simp at hq;omega) hk (λf' hf'=>hg f' (p7 _ hf')) hd
   intro x fs k hk hg hd;exact hV fs.length x fs k (gb _) hk hg hd

 have V:∀(q:Nat) (x:Tr) (fs:List Fr) (k:Nat),fs.length<=q->bG (qm (vr 3)) P (E x k) (S fs)=.ok (.nx (E (cQ fs x) k)) (S []):=by
  intro q
  induction q with
  | zero =>
   intro x fs k hq;obtain rfl:fs=[]:=nU.mp (by omega);have ht:=zrc st [];rw[yX,hE];simp only[aaA,vN,mJ,mY,R.aB,S,km,ht,List.isEmpty_nil,Bool.not_true,if_false,Bool.false_eq_true,aeU]
   rfl
  | succ q ihq =>
   intro x fs k hq;by_cases hf:fs=[]
   ·subst hf;exact ihq x [] k (by simp)
   ·obtain⟨gs,f,rfl⟩:∃gs f,fs=gs++[f]:=⟨fs.dropLast,fs.getLast hf,(List.dropLast_concat_getLast hf).symm⟩;have ht:cT (.loc st.length) (S (gs++[f]))=some true:=by
     have:=zrc st ((gs++[f]).map iK);rw[List.isEmpty_map,show (gs++[f]).isEmpty=false by simp]at this;exact this
    have hp:jT (.loc st.length) [] (S (gs++[f]))=.ok (iK f) (S gs):=by
     show jT (.loc st.length) [] (st++[.lst ((gs++[f]).map iK)])=_;rw[mL];exact zsp st (gs.map iK) (iK f)
    have hj:=znf f x (S gs);have ty:=isl (gs++[f]);have hb:P (E x k) (S (gs++[f]))=.ok (.nx (E (fill f x) k)) (S gs):=by
     rw[<-hP,hE,hE];generalize S (gs++[f])=Z at *;generalize S gs=Z' at *;simp[ty,hp,hj]
    have hc:qm (vr 3) (E x k) (S (gs++[f]))=.ok true (S (gs++[f])):=by
     rw[hE];generalize S (gs++[f])=Z at *;simp[ht]
    rw[yX,hc,R.aB,aeT rfl,hb,R.aB,zgw];exact ihq (fill f x) gs k (by simp at hq;omega)
 obtain⟨x',wH,h1,h2⟩:=W n t [] 0 (by omega) (λf hf=>absurd hf (kj)) (by show dp t+n<=_;exact h);rw[show cQ [] t=t from rfl]at h1 h2;have h3:=V wH.length x' wH (0+(run n t).2) (gb _);rw[h2]at h3;have h4:=yg (run n t).1 (S []);have hu:=iV st.length (run n t).1;have hS:S []=st++[.lst []]:=rfl;rw[hS]at h1 h3 h4;rw[hE]at h1 h3;rw[hE,nY]at h3;rw[nY]at h1;rw[hE]at h1;generalize (run n t).2=c at *;rw[show startM 5 [enc t,.int n]=[some (enc t),some (.int n),none,none,none] from rfl];cases hv:val (run n t).1 with
 | false =>
  rw[hv]at h4;generalize enc (run n t).1=Y at *;generalize S wH=Z at *;simp only[wW,zF,vN,mY,mJ,R.aB,pK,List.set_cons_succ,Hq,zG,mK,mD,if_true,N6];rw[show ((0:Int))=((0:Nat):Int) from rfl,h1];simp[h3,h4,yj];exact sJ (by simp[hu])
 | true =>
  rw[hv]at h4;generalize enc (run n t).1=Y at *;generalize S wH=Z at *;simp only[wW,zF,vN,mY,mJ,R.aB,pK,List.set_cons_succ,Hq,zG,mK,mD,if_true,N6];rw[show ((0:Int))=((0:Nat):Int) from rfl,h1];simp[h3,h4,yj];exact sJ (by simp[hu])
end Law
set_option maxHeartbeats 0
namespace M
def zlt{g:MG}{b:MS}{gs:List (Nat×MO)}{d:D}{r:List D}{env env1 bf:aM}{st st1 st2:ak}(ho:ue gs st)(hg:g d env st=.ok env1 st1)(hb:b env1 st1=.ok (.nx bf) st2) :
  cg g b gs (d::r) env st=cg g b gs r bf st2:=by
 rw[cg,aeT ho,hg,R.aB,hb,R.aB]
def Ew{g:MG}{b:MS}{gs:List (Nat×MO)}{env:aM}{st:ak}(ho:ue gs st):cg g b gs [] env st=.ok (.nx env) st:=by
 rw[cg,aeT ho]
namespace Tr
def uJ:Tr->List Tr
 | .lf s=>[.lf s]
 | .jn l r=>.jn l r::(uJ r++uJ l)
def y_:Tr->Nat
 | .lf _=>1
 | .jn l r=>y_ l+y_ r+1
def VM(t:Tr):y_ t+1=2*lv t:=by
 induction t with
 | lf s=>rfl
 | jn l r h1 h2=>rw[y_,lv];omega
def Gj(W:List Tr):Nat:=(W.map y_).sum
def yr(W:List Tr):List Tr:=(W.reverse.map uJ).flatten
def zmj(W:List Tr)(t:Tr):Gj (W++[t])=Gj W+y_ t:=by simp[Gj]
def zgq(W:List Tr)(t:Tr):yr (W++[t])=uJ t++yr W:=by simp[yr]
def znl(t:Tr):0<y_ t:=by cases t<;>simp[y_]
def zr8(W:List Tr):W.length<=Gj W:=by
 induction W with
 | nil=>simp[Gj]
 | cons y W ih=>have:=znl y;simp[Gj]at ih ⊢;omega
end Tr
end M
namespace Law
open L2 M Tr
def HB(st:ak)(O:List D)(ds:List D)(d:D):jT (.loc (st.length+1)) [] (st++[.lst O,.lst (ds++[d])])=.ok d (st++[.lst O,.lst ds]):=by simp[jT]
def Az(st:ak)(O P:List D)(ds:List D)(d:D):jT (.loc (st.length+2)) [] (st++[.lst O,.lst P,.lst (ds++[d])])=.ok d (st++[.lst O,.lst P,.lst ds]):=by simp[jT]
def znp(f:Tr->D)(P:Tr->Prop)(a b j1 j2:Nat)(da db:List D)(t:Tr)(st:ak)
  (ha:st[a]? = some (.clo j1 (j5 j1) da)) (hb:st[b]? = some (.clo j2 (j5 j2) db)) (hsz:lv t<=400000)
  (hf:∀(u:Tr) (n:Nat),under n (f u)) (hP:P t) (hPP:∀l r,P (.jn l r)->P l/\P r)
  (h1:∀(s:List Nat) (g:ak),P (.lf s)->GL j1 (da++[enc (.lf s)]) (bZ (st++g))=.ok (f (.lf s)) (bZ (st++g)))
  (h2:∀(l r:Tr) (g:ak),P (.jn l r)->GL j2 (db++[enc (.jn l r),f l,f r]) (bZ (st++g))=.ok (f (.jn l r)) (bZ (st++g))) :
  Gz [enc t,.loc a,.loc b] st=.ok (f t) st:=by
 have hN:y_ t<=800000:=by have:=VM t;omega
 unfold Gz bA bx zkp;generalize hB1:(aC (aJ 5 (iI "list" jT (vr 4))) _:MS)=B1;generalize hB2:(iJ (qm (zL (wG "str") (vr 5))) _ _:MS)=B2
 let E:Option D->aM:=λa5=>[some (enc t),some (.loc a),some (.loc b),some (.loc st.length),some (.loc (st.length+1)),a5,none,none,none]
 let S:List Tr->List Tr->ak:=λO W=>st++[.lst (O.map enc),.lst (W.map enc)]

 have aa5:∀(k:Nat) (O W:List Tr) (a5:Option D),Gj W<=k->O.length+Gj W<=800000->∃Gp,bG (qm (vr 4)) B1 (E a5) (S O W)=.ok (.nx (E Gp)) (S (O++yr W) []):=by
  intro k
  induction k with
  | zero =>
   intro O W a5 hk _;have hw:=zr8 W;cases W with
   | nil =>
    refine⟨a5,?_⟩;rw[yX];simp[E,S,cT,yr]
   | cons x W=>simp at hw;omega
  | succ k ih =>
   intro O W a5 hk hO;have hw:=zr8 W;rcases List.eq_nil_or_concat W with rfl | ⟨W,x,rfl⟩
   ·refine⟨a5,?_⟩;rw[yX];simp[E,S,cT,yr]
   ·rw[List.concat_eq_append]at *;rw[zmj]at hk hO hw;have hx:=znl x;rw[gJ,mH]at hw;have hl:=zr8 W;have c1:qm (vr 4) (E a5) (S O (W++[x]))=.ok true (S O (W++[x])):=by simp[E,S,cT]
    cases x with
    | lf s =>
     obtain⟨Gp,e⟩:=ih (O++[.lf s]) W (some (enc (.lf s))) (by simp[y_]at hk;omega) (by simp[y_]at hO ⊢;omega);refine⟨Gp,?_⟩;have b1:B1 (E a5) (S O (W++[.lf s]))=.ok (.nx (E (some (enc (.lf s))))) (S (O++[.lf s]) W):=by
      rw[<-hB1];have q1:=HB st (O.map enc) (W.map enc) (enc (.lf s));have hOl:(O.map enc).length<1000000:=by rw[gq];omega
      simp only[E,S,mL,gr,km];generalize O.map enc=O' at *;generalize W.map enc=W' at *;rw[show enc (.lf s)=.str s from rfl]at *;simp[cM,q1,aV,hOl,iG,cT]
     rw[yX,c1,R.aB,aeT rfl,b1,R.aB];dsimp only;rw[e,zgq,uJ,gY]
    | jn l r =>
     have ew:Gj ((W++[l])++[r])=Gj W+y_ l+y_ r:=by rw[zmj,zmj]
     have hl1:=znl l;have Zq:=znl r;rw[y_]at hk hO hw;obtain⟨Gp,e⟩:=ih (O++[.jn l r]) ((W++[l])++[r]) (some (enc (.jn l r))) (by rw[ew];omega) (by rw[ew,gJ,mH];omega);refine⟨Gp,?_⟩;have b1:B1 (E a5) (S O (W++[.jn l r]))=.ok (.nx (E (some (enc (.jn l r))))) (S (O++[.jn l r]) ((W++[l])++[r])):=by
      rw[<-hB1];have q1:=HB st (O.map enc) (W.map enc) (enc (.jn l r));have hOl:(O.map enc).length<1000000:=by rw[gq];omega
      have hWl:(W.map enc).length<1000000:=by rw[gq];omega
      have abv:(W.map enc++[enc l]).length<1000000:=by rw[gJ,gq,mH];omega
      have x0:∀s,aN (enc (.jn l r)) (.int 0) s=.ok (enc l) s:=λs=>by rw[enc];exact iw s 0 _ _ rfl
      have x1:∀s,aN (enc (.jn l r)) (.int 1) s=.ok (enc r) s:=λs=>by rw[enc];exact iw s 1 _ _ rfl
      have is1:=Uc (.jn l r);simp only[E,S,mL,gr,km];generalize O.map enc=O' at *;generalize W.map enc=W' at *;generalize enc (.jn l r)=J at *;generalize enc l=L at *;generalize enc r=R' at *;simp only[gJ,mH]at abv;simp[cM,q1,aV,hOl,is1,cT,x0,x1,hWl,abv]
     rw[yX,c1,R.aB,aeT rfl,b1,R.aB];dsimp only;rw[e,zgq,zgq,zgq,uJ];simp
 obtain⟨a5,e1⟩:=aa5 (Gj [t]) [] [t] none (gb _) (by simp[Gj];omega);have eo:yr [t]=uJ t:=by simp[yr]
 rw[mQ,eo]at e1

 let O:=(uJ t).map enc
 let E2:Option D->Option D->Option D->aM:=λa5 a7 a8=>[some (enc t),some (.loc a),some (.loc b),some (.loc st.length),some (.loc (st.length+1)),a5,some (.loc (st.length+2)),a7,a8]
 let S2:List D->ak:=λT=>st++[.lst O,.lst [],.lst T]
 have abx:∀T,(S2 T)[a]? = some (.clo j1 (j5 j1) da):=λT=>dG ha;have abw:∀T,(S2 T)[b]? = some (.clo j2 (j5 j2) db):=λT=>dG hb;have aa4:∀(u:Tr),P u->∀(rest T:List D) (a5 a7 a8:Option D),T.length+y_ u<=900000 ->
   ∃Gp a7' a8',cg (aO 5) B2 [(st.length,.lst O)] ((uJ u).reverse.map enc++rest) (E2 a5 a7 a8) (S2 T)=cg (aO 5) B2 [(st.length,.lst O)] rest (E2 Gp a7' a8') (S2 (T++[f u])):=by
  intro u
  induction u with
  | lf s =>
   intro hp rest T a5 a7 a8 hT;refine⟨some (enc (.lf s)),a7,a8,?_⟩;refine zlt (env1:=E2 (some (enc (.lf s))) a7 a8) (st1:=S2 T) (by simp[S2]) rfl ?_;rw[<-hB2];have hA:aj (vr 5) au (E2 (some (enc (.lf s))) a7 a8) (S2 T)=.ok [enc (.lf s)] (S2 T):=by simp[E2]
   have c1:=Ax (Λ:=j5) (G:=GL) (i:=1) (env:=E2 (some (enc (.lf s))) a7 a8) (st:=S2 T) (n:=a) rfl (abx T) hA (abx T) (h1 s _ hp) (hf _ _);have hTl:T.length<1000000:=by omega
   generalize f (.lf s)=F at *;rw[show enc (.lf s)=.str s from rfl]at *;simp only[E2,S2]at c1 ⊢;generalize O=O' at *;simp[iG,cT,cM,c1,aV,hTl]
  | jn l r Zh Zg =>
   intro hp rest T a5 a7 a8 hT;obtain⟨pl,pr⟩:=hPP l r hp;rw[y_]at hT;rw[uJ,nF,List.reverse_append,mL,mL,gY,gY];obtain⟨b5,b7,b8,q1⟩:=Zh pl ((uJ r).reverse.map enc++([Tr.jn l r].map enc++rest)) T a5 a7 a8 (by omega);obtain⟨c5,c7,c8,q2⟩:=Zg pr ([Tr.jn l r].map enc++rest) (T++[f l]) b5 b7 b8 (by simp;omega);rw[q1,q2];refine⟨some (enc (.jn l r)),some (f r),some (f l),?_⟩;refine zlt (env1:=E2 (some (enc (.jn l r))) c7 c8) (st1:=S2 (T++[f l]++[f r])) (by simp[S2]) rfl ?_;rw[<-hB2];have hA:aj (vr 5) (aj (vr 8) (aj (vr 7) au)) (E2 (some (enc (.jn l r))) (some (f r)) (some (f l))) (S2 T)=.ok [enc (.jn l r),f l,f r] (S2 T):=by simp[E2]
   have c1:=Ax (Λ:=j5) (G:=GL) (i:=2) (env:=E2 (some (enc (.jn l r))) (some (f r)) (some (f l))) (st:=S2 T) (n:=b) rfl (abw T) hA (abw T) (h2 l r _ hp) (hf _ _);have hTl:T.length<1000000:=by omega
   have is1:=Uc (.jn l r);have p1:=Az st O [] (T++[f l]) (f r);have p2:=Az st O [] T (f l);simp only[E2,S2]at c1 ⊢;generalize enc (.jn l r)=J at *;generalize f (.jn l r)=F at *;generalize f l=FL at *;generalize f r=FR at *;generalize O=O' at *;simp only[gY,List.singleton_append]at p1;simp[is1,cT,cM,c1,aV,hTl,p1,p2]
 obtain⟨b5,b7,b8,e2⟩:=aa4 t hP [] [] a5 none none (by simp;omega);rw[gB,mQ,Ew (by simp[S2])]at e2;have hu:=hf t st.length;have ix0:aN (.loc (st.length+2)) (.int 0) (S2 [f t])=.ok (f t) (S2 [f t]):=by simp[S2,aN,p_,zW]
 have lg:sy (S2 []) st.length=some (O,.lst O):=by simp[S2,sy]
 rw[show startM 9 [enc t,D.loc a,.loc b]=[some (enc t),some (.loc a),some (.loc b),none,none,none,none,none,none] from rfl];rw[pB]at e2;simp only[E,S,E2,S2,km,gr]at e1 e2 lg ix0;change _=R.ok _ (st++[.lst O,.lst []]) at e1;change cg (aO 5) B2 [(st.length,.lst O)] O.reverse _ _=_ at e2;generalize O=O' at *;generalize enc t=X at *;simp[e1,e2,lg,ix0];exact sJ hu
end Law
namespace M
namespace Tr
def iU(o:Option (Tr×Nat))(p:Tr):Tr×Nat:=match o with | some x=>x | none=>(.jn tK p,1)
def jd(x:List Nat):Tr->Bool
 | .lf s=>decide (s=x)
 | .jn _ _=>false
noncomputable def outF(x:List Nat):Tr->Option (Tr×Nat)
 | .lf s=>if s=x then some (tI,2) else none
 | .jn l r=>if (outF x l).isNone && (outF x r).isNone && val (.jn l r) then none
  else if (outF x l).isNone && jd x r then some (l,0)
  else some (.jn (.jn tS (iU (outF x l) l).1) (iU (outF x r) r).1,1+(iU (outF x l) l).2+(iU (outF x r) r).2)
def out(x:List Nat)(t:Tr):Tr×Nat:=iU (outF x t) t
end Tr
open Tr
def fU:Option (Tr×Nat)->D
 | none=>.non
 | some (t,n)=>.tup [enc t,.int n]
def zds(n:Nat)(o:Option (Tr×Nat)):under n (fU o):=by
 cases o with
 | none=>simp[fU]
 | some p=>simp[fU,iV]
def encC(p:Tr×Nat):D:=.tup [enc p.1,.int p.2]
def zfu(o:Option (Tr×Nat))(st:ak):fL (fU o) .non st=.ok (.bl o.isNone) st:=by
 cases o with
 | none=>rfl
 | some p=>rfl
def Dw(x:List Nat)(t:Tr)(st:ak):eN 800 (enc t) (.str x) st=.ok (.bl (jd x t)) st:=by
 have:=zh0 799 t x st;cases t with
 | lf s=>exact this
 | jn l r=>exact this
end M
namespace Law
open L2 M Tr
def zlj(x s:List Nat)(st:ak):zb9 [.str x,.str s] st=.ok (fU (outF x (.lf s))) st:=by
 have hu:=zds st.length (outF x (.lf s));unfold zb9 bA bx ze4;rw[outF]at *;by_cases h:s=x
 ·rw[aeT h]at *;subst h;simp[startM,fU];rw[show enc tI=.tup [.tup [.str [83],.str [75],.int 2,.bl true],.str [75],.int 3,.bl true] from rfl];exact eY (by simp)
 ·rw[aeU h]at *;simp[startM,fU,h,eY]
def zc7(o:Option (Tr×Nat))(p:Tr)(st:ak):YL [fU o,enc p] st=.ok (encC (iU o p)) st:=by
 have j:ql [.str [75],enc p] st=.ok (enc (.jn tK p)) st:=wK tK p st;have hn:=zfu o st;unfold YL bA bx zep;cases o with
 | none =>
  have hu:=iV st.length (.jn tK p);simp only[iU,encC];rw[show fU none=.non from rfl]at *;generalize enc (.jn tK p)=W at *;simp[startM,j]
  (refine eY ?_;simp[hu])
 | some q =>
  have hu:=zds st.length (some q);simp only[iU];rw[show fU (some q)=encC q from rfl]at *;generalize encC q=W at *;simp[startM,hn];exact eY hu
def zj4(x:List Nat)(l r:Tr)(st:ak):zb0 [.str x,enc (.jn l r),fU (outF x l),fU (outF x r)] st=.ok (fU (outF x (.jn l r))) st:=by
 have n1:=zfu (outF x l) st;have n2:=zfu (outF x r) st;have v1:=yg (.jn l r) st;have x0:aN (enc (.jn l r)) (.int 0) st=.ok (enc l) st:=by rw[enc];exact iw st 0 _ _ rfl
 have x1:aN (enc (.jn l r)) (.int 1) st=.ok (enc r) st:=by rw[enc];exact iw st 1 _ _ rfl
 have q1:=Dw x r st;have o1:=zc7 (outF x l) l st;have o2:=zc7 (outF x r) r st;have j1:ql [.str [83],enc (iU (outF x l) l).1] st=.ok (enc (.jn tS (iU (outF x l) l).1)) st:=wK tS _ st;have j2:=wK (.jn tS (iU (outF x l) l).1) (iU (outF x r) r).1 st;have hu:=zds st.length (outF x (.jn l r));have i10:aN (encC (iU (outF x l) l)) (.int 0) st=.ok (enc (iU (outF x l) l).1) st:=by rw[encC];exact iw st 0 _ _ rfl
 have i11:aN (encC (iU (outF x l) l)) (.int 1) st=.ok (.int ((iU (outF x l) l).2:Nat)) st:=by rw[encC];exact iw st 1 _ _ rfl
 have i20:aN (encC (iU (outF x r) r)) (.int 0) st=.ok (enc (iU (outF x r) r).1) st:=by rw[encC];exact iw st 0 _ _ rfl
 have i21:aN (encC (iU (outF x r) r)) (.int 1) st=.ok (.int ((iU (outF x r) r).2:Nat)) st:=by rw[encC];exact iw st 1 _ _ rfl
 unfold zb0 bA bx zer;rw[outF]at hu ⊢;generalize (outF x l)=ol at *;generalize (outF x r)=or' at *;generalize val (.jn l r)=vv at *;generalize jd x r=il at *;have aeC:(if ol.isNone && or'.isNone && vv then (none:Option (Tr×Nat)) else if ol.isNone && il then some (l,0) else some (.jn (.jn tS (iU ol l).1) (iU or' r).1,1+(iU ol l).2+(iU or' r).2))=(if ol.isNone && or'.isNone && vv then (none:Option (Tr×Nat)) else if ol.isNone && il then some (l,0) else some (.jn (.jn tS (iU ol l).1) (iU or' r).1,1+(iU ol l).2+(iU or' r).2)):=rfl;have u1:=iV st.length l;have u2:=iV st.length (.jn (.jn tS (iU ol l).1) (iU or' r).1);by_cases c1:(ol.isNone && or'.isNone && vv)=true
 ·rw[aeT c1];simp only[gH]at c1;rw[c1.1.1]at n1;rw[c1.1.2]at n2;rw[c1.2]at v1;generalize fU ol=OL at *;generalize fU or'=OR at *;generalize enc (.jn l r)=J at *;simp[startM,n1,n2,v1,cT,fU,eY]
 ·rw[aeU c1];by_cases c2:(ol.isNone && il)=true
  ·rw[aeT c2];simp only[gH]at c2;rw[c2.1]at n1 c1;rw[c2.2]at q1;have c1':or'.isNone=true->vv=false:=λh=>by rw[h]at c1;simpa using c1
   generalize or'.isNone=o2n at *;rw[show fU (some (l,0))=.tup [enc l,.int 0] from rfl];generalize fU ol=OL at *;generalize fU or'=OR at *;generalize enc (.jn l r)=J at *;generalize enc l=EL at *;cases o2n with
   | true =>
    rw[c1' rfl]at v1;simp[startM,n1,n2,v1,cT,x0,x1,q1]
    (refine eY ?_;simp[u1])
   | false =>
    simp[startM,n1,n2,cT,x0,x1,q1]
    (refine eY ?_;simp[u1])
  ·rw[aeU c2];rw[show fU (some (Tr.jn (.jn tS (iU ol l).1) (iU or' r).1,1+(iU ol l).2+(iU or' r).2))=.tup [enc (.jn (.jn tS (iU ol l).1) (iU or' r).1),.int ((1+(iU ol l).2+(iU or' r).2:Nat):Int)] from rfl];generalize hC1:iU ol l=C1 at *;generalize hC2:iU or' r=C2 at *;generalize fU ol=OL at *;generalize fU or'=OR at *;generalize ol.isNone=o1n at *;generalize or'.isNone=o2n at *;generalize enc (.jn (.jn tS C1.1) C2.1)=W at *;generalize enc (.jn tS C1.1)=W1 at *;generalize enc C1.1=W2 at *;generalize enc C2.1=W3 at *;generalize encC C1=Z1 at *;generalize encC C2=Z2 at *;generalize enc (.jn l r)=J at *;generalize enc l=EL at *;generalize enc r=ER at *;cases o1n<;>cases o2n<;>cases vv<;>cases il<;>first
    | (exact absurd rfl c1)
    | (exact absurd rfl c2)
    | (simp[startM,n1,n2,v1,cT,x0,x1,q1,o1,o2,i10,i11,i20,i21,j1,j2];refine eY ?_;simp[u2])
def zcy(x:List Nat)(t:Tr)(st:ak)(ht:st[1]? = some (.tab "out_and_cost"))(hc:aY st)(hl:lv t<=400000):RZ [.str x,enc t] st=.ok (encC (out x t)) st:=by
 have f1:Gz [enc t,.loc st.length,.loc (st.length+1)] (st++[.clo 2 (j5 2) [.str x],.clo 3 (j5 3) [.str x]])=.ok (fU (outF x t)) (st++[.clo 2 (j5 2) [.str x],.clo 3 (j5 3) [.str x]]):=by
  refine znp (λu=>fU (outF x u)) (λ_=>True) st.length (st.length+1) 2 3 [.str x] [.str x] t _ (by simp) (by simp) hl (λu n=>zds n _) trivial (λ_ _ _=>⟨trivial,trivial⟩) ?_ ?_
  ·intro s g _;have h:=zlj x s (bZ (st++[.clo 2 (j5 2) [.str x],.clo 3 (j5 3) [.str x]]++g));generalize bZ (st++[.clo 2 (j5 2) [.str x],.clo 3 (j5 3) [.str x]]++g)=Z at *;rw[show enc (.lf s)=.str s from rfl];simp[GL,uM,e_2,h]
  ·intro l r g _;have h:=zj4 x l r (bZ (st++[.clo 2 (j5 2) [.str x],.clo 3 (j5 3) [.str x]]++g));generalize bZ (st++[.clo 2 (j5 2) [.str x],.clo 3 (j5 3) [.str x]]++g)=Z at *;generalize enc (.jn l r)=J at *;simp[GL,uM,e_3,h]
 have o1:=zc7 (outF x t) t st;have hu:under st.length (encC (out x t)):=by simp[encC,iV]
 have c1:=zsd (Λ:=j5) (F:=Gz) (dd:=[]) (m:=lX (vr 1) (lA 2 [0] 1 "out_and_cost" (lA 3 [0] 1 "out_and_cost" vX))) (env:=[some (.str x),some (enc t),none]) (st:=st) (st1:=st) (st2:=st) (as:=[.v (enc t),.l 2 [0],.l 3 [0]]) (ds:=[enc t,.loc st.length,.loc (st.length+1)]) (os:=[.clo 2 (j5 2) [.str x],.clo 3 (j5 3) [.str x]]) (d:=fU (outF x t))
  (by simp[lX,lA,vX,ht]) hc (by simp[jU,yK]) (by rw[gB,f1];exact sJ (zds _ _)) hc
 unfold RZ bA bx za9;rw[show startM 3 [D.str x,enc t]=[some (.str x),some (enc t),none] from rfl];unfold out at hu ⊢;generalize jZ j5 Gz [] (lX (vr 1) (lA 2 [0] 1 "out_and_cost" (lA 3 [0] 1 "out_and_cost" vX)))=CL at c1 ⊢;generalize encC (iU (outF x t) t)=W at *;generalize fU (outF x t)=W2 at *;generalize enc t=X at *;simp[c1,o1];exact eY hu
def zl4(x:List Nat)(t:Tr)(st:ak)(ht:st[1]? = some (.tab "out_and_cost"))(hc:aY st)(hl:lv t<=400000):zb2 [.str x,enc t] st=.ok (enc (out x t).1) st:=by
 have h:=zcy x t st ht hc hl;have x0:aN (encC (out x t)) (.int 0) st=.ok (enc (out x t).1) st:=by rw[encC];exact iw st 0 _ _ rfl
 have hu:=iV st.length (out x t).1;unfold zb2 bA bx zf3;generalize enc (out x t).1=W at *;generalize encC (out x t)=W2 at *;generalize enc t=X at *;simp[startM,h,x0];exact eY hu
end Law
set_option maxHeartbeats 0
namespace M
namespace Tr
def stands(x:List Nat):Tr->Bool
 | .lf s=>decide (s=x)
 | .jn l r=>stands x l || stands x r
def zo0{x:List Nat}{t:Tr}(h:jd x t=true):stands x t=true:=by
 cases t with
 | lf s=>exact h
 | jn l r=>cases h
def zjw{x:List Nat}{t:Tr}:jd x t=true↔t=.lf x:=by
 cases t with
 | lf s=>simp[jd]
 | jn l r=>simp[jd]
theorem Ua(x:List Nat):∀t,(outF x t).isNone=(val t && !stands x t)
 | .lf s=>by
  rw[outF,stands,show val (.lf s)=true from rfl];by_cases h:s=x
  ·rw[aeT h];simp[h]
  ·rw[aeU h];simp[h]
 | .jn l r=>by
  have h1:=Ua x l;have h2:=Ua x r;rw[outF,stands];by_cases c:((outF x l).isNone && (outF x r).isNone && val (.jn l r))=true
  ·rw[aeT c];simp only[gH]at c;rw[h1,h2]at c;simp only[gH,nO]at c;rw[c.2,c.1.1.2,c.1.2.2];rfl
  ·rw[aeU c];have e:(if ((outF x l).isNone && jd x r)=true then some (l,0) else some (.jn (.jn tS (iU (outF x l) l).1) (iU (outF x r) r).1,1+(iU (outF x l) l).2+(iU (outF x r) r).2)).isNone=false:=by split<;>rfl
   rw[e]
   symm
   rw[pJ];by_cases hv:val (.jn l r)=true
   ·right;obtain⟨v1,v2⟩:=RT hv;rw[h1,h2,hv,v1,v2]at c;cases s1:stands x l<;>cases s2:stands x r<;>rw[s1,s2]at c<;>first | rfl | exact absurd rfl c
   ·left;simpa using hv
def zmu(x:List Nat){t:Tr}(h:jd x t=true):out x t=(tI,2):=by
 rw[zjw]at h;subst h;rw[out,outF,aeT rfl];rfl
def Yr(x:List Nat){t:Tr}(h:(val t && !stands x t)=true):out x t=(.jn tK t,1):=by
 rw[<-Ua]at h;rw[out,Option.isNone_iff_eq_none.mp h];rfl
def zgv(x:List Nat){l r:Tr}(h:(val l && !stands x l)=true)(hr:jd x r=true):out x (.jn l r)=(l,0):=by
 rw[<-Ua]at h;have h2:(outF x r).isNone=false:=by
  rw[Ua,zo0 hr];simp
 rw[out,outF,h,h2,hr];rfl
def zjd(x:List Nat){l r:Tr}(h1:(val (.jn l r) && !stands x (.jn l r))=false)(h2:((val l && !stands x l) && jd x r)=false):out x (.jn l r)=(.jn (.jn tS (out x l).1) (out x r).1,1+(out x l).2+(out x r).2):=by
 have e1:((outF x l).isNone && (outF x r).isNone && val (.jn l r))=false:=by
  rw[<-Ua]at h1;cases c:((outF x l).isNone && (outF x r).isNone && val (.jn l r)) with
  | false=>rfl
  | true =>
   rw[outF,aeT c]at h1;cases h1
 rw[<-Ua]at h2;rw[out,outF,aeU (by rw[e1];simp),aeU (by rw[h2];simp)]
 rfl
theorem yW(x:List Nat):∀t,val (out x t).1=true
 | .lf s=>by
  by_cases h:jd x (.lf s)=true
  ·rw[zmu x h];rfl
  ·have:stands x (.lf s)=false:=(show jd x (.lf s)=false by simpa using h);rw[Yr x (by rw[this];rfl)];rfl
 | .jn l r=>by
  by_cases h1:(val (.jn l r) && !stands x (.jn l r))=true
  ·rw[Yr x h1,eO];simp only[gH]at h1;exact h1.1
  ·by_cases h2:((val l && !stands x l) && jd x r)=true
   ·have h2':=h2;simp only[gH]at h2;rw[zgv x (by simp only[gH];exact h2.1) h2.2];exact h2.1.1
   ·rw[zjd x (by simpa using h1) (by simpa using h2),RG,yW x l,yW x r];rfl
end Tr
end M
namespace M
namespace Tr
theorem znh:∀m,outF [120] (cZ m (.lf [120]))=some (vQ m,DG m)
 | 0=>by rw[cZ,outF,aeT rfl];rfl
 | 1=>by rw[cZ,cZ,outF,outF,outF,aeT rfl,aeU (by decide)];rfl
 | m+2=>by
  have ih:=znh (m+1);rw[cZ,outF,ih];have h0:outF [120] tK=none:=by rw[outF,aeU (by decide)]
  have h1:jd [120] (cZ (m+1) (.lf [120]))=false:=rfl;rw[h0,h1];simp[iU,vQ,DG]
def zsw(m:Nat):out [120] (cZ m (.lf [120]))=(vQ m,DG m):=by unfold out;rw[znh];rfl
theorem znb(v:Tr):∀n,lv (cZ n v)=lv v+n
 | 0=>rfl
 | n+1=>by rw[cZ,lv,znb v n,show lv tK=1 from rfl];omega
end Tr
end M
namespace Law
open L2 M Tr
def ze6(n:Nat)(v:Tr)(st:ak)(hn:n<=1000000):M8 [.int n,enc v] st=.ok (enc (cZ n v)) st:=by
 unfold M8 bA bx zi5;generalize hB:(aJ 2 (az ql [] _):MS)=B;obtain⟨bY,st',h1,a3,rfl,rfl⟩:=yV (g:=aO 3) (b:=B) (gs:=[]) (items:=jq 0 n)
  (λi env s=>∃(a3:Option D),env=[some (.int n),some (enc v),some (enc (cZ i v)),a3]/\s=st)
  (env:=[some (.int n),some (enc v),some (enc v),none]) (st:=st) ⟨none,rfl,rfl⟩ (by
   rintro i d env s hi ⟨a3,rfl,rfl⟩;obtain⟨Zu,rfl⟩:=zhv hi;have j1:ql [.str [75],enc (cZ i v)] s=.ok (enc (cZ (i+1) v)) s:=wK tK _ s;refine⟨by simp,_,_,rfl,[some (.int n),some (enc v),some (enc (cZ (i+1) v)),some (.int (0+(i:Int)))],s,.inl ?_,_,rfl,rfl⟩;rw[<-hB];generalize enc (cZ (i+1) v)=W at *;generalize enc (cZ i v)=W1 at *;generalize enc v=V at *;simp[j1]) (λ_ _ _=>by simp)
 rw[T8]at h1;have hu:=iV st'.length (cZ n v);have Zq:-4611686018427387904<=(n:Int):=by omega
 have W4:(n:Int)<4611686018427387904:=by omega
 rw[show startM 4 [D.int n,enc v]=[some (.int n),some (enc v),none,none] from rfl];generalize enc (cZ n v)=W at *;generalize enc v=V at *;simp[Zq,W4,h1];exact eY hu
def znk(k many:Nat)(st:ak)(ht:st[1]? = some (.tab "out_and_cost"))(hc:aY st)(hk:k<many)(hm:many<=300000):M6 [.int k,.int many] st=.ok (enc (bV k many)) st:=by
 have u1:M8 [.int ((many - 1 - k:Nat):Int),.str [120]] st=.ok (enc (cZ (many - 1 - k) (.lf [120]))) st:=ze6 (many - 1 - k) (.lf [120]) st (by omega);have t1:=zl4 [120] (cZ (many - 1 - k) (.lf [120])) st ht hc (by rw[znb,show lv (.lf [120])=1 from rfl];omega);rw[zsw]at t1;have u2:=ze6 k (vQ (many - 1 - k)) st (by omega);have hu:=iV st.length (bV k many);have e1:(many:Int) - 1 - (k:Int)=((many - 1 - k:Nat):Int):=by omega
 unfold M6 bA bx zsf;unfold bV at hu ⊢;generalize many - 1 - k=m at *;generalize enc (cZ k (vQ m))=W at *;generalize enc (cZ m (.lf [120]))=W1 at *;generalize enc (vQ m)=W2 at *;simp[startM,e1,u1,t1,u2];exact eY hu
end Law
namespace M
namespace Tr
def adX:enc tI=.tup [.tup [.str [83],.str [75],.int 2,.bl true],.str [75],.int 3,.bl true]:=by rfl
def jh:List Tr->Tr
 | []=>tK
 | t::ts=>.jn tK (hold [t,jh ts])
theorem znd:∀{ts:List Tr},(∀t∈ts,val t=true)->val (jh ts)=true
 | [],_=>rfl
 | t::ts,h=>by
  have ih:=znd (ts:=ts) λx hx=>h x (by simp[hx]);rw[jh,eO];exact Gx (by simp[h t (by simp),ih])
end Tr
end M
namespace Law
open L2 M Tr
def Qa(t:Tr)(st:ak)(h:val t=true):zjz [enc t] st=.ok (enc (.jn tK t)) st:=by
 have h1:=yg t st;have h2:ql [.str [75],enc t] st=.ok (enc (.jn tK t)) st:=wK tK t st;have hu:=iV st.length (.jn tK t);rw[h]at h1;unfold zjz bA bx zqr;generalize enc (.jn tK t)=W at *;simp[startM,h1,h2,eY,hu,cT]
def zoe(ts:List Tr)(n:Nat)(st:ak)(h:st[n]? = some (.lst (ts.map enc)))(hv:∀t∈ts,val t=true):Mf [.loc n] st=.ok (enc (hold ts)) st:=by
 unfold Mf bA bx zlv;rw[<-adX];generalize hB:(aJ 1 (az ql [] _):MS)=B;obtain⟨bY,st',h1,a2,rfl,rfl⟩:=yV (g:=aO 2) (b:=B) (gs:=[(n,.lst (ts.map enc))]) (items:=ts.map enc)
  (λi env s=>∃(a2:Option D),env=[some (.loc n),some (enc (hold (ts.take i))),a2]/\s=st)
  (env:=[some (.loc n),some (enc tI),none]) (st:=st) ⟨none,rfl,rfl⟩ (by
   rintro i d env s hi ⟨a2,rfl,rfl⟩;obtain⟨t,ht,rfl⟩:=Gr hi;have e:=zfh (ts.take i) t;have e2:ts.take (i+1)=ts.take i++[t]:=by rw[kO,ht];rfl
   have j1:ql [.str [83],enc (hold (ts.take i))] s=.ok (enc (.jn tS (hold (ts.take i)))) s:=wK tS _ s;have j2:=wK (.jn tS (hold (ts.take i))) (.jn tK t) s;have k1:=Qa t s (hv t (gW ht));refine⟨by simp[h],_,_,rfl,[some (.loc n),some (enc (hold (ts.take (i+1)))),some (enc t)],s,.inl ?_,_,rfl,rfl⟩;rw[<-hB,e2,e];generalize enc (.jn (.jn tS (hold (ts.take i))) (.jn tK t))=W at *;generalize enc (.jn tS (hold (ts.take i)))=W1 at *;generalize enc (.jn tK t)=W2 at *;simp[j1,j2,k1]) (λ_ _ zz=>by obtain⟨_,_,q⟩:=zz;subst q;simp[h])
 rw[gq,my]at h1;have hu:=iV st'.length (hold ts);rw[show startM 3 [D.loc n]=[some (.loc n),none,none] from rfl];generalize enc tI=W at *;simp[h,h1,eY,hu]
def qT(ts:List Tr)(ds:List D)(e:ds=ts.map enc)(st:ak)(hv:∀t∈ts,val t=true):Mf [.loc st.length] (st++[.lst ds])=.ok (enc (hold ts)) (st++[.lst ds]):=by
 subst e;exact zoe ts st.length _ (by simp) hv
def zqf(a b c:Tr)(st:ak)(ha:val a=true)(hb:val b=true)(hc:val c=true):Yq [enc a,enc b,enc c] st=.ok (enc (hold [a,b,c])) st:=by
 have h1:=qT [a,b,c] [enc a,enc b,enc c] rfl st (by simp[ha,hb,hc]);have hu:=iV st.length (hold [a,b,c]);unfold Yq bA bx zsk;generalize enc (hold [a,b,c])=W at *;simp[startM,h1];exact sJ hu
def zok(a b c d:Tr)(st:ak)(ha:val a=true)(hb:val b=true)(hc:val c=true)(hd:val d=true):zd4 [enc a,enc b,enc c,enc d] st=.ok (enc (hold [a,b,c,d])) st:=by
 have h1:=qT [a,b,c,d] [enc a,enc b,enc c,enc d] rfl st (by simp[ha,hb,hc,hd]);have hu:=iV st.length (hold [a,b,c,d]);unfold zd4 bA bx zkz;generalize enc (hold [a,b,c,d])=W at *;simp[startM,h1];exact sJ hu
def zhm(a b:Tr)(st:ak)(ha:val a=true)(hb:val b=true):Ui [enc a,enc b] st=.ok (enc (.jn tK (hold [a,b]))) st:=by
 have h1:=qT [a,b] [enc a,enc b] rfl st (by simp[ha,hb]);have h2:∀s,M8 [.int 1,enc (hold [a,b])] s=.ok (enc (.jn tK (hold [a,b]))) s:=λs=>ze6 1 (hold [a,b]) s (by decide);have hu:=iV st.length (.jn tK (hold [a,b]));unfold Ui bA bx zgg;generalize enc (.jn tK (hold [a,b]))=W at *;generalize enc (hold [a,b])=W1 at *;simp[startM,h1,h2];exact sJ hu
def Av{α:Type}{l:List α}{i:Nat}{x:α}(h:l.reverse[i]? = some x):i<l.length/\l.drop (l.length - (i+1))=x::l.drop (l.length - i):=by
 have hi:i<l.length:=by have:=(gf.mp h).1;simpa using this
 refine⟨hi,?_⟩;rw[pA hi]at h;have hl:l.length - (i+1)<l.length:=by omega
 rw[nH hl,show l.length - (i+1)+1=l.length - i by omega];have e:l.length - 1 - i=l.length - (i+1):=by omega
 rw[e,gM hl]at h;cases h;rfl
def zps(ts:List Tr)(n:Nat)(st:ak)(h:st[n]? = some (.lst (ts.map enc)))(hv:∀t∈ts,val t=true):Yz [.loc n] st=.ok (enc (jh ts)) st:=by
 unfold Yz bA bx zij;generalize hB:(aJ 1 (az Ui [] _):MS)=B;have hS:(.str [75]:D)=enc tK:=rfl;obtain⟨bY,st',h1,a2,rfl,rfl⟩:=yV (g:=aO 2) (b:=B) (gs:=[(n,.lst (ts.map enc))]) (items:=(ts.map enc).reverse)
  (λi env s=>∃(a2:Option D),env=[some (.loc n),some (enc (jh (ts.drop (ts.length - i)))),a2]/\s=st)
  (env:=[some (.loc n),some (.str [75]),none]) (st:=st) ⟨none,by simp[jh,hS],rfl⟩ (by
   rintro i d env s hi ⟨a2,rfl,rfl⟩;rw[<-pB]at hi;obtain⟨t,ht,rfl⟩:=Gr hi;obtain⟨hl,e⟩:=Av ht;have hm:t∈ts:=by have:=gW ht;simpa using this
   have hd:∀x∈ts.drop (ts.length - i),val x=true:=λx hx=>hv x (m_ hx);have k1:=zhm t (jh (ts.drop (ts.length - i))) s (hv t hm) (znd hd);refine⟨by simp[h],_,_,rfl,[some (.loc n),some (enc (jh (ts.drop (ts.length - (i+1))))),some (enc t)],s,.inl ?_,_,rfl,rfl⟩;rw[<-hB,e,jh];generalize enc (.jn tK (hold [t,jh (ts.drop (ts.length - i))]))=W at *;generalize enc (jh (ts.drop (ts.length - i)))=W1 at *;simp[k1]) (λ_ _ zz=>by obtain⟨_,_,q⟩:=zz;subst q;simp[h])
 rw[pH,gq,Nat.sub_self,List.drop_zero]at h1;have hu:=iV st'.length (jh ts);have lg:sy st' n=some (ts.map enc,.lst (ts.map enc)):=by simp[sy,h]
 rw[show startM 3 [D.loc n]=[some (.loc n),none,none] from rfl];generalize ts.map enc=X at *;simp[lg,h1,eY,hu]
end Law
set_option maxHeartbeats 0
namespace M
namespace Tr
def sb(f:List Nat->Option Tr):Tr->Tr
 | .lf s=>(f s).getD (.lf s)
 | .jn l r=>.jn (sb f l) (sb f r)
structure Sub(f:List Nat->Option Tr):Prop where
 v:∀s t,f s=some t->val t=true
 S:f [83]=none
 K:f [75]=none
def yq{f:List Nat->Option Tr}{s:List Nat}(h:f s=none):sb f (.lf s)=.lf s:=by rw[sb,h];rfl
def Nx{f:List Nat->Option Tr}(h:Sub f):sb f tS=tS:=yq h.S
def U0{f:List Nat->Option Tr}(h:Sub f):sb f tK=tK:=yq h.K
def acK{f:List Nat->Option Tr}(h:Sub f):sb f tI=tI:=by
 show Tr.jn (.jn (sb f tS) (sb f tK)) (sb f tK)=_;rw[Nx h,U0 h]
theorem yd{f:List Nat->Option Tr}(h:Sub f):∀{t:Tr},val t=true->val (sb f t)=true
 | .lf s,_=>by
  rw[sb];cases e:f s with
  | none=>rfl
  | some t=>exact h.v s t e
 | .jn l r,hv=>by
  obtain⟨v1,v2⟩:=RT hv;have i2:=yd h v2;cases l with
  | lf s =>
   rw[Ug,gH,Bool.or_eq_true]at hv;have hs:s=[83]\/s=[75]:=hv.2.imp (λe=>eq_of_beq e) (λe=>eq_of_beq e);rcases hs with rfl | rfl
   ·rw[sb,yq h.S,GC];exact i2
   ·rw[sb,yq h.K,eO];exact i2
  | jn a b =>
   rw[Ub,gH,gH]at hv;obtain⟨_,hj,_⟩:=hv;cases a with
   | jn c d=>simp[uQ]at hj
   | lf s =>
    have hs:s=[83]:=by simpa[uQ] using hj
    subst hs;have i1:=yd h v1;have e1:sb f (.jn (.lf [83]) b)=.jn tS (sb f b):=by rw[sb,yq h.S]
    rw[e1,GC]at i1;rw[sb,e1,RG,i2,i1];rfl
theorem Z_{f g:List Nat->Option Tr}{x:List Nat}(J9:∀s,s≠x->f s=g s):∀{t:Tr},stands x t=false->sb f t=sb g t
 | .lf s,h=>by
  have:s≠x:=by simpa[stands] using h
  rw[sb,sb,J9 s this]
 | .jn l r,h=>by
  rw[stands,Bool.or_eq_false_iff]at h;rw[sb,sb,Z_ J9 h.1,Z_ J9 h.2]
theorem Ev.inv:∀{n:Nat} {l r v:Tr},Ev (.jn l r) n v->∃n1 n2 n3 a b,Ev l n1 a/\Ev r n2 b/\Ev (.jn a b) n3 v/\n=n1+n2+n3
 | 0,l,r,v,h=>by
  obtain⟨h1,h2⟩:=h;rw[iT]at h1;cases h1;obtain⟨v1,v2⟩:=RT h2;exact⟨0,0,0,l,r,Ev.v v1,Ev.v v2,Ev.v h2,rfl⟩
 | n+1,l,r,v,h=>by
  cases vl:val l with
  | false =>
   obtain⟨h1,h2⟩:=h;have e:=zg2 (r:=r) vl;cases sl:step l with
   | none=>rw[iT,e,sl]at h1;cases h1
   | some l' =>
    rw[sl]at e;rw[vp (u:=.jn l' r) e]at h1;obtain⟨n1,n2,n3,a,b,q1,q2,q3,q4⟩:=Ev.inv (n:=n) ⟨h1,h2⟩;exact⟨n1+1,n2,n3,a,b,⟨by rw[vp sl];exact q1.1,q1.2⟩,q2,q3,by omega⟩
  | true =>
   cases vr:val r with
   | false =>
    obtain⟨h1,h2⟩:=h;have e:=zfi vl vr;cases sr:step r with
    | none=>rw[iT,e,sr]at h1;cases h1
    | some r' =>
     rw[sr]at e;rw[vp (u:=.jn l r') e]at h1;obtain⟨n1,n2,n3,a,b,q1,q2,q3,q4⟩:=Ev.inv (n:=n) ⟨h1,h2⟩;have:n1=0/\l=a:=Ev.det (Ev.v vl) q1 |>.imp (λz=>z.symm) id;exact⟨n1,n2+1,n3,a,b,q1,⟨by rw[vp sr];exact q2.1,q2.2⟩,q3,by omega⟩
   | true=>exact⟨0,0,n+1,l,r,Ev.v vl,Ev.v vr,h,by omega⟩
def Ev.adb{u v w x:Tr}{n:Nat}(hv:val (.jn (.jn tS u) v)=true)(hw:val w=true)(h:Ev (.jn (.jn (.jn tS u) v) w) n x):∃k,n=k+1/\Ev (.jn (.jn u w) (.jn v w)) k x:=by
 have e:step (.jn (.jn (.jn tS u) v) w)=some (.jn (.jn u w) (.jn v w)):=by rw[zfd hv hw (Yk u v w)];rfl
 cases n with
 | zero =>
  obtain⟨h1,h2⟩:=h;rw[iT]at h1;cases h1;rw[Yk]at h2;cases h2
 | succ n =>
  obtain⟨h1,h2⟩:=h;rw[vp e]at h1;exact⟨n,rfl,h1,h2⟩
def sim{f g:List Nat->Option Tr}{x:List Nat}{V:Tr}(hg:Sub g)(hf:Sub f)(hx:f x=some V)(J9:∀s,s≠x->f s=g s)(hV:val V=true):∀(t:Tr) (n:Nat) (v:Tr),
  Ev (.jn (sb g (out x t).1) V) n v ↔ ∃k,n=k+(out x t).2/\Ev (sb f t) k v:=by
 have Zy:Ev V 0 V:=Ev.v hV;have cst:∀(t:Tr),(val t && !stands x t)=true->∀n v,Ev (.jn (sb g (.jn tK t)) V) n v ↔ ∃k,n=k+1/\Ev (sb f t) k v:=by
  intro t ht n v;simp only[gH,nO]at ht;have e1:sb f t=sb g t:=Z_ J9 ht.2;have v1:=yd hg ht.1;have e2:sb g (.jn tK t)=.jn tK (sb g t):=by rw[sb,U0 hg]
  have base:Ev (.jn (sb g (.jn tK t)) V) 1 (sb g t):=by
   rw[e2];exact ((Ev.v (v:=.jn tK (sb g t)) (by rw[eO];exact v1)).K Zy).to (by omega)
  rw[e1];constructor
  ·intro h;obtain⟨q1,q2⟩:=base.det h;subst q1 q2;exact⟨0,rfl,Ev.v v1⟩
  ·rintro ⟨k,rfl,h⟩;obtain⟨q1,q2⟩:=(Ev.v v1).det h;subst q1 q2;exact base
 intro t
 induction t with
 | lf s =>
  intro n v;by_cases h0:jd x (.lf s)=true
  ·rw[zmu x h0];rw[zjw]at h0;cases h0;have e1:sb f (.lf x)=V:=by rw[sb,hx];rfl
   rw[e1,show sb g (tI,2).1=tI from acK hg];have base:Ev (.jn tI V) 2 V:=Ev.I Zy;constructor
   ·intro h;obtain⟨q1,q2⟩:=base.det h;subst q1 q2;exact⟨0,rfl,Zy⟩
   ·rintro ⟨k,rfl,h⟩;obtain⟨q1,q2⟩:=Zy.det h;subst q1 q2;exact base
  ·have hs:stands x (.lf s)=false:=(show jd x (.lf s)=false by simpa using h0);have hc:(val (.lf s) && !stands x (.lf s))=true:=by rw[hs];rfl
   rw[Yr x hc];exact cst _ hc n v
 | jn l r Zh Zg =>
  intro n v;by_cases h1:(val (.jn l r) && !stands x (.jn l r))=true
  ·rw[Yr x h1];exact cst _ h1 n v
  ·by_cases h2:((val l && !stands x l) && jd x r)=true
   ·simp only[gH,nO]at h2;rw[zgv x (by simp only[gH,nO];exact h2.1) h2.2];obtain⟨⟨_,hs⟩,hr⟩:=h2;rw[zjw]at hr;subst hr;have e1:sb f (.jn l (.lf x))=.jn (sb g l) V:=by rw[sb,Z_ J9 hs,show sb f (.lf x)=V by rw[sb,hx];rfl]
    rw[e1];exact⟨λh=>⟨n,rfl,h⟩,λzz=>by obtain⟨k,e,h⟩:=zz;subst e;exact h⟩
   ·rw[zjd x (by simpa using h1) (by simpa using h2)];have e1:sb g (.jn (.jn tS (out x l).1) (out x r).1)=.jn (.jn tS (sb g (out x l).1)) (sb g (out x r).1):=by rw[sb,sb,Nx hg]
    have vA:=yd hg (yW x l);have vB:=yd hg (yW x r);have vS:val (.jn (.jn tS (sb g (out x l).1)) (sb g (out x r).1))=true:=by rw[RG,vA,vB];rfl
    rw[show (Tr.jn (.jn tS (out x l).1) (out x r).1,1+(out x l).2+(out x r).2).1=Tr.jn (.jn tS (out x l).1) (out x r).1 from rfl,e1];show _ ↔ ∃k,n=k+(1+(out x l).2+(out x r).2)/\Ev (.jn (sb f l) (sb f r)) k v;constructor
    ·intro h;obtain⟨k,rfl,h'⟩:=Ev.adb vS hV h;obtain⟨n1,n2,n3,a,b,q1,q2,q3,rfl⟩:=h'.inv;obtain⟨k1,rfl,p1⟩:=(Zh n1 a).mp q1;obtain⟨k2,rfl,p2⟩:=(Zg n2 b).mp q2;exact⟨k1+k2+n3,by omega,p1.comp p2 q3⟩
    ·rintro ⟨k,rfl,h⟩;obtain⟨n1,n2,n3,a,b,q1,q2,q3,rfl⟩:=h.inv;have p1:=(Zh (n1+(out x l).2) a).mpr ⟨n1,rfl,q1⟩;have p2:=(Zg (n2+(out x r).2) b).mpr ⟨n2,rfl,q2⟩;exact ((Ev.v vS).S Zy (p1.comp p2 q3)).to (by omega)
end Tr
end M
namespace M
open Tr
def aW(σ:List (List Nat×Tr)):List (L2.Key×D):=σ.map λp=>(.inr (strOf p.1),enc p.2)
def look(σ:List (List Nat×Tr))(s:List Nat):Option Tr:=(σ.find? λp=>decide (p.1=s)).map (·.2)
def L_{a b:List Nat}:(strOf a=strOf b)↔a=b:=by
 constructor
 ·intro h;injection h with h;simpa using congrArg Array.toList h
 ·intro h;rw[h]
def M9(p:List Nat×Tr)(r:List (List Nat×Tr))(s:List Nat):look (p::r) s=if p.1=s then some p.2 else look r s:=by
 unfold look;rw[mq];by_cases h:p.1=s<;>simp[h]
theorem zjf(s:List Nat):∀σ:List (List Nat×Tr),valN (aW σ) (.inr (strOf s))=(look σ s).map enc
 | []=>rfl
 | p::r=>by
  rw[show aW (p::r)=(.inr (strOf p.1),enc p.2)::aW r from rfl,Yy,M9,zjf s r];by_cases h:p.1=s
  ·rw[aeT (by rw[h]),aeT h];rfl
  ·rw[aeU (λz=>h (L_.mp (afi z))),aeU h]
def yw(s:List Nat):keyOf (.str s)=some (.inr (strOf s)):=rfl
end M
namespace Law
open L2 M Tr
def QK(σ:List (List Nat×Tr))(n:Nat)(s:List Nat)(st:ak)(h:st[n]? = some (.dkc (aW σ))):yF (.loc n) [.str s,.str s] st=.ok (enc (sb (look σ) (.lf s))) st:=by
 unfold yF;simp only[h,yw,zjf];rw[sb];cases look σ s<;>rfl
def zgt(σ:List (List Nat×Tr))(t:Tr)(n:Nat)(st:ak)(h:st[n]? = some (.dkc (aW σ)))(ht:st[2]? = some (.tab "put_in"))(hc:aY st)(hl:lv t<=400000):Ge [enc t,.loc n] st=.ok (enc (sb (look σ) t)) st:=by
 let os:ak:=[.clo 0 (j5 0) [.loc n],.clo 1 (j5 1) []]
 have f1:Gz [enc t,.loc st.length,.loc (st.length+1)] (st++os)=.ok (enc (sb (look σ) t)) (st++os):=by
  refine znp (λu=>enc (sb (look σ) u)) (λ_=>True) st.length (st.length+1) 0 1 [.loc n] [] t _ (by simp[os]) (by simp[os]) hl (λu n=>iV n _) trivial (λ_ _ _=>⟨trivial,trivial⟩) ?_ ?_
  ·intro s g _;have hh:(bZ (st++os++g))[n]? = some (.dkc (aW σ)):=Kd (dG (dG h)) rfl;have hg:=QK σ n s _ hh;have it:cM "dict" (.loc n) (bZ (st++os++g))=true:=by unfold cM;simp only[hh];rfl
   generalize bZ (st++os++g)=Z at *;rw[show enc (.lf s)=.str s from rfl];generalize enc (sb (look σ) (.lf s))=W at *;simp[GL,uM,e_0,it,hg]
  ·intro l r g _;have j1:=wK (sb (look σ) l) (sb (look σ) r) (bZ (st++os++g));rw[show sb (look σ) (.jn l r)=.jn (sb (look σ) l) (sb (look σ) r) from rfl];generalize bZ (st++os++g)=Z at *;generalize enc (.jn (sb (look σ) l) (sb (look σ) r))=W at *;generalize enc (.jn l r)=J at *;generalize enc (sb (look σ) l)=L at *;generalize enc (sb (look σ) r)=R' at *;simp[GL,uM,e_1,j1]
 have hu:=iV st.length (sb (look σ) t);have c1:=zsd (Λ:=j5) (F:=Gz) (dd:=[]) (m:=lX (vr 0) (lA 0 [1] 2 "put_in" (lA 1 [] 2 "put_in" vX))) (env:=[some (enc t),some (.loc n)]) (st:=st) (st1:=st) (st2:=st) (as:=[.v (enc t),.l 0 [1],.l 1 []]) (ds:=[enc t,.loc st.length,.loc (st.length+1)]) (os:=os) (d:=enc (sb (look σ) t))
  (by simp[lX,lA,vX,ht]) hc (by simp[jU,yK,os]) (by rw[gB,f1];exact sJ hu) hc
 unfold Ge bA bx zdv;rw[show startM 2 [enc t,D.loc n]=[some (enc t),some (.loc n)] from rfl];generalize jZ j5 Gz [] (lX (vr 0) (lA 0 [1] 2 "put_in" (lA 1 [] 2 "put_in" vX)))=CL at c1 ⊢;generalize enc (sb (look σ) t)=W at *;generalize enc t=X at *;simp[c1];exact eY hu
end Law
namespace M
namespace Tr
def bK(t:Tr):List (List Nat)->Tr
 | []=>t
 | x::xs=>(out x (bK t xs)).1
def cX(t:Tr):List (List Nat)->List Nat
 | []=>[]
 | x::xs=>(out x (bK t xs)).2::cX t xs
theorem zn5(t:Tr):∀xs:List (List Nat),(cX t xs).length=xs.length
 | []=>rfl
 | x::xs=>by rw[cX,gC,zn5 t xs,gC]
structure Puts(xs:List (List Nat))(vs:List Tr):Prop where
 len:vs.length=xs.length
 nd:xs.Nodup
 v:∀v∈vs,val v=true
 S:[83]∉xs
 K:[75]∉xs
def zni{σ:List (List Nat×Tr)}{s:List Nat}(h:∀p∈σ,p.1≠s):look σ s=none:=by
 induction σ with
 | nil=>rfl
 | cons p r ih=>rw[M9,aeU (h p (by simp)),ih λq hq=>h q (by simp[hq])]
def zh5{σ:List (List Nat×Tr)}{s:List Nat}{v:Tr}(h:look σ s=some v):(s,v)∈σ:=by
 induction σ with
 | nil=>cases h
 | cons p r ih =>
  rw[M9]at h
  split at h
  ·rename_i e;cases h;obtain⟨a,b⟩:=p;cases e;simp
  ·exact kW _ (ih h)
def zoi(σ:List (List Nat×Tr))(x s:List Nat)(v:Tr)(h:∀p∈σ,p.1≠x):look (σ++[(x,v)]) s=if x=s then some v else look σ s:=by
 induction σ with
 | nil=>rw[mQ,M9]
 | cons p r ih =>
  rw[nW,M9,M9,ih λq hq=>h q (by simp[hq])];by_cases e:p.1=s
  ·rw[aeT e,aeT e,aeU (λz=>h p (by simp) (e.trans z.symm))]
  ·rw[aeU e,aeU e]
section
variable  {xs:List (List Nat)}{vs:List Tr}
def Puts.sub(h:Puts xs vs)(j:Nat):Sub (look ((xs.zip vs).take j)):=by
 have mem:∀s v,look ((xs.zip vs).take j) s=some v->s∈xs/\v∈vs:=λs v e=>by
  have:=mZ (zh5 e);exact⟨(nu this).1,(nu this).2⟩
 refine⟨λs v e=>h.v v (mem s v e).2,?_,?_⟩
 ·cases e:look ((xs.zip vs).take j) [83] with
  | none=>rfl
  | some v=>exact absurd (mem _ _ e).1 h.S
 ·cases e:look ((xs.zip vs).take j) [75] with
  | none=>rfl
  | some v=>exact absurd (mem _ _ e).1 h.K
def Puts.next(h:Puts xs vs){j:Nat}{x:List Nat}{v:Tr}(hx:xs[j]? = some x)(hv:vs[j]? = some v):(xs.zip vs).take (j+1)=(xs.zip vs).take j++[(x,v)]/\∀p∈(xs.zip vs).take j,p.1≠x:=by
 have hz:(xs.zip vs)[j]? = some (x,v):=by rw[pO];exact⟨hx,hv⟩
 refine⟨by rw[kO,hz];rfl,λp hp e=>?_⟩;obtain⟨i,hi,q⟩:=nj.mp hp;rw[kI]at hi;have q2:(xs.zip vs)[i]? = some p:=by rw[pC]at q;rw[<-q];exact gM (by omega)
 obtain⟨a,b⟩:=p;rw[pO]at q2;have Xa:xs[i]? = xs[j]?:=by rw[q2.1,hx];exact congrArg some e
 have Gm:=(gf.mp q2.1).1;have:=(nM Gm h.nd).mp Xa;omega
def zsv{t:Tr}{j:Nat}{x:List Nat}(hx:xs[j]? = some x):bK t (xs.drop j)=(out x (bK t (xs.drop (j+1)))).1:=by
 have hl:=(gf.mp hx).1;rw[nH hl];rw[gM hl]at hx;cases hx;rfl
def Puts.sim(h:Puts xs vs)(t:Tr){j:Nat}{x:List Nat}{V:Tr}(hx:xs[j]? = some x)(hV:vs[j]? = some V)(n:Nat)(v:Tr) :
  Ev (.jn (sb (look ((xs.zip vs).take j)) (bK t (xs.drop j))) V) n v ↔ ∃k,n=k+(out x (bK t (xs.drop (j+1)))).2/\Ev (sb (look ((xs.zip vs).take (j+1))) (bK t (xs.drop (j+1)))) k v:=by
 obtain⟨e1,e2⟩:=h.next hx hV;rw[zsv hx];refine Tr.sim (h.sub j) (h.sub (j+1)) ?_ (λs hs=>?_) (h.v V (gW hV)) _ n v
 ·rw[e1,zoi _ _ _ _ e2,aeT rfl]
 ·rw[e1,zoi _ _ _ _ e2,aeU (λz=>hs z.symm)]
theorem zq7(t:Tr):∀(xs:List (List Nat)) (j:Nat) (x:List Nat),xs[j]? = some x->(cX t xs)[j]? = some (out x (bK t (xs.drop (j+1)))).2
 | [],j,x,h=>by simp at h
 | y::ys,0,x,h=>by simp at h;subst h;simp[cX]
 | y::ys,j+1,x,h=>by
  have:=zq7 t ys j x (by simpa using h);simpa[cX] using this
theorem Puts.few(h:Puts xs vs)(t:Tr):∀j,j<xs.length->Ev (apps (bK t xs) (vs.take j)) ((cX t xs).take j).sum (sb (look ((xs.zip vs).take j)) (bK t (xs.drop j)))
 | 0,hj=>by
  rw[List.take_zero,List.take_zero,List.take_zero,List.drop_zero];have e:sb (look []) (bK t xs)=bK t xs:=by
   have:∀u,sb (look []) u=u:=by
    intro u
    induction u with
    | lf s=>rfl
    | jn l r h1 h2=>rw[sb,h1,h2]
   exact this _
  rw[e];obtain⟨x,ys,rfl⟩:∃x ys,xs=x::ys:=by
   cases xs with
   | nil=>simp at hj
   | cons x ys=>exact⟨x,ys,rfl⟩
  exact Ev.v (yW x _)
 | j+1,hj=>by
  have ih:=Puts.few h t j (by omega);obtain⟨x,hx⟩:∃x,xs[j]? = some x:=⟨_,gM (by omega)⟩;obtain⟨V,hV⟩:∃V,vs[j]? = some V:=⟨_,gM (by rw[h.len];omega)⟩;obtain⟨y,hy⟩:∃y,xs[j+1]? = some y:=⟨_,gM hj⟩;have vW:val (sb (look ((xs.zip vs).take (j+1))) (bK t (xs.drop (j+1))))=true:=by
   refine yd (h.sub (j+1)) ?_;rw[zsv hy];exact yW y _
  have e:=(h.sim t hx hV _ _).mpr ⟨0,rfl,Ev.v vW⟩;have et:vs.take (j+1)=vs.take j++[V]:=by rw[kO,hV];rfl
  have ec:((cX t xs).take (j+1)).sum=((cX t xs).take j).sum+(out x (bK t (xs.drop (j+1)))).2:=by
   rw[kO,zq7 t xs j x hx];simp
  rw[et,zgu,ec];exact (ih.comp (Ev.v (h.v V (gW hV))) e).to (by omega)
def Puts.all(h:Puts xs vs)(hn:0<xs.length)(t:Tr)(n:Nat)(v:Tr):Ev (apps (bK t xs) vs) n v ↔ ∃k,n=k+(cX t xs).sum/\Ev (sb (look (xs.zip vs)) t) k v:=by
 obtain⟨x,hx⟩:∃x,xs[xs.length - 1]? = some x:=⟨_,gM (by omega)⟩;obtain⟨V,hV⟩:∃V,vs[xs.length - 1]? = some V:=⟨_,gM (by rw[h.len];omega)⟩;have f:=h.few t (xs.length - 1) (by omega);have s:=h.sim t hx hV;have vV:=h.v V (gW hV);have e1:xs.length - 1+1=xs.length:=by omega
 have ed:bK t (xs.drop (xs.length - 1+1))=t:=by rw[e1,List.drop_length];rfl
 have ez:(xs.zip vs).take (xs.length - 1+1)=xs.zip vs:=by rw[e1];exact pM (by rw[List.length_zip];omega)
 have ev:vs=vs.take (xs.length - 1)++[V]:=by
  have:vs.take (xs.length - 1+1)=vs.take (xs.length - 1)++[V]:=by rw[kO,hV];rfl
  rw[<-this,e1,<-h.len,my]
 have ec:(cX t xs).sum=((cX t xs).take (xs.length - 1)).sum+(out x t).2:=by
  have h1:=zq7 t xs _ x hx;rw[ed]at h1;have h2:(cX t xs).take (xs.length - 1+1)=(cX t xs).take (xs.length - 1)++[(out x t).2]:=by rw[kO,h1];rfl
  rw[e1,<-zn5 t xs,my]at h2;rw[<-zn5 t xs]
  calc (cX t xs).sum=((cX t xs).take ((cX t xs).length - 1)++[(out x t).2]).sum:=by rw[<-h2]
   _=_:=by simp
 rw[ed,ez]at s;have ea:apps (bK t xs) vs=.jn (apps (bK t xs) (vs.take (xs.length - 1))) V:=by
  conv=>lhs;rw[ev]
  rw[zgu]
 rw[ea,ec];constructor
 ·intro q;obtain⟨n1,n2,n3,a,b,q1,q2,q3,rfl⟩:=q.inv;obtain⟨d1,d2⟩:=f.det q1;obtain⟨d3,d4⟩:=(Ev.v vV).det q2;subst d1 d2 d3 d4;obtain⟨k,rfl,hk⟩:=(s n3 v).mp q3;exact⟨k,by omega,hk⟩
 ·rintro ⟨k,rfl,hk⟩;exact (f.comp (Ev.v vV) ((s _ v).mpr ⟨k,rfl,hk⟩)).to (by omega)
end
end Tr
end M
set_option maxHeartbeats 0
namespace M
namespace Tr
def Rdy:Tr->Prop
 | .lf _=>True
 | .jn a b=>val a=true/\val b=true
theorem Rdy.VG:∀{t:Tr},val t=true->Rdy t
 | .lf _,_=>trivial
 | .jn _ _,h=>RT h
def jG(t:Tr)(n:Nat)(u:Tr):Prop:=iT n t=some u/\Rdy u
def Ev.r{t v:Tr}{n:Nat}(h:Ev t n v):jG t n v:=⟨h.1,.VG h.2⟩
def jG.to{t v:Tr}{n m:Nat}(h:jG t n v)(e:n=m):jG t m v:=e ▸ h
def jG.then{t u v:Tr}{n m:Nat}(h:iT n t=some u)(k:jG u m v):jG t (n+m) v:=⟨by rw[T5 h];exact k.1,k.2⟩
theorem jG.inv:∀{n:Nat} {l r u:Tr},jG (.jn l r) n u->∃n1 n2 n3 a b,Ev l n1 a/\Ev r n2 b/\jG (.jn a b) n3 u/\n=n1+n2+n3
 | 0,l,r,u,h=>by
  obtain⟨h1,h2⟩:=h;rw[iT]at h1;cases h1;exact⟨0,0,0,l,r,Ev.v h2.1,Ev.v h2.2,⟨rfl,h2⟩,rfl⟩
 | n+1,l,r,u,h=>by
  cases vl:val l with
  | false =>
   obtain⟨h1,h2⟩:=h;have e:=zg2 (r:=r) vl;cases sl:step l with
   | none=>rw[iT,e,sl]at h1;cases h1
   | some l' =>
    rw[sl]at e;rw[vp (u:=.jn l' r) e]at h1;obtain⟨n1,n2,n3,a,b,q1,q2,q3,q4⟩:=jG.inv (n:=n) ⟨h1,h2⟩;exact⟨n1+1,n2,n3,a,b,⟨by rw[vp sl];exact q1.1,q1.2⟩,q2,q3,by omega⟩
  | true =>
   cases vr:val r with
   | false =>
    obtain⟨h1,h2⟩:=h;have e:=zfi vl vr;cases sr:step r with
    | none=>rw[iT,e,sr]at h1;cases h1
    | some r' =>
     rw[sr]at e;rw[vp (u:=.jn l r') e]at h1;obtain⟨n1,n2,n3,a,b,q1,q2,q3,q4⟩:=jG.inv (n:=n) ⟨h1,h2⟩;have:n1=0/\l=a:=Ev.det (Ev.v vl) q1 |>.imp (λz=>z.symm) id;exact⟨n1,n2+1,n3,a,b,q1,⟨by rw[vp sr];exact q2.1,q2.2⟩,q3,by omega⟩
   | true=>exact⟨0,0,n+1,l,r,Ev.v vl,Ev.v vr,h,by omega⟩
def jG.comp{l r a b u:Tr}{n m k:Nat}(h:Ev l n a)(h2:Ev r m b)(h3:jG (.jn a b) k u):jG (.jn l r) (n+m+k) u:=.then (h.both h2) h3
def acJ{f g:List Nat->Option Tr}{x:List Nat}{V:Tr}(hg:Sub g)(hf:Sub f)(hx:f x=some V)(J9:∀s,s≠x->f s=g s)(hV:val V=true)(t:Tr){k:Nat}{u:Tr}(h:jG (sb f t) k u) :
  jG (.jn (sb g (out x t).1) V) (k+(out x t).2) u:=by
 by_cases hv:val u=true
 ·exact ((sim hg hf hx J9 hV t _ _).mpr ⟨k,rfl,h.1,hv⟩).r
 have key:∀t',Ev (sb f t') k u->False:=λt' e=>hv e.2;cases t with
 | lf s =>
  exfalso;have:val (sb f (.lf s))=true:=yd hf rfl;obtain⟨h1,_⟩:=h;cases k with
  | zero=>rw[iT]at h1;cases h1;exact hv this
  | succ k=>rw[iT,Yn this]at h1;cases h1
 | jn l r =>
  have Zy:Ev V 0 V:=Ev.v hV;by_cases h1:(val (.jn l r) && !stands x (.jn l r))=true
  ·exfalso;simp only[gH]at h1;have:val (sb f (.jn l r))=true:=yd hf h1.1;obtain⟨h2,_⟩:=h;cases k with
   | zero=>rw[iT]at h2;cases h2;exact hv this
   | succ k=>rw[iT,Yn this]at h2;cases h2
  ·by_cases h2:((val l && !stands x l) && jd x r)=true
   ·simp only[gH,nO]at h2;rw[zgv x (by simp only[gH,nO];exact h2.1) h2.2];obtain⟨⟨_,hs⟩,hr⟩:=h2;rw[zjw]at hr;subst hr;have e1:sb f (.jn l (.lf x))=.jn (sb g l) V:=by rw[sb,Z_ J9 hs,show sb f (.lf x)=V by rw[sb,hx];rfl]
    rw[e1]at h;exact h
   ·rw[zjd x (by simpa using h1) (by simpa using h2)];have e1:sb g (.jn (.jn tS (out x l).1) (out x r).1)=.jn (.jn tS (sb g (out x l).1)) (sb g (out x r).1):=by rw[sb,sb,Nx hg]
    have vS:val (.jn (.jn tS (sb g (out x l).1)) (sb g (out x r).1))=true:=by rw[RG,yd hg (yW x l),yd hg (yW x r)];rfl
    show jG (.jn (sb g (.jn (.jn tS (out x l).1) (out x r).1)) V) (k+(1+(out x l).2+(out x r).2)) u;rw[e1];obtain⟨n1,n2,n3,a,b,q1,q2,q3,rfl⟩:=jG.inv h;have p1:=(sim hg hf hx J9 hV l (n1+(out x l).2) a).mpr ⟨n1,rfl,q1⟩;have p2:=(sim hg hf hx J9 hV r (n2+(out x r).2) b).mpr ⟨n2,rfl,q2⟩;have st1:iT 1 (.jn (.jn (.jn tS (sb g (out x l).1)) (sb g (out x r).1)) V)=some (.jn (.jn (sb g (out x l).1) V) (.jn (sb g (out x r).1) V)):=by
     rw[vp (u:=.jn (.jn (sb g (out x l).1) V) (.jn (sb g (out x r).1) V)) (by rw[zfd vS hV (Yk _ _ _)];rfl)];rfl
    exact (jG.then st1 (jG.comp p1 p2 q3)).to (by omega)
def lu(ρ:List Nat->Option Tr)(x:List Nat)(v:Tr):List Nat->Option Tr:=λs=>if s=x then some v else ρ s
def uv(ρ:List Nat->Option Tr):List (List Nat)->List Tr->List Nat->Option Tr
 | x::xs,v::vs=>uv (lu ρ x v) xs vs
 | _,_=>ρ
def j_(x:List Nat):Prop:=x≠[83]/\x≠[75]
def Sub.upd{ρ:List Nat->Option Tr}(h:Sub ρ){x:List Nat}{v:Tr}(hx:j_ x)(hv:val v=true):Sub (lu ρ x v):=by
 refine⟨λs t e=>?_,?_,?_⟩
 ·unfold lu at e
  split at e
  ·cases e;exact hv
  ·exact h.v s t e
 ·unfold lu;rw[aeU (ae4 hx.1)];exact h.S
 ·unfold lu;rw[aeU (ae4 hx.2)];exact h.K
def zry{n:Nat}{p w:Tr}(h:iT n p=some w):∀vs:List Tr,iT n (apps p vs)=some (apps w vs):=by
 intro vs
 induction vs generalizing p w with
 | nil=>exact h
 | cons v vs ih=>exact ih (zmw h)
def G7{ρ:List Nat->Option Tr}(h:Sub ρ){x:List Nat}{V:Tr}(hx:j_ x)(hV:val V=true)(t:Tr){k:Nat}{u:Tr}(e:jG (sb (lu ρ x V) t) k u):jG (.jn (sb ρ (out x t).1) V) (k+(out x t).2) u :=
 acJ h (h.upd hx hV) (by unfold lu;rw[aeT rfl]) (λs hs=>by unfold lu;rw[aeU hs]) hV t e
def wZ{ρ:List Nat->Option Tr}(h:Sub ρ){x y:List Nat}{V:Tr}(hx:j_ x)(hV:val V=true)(t:Tr)(ys:List (List Nat)) :
  Ev (.jn (sb ρ (bK t (x::y::ys))) V) (out x (bK t (y::ys))).2 (sb (lu ρ x V) (bK t (y::ys))):=by
 have vW:val (sb (lu ρ x V) (bK t (y::ys)))=true:=yd (h.upd hx hV) (yW y _);have:=G7 h hx hV (bK t (y::ys)) (Ev.v vW).r;rw[nY]at this;exact⟨this.1,vW⟩
theorem hands(t:Tr):∀(xs:List (List Nat)) (vs:List Tr) (ρ:List Nat->Option Tr),Sub ρ->(∀x∈xs,j_ x)->(∀v∈vs,val v=true)->vs.length=xs.length->xs≠[]->∀{k:Nat} {u:Tr},jG (sb (uv ρ xs vs) t) k u ->
  jG (apps (sb ρ (bK t xs)) vs) (k+(cX t xs).sum) u
 | [],_,_,_,_,_,_,h,_,_,_=>absurd rfl h
 | [x],[v],ρ,h,hx,hv,_,_,k,u,e=>by
  have:=G7 h (hx x (by simp)) (hv v (by simp)) t e;exact this.to (by simp[cX,bK])
 | x::y::ys,v::vs,ρ,h,hx,hv,hl,_,k,u,e=>by
  have o:=wZ h (hx x (by simp)) (hv v (by simp)) t ys (y:=y);have ih:=hands t (y::ys) vs (lu ρ x v) (h.upd (hx x (by simp)) (hv v (by simp))) (λz hz=>hx z (by simp[hz])) (λz hz=>hv z (by simp[hz])) (by simpa using hl) (by simp) e;exact (jG.then (zry (p:=.jn (sb ρ (bK t (x::y::ys))) v) o.1 vs) ih).to (by rw[show cX t (x::y::ys)=(out x (bK t (y::ys))).2::cX t (y::ys) from rfl,pD];omega)
 | [_],[],_,_,_,_,hl,_,_,_,_=>by simp at hl
 | [_],_::_::_,_,_,_,_,hl,_,_,_,_=>by simp at hl
 | _::_::_,[],_,_,_,_,hl,_,_,_,_=>by simp at hl
def zsq{p w:Tr}{ts:List Tr}{t:Tr}{n:Nat}(hp:val p=true)(h:cW p ts n w)(ht:val t=true):iT (n+2+2*(ts.length+1)) (.jn (hold (ts++[t])) p)=some (.jn w t):=by
 obtain⟨v1,e1⟩:=zn9 hp h;have hv:val (hold (ts++[t]))=true:=by rw[zfh,RG,eO,ht,v1];rfl
 have k1:Ev (.jn (.jn tK t) p) 1 t:=((Ev.v (v:=.jn tK t) (by rw[eO];exact ht)).K (Ev.v hp)).to (by omega);rw[zfh]at hv ⊢;have st1:iT 1 (.jn (.jn (.jn tS (hold ts)) (.jn tK t)) p)=some (.jn (.jn (hold ts) p) (.jn (.jn tK t) p)):=by
  rw[vp (u:=.jn (.jn (hold ts) p) (.jn (.jn tK t) p)) (by rw[zfd hv hp (Yk _ _ _)];rfl)];rfl
 rw[show n+2+2*(ts.length+1)=1+(n+2+2*ts.length+1) by omega,T5 st1];exact e1.both k1
end Tr
end M
namespace M
namespace Tr
abbrev dM:List (List Nat):=[[108],[115],[114],[102]]
abbrev cA:List (List Nat):=[[110],[102],[108],[114]]
abbrev iR:List (List Nat):=[[121],[120]]
abbrev oX:List (List Nat):=[[97],[116],[121],[120]]
abbrev qg:List (List Nat):=[[102],[118]]
def dn(c:Nat):List Nat:=if c=95 then [100] else [100,c]
def cJ(ls:List Nat):Tr:=apps (.lf [115]) ((ls.map λc=>.lf (dn c))++cA.map .lf)
def eU:Tr:=hold [.lf [110],.lf [108],.lf [119],.lf [114]]
def cF(m:Bool):Tr:=apps (.lf (if m then [108] else [114])) [.lf [98,97,114,101],.lf [102,117,108,108],.jn (.jn (.lf [103]) (.lf [102])) (.lf [102]),.lf (if m then [114] else [108])]
def dX:Tr:=.jn tK (hold [.lf [119],.lf [120]])
def bu(m:Bool):Tr:=.jn (.lf [121]) (if m then hold [.lf [116],.lf [97],dX] else hold [dX,.lf [97],.lf [116]])
def du:Tr:=apps (.lf [118]) [.lf [101],.lf [102]]
def Lp(p:Tr)(a b:List Tr):apps p (a++b)=apps (apps p a) b:=by simp[apps]
def Nv(f:List Nat->Option Tr)(p:Tr)(ts:List Tr):sb f (apps p ts)=apps (sb f p) (ts.map (sb f)):=by
 induction ts generalizing p with
 | nil=>rfl
 | cons t ts ih=>exact ih (.jn p t)
theorem G_{f:List Nat->Option Tr}(h:Sub f):∀{t:Tr},sk t->sb f t=t
 | .lf s,hs=>by
  rcases (show s=[83]\/s=[75] from hs) with rfl | rfl
  ·exact Nx h
  ·exact U0 h
 | .jn l r,hs=>by rw[sb,G_ h hs.1,G_ h hs.2]
def q_(f g:List Nat->Option Tr):List Nat->Option Tr:=λs=>match f s with | some v=>some v | none=>g s
theorem Ha{f g:List Nat->Option Tr}(hg:Sub g)(hf:∀s v,f s=some v->sk v):∀t:Tr,sb g (sb f t)=sb (q_ f g) t
 | .lf s=>by
  unfold q_;rw[sb,sb];cases e:f s with
  | none=>rfl
  | some v=>exact G_ hg (hf s v e)
 | .jn l r=>by rw[sb,sb,sb,Ha hg hf l,Ha hg hf r]
def Sub.q_{f g:List Nat->Option Tr}(hf:Sub f)(hg:Sub g):Sub (Tr.q_ f g):=by
 refine⟨λs t e=>?_,?_,?_⟩
 ·unfold Tr.q_ at e;cases q:f s with
  | none=>rw[q]at e;exact hg.v s t e
  | some v=>rw[q]at e;cases e;exact hf.v s _ q
 ·unfold Tr.q_;rw[hf.S];exact hg.S
 ·unfold Tr.q_;rw[hf.K];exact hg.K
def Gv{σ:List (List Nat×Tr)}(h:∀p∈σ,j_ p.1/\val p.2=true):Sub (look σ):=by
 refine⟨λs t e=>(h _ (zh5 e)).2,?_,?_⟩
 ·exact zni λp hp=>(h p hp).1.1
 ·exact zni λp hp=>(h p hp).1.2
def aay(ls:List Nat)(num:Tr)(fc:Nat->Tr):Tr:=sb (look (([110],num)::ls.map λc=>(dn c,fc c))) (bK (cJ ls) dM)
def jw(w:Tr):Tr:=sb (look [([119],w)]) (bK eU cA)
def fB(m:Bool)(bl w:Tr):Tr:=sb (look [([119],w)]) (sb (look [([97],bl),([116],tK)]) (bK (bu m) iR))
def ji(m:Bool)(w:Tr):Tr:=sb (look [([119],w)]) (bK (bu m) oX)
def qN(m:Bool)(bl w way:Tr):Tr:=sb (look [([98,97,114,101],fB m bl w),([102,117,108,108],ji m w),([103],way)]) (bK (cF m) cA)
def jN(row:Tr):Tr:=sb (look [([101],row)]) (bK du qg)
def cC:Nat->List Tr->Tr
 | 0,_=>tK
 | n+1,es=>if es.length=1 then es.headD tK else hold [cC n (es.take (es.length / 2)),cC n (es.drop (es.length / 2))]
def bC:Nat->Nat->Nat->List Nat
 | 0,_,_=>[]
 | n+1,k,left=>if left<=1 then [] else if k<left / 2 then 0::bC n k (left / 2) else 1::bC n (k - left / 2) (left - left / 2)
def iW(ts:List Nat):Tr:=hold (ts.map λt=>bV t 2)
def bM(k many:Nat):Nat:=many - 1+DG (many - 1 - k)
def jg(ts:List Nat):Nat:=(ts.map λt=>6+bM t 2).sum
theorem RM:∀(n:Nat) (es:List Tr),(∀e∈es,val e=true)->val (cC n es)=true
 | 0,_,_=>rfl
 | n+1,es,h=>by
  rw[cC]
  split
  ·rename_i h1;obtain⟨e,rfl⟩:=m7.mp h1;exact h e (by simp)
  ·refine Gx λt ht=>?_;simp only[gj,kj,afc]at ht;rcases ht with rfl | rfl
   ·exact RM n _ λe he=>h e (mZ he)
   ·exact RM n _ λe he=>h e (m_ he)
def FQ:∀(n:Nat) (es:List Tr) (k:Nat) (e:Tr),(∀e∈es,val e=true)->es.length<=2 ^ n->es[k]? = some e->cW (cC (n+1) es) ((bC (n+1) k es.length).map λt=>bV t 2) (jg (bC (n+1) k es.length)) e:=by
 intro n
 induction n with
 | zero =>
  intro es k e h hl hk;have h0:=(gf.mp hk).1;have h1:es.length=1:=by simp at hl;omega
  obtain⟨x,rfl⟩:=m7.mp h1;have:k=0:=by simp at h0;exact h0
  subst this;simp at hk;subst hk;exact .nil (h x (by simp))
 | succ n ih =>
  intro es k e h hl hk;have h0:=(gf.mp hk).1;by_cases h1:es.length=1
  ·obtain⟨x,rfl⟩:=m7.mp h1;have:k=0:=by simp at h0;exact h0
   subst this;simp at hk;subst hk;exact .nil (h x (by simp))
  ·have hp:2 ^ (n+1)=2 ^ n+2 ^ n:=by rw[nZ];omega
   have e1:cC (n+1+1) es=hold [cC (n+1) (es.take (es.length / 2)),cC (n+1) (es.drop (es.length / 2))]:=by rw[cC,aeU h1]
   have l1:(es.take (es.length / 2)).length=es.length / 2:=by rw[kI];omega
   have l2:(es.drop (es.length / 2)).length=es.length - es.length / 2:=by rw[mV]
   have v1:=RM (n+1) _ λe he=>h e (mZ (i:=es.length / 2) he);have v2:=RM (n+1) _ λe he=>h e (m_ (i:=es.length / 2) he);have one:∀(t:Nat) (T:Tr),[cC (n+1) (es.take (es.length / 2)),cC (n+1) (es.drop (es.length / 2))][t]? = some T->cW (cC (n+1+1) es) [bV t 2] (6+bM t 2) T:=λt T hT=>by
    rw[e1];have ht:=(gf.mp hT).1;have a:=zlh (ts:=[cC (n+1) (es.take (es.length / 2)),cC (n+1) (es.drop (es.length / 2))]) (λx hx=>by
     simp only[gj,kj,afc]at hx;rcases hx with rfl | rfl
     ·exact v1
     ·exact v2) hT
    obtain⟨q1,q2⟩:=zn9 (Gy t 2) a;have:=cW.snoc [] (bV t 2) _ T 0 _ (.nil q1) (Gy t 2) q2;simp only[mQ,gC,mK]at this ht;have ec:0+(t+DG (0+1+1 - 1 - t)+(0+1+1 - 1 - t)+2+2*(0+1+1))=6+bM t 2:=by unfold bM;simp only[show 0+1+1 - 1 - t=2 - 1 - t by omega];omega
    rw[ec]at this;exact this
   have hh:¬ es.length<=1:=by omega
   by_cases W_:k<es.length / 2
   ·have et:bC (n+1+1) k es.length=0::bC (n+1) k (es.length / 2):=by rw[bC,aeU hh,aeT W_]
    have r:=ih (es.take (es.length / 2)) k e (λe he=>h e (mZ he)) (by omega) (by rw[pI,aeT W_];exact hk);rw[l1]at r;have:=(one 0 _ rfl).trans r;rw[et];exact this
   ·have et:bC (n+1+1) k es.length=1::bC (n+1) (k - es.length / 2) (es.length - es.length / 2):=by rw[bC,aeU hh,aeU W_]
    have r:=ih (es.drop (es.length / 2)) (k - es.length / 2) e (λe he=>h e (m_ he)) (by omega) (by rw[List.getElem?_drop,show es.length / 2+(k - es.length / 2)=k by omega];exact hk);rw[l2]at r;have:=(one 1 _ rfl).trans r;rw[et];exact this
def zmn{row:Tr}(h:val row=true):val (jN row)=true:=by
 unfold jN;exact yd (Gv (by simp[j_,h])) (yW _ _)
def Xn{row T:Tr}(h:val row=true)(hT:val T=true):Ev (.jn (jN row) T) ((cX du qg).headD 0) (hold [row,T]):=by
 have s:Sub (look [([101],row)]):=Gv (by simp[j_,h]);have:=wZ s (x:=[102]) (y:=[118]) (by simp[j_]) hT du [];have e:sb (lu (look [([101],row)]) [102] T) (bK du [[118]])=hold [row,T]:=by rfl
 rw[e]at this;exact this
def Uk{n k:Nat}{rows:List Tr}{row:Tr}(hv:∀r∈rows,val r=true)(hl:rows.length<=2 ^ n)(hk:rows[k]? = some row) :
  Ev (.jn (.jn (iW (bC (n+1) k rows.length)) (cC (n+1) (rows.map jN))) (cC (n+1) (rows.map jN)))
   (2+2*(bC (n+1) k rows.length).length+jg (bC (n+1) k rows.length)+(cX du qg).headD 0) (hold [row,cC (n+1) (rows.map jN)]):=by
 have he:∀e∈rows.map jN,val e=true:=λe h=>by
  obtain⟨r,hr,rfl⟩:=gh.mp h;exact zmn (hv r hr)
 have vT:=RM (n+1) _ he;have vr:val row=true:=hv row (gW hk);have a:=FQ n (rows.map jN) k (jN row) he (by simpa using hl) (by rw[gP,hk];rfl);rw[gq]at a;obtain⟨q1,q2⟩:=zn9 vT a;rw[gq]at q2;have:=q2.comp (Ev.v vT) (Xn vr vT);exact this.to (by omega)
end Tr
end M
namespace M
namespace Tr
def Dt{ρ:List Nat->Option Tr}(hρ:Sub ρ){t L s R T u:Tr}{k:Nat}(vL:val L=true)(vs:val s=true)(vR:val R=true)(vT:val T=true)(h:jG (sb (uv ρ dM [L,s,R,T]) t) k u) :
  jG (.jn (hold [sb ρ (bK t dM),T]) (hold [L,s,R])) (6+8+(cX t dM).sum+k) u:=by
 have s1:=hρ.upd (x:=[108]) (by simp[j_]) vL;have s2:=s1.upd (x:=[115]) (by simp[j_]) vs;have s3:=s2.upd (x:=[114]) (by simp[j_]) vR;have e1:=wZ hρ (x:=[108]) (y:=[115]) (by simp[j_]) vL t [[114],[102]];have e2:=wZ s1 (x:=[115]) (y:=[114]) (by simp[j_]) vs t [[102]];have e3:=wZ s2 (x:=[114]) (y:=[102]) (by simp[j_]) vR t [];have e4:=G7 s3 (x:=[102]) (by simp[j_]) vT t h;have Ul:val (sb ρ (bK t dM))=true:=yd hρ (yW _ _);have vP:val (hold [L,s,R])=true:=Gx (by simp[vL,vs,vR]);have a2:cW (sb ρ (bK t dM)) [L,s] _ _:=cW.snoc [L] s _ _ _ _ (cW.snoc [] L _ _ 0 _ (.nil Ul) vL e1) vs e2;have h1:=zsq Ul a2 vR;have ev:Ev (.jn (hold [L,s,R]) (sb ρ (bK t dM))) _ _:=⟨(T5 h1).trans e3.1,e3.2⟩;have a1:cW (hold [L,s,R]) [sb ρ (bK t dM)] _ _:=cW.snoc [] (sb ρ (bK t dM)) _ _ 0 _ (.nil vP) Ul ev;have h2:=zsq vP a1 vT;refine (jG.then h2 e4).to ?_;have es:(cX t dM).sum=(out [108] (bK t [[115],[114],[102]])).2+((out [115] (bK t [[114],[102]])).2+((out [114] (bK t [[102]])).2+((out [102] t).2+0))):=rfl;rw[es];simp only[gC,mK];omega
def zrl{deeds rest:List Tr}{d u:Tr}{i k:Nat}(hv:∀x∈deeds,val x=true)(hd:deeds[i]? = some d)(h:jG (apps d rest) k u):jG (apps (bV i deeds.length) (deeds++rest)) (bM i deeds.length+k) u:=by
 have a:=(zlh hv hd).apps;rw[Lp];have hl:=(gf.mp hd).1;exact (jG.then (zry a.1 rest) h).to (by unfold bM;omega)
def xO:Nat:=(cX eU cA).sum
def iu(m:Bool):Nat:=(cX (cF m) cA).sum+1
def oh(m:Bool):Nat:=(cX (bu m) iR).sum
def j8(m:Bool):Nat:=6+(cX (bu m) oX).sum
def Ez{w num T L R:Tr}(vw:val w=true)(vn:val num=true)(vT:val T=true)(vL:val L=true)(vR:val R=true):jG (apps (jw w) [num,T,L,R]) xO (hold [num,L,w,R]):=by
 have s:Sub (look [([119],w)]):=Gv (by simp[j_,vw]);have e:sb (uv (look [([119],w)]) cA [num,T,L,R]) eU=hold [num,L,w,R]:=rfl;have:=hands eU cA [num,T,L,R] _ s (by simp[j_]) (by simp[vn,vT,vL,vR]) rfl (by simp) (k:=0) (u:=hold [num,L,w,R]) (by rw[e];exact (Ev.v (Gx (by simp[vn,vL,vw,vR]))).r);exact this.to (by unfold xO;omega)
def vZ(m:Bool)(t a w x:Tr):Tr:=if m then hold [t,a,.jn tK (hold [w,x])] else hold [.jn tK (hold [w,x]),a,t]
def zr9{m:Bool}{t a w x:Tr}(vt:val t=true)(va:val a=true)(vw:val w=true)(vx:val x=true):val (vZ m t a w x)=true:=by
 have g:val (.jn tK (hold [w,x]))=true:=by rw[eO];exact Gx (by simp[vw,vx])
 unfold vZ
 split
 ·exact Gx (by simp[vt,va,g])
 ·exact Gx (by simp[vt,va,g])
def Cq(bl w:Tr):List Nat->Option Tr:=q_ (look [([97],bl),([116],tK)]) (look [([119],w)])
def zrs{m:Bool}{bl w:Tr}(vw:val w=true)(Gf:sk bl):fB m bl w=sb (Cq bl w) (bK (bu m) iR):=by
 unfold fB Cq;refine Ha (Gv (by simp[j_,vw])) (λs v e=>?_) _;have:=zh5 e;simp only[gj,kj,afc,Prod.mk.injEq]at this;rcases this with⟨_,rfl⟩ | ⟨_,rfl⟩
 ·exact Gf
 ·exact .inr rfl
def zs1{bl w:Tr}(vb:val bl=true)(vw:val w=true):Sub (Cq bl w) :=
 (Gv (σ:=[([97],bl),([116],tK)]) (by simp[j_,vb];rfl)).q_ (Gv (σ:=[([119],w)]) (by simp[j_,vw]))
def zi7{m:Bool}{bl w:Tr}(vb:val bl=true)(vw:val w=true)(s:sk bl):val (fB m bl w)=true:=by
 rw[zrs vw s];exact yd (zs1 vb vw) (yW _ _)
def zja{m:Bool}{w:Tr}(vw:val w=true):val (ji m w)=true:=yd (Gv (by simp[j_,vw])) (yW _ _)
section
variable  {m:Bool}{bl w way num T S O st:Tr}{cw:Nat}
def zr2(vb:val bl=true)(vw:val w=true)(Gf:sk bl)(vg:val way=true):Sub (look [([98,97,114,101],fB m bl w),([102,117,108,108],ji m w),([103],way)]) :=
 Gv (by simp[j_,zi7 vb vw Gf,zja vw,vg])
def Ao(X:Tr){k:Nat}{u:Tr}(vb:val bl=true)(vw:val w=true)(Gf:sk bl)(vg:val way=true)(vn:val num=true)(vT:val T=true)(vS:val S=true)(vO:val O=true)
  (h:jG (.jn (.jn (.jn (.jn S (fB m bl w)) (ji m w)) (.jn (.jn way T) T)) O) k u) :
  jG (apps (qN m bl w way) [num,T,if m then S else O,if m then O else S]) (k+(cX (cF m) cA).sum) u:=by
 refine hands (cF m) cA [num,T,if m then S else O,if m then O else S] _ (zr2 vb vw Gf vg) (by simp[j_]) (by cases m<;>simp[vn,vT,vS,vO]) rfl (by simp) ?_;have e:sb (uv (look [([98,97,114,101],fB m bl w),([102,117,108,108],ji m w),([103],way)]) cA [num,T,if m then S else O,if m then O else S]) (cF m)=.jn (.jn (.jn (.jn S (fB m bl w)) (ji m w)) (.jn (.jn way T) T)) O:=by
  cases m<;>rfl
 rw[e];exact h
def zqm(vb:val bl=true)(vw:val w=true)(Gf:sk bl)(vg:val way=true)(vn:val num=true)(vT:val T=true)(vO:val O=true)(hw:Ev (.jn (.jn way T) T) cw st) :
  jG (apps (qN m bl w way) [num,T,if m then tK else O,if m then O else tK]) (iu m+oh m+cw) (.jn st (vZ m tK bl w O)):=by
 have vB:=zi7 (m:=m) vb vw Gf;have vF:=zja (m:=m) vw;have A:Ev (.jn (.jn tK (fB m bl w)) (ji m w)) 1 (fB m bl w):=((Ev.v (v:=.jn tK (fB m bl w)) (by rw[eO];exact vB)).K (Ev.v vF)).to (by omega);have s0:=zs1 vb vw;have s1:=s0.upd (x:=[121]) (by simp[j_]) hw.2;have e1:=wZ s0 (x:=[121]) (y:=[120]) (by simp[j_]) hw.2 (bu m) [];rw[show bK (bu m) [[121],[120]]=bK (bu m) iR from rfl,<-zrs (m:=m) vw Gf]at e1;have et:sb (lu (lu (Cq bl w) [121] st) [120] O) (bu m)=.jn st (vZ m tK bl w O):=by cases m<;>rfl
 have r:Rdy (.jn st (vZ m tK bl w O)):=⟨hw.2,zr9 rfl vb vw vO⟩;have e2:=G7 s1 (x:=[120]) (by simp[j_]) vO (bu m) (k:=0) (u:=.jn st (vZ m tK bl w O)) (by rw[et];exact⟨rfl,r⟩);have X:=A.comp hw e1;have:=Ao (m:=m) (O:=O) (num:=num) tK vb vw Gf vg vn vT rfl vO (jG.comp X (Ev.v vO) e2);refine this.to ?_;have es:oh m=(out [121] (bK (bu m) [[120]])).2+((out [120] (bu m)).2+0):=rfl;rw[es];unfold iu;omega
def zsy{a t:Tr}(vb:val bl=true)(vw:val w=true)(Gf:sk bl)(vg:val way=true)(vn:val num=true)(vT:val T=true)(vO:val O=true)(va:val a=true)(vt:val t=true)(hw:Ev (.jn (.jn way T) T) cw st) :
  jG (apps (qN m bl w way) [num,T,if m then .jn tK (hold [a,t]) else O,if m then O else .jn tK (hold [a,t])]) (iu m+j8 m+cw) (.jn st (vZ m t a w O)):=by
 have vB:=zi7 (m:=m) vb vw Gf;have vF:=zja (m:=m) vw;have vH:val (hold [a,t])=true:=Gx (by simp[va,vt]);have vS:val (.jn tK (hold [a,t]))=true:=by rw[eO];exact vH
 have A1:Ev (.jn (.jn tK (hold [a,t])) (fB m bl w)) 1 (hold [a,t]):=((Ev.v vS).K (Ev.v vB)).to (by omega);have s0:Sub (look [([119],w)]):=Gv (by simp[j_,vw]);have s1:=s0.upd (x:=[97]) (by simp[j_]) va;have s2:=s1.upd (x:=[116]) (by simp[j_]) vt;have s3:=s2.upd (x:=[121]) (by simp[j_]) hw.2;have e1:=wZ s0 (x:=[97]) (y:=[116]) (by simp[j_]) va (bu m) [[121],[120]];have e2:=wZ s1 (x:=[116]) (y:=[121]) (by simp[j_]) vt (bu m) [[120]];have e3:=wZ s2 (x:=[121]) (y:=[120]) (by simp[j_]) hw.2 (bu m) [];have et:sb (lu (lu (lu (lu (look [([119],w)]) [97] a) [116] t) [121] st) [120] O) (bu m)=.jn st (vZ m t a w O):=by cases m<;>rfl
 have r:Rdy (.jn st (vZ m t a w O)):=⟨hw.2,zr9 vt va vw vO⟩;have e4:=G7 s3 (x:=[120]) (by simp[j_]) vO (bu m) (k:=0) (u:=.jn st (vZ m t a w O)) (by rw[et];exact⟨rfl,r⟩);have a2:cW (ji m w) [a,t] _ _:=cW.snoc [a] t _ _ _ _ (cW.snoc [] a _ _ 0 _ (.nil vF) va e1) vt e2;obtain⟨_,q⟩:=zn9 vF a2;have A:=A1.comp (Ev.v vF) q;have X:=A.comp hw e3;have:=Ao (m:=m) (O:=O) (num:=num) (.jn tK (hold [a,t])) vb vw Gf vg vn vT vS vO (jG.comp X (Ev.v vO) e4);refine this.to ?_;have es:j8 m=6+((out [97] (bK (bu m) [[116],[121],[120]])).2+((out [116] (bK (bu m) [[121],[120]])).2+((out [121] (bK (bu m) [[120]])).2+((out [120] (bu m)).2+0)))):=rfl;rw[es];unfold iu;simp only[gC,mK];omega
end
def U4{ls:List Nat}(hn:ls.Nodup)(h0:0∉ls)(num:Tr)(fc:Nat->Tr)(L s R T:Tr) :
  sb (uv (look (([110],num)::ls.map λc=>(dn c,fc c))) dM [L,s,R,T]) (cJ ls)=apps s (ls.map fc++[num,T,L,R]):=by
 have hd:∀c,∀x,dn c=[x]->x=100:=λc x e=>by
  unfold dn at e
  split at e<;>simp at e
  exact e.symm
 have ad3:∀a b,dn a=dn b->a∈ls->b∈ls->a=b:=λa b e _ _=>by
  unfold dn at e
  split at e<;>split at e<;>simp_all
 have lk:∀(l:List Nat) (c:Nat),c∈l->(∀x∈l,x∈ls)->look (l.map λc=>(dn c,fc c)) (dn c)=some (fc c):=by
  intro l
  induction l with
  | nil=>intro c hc;cases hc
  | cons x l ih =>
   intro c hc hs;rw[gr,M9];by_cases e:dn x=dn c
   ·rw[aeT e,ad3 x c e (hs x (by simp)) (hs c hc)]
   ·rw[aeU e];refine ih c ?_ λy hy=>hs y (by simp[hy]);rcases gj.mp hc with rfl | h
    ·exact absurd rfl e
    ·exact h
 generalize hρ:look (([110],num)::ls.map λc=>(dn c,fc c))=ρ;have hu:∀q,uv ρ dM [L,s,R,T] q=if q=[102] then some T else if q=[114] then some R else if q=[115] then some s else if q=[108] then some L else ρ q:=λq=>rfl;have ne:∀c x,x≠100->dn c≠[x]:=λc x hx e=>hx (hd c x e);have sdn:∀c∈ls,sb (uv ρ dM [L,s,R,T]) (.lf (dn c))=fc c:=λc hc=>by
  rw[sb,hu,aeU (ne c _ (by decide)),aeU (ne c _ (by decide)),aeU (ne c _ (by decide)),aeU (ne c _ (by decide)),<-hρ,M9,aeU (λe=>ne c 110 (by decide) e.symm),lk ls c hc λx hx=>hx];rfl
 have sn:sb (uv ρ dM [L,s,R,T]) (.lf [110])=num:=by rw[sb,hu,<-hρ];rfl
 unfold cJ;rw[Nv,mL,gO];have e1:ls.map (sb (uv ρ dM [L,s,R,T])∘λc=>.lf (dn c))=ls.map fc:=kJ λc hc=>sdn c hc;rw[e1];have e2:(cA.map Tr.lf).map (sb (uv ρ dM [L,s,R,T]))=[num,T,L,R]:=by
  show [sb _ (.lf [110]),sb _ (.lf [102]),sb _ (.lf [108]),sb _ (.lf [114])]=_;rw[sn];rfl
 rw[e2];rfl
end Tr
end M
set_option maxHeartbeats 0
namespace M
namespace Tr
structure Ru where
 s:Nat
 x:Nat
 w:Nat
 m:Bool
 g:Nat
structure Bk where
 ls:List Nat
 ss:List Nat
 rs:List Ru
def ye(B:Bk)(s x:Nat):Option Ru:=B.rs.find? λr=>decide (r.s=s) && decide (r.x=x)
def bR(l:List Nat)(c:Nat):Nat:=l.findIdx λz=>decide (z=c)
def dN(B:Bk)(c:Nat):Tr:=bV (bR B.ls c) B.ls.length
def xg(B:Bk)(s:Nat):Tr:=bV (bR B.ss s) B.ss.length
def i_(B:Bk)(s:Nat):List Nat:=bC 13 (bR B.ss s) B.ss.length
def bO(B:Bk)(s c:Nat):Tr:=match ye B s c with
 | none=>jw (dN B c)
 | some r=>qN r.m (dN B 95) (dN B r.w) (iW (i_ B r.g))
def iz(B:Bk)(s:Nat):Tr:=aay B.ls (xg B s) (bO B s)
def lz(B:Bk):Tr:=cC 13 ((B.ss.map (iz B)).map jN)
def yZ(B:Bk)(s:Nat):Tr:=hold [iz B s,lz B]
def Mt:List Tr->Tr
 | []=>tK
 | t::ts=>.jn tK (hold [t,Mt ts])
def oH(B:Bk)(cs:List Nat):Tr:=Mt (cs.map (dN B))
structure Sd where
 s:Nat
 a:List Nat
 c:Nat
 b:List Nat
def lB(B:Bk)(z:Sd):Tr:=.jn (yZ B z.s) (hold [oH B z.a,dN B z.c,oH B z.b])
def uY(B:Bk)(z:Sd):Tr:=hold [xg B z.s,oH B z.a,dN B z.c,oH B z.b]
noncomputable def uo(r:Ru)(z:Sd):Sd:=if r.m=true then ⟨r.g,z.a.tail,z.a.headD 95,r.w::z.b⟩ else ⟨r.g,r.w::z.a,z.b.headD 95,z.b.tail⟩
def YX(B:Bk)(z:Sd):Option Sd:=(ye B z.s z.c).map λr=>uo r z
def wM(B:Bk)(s:Nat):Nat:=2+2*(i_ B s).length+jg (i_ B s)+(cX du qg).headD 0
def qM(ls:List Nat):Nat:=6+8+(cX (cJ ls) dM).sum
def b_(B:Bk)(z:Sd):Nat:=qM B.ls+bM (bR B.ls z.c) B.ls.length+(match ye B z.s z.c with
 | none=>xO
 | some r=>iu r.m+(if (if r.m=true then z.a else z.b)=[] then oh r.m else j8 r.m)+wM B r.g)
structure Lw(B:Bk):Prop where
 nl:B.ls.Nodup
 ns:B.ss.Nodup
 bl:95∈B.ls
 z:0∉B.ls
 many:B.ss.length<=4096
 ru:∀r∈B.rs,r.g∈B.ss/\r.w∈B.ls
def Yo{l:List Nat}{c:Nat}(h:c∈l):l[bR l c]? = some c:=by
 have hl:bR l c<l.length:=List.findIdx_lt_length_of_exists ⟨c,h,by simp⟩;have:=List.findIdx_getElem (p:=λz=>decide (z=c)) (xs:=l) (w:=hl);rw[gM hl];exact congrArg some (afd this)
theorem G6:∀m,sk (vQ m)
 | 0=>⟨⟨.inl rfl,.inr rfl⟩,.inr rfl⟩
 | 1=>.inr rfl
 | m+2=>⟨⟨.inl rfl,.inr rfl,.inr rfl⟩,G6 (m+1)⟩
theorem An{v:Tr}(h:sk v):∀n,sk (cZ n v)
 | 0=>h
 | n+1=>⟨.inr rfl,An h n⟩
def zly(k m:Nat):sk (bV k m):=An (G6 _) _
theorem Ag:∀{ts:List Tr},(∀t∈ts,val t=true)->val (Mt ts)=true
 | [],_=>rfl
 | t::ts,h=>by
  have ih:=Ag (ts:=ts) λx hx=>h x (by simp[hx]);rw[Mt,eO];exact Gx (by simp[h t (by simp),ih])
section
variable  {B:Bk}
def zm(c:Nat):val (dN B c)=true:=Gy _ _
def Ga(cs:List Nat):val (oH B cs)=true:=Ag λt ht=>by
 obtain⟨c,_,rfl⟩:=gh.mp ht;exact zm c
def zl3(ts:List Nat):val (iW ts)=true:=Gx λt ht=>by
 obtain⟨c,_,rfl⟩:=gh.mp ht;exact Gy _ _
def zof(s c:Nat):val (bO B s c)=true:=by
 unfold bO
 split
 ·exact yd (Gv (by simp[j_,zm])) (yW _ _)
 ·exact yd (zr2 (zm _) (zm _) (zly _ _) (zl3 _)) (yW _ _)
def Ar(s:Nat):Sub (look (([110],xg B s)::B.ls.map λc=>(dn c,bO B s c))):=by
 refine Gv λp hp=>?_;rcases gj.mp hp with rfl | hp
 ·exact⟨by simp[j_],Gy _ _⟩
 ·obtain⟨c,_,rfl⟩:=gh.mp hp;refine⟨?_,zof _ _⟩;show j_ (dn c);unfold dn
  split<;>simp[j_]
def zma(s:Nat):val (iz B s)=true:=yd (Ar s) (yW _ _)
def zh1:val (lz B)=true:=RM 13 _ λe he=>by
 obtain⟨r,hr,rfl⟩:=gh.mp he;obtain⟨s,_,rfl⟩:=gh.mp hr;exact zmn (zma s)
def Nb(h:Lw B){g:Nat}(hg:g∈B.ss):Ev (.jn (.jn (iW (i_ B g)) (lz B)) (lz B)) (wM B g) (yZ B g):=by
 have:=Uk (n:=12) (k:=bR B.ss g) (rows:=B.ss.map (iz B)) (row:=iz B g) (λr hr=>by
  obtain⟨s,_,rfl⟩:=gh.mp hr;exact zma s) (by rw[gq];exact h.many) (by rw[gP,Yo hg];rfl)
 rw[gq]at this;exact this
theorem G3(h:Lw B)(z:Sd)(hc:z.c∈B.ls):match YX B z with
  | some z'=>jG (lB B z) (b_ B z) (lB B z')
  | none=>Ev (lB B z) (b_ B z) (uY B z):=by
 have key:∀{k:Nat} {u:Tr},jG (apps (bO B z.s z.c) [xg B z.s,lz B,oH B z.a,oH B z.b]) k u->jG (lB B z) (qM B.ls+bM (bR B.ls z.c) B.ls.length+k) u:=λ{k u} e=>by
  have hd:((B.ls.map (bO B z.s))[bR B.ls z.c]?)=some (bO B z.s z.c):=by rw[gP,Yo hc];rfl
  have d:=zrl (deeds:=B.ls.map (bO B z.s)) (λx hx=>by
   obtain⟨c,_,rfl⟩:=gh.mp hx;exact zof _ _) hd e
  rw[gq]at d;have r:=Dt (Ar (B:=B) z.s) (t:=cJ B.ls) (L:=oH B z.a) (s:=dN B z.c) (R:=oH B z.b) (T:=lz B) (Ga _) (zm _) (Ga _) zh1 (k:=bM (bR B.ls z.c) B.ls.length+k) (u:=u) (by
   rw[U4 h.nl h.z];exact d)
  exact r.to (by unfold qM;omega)
 unfold YX;cases hf:ye B z.s z.c with
 | none =>
  have e:=Ez (w:=dN B z.c) (num:=xg B z.s) (T:=lz B) (L:=oH B z.a) (R:=oH B z.b) (zm _) (Gy _ _) zh1 (Ga _) (Ga _);have hd:bO B z.s z.c=jw (dN B z.c):=by unfold bO;rw[hf]
  rw[<-hd]at e;have:=key e;have qW:b_ B z=qM B.ls+bM (bR B.ls z.c) B.ls.length+xO:=by unfold b_;rw[hf]
  rw[qW];exact⟨this.1,Gx (by simp[xg,Gy,Ga,zm])⟩
 | some r =>
  have hr:=h.ru r (n_ hf);have hd:bO B z.s z.c=qN r.m (dN B 95) (dN B r.w) (iW (i_ B r.g)):=by unfold bO;rw[hf]
  have qW:b_ B z=qM B.ls+bM (bR B.ls z.c) B.ls.length+(iu r.m+(if (if r.m=true then z.a else z.b)=[] then oh r.m else j8 r.m)+wM B r.g):=by unfold b_;rw[hf]
  show jG (lB B z) (b_ B z) (lB B (uo r z));rw[qW];refine key ?_;rw[hd];have hw:=Nb h hr.1;have bb:=λ(O:List Nat)=>zqm (m:=r.m) (bl:=dN B 95) (w:=dN B r.w) (way:=iW (i_ B r.g)) (num:=xg B z.s) (T:=lz B) (O:=oH B O) (zm _) (zm _) (zly _ _) (zl3 _) (Gy _ _) zh1 (Ga _) hw;have ff:=λ(a:Nat) (t O:List Nat)=>zsy (m:=r.m) (bl:=dN B 95) (w:=dN B r.w) (way:=iW (i_ B r.g)) (num:=xg B z.s) (T:=lz B) (O:=oH B O) (a:=dN B a) (t:=oH B t) (zm _) (zm _) (zly _ _) (zl3 _) (Gy _ _) zh1 (Ga _) (zm _) (Ga _) hw;obtain⟨s0,a0,c0,b0⟩:=z;cases hm:r.m with
  | true =>
   rw[hm]at bb ff;cases a0 with
   | nil =>
    have:=bb b0;unfold uo;rw[aeT hm];exact this
   | cons a t =>
    have:=ff a t b0;unfold uo;rw[aeT hm];exact this
  | false =>
   rw[hm]at bb ff;have Mw:¬ r.m=true:=by rw[hm];decide
   cases b0 with
   | nil =>
    have:=bb a0;unfold uo;rw[aeU Mw];exact this
   | cons a t =>
    have:=ff a t a0;unfold uo;rw[aeU Mw];exact this
def WD(z:Sd):val (lB B z)=false:=by
 show val (.jn (.jn (.jn tS _) _) _)=false;exact Yk _ _ _
end
end Tr
end M
namespace M
namespace Tr
def uG(ns:List (List Nat)):Tr:=apps (.lf [115]) (ns.map .lf++cA.map .lf)
def NQ(ls:List Nat):cJ ls=uG (ls.map dn):=by unfold cJ uG;rw[gO];rfl
def Xu(c:Nat):∃t,dn c=100::t:=by unfold dn;split<;>exact⟨_,rfl⟩
def acM:∀(ns:List (List Nat)),(∀n∈ns,∃t,n=100::t)->ns.length<=9->(cX (uG ns) dM).sum=46+6*ns.length/\dp (bK (uG ns) dM)=19+3*ns.length/\lv (bK (uG ns) dM)=48+7*ns.length:=by
 intro ns h hl;have un:∀(k:Nat) (l:List (List Nat)),(∀n∈l,∃t,n=100::t)->l.length=k->∃ts:List (List Nat),ts.length=k/\l=ts.map (100 :: ·):=by
  intro k
  induction k with
  | zero=>intro l _ e;exact⟨[],rfl,nU.mp e⟩
  | succ k ih =>
   intro l h e;cases l with
   | nil=>cases e
   | cons a l =>
    obtain⟨t,rfl⟩:=h a (by simp);obtain⟨ts,h1,h2⟩:=ih l (λn hn=>h n (by simp[hn])) (by simpa using e);exact⟨t::ts,by simp[h1],by simp[h2]⟩
 obtain⟨ts,h1,h2⟩:=un ns.length ns h rfl;rw[h2,gq];rw[<-h1]at hl;clear h h1 h2 un
 match ts,hl with
 | [],_=>exact⟨by kernel_rfl,by kernel_rfl,by kernel_rfl⟩
 | [_],_=>exact⟨by kernel_rfl,by kernel_rfl,by kernel_rfl⟩
 | [_,_],_=>exact⟨by kernel_rfl,by kernel_rfl,by kernel_rfl⟩
 | [_,_,_],_=>exact⟨by kernel_rfl,by kernel_rfl,by kernel_rfl⟩
 | [_,_,_,_],_=>exact⟨by kernel_rfl,by kernel_rfl,by kernel_rfl⟩
 | [_,_,_,_,_],_=>exact⟨by kernel_rfl,by kernel_rfl,by kernel_rfl⟩
 | [_,_,_,_,_,_],_=>exact⟨by kernel_rfl,by kernel_rfl,by kernel_rfl⟩
 | [_,_,_,_,_,_,_],_=>exact⟨by kernel_rfl,by kernel_rfl,by kernel_rfl⟩
 | [_,_,_,_,_,_,_,_],_=>exact⟨by kernel_rfl,by kernel_rfl,by kernel_rfl⟩
 | [_,_,_,_,_,_,_,_,_],_=>exact⟨by kernel_rfl,by kernel_rfl,by kernel_rfl⟩
 | _::_::_::_::_::_::_::_::_::_::_,h=>simp at h
def U5(ls:List Nat)(h:ls.length<=9):(cX (cJ ls) dM).sum=46+6*ls.length/\dp (bK (cJ ls) dM)=19+3*ls.length/\lv (bK (cJ ls) dM)=48+7*ls.length:=by
 have:=acM (ls.map dn) (λn hn=>by
  obtain⟨c,_,rfl⟩:=gh.mp hn;exact Xu c) (by simpa using h)
 rw[<-NQ,gq]at this;exact this
theorem Yp:∀(n k left:Nat),(bC n k left).length<=n/\∀t∈bC n k left,t<=1
 | 0,_,_=>⟨gb _,by simp[bC]⟩
 | n+1,k,left=>by
  rw[bC]
  split
  ·simp
  ·split
   ·obtain⟨h1,h2⟩:=Yp n k (left / 2);exact⟨by simp;exact h1,λt ht=>(gj.mp ht).elim (λe=>by omega) (h2 t)⟩
   ·obtain⟨h1,h2⟩:=Yp n (k - left / 2) (left - left / 2);exact⟨by simp;exact h1,λt ht=>(gj.mp ht).elim (λe=>by omega) (h2 t)⟩
theorem zqw:∀(ts:List Nat),(∀t∈ts,t<=1)->jg ts<=9*ts.length
 | [],_=>by simp[jg]
 | t::ts,h=>by
  have ih:=zqw ts λx hx=>h x (by simp[hx]);have e:jg (t::ts)=6+bM t 2+jg ts:=by simp[jg]
  have h1:=h t (by simp);have h2:bM t 2<=3:=by
   rcases (by omega:t=0\/t=1) with rfl | rfl<;>decide
  rw[e,gC];omega
def HQ(k m:Nat):bM k m<=3*m+2:=by
 unfold bM;have:=HF (m - 1 - k);omega
def RK{l:List Nat}{c:Nat}(h:c∈l):bR l c<l.length:=List.findIdx_lt_length_of_exists ⟨c,h,by simp⟩
def zqt(B:Bk)(z:Sd)(hl:B.ls.length<=9):1<=b_ B z/\b_ B z<=600:=by
 have h1:=(U5 B.ls hl).1;have h2:=HQ (bR B.ls z.c) B.ls.length;have e1:xO=45:=by kernel_rfl
 cases hf:ye B z.s z.c with
 | none =>
  have qW:b_ B z=qM B.ls+bM (bR B.ls z.c) B.ls.length+xO:=by unfold b_;rw[hf]
  rw[qW];unfold qM;omega
 | some r =>
  have qW:b_ B z=qM B.ls+bM (bR B.ls z.c) B.ls.length+(iu r.m+(if (if r.m=true then z.a else z.b)=[] then oh r.m else j8 r.m)+wM B r.g):=by unfold b_;rw[hf]
  obtain⟨t1,t2⟩:=Yp 13 (bR B.ss r.g) B.ss.length;have t3:=zqw _ t2;have hw:wM B r.g<=2+2*13+9*13+2:=by
   unfold wM i_;have:(cX du qg).headD 0=2:=by kernel_rfl
   rw[this];omega
  have s1:iu r.m<=47:=by cases r.m<;>decide +kernel
  have s2:oh r.m<=22:=by cases r.m<;>decide +kernel
  have s3:j8 r.m<=56:=by cases r.m<;>decide +kernel
  have hi:(if (if r.m=true then z.a else z.b)=[] then oh r.m else j8 r.m)<=56:=by
   by_cases q:(if r.m=true then z.a else z.b)=[]
   ·rw[aeT q];omega
   ·rw[aeU q];omega
  rw[qW];unfold qM;omega
def Z5(ts:List Tr)(b:Nat)(h:∀t∈ts,dp t<=b):dp (hold ts)<=2*ts.length+b+2:=by
 have key:∀(ts:List Tr) (w:Tr) (c:Nat),(∀t∈ts,dp t<=b)->dp w<=c->b+2<=c->dp (ts.foldl (λw t=>.jn (.jn tS w) (.jn tK t)) w)<=2*ts.length+c:=by
  intro ts
  induction ts with
  | nil=>intro w c _ hw _;simpa using hw
  | cons t ts ih =>
   intro w c h hw hc;have ht:=h t (by simp);have e:dp (.jn (.jn tS w) (.jn tK t))<=c+2:=by
    have a0:dp tS=0:=rfl;have a1:dp tK=0:=rfl;simp only[dp,a0,a1];omega
   have:=ih (.jn (.jn tS w) (.jn tK t)) (c+2) (λx hx=>h x (by simp[hx])) e (by omega);simp only[List.foldl_cons,gC];omega
 have e:dp tI=2:=rfl;have:=key ts tI (b+2) h (by rw[e];omega) (gb _);unfold hold;omega
theorem zp6:∀(n:Nat) (es:List Tr) (b:Nat),(∀e∈es,dp e<=b)->dp (cC n es)<=6*n+b
 | 0,_,b,_=>by
  have:dp tK=0:=rfl;rw[cC,this];omega
 | n+1,es,b,h=>by
  rw[cC]
  split
  ·rename_i h1;obtain⟨e,rfl⟩:=m7.mp h1;have:=h e (by simp);simp;omega
  ·have:=Z5 [cC n (es.take (es.length / 2)),cC n (es.drop (es.length / 2))] (6*n+b) (λt ht=>by
    simp only[gj,kj,afc]at ht;rcases ht with rfl | rfl
    ·exact zp6 n _ b λe he=>h e (mZ he)
    ·exact zp6 n _ b λe he=>h e (m_ he))
   simp only[gC,mK]at this;omega
theorem KN(b:Nat):∀(ts:List Tr),(∀t∈ts,dp t<=b)->dp (Mt ts)<=3*ts.length+b+5
 | [],_=>by
  have:dp tK=0:=rfl;rw[Mt,this];omega
 | t::ts,h=>by
  have ih:=KN b ts λx hx=>h x (by simp[hx]);have ht:=h t (by simp);have a0:dp tS=0:=rfl;have a1:dp tK=0:=rfl;have a2:dp tI=2:=rfl;have e:dp (Mt (t::ts))=dp (.jn tK (.jn (.jn tS (.jn (.jn tS tI) (.jn tK t))) (.jn tK (Mt ts)))):=rfl;rw[e];simp only[dp,a0,a1,a2,gC];omega
def T6{σ:List (List Nat×Tr)}{b:Nat}(h:∀p∈σ,dp p.2<=b):∀s v,look σ s=some v->dp v<=b:=λs v e=>h _ (zh5 e)
theorem MN{f:List Nat->Option Tr}{b:Nat}(h:∀s v,f s=some v->dp v<=b):∀t,dp (sb f t)<=dp t+b
 | .lf s=>by
  rw[sb];cases e:f s with
  | none=>exact mD _
  | some v=>have:=h s v e;show dp v<=_;omega
 | .jn l r=>by
  have:=MN h l;have:=MN h r;rw[sb,dp,dp];omega
section
variable  {B:Bk}
def Yb(hl:B.ls.length<=9){c:Nat}(h:c∈B.ls):dp (dN B c)<=11:=by
 have h1:=zqe (vQ (B.ls.length - 1 - bR B.ls c)) (bR B.ls c);have h2:=z_ (B.ls.length - 1 - bR B.ls c);have h3:=RK h;unfold dN bV;omega
def KQ(h:Lw B)(hl:B.ls.length<=9)(s:Nat){c:Nat}(hc:c∈B.ls):dp (bO B s c)<=75:=by
 unfold bO;cases hf:ye B s c with
 | none =>
  dsimp only;have:=MN (f:=look [([119],dN B c)]) (b:=11) (T6 (by simp[Yb hl hc])) (bK eU cA);have e:dp (bK eU cA)=22:=by kernel_rfl
  unfold jw;omega
 | some r =>
  dsimp only;have hr:=h.ru r (n_ hf);have w1:=Yb hl hr.2;have w2:=Yb hl h.bl;have a0:dp tK=0:=rfl;have b1:dp (fB r.m (dN B 95) (dN B r.w))<=52:=by
   have q1:=MN (f:=look [([97],dN B 95),([116],tK)]) (b:=11) (T6 (by simp[w2,a0])) (bK (bu r.m) iR);have q2:=MN (f:=look [([119],dN B r.w)]) (b:=11) (T6 (by simp[w1])) (sb (look [([97],dN B 95),([116],tK)]) (bK (bu r.m) iR));have e:dp (bK (bu r.m) iR)<=30:=by cases r.m<;>decide +kernel
   unfold fB;omega
  have b2:dp (ji r.m (dN B r.w))<=52:=by
   have q2:=MN (f:=look [([119],dN B r.w)]) (b:=11) (T6 (by simp[w1])) (bK (bu r.m) oX);have e:dp (bK (bu r.m) oX)<=30:=by cases r.m<;>decide +kernel
   unfold ji;omega
  have b3:dp (iW (i_ B r.g))<=32:=by
   obtain⟨t1,t2⟩:=Yp 13 (bR B.ss r.g) B.ss.length;have:=Z5 ((i_ B r.g).map λt=>bV t 2) 4 (λt ht=>by
    obtain⟨k,hk,rfl⟩:=gh.mp ht;have:=t2 k hk;rcases (by omega:k=0\/k=1) with rfl | rfl<;>decide)
   rw[gq]at this;unfold iW;have Uy:(i_ B r.g).length<=13:=t1;omega
  have q:=MN (f:=look [([98,97,114,101],fB r.m (dN B 95) (dN B r.w)),([102,117,108,108],ji r.m (dN B r.w)),([103],iW (i_ B r.g))]) (b:=52) (T6 (by simp;omega)) (bK (cF r.m) cA);have e:dp (bK (cF r.m) cA)<=18:=by cases r.m<;>decide +kernel
  unfold qN;omega
def KJ{s:Nat}(h:s∈B.ss):dp (xg B s)<=B.ss.length+2:=by
 have h1:=zqe (vQ (B.ss.length - 1 - bR B.ss s)) (bR B.ss s);have h2:=z_ (B.ss.length - 1 - bR B.ss s);have h3:=RK h;unfold xg bV;omega
def BV(h:Lw B)(hl:B.ls.length<=9){s:Nat}(hs:s∈B.ss):dp (iz B s)<=B.ss.length+121:=by
 have q:=MN (f:=look (([110],xg B s)::B.ls.map λc=>(dn c,bO B s c))) (b:=B.ss.length+75) (T6 λp hp=>by
  rcases gj.mp hp with rfl | hp
  ·have:=KJ hs;show dp (xg B s)<=_;omega
  ·obtain⟨c,hc,rfl⟩:=gh.mp hp;have:=KQ h hl s hc;show dp (bO B s c)<=_;omega) (bK (cJ B.ls) dM)
 have e:=(U5 B.ls hl).2.1;unfold iz aay;omega
def QT(h:Lw B)(hl:B.ls.length<=9):dp (lz B)<=B.ss.length+207:=by
 have:=zp6 13 ((B.ss.map (iz B)).map jN) (B.ss.length+129) (λe he=>by
  obtain⟨r,hr,rfl⟩:=gh.mp he;obtain⟨s,hs,rfl⟩:=gh.mp hr;have q:=MN (f:=look [([101],iz B s)]) (b:=B.ss.length+121) (T6 (by simp[BV h hl hs])) (bK du qg);have e:dp (bK du qg)=8:=by kernel_rfl
  unfold jN;omega)
 unfold lz;omega
def Xq(h:Lw B)(hl:B.ls.length<=9){s:Nat}(hs:s∈B.ss):dp (yZ B s)<=B.ss.length+213:=by
 have:=Z5 [iz B s,lz B] (B.ss.length+207) (λt ht=>by
  simp only[gj,kj,afc]at ht;rcases ht with rfl | rfl
  ·have:=BV h hl hs;omega
  ·exact QT h hl)
 simp only[gC,mK]at this;unfold yZ;omega
def xP(hl:B.ls.length<=9){cs:List Nat}(hc:∀c∈cs,c∈B.ls):dp (oH B cs)<=3*cs.length+16:=by
 have:=KN 11 (cs.map (dN B)) (λt ht=>by
  obtain⟨c,h,rfl⟩:=gh.mp ht;exact Yb hl (hc c h))
 rw[gq]at this;unfold oH;omega
structure FP(B:Bk)(z:Sd):Prop where
 s:z.s∈B.ss
 c:z.c∈B.ls
 a:∀c∈z.a,c∈B.ls
 b:∀c∈z.b,c∈B.ls
def abC(h:Lw B)(hl:B.ls.length<=9){z:Sd}(hz:FP B z)(b:Nat)(ha:z.a.length<=b)(hb:z.b.length<=b):dp (hold [oH B z.a,dN B z.c,oH B z.b])<=3*b+24:=by
 have:=Z5 [oH B z.a,dN B z.c,oH B z.b] (3*b+16) (λt ht=>by
  simp only[gj,kj,afc]at ht;rcases ht with rfl | rfl | rfl
  ·have:=xP hl hz.a;omega
  ·have:=Yb hl hz.c;omega
  ·have:=xP hl hz.b;omega)
 simp only[gC,mK]at this;omega
def BW(h:Lw B)(hl:B.ls.length<=9){z:Sd}(hz:FP B z)(b:Nat)(ha:z.a.length<=b)(hb:z.b.length<=b):dp (lB B z)<=B.ss.length+3*b+214:=by
 have h1:=abC h hl hz b ha hb;have h2:=Xq h hl hz.s;show dp (.jn (yZ B z.s) (hold [oH B z.a,dN B z.c,oH B z.b]))<=_;rw[dp];omega
def QV(h:Lw B)(hl:B.ls.length<=9){z:Sd}(hz:FP B z)(b:Nat)(ha:z.a.length<=b)(hb:z.b.length<=b):dp (uY B z)<=B.ss.length+3*b+30:=by
 have:=Z5 [xg B z.s,oH B z.a,dN B z.c,oH B z.b] (B.ss.length+3*b+16) (λt ht=>by
  simp only[gj,kj,afc]at ht;rcases ht with rfl | rfl | rfl | rfl
  ·have:=KJ hz.s;omega
  ·have:=xP hl hz.a;omega
  ·have:=Yb hl hz.c;omega
  ·have:=xP hl hz.b;omega)
 simp only[gC,mK]at this;unfold uY;omega
def FP.go(h:Lw B){z:Sd}(hz:FP B z){r:Ru}(hr:r∈B.rs):FP B (uo r z):=by
 have hd:∀(l:List Nat),(∀c∈l,c∈B.ls)->l.headD 95∈B.ls:=λl hl=>by
  cases l with
  | nil=>exact h.bl
  | cons a l=>exact hl a (by simp)
 have hc:∀(l:List Nat),(∀c∈l,c∈B.ls)->∀c∈r.w::l,c∈B.ls:=λl hl c hx=>by
  rcases gj.mp hx with rfl | hx
  ·exact (h.ru r hr).2
  ·exact hl c hx
 unfold uo
 split
 ·exact⟨(h.ru r hr).1,hd _ hz.a,λc hx=>hz.a c (List.mem_of_mem_tail hx),hc _ hz.b⟩
 ·exact⟨(h.ru r hr).1,hd _ hz.b,hc _ hz.a,λc hx=>hz.b c (List.mem_of_mem_tail hx)⟩
end
end Tr
end M
set_option maxHeartbeats 0
namespace M
namespace Tr
theorem zN(x:List Nat):∀t,lv (out x t).1+1<=4*lv t
 | .lf s=>by
  by_cases h:jd x (.lf s)=true
  ·rw[zmu x h];show 3+1<=4*1;decide
  ·have e:stands x (.lf s)=false:=(show jd x (.lf s)=false by simpa using h);rw[Yr x (by rw[e];rfl)];show 2+1<=4*1;decide
 | .jn l r=>by
  have i1:=zN x l;have i2:=zN x r;by_cases h1:(val (.jn l r) && !stands x (.jn l r))=true
  ·rw[Yr x h1];have:=zjr l;have:=zjr r;simp only[lv];omega
  ·by_cases h2:((val l && !stands x l) && jd x r)=true
   ·simp only[gH]at h2;rw[zgv x (by simp only[gH];exact h2.1) h2.2];have:=zjr r;have:=zjr l;simp only[lv];omega
   ·rw[zjd x (by simpa using h1) (by simpa using h2)];simp only[lv];omega
theorem xq(t:Tr):∀xs:List (List Nat),lv (bK t xs)<=4 ^ xs.length*lv t
 | []=>by simp[bK]
 | x::xs=>by
  have ih:=xq t xs;have:=zN x (bK t xs);rw[bK,gC,nZ,Nat.mul_assoc,Nat.mul_comm 4,<-Nat.mul_assoc];omega
end Tr
end M
namespace Law
open L2 M Tr
def aG(cs:List Nat):List D:=cs.map λ(c:Nat)=>D.int (c:Int)
def Bg(xs:List (List Nat))(t:Tr)(st:ak)(ht:st[1]? = some (.tab "out_and_cost"))(hc:aY st)(hl:xs.length<=4)(hv:lv t<=100) :
  zaz [.tup (xs.map D.str),enc t] st=.ok (.tup [enc (bK t xs),.loc st.length]) (st++[.lst (aG (cX t xs))]):=by
 unfold zaz bA bx zc2;generalize hB:(aC (aJ 5 (az RZ [] _)) _:MS)=B;obtain⟨bY,st',h1,a4,a5,rfl,rfl⟩:=yV (g:=aO 4) (b:=B) (gs:=[]) (items:=(xs.map D.str).reverse)
  (λi env s=>∃(a4 a5:Option D),env=[some (.tup (xs.map D.str)),some (enc t),some (enc (bK t (xs.drop (xs.length - i)))),some (.loc st.length),a4,a5]/\s=st++[.lst (aG (cX t (xs.drop (xs.length - i))).reverse)])
  (env:=[some (.tup (xs.map D.str)),some (enc t),some (enc t),some (.loc st.length),none,none]) (st:=st++[.lst []]) ⟨none,none,by simp[bK],by simp[cX,aG]⟩ (by
   rintro i d env s hi ⟨a4,a5,rfl,rfl⟩;rw[<-pB]at hi;obtain⟨x,hx,rfl⟩:=Gr hi;obtain⟨Gm,e⟩:=Av hx;generalize hys:xs.drop (xs.length - i)=ys at *;have hyl:ys.length<=4:=by rw[<-hys,mV];omega
   have hlv:lv (bK t ys)<=400000:=by
    have h1:=xq t ys;have h2:4 ^ ys.length<=4 ^ 4:=Nat.pow_le_pow_right (by decide) hyl;have h3:4 ^ ys.length*lv t<=4 ^ 4*100:=Nat.mul_le_mul h2 hv;omega
   have ug:(aG (cX t ys).reverse).length<1000000:=by simp[aG,zn5];omega
   let S1:ak:=st++[.lst (aG (cX t ys).reverse)]
   have o1:=zcy x (bK t ys) S1 (dG ht) (by simp[S1,hc]) hlv;have x0:aN (encC (out x (bK t ys))) (.int 0) S1=.ok (enc (out x (bK t ys)).1) S1:=by rw[encC];exact iw S1 0 _ _ rfl
   have x1:aN (encC (out x (bK t ys))) (.int 1) S1=.ok (.int ((out x (bK t ys)).2:Nat)) S1:=by rw[encC];exact iw S1 1 _ _ rfl
   have ap:aV (.loc st.length) [.int ((out x (bK t ys)).2:Nat)] S1=.ok .non (st++[.lst (aG (cX t (x::ys)).reverse)]):=by
    have e3:aG (cX t (x::ys)).reverse=aG (cX t ys).reverse++[.int ((out x (bK t ys)).2:Nat)]:=by simp[aG,cX]
    rw[e3];show aV (.loc st.length) [_] (st++[.lst (aG (cX t ys).reverse)])=_;generalize aG (cX t ys).reverse=Y at ug ⊢;simp[aV,ug]
   have it:cM "list" (.loc st.length) S1=true:=by simp[cM,S1]
   refine⟨by simp,_,_,rfl,[some (.tup (xs.map D.str)),some (enc t),some (enc (bK t (xs.drop (xs.length - (i+1))))),some (.loc st.length),some (.str x),some (encC (out x (bK t ys)))],st++[.lst (aG (cX t (xs.drop (xs.length - (i+1)))).reverse)],.inl ?_,_,_,rfl,rfl⟩;rw[<-hB,e,show bK t (x::ys)=(out x (bK t ys)).1 from rfl];show _=R.ok _ (st++[.lst (aG (cX t (x::ys)).reverse)]);change (aC _ _:MS) [some (.tup (xs.map D.str)),some (enc t),some (enc (bK t ys)),some (.loc st.length),some (.str x),a5] S1=_;generalize (st++[.lst (aG (cX t (x::ys)).reverse)]:ak)=S2 at *;generalize S1=Z1 at *;generalize encC (out x (bK t ys))=W1 at *;generalize enc (out x (bK t ys)).1=W2 at *;generalize enc (bK t ys)=W3 at *;generalize (((out x (bK t ys)).2:Nat):Int)=c1 at *;simp[o1,x0,x1,it,ap]) (λ_ _ _=>by simp)
 rw[pH,gq,Nat.sub_self,List.drop_zero]at h1;have rv:lO (.loc st.length) [] (st++[.lst (aG (cX t xs).reverse)])=.ok .non (st++[.lst (aG (cX t xs))]):=by
  have e:(aG (cX t xs).reverse).reverse=aG (cX t xs):=by simp[aG]
  rw[<-e];generalize aG (cX t xs).reverse=Y;simp[lO]
 have it:cM "list" (.loc st.length) (st++[.lst (aG (cX t xs).reverse)])=true:=by simp[cM]
 have l0:∀env,dw au env st=.ok (.loc st.length) (st++[.lst []]):=λenv=>by simp
 have fin:gc st (.ok (.tup [enc (bK t xs),.loc st.length]) (st++[.lst (aG (cX t xs))]))=.ok (.tup [enc (bK t xs),.loc st.length]) (st++[.lst (aG (cX t xs))]):=by
  unfold gc;dsimp only;rw[aeU];rintro ⟨_,h⟩;simp at h
 rw[show startM 6 [D.tup (xs.map D.str),enc t]=[some (.tup (xs.map D.str)),some (enc t),none,none,none,none] from rfl];generalize hZ2:(st++[.lst (aG (cX t xs))]:ak)=Z2 at *;generalize hZ1:(st++[.lst (aG (cX t xs).reverse)]:ak)=Z1 at *;generalize hZ0:(st++[.lst []]:ak)=Z0 at *;generalize hL:dw au=L at *;generalize enc (bK t xs)=W at *;generalize enc t=T at *;generalize xs.map D.str=X at *;simp[l0,h1,it,rv];exact fin
def YB(xs:List (List Nat))(t:Tr)(st:ak)(ht:st[1]? = some (.tab "out_and_cost"))(hc:aY st)(hl:xs.length<=4)(hv:lv t<=100) :
  M7 [.tup (xs.map D.str),enc t] st=.ok (enc (bK t xs)) st:=by
 have m:=Bg xs t st ht hc hl hv;have x0:∀s,aN (.tup [enc (bK t xs),.loc st.length]) (.int 0) s=.ok (enc (bK t xs)) s:=λs=>iw s 0 _ _ rfl;have hu:=iV st.length (bK t xs);unfold M7 bA bx zi0;generalize enc (bK t xs)=W at *;generalize enc t=T at *;simp[startM,m,x0];exact sJ hu
def zf5(xs:List (List Nat))(t:Tr)(st:ak)(ht:st[1]? = some (.tab "out_and_cost"))(hc:aY st)(hl:xs.length<=4)(hv:lv t<=100) :
  Mj [.tup (xs.map D.str),enc t] st=.ok (.loc st.length) (st++[.lst (aG (cX t xs))]):=by
 have m:=Bg xs t st ht hc hl hv;have x0:∀s,aN (.tup [enc (bK t xs),.loc st.length]) (.int 1) s=.ok (.loc st.length) s:=λs=>iw s 1 _ _ rfl;have hu:bQ st.length (aG (cX t xs)):=by
  unfold aG;generalize cX t xs=cs
  induction cs with
  | nil=>simp
  | cons c cs ih=>simp[ih]
 unfold Mj bA bx ze5;generalize enc (bK t xs)=W at *;generalize aG (cX t xs)=Y at *;generalize enc t=T at *;simp[startM,m,x0];exact Yh hu
def zgr(t:Tr)(ts:List Tr)(n:Nat)(st:ak)(h:st[n]? = some (.lst (ts.map enc))):Mg [enc t,.loc n] st=.ok (enc (apps t ts)) st:=by
 unfold Mg bA bx zlr;generalize hB:(aJ 2 (az ql [] _):MS)=B;obtain⟨bY,st',h1,a3,rfl,rfl⟩:=yV (g:=aO 3) (b:=B) (gs:=[(n,.lst (ts.map enc))]) (items:=ts.map enc)
  (λi env s=>∃(a3:Option D),env=[some (enc t),some (.loc n),some (enc (apps t (ts.take i))),a3]/\s=st)
  (env:=[some (enc t),some (.loc n),some (enc t),none]) (st:=st) ⟨none,rfl,rfl⟩ (by
   rintro i d env s hi ⟨a3,rfl,rfl⟩;obtain⟨x,hx,rfl⟩:=Gr hi;have e:=zgu t (ts.take i) x;have e2:ts.take (i+1)=ts.take i++[x]:=by rw[kO,hx];rfl
   have j1:=wK (apps t (ts.take i)) x s;refine⟨by simp[h],_,_,rfl,[some (enc t),some (.loc n),some (enc (apps t (ts.take (i+1)))),some (enc x)],s,.inl ?_,_,rfl,rfl⟩;rw[<-hB,e2,e];generalize enc (.jn (apps t (ts.take i)) x)=W at *;generalize enc (apps t (ts.take i))=W1 at *;simp[j1]) (λ_ _ zz=>by obtain⟨_,_,q⟩:=zz;subst q;simp[h])
 rw[gq,my]at h1;have hu:=iV st'.length (apps t ts);rw[show startM 4 [enc t,D.loc n]=[some (enc t),some (.loc n),none,none] from rfl];generalize enc (apps t ts)=W at *;generalize enc t=X at *;simp[h,h1];exact eY hu
end Law
set_option maxHeartbeats 0
namespace Law
open L2 M Tr
structure Bs(st:ak):Prop where
 t1:st[1]? = some (.tab "out_and_cost")
 t2:st[2]? = some (.tab "put_in")
 c:aY st
def Bs.app{st:ak}(h:Bs st){g:ak}(hg:aY g):Bs (st++g):=⟨dG h.t1,dG h.t2,by simp[h.c,hg]⟩
def zbq(n:Nat)(st:ak)(h:n<=1000):M_ [.int n] st=.ok (.int ((2+2*n:Nat):Int)) st:=by
 have m2:eZ (.int 2) (.int n) st=.ok (.int (2*(n:Int))) st:=CP st 2 n (by omega);unfold M_ bA bx zeq;simp[startM,m2,aX,eY]
def zos(x:List Nat)(t:Tr)(st:ak)(h:Bs st)(hl:lv t<=400000):zdj [.str x,enc t] st=.ok (.int ((out x t).2:Nat)) st:=by
 have o:=zcy x t st h.t1 h.c hl;have x1:aN (encC (out x t)) (.int 1) st=.ok (.int ((out x t).2:Nat)) st:=by rw[encC];exact iw st 1 _ _ rfl
 unfold zdj bA bx zh2;generalize encC (out x t)=W at *;generalize enc t=T at *;simp[startM,o,x1,eY]
def zg6(k many:Nat)(st:ak)(h:Bs st)(hk:k<many)(hm:many<=100000):YJ [.int k,.int many] st=.ok (.int (bM k many:Nat)) st:=by
 have u:=ze6 (many - 1 - k) (.lf [120]) st (by omega);have o:=zos [120] (cZ (many - 1 - k) (.lf [120])) st h (by rw[znb];show 1+_<=_;omega);rw[zsw]at o;have e1:(many:Int) - 1 - (k:Int)=((many - 1 - k:Nat):Int):=by omega
 have e2:(many:Int) - 1+((DG (many - 1 - k):Nat):Int)=((bM k many:Nat):Int):=by unfold bM;omega
 rw[show enc (.lf [120])=.str [120] from rfl]at u;unfold YJ bA bx zf7;generalize enc (cZ (many - 1 - k) (.lf [120]))=W at *;dsimp only at o;simp[startM,e1,u,o,e2,eY]
def zil(st:ak):zco [] st=.ok (enc eU) st:=by
 have e:=zok (.lf [110]) (.lf [108]) (.lf [119]) (.lf [114]) st rfl rfl rfl rfl;have hu:=iV st.length eU;unfold zco bA bx zhz;rw[show enc (.lf [110])=.str [110] from rfl,show enc (.lf [108])=.str [108] from rfl,show enc (.lf [119])=.str [119] from rfl,show enc (.lf [114])=.str [114] from rfl]at e;change _=R.ok (enc eU) st at e;generalize enc eU=W at *;simp[startM,e,eY hu]
theorem zfz:∀cs:List Nat,intsOf (aG cs)=some (cs.map λ(c:Nat)=>(c:Int))
 | []=>rfl
 | c::cs=>by
  show intsOf (.int (c:Int)::aG cs)=_;rw[intsOf,zfz cs];rfl
theorem zru:∀cs:List Nat,(cs.map λ(c:Nat)=>(c:Int)).sum=(cs.sum:Int)
 | []=>rfl
 | c::cs=>by
  rw[gr,pD,zru cs,pD];omega
def sum_ints(cs:List Nat)(n:Nat)(st:ak)(h:st[n]? = some (.lst (aG cs))):vK [.loc n] st=.ok (.int cs.sum) st:=by
 have e:aA st n=some (aG cs):=by unfold aA;rw[h]
 show GZ [.loc n] st=_;unfold GZ;dsimp only;rw[e,mX,zfz];dsimp only;rw[zru]
def zhb(xs:List (List Nat))(t:Tr)(st:ak)(h:Bs st)(hl:xs.length<=4)(hv:lv t<=100) :
  Mj [.tup (xs.map D.str),enc t] st=.ok (.loc st.length) (st++[.lst (aG (cX t xs))])/\vK [.loc st.length] (st++[.lst (aG (cX t xs))])=.ok (.int ((cX t xs).sum:Nat)) (st++[.lst (aG (cX t xs))]) :=
 ⟨zf5 xs t st h.t1 h.c hl hv,sum_ints _ _ _ (by simp)⟩
def zoy(st:ak)(h:Bs st):zdm [] st=.ok (.int xO) st:=by
 obtain⟨m1,m2⟩:=zhb cA eU st h (by decide) (by decide);have et:=zil st;change _=R.ok (D.int xO) _ at m2;unfold zdm bA bx zg5;simp only[gr,km]at m1;generalize enc eU=W at *;generalize aG (cX eU cA)=Y at *;simp[startM,et,m1,m2];exact sJ (by simp)
def wY(σ:List (List Nat×Tr))(t:Tr)(st:ak)(h:Bs st)(hl:lv t<=400000):Ge [enc t,.loc st.length] (st++[.dkc (aW σ)])=.ok (enc (sb (look σ) t)) (st++[.dkc (aW σ)]) :=
 zgt σ t st.length (st++[.dkc (aW σ)]) (by simp) (dG h.t2) (by simp[h.c]) hl
def BX(x:List Nat)(e:ME)(v:Tr)(env:aM)(st:ak)(h:∀s,e env (st++s)=.ok (enc v) (st++s)):fV (cG (ct (.str x)) e iH) env st=.ok (.loc st.length) (st++[.dkc (aW [(x,v)])]):=by
 have h0:=h [.dkc []];unfold fV;simp[h0,uN,yw,jV,putN,aW]
def zo3(w:Tr)(st:ak)(h:Bs st):zcd [enc w] st=.ok (enc (jw w)) st:=by
 have et:=zil st;have mo:=YB cA eU st h.t1 h.c (by decide) (by decide);have pi:=wY [([119],w)] (bK eU cA) st h (by have:=xq eU cA;have e:lv eU=15:=rfl;simp at this;omega);have ds:=BX [119] (vr 0) w [some (enc w)] st (λs=>by simp);change _=R.ok (enc (jw w)) _ at pi;have hu:=iV st.length (jw w);simp only[gr,km]at mo;unfold zcd bA bx zhd;generalize fV (cG (ct (.str [119])) (vr 0) iH)=DE at *;generalize enc (jw w)=W1 at *;generalize enc w=W0 at *;generalize enc (bK eU cA)=W2 at *;generalize enc eU=W3 at *;generalize aW _=KV at *;simp[startM,et,mo,ds,pi];exact sJ hu
abbrev sU(m:Bool):List Nat:=if m=true then [108] else [114]
def zhe(m:Bool)(st:ak):zb3 [.str (sU m)] st=.ok (enc (cF m)) st:=by
 have j1:=λs=>wK (.lf [103]) (.lf [102]) s;have j2:=λs=>wK (.jn (.lf [103]) (.lf [102])) (.lf [102]) s;rw[show enc (.lf [103])=.str [103] from rfl,show enc (.lf [102])=.str [102] from rfl]at j1;rw[show enc (.lf [102])=.str [102] from rfl]at j2;have hu:=iV st.length (cF m);unfold zb3 bA bx zgb;cases m with
 | true =>
  have hd:=zgr (.lf [108]) [.lf [98,97,114,101],.lf [102,117,108,108],.jn (.jn (.lf [103]) (.lf [102])) (.lf [102]),.lf [114]] st.length (st++[.lst [.str [98,97,114,101],.str [102,117,108,108],enc (.jn (.jn (.lf [103]) (.lf [102])) (.lf [102])),.str [114]]]) (by simp;exact⟨rfl,rfl,rfl⟩);change Mg [.str [108],.loc st.length] _=R.ok (enc (cF true)) _ at hd;generalize enc (cF true)=W at *;generalize enc (.jn (.jn (.lf [103]) (.lf [102])) (.lf [102]))=W2 at *;generalize enc (.jn (.lf [103]) (.lf [102]))=W3 at *;have x0:∀s,aN (.tup [.str [108],.str [114]]) (.int 0) s=.ok (.str [108]) s:=λs=>iw s 0 _ _ rfl;have x1:∀s,aN (.tup [.str [108],.str [114]]) (.int 1) s=.ok (.str [114]) s:=λs=>iw s 1 _ _ rfl;simp[startM,x0,x1,j1,j2,hd];exact sJ hu
 | false =>
  have hd:=zgr (.lf [114]) [.lf [98,97,114,101],.lf [102,117,108,108],.jn (.jn (.lf [103]) (.lf [102])) (.lf [102]),.lf [108]] st.length (st++[.lst [.str [98,97,114,101],.str [102,117,108,108],enc (.jn (.jn (.lf [103]) (.lf [102])) (.lf [102])),.str [108]]]) (by simp;exact⟨rfl,rfl,rfl⟩);change Mg [.str [114],.loc st.length] _=R.ok (enc (cF false)) _ at hd;generalize enc (cF false)=W at *;generalize enc (.jn (.jn (.lf [103]) (.lf [102])) (.lf [102]))=W2 at *;generalize enc (.jn (.lf [103]) (.lf [102]))=W3 at *;have x0:∀s,aN (.tup [.str [114],.str [108]]) (.int 0) s=.ok (.str [114]) s:=λs=>iw s 0 _ _ rfl;have x1:∀s,aN (.tup [.str [114],.str [108]]) (.int 1) s=.ok (.str [108]) s:=λs=>iw s 1 _ _ rfl;simp[startM,x0,x1,j1,j2,hd];exact sJ hu
def zkc(m:Bool)(st:ak):zca [.str (sU m)] st=.ok (enc (bu m)) st:=by
 have lw:=zhm (.lf [119]) (.lf [120]) st rfl rfl;change Ui [.str [119],.str [120]] st=R.ok (enc dX) st at lw;have vg:val dX=true:=rfl;have p1:=zqf (.lf [116]) (.lf [97]) dX st rfl rfl vg;have p2:=zqf dX (.lf [97]) (.lf [116]) st vg rfl rfl;rw[show enc (.lf [116])=.str [116] from rfl,show enc (.lf [97])=.str [97] from rfl]at p1 p2;have j1:=wK (.lf [121]) (hold [.lf [116],.lf [97],dX]) st;have j2:=wK (.lf [121]) (hold [dX,.lf [97],.lf [116]]) st;rw[show enc (.lf [121])=.str [121] from rfl]at j1 j2;have hu:=iV st.length (bu m);unfold zca bA bx zfb;cases m with
 | true =>
  change _=R.ok (enc (bu true)) st at j1;generalize enc (bu true)=W at *;generalize enc (hold [.lf [116],.lf [97],dX])=W1 at *;generalize enc dX=W2 at *;simp[startM,lw,p1,j1,eY hu]
 | false =>
  change _=R.ok (enc (bu false)) st at j2;generalize enc (bu false)=W at *;generalize enc (hold [dX,.lf [97],.lf [116]])=W1 at *;generalize enc dX=W2 at *;simp[startM,lw,p2,j2,eY hu]
def zgf(st:ak):zbt [] st=.ok (enc du) st:=by
 have hd:=zgr (.lf [118]) [.lf [101],.lf [102]] st.length (st++[.lst [.str [101],.str [102]]]) (by simp;exact⟨rfl,rfl⟩);change Mg [.str [118],.loc st.length] _=R.ok (enc du) _ at hd;have hu:=iV st.length du;unfold zbt bA bx zfa;generalize enc du=W at *;simp[startM,hd];exact sJ hu
def zo2(row:Tr)(st:ak)(h:Bs st):zdg [enc row] st=.ok (enc (jN row)) st:=by
 have et:=zgf st;have mo:=YB qg du st h.t1 h.c (by decide) (by decide);have pi:=wY [([101],row)] (bK du qg) st h (by have:=xq du qg;have e:lv du=3:=rfl;simp at this;omega);have ds:=BX [101] (vr 0) row [some (enc row)] st (λs=>by simp);change _=R.ok (enc (jN row)) _ at pi;have hu:=iV st.length (jN row);simp only[gr,km]at mo;unfold zdg bA bx zh4;generalize fV (cG (ct (.str [101])) (vr 0) iH)=DE at *;generalize enc (jN row)=W1 at *;generalize enc row=W0 at *;generalize enc (bK du qg)=W2 at *;generalize enc du=W3 at *;generalize aW _=KV at *;simp[startM,et,mo,ds,pi];exact sJ hu
def zji(row tab:Tr)(st:ak)(h1:val row=true)(h2:val tab=true):zbz [enc row,enc tab] st=.ok (enc (hold [row,tab])) st:=by
 have hd:=qT [row,tab] [enc row,enc tab] rfl st (by simp[h1,h2]);have hu:=iV st.length (hold [row,tab]);unfold zbz bA bx zem;generalize enc (hold [row,tab])=W at *;generalize enc row=W1 at *;generalize enc tab=W2 at *;simp[startM,hd];exact sJ hu
def Let(c:Nat):Prop:=c=95\/97<=c/\c<=122
def Fz:∀c,97<=c->c<=122->sI [c]=true:=by
 have key:∀k:Fin 26,sI [97+k.val]=true:=by decide +kernel
 intro c h1 h2;have:=key ⟨c - 97,by omega⟩;rwa[show 97+(c - 97)=c by omega]at this
def zhw(c:Nat)(st:ak)(h:Let c):YK [.str [c]] st=.ok (.str (dn c)) st:=by
 unfold YK bA bx zgh;rcases h with rfl | ⟨h1,h2⟩
 ·have a:sI [95]=false:=by decide +kernel
  have hd:dn 95=[100]:=rfl;rw[hd];simp[startM,lU,a,cM,cT,eY]
 ·have a:=Fz c h1 h2;have hd:dn c=[100,c]:=by unfold dn;rw[aeU (by omega)]
  rw[hd];simp[startM,lU,a,cM,cT,aX,eY]
def dnD:D->D
 | .str [c]=>.str (dn c)
 | d=>d
def xr{ls:List Nat}(h:∀c∈ls,Let c):ls.all (λc=>decide (c<128))=true:=List.all_eq_true.mpr λc hc=>by
 have:=h c hc;unfold Let at this;simp;omega
def zir(ls:List Nat)(st:ak)(h:∀c∈ls,Let c)(hl:ls.length<=1000):zck [.str ls] st=.ok (enc (cJ ls)) st:=by
 have ha:∀x∈ls,x<128:=λx hx=>by have:=h x hx;unfold Let at this;omega
 have cc:=T_ (capt:=[none]) (mi:=ym (vr 0)) (g:=aO 0) (e:=az YK [] (aj (vr 0) au)) (env:=[some (.str ls)]) (st:=st) (st1:=st) (items:=ls.map λc=>D.str [c]) (gs:=[]) dnD (λenv=>env.length=1) (by simp;exact ha) rfl (by simp;omega) (λys=>by simp) (λd hd bY ys hP=>by
  obtain⟨c,hc,rfl⟩:=gh.mp hd;obtain⟨x,rfl⟩:=m7.mp hP;have:=zhw c (st++[.lst ys]) (h c hc);exact⟨[some (.str [c])],rfl,by simp,by simp[dnD,this]⟩)
 rw[show (ls.map λc=>D.str [c]).map dnD=ls.map λc=>D.str (dn c) by rw[gO];rfl]at cc;have hd:=zgr (.lf [115]) ((ls.map λc=>.lf (dn c))++cA.map .lf) (st.length+2) (st++[.lst (ls.map λc=>D.str (dn c)),.lst [.str [110],.str [102],.str [108],.str [114]],.lst ((ls.map λc=>D.str (dn c))++[.str [110],.str [102],.str [108],.str [114]])]) (by
  simp;rfl)
 change Mg [.str [115],.loc (st.length+2)] _=R.ok (enc (cJ ls)) _ at hd;have hu:=iV st.length (cJ ls);have hlen:(ls.map λc=>D.str (dn c)).length<=1000:=by simpa using hl
 unfold zck bA bx zh7;generalize hCE:cR _ _ _ _ _=CE at *;generalize (ls.map λc=>D.str (dn c))=X at *;generalize enc (cJ ls)=W at *;have ad:aX (.loc st.length) (.loc (st.length+1)) (st++[.lst X,.lst [.str [110],.str [102],.str [108],.str [114]]])=.ok (.loc (st.length+2)) (st++[.lst X,.lst [.str [110],.str [102],.str [108],.str [114]],.lst (X++[.str [110],.str [102],.str [108],.str [114]])]):=by
  have h4:X.length+4<=1000000:=by omega
  simp[aX,h4]
 simp[startM,cc,oW,ad,hd];exact sJ hu
def zqs(ls:List Nat):lv (cJ ls)=ls.length+5:=by
 have key:∀(ts:List Tr) (p:Tr),(∀t∈ts,lv t=1)->lv (apps p ts)=lv p+ts.length:=by
  intro ts
  induction ts with
  | nil=>intro p _;rfl
  | cons t ts ih =>
   intro p h;have:=ih (.jn p t) λx hx=>h x (by simp[hx]);have h1:=h t (by simp);show lv (apps (.jn p t) ts)=_;rw[this,lv,h1,gC];omega
 unfold cJ;rw[key]
 ·simp[lv];omega
 ·intro t ht;rcases mC.mp ht with ht | ht
  ·obtain⟨c,_,rfl⟩:=gh.mp ht;rfl
  ·obtain⟨c,_,rfl⟩:=gh.mp ht;rfl
def zpd(ls:List Nat)(st:ak)(hb:Bs st)(h:∀c∈ls,Let c)(hl:ls.length<=9):zdl [.str ls] st=.ok (enc (bK (cJ ls) dM)) st:=by
 have rt:=zir ls st h (by omega);have mo:=YB dM (cJ ls) st hb.t1 hb.c (by decide) (by rw[zqs];omega);have hu:=iV st.length (bK (cJ ls) dM);simp only[gr,km]at mo;unfold zdl bA bx zhg;generalize enc (bK (cJ ls) dM)=W at *;generalize enc (cJ ls)=W1 at *;simp[startM,rt,mo,eY hu]
def zpe(ls:List Nat)(st:ak)(hb:Bs st)(h:∀c∈ls,Let c)(hl:ls.length<=9):zdk [.str ls] st=.ok (.int (qM ls:Nat)) st:=by
 have rt:=zir ls st h (by omega);obtain⟨m1,m2⟩:=zhb dM (cJ ls) st hb (by decide) (by rw[zqs];omega);have c1:=zbq 2 st (by omega);have c2:=zbq 3 st (by omega);simp only[gr,km]at m1;unfold zdk bA bx zhq qM;rw[show ((2:Nat):Int)=2 from rfl,show ((2+2*2:Nat):Int)=6 from rfl]at c1;rw[show ((3:Nat):Int)=3 from rfl,show ((2+2*3:Nat):Int)=8 from rfl]at c2;generalize aG (cX (cJ ls) dM)=Y at *;generalize enc (cJ ls)=W1 at *;generalize (cX (cJ ls) dM).sum=S at *;simp[startM,rt,m1,m2,c1,c2];exact sJ (by simp)
end Law
set_option maxHeartbeats 0
namespace M
def LR{st:ak}{n:Nat}{ds:List D}(h:aA st n=some ds):dj [.loc n] st=.ok (.int ds.length) st:=by
 unfold aA at h;unfold dj;cases e:st[n]? with
 | none=>rw[e]at h;cases h
 | some o =>
  rw[e]at h;cases o<;>first | (cases h;done) | (dsimp only;unfold wg;simp[aA,e]at h ⊢;exact h ▸ rfl)
def xM{st st':ak}{d:D}{n:Nat}(hn:n<st.length)(oK:st'[n]?≠st[n]?):gc st (.ok d st')=.ok d st':=by
 have h:st'.take st.length≠st:=λe=>oK (by
  conv=>rhs;rw[<-e]
  rw[pI,aeT hn])
 unfold gc;dsimp only;rw[aeU (λq=>h q.1)];cases d with
 | loc k =>
  dsimp only;cases st'[k]? with
  | none=>rfl
  | some o=>dsimp only;rw[aeU (λq=>h q.1)]
 | _=>rfl
def RP(a:ak)(x y:MO)(n:Nat)(h:n=a.length):(a++[x]).set n y=a++[y]:=by subst h;simp
def zfm(a b:ak)(n:Nat)(y:MO)(h:n<a.length):(a++b).set n y=a.set n y++b:=by
 rw[nQ,aeT h]
def RQ{st:ak}(h:aY st){n:Nat}{o:MO}(ho:o.dR=false):aY (st.set n o):=λq hq=>by
 rcases List.mem_or_eq_of_mem_set hq with hq | rfl
 ·exact h q hq
 ·exact ho
namespace Tr
def Yl{ls:List Nat}{f:Nat->Tr}{c:Nat}(h:c∈ls):look (ls.map λc=>([c],f c)) [c]=some (f c):=by
 induction ls with
 | nil=>cases h
 | cons x l ih =>
  rw[gr,M9];by_cases e:x=c
  ·rw[aeT (by rw[e]),e]
  ·rw[aeU (λz=>e (by simpa using z))];exact ih ((gj.mp h).resolve_left (ae4 e))
def Xr{a b:Nat}(h:dn a=dn b):a=b:=by
 unfold dn at h
 split at h<;>split at h<;>simp_all
def abE(c x:Nat)(hx:x≠100):dn c≠[x]:=λe=>by
 unfold dn at e
 split at e<;>simp at e
 exact hx e.symm
end Tr
end M
namespace Law
open L2 M Tr
def znr(σ:List (List Nat×Tr))(n:Nat)(s:List Nat)(v:Tr)(st:ak)(h:st[n]? = some (.dkc (aW σ)))(hl:σ.length<=10000)(hs:∀p∈σ,p.1≠s):lN (.loc n) (.str s) (enc v) st=.ok () (st.set n (.dkc (aW (σ++[(s,v)])))):=by
 unfold lN;simp only[h,yw];rw[aeT (by simp[aW];omega)];congr 3;unfold putN;rw[aeU]
 ·simp[aW]
 ·simp only[aW,List.any_map,ph,Function.comp,ae2,not_exists,not_and];intro p hp e;exact hs p hp (L_.mp (afi e))
def Yc(σ:List (List Nat×Tr))(n:Nat)(s:List Nat)(v:Tr)(st:ak)(h:st[n]? = some (.dkc (aW σ))\/st[n]? = some (.dkf (aW σ)))(hv:look σ s=some v):vm (.loc n) (.str s) st=.ok (enc v) st:=by
 have e:valN (aW σ) (.inr (strOf s))=some (enc v):=by rw[zjf,hv];rfl
 unfold vm;rcases h with h | h<;>simp only[h,yw,e]
def zsm(ls:List Nat)(f:Nat->Tr):(aW (ls.map λc=>([c],f c))).map (λp=>xx p.1)=ls.map λc=>D.str [c]:=by
 unfold aW;rw[gO,gO];exact kJ λc _=>by simp[xx]
def Du(ls:List Nat)(hn:ls.Nodup)(h:∀c∈ls,Let c)(hl:ls.length<=9)(pU num:Tr)(fc:Nat->Tr)(n:Nat)(st:ak)(hb:Bs st)(hd:st[n]? = some (.dkc (aW (ls.map λc=>([c],fc c)))))(hv:lv pU<=400000) :
  ze3 [enc pU,enc num,.loc n] st=.ok (enc (sb (look (([110],num)::ls.map λc=>(dn c,fc c))) pU)) (st.set n (.dkf (aW (ls.map λc=>([c],fc c))))++[.dkc (aW (([110],num)::ls.map λc=>(dn c,fc c)))]):=by
 have SQ:=(gf.mp hd).1;have ds:=BX [110] (vr 1) num [some (enc pU),some (enc num),some (.loc n),none,none] st (λs=>by simp);generalize hσ:(ls.map λc=>([c],fc c))=σL at *
 let Z:Nat->ak:=λi=>st.set n (.dkf (aW σL))++[.dkc (aW (([110],num)::(ls.take i).map λc=>(dn c,fc c)))]
 unfold ze3 bA bx zlm;generalize hB:(jC (aF vm (vr 2) (vr 4)) _:MS)=B;obtain⟨bY,st',h1,a4,rfl,rfl⟩:=yV (g:=aO 4) (b:=B) (gs:=[]) (items:=ls.map λc=>D.str [c])
  (λi env s=>∃(a4:Option D),env=[some (enc pU),some (enc num),some (.loc n),some (.loc st.length),a4]/\s=Z i)
  (env:=[some (enc pU),some (enc num),some (.loc n),some (.loc st.length),none]) (st:=Z 0) ⟨none,rfl,rfl⟩ (by
   rintro i d env s hi ⟨a4,rfl,rfl⟩;obtain⟨c,hc,rfl⟩:=Gr hi;have Zw:=gW hc;have zl:(st.set n (.dkf (aW σL))).length=st.length:=by simp
   have zn:(Z i)[n]? = some (.dkf (aW σL)):=by
    show (st.set n _++_)[n]? = _;rw[gK (by rw[zl];exact SQ)];simp[SQ]
   have zp:(Z i)[st.length]? = some (.dkc (aW (([110],num)::(ls.take i).map λc=>(dn c,fc c)))):=by
    show (st.set n _++_)[_]? = _;rw[h_ (by rw[zl];exact gb _),zl];simp
   have dnm:=zhw c (Z i) (h c Zw);have ix:=Yc σL n [c] (fc c) (Z i) (.inr zn) (by rw[<-hσ];exact Yl Zw);have sk:=znr (([110],num)::(ls.take i).map λc=>(dn c,fc c)) st.length (dn c) (fc c) (Z i) zp (by simp;omega) (λp hp=>by
    rcases gj.mp hp with rfl | hp
    ·exact λe=>abE c 110 (by decide) e.symm
    ·obtain⟨x,hx,rfl⟩:=gh.mp hp;intro e;have:x=c:=Xr e;subst this;obtain⟨j,hj,q⟩:=nj.mp hx;rw[kI]at hj;rw[pC]at q;have:ls[j]? = ls[i]?:=by rw[hc,<-q];exact gM (by omega)
     have:=(nM (by omega) hn).mp this;omega)
   have e2:(Z i).set st.length (.dkc (aW ((([110],num)::(ls.take i).map λc=>(dn c,fc c))++[(dn c,fc c)])))=Z (i+1):=by
    show (st.set n _++_).set _ _=st.set n _++_;rw[RP _ _ _ _ zl.symm,kO,hc];simp
   rw[e2]at sk;refine⟨by simp,_,_,rfl,[some (enc pU),some (enc num),some (.loc n),some (.loc st.length),some (.str [c])],Z (i+1),.inl ?_,_,rfl,rfl⟩;rw[<-hB];generalize Z i=Zi at *;generalize Z (i+1)=Zj at *;generalize enc (fc c)=W at *;generalize enc pU=W1 at *;generalize enc num=W2 at *;simp[ix,dnm,sk]) (λ_ _ _=>by simp)
 rw[gq]at h1;have ez:Z ls.length=st.set n (.dkf (aW σL))++[.dkc (aW (([110],num)::ls.map λc=>(dn c,fc c)))]:=by show _++_=_;rw[my]
 have e0:(st++[.dkc (aW [([110],num)])]:ak).set n (.dkf (aW σL))=Z 0:=by
  show _=st.set n _++_;rw[zfm _ _ _ _ SQ];simp
 have dk:Tq (vr 2) [some (enc pU),some (enc num),some (.loc n),some (.loc st.length),none] (st++[.dkc (aW [([110],num)])])=.ok (ls.map λc=>D.str [c],[]) (Z 0):=by
  unfold Tq;have:(st++[.dkc (aW [([110],num)])]:ak)[n]? = some (.dkc (aW σL)):=dG hd;have kk:=zsm ls fc;rw[hσ]at kk;simp only[vN,mJ,mY,R.aB,this,e0,kk]
 have zl:(st.set n (.dkf (aW σL))).length=st.length:=by simp
 have pi:=zgt (([110],num)::ls.map λc=>(dn c,fc c)) pU st.length (Z ls.length) (by rw[ez,h_ (by rw[zl];exact gb _),zl];simp) (by
  rw[ez];refine dG ?_;rw[gR (λe=>by subst e;rw[hb.t2]at hd;cases hd)];exact hb.t2) (by
  rw[ez];have:=RQ hb.c (n:=n) (o:=.dkf (aW σL)) rfl;simp[this]) hv
 rw[<-ez];have hz:(Z ls.length)[n]?≠st[n]?:=by
  rw[ez,gK (by rw[zl];exact SQ),hd];simp[SQ]
 have g:=xM (st:=st) (st':=Z ls.length) (d:=enc (sb (look (([110],num)::ls.map λc=>(dn c,fc c))) pU)) SQ hz;rw[show startM 5 [enc pU,enc num,D.loc n]=[some (enc pU),some (enc num),some (.loc n),none,none] from rfl];generalize hDE:fV (cG (ct (.str [110])) (vr 1) iH)=DE at *;generalize hDK:Tq (vr 2)=DK at *;generalize Z ls.length=Zl at *;generalize Z 0=Z0 at *;generalize aW [([110],num)]=K1 at *;generalize enc (sb (look (([110],num)::ls.map λc=>(dn c,fc c))) pU)=W3 at *;generalize enc pU=W1 at *;generalize enc num=W2 at *;generalize (ls.map λc=>D.str [c])=X at *;simp[ds,dk,h1,pi];exact g
end Law
set_option maxHeartbeats 0
namespace Law
open L2 M Tr
def By(n:Nat)(st:ak):zc4 [.int n] st=.ok (.int ((n / 2:Nat):Int)) st:=by
 have f2:eQ (.int n) (.int 2) st=.ok (.int ((n:Int) / 2)) st:=zd7 st n 2 (by omega);have e:(n:Int) / 2=((n / 2:Nat):Int):=by omega
 rw[e]at f2;unfold zc4 bA bx ziq;generalize ((n / 2:Nat):Int)=q at *;simp[startM,f2,eY]
def znn(a:List Nat)(x:Nat):aG (a++[x])=aG a++[.int x]:=by simp[aG]
def Gw(a:List Nat):(aG a).length=a.length:=by simp[aG]
def zih(k many:Nat)(st:ak)(hk:k<many)(hm:many<=4096):YF [.int k,.int many] st=.ok (.loc st.length) (st++[.lst (aG (bC 13 k many))]):=by
 unfold YF bA bx zhy;generalize hC:(fu (aF Ka (vr 4) (ct (.int 1))):MT)=C;generalize hB:(aC (aJ 5 _) _:MS)=B
 let E:Nat->Nat->Option D->Option D->aM:=λfirst left a5 a6=>[some (.int k),some (.int many),some (.loc st.length),some (.int (first:Nat)),some (.int (left:Nat)),a5,a6]
 let S:List Nat->ak:=λdone=>st++[.lst (aG done)]
 have stop:∀(first left:Nat) (done:List Nat) (a5 a6:Option D),left<=1->bG C B (E first left a5 a6) (S done)=.ok (.nx (E first left a5 a6)) (S done):=λfirst left done a5 a6 hl=>by
  have c0:¬ (left:Int) > 1:=by omega
  rw[yX,<-hC];show _=R.ok (Out.nx (E first left a5 a6)) (S done);simp only[E];generalize S done=Z;simp[c0]
 have go:∀(first left:Nat) (done:List Nat) (a5 a6:Option D),2<=left->left<=4096->first<=4096->done.length<=1000 ->
   ∃Gp a6',bG C B (E first left a5 a6) (S done)=if k<first+left / 2 then bG C B (E first (left / 2) Gp a6') (S (done++[0])) else bG C B (E (first+left / 2) (left - left / 2) Gp a6') (S (done++[1])):=λfirst left done a5 a6 hl J6 hf hd=>by
  have c1:(left:Int) > 1:=by omega
  have hh:=By left (S done);have ty:cM "list" (.loc st.length) (S done)=true:=by simp[cM,S]
  have ap:∀x:Nat,aV (.loc st.length) [.int (x:Nat)] (S done)=.ok .non (S (done++[x])):=λx=>by
   show aV _ _ (st++[.lst (aG done)])=R.ok _ (st++[.lst (aG (done++[x]))]);have:=Gw done;rw[znn];generalize aG done=Y at *;have hy:Y.length<1000000:=by omega
   simp[aV,hy]
  by_cases hc:k<first+left / 2
  ·refine⟨some (.int ((left / 2:Nat):Int)),some (.int 0),?_⟩;rw[aeT hc,yX,<-hC,<-hB];have a0:=ap 0;rw[show ((0:Nat):Int)=0 from rfl]at a0;have c2:(k:Int)<(first:Nat)+((left / 2:Nat):Int):=by omega
   have mu:∀s,eZ (.int ((left / 2:Nat):Int)) (.int 0) s=.ok (.int 0) s:=λs=>by have:=CP s ((left / 2:Nat):Int) 0 (by omega);simpa using this
   simp only[E];generalize S (done++[0])=Z1 at *;generalize S done=Z at *;generalize ((left / 2:Nat):Int)=h2 at *;simp[c1,hh,c2,ty,a0,mu]
  ·refine⟨some (.int ((left / 2:Nat):Int)),some (.int 1),?_⟩;rw[aeU hc,yX,<-hC,<-hB];have a0:=ap 1;rw[show ((1:Nat):Int)=1 from rfl]at a0;have c2:¬ (k:Int)<(first:Nat)+((left / 2:Nat):Int):=by omega
   have mu:∀s,eZ (.int ((left / 2:Nat):Int)) (.int 1) s=.ok (.int ((left / 2:Nat):Int)) s:=λs=>by have:=CP s ((left / 2:Nat):Int) 1 (by omega);simpa using this
   have e1:(first:Int)+((left / 2:Nat):Int)=((first+left / 2:Nat):Int):=by omega
   have e2:(left:Int) - ((left / 2:Nat):Int)=((left - left / 2:Nat):Int):=by omega
   rw[e1]at c2;simp only[E];generalize S (done++[1])=Z1 at *;generalize S done=Z at *;generalize ((first+left / 2:Nat):Int)=f2 at *;generalize ((left - left / 2:Nat):Int)=l2 at *;generalize ((left / 2:Nat):Int)=h2 at *;simp[c1,hh,e1,c2,ty,a0,mu,e2]
 have loop:∀(f first left:Nat) (done:List Nat) (a5 a6:Option D),first<=k->k<first+left->left<=2 ^ f->done.length+f<=100->f<=12 ->
   ∃(fi le:Nat) (Gp a6':Option D),bG C B (E first left a5 a6) (S done)=.ok (.nx (E fi le Gp a6')) (S (done++bC (f+1) (k - first) left)):=by
  intro f
  induction f with
  | zero =>
   intro first left done a5 a6 h1 h2 h3 _ _;have hl:left<=1:=by simpa using h3
   refine⟨first,left,a5,a6,?_⟩;rw[stop first left done a5 a6 hl,bC,aeT hl,gB]
  | succ f ih =>
   intro first left done a5 a6 h1 h2 h3 hd hf;have hp:2 ^ (f+1)=2 ^ f+2 ^ f:=by rw[nZ];omega
   have dH:2 ^ f<=2 ^ 11:=Nat.pow_le_pow_right (by decide) (by omega);by_cases hl:left<=1
   ·refine⟨first,left,a5,a6,?_⟩;rw[stop first left done a5 a6 hl,bC,aeT hl,gB]
   ·obtain⟨b5,b6,e⟩:=go first left done a5 a6 (by omega) (by omega) (by omega) (by omega);rw[bC,aeU hl,e];by_cases hc:k<first+left / 2
    ·rw[aeT hc,aeT (by omega)];obtain⟨fi,le,c5,c6,e2⟩:=ih first (left / 2) (done++[0]) b5 b6 h1 hc (by omega) (by simp;omega) (by omega);exact⟨fi,le,c5,c6,by rw[e2,gY];rfl⟩
    ·rw[aeU hc,aeU (by omega)];obtain⟨fi,le,c5,c6,e2⟩:=ih (first+left / 2) (left - left / 2) (done++[1]) b5 b6 (by omega) (by omega) (by omega) (by simp;omega) (by omega);exact⟨fi,le,c5,c6,by rw[e2,gY,show k - (first+left / 2)=k - first - left / 2 by omega];rfl⟩
 obtain⟨fi,le,a5,a6,h1⟩:=loop 12 0 many [] none none (by omega) (by omega) (by omega) (by simp) (by omega);rw[mQ,Nat.sub_zero]at h1;have g:=Yh (st:=st) (o:=.lst (aG (bC 13 k many))) (by
  show bQ st.length (aG _);generalize bC 13 k many=cs
  induction cs with
  | nil=>simp[aG]
  | cons c cs ih=>simpa[aG] using ih)
 change _=R.ok _ (st++[.lst (aG (bC 13 k many))]) at h1;change bG C B [some (.int k),some (.int many),some (.loc st.length),some (.int 0),some (.int many),none,none] (st++[.lst []])=_ at h1;simp only[E]at h1;generalize aG (bC 13 k many)=Y at *;simp[startM,h1];exact g
def pkD:D->D
 | .int i=>enc (bV i.toNat 2)
 | d=>d
def pcD:D->D
 | .int i=>.int ((6+bM i.toNat 2:Nat):Int)
 | d=>d
def Oq(ts:List Nat):(aG ts).map pkD=(ts.map λt=>bV t 2).map enc:=by
 unfold aG;rw[gO,gO];exact kJ λt _=>by simp[pkD]
def CW(k many:Nat)(st:ak)(hb:Bs st)(hk:k<many)(hm:many<=4096):zdx [.int k,.int many] st=.ok (enc (iW (bC 13 k many))) st:=by
 have tt:=zih k many st hk hm;obtain⟨tl,t1⟩:=Yp 13 k many;generalize bC 13 k many=ts at *;have J_:Bs (st++[.lst (aG ts)]):=hb.app (by simp);have cc:=T_ (capt:=[none]) (mi:=jr (az YF [] (aj (vr 0) (aj (vr 1) au)))) (g:=aO 0) (e:=az M6 [] (aj (vr 0) (aj (ct (.int 2)) au))) (env:=[some (.int k),some (.int many)]) (st:=st) (st1:=st++[.lst (aG ts)]) (items:=aG ts) (gs:=[(st.length,.lst (aG ts))]) pkD (λenv=>env.length=1) (by
   generalize aG ts=Y at *;simp[tt]) rfl (by rw[Gw];omega) (λys=>by simp[ue]) (λd hd bY ys hP=>by
  obtain⟨t,ht,rfl⟩:=gh.mp hd;obtain⟨x,rfl⟩:=m7.mp hP;have h2:=t1 t ht;have pk:=znk t 2 (st++[.lst (aG ts)]++[.lst ys]) (dG J_.t1) (by simp[hb.c]) (by omega) (by omega);rw[show ((2:Nat):Int)=2 from rfl]at pk;refine⟨[some (.int t)],rfl,rfl,?_⟩;rw[show pkD (.int t)=enc (bV t 2) by simp[pkD]];generalize (st++[.lst (aG ts)]++[.lst ys]:ak)=Z at *;generalize enc (bV t 2)=W at *;simp[pk])
 rw[Oq]at cc;have hd:=zoe (ts.map λt=>bV t 2) (st++[.lst (aG ts)]:ak).length (st++[.lst (aG ts)]++[.lst ((ts.map λt=>bV t 2).map enc)]) (by simp) (λt ht=>by
  obtain⟨x,_,rfl⟩:=gh.mp ht;exact Gy _ _)
 change _=R.ok (enc (iW ts)) _ at hd;have hu:=iV st.length (iW ts);unfold zdx bA bx zld;generalize hCE:cR _ _ _ _ _=CE at *;have e0:startM 2 [D.int k,.int many]=[some (.int k),some (.int many)]:=rfl;rw[e0];generalize (ts.map λt=>bV t 2).map enc=X at *;generalize enc (iW ts)=W at *;generalize aG ts=Y at *;have ll:(st++[.lst Y]:ak).length=st.length+1:=by simp
 rw[ll]at cc hd;generalize hZ:(st++[.lst Y]++[.lst X]:ak)=Z at *;simp[cc,hd];rw[<-hZ,gY];exact sJ hu
def O9(ts:List Nat):(aG ts).map pcD=aG (ts.map λt=>6+bM t 2):=by
 unfold aG;rw[gO,gO];exact kJ λt _=>by simp[pcD]
def zor(k many:Nat)(st:ak)(hb:Bs st)(hk:k<many)(hm:many<=4096):zde [.int k,.int many] st=.ok (.int ((2+2*(bC 13 k many).length+jg (bC 13 k many)+(cX du qg).headD 0:Nat):Int)) st:=by
 have tt:=zih k many st hk hm;obtain⟨tl,t1⟩:=Yp 13 k many;generalize bC 13 k many=ts at *;have J_:Bs (st++[.lst (aG ts)]):=hb.app (by simp);have cc:=T_ (capt:=[none]) (mi:=jr (vr 2)) (g:=aO 0) (e:=aF aX (az M_ [] (aj (ct (.int 2)) au)) (az YJ [] (aj (vr 0) (aj (ct (.int 2)) au)))) (env:=[some (.int k),some (.int many),some (.loc st.length),none]) (st:=st++[.lst (aG ts)]) (st1:=st++[.lst (aG ts)]) (items:=aG ts) (gs:=[(st.length,.lst (aG ts))]) pcD (λenv=>env.length=1) (by
   generalize aG ts=Y at *;simp) rfl (by rw[Gw];omega) (λys=>by simp[ue]) (λd hd bY ys hP=>by
  obtain⟨t,ht,rfl⟩:=gh.mp hd;obtain⟨x,rfl⟩:=m7.mp hP;have h2:=t1 t ht;have hb2:Bs (st++[.lst (aG ts)]++[.lst ys]):=J_.app (by simp);have pk:=zg6 t 2 _ hb2 (by omega) (by omega);have hc:=zbq 2 (st++[.lst (aG ts)]++[.lst ys]) (by omega);rw[show ((2:Nat):Int)=2 from rfl]at pk hc;rw[show ((2+2*2:Nat):Int)=6 from rfl]at hc;refine⟨[some (.int t)],rfl,rfl,?_⟩;have e6:(6:Int)+((bM t 2:Nat):Int)=((6+bM t 2:Nat):Int):=by omega
  rw[show pcD (.int t)=.int ((6+bM t 2:Nat):Int) by simp[pcD]];generalize (st++[.lst (aG ts)]++[.lst ys]:ak)=Z at *;generalize ((bM t 2:Nat):Int)=W at *;simp[pk,hc,e6])
 rw[O9]at cc;have l1:dj [.loc st.length] (st++[.lst (aG ts)]++[.lst (aG (ts.map λt=>6+bM t 2))])=.ok (.int ts.length) (st++[.lst (aG ts)]++[.lst (aG (ts.map λt=>6+bM t 2))]):=by
  have:=LR (st:=st++[.lst (aG ts)]++[.lst (aG (ts.map λt=>6+bM t 2))]) (n:=st.length) (ds:=aG ts) (by simp[aA]);rwa[Gw]at this
 have hc:=zbq ts.length (st++[.lst (aG ts)]++[.lst (aG (ts.map λt=>6+bM t 2))]) (by omega);have sm:=sum_ints (ts.map λt=>6+bM t 2) (st.length+1) (st++[.lst (aG ts)]++[.lst (aG (ts.map λt=>6+bM t 2))]) (by simp);change _=R.ok (D.int (jg ts:Nat)) _ at sm;have hb3:Bs (st++[.lst (aG ts)]++[.lst (aG (ts.map λt=>6+bM t 2))]):=J_.app (by simp);have et:=zgf (st++[.lst (aG ts)]++[.lst (aG (ts.map λt=>6+bM t 2))]);have mc:=zf5 qg du _ hb3.t1 hb3.c (by decide) (by decide);have em:aG (cX du qg)=[.int 2,.int 6]:=by kernel_rfl
 have eh:(cX du qg).headD 0=2:=by kernel_rfl
 rw[em]at mc;rw[eh];simp only[gr,km]at mc;unfold zde bA bx zg8;generalize hCE:cR _ _ _ _ _=CE at *;have e0:startM 4 [D.int k,.int many]=[some (.int k),some (.int many),none,none]:=rfl;rw[e0];have ll:(st++[.lst (aG ts)]:ak).length=st.length+1:=by simp
 rw[ll]at cc;generalize aG (ts.map λt=>6+bM t 2)=X at *;generalize aG ts=Y at *;generalize enc du=W at *;have zl:(st++[.lst Y]++[.lst X]:ak).length=st.length+2:=by simp
 rw[zl]at mc;have ix:aN (.loc (st.length+2)) (.int 0) (st++[.lst Y]++[.lst X]++[.lst [.int 2,.int 6]])=.ok (.int 2) (st++[.lst Y]++[.lst X]++[.lst [.int 2,.int 6]]):=yh _ _ _ [.int 2,.int 6] _ (by simp[aA]) rfl;have ef:((2+2*ts.length:Nat):Int)+((jg ts:Nat):Int)+2=((2+2*ts.length+jg ts+2:Nat):Int):=by omega
 generalize hZ2:(st++[.lst Y]++[.lst X]++[.lst [.int 2,.int 6]]:ak)=Z2 at *;generalize hZ:(st++[.lst Y]++[.lst X]:ak)=Z at *;generalize hZ1:(st++[.lst Y]:ak)=Z1 at *;generalize ((2+2*ts.length+jg ts+2:Nat):Int)=r4 at *;generalize ((2+2*ts.length:Nat):Int)=r1 at *;generalize ((jg ts:Nat):Int)=r2 at *;generalize (ts.length:Int)=r3 at *;simp[tt,cc,l1,hc,sm,et,mc,ix,ef];rw[<-hZ2,<-hZ,<-hZ1,gY,gY];exact sJ (by simp)
def Dg:∀(f:Nat) (es:List Tr) (n:Nat) (st:ak),0<es.length->es.length<=2 ^ f->f<=9->aA st n=some (es.map enc)->(∀e∈es,val e=true)->Mi (f+1) [.loc n] st=.ok (enc (cC (f+1) es)) st:=by
 intro f
 induction f with
 | zero =>
  intro es n st h0 h1 _ hi hv;have hl:es.length=1:=by simp at h1;omega
  obtain⟨e,rfl⟩:=m7.mp hl;have l1:=LR hi;have ix:aN (.loc n) (.int 0) st=.ok (enc e) st:=yh _ _ _ _ _ hi rfl;have hu:=iV st.length e;rw[show cC (0+1) [e]=e from rfl];unfold Mi bA bx zcn;generalize enc e=W at *;simp[startM,l1,ix,eY hu]
 | succ f ih =>
  intro es n st h0 h1 hf hi hv;have hp:2 ^ (f+1)=2 ^ f+2 ^ f:=by rw[nZ];omega
  have l1:=LR hi;rw[gq]at l1;by_cases hl:es.length=1
  ·obtain⟨e,rfl⟩:=m7.mp hl;have ix:aN (.loc n) (.int 0) st=.ok (enc e) st:=yh _ _ _ _ _ hi rfl;have hu:=iV st.length e;rw[show cC (f+1+1) [e]=e from rfl];unfold Mi bA bx zcn;generalize enc e=W at *;rw[show (([e]:List Tr).length:Int)=1 from rfl]at l1;simp[startM,l1,ix,eY hu]
  ·have c1:¬ (es.length:Int)=1:=by omega
   have hh:=By es.length st;have e1:cC (f+1+1) es=hold [cC (f+1) (es.take (es.length / 2)),cC (f+1) (es.drop (es.length / 2))]:=by rw[cC,aeU hl]
   have l2:(es.take (es.length / 2)).length=es.length / 2:=by rw[kI];omega
   have l3:(es.drop (es.length / 2)).length=es.length - es.length / 2:=mV;have s1:Am (.loc n) none (some ((es.length / 2:Nat):Int)) st=.ok (.loc st.length) (st++[.lst ((es.take (es.length / 2)).map enc)]):=by
    have:=K3 (es.map enc) (es.length / 2) (by rw[gq];omega);unfold Am;simp only[hi,this,<-List.map_take]
   have r1:=ih (es.take (es.length / 2)) st.length (st++[.lst ((es.take (es.length / 2)).map enc)]) (by omega) (by omega) (by omega) (by simp[aA]) (λe he=>hv e (mZ he));have hi2:aA (st++[.lst ((es.take (es.length / 2)).map enc)]) n=some (es.map enc):=zo4 hi;have s2:Am (.loc n) (some ((es.length / 2:Nat):Int)) none (st++[.lst ((es.take (es.length / 2)).map enc)])=.ok (.loc (st.length+1)) (st++[.lst ((es.take (es.length / 2)).map enc)]++[.lst ((es.drop (es.length / 2)).map enc)]):=by
    have:=zqq (es.map enc) (es.length / 2);unfold Am;simp only[hi2,this,<-List.map_drop];simp
   have r2:=ih (es.drop (es.length / 2)) (st.length+1) (st++[.lst ((es.take (es.length / 2)).map enc)]++[.lst ((es.drop (es.length / 2)).map enc)]) (by omega) (by omega) (by omega) (by simp[aA]) (λe he=>hv e (m_ he));have v1:=RM (f+1) _ λe he=>hv e (mZ (i:=es.length / 2) he);have v2:=RM (f+1) _ λe he=>hv e (m_ (i:=es.length / 2) he);have hd:=qT [cC (f+1) (es.take (es.length / 2)),cC (f+1) (es.drop (es.length / 2))] [enc (cC (f+1) (es.take (es.length / 2))),enc (cC (f+1) (es.drop (es.length / 2)))] rfl (st++[.lst ((es.take (es.length / 2)).map enc)]++[.lst ((es.drop (es.length / 2)).map enc)]) (by simp[v1,v2]);rw[<-e1]at hd;have hu:=iV st.length (cC (f+1+1) es);have ef:Mi (f+1+1)=bA (bx 2 (zcn (Mi (f+1)))):=rfl;rw[ef];unfold bA bx zcn;generalize Mi (f+1)=FT at *;have zl:(st++[.lst ((es.take (es.length / 2)).map enc)]++[.lst ((es.drop (es.length / 2)).map enc)]:ak).length=st.length+2:=by simp
   rw[zl]at hd;generalize (es.take (es.length / 2)).map enc=X1 at *;generalize (es.drop (es.length / 2)).map enc=X2 at *;generalize enc (cC (f+1+1) es)=W at *;generalize enc (cC (f+1) (es.take (es.length / 2)))=W1 at *;generalize enc (cC (f+1) (es.drop (es.length / 2)))=W2 at *;generalize hZ2:(st++[.lst X1]++[.lst X2]:ak)=Z2 at *;generalize hZ1:(st++[.lst X1]:ak)=Z1 at *;have hz2:Z2.length=st.length+2:=by rw[<-hZ2,<-hZ1];simp
   generalize ((es.length / 2:Nat):Int)=q at *;generalize (es.length:Int)=q2 at *;simp[startM,l1,c1,hh,s1,r1,s2,r2,hz2,hd];rw[<-hZ2,<-hZ1,gY,gY];exact sJ hu
def Yt(n:Nat)(es:List Tr):cC (n+1) es=if es.length=1 then es.headD Tr.tK else hold [cC n (es.take (es.length / 2)),cC n (es.drop (es.length / 2))]:=rfl
def Dh:∀(f n:Nat) (es:List Tr),0<es.length->es.length<=2 ^ f->f<=n->cC (n+1) es=cC (f+1) es:=by
 intro f
 induction f with
 | zero =>
  intro n es h0 h1 _;have hl:es.length=1:=by simp at h1;omega
  rw[Yt n,Yt 0,aeT hl,aeT hl]
 | succ f ih =>
  intro n es h0 h1 hn;have hp:2 ^ (f+1)=2 ^ f+2 ^ f:=by rw[nZ];omega
  obtain⟨m,rfl⟩:∃m,n=m+1:=⟨n - 1,by omega⟩;by_cases hl:es.length=1
  ·rw[Yt (m+1),Yt (f+1),aeT hl,aeT hl]
  ·rw[Yt (m+1),Yt (f+1),aeU hl,aeU hl];rw[ih m (es.take (es.length / 2)) (by rw[kI];omega) (by rw[kI];omega) (by omega),ih m (es.drop (es.length / 2)) (by rw[mV];omega) (by rw[mV];omega) (by omega)]
def zo7(es:List Tr)(n:Nat)(st:ak)(h0:0<es.length)(h1:es.length<=512)(hi:aA st n=some (es.map enc))(hv:∀e∈es,val e=true):Mi 10 [.loc n] st=.ok (enc (cC 13 es)) st:=by
 rw[Dh 9 12 es h0 (by omega) (by omega)];exact Dg 9 es n st h0 (by omega) (by omega) hi hv
end Law
set_option maxHeartbeats 0
namespace Law
open L2 M
structure fj where
 st:Int
 c:Nat
 w:Nat
 m:Nat
 g:Int
def fj.d(r:fj):D:=.tup [.int r.st,.str [r.c],.str [r.w],.str [r.m],.int r.g]
def zmh(n:Nat)(rs:List fj):bQ n (rs.map fj.d):=by
 induction rs with
 | nil=>simp
 | cons r rs ih=>simp[ih,fj.d]
def zpi(rs:List fj):dC (rs.map fj.d)=true:=by
 induction rs with
 | nil=>simp
 | cons r rs ih=>simp[ih,fj.d]
def zra(rs:List fj):deps (rs.map fj.d)<=1:=by
 induction rs with
 | nil=>simp
 | cons r rs ih=>simp[fj.d];omega
def zlo(s:Int)(c:Nat):keysOf [.int s,.str [c]]=some [.inl s,.inr (strOf [c])]:=rfl
def pW(r:fj):List Key:=[.inl r.st,.inr (strOf [r.c])]
def zqi(r:fj)(s:Int)(c:Nat):pW r=[.inl s,.inr (strOf [c])]↔r.st=s/\r.c=c:=by
 unfold pW;constructor
 ·intro h;injection h with h1 h2;injection h2 with h2 h3;injection h1 with h1;injection h2 with h2;injection h2 with h2;refine⟨h1,?_⟩;have:=congrArg Array.toList h2;simpa using this
 ·rintro ⟨rfl,rfl⟩;rfl
def tab:List (List Key×D)->List fj->List (List Key×D)
 | kvs,[]=>kvs
 | kvs,r::rs=>tab (match iZ kvs (pW r) with | some _=>kvs | none=>kvs++[(pW r,r.d)]) rs
theorem Aj(s:Int)(c:Nat):∀(rs:List fj) (kvs:List (List Key×D)),iZ (tab kvs rs) [.inl s,.inr (strOf [c])]=match iZ kvs [.inl s,.inr (strOf [c])] with | some d=>some d | none=>(rs.find? λr=>decide (r.st=s/\r.c=c)).map fj.d
 | [],kvs=>by rw[tab];cases iZ kvs [.inl s,.inr (strOf [c])]<;>rfl
 | r::rs,kvs=>by
  rw[tab,Aj s c rs,mq];by_cases h:r.st=s/\r.c=c
  ·have hk:=(zqi r s c).mpr h;rw[hk];cases e:iZ kvs [.inl s,.inr (strOf [c])] with
   | some d=>simp only[e]
   | none =>
    dsimp only;rw[znq _ _ _ _ e,aeT rfl];simp[h]
  ·have hk:¬ pW r=[.inl s,.inr (strOf [c])]:=λz=>h ((zqi r s c).mp z);have hd:decide (r.st=s/\r.c=c)=false:=aeW h;rw[hd];cases e:iZ kvs (pW r) with
   | some d=>rfl
   | none =>
    dsimp only;rw[znq _ _ _ _ e,aeU hk]
theorem Ak{p:List Key×D}:∀{rs:List fj} {kvs:List (List Key×D)},p∈tab kvs rs->p∈kvs\/∃r∈rs,p.2=r.d
 | [],kvs,h=>by rw[tab]at h;exact .inl h
 | r::rs,kvs,h=>by
  rw[tab]at h;rcases Ak h with h | ⟨q,hq,e⟩
  ·cases e:iZ kvs (pW r) with
   | some d=>rw[e]at h;exact .inl h
   | none =>
    rw[e]at h;rcases mC.mp h with h | h
    ·exact .inl h
    ·obtain rfl:p=(pW r,r.d):=by simpa using h
     exact .inr ⟨r,by simp,rfl⟩
  ·exact .inr ⟨q,kW _ hq,e⟩
def GR(rs:List fj)(n:Nat)(st:ak)(h:st[n]? = some (.lst (rs.map fj.d)))(hl:rs.length<=1000):zb8 [.loc n] st=.ok (.loc st.length) (st++[.dic (tab [] rs)]):=by
 unfold zb8 bA bx ze8;generalize hb:(eF (cL "dict" oF (vr 1) _):MS)=body;have key:∀(l:List fj) (kvs:List (List Key×D)) (a2:Option D),kvs.length+l.length<=1000->∃TF,cg (aO 2) body [(n,.lst (rs.map fj.d))] (l.map fj.d) [some (.loc n),some (.loc st.length),a2] (st++[.dic kvs])=.ok (.nx [some (.loc n),some (.loc st.length),TF]) (st++[.dic (tab kvs l)]):=by
  intro l
  induction l with
  | nil=>intro kvs a2 _;exact⟨a2,by rw[km,cg,aeT (by simp[dG h]),tab]⟩
  | cons r l ih =>
   intro kvs a2 hk;rw[gC]at hk;have Gk:kvs.length<1000000:=by omega
   have ks:keysOf [.int r.st,.str [r.c]]=some (pW r):=rfl;rw[gr,cg,aeT (by simp[dG h]),zs2,R.aB,tab];rw[show List.set [some (D.loc n),some (D.loc st.length),a2] 2 (some r.d)=[some (.loc n),some (.loc st.length),some r.d] from rfl];cases e:iZ kvs (pW r) with
   | some d =>
    obtain⟨TF,h2⟩:=ih kvs (some r.d) (by omega);refine⟨TF,?_⟩;have oK:body [some (.loc n),some (.loc st.length),some r.d] (st++[.dic kvs])=.ok (.nx [some (.loc n),some (.loc st.length),some r.d]) (st++[.dic kvs]):=by
     rw[<-hb];simp only[pW]at e;simp[cM,fj.d,aN,p_,zW,oF,Gk,e]
    rw[oK,R.aB];exact h2
   | none =>
    obtain⟨TF,h2⟩:=ih (kvs++[(pW r,r.d)]) (some r.d) (by simp;omega);refine⟨TF,?_⟩;have oK:body [some (.loc n),some (.loc st.length),some r.d] (st++[.dic kvs])=.ok (.nx [some (.loc n),some (.loc st.length),some r.d]) (st++[.dic (kvs++[(pW r,r.d)])]):=by
     rw[<-hb];simp only[pW]at e;simp[cM,fj.d,aN,p_,zW,oF,Gk,e,pW]
    rw[oK,R.aB];exact h2
 obtain⟨a2,k1⟩:=key rs [] none (by simpa using hl);rw[show startM 3 [D.loc n]=[some (.loc n),none,none] from rfl];simp[dG h,k1];refine Yh (o:=.dic (tab [] rs)) (λp hp=>?_);rcases Ak hp with hp | ⟨r,_,e⟩
 ·exact absurd hp (kj)
 ·rw[e];simp[fj.d]
end Law
namespace Law
open L2 M Tr
def d7(r:Ru):fj:=⟨(r.s:Nat),r.x,r.w,if r.m=true then 108 else 114,(r.g:Nat)⟩
def dh(r:Ru):D:=(d7 r).d
def zj(r:Ru):dh r=.tup [.int r.s,.str [r.x],.str [r.w],.str (sU r.m),.int r.g]:=by
 unfold dh d7 fj.d sU;cases r.m<;>rfl
def zj6(rs:List Ru):(rs.map d7).map fj.d=rs.map dh:=by rw[gO];rfl
def Bm(B:Bk)(n s c:Nat)(st:ak)(h:st[n]? = some (.dic (tab [] (B.rs.map d7)))):Et (.loc n) [.tup [.int s,.str [c]]] st=.ok (match ye B s c with | some r=>dh r | none=>.non) st:=by
 have e:=Aj (s:Nat) c (B.rs.map d7) [];rw[GJ]at e;dsimp only at e;rw[List.find?_map]at e;have e2:(λr=>decide ((d7 r).st=(s:Int)/\(d7 r).c=c))=λr:Ru=>decide (r.s=s) && decide (r.x=c):=by
  funext r;rw[mz];constructor
  ·intro q;obtain⟨a,b⟩:=afd q;have a':(r.s:Int)=s:=a;have b':r.x=c:=b;rw[gH];exact⟨ae3 (by omega),ae3 b'⟩
  ·intro q;rw[gH]at q;have a:=afd q.1;exact ae3 ⟨by show (r.s:Int)=s;omega,afd q.2⟩
 have e3:B.rs.find? ((λr=>decide (r.st=(s:Int)/\r.c=c))∘d7)=ye B s c:=by
  unfold ye;rw[<-e2];rfl
 rw[e3]at e;unfold Et;have ks:=zlo (s:Nat) c;simp only[h,ks,e];cases ye B s c<;>rfl
def LQ{m1 m2:MS}{env env1:aM}{st st1:ak}(h:m1 env st=.ok (.nx env1) st1):aC m1 m2 env st=m2 env1 st1:=by rw[wW,h];rfl
def Yg{i:Nat}{e:ME}{env:aM}{st st1:ak}{d:D}(h:e env st=.ok d st1):aJ i e env st=.ok (.nx (env.set i (some d))) st1:=by
 rw[zF,h];rfl
def rG{c f:PySem.Str}{m:ME}{env:aM}{st:ak}{n:Nat}{fs:List (PySem.Str×D)}{x:D}(hm:m env st=.ok (.loc n) st)(h:st[n]? = some (.ins c fs))(hx:fs.lookup f=some x):cV c f m env st=.ok x st:=by
 unfold cV;rw[hm,R.aB];dsimp only;rw[h];dsimp only;rw[aeT rfl,hx]
def zjy{c f:PySem.Str}{mo mv:ME}{env:aM}{st st1:ak}{n:Nat}{fs:List (PySem.Str×D)}{d:D}(hv:mv env st=.ok d st1)(hm:mo env st1=.ok (.loc n) st1)(h:st1[n]? = some (.ins c fs))(hl:fs.length<1000):cD c f mo mv env st=.ok (.nx env) (st1.set n (.ins c (wC f d fs))):=by
 unfold cD;rw[hv,R.aB,hm,R.aB];dsimp only;rw[h];dsimp only;rw[aeT ⟨rfl,hl⟩]
def vM(ls:List Nat):List (List Nat×Tr):=ls.map λc=>([c],bV (bR ls c) ls.length)
def ZZ{ls:List Nat}(hn:ls.Nodup){i c:Nat}(h:ls[i]? = some c):bR ls c=i:=by
 have hm:=gW h;have h2:=Yo hm;exact (nM (RK hm) hn).mp (by rw[h2,h])
def zka(ls:List Nat)(hn:ls.Nodup)(h:∀c∈ls,Let c)(hl:ls.length<=1000)(st:ak)(hb:Bs st):zbj [.str ls] st=.ok (.loc st.length) (st++[.dkc (aW (vM ls))]):=by
 have ha:=xr h;unfold zbj bA bx zdn;generalize hB:(jC (az M6 [] _) _:MS)=B
 let Z:Nat->ak:=λi=>st++[.dkc (aW ((ls.take i).map λc=>([c],bV (bR ls c) ls.length)))]
 obtain⟨bY,st',h1,a2,a3,rfl,rfl⟩:=yV (g:=ux 2 (eG (aO 2) (eG (aO 3) vY))) (b:=B) (gs:=[]) (items:=dJ 0 (ls.map λc=>D.str [c]))
  (λi env s=>∃(a2 a3:Option D),env=[some (.str ls),some (.loc st.length),a2,a3]/\s=Z i)
  (env:=[some (.str ls),some (.loc st.length),none,none]) (st:=Z 0) ⟨none,none,rfl,rfl⟩ (by
   rintro i d env s hi ⟨a2,a3,rfl,rfl⟩;obtain⟨y,hy,rfl⟩:=zjx hi;obtain⟨c,hc,rfl⟩:=Gr hy;have Gm:=(gf.mp hc).1;have ei:=ZZ hn hc;have J_:Bs (Z i):=hb.app (by simp);have pk:=znk i ls.length (Z i) J_.t1 J_.c Gm (by omega);have le:dj [.str ls] (Z i)=.ok (.int ls.length) (Z i):=by
    show wg [.str ls] (Z i)=_;exact zgz _ ls (by omega)
   have sk:=znr ((ls.take i).map λc=>([c],bV (bR ls c) ls.length)) st.length [c] (bV i ls.length) (Z i) (by simp[Z]) (by simp;omega) (λp hp=>by
    obtain⟨x,hx,rfl⟩:=gh.mp hp;intro e;have:x=c:=by simpa using e
    subst this;obtain⟨j,hj,q⟩:=nj.mp hx;rw[kI]at hj;rw[pC]at q;have:ls[j]? = ls[i]?:=by rw[hc,<-q];exact gM (by omega)
    have:=(nM (by omega) hn).mp this;omega)
   have e2:(Z i).set st.length (.dkc (aW (((ls.take i).map λc=>([c],bV (bR ls c) ls.length))++[([c],bV i ls.length)])))=Z (i+1):=by
    show (st++_).set _ _=st++_;rw[RP _ _ _ _ rfl,kO,hc];simp[ei]
   rw[e2]at sk;refine⟨by simp,[some (.str ls),some (.loc st.length),some (.int i),some (.str [c])],Z i,?_,[some (.str ls),some (.loc st.length),some (.int i),some (.str [c])],Z (i+1),.inl ?_,_,_,rfl,rfl⟩
   ·generalize Z i=Zi;simp
   ·rw[<-hB];generalize Z i=Zi at *;generalize Z (i+1)=Zj at *;generalize enc (bV i ls.length)=W at *;simp[le,pk,sk]) (λ_ _ _=>by simp)
 rw[Yu,gq]at h1;have ez:Z ls.length=st++[.dkc (aW (vM ls))]:=by show _++_=_;rw[my];rfl
 rw[ez]at h1;have g:=Yh (st:=st) (o:=.dkc (aW (vM ls))) (λp hp=>by
  unfold aW at hp;obtain⟨q,_,rfl⟩:=gh.mp hp;exact iV _ _)
 have e0:Z 0=st++[.dkc []]:=rfl;rw[e0]at h1;have en:uX (aj (vr 0) au) [some (.str ls),some (.loc st.length),none,none] (st++[.dkc []])=.ok (dJ 0 (ls.map λc=>D.str [c]),[]) (st++[.dkc []]):=by
  rw[Hs];simp only[N7,zG,vN,mY,R.aB];rw[aeT ha]
 rw[show startM 4 [D.str ls]=[some (.str ls),none,none,none] from rfl];generalize aW (vM ls)=Y at *;generalize uX (aj (vr 0) au)=EI at *;generalize dJ 0 (ls.map λc=>D.str [c])=X at *;simp[ZF,en,h1];exact g
def dF{F:FD}{mA:MA}{env:aM}{st st1 st2:ak}{as:List D}{d:D}(hF:F as st1=.ok d st2)(ha:mA env st=.ok as st1):az F [] mA env st=.ok d st2:=by simp[ha,hF]
def zq{f:List D->ak->R D}{mA:MA}{env:aM}{st st1 st2:ak}{as:List D}{d:D}(hF:f as st1=.ok d st2)(ha:mA env st=.ok as st1):bw f mA env st=.ok d st2:=by simp[ha,hF]
def bU{e:ME}{mA:MA}{env:aM}{st st1 st2:ak}{as:List D}{d:D}(h:e env st=.ok d st1)(ha:mA env st1=.ok as st2):aj e mA env st=.ok (d::as) st2:=by simp[ha,h]
def bH{g:D->D->ak->R D}{a b:ME}{env:aM}{st st1 st2 ig:ak}{x y d:D}(ha:a env st=.ok x st1)(hb:b env st1=.ok y st2)(hg:g x y st2=.ok d ig):aF g a b env st=.ok d ig:=by simp[ha,hb,hg]
def dO{i:Nat}{e:ME}{m2:MS}{env:aM}{st st1:ak}{d:D}{r:R Out}(h:e env st=.ok d st1)(k:m2 (env.set i (some d)) st1=r):aC (aJ i e) m2 env st=r:=by rw[LQ (Yg h)];exact k
def T4{t:MT}{a m2:MS}{env:aM}{st st1:ak}{r:R Out}(h:t env st=.ok false st1)(k:m2 env st1=r):aC (iJ t a bN) m2 env st=r:=by simp[h,k]
def ZW{e:ME}{G:MG}{m2:MS}{env env1:aM}{st st1 st2:ak}{d:D}{r:R Out}(h:e env st=.ok d st1)(hg:G d env st1=.ok env1 st2)(k:m2 env1 st2=r):aC (jC e G) m2 env st=r:=by simp[h,hg,k]
def ZS{a b:MT}{env:aM}{st st1 st2:ak}{c:Bool}(h:a env st=.ok false st1)(k:b env st1=.ok c st2):O_ a b env st=.ok c st2:=by simp[h,k]
def Bc{a:MT}{env:aM}{st st1:ak}{c:Bool}(h:a env st=.ok c st1):vU a env st=.ok (!c) st1:=by simp[h]
def ZX{a:ME}{env:aM}{st st1:ak}{x:D}{c:Bool}(h:a env st=.ok x st1)(k:cT x st1=some c):qm a env st=.ok c st1:=by simp[h,k]
def Io{g:D->ak->R D}{a:ME}{env:aM}{st st1 st2:ak}{x d:D}(ha:a env st=.ok x st1)(hg:g x st1=.ok d st2):zL g a env st=.ok d st2:=by simp[ha,hg]
def zp0{a b:ME}{env:aM}{st st1 st2:ak}{d:D}(h:a env st=.ok (.bl true) st1)(k:b env st1=.ok d st2):xX a b env st=.ok d st2:=by simp[h,k]
def vf{e:ME}{env:aM}{st st1:ak}{d:D}(h:e env st=.ok d st1):retS e env st=.ok (.rt d) st1:=by simp[h]
def CK{mA:MA}{env:aM}{st st1:ak}{ds:List D}(h:mA env st=.ok ds st1)(hl:ds.length<=1000000:=by simp):fM mA env st=.ok (.tup ds) st1:=by simp[h,hl]
def tu{a:ME}{env:aM}{st st1:ak}{c:Bool}(h:a env st=.ok (.bl c) st1):fu a env st=.ok c st1:=by simp[h]
def fQ{x:R Out}{f:Out->ak->R D}{st st1:ak}{d:D}{r:R D}(h:x=.ok (.rt d) st1)(hf:f (.rt d) st1=.ok d st1)(k:gc st (.ok d st1)=r):gc st (x.bind f)=r:=by rw[h,R.aB,hf];exact k
def Ma{T:String}{f:D->List D->ak->R D}{mo:ME}{mA:MA}{env:aM}{st st1 st2 ig:ak}{x d:D}{as:List D}(h:mo env st=.ok x st1)(ht:cM T x st1=true)(ha:mA env st1=.ok as st2)(hf:f x as st2=.ok d ig):cL T f mo mA env st=.ok d ig:=by simp[h,ht,ha,hf]
def Gq{c f:PySem.Str}{mo mv:ME}{m2:MS}{env:aM}{st st1 st2:ak}{n:Nat}{fs:List (PySem.Str×D)}{d:D}{r:R Out}(hv:mv env st=.ok d st1)(hm:mo env st1=.ok (.loc n) st1)(h:st1[n]? = some (.ins c fs))(e:st1.set n (.ins c (wC f d fs))=st2)(k:m2 env st2=r)(hl:fs.length<1000:=by simp):aC (cD c f mo mv) m2 env st=r:=by rw[LQ (zjy hv hm h hl),e];exact k
def LK{mi:MI}{g:MG}{b m2:MS}{env env1:aM}{st st1 st2:ak}{s:List D}{gs:List (Nat×MO)}{r:R Out}(hi:mi env st=.ok (s,gs) st1)(h:cg g b gs s env st1=.ok (.nx env1) st2)(k:m2 env1 st2=r):aC (je mi g b) m2 env st=r:=by rw[LQ (by rw[zH,hi,R.aB];exact h)];exact k
def xW{e:ME}{G:MG}{env env1:aM}{st st1 st2:ak}{d:D}(h:e env st=.ok d st1)(hg:G d env st1=.ok env1 st2):jC e G env st=.ok (.nx env1) st2:=by simp[h,hg]
def Yi{g:D->D->D->ak->R Unit}{a b:ME}{d x y:D}{env:aM}{st st1 st2 ig:ak}(ha:a env st=.ok x st1)(hb:b env st1=.ok y st2)(hg:g x y d st2=.ok () ig):rY g a b d env st=.ok env ig:=by simp[ha,hb,hg]
def zrv{e:ME}{env:aM}{st st1:ak}{d:D}(h:e env st=.ok d st1):eF e env st=.ok (.nx env) st1:=by simp[h]
def Tg{x:R Out}{f:Out->ak->R D}{env:aM}{st st1:ak}{r:R D}(h:x=.ok (.nx env) st1)(hf:f (.nx env) st1=.ok .non st1)(k:gc st (.ok .non st1)=r):gc st (x.bind f)=r:=by rw[h,R.aB,hf];exact k
def add_int{i j k:Int}{st:ak}(h:i+j=k):aX (.int i) (.int j) st=.ok (.int k) st:=by subst h;rfl
def add_str{a b:List Nat}{st:ak}(h:a.length+b.length<=1000000):aX (.str a) (.str b) st=.ok (.str (a++b)) st:=aeT h
def zk1{a b c:Nat}{st:ak}(h:a+b=c):aX (.int a) (.int b) st=.ok (.int c) st:=add_int (by omega)
def Z8{t:MT}{a:MS}{env:aM}{st st1:ak}(h:t env st=.ok false st1):iJ t a bN env st=.ok (.nx env) st1:=by simp[h]
def Ye{t:MT}{a b:MS}{env:aM}{st st1:ak}{r:R Out}(h:t env st=.ok true st1)(k:a env st1=r):iJ t a b env st=r:=by simp[h,k]
def Jb{c m:PySem.Str}{F:FD}{mo:ME}{mA:MA}{env:aM}{st st1 st2:ak}{n:Nat}{fs fs2:List (PySem.Str×D)}{as:List D}{d:D}(h:mo env st=.ok (.loc n) st)(ho:st[n]? = some (.ins c fs))(ha:mA env st=.ok as st1)(J5:st1[n]? = some (.ins c fs2))(hF:F (.loc n::as) st1=.ok d st2)(hm:fs.lookup m=none:=by rfl):Be c m F mo mA env st=.ok d st2:=by
 unfold Be;rw[h,R.aB];dsimp only;rw[ho];dsimp only;rw[aeT ⟨rfl,hm⟩,ha,R.aB,J5];dsimp only;rw[hF];rfl
def jm{i:Int}{ds:List D}{d:D}{st:ak}(hi:p_ ds i=some d:=by rfl):aN (.tup ds) (.int i) st=.ok d st:=iw st i ds d hi
def zrf{e:ME}{env:aM}{st:ak}{cs:List Nat}(h:e env st=.ok (.str cs) st)(ha:cs.all (λc=>decide (c<128))=true):ym e env st=.ok (cs.map λc=>D.str [c],[]) st:=by
 rw[U6,h,R.aB];dsimp only;rw[aeT ha]
def zm6{st:ak}{n k:Nat}{g:ak}{o:MO}(h:g[k]? = some o)(e:n=st.length+k:=by rfl):(st++g)[n]? = some o:=by subst e;rw[h_ (by omega),show st.length+k - st.length=k by omega];exact h
def Hg{e:ME}{env:aM}{st:ak}{cs:List Nat}(h:e env st=.ok (.str cs.reverse) st)(hl:cs.length<=1000000):Aw (aj e au) env st=.ok (cs.map λc=>D.str [c],[]) st:=by simp[h,hl]
def J2{t:MT}{a b:ME}{env:aM}{st st1:ak}{c:Bool}{r:R D}(h:t env st=.ok c st1)(k:(bif c then a env st1 else b env st1)=r):Mu t a b env st=r:=by cases c<;>simpa[h] using k
def eq_str{a b:List Nat}{st:ak}:M.eN 800 (.str a) (.str b) st=.ok (.bl (decide (a=b))) st:=by simp
def wV{m1 m2:MS}{env:aM}{st st1:ak}{d:D}(h:m1 env st=.ok (.rt d) st1):aC m1 m2 env st=.ok (.rt d) st1:=by rw[wW,h];rfl
def Cu{a b:MT}{env:aM}{st st1 st2:ak}{c:Bool}(h:a env st=.ok true st1)(k:b env st1=.ok c st2):oR a b env st=.ok c st2:=by simp[h,k]
def Rt{a b:MT}{env:aM}{st st1:ak}(h:a env st=.ok false st1):oR a b env st=.ok false st1:=by simp[h]
def G5{a:ME}{l h:MP}{env:aM}{st:ak}{x d:D}{lo hi:Option Int}(ha:a env st=.ok x st)(hl:l env st=.ok lo st)(hh:h env st=.ok hi st)(k:Am x lo hi st=.ok d st):UL a l h env st=.ok d st:=by simp[ha,hl,hh,k]
def eq_int{i j:Int}{st:ak}:M.eN 800 (.int i) (.int j) st=.ok (.bl (decide (i=j))) st:=by simp
def Ym{i:Int}{st:ak}:M.eN 800 (.int i) (.int i) st=.ok (.bl true) st:=by simp
def zhs{i:List Nat}{st:ak}:M.eN 800 (.str i) (.str i) st=.ok (.bl true) st:=by simp
end Law
set_option maxHeartbeats 0
namespace Law
open L2 M Tr
abbrev uF(ls:List Nat)(c:Nat):Tr:=bV (bR ls c) ls.length
abbrev Lj:List Nat:=[98,97,114,101]
abbrev Kh:List Nat:=[102,117,108,108]
def R0(m:Bool)(ls:List Nat)(c:Nat):MO:=.dkc (aW [(Lj,fB m (uF ls 95) (uF ls c)),(Kh,ji m (uF ls c))])
def mvF(m:Bool)(w:Nat):List (PySem.Str×D):=[("plan",enc (bK (cF m) cA)),("written",.loc w),("bare_cost",.int ((iu m+oh m:Nat):Int)),("full_cost",.int ((iu m+j8 m:Nat):Int))]
def dm(st:ak)(n:Nat)(m:Bool)(ls:List Nat):Prop :=
 ∃w W,st[n]? = some (.ins "Move" (mvF m w))/\st[w]? = some (.dkc W)/\∀c∈ls,∃q,valN W (.inr (strOf [c]))=some (.loc q)/\st[q]? = some (R0 m ls c)
def Keeps(st st':ak)(ex:List Nat):Prop:=∀j o,j∉ex->st[j]? = some o->st'[j]? = some o
def Keeps.app(st g:ak):Keeps st (st++g) []:=λ_ _ _ h=>dG h
def dm.mono{st st':ak}{n:Nat}{m:Bool}{ls:List Nat}(h:dm st n m ls)(k:Keeps st st' []):dm st' n m ls:=by
 obtain⟨w,W,h1,h2,h3⟩:=h;refine⟨w,W,k _ _ (by simp) h1,k _ _ (by simp) h2,λc hc=>?_⟩;obtain⟨q,q1,q2⟩:=h3 c hc;exact⟨q,q1,k _ _ (by simp) q2⟩
def Bs.keeps{st st':ak}(h:Bs st){ex:List Nat}(k:Keeps st st' ex)(h1:1∉ex)(h2:2∉ex)(c:aY st'):Bs st':=⟨k _ _ h1 h.t1,k _ _ h2 h.t2,c⟩
def Tt(x y:List Nat)(hxy:x≠y)(e1 e2:ME)(v w:Tr)(env:aM)(st:ak)(h1:e1 env (st++[.dkc []])=.ok (enc v) (st++[.dkc []]))(h2:e2 env (st++[.dkc []])=.ok (enc w) (st++[.dkc []])) :
  fV (cG (ct (.str x)) e1 (cG (ct (.str y)) e2 iH)) env st=.ok (.loc st.length) (st++[.dkc (aW [(x,v),(y,w)])]):=by
 have oK:¬ strOf x=strOf y:=λe=>hxy (L_.mp e);unfold fV;simp[h1,h2,uN,yw,jV,putN,aW,oK]
def aaw(kvs:List (Key×D))(n:Nat)(s:List Nat)(d:D)(st:ak)(h:st[n]? = some (.dkc kvs))(hl:kvs.length<=10000)(hs:∀p∈kvs,p.1≠.inr (strOf s)):lN (.loc n) (.str s) d st=.ok () (st.set n (.dkc (kvs++[(.inr (strOf s),d)]))):=by
 unfold lN;simp only[h,yw];rw[aeT (by omega)];congr 3;unfold putN;rw[aeU];simp only[ph,ae2,not_exists,not_and];exact hs
def GF(ls:List Nat)(f:Nat->D){c:Nat}(h:c∈ls):valN (ls.map λc=>(Sum.inr (strOf [c]),f c)) (.inr (strOf [c]))=some (f c):=by
 induction ls with
 | nil=>cases h
 | cons x l ih =>
  rw[gr,Yy];by_cases e:x=c
  ·rw[aeT (by rw[e]),e]
  ·rw[aeU (λz=>e (by have:=L_.mp (afi z);simpa using this))];exact ih ((gj.mp h).resolve_left (ae4 e))
def zm3{ls:List Nat}(hn:ls.Nodup){i c x:Nat}(hc:ls[i]? = some c)(hx:x∈ls.take i):x≠c:=by
 intro e;subst e;obtain⟨j,hj,q⟩:=nj.mp hx;rw[kI]at hj;rw[pC]at q;have:ls[j]? = ls[i]?:=by rw[hc,<-q];exact gM (by omega)
 have:=(nM (by omega) hn).mp this;omega
def Je(m:Bool):lv (bu m)<=100/\lv (bK (bu m) iR)<=1000/\lv (bK (bu m) oX)<=1000/\lv (cF m)<=100/\lv (bK (cF m) cA)<=1000:=by cases m<;>decide +kernel
theorem Jf{f:List Nat->Option Tr}{b:Nat}(hb:1<=b)(h:∀s v,f s=some v->lv v<=b):∀t,lv (sb f t)<=lv t*b
 | .lf s=>by
  rw[sb];cases e:f s with
  | none=>show 1<=1*b;omega
  | some v=>have:=h s v e;show lv v<=1*b;omega
 | .jn l r=>by
  have:=Jf hb h l;have:=Jf hb h r;rw[sb,lv,lv,Nat.add_mul];omega
theorem zng:∀m,lv (vQ m)<=3*m+3
 | 0=>by decide
 | 1=>by decide
 | m+2=>by
  have:=zng (m+1);rw[vQ,lv];have:lv (.jn tS (.jn tK tK))=3:=rfl;omega
def V0(ls:List Nat)(hl:ls.length<=9)(c:Nat):lv (uF ls c)<=60:=by
 have h1:=znb (vQ (ls.length - 1 - bR ls c)) (bR ls c);have h2:=zng (ls.length - 1 - bR ls c);have h3:bR ls c<=ls.length:=List.findIdx_le_length;show lv (cZ _ _)<=_;omega
end Law
set_option maxHeartbeats 0
namespace Law
open L2 M Tr
def set_same{st:ak}{n:Nat}{o:MO}(h:st[n]? = some o):st.set n o=st:=by
 apply List.ext_getElem?;intro i;by_cases e:n=i
 ·subst e;rw[h];have:=(gf.mp h).1;simp[this]
 ·rw[gR e]
def gL(m:Bool)(ls:List Nat)(c:Nat):List MO:=[.dkc (aW [([119],uF ls c)]),R0 m ls c]
def uU(m:Bool)(ls:List Nat)(i:Nat):List MO:=((ls.take i).map (gL m ls)).flatten
def Kf(m:Bool)(ls:List Nat):∀i,i<=ls.length->(uU m ls i).length=2*i:=λi hi=>by
 unfold uU;have key:∀l:List Nat,((l.map (gL m ls)).flatten).length=2*l.length:=λl=>by
  induction l with
  | nil=>rfl
  | cons c l ih=>rw[gr,List.flatten_cons,gJ,ih];simp[gL];omega
 rw[key,kI];omega
def Eu(m:Bool){ls:List Nat}{i c:Nat}(h:ls[i]? = some c):uU m ls (i+1)=uU m ls i++gL m ls c:=by
 unfold uU;rw[kO,h];simp
def Kg(m:Bool)(ls:List Nat)(i:Nat):aY (uU m ls i):=by
 unfold uU;generalize ls.take i=l
 induction l with
 | nil=>simp
 | cons c l ih=>rw[gr,List.flatten_cons];simp[ih,gL,R0]
def Mm(p:Nat)(ls:List Nat)(i:Nat):List (Key×D):=(ls.take i).map λc=>(Sum.inr (strOf [c]),D.loc (p+2*bR ls c))
def zhx(m:Bool)(ls:List Nat)(hn:ls.Nodup)(hL:∀c∈ls,Let c)(hl:ls.length<=9)(h95:95∈ls)(sf nt:Nat)(st:ak)(hb:Bs st)(h1:st[sf]? = some (.ins "Move" []))
  (h2:st[nt]? = some (.dkc (aW (vM ls)))\/st[nt]? = some (.dkf (aW (vM ls)))) :
  ∃st',Uh [.loc sf,.str (sU m),.loc nt] st=.ok .non st'/\Keeps st st' [sf,nt]/\st'[nt]? = some (.dkf (aW (vM ls)))/\dm st' sf m ls/\aY st'/\st.length<=st'.length:=by
 obtain⟨l1,l2,l3,l4,l5⟩:=Je m;have Qx:=(gf.mp h1).1;have hnt:nt<st.length:=by rcases h2 with h2 | h2<;>exact (gf.mp h2).1
 have oK:sf≠nt:=λe=>by subst e;rw[h1]at h2;simp at h2
 let A:MO:=.dkc (aW [([97],uF ls 95),([116],tK)])
 let Lk:Tr:=sb (look [([97],uF ls 95),([116],tK)]) (bK (bu m) iR)
 let p1:(PySem.Str×D):=("plan",enc (bK (cF m) cA))
 let p2:(PySem.Str×D):=("written",.loc (st.length+1))
 let zX:MO:=.ins "Move" [p1,p2]
 let Wz:MO:=.ins "Move" [p1,p2,("bare_cost",.int ((iu m+oh m:Nat):Int))]
 let JX:MO:=.ins "Move" (mvF m (st.length+1))
 have b1:Bs (st++[A]):=hb.app (by simp[A])
 let E3:Option D->Option D->aM:=λa6 a7=>[some (.loc sf),some (.str (sU m)),some (.loc nt),some (enc (bu m)),some (enc Lk),some (enc (bK (bu m) oX)),a6,a7,none]
 have zA:∀x:MO,(st.set sf x).length=st.length:=λx=>by simp
 let S0:ak:=(st.set sf zX).set nt (.dkf (aW (vM ls)))
 have z0:S0.length=st.length:=by simp[S0]
 let T:Nat->ak:=λi=>S0++A::.dkc (Mm (st.length+3) ls i)::uU m ls i
 have dk:Tq (vr 2) (E3 none none) (st.set sf zX++[A,.dkc []])=.ok (ls.map λc=>D.str [c],[]) (T 0):=by
  have kk:=zsm ls (uF ls);change (aW (vM ls)).map (λp=>xx p.1)=_ at kk;have e0:(st.set sf zX++[A,.dkc []]:ak).set nt (.dkf (aW (vM ls)))=T 0:=by
   rw[zfm _ _ _ _ (by rw[zA];exact hnt)];rfl
  have gn:∀o,st[nt]? = some o->(st.set sf zX++[A,.dkc []]:ak)[nt]? = some o:=λo ho=>by
   rw[gK (by rw[zA];exact hnt),gR oK];exact ho
  unfold Tq;simp only[E3,vN,mJ,mY,R.aB];rcases h2 with h2 | h2
  ·simp only[gn _ h2,e0,kk]
  ·have e1:(st.set sf zX++[A,.dkc []]:ak)=T 0:=by rw[<-e0,set_same (gn _ h2)]
   simp only[gn _ h2,kk];rw[e1]
 have tsf:∀i,(T i)[sf]? = some zX:=λi=>by
  rw[gK (by rw[z0];exact Qx),gR (ae4 oK)];simp[Qx]
 have tnt:∀i,(T i)[nt]? = some (.dkf (aW (vM ls))):=λi=>by
  rw[gK (by rw[z0];exact hnt)];simp[S0,hnt]
 have tw:∀i,(T i)[st.length+1]? = some (.dkc (Mm (st.length+3) ls i)):=λi=>by
  rw[h_ (by rw[z0];omega),z0,show st.length+1 - st.length=1 by omega];rfl
 have n1:sf≠1:=λe=>by rw[e,hb.t1]at h1;cases h1
 have n2:sf≠2:=λe=>by rw[e,hb.t2]at h1;cases h1
 have n3:nt≠1:=λe=>by rw[e,hb.t1]at h2;simp at h2
 have n4:nt≠2:=λe=>by rw[e,hb.t2]at h2;simp at h2
 have bS:Bs S0:=⟨by rw[gR n3,gR n1];exact hb.t1,by rw[gR n4,gR n2];exact hb.t2,RQ (RQ hb.c rfl) rfl⟩;have bT:∀i,Bs (T i):=λi=>bS.app (by simp[Kg,A]);have tl:∀i,i<=ls.length->(T i).length=st.length+2+2*i:=λi hi=>by
  have:=Kf m ls i hi;simp only[T,gJ,gC,this,z0];omega
 have lb:lv Lk<=400000:=by
  have:=Jf (f:=look [([97],uF ls 95),([116],tK)]) (b:=60) (by omega) (λs v e=>by
   have:=zh5 e;simp only[gj,kj,afc,Prod.mk.injEq]at this;rcases this with⟨_,rfl⟩ | ⟨_,rfl⟩
   ·exact V0 ls hl 95
   ·decide) (bK (bu m) iR)
  have h6:lv (bK (bu m) iR)*60<=1000*60:=Nat.mul_le_mul_right 60 l2;show lv (sb _ _)<=_;omega
 unfold Uh bA bx YG;generalize hB:(aC (aJ 7 _) _:MS)=B;obtain⟨bY,st',hh,a6,a7,rfl,rfl⟩:=yV (g:=aO 6) (b:=B) (gs:=[]) (items:=ls.map λc=>D.str [c]) (λi env s=>∃(a6 a7:Option D),env=E3 a6 a7/\s=T i)
  (env:=E3 none none) (st:=T 0) ⟨none,none,rfl,rfl⟩ (by
   rintro i d env s hi ⟨a6,a7,rfl,rfl⟩;obtain⟨c,hc,rfl⟩:=Gr hi;have Gm:=(gf.mp hc).1;have ei:=ZZ hn hc
   let P:ak:=T i++[.dkc (aW [([119],uF ls c)])]
   have pl:P.length=st.length+3+2*i:=by simp[P,tl i (by omega)];omega
   have bP:Bs (P++[.dkc []]):=((bT i).app (by simp)).app (by simp);have gp:(P++[.dkc []])[(T i).length]? = some (.dkc (aW [([119],uF ls c)])):=by simp[P]
   have sk:=aaw (Mm (st.length+3) ls i) (st.length+1) [c] (.loc P.length) (P++[R0 m ls c]) (dG (dG (tw i))) (by simp[Mm];omega) (λp hp=>by
    obtain⟨x,hx,rfl⟩:=gh.mp hp;intro e;have:x=c:=by have:=L_.mp (afi e);simpa using this
    exact zm3 hn hc hx this)
   have e2:(P++[R0 m ls c]).set (st.length+1) (.dkc (Mm (st.length+3) ls i++[(.inr (strOf [c]),.loc P.length)]))=T (i+1):=by
    have ew:Mm (st.length+3) ls (i+1)=Mm (st.length+3) ls i++[(.inr (strOf [c]),.loc P.length)]:=by
     unfold Mm;rw[kO,hc,pl];simp[ei]
    show (S0++A::_::uU m ls i++[_]++[_]).set _ _=S0++A::_::uU m ls (i+1);rw[Eu m hc,ew];simp only[gY,nW,mQ,gL];rw[nQ,aeU (by rw[z0];omega),z0,show st.length+1 - st.length=1 by omega]
    rfl
   rw[e2]at sk;refine⟨by simp,E3 (some (.str [c])) a7,T i,rfl,E3 (some (.str [c])) (some (.loc (T i).length)),T (i+1),.inl ?_,_,_,rfl,rfl⟩;rw[<-hB];exact dO (BX _ _ (uF ls c) _ _ λs=>bH rfl rfl (Yc (vM ls) nt [c] _ _ (.inr (dG (tnt i))) (Yl (gW hc))))
    (xW (Tt _ _ (by decide) _ _ (fB m (uF ls 95) (uF ls c)) (ji m (uF ls c)) _ P (dF (zgt _ Lk _ _ gp bP.t2 bP.c lb) rfl) (dF (zgt _ (bK (bu m) oX) _ _ gp bP.t2 bP.c (by omega)) rfl))
     (Yi (rG rfl (dG (dG (tsf i))) rfl) rfl sk))) (λ_ _ _=>by simp)
 rw[gq]at hh
 let C1:MO:=.lst (aG (cX (cF m) cA))
 let C2:MO:=.lst (aG (cX (bu m) iR))
 let C3:MO:=.lst (aG (cX (bu m) oX))
 have bC1:Bs (T ls.length++[C1]):=(bT _).app (by simp[C1]);obtain⟨m1,m2⟩:=zhb cA (cF m) (T ls.length) (bT _) (by decide) l4;obtain⟨m3,m4⟩:=zhb iR (bu m) (T ls.length++[C1]) bC1 (by decide) l1;have yC:sf<(T ls.length++[C1]++[C2]).length:=by rw[gJ,gJ,tl _ (gb _)];omega
 have bC2:Bs ((T ls.length++[C1]++[C2]).set sf Wz):=by
  have b:=bC1.app (g:=[C2]) (by simp[C2]);exact⟨by rw[gR n1];exact b.t1,by rw[gR n2];exact b.t2,RQ b.c rfl⟩
 obtain⟨m5,m6⟩:=zhb oX (bu m) _ bC2 (by decide) l1
 let stE:ak:=(((T ls.length++[C1]++[C2]).set sf Wz)++[C3]).set sf JX
 have hsE:sf<(((T ls.length++[C1]++[C2]).set sf Wz)++[C3]).length:=by
  rw[gJ,nA];omega
 have esf:stE[sf]? = some JX:=k_ hsE;have eo:∀j o,j≠sf->(T ls.length)[j]? = some o->stE[j]? = some o:=λj o hj ho=>by
  show ((_:ak).set sf JX)[j]? = _;rw[gR (ae4 hj)];refine dG ?_;rw[gR (ae4 hj)];exact dG (dG ho)
 have Em:∀j,j<st.length->(T ls.length)[j]? = S0[j]?:=λj hj=>by rw[gK (by rw[z0];exact hj)]
 have cE:aY stE:=RQ ((RV _ _).mpr ⟨bC2.c,by simp[C3]⟩) rfl;have J8:=xM (st:=st) (st':=stE) (d:=.non) Qx (by rw[esf,h1];simp[JX,mvF]);refine⟨stE,?_,λj o hj ho=>?_,?_,⟨st.length+1,Mm (st.length+3) ls ls.length,esf,?_,λc hc=>?_⟩,cE,?_⟩
 ·have e5:(st.set sf (.ins "Move" [p1])++[A]++[.dkc []]:ak).set sf (.ins "Move" [p1,("written",.loc (st.set sf (.ins "Move" [p1])++[A]).length)])=st.set sf zX++[A,.dkc []]:=by
   rw[gY,zfm _ _ _ _ (by rw[zA];exact Qx),List.set_set,gJ,zA];rfl
  refine Tg (dO (dF (zkc m st) rfl) (dO (dF (wY _ (bK (bu m) iR) st hb (by omega)) (bU (dF (YB iR (bu m) st hb.t1 hb.c (by decide) l1) rfl) (bU (Tt _ _ (by decide) _ _ (uF ls 95) tK _ _ (bH rfl rfl (Yc (vM ls) nt [95] _ _ (by rcases h2 with h2 | h2;exact .inl (dG h2);exact .inr (dG h2)) (Yl h95))) rfl) rfl)))
   (dO (dF (YB oX (bu m) (st++[A]) b1.t1 b1.c (by decide) l1) rfl)
   (Gq (dF (YB cA (cF m) (st++[A]) b1.t1 b1.c (by decide) l4) (bU rfl (bU (dF (zhe m _) rfl) rfl))) rfl (dG h1) (zfm _ _ _ _ Qx)
   (Gq (fs:=[p1]) rfl rfl (by rw[gY,gK (by rw[zA];exact Qx)];simp[Qx];rfl) e5
   (LK dk hh (dO (bH (zq m2 (bU (dF m1 (bU rfl (bU (dF (zhe m _) rfl) rfl))) rfl)) rfl (add_int (k:=((iu m:Nat):Int)) (by unfold iu;omega)))
   (Gq (bH rfl (zq m4 (bU (dF m3 rfl) rfl)) (zk1 rfl)) rfl (dG (dG (tsf _))) rfl
   (zjy (bH (bH rfl (dF (zbq 2 _ (by omega)) rfl) (add_int rfl)) (zq m6 (bU (dF m5 rfl) rfl)) (add_int (k:=((iu m+j8 m:Nat):Int)) (by unfold j8;omega))) rfl (dG (k_ yC)) (by simp)))))))))) rfl J8
 ·simp only[gj,kj,afc,not_or]at hj;have hjl:=(gf.mp ho).1;refine eo j o hj.1 ?_;rw[Em j hjl,gR (ae4 hj.2),gR (ae4 hj.1)];exact ho
 ·exact eo nt _ (ae4 oK) (tnt _)
 ·exact eo _ _ (by omega) (tw _)
 ·refine⟨st.length+3+2*bR ls c,?_,?_⟩
  ·unfold Mm;rw[my];exact GF ls (λc=>D.loc (st.length+3+2*bR ls c)) hc
  ·refine eo _ _ (by omega) ?_;have hi:=Yo hc;have Gm:=RK hc;generalize bR ls c=i at hi Gm ⊢;rw[h_ (by rw[z0];omega),z0,show st.length+3+2*i - st.length=(2*i+1)+2 by omega,mJ,mJ];unfold uU;rw[my];have key:∀(l:List Nat) (i:Nat),l[i]? = some c->((l.map (gL m ls)).flatten)[2*i+1]? = some (R0 m ls c):=by
    intro l
    induction l with
    | nil=>intro i h;simp at h
    | cons x l ih =>
     intro i h;rw[gr,List.flatten_cons];cases i with
     | zero =>
      obtain rfl:x=c:=by simpa using h
      rfl
     | succ i =>
      rw[h_ (by simp[gL];omega)];have:=ih i (by simpa using h);rw[show 2*(i+1)+1 - (gL m ls x).length=2*i+1 by simp[gL];omega];exact this
   exact key ls i hi
 ·show st.length<=((_:ak).set sf JX).length;rw[nA,gJ,nA,gJ,gJ,tl _ (gb _)];omega
end Law
set_option maxHeartbeats 0
namespace Law
open L2 M Tr
def JM{kvs:List (Key×D)}{n:Nat}{s:List Nat}{d:D}{st:ak}(h:st[n]? = some (.dkc kvs))(hv:valN kvs (.inr (strOf s))=some d):vm (.loc n) (.str s) st=.ok d st:=by
 unfold vm;simp only[h,yw,hv]
def abg{kvs:List (Key×D)}{n:Nat}{i:Int}{d:D}{st:ak}(h:st[n]? = some (.dkc kvs))(hv:valN kvs (.inl i)=some d):vm (.loc n) (.int i) st=.ok d st:=by
 unfold vm;simp only[h,zn3,hv]
def zl2(m:Bool)(ls:List Nat)(n:Nat)(st:ak)(hb:Bs st)(h:dm st n m ls)(c:Nat)(hc:c∈ls)(way:Tr):zdt [.loc n,.str [c],enc way] st=.ok (enc (qN m (uF ls 95) (uF ls c) way)) st:=by
 obtain⟨w,W,h1,h2,h3⟩:=h;obtain⟨q,q1,q2⟩:=h3 c hc
 let σ:List (List Nat×Tr):=[(Lj,fB m (uF ls 95) (uF ls c)),(Kh,ji m (uF ls c))]
 have dc:sZ [.loc q] st=.ok (.loc st.length) (st++[.dkc (aW σ)]):=by
  unfold sZ;simp only[q2,R0];rfl
 have sk:=znr σ st.length [103] way (st++[.dkc (aW σ)]) (by simp) (by simp[σ]) (by simp[σ,Lj,Kh]);rw[RP _ _ _ _ rfl]at sk;exact fQ (dO (zq dc (bU (bH (rG rfl h1 rfl) rfl (JM h2 q1)) rfl)) (ZW rfl (Yi rfl rfl sk) (vf (dF (wY _ (bK (cF m) cA) st hb (by have:=(Je m).2.2.2.2;omega)) (bU (rG rfl (dG h1) rfl) rfl))))) rfl (sJ (iV _ _))
def G9(ls:List Nat)(f:Nat->Tr)(n c:Nat)(v:Tr)(st:ak)(h:st[n]? = some (.dkc (aW (ls.map λc=>([c],f c)))))(hc:c∈ls)(hl:ls.length<=1000):lN (.loc n) (.str [c]) (enc v) st=.ok () (st.set n (.dkc (aW (ls.map λx=>([x],if x=c then v else f x))))):=by
 unfold lN;simp only[h,yw];rw[aeT (by simp[aW];omega)];congr 3;unfold putN;rw[aeT]
 ·unfold aW;rw[gO,gO,gO];refine kJ λx _=>?_;simp only[Function.comp];by_cases e:x=c
  ·rw[aeT (by rw[e]),aeT e]
  ·rw[aeU (λz=>e (by have:=L_.mp (afi z);simpa using this)),aeU e]
 ·simp only[aW,ph,ae2];exact⟨(.inr (strOf [c]),enc (f c)),by
   rw[gO];exact gh.mpr ⟨c,hc,rfl⟩,rfl⟩
def CZ(ss:List Nat)(f:Nat->D){s:Nat}(h:s∈ss):valN (ss.map λ(s:Nat)=>(Sum.inl (s:Int),f s)) (.inl (s:Int))=some (f s):=by
 induction ss with
 | nil=>cases h
 | cons x l ih =>
  rw[gr,Yy];by_cases e:x=s
  ·rw[aeT (by rw[e]),e]
  ·rw[aeU (λz=>e (by have:=Sum.inl.inj z;omega))];exact ih ((gj.mp h).resolve_left (ae4 e))
structure RC(st:ak)(b:Nat)(B:Bk)(fs:List (PySem.Str×D))(ns nk nt nm ml mr:Nat):Prop where
 o:st[b]? = some (.ins "Book" fs)
 f1:fs.lookup ("letters":PySem.Str)=some (D.str B.ls)
 f2:fs.lookup ("states":PySem.Str)=some (D.loc ns)
 f3:fs.lookup ("by_key":PySem.Str)=some (D.loc nk)
 f4:fs.lookup ("sign_trees":PySem.Str)=some (D.loc nt)
 f5:fs.lookup ("moves":PySem.Str)=some (D.loc nm)
 f6:fs.lookup ("start_cost":PySem.Str)=some (D.int (qM B.ls:Nat))
 s:st[ns]? = some (.lst (B.ss.map λs=>D.int (s:Nat)))
 k:st[nk]? = some (.dic (tab [] (B.rs.map d7)))
 t:st[nt]? = some (.dkf (aW (vM B.ls)))
 m:st[nm]? = some (.dkc [(.inr (strOf [108]),.loc ml),(.inr (strOf [114]),.loc mr)])
 l:dm st ml true B.ls
 r:dm st mr false B.ls
def RC.mono{st st':ak}{b:Nat}{B:Bk}{fs:List (PySem.Str×D)}{ns nk nt nm ml mr:Nat}(h:RC st b B fs ns nk nt nm ml mr)(k:Keeps st st' []):RC st' b B fs ns nk nt nm ml mr :=
 ⟨k _ _ (by simp) h.o,h.f1,h.f2,h.f3,h.f4,h.f5,h.f6,k _ _ (by simp) h.s,k _ _ (by simp) h.k,k _ _ (by simp) h.t,k _ _ (by simp) h.m,h.l.mono k,h.r.mono k⟩
def RC.mv{st:ak}{b:Nat}{B:Bk}{fs:List (PySem.Str×D)}{ns nk nt nm ml mr:Nat}(h:RC st b B fs ns nk nt nm ml mr)(m:Bool):∃mo,dm st mo m B.ls/\vm (.loc nm) (.str (sU m)) st=.ok (.loc mo) st:=by
 cases m with
 | true=>exact⟨ml,h.l,JM h.m rfl⟩
 | false=>exact⟨mr,h.r,JM h.m (by
  have ne:¬ strOf [108]=strOf (sU false):=λe=>by have:=L_.mp e;simp[sU]at this
  rw[Yy,aeU (λe=>ne (afi e)),Yy];exact aeT rfl)⟩
structure LC(B:Bk):Prop where
 ok:Lw B
 v9:∀c∈B.ls,Let c
 few:B.ls.length<=9
 x:∀r∈B.rs,r.x∈B.ls
 ss:B.ss.length<=512
 s0:0<B.ss.length
 rs:B.rs.length<=1000
def aac(B:Bk):List (Key×D):=B.ss.map λ(s:Nat)=>(Sum.inl (s:Int),enc (iW (i_ B s)))
def zpa(B:Bk)(hB:LC B)(b:Nat)(fs:List (PySem.Str×D))(ns nk nt nm ml mr s ne nw:Nat)(st:ak)(hb:Bs st)(hk:RC st b B fs ns nk nt nm ml mr)
  (he:st[ne]? = some (.dkc (aW (B.ls.map λc=>([c],jw (dN B c)))))) (hw:st[nw]? = some (.dkc (aac B))) :
  zc8 [.loc b,.int s,.loc ne,.loc nw] st=.ok (.loc st.length) (st++[.dkc (aW (B.ls.map λc=>([c],bO B s c)))]):=by
 have dc:sZ [.loc ne] st=.ok (.loc st.length) (st++[.dkc (aW (B.ls.map λc=>([c],jw (dN B c))))]):=by
  unfold sZ;simp only[he]
 have ha:=xr hB.v9
 let mx:Nat->Nat->Tr:=λi c=>if bR B.ls c<i then bO B s c else jw (dN B c)
 let Z:Nat->ak:=λi=>st++[.dkc (aW (B.ls.map λc=>([c],mx i c)))]
 have z0:st++[.dkc (aW (B.ls.map λc=>([c],jw (dN B c))))]=Z 0:=by
  show _=st++[MO.dkc (aW (B.ls.map λc=>([c],mx 0 c)))];have:(λc=>([c],jw (dN B c)))=λc=>([c],mx 0 c):=by funext c;simp[mx]
  rw[this]
 rw[z0]at dc;have zn:Z B.ls.length=st++[.dkc (aW (B.ls.map λc=>([c],bO B s c)))]:=by
  show st++[MO.dkc (aW (B.ls.map λc=>([c],mx B.ls.length c)))]=_;have:(B.ls.map λc=>([c],mx B.ls.length c))=B.ls.map λc=>([c],bO B s c):=kJ λc hc=>by simp[mx,RK hc]
  rw[this]
 have kz:∀i,Keeps st (Z i) []:=λi=>Keeps.app st _;have bz:∀i,Bs (Z i):=λi=>hb.app (by simp)
 let E:Option D->Option D->aM:=λa5 a6=>[some (.loc b),some (.int s),some (.loc ne),some (.loc nw),some (.loc st.length),a5,a6]
 unfold zc8 bA bx zg7;generalize Xj:(aC (aJ 6 _) _:MS)=BD;obtain⟨bY,st',hh,a5,a6,rfl,rfl⟩:=yV (g:=aO 5) (b:=BD) (gs:=[]) (items:=B.ls.map λc=>D.str [c]) (λi env s=>∃(a5 a6:Option D),env=E a5 a6/\s=Z i)
  (env:=E none none) (st:=Z 0) ⟨none,none,rfl,rfl⟩ (by
   rintro i d env s' hi ⟨a5,a6,rfl,rfl⟩;obtain⟨c,hc,rfl⟩:=Gr hi;have Gm:=(gf.mp hc).1;have Zw:=gW hc;have ei:=ZZ hB.ok.nl hc;have hz:=hk.mono (kz i);have gk:=Bm B nk s c (Z i) hz.k;have ty:cM "dict" (.loc nk) (Z i)=true:=by simp[cM,hz.k]
   have mxs:(B.ls.map λx=>([x],if x=c then bO B s c else mx i x))=B.ls.map λx=>([x],mx (i+1) x):=kJ λx hx=>by
    by_cases e:x=c
    ·subst e;simp[mx,ei]
    ·have:bR B.ls x≠i:=λq=>e (by
      have h1:=Yo hx;rw[q,hc]at h1;exact (aeX h1).symm)
     rw[aeU e];show ([x],mx i x)=([x],mx (i+1) x);have:(bR B.ls x<i)=(bR B.ls x<i+1):=by rw[eq_iff_iff];omega
     simp only[mx,this]
   cases hf:ye B s c with
   | none =>
    rw[hf]at gk;dsimp only at gk;have same:Z i=Z (i+1):=by
     show st++[MO.dkc (aW (B.ls.map λc=>([c],mx i c)))]=st++[MO.dkc (aW (B.ls.map λc=>([c],mx (i+1) c)))];rw[<-mxs];have:(B.ls.map λx=>([x],if x=c then bO B s c else mx i x))=B.ls.map λx=>([x],mx i x):=kJ λx hx=>by
      by_cases e:x=c
      ·subst e;rw[aeT rfl];have hd:bO B s x=jw (dN B x):=by unfold bO;rw[hf]
       simp[mx,ei,hd]
      ·rw[aeU e]
     rw[this]
    refine⟨by simp,E (some (.str [c])) a6,Z i,rfl,E (some (.str [c])) (some .non),Z (i+1),.inl ?_,_,_,rfl,rfl⟩;rw[<-Xj,<-same];exact dO (Ma (rG rfl hz.o hz.f3) ty (bU (CK rfl) rfl) gk) (Z8 (tu (bH rfl rfl rfl)))
   | some r =>
    rw[hf]at gk;dsimp only at gk;have hr:=hB.ok.ru r (n_ hf);have hd:bO B s c=qN r.m (dN B 95) (dN B r.w) (iW (i_ B r.g)):=by unfold bO;rw[hf]
    obtain⟨mo,hmo,ixm⟩:=hz.mv r.m;have adJ:=hmo;obtain⟨w,W,o1,_,_⟩:=adJ;have md:=zl2 r.m B.ls mo (Z i) (bz i) hmo r.w hr.2 (iW (i_ B r.g));rw[show qN r.m (uF B.ls 95) (uF B.ls r.w) (iW (i_ B r.g))=bO B s c from hd.symm]at md;rw[zj]at gk;have sk:=G9 B.ls (mx i) st.length c (bO B s c) (Z i) (by simp[Z]) Zw (by have:=hB.few;omega);rw[mxs]at sk;rw[show (Z i).set st.length _=Z (i+1) from RP _ _ _ _ rfl]at sk;refine⟨by simp,E (some (.str [c])) a6,Z i,rfl,E (some (.str [c])) (some (dh r)),Z (i+1),.inl ?_,_,_,rfl,rfl⟩;rw[<-Xj,zj];exact dO (Ma (rG rfl hz.o hz.f3) ty (bU (CK rfl) rfl) gk) (Ye (tu (bH rfl rfl rfl))
     (xW (Jb (bH (rG rfl hz.o hz.f5) (bH rfl rfl jm) ixm) o1 (bU (bH rfl rfl jm) (bU (bH rfl (bH rfl rfl jm) (abg (kz i _ _ (by simp) hw) (CZ B.ss (λs=>enc (iW (i_ B s))) hr.1))) rfl)) o1 md) (Yi rfl rfl sk)))) (λ_ _ _=>by simp)
 rw[gq]at hh;have g:=Yh (st:=st) (o:=.dkc (aW (B.ls.map λc=>([c],bO B s c)))) (λp hp=>by
  unfold aW at hp;obtain⟨q,_,rfl⟩:=gh.mp hp;exact iV _ _)
 rw[<-zn]at g ⊢;exact fQ (dO (zq dc rfl) (LK (zrf (rG rfl (hk.mono (kz 0)).o hk.f1) ha) hh (vf rfl))) rfl g
end Law
set_option maxHeartbeats 0
namespace Law
open L2 M Tr
def aav(kvs:List (Key×D))(n:Nat)(i:Int)(d:D)(st:ak)(h:st[n]? = some (.dkc kvs))(hl:kvs.length<=10000)(hs:∀p∈kvs,p.1≠.inl i):lN (.loc n) (.int i) d st=.ok () (st.set n (.dkc (kvs++[(.inl i,d)]))):=by
 unfold lN;simp only[h,zn3];rw[aeT (by omega)];congr 3;unfold putN;rw[aeU];simp only[ph,ae2,not_exists,not_and];exact hs
def Gu{n:Nat}{o:MO}{st:ak}(h:st[n]? = some o):ue [(n,o)] st:=by simp[ue,h]
def zm7(ss:List Nat)(n:Nat)(st:ak)(m:ME)(env:aM)(hm:m env st=.ok (.loc n) st)(h:st[n]? = some (.lst (ss.map λs=>D.int (s:Nat)))) :
  yH (aj m au) env st=.ok (dJ 0 (ss.map λs=>D.int (s:Nat)),[(n,.lst (ss.map λs=>D.int (s:Nat)))]) st:=by
 generalize (ss.map λs=>D.int (s:Nat))=X at *;simp[hm,sy,h]
def Rr(st:ak)(A B:MO)(ds:List D)(G:ak)(d:D)(h:ds.length<1000):aV (.loc (st.length+2)) [d] (st++A::B::.lst ds::G)=.ok .non (st++A::B::.lst (ds++[d])::G):=by
 have e:(st++A::B::.lst ds::G)[st.length+2]? = some (.lst ds):=zm6 (k:=2) rfl;have e2:(st++A::B::.lst ds::G).set (st.length+2) (.lst (ds++[d]))=st++A::B::.lst (ds++[d])::G:=by
  rw[nQ,aeU (by omega),show st.length+2 - st.length=2 by omega];rfl
 unfold aV;dsimp only;rw[e];dsimp only;rw[aeT (by omega),e2]
def zp5(B:Bk)(hB:LC B)(b:Nat)(fs:List (PySem.Str×D))(ns nk nt nm ml mr:Nat)(st:ak)(hb:Bs st)(hk:RC st b B fs ns nk nt nm ml mr) :
  zea [.loc b] st=.ok (.loc st.length) (st++[.lst ((B.ss.map (iz B)).map enc)]):=by
 have hss:=hB.ss;have Er:=hB.few;have ha:=xr hB.v9
 let EN:MO:=.dkc (aW (B.ls.map λc=>([c],jw (dN B c))))
 let WY:MO:=.dkc (aac B)
 let PL:D:=enc (bK (cJ B.ls) dM)
 unfold zea bA bx zit;generalize hB1:(jC (az zcd _ _) _:MS)=B1;generalize hB2:(jC (az zdx _ _) _:MS)=B2;generalize hB3:(eF _:MS)=B3
 let E:Option D->Option D->Option D->Option D->Option D->aM:=λa4 a5 a6 a7 a8=>[some (.loc b),some (.int (B.ss.length:Nat)),some PL,some (.loc st.length),a4,a5,a6,a7,a8]

 let Z:Nat->ak:=λi=>st++[.dkc (aW ((B.ls.take i).map λc=>([c],jw (dN B c))))]
 have hz:=λi=>hk.mono (Keeps.app st [.dkc (aW ((B.ls.take i).map λc=>([c],jw (dN B c))))]);obtain⟨bY,st',h1,a4,rfl,rfl⟩:=yV (g:=aO 4) (b:=B1) (gs:=[]) (items:=B.ls.map λc=>D.str [c]) (λi env s=>∃(a4:Option D),env=E a4 none none none none/\s=Z i)
  (env:=E none none none none none) (st:=Z 0) ⟨none,rfl,rfl⟩ (by
   rintro i d env s hi ⟨a4,rfl,rfl⟩;obtain⟨c,hc,rfl⟩:=Gr hi;have sk:=znr ((B.ls.take i).map λc=>([c],jw (dN B c))) st.length [c] (jw (dN B c)) (Z i) (by simp[Z]) (by simp;omega) (λp hp=>by
    obtain⟨x,hx,rfl⟩:=gh.mp hp;intro e;exact zm3 hB.ok.nl hc hx (by simpa using e))
   have es:(Z i).set st.length (.dkc (aW (((B.ls.take i).map λc=>([c],jw (dN B c)))++[([c],jw (dN B c))])))=Z (i+1):=by
    show (st++_).set _ _=st++_;rw[RP _ _ _ _ rfl,kO,hc];simp
   rw[es]at sk;refine⟨by simp,E (some (.str [c])) none none none none,Z i,rfl,_,Z (i+1),.inl ?_,some (.str [c]),rfl,rfl⟩;rw[<-hB1];exact xW (dF (zo3 (dN B c) (Z i) (hb.app (by simp))) (bU (bH (rG rfl (hz i).o hk.f4) rfl (Yc (vM B.ls) nt [c] _ (Z i) (.inr (hz i).t) (Yl (gW hc)))) rfl)) (Yi rfl rfl sk)) (λ_ _ _=>by simp)
 rw[gq]at h1;rw[show Z B.ls.length=st++[EN] by show st++_=_;rw[my]]at h1

 have J_:Bs (st++[EN]):=hb.app (by simp[EN]);have Gk:=hk.mono (Keeps.app st [EN]);have l1:(st++[EN]).length=st.length+1:=by simp
 let wy:Nat->Key×D:=λ(s:Nat)=>(Sum.inl (s:Int),enc (iW (i_ B s)))
 let Y:Nat->ak:=λi=>st++[EN]++[.dkc ((B.ss.take i).map wy)]
 have hy:=λi=>Gk.mono (Keeps.app (st++[EN]) [.dkc ((B.ss.take i).map wy)]);obtain⟨bY,st',h2,a6,a7,rfl,rfl⟩:=yV (g:=ux 2 (eG (aO 6) (eG (aO 7) vY))) (b:=B2) (gs:=[(ns,.lst (B.ss.map λs=>D.int (s:Nat)))]) (items:=dJ 0 (B.ss.map λs=>D.int (s:Nat))) (λi env s=>∃(a6 a7:Option D),env=E a4 (some (.loc (st++[EN]).length)) a6 a7 none/\s=Y i)
  (env:=E a4 (some (.loc (st++[EN]).length)) none none none) (st:=Y 0) ⟨none,none,rfl,rfl⟩ (by
   rintro i d env s' hi ⟨a6,a7,rfl,rfl⟩;obtain⟨y,WL,rfl⟩:=zjx hi;obtain⟨s,hs,rfl⟩:=Gr WL;have Gm:=(gf.mp hs).1;have wt:=CW i B.ss.length (Y i) (J_.app (by simp)) Gm (by omega);rw[show bC 13 i B.ss.length=i_ B s by unfold i_;rw[ZZ hB.ok.ns hs]]at wt;have sk:=aav ((B.ss.take i).map wy) (st++[EN]).length (s:Nat) (enc (iW (i_ B s))) (Y i) (by simp[Y]) (by simp;omega) (λp hp=>by
    obtain⟨x,hx,rfl⟩:=gh.mp hp;intro e;have:=Sum.inl.inj e;exact zm3 hB.ok.ns hs hx (by omega))
   rw[show (Y i).set (st++[EN]).length (.dkc ((B.ss.take i).map wy++[(.inl (s:Nat),enc (iW (i_ B s)))]))=Y (i+1) by
    show (st++[EN]++_).set _ _=st++[EN]++_;rw[RP _ _ _ _ rfl,kO,hs];simp[wy]]at sk
   refine⟨Gu (hy i).s,E a4 (some (.loc (st++[EN]).length)) (some (.int i)) (some (.int s)) none,Y i,rfl,_,Y (i+1),.inl ?_,some (.int i),some (.int s),rfl,rfl⟩;rw[<-hB2];exact xW (dF wt rfl) (Yi rfl rfl sk)) (λ_ _ h=>by obtain⟨_,_,_,rfl⟩:=h;exact Gu (hy _).s)
 rw[Yu,gq]at h2;rw[show Y B.ss.length=st++[EN]++[WY] by show st++[EN]++_=_;rw[my];rfl]at h2

 let E5:Option D->Option D->aM:=λa6 a7=>E a4 (some (.loc (st++[EN]).length)) a6 a7 (some (.loc (st++[EN]++[WY]).length))
 let S:Nat->ak->ak:=λi G=>st++EN::WY::.lst (((B.ss.take i).map (iz B)).map enc)::G
 have hS:=λi G=>hk.mono (Keeps.app st (EN::WY::.lst (((B.ss.take i).map (iz B)).map enc)::G));have l2:(st++[EN]++[WY]).length=st.length+2:=by simp
 obtain⟨bY,st',h3,a6',a7',G,hG,rfl,rfl⟩:=yV (g:=ux 2 (eG (aO 6) (eG (aO 7) vY))) (b:=B3) (gs:=[(ns,.lst (B.ss.map λs=>D.int (s:Nat)))]) (items:=dJ 0 (B.ss.map λs=>D.int (s:Nat))) (λi env s=>∃(a6 a7:Option D) (G:ak),aY G/\env=E5 a6 a7/\s=S i G)
  (env:=E5 a6 a7) (st:=S 0 []) ⟨a6,a7,[],by simp,rfl,rfl⟩ (by
   rintro i d env s' hi ⟨a6,a7,G,hG,rfl,rfl⟩;obtain⟨y,WL,rfl⟩:=zjx hi;obtain⟨s,hs,rfl⟩:=Gr WL;have Gm:=(gf.mp hs).1;have bz:Bs (S i G):=hb.app (by simp[EN,WY,hG]);have pk:=znk i B.ss.length (S i G) bz.t1 bz.c Gm (by omega);rw[show bV i B.ss.length=xg B s by unfold xg;rw[ZZ hB.ok.ns hs]]at pk
   let DK:ak:=[.dkc (aW (B.ls.map λc=>([c],bO B s c)))]
   have ro:=Du B.ls hB.ok.nl hB.v9 hB.few (bK (cJ B.ls) dM) (xg B s) (bO B s) (S i G).length (S i G++DK) (bz.app (by simp[DK])) (by simp[DK]) (by rw[(U5 B.ls hB.few).2.2];omega);rw[RP _ _ _ _ rfl]at ro
   let G':ak:=G++[.dkf (aW (B.ls.map λc=>([c],bO B s c)))]++[.dkc (aW (([110],xg B s)::B.ls.map λc=>(dn c,bO B s c)))]
   rw[show S i G++[.dkf (aW (B.ls.map λc=>([c],bO B s c)))]++[.dkc (aW (([110],xg B s)::B.ls.map λc=>(dn c,bO B s c)))]=S i G' by
    show st++EN::WY::_::G++_++_=st++EN::WY::_::G';simp only[G',gY,nW]]at ro
   have ap:=Rr st EN WY (((B.ss.take i).map (iz B)).map enc) G' (enc (iz B s)) (by simp;omega);rw[show st++EN::WY::.lst (((B.ss.take i).map (iz B)).map enc++[enc (iz B s)])::G'=S (i+1) G' by
    show _=st++EN::WY::.lst (((B.ss.take (i+1)).map (iz B)).map enc)::G';rw[kO,hs];simp,<-l2]at ap
   refine⟨Gu (hS i G).s,E5 (some (.int i)) (some (.int s)),S i G,rfl,_,S (i+1) G',.inl ?_,some (.int i),some (.int s),G',by simp[G',hG],rfl,rfl⟩;rw[<-hB3];exact zrv (Ma rfl (by simp[cM,S]) (bU (dF ro (bU rfl (bU (dF pk rfl) (bU (dF (zpa B hB b fs ns nk nt nm ml mr s st.length _ (S i G) bz (hS i G) (zm6 (k:=0) rfl) (zm6 (k:=1) rfl l1)) rfl) rfl)))) rfl) ap)) (λ_ _ h=>by obtain⟨_,_,G,_,_,rfl⟩:=h;exact Gu (hS _ G).s)
 rw[Yu,gq]at h3;have ln:=LR (st:=st) (n:=ns) (ds:=B.ss.map λs=>D.int (s:Nat)) (by unfold aA;rw[hk.s]);rw[gq]at ln;have g:=z7 (st:=st) (g:=[EN,WY]) (g':=G) (o:=.lst ((B.ss.map (iz B)).map enc)) (by
  show bQ _ _;generalize B.ss.map (iz B)=ts
  induction ts with
  | nil=>simp
  | cons t ts ih=>simp[ih,iV])
 have eS:S B.ss.length G=st++[EN,WY]++.lst ((B.ss.map (iz B)).map enc)::G:=by
  show st++EN::WY::.lst (((B.ss.take B.ss.length).map (iz B)).map enc)::G=_;rw[my];simp
 rw[<-eS,show st.length+[EN,WY].length=(st++[EN]++[WY]).length from l2.symm]at g;have e3:st++[EN]++[WY]++[.lst []]=S 0 []:=by show _=st++EN::WY::.lst []::[];simp
 exact fQ (dO (zq ln (bU (rG rfl hk.o hk.f2) rfl)) (dO (dF (zpd B.ls st hb hB.v9 hB.few) (bU (rG rfl hk.o hk.f1) rfl)) (dO rfl (LK (zrf (rG rfl (hz 0).o hk.f1) ha) h1 (dO rfl
  (LK (zm7 B.ss ns (Y 0) _ _ (rG rfl (hy 0).o hk.f2) (hy 0).s) h2 (dO (st1:=S 0 []) (by rw[<-e3];rfl) (LK (zm7 B.ss ns (S 0 []) _ _ (rG rfl (hS _ _).o hk.f2) (hS _ _).s) h3 (vf rfl))))))))) rfl g
end Law
set_option maxHeartbeats 0
namespace Law
open L2 M Tr
def Keeps.trans{a b c:ak}{ex:List Nat}(h:Keeps a b ex)(k:Keeps b c ex):Keeps a c ex:=λj o hj ho=>k j o hj (h j o hj ho)
def Keeps.more{a b:ak}{ex:List Nat}(h:Keeps a b []):Keeps a b ex:=λj o _ ho=>h j o (by simp) ho
def Keeps.set(a:ak)(n:Nat)(o:MO):Keeps a (a.set n o) [n]:=λj x hj hx=>by
 rw[gR (λe=>hj (by simp[e]))];exact hx
def Keeps.refl(a:ak)(ex:List Nat):Keeps a a ex:=λ_ _ _ h=>h
def qY{c:PySem.Str}{X X1:ak}{sf:Nat}{fs:List (PySem.Str×D)}(wH:List (PySem.Str×D))(h:X1[sf]? = some (.ins c fs))(k:Keeps X X1 [sf])(hc:aY X1) :
  ∃X2,X1.set sf (.ins c wH)=X2/\X2[sf]? = some (.ins c wH)/\Keeps X X2 [sf]/\Keeps X1 X2 [sf]/\X2.length=X1.length/\aY X2 :=
 ⟨_,rfl,k_ (gf.mp h).1,k.trans (Keeps.set _ _ _),Keeps.set _ _ _,nA,RQ hc rfl⟩
def Bf{c:PySem.Str}{F:FD}{mA:MA}{env:aM}{X X1:ak}{as:List D}(ha:mA env X=.ok as X)(hf:F (.loc X.length::as) (X++[.ins c []])=.ok .non X1):jK c F mA env X=.ok (.loc X.length) X1:=by
 unfold jK;rw[ha,R.aB,hf];rfl
def dm.keeps{st st':ak}{n p:Nat}{m:Bool}{ls:List Nat}{o:MO}(h:dm st n m ls)(k:Keeps st st' [p])(ho:st[p]? = some o)(hb:95∈ls)(h1:∀fs,o≠.ins "Move" fs)(h2:∀W,o=.dkc W->W=[]):dm st' n m ls:=by
 obtain⟨w,W,q1,q2,q3⟩:=h;have kk:∀j x,st[j]? = some x->x≠o->st'[j]? = some x:=λj x hj hx=>k _ _ (λhm=>by obtain rfl:=g_.mp hm;rw[ho]at hj;cases hj;exact hx rfl) hj;refine⟨w,W,kk _ _ q1 (λe=>h1 _ e.symm),kk _ _ q2 (λe=>?_),λc hc=>?_⟩
 ·obtain⟨q,z,_⟩:=q3 95 hb;rw[h2 _ e.symm]at z;cases z
 ·obtain⟨q,z1,z2⟩:=q3 c hc;exact⟨q,z1,kk _ _ z2 (λe=>by have:=h2 _ e.symm;simp[aW]at this)⟩
def dm.book{st st':ak}{n sf:Nat}{m:Bool}{ls:List Nat}{fs:List (PySem.Str×D)}(h:dm st n m ls)(k:Keeps st st' [sf])(ho:st[sf]? = some (.ins "Book" fs))(hb:95∈ls):dm st' n m ls :=
 h.keeps k ho hb (λ_ e=>by injection e with e _;exact absurd e (by decide +kernel)) (λ_ e=>by cases e)
def Ja(B:Bk)(hB:LC B)(nt:Nat)(fe:ME)(env:aM)(X:ak)(hb:Bs X)(hfe:∀Z,Keeps X Z [nt]->fe env Z=.ok (.loc nt) Z)(ht:X[nt]? = some (.dkc (aW (vM B.ls)))) :
  ∃X1 ml mr,fV (cG (ct (.str [108])) (jK "Move" Uh (aj (ct (.str [108])) (aj fe au))) (cG (ct (.str [114])) (jK "Move" Uh (aj (ct (.str [114])) (aj fe au))) iH)) env X=.ok (.loc X.length) X1 /\
   Keeps X X1 [nt]/\X1[nt]? = some (.dkf (aW (vM B.ls)))/\X1[X.length]? = some (.dkc [(.inr (strOf [108]),.loc ml),(.inr (strOf [114]),.loc mr)])/\dm X1 ml true B.ls/\dm X1 mr false B.ls/\aY X1/\X.length<X1.length:=by
 have hnt:=(gf.mp ht).1
 let Y0:ak:=X++[.dkc []]
 have y0l:Y0.length=X.length+1:=by simp[Y0]
 have b0:Bs (Y0++[.ins "Move" []]):=(hb.app (by simp)).app (by simp;rfl);obtain⟨Y1,i1,k1,t1,m1,c1,l1⟩:=zhx true B.ls hB.ok.nl hB.v9 hB.few hB.ok.bl Y0.length nt (Y0++[.ins "Move" []]) b0 (by simp) (.inl (dG (dG ht)));have kX1:Keeps X Y1 [nt]:=λj o hj h=>k1 j o (by
  have:=(gf.mp h).1;simp only[gj,kj,afc,not_or]at hj ⊢;exact⟨by omega,hj⟩) (dG (dG h))
 have e1:=Bf (c:="Move") (mA:=aj (ct (.str [108])) (aj fe au)) (env:=env) (bU rfl (bU (hfe Y0 (Keeps.app X _).more) rfl)) i1;have p0:Y1[X.length]? = some (.dkc []):=k1 _ _ (by
  simp only[gj,kj,afc,not_or];exact⟨by omega,by omega⟩) (dG (by simp[Y0]))
 have y1l:X.length+1<Y1.length:=by
  have:(Y0++[.ins "Move" []]:ak).length=X.length+2:=(by simp[Y0]);omega
 have n1:nt≠1:=λe=>by rw[e,hb.t1]at ht;cases ht
 have n2:nt≠2:=λe=>by rw[e,hb.t2]at ht;cases ht
 have bY1:Bs Y1:=⟨kX1 _ _ (by simpa using ae4 n1) hb.t1,kX1 _ _ (by simpa using ae4 n2) hb.t2,c1⟩;obtain⟨Y2,i2,k2,t2,m2,c2,l2⟩:=zhx false B.ls hB.ok.nl hB.v9 hB.few hB.ok.bl Y1.length nt (Y1++[.ins "Move" []]) (bY1.app (by simp;rfl)) (by simp) (.inr (dG t1));have e2:=Bf (c:="Move") (mA:=aj (ct (.str [114])) (aj fe au)) (env:=env) (bU rfl (bU (hfe Y1 kX1) rfl)) i2;have k12:Keeps Y1 Y2 []:=λj o _ h=>by
  by_cases e:j=nt
  ·subst e;rw[t1]at h;cases h;exact t2
  ·refine k2 j o ?_ (dG h);have:=(gf.mp h).1;simp only[gj,kj,afc,not_or];exact⟨by omega,e⟩
 have p1:Y2[X.length]? = some (.dkc []):=k12 _ _ (by simp) p0;have Qw:=(gf.mp p1).1
 let KV:MO:=.dkc [(.inr (strOf [108]),.loc Y0.length),(.inr (strOf [114]),.loc Y1.length)]
 have ks:=Keeps.set Y2 X.length KV;refine⟨Y2.set X.length KV,Y0.length,Y1.length,?_,?_,?_,k_ Qw,?_,?_,RQ c2 rfl,by rw[nA];exact Qw⟩
 ·have QC:¬ strOf [108]=strOf [114]:=λe=>by have:=L_.mp e;simp at this
  unfold fV;change ((cG _ _ _:RB) env Y0).bind _=_;rw[zqu,N6,R.aB,e1,R.aB,zqu,N6,R.aB,e2];simp only[N5,R.aB];rw[show uN [(D.str [108],D.loc Y0.length),(D.str [114],D.loc Y1.length)]=some [(.inr (strOf [108]),.loc Y0.length),(.inr (strOf [114]),.loc Y1.length)] from rfl,p1];simp[jV,putN,QC,KV]
 ·exact λj o hj h=>by
   have:=(gf.mp h).1;rw[gR (by omega)];exact k12 _ _ (by simp) (kX1 j o hj h)
 ·rw[gR (by omega)];exact t2
 ·exact m1.keeps (k12.more.trans ks) p0 hB.ok.bl (λ_=>by simp) (λW e=>by cases e;rfl)
 ·exact m2.keeps ks p1 hB.ok.bl (λ_=>by simp) (λW e=>by cases e;rfl)
theorem zql:∀{t u:Tr},enc t=enc u->t=u
 | .lf s,.lf t,h=>by
  rw[enc,enc]at h;injection h with h;rw[h]
 | .lf s,.jn l r,h=>by rw[enc,enc]at h;cases h
 | .jn l r,.lf s,h=>by rw[enc,enc]at h;cases h
 | .jn l r,.jn l' r',h=>by
  rw[enc,enc]at h;injection h with h;injection h with h1 h2;injection h2 with h2 h3;rw[zql h1,zql h2]
open Classical in
def yu(f:Tr->Tr):D->D:=λd=>if h:∃t,enc t=d then enc (f h.choose) else d
def zjq(f:Tr->Tr)(t:Tr):yu f (enc t)=enc (f t):=by
 have hx:∃u,enc u=enc t:=⟨t,rfl⟩;unfold yu;rw[dif_pos hx,zql hx.choose_spec]
def zns(f:Tr->Tr)(ts:List Tr):(ts.map enc).map (yu f)=(ts.map f).map enc:=by
 rw[gO,gO];exact kJ λt _=>zjq f t
structure oE(st:ak)(b:Nat)(B:Bk):Prop where
 ex:∃fs ns nk nt nm ml mr nr Gh,RC st b B fs ns nk nt nm ml mr/\fs.lookup ("state_trees":PySem.Str)=some (D.loc Gh)/\st[Gh]? = some (.lst ((B.ss.map (yZ B)).map enc)) /\
  fs.lookup ("rules":PySem.Str)=some (D.loc nr)/\st[nr]? = some (.lst (B.rs.map dh))/\fs.lookup ("signs":PySem.Str)=some (D.str B.ls.tail)
def oE.mono{st st':ak}{b:Nat}{B:Bk}(h:oE st b B)(k:Keeps st st' []):oE st' b B:=by
 obtain⟨fs,ns,nk,nt,nm,ml,mr,nr,Gh,h1,h2,h3,h4,h5,h6⟩:=h.ex;exact⟨fs,ns,nk,nt,nm,ml,mr,nr,Gh,h1.mono k,h2,k _ _ (by simp) h3,h4,k _ _ (by simp) h5,h6⟩
def zjk{st:ak}{n:Nat}{ds:List D}(h:st[n]? = some (.lst ds)):oW [.loc n] st=.ok (.loc st.length) (st++[.lst ds]):=by
 have:aA st n=some ds:=by unfold aA;rw[h]
 unfold oW;simp only[this]
def zm1(B:Bk)(hB:LC B)(signs:List Nat)(hs:B.ls=95::signs)(sf nr YZ:Nat)(st:ak)(hb:Bs st)(h1:st[sf]? = some (.ins "Book" []))(h2:st[nr]? = some (.lst (B.rs.map dh)))(h3:st[YZ]? = some (.lst (B.ss.map λs=>D.int (s:Nat)))) :
  ∃st',zdr [.loc sf,.loc nr,.str signs,.loc YZ] st=.ok .non st'/\Keeps st st' [sf]/\oE st' sf B/\aY st':=by
 have Qx:=(gf.mp h1).1;have W8:nr≠sf:=λe=>by subst e;rw[h1]at h2;cases h2
 have Eo:YZ≠sf:=λe=>by subst e;rw[h1]at h3;cases h3
 have n1:(1:Nat)∉[sf]:=by simp;exact λe=>by rw[<-e,hb.t1]at h1;cases h1
 have n2:(2:Nat)∉[sf]:=by simp;exact λe=>by rw[<-e,hb.t2]at h1;cases h1
 have big:∀j,st.length<=j->j∉[sf]:=λj hj=>by simp;omega
 let r1:PySem.Str×D:=("rules",.loc st.length)
 let r2:PySem.Str×D:=("signs",.str signs)
 let r4:PySem.Str×D:=("letters",.str B.ls)
 let r8:PySem.Str×D:=("start_cost",.int (qM B.ls:Nat))
 obtain⟨X1,u1,o1,k1,q1,l1,c1⟩:=qY [r1] (dG h1) (Keeps.app st [.lst (B.rs.map dh)]).more (by simp[hb.c]);have x1:X1[st.length]? = some (.lst (B.rs.map dh)):=q1 _ _ (big _ (gb _)) (by simp);obtain⟨X2,u2,o2,k2,q2,l2,c2⟩:=qY [r1,r2] o1 (Keeps.refl _ _) c1;have h3':=k2 _ _ (by simpa using Eo) (k1 _ _ (by simpa using Eo) h3)
 let r3:PySem.Str×D:=("states",.loc X2.length)
 have m2:X2.length=st.length+1:=by rw[l2,l1];simp
 obtain⟨X3,u3,o3,k3,q3,l3,c3⟩:=qY [r1,r2,r3] (dG o2) (Keeps.app X2 [.lst (B.ss.map λs=>D.int (s:Nat))]).more (by simp[c2]);have x3:X3[X2.length]? = some (.lst (B.ss.map λs=>D.int (s:Nat))):=q3 _ _ (big _ (by omega)) (by simp);obtain⟨X4,u4,o4,k4,q4,l4,c4⟩:=qY [r1,r2,r3,r4] o3 (Keeps.refl _ _) c3;have kk4:Keeps st X4 [sf]:=((k1.trans k2).trans k3).trans k4;have h2':=kk4 _ _ (by simpa using W8) h2
 let r5:PySem.Str×D:=("by_key",.loc X4.length)
 have m4:X4.length=st.length+2:=by rw[l4,l3];simp[m2]
 obtain⟨X5,u5,o5,k5,q5,l5,c5⟩:=qY [r1,r2,r3,r4,r5] (dG o4) (Keeps.app X4 [.dic (tab [] (B.rs.map d7))]).more (by simp[c4]);have x5:X5[X4.length]? = some (.dic (tab [] (B.rs.map d7))):=q5 _ _ (big _ (by omega)) (by simp);have kk5:Keeps st X5 [sf]:=kk4.trans k5
 let r6:PySem.Str×D:=("sign_trees",.loc X5.length)
 have m5:X5.length=st.length+3:=by rw[l5];simp[m4]
 obtain⟨X6,u6,o6,k6,q6,l6,c6⟩:=qY [r1,r2,r3,r4,r5,r6] (dG o5) (Keeps.app X5 [.dkc (aW (vM B.ls))]).more (by simp[c5]);have x6:X6[X5.length]? = some (.dkc (aW (vM B.ls))):=q6 _ _ (big _ (by omega)) (by simp);have kk6:Keeps st X6 [sf]:=kk5.trans k6;have m6:X6.length=st.length+4:=by rw[l6];simp[m5]

 obtain⟨Y,ml,mr,hY,kY,tY,pY,mlY,mrY,cY,lY⟩:=Ja B hB X5.length (cV "Book" "sign_trees" (vr 0)) [some (.loc sf),some (.loc nr),some (.str signs),some (.loc YZ),none,none] X6 (hb.keeps kk6 n1 n2 c6) (λZ kZ=>rG rfl (kZ _ _ (by simp;omega) o6) rfl) x6;have oY:=kY sf _ (by simp;omega) o6
 let r7:PySem.Str×D:=("moves",.loc X6.length)
 obtain⟨X7,u7,o7,k7,q7,l7,c7⟩:=qY [r1,r2,r3,r4,r5,r6,r7] oY (Keeps.refl _ _) cY;have kk7:Keeps st X7 [sf]:=λj o hj h=>q7 _ _ hj (kY _ _ (by
  have:=(gf.mp h).1;simp;omega) (kk6 _ _ hj h))
 have b7:Bs X7:=hb.keeps kk7 n1 n2 c7;obtain⟨X8,u8,o8,k8,q8,l8,c8⟩:=qY [r1,r2,r3,r4,r5,r6,r7,r8] o7 (Keeps.refl _ _) c7;have k68:∀j o,st.length<=j->j≠X5.length->X6[j]? = some o->X8[j]? = some o:=λj o hj hn h=>k8 _ _ (big j hj) (q7 _ _ (big j hj) (kY _ _ (by simp;exact hn) h));have x8s:=k68 _ _ (by omega) (by omega) (k6 _ _ (big _ (by omega)) (k5 _ _ (big _ (by omega)) (k4 _ _ (big _ (by omega)) x3)));have x8k:=k68 _ _ (by omega) (by omega) (k6 _ _ (big _ (by omega)) x5);have x8r:=k68 _ _ (gb _) (by omega) (k6 _ _ (big _ (by omega)) (k5 _ _ (big _ (by omega)) (k4 _ _ (big _ (by omega)) (k3 _ _ (big _ (by omega)) (k2 _ _ (big _ (by omega)) x1)))));have b8:Bs X8:=hb.keeps (kk7.trans k8) n1 n2 c8;have Zx:=hB.ok.bl;have k0:∀(r:List (PySem.Str×D)) (Z:ak),Z[sf]? = some (.ins "Book" (r1::r2::r3::r4::r5::r6::r7::r8::r))->Keeps X8 Z [sf]->RC Z sf B (r1::r2::r3::r4::r5::r6::r7::r8::r) X2.length X4.length X5.length X6.length ml mr:=λfs Z hZ kZ =>
  ⟨hZ,rfl,rfl,rfl,rfl,rfl,rfl,kZ _ _ (big _ (by omega)) x8s,kZ _ _ (big _ (by omega)) x8k,kZ _ _ (big _ (by omega)) (k8 _ _ (big _ (by omega)) (q7 _ _ (big _ (by omega)) tY)),kZ _ _ (big _ (by omega)) (k8 _ _ (big _ (by omega)) (q7 _ _ (big _ (by omega)) pY)),
   ((mlY.book q7 oY Zx).book k8 o7 Zx).book kZ o8 Zx,((mrY.book q7 oY Zx).book k8 o7 Zx).book kZ o8 Zx⟩
 have ro:=zp5 B hB sf _ _ _ _ _ _ _ X8 b8 (k0 [] X8 o8 (Keeps.refl _ _))
 let RW:List Tr:=B.ss.map (iz B)
 let X9:ak:=X8++[.lst (RW.map enc)]
 have b9:Bs X9:=b8.app (by simp);have vR:∀t∈RW,val t=true:=λt ht=>by
  obtain⟨x,_,rfl⟩:=gh.mp ht;exact zma x
 have g9:∀g:ak,(X9++g)[X8.length]? = some (.lst (RW.map enc)):=λg=>dG (by simp[X9]);have aax:∀(e:aM) (g:ak),e[4]? = some (some (.loc X8.length))->jr (vr 4) e (X9++g)=.ok (RW.map enc,[(X8.length,.lst (RW.map enc))]) (X9++g):=λe g he=>by
  rw[wX,vN,he];simp only[R.aB,g9]
 have rl:RW.length=B.ss.length:=by simp[RW]
 have hss:=hB.ss;have to:=zo7 (RW.map jN) X9.length (X9++[.lst ((RW.map jN).map enc)]) (by rw[gq,rl];exact hB.s0) (by rw[gq,rl];exact hss) (by simp[aA]) (λe he=>by
  obtain⟨t,ht,rfl⟩:=gh.mp he;exact zmn (vR t ht))
 let Ry:ak:=X9++[.lst ((RW.map jN).map enc)]
 have est:(RW.map (λt=>hold [t,lz B])).map enc=(B.ss.map (yZ B)).map enc:=by
  show ((B.ss.map (iz B)).map _).map _=_;rw[gO (l:=B.ss)];rfl
 have c10:aY (Ry++[.lst ((B.ss.map (yZ B)).map enc)]):=by
  have:=b9.c;simp[Ry,this]
 obtain⟨X11,u11,o11,k11,q11,l11,c11⟩:=qY [r1,r2,r3,r4,r5,r6,r7,r8,("state_trees",.loc Ry.length)] (dG (dG (dG o8))) (Keeps.app Ry [.lst ((B.ss.map (yZ B)).map enc)]).more c10;have k8b:Keeps X8 X11 [sf]:=((Keeps.app X8 _).trans (Keeps.app X9 _)).more.trans k11;have x10:st.length<=Ry.length:=by simp[Ry,X9,l8,l7];omega
 have J8:=xM (st:=st) (st':=X11) (d:=.non) Qx (by rw[o11,h1];simp);refine⟨X11,?_,(kk7.trans k8).trans k8b,⟨_,_,_,_,_,_,_,st.length,Ry.length,k0 [_] X11 o11 k8b,rfl,q11 _ _ (big _ x10) (zm6 (k:=0) rfl),rfl,k8b _ _ (big _ (gb _)) x8r,by rw[hs];rfl⟩,c11⟩;refine Tg (Gq (zq (zjk h2) rfl) rfl (dG h1) u1 (Gq rfl rfl o1 u2 (Gq (zq (zjk h3') rfl) rfl (dG o2) u3
  (Gq (d:=.str B.ls) (bH rfl rfl ?_) rfl o3 u4
  (Gq (dF (GR (B.rs.map d7) nr X4 (by rw[zj6];exact h2') (by rw[gq];exact hB.rs)) rfl) rfl (dG o4) u5
  (Gq (dF (zka B.ls hB.ok.nl hB.v9 (by have:=hB.few;omega) X5 (hb.keeps kk5 n1 n2 c5)) (bU (rG rfl o5 rfl) rfl)) rfl (dG o5) u6
  (Gq hY rfl oY u7 (Gq (dF (zpe B.ls X7 b7 hB.v9 hB.few) (bU (rG rfl o7 rfl) rfl)) rfl o7 u8
  (dO (dF ro rfl) (dO (dF to (bU ?_ rfl)) (zjy (d:=.loc Ry.length) (st1:=Ry++[.lst ((B.ss.map (yZ B)).map enc)]) ?_ rfl (dG (dG (dG o8))) (by simp)))))))))))) rfl ?_
 ·have hf:=hB.few;rw[hs]at hf ⊢;have:1+signs.length<=1000000:=by simp at hf;omega
  exact add_str this
 ·rw[<-zns];exact T_ (yu jN) (λenv=>env.length=1) (by have:=aax [none,none,none,none,some (.loc X8.length)] [] rfl;rwa[gB]at this) rfl (by simp;omega) (λys=>Gu (g9 _)) (λd hd bY ys hP=>by
   obtain⟨t,ht,rfl⟩:=gh.mp hd;obtain⟨x,rfl⟩:=m7.mp hP;refine⟨[some (enc t)],rfl,rfl,?_⟩;rw[zjq];exact dF (zo2 t _ (b9.app (by simp))) rfl)
 ·rw[<-est,<-zns λt=>hold [t,lz B]];exact T_ (yu λt=>hold [t,lz B]) (λenv=>∃x,env=[some (enc (lz B)),x]) (aax _ _ rfl) ⟨_,rfl⟩ (by simp;omega) (λys=>Gu (dG (g9 _))) (λd hd bY ys hP=>by
   obtain⟨t,ht,rfl⟩:=gh.mp hd;obtain⟨x,rfl⟩:=hP;refine⟨[some (enc (lz B)),some (enc t)],⟨_,rfl⟩,rfl,?_⟩;rw[zjq];exact dF (zji t (lz B) _ (vR t ht) zh1) rfl)
 ·subst u11;exact J8
end Law
set_option maxHeartbeats 0
namespace Law
open L2 M Tr
theorem Jh:∀ts:List Tr,Mt ts=jh ts
 | []=>rfl
 | t::ts=>by rw[Mt,jh,Jh ts]
def jc(z:Sd):D:=.tup [.int z.s,.str z.a.reverse,.str [z.c],.str z.b]
def sgD(B:Bk):D->D
 | .str [c]=>enc (dN B c)
 | d=>d
def Nt(B:Bk)(cs:List Nat):(cs.map λc=>D.str [c]).map (sgD B)=(cs.map (dN B)).map enc:=by rw[gO,gO];rfl
def J3(ss:List Nat)(s:Nat)(h:s∈ss):(ss.map λ(s:Nat)=>(s:Int)).findIdx? (λz=>decide (z=(s:Int)))=some (bR ss s):=by
 rw[List.findIdx?_map];have e:((λz=>decide (z=(s:Int)))∘λ(s:Nat)=>(s:Int))=λz:Nat=>decide (z=s):=by
  funext z;rw[mz];simp only[Function.comp,ae2];omega
 rw[e,List.findIdx?_eq_some_of_exists ⟨s,h,by simp⟩]
 rfl
def Ek(ss:List Nat):intsOf (ss.map λs=>D.int (s:Nat))=some (ss.map λ(s:Nat)=>(s:Int)):=zfz ss
section
variable  {B:Bk}{b:Nat}{st:ak}
def zjj(hk:oE st b B){s:Nat}(hs:s∈B.ss):∃ns,(∀m env,m env st=.ok (.loc b) st->cV "Book" "states" m env st=.ok (.loc ns) st)/\cM "list" (.loc ns) st=true/\jX (.loc ns) [.int s] st=.ok (.int (bR B.ss s:Nat)) st/\dj [.loc ns] st=.ok (.int (B.ss.length:Nat)) st:=by
 obtain⟨fs,ns,nk,nt,nm,ml,mr,nr,Gh,h1,h2,h3,_⟩:=hk.ex;have it:aA st ns=some (B.ss.map λs=>D.int (s:Nat)):=by unfold aA;rw[h1.s]
 refine⟨ns,λm env hm=>rG hm h1.o h1.f2,by simp[cM,h1.s],?_,?_⟩
 ·unfold jX;simp only[it,Ek,J3 B.ss s hs]
 ·have:=LR it;rwa[gq]at this
def zls(hk:oE st b B){s:Nat}(hs:s∈B.ss):zdi [.loc b,.int s] st=.ok (enc (yZ B s)) st:=by
 obtain⟨ns,f1,ty,li,_⟩:=zjj hk hs;obtain⟨fs,_,nk,nt,nm,ml,mr,nr,Gh,h1,h2,h3,_⟩:=hk.ex;have ix:aN (.loc Gh) (.int (bR B.ss s:Nat)) st=.ok (enc (yZ B s)) st:=by
  refine yh _ _ _ ((B.ss.map (yZ B)).map enc) _ (by unfold aA;rw[h3]) ?_;have g:((B.ss.map (yZ B)).map enc)[bR B.ss s]? = some (enc (yZ B s)):=by rw[gP,gP,Yo hs];rfl
  exact Rp g
 exact fQ (vf (bH (rG rfl h1.o h2) (Ma (f1 _ _ rfl) ty rfl li) ix)) rfl (eY (iV _ _))
def zkg(hB:LC B)(hb:Bs st)(hk:oE st b B)(mi:MI)(env:aM)(cs:List Nat)(h0:env[0]? = some (some (.loc b)))(hi:mi env st=.ok (cs.map λc=>D.str [c],[]) st)(hc:∀c∈cs,c∈B.ls)(hl:cs.length<=1000) :
  cR [some 0,none] mi (aO 1) rH (aF vm (cV "Book" "sign_trees" (vr 0)) (vr 1)) env st=.ok (.loc st.length) (st++[.lst ((cs.map (dN B)).map enc)]):=by
 obtain⟨fs,ns,nk,nt,nm,ml,mr,nr,Gh,h1,_⟩:=hk.ex;rw[<-Nt];exact T_ (sgD B) (λenv=>∃x,env=[some (.loc b),x]) hi ⟨none,by simp[j9,h0]⟩ (by simp;omega) (λys=>by simp) (λd hd bY ys hP=>by
  obtain⟨c,Zw,rfl⟩:=gh.mp hd;obtain⟨x,rfl⟩:=hP;have hz:=h1.mono (Keeps.app st [.lst ys]);exact⟨[some (.loc b),some (.str [c])],⟨_,rfl⟩,rfl,bH (rG rfl hz.o hz.f4) rfl (Yc (vM B.ls) nt [c] (dN B c) _ (.inr hz.t) (Yl (hc c Zw)))⟩)
def znc(cs:List Nat)(st:ak)(n:Nat)(h:st[n]? = some (.lst ((cs.map (dN B)).map enc))):Yz [.loc n] st=.ok (enc (oH B cs)) st:=by
 have:=zps (cs.map (dN B)) n st h (λt ht=>by
  obtain⟨c,_,rfl⟩:=gh.mp ht;exact zm c)
 rw[<-Jh]at this;exact this
def zrd(hB:LC B)(hb:Bs st)(hk:oE st b B)(z:Sd)(hz:FP B z)(ha:z.a.length<=1000)(oM:z.b.length<=1000):zdh [.loc b,jc z] st=.ok (.tup [enc (oH B z.a),enc (dN B z.c),enc (oH B z.b)]) st:=by
 obtain⟨fs,ns,nk,nt,nm,ml,mr,nr,Gh,h1,_⟩:=hk.ex
 let Z1:ak:=st++[.lst ((z.a.map (dN B)).map enc)]
 have Gk:=hk.mono (Keeps.app st [.lst ((z.a.map (dN B)).map enc)]);have J_:Bs Z1:=hb.app (by simp);have al:z.b.all (λc=>decide (c<128))=true:=xr λx hx=>hB.v9 x (hz.b x hx);have W_:=h1.mono ((Keeps.app st _).trans (Keeps.app Z1 [.lst ((z.b.map (dN B)).map enc)]));refine fQ (dO (dF (znc (B:=B) z.a Z1 st.length (by simp[Z1])) (bU (zkg hB hb hk _ _ z.a rfl (Hg (bH rfl rfl jm) (by omega)) hz.a ha) rfl)) (dO (dF (znc (B:=B) z.b (Z1++[.lst ((z.b.map (dN B)).map enc)]) Z1.length (by simp)) (bU (zkg hB J_ Gk _ _ z.b rfl (zrf (bH rfl rfl jm) al) hz.b oM) rfl)) (vf (CK (bU rfl (bU (bH (rG rfl W_.o W_.f4) (bH rfl rfl jm) (Yc (vM B.ls) nt [z.c] (dN B z.c) _ (.inr W_.t) (Yl hz.c))) rfl)))))) rfl ?_;rw[gY];exact sJ (by simp[iV])
def zf8(hB:LC B)(hb:Bs st)(hk:oE st b B)(z:Sd)(hz:FP B z)(ha:z.a.length<=1000)(oM:z.b.length<=1000):zbr [.loc b,jc z] st=.ok (enc (lB B z)) st:=by
 exact fQ (dO (dF (zrd hB hb hk z hz ha oM) rfl) (vf (dF (wK (yZ B z.s) (hold [oH B z.a,dN B z.c,oH B z.b]) st) (bU (dF (zls hk hz.s) (bU rfl (bU (bH rfl rfl jm) rfl))) (bU (dF (zqf (oH B z.a) (dN B z.c) (oH B z.b) st (Ga _) (zm _) (Ga _)) (bU (bH rfl rfl jm) (bU (bH rfl rfl jm) (bU (bH rfl rfl jm) rfl)))) rfl))))) rfl (eY (iV _ (lB B z)))
def zop(hB:LC B)(hb:Bs st)(hk:oE st b B)(z:Sd)(hz:FP B z)(ha:z.a.length<=1000)(oM:z.b.length<=1000):zes [.loc b,jc z] st=.ok (enc (uY B z)) st:=by
 obtain⟨ns,f1,ty,li,le⟩:=zjj hk hz.s;exact fQ (dO (dF (zrd hB hb hk z hz ha oM) rfl) (dO (dF (znk (bR B.ss z.s) B.ss.length st hb.t1 hb.c (RK hz.s) (by have:=hB.ss;omega)) (bU (Ma (f1 _ _ rfl) ty (bU (bH rfl rfl jm) rfl) li) (bU (zq le (bU (f1 _ _ rfl) rfl)) rfl))) (vf (dF (zok (xg B z.s) (oH B z.a) (dN B z.c) (oH B z.b) st (Gy _ _) (Ga _) (zm _) (Ga _)) (bU rfl (bU (bH rfl rfl jm) (bU (bH rfl rfl jm) (bU (bH rfl rfl jm) rfl)))))))) rfl (eY (iV _ (uY B z)))
end
end Law
set_option maxHeartbeats 0
namespace Law
open L2 M Tr
section
variable  {B:Bk}{b:Nat}{st:ak}
def zho(hB:LC B)(hb:Bs st)(hk:oE st b B)(z:Sd)(hz:FP B z)(ha:z.a.length<=1000)(oM:z.b.length<=1000):zcv [.loc b,jc z] st=.ok (.int (b_ B z:Nat)) st:=by
 have hl:=hB.few;obtain⟨fs,ns,nk,nt,nm,ml,mr,nr,Gh,h1,_⟩:=hk.ex;have si:qL (.str B.ls) [.str [z.c]] st=.ok (.int (bR B.ls z.c:Nat)) st:=by
  unfold qL;dsimp only;rw[List.findIdx?_eq_some_of_exists ⟨z.c,hz.c,by simp⟩]
  rfl
 have le:dj [.str B.ls] st=.ok (.int (B.ls.length:Nat)) st:=zgz _ B.ls (by omega);have pc:=zg6 (bR B.ls z.c) B.ls.length st hb (RK hz.c) (by omega);have gk:=Bm B nk z.s z.c st h1.k;have ty:cM "dict" (.loc nk) st=true:=by simp[cM,h1.k]
 let P:Nat:=qM B.ls+bM (bR B.ls z.c) B.ls.length
 have body:zf6 (startM 7 [.loc b,jc z]) st=.ok (.rt (.int (b_ B z:Nat))) st:=by
  refine dO (bH (rG rfl h1.o h1.f6) (dF pc (bU (Ma (rG rfl h1.o h1.f1) rfl (bU (bH rfl rfl jm) rfl) si) (bU (zq le (bU (rG rfl h1.o h1.f1) rfl)) rfl))) (zk1 (c:=P) rfl)) (dO (Ma (rG rfl h1.o h1.f3) ty (bU (CK (bU (bH rfl rfl jm) (bU (bH rfl rfl jm) rfl))) rfl) gk) ?_);cases hf:ye B z.s z.c with
  | none =>
   refine (wV (Ye (tu (bH rfl rfl rfl)) (vf (bH rfl (dF (zoy st hb) rfl) (zk1 (c:=b_ B z) ?_)))));unfold b_;rw[hf]
  | some r =>
   have hr:=hB.ok.ru r (n_ hf);obtain⟨mo,⟨w,W,o1,_,_⟩,ixm⟩:=h1.mv r.m;obtain⟨ns',g2,ty2,li,lw⟩:=zjj hk hr.1;have wc:=zor (bR B.ss r.g) B.ss.length st hb (RK hr.1) (by have:=hB.ss;omega)
   let SDE:List Nat:=if r.m=true then z.a.reverse else z.b
   let MV:Nat:=iu r.m+(if (if r.m=true then z.a else z.b)=[] then oh r.m else j8 r.m)
   have hq:decide (SDE=[])=decide ((if r.m=true then z.a else z.b)=[]):=by simp only[SDE];by_cases h:r.m=true<;>simp[h]
   dsimp only;rw[zj];refine T4 (tu (bH rfl rfl rfl)) (dO (bH (rG rfl h1.o h1.f5) (bH rfl rfl jm) ixm) (dO (d:=.str SDE) (st1:=st) (J2 (tu (bH (bH rfl rfl jm) rfl eq_str)) ?_) (dO (d:=.int MV) (st1:=st) (J2 (tu (bH rfl rfl eq_str)) ?_)
    (vf (bH (bH rfl rfl (zk1 rfl)) (dF wc (bU (Ma (g2 _ _ rfl) ty2 (bU (bH rfl rfl jm) rfl) li) (bU (zq lw (bU (g2 _ _ rfl) rfl)) rfl))) (zk1 ?_))))))
   ·simp only[SDE];cases r.m<;>rfl
   ·rw[hq];by_cases e:(if r.m=true then z.a else z.b)=[]
    ·rw[ae3 e];simp only[MV];rw[aeT e];exact rG rfl o1 rfl
    ·rw[aeW e];simp only[MV];rw[aeU e];exact rG rfl o1 rfl
   ·unfold b_;rw[hf];show P+MV+wM B r.g=P+(MV+wM B r.g);omega
 exact fQ body rfl (eY (by simp))
end
end Law
set_option maxHeartbeats 0
namespace M
def z8{st st':ak}{d:D}(hl:st'.length=st.length)(hd:under st.length d):gc st (.ok d st')=.ok d st':=by
 have e:st'.take st.length=st':=by rw[<-hl];exact my
 unfold gc;dsimp only;by_cases h:st'=st
 ·subst h;rw[aeT ⟨my,hd⟩]
 ·rw[e,aeU (λq=>h q.1)];cases d with
  | loc k =>
   dsimp only;cases st'[k]? with
   | none=>rfl
   | some o=>dsimp only;rw[aeU (λq=>h q.1)]
  | _=>rfl
theorem zsx:∀(n:Nat) (xs:List Nat),(∀r,r<n->r∈xs)->n<=xs.length
 | 0,_,_=>mD _
 | n+1,xs,h=>by
  have hm:=h n (by omega);have:=zsx n (xs.erase n) λr hr=>(List.mem_erase_of_ne (by omega)).mpr (h r (by omega));rw[List.length_erase_of_mem hm]at this;have:0<xs.length:=List.length_pos_of_mem hm;omega
def Km{xs:List Nat}{n:Nat}(h:xs.length<n):∃r,r<n/\r∉xs:=by
 apply afr;intro hn;have:=zsx n xs λr hr=>afr λq=>hn ⟨r,hr,q⟩;omega
end M
namespace Law
open L2 M Tr
def u0(ns:List Int)(k:Nat):Int:=if k<ns.length then ns.getD k 0 else 7919*k+13
def Cg(ns:List Int)(n k:Nat)(st:ak)(h:aA st n=some (ns.map D.int))(hk:k<=10000):RN [.loc n,.int k] st=.ok (.int (u0 ns k)) st:=by
 have le:=LR h;rw[gq]at le;have mu:eZ (.int 7919) (.int k) st=.ok (.int (7919*(k:Int))) st:=CP st 7919 k (by omega);unfold RN bA bx zp1 u0;by_cases hl:k<ns.length
 ·have c:(k:Int)<(ns.length:Nat):=by omega
  have ix:aN (.loc n) (.int k) st=.ok (.int (ns.getD k 0)) st:=by
   refine yh _ _ _ _ _ h ?_;rw[Yw,gP,List.getD_eq_getElem?_getD];rw[gM hl];rfl
  rw[aeT hl];generalize ns.getD k 0=v at *;generalize (ns.length:Int)=L at *;simp[startM,le,c,ix,eY]
 ·have c:¬ (k:Int)<(ns.length:Nat):=by omega
  rw[aeU hl];generalize (ns.length:Int)=L at *;simp[startM,le,c,mu,eY]
def uf(c k:Int):Int:=(c % 2147483647*48271+k*69621+11) % 2147483629
def v5(c k:Int):Int:=(uf c k*uf c k+7) % 998244353
def yt(c k:Int):Int:=(v5 c k*v5 c k+k) % 1000000007
def VP(c k:Int)(st:ak):zgx [.int c,.int k] st=.ok (.int (yt c k)) st:=by
 unfold zgx bA bx zna yt;have e1:(c % 2147483647*48271+k*69621+11) % 2147483629=uf c k:=rfl;have e2:(uf c k*uf c k+7) % 998244353=v5 c k:=rfl;have b1:0<=uf c k/\uf c k<2147483629:=by unfold uf;omega
 have b2:0<=v5 c k/\v5 c k<998244353:=by unfold v5;omega
 have m1:∀s,eZ (.int (c % 2147483647)) (.int 48271) s=.ok (.int (c % 2147483647*48271)) s:=λs=>CP s _ _ (by omega);have m2:∀s,eZ (.int k) (.int 69621) s=.ok (.int (k*69621)) s:=λs=>CP s _ _ (by omega);have m3:∀s,eZ (.int (uf c k)) (.int (uf c k)) s=.ok (.int (uf c k*uf c k)) s:=λs=>CP s _ _ (by omega);have m4:∀s,eZ (.int (v5 c k)) (.int (v5 c k)) s=.ok (.int (v5 c k*v5 c k)) s:=λs=>CP s _ _ (by omega);simp[startM,zfp,m1,m2,e1,m3,e2,m4,eY]
def jj(f:Bool)(v n:Int):MO:=.lst [.bl f,.int v,.int n]
def DS(st:ak)(p:Nat)(g st':ak):Prop:=∃f v n,st'=st.set p (jj f v n)++g
def jf(st:ak)(p:Nat):Prop:=∃f v n,st[p]? = some (jj f v n)
def jf.lt{st:ak}{p:Nat}(h:jf st p):p<st.length:=by
 obtain⟨f,v,n,h⟩:=h;exact (gf.mp h).1
def jf.app{st:ak}{p:Nat}(h:jf st p)(g:ak):jf (st++g) p:=by
 obtain⟨f,v,n,h⟩:=h;exact⟨f,v,n,dG h⟩
def DS.at_{st g st':ak}{p:Nat}(h:DS st p g st')(hp:p<st.length):jf st' p:=by
 obtain⟨f,v,n,rfl⟩:=h;exact⟨f,v,n,dG (k_ hp)⟩
def DS.keeps{st g st':ak}{p:Nat}(h:DS st p g st'):Keeps st st' [p]:=by
 obtain⟨f,v,n,rfl⟩:=h;exact (Keeps.set st p _).trans (Keeps.app _ g).more
def DS.refl{st:ak}{p:Nat}(h:jf st p):DS st p [] st:=by
 obtain⟨f,v,n,h⟩:=h;exact⟨f,v,n,by rw[set_same h,gB]⟩
def DS.trans{a b c g k:ak}{p:Nat}(h:DS a p g b)(h2:DS b p k c)(hp:p<a.length):DS a p (g++k) c:=by
 obtain⟨f,v,n,rfl⟩:=h;obtain⟨f2,v2,n2,rfl⟩:=h2;refine⟨f2,v2,n2,?_⟩;rw[zfm _ _ _ _ (by simpa using hp),List.set_set,gY]
def DS.len{st g st':ak}{p:Nat}(h:DS st p g st'):st'.length=st.length+g.length:=by
 obtain⟨f,v,n,rfl⟩:=h;simp
def DS.clo{st g st':ak}{p:Nat}(h:DS st p g st')(hc:aY st)(hg:aY g):aY st':=by
 obtain⟨f,v,n,rfl⟩:=h;exact (RV _ _).mpr ⟨RQ hc rfl,hg⟩
def DS.last{st st':ak}{g:ak}{p i:Nat}{o:MO}(h:DS st p g st')(hg:g[i]? = some o):st'[st.length+i]? = some o:=by
 obtain⟨f,v,n,rfl⟩:=h;rw[h_ (by simp)];simpa using hg
def Gs(p m:Nat)(st:ak)(h:jf st p)(hm:0<m)(SX:m<=1000000):∃k st',k<m/\tB [.loc p,.int m] st=.ok (.int k) st'/\DS st p [] st':=by
 have hp:=h.lt;obtain⟨f,v,n,h⟩:=h;have it:aA st p=some [.bl f,.int v,.int n]:=by unfold aA;rw[h];rfl
 have x0:aN (.loc p) (.int 0) st=.ok (.bl f) st:=yh _ _ _ _ _ it rfl;have x1:aN (.loc p) (.int 1) st=.ok (.int v) st:=yh _ _ _ _ _ it rfl;have x2:aN (.loc p) (.int 2) st=.ok (.int n) st:=yh _ _ _ _ _ it rfl;have mo:∀(i:Int) s,fZ (.int i) (.int m) s=.ok (.int (i % m)) s:=λi s=>zfp s i m (by omega);cases f with
 | true =>
  have fd:∀s,eQ (.int v) (.int m) s=.ok (.int (v / m)) s:=λs=>zd7 s v m (by omega);obtain⟨k,hk⟩:=Int.eq_ofNat_of_zero_le (Int.emod_nonneg v (show (m:Int)≠0 by omega));have hkm:k<m:=by have:=Int.emod_lt_of_pos v (show (0:Int)<m by omega);omega
  refine⟨k,st.set p (jj true (v / m) n),hkm,?_,⟨_,_,_,by rw[gB]⟩⟩;have sv:yo (.loc p) (.int 1) (.int (v / m)) st=.ok () (st.set p (jj true (v / m) n)):=by
   unfold yo;simp only[h,jj]
   rfl
  have g:=z8 (st:=st) (st':=st.set p (jj true (v / m) n)) (d:=.int k) (by simp) (by simp);unfold tB bA bx zmy;generalize st.set p (jj true (v / m) n)=Z at *;simp[startM,x0,cT,x1,mo,hk,fd,sv];exact g
 | false =>
  obtain⟨k,hk⟩:=Int.eq_ofNat_of_zero_le (Int.emod_nonneg (yt v (n+1) / 7) (show (m:Int)≠0 by omega));have hkm:k<m:=by have:=Int.emod_lt_of_pos (yt v (n+1) / 7) (show (0:Int)<m by omega);omega
  refine⟨k,st.set p (jj false v (n+1)),hkm,?_,⟨_,_,_,by rw[gB]⟩⟩;have sv:yo (.loc p) (.int 2) (.int (n+1)) st=.ok () (st.set p (jj false v (n+1))):=by
   unfold yo;simp only[h,jj]
   rfl
  have it2:aA (st.set p (jj false v (n+1))) p=some [.bl false,.int v,.int (n+1)]:=by unfold aA;rw[k_ hp];rfl
  have y1:aN (.loc p) (.int 1) (st.set p (jj false v (n+1)))=.ok (.int v) (st.set p (jj false v (n+1))):=yh _ _ _ _ _ it2 rfl;have y2:aN (.loc p) (.int 2) (st.set p (jj false v (n+1)))=.ok (.int (n+1)) (st.set p (jj false v (n+1))):=yh _ _ _ _ _ it2 rfl;have mx:=VP v (n+1) (st.set p (jj false v (n+1)));have fd:∀s,eQ (.int (yt v (n+1))) (.int 7) s=.ok (.int (yt v (n+1) / 7)) s:=λs=>zd7 s _ 7 (by omega);have g:=z8 (st:=st) (st':=st.set p (jj false v (n+1))) (d:=.int k) (by simp) (by simp);unfold tB bA bx zmy;generalize st.set p (jj false v (n+1))=Z at *;generalize yt v (n+1) / 7=q at *;generalize yt v (n+1)=q2 at *;simp[startM,x0,cT,x2,sv,y1,y2,mx,fd,mo,hk];exact g
def Ys{mA:MA}{env:aM}{st st1:ak}(n:Nat)(h:mA env st=.ok [.int n] st1)(hn:n<=1000000):dq mA env st=.ok (jq 0 n,[]) st1:=by
 rw[Dv,h,R.aB];dsimp only;rw[aeT ⟨by omega,by omega⟩,Int.toNat_natCast]
def xK{st:ak}{p:Nat}{o:MO}(hp:p<st.length)(g:ak){d:D}(hd:st.set p o=st->gc st (.ok d (st++g))=.ok d (st++g)):gc st (.ok d (st.set p o++g))=.ok d (st.set p o++g):=by
 by_cases e:st.set p o=st
 ·rw[e];exact hd e
 ·refine xM hp (λq=>e ?_);rw[gK (by simpa using hp),k_ hp]at q;exact set_same q.symm
def zpb(n:Nat)(xs:List Nat):bQ n (aG xs):=by
 unfold aG
 induction xs with
 | nil=>simp
 | cons c cs ih=>simpa using ih
def J0(xs:List Nat)(neg:Bool)(x n:Nat)(st:ak)(h:aA st n=some (aG xs)):uR 800 neg (.int x) (.loc n) st=.ok (.bl (if neg=true then !decide (x∈xs) else decide (x∈xs))) st:=by
 have f1:dC (aG xs)=true:=by
  clear h;unfold aG
  induction xs with
  | nil=>rfl
  | cons c cs ih=>simpa using ih
 have f2:((aG xs).all λe=>decide (dU e (.int x)<800))=true:=by
  unfold aG;rw[List.all_map,List.all_eq_true];intro c _;simp[dU]
 have f3:((aG xs).any λe=>jJ e (.int x))=decide (x∈xs):=by
  unfold aG;rw[List.any_map,mz];simp[jJ];exact⟨λ⟨y,hy,e⟩=>(by omega:y=x) ▸ hy,
   λhx=>⟨x,hx,rfl⟩⟩
 unfold uR;simp only[h,f1,f2,f3];rw[aeT ⟨by simp,trivial,trivial⟩]
def zm8(p size many:Nat)(st:ak)(h:jf st p)(hm:many<=size)(hs:0<size)(ie:size<=100000)(SX:many<=1000) :
  ∃(xs:List Nat) (st':ak),xs.length=many/\xs.Nodup/\(∀x∈xs,x<size)/\zdz [.loc p,.int size,.int many] st=.ok (.loc st.length) st'/\DS st p [.lst (aG xs)] st':=by
 have hp:=h.lt;have mo:∀(i:Int) s,fZ (.int i) (.int size) s=.ok (.int (i % size)) s:=λi s=>zfp s i size (by omega);unfold zdz bA bx zkb;generalize hC:(fu (aF (uR 800 false) (vr 5) (vr 3)):MT)=C;generalize hb:(aJ 5 (aF fZ (aF aX (vr 5) (ct (.int 1))) (vr 1)):MS)=bd;generalize hB:(aC (aJ 5 _) _:MS)=B
 let E:Option D->Option D->aM:=λa4 a5=>[some (.loc p),some (.int size),some (.int many),some (.loc st.length),a4,a5]
 have cv:∀(xs:List Nat) (Z:ak) (a4:Option D) (x:Nat),aA Z st.length=some (aG xs)->C (E a4 (some (.int (x:Nat)))) Z=.ok (decide (x∈xs)) Z:=λxs Z a4 x hZ=>by
  have il:=J0 xs false x st.length Z hZ;rw[aeU (by decide)]at il;rw[<-hC];exact tu (bH rfl rfl il)
 have bv:∀(Z:ak) (a4:Option D) (x:Nat),bd (E a4 (some (.int (x:Nat)))) Z=.ok (.nx (E a4 (some (.int (((x+1) % size:Nat):Int))))) Z:=λZ a4 x=>by
  have m1:fZ (.int ((x:Nat)+1:Int)) (.int size) Z=.ok (.int (((x+1) % size:Nat):Int)) Z:=by
   rw[mo];congr 2
  rw[<-hb];exact Yg (bH (bH rfl rfl (add_int rfl)) rfl m1)
 have wh:∀(xs:List Nat) (Z:ak) (a4:Option D),aA Z st.length=some (aG xs)->∀(j x:Nat),x<size->(x+j) % size∉xs->∃y,y<size/\y∉xs/\bG C bd (E a4 (some (.int x))) Z=.ok (.nx (E a4 (some (.int y)))) Z:=by
  intro xs Z a4 hZ j
  induction j with
  | zero =>
   intro x hx hf;rw[nq,Nat.mod_eq_of_lt hx]at hf;refine⟨x,hx,hf,?_⟩;rw[yX,cv xs Z a4 x hZ,R.aB,aeW hf]
   rfl
  | succ j ih =>
   intro x hx hf;by_cases WM:x∈xs
   ·obtain⟨y,y1,y2,y3⟩:=ih ((x+1) % size) (Nat.mod_lt _ hs) (by
     rw[show ((x+1) % size+j) % size=(x+(j+1)) % size by rw[Nat.mod_add_mod];congr 1;omega];exact hf)
    refine⟨y,y1,y2,?_⟩;rw[yX,cv xs Z a4 x hZ,R.aB,ae3 WM,aeT rfl,bv,R.aB];exact y3
   ·refine⟨x,hx,WM,?_⟩;rw[yX,cv xs Z a4 x hZ,R.aB,aeW WM]
    rfl
 obtain⟨bY,st',hh,a4,a5,xs,hxl,hxn,jY,rfl,⟨f,v,n,rfl⟩⟩:=yV (g:=aO 4) (b:=B) (gs:=[]) (items:=jq 0 many) (λi env s=>∃(a4 a5:Option D) (xs:List Nat),xs.length=i/\xs.Nodup/\(∀x∈xs,x<size)/\env=E a4 a5/\DS st p [.lst (aG xs)] s)
  (env:=E none none) (st:=st++[.lst []]) ⟨none,none,[],rfl,by simp,by simp,rfl,by
   obtain⟨f,v,n,q⟩:=h;exact⟨f,v,n,by rw[set_same q];rfl⟩⟩ (by
   rintro i d env s hi ⟨a4,a5,xs,hxl,hxn,jY,rfl,wk⟩;obtain⟨Zu,rfl⟩:=zhv hi;obtain⟨k,s1,hk,dr,ds1⟩:=Gs p size s (wk.at_ hp) hs (by omega);have ds2:=wk.trans ds1 hp;rw[gB]at ds2;have i2:aA s1 st.length=some (aG xs):=by
    have:=ds2.last (i:=0) rfl;unfold aA;rw[nq]at this;rw[this]
   obtain⟨r,hr,hrx⟩:=Km (xs:=xs) (n:=size) (by omega);obtain⟨y,y1,y2,y3⟩:=wh xs s1 (some (.int (0+(i:Nat)))) i2 ((r+size - k) % size) k hk (by
    rw[Nat.add_mod_mod,show k+(r+size - k)=r+size by omega,Nat.add_mod_right,Nat.mod_eq_of_lt hr];exact hrx)
   have ap:aV (.loc st.length) [.int y] s1=.ok .non (s1.set st.length (.lst (aG (xs++[y])))):=by
    have g:=ds2.last (i:=0) rfl;rw[nq]at g;unfold aV;dsimp only;rw[g];dsimp only;rw[aeT (by rw[Gw];omega),znn]
   have ty:cM "list" (.loc st.length) s1=true:=by
    have g:=ds2.last (i:=0) rfl;rw[nq]at g;simp[cM,g]
   have ds3:DS st p [.lst (aG (xs++[y]))] (s1.set st.length (.lst (aG (xs++[y])))):=by
    obtain⟨f,v,n,rfl⟩:=ds2;exact⟨f,v,n,RP _ _ _ _ (by simp)⟩
   refine⟨by simp,E (some (.int (0+(i:Nat)))) a5,s,rfl,E (some (.int (0+(i:Nat)))) (some (.int y)),s1.set st.length (.lst (aG (xs++[y]))),.inl ?_,_,_,xs++[y],by simp[hxl],?_,?_,rfl,ds3⟩
   ·rw[<-hB];exact dO (dF dr rfl) ((LQ y3).trans (zrv (Ma rfl ty rfl ap)))
   ·rw[nJ];refine⟨hxn,by simp,λa ha b hb=>?_⟩;obtain rfl:=g_.mp hb;exact λe=>y2 (e ▸ ha)
   ·intro x hx;rcases mC.mp hx with hx | hx
    ·exact jY x hx
    ·obtain rfl:=g_.mp hx;exact y1) (λ_ _ _=>by simp)
 rw[T8]at hxl;refine⟨xs,st.set p (jj f v n)++[.lst (aG xs)],hxl,hxn,jY,?_,⟨f,v,n,rfl⟩⟩;have g:=xK (o:=jj f v n) hp [.lst (aG xs)] (d:=.loc st.length) (λ_=>Yh (o:=.lst (aG xs)) (zpb _ _));exact fQ (dO rfl (LK (Ys many rfl (by omega)) hh (vf rfl))) rfl g
end Law
set_option maxHeartbeats 0
namespace Law
open L2 M Tr
def zV(ls:List Nat)(k:Nat)(s:ak)(hk:k<ls.length)(hl:ls.length<=1000):∃c∈ls,aN (.str ls) (.int k) s=.ok (.str [c]) s:=by
 refine⟨ls[k],List.getElem_mem hk,?_⟩;unfold aN;dsimp only;rw[aeT (by omega),Yw,gM hk]
def Qp(ss:List Nat)(n k:Nat)(s:ak)(h:s[n]? = some (.lst (aG ss)))(hk:k<ss.length):∃x∈ss,aN (.loc n) (.int k) s=.ok (.int x) s:=by
 refine⟨ss[k],List.getElem_mem hk,yh _ _ _ (aG ss) _ (by unfold aA;rw[h]) ?_⟩;rw[Yw];unfold aG;rw[gP,gM hk];rfl
section
variable  {env:aM}{p i:Nat}{s:ak}
def zhi(h0:env[0]? = some (some (.loc p)))(n:Nat)(hi:env[i]? = some (some (.loc n)))(ss:List Nat)(hn:s[n]? = some (.lst (aG ss)))(oK:n≠p)(hd:jf s p)(h1:0<ss.length)(h2:ss.length<=1000) :
  ∃x∈ss,∃s',aF aN (vr i) (az tB [] (aj (vr 0) (aj (bw dj (aj (vr i) au)) au))) env s=.ok (.int x) s'/\DS s p [] s':=by
 have le:=LR (st:=s) (n:=n) (ds:=aG ss) (by unfold aA;rw[hn]);rw[Gw]at le;obtain⟨k,s',hk,dr,ds⟩:=Gs p ss.length s hd h1 (by omega);obtain⟨x,hx,ix⟩:=Qp ss n k s' (ds.keeps _ _ (by simpa using oK) hn) hk;refine⟨x,hx,s',?_,ds⟩;simp[h0,hi,le,dr,ix]
def zgs(h0:env[0]? = some (some (.loc p)))(signs:List Nat)(hi:env[i]? = some (some (.str signs)))(hd:jf s p)(h2:signs.length<=900) :
  ∃c∈95::signs,∃s',aF aN (aF aX (ct (.str [95])) (vr i)) (az tB [] (aj (vr 0) (aj (aF aX (bw dj (aj (vr i) au)) (ct (.int 1))) au))) env s=.ok (.str [c]) s'/\DS s p [] s':=by
 have le:dj [.str signs] s=.ok (.int signs.length) s:=zgz _ signs (by omega);obtain⟨k,s',hk,dr,ds⟩:=Gs p (signs.length+1) s hd (by omega) (by omega);obtain⟨c,hc,ix⟩:=zV (95::signs) k s' (by simpa using hk) (by simp;omega);refine⟨c,hc,s',?_,ds⟩;have ad:aX (.str [95]) (.str signs) s=.ok (.str (95::signs)) s:=by
  have:1+signs.length<=1000000:=by omega
  simp[aX,this]
 have e:(signs.length:Int)+1=((signs.length+1:Nat):Int):=by omega
 generalize ((signs.length+1:Nat):Int)=q at *;generalize (signs.length:Int)=q2 at *;simp[h0,hi,ad,le,e,dr,ix]
end
def xu(rs:List Ru):List (List Key×D):=rs.map λr=>([.inl (r.s:Int),.inr (strOf [r.x])],D.bl true)
def PQ(rs:List Ru)(s x:Nat):(iZ (xu rs) [.inl (s:Int),.inr (strOf [x])]).isSome=decide (∃r∈rs,r.s=s/\r.x=x):=by
 rw[mz,ae2];unfold xu
 induction rs with
 | nil=>simp
 | cons r rs ih =>
  rw[gr,Yx];by_cases e:r.s=s/\r.x=x
  ·rw[aeT (by rw[e.1,e.2])];simp only[Option.isSome_some,true_iff];exact⟨r,by simp,e⟩
  ·rw[aeU (λz=>e (by
    injection z with z1 z2;injection z2 with z2 _;have h1:=Sum.inl.inj z1;have h2:=L_.mp (afi z2);exact⟨by omega,by simpa using h2⟩)),ih]
   constructor
   ·rintro ⟨q,hq,h⟩;exact⟨q,by simp[hq],h⟩
   ·rintro ⟨q,hq,h⟩;rcases gj.mp hq with rfl | hq
    ·exact absurd h e
    ·exact⟨q,hq,h⟩
def Hd(p ns many:Nat)(signs ss:List Nat)(st:ak)(h:jf st p)(hn:st[ns]? = some (.lst (aG ss)))(oK:ns≠p)(h1:0<ss.length)(h2:ss.length<=1000)(h3:signs.length<=900)(hm:many<=1000) :
  ∃(rs:List Ru) (g st':ak),rs.length<=many/\(rs.map λr=>(r.s,r.x)).Nodup/\(∀r∈rs,r.s∈ss/\r.x∈95::signs/\r.w∈95::signs/\r.g∈ss)/\aY g/\zg0 [.loc p,.str signs,.loc ns,.int many] st=.ok (.loc st.length) st'/\DS st p (.lst (rs.map dh)::g) st':=by
 have hp:=h.lt;have hnl:=(gf.mp hn).1;unfold zg0 bA bx zoa;generalize hB:(aC (aJ 7 _) _:MS)=B
 let E:Option D->Option D->Option D->Option D->Option D->Option D->aM:=λa6 a7 a8 a9 MF Lq=>[some (.loc p),some (.str signs),some (.loc ns),some (.int many),some (.loc st.length),some (.loc (st.length+1)),a6,a7,a8,a9,MF,Lq]
 obtain⟨bY,st',hh,a6,a7,a8,a9,MF,Lq,rs,q1,q2,q3,rfl,⟨f,v,n,rfl⟩⟩:=yV (g:=aO 6) (b:=B) (gs:=[]) (items:=jq 0 many) (λi env s=>∃(a6 a7 a8 a9 MF Lq:Option D) (rs:List Ru),rs.length<=i/\(rs.map λr=>(r.s,r.x)).Nodup/\(∀r∈rs,r.s∈ss/\r.x∈95::signs/\r.w∈95::signs/\r.g∈ss)/\env=E a6 a7 a8 a9 MF Lq/\DS st p [.lst (rs.map dh),.dic (xu rs)] s)
  (env:=E none none none none none none) (st:=st++[.lst []]++[.dic []]) ⟨none,none,none,none,none,none,[],by simp,by simp,by simp,rfl,by
   obtain⟨f,v,n,q⟩:=h;exact⟨f,v,n,by rw[set_same q,gY];rfl⟩⟩ (by
   rintro i d env s hi ⟨a6,a7,a8,a9,MF,Lq,rs,q1,q2,q3,rfl,wk⟩;obtain⟨Zu,rfl⟩:=zhv hi;generalize hI:D.int (0+(i:Nat))=iD;have SQ:s[ns]? = some (.lst (aG ss)):=wk.keeps _ _ (by simpa using oK) hn;obtain⟨x1,Zm,s1,e1,d1⟩:=zhi (env:=E (some iD) a7 a8 a9 MF Lq) (i:=2) (s:=s) (p:=p) rfl ns rfl ss SQ oK (wk.at_ hp) h1 h2;have D1:=wk.trans d1 hp;rw[gB]at D1;obtain⟨x2,Qw,s2,e2,d2⟩:=zgs (env:=E (some iD) (some (.int x1)) a8 a9 MF Lq) (i:=1) (s:=s1) (p:=p) rfl signs rfl (D1.at_ hp) h3;have D2:=D1.trans d2 hp;rw[gB]at D2;obtain⟨x3,hx3,s3,e3,d3⟩:=zgs (env:=E (some iD) (some (.int x1)) (some (.str [x2])) a9 MF Lq) (i:=1) (s:=s2) (p:=p) rfl signs rfl (D2.at_ hp) h3;have D3:=D2.trans d3 hp;rw[gB]at D3;obtain⟨k4,s4,hk4,e4,d4⟩:=Gs p 2 s3 (D3.at_ hp) (by omega) (by omega);have D4:=D3.trans d4 hp;rw[gB]at D4
   let mb:Bool:=decide (k4=0)
   have ix4:aN (.str [108,114]) (.int k4) s4=.ok (.str (sU mb)) s4:=by
    rcases (by omega:k4=0\/k4=1) with rfl | rfl<;>rfl
   have hn4:s4[ns]? = some (.lst (aG ss)):=D4.keeps _ _ (by simpa using oK) hn;obtain⟨x5,hx5,s5,e5,d5⟩:=zhi (env:=E (some iD) (some (.int x1)) (some (.str [x2])) (some (.str [x3])) (some (.str (sU mb))) Lq) (i:=2) (s:=s4) (p:=p) rfl ns rfl ss hn4 oK (D4.at_ hp) h1 h2;have D5:=D4.trans d5 hp;rw[gB]at D5;have g0:=D5.last (i:=0) rfl;have g1:=D5.last (i:=1) rfl;rw[nq]at g0
   let r:Ru:=⟨x1,x2,x3,mb,x5⟩
   let EF:aM:=E (some iD) (some (.int x1)) (some (.str [x2])) (some (.str [x3])) (some (.str (sU mb))) (some (.int x5))
   have kk:=zlo (x1:Nat) x2;have ind:El true (.tup [.int x1,.str [x2]]) (.loc (st.length+1)) s5=.ok (.bl (!decide (∃r∈rs,r.s=x1/\r.x=x2))) s5:=by
    unfold El;simp only[g1,kk];rw[aeT trivial,PQ]
   by_cases hex:∃r∈rs,r.s=x1/\r.x=x2
   ·rw[ae3 hex]at ind;refine⟨by simp,E (some iD) a7 a8 a9 MF Lq,s,rfl,EF,s5,.inl ?_,_,_,_,_,_,_,rs,by omega,q2,q3,rfl,D5⟩;rw[<-hB];exact dO e1 (dO e2 (dO e3 (dO (bH rfl (dF e4 rfl) ix4) (dO e5 (Z8 (tu (bH (CK rfl) rfl ind)))))))
   ·rw[aeW hex]at ind;have sd:yp (.loc (st.length+1)) (.tup [.int x1,.str [x2]]) (.bl true) s5=.ok () (s5.set (st.length+1) (.dic (xu (rs++[r])))):=by
     unfold yp;simp only[g1,kk];rw[aeT (by simp[xu];omega)];congr 3;unfold Ob;rw[aeU]
     ·simp[xu,r]
     ·simp only[xu,ph,ae2,not_exists,not_and];intro q hq e;obtain⟨r',Qy,rfl⟩:=gh.mp hq;injection e with z1 z2;injection z2 with z2 _;have w1:=Sum.inl.inj z1;have w2:=L_.mp (afi z2);exact hex ⟨r',Qy,by omega,by simpa using w2⟩
    have D6:DS st p [.lst (rs.map dh),.dic (xu (rs++[r]))] (s5.set (st.length+1) (.dic (xu (rs++[r])))):=by
     obtain⟨f,v,n,rfl⟩:=D5;refine⟨f,v,n,?_⟩;rw[nQ,aeU (by simp)];simp
    have h6:(s5.set (st.length+1) (.dic (xu (rs++[r]))))[st.length]? = some (.lst (rs.map dh)):=D6.last (i:=0) rfl;have ap:aV (.loc st.length) [dh r] (s5.set (st.length+1) (.dic (xu (rs++[r]))))=.ok .non ((s5.set (st.length+1) (.dic (xu (rs++[r])))).set st.length (.lst ((rs++[r]).map dh))):=by
     unfold aV;simp only[h6];rw[aeT (by simp;omega)];simp
    rw[zj r]at ap;have ty:cM "list" (.loc st.length) (s5.set (st.length+1) (.dic (xu (rs++[r]))))=true:=by
     simp only[cM,h6]
     rfl
    have D7:DS st p [.lst ((rs++[r]).map dh),.dic (xu (rs++[r]))] ((s5.set (st.length+1) (.dic (xu (rs++[r])))).set st.length (.lst ((rs++[r]).map dh))):=by
     obtain⟨f,v,n,e⟩:=D6;refine⟨f,v,n,?_⟩;rw[e,nQ,aeU (by simp)];simp
    refine⟨by simp,E (some iD) a7 a8 a9 MF Lq,s,rfl,EF,(s5.set (st.length+1) (.dic (xu (rs++[r])))).set st.length (.lst ((rs++[r]).map dh)),.inl ?_,_,_,_,_,_,_,rs++[r],by simp;omega,?_,?_,rfl,D7⟩
    ·rw[<-hB];exact dO e1 (dO e2 (dO e3 (dO (bH rfl (dF e4 rfl) ix4) (dO e5 (Ye (tu (bH (CK rfl) rfl ind)) (ZW rfl (Yi rfl (CK rfl) sd) (zrv (Ma rfl ty (bU (CK rfl) rfl) ap))))))))
    ·rw[mL,nJ];refine⟨q2,by simp,λa ha c hc=>?_⟩;obtain⟨r',Qy,rfl⟩:=gh.mp ha;simp only[gr,km,g_]at hc;subst hc;intro e;injection e with w1 w2;exact hex ⟨r',Qy,w1,w2⟩
    ·intro r' Qy;rcases mC.mp Qy with Qy | Qy
     ·exact q3 r' Qy
     ·obtain rfl:=g_.mp Qy;exact⟨Zm,Qw,hx3,hx5⟩) (λ_ _ _=>by simp)
 rw[T8]at q1;have un:bQ st.length (rs.map dh):=by
  have:=zmh st.length (rs.map d7);rwa[zj6]at this
 by_cases es:st.set p (jj f v n)=st
 ·refine⟨rs,[],st++[.lst (rs.map dh)],q1,q2,q3,by simp,?_,⟨f,v,n,by rw[es]⟩⟩;refine fQ (dO rfl (dO (d:=.loc (st.length+1)) (by simp) (LK (Ys many rfl (by omega)) hh (vf rfl)))) rfl ?_;rw[es];have gn:=z7 (st:=st) (g:=[]) (g':=[.dic (xu rs)]) (o:=.lst (rs.map dh)) un;rw[gB]at gn;exact gn
 ·refine⟨rs,[.dic (xu rs)],st.set p (jj f v n)++[.lst (rs.map dh),.dic (xu rs)],q1,q2,q3,by simp,?_,⟨f,v,n,rfl⟩⟩;exact fQ (dO rfl (dO (d:=.loc (st.length+1)) (by simp) (LK (Ys many rfl (by omega)) hh (vf rfl)))) rfl (xK (o:=jj f v n) hp _ (d:=.loc st.length) (λe=>absurd e es))
end Law
set_option maxHeartbeats 0
namespace Law
open L2 M Tr
def zse(p most:Nat)(signs:List Nat)(st:ak)(h:jf st p)(h3:signs.length<=900)(hm:most<=1000) :
  ∃(cs:List Nat) (st':ak),cs.length<=most/\(∀c∈cs,c∈95::signs)/\T7 [.loc p,.str signs,.int most] st=.ok (.str cs) st'/\DS st p [] st':=by
 have hp:=h.lt;obtain⟨m,s0,hmk,dr,d0⟩:=Gs p (most+1) st h (by omega) (by omega);unfold T7 bA bx zsi;generalize hB:(aJ 3 (aF aX (vr 3) _):MS)=B
 let E:D->Option D->aM:=λd3 a4=>[some (.loc p),some (.str signs),some (.int most),some d3,a4]
 obtain⟨bY,st',hh,a4,cs,q1,q2,rfl,q3⟩:=yV (g:=aO 4) (b:=B) (gs:=[]) (items:=jq 0 m) (λi env s=>∃(a4:Option D) (cs:List Nat),cs.length=i/\(∀c∈cs,c∈95::signs)/\env=E (.str cs) a4/\DS st p [] s)
  (env:=E (.str []) none) (st:=s0) ⟨none,[],rfl,by simp,rfl,d0⟩ (by
   rintro i d env s hi ⟨a4,cs,q1,q2,rfl,wk⟩;obtain⟨Zu,rfl⟩:=zhv hi;generalize hI:D.int (0+(i:Nat))=iD;obtain⟨c,hc,s1,e1,d1⟩:=zgs (env:=E (.str cs) (some iD)) (i:=1) (s:=s) (p:=p) rfl signs rfl (wk.at_ hp) h3;have D1:=wk.trans d1 hp;refine⟨by simp,E (.str cs) (some iD),s,rfl,E (.str (cs++[c])) (some iD),s1,.inl ?_,_,cs++[c],by simp[q1],?_,rfl,D1⟩
   ·rw[<-hB];exact Yg (bH rfl e1 (add_str (by simp;omega)))
   ·intro x hx;rcases mC.mp hx with hx | hx
    ·exact q2 x hx
    ·obtain rfl:=g_.mp hx;exact hc) (λ_ _ _=>by simp)
 rw[T8]at q1;refine⟨cs,st',by omega,q2,?_,q3⟩;exact fQ (dO rfl (LK (Ys m (bU (dF dr (bU rfl (bU (bH rfl rfl (add_int (by omega))) rfl))) rfl) (by omega)) hh (vf rfl))) rfl (z8 (by rw[q3.len];rfl) (by simp))
def Hn(n:Nat)(ds:List D)(st:ak)(h:st[n]? = some (.lst ds))(hf:dC ds=true)(hd:deps ds<=100):M.Gi 800 (.loc n) (.loc st.length) (st++[.lst []])=.ok (.bl (!ds.isEmpty)) (st++[.lst []]):=by
 have h1:aA (st++[.lst []]) n=some ds:=by unfold aA;rw[dG h]
 have h2:aA (st++[.lst []]) st.length=some []:=by simp[aA]
 have e:lC 800 (.loc n) (.loc st.length) (st++[.lst []])=some ds.isEmpty:=by
  simp only[lC,h1,h2];rw[aeT ⟨hf,by simp,by simp⟩];cases ds<;>simp[ju]
 unfold M.Gi;rw[e]
def zq0(rs:List Ru):dC (rs.map dh)=true/\deps (rs.map dh)<=100:=by
 have h1:=zpi (rs.map d7);have h2:=zra (rs.map d7);rw[zj6]at h1 h2;exact⟨h1,by omega⟩
def G4(p nr ns most:Nat)(signs ss:List Nat)(rs:List Ru)(st:ak)(h:jf st p)(hr:st[nr]? = some (.lst (rs.map dh)))(W8:nr≠p)(hn:st[ns]? = some (.lst (aG ss)))(oK:ns≠p)(h1:0<ss.length)(h2:ss.length<=1000)(h3:signs.length<=900)(hm:most<=900)(hrl:rs.length<=1000)
  (hrs:∀r∈rs,r.s∈ss/\r.x∈95::signs) :
  ∃(z:Sd) (g st':ak),z.s∈ss/\z.c∈95::signs/\(∀c∈z.a,c∈95::signs)/\(∀c∈z.b,c∈95::signs)/\z.a.length<=most/\z.b.length<=most/\aY g/\zgy [.loc p,.loc nr,.str signs,.loc ns,.int most] st=.ok (jc z) st'/\DS st p g st':=by
 have hp:=h.lt
 let E:Option D->Option D->Option D->Option D->aM:=λa5 a6 a7 a8=>[some (.loc p),some (.loc nr),some (.str signs),some (.loc ns),some (.int most),a5,a6,a7,a8]
 obtain⟨x1,Zm,s1,e1,D1⟩:=zhi (env:=E none none none none) (i:=3) (s:=st) (p:=p) rfl ns rfl ss hn oK h h1 h2;obtain⟨x2,Qw,s2,e2,d2⟩:=zgs (env:=E (some (.int x1)) none none none) (i:=2) (s:=s1) (p:=p) rfl signs rfl (D1.at_ hp) h3;have D2:=D1.trans d2 hp;rw[gB]at D2;have W4:s2[nr]? = some (.lst (rs.map dh)):=D2.keeps _ _ (by simpa using W8) hr;have l2:s2.length=st.length:=D2.len;have ne:=Hn nr (rs.map dh) s2 W4 (zq0 rs).1 (zq0 rs).2;have D2':DS st p [.lst []] (s2++[.lst []]):=by
  obtain⟨f,v,n,e⟩:=D2;exact⟨f,v,n,by rw[e,gB]⟩
 have l3:s2.length=(s2:ak).length:=rfl

 have mid:∃(xs xc:Nat) (a7:Option D) (s3:ak),xs∈ss/\xc∈95::signs/\DS st p [.lst []] s3/\iJ (oR (fu (aF (M.Gi 800) (vr 1) (dw au))) (fu (aF Ka (az tB [] (aj (vr 0) (aj (ct (.int 4)) au))) (ct (.int 0))))) (aC (aJ 7 (aF aN (vr 1) (az tB [] (aj (vr 0) (aj (bw dj (aj (vr 1) au)) au)))))
   (aC (aJ 5 (aF aN (vr 7) (ct (.int 0)))) (aJ 6 (aF aN (vr 7) (ct (.int 1)))))) bN (E (some (.int x1)) (some (.str [x2])) none none) s2=.ok (.nx (E (some (.int xs)) (some (.str [xc])) a7 none)) s3:=by
  cases WT:rs with
  | nil =>
   rw[WT]at ne;refine⟨x1,x2,none,s2++[.lst []],Zm,Qw,D2',?_⟩;simp only[E];rw[show (List.map dh []).isEmpty=true from rfl]at ne;simp[ne]
  | cons r0 rs0 =>
   rw[WT]at ne;rw[show (List.map dh (r0::rs0)).isEmpty=false from rfl]at ne;have hl0:0<rs.length:=by rw[WT];simp
   obtain⟨k,s3,hk,e3,d3⟩:=Gs p 4 (s2++[.lst []]) (D2'.at_ hp) (by omega) (by omega);rw[show ((4:Nat):Int)=4 from rfl]at e3;have D3:=D2'.trans d3 hp;rw[gB]at D3;by_cases hk0:k=0
   ·subst hk0;refine⟨x1,x2,none,s3,Zm,Qw,D3,?_⟩;simp only[E];simp[ne,e3]
   ·have WX:s3[nr]? = some (.lst (rs.map dh)):=D3.keeps _ _ (by simpa using W8) hr;have it3:aA s3 nr=some (rs.map dh):=by unfold aA;rw[WX]
    have le:=LR it3;rw[gq]at le;obtain⟨j,s4,hj,e4,d4⟩:=Gs p rs.length s3 (D3.at_ hp) hl0 (by omega);have D4:=D3.trans d4 hp;rw[gB]at D4;have hr4:s4[nr]? = some (.lst (rs.map dh)):=D4.keeps _ _ (by simpa using W8) hr;have ix:aN (.loc nr) (.int j) s4=.ok (dh rs[j]) s4:=by
     refine yh _ _ _ (rs.map dh) _ (by unfold aA;rw[hr4]) ?_;rw[Yw,gP,gM hj];rfl
    have y0:∀s',aN (dh rs[j]) (.int 0) s'=.ok (.int (rs[j].s:Nat)) s':=λs'=>by rw[zj];exact iw s' 0 _ _ rfl
    have y1:∀s',aN (dh rs[j]) (.int 1) s'=.ok (.str [rs[j].x]) s':=λs'=>by rw[zj];exact iw s' 1 _ _ rfl
    have hm:=hrs rs[j] (List.getElem_mem hj);refine⟨rs[j].s,rs[j].x,some (dh rs[j]),s4,hm.1,hm.2,D4,?_⟩;have ck:(k:Int) > 0:=by omega
    simp only[E];generalize dh rs[j]=RD at *;generalize ((rs[j].s:Nat):Int)=Q1 at *;generalize (rs.length:Int)=Q2 at *;generalize (k:Int)=Q3 at *;simp[ne,e3,ck,le,e4,ix,y0,y1]
 obtain⟨xs,xc,a7,s3,m1,m2,D3,t3⟩:=mid;obtain⟨la,s4,la1,la2,e4,d4⟩:=zse p most signs s3 (D3.at_ hp) h3 (by omega);have D4:=D3.trans d4 hp;rw[gB]at D4;obtain⟨rb,s5,rb1,rb2,e5,d5⟩:=zse p most signs s4 (D4.at_ hp) h3 (by omega);have D5:=D4.trans d5 hp;rw[gB]at D5
 let z:Sd:=⟨xs,la.reverse,xc,rb⟩
 have ez:jc z=.tup [.int xs,.str la,.str [xc],.str rb]:=by simp[jc,z]
 have body:znj (E none none none none) st=.ok (.rt (jc z)) s5:=by
  refine dO e1 (dO e2 ((LQ t3).trans (dO (dF e4 rfl) ?_)));rw[ez];exact vf (CK (bU rfl (bU rfl (bU rfl (bU (dF e5 rfl) rfl)))))
 have WW:∃g st',aY g/\gc st (.ok (jc z) s5)=.ok (jc z) st'/\DS st p g st':=by
  obtain⟨f,v,n,e⟩:=D5;by_cases es:st.set p (jj f v n)=st
  ·refine⟨[],st,by simp,?_,⟨f,v,n,by rw[es,gB]⟩⟩;rw[e,es];exact sJ (by simp[jc])
  ·refine⟨[.lst []],s5,by simp,?_,⟨f,v,n,e⟩⟩;rw[e];exact xK (o:=jj f v n) hp _ (d:=jc z) (λq=>absurd q es)
 obtain⟨g,st',hg,J8,hD⟩:=WW;refine⟨z,g,st',m1,m2,λc hc=>la2 c (by simpa[z] using hc),rb2,by simpa[z] using la1,rb1,hg,?_,hD⟩;unfold zgy bA bx;rw[show startM 9 [D.loc p,.loc nr,.str signs,.loc ns,.int most]=E none none none none from rfl,body];exact J8
end Law
set_option maxHeartbeats 0
namespace Law
open L2 M Tr
def Rq{α:Type}(l:List α)(x:α):p_ (l++[x]) (-1)=some x:=by
 unfold p_ zW;rw[aeU (by omega),aeT (by simp;omega)];have:((-1:Int)+((l++[x]).length:Nat)).toNat=l.length:=by simp;omega
 rw[this];simp
def Fx(a:List Nat)(c:Nat):p_ ((c::a).reverse) (-1)=some c:=by rw[nF];exact Rq _ _
def Xx{α:Type}(xs:List α):cut xs none (some (-1))=xs.dropLast:=K4 xs
def Pr(B:Bk)(nr:Nat)(z:Sd)(st:ak)(hr:st[nr]? = some (.lst (B.rs.map dh)))(ha:z.a.length<=1000)(hb:z.b.length<=1000) :
  zj5 [.loc nr,jc z] st=.ok (match YX B z with | some z'=>jc z' | none=>.non) st:=by
 unfold zj5 bA bx zq6;generalize Xj:(iJ (oR _ _) _ _:MS)=BD
 let E:Option D->Option D->aM:=λa2 a3=>[some (.loc nr),some (jc z),a2,a3]

 have no:∀(r:Ru) (a3:Option D),¬ (r.s=z.s/\r.x=z.c)->BD (E (some (dh r)) a3) st=.ok (.nx (E (some (dh r)) a3)) st:=λr a3 hn=>by
  rw[<-Xj,zj];by_cases h1:r.s=z.s
  ·refine Z8 (Cu (tu (bH (bH rfl rfl jm) (bH rfl rfl jm) (by rw[h1];exact Ym))) (tu (bH (bH rfl rfl jm) (bH rfl rfl jm) ?_)));rw[eq_str,aeW (λe=>hn ⟨h1,by simpa using e⟩)]
  ·refine Z8 (Rt (tu (bH (bH rfl rfl jm) (bH rfl rfl jm) ?_)));rw[eq_int,aeW (by omega)]
 have yes:∀(r:Ru) (a3:Option D),r.s=z.s/\r.x=z.c->BD (E (some (dh r)) a3) st=.ok (.rt (jc (uo r z))) st:=λr a3 hy=>by
  rw[<-Xj,zj,hy.1,hy.2];refine Ye (Cu (tu (bH (bH rfl rfl jm) (bH rfl rfl jm) Ym)) (tu (bH (bH rfl rfl jm) (bH rfl rfl jm) zhs))) ?_;obtain⟨zs,za,zc,zb⟩:=z;cases hm:r.m with
  | false =>
   rw[show jc (uo r ⟨zs,za,zc,zb⟩)=.tup [.int r.g,.str (za.reverse++[r.w]),.str [zb.headD 95],.str zb.tail] by simp[uo,hm,jc]];obtain⟨U,Y,m1,aa,ii,cc⟩:∃U Y,rZ (.str [95]) (.bl (decide (zb=[]))) st=.ok (.str U) st/\aX (.str zb) (.str U) st=.ok (.str Y) st/\aN (.str Y) (.int 0) st=.ok (.str [zb.headD 95]) st/\Am (.str Y) (some 1) none st=.ok (.str zb.tail) st:=by
    cases zb with
    | nil=>exact⟨[95],[95],rfl,rfl,rfl,rfl⟩
    | cons c t =>
     have hl:(c::t).length<=1000000:=by dsimp only at hb;omega
     refine⟨[],c::t,rfl,?_,?_,?_⟩
     ·rw[add_str (by simpa using hl),gB]
     ·unfold aN;dsimp only;rw[aeT hl,show (0:Int)=((0:Nat):Int) from rfl,Yw];rfl
     ·rw[zqk _ _ _ _ hl,show (1:Int)=((1:Nat):Int) from rfl,zqq];rfl
   exact wV (Ye (tu (bH (bH rfl rfl jm) rfl zhs)) (dO (bH (bH rfl rfl jm) (bH rfl (bH (bH rfl rfl jm) rfl eq_str) m1) aa) (vf (CK (bU (bH rfl rfl jm) (bU (bH (bH rfl rfl jm) (bH rfl rfl jm) (add_str (by simp;dsimp only at ha;omega))) (bU (bH rfl rfl ii) (bU (G5 rfl rfl rfl cc) rfl))))))))
  | true =>
   rw[show jc (uo r ⟨zs,za,zc,zb⟩)=.tup [.int r.g,.str za.tail.reverse,.str [za.headD 95],.str (r.w::zb)] by simp[uo,hm,jc]];obtain⟨U,Y,m1,aa,ii,cc⟩:∃U Y,rZ (.str [95]) (.bl (decide (za.reverse=[]))) st=.ok (.str U) st/\aX (.str U) (.str za.reverse) st=.ok (.str Y) st/\aN (.str Y) (.int (-1)) st=.ok (.str [za.headD 95]) st/\Am (.str Y) none (some (-1)) st=.ok (.str za.tail.reverse) st:=by
    cases za with
    | nil=>exact⟨[95],[95],rfl,rfl,rfl,rfl⟩
    | cons c t =>
     have hl:(c::t).reverse.length<=1000000:=by simp at ha ⊢;omega
     refine⟨[],(c::t).reverse,by rw[aeW (by simp)];rfl,?_,?_,?_⟩
     ·rw[add_str (by simpa using hl),mQ]
     ·unfold aN;dsimp only;rw[aeT hl,Fx];rfl
     ·rw[zqk _ _ _ _ hl,Xx];simp
   exact (LQ (Z8 (tu (bH (bH rfl rfl jm) rfl eq_str)))).trans (dO (bH (bH rfl (bH (bH rfl rfl jm) rfl eq_str) m1) (bH rfl rfl jm) aa) (vf (CK (bU (bH rfl rfl jm) (bU (G5 rfl rfl rfl cc) (bU (bH rfl rfl ii) (bU (bH (bH rfl rfl jm) (bH rfl rfl jm) (add_str (a:=[r.w]) (b:=zb) (by simp;dsimp only at hb;omega))) rfl)))))))
 have key:∀(rs:List Ru) (a2 a3:Option D),(∃TF,cg (aO 2) BD [(nr,.lst (B.rs.map dh))] (rs.map dh) (E a2 a3) st=.ok (.nx (E TF a3)) st/\(rs.find? λr=>decide (r.s=z.s) && decide (r.x=z.c))=none)\/∃r,cg (aO 2) BD [(nr,.lst (B.rs.map dh))] (rs.map dh) (E a2 a3) st=.ok (.rt (jc (uo r z))) st/\(rs.find? λr=>decide (r.s=z.s) && decide (r.x=z.c))=some r:=by
  intro rs
  induction rs with
  | nil=>intro a2 a3;exact .inl ⟨a2,by rw[km,cg,aeT (Gu hr)],rfl⟩
  | cons r rs ih =>
   intro a2 a3;by_cases hy:r.s=z.s/\r.x=z.c
   ·refine .inr ⟨r,?_,by rw[mq];simp[hy.1,hy.2]⟩;rw[gr,cg,aeT (Gu hr),zs2,R.aB];change (BD (E (some (dh r)) a3) st).bind _=_;rw[yes r a3 hy,R.aB]
   ·have hd:(decide (r.s=z.s) && decide (r.x=z.c))=false:=by
     rw[pJ];by_cases q:r.s=z.s
     ·exact .inr (aeW λe=>hy ⟨q,e⟩)
     ·exact .inl (aeW q)
    rw[gr,cg,aeT (Gu hr),zs2,R.aB,mq,hd];change ((∃TF,(BD (E (some (dh r)) a3) st).bind _=_/\_)\/∃r',(BD (E (some (dh r)) a3) st).bind _=_/\_);rw[no r a3 hy,R.aB];exact ih (some (dh r)) a3
 have si:jr (vr 0) (E none none) st=.ok (B.rs.map dh,[(nr,.lst (B.rs.map dh))]) st:=by
  rw[wX];simp only[E,vN,mY,R.aB,hr]
 unfold YX ye;rcases key B.rs none none with⟨a2,h1,h2⟩ | ⟨r,h1,h2⟩
 ·rw[h2];exact fQ (LK si h1 (vf rfl)) rfl (eY (by simp))
 ·rw[h2];exact fQ (wV (by rw[zH];exact (congrArg (R.bind · _) si).trans h1)) rfl (eY (by simp[jc]))
end Law
set_option maxHeartbeats 0
namespace M
namespace Tr
theorem zrk:∀{n:Nat} {t v:Tr},iT (n+1) t=some v->∃u,iT n t=some u/\step u=some v
 | 0,t,v,h=>by
  rw[iT]at h;cases e:step t with
  | none=>rw[e]at h;cases h
  | some x =>
   rw[e]at h;have:x=v:=by simpa[iT] using h
   exact⟨t,rfl,by rw[e,this]⟩
 | n+1,t,v,h=>by
  cases e:step t with
  | none=>rw[iT,e]at h;cases h
  | some x =>
   rw[vp e]at h;obtain⟨u,h1,h2⟩:=zrk h;exact⟨u,by rw[vp e];exact h1,h2⟩
def Dl{t u:Tr}(h:step t=some u):val t=false:=zrp h
end Tr
end M
namespace Law
open L2 M Tr
def ZV{L:Nat}{x y:D}{st:ak}{k:Bool}(h:M.eN L x y st=.ok (.bl k) st):M.Gi L x y st=.ok (.bl (!k)) st:=by
 unfold M.eN at h;unfold M.Gi;cases e:lC L x y st with
 | none=>rw[e]at h;cases h
 | some j =>
  rw[e]at h;injection h with h _;injection h with h;subst h;rfl
def sub_int{i j k:Int}{st:ak}(h:i - j=k):uD (.int i) (.int j) st=.ok (.int k) st:=by subst h;rfl
def Ju(l r:Tr)(s:ak):aN (enc (.jn l r)) (.int 2) s=.ok (.int (lv (.jn l r):Nat)) s:=by rw[enc];exact iw s 2 _ _ rfl
def QJ(r:Ru)(z:Sd)(k:Nat)(ha:z.a.length<=k)(hb:z.b.length<=k):(uo r z).a.length<=k+1/\(uo r z).b.length<=k+1:=by
 unfold uo
 split
 ·exact⟨by simp;omega,by simp;omega⟩
 ·exact⟨by simp;omega,by simp;omega⟩
section
variable  {B:Bk}{b:Nat}{st:ak}
def Cm(hB:LC B)(hss:B.ss.length<=100)(hb:Bs st)(hk:oE st b B)(nr:Nat)(hr:st[nr]? = some (.lst (B.rs.map dh)))(z:Sd)(hz:FP B z)(ha:z.a.length<=100)(oM:z.b.length<=100) :
  zjp [.loc b,.loc nr,jc z,.int (b_ B z:Nat)] st=.ok (.bl true) st:=by
 have cl:=zqt B z hB.few;have nx:=Pr B nr z st hr (by omega) (by omega);have im:=zf8 hB hb hk z hz (by omega) (by omega);have di:=BW hB.ok hB.few hz 100 ha oM;have tr:=zin (lB B z) (b_ B z) st (by omega);have si:=G3 hB.ok z hz.c;cases hn:YX B z with
 | some z' =>
  rw[hn]at nx si;dsimp only at nx si;obtain⟨r,hf,rfl⟩:∃r,ye B z.s z.c=some r/\uo r z=z':=by
   unfold YX at hn;exact ni.mp hn
  have hz':=hz.go hB.ok (n_ hf);obtain⟨la,lb⟩:=QJ r z 100 ha oM;have im':=zf8 hB hb hk (uo r z) hz' (by omega) (by omega);have di':=BW hB.ok hB.few hz' 101 la lb;have rn:=zk3 si.1;rw[rn]at tr;dsimp only at tr;rw[WD,aeU (by decide)]at tr;have eq:M.eN 800 (enc (lB B (uo r z))) (enc (lB B (uo r z))) st=.ok (.bl true) st:=by have:=BR (lB B (uo r z)) (lB B (uo r z)) st (by omega);simpa using this
  have j2:aN (enc (lB B (uo r z))) (.int 2) st=.ok (.int (lv (lB B (uo r z)):Nat)) st:=Ju _ _ _;exact fQ (dO (dF nx rfl) (ZW (dF tr (bU (dF im rfl) rfl)) rfl (T4 (tu (bH rfl rfl (ZV Ym))) (wV (Ye (tu (bH rfl rfl rfl)) (dO (dF im' rfl) (vf (zp0 (bH rfl rfl zhs) (zp0 (bH (bH rfl rfl j2) (bH rfl rfl j2) Ym) (bH rfl rfl eq)))))))))) rfl (eY (by simp))
 | none =>
  rw[hn]at nx si;dsimp only at nx si;have en:=zop hB hb hk z hz (by omega) (by omega);have de:=QV hB.ok hB.few hz 100 ha oM;have rn:=zk3 si.1;rw[rn]at tr;dsimp only at tr;rw[si.2,aeT rfl]at tr;have eq:M.eN 800 (enc (uY B z)) (enc (uY B z)) st=.ok (.bl true) st:=by have:=BR (uY B z) (uY B z) st (by omega);simpa using this
  have j2:aN (enc (uY B z)) (.int 2) st=.ok (.int (lv (uY B z):Nat)) st:=Ju _ _ _;obtain⟨k,Gk⟩:∃k,b_ B z=k+1:=⟨b_ B z - 1,by omega⟩;have si':=si.1;rw[Gk]at si';obtain⟨u,u1,u2⟩:=zrk si';have tr2:=zin (lB B z) k st (by omega);rw[zk3 u1]at tr2;dsimp only at tr2;rw[Dl u2,aeU (by decide)]at tr2;have e1:((b_ B z:Nat):Int) - 1=(k:Int):=by omega
  exact fQ (dO (dF nx rfl) (ZW (dF tr (bU (dF im rfl) rfl)) rfl (T4 (tu (bH rfl rfl (ZV Ym))) (T4 (tu (bH rfl rfl rfl)) (dO (dF en rfl) (T4 (ZS (tu (bH rfl rfl (ZV zhs))) (ZS (tu (bH (bH rfl rfl j2) (bH rfl rfl j2) (ZV Ym))) (tu (bH rfl rfl (ZV eq))))) (vf (bH (bH (dF tr2 (bU (dF im rfl) (bU (bH rfl rfl (sub_int e1)) rfl))) rfl jm) rfl zhs)))))))) rfl (eY (by simp))
end
end Law
set_option maxHeartbeats 0
namespace Law
open L2 M Tr
noncomputable abbrev Rx:List Nat:=[97,98,99,100,101,102,103,104,105,106,107,108,109,110,111,112,113,114,115,116,117,118,119,120,121,122]
theorem zn2:∀cs:List Nat,sV [] (cs.map λc=>[c])=cs
 | []=>rfl
 | [c]=>rfl
 | c::d::r=>by
  have:=zn2 (d::r);show [c]++[]++sV [] (([d])::r.map λc=>[c])=_;rw[show ([d]::r.map λc=>[c])=(d::r).map λc=>[c] from rfl,this];rfl
def abD:D->D
 | .int i=>.str [97+i.toNat]
 | d=>d
def zrm(xs:List Nat)(i:Nat)(n:Nat)(env:aM)(st:ak)(hi:env[i]? = some (some (.loc n)))(hn:st[n]? = some (.lst (aG xs)))(hx:∀x∈xs,x<26)(hl:xs.length<=900) :
  cL "str" wF (ct (.str [])) (aj (cR [none] (jr (vr i)) (aO 0) rH (aF aN (ct (.str Rx)) (vr 0))) au) env st=.ok (.str (xs.map (97 + ·))) (st++[.lst ((xs.map λx=>[97+x]).map D.str)]):=by
 have cc:=T_ (capt:=[none]) (mi:=jr (vr i)) (g:=aO 0) (e:=aF aN (ct (.str Rx)) (vr 0)) (env:=env) (st:=st) (st1:=st) (items:=aG xs) (gs:=[(n,.lst (aG xs))]) abD (λenv=>env.length=1) (by
   rw[wX,vN,hi];simp only[R.aB,hn]) rfl (by rw[Gw];omega) (λys=>Gu (dG hn)) (λd hd bY ys hP=>by
  obtain⟨x,WM,rfl⟩:=gh.mp hd;obtain⟨y,rfl⟩:=m7.mp hP;refine⟨[some (.int x)],rfl,rfl,?_⟩;have h26:=hx x WM;have ix:aN (.str Rx) (.int x) (st++[.lst ys])=.ok (.str [97+x]) (st++[.lst ys]):=by
   unfold aN;dsimp only;rw[aeT (by decide),Yw];have key:∀k:Fin 26,Rx[k.val]? = some (97+k.val):=by decide
   rw[key ⟨x,h26⟩]
  rw[show abD (.int x)=.str [97+x] by simp[abD]];generalize (st++[.lst ys]:ak)=Z at *;simp[ix])
 have em:(aG xs).map abD=(xs.map λx=>[97+x]).map D.str:=by
  unfold aG;rw[gO,gO];exact kJ λx _=>by simp[abD]
 rw[em]at cc;have sm:∀ys:List Nat,((ys.map λx=>[97+x]).map List.length).sum=ys.length:=λys=>by
  induction ys with
  | nil=>rfl
  | cons y ys ih=>rw[gr,gr,pD,ih];simp;omega
 have jn:=U8 (st:=st++[.lst ((xs.map λx=>[97+x]).map D.str)]) [] st.length (xs.map λx=>[97+x]) (by simp[aA]) (by rw[sm];simp;omega);have ej:sV [] (xs.map λx=>[97+x])=xs.map (97 + ·):=by
  have:=zn2 (xs.map (97 + ·));rw[gO]at this;exact this
 rw[ej]at jn;generalize (xs.map λx=>[97+x]).map D.str=Y at *;generalize cR _ _ _ _ _=CE at *;simp[cc,cM,jn]
structure DrB(rs:List Ru)(signs ss:List Nat):Prop where
 r1:rs.length<=12
 r2:(rs.map λr=>(r.s,r.x)).Nodup
 r3:∀r∈rs,r.s∈ss/\r.x∈95::signs/\r.w∈95::signs/\r.g∈ss
 s1:signs.length<=8
 s2:signs.Nodup
 s3:∀c∈signs,97<=c/\c<=122
 n1:0<ss.length
 n2:ss.length<=4
 n3:ss.Nodup
def ad1(k:Nat)(s:ak):aX (.int 1) (.int k) s=.ok (.int ((1+k:Nat):Int)) s:=by rw[Dy];congr 2
def Rm(p:Nat)(st:ak)(h:jf st p) :
  ∃(rs:List Ru) (signs ss:List Nat) (nr ns:Nat) (g st':ak),DrB rs signs ss/\aY g/\st.length<=nr/\st.length<=ns/\st'[nr]? = some (.lst (rs.map dh))/\st'[ns]? = some (.lst (aG ss))/\zjt [.loc p,.int 4] st=.ok (.tup [.loc nr,.str signs,.loc ns]) st'/\DS st p g st':=by
 have hp:=h.lt
 let E:Option D->Option D->Option D->Option D->aM:=λa2 a3 a4 a5=>[some (.loc p),some (.int 4),a2,a3,a4,a5]

 obtain⟨k1,s1,Gk,e1,D1⟩:=Gs p 4 st h (by omega) (by omega);rw[show ((4:Nat):Int)=4 from rfl]at e1;have l1:s1.length=st.length:=D1.len;obtain⟨ss,s2,q1,q2,q3,e2,d2⟩:=zm8 p 5001 (1+k1) s1 (D1.at_ hp) (by omega) (by omega) (by omega) (by omega);have D2:=D1.trans d2 hp;rw[mQ]at D2;rw[l1]at e2;have n2:s2[st.length]? = some (.lst (aG ss)):=D2.last (i:=0) rfl

 let s3:ak:=s2++[.lst [.int 3,.int 9]]
 have D3:DS st p [.lst (aG ss),.lst [.int 3,.int 9]] s3:=by
  obtain⟨f,v,n,e⟩:=D2;exact⟨f,v,n,by simp[s3,e]⟩
 have l2:s2.length=st.length+1:=D2.len;have le:dj [.loc st.length] s3=.ok (.int ss.length) s3:=by
  have:=LR (st:=s3) (n:=st.length) (ds:=aG ss) (by unfold aA;rw[dG n2]);rwa[Gw]at this
 obtain⟨ms,s4,adI,hms,D4,t2⟩:∃(ms:Nat) (s4:ak),0<ms/\ms<=9/\DS st p [.lst (aG ss),.lst [.int 3,.int 9]] s4/\aJ 3 (aF aX (aF aN (dw (aj (ct (.int 3)) (aj (ct (.int 9)) au))) (bw xG (aj (aF ltV (bw dj (aj (vr 2) au)) (ct (.int 3))) au))) (aF eZ (ct (.int 2)) (bw xG (aj (xX (aF Ka (bw dj (aj (vr 2) au)) (ct (.int 2))) (aF (M.eN 800) (az tB [] (aj (vr 0) (aj (ct (.int 4)) au))) (ct (.int 0)))) au)))) (E (some (.loc st.length)) none none none) s2=.ok (.nx (E (some (.loc st.length)) (some (.int ms)) none none)) s4:=by
  have it:aA s3 (st.length+1)=some [.int 3,.int 9]:=by
   have:s3[st.length+1]? = some (.lst [.int 3,.int 9]):=D3.last (i:=1) rfl;unfold aA;rw[this]
  have i0:aN (.loc (st.length+1)) (.int 0) s3=.ok (.int 3) s3:=yh _ _ _ _ _ it rfl;have i1:aN (.loc (st.length+1)) (.int 1) s3=.ok (.int 9) s3:=yh _ _ _ _ _ it rfl;have ls:dw (aj (ct (.int 3)) (aj (ct (.int 9)) au)) (E (some (.loc st.length)) none none none) s2=.ok (.loc (st.length+1)) s3:=by
   rw[<-l2];simp[s3]
  have m0:∀s,eZ (.int 2) (.int 0) s=.ok (.int 0) s:=λs=>CP s 2 0 (by omega);have m1:∀s,eZ (.int 2) (.int 1) s=.ok (.int 2) s:=λs=>CP s 2 1 (by omega);by_cases hc:ss.length<3
  ·refine⟨9,s3,by omega,by omega,D3,?_⟩;refine Yg (d:=.int 9) ?_;have c1:(ss.length:Int)<3:=by omega
   have c2:¬ (ss.length:Int) > 2:=by omega
   generalize dw (aj (ct (.int 3)) (aj (ct (.int 9)) au))=LE at *;simp only[E]at ls ⊢;generalize s3=Z at *;generalize (ss.length:Int)=Q at *;simp[ls,le,c1,xG,i1,c2,m0]
  ·obtain⟨k,s4,hk,e4,d4⟩:=Gs p 4 s3 (D3.at_ hp) (by omega) (by omega);rw[show ((4:Nat):Int)=4 from rfl]at e4;have D4:=D3.trans d4 hp;rw[gB]at D4;have c1:¬ (ss.length:Int)<3:=by omega
   have c2:(ss.length:Int) > 2:=by omega
   by_cases hk0:k=0
   ·subst hk0;refine⟨5,s4,by omega,by omega,D4,?_⟩;refine Yg (d:=.int 5) ?_;rw[show ((0:Nat):Int)=0 from rfl]at e4;generalize dw (aj (ct (.int 3)) (aj (ct (.int 9)) au))=LE at *;simp only[E]at ls ⊢;generalize s3=Z at *;generalize (ss.length:Int)=Q at *;simp[ls,le,c1,xG,i0,c2,e4,m1]
   ·refine⟨3,s4,by omega,by omega,D4,?_⟩;refine Yg (d:=.int 3) ?_;have ck:¬ (k:Int)=0:=by omega
    generalize dw (aj (ct (.int 3)) (aj (ct (.int 9)) au))=LE at *;simp only[E]at ls ⊢;generalize s3=Z at *;generalize (ss.length:Int)=Q at *;generalize (k:Int)=Q2 at *;simp[ls,le,c1,xG,i0,c2,e4,ck,m0]

 obtain⟨k5,s5,hk5,e5,d5⟩:=Gs p ms s4 (D4.at_ hp) adI (by omega);have D5:=D4.trans d5 hp;rw[gB]at D5;have l5:s5.length=st.length+2:=D5.len;obtain⟨xs,s6,r1,r2,r3,e6,d6⟩:=zm8 p 26 k5 s5 (D5.at_ hp) (by omega) (by omega) (by omega) (by omega);have D6:=D5.trans d6 hp;rw[l5]at e6;have n6:s6[st.length+2]? = some (.lst (aG xs)):=D6.last (i:=2) rfl;have jl:=zrm xs 4 (st.length+2) (E (some (.loc st.length)) (some (.int ms)) (some (.loc (st.length+2))) none) s6 rfl n6 r3 (by omega)
 let signs:List Nat:=xs.map (97 + ·)
 let s7:ak:=s6++[.lst ((xs.map λx=>[97+x]).map D.str)]
 have D7:DS st p ([.lst (aG ss),.lst [.int 3,.int 9],.lst (aG xs)]++[.lst ((xs.map λx=>[97+x]).map D.str)]) s7:=by
  obtain⟨f,v,n,e⟩:=D6;exact⟨f,v,n,by show s6++_=_;rw[e,gY];rfl⟩

 obtain⟨k8,s8,hk8,e8,d8⟩:=Gs p 12 s7 (D7.at_ hp) (by omega) (by omega);rw[show ((12:Nat):Int)=12 from rfl]at e8;have D8:=D7.trans d8 hp;rw[gB]at D8;have n8:s8[st.length]? = some (.lst (aG ss)):=D8.last (i:=0) rfl;have sl:signs.length=xs.length:=by simp[signs]
 obtain⟨rs,g9,s9,u1,u2,u3,u4,e9,d9⟩:=Hd p st.length (1+k8) signs ss s8 (D8.at_ hp) n8 (by omega) (by omega) (by omega) (by omega) (by omega);have D9:=D8.trans d9 hp;have l8:s8.length=st.length+4:=D8.len;rw[l8]at e9;have body:zqy (E none none none none) st=.ok (.rt (.tup [.loc (st.length+4),.str signs,.loc st.length])) s9:=by
  refine dO (dF e2 (bU rfl (bU rfl (bU (bH rfl (dF e1 rfl) (ad1 _ _)) rfl)))) ?_;refine (LQ t2).trans ?_;refine dO (dF e6 (bU rfl (bU rfl (bU (dF e5 rfl) rfl)))) ?_;refine dO jl ?_;exact vf (CK (bU (dF e9 (bU rfl (bU rfl (bU rfl (bU (bH rfl (dF e8 rfl) (ad1 _ _)) rfl))))) rfl))
 have n9:s9[st.length+4]? = some (.lst (rs.map dh)):=by rw[<-l8];exact d9.last (i:=0) rfl
 have m9:s9[st.length]? = some (.lst (aG ss)):=D9.last (i:=0) rfl;refine⟨rs,signs,ss,st.length+4,st.length,_,s9,⟨by omega,u2,u3,by omega,?_,?_,by omega,by omega,q2⟩,?_,by omega,by omega,n9,m9,?_,D9⟩
 ·show (xs.map (97 + ·)).Nodup;exact List.Pairwise.map _ (λa b hab e=>hab (by omega)) r2
 ·intro c hc;obtain⟨x,hx,rfl⟩:=gh.mp hc;have:=r3 x hx;show 97<=97+x/\97+x<=122;omega
 ·simp[u4]
 ·unfold zjt bA bx;rw[show startM 6 [D.loc p,.int 4]=E none none none none from rfl,body];show gc st (.ok _ s9)=_;unfold gc;dsimp only;rw[aeU (λq=>by have:=q.2;simp at this)]
noncomputable def QM(z:Sd):D->Bool
 | .tup [.int s,.str [x],_,_,_]=>decide (s=(z.s:Int)) && decide (x=z.c)
 | _=>false
def PB:D->D
 | .tup [_,_,_,m,_]=>m
 | d=>d
def BP(z:Sd)(r:Ru):QM z (dh r)=(decide (r.s=z.s) && decide (r.x=z.c)):=by
 rw[zj];show (decide ((r.s:Int)=(z.s:Int)) && _)=_;congr 1;rw[mz];simp only[ae2];omega
def Ip{rs:List Ru}(h:(rs.map λr=>(r.s,r.x)).Nodup)(s c:Nat):(rs.filter λr=>decide (r.s=s) && decide (r.x=c))=((rs.find? λr=>decide (r.s=s) && decide (r.x=c)).map λr=>[r]).getD []:=by
 induction rs with
 | nil=>rfl
 | cons r rs ih =>
  rw[gr,mF]at h;rw[List.filter_cons,mq];by_cases hq:(decide (r.s=s) && decide (r.x=c))=true
  ·rw[aeT hq,hq];have:(rs.filter λr=>decide (r.s=s) && decide (r.x=c))=[]:=by
    rw[List.filter_eq_nil_iff];intro q hm hf;rw[gH,ae2,ae2]at hf hq;exact h.1 (gh.mpr ⟨q,hm,by rw[hf.1,hf.2,hq.1,hq.2]⟩)
   rw[this];rfl
  ·rw[aeU hq,Bool.not_eq_true _ |>.mp hq];exact ih h.2
def zpo(rs:List Ru)(z:Sd)(nr:Nat)(env:aM)(st:ak)(h1:env[1]? = some (some (.loc nr)))(h2:env[2]? = some (some (jc z)))(hr:st[nr]? = some (.lst (rs.map dh)))(hl:rs.length<=1000) :
  cR [some 2,none] (jr (vr 1)) (aO 1) (oR (fu (aF (M.eN 800) (aF aN (vr 1) (ct (.int 0))) (aF aN (vr 0) (ct (.int 0))))) (fu (aF (M.eN 800) (aF aN (vr 1) (ct (.int 1))) (aF aN (vr 0) (ct (.int 2)))))) (aF aN (vr 1) (ct (.int 3))) env st=.ok (.loc st.length) (st++[.lst ((rs.filter λr=>decide (r.s=z.s) && decide (r.x=z.c)).map λr=>D.str (sU r.m))]):=by
 have cc:=zex (capt:=[some 2,none]) (mi:=jr (vr 1)) (g:=aO 1) (t:=oR (fu (aF (M.eN 800) (aF aN (vr 1) (ct (.int 0))) (aF aN (vr 0) (ct (.int 0))))) (fu (aF (M.eN 800) (aF aN (vr 1) (ct (.int 1))) (aF aN (vr 0) (ct (.int 2)))))) (e:=aF aN (vr 1) (ct (.int 3))) (env:=env) (st:=st) (st1:=st) (items:=rs.map dh) (gs:=[(nr,.lst (rs.map dh))]) (QM z) PB (λenv=>∃x,env=[some (jc z),x]) (by
   rw[wX,vN,h1];simp only[R.aB,hr]) ⟨none,by simp[j9,h2]⟩ (by simp;omega) (λys=>Gu (dG hr)) (λd hd bY ys hP=>by
  obtain⟨r,hrm,rfl⟩:=gh.mp hd;obtain⟨x,rfl⟩:=hP;have x0:∀s,aN (jc z) (.int 0) s=.ok (.int z.s) s:=λs=>iw s 0 _ _ rfl;have x2:∀s,aN (jc z) (.int 2) s=.ok (.str [z.c]) s:=λs=>iw s 2 _ _ rfl;have y0:∀s,aN (dh r) (.int 0) s=.ok (.int r.s) s:=λs=>by rw[zj];exact iw s 0 _ _ rfl
  have y1:∀s,aN (dh r) (.int 1) s=.ok (.str [r.x]) s:=λs=>by rw[zj];exact iw s 1 _ _ rfl
  have y3:∀s,aN (dh r) (.int 3) s=.ok (.str (sU r.m)) s:=λs=>by rw[zj];exact iw s 3 _ _ rfl
  have em:PB (dh r)=.str (sU r.m):=by rw[zj];rfl
  refine⟨[some (jc z),some (dh r)],⟨_,rfl⟩,rfl,?_,λ_=>?_⟩
  ·rw[BP];generalize (st++[.lst ys]:ak)=Z at *;generalize dh r=RD at *;generalize jc z=SD at *;by_cases q:r.s=z.s
   ·have e1:(r.s:Int)=(z.s:Nat):=by omega
    by_cases q2:r.x=z.c
    ·simp[y0,x0,e1,y1,x2,q,q2]
    ·simp[y0,x0,e1,y1,x2,q,q2]
   ·have e1:¬ (r.s:Int)=(z.s:Nat):=by omega
    simp[y0,x0,e1,q]
  ·rw[em];generalize (st++[.lst ys]:ak)=Z at *;generalize dh r=RD at *;simp[y3])
 have ef:((rs.map dh).filter (QM z)).map PB=(rs.filter λr=>decide (r.s=z.s) && decide (r.x=z.c)).map λr=>D.str (sU r.m):=by
  rw[List.filter_map,gO];have e1:(QM z∘dh)=λr=>decide (r.s=z.s) && decide (r.x=z.c):=by funext r;exact BP z r
  rw[e1];refine kJ λr _=>?_;show PB (dh r)=_;rw[zj];rfl
 rw[ef]at cc;exact cc
def Xm(mv:List (List Nat))(x:List Nat)(n m:Nat)(st:ak)(h1:aA st n=some (mv.map D.str))(h2:aA st m=some [.str x])(hl:mv.length<=1):M.eN 800 (.loc n) (.loc m) st=.ok (.bl (decide (mv=[x]))) st:=by
 unfold M.eN;have e:lC 800 (.loc n) (.loc m) st=some (decide (mv=[x])):=by
  simp only[lC,h1,h2]
  match mv,hl with
  | [],_ =>
   rw[aeT ⟨rfl,by simp,by simp[fW]⟩];simp[ju]
  | [y],_ =>
   rw[aeT ⟨by simp,by simp,by simp[fW]⟩];simp[ju,jJ];rw[mz];simp
 rw[e]
def PJ(B:Bk)(signs:List Nat)(hs:B.ls=95::signs)(hq:(B.rs.map λr=>(r.s,r.x)).Nodup)(p nr:Nat)(z:Sd)(st:ak)(h:jf st p)(hr:st[nr]? = some (.lst (B.rs.map dh)))(W8:nr≠p)(hl:B.rs.length<=1000)(h3:signs.length<=900)(ha:z.a.length<=1000)(hb:z.b.length<=1000) :
  ∃(z2:Sd) (g st':ak),z2.s=z.s/\z2.c=z.c/\(∀c∈z2.a,c∈B.ls)/\(∀c∈z2.b,c∈B.ls)/\z2.a.length<=3/\z2.b.length<=3/\b_ B z2=b_ B z/\aY g/\zi8 [.loc p,.loc nr,jc z,.str signs] st=.ok (jc z2) st'/\DS st p g st':=by
 have hp:=h.lt;have x0:∀s,aN (jc z) (.int 0) s=.ok (.int z.s) s:=λs=>iw s 0 _ _ rfl;have x2:∀s,aN (jc z) (.int 2) s=.ok (.str [z.c]) s:=λs=>iw s 2 _ _ rfl
 let UW:Nat->List Nat:=λk=>if k=0 then z.a.reverse else z.b
 have xk:∀(k:Nat) s,k<2->aN (jc z) (.int (1+2*(k:Nat))) s=.ok (.str (UW k)) s:=λk s hk=>by
  rcases (by omega:k=0\/k=1) with rfl | rfl
  ·exact iw s 1 _ _ rfl
  ·exact iw s 3 _ _ rfl
 have lr:∀(k:Nat) s,k<2->aN (.str [108,114]) (.int (k:Nat)) s=.ok (.str (sU (decide (k=0)))) s:=λk s hk=>by
  rcases (by omega:k=0\/k=1) with rfl | rfl<;>rfl
 let FL:List Ru:=B.rs.filter λr=>decide (r.s=z.s) && decide (r.x=z.c)
 let mv:List (List Nat):=FL.map λr=>sU r.m
 have QF:FL=((ye B z.s z.c).map λr=>[r]).getD []:=Ip hq z.s z.c;have hmv:mv.length<=1:=by
  show (FL.map _).length<=1;rw[QF,gq];cases ye B z.s z.c<;>simp
 let E:Option D->Option D->Option D->Option D->aM:=λa4 a5 a6 a7=>[some (.loc p),some (.loc nr),some (jc z),some (.str signs),a4,a5,a6,a7]
 have mc:=zpo B.rs z nr (E none none none none) st rfl rfl hr hl;have emv:(FL.map λr=>D.str (sU r.m))=mv.map D.str:=by show _=(FL.map _).map _;rw[gO];rfl
 change _=R.ok _ (st++[.lst (FL.map λr=>D.str (sU r.m))]) at mc;rw[emv]at mc;unfold zi8 bA bx zpu;generalize Xj:(aC (aJ 7 (az T7 [] _)) _:MS)=BD;generalize hCE:cR _ _ _ _ _=CE at *
 let EL:Option D->Option D->aM:=λa6 a7=>E (some (.loc st.length)) (some (.loc (st.length+1))) a6 a7

 let fit:Nat->List Nat->Prop:=λk t=>(∀c∈t,c∈B.ls)/\t.length<=3/\(mv=[sU (decide (k=0))]->(t=[]↔UW k=[]))
 obtain⟨bY,st',hh,a6,a7,ts,G,q1,q2,q3,rfl,q4⟩:=yV (g:=aO 6) (b:=BD) (gs:=[]) (items:=jq 0 2) (λi env s=>∃(a6 a7:Option D) (ts:List (List Nat)) (G:ak),ts.length=i/\(∀k t,ts[k]? = some t->fit k t)/\aY G/\env=EL a6 a7/\DS st p (.lst (mv.map D.str)::.lst (ts.map D.str)::G) s)
  (env:=EL none none) (st:=st++[.lst (mv.map D.str)]++[.lst []]) ⟨none,none,[],[],rfl,by simp,by simp,rfl,by
   obtain⟨f,v,n,q⟩:=h;exact⟨f,v,n,by rw[set_same q,gY];rfl⟩⟩ (by
   rintro i d env s hi ⟨a6,a7,ts,G,q1,q2,q3,rfl,wk⟩;obtain⟨Zu,rfl⟩:=zhv hi;rw[Int.zero_add];obtain⟨cs,s1,c1,c2,e1,d1⟩:=zse p 3 signs s (wk.at_ hp) h3 (by omega);have D1:=wk.trans d1 hp;rw[gB]at D1;rw[show ((3:Nat):Int)=3 from rfl]at e1
   let X:MO:=.lst [.str (sU (decide (i=0)))]
   let s2:ak:=s1++[X]
   have D2:DS st p (.lst (mv.map D.str)::.lst (ts.map D.str)::(G++[X])) s2:=by
    obtain⟨f,v,n,e⟩:=D1;exact⟨f,v,n,by show s1++[X]=_;rw[e,gY];rfl⟩
   have gm:s2[st.length]? = some (.lst (mv.map D.str)):=D2.last (i:=0) rfl;have gt:s2[st.length+1]? = some (.lst (ts.map D.str)):=D2.last (i:=1) rfl;have eq:=Xm mv (sU (decide (i=0))) st.length s1.length s2 (by unfold aA;rw[gm]) (by simp[s2,X,aA]) hmv;have hlr:=lr i s1 Zu;have Zk:=xk i s2 Zu;have mu:∀s,eZ (.int 2) (.int i) s=.ok (.int (2*(i:Nat))) s:=λs=>CP s 2 i (by omega)

   let txt:List Nat:=if mv=[sU (decide (i=0))] then (if UW i=[] then [] else if cs=[] then [95] else cs) else cs
   have ft:fit i txt:=by
    refine⟨?_,?_,λhm=>?_⟩
    ·show ∀c∈txt,c∈B.ls;rw[hs];simp only[txt]
     split
     ·split
      ·simp
      ·split
       ·simp
       ·exact c2
     ·exact c2
    ·simp only[txt]
     split
     ·split
      ·simp
      ·split
       ·simp
       ·exact c1
     ·exact c1
    ·simp only[txt];rw[aeT hm];by_cases q:UW i=[]
     ·simp[q]
     ·rw[aeU q];by_cases q5:cs=[]
      ·simp[q5,q]
      ·simp[q5,q]
   have ap:aV (.loc (st.length+1)) [.str txt] s2=.ok .non (s2.set (st.length+1) (.lst ((ts++[txt]).map D.str))):=by
    unfold aV;simp only[gt];rw[aeT (by simp;omega)];simp
   have ty:cM "list" (.loc (st.length+1)) s2=true:=by
    simp only[cM,gt]
    rfl
   have D3:DS st p (.lst (mv.map D.str)::.lst ((ts++[txt]).map D.str)::(G++[X])) (s2.set (st.length+1) (.lst ((ts++[txt]).map D.str))):=by
    obtain⟨f,v,n,e⟩:=D2;refine⟨f,v,n,?_⟩;rw[e,nQ,aeU (by simp)];simp
   refine⟨by simp,EL (some (.int i)) a7,s,rfl,EL (some (.int i)) (some (.str txt)),s2.set (st.length+1) (.lst ((ts++[txt]).map D.str)),.inl ?_,_,_,ts++[txt],G++[X],by simp[q1],?_,by simp[q3,X],rfl,D3⟩
   ·rw[<-Xj];refine dO (dF e1 rfl) ?_;have le:∀a,dw (aj (aF aN (ct (.str [108,114])) (vr 6)) au) (EL (some (.int i)) a) s1=.ok (.loc s1.length) s2:=λa=>by
     simp only[EL,E];generalize jc z=SD at *;simp[hlr,s2,X]
    refine (LQ (env1:=EL (some (.int i)) (some (.str txt))) (st1:=s2) ?_).trans ?_
    ·change iJ _ _ _ (EL (some (.int i)) (some (.str cs))) s1=_;have Y6:=le (some (.str cs));generalize dw (aj (aF aN (ct (.str [108,114])) (vr 6)) au)=LE at *;simp only[txt];simp only[EL,E]at Y6 ⊢;generalize s2=Z2 at *;generalize UW i=SK at *;generalize jc z=SD at *;generalize sU (decide (i=0))=MM at *;by_cases q:mv=[MM]
     ·rw[ae3 q]at eq;by_cases q5:SK=[]
      ·rw[q5]at Zk;simp[Y6,eq,mu,Zk,q,q5]
      ·by_cases q6:cs=[]
       ·rw[q6]at Y6;simp[Y6,eq,mu,Zk,q,q5,q6]
       ·simp[Y6,eq,mu,Zk,q,q5,q6]
     ·rw[aeW q]at eq;simp[Y6,eq,q]
    generalize s2.set (st.length+1) (.lst ((ts++[txt]).map D.str))=Z3 at *;generalize s2=Z2 at *;simp only[EL,E];generalize txt=T at *;generalize jc z=SD at *;simp[ty,ap]
   ·intro k t hkt;by_cases hk:k<ts.length
    ·rw[gK hk]at hkt;exact q2 k t hkt
    ·have hkl:=(gf.mp hkt).1;rw[gJ,mH]at hkl;have:k=i:=by omega
     subst this;rw[h_ (by omega),q1,Nat.sub_self]at hkt;obtain rfl:txt=t:=by simpa using hkt
     exact ft) (λ_ _ _=>by simp)
 rw[T8]at q1;obtain⟨t0,Uy,rfl⟩:∃a b,ts=[a,b]:=by
  match ts,q1 with
  | [a,b],_=>exact⟨a,b,rfl⟩
 have f0:=q2 0 t0 rfl;have f1:=q2 1 Uy rfl
 let z2:Sd:=⟨z.s,t0.reverse,z.c,Uy⟩
 have gt:st'[st.length+1]? = some (.lst [.str t0,.str Uy]):=q4.last (i:=1) rfl;have it:aA st' (st.length+1)=some [.str t0,.str Uy]:=by unfold aA;rw[gt]
 have w0:aN (.loc (st.length+1)) (.int 0) st'=.ok (.str t0) st':=yh _ _ _ _ _ it rfl;have w1:aN (.loc (st.length+1)) (.int 1) st'=.ok (.str Uy) st':=yh _ _ _ _ _ it rfl;have rg:dq (aj (ct (.int 2)) au) (EL none none) (st++[.lst (mv.map D.str)]++[.lst []])=.ok (jq 0 2,[]) (st++[.lst (mv.map D.str)]++[.lst []]):=Ys 2 rfl (by omega);have ez:jc z2=.tup [.int z.s,.str t0,.str [z.c],.str Uy]:=by simp[jc,z2]
 have qW:b_ B z2=b_ B z:=by
  unfold b_;show _+(match ye B z.s z.c with | none=>xO | some r=>iu r.m+(if (if r.m=true then z2.a else z2.b)=[] then oh r.m else j8 r.m)+wM B r.g)=_;cases hf:ye B z.s z.c with
  | none=>rfl
  | some r =>
   have em:mv=[sU r.m]:=by
    show FL.map _=_;rw[QF,hf];rfl
   dsimp only;have:((if r.m=true then z2.a else z2.b)=[])↔((if r.m=true then z.a else z.b)=[]):=by
    cases hm:r.m with
    | true =>
     have:=f0.2.2 (by rw[em,hm];rfl);simp only[z2,UW]at this ⊢;simpa using this
    | false =>
     have:=f1.2.2 (by rw[em,hm];rfl);simp only[z2,UW]at this ⊢;simpa using this
   by_cases q:(if r.m=true then z.a else z.b)=[]
   ·rw[aeT q,aeT (this.mpr q)]
   ·rw[aeU q,aeU (λw=>q (this.mp w))]
 have WW:∃g st2,aY g/\gc st (.ok (jc z2) st')=.ok (jc z2) st2/\DS st p g st2:=by
  obtain⟨f,v,n,e⟩:=q4;by_cases es:st.set p (jj f v n)=st
  ·refine⟨[],st,by simp,?_,⟨f,v,n,by rw[es,gB]⟩⟩;rw[e,es];exact sJ (by simp[jc])
  ·refine⟨_,st',?_,?_,⟨f,v,n,e⟩⟩
   ·simp[q3]
   ·rw[e];exact xK (o:=jj f v n) hp _ (d:=jc z2) (λq=>absurd q es)
 obtain⟨g,st2,hg,J8,hD⟩:=WW;refine⟨z2,g,st2,rfl,rfl,λc hc=>f0.1 c (by simpa[z2] using hc),f1.1,by simpa[z2] using f0.2.1,f1.2.1,qW,hg,?_,hD⟩;refine fQ ?_ rfl J8;change aC _ _ (E none none none none) st=_;refine dO mc ?_;refine dO (st1:=st++[.lst (mv.map D.str)]++[.lst []]) (d:=.loc (st.length+1)) (by simp) ?_;refine (LQ (env1:=EL a6 a7) (st1:=st') ?_).trans ?_
 ·rw[zH];change (dq _ (EL none none) _).bind _=_;rw[rg,R.aB];exact hh
 ·rw[ez];exact vf (CK (bU (bH rfl rfl (x0 _)) (bU (bH rfl rfl w0) (bU (bH rfl rfl (x2 _)) (bU (bH rfl rfl w1) rfl)))))
def zO{α:Type}{f:Bool}{v n:Int}(xs:List α)(g:α->D)(hg:∀x b,g x≠.bl b):(MO.lst (xs.map g))≠jj f v n:=by
 cases xs with
 | nil=>simp[jj]
 | cons x xs =>
  intro e;unfold jj at e;injection e with e;rw[gr]at e;injection e with e _;exact hg _ _ e
def U3(r:Ru)(b:Bool):dh r≠.bl b:=by rw[zj];simp
def Xp(t:Tr)(b:Bool):enc t≠.bl b:=by cases t<;>simp[enc]
def oE.dr{st st':ak}{b p:Nat}{B:Bk}(h:oE st b B)(k:Keeps st st' [p])(hp:jf st p):oE st' b B:=by
 obtain⟨f,v,n,hp⟩:=hp;have ne:∀j o,st[j]? = some o->o≠jj f v n->st'[j]? = some o:=λj o hj hn=>k j o (λhm=>by
  obtain rfl:=g_.mp hm;rw[hp]at hj;cases hj;exact hn rfl) hj
 have mv:∀q m,dm st q m B.ls->dm st' q m B.ls:=λq m hm=>by
  obtain⟨w,W,h1,h2,h3⟩:=hm;refine⟨w,W,ne _ _ h1 (by simp[jj]),ne _ _ h2 (by simp[jj]),λc hc=>?_⟩;obtain⟨q,q1,q2⟩:=h3 c hc;exact⟨q,q1,ne _ _ q2 (by simp[jj,R0])⟩
 obtain⟨fs,ns,nk,nt,nm,ml,mr,nr,Gh,h1,h2,h3,h4,h5,h6⟩:=h.ex;refine⟨fs,ns,nk,nt,nm,ml,mr,nr,Gh,⟨ne _ _ h1.o (by simp[jj]),h1.f1,h1.f2,h1.f3,h1.f4,h1.f5,h1.f6,ne _ _ h1.s (zO _ _ (by simp)),ne _ _ h1.k (by simp[jj]),ne _ _ h1.t (by simp[jj]),ne _ _ h1.m (by simp[jj]),mv _ _ h1.l,mv _ _ h1.r⟩,h2,ne _ _ h3 (zO _ _ Xp),h4,ne _ _ h5 (zO _ _ U3),h6⟩
def Jc{c:PySem.Str}{F:FD}{mA:MA}{env:aM}{X X' X1:ak}{as:List D}(ha:mA env X=.ok as X')(hf:F (.loc X'.length::as) (X'++[.ins c []])=.ok .non X1):jK c F mA env X=.ok (.loc X'.length) X1:=by
 unfold jK;rw[ha,R.aB,hf];rfl
def newD(ss:List Nat):D->Bool
 | .int i=>!decide (i.toNat∈ss)
 | _=>true
def Dm(h:Int)(ss:List Nat)(ns:Nat)(a0 a2 a3 a4:Option D)(st:ak)(hn:st[ns]? = some (.lst (aG ss)))(hl:ss.length<=4)(hd:ss.Nodup) :
  ∃(ss':List Nat) (n':Nat) (g:ak),aY g/\ss'.Nodup/\(∀s∈ss,s∈ss')/\ss.length<=ss'.length/\ss'.length<=38/\(n'=ns\/st.length<=n')/\(st++g)[n']? = some (.lst (aG ss')) /\
   iJ (fu (aF (M.eN 800) (aF fZ (aF eQ (vr 1) (ct (.int 2))) (ct (.int 8))) (ct (.int 1)))) (aJ 5 (aF aX (vr 5) (cR [some 5,none] (dq (aj (aF aX (ct (.int 4)) (aF fZ (aF eQ (vr 1) (ct (.int 16))) (ct (.int 31)))) au)) (aO 1) (fu (aF (uR 800 true) (vr 1) (vr 0))) (vr 1)))) bN [a0,some (.int h),a2,a3,a4,some (.loc ns),none,none,none,none] st=.ok (.nx [a0,some (.int h),a2,a3,a4,some (.loc n'),none,none,none,none]) (st++g):=by
 have dv:∀(i j:Int) s,0<j/\j<2 ^ 64->eQ (.int i) (.int j) s=.ok (.int (i / j)) s:=λi j s hj=>zd7 s i j hj;have mo:∀(i j:Int) s,0<j->fZ (.int i) (.int j) s=.ok (.int (i % j)) s:=λi j s hj=>zfp s i j hj;have d2:=λs=>dv h 2 s (by omega);have d16:=λs=>dv h 16 s (by omega);have m8:=λi s=>mo i 8 s (by omega);have m31:=λi s=>mo i 31 s (by omega);by_cases q:h / 2 % 8=1
 ·obtain⟨m,hm,SX⟩:∃m:Nat,4+h / 16 % 31=(m:Int)/\m<=34:=⟨(4+h / 16 % 31).toNat,by omega,by omega⟩
  let env:aM:=[a0,some (.int h),a2,a3,a4,some (.loc ns),none,none,none,none]
  have rg:dq (aj (aF aX (ct (.int 4)) (aF fZ (aF eQ (vr 1) (ct (.int 16))) (ct (.int 31)))) au) env st=.ok (jq 0 m,[]) st:=by
   refine Ys m ?_ (by omega);simp[env,d16,m31,hm]
  have cc:=zex (capt:=[some 5,none]) (mi:=dq (aj (aF aX (ct (.int 4)) (aF fZ (aF eQ (vr 1) (ct (.int 16))) (ct (.int 31)))) au)) (g:=aO 1) (t:=fu (aF (uR 800 true) (vr 1) (vr 0))) (e:=vr 1) (env:=env) (st:=st) (st1:=st) (items:=jq 0 m) (gs:=[]) (newD ss) (λd=>d) (λenv=>∃x,env=[some (.loc ns),x]) rg ⟨none,rfl⟩ (by rw[T8];omega) (λys=>by simp) (λd hd bY ys hP=>by
   obtain⟨k,hk,rfl⟩:=gh.mp hd;obtain⟨x,rfl⟩:=hP;rw[Int.zero_add];refine⟨[some (.loc ns),some (.int k)],⟨_,rfl⟩,rfl,?_,λ_=>by simp⟩;have il:=J0 ss true k ns (st++[.lst ys]) (by unfold aA;rw[dG hn]);rw[show newD ss (.int k)=!decide (k∈ss) by simp[newD]];rw[aeT rfl]at il;generalize (st++[.lst ys]:ak)=Z at *;simp[il])
  let xs:List Nat:=(List.range m).filter λk=>!decide (k∈ss)
  have ex:((jq 0 m).filter (newD ss)).map (λd=>d)=aG xs:=by
   unfold jq aG;rw[List.filter_map,gO];have e1:(newD ss∘λ(k:Nat)=>D.int (0+(k:Nat)))=λk=>!decide (k∈ss):=by funext k;simp[newD]
   rw[e1];exact kJ λk _=>by simp
  rw[ex]at cc;have lx:xs.length<=34:=by
   have:=List.length_filter_le (λk=>!decide (k∈ss)) (List.range m);rw[List.length_range]at this;exact kh this SX
  have nx:xs.Nodup:=List.Pairwise.filter _ List.nodup_range;have ap:aX (.loc ns) (.loc st.length) (st++[.lst (aG xs)])=.ok (.loc (st.length+1)) (st++[.lst (aG xs),.lst (aG (ss++xs))]):=by
   unfold aX;simp only[dG hn,zsa];show (if (aG ss).length+(aG xs).length<=1000000 then _ else _)=_;rw[aeT (by rw[Gw,Gw];omega)];simp[aG]
  refine⟨ss++xs,st.length+1,[.lst (aG xs),.lst (aG (ss++xs))],by simp,nJ.mpr ⟨hd,nx,λa ha b hb e=>?_⟩,λs hs=>p7 _ hs,by simp,by simp;omega,.inr (by omega),by simp,?_⟩
  ·subst e;have:=(List.mem_filter.mp hb).2;simp[ha]at this
  ·change iJ _ _ _ env _=_;generalize cR _ _ _ _ _=CE at *;simp only[env]at cc ⊢;generalize aG xs=Y at *;generalize aG (ss++xs)=Y2 at *;simp[d2,m8,q,cc,ap]
 ·refine⟨ss,ns,[],by simp,hd,λ_ h=>h,gb _,by omega,.inl rfl,by simpa using hn,?_⟩;rw[gB];simp[d2,m8,q]
def zq2(ns:List Int)(k:Nat)(mx:ME)(q:Int)(env:aM)(st:ak)(h0:env[0]? = some (some (.loc 0)))(hx:mx env st=.ok (.int q) st)(hi:aA st 0=some (ns.map D.int))(hk:k<=10000) :
  dw (aj (aF (M.eN 800) mx (ct (.int 1))) (aj (az RN [] (aj (vr 0) (aj (ct (.int k)) au))) (aj (ct (.int 0)) au))) env st=.ok (.loc st.length) (st++[jj (decide (q=1)) (u0 ns k) 0]):=by
 have ce:=Cg ns 0 k st hi hk;unfold jj;generalize (k:Int)=K at *;simp[h0,hx,ce]
def law_true(ns:List Int)(Eo:ns.length<=63):∃st,zlu [.loc 0] [.frz (ns.map D.int),.tab "out_and_cost",.tab "put_in"]=.ok (.bl true) st:=by
 generalize hS0:([.frz (ns.map D.int),.tab "out_and_cost",.tab "put_in"]:ak)=S0;have it0:aA S0 0=some (ns.map D.int):=by subst hS0;rfl
 have hb0:Bs S0:=by subst hS0;exact⟨rfl,rfl,by intro o ho;simp at ho;rcases ho with rfl | rfl | rfl<;>rfl⟩
 have hl0:S0.length=3:=by subst hS0;rfl
 have z0:S0[0]? = some (.frz (ns.map D.int)):=by subst hS0;rfl
 clear hS0
 let h:Int:=u0 ns 0
 have ce0:RN [.loc 0,.int 0] S0=.ok (.int h) S0:=Cg ns 0 0 S0 it0 (by omega);have dv:∀(i j:Int) s,0<j/\j<2 ^ 64->eQ (.int i) (.int j) s=.ok (.int (i / j)) s:=λi j s hj=>zd7 s i j hj;have mo:∀(i j:Int) s,0<j->fZ (.int i) (.int j) s=.ok (.int (i % j)) s:=λi j s hj=>zfp s i j hj

 let S1:ak:=S0++[jj (decide (h % 2=1)) (u0 ns 1) 0]
 have hd1:jf S1 3:=⟨_,_,_,by rw[<-hl0];simp[S1];rfl⟩;have c1:aY S1:=(RV _ _).mpr ⟨hb0.c,by simp[jj]⟩;have k1:Keeps S0 S1 []:=Keeps.app _ _;have l1:S1.length=4:=by simp[S1,hl0]

 obtain⟨rs,signs,ss,nr,YZ,g2,S2,dB,cg2,W8,aeA,r2,n2,e2,D2⟩:=Rm 3 S1 hd1;have c2:aY S2:=D2.clo c1 cg2;have k2:=D2.keeps;have hd2:jf S2 3:=D2.at_ (by omega)

 obtain⟨ss',n',g3,cg3,x1,x2,x3,x4,x5,n3,e3⟩:=Dm h ss YZ (some (.loc 0)) (some (.loc 3)) (some (.loc nr)) (some (.str signs)) S2 n2 dB.n2 dB.n3;generalize hS3:(S2++g3:ak)=S3 at *;have k3:Keeps S2 S3 []:=by rw[<-hS3];exact Keeps.app _ _
 have c3:aY S3:=by rw[<-hS3];exact (RV _ _).mpr ⟨c2,cg3⟩
 have J6:4<=S2.length:=by rw[D2.len];omega
 have abr:n'≠3:=by rcases x5 with rfl | q<;>omega
 have r3:S3[nr]? = some (.lst (rs.map dh)):=k3 _ _ (by simp) r2;have hd3:jf S3 3:=by rw[<-hS3];exact hd2.app _

 let B:Bk:=⟨95::signs,ss',rs⟩
 have n95:95∉signs:=λq=>by have:=dB.s3 95 q;omega
 have hB:LC B:={
  ok:={
   nl:=mF.mpr ⟨n95,dB.s2⟩
   ns:=x1
   bl:=p6 ..
   z:=λq=>by
    rcases gj.mp q with q | q
    ·omega
    ·have:=dB.s3 0 q;omega
   many:=kh x4 (by omega)
   ru:=λr hr=>⟨x2 _ (dB.r3 r hr).2.2.2,(dB.r3 r hr).2.2.1⟩ }
  v9:=λc hc=>by
   rcases gj.mp hc with q | q
   ·exact .inl q
   ·exact .inr (dB.s3 c q)
  few:=by have:=dB.s1;show (95::signs).length<=9;simp;omega
  x:=λr hr=>(dB.r3 r hr).2.1
  ss:=kh x4 (by omega)
  s0:=by have:=dB.n1;show 0<ss'.length;omega
  rs:=kh dB.r1 (by omega) }
 let b:Nat:=S3.length+2
 let S4:ak:=S3++[.lst (rs.map dh),.lst (aG ss')]
 let XH:ak:=S4++[.ins "Book" []]
 have l4:S4.length=b:=by simp[S4,b]
 have k4:Keeps S3 XH []:=(Keeps.app _ _).trans (Keeps.app _ _);have c4:aY XH:=(RV _ _).mpr ⟨(RV _ _).mpr ⟨c3,by simp⟩,by intro o ho;obtain rfl:=g_.mp ho;rfl⟩;have k04:Keeps S0 XH [3]:=(((k1.more).trans k2).trans k3.more).trans k4.more;have hb4:Bs XH:=hb0.keeps k04 (by simp) (by simp) c4;obtain⟨S5,e5,k5,bk5,c5⟩:=zm1 B hB signs rfl b S3.length (S3.length+1) XH hb4 (by rw[<-l4];simp[XH]) (dG (by simp[S4];rfl)) (dG (by simp[S4];rfl));have l3:4<=S3.length:=by rw[<-hS3];simp;omega
 have vo:∀j o,S3[j]? = some o->S5[j]? = some o:=λj o hj=>k5 _ _ (λhm=>by
  have:=g_.mp hm;have:=(gf.mp hj).1;omega) (k4 _ _ (by simp) hj)
 have hd5:jf S5 3:=by
  obtain⟨f,v,n,q⟩:=hd3;exact⟨f,v,n,vo _ _ q⟩

 obtain⟨most,hm,SX⟩:∃most:Nat,p_ [D.int 3,.int 39,.int 3] (h / 16 % 3)=some (.int most)/\most<=39:=by
  rcases (by omega:h / 16 % 3=0\/h / 16 % 3=1\/h / 16 % 3=2) with q | q | q<;>rw[q]
  ·exact⟨3,rfl,by omega⟩
  ·exact⟨39,rfl,by omega⟩
  ·exact⟨3,rfl,by omega⟩
 let S5':ak:=S5++[.lst [.int 3,.int 39,.int 3]]
 have c5':aY S5':=(RV _ _).mpr ⟨c5,by simp⟩;obtain⟨z,g6,S6,z1,z2,z3,z4,z5,z6,cg6,e6,D6⟩:=G4 3 nr n' most signs ss' rs S5' (hd5.app _) (dG (vo _ _ r3)) (by omega) (dG (vo _ _ n3)) abr (by have:=dB.n1;omega) (by omega) (by have:=dB.s1;omega) (by omega) (by have:=dB.r1;omega) (λr hr=>⟨x2 _ (dB.r3 r hr).1,(dB.r3 r hr).2.1⟩);have k6:=D6.keeps;have c6:aY S6:=D6.clo c5' cg6;have k36:Keeps XH S6 [3,b]:=λj o hj ho=>k6 _ _ (λq=>hj (by simp at q;simp[q])) (dG (k5 _ _ (λq=>hj (by simp at q;simp[q])) ho));have hb2:(1:Nat)≠b/\(2:Nat)≠b/\(0:Nat)≠b:=by simp only[b];omega
 have hb6:Bs S6:=hb4.keeps k36 (by simp;exact hb2.1) (by simp;exact hb2.2.1) c6;have bk6:oE S6 b B:=(bk5.mono (Keeps.app S5 _)).dr k6 (hd5.app _);have hz:FP B z:=⟨z1,z2,z3,z4⟩;have r6:S6[nr]? = some (.lst (rs.map dh)):=k6 _ _ (by simp;omega) (dG (vo _ _ r3));have cst:=zho hB hb6 bk6 z hz (by omega) (by omega);have ad_:=Cm hB (by show ss'.length<=100;omega) hb6 bk6 nr r6 z hz (by omega) (by omega);have cl:=zqt B z hB.few;have n6:aA S6 n'=some (aG ss'):=by unfold aA;rw[k6 _ _ (by simpa using abr) (dG (vo _ _ n3))]

 have f6:S6[0]? = some (.frz (ns.map D.int)):=k36 _ _ (by simp[b]) (k04 _ _ (by simp) z0)
 let S7:ak:=S6++[jj (decide (h / 4 % 2=1)) (u0 ns 2) 0]
 have hd7:jf S7 S6.length:=⟨decide (h / 4 % 2=1),u0 ns 2,0,by simp[S7]⟩;have aew:nr<S6.length:=(gf.mp r6).1;have k7:Keeps S6 S7 []:=Keeps.app _ _;have c7:aY S7:=(RV _ _).mpr ⟨c6,by simp[jj]⟩;obtain⟨y,g8,S8,y1,y2,y3,y4,y5,y6,y7,cg8,e8,D8⟩:=PJ B signs rfl dB.r2 S6.length nr z S7 hd7 (k7 _ _ (by simp) r6) (by omega) (by show rs.length<=1000;have:=dB.r1;omega) (by have:=dB.s1;omega) (by omega) (by omega);have k8:=D8.keeps;have c8:aY S8:=D8.clo c7 cg8;have bk8:oE S8 b B:=(bk6.mono k7).dr k8 hd7;have h12:1<S6.length/\2<S6.length:=⟨by have:=(gf.mp hb6.t1).1;omega,(gf.mp hb6.t2).1⟩;have hb8:Bs S8:=hb6.keeps (k7.more.trans k8) (by simp;omega) (by simp;omega) c8;have hy:FP B y:=⟨by rw[y1];exact z1,by rw[y2];exact z2,y3,y4⟩;have r8:S8[nr]? = some (.lst (rs.map dh)):=k8 _ _ (by simp;omega) (k7 _ _ (by simp) r6);have abJ:=zho hB hb8 bk8 y hy (by omega) (by omega);have Tw:=Cm hB (by show ss'.length<=100;omega) hb8 bk8 nr r8 y hy (by omega) (by omega);rw[y7]at abJ Tw;have q3:aN (.loc S5.length) (.int (h / 16 % 3)) S5'=.ok (.int most) S5':=yh _ _ _ _ _ (by simp[S5',aA]) hm;have le:=LR n6;rw[Gw]at le;have le2:dj [.str signs] S6=.ok (.int signs.length) S6:=zgz _ signs (by have:=dB.s1;omega);have m1:eZ (.int 20) (.int ss'.length) S6=.ok (.int (20*(ss'.length:Nat))) S6:=CP S6 20 _ (by omega);have m2:eZ (.int 200) (.int signs.length) S6=.ok (.int (200*(signs.length:Nat))) S6:=CP S6 200 _ (by omega);have i1:wG "int" (.int (b_ B z:Nat)) S6=.ok (.bl true) S6:=by simp[wG,R1,iG]
 have i2:wG "bool" (.int (b_ B z:Nat)) S6=.ok (.bl false) S6:=by simp[wG,R1,iG]
 have g1:ltV (.int (b_ B z:Nat)) (.int 1) S6=.ok (.bl false) S6:=by rw[Ho,aeW (by omega)]
 have g2:Ka (.int (b_ B z:Nat)) (.int (2000+20*(ss'.length:Nat)+200*(signs.length:Nat))) S6=.ok (.bl false) S6:=by
  simp;omega
 have body:znz (startM 10 [.loc 0]) S0=.ok (.rt (.bl true)) S8:=by
  refine dO (dF ce0 rfl) ?_;refine dO (zq2 ns 1 _ (h % 2) _ S0 rfl (bH rfl rfl (mo _ _ _ (by omega))) it0 (by omega)) ?_;rw[hl0];refine ZW (dF e2 rfl) rfl ?_;refine (LQ e3).trans ?_;refine dO (Jc (X':=S4) (bU (zq (zjk r3) rfl) (bU rfl (bU (zq (zjk (dG n3)) rfl) (by simp[S4];rfl)))) (by rw[l4,gJ];exact e5)) ?_;rw[l4];refine dO (dF e6 (bU rfl (bU rfl (bU rfl (bU rfl (bU (bH rfl (bH (bH rfl rfl (dv _ _ _ (by omega))) rfl (mo _ _ _ (by omega))) q3) rfl)))))) ?_;refine dO (dF cst rfl) ?_;refine T4 (ZS (Bc (ZX (Io rfl i1) rfl)) (ZS (ZX (Io rfl i2) rfl) (tu (bH rfl rfl g1)))) ?_;refine T4 (ZS (tu (bH rfl (bH (bH rfl (bH rfl (zq le rfl) m1) rfl) (bH rfl (zq le2 rfl) m2) rfl) g2)) (Bc (ZX (dF ad_ rfl) rfl))) ?_;refine dO (zq2 ns 2 _ (h / 4 % 2) _ S6 rfl (bH (bH rfl rfl (dv _ _ _ (by omega))) rfl (mo _ _ _ (by omega))) (by unfold aA;rw[f6]) (by omega)) ?_;refine dO (dF e8 rfl) ?_;exact vf (zp0 (bH (dF abJ rfl) rfl (by simp)) (dF Tw rfl))
 unfold zlu bA bx;rw[body];show ∃st,gc S0 (.ok (.bl true) S8)=.ok (.bl true) st;unfold gc;dsimp only
 split
 ·exact⟨_,rfl⟩
 ·exact⟨_,rfl⟩
end Law
open PySem PySem.W PyProof.Rows
namespace PySem.W.Fast
def tw11686788765416712660:=()
def tw8186018794157427426:=()
def tw13717940172577392710:=()
def tw463014450359045412:=()
def tw16258185617287261313:=()
def tw14865170327989860050:=()
def tw2583457467917954535:=()
def tw6449836464920911543:=()
def tw12725726571268814275:=()
def tw7511348981569451056:=()
def tw2585668804138099616:=()
def tw4317278471503743195:=()
def tw1203050557907620076:=()
def tw14357741217413031875:=()
def tw10614444696350236613:=()
def tw3290669265847904619:=()
def tw15248342212178660889:=()
def tw3097417093795591730:=()
def tw3731057538676437483:=()
def tw6631623818884689494:=()
def tw13254798857269765958:=()
def tw3935363192977549764:=()
def tw1410114751909559300:=()
def tw7738560383262501529:=()
def tw13978211726150156390:=()
def tw797423706489911473:=()
def tw2885849225272495696:=()
def tw15071267038175668613:=()
def tw16483500908211430223:=()
def tw7403842173139544765:=()
def tw18257659152015520067:=()
def tw9985311209148473045:=()
def tw15690840621618983239:=()
def tw8119198352636677951:=()
def tw14673460975224264352:=()
def tw8305973368554809740:=()
def tw7381711149990728049:=()
def tw6209883529772845684:=()
def tw9413837030229561539:=()
def tw17453276377884071467:=()
def tw9721497331921412347:=()
def tw9711976713260860185:=()
def tw1523744944355249201:=()
def tw13358900704634396373:=()
def tw11980667348058939360:=()
def tw16245714845740162413:=()
def tw17504719321949298660:=()
def tw2274298931029114215:=()
def tw5558718378463902269:=()
def tw17067248810709494716:=()
def tw17281453593083336838:=()
def tw4928548369086550438:=()
def tw10992545444929463733:=()
def tw18064263078986142388:=()
def tw7169936682984891439:=()
def tw16076974700358801430:=()
def tw10368888436427168990:=()
def tw12704070355491392694:=()
def tw10417376932652212345:=()
def tw12578777408877939808:=()
def tw462937276510519211:=()
def tw13753525127318718183:=()
def tw7932952698710941189:=()
def tw5439158933616651220:=()
def tw3247589369891208702:=()
def tw13688207789485082684:=()
def tw816635972830631274:=()
def tw1715290751399687954:=()
def tw13322135965924903608:=()
def tw16415367872896036077:=()
def tw118491325765226013:=()
def tw3321544916334696878:=()
def tw16551230809723117534:=()
def tw9604773243143110541:=()
def tw14525128028196645552:=()
def tw2486767452229126430:=()
def tw5722304581162962833:=()
def tw5432936622639909863:=()
def tw13441587743819878551:=()
def tw16696396024158701176:=()
def tw11432887303098514615:=()
def tw9553392756172764170:=()
def tw4420902040831364884:=()
def tw7740912546357569684:=()
def tw1795124455125702213:=()
def tw2909610742271833205:=()
def tw13458341165650329058:=()
def tw13496209379699301723:=()
def tw2531531243055615054:=()
def tw3897172728904855175:=()
def tw17568538385344034106:=()
def tw9186230344905558220:=()
def tw6099015691088546642:=()
def tw15302629622031346785:=()
def tw7438145699480279052:=()
def tw4912946431298381363:=()
def tw3205963187901092276:=()
def tw16027062101031338504:=()
def tw12685436125898675440:=()
def tw7850713424477395966:=()
def tw7828541942177109658:=()
def tw14775406982547256491:=()
def tw15677724759864916329:=()
def tw3715352526164441700:=()
def tw17803912335049916260:=()
def tw7773054910844362413:=()
def tw14549283707624553087:=()
def tw7319639577617809164:=()
def tw13028186798825972974:=()
def tw1607778093939280057:=()
def tw3896359895679512718:=()
def tw17659527030530590262:=()
def tw17472042574296333797:=()
def tw528961864816399533:=()
def tw3402579371754783917:=()
def tw13709608458643698019:=()
def tw11486805576517774439:=()
def tw7114095762713609192:=()
def tw15832331204469689358:=()
end PySem.W.Fast
set_option maxRecDepth 100000 in
set_option maxHeartbeats 0 in
theorem PySem.Challenge.cw_oneofall_k75_whole_one_step_of_a_tape_holds : PySem.Challenge.rw_oneofall_k75_whole_one_step_of_a_tape.Holds := by
 w_on;o_law;k_head;(case hw=>w_witness2)
 k_fill
 refine M.holds_ofT Law.tabs (F:=Law.zlu) (k:=65) (x:="_law_script") rfl rfl ⟨rfl,by decide,by decide⟩ (by decide) (fun w h Y=>⟨PySem.W.km_in_of Y,fun P hP=>PySem.W.km_tabs_of Y P ((show ∀Q∈Law.tabs.map (·.2),Q∈([75,124]:List Addr) from by decide) P hP)⟩) ?F Law.law_true
 case F =>
  intro w mg fa h KX G hmg
  refine' Law.all_mk KX G hmg ?_ ?_ ?_ ?_ ?_ ?_ ?_ ?_ ?_ ?_ ?_ ?_ ?_ ?_ ?_ ?_ ?_ ?_ ?_ ?_ ?_ ?_ ?_ ?_ ?_ ?_ ?_ ?_ ?_ ?_ ?_ ?_ ?_ ?_ ?_ ?_ ?_ ?_ ?_ ?_ ?_ ?_ ?_ ?_ ?_ ?_ ?_ ?_ ?_ ?_ ?_ ?_ ?_ ?_ ?_ ?_ ?_ ?_ ?_ ?_ ?_ ?U ?Z ?N0 ?N1
  (case U=>(repeat refine' M.Us.cons (by k_is) (L2.fun_mk (by k_is) (by k_is) (by k_is)) (by intro _ _ _ _ _ _ us hl;first | (cases List.eq_nil_of_length_eq_zero hl;rfl) | (obtain⟨_,rfl⟩:=Law.us1 hl;rfl) | (obtain⟨_,_,rfl⟩:=Law.us2 hl;rfl) | (obtain⟨_,_,_,rfl⟩:=Law.us3 hl;rfl) | (obtain⟨_,_,_,_,rfl⟩:=Law.us4 hl;rfl) | (obtain⟨_,_,_,_,_,rfl⟩:=Law.us5 hl;rfl)) ?_);exact M.Us.nil)
  (case Z=>(repeat refine' M.Zs.cons (by k_is) ?_);exact M.Zs.nil)
  all_goals try first | k_is | kernel_rfl | (refine' L2.fun_mk ?l ?c ?k;(case l=>k_is);(case c=>k_is);(case k=>k_is))
  (case N0=>(repeat refine' M.As.cons (by k_is) ?_);exact M.As.nil)
  (case N1=>(repeat refine' M.As.cons (by k_is) ?_);exact M.As.nil)
