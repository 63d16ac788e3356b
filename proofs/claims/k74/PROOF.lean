import PyProof.Rows.All
import Wide.All
import OpenK.AllK
import Wide.FinOn
import Lean
import PyProof.EqAt
import PyProof.EqKinds
import PyProof.TupleCall
import PyProof.DictWalks
import KE.KEqDict
import KE.KIntText
import PyProof.CallStr
import PyProof.DictTruth
import KE.KTupSum
import KE.KRevIter
import PyProof.EnumMake
import PyProof.Rows.Range3
import PyProof.StrLawsFirst
import KE.KFind
import PySem.Challenge.RW_oneofall_k74_images_and_ends
set_option Elab.async false
set_option linter.all false
set_option maxRecDepth 100000

abbrev gb:=@Nat.le_refl
abbrev gf:=@List.mem_cons
abbrev gh:=@List.getElem?_eq_some_iff
abbrev gj:=@List.mem_map
abbrev gm:=@List.length_map
abbrev gq:=@PySem.Heap.lt_size
abbrev gr:=@List.length_cons
abbrev gw:=@List.map_cons
abbrev g8:=@PySem.Heap.get?_push_of_some
abbrev gB:=@List.getElem?_map
abbrev gC:=@List.size_toArray
abbrev gF:=@List.getElem?_eq_getElem
abbrev gG:=@List.map_map
abbrev gJ:=@List.getElem?_append_left
abbrev gK:=@List.length_append
abbrev gM:=@Bool.and_eq_true
abbrev gO:=@List.getElem?_set_ne
abbrev gP:=@List.append_assoc
abbrev gQ:=@Nat.lt_of_lt_of_le
abbrev gR:=@List.append_nil
abbrev gU:=@List.mem_of_getElem?
abbrev gW:=@List.mem_singleton
abbrev gY:=@Nat.ne_of_lt
abbrev gZ:=@PySem.Heap.get?_push_size
abbrev g_:=@List.not_mem_nil
abbrev h_:=@Nat.le_trans
abbrev kh:=@List.getElem?_append_right
abbrev kj:=@List.length_take
abbrev km:=@List.lookup_cons
abbrev kE:=@List.map_congr_left
abbrev kI:=@List.mem_cons_of_mem
abbrev kJ:=@List.getElem_mem
abbrev kO:=@Nat.zero_le
abbrev kW:=@List.length_drop
abbrev k_:=@List.take_length
abbrev my:=@List.nodup_cons
abbrev mz:=@Bool.eq_iff_iff
abbrev m7:=@List.mem_append
abbrev m8:=@List.getElem?_set_self
abbrev m9:=@List.mem_append_right
abbrev mC:=@List.length_reverse
abbrev mD:=@List.find?_cons
abbrev mF:=@List.map_append
abbrev mH:=@List.take_add_one
abbrev mJ:=@Nat.lt_irrefl
abbrev mK:=@Nat.ne_of_gt
abbrev mL:=@List.nil_append
abbrev mO:=@List.length_eq_one_iff
abbrev mQ:=@List.map_nil
abbrev mR:=@Option.bind_some
abbrev mU:=@List.getElem?_cons_succ
abbrev mV:=@List.length_nil
abbrev mW:=@List.mem_iff_getElem
abbrev mX:=@List.mem_cons_self
abbrev mY:=@Int.toNat_natCast
abbrev mZ:=@List.reverse_cons
abbrev m_:=@List.flatten_cons
abbrev nj:=@List.drop_eq_nil_of_le
abbrev nq:=@List.drop_eq_getElem_cons
abbrev n6:=@List.any_cons
abbrev n8:=@List.mem_of_mem_drop
abbrev nA:=@List.filterMap_cons
abbrev nF:=@List.length_singleton
abbrev nG:=@Option.map_eq_some_iff
abbrev nH:=@List.getElem?_inj
abbrev nJ:=@List.all_eq_true
abbrev nM:=@Array.length_toList
abbrev nO:=@Bool.false_ne_true
abbrev nQ:=@Nat.lt_succ_self
abbrev nR:=@List.replicate_succ
abbrev nT:=@List.getElem?_reverse
abbrev nU:=@List.nodup_append
abbrev nW:=@List.map_reverse
abbrev nY:=@Bool.or_eq_true
abbrev nZ:=@List.mem_of_mem_take
abbrev n_:=@Nat.pow_succ
abbrev ph:=@List.any_eq_true
abbrev pq:=@List.length_set
abbrev p7:=@List.of_mem_zip
abbrev p8:=@List.getElem?_cons_zero
abbrev pA:=@List.cons_append
abbrev pB:=@List.drop_zero
abbrev pC:=@List.getElem_take
abbrev pD:=@List.reverse_reverse
abbrev pF:=@List.getD_eq_getElem?_getD
abbrev pG:=@List.mem_filterMap
abbrev pH:=@List.filterMap_map
abbrev pI:=@PySem.Heap.get?_update_self
abbrev pJ:=@Array.getElem?_eq_getElem
abbrev pK:=@List.getElem?_zip_eq_some
abbrev pL:=@List.contains_iff_mem
abbrev pM:=@List.findIdx?_eq_some_iff_getElem
abbrev aeP:=@PySem.wpAny_bind
abbrev aeQ:=@if_pos
abbrev aeR:=@PySem.wpAny_pure
abbrev aeS:=@if_neg
abbrev aeT:=@decide_eq_false
abbrev aeU:=@Option.some.inj
abbrev aeV:=@decide_eq_true
abbrev aeW:=@PySem.mem_of_lookup
abbrev aeX:=@PySem.W.kia_one
abbrev aeY:=@PyProof.Rows.callWith_type1
abbrev aeZ:=@of_decide_eq_true
abbrev ae0:=@PySem.W.mg_of
abbrev ae1:=@Ne.symm
abbrev ae2:=@PySem.F.slot_dict_get
abbrev ae3:=@or_false
abbrev ae4:=@PySem.wpAny_mono
abbrev ae5:=@PySem.wpAny_Call_Name_kw
abbrev ae6:=@PyProof.Rows.slot_tuple_getitem
abbrev ae7:=@PySem.F.plainAttrs_list
abbrev ae8:=@PySem.wpAny_newObj_type
abbrev ae9:=@PySem.wpAny_of_eq
abbrev ae_:=@PySem.wpAny_callSpecial?_slot
abbrev afa:=@PySem.Paired.length
abbrev afb:=@PySem.wpAny_passesOwn
abbrev afc:=@PySem.builtinLookup_eq_fast
abbrev afd:=@PySem.W.callWith_K
abbrev afe:=@PySem.F.plainAttrs_dict
abbrev afg:=@PySem.F.entry_dict_get
abbrev afh:=@decide_eq_true_eq
abbrev afi:=@PySem.wpAny_holding
abbrev afj:=@PySem.tupleKind_room_in1
abbrev afk:=@PySem.wpAny_truthy_bool
abbrev afl:=@PySem.wpAny_field
abbrev afm:=@Sum.inr.inj
abbrev afn:=@PySem.wpAny_call_entry
abbrev afo:=@Classical.byContradiction
abbrev afp:=@PySem.wpAny_specialOf
abbrev afq:=@PySem.typeLookup_type
abbrev afr:=@PySem.sizeLine_eq
abbrev afs:=@PySem.F.args_tuple_add_2
abbrev aft:=@PySem.Heap.SameBut.update
abbrev afu:=@PySem.F.entry_tuple_add
abbrev afv:=@PySem.codeAny_mono
abbrev afw:=@PySem.call_meetsIn
abbrev afx:=@PySem.isSubtype_type
abbrev afy:=@PySem.F.slot_tuple_add
abbrev afz:=@PySem.F.plainAttrs_str
namespace L2
open PySem PySem.Spec PyProof.Rows
noncomputable abbrev Key:=Sum Int Str
noncomputable def uK:Key->Value->Bool
 | .inl k,v=>Value.isInt k v
 | .inr x,v=>Value.isStrOf x v
noncomputable def aa_(w:World):Key->Int
 | .inl k=>hashInt k
 | .inr x=>hashStr w x
theorem LQ:∀{k:Key} {v:Value},uK k v=true->(∃i t,k=Sum.inl i/\v=Value.int i t)\/(∃x t,k=Sum.inr x/\v=Value.str x t)
 | .inl i,v,h=>by
  obtain⟨t,e⟩:=Value.isInt_shape (k:=i) (v:=v) h;exact .inl ⟨i,t,rfl,e⟩
 | .inr x,v,h=>by
  obtain⟨t,e⟩:=Value.isStrOf_shape (x:=x) (v:=v) h;exact .inr ⟨x,t,rfl,e⟩
def DP(i:Int)(t:Tok):uK (.inl i) (.int i t)=true:=by simp[uK,Value.isInt]
def DN(x:Str)(t:Tok):uK (.inr x) (.str x t)=true:=by simp[uK,Value.isStrOf]
def V1(a b:Int):decide ((Sum.inl a:Key)=Sum.inl b)=(a==b):=by
 by_cases e:a=b
 ·subst e;simp
 ·have h:¬ (Sum.inl a:Key)=Sum.inl b:=λq=>e (Sum.inl.inj q);rw[aeT h];exact (beq_eq_false_iff_ne.mpr e).symm
def VP(a b:Str):decide ((Sum.inr a:Key)=Sum.inr b)=decide (a=b):=by
 by_cases e:a=b
 ·subst e;simp
 ·have h:¬ (Sum.inr a:Key)=Sum.inr b:=λq=>e (afm q);rw[aeT h,aeT e]
def V0(a:Int)(b:Str):decide ((Sum.inl a:Key)=Sum.inr b)=false:=aeT (λq=>nomatch q)
def VR(a:Str)(b:Int):decide ((Sum.inr a:Key)=Sum.inl b)=false:=aeT (λq=>nomatch q)
noncomputable def bG(prog:Program)(w:World):PySem.KeyKind prog w Key where
 is:=uK
 hash:=aa_ w
 inj:=λv a b ha hb=>by
  rcases LQ ha with⟨i,t,rfl,rfl⟩ | ⟨x,t,rfl,rfl⟩
  ·rcases LQ hb with⟨j,u,rfl,e⟩ | ⟨y,u,rfl,e⟩
   ·injection e with e1 _;rw[e1]
   ·exact nomatch e
  ·rcases LQ hb with⟨j,u,rfl,e⟩ | ⟨y,u,rfl,e⟩
   ·exact nomatch e
   ·injection e with e1 _;rw[e1]
 byValue:=λk v h=>by
  rcases LQ h with⟨i,t,rfl,rfl⟩ | ⟨x,t,rfl,rfl⟩<;>rfl
 pyHash:=λhv h=>by
  rcases LQ hv with⟨i,t,rfl,rfl⟩ | ⟨x,t,rfl,rfl⟩
  ·exact wpAny_pyHash_int h
  ·exact wpAny_pyHash_str h
 eqBool:=λhu hv h=>by
  rcases LQ hu with⟨i,t,rfl,rfl⟩ | ⟨x,t,rfl,rfl⟩
  ·rcases LQ hv with⟨j,u,rfl,rfl⟩ | ⟨y,u,rfl,rfl⟩
   ·rw[V1]at h;exact wpAny_eqBool_int h
   ·rw[V0]at h;exact SeqAt.EqAt.int_str i t y u _ _ _ _ h
  ·rcases LQ hv with⟨j,u,rfl,rfl⟩ | ⟨y,u,rfl,rfl⟩
   ·rw[VR]at h;exact SeqAt.EqAt.str_int x t j u _ _ _ _ h
   ·rw[VP]at h;exact wpAny_eqBool_str h
 «strs»:=λk x t v h=>by
  rcases LQ h with⟨i,u,rfl,e⟩ | ⟨y,u,rfl,e⟩
  ·exact nomatch e
  ·injection e with e1 _;subst e1;cases v<;>rfl
def zsi(prog:Program)(w:World)(k:Key)(v:Value):(bG prog w).is k v=uK k v:=rfl
def zqa(prog:Program)(w:World)(i:Int)(t:Tok):(bG prog w).is (.inl i) (.int i t)=true:=DP i t
def zqc(prog:Program)(w:World)(x:Str)(t:Tok):(bG prog w).is (.inr x) (.str x t)=true:=DN x t
inductive V where
 | non | bl (b:Bool) | int (i:Int) | str (x:Str) | byt (b:Array UInt8) | flt (b:UInt64) | ref (a:Addr) | ty (n:String)
 deriving DecidableEq
def RelV:V->Value->Prop
 | .non,u=>u=Value.none
 | .bl b,u=>u=Value.bool b
 | .int i,u=>∃t,u=Value.int i t
 | .str x,u=>∃t,u=Value.str x t
 | .byt b,u=>∃t,u=Value.bytes b t
 | .flt b,u=>∃t,u=Value.float b t
 | .ref a,u=>u=Value.ref a
 | .ty n,u=>u=Value.type n
abbrev Vals:List V->List Value->Prop:=Paired RelV
def Vals.length{xs:List V}{us:List Value}(r:Vals xs us):xs.length=us.length:=afa r
theorem Vals.get:∀{xs:List V} {us:List Value} {i:Nat} {x:V},Vals xs us->xs[i]? = some x->∃u,us[i]? = some u/\RelV x u
 | _,_,_,_,.nil,e=>by simp at e
 | _,_,0,_,.cons r _,e=>by simp at e;subst e;exact⟨_,rfl,r⟩
 | _,_,i+1,x,.cons _ t,e=>by
  obtain⟨u,h1,h2⟩:=Vals.get (i:=i) (x:=x) t (by simpa using e);exact⟨u,by simpa using h1,h2⟩
theorem Vals.append:∀{xs ys:List V} {us ws:List Value},Vals xs us->Vals ys ws->Vals (xs++ys) (us++ws)
 | _,_,_,_,.nil,s=>s
 | _,_,_,_,.cons r t,s=>.cons r (Vals.append t s)
theorem Vals.take:∀{xs:List V} {us:List Value} (n:Nat),Vals xs us->Vals (xs.take n) (us.take n)
 | _,_,0,_=>.nil
 | _,_,_+1,.nil=>.nil
 | _,_,n+1,.cons r t=>.cons r (Vals.take n t)
theorem Vals.drop:∀{xs:List V} {us:List Value} (n:Nat),Vals xs us->Vals (xs.drop n) (us.drop n)
 | _,_,0,r=>r
 | _,_,_+1,.nil=>.nil
 | _,_,n+1,.cons _ t=>Vals.drop n t
def jW:Option V->Option Value->Prop
 | some v,some u=>RelV v u
 | none,none=>True
 | _,_=>False
def KV{κ:Type}:List (κ×V)->List (κ×Value)->Prop:=Paired λ(p:κ×V) (q:κ×Value)=>p.1=q.1/\RelV p.2 q.2
noncomputable def kV:Key->V
 | .inl i=>.int i
 | .inr x=>.str x
inductive HO where
 
 | lst (xs:List V)
 
 | tup (xs:List V)
 
 | dK (kvs:List (Key×V)) | dT (kvs:List (List Key×V))
 
 | set (S:Int->Bool) (n:Nat)
 
 | ins (C dx:Addr) (fs:List (Str×V))
 
 | own (x:Addr)
 
 | xd (fs:List (Str×V))
 
 | met (f x:Addr)
 
 | rng (lo hi:Int)
 
 | frz (o:Obj) (u:HO)
 
 | tbl (ps:Array Value)
 
 | ext (φ:Heap->Prop)
noncomputable abbrev Hp:=Addr->Option HO
noncomputable def upd(H:Hp)(a:Addr)(o:HO):Hp:=λb=>if b=a then some o else H b
def rm:upd H a o a=some o:=by unfold upd;rw[aeQ rfl]
def iy(h:b≠a):upd H a o b=H b:=by unfold upd;rw[aeS h]
def lB{H:Hp}{a b:Addr}{o u:HO}(h:H a=some o)(h':H b=some u)(d:o≠u):a≠b:=by
 intro e;subst e;rw[h]at h';exact d (aeU h')
def yJ{H:Hp}{a b:Addr}{o:HO}(h:H a=some o)(h':H b=none):a≠b:=by
 intro e;subst e;rw[h]at h';cases h'
section
variable  (P:Program)(w:World)
def bY(H:Hp)(h:Heap)(a:Addr):HO->Prop
 | .lst xs=>xs.length<=sizeLine/\∃(its:List Value) (n:Nat),Vals xs its/\h.get? a=some { cls:=.type "list",data:=.seq its.toArray n }
 | .tup xs=>xs.length<=sizeLine/\∃its:List Value,Vals xs its/\IsTup h a its.toArray
 | .dK kvs=>kvs.length<=sizeLine/\(a==sysModules)=false/\∃vs,KV kvs vs/\h.DictOf (bG P w) a vs
 | .dT kvs=>kvs.length<=sizeLine/\(a==sysModules)=false/\∃xs:List (List Key×Addr×Value),
   Paired (λ(p:List Key×V) (q:List Key×Addr×Value)=>p.1=q.1/\H q.2.1=some (.tup (p.1.map kV))/\RelV p.2 q.2.2) kvs xs /\
   ∃o es ep,h.get? a=some o/\o.ExactDict/\o.data=.dict es ep/\es.toList=xs.map (entryOfKey (tupleKind (bG P w)))/\(xs.map (·.1)).Nodup
 | .set S n=>h.SetOf (intKind P w) a S n
 | .ins C dx fs=>H dx=some (.own a)/\fs.length<=1000/\dx≠a/\h.get? a=some (PySem.W.instObj C dx) /\
   ∃mA,h.Ns1 dx mA/\(∀f,jW (fs.lookup f) (mA f))/\PySem.Within mA (fs.map (·.1))
 | .own _=>∃o,h.get? a=some o
 | .xd fs=>∃mA,h.Ns1 a mA/\∀f,jW (fs.lookup f) (mA f)
 | .rng lo hi=>∃t u v,h.get? a=some { cls:=.type "range",data:=.fields #[.int lo t,.int hi u,.int 1 v] }
 | .frz o u=>h.get? a=some o/\bY H h a u
 | .tbl ps=>h.get? a=some { cls:=.none,data:=.fields ps }
 | .met f x=>h.get? a=some (PySem.W.methodObj (.ref f) (.ref x))
 | .ext φ=>φ h/\(∃o,h.get? a=some o)/\∀h1 h2:Heap,φ h1->(∀o,h1.get? a=some o->h2.get? a=some o)->φ h2
def jX(H:Hp)(h:Heap):Prop:=∀a o,H a=some o->bY P w H h a o
end
section
variable  {P:Program}{w:World}{H H':Hp}{h h':Heap}{a:Addr}{o:HO}
def bY.lt(x:bY P w H h a o):a<h.objs.size:=by
 cases o with
 | lst xs=>obtain⟨_,_,_,_,e⟩:=x;exact gq e
 | tup xs=>obtain⟨_,_,_,p⟩:=x;exact p.lt
 | dK kvs=>obtain⟨_,_,_,_,o,_,_,e,_⟩:=x;exact gq e
 | dT kvs=>obtain⟨_,_,_,_,o,_,_,e,_⟩:=x;exact gq e
 | set S n=>obtain⟨o,_,_,_,e,_⟩:=x;exact gq e
 | ins C dx fs=>obtain⟨_,_,_,e,_⟩:=x;exact gq e
 | own y=>obtain⟨_,e⟩:=x;exact gq e
 | xd fs=>obtain⟨_,⟨_,_,_,e,_⟩,_⟩:=x;exact gq e
 | rng lo hi=>obtain⟨_,_,_,e⟩:=x;exact gq e
 | frz ob u=>obtain⟨e,_⟩:=x;exact gq e
 | tbl ps=>exact gq (show h.get? a=some _ from x)
 | met f y=>exact gq (show h.get? a=some _ from x)
 | ext φ=>obtain⟨_,⟨_,e⟩,_⟩:=x;exact gq e
theorem Paired.VJ:∀{aeI:List α} {aeH:List β},Paired F aeI aeH->(∀a b,F a b->G a b)->Paired G aeI aeH
 | _,_,.nil,_=>.nil
 | _,_,.cons r t,f=>.cons (f _ _ r) (Paired.VJ t f)
def bY.tO(x:bY P w H h a o)(k:∀b u,(b=a\/H b=some (.own a))->h.get? b=some u->h'.get? b=some u)
  (ho:∀b,H b=some (.own a)->H' b=some (.own a)) (ht:∀b xs,H b=some (.tup xs)->H' b=some (.tup xs)):bY P w H' h' a o:=by
 induction o with
 | lst xs=>obtain⟨z,its,n,r,e⟩:=x;exact⟨z,its,n,r,k _ _ (.inl rfl) e⟩
 | tup xs=>obtain⟨z,its,r,ob,e,c⟩:=x;exact⟨z,its,r,ob,k _ _ (.inl rfl) e,c⟩
 | dK kvs=>obtain⟨z,y,vs,r,ob,es,ep,e,c⟩:=x;exact⟨z,y,vs,r,ob,es,ep,k _ _ (.inl rfl) e,c⟩
 | dT kvs =>
  obtain⟨z,y,xs,r,ob,es,ep,e,c⟩:=x;exact⟨z,y,xs,Paired.VJ r λp q z=>⟨z.1,ht _ _ z.2.1,z.2.2⟩,ob,es,ep,k _ _ (.inl rfl) e,c⟩
 | set S n=>obtain⟨ob,es,ep,t,e,c⟩:=x;exact⟨ob,es,ep,t,k _ _ (.inl rfl) e,c⟩
 | ins C dx fs =>
  obtain⟨d,z,ne,e,mA,⟨od,es,ep,e2,c⟩,r⟩:=x;exact⟨ho _ d,z,ne,k _ _ (.inl rfl) e,mA,⟨od,es,ep,k _ _ (.inr d) e2,c⟩,r⟩
 | own y=>obtain⟨ob,e⟩:=x;exact⟨ob,k _ _ (.inl rfl) e⟩
 | xd fs=>obtain⟨mA,⟨od,es,ep,e,c⟩,r⟩:=x;exact⟨mA,⟨od,es,ep,k _ _ (.inl rfl) e,c⟩,r⟩
 | rng lo hi=>obtain⟨t,u,v,e⟩:=x;exact⟨t,u,v,k _ _ (.inl rfl) e⟩
 | frz ob u ih=>obtain⟨e,q⟩:=x;exact⟨k _ _ (.inl rfl) e,ih q⟩
 | tbl ps =>
  have e:h.get? a=some { cls:=.none,data:=.fields ps }:=x;show h'.get? a=some { cls:=.none,data:=.fields ps };exact k a _ (.inl rfl) e
 | met f y =>
  have e:h.get? a=some (PySem.W.methodObj (.ref f) (.ref y)):=x;show h'.get? a=some (PySem.W.methodObj (.ref f) (.ref y));exact k a _ (.inl rfl) e
 | ext φ=>obtain⟨p,⟨o,e⟩,st⟩:=x;exact⟨st _ _ p λo q=>k _ _ (.inl rfl) q,⟨o,k _ _ (.inl rfl) e⟩,st⟩
def jX.lt(x:jX P w H h)(e:H a=some o):a<h.objs.size:=(x a o e).lt
def jX.fresh(x:jX P w H h)(e:h.objs.size<=a):H a=none:=by
 cases q:H a with
 | none=>rfl
 | some u=>exact absurd (gQ (x.lt q) e) (mJ _)
def jX.kept(x:jX P w H h)(k:∀b u,h.get? b=some u->h'.get? b=some u):jX P w H h':=λa o e =>
 (x a o e).tO (λb u _ q=>k b u q) (λ_ q=>q) λ_ _ q=>q
def jX.laid(x:jX P w H h)(k:∀b u,h.get? b=some u->h'.get? b=some u)(hp:h.objs.size<=a)(new:bY P w (upd H a o) h' a o):jX P w (upd H a o) h':=λb u e=>by
 have hn:=x.fresh hp;by_cases hb:b=a
 ·subst hb;rw[rm]at e;cases e;exact new
 ·rw[iy hb]at e;exact (x b u e).tO (λc v _ q=>k c v q) (λc q=>by rw[iy (yJ q hn)];exact q) λc xs q=>by rw[iy (yJ q hn)];exact q
end
def Rd(H:Hp)(a:Addr)(u:HO):Prop:=H a=some u\/∃o,H a=some (.frz o u)
def Rd.ok(r:Rd H a u)(x:jX P w H h):bY P w H h a u:=by
 rcases r with r | ⟨o,r⟩
 ·exact x a u r
 ·obtain⟨_,q⟩:=x a _ r;exact q
def Mut:Option HO->Prop
 | some (.lst _)=>True
 | some (.dK _)=>True
 | some (.dT _)=>True
 | some (.set _ _)=>True
 | some (.ins _ _ _)=>True
 | some (.ext _)=>True
 | _=>False
section
variable  {P:Program}{w:World}{H:Hp}{h h':Heap}{x e:Addr}{o':HO}
def jX.write(ok:jX P w H h)(mu:Mut (H x))(he:e=x\/H e=some (.own x))(k:∀b u,b≠e->h.get? b=some u->h'.get? b=some u)(Mq:∃u,h'.get? e=some u)
  (new:bY P w (upd H x o') h' x o'):jX P w (upd H x o') h':=λb u q=>by
 have Ig:∀c y,H c=some (.own y)->c≠x:=λc y r z=>by subst z;rw[r]at mu;exact mu
 have adq:∀c xs,H c=some (.tup xs)->c≠x:=λc xs r z=>by subst z;rw[r]at mu;exact mu
 by_cases hb:b=x
 ·subst hb;rw[rm]at q;cases q;exact new
 ·rw[iy hb]at q;by_cases W_:b=e
  ·have q':H b=some (.own x):=by
    rcases he with z | z
    ·exact absurd (W_.trans z) hb
    ·rw[W_];exact z
   rw[q]at q';cases q';obtain⟨v,hv⟩:=Mq;exact⟨v,by rw[W_];exact hv⟩
  ·refine (ok b u q).tO (λc v hc r=>k c v ?_ r) (λc r=>by rw[iy (Ig c b r)];exact r) λc xs r=>by rw[iy (adq c xs r)];exact r
   rcases hc with rfl | hc
   ·exact W_
   ·rintro rfl;rcases he with z | z
    ·exact Ig c b hc z
    ·rw[hc]at z;cases z;exact hb rfl
end
structure Un(fs ex:List Addr)(H H':Hp)(h h':Heap):Prop where
 keep:∀b o,h.get? b=some o->H b=none->b∉fs->b∉ex->h'.get? b=some o
 slot:∀b o,h.get? b=some o->H b=none->b∈fs->b∉ex->∃sl,h'.get? b=some { o with slots:=sl }
 free:∀b o,h.get? b=some o->H b=none->b∉ex->H' b=none
 there:∀b o,h.get? b=some o->b∉ex->∃o',h'.get? b=some o'
 uq:∀b xs,H b=some (.tup xs)->H' b=some (.tup xs)
 rR:∀b o u,H b=some (.frz o u)->H' b=some (.frz o u)
 tL:∀b ps,H b=some (.tbl ps)->∃more,H' b=some (.tbl (ps++more))
section
variable  {fs fs' ex ex':List Addr}{H H1 H2:Hp}{h h1 h2 h':Heap}{a x e:Addr}{o:HO}
def Un.any(u:Un fs ex H H1 h h1){b:Addr}{ob:Obj}(q:h.get? b=some ob)(n:H b=none)(hx:b∉ex):∃sl,h1.get? b=some { ob with slots:=sl }:=by
 by_cases hb:b∈fs
 ·exact u.slot b ob q n hb hx
 ·exact⟨ob.slots,u.keep b ob q n hb hx⟩
def Un.kept(k:∀b u,h.get? b=some u->h'.get? b=some u):Un fs ex H H h h' :=
 ⟨λb ob q _ _ _=>k b ob q,λb ob q _ _ _=>⟨ob.slots,k b ob q⟩,λ_ _ _ n _=>n,λb ob q _=>⟨ob,k b ob q⟩,λ_ _ q=>q,λ_ _ _ q=>q,λ_ ps q=>⟨#[],by rw[q];simp⟩⟩
def Un.refl:Un fs ex H H h h:=Un.kept λ_ _ q=>q
def Un.laid(k:∀b u,h.get? b=some u->h'.get? b=some u)(hp:h.objs.size<=a)(hn:H a=none):Un fs ex H (upd H a o) h h' where
 keep:=λb u q _ _ _=>k b u q
 slot:=λb u q _ _ _=>⟨u.slots,k b u q⟩
 free:=λb u q n _=>by rw[iy (gY (gQ (gq q) hp))];exact n
 there:=λb u q _=>⟨u,k b u q⟩
 uq:=λb xs q=>by rw[iy (yJ q hn)];exact q
 rR:=λb u xs q=>by rw[iy (yJ q hn)];exact q
 tL:=λb ps q=>⟨#[],by rw[iy (yJ q hn),q];simp⟩
def Un.write(mu:Mut (H x))(he:e=x\/H e=some (.own x))(k:∀b u,b≠e->h.get? b=some u->h'.get? b=some u)(Mq:∃u,h'.get? e=some u):Un fs ex H (upd H x o) h h':=by
 have hx:∀b,H b=none->b≠x:=λb n z=>by subst z;rw[n]at mu;exact mu
 have hb:∀b,H b=none->b≠e:=λb n z=>by
  subst z;rcases he with r | r
  ·exact hx b n r
  ·rw[n]at r;cases r
 have hm:∀b u,H b=some u->¬ Mut (some u)->b≠x:=λb u q nm z=>by subst z;rw[q]at mu;exact nm mu
 refine⟨λb u q n _ _=>k b u (hb b n) q,λb u q n _ _=>⟨u.slots,k b u (hb b n) q⟩,λb u q n _=>by rw[iy (hx b n)];exact n,λb u q _=>?_,
  λb xs q=>by rw[iy (hm b _ q λz=>z)];exact q,λb u xs q=>by rw[iy (hm b _ q λz=>z)];exact q,λb ps q=>⟨#[],by rw[iy (hm b _ q λz=>z),q];simp⟩⟩
 by_cases W_:b=e
 ·subst W_;exact Mq
 ·exact⟨u,k b u W_ q⟩
end
noncomputable def trk(h:Heap)(H:Hp):List Addr:=(List.range h.objs.size).filter λa=>(H a).isSome
noncomputable def vM(h:Heap)(H:Hp):Heap:=PySem.W.hideAll h (trk h H)
def Eg(h:Heap)(H:Hp):(vM h H).objs.size=h.objs.size:=PySem.W.hideAll_size _ _
def J2(e:h.get? b=some o)(n:H b=none):(vM h H).get? b=some o :=
 PySem.W.hideAll_get _ e λhm=>by
  have q:(H b).isSome=true:=(List.mem_filter.mp hm).2;rw[n]at q;simp at q
def O8(e:(vM h H).get? b=some o):h.get? b=some o/\H b=none:=by
 have e':h.get? b=some o:=PySem.W.of_hideAll (trk h H) e;refine⟨e',?_⟩;cases q:H b with
 | none=>rfl
 | some x =>
  have hm:b∈trk h H:=List.mem_filter.mpr ⟨List.mem_range.mpr (gq e'),by simp[q]⟩;have z:(vM h H).get? b=none:=PySem.W.hideAll_none (trk h H) hm;rw[z]at e;cases e
noncomputable def Rg(g h:Heap)(L:Addr):List (Addr×Obj):=(List.range h.objs.size).filterMap λa=>if a=L\/(g.get? a).isSome=true then none else (h.get? a).map λo=>(a,o)
noncomputable def rest(g h:Heap)(L d:Addr):List (Addr×Obj):=(Rg g h L).filter λp=>decide (p.1≠d)
structure Mod(K:PySem.W.Frag)(mg:Str->Option Value)(base:Heap):Prop where
 VN:K.In base
 glob:base.Ns mainGlobals mg
 blt:∃mb,base.Ns builtinsNs mb/\∀x:Str,x ≠ "__name__"->mb x=bootBuiltins x
 nolimit:base.NoLimit
structure Cx where
 prog:Program
 w:World
 K:PySem.W.Frag
 mg:Str->Option Value
 base:Heap
 A:Around
 N:List Str
 aeG:Shared
 aeO:Hp
 env:Env
 outer:List Env
 stack:List Env
 ex:List Addr
 fn:Str->Bool
 calm:Bool
 pn:List (Addr×Obj)
 xe:Value->Shared->Prop
noncomputable def Be(l:List Env):List Addr:=l.filterMap (·.frame)
noncomputable abbrev Cx.fs(X:Cx):List Addr:=Be X.outer
def Vis(sc:Scope)(x:Str):Prop:=sc.names.lookup x=some .local\/sc.names.lookup x=some .cell\/sc.names.lookup x=some .free
def Loc(sc:Scope)(x:Str):Prop:=sc.names.lookup x=some .local\/sc.names.lookup x=some .cell
def Look(env:Env)(h:Heap)(m:Str->Option Value)(x:Str)(u:Value):Prop :=
 (env.kindOf x=some .local/\m x=some u)\/((env.kindOf x=some .cell\/env.kindOf x=some .free)/\∃c,env.cells.lookup x=some c/\h.IsCell c (some u))
structure Cx.Ok(X:Cx):Prop where
 mod:Mod X.K X.mg X.base
 kind:X.env.scope.kind=.function
 glob:X.env.globals=mainGlobals
 blt:X.env.builtins=builtinsNs
 above:X.aeG.heap.objs.size<=X.env.locals
 inj:∀x y c,X.env.cells.lookup x=some c->X.env.cells.lookup y=some c->x=y
 has:∀x,(X.env.kindOf x=some .cell\/X.env.kindOf x=some .free)->∃c,X.env.cells.lookup x=some c
 Tp:∀x c,X.fn x=true->X.env.cells.lookup x=some c->X.aeG.heap.objs.size<=c
 hd:X.calm=true->X.A.handled=none
 frames:X.A.frames=some X.stack
 stk:X.stack=X.outer\/(X.stack=X.env::X.outer/\X.env.frame=some X.env.locals)
 exf:∀b∈X.ex,b≠X.env.locals/\∀x c,X.env.cells.lookup x=some c->c≠b
 bs:∀b o,X.base.get? b=some o->X.aeG.heap.get? b=some o/\X.aeO b=none
 Fi:X.base.objs.size<=X.aeG.heap.objs.size
 Dl:∀b o,X.base.get? b=some o->b∉X.ex
 Km:∀b∈X.ex,b∉X.fs
 oA:X.aeG.heap.FunFrames X.base X.outer
 Ka:∀b∈X.fs,X.aeO b=none
structure Inv(X:Cx)(pins:List (Addr×Obj))(σ:List (Option V))(H:Hp)(s:Shared):Prop where
 ok:X.Ok
 os:s.os=X.aeG.os
 bare:AllBare s.gens
 base:Un X.fs X.ex X.aeO H X.aeG.heap s.heap
 loc:∃m,s.heap.Ns X.env.locals m/\∀(i:Nat) (x:Str) (v:V),X.N[i]? = some x->σ[i]? = some (some v)->Vis X.env.scope x->∃u,RelV v u/\Look X.env s.heap m x u
 cell:∀x c,X.env.cells.lookup x=some c->∃v,s.heap.IsCell c v
 free:H X.env.locals=none
 jr:∀x c,X.env.cells.lookup x=some c->H c=none
 pin:∀p∈X.pn++pins,s.heap.get? p.1=some p.2/\H p.1=none/\p.1≠X.env.locals/\p.1∉X.fs/\∀v,p.2.data≠.cell v
 bN:jX X.prog X.w H s.heap
 len:σ.length=X.N.length
section
variable  {X:Cx}{pins:List (Addr×Obj)}{σ:List (Option V)}{H H':Hp}{s:Shared}{h':Heap}
def Cx.Ok.adw(ok:X.Ok)(e:X.base.get? b=some o):b∉X.fs:=λhb=>by
 have:=(ok.oA.mem hb).1;rw[e]at this;cases this
def Inv.bs(I:Inv X pins σ H s):∀b o,X.base.get? b=some o->s.heap.get? b=some o/\H b=none:=λb o e =>
 ⟨I.base.keep b o (I.ok.bs b o e).1 (I.ok.bs b o e).2 (I.ok.adw e) (I.ok.Dl b o e),I.base.free b o (I.ok.bs b o e).1 (I.ok.bs b o e).2 (I.ok.Dl b o e)⟩
def Inv.bk(I:Inv X pins σ H s):∀b o,X.base.get? b=some o->s.heap.get? b=some o:=λb o e=>(I.bs b o e).1
def Inv.mod(I:Inv X pins σ H s):Mod X.K X.mg X.base:=I.ok.mod
def Inv.qb(I:Inv X pins σ H s):X.K.In s.heap:=I.ok.mod.VN.keeps I.bk
def Inv.lt(I:Inv X pins σ H s):X.env.locals<s.heap.objs.size:=let ⟨_,hn,_⟩:=I.loc;hn.lt
def Inv.sz(I:Inv X pins σ H s):X.aeG.heap.objs.size<=s.heap.objs.size:=h_ I.ok.above (Nat.le_of_lt I.lt)
def Inv.adv(I:Inv X pins σ H s)(h:s.heap.objs.size<=a):a∉X.fs:=λhb=>by
 obtain⟨_,o,ho,_⟩:=I.ok.oA.mem hb;exact absurd (gQ (gq ho) (h_ I.sz h)) (mJ _)
def Inv.Tn(I:Inv X pins σ H s):∀x c,X.env.cells.lookup x=some c->c≠X.env.locals:=λx c e z=>by
 obtain⟨v,o,ho,hd⟩:=I.cell x c e;obtain⟨m,⟨o',es,ep,Mm,wL,_⟩,_⟩:=I.loc;rw[z,Mm]at ho;cases ho;rw[wL]at hd;cases hd
def Inv.oA(I:Inv X pins σ H s):s.heap.FunFrames X.base X.outer:=by
 have all:∀(l:List Env),(∀b∈Be l,b∈X.fs)->X.aeG.heap.FunFrames X.base l->s.heap.FunFrames X.base l:=by
  intro l
  induction l with
  | nil=>intro _ _;trivial
  | cons env r ih =>
   intro hs hl;obtain⟨hk,⟨L,o,hf,hn,ho,hd⟩,hr⟩:=hl;have hL:L∈X.fs:=hs L (by unfold Be;rw[nA,hf];exact mX);obtain⟨sl,e⟩:=I.base.slot L o ho (I.ok.Ka L hL) hL λz=>I.ok.Km L z hL;exact⟨hk,⟨L,_,hf,hn,e,hd⟩,ih (λb hb=>hs b (by unfold Be;rw[nA,hf];exact kI _ hb)) hr⟩
 exact all X.outer (λ_ hb=>hb) I.ok.oA
def Inv.stack(I:Inv X pins σ H s):s.heap.FunFrames X.base X.stack:=by
 rcases I.ok.stk with e | ⟨e,hf⟩
 ·rw[e];exact I.oA
 ·rw[e];obtain⟨m,hn,_⟩:=I.loc;refine .cons (by rw[I.ok.kind];decide) hf hn ?_ I.oA;exact Heap.get?_none_of_le (h_ I.ok.Fi I.ok.above)
def Inv.uB(I:Inv X pins σ H s):∀b∈Be X.stack,b∈X.env.locals::X.fs:=λb hb=>by
 rcases I.ok.stk with e | ⟨e,hf⟩
 ·rw[e]at hb;exact kI _ hb
 ·rw[e]at hb;unfold Be at hb;rw[nA,hf]at hb;exact hb
def Inv.zW(I:Inv X pins σ H s):∀b∈Be X.stack,H b=none:=λb hb=>by
 rcases gf.mp (I.uB b hb) with e | hb
 ·rw[e];exact I.free
 ·obtain⟨_,o,ho,_⟩:=I.ok.oA.mem hb;exact I.base.free b o ho (I.ok.Ka b hb) λz=>I.ok.Km b z hb
def Inv.step{g':Array GenState}{t':Nat}{d':Drawn}{ch:List Addr}(I:Inv X pins σ H s)
  (Mr:∀b∈ch,(b∈X.ex\/X.aeG.heap.objs.size<=b)/\b≠X.env.locals/\(∀x c,X.env.cells.lookup x=some c->c≠b)/\∀p∈X.pn++pins,p.1≠b)
  (keep:∀b o,b≠X.env.locals->b∉X.fs->b∉ch->s.heap.get? b=some o->H b=none->h'.get? b=some o)
  (slot:∀b o,b≠X.env.locals->b∈X.fs->b∉ch->s.heap.get? b=some o->H b=none->∃sl,h'.get? b=some { o with slots:=sl }) (free:∀b o,b∉ch->s.heap.get? b=some o->H b=none->H' b=none)
  (there:∀b o,b∉ch->s.heap.get? b=some o->∃o',h'.get? b=some o')
  (uq:∀b xs,H b=some (.tup xs)->H' b=some (.tup xs)) (rR:∀b o u,H b=some (.frz o u)->H' b=some (.frz o u)) (tL:∀b ps,H b=some (.tbl ps)->∃more,H' b=some (.tbl (ps++more)))
  (ns:∀m,s.heap.Ns X.env.locals m->h'.Ns X.env.locals m) (bN:jX X.prog X.w H' h') (hg:AllBare g') :
  Inv X pins σ H' { s with heap:=h',gens:=g',drawn:=d',toks:=t' }:=by
 have neL:∀b o,X.aeG.heap.get? b=some o->b≠X.env.locals:=λb o e=>gY (gQ (gq e) I.ok.above);have Mh:∀b o,X.aeG.heap.get? b=some o->b∉X.ex->b∉ch:=λb o e hx hb=>by
  rcases (Mr b hb).1 with z | z
  ·exact hx z
  ·exact absurd (gQ (gq e) z) (mJ _)
 have cellK:∀x c,X.env.cells.lookup x=some c->∀v,s.heap.IsCell c v->h'.IsCell c v:=λx c e v zz=>by
  obtain⟨o,ho,hd⟩:=zz;have Im:c∉ch:=λz=>(Mr c z).2.2.1 x c e rfl;by_cases hc:c∈X.fs
  ·obtain⟨sl,q⟩:=slot c o (I.Tn x c e) hc Im ho (I.jr x c e);exact⟨_,q,hd⟩
  ·exact⟨o,keep c o (I.Tn x c e) hc Im ho (I.jr x c e),hd⟩
 refine⟨I.ok,I.os,hg,⟨λb o e n hb hx=>?_,λb o e n hb hx=>?_,λb o e n hx=>?_,λb o e hx=>?_,λb xs e=>uq b xs (I.base.uq b xs e),λb o xs e=>rR b o xs (I.base.rR b o xs e),λb ps e=>?_⟩,?_,λx c e=>?_,?_,λx c e=>?_,λp hp=>?_,bN,I.len⟩
 ·exact keep b o (neL b o e) hb (Mh b o e hx) (I.base.keep b o e n hb hx) (I.base.free b o e n hx)
 ·obtain⟨sl,e1⟩:=I.base.slot b o e n hb hx;obtain⟨sl',e2⟩:=slot b _ (neL b o e) hb (Mh b o e hx) e1 (I.base.free b o e n hx);exact⟨sl',e2⟩
 ·obtain⟨o',e1⟩:=I.base.there b o e hx;exact free b o' (Mh b o e hx) e1 (I.base.free b o e n hx)
 ·obtain⟨o',e1⟩:=I.base.there b o e hx;exact there b o' (Mh b o e hx) e1
 ·obtain⟨m1,e1⟩:=I.base.tL b ps e;obtain⟨m2,e2⟩:=tL b _ e1;exact⟨m1++m2,by rw[e2,Array.append_assoc]⟩
 ·obtain⟨m,hn,hl⟩:=I.loc;refine⟨m,ns m hn,λi x v e1 e2 e3=>?_⟩;obtain⟨u,r,l⟩:=hl i x v e1 e2 e3;refine⟨u,r,?_⟩;rcases l with l | ⟨k,c,e,z⟩
  ·exact .inl l
  ·exact .inr ⟨k,c,e,cellK x c e _ z⟩
 ·obtain⟨v,z⟩:=I.cell x c e;exact⟨v,cellK x c e v z⟩
 ·obtain⟨m,⟨o,_,_,ho,_⟩,_⟩:=I.loc;exact free _ o (λz=>(Mr _ z).2.1 rfl) ho I.free
 ·obtain⟨v,o,ho,hd⟩:=I.cell x c e;exact free c o (λz=>(Mr c z).2.2.1 x c e rfl) ho (I.jr x c e)
 ·obtain⟨e,n,ne,nf,d⟩:=I.pin p hp;have Im:p.1∉ch:=λz=>(Mr p.1 z).2.2.2 p hp rfl;exact⟨keep p.1 p.2 ne nf Im e n,free p.1 p.2 Im e n,ne,nf,d⟩
def Inv.un{t':Nat}(I:Inv X pins σ H s)(u:Un X.fs [] H H' s.heap h')(bN:jX X.prog X.w H' h'):Inv X pins σ H' { s with heap:=h',toks:=t' }:=by
 obtain⟨m,⟨o,es,ep,ho,r⟩,_⟩:=id I.loc;obtain⟨sl,hL⟩:=u.any ho I.free (by simp);exact I.step (g':=s.gens) (d':=s.drawn) (ch:=[]) (λ_ z=>nomatch z) (λb o _ hb _ e n=>u.keep b o e n hb (by simp)) (λb o _ hb _ e n=>u.slot b o e n hb (by simp)) (λb o _ e n=>u.free b o e n (by simp)) (λb o _ e=>u.there b o e (by simp)) u.uq u.rR u.tL (λm' hm=>by
  obtain⟨o',es',ep',Mm,r'⟩:=hm;rw[ho]at Mm;cases Mm;exact⟨_,es',ep',hL,r'⟩) bN I.bare
def Inv.call{g':Array GenState}{t':Nat}{d':Drawn}{ch:List Addr}(I:Inv X pins σ H s)(u:Un (Be X.stack) ch H H' s.heap h')(bN:jX X.prog X.w H' h')(hg:AllBare g')
  (Mr:∀b∈ch,(b∈X.ex\/X.aeG.heap.objs.size<=b)/\b≠X.env.locals/\(∀x c,X.env.cells.lookup x=some c->c≠b)/\∀p∈X.pn++pins,p.1≠b) :
  Inv X pins σ H' { s with heap:=h',gens:=g',drawn:=d',toks:=t' }:=by
 obtain⟨m,⟨o,es,ep,ho,r⟩,_⟩:=id I.loc;obtain⟨sl,hL⟩:=u.any ho I.free λz=>(Mr _ z).2.1 rfl;exact I.step (ch:=ch) Mr (λb o hL hb hc e n=>u.keep b o e n (λz=>(gf.mp (I.uB b z)).elim hL hb) hc) (λb o _ _ hc e n=>u.any e n hc) (λb o hc e n=>u.free b o e n hc) (λb o hc e=>u.there b o e hc) u.uq u.rR u.tL (λm' hm=>by
  obtain⟨o',es',ep',Mm,r'⟩:=hm;rw[ho]at Mm;cases Mm;exact⟨_,es',ep',hL,r'⟩) bN hg
def Inv.turned{t':Nat}{it:Addr}(I:Inv X pins σ H s)(k:∀b o,b≠it->s.heap.get? b=some o->h'.get? b=some o)(hn:H it=none)(hL:it≠X.env.locals)
  (h1:it∈X.ex\/X.aeG.heap.objs.size<=it) (h2:∀x c,X.env.cells.lookup x=some c->c≠it) (h3:∀p∈X.pn++pins,p.1≠it):Inv X pins σ H { s with heap:=h',toks:=t' }:=by
 have nit:∀b u,H b=some u->b≠it:=λb u e z=>by rw[z,hn]at e;cases e
 refine I.step (g':=s.gens) (d':=s.drawn) (ch:=[it]) (λb hb=>?_) (λb o _ _ hc e _=>k b o (λz=>hc (by simp[z])) e) (λb o _ _ hc e _=>⟨o.slots,k b o (λz=>hc (by simp[z])) e⟩) (λ_ _ _ _ n=>n)
  (λb o hc e=>⟨o,k b o (λz=>hc (by simp[z])) e⟩) (λ_ _ e=>e) (λ_ _ _ e=>e) (λb ps e=>⟨#[],by rw[e];simp⟩) (λm hm=>?_) (λb u e=>?_) I.bare
 ·have e:b=it:=by simpa using hb
  subst e;exact⟨h1,hL,h2,h3⟩
 ·obtain⟨o,es,ep,ho,r⟩:=hm;exact⟨o,es,ep,k _ o (ae1 hL) ho,r⟩
 ·refine (I.bN b u e).tO (λc v hc q=>k c v ?_ q) (λ_ q=>q) λ_ _ q=>q;rcases hc with z | z
  ·rw[z];exact nit b u e
  ·exact nit c _ z
def Inv.tok(I:Inv X pins σ H s)(t:Nat):Inv X pins σ H { s with toks:=t }:=I.un (h':=s.heap) (t':=t) Un.refl I.bN
def Inv.kept(I:Inv X pins σ H s)(k:∀b u,s.heap.get? b=some u->h'.get? b=some u):Inv X pins σ H { s with heap:=h',toks:=t' }:=I.un (Un.kept k) (I.bN.kept k)
def Inv.laid(I:Inv X pins σ H s)(k:∀b u,s.heap.get? b=some u->h'.get? b=some u)(hp:s.heap.objs.size<=a)(new:bY X.prog X.w (upd H a o) h' a o) :
  Inv X pins σ (upd H a o) { s with heap:=h',toks:=t' }:=I.un (Un.laid k hp (I.bN.fresh hp)) (I.bN.laid k hp new)
def Inv.write(I:Inv X pins σ H s)(mu:Mut (H x))(he:e=x\/H e=some (.own x))(k:∀b u,b≠e->s.heap.get? b=some u->h'.get? b=some u)(Mq:∃u,h'.get? e=some u) 
  (new:bY X.prog X.w (upd H x o) h' x o):Inv X pins σ (upd H x o) { s with heap:=h',toks:=t' }:=I.un (Un.write mu he k Mq) (I.bN.write mu he k Mq new)
def Inv.z7(I:Inv X pins σ H s)(h:∀p∈aaR,s.heap.get? p.1=some p.2/\H p.1=none/\p.1≠X.env.locals/\p.1∉X.fs/\∀v,p.2.data≠.cell v):Inv X aaR σ H s :=
 ⟨I.ok,I.os,I.bare,I.base,I.loc,I.cell,I.free,I.jr,λp hp=>(m7.mp hp).elim (λz=>I.pin p (List.mem_append_left _ z)) (h p),I.bN,I.len⟩
def zs3{N:List Str}(hN:N.Nodup){i j:Nat}{x:Str}(a:N[i]? = some x)(b:N[j]? = some x):i=j:=by
 obtain⟨h1,e1⟩:=gh.mp a;obtain⟨h2,e2⟩:=gh.mp b;exact (List.getElem_inj hN).mp (e1.trans e2.symm)
def zo4{M:Model}{A:Around}{E:Value->Shared->Prop}{i:Nat}{x:Str}{v:V}{u:Value}{Q:Unit->Shared->Prop}(I:Inv X pins σ H s)(hN:X.N.Nodup)(hi:X.N[i]? = some x)(hx:Loc X.env.scope x)(r:RelV v u)
  (h:∀s',Inv X pins (σ.set i (some v)) H s'->(∃a,Heap.SameBut a s.heap s'.heap/\(a=X.env.locals\/X.env.cells.lookup x=some a))->Q () s') (hf:X.fn x=true\/X.env.scope.names.lookup x=some .local:=by first | exact .inl rfl | exact .inr rfl | assumption):wpAny M A (storeName X.env x u) Q E s:=by
 obtain⟨m,hn,hl⟩:=id I.loc;have adV:(X.env.scope.kind == .class || (X.env.scope.kind == .module && X.env.locals != X.env.globals))=false:=by rw[I.ok.kind];rfl
 have aes:i<σ.length:=by rw[I.len];exact (gh.mp hi).1
 have Tn:=I.Tn;have tracked:∀{a:Addr} {h':Heap},(∃o,s.heap.get? a=some o/\H a=none)->Heap.SameBut a s.heap h'->jX X.prog X.w H h':=λ{a h'} ha hs b ob e=>by
  obtain⟨_,_,Sw⟩:=ha;refine (I.bN b ob e).tO (λc w' hc q=>(hs.2 c ?_).trans q) (λ_ q=>q) λ_ _ q=>q;rintro rfl;rcases hc with rfl | hc
  ·rw[Sw]at e;cases e
  ·rw[Sw]at hc;cases hc
 rcases hx with hk | hk
 ·refine wpAny_storeName_local hk hn (λh' hn' hs=>?_) adV;obtain⟨oL,_,_,hoL,_⟩:=id hn;refine h _ ⟨I.ok,I.os,I.bare,⟨λb o e n hb hx=>?_,λb o e n hb hx=>?_,I.base.free,λb o e hx=>?_,I.base.uq,I.base.rR,I.base.tL⟩,⟨_,hn',λj y v' e1 e2 e3=>?_⟩,λy c e=>?_,I.free,I.jr,λp hp=>?_,tracked ⟨oL,hoL,I.free⟩ hs,by simpa using I.len⟩ ⟨_,hs,.inl rfl⟩
  ·exact (hs.2 b (gY (gQ (gq e) I.ok.above))).trans (I.base.keep b o e n hb hx)
  ·obtain⟨sl,e1⟩:=I.base.slot b o e n hb hx;exact⟨sl,(hs.2 b (gY (gQ (gq e) I.ok.above))).trans e1⟩
  ·obtain⟨o',e1⟩:=I.base.there b o e hx;exact⟨o',(hs.2 b (gY (gQ (gq e) I.ok.above))).trans e1⟩
  ·by_cases hj:j=i
   ·subst hj;rw[hi]at e1;cases e1;rw[m8 aes]at e2;cases e2;exact⟨u,r,.inl ⟨hk,by simp⟩⟩
   ·rw[gO (ae1 hj)]at e2;obtain⟨u',r',q⟩:=hl j y v' e1 e2 e3;refine⟨u',r',?_⟩;rcases q with⟨k,e⟩ | ⟨k,c,e,z⟩
    ·refine .inl ⟨k,?_⟩;have:y≠x:=λe=>hj (zs3 hN e1 (e ▸ hi));simp[this,e]
    ·exact .inr ⟨k,c,e,z.sameBut hs (Tn y c e)⟩
  ·obtain⟨w',z⟩:=I.cell y c e;exact⟨w',z.sameBut hs (Tn y c e)⟩
  ·obtain⟨e,n,ne,nf,d⟩:=I.pin p hp;exact⟨(hs.2 p.1 ne).trans e,n,ne,nf,d⟩
 ·have WX:X.fn x=true:=by
   rcases hf with z | z
   ·exact z
   ·rw[z]at hk;cases hk
  obtain⟨c,hc⟩:=I.ok.has x (.inl hk);obtain⟨w',z⟩:=I.cell x c hc;refine wpAny_storeName_cell I.ok.kind hk hc z (λh' W9 hs=>?_);obtain⟨oc,hoc,adM⟩:=id z;refine h { s with heap:=h' } ⟨I.ok,I.os,I.bare,⟨λb o e n hb hx=>?_,λb o e n hb hx=>?_,I.base.free,λb o e hx=>?_,I.base.uq,I.base.rR,I.base.tL⟩,⟨m,hn.sameBut hs (ae1 (Tn x c hc)),λj y v' e1 e2 e3=>?_⟩,λy c' e=>?_,I.free,I.jr,λp hp=>?_,tracked ⟨oc,hoc,I.jr x c hc⟩ hs,by simpa using I.len⟩ ⟨c,hs,.inr hc⟩
  ·exact (hs.2 b (gY (gQ (gq e) (I.ok.Tp x c WX hc)))).trans (I.base.keep b o e n hb hx)
  ·obtain⟨sl,e1⟩:=I.base.slot b o e n hb hx;exact⟨sl,(hs.2 b (gY (gQ (gq e) (I.ok.Tp x c WX hc)))).trans e1⟩
  ·obtain⟨o',e1⟩:=I.base.there b o e hx;exact⟨o',(hs.2 b (gY (gQ (gq e) (I.ok.Tp x c WX hc)))).trans e1⟩
  ·by_cases hj:j=i
   ·subst hj;rw[hi]at e1;cases e1;rw[m8 aes]at e2;cases e2;exact⟨u,r,.inr ⟨.inl hk,c,hc,W9⟩⟩
   ·rw[gO (ae1 hj)]at e2;obtain⟨u',r',q⟩:=hl j y v' e1 e2 e3;refine⟨u',r',?_⟩;rcases q with q | ⟨k,c',e,z'⟩
    ·exact .inl q
    ·refine .inr ⟨k,c',e,z'.sameBut hs ?_⟩;rintro rfl;exact hj (zs3 hN e1 (I.ok.inj _ _ _ e hc ▸ hi))
  ·by_cases hcc:c'=c
   ·subst hcc;exact⟨_,W9⟩
   ·obtain⟨w2,z2⟩:=I.cell y c' e;exact⟨w2,z2.sameBut hs hcc⟩
  ·obtain⟨e,n,ne,nf,d⟩:=I.pin p hp;refine⟨(hs.2 p.1 ?_).trans e,n,ne,nf,d⟩;intro q;rw[q,hoc]at e;have q':oc=p.2:=aeU e;exact d w' (by rw[<-q'];exact adM)
def zr0(I:Inv X pins σ H s)(hN:X.N.Nodup)(hi:X.N[i]? = some x)(hx:Loc X.env.scope x)(r:RelV v u) 
  (h:∀s',Inv X pins (σ.set i (some v)) H s'->Q () s') (hf:X.fn x=true\/X.env.scope.names.lookup x=some .local:=by first | exact .inl rfl | exact .inr rfl | assumption):wpAny M A (storeName X.env x u) Q E s :=
 zo4 I hN hi hx r (λs' I' _=>h s' I') hf
def Inv.abV(I:Inv X pins σ H s)(ho:s'.os=s.os)(u:Un (Be X.stack) ch H H' s.heap s'.heap)(bN:jX X.prog X.w H' s'.heap)(hg:AllBare s'.gens) 
  (Mr:∀b∈ch,(b∈X.ex\/X.aeG.heap.objs.size<=b)/\b≠X.env.locals/\(∀x c,X.env.cells.lookup x=some c->c≠b)/\∀p∈X.pn++pins,p.1≠b):Inv X pins σ H' s':=by
 obtain⟨h',g',d',t',o'⟩:=s';have e:o'=s.os:=ho;subst e;exact I.call (g':=g') (t':=t') (d':=d') u bN hg Mr
end
noncomputable abbrev XK:=Value->Option Addr->Hp->Prop
noncomputable abbrev St:=List (Option V)
noncomputable abbrev VK:=V->Hp->Prop
noncomputable abbrev TE:=St->Hp->VK->Prop
noncomputable abbrev TT:=St->Hp->(Bool->Hp->Prop)->Prop
noncomputable abbrev TA:=St->Hp->(List V->Hp->Prop)->Prop
structure Ends where
 nx:St->Hp->Prop
 rt:VK
 bk:St->Hp->Prop:=λ_ _=>False
 ct:St->Hp->Prop:=λ_ _=>False
noncomputable abbrev TS:=Ends->St->Hp->Prop
def EP(X:Cx)(pins:List (Addr×Obj))(σ:St)(Q:VK)(u:Value)(s':Shared):Prop:=∃v H',Inv X pins σ H' s'/\RelV v u/\Q v H'
def TP(X:Cx)(pins:List (Addr×Obj))(σ:St)(Q:Bool->Hp->Prop)(b:Bool)(s':Shared):Prop:=∃H',Inv X pins σ H' s'/\Q b H'
def AP(X:Cx)(pins:List (Addr×Obj))(σ:St)(Q:List V->Hp->Prop)(us:List Value)(s':Shared):Prop:=∃vs H',Inv X pins σ H' s'/\Vals vs us/\Q vs H'
def SP(X:Cx)(pins:List (Addr×Obj))(D:Ends)(f:Flow)(s':Shared):Prop :=
 match f with
 | .next=>∃σ' H',Inv X pins σ' H' s'/\D.nx σ' H'
 | .brk=>∃σ' H',Inv X pins σ' H' s'/\D.bk σ' H'
 | .cont=>∃σ' H',Inv X pins σ' H' s'/\D.ct σ' H'
 | .ret u=>∃v σ' H',Inv X pins σ' H' s'/\RelV v u/\D.rt v H'
def PE(X:Cx)(e:Expr)(t:TE):Prop :=
 ∀(pins:List (Addr×Obj)) (s:Shared) (σ:St) (H:Hp) (Q:VK),Inv X pins σ H s->t σ H Q->wpAny (model X.prog X.w) X.A (eval e X.env) (EP X pins σ Q) X.xe s
def PT(X:Cx)(e:Expr)(t:TT):Prop :=
 ∀(pins:List (Addr×Obj)) (s:Shared) (σ:St) (H:Hp) (Q:Bool->Hp->Prop),Inv X pins σ H s->t σ H Q->wpAny (model X.prog X.w) X.A (isTrue e X.env (eval e X.env)) (TP X pins σ Q) X.xe s
def PW(X:Cx)(e:Expr)(t:TT):Prop :=
 ∀(whole:Sem Value) (pins:List (Addr×Obj)) (s:Shared) (σ:St) (H:Hp) (Q:Bool->Hp->Prop),Inv X pins σ H s->t σ H Q->wpAny (model X.prog X.w) X.A (isTrue e X.env whole) (TP X pins σ Q) X.xe s
def PW.pt(h:PW X e t):PT X e t:=h _
def PA(X:Cx)(es:List Expr)(t:TA):Prop :=
 ∀(pos:Pos) (pins:List (Addr×Obj)) (s:Shared) (σ:St) (H:Hp) (Q:List V->Hp->Prop),Inv X pins σ H s->t σ H Q->wpAny (model X.prog X.w) X.A (spliced (backTo pos (starEach es X.env))) (AP X pins σ Q) X.xe s
def PS(X:Cx)(st:Stmt)(t:TS):Prop :=
 ∀(pins:List (Addr×Obj)) (s:Shared) (σ:St) (H:Hp) (D:Ends),Inv X pins σ H s->t D σ H->wpAny (model X.prog X.w) X.A (exec st X.env) (SP X pins D) X.xe s
def yC(X:Cx)(st:List Stmt)(t:TS):Prop :=
 ∀(pins:List (Addr×Obj)) (s:Shared) (σ:St) (H:Hp) (D:Ends),Inv X pins σ H s->t D σ H->wpAny (model X.prog X.w) X.A (execs st X.env) (SP X pins D) X.xe s
def cH{α:Type}{t:Sem α}{Q Q':α->Shared->Prop}{M:Model}{A:Around}{E:Value->Shared->Prop}{s:Shared}(h:wpAny M A t Q E s)(hQ:∀a s,Q a s->Q' a s):wpAny M A t Q' E s:=ae4 h hQ λ_ _ x=>x
section
variable  {X:Cx}
noncomputable def acu(i:Nat):TE:=fun σ H Q=>∃v,σ[i]? = some (some v)/\Q v H
noncomputable def tC(v:V):TE:=λ_ H Q=>Q v H
def Hw(hN:X.N[i]? = some x)(hv:Vis X.env.scope x)(hd:(x==("__debug__":Str))=false:=by decide)(xV:(x==("__classdict__":Str))=false:=by decide):PE X (.Name x pos) (acu i):=by
 intro pins s σ H Q I h;obtain⟨v,e,h⟩:=h;obtain⟨m,hn,hl⟩:=I.loc;obtain⟨u,r,l⟩:=hl i x v hN e hv;have fin:EP X pins σ Q u s:=⟨v,H,I,r,h⟩;rcases l with⟨hk,hm⟩ | ⟨hk,c,hc,SJ⟩
 ·exact wpAny_Name (wpAny_loadName_local I.ok.kind hk hn hm fin) hd
 ·rcases hk with hk | hk
  ·exact wpAny_Name (wpAny_loadName_cell I.ok.kind hk hc SJ fin) hd
  ·exact wpAny_Name (wpAny_loadName_free I.ok.kind hk hc SJ fin xV) hd
def Vp{i j pos}:PE X (.Constant (.int i) j pos) (tC (.int i)):=λ_ _ _ H _ I h=>wpAny_Constant_int ⟨.int i,H,I.tok _,⟨_,rfl⟩,h⟩
def aaZ{b j pos}:PE X (.Constant (.bool b) j pos) (tC (.bl b)):=λ_ _ _ H _ I h=>Constant_bool ⟨.bl b,H,I,rfl,h⟩
def Vm{j pos}:PE X (.Constant .none j pos) (tC .non):=λ_ _ _ H _ I h=>Constant_none ⟨.non,H,I,rfl,h⟩
def Vi{x j pos}:PE X (.Constant (.str x) j pos) (tC (.str x)):=λ_ _ _ H _ I h=>Calls.Constant_str ⟨.str x,H,I.tok _,⟨_,rfl⟩,h⟩
def Gl(X:Cx)(x:Str):Prop:=X.env.kindOf x=some .globalImplicit
def ZK(I:Inv X pins σ H s)(hg:Gl X x)(hm:X.mg x=some u)(h:Q u s) 
  (hd:(x==("__debug__":Str))=false:=by decide):wpAny (model X.prog X.w) X.A (eval (.Name x pos) X.env) Q E s :=
 Calls.Name_function_global I.ok.kind hg (Calls.loadGlobal_global (by rw[I.ok.glob];exact I.mod.glob.keeps I.bk) hm h) hd
def Mu(I:Inv X pins σ H s)(hg:Gl X x)(hm:X.mg x=none)(hv:bootBuiltins x=some u)(h:Q u s) 
  (hn:x ≠ "__name__":=by decide) (hd:(x==("__debug__":Str))=false:=by decide):wpAny (model X.prog X.w) X.A (eval (.Name x pos) X.env) Q E s:=by
 obtain⟨mb,h1,h2⟩:=I.mod.blt;exact Calls.Name_function_global I.ok.kind hg (Calls.loadGlobal_builtin (by rw[I.ok.glob];exact I.mod.glob.keeps I.bk) hm (by rw[I.ok.blt];exact h1.keeps I.bk) ((h2 x hn).trans hv) h) hd
def Ov(hg:Gl X x)(hm:X.mg x=some u)(r:RelV v u)(hd:(x==("__debug__":Str))=false:=by decide):PE X (.Name x pos) (tC v) :=
 λ_ _ _ H _ I h=>ZK I hg hm ⟨v,H,I,r,h⟩ hd
def O1{x:Str}{v:V}{u:Value}{pos:Pos}(hg:Gl X x)(hm:X.mg x=none)(hv:bootBuiltins x=some u)(r:RelV v u)(hn:x ≠ "__name__":=by decide)(hd:(x==("__debug__":Str))=false:=by decide):PE X (.Name x pos) (tC v) :=
 λ_ _ _ H _ I h=>Mu I hg hm hv ⟨v,H,I,r,h⟩ hn hd
variable  {a b:Expr}{ta tb:TE}{pos:Pos}
variable  {tA tB':TT}{rest:List Expr}
noncomputable def acG(t u:TT):TT:=fun σ H Q=>t σ H λc H1=>if c=true then u σ H1 Q else Q false H1
noncomputable def tOr(t u:TT):TT:=fun σ H Q=>t σ H λc H1=>if c=true then Q true H1 else u σ H1 Q
noncomputable def acz(t:TT):TT:=fun σ H Q=>t σ H λc H1=>Q (!c) H1
def N7(ha:PT X a tA):PW X (.BoolOp .And [a] pos) tA:=by
 intro wh pins s σ H Q I h;refine isTrue_and (cH (ha pins s σ H Q I h) λc s1 e=>?_);cases c with
 | true=>exact isTrue_and_nil e
 | false=>exact e
def U5(ha:PT X a tA):PW X (.BoolOp .Or [a] pos) tA:=by
 intro wh pins s σ H Q I h;refine isTrue_or (cH (ha pins s σ H Q I h) λc s1 e=>?_);cases c with
 | false=>exact isTrue_or_nil e
 | true=>exact e
def U6(ha:PT X a tA)(hb:PW X (.BoolOp .And (b::rest) pos) tB'):PW X (.BoolOp .And (a::b::rest) pos) (acG tA tB'):=by
 intro wh pins s σ H Q I h;refine isTrue_and (cH (ha pins s σ H _ I h) λc s1 zz=>?_);obtain⟨H1,I1,q1⟩:=zz;cases c with
 | true=>exact hb wh pins s1 σ H1 Q I1 q1
 | false=>exact⟨H1,I1,q1⟩
def aaN(ha:PT X a tA)(hb:PW X (.BoolOp .Or (b::rest) pos) tB'):PW X (.BoolOp .Or (a::b::rest) pos) (tOr tA tB'):=by
 intro wh pins s σ H Q I h;refine isTrue_or (cH (ha pins s σ H _ I h) λc s1 zz=>?_);obtain⟨H1,I1,q1⟩:=zz;cases c with
 | true=>exact⟨H1,I1,q1⟩
 | false=>exact hb wh pins s1 σ H1 Q I1 q1
def U7(ha:PT X a tA):PT X (.UnaryOp .Not a pos) (acz tA):=by
 intro pins s σ H Q I h;exact isTrue_not (ha pins s σ H (λc H1=>Q (!c) H1) I h)
noncomputable def aat(ta tb:TE):TE:=fun σ H Q=>ta σ H λx H1=>∃c,x=.bl c/\if c=true then tb σ H1 Q else Q (.bl false) H1
noncomputable def acy(ta tb:TE):TE:=fun σ H Q=>ta σ H λx H1=>∃c,x=.bl c/\if c=true then Q (.bl true) H1 else tb σ H1 Q
noncomputable def aaj(ta:TE):TE:=fun σ H Q=>ta σ H λx H1=>∃c,x=.bl c/\Q (.bl (!c)) H1
def Vk{op}(h:PE X a t):PE X (.BoolOp op [a] pos) t:=λpins s σ H Q I hw=>BoolOp_one (h pins s σ H Q I hw)
def Vs(ha:PE X a ta)(hb:PE X (.BoolOp .And (b::rest) pos) tb):PE X (.BoolOp .And (a::b::rest) pos) (aat ta tb):=by
 intro pins s σ H Q I h;refine BoolOp_and (cH (ha pins s σ H _ I h) λv s1 zz=>?_);obtain⟨x,H1,I1,r1,q1⟩:=zz;obtain⟨c,rfl,q1⟩:=q1;cases r1;refine afk ?_;cases c with
 | true=>exact hb pins s1 σ H1 Q I1 q1
 | false=>exact⟨.bl false,H1,I1,rfl,q1⟩
def aaV(ha:PE X a ta)(hb:PE X (.BoolOp .Or (b::rest) pos) tb):PE X (.BoolOp .Or (a::b::rest) pos) (acy ta tb):=by
 intro pins s σ H Q I h;refine BoolOp_or (cH (ha pins s σ H _ I h) λv s1 zz=>?_);obtain⟨x,H1,I1,r1,q1⟩:=zz;obtain⟨c,rfl,q1⟩:=q1;cases r1;refine afk ?_;cases c with
 | false=>exact hb pins s1 σ H1 Q I1 q1
 | true=>exact⟨.bl true,H1,I1,rfl,q1⟩
def Vl(ha:PE X a ta):PE X (.UnaryOp .Not a pos) (aaj ta):=by
 intro pins s σ H Q I h;refine UnaryOp_ (cH (ha pins s σ H _ I h) λv s1 zz=>?_);obtain⟨x,H1,I1,r1,q1⟩:=zz;obtain⟨c,rfl,q1⟩:=q1;cases r1;exact not_of (afk ⟨.bl (!c),H1,I1,rfl,q1⟩)
noncomputable def tIf(t:TT)(ta tb:TE):TE:=fun σ H Q=>t σ H λc H1=>if c=true then ta σ H1 Q else tb σ H1 Q
def Hy{c:Expr}(hc:PT X c tA)(ha:PE X a ta)(hb:PE X b tb):PE X (.IfExp c a b pos) (tIf tA ta tb):=by
 intro pins s σ H Q I h;refine wpAny_IfExp (cH (hc pins s σ H _ I h) λd s1 zz=>?_);obtain⟨H1,I1,q1⟩:=zz;cases d with
 | true=>exact ha pins s1 σ H1 Q I1 q1
 | false=>exact hb pins s1 σ H1 Q I1 q1
end
def lM(K:PySem.W.Frag)(H:Hp)(a:Addr)(xs:List V):Prop :=
 Rd H a (.lst xs) \/
  ∃(o:Obj) (its:Array Value) (n:Nat),K.lookup a=some o/\o.cls=.type "list"/\o.dict=none/\o.data=.seq its n/\its.size<=sizeLine/\Vals xs its.toList
def lR(K:PySem.W.Frag)(H:Hp)(a:Addr)(xs:List V):Prop :=
 Rd H a (.tup xs) \/
  ∃(o:Obj) (its:Array Value) (n:Nat),K.lookup a=some o/\o.cls=.type "tuple"/\o.data=.seq its n/\its.size<=sizeLine/\Vals xs its.toList
noncomputable def aed:Value->Option V
 | .none=>some .non
 | .bool b=>some (.bl b)
 | .int i _=>some (.int i)
 | .str x _=>some (.str x)
 | .bytes b _=>some (.byt b)
 | .float b _=>some (.flt b)
 | .ref a=>some (.ref a)
 | .type n=>some (.ty n)
 | _=>none
def RelV.abs(r:RelV x u):aed u=some x:=by
 cases x with
 | non=>cases r;rfl
 | bl _=>cases r;rfl
 | int _=>obtain⟨t,rfl⟩:=r;rfl
 | str _=>obtain⟨t,rfl⟩:=r;rfl
 | byt _=>obtain⟨t,rfl⟩:=r;rfl
 | flt _=>obtain⟨t,rfl⟩:=r;rfl
 | ref _=>cases r;rfl
 | ty _=>cases r;rfl
def RelV.inj{x y:V}{u:Value}(r:RelV x u)(q:RelV y u):x=y:=aeU (r.abs.symm.trans q.abs)
theorem Vals.inj:∀{xs ys:List V} {us:List Value},Vals xs us->Vals ys us->xs=ys
 | _,_,_,.nil,.nil=>rfl
 | _,_,_,.cons r t,.cons r' t'=>by rw[r.inj r',Vals.inj t t']
section
variable  {X:Cx}{pins:List (Addr×Obj)}{σ:St}{H:Hp}{s:Shared}{a:Addr}{xs ys:List V}
def lM.of{K:PySem.W.Frag}(h:H a=some (.lst xs)):lM K H a xs:=.inl (.inl h)
def lR.of{K:PySem.W.Frag}(h:H a=some (.tup xs)):lR K H a xs:=.inl (.inl h)
def Inv.list(I:Inv X pins σ H s)(h:lM X.K H a xs):∃its:List Value,Vals xs its/\PlainL s.heap a its.toArray/\xs.length<=sizeLine:=by
 rcases h with h | ⟨o,its,n,hk,hc,hd,hs,hz,r⟩
 ·obtain⟨z,its,n,r,e⟩:=h.ok I.bN;exact⟨its,r,⟨_,n,e,rfl,rfl,rfl⟩,z⟩
 ·refine⟨its.toList,r,⟨o,n,I.qb a o hk,hc,hd,by simpa using hs⟩,?_⟩;have e:=r.length;simp only[nM]at e;omega
def Inv.tuple(I:Inv X pins σ H s)(h:lR X.K H a xs):∃its:List Value,Vals xs its/\IsTup s.heap a its.toArray/\xs.length<=sizeLine:=by
 rcases h with h | ⟨o,its,n,hk,hc,hs,hz,r⟩
 ·obtain⟨z,its,r,p⟩:=h.ok I.bN;exact⟨its,r,p,z⟩
 ·refine⟨its.toList,r,⟨o,I.qb a o hk,hc,n,by simpa using hs⟩,?_⟩;have e:=r.length;simp only[nM]at e;omega
def Inv.uH(I:Inv X pins σ H s)(h:lM X.K H a xs)(h':lM X.K H a ys):xs=ys:=by
 obtain⟨its,r,⟨o,n,e,_,_,d⟩,_⟩:=I.list h;obtain⟨its',r',⟨o',n',e',_,_,d'⟩,_⟩:=I.list h';rw[e]at e';cases e';rw[d]at d';injection d' with d1 _;have:its=its':=by simpa using congrArg Array.toList d1
 subst this;exact r.inj r'
def Inv.rC(I:Inv X pins σ H s)(h:lR X.K H a xs)(h':lR X.K H a ys):xs=ys:=by
 obtain⟨its,r,⟨o,e,_,n,d⟩,_⟩:=I.tuple h;obtain⟨its',r',⟨o',e',_,n',d'⟩,_⟩:=I.tuple h';rw[e]at e';cases e';rw[d]at d';injection d' with d1 _;have:its=its':=by simpa using congrArg Array.toList d1
 subst this;exact r.inj r'
end
noncomputable abbrev Cx.wish(X:Cx)(E:Value->Shared->Prop):Cx:={ X with xe:=E }
noncomputable abbrev Cx.O_(X:Cx):Cx:=X.wish λ_ _=>False
def Cx.Ok.wish{X:Cx}(ok:X.Ok)(E:Value->Shared->Prop):(X.wish E).Ok :=
 ⟨ok.mod,ok.kind,ok.glob,ok.blt,ok.above,ok.inj,ok.has,ok.Tp,ok.hd,ok.frames,ok.stk,ok.exf,ok.bs,ok.Fi,ok.Dl,ok.Km,ok.oA,ok.Ka⟩
def Cx.Ok.j8{X:Cx}{E:Value->Shared->Prop}(ok:(X.wish E).Ok):X.Ok :=
 ⟨ok.mod,ok.kind,ok.glob,ok.blt,ok.above,ok.inj,ok.has,ok.Tp,ok.hd,ok.frames,ok.stk,ok.exf,ok.bs,ok.Fi,ok.Dl,ok.Km,ok.oA,ok.Ka⟩
section
variable  {X:Cx}{pins:List (Addr×Obj)}{σ:St}{H:Hp}{s:Shared}{E:Value->Shared->Prop}
def Inv.wish(I:Inv X pins σ H s)(E:Value->Shared->Prop):Inv (X.wish E) pins σ H s:=⟨I.ok.wish E,I.os,I.bare,I.base,I.loc,I.cell,I.free,I.jr,I.pin,I.bN,I.len⟩
def Inv.j8(I:Inv (X.wish E) pins σ H s):Inv X pins σ H s:=⟨I.ok.j8,I.os,I.bare,I.base,I.loc,I.cell,I.free,I.jr,I.pin,I.bN,I.len⟩
def SP.j8(h:SP (X.wish E) pins D f s'):SP X pins D f s':=by
 cases f with
 | next=>obtain⟨σ',H',I,q⟩:=h;exact⟨σ',H',I.j8,q⟩
 | brk=>obtain⟨σ',H',I,q⟩:=h;exact⟨σ',H',I.j8,q⟩
 | cont=>obtain⟨σ',H',I,q⟩:=h;exact⟨σ',H',I.j8,q⟩
 | ret u=>obtain⟨v,σ',H',I,r,q⟩:=h;exact⟨v,σ',H',I.j8,r,q⟩
def yC.O_{st:List Stmt}{t:TS}(h:yC X.O_ st t):yC X st t:=λpins s σ H D I hw =>
 ae4 (h pins s σ H D (I.wish _) hw) (λ_ _ q=>q.j8) λ_ _ z=>False.elim z
end
section
variable  {X:Cx}{st:Stmt}{rest:List Stmt}{t u:TS}{e:Expr}{te:TE}{pos:Pos}
noncomputable def aal:TS:=λD σ H=>D.nx σ H
noncomputable def acw(t u:TS):TS:=λD σ H=>t { D with nx:=u D } σ H
def Ob:yC X [] aal:=λ_ _ σ H _ I h=>wpAny_execs_nil ⟨σ,H,I,h⟩
def Ho(h1:PS X st t)(h2:yC X rest u):yC X (st::rest) (acw t u):=by
 intro pins s σ H D I h;refine wpAny_execs_cons (cH (h1 pins s σ H { D with nx:=u D } I h) λf s1 q=>?_);cases f with
 | next =>
  obtain⟨σ',H',I',q⟩:=q;exact h2 pins s1 σ' H' D I' q
 | ret v=>exact q
 | brk=>exact q
 | cont=>exact q
def Oa(h1:PS X st t):yC X [st] t:=by
 intro pins s σ H D I h;refine wpAny_execs_cons (cH (h1 pins s σ H D I h) λf s1 q=>?_);cases f with
 | next=>exact wpAny_execs_nil q
 | ret v=>exact q
 | brk=>exact q
 | cont=>exact q
def Inv.quiet(I:Inv X pins σ H s):interactive X.env=false:=by simp[interactive,I.ok.kind]
noncomputable def aap(te:TE):TS:=λD σ H=>te σ H λ_ H1=>D.nx σ H1
def Oc(he:PE X e te)(hs:swapsWith e none pos.line X.env=pure false:=by rfl):PS X (.Expr e pos) (aap te):=by
 intro pins s σ H D I h;refine wpAny_Expr_any (cH (he pins s σ H _ I h) λv s1 zz=>?_) I.quiet hs;obtain⟨x,H1,I1,r1,q1⟩:=zz;exact⟨σ,H1,I1,q1⟩
noncomputable def acx(te:TE):TS:=λD σ H=>te σ H D.rt
def U9(he:PE X e te):PS X (.Return (some e) pos) (acx te):=by
 intro pins s σ H D I h;refine wpAny_Return_some (cH (he pins s σ H _ I h) λv s1 zz=>?_);obtain⟨x,H1,I1,r1,q1⟩:=zz;exact⟨x,σ,H1,I1,r1,q1⟩
noncomputable def acC(c:TT)(t u:TS):TS:=λD σ H=>c σ H λb H1=>if b=true then t D σ H1 else u D σ H1
def aaO{c:Expr}{a b:List Stmt}{tc:TT}(hc:PT X c tc)(ha:yC X a t)(hb:yC X b u):PS X (.If c a b pos) (acC tc t u):=by
 intro pins s σ H D I h;refine wpAny_If (cH (hc pins s σ H _ I h) λd s1 zz=>?_);obtain⟨H1,I1,q1⟩:=zz;cases d with
 | true=>exact ha pins s1 σ H1 D I1 q1
 | false=>exact hb pins s1 σ H1 D I1 q1
end
noncomputable abbrev TG:=V->St->Hp->(St->Hp->Prop)->Prop
noncomputable abbrev Tt:=List V->St->Hp->(St->Hp->Prop)->Prop
def PG(X:Cx)(target:Expr)(t:TG):Prop :=
 ∀(pins:List (Addr×Obj)) (s:Shared) (σ:St) (H:Hp) (v:V) (u:Value) (Q:St->Hp->Prop),Inv X pins σ H s->RelV v u->t v σ H Q ->
  wpAny (model X.prog X.w) X.A (assign target X.env u) (λ_ s'=>∃σ' H',Inv X pins σ' H' s'/\Q σ' H') X.xe s
def Zv(X:Cx)(ts:List Expr)(t:Tt):Prop :=
 ∀(pins:List (Addr×Obj)) (s:Shared) (σ:St) (H:Hp) (vs:List V) (us:List Value) (Q:St->Hp->Prop),Inv X pins σ H s->Vals vs us->t vs σ H Q ->
  wpAny (model X.prog X.w) X.A (assignInOrder ((assignEach ts X.env).map (·.2)) us) (λ_ s'=>∃σ' H',Inv X pins σ' H' s'/\Q σ' H') X.xe s
noncomputable abbrev Rk:=V->V->V->Hp->(Hp->Prop)->Prop
def Xr(X:Cx)(t:Rk):Prop :=
 ∀(pins:List (Addr×Obj)) (s:Shared) (σ:St) (H:Hp) (o i v:V) (ov iv u:Value) (Q:Hp->Prop),Inv X pins σ H s->RelV o ov->RelV i iv->RelV v u->t o i v H Q ->
  wpAny (model X.prog X.w) X.A (setItem ov iv u) (λ_ s'=>∃H',Inv X pins σ H' s'/\Q H') X.xe s
section
variable  {X:Cx}{pos:Pos}
noncomputable def Bc(i:Nat):TG:=λv σ H Q=>Q (σ.set i (some v)) H
def Oq(hN:X.N.Nodup)(hi:X.N[i]? = some x)(hx:Loc X.env.scope x)(hf:X.fn x=true\/X.env.scope.names.lookup x=some .local:=by first | exact .inl rfl | exact .inr rfl | assumption):PG X (.Name x pos) (Bc i):=by
 intro pins s σ H v u Q I r h;exact wpAny_assign_Name (zr0 I hN hi hx r (λs' I'=>⟨_,H,I',h⟩) hf)
noncomputable def ad2:Tt:=λvs σ H Q=>vs=[]/\Q σ H
noncomputable def abD(t:TG)(u:Tt):Tt:=λvs σ H Q=>∃v r,vs=v::r/\t v σ H fun σ' H'=>u r σ' H' Q
def Oo:Zv X [] ad2:=by
 intro pins s σ H vs us Q I r h;obtain⟨e,h⟩:=h;subst e;cases r;exact assignInOrder_nil ⟨σ,H,I,h⟩
def Hv{e:Expr}{es:List Expr}{t:TG}{u:Tt}(h1:PG X e t)(h2:Zv X es u)
  (hs:(assignEach (e::es) X.env).map (·.2)=assign e X.env::(assignEach es X.env).map (·.2):=by rfl):Zv X (e::es) (abD t u):=by
 intro pins s σ H vs us Q I r h;obtain⟨v,vr,e1,h⟩:=h;subst e1;cases r with
 | cons r rr =>
  rw[hs];refine assignInOrder_cons (cH (h1 pins s σ H _ _ _ I r h) λ_ s1 zz=>?_);obtain⟨σ1,H1,I1,q1⟩:=zz;exact h2 pins s1 σ1 H1 _ _ Q I1 rr q1
noncomputable def adZ(K:PySem.W.Frag)(n:Nat)(t:Tt):TG:=λv σ H Q=>∃a xs,v=.ref a/\lR K H a xs/\xs.length=n/\t xs σ H Q
def Vf(hc:X.calm=true)(h:Zv X es t) 
  (hn:(assignEach es X.env).length=n:=by rfl) (Ec:(assignEach es X.env).findIdx? (·.1)=none:=by rfl):PG X (.Tuple es k pos) (adZ X.K n t):=by
 intro pins s σ H v u Q I r hw;obtain⟨a,xs,e1,hq,hl,hw⟩:=hw;subst e1;cases r;obtain⟨its,rv,ht,hz⟩:=I.tuple hq;refine assign_Tuple_tuple (I.ok.hd hc) ht (by simp[hn,<-hl,rv.length]) Ec λh' hx=>?_;have I1:Inv X pins σ H { s with heap:=h' }:=I.kept (t':=s.toks) λb o e=>hx b o (gY (gq e)) e;exact h pins _ σ H xs _ Q I1 (by simpa using rv) hw
noncomputable def ad1(to ti:TE)(t:Rk):TG:=λv σ H Q=>to σ H λo H1=>ti σ H1 λi H2=>t o i v H2 λH3=>Q σ H3
def Vg{o i:Expr}{to ti:TE}{t:Rk}(ho:PE X o to)(hi:PE X i ti)(hs:Xr X t)
  (ha:∀v,assign (.Subscript o i pos) X.env v=(do
   let ov <-holding [v] (eval o X.env)
   let iv <-holding [v,ov] (eval i X.env)
   standAt pos
   holding [v,ov,iv] (setItem ov iv v)
   release [v,ov,iv] []):=by intro _;rfl):PG X (.Subscript o i pos) (ad1 to ti t):=by
 intro pins s σ H v u Q I r h;rw[ha];refine aeP (afi (cH (ho pins s σ H _ I h) λov s1 zz=>?_));obtain⟨x,H1,I1,r1,q1⟩:=zz;refine aeP (afi (cH (hi pins s1 σ H1 _ I1 q1) λiv s2 zz=>?_));obtain⟨y,H2,I2,r2,q2⟩:=zz;refine aeP (wpAny_standAt (aeP (afi (cH (hs pins s2 σ H2 x y v ov iv u _ I2 r1 r2 r q2) λ_ s3 zz=>?_))));obtain⟨H3,I3,q3⟩:=zz;exact wpAny_release ⟨σ,H3,I3,q3⟩
noncomputable def Uw(te:TE)(g:TG):TS:=λD σ H=>te σ H λx H1=>g x σ H1 D.nx
def Vb{tg e:Expr}{te:TE}{g:TG}(he:PE X e te)(hg:PG X tg g)(hs:swapsWithSole [tg] e pos.line X.env=pure false:=by rfl)(hw:swappedStores [tg] e X.env=pure none:=by rfl)
  (h1:(assignEach [tg] X.env).map (·.2)=[assign tg X.env]:=by rfl):PS X (.Assign [tg] e pos) (Uw te g):=by
 intro pins s σ H D I h;refine wpAny_Assign_stores (cH (he pins s σ H _ I h) λv s1 zz=>?_) hs hw;obtain⟨x,H1,I1,r1,q1⟩:=zz;rw[h1];exact cH (hg pins s1 σ H1 x v _ I1 r1 q1) λ_ s2 q=>q
def U8{i:Nat}{x:Str}{e:Expr}{te:TE}{pos':Pos}(hN:X.N.Nodup)(hi:X.N[i]? = some x)(hx:Loc X.env.scope x)(he:PE X e te)(hs:swapsWith e (some (.Name x pos')) pos.line X.env=pure false:=by rfl)(hf:X.fn x=true\/X.env.scope.names.lookup x=some .local:=by first | exact .inl rfl | exact .inr rfl | assumption) :
  PS X (.Assign [.Name x pos'] e pos) (Uw te (Bc i)):=by
 intro pins s σ H D I h;refine wpAny_Assign_Name (cH (he pins s σ H _ I h) λv s1 zz=>?_) hs;obtain⟨y,H1,I1,r1,q1⟩:=zz;exact zr0 I1 hN hi hx r1 (λs2 I2=>⟨_,H1,I2,q1⟩) hf
end
section
variable  {X:Cx}{pos:Pos}
noncomputable def Ur(c:TT)(tb:TS):TS:=λD σ H=>∃W:Nat->St->Hp->Prop,(∃m,W m σ H)/\∀m σ H,W m σ H ->
 c σ H λb H1=>if b=true then ∃N:St->Hp->Prop,(∀σ' H',N σ' H'->∃m',m'<m/\W m' σ' H')/\tb { D with nx:=N,ct:=N,bk:=D.nx } σ H1 else D.nx σ H1
def Hq{c:Expr}{body:List Stmt}{tc:TT}{tb:TS}(hp:PassesOwn (model X.prog X.w) X.A X.env X.xe)(hc:PT X c tc)(hb:yC X body tb):PS X (.While c body [] pos) (Ur tc tb):=by
 intro pins s σ H D I h;obtain⟨W,⟨m0,w0⟩,turn⟩:=h;refine wpAny_While (codeAny_whileLoop (λn s'=>∃σ' H',Inv X pins σ' H' s'/\W n σ' H') ?_ m0 ⟨σ,H,I,w0⟩);rintro n s1 ⟨σ1,H1,I1,w1⟩;refine afb hp (cH (hc pins s1 σ1 H1 _ I1 (turn n σ1 H1 w1)) λb s2 zz=>?_);obtain⟨H2,I2,q2⟩:=zz;cases b with
 | true =>
  obtain⟨N,hN,q2⟩:=q2;rw[aeQ rfl];refine afb hp (cH (hb pins s2 σ1 H2 _ I2 q2) λf s3 q3=>?_);cases f with
  | next =>
   obtain⟨σ3,H3,I3,n3⟩:=q3;obtain⟨m',hm,w3⟩:=hN σ3 H3 n3;exact⟨m',hm,σ3,H3,I3,w3⟩
  | cont =>
   obtain⟨σ3,H3,I3,n3⟩:=q3;obtain⟨m',hm,w3⟩:=hN σ3 H3 n3;exact⟨m',hm,σ3,H3,I3,w3⟩
  | brk=>exact q3
  | ret v=>exact q3
 | false =>
  rw[aeS nO];exact wpAny_execs_nil ⟨σ1,H2,I2,q2⟩
end
structure It where
 go:Nat->Hp->Prop
 yld:Nat->Hp->V->Hp->Prop
 stop:Nat->Hp->Prop
def p_(X:Cx)(pins:List (Addr×Obj))(H:Hp)(b:Addr):Prop :=
 H b=none/\b≠X.env.locals/\b∉X.fs/\(b∈X.ex\/X.aeG.heap.objs.size<=b)/\(∀x c,X.env.cells.lookup x=some c->c≠b)/\∀p∈X.pn++pins,p.1≠b
def Inv.uQ(I:Inv X pins σ H s)(hb:s.heap.objs.size<=b)(hn:H' b=none):p_ X pins H' b:=by
 refine⟨hn,mK (gQ I.lt hb),I.adv hb,.inr (h_ I.sz hb),λx c e z=>?_,λp hp z=>?_⟩
 ·obtain⟨v,q⟩:=I.cell x c e;exact absurd (gQ q.lt (by rw[z];exact hb)) (mJ _)
 ·exact absurd (gQ (gq (I.pin p hp).1) (by rw[z];exact hb)) (mJ _)
structure Turn(P:Program)(w:World)(K:PySem.W.Frag)(tg:Expr)(J:It)(fp:List Addr)(it:Addr)(tn:Nat->Heap->Prop):Prop where
 mem:it∈fp
 obj:∀i h,tn i h->∀b∈fp,∃o,h.get? b=some o/\∀v,o.data≠.cell v
 keep:∀i h h',tn i h->(∀b∈fp,∀o,h.get? b=some o->h'.get? b=some o)->tn i h'
 item:∀(X:Cx),X.prog=P->X.w=w->X.K=K->X.calm=true->∀(i:Nat) (pins:List (Addr×Obj)) (s:Shared) (σ:St) (H:Hp) (E:Value->Shared->Prop),Inv X pins σ H s->(∀b∈fp,p_ X pins H b)->tn i s.heap->J.go i H ->
  wpAny (model P w) X.A (pyNext (.ref it)) (λr s1=>∃u,r=some u /\
   wpAny (model P w) X.A (letOwnedTupleGo tg (.ref it) u) (λ_ s2=>∃x H',Inv X pins σ H' s2/\RelV x u/\J.yld i H x H'/\tn (i+1) s2.heap/\∀b∈fp,H' b=none) E s1) E s
 done:∀(X:Cx),X.prog=P->X.w=w->X.K=K->X.calm=true->∀(i:Nat) (pins:List (Addr×Obj)) (s:Shared) (σ:St) (H:Hp) (E:Value->Shared->Prop),Inv X pins σ H s->(∀b∈fp,p_ X pins H b)->tn i s.heap->J.stop i H ->
  wpAny (model P w) X.A (pyNext (.ref it)) (λr s1=>r=none/\Inv X pins σ H s1) E s
 self:∀(A:Around) (i:Nat) (s:Shared) (Q:Value->Shared->Prop) (E:Value->Shared->Prop),tn i s.heap->Q (.ref it) s->wpAny (model P w) A (pyIter (.ref it)) Q E s
noncomputable abbrev TI:=St->Hp->(It->Hp->Prop)->Prop
def PIE(X:Cx)(pins:List (Addr×Obj))(σ:St)(tg:Expr)(R:It->Hp->Prop)(itv:Value)(s2:Shared):Prop :=
 ∃(it:Addr) (fp:List Addr) (tn:Nat->Heap->Prop) (J:It) (H':Hp),itv=.ref it/\Inv X pins σ H' s2/\Turn X.prog X.w X.K tg J fp it tn/\tn 0 s2.heap/\(∀b∈fp,p_ X pins H' b)/\R J H'
def PI(X:Cx)(tg iter:Expr)(wi:TI):Prop :=
 ∀(pins:List (Addr×Obj)) (s:Shared) (σ:St) (H:Hp) (R:It->Hp->Prop),Inv X pins σ H s->wi σ H R ->
  wpAny (model X.prog X.w) X.A (eval iter X.env) (λv s1=>wpAny (model X.prog X.w) X.A (pyIter v) (PIE X pins σ tg R) X.xe s1) X.xe s
def su(ho:s.heap.get? it=some o)(hc:o.cls=.type n)(hd:o.data=.fields vs) 
  (hn:["enumerate","zip","dict_itemiterator","dict_reverseitemiterator","odict_iterator","itertools.zip_longest","itertools.pairwise"].contains n=false) (hQ:Q () s):wpAny M A (letOwnedTupleGo tg (.ref it) u) Q E s:=by
 unfold letOwnedTupleGo;cases tg<;>first
  | exact aeR hQ
  | (cases u<;>first
    | exact aeR hQ
    | (refine aeP (wpAny_load ho ?_)
       rw[hc,hd];show wpAny M A (if (["enumerate","zip","dict_itemiterator","dict_reverseitemiterator","odict_iterator","itertools.zip_longest","itertools.pairwise"].contains n && vs[0]? == some (rawInt _))=true then _ else _) Q E s;rw[aeS (by intro h;rw[hn,Bool.false_and]at h;cases h)];exact aeR hQ))
noncomputable def Itl(K:PySem.W.Frag)(a:Addr):It :=
 ⟨λi H=>∃xs x,lM K H a xs/\xs[i]? = some x,λi H x H'=>H'=H/\∀xs,lM K H a xs->xs[i]? = some x,λi H=>∃xs,lM K H a xs/\xs.length<=i⟩
noncomputable def Itt(K:PySem.W.Frag)(a:Addr):It :=
 ⟨λi H=>∃xs x,lR K H a xs/\xs[i]? = some x,λi H x H'=>H'=H/\∀xs,lR K H a xs->xs[i]? = some x,λi H=>∃xs,lR K H a xs/\xs.length<=i⟩
noncomputable def Itr(lo:Int)(n:Nat):It:=⟨λi _=>i<n,λi H x H'=>H'=H/\x=.int (lo+i),λi _=>n<=i⟩
def Cv{P:Program}{w:World}{K:PySem.W.Frag}{tg:Expr}(a it:Addr):Turn P w K tg (Itl K a) [it] it (λi h=>h.IsListIter it a i) where
 mem:=by simp
 obj:=λi h st b hb=>by
  have e:b=it:=by simpa using hb
  subst e;obtain⟨o,e,c,d⟩:=st;exact⟨o,e,λv z=>by rw[d]at z;cases z⟩
 keep:=λi h h' st k=>st.at λo e=>k it (by simp) o e
 item:=by
  intro X hP hw hK hc i pins s σ H E I hf st hg;subst hP hw hK;obtain⟨xs,x,hq,hx⟩:=hg;obtain⟨its,rv,p,hz⟩:=I.list hq;obtain⟨u,hu,ru⟩:=rv.get hx;obtain⟨f0,f1,f2,f3,f4,f5⟩:=hf it (by simp);refine wpAny_pyNext_list_item st p.isList (x:=u) (by simpa using hu) λh' st' sb=>?_;have I1:Inv X pins σ H { s with heap:=h' }:=I.turned (t':=s.toks) (λb o hb e=>(sb.2 b hb).trans e) f0 f1 f3 f4 f5;obtain⟨o,e,c,d⟩:=id st';exact⟨u,rfl,su (s:={ s with heap:=h' }) e c d (by decide) ⟨x,H,I1,ru,⟨rfl,λys hy=>by rw[I.uH hy hq];exact hx⟩,st',λb hb=>(hf b hb).1⟩⟩
 done:=by
  intro X hP hw hK hc i pins s σ H E I hf st hg;subst hP hw hK;obtain⟨xs,hq,hx⟩:=hg;obtain⟨its,rv,p,hz⟩:=I.list hq;obtain⟨f0,f1,f2,f3,f4,f5⟩:=hf it (by simp);have hl:=rv.length;exact wpAny_pyNext_list_end (I.ok.hd hc) st p.isList (by simp;omega) λh' eb=>⟨rfl,I.turned (t':=s.toks) (λb o hb e=>eb b o hb e) f0 f1 f3 f4 f5⟩
 self:=λ_ _ _ _ _ st h=>wpAny_pyIter_listiter st h
def zrk{P:Program}{w:World}{K:PySem.W.Frag}{tg:Expr}(a it:Addr):Turn P w K tg (Itt K a) [it] it (λi h=>h.IsTupleIter it a i) where
 mem:=by simp
 obj:=λi h st b hb=>by
  have e:b=it:=by simpa using hb
  subst e;obtain⟨o,e,c,d⟩:=st;exact⟨o,e,λv z=>by rw[d]at z;cases z⟩
 keep:=λi h h' st k=>st.at λo e=>k it (by simp) o e
 item:=by
  intro X hP hw hK hc i pins s σ H E I hf st hg;subst hP hw hK;obtain⟨xs,x,hq,hx⟩:=hg;obtain⟨its,rv,p,hz⟩:=I.tuple hq;obtain⟨u,hu,ru⟩:=rv.get hx;obtain⟨f0,f1,f2,f3,f4,f5⟩:=hf it (by simp);refine wpAny_pyNext_tuple_item st (show s.heap.IsTuple a its.toArray from p) (x:=u) (by simpa using hu) λh' st' sb=>?_;have I1:Inv X pins σ H { s with heap:=h' }:=I.turned (t':=s.toks) (λb o hb e=>(sb.2 b hb).trans e) f0 f1 f3 f4 f5;obtain⟨o,e,c,d⟩:=id st';exact⟨u,rfl,su (s:={ s with heap:=h' }) e c d (by decide) ⟨x,H,I1,ru,⟨rfl,λys hy=>by rw[I.rC hy hq];exact hx⟩,st',λb hb=>(hf b hb).1⟩⟩
 done:=by
  intro X hP hw hK hc i pins s σ H E I hf st hg;subst hP hw hK;obtain⟨xs,hq,hx⟩:=hg;obtain⟨its,rv,p,hz⟩:=I.tuple hq;obtain⟨f0,f1,f2,f3,f4,f5⟩:=hf it (by simp);have hl:=rv.length;exact wpAny_pyNext_tuple_end (I.ok.hd hc) st (show s.heap.IsTuple a its.toArray from p) (by simp;omega) λh' eb=>⟨rfl,I.turned (t':=s.toks) (λb o hb e=>eb b o hb e) f0 f1 f3 f4 f5⟩
 self:=λ_ _ _ _ _ st h=>wpAny_pyIter_tupleiter st h
def zs8{P:Program}{w:World}{K:PySem.W.Frag}{tg:Expr}(it:Addr)(lo:Int)(n:Nat):Turn P w K tg (Itr lo n) [it] it (λi h=>IsRangeIter h it (lo+(i:Nat)*1) ((n:Int) - (i:Nat)) 1) where
 mem:=by simp
 obj:=λi h st b hb=>by
  have e:b=it:=by simpa using hb
  subst e;exact⟨_,st,λv z=>by
   have z':Data.fields _=Data.cell v:=z;cases z'⟩
 keep:=λi h h' st k=>k it (by simp) _ st
 item:=by
  intro X hP hw hK hc i pins s σ H E I hf st hg;subst hP hw hK;obtain⟨f0,f1,f2,f3,f4,f5⟩:=hf it (by simp);have W:=Walks.range (prog:=X.prog) (w:=X.w) (I.ok.hd hc) it lo 1 n;refine W.item i s _ _ hg st λv h' tk hv st' kk=>?_;obtain⟨t,rfl⟩:=hv;have I1:Inv X pins σ H { s with heap:=h',toks:=tk }:=I.turned (λb o hb e=>kk b o (by simpa using hb) e) f0 f1 f3 f4 f5;refine⟨_,rfl,su (s:={ s with heap:=h',toks:=tk }) (n:="range_iterator") st' rfl rfl (by decide) ⟨.int (lo+i),H,I1,⟨t,?_⟩,⟨rfl,rfl⟩,st',λb hb=>(hf b hb).1⟩⟩;rw[Int.mul_one]
 done:=by
  intro X hP hw hK hc i pins s σ H E I hf st hg;subst hP hw hK;obtain⟨f0,f1,f2,f3,f4,f5⟩:=hf it (by simp);exact wpAny_pyNext_range_end (I.ok.hd hc) st (by have:n<=i:=hg;omega) λh' eb=>⟨rfl,I.turned (t':=s.toks) (λb o hb e=>eb b o hb e) f0 f1 f3 f4 f5⟩
 self:=λ_ _ _ _ _ st h=>wpAny_pyIter_rangeiter st h
section
variable  {X:Cx}{tg:Expr}
noncomputable def abp(K:PySem.W.Frag)(tl:TE):TI:=fun σ H R=>tl σ H λx H1=>∃a,x=.ref a/\(∃xs,lM K H1 a xs)/\R (Itl K a) H1
noncomputable def adD(K:PySem.W.Frag)(tl:TE):TI:=fun σ H R=>tl σ H λx H1=>∃a,x=.ref a/\(∃xs,lR K H1 a xs)/\R (Itt K a) H1
def Ol{l:Expr}{tl:TE}(hl:PE X l tl):PI X tg l (abp X.K tl):=by
 intro pins s σ H R I h;refine cH (hl pins s σ H _ I h) λv s1 zz=>?_;obtain⟨x,H1,I1,r1,q1⟩:=zz;obtain⟨a,e,⟨xs,hq⟩,q⟩:=q1;subst e;cases r1;obtain⟨its,rv,p,hz⟩:=I1.list hq;refine wpAny_pyIter_list p.isList ?_;refine⟨s1.heap.objs.size,[s1.heap.objs.size],_,_,H1,rfl,I1.kept (t':=s1.toks) λb o e=>g8 _ e,Cv a _,⟨_,gZ _ rfl,rfl,rfl⟩,λb hb=>?_,q⟩;have e:b=s1.heap.objs.size:=by simpa using hb
 subst e;exact I1.uQ (gb _) (I1.bN.fresh (gb _))
def Vc{l:Expr}{tl:TE}(hl:PE X l tl):PI X tg l (adD X.K tl):=by
 intro pins s σ H R I h;refine cH (hl pins s σ H _ I h) λv s1 zz=>?_;obtain⟨x,H1,I1,r1,q1⟩:=zz;obtain⟨a,e,⟨xs,hq⟩,q⟩:=q1;subst e;cases r1;obtain⟨its,rv,p,hz⟩:=I1.tuple hq;refine wpAny_pyIter_tuple (show s1.heap.IsTuple a its.toArray from p) ?_;refine⟨s1.heap.objs.size,[s1.heap.objs.size],_,_,H1,rfl,I1.kept (t':=s1.toks) λb o e=>g8 _ e,zrk a _,⟨_,gZ _ rfl,rfl,rfl⟩,λb hb=>?_,q⟩;have e:b=s1.heap.objs.size:=by simpa using hb
 subst e;exact I1.uQ (gb _) (I1.bN.fresh (gb _))
def Hf{pins:List (Addr×Obj)}{σ:St}{H:Hp}{s:Shared}{R:It->Hp->Prop}{E:Value->Shared->Prop}{lo hi:Int}{t u v:Tok}{tk:Nat}(I:Inv X pins σ H s)(h1:-(2 ^ 62)<=lo)(h2:lo<2 ^ 62)(h3:-(2 ^ 62)<=hi)(h4:hi<2 ^ 62)
  (q:R (Itr lo (hi - lo).toNat) H):wpAny (model X.prog X.w) X.A (pyIter (.ref s.heap.objs.size)) (PIE X pins σ tg R) E { s with heap:=s.heap.push { cls:=.type "range",data:=.fields #[.int lo t,.int hi u,.int 1 v] },toks:=tk }:=by
 refine wpAny_pyIter_range (IsRange.new ..) (small_one h1 h2 h3 h4) ?_;have I1:Inv X pins σ H { s with heap:=s.heap.push { cls:=.type "range",data:=.fields #[.int lo t,.int hi u,.int 1 v] },toks:=tk }:=I.kept λb o e=>g8 _ e;refine⟨(s.heap.push { cls:=.type "range",data:=.fields #[.int lo t,.int hi u,.int 1 v] }).objs.size,[(s.heap.push { cls:=.type "range",data:=.fields #[.int lo t,.int hi u,.int 1 v] }).objs.size],_,_,H,rfl,
  I1.kept (t':=tk) λb o e=>g8 _ e,zs8 _ lo (hi - lo).toNat,?_,λb hb=>?_,q⟩
 ·have e1:lo+((0:Nat):Int)*1=lo:=by simp
  have e2:(((hi - lo).toNat:Nat):Int) - ((0:Nat):Int)=Builtin.Range.rangeSize lo hi 1:=by rw[rangeSize_one];split<;>omega
  show IsRangeIter _ _ (lo+((0:Nat):Int)*1) ((((hi - lo).toNat:Nat):Int) - ((0:Nat):Int)) 1;rw[e1,e2];exact gZ _ rfl
 ·have e:b=(s.heap.push { cls:=.type "range",data:=.fields #[.int lo t,.int hi u,.int 1 v] }).objs.size:=by simpa using hb
  subst e;exact I1.uQ (gb _) (I1.bN.fresh (gb _))
noncomputable def abm(ta:TA):TI:=fun σ H R=>ta σ H λvs H1=>∃j:Int,vs=[.int j]/\-(2 ^ 62)<=j/\j<2 ^ 62/\R (Itr 0 j.toNat) H1
def Di{a:Expr}{ta:TA}{p pos:Pos}(hg:Gl X "range")(hm:X.mg "range" = none)(ha:PA X [a] ta)(hs:starEach [a] X.env=[(false,eval a X.env)]:=by rfl):PI X tg (.Call (.Name "range" p) [a] [] pos) (abm ta):=by
 intro pins s σ H R I h;refine Call_ (Mu I hg hm boot_range (aeY (cH (ha pos pins s σ H _ I h) λus s1 zz=>?_) hs rfl));obtain⟨vs,H1,I1,r1,q1⟩:=zz;obtain⟨j,e,q1,q2,q⟩:=q1;subst e;cases r1 with
 | cons r rr =>
  cases rr;obtain⟨t,rfl⟩:=r;exact call_range_1 (Hf I1 (by omega) (by omega) q1 q2 (by simpa using q))
noncomputable def acD(wi:TI)(g:TG)(tb:TS):TS:=λD σ H=>wi σ H λJ H1=>∃W:Nat->Nat->St->Hp->Prop,(∃m,W 0 m σ H1)/\∀i m σ H,W i m σ H ->
 (J.stop i H/\D.nx σ H)\/(J.go i H/\∃N:St->Hp->Prop,(∀σ' H',N σ' H'->∃m',m'<m/\W (i+1) m' σ' H')/\∀x H',J.yld i H x H'->g x σ H' fun σ2 H2=>tb { D with nx:=N,ct:=N,bk:=D.nx } σ2 H2)
noncomputable def uF(fp:List Addr)(h:Heap):List (Addr×Obj):=fp.filterMap λb=>(h.get? b).map λo=>(b,o)
def zgt(hb:b∈fp)(e:h.get? b=some o):(b,o)∈uF fp h:=pG.mpr ⟨b,hb,by rw[e];rfl⟩
def Dk(hp:p∈uF fp h):p.1∈fp/\h.get? p.1=some p.2:=by
 obtain⟨b,hb,e⟩:=pG.mp hp;cases q:h.get? b with
 | none=>rw[q]at e;cases e
 | some o =>
  rw[q]at e;have e':(b,o)=p:=aeU e;subst e';exact⟨hb,q⟩
def Inv.pinned(I:Inv X pins σ H s)(hf:∀b∈fp,p_ X pins H b)(ho:∀b∈fp,∃o,s.heap.get? b=some o/\∀v,o.data≠.cell v):Inv X (pins++uF fp s.heap) σ H s :=
 I.z7 λp hp=>(m7.mp hp).elim (λz=>I.pin p (m9 _ z)) λz=>by
  obtain⟨hb,e⟩:=Dk z;obtain⟨f0,f1,f2,_⟩:=hf p.1 hb;obtain⟨o,e',d⟩:=ho p.1 hb;rw[e]at e';cases e';exact⟨e,f0,f1,f2,d⟩
def Inv.qe(I:Inv X (pins++pl) σ H s):Inv X pins σ H s:=I.z7 λp hp=>I.pin p (m9 _ (List.mem_append_left _ hp))
def U_{iter:Expr}{body:List Stmt}{wi:TI}{g:TG}{tb:TS}{pos:Pos}(hp:PassesOwn (model X.prog X.w) X.A X.env X.xe)(hc:X.calm=true)(hi:PI X tg iter wi)(hg:PG X tg g)(hb:yC X body tb)
  (hs:∀x,foldedSetIterable iter X.env x=pure x:=by intro _;rfl):PS X (.For tg iter body [] pos) (acD wi g tb):=by
 intro pins s σ H D I h;refine wpAny_For (cH (hi pins s σ H _ I h) λv s1 h1=>cH h1 λitv s2 h2=>?_) hs;obtain⟨it,fp,tn,J,H2,e,I2,T,st2,f2,W,⟨m0,w0⟩,turn⟩:=h2;subst e

 have stat:∀{H':Hp},(∀b∈fp,H' b=none)->∀b∈fp,p_ X pins H' b:=λhn b hb=>⟨hn b hb,(f2 b hb).2⟩;refine codeAny_forLoop_any (λn s'=>∃i σ' H',Inv X pins σ' H' s'/\tn i s'.heap/\(∀b∈fp,H' b=none)/\W i n σ' H') ?_ m0 ⟨0,σ,H2,I2,st2,λb hb=>(f2 b hb).1,w0⟩;rintro n s3 ⟨i,σ3,H3,I3,fV,fr3,w3⟩;rcases turn i n σ3 H3 w3 with⟨stop,qn⟩ | ⟨go,N,hN,step⟩
 ·refine afb hp (cH (T.done X rfl rfl rfl hc i pins s3 σ3 H3 X.xe I3 (stat fr3) fV stop) λr s4 zz=>?_);obtain⟨hr,I4⟩:=zz;subst hr;exact wpAny_execs_nil ⟨σ3,H3,I4,qn⟩
 ·refine afb hp (cH (T.item X rfl rfl rfl hc i pins s3 σ3 H3 X.xe I3 (stat fr3) fV go) λr s4 zz=>?_);obtain⟨u,hr,h4⟩:=zz;subst hr;refine afb hp (cH h4 λ_ s5 zz=>?_);obtain⟨x,H5,I5,r5,y5,Mf,fr5⟩:=zz;have I5':=I5.pinned (stat fr5) (T.obj _ _ Mf);refine afb hp (cH (hg _ s5 σ3 H5 x u _ I5' r5 (step x H5 y5)) λ_ s6 zz=>?_);obtain⟨σ6,H6,I6,q6⟩:=zz;refine afb hp (cH (hb _ s6 σ6 H6 _ I6 q6) λf s7 q7=>?_);have again:∀{σ7:St} {H7:Hp},Inv X (pins++uF fp s5.heap) σ7 H7 s7->N σ7 H7->∃m,m<n/\∃i σ' H',Inv X pins σ' H' s7/\tn i s7.heap/\(∀b∈fp,H' b=none)/\W i m σ' H':=λ{σ7 H7} I7 n7=>by
   obtain⟨m',hm,w7⟩:=hN σ7 H7 n7;refine⟨m',hm,i+1,σ7,H7,I7.qe,T.keep _ _ _ Mf λb hb o e=>(I7.pin (b,o) (m9 _ (m9 _ (zgt hb e)))).1,λb hb=>?_,w7⟩;obtain⟨o,e,d⟩:=T.obj _ _ Mf b hb;exact (I7.pin (b,o) (m9 _ (m9 _ (zgt hb e)))).2.1
  cases f with
  | next=>obtain⟨σ7,H7,I7,n7⟩:=q7;exact again I7 n7
  | cont=>obtain⟨σ7,H7,I7,n7⟩:=q7;exact again I7 n7
  | brk=>obtain⟨σ7,H7,I7,q7⟩:=q7;exact⟨σ7,H7,I7.qe,q7⟩
  | ret v=>obtain⟨x7,σ7,H7,I7,r7,q7⟩:=q7;exact⟨x7,σ7,H7,I7.qe,r7,q7⟩
end
noncomputable abbrev R2:=V->V->Hp->VK->Prop
def d9(X:Cx)(f:Value->Value->Sem Value)(r:R2):Prop :=
 ∀(pins:List (Addr×Obj)) (s:Shared) (σ:St) (H:Hp) (x y:V) (v u:Value) (Q:VK),Inv X pins σ H s->RelV x v->RelV y u->r x y H Q ->
  wpAny (model X.prog X.w) X.A (f v u) (EP X pins σ Q) X.xe s
def Rj(X:Cx)(f:Value->Sem Value)(r:V->Hp->VK->Prop):Prop :=
 ∀(pins:List (Addr×Obj)) (s:Shared) (σ:St) (H:Hp) (x:V) (v:Value) (Q:VK),Inv X pins σ H s->RelV x v->r x H Q ->
  wpAny (model X.prog X.w) X.A (f v) (EP X pins σ Q) X.xe s
def cG(X:Cx)(f:Value)(r:List V->Hp->VK->Prop):Prop :=
 ∀(pins:List (Addr×Obj)) (s:Shared) (σ:St) (H:Hp) (xs:List V) (us:List Value) (Q:VK),Inv X pins σ H s->Vals xs us->r xs H Q ->
  wpAny (model X.prog X.w) X.A (call f us) (EP X pins σ Q) X.xe s
def aee(X:Cx)(r:V->Hp->(Bool->Hp->Prop)->Prop):Prop :=
 ∀(pins:List (Addr×Obj)) (s:Shared) (σ:St) (H:Hp) (x:V) (v:Value) (Q:Bool->Hp->Prop),Inv X pins σ H s->RelV x v->r x H Q ->
  wpAny (model X.prog X.w) X.A (truthy v) (TP X pins σ Q) X.xe s
noncomputable def tOp(r:R2)(ta tb:TE):TE:=fun σ H Q=>ta σ H λx H1=>tb σ H1 λy H2=>r x y H2 Q
noncomputable def tUn(r:V->Hp->VK->Prop)(ta:TE):TE:=fun σ H Q=>ta σ H λx H1=>r x H1 Q
noncomputable def rI(C:Int->Int->Prop)(g:Int->Int->V):R2:=λx y H Q=>∃i j,x=.int i/\y=.int j/\C i j/\Q (g i j) H
noncomputable def U0(g:Int->Int->V):R2:=λx y H Q=>∃i j,x=.int i/\y=.int j/\Q (g i j) H
def rU(g:Int->V):V->Hp->VK->Prop:=λx H Q=>∃i,x=.int i/\Q (g i) H
section
variable  {X:Cx}{a b c:Expr}{ta tb tc:TE}{pos:Pos}
def Xn(ha:PE X a ta)(hb:PE X b tb){pins:List (Addr×Obj)}{s:Shared}{σ:St}{H:Hp}{R:V->V->Hp->Prop}(I:Inv X pins σ H s)
  (h:ta σ H λx H1=>tb σ H1 λy H2=>R x y H2) {Q:Value->Shared->Prop} {f:Value->Value->Sem Value}
  (hf:∀v u s2 x y H2,Inv X pins σ H2 s2->RelV x v->RelV y u->R x y H2->wpAny (model X.prog X.w) X.A (f v u) Q X.xe s2) :
  wpAny (model X.prog X.w) X.A (eval a X.env) (λv aeF=>wpAny (model X.prog X.w) X.A (eval b X.env) (λu aeE=>wpAny (model X.prog X.w) X.A (f v u) Q X.xe aeE) X.xe aeF) X.xe s:=by
 refine cH (ha pins s σ H _ I h) λv s1 zz=>?_;obtain⟨x,H1,I1,r1,q1⟩:=zz;refine cH (hb pins s1 σ H1 _ I1 q1) λu s2 zz=>?_;obtain⟨y,H2,I2,r2,q2⟩:=zz;exact hf v u s2 x y H2 I2 r1 r2 q2
def aaW{op:Operator}{r:R2}(ho:d9 X (binaryOp op) r)(ha:PE X a ta)(hb:PE X b tb):PE X (.BinOp a op b pos) (tOp r ta tb):=by
 intro pins s σ H Q I h;exact wpAny_BinOp (Xn ha hb I h λv u s2 x y H2 I2 rx ry q=>ho pins s2 σ H2 x y v u Q I2 rx ry q)
def aaU{op:UnaryOp}{r:V->Hp->VK->Prop}(ho:Rj X (unaryOp op) r)(ha:PE X a ta):PE X (.UnaryOp op a pos) (tUn r ta):=by
 intro pins s σ H Q I h;refine UnaryOp_ (cH (ha pins s σ H _ I h) λv s1 zz=>?_);obtain⟨x,H1,I1,r1,q1⟩:=zz;exact ho pins s1 σ H1 x v Q I1 r1 q1
def opI{f:Value->Value->Sem Value}{C:Int->Int->Prop}{g:Int->Int->Int}
  (rule:∀(i j:Int) (t u:Tok) (s:Shared) (Q:Value->Shared->Prop) (E:Value->Shared->Prop),C i j->Q (.int (g i j) s.toks) { s with toks:=s.toks+1 }->wpAny (model X.prog X.w) X.A (f (.int i t) (.int j u)) Q E s) :
  d9 X f (rI C λi j=>.int (g i j)):=by
 intro pins s σ H x y v u Q I rx ry h;obtain⟨i,j,rfl,rfl,hc,q⟩:=h;obtain⟨t,rfl⟩:=rx;obtain⟨t',rfl⟩:=ry;exact rule i j t t' s _ _ hc ⟨.int (g i j),H,I.tok _,⟨_,rfl⟩,q⟩
def aa2{f:Value->Value->Sem Value}{g:Int->Int->Int}
  (rule:∀(i j:Int) (t u:Tok) (s:Shared) (Q:Value->Shared->Prop) (E:Value->Shared->Prop),Q (.int (g i j) s.toks) { s with toks:=s.toks+1 }->wpAny (model X.prog X.w) X.A (f (.int i t) (.int j u)) Q E s) :
  d9 X f (U0 λi j=>.int (g i j)):=by
 intro pins s σ H x y v u Q I rx ry h;obtain⟨i,j,rfl,rfl,q⟩:=h;obtain⟨t,rfl⟩:=rx;obtain⟨t',rfl⟩:=ry;exact rule i j t t' s _ _ ⟨.int (g i j),H,I.tok _,⟨_,rfl⟩,q⟩
def aa3{f:Value->Value->Sem Value}{g:Int->Int->Bool}
  (rule:∀(i j:Int) (t u:Tok) (s:Shared) (Q:Value->Shared->Prop) (E:Value->Shared->Prop),Q (.bool (g i j)) s->wpAny (model X.prog X.w) X.A (f (.int i t) (.int j u)) Q E s) :
  d9 X f (U0 λi j=>.bl (g i j)):=by
 intro pins s σ H x y v u Q I rx ry h;obtain⟨i,j,rfl,rfl,q⟩:=h;obtain⟨t,rfl⟩:=rx;obtain⟨t',rfl⟩:=ry;exact rule i j t t' s _ _ ⟨.bl (g i j),H,I,rfl,q⟩
def Xy(i j:Int):Prop:=(-(2 ^ 64)<i/\i<2 ^ 64)\/(-(2 ^ 64)<j/\j<2 ^ 64)
def Xy.ok(h:Xy i j):IntMulOk i j:=by
 rcases h with⟨h1,h2⟩ | ⟨h1,h2⟩
 ·exact .of_left (intBits_le_64 h1 h2)
 ·exact .of_right (intBits_le_64 h1 h2)
def Vz:d9 X (binaryOp .Add) (U0 λi j=>.int (i+j)):=aa2 λ_ _ _ _ _ _ _ q=>add_int q
def Vt:d9 X (binaryOp .Sub) (U0 λi j=>.int (i - j)):=aa2 λ_ _ _ _ _ _ _ q=>sub_int q
def Vv:d9 X (binaryOp .Mult) (rI Xy λi j=>.int (i*j)):=opI λ_ _ _ _ _ _ _ hc q=>mul_int q hc.ok
def Vw:d9 X (binaryOp .Mod) (rI (λ_ j=>0<j) λi j=>.int (i % j)):=opI λi j _ _ _ _ _ hc q=>by
 have h1:(0:Int)<j:=hc;exact mod_int' (by omega) (by rw[Int.fmod_eq_emod_of_nonneg i (by omega)];exact q)
def unI{f:Value->Sem Value}{g:Int->Int}
  (rule:∀(i:Int) (t:Tok) (s:Shared) (Q:Value->Shared->Prop) (E:Value->Shared->Prop),Q (.int (g i) s.toks) { s with toks:=s.toks+1 }->wpAny (model X.prog X.w) X.A (f (.int i t)) Q E s) :
  Rj X f (rU λi=>.int (g i)):=by
 intro pins s σ H x v Q I rx h;obtain⟨i,rfl,q⟩:=h;obtain⟨t,rfl⟩:=rx;exact rule i t s _ _ ⟨.int (g i),H,I.tok _,⟨_,rfl⟩,q⟩
def Uq:Rj X (unaryOp .USub) (rU λi=>.int (-i)):=unI λ_ _ _ _ _ q=>neg_int q
end
section
variable  {X:Cx}{a b c:Expr}{ta tb tc:TE}{pos:Pos}
def Kl(I:Inv X pins σ H s)(q:Q (.bl k) H)(e:k=k'):EP X pins σ Q (.bool k') s:=by
 subst e;exact⟨.bl k,H,I,rfl,q⟩
def aa0:d9 X (compareOp .Lt) (U0 λi j=>.bl (decide (i<j))):=aa3 λ_ _ _ _ _ _ _ q=>lt_int q
def aa1:d9 X (compareOp .Gt) (U0 λi j=>.bl (decide (j<i))):=aa3 λ_ _ _ _ _ _ _ q=>gt_int q
def Vx:d9 X (compareOp .Is) (λx y H Q=>y=.non/\Q (.bl (decide (x=.non))) H):=by
 intro pins s σ H x y v u Q I rx ry h;obtain⟨rfl,q⟩:=h;cases ry;refine is_none_gen (Kl I q ?_);cases x<;>first
  | (cases rx;rfl)
  | (obtain⟨t,rfl⟩:=rx;rfl)
def O4:d9 X (compareOp .IsNot) (λx y H Q=>y=.non/\Q (.bl (!decide (x=.non))) H):=by
 intro pins s σ H x y v u Q I rx ry h;obtain⟨rfl,q⟩:=h;cases ry;refine isnot_none_gen (Kl I q ?_);cases x<;>first
  | (cases rx;rfl)
  | (obtain⟨t,rfl⟩:=rx;rfl)
def d9.or{f:Value->Value->Sem Value}{r r':R2}(h:d9 X f r)(h':d9 X f r'):d9 X f (λx y H Q=>r x y H Q\/r' x y H Q):=by
 intro pins s σ H x y v u Q I rx ry q;rcases q with q | q
 ·exact h pins s σ H x y v u Q I rx ry q
 ·exact h' pins s σ H x y v u Q I rx ry q
def OD{op:CmpOp}{r:R2}(ho:d9 X (compareOp op) r)(ha:PE X a ta)(hb:PE X b tb)(hm:behindInMarks op b=false):PE X (.Compare a [op] [b] pos) (tOp r ta tb):=by
 intro pins s σ H Q I h;exact wpAny_Compare1 (Xn ha hb I h λv u s2 x y H2 I2 rx ry q=>ho pins s2 σ H2 x y v u Q I2 rx ry q) hm
noncomputable def aah(t:TE):TT:=fun σ H Q=>t σ H λx H'=>∃k,x=.bl k/\Q k H'
def N_{op:CmpOp}{r:R2}(ho:d9 X (compareOp op) r)(ha:PE X a ta)(hb:PE X b tb)(hm:behindInMarks op b=false):PT X (.Compare a [op] [b] pos) (aah (tOp r ta tb)):=by
 intro pins s σ H Q I h;refine wpAny_isTrue_Compare1 (cH (ha pins s σ H _ I h) λv s1 zz=>?_) hm;obtain⟨x,H1,I1,r1,q1⟩:=zz;refine cH (hb pins s1 σ H1 _ I1 q1) λu s2 zz=>?_;obtain⟨y,H2,I2,r2,q2⟩:=zz;refine cH (ho pins s2 σ H2 x y v u _ I2 r1 r2 q2) λc s3 zz=>?_;obtain⟨z,H3,I3,r3,k,e,q3⟩:=zz;subst e;cases r3;exact afk ⟨H3,I3,q3⟩
def Xq(K:PySem.W.Frag)(x:V)(H:Hp)(k:Bool):Prop :=
 match x with
 | .non=>k=false
 | .bl b=>k=b
 | .int i=>k=(i != 0)
 | .str y=>y.length<=sizeLine/\k=((y.length:Int) != 0)
 | .byt y=>y.size<=sizeLine/\k=((y.size:Int) != 0)
 | .ref p=>(∃xs,lM K H p xs/\k=!xs.isEmpty)\/(∃xs,lR K H p xs/\k=!xs.isEmpty)\/∃kvs,H p=some (.dK kvs)/\k=!kvs.isEmpty
 | _=>False
def zr9{κ:Type}{kvs:List (κ×V)}{vs:List (κ×Value)}(r:KV kvs vs):(!vs.isEmpty)=!kvs.isEmpty:=by
 cases r<;>rfl
def zlm{xs:List V}{its:List Value}(r:Vals xs its):(!its.toArray.isEmpty)=!xs.isEmpty:=by
 cases r<;>simp
def iB:(sizeLine:Nat)<2 ^ 63:=by rw[afr];decide
def jT:aee X (λx H Q=>∃k,Xq X.K x H k/\Q k H):=by
 intro pins s σ H x v Q I rx h;obtain⟨k,e,q⟩:=h;have hl:=iB;have hs:sizeLine=16777216:=afr;cases x with
 | non =>
  cases rx;have e':k=false:=e;subst e';exact truthy_none ⟨H,I,q⟩
 | bl b =>
  cases rx;have e':k=b:=e;subst e';exact afk ⟨H,I,q⟩
 | int i =>
  obtain⟨t,rfl⟩:=rx;have e':k=(i != 0):=e;subst e';exact PySem.P.truthy_int ⟨H,I,q⟩
 | str y =>
  obtain⟨t,rfl⟩:=rx;obtain⟨hy,e'⟩:y.length<=sizeLine/\k=((y.length:Int) != 0):=e;subst e';exact PySem.P.truthy_str (by omega) ⟨H,I.tok _,q⟩
 | byt y =>
  obtain⟨t,rfl⟩:=rx;obtain⟨hy,e'⟩:y.size<=sizeLine/\k=((y.size:Int) != 0):=e;subst e';exact PySem.W.truthy_bytes (by omega) ⟨H,I.tok _,q⟩
 | ref p =>
  cases rx;have e':(∃xs,lM X.K H p xs/\k=!xs.isEmpty)\/(∃xs,lR X.K H p xs/\k=!xs.isEmpty)\/∃kvs,H p=some (.dK kvs)/\k=!kvs.isEmpty:=e;rcases e' with⟨xs,hx,e'⟩ | ⟨xs,hx,e'⟩ | ⟨kvs,hx,e'⟩
  ·subst e';obtain⟨its,r,pl,hz⟩:=I.list hx;have hlen:=r.length;exact wpAny_truthy_list pl.isList (by simp only[gC];omega) ⟨H,I.tok _,by rw[zlm r];exact q⟩
  ·subst e';obtain⟨its,r,pl,hz⟩:=I.tuple hx;have hlen:=r.length;exact truthy_tuple pl (by simp only[gC];omega) ⟨H,I.tok _,by rw[zlm r];exact q⟩
  ·subst e';obtain⟨hz,hS,vs,r,m⟩:kvs.length<=sizeLine/\(p==sysModules)=false/\∃vs,KV kvs vs/\s.heap.DictOf (bG X.prog X.w) p vs:=I.bN p _ hx;have hlen:kvs.length=vs.length:=afa r;exact wpAny_truthy_dict hS m (by omega) ⟨H,I.tok _,by rw[zr9 r];exact q⟩
 | _=>exact (show False from e).elim
def Hn(ha:PE X a ta)(he:∀whole,isTrue a X.env whole=(do let v <-whole;standAt a.pos;holding [v] (truthy v))) :
  PT X a (fun σ H Q=>ta σ H λx H'=>∃k,Xq X.K x H' k/\Q k H'):=by
 intro pins s σ H Q I h;refine isTrue_plain (cH (ha pins s σ H _ I h) λv s1 zz=>?_) (he _);obtain⟨x,H1,I1,r1,q1⟩:=zz;exact jT pins s1 σ H1 x v Q I1 r1 q1
def zrq:d9 X (binaryOp .Add) (λx y H Q=>∃i j,x=.str i/\y=.str j/\i.length+j.length<=sizeLine/\Q (.str (i++j)) H):=by
 intro pins s σ H x y v u Q I rx ry h;obtain⟨i,j,rfl,rfl,hz,q⟩:=h;obtain⟨t,rfl⟩:=rx;obtain⟨t',rfl⟩:=ry;exact add_str (λt' tk=>⟨.str (i++j),H,I.tok _,⟨_,rfl⟩,q⟩) hz
def vals1(r:Vals [x] us):∃u,us=[u]/\RelV x u:=by
 cases r with
 | cons r1 r2=>cases r2;exact⟨_,rfl,r1⟩
def vals2(r:Vals [x,y] us):∃u w',us=[u,w']/\RelV x u/\RelV y w':=by
 cases r with
 | cons r1 r2 =>
  cases r2 with
  | cons r3 r4=>cases r4;exact⟨_,_,rfl,r1,r3⟩
def E_:cG X (.type "int") (λxs H Q=>(∃i,xs=[.int i]/\Q (.int i) H)\/∃k,xs=[.bl k]/\Q (.int (if k then 1 else 0)) H):=by
 intro pins s σ H xs us Q I r h;rcases h with⟨i,rfl,q⟩ | ⟨k,rfl,q⟩
 ·obtain⟨u,rfl,t,rfl⟩:=vals1 r;exact call_int_int ⟨.int i,H,I,⟨_,rfl⟩,q⟩
 ·obtain⟨u,rfl,r1⟩:=vals1 r;cases r1;exact call_int_bool ⟨.int (if k then 1 else 0),H,I.tok _,⟨_,rfl⟩,q⟩
end
structure zF(h:Heap)(x dx C:Addr)(mA:Str->Option Value):Prop where
 obj:h.get? x=some (PySem.W.instObj C dx)
 ns:h.Ns1 dx mA
 ne:dx≠x
def Dy{h:Heap}{dx:Addr}{mA:Str->Option Value}(n:h.Ns1 dx mA):∃od,h.get? dx=some od/\∀name,PySem.W.lookIn name od=some (mA name):=by
 obtain⟨o,es,ep,ho,hd,hk,_,hm⟩:=n;refine⟨o,ho,λname=>?_⟩;have e:=hm name;unfold nsFind findBy at e;rw[<-Array.find?_toList]at e;unfold PySem.W.lookIn;rw[hd];dsimp only
 split
 ·rename_i y q;rw[q]at e;exact congrArg some e
 ·rename_i q;rw[q]at e;have a:es.toList.any (·.refKey)=false:=by
   rw[List.any_eq_false];intro y hy;obtain⟨z,t,adT⟩:=hk y (Array.mem_toList_iff.mp hy);simp[DictEntry.refKey,adT]
  have a':¬ es.toList.any (·.refKey)=true:=by rw[a];exact nO
  rw[aeS a'];exact congrArg some e
def zF.look(I:zF h x dx C mA):∃od,PySem.W.InstAt h x (PySem.W.instObj C dx) C (some od)/\∀name,PySem.W.lookIn name od=some (mA name) :=
 let ⟨od,ho,hl⟩:=Dy I.ns
 ⟨od,⟨I.obj,rfl,rfl,ho⟩,hl⟩
section
variable  {prog:Program}{w:World}{A:Around}{E:Value->Shared->Prop}{s:Shared}{K:PySem.W.Frag}{x dx C f:Addr}{mA:Str->Option Value}{name:Str}{v:Value}
def get_map{expr:Bool}(X:K.In s.heap)(I:zF s.heap x dx C mA)(hg:PySem.W.plainGet K C name=true)(hh:PySem.W.hasDictIn K C=true) 
  (ha:PySem.W.findIn K (.ref C) name=some none) (hv:mA name=some v) (zq:PySem.W.handedIn v=true) (h:Q v { s with toks:=s.toks+1 }) :
  wpAny (model prog w) A (getAttr (.ref x) name expr) Q E s:=by
 obtain⟨od,J,hl⟩:=I.look;exact PySem.W.get_value X J (PySem.W.plainGet_of hg).1 (PySem.W.findObj_own hh ha rfl (by rw[hl,hv])) zq h
def J3(X:K.In s.heap)(I:zF s.heap x dx C mA)(hg:PySem.W.plainGet K C name=true) 
  (hf:PySem.W.findIn K (.ref C) name=some (some (.ref f))) (ht:PySem.W.isFn K (.ref f)=true) (hv:mA name=none) (h:Q (.ref f,[.ref x]) s) :
  wpAny (model prog w) A (getMethod (.ref x) name pl) Q E s:=by
 obtain⟨od,J,hl⟩:=I.look;exact PySem.W.method_fn X J (PySem.W.plainGet_of hg).1 (PySem.W.plainGet_of hg).2 hf (beq_iff_eq.mp ht) (by show (PySem.W.lookIn name od).map (·.isSome)=some false;rw[hl,hv];rfl) h
def Nq(X:K.In s.heap)(I:zF s.heap x dx C mA) 
  (hs:PySem.W.findIn K (.ref C) "__setattr__" = some (some (.builtin "object.__setattr__"))) (hp:PySem.W.plainOver K C=true) (ht:PySem.W.takerIn K C name=some none) (hh:PySem.W.hasDictIn K C=true)
  (hw:PySem.Within mA ns) (hsz:ns.length<=sizeLine)
  (h:∀h',zF h' x dx C (λy=>if y=name then some v else mA y)->Heap.SameBut dx s.heap h'->Q () { s with heap:=h',toks:=s.toks+2 }) :
  wpAny (model prog w) A (setAttr (.ref x) name v) Q E s:=by
 obtain⟨od,J,hl⟩:=I.look;refine PySem.W.set_plain X J hs (PySem.W.osa_open (s:={ s with toks:=s.toks+1 }) (r:=none) X J hp ht λb=>?_);obtain⟨cd,hc,wL⟩:=PySem.W.any_some hh;have hx:s.heap.get? x=some ⟨.ref C,some dx,.plain,#[]⟩:=I.obj;refine aeP (aeR (aeP (aeP (wpAny_loadPart hx (aeP (PySem.W.Looks.here (s:={ s with toks:=s.toks+1 }) (PySem.W.looks_clsIn X hc) ?_))))));rw[wL];refine aeR (a:=some dx) (aeP (aeR (aeP ?_)));refine wpAny_nsSet1 (s:={ s with toks:=s.toks+1 }) I.ns λh' hn2 iu=>?_;obtain⟨oD,esD,epD,hoD,hdD,hcD⟩:=hn2.count (PySem.Within.cons name v hw);refine aeP (wpAny_lookBehind hoD (by rw[hdD];exact pastItsLine_dict (h_ hcD (by rw[gr];omega))) ?_);exact aeR (h _ ⟨(iu.2 _ (ae1 I.ne)).trans I.obj,hn2,I.ne⟩ iu)
def IW(X:K.In s.heap)(hm:PySem.W.makesIn K C=true) 
  (hi:PySem.W.findIn K (.ref C) "__init__" = some (some (.ref f))) (hf:PySem.W.typeIn K (.ref f)=some (.type "function"))
  (h:codeAny (model prog w) (A.under (.builtin "type.__call__" ⟨.ref C::vs,kw⟩)) (.call (.ref f) ⟨.ref (s.heap.objs.size+1)::vs,kw⟩) (PySem.W.InitBack (s.heap.objs.size+1) R)
   { s with heap:=(s.heap.push PySem.W.emptyDict).push (PySem.W.instObj C s.heap.objs.size) }) :
  codeAny (model prog w) A (.call (.ref C) ⟨vs,kw⟩) R s:=by
 obtain⟨hh,g,d,t,os⟩:=s;exact PySem.W.make_core (PySem.W.makes_of X hm) (PySem.W.looks_findIn X hi) (λself=>PySem.W.bind_fn X self hf) (.inl rfl) h
end
noncomputable def fX(f:Str)(v:V):List (Str×V)->List (Str×V)
 | []=>[(f,v)]
 | (g,x)::r=>if g=f then (g,v)::r else (g,x)::fX f v r
theorem zjy(f g:Str)(v:V):∀fs:List (Str×V),(fX f v fs).lookup g=if g=f then some v else fs.lookup g
 | []=>by
  show List.lookup g [(f,v)]=_;by_cases h:g=f
  ·have hb:(g==f)=true:=beq_iff_eq.mpr h;simp only[List.lookup,hb,aeQ h]
  ·have hb:(g==f)=false:=beq_eq_false_iff_ne.mpr h;simp only[List.lookup,hb,aeS h]
 | (k,x)::r=>by
  have ih:=zjy f g v r;rw[show fX f v ((k,x)::r)=(if k=f then (k,v)::r else (k,x)::fX f v r) from rfl];by_cases hk:k=f
  ·rw[aeQ hk];by_cases h:g=k
   ·have hb:(g==k)=true:=beq_iff_eq.mpr h;simp only[List.lookup,hb,aeQ (h.trans hk)]
   ·have hb:(g==k)=false:=beq_eq_false_iff_ne.mpr h;simp only[List.lookup,hb,aeS (λe:g=f=>h (e.trans hk.symm))]
  ·rw[aeS hk];by_cases h:g=k
   ·have hb:(g==k)=true:=beq_iff_eq.mpr h;simp only[List.lookup,hb,aeS (λe:g=f=>hk (h.symm.trans e))]
   ·have hb:(g==k)=false:=beq_eq_false_iff_ne.mpr h;simp only[List.lookup,hb];exact ih
theorem zkg(f:Str)(v:V):∀fs:List (Str×V),f∈(fX f v fs).map (·.1)/\∀g,g∈fs.map (·.1)->g∈(fX f v fs).map (·.1)
 | []=>⟨by simp[fX],λg h=>by simp at h⟩
 | (k,x)::r=>by
  obtain⟨i1,i2⟩:=zkg f v r;rw[show fX f v ((k,x)::r)=(if k=f then (k,v)::r else (k,x)::fX f v r) from rfl];by_cases hk:k=f
  ·rw[aeQ hk];subst hk;exact⟨by simp,λg h=>by simpa using h⟩
  ·rw[aeS hk];refine⟨?_,λg h=>?_⟩
   ·rw[gw];exact kI _ i1
   ·rw[gw]at h ⊢;rcases gf.mp h with e | e
    ·exact gf.mpr (.inl e)
    ·exact kI _ (i2 g e)
theorem zjp(f:Str)(v:V):∀fs:List (Str×V),(fX f v fs).length<=fs.length+1
 | []=>by simp[fX]
 | (k,x)::r=>by
  have ih:=zjp f v r;rw[show fX f v ((k,x)::r)=(if k=f then (k,v)::r else (k,x)::fX f v r) from rfl];by_cases hk:k=f
  ·rw[aeQ hk,gr,gr];omega
  ·rw[aeS hk,gr,gr];omega
def jW.some_of(r:jW (some v) o):∃u,o=some u/\RelV v u:=by
 cases o with
 | none=>exact (show False from r).elim
 | some u=>exact⟨u,rfl,r⟩
def jW.none_of(r:jW none o):o=none:=by
 cases o with
 | none=>rfl
 | some u=>exact (show False from r).elim
def Eh(r:RelV v u):PySem.W.handedIn u=true:=by
 cases v with
 | non=>cases (show u=Value.none from r);rfl
 | bl b=>cases (show u=Value.bool b from r);rfl
 | int i=>obtain⟨t,e⟩:=(show ∃t,u=Value.int i t from r);cases e;rfl
 | str x=>obtain⟨t,e⟩:=(show ∃t,u=Value.str x t from r);cases e;rfl
 | byt b=>obtain⟨t,e⟩:=(show ∃t,u=Value.bytes b t from r);cases e;rfl
 | flt b=>obtain⟨t,e⟩:=(show ∃t,u=Value.float b t from r);cases e;rfl
 | ref a=>cases (show u=Value.ref a from r);rfl
 | ty n=>cases (show u=Value.type n from r);rfl
section
variable  {P:Program}{w:World}{H H':Hp}{h h':Heap}{a C dx:Addr}{fs fs':List (Str×V)}
def zoo(bN:jX P w H h)(e:H a=some (.ins C dx fs)):∃mA,zF h a dx C mA/\(∀f,jW (fs.lookup f) (mA f))/\PySem.Within mA (fs.map (·.1))/\fs.length<=1000/\H dx=some (.own a):=by
 obtain⟨d,z,ne,ob,mA,n,r,q⟩:=(show bY P w H h a (.ins C dx fs) from bN a _ e);exact⟨mA,⟨ob,n,ne⟩,r,q,z,d⟩
end
structure BW(K:PySem.W.Frag)(C:Addr):Prop where
 pg:PySem.W.plainGet K C Str.empty=true
 hd:PySem.W.hasDictIn K C=true
 po:PySem.W.plainOver K C=true
 sa:PySem.W.findIn K (.ref C) "__setattr__" = some (some (.builtin "object.__setattr__"))
def BW.get{K:PySem.W.Frag}{C:Addr}(c:BW K C)(f:Str):PySem.W.plainGet K C f=true:=c.pg
def iJ(K:PySem.W.Frag)(C:Addr)(f:Str):Prop:=PySem.W.findIn K (.ref C) f=some none
def iJ.aaf{K:PySem.W.Frag}{C:Addr}{f:Str}(n:iJ K C f):PySem.W.takerIn K C f=some none:=by
 unfold PySem.W.takerIn;rw[show PySem.W.findIn K (.ref C) f=some none from n]
 rfl
structure Con(K:PySem.W.Frag)(C:Addr)(f:Str)(v:V)(u:Value):Prop where
 at_:PySem.W.findIn K (.ref C) f=some (some u)
 rel:RelV v u
 get:PySem.W.specialIn K u "__get__" = some none
 cp:PySem.W.copiedNames.contains f=false
structure Meth(K:PySem.W.Frag)(C:Addr)(m:Str)(f:Addr):Prop where
 at_:PySem.W.findIn K (.ref C) m=some (some (.ref f))
 fn:PySem.W.isFn K (.ref f)=true
 kp:PySem.W.keepIn K (.ref f)=true
section
variable  {X:Cx}{pins:List (Addr×Obj)}{σ:St}{H:Hp}{s:Shared}{a C dx:Addr}{fs:List (Str×V)}{f:Str}{v:V}{A:Around}{E:Value->Shared->Prop}
def zry(I:Inv X pins σ H s)(e:H a=some (.ins C dx fs))(c:BW X.K C)(n:iJ X.K C f)(l:fs.lookup f=some v) 
  (h:∀u s',Inv X pins σ H s'->RelV v u->Q u s'):wpAny (model X.prog X.w) A (getAttr (.ref a) f b) Q E s:=by
 obtain⟨mA,O,r,_,_,_⟩:=zoo I.bN e;obtain⟨u,hu,ru⟩:=jW.some_of (v:=v) (o:=mA f) (by rw[<-l];exact r f);exact get_map I.qb O (c.get f) c.hd n hu (Eh ru) (h u _ (I.tok _) ru)
def ztc(I:Inv X pins σ H s)(e:H a=some (.ins C dx fs))(c:BW X.K C)(k:Meth X.K C m g)(l:fs.lookup m=none) 
  (h:Q (.ref g,[.ref a]) s):wpAny (model X.prog X.w) A (getMethod (.ref a) m pl) Q E s:=by
 obtain⟨mA,O,r,_,_,_⟩:=zoo I.bN e;have hn:mA m=none:=jW.none_of (by rw[<-l];exact r m);exact J3 I.qb O (c.get m) k.at_ k.fn hn h
def zri(I:Inv X pins σ H s)(e:H a=some (.ins C dx fs))(c:BW X.K C)(n:iJ X.K C f)(hl:fs.length<1000)(ry:RelV y u) 
  (h:∀s',Inv X pins σ (upd H a (.ins C dx (fX f y fs))) s'->Q () s'):wpAny (model X.prog X.w) A (setAttr (.ref a) f u) Q E s:=by
 obtain⟨mA,O,r,wi,_,ho⟩:=zoo I.bN e;have hz:(fs.map (·.1)).length<=sizeLine:=by rw[gm,afr];omega
 refine Nq I.qb O c.sa c.po n.aaf c.hd wi hz λh' O' sb=>h _ ?_;have hd:∃o,h'.get? dx=some o:=let ⟨o,_,_,e',_⟩:=O'.ns;⟨o,e'⟩;refine I.write (x:=a) (e:=dx) (by rw[e];exact True.intro) (.inr ho) (λb q hb z=>(sb.2 b hb).trans z) hd ?_;refine⟨by rw[iy O.ne];exact ho,?_,O.ne,O'.obj,_,O'.ns,λg=>?_,λg hg=>?_⟩
 ·have:=zjp f y fs;omega
 ·show jW ((fX f y fs).lookup g) (if g=f then some u else mA g);rw[zjy];by_cases q:g=f
  ·rw[aeQ q,aeQ q];exact ry
  ·rw[aeS q,aeS q];exact r g
 ·by_cases q:g=f
  ·rw[q];exact (zkg f y fs).1
  ·refine (zkg f y fs).2 g (wi g λz=>hg ?_);show (if g=f then some u else mA g)=none;rw[aeS q];exact z
def Inv.made(I:Inv X pins σ H s):Inv X pins σ (upd (upd H s.heap.objs.size (.own (s.heap.objs.size+1))) (s.heap.objs.size+1) (.ins C s.heap.objs.size []))
  { s with heap:=(s.heap.push PySem.W.emptyDict).push (PySem.W.instObj C s.heap.objs.size) }:=by
 have e1:(s.heap.push PySem.W.emptyDict).get? s.heap.objs.size=some PySem.W.emptyDict:=gZ s.heap rfl;have e2:((s.heap.push PySem.W.emptyDict).push (PySem.W.instObj C s.heap.objs.size)).get? (s.heap.objs.size+1)=some (PySem.W.instObj C s.heap.objs.size):=by
  have:=gZ (s.heap.push PySem.W.emptyDict) (o:=PySem.W.instObj C s.heap.objs.size) rfl;rwa[Heap.size_push]at this
 have e3:(s.heap.push PySem.W.emptyDict).Ns s.heap.objs.size (λ_=>none):=⟨PySem.W.emptyDict,#[],_,e1,rfl,(λe he=>absurd he (by simp)),λ_=>rfl⟩;have I1:=I.laid (a:=s.heap.objs.size) (o:=.own (s.heap.objs.size+1)) (h':=s.heap.push PySem.W.emptyDict) (t':=s.toks) (λb u q=>g8 _ q) (gb _) ⟨_,e1⟩;refine I1.laid (a:=s.heap.objs.size+1) (o:=.ins C s.heap.objs.size []) (t':=s.toks) (λb u q=>g8 _ q) (Nat.le_of_eq (Heap.size_push _ _)) ?_;have ne:s.heap.objs.size≠s.heap.objs.size+1:=gY (nQ _);refine⟨by rw[iy ne,rm],kO _,ne,e2,λ_=>none,(Heap.Ns1.of_empty e3).at λo q=>g8 _ q,λ_=>True.intro,λy hy=>absurd rfl hy⟩
def Q9(hb:attributeBase e f env (eval e env)=eval e env) 
  (h:wpAny (model prog w) A (eval e env) (λo aeF=>wpAny (model prog w) A (getAttr o f true) Q E aeF) E s):wpAny (model prog w) A (eval (.Attribute e f pos) env) Q E s :=
 Attribute_any_ h (by rw[arm_eval_Attribute,hb])
end
noncomputable def acE(K:PySem.W.Frag)(ta:TE)(f:Str):TE:=fun σ H Q=>ta σ H λx H1=>∃a C dx fs v,x=.ref a/\H1 a=some (.ins C dx fs)/\BW K C/\iJ K C f/\fs.lookup f=some v/\Q v H1
noncomputable def acO(K:PySem.W.Frag)(ta tv:TE)(f:Str):TS:=λD σ H=>tv σ H λy H1=>ta σ H1 λx H2=>∃a C dx fs,x=.ref a/\H2 a=some (.ins C dx fs)/\BW K C/\iJ K C f/\fs.length<1000 /\
 D.nx σ (upd H2 a (.ins C dx (fX f y fs)))
section
variable  {X:Cx}{o e value:Expr}{f:Str}{pos pos' wu:Pos}{ta tv:TE}
def Vq(he:PE X e ta)(hb:attributeBase e f X.env (eval e X.env)=eval e X.env):PE X (.Attribute e f pos) (acE X.K ta f):=by
 intro pins s σ H Q I h;refine Q9 hb (cH (he pins s σ H _ I h) λu s1 zz=>?_);obtain⟨x,H1,I1,rx,a,C,dx,fs,v,ex,ea,c,n,l,q⟩:=zz;subst ex;obtain rfl:u=Value.ref a:=rx;exact zry I1 ea c n l λu' s2 I2 ru=>⟨v,H1,I2,ru,q⟩
def Va(ha:PE X o ta)(hv:PE X value tv)(hs:swapsWith value (some (.Attribute o f pos')) pos.line X.env=pure false):PS X (.Assign [.Attribute o f pos'] value pos) (acO X.K ta tv f):=by
 intro pins s σ H D I h;refine plainObj_wpAny_Assign_Attribute (cH (hv pins s σ H _ I h) λu s1 zz=>?_) hs;obtain⟨y,H1,I1,ry,q⟩:=zz;refine cH (ha pins s1 σ H1 _ I1 q) λov s2 zz=>?_;obtain⟨x,H2,I2,rx,a,C,dx,fs,ex,ea,c,n,l,q2⟩:=zz;subst ex;obtain rfl:ov=Value.ref a:=rx;exact zri I2 ea c n l ry λs3 I3=>⟨σ,_,I3,q2⟩
end
section
variable  {X:Cx}{pins:List (Addr×Obj)}{σ:St}{H:Hp}{s:Shared}{A:Around}{E:Value->Shared->Prop}{Q:Value->Shared->Prop}{c:Value}{b:Bool}
inductive t7 (K:PySem.W.Frag) (H:Hp):V->Value->Prop where
 | non:t7 K H .non (.type "NoneType")
 | bl (x:Bool):t7 K H (.bl x) (.type "bool")
 | int (i:Int):t7 K H (.int i) (.type "int")
 | str (x:Str):t7 K H (.str x) (.type "str")
 | flt (x:UInt64):t7 K H (.flt x) (.type "float")
 | lst {a:Addr} {xs:List V} (e:H a=some (.lst xs)):t7 K H (.ref a) (.type "list")
 | frz {a:Addr} {o:Obj} {xs:List V} (e:H a=some (.frz o (.lst xs))):t7 K H (.ref a) (.type "list")
 | tup {a:Addr} {xs:List V} (e:H a=some (.tup xs)):t7 K H (.ref a) (.type "tuple")
 | dK {a:Addr} {kvs:List (Key×V)} (e:H a=some (.dK kvs)):t7 K H (.ref a) (.type "dict")
 | dT {a:Addr} {kvs:List (List Key×V)} (e:H a=some (.dT kvs)):t7 K H (.ref a) (.type "dict")
 | ins {a C dx:Addr} {fs:List (Str×V)} (e:H a=some (.ins C dx fs)) (cl:BW K C) (ha:PySem.W.findIn K (.ref C) "__class__" = some (some (.builtin "object.__class__")))
   (hn:PySem.W.specialIn K (.builtin "object.__class__") "__get__" = some (some (.builtin "getset_descriptor.__get__"))) (htk:PySem.W.takesIn K (.builtin "object.__class__")=some true)
   (hm:PySem.W.mroIn K C (.type "object")=some true):t7 K H (.ref a) (.ref C)
def Yj{x:V}{u t:Value}(I:Inv X pins σ H s)(rx:RelV x u)(ty:t7 X.K H x t)(e:PySem.W.kitOne X.K t c=some b)(h:∀tk,Q (.bool b) { s with toks:=tk }) :
  wpAny (model X.prog X.w) A (call (.builtin "isinstance") [u,c]) Q E s:=by
 cases ty with
 | non=>cases (show u=Value.none from rx);exact aeX PySem.W.kitx_none I.qb True.intro e (λz=>nomatch z) h
 | bl y=>cases (show u=Value.bool y from rx);exact aeX PySem.W.kitx_bool I.qb True.intro e (λz=>nomatch z) h
 | int i=>obtain⟨t,q⟩:=(show ∃t,u=Value.int i t from rx);cases q;exact aeX PySem.W.kitx_int I.qb True.intro e (λz=>nomatch z) h
 | str y=>obtain⟨t,q⟩:=(show ∃t,u=Value.str y t from rx);cases q;exact aeX PySem.W.kitx_str I.qb True.intro e (λz=>nomatch z) h
 | flt y=>obtain⟨t,q⟩:=(show ∃t,u=Value.float y t from rx);cases q;exact aeX PySem.W.kitx_float I.qb True.intro e (λz=>nomatch z) h
 | @lst a xs ea =>
  cases (show u=Value.ref a from rx);obtain⟨_,_,n,_,h1⟩:=(show bY X.prog X.w H s.heap a (.lst xs) from I.bN a _ ea);exact aeX PySem.W.kitx_list I.qb ⟨_,h1,rfl⟩ e (λz=>nomatch z) h
 | @frz a ob xs ea =>
  cases (show u=Value.ref a from rx);obtain⟨_,_,_,n,_,h1⟩:=(show bY X.prog X.w H s.heap a (.frz ob (.lst xs)) from I.bN a _ ea);exact aeX PySem.W.kitx_list I.qb ⟨_,h1,rfl⟩ e (λz=>nomatch z) h
 | @tup a xs ea =>
  cases (show u=Value.ref a from rx);obtain⟨_,_,_,p⟩:=(show bY X.prog X.w H s.heap a (.tup xs) from I.bN a _ ea);obtain⟨o,h1,h2,_⟩:=p;exact aeX PySem.W.kitx_tuple I.qb ⟨o,h1,h2⟩ e (λz=>nomatch z) h
 | @dK a kvs ea =>
  cases (show u=Value.ref a from rx);obtain⟨_,_,vs,_,p⟩:=(show bY X.prog X.w H s.heap a (.dK kvs) from I.bN a _ ea);obtain⟨o,es,ep,h1,h2,_⟩:=p;exact aeX PySem.W.kitx_dict I.qb ⟨o,h1,h2.1⟩ e (λz=>nomatch z) h
 | @dT a kvs ea =>
  cases (show u=Value.ref a from rx);obtain⟨_,_,xs,_,o,es,ep,h1,h2,_⟩:=(show bY X.prog X.w H s.heap a (.dT kvs) from I.bN a _ ea);exact aeX PySem.W.kitx_dict I.qb ⟨o,h1,h2.1⟩ e (λz=>nomatch z) h
 | @ins a C dx fs ea cl ha hn htk hm =>
  cases (show u=Value.ref a from rx);obtain⟨mA,O,_⟩:=zoo I.bN ea;obtain⟨od,J,_⟩:=O.look;exact aeX (PySem.W.kitx_own (cl.get _) cl.hd ha hn htk hm) I.qb J e (λz=>nomatch z) h
end
structure cR(k:Nat)(A:Around):Prop where
 hd:A.handled=none
 dp:A.depth+3*k+5<recursionLimit
 un:A.units+16*k+200<cLine
def cR.mono(r:cR k A)(h:j<=k):cR j A:=⟨r.hd,by have:=r.dp;omega,by have:=r.un;omega⟩
def cR.deeper(r:cR (k+1) A)(env:Env):cR k (A.deeper env) :=
 ⟨r.hd,by have:=r.dp;show A.depth+1+3*k+5<_;omega,by have:=r.un;show A.units+3+16*k+200<_;omega⟩
def zsg{A:Around}{C:Addr}{us:List Value}{kw:List (Str×Value)}:(A.under (.builtin "type.__call__" ⟨.ref C::us,kw⟩)).depth=A.depth+1:=by
 first | rfl | simp[Around.under,Code.weight,Code.isCreation,Code.isGuard,Code.isCaller,Code.frames,Code.isFrame,guardIds]
def zqy{A:Around}{C:Addr}{us:List Value}{kw:List (Str×Value)}:(A.under (.builtin "type.__call__" ⟨.ref C::us,kw⟩)).units=A.units+1:=by
 first | rfl | simp[Around.under,Code.cUnits,Code.frames,Code.isFrame]
def cR.make(r:cR (k+1) A)(C:Addr)(us:List Value)(kw:List (Str×Value)):cR k (A.under (.builtin "type.__call__" ⟨.ref C::us,kw⟩)) :=
 ⟨r.hd,by have:=r.dp;rw[zsg];omega,by have:=r.un;rw[zqy];omega⟩
def cR.depth(r:cR k A):A.depth<recursionLimit:=by have:=r.dp;omega
def cR.units(r:cR k A):A.units+64<cLine:=by have:=r.un;omega
noncomputable def aak:TA:=λ_ H Q=>Q [] H
noncomputable def aas(ta:TE)(tr:TA):TA:=fun σ H Q=>ta σ H λx H1=>tr σ H1 λxs H2=>Q (x::xs) H2
section
variable  {X:Cx}{e:Expr}{es:List Expr}{te:TE}{t:TA}{pos:Pos}
def yQ:PA X [] aak:=λ_ _ _ _ H Q I h=>Calls.spliced_nil ⟨[],H,I,.nil,h⟩
def ZJ(ha:PE X e te)(hr:PA X es t)(hs:starEach (e::es) X.env=(false,eval e X.env)::starEach es X.env:=by rfl):PA X (e::es) (aas te t):=by
 intro pos pins s σ H Q I h;rw[hs];show wpAny _ _ (spliced ((false,eval e X.env)::backTo pos (starEach es X.env))) _ _ s;refine Calls.spliced_cons (cH (ha pins s σ H _ I h) λu s1 zz=>?_);obtain⟨x,H1,I1,r1,q1⟩:=zz;refine cH (hr pos pins s1 σ H1 _ I1 q1) λus s2 zz=>?_;obtain⟨xs,H2,I2,r2,q2⟩:=zz;exact⟨x::xs,H2,I2,.cons r1 r2,q2⟩
noncomputable def acv(t:TA):TE:=fun σ H Q=>t σ H λxs H1=>xs.length<=sizeLine/\∀p,H1 p=none->Q (.ref p) (upd H1 p (.tup xs))
noncomputable def acA(t:TA):TE:=fun σ H Q=>t σ H λxs H1=>xs.length<=sizeLine/\∀p,H1 p=none->Q (.ref p) (upd H1 p (.lst xs))
def Vh{x1}(h:PA X es t):PE X (.Tuple es x1 pos) (acv t):=by
 intro pins s σ H Q I hq;refine wpAny_Tuple_spliced (cH (h pos pins s σ H _ I hq) λus s1 zz=>?_);obtain⟨xs,H1,I1,r,z,q⟩:=zz;refine⟨by rw[<-r.length];exact z,?_⟩;have hf:H1 s1.heap.objs.size=none:=I1.bN.fresh (gb _);refine⟨.ref s1.heap.objs.size,upd H1 s1.heap.objs.size (.tup xs),I1.laid (t':=s1.toks) (λb u e=>g8 _ e) (gb _) ?_,rfl,q _ hf⟩;exact⟨z,us,r,⟨_,gZ _ rfl,rfl,_,rfl⟩⟩
def Vn(h:PA X es t):PE X (.List es pos) (acA t):=by
 intro pins s σ H Q I hq;refine wpAny_List_spliced (cH (h pos pins s σ H _ I hq) λus s1 zz=>?_);obtain⟨xs,H1,I1,r,z,q⟩:=zz;refine⟨by rw[<-r.length];exact z,?_⟩;have hf:H1 s1.heap.objs.size=none:=I1.bN.fresh (gb _);refine⟨.ref s1.heap.objs.size,upd H1 s1.heap.objs.size (.lst xs),I1.laid (t':=s1.toks) (λb u e=>g8 _ e) (gb _) ?_,rfl,q _ hf⟩;exact⟨z,us,0,r,gZ _ rfl⟩
end
noncomputable abbrev Sp:=List V->Hp->VK->XK->Prop
noncomputable abbrev Lj:=List Env->Hp->Shared->XK->Value->Shared->Prop
structure xg(P:Program)(w:World)(K:PySem.W.Frag)(mg:Str->Option Value)(base:Heap)(A:Around)(outer:List Env)(s:Shared)(H:Hp):Prop where
 frames:A.frames=some outer
 mod:Mod K mg base
 bs:∀b o,base.get? b=some o->s.heap.get? b=some o/\H b=none
 Fi:base.objs.size<=s.heap.objs.size
 oA:s.heap.FunFrames base outer
 Ka:∀b∈Be outer,H b=none
 bN:jX P w H s.heap
 bare:AllBare s.gens
def CE(outer:List Env)(P:Program)(w:World)(H:Hp)(s:Shared)(Q:VK)(u:Value)(s':Shared):Prop :=
 ∃v H',s'.os=s.os/\AllBare s'.gens/\Un (Be outer) [] H H' s.heap s'.heap/\jX P w H' s'.heap/\RelV v u/\Q v H'
def CR(CX:Lj)(outer:List Env)(P:Program)(w:World)(H:Hp)(s:Shared)(Q:VK)(E:XK)(r:Result)(s':Shared):Prop :=
 match r with
 | .ok (.ret u)=>CE outer P w H s Q u s'
 | .ok _=>False
 | .error e=>CX outer H s E e s'
structure cQ(P:Program)(w:World)(K:PySem.W.Frag)(mg:Str->Option Value)(base:Heap)(CX:Lj)(k:Nat)(f:Addr)(fd:FuncData)(ps:List Str)(sp:Sp):Prop where
 len:∀vs H Q E,sp vs H Q E->vs.length=ps.length
 run:∀(A:Around) (outer:List Env) (s:Shared) (H:Hp) (args:Args) (us:List Value) (vs:List V) (Q:VK) (E:XK),cR k A->xg P w K mg base A outer s H->BindsTo s fd args (ps.zip us)->Vals vs us->sp vs H Q E ->
  codeAny (model P w) A (.call (.ref f) args) (CR CX outer P w H s Q E) s
def cQ.mono{P:Program}{w:World}{K:PySem.W.Frag}{mg:Str->Option Value}{base:Heap}{CX:Lj}{j k:Nat}{f:Addr}{fd:FuncData}{ps:List Str}{sp:Sp}(F:cQ P w K mg base CX j f fd ps sp)(h:j<=k) :
  cQ P w K mg base CX k f fd ps sp:=⟨F.len,λA outer s H args us vs Q E hr=>F.run A outer s H args us vs Q E (hr.mono h)⟩
def cQ.imp{P:Program}{w:World}{K:PySem.W.Frag}{mg:Str->Option Value}{base:Heap}{CX:Lj}{k:Nat}{f:Addr}{fd:FuncData}{ps:List Str}{sp sp':Sp}(F:cQ P w K mg base CX k f fd ps sp)
  (h:∀vs H Q E,sp' vs H Q E->sp vs H Q E):cQ P w K mg base CX k f fd ps sp' :=
 ⟨λvs H Q E q=>F.len vs H Q E (h _ _ _ _ q),λA outer s H args us vs Q E hr he hb hv hs=>F.run A outer s H args us vs Q E hr he hb hv (h _ _ _ _ hs)⟩
def xg.make{P:Program}{w:World}{K:PySem.W.Frag}{mg:Str->Option Value}{base:Heap}{A:Around}{outer:List Env}{s:Shared}{H:Hp}(e:xg P w K mg base A outer s H)(C:Addr)(us:List Value)(kw:List (Str×Value)) :
  xg P w K mg base (A.under (.builtin "type.__call__" ⟨.ref C::us,kw⟩)) outer s H:=⟨by first | exact e.frames | (simpa[Around.under,Code.envs,Code.isFrame,pushEnvs] using e.frames),e.mod,e.bs,e.Fi,e.oA,e.Ka,e.bN,e.bare⟩
section
variable  {X:Cx}{pins:List (Addr×Obj)}{σ:St}{H:Hp}{s s':Shared}
def Inv.QG(I:Inv X pins σ H s):xg X.prog X.w X.K X.mg X.base X.A X.stack s H :=
 ⟨I.ok.frames,I.ok.mod,I.bs,h_ I.ok.Fi I.sz,I.stack,I.zW,I.bN,I.bare⟩
def Inv.after(I:Inv X pins σ H s)(h:CE X.stack X.prog X.w H s Q u s'):EP X pins σ Q u s':=by
 obtain⟨v,H',os,bare,un,bN,r,q⟩:=h;obtain⟨hh,g,d,t,YF⟩:=s';obtain rfl:YF=s.os:=os;exact⟨v,H',I.call (h':=hh) (g':=g) (d':=d) (t':=t) (ch:=[]) un bN bare (λb z=>absurd z (by simp)),r,q⟩
end
noncomputable def RN(sp:Sp)(lF:List V)(E:XK)(t:TA):TE:=fun σ H Q=>t σ H λvs H1=>sp (vs++lF) H1 Q E
noncomputable def aam(C:Addr)(m:Str)(sp:Sp)(lF:List V)(E:XK)(ta:TE)(t:TA):TE:=fun σ H Q=>ta σ H λx H1=>∃a dx fs,x=.ref a/\H1 a=some (.ins C dx fs)/\fs.lookup m=none /\
 t σ H1 λvs H2=>sp (x::(vs++lF)) H2 Q E
noncomputable def aan(C:Addr)(sp:Sp)(lF:List V)(E:XK)(t:TA):TE:=fun σ H Q=>t σ H λvs H1=>∀x dx,H1 x=none->H1 dx=none->dx≠x ->
 sp (.ref x::(vs++lF)) (upd (upd H1 dx (.own x)) x (.ins C dx [])) (λv H2=>v=.non/\Q (.ref x) H2) E
def Binds(K:PySem.W.Frag)(fd:FuncData)(ps:List Str)(ds:List Value):Prop :=
 ∀(s:Shared) (us:List Value),K.In s.heap->(us++ds).length=ps.length->BindsTo s fd ⟨us,[]⟩ (ps.zip (us++ds))
def Binds.all{K:PySem.W.Frag}{fd:FuncData}{ps:List Str}(h:∀us:List Value,us.length=ps.length->bindArgs fd ⟨us,[]⟩=pure (ps.zip us)):Binds K fd ps []:=λs us _ hl=>by
 rw[gR]at hl ⊢;exact .of_eq (h us hl)
def Passes(CX:Lj)(X:Cx)(E:XK):Prop:=∀(pins:List (Addr×Obj)) (σ:St) (H:Hp) (s:Shared) (e:Value) (s':Shared),Inv X pins σ H s->CX X.stack H s E e s'->X.xe e s'
section
variable  {X:Cx}{CX:Lj}{k:Nat}{f C:Addr}{fd:FuncData}{ps:List Str}{sp:Sp}{lF:List V}{ds:List Value}{E:XK}{x m:Str}{p pos apos:Pos}{e o:Expr}{es:List Expr}{ta:TE}{t:TA}
def yM(F:cQ X.prog X.w X.K X.mg X.base CX k f fd ps sp)(hr:cR k X.A)(hb:Binds X.K fd ps ds)(hd:Vals lF ds)(hx:Passes CX X E) 
  (I:Inv X pins σ H s) (r:Vals vs us) (h:sp (vs++lF) H Q E):wpAny (model X.prog X.w) X.A (call (.ref f) us) (EP X pins σ Q) X.xe s:=by
 have r2:Vals (vs++lF) (us++ds):=r.append hd;have hl:(us++ds).length=ps.length:=by rw[<-r2.length];exact F.len _ _ _ _ h
 refine wpAny_call (afv (F.run X.A X.stack s H ⟨us,[]⟩ (us++ds) (vs++lF) Q E hr I.QG (hb s us I.qb hl) r2 h) λr s' hq=>?_);cases r with
 | error e=>exact hx pins σ H s e s' I hq
 | ok fl =>
  cases fl with
  | ret u=>exact I.after hq
  | next=>exact False.elim hq
  | brk=>exact False.elim hq
  | cont=>exact False.elim hq
def OJ(F:cQ X.prog X.w X.K X.mg X.base CX k f fd ps sp)(hr:cR k X.A)(hg:Gl X x)(hm:X.mg x=some (.ref f))(hk:PySem.W.keepIn X.K (.ref f)=true)(hb:Binds X.K fd ps ds)(hd:Vals lF ds)(hx:Passes CX X E)
  (ha:PA X (e::es) t) (qK:(x==("__debug__":Str))=false:=by decide) (he:starEach (e::es) X.env=(false,eval e X.env)::starEach es X.env:=by rfl) (ou:(backTo pos (starEach es X.env)).any (·.1)=false:=by rfl) :
  PE X (.Call (.Name x p) (e::es) [] pos) (RN sp lF E t):=by
 intro pins s σ H Q I h;refine ae5 (ZK I hg hm ?_ qK);refine afd (h₀:=X.base) I.ok.mod.VN hk (cH (ha pos pins s σ H _ I h) λus s1 zz=>?_) he ou;obtain⟨vs,H1,I1,r,q⟩:=zz;refine⟨I1.qb,?_⟩;exact yM F hr hb hd hx I1 r q
def HD(F:cQ X.prog X.w X.K X.mg X.base CX k f fd ps sp)(hr:cR k X.A)(hg:Gl X x)(hm:X.mg x=some (.ref f))(hk:PySem.W.keepIn X.K (.ref f)=true)(hb:Binds X.K fd ps ds)(hd:Vals lF ds)(hx:Passes CX X E)
  (qK:(x==("__debug__":Str))=false:=by decide):PE X (.Call (.Name x p) [] [] pos) (RN sp lF E aak):=by
 intro pins s σ H Q I h;refine ae5 (ZK I hg hm ?_ qK);exact PySem.W.callWith_K0 I.qb hk (yM (us:=[]) F hr hb hd hx I .nil h)
def Ot{pl:Sem Bool}(he:PE X o ta)(c:BW X.K C)(hm:Meth X.K C m f)(F:cQ X.prog X.w X.K X.mg X.base CX k f fd ps sp)(hr:cR k X.A)(hb:Binds X.K fd ps ds)(hd:Vals lF ds)(hx:Passes CX X E)(ha:PA X (e::es) t)
  (Ec:starEach (e::es) X.env=(false,eval e X.env)::starEach es X.env:=by rfl) (ou:(backTo pos (starEach es X.env)).any (·.1)=false:=by rfl)
  (ht:eval (.Call (.Attribute o m apos) (e::es) [] pos) X.env=(do
   let ov <-eval o X.env
   standAt apos.atName
   let (f,first) <-holding [ov] (getMethod ov m pl)
   callWith pos f first (backTo pos (starEach (e::es) X.env)) (backToKw pos (keywordEach [] X.env))):=by rfl) :
  PE X (.Call (.Attribute o m apos) (e::es) [] pos) (aam C m sp lF E ta t):=by
 intro pins s σ H Q I h;refine PySem.W.methodCall_KW (pl:=pl) (cH (he pins s σ H _ I h) λu s1 zz=>?_) ht;obtain⟨x,H1,I1,rx,a,dx,fs,ex,ea,l,q⟩:=zz;subst ex;obtain rfl:u=Value.ref a:=rx;refine ztc I1 ea c hm l ?_;refine afd (first:=[.ref a]) (h₀:=X.base) I.ok.mod.VN hm.kp (cH (ha pos pins s1 σ H1 _ I1 q) λus s2 zz=>?_) Ec ou;obtain⟨vs,H2,I2,r,q2⟩:=zz;refine⟨I2.qb,?_⟩;exact yM (us:=.ref a::us) (vs:=.ref a::vs) F hr hb hd hx I2 (.cons rfl r) q2
structure Mk(K:PySem.W.Frag)(C f:Addr):Prop where
 makes:PySem.W.makesIn K C=true
 init:PySem.W.findIn K (.ref C) "__init__" = some (some (.ref f))
 fn:PySem.W.isFn K (.ref f)=true
 kp:PySem.W.keepIn K (.ref C)=true
def G8(M:Mk X.K C f)(F:cQ X.prog X.w X.K X.mg X.base CX k f fd ps sp)(hr:cR (k+1) X.A)(hb:Binds X.K fd ps ds)(hd:Vals lF ds) 
  (hx:Passes CX X E) (I:Inv X pins σ H s) (r:Vals vs us)
  (h:∀x dx,H x=none->H dx=none->dx≠x->sp (.ref x::(vs++lF)) (upd (upd H dx (.own x)) x (.ins C dx [])) (λv H2=>v=.non/\Q (.ref x) H2) E) :
  wpAny (model X.prog X.w) X.A (call (.ref C) us) (EP X pins σ Q) X.xe s:=by
 have hq:=h (s.heap.objs.size+1) s.heap.objs.size (I.bN.fresh (Nat.le_succ _)) (I.bN.fresh (gb _)) (gY (nQ _));have I2:=Inv.made (C:=C) I;have r2:Vals (V.ref (s.heap.objs.size+1)::(vs++lF)) (Value.ref (s.heap.objs.size+1)::(us++ds)):=.cons rfl (r.append hd);have hl:(Value.ref (s.heap.objs.size+1)::us++ds).length=ps.length:=by
  have e:=r2.length;rw[F.len _ _ _ _ hq]at e;exact e.symm
 refine wpAny_call (IW (f:=f) I.qb M.makes M.init (beq_iff_eq.mp M.fn) (afv (F.run _ X.stack _ _ ⟨Value.ref (s.heap.objs.size+1)::us,[]⟩ (Value.ref (s.heap.objs.size+1)::(us++ds)) _ _ E (hr.make C us [])
  (I2.QG.make C us []) (hb _ (Value.ref (s.heap.objs.size+1)::us) I2.qb hl) r2 hq) λr s' Ed=>?_))
 cases r with
 | error e=>exact hx pins σ _ _ e s' I2 Ed
 | ok fl =>
  cases fl with
  | ret u =>
   obtain⟨v,H',I3,rv,ev,q3⟩:=I2.after Ed;subst ev;exact⟨rv,⟨V.ref (s.heap.objs.size+1),H',I3,rfl,q3⟩⟩
  | next=>exact False.elim Ed
  | brk=>exact False.elim Ed
  | cont=>exact False.elim Ed
def Ou(M:Mk X.K C f)(F:cQ X.prog X.w X.K X.mg X.base CX k f fd ps sp)(hr:cR (k+1) X.A)(hg:Gl X x)(hm:X.mg x=some (.ref C))(hb:Binds X.K fd ps ds)(hd:Vals lF ds)(hx:Passes CX X E)
  (ha:PA X (e::es) t) (qK:(x==("__debug__":Str))=false:=by decide) (he:starEach (e::es) X.env=(false,eval e X.env)::starEach es X.env:=by rfl) (ou:(backTo pos (starEach es X.env)).any (·.1)=false:=by rfl) :
  PE X (.Call (.Name x p) (e::es) [] pos) (aan C sp lF E t):=by
 intro pins s σ H Q I h;refine ae5 (ZK I hg hm ?_ qK);refine afd (h₀:=X.base) I.ok.mod.VN M.kp (cH (ha pos pins s σ H _ I h) λus s1 zz=>?_) he ou;obtain⟨vs,H1,I1,r,q⟩:=zz;refine⟨I1.qb,?_⟩;exact G8 M F hr hb hd hx I1 r q
end
section
variable  {X:Cx}{CX:Lj}{k:Nat}{f C:Addr}{fd:FuncData}{ps ks:List Str}{sp:Sp}{E:XK}{x m:Str}{p pos apos aew:Pos}{e o:Expr}{es:List Expr}{kws:List Keyword}{te ta:TE}{t tk:TA}{nm:Option Str}
structure aef(K:PySem.W.Frag)(fd:FuncData)(ps ks:List Str)(g:List Value->List Value->List Value)(gV:List V->List V->List V):Prop where
 to:∀(s:Shared) (us ws:List Value),K.In s.heap->(g us ws).length=ps.length->BindsTo s fd ⟨us,ks.zip ws⟩ (ps.zip (g us ws))
 rel:∀{vs:List V} {us:List Value} {zs:List V} {ws:List Value},Vals vs us->Vals zs ws->Vals (gV vs zs) (g us ws)
variable  {g:List Value->List Value->List Value}{gV:List V->List V->List V}
end
structure dX(N P:List Str)(sc:Scope):Prop where
 kind:sc.kind=.function
 co:sc.isCoroutine=false
 gen:sc.isGenerator=false
 nd:N.Nodup
 pre:N.take P.length=P
 par:∀x∈P,sc.names.lookup x=some .local\/sc.names.lookup x=some .cell
 VD:∀y∈sc.names,y.2≠.free
theorem zow{kindOf:Str->Option NameKind}{x:Str}:∀{binds:List (Str×Value)} {m:Str->Option Value},(∀v,(x,v)∉binds)->bindL kindOf binds m x=m x
 | [],_,_=>rfl
 | (n,v)::r,m,h=>by
  unfold bindL;rw[zow λw hw=>h w (kI _ hw)]
  split
  ·have:x≠n:=by rintro rfl;exact h v mX
   simp[this]
  ·rfl
theorem zoq{kindOf:Str->Option NameKind}{x:Str}:∀{binds:List (Str×Value)} {m:Str->Option Value},(∀v,(x,v)∉binds)->bindC kindOf binds m x=m x
 | [],_,_=>rfl
 | (n,v)::r,m,h=>by
  unfold bindC;rw[zoq λw hw=>h w (kI _ hw)]
  split
  ·rfl
  ·have:x≠n:=by rintro rfl;exact h v mX
   simp[this]
theorem zpb{kindOf:Str->Option NameKind}{x:Str}{v:Value}:∀{P:List Str} {vs:List Value} {i:Nat} {m:Str->Option Value},P.Nodup->P[i]? = some x->vs[i]? = some v->kindOf x=some .local ->
  bindL kindOf (P.zip vs) m x=some v
 | [],_,_,_,_,h,_,_=>by simp at h
 | _::_,[],_,_,_,_,h,_=>by simp at h
 | p::P,w::vs,0,m,nd,h1,h2,hk=>by
  simp at h1 h2;subst h1;subst h2;show bindL kindOf ((p,w)::P.zip vs) m p=_;unfold bindL;rw[zow λv hv=>(my.mp nd).1 (p7 hv).1,aeQ hk];simp
 | p::P,w::vs,i+1,m,nd,h1,h2,hk=>by
  show bindL kindOf ((p,w)::P.zip vs) m x=_;unfold bindL;exact zpb (i:=i) (my.mp nd).2 (by simpa using h1) (by simpa using h2) hk
theorem zpf{kindOf:Str->Option NameKind}{x:Str}{v:Value}:∀{P:List Str} {vs:List Value} {i:Nat} {m:Str->Option Value},P.Nodup->P[i]? = some x->vs[i]? = some v->kindOf x≠some .local ->
  bindC kindOf (P.zip vs) m x=some v
 | [],_,_,_,_,h,_,_=>by simp at h
 | _::_,[],_,_,_,_,h,_=>by simp at h
 | p::P,w::vs,0,m,nd,h1,h2,hk=>by
  simp at h1 h2;subst h1;subst h2;show bindC kindOf ((p,w)::P.zip vs) m p=_;unfold bindC;rw[zoq λv hv=>(my.mp nd).1 (p7 hv).1,aeS hk];simp
 | p::P,w::vs,i+1,m,nd,h1,h2,hk=>by
  show bindC kindOf ((p,w)::P.zip vs) m x=_;unfold bindC;exact zpf (i:=i) (my.mp nd).2 (by simpa using h1) (by simpa using h2) hk
noncomputable def start(N:List Str)(vs:List V):St:=vs.map some++List.replicate (N.length - vs.length) none
noncomputable def vQ(CX:Lj)(P:Program)(w:World)(K:PySem.W.Frag)(mg:Str->Option Value)(base:Heap)(N:List Str)(qual:Str)(scope:Scope)(f:Addr)(cd:Value)(A:Around)(outer:List Env)(s:Shared)(H:Hp)(E:XK):Cx where
 prog:=P
 w:=w
 K:=K
 mg:=mg
 base:=base
 A:=A.deeper (envOfC qual scope s.heap.objs.size f cd)
 N:=N
 aeG:=s
 aeO:=H
 env:=envOfC qual scope s.heap.objs.size f cd
 outer:=outer
 stack:=envOfC qual scope s.heap.objs.size f cd::outer
 ex:=[]
 calm:=true
 fn:=λ_=>true
 pn:=[]
 xe:=λe s'=>wpAny (model P w) (A.deeper (envOfC qual scope s.heap.objs.size f cd)) (leaving (envOfC qual scope s.heap.objs.size f cd) e) (λ_ s''=>CX outer H s E e s'') (λe' s''=>CX outer H s E e' s'') s'
def zq9{sc:Scope}{n:Nat}{x:Str}(h:sc.names.lookup x=some .cell):∃c,(cellsFrom n sc.names []).lookup x=some c:=by
 have q:=PySem.W.cellsFrom_some sc.names n [] (.inl h);exact Option.isSome_iff_exists.mp q
def D_{CX:Lj}{P:Program}{w:World}{K:PySem.W.Frag}{mg:Str->Option Value}{base:Heap}{N ps:List Str}{qual:Str}{scope:Scope}{f:Addr}{cd:Value}{A:Around}{outer:List Env}{s s1:Shared}{H:Hp}{E:XK}{us:List Value}{vs:List V}
  (S:dX N ps scope) (hd:A.handled=none) (e0:xg P w K mg base A outer s H) (hl:vs.length=ps.length) (r:Vals vs us)
  (x:InCallC s s.heap.objs.size (bindL (envOfC qual scope s.heap.objs.size f cd).kindOf (ps.zip us) λ_=>none) (cellsFrom (s.heap.objs.size+1) scope.names []) (bindC (envOfC qual scope s.heap.objs.size f cd).kindOf (ps.zip us) λ_=>none) s1) :
  Inv (vQ CX P w K mg base N qual scope f cd A outer s H E) [] (start N vs) H s1:=by
 have ou:ps.length<=N.length:=by have:=congrArg List.length S.pre;rw[kj]at this;omega
 obtain⟨h1,tk,rfl,hk⟩:=x.done;have Pa:∀b:Addr,b∉(vQ CX P w K mg base N qual scope f cd A outer s H E).ex:=λb z=>absurd (show b∈([]:List Addr) from z) (by simp);refine⟨⟨e0.mod,S.kind,rfl,rfl,gb _,λy z c h1 h2=>?_,λy hy=>?_,λy c _ h=>?_,λ_=>hd,Around.frames_deeper e0.frames,.inr ⟨rfl,rfl⟩,λb z=>absurd z (Pa b),e0.bs,e0.Fi,λb _ _=>Pa b,λb z=>absurd z (Pa b),e0.oA,e0.Ka⟩,
  rfl,e0.bare,Un.kept hk,⟨_,x.toInCall.ns,λi y v h1 h2 h3=>?_⟩,λy c h=>⟨_,x.cell y c h⟩,e0.bN.fresh (gb _),λy c h=>?_,λp hp=>absurd (show p∈([]:List (Addr×Obj)) from hp) (by simp),e0.bN.kept hk,?_⟩
 ·exact name_of_addr x.apart (aeW h1) (aeW h2)
 ·have hy:scope.names.lookup y=some .cell\/scope.names.lookup y=some .free:=hy;rcases hy with hy | hy
  ·exact zq9 hy
  ·exact absurd rfl (S.VD _ (aeW hy))
 ·exact Nat.le_of_lt (x.above y c (aeW h))
 ·have hi:i<vs.length:=by
   unfold start at h2;by_cases hi:i<vs.length
   ·exact hi
   ·rw[kh (by simpa using hi)]at h2;rw[List.getElem?_replicate]at h2
    split at h2<;>cases h2
  have ha:vs[i]? = some v:=by
   unfold start at h2;rw[gJ (by simpa using hi),gB]at h2;cases e:vs[i]? with
   | none=>rw[e]at h2;cases h2
   | some a=>rw[e]at h2;cases h2;rfl
  obtain⟨u,hu,rv⟩:=r.get ha;have hp:ps[i]? = some y:=by
   rw[<-S.pre,List.getElem?_take_of_lt (by omega)];exact h1
  have ndP:ps.Nodup:=by rw[<-S.pre];exact S.nd.sublist (List.take_sublist _ _)
  refine⟨u,rv,?_⟩;rcases S.par y (gU hp) with k | k
  ·exact .inl ⟨k,zpb ndP hp hu k⟩
  ·obtain⟨c,e⟩:=zq9 (n:=s.heap.objs.size+1) k;refine .inr ⟨.inl k,c,e,?_⟩;have q:=x.cell y c e;rw[zpf ndP hp hu (by show scope.names.lookup y≠_;rw[k];decide)]at q;exact q
 ·exact e0.bN.fresh (Nat.le_of_lt (x.above y c (aeW h)))
 ·unfold start;show _=N.length;rw[gK,gm,List.length_replicate];omega
def S_{CX:Lj}{P:Program}{w:World}{K:PySem.W.Frag}{mg:Str->Option Value}{base:Heap}{k:Nat}{f:Addr}{name qual:Str}{params:Arguments}{body:List Stmt}{scope:Scope}{dV kV doc pm iw ct oc:Value}{an od:Option Addr}
  {xr:Array (Option Value)} {N ps:List Str} {sp:Sp} (lk:K.lookup f=some ⟨oc,od,.func (PySem.W.fnOf name qual params body scope dV kV doc pm an iw ct),xr⟩) (xV:PySem.W.codeIn K iw qual=true) (S:dX N ps scope)
  (len:∀vs H Q E,sp vs H Q E->vs.length=ps.length)
  (qM:∀(A:Around) (outer:List Env) (s:Shared) (H:Hp) (vs:List V) (Q:VK) (E:XK),cR k (A.deeper (envOfC qual scope s.heap.objs.size f iw))->sp vs H Q E ->
   ∃t,yC (vQ CX P w K mg base N qual scope f iw A outer s H E) body t/\t { nx:=λ_ H'=>Q .non H',rt:=Q } (start N vs) H) :
  cQ P w K mg base CX (k+1) f (PySem.W.fnOf name qual params body scope dV kV doc pm an iw ct) ps sp:=by
 refine⟨len,λA outer s H args us vs Q E hr e0 hb r Y5=>?_⟩;have hl:=len _ _ _ _ Y5;have KX:K.In s.heap:=e0.mod.VN.keeps λb o e=>(e0.bs b o e).1;have lim:s.heap.NoLimit:=e0.mod.nolimit.keeps λb o e=>(e0.bs b o e).1;have aby:∀y∈ps.zip us,scope.names.lookup y.1=some .local\/(scope.names.lookup y.1=some .cell/\((cellsFrom (s.heap.objs.size+1) scope.names []).lookup y.1).isSome=true):=λ⟨n,v⟩ hy=>by
  rcases S.par n (p7 hy).1 with q | q
  ·exact .inl q
  ·exact .inr ⟨q,PySem.W.cellsFrom_some _ _ _ (.inl q)⟩
 refine codeAny_call_function hr.depth (KX _ _ lk) rfl S.co S.gen rfl (PySem.W.codeRec_of KX xV) (hb _ _ _ _ ?_);refine wpAny_newFunctionEnv_cells S.kind aby λenv he s1 x=>?_;subst he;refine⟨lim.keeps x.toInCall.keep,codeAny_func ?_⟩;obtain⟨t,ht,hq⟩:=qM A outer s H vs Q E (hr.deeper _) Y5;have I:Inv (vQ CX P w K mg base N qual scope f iw A outer s H E) [] (start N vs) H s1:=D_ S hr.hd e0 hl r x;refine ae4 (ht [] s1 (start N vs) H _ I hq) (λfl s' hs=>?_) λe s' hs=>hs;have fin:∀{σ':St} {H':Hp} {v:V} {u:Value},Inv (vQ CX P w K mg base N qual scope f iw A outer s H E) [] σ' H' s'->RelV v u->Q v H'->CE outer P w H s Q u s' :=
  λ{σ' H' v u} J rv q=>⟨v,H',J.os,J.bare,J.base,J.bN,rv,q⟩
 cases fl with
 | ret u =>
  obtain⟨v,σ',H',J,rv,q⟩:=hs;exact fin J rv q
 | next =>
  obtain⟨σ',H',J,q⟩:=hs;exact fin (v:=V.non) (u:=Value.none) J rfl q
 | brk =>
  obtain⟨_,_,_,q⟩:=hs;exact False.elim q
 | cont =>
  obtain⟨_,_,_,q⟩:=hs;exact False.elim q
section
variable  {X:Cx}{x:Str}{p pos:Pos}{e:Expr}{es:List Expr}{t:TA}{id T:String}{r:List V->Hp->VK->Prop}
noncomputable def tCB(r:List V->Hp->VK->Prop)(t:TA):TE:=fun σ H Q=>t σ H λvs H1=>r vs H1 Q
def zth(hc:cG X (.builtin id) r)(hg:Gl X x)(hm:X.mg x=none)(hv:bootBuiltins x=some (.builtin id))(ha:PA X (e::es) t)(hn:x ≠ "__name__":=by decide)(qK:(x==("__debug__":Str))=false:=by decide)
  (he:starEach (e::es) X.env=(false,eval e X.env)::starEach es X.env:=by rfl) (ou:(backTo pos (starEach es X.env)).any (·.1)=false:=by rfl):PE X (.Call (.Name x p) (e::es) [] pos) (tCB r t):=by
 intro pins s σ H Q I h;refine ae5 (Mu I hg hm hv ?_ hn qK);refine PyProof.Rows.callWith_builtin1 (cH (ha pos pins s σ H _ I h) λus s1 zz=>?_) he ou;obtain⟨vs,H1,I1,r1,q1⟩:=zz;exact hc pins s1 σ H1 vs us Q I1 r1 q1
def Dj(hc:cG X (.type T) r)(hg:Gl X x)(hm:X.mg x=none)(hv:bootBuiltins x=some (.type T))(ha:PA X (e::es) t)(hn:x ≠ "__name__":=by decide)(qK:(x==("__debug__":Str))=false:=by decide)
  (he:starEach (e::es) X.env=(false,eval e X.env)::starEach es X.env:=by rfl) (ou:(backTo pos (starEach es X.env)).any (·.1)=false:=by rfl):PE X (.Call (.Name x p) (e::es) [] pos) (tCB r t):=by
 intro pins s σ H Q I h;refine ae5 (Mu I hg hm hv ?_ hn qK);refine aeY (cH (ha pos pins s σ H _ I h) λus s1 zz=>?_) he ou;obtain⟨vs,H1,I1,r1,q1⟩:=zz;exact hc pins s1 σ H1 vs us Q I1 r1 q1
end
end L2
namespace HT
open PySem PyProof.Rows
section
open PySem.SeqAt
open PySem.AutoSeq1 (wpAny_loadPart')
open PySem.MeetsSeq PySem.MeetsSeq2 PySem.MeetsSeq3
end
section
variable  {prog:Program}{w:World}{A:Around}{E:Value->Shared->Prop}{s:Shared}
def Q8(ht:IsTup s.heap t vs.toArray)(hb:IsTup s.heap b ws.toArray)(hv:vs≠[]) 
  (h1:ws=[]->Q (.ref t) s) (h2:ws≠[]->Q (.ref s.heap.objs.size) { s with heap:=s.heap.push { cls:=.type "tuple",data:=.seq (vs++ws).toArray } })
  (hsz:vs.length+ws.length<=sizeLine):wpAny (model prog w) A (binaryOp .Add (.ref t) (.ref b)) Q E s:=by
 obtain⟨⟨cls,dd,data,sl⟩,ho,hc,n,hd⟩:=id ht;obtain⟨⟨aea,dd2,data2,sl2⟩,J1,W8,n2,hd2⟩:=id hb;simp only at hc hd W8 hd2;subst hc hd W8 hd2;have e:vs.toArray++ws.toArray=(vs++ws).toArray:=by simp
 by_cases hw:ws=[]
 ·exact concat_meets ⟨_,ho,rfl⟩ ⟨_,J1,rfl⟩ noFill_tuple_add seq_tuple_add afy afu (afs _ _)
   (tuple_addW1 t b vs.toArray ws.toArray n n2 dd dd2 sl sl2 (by simpa using hv) (by simp[hw])) ⟨ho,J1,h1 hw⟩
 ·refine concat_meets ⟨_,ho,rfl⟩ ⟨_,J1,rfl⟩ noFill_tuple_add seq_tuple_add afy afu (afs _ _)
   (tuple_addW2 t b vs.toArray ws.toArray n n2 dd dd2 sl sl2 (by simpa using hv) (by simpa using hw) (by rw[gC,gC];exact hsz)) ⟨ho,J1,?_⟩
  rw[e];exact h2 hw
noncomputable def dh(n d:Nat):Option Int->Nat
 | none=>d
 | some v=>if v<0 then (v+(n:Int)).toNat else min v.toNat n
def zqn(n d:Nat):dh n d none=d:=rfl
def zZ(n d k:Nat):dh n d (some (k:Int))=min k n:=by
 show (if (k:Int)<0 then ((k:Int)+(n:Int)).toNat else min (k:Int).toNat n)=min k n;rw[aeS (by omega),mY]
def G7(n d:Nat)(hd:d<=n)(o:Option Int):dh n d o<=n:=by
 cases o with
 | none=>exact hd
 | some v =>
  show (if v<0 then (v+(n:Int)).toNat else min v.toNat n)<=n;by_cases hv:v<0
  ·rw[aeQ hv];omega
  ·rw[aeS hv];exact Nat.min_le_right _ _
def Bw(v:Int)(n d:Nat):(if v<0 then max (v+(n:Int)) 0 else min v (n:Int))=((dh n d (some v):Nat):Int):=by
 show (if v<0 then max (v+(n:Int)) 0 else min v (n:Int))=(((if v<0 then (v+(n:Int)).toNat else min v.toNat n):Nat):Int);by_cases hv:v<0
 ·simp only[aeQ hv];omega
 ·simp only[aeS hv];omega
def zqv(lo hi:Option Int)(n:Nat):Builtin.Slice.sliceAdjust lo hi 1 (n:Int)=(((dh n 0 lo:Nat):Int),((dh n n hi:Nat):Int)):=by
 have h1:¬ ((1:Int)<0):=by omega
 unfold Builtin.Slice.sliceAdjust;simp only[h1,if_false];refine Prod.ext ?_ ?_
 ·cases lo with
  | none=>rfl
  | some v=>exact Bw v n 0
 ·cases hi with
  | none=>rfl
  | some v=>exact Bw v n n
def ztg(i j:Nat):Builtin.Slice.slicePlaces (i:Int) (j:Int) 1=j - i:=by
 unfold Builtin.Slice.slicePlaces;have h1:(1:Int) > 0:=by omega
 simp only[h1,if_true,Int.ediv_one]
 split<;>omega
def zk5(p:IsPart v o)(h:Q o s):wpAny (model prog w) A (Builtin.Slice.slicePartIndex v) Q E s:=by
 cases p with
 | none=>exact slicePart_none h
 | int i t=>exact slicePart_int h
def ze0{sl:Addr}{vl vu:Value}{lo hi:Option Int}{n:Nat}{Q:Int×Int×Nat->Shared->Prop}(hs:s.heap.IsSliceOf sl vl vu .none)(pl:IsPart vl lo)(pu:IsPart vu hi)
  (h:Q (((dh n 0 lo:Nat):Int),1,dh n n hi - dh n 0 lo) s):wpAny (model prog w) A (Builtin.Slice.sliceApplied (.ref sl) (pure (n:Int))) Q E s:=by
 obtain⟨os,WL,hcs,Sx⟩:=id hs;unfold Builtin.Slice.sliceApplied Builtin.Slice.sliceFields;refine aeP (aeP (afl WL Sx (x:=vl) rfl (aeP (afl WL Sx (x:=vu) rfl (aeP (afl WL Sx (x:=.none) rfl (aeR ?_)))))));refine aeP (slicePart_none ?_);show wpAny _ _ (if ((1:Int)==0)=true then _ else _) _ _ s;rw[aeS (by decide)];refine aeP (zk5 pl (aeP (zk5 pu (aeP (aeR ?_)))));show wpAny _ _ (match Builtin.Slice.sliceAdjust lo hi 1 (n:Int) with | (lo,hi)=>pure (lo,(1:Int),Builtin.Slice.slicePlaces lo hi 1)) _ _ s;rw[zqv lo hi n];show wpAny _ _ (pure (((dh n 0 lo:Nat):Int),(1:Int),Builtin.Slice.slicePlaces ((dh n 0 lo:Nat):Int) ((dh n n hi:Nat):Int) 1)) _ _ s;rw[ztg];exact aeR h
def Ht(xs:Array Value)(i k:Nat):((List.range k).filterMap λ(m:Nat)=>xs[((i:Int)+(m:Int)*1).toNat]?).toArray=((xs.toList.drop i).take k).toArray:=by
 have e:(λ(m:Nat)=>xs[((i:Int)+(m:Int)*1).toNat]?)=λm=>xs[i+m]?:=by
  funext m;have:((i:Int)+(m:Int)*1).toNat=i+m:=by omega
  rw[this]
 rw[e];have:=pick_run xs i k;rw[pH]at this;have e2:((λx=>xs[x]?)∘λx=>i+x)=λm=>xs[i+m]?:=rfl;rw[e2]at this;rw[this]
def zhm{t sl:Addr}{items:Array Value}{vl vu:Value}{lo hi:Option Int}{Q:Value->Shared->Prop}(ht:IsTup s.heap t items)(hs:s.heap.IsSliceOf sl vl vu .none)(pl:IsPart vl lo)(pu:IsPart vu hi)
  (hw:¬ (dh items.size 0 lo=0/\dh items.size items.size hi=items.size))
  (h:Q (.ref s.heap.objs.size) { s with heap:=s.heap.push { cls:=.type "tuple",data:=.seq ((items.toList.drop (dh items.size 0 lo)).take (dh items.size items.size hi - dh items.size 0 lo)).toArray } })
  (hsz:items.size<=sizeLine):wpAny (model prog w) A (getItem (.ref t) (.ref sl)) Q E s:=by
 have Bb:sizeOk (.seq ((items.toList.drop (dh items.size 0 lo)).take (dh items.size items.size hi - dh items.size 0 lo)).toArray):=by
  show ((items.toList.drop (dh items.size 0 lo)).take (dh items.size items.size hi - dh items.size 0 lo)).toArray.size<=sizeLine;rw[gC,kj,kW,nM];omega
 have hj:dh items.size items.size hi<=items.size:=G7 _ _ (gb _) hi;obtain⟨os,WL,hcs,Sx⟩:=id hs;have hTs:s.TypeIs (.ref sl) "slice":=⟨os,WL,hcs⟩;unfold getItem
 try with_reducible refine afi ?_
 first | refine aeP (aeR ?_) | skip
 refine aeP (wpAny_sequenceKey ht.typeIs (by decide) ?_);refine aeP (ae_ (name:=Str.ofString "__getitem__") ht.typeIs ae6
  (afn ae6 ht.typeIs entry_tuple_getitem ?_ (args_tuple_getitem _ _)))
 show wpAny _ _ (Builtin.Tuple.tupleItemsOf (.ref t) >>= _) _ _ s;refine aeP (tupleItemsOf_ ht ?_);refine aeP (wpAny_typeOf hTs ?_);rw[aeQ (by decide)];refine aeP (ze0 hs pl pu ?_);have Y7:¬ ((((dh items.size 0 lo:Nat):Int)==0 && (1:Int)==1 && (dh items.size items.size hi - dh items.size 0 lo)==items.size)=true):=by
  intro q;rw[gM,gM]at q;have q1:((dh items.size 0 lo:Nat):Int)=0:=eq_of_beq q.1.1;have q2:dh items.size items.size hi - dh items.size 0 lo=items.size:=eq_of_beq q.2;exact hw ⟨by omega,by omega⟩
 show wpAny _ _ (if (((dh items.size 0 lo:Nat):Int)==0 && (1:Int)==1 && (dh items.size items.size hi - dh items.size 0 lo)==items.size)=true then _ else _) _ _ s;rw[aeS Y7,Ht]
 first
  | exact aeP (m:=Builtin.Tuple.tupleExact _) (ae8 (aeR ⟨_,rfl,aeR h⟩) Bb)
  | exact aeP (m:=Builtin.Tuple.tupleExact _) (ae8 (aeP (aeR (aeR ⟨_,rfl,aeR h⟩))) Bb)
  | exact aeP (aeP (m:=Builtin.Tuple.tupleExact _) (ae8 (aeR (aeR ⟨_,rfl,aeR h⟩)) Bb))
  | exact aeP (aeP (m:=Builtin.Tuple.tupleExact _) (ae8 (aeR ⟨_,rfl,aeR h⟩) Bb))
end
end HT
namespace L2
open PySem PySem.Spec PyProof.Rows
noncomputable abbrev TO:=St->Hp->(Option Int->Hp->Prop)->Prop
def PO(X:Cx)(e:Option Expr)(t:TO):Prop :=
 ∀(pins:List (Addr×Obj)) (s:Shared) (σ:St) (H:Hp) (Q:Option Int->Hp->Prop),Inv X pins σ H s->t σ H Q ->
  wpAny (model X.prog X.w) X.A (evalPart e X.env) (λu s'=>∃o H',Inv X pins σ H' s'/\IsPart u o/\Q o H') X.xe s
noncomputable def Nh:TO:=λ_ H Q=>Q none H
noncomputable def aai(t:TE):TO:=fun σ H Q=>t σ H λx H1=>∃i,x=.int i/\Q (some i) H1
section
variable  {X:Cx}{e:Expr}{te:TE}{lo hi:Option Expr}{tl th:TO}{pos p2:Pos}
def Og:PO X none Nh:=by
 intro pins s σ H Q I h;rw[evalPart_none];exact aeR ⟨none,H,I,.none,h⟩
def Oe(h:PE X e te):PO X (some e) (aai te):=by
 intro pins s σ H Q I hw;rw[evalPart_some];refine cH (h pins s σ H _ I hw) λu s1 zz=>?_;obtain⟨x,H1,I1,r1,q1⟩:=zz;obtain⟨i,rfl,q⟩:=q1;obtain⟨t,rfl⟩:=r1;exact⟨some i,H1,I1,.int i t,q⟩
def yf(X:Cx)(r:V->Option Int->Option Int->Hp->VK->Prop):Prop :=
 ∀(pins:List (Addr×Obj)) (s:Shared) (σ:St) (H:Hp) (x:V) (v vl vu:Value) (lo hi:Option Int) (sl:Addr) (Q:VK),Inv X pins σ H s->RelV x v->s.heap.IsSliceOf sl vl vu .none->IsPart vl lo->IsPart vu hi->r x lo hi H Q ->
  ∃T id,typeLookup (.type T) "__getitem__" = pure (some (.builtin id))/\s.TypeIs v T/\wpAny (model X.prog X.w) X.A (getItem v (.ref sl)) (EP X pins σ Q) X.xe s
def yf.or{r r':V->Option Int->Option Int->Hp->VK->Prop}(h:yf X r)(h':yf X r'):yf X (λx lo hi H Q=>r x lo hi H Q\/r' x lo hi H Q):=by
 intro pins s σ H x v vl vu lo hi sl Q I rx hs pl pu q;rcases q with q | q
 ·exact h pins s σ H x v vl vu lo hi sl Q I rx hs pl pu q
 ·exact h' pins s σ H x v vl vu lo hi sl Q I rx hs pl pu q
noncomputable def tSl(r:V->Option Int->Option Int->Hp->VK->Prop)(te:TE)(tl th:TO):TE:=fun σ H Q=>te σ H λx H1=>tl σ H1 λl H2=>th σ H2 λu H3=>r x l u H3 Q
def Hx{r:V->Option Int->Option Int->Hp->VK->Prop}(hr:yf X r)(he:PE X e te)(hl:PO X lo tl)(hu:PO X hi th):PE X (.Subscript e (.Slice lo hi none p2) pos) (tSl r te tl th):=by
 intro pins s σ H Q I h;refine Subscript_ (cH (he pins s σ H _ I h) λv s1 zz=>?_);obtain⟨x,H1,I1,r1,q1⟩:=zz;refine wpAny_Slice (cH (hl pins s1 σ H1 _ I1 q1) λvl s2 zz=>?_);obtain⟨l,H2,I2,pl,q2⟩:=zz;refine cH (hu pins s2 σ H2 _ I2 q2) λvu s3 zz=>?_;obtain⟨u,H3,I3,pu,q3⟩:=zz;rw[evalPart_none];refine aeR ?_;have I4:Inv X pins σ H3 { s3 with heap:=s3.heap.push { cls:=.type "slice",data:=.fields #[vl,vu,.none] } }:=I3.kept (t':=s3.toks) λb ob q=>g8 _ q;obtain⟨T,id,hT,ht,hg⟩:=hr pins { s3 with heap:=s3.heap.push { cls:=.type "slice",data:=.fields #[vl,vu,.none] } } σ H3 x v vl vu l u s3.heap.objs.size Q I4 r1 (Heap.IsSliceOf.new ..) pl pu q3;show wpAny (model X.prog X.w) X.A (subscriptTail e (.Slice lo hi none p2) v (.ref s3.heap.objs.size)) (EP X pins σ Q) X.xe { s3 with heap:=s3.heap.push { cls:=.type "slice",data:=.fields #[vl,vu,.none] } };exact tail_any (ops:=[.ref s3.heap.objs.size,v]) ht hT hg (by with_unfolding_all rfl)
noncomputable def yc(xs:List V)(lo hi:Option Int):List V:=(xs.drop (HT.dh xs.length 0 lo)).take (HT.dh xs.length xs.length hi - HT.dh xs.length 0 lo)
def zjj(xs:List V)(lo hi:Option Int):(yc xs lo hi).length<=xs.length:=by
 unfold yc;rw[kj,kW];omega
def ac8(K:PySem.W.Frag):V->Option Int->Option Int->Hp->VK->Prop:=λx lo hi H Q=>∃a xs,x=.ref a/\lR K H a xs /\
 ¬ (HT.dh xs.length 0 lo=0/\HT.dh xs.length xs.length hi=xs.length)/\∀p,H p=none->Q (.ref p) (upd H p (.tup (yc xs lo hi)))
def Uy:yf X (ac8 X.K):=by
 intro pins s σ H x v vl vu lo hi sl Q I rx hs pl pu h;obtain⟨a,xs,rfl,hx,hw,q⟩:=h;cases rx;obtain⟨its,r,ht,hz⟩:=I.tuple hx;have hlen:its.toArray.size=xs.length:=by rw[gC];exact r.length.symm
 refine⟨"tuple",_,PyProof.Rows.slot_tuple_getitem.lookup,ht.typeIs,?_⟩;refine HT.zhm ht hs pl pu (by rw[hlen];exact hw) ?_ (by rw[hlen];exact hz);rw[hlen];refine⟨.ref s.heap.objs.size,_,I.laid (t':=s.toks) (o:=.tup (yc xs lo hi)) (λb ob q=>g8 _ q) (gb _) ?_,rfl,q _ (I.bN.fresh (gb _))⟩;exact⟨h_ (zjj xs lo hi) hz,_,(r.drop (HT.dh xs.length 0 lo)).take (HT.dh xs.length xs.length hi - HT.dh xs.length 0 lo),IsTup.new _ _⟩
noncomputable def aaM(K:PySem.W.Frag):R2:=λx y H Q=>∃a b xs ys,x=.ref a/\y=.ref b/\lR K H a xs/\lR K H b ys/\xs≠[]/\xs.length+ys.length<=sizeLine /\
 (ys=[]->Q (.ref a) H)/\(ys≠[]->∀p,H p=none->Q (.ref p) (upd H p (.tup (xs++ys))))
def Vals.wF(r:Vals xs us):us=[]↔xs=[]:=by
 cases r with
 | nil=>simp
 | cons _ _=>simp
def O7:d9 X (binaryOp .Add) (aaM X.K):=by
 intro pins s σ H x y v u Q I rx ry h;obtain⟨a,b,xs,ys,rfl,rfl,ha,hb,hx,hz,q1,q2⟩:=h;cases rx;cases ry;obtain⟨its,r1,p1,_⟩:=I.tuple ha;obtain⟨oh,r2,p2,_⟩:=I.tuple hb;refine HT.Q8 p1 p2 (λz=>hx (r1.wF.mp z)) (λz=>⟨.ref a,H,I,rfl,q1 (r2.wF.mp z)⟩) (λz=>?_) (by rw[<-r1.length,<-r2.length];exact hz);refine⟨.ref s.heap.objs.size,_,I.laid (t':=s.toks) (o:=.tup (xs++ys)) (λb ob q=>g8 _ q) (gb _) ?_,rfl,q2 (λw=>z (r2.wF.mpr w)) _ (I.bN.fresh (gb _))⟩;exact⟨by rw[gK];exact hz,_,r1.append r2,IsTup.new _ _⟩
end
noncomputable def JB(n:Nat)(i:Int):Option Nat:=if 0<=i then (if i<n then some i.toNat else none) else if -(n:Int)<=i then some (i+n).toNat else none
noncomputable def pW{α:Type}(xs:List α)(i:Int):Option α:=(JB xs.length i).bind λj=>xs[j]?
def Qh(h:JB n i=some j):seqIndex? i n=some j/\j<n/\-(n:Int)<=i/\i<n:=by
 unfold JB at h;by_cases h0:0<=i
 ·rw[aeQ h0]at h;by_cases h1:i<n
  ·rw[aeQ h1]at h;have e:i.toNat=j:=aeU h;exact⟨by rw[seqIndex_of h0 h1,e],by omega,by omega,h1⟩
  ·rw[aeS h1]at h;cases h
 ·rw[aeS h0]at h;by_cases h1:-(n:Int)<=i
  ·rw[aeQ h1]at h;have e:(i+n).toNat=j:=aeU h;exact⟨by rw[seqIndex_neg (by omega) h1,e],by omega,h1,by omega⟩
  ·rw[aeS h1]at h;cases h
def ztk{α:Type}{xs:List α}{i:Int}{v:α}(h:pW xs i=some v):∃j,seqIndex? i xs.length=some j/\xs[j]? = some v/\j<xs.length/\-(xs.length:Int)<=i/\i<xs.length:=by
 unfold pW at h;cases e:JB xs.length i with
 | none=>rw[e]at h;cases h
 | some j =>
  rw[e]at h;obtain⟨h1,h2,h3,h4⟩:=Qh e;exact⟨j,h1,h,h2,h3,h4⟩
def Q_{α:Type}{xs:List α}{j:Nat}{v:α}(h:xs[j]? = some v):pW xs (j:Int)=some v:=by
 have hj:j<xs.length:=(gh.mp h).1;have e:JB xs.length (j:Int)=some j:=by
  unfold JB;rw[aeQ (by omega),aeQ (by omega)];simp
 unfold pW;rw[e];exact h
def BL(b:Expr):Prop:=∀o i,subscripted b false o i=operate [o,i] (getItem o i)
def BP(X:Cx)(r:R2):Prop :=
 ∀(value slice:Expr) (pins:List (Addr×Obj)) (s:Shared) (σ:St) (H:Hp) (x y:V) (v u:Value) (Q:VK),Inv X pins σ H s->RelV x v->RelV y u->r x y H Q ->
  subscripted slice false v u=operate [v,u] (getItem v u)->wpAny (model X.prog X.w) X.A (subscriptTail value slice v u) (EP X pins σ Q) X.xe s
def qd(X:Cx)(id:String)(r:V->List V->Hp->VK->Prop):Prop :=
 ∀(pins:List (Addr×Obj)) (s:Shared) (σ:St) (H:Hp) (x:V) (xs:List V) (v:Value) (us:List Value) (Q:VK),Inv X pins σ H s->RelV x v->Vals xs us->r x xs H Q ->
  wpAny (model X.prog X.w) X.A (call (.builtin id) (v::us)) (EP X pins σ Q) X.xe s
section
variable  {X:Cx}{a b:Expr}{ta tb:TE}{pos:Pos}
def BP.or{r r':R2}(h:BP X r)(h':BP X r'):BP X (λx y H Q=>r x y H Q\/r' x y H Q):=by
 intro value slice pins s σ H x y v u Q I rx ry q hs;rcases q with q | q
 ·exact h value slice pins s σ H x y v u Q I rx ry q hs
 ·exact h' value slice pins s σ H x y v u Q I rx ry q hs
def aaX(hr:BP X r)(ha:PE X a ta)(hb:PE X b tb)(hs:BL b):PE X (.Subscript a b pos) (tOp r ta tb):=by
 intro pins s σ H Q I h;exact Subscript_ (Xn ha hb I h λv u s2 x y H2 I2 rx ry q=>hr a b pins s2 σ H2 x y v u Q I2 rx ry q (hs _ _))
noncomputable def aaL(K:PySem.W.Frag):R2:=λx y H Q=>∃p xs i v,x=.ref p/\y=.int i/\lM K H p xs/\pW xs i=some v/\Q v H
noncomputable def aaJ(K:PySem.W.Frag):R2:=λx y H Q=>∃p xs i v,x=.ref p/\y=.int i/\lR K H p xs/\pW xs i=some v/\Q v H
noncomputable def aaK:R2:=λx y H Q=>∃z i c,x=.str z/\y=.int i/\z.length<=sizeLine/\pW z.cps.toList i=some c/\Q (.str ⟨#[c]⟩) H
def Qf:BP X (aaL X.K):=by
 intro value slice pins s σ H x y v u Q I rx ry h hs;obtain⟨p,xs,i,z,rfl,rfl,hq,he,q⟩:=h;cases rx;obtain⟨t,rfl⟩:=ry;obtain⟨its,r,pl,hz⟩:=I.list hq;obtain⟨j,h1,h2,h3,h4,h5⟩:=ztk he;obtain⟨w,ew,yL⟩:=r.get h2;have hl:=r.length;have hn:=iB;have fin:EP X pins σ Q w s:=⟨z,H,I,yL,q⟩;by_cases h0:0<=i
 ·have hj:i.toNat=j:=by
   rw[seqIndex_of h0 h5]at h1;exact aeU h1
  exact item_listR pl.isList h0 (by omega) (by rw[hj];simpa using ew) fin hs
 ·have hj:(i+(its.toArray.size:Int)).toNat=j:=by
   rw[seqIndex_neg (by omega) h4]at h1;rw[gC,<-hl];exact aeU h1
  exact subscriptTail_builtinR (x:=w) pl.isList.typeIs slot_list_getitem.lookup
   (wpAny_getItem_list_neg (Q:=λr s'=>r=w/\EP X pins σ Q r s') pl.isList (by omega) (by rw[gC]<;>omega) (by omega) (by rw[hj];simpa using ew) ⟨rfl,fin⟩) hs
def Wo:BP X (aaJ X.K):=by
 intro value slice pins s σ H x y v u Q I rx ry h hs;obtain⟨p,xs,i,z,rfl,rfl,hq,he,q⟩:=h;cases rx;obtain⟨t,rfl⟩:=ry;obtain⟨its,r,pl,hz⟩:=I.tuple hq;obtain⟨j,h1,h2,h3,h4,h5⟩:=ztk he;obtain⟨w,ew,yL⟩:=r.get h2;have hl:=r.length;have hn:=iB;have fin:EP X pins σ Q w s:=⟨z,H,I,yL,q⟩;exact subscriptTail_builtinR (x:=w) pl.typeIs slot_tuple_getitem.lookup
  (getItem_tuple (j:=j) (Q:=λr s'=>r=w/\EP X pins σ Q r s') pl (by omega) (by omega) (by rw[gC,<-hl];exact h1) (by simpa using ew) ⟨rfl,fin⟩) hs
def zg:BP X aaK:=by
 intro value slice pins s σ H x y v u Q I rx ry h hs;obtain⟨z,i,c,rfl,rfl,hz,he,q⟩:=h;obtain⟨t,rfl⟩:=rx;obtain⟨t',rfl⟩:=ry;obtain⟨j,h1,h2,h3,h4,h5⟩:=ztk he;have hl:z.cps.toList.length=z.length:=by simp[Str.length]
 rw[hl]at h1 h4 h5;have hn:=iB;exact tail_any (typeIs_str s z t) slot_str_getitem.lookup (getItem_str (c:=c) (by
  have e1:decide (i < -(2 ^ 63:Int))=false:=aeT (by omega);have e2:decide (i ≥ 2 ^ 63)=false:=aeT (by omega);rw[e1,e2,Bool.or_false]) (by rw[h1];simpa using h2) ⟨.str ⟨#[c]⟩,H,I.tok _,⟨_,rfl⟩,q⟩) hs
noncomputable def rIx(K:PySem.W.Frag):R2:=λx y H Q=>aaL K x y H Q\/aaJ K x y H Q\/aaK x y H Q
def Wq:BP X (rIx X.K):=Qf.or (Wo.or zg)
def zny(lo hi:Option Int)(n:Nat):(sliceBounds lo hi none n).1=((HT.dh n 0 lo:Nat):Int)/\(sliceBounds lo hi none n).2.1=((HT.dh n n hi:Nat):Int)/\(sliceBounds lo hi none n).2.2=1:=by
 refine⟨?_,?_,rfl⟩
 ·cases lo with
  | none=>simp[sliceBounds,HT.dh]
  | some i =>
   simp only[sliceBounds,HT.dh,Option.getD_none,show (1:Int) > 0 by decide,if_true];by_cases h:i<0
   ·simp only[h,if_true]<;>omega
   ·simp only[h,if_false]<;>omega
 ·cases hi with
  | none=>simp[sliceBounds,HT.dh]
  | some i =>
   simp only[sliceBounds,HT.dh,Option.getD_none,show (1:Int) > 0 by decide,if_true];by_cases h:i<0
   ·simp only[h,if_true]<;>omega
   ·simp only[h,if_false]<;>omega
def zlz(its:List Value)(lo hi:Option Int):slicePick its.toArray lo hi none=((its.drop (HT.dh its.length 0 lo)).take (HT.dh its.length its.length hi - HT.dh its.length 0 lo)).toArray:=by
 obtain⟨h1,h2,h3⟩:=zny lo hi its.toArray.size;unfold slicePick;rw[h1,h2,h3];simp only[sliceRange_one,pick_run,gC]<;>rfl
def ac_(K:PySem.W.Frag):V->Option Int->Option Int->Hp->VK->Prop:=λx lo hi H Q=>∃a xs,x=.ref a/\lM K H a xs/\∀p,H p=none->Q (.ref p) (upd H p (.lst (yc xs lo hi)))
def Nm:yf X (ac_ X.K):=by
 intro pins s σ H x v vl vu lo hi sl Q I rx hs pl pu h;obtain⟨a,xs,rfl,hx,q⟩:=h;cases rx;obtain⟨its,r,ht,hz⟩:=I.list hx;have hlen:=r.length;refine⟨"list",_,slot_list_getitem.lookup,ht.isList.typeIs,?_⟩;refine wpAny_getItem_list_slice ht.isList hs pl pu .none (by simp) ?_ (by rw[gC]<;>omega);rw[zlz,<-hlen];refine⟨.ref s.heap.objs.size,_,I.laid (t':=s.toks) (o:=.lst (yc xs lo hi)) (λb ob q=>g8 _ q) (gb _) ?_,rfl,q _ (I.bN.fresh (gb _))⟩;exact⟨h_ (zjj xs lo hi) hz,_,0,(r.drop (HT.dh xs.length 0 lo)).take (HT.dh xs.length xs.length hi - HT.dh xs.length 0 lo),gZ _ rfl⟩
noncomputable def fL:V->V->Bool
 | .non,.non=>true
 | .bl a,.bl b=>a==b
 | .bl a,.int b=>(if a then 1 else 0)==b
 | .int a,.bl b=>a==(if b then 1 else 0)
 | .int a,.int b=>a==b
 | .str a,.str b=>a==b
 | _,_=>false
def zng:d9 X (compareOp .NotIn) (λx y H Q=>∃i j,x=.str i/\y=.str j/\Q (.bl (!(!(Builtin.Str.occurrences j i 0 j.length 1).isEmpty))) H):=by
 intro pins s σ H x y v u Q I rx ry h;obtain⟨i,j,rfl,rfl,q⟩:=h;obtain⟨t,rfl⟩:=rx;obtain⟨t',rfl⟩:=ry;exact notIn_str ⟨.bl _,H,I,rfl,q⟩
def zni:cG X (.builtin "len") (λxs H Q=>∃p ys,xs=[.ref p]/\(lM X.K H p ys\/lR X.K H p ys)/\Q (.int ys.length) H):=by
 intro pins s σ H xs us Q I r h;obtain⟨p,ys,rfl,hq,q⟩:=h;obtain⟨u,rfl,rx⟩:=vals1 r;cases rx;have hn:=iB;rcases hq with hq | hq
 ·obtain⟨its,r',pl,hz⟩:=I.list hq;have hlen:=r'.length;exact Calls.call_len_list pl.isList (by simp only[gC]<;>omega) ⟨.int ys.length,H,I.tok _,⟨s.toks+1,by rw[gC,hlen]⟩,q⟩
 ·obtain⟨its,r',pl,hz⟩:=I.tuple hq;have hlen:=r'.length;exact len_tuple pl (by simp only[gC]<;>omega) ⟨.int ys.length,H,I.tok _,⟨s.toks+1,by rw[gC,hlen]⟩,q⟩
def zmz:cG X (.builtin "len") (λxs H Q=>∃z,xs=[.str z]/\z.length<=sizeLine/\Q (.int z.length) H):=by
 intro pins s σ H xs us Q I r h;obtain⟨z,rfl,hz,q⟩:=h;obtain⟨u,rfl,t,rfl⟩:=vals1 r;have hn:=iB;exact len_str (by omega) ⟨.int z.length,H,I.tok _,⟨_,rfl⟩,q⟩
def cG.or(h:cG X f r)(h':cG X f r'):cG X f (λxs H Q=>r xs H Q\/r' xs H Q):=by
 intro pins s σ H xs us Q I rs q;rcases q with q | q
 ·exact h pins s σ H xs us Q I rs q
 ·exact h' pins s σ H xs us Q I rs q
def zm9:cG X (.type "list") (λxs H Q=>∃p ys,xs=[.ref p]/\(lM X.K H p ys\/lR X.K H p ys)/\∀l,H l=none->Q (.ref l) (upd H l (.lst ys))):=by
 intro pins s σ H xs us Q I r h;obtain⟨p,ys,rfl,hq,q⟩:=h;obtain⟨u,rfl,rx⟩:=vals1 r;cases rx;have fin:∀(its:List Value),Vals ys its->ys.length<=sizeLine->∀(h':Heap) (c':Nat),(∀b o',s.heap.get? b=some o'->h'.get? b=some o') ->
   h'.get? s.heap.objs.size=some { cls:=.type "list",dict:=none,data:=.seq its.toArray c',slots:=#[] }->EP X pins σ Q (.ref s.heap.objs.size) { s with heap:=h' }:=λits r' hz h' c' kp e =>
  ⟨.ref s.heap.objs.size,_,I.laid (t':=s.toks) kp (gb _) (show bY X.prog X.w _ h' _ (.lst ys) from ⟨hz,its,c',r',e⟩),rfl,q _ (I.bN.fresh (gb _))⟩
 rcases hq with hq | hq
 ·obtain⟨its,r',pl,hz⟩:=I.list hq;have hlen:=r'.length;obtain⟨o,ho,hc,n,hd⟩:=pl.isList;exact call_list_seq p (.inl rfl) ho hc hd (λh' c' kp e=>fin its r' hz h' c' kp e) (by simp only[gC]<;>omega)
 ·obtain⟨its,r',pl,hz⟩:=I.tuple hq;have hlen:=r'.length;obtain⟨o,ho,hc,n,hd⟩:=pl;exact call_list_seq p (.inr rfl) ho hc hd (λh' c' kp e=>fin its r' hz h' c' kp e) (by simp only[gC]<;>omega)
def tyV(K:PySem.W.Frag)(T:String)(x:V)(H:Hp):Prop:=match x with
 | .str _=>T = "str"
 | .int _=>T = "int"
 | .ref p=>(T = "list"/\∃xs,lM K H p xs)\/(T = "tuple"/\∃o,K.lookup p=some o/\o.cls=.type "tuple"/\o.dict=none) \/
   (T = "dict"/\((∃kvs,H p=some (.dK kvs))\/∃kvs,H p=some (.dT kvs)))\/(T = "set"/\∃S n,H p=some (.set S n))
 | _=>False
def Gy(I:Inv X pins σ H s)(r:RelV x v)(ty:tyV X.K T x H) :
  s.TypeIs v T/\∀a,v=.ref a->∃ob,s.heap.get? a=some ob/\ob.dict=none:=by
 cases x with
 | str z =>
  obtain⟨t,rfl⟩:=r;cases (show T = "str" from ty);exact⟨typeIs_str s z t,λ_ e=>nomatch e⟩
 | int i =>
  obtain⟨t,rfl⟩:=r;cases (show T = "int" from ty);exact⟨typeIs_int s i t,λ_ e=>nomatch e⟩
 | ref p =>
  cases r;rcases ty with⟨rfl,xs,hq⟩ | ⟨rfl,o,hk,hc,hd⟩ | ⟨rfl,hk⟩ | ⟨rfl,S,n,hk⟩
  ·obtain⟨its,_,pl,_⟩:=I.list hq;refine⟨pl.isList.typeIs,λa e=>?_⟩;cases e;obtain⟨o,n,e,c,hd,_⟩:=pl;exact⟨o,e,hd⟩
  ·refine⟨⟨o,I.qb p o hk,hc⟩,λa e=>?_⟩;cases e;exact⟨o,I.qb _ o hk,hd⟩
  ·have z:∃o,s.heap.get? p=some o/\o.ExactDict:=by
    rcases hk with⟨kvs,hk⟩ | ⟨kvs,hk⟩
    ·obtain⟨_,_,_,_,o,_,_,e,ex,_⟩:=I.bN p _ hk;exact⟨o,e,ex⟩
    ·obtain⟨_,_,_,_,o,_,_,e,ex,_⟩:=I.bN p _ hk;exact⟨o,e,ex⟩
   obtain⟨o,e,ex⟩:=z;refine⟨⟨o,e,ex.1⟩,λa e2=>?_⟩;cases e2;exact⟨o,e,ex.2.1⟩
  ·obtain⟨o,_,_,_,e,ex,_⟩:=I.bN p _ hk;refine⟨⟨o,e,ex.1⟩,λa e2=>?_⟩;cases e2;exact⟨o,e,ex.2.1⟩
 | _=>exact False.elim ty
noncomputable def acF(K:PySem.W.Frag)(T:String)(r:V->List V->Hp->VK->Prop)(to:TE):TE:=fun σ H Q=>to σ H λx H1=>tyV K T x H1/\r x [] H1 Q
noncomputable def tBM(K:PySem.W.Frag)(T:String)(r:V->List V->Hp->VK->Prop)(to:TE)(t:TA):TE:=fun σ H Q=>to σ H λx H1=>tyV K T x H1/\t σ H1 λxs H2=>r x xs H2 Q
variable  {o e:Expr}{es:List Expr}{to:TE}{t:TA}{name:Str}{apos dC:Pos}{T id:String}{r:V->List V->Hp->VK->Prop}
def Vr(pa:PlainAttrs T)(slot:Slot T name id)(WD:typeOf (.builtin id)=pure (.type "method_descriptor"))(hm:qd X id r)(ho:PE X o to)
  (qN:attributeBase o name X.env (eval o X.env)=eval o X.env:=by rfl) (hline:(apos.endLine==dC.line)=true:=by rfl):PE X (.Call (.Attribute o name apos) [] [] dC) (acF X.K T r to):=by
 intro pins s σ H Q I h;refine wpAny_Call_method0_late qN hline (cH (ho pins s σ H _ I h) λv s1 zz=>?_);obtain⟨x,H1,I1,r1,ty,q1⟩:=zz;obtain⟨h1,h2⟩:=Gy I1 r1 ty;exact⟨T,id,pa,slot,WD,h1,h2,Calls.callWith_builtin rfl (PySem.evalArgs_none (hm pins s1 σ H1 x [] v [] Q I1 r1 .nil q1))⟩
def aaY(pa:PlainAttrs T)(slot:Slot T name id)(WD:typeOf (.builtin id)=pure (.type "method_descriptor"))(hm:qd X id r)(ho:PE X o to)(ha:PA X (e::es) t)
  (qN:attributeBase o name X.env (eval o X.env)=eval o X.env:=by rfl)
  (uO:((backTo dC (starEach (e::es) X.env)).all (λx=>!x.1) && (backToKw dC (keywordEach [] X.env)).all (λx=>x.1.isSome)
   && decide ((e::es).length+([]:List Keyword).length+(if ([]:List Keyword).isEmpty then 0 else 1)<30))=true:=by rfl)
  (hline:(apos.endLine==dC.line)=true:=by rfl) (hs:starEach (e::es) X.env=(false,eval e X.env)::starEach es X.env:=by rfl) (uN:(backTo dC (starEach es X.env)).any (·.1)=false:=by rfl) :
  PE X (.Call (.Attribute o name apos) (e::es) [] dC) (tBM X.K T r to t):=by
 intro pins s σ H Q I h;refine wpAny_Call_method_late qN uO hline rfl (cH (ho pins s σ H _ I h) λv s1 zz=>?_);obtain⟨x,H1,I1,r1,ty,q1⟩:=zz;obtain⟨h1,h2⟩:=Gy I1 r1 ty;refine⟨T,id,pa,slot,WD,h1,h2,?_⟩;have hA:=ha dC pins s1 σ H1 _ I1 q1;rw[hs]at hA ⊢;refine Calls.callWith_builtin (by show (false || (backTo dC (starEach es X.env)).any (·.1))=false;rw[uN]<;>rfl) (Calls.evalArgs_plain ?_);refine cH hA λus s2 zz=>?_;obtain⟨vs,H2,I2,r2,q2⟩:=zz;exact hm pins s2 σ H2 x vs v us Q I2 r1 r2 q2
end
def MtM(X:Cx)(id:String)(r:V->List V->Hp->VK->Prop):Prop :=
 ∀(pins:List (Addr×Obj)) (s:Shared) (σ:St) (H:Hp) (x:V) (xs:List V) (v:Value) (us:List Value) (Q:VK),Inv X pins σ H s->RelV x v->Vals xs us->r x xs H Q ->
  wpAny (model X.prog X.w) X.A (call (.builtin id) (v::us)) (EP X pins σ Q) X.xe s
theorem Vals.one:∀{x:V} {us:List Value},Vals [x] us->∃u,us=[u]/\RelV x u
 | _,_,.cons r .nil=>⟨_,rfl,r⟩
theorem Vals.zero:∀{us:List Value},Vals [] us->us=[]
 | _,.nil=>rfl
def Vals.dropLast{xs:List V}{us:List Value}(h:Vals xs us):Vals xs.dropLast us.dropLast:=by
 induction h with
 | nil=>exact .nil
 | cons r t ih =>
  cases t with
  | nil=>exact .nil
  | cons q t'=>exact .cons r ih
def Vals.reverse{xs:List V}{us:List Value}(h:Vals xs us):Vals xs.reverse us.reverse:=by
 induction h with
 | nil=>exact .nil
 | cons r t ih=>rw[mZ,mZ];exact Vals.append ih (.cons r .nil)
theorem Vals.rep{xs:List V}{us:List Value}(h:Vals xs us):∀k:Nat,Vals (List.replicate k xs).flatten (List.replicate k us).flatten
 | 0=>.nil
 | k+1=>by
  rw[nR,nR,m_,m_];exact Vals.append h (Vals.rep h k)
def zr3{α:Type}(l:List α):l.eraseIdx (l.length - 1)=l.dropLast:=by
 induction l with
 | nil=>rfl
 | cons a r ih =>
  cases r with
  | nil=>rfl
  | cons b r =>
   have e:(a::b::r).length - 1=((b::r).length - 1)+1:=by
    have h1:(a::b::r).length=r.length+2:=rfl;have h2:(b::r).length=r.length+1:=rfl;omega
   rw[e,List.eraseIdx_cons_succ,ih]
   all_goals rfl
theorem foldl_rep(its:List Value):∀(k:Nat) (acc:List Value),
  List.foldl (λx1 x2=>x1++x2) acc.toArray (List.replicate k its.toArray)=(acc++(List.replicate k its).flatten).toArray
 | 0,acc=>by simp
 | k+1,acc=>by
  have e:acc.toArray++its.toArray=(acc++its).toArray:=by simp
  have e2:(acc++its)++(List.replicate k its).flatten=acc++(List.replicate (k+1) its).flatten:=by
   rw[nR,m_,gP]
  rw[<-e2,<-foldl_rep its k (acc++its),<-e,nR,List.foldl_cons]
section
variable  {X:Cx}{pins:List (Addr×Obj)}{σ:St}{H:Hp}{s:Shared}{l b:Addr}{xs ys zs:List V}
def Inv.Pk{its its':List Value}{n:Nat}{f:Array Value->Array Value}{t':Nat}(I:Inv X pins σ H s)(hH:H l=some (.lst xs))
  (e:s.heap.get? l=some { cls:=.type "list",data:=.seq its.toArray n }) (hf:f its.toArray=its'.toArray) (hv:Vals ys its') (hz:ys.length<=sizeLine) :
  Inv X pins σ (upd H l (.lst ys)) { s with heap:=s.heap.update l (Obj.mapSeq f),toks:=t' }:=by
 have q:=PySem.IsL.update e f;rw[hf]at q;refine I.write (x:=l) (e:=l) (by rw[hH];exact trivial) (.inl rfl) (λb' u hb hu=>(Heap.get?_update_other s.heap (Obj.mapSeq f) (ae1 hb)).trans hu) ⟨_,q⟩ ?_;exact⟨hz,its',_,hv,q⟩
def Inv.aa9(I:Inv X pins σ H s)(hv:Vals ys its)(hz:ys.length<=sizeLine) :
  Inv X pins σ (upd H s.heap.objs.size (.lst ys)) { s with heap:=s.heap.push { cls:=.type "list",data:=.seq its.toArray },toks:=t' } :=
 I.laid (λ_ _ q=>g8 _ q) (gb _) ⟨hz,its,0,hv,gZ _ rfl⟩
def Inv.fresh(I:Inv X pins σ H s):H s.heap.objs.size=none:=I.bN.fresh (gb _)
def Inv.yZ(I:Inv X pins σ H s)(hH:H l=some (.lst xs)):xs.length<=sizeLine/\∃(its:List Value) (n:Nat),Vals xs its/\xs.length=its.length/\s.heap.get? l=some { cls:=.type "list",data:=.seq its.toArray n }:=by
 obtain⟨z,its,n,r,e⟩:=I.bN l _ hH;exact⟨z,its,n,r,r.length,e⟩
def Ii(h:n<=sizeLine):Builtin.List.listTooLong n=false:=by
 unfold Builtin.List.listTooLong;exact aeT (by omega)
end
section
variable  {X:Cx}
def N6:V->List V->Hp->VK->Prop:=λx vs H Q=>∃l xs y,x=.ref l/\vs=[y]/\H l=some (.lst xs)/\xs.length<sizeLine/\Q .non (upd H l (.lst (xs++[y])))
def zoe:MtM X "list.append" N6:=by
 intro pins s σ H x vs v us Q I rx rv h;obtain⟨l,xs,y,rfl,rfl,hH,hz,q⟩:=h;cases rx;obtain⟨u,rfl,ru⟩:=rv.one;obtain⟨z,its,n,r,hl,e⟩:=I.yZ hH;refine call_meets F.slot_list_append ⟨_,e,rfl⟩ F.entry_list_append (F.args_list_append_2 _ _) (PySem.list_append l its.toArray n u (by rw[gC];omega)) ⟨e,?_⟩;refine⟨.non,_,I.Pk (its':=its++[u]) hH e (by simp) (r.append (.cons ru .nil)) ?_,rfl,q⟩;rw[gK,nF];omega
def adb:V->List V->Hp->VK->Prop:=λx vs H Q=>∃l xs y,x=.ref l/\vs=[]/\H l=some (.lst xs)/\xs[xs.length - 1]? = some y/\Q y (upd H l (.lst xs.dropLast))
def VH:MtM X "list.pop" adb:=by
 intro pins s σ H x vs v us Q I rx rv h;obtain⟨l,xs,y,rfl,rfl,hH,hy,q⟩:=h;cases rx;have Sq:=rv.zero;subst Sq;obtain⟨z,its,n,r,hl,e⟩:=I.yZ hH;obtain⟨u,hu,ru⟩:=r.get hy;have Qp:its.toArray[its.toArray.size - 1]? = some u:=by
  show its.toArray[its.length - 1]? = some u;rw[<-Array.getElem?_toList,<-hl];exact hu
 refine call_meets F.slot_list_pop ⟨_,e,rfl⟩ F.entry_list_pop (F.args_list_pop_1 _) (MeetsSeq.list_pop_last l its.toArray n u Qp (by rw[gC];omega)) ⟨e,?_⟩;refine⟨y,_,I.Pk (its':=its.dropLast) hH e ?_ r.dropLast ?_,ru,q⟩
 ·show its.toArray.eraseIdxIfInBounds (its.toArray.size - 1)=its.dropLast.toArray;rw[gC,List.eraseIdxIfInBounds_toArray,zr3]
 ·rw[List.length_dropLast];omega
def Hl:V->List V->Hp->VK->Prop:=λx vs H Q=>∃l xs,x=.ref l/\vs=[]/\H l=some (.lst xs)/\Q .non (upd H l (.lst xs.reverse))
def zsr:MtM X "list.reverse" Hl:=by
 intro pins s σ H x vs v us Q I rx rv h;obtain⟨l,xs,rfl,rfl,hH,q⟩:=h;cases rx;have Sq:=rv.zero;subst Sq;obtain⟨z,its,n,r,hl,e⟩:=I.yZ hH;refine call_meets F.slot_list_reverse ⟨_,e,rfl⟩ F.entry_list_reverse (F.args_list_reverse_1 _) (AutoSeq1.list_reverse_list_0 l its.toArray n (by rw[gC];omega)) ⟨e,?_⟩;refine⟨.non,_,I.Pk (its':=its.reverse) hH e (by simp) r.reverse ?_,rfl,q⟩;rw[mC];omega
def U3:V->List V->Hp->VK->Prop:=λx vs H Q=>∃l xs,x=.ref l/\vs=[]/\H l=some (.lst xs)/\Q .non (upd H l (.lst []))
def Iw:MtM X "list.clear" U3:=by
 intro pins s σ H x vs v us Q I rx rv h;obtain⟨l,xs,rfl,rfl,hH,q⟩:=h;cases rx;have Sq:=rv.zero;subst Sq;obtain⟨z,its,n,r,hl,e⟩:=I.yZ hH;refine call_meets F.slot_list_clear ⟨_,e,rfl⟩ F.entry_list_clear (F.args_list_clear_1 _) (AutoSeq1.list_clear_list_0 l its.toArray n (by rw[gC];omega)) ⟨e,?_⟩;exact⟨.non,_,I.Pk (its':=[]) (ys:=[]) hH e rfl .nil (kO _),rfl,q⟩
noncomputable def ade:R2:=λx y H Q=>∃l b xs zs,x=.ref l/\y=.ref b/\H l=some (.lst xs)/\H b=some (.lst zs)/\xs.length+zs.length<=sizeLine/\∀p,H p=none->Q (.ref p) (upd H p (.lst (xs++zs)))
def Vy:d9 X (binaryOp .Add) ade:=by
 intro pins s σ H x y v u Q I rx ry h;obtain⟨l,b,xs,zs,rfl,rfl,hH,hB,hz,q⟩:=h;cases rx;cases ry;obtain⟨z,its,n,r,hl,e⟩:=I.yZ hH;obtain⟨z2,oh,n2,r2,Mp,e2⟩:=I.yZ hB;refine PySem.P.add_list e e2 ?_ (by rw[gC,gC];omega);have ea:its.toArray++oh.toArray=(its++oh).toArray:=by simp
 rw[ea];exact⟨.ref _,_,I.aa9 (t':=s.toks) (r.append r2) (by rw[gK];omega),rfl,q _ I.fresh⟩
noncomputable def ada:R2:=λx y H Q=>∃l k xs,x=.ref l/\y=.int k/\H l=some (.lst xs)/\-(2 ^ 63)<=k/\k<2 ^ 63/\xs.length*k.toNat<=sizeLine /\
 ∀p,H p=none->Q (.ref p) (upd H p (.lst (List.replicate k.toNat xs).flatten))
def len_rep{α:Type}(xs:List α)(k:Nat):(List.replicate k xs).flatten.length=k*xs.length:=by
 induction k with
 | zero=>simp
 | succ k ih=>rw[nR,m_,gK,ih,Nat.succ_mul,Nat.add_comm]
def Vu:d9 X (binaryOp .Mult) ada:=by
 intro pins s σ H x y v u Q I rx ry h;obtain⟨l,k,xs,rfl,rfl,hH,h1,h2,hz,q⟩:=h;cases rx;obtain⟨t,rfl⟩:=ry;obtain⟨z,its,n,r,hl,e⟩:=I.yZ hH;have hlen:its.toArray.size*k.toNat<=sizeLine:=by rw[gC,<-hl];exact hz
 have qL:¬ its.toArray.size*k.toNat > (2 ^ 63 - 1) / 8:=by
  have:(sizeLine:Nat)<=(2 ^ 63 - 1) / 8:=by decide
  omega
 have abz:¬ (!Builtin.List.listFitsIndex k)=true:=by
  rw[fitsIndex_both h1 h2];exact nO
 have abx:¬ Builtin.List.listTooLong (its.toArray.size*k.toNat)=true:=by
  rw[Ii hlen];exact nO
 have adN:List.foldl (λx1 x2=>x1++x2) #[] (List.replicate (if its.toArray.isEmpty=true then 0 else k.toNat) its.toArray)=(List.replicate k.toNat its).flatten.toArray:=by
  have f0:∀m:Nat,List.foldl (λx1 x2=>x1++x2) #[] (List.replicate m its.toArray)=(List.replicate m its).flatten.toArray:=λm=>by
   have:=foldl_rep its m [];rw[mL]at this;exact this
  rw[f0];cases its with
  | nil=>simp
  | cons a r'=>rw[aeS (by simp)]
 refine wpAny_binaryOp_repeat_ref (T:="list") (U:="int") (by decide) ⟨_,e,rfl⟩ (λs'=>typeIs_int s' k t) noFill_list_mul F.fills_int_mul F.slot_int_rmul repeat_list F.slot_int_index.lookup
  (call_meets F.slot_int_rmul (typeIs_int s k t) F.entry_int_rmul (F.args_int_rmul_2 _ _) (int___rmul___int_list k t l its.toArray n)
   ⟨e,rfl,⟨_,e,rfl⟩,call_meets F.slot_list_mul ⟨_,e,rfl⟩ F.entry_list_mul (F.args_list_mul_2 _ _) (AutoListH.list___mul___list_int_3 l its.toArray n k t abz qL abx) ⟨e,?_⟩⟩)
 rw[adN];exact⟨.ref _,_,I.aa9 (t':=s.toks) (r.rep k.toNat) (by rw[len_rep,Nat.mul_comm];exact hz),rfl,q _ I.fresh⟩
end
section
variable  {prog:Program}{w:World}{A:Around}{E:Value->Shared->Prop}{s:Shared}
set_option maxRecDepth 100000 in
end
section
variable  {X:Cx}
end
end L2
namespace Zw
open PySem PySem.W PySem.Calls PyProof.Rows
def zje:∀(ns:List Int) (vs:List Value),WellAll P h vs (ns.map WData.int)->IntsAre vs ns:=by
 intro ns
 induction ns with
 | nil =>
  intro vs w;rw[mQ]at w;cases w;exact .nil
 | cons n ns ih =>
  intro vs w;rw[gw]at w;cases w with
  | cons a b =>
   cases a;exact .cons _ _ (ih _ b)
def CT{l:OpenLaw}{n:Nat}(hn:l.most=some n){P:Params}{h:Heap}{args:List WData}{vals:List Value}
  (Qs:l.row.toRowW.claim.pre args=true) (hwl:WellAll P h vals args) :
  ∃a vs ns,vals=[Value.ref a]/\args=[WData.list (ns.map WData.int)]/\h.get? a=some { cls:=.type "list",data:=.seq vs.toArray }/\IntsAre vs ns/\ns.length<=n:=by
 have hsh:WShape.hasAll [] args [.list .int]=true:=(pre_splitW Qs).1;have hc:l.pre.holds [] { args:=args }=true:=(pre_splitW Qs).2;obtain⟨d,r,rfl,h1,h2⟩:=hasAllW_cons hsh;obtain rfl:=hasAllW_nil h2;obtain⟨xs,rfl,h3⟩:=hasW_list h1;obtain⟨ns,rfl⟩:=items_int h3;have hlen:ns.length<=n:=by
  unfold OpenLaw.pre at hc;have h4:(WTm.not (.lt (.lit (.int (n:Int))) (.len (.arg 0)))).holds [] { args:=[.list (ns.map .int)] }=true:=by
   have h4:=(holds_andW hc).1;rw[hn]at h4;exact h4
  have h5:=condW_of h4 (w_not (w_lt w_lit (w_len_list (w_arg rfl))));rw[gm]at h5;refine Nat.le_of_not_lt λq=>?_;have q':(n:Int)<(ns.length:Int):=by omega
  first
   | (rw[aeV q']at h5;exact absurd h5 (by decide))
   | (simp at h5;omega)
 cases hwl with
 | cons w1 w2 =>
  cases w2;cases w1 with
  | list ho tX=>exact⟨_,_,ns,rfl,rfl,ho,zje ns _ tX,hlen⟩
def Dg(l:OpenLaw)(args:List WData):l.row.toRowW.claim.post args (.bool true) args=true :=
 postW_of (r:=l.row.toRowW) (X:=(true==true))
  (show WShape.has [] (.bool true) .bool=true by first | rfl | decide | simp[WShape.has,WShape.arms,WShape.armsAll])
  (show (WTm.eq .res (.lit (.bool true))).value [] { args:=args,res:=some (.bool true),after:=args }=some (.bool (true==true)) from w_eq_bool (w_res rfl) w_lit) rfl
def zqe{l:OpenLaw}{n:Nat}{q:Program}{loose:List Str}{XP:(Str->Option Value)->Heap->Prop}{YP:World->Heap->Prop}{d:DefRec}
  (hn:l.most=some n) (hdf:d.params.defaults=[])
  (call:∀(w:World) (aeG aeF:Shared) (mg mb:Str->Option Value) (fa:Addr) (o:Obj) (pm cd doc:Value) (a:Addr) (vs:List Value) (ns:List Int),
   Ground q loose [] XP w aeG mg mb aeF.heap->YP w aeF.heap ->
   aeF.heap.get? fa=some o->o.data=.func (docDef d.name d.params d.body d.scope pm cd doc)->aeF.heap.CodeRec cd d.name->mg d.name=some (.ref fa) ->
   aeF.heap.get? a=some { cls:=.type "list",data:=.seq vs.toArray }->IntsAre vs ns->ns.length<=n->aeF.gens=#[] ->
   codeAny (model l.prog w) callerA (.call (.ref fa) ⟨[.ref a],[]⟩) (λr s'=>r=.ok (.ret (.bool true))/\OldK aeF.heap s'.heap/\s'.os=aeF.os/\AllBare s'.gens) aeF) :
  WalkO q loose XP YP l.row.toRowW d [] (λf vs=>PySem.call f vs):=by
 intro w aeG aeF mg mb G Y fa o pm cd doc dV kV ho hd xV hD hmg hg args vals as Qs hlay hrd hwl hlo;obtain rfl:dV=.none:=Dflts.none hD hdf;obtain rfl:kV=.none:=Dflts.noKw hD;obtain⟨a,vs,ns,rfl,rfl,WM,hints,hlen⟩:=CT hn Qs hwl;refine enter_call (afv (call w aeG aeF mg mb fa o pm cd doc a vs ns G Y ho (fd_plain hd) xV hmg WM hints hlen hg) λr s' hq=>?_);obtain⟨rfl,h2,h3,h4⟩:=hq;exact⟨.inl ⟨.bool true,.bool true,[],rfl,λ_=>rfl,.bool true,Dg l _,λ_=>⟨List.Pairwise.nil,λ_ hm=>(nomatch hm)⟩⟩,h2,h3,h4⟩
section
variable  {prog:Program}{w:World}{A:Around}{E:Value->Shared->Prop}{s:Shared}{K:Frag}
noncomputable def wD(h:Heap):Heap:={ h with objs:=#[] }
def zh9(h:Heap)(b:Addr):(wD h).get? b=none:=by
 cases e:(wD h).get? b with
 | none=>rfl
 | some o=>exact absurd (gq e) (Nat.not_lt_zero _)
noncomputable def ledger(h:Heap)(L d:Addr):List (Addr×Obj):=(List.range h.objs.size).filterMap λa=>if a=L\/a=d then none else (h.get? a).map λo=>(a,o)
def zlb:(a,o)∈ledger h L d↔a≠L/\a≠d/\h.get? a=some o:=by
 unfold ledger;rw[pG];constructor
 ·rintro ⟨b,_,e⟩
  split at e
  ·cases e
  ·rename_i hb;obtain⟨o',ho,e'⟩:=nG.mp e;cases e';exact⟨λq=>hb (.inl q),λq=>hb (.inr q),ho⟩
 ·rintro ⟨n1,n2,ho⟩;refine⟨a,List.mem_range.mpr (gq ho),?_⟩;rw[aeS (show ¬ (a=L\/a=d) from λq=>q.elim n1 n2),ho]<;>rfl
def zpu(uf:d≠L)(ho:h.get? d=some od):News (wD h) L h ([]++(d,od)::ledger h L d):=by
 rintro ⟨a,o⟩ hp;rcases gf.mp hp with e | hp
 ·cases e;exact⟨ho,uf,zh9 _ _⟩
 ·obtain⟨n1,n2,e⟩:=zlb.mp hp;exact⟨e,n1,zh9 _ _⟩
def Kd(n:h.Ns L m):Fr (wD h) L h m :=
 ⟨n,λb o e=>(by rw[zh9]at e;cases e),kO _⟩
end
end Zw
namespace L2
open PySem PySem.Spec PyProof.Rows
theorem zpg:∀{vs:List Value} {ns:List Int},IntsAre vs ns->Vals (ns.map V.int) vs
 | _,_,.nil=>.nil
 | _,_,.cons n t h=>.cons ⟨t,rfl⟩ (zpg h)
noncomputable abbrev KOf{K:PySem.W.Frag}{h:Heap}(_:K.In h):PySem.W.Frag:=K
noncomputable def dj(s:Stmt):Arguments:=match s with
 | .FunctionDef _ a _ _ _ _ _ _ _ _=>a
 | _=>{ posonlyargs:=[],args:=[],vararg:=none,kwonlyargs:=[],kw_defaults:=[],kwarg:=none,defaults:=[] }
noncomputable def bQ(s:Stmt):List Stmt:=match s with
 | .FunctionDef _ _ b _ _ _ _ _ _ _=>b
 | _=>[]
noncomputable def aF(s:Stmt):Scope:=match s with
 | .FunctionDef _ _ _ _ _ _ sc _ _ _=>sc
 | _=>{ kind:=.function,names:=[],isGenerator:=false,isCoroutine:=false }
noncomputable abbrev rn:Lj:=λ_ _ _ _ _ _=>False
noncomputable abbrev E0:XK:=λ_ _ _=>False
def z8:Passes rn X E0:=λ_ _ _ _ _ _ _ h=>h.elim
structure BV(K:PySem.W.Frag)(x qual:Str)(st:Stmt)(f:Addr)(fd:FuncData):Prop where
 ex:∃(oc:Value) (od:Option Addr) (kV doc pm:Value) (an:Option Addr) (iw ct:Value) (xr:Array (Option Value)),
  fd=PySem.W.fnOf x qual (dj st) (bQ st) (aF st) .none kV doc pm an iw ct/\K.lookup f=some ⟨oc,od,.func fd,xr⟩/\PySem.W.codeIn K iw qual=true
 kp:PySem.W.keepIn K (.ref f)=true
section
variable  {P:Program}{w:World}{K:PySem.W.Frag}{mg:Str->Option Value}{base:Heap}
def BV.ok{x qual:Str}{st:Stmt}{f:Addr}{fd:FuncData}{N ps:List Str}{k:Nat}{sp:Sp}(F:BV K x qual st f fd)(S:dX N ps (aF st))(len:∀vs H Q E,sp vs H Q E->vs.length=ps.length)
  (qM:∀(iw:Value) (A:Around) (outer:List Env) (s:Shared) (H:Hp) (vs:List V) (Q:VK) (E:XK),cR k (A.deeper (envOfC qual (aF st) s.heap.objs.size f iw))->sp vs H Q E ->
   ∃t,yC (vQ rn P w K mg base N qual (aF st) f iw A outer s H E).O_ (bQ st) t/\t { nx:=λ_ H'=>Q .non H',rt:=Q } (start N vs) H):cQ P w K mg base rn (k+1) f fd ps sp:=by
 obtain⟨oc,od,kV,doc,pm,an,iw,ct,xr,rfl,lk,xV⟩:=F.ex;refine S_ lk xV S len λA outer s H vs Q E hr Y5=>?_;obtain⟨t,h,q⟩:=qM iw A outer s H vs Q E hr Y5;exact⟨t,h.O_,q⟩
def BV.binds{x qual:Str}{st:Stmt}{f:Addr}{fd:FuncData}{ps:List Str}(F:BV K x qual st f fd)
  (h:∀(kV doc pm:Value) (an:Option Addr) (iw ct:Value) (us:List Value),us.length=ps.length->bindArgs (PySem.W.fnOf x qual (dj st) (bQ st) (aF st) .none kV doc pm an iw ct) ⟨us,[]⟩=pure (ps.zip us)):Binds K fd ps []:=by
 obtain⟨oc,od,kV,doc,pm,an,iw,ct,xr,rfl,lk,xV⟩:=F.ex;exact .all (h kV doc pm an iw ct)
def fun_mk{x qual:Str}{st:Stmt}{f:Addr}{oc:Value}{od an:Option Addr}{xr:Array (Option Value)}{kV doc pm iw ct:Value}(l:K.lookup f=some ⟨oc,od,.func (PySem.W.fnOf x qual (dj st) (bQ st) (aF st) .none kV doc pm an iw ct),xr⟩)
  (c:PySem.W.codeIn K iw qual=true) (k:PySem.W.keepIn K (.ref f)=true):BV K x qual st f (PySem.W.fnOf x qual (dj st) (bQ st) (aF st) .none kV doc pm an iw ct):=⟨⟨oc,od,kV,doc,pm,an,iw,ct,xr,rfl,l,c⟩,k⟩
end
def Ss(hr:cR k A):A.units+1<cLine:=Nat.lt_of_le_of_lt (Nat.add_le_add_left (by decide:1<=64) _) hr.units
section
variable  {X:Cx}
end
def xQ{A B:Prop}(h:B):if false=true then A else B:=by
 rw[aeS nO];exact h
def xP{A B:Prop}(h:A):if true=true then A else B:=by
 rw[aeQ rfl];exact h
def Xo(lo:Nat)(e C dx:Addr)(fl:Option Value)(H:Hp)(h:Heap):Prop :=
 lo<=e/\H e=none/\∃oe vs,h.get? e=some oe/\oe.cls=.ref C/\oe.dict=some dx/\oe.data=.fields vs/\1<vs.size /\
  match fl with
  | none=>vs[1]? = some .none
  | some v=>∃T oT ts,vs[1]? = some (.ref T)/\lo<=T/\T≠e/\H T=none/\h.get? T=some oT/\oT.data=.fields ts/\ts[3]? = some v
section
variable  {X:Cx}
def HY:d9 X (binaryOp .FloorDiv) (rI (λ_ j=>0<j/\j<2 ^ 64) λi j=>.int (i / j)):=by
 refine opI λi j t u s Q E hc h=>?_;obtain⟨h0,h1⟩:=hc;have e:i.fdiv j=i / j:=Int.fdiv_eq_ediv_of_nonneg i (Int.le_of_lt h0);refine floordiv_int (by omega) (by rw[e];exact h) (.inl (PyProof.noPylong_of_log2 ?_));have h2:j.natAbs<2 ^ 64:=by omega
 have h3:j.natAbs≠0:=by omega
 have:=(Nat.log2_lt h3).mpr h2;omega
def KY{prog:Program}{w:World}{A:Around}{E:Value->Shared->Prop}{s:Shared}{t b:Addr}{ws:List Value}{Q:Value->Shared->Prop}(ht:IsTup s.heap t #[])(hb:IsTup s.heap b ws.toArray)
  (h1:Q (.ref b) s):wpAny (model prog w) A (binaryOp .Add (.ref t) (.ref b)) Q E s:=by
 obtain⟨⟨cls,dd,data,sl⟩,ho,hc,n,hd⟩:=id ht;obtain⟨⟨aea,dd2,data2,sl2⟩,J1,W8,n2,hd2⟩:=id hb;simp only at hc hd W8 hd2;subst hc hd W8 hd2;exact concat_meets ⟨_,ho,rfl⟩ ⟨_,J1,rfl⟩ noFill_tuple_add seq_tuple_add afy afu (afs _ _)
   (tuple_addW0 t b #[] ws.toArray n n2 dd dd2 sl sl2 (by simp)) ⟨ho,J1,h1⟩
noncomputable def U4(K:PySem.W.Frag):R2:=λx y H Q=>∃a b ys,x=.ref a/\y=.ref b/\lR K H a []/\lR K H b ys/\Q (.ref b) H
def Ib:d9 X (binaryOp .Add) (U4 X.K):=by
 intro pins s σ H x y v u Q I rx ry h;obtain⟨a,b,ys,rfl,rfl,ha,hb,q⟩:=h;cases rx;cases ry;obtain⟨its,r1,p1,_⟩:=I.tuple ha;obtain⟨oh,r2,p2,_⟩:=I.tuple hb;cases r1;exact KY p1 p2 ⟨.ref b,H,I,rfl,q⟩
end
end L2
namespace HT
open PySem PyProof.Rows
section
variable  {prog:Program}{w:World}{A:Around}{E:Value->Shared->Prop}{s:Shared}
def zgn{t sl:Addr}{items:Array Value}{vl vu:Value}{lo hi:Option Int}{Q:Value->Shared->Prop}(ht:IsTup s.heap t items)(hs:s.heap.IsSliceOf sl vl vu .none)(pl:IsPart vl lo)(pu:IsPart vu hi)
  (hw:dh items.size 0 lo=0/\dh items.size items.size hi=items.size)
  (h:Q (.ref t) s):wpAny (model prog w) A (getItem (.ref t) (.ref sl)) Q E s:=by
 obtain⟨os,WL,hcs,Sx⟩:=id hs;have hTs:s.TypeIs (.ref sl) "slice":=⟨os,WL,hcs⟩;unfold getItem
 try with_reducible refine afi ?_
 first | refine aeP (aeR ?_) | skip
 refine aeP (wpAny_sequenceKey ht.typeIs (by decide) ?_);refine aeP (ae_ (name:=Str.ofString "__getitem__") ht.typeIs ae6
  (afn ae6 ht.typeIs entry_tuple_getitem ?_ (args_tuple_getitem _ _)))
 show wpAny _ _ (Builtin.Tuple.tupleItemsOf (.ref t) >>= _) _ _ s;refine aeP (tupleItemsOf_ ht ?_);refine aeP (wpAny_typeOf hTs ?_);rw[aeQ (by decide)];refine aeP (ze0 hs pl pu ?_);have Y7:((((dh items.size 0 lo:Nat):Int)==0 && (1:Int)==1 && (dh items.size items.size hi - dh items.size 0 lo)==items.size)=true):=by
  rw[hw.1,hw.2];simp
 show wpAny _ _ (if (((dh items.size 0 lo:Nat):Int)==0 && (1:Int)==1 && (dh items.size items.size hi - dh items.size 0 lo)==items.size)=true then _ else _) _ _ s;rw[aeQ Y7];unfold Builtin.Tuple.tupleIsExact;refine aeP (aeP (wpAny_typeOf ht.typeIs ?_));refine aeR ?_;rw[aeQ (by decide)];exact aeP (wpAny_rule (aeR ⟨_,rfl,aeR h⟩))
end
end HT
namespace L2
open PySem PySem.Spec PyProof.Rows
section
variable  {X:Cx}
def aaI(K:PySem.W.Frag):V->Option Int->Option Int->Hp->VK->Prop:=λx lo hi H Q=>∃a xs,x=.ref a/\lR K H a xs /\
 (HT.dh xs.length 0 lo=0/\HT.dh xs.length xs.length hi=xs.length)/\Q (.ref a) H
def Nk:yf X (aaI X.K):=by
 intro pins s σ H x v vl vu lo hi sl Q I rx hs pl pu h;obtain⟨a,xs,rfl,hx,hw,q⟩:=h;cases rx;obtain⟨its,r,ht,hz⟩:=I.tuple hx;have hlen:its.toArray.size=xs.length:=by rw[gC];exact r.length.symm
 refine⟨"tuple",_,PyProof.Rows.slot_tuple_getitem.lookup,ht.typeIs,?_⟩;exact HT.zgn ht hs pl pu (by rw[hlen];exact hw) ⟨.ref a,H,I,rfl,q⟩
end
section
variable  {X:Cx}{pins:List (Addr×Obj)}{σ:St}{H:Hp}{s:Shared}{h':Heap}{t':Nat}
def Inv.zQ{ch:List Addr}{a:Addr}{o:HO}(I:Inv X pins σ H s)(hf:∀b∈ch,p_ X pins H b)(k:∀b ob,b∉ch->s.heap.get? b=some ob->h'.get? b=some ob)(hp:s.heap.objs.size<=a)
  (new:bY X.prog X.w (upd H a o) h' a o):Inv X pins σ (upd H a o) { s with heap:=h',toks:=t' }:=by
 have hn:H a=none:=I.bN.fresh hp;have Im:∀b u,H b=some u->b∉ch:=λb u e hb=>by rw[(hf b hb).1]at e;cases e
 have na:∀b u,H b=some u->b≠a:=λb u e=>yJ e hn;refine I.step (g':=s.gens) (d':=s.drawn) (ch:=ch) (λb hb=>?_) (λb o _ _ hc e _=>k b o hc e) (λb o _ _ hc e _=>⟨o.slots,k b o hc e⟩)
  (λb o _ e n=>by rw[iy (gY (gQ (gq e) hp))];exact n)
  (λb o hc e=>⟨o,k b o hc e⟩) (λb xs e=>by rw[iy (na b _ e)];exact e) (λb o u e=>by rw[iy (na b _ e)];exact e) (λb ps e=>⟨#[],by rw[iy (na b _ e),e];simp⟩) (λm hm=>?_) (λb u e=>?_) I.bare
 ·obtain⟨f0,f1,f2,f3,f4,f5⟩:=hf b hb;exact⟨f3,f1,f4,f5⟩
 ·obtain⟨ob,es,ep,ho,r⟩:=hm;exact⟨ob,es,ep,k _ ob (λz=>(hf _ z).2.1 rfl) ho,r⟩
 ·by_cases hb:b=a
  ·subst hb;rw[rm]at e;cases e;exact new
  ·rw[iy hb]at e;refine (I.bN b u e).tO (λc v hc q=>k c v ?_ q) (λc q=>by rw[iy (na c _ q)];exact q) λc xs q=>by rw[iy (na c _ q)];exact q
   rcases hc with z | z
   ·rw[z];exact Im b u e
   ·exact Im c _ z
def Inv.turns{ch:List Addr}(I:Inv X pins σ H s)(hf:∀b∈ch,p_ X pins H b)(k:∀b ob,b∉ch->s.heap.get? b=some ob->h'.get? b=some ob):Inv X pins σ H { s with heap:=h',toks:=t' }:=by
 have Im:∀b u,H b=some u->b∉ch:=λb u e hb=>by rw[(hf b hb).1]at e;cases e
 refine I.step (g':=s.gens) (d':=s.drawn) (ch:=ch) (λb hb=>?_) (λb o _ _ hc e _=>k b o hc e) (λb o _ _ hc e _=>⟨o.slots,k b o hc e⟩)
  (λb o _ e n=>n) (λb o hc e=>⟨o,k b o hc e⟩) (λb xs e=>e) (λb o u e=>e) (λb ps e=>⟨#[],by rw[e];simp⟩) (λm hm=>?_) (λb u e=>?_) I.bare
 ·obtain⟨f0,f1,f2,f3,f4,f5⟩:=hf b hb;exact⟨f3,f1,f4,f5⟩
 ·obtain⟨ob,es,ep,ho,r⟩:=hm;exact⟨ob,es,ep,k _ ob (λz=>(hf _ z).2.1 rfl) ho,r⟩
 ·refine (I.bN b u e).tO (λc v hc q=>k c v ?_ q) (λc q=>q) λc xs q=>q;rcases hc with z | z
  ·rw[z];exact Im b u e
  ·exact Im c _ z
end
noncomputable def Ite(K:PySem.W.Frag)(a:Addr):It :=
 ⟨λi H=>∃xs x,lM K H a xs/\xs[i]? = some x,
  λi H y H'=>∃p x,H p=none/\y=.ref p/\H'=upd H p (.tup [.int i,x])/\∀xs,lM K H a xs->xs[i]? = some x,
  λi H=>∃xs,lM K H a xs/\xs.length<=i⟩
def Cw{P:Program}{w:World}{K:PySem.W.Frag}{elts:List Expr}{x1:Nat}{pos:Pos}(a e it:Addr)(uf:e≠it) :
  Turn P w K (.Tuple elts x1 pos) (Ite K a) [e,it] e (λi h=>∃old,IsEnum h e it (i:Int) old/\h.IsListIter it a i) where
 mem:=by simp
 obj:=λi h st b hb=>by
  obtain⟨old,h1,h2⟩:=st;rcases gf.mp hb with rfl | hb
  ·exact⟨_,h1,λv z=>by cases z⟩
  ·have e:b=it:=by simpa using hb
   subst e;obtain⟨o,q,c,d⟩:=h2;exact⟨o,q,λv z=>by rw[d]at z;cases z⟩
 keep:=λi h h' st k=>by
  obtain⟨old,h1,h2⟩:=st;exact⟨old,k e (by simp) _ h1,h2.at λo q=>k it (by simp) o q⟩
 item:=by
  intro X hP hw hK hc i pins s σ H E I hf st hg;subst hP hw hK;obtain⟨xs,x,hq,hx⟩:=hg;obtain⟨old,h1,h2⟩:=st;obtain⟨its,rv,p,hz⟩:=I.list hq;obtain⟨u,hu,ru⟩:=rv.get hx;refine wpAny_pyNext_enum_item h1 h2 p.isList (x:=u) (by simpa using hu) uf λaeN Mq hit ht hsz hk=>?_;refine⟨_,rfl,wpAny_letOwnedTupleGo_enum Mq λaeM adU J0=>?_⟩;replace J0:Heap.SameBut e aeN aeM:=J0;have yx:e<s.heap.objs.size:=gq h1;have Ws:it<s.heap.objs.size:=by obtain⟨o,q,_⟩:=h2;exact gq q
  have ht2:aeM.get? s.heap.objs.size=some { cls:=.type "tuple",data:=.seq #[.int i s.toks,u] }:=by rw[J0.2 _ (mK yx)];exact ht
  have kk:∀b ob,b∉[e,it]->s.heap.get? b=some ob->aeM.get? b=some ob:=λb ob hb q=>by
   have b1:b≠e:=λz=>hb (by simp[z]);have b2:b≠it:=λz=>hb (by simp[z]);exact J0.extBut b ob b1 (hk b ob b1 b2 q)
  refine⟨.ref s.heap.objs.size,upd H s.heap.objs.size (.tup [.int i,x]),I.zQ hf kk (gb _) ?_,rfl,⟨_,x,I.bN.fresh (gb _),rfl,rfl,λys hy=>by rw[I.uH hy hq];exact hx⟩,?_,λb hb=>?_⟩
  ·refine⟨by show 2<=sizeLine;decide,[.int i s.toks,u],.cons ⟨_,rfl⟩ (.cons ru .nil),?_⟩;exact⟨_,ht2,rfl,_,rfl⟩
  ·refine⟨u,?_,hit.extBut J0.extBut (ae1 uf)⟩;have:(i:Int)+1=((i+1:Nat):Int):=by omega
   rw[<-this];exact adU
  ·rw[iy]
   ·exact (hf b hb).1
   ·intro z;subst z;rcases gf.mp hb with z | z
    ·exact mK yx z
    ·exact mK Ws (by simpa using z)
 done:=by
  intro X hP hw hK hc i pins s σ H E I hf st hg;subst hP hw hK;obtain⟨xs,hq,hx⟩:=hg;obtain⟨old,h1,h2⟩:=st;obtain⟨its,rv,p,hz⟩:=I.list hq;have hl:=rv.length;exact wpAny_pyNext_enum_end (I.ok.hd hc) h1 h2 p.isList (by simp;omega) λh' eb=>⟨rfl,I.turns (t':=s.toks) (ch:=[e,it]) hf λb o hb q=>eb b o (λz=>hb (by simp[z])) q⟩
 self:=λ_ _ _ _ _ st h=>by
  obtain⟨old,h1,h2⟩:=st;exact wpAny_pyIter_enum h1 h
noncomputable def abq(K:PySem.W.Frag)(ta:TA):TI:=fun σ H R=>ta σ H λvs H1=>∃a,vs=[.ref a]/\(∃xs,lM K H1 a xs)/\R (Ite K a) H1
def zoj:bootBuiltins "enumerate" = some (.type "enumerate"):=by decide +kernel
def Om{X:Cx}{elts:List Expr}{x1:Nat}{wu:Pos}{a:Expr}{ta:TA}{p pos:Pos}(hg:Gl X "enumerate")(hm:X.mg "enumerate" = none)(ha:PA X [a] ta)(hs:starEach [a] X.env=[(false,eval a X.env)]:=by rfl) :
  PI X (.Tuple elts x1 wu) (.Call (.Name "enumerate" p) [a] [] pos) (abq X.K ta):=by
 intro pins s σ H R I h;refine Call_ (Mu I hg hm zoj (aeY (cH (ha pos pins s σ H _ I h) λus s1 zz=>?_) hs rfl));obtain⟨vs,H1,I1,r1,q1⟩:=zz;obtain⟨l,e,⟨xs,hq⟩,q⟩:=q1;subst e;cases r1 with
 | cons r rr =>
  cases rr;cases r;obtain⟨its,rv,pl,hz⟩:=I1.list hq;refine call_enumerate_list pl.isList λh' he hit hsz hk=>?_;refine wpAny_pyIter_enum he ?_;have I2:Inv X pins σ H1 { s1 with heap:=h' }:=I1.kept (t':=s1.toks) hk;refine⟨s1.heap.objs.size+1,[s1.heap.objs.size+1,s1.heap.objs.size],_,_,H1,rfl,I2,Cw l _ _ (mK (nQ _)),⟨.none,he,hit⟩,λb hb=>?_,q⟩;have iM:s1.heap.objs.size<=b:=by
   rcases gf.mp hb with z | z
   ·rw[z];exact Nat.le_succ _
   ·have:b=s1.heap.objs.size:=by simpa using z
    rw[this];exact gb _
  exact I1.uQ iM (I1.bN.fresh iM)
noncomputable def Itv(K:PySem.W.Frag)(a:Addr)(n:Nat):It :=
 ⟨λi H=>∃xs x,lM K H a xs/\xs.length=n/\i<n/\xs[n - 1 - i]? = some x,λi H x H'=>H'=H/\∀xs,lM K H a xs->xs[n - 1 - i]? = some x,λi H=>(∃xs,lM K H a xs/\xs.length=n)/\i=n⟩
def GC{P:Program}{w:World}{K:PySem.W.Frag}{tg:Expr}(a it:Addr)(n:Nat):Turn P w K tg (Itv K a n) [it] it (λi h=>h.IsRevIter it a ((n:Int) - 1 - (i:Nat))) where
 mem:=by simp
 obj:=λi h st b hb=>by
  have e:b=it:=by simpa using hb
  subst e;obtain⟨o,e,c,d⟩:=st;exact⟨o,e,λv z=>by rw[d]at z;cases z⟩
 keep:=λi h h' st k=>st.at λo e=>k it (by simp) o e
 item:=by
  intro X hP hw hK hc i pins s σ H E I hf st hg;subst hP hw hK;obtain⟨xs,x,hq,hn,hi,hx⟩:=hg;obtain⟨its,rv,p,hz⟩:=I.list hq;obtain⟨u,hu,ru⟩:=rv.get hx;obtain⟨f0,f1,f2,f3,f4,f5⟩:=hf it (by simp);have ei:(n:Int) - 1 - (i:Nat)=((n - 1 - i:Nat):Int):=by omega
  rw[ei]at st;refine wpAny_pyNext_rev_item st p.isList (x:=u) (by simpa using hu) λh' st' sb=>?_;have I1:Inv X pins σ H { s with heap:=h' }:=I.turned (t':=s.toks) (λb o hb e=>(sb.2 b hb).trans e) f0 f1 f3 f4 f5;obtain⟨o,e,c,d⟩:=id st';refine⟨u,rfl,su (s:={ s with heap:=h' }) e c d (by decide) ⟨x,H,I1,ru,⟨rfl,λys hy=>by rw[I.uH hy hq];exact hx⟩,?_,λb hb=>(hf b hb).1⟩⟩;have e2:(n:Int) - 1 - ((i+1:Nat))=((n - 1 - i:Nat):Int) - 1:=by omega
  rw[e2];exact st'
 done:=by
  intro X hP hw hK hc i pins s σ H E I hf st hg;subst hP hw hK;obtain⟨⟨xs,hq,hn⟩,hi⟩:=hg;obtain⟨f0,f1,f2,f3,f4,f5⟩:=hf it (by simp);have ei:(n:Int) - 1 - (i:Nat)=-1:=by omega
  rw[ei]at st;exact wpAny_pyNext_rev_end (I.ok.hd hc) st λh' eb=>⟨rfl,I.turned (t':=s.toks) (λb o hb e=>eb b o hb e) f0 f1 f3 f4 f5⟩
 self:=λ_ _ _ _ _ st h=>wpAny_pyIter_revIter st h
noncomputable def adF(K:PySem.W.Frag)(ta:TA):TI:=fun σ H R=>ta σ H λvs H1=>∃a xs,vs=[.ref a]/\lM K H1 a xs/\R (Itv K a xs.length) H1
def zm2:bootBuiltins "reversed" = some (.type "reversed"):=by decide +kernel
def Ve{X:Cx}{tg a:Expr}{ta:TA}{p pos:Pos}(hg:Gl X "reversed")(hm:X.mg "reversed" = none)(ha:PA X [a] ta)(hs:starEach [a] X.env=[(false,eval a X.env)]:=by rfl) :
  PI X tg (.Call (.Name "reversed" p) [a] [] pos) (adF X.K ta):=by
 intro pins s σ H R I h;refine Call_ (Mu I hg hm zm2 (aeY (cH (ha pos pins s σ H _ I h) λus s1 zz=>?_) hs rfl));obtain⟨vs,H1,I1,r1,q1⟩:=zz;obtain⟨l,xs,e,hq,q⟩:=q1;subst e;cases r1 with
 | cons r rr =>
  cases rr;cases r;obtain⟨its,rv,pl,hz⟩:=I1.list hq;refine call_reversed_list pl.isList ?_;have st:(s1.heap.push (revObj l ((its.toArray.size:Int) - 1))).IsRevIter s1.heap.objs.size l ((xs.length:Int) - 1 - ((0:Nat):Int)):=by
   refine⟨_,gZ _ rfl,rfl,?_⟩;have e1:(its.toArray.size:Int) - 1=(xs.length:Int) - 1 - ((0:Nat):Int):=by rw[gC,<-rv.length];omega
   rw[<-e1];rfl
  refine wpAny_pyIter_revIter st ?_;refine⟨s1.heap.objs.size,[s1.heap.objs.size],_,_,H1,rfl,I1.kept (t':=s1.toks) λb o e=>g8 _ e,GC l _ xs.length,st,λb hb=>?_,q⟩;have e:b=s1.heap.objs.size:=by simpa using hb
  subst e;exact I1.uQ (gb _) (I1.bN.fresh (gb _))
def zlj(h:∀x∈scope.names,x.2=.free->∃c,env.cells.lookup x.1=some c) :
  ∃cl,closureFor scope env=pure cl/\(∀x c,cl.lookup x=some c->env.cells.lookup x=some c)/\∀x,(x,NameKind.free)∈scope.names->∃c,cl.lookup x=some c:=by
 have key:∀(names:List (Str×NameKind)) (acc:List (Str×Addr)),(∀x∈names,x.2=.free->∃c,env.cells.lookup x.1=some c)->(∀x c,acc.lookup x=some c->env.cells.lookup x=some c) ->
   ∃cl,(forIn names acc λ(x:Str×NameKind) (cs:List (Str×Addr))=>(if x.2 == .free then do let a <-cellOf env x.1;pure (ForInStep.yield ((x.1,a)::cs)) else pure (ForInStep.yield cs):Sem _))=pure cl/\(∀x c,cl.lookup x=some c->env.cells.lookup x=some c) /\
    (∀x,(x,NameKind.free)∈names->∃c,cl.lookup x=some c)/\∀x c,acc.lookup x=some c->∃c',cl.lookup x=some c':=by
  intro names
  induction names with
  | nil=>intro acc _ ha;exact⟨acc,rfl,ha,⟨(λx hx=>nomatch hx),λx c q=>⟨c,q⟩⟩⟩
  | cons y r ih =>
   intro acc hn ha;obtain⟨n,k⟩:=y;have hr:∀x∈r,x.2=.free->∃c,env.cells.lookup x.1=some c:=λx hx=>hn x (kI _ hx);by_cases hk:k=.free
   ·subst hk;obtain⟨c,hc⟩:=hn (n,.free) (by simp) rfl;have ha':∀x c',((n,c)::acc).lookup x=some c'->env.cells.lookup x=some c':=λx c' q=>by
     rw[km]at q;cases e:x==n with
     | true=>rw[e]at q;cases q;rw[eq_of_beq e];exact hc
     | false=>rw[e]at q;exact ha x c' q
    obtain⟨cl,h1,h2,h3,h4⟩:=ih ((n,c)::acc) hr ha';refine⟨cl,?_,h2,λx hx=>?_,λx c' q=>?_⟩
    ·rw[List.forIn_cons];simp only[beq_self_eq_true,if_true,cellOf,hc];exact h1
    ·rcases gf.mp hx with e | hx
     ·cases e;exact h4 n c (by simp)
     ·exact h3 x hx
    ·cases e:x==n with
     | true=>exact h4 x c (by rw[km,e])
     | false=>exact h4 x c' (by rw[km,e];exact q)
   ·have hb:(k==NameKind.free)=false:=by simpa using hk
    obtain⟨cl,h1,h2,h3,h4⟩:=ih acc hr ha;refine⟨cl,?_,h2,λx hx=>?_,h4⟩
    ·rw[List.forIn_cons];simp only[hb,Bool.false_eq_true,if_false];exact h1
    ·rcases gf.mp hx with e | hx
     ·cases e;exact absurd rfl hk
     ·exact h3 x hx
 obtain⟨cl,h1,h2,h3,_⟩:=key scope.names [] h (λx c q=>by simp at q);refine⟨cl,?_,h2,h3⟩;unfold closureFor;show (forIn scope.names [] (λ(x:Str×NameKind) (cs:List (Str×Addr))=>(if x.2 == .free then do let a <-cellOf env x.1;pure (ForInStep.yield ((x.1,a)::cs)) else pure (ForInStep.yield cs):Sem _)) >>= λcs=>pure cs)=pure cl;rw[h1]
 rfl
theorem zdi{f:Str×NameKind->Str×NameKind}(h1:∀p,(f p).1=p.1):∀{names:List (Str×NameKind)} {x:Str},(names.map f).lookup x=(names.lookup x).map λk=>(f (x,k)).2
 | [],_=>rfl
 | (n,j)::r,x=>by
  rw[gw];have e:f (n,j)=(n,(f (n,j)).2):=by
   have:=h1 (n,j);exact Prod.ext this rfl
  rw[e,km,km];cases hx:x==n with
  | true=>rw[eq_of_beq hx];rfl
  | false=>exact zdi h1
noncomputable def yN(env:Env)(p:Str×NameKind):Str×NameKind:=if (p.2 == .free && env.scope.kind == .function && env.kindOf p.1==some .cell)=true then (p.1,.cell) else (p.1,p.2)
def ztl(env:Env)(p:Str×NameKind):(yN env p).1=p.1:=by unfold yN;split<;>rfl
def zs4(env:Env)(p:Str×NameKind):(yN env p).2=p.2\/(p.2=.free/\(yN env p).2=.cell):=by
 unfold yN
 split
 ·rename_i h;rw[gM,gM]at h;exact .inr ⟨eq_of_beq h.1.1,rfl⟩
 ·exact .inl rfl
def zhd(scope:Scope)(env:Env):(relabel scope env).names=scope.names.map (yN env):=rfl
def zf9{scope:Scope}{env:Env}{x:Str}{k:NameKind}(h:(relabel scope env).names.lookup x=some k):scope.names.lookup x=some k\/(scope.names.lookup x=some .free/\k=.cell):=by
 rw[zhd,zdi (ztl env)]at h;cases e:scope.names.lookup x with
 | none=>rw[e]at h;cases h
 | some j =>
  rw[e]at h;have h':(yN env (x,j)).2=k:=aeU h;rcases zs4 env (x,j) with q | ⟨q1,q2⟩
  ·rw[q]at h';exact .inl (by rw[<-h'])
  ·rw[q2]at h';exact .inr ⟨by rw[show j=NameKind.free from q1],h'.symm⟩
def zga{scope:Scope}{env:Env}{x:Str}(h:scope.names.lookup x=some .free):(relabel scope env).names.lookup x=some .cell\/(relabel scope env).names.lookup x=some .free:=by
 rw[zhd,zdi (ztl env),h];rcases zs4 env (x,.free) with q | ⟨_,q⟩
 ·exact .inr (by rw[Option.map_some,q])
 ·exact .inl (by rw[Option.map_some,q])
theorem mem_of_lookup[BEq α][LawfulBEq α]:∀{l:List (α×β)},l.lookup x=some k->(x,k)∈l
 | [],h=>by simp at h
 | (n,j)::r,h=>by
  rw[km]at h;cases e:x==n with
  | true=>rw[e]at h;cases h;rw[eq_of_beq e];simp
  | false=>rw[e]at h;exact kI _ (mem_of_lookup h)
noncomputable def cX(X:Cx)(N:List Str)(scope:Scope)(cl:List (Str×Addr))(C:Addr)(fp:List Addr)(s:Shared)(H:Hp):Cx :=
 { X with N:=N,aeG:=s,aeO:=H,env:=compEnvC scope cl C X.env,outer:=X.stack,stack:=X.stack,ex:=fp,fn:=λ_=>false,pn:=[],xe:=λ_ _=>False }
structure fJ(scope:Scope):Prop where
 kind:scope.kind=.function
 cell:∀y∈scope.names,y.2≠.cell
 names:∀y∈scope.names,y.2=.local->scope.names.lookup y.1=some .local
def jY(X:Cx)(scope:Scope):List (Option Nat)->List Str->Prop
 | [],[]=>True
 | none::r,_::xs=>jY X scope r xs
 | some j::r,x::xs=>(X.N[j]? = some x/\(X.env.kindOf x=some .cell\/X.env.kindOf x=some .free)/\scope.names.lookup x=some .free)/\jY X scope r xs
 | _,_=>False
noncomputable def ji(capt:List (Option Nat))(σ:St):St:=capt.map λo=>o.bind λj=>(σ[j]?).join
theorem jY.len:∀{capt:List (Option Nat)} {N:List Str},jY X scope capt N->capt.length=N.length
 | [],[],_=>rfl
 | none::r,_::xs,h=>by simp[jY.len (show jY X scope r xs from h)]
 | some j::r,x::xs,h=>by simp[jY.len h.2]
 | [],_::_,h=>h.elim
 | none::_,[],h=>h.elim
 | some _::_,[],h=>h.elim
theorem jY.at_:∀{capt:List (Option Nat)} {N:List Str} {i j:Nat} {x:Str},jY X scope capt N->capt[i]? = some (some j)->N[i]? = some x ->
  X.N[j]? = some x/\(X.env.kindOf x=some .cell\/X.env.kindOf x=some .free)/\scope.names.lookup x=some .free
 | [],[],_,_,_,_,e,_=>by simp at e
 | none::r,y::xs,0,_,_,_,e,_=>by simp at e
 | none::r,y::xs,i+1,_,_,h,e,e2=>jY.at_ (i:=i) (show jY X scope r xs from h) (by simpa using e) (by simpa using e2)
 | some k::r,y::xs,0,_,_,h,e,e2=>by
  simp at e e2;subst e e2;exact h.1
 | some k::r,y::xs,i+1,_,_,h,e,e2=>jY.at_ (i:=i) h.2 (by simpa using e) (by simpa using e2)
 | [],_::_,_,_,_,h,_,_=>h.elim
 | none::_,[],_,_,_,h,_,_=>h.elim
 | some _::_,[],_,_,_,h,_,_=>h.elim
section
variable  {X:Cx}{pins:List (Addr×Obj)}{σ:St}{H:Hp}{s:Shared}{N:List Str}{scope:Scope}{cl:List (Str×Addr)}{C:Addr}{fp:List Addr}{capt:List (Option Nat)}
def QS(I:Inv X pins σ H s)(S:fJ scope)(tW:∀x c,cl.lookup x=some c->X.env.cells.lookup x=some c)(tX:∀x,(x,NameKind.free)∈scope.names->∃c,cl.lookup x=some c)
  (hC:s.heap.objs.size<=C) (hf:∀b∈fp,p_ X pins H b) (hb:∀b∈fp,b<s.heap.objs.size):(cX X N scope cl C fp s H).Ok where
 mod:=I.ok.mod
 kind:=S.kind
 glob:=I.ok.glob
 blt:=I.ok.blt
 above:=hC
 inj:=λx y c h1 h2=>I.ok.inj x y c (tW x c h1) (tW y c h2)
 has:=λx hx=>by
  have q:scope.names.lookup x=some .free:=by
   rcases hx with hx | hx
   ·rcases zf9 hx with e | ⟨e,_⟩
    ·exact absurd rfl (S.cell _ (mem_of_lookup e))
    ·exact e
   ·rcases zf9 hx with e | ⟨e,_⟩
    ·exact e
    ·exact e
  exact tX x (mem_of_lookup q)
 Tp:=λx c h=>by cases h
 hd:=I.ok.hd
 frames:=I.ok.frames
 stk:=.inl rfl
 exf:=λb iM=>⟨gY (gQ (hb b iM) hC),λx c h=>(hf b iM).2.2.2.2.1 x c (tW x c h)⟩
 bs:=I.bs
 Fi:=h_ I.ok.Fi I.sz
 Dl:=λb o e iM=>by
  rcases (hf b iM).2.2.2.1 with z | z
  ·exact I.ok.Dl b o e z
  ·exact absurd (gq e) (Nat.not_lt.mpr (h_ I.ok.Fi z))
 Km:=λb iM z=>by
  rcases gf.mp (I.uB b z) with e | e
  ·exact (hf b iM).2.1 e
  ·exact (hf b iM).2.2.1 e
 oA:=I.stack
 Ka:=I.zW
def KH(I:Inv X pins σ H s)(S:fJ scope)(tW:∀x c,cl.lookup x=some c->X.env.cells.lookup x=some c)(tX:∀x,(x,NameKind.free)∈scope.names->∃c,cl.lookup x=some c) 
  (hC:s.heap.objs.size<=C) (hf:∀b∈fp,p_ X pins H b) (hb:∀b∈fp,b<s.heap.objs.size) (qL:jY X scope capt N) (hn:h'.Ns C m) (hk:∀b o,s.heap.get? b=some o->h'.get? b=some o) :
  Inv (cX X N scope cl C fp s H) [] (ji capt σ) H { s with heap:=h',toks:=t' } where
 ok:=QS I S tW tX hC hf hb
 os:=rfl
 bare:=I.bare
 base:=Un.kept hk
 loc:=by
  refine⟨m,hn,λi x v hN hv aey=>?_⟩;have hN':N[i]? = some x:=hN;unfold ji at hv;rw[gB]at hv;cases e:capt[i]? with
  | none=>rw[e]at hv;cases hv
  | some o =>
   rw[e]at hv;cases o with
   | none=>cases hv
   | some j =>
    have zq:(σ[j]?).join=some v:=by simpa using hv
    have hv2:σ[j]? = some (some v):=by
     cases q:σ[j]? with
     | none=>rw[q]at zq;cases zq
     | some z=>rw[q]at zq;cases zq;rfl
    obtain⟨h1,h2,h3⟩:=qL.at_ e hN';obtain⟨m0,hm0,hl⟩:=I.loc;have hvx:Vis X.env.scope x:=by
     rcases h2 with h2 | h2
     ·exact .inr (.inl h2)
     ·exact .inr (.inr h2)
    obtain⟨u,r,lk⟩:=hl j x v h1 hv2 hvx;refine⟨u,r,?_⟩;rcases lk with⟨k1,_⟩ | ⟨_,c,k2,k3⟩
    ·rcases h2 with h2 | h2<;>(rw[h2]at k1;cases k1)
    ·obtain⟨c',W9⟩:=tX x (mem_of_lookup h3);have:=tW x c' W9;rw[k2]at this;cases this;refine .inr ⟨zga h3,c,W9,?_⟩;obtain⟨o,e1,e2⟩:=k3;exact⟨o,hk c o e1,e2⟩
 cell:=λx c h=>by
  obtain⟨v,o,e1,e2⟩:=I.cell x c (tW x c h);exact⟨v,o,hk c o e1,e2⟩
 free:=I.bN.fresh hC
 jr:=λx c h=>I.jr x c (tW x c h)
 pin:=λp hp=>by simp[cX]at hp
 bN:=I.bN.kept hk
 len:=by show (ji capt σ).length=N.length;unfold ji;rw[gm];exact qL.len
end
noncomputable abbrev zT(ifs:List Expr)(env:Env):Sem Bool:=forIn ifs true λc r=>if r=true then do let ok <-isTrue c env (eval c env);pure (ForInStep.yield ok) else pure (ForInStep.yield r)
theorem zne(I:Nat->Shared->Prop) 
  (turn:∀n s,I n s->wpAny (model prog w) A (pyNext it) (λr aeF=>match r with
   | none=>R (.ok .next) aeF
   | some v=>wpAny (model prog w) A (letOwnedTupleGo target it v) (λ_ aeh=>wpAny (model prog w) A (assign target env v) (λ_ aeE =>
     wpAny (model prog w) A (zT ifs env) (λok aeD =>
      if ok=true then wpAny (model prog w) A (eval elt env) (λx aeC =>
       wpAny (model prog w) A (call (.builtin "list.append") [acc,x]) (λ_ aeB=>∃m,m<n/\I m aeB) (λ_ _=>False) aeC) (λ_ _=>False) aeD
      else ∃m,m<n/\I m aeD) (λ_ _=>False) aeE) (λ_ _=>False) aeh) (λ_ _=>False) aeF) (λ_ _=>False) s)
  (n:Nat) (h:I n s) :
  codeAny (model prog w) A (.compLoop (.ListComp elt [⟨target,iter,ifs,0⟩] scope pos) 0 it acc env) R s:=by
 refine codeAny_loop rfl I (λn s hI=>?_) n h;show wpAny _ A ((compTurn (.ListComp elt [⟨target,iter,ifs,0⟩] scope pos) 0 it acc env).onRaise (λx=>do noteFrame x env;theTreesLotGoes x)) _ _ s;refine wpAny_noted ?_;rw[compTurn_list];refine aeP (wpAny_standAt (aeP (ae4 (turn n s hI) (λr aeF aeN=>?_) λ_ _ h'=>h'.elim)));cases r with
 | none=>exact aeR aeN
 | some v =>
  refine aeP (ae4 aeN (λ_ aeh aex=>?_) λ_ _ h'=>h'.elim);refine aeP (ae4 aex (λ_ aeE aeM=>aeP (ae4 aeM (λok aeD aeL=>?_) λ_ _ h'=>h'.elim)) λ_ _ h'=>h'.elim);cases ok with
  | false=>exact aeR ⟨rfl,aeL⟩
  | true =>
   exact aeP (aeP (ae4 aeL (λx aeC aeK=>aeP (ae4 aeK (λ_ aeB aeJ=>aeR (aeR ⟨rfl,aeJ⟩)) λ_ _ h'=>h'.elim)) λ_ _ h'=>h'.elim))
def Zu(X:Cx)(ifs:List Expr)(t:TT):Prop :=
 ∀(pins:List (Addr×Obj)) (s:Shared) (σ:St) (H:Hp) (Q:Bool->Hp->Prop),Inv X pins σ H s->t σ H Q->wpAny (model X.prog X.w) X.A (zT ifs X.env) (TP X pins σ Q) X.xe s
def N8:Zu X [] (fun σ H Q=>Q true H):=λpins s σ H Q I h=>wpAny_tests_nil ⟨H,I,h⟩
noncomputable def GF(capt:List (Option Nat))(wi:TI)(g:TG)(tt:TT)(te:TE):TE:=fun σ H Q=>wi σ H λJ H1=>∀D,H1 D=none->∃W:Nat->Nat->St->Hp->Prop,(∃m,W 0 m (ji capt σ) (upd H1 D (.lst []))) /\
 ∀i m σ' H',W i m σ' H'->(J.stop i H'/\Q (.ref D) H')\/(J.go i H'/\∃N:St->Hp->Prop,(∀σ2 H2,N σ2 H2->∃m',m'<m/\W (i+1) m' σ2 H2) /\
  ∀x H2,J.yld i H' x H2->g x σ' H2 fun σ3 H3=>tt σ3 H3 λok H4=>if ok=true then te σ3 H4 λy H5=>∃xs,H5 D=some (.lst xs)/\xs.length<sizeLine/\N σ3 (upd H5 D (.lst (xs++[y]))) else N σ3 H4)
section
variable  {X:Cx}{elt tg iter:Expr}{ifs:List Expr}{scope:Scope}{pos:Pos}{N:List Str}{capt:List (Option Nat)}{wi:TI}{g:TG}{tt:TT}{te:TE}
def zl5{pins:List (Addr×Obj)}{σ:St}{H:Hp}{s:Shared}{it:Addr}{fp:List Addr}{tn:Nat->Heap->Prop}{J:It}{cl:List (Str×Addr)}{Q:VK}{E:Value->Shared->Prop}{RR:Value->Addr->Result->Shared->Prop}
  (I:Inv X pins σ H s) (T:Turn X.prog X.w X.K tg J fp it tn) (st:tn 0 s.heap) (hf:∀b∈fp,p_ X pins H b)
  (S:fJ scope) (tW:∀x c,cl.lookup x=some c->X.env.cells.lookup x=some c) (tX:∀x,(x,NameKind.free)∈scope.names->∃c,cl.lookup x=some c) (qL:jY X scope capt N) (hc:X.calm=true)
  (hg:∀cl C fp s H,PG (cX X N scope cl C fp s H) tg g) (ht:∀cl C fp s H,Zu (cX X N scope cl C fp s H) ifs tt) (he:∀cl C fp s H,PE (cX X N scope cl C fp s H) elt te)
  (h:∀D,H D=none->∃W:Nat->Nat->St->Hp->Prop,(∃m,W 0 m (ji capt σ) (upd H D (.lst []))) /\
   ∀i m σ' H',W i m σ' H'->(J.stop i H'/\Q (.ref D) H')\/(J.go i H'/\∃N:St->Hp->Prop,(∀σ2 H2,N σ2 H2->∃m',m'<m/\W (i+1) m' σ2 H2) /\
    ∀x H2,J.yld i H' x H2->g x σ' H2 fun σ3 H3=>tt σ3 H3 λok H4=>if ok=true then te σ3 H4 λy H5=>∃xs,H5 D=some (.lst xs)/\xs.length<sizeLine/\N σ3 (upd H5 D (.lst (xs++[y]))) else N σ3 H4))
  (hRR:∀(D C:Addr) (H':Hp) (s':Shared) (m:Str->Option Value),s'.heap.Ns C m->Inv X pins σ H' s'->p_ X pins H' C->Q (.ref D) H'->RR (.ref D) C (.ok .next) s') :
  wpAny (model X.prog X.w) X.A (newList []) (λacc aeD=>wpAny (model X.prog X.w) X.A (newFunctionEnv scope X.env.globals cl [] X.env.qual none .none (some X.env)) (λabO aeC =>
   codeAny (model X.prog X.w) X.A (.compStart (.ListComp elt [⟨tg,iter,ifs,0⟩] scope pos) 0 (.ref it) acc { abO with scope:=relabel scope X.env }) (RR acc abO.locals) aeC) E aeD) E s:=by
 have hD:H s.heap.objs.size=none:=I.bN.fresh (gb _);have I3:Inv X pins σ (upd H s.heap.objs.size (.lst [])) { s with heap:=s.heap.push { cls:=.type "list",dict:=none,data:=.seq ([]:List Value).toArray } } :=
  I.laid (t':=s.toks) (λb o q=>g8 _ q) (gb _) ⟨by show 0<=sizeLine;decide,[],0,.nil,gZ _ rfl⟩
 obtain⟨W,⟨m0,w0⟩,turn⟩:=h _ hD;refine ae8 (wpAny_newFunctionEnv S.cell (by intro y hy;simp at hy) (λaeN WN WK=>?_) S.kind);dsimp only at WN WK ⊢;generalize hH2:s.heap.push { cls:=.type "list",dict:=none,data:=.seq ([]:List Value).toArray }=Hh at WN WK I3 ⊢;have S9:∀b∈fp,b<s.heap.objs.size:=λb hb=>by
  obtain⟨o,e,_⟩:=T.obj 0 s.heap st b hb;exact gq e
 have szH:Hh.objs.size=s.heap.objs.size+1:=by rw[<-hH2,Heap.size_push]
 have abF:∀b∈fp,b<Hh.objs.size:=λb hb=>by rw[szH];exact Nat.lt_succ_of_lt (S9 b hb)
 have Zb:∀b∈fp,p_ X pins (upd H s.heap.objs.size (.lst [])) b:=λb hb=>by
  obtain⟨f0,fr⟩:=hf b hb;exact⟨by rw[iy (gY (S9 b hb))];exact f0,fr⟩
 have zr:∀b o,Hh.get? b=some o->aeN.get? b=some o:=λb o e=>WK.extBut b o (gY (gq e)) (g8 _ e);have st1:tn 0 aeN:=T.keep 0 _ _ st λb hb o e=>zr b o (by rw[<-hH2];exact g8 _ e);generalize hX:cX X N scope cl Hh.objs.size fp { s with heap:=Hh } (upd H s.heap.objs.size (.lst []))=X';have I4:Inv X' [] (ji capt σ) (upd H s.heap.objs.size (.lst [])) { s with heap:=aeN,toks:=s.toks+([]:List (Str×Value)).length }:=by
  rw[<-hX];exact KH (capt:=capt) I3 S tW tX (gb _) Zb abF qL WN zr
 have eP:X'.prog=X.prog:=by rw[<-hX];rfl
 have ew:X'.w=X.w:=by rw[<-hX];rfl
 have eK:X'.K=X.K:=by rw[<-hX];rfl
 have eA:X'.A=X.A:=by rw[<-hX];rfl
 have eC:X'.calm=true:=by rw[<-hX];exact hc
 have eE:X'.env=compEnvC scope cl Hh.objs.size X.env:=by rw[<-hX];rfl
 have eX:X'.xe=λ_ _=>False:=by rw[<-hX];rfl
 have ePn:X'.pn=[]:=by rw[<-hX];rfl
 have hg':PG X' tg g:=by rw[<-hX];exact hg _ _ _ _ _
 have ht':Zu X' ifs tt:=by rw[<-hX];exact ht _ _ _ _ _
 have he':PE X' elt te:=by rw[<-hX];exact he _ _ _ _ _
 have stat:∀{H':Hp},(∀b∈fp,H' b=none)->∀b∈fp,p_ X' [] H' b:=λ{H'} hn b hb=>by
  rw[<-hX];refine⟨hn b hb,gY (abF b hb),λz=>?_,.inl hb,λx c q=>(hf b hb).2.2.2.2.1 x c (tW x c q),λp hp=>by simp[cX]at hp⟩;rcases gf.mp (I3.uB b z) with e | e
  ·exact (hf b hb).2.1 e
  ·exact (hf b hb).2.2.1 e
 have back:∀{σ':St} {H':Hp} {s':Shared},Inv X' [] σ' H' s'->∀Zd,Heap.SameBut Hh.objs.size s'.heap Zd->Inv X pins σ H' { s' with heap:=Zd }:=λ{σ' H' s'} I' Zd sb=>by
  have u:=I'.base;rw[<-hX]at u;have Mh:∀b o,Hh.get? b=some o->b≠Hh.objs.size:=λb o e=>gY (gq e);have nC:H' Hh.objs.size=none:=by have:=I'.free;rw[eE]at this;exact this
  refine I3.abV (s':={ s' with heap:=Zd }) (ch:=fp) (by have:=I'.os;rw[<-hX]at this;exact this) ?_ ?_ I'.bare (λb hb=>⟨(Zb b hb).2.2.2.1,(Zb b hb).2.1,(Zb b hb).2.2.2.2.1,(Zb b hb).2.2.2.2.2⟩)
  ·exact⟨λb o e n hb hx=>sb.extBut b _ (Mh b o e) (u.keep b o e n hb hx),λb o e n hb hx=>let ⟨sl,q⟩:=u.slot b o e n hb hx;⟨sl,sb.extBut b _ (Mh b o e) q⟩,u.free,
    λb o e hx=>let ⟨o',q⟩:=u.there b o e hx;⟨o',sb.extBut b _ (Mh b o e) q⟩,u.uq,u.rR,u.tL⟩
  ·have hk:=I'.bN;rw[eP,ew]at hk;intro b ob e;have nb:∀c v,H' c=some v->c≠Hh.objs.size:=λc v q=>yJ q nC;refine (hk b ob e).tO (λc v hc q=>sb.extBut c v ?_ q) (λ_ q=>q) λ_ _ q=>q;rcases hc with z | z
   ·rw[z];exact nb b _ e
   ·exact nb c _ z
 have loop:∀aeD:Shared,aeD={ s with heap:=aeN,toks:=s.toks+([]:List (Str×Value)).length } ->
   codeAny (model X.prog X.w) X.A (.compLoop (.ListComp elt [⟨tg,iter,ifs,0⟩] scope pos) 0 (.ref it) (.ref s.heap.objs.size) (compEnvC scope cl Hh.objs.size X.env)) (RR (.ref s.heap.objs.size) Hh.objs.size) aeD:=by
  rintro aeD rfl;refine zne (λn s'=>∃i σ' H',Inv X' [] σ' H' s'/\tn i s'.heap/\(∀b∈fp,H' b=none)/\W i n σ' H') ?_ m0 ⟨0,_,_,I4,st1,λb hb=>(Zb b hb).1,w0⟩;rintro n s3 ⟨i,σ3,H3,I5,fV,fr3,w3⟩;rw[<-eP,<-ew,<-eA,<-eE];rcases turn i n σ3 H3 w3 with⟨stop,qn⟩ | ⟨go,Nn,hN,step⟩
  ·have d:=T.done X' eP ew eK eC i [] s3 σ3 H3 (λ_ _=>False) I5 (stat fr3) fV stop;rw[<-eP,<-ew]at d;refine cH d λr s4 zz=>?_;obtain⟨hr,I6⟩:=zz;subst hr;obtain⟨mm,Ef,_⟩:=I6.loc;rw[eE]at Ef;have nC:H3 Hh.objs.size=none:=by have:=I6.free;rw[eE]at this;exact this
   exact hRR _ _ H3 s4 mm Ef (back I6 s4.heap (.refl ..)) (I3.uQ (gb _) nC) qn
  ·have d:=T.item X' eP ew eK eC i [] s3 σ3 H3 (λ_ _=>False) I5 (stat fr3) fV go;rw[<-eP,<-ew]at d;refine cH d λr s4 zz=>?_;obtain⟨u,hr,h4⟩:=zz;subst hr;refine cH h4 λ_ s5 zz=>?_;obtain⟨x,H5,I6,r5,y5,Mf,fr5⟩:=zz;have I6':=I6.pinned (stat fr5) (T.obj _ _ Mf);have dg:=hg' _ s5 σ3 H5 x u _ I6' r5 (step x H5 y5);rw[eX]at dg;refine cH dg λ_ s6 zz=>?_;obtain⟨σ6,H6,I7,q6⟩:=zz;have dt:=ht' _ s6 σ6 H6 _ I7 q6;rw[eX]at dt;refine cH dt λok s7 zz=>?_;obtain⟨H7,I8,q7⟩:=zz;have again:∀{σ9:St} {H9:Hp} {s9:Shared},Inv X' ([]++uF fp s5.heap) σ9 H9 s9->Nn σ9 H9->∃m,m<n/\∃i σ' H',Inv X' [] σ' H' s9/\tn i s9.heap/\(∀b∈fp,H' b=none)/\W i m σ' H':=λ{σ9 H9 s9} I9 n9=>by
    obtain⟨m',hm,w9⟩:=hN σ9 H9 n9;refine⟨m',hm,i+1,σ9,H9,I9.qe,T.keep _ _ _ Mf λb hb o e=>(I9.pin (b,o) (m9 _ (m9 _ (zgt hb e)))).1,λb hb=>?_,w9⟩;obtain⟨o,e,d⟩:=T.obj _ _ Mf b hb;exact (I9.pin (b,o) (m9 _ (m9 _ (zgt hb e)))).2.1
   cases ok with
   | false=>exact again I8 q7
   | true =>
    have de:=he' _ s7 σ6 H7 _ I8 q7;rw[eX]at de;refine cH de λy s8 zz=>?_;obtain⟨v,H8,I9,r8,q8⟩:=zz;obtain⟨xs,hx,hz,nn⟩:=q8;have da:=zoe (X:=X') _ s8 σ6 H8 (.ref s.heap.objs.size) [v] (.ref s.heap.objs.size) [y] (λ_ H9=>Nn σ6 H9) I9 rfl (.cons r8 .nil) ⟨_,xs,v,rfl,rfl,hx,hz,nn⟩;rw[eX]at da;refine cH da λ_ s9 zz=>?_;obtain⟨_,H9,I10,_,n9⟩:=zz;exact again I10 n9
 exact codeAny_compStart_list (loop _ rfl) (T.self _ 0 _ _ _ st1 (loop _ rfl))
def zlw(I:Inv X pins σ H s)(Qv:∀x∈scope.names,x.2=.free->X.env.kindOf x.1=some .cell\/X.env.kindOf x.1=some .free) :
  ∃cl,closureFor scope X.env=pure cl/\(∀x c,cl.lookup x=some c->X.env.cells.lookup x=some c)/\∀x,(x,NameKind.free)∈scope.names->∃c,cl.lookup x=some c :=
 zlj λx hx hk=>I.ok.has x.1 (Qv x hx hk)
def Inv.v8(I:Inv X pins σ H s)(f:p_ X pins H C)(sb:Heap.SameBut C s.heap h'):Inv X pins σ H { s with heap:=h' } :=
 I.turned (t':=s.toks) (λb o hb e=>sb.extBut b o hb e) f.1 f.2.1 f.2.2.2.1 f.2.2.2.2.1 f.2.2.2.2.2
def Oz(hi:PI X tg iter wi)(S:fJ scope)(Qv:∀x∈scope.names,x.2=.free->X.env.kindOf x.1=some .cell\/X.env.kindOf x.1=some .free)(qL:jY X scope capt N)(hc:X.calm=true)
  (hg:∀cl C fp s H,PG (cX X N scope cl C fp s H) tg g) (ht:∀cl C fp s H,Zu (cX X N scope cl C fp s H) ifs tt) (he:∀cl C fp s H,PE (cX X N scope cl C fp s H) elt te)
  (hs:∀x,foldedSetIterable iter X.env x=pure x:=by intro _;rfl):PE X (.ListComp elt [⟨tg,iter,ifs,0⟩] scope pos) (GF capt wi g tt te):=by
 intro pins s σ H Q I h;obtain⟨cl,tW,h1,h2⟩:=zlw I Qv;rw[eval_ListComp];refine wpAny_comprehension_free (use:=none) rfl hs tW S.kind S.names (cH (hi pins s σ H _ I h) λv s1 q1=>cH q1 λitv s2 q2=>?_);obtain⟨it,fp,tn,J,H2,e,I2,T,st2,f2,q⟩:=q2;subst e;refine zl5 (RR:=λacc C=>compPost (model X.prog X.w) X.A X.xe none (EP X pins σ Q) acc C) I2 T st2 f2 S h1 h2 qL hc hg ht he q ?_;intro D C H' s' m hn I' f' q';exact⟨m,hn,λZd sb=>⟨.ref D,H',I'.v8 f' sb,rfl,q'⟩⟩
def zrh(hN:X.N.Nodup)(hy:X.N[i]? = some y)(hx:Loc X.env.scope y)(hsw:swapsWith (.ListComp elt [⟨tg,iter,ifs,0⟩] scope pos) (some (.Name y py)) Ux.line X.env=pure true) 
  (hi:PI X tg iter wi) (S:fJ scope) (Qv:∀x∈scope.names,x.2=.free->X.env.kindOf x.1=some .cell\/X.env.kindOf x.1=some .free) (qL:jY X scope capt N) (hc:X.calm=true)
  (hg:∀cl C fp s H,PG (cX X N scope cl C fp s H) tg g) (ht:∀cl C fp s H,Zu (cX X N scope cl C fp s H) ifs tt) (he:∀cl C fp s H,PE (cX X N scope cl C fp s H) elt te)
  (hs:∀x,foldedSetIterable iter X.env x=pure x:=by intro _;rfl) (hf:X.fn y=true\/X.env.scope.names.lookup y=some .local:=by first | exact .inl rfl | exact .inr rfl | assumption) :
  PS X (.Assign [.Name y py] (.ListComp elt [⟨tg,iter,ifs,0⟩] scope pos) Ux) (Uw (GF capt wi g tt te) (Bc i)):=by
 intro pins s σ H D I h;obtain⟨cl,tW,h1,h2⟩:=zlw I Qv;rw[exec_Assign_Name_used _ _ _ _ hsw];refine aeP (wpAny_standAt (aeP ?_));show wpAny _ X.A (do let _ <-comprehension (.ListComp elt [⟨tg,iter,ifs,0⟩] scope pos) scope X.env _ (newList []) false (eval iter X.env) (some (assign (.Name y py) X.env))) _ _ s;refine aeP (ae4 (wpAny_comprehension_free (use:=some (assign (.Name y py) X.env)) (Q:=λ_ s'=>SP X pins D .next s') rfl hs tW S.kind S.names
  (cH (hi pins s σ H _ I h) λv s1 q1=>cH q1 λitv s2 q2=>?_)) (λ_ s' hq=>aeR (aeR hq)) λ_ _ e=>e)
 obtain⟨it,fp,tn,J,H2,e,I2,T,st2,f2,q⟩:=q2;subst e;refine zl5 (Q:=λx H1=>Bc i x σ H1 D.nx) (RR:=λacc C=>compPost (model X.prog X.w) X.A X.xe (some (assign (.Name y py) X.env)) (λ_ s'=>SP X pins D .next s') acc C) I2 T st2 f2 S h1 h2 qL hc hg ht he q ?_;intro D' C H' s' m hn I' f' q';show wpAny _ X.A (assign (.Name y py) X.env (.ref D')) _ _ _;refine wpAny_assign_Name (zo4 I' hN hy hx (v:=.ref D') rfl (λs'' I'' zz=>?_) hf);obtain⟨a,sb,ha⟩:=zz;have Mh:C≠a:=by
  rcases ha with e | e
  ·rw[e];exact f'.2.1
  ·exact ae1 (f'.2.2.2.2.1 _ _ e)
 obtain⟨o,es,ep,ho,r⟩:=hn;exact⟨m,⟨o,es,ep,sb.extBut C o Mh ho,r⟩,λZd sb'=>⟨_,H',I''.v8 f' sb',q'⟩⟩
end
end L2
namespace M
open PySem PySem.Spec L2
inductive D where
 | non | bl (b:Bool) | int (i:Int) | str (cs:List Nat) | tup (xs:List D) | loc (n:Nat)
instance:Inhabited D:=⟨.non⟩
structure fH where
 qual:Str
 params:Arguments
 body:Expr
 scope:Scope
 oG:List Str
inductive MO where
 | lst (xs:List D) | frz (xs:List D) | dic (kvs:List (List Key×D)) | dkc (kvs:List (Key×D))
 
 | dkf (kvs:List (Key×D))
 
 | dtf (kvs:List (List Key×D))
 
 | ins (c:Str) (fs:List (Str×D))
 
 | tab (x:Str)
 
 | clo (j:Nat) (l:fH) (ds:List D)
 
 | exc (c:String) (d:D)
 
 | hid
noncomputable abbrev ak:=List MO
noncomputable abbrev aJ:=List (Option D)
structure Xc where
 cls:String
 fld:D
inductive R (α:Type) where
 | ok (a:α) (st:ak) | err (x:Xc) (st:ak) | bad
def eQ{α:Sort u}{a b:α}(h:a=b):a=b:=h
noncomputable def R.bind{α β:Type}(r:R α)(f:α->ak->R β):R β:=match r with
 | .ok a st=>f a st
 | .err x st=>.err x st
 | .bad=>.bad
@[simp] def R.aB{α β:Type}(a:α)(st:ak)(f:α->ak->R β):(R.ok a st).bind f=f a st:=eQ rfl
@[simp] def R.qW{α β:Type}(x:Xc)(st:ak)(f:α->ak->R β):(R.err x st:R α).bind f=.err x st:=eQ rfl
@[simp] def R.qX{α β:Type}(f:α->ak->R β):(R.bad:R α).bind f=.bad:=eQ rfl
noncomputable abbrev strOf(cs:List Nat):Str:=⟨cs.toArray⟩
instance aei {K:PySem.W.Frag} {H:Hp} {a:Addr} {xs:List V}:CoeTail (H a=some (.tup xs)) (lR K H a xs):=⟨lR.of⟩
noncomputable def Dm:List D->Bool
 | []=>false
 | .int _::r=>Dm r
 | .str _::r=>Dm r
 | _::_=>true
noncomputable def Fv:List D->Bool
 | []=>true
 | .str _::r=>Fv r
 | _::_=>false
noncomputable def Ai(ds:List D):Bool:=Fv ds || Dm ds
def ye(K:PySem.W.Frag)(H:Hp)(a:Addr)(xs:List V)(ds:List D):Prop :=
 H a=some (.tup xs)\/(Ai ds=true/\∃(o:Obj) (its:Array Value) (n:Nat),K.lookup a=some o/\o.cls=.type "tuple"/\o.data=.seq its n/\its.size<=sizeLine/\Vals xs its.toList)
def ye.pN(h:ye K H a xs ds):lR K H a xs:=by
 rcases h with h | ⟨_,h⟩
 ·exact lR.of h
 ·exact .inr h
mutual
def ao(K:PySem.W.Frag)(μ:List Addr)(H:Hp):D->V->Prop
 | .non,v=>v=.non
 | .bl b,v=>v=.bl b
 | .int i,v=>v=.int i
 | .str cs,v=>v=.str (strOf cs)
 | .tup ds,v=>∃a xs,v=.ref a/\ye K H a xs ds/\aq K μ H ds xs
 | .loc n,v=>∃a,μ[n]? = some a/\v=.ref a
def aq(K:PySem.W.Frag)(μ:List Addr)(H:Hp):List D->List V->Prop
 | [],vs=>vs=[]
 | d::ds,vs=>∃v r,vs=v::r/\ao K μ H d v/\aq K μ H ds r
end
structure Ext(H H':Hp):Prop where
 tup:∀b xs,H b=some (.tup xs)->H' b=some (.tup xs)
 frz:∀b o u,H b=some (.frz o u)->H' b=some (.frz o u)
def Ext.refl(H:Hp):Ext H H:=⟨λ_ _ h=>h,λ_ _ _ h=>h⟩
def Ext.trans(a:Ext H H1)(b:Ext H1 H2):Ext H H2:=⟨λc xs h=>b.tup c xs (a.tup c xs h),λc o u h=>b.frz c o u (a.frz c o u h)⟩
def Ext.pN(e:Ext H H')(h:lR K H a xs):lR K H' a xs:=by
 rcases h with (h | ⟨o,h⟩) | h
 ·exact .inl (.inl (e.tup _ _ h))
 ·exact .inl (.inr ⟨o,e.frz _ _ _ h⟩)
 ·exact .inr h
def Ext.aco(e:Ext H H')(h:ye K H a xs ds):ye K H' a xs ds:=by
 rcases h with h | h
 ·exact .inl (e.tup _ _ h)
 ·exact .inr h
def Ext.new(h:H p=none):Ext H (upd H p o) :=
 ⟨λb xs q=>by rw[iy (yJ q h)];exact q,λb o' u q=>by rw[iy (yJ q h)];exact q⟩
structure bf(μ:List Addr)(H:Hp)(μ':List Addr)(H':Hp):Prop where
 pre:∃ν,μ'=μ++ν
 ext:Ext H H'
def bf.refl(μ:List Addr)(H:Hp):bf μ H μ H:=⟨⟨[],by simp⟩,.refl H⟩
def bf.trans(a:bf μ H μ1 H1)(b:bf μ1 H1 μ2 H2):bf μ H μ2 H2:=by
 obtain⟨ν1,rfl⟩:=a.pre;obtain⟨ν2,rfl⟩:=b.pre;exact⟨⟨ν1++ν2,by simp⟩,a.ext.trans b.ext⟩
def bf.get{μ μ':List Addr}{H H':Hp}(g:bf μ H μ' H'){n:Nat}{a:Addr}(h:μ[n]? = some a):μ'[n]? = some a:=by
 obtain⟨ν,rfl⟩:=g.pre;rw[gJ (gh.mp h).1];exact h
mutual
theorem ao.mono{K:PySem.W.Frag}{μ μ':List Addr}{H H':Hp}(g:bf μ H μ' H'):∀(d:D) {v:V},ao K μ H d v->ao K μ' H' d v
 | .non,_,h=>by simpa[ao] using h
 | .bl _,_,h=>by simpa[ao] using h
 | .int _,_,h=>by simpa[ao] using h
 | .str _,_,h=>by simpa[ao] using h
 | .tup ds,_,h=>by
  rw[ao]at h ⊢;obtain⟨a,xs,rfl,h1,h2⟩:=h;exact⟨a,xs,rfl,g.ext.aco h1,aq.mono g ds h2⟩
 | .loc n,_,h=>by
  rw[ao]at h ⊢;obtain⟨a,h1,rfl⟩:=h;exact⟨a,g.get h1,rfl⟩
theorem aq.mono(g:bf μ H μ' H'):∀(ds:List D) {vs:List V},aq K μ H ds vs->aq K μ' H' ds vs
 | [],_,h=>by simpa[aq] using h
 | d::ds,_,h=>by
  rw[aq]at h ⊢;obtain⟨v,r,rfl,h1,h2⟩:=h;exact⟨v,r,rfl,ao.mono g d h1,aq.mono g ds h2⟩
end
section
variable  {K:PySem.W.Frag}{μ:List Addr}{H:Hp}
theorem aq.length:∀{ds:List D} {vs:List V},aq K μ H ds vs->ds.length=vs.length
 | [],_,h=>by rw[aq]at h;subst h;rfl
 | d::ds,_,h=>by
  rw[aq]at h;obtain⟨v,r,rfl,_,h2⟩:=h;rw[gr,gr,aq.length h2]
theorem aq.get:∀{ds:List D} {vs:List V} {i:Nat} {d:D},aq K μ H ds vs->ds[i]? = some d->∃v,vs[i]? = some v/\ao K μ H d v
 | [],_,_,_,_,e=>by simp at e
 | d::ds,_,0,_,h,e=>by
  rw[aq]at h;obtain⟨v,r,rfl,h1,_⟩:=h;simp at e;subst e;exact⟨v,rfl,h1⟩
 | d::ds,_,i+1,x,h,e=>by
  rw[aq]at h;obtain⟨v,r,rfl,_,h2⟩:=h;obtain⟨u,h3,h4⟩:=aq.get (i:=i) h2 (by simpa using e);exact⟨u,by simpa using h3,h4⟩
theorem aq.append:∀{ds es:List D} {vs ws:List V},aq K μ H ds vs->aq K μ H es ws->aq K μ H (ds++es) (vs++ws)
 | [],_,_,_,h,k=>by rw[aq]at h;subst h;exact k
 | d::ds,es,_,ws,h,k=>by
  rw[aq]at h;obtain⟨v,r,rfl,h1,h2⟩:=h;show aq K μ H (d::(ds++es)) (v::(r++ws));rw[aq];exact⟨v,r++ws,rfl,h1,aq.append h2 k⟩
def aq.nil:aq K μ H [] []:=by rw[aq]
def aq.cons(h:ao K μ H d v)(k:aq K μ H ds vs):aq K μ H (d::ds) (v::vs):=by rw[aq];exact⟨v,vs,rfl,h,k⟩
theorem aq.take:∀{ds:List D} {vs:List V} (n:Nat),aq K μ H ds vs->aq K μ H (ds.take n) (vs.take n)
 | _,_,0,_=>by simp[aq]
 | [],_,n+1,h=>by rw[aq]at h;subst h;simp[aq]
 | d::ds,_,n+1,h=>by
  rw[aq]at h;obtain⟨v,r,rfl,h1,h2⟩:=h;exact aq.cons h1 (aq.take n h2)
theorem aq.drop:∀{ds:List D} {vs:List V} (n:Nat),aq K μ H ds vs->aq K μ H (ds.drop n) (vs.drop n)
 | _,_,0,h=>h
 | [],_,n+1,h=>by rw[aq]at h;subst h;simp[aq]
 | d::ds,_,n+1,h=>by
  rw[aq]at h;obtain⟨v,r,rfl,h1,h2⟩:=h;exact aq.drop n h2
def aq.reverse{ds:List D}{vs:List V}(h:aq K μ H ds vs):aq K μ H ds.reverse vs.reverse:=by
 induction ds generalizing vs with
 | nil=>rw[aq]at h;subst h;simp[aq]
 | cons d ds ih =>
  rw[aq]at h;obtain⟨v,r,rfl,h1,h2⟩:=h;rw[mZ,mZ];exact (ih h2).append (aq.cons h1 aq.nil)
def ao.aN:ao K μ H (.int i) v↔v=.int i:=by rw[ao]
def ao.bA:ao K μ H (.bl b) v↔v=.bl b:=by rw[ao]
def ao.bK:ao K μ H .non v↔v=.non:=by rw[ao]
def ao.aQ:ao K μ H (.str cs) v↔v=.str (strOf cs):=by rw[ao]
def ao.aU:ao K μ H (.tup ds) v ↔ ∃a xs,v=.ref a/\ye K H a xs ds/\aq K μ H ds xs:=by rw[ao]
def ao.aH:ao K μ H (.loc n) v ↔ ∃a,μ[n]? = some a/\v=.ref a:=by rw[ao]
end
def aO{κ:Type}(K:PySem.W.Frag)(μ:List Addr)(H:Hp):List (κ×D)->List (κ×V)->Prop
 | [],vs=>vs=[]
 | (k,d)::ds,vs=>∃v r,vs=(k,v)::r/\ao K μ H d v/\aO K μ H ds r
theorem aO.mono(g:bf μ H μ' H'):∀{ds:List (κ×D)} {vs:List (κ×V)},aO K μ H ds vs->aO K μ' H' ds vs
 | [],_,h=>h
 | (k,d)::ds,_,⟨v,r,e,h1,h2⟩=>⟨v,r,e,h1.mono g d,aO.mono g h2⟩
def wZ(K:PySem.W.Frag)(H:Hp)(a:Addr)(xs:List V):Prop :=
 (∃o,H a=some (.frz o (.lst xs)))\/∃(o:Obj) (its:Array Value) (n:Nat),K.lookup a=some o/\o.cls=.type "list"/\o.dict=none/\o.data=.seq its n/\its.size<=sizeLine/\Vals xs its.toList
def wZ.sqL(h:wZ K H a xs):lM K H a xs:=by
 rcases h with h | h
 ·exact .inl (.inr h)
 ·exact .inr h
def wZ.ext(e:Ext H H')(h:wZ K H a xs):wZ K H' a xs:=by
 rcases h with⟨o,h⟩ | h
 ·exact .inl ⟨o,e.frz _ _ _ h⟩
 ·exact .inr h
noncomputable def MO.mut:MO->Bool
 | .frz _=>false
 | .clo _ _ _=>false
 | .hid=>false
 | .dkf _=>false
 | .dtf _=>false
 | .exc _ _=>false
 | _=>true
def qY(H:Hp)(c:Addr)(q:Str):Prop:=∃oc vs t,H c=some (.frz oc (.own 0))/\oc.data=.fields vs/\vs[1]? = some (.str q t)
def fj(H:Hp):List (Str×Addr)->List V->Prop
 | [],vs=>vs=[]
 | (_,c)::cl,vs=>∃v r o u,vs=v::r/\H c=some (.frz o (.own 0))/\o.data=.cell (some u)/\RelV v u/\fj H cl r
def qY.ext(e:Ext H H')(h:qY H c q):qY H' c q :=
 let ⟨oc,vs,t,h1,h2⟩:=h;⟨oc,vs,t,e.frz _ _ _ h1,h2⟩
theorem fj.ext(e:Ext H H'):∀{cl:List (Str×Addr)} {vs:List V},fj H cl vs->fj H' cl vs
 | [],_,h=>h
 | (_,c)::cl,_,⟨v,r,o,u,h1,h2,h3,h4,h5⟩=>⟨v,r,o,u,h1,e.frz _ _ _ h2,h3,h4,fj.ext e h5⟩
noncomputable def qG(x:Str):Str:=x ++ ".<locals>." ++ "<lambda>"
def fU(K:PySem.W.Frag)(μ:List Addr)(H:Hp)(a:Addr):MO->Prop
 | .lst ds=>∃xs,H a=some (.lst xs)/\aq K μ H ds xs
 | .frz ds=>∃xs,wZ K H a xs/\aq K μ H ds xs
 | .dic kvs=>∃ws,H a=some (.dT ws)/\aO K μ H kvs ws
 | .dkc kvs=>∃ws,H a=some (.dK ws)/\aO K μ H kvs ws
 | .dkf kvs=>∃ws o,H a=some (.frz o (.dK ws))/\aO K μ H kvs ws
 | .dtf kvs=>∃ws o,H a=some (.frz o (.dT ws))/\aO K μ H kvs ws
 | .ins c fs=>∃C dx ws,PySem.W.nsIn K mainGlobals c=some (some (.ref C))/\H a=some (.ins C dx ws)/\aO K μ H fs ws
 | .tab x=>(∃(fa:Addr) (o:Obj) (fd:FuncData) (c:Addr),PySem.W.nsIn K mainGlobals x=some (some (.ref fa))/\K.lookup fa=some o/\o.data=.func fd/\fd.code=.ref c/\PySem.W.codeHdIn K c a=true) /\
   ∃ps:Array Value,H a=some (.tbl ps)/\TriplesOk ps.toList/\∀pos cv,codeAmong pos ps.toList=some cv->∃c',cv=.ref c'/\qY H c' (qG x)
 | .clo _ l ds=>∃(cl:List (Str×Addr)) (pm:Value) (c':Addr) (qR:Value) (vs:List V),H a=some (.frz (PySem.W.kla_obj "<lambda>" l.qual l.params l.body l.scope cl pm c' qR) (.own 0))/\qY H c' l.qual /\
   cl.map (·.1)=l.oG/\(cl.map (·.2)).Nodup/\fj H cl vs/\aq K μ H ds vs
 | .exc c d=>∃oe C dx od v fs,H a=some (.frz oe (.own 0))/\oe.cls=.ref C/\oe.dict=some dx/\oe.data=.fields fs/\H dx=some (.frz od (.xd [("at",v)]))/\PySem.W.nsIn K mainGlobals (c:Str)=some (some (.ref C))/\ao K μ H d v
 | .hid=>True
structure aV(K:PySem.W.Frag)(μ:List Addr)(H:Hp)(st:ak):Prop where
 len:μ.length=st.length
 at_:∀(n:Nat) (o:MO),st[n]? = some o->∃a,μ[n]? = some a/\fU K μ H a o
 uniq:∀(i j:Nat) (a:Addr) (oi oj:MO),st[i]? = some oi->st[j]? = some oj->oi.mut=true->oj.mut=true->μ[i]? = some a->μ[j]? = some a->i=j
structure dJ(K:PySem.W.Frag)(μ:List Addr)(H:Hp)(env:aJ)(σ:St):Prop where
 len:env.length=σ.length
 at_:∀(i:Nat) (d:D),env[i]? = some (some d)->∃v,σ[i]? = some (some v)/\ao K μ H d v
def dJ.mono(g:bf μ H μ' H')(h:dJ K μ H env σ):dJ K μ' H' env σ :=
 ⟨h.len,λi d e=>let ⟨v,h1,h2⟩:=h.at_ i d e;⟨v,h1,h2.mono g d⟩⟩
def dJ.set(h:dJ K μ H env σ)(r:ao K μ H d v):dJ K μ H (env.set i (some d)) (σ.set i (some v)):=by
 refine⟨by simp[h.len],λj e hj=>?_⟩;by_cases WT:i=j
 ·subst WT;have hl:i<env.length:=by
   have:=(gh.mp hj).1;simpa using this
  rw[m8 hl]at hj;cases hj;exact⟨v,by rw[m8 (by rw[<-h.len];exact hl)],r⟩
 ·rw[gO WT]at hj;rw[gO WT];exact h.at_ j e hj
def fU.some_of(h:fU K μ H a o)(hm:o.mut=true):∃u,H a=some u:=by
 cases o with
 | lst ds=>obtain⟨xs,h1,_⟩:=h;exact⟨_,h1⟩
 | frz ds=>cases hm
 | dic kvs=>obtain⟨xs,h1,_⟩:=h;exact⟨_,h1⟩
 | dkc kvs=>obtain⟨xs,h1,_⟩:=h;exact⟨_,h1⟩
 | dkf kvs=>cases hm
 | dtf kvs=>cases hm
 | ins c fs=>obtain⟨_,_,_,_,h1,_⟩:=h;exact⟨_,h1⟩
 | tab x=>obtain⟨_,_,h1,_⟩:=h;exact⟨_,h1⟩
 | clo j l ds=>cases hm
 | exc c d=>cases hm
 | hid=>cases hm
def fU.keep(g:bf μ H μ' H')(hk:o.mut=true->∀u,H a=some u->H' a=some u)(h:fU K μ H a o):fU K μ' H' a o:=by
 cases o with
 | lst ds=>obtain⟨xs,h1,h2⟩:=h;exact⟨xs,hk rfl _ h1,h2.mono g ds⟩
 | frz ds=>obtain⟨xs,h1,h2⟩:=h;exact⟨xs,h1.ext g.ext,h2.mono g ds⟩
 | dic kvs=>obtain⟨ws,h1,h2⟩:=h;exact⟨ws,hk rfl _ h1,h2.mono g⟩
 | dkc kvs=>obtain⟨ws,h1,h2⟩:=h;exact⟨ws,hk rfl _ h1,h2.mono g⟩
 | dkf kvs=>obtain⟨ws,o,h1,h2⟩:=h;exact⟨ws,o,g.ext.frz _ _ _ h1,h2.mono g⟩
 | dtf kvs=>obtain⟨ws,o,h1,h2⟩:=h;exact⟨ws,o,g.ext.frz _ _ _ h1,h2.mono g⟩
 | exc c d=>obtain⟨oe,C,dx,od,v,fs,h1,h2,h3,h4,h5,h6,h7⟩:=h;exact⟨oe,C,dx,od,v,fs,g.ext.frz _ _ _ h1,h2,h3,h4,g.ext.frz _ _ _ h5,h6,h7.mono g d⟩
 | ins c fs=>obtain⟨C,dx,ws,h0,h1,h2⟩:=h;exact⟨C,dx,ws,h0,hk rfl _ h1,h2.mono g⟩
 | tab x=>obtain⟨h0,ps,h1,h2,h3⟩:=h;exact⟨h0,ps,hk rfl _ h1,h2,λpos cv e=>let ⟨c',e1,e2⟩:=h3 pos cv e;⟨c',e1,e2.ext g.ext⟩⟩
 | clo j l ds=>obtain⟨cl,pm,c',qR,vs,h1,h2,h3,h4,h5,h6⟩:=h;exact⟨cl,pm,c',qR,vs,g.ext.frz _ _ _ h1,h2.ext g.ext,h3,h4,h5.ext g.ext,h6.mono g ds⟩
 | hid=>trivial
section
variable  {K:PySem.W.Frag}{μ:List Addr}{H:Hp}{st:ak}{p a:Addr}{xs:List V}{n:Nat}{mo R5:MO}{o o':HO}
def aV.lay(h:aV K μ H st)(hp:H p=none):aV K μ (upd H p o) st :=
 ⟨h.len,λn mo e=>let ⟨a,h1,h2⟩:=h.at_ n mo e;⟨a,h1,h2.keep ⟨⟨[],by simp⟩,.new hp⟩ λ_ u q=>by rw[iy (yJ q hp)];exact q⟩,h.uniq⟩
def bf.lay(hp:H p=none):bf μ H μ (upd H p o):=⟨⟨[],by simp⟩,.new hp⟩
def bf.new(hp:H p=none):bf μ H (μ++[p]) (upd H p o):=⟨⟨[p],rfl⟩,.new hp⟩
def aV.new(h:aV K μ H st)(hp:H p=none)(hn:fU K (μ++[p]) (upd H p o) p mo):aV K (μ++[p]) (upd H p o) (st++[mo]):=by
 refine⟨by simp[h.len],λn mo1 e=>?_,λi j b oi oj ei ej mi mj hi hj=>?_⟩
 ·by_cases hl:n<st.length
  ·rw[gJ hl]at e;obtain⟨b,h1,h2⟩:=h.at_ n mo1 e;exact⟨b,by rw[gJ (by rw[h.len];exact hl)];exact h1,h2.keep (bf.new hp) λ_ u q=>by rw[iy (yJ q hp)];exact q⟩
  ·have Mp:=(gh.mp e).1;rw[gK,nF]at Mp;have e2:n=st.length:=by omega
   subst e2;rw[kh (gb _)]at e;simp at e;subst e;exact⟨p,by rw[<-h.len];simp,hn⟩
 ·have key:∀(k:Nat) (ok:MO),(st++[mo])[k]? = some ok->ok.mut=true->(μ++[p])[k]? = some b->(k<st.length/\st[k]? = some ok/\μ[k]? = some b/\b≠p)\/(k=st.length/\b=p):=λk ok ek mk hk=>by
   by_cases hl:k<st.length
   ·rw[gJ hl]at ek;rw[gJ (by rw[h.len];exact hl)]at hk;obtain⟨c,h1,h2⟩:=h.at_ k ok ek;rw[hk]at h1;cases h1;obtain⟨u,hu⟩:=h2.some_of mk;exact .inl ⟨hl,ek,hk,yJ hu hp⟩
   ·have Mp:=(gh.mp ek).1;rw[gK,nF]at Mp;have e2:k=st.length:=by omega
    subst e2;rw[<-h.len]at hk;simp at hk;exact .inr ⟨rfl,hk.symm⟩
  rcases key i oi ei mi hi with⟨_,a1,a2,a3⟩ | ⟨a1,a2⟩
  ·rcases key j oj ej mj hj with⟨_,b1,b2,b3⟩ | ⟨b1,b2⟩
   ·exact h.uniq i j b oi oj a1 b1 mi mj a2 b2
   ·exact absurd b2 a3
  ·rcases key j oj ej mj hj with⟨_,b1,b2,b3⟩ | ⟨b1,b2⟩
   ·exact absurd a2 b3
   ·rw[a1,b1]
def Ext.mut(h:H a=some o)(ht:∀ys,o≠.tup ys)(hf:∀w u,o≠.frz w u):Ext H (upd H a o') :=
 ⟨λb ys q=>by rw[iy (λe=>by subst e;rw[h]at q;exact ht _ (aeU q))];exact q,
  λb w u q=>by rw[iy (λe=>by subst e;rw[h]at q;exact hf _ _ (aeU q))];exact q⟩
def aV.put(h:aV K μ H st)(hn:st[n]? = some mo)(hm:mo.mut=true)(WQ:R5.mut=true)(ha:μ[n]? = some a)(g:Ext H (upd H a o'))(new:fU K μ (upd H a o') a R5):aV K μ (upd H a o') (st.set n R5):=by
 have hl:=(gh.mp hn).1;refine⟨by simp[h.len],λk ok e=>?_,λi j b oi oj ei ej mi mj hi hj=>?_⟩
 ·by_cases hk:n=k
  ·subst hk;rw[m8 hl]at e;cases e;exact⟨a,ha,new⟩
  ·rw[gO hk]at e;obtain⟨b,h1,h2⟩:=h.at_ k ok e;refine⟨b,h1,h2.keep ⟨⟨[],by simp⟩,g⟩ λhmk u q=>?_⟩;rw[iy (λe2=>?_)]
   ·exact q
   ·subst e2;exact hk (h.uniq n k b mo ok hn e hm hmk ha h1)
 ·have key:∀(k:Nat) (ok:MO),(st.set n R5)[k]? = some ok->ok.mut=true->∃ok',st[k]? = some ok'/\ok'.mut=true:=λk ok ek mk=>by
   by_cases hk:n=k
   ·subst hk;exact⟨mo,hn,hm⟩
   ·rw[gO hk]at ek;exact⟨ok,ek,mk⟩
  obtain⟨oi',ei',mi'⟩:=key i oi ei mi;obtain⟨oj',ej',mj'⟩:=key j oj ej mj;exact h.uniq i j b oi' oj' ei' ej' mi' mj' hi hj
end
def ExcAt(X:Cx)(μ:List Addr)(H:Hp)(x:Xc)(e:Value)(s:Shared):Prop :=
 ∃a C dx lo fl v,e=.ref a/\X.aeG.heap.objs.size<=lo/\Xo lo a C dx fl H s.heap/\H dx=some (.xd [("at",v)])/\PySem.W.nsIn X.K mainGlobals (x.cls:Str)=some (some (.ref C))/\ao X.K μ H x.fld v
def uX(X:Cx)(μ:List Addr)(H:Hp)(x:Xc)(st:ak):Prop :=
 ∀(pins:List (Addr×Obj)) (σ':L2.St) (H':Hp) (μ':List Addr) (e:Value) (s':Shared),bf μ H μ' H'->aV X.K μ' H' st->Inv X pins σ' H' s'->ExcAt X μ' H' x e s'->X.xe e s'
def uX.mono(g:bf μ H μ1 H1)(h:uX X μ H x st):uX X μ1 H1 x st :=
 λpins σ' H' μ' e s' g'=>h pins σ' H' μ' e s' (g.trans g')
noncomputable abbrev Rel(α β:Type):=List Addr->Hp->α->β->Prop
def bL{α β:Type}(X:Cx)(μ:List Addr)(H:Hp)(rel:Rel α β)(Q:β->Hp->Prop)(r:R α):Prop:=match r with
 | .ok a st=>∀(b:β) (H':Hp) (μ':List Addr),bf μ H μ' H'->aV X.K μ' H' st->rel μ' H' a b->Q b H'
 | .err x st=>uX X μ H x st
 | .bad=>False
section
variable  {α β γ δ:Type}{X:Cx}{μ μ1:List Addr}{H H1:Hp}{rel:Rel α β}{NK:Rel γ δ}{Q Q':β->Hp->Prop}{r:R α}
def bL.mono(g:bf μ H μ1 H1)(h:bL X μ H rel Q r):bL X μ1 H1 rel Q r:=by
 cases r with
 | ok a st=>exact λb H' μ' g'=>h b H' μ' (g.trans g')
 | err x st=>exact uX.mono g h
 | bad=>exact h
def bL.imp(h:bL X μ H rel Q r)(k:∀b H',Q b H'->Q' b H'):bL X μ H rel Q' r:=by
 cases r with
 | ok a st=>exact λb H' μ' g' h1 h2=>k b H' (h b H' μ' g' h1 h2)
 | err x st=>exact h
 | bad=>exact h
def Then(X:Cx)(μ:List Addr)(H:Hp)(rel:Rel α β)(NK:Rel γ δ)(Q2:δ->Hp->Prop)(f:α->ak->R γ):β->Hp->Prop :=
 λb H1=>∃μ1 st1 a,bf μ H μ1 H1/\aV X.K μ1 H1 st1/\rel μ1 H1 a b/\bL X μ1 H1 NK Q2 (f a st1)
def bL.bind(h:bL X μ H NK Q2 (r.bind f)):bL X μ H rel (Then X μ H rel NK Q2 f) r:=by
 cases r with
 | ok a st=>exact λb H' μ' g h1 h2=>⟨μ',st,a,g,h1,h2,bL.mono g h⟩
 | err x st=>exact h
 | bad=>exact h
def bL.ret(h:bL X μ H rel Q (.ok a st))(hs:aV X.K μ H st)(hr:rel μ H a b):Q b H:=h b H μ (.refl _ _) hs hr
end
noncomputable abbrev lu(X:Cx):Rel D V:=fun μ H d v=>ao X.K μ H d v
noncomputable abbrev acU(X:Cx):Rel (List D) (List V):=fun μ H d v=>aq X.K μ H d v
noncomputable abbrev Dc:Rel Bool Bool:=λ_ _ a b=>a=b
noncomputable abbrev acR:Rel (Option Int) (Option Int):=λ_ _ a b=>a=b
noncomputable abbrev ME:=aJ->ak->R D
noncomputable abbrev MA:=aJ->ak->R (List D)
noncomputable abbrev MT:=aJ->ak->R Bool
noncomputable abbrev MP:=aJ->ak->R (Option Int)
noncomputable def tM(X:Cx)(m:ME):TE:=fun σ H Q=>∃μ env st,dJ X.K μ H env σ/\aV X.K μ H st/\bL X μ H (lu X) Q (m env st)
noncomputable def tMA(X:Cx)(m:MA):TA:=fun σ H Q=>∃μ env st,dJ X.K μ H env σ/\aV X.K μ H st/\bL X μ H (acU X) Q (m env st)
noncomputable def tMT(X:Cx)(m:MT):TT:=fun σ H Q=>∃μ env st,dJ X.K μ H env σ/\aV X.K μ H st/\bL X μ H Dc Q (m env st)
noncomputable def tMP(X:Cx)(m:MP):TO:=fun σ H Q=>∃μ env st,dJ X.K μ H env σ/\aV X.K μ H st/\bL X μ H acR Q (m env st)
def JE(X:Cx)(e:Expr)(m:ME):Prop:=PE X e (tM X m)
def JT(X:Cx)(e:Expr)(m:MT):Prop:=PT X e (tMT X m)
def JA(X:Cx)(es:List Expr)(m:MA):Prop:=PA X es (tMA X m)
def JP(X:Cx)(e:Option Expr)(m:MP):Prop:=PO X e (tMP X m)
section
variable  {X:Cx}{e a b c:Expr}{es:List Expr}{t:TE}{ma mb mc:ME}{mA:MA}{pos:Pos}
def JE.of(h:PE X e t)(k:∀σ H Q,tM X m σ H Q->t σ H Q):JE X e m:=λpins s σ H Q I q=>h pins s σ H Q I (k σ H Q q)
def JT.of{t:TT}{m:MT}(h:PT X e t)(k:∀σ H Q,tMT X m σ H Q->t σ H Q):JT X e m:=λpins s σ H Q I q=>h pins s σ H Q I (k σ H Q q)
def JA.of{t:TA}{m:MA}(h:PA X es t)(k:∀σ H Q,tMA X m σ H Q->t σ H Q):JA X es m:=λpos pins s σ H Q I q=>h pos pins s σ H Q I (k σ H Q q)
def JP.of{o:Option Expr}{t:TO}{m:MP}(h:PO X o t)(k:∀σ H Q,tMP X m σ H Q->t σ H Q):JP X o m:=λpins s σ H Q I q=>h pins s σ H Q I (k σ H Q q)
noncomputable def vr(i:Nat):ME:=λenv st=>match env[i]? with | some (some d)=>.ok d st | _=>.bad
noncomputable def ct(d:D):ME:=λ_ st=>.ok d st
def FJ(i:Nat){pos:Pos}(hN:X.N[i]? = some x:=by rfl)(hv:Vis X.env.scope x:=by first | exact Or.inl rfl | exact Or.inr (Or.inl rfl) | exact Or.inr (Or.inr rfl))(hd:(x==("__debug__":Str))=false:=by decide) 
  (xV:(x==("__classdict__":Str))=false:=by decide):JE X (.Name x pos) (vr i):=JE.of (Hw hN hv hd xV) fun σ H Q zz=>by
 obtain⟨μ,env,st,he,hs,hp⟩:=zz;unfold vr at hp
 split at hp
 ·rename_i d e;obtain⟨v,h1,h2⟩:=he.at_ i d e;exact⟨v,h1,hp.ret hs h2⟩
 ·exact hp.elim
def Wi{i j pos}:JE X (.Constant (.int i) j pos) (ct (.int i)):=by
 refine JE.of Vp fun σ H Q zz=>?_;obtain⟨μ,env,st,he,hs,hp⟩:=zz;exact hp.ret hs (ao.aN.mpr rfl)
def abj{b j pos}:JE X (.Constant (.bool b) j pos) (ct (.bl b)):=by
 refine JE.of aaZ fun σ H Q zz=>?_;obtain⟨μ,env,st,he,hs,hp⟩:=zz;exact hp.ret hs (ao.bA.mpr rfl)
def Wd{j pos}:JE X (.Constant .none j pos) (ct .non):=by
 refine JE.of Vm fun σ H Q zz=>?_;obtain⟨μ,env,st,he,hs,hp⟩:=zz;exact hp.ret hs (ao.bK.mpr rfl)
def Wa{j pos}(cs:List Nat)(h:x=strOf cs:=by decide +kernel):JE X (.Constant (.str x) j pos) (ct (.str cs)):=by
 refine JE.of Vi fun σ H Q zz=>?_;obtain⟨μ,env,st,he,hs,hp⟩:=zz;exact hp.ret hs (ao.aQ.mpr (by rw[h]))
noncomputable def aD(g:D->D->ak->R D)(a b:ME):ME:=λenv st=>(a env st).bind λx st1=>(b env st1).bind λy st2=>g x y st2
noncomputable def uG(g:D->ak->R D)(a:ME):ME:=λenv st=>(a env st).bind λx st1=>g x st1
noncomputable def rM(X:Cx)(g:D->D->ak->R D):R2:=λx y H Q=>∃μ st dx dy,aV X.K μ H st/\ao X.K μ H dx x/\ao X.K μ H dy y/\bL X μ H (lu X) Q (g dx dy st)
def rM1(X:Cx)(g:D->ak->R D):V->Hp->VK->Prop:=λx H Q=>∃μ st dx,aV X.K μ H st/\ao X.K μ H dx x/\bL X μ H (lu X) Q (g dx st)
def Mg(X:Cx)(g:List D->ak->R D):List V->Hp->VK->Prop:=λxs H Q=>∃μ st ds,aV X.K μ H st/\aq X.K μ H ds xs/\bL X μ H (lu X) Q (g ds st)
def Df(X:Cx)(g:D->List D->ak->R D):V->List V->Hp->VK->Prop:=λx xs H Q=>∃μ st d ds,aV X.K μ H st/\ao X.K μ H d x/\aq X.K μ H ds xs/\bL X μ H (lu X) Q (g d ds st)
def d9.weak(h:d9 X f r)(k:∀x y H Q,r' x y H Q->r x y H Q):d9 X f r':=λpins s σ H x y v u Q I rx ry q=>h pins s σ H x y v u Q I rx ry (k x y H Q q)
def Rj.weak(h:Rj X f r)(k:∀x H Q,r' x H Q->r x H Q):Rj X f r':=λpins s σ H x v Q I rx q=>h pins s σ H x v Q I rx (k x H Q q)
def cG.weak(h:cG X f r)(k:∀x H Q,r' x H Q->r x H Q):cG X f r':=λpins s σ H x v Q I rx q=>h pins s σ H x v Q I rx (k x H Q q)
def qd.weak{id:String}{r r':V->List V->Hp->VK->Prop}(h:qd X id r)(k:∀x xs H Q,r' x xs H Q->r x xs H Q):qd X id r':=λpins s σ H x xs v us Q I rx rs q=>h pins s σ H x xs v us Q I rx rs (k x xs H Q q)
def BP.weak(h:BP X r)(k:∀x y H Q,r' x y H Q->r x y H Q):BP X r':=λva sl pins s σ H x y v u Q I rx ry q=>h va sl pins s σ H x y v u Q I rx ry (k x y H Q q)
def yf.weak(h:yf X r)(k:∀x l u H Q,r' x l u H Q->r x l u H Q):yf X r':=λpins s σ H x v vl vu lo hi sl Q I rx hs pl pu q=>h pins s σ H x v vl vu lo hi sl Q I rx hs pl pu (k x lo hi H Q q)
def ZD(h:tM X (aD g ma mb) σ H Q):tM X ma σ H λx H1=>tM X mb σ H1 λy H2=>rM X g x y H2 Q:=by
 obtain⟨μ,env,st,he,hs,hp⟩:=h;refine⟨μ,env,st,he,hs,hp.bind.imp ?_⟩;rintro x H1 ⟨μ1,st1,d,g1,bF,hx,aR⟩;refine⟨μ1,env,st1,he.mono g1,bF,aR.bind.imp ?_⟩;rintro y H2 ⟨μ2,st2,d2,g2,iu,hy,dq⟩;exact⟨μ2,st2,d,d2,iu,hx.mono g2 _,hy,dq⟩
def R_(ho:d9 X (binaryOp op) (rM X g))(ha:JE X a ma)(hb:JE X b mb):JE X (.BinOp a op b pos) (aD g ma mb) :=
 JE.of (aaW ho ha hb) fun σ H Q h=>ZD h
def Wm(ho:d9 X (compareOp op) (rM X g))(ha:JE X a ma)(hb:JE X b mb)(hm:behindInMarks op b=false):JE X (.Compare a [op] [b] pos) (aD g ma mb) :=
 JE.of (OD ho ha hb hm) fun σ H Q h=>ZD h
def abe(ho:Rj X (unaryOp op) (rM1 X g))(ha:JE X a ma):JE X (.UnaryOp op a pos) (uG g ma):=by
 refine JE.of (aaU ho ha) fun σ H Q zz=>?_;obtain⟨μ,env,st,he,hs,hp⟩:=zz;refine⟨μ,env,st,he,hs,hp.bind.imp λx H1 zz=>?_⟩;obtain⟨μ1,st1,d,g1,bF,hx,aR⟩:=zz;exact⟨μ1,st1,d,bF,hx,aR⟩
noncomputable def eY(a:ME):MT:=λenv st=>(a env st).bind λx st1=>match x with | .bl b=>.ok b st1 | _=>.bad
def V4(ho:d9 X (compareOp op) (rM X g))(ha:JE X a ma)(hb:JE X b mb)(hm:behindInMarks op b=false):JT X (.Compare a [op] [b] pos) (eY (aD g ma mb)):=by
 refine JT.of (N_ ho ha hb hm) fun σ H Q zz=>?_;obtain⟨μ,env,st,he,hs,hp⟩:=zz;refine ZD ⟨μ,env,st,he,hs,hp.bind.imp ?_⟩;rintro x H1 ⟨μ1,st1,d,g1,bF,hx,aR⟩;cases d with
 | bl b=>exact⟨b,ao.bA.mp hx,aR.ret bF rfl⟩
 | _=>exact aR.elim
noncomputable def iZ:D->ak->Option Bool
 | .non,_=>some false
 | .bl b,_=>some b
 | .int i,_=>some (i != 0)
 | .str cs,_=>if cs.length<=1000000 then some (!cs.isEmpty) else none
 | .tup ds,_=>some (!ds.isEmpty)
 | .loc n,st=>match st[n]? with
  | some (.lst ds)=>some (!ds.isEmpty)
  | some (.frz ds)=>some (!ds.isEmpty)
  | _=>none
noncomputable def jU(a:ME):MT:=λenv st=>(a env st).bind λx st1=>match iZ x st1 with | some b=>.ok b st1 | none=>.bad
def xm(h:n<=1000000):n<=sizeLine:=h_ h (by decide)
def aV.lst{K:PySem.W.Frag}{μ:List Addr}{H:Hp}{st:ak}{n:Nat}{ds:List D}(h:aV K μ H st)(e:st[n]? = some (.lst ds)):∃p xs,μ[n]? = some p/\H p=some (.lst xs)/\aq K μ H ds xs:=by
 obtain⟨p,h1,xs,h2,h3⟩:=h.at_ n _ e;exact⟨p,xs,h1,h2,h3⟩
noncomputable def aA(st:ak)(n:Nat):Option (List D):=match st[n]? with
 | some (.lst ds)=>some ds
 | some (.frz ds)=>some ds
 | _=>none
def aV.items{K:PySem.W.Frag}{μ:List Addr}{H:Hp}{st:ak}{n:Nat}{ds:List D}(h:aV K μ H st)(e:aA st n=some ds):∃p xs,μ[n]? = some p/\lM K H p xs/\aq K μ H ds xs:=by
 unfold aA at e
 split at e
 ·rename_i es q;cases e;obtain⟨p,xs,h1,h2,h3⟩:=h.lst q;exact⟨p,xs,h1,lM.of h2,h3⟩
 ·rename_i es q;cases e;obtain⟨p,h1,xs,h2,h3⟩:=h.at_ n _ q;exact⟨p,xs,h1,h2.sqL,h3⟩
 ·cases e
def aq.isEmpty(h:aq K μ H ds xs):ds.isEmpty=xs.isEmpty:=by
 have:=h.length;cases ds<;>cases xs<;>simp_all
def Nf{d:D}{st:ak}{b:Bool}{μ:List Addr}{H:Hp}{v:V}(h:iZ d st=some b)(hs:aV X.K μ H st)(hv:ao X.K μ H d v):Xq X.K v H b:=by
 cases d with
 | non=>rw[ao.bK]at hv;subst hv;cases h;rfl
 | bl c=>rw[ao.bA]at hv;subst hv;cases h;rfl
 | int i=>rw[ao.aN]at hv;subst hv;cases h;rfl
 | str cs =>
  rw[ao.aQ]at hv;subst hv;simp only[iZ]at h
  split at h
  ·rename_i hl;cases h;have e:(strOf cs).length=cs.length:=by simp[Str.length,strOf]
   refine⟨by rw[e];exact xm hl,?_⟩;rw[e];cases cs<;>simp;omega
  ·cases h
 | tup ds =>
  rw[ao.aU]at hv;obtain⟨a,xs,rfl,h1,h2⟩:=hv;cases h;exact .inr (.inl ⟨xs,h1.pN,by rw[h2.isEmpty]⟩)
 | loc n =>
  rw[ao.aH]at hv;obtain⟨a,h1,rfl⟩:=hv;have key:∃ds,aA st n=some ds/\b=!ds.isEmpty:=by
   unfold aA;simp only[iZ]at h
   split at h
   ·rename_i q;cases h;exact⟨_,rfl,rfl⟩
   ·rename_i q;cases h;exact⟨_,rfl,rfl⟩
   ·cases h
  obtain⟨ds,q,rfl⟩:=key;obtain⟨p,xs,h3,h4,h5⟩:=hs.items q;rw[h1]at h3;cases h3;exact .inl ⟨xs,h4,by rw[h5.isEmpty]⟩
def Jj(ha:JE X a ma)(he:∀whole,isTrue a X.env whole=(do let v <-whole;standAt a.pos;holding [v] (truthy v)):=by intro _;rfl):JT X a (jU ma):=by
 refine JT.of (Hn ha he) fun σ H Q zz=>?_;obtain⟨μ,env,st,hE,hs,hp⟩:=zz;refine⟨μ,env,st,hE,hs,hp.bind.imp ?_⟩;rintro x H1 ⟨μ1,st1,d,g1,bF,hx,aR⟩;cases e:iZ d st1 with
 | none=>simp only[e]at aR;exact aR.elim
 | some b=>simp only[e]at aR;exact⟨b,Nf e bF hx,aR.ret bF rfl⟩
def JW(X:Cx)(e:Expr)(m:MT):Prop:=PW X e (tMT X m)
def JW.jt(h:JW X e m):JT X e m:=PW.pt h
def JW.of{t:TT}{m:MT}(h:PW X e t)(k:∀σ H Q,tMT X m σ H Q->t σ H Q):JW X e m:=λw pins s σ H Q I q=>h w pins s σ H Q I (k σ H Q q)
noncomputable def t6(a b:MT):MT:=λenv st=>(a env st).bind λx st1=>if x then b env st1 else .ok false st1
noncomputable def xJ(a b:MT):MT:=λenv st=>(a env st).bind λx st1=>if x then .ok true st1 else b env st1
noncomputable def lz(a:MT):MT:=λenv st=>(a env st).bind λx st1=>.ok (!x) st1
variable  {ta tb tc:MT}{rest:List Expr}
def PJ(ha:JT X a ta):JW X (.BoolOp .And [a] pos) ta:=N7 ha
def V2(ha:JT X a ta):JW X (.BoolOp .Or [a] pos) ta:=U5 ha
def Ji(ha:JT X a ta)(hb:JW X (.BoolOp .And (b::rest) pos) tb):JW X (.BoolOp .And (a::b::rest) pos) (t6 ta tb):=by
 refine JW.of (U6 ha hb) fun σ H Q zz=>?_;obtain⟨μ,env,st,hE,hs,hp⟩:=zz;refine⟨μ,env,st,hE,hs,hp.bind.imp ?_⟩;rintro x H1 ⟨μ1,st1,d,g1,bF,rfl,aR⟩;cases d with
 | true=>exact xP ⟨μ1,env,st1,hE.mono g1,bF,aR⟩
 | false=>exact xQ (aR.ret bF rfl)
def R9(ha:JT X a ta)(hb:JW X (.BoolOp .Or (b::rest) pos) tb):JW X (.BoolOp .Or (a::b::rest) pos) (xJ ta tb):=by
 refine JW.of (aaN ha hb) fun σ H Q zz=>?_;obtain⟨μ,env,st,hE,hs,hp⟩:=zz;refine⟨μ,env,st,hE,hs,hp.bind.imp ?_⟩;rintro x H1 ⟨μ1,st1,d,g1,bF,rfl,aR⟩;cases d with
 | true=>exact xP (aR.ret bF rfl)
 | false=>exact xQ ⟨μ1,env,st1,hE.mono g1,bF,aR⟩
def V3(ha:JT X a ta):JT X (.UnaryOp .Not a pos) (lz ta):=by
 refine JT.of (U7 ha) fun σ H Q zz=>?_;obtain⟨μ,env,st,hE,hs,hp⟩:=zz;refine⟨μ,env,st,hE,hs,hp.bind.imp ?_⟩;rintro x H1 ⟨μ1,st1,d,g1,bF,rfl,aR⟩;exact aR.ret bF rfl
noncomputable def tZ(a b:ME):ME:=λenv st=>(a env st).bind λx st1=>match x with | .bl true=>b env st1 | .bl false=>.ok (.bl false) st1 | _=>.bad
noncomputable def HQ(a b:ME):ME:=λenv st=>(a env st).bind λx st1=>match x with | .bl true=>.ok (.bl true) st1 | .bl false=>b env st1 | _=>.bad
noncomputable def Ih(a:ME):ME:=λenv st=>(a env st).bind λx st1=>match x with | .bl c=>.ok (.bl (!c)) st1 | _=>.bad
def Wb{op}(h:JE X a m):JE X (.BoolOp op [a] pos) m:=Vk h
def Wn(ha:JE X a ma)(hb:JE X (.BoolOp .And (b::rest) pos) mb):JE X (.BoolOp .And (a::b::rest) pos) (tZ ma mb):=by
 refine JE.of (Vs ha hb) fun σ H Q zz=>?_;obtain⟨μ,env,st,hE,hs,hp⟩:=zz;refine⟨μ,env,st,hE,hs,hp.bind.imp ?_⟩;rintro x H1 ⟨μ1,st1,d,g1,bF,hx,aR⟩;cases d with
 | bl c =>
  refine⟨c,ao.bA.mp hx,?_⟩;cases c with
  | true=>exact xP ⟨μ1,env,st1,hE.mono g1,bF,aR⟩
  | false=>exact xQ (aR.ret bF (ao.bA.mpr rfl))
 | _=>exact aR.elim
def abf(ha:JE X a ma)(hb:JE X (.BoolOp .Or (b::rest) pos) mb):JE X (.BoolOp .Or (a::b::rest) pos) (HQ ma mb):=by
 refine JE.of (aaV ha hb) fun σ H Q zz=>?_;obtain⟨μ,env,st,hE,hs,hp⟩:=zz;refine⟨μ,env,st,hE,hs,hp.bind.imp ?_⟩;rintro x H1 ⟨μ1,st1,d,g1,bF,hx,aR⟩;cases d with
 | bl c =>
  refine⟨c,ao.bA.mp hx,?_⟩;cases c with
  | true=>exact xP (aR.ret bF (ao.bA.mpr rfl))
  | false=>exact xQ ⟨μ1,env,st1,hE.mono g1,bF,aR⟩
 | _=>exact aR.elim
def Wc(ha:JE X a ma):JE X (.UnaryOp .Not a pos) (Ih ma):=by
 refine JE.of (Vl ha) fun σ H Q zz=>?_;obtain⟨μ,env,st,hE,hs,hp⟩:=zz;refine⟨μ,env,st,hE,hs,hp.bind.imp ?_⟩;rintro x H1 ⟨μ1,st1,d,g1,bF,hx,aR⟩;cases d with
 | bl c=>exact⟨c,ao.bA.mp hx,aR.ret bF (ao.bA.mpr rfl)⟩
 | _=>exact aR.elim
noncomputable def Mj(c:MT)(a b:ME):ME:=λenv st=>(c env st).bind λx st1=>if x then a env st1 else b env st1
def abh(hc:JT X c tc)(ha:JE X a ma)(hb:JE X b mb):JE X (.IfExp c a b pos) (Mj tc ma mb):=by
 refine JE.of (Hy hc ha hb) fun σ H Q zz=>?_;obtain⟨μ,env,st,hE,hs,hp⟩:=zz;refine⟨μ,env,st,hE,hs,hp.bind.imp ?_⟩;rintro x H1 ⟨μ1,st1,d,g1,bF,rfl,aR⟩;cases d with
 | true=>exact xP ⟨μ1,env,st1,hE.mono g1,bF,aR⟩
 | false=>exact xQ ⟨μ1,env,st1,hE.mono g1,bF,aR⟩
noncomputable def au:MA:=λ_ st=>.ok [] st
noncomputable def aj(a:ME)(r:MA):MA:=λenv st=>(a env st).bind λx st1=>(r env st1).bind λxs st2=>.ok (x::xs) st2
def ZC:JA X [] au:=by
 refine JA.of yQ fun σ H Q zz=>?_;obtain⟨μ,env,st,hE,hs,hp⟩:=zz;exact hp.ret hs aq.nil
def XR{e:Expr}{es:List Expr}{m:ME}{mA:MA}(h:JE X e m)(hr:JA X es mA)(hs:starEach (e::es) X.env=(false,eval e X.env)::starEach es X.env:=by rfl):JA X (e::es) (aj m mA):=by
 refine JA.of (ZJ h hr hs) fun σ H Q zz=>?_;obtain⟨μ,env,st,hE,hs,hp⟩:=zz;refine⟨μ,env,st,hE,hs,hp.bind.imp ?_⟩;rintro x H1 ⟨μ1,st1,d,g1,bF,hx,aR⟩;refine⟨μ1,env,st1,hE.mono g1,bF,aR.bind.imp ?_⟩;rintro xs H2 ⟨μ2,st2,ds,g2,iu,jd,dq⟩;exact dq.ret iu (aq.cons (hx.mono g2 _) jd)
noncomputable def fM(m:MA):ME:=λenv st=>(m env st).bind λds st1=>if ds.length<=1000000 then .ok (.tup ds) st1 else .bad
noncomputable def cV(m:MA):ME:=λenv st=>(m env st).bind λds st1=>if ds.length<=1000000 then .ok (.loc st1.length) (st1++[.lst ds]) else .bad
def V_{x1}(h:JA X es mA):JE X (.Tuple es x1 pos) (fM mA):=by
 refine JE.of (Vh h) fun σ H Q zz=>?_;obtain⟨μ,env,st,hE,hs,hp⟩:=zz;refine⟨μ,env,st,hE,hs,hp.bind.imp ?_⟩;rintro xs H1 ⟨μ1,st1,ds,g1,bF,jd,aR⟩;dsimp only at aR
 split at aR
 ·rename_i hl;refine⟨by rw[<-jd.length];exact xm hl,λp hn=>?_⟩;exact aR _ _ μ1 (bf.lay hn) (bF.lay hn) (ao.aU.mpr ⟨p,xs,rfl,.inl rm,jd.mono (bf.lay hn) _⟩)
 ·exact aR.elim
def bL.newList(h:bL X μ H (lu X) Q (.ok (.loc st.length) (st++[.lst ds])))(hs:aV X.K μ H st)(hx:aq X.K μ H ds xs)(hn:H p=none) :
  Q (.ref p) (upd H p (.lst xs)):=by
 have g:bf μ H (μ++[p]) (upd H p (.lst xs)):=bf.new hn;refine h _ _ (μ++[p]) g (hs.new hn ⟨xs,rm,hx.mono g _⟩) (ao.aH.mpr ⟨p,?_,rfl⟩);rw[<-hs.len];simp
def Wf(h:JA X es mA):JE X (.List es pos) (cV mA):=by
 refine JE.of (Vn h) fun σ H Q zz=>?_;obtain⟨μ,env,st,hE,hs,hp⟩:=zz;refine⟨μ,env,st,hE,hs,hp.bind.imp ?_⟩;rintro xs H1 ⟨μ1,st1,ds,g1,bF,jd,aR⟩;dsimp only at aR
 split at aR
 ·rename_i hl;exact⟨by rw[<-jd.length];exact xm hl,λp hn=>aR.newList bF jd hn⟩
 ·exact aR.elim
end
section
variable  {X:Cx}{e a b c:Expr}{es:List Expr}{t:TE}{ma mb mc:ME}{mA:MA}{pos:Pos}
def zf1(cs:List Nat):(strOf cs).length=cs.length:=by simp[Str.length,strOf]
def CN(a b:List Nat):strOf a++strOf b=strOf (a++b):=by
 show Str.append _ _=_;simp[Str.append,strOf]
def zof{a b:List Nat}:strOf a=strOf b↔a=b:=by
 constructor
 ·intro h;have:=congrArg (λs:Str=>s.cps.toList) h;simpa[strOf] using this
 ·intro h;rw[h]
noncomputable def bj:D->D->ak->R D
 | .int i,.int j,st=>.ok (.int (i+j)) st
 | .str a,.str b,st=>if a.length+b.length<=1000000 then .ok (.str (a++b)) st else .bad
 | .tup a,.tup b,st=>if a.length+b.length<=1000000 then .ok (.tup (a++b)) st else .bad
 | .loc m,.loc n,st=>match st[m]?,st[n]? with
  | some (.lst a),some (.lst b)=>if a.length+b.length<=1000000 then .ok (.loc st.length) (st++[.lst (a++b)]) else .bad
  | _,_=>.bad
 | _,_,_=>.bad
def Ag:d9 X (binaryOp .Add) (rM X bj):=by
 refine d9.weak (d9.or Vz (d9.or zrq (d9.or O7 (d9.or Ib Vy)))) ?_;rintro x y H Q ⟨μ,st,dx,dy,hs,hx,hy,hp⟩;cases dx with
 | int i =>
  cases dy with
  | int j =>
   rw[ao.aN]at hx hy;subst hx hy;exact .inl ⟨i,j,rfl,rfl,hp.ret hs (ao.aN.mpr rfl)⟩
  | _=>exact hp.elim
 | str i =>
  cases dy with
  | str j =>
   rw[ao.aQ]at hx hy;subst hx hy;simp only[bj]at hp
   split at hp
   ·rename_i hl;refine .inr (.inl ⟨_,_,rfl,rfl,?_,?_⟩)
    ·rw[zf1,zf1];exact xm hl
    ·rw[CN];exact hp.ret hs (ao.aQ.mpr rfl)
   ·exact hp.elim
  | _=>exact hp.elim
 | tup i =>
  cases dy with
  | tup j =>
   rw[ao.aU]at hx hy;obtain⟨p,xs,rfl,h1,h2⟩:=hx;obtain⟨q,ys,rfl,h3,h4⟩:=hy;simp only[bj]at hp
   split at hp
   ·rename_i hl;by_cases hx0:xs=[]
    ·subst hx0;have hi:i=[]:=by have:=h2.length;simpa using this
     subst hi;exact .inr (.inr (.inr (.inl ⟨p,q,ys,rfl,rfl,h1.pN,h3.pN,hp.ret hs (ao.aU.mpr ⟨q,ys,rfl,h3,h4⟩)⟩)))
    ·refine .inr (.inr (.inl ⟨p,q,xs,ys,rfl,rfl,h1.pN,h3.pN,hx0,by rw[<-h2.length,<-h4.length];exact xm hl,λhy0=>?_,λ_ r hr=>?_⟩))
     ·subst hy0;have hj:j=[]:=by have:=h4.length;simpa using this
      subst hj;exact hp.ret hs (ao.aU.mpr ⟨p,xs,rfl,by rw[gR];exact h1,by rw[gR];exact h2⟩)
     ·exact hp _ _ μ (bf.lay hr) (hs.lay hr) (ao.aU.mpr ⟨r,_,rfl,.inl rm,(h2.append h4).mono (bf.lay hr) _⟩)
   ·exact hp.elim
  | _=>exact hp.elim
 | loc m =>
  cases dy with
  | loc n =>
   rw[ao.aH]at hx hy;obtain⟨p,h1,rfl⟩:=hx;obtain⟨q,h2,rfl⟩:=hy;simp only[bj]at hp
   split at hp
   ·rename_i da db e1 e2
    split at hp
    ·rename_i hl;obtain⟨p',xs,h3,h4,h5⟩:=hs.lst e1;obtain⟨q',ys,h6,h7,h8⟩:=hs.lst e2;rw[h1]at h3;cases h3;rw[h2]at h6;cases h6;exact .inr (.inr (.inr (.inr ⟨p,q,xs,ys,rfl,rfl,h4,h7,by rw[<-h5.length,<-h8.length];exact xm hl,λr hr=>hp.newList hs (h5.append h8) hr⟩)))
    ·exact hp.elim
   ·exact hp.elim
  | _=>exact hp.elim
 | _=>exact hp.elim
noncomputable def qI(C:Int->Int->Prop)[∀i j,Decidable (C i j)](g:Int->Int->D):D->D->ak->R D
 | .int i,.int j,st=>if C i j then .ok (g i j) st else .bad
 | _,_,_=>.bad
def Yb[∀i j,Decidable (C i j)](h:d9 X f (rI C gv))(hg:∀i j μ H,ao X.K μ H (g i j) (gv i j)):d9 X f (rM X (qI C g)):=by
 refine d9.weak h ?_;rintro x y H Q ⟨μ,st,dx,dy,hs,hx,hy,hp⟩;cases dx with
 | int i =>
  cases dy with
  | int j =>
   rw[ao.aN]at hx hy;subst hx hy;simp only[qI]at hp
   split at hp
   ·rename_i hc;exact⟨i,j,rfl,rfl,hc,hp.ret hs (hg i j μ H)⟩
   ·exact hp.elim
  | _=>exact hp.elim
 | _=>exact hp.elim
def d9.top(h:d9 X f (U0 gv)):d9 X f (rI (λ_ _=>True) gv):=by
 refine d9.weak h λx y H Q zz=>?_;obtain⟨i,j,a,b,_,q⟩:=zz;exact⟨i,j,a,b,q⟩
noncomputable def ux:D->D->ak->R D:=qI (λ_ _=>True) λi j=>.int (i - j)
def O2:d9 X (binaryOp .Sub) (rM X ux):=Yb (d9.top Vt) λi j μ H=>ao.aN.mpr rfl
noncomputable def lC:D->D->ak->R D:=qI (λi j=>(-(2 ^ 64)<i/\i<2 ^ 64)\/(-(2 ^ 64)<j/\j<2 ^ 64)) λi j=>.int (i*j)
def O5:d9 X (binaryOp .Mult) (rM X lC):=Yb (d9.weak Vv λx y H Q h=>h) λi j μ H=>ao.aN.mpr rfl
noncomputable def dG:D->D->ak->R D:=qI (λ_ j=>0<j/\j<2 ^ 64) λi j=>.int (i / j)
def H_:d9 X (binaryOp .FloorDiv) (rM X dG):=Yb HY λi j μ H=>ao.aN.mpr rfl
noncomputable def eN:D->D->ak->R D:=qI (λ_ j=>0<j) λi j=>.int (i % j)
def O6:d9 X (binaryOp .Mod) (rM X eN):=Yb Vw λi j μ H=>ao.aN.mpr rfl
noncomputable def ltV:D->D->ak->R D:=qI (λ_ _=>True) λi j=>.bl (decide (i<j))
def HW:d9 X (compareOp .Lt) (rM X ltV):=Yb (d9.top aa0) λi j μ H=>ao.bA.mpr rfl
noncomputable def Xa:D->D->ak->R D:=qI (λ_ _=>True) λi j=>.bl (decide (j<i))
def HX:d9 X (compareOp .Gt) (rM X Xa):=Yb (d9.top aa1) λi j μ H=>ao.bA.mpr rfl
noncomputable def yR:D->ak->R D
 | .int i,st=>.ok (.int (-i)) st
 | _,_=>.bad
def M9:Rj X (unaryOp .USub) (rM1 X yR):=by
 refine Rj.weak Uq ?_;rintro x H Q ⟨μ,st,dx,hs,hx,hp⟩;cases dx with
 | int i=>rw[ao.aN]at hx;subst hx;exact⟨i,rfl,hp.ret hs (ao.aN.mpr rfl)⟩
 | _=>exact hp.elim
noncomputable def bI:D->D->ak->R D
 | .non,.non,st=>.ok (.bl true) st
 | _,.non,st=>.ok (.bl false) st
 | _,_,_=>.bad
noncomputable def lA:D->D->ak->R D
 | .non,.non,st=>.ok (.bl false) st
 | _,.non,st=>.ok (.bl true) st
 | _,_,_=>.bad
def ao.vZ(h:ao K μ H d v):decide (v=.non)=(match d with | .non=>true | _=>false):=by
 cases d with
 | non=>rw[ao.bK]at h;subst h;rfl
 | bl b=>rw[ao.bA]at h;subst h;rfl
 | int b=>rw[ao.aN]at h;subst h;rfl
 | str b=>rw[ao.aQ]at h;subst h;rfl
 | tup b=>rw[ao.aU]at h;obtain⟨_,_,rfl,_⟩:=h;rfl
 | loc b=>rw[ao.aH]at h;obtain⟨_,_,rfl⟩:=h;rfl
def zmj:d9 X (compareOp .Is) (rM X bI):=by
 refine d9.weak Vx ?_;rintro x y H Q ⟨μ,st,dx,dy,hs,hx,hy,hp⟩;cases dy with
 | non =>
  rw[ao.bK]at hy;refine⟨hy,?_⟩;rw[hx.vZ];cases dx<;>exact hp.ret hs (ao.bA.mpr rfl)
 | _=>cases dx<;>exact hp.elim
def zjw:d9 X (compareOp .IsNot) (rM X lA):=by
 refine d9.weak O4 ?_;rintro x y H Q ⟨μ,st,dx,dy,hs,hx,hy,hp⟩;cases dy with
 | non =>
  rw[ao.bK]at hy;refine⟨hy,?_⟩;rw[hx.vZ];cases dx<;>exact hp.ret hs (ao.bA.mpr rfl)
 | _=>cases dx<;>exact hp.elim
noncomputable def aZ:D->D->ak->R D
 | .loc n,.int i,st=>match (aA st n).bind λds=>pW ds i with | some d=>.ok d st | none=>.bad
 | .tup ds,.int i,st=>match pW ds i with | some d=>.ok d st | none=>.bad
 | .str cs,.int i,st=>if cs.length<=1000000 then (match pW cs i with | some c=>.ok (.str [c]) st | none=>.bad) else .bad
 | _,_,_=>.bad
def aq.pW(h:aq K μ H ds xs)(e:L2.pW ds i=some d):∃v,L2.pW xs i=some v/\ao K μ H d v:=by
 unfold L2.pW at e ⊢;rw[<-h.length];cases q:JB ds.length i with
 | none=>rw[q]at e;cases e
 | some j =>
  rw[q]at e;exact h.get (by simpa using e)
def adA:BP X (rM X aZ):=by
 refine BP.weak Wq ?_;rintro x y H Q ⟨μ,st,dx,dy,hs,hx,hy,hp⟩;cases dy with
 | int i =>
  rw[ao.aN]at hy;subst hy;cases dx with
  | loc n =>
   rw[ao.aH]at hx;obtain⟨p,h1,rfl⟩:=hx;simp only[aZ]at hp;cases e:aA st n with
   | none=>rw[e]at hp;exact hp.elim
   | some ds =>
    rw[e]at hp;cases e2:L2.pW ds i with
    | none=>simp only[mR,e2]at hp;exact hp.elim
    | some d =>
     simp only[mR,e2]at hp;obtain⟨p',xs,h3,h4,h5⟩:=hs.items e;rw[h1]at h3;cases h3;obtain⟨v,h6,h7⟩:=h5.pW e2;exact .inl ⟨p,xs,i,v,rfl,rfl,h4,h6,hp.ret hs h7⟩
  | tup ds =>
   rw[ao.aU]at hx;obtain⟨p,xs,rfl,h1,h2⟩:=hx;simp only[aZ]at hp;cases e2:L2.pW ds i with
   | none=>simp only[e2]at hp;exact hp.elim
   | some d =>
    simp only[e2]at hp;obtain⟨v,h6,h7⟩:=h2.pW e2;exact .inr (.inl ⟨p,xs,i,v,rfl,rfl,h1.pN,h6,hp.ret hs h7⟩)
  | str cs =>
   rw[ao.aQ]at hx;subst hx;simp only[aZ]at hp
   split at hp
   ·rename_i hl;cases e2:L2.pW cs i with
    | none=>simp only[e2]at hp;exact hp.elim
    | some c =>
     simp only[e2]at hp;exact .inr (.inr ⟨_,i,c,rfl,rfl,by rw[zf1];exact xm hl,by simpa[strOf] using e2,hp.ret hs (ao.aQ.mpr rfl)⟩)
   ·exact hp.elim
  | _=>exact hp.elim
 | _=>cases dx<;>exact hp.elim
def abg(ha:JE X a ma)(hb:JE X b mb)(hs:BL b:=by exact λ_ _=>rfl):JE X (.Subscript a b pos) (aD aZ ma mb) :=
 JE.of (aaX adA ha hb hs) fun σ H Q h=>ZD h
end
section
variable  {X:Cx}{e a b c:Expr}{es:List Expr}{t:TE}{ma mb mc:ME}{mA:MA}{pos p2:Pos}
noncomputable def cut{α:Type}(xs:List α)(lo hi:Option Int):List α:=(xs.drop (HT.dh xs.length 0 lo)).take (HT.dh xs.length xs.length hi - HT.dh xs.length 0 lo)
def aq.cut{K:PySem.W.Frag}{μ:List Addr}{H:Hp}{ds:List D}{xs:List V}(h:aq K μ H ds xs)(lo hi:Option Int):aq K μ H (M.cut ds lo hi) (yc xs lo hi):=by
 unfold M.cut yc;rw[<-h.length];exact (h.drop _).take _
def Es{α:Type}{xs:List α}{lo hi:Option Int}(h:HT.dh xs.length 0 lo=0/\HT.dh xs.length xs.length hi=xs.length):cut xs lo hi=xs:=by
 unfold cut;rw[h.1,h.2];simp
def CV(i j:Nat):sliceRange (i:Int) (j:Int) 1=(List.range (j - i)).map λk=>i+k:=by
 unfold sliceRange;simp only[show (1:Int) > 0 by decide,if_true];have e:(if (i:Int)<(j:Int) then ((j:Int) - (i:Int)+1 - 1) / 1 else 0).toNat=j - i:=by
  split
  ·rw[Int.ediv_one];omega
  ·omega
 rw[e];refine kE λk _=>?_;omega
def Nr(lo hi:Option Int)(n:Nat):Builtin.Str.strSliceIndices lo hi 1 n=(List.range (HT.dh n n hi - HT.dh n 0 lo)).map λk=>HT.dh n 0 lo+k:=by
 rw[<-CV];unfold Builtin.Str.strSliceIndices;simp only[show (1:Int) > 0 by decide,if_true];congr 1
 ·cases lo with
  | none=>rfl
  | some v =>
   show max 0 (min (if v<0 then v+(n:Int) else v) (n:Int))=((if v<0 then (v+(n:Int)).toNat else min v.toNat n:Nat):Int)
   split<;>omega
 ·cases hi with
  | none=>rfl
  | some v =>
   show max 0 (min (if v<0 then v+(n:Int) else v) (n:Int))=((if v<0 then (v+(n:Int)).toNat else min v.toNat n:Nat):Int)
   split<;>omega
def zqq(cs:List Nat)(i k:Nat):((List.range k).map λm=>i+m).filterMap (λm=>cs[m]?)=(cs.drop i).take k:=by
 induction k generalizing i with
 | zero=>simp
 | succ k ih =>
  rw[List.range_succ_eq_map,gw,nA,gG];have e:((λm=>i+m)∘Nat.succ)=λm=>(i+1)+m:=by funext m;simp;omega
  rw[e,ih (i+1)];cases q:cs[i]? with
  | none =>
   have hl:cs.length<=i:=List.getElem?_eq_none_iff.mp q;simp[q,nj hl,nj (Nat.le_succ_of_le hl)]
  | some c =>
   have hl:=(gh.mp q).1;have hc:=(gh.mp q).2;simp[q,nq hl,hc]
def CQ(cs:List Nat)(lo hi:Option Int):Txt.slice (strOf cs) lo hi=strOf (cut cs lo hi):=by
 have e:(strOf cs).length=cs.length:=by simp[Str.length,strOf]
 unfold Txt.slice;rw[e,Nr];have hj:HT.dh cs.length cs.length hi<=cs.length:=HT.G7 _ _ (gb _) hi;have q:((List.range (HT.dh cs.length cs.length hi - HT.dh cs.length 0 lo)).map λk=>HT.dh cs.length 0 lo+k).filterMap (λm=>(strOf cs).cps[m]?)=cut cs lo hi:=by
  have:(λ(m:Nat)=>(strOf cs).cps[m]?)=λ(m:Nat)=>cs[m]?:=by funext m;simp[strOf]
  rw[this,zqq];rfl
 split
 ·rename_i h;rw[gM]at h;have h2:HT.dh cs.length cs.length hi - HT.dh cs.length 0 lo=cs.length:=by simpa using h.2
  have h3:cut cs lo hi=cs:=by
   unfold cut;rw[h2];by_cases hz:cs.length=0
   ·have:cs=[]:=List.length_eq_zero_iff.mp hz;subst this;simp
   ·have:HT.dh cs.length 0 lo=0:=by omega
    rw[this];simp
  rw[h3]
 ·rw[q]
noncomputable def vz:D->Option Int->Option Int->ak->R D
 | .loc n,lo,hi,st=>match aA st n with | some ds=>.ok (.loc st.length) (st++[.lst (cut ds lo hi)]) | none=>.bad
 | .tup ds,lo,hi,st=>.ok (.tup (cut ds lo hi)) st
 | .str cs,lo,hi,st=>if cs.length<=1000000 then .ok (.str (cut cs lo hi)) st else .bad
 | _,_,_,_=>.bad
def rMS(X:Cx)(g:D->Option Int->Option Int->ak->R D):V->Option Int->Option Int->Hp->VK->Prop:=λx lo hi H Q=>∃μ st dx,aV X.K μ H st/\ao X.K μ H dx x/\bL X μ H (lu X) Q (g dx lo hi st)
def ac9:V->Option Int->Option Int->Hp->VK->Prop:=λx lo hi H Q=>∃cs,x=.str (strOf cs)/\cs.length<=sizeLine/\Q (.str (strOf (cut cs lo hi))) H
def Uz:yf X ac9:=by
 intro pins s σ H x v vl vu lo hi sl Q I rx hs pl pu h;obtain⟨cs,rfl,hz,q⟩:=h;obtain⟨t,rfl⟩:=rx;obtain⟨l,el,ml⟩:∃l:Option (Int×Tok),vl=partValue l/\l.map (·.1)=lo:=by
  cases pl with
  | none=>exact⟨none,rfl,rfl⟩
  | int i u=>exact⟨some (i,u),rfl,rfl⟩
 obtain⟨u,eu,mu⟩:∃l:Option (Int×Tok),vu=partValue l/\l.map (·.1)=hi:=by
  cases pu with
  | none=>exact⟨none,rfl,rfl⟩
  | int i u=>exact⟨some (i,u),rfl,rfl⟩
 subst el eu;have oN:s.heap.IsSlice sl l u none:=hs;refine⟨"str",_,F.slot_str_getitem.lookup,typeIs_str _ _ _,wpAny_getItem_str_slice (l:=l) (u:=u) (st:=none) oN rfl ?_⟩;have e:Txt.slice (strOf cs) lo hi=strOf (cut cs lo hi):=CQ cs lo hi;unfold Txt.slice at e;unfold sliceMade slicePicked;rw[ml,mu]
 split
 ·rename_i h;have h':((1:Int)==1 && (Builtin.Str.strSliceIndices lo hi 1 (strOf cs).length).length==(strOf cs).length)=true:=h;rw[aeQ h']at e;exact⟨.str (strOf cs),H,I,⟨t,rfl⟩,by rw[<-e]at q;exact q⟩
 ·rename_i h;have h':¬ ((1:Int)==1 && (Builtin.Str.strSliceIndices lo hi 1 (strOf cs).length).length==(strOf cs).length)=true:=h;rw[aeS h']at e;have e':({ cps:=((Builtin.Str.strSliceIndices lo hi ((Option.map (·.1) (none:Option (Int×Tok))).getD 1) (strOf cs).length).filterMap λx=>(strOf cs).cps[x]?).toArray }:Str)=strOf (cut cs lo hi):=e;rw[e'];refine⟨?_,.str (strOf (cut cs lo hi)),H,I.tok _,⟨_,rfl⟩,q⟩;have:(strOf (cut cs lo hi)).length=(cut cs lo hi).length:=by simp[Str.length,strOf]
  rw[this];refine h_ ?_ hz;unfold cut;rw[kj,kW];omega
def acI:yf X (rMS X vz):=by
 refine yf.weak (yf.or Nm (yf.or Uy (yf.or Nk Uz))) ?_;rintro x lo hi H Q ⟨μ,st,dx,hs,hx,hp⟩;cases dx with
 | loc n =>
  rw[ao.aH]at hx;obtain⟨p,h1,rfl⟩:=hx;simp only[vz]at hp;cases e:aA st n with
  | none=>rw[e]at hp;exact hp.elim
  | some ds =>
   rw[e]at hp;obtain⟨p',xs,h3,h4,h5⟩:=hs.items e;rw[h1]at h3;cases h3;exact .inl ⟨p,xs,rfl,h4,λq hq=>hp.newList hs (h5.cut lo hi) hq⟩
 | tup ds =>
  rw[ao.aU]at hx;obtain⟨p,xs,rfl,h1,h2⟩:=hx;by_cases hw:HT.dh xs.length 0 lo=0/\HT.dh xs.length xs.length hi=xs.length
  ·refine .inr (.inr (.inl ⟨p,xs,rfl,h1.pN,hw,hp.ret hs ?_⟩));rw[<-h2.length]at hw;rw[Es hw];exact ao.aU.mpr ⟨p,xs,rfl,h1,h2⟩
  ·exact .inr (.inl ⟨p,xs,rfl,h1.pN,hw,λq hq=>hp _ _ μ (bf.lay hq) (hs.lay hq) (ao.aU.mpr ⟨q,_,rfl,.inl rm,(h2.cut lo hi).mono (bf.lay hq) _⟩)⟩)
 | str cs =>
  rw[ao.aQ]at hx;subst hx;simp only[vz]at hp
  split at hp
  ·rename_i hl;exact .inr (.inr (.inr ⟨cs,rfl,xm hl,hp.ret hs (ao.aQ.mpr rfl)⟩))
  ·exact hp.elim
 | _=>exact hp.elim
noncomputable def R3:MP:=λ_ st=>.ok none st
noncomputable def Mi(m:ME):MP:=λenv st=>(m env st).bind λx st1=>match x with | .int i=>.ok (some i) st1 | _=>.bad
def PN:JP X none R3:=by
 refine JP.of Og fun σ H Q zz=>?_;obtain⟨μ,env,st,hE,hs,hp⟩:=zz;exact hp.ret hs rfl
def PK(h:JE X e m):JP X (some e) (Mi m):=by
 refine JP.of (Oe h) fun σ H Q zz=>?_;obtain⟨μ,env,st,hE,hs,hp⟩:=zz;refine⟨μ,env,st,hE,hs,hp.bind.imp ?_⟩;rintro x H1 ⟨μ1,st1,d,g1,bF,hx,aR⟩;cases d with
 | int i=>exact⟨i,ao.aN.mp hx,aR.ret bF rfl⟩
 | _=>exact aR.elim
noncomputable def GP(a:ME)(l h:MP):ME:=λenv st=>(a env st).bind λx st1=>(l env st1).bind λlo st2=>(h env st2).bind λhi fV=>vz x lo hi fV
def Jt(he:JE X e ma)(hl:JP X lo ml)(hu:JP X hi mh):JE X (.Subscript e (.Slice lo hi none p2) pos) (GP ma ml mh):=by
 refine JE.of (Hx acI he hl hu) fun σ H Q zz=>?_;obtain⟨μ,env,st,hE,hs,hp⟩:=zz;refine⟨μ,env,st,hE,hs,hp.bind.imp ?_⟩;rintro x H1 ⟨μ1,st1,d,g1,bF,hx,aR⟩;refine⟨μ1,env,st1,hE.mono g1,bF,aR.bind.imp ?_⟩;rintro l H2 ⟨μ2,st2,l',g2,iu,rfl,dq⟩;refine⟨μ2,env,st2,(hE.mono g1).mono g2,iu,dq.bind.imp ?_⟩;rintro u H3 ⟨μ3,fV,u',g3,xR,rfl,yu⟩;exact⟨μ3,fV,d,xR,hx.mono (g2.trans g3) _,yu⟩
noncomputable def bD(g:List D->ak->R D)(mA:MA):ME:=λenv st=>(mA env st).bind λds st1=>g ds st1
def zrj(h:tM X (bD g mA) σ H Q):tMA X mA σ H λvs H1=>Mg X g vs H1 Q:=by
 obtain⟨μ,env,st,hE,hs,hp⟩:=h;refine⟨μ,env,st,hE,hs,hp.bind.imp ?_⟩;rintro xs H1 ⟨μ1,st1,ds,g1,bF,hx,aR⟩;exact⟨μ1,st1,ds,bF,hx,aR⟩
def Jy{x:Str}{p:Pos}{id:String}{g:List D->ak->R D}(hc:cG X (.builtin id) (Mg X g))(hg:Gl X x)(hm:X.mg x=none)(hv:bootBuiltins x=some (.builtin id))(ha:JA X (e::es) mA)(hn:x ≠ "__name__":=by decide)(qK:(x==("__debug__":Str))=false:=by decide)
  (he:starEach (e::es) X.env=(false,eval e X.env)::starEach es X.env:=by rfl) (ou:(backTo pos (starEach es X.env)).any (·.1)=false:=by rfl):JE X (.Call (.Name x p) (e::es) [] pos) (bD g mA) :=
 JE.of (zth hc hg hm hv ha hn qK he ou) fun σ H Q h=>zrj h
def DW{p:Pos}(hc:cG X (.type T) (Mg X g))(hg:Gl X x)(hm:X.mg x=none)(hv:bootBuiltins x=some (.type T))(ha:JA X (e::es) mA)(hn:x ≠ "__name__":=by decide)(qK:(x==("__debug__":Str))=false:=by decide) 
  (he:starEach (e::es) X.env=(false,eval e X.env)::starEach es X.env:=by rfl) (ou:(backTo pos (starEach es X.env)).any (·.1)=false:=by rfl):JE X (.Call (.Name x p) (e::es) [] pos) (bD g mA) :=
 JE.of (Dj hc hg hm hv ha hn qK he ou) fun σ H Q h=>zrj h
end
inductive Out where
 | nx (env:aJ) | rt (d:D) | bk (env:aJ) | cn (env:aJ)
noncomputable abbrev MS:=aJ->ak->R Out
def cF(X:Cx)(μ:List Addr)(H:Hp)(E:Ends)(r:R Out):Prop:=match r with
 | .ok (.nx env) st=>∀(σ':L2.St) (H':Hp) (μ':List Addr),bf μ H μ' H'->aV X.K μ' H' st->dJ X.K μ' H' env σ'->E.nx σ' H'
 | .ok (.rt d) st=>∀(v:V) (H':Hp) (μ':List Addr),bf μ H μ' H'->aV X.K μ' H' st->ao X.K μ' H' d v->E.rt v H'
 | .ok (.bk env) st=>∀(σ':L2.St) (H':Hp) (μ':List Addr),bf μ H μ' H'->aV X.K μ' H' st->dJ X.K μ' H' env σ'->E.bk σ' H'
 | .ok (.cn env) st=>∀(σ':L2.St) (H':Hp) (μ':List Addr),bf μ H μ' H'->aV X.K μ' H' st->dJ X.K μ' H' env σ'->E.ct σ' H'
 | .err x st=>uX X μ H x st
 | .bad=>False
noncomputable def Ut(X:Cx)(m:MS):TS:=λE σ H=>∃μ env st,dJ X.K μ H env σ/\aV X.K μ H st/\cF X μ H E (m env st)
def JS(X:Cx)(s:Stmt)(m:MS):Prop:=PS X s (Ut X m)
def yD(X:Cx)(s:List Stmt)(m:MS):Prop:=yC X s (Ut X m)
section
variable  {X:Cx}{e a b c:Expr}{es:List Expr}{t:TE}{ma mb mc:ME}{mA:MA}{pos p2:Pos}{s:Stmt}{ss:List Stmt}{m m1 m2:MS}{μ μ1:List Addr}{H H1:Hp}{E E':Ends}{r:R Out}
def cF.mono(g:bf μ H μ1 H1)(h:cF X μ H E r):cF X μ1 H1 E r:=by
 match r,h with
 | .ok (.nx _) _,h=>exact fun σ' H' μ' g'=>h σ' H' μ' (g.trans g')
 | .ok (.rt _) _,h=>exact fun σ' H' μ' g'=>h σ' H' μ' (g.trans g')
 | .ok (.bk _) _,h=>exact fun σ' H' μ' g'=>h σ' H' μ' (g.trans g')
 | .ok (.cn _) _,h=>exact fun σ' H' μ' g'=>h σ' H' μ' (g.trans g')
 | .err _ _,h=>exact uX.mono g h
 | .bad,h=>exact h
def JS.of{t:TS}(h:PS X s t)(k:∀E σ H,Ut X m E σ H->t E σ H):JS X s m:=λpins s σ H D I q=>h pins s σ H D I (k D σ H q)
def yD.of{t:TS}(h:yC X ss t)(k:∀E σ H,Ut X m E σ H->t E σ H):yD X ss m:=λpins s σ H D I q=>h pins s σ H D I (k D σ H q)
def cF.nx{env:aJ}{st:ak}{σ:L2.St}(h:cF X μ H E (.ok (.nx env) st))(hs:aV X.K μ H st)(hE:dJ X.K μ H env σ):E.nx σ H:=h σ H μ (.refl _ _) hs hE
noncomputable def bh:MS:=λenv st=>.ok (.nx env) st
noncomputable def aC(a b:MS):MS:=λenv st=>(a env st).bind λo st1=>match o with | .nx env1=>b env1 st1 | o=>.ok o st1
noncomputable def retS(m:ME):MS:=λenv st=>(m env st).bind λd st1=>.ok (.rt d) st1
noncomputable def dH(m:ME):MS:=λenv st=>(m env st).bind λ_ st1=>.ok (.nx env) st1
noncomputable def fu(c:MT)(a b:MS):MS:=λenv st=>(c env st).bind λx st1=>if x then a env st1 else b env st1
def Jl:yD X [] bh:=by
 refine yD.of Ob λE σ H zz=>?_;obtain⟨μ,env,st,hE,hs,hp⟩:=zz;exact hp.nx hs hE
def Fx(h:JS X s m):yD X [s] m:=Oa h
def cF.seq(h:cF X μ H E (r.bind λo st1=>match o with | .nx env1=>m2 env1 st1 | o=>.ok o st1)):cF X μ H { E with nx:=Ut X m2 E } r:=by
 match r,h with
 | .ok (.nx env1) st1,h=>exact fun σ' H' μ' g hs hE=>⟨μ',env1,st1,hE,hs,cF.mono g h⟩
 | .ok (.rt _) _,h=>exact h
 | .ok (.bk _) _,h=>exact h
 | .ok (.cn _) _,h=>exact h
 | .err _ _,h=>exact h
 | .bad,h=>exact h
def jy(h1:JS X s m1)(h2:yD X ss m2):yD X (s::ss) (aC m1 m2):=by
 refine yD.of (Ho h1 h2) λE σ H zz=>?_;obtain⟨μ,env,st,hE,hs,hp⟩:=zz;exact⟨μ,env,st,hE,hs,cF.seq hp⟩
def cF.val{α β:Type}{rel:Rel α β}{r:R α}{f:α->ak->R Out}(h:cF X μ H E (r.bind f)):bL X μ H rel (λb H1=>∃μ1 st1 a,bf μ H μ1 H1/\aV X.K μ1 H1 st1/\rel μ1 H1 a b/\cF X μ1 H1 E (f a st1)) r:=by
 cases r with
 | ok a st=>exact λb H' μ' g h1 h2=>⟨μ',st,a,g,h1,h2,cF.mono g h⟩
 | err x st=>exact h
 | bad=>exact h
def XQ(h:JE X e ma):JS X (.Return (some e) pos) (retS ma):=by
 refine JS.of (U9 h) λE σ H zz=>?_;obtain⟨μ,env,st,hE,hs,hp⟩:=zz;refine⟨μ,env,st,hE,hs,hp.val.imp ?_⟩;rintro v H1 ⟨μ1,st1,d,g1,bF,hv,aR⟩;exact aR v H1 μ1 (.refl _ _) bF hv
def zr6(h:JE X e ma)(hs:swapsWith e none pos.line X.env=pure false:=by rfl):JS X (.Expr e pos) (dH ma):=by
 refine JS.of (Oc h hs) λE σ H zz=>?_;obtain⟨μ,env,st,hE,hs,hp⟩:=zz;refine⟨μ,env,st,hE,hs,hp.val.imp ?_⟩;rintro v H1 ⟨μ1,st1,d,g1,bF,hv,aR⟩;exact aR.nx bF (hE.mono g1)
def Jm{sa sb:List Stmt}{tc:MT}(hc:JT X c tc)(ha:yD X sa m1)(hb:yD X sb m2):JS X (.If c sa sb pos) (fu tc m1 m2):=by
 refine JS.of (aaO hc ha hb) λE σ H zz=>?_;obtain⟨μ,env,st,hE,hs,hp⟩:=zz;refine⟨μ,env,st,hE,hs,hp.val.imp ?_⟩;rintro v H1 ⟨μ1,st1,d,g1,bF,rfl,aR⟩;cases d with
 | true=>exact xP ⟨μ1,env,st1,hE.mono g1,bF,aR⟩
 | false=>exact xQ ⟨μ1,env,st1,hE.mono g1,bF,aR⟩
noncomputable abbrev MG:=D->aJ->ak->R aJ
noncomputable abbrev Ms:=List D->aJ->ak->R aJ
noncomputable abbrev aaA(X:Cx):Rel aJ L2.St:=fun μ H env σ=>dJ X.K μ H env σ
noncomputable def tMG(X:Cx)(m:MG):TG:=λv σ H Q=>∃μ env st d,dJ X.K μ H env σ/\aV X.K μ H st/\ao X.K μ H d v/\bL X μ H (aaA X) Q (m d env st)
noncomputable def aao(X:Cx)(m:Ms):Tt:=λvs σ H Q=>∃μ env st ds,dJ X.K μ H env σ/\aV X.K μ H st/\aq X.K μ H ds vs/\bL X μ H (aaA X) Q (m ds env st)
def JG(X:Cx)(t:Expr)(m:MG):Prop:=PG X t (tMG X m)
def Tv(X:Cx)(ts:List Expr)(m:Ms):Prop:=Zv X ts (aao X m)
def JG.of{g:TG}{m:MG}(h:PG X e g)(k:∀v σ H Q,tMG X m v σ H Q->g v σ H Q):JG X e m:=λpins s σ H v u Q I r q=>h pins s σ H v u Q I r (k v σ H Q q)
def Tv.of{g:Tt}{m:Ms}(h:Zv X es g)(k:∀v σ H Q,aao X m v σ H Q->g v σ H Q):Tv X es m:=λpins s σ H v u Q I r q=>h pins s σ H v u Q I r (k v σ H Q q)
noncomputable def aM(i:Nat):MG:=λd env st=>.ok (env.set i (some d)) st
def Qa(i:Nat)(hN:X.N.Nodup)(hi:X.N[i]? = some x:=by rfl)(hx:Loc X.env.scope x:=by first | exact Or.inl rfl | exact Or.inr rfl)(hf:X.fn x=true\/X.env.scope.names.lookup x=some .local:=by first | exact .inl rfl | exact .inr rfl | assumption):JG X (.Name x pos) (aM i):=by
 refine JG.of (Oq hN hi hx hf) λv σ H Q zz=>?_;obtain⟨μ,env,st,d,hE,hs,hv,hp⟩:=zz;exact hp.ret hs (hE.set hv)
noncomputable def tQ:Ms:=λds env st=>match ds with | []=>.ok env st | _=>.bad
noncomputable def dY(g:MG)(r:Ms):Ms:=λds env st=>match ds with | d::ds=>(g d env st).bind λenv1 st1=>r ds env1 st1 | _=>.bad
def P_:Tv X [] tQ:=Tv.of Oo λvs σ H Q zz=>by
 obtain⟨μ,env,st,ds,hE,hs,hv,hp⟩:=zz;cases ds with
 | nil=>rw[aq]at hv;exact⟨hv,hp.ret hs hE⟩
 | cons _ _=>exact hp.elim
def Js(h1:JG X e g)(h2:Tv X es gs)(hs:(assignEach (e::es) X.env).map (·.2)=assign e X.env::(assignEach es X.env).map (·.2):=by rfl):Tv X (e::es) (dY g gs) :=
 Tv.of (Hv h1 h2 hs) λvs σ H Q zz=>by
 obtain⟨μ,env,st,ds,hE,hs,hv,hp⟩:=zz;cases ds with
 | nil=>exact hp.elim
 | cons d ds =>
  rw[aq]at hv;obtain⟨v,r,rfl,h3,h4⟩:=hv;refine⟨v,r,rfl,μ,env,st,d,hE,hs,h3,(bL.bind hp).imp ?_⟩;rintro σ1 H1 ⟨μ1,st1,env1,g1,bF,hE1,aR⟩;exact⟨μ1,env1,st1,ds,hE1,bF,h4.mono g1 _,aR⟩
noncomputable def rD(n:Nat)(g:Ms):MG:=λd env st=>match d with | .tup ds=>if ds.length=n then g ds env st else .bad | _=>.bad
def V8{gs:Ms}{k:Nat}(n:Nat)(hc:X.calm=true)(h:Tv X es gs)(hn:(assignEach es X.env).length=n:=by rfl)(Ec:(assignEach es X.env).findIdx? (·.1)=none:=by rfl):JG X (.Tuple es k pos) (rD n gs) :=
 JG.of (Vf hc h hn Ec) λv σ H Q zz=>by
 obtain⟨μ,env,st,d,hE,hs,hv,hp⟩:=zz;cases d with
 | tup ds =>
  rw[ao.aU]at hv;obtain⟨p,xs,rfl,h1,h2⟩:=hv;simp only[rD]at hp
  split at hp
  ·rename_i hl;exact⟨p,xs,rfl,h1.pN,by rw[<-h2.length];exact hl,μ,env,st,ds,hE,hs,h2,hp⟩
  ·exact hp.elim
 | _=>exact hp.elim
noncomputable abbrev acQ:Rel Unit Unit:=λ_ _ _ _=>True
noncomputable def RZ(X:Cx)(g:D->D->D->ak->R Unit):Rk:=λo i v H Q=>∃μ st d1 d2 d3,aV X.K μ H st/\ao X.K μ H d1 o/\ao X.K μ H d2 i/\ao X.K μ H d3 v/\bL X μ H acQ (λ_=>Q) (g d1 d2 d3 st)
def wC(hs:aV X.K μ H st)(e:st[n]? = some (.lst ds))(hp:μ[n]? = some p)(hx:H p=some (.lst xs))(hy:aq X.K μ H Zf ys) :
  bf μ H μ (upd H p (.lst ys))/\aV X.K μ (upd H p (.lst ys)) (st.set n (.lst Zf)):=by
 have g:Ext H (upd H p (.lst ys)):=Ext.mut hx (λ_ z=>nomatch z) (λ_ _ z=>nomatch z);have g':bf μ H μ (upd H p (.lst ys)):=⟨⟨[],by simp⟩,g⟩;exact⟨g',hs.put e rfl rfl hp g ⟨ys,rm,hy.mono g' _⟩⟩
noncomputable def vy(g:D->D->D->ak->R Unit)(o i:ME):MG:=λd env st=>(o env st).bind λx st1=>(i env st1).bind λy st2=>(g x y d st2).bind λ_ fV=>.ok env fV
def V9(adH:Xr X (RZ X g))(ho:JE X o mo)(hi:JE X i mi) 
  (ha:∀v,assign (.Subscript o i pos) X.env v=(do
   let ov <-holding [v] (eval o X.env)
   let iv <-holding [v,ov] (eval i X.env)
   standAt pos
   holding [v,ov,iv] (setItem ov iv v)
   release [v,ov,iv] []):=by intro _;rfl):JG X (.Subscript o i pos) (vy g mo mi):=by
 refine JG.of (Vg ho hi adH ha) λv σ H Q zz=>?_;obtain⟨μ,env,st,d,hE,hs,hv,hp⟩:=zz;refine⟨μ,env,st,hE,hs,(bL.bind hp).imp ?_⟩;rintro x H1 ⟨μ1,st1,dx,g1,bF,hx,aR⟩;refine⟨μ1,env,st1,hE.mono g1,bF,(bL.bind aR).imp ?_⟩;rintro y H2 ⟨μ2,st2,dy,g2,iu,hy,dq⟩;refine⟨μ2,st2,dx,dy,d,iu,hx.mono g2 _,hy,(hv.mono g1 _).mono g2 _,(bL.bind dq).imp ?_⟩;rintro _ H3 ⟨μ3,fV,_,g3,xR,_,yu⟩;exact yu.ret xR (((hE.mono g1).mono g2).mono g3)
noncomputable def oH(m:ME)(g:MG):MS:=λenv st=>(m env st).bind λd st1=>(g d env st1).bind λenv1 st2=>.ok (.nx env1) st2
def Jo{tg:Expr}{g:MG}(he:JE X e ma)(hg:JG X tg g)(hs:swapsWithSole [tg] e pos.line X.env=pure false:=by rfl)(hw:swappedStores [tg] e X.env=pure none:=by rfl)(h1:(assignEach [tg] X.env).map (·.2)=[assign tg X.env]:=by rfl):JS X (.Assign [tg] e pos) (oH ma g):=by
 refine JS.of (Vb he hg hs hw h1) λE σ H zz=>?_;obtain⟨μ,env,st,hE,hs,hp⟩:=zz;refine⟨μ,env,st,hE,hs,hp.val.imp ?_⟩;rintro x H1 ⟨μ1,st1,d,g1,bF,hx,aR⟩;refine⟨μ1,env,st1,d,hE.mono g1,bF,hx,aR.val.imp ?_⟩;rintro σ2 H2 ⟨μ2,st2,bu,g2,iu,SQ,dq⟩;exact dq.nx iu SQ
noncomputable def aG(i:Nat)(m:ME):MS:=oH m (aM i)
def TF(i:Nat){x:Str}{pos':Pos}(he:JE X e ma)(hN:X.N.Nodup)(hi:X.N[i]? = some x:=by rfl)(hx:Loc X.env.scope x:=by first | exact Or.inl rfl | exact Or.inr rfl)(hs:swapsWith e (some (.Name x pos')) pos.line X.env=pure false:=by rfl)
  (hf:X.fn x=true\/X.env.scope.names.lookup x=some .local:=by first | exact .inl rfl | exact .inr rfl | assumption):JS X (.Assign [.Name x pos'] e pos) (aG i ma):=by
 refine JS.of (U8 hN hi hx he hs hf) λE σ H zz=>?_;obtain⟨μ,env,st,hE,hs,hp⟩:=zz;refine⟨μ,env,st,hE,hs,hp.val.imp ?_⟩;rintro x H1 ⟨μ1,st1,d,g1,bF,hx,aR⟩;exact aR.nx bF ((hE.mono g1).set hx)
end
noncomputable def bx(c:MT)(b:MS):Nat->MS
 | 0,_,_=>.bad
 | n+1,env,st=>(c env st).bind λx st1=>if x then (b env st1).bind λo st2=>(match o with
   | .nx bu=>bx c b n bu st2
   | .cn bu=>bx c b n bu st2
   | .bk bu=>.ok (.nx bu) st2
   | .rt d=>.ok (.rt d) st2) else .ok (.nx env) st1
section
variable  {X:Cx}{e a b c:Expr}{es:List Expr}{t:TE}{ma mb mc:ME}{mA:MA}{pos p2:Pos}{s:Stmt}{ss body:List Stmt}{m m1 m2 mb:MS}{μ μ1:List Addr}{H H1:Hp}{E E':Ends}{r:R Out}{tc:MT}
theorem cF.loop{nxt:aJ->ak->R Out}{N:L2.St->Hp->Prop}
  (h:cF X μ H E (r.bind λo st2=>(match o with
   | .nx bu=>nxt bu st2
   | .cn bu=>nxt bu st2
   | .bk bu=>.ok (.nx bu) st2
   | .rt d=>.ok (.rt d) st2)))
  (hN:∀bu st2 σ' H' μ',bf μ H μ' H'->aV X.K μ' H' st2->dJ X.K μ' H' bu σ'->cF X μ' H' E (nxt bu st2)->N σ' H') :
  cF X μ H { E with nx:=N,ct:=N,bk:=E.nx } r:=by
 match r,h with
 | .ok (.nx env1) st1,h=>exact fun σ' H' μ' g hs hE=>hN env1 st1 σ' H' μ' g hs hE (cF.mono g h)
 | .ok (.cn env1) st1,h=>exact fun σ' H' μ' g hs hE=>hN env1 st1 σ' H' μ' g hs hE (cF.mono g h)
 | .ok (.rt _) _,h=>exact h
 | .ok (.bk _) _,h=>exact h
 | .err _ _,h=>exact h
 | .bad,h=>exact h
def Jk(n:Nat)(hc:JT X c tc)(hb:yD X body mb)(hp:PassesOwn (model X.prog X.w) X.A X.env X.xe):JS X (.While c body [] pos) (bx tc mb n):=by
 refine JS.of (Hq hp hc hb) λE σ H h=>?_;refine⟨λk σ H=>Ut X (bx tc mb k) E σ H,⟨n,h⟩,?_⟩;rintro k σ H ⟨μ,env,st,hE,hs,hp⟩;cases k with
 | zero=>exact hp.elim
 | succ k =>
  refine⟨μ,env,st,hE,hs,(cF.val hp).imp ?_⟩;rintro v H1 ⟨μ1,st1,d,g1,bF,rfl,aR⟩;cases d with
  | false=>exact xQ (aR.nx bF (hE.mono g1))
  | true =>
   refine xP ⟨fun σ' H'=>Ut X (bx tc mb k) E σ' H',fun σ' H' q=>⟨k,nQ _,q⟩,μ1,env,st1,hE.mono g1,bF,?_⟩;exact cF.loop (nxt:=bx tc mb k) aR λbu st2 σ' H' μ' g iu SQ q=>⟨μ',bu,st2,SQ,iu,q⟩
noncomputable abbrev Src:=List D×List (Nat×MO)
noncomputable abbrev MI:=aJ->ak->R Src
def ud(gs:List (Nat×MO))(st:ak):Prop:=∀g∈gs,st[g.1]? = some g.2
@[simp] def xu(st:ak):ud [] st:=λ_ h=>nomatch h
@[simp] def aa4(g:Nat×MO)(gs:List (Nat×MO))(st:ak):ud (g::gs) st↔st[g.1]? = some g.2/\ud gs st:=by simp[ud]
def lN(X:Cx)(μ:List Addr)(H:Hp)(J:It)(s:Src):Prop:=∀(H':Hp) (μ':List Addr) (st':ak),bf μ H μ' H'->aV X.K μ' H' st'->ud s.2 st' ->
 (∀(i:Nat) (d:D),s.1[i]? = some d->J.go i H'/\∀x BR,J.yld i H' x BR->bf μ' H' μ' BR/\aV X.K μ' BR st'/\ao X.K μ' BR d x)/\J.stop s.1.length H'
noncomputable abbrev acT(X:Cx):Rel Src It:=fun μ H s J=>lN X μ H J s
noncomputable def tMI(X:Cx)(m:MI):TI:=fun σ H Q=>∃μ env st,dJ X.K μ H env σ/\aV X.K μ H st/\bL X μ H (acT X) (λJ H'=>Q J H') (m env st)
def JI(X:Cx)(tg iter:Expr)(m:MI):Prop:=PI X tg iter (tMI X m)
def JI.of{tg iter:Expr}{wi:TI}{m:MI}(h:PI X tg iter wi)(k:∀σ H Q,tMI X m σ H Q->wi σ H Q):JI X tg iter m:=λpins s σ H R I q=>h pins s σ H R I (k σ H R q)
open Classical in
noncomputable def cu(g:MG)(b:MS)(gs:List (Nat×MO)):List D->MS
 | [],env,st=>if ud gs st then .ok (.nx env) st else .bad
 | d::r,env,st=>if ud gs st then (g d env st).bind λenv1 st1=>(b env1 st1).bind λo st2=>(match o with
   | .nx bu=>cu g b gs r bu st2
   | .cn bu=>cu g b gs r bu st2
   | .bk bu=>.ok (.nx bu) st2
   | .rt d=>.ok (.rt d) st2) else .bad
noncomputable def dU(mi:MI)(g:MG)(b:MS):MS:=λenv st=>(mi env st).bind λs st1=>cu g b s.2 s.1 env st1
def zb(hi:JI X tg iter mi)(hg:JG X tg g)(hb:yD X body mb)(hp:PassesOwn (model X.prog X.w) X.A X.env X.xe)(hc:X.calm=true) 
  (hs:∀x,foldedSetIterable iter X.env x=pure x:=by intro _;rfl):JS X (.For tg iter body [] pos) (dU mi g mb):=by
 refine JS.of (U_ hp hc hi hg hb hs) λE σ H zz=>?_;obtain⟨μ,env,st,hE,hs,hp⟩:=zz;refine⟨μ,env,st,hE,hs,(cF.val hp).imp ?_⟩;rintro J H1 ⟨μ1,st1,s,g1,bF,hJ,aR⟩;refine⟨λi k σ H=>∃μ2 bu st2,bf μ1 H1 μ2 H/\dJ X.K μ2 H bu σ/\aV X.K μ2 H st2/\cF X μ2 H E (cu g mb s.2 (s.1.drop i) bu st2)/\i<=s.1.length/\k=s.1.length - i,
  ⟨_,μ1,env,st1,.refl _ _,hE.mono g1,bF,by simpa using aR,kO _,rfl⟩,?_⟩
 rintro i k σ2 H2 ⟨μ2,bu,st2,g2,SQ,iu,dq,hi,rfl⟩;by_cases yx:i<s.1.length
 ·have e1:s.1.drop i=s.1[i]::s.1.drop (i+1):=nq yx;rw[e1,cu]at dq;by_cases ok:ud s.2 st2
  ·rw[aeQ ok]at dq;obtain⟨q1,q2⟩:=(hJ H2 μ2 st2 g2 iu ok).1 i s.1[i] (gF yx);refine .inr ⟨q1,fun σ' H'=>∃μ3 wN fV,bf μ1 H1 μ3 H'/\dJ X.K μ3 H' wN σ'/\aV X.K μ3 H' fV/\cF X μ3 H' E (cu g mb s.2 (s.1.drop (i+1)) wN fV),?_,?_⟩
   ·rintro σ' H' ⟨μ3,wN,fV,g3,hE3,xR,yu⟩;exact⟨s.1.length - (i+1),by omega,μ3,wN,fV,g3,hE3,xR,yu,by omega,rfl⟩
   ·intro x H3 hx;obtain⟨g3,xR,hd⟩:=q2 x H3 hx;refine⟨μ2,bu,st2,s.1[i],SQ.mono g3,xR,hd,(cF.val (cF.mono g3 dq)).imp ?_⟩;rintro σ4 H4 ⟨μ4,st4,abI,g4,hs4,hE4,hp4⟩;refine⟨μ4,abI,st4,hE4,hs4,?_⟩;exact cF.loop (nxt:=cu g mb s.2 (s.1.drop (i+1))) hp4 λad3 Mf σ' H' μ' g5 hs5 hE5 q=>⟨μ',ad3,Mf,((g2.trans g3).trans g4).trans g5,hE5,hs5,q⟩
  ·rw[aeS ok]at dq;exact dq.elim
 ·have e1:s.1.drop i=[]:=nj (by omega);rw[e1,cu]at dq;have e2:i=s.1.length:=by omega
  by_cases ok:ud s.2 st2
  ·rw[aeQ ok]at dq;refine .inl ⟨by rw[e2];exact (hJ H2 μ2 st2 g2 iu ok).2,dq.nx iu SQ⟩
  ·rw[aeS ok]at dq;exact dq.elim
noncomputable def ig(m:ME):MI:=λenv st=>(m env st).bind λd st1=>match d with
 | .loc n=>(match st1[n]? with
  | some (.lst ds)=>.ok (ds,[(n,.lst ds)]) st1
  | some (.frz ds)=>.ok (ds,[(n,.frz ds)]) st1
  | _=>.bad)
 | .tup ds=>.ok (ds,[]) st1
 | _=>.bad
def PI.or(h1:PI X tg l w1)(h2:PI X tg l w2):PI X tg l (fun σ H R=>w1 σ H R\/w2 σ H R):=λpins s σ H R I h=>h.elim (h1 pins s σ H R I) (h2 pins s σ H R I)
def Az{st:ak}(ho:o=.lst ds\/o=.frz ds)(hp:μ[n]? = some p):lN X μ H (Itl X.K p) (ds,[(n,o)]):=by
 intro H' μ' st' g hs ok;have e:st'[n]? = some o:=(ok (n,o) (by simp));have e2:aA st' n=some ds:=by
  unfold aA;rcases ho with rfl | rfl<;>rw[e]
 obtain⟨p',xs,q1,q2,q3⟩:=hs.items e2;rw[g.get hp]at q1;cases q1;refine⟨λi d hd=>?_,xs,q2,Nat.le_of_eq q3.length.symm⟩;obtain⟨v,h1,h2⟩:=q3.get hd;refine⟨⟨xs,v,q2,h1⟩,?_⟩;rintro x BR ⟨rfl,hx⟩;have:=hx xs q2;rw[h1]at this;cases this;exact⟨.refl _ _,hs,h2⟩
def Qj(hq:lR X.K H p xs)(hd:aq X.K μ H ds xs):lN X μ H (Itt X.K p) (ds,[]):=by
 intro H' μ' st' g hs ok;have Ed:=g.ext.pN hq;have wL:=hd.mono g ds;refine⟨λi d e=>?_,xs,Ed,Nat.le_of_eq hd.length.symm⟩;obtain⟨v,h1,h2⟩:=wL.get e;refine⟨⟨xs,v,Ed,h1⟩,?_⟩;rintro x BR ⟨rfl,hx⟩;have:=hx xs Ed;rw[h1]at this;cases this;exact⟨.refl _ _,hs,h2⟩
def V6(h:JE X l ma):JI X tg l (ig ma):=by
 refine JI.of (PI.or (Ol h) (Vc h)) fun σ H R hh=>?_

 obtain⟨μ,env,st,hE,hs,hp⟩:=hh;unfold ig at hp;cases hr:ma env st with
 | bad=>rw[hr]at hp;exact hp.elim
 | err x st1 =>
  rw[hr]at hp;refine .inl ⟨μ,env,st,hE,hs,?_⟩;rw[hr];exact hp
 | ok d st1 =>
  rw[hr,M.R.aB]at hp;cases d with
  | loc n =>
   simp only at hp;refine .inl ⟨μ,env,st,hE,hs,?_⟩;rw[hr];intro v H1 μ1 g1 bF hv;obtain⟨p,q1,rfl⟩:=ao.aH.mp hv;cases e:st1[n]? with
   | none=>rw[e]at hp;exact hp.elim
   | some mo =>
    cases mo with
    | lst ds =>
     rw[e]at hp;obtain⟨p',xs,r1,r2,r3⟩:=bF.lst e;rw[q1]at r1;cases r1;exact⟨p,rfl,⟨xs,lM.of r2⟩,hp _ _ _ g1 bF (Az (st:=st1) (.inl rfl) q1)⟩
    | frz ds =>
     rw[e]at hp;obtain⟨p',r1,xs,r2,r3⟩:=bF.at_ n _ e;rw[q1]at r1;cases r1;exact⟨p,rfl,⟨xs,r2.sqL⟩,hp _ _ _ g1 bF (Az (st:=st1) (.inr rfl) q1)⟩
    | _=>rw[e]at hp;exact hp.elim
  | tup ds =>
   refine .inr ⟨μ,env,st,hE,hs,?_⟩;rw[hr];intro v H1 μ1 g1 bF hv;obtain⟨p,xs,rfl,q1,q2⟩:=ao.aU.mp hv;exact⟨p,rfl,⟨xs,q1.pN⟩,hp _ _ _ g1 bF (Qj q1.pN q2)⟩
  | _=>exact hp.elim
noncomputable def jE(lo:Int)(n:Nat):List D:=(List.range n).map λ(k:Nat)=>.int (lo+k)
noncomputable def fc(mA:MA):MI:=λenv st=>(mA env st).bind λds st1=>match ds with
 | [.int j]=>if -(2 ^ 62)<=j/\j<2 ^ 62 then .ok (jE 0 j.toNat,[]) st1 else .bad
 | _=>.bad
def Ql(lo:Int)(n:Nat):lN X μ H (Itr lo n) (jE lo n,[]):=by
 intro H' μ' st' g hs ok;refine⟨λi d e=>?_,by show n<=_;simp[jE]⟩;have hi:i<n:=by have:=(gh.mp e).1;simpa[jE] using this
 simp[jE,hi]at e;subst e;refine⟨hi,?_⟩;rintro x BR ⟨rfl,rfl⟩;exact⟨.refl _ _,hs,ao.aN.mpr rfl⟩
def aq.one(h:aq K μ H [d] vs):∃v,vs=[v]/\ao K μ H d v:=by
 rw[aq]at h;obtain⟨v,r,rfl,q1,q2⟩:=h;rw[aq]at q2;subst q2;exact⟨v,rfl,q1⟩
def aq.two(h:aq K μ H [d1,d2] vs):∃v w,vs=[v,w]/\ao K μ H d1 v/\ao K μ H d2 w:=by
 rw[aq]at h;obtain⟨v,r,rfl,q1,q2⟩:=h;obtain⟨w,rfl,q3⟩:=aq.one q2;exact⟨v,w,rfl,q1,q3⟩
def DR(ha:JA X [a] mA)(hg:Gl X "range")(hm:X.mg "range" = none)(hs:starEach [a] X.env=[(false,eval a X.env)]:=by rfl):JI X tg (.Call (.Name "range" p) [a] [] pos) (fc mA):=by
 refine JI.of (Di hg hm ha hs) fun σ H R zz=>?_;obtain⟨μ,env,st,hE,hs,hp⟩:=zz;refine⟨μ,env,st,hE,hs,(bL.bind hp).imp ?_⟩;rintro vs H1 ⟨μ1,st1,ds,g1,bF,hv,aR⟩;dsimp only at aR
 split at aR
 ·split at aR
  ·rename_i hc;obtain⟨v,rfl,q1⟩:=aq.one hv;rw[ao.aN]at q1;subst q1;exact⟨_,rfl,hc.1,hc.2,aR _ _ _ (.refl _ _) bF (Ql 0 _)⟩
  ·exact aR.elim
 ·exact aR.elim
end
noncomputable abbrev FD:=List D->ak->R D
def yh(K:PySem.W.Frag)(μ:List Addr)(H:Hp)(Q:VK)(r:R D):Prop:=match r with
 | .ok d st=>∀(v:V) (H':Hp) (μ':List Addr),bf μ H μ' H'->aV K μ' H' st->ao K μ' H' d v->Q v H'
 | _=>False
noncomputable def vV(K:PySem.W.Frag)(n:Nat)(fd:FD):Sp:=λvs H Q _=>vs.length=n/\∃μ ds st,aq K μ H ds vs/\aV K μ H st/\yh K μ H Q (fd ds st)
noncomputable def startM(n:Nat)(ds:List D):aJ:=ds.map some++List.replicate (n - ds.length) none
noncomputable def bw(n:Nat)(m:MS):FD:=λds st=>(m (startM n ds) st).bind λo st1=>match o with
 | .rt d=>.ok d st1
 | .nx _=>.ok .non st1
 | _=>.bad
def aq.start(N:List Str)(h:aq K μ H ds vs):dJ K μ H (startM N.length ds) (L2.start N vs):=by
 unfold startM L2.start;refine⟨by simp[h.length],λi d e=>?_⟩;rw[<-h.length];by_cases hi:i<ds.length
 ·rw[gJ (by simpa using hi)]at e;rw[gJ (by rw[gm,<-h.length];exact hi)];rw[gB]at e ⊢;cases q:ds[i]? with
  | none=>rw[q]at e;cases e
  | some d' =>
   rw[q]at e;cases e;obtain⟨v,q1,q2⟩:=h.get q;exact⟨v,by rw[q1];rfl,q2⟩
 ·rw[kh (by simpa using hi)]at e;rw[List.getElem?_replicate]at e
  split at e<;>cases e
section
variable  {P:Program}{w:World}{K:PySem.W.Frag}{mg:Str->Option Value}{base:Heap}
def xX(F:BV K x qual st f fd)(S:dX N ps (aF st)) 
  (qM:∀(iw:Value) (A:Around) (outer:List Env) (s:Shared) (H:Hp),cR k (A.deeper (PyProof.Rows.envOfC qual (aF st) s.heap.objs.size f iw)) ->
   yD (vQ rn P w K mg base N qual (aF st) f iw A outer s H E0).O_ (bQ st) m):cQ P w K mg base rn (k+1) f fd ps (vV K ps.length (bw N.length m)):=by
 refine F.ok S (λvs H Q E h=>h.1) (λiw A outer s H vs Q E hr h=>?_);obtain⟨hl,μ,ds,sto,hv,hs,hp⟩:=h;refine⟨_,qM iw A outer s H hr,μ,startM N.length ds,sto,aq.start N hv,hs,?_⟩;unfold bw at hp;cases hr:m (startM N.length ds) sto with
 | bad=>rw[hr]at hp;exact hp.elim
 | err x st1=>rw[hr]at hp;exact hp.elim
 | ok o st1 =>
  rw[hr]at hp;cases o with
  | rt d=>exact hp
  | nx env=>exact fun σ' H' μ' g oN _=>hp .non H' μ' g oN (ao.bK.mpr rfl)
  | bk env=>exact hp.elim
  | cn env=>exact hp.elim
end
section
variable  {X:Cx}{e:Expr}{es:List Expr}{mA:MA}{pos p:Pos}{x:Str}{k:Nat}{f:Addr}{fd:FuncData}{ps:List Str}{F:FD}{lF:List V}{ds:List Value}{dd:List D}
noncomputable def R.sure{α:Type}(r:R α):R α:=match r with
 | .ok a st=>.ok a st
 | _=>.bad
@[simp] def R.zn4(a:α)(st:ak):(R.ok a st).sure=.ok a st:=eQ rfl
noncomputable def az(F:FD)(dd:List D)(mA:MA):ME:=λenv st=>(mA env st).bind λas st1=>(F (as++dd) st1).sure
def Qe(G:cQ X.prog X.w X.K X.mg X.base rn k f fd ps (vV X.K ps.length F))(hr:cR k X.A)(hm:X.mg x=some (.ref f))(hk:PySem.W.keepIn X.K (.ref f)=true)(hb:Binds X.K fd ps ds)(hd:Vals lF ds)
  (hdd:∀μ H,aq X.K μ H dd lF) (ha:JA X (e::es) mA) (hlen:(e::es).length+lF.length=ps.length:=by rfl) (hg:Gl X x:=by rfl) (qK:(x==("__debug__":Str))=false:=by decide) (he:starEach (e::es) X.env=(false,eval e X.env)::starEach es X.env:=by rfl) (ou:(backTo pos (starEach es X.env)).any (·.1)=false:=by rfl)
  (hA:∀env st as st1,mA env st=.ok as st1->as.length=(e::es).length:=by intros;rfl) :
  JE X (.Call (.Name x p) (e::es) [] pos) (az F dd mA):=by
 refine JE.of (OJ G hr hg hm hk hb hd z8 ha qK he ou) fun σ H Q zz=>?_;obtain⟨μ,env,st,hE,hs,hp⟩:=zz;refine⟨μ,env,st,hE,hs,?_⟩;cases hr:mA env st with
 | bad=>unfold az at hp;rw[hr]at hp;exact hp
 | err y st1=>unfold az at hp;rw[hr]at hp;exact hp
 | ok as st1 =>
  unfold az at hp;rw[hr]at hp;intro vs H1 μ1 g1 bF hv;have zq:aq X.K μ1 H1 (as++dd) (vs++lF):=hv.append (hdd μ1 H1);refine⟨?_,μ1,as++dd,st1,zq,bF,?_⟩
  ·rw[gK,<-hv.length,hA env st as st1 hr];exact hlen
  ·have dq:=bL.mono g1 (show bL X μ H (lu X) Q (F (as++dd) st1).sure from hp);cases hF:F (as++dd) st1 with
   | ok d st2=>rw[hF]at dq;exact dq
   | err y st2=>rw[hF]at dq;exact dq.elim
   | bad=>rw[hF]at dq;exact dq.elim
end
mutual
def under(n:Nat):D->Prop
 | .loc k=>k<n
 | .tup ds=>bU n ds
 | _=>True
def bU(n:Nat):List D->Prop
 | []=>True
 | d::ds=>under n d/\bU n ds
end
@[simp] def Yw(n:Nat):under n .non=True:=by simp[under]
@[simp] def aae(n:Nat)(b:Bool):under n (.bl b)=True:=by simp[under]
@[simp] def Yx(n:Nat)(i:Int):under n (.int i)=True:=by simp[under]
@[simp] def Yv(n:Nat)(c:List Nat):under n (.str c)=True:=by simp[under]
@[simp] def zo8(n:Nat)(ds:List D):under n (.tup ds)=bU n ds:=by simp[under]
@[simp] def zn2(n k:Nat):under n (.loc k)=(k<n):=by simp[under]
@[simp] def Up(n:Nat):bU n []=True:=by simp[bU]
@[simp] def zjg(n:Nat)(d:D)(ds:List D):bU n (d::ds)=(under n d/\bU n ds):=by simp[bU]
def oX(n:Nat):MO->Prop
 | .lst ds=>bU n ds
 | .frz ds=>bU n ds
 | .dic kvs=>∀p∈kvs,under n p.2
 | .dkc kvs=>∀p∈kvs,under n p.2
 | .dkf kvs=>∀p∈kvs,under n p.2
 | .dtf kvs=>∀p∈kvs,under n p.2
 | .exc _ d=>under n d
 | .ins _ fs=>∀p∈fs,under n p.2
 | .tab _=>True
 | .clo _ _ ds=>bU n ds
 | .hid=>True
mutual
theorem ao.under:∀(d:D) {v:V},ao K μ H d v->M.under μ.length d
 | .non,_,_=>by simp
 | .bl _,_,_=>by simp
 | .int _,_,_=>by simp
 | .str _,_,_=>by simp
 | .tup ds,_,h=>by
  obtain⟨a,xs,_,_,h2⟩:=ao.aU.mp h;rw[zo8];exact aq.bU ds h2
 | .loc n,_,h=>by
  obtain⟨a,h1,_⟩:=ao.aH.mp h;rw[zn2];exact (gh.mp h1).1
theorem aq.bU:∀(ds:List D) {vs:List V},aq K μ H ds vs->M.bU μ.length ds
 | [],_,_=>by simp
 | d::ds,_,h=>by
  rw[aq]at h;obtain⟨v,r,_,h1,h2⟩:=h;rw[zjg];exact⟨ao.under d h1,aq.bU ds h2⟩
end
mutual
theorem ao.down:∀(d:D) {v:V},ao K (μ++ν) H d v->M.under μ.length d->ao K μ H d v
 | .non,_,h,_=>by simpa[ao] using h
 | .bl _,_,h,_=>by simpa[ao] using h
 | .int _,_,h,_=>by simpa[ao] using h
 | .str _,_,h,_=>by simpa[ao] using h
 | .tup ds,_,h,u=>by
  obtain⟨a,xs,e,h1,h2⟩:=ao.aU.mp h;rw[zo8]at u;exact ao.aU.mpr ⟨a,xs,e,h1,aq.down ds h2 u⟩
 | .loc n,_,h,u=>by
  obtain⟨a,h1,e⟩:=ao.aH.mp h;rw[zn2]at u;rw[gJ u]at h1;exact ao.aH.mpr ⟨a,h1,e⟩
theorem aq.down:∀(ds:List D) {vs:List V},aq K (μ++ν) H ds vs->M.bU μ.length ds->aq K μ H ds vs
 | [],_,h,_=>by simpa[aq] using h
 | d::ds,_,h,u=>by
  rw[aq]at h ⊢;obtain⟨v,r,e,h1,h2⟩:=h;rw[zjg]at u;exact⟨v,r,e,ao.down d h1 u.1,aq.down ds h2 u.2⟩
end
theorem aO.under:∀{ds:List (κ×D)} {vs:List (κ×V)},aO K μ H ds vs->∀p∈ds,M.under μ.length p.2
 | [],_,_,_,hp=>nomatch hp
 | (k,d)::ds,_,⟨v,r,e,h1,h2⟩,p,hp=>by
  rcases gf.mp hp with rfl | hp
  ·exact ao.under d h1
  ·exact aO.under h2 p hp
theorem aO.down:∀{ds:List (κ×D)} {vs:List (κ×V)},aO K (μ++ν) H ds vs->(∀p∈ds,M.under μ.length p.2)->aO K μ H ds vs
 | [],_,h,_=>h
 | (k,d)::ds,_,⟨v,r,e,h1,h2⟩,u=>⟨v,r,e,ao.down d h1 (u (k,d) (by simp)),aO.down h2 λp hp=>u p (kI _ hp)⟩
def fU.under(h:fU K μ H a o):oX μ.length o:=by
 cases o with
 | lst ds=>obtain⟨xs,_,h2⟩:=h;exact aq.bU ds h2
 | frz ds=>obtain⟨xs,_,h2⟩:=h;exact aq.bU ds h2
 | dic ds=>obtain⟨xs,_,h2⟩:=h;exact h2.under
 | dkc ds=>obtain⟨xs,_,h2⟩:=h;exact h2.under
 | dkf ds=>obtain⟨xs,_,_,h2⟩:=h;exact h2.under
 | dtf ds=>obtain⟨xs,_,_,h2⟩:=h;exact h2.under
 | exc c d=>obtain⟨_,_,_,_,_,_,_,_,_,_,_,_,h7⟩:=h;exact ao.under d h7
 | ins c ds=>obtain⟨_,_,xs,_,_,h2⟩:=h;exact h2.under
 | tab x=>trivial
 | clo j l ds=>obtain⟨_,_,_,_,xs,_,_,_,_,_,h2⟩:=h;exact aq.bU ds h2
 | hid=>trivial
def fU.down(h:fU K (μ++ν) H a o)(u:oX μ.length o):fU K μ H a o:=by
 cases o with
 | lst ds=>obtain⟨xs,h1,h2⟩:=h;exact⟨xs,h1,aq.down ds h2 u⟩
 | frz ds=>obtain⟨xs,h1,h2⟩:=h;exact⟨xs,h1,aq.down ds h2 u⟩
 | dic ds=>obtain⟨xs,h1,h2⟩:=h;exact⟨xs,h1,h2.down u⟩
 | dkc ds=>obtain⟨xs,h1,h2⟩:=h;exact⟨xs,h1,h2.down u⟩
 | dkf ds=>obtain⟨xs,o,h1,h2⟩:=h;exact⟨xs,o,h1,h2.down u⟩
 | dtf ds=>obtain⟨xs,o,h1,h2⟩:=h;exact⟨xs,o,h1,h2.down u⟩
 | exc c d=>obtain⟨oe,C,dx,od,v,fs,h1,h2,h3,h4,h5,h6,h7⟩:=h;exact⟨oe,C,dx,od,v,fs,h1,h2,h3,h4,h5,h6,ao.down d h7 u⟩
 | ins c ds=>obtain⟨C,dx,xs,h0,h1,h2⟩:=h;exact⟨C,dx,xs,h0,h1,h2.down u⟩
 | tab x=>exact h
 | clo j l ds=>obtain⟨cl,pm,c',qR,vs,h1,h2,h3,h4,h5,h6⟩:=h;exact⟨cl,pm,c',qR,vs,h1,h2,h3,h4,h5,aq.down ds h6 u⟩
 | hid=>trivial
def fU.up(ν:List Addr)(h:fU K μ H a o):fU K (μ++ν) H a o:=h.keep ⟨⟨ν,rfl⟩,.refl H⟩ λ_ _ q=>q
def ZX{α:Type}{l l':List α}(h:l'.take l.length=l){n:Nat}{o:α}(e:l[n]? = some o):l'[n]? = some o:=by
 have hl:=(gh.mp e).1;rw[<-h,List.getElem?_take]at e;rw[aeQ hl]at e;exact e
def aV.back{K:PySem.W.Frag}{μ ν:List Addr}{H H':Hp}{st st':ak}(h0:aV K μ H st)(h:aV K (μ++ν) H' st')(ht:st'.take st.length=st):aV K μ H' st:=by
 refine⟨h0.len,λn o e=>?_,λi j a oi oj ei ej mi mj hi hj=>?_⟩
 ·obtain⟨a,h1,h2⟩:=h.at_ n o (ZX ht e);obtain⟨a0,h3,h4⟩:=h0.at_ n o e;have hn:n<μ.length:=by rw[h0.len];exact (gh.mp e).1
  rw[gJ hn]at h1;exact⟨a,h1,h2.down h4.under⟩
 ·have up:∀k,μ[k]? = some a->(μ++ν)[k]? = some a:=λk hk=>by rw[gJ (gh.mp hk).1];exact hk
  exact h.uniq i j a oi oj (ZX ht ei) (ZX ht ej) mi mj (up i hi) (up j hj)
def aV.abW{K:PySem.W.Frag}{μ ν:List Addr}{H H':Hp}{st st':ak}{k:Nat}{o:MO}{a:Addr}(h0:aV K μ H st)(h:aV K (μ++ν) H' st')(ht:st'.take st.length=st)(hk:st.length<=k)(e:st'[k]? = some o)(u:oX st.length o)(ha:(μ++ν)[k]? = some a) :
  aV K (μ++[a]) H' (st++[o]):=by
 have hb:=h0.back h ht;obtain⟨a',q1,q2⟩:=h.at_ k o e;rw[ha]at q1;cases q1;have key:∀(n:Nat) (on:MO) (c:Addr),(st++[o])[n]? = some on->(μ++[a])[n]? = some c->(n<st.length/\st[n]? = some on/\μ[n]? = some c)\/(n=st.length/\on=o/\c=a):=λn on c e1 e2=>by
  by_cases hn:n<st.length
  ·rw[gJ hn]at e1;rw[gJ (by rw[h0.len];exact hn)]at e2;exact .inl ⟨hn,e1,e2⟩
  ·have hl:=(gh.mp e1).1;rw[gK,nF]at hl;have en:n=st.length:=by omega
   subst en;rw[kh (gb _)]at e1;rw[<-h0.len,kh (gb _)]at e2;simp at e1 e2;exact .inr ⟨rfl,e1.symm,e2.symm⟩
 refine⟨by simp[h0.len],λn on e1=>?_,λi j c oi oj ei ej mi mj hi hj=>?_⟩
 ·have hn:n<(μ++[a]).length:=by
   have:=(gh.mp e1).1;simpa[h0.len] using this
  obtain⟨c,hc⟩:∃c,(μ++[a])[n]? = some c:=⟨_,gF hn⟩;rcases key n on c e1 hc with⟨h1,h2,h3⟩ | ⟨h1,rfl,rfl⟩
  ·obtain⟨c',h4,h5⟩:=hb.at_ n on h2;rw[h3]at h4;cases h4;exact⟨c,hc,h5.up _⟩
  ·exact⟨c,hc,(q2.down (by rw[h0.len];exact u)).up _⟩
 ·have up:∀k,μ[k]? = some c->(μ++ν)[k]? = some c:=λk hk=>by rw[gJ (gh.mp hk).1];exact hk
  rcases key i oi c ei hi with⟨h1,h2,h3⟩ | ⟨h1,rfl,rfl⟩
  ·rcases key j oj c ej hj with⟨g1,g2,g3⟩ | ⟨g1,rfl,rfl⟩
   ·exact hb.uniq i j c oi oj h2 g2 mi mj h3 g3
   ·have:=h.uniq i k c oi oj (ZX ht h2) e mi mj (up i h3) ha;omega
  ·rcases key j oj c ej hj with⟨g1,g2,g3⟩ | ⟨g1,_,_⟩
   ·have:=h.uniq j k c oj oi (ZX ht g2) e mj mi (up j g3) ha;omega
   ·rw[h1,g1]
open Classical in
noncomputable def gc(st:ak)(r:R D):R D:=match r with
 | .ok d st'=>if st'.take st.length=st/\under st.length d then .ok d st else (match d with
  | .loc k=>(match st'[k]? with
   | some o=>if st'.take st.length=st/\st.length<=k/\oX st.length o then .ok (.loc st.length) (st++[o]) else .ok d st'
   | none=>.ok d st')
  | d=>.ok d st')
 | r=>r
noncomputable def bB(F:FD):FD:=λds st=>gc st (F ds st)
def zql(hs:aV K μ H st)(h:yh K μ H Q (gc st r)):yh K μ H Q r:=by
 cases r with
 | bad=>exact h
 | err x st'=>exact h
 | ok d st' =>
  unfold gc at h;dsimp only at h;by_cases c1:st'.take st.length=st/\under st.length d
  ·rw[aeQ c1]at h;intro v H' μ' g oN hv;obtain⟨ν,rfl⟩:=g.pre;exact h v H' μ ⟨⟨[],by simp⟩,g.ext⟩ (hs.back oN c1.1) (ao.down d hv (by rw[hs.len];exact c1.2))
  ·rw[aeS c1]at h;cases d with
   | loc k =>
    dsimp only at h;cases e:st'[k]? with
    | none=>rw[e]at h;exact h
    | some o =>
     rw[e]at h;dsimp only at h;by_cases c2:st'.take st.length=st/\st.length<=k/\oX st.length o
     ·rw[aeQ c2]at h;intro v H' μ' g oN hv;obtain⟨ν,rfl⟩:=g.pre;obtain⟨a,h1,rfl⟩:=ao.aH.mp hv;refine h _ H' (μ++[a]) ⟨⟨[a],rfl⟩,g.ext⟩ (hs.abW oN c2.1 c2.2.1 e c2.2.2 h1) (ao.aH.mpr ⟨a,?_,rfl⟩);rw[<-hs.len];simp
     ·rw[aeS c2]at h;exact h
   | _=>exact h
def uC(h:vV K n (bB F) vs H Q E):vV K n F vs H Q E:=by
 obtain⟨hl,μ,ds,st,h1,h2,h3⟩:=h;exact⟨hl,μ,ds,st,h1,h2,zql h2 h3⟩
def lW(h:under st.length d):gc st (.ok d (st++g))=.ok d st:=by
 unfold gc;dsimp only;rw[aeQ ⟨by simp,h⟩]
def Zz(h:oX st.length o):gc st (.ok (.loc (st.length+g.length)) (st++g++o::g'))=.ok (.loc st.length) (st++[o]):=by
 unfold gc;dsimp only;rw[aeS (by simp)];have e:(st++g++o::g')[st.length+g.length]? = some o:=by
  rw[kh (by simp)];simp
 rw[e];dsimp only;rw[aeQ ⟨by simp,by omega,h⟩]
section
variable  {X:Cx}{e a b c:Expr}{es:List Expr}{ma mb mc:ME}{mA:MA}{pos p2 p:Pos}
noncomputable def vI:List D->ak->R D
 | [.str cs],st=>if cs.length<=1000000 then .ok (.int cs.length) st else .bad
 | [.tup ds],st=>.ok (.int ds.length) st
 | [.loc n],st=>match aA st n with | some ds=>.ok (.int ds.length) st | none=>.bad
 | _,_=>.bad
def zos:cG X (.builtin "len") (Mg X vI):=by
 refine cG.weak (cG.or zmz zni) ?_;rintro xs H Q ⟨μ,st,ds,hs,hv,hp⟩;unfold vI at hp
 split at hp
 ·rename_i cs
  split at hp
  ·rename_i hl;obtain⟨v,rfl,q⟩:=aq.one hv;rw[ao.aQ]at q;subst q;exact .inl ⟨_,rfl,by rw[zf1];exact xm hl,by rw[zf1];exact hp.ret hs (ao.aN.mpr rfl)⟩
  ·exact hp.elim
 ·obtain⟨v,rfl,q⟩:=aq.one hv;obtain⟨p,ys,rfl,q1,q2⟩:=ao.aU.mp q;exact .inr ⟨p,ys,rfl,.inr q1.pN,by rw[<-q2.length];exact hp.ret hs (ao.aN.mpr rfl)⟩
 ·rename_i n;cases e:aA st n with
  | none=>rw[e]at hp;exact hp.elim
  | some ds =>
   rw[e]at hp;obtain⟨v,rfl,q⟩:=aq.one hv;obtain⟨p,q1,rfl⟩:=ao.aH.mp q;obtain⟨p',ys,r1,r2,r3⟩:=hs.items e;rw[q1]at r1;cases r1;exact .inr ⟨p,ys,rfl,.inl r2,by rw[<-r3.length];exact hp.ret hs (ao.aN.mpr rfl)⟩
 ·exact hp.elim
noncomputable def Eb:List D->ak->R D
 | [.int i],st=>.ok (.int i) st
 | [.bl k],st=>.ok (.int (if k then 1 else 0)) st
 | _,_=>.bad
def EY:cG X (.type "int") (Mg X Eb):=by
 refine cG.weak E_ ?_;rintro xs H Q ⟨μ,st,ds,hs,hv,hp⟩;unfold Eb at hp
 split at hp
 ·obtain⟨v,rfl,q⟩:=aq.one hv;rw[ao.aN]at q;subst q;exact .inl ⟨_,rfl,hp.ret hs (ao.aN.mpr rfl)⟩
 ·obtain⟨v,rfl,q⟩:=aq.one hv;rw[ao.bA]at q;subst q;exact .inr ⟨_,rfl,hp.ret hs (ao.aN.mpr rfl)⟩
 ·exact hp.elim
noncomputable def jR:List D->ak->R D
 | [.tup ds],st=>.ok (.loc st.length) (st++[.lst ds])
 | [.loc n],st=>match aA st n with | some ds=>.ok (.loc st.length) (st++[.lst ds]) | none=>.bad
 | _,_=>.bad
def zq1:cG X (.type "list") (Mg X jR):=by
 refine cG.weak zm9 ?_;rintro xs H Q ⟨μ,st,ds,hs,hv,hp⟩;unfold jR at hp
 split at hp
 ·obtain⟨v,rfl,q⟩:=aq.one hv;obtain⟨p,ys,rfl,q1,q2⟩:=ao.aU.mp q;exact⟨p,ys,rfl,.inr q1.pN,λl hl=>hp.newList hs q2 hl⟩
 ·rename_i n;cases e:aA st n with
  | none=>rw[e]at hp;exact hp.elim
  | some ds =>
   rw[e]at hp;obtain⟨v,rfl,q⟩:=aq.one hv;obtain⟨p,q1,rfl⟩:=ao.aH.mp q;obtain⟨p',ys,r1,r2,r3⟩:=hs.items e;rw[q1]at r1;cases r1;exact⟨p,ys,rfl,.inl r2,λl hl=>hp.newList hs r3 hl⟩
 ·exact hp.elim
noncomputable def Yy:D->ak->Option String
 | .non,_=>some "NoneType"
 | .bl _,_=>some "bool"
 | .int _,_=>some "int"
 | .str _,_=>some "str"
 | .tup _,_=>some "tuple"
 | .loc n,st=>match st[n]? with
  | some (.lst _)=>some "list"
  | some (.frz _)=>some "list"
  | some (.dic _)=>some "dict"
  | some (.dkc _)=>some "dict"
  | _=>none
def JK{pins:List (Addr×Obj)}{σ:L2.St}{μ:List Addr}{H:Hp}{s:Shared}{A:Around}{E:Value->Shared->Prop}{Q:Value->Shared->Prop}{cv:Value}{k:Bool}{d:D}{st:ak}{x:V}{u:Value}{T:String}
  (I:Inv X pins σ H s) (hs:aV X.K μ H st) (hd:ao X.K μ H d x) (rx:RelV x u) (ht:Yy d st=some T) (e:PySem.W.kitOne X.K (.type T) cv=some k) (h:∀tk,Q (.bool k) { s with toks:=tk }) :
  wpAny (model X.prog X.w) A (call (.builtin "isinstance") [u,cv]) Q E s:=by
 cases d with
 | non=>rw[ao.bK]at hd;subst hd;cases ht;exact Yj I rx (.non) e h
 | bl y=>rw[ao.bA]at hd;subst hd;cases ht;exact Yj I rx (.bl y) e h
 | int y=>rw[ao.aN]at hd;subst hd;cases ht;exact Yj I rx (.int y) e h
 | str y=>rw[ao.aQ]at hd;subst hd;cases ht;exact Yj I rx (.str _) e h
 | tup ds =>
  obtain⟨a,xs,rfl,q1,q2⟩:=ao.aU.mp hd;cases ht;obtain⟨its,_,p,_⟩:=I.tuple (q1.pN);obtain⟨o,h1,h2,_⟩:=p;cases (show u=Value.ref a from rx);exact aeX PySem.W.kitx_tuple I.qb ⟨o,h1,h2⟩ e (λz=>nomatch z) h
 | loc n =>
  obtain⟨a,q1,rfl⟩:=ao.aH.mp hd;simp only[Yy]at ht;have lst:∀ds,aA st n=some ds->PySem.W.kitOne X.K (.type "list") cv=some k->wpAny (model X.prog X.w) A (call (.builtin "isinstance") [u,cv]) Q E s:=λds e1 e2=>by
   obtain⟨p',ys,r1,r2,r3⟩:=hs.items e1;rw[q1]at r1;cases r1;obtain⟨its,_,p,_⟩:=I.list r2;cases (show u=Value.ref a from rx);exact aeX PySem.W.kitx_list I.qb p.isList.typeIs e2 (λz=>nomatch z) h
  cases e1:st[n]? with
  | none=>rw[e1]at ht;cases ht
  | some mo =>
   rw[e1]at ht;cases mo with
   | lst ds=>cases ht;exact lst ds (by unfold aA;rw[e1]) e
   | frz ds=>cases ht;exact lst ds (by unfold aA;rw[e1]) e
   | dic kvs =>
    cases ht;obtain⟨p',r1,ws,r2,_⟩:=hs.at_ n _ e1;rw[q1]at r1;cases r1;exact Yj I rx (.dT r2) e h
   | dkc kvs =>
    cases ht;obtain⟨p',r1,ws,r2,_⟩:=hs.at_ n _ e1;rw[q1]at r1;cases r1;exact Yj I rx (.dK r2) e h
   | _=>cases ht
noncomputable def f9(t T:String):Bool:=t==T || (t == "bool" && T == "int")
noncomputable def vK(T:String):D->ak->R D:=λd st=>match Yy d st with | some t=>.ok (.bl (f9 t T)) st | none=>.bad
noncomputable def Gx:List String:=["NoneType","bool","int","str","tuple","list","dict"]
def M_{d:D}{st:ak}{t:String}(h:Yy d st=some t):t∈Gx:=by
 cases d with
 | loc n =>
  simp only[Yy]at h
  split at h<;>cases h<;>decide
 | _=>cases h;decide
def rIs(X:Cx)(T:String):List V->Hp->VK->Prop:=λxs H Q=>∃μ st d x,xs=[x,.ty T]/\aV X.K μ H st/\ao X.K μ H d x/\bL X μ H (lu X) Q (vK T d st)
def K4{T:String}(hT:∀t∈Gx,PySem.W.kitOne X.K (.type t) (.type T)=some (f9 t T)):cG X (.builtin "isinstance") (rIs X T):=by
 rintro pins s σ H xs us Q I hr ⟨μ,st,d,x,rfl,hs,hd,hp⟩;obtain⟨u,w',rfl,r1,r2⟩:=vals2 hr;cases (show w'=Value.type T from r2);unfold vK at hp;cases e:Yy d st with
 | none=>rw[e]at hp;exact hp.elim
 | some t =>
  rw[e]at hp;exact JK I hs hd r1 e (hT t (M_ e)) λtk=>⟨.bl (f9 t T),H,I.tok tk,rfl,hp.ret hs (ao.bA.mpr rfl)⟩
def Pu{K:PySem.W.Frag}:∀t∈Gx,PySem.W.kitOne K (.type t) (.type "str")=some (f9 t "str"):=by
 intro t ht;simp only[Gx,gf,g_,ae3]at ht;rcases ht with rfl | rfl | rfl | rfl | rfl | rfl | rfl<;>rfl
def Wh{T:String}{xT:Str}(hT:∀t∈Gx,PySem.W.kitOne X.K (.type t) (.type T)=some (f9 t T))(h:JE X e ma)(hg:Gl X "isinstance")(hm:X.mg "isinstance" = none)(hgT:Gl X xT)(hmT:X.mg xT=none)
  (hv:bootBuiltins xT=some (.type T)) (hb:bootBuiltins "isinstance" = some (.builtin "isinstance")) (hnT:xT ≠ "__name__":=by decide) (hdT:(xT==("__debug__":Str))=false:=by decide)
  (bF:starEach [e,.Name xT p2] X.env=[(false,eval e X.env),(false,eval (.Name xT p2) X.env)]:=by rfl) (iu:starEach [.Name xT p2] X.env=[(false,eval (.Name xT p2) X.env)]:=by rfl) (ou:(backTo pos (starEach [.Name xT p2] X.env)).any (·.1)=false:=by rfl) :
  JE X (.Call (.Name "isinstance" p) [e,.Name xT p2] [] pos) (uG (vK T) ma):=by
 refine JE.of (zth (K4 hT) hg hm hb (ZJ h (ZJ (O1 (v:=.ty T) hgT hmT hv rfl hnT hdT) yQ iu) bF) (by decide) (by decide) bF ou) fun σ H Q zz=>?_;obtain⟨μ,env,st,hE,hs,hp⟩:=zz;refine⟨μ,env,st,hE,hs,(bL.bind hp).imp ?_⟩;rintro x H1 ⟨μ1,st1,d,g1,bF,hx,aR⟩;exact⟨μ1,st1,d,x,rfl,bF,hx,aR⟩
end
end M
namespace M
open PySem PySem.Spec PySem.SeqAt L2
mutual
noncomputable def fY:D->D->Bool
 | .non,.non=>true
 | .bl a,.bl b=>a==b
 | .bl a,.int b=>(if a then 1 else 0)==b
 | .int a,.bl b=>a==(if b then 1 else 0)
 | .int a,.int b=>a==b
 | .str a,.str b=>a==b
 | .tup a,.tup b=>jL a b
 | _,_=>false
noncomputable def jL:List D->List D->Bool
 | [],[]=>true
 | a::as,b::bs=>fY a b && jL as bs
 | _,_=>false
end
mutual
noncomputable def flat:D->Bool
 | .loc _=>false
 | .tup ds=>cD ds
 | _=>true
noncomputable def cD:List D->Bool
 | []=>true
 | d::ds=>flat d && cD ds
end
mutual
noncomputable def dep:D->Nat
 | .tup ds=>deps ds+1
 | _=>0
noncomputable def deps:List D->Nat
 | []=>0
 | d::ds=>max (dep d) (deps ds)
end
mutual
noncomputable def dm:D->D->Nat
 | .tup a,.tup b=>iH a b+1
 | _,_=>0
noncomputable def iH:List D->List D->Nat
 | a::as,b::bs=>max (dm a b) (iH as bs)
 | _,_=>0
end
@[simp] def zrl(a b:List D):dm (.tup a) (.tup b)=iH a b+1:=by simp[dm]
@[simp] def abQ(d:D):dm .non d=0:=by simp[dm]
@[simp] def acn(b:Bool)(d:D):dm (.bl b) d=0:=by simp[dm]
@[simp] def KR(b:Int)(d:D):dm (.int b) d=0:=by simp[dm]
@[simp] def zqu(b:List Nat)(d:D):dm (.str b) d=0:=by simp[dm]
@[simp] def abR(b:Nat)(d:D):dm (.loc b) d=0:=by simp[dm]
@[simp] def Zn(d:D):dm d .non=0:=by cases d<;>simp[dm]
@[simp] def abS(b:Bool)(d:D):dm d (.bl b)=0:=by cases d<;>simp[dm]
@[simp] def Zo(b:Int)(d:D):dm d (.int b)=0:=by cases d<;>simp[dm]
@[simp] def Zm(b:List Nat)(d:D):dm d (.str b)=0:=by cases d<;>simp[dm]
@[simp] def Zk(bs:List D):iH [] bs=0:=by simp[iH]
@[simp] def Xm(as:List D):iH as []=0:=by cases as<;>simp[iH]
@[simp] def zli(a b:D)(as bs:List D):iH (a::as) (b::bs)=max (dm a b) (iH as bs):=by simp[iH]
@[simp] def abG:flat .non=true:=by simp[flat]
@[simp] def ach(b:Bool):flat (.bl b)=true:=by simp[flat]
@[simp] def Kh(b:Int):flat (.int b)=true:=by simp[flat]
@[simp] def Kg(b:List Nat):flat (.str b)=true:=by simp[flat]
@[simp] def Kf(b:List D):flat (.tup b)=cD b:=by simp[flat]
@[simp] def Ze:cD []=true:=by simp[cD]
@[simp] def Yn(d:D)(ds:List D):cD (d::ds)=(flat d && cD ds):=by simp[cD]
@[simp] def acj:dep .non=0:=by simp[dep]
@[simp] def ad5(b:Bool):dep (.bl b)=0:=by simp[dep]
@[simp] def ack(b:Int):dep (.int b)=0:=by simp[dep]
@[simp] def aci(b:List Nat):dep (.str b)=0:=by simp[dep]
@[simp] def QJ(b:List D):dep (.tup b)=deps b+1:=by simp[dep]
@[simp] def abK:deps []=0:=by simp[deps]
@[simp] def En(d:D)(ds:List D):deps (d::ds)=max (dep d) (deps ds):=by simp[deps]
mutual
theorem zso:∀(a b:D),dm a b<=dep a
 | .tup a,.tup b=>by rw[zrl,QJ];exact Nat.succ_le_succ (zmw a b)
 | .tup a,.non=>by simp
 | .tup a,.bl _=>by simp
 | .tup a,.int _=>by simp
 | .tup a,.str _=>by simp
 | .tup a,.loc _=>by simp[dm]
 | .non,_=>by simp
 | .bl _,_=>by simp
 | .int _,_=>by simp
 | .str _,_=>by simp
 | .loc _,_=>by simp
theorem zmw:∀(a b:List D),iH a b<=deps a
 | [],b=>by simp
 | a::as,[]=>by simp
 | a::as,b::bs=>by
  rw[zli,En];have h1:=zso a b;have h2:=zmw as bs;omega
end
noncomputable def eqJ(as bs:List D)(j:Nat):Bool:=match as[j]?,bs[j]? with | some a,some b=>fY a b | _,_=>true
theorem zj9:∀(as bs:List D),jL as bs=((List.range (min as.length bs.length)).all (eqJ as bs) && as.length==bs.length)
 | [],[]=>by simp[jL]
 | [],b::bs=>by simp[jL]
 | a::as,[]=>by simp[jL]
 | a::as,b::bs=>by
  rw[jL,zj9 as bs];have e1:min (a::as).length (b::bs).length=min as.length bs.length+1:=by simp
  rw[e1,List.range_succ_eq_map,List.all_cons,List.all_map];have e2:((a::as).length==(b::bs).length)=(as.length==bs.length):=by
   rw[mz];simp
  rw[e2];have e3:eqJ (a::as) (b::bs) 0=fY a b:=rfl;rw[e3,Bool.and_assoc]
  rfl
mutual
theorem znd:∀(d:D),flat d=true->fY d d=true
 | .non,_=>by simp[fY]
 | .bl _,_=>by simp[fY]
 | .int _,_=>by simp[fY]
 | .str _,_=>by simp[fY]
 | .tup ds,h=>by rw[fY];exact zh2 ds (by simpa using h)
 | .loc _,h=>by simp[flat]at h
theorem zh2:∀(ds:List D),cD ds=true->jL ds ds=true
 | [],_=>by simp[jL]
 | d::ds,h=>by
  rw[Yn,gM]at h;rw[jL,znd d h.1,zh2 ds h.2];rfl
end
section
variable  {X:Cx}{pins:List (Addr×Obj)}{σ:L2.St}{μ:List Addr}{H:Hp}{s:Shared}
mutual
theorem zmy(I:Inv X pins σ H s):∀(d1 d2:D) {v:V},flat d1=true->flat d2=true->ao X.K μ H d1 v->ao X.K μ H d2 v->d1=d2
 | .non,d2,_,_,f2,h1,h2=>by
  rw[ao.bK]at h1;subst h1;cases d2 with
  | non=>rfl
  | bl _=>rw[ao.bA]at h2;cases h2
  | int _=>rw[ao.aN]at h2;cases h2
  | str _=>rw[ao.aQ]at h2;cases h2
  | tup _=>obtain⟨_,_,q,_⟩:=ao.aU.mp h2;cases q
  | loc _=>simp[flat]at f2
 | .bl b,d2,_,_,f2,h1,h2=>by
  rw[ao.bA]at h1;subst h1;cases d2 with
  | bl _=>rw[ao.bA]at h2;cases h2;rfl
  | non=>rw[ao.bK]at h2;cases h2
  | int _=>rw[ao.aN]at h2;cases h2
  | str _=>rw[ao.aQ]at h2;cases h2
  | tup _=>obtain⟨_,_,q,_⟩:=ao.aU.mp h2;cases q
  | loc _=>simp[flat]at f2
 | .int b,d2,_,_,f2,h1,h2=>by
  rw[ao.aN]at h1;subst h1;cases d2 with
  | int _=>rw[ao.aN]at h2;cases h2;rfl
  | non=>rw[ao.bK]at h2;cases h2
  | bl _=>rw[ao.bA]at h2;cases h2
  | str _=>rw[ao.aQ]at h2;cases h2
  | tup _=>obtain⟨_,_,q,_⟩:=ao.aU.mp h2;cases q
  | loc _=>simp[flat]at f2
 | .str b,d2,_,_,f2,h1,h2=>by
  rw[ao.aQ]at h1;subst h1;cases d2 with
  | str _=>rw[ao.aQ]at h2;injection h2 with h3;rw[zof.mp h3]
  | non=>rw[ao.bK]at h2;cases h2
  | bl _=>rw[ao.bA]at h2;cases h2
  | int _=>rw[ao.aN]at h2;cases h2
  | tup _=>obtain⟨_,_,q,_⟩:=ao.aU.mp h2;cases q
  | loc _=>simp[flat]at f2
 | .tup as,d2,_,f1,f2,h1,h2=>by
  obtain⟨a,xs,rfl,q1,q2⟩:=ao.aU.mp h1;cases d2 with
  | tup bs =>
   obtain⟨b,ys,e,r1,r2⟩:=ao.aU.mp h2;cases e;rw[I.rC (r1.pN) (q1.pN)]at r2;rw[zk1 I as bs (by simpa using f1) (by simpa using f2) q2 r2]
  | non=>rw[ao.bK]at h2;cases h2
  | bl _=>rw[ao.bA]at h2;cases h2
  | int _=>rw[ao.aN]at h2;cases h2
  | str _=>rw[ao.aQ]at h2;cases h2
  | loc _=>simp[flat]at f2
 | .loc _,_,_,f1,_,_,_=>by simp[flat]at f1
theorem zk1(I:Inv X pins σ H s):∀(as bs:List D) {vs:List V},cD as=true->cD bs=true->aq X.K μ H as vs->aq X.K μ H bs vs->as=bs
 | [],bs,_,_,_,h1,h2=>by
  rw[aq]at h1;subst h1;cases bs with
  | nil=>rfl
  | cons _ _=>rw[aq]at h2;obtain⟨_,_,q,_⟩:=h2;cases q
 | a::as,bs,_,f1,f2,h1,h2=>by
  rw[aq]at h1;obtain⟨v,r,rfl,q1,q2⟩:=h1;cases bs with
  | nil=>rw[aq]at h2;cases h2
  | cons b bs =>
   rw[aq]at h2;obtain⟨v',r',e,r1,r2⟩:=h2;cases e;rw[Yn,gM]at f1 f2;rw[zmy I a b f1.1 f2.1 q1 r1,zk1 I as bs f1.2 f2.2 q2 r2]
end
mutual
theorem Bg(I:Inv X pins σ H s):∀(d1 d2:D) {A:Around} {x y:V} {u w:Value},flat d1=true->flat d2=true->A.units+dm d1 d2<cLine->ao X.K μ H d1 x->ao X.K μ H d2 y->RelV x u->RelV y w ->
  EqAt A s u w (fY d1 d2)/\RcAt A s u w (fY d1 d2)/\RcNeAt A s u w (!fY d1 d2)
 | d1,d2,A,x,y,u,w,f1,f2,hu,h1,h2,r1,r2=>by
  cases d1 with
  | loc _=>simp[flat]at f1
  | non =>
   rw[ao.bK]at h1;subst h1;cases (show u=Value.none from r1);cases d2 with
   | loc _=>simp[flat]at f2
   | non=>rw[ao.bK]at h2;subst h2;cases (show w=Value.none from r2);exact⟨EqAt.same _,RcAt.none_none,RcNeAt.none_none⟩
   | bl b=>rw[ao.bA]at h2;subst h2;cases (show w=Value.bool b from r2);exact⟨EqAt.none_bool b,RcAt.none_bool b,RcNeAt.none_bool b⟩
   | int b=>rw[ao.aN]at h2;subst h2;obtain⟨t,rfl⟩:=r2;exact⟨EqAt.none_int b t,RcAt.none_int b t,RcNeAt.none_int b t⟩
   | str b=>rw[ao.aQ]at h2;subst h2;obtain⟨t,rfl⟩:=r2;exact⟨EqAt.none_str _ t,RcAt.none_str _ t,RcNeAt.none_str _ t⟩
   | tup bs =>
    obtain⟨b,ys,rfl,q1,q2⟩:=ao.aU.mp h2;cases (show w=Value.ref b from r2);obtain⟨its,_,p,_⟩:=I.tuple (q1.pN);exact⟨EqAt.none_tuple p (by omega),RcAt.none_tuple p (by omega),RcNeAt.none_tuple p (by omega)⟩
  | bl a =>
   rw[ao.bA]at h1;subst h1;cases (show u=Value.bool a from r1);cases d2 with
   | loc _=>simp[flat]at f2
   | non=>rw[ao.bK]at h2;subst h2;cases (show w=Value.none from r2);exact⟨EqAt.bool_none a,RcAt.bool_none a,RcNeAt.bool_none a⟩
   | bl b=>rw[ao.bA]at h2;subst h2;cases (show w=Value.bool b from r2);simp only[fY];exact⟨EqAt.bool_bool a b,RcAt.bool_bool a b,RcNeAt.bool_bool a b⟩
   | int b=>rw[ao.aN]at h2;subst h2;obtain⟨t,rfl⟩:=r2;simp only[fY];exact⟨EqAt.bool_int a b t,RcAt.bool_int a b t,RcNeAt.bool_int a b t⟩
   | str b=>rw[ao.aQ]at h2;subst h2;obtain⟨t,rfl⟩:=r2;exact⟨EqAt.bool_str a _ t,RcAt.bool_str a _ t,RcNeAt.bool_str a _ t⟩
   | tup bs =>
    obtain⟨b,ys,rfl,q1,q2⟩:=ao.aU.mp h2;cases (show w=Value.ref b from r2);obtain⟨its,_,p,_⟩:=I.tuple (q1.pN);exact⟨EqAt.bool_tuple a p (by omega),RcAt.bool_tuple a p (by omega),RcNeAt.bool_tuple a p (by omega)⟩
  | int a =>
   rw[ao.aN]at h1;subst h1;obtain⟨ta,rfl⟩:=r1;cases d2 with
   | loc _=>simp[flat]at f2
   | non=>rw[ao.bK]at h2;subst h2;cases (show w=Value.none from r2);exact⟨EqAt.int_none a ta,RcAt.int_none a ta,RcNeAt.int_none a ta⟩
   | bl b=>rw[ao.bA]at h2;subst h2;cases (show w=Value.bool b from r2);simp only[fY];exact⟨EqAt.int_bool a ta b,RcAt.int_bool a ta b,RcNeAt.int_bool a ta b⟩
   | int b=>rw[ao.aN]at h2;subst h2;obtain⟨t,rfl⟩:=r2;simp only[fY];exact⟨EqAt.int_int a ta b t,RcAt.int_int a ta b t,RcNeAt.int_int a ta b t⟩
   | str b=>rw[ao.aQ]at h2;subst h2;obtain⟨t,rfl⟩:=r2;exact⟨EqAt.int_str a ta _ t,RcAt.int_str a ta _ t,RcNeAt.int_str a ta _ t⟩
   | tup bs =>
    obtain⟨b,ys,rfl,q1,q2⟩:=ao.aU.mp h2;cases (show w=Value.ref b from r2);obtain⟨its,_,p,_⟩:=I.tuple (q1.pN);exact⟨EqAt.int_tuple a ta p (by omega),RcAt.int_tuple a ta p (by omega),RcNeAt.int_tuple a ta p (by omega)⟩
  | str a =>
   rw[ao.aQ]at h1;subst h1;obtain⟨ta,rfl⟩:=r1;cases d2 with
   | loc _=>simp[flat]at f2
   | non=>rw[ao.bK]at h2;subst h2;cases (show w=Value.none from r2);exact⟨EqAt.str_none _ ta,RcAt.str_none _ ta,RcNeAt.str_none _ ta⟩
   | bl b=>rw[ao.bA]at h2;subst h2;cases (show w=Value.bool b from r2);exact⟨EqAt.str_bool _ ta b,RcAt.str_bool _ ta b,RcNeAt.str_bool _ ta b⟩
   | int b=>rw[ao.aN]at h2;subst h2;obtain⟨t,rfl⟩:=r2;exact⟨EqAt.str_int _ ta b t,RcAt.str_int _ ta b t,RcNeAt.str_int _ ta b t⟩
   | str b =>
    rw[ao.aQ]at h2;subst h2;obtain⟨t,rfl⟩:=r2;have e:(strOf a==strOf b)=fY (.str a) (.str b):=by
     rw[fY,mz,beq_iff_eq,beq_iff_eq];exact zof
    rw[<-e];exact⟨EqAt.str_str _ ta _ t,RcAt.str_str _ ta _ t,RcNeAt.str_str _ ta _ t⟩
   | tup bs =>
    obtain⟨b,ys,rfl,q1,q2⟩:=ao.aU.mp h2;cases (show w=Value.ref b from r2);obtain⟨its,_,p,_⟩:=I.tuple (q1.pN);exact⟨EqAt.str_tuple _ ta p (by omega),RcAt.str_tuple _ ta p (by omega),RcNeAt.str_tuple _ ta p (by omega)⟩
  | tup as =>
   have h1':=h1;have h2':=h2;obtain⟨a,xs,rfl,q1,q2⟩:=ao.aU.mp h1;cases (show u=Value.ref a from r1);obtain⟨its,ra,p,_⟩:=I.tuple (q1.pN);cases d2 with
   | loc _=>simp[flat]at f2
   | non=>rw[ao.bK]at h2;subst h2;cases (show w=Value.none from r2);exact⟨EqAt.tuple_none p (by omega),RcAt.tuple_none p (by omega),RcNeAt.tuple_none p (by omega)⟩
   | bl b=>rw[ao.bA]at h2;subst h2;cases (show w=Value.bool b from r2);exact⟨EqAt.tuple_bool b p (by omega),RcAt.tuple_bool b p (by omega),RcNeAt.tuple_bool b p (by omega)⟩
   | int b=>rw[ao.aN]at h2;subst h2;obtain⟨t,rfl⟩:=r2;exact⟨EqAt.tuple_int b t p (by omega),RcAt.tuple_int b t p (by omega),RcNeAt.tuple_int b t p (by omega)⟩
   | str b=>rw[ao.aQ]at h2;subst h2;obtain⟨t,rfl⟩:=r2;exact⟨EqAt.tuple_str _ t p (by omega),RcAt.tuple_str _ t p (by omega),RcNeAt.tuple_str _ t p (by omega)⟩
   | tup bs =>
    obtain⟨b,ys,rfl,g1,g2⟩:=ao.aU.mp h2;cases (show w=Value.ref b from r2);obtain⟨oh,rb,p2,_⟩:=I.tuple (g1.pN);rw[zrl]at hu;rw[Kf]at f1 f2;have items:=zy I as bs (A:=A.in1) f1 f2 (by show A.units+1+iH as bs<cLine;omega) q2 g2 ra rb;have la:as.length=its.toArray.size:=by rw[gC,q2.length,ra.length]
    have lb:bs.length=oh.toArray.size:=by rw[gC,g2.length,rb.length]
    have e:((List.range (min its.toArray.size oh.toArray.size)).all (eqJ as bs) && its.toArray.size==oh.toArray.size)=fY (.tup as) (.tup bs):=by
     rw[fY,zj9,la,lb]
    have rc:RcAt A s (.ref a) (.ref b) (fY (.tup as) (.tup bs)):=by
     rw[<-e];exact RcAt.tuples p p2 (by omega) λj j1 j2=>items j (by simpa using j1) (by simpa using j2)
    have ne:RcNeAt A s (.ref a) (.ref b) (!fY (.tup as) (.tup bs)):=by
     rw[<-e];exact RcNeAt.tuples p p2 (by omega) λj j1 j2=>items j (by simpa using j1) (by simpa using j2)
    refine⟨?_,rc,ne⟩;by_cases hab:a=b
    ·subst hab;have:(D.tup as)=.tup bs:=zmy I _ _ (by simpa using f1) (by simpa using f2) h1' h2';rw[<-this,znd _ (by simpa using f1)];exact EqAt.same _
    ·exact EqAt.of_refs hab rc
theorem zy(I:Inv X pins σ H s):∀(as bs:List D) {A:Around} {xs ys:List V} {us ws:List Value},cD as=true->cD bs=true->A.units+iH as bs<cLine->aq X.K μ H as xs->aq X.K μ H bs ys->Vals xs us->Vals ys ws ->
  ∀(j:Nat) (h1:j<us.length) (h2:j<ws.length),EqAt A s us[j] ws[j] (eqJ as bs j)
 | [],bs,A,xs,ys,us,ws,_,_,_,h1,_,r1,_,j,j1,_=>by
  rw[aq]at h1;subst h1;cases r1;simp at j1
 | a::as,[],A,xs,ys,us,ws,_,_,_,_,h2,_,r2,j,_,j2=>by
  rw[aq]at h2;subst h2;cases r2;simp at j2
 | a::as,b::bs,A,xs,ys,us,ws,f1,f2,hu,h1,h2,r1,r2,j,j1,j2=>by
  rw[aq]at h1 h2;obtain⟨v,r,rfl,q1,q2⟩:=h1;obtain⟨v',r',rfl,g1,g2⟩:=h2;cases r1 with
  | cons r1 t1 =>
  cases r2 with
  | cons r2 t2 =>
  rw[Yn,gM]at f1 f2;rw[zli]at hu;cases j with
  | zero=>exact (Bg I a b f1.1 f2.1 (by omega) q1 g1 r1 r2).1
  | succ j=>exact zy I as bs f1.2 f2.2 (by omega) q2 g2 t1 t2 j (by simpa using j1) (by simpa using j2)
end
end
noncomputable def iD(L:Nat):D->D->ak->Option Bool
 | .loc m,.loc n,st=>match aA st m,aA st n with
  | some a,some b=>if cD a=true/\cD b=true/\iH a b+1<L then some (jL a b) else none
  | _,_=>none
 | .loc m,.non,st=>(aA st m).map λ_=>false
 | .loc m,.tup b,st=>if 0<L then (aA st m).map λ_=>false else none
 | .non,.loc n,st=>(aA st n).map λ_=>false
 | .tup a,.loc n,st=>if 0<L then (aA st n).map λ_=>false else none
 | d1,d2,_=>if flat d1=true/\flat d2=true/\dm d1 d2<L then some (fY d1 d2) else none
section
variable  {X:Cx}{pins:List (Addr×Obj)}{σ:L2.St}{μ:List Addr}{H:Hp}{s:Shared}{L:Nat}
def Em(I:Inv X pins σ H s)(f1:cD as=true)(f2:cD bs=true)(hu:A.units+1+iH as bs<cLine)(h1:aq X.K μ H as xs)(h2:aq X.K μ H bs ys) 
  (q1:lM X.K H a xs) (q2:lM X.K H b ys):RcAt A s (.ref a) (.ref b) (jL as bs)/\RcNeAt A s (.ref a) (.ref b) (!jL as bs):=by
 obtain⟨its,ra,p,_⟩:=I.list q1;obtain⟨oh,rb,p2,_⟩:=I.list q2;have la:as.length=its.toArray.size:=by rw[gC,h1.length,ra.length]
 have lb:bs.length=oh.toArray.size:=by rw[gC,h2.length,rb.length]
 by_cases hl:its.toArray.size=oh.toArray.size
 ·have items:=zy I as bs (A:=A.in1) f1 f2 hu h1 h2 ra rb;have e:((List.range its.toArray.size).all (eqJ as bs))=jL as bs:=by
   rw[zj9,la,lb,<-hl,Nat.min_self];simp
  rw[<-e];exact⟨RcAt.lists p.isList p2.isList hl (by omega) λj j1 j2=>items j (by simpa using j1) (by simpa using j2),RcNeAt.lists p.isList p2.isList hl (by omega) λj j1 j2=>items j (by simpa using j1) (by simpa using j2)⟩
 ·have e:jL as bs=false:=by
   rw[zj9,la,lb,Bool.and_eq_false_iff];exact .inr (by simpa using hl)
  have hl':(its.toArray.size != oh.toArray.size)=true:=by simpa using hl
  rw[e];exact⟨RcAt.lists_lengths p.isList p2.isList hl' (by omega),RcNeAt.lists_lengths p.isList p2.isList hl' (by omega)⟩
def zB(I:Inv X pins σ H s)(hs:aV X.K μ H st)(e:iD L d1 d2 st=some k)(hu:A.units+L<cLine)(h1:ao X.K μ H d1 x)(h2:ao X.K μ H d2 y)(r1:RelV x u)(r2:RelV y w) :
  RcAt A s u w k/\RcNeAt A s u w (!k):=by
 have plain:∀{d1 d2:D},ao X.K μ H d1 x->ao X.K μ H d2 y->(if flat d1=true/\flat d2=true/\dm d1 d2<L then some (fY d1 d2) else none)=some k->RcAt A s u w k/\RcNeAt A s u w (!k):=λ{d1 d2} h1 h2 e=>by
  split at e
  ·rename_i c;cases e;exact (Bg I d1 d2 c.1 c.2.1 (by omega) h1 h2 r1 r2).2
  ·cases e
 have list:∀{n:Nat} {v:V} {z:Value} {ds:List D},ao X.K μ H (.loc n) v->RelV v z->aA st n=some ds->∃p its,z=.ref p/\s.heap.IsList p its:=λ{n v z ds} h r q=>by
  obtain⟨p,q1,rfl⟩:=ao.aH.mp h;obtain⟨p',xs,g1,g2,g3⟩:=hs.items q;rw[q1]at g1;cases g1;cases (show z=Value.ref p from r);obtain⟨its,_,pl,_⟩:=I.list g2;exact⟨p,_,rfl,pl.isList⟩
 have tuple:∀{bs:List D} {v:V} {z:Value},ao X.K μ H (.tup bs) v->RelV v z->∃p its,z=.ref p/\s.heap.IsTuple p its:=λ{bs v z} h r=>by
  obtain⟨p,xs,rfl,q1,_⟩:=ao.aU.mp h;cases (show z=Value.ref p from r);obtain⟨its,_,pl,_⟩:=I.tuple (q1.pN);exact⟨p,_,rfl,pl⟩
 match d1,d2,e,h1,h2 with
 | .loc m,.loc n,e,h1,h2 =>
  simp only[iD]at e;cases e1:aA st m with
  | none=>rw[e1]at e;cases e
  | some as =>
   cases e2:aA st n with
   | none=>rw[e1,e2]at e;cases e
   | some bs =>
    rw[e1,e2]at e;dsimp only at e
    split at e
    ·rename_i c;cases e;obtain⟨p,q1,rfl⟩:=ao.aH.mp h1;obtain⟨p',xs,g1,g2,g3⟩:=hs.items e1;rw[q1]at g1;cases g1;obtain⟨q,q2,rfl⟩:=ao.aH.mp h2;obtain⟨q',ys,k1,k2,k3⟩:=hs.items e2;rw[q2]at k1;cases k1;cases (show u=Value.ref p from r1);cases (show w=Value.ref q from r2);exact Em I c.1 c.2.1 (by omega) g3 k3 g2 k2
    ·cases e
 | .loc m,.non,e,h1,h2 =>
  simp only[iD]at e;cases e1:aA st m with
  | none=>rw[e1]at e;cases e
  | some as =>
   rw[e1]at e;cases e;obtain⟨p,its,rfl,pl⟩:=list h1 r1 e1;rw[ao.bK]at h2;subst h2;cases (show w=Value.none from r2);exact⟨RcAt.list_none pl (by omega),RcNeAt.list_none pl (by omega)⟩
 | .non,.loc n,e,h1,h2 =>
  simp only[iD]at e;cases e1:aA st n with
  | none=>rw[e1]at e;cases e
  | some as =>
   rw[e1]at e;cases e;obtain⟨p,its,rfl,pl⟩:=list h2 r2 e1;rw[ao.bK]at h1;subst h1;cases (show u=Value.none from r1);exact⟨RcAt.none_list pl (by omega),RcNeAt.none_list pl (by omega)⟩
 | .loc m,.tup bs,e,h1,h2 =>
  simp only[iD]at e
  split at e
  ·cases e1:aA st m with
   | none=>rw[e1]at e;cases e
   | some as =>
    rw[e1]at e;cases e;obtain⟨p,its,rfl,pl⟩:=list h1 r1 e1;obtain⟨q,oh,rfl,pt⟩:=tuple h2 r2;exact⟨RcAt.list_tuple pl pt (by omega),RcNeAt.list_tuple pl pt (by omega)⟩
  ·cases e
 | .tup as,.loc n,e,h1,h2 =>
  simp only[iD]at e
  split at e
  ·cases e1:aA st n with
   | none=>rw[e1]at e;cases e
   | some as =>
    rw[e1]at e;cases e;obtain⟨p,its,rfl,pl⟩:=list h2 r2 e1;obtain⟨q,oh,rfl,pt⟩:=tuple h1 r1;exact⟨RcAt.tuple_list pt pl (by omega),RcNeAt.tuple_list pt pl (by omega)⟩
  ·cases e
 | .non,.non,e,h1,h2=>exact plain h1 h2 (by simpa only[iD] using e)
 | .non,.bl _,e,h1,h2=>exact plain h1 h2 (by simpa only[iD] using e)
 | .non,.int _,e,h1,h2=>exact plain h1 h2 (by simpa only[iD] using e)
 | .non,.str _,e,h1,h2=>exact plain h1 h2 (by simpa only[iD] using e)
 | .non,.tup _,e,h1,h2=>exact plain h1 h2 (by simpa only[iD] using e)
 | .bl _,d2,e,h1,h2=>exact plain h1 h2 (by simpa only[iD] using e)
 | .int _,d2,e,h1,h2=>exact plain h1 h2 (by simpa only[iD] using e)
 | .str _,d2,e,h1,h2=>exact plain h1 h2 (by simpa only[iD] using e)
 | .tup _,.non,e,h1,h2=>exact plain h1 h2 (by simpa only[iD] using e)
 | .tup _,.bl _,e,h1,h2=>exact plain h1 h2 (by simpa only[iD] using e)
 | .tup _,.int _,e,h1,h2=>exact plain h1 h2 (by simpa only[iD] using e)
 | .tup _,.str _,e,h1,h2=>exact plain h1 h2 (by simpa only[iD] using e)
 | .tup _,.tup _,e,h1,h2=>exact plain h1 h2 (by simpa only[iD] using e)
 | .loc _,.bl _,e,h1,h2=>simp[iD,flat]at e
 | .loc _,.int _,e,h1,h2=>simp[iD,flat]at e
 | .loc _,.str _,e,h1,h2=>simp[iD,flat]at e
noncomputable def fL(L:Nat):D->D->ak->R D:=λd1 d2 st=>match iD L d1 d2 st with | some k=>.ok (.bl k) st | none=>.bad
noncomputable def xK(L:Nat):D->D->ak->R D:=λd1 d2 st=>match iD L d1 d2 st with | some k=>.ok (.bl (!k)) st | none=>.bad
def Ia(hu:X.A.units+L<cLine):d9 X (compareOp .Eq) (rM X (fL L)):=by
 rintro pins s σ H x y v u Q I rx ry ⟨μ,st,dx,dy,hs,hx,hy,hp⟩;unfold fL at hp;cases e:iD L dx dy st with
 | none=>rw[e]at hp;exact hp.elim
 | some k =>
  rw[e]at hp;exact (zB I hs e hu hx hy rx ry).1 X.prog X.w X.xe _ ⟨.bl k,H,I,rfl,hp.ret hs (ao.bA.mpr rfl)⟩
def HR(hu:X.A.units+L<cLine):d9 X (compareOp .NotEq) (rM X (xK L)):=by
 rintro pins s σ H x y v u Q I rx ry ⟨μ,st,dx,dy,hs,hx,hy,hp⟩;unfold xK at hp;cases e:iD L dx dy st with
 | none=>rw[e]at hp;exact hp.elim
 | some k =>
  rw[e]at hp;exact (zB I hs e hu hx hy rx ry).2 X.prog X.w X.xe _ ⟨.bl (!k),H,I,rfl,hp.ret hs (ao.bA.mpr rfl)⟩
end
end M
namespace M
open PySem PySem.Spec L2
noncomputable def dw(T:String)(d:D)(st:ak):Bool:=match d with
 | .str _=>T == "str"
 | .loc n=>(match st[n]? with
  | some (.lst _)=>T == "list"
  | some (.frz _)=>T == "list"
  | some (.dic _)=>T == "dict"
  | some (.dkc _)=>T == "dict"
  | _=>false)
 | _=>false
section
variable  {X:Cx}{e a b c o:Expr}{es:List Expr}{ma mb mc mo:ME}{mA:MA}{pos p2 p apos dC:Pos}{T id:String}{name:Str}{g:D->List D->ak->R D}
def Ba(h:dw T d st=true)(hs:aV X.K μ H st)(hv:ao X.K μ H d v):tyV X.K T v H:=by
 cases d with
 | str cs=>rw[ao.aQ]at hv;subst hv;exact eq_of_beq h
 | loc n =>
  obtain⟨p,q1,rfl⟩:=ao.aH.mp hv;simp only[dw]at h;cases e:st[n]? with
  | none=>rw[e]at h;cases h
  | some o =>
   rw[e]at h;obtain⟨p',r1,r2⟩:=hs.at_ n o e;rw[q1]at r1;cases r1;cases o with
   | lst ds=>obtain⟨xs,r3,_⟩:=r2;exact .inl ⟨eq_of_beq h,xs,lM.of r3⟩
   | frz ds=>obtain⟨xs,r3,_⟩:=r2;exact .inl ⟨eq_of_beq h,xs,r3.sqL⟩
   | dic ds=>obtain⟨xs,r3,_⟩:=r2;exact .inr (.inr (.inl ⟨eq_of_beq h,.inr ⟨xs,r3⟩⟩))
   | dkc ds=>obtain⟨xs,r3,_⟩:=r2;exact .inr (.inr (.inl ⟨eq_of_beq h,.inl ⟨xs,r3⟩⟩))
   | _=>cases h
 | _=>simp[dw]at h
noncomputable def cJ(T:String)(g:D->List D->ak->R D)(mo:ME)(mA:MA):ME:=λenv st=>(mo env st).bind λx st1=>if dw T x st1=true then (mA env st1).bind λxs st2=>g x xs st2 else .bad
noncomputable def fB(T:String)(g:D->List D->ak->R D)(mo:ME):ME:=λenv st=>(mo env st).bind λx st1=>if dw T x st1=true then g x [] st1 else .bad
def Ry(pa:PlainAttrs T)(slot:Slot T name id)(WD:typeOf (.builtin id)=pure (.type "method_descriptor"))(hm:qd X id (Df X g))(ho:JE X o mo)(ha:JA X (e::es) mA)
  (qN:attributeBase o name X.env (eval o X.env)=eval o X.env:=by rfl)
  (uO:((backTo dC (starEach (e::es) X.env)).all (λx=>!x.1) && (backToKw dC (keywordEach [] X.env)).all (λx=>x.1.isSome)
   && decide ((e::es).length+([]:List Keyword).length+(if ([]:List Keyword).isEmpty then 0 else 1)<30))=true:=by rfl)
  (hline:(apos.endLine==dC.line)=true:=by rfl) (hs:starEach (e::es) X.env=(false,eval e X.env)::starEach es X.env:=by rfl) (uN:(backTo dC (starEach es X.env)).any (·.1)=false:=by rfl):JE X (.Call (.Attribute o name apos) (e::es) [] dC) (cJ T g mo mA):=by
 refine JE.of (aaY pa slot WD hm ho ha qN uO hline hs uN) fun σ H Q zz=>?_;obtain⟨μ,env,st,hE,hs,hp⟩:=zz;refine⟨μ,env,st,hE,hs,(bL.bind hp).imp ?_⟩;rintro x H1 ⟨μ1,st1,d,g1,bF,hx,aR⟩;dsimp only at aR
 split at aR
 ·rename_i hT;refine⟨Ba hT bF hx,μ1,env,st1,hE.mono g1,bF,(bL.bind aR).imp ?_⟩;rintro xs H2 ⟨μ2,st2,ds,g2,iu,jd,dq⟩;exact⟨μ2,st2,d,ds,iu,hx.mono g2 _,jd,dq⟩
 ·exact aR.elim
def zkj(pa:PlainAttrs T)(slot:Slot T name id)(WD:typeOf (.builtin id)=pure (.type "method_descriptor"))(hm:qd X id (Df X g))(ho:JE X o mo)
  (qN:attributeBase o name X.env (eval o X.env)=eval o X.env:=by rfl) (hline:(apos.endLine==dC.line)=true:=by rfl):JE X (.Call (.Attribute o name apos) [] [] dC) (fB T g mo):=by
 refine JE.of (Vr pa slot WD hm ho qN hline) fun σ H Q zz=>?_;obtain⟨μ,env,st,hE,hs,hp⟩:=zz;refine⟨μ,env,st,hE,hs,(bL.bind hp).imp ?_⟩;rintro x H1 ⟨μ1,st1,d,g1,bF,hx,aR⟩;dsimp only at aR
 split at aR
 ·rename_i hT;exact⟨Ba hT bF hx,μ1,st1,d,[],bF,hx,aq.nil,aR⟩
 ·exact aR.elim
noncomputable def a_:D->List D->ak->R D
 | .loc n,[d],st=>match st[n]? with
  | some (.lst ds)=>if ds.length<1000000 then .ok .non (st.set n (.lst (ds++[d]))) else .bad
  | _=>.bad
 | _,_,_=>.bad
def Gq{μ:List Addr}{H:Hp}{st:ak}{n:Nat}{ds Zf:List D}{p:Addr}{xs ys:List V}{Q:VK}(hp:bL X μ H (lu X) Q (.ok .non (st.set n (.lst Zf))))(hs:aV X.K μ H st)(e:st[n]? = some (.lst ds))(hq:μ[n]? = some p)(hx:H p=some (.lst xs))(hy:aq X.K μ H Zf ys) :
  Q .non (upd H p (.lst ys)):=by
 obtain⟨g,oN⟩:=wC hs e hq hx hy;exact hp _ _ μ g oN (ao.bK.mpr rfl)
def zsu:qd X "list.append" (Df X a_):=by
 refine qd.weak zoe ?_;rintro x xs H Q ⟨μ,st,d,ds,hs,hx,jd,hp⟩;unfold a_ at hp
 split at hp
 ·rename_i n d' ;cases e:st[n]? with
  | none=>rw[e]at hp;exact hp.elim
  | some mo =>
   cases mo with
   | lst l =>
    rw[e]at hp;dsimp only at hp
    split at hp
    ·rename_i hl;obtain⟨p,q1,rfl⟩:=ao.aH.mp hx;obtain⟨y,rfl,q2⟩:=aq.one jd;obtain⟨p',ys,r1,r2,r3⟩:=hs.lst e;rw[q1]at r1;cases r1;refine⟨p,ys,y,rfl,rfl,r2,by rw[<-r3.length];exact gQ hl (by decide),Gq hp hs e q1 r2 (r3.append (aq.cons q2 aq.nil))⟩
    ·exact hp.elim
   | _=>rw[e]at hp;exact hp.elim
 ·exact hp.elim
noncomputable def rW:D->List D->ak->R D
 | .loc n,[],st=>match st[n]? with
  | some (.lst ds)=>.ok .non (st.set n (.lst []))
  | _=>.bad
 | _,_,_=>.bad
def Dq:qd X "list.clear" (Df X rW):=by
 refine qd.weak Iw ?_;rintro x xs H Q ⟨μ,st,d,ds,hs,hx,jd,hp⟩;unfold rW at hp
 split at hp
 ·rename_i n;cases e:st[n]? with
  | none=>rw[e]at hp;exact hp.elim
  | some mo =>
   cases mo with
   | lst l =>
    rw[e]at hp;obtain⟨p,q1,rfl⟩:=ao.aH.mp hx;rw[aq]at jd;obtain⟨p',ys,r1,r2,r3⟩:=hs.lst e;rw[q1]at r1;cases r1;exact⟨p,ys,rfl,jd,r2,Gq hp hs e q1 r2 aq.nil⟩
   | _=>rw[e]at hp;exact hp.elim
 ·exact hp.elim
end
section
variable  {X:Cx}{e a b c l:Expr}{es:List Expr}{ma mb mc:ME}{mA:MA}{pos p2 p wu:Pos}{μ:List Addr}{H:Hp}
noncomputable def qF(st:ak)(n:Nat):Option (List D×MO):=match st[n]? with
 | some (.lst ds)=>some (ds,.lst ds)
 | some (.frz ds)=>some (ds,.frz ds)
 | _=>none
def zmp(h:qF st n=some (ds,o)):aA st n=some ds/\st[n]? = some o/\(o=.lst ds\/o=.frz ds):=by
 unfold qF at h;unfold aA
 split at h
 ·rename_i q;cases h;rw[q];exact⟨rfl,rfl,.inl rfl⟩
 ·rename_i q;cases h;rw[q];exact⟨rfl,rfl,.inr rfl⟩
 ·cases h
def zml{K:PySem.W.Frag}{st':ak}{n:Nat}{ds:List D}{o:MO}{μ':List Addr}{H':Hp}(ho:o=.lst ds\/o=.frz ds)(hs:aV K μ' H' st')(e:st'[n]? = some o):∃p xs,μ'[n]? = some p/\lM K H' p xs/\aq K μ' H' ds xs:=by
 refine hs.items ?_;unfold aA;rcases ho with rfl | rfl<;>rw[e]
noncomputable def cM:Nat->List D->List D
 | _,[]=>[]
 | k,d::ds=>.tup [.int k,d]::cM (k+1) ds
theorem Yk:∀(ds:List D) (k i:Nat),(cM k ds)[i]? = (ds[i]?).map λd=>.tup [.int ((k+i:Nat):Int),d]
 | [],k,i=>by simp[cM]
 | d::ds,k,0=>by simp[cM]
 | d::ds,k,i+1=>by
  have:=Yk ds (k+1) i;simp only[cM,mU];rw[this,show k+1+i=k+(i+1) by omega]
theorem T7:∀(ds:List D) (k:Nat),(cM k ds).length=ds.length
 | [],_=>rfl
 | _::ds,k=>by simp[cM,T7 ds (k+1)]
noncomputable def qQ(mA:MA):MI:=λenv st=>(mA env st).bind λds st1=>match ds with
 | [.loc n]=>(match qF st1 n with | some (xs,o)=>.ok (cM 0 xs,[(n,o)]) st1 | none=>.bad)
 | _=>.bad
def Qm{n:Nat}{ds:List D}{q:Addr}{o:MO}(ho:o=.lst ds\/o=.frz ds)(hp:μ[n]? = some q):lN X μ H (Ite X.K q) (cM 0 ds,[(n,o)]):=by
 intro H' μ' st' g hs ok;have e:st'[n]? = some o:=(ok (n,o) (by simp));obtain⟨p',xs,q1,q2,q3⟩:=zml ho hs e;rw[g.get hp]at q1;cases q1;refine⟨λi d hd=>?_,xs,q2,by rw[<-q3.length];show ds.length<=(cM 0 ds).length;rw[T7];exact gb _⟩;have wL:(cM 0 ds)[i]? = some d:=hd;rw[Yk]at wL;cases e2:ds[i]? with
 | none=>rw[e2]at wL;cases wL
 | some d0 =>
  rw[e2]at wL;cases wL;obtain⟨v,h1,h2⟩:=q3.get e2;refine⟨⟨xs,v,q2,h1⟩,?_⟩;rintro x BR ⟨pp,y,hn,rfl,rfl,hy⟩;have:=hy xs q2;rw[h1]at this;cases this;refine⟨bf.lay hn,hs.lay hn,ao.aU.mpr ⟨pp,_,rfl,.inl rm,?_⟩⟩;exact (aq.cons (ao.aN.mpr (by simp)) (aq.cons h2 aq.nil)).mono (bf.lay hn) _
def P0(ha:JA X [a] mA)(hg:Gl X "enumerate")(hm:X.mg "enumerate" = none)(hs:starEach [a] X.env=[(false,eval a X.env)]:=by rfl):JI X (.Tuple elts x1 wu) (.Call (.Name "enumerate" p) [a] [] pos) (qQ mA):=by
 refine JI.of (Om hg hm ha hs) fun σ H R zz=>?_;obtain⟨μ,env,st,hE,hs,hp⟩:=zz;refine⟨μ,env,st,hE,hs,(bL.bind hp).imp ?_⟩;rintro vs H1 ⟨μ1,st1,ds,g1,bF,hv,aR⟩;dsimp only at aR
 split at aR
 ·rename_i n;cases e:qF st1 n with
  | none=>rw[e]at aR;exact aR.elim
  | some y =>
   obtain⟨xs,o⟩:=y;rw[e]at aR;obtain⟨k1,k2,k3⟩:=zmp e;obtain⟨v,rfl,q1⟩:=aq.one hv;obtain⟨q,q2,rfl⟩:=ao.aH.mp q1;obtain⟨q',zs,r1,r2,r3⟩:=bF.items k1;rw[q2]at r1;cases r1;exact⟨q,rfl,⟨zs,r2⟩,aR _ _ _ (.refl _ _) bF (Qm k3 q2)⟩
 ·exact aR.elim
noncomputable def Hb(mA:MA):MI:=λenv st=>(mA env st).bind λds st1=>match ds with
 | [.loc n]=>(match qF st1 n with | some (xs,o)=>.ok (xs.reverse,[(n,o)]) st1 | none=>.bad)
 | _=>.bad
def Qi{n:Nat}{ds:List D}{q:Addr}{o:MO}(ho:o=.lst ds\/o=.frz ds)(hp:μ[n]? = some q):lN X μ H (Itv X.K q ds.length) (ds.reverse,[(n,o)]):=by
 intro H' μ' st' g hs ok;have e:st'[n]? = some o:=(ok (n,o) (by simp));obtain⟨p',xs,q1,q2,q3⟩:=zml ho hs e;rw[g.get hp]at q1;cases q1;refine⟨λi d hd=>?_,⟨xs,q2,q3.length.symm⟩,by simp⟩;have wL:ds.reverse[i]? = some d:=hd;have hi:i<ds.length:=by have:=(gh.mp wL).1;simpa using this
 rw[nT hi]at wL;obtain⟨v,h1,h2⟩:=q3.get wL;refine⟨⟨xs,v,q2,q3.length.symm,hi,h1⟩,?_⟩;rintro x BR ⟨rfl,hy⟩;have:=hy xs q2;rw[h1]at this;cases this;exact⟨.refl _ _,hs,h2⟩
def V7{tg:Expr}(ha:JA X [a] mA)(hg:Gl X "reversed")(hm:X.mg "reversed" = none)(hs:starEach [a] X.env=[(false,eval a X.env)]:=by rfl):JI X tg (.Call (.Name "reversed" p) [a] [] pos) (Hb mA):=by
 refine JI.of (Ve hg hm ha hs) fun σ H R zz=>?_;obtain⟨μ,env,st,hE,hs,hp⟩:=zz;refine⟨μ,env,st,hE,hs,(bL.bind hp).imp ?_⟩;rintro vs H1 ⟨μ1,st1,ds,g1,bF,hv,aR⟩;dsimp only at aR
 split at aR
 ·rename_i n;cases e:qF st1 n with
  | none=>rw[e]at aR;exact aR.elim
  | some y =>
   obtain⟨xs,o⟩:=y;rw[e]at aR;obtain⟨k1,k2,k3⟩:=zmp e;obtain⟨v,rfl,q1⟩:=aq.one hv;obtain⟨q,q2,rfl⟩:=ao.aH.mp q1;obtain⟨q',zs,r1,r2,r3⟩:=bF.items k1;rw[q2]at r1;cases r1;exact⟨q,zs,rfl,r2,by rw[<-r3.length];exact aR _ _ _ (.refl _ _) bF (Qi k3 q2)⟩
 ·exact aR.elim
end
def iV{α β:Type}(K:PySem.W.Frag)(μ:List Addr)(H:Hp)(rel:Rel α β)(Q:β->Hp->Prop)(r:R α):Prop:=match r with
 | .ok a st=>∀(b:β) (H':Hp) (μ':List Addr),bf μ H μ' H'->aV K μ' H' st->rel μ' H' a b->Q b H'
 | _=>False
def tK{α β:Type}(K:PySem.W.Frag)(rel:Rel α β)(m:aJ->ak->R α):L2.St->Hp->(β->Hp->Prop)->Prop:=fun σ H Q=>∃μ env st,dJ K μ H env σ/\aV K μ H st/\iV K μ H rel Q (m env st)
noncomputable def tKG(K:PySem.W.Frag)(m:MG):TG:=λv σ H Q=>∃μ env st d,dJ K μ H env σ/\aV K μ H st/\ao K μ H d v/\iV K μ H (fun μ H env σ=>dJ K μ H env σ) Q (m d env st)
def iV.post{α β:Type}{X:Cx}{μ:List Addr}{H:Hp}{rel:Rel α β}{Q:β->Hp->Prop}{r:R α}(h:iV X.K μ H rel Q r):bL X μ H rel Q r:=by
 cases r with
 | ok a st=>exact h
 | err x st=>exact h.elim
 | bad=>exact h.elim
def iV.mono{α β:Type}{K:PySem.W.Frag}{μ μ1:List Addr}{H H1:Hp}{rel:Rel α β}{Q:β->Hp->Prop}{r:R α}(g:bf μ H μ1 H1)(h:iV K μ H rel Q r):iV K μ1 H1 rel Q r:=by
 cases r with
 | ok a st=>exact λb H' μ' g'=>h b H' μ' (g.trans g')
 | err x st=>exact h.elim
 | bad=>exact h.elim
noncomputable def lH(capt:List (Option Nat))(env:aJ):aJ:=capt.map λo=>o.bind λj=>(env[j]?).join
open Classical in
noncomputable def fD(g:MG)(t:MT)(e:ME)(gs:List (Nat×MO))(n:Nat):List D->aJ->ak->R D
 | [],_,st=>if ud gs st then .ok (.loc n) st else .bad
 | d::r,env,st=>if ud gs st then (g d env st).bind λenv1 st1=>(t env1 st1).bind λok st2=>if ok then (e env1 st2).bind λy fV=>(match fV[n]? with
   | some (.lst xs)=>if xs.length<1000000 then fD g t e gs n r env1 (fV.set n (.lst (xs++[y]))) else .bad
   | _=>.bad) else fD g t e gs n r env1 st2 else .bad
noncomputable def eF(capt:List (Option Nat))(mi:MI)(g:MG)(t:MT)(e:ME):ME:=λenv st=>(mi env st).bind λs st1=>(fD g t e s.2 st1.length s.1 (lH capt env) (st1++[.lst []])).sure
noncomputable def j5:MT:=λ_ st=>.ok true st
section
variable  {X:Cx}{elt tg iter c:Expr}{ifs:List Expr}{scope:Scope}{pos:Pos}{N:List Str}{capt:List (Option Nat)}{mi:MI}{g:MG}{t:MT}{me:ME}
def dJ.taken{K:PySem.W.Frag}{μ:List Addr}{H:Hp}{env:aJ}{σ:L2.St}(cp:List (Option Nat))(h:dJ K μ H env σ):dJ K μ H (lH cp env) (ji cp σ):=by
 refine⟨by simp[lH,ji],λi d e=>?_⟩;unfold lH at e;unfold ji;rw[gB]at e ⊢;cases q:cp[i]? with
 | none=>rw[q]at e;cases e
 | some o =>
  rw[q]at e;cases o with
  | none=>cases e
  | some j =>
   have e':(env[j]?).join=some d:=by simpa using e
   have e2:env[j]? = some (some d):=by
    cases z:env[j]? with
    | none=>rw[z]at e';cases e'
    | some y=>rw[z]at e';cases e';rfl
   obtain⟨v,h1,h2⟩:=h.at_ j d e2;exact⟨v,by simp[h1],h2⟩
def iV.val{α β γ:Type}{K:PySem.W.Frag}{μ:List Addr}{H:Hp}{rel:Rel α β}{r:R α}{f:α->ak->R γ}{G:List Addr->Hp->R γ->Prop}(hG:∀μ μ1 H H1 r,bf μ H μ1 H1->G μ H r->G μ1 H1 r)(hb:∀μ H,¬ G μ H .bad)(he:∀μ H x st,¬ G μ H (.err x st))
  (h:G μ H (r.bind f)):iV K μ H rel (λb H1=>∃μ1 st1 a,bf μ H μ1 H1/\aV K μ1 H1 st1/\rel μ1 H1 a b/\G μ1 H1 (f a st1)) r:=by
 cases r with
 | ok a st=>exact λb H' μ' g h1 h2=>⟨μ',st,a,g,h1,h2,hG _ _ _ _ _ g h⟩
 | err x st=>exact (he _ _ _ _ h).elim
 | bad=>exact (hb _ _ h).elim
def yo(X:Cx)(Q:VK):List Addr->Hp->R D->Prop:=fun μ H r=>iV X.K μ H (lu X) Q r
def zte{σ:L2.St}{H:Hp}{Q:VK}(h:tM X (eF capt mi g t me) σ H Q):GF capt (tMI X mi) (tKG X.K g) (tK X.K Dc t) (tK X.K (lu X) me) σ H Q:=by
 obtain⟨μ,env,st,hE,hs,hp⟩:=h;refine⟨μ,env,st,hE,hs,(bL.bind hp).imp ?_⟩;rintro J H1 ⟨μ1,st1,s,g1,bF,hJ,aR⟩;dsimp only at aR;have dq:yo X Q μ1 H1 (fD g t me s.2 st1.length s.1 (lH capt env) (st1++[.lst []])):=by
  cases hr:fD g t me s.2 st1.length s.1 (lH capt env) (st1++[.lst []]) with
  | ok d st2=>rw[hr]at aR;exact aR
  | err y st2=>rw[hr]at aR;exact aR.elim
  | bad=>rw[hr]at aR;exact aR.elim
 have mG:∀μ μ1 H H1 r,bf μ H μ1 H1->yo X Q μ H r->yo X Q μ1 H1 r:=fun μ μ1 H H1 r g h=>iV.mono g h;have nb:∀μ H,¬ yo X Q μ H .bad:=fun μ H h=>h;have ne:∀μ H x st,¬ yo X Q μ H (.err x st):=fun μ H x st h=>h;intro D hD;have gD:bf μ1 H1 (μ1++[D]) (upd H1 D (.lst [])):=bf.new hD;have sD:aV X.K (μ1++[D]) (upd H1 D (.lst [])) (st1++[.lst []]):=bF.new hD ⟨[],rm,aq.nil⟩;have nD:(μ1++[D])[st1.length]? = some D:=by rw[<-bF.len];simp
 refine⟨λi k σ' H'=>∃μ2 bu st2,bf (μ1++[D]) (upd H1 D (.lst [])) μ2 H'/\dJ X.K μ2 H' bu σ'/\aV X.K μ2 H' st2/\yo X Q μ2 H' (fD g t me s.2 st1.length (s.1.drop i) bu st2)/\i<=s.1.length/\k=s.1.length - i,
  ⟨_,μ1++[D],lH capt env,_,.refl _ _,(hE.mono (g1.trans gD)).taken capt,sD,by simpa using mG _ _ _ _ _ gD dq,kO _,rfl⟩,?_⟩
 rintro i k σ2 H2 ⟨μ2,bu,st2,g2,SQ,iu,yu,hi,rfl⟩;have atD:μ2[st1.length]? = some D:=g2.get nD;by_cases yx:i<s.1.length
 ·have e1:s.1.drop i=s.1[i]::s.1.drop (i+1):=nq yx;rw[e1,fD]at yu;by_cases ok:ud s.2 st2
  ·rw[aeQ ok]at yu;obtain⟨q1,q2⟩:=(hJ H2 μ2 st2 (gD.trans g2) iu ok).1 i s.1[i] (gF yx);refine .inr ⟨q1,fun σ' H'=>∃μ3 wN fV,bf (μ1++[D]) (upd H1 D (.lst [])) μ3 H'/\dJ X.K μ3 H' wN σ'/\aV X.K μ3 H' fV/\yo X Q μ3 H' (fD g t me s.2 st1.length (s.1.drop (i+1)) wN fV),?_,?_⟩
   ·rintro σ' H' ⟨μ3,wN,fV,g3,hE3,xR,hp4⟩;exact⟨s.1.length - (i+1),by omega,μ3,wN,fV,g3,hE3,xR,hp4,by omega,rfl⟩
   ·intro x H3 hx;obtain⟨g3,xR,hd⟩:=q2 x H3 hx;refine⟨μ2,bu,st2,s.1[i],SQ.mono g3,xR,hd,?_⟩;have w1:=iV.val (K:=X.K) (rel:=fun μ H env σ=>dJ X.K μ H env σ) mG nb ne (mG _ _ _ _ _ g3 yu);cases hr1:g s.1[i] bu st2 with
    | bad=>rw[hr1]at w1;exact w1
    | err y z=>rw[hr1]at w1;exact w1
    | ok abI st4 =>
     rw[hr1]at w1;intro σ4 H4 μ4 g4 hs4 hE4;obtain⟨aeu,aau,sy,g4',adI,Qx,hp4⟩:=w1 σ4 H4 μ4 g4 hs4 hE4;refine⟨aeu,sy,aau,Qx,adI,?_⟩;have w2:=iV.val (K:=X.K) (rel:=Dc) mG nb ne hp4;cases hr2:t sy aau with
     | bad=>rw[hr2]at w2;exact w2
     | err y z=>rw[hr2]at w2;exact w2
     | ok b5 Mf =>
      rw[hr2]at w2;intro b H5 μ5 g5 hs5 hb5;obtain⟨ab5,Nj,b5',g5',abt,adX,hp5⟩:=w2 b H5 μ5 g5 hs5 hb5;subst adX;have gg:bf (μ1++[D]) (upd H1 D (.lst [])) ab5 H5:=((g2.trans g3).trans g4').trans g5';cases b5' with
      | false=>exact xQ ⟨ab5,sy,Nj,gg,Qx.mono g5',abt,by simpa using hp5⟩
      | true =>
       refine xP ⟨ab5,sy,Nj,Qx.mono g5',abt,?_⟩;have adL:yo X Q ab5 H5 ((me sy Nj).bind λy fV=>(match fV[st1.length]? with
        | some (.lst xs)=>if xs.length<1000000 then fD g t me s.2 st1.length (s.1.drop (i+1)) sy (fV.set st1.length (.lst (xs++[y]))) else .bad
        | _=>.bad)):=by simpa using hp5
       have w3:=iV.val (K:=X.K) (rel:=lu X) mG nb ne adL;cases hr3:me sy Nj with
       | bad=>rw[hr3]at w3;exact w3
       | err y z=>rw[hr3]at w3;exact w3
       | ok y6 st6 =>
        rw[hr3]at w3;intro v H6 μ6 g6 hs6 hv6;obtain⟨aeg,acH,y6',g6',abr,adG,Qt⟩:=w3 v H6 μ6 g6 hs6 hv6;have gg6:=gg.trans g6';have abX:aeg[st1.length]? = some D:=gg6.get nD;cases e6:acH[st1.length]? with
        | none=>rw[e6]at Qt;exact Qt.elim
        | some mo =>
         cases mo with
         | lst xs =>
          rw[e6]at Qt;dsimp only at Qt
          split at Qt
          ·rename_i hl;obtain⟨p',ys,r1,r2,r3⟩:=abr.lst e6;rw[abX]at r1;cases r1;obtain⟨g7,hs7⟩:=wC abr e6 abX r2 (r3.append (aq.cons adG aq.nil));refine⟨ys,r2,by rw[<-r3.length];exact gQ hl (by decide),aeg,sy,_,gg6.trans g7,((Qx.mono g5').mono g6').mono g7,hs7,mG _ _ _ _ _ g7 Qt⟩
          ·exact Qt.elim
         | _=>rw[e6]at Qt;exact Qt.elim
  ·rw[aeS ok]at yu;exact yu.elim
 ·have e1:s.1.drop i=[]:=nj (by omega);rw[e1,fD]at yu;have e2:i=s.1.length:=by omega
  by_cases ok:ud s.2 st2
  ·rw[aeQ ok]at yu;refine .inl ⟨by rw[e2];exact (hJ H2 μ2 st2 (gD.trans g2) iu ok).2,?_⟩;exact yu _ H2 μ2 (.refl _ _) iu (ao.aH.mpr ⟨D,atD,rfl⟩)
  ·rw[aeS ok]at yu;exact yu.elim
def R1{X':Cx}{e:Expr}{m:ME}(h:JE X' e m):PE X' e (tK X'.K (lu X') m):=by
 refine λpins s σ H Q I zz=>?_;obtain⟨μ,env,st,a,b,c⟩:=zz;exact h pins s σ H Q I ⟨μ,env,st,a,b,c.post⟩
def R0{X':Cx}{e:Expr}{m:MG}(h:JG X' e m):PG X' e (tKG X'.K m):=by
 refine λpins s σ H v u Q I r zz=>?_;obtain⟨μ,env,st,d,a,b,b2,c⟩:=zz;exact h pins s σ H v u Q I r ⟨μ,env,st,d,a,b,b2,c.post⟩
def JTs(X:Cx)(ifs:List Expr)(m:MT):Prop:=Zu X ifs (tK X.K Dc m)
def Lq:JTs X' [] j5:=by
 refine λpins s σ H Q I zz=>?_;obtain⟨μ,env,st,a,b,c⟩:=zz;exact N8 pins s σ H Q I (c true H μ (.refl _ _) b rfl)
def zH(sc sc0:Scope):Prop:=∀x∈sc.names,x.2=.free->sc0.names.lookup x.1=some .cell\/sc0.names.lookup x.1=some .free
instance (sc sc0:Scope):Decidable (zH sc sc0):=inferInstanceAs (Decidable (∀x∈sc.names,x.2=.free->sc0.names.lookup x.1=some .cell\/sc0.names.lookup x.1=some .free))
def TV(hi:JI X tg iter mi)(S:fJ scope)(Qv:zH scope sc0)(qL:jY X scope capt N)(hc:X.calm=true) 
  (hg:∀cl C fp s H,JG (cX X N scope cl C fp s H) tg g) (ht:∀cl C fp s H,JTs (cX X N scope cl C fp s H) ifs t) (he:∀cl C fp s H,JE (cX X N scope cl C fp s H) elt me)
  (h0:X.env.scope=sc0:=by rfl) (hs:∀x,foldedSetIterable iter X.env x=pure x:=by intro _;rfl):JE X (.ListComp elt [⟨tg,iter,ifs,0⟩] scope pos) (eF capt mi g t me) :=
 JE.of (Oz (g:=tKG X.K g) (tt:=tK X.K Dc t) (te:=tK X.K (lu X) me) hi S (by subst h0;exact Qv) qL hc (λcl C fp s H=>R0 (hg cl C fp s H)) ht (λcl C fp s H=>R1 (he cl C fp s H)) hs) fun σ H Q h=>zte h
def zlr(i:Nat)(hi:JI X tg iter mi)(S:fJ scope)(Qv:zH scope sc0)(qL:jY X scope capt N)(hc:X.calm=true) 
  (hg:∀cl C fp s H,JG (cX X N scope cl C fp s H) tg g) (ht:∀cl C fp s H,JTs (cX X N scope cl C fp s H) ifs t) (he:∀cl C fp s H,JE (cX X N scope cl C fp s H) elt me)
  (hN:X.N.Nodup) (hy:X.N[i]? = some y:=by rfl) (hx:Loc X.env.scope y:=by first | exact Or.inl rfl | exact Or.inr rfl) (hsw:swapsWith (.ListComp elt [⟨tg,iter,ifs,0⟩] scope pos) (some (.Name y py)) Ux.line X.env=pure true:=by rfl)
  (h0:X.env.scope=sc0:=by rfl) (hs:∀x,foldedSetIterable iter X.env x=pure x:=by intro _;rfl) (hf:X.fn y=true\/X.env.scope.names.lookup y=some .local:=by first | exact .inl rfl | exact .inr rfl | assumption) :
  JS X (.Assign [.Name y py] (.ListComp elt [⟨tg,iter,ifs,0⟩] scope pos) Ux) (aG i (eF capt mi g t me)):=by
 refine JS.of (zrh (g:=tKG X.K g) (tt:=tK X.K Dc t) (te:=tK X.K (lu X) me) hN hy hx hsw hi S (by subst h0;exact Qv) qL hc (λcl C fp s H=>R0 (hg cl C fp s H)) ht (λcl C fp s H=>R1 (he cl C fp s H)) hs hf) λE σ H zz=>?_;obtain⟨μ,env,st,hE,hs,hp⟩:=zz;refine zte ⟨μ,env,st,hE,hs,(cF.val hp).imp ?_⟩;rintro x H1 ⟨μ1,st1,d,g1,bF,hx,aR⟩;exact aR.nx bF ((hE.mono g1).set hx)
end
def Yc:∀(env:aJ) (st:ak) (as:List D) (st1:ak),au env st=.ok as st1->as.length=([]:List Expr).length:=by
 intro env st as st1 h;cases h;rfl
def B_{e:Expr}{es:List Expr}{a:ME}{r:MA}(h:∀(env:aJ) (st:ak) (as:List D) (st1:ak),r env st=.ok as st1->as.length=es.length) :
  ∀(env:aJ) (st:ak) (as:List D) (st1:ak),aj a r env st=.ok as st1->as.length=(e::es).length:=by
 intro env st as st1 q;unfold aj at q;cases h1:a env st with
 | bad=>rw[h1]at q;cases q
 | err x s=>rw[h1]at q;cases q
 | ok x s =>
  rw[h1,R.aB]at q;cases h2:r env s with
  | bad=>rw[h2]at q;cases q
  | err x s=>rw[h2]at q;cases q
  | ok xs s2 =>
   rw[h2,R.aB]at q;cases q;rw[gr,gr,h env s xs _ h2]
noncomputable def fuel:Nat:=1000000
end M
namespace M
open L2
def dz(h:under st.length d):gc st (.ok d st)=.ok d st:=by
 have:=lW (st:=st) (g:=[]) h;simpa using this
def Mv(h:oX st.length o):gc st (.ok (.loc st.length) (st++[o]))=.ok (.loc st.length) (st++[o]):=by
 have:=Zz (st:=st) (g:=[]) (g':=[]) h;simpa using this
def zp3(h:aA st n=some ds):aA (st++l) n=some ds:=by
 unfold aA at h ⊢;cases e:st[n]? with
 | none=>rw[e]at h;cases h
 | some o =>
  rw[gJ (gh.mp e).1,e];rw[e]at h;exact h
def bV{st l:ak}{n:Nat}{o:MO}(h:st[n]? = some o):(st++l)[n]? = some o:=by rw[gJ (gh.mp h).1];exact h
@[simp] def J5{st l:ak}:(st++l)[st.length]? = l[0]?:=by rw[kh (gb _)];simp
@[simp] def GZ{st l:ak}{o:MO}:(st++l).set st.length o=st++l.set 0 o:=by rw[List.set_append_right _ _ (gb _)];simp
def Gp(xs:List α)(k:Nat):pW xs (k:Int)=xs[k]?:=by
 unfold pW JB;rw[aeQ (by omega)];by_cases h:k<xs.length
 ·rw[aeQ (by omega)];simp
 ·rw[aeS (by omega)];simp;omega
def Ek(I:List D->aJ->ak->Prop)(h0:I [] env st) 
  (step:∀pre d post env st,items=pre++d::post->I pre env st->ud gs st/\∃env1 st1,g d env st=.ok env1 st1/\∃bu st2,(b env1 st1=.ok (.nx bu) st2\/b env1 st1=.ok (.cn bu) st2)/\I (pre++[d]) bu st2)
  (W4:∀env st,I items env st->ud gs st):∃bW st',cu g b gs items env st=.ok (.nx bW) st'/\I items bW st':=by
 have key:∀(post pre:List D) (env:aJ) (st:ak),items=pre++post->I pre env st->∃bW st',cu g b gs post env st=.ok (.nx bW) st'/\I items bW st':=by
  intro post
  induction post with
  | nil =>
   intro pre env st e hI;have:items=pre:=by simpa using e
   subst this;exact⟨env,st,by rw[cu,aeQ (W4 env st hI)],hI⟩
  | cons d post ih =>
   intro pre env st e hI;obtain⟨ok,env1,st1,h1,bu,st2,h2,hI2⟩:=step pre d post env st e hI;obtain⟨bW,st',h3,h4⟩:=ih (pre++[d]) bu st2 (by simp[e]) hI2;refine⟨bW,st',?_,h4⟩;rw[cu,aeQ ok,h1,R.aB];rcases h2 with h2 | h2<;>(rw[h2,R.aB];exact h3)
 exact key items [] env st rfl h0
def znm{capt:List (Option Nat)}{mi:MI}{g:MG}{t:MT}{e:ME}{env:aJ}{st st1:ak}{items:List D}{gs:List (Nat×MO)}(p:D->Bool)(f:D->D)(Pe:aJ->Prop)
  (hi:mi env st=.ok (items,gs) st1) (h0:Pe (lH capt env)) (hl:items.length<=1000000) (hg:∀ys,ud gs (st1++[.lst ys]))
  (step:∀d∈items,∀bW ys,Pe bW->∃env1,Pe env1/\g d bW (st1++[.lst ys])=.ok env1 (st1++[.lst ys])/\t env1 (st1++[.lst ys])=.ok (p d) (st1++[.lst ys]) /\
   (p d=true->e env1 (st1++[.lst ys])=.ok (f d) (st1++[.lst ys]))) :
  eF capt mi g t e env st=.ok (.loc st1.length) (st1++[.lst ((items.filter p).map f)]):=by
 have key:∀(post:List D) (bW:aJ) (ys:List D),(∀d∈post,d∈items)->Pe bW->ys.length+post.length<=1000000 ->
   fD g t e gs st1.length post bW (st1++[.lst ys])=.ok (.loc st1.length) (st1++[.lst (ys++(post.filter p).map f)]):=by
  intro post
  induction post with
  | nil=>intro bW ys _ _ _;rw[fD,aeQ (hg ys)];simp
  | cons d post ih =>
   intro bW ys hm hP hn;obtain⟨env1,hP1,h1,h2,h3⟩:=step d (hm d (by simp)) bW ys hP;have WQ:∀d∈post,d∈items:=λd hd=>hm d (kI _ hd);rw[gr]at hn;rw[fD,aeQ (hg ys),h1,R.aB,h2,R.aB];cases hp:p d with
   | false =>
    rw[aeS (by simp),ih env1 ys WQ hP1 (by omega)];simp[hp]
   | true =>
    rw[aeQ rfl,h3 hp,R.aB];simp only[J5,p8];rw[aeQ (by omega),GZ,List.set_cons_zero,ih env1 (ys++[f d]) WQ hP1 (by simp;omega)];simp[hp]
 unfold eF;rw[hi,R.aB,key items (lH capt env) [] (λd hd=>hd) h0 (by simpa using hl)];simp
def MF(f:D->D)(Pe:aJ->Prop) 
  (hi:mi env st=.ok (items,gs) st1) (h0:Pe (lH capt env)) (hl:items.length<=1000000) (hg:∀ys,ud gs (st1++[.lst ys]))
  (step:∀d∈items,∀bW ys,Pe bW->∃env1,Pe env1/\g d bW (st1++[.lst ys])=.ok env1 (st1++[.lst ys])/\e env1 (st1++[.lst ys])=.ok (f d) (st1++[.lst ys])) :
  eF capt mi g j5 e env st=.ok (.loc st1.length) (st1++[.lst (items.map f)]):=by
 have:=znm (capt:=capt) (mi:=mi) (g:=g) (t:=j5) (e:=e) (env:=env) (st:=st) (λ_=>true) f Pe hi h0 hl hg λd hd bW ys hP=>by
  obtain⟨env1,a,b,c⟩:=step d hd bW ys hP;exact⟨env1,a,b,rfl,λ_=>c⟩
 have e2:items.filter (λ_=>true)=items:=List.filter_eq_self.mpr (by simp);rw[e2]at this;exact this
section
variable  (env:aJ)(st:ak)(a b:ME)(x y:D)(mA:MA)(tc ta tb:MT)(m1 m2:MS)
@[simp] def NP(i:Nat):vr i env st=match env[i]? with | some (some d)=>.ok d st | _=>.bad:=eQ rfl
@[simp] def aaH(d:D):ct d env st=.ok d st:=eQ rfl
@[simp] def aeo(g:D->D->ak->R D):aD g a b env st=(a env st).bind λx st1=>(b env st1).bind λy st2=>g x y st2:=eQ rfl
@[simp] def aep(g:D->ak->R D):uG g a env st=(a env st).bind λx st1=>g x st1:=eQ rfl
@[simp] def aek :eY a env st=(a env st).bind λx st1=>match x with | .bl b=>.ok b st1 | _=>.bad:=eQ rfl
@[simp] def aej :jU a env st=(a env st).bind λx st1=>match iZ x st1 with | some b=>.ok b st1 | none=>.bad:=eQ rfl
@[simp] def ac7 :t6 ta tb env st=(ta env st).bind λx st1=>if x then tb env st1 else .ok false st1:=eQ rfl
@[simp] def aen :xJ ta tb env st=(ta env st).bind λx st1=>if x then .ok true st1 else tb env st1:=eQ rfl
@[simp] def ac1 :lz ta env st=(ta env st).bind λx st1=>.ok (!x) st1:=eQ rfl
@[simp] def ac6 :tZ a b env st=(a env st).bind λx st1=>match x with | .bl true=>b env st1 | .bl false=>.ok (.bl false) st1 | _=>.bad:=eQ rfl
@[simp] def aem :HQ a b env st=(a env st).bind λx st1=>match x with | .bl true=>.ok (.bl true) st1 | .bl false=>b env st1 | _=>.bad:=eQ rfl
@[simp] def ac0 :Ih a env st=(a env st).bind λx st1=>match x with | .bl c=>.ok (.bl (!c)) st1 | _=>.bad:=eQ rfl
@[simp] def aer :Mj tc a b env st=(tc env st).bind λx st1=>if x then a env st1 else b env st1:=eQ rfl
@[simp] def UL :au env st=.ok [] st:=eQ rfl
@[simp] def NZ :aj a mA env st=(a env st).bind λx st1=>(mA env st1).bind λxs st2=>.ok (x::xs) st2:=eQ rfl
@[simp] def acW :fM mA env st=(mA env st).bind λds st1=>if ds.length<=1000000 then .ok (.tup ds) st1 else .bad:=eQ rfl
@[simp] def ac3 :cV mA env st=(mA env st).bind λds st1=>if ds.length<=1000000 then .ok (.loc st1.length) (st1++[.lst ds]) else .bad:=eQ rfl
@[simp] def ael(l h:MP):GP a l h env st=(a env st).bind λx st1=>(l env st1).bind λlo st2=>(h env st2).bind λhi fV=>vz x lo hi fV:=eQ rfl
@[simp] def ace(g:List D->ak->R D):bD g mA env st=(mA env st).bind λds st1=>g ds st1:=eQ rfl
@[simp] def ab6 :bh env st=.ok (.nx env) st:=eQ rfl
@[simp] def Hg :aC m1 m2 env st=(m1 env st).bind λo st1=>match o with | .nx env1=>m2 env1 st1 | o=>.ok o st1:=eQ rfl
@[simp] def acZ :retS a env st=(a env st).bind λd st1=>.ok (.rt d) st1:=eQ rfl
@[simp] def ab_ :dH a env st=(a env st).bind λ_ st1=>.ok (.nx env) st1:=eQ rfl
@[simp] def aeq :fu tc m1 m2 env st=(tc env st).bind λx st1=>if x then m1 env st1 else m2 env st1:=eQ rfl
@[simp] def NT(i:Nat):aM i x env st=.ok (env.set i (some x)) st:=eQ rfl
@[simp] def ac5(g:MG):oH a g env st=(a env st).bind λd st1=>(g d env st1).bind λenv1 st2=>.ok (.nx env1) st2:=eQ rfl
@[simp] def UJ(i:Nat):aG i a env st=(a env st).bind λd st1=>.ok (.nx (env.set i (some d))) st1:=eQ rfl
@[simp] def ac2 :tQ [] env st=.ok env st:=eQ rfl
@[simp] def acb(g:MG)(r:Ms)(d:D)(ds:List D):dY g r (d::ds) env st=(g d env st).bind λenv1 st1=>r ds env1 st1:=eQ rfl
@[simp] def acV(n:Nat)(g:Ms)(ds:List D):rD n g (.tup ds) env st=if ds.length=n then g ds env st else .bad:=eQ rfl
@[simp] def acX(g:D->D->D->ak->R Unit)(d:D):vy g a b d env st=(a env st).bind λx st1=>(b env st1).bind λy st2=>(g x y d st2).bind λ_ fV=>.ok env fV:=eQ rfl
@[simp] def acd(F:FD)(dd:List D):az F dd mA env st=(mA env st).bind λas st1=>(F (as++dd) st1).sure:=eQ rfl
@[simp] def ab9(T:String)(g:D->List D->ak->R D):cJ T g a mA env st=(a env st).bind λx st1=>if dw T x st1=true then (mA env st1).bind λxs st2=>g x xs st2 else .bad:=eQ rfl
@[simp] def aaC(T:String)(g:D->List D->ak->R D):fB T g a env st=(a env st).bind λx st1=>if dw T x st1=true then g x [] st1 else .bad:=eQ rfl
@[simp] def wA(mi:MI)(g:MG):dU mi g m1 env st=(mi env st).bind λs st1=>cu g m1 s.2 s.1 env st1:=eQ rfl
@[simp] theorem yO :ig a env st=(a env st).bind λd st1=>match d with
 | .loc n=>(match st1[n]? with
  | some (.lst ds)=>.ok (ds,[(n,.lst ds)]) st1
  | some (.frz ds)=>.ok (ds,[(n,.frz ds)]) st1
  | _=>.bad)
 | .tup ds=>.ok (ds,[]) st1
 | _=>.bad:=eQ rfl
@[simp] theorem zov :fc mA env st=(mA env st).bind λds st1=>match ds with
 | [.int j]=>if -(2 ^ 62)<=j/\j<2 ^ 62 then .ok (jE 0 j.toNat,[]) st1 else .bad
 | _=>.bad:=eQ rfl
@[simp] theorem aca :qQ mA env st=(mA env st).bind λds st1=>match ds with
 | [.loc n]=>(match qF st1 n with | some (xs,o)=>.ok (cM 0 xs,[(n,o)]) st1 | none=>.bad)
 | _=>.bad:=eQ rfl
@[simp] theorem acY :Hb mA env st=(mA env st).bind λds st1=>match ds with
 | [.loc n]=>(match qF st1 n with | some (xs,o)=>.ok (xs.reverse,[(n,o)]) st1 | none=>.bad)
 | _=>.bad:=eQ rfl
@[simp] def YB(i j:Int):bj (.int i) (.int j) st=.ok (.int (i+j)) st:=eQ rfl
@[simp] def Dd(i j:Int):ux (.int i) (.int j) st=.ok (.int (i - j)) st:=by simp[ux,qI]
def T6(i j:Int)(h:(-(2 ^ 64)<i/\i<2 ^ 64)\/(-(2 ^ 64)<j/\j<2 ^ 64)):lC (.int i) (.int j) st=.ok (.int (i*j)) st:=by
 unfold lC qI;dsimp only;rw[aeQ h]
def zma(i j:Int)(h:0<j/\j<2 ^ 64):dG (.int i) (.int j) st=.ok (.int (i / j)) st:=by
 unfold dG qI;dsimp only;rw[aeQ h]
def zhv(i j:Int)(h:0<j):eN (.int i) (.int j) st=.ok (.int (i % j)) st:=by
 unfold eN qI;dsimp only;rw[aeQ h]
@[simp] def aaD(i j:Int):ltV (.int i) (.int j) st=.ok (.bl (decide (i<j))) st:=by simp[ltV,qI]
@[simp] def ztf(i j:Int):Xa (.int i) (.int j) st=.ok (.bl (decide (j<i))) st:=by simp[Xa,qI]
@[simp] def aaG(L:Nat)(i j:Int):fL (L+1) (.int i) (.int j) st=.ok (.bl (decide (i=j))) st:=by
 have e:(i==j)=decide (i=j):=by rw[mz];simp
 simp only[fL,iD,fY,e,Kh,KR];rw[aeQ ⟨trivial,trivial,Nat.succ_pos L⟩]
@[simp] def Hj(L:Nat)(i j:List Nat):fL (L+1) (.str i) (.str j) st=.ok (.bl (decide (i=j))) st:=by
 have e:(i==j)=decide (i=j):=by rw[mz];simp
 simp only[fL,iD,fY,e,Kg,zqu];rw[aeQ ⟨trivial,trivial,Nat.succ_pos L⟩]
def uh(n:Nat)(i:Int)(ds:List D)(d:D)(h:aA st n=some ds)(hi:pW ds i=some d):aZ (.loc n) (.int i) st=.ok d st:=by
 simp[aZ,h,hi]
def yH(i:Int)(ds:List D)(d:D)(hi:pW ds i=some d):aZ (.tup ds) (.int i) st=.ok d st:=by
 simp[aZ,hi]
@[simp] def UW(b:Bool):Eb [.bl b] st=.ok (.int (if b then 1 else 0)) st:=eQ rfl
@[simp] def aaF(T:String)(i:List Nat):vK T (.str i) st=.ok (.bl (f9 "str" T)) st:=eQ rfl
@[simp] def aaE(T:String)(i:List D):vK T (.tup i) st=.ok (.bl (f9 "tuple" T)) st:=eQ rfl
end
end M
namespace L2
open PySem PySem.Spec PyProof.Rows
section
variable  {κ:Type}[DecidableEq κ]
noncomputable def iR(kvs:List (κ×V))(k:κ):Option V:=(kvs.find? λkv=>decide (kv.1=k)).map (·.2)
noncomputable def putK(kvs:List (κ×V))(k:κ)(v:V):List (κ×V) :=
 if (kvs.any λkv=>decide (kv.1=k))=true then kvs.map (λkv=>if kv.1=k then (kv.1,v) else kv) else kvs++[(k,v)]
def ZS{p:κ×V}{r:List (κ×V)}{k:κ}(e:p.1=k):iR (p::r) k=some p.2:=by simp[iR,mD,e]
def ZW{p:κ×V}{r:List (κ×V)}{k:κ}(e:¬ p.1=k):iR (p::r) k=iR r k:=by simp[iR,mD,e]
theorem zna(k:κ):∀kvs:List (κ×V),(kvs.any λkv=>decide (kv.1=k))=(iR kvs k).isSome
 | []=>rfl
 | p::r=>by
  rw[n6];by_cases e:p.1=k
  ·simp only[ZS e,aeV e,Bool.true_or,Option.isSome_some]
  ·rw[ZW e,aeT e,Bool.false_or];exact zna k r
def zg1(kvs:List (κ×V))(k:κ)(v:V):(putK kvs k v).length<=kvs.length+1:=by
 unfold putK
 split
 ·rw[gm];omega
 ·rw[gK,gr,mV];omega
def Hm{kvs:List (κ×V)}{k:κ}(v:V)(h:iR kvs k=none):putK kvs k v=kvs++[(k,v)]:=by
 unfold putK;rw[zna,h];exact aeS (by decide)
def jW.DY(r:jW o u):o.isSome=u.isSome:=by
 cases o with
 | none=>cases u with
  | none=>rfl
  | some _=>exact (show False from r).elim
 | some _=>cases u with
  | none=>exact (show False from r).elim
  | some _=>rfl
def jW.getD(r:jW o u)(rd:RelV d d'):RelV (o.getD d) (u.getD d'):=by
 cases o with
 | none=>cases u with
  | none=>exact rd
  | some _=>exact (show False from r).elim
 | some _=>cases u with
  | none=>exact (show False from r).elim
  | some _=>exact r
def KV.val{kvs:List (κ×V)}{vs:List (κ×Value)}(r:KV kvs vs)(k:κ):jW (iR kvs k) (valueAt vs k):=by
 unfold KV at r
 induction r with
 | nil=>exact True.intro
 | @cons p q ps qs h t ih =>
  obtain⟨h1,h2⟩:=h;by_cases e:p.1=k
  ·have e':q.1=k:=h1.symm.trans e;have b:valueAt (q::qs) k=some q.2:=by simp[valueAt,mD,e']
   rw[ZS e,b];exact h2
  ·have e':¬ q.1=k:=λz=>e (h1.trans z);have b:valueAt (q::qs) k=valueAt qs k:=by simp[valueAt,mD,e']
   rw[ZW e,b];exact ih
def KV.any(r:KV kvs vs)(k:κ):(kvs.any λkv=>decide (kv.1=k))=vs.any λkv=>decide (kv.1=k):=by
 unfold KV at r
 induction r with
 | nil=>rfl
 | cons h t ih=>rw[n6,n6,ih,h.1]
def KV.repl(r:KV kvs vs)(k:κ)(ry:RelV y u) :
  KV (kvs.map λkv=>if kv.1=k then (kv.1,y) else kv) (vs.map λkv=>if kv.1=k then (kv.1,u) else kv):=by
 unfold KV at r ⊢
 induction r with
 | nil=>exact .nil
 | @cons p q ps qs h t ih =>
  rw[gw,gw];refine .cons ?_ ih;obtain⟨h1,h2⟩:=h;by_cases e:p.1=k
  ·rw[aeQ e,aeQ (h1.symm.trans e)];exact⟨h1,ry⟩
  ·rw[aeS e,aeS (λz=>e (h1.trans z))];exact⟨h1,h2⟩
def KV.put(r:KV kvs vs)(k:κ)(ry:RelV y u):KV (putK kvs k y) (stored vs k u):=by
 unfold putK stored;rw[r.any k];by_cases e:(vs.any λkv=>decide (kv.1=k))=true
 ·rw[aeQ e,aeQ e];exact r.repl k ry
 ·rw[aeS e,aeS e];exact Paired.snoc r ⟨rfl,ry⟩
def KV.length(r:KV kvs vs):kvs.length=vs.length:=afa r
end
def v7(r:RelV (kV k) u):(bG P w).is k u=true:=by
 cases k with
 | inl i=>obtain⟨t,e⟩:=(show ∃t,u=Value.int i t from r);subst e;exact zqa P w i t
 | inr x=>obtain⟨t,e⟩:=(show ∃t,u=Value.str x t from r);subst e;exact zqc P w x t
theorem zo5:∀{ks:List Key} {us:List Value},Vals (ks.map kV) us->ItemsAre (bG P w) ks us
 | [],_,r=>by rw[mQ]at r;cases r;exact .nil
 | k::ks,_,r=>by
  rw[gw]at r;cases r with
  | cons h t=>exact .cons (v7 h) (zo5 t)
abbrev KT(H:Hp):List (List Key×V)->List (List Key×Addr×Value)->Prop:=Paired λp q=>p.1=q.1/\H q.2.1=some (.tup (p.1.map kV))/\RelV p.2 q.2.2
def KT.val{H:Hp}{kvs:List (List Key×V)}{xs:List (List Key×Addr×Value)}(r:KT H kvs xs)(k:List Key):jW (iR kvs k) ((atKey xs k).map (·.2)):=by
 induction r with
 | nil=>exact True.intro
 | @cons p q ps qs h t ih =>
  obtain⟨h1,_,h2⟩:=h;by_cases e:p.1=k
  ·have e':q.1=k:=h1.symm.trans e;have b:atKey (q::qs) k=some q.2:=by simp[atKey,mD,e']
   rw[ZS e,b];exact h2
  ·have e':¬ q.1=k:=λz=>e (h1.trans z);have b:atKey (q::qs) k=atKey qs k:=by simp[atKey,mD,e']
   rw[ZW e,b];exact ih
def KT.repl(r:KT H kvs xs)(k:List Key)(ry:RelV y u) :
  KT H (kvs.map λkv=>if kv.1=k then (kv.1,y) else kv) (xs.map (putAt k u)):=by
 induction r with
 | nil=>exact .nil
 | @cons p q ps qs h t ih =>
  rw[gw,gw];refine .cons ?_ ih;obtain⟨h1,h2,h3⟩:=h;unfold putAt;by_cases e:p.1=k
  ·rw[aeQ e,aeQ (h1.symm.trans e)];exact⟨h1,h2,ry⟩
  ·rw[aeS e,aeS (λz=>e (h1.trans z))];exact⟨h1,h2,h3⟩
def KT.put(r:KT H kvs xs)(k:List Key)(hb:H b=some (.tup (k.map kV)))(ry:RelV y u) :
  KT H (putK kvs k y) (storedH xs k b u):=by
 have e:(kvs.any λkv=>decide (kv.1=k))=(atKey xs k).isSome:=by
  rw[zna,(r.val k).DY,Option.isSome_map]
 unfold putK storedH;rw[e];by_cases q:(atKey xs k).isSome=true
 ·rw[aeQ q,aeQ q];exact r.repl k ry
 ·rw[aeS q,aeS q];exact Paired.snoc r ⟨rfl,hb,ry⟩
def KT.keeps(r:KT H kvs xs)(ht:∀b ys,H b=some (.tup ys)->H' b=some (.tup ys)):KT H' kvs xs :=
 Paired.VJ r λ_ _ z=>⟨z.1,ht _ _ z.2.1,z.2.2⟩
section
variable  {P:Program}{w:World}{H:Hp}{h:Heap}{a:Addr}
def RX(ok:jX P w H h)(e:Rd H a u):bY P w H h a u:=e.ok ok
def uU(ok:jX P w H h)(e:Rd H a (.dK kvs)):kvs.length<=sizeLine/\(a==sysModules)=false/\∃vs,KV kvs vs/\h.DictOf (bG P w) a vs :=
 show bY P w H h a (.dK kvs) from RX ok e
def Tg(ok:jX P w H h)(e:H a=some (.dK kvs)):kvs.length<=sizeLine/\(a==sysModules)=false/\∃vs,KV kvs vs/\h.DictOf (bG P w) a vs:=uU ok (.inl e)
def Xz(ok:jX P w H h)(e:H a=some (.tup (ks.map kV))):(tupleKind (bG P w)).is h ks a:=by
 obtain⟨_,its,r,o,h1,h2,n,h3⟩:=(show bY P w H h a (.tup (ks.map kV)) from ok a _ e);exact⟨o,its.toArray,n,h1,h2,h3,by simpa using zo5 r⟩
def xY(ok:jX P w H h)(e:Rd H a (.dT kvs)):kvs.length<=sizeLine/\(a==sysModules)=false /\
  ∃xs,KT H kvs xs/\h.DictOfH (tupleKind (bG P w)) a xs:=by
 obtain⟨z,y,xs,r,o,es,ep,h1,h2,h3,h4,h5⟩:=(show bY P w H h a (.dT kvs) from RX ok e);refine⟨z,y,xs,r,o,es,ep,h1,h2,h3,h4,λx hx=>?_,h5⟩;have all:∀{l:List (List Key×V)} {m:List (List Key×Addr×Value)},KT H l m->∀x∈m,(tupleKind (bG P w)).is h x.1 x.2.1:=by
  intro l m q
  induction q with
  | nil=>intro x hx;exact nomatch hx
  | @cons p q ps qs hq t ih =>
   intro x hx;rcases gf.mp hx with e | hx
   ·subst e;exact Xz ok (by rw[<-hq.1];exact hq.2.1)
   ·exact ih x hx
 exact all r x hx
def Tc(ok:jX P w H h)(e:H a=some (.dT kvs)):kvs.length<=sizeLine/\(a==sysModules)=false /\
  ∃xs,KT H kvs xs/\h.DictOfH (tupleKind (bG P w)) a xs:=xY ok (.inl e)
end
def t8(H:Hp)(a:Addr)(y:V)(r:Option V):Prop :=
 (∃kvs k,Rd H a (.dK kvs)/\y=kV k/\r=iR kvs k)\/∃kvs k b,Rd H a (.dT kvs)/\y=.ref b/\H b=some (.tup (k.map kV))/\r=iR kvs k
def Ro(H:Hp)(a:Addr)(y v:V)(H':Hp):Prop :=
 (∃kvs k,H a=some (.dK kvs)/\y=kV k/\kvs.length<sizeLine/\H'=upd H a (.dK (putK kvs k v))) \/
 ∃kvs k b,H a=some (.dT kvs)/\y=.ref b/\H b=some (.tup (k.map kV))/\kvs.length<sizeLine/\H'=upd H a (.dT (putK kvs k v))
def t8.k{H:Hp}{a:Addr}{kvs:List (Key×V)}{k:Key}(e:H a=some (.dK kvs)):t8 H a (kV k) (iR kvs k):=.inl ⟨kvs,k,.inl e,rfl,rfl⟩
def t8.t{H:Hp}{a b:Addr}{kvs:List (List Key×V)}{k:List Key}(e:H a=some (.dT kvs))(eb:H b=some (.tup (k.map kV))):t8 H a (.ref b) (iR kvs k):=.inr ⟨kvs,k,b,.inl e,rfl,eb,rfl⟩
def Ro.k{H:Hp}{a:Addr}{kvs:List (Key×V)}{k:Key}{v:V}(e:H a=some (.dK kvs))(hl:kvs.length<sizeLine):Ro H a (kV k) v (upd H a (.dK (putK kvs k v))):=.inl ⟨kvs,k,e,rfl,hl,rfl⟩
section
variable  {X:Cx}{pins:List (Addr×Obj)}{σ:St}{H:Hp}{s:Shared}{a:Addr}{y v:V}{u r:Value}{o:Option V}{A:Around}{E:Value->Shared->Prop}
def Inv.big(I:Inv X pins σ H s):sysModules<s.heap.objs.size:=by
 have h:mainGlobals<s.heap.objs.size:=(I.mod.glob.keeps I.bk).lt;exact Nat.lt_trans (by decide) h
def Er(hu:A.units+1<cLine)(I:Inv X pins σ H s)(g:t8 H a y (some v))(ry:RelV y u)(h:∀w' s',Inv X pins σ H s'->RelV v w'->Q w' s') :
  wpAny (model X.prog X.w) A (getItem (.ref a) u) Q E s:=by
 rcases g with⟨kvs,k,e,ey,l⟩ | ⟨kvs,k,b,e,ey,eb,l⟩
 ·subst ey;obtain⟨z,hd,vs,rel,dd⟩:=uU I.bN e;obtain⟨w',hw,yL⟩:=jW.some_of (v:=v) (o:=valueAt vs k) (by rw[l];exact rel.val k);exact wpAny_getItem_of (v7 ry) dd.mapOf hw (h w' _ (I.tok _) yL)
 ·subst ey;cases (show u=Value.ref b from ry);obtain⟨z,hd,xs,rel,dd⟩:=xY I.bN e;obtain⟨w',hw,yL⟩:=jW.some_of (v:=v) (o:=(atKey xs k).map (·.2)) (by rw[l];exact rel.val k);obtain⟨p,hp,dq⟩:=nG.mp hw;refine wpAny_getItem_heap (afj hu) (Xz I.bN eb) dd hp ?_;rw[dq];exact h w' _ (I.tok _) yL
def zpd(I:Inv X pins σ H s)(mu:Mut (H a))(hs:Heap.SameBut a s.heap h')(he:∃q,h'.get? a=some q)(new:bY X.prog X.w (upd H a ob) h' a ob) :
  Inv X pins σ (upd H a ob) { s with heap:=h',toks:=t' } :=
 I.write (x:=a) (e:=a) mu (.inl rfl) (λb q hb z=>(hs.2 b hb).trans z) he new
def zE(z:kvs.length<=sizeLine)(hd:(a==sysModules)=false)(rel:KV kvs vs)(dd:h'.DictOf (bG P w) a vs) :
  bY P w H' h' a (.dK kvs):=⟨z,hd,vs,rel,dd⟩
def Ep(hu:A.units+1<cLine)(I:Inv X pins σ H s)(g:Ro H a y v H')(ry:RelV y u)(rv:RelV v r)(h:∀s',Inv X pins σ H' s'->Q () s') :
  wpAny (model X.prog X.w) A (setItem (.ref a) u r) Q E s:=by
 rcases g with⟨kvs,k,e,ey,l,eH⟩ | ⟨kvs,k,b,e,ey,eb,l,eH⟩
 ·subst ey eH;obtain⟨z,hd,vs,rel,dd⟩:=Tg I.bN e;have hz:vs.length<=sizeLine:=by rw[<-rel.length];exact z
  have hl:(putK kvs k v).length<=sizeLine:=by have:=zg1 kvs k v;omega
  refine wpAny_setItem_pairs (hsz:=hz) (v7 ry) dd λh' Kw hs=>h _ ?_;have he:∃q,h'.get? a=some q:=let ⟨q,_,_,hq,_⟩:=Kw;⟨q,hq⟩;exact zpd I (by rw[e];exact True.intro) hs he (zE hl hd (rel.put k rv) Kw)
 ·subst ey eH;cases (show u=Value.ref b from ry);obtain⟨z,hd,xs,rel,dd⟩:=Tc I.bN e;have hz:xs.length<=sizeLine:=by rw[<-afa rel];exact z
  have hl:(putK kvs k v).length<=sizeLine:=by have:=zg1 kvs k v;omega
  refine wpAny_setItem_heap (hsz:=hz) (afj hu) (Xz I.bN eb) dd λh' Kw hs=>h _ ?_;obtain⟨q,es,ep,hq,h2,h3,h4,_,h5⟩:=Kw;refine zpd I (by rw[e];exact True.intro) hs ⟨q,hq⟩ ⟨hl,hd,_,(rel.put k eb rv).keeps λc ys ec=>?_,q,es,ep,hq,h2,h3,h4,h5⟩;rw[iy (lB ec e (λz=>nomatch z))];exact ec
end
section
variable  {X:Cx}{pins:List (Addr×Obj)}{σ:St}{H:Hp}{s:Shared}{a:Addr}{kvs:List (Key×V)}{k:Key}{u:Value}{A:Around}{E:Value->Shared->Prop}
def abM(I:Inv X pins σ H s)(e:Rd H a (.dK kvs))(h:∀t s',Inv X pins σ H s'->Q (.int kvs.length t) s'):wpAny (model X.prog X.w) A (call (.builtin "len") [.ref a]) Q E s:=by
 obtain⟨z,hd,vs,rel,dd⟩:=uU I.bN e;refine call_len_dict hd dd (by rw[<-rel.length];rw[afr]at z;omega) ?_;rw[<-rel.length];exact h _ _ (I.tok _)
end
def Xu(i:Expr):Prop:=∀ov iv,subscripted i false ov iv=operate [ov,iv] (getItem ov iv)
def Ni{prog:Program}{w:World}{A:Around}{E:Value->Shared->Prop}{s:Shared}{env:Env}{value slice:Expr}{pos:Pos}{T id:String}{Q:Value->Shared->Prop}
  (hl:typeLookup (.type T) "__getitem__" = pure (some (.builtin id))) (hs:Xu slice)
  (h:wpAny (model prog w) A (eval value env) (λo aeF=>wpAny (model prog w) A (eval slice env) (λi aeE=>aeE.TypeIs o T/\wpAny (model prog w) A (getItem o i) Q E aeE) E aeF) E s) :
  wpAny (model prog w) A (eval (.Subscript value slice pos) env) Q E s:=by
 refine Subscript_ (ae4 h (λo aeF aeN=>ae4 aeN (λi aeE aeM=>?_) λ_ _ x=>x) λ_ _ x=>x);obtain⟨hT,aeM⟩:=aeM;unfold subscriptTail;refine aeP ?_;rw[getitemInPython_of_ne hT.not_modules];refine aeP (afp hT hl ?_);have fin:wpAny (model prog w) A (subscripted slice false o i) (λr aeD=>wpAny (model prog w) A (letTemporaryGo value o r >>= λ_=>pure r) Q E aeD) E aeE:=by
  rw[hs o i];exact wpAny_operating (ae4 aeM (λr aeD aeL=>aeP (wpAny_letTemporaryGo (aeR aeL))) λ_ _ x=>x)
 first
  | exact aeR (aeP fin)
  | exact aeP (aeR (aeP fin))
  | exact aeP fin
def zp6(I:Inv X pins σ H s)(g:t8 H a y o):s.TypeIs (.ref a) "dict":=by
 rcases g with⟨kvs,k,e,_,_⟩ | ⟨kvs,k,b,e,_,_,_⟩
 ·obtain⟨_,_,vs,_,dd⟩:=uU I.bN e;exact dd.typeIs
 ·obtain⟨_,_,xs,_,dd⟩:=xY I.bN e;exact dd.typeIs
noncomputable def aar(td ty:TE):TE:=fun σ H Q=>td σ H λx H1=>ty σ H1 λy H2=>∃a v,x=.ref a/\t8 H2 a y (some v)/\Q v H2
section
variable  {X:Cx}{o i e value:Expr}{pos pos' wu:Pos}{td ty tv:TE}
def Ox(hu:X.A.units+1<cLine)(ho:PE X o td)(hi:PE X i ty)(hs:Xu i):PE X (.Subscript o i pos) (aar td ty):=by
 intro pins s σ H Q I h;refine Ni PySem.F.slot_dict_getitem.lookup hs (cH (ho pins s σ H _ I h) λu s1 zz=>?_);obtain⟨x,H1,I1,rx,q1⟩:=zz;refine cH (hi pins s1 σ H1 _ I1 q1) λiv s2 zz=>?_;obtain⟨y,H2,I2,ry,a,v,ex,g,q2⟩:=zz;subst ex;obtain rfl:u=Value.ref a:=rx;exact⟨zp6 I2 g,Er hu I2 g ry λw' s3 I3 yL=>⟨v,H2,I3,yL,q2⟩⟩
end
def zrw(h:Heap)(hb:sysModules<h.objs.size):bY P w H (h.push { cls:=.type "dict",data:=.dict #[] }) h.objs.size (.dK []) :=
 ⟨kO _,beq_eq_false_iff_ne.mpr (ae1 (gY hb)),[],.nil,Heap.DictOf.new h⟩
def Kq(h:Heap)(hb:sysModules<h.objs.size):bY P w H (h.push { cls:=.type "dict",data:=.dict #[] }) h.objs.size (.dT []) :=
 ⟨kO _,beq_eq_false_iff_ne.mpr (ae1 (gY hb)),[],.nil,_,#[],0,gZ _ rfl,⟨rfl,rfl,rfl⟩,rfl,rfl,List.nodup_nil⟩
noncomputable def Uv:TE:=λ_ H Q=>∀p,H p=none->Q (.ref p) (upd H p (.dK []))
noncomputable def Uu:TE:=λ_ H Q=>∀p,H p=none->Q (.ref p) (upd H p (.dT []))
section
variable  {X:Cx}{pos:Pos}
def HB:PE X (.Dict [] [] pos) Uv:=λpins s σ H Q I h =>
 wpAny_Dict_empty ⟨.ref s.heap.objs.size,_,I.laid (a:=s.heap.objs.size) (o:=.dK []) (t':=s.toks) (λ_ _ q=>g8 _ q) (gb _) (zrw s.heap I.big),rfl,h _ (I.bN.fresh (gb _))⟩
def Hz:PE X (.Dict [] [] pos) Uu:=λpins s σ H Q I h =>
 wpAny_Dict_empty ⟨.ref s.heap.objs.size,_,I.laid (a:=s.heap.objs.size) (o:=.dT []) (t':=s.toks) (λ_ _ q=>g8 _ q) (gb _) (Kq s.heap I.big),rfl,h _ (I.bN.fresh (gb _))⟩
end
def wz:List (TE×TE)->St->Hp->(List (V×V)->Hp->Prop)->Prop
 | [],_,H,Q=>Q [] H
 | (tk,tv)::r,σ,H,Q=>tk σ H λx H1=>tv σ H1 λy H2=>wz r σ H2 λps H3=>Q ((x,y)::ps) H3
abbrev VV:List (V×V)->List (Value×Value)->Prop:=Paired λp q=>RelV p.1 q.1/\RelV p.2 q.2
def PPs(X:Cx)(pos:Pos)(keys:List (Option Expr))(values:List Expr)(yK:List (TE×TE)):Prop :=
 ∀(pins:List (Addr×Obj)) (s:Shared) (σ:St) (H:Hp) (Q:List (V×V)->Hp->Prop),Inv X pins σ H s->wz yK σ H Q ->
  wpAny (model X.prog X.w) X.A (evalPairs (pairTrees keys values X.env pos)) (λvs s'=>∃ps H',Inv X pins σ H' s'/\VV ps vs/\Q ps H') X.xe s
def Od{X:Cx}{pos:Pos}:PPs X pos [] [] []:=λpins s σ H Q I h=>pairTrees_nil_walk ⟨[],H,I,.nil,h⟩
def Hr{X:Cx}{pos:Pos}{k v:Expr}{ks:List (Option Expr)}{vs:List Expr}{tk tv:TE}{yK:List (TE×TE)}(hk:PE X k tk)(hv:PE X v tv)(hr:PPs X pos ks vs yK) :
  PPs X pos (some k::ks) (v::vs) ((tk,tv)::yK):=λpins s σ H Q I h =>
 pairTrees_cons_walk (cH (hk pins s σ H _ I h) λu s1 ⟨x,H1,I1,rx,q1⟩=>cH (hv pins s1 σ H1 _ I1 q1) λw2 s2 ⟨y,H2,I2,ry,q2⟩ =>
  cH (hr pins s2 σ H2 _ I2 q2) λws s3 ⟨ps,H3,I3,rel,q3⟩=>⟨(x,y)::ps,H3,I3,.cons ⟨rx,ry⟩ rel,q3⟩)
noncomputable def jJ(kvs more:List (Key×V)):List (Key×V):=more.foldl (λacc kv=>putK acc kv.1 kv.2) kvs
def KV.merge:∀{more:List (Key×V)} {rs:List (Key×Value)} {kvs:List (Key×V)} {vs:List (Key×Value)},KV more rs->KV kvs vs->KV (jJ kvs more) (merged vs rs):=by
 intro more rs kvs vs r;unfold KV at r
 induction r generalizing kvs vs with
 | nil=>intro q;exact q
 | @cons p q ps qs h t ih =>
  intro r0;have e:KV (putK kvs p.1 p.2) (stored vs q.1 q.2):=by
   have:=r0.put p.1 h.2;rw[<-h.1];exact this
  exact ih e
theorem zhe:∀(more kvs:List (Key×V)),(jJ kvs more).length<=kvs.length+more.length
 | [],kvs=>by show kvs.length<=kvs.length+0;omega
 | p::r,kvs=>by
  have h1:=zhe r (putK kvs p.1 p.2);have h2:=zg1 kvs p.1 p.2;show (jJ (putK kvs p.1 p.2) r).length<=_;rw[gr];omega
theorem zmo{P:Program}{w:World}:∀{kvs:List (Key×V)} {ws:List (Value×Value)},VV (kvs.map λkv=>(kV kv.1,kv.2)) ws->∃rs,Carries (bG P w) ws rs/\KV kvs rs
 | [],_,r=>by rw[mQ]at r;cases r;exact⟨[],True.intro,.nil⟩
 | p::kvs,_,r=>by
  rw[gw]at r;cases r with
  | @cons a b as bs h t =>
   obtain⟨rs,c,q⟩:=zmo (P:=P) (w:=w) t;obtain⟨b1,b2⟩:=b;exact⟨(p.1,b2)::rs,⟨v7 h.1,rfl,c⟩,.cons ⟨rfl,h.2⟩ q⟩
noncomputable def aaq(yK:List (TE×TE)):TE:=fun σ H Q=>∀p,H p=none->wz yK σ (upd H p (.dK [])) λps H2=>H2 p=some (.dK [])/\∃kvs:List (Key×V),ps=kvs.map (λkv=>(kV kv.1,kv.2))/\kvs.length<=15/\Q (.ref p) (upd H2 p (.dK (jJ [] kvs)))
def Ow{X:Cx}{pos:Pos}{keys:List (Option Expr)}{values:List Expr}{yK:List (TE×TE)}(h:PPs X pos keys values yK)(tX:keys.all (·.isSome)=true)(hl:keys.length=values.length)(h0:keys≠[])
  (h15:keys.length<=15):PE X (.Dict keys values pos) (aaq yK):=by
 intro pins s σ H Q I q;have hn:=I.bN.fresh (gb s.heap.objs.size);have I1:=I.laid (a:=s.heap.objs.size) (o:=.dK []) (h':=s.heap.push { cls:=.type "dict",data:=.dict #[] }) (t':=s.toks) (λ_ _ q=>g8 _ q) (gb _) (zrw s.heap I.big);refine wpAny_Dict_walk (knd:=bG X.prog X.w) tX hl h0 h15 (cH (h pins _ σ _ _ I1 (q _ hn)) λws s2 zz=>?_);obtain⟨ps,H2,I2,rel,e,kvs,ep,lk,q2⟩:=zz;subst ep;obtain⟨rs,c,rk⟩:=zmo (P:=X.prog) (w:=X.w) rel;obtain⟨z,hd,Ma,r0,dd⟩:=Tg I2.bN e;cases r0;refine⟨rs,c,dd,λh' Kw hs=>⟨.ref s.heap.objs.size,_,?_,rfl,q2⟩⟩;have hz:(jJ [] kvs).length<=sizeLine:=by
  have h1:=zhe kvs [];rw[mV]at h1;rw[afr];omega
 have he:∃q,h'.get? s.heap.objs.size=some q:=let ⟨q,_,_,hq,_⟩:=Kw;⟨q,hq⟩;exact zpd I2 (by rw[e];exact True.intro) hs he (zE hz hd (rk.merge .nil) Kw)
structure M1(X:Cx)(o:Expr)(m:Str)(apos:Pos)(e:Expr)(dC:Pos):Prop where
 base:attributeBase o m X.env (eval o X.env)=eval o X.env
 few:((backTo dC (starEach [e] X.env)).all (λx=>!x.1) && (backToKw dC (keywordEach [] X.env)).all (λx=>x.1.isSome)
  && decide (([e]:List Expr).length+([]:List Keyword).length+(if ([]:List Keyword).isEmpty then 0 else 1)<30))=true
 line:(apos.endLine==dC.line)=true
 trees:backTo dC (starEach [e] X.env)=[(false,eval e X.env)]
structure M2(X:Cx)(o:Expr)(m:Str)(apos:Pos)(e f:Expr)(dC:Pos):Prop where
 base:attributeBase o m X.env (eval o X.env)=eval o X.env
 few:((backTo dC (starEach [e,f] X.env)).all (λx=>!x.1) && (backToKw dC (keywordEach [] X.env)).all (λx=>x.1.isSome)
  && decide (([e,f]:List Expr).length+([]:List Keyword).length+(if ([]:List Keyword).isEmpty then 0 else 1)<30))=true
 line:(apos.endLine==dC.line)=true
 trees:backTo dC (starEach [e,f] X.env)=[(false,eval e X.env),(false,eval f X.env)]
section
variable  {X:Cx}{pins:List (Addr×Obj)}{σ:St}{H:Hp}{s:Shared}{a:Addr}{y d:V}{u r:Value}{o:Option V}{A:Around}{E:Value->Shared->Prop}
def Xl(hu:A.units+1<cLine)(I:Inv X pins σ H s)(g:t8 H a y o)(ry:RelV y u)(h:∀w' s',Inv X pins σ H s'->RelV (o.getD .non) w'->Q w' s') :
  wpAny (model X.prog X.w) A (call (.builtin "dict.get") [.ref a,u]) Q E s:=by
 rcases g with⟨kvs,k,e,ey,l⟩ | ⟨kvs,k,b,e,ey,eb,l⟩
 ·subst ey;obtain⟨z,hd,vs,rel,dd⟩:=uU I.bN e;refine afw ae2 dd.typeIs afg (PySem.F.args_dict_get_2 _ _) (meets_dict_get (bG X.prog X.w) a (v7 ry) hd) ⟨_,dd.mapOf,h _ _ (I.tok _) ?_⟩;rw[l];exact (rel.val k).getD rfl
 ·subst ey;cases (show u=Value.ref b from ry);obtain⟨z,hd,xs,rel,dd⟩:=xY I.bN e;refine afw ae2 dd.typeIs afg (PySem.F.args_dict_get_2 _ _) (meetsH_dict_get (tupleKind (bG X.prog X.w)) a b hd) ⟨afj hu,k,xs,Xz I.bN eb,dd,h _ _ (I.tok _) ?_⟩;rw[l];exact (rel.val k).getD rfl
def Xk(hu:A.units+1<cLine)(I:Inv X pins σ H s)(g:t8 H a y o)(ry:RelV y u)(rd:RelV d r)(h:∀w' s',Inv X pins σ H s'->RelV (o.getD d) w'->Q w' s') :
  wpAny (model X.prog X.w) A (call (.builtin "dict.get") [.ref a,u,r]) Q E s:=by
 rcases g with⟨kvs,k,e,ey,l⟩ | ⟨kvs,k,b,e,ey,eb,l⟩
 ·subst ey;obtain⟨z,hd,vs,rel,dd⟩:=uU I.bN e;refine afw ae2 dd.typeIs afg (PySem.F.args_dict_get_3 _ _ _) (meets_dict_get_default (bG X.prog X.w) a (v7 ry) hd r) ⟨_,dd.mapOf,h _ _ (I.tok _) ?_⟩;rw[l];exact (rel.val k).getD rd
 ·subst ey;cases (show u=Value.ref b from ry);obtain⟨z,hd,xs,rel,dd⟩:=xY I.bN e;refine afw ae2 dd.typeIs afg (PySem.F.args_dict_get_3 _ _ _) (meetsH_dict_get_default (tupleKind (bG X.prog X.w)) a b hd r) ⟨afj hu,k,xs,Xz I.bN eb,dd,h _ _ (I.tok _) ?_⟩;rw[l];exact (rel.val k).getD rd
end
section
variable  {X:Cx}{o e f:Expr}{apos dC:Pos}{td ty tx:TE}
end
section
variable  {X:Cx}{pins:List (Addr×Obj)}{σ:St}{H:Hp}{s:Shared}{a:Addr}{kvs:List (Key×V)}{A:Around}{E:Value->Shared->Prop}
def Kz{Q:Value->Shared->Prop}(I:Inv X pins σ H s)(e:Rd H a (.dK kvs))(h:∀p s',H p=none->Inv X pins σ (upd H p (.dK kvs)) s'->Q (.ref p) s'):wpAny (model X.prog X.w) A (call (.type "dict") [.ref a]) Q E s:=by
 obtain⟨z,hd,vs,rel,dd⟩:=uU I.bN e;refine kt_call_dict hd dd (by rw[<-rel.length];exact z) λh' Kw hs=>?_;refine h _ _ (I.bN.fresh (gb _)) (I.laid (a:=s.heap.objs.size) (o:=.dK kvs) (t':=s.toks) (λb q hq=>?_) (gb _) (zE z (beq_eq_false_iff_ne.mpr (ae1 (gY I.big))) rel Kw));exact (hs.2 b (gY (gq hq))).trans (g8 _ hq)
end
section
variable  {X:Cx}{pins:List (Addr×Obj)}{σ:St}{H:Hp}{s:Shared}{a:Addr}{y:V}{u:Value}{A:Around}{E:Value->Shared->Prop}
end
def zgl{prog:Program}{w:World}{κ:Type}[DecidableEq κ]{knd:HeapKind prog w κ}{A:Around}{E:Value->Shared->Prop}{s:Shared}{d a:Addr}{xs:List (κ×Addr×Value)}{k:κ}{dflt:Value}{Q:Value->Shared->Prop}
  (hr:knd.room A) (hk:knd.is s.heap k a) (hd:s.heap.DictOfH knd d xs) (hz:xs.length<=sizeLine)
  (h1:∀p,atKey xs k=some p->Q p.2 { s with toks:=s.toks+knd.draws k })
  (h2:atKey xs k=none->∀h':Heap,h'.DictOfH knd d (xs++[(k,a,dflt)])->Heap.SameBut d s.heap h'->Q dflt { s with heap:=h',toks:=s.toks+knd.draws k }) :
  wpAny (model prog w) A (dictSetDefault d (.ref a) dflt) Q E s:=by
 obtain⟨o,es,ep,ho,hx,hdt,hes,his,yw⟩:=hd;unfold dictSetDefault;refine afi (aeP (knd.pyHash hr hk (aeP ?_)));refine wpAny_dictFind_heap (s:={ s with toks:=s.toks+knd.draws k }) (o:=o) (es:=es) (ep:=ep) (xs:=xs) hr hk ho hdt hes his yw (λY7=>?_) (λj p hj=>?_)
 ·have hn:atKey xs k=none:=by
   unfold atKey;rw[Option.map_eq_none_iff,List.find?_eq_none];intro x hx' hxk;obtain⟨j,hj,e⟩:=mW.mp hx';refine Y7 j x.2 ?_;rw[gF hj,e];have:=aeZ hxk;rw[<-this]
  refine aeP (wpAny_rule (aeP (wpAny_updateDictKeys (s:={ s with toks:=s.toks+knd.draws k }) ho hdt (aeR ?_) ?_ ?_)))
  ·obtain⟨cls,dct,dat,sl⟩:=o;obtain rfl:dat=Data.dict es ep:=hdt;have Y6:Heap.SameBut d s.heap (s.heap.update d (Obj.mapDictKeys λx=>x.push { hash:=knd.hash k,key:=.ref a,val:=dflt })):=aft _ _ _;refine h2 hn _ ⟨_,es.push { hash:=knd.hash k,key:=.ref a,val:=dflt },ep+1,pI _ ho rfl,hx,rfl,?_,?_,?_⟩ Y6
   ·rw[Array.toList_push,hes,mF];rfl
   ·intro x hx';rcases m7.mp hx' with q | q
    ·exact knd.keeps (his x q) ho rfl Y6
    ·obtain rfl:x=(k,a,dflt):=by simpa using q
     exact knd.keeps hk ho rfl Y6
   ·rw[mF];refine nU.mpr ⟨yw,by simp,?_⟩;rintro y hy z hz' rfl;have hz2:y=k:=by simpa using hz'
    subst hz2;obtain⟨x,hxm,rfl⟩:=gj.mp hy;obtain⟨j,hj,e⟩:=mW.mp hxm;exact Y7 j x.2 (by rw[gF hj,e])
  ·have:es.size=xs.length:=by rw[<-nM,hes,gm]
   omega
  ·rw[Array.size_push];omega
 ·refine aeP (wpAny_dictEntries (s:={ s with toks:=s.toks+knd.draws k }) ho hdt ?_);have e1:es[j]? = some (entryOfKey knd (k,p)):=by
   rw[<-Array.getElem?_toList,hes,gB,hj];rfl
  rw[e1];refine aeP (wpAny_rule (aeR ?_));exact h1 p (atKey_of_get yw hj)
def zhr{prog:Program}{w:World}{κ:Type}[DecidableEq κ](knd:HeapKind prog w κ)(d b:Addr)(v:Value)(hd:(d==sysModules)=false) :
  MeetsIn prog w (Builtin.«dict.setdefault» { pos:=[.ref d,.ref b,v] }) λA R s=>knd.room A.in1/\∃k xs,knd.is s.heap k b/\s.heap.DictOfH knd d xs/\xs.length<=sizeLine /\
   (∀p,atKey xs k=some p->R (.ok (.ret p.2)) { s with toks:=s.toks+knd.draws k }) /\
   (atKey xs k=none->∀h':Heap,h'.DictOfH knd d (xs++[(k,b,v)])->Heap.SameBut d s.heap h'->R (.ok (.ret v)) { s with heap:=h',toks:=s.toks+knd.draws k }):=by
 rintro A R s ⟨hr,k,xs,hk,dd,hz,h1,h2⟩;unfold Builtin.«dict.setdefault»;refine aeP ?_;unfold Builtin.Dict.keyAndDefault;refine aeP ?_;unfold Builtin.Dict.notOrdered;rw[aeQ (by decide)];refine aeP (wpAny_typeOf dd.typeIs ?_);rw[aeS (by decide)];refine aeR (aeP ?_);refine aeR (aeP ?_);refine aeP (aeR (aeP ?_));refine aeR (aeR ?_);refine aeP (aeR (aeR ?_));dsimp only;rw[aeS (by rw[hd];decide)];refine aeP (zgl hr hk dd hz (λp e=>aeR (h1 p e)) λe h' q1 q2=>aeR (h2 e h' q1 q2))
section
variable  {X:Cx}{pins:List (Addr×Obj)}{σ:St}{H:Hp}{s:Shared}{a b:Addr}{v:V}{u r:Value}{A:Around}{E:Value->Shared->Prop}{kvs:List (List Key×V)}{k:List Key}
def Ky(hu:A.units+1<cLine)(I:Inv X pins σ H s)(e:H a=some (.dT kvs))(eb:H b=some (.tup (k.map kV)))(rv:RelV v r)(hl:kvs.length<sizeLine) 
  (h1:∀x w' s',iR kvs k=some x->RelV x w'->Inv X pins σ H s'->Q w' s')
  (h2:iR kvs k=none->∀s',Inv X pins σ (upd H a (.dT (kvs++[(k,v)]))) s'->Q r s') :
  wpAny (model X.prog X.w) A (call (.builtin "dict.setdefault") [.ref a,.ref b,r]) Q E s:=by
 obtain⟨z,hd,xs,rel,dd⟩:=Tc I.bN e;have hz:xs.length<=sizeLine:=by rw[<-afa rel];exact z
 refine afw PySem.F.slot_dict_setdefault dd.typeIs PySem.F.entry_dict_setdefault (PySem.F.args_dict_setdefault_3 _ _ _) (zhr (tupleKind (bG X.prog X.w)) a b r hd) ⟨afj hu,k,xs,Xz I.bN eb,dd,hz,λp ep=>?_,λen h' Kw hs=>?_⟩
 ·have q:=rel.val k;rw[ep]at q;cases q2:iR kvs k with
  | none=>rw[q2]at q;exact q.elim
  | some x=>rw[q2]at q;exact h1 x _ _ q2 q (I.tok _)
 ·have q:=rel.val k;rw[en]at q;have q2:iR kvs k=none:=by
   cases q2:iR kvs k with
   | none=>rfl
   | some x=>rw[q2]at q;exact q.elim
  refine h2 q2 _ ?_;obtain⟨ob,es,ep,hq,h2,h3,h4,_,h5⟩:=Kw;have Ec:storedH xs k b r=xs++[(k,b,r)]:=by unfold storedH;rw[en];rfl
  have hp:=rel.put k eb rv;rw[Hm v q2,Ec]at hp;refine zpd I (by rw[e];exact True.intro) hs ⟨ob,hq⟩ ⟨by rw[gK];exact hl,hd,_,hp.keeps λc ys ec=>?_,ob,es,ep,hq,h2,h3,h4,h5⟩;rw[iy (lB ec e (λz=>nomatch z))];exact ec
end
end L2
namespace M
open PySem PySem.Spec L2
noncomputable def keyOf:D->Option Key
 | .int i=>some (.inl i)
 | .str cs=>some (.inr (strOf cs))
 | _=>none
noncomputable def lD:List D->Option (List Key)
 | []=>some []
 | d::ds=>(keyOf d).bind λk=>(lD ds).map λks=>k::ks
noncomputable def keysOf(ds:List D):Option (List Key):=if Fv ds=true then none else lD ds
noncomputable def jA(kvs:List (List Key×D))(k:List Key):Option D:=(kvs.find? λkv=>decide (kv.1=k)).map (·.2)
@[simp] def zot(i:Int):keyOf (.int i)=some (.inl i):=eQ rfl
@[simp] def YH(cs:List Nat):keyOf (.str cs)=some (.inr (strOf cs)):=eQ rfl
@[simp] def DG:lD []=some []:=eQ rfl
@[simp] def ab0(i:Int)(r:List D):Fv (.int i::r)=false:=eQ rfl
@[simp] def zll(d:D)(ds:List D):lD (d::ds)=(keyOf d).bind λk=>(lD ds).map λks=>k::ks:=eQ rfl
@[simp] def R7(d:D)(ds:List D):keysOf (d::ds)=if Fv (d::ds)=true then none else (keyOf d).bind λk=>(lD ds).map λks=>k::ks:=eQ rfl
@[simp] def Gw(k:List Key):jA [] k=none:=eQ rfl
def zf5(p:List Key×D)(r:List (List Key×D))(k:List Key):jA (p::r) k=if p.1=k then some p.2 else jA r k:=by
 unfold jA;rw[mD];by_cases h:p.1=k
 ·simp[h]
 ·simp[h]
def zor(kvs:List (List Key×D))(k j:List Key)(y:D)(h:jA kvs k=none):jA (kvs++[(k,y)]) j=if k=j then some y else jA kvs j:=by
 induction kvs with
 | nil=>rw[mL,zf5]
 | cons p r ih =>
  rw[zf5]at h
  split at h
  ·cases h
  ·rename_i hn;rw[pA,zf5,zf5,ih h];by_cases e:p.1=j
   ·rw[aeQ e,aeQ e,aeS (λz=>hn (e.trans z.symm))]
   ·rw[aeS e,aeS e]
theorem aq.R6{K:PySem.W.Frag}{μ:List Addr}{H:Hp}:∀{ds:List D} {xs:List V} {ks:List Key},aq K μ H ds xs->lD ds=some ks->xs=ks.map kV
 | [],xs,ks,h,e=>by
  rw[aq]at h;rw[DG]at e;cases e;exact h
 | d::ds,xs,ks,h,e=>by
  rw[aq]at h;obtain⟨v,r,rfl,h1,h2⟩:=h;rw[zll]at e;cases e1:keyOf d with
  | none=>rw[e1]at e;cases e
  | some k1 =>
   rw[e1]at e;cases e2:lD ds with
   | none=>rw[e2]at e;cases e
   | some ks2 =>
    rw[e2]at e;cases e;rw[aq.R6 h2 e2];have:v=kV k1:=by
     cases d with
     | int i=>rw[ao.aN]at h1;cases e1;exact h1
     | str cs=>rw[ao.aQ]at h1;cases e1;exact h1
     | _=>cases e1
    rw[this];rfl
theorem zla:∀{ds:List D} {ks:List Key},lD ds=some ks->Dm ds=false
 | [],_,_=>rfl
 | d::ds,ks,e=>by
  rw[zll]at e;cases e1:keyOf d with
  | none=>rw[e1]at e;cases e
  | some k1 =>
   rw[e1]at e;cases e2:lD ds with
   | none=>rw[e2]at e;cases e
   | some ks2 =>
    have ih:=zla e2;cases d with
    | int i=>rw[Dm];exact ih
    | str cs=>rw[Dm];exact ih
    | _=>cases e1
def zns{ds:List D}{ks:List Key}(h:keysOf ds=some ks):Fv ds=false/\lD ds=some ks:=by
 unfold keysOf at h
 split at h
 ·cases h
 ·rename_i n;exact⟨by simpa using n,h⟩
def aq.keys(h:aq K μ H ds xs)(e:keysOf ds=some ks):xs=ks.map kV:=h.R6 (zns e).2
def znw{ds:List D}{ks:List Key}(e:keysOf ds=some ks):Ai ds=false:=by
 unfold Ai;rw[(zns e).1,zla (zns e).2];rfl
def ye.made(h:ye K H a xs ds)(e:keysOf ds=some ks):H a=some (.tup xs):=by
 rcases h with h | ⟨h,_⟩
 ·exact h
 ·rw[znw e]at h;cases h
theorem aO.val:∀{kvs:List (List Key×D)} {ws:List (List Key×V)},aO K μ H kvs ws ->
  (jA kvs k=none/\iR ws k=none)\/∃d v,jA kvs k=some d/\iR ws k=some v/\ao K μ H d v
 | [],ws,h=>.inl ⟨rfl,by rw[aO]at h;rw[h];rfl⟩
 | (j,d)::r,ws,h=>by
  obtain⟨v,r',rfl,h1,h2⟩:=h;rw[zf5];by_cases e:j=k
  ·rw[aeQ e];exact .inr ⟨d,v,rfl,ZS (p:=(j,v)) e,h1⟩
  ·rw[aeS e,ZW (p:=(j,v)) e];exact aO.val h2
theorem aO.snoc:∀{kvs:List (List Key×D)} {ws:List (List Key×V)},aO K μ H kvs ws->ao K μ H d v->aO K μ H (kvs++[(k,d)]) (ws++[(k,v)])
 | [],ws,h,hv=>by rw[aO]at h;subst h;exact⟨v,[],rfl,hv,rfl⟩
 | (j,d')::r,ws,h,hv=>by
  obtain⟨v',r',rfl,h1,h2⟩:=h;exact⟨v',r'++[(k,v)],rfl,h1,aO.snoc h2 hv⟩
theorem aO.len:∀{kvs:List (κ×D)} {ws:List (κ×V)},aO K μ H kvs ws->kvs.length=ws.length
 | [],ws,h=>by rw[aO]at h;rw[h];rfl
 | (j,d)::r,ws,h=>by
  obtain⟨v,r',rfl,h1,h2⟩:=h;rw[gr,gr,aO.len h2]
def aV.dic{K:PySem.W.Frag}{μ:List Addr}{H:Hp}{st:ak}{n:Nat}{kvs:List (List Key×D)}(h:aV K μ H st)(e:st[n]? = some (.dic kvs)):∃p ws,μ[n]? = some p/\H p=some (.dT ws)/\aO K μ H kvs ws:=by
 obtain⟨p,h1,xs,h2,h3⟩:=h.at_ n _ e;exact⟨p,xs,h1,h2,h3⟩
section
variable  {X:Cx}{e a b c o:Expr}{es:List Expr}{ma mb mc mo:ME}{mA:MA}{pos p2 p apos dC:Pos}
noncomputable def Xj:ME:=λ_ st=>.ok (.loc st.length) (st++[.dic []])
def Qd:JE X (.Dict [] [] pos) Xj:=by
 refine JE.of Hz fun σ H Q zz=>?_;obtain⟨μ,env,st,hE,hs,hp⟩:=zz;refine λp hn=>?_;have hr:fU X.K (μ++[p]) (upd H p (.dT [])) p (.dic []):=⟨[],rm,rfl⟩;exact hp _ _ (μ++[p]) (bf.new hn) (hs.new hn hr) (ao.aH.mpr ⟨p,by rw[<-hs.len];simp,rfl⟩)
noncomputable def J6:D->List D->ak->R D
 | .loc n,[.tup ks],st=>match st[n]?,keysOf ks with
  | some (.dic kvs),some k=>.ok ((jA kvs k).getD .non) st
  | _,_=>.bad
 | _,_,_=>.bad
def Pj(hu:X.A.units+1<cLine):qd X "dict.get" (Df X J6):=by
 rintro pins s σ H x xs v us Q I rx CW ⟨μ,st,d,ds,hs,hx,jd,hp⟩;unfold J6 at hp
 split at hp
 ·rename_i n ks
  split at hp
  ·rename_i kvs k e1 e2;obtain⟨p,q1,rfl⟩:=ao.aH.mp hx;obtain⟨y,rfl,q2⟩:=aq.one jd;obtain⟨b,ys,rfl,q3,q4⟩:=ao.aU.mp q2;replace q3:=q3.made e2;obtain rfl:=q4.keys e2;obtain⟨p',ws,r1,r2,r3⟩:=hs.dic e1;rw[q1]at r1;cases r1;cases CW with
   | cons ry rr =>
    cases rr;obtain rfl:v=Value.ref p:=rx;refine Xl hu I (t8.t r2 q3) ry λw' s' I' yL=>⟨_,H,I',yL,?_⟩;rcases r3.val (k:=k) with⟨z1,z2⟩ | ⟨d',v',z1,z2,z3⟩
    ·rw[z1]at hp;rw[z2];exact hp.ret hs (ao.bK.mpr rfl)
    ·rw[z1]at hp;rw[z2];exact hp.ret hs z3
  ·exact hp.elim
 ·exact hp.elim
noncomputable def lO:D->List D->ak->R D
 | .loc n,[.tup ks,d],st=>match st[n]?,keysOf ks with
  | some (.dic kvs),some k=>if kvs.length<1000000 then (match jA kvs k with
   | some d'=>.ok d' st
   | none=>.ok d (st.set n (.dic (kvs++[(k,d)])))) else .bad
  | _,_=>.bad
 | _,_,_=>.bad
def zqj(hu:X.A.units+1<cLine):qd X "dict.setdefault" (Df X lO):=by
 rintro pins s σ H x xs v us Q I rx CW ⟨μ,st,d,ds,hs,hx,jd,hp⟩;unfold lO at hp
 split at hp
 ·rename_i n ks d1
  split at hp
  ·rename_i kvs k e1 e2
   split at hp
   ·rename_i hl;obtain⟨p,q1,rfl⟩:=ao.aH.mp hx;obtain⟨y,z,rfl,q2,q5⟩:=aq.two jd;obtain⟨b,ys,rfl,q3,q4⟩:=ao.aU.mp q2;replace q3:=q3.made e2;obtain rfl:=q4.keys e2;obtain⟨p',ws,r1,r2,r3⟩:=hs.dic e1;rw[q1]at r1;cases r1;cases CW with
    | cons ry rr =>
     cases rr with
     | cons rz rr =>
      cases rr;obtain rfl:v=Value.ref p:=rx;rename_i uy uz;obtain rfl:uy=Value.ref b:=ry;refine Ky hu I r2 q3 rz (by rw[<-r3.len];exact gQ hl (by decide)) (λx' w' s' ex yL I'=>⟨_,H,I',yL,?_⟩) λen s' I'=>⟨_,_,I',rz,?_⟩
      ·rcases r3.val (k:=k) with⟨z1,z2⟩ | ⟨d',v',z1,z2,z3⟩
       ·rw[z2]at ex;cases ex
       ·rw[z1]at hp;rw[z2]at ex;cases ex;exact hp.ret hs z3
      ·rcases r3.val (k:=k) with⟨z1,z2⟩ | ⟨d',v',z1,z2,z3⟩
       ·rw[z1]at hp;have g:Ext H (upd H p (.dT (ws++[(k,z)]))):=Ext.mut r2 (λ_ z=>nomatch z) (λ_ _ z=>nomatch z);have g':bf μ H μ (upd H p (.dT (ws++[(k,z)]))):=⟨⟨[],by simp⟩,g⟩;exact hp _ _ μ g' (hs.put e1 rfl rfl q1 g ⟨_,rm,(r3.snoc q5).mono g'⟩) (q5.mono g' _)
       ·rw[z2]at en;cases en
   ·exact hp.elim
  ·exact hp.elim
 ·exact hp.elim
end
end M
namespace L2
open PySem PySem.Spec PyProof.Rows
noncomputable def Its(x:Str):It:=⟨λi _=>i<x.cps.size,λi H y H'=>H'=H/\∃c,x.cps[i]? = some c/\y=.str ⟨#[c]⟩,λi _=>x.cps.size<=i⟩
def Gz{P:Program}{w:World}{K:PySem.W.Frag}{tg:Expr}(it:Addr)(x:Str)(t:Tok):Turn P w K tg (Its x) [it] it (λi h=>h.IsStrIter it "str_ascii_iterator" x t i) where
 mem:=by simp
 obj:=λi h st b hb=>by
  have e:b=it:=by simpa using hb
  subst e;obtain⟨o,e,c,d⟩:=st;exact⟨o,e,λv z=>by rw[d]at z;cases z⟩
 keep:=λi h h' st k=>by
  obtain⟨o,e,c,d⟩:=st;exact⟨o,k it (by simp) o e,c,d⟩
 item:=by
  intro X hP hw hK hc i pins s σ H E I hf st hg;subst hP hw hK;obtain⟨f0,f1,f2,f3,f4,f5⟩:=hf it (by simp);have hi:i<x.cps.size:=hg;refine wpAny_pyNext_ascii_item st (pJ hi) λh' st' sb=>?_;have I1:Inv X pins σ H { s with heap:=h',toks:=s.toks+1 }:=I.turned (λb o hb e=>(sb.2 b hb).trans e) f0 f1 f3 f4 f5;obtain⟨o,e,c,d⟩:=id st';exact⟨_,rfl,su (s:={ s with heap:=h',toks:=s.toks+1 }) e c d (by decide) ⟨.str ⟨#[x.cps[i]]⟩,H,I1,⟨_,rfl⟩,⟨rfl,_,pJ hi,rfl⟩,st',λb hb=>(hf b hb).1⟩⟩
 done:=by
  intro X hP hw hK hc i pins s σ H E I hf st hg;subst hP hw hK;obtain⟨f0,f1,f2,f3,f4,f5⟩:=hf it (by simp);have hi:x.cps.size<=i:=hg;exact wpAny_pyNext_ascii_end (I.ok.hd hc) st (Array.getElem?_eq_none hi) λh' eb=>⟨rfl,I.turned (t':=s.toks) (λb o hb e=>eb b o hb e) f0 f1 f3 f4 f5⟩
 self:=λ_ _ _ _ _ st h=>wpAny_pyIter_striter_ascii st h
noncomputable def adE(tl:TE):TI:=fun σ H R=>tl σ H λy H1=>∃x,y=.str x/\strIterType x = "str_ascii_iterator"/\R (Its x) H1
def Vd{X:Cx}{tg l:Expr}{tl:TE}(hl:PE X l tl):PI X tg l (adE tl):=by
 intro pins s σ H R I h;refine cH (hl pins s σ H _ I h) λv s1 zz=>?_;obtain⟨y,H1,I1,r1,q1⟩:=zz;obtain⟨x,e,ha,q⟩:=q1;subst e;obtain⟨t,rfl⟩:=r1;refine wpAny_pyIter_strU ?_;rw[ha];refine⟨s1.heap.objs.size,[s1.heap.objs.size],_,_,H1,rfl,I1.kept (t':=s1.toks) λb o e=>g8 _ e,Gz _ x t,⟨_,gZ _ rfl,rfl,rfl⟩,λb hb=>?_,q⟩;have e:b=s1.heap.objs.size:=by simpa using hb
 subst e;exact I1.uQ (gb _) (I1.bN.fresh (gb _))
end L2
namespace M
open PySem PySem.Spec L2
section
variable  {X:Cx}{tg l:Expr}{ml:ME}{μ:List Addr}{H:Hp}
noncomputable def uA(m:ME):MI:=λenv st=>(m env st).bind λd st1=>match d with
 | .str cs=>if cs.all (λc=>decide (c<128))=true then .ok (cs.map λc=>D.str [c],[]) st1 else .bad
 | _=>.bad
def Qk(cs:List Nat):lN X μ H (Its (strOf cs)) (cs.map λc=>D.str [c],[]):=by
 intro H' μ' st' g hs ok;refine⟨λi d e=>?_,by show (strOf cs).cps.size<=_;simp⟩;rw[gB]at e;obtain⟨c,e1,rfl⟩:=nG.mp e;refine⟨by show i<(strOf cs).cps.size;simpa using (gh.mp e1).1,?_⟩;rintro x BR ⟨rfl,c',hc,rfl⟩;have:c'=c:=by
  have h2:cs[i]? = some c':=by simpa using hc
  rw[e1]at h2;exact (aeU h2).symm
 subst this;exact⟨.refl _ _,hs,ao.aQ.mpr rfl⟩
def V5(hl:JE X l ml):JI X tg l (uA ml):=by
 refine JI.of (Vd hl) fun σ H R zz=>?_;obtain⟨μ,env,st,hE,hs,hp⟩:=zz;refine⟨μ,env,st,hE,hs,(bL.bind hp).imp ?_⟩;rintro v H1 ⟨μ1,st1,d,g1,bF,hv,aR⟩;dsimp only at aR
 split at aR
 ·rename_i cs
  split at aR
  ·rename_i hc;obtain rfl:=ao.aQ.mp hv;refine⟨strOf cs,rfl,?_,aR _ _ _ (.refl _ _) bF (Qk cs)⟩;unfold strIterType;rw[aeQ];show (cs.toArray.all _)=true;rw[List.all_toArray];exact hc
  ·exact aR.elim
 ·exact aR.elim
end
end M
namespace L2
open PySem PySem.Spec PyProof.Rows
def Inv.but(I:Inv X pins σ H s)(k:∀b o,b≠X.env.locals->s.heap.get? b=some o->h'.get? b=some o) 
  (ns:∀m,s.heap.Ns X.env.locals m->h'.Ns X.env.locals m):Inv X pins σ H { s with heap:=h',toks:=t' }:=by
 have neL:∀b u,H b=some u->b≠X.env.locals:=λb u e z=>by rw[z,I.free]at e;cases e
 refine I.step (g':=s.gens) (d':=s.drawn) (ch:=[]) (λ_ z=>nomatch z) (λb o hL _ _ e _=>k b o hL e) (λb o hL _ _ e _=>⟨o.slots,k b o hL e⟩) (λ_ _ _ _ n=>n) (λb o _ e=>?_) (λ_ _ e=>e) (λ_ _ _ e=>e) (λb ps e=>⟨#[],by rw[e];simp⟩) ns (λb u e=>?_) I.bare
 ·by_cases hb:b=X.env.locals
  ·subst hb;obtain⟨m,hm,_⟩:=I.loc;obtain⟨o',_,_,q,_⟩:=ns m hm;exact⟨o',q⟩
  ·exact⟨o,k b o hb e⟩
 ·refine (I.bN b u e).tO (λc v hc q=>k c v ?_ q) (λc q=>q) λc xs q=>q;rcases hc with z | z
  ·rw[z];exact neL b u e
  ·exact neL c _ z
def Ey(hc:X.A.handled=none):cG X (.builtin "sum") (λxs H Q=>∃(p:Addr) (ns:List Int),xs=[.ref p]/\lM X.K H p (ns.map V.int)/\Q (.int ns.sum) H):=by
 rintro pins s σ H xs us Q I hr ⟨p,ns,rfl,hq,h⟩;cases hr with
 | cons r1 r2 =>
  cases r2;cases r1;obtain⟨its,rv,pl,hz⟩:=I.list hq;have hi:IntsAre its ns:=by
   have key:∀(ns:List Int) (its:List Value),Vals (ns.map V.int) its->IntsAre its ns:=by
    intro ns
    induction ns with
    | nil=>intro its h;cases h;exact .nil
    | cons n ns ih =>
     intro its h;cases h with
     | cons r1 r2 =>
      obtain⟨t,rfl⟩:=r1;exact .cons n t (ih _ r2)
   exact key ns its rv
  obtain⟨m,hm,_⟩:=id I.loc;obtain⟨o,ho,_⟩:=id pl.isList;have uf:p≠X.env.locals:=λz=>by
   obtain⟨o',es,ep,q1,q2,_⟩:=hm;obtain⟨o2,w1,w2,w3⟩:=id pl.isList;rw[z,q1]at w1;cases w1;rw[q2]at w3;obtain⟨_,w4⟩:=w3;cases w4
  refine LSm.sum_ints (Zw.Kd hm) (Zw.zpu uf ho) hc pl.isList hi λh' tk t' F' N'=>⟨.int ns.sum,H,I.but (λb ob hb e=>?_) (λm' WQ=>?_),⟨t',rfl⟩,h⟩
  ·by_cases hbp:b=p
   ·subst hbp;rw[ho]at e;cases e;exact N'.get (List.Mem.head _)
   ·exact N'.get (List.Mem.tail _ (Zw.zlb.mpr ⟨hb,hbp,e⟩))
  ·have:m'=m:=by
    obtain⟨o1,es1,ep1,q1,q2,_,q3⟩:=hm;obtain⟨o2,es2,ep2,w1,w2,_,w3⟩:=WQ;rw[q1]at w1;cases w1;rw[q2]at w2;cases w2;funext x;rw[<-q3 x,<-w3 x]
   subst this;exact F'.ns
end L2
namespace M
open PySem PySem.Spec L2
noncomputable def intsOf:List D->Option (List Int)
 | []=>some []
 | .int i::r=>(intsOf r).map (i :: ·)
 | _::_=>none
theorem zkz:∀{ds:List D} {xs:List V} {ns:List Int},intsOf ds=some ns->aq K μ H ds xs->xs=ns.map V.int
 | [],_,_,e,h=>by cases e;rw[aq]at h;exact h
 | d::ds,_,ns,e,h=>by
  rw[aq]at h;obtain⟨v,t,rfl,h1,h2⟩:=h;cases d with
  | int i =>
   simp only[intsOf]at e;cases q:intsOf ds with
   | none=>rw[q]at e;cases e
   | some bs' =>
    rw[q]at e;cases e;rw[ao.aN]at h1;subst h1;rw[zkz q h2];rfl
  | _=>simp[intsOf]at e
noncomputable def GJ:List D->ak->R D
 | [.loc n],st=>match (aA st n).bind intsOf with | some ns=>.ok (.int ns.sum) st | none=>.bad
 | _,_=>.bad
def Ew(hc:X.A.handled=none):cG X (.builtin "sum") (Mg X GJ):=by
 refine cG.weak (Ey hc) ?_;rintro xs H Q ⟨μ,st,ds,hs,hv,hp⟩;unfold GJ at hp
 split at hp
 ·rename_i n;cases e:aA st n with
  | none=>rw[e]at hp;exact hp.elim
  | some l =>
   rw[e]at hp;cases e2:intsOf l with
   | none=>simp only[mR,e2]at hp;exact hp.elim
   | some ns =>
    simp only[mR,e2]at hp;obtain⟨v,rfl,q⟩:=aq.one hv;obtain⟨p,q1,rfl⟩:=ao.aH.mp q;obtain⟨p',ys,r1,r2,r3⟩:=hs.items e;rw[q1]at r1;cases r1;rw[zkz e2 r3]at r2;exact⟨p,ns,rfl,r2,hp.ret hs (ao.aN.mpr rfl)⟩
 ·exact hp.elim
end M
namespace M
open L2
def KC(xs:List α)(c:Nat)(h:c<=xs.length):cut xs none (some (c:Int))=xs.take c:=by
 unfold cut;rw[HT.zqn,HT.zZ,Nat.min_eq_left h];simp
def KD(xs:List α)(c:Nat):cut xs (some (c:Int)) none=xs.drop c:=by
 unfold cut;rw[HT.zqn,HT.zZ];by_cases h:c<=xs.length
 ·rw[Nat.min_eq_left h,List.take_of_length_le (by simp)]
 ·rw[Nat.min_eq_right (by omega),nj (gb _),nj (by omega)];simp
def T5(lo:Int)(n:Nat):(jE lo n).length=n:=by simp[jE]
section
variable  (st:ak)
def Hi(cs:List Nat)(i:Int)(c:Nat)(h:cs.length<=1000000)(hi:pW cs i=some c):aZ (.str cs) (.int i) st=.ok (.str [c]) st:=by simp[aZ,h,hi]
def zoy(cs:List Nat)(h:cs.length<=1000000):vI [.str cs] st=.ok (.int cs.length) st:=by simp[vI,h]
@[simp] def ac4(env:aJ):Xj env st=.ok (.loc st.length) (st++[.dic []]):=eQ rfl
@[simp] theorem UG(a:ME)(env:aJ):uA a env st=(a env st).bind λd st1=>match d with
 | .str cs=>if cs.all (λc=>decide (c<128))=true then .ok (cs.map λc=>D.str [c],[]) st1 else .bad
 | _=>.bad:=eQ rfl
end
end M
namespace M
open PySem PySem.Spec L2
section
variable  {X:Cx}
noncomputable def vB:D->List D->ak->R D
 | .loc n,[],st=>match st[n]? with
  | some (.lst ds)=>(match ds[ds.length - 1]? with | some d=>.ok d (st.set n (.lst ds.dropLast)) | none=>.bad)
  | _=>.bad
 | _,_,_=>.bad
theorem aq.dropLast{K:PySem.W.Frag}{μ:List Addr}{H:Hp}:∀{ds:List D} {xs:List V},aq K μ H ds xs->aq K μ H ds.dropLast xs.dropLast
 | [],xs,h=>by rw[aq]at h;subst h;exact aq.nil
 | [d],xs,h=>by obtain⟨v,rfl,_⟩:=aq.one h;exact aq.nil
 | d::e::ds,xs,h=>by
  rw[aq]at h;obtain⟨v,r,rfl,h1,h2⟩:=h;obtain⟨w,r',rfl,h3,h4⟩:=(by rw[aq]at h2;exact h2:∃v r',r=v::r'/\ao K μ H e v/\aq K μ H ds r');rw[List.dropLast_cons_cons,List.dropLast_cons_cons];exact aq.cons h1 (aq.dropLast h2)
def Ph:qd X "list.pop" (Df X vB):=by
 refine qd.weak VH ?_;rintro x xs H Q ⟨μ,st,d,ds,hs,hx,jd,hp⟩;unfold vB at hp
 split at hp
 ·rename_i n;cases e:st[n]? with
  | none=>rw[e]at hp;exact hp.elim
  | some mo =>
   cases mo with
   | lst l =>
    rw[e]at hp;dsimp only at hp;cases e2:l[l.length - 1]? with
    | none=>rw[e2]at hp;exact hp.elim
    | some d =>
     rw[e2]at hp;obtain⟨p,q1,rfl⟩:=ao.aH.mp hx;rw[aq]at jd;obtain⟨p',ys,r1,r2,r3⟩:=hs.lst e;rw[q1]at r1;cases r1;obtain⟨v,z1,z2⟩:=r3.get e2;obtain⟨g,oN⟩:=wC hs e q1 r2 r3.dropLast;exact⟨p,ys,v,rfl,jd,r2,by rw[<-r3.length];exact z1,hp _ _ μ g oN (z2.mono g _)⟩
   | _=>rw[e]at hp;exact hp.elim
 ·exact hp.elim
end
end M
namespace L2
open PySem PySem.Spec PyProof.Rows
theorem zr4:∀(ys:List Str) (its:List Value),Vals (ys.map V.str) its->StrsAre its ys
 | [],_,h=>by cases h;exact .nil
 | y::ys,_,h=>by
  cases h with
  | cons r1 r2 =>
   obtain⟨t,rfl⟩:=r1;exact .cons y t (zr4 ys _ r2)
def Iv:qd X "str.join" (λx xs H Q=>∃(z:Str) (p:Addr) (ys:List Str),x=.str z/\xs=[.ref p]/\lM X.K H p (ys.map V.str)/\(ys.map λy=>y.length).sum+ys.length*z.length<=16777216/\Q (.str (Txt.join z ys)) H):=by
 rintro pins s σ H x xs v us Q I rx CW ⟨z,p,ys,rfl,rfl,hq,hz,h⟩;obtain⟨t,rfl⟩:=rx;cases CW with
 | cons r1 r2 =>
  cases r2;cases r1;obtain⟨its,rv,pl,_⟩:=I.list hq;exact join_list pl.isList (zr4 ys its rv) hz λt' k=>⟨.str (Txt.join z ys),H,I.kept (t':=k) λb u h=>h,⟨t',rfl⟩,h⟩
end L2
namespace M
open PySem PySem.Spec L2
section
variable  {X:Cx}
noncomputable def ie:List D->Option (List (List Nat))
 | []=>some []
 | .str cs::r=>(ie r).map (cs :: ·)
 | _::_=>none
theorem zop:∀{ds:List D} {xs:List V} {ts:List (List Nat)},ie ds=some ts->aq K μ H ds xs->xs=(ts.map strOf).map V.str
 | [],_,_,e,h=>by cases e;rw[aq]at h;exact h
 | d::ds,_,ts,e,h=>by
  rw[aq]at h;obtain⟨v,t,rfl,h1,h2⟩:=h;cases d with
  | str cs =>
   simp only[ie]at e;cases q:ie ds with
   | none=>rw[q]at e;cases e
   | some ts' =>
    rw[q]at e;cases e;rw[ao.aQ]at h1;subst h1;rw[zop q h2];rfl
  | _=>simp[ie]at e
noncomputable def joinM(sep:List Nat)(ts:List (List Nat)):List Nat:=(Txt.join (strOf sep) (ts.map strOf)).cps.toList
noncomputable def uL:D->List D->ak->R D
 | .str sep,[.loc n],st=>match (aA st n).bind ie with
  | some ts=>if (ts.map List.length).sum+ts.length*sep.length<=1000000 then .ok (.str (joinM sep ts)) st else .bad
  | none=>.bad
 | _,_,_=>.bad
def Iu:qd X "str.join" (Df X uL):=by
 refine qd.weak Iv ?_;rintro x xs H Q ⟨μ,st,d,ds,hs,hx,jd,hp⟩;unfold uL at hp
 split at hp
 ·rename_i sep n;cases e:aA st n with
  | none=>rw[e]at hp;exact hp.elim
  | some l =>
   rw[e]at hp;cases e2:ie l with
   | none=>simp only[mR,e2]at hp;exact hp.elim
   | some ts =>
    simp only[mR,e2]at hp
    split at hp
    ·rename_i hl;obtain⟨v,rfl,q⟩:=aq.one jd;obtain⟨p,q1,rfl⟩:=ao.aH.mp q;obtain⟨p',ys,r1,r2,r3⟩:=hs.items e;rw[q1]at r1;cases r1;rw[zop e2 r3]at r2;obtain rfl:=ao.aQ.mp hx;refine⟨_,p,ts.map strOf,rfl,rfl,r2,?_,hp.ret hs (ao.aQ.mpr rfl)⟩;rw[gG,gm];have e3:(ts.map ((λy:Str=>y.length)∘strOf))=ts.map List.length:=kE λt _=>by
      show (strOf t).cps.size=t.length;simp
     rw[e3];have e4:(strOf sep).length=sep.length:=by show (strOf sep).cps.size=sep.length;simp
     rw[e4];omega
    ·exact hp.elim
 ·exact hp.elim
end
noncomputable def uM(sep:List Nat):List (List Nat)->List Nat
 | []=>[]
 | [t]=>t
 | t::u::r=>t++sep++uM sep (u::r)
theorem zjl(sep:Str):∀(ts:List Str),(sep.join ts).cps.toList=uM sep.cps.toList (ts.map λt=>t.cps.toList)
 | []=>by rw[PyProof.Rows.join_nil];rfl
 | [t]=>by rw[PyProof.Rows.join_one];rfl
 | t::u::r=>by
  have ih:=zjl sep (u::r);rw[gw]at ih;rw[PyProof.Rows.join_cons_cons,gw,gw,uM,<-ih];show (t.cps++sep.cps++(sep.join (u::r)).cps).toList=_;simp
def Jp(sep:List Nat)(ts:List (List Nat)):joinM sep ts=uM sep ts:=by
 unfold joinM;rw[show Txt.join (strOf sep) (ts.map strOf)=(strOf sep).join (ts.map strOf) from StrLaws.glued_eq_join _ _,zjl,gG];have:(λt:Str=>t.cps.toList)∘strOf=id:=by funext t;simp
 rw[this,List.map_id]
end M
namespace L2
open PySem PySem.Spec PyProof.Rows
end L2
namespace M
open PySem PySem.Spec L2
section
variable  {X:Cx}{a b c:Expr}{ma mb mc:ME}{pos:Pos}
end
section
variable  {X:Cx}{pos:Pos}{x:Str}
def zsx(hg:Gl X x)(hm:X.mg x=some u)(r:RelV v u)(hv:∀μ H,ao X.K μ H d v)(hd:(x==("__debug__":Str))=false:=by decide):JE X (.Name x pos) (ct d):=by
 refine JE.of (Ov hg hm r hd) fun σ H Q zz=>?_;obtain⟨μ,env,st,hE,hs,hp⟩:=zz;exact hp.ret hs (hv μ H)
def Jw(cs:List Nat)(h:∃t,X.mg x=some (.str y t))(hy:y=strOf cs:=by rfl)(hg:Gl X x:=by rfl)(hd:(x==("__debug__":Str))=false:=by decide):JE X (.Name x pos) (ct (.str cs)):=by
 obtain⟨t,h⟩:=h;exact zsx (v:=.str y) hg h ⟨t,rfl⟩ (λ_ _=>ao.aQ.mpr (by rw[hy])) hd
end
end M
namespace M
open L2
section
variable  (st:ak)
def UT(sep:List Nat)(n:Nat)(ts:List (List Nat))(h:aA st n=some (ts.map D.str))(hl:(ts.map List.length).sum+ts.length*sep.length<=1000000):uL (.str sep) [.loc n] st=.ok (.str (uM sep ts)) st:=by
 have e:ie (ts.map D.str)=some ts:=by
  clear h hl
  induction ts with
  | nil=>rfl
  | cons t ts ih=>simp[ie,ih]
 simp only[uL,h,mR,e];rw[aeQ hl,Jp]
end
def uc(I:Nat->aJ->ak->Prop)(h0:I 0 env st) 
  (step:∀i d env st,items[i]? = some d->I i env st->ud gs st/\∃env1 st1,g d env st=.ok env1 st1/\∃bu st2,(b env1 st1=.ok (.nx bu) st2\/b env1 st1=.ok (.cn bu) st2)/\I (i+1) bu st2)
  (W4:∀env st,I items.length env st->ud gs st):∃bW st',cu g b gs items env st=.ok (.nx bW) st'/\I items.length bW st':=by
 refine Ek (λpre env st=>I pre.length env st) h0 (λpre d post env st e hI=>?_) W4;have:=step pre.length d env st (by rw[e];simp) hI;simpa using this
def Yd(h:(jE lo n)[i]? = some d):i<n/\d=.int (lo+(i:Nat)):=by
 have h2:i<n:=by
  have:=(gh.mp h).1;rwa[T5]at this
 unfold jE at h;rw[gB,List.getElem?_range h2]at h;exact⟨h2,(aeU h).symm⟩
def zkw{xs:List D}{i:Nat}{d:D}(h:(cM 0 xs)[i]? = some d):∃x,xs[i]? = some x/\d=.tup [.int i,x]:=by
 rw[Yk]at h;cases e:xs[i]? with
 | none=>rw[e]at h;cases h
 | some x =>
  rw[e]at h;simp at h;exact⟨x,rfl,h.symm⟩
def Gj{α:Type}{f:α->D}{xs:List α}{i:Nat}{d:D}(h:(xs.map f)[i]? = some d):∃x,xs[i]? = some x/\d=f x:=by
 rw[gB]at h;cases e:xs[i]? with
 | none=>rw[e]at h;cases h
 | some x=>rw[e]at h;exact⟨x,rfl,(aeU h).symm⟩
def aaS(cs:List Nat)(i:Int)(h0:0<=i)(h1:i<cs.length)(hl:cs.length<=1000000):∃c,c∈cs/\∀st,aZ (.str cs) (.int i) st=.ok (.str [c]) st:=by
 obtain⟨j,rfl⟩:=Int.eq_ofNat_of_zero_le h0;have hj:j<cs.length:=by omega
 exact⟨cs[j],kJ hj,λst=>Hi st cs _ _ hl (by rw[Gp];exact gF hj)⟩
theorem zgx:∀(n:Nat) (env:aJ) (st:ak),bx c b n env st≠.bad->bx c b (n+1) env st=bx c b n env st
 | 0,env,st,h=>absurd (by rw[bx]) h
 | n+1,env,st,h=>by
  rw[bx]at h;rw[bx,bx];cases e:c env st with
  | bad=>rfl
  | err x s=>rfl
  | ok x st1 =>
   rw[e,R.aB]at h;rw[R.aB,R.aB];cases x with
   | false=>rfl
   | true =>
    rw[aeQ rfl]at h ⊢;rw[aeQ rfl];cases e2:b env st1 with
    | bad=>rfl
    | err x s=>rfl
    | ok o st2 =>
     rw[e2,R.aB]at h;rw[R.aB,R.aB];cases o with
     | nx bu=>exact zgx n bu st2 h
     | cn bu=>exact zgx n bu st2 h
     | bk bu=>rfl
     | rt d=>rfl
theorem ziy(h:bx c b n env st≠.bad):∀k,bx c b (n+k) env st=bx c b n env st
 | 0=>rfl
 | k+1=>by
  have:=ziy h k;rw[<-Nat.add_assoc,zgx (n+k) env st (by rw[this];exact h),this]
open Classical in
noncomputable def bC(c:MT)(b:MS):MS:=λenv st=>if h:∃n,bx c b n env st≠.bad then bx c b (Classical.choose h) env st else .bad
def Ua(h:bx c b n env st≠.bad):bC c b env st=bx c b n env st:=by
 have hx:∃n,bx c b n env st≠.bad:=⟨n,h⟩;unfold bC;rw[dif_pos hx];have h2:=Classical.choose_spec hx;generalize Classical.choose hx=m at h2 ⊢;by_cases hmn:m<=n
 ·obtain⟨k,rfl⟩:=Nat.le.dest hmn;exact (ziy h2 k).symm
 ·obtain⟨k,rfl⟩:=Nat.le.dest (show n<=m by omega);exact ziy h k
def Ce:bC c b env st=.bad\/∃n,bC c b env st=bx c b n env st:=by
 unfold bC
 split
 ·exact .inr ⟨_,rfl⟩
 ·exact .inl rfl
theorem yq(c:MT)(b:MS)(env:aJ)(st:ak):bC c b env st=(c env st).bind λx st1=>if x then (b env st1).bind λo st2=>(match o with
   | .nx bu=>bC c b bu st2
   | .cn bu=>bC c b bu st2
   | .bk bu=>.ok (.nx bu) st2
   | .rt d=>.ok (.rt d) st2) else .ok (.nx env) st1:=by
 have one:∀n,bx c b (n+1) env st=(c env st).bind λx st1=>if x then (b env st1).bind λo st2=>(match o with
   | .nx bu=>bx c b n bu st2
   | .cn bu=>bx c b n bu st2
   | .bk bu=>.ok (.nx bu) st2
   | .rt d=>.ok (.rt d) st2) else .ok (.nx env) st1:=λn=>by rw[bx]<;>rfl
 have bd:(∀n,bx c b (n+1) env st=.bad)->bC c b env st=.bad:=λh=>by
  unfold bC;rw[dif_neg];rintro ⟨n,hn⟩;cases n with
  | zero=>exact hn (by rw[bx])
  | succ n=>exact hn (h n)
 have go:∀(bu:aJ) (st2:ak),(∀n,bx c b (n+1) env st=bx c b n bu st2)->bC c b env st=bC c b bu st2:=λbu st2 h=>by
  by_cases hx:∃n,bx c b n bu st2≠.bad
  ·obtain⟨n,hn⟩:=hx;rw[Ua hn,<-h n,Ua (n:=n+1) (by rw[h n];exact hn)]
  ·have e2:bC c b bu st2=.bad:=by unfold bC;rw[dif_neg hx]
   rw[e2];refine bd λn=>?_;rw[h n];by_cases q:bx c b n bu st2=.bad
   ·exact q
   ·exact absurd ⟨n,q⟩ hx
 cases e:c env st with
 | bad=>rw[R.qX];exact bd λn=>by rw[one n,e,R.qX]
 | err x s =>
  rw[R.qW];have:bx c b 1 env st=.err x s:=by rw[one 0,e,R.qW]
  rw[Ua (n:=1) (by rw[this];exact λz=>nomatch z),this]
 | ok x st1 =>
  rw[R.aB];cases x with
  | false =>
   have:bx c b 1 env st=.ok (.nx env) st1:=by rw[one 0,e,R.aB];rfl
   rw[Ua (n:=1) (by rw[this];exact λz=>nomatch z),this];rfl
  | true =>
   rw[aeQ rfl];cases e2:b env st1 with
   | bad=>rw[R.qX];exact bd λn=>by rw[one n,e,R.aB,aeQ rfl,e2,R.qX]
   | err x s =>
    rw[R.qW];have:bx c b 1 env st=.err x s:=by rw[one 0,e,R.aB,aeQ rfl,e2,R.qW]
    rw[Ua (n:=1) (by rw[this];exact λz=>nomatch z),this]
   | ok o st2 =>
    rw[R.aB];cases o with
    | nx bu=>exact go bu st2 λn=>by rw[one n,e,R.aB,aeQ rfl,e2,R.aB]
    | cn bu=>exact go bu st2 λn=>by rw[one n,e,R.aB,aeQ rfl,e2,R.aB]
    | bk bu =>
     have:bx c b 1 env st=.ok (.nx bu) st2:=by rw[one 0,e,R.aB,aeQ rfl,e2,R.aB]
     rw[Ua (n:=1) (by rw[this];exact λz=>nomatch z),this]
    | rt d =>
     have:bx c b 1 env st=.ok (.rt d) st2:=by rw[one 0,e,R.aB,aeQ rfl,e2,R.aB]
     rw[Ua (n:=1) (by rw[this];exact λz=>nomatch z),this]
noncomputable def Nu(c:Nat)(cs:List Nat):List Nat:=(cs.reverse.dropWhile (λx=>decide (x=c))).reverse
def RT(c:Nat):Nu c []=[]:=rfl
end M
namespace L2
open PySem PySem.Spec PyProof.Rows
section
variable  {X:Cx}{a b:Expr}{rest:List Expr}{pos:Pos}{ta tb:TE}
end
end L2
namespace M
open PySem PySem.Spec L2
section
variable  {X:Cx}{a b c:Expr}{ma mb mc:ME}{pos:Pos}{rest:List Expr}
def DQ{body:List Stmt}{tc:MT}{mb:MS}(hc:JT X c tc)(hb:yD X body mb)(hp:PassesOwn (model X.prog X.w) X.A X.env X.xe):JS X (.While c body [] pos) (bC tc mb):=by
 rintro pins s σ H D I ⟨μ,env,st,hE,hs,q⟩;rcases Ce (c:=tc) (b:=mb) (env:=env) (st:=st) with e | ⟨n,e⟩
 ·rw[e]at q;exact q.elim
 ·rw[e]at q;exact Jk n hc hb hp pins s σ H D I ⟨μ,env,st,hE,hs,q⟩
end
end M
namespace L2
open PySem PySem.Spec PyProof.Rows PySem.Builtin PySem.Builtin.Str
end L2
namespace M
open PySem PySem.Spec L2
structure aeA(K:PySem.W.Frag)(x qual:Str)(st:Stmt)(f:Addr)(fd:FuncData):Prop where
 ex:∃(oc:Value) (od:Option Addr) (dV kV doc pm:Value) (an:Option Addr) (iw ct:Value) (xr:Array (Option Value)),
  fd=PySem.W.fnOf x qual (dj st) (bQ st) (aF st) dV kV doc pm an iw ct/\K.lookup f=some ⟨oc,od,.func fd,xr⟩/\PySem.W.codeIn K iw qual=true
 kp:PySem.W.keepIn K (.ref f)=true
section
variable  {P:Program}{w:World}{K:PySem.W.Frag}{mg:Str->Option Value}{base:Heap}
end
section
variable  {X:Cx}{e:Expr}{es:List Expr}{mA:MA}{pos p:Pos}{x:Str}{k:Nat}{f:Addr}{fd:FuncData}{ps:List Str}{F:FD}{i:Int}
end
def huL(L:Nat){A:Around}{k:Nat}(hr:cR k A)(h:L<=16*k+200):A.units+L<cLine:=by have:=hr.un;omega
end M
namespace M
inductive Tr where
 | lf (s:List Nat) | jn (l r:Tr)
namespace Tr
noncomputable def tV:Tr->Bool
 | .jn (.lf s) _=>s==[83]
 | _=>false
noncomputable def val:Tr->Bool
 | .lf _=>true
 | .jn l r=>val r && (match l with
  | .lf s=>s==[83] || s==[75]
  | .jn _ _=>tV l && val l)
noncomputable def lv:Tr->Nat
 | .lf _=>1
 | .jn l r=>lv l+lv r
noncomputable def dp:Tr->Nat
 | .lf _=>0
 | .jn l r=>max (dp l) (dp r)+1
def Uc(s:List Nat)(r:Tr):val (.jn (.lf s) r)=(val r && (s==[83] || s==[75])):=by rw[val]
def T8(a b r:Tr):val (.jn (.jn a b) r)=(val r && (tV (.jn a b) && val (.jn a b))):=by rw[val]
def zkm{l r:Tr}(h:val (.jn l r)=true):val l=true/\val r=true:=by
 cases l with
 | lf s=>rw[Uc,gM]at h;exact⟨rfl,h.1⟩
 | jn a b=>rw[T8,gM,gM]at h;exact⟨h.2.2,h.1⟩
def Z4(t:Tr):dp t<lv t:=by
 induction t with
 | lf s=>simp[dp,lv]
 | jn l r h1 h2=>rw[dp,lv];omega
noncomputable def aaB:Tr->Tr->Option Tr
 | .jn (.lf s) b,_=>if s=[75] then some b else none
 | .jn (.jn _ u) v,r=>some (.jn (.jn u r) (.jn v r))
 | .lf _,_=>none
noncomputable def step:Tr->Option Tr
 | .lf _=>none
 | .jn l r=>if val l=false then (step l).map (λx=>.jn x r) else if val r=false then (step r).map (λx=>.jn l x) else if val (.jn l r)=true then none else aaB l r
noncomputable def run:Nat->Tr->Tr×Nat
 | 0,t=>(t,0)
 | n+1,t=>match step t with
  | none=>(t,0)
  | some u=>((run n u).1,(run n u).2+1)
inductive Fr where
 | fl (r:Tr) | fr (l:Tr)
noncomputable def fill:Fr->Tr->Tr
 | .fl r,t=>.jn t r
 | .fr l,t=>.jn l t
noncomputable def aaQ(fs:List Fr)(t:Tr):Tr:=fs.foldr fill t
def YD(fs:List Fr)(f:Fr)(t:Tr):aaQ (f::fs) t=fill f (aaQ fs t):=rfl
def sk:Tr->Prop
 | .lf s=>s=[83]\/s=[75]
 | .jn l r=>sk l/\sk r
end Tr
open Tr
noncomputable def enc:Tr->D
 | .lf s=>.str s
 | .jn l r=>.tup [enc l,enc r,.int (lv (.jn l r):Nat),.bl (val (.jn l r))]
def TX(t:Tr):flat (enc t)=true:=by
 induction t with
 | lf s=>simp[enc]
 | jn l r h1 h2=>simp[enc,h1,h2]
def Bh(t:Tr):dep (enc t)=dp t:=by
 induction t with
 | lf s=>simp[enc,dp]
 | jn l r h1 h2=>simp[enc,dp,h1,h2]
def iQ(n:Nat)(t:Tr):under n (enc t):=by
 induction t with
 | lf s=>simp[enc]
 | jn l r h1 h2=>simp[enc,h1,h2]
def My(L:Nat)(t:Tr)(s:List Nat)(st:ak):fL (L+1) (enc t) (.str s) st=.ok (.bl (match t with | .lf c=>decide (c=s) | .jn _ _=>false)) st:=by
 cases t with
 | lf c=>exact Hj st L c s
 | jn l r =>
  have hf:=TX (.jn l r);unfold fL;have:iD (L+1) (enc (.jn l r)) (.str s) st=some false:=by
   rw[enc]at hf ⊢;simp only[iD];rw[aeQ ⟨hf,by simp,by simp⟩];simp[fY]
  rw[this]
def ze2(t:Tr)(st:ak):vK "str" (enc t) st=.ok (.bl (match t with | .lf _=>true | .jn _ _=>false)) st:=by
 cases t with
 | lf s=>rw[enc];simp[f9]
 | jn l r=>rw[enc];simp[f9]
end M
namespace M
open PySem PySem.Spec L2 PyProof.Rows
end M
namespace M
open L2
noncomputable def dF:D->List D->ak->R D
 | .loc n,[],st=>match st[n]? with
  | some (.lst a)=>.ok .non (st.set n (.lst a.reverse))
  | _=>.bad
 | _,_,_=>.bad
end M
namespace M
open PySem PySem.Spec L2
section
variable  {X:Cx}
def zps:qd X "list.reverse" (Df X dF):=by
 refine qd.weak zsr ?_;rintro x xs H Q ⟨μ,st,d,ds,hs,hx,jd,hp⟩;unfold dF at hp
 split at hp
 ·rename_i n
  split at hp
  ·rename_i a e1;obtain⟨p,q1,rfl⟩:=ao.aH.mp hx;rw[aq]at jd;obtain⟨p',ys,r1,r2,r3⟩:=hs.lst e1;rw[q1]at r1;cases r1;obtain⟨g,oN⟩:=wC hs e1 q1 r2 r3.reverse;exact⟨p,ys,rfl,jd,r2,hp _ _ μ g oN (ao.bK.mpr rfl)⟩
  ·exact hp.elim
 ·exact hp.elim
def cQ.never{P:Program}{w:World}{K:PySem.W.Frag}{mg:Str->Option Value}{base:Heap}{k n:Nat}{f:Addr}{fd:FuncData}{ps:List Str}(h:n=ps.length:=by rfl):cQ P w K mg base rn k f fd ps (vV K n λ_ _=>.bad) :=
 ⟨λvs H Q E q=>q.1.trans h,λA outer s H args us vs Q E hr he hb hv hs=>by
  obtain⟨_,_,_,_,_,_,hp⟩:=hs;exact hp.elim⟩
end
section
variable  {X:Cx}{pos p:Pos}{x:Str}{k:Nat}{f:Addr}{fd:FuncData}{F:FD}
def Jz(G:cQ X.prog X.w X.K X.mg X.base rn k f fd [] (vV X.K 0 F))(hr:cR k X.A)(hm:X.mg x=some (.ref f))(hk:PySem.W.keepIn X.K (.ref f)=true)(hb:Binds X.K fd [] [])(hg:Gl X x:=by rfl)(qK:(x==("__debug__":Str))=false:=by decide) :
  JE X (.Call (.Name x p) [] [] pos) (az F [] au):=by
 refine JE.of (HD G hr hg hm hk hb .nil z8 qK) fun σ H Q zz=>?_;obtain⟨μ,env,st,hE,hs,hp⟩:=zz;refine⟨rfl,μ,[],st,aq.nil,hs,?_⟩;have dq:bL X μ H (lu X) Q (F ([]++[]) st).sure:=hp;rw[gR]at dq;cases hF:F [] st with
 | ok d st2=>rw[hF]at dq;exact dq
 | err y st2=>rw[hF]at dq;exact dq.elim
 | bad=>rw[hF]at dq;exact dq.elim
end
end M
namespace L2
open PySem PySem.Spec PyProof.Rows
noncomputable def eO(L:List (Addr×Obj))(H:Hp):Hp:=λb=>match L.lookup b with | some o=>some (.frz o (.own 0)) | none=>H b
noncomputable def dW(L:List (Addr×Obj))(H:Hp):Hp:=λb=>match L.lookup b with | some _=>none | none=>H b
def ZQ(h:L.lookup b=some o):eO L H b=some (.frz o (.own 0)):=by unfold eO;rw[h]
def v9(h:L.lookup b=none):eO L H b=H b:=by unfold eO;rw[h]
def ZL(h:L.lookup b=some o):dW L H b=none:=by unfold dW;rw[h]
def BZ(h:L.lookup b=none):dW L H b=H b:=by unfold dW;rw[h]
def Fw(h:eO L H b=some u):(∃o,L.lookup b=some o/\u=.frz o (.own 0))\/(L.lookup b=none/\H b=some u):=by
 unfold eO at h;cases e:L.lookup b with
 | some o=>rw[e]at h;cases h;exact .inl ⟨o,rfl,rfl⟩
 | none=>rw[e]at h;exact .inr ⟨rfl,h⟩
def Eo(h:dW L H b=some u):L.lookup b=none/\H b=some u:=by
 unfold dW at h;cases e:L.lookup b with
 | some o=>rw[e]at h;cases h
 | none=>rw[e]at h;exact⟨rfl,h⟩
section
variable  {P:Program}{w:World}{H H':Hp}{h h':Heap}{L:List (Addr×Obj)}
def jX.eO(x:jX P w H h)(n:∀b o,L.lookup b=some o->H b=none)(k:∀b o,L.lookup b=some o->h.get? b=some o):jX P w (eO L H) h:=λa u e=>by
 have up:∀b v,H b=some v->L2.eO L H b=some v:=λb v q=>by
  cases z:L.lookup b with
  | some o=>rw[n b o z]at q;cases q
  | none=>rw[v9 z];exact q
 rcases Fw e with⟨o,e1,rfl⟩ | ⟨e1,e2⟩
 ·exact⟨k a o e1,o,k a o e1⟩
 ·exact (x a u e2).tO (λ_ _ _ q=>q) (λb q=>up b _ q) λb xs q=>up b _ q
def jX.dW(x:jX P w H h)(n:∀b o,L.lookup b=some o->∃o',H b=some (.frz o' (.own 0))):jX P w (dW L H) h:=λa u e=>by
 have up:∀b v,H b=some v->(∀o',v≠.frz o' (.own 0))->L2.dW L H b=some v:=λb v q z=>by
  cases y:L.lookup b with
  | some o =>
   obtain⟨o',e'⟩:=n b o y;rw[e']at q;exact absurd (aeU q).symm (z o')
  | none=>rw[BZ y];exact q
 obtain⟨_,e2⟩:=Eo e;exact (x a u e2).tO (λ_ _ _ q=>q) (λb q=>up b _ q λ_ z=>nomatch z) λb xs q=>up b _ q λ_ z=>nomatch z
end
section
variable  {X:Cx}{k:Nat}{f:Addr}{fd:FuncData}{ps:List Str}{sp:Sp}{lF:List V}{ds:List Value}{pins:List (Addr×Obj)}{σ:St}{H:Hp}{s:Shared}{Q:VK}{us:List Value}{vs:List V}
def Nt(F:cQ X.prog X.w X.K X.mg X.base rn k f fd ps sp)(hr:cR k X.A)(hb:Binds X.K fd ps ds)(hd:Vals lF ds)(I:Inv X pins σ H s) 
  (hL:∀b o,L.lookup b=some o->s.heap.get? b=some o/\∃x,X.env.cells.lookup x=some b/\X.fn x=true)
  (r:Vals vs us) (h:sp (vs++lF) (eO L H) (λv H'=>Q v (dW L H')) E0):wpAny (model X.prog X.w) X.A (call (.ref f) us) (EP X pins σ Q) X.xe s:=by
 have r2:Vals (vs++lF) (us++ds):=r.append hd;have hl:(us++ds).length=ps.length:=by rw[<-r2.length];exact F.len _ _ _ _ h
 have nL:∀b o,L.lookup b=some o->H b=none:=λb o e=>let ⟨_,x,hx,_⟩:=hL b o e;I.jr x b hx;have e0:=I.QG;have e1:xg X.prog X.w X.K X.mg X.base X.A X.stack s (eO L H):=by
  refine⟨e0.frames,e0.mod,λb o e=>⟨(e0.bs b o e).1,?_⟩,e0.Fi,e0.oA,λb iM=>?_,I.bN.eO nL λb o e=>(hL b o e).1,e0.bare⟩
  ·cases z:L.lookup b with
   | none=>rw[v9 z];exact (e0.bs b o e).2
   | some o' =>
    obtain⟨_,x,hx,hf⟩:=hL b o' z;have h1:=I.ok.Tp x b hf hx;exact absurd (gQ (gq e) (h_ I.ok.Fi h1)) (mJ _)
  ·cases z:L.lookup b with
   | none=>rw[v9 z];exact e0.Ka b iM
   | some o' =>
    obtain⟨_,x,hx,hf⟩:=hL b o' z;rcases gf.mp (I.uB b iM) with q | q
    ·exact absurd q (I.Tn x b hx)
    ·have h1:=I.ok.Tp x b hf hx;obtain⟨_,o2,J1,_⟩:=I.ok.oA.mem q;exact absurd (gQ (gq J1) h1) (mJ _)
 refine wpAny_call (afv (F.run X.A X.stack s (eO L H) ⟨us,[]⟩ (us++ds) (vs++lF) _ E0 hr e1 (hb s us I.qb hl) r2 h) λr s' hq=>?_);cases r with
 | error e=>exact False.elim hq
 | ok fl =>
  cases fl with
  | ret u =>
   obtain⟨v,H',os,bare,un,bN,rv,q⟩:=hq;obtain⟨hh,g,d,t,YF⟩:=s';obtain rfl:YF=s.os:=os;have kept:∀b o,L.lookup b=some o->H' b=some (.frz o (.own 0)):=λb o e=>un.rR b o (.own 0) (ZQ e);have un':Un (Be X.stack) [] H (dW L H') s.heap hh:=by
    refine⟨λb o e n hb hx=>?_,λb o e n hb hx=>?_,λb o e n hx=>?_,un.there,λb xs e=>?_,λb o u e=>?_,λb ps e=>?_⟩
    ·cases z:L.lookup b with
     | none=>exact un.keep b o e (by rw[v9 z];exact n) hb hx
     | some o' =>
      have e2:=(hL b o' z).1;rw[e]at e2;cases e2;exact (bN b _ (kept b o z)).1
    ·cases z:L.lookup b with
     | none=>exact un.slot b o e (by rw[v9 z];exact n) hb hx
     | some o' =>
      have e2:=(hL b o' z).1;rw[e]at e2;cases e2;exact⟨o.slots,(bN b _ (kept b o z)).1⟩
    ·cases z:L.lookup b with
     | none=>rw[BZ z];exact un.free b o e (by rw[v9 z];exact n) hx
     | some o'=>exact ZL z
    ·have z:L.lookup b=none:=by
      cases z:L.lookup b with
      | none=>rfl
      | some o'=>rw[nL b o' z]at e;cases e
     rw[BZ z];exact un.uq b xs (by rw[v9 z];exact e)
    ·have z:L.lookup b=none:=by
      cases z:L.lookup b with
      | none=>rfl
      | some o'=>rw[nL b o' z]at e;cases e
     rw[BZ z];exact un.rR b o u (by rw[v9 z];exact e)
    ·have z:L.lookup b=none:=by
      cases z:L.lookup b with
      | none=>rfl
      | some o'=>rw[nL b o' z]at e;cases e
     rw[BZ z];exact un.tL b ps (by rw[v9 z];exact e)
   exact⟨v,dW L H',I.call (h':=hh) (g':=g) (d':=d) (t':=t) (ch:=[]) un' (bN.dW λb o e=>⟨o,kept b o e⟩) bare (λb z=>absurd z (by simp)),rv,q⟩
  | next=>exact False.elim hq
  | brk=>exact False.elim hq
  | cont=>exact False.elim hq
end
def BMain(mg:Str->Option Value)(base:Heap):Prop :=
 ∃bm o,mg "__builtins__" = some (.ref bm)/\bm≠builtinsNs/\bm≠mainGlobals/\base.get? bm=some o/\o.cls=.type "module"/\o.dict=some builtinsNs/\o.data=.plain
def ab2(H:Hp)(P:Addr)(q:Str):Prop:=∃ps:Array Value,H P=some (.tbl ps)/\TriplesOk ps.toList/\∀pos cv,codeAmong pos ps.toList=some cv->∃c',cv=.ref c'/\M.qY H c' q
structure uW(H H':Hp)(P f c':Addr)(q:Str)(ob:Obj):Prop where
 new:H' f=some (.frz ob (.own 0))
 nf:H f=none
 code:M.qY H' c' q
 tab:ab2 H' P q
 same:∀b u,b≠P->H b=some u->H' b=some u
noncomputable def acB(P:Addr)(q:Str)(params:Arguments)(body:Expr)(scope:Scope)(clos:List (Str×Addr)):TE:=fun σ H Q=>ab2 H P q /\
 ∀f c' pm qR H',uW H H' P f c' q (PySem.W.kla_obj "<lambda>" q params body scope clos pm c' qR)->Q (.ref f) H'
def zle(ht:TriplesOk l)(hn:codeAmong pos l=none)(h:codeAmong pos' (l++[rawInt pos.line,rawInt pos.col,c])=some cv):codeAmong pos' l=some cv\/cv=c:=by
 clear hn
 fun_induction TriplesOk l with
 | case1 =>
  simp only[mL,codeAmong,rawInt]at h
  split at h
  ·cases h;exact .inr rfl
  ·cases h
 | case2 a t b u x rest ih =>
  simp only[pA,codeAmong]at h ⊢
  split at h
  ·rename_i hc;rw[aeQ hc];exact .inl h
  ·rename_i hc;rw[aeS hc];exact ih ht h
 | case3 l h1 h2=>exact ht.elim
section
variable  {X:Cx}{P c:Addr}{q:Str}{params:Arguments}{body:Expr}{scope:Scope}{clos:List (Str×Addr)}{pos:Pos}
def Vo(hB:BMain X.mg X.base)(hc:X.env.code=.ref c)(hh:PySem.W.codeHdIn X.K c P=true)(hq:X.env.qual ++ "<lambda>" = q)(tW:closureFor scope X.env=pure clos)(W5:defaultsOf params X.env=([],[]):=by rfl) :
  PE X (.Lambda params body scope pos) (acB P q params body scope clos):=by
 rintro pins s σ H Q I ⟨⟨ps,hP,ht,zu⟩,h⟩;refine PySem.W.kla_eval W5 ?_;rw[hq];have oP:s.heap.get? P=some (PySem.W.tabObj ps):=I.bN P _ hP;have hg:s.heap.Ns mainGlobals X.mg:=I.mod.glob.keeps I.bk;have CH:PySem.W.CodeHd s.heap c P:=PySem.W.codeHd_of_K I.qb hh;have hgP:mainGlobals≠P:=λz=>by
  obtain⟨o,es,ep,e,d,_⟩:=hg;rw[z,oP]at e;cases e;cases d
 have hb:s.heap.BuiltinsAt X.mg P:=by
  obtain⟨bm,o,b1,b2,b3,b4,b5,b6,b7⟩:=hB;have e:=I.bk bm o b4;refine⟨bm,o,b1,b2,b3,λz=>?_,e,b5,b6,b7⟩;rw[z,oP]at e;cases e;cases b7
 have hLP:X.env.locals≠P:=λz=>by have:=I.free;rw[z,hP]at this;cases this
 cases hca:codeAmong pos ps.toList with
 | none =>
  refine PySem.W.kla_makeFunction (mg:=X.mg) tW I.ok.glob hg hc CH oP ht hca hgP hb λc' qR h' tk hx hge yx adJ htb=>?_;obtain⟨c2,oc,vs,t,e2,hoc,hd,hv⟩:=adJ;cases e2;have hsz:s.heap.objs.size<=h'.objs.size:=h_ hge (Nat.le_of_lt yx);have nc:H c'=none:=I.bN.fresh hge;have nf:H h'.objs.size=none:=I.bN.fresh hsz;have cf:c'≠h'.objs.size:=gY yx;have cP:c'≠P:=λz=>by rw[z,hP]at nc;cases nc
  have fP:h'.objs.size≠P:=λz=>by rw[z,hP]at nf;cases nf
  let ob:Obj:=PySem.W.kla_obj "<lambda>" q params body scope clos ((X.mg "__name__").getD .none) c' qR
  let ps':Array Value:=ps++#[rawInt pos.line,rawInt pos.col,.ref c']
  let H1:Hp:=upd H P (.tbl ps')
  let H2:Hp:=upd H1 c' (.frz oc (.own 0))
  let H':Hp:=upd H2 h'.objs.size (.frz ob (.own 0))
  have s1:∀b u,b≠P->H b=some u->H' b=some u:=λb u Qw e=>by
   have n1:b≠h'.objs.size:=yJ e nf;have n2:b≠c':=yJ e nc;show upd H2 h'.objs.size _ b=_;rw[iy n1];show upd H1 c' _ b=_;rw[iy n2];show upd H P _ b=_;rw[iy Qw];exact e
  have atP:H' P=some (.tbl ps'):=by
   show upd H2 h'.objs.size _ P=_;rw[iy (ae1 fP)];show upd H1 c' _ P=_;rw[iy (ae1 cP)];exact rm
  have atc:H' c'=some (.frz oc (.own 0)):=by
   show upd H2 h'.objs.size _ c'=_;rw[iy cf];exact rm
  have atf:H' h'.objs.size=some (.frz ob (.own 0)):=rm;have back:∀b u,H' b=some u->b=h'.objs.size\/b=c'\/b=P\/(b≠P/\H b=some u):=λb u e=>by
   by_cases n1:b=h'.objs.size
   ·exact .inl n1
   by_cases n2:b=c'
   ·exact .inr (.inl n2)
   by_cases n3:b=P
   ·exact .inr (.inr (.inl n3))
   ·refine .inr (.inr (.inr ⟨n3,?_⟩));have e:upd H2 h'.objs.size _ b=some u:=e;rw[iy n1]at e;have e:upd H1 c' _ b=some u:=e;rw[iy n2]at e;have e:upd H P _ b=some u:=e;rw[iy n3]at e;exact e
  have kp:∀b o,b≠P->s.heap.get? b=some o->(h'.push ob).get? b=some o:=λb o Qw e=>g8 _ (hx b o Qw e);have ext:M.Ext H H':=⟨λb xs e=>s1 b _ (λz=>by rw[z,hP]at e;cases e) e,λb o u e=>s1 b _ (λz=>by rw[z,hP]at e;cases e) e⟩;have new:uW H H' P h'.objs.size c' q ob:=by
   refine⟨atf,nf,⟨oc,vs,t,atc,hd,hv⟩,⟨ps',atP,?_,λpos' cv e=>?_⟩,s1⟩
   ·show TriplesOk (ps++#[rawInt pos.line,rawInt pos.col,Value.ref c']).toList;rw[Array.toList_append];exact TriplesOk_snoc _ _ _ _ ht
   ·have e':codeAmong pos' (ps.toList++[rawInt pos.line,rawInt pos.col,Value.ref c'])=some cv:=by
     rw[<-Array.toList_append];exact e
    rcases zle ht hca e' with e1 | e1
    ·obtain⟨c2,q1,q2⟩:=zu pos' cv e1;exact⟨c2,q1,q2.ext ext⟩
    ·exact⟨c',e1,⟨oc,vs,t,atc,hd,hv⟩⟩
  refine⟨.ref h'.objs.size,H',?_,rfl,h _ _ _ _ _ new⟩;have nP:∀b,H b=none->b≠P:=λb n z=>by rw[z,hP]at n;cases n
  refine I.step (g':=s.gens) (d':=s.drawn) (ch:=[]) (λ_ z=>nomatch z) (λb o _ _ _ e n=>kp b o (nP b n) e) (λb o _ _ _ e n=>⟨o.slots,kp b o (nP b n) e⟩) (λb o _ e n=>?_) (λb o _ e=>?_)
   (λb xs e=>ext.tup b xs e) (λb o u e=>ext.frz b o u e) (λb ps2 e=>?_) (λm hm=>(hm.extBut hx hLP).push _) (λb u e=>?_) I.bare
  ·cases z:H' b with
   | none=>rfl
   | some u =>
    have lt:=gq e;rcases back b u z with z1 | z1 | z1 | ⟨_,z1⟩
    ·rw[z1]at lt;exact absurd (gQ lt hsz) (mJ _)
    ·rw[z1]at lt;exact absurd (gQ lt hge) (mJ _)
    ·exact absurd z1 (nP b n)
    ·rw[n]at z1;cases z1
  ·by_cases Qw:b=P
   ·subst Qw;exact⟨_,g8 _ htb⟩
   ·exact⟨o,kp b o Qw e⟩
  ·by_cases Qw:b=P
   ·subst Qw;rw[hP]at e;cases e;exact⟨_,atP⟩
   ·exact⟨#[],by rw[s1 b _ Qw e];simp⟩
  ·rcases back b u e with z1 | z1 | z1 | ⟨z0,z1⟩
   ·subst z1;rw[atf]at e;cases e;exact⟨gZ _ rfl,ob,gZ _ rfl⟩
   ·subst z1;rw[atc]at e;cases e;exact⟨g8 _ hoc,oc,g8 _ hoc⟩
   ·subst z1;rw[atP]at e;cases e;exact g8 _ htb
   ·have Ig:∀b2 u2,H b2=some u2->(∀ps2,u2≠.tbl ps2)->H' b2=some u2:=λb2 u2 q z=>s1 b2 u2 (λy=>by rw[y,hP]at q;exact z _ (aeU q).symm) q;refine (I.bN b u z1).tO (λc2 v hc q=>kp c2 v ?_ q) (λc2 q=>Ig c2 _ q λ_ z=>nomatch z) λc2 xs q=>Ig c2 _ q λ_ z=>nomatch z;rcases hc with y | y
    ·rw[y];exact z0
    ·exact λy2=>by rw[y2,hP]at y;cases y
 | some cv =>
  obtain⟨c',rfl,xU⟩:=zu pos cv hca;refine PySem.W.kla_makeFunctionHit (mg:=X.mg) tW I.ok.glob hg hc CH oP ht hca hb λqR h' tk hk hsz=>?_;have nf:H h'.objs.size=none:=I.bN.fresh hsz
  let ob:Obj:=PySem.W.kla_obj "<lambda>" q params body scope clos ((X.mg "__name__").getD .none) c' qR
  have kp:∀b o,s.heap.get? b=some o->(h'.push ob).get? b=some o:=λb o e=>g8 _ (hk b o e);have s1:∀b u,H b=some u->upd H h'.objs.size (.frz ob (.own 0)) b=some u:=λb u e=>by rw[iy (yJ e nf)];exact e
  have ext:M.Ext H (upd H h'.objs.size (.frz ob (.own 0))):=⟨λb xs e=>s1 b _ e,λb o u e=>s1 b _ e⟩;refine⟨.ref h'.objs.size,upd H h'.objs.size (.frz ob (.own 0)),I.laid (t':=tk) kp (by exact hsz) ⟨gZ _ rfl,ob,gZ _ rfl⟩,rfl,h _ c' _ _ _ ⟨rm,nf,xU.ext ext,⟨ps,s1 _ _ hP,ht,λpos' cv e=>?_⟩,λb u _ e=>s1 b u e⟩⟩;obtain⟨c2,q1,q2⟩:=zu pos' cv e;exact⟨c2,q1,q2.ext ext⟩
end
def zlo{cl:List (Str×Addr)}(nd:(cl.map (·.2)).Nodup){x y:Str}{c:Addr}(h1:cl.lookup x=some c)(h2:cl.lookup y=some c):x=y:=by
 induction cl with
 | nil=>cases h1
 | cons p cl ih =>
  obtain⟨z,d⟩:=p;rw[gw,my]at nd;have mem:∀w,cl.lookup w=some c->c∈cl.map (·.2):=λw e=>gj.mpr ⟨(w,c),aeW e,rfl⟩;rw[km]at h1 h2;by_cases e1:(x==z)=true
  ·simp only[e1]at h1;cases h1;by_cases e2:(y==z)=true
   ·rw[eq_of_beq e1,eq_of_beq e2]
   ·simp only[show (y==z)=false by simpa using e2]at h2;exact absurd (mem y h2) nd.1
  ·simp only[show (x==z)=false by simpa using e1]at h1;by_cases e2:(y==z)=true
   ·simp only[e2]at h2;cases h2;exact absurd (mem x h1) nd.1
   ·simp only[show (y==z)=false by simpa using e2]at h2;exact ih nd.2 h1 h2
def Dw{β:Type}{cl:List (Str×β)}{x:Str}(h:x∈cl.map (·.1)):∃c,cl.lookup x=some c:=by
 induction cl with
 | nil=>cases h
 | cons p cl ih =>
  rw[km];by_cases e:(x==p.1)=true
  ·simp only[e];exact⟨_,rfl⟩
  ·simp only[show (x==p.1)=false by simpa using e];refine ih ?_;rcases gf.mp h with z | z
   ·rw[z]at e;simp at e
   ·exact z
def lookup_mem{β:Type}{l:List (Str×β)}{x:Str}{u:β}(nd:(l.map (·.1)).Nodup)(h:(x,u)∈l):l.lookup x=some u:=by
 induction l with
 | nil=>cases h
 | cons p l ih =>
  rw[gw,my]at nd;rw[km];rcases gf.mp h with z | z
  ·subst z;simp
  ·have:(x==p.1)=false:=by
    have hx:x∈l.map (·.1):=gj.mpr ⟨(x,u),z,rfl⟩;have:x≠p.1:=λy=>nd.1 (y ▸ hx);simpa using this
   simp only[this];exact ih nd.2 z
theorem zld:∀{cl:List (Str×Addr)} {vs:List V},M.fj H cl vs->(cl.map (·.2)).Nodup->∃L:List (Addr×Obj),(∀b o,L.lookup b=some o->H b=some (.frz o (.own 0))/\∃u,o.data=.cell (some u)) /\
  (∀(i:Nat) (x:Str) (c:Addr),cl[i]? = some (x,c)->∃v o u,vs[i]? = some v/\L.lookup c=some o/\o.data=.cell (some u)/\RelV v u)/\vs.length=cl.length
 | [],vs,h,_=>by
  have h:vs=[]:=h;subst h;exact⟨[],λb o e=>by simp at e,λi x c e=>by simp at e,rfl⟩
 | (x,c)::cl,_,⟨v,r,o,u,rfl,h2,h3,h4,h5⟩,nd=>by
  rw[gw,my]at nd;obtain⟨L,Ge,hL2,hlen⟩:=zld h5 nd.2;refine⟨(c,o)::L,λb o' e=>?_,λi y d e=>?_,by simp[hlen]⟩
  ·rw[km]at e;by_cases hb:(b==c)=true
   ·simp only[hb]at e;cases e;rw[eq_of_beq hb];exact⟨h2,u,h3⟩
   ·simp only[show (b==c)=false by simpa using hb]at e;exact Ge b o' e
  ·cases i with
   | zero =>
    simp at e;obtain⟨rfl,rfl⟩:=e;exact⟨v,o,u,rfl,by rw[km];simp,h3,h4⟩
   | succ i =>
    have e:cl[i]? = some (y,d):=by simpa using e
    obtain⟨v',o',u',q1,q2,q3,q4⟩:=hL2 i y d e;have hd:(d==c)=false:=by
     have:d∈cl.map (·.2):=gj.mpr ⟨(y,d),gU e,rfl⟩;have:d≠c:=λz=>nd.1 (z ▸ this);simpa using this
    exact⟨v',o',u',by simpa using q1,by rw[km];simp only[hd];exact q2,q3,q4⟩
structure yj(cn ps:List Str)(sc:Scope):Prop where
 kind:sc.kind=.function
 co:sc.isCoroutine=false
 gen:sc.isGenerator=false
 nd:(cn++ps).Nodup
 free:∀y∈sc.names,y.2=.free->y.1∈cn
 Ij:∀y∈sc.names,y.2≠.cell
 Wu:∀x∈cn,sc.names.lookup x=some .free
 par:∀x∈ps,sc.names.lookup x=some .local
noncomputable def Ar(P:Program)(w:World)(K:PySem.W.Frag)(mg:Str->Option Value)(base:Heap)(N:List Str)(qual:Str)(scope:Scope)(f:Addr)(cd:Value)(cl:List (Str×Addr))(A:Around)(outer:List Env)(s:Shared)(H:Hp):Cx where
 prog:=P
 w:=w
 K:=K
 mg:=mg
 base:=base
 A:=A.deeper (PySem.W.envX qual scope s.heap.objs.size f cd cl)
 N:=N
 aeG:=s
 aeO:=H
 env:=PySem.W.envX qual scope s.heap.objs.size f cd cl
 outer:=outer
 stack:=PySem.W.envX qual scope s.heap.objs.size f cd cl::outer
 ex:=[]
 calm:=true
 fn:=λ_=>false
 pn:=[]
 xe:=λ_ _=>False
section
variable  {P:Program}{w:World}{K:PySem.W.Frag}{mg:Str->Option Value}{base:Heap}{A:Around}{outer:List Env}{s:Shared}{H:Hp}{qual:Str}{params:Arguments}{body:Expr}{scope:Scope}{cl:List (Str×Addr)}{pm qR:Value}{c' f:Addr}{k:Nat}
 {cn ps:List Str} {us:List Value} {vs Ma:List V} {Q:VK} {t:TE}
def Pr(e0:xg P w K mg base A outer s H)(hr:cR (k+1) A)(S:yj cn ps scope)(hf:H f=some (.frz (PySem.W.kla_obj "<lambda>" qual params body scope cl pm c' qR) (.own 0)))(xU:M.qY H c' qual)
  (Sy:cl.map (·.1)=cn) (yw:(cl.map (·.2)).Nodup) (wM:M.fj H cl Ma) (hb:bindArgs (PySem.W.kla_fn "<lambda>" qual params body scope cl pm (.ref c') qR) ⟨us,[]⟩=pure (ps.zip us)) (hl:us.length=ps.length) (r:Vals vs us)
  (qM:∀L:List (Addr×Obj),(∀b o,L.lookup b=some o->H b=some (.frz o (.own 0))/\∃u,o.data=.cell (some u))->∃t,PE (Ar P w K mg base (cn++ps) qual scope f (.ref c') cl A outer s (dW L H)) body t/\t ((Ma++vs).map some) (dW L H) λv H'=>(∀b o,L.lookup b=some o->H' b=none)->Q v (eO L H')) :
  codeAny (model P w) A (.call (.ref f) ⟨us,[]⟩) (CR rn outer P w H s Q E0) s:=by
 obtain⟨L,Ge,hL2,Sv⟩:=zld wM yw;obtain⟨t,hPE,ht⟩:=qM L Ge;have of:=(e0.bN f _ hf).1;obtain⟨oc,cvs,ct,hc1,W8,hc3⟩:=xU;have occ:=(e0.bN c' _ hc1).1;have lim:s.heap.NoLimit:=e0.mod.nolimit.keeps λb o e=>(e0.bs b o e).1;have cellIn:∀x c,cl.lookup x=some c->∃i,cl[i]? = some (x,c):=λx c e=>by
  obtain⟨i,hi,e2⟩:=List.getElem_of_mem (aeW e);exact⟨i,by rw[gF hi,e2]⟩
 have abP:∀x c,cl.lookup x=some c->∃o,L.lookup c=some o:=λx c e=>by
  obtain⟨i,hi⟩:=cellIn x c e;obtain⟨_,o,_,_,q,_⟩:=hL2 i x c hi;exact⟨o,q⟩
 have abv:jX P w (dW L H) s.heap:=e0.bN.dW λb o e=>⟨o,(Ge b o e).1⟩;refine PySem.W.kla_callFunE hr.depth of rfl S.co S.gen rfl ⟨c',oc,cvs,ct,rfl,occ,W8,hc3⟩ ?_;rw[hb];have adQ:∀x∈ps.zip us,scope.names.lookup x.1=some .local:=λ⟨n,v⟩ hy=>S.par n (p7 hy).1;refine aeR (wpAny_newFunctionEnv S.Ij adQ (λaeN Ef Y6=>⟨lim.fresh _ Y6,?_⟩) S.kind);have acg:∀b o,s.heap.get? b=some o->aeN.get? b=some o:=λb o e=>Y6.extBut b o (gY (gq e)) (g8 _ e);show codeAny _ _ (.expr body (PySem.W.envX qual scope s.heap.objs.size f (.ref c') cl)) _ _;have Pa:∀b:Addr,b∉(Ar P w K mg base (cn++ps) qual scope f (.ref c') cl A outer s (dW L H)).ex:=λb z=>absurd (show b∈([]:List Addr) from z) (by simp);have xZ:∀b,H b=none->dW L H b=none:=λb n=>by
  cases z:L.lookup b with
  | some o=>exact ZL z
  | none=>rw[BZ z];exact n
 have I:Inv (Ar P w K mg base (cn++ps) qual scope f (.ref c') cl A outer s (dW L H)) [] ((Ma++vs).map some) (dW L H) { s with heap:=aeN,toks:=s.toks+(ps.zip us).length }:=by
  refine⟨⟨e0.mod,S.kind,rfl,rfl,gb _,λy z c h1 h2=>zlo yw h1 h2,λy hy=>?_,λy c z _=>(by cases z),λ_=>hr.hd,Around.frames_deeper e0.frames,.inr ⟨rfl,rfl⟩,λb z=>absurd z (Pa b),λb o e=>⟨(e0.bs b o e).1,xZ b (e0.bs b o e).2⟩,e0.Fi,λb _ _=>Pa b,λb z=>absurd z (Pa b),e0.oA,λb iM=>xZ b (e0.Ka b iM)⟩,
   rfl,e0.bare,Un.kept acg,⟨_,Ef,λi y v h1 h2 h3=>?_⟩,λy c h=>?_,abv.fresh (gb _),λy c h=>?_,λp hp=>absurd (show p∈([]:List (Addr×Obj)) from hp) (by simp),abv.kept acg,?_⟩
  ·have hy:scope.names.lookup y=some .cell\/scope.names.lookup y=some .free:=hy;rcases hy with hy | hy
   ·exact absurd rfl (S.Ij _ (aeW hy))
   ·have hm:=S.free _ (aeW hy) rfl;rw[<-Sy]at hm;obtain⟨p,hp,rfl⟩:=gj.mp hm;exact Dw (gj.mpr ⟨p,hp,rfl⟩)
  ·have ndc:(cl.map (·.1)).Nodup:=by rw[Sy];exact (nU.mp S.nd).1
   have ndp:ps.Nodup:=(nU.mp S.nd).2.1;have tW:cn.length=cl.length:=by rw[<-Sy,gm]
   have h2:(Ma++vs)[i]? = some v:=by
    rw[gB]at h2;cases q:(Ma++vs)[i]? with
    | none=>rw[q]at h2;cases h2
    | some v'=>rw[q]at h2;cases h2;rfl
   have h1:(cn++ps)[i]? = some y:=h1;by_cases hi:i<cn.length
   ·rw[gJ hi]at h1;rw[gJ (by rw[Sv,<-tW];exact hi)]at h2;have hci:i<cl.length:=by omega
    have ec:cl[i]? = some (y,(cl[i]).2):=by
     rw[gF hci];have:(cl.map (·.1))[i]? = some y:=by rw[Sy];exact h1
     rw[gB,gF hci]at this;have e:cl[i].1=y:=aeU this;rw[<-e]
    obtain⟨v',o,u,q1,q2,q3,q4⟩:=hL2 i y _ ec;rw[h2]at q1;cases q1;refine⟨u,q4,.inr ⟨.inr (S.Wu y (gU h1)),_,lookup_mem ndc (gU ec),o,acg _ _ (e0.bN _ _ (Ge _ o q2).1).1,q3⟩⟩
   ·rw[kh (by omega)]at h1;rw[kh (by omega)]at h2;have WT:i - Ma.length=i - cn.length:=by omega
    rw[WT]at h2;obtain⟨u,hu,rv⟩:=r.get h2;refine⟨u,rv,.inl ⟨S.par y (gU h1),?_⟩⟩;have hm:(y,u)∈(ps.zip us).reverse:=by
     rw[List.mem_reverse];refine gU (i:=i - cn.length) ?_;rw[pK];exact⟨h1,hu⟩
    refine lookup_mem ?_ hm;rw[nW,List.map_fst_zip (by omega)];exact List.pairwise_reverse.mpr (ndp.imp λh=>ae1 h)
  ·obtain⟨i,hi⟩:=cellIn y c h;obtain⟨v,o,u,_,q2,q3,_⟩:=hL2 i y c hi;exact⟨some u,o,acg _ _ (e0.bN c _ (Ge c o q2).1).1,q3⟩
  ·obtain⟨o,q⟩:=abP y c h;exact ZL q
  ·show ((Ma++vs).map some).length=(cn++ps).length;rw[gm,gK,gK,Sv,<-Sy,gm,r.length,hl]
 refine PySem.W.kla_codeExpr (ae4 (hPE [] _ _ _ _ I ht) (λv s' h=>?_) λe s' h=>h.elim);obtain⟨x,H',J,rx,q⟩:=h;obtain⟨hh,g,d,tk,YF⟩:=s';have jb:Un (Be outer) [] (dW L H) H' s.heap hh:=J.base;have kc:∀b o,L.lookup b=some o->hh.get? b=some o/\H' b=none:=λb o e=>by
  have e1:=(e0.bN b _ (Ge b o e).1).1;have nfr:b∉Be outer:=λz=>by have:=e0.Ka b z;rw[(Ge b o e).1]at this;cases this
  exact⟨jb.keep b o e1 (ZL e) nfr (by simp),jb.free b o e1 (ZL e) (by simp)⟩
 refine⟨x,eO L H',J.os,J.bare,⟨λb o e n iM hx=>?_,λb o e n iM hx=>?_,λb o e n hx=>?_,jb.there,λb xs e=>?_,λb o u e=>?_,λb ps e=>?_⟩,J.bN.eO (λb o e=>(kc b o e).2) (λb o e=>(kc b o e).1),rx,q λb o e=>(kc b o e).2⟩
 ·exact jb.keep b o e (xZ b n) iM hx
 ·exact jb.slot b o e (xZ b n) iM hx
 ·have z:L.lookup b=none:=by
   cases z:L.lookup b with
   | none=>rfl
   | some o'=>rw[(Ge b o' z).1]at n;cases n
  rw[v9 z];exact jb.free b o e (xZ b n) hx
 ·have z:L.lookup b=none:=by
   cases z:L.lookup b with
   | none=>rfl
   | some o'=>rw[(Ge b o' z).1]at e;cases e
  rw[v9 z];exact jb.uq b xs (by rw[BZ z];exact e)
 ·cases z:L.lookup b with
  | some o' =>
   rw[(Ge b o' z).1]at e;cases e;exact ZQ z
  | none=>rw[v9 z];exact jb.rR b o u (by rw[BZ z];exact e)
 ·have z:L.lookup b=none:=by
   cases z:L.lookup b with
   | none=>rfl
   | some o'=>rw[(Ge b o' z).1]at e;cases e
  rw[v9 z];exact jb.tL b ps (by rw[BZ z];exact e)
end
end L2
namespace M
open PySem PySem.Spec L2
mutual
theorem ao.cC(e:∀b xs,H b=some (.tup xs)->H' b=some (.tup xs)):∀(d:D) {v:V},ao K μ H d v->ao K μ H' d v
 | .non,_,h=>by simpa[ao] using h
 | .bl _,_,h=>by simpa[ao] using h
 | .int _,_,h=>by simpa[ao] using h
 | .str _,_,h=>by simpa[ao] using h
 | .tup ds,_,h=>by
  rw[ao]at h ⊢;obtain⟨a,xs,rfl,h1,h2⟩:=h;exact⟨a,xs,rfl,h1.elim (λz=>.inl (e _ _ z)) .inr,aq.cC e ds h2⟩
 | .loc n,_,h=>by
  rw[ao]at h ⊢;exact h
theorem aq.cC(e:∀b xs,H b=some (.tup xs)->H' b=some (.tup xs)):∀(ds:List D) {vs:List V},aq K μ H ds vs->aq K μ H' ds vs
 | [],_,h=>by simpa[aq] using h
 | d::ds,_,h=>by
  rw[aq]at h ⊢;obtain⟨v,r,rfl,h1,h2⟩:=h;exact⟨v,r,rfl,ao.cC e d h1,aq.cC e ds h2⟩
end
theorem aO.cC(e:∀b xs,H b=some (.tup xs)->H' b=some (.tup xs)):∀{ds:List (κ×D)} {vs:List (κ×V)},aO K μ H ds vs->aO K μ H' ds vs
 | [],_,h=>h
 | (k,d)::ds,_,⟨v,r,e1,h1,h2⟩=>⟨v,r,e1,h1.cC e d,aO.cC e h2⟩
noncomputable def MO.d_:MO->Bool
 | .clo _ _ _=>true
 | _=>false
def qZ(L:List (Addr×Obj))(H:Hp):Prop:=∀b o,L.lookup b=some o->H b=some (.frz o (.own 0))/\∃u,o.data=.cell (some u)
def qZ.del(h:qZ L H)(e:H b=some u)(n:∀o,u=.frz o (.own 0)->∀v,o.data≠.cell v):dW L H b=some u:=by
 cases z:L.lookup b with
 | none=>rw[BZ z];exact e
 | some o =>
  obtain⟨e1,v,hv⟩:=h b o z;rw[e]at e1;exact absurd hv (n o (aeU e1) _)
def fU.del(hL:qZ L H)(hc:o.d_=false)(h:fU K μ H a o):fU K μ (dW L H) a o:=by
 have ht:∀b xs,H b=some (.tup xs)->dW L H b=some (.tup xs):=λb xs e=>hL.del e λ_ z=>nomatch z;cases o with
 | lst ds=>obtain⟨xs,h1,h2⟩:=h;exact⟨xs,hL.del h1 (λ_ z=>nomatch z),h2.cC ht⟩
 | frz ds =>
  obtain⟨xs,h1,h2⟩:=h;refine⟨xs,?_,h2.cC ht⟩;rcases h1 with⟨o,h1⟩ | h1
  ·exact .inl ⟨o,hL.del h1 λ_ z=>(by cases z)⟩
  ·exact .inr h1
 | dic kvs=>obtain⟨ws,h1,h2⟩:=h;exact⟨ws,hL.del h1 (λ_ z=>nomatch z),h2.cC ht⟩
 | dkc kvs=>obtain⟨ws,h1,h2⟩:=h;exact⟨ws,hL.del h1 (λ_ z=>nomatch z),h2.cC ht⟩
 | dkf kvs=>obtain⟨ws,o,h1,h2⟩:=h;exact⟨ws,o,hL.del h1 (λ_ z=>(by cases z)),h2.cC ht⟩
 | dtf kvs=>obtain⟨ws,o,h1,h2⟩:=h;exact⟨ws,o,hL.del h1 (λ_ z=>(by cases z)),h2.cC ht⟩
 | exc c d=>obtain⟨oe,C,dx,od,v,fs,h1,h2,h3,h4,h5,h6,h7⟩:=h;exact⟨oe,C,dx,od,v,fs,hL.del h1 (λo z w q=>(by cases z;rw[h4]at q;cases q)),h2,h3,h4,hL.del h5 (λ_ z=>(by cases z)),h6,h7.cC ht d⟩
 | ins c fs=>obtain⟨C,dx,ws,h0,h1,h2⟩:=h;exact⟨C,dx,ws,h0,hL.del h1 (λ_ z=>nomatch z),h2.cC ht⟩
 | tab x =>
  obtain⟨h0,ps,h1,h2,h3⟩:=h;refine⟨h0,ps,hL.del h1 (λ_ z=>nomatch z),h2,λpos cv e=>?_⟩;obtain⟨c',e1,oc,vs,t,e2,e3,e4⟩:=h3 pos cv e;exact⟨c',e1,oc,vs,t,hL.del e2 (λo z v=>by cases z;rw[e3];exact λy=>nomatch y),e3,e4⟩
 | clo j l ds=>cases hc
 | hid=>trivial
noncomputable def cj(st:ak):ak:=st.map λo=>if o.d_ then .hid else o
def zk3(st:ak):(cj st).length=st.length:=by simp[cj]
def zkh{st:ak}{n:Nat}{o:MO}(h:(cj st)[n]? = some o):∃o',st[n]? = some o'/\((o'.d_=true/\o=.hid)\/(o'.d_=false/\o=o')):=by
 unfold cj at h;rw[gB]at h;cases e:st[n]? with
 | none=>rw[e]at h;cases h
 | some o' =>
  rw[e]at h;refine⟨o',rfl,?_⟩;have h:(if o'.d_=true then MO.hid else o')=o:=aeU h;by_cases hc:o'.d_=true
  ·rw[aeQ hc]at h;exact .inl ⟨hc,h.symm⟩
  ·rw[aeS hc]at h;exact .inr ⟨by simpa using hc,h.symm⟩
def zsj{st:ak}{n:Nat}{o:MO}(h:st[n]? = some o):(cj st)[n]? = some (if o.d_ then .hid else o):=by
 unfold cj;rw[gB,h];rfl
def aV.hide{K:PySem.W.Frag}{μ:List Addr}{H:Hp}{st:ak}{L:List (Addr×Obj)}(hL:qZ L H)(h:aV K μ H st):aV K μ (dW L H) (cj st):=by
 refine⟨by rw[h.len,zk3],λn o e=>?_,λi j a oi oj ei ej mi mj hi hj=>?_⟩
 ·obtain⟨o',e1,e2⟩:=zkh e;obtain⟨a,h1,h2⟩:=h.at_ n o' e1;rcases e2 with⟨c,rfl⟩ | ⟨c,rfl⟩
  ·exact⟨a,h1,trivial⟩
  ·exact⟨a,h1,h2.del hL c⟩
 ·obtain⟨oi',e1,e2⟩:=zkh ei;obtain⟨oj',e3,e4⟩:=zkh ej;rcases e2 with⟨_,rfl⟩ | ⟨_,rfl⟩
  ·cases mi
  ·rcases e4 with⟨_,rfl⟩ | ⟨_,rfl⟩
   ·cases mj
   ·exact h.uniq i j a oi oj e1 e3 mi mj hi hj
def aV.Uo{K:PySem.W.Frag}{μ:List Addr}{H H':Hp}{st:ak}{L:List (Addr×Obj)}(h0:aV K μ H st)(h:aV K μ H' (cj st))(hn:∀b o,L.lookup b=some o->H' b=none)(ext:Ext H (eO L H')):aV K μ (eO L H') st:=by
 have up:∀b u,H' b=some u->eO L H' b=some u:=λb u e=>by
  cases z:L.lookup b with
  | none=>rw[v9 z];exact e
  | some o=>rw[hn b o z]at e;cases e
 refine⟨h0.len,λn o e=>?_,h0.uniq⟩;by_cases hc:o.d_=true
 ·obtain⟨a,h1,h2⟩:=h0.at_ n o e;refine⟨a,h1,h2.keep ⟨⟨[],by simp⟩,ext⟩ λhm=>?_⟩;cases o<;>simp[MO.d_,MO.mut]at hc hm
 ·have e2:=zsj e;rw[aeS hc]at e2;obtain⟨a,h1,h2⟩:=h.at_ n o e2;exact⟨a,h1,h2.keep ⟨⟨[],by simp⟩,⟨λb xs q=>up b _ q,λb o u q=>up b _ q⟩⟩ λ_ u q=>up a u q⟩
structure yl(P:Program)(w:World)(K:PySem.W.Frag)(mg:Str->Option Value)(base:Heap)(k:Nat)(l:fH)(ps:List Str)(m:ME):Prop where
 sc:yj l.oG ps l.scope
 bind:∀cl pm c' qR (us:List Value),us.length=ps.length->bindArgs (PySem.W.kla_fn "<lambda>" l.qual l.params l.body l.scope cl pm (.ref c') qR) ⟨us,[]⟩=pure (ps.zip us)
 body:∀(f:Addr) (cd:Value) (cl:List (Str×Addr)) (A:Around) (outer:List Env) (s:Shared) (H:Hp),cR k (A.deeper (PySem.W.envX l.qual l.scope s.heap.objs.size f cd cl)) ->
  JE (Ar P w K mg base (l.oG++ps) l.qual l.scope f cd cl A outer s H) l.body m
open Classical in
noncomputable def By(Λ:Nat->fH)(G:Nat->FD)(n:Nat)(as:List D)(st:ak):R D:=match st[n]? with
 | some (.clo j l ds)=>if l=Λ j then (match gc (cj st) (G j (ds++as) (cj st)) with
  | .ok d st2=>if st2=cj st/\under st.length d then .ok d st else .bad
  | _=>.bad) else .bad
 | _=>.bad
noncomputable def uI(n:Nat)(m:ME):FD:=λds st=>if ds.length=n then m (ds.map some) st else .bad
def Li(P:Program)(w:World)(K:PySem.W.Frag)(mg:Str->Option Value)(base:Heap)(k:Nat)(Λ:Nat->fH)(G:Nat->FD):Prop :=
 ∀j,(∀ds st,G j ds st=.bad)\/∃ps m,yl P w K mg base k (Λ j) ps m/\G j=uI ((Λ j).oG.length+ps.length) m
theorem fj.len:∀{cl:List (Str×Addr)} {vs:List V},fj H cl vs->vs.length=cl.length
 | [],_,h=>by have h:_=[]:=h;subst h;rfl
 | (_,c)::cl,_,⟨v,r,o,u,h1,_,_,_,h5⟩=>by subst h1;simp[fj.len h5]
def qZ.back(hL:qZ L H)(e:Ext (dW L H) H')(hn:∀b o,L.lookup b=some o->H' b=none):Ext H (eO L H'):=by
 have up:∀b u,H' b=some u->eO L H' b=some u:=λb u e=>by
  cases z:L.lookup b with
  | none=>rw[v9 z];exact e
  | some o=>rw[hn b o z]at e;cases e
 refine⟨λb xs q=>up b _ (e.tup b xs (hL.del q λ_ z=>nomatch z)),λb o u q=>?_⟩;cases z:L.lookup b with
 | none=>exact up b _ (e.frz b o u (by rw[BZ z];exact q))
 | some o' =>
  have q2:=(hL b o' z).1;rw[q]at q2;cases q2;exact ZQ z
noncomputable def callC(Λ:Nat->fH)(G:Nat->FD)(i:Nat)(mA:MA):ME:=λenv st=>match env[i]? with
 | some (some (.loc n))=>(match st[n]? with
  | some (.clo _ _ _)=>(mA env st).bind λas st1=>By Λ G n as st1
  | _=>.bad)
 | _=>.bad
section
variable  {X:Cx}{e:Expr}{es:List Expr}{mA:MA}{pos p:Pos}{x:Str}{k:Nat}{Λ:Nat->fH}{G:Nat->FD}
def zsl(hΛ:Li X.prog X.w X.K X.mg X.base k Λ G)(hr:cR (k+1) X.A)(i:Nat)(ha:JA X (e::es) mA)(hN:X.N[i]? = some x:=by rfl)(hv:Vis X.env.scope x:=by first | exact Or.inl rfl | exact Or.inr (Or.inl rfl) | exact Or.inr (Or.inr rfl))
  (hd:(x==("__debug__":Str))=false:=by decide) (xV:(x==("__classdict__":Str))=false:=by decide) (he:starEach (e::es) X.env=(false,eval e X.env)::starEach es X.env:=by rfl) (ou:(backTo pos (starEach es X.env)).any (·.1)=false:=by rfl) :
  JE X (.Call (.Name x p) (e::es) [] pos) (callC Λ G i mA):=by
 rintro pins s σ H Q I ⟨μ,env,st,hE,hs,hp⟩;unfold callC at hp
 split at hp
 case h_2=>exact hp.elim
 rename_i n hi
 split at hp
 case h_2=>exact hp.elim
 rename_i j0 l0 ds0 hn;obtain⟨v,h1,h2⟩:=hE.at_ i _ hi;obtain⟨a,q1,rfl⟩:=ao.aH.mp h2;obtain⟨a',r1,r2⟩:=hs.at_ n _ hn;rw[q1]at r1;cases r1;obtain⟨cl0,pm0,c0,aez,aev,w1,_⟩:=r2;refine ae5 (cH (Hw hN hv hd xV pins s σ H (λv' H'=>v'=.ref a/\H'=H) I ⟨.ref a,h1,rfl,rfl⟩) λu s0 zz=>?_);obtain⟨v',H',I0,r0,ev,eH⟩:=zz;subst ev eH;cases (show u=Value.ref a from r0);have fnAt:∀(s:Shared) (H:Hp) (o:Obj),Inv X pins σ H s->(∃q ps b sc cl pm c' qR,o=PySem.W.kla_obj "<lambda>" q ps b sc cl pm c' qR)->H a=some (.frz o (.own 0))->PySem.W.FnAt a s.heap:=by
  rintro s H o I ⟨q,ps,b,sc,cl,pm,c',qR,rfl⟩ h;exact⟨_,_,_,_,(I.bN a _ h).1⟩
 refine PySem.W.callWith_F (fnAt s0 H' _ I0 ⟨_,_,_,_,_,_,_,_,rfl⟩ w1) (cH (ha pos pins s0 σ H' _ I0 ⟨μ,env,st,hE,hs,bL.bind hp⟩) λus s1 zz=>?_) he ou;obtain⟨vs,H1,I1,r,μ1,st1,as,g1,bF,Wz,aR⟩:=zz;have g2:=g1.get q1;unfold By at aR;dsimp only at aR
 split at aR
 case h_2=>exact aR.elim
 rename_i j l ds hn1
 split at aR
 case isFalse=>exact aR.elim
 rename_i hl;subst hl;obtain⟨a',r1,cl,pm,c',qR,Ma,hf,xU,Sy,yw,wM,Sx⟩:=bF.at_ n _ hn1;rw[g2]at r1;cases r1;refine⟨fnAt s1 H1 _ I1 ⟨_,_,_,_,_,_,_,_,rfl⟩ hf,?_⟩;rcases hΛ j with adW | ⟨ps,m,LO,hG⟩
 ·rw[adW]at aR;exact aR.elim
 have hlen:(ds++as).length=(Λ j).oG.length+ps.length:=by
  refine afo λh=>?_;rw[hG]at aR;unfold uI at aR;rw[aeS h]at aR;exact aR.elim
 have e1:ds.length=(Λ j).oG.length:=by rw[Sx.length,wM.len,<-Sy,gm]
 have hul:us.length=ps.length:=by
  rw[<-r.length,<-Wz.length];rw[gK]at hlen;omega
 refine wpAny_call (afv (Pr (k:=k) (Q:=Q) (vs:=vs) I1.QG hr LO.sc hf xU Sy yw wM (LO.bind cl pm c' qR us hul) hul r ?_) λr s' hq=>?_)
 ·intro L hL;have hL:qZ L H1:=hL;refine⟨_,LO.body a (.ref c') cl X.A X.stack s1 (dW L H1) (hr.deeper _),μ1,(ds++as).map some,cj st1,?_,bF.hide hL,?_⟩
  ·have hv2:aq X.K μ1 (dW L H1) (ds++as) (Ma++vs):=(Sx.append Wz).cC (λb xs q=>hL.del q λ_ z=>nomatch z) _;refine⟨by rw[gm,gm,hv2.length],λi d e=>?_⟩;rw[gB]at e ⊢;cases q:(ds++as)[i]? with
   | none=>rw[q]at e;cases e
   | some d' =>
    rw[q]at e;cases e;obtain⟨v,q1,q2⟩:=hv2.get q;exact⟨v,by rw[q1];rfl,q2⟩
  ·have key:yh X.K μ1 (dW L H1) (λv H'=>(∀b o,L.lookup b=some o->H' b=none)->Q v (eO L H')) (G j (ds++as) (cj st1)):=by
    refine zql (bF.hide hL) ?_
    split at aR
    case h_2=>exact aR.elim
    rename_i d st2 WW
    split at aR
    case isFalse=>exact aR.elim
    rename_i hc;rw[WW];intro v H' μ' g oN zq hn';obtain⟨rfl,_⟩:=hc;obtain⟨ν,rfl⟩:=g.pre;have hν:ν=[]:=by
     have:=oN.len;rw[gK,bF.len,zk3]at this;exact List.eq_nil_of_length_eq_zero (by omega)
    subst hν;rw[gR]at oN zq;have ext:=hL.back g.ext hn';refine aR v (eO L H') μ1 ⟨⟨[],by simp⟩,ext⟩ (bF.Uo oN hn' ext) (zq.cC (λb xs q=>?_) d);cases z:L.lookup b with
    | none=>rw[v9 z];exact q
    | some o=>rw[hn' b o z]at q;cases q
   rw[hG]at key;unfold uI at key;rw[aeQ hlen]at key;cases hm:m ((ds++as).map some) (cj st1) with
   | bad=>rw[hm]at key;exact key.elim
   | err y st2=>rw[hm]at key;exact key.elim
   | ok d st2=>rw[hm]at key;exact key
 ·cases r with
  | error e=>exact False.elim hq
  | ok fl =>
   cases fl with
   | ret u=>exact I1.after hq
   | next=>exact False.elim hq
   | brk=>exact False.elim hq
   | cont=>exact False.elim hq
end
inductive LA where
 | v (d:D) | l (j:Nat) (cap:List Nat)
noncomputable abbrev ML:=aJ->ak->R (List LA)
noncomputable def jh(X:Cx)(l:fH):List (Str×Addr):=l.oG.map λx=>(x,(X.env.cells.lookup x).getD 0)
structure pZ(X:Cx)(l:fH)(cap:List Nat):Prop where
 nd:l.oG.Nodup
 cell:∀x∈l.oG,X.env.kindOf x=some .cell
 ix:cap.map (λi=>X.N[i]?)=l.oG.map some
def BK(X:Cx)(Λ:Nat->fH)(μ:List Addr)(H:Hp):LA->V->Prop
 | .v d,v=>ao X.K μ H d v
 | .l j cap,v=>pZ X (Λ j) cap/\∃f pm c' qR,v=.ref f/\H f=some (.frz (PySem.W.kla_obj "<lambda>" (Λ j).qual (Λ j).params (Λ j).body (Λ j).scope (jh X (Λ j)) pm c' qR) (.own 0))/\qY H c' (Λ j).qual
def iI(X:Cx)(Λ:Nat->fH)(μ:List Addr)(H:Hp):List LA->List V->Prop
 | [],vs=>vs=[]
 | a::r,vs=>∃v t,vs=v::t/\BK X Λ μ H a v/\iI X Λ μ H r t
noncomputable abbrev acS(X:Cx)(Λ:Nat->fH):Rel (List LA) (List V):=fun μ H d v=>iI X Λ μ H d v
section
variable  {X:Cx}{Λ:Nat->fH}{μ μ':List Addr}{H H':Hp}
theorem BK.mono(g:bf μ H μ' H'):∀{a:LA} {v:V},BK X Λ μ H a v->BK X Λ μ' H' a v
 | .v d,_,h=>ao.mono g d h
 | .l j cap,_,⟨h0,f,pm,c',qR,h1,h2,h3⟩=>⟨h0,f,pm,c',qR,h1,g.ext.frz _ _ _ h2,h3.ext g.ext⟩
theorem iI.mono(g:bf μ H μ' H'):∀{a:List LA} {v:List V},iI X Λ μ H a v->iI X Λ μ' H' a v
 | [],_,h=>h
 | a::r,_,⟨v,t,e,h1,h2⟩=>⟨v,t,e,h1.mono g,iI.mono g h2⟩
theorem iI.length:∀{a:List LA} {v:List V},iI X Λ μ H a v->a.length=v.length
 | [],_,h=>by have h:_=[]:=h;subst h;rfl
 | a::r,_,⟨v,t,e,h1,h2⟩=>by subst e;simp[iI.length h2]
end
noncomputable def tML(X:Cx)(Λ:Nat->fH)(m:ML):TA:=fun σ H Q=>∃μ env st,dJ X.K μ H env σ/\aV X.K μ H st/\bL X μ H (acS X Λ) Q (m env st)
def JL(X:Cx)(Λ:Nat->fH)(es:List Expr)(m:ML):Prop:=PA X es (tML X Λ m)
noncomputable def wG:ML:=λ_ st=>.ok [] st
noncomputable def oO(a:ME)(r:ML):ML:=λenv st=>(a env st).bind λx st1=>(r env st1).bind λxs st2=>.ok (.v x::xs) st2
noncomputable def lZ(j:Nat)(cap:List Nat)(k:Nat)(x:Str)(r:ML):ML:=λenv st=>match st[k]? with
 | some (.tab y)=>if y=x then (r env st).bind λxs st2=>.ok (.l j cap::xs) st2 else .bad
 | _=>.bad
def ab1(X:Cx)(x:Str):Prop:=X.env.qual=x ++ ".<locals>."/\∃(c fa:Addr) (o:Obj) (fd:FuncData),X.env.code=.ref c/\PySem.W.nsIn X.K mainGlobals x=some (some (.ref fa))/\X.K.lookup fa=some o/\o.data=.func fd/\fd.code=.ref c
section
variable  {X:Cx}{Λ:Nat->fH}{μ:List Addr}{H H':Hp}{st:ak}{e:Expr}{es:List Expr}{ma:ME}{m:ML}
def Jq:JL X Λ [] wG:=by
 refine λpos pins s σ H Q I zz=>?_;obtain⟨μ,env,st,hE,hs,hp⟩:=zz;exact yQ pos pins s σ H Q I (hp.ret hs rfl)
def Ax(h:JE X e ma)(hr:JL X Λ es m)(hs:starEach (e::es) X.env=(false,eval e X.env)::starEach es X.env:=by rfl):JL X Λ (e::es) (oO ma m):=by
 rintro pos pins s σ H Q I ⟨μ,env,st,hE,hs0,hp⟩;refine ZJ h hr hs pos pins s σ H Q I ⟨μ,env,st,hE,hs0,hp.bind.imp ?_⟩;rintro x H1 ⟨μ1,st1,d,g1,bF,hx,aR⟩;refine⟨μ1,env,st1,hE.mono g1,bF,aR.bind.imp ?_⟩;rintro xs H2 ⟨μ2,st2,ds,g2,iu,jd,dq⟩;exact dq.ret iu ⟨x,xs,rfl,hx.mono g2 _,jd⟩
def _root_.L2.uW.ext(n:uW H H' P f c' q ob)(hP:H P=some (.tbl ps)):Ext H H' :=
 ⟨λb xs e=>n.same b _ (λz=>by rw[z,hP]at e;cases e) e,λb o u e=>n.same b _ (λz=>by rw[z,hP]at e;cases e) e⟩
def aV.lam{P f c':Addr}{x:Str}{ob:Obj}{k:Nat}(hs:aV X.K μ H st)(hk:st[k]? = some (.tab x))(ha:μ[k]? = some P)(n:uW H H' P f c' (qG x) ob):aV X.K μ H' st:=by
 obtain⟨a,h1,h2⟩:=hs.at_ k _ hk;rw[ha]at h1;cases h1;obtain⟨Ec,ps,hP,_⟩:=h2;have ext:=n.ext hP;refine⟨hs.len,λi o e=>?_,hs.uniq⟩;obtain⟨b,q1,q2⟩:=hs.at_ i o e;refine⟨b,q1,?_⟩;by_cases hm:o.mut=true
 ·by_cases hb:b=P
  ·subst hb;have hik:=hs.uniq i k b o (.tab x) e hk hm rfl q1 ha;subst hik;rw[hk]at e;cases e;exact⟨Ec,n.tab⟩
  ·exact q2.keep ⟨⟨[],by simp⟩,ext⟩ λ_ u q=>n.same b u hb q
 ·exact q2.keep ⟨⟨[],by simp⟩,ext⟩ λz=>absurd z hm
def wK{x:Str}{j k:Nat}{cap:List Nat}{params:Arguments}{body:Expr}{scope:Scope}{pos:Pos}(hB:BMain X.mg X.base)(hT:ab1 X x)(hat:pZ X (Λ j) cap)(hq:(Λ j).qual=qG x)(hp:(Λ j).params=params)(hb:(Λ j).body=body)(hsc:(Λ j).scope=scope)
  (tW:closureFor scope X.env=pure (jh X (Λ j))) (hr:JL X Λ es m) (W5:defaultsOf params X.env=([],[]):=by rfl) (hs:starEach (.Lambda params body scope pos::es) X.env=(false,eval (.Lambda params body scope pos) X.env)::starEach es X.env:=by rfl) :
  JL X Λ (.Lambda params body scope pos::es) (lZ j cap k x m):=by
 subst hp hb hsc;rintro adf pins s σ H Q I ⟨μ,env,st,hE,hs0,hp⟩;unfold lZ at hp
 split at hp
 case h_2=>exact hp.elim
 rename_i y hk
 split at hp
 case isFalse=>exact hp.elim
 rename_i hy;subst hy;obtain⟨P,h1,h2⟩:=hs0.at_ k _ hk;obtain⟨⟨fa',o',fd',c',w1,w2,w3,w4,w5⟩,ps,w6,w7,w8⟩:=h2;obtain⟨abu,c,fa,o,fd,t1,t2,t3,t4,t5⟩:=hT;rw[t2]at w1;cases w1;rw[t3]at w2;cases w2;rw[t4]at w3;cases w3;rw[t5]at w4;cases w4;refine ZJ (Vo (P:=P) (c:=c') (q:=qG y) (clos:=jh X (Λ j)) hB t1 w5 (by rw[abu];rfl) tW W5) hr hs adf pins s σ H Q I ⟨⟨ps,w6,w7,w8⟩,λf c' pm qR H' n=>?_⟩;have g:bf μ H μ H':=⟨⟨[],by simp⟩,n.ext w6⟩;refine⟨μ,env,st,hE.mono g,hs0.lam hk h1 n,(bL.mono g hp).bind.imp ?_⟩;rintro xs H2 ⟨μ2,st2,ds,g2,iu,jd,dq⟩;refine dq.ret iu ⟨.ref f,xs,rfl,⟨hat,f,pm,c',qR,rfl,?_,?_⟩,jd⟩
 ·rw[hq];exact g2.ext.frz _ _ _ n.new
 ·rw[hq];exact n.code.ext g2.ext
end
noncomputable def cellAt(h:Heap)(c:Addr):Option Obj:=match h.get? c with
 | some o=>(match o.data with | .cell (some _)=>some o | _=>none)
 | none=>none
def zjr(e:cellAt h c=some o):h.get? c=some o/\∃u,o.data=.cell (some u):=by
 unfold cellAt at e
 split at e
 ·rename_i o' h1
  split at e
  ·rename_i u h2;cases e;exact⟨h1,u,h2⟩
  ·cases e
 ·cases e
def Et(h1:h.get? c=some o)(h2:o.data=.cell (some u)):cellAt h c=some o:=by
 unfold cellAt;rw[h1];dsimp only;rw[h2]
noncomputable def lG(cl:List (Str×Addr))(h:Heap):List Str->List (Addr×Obj)
 | []=>[]
 | x::r=>match cl.lookup x with
  | some c=>(match cellAt h c with | some o=>(c,o)::lG cl h r | none=>lG cl h r)
  | none=>lG cl h r
theorem zh0:∀{xs:List Str},(lG cl h xs).lookup b=some o->cellAt h b=some o/\∃x,cl.lookup x=some b
 | [],e=>by cases e
 | x::r,e=>by
  unfold lG at e
  split at e
  ·rename_i c hc
   split at e
   ·rename_i o' ho;rw[km]at e;by_cases hb:(b==c)=true
    ·simp only[hb]at e;cases e;obtain rfl:=eq_of_beq hb;exact⟨ho,x,hc⟩
    ·simp only[show (b==c)=false by simpa using hb]at e;exact zh0 e
   ·exact zh0 e
  ·exact zh0 e
theorem zmf(hx:cl.lookup x=some b)(ho:cellAt h b=some o):∀{xs:List Str},x∈xs->(lG cl h xs).lookup b=some o
 | [],e=>by cases e
 | y::r,e=>by
  unfold lG;by_cases hy:x=y
  ·subst hy;rw[hx];dsimp only;rw[ho];dsimp only;rw[km];simp
  ·have e:=zmf hx ho (xs:=r) (by simpa[hy] using e)
   split
   ·rename_i c hc
    split
    ·rename_i o' Mm;rw[km];by_cases hb:(b==c)=true
     ·simp only[hb];obtain rfl:=eq_of_beq hb;rw[ho]at Mm;exact Mm.symm
     ·simp only[show (b==c)=false by simpa using hb];exact e
    ·exact e
   ·exact e
noncomputable def yd:List Nat->aJ->Option (List D)
 | [],_=>some []
 | i::r,env=>match env[i]? with
  | some (some d)=>(match yd r env with | some ds=>some (d::ds) | none=>none)
  | _=>none
noncomputable def jG(Λ:Nat->fH)(env:aJ):Nat->List LA->Option (List D×List MO)
 | _,[]=>some ([],[])
 | n,.v d::r=>(match jG Λ env n r with | some (ds,os)=>some (d::ds,os) | none=>none)
 | n,.l j cap::r=>(match yd cap env with
  | some cs=>(match jG Λ env (n+1) r with | some (ds,os)=>some (.loc n::ds,.clo j (Λ j) cs::os) | none=>none)
  | none=>none)
def bJ(st:ak):Prop:=∀o∈st,o.d_=false
open Classical in
noncomputable def lJ(Λ:Nat->fH)(F:FD)(dd:List D)(m:ML):ME:=λenv st=>(m env st).bind λas st1=>if bJ st1 then (match jG Λ env st1.length as with
 | some (ds,os)=>(match gc st1 (F (ds++dd) (st1++os)) with
  | .ok d st2=>if bJ st2 then .ok d st2 else .bad
  | _=>.bad)
 | none=>.bad) else .bad
def aV.snoc(h:aV K μ H st)(hm:o.mut=false)(ho:fU K (μ++[a]) H a o):aV K (μ++[a]) H (st++[o]):=by
 have key:∀(n:Nat) (on:MO) (c:Addr),(st++[o])[n]? = some on->on.mut=true->(μ++[a])[n]? = some c->st[n]? = some on/\μ[n]? = some c:=λn on c e1 hmn e2=>by
  by_cases hn:n<st.length
  ·rw[gJ hn]at e1;rw[gJ (by rw[h.len];exact hn)]at e2;exact⟨e1,e2⟩
  ·rw[kh (by omega)]at e1;have:=gU e1;simp at this;subst this;rw[hm]at hmn;cases hmn
 refine⟨by simp[h.len],λn on e1=>?_,λi j c oi oj ei ej mi mj hi hj=>?_⟩
 ·by_cases hn:n<st.length
  ·rw[gJ hn]at e1;obtain⟨b,q1,q2⟩:=h.at_ n on e1;exact⟨b,by rw[gJ (by rw[h.len];exact hn)];exact q1,q2.up _⟩
  ·have hl:=(gh.mp e1).1;rw[gK,nF]at hl;have en:n=st.length:=by omega
   subst en;rw[kh (gb _)]at e1;simp at e1;subst e1;exact⟨a,by rw[<-h.len];simp,ho⟩
 ·obtain⟨a1,a2⟩:=key i oi c ei mi hi;obtain⟨b1,b2⟩:=key j oj c ej mj hj;exact h.uniq i j c oi oj a1 b1 mi mj a2 b2
def aV.del(hL:qZ L H)(hc:bJ st)(h:aV K μ H st):aV K μ (dW L H) st :=
 ⟨h.len,λn o e=>let ⟨a,h1,h2⟩:=h.at_ n o e;⟨a,h1,h2.del hL (hc o (gU e))⟩,h.uniq⟩
section
variable  {X:Cx}{Λ:Nat->fH}{H:Hp}{env:aJ}
theorem znj(yw:∀l cap,pZ X l cap->((jh X l).map (·.2)).Nodup):∀{as:List LA} {vs:List V} {μ:List Addr} {st:ak} {n:Nat} {ds:List D} {os:List MO},(∀l cap,pZ X l cap->∀cs,yd cap env=some cs->∃vs,fj H (jh X l) vs/\aq X.K μ H cs vs)->jG Λ env n as=some (ds,os)->iI X Λ μ H as vs->aV X.K μ H st->n=st.length ->
  ∃ν,aV X.K (μ++ν) H (st++os)/\aq X.K (μ++ν) H ds vs
 | [],vs,μ,st,n,ds,os,hc,e,h,hs,hn=>by
  cases e;have h:vs=[]:=h;subst h;exact⟨[],by simpa using hs,aq.nil⟩
 | .v d::r,_,μ,st,n,ds,os,hc,e,⟨v,t,rfl,h1,h2⟩,hs,hn=>by
  unfold jG at e
  split at e
  ·rename_i Zf YF e';cases e;obtain⟨ν,q1,q2⟩:=znj yw hc e' h2 hs hn;exact⟨ν,q1,aq.cons (ao.mono ⟨⟨ν,rfl⟩,.refl H⟩ d h1) q2⟩
  ·cases e
 | .l j cap::r,_,μ,st,n,ds,os,hc,e,⟨v,t,rfl,hla,h2⟩,hs,hn=>by
  obtain⟨h0,f,pm,c',qR,rfl,h3,h4⟩:=hla;unfold jG at e
  split at e
  ·rename_i cs ec
   split at e
   ·rename_i Zf YF e';cases e;obtain⟨vs,q1,q2⟩:=hc _ cap h0 cs ec;have g:bf μ H (μ++[f]) H:=⟨⟨[f],rfl⟩,.refl H⟩;have bF:aV X.K (μ++[f]) H (st++[.clo j (Λ j) cs]):=hs.snoc rfl ⟨jh X (Λ j),pm,c',qR,vs,h3,h4,by simp[jh,Function.comp_def],yw _ cap h0,q1,q2.mono g _⟩;obtain⟨ν,r1,r2⟩:=znj yw (μ:=μ++[f]) (λl cap hl cs ec=>let ⟨vs,a1,a2⟩:=hc l cap hl cs ec;⟨vs,a1,a2.mono g _⟩) e' (h2.mono g) bF (by simp[hn]);refine⟨f::ν,by simpa using r1,aq.cons (ao.aH.mpr ⟨f,?_,rfl⟩) (by simpa using r2)⟩;rw[hn,<-hs.len];simp
   ·cases e
  ·cases e
end
section
variable  {X:Cx}{Λ:Nat->fH}{e:Expr}{es:List Expr}{m:ML}{pos p:Pos}{x:Str}{k:Nat}{f:Addr}{fd:FuncData}{ps:List Str}{F:FD}{lF:List V}{ds:List Value}{dd:List D}
def QW(I:Inv X pins σ H s)(h:pZ X l cap):((jh X l).map (·.2)).Nodup:=by
 unfold jh;rw[gG];have key:∀xs:List Str,xs.Nodup->(∀x∈xs,X.env.kindOf x=some .cell)->(xs.map ((λp:Str×Addr=>p.2)∘λx=>(x,(X.env.cells.lookup x).getD 0))).Nodup:=by
  intro xs
  induction xs with
  | nil=>intros;simp
  | cons x xs ih =>
   intro nd hc;rw[my]at nd;rw[gw,my];refine⟨λhm=>?_,ih nd.2 λy hy=>hc y (by simp[hy])⟩;obtain⟨y,hy,e⟩:=gj.mp hm;obtain⟨c,h1⟩:=I.ok.has x (.inl (hc x (by simp)));obtain⟨c2,h2⟩:=I.ok.has y (.inl (hc y (by simp[hy])));simp only[Function.comp,h1,h2,Option.getD_some]at e;subst e;have:=I.ok.inj x y _ h1 h2;subst this;exact nd.1 hy
 exact key _ h.nd h.cell
def KQ(I:Inv X pins σ H s)(hE:dJ X.K μ H2 env σ)(hc:∀x b o,X.env.cells.lookup x=some b->cellAt s.heap b=some o->H2 b=some (.frz o (.own 0)))(h:pZ X l cap)(e:yd cap env=some cs) :
  ∃vs,fj H2 (jh X l) vs/\aq X.K μ H2 cs vs:=by
 obtain⟨mm,Ef,hl⟩:=I.loc;have key:∀(xs:List Str) (cap:List Nat) (cs:List D),(∀x∈xs,X.env.kindOf x=some .cell)->cap.map (λi=>X.N[i]?)=xs.map some->yd cap env=some cs->∃vs,fj H2 (xs.map λx=>(x,(X.env.cells.lookup x).getD 0)) vs/\aq X.K μ H2 cs vs:=by
  intro xs
  induction xs with
  | nil =>
   intro cap cs _ hx e;cases cap with
   | nil=>cases e;exact⟨[],rfl,aq.nil⟩
   | cons i cap=>cases hx
  | cons x xs ih =>
   intro cap cs hk hx e;cases cap with
   | nil=>cases hx
   | cons i cap =>
    rw[gw,gw]at hx;obtain⟨hx1,hx2⟩:=List.cons.inj hx;unfold yd at e
    split at e
    ·rename_i d ed
     split at e
     ·rename_i cs' ec;cases e;obtain⟨vs,a1,a2⟩:=ih cap cs' (λy hy=>hk y (by simp[hy])) hx2 ec;obtain⟨v,b1,b2⟩:=hE.at_ i d ed;have hkx:=hk x (by simp);obtain⟨u,r,lk⟩:=hl i x v hx1 b1 (.inr (.inl hkx));rcases lk with⟨z,_⟩ | ⟨_,c,W7,o,ho,hd⟩
      ·rw[hkx]at z;cases z
      ·refine⟨v::vs,⟨v,vs,o,u,rfl,?_,hd,r,a1⟩,aq.cons b2 a2⟩;have:((X.env.cells.lookup x).getD 0)=c:=by rw[W7];rfl
       rw[this];exact hc x c o W7 (Et ho hd)
     ·cases e
    ·cases e
 exact key l.oG cap cs h.cell h.ix e
def DX(G:cQ X.prog X.w X.K X.mg X.base rn k f fd ps (vV X.K ps.length F))(hr:cR k X.A)(hm:X.mg x=some (.ref f))(hk:PySem.W.keepIn X.K (.ref f)=true)(hb:Binds X.K fd ps ds)(hd:Vals lF ds)
  (hdd:∀μ H,aq X.K μ H dd lF) (ha:JL X Λ (e::es) m) (WX:∀x,X.fn x=true) (hlen:(e::es).length+lF.length=ps.length:=by rfl) (hg:Gl X x:=by rfl) (qK:(x==("__debug__":Str))=false:=by decide) (he:starEach (e::es) X.env=(false,eval e X.env)::starEach es X.env:=by rfl) (ou:(backTo pos (starEach es X.env)).any (·.1)=false:=by rfl)
  (hA:∀env st as st1,m env st=.ok as st1->as.length=(e::es).length) :
  JE X (.Call (.Name x p) (e::es) [] pos) (lJ Λ F dd m):=by
 rintro pins s σ H Q I ⟨μ,env,st,hE,hs,hp⟩;refine ae5 (ZK I hg hm ?_ qK);unfold lJ at hp;cases Y9:m env st with
 | bad=>rw[Y9]at hp;exact hp.elim
 | err y st1 =>
  rw[Y9]at hp;refine afd (h₀:=X.base) I.ok.mod.VN hk (cH (ha pos pins s σ H (λ_ _=>False) I ⟨μ,env,st,hE,hs,by rw[Y9];exact hp⟩) λus s1 zz=>?_) he ou;obtain⟨vs,H1,I1,r,q⟩:=zz;exact q.elim
 | ok as st1 =>
 have hal:=hA env st as st1 Y9;rw[Y9,R.aB]at hp
 split at hp
 case isFalse=>exact hp.elim
 rename_i hnc
 split at hp
 case h_2=>exact hp.elim
 rename_i as' os adK
 split at hp
 case h_2=>exact hp.elim
 rename_i d st2 WW
 split at hp
 case isFalse=>exact hp.elim
 rename_i adO;refine afd (h₀:=X.base) I.ok.mod.VN hk (cH (ha pos pins s σ H (λvs H1=>∃μ1,bf μ H μ1 H1/\aV X.K μ1 H1 st1/\iI X Λ μ1 H1 as vs) I ⟨μ,env,st,hE,hs,?_⟩) λus s1 ⟨vs,H1,I1,r,μ1,g1,bF,Wz⟩=>⟨I1.qb,?_⟩) he ou
 ·rw[Y9];exact λvs H1 μ1 g1 bF Wz=>⟨μ1,g1,bF,Wz⟩
 ·let L:=lG X.env.cells s1.heap (X.env.cells.map (·.1))
  have lin:∀b o,L.lookup b=some o->cellAt s1.heap b=some o/\∃x,X.env.cells.lookup x=some b:=λb o e=>zh0 e;have nL:∀b o,L.lookup b=some o->H1 b=none:=λb o e=>let ⟨_,x,hx⟩:=lin b o e;I1.jr x b hx;have HJ:∀b u,H1 b=some u->L.lookup b=none:=λb u e=>by
   cases z:L.lookup b with
   | none=>rfl
   | some o=>rw[nL b o z]at e;cases e
  have Xe:Ext H1 (eO L H1):=⟨λb xs e=>by rw[v9 (HJ b _ e)];exact e,λb o u e=>by rw[v9 (HJ b _ e)];exact e⟩;have gA:bf μ1 H1 μ1 (eO L H1):=⟨⟨[],by simp⟩,Xe⟩;have hsA:aV X.K μ1 (eO L H1) st1:=⟨bF.len,λn o e=>let ⟨a,h1,h2⟩:=bF.at_ n o e;⟨a,h1,h2.keep gA λ_ u q=>by rw[v9 (HJ a u q)];exact q⟩,bF.uniq⟩;have hcA:∀x b o,X.env.cells.lookup x=some b->cellAt s1.heap b=some o->eO L H1 b=some (.frz o (.own 0)):=λx b o hx ho =>
   ZQ (zmf hx ho (gj.mpr ⟨(x,b),aeW hx,rfl⟩))
  obtain⟨ν,hsN,hvN⟩:=znj (Λ:=Λ) (H:=eO L H1) (env:=env) (λl cap h=>QW I1 h) (λl cap h cs ec=>KQ I1 ((hE.mono g1).mono gA) hcA h ec) adK (Wz.mono gA) hsA rfl;refine Nt (L:=L) G hr hb hd I1 (λb o e=>?_) r ⟨?_,μ1++ν,as'++dd,st1++os,hvN.append (hdd _ _),hsN,?_⟩
  ·obtain⟨h1,x,h2⟩:=lin b o e;exact⟨(zjr h1).1,x,h2,WX x⟩
  ·rw[gK,<-Wz.length,hal];exact hlen
  ·have key:yh X.K μ1 (eO L H1) (λv H'=>Q v (dW L H')) (F (as'++dd) (st1++os)):=by
    refine zql hsA ?_;rw[WW];intro v H' μ' g oN zq;have hL:qZ L H':=λb o e=>⟨g.ext.frz b o _ (ZQ e),(zjr (lin b o e).1).2⟩;have ext:Ext H1 (dW L H'):=⟨λb xs e=>by rw[BZ (HJ b _ e)];exact g.ext.tup b xs (Xe.tup b xs e),λb o u e=>by rw[BZ (HJ b _ e)];exact g.ext.frz b o u (Xe.frz b o u e)⟩;exact hp v (dW L H') μ' ⟨g1.trans ⟨g.pre,ext⟩ |>.pre,(g1.trans ⟨g.pre,ext⟩).ext⟩ (oN.del hL adO) (zq.cC (λb xs q=>hL.del q λ_ z=>nomatch z) d)
   have gN:bf μ1 (eO L H1) (μ1++ν) (eO L H1):=⟨⟨ν,rfl⟩,.refl _⟩;cases hF:F (as'++dd) (st1++os) with
   | bad=>rw[hF]at key;exact key.elim
   | err y fV=>rw[hF]at key;exact key.elim
   | ok d3 fV =>
    rw[hF]at key;exact λv H' μ' g oN zq=>key v H' μ' (gN.trans g) oN zq
end
end M
namespace M
open PySem PySem.Spec L2 PyProof.Rows
structure Lh(K:PySem.W.Frag)(x:Str)(P:Addr):Prop where
 code:∃(fa:Addr) (o:Obj) (fd:FuncData) (c:Addr),PySem.W.nsIn K mainGlobals x=some (some (.ref fa))/\K.lookup fa=some o/\o.data=.func fd/\fd.code=.ref c/\PySem.W.codeHdIn K c P=true
 out:K.lookup P=none
def Dz{P:Program}{w:World}{K:PySem.W.Frag}{mg mb:Str->Option Value}{k:Nat}{fa a:Addr}{fd:FuncData}{x:Str}{sp:Sp}{aeF:Shared}{vs:List Value}{ns:List Int}{ts:List (Str×Addr)}
  (KX:K.In aeF.heap) (Ef:aeF.heap.Ns mainGlobals mg) (hb:aeF.heap.Ns builtinsNs mb) (hbb:∀x:Str,x ≠ "__name__"->mb x=bootBuiltins x) (adR:aeF.heap.NoLimit) (hg:aeF.gens=#[])
  (hbm:∃bm ob,mg "__builtins__" = some (.ref bm)/\bm≠builtinsNs/\aeF.heap.get? bm=some ob/\ob.cls=.type "module"/\ob.dict=some builtinsNs/\ob.data=.plain)
  (ht:∀p∈ts,aeF.heap.get? p.2=some (PySem.W.tabObj #[])) (hk:∀p∈ts,Lh K p.1 p.2)
  (ha:aeF.heap.get? a=some { cls:=.type "list",data:=.seq vs.toArray }) (hi:IntsAre vs ns) (hl:ns.length<=sizeLine) (hr:cR k callerA)
  (F:∀base:Heap,K.In base->base.Ns mainGlobals mg->BMain mg base->cQ P w K mg base rn k fa fd [x] sp) (abB:∀(s:Shared) (u:Value),BindsTo s fd ⟨[u],[]⟩ [(x,u)])
  (Y5:∀H:Hp,wZ K H a (ns.map V.int)->(∀p∈ts,H p.2=some (.tbl #[]))->sp [.ref a] H (λv _=>v=.bl true) λ_ _ _=>False) :
  codeAny (model P w) callerA (.call (.ref fa) ⟨[.ref a],[]⟩) (λr s'=>r=.ok (.ret (.bool true))/\OldK aeF.heap s'.heap/\s'.os=aeF.os/\AllBare s'.gens) aeF:=by
 have rv:=zpg hi;have vI:=hi.length;have core:∀H:Hp,wZ K H a (ns.map V.int)->(∀p∈ts,H p.2=some (.tbl #[]))->jX P w H aeF.heap->(∀b u,H b=some u->(b=a/\K.lookup a=none/\∃o xs,u=.frz o (.lst xs))\/(∃p∈ts,b=p.2/\u=.tbl #[])) ->
   codeAny (model P w) callerA (.call (.ref fa) ⟨[.ref a],[]⟩) (λr s'=>r=.ok (.ret (.bool true))/\OldK aeF.heap s'.heap/\s'.os=aeF.os/\AllBare s'.gens) aeF:=by
  intro H hS hT bN hA;have wW:∀{b:Addr} {o:Obj},aeF.heap.get? b=some o->H b=none->(vM aeF.heap H).get? b=some o:=λe n=>J2 e n;have noH:∀{b:Addr} {o:Obj},aeF.heap.get? b=some o->o.cls≠.type "list"->(∀vs,o.data≠.fields vs)->H b=none:=λ{b o} e d1 d2=>by
   cases q:H b with
   | none=>rfl
   | some u =>
    rcases hA b u q with⟨rfl,_⟩ | ⟨p,hp,rfl,_⟩
    ·rw[ha]at e;cases e;exact absurd rfl d1
    ·rw[ht p hp]at e;cases e;exact absurd rfl (d2 _)
  have Pa:∀{b:Addr} {o:Obj} {es:Array DictEntry} {ep:Nat},aeF.heap.get? b=some o->o.data=.dict es ep->H b=none:=λ{b o es ep} e d=>by
   cases q:H b with
   | none=>rfl
   | some u =>
    rcases hA b u q with⟨rfl,_⟩ | ⟨p,hp,rfl,_⟩
    ·rw[ha]at e;cases e;have d':Data.seq vs.toArray _=Data.dict es ep:=d;cases d'
    ·rw[ht p hp]at e;cases e;have d':Data.fields #[]=Data.dict es ep:=d;cases d'
  have nsK:∀{b:Addr} {m:Str->Option Value},aeF.heap.Ns b m->(vM aeF.heap H).Ns b m:=λ{b m} ⟨o,es,ep,e,d,r⟩=>⟨o,es,ep,wW e (Pa e d),d,r⟩;have hKb:K.In (vM aeF.heap H):=λb o e=>wW (KX b o e) (by
   cases q:H b with
   | none=>rfl
   | some u =>
    rcases hA b u q with⟨rfl,z,_⟩ | ⟨p,hp,rfl,_⟩
    ·rw[z]at e;cases e
    ·rw[(hk p hp).out]at e;cases e)
  have hM:Mod K mg (vM aeF.heap H):=⟨hKb,nsK Ef,⟨mb,nsK hb,hbb⟩,let ⟨mc,h1,h2⟩:=adR;⟨mc,nsK h1,h2⟩⟩;have e0:xg P w K mg (vM aeF.heap H) callerA [] aeF H:=⟨rfl,hM,λb o e=>O8 e,Nat.le_of_eq (Eg _ _),trivial,λb hb=>absurd (show b∈([]:List Addr) from hb) (by simp),bN,.of_eq hg⟩;have hBM:BMain mg (vM aeF.heap H):=by
   obtain⟨bm,ob,b1,b2,b3,b4,b5,b6⟩:=hbm;refine⟨bm,ob,b1,b2,λz=>?_,wW b3 (noH b3 (by rw[b4];simp) λvs z=>by rw[b6]at z;cases z),b4,b5,b6⟩;obtain⟨o,es,ep,e,d,_⟩:=Ef;rw[<-z,b3]at e;cases e;rw[b6]at d;cases d
  refine afv ((F _ hKb (nsK Ef) hBM).run callerA [] aeF H ⟨[.ref a],[]⟩ [.ref a] [.ref a] _ _ hr e0 (abB aeF (.ref a)) (.cons rfl .nil) (Y5 H hS hT)) λr s' h=>?_;cases r with
  | error e=>exact False.elim h
  | ok fl =>
   cases fl with
   | next=>exact False.elim h
   | brk=>exact False.elim h
   | cont=>exact False.elim h
   | ret u =>
    obtain⟨v,H',os,bare,un,abw,r',q⟩:=h;have q':v=.bl true:=q;subst q';obtain rfl:u=Value.bool true:=r';refine⟨rfl,⟨λb o e=>?_,λb o e=>un.there b o e (by simp)⟩,os,bare⟩;cases q:H b with
    | none=>exact .inl (un.keep b o e q (by intro z;exact absurd (show b∈([]:List Addr) from z) (by simp)) (by simp))
    | some u =>
     rcases hA b u q with⟨rfl,_,ob,xs,rfl⟩ | ⟨p,hp,rfl,rfl⟩
     ·have z2:=un.rR _ ob _ q;obtain⟨e1,_⟩:=bN _ _ q;obtain⟨e2,_⟩:=abw _ _ z2;rw[e]at e1;cases e1;exact .inl e2
     ·obtain⟨more,z2⟩:=un.tL p.2 #[] q;have e2:s'.heap.get? p.2=some (PySem.W.tabObj (#[]++more)):=abw _ _ z2;obtain⟨_,_,_,c,_,_,_,_,xV⟩:=(hk p hp).code;have hTA:=(PySem.W.codeHd_of_K KX xV).tab (ht p hp);rw[ht p hp]at e;cases e;exact .inr (.inl ⟨hTA.isCodeTable,rfl,#[],more,rfl,e2⟩)
 have nt:∀p∈ts,p.2≠a:=λp hp z=>by
  have:=ht p hp;rw[z,ha]at this;cases this
 cases hka:K.lookup a with
 | some o =>
  have e:=KX a o hka;rw[ha]at e;cases e
  let H:Hp:=λb=>if (ts.map (·.2)).contains b=true then some (.tbl #[]) else none
  have hin:∀p∈ts,H p.2=some (.tbl #[]):=λp hp=>aeQ (by simp;exact⟨p.1,hp⟩);refine core H (.inr ⟨_,vs.toArray,_,hka,rfl,rfl,rfl,by rw[gC,vI];exact hl,by simpa using rv⟩) hin (λb u z=>?_) λb u z=>?_
  ·by_cases hb:(ts.map (·.2)).contains b=true
   ·have z:(if (ts.map (·.2)).contains b=true then some (HO.tbl #[]) else none)=some u:=z;rw[aeQ hb]at z;cases z;obtain⟨p,hp,rfl⟩:=gj.mp (pL.mp hb);exact ht p hp
   ·have z:(if (ts.map (·.2)).contains b=true then some (HO.tbl #[]) else none)=some u:=z;rw[aeS hb]at z;cases z
  ·by_cases hb:(ts.map (·.2)).contains b=true
   ·have z:(if (ts.map (·.2)).contains b=true then some (HO.tbl #[]) else none)=some u:=z;rw[aeQ hb]at z;cases z;obtain⟨p,hp,rfl⟩:=gj.mp (pL.mp hb);exact .inr ⟨p,hp,rfl,rfl⟩
   ·have z:(if (ts.map (·.2)).contains b=true then some (HO.tbl #[]) else none)=some u:=z;rw[aeS hb]at z;cases z
 | none =>
  let H:Hp:=λb=>if b=a then some (.frz { cls:=.type "list",data:=.seq vs.toArray } (.lst (ns.map V.int))) else if (ts.map (·.2)).contains b=true then some (.tbl #[]) else none
  have hin:∀p∈ts,H p.2=some (.tbl #[]):=λp hp=>(aeS (nt p hp)).trans (aeQ (by simp;exact⟨p.1,hp⟩));have hat:H a=some (.frz { cls:=.type "list",data:=.seq vs.toArray } (.lst (ns.map V.int))):=aeQ rfl;have SM:∀b u,H b=some u->(b=a/\u=.frz { cls:=.type "list",data:=.seq vs.toArray } (.lst (ns.map V.int)))\/∃p∈ts,b=p.2/\u=.tbl #[]:=λb u z=>by
   by_cases hba:b=a
   ·subst hba;rw[hat]at z;cases z;exact .inl ⟨rfl,rfl⟩
   ·have z:(if b=a then some (HO.frz { cls:=.type "list",data:=.seq vs.toArray } (.lst (ns.map V.int))) else if (ts.map (·.2)).contains b=true then some (HO.tbl #[]) else none)=some u:=z;rw[aeS hba]at z;by_cases hb:(ts.map (·.2)).contains b=true
    ·rw[aeQ hb]at z;cases z;obtain⟨p,hp,rfl⟩:=gj.mp (pL.mp hb);exact .inr ⟨p,hp,rfl,rfl⟩
    ·rw[aeS hb]at z;cases z
  refine core H (.inl ⟨_,hat⟩) hin (λb u z=>?_) λb u z=>?_
  ·rcases SM b u z with⟨rfl,rfl⟩ | ⟨p,hp,rfl,rfl⟩
   ·exact⟨ha,by rw[gm];exact hl,vs,_,rv,ha⟩
   ·exact ht p hp
  ·rcases SM b u z with⟨rfl,rfl⟩ | h
   ·exact .inl ⟨rfl,hka,_,_,rfl⟩
   ·exact .inr h
def zqg{K:PySem.W.Frag}{H:Hp}{a:Addr}{ns:List Int}{ts:List (Str×Addr)}(yw:(ts.map (·.2)).Nodup)(hS:wZ K H a (ns.map V.int))(hT:∀p∈ts,H p.2=some (.tbl #[]))(hk:∀p∈ts,Lh K p.1 p.2) :
  aV K (a::ts.map (·.2)) H (.frz (ns.map D.int)::ts.map λp=>.tab p.1):=by
 have hv:∀(μ:List Addr) (l:List Int),aq K μ H (l.map D.int) (l.map V.int):=fun μ l=>by
  induction l with
  | nil=>exact aq.nil
  | cons i l ih=>exact aq.cons (ao.aN.mpr rfl) ih
 refine⟨by simp,λn o e=>?_,λi j b oi oj ei ej mi mj hi hj=>?_⟩
 ·match n,e with
  | 0,e =>
   simp at e;subst e;exact⟨a,rfl,_,hS,hv _ ns⟩
  | n+1,e =>
   rw[mU,gB]at e;cases q:ts[n]? with
   | none=>rw[q]at e;cases e
   | some p =>
    rw[q]at e;cases e;have hp:=gU q;refine⟨p.2,by rw[mU,gB,q];rfl,(hk p hp).code,#[],hT p hp,trivial,λpos cv z=>by cases z⟩
 ·match i,j,ei,ej,hi,hj with
  | 0,_,ei,_,_,_=>simp at ei;subst ei;cases mi
  | _+1,0,_,ej,_,_=>simp at ej;subst ej;cases mj
  | i+1,j+1,_,_,hi,hj =>
   rw[mU]at hi hj;have h1:=(gh.mp hi).1;rw[(nH h1 yw).mp (hi.trans hj.symm)]
def holds_ofT(ts:List (Str×Addr)){l:PySem.W.OpenLaw}{k:Nat}{q:Program}{loose:List Str}{XP:(Str->Option Value)->Heap->Prop}{YP:World->Heap->Prop}{d:DefRec}{K:Params->PySem.W.Frag}{F:FD}{x:Str}
  (hn:l.most=some 63) (hdf:d.params.defaults=[]) (hr:cR k callerA) (yw:(ts.map (·.2)).Nodup)
  (hY:∀(w:World) (h:Heap),YP w h->(K w.params).In h/\∀P∈ts.map (·.2),h.get? P=some (PySem.W.tabObj #[]))
  (G:∀(w:World) (mg:Str->Option Value) (fa:Addr) (h:Heap),(K w.params).In h->h.Ns mainGlobals mg->mg d.name=some (.ref fa) ->
   ∃fd:FuncData,(∀(s:Shared) (u:Value),BindsTo s fd ⟨[u],[]⟩ [(x,u)])/\(∀p∈ts,Lh (K w.params) p.1 p.2)/\∀base:Heap,(K w.params).In base->base.Ns mainGlobals mg->BMain mg base->cQ l.prog w (K w.params) mg base rn k fa fd [x] (vV (K w.params) 1 F))
  (hF:∀ns:List Int,ns.length<=63->∃st,F [.loc 0] (.frz (ns.map D.int)::ts.map λp=>.tab p.1)=.ok (.bl true) st) :
  PySem.W.WalkO q loose XP YP l.row.toRowW d [] (λf vs=>PySem.call f vs):=by
 refine Zw.zqe hn hdf λw aeG aeF mg mb fa o pm cd doc a vs ns G0 Y ho hd xV hmg WM hints hlen hg=>?_;obtain⟨KX,hT⟩:=hY w _ Y;obtain⟨fd,hb,hk,hF'⟩:=G w mg fa _ KX G0.T.g hmg;refine Dz (ts:=ts) KX G0.T.g G0.T.b G0.T.builtins G0.T.nolimit hg G0.T.bmain (λp hp=>hT p.2 (gj.mpr ⟨p,hp,rfl⟩)) hk WM hints (h_ hlen (by decide)) hr hF' hb λH hS hTb=>?_;obtain⟨st,e⟩:=hF ns hlen;refine⟨rfl,a::ts.map (·.2),[.loc 0],_,aq.cons (ao.aH.mpr ⟨a,rfl,rfl⟩) aq.nil,zqg yw hS hTb hk,?_⟩;rw[e];exact λv H' μ' _ _ hv=>ao.bA.mp hv
structure zG(K:PySem.W.Frag)(x:Str)(st:Stmt)(f:Addr)(fd:FuncData):Prop where
 ex:∃(oc:Value) (od:Option Addr) (dV kV doc pm:Value) (an:Option Addr) (c:Addr) (ct:Value) (xr:Array (Option Value)),
  fd=PySem.W.fnOf x x (dj st) (bQ st) (aF st) dV kV doc pm an (.ref c) ct/\K.lookup f=some ⟨oc,od,.func fd,xr⟩/\PySem.W.codeIn K (.ref c) x=true
 ns:PySem.W.nsIn K mainGlobals x=some (some (.ref f))
 kp:PySem.W.keepIn K (.ref f)=true
def Ke{P:Program}{w:World}{K:PySem.W.Frag}{mg:Str->Option Value}{base:Heap}{x:Str}{st:Stmt}{f:Addr}{fd:FuncData}{N ps:List Str}{k:Nat}{m:MS}(F:zG K x st f fd)(S:dX N ps (aF st))
  (qM:∀(iw:Value) (A:Around) (outer:List Env) (s:Shared) (H:Hp),cR k (A.deeper (PyProof.Rows.envOfC x (aF st) s.heap.objs.size f iw)) ->
   ab1 (vQ rn P w K mg base N x (aF st) f iw A outer s H E0).O_ x->yD (vQ rn P w K mg base N x (aF st) f iw A outer s H E0).O_ (bQ st) m):cQ P w K mg base rn (k+1) f fd ps (vV K ps.length (bw N.length m)):=by
 obtain⟨oc,od,dV,kV,doc,pm,an,c,ct,xr,rfl,lk,xV⟩:=F.ex;refine S_ lk xV S (λvs H Q E h=>h.1) λA outer s H vs Q E hr h=>?_;obtain⟨hl,μ,ds,sto,hv,hs,hp⟩:=h;have hb:=qM (.ref c) A outer s H hr ⟨rfl,c,f,_,_,rfl,F.ns,lk,rfl,rfl⟩;refine⟨_,yC.O_ hb,μ,startM N.length ds,sto,aq.start N hv,hs,?_⟩;unfold bw at hp;cases hr:m (startM N.length ds) sto with
 | bad=>rw[hr]at hp;exact hp.elim
 | err x st1=>rw[hr]at hp;exact hp.elim
 | ok o st1 =>
  rw[hr]at hp;cases o with
  | rt d=>exact hp
  | nx env=>exact fun σ' H' μ' g oN _=>hp .non H' μ' g oN (ao.bK.mpr rfl)
  | bk env=>exact hp.elim
  | cn env=>exact hp.elim
def Bd{K:PySem.W.Frag}{x:Str}{st:Stmt}{f:Addr}{oc:Value}{od an:Option Addr}{xr:Array (Option Value)}{dV kV doc pm ct:Value}{c:Addr}(n:PySem.W.nsIn K mainGlobals x=some (some (.ref f)))(l:K.lookup f=some ⟨oc,od,.func (PySem.W.fnOf x x (dj st) (bQ st) (aF st) dV kV doc pm an (.ref c) ct),xr⟩)
  (h:PySem.W.codeIn K (.ref c) x=true) (k:PySem.W.keepIn K (.ref f)=true):zG K x st f (PySem.W.fnOf x x (dj st) (bQ st) (aF st) dV kV doc pm an (.ref c) ct):=⟨⟨oc,od,dV,kV,doc,pm,an,c,ct,xr,rfl,l,h⟩,n,k⟩
def zG.aag{K:PySem.W.Frag}{x:Str}{f P:Addr}{oc:Value}{od an:Option Addr}{xr:Array (Option Value)}{name qual:Str}{params:Arguments}{body:List Stmt}{scope:Scope}{dV kV doc pm ct:Value}{c:Addr}(n:PySem.W.nsIn K mainGlobals x=some (some (.ref f)))(l:K.lookup f=some ⟨oc,od,.func (PySem.W.fnOf name qual params body scope dV kV doc pm an (.ref c) ct),xr⟩)
  (h:PySem.W.codeHdIn K c P=true) (o:K.lookup P=none):Lh K x P:=⟨⟨f,_,_,c,n,l,rfl,rfl,h⟩,o⟩
def ztb:∀(env:aJ) (st:ak) (as:List LA) (st1:ak),wG env st=.ok as st1->as.length=([]:List Expr).length:=by
 intro env st as st1 h;cases h;rfl
def zog{e:Expr}{es:List Expr}{a:ME}{r:ML}(h:∀(env:aJ) (st:ak) (as:List LA) (st1:ak),r env st=.ok as st1->as.length=es.length) :
  ∀(env:aJ) (st:ak) (as:List LA) (st1:ak),oO a r env st=.ok as st1->as.length=(e::es).length:=by
 intro env st as st1 q;unfold oO at q;cases h1:a env st with
 | bad=>rw[h1]at q;cases q
 | err x s=>rw[h1]at q;cases q
 | ok x s =>
  rw[h1,R.aB]at q;cases h2:r env s with
  | bad=>rw[h2]at q;cases q
  | err x s=>rw[h2]at q;cases q
  | ok xs s2 =>
   rw[h2,R.aB]at q;cases q;rw[gr,gr,h env s xs _ h2]
def zj6{e:Expr}{es:List Expr}{j k:Nat}{cap:List Nat}{x:Str}{r:ML}(h:∀(env:aJ) (st:ak) (as:List LA) (st1:ak),r env st=.ok as st1->as.length=es.length) :
  ∀(env:aJ) (st:ak) (as:List LA) (st1:ak),lZ j cap k x r env st=.ok as st1->as.length=(e::es).length:=by
 intro env st as st1 q;unfold lZ at q
 split at q
 ·split at q
  ·cases h2:r env st with
   | bad=>rw[h2]at q;cases q
   | err x s=>rw[h2]at q;cases q
   | ok xs s2 =>
    rw[h2,R.aB]at q;cases q;rw[gr,gr,h env st xs _ h2]
  ·cases q
 ·cases q
end M
namespace M
open PySem PySem.Spec L2
noncomputable def BJ:Expr->Nat->Expr
 | .Call _ as _ _,i=>as.getD i (.Constant .none 0 ⟨0,0,0,0⟩)
 | e,_=>e
noncomputable def wj:Stmt->Expr
 | .Return (some e) _=>e
 | .Assign _ e _=>e
 | _=>.Constant .none 0 ⟨0,0,0,0⟩
noncomputable def R4:fH:=⟨"",⟨[],[],none,[],[],none,[]⟩,.Constant .none 0 ⟨0,0,0,0⟩,aF (.Pass ⟨0,0,0,0⟩),[]⟩
noncomputable def Aq(x:Str)(oG:List Str):Expr->fH
 | .Lambda ps b sc _=>⟨qG x,ps,b,sc,oG⟩
 | _=>R4
def zj1(h0:X.env.scope=sc0)(nd:l.oG.Nodup)(hc:∀x∈l.oG,sc0.names.lookup x=some .cell)(ix:cap.map (λi=>X.N[i]?)=l.oG.map some):pZ X l cap :=
 ⟨nd,λx hx=>by subst h0;exact hc x hx,ix⟩
end M
namespace M
open L2
def J4{s:ak}{n:Nat}{o:MO}(h:s[n]? = some o)(hc:o.d_=false):(cj s)[n]? = some o:=by
 rw[zsj h,hc];rfl
def N5(h:s[c]? = some (.clo j (Λ j) ds))(hG:G j (ds++as) (cj s)=.ok d (cj s))(hu:under s.length d):By Λ G c as s=.ok d s:=by
 unfold By;rw[h];dsimp only;rw[aeQ rfl,hG,dz (by rw[zk3];exact hu)];dsimp only;rw[aeQ ⟨rfl,hu⟩]
def z6(hi:env[i]? = some (some (.loc n)))(h0:st[n]? = some (.clo j (Λ j) ds))(hA:mA env st=.ok as st1)(h:st1[n]? = some (.clo j (Λ j) ds))(hG:G j (ds++as) (cj st1)=.ok d (cj st1))(hu:under st1.length d) :
  callC Λ G i mA env st=.ok d st1:=by
 unfold callC;rw[hi];dsimp only;rw[h0];dsimp only;rw[hA,R.aB];exact N5 h hG hu
def zsh(hm:m env st=.ok as st1)(hn:bJ st1)(hp:jG Λ env st1.length as=some (ds,os))(hF:gc st1 (F (ds++dd) (st1++os))=.ok d st2)(hn2:bJ st2) :
  lJ Λ F dd m env st=.ok d st2:=by
 unfold lJ;rw[hm,R.aB,aeQ hn,hp];dsimp only;rw[hF];dsimp only;rw[aeQ hn2]
@[simp] def YG:bJ []:=λ_ h=>nomatch h
@[simp] def VF(o:MO)(st:ak):bJ (o::st)↔o.d_=false/\bJ st:=by simp[bJ]
@[simp] def xx(a b:ak):bJ (a++b)↔bJ a/\bJ b:=by
 simp only[bJ,m7];exact⟨λh=>⟨λo ho=>h o (.inl ho),λo ho=>h o (.inr ho)⟩,λh o ho=>ho.elim (h.1 o) (h.2 o)⟩
@[simp] def YM(l:List D):(MO.lst l).d_=false:=rfl
@[simp] def YQ(l:List D):(MO.frz l).d_=false:=rfl
@[simp] def YL(x:PySem.Str):(MO.tab x).d_=false:=rfl
@[simp] def YZ(l:List (List Key×D)):(MO.dic l).d_=false:=rfl
@[simp] def YX(l:List (Key×D)):(MO.dkc l).d_=false:=rfl
@[simp] def YW(l:List (Key×D)):(MO.dkf l).d_=false:=rfl
@[simp] def YS(c:String)(d:D):(MO.exc c d).d_=false:=rfl
@[simp] def YT(l:List (List Key×D)):(MO.dtf l).d_=false:=rfl
end M
namespace M
open PySem PySem.Spec L2
section
variable  {X:Cx}{elt tg iter c:Expr}{ifs:List Expr}{scope:Scope}{pos:Pos}{N:List Str}{capt:List (Option Nat)}{mi:MI}{g:MG}{t:MT}{me:ME}
end
end M
namespace L2
open PySem PySem.Spec PyProof.Rows
noncomputable def Xx(x:Str):It :=
 ⟨λi _=>i<x.cps.size,
  λi H y H'=>∃p c,H p=none/\y=.ref p/\x.cps[i]? = some c/\H'=upd H p (.tup [.int i,.str ⟨#[c]⟩]),
  λi _=>x.cps.size<=i⟩
def zs1{P:Program}{w:World}{K:PySem.W.Frag}{elts:List Expr}{x1:Nat}{pos:Pos}(x:Str)(t:Tok)(e it:Addr)(uf:e≠it) :
  Turn P w K (.Tuple elts x1 pos) (Xx x) [e,it] e (λi h=>i<=x.cps.size/\∃old,IsEnum h e it (i:Int) old/\h.IsStrIter it "str_ascii_iterator" x t i) where
 mem:=by simp
 obj:=λi h st b hb=>by
  obtain⟨_,old,h1,h2⟩:=st;rcases gf.mp hb with rfl | hb
  ·exact⟨_,h1,λv z=>by cases z⟩
  ·have e:b=it:=by simpa using hb
   subst e;obtain⟨o,q,c,d⟩:=h2;exact⟨o,q,λv z=>by rw[d]at z;cases z⟩
 keep:=λi h h' st k=>by
  obtain⟨h0,old,h1,h2⟩:=st;refine⟨h0,old,k e (by simp) _ h1,?_⟩;obtain⟨o,q,c,d⟩:=h2;exact⟨o,k it (by simp) o q,c,d⟩
 item:=by
  intro X hP hw hK hc i pins s σ H E I hf st hg;subst hP hw hK;obtain⟨_,old,h1,h2⟩:=st;have hi:i<x.cps.size:=hg;have D:=Draws.strAscii (prog:=X.prog) (w:=X.w) (A:=X.A.in1) (I.ok.hd hc) it x t;refine wpAny_pyNext_enum_itemD D h1 h2 hi uf (by simpa using uf) λu aeN tk hPu Mq hit ht hsz hk=>?_;refine⟨_,rfl,wpAny_letOwnedTupleGo_enum Mq λaeM adU J0=>?_⟩;replace J0:Heap.SameBut e aeN aeM:=J0;have yx:e<s.heap.objs.size:=gq h1;have Ws:it<s.heap.objs.size:=by obtain⟨o,q,_⟩:=h2;exact gq q
  have ht2:aeM.get? s.heap.objs.size=some { cls:=.type "tuple",data:=.seq #[.int i tk,u] }:=by rw[J0.2 _ (mK yx)];exact ht
  have kk:∀b ob,b∉[e,it]->s.heap.get? b=some ob->aeM.get? b=some ob:=λb ob hb q=>by
   have b1:b≠e:=λz=>hb (by simp[z]);have b2:b≠it:=λz=>hb (by simp[z]);exact J0.extBut b ob b1 (hk b ob b1 b2 q)
  obtain⟨c,t2,W7,rfl⟩:=hPu;refine⟨.ref s.heap.objs.size,upd H s.heap.objs.size (.tup [.int i,.str ⟨#[c]⟩]),I.zQ hf kk (gb _) ?_,rfl,⟨_,c,I.bN.fresh (gb _),rfl,W7,rfl⟩,?_,λb hb=>?_⟩
  ·refine⟨by show 2<=sizeLine;decide,[.int i tk,.str ⟨#[c]⟩ t2],.cons ⟨_,rfl⟩ (.cons ⟨_,rfl⟩ .nil),?_⟩;exact⟨_,ht2,rfl,_,rfl⟩
  ·refine⟨hi,.str ⟨#[c]⟩ t2,?_,?_⟩
   ·have:(i:Int)+1=((i+1:Nat):Int):=by omega
    rw[<-this];exact adU
   ·obtain⟨o,q,c,d⟩:=hit;exact⟨o,J0.extBut it o (ae1 uf) q,c,d⟩
  ·rw[iy]
   ·exact (hf b hb).1
   ·intro z;subst z;rcases gf.mp hb with z | z
    ·exact mK yx z
    ·exact mK Ws (by simpa using z)
 done:=by
  intro X hP hw hK hc i pins s σ H E I hf st hg;subst hP hw hK;obtain⟨h0,old,h1,h2⟩:=st;have hi:x.cps.size<=i:=hg;have hii:i=x.cps.size:=by omega
  subst hii;have D:=Draws.strAscii (prog:=X.prog) (w:=X.w) (A:=X.A.in1) (I.ok.hd hc) it x t;exact wpAny_pyNext_enum_endD D h1 h2 λh' eb=>⟨rfl,I.turns (t':=s.toks) (ch:=[e,it]) hf λb o hb q=>eb b o (λz=>hb (by simp[z])) q⟩
 self:=λ_ _ _ _ _ st h=>by
  obtain⟨_,old,h1,h2⟩:=st;exact wpAny_pyIter_enum h1 h
noncomputable def Wy(ta:TA):TI:=fun σ H R=>ta σ H λvs H1=>∃x,vs=[.str x]/\strIterType x = "str_ascii_iterator"/\R (Xx x) H1
def Hu{X:Cx}{elts:List Expr}{x1:Nat}{wu:Pos}{a:Expr}{ta:TA}{p pos:Pos}(hg:Gl X "enumerate")(hm:X.mg "enumerate" = none)(ha:PA X [a] ta)(hs:starEach [a] X.env=[(false,eval a X.env)]:=by rfl) :
  PI X (.Tuple elts x1 wu) (.Call (.Name "enumerate" p) [a] [] pos) (Wy ta):=by
 intro pins s σ H R I h;refine Call_ (Mu I hg hm zoj (aeY (cH (ha pos pins s σ H _ I h) λus s1 zz=>?_) hs rfl));obtain⟨vs,H1,I1,r1,q1⟩:=zz;obtain⟨x,e,hq,q⟩:=q1;subst e;cases r1 with
 | cons r rr =>
  cases rr;obtain⟨t,rfl⟩:=r;refine call_enumerate_str λh' he hit hsz hk=>?_;rw[hq]at hit;refine wpAny_pyIter_enum he ?_;have I2:Inv X pins σ H1 { s1 with heap:=h' }:=I1.kept (t':=s1.toks) hk;refine⟨s1.heap.objs.size+1,[s1.heap.objs.size+1,s1.heap.objs.size],_,_,H1,rfl,I2,zs1 x t _ _ (mK (nQ _)),⟨kO _,.none,he,hit⟩,λb hb=>?_,q⟩;have iM:s1.heap.objs.size<=b:=by
   rcases gf.mp hb with z | z
   ·rw[z];exact Nat.le_succ _
   ·have:b=s1.heap.objs.size:=by simpa using z
    rw[this];exact gb _
  exact I1.uQ iM (I1.bN.fresh iM)
end L2
namespace M
open PySem PySem.Spec L2
section
variable  {X:Cx}{a:Expr}{mA:MA}{μ:List Addr}{H:Hp}{p pos wu:Pos}
noncomputable def uT(mA:MA):MI:=λenv st=>(mA env st).bind λds st1=>match ds with
 | [.str cs]=>if cs.all (λc=>decide (c<128))=true then .ok (cM 0 (cs.map λc=>D.str [c]),[]) st1 else .bad
 | _=>.bad
@[simp] theorem Hk(env:aJ)(st:ak):uT mA env st=(mA env st).bind λds st1=>match ds with
 | [.str cs]=>if cs.all (λc=>decide (c<128))=true then .ok (cM 0 (cs.map λc=>D.str [c]),[]) st1 else .bad
 | _=>.bad:=eQ rfl
def JH(cs:List Nat):lN X μ H (Xx (strOf cs)) (cM 0 (cs.map λc=>D.str [c]),[]):=by
 intro H' μ' st' g hs ok;refine⟨λi d e=>?_,by show (strOf cs).cps.size<=_;rw[T7];simp⟩;obtain⟨y,e1,rfl⟩:=zkw e;rw[gB]at e1;obtain⟨c,e2,rfl⟩:=nG.mp e1;refine⟨by show i<(strOf cs).cps.size;simpa using (gh.mp e2).1,?_⟩;rintro x BR ⟨pp,c',hn,rfl,hc,rfl⟩;have:c'=c:=by
  have h2:cs[i]? = some c':=by simpa using hc
  rw[e2]at h2;exact (aeU h2).symm
 subst this;refine⟨bf.lay hn,hs.lay hn,ao.aU.mpr ⟨pp,_,rfl,.inl rm,?_⟩⟩;exact aq.cons (ao.aN.mpr rfl) (aq.cons (ao.aQ.mpr rfl) aq.nil)
def Jr{elts:List Expr}{x1:Nat}(ha:JA X [a] mA)(hg:Gl X "enumerate")(hm:X.mg "enumerate" = none)(hs:starEach [a] X.env=[(false,eval a X.env)]:=by rfl):JI X (.Tuple elts x1 wu) (.Call (.Name "enumerate" p) [a] [] pos) (uT mA):=by
 refine JI.of (Hu hg hm ha hs) fun σ H R zz=>?_;obtain⟨μ,env,st,hE,hs,hp⟩:=zz;refine⟨μ,env,st,hE,hs,(bL.bind hp).imp ?_⟩;rintro vs H1 ⟨μ1,st1,ds,g1,bF,hv,aR⟩;dsimp only at aR
 split at aR
 ·rename_i cs
  split at aR
  ·rename_i hc;obtain⟨v,rfl,q1⟩:=aq.one hv;obtain rfl:=ao.aQ.mp q1;refine⟨strOf cs,rfl,?_,aR _ _ _ (.refl _ _) bF (JH cs)⟩;unfold strIterType;rw[aeQ];show (cs.toArray.all _)=true;rw[List.all_toArray];exact hc
  ·exact aR.elim
 ·exact aR.elim
end
end M
namespace M
open PySem PySem.Spec PySem.SeqAt L2
def ao.kt{K:PySem.W.Frag}{a:Addr}{od:Option Addr}{its:Array Value}{n:Nat}{sl:Array (Option Value)}{ds:List D}(xs:List V)(l:K.lookup a=some ⟨.type "tuple",od,.seq its n,sl⟩)(hs:its.size<=sizeLine)(hv:Vals xs its.toList)(nk:Ai ds=true)
  (hr:∀μ H,aq K μ H ds xs):∀μ H,ao K μ H (.tup ds) (.ref a):=fun μ H=>ao.aU.mpr ⟨a,xs,rfl,.inr ⟨nk,_,its,n,l,rfl,rfl,hs,hv⟩,hr μ H⟩
def aq.n{K:PySem.W.Frag}:∀μ H,aq K μ H [] []:=λ_ _=>aq.nil
def aq.c{K:PySem.W.Frag}{d:D}{ds:List D}{v:V}{vs:List V}(h:∀μ H,ao K μ H d v)(k:∀μ H,aq K μ H ds vs):∀μ H,aq K μ H (d::ds) (v::vs):=fun μ H=>aq.cons (h μ H) (k μ H)
def ao.ks{K:PySem.W.Frag}{cs:List Nat}{y:Str}(hy:y=strOf cs):∀μ H,ao K μ H (.str cs) (.str y):=λ_ _=>ao.aQ.mpr (by rw[hy])
def ao.ki{K:PySem.W.Frag}{i:Int}:∀μ H,ao K μ H (.int i) (.int i):=λ_ _=>ao.aN.mpr rfl
def ao.kb{K:PySem.W.Frag}{b:Bool}:∀μ H,ao K μ H (.bl b) (.bl b):=λ_ _=>ao.bA.mpr rfl
section
variable  {X:Cx}{pos:Pos}{x:Str}{L:Nat}
def Jv{d:D}(h:∃a,X.mg x=some (.ref a)/\∀μ H,ao X.K μ H d (.ref a))(hg:Gl X x:=by rfl)(hd:(x==("__debug__":Str))=false:=by decide):JE X (.Name x pos) (ct d):=by
 obtain⟨a,h,hv⟩:=h;exact zsx (v:=.ref a) hg h rfl hv hd
noncomputable def pQ(L:Nat)(neg:Bool):D->D->ak->R D
 | d,.loc n,st=>match aA st n with
  | some ds=>if flat d=true/\cD ds=true/\(ds.all λe=>decide (dm e d<L))=true then .ok (.bl (if neg then !(ds.any λe=>fY e d) else ds.any λe=>fY e d)) st else .bad
  | none=>.bad
 | _,_,_=>.bad
def Hd{a b:V}{w:Value}(h:RelV a w)(k:RelV b w):a=b:=by
 cases a<;>cases b<;>simp only[RelV]at h k<;>first
  | rfl
  | (subst h;cases k;done)
  | (subst h;injection k with k;subst k;rfl)
  | (obtain⟨_,rfl⟩:=h;cases k;done)
  | (obtain⟨_,rfl⟩:=k;cases h;done)
  | (obtain⟨_,rfl⟩:=h;obtain⟨_,k⟩:=k;injection k with k;subst k;rfl)
  | (obtain⟨_,rfl⟩:=h;obtain⟨_,k⟩:=k;cases k;done)
open Classical in
def JV(hu:X.A.units+L<cLine){pins:List (Addr×Obj)}{s:Shared}{σ:L2.St}{H:Hp}{x y:V}{v u:Value}{Q:VK}{neg:Bool}(I:Inv X pins σ H s)(rx:RelV x v)(ry:RelV y u)(h:rM X (pQ L neg) x y H Q) :
  ∃(p:Addr) (its:List Value) (f:Value->Bool),u=.ref p/\s.heap.IsList p its.toArray/\(∀w∈its,EqAt X.A.in1 s w v (f w))/\Q (.bl (if neg then !its.any f else its.any f)) H:=by
 obtain⟨μ,st,dx,dy,hs,hx,hy,hp⟩:=h;unfold pQ at hp
 split at hp
 ·rename_i n
  split at hp
  ·rename_i ds e
   split at hp
   ·rename_i c;obtain⟨c1,c2,c3⟩:=c;obtain⟨p,q1,rfl⟩:=ao.aH.mp hy;obtain⟨p',xs,r1,r2,r3⟩:=hs.items e;rw[q1]at r1;cases r1;obtain rfl:u=Value.ref p:=ry;obtain⟨its,ra,pl,_⟩:=I.list r2
    let f:Value->Bool:=λw=>decide (∃d z,flat d=true/\ao X.K μ H d z/\RelV z w/\fY d dx=true)
    have key:∀(ds:List D) (xs:List V) (its:List Value),aq X.K μ H ds xs->Vals xs its->cD ds=true->(ds.all λe=>decide (dm e dx<L))=true ->
      (∀w∈its,EqAt X.A.in1 s w v (f w))/\its.any f=ds.any λe=>fY e dx:=by
     intro ds
     induction ds with
     | nil =>
      intro xs its h1 h2 _ _;rw[aq]at h1;subst h1;cases h2;exact⟨λw hw=>(nomatch hw),rfl⟩
     | cons d ds ih =>
      intro xs its h1 h2 h3 h4;rw[aq]at h1;obtain⟨z,r,rfl,g1,g2⟩:=h1;cases h2 with
      | cons rz rr =>
       rw[Yn,gM]at h3;rw[List.all_cons,gM]at h4;obtain⟨i1,i2⟩:=ih _ _ g2 rr h3.2 h4.2;have fe:∀{w:Value},RelV z w->f w=fY d dx:=λ{w} hw=>by
        cases q:fY d dx with
        | true=>exact aeV ⟨d,z,h3.1,g1,hw,q⟩
        | false =>
         refine aeT ?_;rintro ⟨d',z',k1,k2,k3,k4⟩;have ez:z'=z:=Hd k3 hw;subst ez;rw[zmy I d' d k1 h3.1 k2 g1]at k4;rw[k4]at q;cases q
       refine⟨λw hw=>?_,?_⟩
       ·rcases gf.mp hw with rfl | hw
        ·rw[fe rz];exact (Bg I d dx h3.1 c1 (by have:=aeZ h4.1;show X.A.units+1+_<_;omega) g1 hx rz rx).1
        ·exact i1 w hw
       ·rw[n6,n6,fe rz,i2]
    obtain⟨k1,k2⟩:=key ds xs its r3 ra c2 c3;refine⟨p,its,f,rfl,pl.isList,k1,?_⟩;rw[k2];exact hp.ret hs (ao.bA.mpr rfl)
   ·exact hp.elim
  ·exact hp.elim
 ·exact hp.elim
def Af(hu:X.A.units+L<cLine):d9 X (compareOp .In) (rM X (pQ L false)):=by
 intro pins s σ H x y v u Q I rx ry h;obtain⟨p,its,f,rfl,pl,k1,q⟩:=JV hu I rx ry h;refine SeqAt.in_listAt f pl (λw hw=>k1 w (by simpa using hw)) ⟨.bl _,H,I,rfl,?_⟩;rw[show its.toArray.any f=its.any f by simp];exact q
end
end M
namespace M
open PySem PySem.Spec L2
section
variable  {prog:Program}{w:World}{A:Around}{E:Value->Shared->Prop}{s:Shared}
end
section
variable  {X:Cx}{es:List Expr}{pos:Pos}
end
end M
namespace M
namespace Tr
noncomputable def stp:Nat->Tr->Option Tr
 | 0,t=>some t
 | n+1,t=>(step t).bind (stp n)
def Ev(t:Tr)(n:Nat)(v:Tr):Prop:=stp n t=some v/\val v=true
noncomputable abbrev tS:Tr:=.lf [83]
noncomputable abbrev tK:Tr:=.lf [75]
noncomputable abbrev tI:Tr:=.jn (.jn tS tK) tK
def uo(v:Tr):val (.jn tK v)=val v:=by rw[Uc];simp
def Gu(v:Tr):val (.jn tS v)=val v:=by rw[Uc];simp
def wg(u v:Tr):val (.jn (.jn tS u) v)=(val v && val u):=by rw[T8,Gu];simp[tV]
def zP(u v w:Tr):val (.jn (.jn (.jn tS u) v) w)=false:=by rw[T8];simp[tV]
def aad:val tI=true:=by decide
end Tr
end M
namespace M
namespace Tr
inductive Lk (p:Tr):List Tr->Nat->Tr->Prop
 | nil (h:val p=true):Lk p [] 0 p
 | snoc (ts:List Tr) (t w v:Tr) (n m:Nat) (h:Lk p ts n w) (ht:val t=true) (k:Ev (.jn w t) m v):Lk p (ts++[t]) (n+m) v
noncomputable def apps(p:Tr)(ts:List Tr):Tr:=ts.foldl (λw t=>.jn w t) p
def zf3(p:Tr)(ts:List Tr)(t:Tr):apps p (ts++[t])=.jn (apps p ts) t:=by simp[apps]
noncomputable def hold(ts:List Tr):Tr:=ts.foldl (λw t=>.jn (.jn tS w) (.jn tK t)) tI
def zh7(ts:List Tr)(t:Tr):hold (ts++[t])=.jn (.jn tS (hold ts)) (.jn tK t):=by simp[hold]
theorem zs2:∀(ts:List Tr) (w:Tr),val w=true->(∀t∈ts,val t=true)->val (ts.foldl (λw t=>.jn (.jn tS w) (.jn tK t)) w)=true
 | [],w,h,_=>h
 | t::ts,w,h,k=>zs2 ts _ (by rw[wg,uo,h,k t (by simp)];rfl) λx hx=>k x (by simp[hx])
def Mz{ts:List Tr}(h:∀t∈ts,val t=true):val (hold ts)=true:=zs2 ts tI aad h
noncomputable def dN:Nat->Tr->Tr
 | 0,v=>v
 | n+1,v=>.jn tK (dN n v)
theorem zrg{v:Tr}(h:val v=true):∀n,val (dN n v)=true
 | 0=>h
 | n+1=>by rw[dN,uo];exact zrg h n
noncomputable def sr:Nat->Tr
 | 0=>tI
 | 1=>tK
 | m+2=>.jn (.jn tS (.jn tK tK)) (sr (m+1))
noncomputable def pkC:Nat->Nat
 | 0=>2
 | 1=>0
 | m+2=>2+pkC (m+1)
theorem zN:∀m,val (sr m)=true
 | 0=>rfl
 | 1=>rfl
 | m+2=>by rw[sr,wg,zN (m+1)];rfl
noncomputable def bM(k many:Nat):Tr:=dN k (sr (many - 1 - k))
def T9(k many:Nat):val (bM k many)=true:=zrg (zN _) _
theorem zo6(v:Tr):∀n,dp (dN n v)=dp v+n
 | 0=>rfl
 | n+1=>by
  rw[dN,dp,zo6 v n];have:dp tK=0:=rfl;omega
theorem wQ:∀m,dp (sr m)<=m+2
 | 0=>by decide
 | 1=>by decide
 | m+2=>by
  have:=wQ (m+1);rw[sr,dp];have e:dp (.jn tS (.jn tK tK))=2:=rfl;rw[e];omega
end Tr
end M
namespace M
open Tr
open Classical in
theorem ZR:∀(t u:Tr),fY (enc t) (enc u)=decide (t=u)
 | .lf a,.lf b=>by
  rw[enc,enc,fY,mz];simp
 | .lf a,.jn l r=>by rw[enc,enc];simp[fY]
 | .jn l r,.lf a=>by rw[enc,enc];simp[fY]
 | .jn l r,.jn l' r'=>by
  have h1:=ZR l l';have h2:=ZR r r';rw[enc,enc,fY,jL,jL,h1,h2];by_cases e1:l=l'
  ·by_cases e2:r=r'
   ·subst e1 e2;simp[fY,jL]
   ·have:(Tr.jn l r=.jn l' r')=False:=by simp[e2]
    simp[e2]
  ·simp[e1]
open Classical in
def ZM(t u:Tr)(st:ak)(h:dp t<800):fL 800 (enc t) (enc u) st=.ok (.bl (decide (t=u))) st:=by
 have hc:=zso (enc t) (enc u);rw[Bh]at hc;have hr:iD 800 (enc t) (enc u) st=some (decide (t=u)):=by
  have h1:=TX t;have h2:=TX u;have h3:=ZR t u;rw[<-h3];have h4:dm (enc t) (enc u)<800:=by omega
  cases t<;>cases u<;>(rw[enc,enc]at *;simp only[iD];rw[aeQ ⟨h1,h2,h4⟩])
 unfold fL;rw[hr]
end M
namespace M
open L2
end M
namespace M
open PySem PySem.Spec L2
section
variable  {X:Cx}
end
end M
namespace M
open L2
noncomputable def valN(kvs:List (Key×D))(k:Key):Option D:=(kvs.find? λkv=>decide (kv.1=k)).map (·.2)
def Yh(p:Key×D)(r:List (Key×D))(k:Key):valN (p::r) k=if p.1=k then some p.2 else valN r k:=by
 unfold valN;rw[mD];by_cases h:p.1=k
 ·simp[h]
 ·simp[h]
noncomputable def putN(kvs:List (Key×D))(k:Key)(d:D):List (Key×D) :=
 if (kvs.any λkv=>decide (kv.1=k))=true then kvs.map (λkv=>if kv.1=k then (kv.1,d) else kv) else kvs++[(k,d)]
noncomputable def jH(kvs more:List (Key×D)):List (Key×D):=more.foldl (λacc kv=>putN acc kv.1 kv.2) kvs
noncomputable def Zh:ME:=λ_ st=>.ok (.loc st.length) (st++[.dkc []])
noncomputable def xW:D->List D->ak->R D
 | .loc n,[k,d],st=>match st[n]?,keyOf k with
  | some (.dkc kvs),some kk=>.ok ((valN kvs kk).getD d) st
  | _,_=>.bad
 | _,_,_=>.bad
noncomputable def lr:D->D->D->ak->R Unit
 | .loc n,k,d,st=>match st[n]?,keyOf k with
  | some (.dkc kvs),some kk=>if kvs.length<1000000 then .ok () (st.set n (.dkc (putN kvs kk d))) else .bad
  | _,_=>.bad
 | _,_,_,_=>.bad
noncomputable abbrev Rn:=aJ->ak->R (List (D×D))
noncomputable def iz:Rn:=λ_ st=>.ok [] st
noncomputable def cO(a b:ME)(r:Rn):Rn:=λenv st=>(a env st).bind λx st1=>(b env st1).bind λy st2=>(r env st2).bind λps fV=>.ok ((x,y)::ps) fV
noncomputable def uJ:List (D×D)->Option (List (Key×D))
 | []=>some []
 | (k,d)::r=>match keyOf k,uJ r with | some kk,some l=>some ((kk,d)::l) | _,_=>none
noncomputable def fO(m:Rn):ME:=λenv st=>(m env (st++[.dkc []])).bind λps st1=>match uJ ps,st1[st.length]? with
 | some kvs,some (.dkc [])=>if kvs.length<=15 then .ok (.loc st.length) (st1.set st.length (.dkc (jH [] kvs))) else .bad
 | _,_=>.bad
@[simp] def NQ(env:aJ)(st:ak):iz env st=.ok [] st:=eQ rfl
@[simp] def zsp(a b:ME)(r:Rn)(env:aJ)(st:ak):cO a b r env st=(a env st).bind λx st1=>(b env st1).bind λy st2=>(r env st2).bind λps fV=>.ok ((x,y)::ps) fV:=eQ rfl
end M
namespace M
open PySem PySem.Spec L2
section
variable  {X:Cx}{K:PySem.W.Frag}{μ:List Addr}{H:Hp}
theorem aO.valN:∀{kvs:List (Key×D)} {ws:List (Key×V)},aO K μ H kvs ws ->
  (M.valN kvs k=none/\iR ws k=none)\/∃d v,M.valN kvs k=some d/\iR ws k=some v/\ao K μ H d v
 | [],ws,h=>.inl ⟨rfl,by rw[aO]at h;rw[h];rfl⟩
 | (j,d)::r,ws,h=>by
  obtain⟨v,r',rfl,h1,h2⟩:=h;rw[Yh];by_cases e:j=k
  ·rw[aeQ e];exact .inr ⟨d,v,rfl,ZS (p:=(j,v)) e,h1⟩
  ·rw[aeS e,ZW (p:=(j,v)) e];exact aO.valN h2
theorem aO.abY:∀{kvs:List (Key×D)} {ws:List (Key×V)},aO K μ H kvs ws->(kvs.any λkv=>decide (kv.1=k))=(ws.any λkv=>decide (kv.1=k))
 | [],ws,h=>by rw[aO]at h;rw[h];rfl
 | (j,d)::r,ws,h=>by
  obtain⟨v,r',rfl,h1,h2⟩:=h;rw[n6,n6,aO.abY h2]
theorem aO.Hc(hv:ao K μ H d v):∀{kvs:List (Key×D)} {ws:List (Key×V)},aO K μ H kvs ws->aO K μ H (kvs.map λkv=>if kv.1=k then (kv.1,d) else kv) (ws.map λkv=>if kv.1=k then (kv.1,v) else kv)
 | [],ws,h=>by rw[aO]at h;subst h;exact rfl
 | (j,d')::r,ws,h=>by
  obtain⟨v',r',rfl,h1,h2⟩:=h;rw[gw,gw];by_cases e:j=k
  ·rw[aeQ e,aeQ e];exact⟨v,_,rfl,hv,aO.Hc hv h2⟩
  ·rw[aeS e,aeS e];exact⟨v',_,rfl,h1,aO.Hc hv h2⟩
theorem aO.RQ:∀{kvs:List (Key×D)} {ws:List (Key×V)},aO K μ H kvs ws->ao K μ H d v->aO K μ H (kvs++[(k,d)]) (ws++[(k,v)])
 | [],ws,h,hv=>by rw[aO]at h;subst h;exact⟨v,[],rfl,hv,rfl⟩
 | (j,d')::r,ws,h,hv=>by
  obtain⟨v',r',rfl,h1,h2⟩:=h;exact⟨v',r'++[(k,v)],rfl,h1,aO.RQ h2 hv⟩
def aO.putN(h:aO K μ H kvs ws)(hv:ao K μ H d v):aO K μ H (M.putN kvs k d) (putK ws k v):=by
 unfold M.putN putK;rw[h.abY]
 split
 ·exact aO.Hc hv h
 ·exact h.RQ hv
theorem aO.jH:∀{more:List (Key×D)} {ms:List (Key×V)} {kvs:List (Key×D)} {ws:List (Key×V)},aO K μ H more ms->aO K μ H kvs ws->aO K μ H (M.jH kvs more) (jJ ws ms)
 | [],ms,kvs,ws,h,k=>by rw[aO]at h;subst h;exact k
 | (j,d)::r,ms,kvs,ws,h,k=>by
  obtain⟨v,r',rfl,h1,h2⟩:=h;show aO K μ H (M.jH (M.putN kvs j d) r) (jJ (putK ws j v) r');exact aO.jH h2 (k.putN h1)
def aV.dkc{st:ak}{n:Nat}{kvs:List (Key×D)}(h:aV K μ H st)(e:st[n]? = some (.dkc kvs)):∃p ws,μ[n]? = some p/\H p=some (.dK ws)/\aO K μ H kvs ws:=by
 obtain⟨p,h1,xs,h2,h3⟩:=h.at_ n _ e;exact⟨p,xs,h1,h2,h3⟩
def ao.key(h:ao K μ H d v)(e:keyOf d=some k):v=kV k:=by
 cases d with
 | int i=>rw[ao.aN]at h;cases e;exact h
 | str cs=>rw[ao.aQ]at h;cases e;exact h
 | _=>cases e
end
section
variable  {X:Cx}{a b o i:Expr}{ma mb:ME}{pos:Pos}
def Jx:JE X (.Dict [] [] pos) Zh:=by
 refine JE.of HB fun σ H Q zz=>?_;obtain⟨μ,env,st,hE,hs,hp⟩:=zz;refine λp hn=>?_;have hr:fU X.K (μ++[p]) (upd H p (.dK [])) p (.dkc []):=⟨[],rm,rfl⟩;exact hp _ _ (μ++[p]) (bf.new hn) (hs.new hn hr) (ao.aH.mpr ⟨p,by rw[<-hs.len];simp,rfl⟩)
def zq3(hu:X.A.units+1<cLine):qd X "dict.get" (Df X xW):=by
 rintro pins s σ H x xs v us Q I rx CW ⟨μ,st,d,ds,hs,hx,jd,hp⟩;unfold xW at hp
 split at hp
 ·rename_i n k dd
  split at hp
  ·rename_i kvs kk e1 e2;obtain⟨p,q1,rfl⟩:=ao.aH.mp hx;obtain⟨y,z,rfl,q2,q5⟩:=aq.two jd;obtain rfl:=q2.key e2;obtain⟨p',ws,r1,r2,r3⟩:=hs.dkc e1;rw[q1]at r1;cases r1;cases CW with
   | cons ry rr =>
    cases rr with
    | cons rz rr =>
     cases rr;obtain rfl:v=Value.ref p:=rx;refine Xk hu I (t8.k r2) ry rz λw' s' I' yL=>⟨_,H,I',yL,?_⟩;rcases r3.valN (k:=kk) with⟨z1,z2⟩ | ⟨d',v',z1,z2,z3⟩
     ·rw[z1]at hp;rw[z2];exact hp.ret hs q5
     ·rw[z1]at hp;rw[z2];exact hp.ret hs z3
  ·exact hp.elim
 ·exact hp.elim
def aav(hu:X.A.units+1<cLine):Xr X (RZ X lr):=by
 rintro pins s σ H o i v ov iv u Q I ro ri rv ⟨μ,st,d1,d2,d3,hs,h1,h2,h3,hp⟩;unfold lr at hp
 split at hp
 ·rename_i n k d
  split at hp
  ·rename_i kvs kk e1 e2
   split at hp
   ·rename_i hl;obtain⟨p,q1,rfl⟩:=ao.aH.mp h1;obtain rfl:=h2.key e2;obtain⟨p',ws,r1,r2,r3⟩:=hs.dkc e1;rw[q1]at r1;cases r1;obtain rfl:ov=Value.ref p:=ro;refine Ep hu I (Ro.k r2 (by rw[<-r3.len];exact gQ hl (by decide))) ri rv λs' I'=>⟨_,I',?_⟩;have g:Ext H (upd H p (.dK (putK ws kk v))):=Ext.mut r2 (λ_ z=>nomatch z) (λ_ _ z=>nomatch z);have g':bf μ H μ (upd H p (.dK (putK ws kk v))):=⟨⟨[],by simp⟩,g⟩;exact hp () _ μ g' (hs.put e1 rfl rfl q1 g ⟨_,rm,(r3.putN h3).mono g'⟩) trivial
   ·exact hp.elim
  ·exact hp.elim
 ·exact hp.elim
def yg(K:PySem.W.Frag)(μ:List Addr)(H:Hp):List (D×D)->List (V×V)->Prop
 | [],vs=>vs=[]
 | (k,d)::r,vs=>∃u v s,vs=(u,v)::s/\ao K μ H k u/\ao K μ H d v/\yg K μ H r s
theorem yg.keys{K:PySem.W.Frag}{μ:List Addr}{H:Hp}:∀{ps:List (D×D)} {vs:List (V×V)} {kvs:List (Key×D)},yg K μ H ps vs->uJ ps=some kvs->∃ws:List (Key×V),vs=ws.map (λkv=>(kV kv.1,kv.2))/\aO K μ H kvs ws
 | [],vs,kvs,h,e=>by cases e;cases h;exact⟨[],rfl,rfl⟩
 | (k,d)::r,vs,kvs,h,e=>by
  obtain⟨u,v,s,rfl,h1,h2,h3⟩:=h;unfold uJ at e
  split at e
  ·rename_i kk l e1 e2;cases e;obtain⟨ws,rfl,q⟩:=yg.keys h3 e2;obtain rfl:=h1.key e1;exact⟨(kk,v)::ws,rfl,v,ws,rfl,h2,q⟩
  ·cases e
noncomputable abbrev RV(X:Cx):Rel (List (D×D)) (List (V×V)):=fun μ H d v=>yg X.K μ H d v
def JPs(X:Cx)(pos:Pos)(keys:List (Option Expr))(values:List Expr)(m:Rn):Prop :=
 ∃yK,PPs X pos keys values yK/\∀(σ:L2.St) (H:Hp) (Q:List (V×V)->Hp->Prop) (μ:List Addr) (env:aJ) (st:ak),dJ X.K μ H env σ->aV X.K μ H st->bL X μ H (RV X) Q (m env st)->wz yK σ H Q
def Av:JPs X pos [] [] iz:=⟨[],Od,fun σ H Q μ env st hE hs hp=>hp.ret hs rfl⟩
def zmv{k v:Expr}{ks:List (Option Expr)}{vs:List Expr}{mk mv:ME}{r:Rn}(hk:JE X k mk)(hv:JE X v mv)(hr:JPs X pos ks vs r):JPs X pos (some k::ks) (v::vs) (cO mk mv r):=by
 obtain⟨yK,hp,hq⟩:=hr;refine⟨(tM X mk,tM X mv)::yK,Hr hk hv hp,fun σ H Q μ env st hE hs h=>?_⟩;refine⟨μ,env,st,hE,hs,(bL.bind h).imp ?_⟩;rintro x H1 ⟨μ1,st1,d1,g1,bF,h1,p1⟩;refine⟨μ1,env,st1,hE.mono g1,bF,(bL.bind p1).imp ?_⟩;rintro y H2 ⟨μ2,st2,d2,g2,iu,h2,p2⟩;refine hq σ H2 _ μ2 env st2 ((hE.mono g1).mono g2) iu ((bL.bind p2).imp ?_);rintro ps H3 ⟨μ3,fV,d3,g3,xR,h3,p3⟩;exact p3.ret xR ⟨x,y,ps,rfl,(h1.mono g2 _).mono g3 _,h2.mono g3 _,h3⟩
def Ay{keys:List (Option Expr)}{values:List Expr}{m:Rn}(h:JPs X pos keys values m)(tX:keys.all (·.isSome)=true:=by rfl)(hl:keys.length=values.length:=by rfl)(h0:keys≠[]:=by exact λz=>nomatch z)(h15:keys.length<=15:=by decide):JE X (.Dict keys values pos) (fO m):=by
 obtain⟨yK,hp,hq⟩:=h;refine JE.of (Ow hp tX hl h0 h15) fun σ H Q zz=>?_;obtain⟨μ,env,st,hE,hs,hP⟩:=zz;refine λp hn=>?_;have hr:fU X.K (μ++[p]) (upd H p (.dK [])) p (.dkc []):=⟨[],rm,rfl⟩;have bF:=hs.new hn hr;have g0:bf μ H (μ++[p]) (upd H p (.dK [])):=bf.new hn;refine hq σ _ _ (μ++[p]) env (st++[.dkc []]) (hE.mono g0) bF ?_;have hP1:=bL.mono g0 hP;refine (bL.bind (rel:=RV X) hP1).imp ?_;rintro ps H2 ⟨μ2,st2,d2,g2,iu,h2,p2⟩;dsimp only at p2
 split at p2
 ·rename_i kvs e1 e2
  split at p2
  ·rename_i adS;have hmu:(μ++[p])[st.length]? = some p:=by rw[<-hs.len];simp
   have hm2:=g2.get hmu;obtain⟨p',ws0,r1,r2,r3⟩:=iu.dkc e2;rw[hm2]at r1;cases r1;rw[aO]at r3;subst r3;obtain⟨ws,rfl,q⟩:=h2.keys e1;refine⟨r2,ws,rfl,by rw[<-q.len];exact adS,?_⟩;have g:Ext H2 (upd H2 p (.dK (jJ [] ws))):=Ext.mut r2 (λ_ z=>nomatch z) (λ_ _ z=>nomatch z);have g':bf μ2 H2 μ2 (upd H2 p (.dK (jJ [] ws))):=⟨⟨[],by simp⟩,g⟩;exact p2 _ _ μ2 g' (iu.put e2 rfl rfl hm2 g ⟨_,rm,(q.jH (show aO X.K μ2 H2 [] [] from rfl)).mono g'⟩) (ao.aH.mpr ⟨p,hm2,rfl⟩)
  ·exact p2.elim
 ·exact p2.elim
end
end M
namespace M
open PySem PySem.Spec PySem.SeqAt L2
end M
namespace L2
open PySem PySem.Spec PyProof.Rows
def Px(h:(bG P w).is k u=true):RelV (kV k) u:=by
 rw[zsi]at h;rcases LQ h with⟨i,t,rfl,rfl⟩ | ⟨x,t,rfl,rfl⟩
 ·exact⟨t,rfl⟩
 ·exact⟨t,rfl⟩
theorem zsk:∀{aeI:List α} {aeH:List β},Paired F aeI aeH->∀(i:Nat) (a:α) (b:β),aeI[i]? = some a->aeH[i]? = some b->F a b
 | _,_,.nil,i,a,b,h,_=>by simp at h
 | _,_,.cons r t,0,a,b,h1,h2=>by simp at h1 h2;subst h1;subst h2;exact r
 | _,_,.cons r t,i+1,a,b,h1,h2=>zsk t i a b (by simpa using h1) (by simpa using h2)
noncomputable def Itk(d:Addr)(o:Obj)(kvs:List (Key×V)):It :=
 ⟨λi H=>i<kvs.length/\H d=some (.frz o (.dK kvs)),λi H y H'=>H'=H/\∃p,kvs[i]? = some p/\y=kV p.1,λi H=>kvs.length<=i/\H d=some (.frz o (.dK kvs))⟩
def Bq(I:Inv X pins σ H s)(ho:o.data=.dict es ep)(e:H d=some (.frz o (.dK kvs))) :
  (d==sysModules)=false/\∃vs,KV kvs vs/\s.heap.DictAt (bG X.prog X.w) d vs ep:=by
 obtain⟨h1,z,hd,vs,rel,o',es',ep',h2,h3,h4,h5⟩:=(show bY X.prog X.w H s.heap d (.frz o (.dK kvs)) from I.bN d _ e);rw[h1]at h2;cases h2;rw[ho]at h4;cases h4;exact⟨hd,vs,rel,o,es,h1,h3,ho,h5⟩
def Nb{P:Program}{w:World}{K:PySem.W.Frag}{tg:Expr}(it d:Addr)(o:Obj)(es:Array DictEntry)(ep:Nat)(ho:o.data=.dict es ep)(kvs:List (Key×V)):Turn P w K tg (Itk d o kvs) [it] it (λi h=>h.IsKeyIter it d i kvs.length ep) where
 mem:=by simp
 obj:=λi h st b hb=>by
  have e:b=it:=by simpa using hb
  subst e;obtain⟨o,e,c,d⟩:=st;exact⟨o,e,λv z=>by rw[d]at z;cases z⟩
 keep:=λi h h' st k=>by
  obtain⟨o,e,c,d⟩:=st;exact⟨o,k it (by simp) o e,c,d⟩
 item:=by
  intro X hP hw hK hc i pins s σ H E I hf st hg;subst hP hw hK;obtain⟨f0,f1,f2,f3,f4,f5⟩:=hf it (by simp);obtain⟨hi,e⟩:=hg;obtain⟨hd,vs,rel,da⟩:=Bq I ho e;have hl:kvs.length=vs.length:=afa rel;obtain⟨q,hq⟩:∃q,vs[i]? = some q:=⟨_,gF (by omega)⟩;obtain⟨p,hp⟩:∃p,kvs[i]? = some p:=⟨_,gF hi⟩;have hk:p.1=q.1:=(zsk rel i p q hp hq).1;rw[hl]at st;refine wpAny_pyNext_dict_item (k:=q.1) (v:=q.2) st da hq λkey h' ik st' sb=>?_;have I1:Inv X pins σ H { s with heap:=h' }:=I.turned (t':=s.toks) (λb o hb e=>(sb.2 b hb).trans e) f0 f1 f3 f4 f5;obtain⟨o1,e1,c1,d1⟩:=id st';rw[<-hl]at st';exact⟨_,rfl,su (s:={ s with heap:=h' }) e1 c1 d1 (by decide) ⟨kV p.1,H,I1,by rw[hk];exact Px ik,⟨rfl,p,hp,rfl⟩,st',λb hb=>(hf b hb).1⟩⟩
 done:=by
  intro X hP hw hK hc i pins s σ H E I hf st hg;subst hP hw hK;obtain⟨f0,f1,f2,f3,f4,f5⟩:=hf it (by simp);obtain⟨hi,e⟩:=hg;obtain⟨hd,vs,rel,da⟩:=Bq I ho e;have hl:kvs.length=vs.length:=afa rel;rw[hl]at st;exact wpAny_pyNext_dict_end (I.ok.hd hc) st da (List.getElem?_eq_none (by omega)) λh' eb=>⟨rfl,I.turned (t':=s.toks) (λb o hb e=>eb b o hb e) f0 f1 f3 f4 f5⟩
 self:=λ_ _ _ _ _ st h=>wpAny_pyIter_keyiter st h
noncomputable def iDk(tl:TE):TI:=fun σ H R=>tl σ H λy H1=>∃a kvs,y=.ref a/\((∃o,H1 a=some (.frz o (.dK kvs))/\R (Itk a o kvs) H1)\/(H1 a=some (.dK kvs)/\∀o,R (Itk a o kvs) (upd H1 a (.frz o (.dK kvs)))))
def aaT{X:Cx}{tg l:Expr}{tl:TE}(hl:PE X l tl):PI X tg l (iDk tl):=by
 intro pins s σ H R I h;refine cH (hl pins s σ H _ I h) λv s1 zz=>?_;obtain⟨y,H1,I1,r1,q1⟩:=zz;obtain⟨a,kvs,rfl,q⟩:=q1;cases (show v=Value.ref a from r1);have key:∀(H2:Hp) (o:Obj),Inv X pins σ H2 s1->H2 a=some (.frz o (.dK kvs))->R (Itk a o kvs) H2->wpAny (model X.prog X.w) X.A (pyIter (.ref a)) (PIE X pins σ tg R) X.xe s1:=λH2 o I2 e2 r2=>by
  obtain⟨h1,z,hd,vs,rel,o',es,ep,h2,h3,h4,h5⟩:=(show bY X.prog X.w H2 s1.heap a (.frz o (.dK kvs)) from I2.bN a _ e2);rw[h1]at h2;cases h2;have hl:kvs.length=vs.length:=afa rel;refine wpAny_pyIter_dict (knd:=bG X.prog X.w) (kvs:=vs) (ep:=ep) hd ⟨o,es,h1,h3,h4,h5⟩ ?_;refine⟨s1.heap.objs.size,[s1.heap.objs.size],_,_,H2,rfl,I2.kept (t':=s1.toks) λb u e=>g8 _ e,Nb _ a o es ep h4 kvs,⟨_,gZ _ rfl,rfl,by rw[hl];rfl⟩,λb hb=>?_,r2⟩;have e:b=s1.heap.objs.size:=by simpa using hb
  subst e;exact I2.uQ (gb _) (I2.bN.fresh (gb _))
 rcases q with⟨o,e,r⟩ | ⟨e,r⟩
 ·exact key H1 o I1 e r
 ·obtain⟨z,hd,vs,rel,o,es,ep,h2,h3⟩:=(show bY X.prog X.w H1 s1.heap a (.dK kvs) from I1.bN a _ e);have new:bY X.prog X.w (upd H1 a (.frz o (.dK kvs))) s1.heap a (.frz o (.dK kvs)):=⟨h2,z,hd,vs,rel,o,es,ep,h2,h3⟩;exact key (upd H1 a (.frz o (.dK kvs))) o (I1.write (x:=a) (e:=a) (t':=s1.toks) (h':=s1.heap) (by rw[e];trivial) (.inl rfl) (λb u _ z=>z) ⟨o,h2⟩ new) rm (r o)
end L2
namespace M
open PySem PySem.Spec L2
noncomputable def wJ:Key->D
 | .inl i=>.int i
 | .inr x=>.str x.cps.toList
noncomputable def Ti(m:ME):MI:=λenv st=>(m env st).bind λd st1=>match d with
 | .loc n=>(match st1[n]? with
  | some (.dkc kvs)=>.ok (kvs.map (λp=>wJ p.1),[]) (st1.set n (.dkf kvs))
  | some (.dkf kvs)=>.ok (kvs.map (λp=>wJ p.1),[]) st1
  | _=>.bad)
 | _=>.bad
noncomputable def vJ:D->D->ak->R D
 | .loc n,k,st=>match st[n]?,keyOf k with
  | some (.dkc kvs),some kk=>(match valN kvs kk with | some d=>.ok d st | none=>.bad)
  | some (.dkf kvs),some kk=>(match valN kvs kk with | some d=>.ok d st | none=>.bad)
  | _,_=>.bad
 | _,_,_=>.bad
section
variable  {X:Cx}{tg l a b:Expr}{ml ma mb:ME}{μ:List Addr}{H:Hp}{K:PySem.W.Frag}{st:ak}{pos:Pos}
def ao.wJ(k:Key):ao K μ H (M.wJ k) (kV k):=by
 cases k with
 | inl i=>exact ao.aN.mpr rfl
 | inr x=>exact ao.aQ.mpr (by show V.str x=V.str (strOf x.cps.toList);simp[strOf])
theorem aO.R8:∀{kvs:List (Key×D)} {ws:List (Key×V)},aO K μ H kvs ws->kvs.length=ws.length/\∀(i:Nat) (p:Key×D) (q:Key×V),kvs[i]? = some p->ws[i]? = some q->p.1=q.1
 | [],_,h=>by cases h;exact⟨rfl,λi p q h1=>by simp at h1⟩
 | (k,d)::r,_,⟨v,s,rfl,h1,h2⟩=>by
  obtain⟨l,hk⟩:=aO.R8 h2;refine⟨by simp[l],λi p q e1 e2=>?_⟩;cases i with
  | zero=>simp at e1 e2;subst e1;subst e2;rfl
  | succ i=>exact hk i p q (by simpa using e1) (by simpa using e2)
def A_{a:Addr}{o:Obj}{kvs:List (Key×D)}{ws:List (Key×V)}(e:H a=some (.frz o (.dK ws)))(h:aO X.K μ H kvs ws):lN X μ H (Itk a o ws) (kvs.map (λp=>M.wJ p.1),[]):=by
 intro H' μ' st' g hs ok;obtain⟨hl,hk⟩:=h.R8;have e':=g.ext.frz _ _ _ e;refine⟨λi d ed=>?_,⟨by simp[hl],e'⟩⟩;rw[gB]at ed;obtain⟨p,e1,rfl⟩:=nG.mp ed;have hi:=(gh.mp e1).1;refine⟨⟨by omega,e'⟩,?_⟩;rintro x BR ⟨rfl,q,hq,rfl⟩;refine⟨.refl _ _,hs,?_⟩;rw[hk i p q e1 hq];exact ao.wJ _
def aV.fX{n:Nat}{mo R5:MO}{a:Addr}{o':HO}(h:aV K μ H st)(hn:st[n]? = some mo)(hm:mo.mut=true)(ha:μ[n]? = some a)(g:Ext H (upd H a o'))(new:fU K μ (upd H a o') a R5):aV K μ (upd H a o') (st.set n R5):=by
 have hl:=(gh.mp hn).1;refine⟨by simp[h.len],λk ok e=>?_,λi j b oi oj ei ej mi mj hi hj=>?_⟩
 ·by_cases hk:n=k
  ·subst hk;rw[m8 hl]at e;cases e;exact⟨a,ha,new⟩
  ·rw[gO hk]at e;obtain⟨b,h1,h2⟩:=h.at_ k ok e;refine⟨b,h1,h2.keep ⟨⟨[],by simp⟩,g⟩ λhmk u q=>?_⟩;rw[iy (λe2=>?_)]
   ·exact q
   ·subst e2;exact hk (h.uniq n k b mo ok hn e hm hmk ha h1)
 ·have key:∀(k:Nat) (ok:MO),(st.set n R5)[k]? = some ok->ok.mut=true->∃ok',st[k]? = some ok'/\ok'.mut=true:=λk ok ek mk=>by
   by_cases hk:n=k
   ·subst hk;exact⟨mo,hn,hm⟩
   ·rw[gO hk]at ek;exact⟨ok,ek,mk⟩
  obtain⟨oi',ei',mi'⟩:=key i oi ei mi;obtain⟨oj',ej',mj'⟩:=key j oj ej mj;exact h.uniq i j b oi' oj' ei' ej' mi' mj' hi hj
def abd(hl:JE X l ml):JI X tg l (Ti ml):=by
 refine JI.of (aaT hl) fun σ H R zz=>?_;obtain⟨μ,env,st,hE,hs,hp⟩:=zz;refine⟨μ,env,st,hE,hs,(bL.bind hp).imp ?_⟩;rintro v H1 ⟨μ1,st1,d,g1,bF,hv,aR⟩;dsimp only at aR
 split at aR
 ·rename_i n;obtain⟨a,q1,rfl⟩:=ao.aH.mp hv
  split at aR
  ·rename_i kvs e1;obtain⟨a',ws,r1,r2,r3⟩:=bF.dkc e1;rw[q1]at r1;cases r1;refine⟨a,ws,rfl,.inr ⟨r2,λo=>?_⟩⟩;have g:Ext H1 (upd H1 a (.frz o (.dK ws))):=Ext.mut r2 (λ_ z=>nomatch z) (λ_ _ z=>nomatch z);have g':bf μ1 H1 μ1 (upd H1 a (.frz o (.dK ws))):=⟨⟨[],by simp⟩,g⟩;exact aR _ _ μ1 g' (bF.fX e1 rfl q1 g ⟨ws,o,rm,r3.mono g'⟩) (A_ rm (r3.mono g'))
  ·rename_i kvs e1;obtain⟨a',r1,ws,o,r2,r3⟩:=bF.at_ n _ e1;rw[q1]at r1;cases r1;exact⟨a,ws,rfl,.inl ⟨o,r2,aR _ _ _ (.refl _ _) bF (A_ r2 r3)⟩⟩
  ·exact aR.elim
 ·exact aR.elim
def Wg(hu:X.A.units+1<cLine)(ha:JE X a ma)(hb:JE X b mb)(hs:Xu b:=by exact λ_ _=>rfl):JE X (.Subscript a b pos) (aD vJ ma mb):=by
 refine JE.of (Ox hu ha hb hs) fun σ H Q h=>?_;obtain⟨μ,env,st,hE,hs,hp⟩:=ZD h;refine⟨μ,env,st,hE,hs,hp.imp ?_⟩;rintro x H1 ⟨μ1,env1,st1,hE1,bF,aR⟩;refine⟨μ1,env1,st1,hE1,bF,aR.imp ?_⟩;rintro y H2 ⟨μ2,st2,dx,dy,iu,hx,hy,dq⟩;unfold vJ at dq
 split at dq
 ·rename_i n k
  split at dq
  ·rename_i kvs kk e1 e2;obtain⟨p,q1,rfl⟩:=ao.aH.mp hx;obtain rfl:=hy.key e2;obtain⟨p',ws,r1,r2,r3⟩:=iu.dkc e1;rw[q1]at r1;cases r1;rcases r3.valN (k:=kk) with⟨z1,z2⟩ | ⟨d',v',z1,z2,z3⟩
   ·rw[z1]at dq;exact dq.elim
   ·rw[z1]at dq;exact⟨p,v',rfl,by rw[<-z2];exact t8.k r2,dq.ret iu z3⟩
  ·rename_i kvs kk e1 e2;obtain⟨p,q1,rfl⟩:=ao.aH.mp hx;obtain rfl:=hy.key e2;obtain⟨p',r1,ws,o,r2,r3⟩:=iu.at_ _ _ e1;rw[q1]at r1;cases r1;rcases r3.valN (k:=kk) with⟨z1,z2⟩ | ⟨d',v',z1,z2,z3⟩
   ·rw[z1]at dq;exact dq.elim
   ·rw[z1]at dq;exact⟨p,v',rfl,.inl ⟨ws,kk,.inr ⟨o,r2⟩,rfl,z2.symm⟩,dq.ret iu z3⟩
  ·exact dq.elim
 ·exact dq.elim
end
end M
namespace L2
open PySem PySem.Spec PyProof.Rows
end L2
namespace M
open PySem PySem.Spec L2
noncomputable def adx(tb:List (List Nat×D)):List (Key×D):=tb.map λp=>(Sum.inr (strOf p.1),p.2)
structure aet(w:World)(K:PySem.W.Frag)(a:Addr)(tb:List (List Nat×D)):Prop where
 low:(a==sysModules)=false
 at_:∀P:Program,∃(kvs:List (Key×V)) (vs:List (Key×Value)) (ep:Nat),(∀μ H,aO K μ H (adx tb) kvs)/\KV kvs vs/\∀h:Heap,K.In h->h.DictAt (bG P w) a vs ep
inductive Rws (K:PySem.W.Frag) (w:World):List DictEntry->List (List Nat×D)->Prop
 | nil:Rws K w [] []
 | i {h:Int} {x:Str} {t u:Tok} {cs:List Nat} {n:Int} {es:List DictEntry} {tb:List (List Nat×D)} (hx:x=strOf cs) (hh:h=aa_ w (.inr x)) (r:Rws K w es tb):Rws K w (⟨h,.str x t,.int n u⟩::es) ((cs,.int n)::tb)
section
variable  {X:Cx}{tg b:Expr}{mb:ME}{pos pos':Pos}{x:Str}{tb:List (List Nat×D)}
end
end M
namespace M
open PySem PySem.Spec PySem.SeqAt L2
noncomputable def sE:List D->ak->R D
 | [.loc n],st=>match st[n]? with | some (.dkc kvs)=>.ok (.loc st.length) (st++[.dkc kvs]) | _=>.bad
 | _,_=>.bad
section
variable  {X:Cx}{L:Nat}
def zta:cG X (.type "dict") (Mg X sE):=by
 rintro pins s σ H xs us Q I rv ⟨μ,st,ds,hs,hv,hp⟩;unfold sE at hp
 split at hp
 ·rename_i n
  split at hp
  ·rename_i kvs e;obtain⟨v,rfl,q⟩:=aq.one hv;obtain⟨p,q1,rfl⟩:=ao.aH.mp q;obtain⟨u,rfl,ru⟩:=rv.one;cases ru;obtain⟨p',ws,r1,r2,r3⟩:=hs.dkc e;rw[q1]at r1;cases r1;refine Kz I (.inl r2) λl s' hn I'=>⟨.ref l,_,I',rfl,?_⟩;have g:=bf.new (μ:=μ) (o:=.dK ws) hn;have hr:fU X.K (μ++[l]) (upd H l (.dK ws)) l (.dkc kvs):=⟨ws,rm,r3.mono g⟩;exact hp _ _ (μ++[l]) g (hs.new hn hr) (ao.aH.mpr ⟨l,by rw[<-hs.len];simp,rfl⟩)
  ·exact hp.elim
 ·exact hp.elim
end
end M
namespace M
open PySem PySem.Spec L2
section
variable  {X:Cx}{b:Expr}{mb:ME}{x:Str}{tb:List (List Nat×D)}{dC apos pos':Pos}
end
end M
namespace L2
open PySem PySem.Spec PyProof.Rows
section
variable  {prog:Program}{w:World}{A:Around}{E:Value->Shared->Prop}{s:Shared}{d:Addr}{o:Obj}{es:Array DictEntry}{ep:Nat}
def zk6(hd:(d==sysModules)=false):MeetsIn prog w (Builtin.«dict.__len__» ⟨[.ref d],[]⟩) (λ_ R s=>∃o es ep,s.heap.get? d=some o/\o.data=.dict es ep/\R (.ok (.ret (.int es.size s.toks))) { s with toks:=s.toks+1 }) :=
 .of_wp λA R s zz=>by
  obtain⟨o,es,ep,ho,W6,h⟩:=zz;show wpAny _ _ (dictSize d >>= _) _ _ s;unfold dictSize;refine aeP (aeP (wpAny_dictEntries ho W6 (aeR ?_)));show wpAny _ _ (Builtin.Dict.pendingCount d >>= _) _ _ s;refine aeP (wpAny_pendingCount_other hd ?_);refine wpAny_ret_mkInt ?_;simpa using h
def Pq(hd:(d==sysModules)=false)(ho:s.heap.get? d=some o)(hx:o.ExactDict)(W6:o.data=.dict es ep)(abz:(es.size:Int)<2 ^ 63) 
  (h:Q (.int es.size (s.toks+1)) { s with toks:=s.toks+1+1 }):wpAny (model prog w) A (call (.builtin "len") [.ref d]) Q E s:=by
 have hT:s.TypeIs (.ref d) "dict":=⟨o,ho,hx.1⟩;refine Calls.call_function_entry PySem.kind_len PySem.plain_len PySem.entry_len (PySem.args_len1 _) ?_;unfold Builtin.«len»;refine aeP (m:=oneArg "len" _) (aeR ?_);refine aeP (m:=callSpecial? (.ref d) (Str.ofString "__len__")) (ae_ (name:=Str.ofString "__len__") hT F.slot_dict_len
  (afw F.slot_dict_len hT F.entry_dict_len (F.args_dict_len_1 _) (zk6 hd) ⟨o,es,ep,ho,W6,?_⟩))
 show wpAny _ _ _ _ _ { s with toks:=s.toks+1 };refine aeP (afi (aeR ?_));refine aeP (wpAny_letGo ?_);show wpAny _ _ (if (es.size:Int)<0 then _ else _) _ _ _;rw[aeS (by omega)];show wpAny _ _ (if (es.size:Int) ≥ 2 ^ 63 then _ else _) _ _ _;rw[aeS (by omega)];exact aeP (wpAny_mkInt (aeR ⟨_,rfl,h⟩))
end
end L2
namespace M
open PySem PySem.Spec L2
section
variable  {K:PySem.W.Frag}{μ ν:List Addr}{H H':Hp}{st st':ak}
end
noncomputable def vY(f:Str)(d:D):List (Str×D)->List (Str×D)
 | []=>[(f,d)]
 | (g,x)::r=>if g=f then (g,d)::r else (g,x)::vY f d r
noncomputable def cB(c f:Str)(m:ME):ME:=λenv st=>(m env st).bind λd st1=>match d with
 | .loc n=>(match st1[n]? with
  | some (.ins c' fs)=>if c'=c then (match fs.lookup f with | some x=>.ok x st1 | none=>.bad) else .bad
  | _=>.bad)
 | _=>.bad
noncomputable def cI(c f:Str)(mo mv:ME):MS:=λenv st=>(mv env st).bind λd st1=>(mo env st1).bind λx st2=>match x with
 | .loc n=>(match st2[n]? with
  | some (.ins c' fs)=>if c'=c/\fs.length<1000 then .ok (.nx env) (st2.set n (.ins c (vY f d fs))) else .bad
  | _=>.bad)
 | _=>.bad
noncomputable def iT(c:Str)(F:FD)(mA:MA):ME:=λenv st=>(mA env st).bind λas st1=>((F (.loc st1.length::as) (st1++[.ins c []])).sure).bind λd st2=>match d with
 | .non=>.ok (.loc st1.length) st2
 | _=>.bad
noncomputable def Al(c m:Str)(F:FD)(mo:ME)(mA:MA):ME:=λenv st=>(mo env st).bind λx st1=>match x with
 | .loc n=>(match st1[n]? with
  | some (.ins c' fs)=>if c'=c/\fs.lookup m=none then (mA env st1).bind λas st2=>(match st2[n]? with
   | some (.ins _ _)=>(F (.loc n::as) st2).sure
   | _=>.bad) else .bad
  | _=>.bad)
 | _=>.bad
noncomputable def dR:List D->ak->R D
 | [.loc n],st=>(match st[n]? with
  | some (.dic kvs)=>.ok (.int kvs.length) st
  | some (.dkc kvs)=>.ok (.int kvs.length) st
  | _=>vI [.loc n] st)
 | ds,st=>vI ds st
section
variable  {X:Cx}{K:PySem.W.Frag}{μ:List Addr}{H:Hp}{e o a b value:Expr}{es:List Expr}{me mo mv ma mb:ME}{mA:MA}{pos pos' apos p:Pos}{c f m x:Str}{C g:Addr}{F:FD}{fd:FuncData}{ps:List Str}{k:Nat}
theorem aO.look:∀{fs:List (Str×D)} {ws:List (Str×V)},aO K μ H fs ws->(fs.lookup f=none/\ws.lookup f=none)\/∃d v,fs.lookup f=some d/\ws.lookup f=some v/\ao K μ H d v
 | [],ws,h=>by rw[aO]at h;subst h;exact .inl ⟨rfl,rfl⟩
 | (j,d)::r,ws,h=>by
  obtain⟨v,r',rfl,h1,h2⟩:=h;by_cases q:f=j
  ·subst q;exact .inr ⟨d,v,by simp[List.lookup],by simp[List.lookup],h1⟩
  ·have q':(f==j)=false:=by simpa using q
   simp only[List.lookup,q'];exact aO.look h2
theorem aO.fX(hv:ao K μ H d v):∀{fs:List (Str×D)} {ws:List (Str×V)},aO K μ H fs ws->aO K μ H (vY f d fs) (L2.fX f v ws)
 | [],ws,h=>by rw[aO]at h;subst h;exact⟨v,[],rfl,hv,rfl⟩
 | (j,d')::r,ws,h=>by
  obtain⟨v',r',rfl,h1,h2⟩:=h;unfold vY L2.fX;by_cases q:j=f
  ·rw[aeQ q,aeQ q];exact⟨v,r',rfl,hv,h2⟩
  ·rw[aeS q,aeS q];exact⟨v',_,rfl,h1,aO.fX hv h2⟩
def Wj(h0:PySem.W.nsIn X.K mainGlobals c=some (some (.ref C)))(hc:BW X.K C)(hn:iJ X.K C f)(he:JE X e me)(hb:attributeBase e f X.env (eval e X.env)=eval e X.env:=by rfl):JE X (.Attribute e f pos) (cB c f me):=by
 refine JE.of (Vq he hb) fun σ H Q zz=>?_;obtain⟨μ,env,st,hE,hs,hp⟩:=zz;refine⟨μ,env,st,hE,hs,(bL.bind hp).imp ?_⟩;rintro v H1 ⟨μ1,st1,d,g1,bF,hx,aR⟩;dsimp only at aR
 split at aR
 ·rename_i n
  split at aR
  ·rename_i c' fs e1
   split at aR
   ·rename_i ec;subst ec;obtain⟨p,q1,rfl⟩:=ao.aH.mp hx;obtain⟨p',r1,C',dx,ws,r2,r3,r4⟩:=bF.at_ n _ e1;rw[q1]at r1;cases r1;rw[h0]at r2;cases r2;rcases r4.look (f:=f) with⟨z1,z2⟩ | ⟨d',v',z1,z2,z3⟩
    ·rw[z1]at aR;exact aR.elim
    ·rw[z1]at aR;exact⟨p,C,dx,ws,v',rfl,r3,hc,hn,z2,aR.ret bF z3⟩
   ·exact aR.elim
  ·exact aR.elim
 ·exact aR.elim
def zc(h0:PySem.W.nsIn X.K mainGlobals c=some (some (.ref C)))(hc:BW X.K C)(hn:iJ X.K C f)(ho:JE X o mo)(hv:JE X value mv)(hs:swapsWith value (some (.Attribute o f pos')) pos.line X.env=pure false:=by rfl) :
  JS X (.Assign [.Attribute o f pos'] value pos) (cI c f mo mv):=by
 refine JS.of (Va ho hv hs) λE σ H zz=>?_;obtain⟨μ,env,st,hE,hs,hp⟩:=zz;refine⟨μ,env,st,hE,hs,hp.val.imp ?_⟩;rintro y H1 ⟨μ1,st1,d,g1,bF,hy,aR⟩;refine⟨μ1,env,st1,hE.mono g1,bF,aR.val.imp ?_⟩;rintro z H2 ⟨μ2,st2,d2,g2,iu,hz,dq⟩
 try dsimp only at dq
 split at dq
 ·rename_i n
  split at dq
  ·rename_i c' fs e1
   split at dq
   ·rename_i ec;obtain⟨ec,hl⟩:=ec;subst ec;obtain⟨p,q1,rfl⟩:=ao.aH.mp hz;obtain⟨p',r1,C',dx,ws,r2,r3,r4⟩:=iu.at_ n _ e1;rw[q1]at r1;cases r1;rw[h0]at r2;cases r2;have hll:ws.length<1000:=by rw[<-r4.len];exact hl
    have gg:Ext H2 (upd H2 p (.ins C dx (L2.fX f y ws))):=Ext.mut r3 (λ_ z=>nomatch z) (λ_ _ z=>nomatch z);have g':bf μ2 H2 μ2 (upd H2 p (.ins C dx (L2.fX f y ws))):=⟨⟨[],by simp⟩,gg⟩;refine⟨p,C,dx,ws,rfl,r3,hc,hn,hll,dq σ _ μ2 g' (iu.put e1 rfl rfl q1 gg ⟨C,dx,_,h0,rm,(r4.fX (hy.mono g2 _)).mono g'⟩) (((hE.mono g1).mono g2).mono g')⟩
   ·exact dq.elim
  ·exact dq.elim
 ·exact dq.elim
def zol(h0:PySem.W.nsIn X.K mainGlobals c=some (some (.ref C)))(MK:Mk X.K C g)(G:cQ X.prog X.w X.K X.mg X.base rn k g fd ps (vV X.K ps.length F))(hr:cR (k+1) X.A)(hm:X.mg c=some (.ref C))(hb:Binds X.K fd ps [])(ha:JA X (e::es) mA)
  (hlen:(e::es).length+1=ps.length:=by rfl) (hg:Gl X c:=by rfl) (qK:(c==("__debug__":Str))=false:=by decide) (he:starEach (e::es) X.env=(false,eval e X.env)::starEach es X.env:=by rfl) (ou:(backTo pos (starEach es X.env)).any (·.1)=false:=by rfl)
  (hA:∀env st as st1,mA env st=.ok as st1->as.length=(e::es).length:=by intros;rfl):JE X (.Call (.Name c p) (e::es) [] pos) (iT c F mA):=by
 refine JE.of (Ou MK G hr hg hm hb .nil z8 ha qK he ou) fun σ H Q zz=>?_;obtain⟨μ,env,st,hE,hs,hp⟩:=zz;refine⟨μ,env,st,hE,hs,?_⟩;cases hq:mA env st with
 | bad=>unfold iT at hp;rw[hq]at hp;exact hp
 | err y st1=>unfold iT at hp;rw[hq]at hp;exact hp
 | ok as st1 =>
  unfold iT at hp;rw[hq]at hp;intro vs H1 μ1 g1 bF hv x dx hx hdx uf;have Qu:upd H1 dx (.own x) x=none:=by rw[iy (ae1 uf)];exact hx
  have ext1:Ext H1 (upd H1 dx (.own x)):=Ext.new hdx;have gd:bf μ1 H1 μ1 (upd H1 dx (.own x)):=⟨⟨[],by simp⟩,ext1⟩;have iu:aV X.K μ1 (upd H1 dx (.own x)) st1:=bF.lay hdx;have hr3:fU X.K (μ1++[x]) (upd (upd H1 dx (.own x)) x (.ins C dx [])) x (.ins c []):=⟨C,dx,[],h0,rm,rfl⟩;have xR:=iu.new Qu hr3;have gn:bf μ1 (upd H1 dx (.own x)) (μ1++[x]) (upd (upd H1 dx (.own x)) x (.ins C dx [])):=bf.new Qu;have hv3:aq X.K (μ1++[x]) (upd (upd H1 dx (.own x)) x (.ins C dx [])) (.loc st1.length::as) (.ref x::vs):=aq.cons (ao.aH.mpr ⟨x,by rw[<-bF.len];simp,rfl⟩) ((hv.mono gd _).mono gn _);have Mp:(V.ref x::(vs++[])).length=ps.length:=by
   have:=hA env st as st1 hq;have:=hv.length;simp only[gR,gr]at *;omega
  rw[gR]at Mp ⊢;refine⟨Mp,μ1++[x],.loc st1.length::as,st1++[.ins c []],hv3,xR,?_⟩;cases hF:F (.loc st1.length::as) (st1++[.ins c []]) with
  | bad=>rw[R.aB,hF]at hp;exact hp.elim
  | err y st2=>rw[R.aB,hF]at hp;exact hp.elim
  | ok d st2 =>
   rw[R.aB,hF]at hp;intro v H' μ' g' oN hvd;have adY:bf μ H μ' H':=(g1.trans gd).trans (gn.trans g');cases d with
   | non =>
    refine⟨ao.bK.mp hvd,hp (.ref x) H' μ' adY oN (ao.aH.mpr ⟨x,g'.get (by rw[<-bF.len];simp),rfl⟩)⟩
   | _=>exact hp.elim
def Ju{pl:Sem Bool}(h0:PySem.W.nsIn X.K mainGlobals c=some (some (.ref C)))(hc:BW X.K C)(hm:Meth X.K C m g)(G:cQ X.prog X.w X.K X.mg X.base rn k g fd ps (vV X.K ps.length F))(hr:cR k X.A)(hb:Binds X.K fd ps [])(ho:JE X o mo)(ha:JA X (e::es) mA)
  (hlen:(e::es).length+1=ps.length:=by rfl) (Ec:starEach (e::es) X.env=(false,eval e X.env)::starEach es X.env:=by rfl) (ou:(backTo pos (starEach es X.env)).any (·.1)=false:=by rfl)
  (ht:eval (.Call (.Attribute o m apos) (e::es) [] pos) X.env=(do
   let ov <-eval o X.env
   standAt apos.atName
   let (f,first) <-holding [ov] (getMethod ov m pl)
   callWith pos f first (backTo pos (starEach (e::es) X.env)) (backToKw pos (keywordEach [] X.env))):=by rfl)
  (hA:∀env st as st1,mA env st=.ok as st1->as.length=(e::es).length:=by intros;rfl):JE X (.Call (.Attribute o m apos) (e::es) [] pos) (Al c m F mo mA):=by
 refine JE.of (Ot ho hc hm G hr hb .nil z8 ha Ec ou ht) fun σ H Q zz=>?_;obtain⟨μ,env,st,hE,hs,hp⟩:=zz;refine⟨μ,env,st,hE,hs,(bL.bind hp).imp ?_⟩;rintro v H1 ⟨μ1,st1,d,g1,bF,hx,aR⟩;dsimp only at aR
 split at aR
 ·rename_i n
  split at aR
  ·rename_i c' fs e1
   split at aR
   ·rename_i ec;obtain⟨ec,hl⟩:=ec;subst ec;obtain⟨p,q1,rfl⟩:=ao.aH.mp hx;obtain⟨p',r1,C',dx,ws,r2,r3,r4⟩:=bF.at_ n _ e1;rw[q1]at r1;cases r1;rw[h0]at r2;cases r2;have Mp:ws.lookup m=none:=by
     rcases r4.look (f:=m) with⟨_,z2⟩ | ⟨d',v',z1,_,_⟩
     ·exact z2
     ·rw[hl]at z1;cases z1
    refine⟨p,dx,ws,rfl,r3,Mp,μ1,env,st1,hE.mono g1,bF,?_⟩;cases hq:mA env st1 with
    | bad=>rw[hq]at aR;exact aR
    | err y st2=>rw[hq]at aR;exact aR
    | ok as st2 =>
     rw[hq,R.aB]at aR;intro vs H2 μ2 g2 iu hv
     split at aR
     ·rename_i c2 fs2 e2;have hv3:aq X.K μ2 H2 (.loc n::as) (.ref p::vs):=aq.cons (ao.aH.mpr ⟨p,g2.get q1,rfl⟩) hv;have hll:(V.ref p::(vs++[])).length=ps.length:=by
       have:=hA env st1 as st2 hq;have:=hv.length;simp only[gR,gr]at *;omega
      rw[gR]at hll ⊢;refine⟨hll,μ2,.loc n::as,st2,hv3,iu,?_⟩;cases hF:F (.loc n::as) st2 with
      | bad=>rw[hF]at aR;exact aR.elim
      | err y fV=>rw[hF]at aR;exact aR.elim
      | ok d fV =>
       rw[hF]at aR;intro v H' μ' g' oN hvd;exact aR v H' μ' (g2.trans g') oN hvd
     ·exact aR.elim
   ·exact aR.elim
  ·exact aR.elim
 ·exact aR.elim
def Ez:cG X (.builtin "len") (Mg X dR):=by
 rintro pins s σ H xs us Q I rv ⟨μ,st,ds,hs,hv,hp⟩;unfold dR at hp
 split at hp
 ·rename_i n
  split at hp
  ·rename_i kvs e1;obtain⟨v,rfl,q⟩:=aq.one hv;obtain⟨p,q1,rfl⟩:=ao.aH.mp q;obtain⟨u,rfl,ru⟩:=rv.one;cases ru;obtain⟨p',ws,r1,r2,r3⟩:=hs.dic e1;rw[q1]at r1;cases r1;obtain⟨z,y,xs,r,o,es,ep,h1,h2,h3,h4,h5⟩:=(show bY X.prog X.w H s.heap p (.dT ws) from I.bN p _ r2);have hl:es.size=kvs.length:=by
    rw[r3.len,afa r,<-nM,h4,gm]
   refine Pq y h1 h2 h3 (by rw[hl,r3.len];rw[afr]at z;omega) ?_;rw[hl];exact⟨.int kvs.length,H,I.tok _,⟨_,rfl⟩,hp.ret hs (ao.aN.mpr rfl)⟩
  ·rename_i kvs e1;obtain⟨v,rfl,q⟩:=aq.one hv;obtain⟨p,q1,rfl⟩:=ao.aH.mp q;obtain⟨u,rfl,ru⟩:=rv.one;cases ru;obtain⟨p',ws,r1,r2,r3⟩:=hs.dkc e1;rw[q1]at r1;cases r1;refine abM I (.inl r2) λt s' I'=>?_;rw[<-r3.len];exact⟨.int kvs.length,H,I',⟨_,rfl⟩,hp.ret hs (ao.aN.mpr rfl)⟩
  ·exact zos pins s σ H xs us Q I rv ⟨μ,st,_,hs,hv,hp⟩
 ·exact zos pins s σ H xs us Q I rv ⟨μ,st,_,hs,hv,hp⟩
end
end M
namespace M
open PySem
noncomputable def wU:Stmt->List Stmt
 | .ClassDef _ _ _ body _ _ _ _ _ _ _=>body
 | _=>[]
end M
namespace L2
open PySem PySem.Spec PyProof.Rows
def Ex(hc:X.A.handled=none):cG X (.builtin "sum") (λxs H Q=>∃(p:Addr) (ns:List Int),xs=[.ref p]/\lR X.K H p (ns.map V.int)/\Q (.int ns.sum) H):=by
 rintro pins s σ H xs us Q I hr ⟨p,ns,rfl,hq,h⟩;cases hr with
 | cons r1 r2 =>
  cases r2;cases r1;obtain⟨its,rv,pl,hz⟩:=I.tuple hq;have hi:IntsAre its ns:=by
   have key:∀(ns:List Int) (its:List Value),Vals (ns.map V.int) its->IntsAre its ns:=by
    intro ns
    induction ns with
    | nil=>intro its h;cases h;exact .nil
    | cons n ns ih =>
     intro its h;cases h with
     | cons r1 r2 =>
      obtain⟨t,rfl⟩:=r1;exact .cons n t (ih _ r2)
   exact key ns its rv
  obtain⟨m,hm,_⟩:=id I.loc;have hl:s.heap.IsTuple p its.toArray:=pl;obtain⟨xs,hx⟩:=hi.allInts.items;have hn:numsOf its.toArray.toList=ns:=by rw[show its.toArray.toList=its from rfl,hi.numsOf]
  rw[hx]at hl hn;rw[nums_intItems]at hn;refine PySem.W.ktm_sumG hc hl λh' tk t' hk=>?_;rw[preSum_eq,List.take_of_length_le (by simp),hn];refine⟨.int ns.sum,H,I.but (λb ob hb e=>hk b ob e) (λm' WQ=>?_),⟨t',rfl⟩,h⟩;exact ((Zw.Kd WQ).keeps hk).ns
end L2
namespace M
open PySem PySem.Spec L2
noncomputable def xG:List D->ak->R D
 | [.tup ds],st=>match intsOf ds with | some ns=>.ok (.int ns.sum) st | none=>.bad
 | ds,st=>GJ ds st
def Eu(hc:X.A.handled=none):cG X (.builtin "sum") (Mg X xG):=by
 rintro pins s σ H xs us Q I rv ⟨μ,st,ds,hs,hv,hp⟩;unfold xG at hp
 split at hp
 ·rename_i l;cases e2:intsOf l with
  | none=>simp only[e2]at hp;exact hp.elim
  | some ns =>
   simp only[e2]at hp;obtain⟨v,rfl,q⟩:=aq.one hv;obtain⟨p,ys,rfl,r2,r3⟩:=ao.aU.mp q;rw[zkz e2 r3]at r2;exact Ex hc _ _ _ _ _ _ _ I rv ⟨p,ns,rfl,r2.pN,hp.ret hs (ao.aN.mpr rfl)⟩
 ·exact Ew hc _ _ _ _ _ _ _ I rv ⟨μ,st,_,hs,hv,hp⟩
end M
namespace L2
open PySem PySem.Spec PyProof.Rows
section
variable  {P:Program}{w:World}{A:Around}{E:Value->Shared->Prop}{s:Shared}{d it:Addr}{od:Obj}{es:Array DictEntry}{i ep:Nat}
end
end L2
namespace M
open PySem PySem.Spec L2
section
variable  {X:Cx}{tg l a b:Expr}{ml ma mb:ME}{μ:List Addr}{H:Hp}{K:PySem.W.Frag}{st:ak}{pos:Pos}
end
def Xb{N P:List Str}{sc:Scope}(h1:sc.kind=.function:=by rfl)(h2:sc.isCoroutine=false:=by rfl)(h3:sc.isGenerator=false:=by rfl)(h4:N.Nodup:=by decide +kernel)(h5:N.take P.length=P:=by rfl)(h6:∀x∈P,sc.names.lookup x=some .local\/sc.names.lookup x=some .cell:=by decide +kernel)(h7:∀y∈sc.names,y.2≠.free:=by decide +kernel):dX N P sc:=⟨h1,h2,h3,h4,h5,h6,h7⟩
section
variable  {X:Cx}
def abi{k k':Nat}{f:Addr}{fd:FuncData}{ps:List Str}{F:FD}{x:Str}{e:Expr}{es:List Expr}{mA:MA}{p pos:Pos}(G:cQ X.prog X.w X.K X.mg X.base rn k f fd ps (vV X.K ps.length F))(hr:cR k' X.A)(hm:X.mg x=some (.ref f))(hk:PySem.W.keepIn X.K (.ref f)=true)(hb:Binds X.K fd ps [])(ha:JA X (e::es) mA)
  (hA:∀env st as st1,mA env st=.ok as st1->as.length=(e::es).length) (WR:k<=k':=by decide) (hlen:(e::es).length+([]:List V).length=ps.length:=by rfl) (hg:Gl X x:=by rfl) (qK:(x==("__debug__":Str))=false:=by decide) (he:starEach (e::es) X.env=(false,eval e X.env)::starEach es X.env:=by rfl) (ou:(backTo pos (starEach es X.env)).any (·.1)=false:=by rfl) :
  JE X (.Call (.Name x p) (e::es) [] pos) (az F [] mA):=Qe (G.mono WR) hr hm hk hb .nil (λ_ _=>aq.nil) ha hlen hg qK he ou hA
def zf{o e:Expr}{mo:ME}{mA:MA}{apos dC:Pos}(ho:JE X o mo)(ha:JA X [e] mA)(qN:attributeBase o "append" X.env (eval o X.env)=eval o X.env:=by rfl)
  (uO:((backTo dC (starEach [e] X.env)).all (λx=>!x.1) && (backToKw dC (keywordEach [] X.env)).all (λx=>x.1.isSome)
   && decide ([e].length+([]:List Keyword).length+(if ([]:List Keyword).isEmpty then 0 else 1)<30))=true:=by rfl)
  (hline:(apos.endLine==dC.line)=true:=by rfl) (hs:starEach [e] X.env=(false,eval e X.env)::starEach [] X.env:=by rfl) (uN:(backTo dC (starEach [] X.env)).any (·.1)=false:=by rfl):JE X (.Call (.Attribute o "append" apos) [e] [] dC) (cJ "list" a_ mo mA) :=
 Ry ae7 PySem.F.slot_list_append PySem.F.type_list_append zsu ho ha qN uO hline hs uN
end
end M
namespace L2
open PySem PySem.Spec PyProof.Rows
namespace Rv
def owner:Manifest.owners.lookup (String.ofList ['d','e','s','r','e','v','e','r'].reverse)=some Manifest.sig_reversed:=by kernel_rfl
def CP:Slot "reversed" "__init__" "object.__init__" :=
 .of (owner:="object") (n:="__init__") (by rw[afq,afc];kernel_rfl) (by decide +kernel) (by decide +kernel) (by decide +kernel)
  (by first | exact .inl (by decide +kernel) | exact .inr (by decide +kernel)) (by rw[afx];kernel_rfl)
def slot_next:Slot "reversed" "__next__" "reversed.__next__" :=
 .of (owner:="reversed") (n:="__next__") (by rw[afq,afc];kernel_rfl) (by decide +kernel) (by decide +kernel) (by decide +kernel)
  (by first | exact .inl (by decide +kernel) | exact .inr (by decide +kernel)) (by rw[afx];kernel_rfl)
def zn1:Slot "reversed" "__iter__" "reversed.__iter__" :=
 .of (owner:="reversed") (n:="__iter__") (by rw[afq,afc];kernel_rfl) (by decide +kernel) (by decide +kernel) (by decide +kernel)
  (by first | exact .inl (by decide +kernel) | exact .inr (by decide +kernel)) (by rw[afx];kernel_rfl)
def entry_next:entryFor table "reversed.__next__" = some Builtin.«reversed.__next__»:=entryFor_of_tree (by kernel_rfl)
def zsw:entryFor table "reversed.__iter__" = some Builtin.«dict_keyiterator.__iter__» :=
 entryFor_alias (id':="dict_keyiterator.__iter__") (by kernel_rfl) (by first | rfl | decide +kernel | (unfold String.splitOn;simp +decide [String.splitOnAux])) (by decide +kernel) (by kernel_rfl)
def args_next(a:Value):argsOk "reversed.__next__" ⟨[a],[]⟩:=by
 unfold argsOk;rw[signature?_of (id:="reversed.__next__") (n:=['_','_','t','x','e','n','_','_']) (o:=['d','e','s','r','e','v','e','r']) (by kernel_rfl) owner];kernel_rfl
def Fq(a:Value):argsOk "reversed.__iter__" ⟨[a],[]⟩:=by
 unfold argsOk;rw[signature?_of (id:="reversed.__iter__") (n:=['_','_','r','e','t','i','_','_']) (o:=['d','e','s','r','e','v','e','r']) (by kernel_rfl) owner];kernel_rfl
def called:TypeCalled "reversed" "reversed.__new__" "object.__init__" :=
 ⟨by decide +kernel,by decide +kernel,⟨_,_,F.mro_reversed⟩,F.made_reversed,by decide +kernel,by rw[afx];kernel_rfl,CP⟩
def CK:typeLookup (.type "str") "__reversed__" = pure none:=by rw[afq,afc];kernel_rfl
def Cy:typeLookup (.type "tuple") "__reversed__" = pure none:=by rw[afq,afc];kernel_rfl
def zq5:isSubtype (.type "tuple") (.type "dict")=pure false:=by rw[afx];kernel_rfl
noncomputable def ob(q:Value)(i:Int):Obj:={ cls:=.type "reversed",data:=.fields #[q,rawInt i] }
def At(h:Heap)(a:Addr)(q:Value)(i:Int):Prop:=∃o,h.get? a=some o/\o.cls=.type "reversed"/\o.data=.fields #[q,rawInt i]
def At.typeIs{s:Shared}{a:Addr}{q:Value}{i:Int}(x:At s.heap a q i):s.TypeIs (.ref a) "reversed":=let ⟨o,ho,hc,_⟩:=x;⟨o,ho,hc⟩
section
variable  {prog:Program}{w:World}{A:Around}{E:Value->Shared->Prop}{s:Shared}
def Pg(x:Str)(t:Tok)(hx:x.length<=sizeLine):MeetsIn prog w (Builtin.«reversed.__new__» ⟨[.type "reversed",.str x t],[]⟩)
  (λA R s=>R (.ok (.ret (.ref s.heap.objs.size))) { s with toks:=s.toks+2,heap:=s.heap.push (ob (.str x t) ((x.length:Int) - 1)) }) :=
 .of_wp λA R s h=>by
  have hn:=iB;unfold Builtin.«reversed.__new__»;refine aeP (ae9 (newClass_reversed _) ?_)
  try dsimp only
  refine aeP (ae9 (a:=()) (by first | rfl | kernel_rfl) ?_);refine aeP (ae9 (a:=()) (by first | rfl | kernel_rfl) ?_)
  try dsimp only
  refine aeP (afp (T:="str") (typeIs_str s x t) CK ?_)
  try dsimp only
  refine aeP (aeR ?_);rw[aeS (by decide)];refine aeP (P.len_str (by omega) ?_);refine aeP (ae9 (a:=some (x.length:Int)) rfl ?_);show wpAny _ _ (newObj (.type "reversed") (.fields #[.str x t,rawInt ((x.length:Int) - 1)]) >>= _) _ _ _;refine aeP (ae8 ?_ (by size_fits));exact aeR ⟨_,rfl,h⟩
def Pb(a:Addr)(items:Array Value):MeetsIn prog w (Builtin.«reversed.__new__» ⟨[.type "reversed",.ref a],[]⟩)
  (λA R s=>IsTup s.heap a items/\items.size<=sizeLine/\R (.ok (.ret (.ref s.heap.objs.size))) { s with toks:=s.toks+2,heap:=s.heap.push (ob (.ref a) ((items.size:Int) - 1)) }) :=
 .of_wp λA R s zz=>by
  obtain⟨ht,hx,h⟩:=zz;have hn:=iB;unfold Builtin.«reversed.__new__»;refine aeP (ae9 (newClass_reversed _) ?_)
  try dsimp only
  refine aeP (ae9 (a:=()) (by first | rfl | kernel_rfl) ?_);refine aeP (ae9 (a:=()) (by first | rfl | kernel_rfl) ?_)
  try dsimp only
  refine aeP (afp (T:="tuple") ht.typeIs Cy ?_)
  try dsimp only
  refine aeP ?_;show wpAny _ _ (isInstance (.ref a) (.type "dict") >>= _) _ _ _;refine aeP (wpAny_isInstance ht.typeIs zq5 ?_);show wpAny _ _ (specialOf (.ref a) "__getitem__" >>= _) _ _ _;refine aeP (afp ht.typeIs slot_tuple_getitem.lookup ?_);refine aeR ?_;rw[aeS (by decide)];refine aeP (len_tuple ht (by omega) ?_);refine aeP (ae9 (a:=some (items.size:Int)) rfl ?_);show wpAny _ _ (newObj (.type "reversed") (.fields #[.ref a,rawInt ((items.size:Int) - 1)]) >>= _) _ _ _;refine aeP (ae8 ?_ (by size_fits));exact aeR ⟨_,rfl,h⟩
def K3{x:Str}{t:Tok}{Q:Value->Shared->Prop}(hx:x.length<=sizeLine)(h:Q (.ref s.heap.objs.size) { s with toks:=s.toks+2,heap:=s.heap.push (ob (.str x t) ((x.length:Int) - 1)) }) :
  wpAny (model prog w) A (call (.type "reversed") [.str x t]) Q E s :=
 callType_newIn called (by decide) (F.typeCall_reversed_1 _) (F.newCall_reversed_1 _) (λobj=>F.args_object_init_2 obj _) F.entry_reversed_new (Pg x t hx) ⟨⟨_,gZ _ rfl,rfl⟩,h⟩
def KZ{a:Addr}{items:Array Value}{Q:Value->Shared->Prop}(ht:IsTup s.heap a items)(hx:items.size<=sizeLine)(h:Q (.ref s.heap.objs.size) { s with toks:=s.toks+2,heap:=s.heap.push (ob (.ref a) ((items.size:Int) - 1)) }) :
  wpAny (model prog w) A (call (.type "reversed") [.ref a]) Q E s :=
 callType_newIn called (by decide) (F.typeCall_reversed_1 _) (F.newCall_reversed_1 _) (λobj=>F.args_object_init_2 obj _) F.entry_reversed_new (Pb a items) ⟨ht,hx,⟨_,gZ _ rfl,rfl⟩,h⟩
def next_item{it:Addr}{q u:Value}{T gid:String}{i:Nat}{k:Tok}{Q:Option Value->Shared->Prop}(hit:At s.heap it q (i:Int))(hT:s.TypeIs q T)(sl:Slot T "__getitem__" gid)
  (get:∀(A':Around) (Q':Value->Shared->Prop) (E':Value->Shared->Prop),Q' u { s with toks:=s.toks+1+k }->wpAny (model prog w) A' (getItem q (.int i s.toks)) Q' E' { s with toks:=s.toks+1 })
  (hQ:∀h',At h' it q ((i:Int) - 1)->Heap.SameBut it s.heap h'->Q (some u) { s with toks:=s.toks+1+k,heap:=h' }):wpAny (model prog w) A (pyNext (.ref it)) Q E s:=by
 obtain⟨o,ho,hc,hd⟩:=id hit;unfold pyNext;refine aeP (wpAny_attempt (ae_ (name:=Str.ofString "__next__") hit.typeIs slot_next (afn slot_next hit.typeIs entry_next ?_ (args_next _))));unfold Builtin.«reversed.__next__»;refine aeP (ae9 (a:=(Value.ref it,[])) rfl ?_)
 try dsimp only
 refine aeP (afl ho hd (x:=q) rfl ?_);refine aeP (afl ho hd (x:=rawInt (i:Int)) rfl ?_);show wpAny _ _ (if (i:Int)<0 then _ else _) _ _ s;rw[aeS (by omega)];refine aeP (afp hT sl.lookup ?_);rw[aeS (by simp)];refine aeP (wpAny_mkInt ?_);refine aeP (wpAny_attempt (get _ _ _ ?_));dsimp only;refine aeP (afl (s:={ s with toks:=s.toks+1+k }) ho hd (x:=rawInt (i:Int)) rfl ?_);show wpAny _ _ (setField (.ref it) 1 (rawInt ((i:Int) - 1)) >>= _) _ _ _;refine aeP (wpAny_setField (s:={ s with toks:=s.toks+1+k }) ho hd (by simp) ?_);refine aeR ⟨_,rfl,aeR (hQ _ ?_ (aft ..))⟩;exact⟨_,pI _ ho (Obj.isFreed_of_fields (Obj.data_mapFields hd _)),(Obj.cls_mapFields ..).trans hc,by rw[Obj.data_mapFields hd];simp⟩
def next_end{it:Addr}{q:Value}{Q:Option Value->Shared->Prop}(hh:A.handled=none)(hit:At s.heap it q (-1))(hQ:∀h',Heap.ExtBut it s.heap h'->Q none { s with heap:=h' }):wpAny (model prog w) A (pyNext (.ref it)) Q E s:=by
 obtain⟨o,ho,hc,hd⟩:=id hit;unfold pyNext;refine aeP (wpAny_attempt (ae_ (name:=Str.ofString "__next__") hit.typeIs slot_next (afn slot_next hit.typeIs entry_next ?_ (args_next _))));unfold Builtin.«reversed.__next__»;refine aeP (ae9 (a:=(Value.ref it,[])) rfl ?_)
 try dsimp only
 refine aeP (afl ho hd (x:=q) rfl ?_);refine aeP (afl ho hd (x:=rawInt (-1)) rfl ?_);show wpAny _ _ (if (-1:Int)<0 then _ else _) _ _ s;rw[aeQ (by decide)];refine aeP (wpAny_rule ?_);refine aeP ?_;show wpAny _ _ (setField (.ref it) 1 (rawInt (-1)) >>= _) _ _ _;refine aeP (wpAny_setField ho hd (by simp) ?_);have hd1:=Obj.data_mapFields hd (λvs=>vs.set! 1 (rawInt (-1)));have ho1:=pI (λo=>o.mapFields λvs=>vs.set! 1 (rawInt (-1))) ho (Obj.isFreed_of_fields hd1);refine wpAny_setField ho1 hd1 (by simp) ?_;refine aeP ?_;unfold Builtin.SmallTypes.stopIteration newExc newTuple raiseNew
 wp_walk
 refine ae9 isSubtype_stop ?_;rw[aeQ rfl];refine aeR (hQ _ λb o hb e=>g8 _ (g8 _ ?_));exact (aft ..).extBut b o hb ((aft ..).extBut b o hb e)
def zh1{it:Addr}{q:Value}{i:Int}{Q:Value->Shared->Prop}(hit:At s.heap it q i)(h:Q (.ref it) s):wpAny (model prog w) A (pyIter (.ref it)) Q E s:=by
 refine wpAny_pyIter_slot hit.typeIs zn1 (afn zn1 hit.typeIs zsw ?_ (Fq _));show wpAny _ _ (ret (.ref it)) _ _ s;exact aeR ⟨_,rfl,"reversed",_,hit.typeIs,slot_next.lookup,h⟩
end
end Rv
end L2
namespace L2
open PySem PySem.Spec PyProof.Rows
noncomputable def Xw(x:Str):It :=
 ⟨λi _=>i<x.cps.size,λi H y H'=>H'=H/\∃c,x.cps[x.cps.size - 1 - i]? = some c/\y=.str ⟨#[c]⟩,λi _=>i=x.cps.size⟩
def Cu{P:Program}{w:World}{K:PySem.W.Frag}{tg:Expr}(x:Str)(t:Tok)(hx:x.cps.size<=sizeLine)(it:Addr):Turn P w K tg (Xw x) [it] it (λi h=>Rv.At h it (.str x t) ((x.cps.size:Int) - 1 - (i:Nat))) where
 mem:=gW.mpr rfl
 obj:=λi h st b hb=>by
  obtain rfl:=gW.mp hb;obtain⟨o,e,_,d⟩:=st;exact⟨o,e,λv z=>by rw[d]at z;cases z⟩
 keep:=λi h h' ⟨o,e,r⟩ k=>⟨o,k it (gW.mpr rfl) o e,r⟩
 item:=by
  intro X hP hw hK hc i pins s σ H E I hf st hg;subst hP hw hK;have hi:i<x.cps.size:=hg;have hl:=iB;obtain⟨f0,f1,f2,f3,f4,f5⟩:=hf it (gW.mpr rfl);rw[show (x.cps.size:Int) - 1 - (i:Nat)=((x.cps.size - 1 - i:Nat):Int) by omega]at st;obtain⟨c,W7⟩:∃c,x.cps[x.cps.size - 1 - i]? = some c:=⟨_,pJ (by omega)⟩;refine Rv.next_item (k:=1) (u:=.str ⟨#[c]⟩ (s.toks+1)) (T:="str") st (typeIs_str s x t) PySem.F.slot_str_getitem (λA' Q' E' q=>P.getItem_str (c:=c) ?_ ?_ q) λh' st' sb=>?_
  ·have h1:¬ (((x.cps.size - 1 - i:Nat):Int) < -(2 ^ 63:Int)):=by omega
   have h2:¬ (((x.cps.size - 1 - i:Nat):Int) ≥ 2 ^ 63):=by omega
   rw[aeT h1,aeT h2];rfl
  ·have e:seqIndex? ((x.cps.size - 1 - i:Nat):Int) x.length=some (x.cps.size - 1 - i):=by
    unfold seqIndex?;have:x.length=x.cps.size:=rfl;simp only[this]
    split
    ·omega
    ·simp;omega
   rw[e];exact W7
  ·have I1:Inv X pins σ H { s with toks:=s.toks+1+1,heap:=h' }:=I.turned (t':=s.toks+1+1) (λb o hb e=>(sb.2 b hb).trans e) f0 f1 f3 f4 f5;obtain⟨o,e,c',d⟩:=id st';refine⟨_,rfl,su (s:={ s with toks:=s.toks+1+1,heap:=h' }) e c' d (by decide) ⟨.str ⟨#[c]⟩,H,I1,⟨_,rfl⟩,⟨rfl,c,W7,rfl⟩,?_,λb hb=>(hf b hb).1⟩⟩;rw[show (x.cps.size:Int) - 1 - ((i+1:Nat))=((x.cps.size - 1 - i:Nat):Int) - 1 by omega];exact st'
 done:=by
  intro X hP hw hK hc i pins s σ H E I hf st hg;subst hP hw hK;obtain rfl:i=x.cps.size:=hg;obtain⟨f0,f1,f2,f3,f4,f5⟩:=hf it (gW.mpr rfl);rw[show (x.cps.size:Int) - 1 - (x.cps.size:Nat)=-1 by omega]at st;exact Rv.next_end (I.ok.hd hc) st λh' eb=>⟨rfl,I.turned (t':=s.toks) (λb o hb e=>eb b o hb e) f0 f1 f3 f4 f5⟩
 self:=λ_ _ _ _ _ st h=>Rv.zh1 st h
noncomputable def abo(ta:TA):TI:=fun σ H R=>ta σ H λvs H1=>∃x,vs=[.str x]/\x.cps.size<=sizeLine/\R (Xw x) H1
def Oj{X:Cx}{tg a:Expr}{ta:TA}{p pos:Pos}(hg:Gl X "reversed")(hm:X.mg "reversed" = none)(ha:PA X [a] ta)(hs:starEach [a] X.env=[(false,eval a X.env)]:=by rfl) :
  PI X tg (.Call (.Name "reversed" p) [a] [] pos) (abo ta):=by
 intro pins s σ H R I h;refine Call_ (Mu I hg hm zm2 (aeY (cH (ha pos pins s σ H _ I h) λus s1 zz=>?_) hs rfl));obtain⟨vs,H1,I1,r1,q1⟩:=zz;obtain⟨x,rfl,hx,q⟩:=q1;obtain⟨u,rfl,t,rfl⟩:=vals1 r1;refine Rv.K3 hx ?_;have st:Rv.At (s1.heap.push (Rv.ob (.str x t) ((x.length:Int) - 1))) s1.heap.objs.size (.str x t) ((x.cps.size:Int) - 1 - ((0:Nat):Int)):=by
  refine⟨_,gZ _ rfl,rfl,?_⟩;rw[show (x.cps.size:Int) - 1 - ((0:Nat):Int)=(x.length:Int) - 1 by have:x.length=x.cps.size:=rfl;omega];rfl
 refine Rv.zh1 st ?_;refine⟨s1.heap.objs.size,[s1.heap.objs.size],_,_,H1,rfl,I1.kept (t':=s1.toks+2) λb o e=>g8 _ e,Cu x t hx _,st,λb hb=>?_,q⟩;obtain rfl:=gW.mp hb;exact I1.uQ (gb _) (I1.bN.fresh (gb _))
noncomputable def Xv(K:PySem.W.Frag)(a:Addr)(n:Nat):It :=
 ⟨λi H=>∃xs x,lR K H a xs/\xs.length=n/\i<n/\xs[n - 1 - i]? = some x,λi H x H'=>H'=H/\∀xs,lR K H a xs->xs[n - 1 - i]? = some x,λi H=>(∃xs,lR K H a xs/\xs.length=n)/\i=n⟩
def Cr{P:Program}{w:World}{K:PySem.W.Frag}{tg:Expr}(a it:Addr)(n:Nat):Turn P w K tg (Xv K a n) [it] it (λi h=>Rv.At h it (.ref a) ((n:Int) - 1 - (i:Nat))) where
 mem:=gW.mpr rfl
 obj:=λi h st b hb=>by
  obtain rfl:=gW.mp hb;obtain⟨o,e,_,d⟩:=st;exact⟨o,e,λv z=>by rw[d]at z;cases z⟩
 keep:=λi h h' ⟨o,e,r⟩ k=>⟨o,k it (gW.mpr rfl) o e,r⟩
 item:=by
  intro X hP hw hK hc i pins s σ H E I hf st hg;subst hP hw hK;obtain⟨xs,x,hq,hn,hi,hx⟩:=hg;obtain⟨its,rv,p,hz⟩:=I.tuple hq;obtain⟨u,hu,ru⟩:=rv.get hx;have hl:=iB;have hlen:=rv.length;obtain⟨f0,f1,f2,f3,f4,f5⟩:=hf it (gW.mpr rfl);rw[show (n:Int) - 1 - (i:Nat)=((n - 1 - i:Nat):Int) by omega]at st;refine Rv.next_item (k:=0) (u:=u) (T:="tuple") st p.typeIs slot_tuple_getitem (λA' Q' E' q=>getItem_tuple (s:={ s with toks:=s.toks+1 }) p (by omega) (by omega) (j:=n - 1 - i) ?_ (by simpa using hu) q) λh' st' sb=>?_
  ·unfold seqIndex?
   split
   ·omega
   ·simp;omega
  ·have I1:Inv X pins σ H { s with toks:=s.toks+1+0,heap:=h' }:=I.turned (t':=s.toks+1+0) (λb o hb e=>(sb.2 b hb).trans e) f0 f1 f3 f4 f5;obtain⟨o,e,c',d⟩:=id st';refine⟨u,rfl,su (s:={ s with toks:=s.toks+1+0,heap:=h' }) e c' d (by decide) ⟨x,H,I1,ru,⟨rfl,λys hy=>by rw[I.rC hy hq];exact hx⟩,?_,λb hb=>(hf b hb).1⟩⟩;rw[show (n:Int) - 1 - ((i+1:Nat))=((n - 1 - i:Nat):Int) - 1 by omega];exact st'
 done:=by
  intro X hP hw hK hc i pins s σ H E I hf st hg;subst hP hw hK;obtain⟨_,rfl⟩:=hg;obtain⟨f0,f1,f2,f3,f4,f5⟩:=hf it (gW.mpr rfl);rw[show (i:Int) - 1 - (i:Nat)=-1 by omega]at st;exact Rv.next_end (I.ok.hd hc) st λh' eb=>⟨rfl,I.turned (t':=s.toks) (λb o hb e=>eb b o hb e) f0 f1 f3 f4 f5⟩
 self:=λ_ _ _ _ _ st h=>Rv.zh1 st h
noncomputable def abn(K:PySem.W.Frag)(ta:TA):TI:=fun σ H R=>ta σ H λvs H1=>∃a xs,vs=[.ref a]/\lR K H1 a xs/\R (Xv K a xs.length) H1
def Oi{X:Cx}{tg a:Expr}{ta:TA}{p pos:Pos}(hg:Gl X "reversed")(hm:X.mg "reversed" = none)(ha:PA X [a] ta)(hs:starEach [a] X.env=[(false,eval a X.env)]:=by rfl) :
  PI X tg (.Call (.Name "reversed" p) [a] [] pos) (abn X.K ta):=by
 intro pins s σ H R I h;refine Call_ (Mu I hg hm zm2 (aeY (cH (ha pos pins s σ H _ I h) λus s1 zz=>?_) hs rfl));obtain⟨vs,H1,I1,r1,q1⟩:=zz;obtain⟨l,xs,rfl,hq,q⟩:=q1;obtain⟨u,rfl,rx⟩:=vals1 r1;cases rx;obtain⟨its,rv,pl,hz⟩:=I1.tuple hq;have hlen:=rv.length;refine Rv.KZ pl (by simp only[gC];omega) ?_;have st:Rv.At (s1.heap.push (Rv.ob (.ref l) ((its.toArray.size:Int) - 1))) s1.heap.objs.size (.ref l) ((xs.length:Int) - 1 - ((0:Nat):Int)):=by
  refine⟨_,gZ _ rfl,rfl,?_⟩;rw[show (xs.length:Int) - 1 - ((0:Nat):Int)=(its.toArray.size:Int) - 1 by rw[gC];omega];rfl
 refine Rv.zh1 st ?_;refine⟨s1.heap.objs.size,[s1.heap.objs.size],_,_,H1,rfl,I1.kept (t':=s1.toks+2) λb o e=>g8 _ e,Cr l _ xs.length,st,λb hb=>?_,q⟩;obtain rfl:=gW.mp hb;exact I1.uQ (gb _) (I1.bN.fresh (gb _))
end L2
namespace M
open PySem PySem.Spec L2
section
variable  {X:Cx}{a:Expr}{mA:MA}{μ:List Addr}{H:Hp}{p pos:Pos}
noncomputable def vX(mA:MA):MI:=λenv st=>(mA env st).bind λds st1=>match ds with
 | [.str cs]=>if cs.length<=1000000 then .ok (cs.reverse.map λc=>D.str [c],[]) st1 else .bad
 | _=>.bad
noncomputable def G_(mA:MA):MI:=λenv st=>(mA env st).bind λds st1=>match ds with
 | [.tup xs]=>.ok (xs.reverse,[]) st1
 | _=>.bad
@[simp] theorem ab8(env:aJ)(st:ak):vX mA env st=(mA env st).bind λds st1=>match ds with
 | [.str cs]=>if cs.length<=1000000 then .ok (cs.reverse.map λc=>D.str [c],[]) st1 else .bad
 | _=>.bad:=eQ rfl
@[simp] theorem ab7(env:aJ)(st:ak):G_ mA env st=(mA env st).bind λds st1=>match ds with
 | [.tup xs]=>.ok (xs.reverse,[]) st1
 | _=>.bad:=eQ rfl
def JF(cs:List Nat):lN X μ H (Xw (strOf cs)) (cs.reverse.map λc=>D.str [c],[]):=by
 intro H' μ' st' g hs ok;have hz:(strOf cs).cps.size=cs.length:=by simp
 refine⟨λi d e=>?_,by show _=(strOf cs).cps.size;rw[hz];simp⟩;have e:(cs.reverse.map λc=>D.str [c])[i]? = some d:=e;rw[gB]at e;obtain⟨c,e2,rfl⟩:=nG.mp e;have hi:i<cs.length:=by have:=(gh.mp e2).1;simpa using this
 rw[nT hi]at e2;refine⟨by show i<(strOf cs).cps.size;omega,?_⟩;rintro x BR ⟨rfl,c',hc,rfl⟩;rw[hz]at hc;have h2:cs[cs.length - 1 - i]? = some c':=by simpa using hc
 rw[e2]at h2;cases h2;exact⟨.refl _ _,hs,ao.aQ.mpr rfl⟩
def PX{tg:Expr}(ha:JA X [a] mA)(hg:Gl X "reversed")(hm:X.mg "reversed" = none)(hs:starEach [a] X.env=[(false,eval a X.env)]:=by rfl):JI X tg (.Call (.Name "reversed" p) [a] [] pos) (vX mA):=by
 refine JI.of (Oj hg hm ha hs) fun σ H R zz=>?_;obtain⟨μ,env,st,hE,hs,hp⟩:=zz;refine⟨μ,env,st,hE,hs,(bL.bind hp).imp ?_⟩;rintro vs H1 ⟨μ1,st1,ds,g1,bF,hv,aR⟩;dsimp only at aR
 split at aR
 ·rename_i cs
  split at aR
  ·rename_i hc;obtain⟨v,rfl,q1⟩:=aq.one hv;obtain rfl:=ao.aQ.mp q1;refine⟨strOf cs,rfl,?_,aR _ _ _ (.refl _ _) bF (JF cs)⟩;show cs.toArray.size<=sizeLine;rw[afr];simp;omega
  ·exact aR.elim
 ·exact aR.elim
def JD{ds:List D}{q:Addr}{xs:List V}(hq:lR X.K H q xs)(hd:aq X.K μ H ds xs):lN X μ H (Xv X.K q ds.length) (ds.reverse,[]):=by
 intro H' μ' st' g hs ok;have Ed:=g.ext.pN hq;have wL:=hd.mono g ds;refine⟨λi d e=>?_,⟨xs,Ed,hd.length.symm⟩,by simp⟩;have e:ds.reverse[i]? = some d:=e;have hi:i<ds.length:=by have:=(gh.mp e).1;simpa using this
 rw[nT hi]at e;obtain⟨v,h1,h2⟩:=wL.get e;refine⟨⟨xs,v,Ed,hd.length.symm,hi,h1⟩,?_⟩;rintro x BR ⟨rfl,hx⟩;have:=hx xs Ed;rw[h1]at this;cases this;exact⟨.refl _ _,hs,h2⟩
def PQ{tg:Expr}(ha:JA X [a] mA)(hg:Gl X "reversed")(hm:X.mg "reversed" = none)(hs:starEach [a] X.env=[(false,eval a X.env)]:=by rfl):JI X tg (.Call (.Name "reversed" p) [a] [] pos) (G_ mA):=by
 refine JI.of (Oi hg hm ha hs) fun σ H R zz=>?_;obtain⟨μ,env,st,hE,hs,hp⟩:=zz;refine⟨μ,env,st,hE,hs,(bL.bind hp).imp ?_⟩;rintro vs H1 ⟨μ1,st1,ds,g1,bF,hv,aR⟩;dsimp only at aR
 split at aR
 ·rename_i xs;obtain⟨v,rfl,q1⟩:=aq.one hv;obtain⟨b,ys,rfl,q2,q3⟩:=ao.aU.mp q1;exact⟨b,ys,rfl,q2.pN,by rw[<-q3.length];exact aR _ _ _ (.refl _ _) bF (JD q2.pN q3)⟩
 ·exact aR.elim
end
end M
namespace L2
open PySem PySem.Spec PyProof.Rows
section
variable  {X:Cx}
def zqf:qd X "str.isalpha" (λx xs H Q=>∃z:Str,x=.str z/\xs=[]/\Q (.bl (Txt.isalpha z)) H):=by
 rintro pins s σ H x xs v us Q I rx CW ⟨z,rfl,rfl,h⟩;obtain⟨t,rfl⟩:=rx;cases CW;exact SC.isalpha ⟨.bl (Txt.isalpha z),H,I,rfl,h⟩
def Dp:qd X "str.find" (λx xs H Q=>∃(z:Str) (y:Str),x=.str z/\xs=[.str y]/\Q (.int (Txt.find z y)) H):=by
 rintro pins s σ H x xs v us Q I rx CW ⟨z,y,rfl,rfl,h⟩;obtain⟨t,rfl⟩:=rx;obtain⟨u,rfl,t',rfl⟩:=vals1 CW;exact SC.find ⟨.int (Txt.find z y),H,I.tok _,⟨_,rfl⟩,h⟩
def zrm:qd X "list.index" (λx xs H Q=>∃(a:Addr) (ns:List Int) (k:Int) (j:Nat),x=.ref a/\xs=[.int k]/\lM X.K H a (ns.map V.int)/\ns.findIdx? (λz=>decide (z=k))=some j/\Q (.int j) H):=by
 rintro pins s σ H x xs v us Q I rx CW ⟨a,ns,k,j,rfl,rfl,hq,hj,h⟩;cases rx;obtain⟨u,rfl,t,rfl⟩:=vals1 CW;obtain⟨its,rv,⟨⟨c0,d0,dt,sl⟩,n,e,hc,hd,hs⟩,hz⟩:=I.list hq;replace hc:c0=.type "list":=hc;replace hd:d0=none:=hd;replace hs:dt=.seq its.toArray n:=hs;subst hc hd hs;have hl:=iB;have hlen:=rv.length;rw[gm]at hlen hz;have at_:∀(m:Nat) (hm:m<its.length),∃t',its[m]=.int (ns[m]'(by omega)) t':=λm hm=>by
  obtain⟨u,hu,ru⟩:=rv.get (i:=m) (x:=.int (ns[m]'(by omega))) (by rw[gB,gF (by omega)];rfl);rw[gF hm]at hu;cases hu;exact ru
 obtain⟨hj1,hj2,hj3⟩:=pM.mp hj
 let f:Value->Bool:=PyProof.Rows.isInt k
 have fe:∀(m:Nat) (hm:m<its.length),f its[m]=decide (ns[m]'(by omega)=k):=λm hm=>by
  obtain⟨t',e'⟩:=at_ m hm;rw[e'];show PyProof.Rows.isInt k _=_;unfold PyProof.Rows.isInt;rw[mz];simp
 refine call_meets PySem.F.slot_list_index ⟨_,e,rfl⟩ PySem.F.entry_list_index (PySem.F.args_list_index_2 _ _)
  (PySem.SeqAt.list_indexAt a its.toArray n none sl (.int k t) f j (by simp;omega) (by omega) ?_ λm hm yx=>?_) ⟨e,λy hy=>?_,⟨.int j,H,I.tok _,⟨_,rfl⟩,h⟩⟩
 ·simp only[List.getElem_toArray];rw[fe j (by omega)];exact hj2
 ·simp only[List.getElem_toArray];rw[fe m (by simpa using hm)];have:=hj3 m yx;simpa using this
 ·have Qp:y∈its:=by simpa using hy
  obtain⟨m,hm,rfl⟩:=mW.mp Qp;obtain⟨t',e'⟩:=at_ m hm;rw[e'];exact (PySem.MeetsSeq.EqGives.int _ k t' t).at _ _
end
end L2
namespace M
open PySem PySem.Spec L2
section
variable  {X:Cx}
noncomputable def rZ(cs:List Nat):Bool:=!cs.isEmpty && cs.all PySem.Unicode.isAlpha
noncomputable def lE:D->List D->ak->R D
 | .str cs,[],st=>.ok (.bl (rZ cs)) st
 | _,_,_=>.bad
def zqh:qd X "str.isalpha" (Df X lE):=by
 refine qd.weak zqf ?_;rintro x xs H Q ⟨μ,st,d,ds,hs,hx,jd,hp⟩;unfold lE at hp
 split at hp
 ·rename_i cs;obtain rfl:=ao.aQ.mp hx;cases jd;refine⟨strOf cs,rfl,rfl,?_⟩;have e:Txt.isalpha (strOf cs)=rZ cs:=by
   unfold Txt.isalpha rZ;cases cs<;>simp[Str.length,strOf]
  rw[e];exact hp.ret hs (ao.bA.mpr rfl)
 ·exact hp.elim
theorem O9(cs:List Nat)(c:Nat):match cs.findIdx? (λz=>decide (z=c)) with
  | some j=>∃r,Builtin.Str.occurrences (strOf cs) (strOf [c]) 0 (strOf cs).length 1=j::r
  | none=>Builtin.Str.occurrences (strOf cs) (strOf [c]) 0 (strOf cs).length 1=[]:=by
 have key:∀i,PySem.StrLaws.At (strOf cs) (strOf [c]) (strOf cs).length i↔cs[i]? = some c:=λi=>by
  have:=PySem.StrLaws.subAt_one (strOf cs) c i;rw[show (strOf cs).cps.toList=cs by simp]at this;exact this
 rcases PySem.StrLaws.occ_head (strOf cs) (strOf [c]) 1 (gb _) with⟨e,h⟩ | ⟨i,r,e,h1,h2⟩
 ·cases hj:cs.findIdx? (λz=>decide (z=c)) with
  | none=>exact e
  | some j =>
   obtain⟨q1,q2,_⟩:=pM.mp hj;exact absurd ((key j).mpr (by rw[gF q1];simpa using q2)) (h j)
 ·rw[key]at h1;obtain⟨hi,h1⟩:=gh.mp h1;have:cs.findIdx? (λz=>decide (z=c))=some i:=by
   rw[pM];refine⟨hi,by simpa using h1,λk hk=>?_⟩;have:=h2 k hk;rw[key,gF (by omega)]at this;simpa using this
  rw[this];exact⟨r,e⟩
noncomputable def rP:D->List D->ak->R D
 | .str cs,[.str [c]],st=>.ok (.int (match cs.findIdx? (λz=>decide (z=c)) with
  | some j=>(j:Int)
  | none=>-1)) st
 | _,_,_=>.bad
def Dn:qd X "str.find" (Df X rP):=by
 refine qd.weak Dp ?_;rintro x xs H Q ⟨μ,st,d,ds,hs,hx,jd,hp⟩;unfold rP at hp
 split at hp
 ·rename_i cs c;obtain rfl:=ao.aQ.mp hx;obtain⟨v,rfl,q⟩:=aq.one jd;obtain rfl:=ao.aQ.mp q;refine⟨_,_,rfl,rfl,hp.ret hs (ao.aN.mpr ?_)⟩;have h:=O9 cs c;unfold Txt.find;cases e:cs.findIdx? (λz=>decide (z=c)) with
  | none=>rw[e]at h;dsimp only at h ⊢;rw[h]
  | some j =>
   rw[e]at h;obtain⟨r,h⟩:=h;dsimp only;rw[h]
 ·exact hp.elim
noncomputable def fK:D->List D->ak->R D
 | .loc n,[.int k],st=>match aA st n with
  | some l=>(match intsOf l with
   | some ns=>(match ns.findIdx? (λz=>decide (z=k)) with
    | some j=>.ok (.int j) st
    | none=>.bad)
   | none=>.bad)
  | none=>.bad
 | _,_,_=>.bad
def zqk:qd X "list.index" (Df X fK):=by
 refine qd.weak zrm ?_;rintro x xs H Q ⟨μ,st,d,ds,hs,hx,jd,hp⟩;unfold fK at hp
 split at hp
 ·rename_i n k;obtain⟨a,q1,rfl⟩:=ao.aH.mp hx;obtain⟨v,rfl,q⟩:=aq.one jd;obtain rfl:=ao.aN.mp q;cases e1:aA st n with
  | none=>rw[e1]at hp;exact hp.elim
  | some l =>
   rw[e1]at hp;dsimp only at hp;cases e2:intsOf l with
   | none=>rw[e2]at hp;exact hp.elim
   | some ns =>
    rw[e2]at hp;dsimp only at hp;cases e3:ns.findIdx? (λz=>decide (z=k)) with
    | none=>rw[e3]at hp;exact hp.elim
    | some j =>
     rw[e3]at hp;obtain⟨p',ys,r1,r2,r3⟩:=hs.items e1;rw[q1]at r1;cases r1;rw[zkz e2 r3]at r2;exact⟨a,ns,k,j,rfl,rfl,r2,e3,hp.ret hs (ao.aN.mpr rfl)⟩
 ·exact hp.elim
end
noncomputable def abE{α:Type}:List (Str×α)->Nat->List Str
 | (x,_)::l,n+1=>x::abE l n
 | _,_=>[]
noncomputable def yP(st:Stmt)(a:Nat):List Str:=abE (aF st).names a
abbrev Row:Type:=Str×Stmt×Nat
def Fn(K:PySem.W.Frag)(mg:Str->Option Value)(p:Row):Prop:=∃f fd,BV K p.1 p.1 p.2.1 f fd/\mg p.1=some (.ref f)/\Binds K fd (yP p.2.1 p.2.2) []
inductive Us (K:PySem.W.Frag):List Row->Prop
 | nil:Us K []
 | cons {n:Str} {st:Stmt} {a:Nat} {l:List Row} {f:Addr} {fd:FuncData} (h:PySem.W.nsIn K mainGlobals n=some (some (.ref f))) (F:BV K n n st f fd)
  (b:∀(kV doc pm:Value) (an:Option Addr) (iw ct:Value) (us:List Value),us.length=(yP st a).length->bindArgs (PySem.W.fnOf n n (dj st) (bQ st) (aF st) .none kV doc pm an iw ct) ⟨us,[]⟩=pure ((yP st a).zip us)) (r:Us K l):Us K ((n,st,a)::l)
def Us.all{K:PySem.W.Frag}{h:Heap}{mg:Str->Option Value}(X:K.In h)(G:h.Ns mainGlobals mg){l:List Row}(u:Us K l):∀p∈l,Fn K mg p:=by
 induction u with
 | nil=>intro p hp;cases hp
 | cons a F b r ih =>
  intro p hp;rcases gf.mp hp with rfl | hp
  ·exact⟨_,_,F,ae0 X G a,F.binds b⟩
  ·exact ih p hp
inductive Zs (K:PySem.W.Frag):List Str->Prop
 | nil:Zs K []
 | cons {n:Str} {l:List Str} (h:PySem.W.nsIn K mainGlobals n=some none) (r:Zs K l):Zs K (n::l)
def Zs.all{K:PySem.W.Frag}{h:Heap}{mg:Str->Option Value}(X:K.In h)(G:h.Ns mainGlobals mg){l:List Str}(u:Zs K l):∀x∈l,mg x=none:=by
 induction u with
 | nil=>intro p hp;cases hp
 | cons a r ih =>
  intro p hp;rcases gf.mp hp with rfl | hp
  ·exact PySem.W.mg_none_of X G a
  ·exact ih p hp
inductive As (K:PySem.W.Frag) (C:Addr):List Str->Prop
 | nil:As K C []
 | cons {n:Str} {l:List Str} (h:PySem.W.findIn K (.ref C) n=some none) (r:As K C l):As K C (n::l)
def As.all{K:PySem.W.Frag}{C:Addr}{l:List Str}(u:As K C l):∀x∈l,iJ K C x:=by
 induction u with
 | nil=>intro p hp;cases hp
 | cons a r ih =>
  intro p hp;rcases gf.mp hp with rfl | hp
  ·exact a
  ·exact ih p hp
def nth{K:PySem.W.Frag}{mg:Str->Option Value}{l:List Row}(i:Nat){p:Row}(h:∀p∈l,Fn K mg p)(e:l[i]? = some p:=by rfl):Fn K mg p:=h p (gU e)
def Cl(F:FD)(n:Str)(k a:Nat)(P:Program)(w:World)(K:PySem.W.Frag)(mg:Str->Option Value)(base:Heap):Prop :=
 ∃f fd ps,ps.length=a/\mg n=some (.ref f)/\PySem.W.keepIn K (.ref f)=true/\Binds K fd ps []/\cQ P w K mg base rn k f fd ps (vV K ps.length F)
section
variable  {P:Program}{w:World}{K:PySem.W.Frag}{mg:Str->Option Value}{base:Heap}
def dB{l:List Row}{n:Str}{st:Stmt}{a k:Nat}{N:List Str}{m:MS}(i:Nat)(h:∀p∈l,Fn K mg p)(e:l[i]? = some (n,st,a):=by exact rfl)(hN:yP st N.length=N:=by exact rfl)
  (hb:∀f iw A outer s H,cR k (A.deeper (PyProof.Rows.envOfC n (aF st) s.heap.objs.size f iw))->N.Nodup->yD (vQ rn P w K mg base N n (aF st) f iw A outer s H E0).O_ (bQ st) m)
  (S:dX N (yP st a) (aF st):=by exact Xb) (hp:(yP st a).length=a:=by exact rfl):Cl (bB (bw N.length m)) n (k+1) a P w K mg base:=by
 obtain⟨f,fd,F,hm,hbd⟩:=h _ (gU e);have q:=xX F S (λiw A outer s H hr=>hb f iw A outer s H hr S.nd);exact⟨f,fd,_,hp,hm,F.kp,hbd,cQ.imp q λvs H Q E h=>uC h⟩
def Cl.never{n:Str}{st:Stmt}{a k:Nat}(h:Fn K mg (n,st,a))(hp:(yP st a).length=a:=by rfl):Cl (λ_ _=>.bad) n k a P w K mg base:=by
 obtain⟨f,fd,F,hm,hbd⟩:=h;exact⟨f,fd,_,hp,hm,F.kp,hbd,cQ.never⟩
end
section
variable  {X:Cx}{P:Program}{w:World}{K:PySem.W.Frag}{mg:Str->Option Value}{base:Heap}
def JZ(X:Cx)(es:List Expr)(mA:MA):Prop:=JA X es mA/\∀(env:aJ) (st:ak) (as:List D) (st1:ak),mA env st=.ok as st1->as.length=es.length
def PB:JZ X [] au:=⟨ZC,Yc⟩
def za{e:Expr}{es:List Expr}{m:ME}{mA:MA}(h:JE X e m)(r:JZ X es mA)(hs:starEach (e::es) X.env=(false,eval e X.env)::starEach es X.env:=by rfl):JZ X (e::es) (aj m mA):=⟨XR h r.1 hs,B_ r.2⟩
def qH{F:FD}{n x:Str}{k k' a:Nat}{e:Expr}{es:List Expr}{mA:MA}{p pos:Pos}(G:Cl F n k a P w K mg base)(hr:cR k' X.A)(ha:JZ X (e::es) mA)
  (hX:X.prog=P/\X.w=w/\X.K=K/\X.mg=mg/\X.base=base:=by exact⟨rfl,rfl,rfl,rfl,rfl⟩) (hn:n=x:=by rfl) (WR:k<=k':=by first | decide | omega) (hlen:(e::es).length=a:=by rfl) (hg:Gl X x:=by rfl) (qK:(x==("__debug__":Str))=false:=by decide)
  (he:starEach (e::es) X.env=(false,eval e X.env)::starEach es X.env:=by rfl) (ou:(backTo pos (starEach es X.env)).any (·.1)=false:=by rfl):JE X (.Call (.Name x p) (e::es) [] pos) (az F [] mA):=by
 obtain⟨rfl,rfl,rfl,rfl,rfl⟩:=hX;subst hn;obtain⟨f,fd,ps,hl,hm,hk,hb,g⟩:=G;exact abi g hr hm hk hb ha.1 ha.2 WR (hlen.trans hl.symm) hg qK he ou
def Sg{F:FD}{n x:Str}{k k' a:Nat}{Λ:Nat->fH}{e:Expr}{es:List Expr}{m:ML}{p pos:Pos}(G:Cl F n k a P w K mg base)(hr:cR k' X.A)(ha:JL X Λ (e::es) m)(WX:∀x,X.fn x=true)(hA:∀env st as st1,m env st=.ok as st1->as.length=(e::es).length)
  (hX:X.prog=P/\X.w=w/\X.K=K/\X.mg=mg/\X.base=base:=by exact⟨rfl,rfl,rfl,rfl,rfl⟩) (hn:n=x:=by rfl) (WR:k<=k':=by first | decide | omega) (hlen:(e::es).length=a:=by rfl) (hg:Gl X x:=by rfl) (qK:(x==("__debug__":Str))=false:=by decide)
  (he:starEach (e::es) X.env=(false,eval e X.env)::starEach es X.env:=by rfl) (ou:(backTo pos (starEach es X.env)).any (·.1)=false:=by rfl):JE X (.Call (.Name x p) (e::es) [] pos) (lJ Λ F [] m):=by
 obtain⟨rfl,rfl,rfl,rfl,rfl⟩:=hX;subst hn;obtain⟨f,fd,ps,hl,hm,hk,hb,g⟩:=G;exact DX (g.mono WR) hr hm hk hb .nil (λ_ _=>aq.nil) ha WX (hlen.trans hl.symm) hg qK he ou hA
def Wk{F:FD}{n x:Str}{k k':Nat}{p pos:Pos}(G:Cl F n k 0 P w K mg base)(hr:cR k' X.A)
  (hX:X.prog=P/\X.w=w/\X.K=K/\X.mg=mg/\X.base=base:=by exact⟨rfl,rfl,rfl,rfl,rfl⟩) (hn:n=x:=by rfl) (WR:k<=k':=by first | decide | omega) (hg:Gl X x:=by rfl) (qK:(x==("__debug__":Str))=false:=by decide):JE X (.Call (.Name x p) [] [] pos) (az F [] au):=by
 obtain⟨rfl,rfl,rfl,rfl,rfl⟩:=hX;subst hn;obtain⟨f,fd,ps,hl,hm,hk,hb,g⟩:=G;obtain rfl:=List.eq_nil_of_length_eq_zero hl;exact Jz (g.mono WR) hr hm hk hb hg qK
end
end M
namespace M
open PySem PySem.Spec PyProof.Rows L2
noncomputable def qD:D->D->ak->R D
 | .str [c],.str cs,st=>if cs.length<=1000000 then .ok (.bl (!decide (c∈cs))) st else .bad
 | _,_,_=>.bad
def zl4{X:Cx}:d9 X (compareOp .NotIn) (rM X qD):=by
 refine d9.weak zng ?_;rintro x y H Q ⟨μ,st,dx,dy,hs,hx,hy,hp⟩;unfold qD at hp
 split at hp
 ·rename_i c cs
  split at hp
  ·obtain rfl:=ao.aQ.mp hx;obtain rfl:=ao.aQ.mp hy;refine⟨_,_,rfl,rfl,?_⟩;have e:=PySem.StrLaws.found_one (strOf cs) c;have e2:(strOf [c])=⟨#[c]⟩:=rfl;rw[e2,e];refine hp.ret hs (ao.bA.mpr ?_);simp
  ·exact hp.elim
 ·exact hp.elim
section
variable  {X:Cx}{e e3:Expr}{te t3:TE}{ma mb:ME}{pos p2:Pos}
theorem zti{f g:Nat->Option Nat}:∀l:List Nat,(∀k∈l,f k=g k)->l.filterMap f=l.filterMap g
 | [],_=>rfl
 | a::l,h=>by rw[nA,nA,h a mX,zti l λk hk=>h k (kI _ hk)]
def Cq(n:Nat):Builtin.Str.strSliceIndices none none (-1) n=(List.range n).map λk=>n - 1 - k:=by
 show sliceRange ((n:Int) - 1) (-1) (-1)=_;unfold sliceRange;simp only[show ¬ ((-1:Int) > 0) by decide,if_false];have c:(if (n:Int) - 1 > -1 then ((n:Int) - 1 - -1 - -1 - 1) / - -1 else 0).toNat=n:=by
  split
  ·rw[show - -(1:Int)=1 by decide,Int.ediv_one];omega
  ·omega
 rw[c];refine kE λk _=>?_;omega
def zs0(cs:List Nat):(Builtin.Str.strSliceIndices none none (-1) cs.length).filterMap (λm=>(strOf cs).cps[m]?)=cs.reverse:=by
 have:(λ(m:Nat)=>(strOf cs).cps[m]?)=λ(m:Nat)=>cs[m]?:=by funext m;simp[strOf]
 rw[Cq,this,pH];have p:=zqq cs.reverse 0 cs.length;rw[pB,<-mC,k_,pH,mC]at p;rw[<-p];refine zti _ λk hk=>?_;have:=List.mem_range.mp hk;show cs[cs.length - 1 - k]? = cs.reverse[0+k]?;rw[Nat.zero_add,nT this]
noncomputable def tRv(te t3:TE):TE:=fun σ H Q=>te σ H λx H1=>t3 σ H1 λy H2=>∃cs,x=.str (strOf cs)/\y=.int (-1)/\cs.length<=sizeLine/\Q (.str (strOf cs.reverse)) H2
def Vj(he:PE X e te)(h3:PE X e3 t3):PE X (.Subscript e (.Slice none none (some e3) p2) pos) (tRv te t3):=by
 intro pins s σ H Q I h;refine Subscript_ (cH (he pins s σ H _ I h) λv s1 zz=>?_);obtain⟨x,H1,I1,r1,q1⟩:=zz;refine wpAny_Slice ?_;rw[evalPart_none];refine aeR (aeR ?_);rw[evalPart_some];refine cH (h3 pins s1 σ H1 _ I1 q1) λv3 s3 zz=>?_;obtain⟨y,H3,I3,r3,cs,ex,ey,hz,q3⟩:=zz;subst ex ey;obtain⟨t,rfl⟩:=r1;obtain⟨t3,rfl⟩:=r3;have I4:Inv X pins σ H3 { s3 with heap:=s3.heap.push { cls:=.type "slice",data:=.fields #[.none,.none,.int (-1) t3] } }:=I3.kept (t':=s3.toks) λb ob q=>g8 _ q;show wpAny (model X.prog X.w) X.A (subscriptTail e (.Slice none none (some e3) p2) (.str (strOf cs) t) (.ref s3.heap.objs.size)) (EP X pins σ Q) X.xe { s3 with heap:=s3.heap.push { cls:=.type "slice",data:=.fields #[.none,.none,.int (-1) t3] } };have hs:(s3.heap.push { cls:=.type "slice",data:=.fields #[.none,.none,.int (-1) t3] }).IsSlice s3.heap.objs.size none none (some (-1,t3)):=Heap.IsSliceOf.new ..;refine tail_any (ops:=[.ref s3.heap.objs.size,.str (strOf cs) t]) (typeIs_str _ _ _) F.slot_str_getitem.lookup (wpAny_getItem_str_slice (l:=none) (u:=none) (st:=some (-1,t3)) hs rfl ?_) (by with_unfolding_all rfl);have el:(strOf cs).length=cs.length:=by simp[Str.length,strOf]
 unfold sliceMade slicePicked;rw[aeS (by simp)];show Made.post (.str { cps:=((Builtin.Str.strSliceIndices none none (-1) (strOf cs).length).filterMap λm=>(strOf cs).cps[m]?).toArray }) _ _;rw[el,zs0];refine⟨?_,.str (strOf cs.reverse),H3,I4.tok _,⟨_,rfl⟩,q3⟩;show (strOf cs.reverse).length<=_;have:(strOf cs.reverse).length=cs.length:=by simp[Str.length,strOf]
 rw[this];exact hz
noncomputable def zR(ma mb:ME):ME:=λenv st=>(ma env st).bind λx st1=>(mb env st1).bind λy st2=>match x,y with
 | .str cs,.int i=>if i=-1/\cs.length<=1000000 then .ok (.str cs.reverse) st2 else .bad
 | _,_=>.bad
def Qc(he:JE X e ma)(h3:JE X e3 mb):JE X (.Subscript e (.Slice none none (some e3) p2) pos) (zR ma mb):=by
 refine JE.of (Vj he h3) fun σ H Q zz=>?_;obtain⟨μ,env,st,hE,hs,hp⟩:=zz;refine⟨μ,env,st,hE,hs,hp.bind.imp ?_⟩;rintro x H1 ⟨μ1,st1,d,g1,bF,hx,aR⟩;refine⟨μ1,env,st1,hE.mono g1,bF,aR.bind.imp ?_⟩;rintro y H2 ⟨μ2,st2,d2,g2,iu,hy,dq⟩;cases d with
 | str cs =>
  cases d2 with
  | int i =>
   dsimp only at dq
   split at dq
   ·rename_i h;obtain⟨rfl,hl⟩:=h;exact⟨cs,ao.aQ.mp hx,ao.aN.mp hy,xm hl,dq.ret iu (ao.aQ.mpr rfl)⟩
   ·exact dq.elim
  | _=>exact dq.elim
 | _=>exact dq.elim
end
noncomputable def v5:D->D->ak->R D
 | .loc n,.int k,st=>match st[n]? with
  | some (.lst ds)=>if 0<=k/\k<=1/\ds.length<=1000000 then .ok (.loc st.length) (st++[.lst (if k=1 then ds else [])]) else .bad
  | _=>.bad
 | _,_,_=>.bad
def HS{X:Cx}:d9 X (binaryOp .Mult) (rM X v5):=by
 refine d9.weak Vu ?_;rintro x y H Q ⟨μ,st,dx,dy,hs,hx,hy,hp⟩;unfold v5 at hp
 split at hp
 ·rename_i n k;cases e:st[n]? with
  | none=>rw[e]at hp;exact hp.elim
  | some mo =>
   cases mo with
   | lst ds =>
    rw[e]at hp;dsimp only at hp
    split at hp
    ·rename_i c;obtain⟨c1,c2,c3⟩:=c;obtain⟨a,q1,rfl⟩:=ao.aH.mp hx;obtain rfl:=ao.aN.mp hy;obtain⟨a',xs,g1,g2,g3⟩:=hs.lst e;rw[q1]at g1;cases g1;have hl:=g3.length;have c4:=xm c3;refine⟨a,k,xs,rfl,rfl,g2,by omega,by omega,?_,λq hq=>?_⟩
     ·rcases (show k=0\/k=1 by omega) with rfl | rfl
      ·simp
      ·rw[<-hl];simpa using c4
     ·rcases (show k=0\/k=1 by omega) with rfl | rfl
      ·exact hp.newList hs (ds:=[]) (xs:=[]) (by rw[aq]) hq
      ·have:(List.replicate (1:Int).toNat xs).flatten=xs:=by simp
       rw[this];exact hp.newList hs g3 hq
    ·exact hp.elim
   | _=>rw[e]at hp;exact hp.elim
 ·exact hp.elim
noncomputable def Il:D->D->ak->R D
 | .tup [.loc a,.str s,.loc b],.tup [.loc a',.str s',.loc b'],st=>match iD 790 (.loc a) (.loc a') st,iD 790 (.loc b) (.loc b') st with
  | some x,some y=>.ok (.bl (!(x && (fY (.str s) (.str s') && y)))) st
  | _,_=>.bad
 | _,_,_=>.bad
open PySem.SeqAt in
def abH{X:Cx}{pins:List (Addr×Obj)}{σ:L2.St}{μ:List Addr}{H:Hp}{s:Shared}{A:Around}{st:ak}{m n:Nat}{k:Bool}{x y:V}{u w:Value}(I:Inv X pins σ H s)(hs:aV X.K μ H st)(e:iD 790 (.loc m) (.loc n) st=some k)(hu:A.units+790<cLine)(h1:ao X.K μ H (.loc m) x)(h2:ao X.K μ H (.loc n) y)(r1:RelV x u)(r2:RelV y w):EqAt A s u w k:=by
 have rc:=(zB I hs e hu h1 h2 r1 r2).1;obtain⟨a,p1,rfl⟩:=ao.aH.mp h1;obtain⟨b,p2,rfl⟩:=ao.aH.mp h2;cases (show u=Value.ref a from r1);cases (show w=Value.ref b from r2);by_cases hab:a=b
 ·subst hab;simp only[iD]at e;cases e1:aA st m with
  | none=>rw[e1]at e;cases e
  | some as =>
   cases e2:aA st n with
   | none=>rw[e1,e2]at e;cases e
   | some bs =>
    rw[e1,e2]at e;dsimp only at e
    split at e
    ·rename_i c;cases e;obtain⟨p',xs,g1,g2,g3⟩:=hs.items e1;rw[p1]at g1;cases g1;obtain⟨q',ys,k1,k2,k3⟩:=hs.items e2;rw[p2]at k1;cases k1;obtain⟨its,ra,⟨o,n1,p3,_,_,p4⟩,_⟩:=I.list g2;obtain⟨oh,rb,⟨o2,n2,p5,_,_,p6⟩,_⟩:=I.list k2;rw[p3]at p5;cases p5;rw[p4]at p6;injection p6 with p6 _;injection p6 with p6;subst p6;obtain rfl:=ra.inj rb;have:as=bs:=zk1 I _ _ c.1 c.2.1 g3 k3;rw[<-this,zh2 _ c.1];exact EqAt.same _
    ·cases e
 ·exact EqAt.of_refs hab rc
open PySem.SeqAt in
def Ae{X:Cx}(hu:X.A.units+800<cLine):d9 X (compareOp .NotEq) (rM X Il):=by
 rintro pins s σ H x y v u Q I rx ry ⟨μ,st,dx,dy,hs,hx,hy,hp⟩;unfold Il at hp
 split at hp
 ·rename_i a z b a' z' b';cases e1:iD 790 (.loc a) (.loc a') st with
  | none=>rw[e1]at hp;exact hp.elim
  | some k1 =>
   cases e2:iD 790 (.loc b) (.loc b') st with
   | none=>rw[e1,e2]at hp;exact hp.elim
   | some k2 =>
    rw[e1,e2]at hp;dsimp only at hp;obtain⟨p,xs,rfl,q1,q2⟩:=ao.aU.mp hx;obtain⟨q,ys,rfl,g1,g2⟩:=ao.aU.mp hy;cases (show v=Value.ref p from rx);cases (show u=Value.ref q from ry);obtain⟨its,ra,pt,_⟩:=I.tuple (q1.pN);obtain⟨oh,rb,pt2,_⟩:=I.tuple (g1.pN);obtain⟨x1,q2,rfl,c1,d1⟩:=by rw[aq]at q2;exact q2
    obtain⟨x2,q2,rfl,c2,d1⟩:=by rw[aq]at d1;exact d1
    obtain⟨x3,q2,rfl,c3,d1⟩:=by rw[aq]at d1;exact d1
    rw[aq]at d1;subst d1;obtain⟨y1,g2,rfl,f1,d1⟩:=by rw[aq]at g2;exact g2
    obtain⟨y2,g2,rfl,f2,d1⟩:=by rw[aq]at d1;exact d1
    obtain⟨y3,g2,rfl,f3,d1⟩:=by rw[aq]at d1;exact d1
    rw[aq]at d1;subst d1;cases ra with
    | cons r1 ra=>cases ra with
    | cons r2 ra=>cases ra with
    | cons r3 ra=>cases ra with
    | nil =>
    cases rb with
    | cons s1 rb=>cases rb with
    | cons s2 rb=>cases rb with
    | cons s3 rb=>cases rb with
    | nil =>
    have u1:X.A.in1.units+790<cLine:=by show X.A.units+1+790<cLine;omega
    have i1:=abH (A:=X.A.in1) I hs e1 u1 c1 f1 r1 s1;have i3:=abH (A:=X.A.in1) I hs e2 u1 c3 f3 r3 s3;have i2:=(Bg I (.str z) (.str z') (A:=X.A.in1) (by simp) (by simp) (by rw[zqu];omega) c2 f2 r2 s2).1;have ne:=RcNeAt.tuples (A:=X.A) (e:=λj=>match j with | 0=>k1 | 1=>fY (.str z) (.str z') | _=>k2) pt pt2 (by omega) λj j1 j2=>by
     match j,j1,j2 with
     | 0,_,_=>exact i1
     | 1,_,_=>exact i2
     | 2,_,_=>exact i3
    refine ne X.prog X.w X.xe _ ⟨.bl (!(k1 && (fY (.str z) (.str z') && k2))),H,I,?_,hp.ret hs (ao.bA.mpr rfl)⟩;show Value.bool _=Value.bool _;simp[List.range_succ]
 ·exact hp.elim
end M
set_option maxHeartbeats 0
namespace Law
open PySem PySem.Spec L2 M
noncomputable def top(i:Nat):Stmt:=PySem.Challenge.pw_oneofall_k74_images_and_ends.main.body.getD i (.Pass ⟨0,0,0,0⟩)
noncomputable abbrev Cd:Stmt:=top 8
noncomputable abbrev Ca:Stmt:=top 14
noncomputable abbrev ze3:Stmt:=(wU (top 51)).getD 0 (.Pass ⟨0,0,0,0⟩)
noncomputable abbrev Yt:Stmt:=(wU (top 51)).getD 1 (.Pass ⟨0,0,0,0⟩)
noncomputable abbrev zcl:Stmt:=(wU (top 62)).getD 0 (.Pass ⟨0,0,0,0⟩)
noncomputable abbrev TQ:Stmt:=top 94
noncomputable abbrev l_0:fH:=Aq "put_in" ["puts"] (BJ (wj ((bQ Cd).getD 0 (.Pass ⟨0,0,0,0⟩))) 1)
noncomputable abbrev l_1:fH:=Aq "put_in" [] (BJ (wj ((bQ Cd).getD 0 (.Pass ⟨0,0,0,0⟩))) 2)
noncomputable abbrev l_2:fH:=Aq "out_and_cost" ["name"] (BJ (wj ((bQ Ca).getD 0 (.Pass ⟨0,0,0,0⟩))) 1)
noncomputable abbrev l_3:fH:=Aq "out_and_cost" ["name"] (BJ (wj ((bQ Ca).getD 0 (.Pass ⟨0,0,0,0⟩))) 2)
noncomputable def j4:Nat->fH
 | 0=>l_0
 | 1=>l_1
 | 2=>l_2
 | 3=>l_3
 | _=>R4
noncomputable def tabs:List (Str×Addr):=[("out_and_cost",95),("put_in",53)]
noncomputable def zmt:MS :=
  (retS (HQ (uG (vK "str") (vr 0)) (aD aZ (vr 0) (ct (.int 3)))))
noncomputable def Ul:FD:=bB (bw 1 zmt)
noncomputable def zjo:MS :=
  (aC (fu (lz (jU (az Ul [] (aj (vr 1) au)))) (retS (ct (.bl false))) bh)
  (aC (fu (jU (uG (vK "str") (vr 0))) (retS (HQ (aD (fL 800) (vr 0) (ct (.str [83]))) (aD (fL 800) (vr 0) (ct (.str [75]))))) bh)
  (retS (tZ (aD (fL 800) (aD aZ (vr 0) (ct (.int 0))) (ct (.str [83]))) (aD aZ (vr 0) (ct (.int 3)))))))
noncomputable def ze8:FD:=bB (bw 2 zjo)
noncomputable def zls:MS :=
  (aC (fu (jU (uG (vK "str") (vr 0))) (retS (ct (.int 1))) bh)
  (retS (aD aZ (vr 0) (ct (.int 2)))))
noncomputable def zek:FD:=bB (bw 1 zls)
noncomputable def Fj:MS :=
  (retS (fM (aj (vr 0) (aj (vr 1) (aj (aD bj (az zek [] (aj (vr 0) au)) (az zek [] (aj (vr 1) au))) (aj (az ze8 [] (aj (vr 0) (aj (vr 1) au))) au))))))
noncomputable def uY:FD:=bB (bw 2 Fj)
noncomputable def zgg:MS :=
  (aC (fu (eY (aD (fL 800) (vr 1) (vr 0))) (retS (fM (aj (ct (.tup [.tup [.str [83],.str [75],.int 2,.bl true],.str [75],.int 3,.bl true])) (aj (ct (.int 2)) au)))) bh)
  (retS (ct .non)))
noncomputable def zct:FD:=bB (bw 2 zgg)
noncomputable def zfh:MS :=
  (aC (fu (eY (aD bI (vr 0) (ct .non))) (retS (fM (aj (az uY [] (aj (ct (.str [75])) (aj (vr 1) au))) (aj (ct (.int 1)) au)))) bh)
  (retS (vr 0)))
noncomputable def Yq:FD:=bB (bw 2 zfh)
noncomputable def zfg:MS :=
  (aC (fu (t6 (eY (aD bI (vr 2) (ct .non))) (t6 (eY (aD bI (vr 3) (ct .non))) (jU (az Ul [] (aj (vr 1) au))))) (retS (ct .non)) bh)
  (aC (fu (t6 (eY (aD bI (vr 2) (ct .non))) (eY (aD (fL 800) (aD aZ (vr 1) (ct (.int 1))) (vr 0)))) (retS (fM (aj (aD aZ (vr 1) (ct (.int 0))) (aj (ct (.int 0)) au)))) bh)
  (aC (aG 4 (az Yq [] (aj (vr 2) (aj (aD aZ (vr 1) (ct (.int 0))) au))))
  (aC (aG 5 (az Yq [] (aj (vr 3) (aj (aD aZ (vr 1) (ct (.int 1))) au))))
  (retS (fM (aj (az uY [] (aj (az uY [] (aj (ct (.str [83])) (aj (aD aZ (vr 4) (ct (.int 0))) au))) (aj (aD aZ (vr 5) (ct (.int 0))) au))) (aj (aD bj (aD bj (ct (.int 1)) (aD aZ (vr 4) (ct (.int 1)))) (aD aZ (vr 5) (ct (.int 1)))) au))))))))
noncomputable def zci:FD:=bB (bw 6 zfg)
noncomputable def e_0:ME :=
  (cJ "dict" xW (vr 0) (aj (vr 1) (aj (vr 1) au)))
noncomputable def e_1:ME :=
  (az uY [] (aj (vr 1) (aj (vr 2) au)))
noncomputable def e_2:ME :=
  (az zct [] (aj (vr 0) (aj (vr 1) au)))
noncomputable def e_3:ME :=
  (az zci [] (aj (vr 0) (aj (vr 1) (aj (vr 2) (aj (vr 3) au)))))
noncomputable def GL:Nat->FD
 | 0=>uI 2 e_0
 | 1=>uI 3 e_1
 | 2=>uI 2 e_2
 | 3=>uI 4 e_3
 | _=>λ_ _=>.bad
noncomputable def zln:MS :=
  (aC (aG 3 (cV au))
  (aC (aG 4 (cV (aj (vr 0) au)))
  (aC (bC (jU (vr 4)) (aC (aG 5 (fB "list" vB (vr 4)))
  (aC (dH (cJ "list" a_ (vr 3) (aj (vr 5) au)))
  (fu (lz (jU (uG (vK "str") (vr 5)))) (aC (dH (cJ "list" a_ (vr 4) (aj (aD aZ (vr 5) (ct (.int 0))) au)))
  (dH (cJ "list" a_ (vr 4) (aj (aD aZ (vr 5) (ct (.int 1))) au)))) bh))))
  (aC (aG 6 (cV au))
  (aC (dU (Hb (aj (vr 3) au)) (aM 5) (fu (jU (uG (vK "str") (vr 5))) (dH (cJ "list" a_ (vr 6) (aj (callC j4 GL 1 (aj (vr 5) au)) au))) (aC (aG 7 (fB "list" vB (vr 6)))
  (aC (aG 8 (fB "list" vB (vr 6)))
  (dH (cJ "list" a_ (vr 6) (aj (callC j4 GL 2 (aj (vr 5) (aj (vr 8) (aj (vr 7) au)))) au)))))))
  (retS (aD aZ (vr 6) (ct (.int 0)))))))))
noncomputable def Lz:FD:=bB (bw 9 zln)
noncomputable def zez:MS :=
  (retS (lJ j4 Lz [] (oO (vr 0) (lZ 0 [1] 2 "put_in" (lZ 1 [] 2 "put_in" wG)))))
noncomputable def FW:FD:=bB (bw 2 zez)
noncomputable def zb9:MS :=
  (aC (aG 2 (lJ j4 Lz [] (oO (vr 1) (lZ 2 [0] 1 "out_and_cost" (lZ 3 [0] 1 "out_and_cost" wG)))))
  (retS (az Yq [] (aj (vr 2) (aj (vr 1) au)))))
noncomputable def Yu:FD:=bB (bw 3 zb9)
noncomputable def zmd:MS :=
  (retS (aD aZ (az Yu [] (aj (vr 0) (aj (vr 1) au))) (ct (.int 0))))
noncomputable def zdf:FD:=bB (bw 2 zmd)
noncomputable def zdk:MS :=
  (aC (aG 2 (vr 1))
  (aC (aG 3 (cV au))
  (aC (dU (G_ (aj (vr 0) au)) (aM 4) (aC (aG 5 (az Yu [] (aj (vr 4) (aj (vr 2) au))))
  (aC (aG 2 (aD aZ (vr 5) (ct (.int 0))))
  (dH (cJ "list" a_ (vr 3) (aj (aD aZ (vr 5) (ct (.int 1))) au))))))
  (aC (dH (fB "list" dF (vr 3)))
  (retS (fM (aj (vr 2) (aj (vr 3) au))))))))
noncomputable def za7:FD:=bB (bw 6 zdk)
noncomputable def zju:MS :=
  (retS (aD aZ (az za7 [] (aj (vr 0) (aj (vr 1) au))) (ct (.int 0))))
noncomputable def M3:FD:=bB (bw 2 zju)
noncomputable def zgr:MS :=
  (retS (aD aZ (az za7 [] (aj (vr 0) (aj (vr 1) au))) (ct (.int 1))))
noncomputable def RL:FD:=bB (bw 2 zgr)
noncomputable def zl9:MS :=
  (aC (aG 2 (vr 0))
  (aC (dU (ig (vr 1)) (aM 3) (aG 2 (az uY [] (aj (vr 2) (aj (vr 3) au)))))
  (retS (vr 2))))
noncomputable def LK:FD:=bB (bw 4 zl9)
noncomputable def zjn:MS :=
  (aC (aG 2 (vr 1))
  (aC (dU (fc (aj (vr 0) au)) (aM 3) (aG 2 (az uY [] (aj (ct (.str [75])) (aj (vr 2) au)))))
  (retS (vr 2))))
noncomputable def RK:FD:=bB (bw 4 zjn)
noncomputable def zrf:MS :=
  (retS (az RK [] (aj (vr 0) (aj (az zdf [] (aj (ct (.str [120])) (aj (az RK [] (aj (aD ux (aD ux (vr 1) (ct (.int 1))) (vr 0)) (aj (ct (.str [120])) au))) au))) au))))
noncomputable def Lx:FD:=bB (bw 2 zrf)
noncomputable def zru:MS :=
  (aC (fu (jU (az Ul [] (aj (vr 0) au))) (retS (az uY [] (aj (ct (.str [75])) (aj (vr 0) au)))) bh)
  (retS (az zdf [] (aj (ct (.str [112])) (aj (vr 0) au)))))
noncomputable def zj8:FD:=bB (bw 1 zru)
noncomputable def zmi:MS :=
  (aC (aG 1 (ct (.tup [.tup [.str [83],.str [75],.int 2,.bl true],.str [75],.int 3,.bl true])))
  (aC (dU (ig (vr 0)) (aM 2) (aG 1 (az uY [] (aj (az uY [] (aj (ct (.str [83])) (aj (vr 1) au))) (aj (az zj8 [] (aj (vr 2) au)) au)))))
  (retS (vr 1))))
noncomputable def LC:FD:=bB (bw 3 zmi)
noncomputable def zhb:MS :=
  (retS (az RK [] (aj (ct (.int 1)) (aj (az LC [] (aj (cV (aj (vr 0) (aj (vr 1) au))) au)) au))))
noncomputable def Ui:FD:=bB (bw 2 zhb)
noncomputable def zjx:MS :=
  (aC (aG 1 (ct (.str [75])))
  (aC (dU (Hb (aj (vr 0) au)) (aM 2) (aG 1 (az Ui [] (aj (vr 2) (aj (vr 1) au)))))
  (retS (vr 1))))
noncomputable def Yo:FD:=bB (bw 3 zjx)
noncomputable def zsy:MS :=
  (retS (az LC [] (aj (cV (aj (vr 0) (aj (vr 1) (aj (vr 2) au)))) au)))
noncomputable def Yg:FD:=bB (bw 3 zsy)
noncomputable def zmc:MS :=
  (retS (az LC [] (aj (cV (aj (vr 0) (aj (vr 1) (aj (vr 2) (aj (vr 3) au))))) au)))
noncomputable def zej:FD:=bB (bw 4 zmc)
noncomputable def zfl:MS :=
  (retS (aD bj (ct (.int 2)) (aD lC (ct (.int 2)) (vr 0))))
noncomputable def Yp:FD:=bB (bw 1 zfl)
noncomputable def zep:MS :=
  (retS (tZ (Ih (uG (vK "str") (vr 1))) (aD (fL 800) (aD aZ (vr 1) (ct (.int 0))) (vr 0))))
noncomputable def M6:FD:=bB (bw 2 zep)
noncomputable def zed:MS :=
  (retS (tZ (Ih (uG (vK "str") (vr 0))) (tZ (az M6 [] (aj (ct (.str [83])) (aj (aD aZ (vr 0) (ct (.int 0))) au))) (az M6 [] (aj (ct (.str [75])) (aj (aD aZ (vr 0) (ct (.int 1))) au))))))
noncomputable def zbv:FD:=bB (bw 1 zed)
noncomputable def ztd:MS :=
  (aC (aG 2 (cV au))
  (aC (aG 3 (vr 0))
  (aC (bC (eY (aD ltV (bD dR (aj (vr 2) au)) (vr 1))) (aC (fu (lz (jU (az zbv [] (aj (vr 3) au)))) (retS (ct .non)) bh)
  (aC (dH (cJ "list" a_ (vr 2) (aj (aD aZ (aD aZ (vr 3) (ct (.int 1))) (ct (.int 1))) au)))
  (aG 3 (aD aZ (aD aZ (vr 3) (ct (.int 0))) (ct (.int 1)))))))
  (aC (fu (xJ (eY (aD (xK 800) (vr 3) (ct (.tup [.tup [.str [83],.str [75],.int 2,.bl true],.str [75],.int 3,.bl true])))) (lz (jU (az Ul [] (aj (vr 0) au))))) (retS (ct .non)) bh)
  (aC (dH (fB "list" dF (vr 2)))
  (retS (vr 2)))))))
noncomputable def FT:FD:=bB (bw 4 ztd)
noncomputable def zet:MS :=
  (aC (aG 1 (cV au))
  (aC (aG 2 (vr 0))
  (aC (bC (eY (aD (xK 800) (vr 2) (ct (.str [75])))) (aC (aG 3 (Mj (jU (az M6 [] (aj (ct (.str [75])) (aj (vr 2) au)))) (az FT [] (aj (aD aZ (vr 2) (ct (.int 1))) (aj (ct (.int 2)) au))) (ct .non)))
  (aC (fu (eY (aD bI (vr 3) (ct .non))) (retS (ct .non)) bh)
  (aC (dH (cJ "list" a_ (vr 1) (aj (aD aZ (vr 3) (ct (.int 0))) au)))
  (aG 2 (aD aZ (vr 3) (ct (.int 1))))))))
  (retS (vr 1)))))
noncomputable def Uh:FD:=bB (bw 4 zet)
noncomputable def zl3:MS :=
  (aC (aG 2 (ct (.int 0)))
  (aC (aG 3 (vr 0))
  (aC (bC (jU (az M6 [] (aj (ct (.str [75])) (aj (vr 3) au)))) (aC (aG 2 (aD bj (vr 2) (ct (.int 1))))
  (aG 3 (aD aZ (vr 3) (ct (.int 1))))))
  (aC (fu (t6 (eY (aD ltV (vr 2) (vr 1))) (eY (aD (fL 800) (vr 0) (az Lx [] (aj (vr 2) (aj (vr 1) au)))))) (retS (vr 2)) bh)
  (retS (ct .non))))))
noncomputable def M4:FD:=bB (bw 4 zl3)
noncomputable def zgm:MS :=
  (aC (aG 1 Xj)
  (aC (dU (ig (vr 0)) (aM 2) (dH (cJ "dict" lO (vr 1) (aj (fM (aj (aD aZ (vr 2) (ct (.int 0))) (aj (aD aZ (vr 2) (ct (.int 1))) au))) (aj (vr 2) au)))))
  (retS (vr 1))))
noncomputable def zcr:FD:=bB (bw 3 zgm)
noncomputable def zhi:MS :=
  (retS (Mj (jU (fB "str" lE (vr 0))) (aD bj (ct (.str [100])) (vr 0)) (ct (.str [100]))))
noncomputable def Yr:FD:=bB (bw 1 zhi)
noncomputable def zi6:MS :=
  (retS (az LK [] (aj (ct (.str [115])) (aj (aD bj (eF [none] (uA (vr 0)) (aM 0) j5 (az Yr [] (aj (vr 0) au))) (bD jR (aj (ct (.tup [.str [110],.str [102],.str [108],.str [114]])) au))) au))))
noncomputable def zc3:FD:=bB (bw 1 zi6)
noncomputable def zi4:MS :=
  (retS (az M3 [] (aj (ct (.tup [.str [108],.str [115],.str [114],.str [102]])) (aj (az zc3 [] (aj (vr 0) au)) au))))
noncomputable def zd7:FD:=bB (bw 1 zi4)
noncomputable def zlv:MS :=
  (aC (aG 3 (fO (cO (ct (.str [110])) (vr 1) iz)))
  (aC (dU (Ti (vr 2)) (aM 4) (oH (aD vJ (vr 2) (vr 4)) (vy lr (vr 3) (az Yr [] (aj (vr 4) au)))))
  (retS (az FW [] (aj (vr 0) (aj (vr 3) au))))))
noncomputable def zgw:FD:=bB (bw 5 zlv)
noncomputable def zi5:MS :=
  (retS (aD bj (aD bj (az Yp [] (aj (ct (.int 2)) au)) (az Yp [] (aj (ct (.int 3)) au))) (bD xG (aj (az RL [] (aj (ct (.tup [.str [108],.str [115],.str [114],.str [102]])) (aj (az zc3 [] (aj (vr 0) au)) au))) au))))
noncomputable def zdx:FD:=bB (bw 1 zi5)
noncomputable def zi7:MS :=
  (retS (az zej [] (aj (ct (.str [110])) (aj (ct (.str [108])) (aj (ct (.str [119])) (aj (ct (.str [114])) au))))))
noncomputable def zd2:FD:=bB (bw 0 zi7)
noncomputable def zij:MS :=
  (retS (az FW [] (aj (az M3 [] (aj (ct (.tup [.str [110],.str [102],.str [108],.str [114]])) (aj (az zd2 [] au) au))) (aj (fO (cO (ct (.str [119])) (vr 0) iz)) au))))
noncomputable def zc6:FD:=bB (bw 1 zij)
noncomputable def zhg:MS :=
  (aC (aG 1 (Mj (eY (aD (fL 800) (vr 0) (ct (.str [108])))) (fM (aj (ct (.str [108])) (aj (ct (.str [114])) au))) (fM (aj (ct (.str [114])) (aj (ct (.str [108])) au)))))
  (retS (az LK [] (aj (aD aZ (vr 1) (ct (.int 0))) (aj (cV (aj (ct (.str [98,97,114,101])) (aj (ct (.str [102,117,108,108])) (aj (az uY [] (aj (az uY [] (aj (ct (.str [103])) (aj (ct (.str [102])) au))) (aj (ct (.str [102])) au))) (aj (aD aZ (vr 1) (ct (.int 1))) au))))) au)))))
noncomputable def zcn:FD:=bB (bw 2 zhg)
noncomputable def zgs:MS :=
  (aC (aG 1 (az Ui [] (aj (ct (.str [119])) (aj (ct (.str [120])) au))))
  (aC (fu (eY (aD (fL 800) (vr 0) (ct (.str [108])))) (retS (az uY [] (aj (ct (.str [121])) (aj (az Yg [] (aj (ct (.str [116])) (aj (ct (.str [97])) (aj (vr 1) au)))) au)))) bh)
  (retS (az uY [] (aj (ct (.str [121])) (aj (az Yg [] (aj (vr 1) (aj (ct (.str [97])) (aj (ct (.str [116])) au)))) au))))))
noncomputable def zcz:FD:=bB (bw 2 zgs)
noncomputable def Ys:MS :=
  (aC (aG 3 (az zcz [] (aj (vr 1) au)))
  (aC (aG 4 (az FW [] (aj (az M3 [] (aj (ct (.tup [.str [121],.str [120]])) (aj (vr 3) au))) (aj (fO (cO (ct (.str [97])) (aD vJ (vr 2) (ct (.str [95]))) (cO (ct (.str [116])) (ct (.str [75])) iz))) au))))
  (aC (aG 5 (az M3 [] (aj (ct (.tup [.str [97],.str [116],.str [121],.str [120]])) (aj (vr 3) au))))
  (aC (cI "Move" "plan" (vr 0) (az M3 [] (aj (ct (.tup [.str [110],.str [102],.str [108],.str [114]])) (aj (az zcn [] (aj (vr 1) au)) au))))
  (aC (cI "Move" "written" (vr 0) Zh)
  (aC (dU (Ti (vr 2)) (aM 6) (aC (aG 7 (fO (cO (ct (.str [119])) (aD vJ (vr 2) (vr 6)) iz)))
  (oH (fO (cO (ct (.str [98,97,114,101])) (az FW [] (aj (vr 4) (aj (vr 7) au))) (cO (ct (.str [102,117,108,108])) (az FW [] (aj (vr 5) (aj (vr 7) au))) iz))) (vy lr (cB "Move" "written" (vr 0)) (vr 6)))))
  (aC (aG 8 (aD bj (bD xG (aj (az RL [] (aj (ct (.tup [.str [110],.str [102],.str [108],.str [114]])) (aj (az zcn [] (aj (vr 1) au)) au))) au)) (ct (.int 1))))
  (aC (cI "Move" "bare_cost" (vr 0) (aD bj (vr 8) (bD xG (aj (az RL [] (aj (ct (.tup [.str [121],.str [120]])) (aj (vr 3) au))) au))))
  (cI "Move" "full_cost" (vr 0) (aD bj (aD bj (vr 8) (az Yp [] (aj (ct (.int 2)) au))) (bD xG (aj (az RL [] (aj (ct (.tup [.str [97],.str [116],.str [121],.str [120]])) (aj (vr 3) au))) au))))))))))))
noncomputable def Uj:FD:=bB (bw 9 Ys)
noncomputable def zdd:MS :=
  (aC (aG 3 (bD sE (aj (aD vJ (cB "Move" "written" (vr 0)) (vr 1)) au)))
  (aC (oH (vr 2) (vy lr (vr 3) (ct (.str [103]))))
  (retS (az FW [] (aj (cB "Move" "plan" (vr 0)) (aj (vr 3) au))))))
noncomputable def zer:FD:=bB (bw 4 zdd)
noncomputable def zge:MS :=
  (retS (az LK [] (aj (ct (.str [118])) (aj (cV (aj (ct (.str [101])) (aj (ct (.str [102])) au))) au))))
noncomputable def zc0:FD:=bB (bw 0 zge)
noncomputable def ziz:MS :=
  (retS (az FW [] (aj (az M3 [] (aj (ct (.tup [.str [102],.str [118]])) (aj (az zc0 [] au) au))) (aj (fO (cO (ct (.str [101])) (vr 0) iz)) au))))
noncomputable def zdq:FD:=bB (bw 1 ziz)
noncomputable def zfn:MS :=
  (retS (az LC [] (aj (cV (aj (vr 0) (aj (vr 1) au))) au)))
noncomputable def zcg:FD:=bB (bw 2 zfn)
noncomputable def zqi:MS :=
  (retS (aD dG (vr 0) (ct (.int 2))))
noncomputable def ze6:FD:=bB (bw 1 zqi)
noncomputable def zft(ym:FD):MS :=
  (aC (fu (eY (aD (fL 800) (bD dR (aj (vr 0) au)) (ct (.int 1)))) (retS (aD aZ (vr 0) (ct (.int 0)))) bh)
  (aC (aG 1 (az ze6 [] (aj (bD dR (aj (vr 0) au)) au)))
  (retS (az LC [] (aj (cV (aj (az ym [] (aj (GP (vr 0) R3 (Mi (vr 1))) au)) (aj (az ym [] (aj (GP (vr 0) (Mi (vr 1)) R3) au)) au))) au)))))
noncomputable def Ue:Nat->FD
 | 0=>λ_ _=>.bad
 | n+1=>bB (bw 2 (zft (Ue n)))
noncomputable def zil:MS :=
  (aC (aG 2 (cV au))
  (aC (aG 3 (ct (.int 0)))
  (aC (aG 4 (vr 1))
  (aC (bC (eY (aD Xa (vr 4) (ct (.int 1)))) (aC (aG 5 (az ze6 [] (aj (vr 4) au)))
  (aC (aG 6 (Mj (eY (aD ltV (vr 0) (aD bj (vr 3) (vr 5)))) (ct (.int 0)) (ct (.int 1))))
  (aC (dH (cJ "list" a_ (vr 2) (aj (vr 6) au)))
  (aC (aG 3 (aD bj (vr 3) (aD lC (vr 5) (vr 6))))
  (aG 4 (Mj (eY (aD (fL 800) (vr 6) (ct (.int 0)))) (vr 5) (aD ux (vr 4) (vr 5)))))))))
  (retS (vr 2))))))
noncomputable def zc7:FD:=bB (bw 7 zil)
noncomputable def zq6:MS :=
  (retS (az LC [] (aj (eF [none] (ig (az zc7 [] (aj (vr 0) (aj (vr 1) au)))) (aM 0) j5 (az Lx [] (aj (vr 0) (aj (ct (.int 2)) au)))) au)))
noncomputable def zf0:FD:=bB (bw 2 zq6)
noncomputable def ziv:MS :=
  (aC (aG 4 (bD sE (aj (vr 2) au)))
  (aC (dU (uA (cB "Book" "letters" (vr 0))) (aM 5) (aC (aG 6 (cJ "dict" J6 (cB "Book" "by_key" (vr 0)) (aj (fM (aj (vr 1) (aj (vr 5) au))) au)))
  (fu (eY (aD lA (vr 6) (ct .non))) (oH (Al "Move" "deed" zer (aD vJ (cB "Book" "moves" (vr 0)) (aD aZ (vr 6) (ct (.int 3)))) (aj (aD aZ (vr 6) (ct (.int 2))) (aj (aD vJ (vr 3) (aD aZ (vr 6) (ct (.int 4)))) au))) (vy lr (vr 4) (vr 5))) bh)))
  (retS (vr 4))))
noncomputable def zd8:FD:=bB (bw 7 ziv)
noncomputable def zjk:MS :=
  (aC (aG 1 (bD dR (aj (cB "Book" "states" (vr 0)) au)))
  (aC (aG 2 (az zd7 [] (aj (cB "Book" "letters" (vr 0)) au)))
  (aC (aG 3 Zh)
  (aC (dU (uA (cB "Book" "letters" (vr 0))) (aM 4) (oH (az zc6 [] (aj (aD vJ (cB "Book" "sign_trees" (vr 0)) (vr 4)) au)) (vy lr (vr 3) (vr 4))))
  (aC (aG 5 Zh)
  (aC (dU (qQ (aj (cB "Book" "states" (vr 0)) au)) (rD 2 (dY (aM 6) (dY (aM 7) tQ))) (oH (az zf0 [] (aj (vr 6) (aj (vr 1) au))) (vy lr (vr 5) (vr 7))))
  (aC (aG 8 (cV au))
  (aC (dU (qQ (aj (cB "Book" "states" (vr 0)) au)) (rD 2 (dY (aM 6) (dY (aM 7) tQ))) (dH (cJ "list" a_ (vr 8) (aj (az zgw [] (aj (vr 2) (aj (az Lx [] (aj (vr 6) (aj (vr 1) au))) (aj (az zd8 [] (aj (vr 0) (aj (vr 7) (aj (vr 3) (aj (vr 5) au))))) au)))) au))))
  (retS (vr 8))))))))))
noncomputable def zfa:FD:=bB (bw 9 zjk)
noncomputable def zec:MS :=
  (aC (aG 1 Zh)
  (aC (dU (uT (aj (vr 0) au)) (rD 2 (dY (aM 2) (dY (aM 3) tQ))) (oH (az Lx [] (aj (vr 2) (aj (bD dR (aj (vr 0) au)) au))) (vy lr (vr 1) (vr 3))))
  (retS (vr 1))))
noncomputable def zbu:FD:=bB (bw 4 zec)
noncomputable def zco:MS :=
  (aC (cI "Book" "rules" (vr 0) (bD jR (aj (vr 1) au)))
  (aC (cI "Book" "signs" (vr 0) (vr 2))
  (aC (cI "Book" "states" (vr 0) (bD jR (aj (vr 3) au)))
  (aC (cI "Book" "letters" (vr 0) (aD bj (ct (.str [95])) (vr 2)))
  (aC (cI "Book" "by_key" (vr 0) (az zcr [] (aj (vr 1) au)))
  (aC (cI "Book" "sign_trees" (vr 0) (az zbu [] (aj (cB "Book" "letters" (vr 0)) au)))
  (aC (cI "Book" "moves" (vr 0) (fO (cO (ct (.str [108])) (iT "Move" Uj (aj (ct (.str [108])) (aj (cB "Book" "sign_trees" (vr 0)) au))) (cO (ct (.str [114])) (iT "Move" Uj (aj (ct (.str [114])) (aj (cB "Book" "sign_trees" (vr 0)) au))) iz))))
  (aC (cI "Book" "start_cost" (vr 0) (az zdx [] (aj (cB "Book" "letters" (vr 0)) au)))
  (aC (aG 4 (az zfa [] (aj (vr 0) au)))
  (aC (aG 5 (az (Ue 10) [] (aj (eF [none] (ig (vr 4)) (aM 0) j5 (az zdq [] (aj (vr 0) au))) au)))
  (cI "Book" "state_trees" (vr 0) (eF [some 5,none] (ig (vr 4)) (aM 1) j5 (az zcg [] (aj (vr 1) (aj (vr 0) au)))))))))))))))
noncomputable def zcj:FD:=bB (bw 6 zco)
noncomputable def zk2:MS :=
  (retS (aD aZ (cB "Book" "state_trees" (vr 0)) (cJ "list" fK (cB "Book" "states" (vr 0)) (aj (vr 1) au))))
noncomputable def RM:FD:=bB (bw 2 zk2)
noncomputable def znt:MS :=
  (aC (aG 2 (az Yo [] (aj (eF [some 0,none] (vX (aj (aD aZ (vr 1) (ct (.int 1))) au)) (aM 1) j5 (aD vJ (cB "Book" "sign_trees" (vr 0)) (vr 1))) au)))
  (aC (aG 3 (az Yo [] (aj (eF [some 0,none] (uA (aD aZ (vr 1) (ct (.int 3)))) (aM 1) j5 (aD vJ (cB "Book" "sign_trees" (vr 0)) (vr 1))) au)))
  (retS (fM (aj (vr 2) (aj (aD vJ (cB "Book" "sign_trees" (vr 0)) (aD aZ (vr 1) (ct (.int 2)))) (aj (vr 3) au)))))))
noncomputable def zdu:FD:=bB (bw 4 znt)
noncomputable def zj5:MS :=
  (aC (aG 2 (az zdu [] (aj (vr 0) (aj (vr 1) au))))
  (retS (az uY [] (aj (az RM [] (aj (vr 0) (aj (aD aZ (vr 1) (ct (.int 0))) au))) (aj (az Yg [] (aj (aD aZ (vr 2) (ct (.int 0))) (aj (aD aZ (vr 2) (ct (.int 1))) (aj (aD aZ (vr 2) (ct (.int 2))) au)))) au)))))
noncomputable def Uk:FD:=bB (bw 3 zj5)
noncomputable def zmx:MS :=
  (aC (aG 2 (az zdu [] (aj (vr 0) (aj (vr 1) au))))
  (aC (aG 3 (az Lx [] (aj (cJ "list" fK (cB "Book" "states" (vr 0)) (aj (aD aZ (vr 1) (ct (.int 0))) au)) (aj (bD dR (aj (cB "Book" "states" (vr 0)) au)) au))))
  (retS (az zej [] (aj (vr 3) (aj (aD aZ (vr 2) (ct (.int 0))) (aj (aD aZ (vr 2) (ct (.int 1))) (aj (aD aZ (vr 2) (ct (.int 2))) au))))))))
noncomputable def zc5:FD:=bB (bw 4 zmx)
noncomputable def zku:MS :=
  (aC (aG 2 (az Uh [] (aj (vr 1) au)))
  (aC (fu (eY (aD bI (vr 2) (ct .non))) (retS (ct .non)) bh)
  (aC (aG 3 (eF [some 0,none] (ig (vr 2)) (aM 1) j5 (az M4 [] (aj (vr 1) (aj (bD dR (aj (cB "Book" "letters" (vr 0)) au)) au)))))
  (aC (fu (eY (aD (pQ 800 false) (ct .non) (vr 3))) (retS (ct .non)) bh)
  (retS (eF [some 0,none] (ig (vr 3)) (aM 1) j5 (aD aZ (cB "Book" "letters" (vr 0)) (vr 1))))))))
noncomputable def zca:FD:=bB (bw 4 zku)
noncomputable def zdz:MS :=
  (aC (fu (xJ (eY (aD bI (vr 1) (ct .non))) (eY (aD bI (vr 2) (ct .non)))) (retS (ct .non)) bh)
  (aC (aG 3 (az zca [] (aj (vr 0) (aj (aD aZ (vr 2) (ct (.int 0))) au))))
  (aC (aG 4 (az M4 [] (aj (aD aZ (vr 2) (ct (.int 1))) (aj (bD dR (aj (cB "Book" "letters" (vr 0)) au)) au))))
  (aC (aG 5 (az zca [] (aj (vr 0) (aj (aD aZ (vr 2) (ct (.int 2))) au))))
  (aC (fu (xJ (eY (aD bI (vr 3) (ct .non))) (xJ (eY (aD bI (vr 4) (ct .non))) (eY (aD bI (vr 5) (ct .non))))) (retS (ct .non)) bh)
  (aC (dH (fB "list" dF (vr 3)))
  (retS (fM (aj (aD aZ (cB "Book" "states" (vr 0)) (vr 1)) (aj (cJ "str" uL (ct (.str [])) (aj (vr 3) au)) (aj (aD aZ (cB "Book" "letters" (vr 0)) (vr 4)) (aj (cJ "str" uL (ct (.str [])) (aj (vr 5) au)) au))))))))))))
noncomputable def LR:FD:=bB (bw 6 zdz)
noncomputable def zcy:MS :=
  (aC (fu (jU (uG (vK "str") (vr 1))) (retS (ct .non)) bh)
  (aC (dU (qQ (aj (cB "Book" "state_trees" (vr 0)) au)) (rD 2 (dY (aM 2) (dY (aM 3) tQ))) (fu (eY (aD (fL 800) (vr 3) (aD aZ (vr 1) (ct (.int 0))))) (retS (az LR [] (aj (vr 0) (aj (vr 2) (aj (az FT [] (aj (aD aZ (vr 1) (ct (.int 1))) (aj (ct (.int 3)) au))) au))))) bh))
  (retS (ct .non))))
noncomputable def xq:FD:=bB (bw 4 zcy)
noncomputable def znn:MS :=
  (aC (aG 2 (az FT [] (aj (vr 1) (aj (ct (.int 4)) au))))
  (aC (fu (eY (aD bI (vr 2) (ct .non))) (retS (ct .non)) bh)
  (retS (az LR [] (aj (vr 0) (aj (az M4 [] (aj (aD aZ (vr 2) (ct (.int 0))) (aj (bD dR (aj (cB "Book" "states" (vr 0)) au)) au))) (aj (GP (vr 2) (Mi (ct (.int 1))) R3) au)))))))
noncomputable def yI:FD:=bB (bw 3 znn)
noncomputable def zst:MS :=
  (aC (fu (eY (aD ltV (vr 1) (bD dR (aj (vr 0) au)))) (retS (aD aZ (vr 0) (vr 1))) bh)
  (retS (aD bj (aD lC (ct (.int 7919)) (vr 1)) (ct (.int 13)))))
noncomputable def Mx:FD:=bB (bw 2 zst)
noncomputable def zo2:MS :=
  (aC (aG 2 (aD eN (aD bj (aD bj (aD lC (aD eN (vr 0) (ct (.int 2147483647))) (ct (.int 48271))) (aD lC (vr 1) (ct (.int 69621)))) (ct (.int 11))) (ct (.int 2147483629))))
  (aC (aG 2 (aD eN (aD bj (aD lC (vr 2) (vr 2)) (ct (.int 7))) (ct (.int 998244353))))
  (retS (aD eN (aD bj (aD lC (vr 2) (vr 2)) (vr 1)) (ct (.int 1000000007))))))
noncomputable def MJ:FD:=bB (bw 3 zo2)
noncomputable def zqt:MS :=
  (aC (fu (jU (uG (vK "str") (vr 0))) (retS (ct (.int 1))) bh)
  (retS (aD aZ (vr 0) (ct (.int 2)))))
noncomputable def Lw:FD:=bB (bw 1 zqt)
noncomputable def zsf:MS :=
  (retS (HQ (uG (vK "str") (vr 0)) (aD aZ (vr 0) (ct (.int 3)))))
noncomputable def T4:FD:=bB (bw 1 zsf)
noncomputable def zn8:MS :=
  (aC (aG 2 (tZ (az T4 [] (aj (vr 0) au)) (az T4 [] (aj (vr 1) au))))
  (aC (fu (t6 (jU (vr 2)) (lz (jU (uG (vK "str") (vr 0))))) (aG 2 (aD (fL 800) (aD aZ (vr 0) (ct (.int 0))) (ct (.str [83])))) bh)
  (retS (fM (aj (vr 0) (aj (vr 1) (aj (aD bj (az Lw [] (aj (vr 0) au)) (az Lw [] (aj (vr 1) au))) (aj (vr 2) au))))))))
noncomputable def jz:FD:=bB (bw 3 zn8)
noncomputable def zlg:MS :=
  (aC (aG 1 (az jz [] (aj (az jz [] (aj (ct (.str [83])) (aj (ct (.str [75])) au))) (aj (ct (.str [75])) au))))
  (aC (dU (ig (vr 0)) (aM 2) (aG 1 (az jz [] (aj (az jz [] (aj (ct (.str [83])) (aj (vr 1) au))) (aj (az jz [] (aj (ct (.str [75])) (aj (vr 2) au))) au)))))
  (retS (vr 1))))
noncomputable def Gn:FD:=bB (bw 3 zlg)
noncomputable def zrr:MS :=
  (aC (aG 2 (ct (.str [75])))
  (aC (fu (eY (aD (fL 800) (aD ux (vr 1) (ct (.int 1))) (vr 0))) (aG 2 (az jz [] (aj (az jz [] (aj (ct (.str [83])) (aj (ct (.str [75])) au))) (aj (ct (.str [75])) au)))) bh)
  (aC (dU (fc (aj (aD ux (aD ux (vr 1) (ct (.int 2))) (vr 0)) au)) (aM 3) (aG 2 (az jz [] (aj (az jz [] (aj (ct (.str [83])) (aj (az jz [] (aj (ct (.str [75])) (aj (ct (.str [75])) au))) au))) (aj (vr 2) au)))))
  (aC (dU (fc (aj (vr 0) au)) (aM 3) (aG 2 (az jz [] (aj (ct (.str [75])) (aj (vr 2) au)))))
  (retS (vr 2))))))
noncomputable def RC:FD:=bB (bw 4 zrr)
noncomputable def zs6:MS :=
  (aC (aG 2 (ct (.str [75])))
  (aC (dU (vX (aj (vr 1) au)) (aM 3) (aC (aG 4 (az RC [] (aj (aD bj (cJ "str" rP (vr 0) (aj (vr 3) au)) (ct (.int 1))) (aj (aD bj (bD dR (aj (vr 0) au)) (ct (.int 1))) au))))
  (aG 2 (az jz [] (aj (ct (.str [75])) (aj (az Gn [] (aj (cV (aj (vr 4) (aj (vr 2) au))) au)) au))))))
  (retS (vr 2))))
noncomputable def Z3:FD:=bB (bw 5 zs6)
noncomputable def Fl:MS :=
  (aC (aG 2 (az RC [] (aj (aD bj (cJ "str" rP (vr 0) (aj (aD aZ (vr 1) (ct (.int 2))) au)) (ct (.int 1))) (aj (aD bj (bD dR (aj (vr 0) au)) (ct (.int 1))) au))))
  (retS (cV (aj (az Z3 [] (aj (vr 0) (aj (zR (aD aZ (vr 1) (ct (.int 1))) (uG yR (ct (.int 1)))) au))) (aj (vr 2) (aj (az Z3 [] (aj (vr 0) (aj (aD aZ (vr 1) (ct (.int 3))) au))) au))))))
noncomputable def zj7:FD:=bB (bw 3 Fl)
noncomputable def zpc:MS :=
  (aC (aG 3 (cV au))
  (aC (aG 4 (ct (.int 4)))
  (aC (dU (ig (vr 2)) (aM 5) (dU (uA (aD bj (ct (.str [95])) (vr 1))) (aM 6) (aC (aG 7 (az MJ [] (aj (az Mx [] (aj (vr 0) (aj (vr 4) au))) (aj (vr 4) au))))
  (aC (aG 4 (aD bj (vr 4) (ct (.int 1))))
  (fu (eY (aD Xa (aD eN (vr 7) (ct (.int 5))) (ct (.int 0)))) (aC (aG 8 (aD aZ (aD bj (ct (.str [95])) (vr 1)) (aD eN (aD dG (vr 7) (ct (.int 5))) (aD bj (bD dR (aj (vr 1) au)) (ct (.int 1))))))
  (aC (aG 9 (aD aZ (ct (.str [108,114])) (aD eN (aD dG (vr 7) (ct (.int 35))) (ct (.int 2)))))
  (dH (cJ "list" a_ (vr 3) (aj (fM (aj (vr 5) (aj (vr 6) (aj (vr 8) (aj (vr 9) (aj (aD aZ (vr 2) (aD eN (aD dG (vr 7) (ct (.int 77))) (bD dR (aj (vr 2) au)))) au)))))) au))))) bh)))))
  (retS (vr 3)))))
noncomputable def zhx:FD:=bB (bw 10 zpc)
noncomputable def zqz:MS :=
  (aC (aG 3 (ct (.str [])))
  (aC (dU (fc (aj (vr 2) au)) (aM 4) (aG 3 (aD bj (vr 3) (aD aZ (aD bj (ct (.str [95])) (vr 1)) (aD eN (aD dG (az MJ [] (aj (vr 0) (aj (aD bj (ct (.int 40)) (vr 4)) au))) (ct (.int 3))) (aD bj (bD dR (aj (vr 1) au)) (ct (.int 1))))))))
  (retS (vr 3))))
noncomputable def Z6:FD:=bB (bw 5 zqz)
noncomputable def zfz(ym:FD):MS :=
  (aC (fu (jU (uG (vK "str") (vr 0))) (retS (aD aZ (ct (.str [83,75])) (bD Eb (aj (aD (fL 800) (vr 0) (ct (.str [83]))) au)))) bh)
  (aC (fu (eY (aD ltV (vr 1) (az Lw [] (aj (aD aZ (vr 0) (ct (.int 0))) au)))) (retS (az jz [] (aj (az ym [] (aj (aD aZ (vr 0) (ct (.int 0))) (aj (vr 1) au))) (aj (aD aZ (vr 0) (ct (.int 1))) au)))) bh)
  (retS (az jz [] (aj (aD aZ (vr 0) (ct (.int 0))) (aj (az ym [] (aj (aD aZ (vr 0) (ct (.int 1))) (aj (aD ux (vr 1) (az Lw [] (aj (aD aZ (vr 0) (ct (.int 0))) au))) au))) au))))))
noncomputable def M5:Nat->FD
 | 0=>λ_ _=>.bad
 | n+1=>bB (bw 2 (zfz (M5 n)))
noncomputable def zme:MS :=
  (aC (aG 1 (cV au))
  (aC (dU (fc (aj (aD bj (ct (.int 1)) (aD eN (az Mx [] (aj (vr 0) (aj (ct (.int 0)) au))) (ct (.int 4)))) au)) (aM 2) (aC (aG 3 (aD eN (az MJ [] (aj (az Mx [] (aj (vr 0) (aj (ct (.int 1)) au))) (aj (aD bj (ct (.int 60)) (vr 2)) au))) (ct (.int 5001))))
  (aC (bC (eY (aD (pQ 800 false) (vr 3) (vr 1))) (aG 3 (aD eN (aD bj (vr 3) (ct (.int 1))) (ct (.int 5001)))))
  (dH (cJ "list" a_ (vr 1) (aj (vr 3) au))))))
  (retS (vr 1))))
noncomputable def zf4:FD:=bB (bw 4 zme)
noncomputable def zn7:MS :=
  (aC (aG 1 (ct (.str [])))
  (aC (dU (fc (aj (aD eN (aD dG (az Mx [] (aj (vr 0) (aj (ct (.int 0)) au))) (ct (.int 4))) (ct (.int 5))) au)) (aM 2) (aC (aG 3 (aD aZ (ct (.str [97,98,99,100,101,102,103,104,105,106,107,108,109,110,111,112,113,114,115,116,117,118,119,120,121,122])) (aD eN (az MJ [] (aj (az Mx [] (aj (vr 0) (aj (ct (.int 2)) au))) (aj (aD bj (ct (.int 70)) (vr 2)) au))) (ct (.int 26)))))
  (fu (eY (aD qD (vr 3) (vr 1))) (aG 1 (aD bj (vr 1) (vr 3))) bh)))
  (retS (vr 1))))
noncomputable def zhu:FD:=bB (bw 4 zn7)
noncomputable def Fo:MS :=
  (aC (aG 4 (az zj7 [] (aj (vr 2) (aj (vr 1) au))))
  (aC (aG 5 (az RM [] (aj (vr 0) (aj (aD aZ (vr 1) (ct (.int 0))) au))))
  (aC (aG 6 (az Uk [] (aj (vr 0) (aj (vr 1) au))))
  (aC (fu (eY (aD (xK 800) (vr 6) (az jz [] (aj (vr 5) (aj (az Gn [] (aj (vr 4) au)) au))))) (retS (ct (.bl false))) bh)
  (aC (aG 7 (az RC [] (aj (cJ "list" fK (vr 3) (aj (aD aZ (vr 1) (ct (.int 0))) au)) (aj (bD dR (aj (vr 3) au)) au))))
  (aC (fu (eY (aD (xK 800) (az zc5 [] (aj (vr 0) (aj (vr 1) au))) (az Gn [] (aj (aD bj (cV (aj (vr 7) au)) (vr 4)) au)))) (retS (ct (.bl false))) bh)
  (aC (fu (xJ (eY (aD (xK 800) (az xq [] (aj (vr 0) (aj (vr 6) au))) (vr 1))) (eY (aD (xK 800) (az yI [] (aj (vr 0) (aj (az Gn [] (aj (aD bj (cV (aj (vr 7) au)) (vr 4)) au)) au))) (vr 1)))) (retS (ct (.bl false))) bh)
  (retS (tZ (aD bI (az yI [] (aj (vr 0) (aj (vr 6) au))) (ct .non)) (aD bI (az xq [] (aj (vr 0) (aj (az Gn [] (aj (aD bj (cV (aj (vr 7) au)) (vr 4)) au)) au))) (ct .non)))))))))))
noncomputable def zkb:FD:=bB (bw 8 Fo)
noncomputable def Le:MS :=
  (aC (aG 2 (az xq [] (aj (vr 0) (aj (vr 1) au))))
  (retS (HQ (aD bI (vr 2) (ct .non)) (aD (fL 800) (az Uk [] (aj (vr 0) (aj (vr 2) au))) (vr 1)))))
noncomputable def Z8:FD:=bB (bw 3 Le)
noncomputable def znf:MS :=
  (aC (aG 2 (az yI [] (aj (vr 0) (aj (vr 1) au))))
  (retS (HQ (aD bI (vr 2) (ct .non)) (aD (fL 800) (az zc5 [] (aj (vr 0) (aj (vr 2) au))) (vr 1)))))
noncomputable def zfp:FD:=bB (bw 3 znf)
noncomputable def Fp:MS :=
  (aC (aG 5 (az Uk [] (aj (vr 0) (aj (vr 2) au))))
  (aC (aG 6 (aD aZ (vr 3) (aD eN (vr 4) (bD dR (aj (vr 3) au)))))
  (aC (fu (eY (aD (xK 800) (az xq [] (aj (vr 0) (aj (az jz [] (aj (az RM [] (aj (vr 0) (aj (vr 6) au))) (aj (aD aZ (vr 5) (ct (.int 1))) au))) au))) (aD bj (fM (aj (vr 6) au)) (GP (vr 2) (Mi (ct (.int 1))) R3)))) (retS (ct (.bl false))) bh)
  (aC (fu (lz (jU (az Z8 [] (aj (vr 0) (aj (az jz [] (aj (aD aZ (vr 5) (ct (.int 0))) (aj (az (M5 160) [] (aj (aD aZ (vr 5) (ct (.int 1))) (aj (aD eN (vr 4) (az Lw [] (aj (aD aZ (vr 5) (ct (.int 1))) au))) au))) au))) au))))) (retS (ct (.bl false))) bh)
  (aC (fu (lz (jU (az Z8 [] (aj (vr 0) (aj (az jz [] (aj (az (M5 160) [] (aj (aD aZ (vr 5) (ct (.int 0))) (aj (aD eN (aD dG (vr 4) (ct (.int 3))) (az Lw [] (aj (aD aZ (vr 5) (ct (.int 0))) au))) au))) (aj (aD aZ (vr 5) (ct (.int 1))) au))) au))))) (retS (ct (.bl false))) bh)
  (aC (fu (xJ (eY (aD (xK 800) (az xq [] (aj (vr 1) (aj (az Uk [] (aj (vr 1) (aj (vr 2) au))) au))) (vr 2))) (lz (jU (az Z8 [] (aj (vr 0) (aj (az Uk [] (aj (vr 1) (aj (vr 2) au))) au)))))) (retS (ct (.bl false))) bh)
  (aC (aG 7 (az zc5 [] (aj (vr 0) (aj (vr 2) au))))
  (aC (fu (lz (jU (az zfp [] (aj (vr 0) (aj (az (M5 160) [] (aj (vr 7) (aj (aD eN (aD dG (vr 4) (ct (.int 7))) (az Lw [] (aj (vr 7) au))) au))) au))))) (retS (ct (.bl false))) bh)
  (aC (aG 8 (az jz [] (aj (az jz [] (aj (ct (.str [83])) (aj (vr 7) au))) (aj (az jz [] (aj (ct (.str [75])) (aj (aD aZ (vr 5) (ct (.int 1))) au))) au))))
  (retS (tZ (aD bI (az yI [] (aj (vr 0) (aj (aD aZ (vr 5) (ct (.int 1))) au))) (ct .non)) (aD bI (az yI [] (aj (vr 0) (aj (vr 8) au))) (ct .non)))))))))))))
noncomputable def zkq:FD:=bB (bw 9 Fp)
noncomputable def zod:MS :=
  (aC (aG 1 (az zf4 [] (aj (vr 0) au)))
  (aC (aG 2 (az zhu [] (aj (vr 0) au)))
  (aC (aG 3 (az zhx [] (aj (vr 0) (aj (vr 2) (aj (vr 1) au)))))
  (aC (aG 4 (cV (aj (bD jR (aj (vr 3) au)) (aj (bD jR (aj (vr 1) au)) au))))
  (aC (aG 5 (iT "Book" zcj (aj (aD aZ (vr 4) (ct (.int 0))) (aj (vr 2) (aj (aD aZ (vr 4) (ct (.int 1))) au)))))
  (aC (dH (fB "list" rW (aD aZ (vr 4) (ct (.int 0)))))
  (aC (dH (fB "list" rW (aD aZ (vr 4) (ct (.int 1)))))
  (aC (aG 6 (iT "Book" zcj (aj (aD bj (GP (vr 3) (Mi (ct (.int 1))) R3) (aD v5 (cV (aj (fM (aj (aD aZ (vr 1) (ct (.int 0))) (aj (ct (.str [95])) (aj (ct (.str [95])) (aj (ct (.str [114])) (aj (aD aZ (vr 1) (uG yR (ct (.int 1)))) au)))))) au)) (bD Eb (aj (aD (fL 800) (vr 3) (cV au)) au)))) (aj (vr 2) (aj (vr 1) au)))))
  (aC (fu (eY (aD Il (fM (aj (cB "Book" "rules" (vr 5)) (aj (cB "Book" "signs" (vr 5)) (aj (cB "Book" "states" (vr 5)) au)))) (fM (aj (vr 3) (aj (vr 2) (aj (vr 1) au)))))) (retS (ct (.bl false))) bh)
  (aC (dU (ig (cV (aj (ct (.str [83])) (aj (ct (.str [75])) (aj (az jz [] (aj (ct (.str [75])) (aj (ct (.str [75])) au))) (aj (az Gn [] (aj (cV au) au)) au)))))) (aM 7) (fu (xJ (eY (aD lA (az xq [] (aj (vr 5) (aj (vr 7) au))) (ct .non))) (eY (aD lA (az yI [] (aj (vr 5) (aj (vr 7) au))) (ct .non)))) (retS (ct (.bl false))) bh))
  (aC (aG 8 (eF [some 5,none] (ig (vr 1)) (aM 1) j5 (az RM [] (aj (vr 0) (aj (vr 1) au)))))
  (aC (dU (fc (aj (bD dR (aj (vr 8) au)) au)) (aM 9) (fu (xJ (lz (jU (az T4 [] (aj (aD aZ (vr 8) (vr 9)) au)))) (xJ (jU (aD aZ (az jz [] (aj (aD aZ (vr 8) (vr 9)) (aj (ct (.str [75])) au))) (ct (.int 3)))) (eY (aD (pQ 800 false) (aD aZ (vr 8) (vr 9)) (GP (vr 8) R3 (Mi (vr 9))))))) (retS (ct (.bl false))) bh))
  (aC (dU (ig (aD bj (GP (vr 0) (Mi (ct (.int 3))) (Mi (ct (.int 6)))) (cV (aj (az Mx [] (aj (vr 0) (aj (ct (.int 3)) au))) au)))) (aM 10) (aC (aG 11 (az MJ [] (aj (vr 10) (aj (ct (.int 80)) au))))
  (aC (aG 12 (aD aZ (aD bj (ct (.str [95])) (vr 2)) (aD eN (aD dG (vr 11) (ct (.int 13))) (aD bj (bD dR (aj (vr 2) au)) (ct (.int 1))))))
  (aC (aG 13 (az Z6 [] (aj (vr 11) (aj (vr 2) (aj (aD eN (aD dG (vr 11) (ct (.int 7))) (ct (.int 13))) au)))))
  (aC (aG 14 (fM (aj (aD aZ (vr 1) (aD eN (aD dG (vr 11) (ct (.int 91))) (bD dR (aj (vr 1) au)))) (aj (vr 13) (aj (vr 12) (aj (az Z6 [] (aj (aD dG (vr 11) (ct (.int 5))) (aj (vr 2) (aj (aD eN (aD dG (vr 11) (ct (.int 11))) (ct (.int 13))) au)))) au))))))
  (fu (xJ (lz (jU (az zkb [] (aj (vr 5) (aj (vr 14) (aj (vr 2) (aj (vr 1) au))))))) (lz (jU (az zkq [] (aj (vr 5) (aj (vr 6) (aj (vr 14) (aj (vr 1) (aj (aD dG (vr 11) (ct (.int 3))) au))))))))) (retS (ct (.bl false))) bh))))))
  (retS (aD (fL 800) (az RM [] (aj (vr 5) (aj (aD aZ (vr 1) (ct (.int 0))) au))) (aD aZ (vr 8) (ct (.int 0))))))))))))))))))
noncomputable def zk7:FD:=bB (bw 15 zod)
noncomputable def acs:List M.Row:=[("joint",top 2,2),("is_done",top 3,2),("leaves",top 4,1),("is_value",top 5,1),("folded",top 6,3),("taken_out",top 9,2),("made_of",top 10,2),("made_costs",top 11,2),("handed",top 12,2),("made_and_costs",top 13,2),("leaf_taken",top 15,2),("joint_taken",top 16,4),("or_constant",top 17,2),("pick",top 20,2),("unasked",top 21,2),("list_of",top 22,1),("list_with",top 23,2),("pack",top 24,3),("end_of",top 25,4),("holder",top 26,1),("kept",top 27,1),("holder_cost",top 28,1),("held",top 29,2),("has_held_form",top 30,1),("has_in_front",top 31,2)]
noncomputable def acr:List M.Row:=[("things_of",top 32,1),("picked",top 33,2),("rule_table",top 35,1),("row_term",top 42,1),("deed_name",top 43,1),("row_plan",top 44,1),("row_of",top 45,3),("row_cost",top 46,1),("end_term",top 47,0),("end_deed",top 48,1),("side_term",top 49,1),("image_term",top 50,1),("entry_term",top 54,0),("entry_of",top 55,1),("tree_of_row",top 56,2),("table_of",top 57,1),("half_of",top 58,1),("turns_to",top 59,2),("way_to",top 60,2),("sign_trees_of",top 63,1),("rows_of",top 64,1),("deeds_of",top 65,4),("state_tree",top 66,2),("tape_image",top 67,2),("tape_end",top 68,2)]
noncomputable def acq:List M.Row:=[("parts_of",top 69,2),("image_told",top 70,2),("end_told",top 71,2),("stand_told",top 72,3),("signs_told",top 73,2),("_law_cell",top 75,2),("_law_mixed",top 76,2),("_law_many",top 77,1),("_law_done",top 78,1),("_law_joint",top 79,2),("_law_folded",top 80,1),("_law_pick",top 81,2),("_law_list",top 82,2),("_law_three",top 83,2),("_law_rules",top 84,3),("_law_side",top 85,3),("_law_turned",top 87,2),("_law_states",top 88,1),("_law_signs",top 89,1),("_law_right",top 90,4),("_law_sure",top 91,2),("_law_sure_end",top 92,2),("_law_other",top 93,5)]
noncomputable def tbl:List M.Row:=acs++acr++acq
noncomputable def zs:List Str:=["dict","enumerate","int","isinstance","len","list","range","reversed","str","sum"]
noncomputable def Io:List Str:=["bare_cost","full_cost","plan","written"]
noncomputable def Ip:List Str:=["by_key","letters","moves","rules","sign_trees","signs","start_cost","state_trees","states"]
def zom{us:List Value}{n:Nat}(h:us.length=n+1):∃a v,us=a::v/\v.length=n:=by
 cases us with
 | nil=>cases h
 | cons a v=>exact⟨a,v,rfl,by simpa using h⟩
def us1{us:List Value}(h:us.length=1):∃a,us=[a]:=mO.mp h
def us2{us:List Value}(h:us.length=2):∃a0 a1,us=[a0,a1]:=by
 obtain⟨a0,v,e,h⟩:=zom h;obtain⟨a1,e2⟩:=us1 h;exact⟨a0,a1,by rw[e,e2]⟩
def us3{us:List Value}(h:us.length=3):∃a0 a1 a2,us=[a0,a1,a2]:=by
 obtain⟨a0,v,e,h⟩:=zom h;obtain⟨a1,a2,e2⟩:=us2 h;exact⟨a0,a1,a2,by rw[e,e2]⟩
def us4{us:List Value}(h:us.length=4):∃a0 a1 a2 a3,us=[a0,a1,a2,a3]:=by
 obtain⟨a0,v,e,h⟩:=zom h;obtain⟨a1,a2,a3,e2⟩:=us3 h;exact⟨a0,a1,a2,a3,by rw[e,e2]⟩
def us5{us:List Value}(h:us.length=5):∃a0 a1 a2 a3 a4,us=[a0,a1,a2,a3,a4]:=by
 obtain⟨a0,v,e,h⟩:=zom h;obtain⟨a1,a2,a3,a4,e2⟩:=us4 h;exact⟨a0,a1,a2,a3,a4,by rw[e,e2]⟩
set_option genInjectivity false in
structure Adr where
 pX:Addr
 pU:FuncData
 fG:Addr
 fC:FuncData
 jj:Addr
 je:FuncData
 jk:Addr
 jf:FuncData
 jl:Addr
 jg:FuncData
 wY:Addr
 wR:FuncData
 rY:Addr
 uV:Addr
structure Txt(P:Program)(w:World)(K:PySem.W.Frag)(mg:Str->Option Value)(base:Heap)(A:Adr):Prop where
 hB:BMain mg base
 tb:∀p∈tbl,Fn K mg p
 z:∀x∈zs,mg x=none
 aa6:∀f∈Io,iJ K A.rY f
 Ir:∀f∈Ip,iJ K A.uV f
 uR:zG K "put_in" Cd A.pX A.pU
 yU:mg "put_in" = some (.ref A.pX)
 zez:Binds K A.pU ["term","puts"] []
 ju:zG K "out_and_cost" Ca A.fG A.fC
 rQ:mg "out_and_cost" = some (.ref A.fG)
 zb9:Binds K A.fC ["name","term"] []
 vN:BV K "__init__" "Move.__init__" ze3 A.jj A.je
 oK:Mk K A.rY A.jj
 Ys:Binds K A.je ["self","move","sign_trees"] []
 vO:BV K "deed" "Move.deed" Yt A.jk A.jf
 vG:Meth K A.rY "deed" A.jk
 zdd:Binds K A.jf ["self","sign","way"] []
 vP:BV K "__init__" "Book.__init__" zcl A.jl A.jg
 oM:Mk K A.uV A.jl
 zco:Binds K A.jg ["self","rules","signs","states"] []
 QC:BV K "law" "law" TQ A.wY A.wR
 acf:mg "law" = some (.ref A.wY)
 zod:Binds K A.wR ["_law_script"] []
 qU:PySem.W.nsIn K mainGlobals "Move" = some (some (.ref A.rY))
 Bu:mg "Move" = some (.ref A.rY)
 Bx:BW K A.rY
 lQ:PySem.W.nsIn K mainGlobals "Book" = some (some (.ref A.uV))
 Bv:mg "Book" = some (.ref A.uV)
 wV:BW K A.uV
 wk:∃t,mg "BLANK" = some (.str "_" t)
 j7:∃t,mg "NO_THINGS" = some (.str "K" t)
 jD:∃a,mg "BARE_NAMES" = some (.ref a)/\∀μ H,ao K μ H (.tup [.str [121],.str [120]]) (.ref a)
 jC:∃a,mg "DEED_NAMES" = some (.ref a)/\∀μ H,ao K μ H (.tup [.str [110],.str [102],.str [108],.str [114]]) (.ref a)
 iY:∃a,mg "ENTRY_NAMES" = some (.ref a)/\∀μ H,ao K μ H (.tup [.str [102],.str [118]]) (.ref a)
 jB:∃a,mg "FULL_NAMES" = some (.ref a)/\∀μ H,ao K μ H (.tup [.str [97],.str [116],.str [121],.str [120]]) (.ref a)
 oW:∃a,mg "IDENTITY" = some (.ref a)/\∀μ H,ao K μ H (.tup [.tup [.str [83],.str [75],.int 2,.bl true],.str [75],.int 3,.bl true]) (.ref a)
 j6:∃a,mg "ROW_NAMES" = some (.ref a)/\∀μ H,ao K μ H (.tup [.str [108],.str [115],.str [114],.str [102]]) (.ref a)
def zjt:dX ["term","puts"] ["term","puts"] (aF Cd):=Xb
def zeb:dX ["name","term","taken"] ["name","term"] (aF Ca):=Xb
def zgk:dX ["self","move","sign_trees","term","bare","full","sign","puts","start"] ["self","move","sign_trees"] (aF ze3):=Xb
def zgh:dX ["self","sign","way","puts"] ["self","sign","way"] (aF Yt):=Xb
def zgf:dX ["self","rules","signs","states","rows","table"] ["self","rules","signs","states"] (aF zcl):=Xb
def zss:dX ["_law_script","_law_states_here","_law_signs_here","_law_rules_here","_law_given","_law_book","_law_twin","_law_tree","_law_trees","_law_k","_law_cell_here","_law_number","_law_sign","_law_left","_law_stand"] ["_law_script"] (aF TQ):=Xb
section
variable  {P:Program}{w:World}{K:PySem.W.Frag}{mg:Str->Option Value}{base:Heap}{Ad:Adr}(T:Txt P w K mg base Ad)
abbrev Ck(_:Txt P w K mg base Ad)(F:FD)(n:Str)(k a:Nat):Prop:=Cl F n k a P w K mg base
include T
set_option hygiene false in
local macro_rules | `(tactic| trivial)=>`(tactic| repeat' first | eq_refl | (with_reducible (first | refine' FJ _ ?_ ?_ ?_ ?_ | refine' za ?_ ?_ ?_ | exact PB | exact Wi)) | exact Or.inl rfl | exact Or.inr rfl | exact Or.inr (Or.inl rfl) | exact Or.inr (Or.inr rfl) | exact nd | ((with_reducible refine' qH ?G ?H ?_ ?_ ?_ ?_ ?_ ?_ ?_ ?_ ?_);(case G=>with_reducible assumption);(case H=>exact hr)) | (with_reducible (first | refine' XR ?_ ?_ ?_ | exact ZC | refine' Fx ?_ | refine' jy ?_ ?_ | refine' XQ ?_ | refine' TF _ ?_ ?_ ?_ ?_ ?_ ?_ | exact Jl | refine' Jm ?_ ?_ ?_ | refine' abg ?_ ?_ ?_ | refine' Wa _ ?_ | refine' V_ ?_ | refine' Wf ?_ | refine' Jj ?_ ?_ | refine' zr6 ?_ ?_ | refine' zf ?_ ?_ ?_ ?_ ?_ ?_ ?_ | refine' Wg ?_ ?_ ?_ ?_ | refine' zb ?_ ?_ ?_ ?_ ?_ ?_ | refine' Qa _ ?_ ?_ ?_ ?_ | refine' Ji ?_ ?_ | refine' PJ ?_ | refine' R9 ?_ ?_ | refine' V2 ?_ | refine' V3 ?_ | refine' Jo ?_ ?_ ?_ ?_ ?_ | refine' DQ ?_ ?_ ?_ | exact abj | exact Wd | refine' V8 _ ?_ ?_ ?_ ?_ | refine' Js ?_ ?_ ?_ | exact P_ | refine' V6 ?_ | refine' V5 ?_ | refine' abd ?_ | refine' DR ?_ ?_ ?_ ?_ | refine' P0 ?_ ?_ ?_ ?_ | refine' Jr ?_ ?_ ?_ ?_ | refine' V7 ?_ ?_ ?_ ?_ | refine' PX ?_ ?_ ?_ ?_ | refine' PQ ?_ ?_ ?_ ?_ | refine' Wb ?_ | refine' Wn ?_ ?_ | refine' abf ?_ ?_ | refine' abh ?_ ?_ ?_ | refine' Jt ?_ ?_ ?_ | exact PN | refine' PK ?_ | refine' Ay ?_ ?_ ?_ ?_ ?_ | refine' zmv ?_ ?_ ?_ | exact Av | exact Qd | exact Jx | exact Lq | refine' Wc ?_ | refine' Qc ?_ ?_)) | ((with_reducible refine' R_ ?_ ?_ ?_);(with_reducible first | exact Ag | exact O6 | exact O5 | exact O2 | exact H_ | exact HS)) | ((with_reducible refine' V4 ?_ ?_ ?_ ?_);(with_reducible first | refine' Ia ?_ | refine' HR ?_ | exact HW | exact HX | exact zmj | exact zjw | refine' Af ?_ | exact zl4 | refine' Ae ?_)) | ((with_reducible refine' Wm ?_ ?_ ?_ ?_);(with_reducible first | refine' Ia ?_ | refine' HR ?_ | exact HW | exact HX | exact zmj | exact zjw | refine' Af ?_ | exact zl4 | refine' Ae ?_)) | ((with_reducible refine' Wk ?G ?H ?_ ?_ ?_ ?_ ?_);(case G=>with_reducible assumption);(case H=>exact hr)) | ((with_reducible refine' Jy ?G ?_ ?_ ?_ ?_ ?_ ?_ ?_ ?_);(case G=>first | (with_reducible exact Ez) | exact Eu hr.hd)) | ((with_reducible refine' DW ?G ?_ ?_ ?_ ?_ ?_ ?_ ?_ ?_);(case G=>with_reducible first | exact zta | exact EY | exact zq1)) | ((with_reducible refine' abe ?_ ?_);(with_reducible first | exact M9)) | ((with_reducible refine' V9 ?_ ?_ ?_ ?_);(with_reducible first | refine' aav ?_)) | ((with_reducible refine' Wj ?G ?_ ?_ ?_ ?_);(case G=>first | exact T.lQ | exact T.qU)) | ((with_reducible refine' zc ?G ?_ ?_ ?_ ?_ ?_);(case G=>first | exact T.lQ | exact T.qU)) | ((with_reducible refine' Wh ?_ ?_ ?_ ?_ ?_ ?_ ?_ ?_ ?_ ?_ ?_ ?_ ?_);(with_reducible first | exact Pu)) | (with_reducible refine JW.jt (Ji ?_ ?_)) | (with_reducible refine JW.jt (R9 ?_ ?_)) | (with_reducible refine' Ry afe ae2 PySem.F.type_dict_get (zq3 ?_) ?_ ?_ ?_ ?_ ?_ ?_ ?_) | (with_reducible refine' Ry afe ae2 PySem.F.type_dict_get (Pj ?_) ?_ ?_ ?_ ?_ ?_ ?_ ?_) | (with_reducible refine' Ry afe PySem.F.slot_dict_setdefault PySem.F.type_dict_setdefault (zqj ?_) ?_ ?_ ?_ ?_ ?_ ?_ ?_) | (with_reducible refine' Ry ae7 PySem.F.slot_list_index PySem.F.type_list_index zqk ?_ ?_ ?_ ?_ ?_ ?_ ?_) | (with_reducible refine' Ry afz PySem.F.slot_str_find PySem.F.type_str_find Dn ?_ ?_ ?_ ?_ ?_ ?_ ?_) | (with_reducible refine' Ry afz PySem.F.slot_str_join PySem.F.type_str_join Iu ?_ ?_ ?_ ?_ ?_ ?_ ?_) | (with_reducible refine' zkj ae7 PySem.F.slot_list_clear PySem.F.type_list_clear Dq ?_ ?_ ?_) | (with_reducible refine' zkj ae7 PySem.F.slot_list_pop PySem.F.type_list_pop Ph ?_ ?_ ?_) | (with_reducible refine' zkj ae7 PySem.F.slot_list_reverse PySem.F.type_list_reverse zps ?_ ?_ ?_) | (with_reducible refine' zkj afz PySem.F.slot_str_isalpha PySem.F.type_str_isalpha zqh ?_ ?_ ?_) | ((with_reducible refine' Jw _ ?G ?_ ?_ ?_);(case G=>first | exact T.wk | exact T.j7)) | ((with_reducible refine' Jv ?G ?_ ?_);(case G=>first | exact T.jD | exact T.jC | exact T.iY | exact T.jB | exact T.oW | exact T.j6)) | decide +kernel | exact hr | exact λ_ _=>rfl | (intro _;rfl) | exact PassesOwn.never | exact adu _ | (show List.Nodup [_];decide +kernel) | (show List.Nodup [_,_];decide +kernel) | exact Ss hr | exact huL 800 hr (by omega) | exact T.z _ (by decide +kernel) | exact hr.hd | exact⟨rfl,rfl,rfl,rfl,rfl⟩ | exact List.cons_ne_nil _ _ | exact T.wV | exact T.Bx | exact T.Ir _ (by decide +kernel) | exact T.aa6 _ (by decide +kernel) | omega | refine Fx ?_ | refine jy ?_ ?_ | refine XQ ?_ | intro _ _ _ _ _ _ hr nd)
def zdw:Ck T Ul "is_value" 41 1:=dB (N:=[_]) 3 T.tb (hb:=by trivial)
def zqb:Ck T ze8 "is_done" 42 2:=dB (N:=[_,_]) 1 T.tb (hb:=by have:=zdw T;trivial)
def zq8:Ck T zek "leaves" 41 1:=dB (N:=[_]) 2 T.tb (hb:=by trivial)
def Ly:Ck T uY "joint" 43 2:=dB (N:=[_,_]) 0 T.tb (hb:=by have:=zq8 T;have:=zqb T;trivial)
def zkt:Ck T zct "leaf_taken" 41 2:=dB (N:=[_,_]) 10 T.tb (hb:=by trivial)
def zff:Ck T Yq "or_constant" 44 2:=dB (N:=[_,_]) 12 T.tb (hb:=by have:=Ly T;trivial)
def zjc:Ck T zci "joint_taken" 45 4:=dB (N:=[_,_,_,_,_,_]) 11 T.tb (hb:=by have:=zdw T;have:=zff T;have:=Ly T;trivial)
def Jh:yl P w K mg base 45 (j4 0) ["leaf"] e_0 :=
 let _:=T;⟨⟨rfl,rfl,rfl,by decide +kernel,by decide +kernel,by decide +kernel,by decide +kernel,by decide +kernel⟩,λ_ _ _ _ us hl=>by obtain⟨_,rfl⟩:=us1 hl;exact rfl,λf cd cl A outer s H hr=>(Ry afe ae2 PySem.F.type_dict_get (zq3 (Ss hr)) (FJ 0) (XR (FJ 1) (XR (FJ 1) ZC)))⟩
def Jg:yl P w K mg base 45 (j4 1) ["part","left","right"] e_1 :=
 ⟨⟨rfl,rfl,rfl,by decide +kernel,by decide +kernel,by decide +kernel,by decide +kernel,by decide +kernel⟩,λ_ _ _ _ us hl=>by obtain⟨_,_,_,rfl⟩:=us3 hl;exact rfl,λf cd cl A outer s H hr=>(qH (Ly T) hr (za (FJ 1) (za (FJ 2) PB)))⟩
def Jf:yl P w K mg base 45 (j4 2) ["leaf"] e_2 :=
 ⟨⟨rfl,rfl,rfl,by decide +kernel,by decide +kernel,by decide +kernel,by decide +kernel,by decide +kernel⟩,λ_ _ _ _ us hl=>by obtain⟨_,rfl⟩:=us1 hl;exact rfl,λf cd cl A outer s H hr=>(qH (zkt T) hr (za (FJ 0) (za (FJ 1) PB)))⟩
def Je:yl P w K mg base 45 (j4 3) ["part","left","right"] e_3 :=
 ⟨⟨rfl,rfl,rfl,by decide +kernel,by decide +kernel,by decide +kernel,by decide +kernel,by decide +kernel⟩,λ_ _ _ _ us hl=>by obtain⟨_,_,_,rfl⟩:=us3 hl;exact rfl,λf cd cl A outer s H hr=>(qH (zjc T) hr (za (FJ 0) (za (FJ 1) (za (FJ 2) (za (FJ 3) PB)))))⟩
theorem Ao:Li P w K mg base 45 j4 GL
 | 0=>.inr ⟨["leaf"],_,Jh T,rfl⟩
 | 1=>.inr ⟨["part","left","right"],_,Jg T,rfl⟩
 | 2=>.inr ⟨["leaf"],_,Jf T,rfl⟩
 | 3=>.inr ⟨["part","left","right"],_,Je T,rfl⟩
 | _+4=>.inl λ_ _=>rfl
def zmb:Ck T Lz "folded" 47 3:=dB (N:=[_,_,_,_,_,_,_,_,_]) 4 T.tb (hb:=by intro _ _ _ _ _ _ hr nd;exact (jy (by trivial) (jy (by trivial) (jy (by trivial) (jy (by trivial) (jy (zb (by trivial) (by trivial) (Fx (Jm (by trivial) (Fx (zr6 (zf (by trivial) (XR (zsl (Ao T) (hr.mono (by decide)) 1 (by trivial)) ZC)))) (jy (by trivial) (jy (by trivial) (Fx (zr6 (zf (by trivial) (XR (zsl (Ao T) (hr.mono (by decide)) 2 (by trivial)) ZC)))))))) PassesOwn.never rfl) (by trivial)))))))
def zpp:cQ P w K mg base rn 48 Ad.pX Ad.pU ["term","puts"] (vV K 2 FW):=by
 have nd:=zjt.nd;refine cQ.imp (Ke (m:=zez) T.uR zjt λiw A outer s H hr hT=>?_) λvs H Q E h=>uC h;exact (by exact (Fx (XQ (Sg (zmb T) hr (Ax (by trivial) (wK (Λ:=j4) (x:="put_in") (j:=0) (k:=2) (cap:=[1]) T.hB hT (zj1 (sc0:=aF Cd) rfl (by decide +kernel) (by decide +kernel) rfl) rfl rfl rfl rfl rfl (wK (Λ:=j4) (x:="put_in") (j:=1) (k:=2) (cap:=[]) T.hB hT (zj1 (sc0:=aF Cd) rfl (by decide +kernel) (by decide +kernel) rfl) rfl rfl rfl rfl rfl Jq))) (λ_=>rfl) (zog (zj6 (zj6 ztb)))))))
def zeq:Ck T FW "put_in" 48 2:=⟨_,_,_,rfl,T.yU,T.uR.kp,T.zez,zpp T⟩
def zhq:cQ P w K mg base rn 48 Ad.fG Ad.fC ["name","term"] (vV K 2 Yu):=by
 have nd:=zeb.nd;refine cQ.imp (Ke (m:=zb9) T.ju zeb λiw A outer s H hr hT=>?_) λvs H Q E h=>uC h;exact (by have:=zff T;exact (jy (TF 2 (Sg (zmb T) hr (Ax (by trivial) (wK (Λ:=j4) (x:="out_and_cost") (j:=2) (k:=1) (cap:=[0]) T.hB hT (zj1 (sc0:=aF Ca) rfl (by decide +kernel) (by decide +kernel) rfl) rfl rfl rfl rfl rfl (wK (Λ:=j4) (x:="out_and_cost") (j:=3) (k:=1) (cap:=[0]) T.hB hT (zj1 (sc0:=aF Ca) rfl (by decide +kernel) (by decide +kernel) rfl) rfl rfl rfl rfl rfl Jq))) (λ_=>rfl) (zog (zj6 (zj6 ztb)))) nd) (by trivial)))
def zel:Ck T Yu "out_and_cost" 48 2:=⟨_,_,_,rfl,T.rQ,T.ju.kp,T.zb9,zhq T⟩
def zhk:Ck T zdf "taken_out" 49 2:=dB (N:=[_,_]) 5 T.tb (hb:=by have:=zel T;trivial)
def zdl:Ck T za7 "made_and_costs" 49 2:=dB (N:=[_,_,_,_,_,_]) 9 T.tb (hb:=by have:=zel T;trivial)
def zfb:Ck T M3 "made_of" 50 2:=dB (N:=[_,_]) 6 T.tb (hb:=by have:=zdl T;trivial)
def zgb:Ck T RL "made_costs" 50 2:=dB (N:=[_,_]) 7 T.tb (hb:=by have:=zdl T;trivial)
def zgo:Ck T LK "handed" 44 2:=dB (N:=[_,_,_,_]) 8 T.tb (hb:=by have:=Ly T;trivial)
def zjf:Ck T RK "unasked" 44 2:=dB (N:=[_,_,_,_]) 14 T.tb (hb:=by have:=Ly T;trivial)
def Z5:Ck T Lx "pick" 50 2:=dB (N:=[_,_]) 13 T.tb (hb:=by have:=zjf T;have:=zhk T;trivial)
def K5:Ck T zj8 "kept" 50 1:=dB (N:=[_]) 20 T.tb (hb:=by have:=zdw T;have:=Ly T;have:=zhk T;trivial)
def Ud:Ck T LC "holder" 51 1:=dB (N:=[_,_,_]) 19 T.tb (hb:=by have:=Ly T;have:=K5 T;trivial)
def zha:Ck T Ui "list_with" 52 2:=dB (N:=[_,_]) 16 T.tb (hb:=by have:=zjf T;have:=Ud T;trivial)
def zg4:Ck T Yo "list_of" 53 1:=dB (N:=[_,_,_]) 15 T.tb (hb:=by have:=zha T;trivial)
def zs5:Ck T Yg "pack" 52 3:=dB (N:=[_,_,_]) 17 T.tb (hb:=by have:=Ud T;trivial)
def zmr:Ck T zej "end_of" 52 4:=dB (N:=[_,_,_,_]) 18 T.tb (hb:=by have:=Ud T;trivial)
def zfj:Ck T Yp "holder_cost" 41 1:=dB (N:=[_]) 21 T.tb (hb:=by trivial)
def zda:Ck T M6 "has_in_front" 41 2:=dB (N:=[_,_]) 24 T.tb (hb:=by trivial)
def zht:Ck T zbv "has_held_form" 42 1:=dB (N:=[_]) 23 T.tb (hb:=by have:=zda T;trivial)
def zm0:Ck T FT "held" 43 2:=dB (N:=[_,_,_,_]) 22 T.tb (hb:=by have:=zht T;have:=zdw T;trivial)
def zmn:Ck T Uh "things_of" 44 1:=dB (N:=[_,_,_,_]) 25 T.tb (hb:=by have:=zda T;have:=zm0 T;trivial)
def zis:Ck T M4 "picked" 51 2:=dB (N:=[_,_,_,_]) 26 T.tb (hb:=by have:=zda T;have:=Z5 T;trivial)
def zks:Ck T zcr "rule_table" 41 1:=dB (N:=[_,_,_]) 27 T.tb (hb:=by trivial)
def zhf:Ck T Yr "deed_name" 41 1:=dB (N:=[_]) 29 T.tb (hb:=by trivial)
def zir:Ck T zc3 "row_term" 45 1:=dB (N:=[_]) 28 T.tb (hb:=by intro _ _ _ _ _ _ hr nd;have:=zgo T;have:=zhf T;exact (Fx (XQ (qH (zgo T) hr (za (by trivial) (za (R_ Ag (TV (N:=["sign"]) (capt:=[none]) (sc0:=aF (top 42)) (by trivial) ⟨rfl,by decide +kernel,by decide +kernel⟩ (by decide +kernel) trivial rfl (λcl C fp s H=>(by trivial)) (λcl C fp s H=>Lq) (λcl C fp s H=>(by trivial))) (by trivial)) PB))))))
def zm7:Ck T zd7 "row_plan" 51 1:=dB (N:=[_]) 30 T.tb (hb:=by have:=zfb T;have:=zir T;trivial)
def zsn:Ck T zgw "row_of" 49 3:=dB (N:=[_,_,_,_,_]) 31 T.tb (hb:=by have:=zhf T;have:=zeq T;trivial)
def zmu:Ck T zdx "row_cost" 51 1:=dB (N:=[_]) 32 T.tb (hb:=by have:=zfj T;have:=zgb T;have:=zir T;trivial)
def zno:Ck T zd2 "end_term" 53 0:=dB (N:=[]) 33 T.tb (hb:=by have:=zmr T;trivial)
def znh:Ck T zc6 "end_deed" 54 1:=dB (N:=[_]) 34 T.tb (hb:=by have:=zeq T;have:=zfb T;have:=zno T;trivial)
def zlk:Ck T zcn "side_term" 45 1:=dB (N:=[_,_]) 35 T.tb (hb:=by have:=zgo T;have:=Ly T;trivial)
def zko:Ck T zcz "image_term" 53 1:=dB (N:=[_,_]) 36 T.tb (hb:=by have:=zha T;have:=Ly T;have:=zs5 T;trivial)
def zf6:cQ P w K mg base rn 54 Ad.jj Ad.je ["self","move","sign_trees"] (vV K 3 Uj):=by
 have nd:=zgk.nd;refine cQ.imp (xX (m:=Ys) T.vN zgk λiw A outer s H hr=>?_) λvs H Q E h=>uC h;exact (by have:=zko T;have:=zeq T;have:=zfb T;have:=zlk T;have:=zgb T;have:=zfj T;trivial)
def zke:cQ P w K mg base rn 49 Ad.jk Ad.jf ["self","sign","way"] (vV K 3 zer):=by
 have nd:=zgh.nd;refine cQ.imp (xX (m:=zdd) T.vO zgh λiw A outer s H hr=>?_) λvs H Q E h=>uC h;exact (by have:=zeq T;trivial)
def zki:Ck T zc0 "entry_term" 45 0:=dB (N:=[]) 37 T.tb (hb:=by have:=zgo T;trivial)
def znz:Ck T zdq "entry_of" 51 1:=dB (N:=[_]) 38 T.tb (hb:=by have:=zeq T;have:=zfb T;have:=zki T;trivial)
def zja:Ck T zcg "tree_of_row" 52 2:=dB (N:=[_,_]) 39 T.tb (hb:=by have:=Ud T;trivial)
def zjs:Ck T ze6 "half_of" 41 1:=dB (N:=[_]) 41 T.tb (hb:=by trivial)
theorem zfv:∀n:Nat,Ck T (Ue n) "table_of" (52+n) 1
 | 0=>Cl.never (nth 40 T.tb)
 | n+1=>by
  have IH:=zfv n;exact dB (N:=[_,_]) (k:=52+n) 40 T.tb (hb:=λ_ _ _ _ _ _ hr nd=>by have:=zjs T;have:=Ud T;trivial)
def zm8:Ck T zc7 "turns_to" 42 2:=dB (N:=[_,_,_,_,_,_,_]) 42 T.tb (hb:=by have:=zjs T;trivial)
def zrp:Ck T zf0 "way_to" 52 2:=dB (N:=[_,_]) 43 T.tb (hb:=by intro _ _ _ _ _ _ hr nd;have:=Ud T;have:=zm8 T;have:=Z5 T;exact (Fx (XQ (qH (Ud T) hr (za (TV (N:=["turn"]) (capt:=[none]) (sc0:=aF (top 60)) (by trivial) ⟨rfl,by decide +kernel,by decide +kernel⟩ (by decide +kernel) trivial rfl (λcl C fp s H=>(by trivial)) (λcl C fp s H=>Lq) (λcl C fp s H=>(by trivial))) PB)))))
def zm4:Ck T zd8 "deeds_of" 50 4:=dB (N:=[_,_,_,_,_,_,_]) 46 T.tb (hb:=by intro _ _ _ _ _ _ hr nd;exact (jy (by trivial) (jy (zb (by trivial) (by trivial) (jy (by trivial) (Fx (Jm (by trivial) (Fx (Jo (Ju T.qU T.Bx T.vG ((zke T).mono (by decide)) hr T.zdd (by trivial) (by trivial) rfl rfl rfl rfl (B_ (B_ Yc))) (by trivial))) Jl))) PassesOwn.never rfl) (by trivial))))
def zp1:Ck T zfa "rows_of" 55 1:=dB (N:=[_,_,_,_,_,_,_,_,_]) 45 T.tb (hb:=by have:=zm7 T;have:=znh T;have:=zrp T;have:=zsn T;have:=Z5 T;have:=zm4 T;trivial)
def zhs:Ck T zbu "sign_trees_of" 51 1:=dB (N:=[_,_,_,_]) 44 T.tb (hb:=by have:=Z5 T;trivial)
def zf8:cQ P w K mg base rn 63 Ad.jl Ad.jg ["self","rules","signs","states"] (vV K 4 zcj):=by
 have nd:=zgf.nd;refine cQ.imp (xX (m:=zco) T.vP zgf λiw A outer s H hr=>?_) λvs H Q E h=>uC h;exact (by have:=zks T;have:=zhs T;have:=zmu T;have:=zp1 T;have:=zfv T 10;have:=znz T;have:=zja T;exact (jy (by trivial) (jy (by trivial) (jy (by trivial) (jy (by trivial) (jy (by trivial) (jy (by trivial) (jy (zc T.lQ T.wV (T.Ir _ (by decide +kernel)) (by trivial) (Ay (zmv (by trivial) (zol T.qU T.oK ((zf6 T).mono (by decide)) hr T.Bu T.Ys (by trivial) rfl rfl (by decide) rfl rfl (B_ (B_ Yc))) (zmv (by trivial) (zol T.qU T.oK ((zf6 T).mono (by decide)) hr T.Bu T.Ys (by trivial) rfl rfl (by decide) rfl rfl (B_ (B_ Yc))) Av)))) (jy (by trivial) (jy (by trivial) (jy (TF 5 (qH (zfv T 10) hr (za (TV (N:=["row"]) (capt:=[none]) (sc0:=aF zcl) (by trivial) ⟨rfl,by decide +kernel,by decide +kernel⟩ (by decide +kernel) trivial rfl (λcl C fp s H=>(by trivial)) (λcl C fp s H=>Lq) (λcl C fp s H=>(by trivial))) PB)) nd) (Fx (zc T.lQ T.wV (T.Ir _ (by decide +kernel)) (by trivial) (TV (N:=["table","row"]) (capt:=[some 5,none]) (sc0:=aF zcl) (by trivial) ⟨rfl,by decide +kernel,by decide +kernel⟩ (by decide +kernel) ⟨⟨rfl,by first | exact Or.inl rfl | exact Or.inr rfl,rfl⟩,trivial⟩ rfl (λcl C fp s H=>(by trivial)) (λcl C fp s H=>Lq) (λcl C fp s H=>(by trivial))))))))))))))))
def zcu:Ck T RM "state_tree" 41 2:=dB (N:=[_,_]) 47 T.tb (hb:=by trivial)
def zim:Ck T zdu "parts_of" 54 2:=dB (N:=[_,_,_,_]) 50 T.tb (hb:=by intro _ _ _ _ _ _ hr nd;have:=zg4 T;exact (jy (TF 2 (qH (zg4 T) hr (za (TV (N:=["book","sign"]) (capt:=[some 0,none]) (sc0:=aF (top 69)) (by trivial) ⟨rfl,by decide +kernel,by decide +kernel⟩ (by decide +kernel) ⟨⟨rfl,by first | exact Or.inl rfl | exact Or.inr rfl,rfl⟩,trivial⟩ rfl (λcl C fp s H=>(by trivial)) (λcl C fp s H=>Lq) (λcl C fp s H=>(by trivial))) PB)) nd) (jy (TF 3 (qH (zg4 T) hr (za (TV (N:=["book","sign"]) (capt:=[some 0,none]) (sc0:=aF (top 69)) (by trivial) ⟨rfl,by decide +kernel,by decide +kernel⟩ (by decide +kernel) ⟨⟨rfl,by first | exact Or.inl rfl | exact Or.inr rfl,rfl⟩,trivial⟩ rfl (λcl C fp s H=>(by trivial)) (λcl C fp s H=>Lq) (λcl C fp s H=>(by trivial))) PB)) nd) (by trivial))))
def zd4:Ck T Uk "tape_image" 55 2:=dB (N:=[_,_,_]) 48 T.tb (hb:=by have:=zim T;have:=Ly T;have:=zcu T;have:=zs5 T;trivial)
def zfw:Ck T zc5 "tape_end" 55 2:=dB (N:=[_,_,_,_]) 49 T.tb (hb:=by have:=zim T;have:=Z5 T;have:=zmr T;trivial)
def zkk:Ck T zca "signs_told" 52 2:=dB (N:=[_,_,_,_]) 54 T.tb (hb:=by intro _ _ _ _ _ _ hr nd;have:=zmn T;have:=zis T;exact (jy (by trivial) (jy (by trivial) (jy (zlr 3 (N:=["book","thing"]) (capt:=[some 0,none]) (sc0:=aF (top 73)) (by trivial) ⟨rfl,by decide +kernel,by decide +kernel⟩ (by decide +kernel) ⟨⟨rfl,by first | exact Or.inl rfl | exact Or.inr rfl,rfl⟩,trivial⟩ rfl (λcl C fp s H=>(by trivial)) (λcl C fp s H=>Lq) (λcl C fp s H=>(by trivial)) nd) (jy (by trivial) (Fx (XQ (TV (N:=["book","place"]) (capt:=[some 0,none]) (sc0:=aF (top 73)) (by trivial) ⟨rfl,by decide +kernel,by decide +kernel⟩ (by decide +kernel) ⟨⟨rfl,by first | exact Or.inl rfl | exact Or.inr rfl,rfl⟩,trivial⟩ rfl (λcl C fp s H=>(by trivial)) (λcl C fp s H=>Lq) (λcl C fp s H=>(by trivial))))))))))
def zgi:Ck T LR "stand_told" 53 3:=dB (N:=[_,_,_,_,_,_]) 53 T.tb (hb:=by have:=zkk T;have:=zis T;trivial)
def zcw:Ck T xq "image_told" 54 2:=dB (N:=[_,_,_,_]) 51 T.tb (hb:=by have:=zgi T;have:=zm0 T;trivial)
def zdv:Ck T yI "end_told" 54 2:=dB (N:=[_,_,_]) 52 T.tb (hb:=by have:=zm0 T;have:=zgi T;have:=zis T;trivial)
def zkr:Ck T Mx "_law_cell" 41 2:=dB (N:=[_,_]) 55 T.tb (hb:=by trivial)
def Z_:Ck T MJ "_law_mixed" 41 2:=dB (N:=[_,_,_]) 56 T.tb (hb:=by trivial)
def znc:Ck T Lw "_law_many" 41 1:=dB (N:=[_]) 57 T.tb (hb:=by trivial)
def zsa:Ck T T4 "_law_done" 41 1:=dB (N:=[_]) 58 T.tb (hb:=by trivial)
def T_:Ck T jz "_law_joint" 42 2:=dB (N:=[_,_,_]) 59 T.tb (hb:=by have:=zsa T;have:=znc T;trivial)
def zik:Ck T Gn "_law_folded" 43 1:=dB (N:=[_,_,_]) 60 T.tb (hb:=by have:=T_ T;trivial)
def znp:Ck T RC "_law_pick" 43 2:=dB (N:=[_,_,_,_]) 61 T.tb (hb:=by have:=T_ T;trivial)
def K8:Ck T Z3 "_law_list" 44 2:=dB (N:=[_,_,_,_,_]) 62 T.tb (hb:=by have:=znp T;have:=T_ T;have:=zik T;trivial)
def Fb:Ck T zj7 "_law_three" 45 2:=dB (N:=[_,_,_]) 63 T.tb (hb:=by have:=znp T;have:=K8 T;trivial)
def Fe:Ck T zhx "_law_rules" 42 3:=dB (N:=[_,_,_,_,_,_,_,_,_,_]) 64 T.tb (hb:=by have:=Z_ T;have:=zkr T;trivial)
def K7:Ck T Z6 "_law_side" 42 3:=dB (N:=[_,_,_,_,_]) 65 T.tb (hb:=by have:=Z_ T;trivial)
theorem zmk:∀n:Nat,Ck T (M5 n) "_law_turned" (43+n) 2
 | 0=>Cl.never (nth 66 T.tb)
 | n+1=>by
  have IH:=zmk n;exact dB (N:=[_,_]) (k:=43+n) 66 T.tb (hb:=λ_ _ _ _ _ _ hr nd=>by have:=znc T;have:=T_ T;trivial)
def zs7:Ck T zf4 "_law_states" 42 1:=dB (N:=[_,_,_,_]) 67 T.tb (hb:=by have:=zkr T;have:=Z_ T;trivial)
def Fd:Ck T zhu "_law_signs" 42 1:=dB (N:=[_,_,_,_]) 68 T.tb (hb:=by have:=zkr T;have:=Z_ T;trivial)
def Ff:Ck T zkb "_law_right" 56 4:=dB (N:=[_,_,_,_,_,_,_,_]) 69 T.tb (hb:=by have:=Fb T;have:=zcu T;have:=zd4 T;have:=T_ T;have:=zik T;have:=znp T;have:=zfw T;have:=zcw T;have:=zdv T;trivial)
def K6:Ck T Z8 "_law_sure" 56 2:=dB (N:=[_,_,_]) 70 T.tb (hb:=by have:=zcw T;have:=zd4 T;trivial)
def znk:Ck T zfp "_law_sure_end" 56 2:=dB (N:=[_,_,_]) 71 T.tb (hb:=by have:=zdv T;have:=zfw T;trivial)
def Fg:Ck T zkq "_law_other" 204 5:=dB (N:=[_,_,_,_,_,_,_,_,_]) 72 T.tb (hb:=by have:=zd4 T;have:=zcw T;have:=T_ T;have:=zcu T;have:=K6 T;have:=zmk T 160;have:=znc T;have:=zfw T;have:=znk T;have:=zdv T;trivial)
def Ie:cQ P w K mg base rn 205 Ad.wY Ad.wR ["_law_script"] (vV K 1 zk7):=by
 have nd:=zss.nd;refine cQ.imp (xX (m:=zod) T.QC zss λiw A outer s H hr=>?_) λvs H Q E h=>uC h;exact (by have:=zs7 T;have:=Fd T;have:=Fe T;have:=T_ T;have:=zik T;have:=zcw T;have:=zdv T;have:=zcu T;have:=zsa T;have:=zkr T;have:=Z_ T;have:=K7 T;have:=Ff T;have:=Fg T;exact (jy (by trivial) (jy (by trivial) (jy (by trivial) (jy (by trivial) (jy (TF 5 (zol T.lQ T.oM ((zf8 T).mono (by decide)) hr T.Bv T.zco (by trivial) rfl rfl (by decide) rfl rfl (B_ (B_ (B_ Yc)))) nd) (jy (by trivial) (jy (by trivial) (jy (TF 6 (zol T.lQ T.oM ((zf8 T).mono (by decide)) hr T.Bv T.zco (by trivial) rfl rfl (by decide) rfl rfl (B_ (B_ (B_ Yc)))) nd) (jy (by trivial) (jy (by trivial) (jy (zlr 8 (N:=["_law_book","_law_state"]) (capt:=[some 5,none]) (sc0:=aF TQ) (by trivial) ⟨rfl,by decide +kernel,by decide +kernel⟩ (by decide +kernel) ⟨⟨rfl,by first | exact Or.inl rfl | exact Or.inr rfl,rfl⟩,trivial⟩ rfl (λcl C fp s H=>(by trivial)) (λcl C fp s H=>Lq) (λcl C fp s H=>(by trivial)) nd) (by trivial)))))))))))))
end
def all_mk{l:PySem.W.OpenLaw}{w:World}{K:PySem.W.Frag}{h:Heap}{mg:Str->Option Value}{fa f5 f11 f39 f40 f48 f78:Addr}(X:K.In h)(G:h.Ns mainGlobals mg)(hfa:mg "law" = some (.ref fa))
  {od5 an5:Option Addr} {sl5:Array (Option Value)} {oc5 kV5 dc5 pm5 ct5:Value}
  {adl abZ:Option Addr} {acL:Array (Option Value)} {adp abb abL aaP abN:Value}
  {adk aec:Option Addr} {acK:Array (Option Value)} {ado adz ad7 adh abU ad_:Value}
  {adi aeb:Option Addr} {acJ:Array (Option Value)} {adn ady ad6 adg abT ad9:Value}
  {jm:Addr} (Br:PySem.W.nsIn K mainGlobals "Move" = some (some (.ref jm))) (QQ:PySem.W.plainGet K jm Str.empty=true) (Q0:PySem.W.hasDictIn K jm=true) (QT:PySem.W.plainOver K jm=true) (QL:PySem.W.findIn K (.ref jm) "__setattr__" = some (some (.builtin "object.__setattr__"))) (QX:PySem.W.makesIn K jm=true) (Q6:PySem.W.keepIn K (.ref jm)=true)
  {jO:Addr} (Bt:PySem.W.nsIn K mainGlobals "Book" = some (some (.ref jO))) (QR:PySem.W.plainGet K jO Str.empty=true) (Q5:PySem.W.hasDictIn K jO=true) (QV:PySem.W.plainOver K jO=true) (QM:PySem.W.findIn K (.ref jO) "__setattr__" = some (some (.builtin "object.__setattr__"))) (QZ:PySem.W.makesIn K jO=true) (Q7:PySem.W.keepIn K (.ref jO)=true)
  {q5:Addr}
  (a5:PySem.W.nsIn K mainGlobals "put_in" = some (some (.ref f5))) (l5:K.lookup f5=some ⟨oc5,od5,.func (PySem.W.fnOf "put_in" "put_in" (dj Cd) (bQ Cd) (aF Cd) .none kV5 dc5 pm5 an5 (.ref q5) ct5),sl5⟩) (c5:PySem.W.codeIn K (.ref q5) "put_in" = true) (k5:PySem.W.keepIn K (.ref f5)=true) (h5:PySem.W.codeHdIn K q5 53=true) (n5:K.lookup 53=none)
  {YC:Addr}
  (Rh:PySem.W.nsIn K mainGlobals "out_and_cost" = some (some (.ref f11))) (l11:K.lookup f11=some ⟨adp,adl,.func (PySem.W.fnOf "out_and_cost" "out_and_cost" (dj Ca) (bQ Ca) (aF Ca) .none abb abL aaP abZ (.ref YC) abN),acL⟩) (c11:PySem.W.codeIn K (.ref YC) "out_and_cost" = true) (k11:PySem.W.keepIn K (.ref f11)=true) (h11:PySem.W.codeHdIn K YC 95=true) (n11:K.lookup 95=none)
  (a39:PySem.W.findIn K (.ref jm) "__init__" = some (some (.ref f39))) (i39:PySem.W.isFn K (.ref f39)=true) {d39:FuncData} (F39:BV K "__init__" "Move.__init__" ze3 f39 d39)
  (a40:PySem.W.findIn K (.ref jm) "deed" = some (some (.ref f40))) (i40:PySem.W.isFn K (.ref f40)=true) (l40:K.lookup f40=some ⟨ado,adk,.func (PySem.W.fnOf "deed" "Move.deed" (dj Yt) (bQ Yt) (aF Yt) .none adz ad7 adh aec abU ad_),acK⟩) (c40:PySem.W.codeIn K abU "Move.deed" = true) (k40:PySem.W.keepIn K (.ref f40)=true)
  (a48:PySem.W.findIn K (.ref jO) "__init__" = some (some (.ref f48))) (i48:PySem.W.isFn K (.ref f48)=true) {d48:FuncData} (F48:BV K "__init__" "Book.__init__" zcl f48 d48)
  (a78:PySem.W.nsIn K mainGlobals "law" = some (some (.ref f78))) (l78:K.lookup f78=some ⟨adn,adi,.func (PySem.W.fnOf "law" "law" (dj TQ) (bQ TQ) (aF TQ) .none ady ad6 adg aeb abT ad9),acJ⟩) (c78:PySem.W.codeIn K abT "law" = true) (k78:PySem.W.keepIn K (.ref f78)=true)
  {Ng:Tok} (wk:PySem.W.nsIn K mainGlobals "BLANK" = some (some (.str "_" Ng)))
  {xF:Tok} (j7:PySem.W.nsIn K mainGlobals "NO_THINGS" = some (some (.str "K" xF)))
  {lq:Addr} {sW:Option Addr} {sZ:Nat} {sS:Array (Option Value)} {qx:Tok} {qw:Tok}
  (jD:PySem.W.nsIn K mainGlobals "BARE_NAMES" = some (some (.ref lq)))
  (sI:K.lookup lq=some ⟨.type "tuple",sW,.seq #[.str "y" qx,.str "x" qw] sZ,sS⟩)
  {j_:Addr} {sV:Option Addr} {sY:Nat} {sO:Array (Option Value)} {qu:Tok} {qt:Tok} {qp:Tok} {qm:Tok}
  (jC:PySem.W.nsIn K mainGlobals "DEED_NAMES" = some (some (.ref j_)))
  (sH:K.lookup j_=some ⟨.type "tuple",sV,.seq #[.str "n" qu,.str "f" qt,.str "l" qp,.str "r" qm] sY,sO⟩)
  {jQ:Addr} {rF:Option Addr} {rG:Nat} {rE:Array (Option Value)} {o_:Tok} {o9:Tok}
  (iY:PySem.W.nsIn K mainGlobals "ENTRY_NAMES" = some (some (.ref jQ)))
  (rB:K.lookup jQ=some ⟨.type "tuple",rF,.seq #[.str "f" o_,.str "v" o9] rG,rE⟩)
  {j9:Addr} {sU:Option Addr} {sX:Nat} {sJ:Array (Option Value)} {ql:Tok} {qj:Tok} {qi:Tok} {qg:Tok}
  (jB:PySem.W.nsIn K mainGlobals "FULL_NAMES" = some (some (.ref j9)))
  (sG:K.lookup j9=some ⟨.type "tuple",sU,.seq #[.str "a" ql,.str "t" qj,.str "y" qi,.str "x" qg] sX,sJ⟩)
  {qy:Addr} {vo:Option Addr} {vq:Nat} {vh:Array (Option Value)} {jF:Addr} {vm:Option Addr} {vp:Nat} {vf:Array (Option Value)} {tE:Tok} {tD:Tok} {tB:Tok} {tH:Tok} {tG:Tok}
  (oW:PySem.W.nsIn K mainGlobals "IDENTITY" = some (some (.ref qy)))
  (vd:K.lookup qy=some ⟨.type "tuple",vo,.seq #[.ref jF,.str "K" tH,.int 3 tG,.bool true] vq,vh⟩)
  (u_:K.lookup jF=some ⟨.type "tuple",vm,.seq #[.str "S" tE,.str "K" tD,.int 2 tB,.bool true] vp,vf⟩)
  {oJ:Addr} {uv:Option Addr} {uw:Nat} {ur:Array (Option Value)} {rN:Tok} {rK:Tok} {rJ:Tok} {rH:Tok}
  (j6:PySem.W.nsIn K mainGlobals "ROW_NAMES" = some (some (.ref oJ)))
  (um:K.lookup oJ=some ⟨.type "tuple",uv,.seq #[.str "l" rN,.str "s" rK,.str "r" rJ,.str "f" rH] uw,ur⟩)
  (U:Us K tbl) (Z:Zs K zs) (ab3:As K jm Io) (ab4:As K jO Ip)
  :∃fd:FuncData,(∀(s:Shared) (v:Value),BindsTo s fd ⟨[v],[]⟩ [("_law_script",v)])/\(∀p∈tabs,Lh K p.1 p.2)/\∀base:Heap,K.In base->base.Ns mainGlobals mg->BMain mg base->cQ l.prog w K mg base rn 205 fa fd ["_law_script"] (vV K 1 zk7):=by
 have e:=hfa.symm.trans (ae0 X G a78);cases e;have F5:=Bd (st:=Cd) a5 l5 c5 k5;have F11:=Bd (st:=Ca) Rh l11 c11 k11;have F40:=fun_mk (st:=Yt) l40 c40 k40;have F78:=fun_mk (st:=TQ) l78 c78 k78;have b5:Binds K (PySem.W.fnOf "put_in" "put_in" (dj Cd) (bQ Cd) (aF Cd) .none kV5 dc5 pm5 an5 (.ref q5) ct5) ["term","puts"] []:=Binds.all λus hl=>by obtain⟨_,_,rfl⟩:=us2 hl;exact rfl
 have b11:Binds K (PySem.W.fnOf "out_and_cost" "out_and_cost" (dj Ca) (bQ Ca) (aF Ca) .none abb abL aaP abZ (.ref YC) abN) ["name","term"] []:=Binds.all λus hl=>by obtain⟨_,_,rfl⟩:=us2 hl;exact rfl
 have b39:=F39.binds (ps:=["self","move","sign_trees"]) λ_ _ _ _ _ _ us hl=>by obtain⟨_,_,_,rfl⟩:=us3 hl;exact rfl
 have b40:=F40.binds (ps:=["self","sign","way"]) λ_ _ _ _ _ _ us hl=>by obtain⟨_,_,_,rfl⟩:=us3 hl;exact rfl
 have b48:=F48.binds (ps:=["self","rules","signs","states"]) λ_ _ _ _ _ _ us hl=>by obtain⟨_,_,_,_,rfl⟩:=us4 hl;exact rfl
 have b78:=F78.binds (ps:=["_law_script"]) λ_ _ _ _ _ _ us hl=>by obtain⟨_,rfl⟩:=us1 hl;exact rfl
 exact⟨_,λs v=>.of_eq rfl,List.forall_mem_cons.mpr ⟨zG.aag Rh l11 h11 n11,List.forall_mem_cons.mpr ⟨zG.aag a5 l5 h5 n5,List.forall_mem_nil _⟩⟩,λbase _ _ hB=>Ie (Ad:=⟨_,_,_,_,_,_,_,_,_,_,_,_,_,_⟩) ⟨hB,U.all X G,Z.all X G,ab3.all,ab4.all,F5,ae0 X G a5,b5,F11,ae0 X G Rh,b11,F39,⟨QX,a39,i39,Q6⟩,b39,F40,⟨a40,i40,k40⟩,b40,F48,⟨QZ,a48,i48,Q7⟩,b48,F78,ae0 X G a78,b78,Br,ae0 X G Br,⟨QQ,Q0,QT,QL⟩,Bt,ae0 X G Bt,⟨QR,Q5,QV,QM⟩,⟨_,ae0 X G wk⟩,⟨_,ae0 X G j7⟩,⟨_,ae0 X G jD,(ao.kt [.str "y",.str "x"] sI (xm (n:=2) (by decide)) (.cons ⟨_,rfl⟩ (.cons ⟨_,rfl⟩ .nil)) rfl (aq.c (ao.ks rfl) (aq.c (ao.ks rfl) aq.n)))⟩,⟨_,ae0 X G jC,(ao.kt [.str "n",.str "f",.str "l",.str "r"] sH (xm (n:=4) (by decide)) (.cons ⟨_,rfl⟩ (.cons ⟨_,rfl⟩ (.cons ⟨_,rfl⟩ (.cons ⟨_,rfl⟩ .nil)))) rfl (aq.c (ao.ks rfl) (aq.c (ao.ks rfl) (aq.c (ao.ks rfl) (aq.c (ao.ks rfl) aq.n)))))⟩,⟨_,ae0 X G iY,(ao.kt [.str "f",.str "v"] rB (xm (n:=2) (by decide)) (.cons ⟨_,rfl⟩ (.cons ⟨_,rfl⟩ .nil)) rfl (aq.c (ao.ks rfl) (aq.c (ao.ks rfl) aq.n)))⟩,⟨_,ae0 X G jB,(ao.kt [.str "a",.str "t",.str "y",.str "x"] sG (xm (n:=4) (by decide)) (.cons ⟨_,rfl⟩ (.cons ⟨_,rfl⟩ (.cons ⟨_,rfl⟩ (.cons ⟨_,rfl⟩ .nil)))) rfl (aq.c (ao.ks rfl) (aq.c (ao.ks rfl) (aq.c (ao.ks rfl) (aq.c (ao.ks rfl) aq.n)))))⟩,⟨_,ae0 X G oW,(ao.kt [.ref jF,.str "K",.int 3,.bl true] vd (xm (n:=4) (by decide)) (.cons rfl (.cons ⟨_,rfl⟩ (.cons ⟨_,rfl⟩ (.cons rfl .nil)))) rfl (aq.c (ao.kt [.str "S",.str "K",.int 2,.bl true] u_ (xm (n:=4) (by decide)) (.cons ⟨_,rfl⟩ (.cons ⟨_,rfl⟩ (.cons ⟨_,rfl⟩ (.cons rfl .nil)))) rfl (aq.c (ao.ks rfl) (aq.c (ao.ks rfl) (aq.c ao.ki (aq.c ao.kb aq.n))))) (aq.c (ao.ks rfl) (aq.c ao.ki (aq.c ao.kb aq.n)))))⟩,⟨_,ae0 X G j6,(ao.kt [.str "l",.str "s",.str "r",.str "f"] um (xm (n:=4) (by decide)) (.cons ⟨_,rfl⟩ (.cons ⟨_,rfl⟩ (.cons ⟨_,rfl⟩ (.cons ⟨_,rfl⟩ .nil)))) rfl (aq.c (ao.ks rfl) (aq.c (ao.ks rfl) (aq.c (ao.ks rfl) (aq.c (ao.ks rfl) aq.n)))))⟩⟩⟩
end Law
set_option maxHeartbeats 0
noncomputable section
namespace Law
open L2 M Tr
def jP{m1 m2:MS}{env env1:aJ}{st st1:ak}(h:m1 env st=.ok (.nx env1) st1):aC m1 m2 env st=m2 env1 st1:=by rw[Hg,h];rfl
def yF{i:Nat}{e:ME}{env:aJ}{st st1:ak}{d:D}(h:e env st=.ok d st1):aG i e env st=.ok (.nx (env.set i (some d))) st1:=by
 rw[UJ,h];rfl
def lV{c f:PySem.Str}{m:ME}{env:aJ}{st:ak}{n:Nat}{fs:List (PySem.Str×D)}{x:D}(hm:m env st=.ok (.loc n) st)(h:st[n]? = some (.ins c fs))(hx:fs.lookup f=some x):cB c f m env st=.ok x st:=by
 unfold cB;rw[hm,R.aB];dsimp only;rw[h];dsimp only;rw[aeQ rfl,hx]
def zk4{c f:PySem.Str}{mo mv:ME}{env:aJ}{st st1:ak}{n:Nat}{fs:List (PySem.Str×D)}{d:D}(hv:mv env st=.ok d st1)(hm:mo env st1=.ok (.loc n) st1)(h:st1[n]? = some (.ins c fs))(hl:fs.length<1000):cI c f mo mv env st=.ok (.nx env) (st1.set n (.ins c (vY f d fs))):=by
 unfold cI;rw[hv,R.aB,hm,R.aB];dsimp only;rw[h];dsimp only;rw[aeQ ⟨rfl,hl⟩]
def aY{F:FD}{mA:MA}{env:aJ}{st st1 st2:ak}{as:List D}{d:D}(hF:F as st1=.ok d st2)(ha:mA env st=.ok as st1):az F [] mA env st=.ok d st2:=by simp[ha,hF]
def q_{f:List D->ak->R D}{mA:MA}{env:aJ}{st st1 st2:ak}{as:List D}{d:D}(hF:f as st1=.ok d st2)(ha:mA env st=.ok as st1):bD f mA env st=.ok d st2:=by simp[ha,hF]
def aK{e:ME}{mA:MA}{env:aJ}{st st1 st2:ak}{as:List D}{d:D}(h:e env st=.ok d st1)(ha:mA env st1=.ok as st2):aj e mA env st=.ok (d::as) st2:=by simp[ha,h]
def aL{g:D->D->ak->R D}{a b:ME}{env:aJ}{st st1 st2 fV:ak}{x y d:D}(ha:a env st=.ok x st1)(hb:b env st1=.ok y st2)(hg:g x y st2=.ok d fV):aD g a b env st=.ok d fV:=by simp[ha,hb,hg]
def bO{i:Nat}{e:ME}{m2:MS}{env:aJ}{st st1:ak}{d:D}{r:R Out}(h:e env st=.ok d st1)(k:m2 (env.set i (some d)) st1=r):aC (aG i e) m2 env st=r:=by rw[jP (yF h)];exact k
def jZ{t:MT}{a m2:MS}{env:aJ}{st st1:ak}{r:R Out}(h:t env st=.ok false st1)(k:m2 env st1=r):aC (fu t a bh) m2 env st=r:=by simp[h,k]
def VB{e:ME}{G:MG}{m2:MS}{env env1:aJ}{st st1 st2:ak}{d:D}{r:R Out}(h:e env st=.ok d st1)(hg:G d env st1=.ok env1 st2)(k:m2 env1 st2=r):aC (oH e G) m2 env st=r:=by simp[h,hg,k]
def BX{a b:MT}{env:aJ}{st st1 st2:ak}{c:Bool}(h:a env st=.ok false st1)(k:b env st1=.ok c st2):xJ a b env st=.ok c st2:=by simp[h,k]
def yp{a:MT}{env:aJ}{st st1:ak}{c:Bool}(h:a env st=.ok c st1):lz a env st=.ok (!c) st1:=by simp[h]
def jT{a:ME}{env:aJ}{st st1:ak}{x:D}{c:Bool}(h:a env st=.ok x st1)(k:iZ x st1=some c):jU a env st=.ok c st1:=by simp[h,k]
def yE{g:D->ak->R D}{a:ME}{env:aJ}{st st1 st2:ak}{x d:D}(ha:a env st=.ok x st1)(hg:g x st1=.ok d st2):uG g a env st=.ok d st2:=by simp[ha,hg]
def ZF{a b:ME}{env:aJ}{st st1 st2:ak}{d:D}(h:a env st=.ok (.bl true) st1)(k:b env st1=.ok d st2):tZ a b env st=.ok d st2:=by simp[h,k]
def dM{e:ME}{env:aJ}{st st1:ak}{d:D}(h:e env st=.ok d st1):retS e env st=.ok (.rt d) st1:=by simp[h]
def yG{mA:MA}{env:aJ}{st st1:ak}{ds:List D}(h:mA env st=.ok ds st1)(hl:ds.length<=1000000:=by simp):fM mA env st=.ok (.tup ds) st1:=by simp[h,hl]
def cZ{a:ME}{env:aJ}{st st1:ak}{c:Bool}(h:a env st=.ok (.bl c) st1):eY a env st=.ok c st1:=by simp[h]
def aW{x:R Out}{f:Out->ak->R D}{st st1:ak}{d:D}{r:R D}(h:x=.ok (.rt d) st1)(hf:f (.rt d) st1=.ok d st1)(k:gc st (.ok d st1)=r):gc st (x.bind f)=r:=by rw[h,R.aB,hf];exact k
def uZ{T:String}{f:D->List D->ak->R D}{mo:ME}{mA:MA}{env:aJ}{st st1 st2 fV:ak}{x d:D}{as:List D}(h:mo env st=.ok x st1)(ht:dw T x st1=true)(ha:mA env st1=.ok as st2)(hf:f x as st2=.ok d fV):cJ T f mo mA env st=.ok d fV:=by simp[h,ht,ha,hf]
def Gi{c f:PySem.Str}{mo mv:ME}{m2:MS}{env:aJ}{st st1 st2:ak}{n:Nat}{fs:List (PySem.Str×D)}{d:D}{r:R Out}(hv:mv env st=.ok d st1)(hm:mo env st1=.ok (.loc n) st1)(h:st1[n]? = some (.ins c fs))(e:st1.set n (.ins c (vY f d fs))=st2)(k:m2 env st2=r)(hl:fs.length<1000:=by simp):aC (cI c f mo mv) m2 env st=r:=by rw[jP (zk4 hv hm h hl),e];exact k
def XF{mi:MI}{g:MG}{b m2:MS}{env env1:aJ}{st st1 st2:ak}{s:List D}{gs:List (Nat×MO)}{r:R Out}(hi:mi env st=.ok (s,gs) st1)(h:cu g b gs s env st1=.ok (.nx env1) st2)(k:m2 env1 st2=r):aC (dU mi g b) m2 env st=r:=by rw[jP (by rw[wA,hi,R.aB];exact h)];exact k
def wX{e:ME}{G:MG}{env env1:aJ}{st st1 st2:ak}{d:D}(h:e env st=.ok d st1)(hg:G d env st1=.ok env1 st2):oH e G env st=.ok (.nx env1) st2:=by simp[h,hg]
def ZG{g:D->D->D->ak->R Unit}{a b:ME}{d x y:D}{env:aJ}{st st1 st2 fV:ak}(ha:a env st=.ok x st1)(hb:b env st1=.ok y st2)(hg:g x y d st2=.ok () fV):vy g a b d env st=.ok env fV:=by simp[ha,hb,hg]
def xn{e:ME}{env:aJ}{st st1:ak}{d:D}(h:e env st=.ok d st1):dH e env st=.ok (.nx env) st1:=by simp[h]
def S8{x:R Out}{f:Out->ak->R D}{env:aJ}{st st1:ak}{r:R D}(h:x=.ok (.nx env) st1)(hf:f (.nx env) st1=.ok .non st1)(k:gc st (.ok .non st1)=r):gc st (x.bind f)=r:=by rw[h,R.aB,hf];exact k
def add_int{i j k:Int}{st:ak}(h:i+j=k):bj (.int i) (.int j) st=.ok (.int k) st:=by subst h;rfl
def add_str{a b:List Nat}{st:ak}(h:a.length+b.length<=1000000):bj (.str a) (.str b) st=.ok (.str (a++b)) st:=aeQ h
def Rr{a b c:Nat}{st:ak}(h:a+b=c):bj (.int a) (.int b) st=.ok (.int c) st:=add_int (by omega)
def Lr{t:MT}{a:MS}{env:aJ}{st st1:ak}(h:t env st=.ok false st1):fu t a bh env st=.ok (.nx env) st1:=by simp[h]
def oU{t:MT}{a b:MS}{env:aJ}{st st1:ak}{r:R Out}(h:t env st=.ok true st1)(k:a env st1=r):fu t a b env st=r:=by simp[h,k]
def IV{c m:PySem.Str}{F:FD}{mo:ME}{mA:MA}{env:aJ}{st st1 st2:ak}{n:Nat}{fs fs2:List (PySem.Str×D)}{as:List D}{d:D}(h:mo env st=.ok (.loc n) st)(ho:st[n]? = some (.ins c fs))(ha:mA env st=.ok as st1)(J1:st1[n]? = some (.ins c fs2))(hF:F (.loc n::as) st1=.ok d st2)(hm:fs.lookup m=none:=by rfl):Al c m F mo mA env st=.ok d st2:=by
 unfold Al;rw[h,R.aB];dsimp only;rw[ho];dsimp only;rw[aeQ ⟨rfl,hm⟩,ha,R.aB,J1];dsimp only;rw[hF];rfl
def q9{i:Int}{ds:List D}{d:D}{st:ak}(hi:pW ds i=some d:=by rfl):aZ (.tup ds) (.int i) st=.ok d st:=yH st i ds d hi
def zok{e:ME}{env:aJ}{st:ak}{cs:List Nat}(h:e env st=.ok (.str cs) st)(ha:cs.all (λc=>decide (c<128))=true):uA e env st=.ok (cs.map λc=>D.str [c],[]) st:=by
 rw[UG,h,R.aB];dsimp only;rw[aeQ ha]
def eV{st:ak}{n k:Nat}{g:ak}{o:MO}(h:g[k]? = some o)(e:n=st.length+k:=by rfl):(st++g)[n]? = some o:=by subst e;rw[kh (by omega),show st.length+k - st.length=k by omega];exact h
def Ha{e:ME}{env:aJ}{st:ak}{cs:List Nat}(h:e env st=.ok (.str cs.reverse) st)(hl:cs.length<=1000000):vX (aj e au) env st=.ok (cs.map λc=>D.str [c],[]) st:=by simp[h,hl]
def Rp{t:MT}{a b:ME}{env:aJ}{st st1:ak}{c:Bool}{r:R D}(h:t env st=.ok c st1)(k:(bif c then a env st1 else b env st1)=r):Mj t a b env st=r:=by cases c<;>simpa[h] using k
def eq_str{a b:List Nat}{st:ak}:M.fL 800 (.str a) (.str b) st=.ok (.bl (decide (a=b))) st:=by simp
def rA{m1 m2:MS}{env:aJ}{st st1:ak}{d:D}(h:m1 env st=.ok (.rt d) st1):aC m1 m2 env st=.ok (.rt d) st1:=by rw[Hg,h];rfl
def eq_int{i j:Int}{st:ak}:M.fL 800 (.int i) (.int j) st=.ok (.bl (decide (i=j))) st:=by simp
def zr2{i:Int}{st:ak}:M.fL 800 (.int i) (.int i) st=.ok (.bl true) st:=by simp
def Ko{i:List Nat}{st:ak}:M.fL 800 (.str i) (.str i) st=.ok (.bl true) st:=by simp
def lB{L:Nat}{x y:D}{st:ak}{k:Bool}(h:M.fL L x y st=.ok (.bl k) st):M.xK L x y st=.ok (.bl (!k)) st:=by
 unfold M.fL at h;unfold M.xK;cases e:iD L x y st with
 | none=>rw[e]at h;cases h
 | some j =>
  rw[e]at h;injection h with h _;injection h with h;subst h;rfl
def RJ{T:String}{f:D->List D->ak->R D}{mo:ME}{env:aJ}{st st1 st2:ak}{x d:D}(h:mo env st=.ok x st1)(ht:dw T x st1=true)(hf:f x [] st1=.ok d st2):fB T f mo env st=.ok d st2:=by simp[h,ht,hf]
def Ah{a:ME}{env:aJ}{st st1:ak}{c:Bool}(h:a env st=.ok (.bl c) st1):Ih a env st=.ok (.bl (!c)) st1:=by simp[h]
def Fz(l r:Tr)(s:ak):aZ (enc (.jn l r)) (.int 0) s=.ok (enc l) s:=by rw[enc];exact q9
def zJ(l r:Tr)(s:ak):aZ (enc (.jn l r)) (.int 1) s=.ok (enc r) s:=by rw[enc];exact q9
def Ln(l r:Tr)(s:ak):vK "str" (enc (.jn l r)) s=.ok (.bl false) s:=by rw[enc];rfl
def t_{n:Nat}{o:MO}{st:ak}(h:st[n]? = some o):ud [(n,o)] st:=by simp[ud,h]
def Rw{a:ME}{l h:MP}{env:aJ}{st st1:ak}{x d:D}{lo hi:Option Int}(ha:a env st=.ok x st)(hl:l env st=.ok lo st)(hh:h env st=.ok hi st)(k:vz x lo hi st=.ok d st1):GP a l h env st=.ok d st1:=by simp[ha,hl,hh,k]
def abl{t:MT}{a b:MS}{env:aJ}{st st1:ak}{r:R Out}(h:t env st=.ok false st1)(k:b env st1=r):fu t a b env st=r:=by simp[h,k]
def Z7{a b:MT}{env:aJ}{st:ak}{c d:Bool}(h:a env st=.ok c st)(k:b env st=.ok d st):t6 a b env st=.ok (c && d) st:=by cases c<;>simp[h,k]
def Ab{a b:MT}{env:aJ}{st:ak}{c d:Bool}(h:a env st=.ok c st)(k:b env st=.ok d st):xJ a b env st=.ok (c || d) st:=by cases c<;>simp[h,k]
def z_{a b:ME}{env:aJ}{st:ak}{c d:Bool}(h:a env st=.ok (.bl c) st)(k:b env st=.ok (.bl d) st):HQ a b env st=.ok (.bl (c || d)) st:=by cases c<;>simp[h,k]
def Lf{a b:ME}{env:aJ}{st:ak}{c d:Bool}(h:a env st=.ok (.bl c) st)(k:b env st=.ok (.bl d) st):tZ a b env st=.ok (.bl (c && d)) st:=by cases c<;>simp[h,k]
def yX{i j:Nat}{st:ak}:ltV (.int i) (.int j) st=.ok (.bl (decide (i<j))) st:=by simp
def acp{b:Bool}{st:ak}:iZ (.bl b) st=some b:=eQ rfl
def Zx{e:ME}{n:Nat}{as:List D}{st:ak}{d:D}(h:e (startM n as) st=.ok d st)(hu:under st.length d):bB (bw n (retS e)) as st=.ok d st:=aW (dM h) rfl (dz hu)
def XH{st g:ak}{n k:Nat}{ds:List D}{d:D}(h:g[k]? = some (.lst ds))(hl:ds.length<1000000)(e:n=st.length+k:=by rfl):a_ (.loc n) [d] (st++g)=.ok .non (st++g.set k (.lst (ds++[d]))):=by
 have q:=eV (st:=st) h e;unfold a_;simp only[q];rw[aeQ hl,e,List.set_append_right _ _ (by omega),show st.length+k - st.length=k by omega]
def Hs{st g:ak}{n k:Nat}{ds:List D}{d:D}(h:g[k]? = some (.lst (ds++[d])))(e:n=st.length+k:=by rfl):vB (.loc n) [] (st++g)=.ok d (st++g.set k (.lst ds)):=by
 have q:=eV (st:=st) h e;unfold vB;simp only[q];simp[e]
def VM{st g:ak}{n k:Nat}{ds:List D}(h:g[k]? = some (.lst ds))(e:n=st.length+k:=by rfl):dw "list" (.loc n) (st++g)=true:=by
 have q:=eV (st:=st) h e;simp[dw,q]
def Wr(l r:Tr)(s:ak):aZ (enc (.jn l r)) (.int 2) s=.ok (.int (lv (.jn l r):Nat)) s:=by rw[enc];exact q9
def zj(l r:Tr)(s:ak):aZ (enc (.jn l r)) (.int 3) s=.ok (.bl (val (.jn l r))) s:=by rw[enc];exact q9
def TY{env:aJ}{st:ak}:cV au env st=.ok (.loc st.length) (st++[.lst []]):=by simp
def Mw{mA:MA}{env:aJ}{st st1:ak}{ds:List D}(h:mA env st=.ok ds st1)(hl:ds.length<=1000000:=by simp):cV mA env st=.ok (.loc st1.length) (st1++[.lst ds]):=by simp[h,hl]
def JM(s:List Nat)(st:ak):vK "str" (enc (.lf s)) st=.ok (.bl true) st:=rfl
def NB{e:ME}{env:aJ}{st:ak}{n:Nat}{ds:List D}(h:e env st=.ok (.loc n) st)(hs:st[n]? = some (.lst ds)):Hb (aj e au) env st=.ok (ds.reverse,[(n,.lst ds)]) st:=by simp[h,qF,hs]
def znl{m:ME}{env:aJ}{st st1:ak}{n:Nat}{ds:List D}(hm:m env st=.ok (.loc n) st1)(h:st1[n]? = some (.lst ds)):ig m env st=.ok (ds,[(n,.lst ds)]) st1:=by
 rw[yO,hm];simp only[R.aB,h]
def ze9(t:Tr)(st:ak):Ul [enc t] st=.ok (.bl (val t)) st:=by
 cases t with
 | lf s=>exact Zx (e:=HQ _ _) (by simp[startM,enc,f9,val]) (by simp)
 | jn l r=>exact Zx (z_ (yE rfl (Ln _ _ _)) (aL rfl rfl (zj _ _ _))) (by simp)
def zph(t:Tr)(st:ak):zek [enc t] st=.ok (.int (lv t:Nat)) st:=by
 unfold zek bB bw zls;cases t with
 | lf s=>exact aW (d:=.int 1) (rA (oU (jT (yE rfl rfl) rfl) (dM rfl))) rfl (dz (by simp))
 | jn l r=>exact aW (jZ (jT (yE rfl (Ln _ _ _)) rfl) (dM (aL rfl rfl (Wr _ _ _)))) rfl (dz (by simp))
def bqd(s t:List Nat):(s==t)=decide (s=t):=by rw[mz];simp
def zsc(l r:Tr)(st:ak):ze8 [enc l,enc r] st=.ok (.bl (val (.jn l r))) st:=by
 unfold ze8 bB bw zjo;have hv:=ze9 r st;cases hr:val r with
 | false =>
  rw[hr]at hv;have e:val (.jn l r)=false:=by
   cases q:val (.jn l r) with
   | false=>rfl
   | true=>rw[(zkm q).2]at hr;cases hr
  rw[e];exact aW (rA (oU (yp (jT (aY hv rfl) rfl)) (dM rfl))) rfl (dz (by simp))
 | true =>
  rw[hr]at hv;cases l with
  | lf s =>
   rw[Uc,hr,Bool.true_and,bqd,bqd];have e1:=My 799 (.lf s) [83] st;have e2:=My 799 (.lf s) [75] st;exact aW (jZ (yp (jT (aY hv rfl) rfl)) (rA (oU (jT (yE rfl rfl) rfl) (dM (z_ (aL rfl rfl e1) (aL rfl rfl e2)))))) rfl (dz (by simp))
  | jn a b =>
   have e1:M.fL 800 (enc a) (.str [83]) st=.ok (.bl (tV (.jn a b))) st:=by
    cases a with
    | lf s=>rw[show tV (.jn (.lf s) b)=decide (s=[83]) from bqd _ _];exact My 799 (.lf s) [83] st
    | jn c d=>exact My 799 (.jn c d) [83] st
   rw[T8,hr,Bool.true_and];exact aW (jZ (yp (jT (aY hv rfl) rfl)) (jZ (jT (yE rfl (Ln _ _ _)) rfl) (dM (Lf (aL (aL rfl rfl (Fz _ _ _)) rfl e1) (aL rfl rfl (zj _ _ _)))))) rfl (dz (by simp))
def zL(l r:Tr)(st:ak):uY [enc l,enc r] st=.ok (enc (.jn l r)) st:=by
 have e:enc (.jn l r)=.tup [enc l,enc r,.int ((lv l:Nat)+(lv r:Nat)),.bl (val (.jn l r))]:=by rw[enc,lv];simp
 have hu:=iQ st.length (.jn l r);rw[e]at hu ⊢;exact Zx (yG (aK rfl (aK rfl (aK (aL (aY (zph l st) rfl) (aY (zph r st) rfl) rfl) (aK (aY (zsc l r st) rfl) rfl))))) hu
end Law
set_option maxHeartbeats 0
namespace M
def zlt{g:MG}{b:MS}{gs:List (Nat×MO)}{d:D}{r:List D}{env env1 bu:aJ}{st st1 st2:ak}(ho:ud gs st)(hg:g d env st=.ok env1 st1)(hb:b env1 st1=.ok (.nx bu) st2) :
  cu g b gs (d::r) env st=cu g b gs r bu st2:=by
 rw[cu,aeQ ho,hg,R.aB,hb,R.aB]
def Ej{g:MG}{b:MS}{gs:List (Nat×MO)}{env:aJ}{st:ak}(ho:ud gs st):cu g b gs [] env st=.ok (.nx env) st:=by
 rw[cu,aeQ ho]
namespace Tr
def lX:Tr->List Tr
 | .lf s=>[.lf s]
 | .jn l r=>.jn l r::(lX r++lX l)
def yt:Tr->Nat
 | .lf _=>1
 | .jn l r=>yt l+yt r+1
def VG(t:Tr):yt t+1=2*lv t:=by
 induction t with
 | lf s=>rfl
 | jn l r h1 h2=>rw[yt,lv];omega
def FZ(W:List Tr):Nat:=(W.map yt).sum
def vC(W:List Tr):List Tr:=(W.reverse.map lX).flatten
def zm6(W:List Tr)(t:Tr):FZ (W++[t])=FZ W+yt t:=by simp[FZ]
def zkx(W:List Tr)(t:Tr):vC (W++[t])=lX t++vC W:=by simp[vC]
def zsm(t:Tr):0<yt t:=by cases t<;>simp[yt]
def Aj(W:List Tr):W.length<=FZ W:=by
 induction W with
 | nil=>simp[FZ]
 | cons y W ih=>have:=zsm y;simp[FZ]at ih ⊢;omega
end Tr
end M
namespace Law
open L2 M Tr
def zoz(f:Tr->D)(P:Tr->Prop)(a b j1 j2:Nat)(da db:List D)(t:Tr)(st:ak)
  (ha:st[a]? = some (.clo j1 (j4 j1) da)) (hb:st[b]? = some (.clo j2 (j4 j2) db)) (hsz:lv t<=400000)
  (hf:∀(u:Tr) (n:Nat),under n (f u)) (hP:P t) (hPP:∀l r,P (.jn l r)->P l/\P r)
  (h1:∀(s:List Nat) (g:ak),P (.lf s)->GL j1 (da++[enc (.lf s)]) (cj (st++g))=.ok (f (.lf s)) (cj (st++g)))
  (h2:∀(l r:Tr) (g:ak),P (.jn l r)->GL j2 (db++[enc (.jn l r),f l,f r]) (cj (st++g))=.ok (f (.jn l r)) (cj (st++g))) :
  Lz [enc t,.loc a,.loc b] st=.ok (f t) st:=by
 have hN:yt t<=800000:=by have:=VG t;omega
 unfold Lz bB bw zln;generalize hB1:(aC (aG 5 (fB "list" vB (vr 4))) _:MS)=B1;generalize Gf:(fu (jU (uG (vK "str") (vr 5))) _ _:MS)=B2
 let E:Option D->aJ:=λa5=>[some (enc t),some (.loc a),some (.loc b),some (.loc st.length),some (.loc (st.length+1)),a5,none,none,none]
 let S:List Tr->List Tr->ak:=λO W=>st++[.lst (O.map enc),.lst (W.map enc)]

 have ap:∀(O W:List Tr) (x:Tr),O.length<1000000->a_ (.loc st.length) [enc x] (S O W)=.ok .non (S (O++[x]) W):=λO W x h=>by
  have:=XH (st:=st) (g:=[.lst (O.map enc),.lst (W.map enc)]) (k:=0) (d:=enc x) rfl (by rwa[gm]);show _=R.ok _ (st++[.lst ((O++[x]).map enc),.lst (W.map enc)]);rw[mF];exact this
 have ap2:∀(O W:List Tr) (x:Tr),W.length<1000000->a_ (.loc (st.length+1)) [enc x] (S O W)=.ok .non (S O (W++[x])):=λO W x h=>by
  have:=XH (st:=st) (g:=[.lst (O.map enc),.lst (W.map enc)]) (k:=1) (d:=enc x) rfl (by rwa[gm]);show _=R.ok _ (st++[.lst (O.map enc),.lst ((W++[x]).map enc)]);rw[mF];exact this
 have pp:∀(O W:List Tr) (x:Tr),vB (.loc (st.length+1)) [] (S O (W++[x]))=.ok (enc x) (S O W):=λO W x=>Hs (k:=1) (by simp);have ty0:∀O W,dw "list" (.loc st.length) (S O W)=true:=λO W=>VM (k:=0) rfl;have ty1:∀O W,dw "list" (.loc (st.length+1)) (S O W)=true:=λO W=>VM (k:=1) rfl;have cn:∀O a5,bC (jU (vr 4)) B1 (E a5) (S O [])=.ok (.nx (E a5)) (S O []):=λO a5=>by
  rw[yq,show jU (vr 4) (E a5) (S O [])=.ok false (S O []) from jT rfl (by simp[iZ,S])];rfl
 have aa8:∀(k:Nat) (O W:List Tr) (a5:Option D),FZ W<=k->O.length+FZ W<=800000->∃Gg,bC (jU (vr 4)) B1 (E a5) (S O W)=.ok (.nx (E Gg)) (S (O++vC W) []):=by
  intro k
  induction k with
  | zero =>
   intro O W a5 hk _;have hw:=Aj W;cases W with
   | nil=>exact⟨a5,by rw[show vC []=[] from rfl,gR];exact cn O a5⟩
   | cons x W=>simp at hw;omega
  | succ k ih =>
   intro O W a5 hk hO;rcases List.eq_nil_or_concat W with rfl | ⟨W,x,rfl⟩
   ·exact⟨a5,by rw[show vC []=[] from rfl,gR];exact cn O a5⟩
   ·rw[List.concat_eq_append]at *;rw[zm6]at hk hO;have hx:=zsm x;have hl:=Aj W;rw[yq,show jU (vr 4) (E a5) (S O (W++[x]))=.ok true (S O (W++[x])) from jT rfl (by simp[iZ,S]),R.aB,aeQ rfl,zkx];cases x with
    | lf s =>
     obtain⟨Gg,e⟩:=ih (O++[.lf s]) W (some (enc (.lf s))) (by simp[yt]at hk;omega) (by simp[yt]at hO ⊢;omega);refine⟨Gg,?_⟩;rw[show B1 (E a5) (S O (W++[.lf s]))=.ok (.nx (E (some (enc (.lf s))))) (S (O++[.lf s]) W) by
      rw[<-hB1];exact bO (RJ rfl (ty1 _ _) (pp O W _)) ((jP (xn (uZ rfl (ty0 _ _) (aK rfl rfl) (ap O W (.lf s) (by omega))))).trans (Lr (yp (c:=true) (jT (yE rfl (JM _ _)) rfl)))),R.aB]
     rw[lX,<-gP];exact e
    | jn l r =>
     have ew:FZ ((W++[l])++[r])=FZ W+yt l+yt r:=by rw[zm6,zm6]
     have hl1:=zsm l;rw[yt]at hk hO;obtain⟨Gg,e⟩:=ih (O++[.jn l r]) ((W++[l])++[r]) (some (enc (.jn l r))) (by rw[ew];omega) (by rw[ew,gK,nF];omega);refine⟨Gg,?_⟩;rw[show B1 (E a5) (S O (W++[.jn l r]))=.ok (.nx (E (some (enc (.jn l r))))) (S (O++[.jn l r]) ((W++[l])++[r])) by
      rw[<-hB1];exact bO (RJ rfl (ty1 _ _) (pp O W _)) ((jP (xn (uZ rfl (ty0 _ _) (aK rfl rfl) (ap O W (.jn l r) (by omega))))).trans (oU (yp (jT (yE rfl (Ln _ _ _)) rfl)) ((jP (xn (uZ rfl (ty1 _ _) (aK (aL rfl rfl (Fz _ _ _)) rfl) (ap2 _ W l (by omega))))).trans (xn (uZ rfl (ty1 _ _) (aK (aL rfl rfl (zJ _ _ _)) rfl) (ap2 _ (W++[l]) r (by simp;omega))))))),R.aB]
     rw[zkx,zkx]at e;rw[show O++(lX (.jn l r)++vC W)=O++[.jn l r]++(lX r++(lX l++vC W)) by simp[lX]];exact e
 obtain⟨a5,e1⟩:=aa8 (FZ [t]) [] [t] none (gb _) (by simp[FZ];omega);have eo:vC [t]=lX t:=by simp[vC]
 rw[mL,eo]at e1

 let O:=(lX t).map enc
 let E2:Option D->Option D->Option D->aJ:=λa5 a7 a8=>[some (enc t),some (.loc a),some (.loc b),some (.loc st.length),some (.loc (st.length+1)),a5,some (.loc (st.length+2)),a7,a8]
 let S2:List D->ak:=λT=>st++[.lst O,.lst [],.lst T]
 have ty2:∀T,dw "list" (.loc (st.length+2)) (S2 T)=true:=λT=>VM (k:=2) rfl;have ap3:∀(T:List D) (d:D),T.length<1000000->a_ (.loc (st.length+2)) [d] (S2 T)=.ok .non (S2 (T++[d])):=λT d h=>XH (k:=2) rfl h;have pp3:∀(T:List D) (d:D),vB (.loc (st.length+2)) [] (S2 (T++[d]))=.ok d (S2 T):=λT d=>Hs (k:=2) rfl;have okS:∀T,ud [(st.length,.lst O)] (S2 T):=λT=>t_ (eV (k:=0) rfl);have aa7:∀(u:Tr),P u->∀(rest T:List D) (a5 a7 a8:Option D),T.length+yt u<=900000 ->
   ∃Gg a7' a8',cu (aM 5) B2 [(st.length,.lst O)] ((lX u).reverse.map enc++rest) (E2 a5 a7 a8) (S2 T)=cu (aM 5) B2 [(st.length,.lst O)] rest (E2 Gg a7' a8') (S2 (T++[f u])):=by
  intro u
  induction u with
  | lf s =>
   intro hp rest T a5 a7 a8 hT;refine⟨some (enc (.lf s)),a7,a8,zlt (env1:=E2 (some (enc (.lf s))) a7 a8) (st1:=S2 T) (okS T) rfl ?_⟩;rw[<-Gf];exact oU (jT (yE rfl rfl) rfl) (xn (uZ rfl (ty2 T) (aK (z6 (Λ:=j4) (G:=GL) (n:=a) rfl (bV ha) (aK rfl rfl) (bV ha) (h1 s _ hp) (hf _ _)) rfl) (ap3 T _ (by omega))))
  | jn l r ihl ihr =>
   intro hp rest T a5 a7 a8 hT;obtain⟨pl,pr⟩:=hPP l r hp;rw[yt]at hT;rw[lX,mZ,List.reverse_append,mF,mF,gP,gP];obtain⟨b5,b7,b8,q1⟩:=ihl pl ((lX r).reverse.map enc++([Tr.jn l r].map enc++rest)) T a5 a7 a8 (by omega);obtain⟨c5,c7,c8,q2⟩:=ihr pr ([Tr.jn l r].map enc++rest) (T++[f l]) b5 b7 b8 (by simp;omega);rw[q1,q2];refine⟨some (enc (.jn l r)),some (f r),some (f l),zlt (env1:=E2 (some (enc (.jn l r))) c7 c8) (st1:=S2 (T++[f l]++[f r])) (okS _) rfl ?_⟩;rw[<-Gf];exact abl (jT (yE rfl (Ln _ _ _)) rfl) (bO (RJ rfl (ty2 _) (pp3 _ _)) (bO (RJ rfl (ty2 _) (pp3 _ _)) (xn (uZ rfl (ty2 T) (aK (z6 (Λ:=j4) (G:=GL) (n:=b) rfl (bV hb) (aK rfl (aK rfl (aK rfl rfl))) (bV hb) (h2 l r _ hp) (hf _ _)) rfl) (ap3 T _ (by omega))))))
 obtain⟨b5,b7,b8,e2⟩:=aa7 t hP [] [] a5 none none (by simp;omega);rw[gR,mL,Ej (okS _),nW]at e2;refine aW (st1:=S2 [f t]) (bO TY (bO (Mw (aK rfl rfl)) ?_)) rfl (lW (hf t st.length));have l1:(st++[MO.lst []]).length=st.length+1:=by simp
 have l2:(S (lX t) []).length=st.length+2:=by simp[S]
 rw[l1,gP];refine (jP e1).trans (bO TY ?_);rw[l2,show S (lX t) []++[.lst []]=S2 [] by simp[S,S2,O]];exact XF (NB rfl (eV (k:=0) rfl)) e2 (dM (aL rfl rfl (uh _ _ _ [f t] _ (by unfold aA;rw[eV (k:=2) rfl]) rfl)))
end Law
namespace M
namespace Tr
def Ac(o:Option (Tr×Nat))(p:Tr):Tr×Nat:=match o with | some x=>x | none=>(.jn tK p,1)
def jq(x:List Nat):Tr->Bool
 | .lf s=>decide (s=x)
 | .jn _ _=>false
def outF(x:List Nat):Tr->Option (Tr×Nat)
 | .lf s=>if s=x then some (tI,2) else none
 | .jn l r=>if (outF x l).isNone && (outF x r).isNone && val (.jn l r) then none
  else if (outF x l).isNone && jq x r then some (l,0)
  else some (.jn (.jn tS (Ac (outF x l) l).1) (Ac (outF x r) r).1,1+(Ac (outF x l) l).2+(Ac (outF x r) r).2)
def out(x:List Nat)(t:Tr):Tr×Nat:=Ac (outF x t) t
end Tr
open Tr
def oF:Option (Tr×Nat)->D
 | none=>.non
 | some (t,n)=>.tup [enc t,.int n]
def Ym(n:Nat)(o:Option (Tr×Nat)):under n (oF o):=by
 cases o with
 | none=>simp[oF]
 | some p=>simp[oF,iQ]
def encC(p:Tr×Nat):D:=.tup [enc p.1,.int p.2]
def zg7(o:Option (Tr×Nat))(st:ak):bI (oF o) .non st=.ok (.bl o.isNone) st:=by
 cases o with
 | none=>rfl
 | some p=>rfl
def De(x:List Nat)(t:Tr)(st:ak):fL 800 (enc t) (.str x) st=.ok (.bl (jq x t)) st:=by
 have:=My 799 t x st;cases t with
 | lf s=>exact this
 | jn l r=>exact this
end M
namespace Law
open L2 M Tr
def zlf(x s:List Nat)(st:ak):zct [.str x,.str s] st=.ok (oF (outF x (.lf s))) st:=by
 have hu:=Ym st.length (outF x (.lf s));unfold zct bB bw zgg;rw[outF]at hu ⊢;by_cases h:s=x
 ·rw[aeQ h]at hu ⊢;subst h;exact aW (rA (oU (cZ (aL rfl rfl Ko)) (dM (yG (aK rfl (aK rfl rfl)))))) rfl (dz hu)
 ·rw[aeS h]at hu ⊢;exact aW (jZ (cZ (aL rfl rfl (by rw[eq_str,aeT h]))) (dM rfl)) rfl (dz hu)
def zd9(o:Option (Tr×Nat))(p:Tr)(st:ak):Yq [oF o,enc p] st=.ok (encC (Ac o p)) st:=by
 unfold Yq bB bw zfh;cases o with
 | none=>exact aW (rA (oU (cZ (aL rfl rfl rfl)) (dM (yG (aK (aY (zL tK p st) rfl) (aK rfl rfl)))))) rfl (dz (Ym st.length (some (.jn tK p,1))))
 | some q=>exact aW (jZ (cZ (aL rfl rfl rfl)) (dM rfl)) rfl (dz (Ym st.length (some q)))
def zkv(x:List Nat)(l r:Tr)(st:ak):zci [.str x,enc (.jn l r),oF (outF x l),oF (outF x r)] st=.ok (oF (outF x (.jn l r))) st:=by
 have hu:=Ym st.length (outF x (.jn l r));unfold zci bB bw zfg;have t1:t6 (eY (aD bI (vr 2) (ct .non))) (t6 (eY (aD bI (vr 3) (ct .non))) (jU (az Ul [] (aj (vr 1) au)))) (startM 6 [.str x,enc (.jn l r),oF (outF x l),oF (outF x r)]) st=.ok ((outF x l).isNone && (outF x r).isNone && val (.jn l r)) st:=by
  rw[Bool.and_assoc];exact Z7 (cZ (aL rfl rfl (zg7 _ _))) (Z7 (cZ (aL rfl rfl (zg7 _ _))) (jT (aY (ze9 _ _) rfl) rfl))
 have t2:t6 (eY (aD bI (vr 2) (ct .non))) (eY (aD (M.fL 800) (aD aZ (vr 1) (ct (.int 1))) (vr 0))) (startM 6 [.str x,enc (.jn l r),oF (outF x l),oF (outF x r)]) st=.ok ((outF x l).isNone && jq x r) st:=Z7 (cZ (aL rfl rfl (zg7 _ _))) (cZ (aL (aL rfl rfl (zJ _ _ _)) rfl (De _ _ _)));rw[outF]at hu ⊢;by_cases c1:((outF x l).isNone && (outF x r).isNone && val (.jn l r))=true
 ·rw[aeQ c1]at hu ⊢;rw[c1]at t1;exact aW (rA (oU t1 (dM rfl))) rfl (dz hu)
 ·rw[aeS c1]at hu ⊢;rw[Bool.not_eq_true]at c1;rw[c1]at t1;by_cases c2:((outF x l).isNone && jq x r)=true
  ·rw[aeQ c2]at hu ⊢;rw[c2]at t2;exact aW (jZ t1 (rA (oU t2 (dM (yG (aK (aL rfl rfl (Fz _ _ _)) (aK rfl rfl))))))) rfl (dz hu)
  ·rw[aeS c2]at hu ⊢;rw[Bool.not_eq_true]at c2;rw[c2]at t2;exact aW (jZ t1 (jZ t2 (bO (aY (zd9 (outF x l) l st) (aK rfl (aK (aL rfl rfl (Fz _ _ _)) rfl))) (bO (aY (zd9 (outF x r) r st) (aK rfl (aK (aL rfl rfl (zJ _ _ _)) rfl))) (dM (yG (aK (aY (zL (.jn tS (Ac (outF x l) l).1) (Ac (outF x r) r).1 st) (aK (aY (zL tS (Ac (outF x l) l).1 st) (aK rfl (aK (aL rfl rfl q9) rfl))) (aK (aL rfl rfl q9) rfl))) (aK (aL (aL rfl (aL rfl rfl q9) (add_int rfl)) (aL rfl rfl q9) (add_int (by simp))) rfl)))))))) rfl (dz hu)
def zfo(x:List Nat)(t:Tr)(st:ak)(ht:st[1]? = some (.tab "out_and_cost"))(hc:bJ st)(hl:lv t<=400000):Yu [.str x,enc t] st=.ok (encC (out x t)) st:=by
 have f1:Lz [enc t,.loc st.length,.loc (st.length+1)] (st++[.clo 2 (j4 2) [.str x],.clo 3 (j4 3) [.str x]])=.ok (oF (outF x t)) (st++[.clo 2 (j4 2) [.str x],.clo 3 (j4 3) [.str x]]):=by
  refine zoz (λu=>oF (outF x u)) (λ_=>True) st.length (st.length+1) 2 3 [.str x] [.str x] t _ (by simp) (by simp) hl (λu n=>Ym n _) trivial (λ_ _ _=>⟨trivial,trivial⟩) ?_ ?_
  ·intro s g _;have h:=zlf x s (cj (st++[.clo 2 (j4 2) [.str x],.clo 3 (j4 3) [.str x]]++g));generalize cj (st++[.clo 2 (j4 2) [.str x],.clo 3 (j4 3) [.str x]]++g)=Z at *;rw[show enc (.lf s)=.str s from rfl];simp[GL,uI,e_2,h]
  ·intro l r g _;have h:=zkv x l r (cj (st++[.clo 2 (j4 2) [.str x],.clo 3 (j4 3) [.str x]]++g));generalize cj (st++[.clo 2 (j4 2) [.str x],.clo 3 (j4 3) [.str x]]++g)=Z at *;generalize enc (.jn l r)=J at *;simp[GL,uI,e_3,h]
 have o1:=zd9 (outF x t) t st;have hu:under st.length (encC (out x t)):=by simp[encC,iQ]
 have c1:=zsh (Λ:=j4) (F:=Lz) (dd:=[]) (m:=oO (vr 1) (lZ 2 [0] 1 "out_and_cost" (lZ 3 [0] 1 "out_and_cost" wG))) (env:=[some (.str x),some (enc t),none]) (st:=st) (st1:=st) (st2:=st) (as:=[.v (enc t),.l 2 [0],.l 3 [0]]) (ds:=[enc t,.loc st.length,.loc (st.length+1)]) (os:=[.clo 2 (j4 2) [.str x],.clo 3 (j4 3) [.str x]]) (d:=oF (outF x t))
  (by simp[oO,lZ,wG,ht]) hc (by simp[jG,yd]) (by rw[gR,f1];exact lW (Ym _ _)) hc
 exact aW (bO c1 (dM (aY o1 rfl))) rfl (dz hu)
def znr(x:List Nat)(t:Tr)(st:ak)(ht:st[1]? = some (.tab "out_and_cost"))(hc:bJ st)(hl:lv t<=400000):zdf [.str x,enc t] st=.ok (enc (out x t).1) st :=
 Zx (aL (aY (zfo x t st ht hc hl) rfl) rfl q9) (iQ st.length _)
end Law
set_option maxHeartbeats 0
namespace M
namespace Tr
def stands(x:List Nat):Tr->Bool
 | .lf s=>decide (s=x)
 | .jn l r=>stands x l || stands x r
def zpm{x:List Nat}{t:Tr}(h:jq x t=true):stands x t=true:=by
 cases t with
 | lf s=>exact h
 | jn l r=>cases h
def zrc{x:List Nat}{t:Tr}:jq x t=true↔t=.lf x:=by
 cases t with
 | lf s=>simp[jq]
 | jn l r=>simp[jq]
theorem Ub(x:List Nat):∀t,(outF x t).isNone=(val t && !stands x t)
 | .lf s=>by
  rw[outF,stands,show val (.lf s)=true from rfl];by_cases h:s=x
  ·rw[aeQ h];simp[h]
  ·rw[aeS h];simp[h]
 | .jn l r=>by
  have h1:=Ub x l;have h2:=Ub x r;rw[outF,stands];by_cases c:((outF x l).isNone && (outF x r).isNone && val (.jn l r))=true
  ·rw[aeQ c];simp only[gM]at c;rw[h1,h2]at c;simp only[gM,Bool.not_eq_true']at c;rw[c.2,c.1.1.2,c.1.2.2];rfl
  ·rw[aeS c];have e:(if ((outF x l).isNone && jq x r)=true then some (l,0) else some (.jn (.jn tS (Ac (outF x l) l).1) (Ac (outF x r) r).1,1+(Ac (outF x l) l).2+(Ac (outF x r) r).2)).isNone=false:=by split<;>rfl
   rw[e]
   symm
   rw[Bool.and_eq_false_iff];by_cases hv:val (.jn l r)=true
   ·right;obtain⟨v1,v2⟩:=zkm hv;rw[h1,h2,hv,v1,v2]at c;cases s1:stands x l<;>cases s2:stands x r<;>rw[s1,s2]at c<;>first | rfl | exact absurd rfl c
   ·left;simpa using hv
def ztm(x:List Nat){t:Tr}(h:jq x t=true):out x t=(tI,2):=by
 rw[zrc]at h;subst h;rw[out,outF,aeQ rfl];rfl
def zf7(x:List Nat){t:Tr}(h:(val t && !stands x t)=true):out x t=(.jn tK t,1):=by
 rw[<-Ub]at h;rw[out,Option.isNone_iff_eq_none.mp h];rfl
def zkd(x:List Nat){l r:Tr}(h:(val l && !stands x l)=true)(hr:jq x r=true):out x (.jn l r)=(l,0):=by
 rw[<-Ub]at h;have h2:(outF x r).isNone=false:=by
  rw[Ub,zpm hr];simp
 rw[out,outF,h,h2,hr];rfl
def zm3(x:List Nat){l r:Tr}(h1:(val (.jn l r) && !stands x (.jn l r))=false)(h2:((val l && !stands x l) && jq x r)=false):out x (.jn l r)=(.jn (.jn tS (out x l).1) (out x r).1,1+(out x l).2+(out x r).2):=by
 have e1:((outF x l).isNone && (outF x r).isNone && val (.jn l r))=false:=by
  rw[<-Ub]at h1;cases c:((outF x l).isNone && (outF x r).isNone && val (.jn l r)) with
  | false=>rfl
  | true =>
   rw[outF,aeQ c]at h1;cases h1
 rw[<-Ub]at h2;rw[out,outF,aeS (by rw[e1];simp),aeS (by rw[h2];simp)]
 rfl
theorem Rt(x:List Nat):∀t,val (out x t).1=true
 | .lf s=>by
  by_cases h:jq x (.lf s)=true
  ·rw[ztm x h];rfl
  ·have:stands x (.lf s)=false:=(show jq x (.lf s)=false by simpa using h);rw[zf7 x (by rw[this];rfl)];rfl
 | .jn l r=>by
  by_cases h1:(val (.jn l r) && !stands x (.jn l r))=true
  ·rw[zf7 x h1,uo];simp only[gM]at h1;exact h1.1
  ·by_cases h2:((val l && !stands x l) && jq x r)=true
   ·have h2':=h2;simp only[gM]at h2;rw[zkd x (by simp only[gM];exact h2.1) h2.2];exact h2.1.1
   ·rw[zm3 x (by simpa using h1) (by simpa using h2),wg,Rt x l,Rt x r];rfl
end Tr
end M
namespace M
namespace Tr
theorem zoa:∀m,outF [120] (dN m (.lf [120]))=some (sr m,pkC m)
 | 0=>by rw[dN,outF,aeQ rfl];rfl
 | 1=>by rw[dN,dN,outF,outF,outF,aeQ rfl,aeS (by decide)];rfl
 | m+2=>by
  have ih:=zoa (m+1);rw[dN,outF,ih];have h0:outF [120] tK=none:=by rw[outF,aeS (by decide)]
  have h1:jq [120] (dN (m+1) (.lf [120]))=false:=rfl;rw[h0,h1];simp[Ac,sr,pkC]
def HF(m:Nat):out [120] (dN m (.lf [120]))=(sr m,pkC m):=by unfold out;rw[zoa];rfl
theorem zrz(v:Tr):∀n,lv (dN n v)=lv v+n
 | 0=>rfl
 | n+1=>by rw[dN,lv,zrz v n,show lv tK=1 from rfl];omega
end Tr
end M
namespace Law
open L2 M Tr
def zig(n:Nat)(v:Tr)(st:ak)(hn:n<=1000000):RK [.int n,enc v] st=.ok (enc (dN n v)) st:=by
 unfold RK bB bw zjn;generalize hB:(aG 2 (az uY [] _):MS)=B;obtain⟨bW,st',h1,a3,rfl,rfl⟩:=uc (g:=aM 3) (b:=B) (gs:=[]) (items:=jE 0 n)
  (λi env s=>∃(a3:Option D),env=[some (.int n),some (enc v),some (enc (dN i v)),a3]/\s=st)
  (env:=[some (.int n),some (enc v),some (enc v),none]) (st:=st) ⟨none,rfl,rfl⟩ (by
   rintro i d env s hi ⟨a3,rfl,rfl⟩;obtain⟨hi',rfl⟩:=Yd hi;have j1:uY [.str [75],enc (dN i v)] s=.ok (enc (dN (i+1) v)) s:=zL tK _ s;refine⟨by simp,_,_,rfl,[some (.int n),some (enc v),some (enc (dN (i+1) v)),some (.int (0+(i:Int)))],s,.inl ?_,_,rfl,rfl⟩;rw[<-hB];generalize enc (dN (i+1) v)=W at *;generalize enc (dN i v)=W1 at *;generalize enc v=V at *;simp[j1]) (λ_ _ _=>by simp)
 rw[T5]at h1;have hu:=iQ st'.length (dN n v);have hr1:-4611686018427387904<=(n:Int):=by omega
 have hr2:(n:Int)<4611686018427387904:=by omega
 rw[show startM 4 [D.int n,enc v]=[some (.int n),some (enc v),none,none] from rfl];generalize enc (dN n v)=W at *;generalize enc v=V at *;simp[hr1,hr2,h1];exact dz hu
def ZP(k many:Nat)(st:ak)(ht:st[1]? = some (.tab "out_and_cost"))(hc:bJ st)(hk:k<many)(hm:many<=300000):Lx [.int k,.int many] st=.ok (enc (bM k many)) st:=by
 have u1:RK [.int ((many - 1 - k:Nat):Int),.str [120]] st=.ok (enc (dN (many - 1 - k) (.lf [120]))) st:=zig (many - 1 - k) (.lf [120]) st (by omega);have t1:=znr [120] (dN (many - 1 - k) (.lf [120])) st ht hc (by rw[zrz,show lv (.lf [120])=1 from rfl];omega);rw[HF]at t1;have u2:=zig k (sr (many - 1 - k)) st (by omega);have hu:=iQ st.length (bM k many);have e1:(many:Int) - 1 - (k:Int)=((many - 1 - k:Nat):Int):=by omega
 unfold Lx bB bw zrf;unfold bM at hu ⊢;generalize many - 1 - k=m at *;generalize enc (dN k (sr m))=W at *;generalize enc (dN m (.lf [120]))=W1 at *;generalize enc (sr m)=W2 at *;simp[startM,e1,u1,t1,u2];exact dz hu
end Law
namespace M
namespace Tr
def ad4:enc tI=.tup [.tup [.str [83],.str [75],.int 2,.bl true],.str [75],.int 3,.bl true]:=by rfl
def iU:List Tr->Tr
 | []=>tK
 | t::ts=>.jn tK (hold [t,iU ts])
theorem zn6:∀{ts:List Tr},(∀t∈ts,val t=true)->val (iU ts)=true
 | [],_=>rfl
 | t::ts,h=>by
  have ih:=zn6 (ts:=ts) λx hx=>h x (by simp[hx]);rw[iU,uo];exact Mz (by simp[h t (by simp),ih])
end Tr
end M
namespace Law
open L2 M Tr
def Pz(t:Tr)(st:ak)(h:val t=true):zj8 [enc t] st=.ok (enc (.jn tK t)) st:=by
 have h1:=ze9 t st;have h2:uY [.str [75],enc t] st=.ok (enc (.jn tK t)) st:=zL tK t st;have hu:=iQ st.length (.jn tK t);rw[h]at h1;unfold zj8 bB bw zru;generalize enc (.jn tK t)=W at *;simp[startM,h1,h2,dz,hu,iZ]
def zoc(ts:List Tr)(n:Nat)(st:ak)(h:st[n]? = some (.lst (ts.map enc)))(hv:∀t∈ts,val t=true):LC [.loc n] st=.ok (enc (hold ts)) st:=by
 unfold LC bB bw zmi;rw[<-ad4];generalize hB:(aG 1 (az uY [] _):MS)=B;obtain⟨bW,st',h1,a2,rfl,rfl⟩:=uc (g:=aM 2) (b:=B) (gs:=[(n,.lst (ts.map enc))]) (items:=ts.map enc)
  (λi env s=>∃(a2:Option D),env=[some (.loc n),some (enc (hold (ts.take i))),a2]/\s=st)
  (env:=[some (.loc n),some (enc tI),none]) (st:=st) ⟨none,rfl,rfl⟩ (by
   rintro i d env s hi ⟨a2,rfl,rfl⟩;obtain⟨t,ht,rfl⟩:=Gj hi;have e:=zh7 (ts.take i) t;have e2:ts.take (i+1)=ts.take i++[t]:=by rw[mH,ht];rfl
   have j1:uY [.str [83],enc (hold (ts.take i))] s=.ok (enc (.jn tS (hold (ts.take i)))) s:=zL tS _ s;have j2:=zL (.jn tS (hold (ts.take i))) (.jn tK t) s;have k1:=Pz t s (hv t (gU ht));refine⟨by simp[h],_,_,rfl,[some (.loc n),some (enc (hold (ts.take (i+1)))),some (enc t)],s,.inl ?_,_,rfl,rfl⟩;rw[<-hB,e2,e];generalize enc (.jn (.jn tS (hold (ts.take i))) (.jn tK t))=W at *;generalize enc (.jn tS (hold (ts.take i)))=W1 at *;generalize enc (.jn tK t)=W2 at *;simp[j1,j2,k1]) (λ_ _ zz=>by obtain⟨_,_,q⟩:=zz;subst q;simp[h])
 rw[gm,k_]at h1;have hu:=iQ st'.length (hold ts);rw[show startM 3 [D.loc n]=[some (.loc n),none,none] from rfl];generalize enc tI=W at *;simp[h,h1,dz,hu]
def qJ(ts:List Tr)(ds:List D)(e:ds=ts.map enc)(st:ak)(hv:∀t∈ts,val t=true):LC [.loc st.length] (st++[.lst ds])=.ok (enc (hold ts)) (st++[.lst ds]):=by
 subst e;exact zoc ts st.length _ (by simp) hv
def zqw(a b c:Tr)(st:ak)(ha:val a=true)(hb:val b=true)(hc:val c=true):Yg [enc a,enc b,enc c] st=.ok (enc (hold [a,b,c])) st:=by
 have h1:=qJ [a,b,c] [enc a,enc b,enc c] rfl st (by simp[ha,hb,hc]);have hu:=iQ st.length (hold [a,b,c]);unfold Yg bB bw zsy;generalize enc (hold [a,b,c])=W at *;simp[startM,h1];exact lW hu
def zn3(a b c d:Tr)(st:ak)(ha:val a=true)(hb:val b=true)(hc:val c=true)(hd:val d=true):zej [enc a,enc b,enc c,enc d] st=.ok (enc (hold [a,b,c,d])) st:=by
 have h1:=qJ [a,b,c,d] [enc a,enc b,enc c,enc d] rfl st (by simp[ha,hb,hc,hd]);have hu:=iQ st.length (hold [a,b,c,d]);unfold zej bB bw zmc;generalize enc (hold [a,b,c,d])=W at *;simp[startM,h1];exact lW hu
def zh8(a b:Tr)(st:ak)(ha:val a=true)(hb:val b=true):Ui [enc a,enc b] st=.ok (enc (.jn tK (hold [a,b]))) st:=by
 have h1:=qJ [a,b] [enc a,enc b] rfl st (by simp[ha,hb]);have h2:∀s,RK [.int 1,enc (hold [a,b])] s=.ok (enc (.jn tK (hold [a,b]))) s:=λs=>zig 1 (hold [a,b]) s (by decide);have hu:=iQ st.length (.jn tK (hold [a,b]));unfold Ui bB bw zhb;generalize enc (.jn tK (hold [a,b]))=W at *;generalize enc (hold [a,b])=W1 at *;simp[startM,h1,h2];exact lW hu
def zre{α:Type}{l:List α}{i:Nat}{x:α}(h:l.reverse[i]? = some x):i<l.length/\l.drop (l.length - (i+1))=x::l.drop (l.length - i):=by
 have hi:i<l.length:=by have:=(gh.mp h).1;simpa using this
 refine⟨hi,?_⟩;rw[nT hi]at h;have hl:l.length - (i+1)<l.length:=by omega
 rw[nq hl,show l.length - (i+1)+1=l.length - i by omega];have e:l.length - 1 - i=l.length - (i+1):=by omega
 rw[e,gF hl]at h;cases h;rfl
def zqm(ts:List Tr)(n:Nat)(st:ak)(h:st[n]? = some (.lst (ts.map enc)))(hv:∀t∈ts,val t=true):Yo [.loc n] st=.ok (enc (iU ts)) st:=by
 unfold Yo bB bw zjx;generalize hB:(aG 1 (az Ui [] _):MS)=B;have hS:(.str [75]:D)=enc tK:=rfl;obtain⟨bW,st',h1,a2,rfl,rfl⟩:=uc (g:=aM 2) (b:=B) (gs:=[(n,.lst (ts.map enc))]) (items:=(ts.map enc).reverse)
  (λi env s=>∃(a2:Option D),env=[some (.loc n),some (enc (iU (ts.drop (ts.length - i)))),a2]/\s=st)
  (env:=[some (.loc n),some (.str [75]),none]) (st:=st) ⟨none,by simp[iU,hS],rfl⟩ (by
   rintro i d env s hi ⟨a2,rfl,rfl⟩;rw[<-nW]at hi;obtain⟨t,ht,rfl⟩:=Gj hi;obtain⟨hl,e⟩:=zre ht;have hm:t∈ts:=by have:=gU ht;simpa using this
   have hd:∀x∈ts.drop (ts.length - i),val x=true:=λx hx=>hv x (n8 hx);have k1:=zh8 t (iU (ts.drop (ts.length - i))) s (hv t hm) (zn6 hd);refine⟨by simp[h],_,_,rfl,[some (.loc n),some (enc (iU (ts.drop (ts.length - (i+1))))),some (enc t)],s,.inl ?_,_,rfl,rfl⟩;rw[<-hB,e,iU];generalize enc (.jn tK (hold [t,iU (ts.drop (ts.length - i))]))=W at *;generalize enc (iU (ts.drop (ts.length - i)))=W1 at *;simp[k1]) (λ_ _ zz=>by obtain⟨_,_,q⟩:=zz;subst q;simp[h])
 rw[mC,gm,Nat.sub_self,pB]at h1;have hu:=iQ st'.length (iU ts);have lg:qF st' n=some (ts.map enc,.lst (ts.map enc)):=by simp[qF,h]
 rw[show startM 3 [D.loc n]=[some (.loc n),none,none] from rfl];generalize ts.map enc=X at *;simp[lg,h1,dz,hu]
end Law
set_option maxHeartbeats 0
namespace M
namespace Tr
def sb(f:List Nat->Option Tr):Tr->Tr
 | .lf s=>(f s).getD (.lf s)
 | .jn l r=>.jn (sb f l) (sb f r)
structure Sub(f:List Nat->Option Tr):Prop where
 v:∀s t,f s=some t->val t=true
 S:f [83]=none
 K:f [75]=none
def xH{f:List Nat->Option Tr}{s:List Nat}(h:f s=none):sb f (.lf s)=.lf s:=by rw[sb,h];rfl
def acM{f:List Nat->Option Tr}(h:Sub f):sb f tS=tS:=xH h.S
def acN{f:List Nat->Option Tr}(h:Sub f):sb f tK=tK:=xH h.K
theorem Rq{f:List Nat->Option Tr}(h:Sub f):∀{t:Tr},val t=true->val (sb f t)=true
 | .lf s,_=>by
  rw[sb];cases e:f s with
  | none=>rfl
  | some t=>exact h.v s t e
 | .jn l r,hv=>by
  obtain⟨v1,v2⟩:=zkm hv;have i2:=Rq h v2;cases l with
  | lf s =>
   rw[Uc,gM,nY]at hv;have hs:s=[83]\/s=[75]:=hv.2.imp (λe=>eq_of_beq e) (λe=>eq_of_beq e);rcases hs with rfl | rfl
   ·rw[sb,xH h.S,Gu];exact i2
   ·rw[sb,xH h.K,uo];exact i2
  | jn a b =>
   rw[T8,gM,gM]at hv;obtain⟨_,hj,_⟩:=hv;cases a with
   | jn c d=>simp[tV]at hj
   | lf s =>
    have hs:s=[83]:=by simpa[tV] using hj
    subst hs;have i1:=Rq h v1;have e1:sb f (.jn (.lf [83]) b)=.jn tS (sb f b):=by rw[sb,xH h.S]
    rw[e1,Gu]at i1;rw[sb,e1,wg,i2,i1];rfl
end Tr
end M
namespace M
open Tr
def aX(σ:List (List Nat×Tr)):List (L2.Key×D):=σ.map λp=>(.inr (strOf p.1),enc p.2)
def look(σ:List (List Nat×Tr))(s:List Nat):Option Tr:=(σ.find? λp=>decide (p.1=s)).map (·.2)
def RG{a b:List Nat}:(strOf a=strOf b)↔a=b:=by
 constructor
 ·intro h;injection h with h;simpa using congrArg Array.toList h
 ·intro h;rw[h]
def zh4(p:List Nat×Tr)(r:List (List Nat×Tr))(s:List Nat):look (p::r) s=if p.1=s then some p.2 else look r s:=by
 unfold look;rw[mD];by_cases h:p.1=s<;>simp[h]
theorem zkf(s:List Nat):∀σ:List (List Nat×Tr),valN (aX σ) (.inr (strOf s))=(look σ s).map enc
 | []=>rfl
 | p::r=>by
  rw[show aX (p::r)=(.inr (strOf p.1),enc p.2)::aX r from rfl,Yh,zh4,zkf s r];by_cases h:p.1=s
  ·rw[aeQ (by rw[h]),aeQ h];rfl
  ·rw[aeS (λz=>h (RG.mp (afm z))),aeS h]
def xO(s:List Nat):keyOf (.str s)=some (.inr (strOf s)):=rfl
end M
namespace Law
open L2 M Tr
def Qy(σ:List (List Nat×Tr))(n:Nat)(s:List Nat)(st:ak)(h:st[n]? = some (.dkc (aX σ))):xW (.loc n) [.str s,.str s] st=.ok (enc (sb (look σ) (.lf s))) st:=by
 unfold xW;simp only[h,xO,zkf];rw[sb];cases look σ s<;>rfl
def zh5(σ:List (List Nat×Tr))(t:Tr)(n:Nat)(st:ak)(h:st[n]? = some (.dkc (aX σ)))(ht:st[2]? = some (.tab "put_in"))(hc:bJ st)(hl:lv t<=400000):FW [enc t,.loc n] st=.ok (enc (sb (look σ) t)) st:=by
 let os:ak:=[.clo 0 (j4 0) [.loc n],.clo 1 (j4 1) []]
 have f1:Lz [enc t,.loc st.length,.loc (st.length+1)] (st++os)=.ok (enc (sb (look σ) t)) (st++os):=by
  refine zoz (λu=>enc (sb (look σ) u)) (λ_=>True) st.length (st.length+1) 0 1 [.loc n] [] t _ (by simp[os]) (by simp[os]) hl (λu n=>iQ n _) trivial (λ_ _ _=>⟨trivial,trivial⟩) ?_ ?_
  ·intro s g _;have hh:(cj (st++os++g))[n]? = some (.dkc (aX σ)):=J4 (bV (bV h)) rfl;have hg:=Qy σ n s _ hh;have it:dw "dict" (.loc n) (cj (st++os++g))=true:=by unfold dw;simp only[hh];rfl
   generalize cj (st++os++g)=Z at *;rw[show enc (.lf s)=.str s from rfl];generalize enc (sb (look σ) (.lf s))=W at *;simp[GL,uI,e_0,it,hg]
  ·intro l r g _;have j1:=zL (sb (look σ) l) (sb (look σ) r) (cj (st++os++g));rw[show sb (look σ) (.jn l r)=.jn (sb (look σ) l) (sb (look σ) r) from rfl];generalize cj (st++os++g)=Z at *;generalize enc (.jn (sb (look σ) l) (sb (look σ) r))=W at *;generalize enc (.jn l r)=J at *;generalize enc (sb (look σ) l)=L at *;generalize enc (sb (look σ) r)=R' at *;simp[GL,uI,e_1,j1]
 have hu:=iQ st.length (sb (look σ) t);have c1:=zsh (Λ:=j4) (F:=Lz) (dd:=[]) (m:=oO (vr 0) (lZ 0 [1] 2 "put_in" (lZ 1 [] 2 "put_in" wG))) (env:=[some (enc t),some (.loc n)]) (st:=st) (st1:=st) (st2:=st) (as:=[.v (enc t),.l 0 [1],.l 1 []]) (ds:=[enc t,.loc st.length,.loc (st.length+1)]) (os:=os) (d:=enc (sb (look σ) t))
  (by simp[oO,lZ,wG,ht]) hc (by simp[jG,yd,os]) (by rw[gR,f1];exact lW hu) hc
 unfold FW bB bw zez;rw[show startM 2 [enc t,D.loc n]=[some (enc t),some (.loc n)] from rfl];generalize lJ j4 Lz [] (oO (vr 0) (lZ 0 [1] 2 "put_in" (lZ 1 [] 2 "put_in" wG)))=CL at c1 ⊢;generalize enc (sb (look σ) t)=W at *;generalize enc t=X at *;simp[c1];exact dz hu
end Law
namespace M
namespace Tr
def cT(t:Tr):List (List Nat)->Tr
 | []=>t
 | x::xs=>(out x (cT t xs)).1
def iK(t:Tr):List (List Nat)->List Nat
 | []=>[]
 | x::xs=>(out x (cT t xs)).2::iK t xs
theorem Ak(t:Tr):∀xs:List (List Nat),(iK t xs).length=xs.length
 | []=>rfl
 | x::xs=>by rw[iK,gr,Ak t xs,gr]
structure Puts(xs:List (List Nat))(vs:List Tr):Prop where
 len:vs.length=xs.length
 nd:xs.Nodup
 v:∀v∈vs,val v=true
 S:[83]∉xs
 K:[75]∉xs
def zoi{σ:List (List Nat×Tr)}{s:List Nat}(h:∀p∈σ,p.1≠s):look σ s=none:=by
 induction σ with
 | nil=>rfl
 | cons p r ih=>rw[zh4,aeS (h p (by simp)),ih λq hq=>h q (by simp[hq])]
def zj4{σ:List (List Nat×Tr)}{s:List Nat}{v:Tr}(h:look σ s=some v):(s,v)∈σ:=by
 induction σ with
 | nil=>cases h
 | cons p r ih =>
  rw[zh4]at h
  split at h
  ·rename_i e;cases h;obtain⟨a,b⟩:=p;cases e;simp
  ·exact kI _ (ih h)
section
variable  {xs:List (List Nat)}{vs:List Tr}
def Puts.next(h:Puts xs vs){j:Nat}{x:List Nat}{v:Tr}(hx:xs[j]? = some x)(hv:vs[j]? = some v):(xs.zip vs).take (j+1)=(xs.zip vs).take j++[(x,v)]/\∀p∈(xs.zip vs).take j,p.1≠x:=by
 have hz:(xs.zip vs)[j]? = some (x,v):=by rw[pK];exact⟨hx,hv⟩
 refine⟨by rw[mH,hz];rfl,λp hp e=>?_⟩;obtain⟨i,hi,q⟩:=mW.mp hp;rw[kj]at hi;have q2:(xs.zip vs)[i]? = some p:=by rw[pC]at q;rw[<-q];exact gF (by omega)
 obtain⟨a,b⟩:=p;rw[pK]at q2;have WT:xs[i]? = xs[j]?:=by rw[q2.1,hx];exact congrArg some e
 have yz:=(gh.mp q2.1).1;have:=(nH yz h.nd).mp WT;omega
end
end Tr
end M
set_option maxHeartbeats 0
namespace M
namespace Tr
def M8(ρ:List Nat->Option Tr)(x:List Nat)(v:Tr):List Nat->Option Tr:=λs=>if s=x then some v else ρ s
def Gh(x:List Nat):Prop:=x≠[83]/\x≠[75]
def Sub.upd{ρ:List Nat->Option Tr}(h:Sub ρ){x:List Nat}{v:Tr}(hx:Gh x)(hv:val v=true):Sub (M8 ρ x v):=by
 refine⟨λs t e=>?_,?_,?_⟩
 ·unfold M8 at e
  split at e
  ·cases e;exact hv
  ·exact h.v s t e
 ·unfold M8;rw[aeS (ae1 hx.1)];exact h.S
 ·unfold M8;rw[aeS (ae1 hx.2)];exact h.K
end Tr
end M
namespace M
namespace Tr
abbrev jN:List (List Nat):=[[108],[115],[114],[102]]
abbrev dZ:List (List Nat):=[[110],[102],[108],[114]]
abbrev iW:List (List Nat):=[[121],[120]]
abbrev oR:List (List Nat):=[[97],[116],[121],[120]]
abbrev xj:List (List Nat):=[[102],[118]]
def dn(c:Nat):List Nat:=if c=95 then [100] else [100,c]
def cU(ls:List Nat):Tr:=apps (.lf [115]) ((ls.map λc=>.lf (dn c))++dZ.map .lf)
def jw:Tr:=hold [.lf [110],.lf [108],.lf [119],.lf [114]]
def du(m:Bool):Tr:=apps (.lf (if m then [108] else [114])) [.lf [98,97,114,101],.lf [102,117,108,108],.jn (.jn (.lf [103]) (.lf [102])) (.lf [102]),.lf (if m then [114] else [108])]
def eG:Tr:=.jn tK (hold [.lf [119],.lf [120]])
def b_(m:Bool):Tr:=.jn (.lf [121]) (if m then hold [.lf [116],.lf [97],eG] else hold [eG,.lf [97],.lf [116]])
def iG:Tr:=apps (.lf [118]) [.lf [101],.lf [102]]
theorem G4{f:List Nat->Option Tr}(h:Sub f):∀{t:Tr},sk t->sb f t=t
 | .lf s,hs=>by
  rcases (show s=[83]\/s=[75] from hs) with rfl | rfl
  ·exact acM h
  ·exact acN h
 | .jn l r,hs=>by rw[sb,G4 h hs.1,G4 h hs.2]
def qT(f g:List Nat->Option Tr):List Nat->Option Tr:=λs=>match f s with | some v=>some v | none=>g s
theorem G5{f g:List Nat->Option Tr}(hg:Sub g)(hf:∀s v,f s=some v->sk v):∀t:Tr,sb g (sb f t)=sb (qT f g) t
 | .lf s=>by
  unfold qT;rw[sb,sb];cases e:f s with
  | none=>rfl
  | some v=>exact G4 hg (hf s v e)
 | .jn l r=>by rw[sb,sb,sb,G5 hg hf l,G5 hg hf r]
def Sub.qT{f g:List Nat->Option Tr}(hf:Sub f)(hg:Sub g):Sub (Tr.qT f g):=by
 refine⟨λs t e=>?_,?_,?_⟩
 ·unfold Tr.qT at e;cases q:f s with
  | none=>rw[q]at e;exact hg.v s t e
  | some v=>rw[q]at e;cases e;exact hf.v s _ q
 ·unfold Tr.qT;rw[hf.S];exact hg.S
 ·unfold Tr.qT;rw[hf.K];exact hg.K
def Rz{σ:List (List Nat×Tr)}(h:∀p∈σ,Gh p.1/\val p.2=true):Sub (look σ):=by
 refine⟨λs t e=>(h _ (zj4 e)).2,?_,?_⟩
 ·exact zoi λp hp=>(h p hp).1.1
 ·exact zoi λp hp=>(h p hp).1.2
def Ny(ls:List Nat)(num:Tr)(jx:Nat->Tr):Tr:=sb (look (([110],num)::ls.map λc=>(dn c,jx c))) (cT (cU ls) jN)
def jM(w:Tr):Tr:=sb (look [([119],w)]) (cT jw dZ)
def lK(m:Bool)(bl w:Tr):Tr:=sb (look [([119],w)]) (sb (look [([97],bl),([116],tK)]) (cT (b_ m) iW))
def qO(m:Bool)(w:Tr):Tr:=sb (look [([119],w)]) (cT (b_ m) oR)
def xM(m:Bool)(bl w way:Tr):Tr:=sb (look [([98,97,114,101],lK m bl w),([102,117,108,108],qO m w),([103],way)]) (cT (du m) dZ)
def pR(row:Tr):Tr:=sb (look [([101],row)]) (cT iG xj)
def d7:Nat->List Tr->Tr
 | 0,_=>tK
 | n+1,es=>if es.length=1 then es.headD tK else hold [d7 n (es.take (es.length / 2)),d7 n (es.drop (es.length / 2))]
def dD:Nat->Nat->Nat->List Nat
 | 0,_,_=>[]
 | n+1,k,left=>if left<=1 then [] else if k<left / 2 then 0::dD n k (left / 2) else 1::dD n (k - left / 2) (left - left / 2)
def oV(ts:List Nat):Tr:=hold (ts.map λt=>bM t 2)
theorem ZV:∀(n:Nat) (es:List Tr),(∀e∈es,val e=true)->val (d7 n es)=true
 | 0,_,_=>rfl
 | n+1,es,h=>by
  rw[d7]
  split
  ·rename_i h1;obtain⟨e,rfl⟩:=mO.mp h1;exact h e (by simp)
  ·refine Mz λt ht=>?_;simp only[gf,g_,ae3]at ht;rcases ht with rfl | rfl
   ·exact ZV n _ λe he=>h e (nZ he)
   ·exact ZV n _ λe he=>h e (n8 he)
def zqs{row:Tr}(h:val row=true):val (pR row)=true:=by
 unfold pR;exact Rq (Rz (by simp[Gh,h])) (Rt _ _)
end Tr
end M
namespace M
namespace Tr
def vW(m:Bool):Nat:=(iK (du m) dZ).sum+1
def Tq(m:Bool):Nat:=(iK (b_ m) iW).sum
def J_(m:Bool):Nat:=6+(iK (b_ m) oR).sum
def Lb(bl w:Tr):List Nat->Option Tr:=qT (look [([97],bl),([116],tK)]) (look [([119],w)])
def K_{m:Bool}{bl w:Tr}(vw:val w=true)(sb_:sk bl):lK m bl w=sb (Lb bl w) (cT (b_ m) iW):=by
 unfold lK Lb;refine G5 (Rz (by simp[Gh,vw])) (λs v e=>?_) _;have:=zj4 e;simp only[gf,g_,ae3,Prod.mk.injEq]at this;rcases this with⟨_,rfl⟩ | ⟨_,rfl⟩
 ·exact sb_
 ·exact .inr rfl
def K9{bl w:Tr}(vb:val bl=true)(vw:val w=true):Sub (Lb bl w) :=
 (Rz (σ:=[([97],bl),([116],tK)]) (by simp[Gh,vb];rfl)).qT (Rz (σ:=[([119],w)]) (by simp[Gh,vw]))
def Cm{m:Bool}{bl w:Tr}(vb:val bl=true)(vw:val w=true)(s:sk bl):val (lK m bl w)=true:=by
 rw[K_ vw s];exact Rq (K9 vb vw) (Rt _ _)
def Ci{m:Bool}{w:Tr}(vw:val w=true):val (qO m w)=true:=Rq (Rz (by simp[Gh,vw])) (Rt _ _)
section
variable  {m:Bool}{bl w way num T S O st:Tr}{cw:Nat}
def IK(vb:val bl=true)(vw:val w=true)(sb_:sk bl)(vg:val way=true):Sub (look [([98,97,114,101],lK m bl w),([102,117,108,108],qO m w),([103],way)]) :=
 Rz (by simp[Gh,Cm vb vw sb_,Ci vw,vg])
end
end Tr
end M
set_option maxHeartbeats 0
namespace M
namespace Tr
structure Ru where
 s:Nat
 x:Nat
 w:Nat
 m:Bool
 g:Nat
structure Bk where
 ls:List Nat
 ss:List Nat
 rs:List Ru
def Xd(B:Bk)(s x:Nat):Option Ru:=B.rs.find? λr=>decide (r.s=s) && decide (r.x=x)
def bR(l:List Nat)(c:Nat):Nat:=l.findIdx λz=>decide (z=c)
def cN(B:Bk)(c:Nat):Tr:=bM (bR B.ls c) B.ls.length
def ue(B:Bk)(s:Nat):Tr:=bM (bR B.ss s) B.ss.length
def oZ(B:Bk)(s:Nat):List Nat:=dD 13 (bR B.ss s) B.ss.length
def cW(B:Bk)(s c:Nat):Tr:=match Xd B s c with
 | none=>jM (cN B c)
 | some r=>xM r.m (cN B 95) (cN B r.w) (oV (oZ B r.g))
def fW(B:Bk)(s:Nat):Tr:=Ny B.ls (ue B s) (cW B s)
def rO(B:Bk):Tr:=d7 13 ((B.ss.map (fW B)).map pR)
def cz(B:Bk)(s:Nat):Tr:=hold [fW B s,rO B]
def jV:List Tr->Tr
 | []=>tK
 | t::ts=>.jn tK (hold [t,jV ts])
def dO(B:Bk)(cs:List Nat):Tr:=jV (cs.map (cN B))
structure Sd where
 s:Nat
 a:List Nat
 c:Nat
 b:List Nat
def vL(B:Bk)(z:Sd):Tr:=.jn (cz B z.s) (hold [dO B z.a,cN B z.c,dO B z.b])
def oE(B:Bk)(z:Sd):Tr:=hold [ue B z.s,dO B z.a,cN B z.c,dO B z.b]
def goS(r:Ru)(z:Sd):Sd:=if r.m=true then ⟨r.g,z.a.tail,z.a.headD 95,r.w::z.b⟩ else ⟨r.g,r.w::z.a,z.b.headD 95,z.b.tail⟩
def Nz(ls:List Nat):Nat:=6+8+(iK (cU ls) jN).sum
structure Rm(B:Bk):Prop where
 nl:B.ls.Nodup
 ns:B.ss.Nodup
 bl:95∈B.ls
 z:0∉B.ls
 many:B.ss.length<=4096
 ru:∀r∈B.rs,r.g∈B.ss/\r.w∈B.ls
def Gm{l:List Nat}{c:Nat}(h:c∈l):l[bR l c]? = some c:=by
 have hl:bR l c<l.length:=List.findIdx_lt_length_of_exists ⟨c,h,by simp⟩;have:=List.findIdx_getElem (p:=λz=>decide (z=c)) (xs:=l) (w:=hl);rw[gF hl];exact congrArg some (aeZ this)
theorem GQ:∀m,sk (sr m)
 | 0=>⟨⟨.inl rfl,.inr rfl⟩,.inr rfl⟩
 | 1=>.inr rfl
 | m+2=>⟨⟨.inl rfl,.inr rfl,.inr rfl⟩,GQ (m+1)⟩
theorem zY{v:Tr}(h:sk v):∀n,sk (dN n v)
 | 0=>h
 | n+1=>⟨.inr rfl,zY h n⟩
def GR(k m:Nat):sk (bM k m):=zY (GQ _) _
theorem zO:∀{ts:List Tr},(∀t∈ts,val t=true)->val (jV ts)=true
 | [],_=>rfl
 | t::ts,h=>by
  have ih:=zO (ts:=ts) λx hx=>h x (by simp[hx]);rw[jV,uo];exact Mz (by simp[h t (by simp),ih])
section
variable  {B:Bk}
def FQ(c:Nat):val (cN B c)=true:=T9 _ _
def FN(cs:List Nat):val (dO B cs)=true:=zO λt ht=>by
 obtain⟨c,_,rfl⟩:=gj.mp ht;exact FQ c
def Gr(ts:List Nat):val (oV ts)=true:=Mz λt ht=>by
 obtain⟨c,_,rfl⟩:=gj.mp ht;exact T9 _ _
def Cj(s c:Nat):val (cW B s c)=true:=by
 unfold cW
 split
 ·exact Rq (Rz (by simp[Gh,FQ])) (Rt _ _)
 ·exact Rq (IK (FQ _) (FQ _) (GR _ _) (Gr _)) (Rt _ _)
def Nv(s:Nat):Sub (look (([110],ue B s)::B.ls.map λc=>(dn c,cW B s c))):=by
 refine Rz λp hp=>?_;rcases gf.mp hp with rfl | hp
 ·exact⟨by simp[Gh],T9 _ _⟩
 ·obtain⟨c,_,rfl⟩:=gj.mp hp;refine⟨?_,Cj _ _⟩;show Gh (dn c);unfold dn
  split<;>simp[Gh]
def znv(s:Nat):val (fW B s)=true:=Rq (Nv s) (Rt _ _)
def zq4:val (rO B)=true:=ZV 13 _ λe he=>by
 obtain⟨r,hr,rfl⟩:=gj.mp he;obtain⟨s,_,rfl⟩:=gj.mp hr;exact zqs (znv s)
def zM(s:Nat):val (cz B s)=true:=Mz (by simp[znv,zq4])
def Wx(z:Sd):val (vL B z)=false:=by
 show val (.jn (.jn (.jn tS _) _) _)=false;exact zP _ _ _
end
end Tr
end M
namespace M
namespace Tr
def uE(ns:List (List Nat)):Tr:=apps (.lf [115]) (ns.map .lf++dZ.map .lf)
def Nx(ls:List Nat):cU ls=uE (ls.map dn):=by unfold cU uE;rw[gG];rfl
def Xi(c:Nat):∃t,dn c=100::t:=by unfold dn;split<;>exact⟨_,rfl⟩
def acP:∀(ns:List (List Nat)),(∀n∈ns,∃t,n=100::t)->ns.length<=9->(iK (uE ns) jN).sum=46+6*ns.length/\dp (cT (uE ns) jN)=19+3*ns.length/\lv (cT (uE ns) jN)=48+7*ns.length:=by
 intro ns h hl;have un:∀(k:Nat) (l:List (List Nat)),(∀n∈l,∃t,n=100::t)->l.length=k->∃ts:List (List Nat),ts.length=k/\l=ts.map (100 :: ·):=by
  intro k
  induction k with
  | zero=>intro l _ e;exact⟨[],rfl,List.length_eq_zero_iff.mp e⟩
  | succ k ih =>
   intro l h e;cases l with
   | nil=>cases e
   | cons a l =>
    obtain⟨t,rfl⟩:=h a (by simp);obtain⟨ts,h1,h2⟩:=ih l (λn hn=>h n (by simp[hn])) (by simpa using e);exact⟨t::ts,by simp[h1],by simp[h2]⟩
 obtain⟨ts,h1,h2⟩:=un ns.length ns h rfl;rw[h2,gm];rw[<-h1]at hl;clear h h1 h2 un
 match ts,hl with
 | [],_=>exact⟨by kernel_rfl,by kernel_rfl,by kernel_rfl⟩
 | [_],_=>exact⟨by kernel_rfl,by kernel_rfl,by kernel_rfl⟩
 | [_,_],_=>exact⟨by kernel_rfl,by kernel_rfl,by kernel_rfl⟩
 | [_,_,_],_=>exact⟨by kernel_rfl,by kernel_rfl,by kernel_rfl⟩
 | [_,_,_,_],_=>exact⟨by kernel_rfl,by kernel_rfl,by kernel_rfl⟩
 | [_,_,_,_,_],_=>exact⟨by kernel_rfl,by kernel_rfl,by kernel_rfl⟩
 | [_,_,_,_,_,_],_=>exact⟨by kernel_rfl,by kernel_rfl,by kernel_rfl⟩
 | [_,_,_,_,_,_,_],_=>exact⟨by kernel_rfl,by kernel_rfl,by kernel_rfl⟩
 | [_,_,_,_,_,_,_,_],_=>exact⟨by kernel_rfl,by kernel_rfl,by kernel_rfl⟩
 | [_,_,_,_,_,_,_,_,_],_=>exact⟨by kernel_rfl,by kernel_rfl,by kernel_rfl⟩
 | _::_::_::_::_::_::_::_::_::_::_,h=>simp at h
def aaz(ls:List Nat)(h:ls.length<=9):(iK (cU ls) jN).sum=46+6*ls.length/\dp (cT (cU ls) jN)=19+3*ls.length/\lv (cT (cU ls) jN)=48+7*ls.length:=by
 have:=acP (ls.map dn) (λn hn=>by
  obtain⟨c,_,rfl⟩:=gj.mp hn;exact Xi c) (by simpa using h)
 rw[<-Nx,gm]at this;exact this
theorem zj2:∀(n k left:Nat),(dD n k left).length<=n/\∀t∈dD n k left,t<=1
 | 0,_,_=>⟨gb _,by simp[dD]⟩
 | n+1,k,left=>by
  rw[dD]
  split
  ·simp
  ·split
   ·obtain⟨h1,h2⟩:=zj2 n k (left / 2);exact⟨by simp;exact h1,λt ht=>(gf.mp ht).elim (λe=>by omega) (h2 t)⟩
   ·obtain⟨h1,h2⟩:=zj2 n (k - left / 2) (left - left / 2);exact⟨by simp;exact h1,λt ht=>(gf.mp ht).elim (λe=>by omega) (h2 t)⟩
def FP{l:List Nat}{c:Nat}(h:c∈l):bR l c<l.length:=List.findIdx_lt_length_of_exists ⟨c,h,by simp⟩
def TJ(ts:List Tr)(b:Nat)(h:∀t∈ts,dp t<=b):dp (hold ts)<=2*ts.length+b+2:=by
 have key:∀(ts:List Tr) (w:Tr) (c:Nat),(∀t∈ts,dp t<=b)->dp w<=c->b+2<=c->dp (ts.foldl (λw t=>.jn (.jn tS w) (.jn tK t)) w)<=2*ts.length+c:=by
  intro ts
  induction ts with
  | nil=>intro w c _ hw _;simpa using hw
  | cons t ts ih =>
   intro w c h hw hc;have ht:=h t (by simp);have e:dp (.jn (.jn tS w) (.jn tK t))<=c+2:=by
    have a0:dp tS=0:=rfl;have a1:dp tK=0:=rfl;simp only[dp,a0,a1];omega
   have:=ih (.jn (.jn tS w) (.jn tK t)) (c+2) (λx hx=>h x (by simp[hx])) e (by omega);simp only[List.foldl_cons,gr];omega
 have e:dp tI=2:=rfl;have:=key ts tI (b+2) h (by rw[e];omega) (gb _);unfold hold;omega
theorem zr8:∀(n:Nat) (es:List Tr) (b:Nat),(∀e∈es,dp e<=b)->dp (d7 n es)<=6*n+b
 | 0,_,b,_=>by
  have:dp tK=0:=rfl;rw[d7,this];omega
 | n+1,es,b,h=>by
  rw[d7]
  split
  ·rename_i h1;obtain⟨e,rfl⟩:=mO.mp h1;have:=h e (by simp);simp;omega
  ·have:=TJ [d7 n (es.take (es.length / 2)),d7 n (es.drop (es.length / 2))] (6*n+b) (λt ht=>by
    simp only[gf,g_,ae3]at ht;rcases ht with rfl | rfl
    ·exact zr8 n _ b λe he=>h e (nZ he)
    ·exact zr8 n _ b λe he=>h e (n8 he))
   simp only[gr,mV]at this;omega
def Zg{l r:Tr}{n:Nat}(h:dp l<=n)(k:dp r<=n):dp (.jn l r)<=n+1:=by rw[dp];omega
theorem Ku(b:Nat):∀(ts:List Tr),(∀t∈ts,dp t<=b)->dp (jV ts)<=3*ts.length+b+5
 | [],_=>by
  have:dp tK=0:=rfl;rw[jV,this];omega
 | t::ts,h=>by
  have ih:=Ku b ts λx hx=>h x (by simp[hx]);have ht:=h t (by simp);have a0:dp tS=0:=rfl;have a1:dp tK=0:=rfl;have a2:dp tI=2:=rfl;have e:dp (jV (t::ts))=dp (.jn tK (.jn (.jn tS (.jn (.jn tS tI) (.jn tK t))) (.jn tK (jV ts)))):=rfl;have a3:dp (.jn tS tI)=3:=rfl;rw[e,gr,show 3*(ts.length+1)+b+5=3*ts.length+b+7+1 by omega];exact Zg (by omega) (Zg (n:=3*ts.length+b+6) (Zg (n:=3*ts.length+b+5) (by omega) (Zg (n:=3*ts.length+b+4) (by omega) (Zg (n:=3*ts.length+b+3) (by omega) (by omega)))) (Zg (by omega) ih))
def Rx{σ:List (List Nat×Tr)}{b:Nat}(h:∀p∈σ,dp p.2<=b):∀s v,look σ s=some v->dp v<=b:=λs v e=>h _ (zj4 e)
theorem Lp{f:List Nat->Option Tr}{b:Nat}(h:∀s v,f s=some v->dp v<=b):∀t,dp (sb f t)<=dp t+b
 | .lf s=>by
  rw[sb];cases e:f s with
  | none=>exact kO _
  | some v=>have:=h s v e;show dp v<=_;omega
 | .jn l r=>by
  have:=Lp h l;have:=Lp h r;rw[sb,dp,dp];omega
section
variable  {B:Bk}
def XD(hl:B.ls.length<=9){c:Nat}(h:c∈B.ls):dp (cN B c)<=11:=by
 have h1:=zo6 (sr (B.ls.length - 1 - bR B.ls c)) (bR B.ls c);have h2:=wQ (B.ls.length - 1 - bR B.ls c);have h3:=FP h;unfold cN bM;omega
def Kv(h:Rm B)(hl:B.ls.length<=9)(s:Nat){c:Nat}(hc:c∈B.ls):dp (cW B s c)<=75:=by
 unfold cW;cases hf:Xd B s c with
 | none =>
  dsimp only;have:=Lp (f:=look [([119],cN B c)]) (b:=11) (Rx (by simp[XD hl hc])) (cT jw dZ);have e:dp (cT jw dZ)=22:=by kernel_rfl
  unfold jM;omega
 | some r =>
  dsimp only;have hr:=h.ru r (List.mem_of_find?_eq_some hf);have w1:=XD hl hr.2;have w2:=XD hl h.bl;have a0:dp tK=0:=rfl;have b1:dp (lK r.m (cN B 95) (cN B r.w))<=52:=by
   have q1:=Lp (f:=look [([97],cN B 95),([116],tK)]) (b:=11) (Rx (by simp[w2,a0])) (cT (b_ r.m) iW);have q2:=Lp (f:=look [([119],cN B r.w)]) (b:=11) (Rx (by simp[w1])) (sb (look [([97],cN B 95),([116],tK)]) (cT (b_ r.m) iW));have e:dp (cT (b_ r.m) iW)<=30:=by cases r.m<;>decide +kernel
   unfold lK;omega
  have b2:dp (qO r.m (cN B r.w))<=52:=by
   have q2:=Lp (f:=look [([119],cN B r.w)]) (b:=11) (Rx (by simp[w1])) (cT (b_ r.m) oR);have e:dp (cT (b_ r.m) oR)<=30:=by cases r.m<;>decide +kernel
   unfold qO;omega
  have b3:dp (oV (oZ B r.g))<=32:=by
   obtain⟨t1,t2⟩:=zj2 13 (bR B.ss r.g) B.ss.length;have:=TJ ((oZ B r.g).map λt=>bM t 2) 4 (λt ht=>by
    obtain⟨k,hk,rfl⟩:=gj.mp ht;have:=t2 k hk;rcases (by omega:k=0\/k=1) with rfl | rfl<;>decide)
   rw[gm]at this;unfold oV;have t1':(oZ B r.g).length<=13:=t1;omega
  have q:=Lp (f:=look [([98,97,114,101],lK r.m (cN B 95) (cN B r.w)),([102,117,108,108],qO r.m (cN B r.w)),([103],oV (oZ B r.g))]) (b:=52) (Rx (by simp;omega)) (cT (du r.m) dZ);have e:dp (cT (du r.m) dZ)<=18:=by cases r.m<;>decide +kernel
  unfold xM;omega
def Ks{s:Nat}(h:s∈B.ss):dp (ue B s)<=B.ss.length+2:=by
 have h1:=zo6 (sr (B.ss.length - 1 - bR B.ss s)) (bR B.ss s);have h2:=wQ (B.ss.length - 1 - bR B.ss s);have h3:=FP h;unfold ue bM;omega
def zo7(h:Rm B)(hl:B.ls.length<=9){s:Nat}(hs:s∈B.ss):dp (fW B s)<=B.ss.length+121:=by
 have q:=Lp (f:=look (([110],ue B s)::B.ls.map λc=>(dn c,cW B s c))) (b:=B.ss.length+75) (Rx λp hp=>by
  rcases gf.mp hp with rfl | hp
  ·have:=Ks hs;show dp (ue B s)<=_;omega
  ·obtain⟨c,hc,rfl⟩:=gj.mp hp;have:=Kv h hl s hc;show dp (cW B s c)<=_;omega) (cT (cU B.ls) jN)
 have e:=(aaz B.ls hl).2.1;unfold fW Ny;omega
def QH(h:Rm B)(hl:B.ls.length<=9):dp (rO B)<=B.ss.length+207:=by
 have:=zr8 13 ((B.ss.map (fW B)).map pR) (B.ss.length+129) (λe he=>by
  obtain⟨r,hr,rfl⟩:=gj.mp he;obtain⟨s,hs,rfl⟩:=gj.mp hr;have q:=Lp (f:=look [([101],fW B s)]) (b:=B.ss.length+121) (Rx (by simp[zo7 h hl hs])) (cT iG xj);have e:dp (cT iG xj)=8:=by kernel_rfl
  unfold pR;omega)
 unfold rO;omega
def XC(h:Rm B)(hl:B.ls.length<=9){s:Nat}(hs:s∈B.ss):dp (cz B s)<=B.ss.length+213:=by
 have:=TJ [fW B s,rO B] (B.ss.length+207) (λt ht=>by
  simp only[gf,g_,ae3]at ht;rcases ht with rfl | rfl
  ·have:=zo7 h hl hs;omega
  ·exact QH h hl)
 simp only[gr,mV]at this;unfold cz;omega
def wO(hl:B.ls.length<=9){cs:List Nat}(hc:∀c∈cs,c∈B.ls):dp (dO B cs)<=3*cs.length+16:=by
 have:=Ku 11 (cs.map (cN B)) (λt ht=>by
  obtain⟨c,h,rfl⟩:=gj.mp ht;exact XD hl (hc c h))
 rw[gm]at this;unfold dO;omega
structure vU(B:Bk)(z:Sd):Prop where
 s:z.s∈B.ss
 c:z.c∈B.ls
 a:∀c∈z.a,c∈B.ls
 b:∀c∈z.b,c∈B.ls
def Td(h:Rm B)(hl:B.ls.length<=9){z:Sd}(hz:vU B z)(b:Nat)(ha:z.a.length<=b)(hb:z.b.length<=b):dp (hold [dO B z.a,cN B z.c,dO B z.b])<=3*b+24:=by
 have:=TJ [dO B z.a,cN B z.c,dO B z.b] (3*b+16) (λt ht=>by
  simp only[gf,g_,ae3]at ht;rcases ht with rfl | rfl | rfl
  ·have:=wO hl hz.a;omega
  ·have:=XD hl hz.c;omega
  ·have:=wO hl hz.b;omega)
 simp only[gr,mV]at this;omega
def Bl(h:Rm B)(hl:B.ls.length<=9){z:Sd}(hz:vU B z)(b:Nat)(ha:z.a.length<=b)(hb:z.b.length<=b):dp (vL B z)<=B.ss.length+3*b+214:=by
 have h1:=Td h hl hz b ha hb;have h2:=XC h hl hz.s;show dp (.jn (cz B z.s) (hold [dO B z.a,cN B z.c,dO B z.b]))<=_;rw[dp];omega
def Bo(h:Rm B)(hl:B.ls.length<=9){z:Sd}(hz:vU B z)(b:Nat)(ha:z.a.length<=b)(hb:z.b.length<=b):dp (oE B z)<=B.ss.length+3*b+30:=by
 have:=TJ [ue B z.s,dO B z.a,cN B z.c,dO B z.b] (B.ss.length+3*b+16) (λt ht=>by
  simp only[gf,g_,ae3]at ht;rcases ht with rfl | rfl | rfl | rfl
  ·have:=Ks hz.s;omega
  ·have:=wO hl hz.a;omega
  ·have:=XD hl hz.c;omega
  ·have:=wO hl hz.b;omega)
 simp only[gr,mV]at this;unfold oE;omega
def vU.go(h:Rm B){z:Sd}(hz:vU B z){r:Ru}(hr:r∈B.rs):vU B (goS r z):=by
 have hd:∀(l:List Nat),(∀c∈l,c∈B.ls)->l.headD 95∈B.ls:=λl hl=>by
  cases l with
  | nil=>exact h.bl
  | cons a l=>exact hl a (by simp)
 have hc:∀(l:List Nat),(∀c∈l,c∈B.ls)->∀c∈r.w::l,c∈B.ls:=λl hl c hx=>by
  rcases gf.mp hx with rfl | hx
  ·exact (h.ru r hr).2
  ·exact hl c hx
 unfold goS
 split
 ·exact⟨(h.ru r hr).1,hd _ hz.a,λc hx=>hz.a c (List.mem_of_mem_tail hx),hc _ hz.b⟩
 ·exact⟨(h.ru r hr).1,hd _ hz.b,hc _ hz.a,λc hx=>hz.b c (List.mem_of_mem_tail hx)⟩
end
end Tr
end M
set_option maxHeartbeats 0
namespace M
namespace Tr
theorem yW(x:List Nat):∀t,lv (out x t).1+1<=4*lv t
 | .lf s=>by
  by_cases h:jq x (.lf s)=true
  ·rw[ztm x h];show 3+1<=4*1;decide
  ·have e:stands x (.lf s)=false:=(show jq x (.lf s)=false by simpa using h);rw[zf7 x (by rw[e];rfl)];show 2+1<=4*1;decide
 | .jn l r=>by
  have i1:=yW x l;have i2:=yW x r;by_cases h1:(val (.jn l r) && !stands x (.jn l r))=true
  ·rw[zf7 x h1];have:=Z4 l;have:=Z4 r;simp only[lv];omega
  ·by_cases h2:((val l && !stands x l) && jq x r)=true
   ·simp only[gM]at h2;rw[zkd x (by simp only[gM];exact h2.1) h2.2];have:=Z4 r;have:=Z4 l;simp only[lv];omega
   ·rw[zm3 x (by simpa using h1) (by simpa using h2)];simp only[lv];omega
theorem wH(t:Tr):∀xs:List (List Nat),lv (cT t xs)<=4 ^ xs.length*lv t
 | []=>by simp[cT]
 | x::xs=>by
  have ih:=wH t xs;have:=yW x (cT t xs);rw[cT,gr,n_,Nat.mul_assoc,Nat.mul_comm 4,<-Nat.mul_assoc];omega
end Tr
end M
namespace Law
open L2 M Tr
def aP(cs:List Nat):List D:=cs.map λ(c:Nat)=>D.int (c:Int)
def An(xs:List (List Nat))(t:Tr)(st:ak)(ht:st[1]? = some (.tab "out_and_cost"))(hc:bJ st)(hl:xs.length<=4)(hv:lv t<=100) :
  za7 [.tup (xs.map D.str),enc t] st=.ok (.tup [enc (cT t xs),.loc st.length]) (st++[.lst (aP (iK t xs))]):=by
 unfold za7 bB bw zdk;generalize hB:(aC (aG 5 (az Yu [] _)) _:MS)=B;obtain⟨bW,st',h1,a4,a5,rfl,rfl⟩:=uc (g:=aM 4) (b:=B) (gs:=[]) (items:=(xs.map D.str).reverse)
  (λi env s=>∃(a4 a5:Option D),env=[some (.tup (xs.map D.str)),some (enc t),some (enc (cT t (xs.drop (xs.length - i)))),some (.loc st.length),a4,a5]/\s=st++[.lst (aP (iK t (xs.drop (xs.length - i))).reverse)])
  (env:=[some (.tup (xs.map D.str)),some (enc t),some (enc t),some (.loc st.length),none,none]) (st:=st++[.lst []]) ⟨none,none,by simp[cT],by simp[iK,aP]⟩ (by
   rintro i d env s hi ⟨a4,a5,rfl,rfl⟩;rw[<-nW]at hi;obtain⟨x,hx,rfl⟩:=Gj hi;obtain⟨yz,e⟩:=zre hx;generalize hys:xs.drop (xs.length - i)=ys at *;have hyl:ys.length<=4:=by rw[<-hys,kW];omega
   have hlv:lv (cT t ys)<=400000:=by
    have h1:=wH t ys;have h2:4 ^ ys.length<=4 ^ 4:=Nat.pow_le_pow_right (by decide) hyl;have h3:4 ^ ys.length*lv t<=4 ^ 4*100:=Nat.mul_le_mul h2 hv;omega
   have tW:(aP (iK t ys).reverse).length<1000000:=by simp[aP,Ak];omega
   let S1:ak:=st++[.lst (aP (iK t ys).reverse)]
   have o1:=zfo x (cT t ys) S1 (bV ht) (by simp[S1,hc]) hlv;have x0:aZ (encC (out x (cT t ys))) (.int 0) S1=.ok (enc (out x (cT t ys)).1) S1:=by rw[encC];exact yH S1 0 _ _ rfl
   have x1:aZ (encC (out x (cT t ys))) (.int 1) S1=.ok (.int ((out x (cT t ys)).2:Nat)) S1:=by rw[encC];exact yH S1 1 _ _ rfl
   have ap:a_ (.loc st.length) [.int ((out x (cT t ys)).2:Nat)] S1=.ok .non (st++[.lst (aP (iK t (x::ys)).reverse)]):=by
    have e3:aP (iK t (x::ys)).reverse=aP (iK t ys).reverse++[.int ((out x (cT t ys)).2:Nat)]:=by simp[aP,iK]
    rw[e3];show a_ (.loc st.length) [_] (st++[.lst (aP (iK t ys).reverse)])=_;generalize aP (iK t ys).reverse=Y at tW ⊢;simp[a_,tW]
   have it:dw "list" (.loc st.length) S1=true:=by simp[dw,S1]
   refine⟨by simp,_,_,rfl,[some (.tup (xs.map D.str)),some (enc t),some (enc (cT t (xs.drop (xs.length - (i+1))))),some (.loc st.length),some (.str x),some (encC (out x (cT t ys)))],st++[.lst (aP (iK t (xs.drop (xs.length - (i+1)))).reverse)],.inl ?_,_,_,rfl,rfl⟩;rw[<-hB,e,show cT t (x::ys)=(out x (cT t ys)).1 from rfl];show _=R.ok _ (st++[.lst (aP (iK t (x::ys)).reverse)]);change (aC _ _:MS) [some (.tup (xs.map D.str)),some (enc t),some (enc (cT t ys)),some (.loc st.length),some (.str x),a5] S1=_;generalize (st++[.lst (aP (iK t (x::ys)).reverse)]:ak)=S2 at *;generalize S1=Z1 at *;generalize encC (out x (cT t ys))=W1 at *;generalize enc (out x (cT t ys)).1=W2 at *;generalize enc (cT t ys)=W3 at *;generalize (((out x (cT t ys)).2:Nat):Int)=c1 at *;simp[o1,x0,x1,it,ap]) (λ_ _ _=>by simp)
 rw[mC,gm,Nat.sub_self,pB]at h1;have rv:dF (.loc st.length) [] (st++[.lst (aP (iK t xs).reverse)])=.ok .non (st++[.lst (aP (iK t xs))]):=by
  have e:(aP (iK t xs).reverse).reverse=aP (iK t xs):=by simp[aP]
  rw[<-e];generalize aP (iK t xs).reverse=Y;simp[dF]
 have it:dw "list" (.loc st.length) (st++[.lst (aP (iK t xs).reverse)])=true:=by simp[dw]
 have l0:∀env,cV au env st=.ok (.loc st.length) (st++[.lst []]):=λenv=>by simp
 have fin:gc st (.ok (.tup [enc (cT t xs),.loc st.length]) (st++[.lst (aP (iK t xs))]))=.ok (.tup [enc (cT t xs),.loc st.length]) (st++[.lst (aP (iK t xs))]):=by
  unfold gc;dsimp only;rw[aeS];rintro ⟨_,h⟩;simp at h
 rw[show startM 6 [D.tup (xs.map D.str),enc t]=[some (.tup (xs.map D.str)),some (enc t),none,none,none,none] from rfl];generalize hZ2:(st++[.lst (aP (iK t xs))]:ak)=Z2 at *;generalize hZ1:(st++[.lst (aP (iK t xs).reverse)]:ak)=Z1 at *;generalize hZ0:(st++[.lst []]:ak)=Z0 at *;generalize hL:cV au=L at *;generalize enc (cT t xs)=W at *;generalize enc t=T at *;generalize xs.map D.str=X at *;simp[l0,h1,it,rv];exact fin
def Yl(xs:List (List Nat))(t:Tr)(st:ak)(ht:st[1]? = some (.tab "out_and_cost"))(hc:bJ st)(hl:xs.length<=4)(hv:lv t<=100) :
  M3 [.tup (xs.map D.str),enc t] st=.ok (enc (cT t xs)) st:=by
 have m:=An xs t st ht hc hl hv;have x0:∀s,aZ (.tup [enc (cT t xs),.loc st.length]) (.int 0) s=.ok (enc (cT t xs)) s:=λs=>yH s 0 _ _ rfl;have hu:=iQ st.length (cT t xs);unfold M3 bB bw zju;generalize enc (cT t xs)=W at *;generalize enc t=T at *;simp[startM,m,x0];exact lW hu
def zl6(xs:List (List Nat))(t:Tr)(st:ak)(ht:st[1]? = some (.tab "out_and_cost"))(hc:bJ st)(hl:xs.length<=4)(hv:lv t<=100) :
  RL [.tup (xs.map D.str),enc t] st=.ok (.loc st.length) (st++[.lst (aP (iK t xs))]):=by
 have m:=An xs t st ht hc hl hv;have x0:∀s,aZ (.tup [enc (cT t xs),.loc st.length]) (.int 1) s=.ok (.loc st.length) s:=λs=>yH s 1 _ _ rfl;have hu:bU st.length (aP (iK t xs)):=by
  unfold aP;generalize iK t xs=cs
  induction cs with
  | nil=>simp
  | cons c cs ih=>simp[ih]
 unfold RL bB bw zgr;generalize enc (cT t xs)=W at *;generalize aP (iK t xs)=Y at *;generalize enc t=T at *;simp[startM,m,x0];exact Mv hu
def zhw(t:Tr)(ts:List Tr)(n:Nat)(st:ak)(h:st[n]? = some (.lst (ts.map enc))):LK [enc t,.loc n] st=.ok (enc (apps t ts)) st:=by
 unfold LK bB bw zl9;generalize hB:(aG 2 (az uY [] _):MS)=B;obtain⟨bW,st',h1,a3,rfl,rfl⟩:=uc (g:=aM 3) (b:=B) (gs:=[(n,.lst (ts.map enc))]) (items:=ts.map enc)
  (λi env s=>∃(a3:Option D),env=[some (enc t),some (.loc n),some (enc (apps t (ts.take i))),a3]/\s=st)
  (env:=[some (enc t),some (.loc n),some (enc t),none]) (st:=st) ⟨none,rfl,rfl⟩ (by
   rintro i d env s hi ⟨a3,rfl,rfl⟩;obtain⟨x,hx,rfl⟩:=Gj hi;have e:=zf3 t (ts.take i) x;have e2:ts.take (i+1)=ts.take i++[x]:=by rw[mH,hx];rfl
   have j1:=zL (apps t (ts.take i)) x s;refine⟨by simp[h],_,_,rfl,[some (enc t),some (.loc n),some (enc (apps t (ts.take (i+1)))),some (enc x)],s,.inl ?_,_,rfl,rfl⟩;rw[<-hB,e2,e];generalize enc (.jn (apps t (ts.take i)) x)=W at *;generalize enc (apps t (ts.take i))=W1 at *;simp[j1]) (λ_ _ zz=>by obtain⟨_,_,q⟩:=zz;subst q;simp[h])
 rw[gm,k_]at h1;have hu:=iQ st'.length (apps t ts);rw[show startM 4 [enc t,D.loc n]=[some (enc t),some (.loc n),none,none] from rfl];generalize enc (apps t ts)=W at *;generalize enc t=X at *;simp[h,h1];exact dz hu
end Law
set_option maxHeartbeats 0
namespace Law
open L2 M Tr
structure Bs(st:ak):Prop where
 t1:st[1]? = some (.tab "out_and_cost")
 t2:st[2]? = some (.tab "put_in")
 c:bJ st
def Bs.app{st:ak}(h:Bs st){g:ak}(hg:bJ g):Bs (st++g):=⟨bV h.t1,bV h.t2,by simp[h.c,hg]⟩
def zea(n:Nat)(st:ak)(h:n<=1000):Yp [.int n] st=.ok (.int ((2+2*n:Nat):Int)) st:=by
 have m2:lC (.int 2) (.int n) st=.ok (.int (2*(n:Int))) st:=T6 st 2 n (by omega);unfold Yp bB bw zfl;simp[startM,m2,bj,dz]
def zpz(st:ak):zd2 [] st=.ok (enc jw) st:=by
 have e:=zn3 (.lf [110]) (.lf [108]) (.lf [119]) (.lf [114]) st rfl rfl rfl rfl;have hu:=iQ st.length jw;unfold zd2 bB bw zi7;rw[show enc (.lf [110])=.str [110] from rfl,show enc (.lf [108])=.str [108] from rfl,show enc (.lf [119])=.str [119] from rfl,show enc (.lf [114])=.str [114] from rfl]at e;change _=R.ok (enc jw) st at e;generalize enc jw=W at *;simp[startM,e,dz hu]
theorem zfc:∀cs:List Nat,intsOf (aP cs)=some (cs.map λ(c:Nat)=>(c:Int))
 | []=>rfl
 | c::cs=>by
  show intsOf (.int (c:Int)::aP cs)=_;rw[intsOf,zfc cs];rfl
theorem zqo:∀cs:List Nat,(cs.map λ(c:Nat)=>(c:Int)).sum=(cs.sum:Int)
 | []=>rfl
 | c::cs=>by
  rw[gw,List.sum_cons,zqo cs,List.sum_cons];omega
def sum_ints(cs:List Nat)(n:Nat)(st:ak)(h:st[n]? = some (.lst (aP cs))):xG [.loc n] st=.ok (.int cs.sum) st:=by
 have e:aA st n=some (aP cs):=by unfold aA;rw[h]
 show GJ [.loc n] st=_;unfold GJ;dsimp only;rw[e,mR,zfc];dsimp only;rw[zqo]
def zj3(xs:List (List Nat))(t:Tr)(st:ak)(h:Bs st)(hl:xs.length<=4)(hv:lv t<=100) :
  RL [.tup (xs.map D.str),enc t] st=.ok (.loc st.length) (st++[.lst (aP (iK t xs))])/\xG [.loc st.length] (st++[.lst (aP (iK t xs))])=.ok (.int ((iK t xs).sum:Nat)) (st++[.lst (aP (iK t xs))]) :=
 ⟨zl6 xs t st h.t1 h.c hl hv,sum_ints _ _ _ (by simp)⟩
def wB(σ:List (List Nat×Tr))(t:Tr)(st:ak)(h:Bs st)(hl:lv t<=400000):FW [enc t,.loc st.length] (st++[.dkc (aX σ)])=.ok (enc (sb (look σ) t)) (st++[.dkc (aX σ)]) :=
 zh5 σ t st.length (st++[.dkc (aX σ)]) (by simp) (bV h.t2) (by simp[h.c]) hl
def Bp(x:List Nat)(e:ME)(v:Tr)(env:aJ)(st:ak)(h:∀s,e env (st++s)=.ok (enc v) (st++s)):fO (cO (ct (.str x)) e iz) env st=.ok (.loc st.length) (st++[.dkc (aX [(x,v)])]):=by
 have h0:=h [.dkc []];unfold fO;simp[h0,uJ,xO,jH,putN,aX]
def zp7(w:Tr)(st:ak)(h:Bs st):zc6 [enc w] st=.ok (enc (jM w)) st:=by
 have et:=zpz st;have mo:=Yl dZ jw st h.t1 h.c (by decide) (by decide);have pi:=wB [([119],w)] (cT jw dZ) st h (by have:=wH jw dZ;have e:lv jw=15:=rfl;simp at this;omega);have ds:=Bp [119] (vr 0) w [some (enc w)] st (λs=>by simp);change _=R.ok (enc (jM w)) _ at pi;have hu:=iQ st.length (jM w);simp only[gw,mQ]at mo;unfold zc6 bB bw zij;generalize fO (cO (ct (.str [119])) (vr 0) iz)=DE at *;generalize enc (jM w)=W1 at *;generalize enc w=W0 at *;generalize enc (cT jw dZ)=W2 at *;generalize enc jw=W3 at *;generalize aX _=KV at *;simp[startM,et,mo,ds,pi];exact lW hu
abbrev Ga(m:Bool):List Nat:=if m=true then [108] else [114]
def zi9(m:Bool)(st:ak):zcn [.str (Ga m)] st=.ok (enc (du m)) st:=by
 have j1:=λs=>zL (.lf [103]) (.lf [102]) s;have j2:=λs=>zL (.jn (.lf [103]) (.lf [102])) (.lf [102]) s;rw[show enc (.lf [103])=.str [103] from rfl,show enc (.lf [102])=.str [102] from rfl]at j1;rw[show enc (.lf [102])=.str [102] from rfl]at j2;have hu:=iQ st.length (du m);unfold zcn bB bw zhg;cases m with
 | true =>
  have hd:=zhw (.lf [108]) [.lf [98,97,114,101],.lf [102,117,108,108],.jn (.jn (.lf [103]) (.lf [102])) (.lf [102]),.lf [114]] st.length (st++[.lst [.str [98,97,114,101],.str [102,117,108,108],enc (.jn (.jn (.lf [103]) (.lf [102])) (.lf [102])),.str [114]]]) (by simp;exact⟨rfl,rfl,rfl⟩);change LK [.str [108],.loc st.length] _=R.ok (enc (du true)) _ at hd;generalize enc (du true)=W at *;generalize enc (.jn (.jn (.lf [103]) (.lf [102])) (.lf [102]))=W2 at *;generalize enc (.jn (.lf [103]) (.lf [102]))=W3 at *;have x0:∀s,aZ (.tup [.str [108],.str [114]]) (.int 0) s=.ok (.str [108]) s:=λs=>yH s 0 _ _ rfl;have x1:∀s,aZ (.tup [.str [108],.str [114]]) (.int 1) s=.ok (.str [114]) s:=λs=>yH s 1 _ _ rfl;simp[startM,x0,x1,j1,j2,hd];exact lW hu
 | false =>
  have hd:=zhw (.lf [114]) [.lf [98,97,114,101],.lf [102,117,108,108],.jn (.jn (.lf [103]) (.lf [102])) (.lf [102]),.lf [108]] st.length (st++[.lst [.str [98,97,114,101],.str [102,117,108,108],enc (.jn (.jn (.lf [103]) (.lf [102])) (.lf [102])),.str [108]]]) (by simp;exact⟨rfl,rfl,rfl⟩);change LK [.str [114],.loc st.length] _=R.ok (enc (du false)) _ at hd;generalize enc (du false)=W at *;generalize enc (.jn (.jn (.lf [103]) (.lf [102])) (.lf [102]))=W2 at *;generalize enc (.jn (.lf [103]) (.lf [102]))=W3 at *;have x0:∀s,aZ (.tup [.str [114],.str [108]]) (.int 0) s=.ok (.str [114]) s:=λs=>yH s 0 _ _ rfl;have x1:∀s,aZ (.tup [.str [114],.str [108]]) (.int 1) s=.ok (.str [108]) s:=λs=>yH s 1 _ _ rfl;simp[startM,x0,x1,j1,j2,hd];exact lW hu
def zk9(m:Bool)(st:ak):zcz [.str (Ga m)] st=.ok (enc (b_ m)) st:=by
 have lw:=zh8 (.lf [119]) (.lf [120]) st rfl rfl;change Ui [.str [119],.str [120]] st=R.ok (enc eG) st at lw;have vg:val eG=true:=rfl;have p1:=zqw (.lf [116]) (.lf [97]) eG st rfl rfl vg;have p2:=zqw eG (.lf [97]) (.lf [116]) st vg rfl rfl;rw[show enc (.lf [116])=.str [116] from rfl,show enc (.lf [97])=.str [97] from rfl]at p1 p2;have j1:=zL (.lf [121]) (hold [.lf [116],.lf [97],eG]) st;have j2:=zL (.lf [121]) (hold [eG,.lf [97],.lf [116]]) st;rw[show enc (.lf [121])=.str [121] from rfl]at j1 j2;have hu:=iQ st.length (b_ m);unfold zcz bB bw zgs;cases m with
 | true =>
  change _=R.ok (enc (b_ true)) st at j1;generalize enc (b_ true)=W at *;generalize enc (hold [.lf [116],.lf [97],eG])=W1 at *;generalize enc eG=W2 at *;simp[startM,lw,p1,j1,dz hu]
 | false =>
  change _=R.ok (enc (b_ false)) st at j2;generalize enc (b_ false)=W at *;generalize enc (hold [eG,.lf [97],.lf [116]])=W1 at *;generalize enc eG=W2 at *;simp[startM,lw,p2,j2,dz hu]
def zly(st:ak):zc0 [] st=.ok (enc iG) st:=by
 have hd:=zhw (.lf [118]) [.lf [101],.lf [102]] st.length (st++[.lst [.str [101],.str [102]]]) (by simp;exact⟨rfl,rfl⟩);change LK [.str [118],.loc st.length] _=R.ok (enc iG) _ at hd;have hu:=iQ st.length iG;unfold zc0 bB bw zge;generalize enc iG=W at *;simp[startM,hd];exact lW hu
def zp4(row:Tr)(st:ak)(h:Bs st):zdq [enc row] st=.ok (enc (pR row)) st:=by
 have et:=zly st;have mo:=Yl xj iG st h.t1 h.c (by decide) (by decide);have pi:=wB [([101],row)] (cT iG xj) st h (by have:=wH iG xj;have e:lv iG=3:=rfl;simp at this;omega);have ds:=Bp [101] (vr 0) row [some (enc row)] st (λs=>by simp);change _=R.ok (enc (pR row)) _ at pi;have hu:=iQ st.length (pR row);simp only[gw,mQ]at mo;unfold zdq bB bw ziz;generalize fO (cO (ct (.str [101])) (vr 0) iz)=DE at *;generalize enc (pR row)=W1 at *;generalize enc row=W0 at *;generalize enc (cT iG xj)=W2 at *;generalize enc iG=W3 at *;generalize aX _=KV at *;simp[startM,et,mo,ds,pi];exact lW hu
def zky(row tab:Tr)(st:ak)(h1:val row=true)(h2:val tab=true):zcg [enc row,enc tab] st=.ok (enc (hold [row,tab])) st:=by
 have hd:=qJ [row,tab] [enc row,enc tab] rfl st (by simp[h1,h2]);have hu:=iQ st.length (hold [row,tab]);unfold zcg bB bw zfn;generalize enc (hold [row,tab])=W at *;generalize enc row=W1 at *;generalize enc tab=W2 at *;simp[startM,hd];exact lW hu
def Let(c:Nat):Prop:=c=95\/97<=c/\c<=122
def Ft:∀c,97<=c->c<=122->rZ [c]=true:=by
 have key:∀k:Fin 26,rZ [97+k.val]=true:=by decide +kernel
 intro c h1 h2;have:=key ⟨c - 97,by omega⟩;rwa[show 97+(c - 97)=c by omega]at this
def zi8(c:Nat)(st:ak)(h:Let c):Yr [.str [c]] st=.ok (.str (dn c)) st:=by
 unfold Yr bB bw zhi;rcases h with rfl | ⟨h1,h2⟩
 ·have a:rZ [95]=false:=by decide +kernel
  have hd:dn 95=[100]:=rfl;rw[hd];simp[startM,lE,a,dw,iZ,dz]
 ·have a:=Ft c h1 h2;have hd:dn c=[100,c]:=by unfold dn;rw[aeS (by omega)]
  rw[hd];simp[startM,lE,a,dw,iZ,bj,dz]
def dnD:D->D
 | .str [c]=>.str (dn c)
 | d=>d
def wI{ls:List Nat}(h:∀c∈ls,Let c):ls.all (λc=>decide (c<128))=true:=nJ.mpr λc hc=>by
 have:=h c hc;unfold Let at this;simp;omega
def zjq(ls:List Nat)(st:ak)(h:∀c∈ls,Let c)(hl:ls.length<=1000):zc3 [.str ls] st=.ok (enc (cU ls)) st:=by
 have ha:∀x∈ls,x<128:=λx hx=>by have:=h x hx;unfold Let at this;omega
 have cc:=MF (capt:=[none]) (mi:=uA (vr 0)) (g:=aM 0) (e:=az Yr [] (aj (vr 0) au)) (env:=[some (.str ls)]) (st:=st) (st1:=st) (items:=ls.map λc=>D.str [c]) (gs:=[]) dnD (λenv=>env.length=1) (by simp;exact ha) rfl (by simp;omega) (λys=>by simp) (λd hd bW ys hP=>by
  obtain⟨c,hc,rfl⟩:=gj.mp hd;obtain⟨x,rfl⟩:=mO.mp hP;have:=zi8 c (st++[.lst ys]) (h c hc);exact⟨[some (.str [c])],rfl,by simp,by simp[dnD,this]⟩)
 rw[show (ls.map λc=>D.str [c]).map dnD=ls.map λc=>D.str (dn c) by rw[gG];rfl]at cc;have hd:=zhw (.lf [115]) ((ls.map λc=>.lf (dn c))++dZ.map .lf) (st.length+2) (st++[.lst (ls.map λc=>D.str (dn c)),.lst [.str [110],.str [102],.str [108],.str [114]],.lst ((ls.map λc=>D.str (dn c))++[.str [110],.str [102],.str [108],.str [114]])]) (by
  simp;rfl)
 change LK [.str [115],.loc (st.length+2)] _=R.ok (enc (cU ls)) _ at hd;have hu:=iQ st.length (cU ls);have hlen:(ls.map λc=>D.str (dn c)).length<=1000:=by simpa using hl
 unfold zc3 bB bw zi6;generalize hCE:eF _ _ _ _ _=CE at *;generalize (ls.map λc=>D.str (dn c))=X at *;generalize enc (cU ls)=W at *;have ad:bj (.loc st.length) (.loc (st.length+1)) (st++[.lst X,.lst [.str [110],.str [102],.str [108],.str [114]]])=.ok (.loc (st.length+2)) (st++[.lst X,.lst [.str [110],.str [102],.str [108],.str [114]],.lst (X++[.str [110],.str [102],.str [108],.str [114]])]):=by
  have h4:X.length+4<=1000000:=by omega
  simp[bj,h4]
 simp[startM,cc,jR,ad,hd];exact lW hu
def zq0(ls:List Nat):lv (cU ls)=ls.length+5:=by
 have key:∀(ts:List Tr) (p:Tr),(∀t∈ts,lv t=1)->lv (apps p ts)=lv p+ts.length:=by
  intro ts
  induction ts with
  | nil=>intro p _;rfl
  | cons t ts ih =>
   intro p h;have:=ih (.jn p t) λx hx=>h x (by simp[hx]);have h1:=h t (by simp);show lv (apps (.jn p t) ts)=_;rw[this,lv,h1,gr];omega
 unfold cU;rw[key]
 ·simp[lv];omega
 ·intro t ht;rcases m7.mp ht with ht | ht
  ·obtain⟨c,_,rfl⟩:=gj.mp ht;rfl
  ·obtain⟨c,_,rfl⟩:=gj.mp ht;rfl
def zp9(ls:List Nat)(st:ak)(hb:Bs st)(h:∀c∈ls,Let c)(hl:ls.length<=9):zd7 [.str ls] st=.ok (enc (cT (cU ls) jN)) st:=by
 have rt:=zjq ls st h (by omega);have mo:=Yl jN (cU ls) st hb.t1 hb.c (by decide) (by rw[zq0];omega);have hu:=iQ st.length (cT (cU ls) jN);simp only[gw,mQ]at mo;unfold zd7 bB bw zi4;generalize enc (cT (cU ls) jN)=W at *;generalize enc (cU ls)=W1 at *;simp[startM,rt,mo,dz hu]
def zpn(ls:List Nat)(st:ak)(hb:Bs st)(h:∀c∈ls,Let c)(hl:ls.length<=9):zdx [.str ls] st=.ok (.int (Nz ls:Nat)) st:=by
 have rt:=zjq ls st h (by omega);obtain⟨m1,m2⟩:=zj3 jN (cU ls) st hb (by decide) (by rw[zq0];omega);have c1:=zea 2 st (by omega);have c2:=zea 3 st (by omega);simp only[gw,mQ]at m1;unfold zdx bB bw zi5 Nz;rw[show ((2:Nat):Int)=2 from rfl,show ((2+2*2:Nat):Int)=6 from rfl]at c1;rw[show ((3:Nat):Int)=3 from rfl,show ((2+2*3:Nat):Int)=8 from rfl]at c2;generalize aP (iK (cU ls) jN)=Y at *;generalize enc (cU ls)=W1 at *;generalize (iK (cU ls) jN).sum=S at *;simp[startM,rt,m1,m2,c1,c2];exact lW (by simp)
end Law
set_option maxHeartbeats 0
namespace M
def Ls{st:ak}{n:Nat}{ds:List D}(h:aA st n=some ds):dR [.loc n] st=.ok (.int ds.length) st:=by
 unfold aA at h;unfold dR;cases e:st[n]? with
 | none=>rw[e]at h;cases h
 | some o =>
  rw[e]at h;cases o<;>first | (cases h;done) | (dsimp only;unfold vI;simp[aA,e]at h ⊢;exact h ▸ rfl)
def zx{st st':ak}{d:D}{n:Nat}(hn:n<st.length)(uf:st'[n]?≠st[n]?):gc st (.ok d st')=.ok d st':=by
 have h:st'.take st.length≠st:=λe=>uf (by
  conv=>rhs;rw[<-e]
  rw[List.getElem?_take,aeQ hn])
 unfold gc;dsimp only;rw[aeS (λq=>h q.1)];cases d with
 | loc k =>
  dsimp only;cases st'[k]? with
  | none=>rfl
  | some o=>dsimp only;rw[aeS (λq=>h q.1)]
 | _=>rfl
def RD(a:ak)(x y:MO)(n:Nat)(h:n=a.length):(a++[x]).set n y=a++[y]:=by subst h;simp
def Z9(a b:ak)(n:Nat)(y:MO)(h:n<a.length):(a++b).set n y=a.set n y++b:=by
 rw[List.set_append,aeQ h]
def MN{st:ak}(h:bJ st){n:Nat}{o:MO}(ho:o.d_=false):bJ (st.set n o):=λq hq=>by
 rcases List.mem_or_eq_of_mem_set hq with hq | rfl
 ·exact h q hq
 ·exact ho
namespace Tr
def XX{ls:List Nat}{f:Nat->Tr}{c:Nat}(h:c∈ls):look (ls.map λc=>([c],f c)) [c]=some (f c):=by
 induction ls with
 | nil=>cases h
 | cons x l ih =>
  rw[gw,zh4];by_cases e:x=c
  ·rw[aeQ (by rw[e]),e]
  ·rw[aeS (λz=>e (by simpa using z))];exact ih ((gf.mp h).resolve_left (ae1 e))
def Xh{a b:Nat}(h:dn a=dn b):a=b:=by
 unfold dn at h
 split at h<;>split at h<;>simp_all
def abJ(c x:Nat)(hx:x≠100):dn c≠[x]:=λe=>by
 unfold dn at e
 split at e<;>simp at e
 exact hx e.symm
end Tr
end M
namespace Law
open L2 M Tr
def zox(σ:List (List Nat×Tr))(n:Nat)(s:List Nat)(v:Tr)(st:ak)(h:st[n]? = some (.dkc (aX σ)))(hl:σ.length<=10000)(hs:∀p∈σ,p.1≠s):lr (.loc n) (.str s) (enc v) st=.ok () (st.set n (.dkc (aX (σ++[(s,v)])))):=by
 unfold lr;simp only[h,xO];rw[aeQ (by simp[aX];omega)];congr 3;unfold putN;rw[aeS]
 ·simp[aX]
 ·simp only[aX,List.any_map,ph,Function.comp,afh,not_exists,not_and];intro p hp e;exact hs p hp (RG.mp (afm e))
def XJ(σ:List (List Nat×Tr))(n:Nat)(s:List Nat)(v:Tr)(st:ak)(h:st[n]? = some (.dkc (aX σ))\/st[n]? = some (.dkf (aX σ)))(hv:look σ s=some v):vJ (.loc n) (.str s) st=.ok (enc v) st:=by
 have e:valN (aX σ) (.inr (strOf s))=some (enc v):=by rw[zkf,hv];rfl
 unfold vJ;rcases h with h | h<;>simp only[h,xO,e]
def zsb(ls:List Nat)(f:Nat->Tr):(aX (ls.map λc=>([c],f c))).map (λp=>wJ p.1)=ls.map λc=>D.str [c]:=by
 unfold aX;rw[gG,gG];exact kE λc _=>by simp[wJ]
def C_(ls:List Nat)(hn:ls.Nodup)(h:∀c∈ls,Let c)(hl:ls.length<=9)(pO num:Tr)(jx:Nat->Tr)(n:Nat)(st:ak)(hb:Bs st)(hd:st[n]? = some (.dkc (aX (ls.map λc=>([c],jx c)))))(hv:lv pO<=400000) :
  zgw [enc pO,enc num,.loc n] st=.ok (enc (sb (look (([110],num)::ls.map λc=>(dn c,jx c))) pO)) (st.set n (.dkf (aX (ls.map λc=>([c],jx c))))++[.dkc (aX (([110],num)::ls.map λc=>(dn c,jx c)))]):=by
 have Y8:=(gh.mp hd).1;have ds:=Bp [110] (vr 1) num [some (enc pO),some (enc num),some (.loc n),none,none] st (λs=>by simp);generalize hσ:(ls.map λc=>([c],jx c))=σL at *
 let Z:Nat->ak:=λi=>st.set n (.dkf (aX σL))++[.dkc (aX (([110],num)::(ls.take i).map λc=>(dn c,jx c)))]
 unfold zgw bB bw zlv;generalize hB:(oH (aD vJ (vr 2) (vr 4)) _:MS)=B;obtain⟨bW,st',h1,a4,rfl,rfl⟩:=uc (g:=aM 4) (b:=B) (gs:=[]) (items:=ls.map λc=>D.str [c])
  (λi env s=>∃(a4:Option D),env=[some (enc pO),some (enc num),some (.loc n),some (.loc st.length),a4]/\s=Z i)
  (env:=[some (enc pO),some (enc num),some (.loc n),some (.loc st.length),none]) (st:=Z 0) ⟨none,rfl,rfl⟩ (by
   rintro i d env s hi ⟨a4,rfl,rfl⟩;obtain⟨c,hc,rfl⟩:=Gj hi;have Gd:=gU hc;have zl:(st.set n (.dkf (aX σL))).length=st.length:=by simp
   have zn:(Z i)[n]? = some (.dkf (aX σL)):=by
    show (st.set n _++_)[n]? = _;rw[gJ (by rw[zl];exact Y8)];simp[Y8]
   have zp:(Z i)[st.length]? = some (.dkc (aX (([110],num)::(ls.take i).map λc=>(dn c,jx c)))):=by
    show (st.set n _++_)[_]? = _;rw[kh (by rw[zl];exact gb _),zl];simp
   have dnm:=zi8 c (Z i) (h c Gd);have ix:=XJ σL n [c] (jx c) (Z i) (.inr zn) (by rw[<-hσ];exact XX Gd);have sk:=zox (([110],num)::(ls.take i).map λc=>(dn c,jx c)) st.length (dn c) (jx c) (Z i) zp (by simp;omega) (λp hp=>by
    rcases gf.mp hp with rfl | hp
    ·exact λe=>abJ c 110 (by decide) e.symm
    ·obtain⟨x,hx,rfl⟩:=gj.mp hp;intro e;have:x=c:=Xh e;subst this;obtain⟨j,hj,q⟩:=mW.mp hx;rw[kj]at hj;rw[pC]at q;have:ls[j]? = ls[i]?:=by rw[hc,<-q];exact gF (by omega)
     have:=(nH (by omega) hn).mp this;omega)
   have e2:(Z i).set st.length (.dkc (aX ((([110],num)::(ls.take i).map λc=>(dn c,jx c))++[(dn c,jx c)])))=Z (i+1):=by
    show (st.set n _++_).set _ _=st.set n _++_;rw[RD _ _ _ _ zl.symm,mH,hc];simp
   rw[e2]at sk;refine⟨by simp,_,_,rfl,[some (enc pO),some (enc num),some (.loc n),some (.loc st.length),some (.str [c])],Z (i+1),.inl ?_,_,rfl,rfl⟩;rw[<-hB];generalize Z i=Zi at *;generalize Z (i+1)=Zj at *;generalize enc (jx c)=W at *;generalize enc pO=W1 at *;generalize enc num=W2 at *;simp[ix,dnm,sk]) (λ_ _ _=>by simp)
 rw[gm]at h1;have ez:Z ls.length=st.set n (.dkf (aX σL))++[.dkc (aX (([110],num)::ls.map λc=>(dn c,jx c)))]:=by show _++_=_;rw[k_]
 have e0:(st++[.dkc (aX [([110],num)])]:ak).set n (.dkf (aX σL))=Z 0:=by
  show _=st.set n _++_;rw[Z9 _ _ _ _ Y8];simp
 have dk:Ti (vr 2) [some (enc pO),some (enc num),some (.loc n),some (.loc st.length),none] (st++[.dkc (aX [([110],num)])])=.ok (ls.map λc=>D.str [c],[]) (Z 0):=by
  unfold Ti;have:(st++[.dkc (aX [([110],num)])]:ak)[n]? = some (.dkc (aX σL)):=bV hd;have kk:=zsb ls jx;rw[hσ]at kk;simp only[NP,mU,p8,R.aB,this,e0,kk]
 have zl:(st.set n (.dkf (aX σL))).length=st.length:=by simp
 have pi:=zh5 (([110],num)::ls.map λc=>(dn c,jx c)) pO st.length (Z ls.length) (by rw[ez,kh (by rw[zl];exact gb _),zl];simp) (by
  rw[ez];refine bV ?_;rw[gO (λe=>by subst e;rw[hb.t2]at hd;cases hd)];exact hb.t2) (by
  rw[ez];have:=MN hb.c (n:=n) (o:=.dkf (aX σL)) rfl;simp[this]) hv
 rw[<-ez];have hz:(Z ls.length)[n]?≠st[n]?:=by
  rw[ez,gJ (by rw[zl];exact Y8),hd];simp[Y8]
 have g:=zx (st:=st) (st':=Z ls.length) (d:=enc (sb (look (([110],num)::ls.map λc=>(dn c,jx c))) pO)) Y8 hz;rw[show startM 5 [enc pO,enc num,D.loc n]=[some (enc pO),some (enc num),some (.loc n),none,none] from rfl];generalize hDE:fO (cO (ct (.str [110])) (vr 1) iz)=DE at *;generalize hDK:Ti (vr 2)=DK at *;generalize Z ls.length=Zl at *;generalize Z 0=Z0 at *;generalize aX [([110],num)]=K1 at *;generalize enc (sb (look (([110],num)::ls.map λc=>(dn c,jx c))) pO)=W3 at *;generalize enc pO=W1 at *;generalize enc num=W2 at *;generalize (ls.map λc=>D.str [c])=X at *;simp[ds,dk,h1,pi];exact g
end Law
set_option maxHeartbeats 0
namespace Law
open L2 M Tr
def zrx(n:Nat)(st:ak):ze6 [.int n] st=.ok (.int ((n / 2:Nat):Int)) st :=
 Zx (aL rfl rfl (by rw[zma st n 2 (by omega)];congr 2)) (by simp)
def zpa(a:List Nat)(x:Nat):aP (a++[x])=aP a++[.int x]:=by simp[aP]
def RB(a:List Nat):(aP a).length=a.length:=by simp[aP]
def zpv(k many:Nat)(st:ak)(hk:k<many)(hm:many<=4096):zc7 [.int k,.int many] st=.ok (.loc st.length) (st++[.lst (aP (dD 13 k many))]):=by
 unfold zc7 bB bw zil;generalize hC:(eY (aD Xa (vr 4) (ct (.int 1))):MT)=C;generalize hB:(aC (aG 5 _) _:MS)=B
 let E:Nat->Nat->Option D->Option D->aJ:=λfirst left a5 a6=>[some (.int k),some (.int many),some (.loc st.length),some (.int (first:Nat)),some (.int (left:Nat)),a5,a6]
 let S:List Nat->ak:=λdone=>st++[.lst (aP done)]
 have stop:∀(first left:Nat) (done:List Nat) (a5 a6:Option D),left<=1->bC C B (E first left a5 a6) (S done)=.ok (.nx (E first left a5 a6)) (S done):=λfirst left done a5 a6 hl=>by
  rw[yq,show C (E first left a5 a6) (S done)=.ok false (S done) by rw[<-hC];exact cZ (aL rfl rfl (by rw[ztf,aeT (by omega)]))];rfl
 have go:∀(first left:Nat) (done:List Nat) (a5 a6:Option D),2<=left->left<=4096->first<=4096->done.length<=1000 ->
   ∃Gg a6',bC C B (E first left a5 a6) (S done)=if k<first+left / 2 then bC C B (E first (left / 2) Gg a6') (S (done++[0])) else bC C B (E (first+left / 2) (left - left / 2) Gg a6') (S (done++[1])):=λfirst left done a5 a6 hl Mp hf hd=>by
  have ap:∀x:Nat,a_ (.loc st.length) [.int (x:Nat)] (S done)=.ok .non (S (done++[x])):=λx=>by
   have:=XH (st:=st) (g:=[.lst (aP done)]) (k:=0) (d:=.int x) rfl (by rw[RB];omega);show _=R.ok _ (st++[.lst (aP (done++[x]))]);rw[zpa];exact this
  have mu:∀(j:Int) s,j<=1->0<=j->lC (.int ((left / 2:Nat):Int)) (.int j) s=.ok (.int ((left / 2:Nat)*j)) s:=λj s h1 h0=>T6 s ((left / 2:Nat):Int) j (by omega);have lt:ltV (.int k) (.int ((first+left / 2:Nat):Int)) (S done)=.ok (.bl (decide (k<first+left / 2))) (S done):=yX;refine⟨some (.int ((left / 2:Nat):Int)),some (.int (if k<first+left / 2 then 0 else 1)),?_⟩;rw[yq,show C (E first left a5 a6) (S done)=.ok true (S done) by rw[<-hC];exact cZ (aL rfl rfl (by rw[ztf,aeV (by omega)])),R.aB,aeQ rfl];by_cases hc:k<first+left / 2
  ·rw[aeV hc]at lt;rw[aeQ hc,aeQ hc,show B (E first left a5 a6) (S done)=.ok (.nx (E first (left / 2) (some (.int ((left / 2:Nat):Int))) (some (.int 0)))) (S (done++[0])) by
    rw[<-hB];exact bO (aY (zrx left _) rfl) (bO (Rp (cZ (aL rfl (aL rfl rfl (Rr rfl)) lt)) rfl) ((jP (xn (uZ rfl (VM (k:=0) rfl) (aK rfl rfl) (ap 0)))).trans (bO (aL rfl (aL rfl rfl (mu 0 _ (by omega) (by omega))) (add_int (by omega))) (yF (Rp (cZ (aL rfl rfl zr2)) rfl))))),R.aB]
  ·rw[aeT hc]at lt;rw[aeS hc,aeS hc,show B (E first left a5 a6) (S done)=.ok (.nx (E (first+left / 2) (left - left / 2) (some (.int ((left / 2:Nat):Int))) (some (.int 1)))) (S (done++[1])) by
    rw[<-hB];exact bO (aY (zrx left _) rfl) (bO (Rp (cZ (aL rfl (aL rfl rfl (Rr rfl)) lt)) rfl) ((jP (xn (uZ rfl (VM (k:=0) rfl) (aK rfl rfl) (ap 1)))).trans (bO (aL rfl (aL rfl rfl (mu 1 _ (by omega) (by omega))) (add_int (by omega))) (yF (Rp (cZ (aL rfl rfl eq_int)) (aL rfl rfl (by rw[Dd];congr 2;omega))))))),R.aB]
 have loop:∀(f first left:Nat) (done:List Nat) (a5 a6:Option D),first<=k->k<first+left->left<=2 ^ f->done.length+f<=100->f<=12 ->
   ∃(fi le:Nat) (Gg a6':Option D),bC C B (E first left a5 a6) (S done)=.ok (.nx (E fi le Gg a6')) (S (done++dD (f+1) (k - first) left)):=by
  intro f
  induction f with
  | zero =>
   intro first left done a5 a6 h1 h2 h3 _ _;have hl:left<=1:=by simpa using h3
   refine⟨first,left,a5,a6,?_⟩;rw[stop first left done a5 a6 hl,dD,aeQ hl,gR]
  | succ f ih =>
   intro first left done a5 a6 h1 h2 h3 hd hf;have hp:2 ^ (f+1)=2 ^ f+2 ^ f:=by rw[n_];omega
   have dq:2 ^ f<=2 ^ 11:=Nat.pow_le_pow_right (by decide) (by omega);by_cases hl:left<=1
   ·refine⟨first,left,a5,a6,?_⟩;rw[stop first left done a5 a6 hl,dD,aeQ hl,gR]
   ·obtain⟨b5,b6,e⟩:=go first left done a5 a6 (by omega) (by omega) (by omega) (by omega);rw[dD,aeS hl,e];by_cases hc:k<first+left / 2
    ·rw[aeQ hc,aeQ (by omega)];obtain⟨fi,le,c5,c6,e2⟩:=ih first (left / 2) (done++[0]) b5 b6 h1 hc (by omega) (by simp;omega) (by omega);exact⟨fi,le,c5,c6,by rw[e2,gP];rfl⟩
    ·rw[aeS hc,aeS (by omega)];obtain⟨fi,le,c5,c6,e2⟩:=ih (first+left / 2) (left - left / 2) (done++[1]) b5 b6 (by omega) (by omega) (by omega) (by simp;omega) (by omega);exact⟨fi,le,c5,c6,by rw[e2,gP,show k - (first+left / 2)=k - first - left / 2 by omega];rfl⟩
 obtain⟨fi,le,a5,a6,h1⟩:=loop 12 0 many [] none none (by omega) (by omega) (by omega) (by simp) (by omega);rw[mL,Nat.sub_zero]at h1;have g:=Mv (st:=st) (o:=.lst (aP (dD 13 k many))) (by
  show bU st.length (aP _);generalize dD 13 k many=cs
  induction cs with
  | nil=>simp[aP]
  | cons c cs ih=>simpa[aP] using ih)
 exact aW (bO TY (bO rfl (bO rfl ((jP h1).trans (dM rfl))))) rfl g
def pkD:D->D
 | .int i=>enc (bM i.toNat 2)
 | d=>d
def Oh(ts:List Nat):(aP ts).map pkD=(ts.map λt=>bM t 2).map enc:=by
 unfold aP;rw[gG,gG];exact kE λt _=>by simp[pkD]
def Cg(k many:Nat)(st:ak)(hb:Bs st)(hk:k<many)(hm:many<=4096):zf0 [.int k,.int many] st=.ok (enc (oV (dD 13 k many))) st:=by
 have tt:=zpv k many st hk hm;obtain⟨tl,t1⟩:=zj2 13 k many;generalize dD 13 k many=ts at *;have SN:Bs (st++[.lst (aP ts)]):=hb.app (by simp);have cc:=MF (capt:=[none]) (mi:=ig (az zc7 [] (aj (vr 0) (aj (vr 1) au)))) (g:=aM 0) (e:=az Lx [] (aj (vr 0) (aj (ct (.int 2)) au))) (env:=[some (.int k),some (.int many)]) pkD (λenv=>env.length=1) (znl (aY tt rfl) (eV (k:=0) rfl)) rfl (by rw[RB];omega) (λys=>t_ (bV (eV (k:=0) rfl))) (λd hd bW ys hP=>by
  obtain⟨t,ht,rfl⟩:=gj.mp hd;obtain⟨x,rfl⟩:=mO.mp hP;have h2:=t1 t ht;refine⟨[some (.int t)],rfl,rfl,?_⟩;rw[show pkD (.int t)=enc (bM t 2) by simp[pkD]];exact aY (ZP t 2 _ (bV SN.t1) (by simp[hb.c]) (by omega) (by omega)) rfl)
 rw[Oh]at cc;have hd:=zoc (ts.map λt=>bM t 2) (st++[.lst (aP ts)]:ak).length (st++[.lst (aP ts)]++[.lst ((ts.map λt=>bM t 2).map enc)]) (by simp) (λt ht=>by
  obtain⟨x,_,rfl⟩:=gj.mp ht;exact T9 _ _)
 exact aW (dM (aY hd (aK cc rfl))) rfl (by rw[gP];exact lW (iQ st.length (oV ts)))
def CG:∀(f:Nat) (es:List Tr) (n:Nat) (st:ak),0<es.length->es.length<=2 ^ f->f<=9->aA st n=some (es.map enc)->(∀e∈es,val e=true)->Ue (f+1) [.loc n] st=.ok (enc (d7 (f+1) es)) st:=by
 intro f
 induction f with
 | zero =>
  intro es n st h0 h1 _ hi hv;have hl:es.length=1:=by simp at h1;omega
  obtain⟨e,rfl⟩:=mO.mp hl;have l1:=Ls hi;have ix:aZ (.loc n) (.int 0) st=.ok (enc e) st:=uh _ _ _ _ _ hi rfl;have hu:=iQ st.length e;rw[show d7 (0+1) [e]=e from rfl];exact aW (rA (oU (cZ (aL (q_ l1 rfl) rfl zr2)) (dM (aL rfl rfl ix)))) rfl (dz hu)
 | succ f ih =>
  intro es n st h0 h1 hf hi hv;have hp:2 ^ (f+1)=2 ^ f+2 ^ f:=by rw[n_];omega
  have l1:=Ls hi;rw[gm]at l1;by_cases hl:es.length=1
  ·obtain⟨e,rfl⟩:=mO.mp hl;have ix:aZ (.loc n) (.int 0) st=.ok (enc e) st:=uh _ _ _ _ _ hi rfl;have hu:=iQ st.length e;rw[show d7 (f+1+1) [e]=e from rfl];exact aW (rA (oU (cZ (aL (q_ l1 rfl) rfl zr2)) (dM (aL rfl rfl ix)))) rfl (dz hu)
  ·have c1:¬ (es.length:Int)=1:=by omega
   have hh:=zrx es.length st;have e1:d7 (f+1+1) es=hold [d7 (f+1) (es.take (es.length / 2)),d7 (f+1) (es.drop (es.length / 2))]:=by rw[d7,aeS hl]
   have l2:(es.take (es.length / 2)).length=es.length / 2:=by rw[kj];omega
   have l3:(es.drop (es.length / 2)).length=es.length - es.length / 2:=kW;have s1:vz (.loc n) none (some ((es.length / 2:Nat):Int)) st=.ok (.loc st.length) (st++[.lst ((es.take (es.length / 2)).map enc)]):=by
    have:=KC (es.map enc) (es.length / 2) (by rw[gm];omega);unfold vz;simp only[hi,this,<-List.map_take]
   have r1:=ih (es.take (es.length / 2)) st.length (st++[.lst ((es.take (es.length / 2)).map enc)]) (by omega) (by omega) (by omega) (by simp[aA]) (λe he=>hv e (nZ he));have hi2:aA (st++[.lst ((es.take (es.length / 2)).map enc)]) n=some (es.map enc):=zp3 hi;have s2:vz (.loc n) (some ((es.length / 2:Nat):Int)) none (st++[.lst ((es.take (es.length / 2)).map enc)])=.ok (.loc (st.length+1)) (st++[.lst ((es.take (es.length / 2)).map enc)]++[.lst ((es.drop (es.length / 2)).map enc)]):=by
    have:=KD (es.map enc) (es.length / 2);unfold vz;simp only[hi2,this,<-List.map_drop];simp
   have r2:=ih (es.drop (es.length / 2)) (st.length+1) (st++[.lst ((es.take (es.length / 2)).map enc)]++[.lst ((es.drop (es.length / 2)).map enc)]) (by omega) (by omega) (by omega) (by simp[aA]) (λe he=>hv e (n8 he));have v1:=ZV (f+1) _ λe he=>hv e (nZ (i:=es.length / 2) he);have v2:=ZV (f+1) _ λe he=>hv e (n8 (i:=es.length / 2) he);have hd:=qJ [d7 (f+1) (es.take (es.length / 2)),d7 (f+1) (es.drop (es.length / 2))] [enc (d7 (f+1) (es.take (es.length / 2))),enc (d7 (f+1) (es.drop (es.length / 2)))] rfl (st++[.lst ((es.take (es.length / 2)).map enc)]++[.lst ((es.drop (es.length / 2)).map enc)]) (by simp[v1,v2]);rw[<-e1]at hd;have hu:=iQ st.length (d7 (f+1+1) es);have ef:Ue (f+1+1)=bB (bw 2 (zft (Ue (f+1)))):=rfl;rw[ef];unfold bB bw zft;refine aW (jZ (cZ (aL (q_ l1 rfl) rfl (by rw[eq_int,aeT c1]))) (bO (aY hh (aK (q_ l1 rfl) rfl)) (dM (aY hd (aK (Mw (aK (aY r1 (aK (Rw rfl rfl rfl s1) rfl)) (aK (aY r2 (aK (Rw rfl rfl rfl s2) rfl)) rfl))) rfl))))) rfl (by rw[gP,gP];exact lW hu)
def Yi(n:Nat)(es:List Tr):d7 (n+1) es=if es.length=1 then es.headD Tr.tK else hold [d7 n (es.take (es.length / 2)),d7 n (es.drop (es.length / 2))]:=rfl
def CJ:∀(f n:Nat) (es:List Tr),0<es.length->es.length<=2 ^ f->f<=n->d7 (n+1) es=d7 (f+1) es:=by
 intro f
 induction f with
 | zero =>
  intro n es h0 h1 _;have hl:es.length=1:=by simp at h1;omega
  rw[Yi n,Yi 0,aeQ hl,aeQ hl]
 | succ f ih =>
  intro n es h0 h1 hn;have hp:2 ^ (f+1)=2 ^ f+2 ^ f:=by rw[n_];omega
  obtain⟨m,rfl⟩:∃m,n=m+1:=⟨n - 1,by omega⟩;by_cases hl:es.length=1
  ·rw[Yi (m+1),Yi (f+1),aeQ hl,aeQ hl]
  ·rw[Yi (m+1),Yi (f+1),aeS hl,aeS hl];rw[ih m (es.take (es.length / 2)) (by rw[kj];omega) (by rw[kj];omega) (by omega),ih m (es.drop (es.length / 2)) (by rw[kW];omega) (by rw[kW];omega) (by omega)]
def zpr(es:List Tr)(n:Nat)(st:ak)(h0:0<es.length)(h1:es.length<=512)(hi:aA st n=some (es.map enc))(hv:∀e∈es,val e=true):Ue 10 [.loc n] st=.ok (enc (d7 13 es)) st:=by
 rw[CJ 9 12 es h0 (by omega) (by omega)];exact CG 9 es n st h0 (by omega) (by omega) hi hv
end Law
set_option maxHeartbeats 0
namespace Law
open L2 M
structure fZ where
 st:Int
 c:Nat
 w:Nat
 m:Nat
 g:Int
def fZ.d(r:fZ):D:=.tup [.int r.st,.str [r.c],.str [r.w],.str [r.m],.int r.g]
def zpo(rs:List fZ):cD (rs.map fZ.d)=true:=by
 induction rs with
 | nil=>simp
 | cons r rs ih=>simp[ih,fZ.d]
def zrb(rs:List fZ):deps (rs.map fZ.d)<=1:=by
 induction rs with
 | nil=>simp
 | cons r rs ih=>simp[fZ.d];omega
def zq2(s:Int)(c:Nat):keysOf [.int s,.str [c]]=some [.inl s,.inr (strOf [c])]:=rfl
def pP(r:fZ):List Key:=[.inl r.st,.inr (strOf [r.c])]
def zr5(r:fZ)(s:Int)(c:Nat):pP r=[.inl s,.inr (strOf [c])]↔r.st=s/\r.c=c:=by
 unfold pP;constructor
 ·intro h;injection h with h1 h2;injection h2 with h2 h3;injection h1 with h1;injection h2 with h2;injection h2 with h2;refine⟨h1,?_⟩;have:=congrArg Array.toList h2;simpa using this
 ·rintro ⟨rfl,rfl⟩;rfl
def tab:List (List Key×D)->List fZ->List (List Key×D)
 | kvs,[]=>kvs
 | kvs,r::rs=>tab (match jA kvs (pP r) with | some _=>kvs | none=>kvs++[(pP r,r.d)]) rs
theorem zU(s:Int)(c:Nat):∀(rs:List fZ) (kvs:List (List Key×D)),jA (tab kvs rs) [.inl s,.inr (strOf [c])]=match jA kvs [.inl s,.inr (strOf [c])] with | some d=>some d | none=>(rs.find? λr=>decide (r.st=s/\r.c=c)).map fZ.d
 | [],kvs=>by rw[tab];cases jA kvs [.inl s,.inr (strOf [c])]<;>rfl
 | r::rs,kvs=>by
  rw[tab,zU s c rs,mD];by_cases h:r.st=s/\r.c=c
  ·have hk:=(zr5 r s c).mpr h;rw[hk];cases e:jA kvs [.inl s,.inr (strOf [c])] with
   | some d=>simp only[e]
   | none =>
    dsimp only;rw[zor _ _ _ _ e,aeQ rfl];simp[h]
  ·have hk:¬ pP r=[.inl s,.inr (strOf [c])]:=λz=>h ((zr5 r s c).mp z);have hd:decide (r.st=s/\r.c=c)=false:=aeT h;rw[hd];cases e:jA kvs (pP r) with
   | some d=>rfl
   | none =>
    dsimp only;rw[zor _ _ _ _ e,aeS hk]
theorem zV{p:List Key×D}:∀{rs:List fZ} {kvs:List (List Key×D)},p∈tab kvs rs->p∈kvs\/∃r∈rs,p.2=r.d
 | [],kvs,h=>by rw[tab]at h;exact .inl h
 | r::rs,kvs,h=>by
  rw[tab]at h;rcases zV h with h | ⟨q,hq,e⟩
  ·cases e:jA kvs (pP r) with
   | some d=>rw[e]at h;exact .inl h
   | none =>
    rw[e]at h;rcases m7.mp h with h | h
    ·exact .inl h
    ·obtain rfl:p=(pP r,r.d):=by simpa using h
     exact .inr ⟨r,by simp,rfl⟩
  ·exact .inr ⟨q,kI _ hq,e⟩
def GD(rs:List fZ)(n:Nat)(st:ak)(h:st[n]? = some (.lst (rs.map fZ.d)))(hl:rs.length<=1000):zcr [.loc n] st=.ok (.loc st.length) (st++[.dic (tab [] rs)]):=by
 unfold zcr bB bw zgm;generalize hb:(dH (cJ "dict" lO (vr 1) _):MS)=body;have key:∀(l:List fZ) (kvs:List (List Key×D)) (a2:Option D),kvs.length+l.length<=1000->∃a2',cu (aM 2) body [(n,.lst (rs.map fZ.d))] (l.map fZ.d) [some (.loc n),some (.loc st.length),a2] (st++[.dic kvs])=.ok (.nx [some (.loc n),some (.loc st.length),a2']) (st++[.dic (tab kvs l)]):=by
  intro l
  induction l with
  | nil=>intro kvs a2 _;exact⟨a2,by rw[mQ,cu,aeQ (by simp[bV h]),tab]⟩
  | cons r l ih =>
   intro kvs a2 hk;rw[gr]at hk;have zr:kvs.length<1000000:=by omega
   have ks:keysOf [.int r.st,.str [r.c]]=some (pP r):=rfl;rw[gw,cu,aeQ (by simp[bV h]),NT,R.aB,tab];rw[show List.set [some (D.loc n),some (D.loc st.length),a2] 2 (some r.d)=[some (.loc n),some (.loc st.length),some r.d] from rfl];cases e:jA kvs (pP r) with
   | some d =>
    obtain⟨a2',h2⟩:=ih kvs (some r.d) (by omega);refine⟨a2',?_⟩;have uf:body [some (.loc n),some (.loc st.length),some r.d] (st++[.dic kvs])=.ok (.nx [some (.loc n),some (.loc st.length),some r.d]) (st++[.dic kvs]):=by
     rw[<-hb];simp only[pP]at e;simp[dw,fZ.d,aZ,pW,JB,lO,zr,e]
    rw[uf,R.aB];exact h2
   | none =>
    obtain⟨a2',h2⟩:=ih (kvs++[(pP r,r.d)]) (some r.d) (by simp;omega);refine⟨a2',?_⟩;have uf:body [some (.loc n),some (.loc st.length),some r.d] (st++[.dic kvs])=.ok (.nx [some (.loc n),some (.loc st.length),some r.d]) (st++[.dic (kvs++[(pP r,r.d)])]):=by
     rw[<-hb];simp only[pP]at e;simp[dw,fZ.d,aZ,pW,JB,lO,zr,e,pP]
    rw[uf,R.aB];exact h2
 obtain⟨a2,k1⟩:=key rs [] none (by simpa using hl);rw[show startM 3 [D.loc n]=[some (.loc n),none,none] from rfl];simp[bV h,k1];refine Mv (o:=.dic (tab [] rs)) (λp hp=>?_);rcases zV hp with hp | ⟨r,_,e⟩
 ·exact absurd hp (g_)
 ·rw[e];simp[fZ.d]
end Law
namespace Law
open L2 M Tr
def eZ(r:Ru):fZ:=⟨(r.s:Nat),r.x,r.w,if r.m=true then 108 else 114,(r.g:Nat)⟩
def jc(r:Ru):D:=(eZ r).d
def Zy(r:Ru):jc r=.tup [.int r.s,.str [r.x],.str [r.w],.str (Ga r.m),.int r.g]:=by
 unfold jc eZ fZ.d Ga;cases r.m<;>rfl
def zon(rs:List Ru):(rs.map eZ).map fZ.d=rs.map jc:=by rw[gG];rfl
def Py(B:Bk)(n s c:Nat)(st:ak)(h:st[n]? = some (.dic (tab [] (B.rs.map eZ)))):J6 (.loc n) [.tup [.int s,.str [c]]] st=.ok (match Xd B s c with | some r=>jc r | none=>.non) st:=by
 have e:=zU (s:Nat) c (B.rs.map eZ) [];rw[Gw]at e;dsimp only at e;rw[List.find?_map]at e;have e2:(λr=>decide ((eZ r).st=(s:Int)/\(eZ r).c=c))=λr:Ru=>decide (r.s=s) && decide (r.x=c):=by
  funext r;rw[mz];constructor
  ·intro q;obtain⟨a,b⟩:=aeZ q;have a':(r.s:Int)=s:=a;have b':r.x=c:=b;rw[gM];exact⟨aeV (by omega),aeV b'⟩
  ·intro q;rw[gM]at q;have a:=aeZ q.1;exact aeV ⟨by show (r.s:Int)=s;omega,aeZ q.2⟩
 have e3:B.rs.find? ((λr=>decide (r.st=(s:Int)/\r.c=c))∘eZ)=Xd B s c:=by
  unfold Xd;rw[<-e2];rfl
 rw[e3]at e;unfold J6;have ks:=zq2 (s:Nat) c;simp only[h,ks,e];cases Xd B s c<;>rfl
def vA(ls:List Nat):List (List Nat×Tr):=ls.map λc=>([c],bM (bR ls c) ls.length)
def Gk{ls:List Nat}(hn:ls.Nodup){i c:Nat}(h:ls[i]? = some c):bR ls c=i:=by
 have hm:=gU h;have h2:=Gm hm;exact (nH (FP hm) hn).mp (by rw[h2,h])
def zl0(ls:List Nat)(hn:ls.Nodup)(h:∀c∈ls,Let c)(hl:ls.length<=1000)(st:ak)(hb:Bs st):zbu [.str ls] st=.ok (.loc st.length) (st++[.dkc (aX (vA ls))]):=by
 have ha:=wI h;unfold zbu bB bw zec;generalize hB:(oH (az Lx [] _) _:MS)=B
 let Z:Nat->ak:=λi=>st++[.dkc (aX ((ls.take i).map λc=>([c],bM (bR ls c) ls.length)))]
 obtain⟨bW,st',h1,a2,a3,rfl,rfl⟩:=uc (g:=rD 2 (dY (aM 2) (dY (aM 3) tQ))) (b:=B) (gs:=[]) (items:=cM 0 (ls.map λc=>D.str [c]))
  (λi env s=>∃(a2 a3:Option D),env=[some (.str ls),some (.loc st.length),a2,a3]/\s=Z i)
  (env:=[some (.str ls),some (.loc st.length),none,none]) (st:=Z 0) ⟨none,none,rfl,rfl⟩ (by
   rintro i d env s hi ⟨a2,a3,rfl,rfl⟩;obtain⟨y,hy,rfl⟩:=zkw hi;obtain⟨c,hc,rfl⟩:=Gj hy;have yz:=(gh.mp hc).1;have ei:=Gk hn hc;have SN:Bs (Z i):=hb.app (by simp);have pk:=ZP i ls.length (Z i) SN.t1 SN.c yz (by omega);have le:dR [.str ls] (Z i)=.ok (.int ls.length) (Z i):=by
    show vI [.str ls] (Z i)=_;exact zoy _ ls (by omega)
   have sk:=zox ((ls.take i).map λc=>([c],bM (bR ls c) ls.length)) st.length [c] (bM i ls.length) (Z i) (by simp[Z]) (by simp;omega) (λp hp=>by
    obtain⟨x,hx,rfl⟩:=gj.mp hp;intro e;have:x=c:=by simpa using e
    subst this;obtain⟨j,hj,q⟩:=mW.mp hx;rw[kj]at hj;rw[pC]at q;have:ls[j]? = ls[i]?:=by rw[hc,<-q];exact gF (by omega)
    have:=(nH (by omega) hn).mp this;omega)
   have e2:(Z i).set st.length (.dkc (aX (((ls.take i).map λc=>([c],bM (bR ls c) ls.length))++[([c],bM i ls.length)])))=Z (i+1):=by
    show (st++_).set _ _=st++_;rw[RD _ _ _ _ rfl,mH,hc];simp[ei]
   rw[e2]at sk;refine⟨by simp,[some (.str ls),some (.loc st.length),some (.int i),some (.str [c])],Z i,?_,[some (.str ls),some (.loc st.length),some (.int i),some (.str [c])],Z (i+1),.inl ?_,_,_,rfl,rfl⟩
   ·generalize Z i=Zi;simp
   ·rw[<-hB];generalize Z i=Zi at *;generalize Z (i+1)=Zj at *;generalize enc (bM i ls.length)=W at *;simp[le,pk,sk]) (λ_ _ _=>by simp)
 rw[T7,gm]at h1;have ez:Z ls.length=st++[.dkc (aX (vA ls))]:=by show _++_=_;rw[k_];rfl
 rw[ez]at h1;have g:=Mv (st:=st) (o:=.dkc (aX (vA ls))) (λp hp=>by
  unfold aX at hp;obtain⟨q,_,rfl⟩:=gj.mp hp;exact iQ _ _)
 have e0:Z 0=st++[.dkc []]:=rfl;rw[e0]at h1;have en:uT (aj (vr 0) au) [some (.str ls),some (.loc st.length),none,none] (st++[.dkc []])=.ok (cM 0 (ls.map λc=>D.str [c]),[]) (st++[.dkc []]):=by
  rw[Hk];simp only[NZ,UL,NP,p8,R.aB];rw[aeQ ha]
 rw[show startM 4 [D.str ls]=[some (.str ls),none,none,none] from rfl];generalize aX (vA ls)=Y at *;generalize uT (aj (vr 0) au)=EI at *;generalize cM 0 (ls.map λc=>D.str [c])=X at *;simp[Zh,en,h1];exact g
end Law
set_option maxHeartbeats 0
namespace Law
open L2 M Tr
abbrev uD(ls:List Nat)(c:Nat):Tr:=bM (bR ls c) ls.length
abbrev La:List Nat:=[98,97,114,101]
abbrev J9:List Nat:=[102,117,108,108]
def Um(m:Bool)(ls:List Nat)(c:Nat):MO:=.dkc (aX [(La,lK m (uD ls 95) (uD ls c)),(J9,qO m (uD ls c))])
def mvF(m:Bool)(w:Nat):List (PySem.Str×D):=[("plan",enc (cT (du m) dZ)),("written",.loc w),("bare_cost",.int ((vW m+Tq m:Nat):Int)),("full_cost",.int ((vW m+J_ m:Nat):Int))]
def d8(st:ak)(n:Nat)(m:Bool)(ls:List Nat):Prop :=
 ∃w W,st[n]? = some (.ins "Move" (mvF m w))/\st[w]? = some (.dkc W)/\∀c∈ls,∃q,valN W (.inr (strOf [c]))=some (.loc q)/\st[q]? = some (Um m ls c)
def Keeps(st st':ak)(ex:List Nat):Prop:=∀j o,j∉ex->st[j]? = some o->st'[j]? = some o
def Keeps.app(st g:ak):Keeps st (st++g) []:=λ_ _ _ h=>bV h
def d8.mono{st st':ak}{n:Nat}{m:Bool}{ls:List Nat}(h:d8 st n m ls)(k:Keeps st st' []):d8 st' n m ls:=by
 obtain⟨w,W,h1,h2,h3⟩:=h;refine⟨w,W,k _ _ (by simp) h1,k _ _ (by simp) h2,λc hc=>?_⟩;obtain⟨q,q1,q2⟩:=h3 c hc;exact⟨q,q1,k _ _ (by simp) q2⟩
def Bs.keeps{st st':ak}(h:Bs st){ex:List Nat}(k:Keeps st st' ex)(h1:1∉ex)(h2:2∉ex)(c:bJ st'):Bs st':=⟨k _ _ h1 h.t1,k _ _ h2 h.t2,c⟩
def Tj(x y:List Nat)(hxy:x≠y)(e1 e2:ME)(v w:Tr)(env:aJ)(st:ak)(h1:e1 env (st++[.dkc []])=.ok (enc v) (st++[.dkc []]))(h2:e2 env (st++[.dkc []])=.ok (enc w) (st++[.dkc []])) :
  fO (cO (ct (.str x)) e1 (cO (ct (.str y)) e2 iz)) env st=.ok (.loc st.length) (st++[.dkc (aX [(x,v),(y,w)])]):=by
 have uf:¬ strOf x=strOf y:=λe=>hxy (RG.mp e);unfold fO;simp[h1,h2,uJ,xO,jH,putN,aX,uf]
def aax(kvs:List (Key×D))(n:Nat)(s:List Nat)(d:D)(st:ak)(h:st[n]? = some (.dkc kvs))(hl:kvs.length<=10000)(hs:∀p∈kvs,p.1≠.inr (strOf s)):lr (.loc n) (.str s) d st=.ok () (st.set n (.dkc (kvs++[(.inr (strOf s),d)]))):=by
 unfold lr;simp only[h,xO];rw[aeQ (by omega)];congr 3;unfold putN;rw[aeS];simp only[ph,afh,not_exists,not_and];exact hs
def Gv(ls:List Nat)(f:Nat->D){c:Nat}(h:c∈ls):valN (ls.map λc=>(Sum.inr (strOf [c]),f c)) (.inr (strOf [c]))=some (f c):=by
 induction ls with
 | nil=>cases h
 | cons x l ih =>
  rw[gw,Yh];by_cases e:x=c
  ·rw[aeQ (by rw[e]),e]
  ·rw[aeS (λz=>e (by have:=RG.mp (afm z);simpa using this))];exact ih ((gf.mp h).resolve_left (ae1 e))
def znu{ls:List Nat}(hn:ls.Nodup){i c x:Nat}(hc:ls[i]? = some c)(hx:x∈ls.take i):x≠c:=by
 intro e;subst e;obtain⟨j,hj,q⟩:=mW.mp hx;rw[kj]at hj;rw[pC]at q;have:ls[j]? = ls[i]?:=by rw[hc,<-q];exact gF (by omega)
 have:=(nH (by omega) hn).mp this;omega
def I_(m:Bool):lv (b_ m)<=100/\lv (cT (b_ m) iW)<=1000/\lv (cT (b_ m) oR)<=1000/\lv (du m)<=100/\lv (cT (du m) dZ)<=1000:=by cases m<;>decide +kernel
theorem Ja{f:List Nat->Option Tr}{b:Nat}(hb:1<=b)(h:∀s v,f s=some v->lv v<=b):∀t,lv (sb f t)<=lv t*b
 | .lf s=>by
  rw[sb];cases e:f s with
  | none=>show 1<=1*b;omega
  | some v=>have:=h s v e;show lv v<=1*b;omega
 | .jn l r=>by
  have:=Ja hb h l;have:=Ja hb h r;rw[sb,lv,lv,Nat.add_mul];omega
theorem zo3:∀m,lv (sr m)<=3*m+3
 | 0=>by decide
 | 1=>by decide
 | m+2=>by
  have:=zo3 (m+1);rw[sr,lv];have:lv (.jn tS (.jn tK tK))=3:=rfl;omega
def VL(ls:List Nat)(hl:ls.length<=9)(c:Nat):lv (uD ls c)<=60:=by
 have h1:=zrz (sr (ls.length - 1 - bR ls c)) (bR ls c);have h2:=zo3 (ls.length - 1 - bR ls c);have h3:bR ls c<=ls.length:=List.findIdx_le_length;show lv (dN _ _)<=_;omega
end Law
set_option maxHeartbeats 0
namespace Law
open L2 M Tr
def set_same{st:ak}{n:Nat}{o:MO}(h:st[n]? = some o):st.set n o=st:=by
 apply List.ext_getElem?;intro i;by_cases e:n=i
 ·subst e;rw[h];have:=(gh.mp h).1;simp[this]
 ·rw[gO e]
def gL(m:Bool)(ls:List Nat)(c:Nat):List MO:=[.dkc (aX [([119],uD ls c)]),Um m ls c]
def uP(m:Bool)(ls:List Nat)(i:Nat):List MO:=((ls.take i).map (gL m ls)).flatten
def J7(m:Bool)(ls:List Nat):∀i,i<=ls.length->(uP m ls i).length=2*i:=λi hi=>by
 unfold uP;have key:∀l:List Nat,((l.map (gL m ls)).flatten).length=2*l.length:=λl=>by
  induction l with
  | nil=>rfl
  | cons c l ih=>rw[gw,m_,gK,ih];simp[gL];omega
 rw[key,kj];omega
def Ei(m:Bool){ls:List Nat}{i c:Nat}(h:ls[i]? = some c):uP m ls (i+1)=uP m ls i++gL m ls c:=by
 unfold uP;rw[mH,h];simp
def J8(m:Bool)(ls:List Nat)(i:Nat):bJ (uP m ls i):=by
 unfold uP;generalize ls.take i=l
 induction l with
 | nil=>simp
 | cons c l ih=>rw[gw,m_];simp[ih,gL,Um]
def L_(p:Nat)(ls:List Nat)(i:Nat):List (Key×D):=(ls.take i).map λc=>(Sum.inr (strOf [c]),D.loc (p+2*bR ls c))
def ziu(m:Bool)(ls:List Nat)(hn:ls.Nodup)(hL:∀c∈ls,Let c)(hl:ls.length<=9)(h95:95∈ls)(sf nt:Nat)(st:ak)(hb:Bs st)(h1:st[sf]? = some (.ins "Move" []))
  (h2:st[nt]? = some (.dkc (aX (vA ls)))\/st[nt]? = some (.dkf (aX (vA ls)))) :
  ∃st',Uj [.loc sf,.str (Ga m),.loc nt] st=.ok .non st'/\Keeps st st' [sf,nt]/\st'[nt]? = some (.dkf (aX (vA ls)))/\d8 st' sf m ls/\bJ st'/\st.length<=st'.length:=by
 obtain⟨l1,l2,l3,l4,l5⟩:=I_ m;have Qq:=(gh.mp h1).1;have hnt:nt<st.length:=by rcases h2 with h2 | h2<;>exact (gh.mp h2).1
 have uf:sf≠nt:=λe=>by subst e;rw[h1]at h2;simp at h2
 let A:MO:=.dkc (aX [([97],uD ls 95),([116],tK)])
 let Ld:Tr:=sb (look [([97],uD ls 95),([116],tK)]) (cT (b_ m) iW)
 let p1:(PySem.Str×D):=("plan",enc (cT (du m) dZ))
 let p2:(PySem.Str×D):=("written",.loc (st.length+1))
 let zm:MO:=.ins "Move" [p1,p2]
 let Wv:MO:=.ins "Move" [p1,p2,("bare_cost",.int ((vW m+Tq m:Nat):Int))]
 let JR:MO:=.ins "Move" (mvF m (st.length+1))
 have b1:Bs (st++[A]):=hb.app (by simp[A])
 let E3:Option D->Option D->aJ:=λa6 a7=>[some (.loc sf),some (.str (Ga m)),some (.loc nt),some (enc (b_ m)),some (enc Ld),some (enc (cT (b_ m) oR)),a6,a7,none]
 have zA:∀x:MO,(st.set sf x).length=st.length:=λx=>by simp
 let S0:ak:=(st.set sf zm).set nt (.dkf (aX (vA ls)))
 have z0:S0.length=st.length:=by simp[S0]
 let T:Nat->ak:=λi=>S0++A::.dkc (L_ (st.length+3) ls i)::uP m ls i
 have dk:Ti (vr 2) (E3 none none) (st.set sf zm++[A,.dkc []])=.ok (ls.map λc=>D.str [c],[]) (T 0):=by
  have kk:=zsb ls (uD ls);change (aX (vA ls)).map (λp=>wJ p.1)=_ at kk;have e0:(st.set sf zm++[A,.dkc []]:ak).set nt (.dkf (aX (vA ls)))=T 0:=by
   rw[Z9 _ _ _ _ (by rw[zA];exact hnt)];rfl
  have gn:∀o,st[nt]? = some o->(st.set sf zm++[A,.dkc []]:ak)[nt]? = some o:=λo ho=>by
   rw[gJ (by rw[zA];exact hnt),gO uf];exact ho
  unfold Ti;simp only[E3,NP,mU,p8,R.aB];rcases h2 with h2 | h2
  ·simp only[gn _ h2,e0,kk]
  ·have e1:(st.set sf zm++[A,.dkc []]:ak)=T 0:=by rw[<-e0,set_same (gn _ h2)]
   simp only[gn _ h2,kk];rw[e1]
 have tsf:∀i,(T i)[sf]? = some zm:=λi=>by
  rw[gJ (by rw[z0];exact Qq),gO (ae1 uf)];simp[Qq]
 have tnt:∀i,(T i)[nt]? = some (.dkf (aX (vA ls))):=λi=>by
  rw[gJ (by rw[z0];exact hnt)];simp[S0,hnt]
 have tw:∀i,(T i)[st.length+1]? = some (.dkc (L_ (st.length+3) ls i)):=λi=>by
  rw[kh (by rw[z0];omega),z0,show st.length+1 - st.length=1 by omega];rfl
 have n1:sf≠1:=λe=>by rw[e,hb.t1]at h1;cases h1
 have n2:sf≠2:=λe=>by rw[e,hb.t2]at h1;cases h1
 have n3:nt≠1:=λe=>by rw[e,hb.t1]at h2;simp at h2
 have n4:nt≠2:=λe=>by rw[e,hb.t2]at h2;simp at h2
 have bS:Bs S0:=⟨by rw[gO n3,gO n1];exact hb.t1,by rw[gO n4,gO n2];exact hb.t2,MN (MN hb.c rfl) rfl⟩;have bT:∀i,Bs (T i):=λi=>bS.app (by simp[J8,A]);have tl:∀i,i<=ls.length->(T i).length=st.length+2+2*i:=λi hi=>by
  have:=J7 m ls i hi;simp only[T,gK,gr,this,z0];omega
 have lb:lv Ld<=400000:=by
  have:=Ja (f:=look [([97],uD ls 95),([116],tK)]) (b:=60) (by omega) (λs v e=>by
   have:=zj4 e;simp only[gf,g_,ae3,Prod.mk.injEq]at this;rcases this with⟨_,rfl⟩ | ⟨_,rfl⟩
   ·exact VL ls hl 95
   ·decide) (cT (b_ m) iW)
  have h6:lv (cT (b_ m) iW)*60<=1000*60:=Nat.mul_le_mul_right 60 l2;show lv (sb _ _)<=_;omega
 unfold Uj bB bw Ys;generalize hB:(aC (aG 7 _) _:MS)=B;obtain⟨bW,st',hh,a6,a7,rfl,rfl⟩:=uc (g:=aM 6) (b:=B) (gs:=[]) (items:=ls.map λc=>D.str [c]) (λi env s=>∃(a6 a7:Option D),env=E3 a6 a7/\s=T i)
  (env:=E3 none none) (st:=T 0) ⟨none,none,rfl,rfl⟩ (by
   rintro i d env s hi ⟨a6,a7,rfl,rfl⟩;obtain⟨c,hc,rfl⟩:=Gj hi;have yz:=(gh.mp hc).1;have ei:=Gk hn hc
   let P:ak:=T i++[.dkc (aX [([119],uD ls c)])]
   have pl:P.length=st.length+3+2*i:=by simp[P,tl i (by omega)];omega
   have bP:Bs (P++[.dkc []]):=((bT i).app (by simp)).app (by simp);have gp:(P++[.dkc []])[(T i).length]? = some (.dkc (aX [([119],uD ls c)])):=by simp[P]
   have sk:=aax (L_ (st.length+3) ls i) (st.length+1) [c] (.loc P.length) (P++[Um m ls c]) (bV (bV (tw i))) (by simp[L_];omega) (λp hp=>by
    obtain⟨x,hx,rfl⟩:=gj.mp hp;intro e;have:x=c:=by have:=RG.mp (afm e);simpa using this
    exact znu hn hc hx this)
   have e2:(P++[Um m ls c]).set (st.length+1) (.dkc (L_ (st.length+3) ls i++[(.inr (strOf [c]),.loc P.length)]))=T (i+1):=by
    have ew:L_ (st.length+3) ls (i+1)=L_ (st.length+3) ls i++[(.inr (strOf [c]),.loc P.length)]:=by
     unfold L_;rw[mH,hc,pl];simp[ei]
    show (S0++A::_::uP m ls i++[_]++[_]).set _ _=S0++A::_::uP m ls (i+1);rw[Ei m hc,ew];simp only[gP,pA,mL,gL];rw[List.set_append,aeS (by rw[z0];omega),z0,show st.length+1 - st.length=1 by omega]
    rfl
   rw[e2]at sk;refine⟨by simp,E3 (some (.str [c])) a7,T i,rfl,E3 (some (.str [c])) (some (.loc (T i).length)),T (i+1),.inl ?_,_,_,rfl,rfl⟩;rw[<-hB];exact bO (Bp _ _ (uD ls c) _ _ λs=>aL rfl rfl (XJ (vA ls) nt [c] _ _ (.inr (bV (tnt i))) (XX (gU hc))))
    (wX (Tj _ _ (by decide) _ _ (lK m (uD ls 95) (uD ls c)) (qO m (uD ls c)) _ P (aY (zh5 _ Ld _ _ gp bP.t2 bP.c lb) rfl) (aY (zh5 _ (cT (b_ m) oR) _ _ gp bP.t2 bP.c (by omega)) rfl))
     (ZG (lV rfl (bV (bV (tsf i))) rfl) rfl sk))) (λ_ _ _=>by simp)
 rw[gm]at hh
 let C1:MO:=.lst (aP (iK (du m) dZ))
 let C2:MO:=.lst (aP (iK (b_ m) iW))
 let C3:MO:=.lst (aP (iK (b_ m) oR))
 have bC1:Bs (T ls.length++[C1]):=(bT _).app (by simp[C1]);obtain⟨m1,m2⟩:=zj3 dZ (du m) (T ls.length) (bT _) (by decide) l4;obtain⟨m3,m4⟩:=zj3 iW (b_ m) (T ls.length++[C1]) bC1 (by decide) l1;have xR:sf<(T ls.length++[C1]++[C2]).length:=by rw[gK,gK,tl _ (gb _)];omega
 have bC2:Bs ((T ls.length++[C1]++[C2]).set sf Wv):=by
  have b:=bC1.app (g:=[C2]) (by simp[C2]);exact⟨by rw[gO n1];exact b.t1,by rw[gO n2];exact b.t2,MN b.c rfl⟩
 obtain⟨m5,m6⟩:=zj3 oR (b_ m) _ bC2 (by decide) l1
 let stE:ak:=(((T ls.length++[C1]++[C2]).set sf Wv)++[C3]).set sf JR
 have hsE:sf<(((T ls.length++[C1]++[C2]).set sf Wv)++[C3]).length:=by
  rw[gK,pq];omega
 have esf:stE[sf]? = some JR:=m8 hsE;have eo:∀j o,j≠sf->(T ls.length)[j]? = some o->stE[j]? = some o:=λj o hj ho=>by
  show ((_:ak).set sf JR)[j]? = _;rw[gO (ae1 hj)];refine bV ?_;rw[gO (ae1 hj)];exact bV (bV ho)
 have Ec:∀j,j<st.length->(T ls.length)[j]? = S0[j]?:=λj hj=>by rw[gJ (by rw[z0];exact hj)]
 have cE:bJ stE:=MN ((xx _ _).mpr ⟨bC2.c,by simp[C3]⟩) rfl;have WW:=zx (st:=st) (st':=stE) (d:=.non) Qq (by rw[esf,h1];simp[JR,mvF]);refine⟨stE,?_,λj o hj ho=>?_,?_,⟨st.length+1,L_ (st.length+3) ls ls.length,esf,?_,λc hc=>?_⟩,cE,?_⟩
 ·have e5:(st.set sf (.ins "Move" [p1])++[A]++[.dkc []]:ak).set sf (.ins "Move" [p1,("written",.loc (st.set sf (.ins "Move" [p1])++[A]).length)])=st.set sf zm++[A,.dkc []]:=by
   rw[gP,Z9 _ _ _ _ (by rw[zA];exact Qq),List.set_set,gK,zA];rfl
  refine S8 (bO (aY (zk9 m st) rfl) (bO (aY (wB _ (cT (b_ m) iW) st hb (by omega)) (aK (aY (Yl iW (b_ m) st hb.t1 hb.c (by decide) l1) rfl) (aK (Tj _ _ (by decide) _ _ (uD ls 95) tK _ _ (aL rfl rfl (XJ (vA ls) nt [95] _ _ (by rcases h2 with h2 | h2;exact .inl (bV h2);exact .inr (bV h2)) (XX h95))) rfl) rfl)))
   (bO (aY (Yl oR (b_ m) (st++[A]) b1.t1 b1.c (by decide) l1) rfl)
   (Gi (aY (Yl dZ (du m) (st++[A]) b1.t1 b1.c (by decide) l4) (aK rfl (aK (aY (zi9 m _) rfl) rfl))) rfl (bV h1) (Z9 _ _ _ _ Qq)
   (Gi (fs:=[p1]) rfl rfl (by rw[gP,gJ (by rw[zA];exact Qq)];simp[Qq];rfl) e5
   (XF dk hh (bO (aL (q_ m2 (aK (aY m1 (aK rfl (aK (aY (zi9 m _) rfl) rfl))) rfl)) rfl (add_int (k:=((vW m:Nat):Int)) (by unfold vW;omega)))
   (Gi (aL rfl (q_ m4 (aK (aY m3 rfl) rfl)) (Rr rfl)) rfl (bV (bV (tsf _))) rfl
   (zk4 (aL (aL rfl (aY (zea 2 _ (by omega)) rfl) (add_int rfl)) (q_ m6 (aK (aY m5 rfl) rfl)) (add_int (k:=((vW m+J_ m:Nat):Int)) (by unfold J_;omega))) rfl (bV (m8 xR)) (by simp)))))))))) rfl WW
 ·simp only[gf,g_,ae3,not_or]at hj;have hjl:=(gh.mp ho).1;refine eo j o hj.1 ?_;rw[Ec j hjl,gO (ae1 hj.2),gO (ae1 hj.1)];exact ho
 ·exact eo nt _ (ae1 uf) (tnt _)
 ·exact eo _ _ (by omega) (tw _)
 ·refine⟨st.length+3+2*bR ls c,?_,?_⟩
  ·unfold L_;rw[k_];exact Gv ls (λc=>D.loc (st.length+3+2*bR ls c)) hc
  ·refine eo _ _ (by omega) ?_;have hi:=Gm hc;have yz:=FP hc;generalize bR ls c=i at hi yz ⊢;rw[kh (by rw[z0];omega),z0,show st.length+3+2*i - st.length=(2*i+1)+2 by omega,mU,mU];unfold uP;rw[k_];have key:∀(l:List Nat) (i:Nat),l[i]? = some c->((l.map (gL m ls)).flatten)[2*i+1]? = some (Um m ls c):=by
    intro l
    induction l with
    | nil=>intro i h;simp at h
    | cons x l ih =>
     intro i h;rw[gw,m_];cases i with
     | zero =>
      obtain rfl:x=c:=by simpa using h
      rfl
     | succ i =>
      rw[kh (by simp[gL];omega)];have:=ih i (by simpa using h);rw[show 2*(i+1)+1 - (gL m ls x).length=2*i+1 by simp[gL];omega];exact this
   exact key ls i hi
 ·show st.length<=((_:ak).set sf JR).length;rw[pq,gK,pq,gK,gK,tl _ (gb _)];omega
end Law
set_option maxHeartbeats 0
namespace Law
open L2 M Tr
def JC{kvs:List (Key×D)}{n:Nat}{s:List Nat}{d:D}{st:ak}(h:st[n]? = some (.dkc kvs))(hv:valN kvs (.inr (strOf s))=some d):vJ (.loc n) (.str s) st=.ok d st:=by
 unfold vJ;simp only[h,xO,hv]
def abk{kvs:List (Key×D)}{n:Nat}{i:Int}{d:D}{st:ak}(h:st[n]? = some (.dkc kvs))(hv:valN kvs (.inl i)=some d):vJ (.loc n) (.int i) st=.ok d st:=by
 unfold vJ;simp only[h,zot,hv]
def zm5(m:Bool)(ls:List Nat)(n:Nat)(st:ak)(hb:Bs st)(h:d8 st n m ls)(c:Nat)(hc:c∈ls)(way:Tr):zer [.loc n,.str [c],enc way] st=.ok (enc (xM m (uD ls 95) (uD ls c) way)) st:=by
 obtain⟨w,W,h1,h2,h3⟩:=h;obtain⟨q,q1,q2⟩:=h3 c hc
 let σ:List (List Nat×Tr):=[(La,lK m (uD ls 95) (uD ls c)),(J9,qO m (uD ls c))]
 have dc:sE [.loc q] st=.ok (.loc st.length) (st++[.dkc (aX σ)]):=by
  unfold sE;simp only[q2,Um];rfl
 have sk:=zox σ st.length [103] way (st++[.dkc (aX σ)]) (by simp) (by simp[σ]) (by simp[σ,La,J9]);rw[RD _ _ _ _ rfl]at sk;exact aW (bO (q_ dc (aK (aL (lV rfl h1 rfl) rfl (JC h2 q1)) rfl)) (VB rfl (ZG rfl rfl sk) (dM (aY (wB _ (cT (du m) dZ) st hb (by have:=(I_ m).2.2.2.2;omega)) (aK (lV rfl (bV h1) rfl) rfl))))) rfl (lW (iQ _ _))
def G3(ls:List Nat)(f:Nat->Tr)(n c:Nat)(v:Tr)(st:ak)(h:st[n]? = some (.dkc (aX (ls.map λc=>([c],f c)))))(hc:c∈ls)(hl:ls.length<=1000):lr (.loc n) (.str [c]) (enc v) st=.ok () (st.set n (.dkc (aX (ls.map λx=>([x],if x=c then v else f x))))):=by
 unfold lr;simp only[h,xO];rw[aeQ (by simp[aX];omega)];congr 3;unfold putN;rw[aeQ]
 ·unfold aX;rw[gG,gG,gG];refine kE λx _=>?_;simp only[Function.comp];by_cases e:x=c
  ·rw[aeQ (by rw[e]),aeQ e]
  ·rw[aeS (λz=>e (by have:=RG.mp (afm z);simpa using this)),aeS e]
 ·simp only[aX,ph,afh];exact⟨(.inr (strOf [c]),enc (f c)),by
   rw[gG];exact gj.mpr ⟨c,hc,rfl⟩,rfl⟩
def Cp(ss:List Nat)(f:Nat->D){s:Nat}(h:s∈ss):valN (ss.map λ(s:Nat)=>(Sum.inl (s:Int),f s)) (.inl (s:Int))=some (f s):=by
 induction ss with
 | nil=>cases h
 | cons x l ih =>
  rw[gw,Yh];by_cases e:x=s
  ·rw[aeQ (by rw[e]),e]
  ·rw[aeS (λz=>e (by have:=Sum.inl.inj z;omega))];exact ih ((gf.mp h).resolve_left (ae1 e))
structure Mt(st:ak)(b:Nat)(B:Bk)(fs:List (PySem.Str×D))(ns nk nt nm ml mr:Nat):Prop where
 o:st[b]? = some (.ins "Book" fs)
 f1:fs.lookup ("letters":PySem.Str)=some (D.str B.ls)
 f2:fs.lookup ("states":PySem.Str)=some (D.loc ns)
 f3:fs.lookup ("by_key":PySem.Str)=some (D.loc nk)
 f4:fs.lookup ("sign_trees":PySem.Str)=some (D.loc nt)
 f5:fs.lookup ("moves":PySem.Str)=some (D.loc nm)
 f6:fs.lookup ("start_cost":PySem.Str)=some (D.int (Nz B.ls:Nat))
 s:st[ns]? = some (.lst (B.ss.map λs=>D.int (s:Nat)))
 k:st[nk]? = some (.dic (tab [] (B.rs.map eZ)))
 t:st[nt]? = some (.dkf (aX (vA B.ls)))
 m:st[nm]? = some (.dkc [(.inr (strOf [108]),.loc ml),(.inr (strOf [114]),.loc mr)])
 l:d8 st ml true B.ls
 r:d8 st mr false B.ls
def Mt.mono{st st':ak}{b:Nat}{B:Bk}{fs:List (PySem.Str×D)}{ns nk nt nm ml mr:Nat}(h:Mt st b B fs ns nk nt nm ml mr)(k:Keeps st st' []):Mt st' b B fs ns nk nt nm ml mr :=
 ⟨k _ _ (by simp) h.o,h.f1,h.f2,h.f3,h.f4,h.f5,h.f6,k _ _ (by simp) h.s,k _ _ (by simp) h.k,k _ _ (by simp) h.t,k _ _ (by simp) h.m,h.l.mono k,h.r.mono k⟩
def Mt.mv{st:ak}{b:Nat}{B:Bk}{fs:List (PySem.Str×D)}{ns nk nt nm ml mr:Nat}(h:Mt st b B fs ns nk nt nm ml mr)(m:Bool):∃mo,d8 st mo m B.ls/\vJ (.loc nm) (.str (Ga m)) st=.ok (.loc mo) st:=by
 cases m with
 | true=>exact⟨ml,h.l,JC h.m rfl⟩
 | false=>exact⟨mr,h.r,JC h.m (by
  have ne:¬ strOf [108]=strOf (Ga false):=λe=>by have:=RG.mp e;simp[Ga]at this
  rw[Yh,aeS (λe=>ne (afm e)),Yh];exact aeQ rfl)⟩
structure lU(B:Bk):Prop where
 ok:Rm B
 vH:∀c∈B.ls,Let c
 few:B.ls.length<=9
 x:∀r∈B.rs,r.x∈B.ls
 ss:B.ss.length<=512
 s0:0<B.ss.length
 rs:B.rs.length<=1000
def aac(B:Bk):List (Key×D):=B.ss.map λ(s:Nat)=>(Sum.inl (s:Int),enc (oV (oZ B s)))
def zpi(B:Bk)(hB:lU B)(b:Nat)(fs:List (PySem.Str×D))(ns nk nt nm ml mr s ne nw:Nat)(st:ak)(hb:Bs st)(hk:Mt st b B fs ns nk nt nm ml mr)
  (he:st[ne]? = some (.dkc (aX (B.ls.map λc=>([c],jM (cN B c)))))) (hw:st[nw]? = some (.dkc (aac B))) :
  zd8 [.loc b,.int s,.loc ne,.loc nw] st=.ok (.loc st.length) (st++[.dkc (aX (B.ls.map λc=>([c],cW B s c)))]):=by
 have dc:sE [.loc ne] st=.ok (.loc st.length) (st++[.dkc (aX (B.ls.map λc=>([c],jM (cN B c))))]):=by
  unfold sE;simp only[he]
 have ha:=wI hB.vH
 let mx:Nat->Nat->Tr:=λi c=>if bR B.ls c<i then cW B s c else jM (cN B c)
 let Z:Nat->ak:=λi=>st++[.dkc (aX (B.ls.map λc=>([c],mx i c)))]
 have z0:st++[.dkc (aX (B.ls.map λc=>([c],jM (cN B c))))]=Z 0:=by
  show _=st++[MO.dkc (aX (B.ls.map λc=>([c],mx 0 c)))];have:(λc=>([c],jM (cN B c)))=λc=>([c],mx 0 c):=by funext c;simp[mx]
  rw[this]
 rw[z0]at dc;have zn:Z B.ls.length=st++[.dkc (aX (B.ls.map λc=>([c],cW B s c)))]:=by
  show st++[MO.dkc (aX (B.ls.map λc=>([c],mx B.ls.length c)))]=_;have:(B.ls.map λc=>([c],mx B.ls.length c))=B.ls.map λc=>([c],cW B s c):=kE λc hc=>by simp[mx,FP hc]
  rw[this]
 have kz:∀i,Keeps st (Z i) []:=λi=>Keeps.app st _;have bz:∀i,Bs (Z i):=λi=>hb.app (by simp)
 let E:Option D->Option D->aJ:=λa5 a6=>[some (.loc b),some (.int s),some (.loc ne),some (.loc nw),some (.loc st.length),a5,a6]
 unfold zd8 bB bw ziv;generalize SX:(aC (aG 6 _) _:MS)=BD;obtain⟨bW,st',hh,a5,a6,rfl,rfl⟩:=uc (g:=aM 5) (b:=BD) (gs:=[]) (items:=B.ls.map λc=>D.str [c]) (λi env s=>∃(a5 a6:Option D),env=E a5 a6/\s=Z i)
  (env:=E none none) (st:=Z 0) ⟨none,none,rfl,rfl⟩ (by
   rintro i d env s' hi ⟨a5,a6,rfl,rfl⟩;obtain⟨c,hc,rfl⟩:=Gj hi;have yz:=(gh.mp hc).1;have Gd:=gU hc;have ei:=Gk hB.ok.nl hc;have hz:=hk.mono (kz i);have gk:=Py B nk s c (Z i) hz.k;have ty:dw "dict" (.loc nk) (Z i)=true:=by simp[dw,hz.k]
   have mxs:(B.ls.map λx=>([x],if x=c then cW B s c else mx i x))=B.ls.map λx=>([x],mx (i+1) x):=kE λx hx=>by
    by_cases e:x=c
    ·subst e;simp[mx,ei]
    ·have:bR B.ls x≠i:=λq=>e (by
      have h1:=Gm hx;rw[q,hc]at h1;exact (aeU h1).symm)
     rw[aeS e];show ([x],mx i x)=([x],mx (i+1) x);have:(bR B.ls x<i)=(bR B.ls x<i+1):=by rw[eq_iff_iff];omega
     simp only[mx,this]
   cases hf:Xd B s c with
   | none =>
    rw[hf]at gk;dsimp only at gk;have same:Z i=Z (i+1):=by
     show st++[MO.dkc (aX (B.ls.map λc=>([c],mx i c)))]=st++[MO.dkc (aX (B.ls.map λc=>([c],mx (i+1) c)))];rw[<-mxs];have:(B.ls.map λx=>([x],if x=c then cW B s c else mx i x))=B.ls.map λx=>([x],mx i x):=kE λx hx=>by
      by_cases e:x=c
      ·subst e;rw[aeQ rfl];have hd:cW B s x=jM (cN B x):=by unfold cW;rw[hf]
       simp[mx,ei,hd]
      ·rw[aeS e]
     rw[this]
    refine⟨by simp,E (some (.str [c])) a6,Z i,rfl,E (some (.str [c])) (some .non),Z (i+1),.inl ?_,_,_,rfl,rfl⟩;rw[<-SX,<-same];exact bO (uZ (lV rfl hz.o hz.f3) ty (aK (yG rfl) rfl) gk) (Lr (cZ (aL rfl rfl rfl)))
   | some r =>
    rw[hf]at gk;dsimp only at gk;have hr:=hB.ok.ru r (List.mem_of_find?_eq_some hf);have hd:cW B s c=xM r.m (cN B 95) (cN B r.w) (oV (oZ B r.g)):=by unfold cW;rw[hf]
    obtain⟨mo,hmo,ixm⟩:=hz.mv r.m;have adP:=hmo;obtain⟨w,W,o1,_,_⟩:=adP;have md:=zm5 r.m B.ls mo (Z i) (bz i) hmo r.w hr.2 (oV (oZ B r.g));rw[show xM r.m (uD B.ls 95) (uD B.ls r.w) (oV (oZ B r.g))=cW B s c from hd.symm]at md;rw[Zy]at gk;have sk:=G3 B.ls (mx i) st.length c (cW B s c) (Z i) (by simp[Z]) Gd (by have:=hB.few;omega);rw[mxs]at sk;rw[show (Z i).set st.length _=Z (i+1) from RD _ _ _ _ rfl]at sk;refine⟨by simp,E (some (.str [c])) a6,Z i,rfl,E (some (.str [c])) (some (jc r)),Z (i+1),.inl ?_,_,_,rfl,rfl⟩;rw[<-SX,Zy];exact bO (uZ (lV rfl hz.o hz.f3) ty (aK (yG rfl) rfl) gk) (oU (cZ (aL rfl rfl rfl))
     (wX (IV (aL (lV rfl hz.o hz.f5) (aL rfl rfl q9) ixm) o1 (aK (aL rfl rfl q9) (aK (aL rfl (aL rfl rfl q9) (abk (kz i _ _ (by simp) hw) (Cp B.ss (λs=>enc (oV (oZ B s))) hr.1))) rfl)) o1 md) (ZG rfl rfl sk)))) (λ_ _ _=>by simp)
 rw[gm]at hh;have g:=Mv (st:=st) (o:=.dkc (aX (B.ls.map λc=>([c],cW B s c)))) (λp hp=>by
  unfold aX at hp;obtain⟨q,_,rfl⟩:=gj.mp hp;exact iQ _ _)
 rw[<-zn]at g ⊢;exact aW (bO (q_ dc rfl) (XF (zok (lV rfl (hk.mono (kz 0)).o hk.f1) ha) hh (dM rfl))) rfl g
end Law
set_option maxHeartbeats 0
namespace Law
open L2 M Tr
def aaw(kvs:List (Key×D))(n:Nat)(i:Int)(d:D)(st:ak)(h:st[n]? = some (.dkc kvs))(hl:kvs.length<=10000)(hs:∀p∈kvs,p.1≠.inl i):lr (.loc n) (.int i) d st=.ok () (st.set n (.dkc (kvs++[(.inl i,d)]))):=by
 unfold lr;simp only[h,zot];rw[aeQ (by omega)];congr 3;unfold putN;rw[aeS];simp only[ph,afh,not_exists,not_and];exact hs
def zo1(ss:List Nat)(n:Nat)(st:ak)(m:ME)(env:aJ)(hm:m env st=.ok (.loc n) st)(h:st[n]? = some (.lst (ss.map λs=>D.int (s:Nat)))) :
  qQ (aj m au) env st=.ok (cM 0 (ss.map λs=>D.int (s:Nat)),[(n,.lst (ss.map λs=>D.int (s:Nat)))]) st:=by
 generalize (ss.map λs=>D.int (s:Nat))=X at *;simp[hm,qF,h]
def Rb(st:ak)(A B:MO)(ds:List D)(G:ak)(d:D)(h:ds.length<1000):a_ (.loc (st.length+2)) [d] (st++A::B::.lst ds::G)=.ok .non (st++A::B::.lst (ds++[d])::G):=by
 have e:(st++A::B::.lst ds::G)[st.length+2]? = some (.lst ds):=eV (k:=2) rfl;have e2:(st++A::B::.lst ds::G).set (st.length+2) (.lst (ds++[d]))=st++A::B::.lst (ds++[d])::G:=by
  rw[List.set_append,aeS (by omega),show st.length+2 - st.length=2 by omega];rfl
 unfold a_;dsimp only;rw[e];dsimp only;rw[aeQ (by omega),e2]
def zse(B:Bk)(hB:lU B)(b:Nat)(fs:List (PySem.Str×D))(ns nk nt nm ml mr:Nat)(st:ak)(hb:Bs st)(hk:Mt st b B fs ns nk nt nm ml mr) :
  zfa [.loc b] st=.ok (.loc st.length) (st++[.lst ((B.ss.map (fW B)).map enc)]):=by
 have Ml:=hB.ss;have uO:=hB.few;have ha:=wI hB.vH
 let EN:MO:=.dkc (aX (B.ls.map λc=>([c],jM (cN B c))))
 let WY:MO:=.dkc (aac B)
 let PL:D:=enc (cT (cU B.ls) jN)
 unfold zfa bB bw zjk;generalize hB1:(oH (az zc6 _ _) _:MS)=B1;generalize Gf:(oH (az zf0 _ _) _:MS)=B2;generalize hB3:(dH _:MS)=B3
 let E:Option D->Option D->Option D->Option D->Option D->aJ:=λa4 a5 a6 a7 a8=>[some (.loc b),some (.int (B.ss.length:Nat)),some PL,some (.loc st.length),a4,a5,a6,a7,a8]

 let Z:Nat->ak:=λi=>st++[.dkc (aX ((B.ls.take i).map λc=>([c],jM (cN B c))))]
 have hz:=λi=>hk.mono (Keeps.app st [.dkc (aX ((B.ls.take i).map λc=>([c],jM (cN B c))))]);obtain⟨bW,st',h1,a4,rfl,rfl⟩:=uc (g:=aM 4) (b:=B1) (gs:=[]) (items:=B.ls.map λc=>D.str [c]) (λi env s=>∃(a4:Option D),env=E a4 none none none none/\s=Z i)
  (env:=E none none none none none) (st:=Z 0) ⟨none,rfl,rfl⟩ (by
   rintro i d env s hi ⟨a4,rfl,rfl⟩;obtain⟨c,hc,rfl⟩:=Gj hi;have sk:=zox ((B.ls.take i).map λc=>([c],jM (cN B c))) st.length [c] (jM (cN B c)) (Z i) (by simp[Z]) (by simp;omega) (λp hp=>by
    obtain⟨x,hx,rfl⟩:=gj.mp hp;intro e;exact znu hB.ok.nl hc hx (by simpa using e))
   have es:(Z i).set st.length (.dkc (aX (((B.ls.take i).map λc=>([c],jM (cN B c)))++[([c],jM (cN B c))])))=Z (i+1):=by
    show (st++_).set _ _=st++_;rw[RD _ _ _ _ rfl,mH,hc];simp
   rw[es]at sk;refine⟨by simp,E (some (.str [c])) none none none none,Z i,rfl,_,Z (i+1),.inl ?_,some (.str [c]),rfl,rfl⟩;rw[<-hB1];exact wX (aY (zp7 (cN B c) (Z i) (hb.app (by simp))) (aK (aL (lV rfl (hz i).o hk.f4) rfl (XJ (vA B.ls) nt [c] _ (Z i) (.inr (hz i).t) (XX (gU hc)))) rfl)) (ZG rfl rfl sk)) (λ_ _ _=>by simp)
 rw[gm]at h1;rw[show Z B.ls.length=st++[EN] by show st++_=_;rw[k_]]at h1

 have SN:Bs (st++[EN]):=hb.app (by simp[EN]);have zr:=hk.mono (Keeps.app st [EN]);have l1:(st++[EN]).length=st.length+1:=by simp
 let wy:Nat->Key×D:=λ(s:Nat)=>(Sum.inl (s:Int),enc (oV (oZ B s)))
 let Y:Nat->ak:=λi=>st++[EN]++[.dkc ((B.ss.take i).map wy)]
 have hy:=λi=>zr.mono (Keeps.app (st++[EN]) [.dkc ((B.ss.take i).map wy)]);obtain⟨bW,st',h2,a6,a7,rfl,rfl⟩:=uc (g:=rD 2 (dY (aM 6) (dY (aM 7) tQ))) (b:=B2) (gs:=[(ns,.lst (B.ss.map λs=>D.int (s:Nat)))]) (items:=cM 0 (B.ss.map λs=>D.int (s:Nat))) (λi env s=>∃(a6 a7:Option D),env=E a4 (some (.loc (st++[EN]).length)) a6 a7 none/\s=Y i)
  (env:=E a4 (some (.loc (st++[EN]).length)) none none none) (st:=Y 0) ⟨none,none,rfl,rfl⟩ (by
   rintro i d env s' hi ⟨a6,a7,rfl,rfl⟩;obtain⟨y,Qp,rfl⟩:=zkw hi;obtain⟨s,hs,rfl⟩:=Gj Qp;have yz:=(gh.mp hs).1;have wt:=Cg i B.ss.length (Y i) (SN.app (by simp)) yz (by omega);rw[show dD 13 i B.ss.length=oZ B s by unfold oZ;rw[Gk hB.ok.ns hs]]at wt;have sk:=aaw ((B.ss.take i).map wy) (st++[EN]).length (s:Nat) (enc (oV (oZ B s))) (Y i) (by simp[Y]) (by simp;omega) (λp hp=>by
    obtain⟨x,hx,rfl⟩:=gj.mp hp;intro e;have:=Sum.inl.inj e;exact znu hB.ok.ns hs hx (by omega))
   rw[show (Y i).set (st++[EN]).length (.dkc ((B.ss.take i).map wy++[(.inl (s:Nat),enc (oV (oZ B s)))]))=Y (i+1) by
    show (st++[EN]++_).set _ _=st++[EN]++_;rw[RD _ _ _ _ rfl,mH,hs];simp[wy]]at sk
   refine⟨t_ (hy i).s,E a4 (some (.loc (st++[EN]).length)) (some (.int i)) (some (.int s)) none,Y i,rfl,_,Y (i+1),.inl ?_,some (.int i),some (.int s),rfl,rfl⟩;rw[<-Gf];exact wX (aY wt rfl) (ZG rfl rfl sk)) (λ_ _ h=>by obtain⟨_,_,_,rfl⟩:=h;exact t_ (hy _).s)
 rw[T7,gm]at h2;rw[show Y B.ss.length=st++[EN]++[WY] by show st++[EN]++_=_;rw[k_];rfl]at h2

 let E5:Option D->Option D->aJ:=λa6 a7=>E a4 (some (.loc (st++[EN]).length)) a6 a7 (some (.loc (st++[EN]++[WY]).length))
 let S:Nat->ak->ak:=λi G=>st++EN::WY::.lst (((B.ss.take i).map (fW B)).map enc)::G
 have hS:=λi G=>hk.mono (Keeps.app st (EN::WY::.lst (((B.ss.take i).map (fW B)).map enc)::G));have l2:(st++[EN]++[WY]).length=st.length+2:=by simp
 obtain⟨bW,st',h3,a6',a7',G,hG,rfl,rfl⟩:=uc (g:=rD 2 (dY (aM 6) (dY (aM 7) tQ))) (b:=B3) (gs:=[(ns,.lst (B.ss.map λs=>D.int (s:Nat)))]) (items:=cM 0 (B.ss.map λs=>D.int (s:Nat))) (λi env s=>∃(a6 a7:Option D) (G:ak),bJ G/\env=E5 a6 a7/\s=S i G)
  (env:=E5 a6 a7) (st:=S 0 []) ⟨a6,a7,[],by simp,rfl,rfl⟩ (by
   rintro i d env s' hi ⟨a6,a7,G,hG,rfl,rfl⟩;obtain⟨y,Qp,rfl⟩:=zkw hi;obtain⟨s,hs,rfl⟩:=Gj Qp;have yz:=(gh.mp hs).1;have bz:Bs (S i G):=hb.app (by simp[EN,WY,hG]);have pk:=ZP i B.ss.length (S i G) bz.t1 bz.c yz (by omega);rw[show bM i B.ss.length=ue B s by unfold ue;rw[Gk hB.ok.ns hs]]at pk
   let DK:ak:=[.dkc (aX (B.ls.map λc=>([c],cW B s c)))]
   have ro:=C_ B.ls hB.ok.nl hB.vH hB.few (cT (cU B.ls) jN) (ue B s) (cW B s) (S i G).length (S i G++DK) (bz.app (by simp[DK])) (by simp[DK]) (by rw[(aaz B.ls hB.few).2.2];omega);rw[RD _ _ _ _ rfl]at ro
   let G':ak:=G++[.dkf (aX (B.ls.map λc=>([c],cW B s c)))]++[.dkc (aX (([110],ue B s)::B.ls.map λc=>(dn c,cW B s c)))]
   rw[show S i G++[.dkf (aX (B.ls.map λc=>([c],cW B s c)))]++[.dkc (aX (([110],ue B s)::B.ls.map λc=>(dn c,cW B s c)))]=S i G' by
    show st++EN::WY::_::G++_++_=st++EN::WY::_::G';simp only[G',gP,pA]]at ro
   have ap:=Rb st EN WY (((B.ss.take i).map (fW B)).map enc) G' (enc (fW B s)) (by simp;omega);rw[show st++EN::WY::.lst (((B.ss.take i).map (fW B)).map enc++[enc (fW B s)])::G'=S (i+1) G' by
    show _=st++EN::WY::.lst (((B.ss.take (i+1)).map (fW B)).map enc)::G';rw[mH,hs];simp,<-l2]at ap
   refine⟨t_ (hS i G).s,E5 (some (.int i)) (some (.int s)),S i G,rfl,_,S (i+1) G',.inl ?_,some (.int i),some (.int s),G',by simp[G',hG],rfl,rfl⟩;rw[<-hB3];exact xn (uZ rfl (by simp[dw,S]) (aK (aY ro (aK rfl (aK (aY pk rfl) (aK (aY (zpi B hB b fs ns nk nt nm ml mr s st.length _ (S i G) bz (hS i G) (eV (k:=0) rfl) (eV (k:=1) rfl l1)) rfl) rfl)))) rfl) ap)) (λ_ _ h=>by obtain⟨_,_,G,_,_,rfl⟩:=h;exact t_ (hS _ G).s)
 rw[T7,gm]at h3;have ln:=Ls (st:=st) (n:=ns) (ds:=B.ss.map λs=>D.int (s:Nat)) (by unfold aA;rw[hk.s]);rw[gm]at ln;have g:=Zz (st:=st) (g:=[EN,WY]) (g':=G) (o:=.lst ((B.ss.map (fW B)).map enc)) (by
  show bU _ _;generalize B.ss.map (fW B)=ts
  induction ts with
  | nil=>simp
  | cons t ts ih=>simp[ih,iQ])
 have eS:S B.ss.length G=st++[EN,WY]++.lst ((B.ss.map (fW B)).map enc)::G:=by
  show st++EN::WY::.lst (((B.ss.take B.ss.length).map (fW B)).map enc)::G=_;rw[k_];simp
 rw[<-eS,show st.length+[EN,WY].length=(st++[EN]++[WY]).length from l2.symm]at g;have e3:st++[EN]++[WY]++[.lst []]=S 0 []:=by show _=st++EN::WY::.lst []::[];simp
 exact aW (bO (q_ ln (aK (lV rfl hk.o hk.f2) rfl)) (bO (aY (zp9 B.ls st hb hB.vH hB.few) (aK (lV rfl hk.o hk.f1) rfl)) (bO rfl (XF (zok (lV rfl (hz 0).o hk.f1) ha) h1 (bO rfl
  (XF (zo1 B.ss ns (Y 0) _ _ (lV rfl (hy 0).o hk.f2) (hy 0).s) h2 (bO (st1:=S 0 []) (by rw[<-e3];rfl) (XF (zo1 B.ss ns (S 0 []) _ _ (lV rfl (hS _ _).o hk.f2) (hS _ _).s) h3 (dM rfl))))))))) rfl g
end Law
set_option maxHeartbeats 0
namespace Law
open L2 M Tr
def Keeps.trans{a b c:ak}{ex:List Nat}(h:Keeps a b ex)(k:Keeps b c ex):Keeps a c ex:=λj o hj ho=>k j o hj (h j o hj ho)
def Keeps.more{a b:ak}{ex:List Nat}(h:Keeps a b []):Keeps a b ex:=λj o _ ho=>h j o (by simp) ho
def Keeps.set(a:ak)(n:Nat)(o:MO):Keeps a (a.set n o) [n]:=λj x hj hx=>by
 rw[gO (λe=>hj (by simp[e]))];exact hx
def Keeps.refl(a:ak)(ex:List Nat):Keeps a a ex:=λ_ _ _ h=>h
def qP{c:PySem.Str}{X X1:ak}{sf:Nat}{fs:List (PySem.Str×D)}(fs':List (PySem.Str×D))(h:X1[sf]? = some (.ins c fs))(k:Keeps X X1 [sf])(hc:bJ X1) :
  ∃X2,X1.set sf (.ins c fs')=X2/\X2[sf]? = some (.ins c fs')/\Keeps X X2 [sf]/\Keeps X1 X2 [sf]/\X2.length=X1.length/\bJ X2 :=
 ⟨_,rfl,m8 (gh.mp h).1,k.trans (Keeps.set _ _ _),Keeps.set _ _ _,pq,MN hc rfl⟩
def Am{c:PySem.Str}{F:FD}{mA:MA}{env:aJ}{X X1:ak}{as:List D}(ha:mA env X=.ok as X)(hf:F (.loc X.length::as) (X++[.ins c []])=.ok .non X1):iT c F mA env X=.ok (.loc X.length) X1:=by
 unfold iT;rw[ha,R.aB,hf];rfl
def d8.keeps{st st':ak}{n p:Nat}{m:Bool}{ls:List Nat}{o:MO}(h:d8 st n m ls)(k:Keeps st st' [p])(ho:st[p]? = some o)(hb:95∈ls)(h1:∀fs,o≠.ins "Move" fs)(h2:∀W,o=.dkc W->W=[]):d8 st' n m ls:=by
 obtain⟨w,W,q1,q2,q3⟩:=h;have kk:∀j x,st[j]? = some x->x≠o->st'[j]? = some x:=λj x hj hx=>k _ _ (λhm=>by obtain rfl:=gW.mp hm;rw[ho]at hj;cases hj;exact hx rfl) hj;refine⟨w,W,kk _ _ q1 (λe=>h1 _ e.symm),kk _ _ q2 (λe=>?_),λc hc=>?_⟩
 ·obtain⟨q,z,_⟩:=q3 95 hb;rw[h2 _ e.symm]at z;cases z
 ·obtain⟨q,z1,z2⟩:=q3 c hc;exact⟨q,z1,kk _ _ z2 (λe=>by have:=h2 _ e.symm;simp[aX]at this)⟩
def d8.book{st st':ak}{n sf:Nat}{m:Bool}{ls:List Nat}{fs:List (PySem.Str×D)}(h:d8 st n m ls)(k:Keeps st st' [sf])(ho:st[sf]? = some (.ins "Book" fs))(hb:95∈ls):d8 st' n m ls :=
 h.keeps k ho hb (λ_ e=>by injection e with e _;exact absurd e (by decide +kernel)) (λ_ e=>by cases e)
def Iz(B:Bk)(hB:lU B)(nt:Nat)(fe:ME)(env:aJ)(X:ak)(hb:Bs X)(hfe:∀Z,Keeps X Z [nt]->fe env Z=.ok (.loc nt) Z)(ht:X[nt]? = some (.dkc (aX (vA B.ls)))) :
  ∃X1 ml mr,fO (cO (ct (.str [108])) (iT "Move" Uj (aj (ct (.str [108])) (aj fe au))) (cO (ct (.str [114])) (iT "Move" Uj (aj (ct (.str [114])) (aj fe au))) iz)) env X=.ok (.loc X.length) X1 /\
   Keeps X X1 [nt]/\X1[nt]? = some (.dkf (aX (vA B.ls)))/\X1[X.length]? = some (.dkc [(.inr (strOf [108]),.loc ml),(.inr (strOf [114]),.loc mr)])/\d8 X1 ml true B.ls/\d8 X1 mr false B.ls/\bJ X1/\X.length<X1.length:=by
 have hnt:=(gh.mp ht).1
 let Y0:ak:=X++[.dkc []]
 have y0l:Y0.length=X.length+1:=by simp[Y0]
 have b0:Bs (Y0++[.ins "Move" []]):=(hb.app (by simp)).app (by simp;rfl);obtain⟨Y1,i1,k1,t1,m1,c1,l1⟩:=ziu true B.ls hB.ok.nl hB.vH hB.few hB.ok.bl Y0.length nt (Y0++[.ins "Move" []]) b0 (by simp) (.inl (bV (bV ht)));have kX1:Keeps X Y1 [nt]:=λj o hj h=>k1 j o (by
  have:=(gh.mp h).1;simp only[gf,g_,ae3,not_or]at hj ⊢;exact⟨by omega,hj⟩) (bV (bV h))
 have e1:=Am (c:="Move") (mA:=aj (ct (.str [108])) (aj fe au)) (env:=env) (aK rfl (aK (hfe Y0 (Keeps.app X _).more) rfl)) i1;have p0:Y1[X.length]? = some (.dkc []):=k1 _ _ (by
  simp only[gf,g_,ae3,not_or];exact⟨by omega,by omega⟩) (bV (by simp[Y0]))
 have y1l:X.length+1<Y1.length:=by
  have:(Y0++[.ins "Move" []]:ak).length=X.length+2:=(by simp[Y0]);omega
 have n1:nt≠1:=λe=>by rw[e,hb.t1]at ht;cases ht
 have n2:nt≠2:=λe=>by rw[e,hb.t2]at ht;cases ht
 have bY1:Bs Y1:=⟨kX1 _ _ (by simpa using ae1 n1) hb.t1,kX1 _ _ (by simpa using ae1 n2) hb.t2,c1⟩;obtain⟨Y2,i2,k2,t2,m2,c2,l2⟩:=ziu false B.ls hB.ok.nl hB.vH hB.few hB.ok.bl Y1.length nt (Y1++[.ins "Move" []]) (bY1.app (by simp;rfl)) (by simp) (.inr (bV t1));have e2:=Am (c:="Move") (mA:=aj (ct (.str [114])) (aj fe au)) (env:=env) (aK rfl (aK (hfe Y1 kX1) rfl)) i2;have k12:Keeps Y1 Y2 []:=λj o _ h=>by
  by_cases e:j=nt
  ·subst e;rw[t1]at h;cases h;exact t2
  ·refine k2 j o ?_ (bV h);have:=(gh.mp h).1;simp only[gf,g_,ae3,not_or];exact⟨by omega,e⟩
 have p1:Y2[X.length]? = some (.dkc []):=k12 _ _ (by simp) p0;have hx2:=(gh.mp p1).1
 let KV:MO:=.dkc [(.inr (strOf [108]),.loc Y0.length),(.inr (strOf [114]),.loc Y1.length)]
 have ks:=Keeps.set Y2 X.length KV;refine⟨Y2.set X.length KV,Y0.length,Y1.length,?_,?_,?_,m8 hx2,?_,?_,MN c2 rfl,by rw[pq];exact hx2⟩
 ·have Qu:¬ strOf [108]=strOf [114]:=λe=>by have:=RG.mp e;simp at this
  unfold fO;change ((cO _ _ _:Rn) env Y0).bind _=_;rw[zsp,aaH,R.aB,e1,R.aB,zsp,aaH,R.aB,e2];simp only[NQ,R.aB];rw[show uJ [(D.str [108],D.loc Y0.length),(D.str [114],D.loc Y1.length)]=some [(.inr (strOf [108]),.loc Y0.length),(.inr (strOf [114]),.loc Y1.length)] from rfl,p1];simp[jH,putN,Qu,KV]
 ·exact λj o hj h=>by
   have:=(gh.mp h).1;rw[gO (by omega)];exact k12 _ _ (by simp) (kX1 j o hj h)
 ·rw[gO (by omega)];exact t2
 ·exact m1.keeps (k12.more.trans ks) p0 hB.ok.bl (λ_=>by simp) (λW e=>by cases e;rfl)
 ·exact m2.keeps ks p1 hB.ok.bl (λ_=>by simp) (λW e=>by cases e;rfl)
theorem zn9:∀{t u:Tr},enc t=enc u->t=u
 | .lf s,.lf t,h=>by
  rw[enc,enc]at h;injection h with h;rw[h]
 | .lf s,.jn l r,h=>by rw[enc,enc]at h;cases h
 | .jn l r,.lf s,h=>by rw[enc,enc]at h;cases h
 | .jn l r,.jn l' r',h=>by
  rw[enc,enc]at h;injection h with h;injection h with h1 h2;injection h2 with h2 h3;rw[zn9 h1,zn9 h2]
open Classical in
noncomputable def xN(f:Tr->Tr):D->D:=λd=>if h:∃t,enc t=d then enc (f h.choose) else d
def zkl(f:Tr->Tr)(t:Tr):xN f (enc t)=enc (f t):=by
 have hx:∃u,enc u=enc t:=⟨t,rfl⟩;unfold xN;rw[dif_pos hx,zn9 hx.choose_spec]
def zo0(f:Tr->Tr)(ts:List Tr):(ts.map enc).map (xN f)=(ts.map f).map enc:=by
 rw[gG,gG];exact kE λt _=>zkl f t
structure eU(st:ak)(b:Nat)(B:Bk):Prop where
 ex:∃fs ns nk nt nm ml mr nr qC,Mt st b B fs ns nk nt nm ml mr/\fs.lookup ("state_trees":PySem.Str)=some (D.loc qC)/\st[qC]? = some (.lst ((B.ss.map (cz B)).map enc)) /\
  fs.lookup ("rules":PySem.Str)=some (D.loc nr)/\st[nr]? = some (.lst (B.rs.map jc))/\fs.lookup ("signs":PySem.Str)=some (D.str B.ls.tail)
def eU.mono{st st':ak}{b:Nat}{B:Bk}(h:eU st b B)(k:Keeps st st' []):eU st' b B:=by
 obtain⟨fs,ns,nk,nt,nm,ml,mr,nr,qC,h1,h2,h3,h4,h5,h6⟩:=h.ex;exact⟨fs,ns,nk,nt,nm,ml,mr,nr,qC,h1.mono k,h2,k _ _ (by simp) h3,h4,k _ _ (by simp) h5,h6⟩
structure Tw(m:Nat)(st:ak)(b:Nat)(B:Bk):Prop where
 ex:∃fs ns nk nt nm ml mr nr qC,Mt st b B fs ns nk nt nm ml mr/\fs.lookup ("state_trees":PySem.Str)=some (D.loc qC)/\st[qC]? = some (.lst ((B.ss.map (cz B)).map enc)) /\
  fs.lookup ("rules":PySem.Str)=some (D.loc nr)/\st[nr]? = some (.lst (B.rs.map jc))/\fs.lookup ("signs":PySem.Str)=some (D.str B.ls.tail)/\m<=ns/\m<=nr/\m<=qC
def Tw.bk{m:Nat}{st:ak}{b:Nat}{B:Bk}(h:Tw m st b B):eU st b B:=by
 obtain⟨fs,ns,nk,nt,nm,ml,mr,nr,qC,h1,h2,h3,h4,h5,h6,_⟩:=h.ex;exact⟨fs,ns,nk,nt,nm,ml,mr,nr,qC,h1,h2,h3,h4,h5,h6⟩
def Tw.clr{m:Nat}{st:ak}{b:Nat}{B:Bk}(h:Tw m st b B){p:Nat}{X Y:List D}(hp:st[p]? = some (.lst X))(hm:p<m)(hb:95∈B.ls):Tw m (st.set p (.lst Y)) b B:=by
 obtain⟨fs,ns,nk,nt,nm,ml,mr,nr,qC,h1,h2,h3,h4,h5,h6,m1,m2,m3⟩:=h.ex;have k:=Keeps.set st p (.lst Y);have ne:∀{j:Nat} {o:MO},st[j]? = some o->(∀W,o≠.lst W)->j∉[p]:=λhj ho q=>by
  obtain rfl:=gW.mp q;rw[hp]at hj;exact ho _ (aeU hj).symm
 exact⟨fs,ns,nk,nt,nm,ml,mr,nr,qC,⟨k _ _ (ne h1.o (by simp)) h1.o,h1.f1,h1.f2,h1.f3,h1.f4,h1.f5,h1.f6,k _ _ (by simp;omega) h1.s,k _ _ (ne h1.k (by simp)) h1.k,k _ _ (ne h1.t (by simp)) h1.t,k _ _ (ne h1.m (by simp)) h1.m,h1.l.keeps k hp hb (by simp) (by simp),h1.r.keeps k hp hb (by simp) (by simp)⟩,h2,k _ _ (by simp;omega) h3,h4,k _ _ (by simp;omega) h5,h6,m1,m2,m3⟩
def zj0{st:ak}{n:Nat}{ds:List D}(h:st[n]? = some (.lst ds)):jR [.loc n] st=.ok (.loc st.length) (st++[.lst ds]):=by
 have:aA st n=some ds:=by unfold aA;rw[h]
 unfold jR;simp only[this]
def zi2(B:Bk)(hB:lU B)(signs:List Nat)(hs:B.ls=95::signs)(sf nr nss:Nat)(st:ak)(hb:Bs st)(h1:st[sf]? = some (.ins "Book" []))(h2:st[nr]? = some (.lst (B.rs.map jc)))(h3:st[nss]? = some (.lst (B.ss.map λs=>D.int (s:Nat)))) :
  ∃st',zcj [.loc sf,.loc nr,.str signs,.loc nss] st=.ok .non st'/\Keeps st st' [sf]/\Tw st.length st' sf B/\bJ st':=by
 have Qq:=(gh.mp h1).1;have hnr:nr≠sf:=λe=>by subst e;rw[h1]at h2;cases h2
 have Ef:nss≠sf:=λe=>by subst e;rw[h1]at h3;cases h3
 have n1:(1:Nat)∉[sf]:=by simp;exact λe=>by rw[<-e,hb.t1]at h1;cases h1
 have n2:(2:Nat)∉[sf]:=by simp;exact λe=>by rw[<-e,hb.t2]at h1;cases h1
 have big:∀j,st.length<=j->j∉[sf]:=λj hj=>by simp;omega
 let r1:PySem.Str×D:=("rules",.loc st.length)
 let r2:PySem.Str×D:=("signs",.str signs)
 let r4:PySem.Str×D:=("letters",.str B.ls)
 let r8:PySem.Str×D:=("start_cost",.int (Nz B.ls:Nat))
 obtain⟨X1,u1,o1,k1,q1,l1,c1⟩:=qP [r1] (bV h1) (Keeps.app st [.lst (B.rs.map jc)]).more (by simp[hb.c]);have x1:X1[st.length]? = some (.lst (B.rs.map jc)):=q1 _ _ (big _ (gb _)) (by simp);obtain⟨X2,u2,o2,k2,q2,l2,c2⟩:=qP [r1,r2] o1 (Keeps.refl _ _) c1;have h3':=k2 _ _ (by simpa using Ef) (k1 _ _ (by simpa using Ef) h3)
 let r3:PySem.Str×D:=("states",.loc X2.length)
 have m2:X2.length=st.length+1:=by rw[l2,l1];simp
 obtain⟨X3,u3,o3,k3,q3,l3,c3⟩:=qP [r1,r2,r3] (bV o2) (Keeps.app X2 [.lst (B.ss.map λs=>D.int (s:Nat))]).more (by simp[c2]);have x3:X3[X2.length]? = some (.lst (B.ss.map λs=>D.int (s:Nat))):=q3 _ _ (big _ (by omega)) (by simp);obtain⟨X4,u4,o4,k4,q4,l4,c4⟩:=qP [r1,r2,r3,r4] o3 (Keeps.refl _ _) c3;have kk4:Keeps st X4 [sf]:=((k1.trans k2).trans k3).trans k4;have h2':=kk4 _ _ (by simpa using hnr) h2
 let r5:PySem.Str×D:=("by_key",.loc X4.length)
 have m4:X4.length=st.length+2:=by rw[l4,l3];simp[m2]
 obtain⟨X5,u5,o5,k5,q5,l5,c5⟩:=qP [r1,r2,r3,r4,r5] (bV o4) (Keeps.app X4 [.dic (tab [] (B.rs.map eZ))]).more (by simp[c4]);have x5:X5[X4.length]? = some (.dic (tab [] (B.rs.map eZ))):=q5 _ _ (big _ (by omega)) (by simp);have kk5:Keeps st X5 [sf]:=kk4.trans k5
 let r6:PySem.Str×D:=("sign_trees",.loc X5.length)
 have m5:X5.length=st.length+3:=by rw[l5];simp[m4]
 obtain⟨X6,u6,o6,k6,q6,l6,c6⟩:=qP [r1,r2,r3,r4,r5,r6] (bV o5) (Keeps.app X5 [.dkc (aX (vA B.ls))]).more (by simp[c5]);have x6:X6[X5.length]? = some (.dkc (aX (vA B.ls))):=q6 _ _ (big _ (by omega)) (by simp);have kk6:Keeps st X6 [sf]:=kk5.trans k6;have m6:X6.length=st.length+4:=by rw[l6];simp[m5]

 obtain⟨Y,ml,mr,hY,kY,tY,pY,mlY,mrY,cY,lY⟩:=Iz B hB X5.length (cB "Book" "sign_trees" (vr 0)) [some (.loc sf),some (.loc nr),some (.str signs),some (.loc nss),none,none] X6 (hb.keeps kk6 n1 n2 c6) (λZ kZ=>lV rfl (kZ _ _ (by simp;omega) o6) rfl) x6;have oY:=kY sf _ (by simp;omega) o6
 let r7:PySem.Str×D:=("moves",.loc X6.length)
 obtain⟨X7,u7,o7,k7,q7,l7,c7⟩:=qP [r1,r2,r3,r4,r5,r6,r7] oY (Keeps.refl _ _) cY;have kk7:Keeps st X7 [sf]:=λj o hj h=>q7 _ _ hj (kY _ _ (by
  have:=(gh.mp h).1;simp;omega) (kk6 _ _ hj h))
 have b7:Bs X7:=hb.keeps kk7 n1 n2 c7;obtain⟨X8,u8,o8,k8,q8,l8,c8⟩:=qP [r1,r2,r3,r4,r5,r6,r7,r8] o7 (Keeps.refl _ _) c7;have k68:∀j o,st.length<=j->j≠X5.length->X6[j]? = some o->X8[j]? = some o:=λj o hj hn h=>k8 _ _ (big j hj) (q7 _ _ (big j hj) (kY _ _ (by simp;exact hn) h));have x8s:=k68 _ _ (by omega) (by omega) (k6 _ _ (big _ (by omega)) (k5 _ _ (big _ (by omega)) (k4 _ _ (big _ (by omega)) x3)));have x8k:=k68 _ _ (by omega) (by omega) (k6 _ _ (big _ (by omega)) x5);have x8r:=k68 _ _ (gb _) (by omega) (k6 _ _ (big _ (by omega)) (k5 _ _ (big _ (by omega)) (k4 _ _ (big _ (by omega)) (k3 _ _ (big _ (by omega)) (k2 _ _ (big _ (by omega)) x1)))));have b8:Bs X8:=hb.keeps (kk7.trans k8) n1 n2 c8;have Zc:=hB.ok.bl;have k0:∀(r:List (PySem.Str×D)) (Z:ak),Z[sf]? = some (.ins "Book" (r1::r2::r3::r4::r5::r6::r7::r8::r))->Keeps X8 Z [sf]->Mt Z sf B (r1::r2::r3::r4::r5::r6::r7::r8::r) X2.length X4.length X5.length X6.length ml mr:=λfs Z hZ kZ =>
  ⟨hZ,rfl,rfl,rfl,rfl,rfl,rfl,kZ _ _ (big _ (by omega)) x8s,kZ _ _ (big _ (by omega)) x8k,kZ _ _ (big _ (by omega)) (k8 _ _ (big _ (by omega)) (q7 _ _ (big _ (by omega)) tY)),kZ _ _ (big _ (by omega)) (k8 _ _ (big _ (by omega)) (q7 _ _ (big _ (by omega)) pY)),
   ((mlY.book q7 oY Zc).book k8 o7 Zc).book kZ o8 Zc,((mrY.book q7 oY Zc).book k8 o7 Zc).book kZ o8 Zc⟩
 have ro:=zse B hB sf _ _ _ _ _ _ _ X8 b8 (k0 [] X8 o8 (Keeps.refl _ _))
 let RW:List Tr:=B.ss.map (fW B)
 let X9:ak:=X8++[.lst (RW.map enc)]
 have b9:Bs X9:=b8.app (by simp);have vR:∀t∈RW,val t=true:=λt ht=>by
  obtain⟨x,_,rfl⟩:=gj.mp ht;exact znv x
 have g9:∀g:ak,(X9++g)[X8.length]? = some (.lst (RW.map enc)):=λg=>bV (by simp[X9]);have aay:∀(e:aJ) (g:ak),e[4]? = some (some (.loc X8.length))->ig (vr 4) e (X9++g)=.ok (RW.map enc,[(X8.length,.lst (RW.map enc))]) (X9++g):=λe g he=>by
  rw[yO,NP,he];simp only[R.aB,g9]
 have rl:RW.length=B.ss.length:=by simp[RW]
 have Ml:=hB.ss;have to:=zpr (RW.map pR) X9.length (X9++[.lst ((RW.map pR).map enc)]) (by rw[gm,rl];exact hB.s0) (by rw[gm,rl];exact Ml) (by simp[aA]) (λe he=>by
  obtain⟨t,ht,rfl⟩:=gj.mp he;exact zqs (vR t ht))
 let Ri:ak:=X9++[.lst ((RW.map pR).map enc)]
 have est:(RW.map (λt=>hold [t,rO B])).map enc=(B.ss.map (cz B)).map enc:=by
  show ((B.ss.map (fW B)).map _).map _=_;rw[gG (l:=B.ss)];rfl
 have c10:bJ (Ri++[.lst ((B.ss.map (cz B)).map enc)]):=by
  have:=b9.c;simp[Ri,this]
 obtain⟨X11,u11,o11,k11,YC,l11,c11⟩:=qP [r1,r2,r3,r4,r5,r6,r7,r8,("state_trees",.loc Ri.length)] (bV (bV (bV o8))) (Keeps.app Ri [.lst ((B.ss.map (cz B)).map enc)]).more c10;have k8b:Keeps X8 X11 [sf]:=((Keeps.app X8 _).trans (Keeps.app X9 _)).more.trans k11;have x10:st.length<=Ri.length:=by simp[Ri,X9,l8,l7];omega
 have WW:=zx (st:=st) (st':=X11) (d:=.non) Qq (by rw[o11,h1];simp);refine⟨X11,?_,(kk7.trans k8).trans k8b,⟨_,_,_,_,_,_,_,st.length,Ri.length,k0 [_] X11 o11 k8b,rfl,YC _ _ (big _ x10) (eV (k:=0) rfl),rfl,k8b _ _ (big _ (gb _)) x8r,by rw[hs];rfl,by omega,gb _,x10⟩,c11⟩;refine S8 (Gi (q_ (zj0 h2) rfl) rfl (bV h1) u1 (Gi rfl rfl o1 u2 (Gi (q_ (zj0 h3') rfl) rfl (bV o2) u3
  (Gi (d:=.str B.ls) (aL rfl rfl ?_) rfl o3 u4
  (Gi (aY (GD (B.rs.map eZ) nr X4 (by rw[zon];exact h2') (by rw[gm];exact hB.rs)) rfl) rfl (bV o4) u5
  (Gi (aY (zl0 B.ls hB.ok.nl hB.vH (by have:=hB.few;omega) X5 (hb.keeps kk5 n1 n2 c5)) (aK (lV rfl o5 rfl) rfl)) rfl (bV o5) u6
  (Gi hY rfl oY u7 (Gi (aY (zpn B.ls X7 b7 hB.vH hB.few) (aK (lV rfl o7 rfl) rfl)) rfl o7 u8
  (bO (aY ro rfl) (bO (aY to (aK ?_ rfl)) (zk4 (d:=.loc Ri.length) (st1:=Ri++[.lst ((B.ss.map (cz B)).map enc)]) ?_ rfl (bV (bV (bV o8))) (by simp)))))))))))) rfl ?_
 ·have hf:=hB.few;rw[hs]at hf ⊢;have:1+signs.length<=1000000:=by simp at hf;omega
  exact add_str this
 ·rw[<-zo0];exact MF (xN pR) (λenv=>env.length=1) (by have:=aay [none,none,none,none,some (.loc X8.length)] [] rfl;rwa[gR]at this) rfl (by simp;omega) (λys=>t_ (g9 _)) (λd hd bW ys hP=>by
   obtain⟨t,ht,rfl⟩:=gj.mp hd;obtain⟨x,rfl⟩:=mO.mp hP;refine⟨[some (enc t)],rfl,rfl,?_⟩;rw[zkl];exact aY (zp4 t _ (b9.app (by simp))) rfl)
 ·rw[<-est,<-zo0 λt=>hold [t,rO B]];exact MF (xN λt=>hold [t,rO B]) (λenv=>∃x,env=[some (enc (rO B)),x]) (aay _ _ rfl) ⟨_,rfl⟩ (by simp;omega) (λys=>t_ (bV (g9 _))) (λd hd bW ys hP=>by
   obtain⟨t,ht,rfl⟩:=gj.mp hd;obtain⟨x,rfl⟩:=hP;refine⟨[some (enc (rO B)),some (enc t)],⟨_,rfl⟩,rfl,?_⟩;rw[zkl];exact aY (zky t (rO B) _ (vR t ht) zq4) rfl)
 ·subst u11;exact WW
end Law
set_option maxHeartbeats 0
namespace Law
open L2 M Tr
theorem Jd:∀ts:List Tr,jV ts=iU ts
 | []=>rfl
 | t::ts=>by rw[jV,iU,Jd ts]
def i_(z:Sd):D:=.tup [.int z.s,.str z.a.reverse,.str [z.c],.str z.b]
def sgD(B:Bk):D->D
 | .str [c]=>enc (cN B c)
 | d=>d
def Np(B:Bk)(cs:List Nat):(cs.map λc=>D.str [c]).map (sgD B)=(cs.map (cN B)).map enc:=by rw[gG,gG];rfl
def zto(ss:List Nat)(s:Nat)(h:s∈ss):(ss.map λ(s:Nat)=>(s:Int)).findIdx? (λz=>decide (z=(s:Int)))=some (bR ss s):=by
 rw[List.findIdx?_map];have e:((λz=>decide (z=(s:Int)))∘λ(s:Nat)=>(s:Int))=λz:Nat=>decide (z=s):=by
  funext z;rw[mz];simp only[Function.comp,afh];omega
 rw[e,List.findIdx?_eq_some_of_exists ⟨s,h,by simp⟩]
 rfl
def Ea(ss:List Nat):intsOf (ss.map λs=>D.int (s:Nat))=some (ss.map λ(s:Nat)=>(s:Int)):=zfc ss
section
variable  {B:Bk}{b:Nat}{st:ak}
def zkp(hk:eU st b B){s:Nat}(hs:s∈B.ss):∃ns,(∀m env,m env st=.ok (.loc b) st->cB "Book" "states" m env st=.ok (.loc ns) st)/\dw "list" (.loc ns) st=true/\fK (.loc ns) [.int s] st=.ok (.int (bR B.ss s:Nat)) st/\dR [.loc ns] st=.ok (.int (B.ss.length:Nat)) st:=by
 obtain⟨fs,ns,nk,nt,nm,ml,mr,nr,qC,h1,h2,h3,_⟩:=hk.ex;have it:aA st ns=some (B.ss.map λs=>D.int (s:Nat)):=by unfold aA;rw[h1.s]
 refine⟨ns,λm env hm=>lV hm h1.o h1.f2,by simp[dw,h1.s],?_,?_⟩
 ·unfold fK;simp only[it,Ea,zto B.ss s hs]
 ·have:=Ls it;rwa[gm]at this
def zck(hk:eU st b B){s:Nat}(hs:s∈B.ss):RM [.loc b,.int s] st=.ok (enc (cz B s)) st:=by
 obtain⟨ns,f1,ty,li,_⟩:=zkp hk hs;obtain⟨fs,_,nk,nt,nm,ml,mr,nr,qC,h1,h2,h3,_⟩:=hk.ex;have ix:aZ (.loc qC) (.int (bR B.ss s:Nat)) st=.ok (enc (cz B s)) st:=by
  refine uh _ _ _ ((B.ss.map (cz B)).map enc) _ (by unfold aA;rw[h3]) ?_;have g:((B.ss.map (cz B)).map enc)[bR B.ss s]? = some (enc (cz B s)):=by rw[gB,gB,Gm hs];rfl
  exact Q_ g
 exact aW (dM (aL (lV rfl h1.o h2) (uZ (f1 _ _ rfl) ty rfl li) ix)) rfl (dz (iQ _ _))
def zmh(hB:lU B)(hb:Bs st)(hk:eU st b B)(mi:MI)(env:aJ)(cs:List Nat)(h0:env[0]? = some (some (.loc b)))(hi:mi env st=.ok (cs.map λc=>D.str [c],[]) st)(hc:∀c∈cs,c∈B.ls)(hl:cs.length<=1000) :
  eF [some 0,none] mi (aM 1) j5 (aD vJ (cB "Book" "sign_trees" (vr 0)) (vr 1)) env st=.ok (.loc st.length) (st++[.lst ((cs.map (cN B)).map enc)]):=by
 obtain⟨fs,ns,nk,nt,nm,ml,mr,nr,qC,h1,_⟩:=hk.ex;rw[<-Np];exact MF (sgD B) (λenv=>∃x,env=[some (.loc b),x]) hi ⟨none,by simp[lH,h0]⟩ (by simp;omega) (λys=>by simp) (λd hd bW ys hP=>by
  obtain⟨c,Gd,rfl⟩:=gj.mp hd;obtain⟨x,rfl⟩:=hP;have hz:=h1.mono (Keeps.app st [.lst ys]);exact⟨[some (.loc b),some (.str [c])],⟨_,rfl⟩,rfl,aL (lV rfl hz.o hz.f4) rfl (XJ (vA B.ls) nt [c] (cN B c) _ (.inr hz.t) (XX (hc c Gd)))⟩)
def zo9(cs:List Nat)(st:ak)(n:Nat)(h:st[n]? = some (.lst ((cs.map (cN B)).map enc))):Yo [.loc n] st=.ok (enc (dO B cs)) st:=by
 have:=zqm (cs.map (cN B)) n st h (λt ht=>by
  obtain⟨c,_,rfl⟩:=gj.mp ht;exact FQ c)
 rw[<-Jd]at this;exact this
def zsz(hB:lU B)(hb:Bs st)(hk:eU st b B)(z:Sd)(hz:vU B z)(ha:z.a.length<=1000)(iM:z.b.length<=1000):zdu [.loc b,i_ z] st=.ok (.tup [enc (dO B z.a),enc (cN B z.c),enc (dO B z.b)]) st:=by
 obtain⟨fs,ns,nk,nt,nm,ml,mr,nr,qC,h1,_⟩:=hk.ex
 let Z1:ak:=st++[.lst ((z.a.map (cN B)).map enc)]
 have zr:=hk.mono (Keeps.app st [.lst ((z.a.map (cN B)).map enc)]);have SN:Bs Z1:=hb.app (by simp);have al:z.b.all (λc=>decide (c<128))=true:=wI λx hx=>hB.vH x (hz.b x hx);have Gb:=h1.mono ((Keeps.app st _).trans (Keeps.app Z1 [.lst ((z.b.map (cN B)).map enc)]));refine aW (bO (aY (zo9 (B:=B) z.a Z1 st.length (by simp[Z1])) (aK (zmh hB hb hk _ _ z.a rfl (Ha (aL rfl rfl q9) (by omega)) hz.a ha) rfl)) (bO (aY (zo9 (B:=B) z.b (Z1++[.lst ((z.b.map (cN B)).map enc)]) Z1.length (by simp)) (aK (zmh hB SN zr _ _ z.b rfl (zok (aL rfl rfl q9) al) hz.b iM) rfl)) (dM (yG (aK rfl (aK (aL (lV rfl Gb.o Gb.f4) (aL rfl rfl q9) (XJ (vA B.ls) nt [z.c] (cN B z.c) _ (.inr Gb.t) (XX hz.c))) rfl)))))) rfl ?_;rw[gP];exact lW (by simp[iQ])
def zdb(hB:lU B)(hb:Bs st)(hk:eU st b B)(z:Sd)(hz:vU B z)(ha:z.a.length<=1000)(iM:z.b.length<=1000):Uk [.loc b,i_ z] st=.ok (enc (vL B z)) st:=by
 exact aW (bO (aY (zsz hB hb hk z hz ha iM) rfl) (dM (aY (zL (cz B z.s) (hold [dO B z.a,cN B z.c,dO B z.b]) st) (aK (aY (zck hk hz.s) (aK rfl (aK (aL rfl rfl q9) rfl))) (aK (aY (zqw (dO B z.a) (cN B z.c) (dO B z.b) st (FN _) (FQ _) (FN _)) (aK (aL rfl rfl q9) (aK (aL rfl rfl q9) (aK (aL rfl rfl q9) rfl)))) rfl))))) rfl (dz (iQ _ (vL B z)))
def zg3(hB:lU B)(hb:Bs st)(hk:eU st b B)(z:Sd)(hz:vU B z)(ha:z.a.length<=1000)(iM:z.b.length<=1000):zc5 [.loc b,i_ z] st=.ok (enc (oE B z)) st:=by
 obtain⟨ns,f1,ty,li,le⟩:=zkp hk hz.s;exact aW (bO (aY (zsz hB hb hk z hz ha iM) rfl) (bO (aY (ZP (bR B.ss z.s) B.ss.length st hb.t1 hb.c (FP hz.s) (by have:=hB.ss;omega)) (aK (uZ (f1 _ _ rfl) ty (aK (aL rfl rfl q9) rfl) li) (aK (q_ le (aK (f1 _ _ rfl) rfl)) rfl))) (dM (aY (zn3 (ue B z.s) (dO B z.a) (cN B z.c) (dO B z.b) st (T9 _ _) (FN _) (FQ _) (FN _)) (aK rfl (aK (aL rfl rfl q9) (aK (aL rfl rfl q9) (aK (aL rfl rfl q9) rfl)))))))) rfl (dz (iQ _ (oE B z)))
end
end Law
namespace M
namespace Tr
def cL(c:List Nat):Tr->Bool
 | .jn (.lf s) _=>decide (s=c)
 | _=>false
def cntK:Tr->Nat
 | .jn (.lf s) r=>if s=[75] then cntK r+1 else 0
 | _=>0
def Ug(c s:List Nat)(r:Tr):cL c (.jn (.lf s) r)=decide (s=c):=by rw[cL]
def zc8(c:List Nat)(a b r:Tr):cL c (.jn (.jn a b) r)=false:=by rw[cL];intro s r' h;cases h
def zen(c s:List Nat):cL c (.lf s)=false:=by rw[cL];intro s r' h;cases h
def zn0{t:Tr}(h:cL [75] t=false):cntK t=0:=by
 cases t with
 | lf s=>rw[cntK];intro s r h;cases h
 | jn l r =>
  cases l with
  | lf s=>rw[Ug]at h;rw[cntK,aeS (by simpa using h)]
  | jn a b=>rw[cntK];intro s r h;cases h
def KN(r:Tr):cntK (.jn tK r)=cntK r+1:=by rw[cntK,aeQ rfl]
theorem zn5(v:Tr):∀n,cntK (dN n v)=n+cntK v
 | 0=>by simp[dN]
 | n+1=>by rw[dN,KN,zn5 v n];omega
def KJ(m:Nat):cntK (sr m)=0:=by
 match m with
 | 0=>exact zn0 rfl
 | 1=>exact zn0 rfl
 | m+2=>exact zn0 rfl
def zem(k many:Nat):cntK (bM k many)=k:=by rw[bM,zn5,KJ];omega
def Kr(k many:Nat)(h:k<many):dp (bM k many)<=many+2:=by
 rw[bM,zo6];have:=wQ (many - 1 - k);omega
end Tr
end M
namespace Law
open L2 M Tr
def zbs(c:List Nat)(t:Tr)(st:ak):M6 [.str c,enc t] st=.ok (.bl (cL c t)) st:=by
 unfold M6 bB bw zep;cases t with
 | lf s=>rw[zen,show enc (.lf s)=.str s from rfl];simp[startM,f9,dz]
 | jn l r =>
  have JQ:=ze2 (.jn l r);have x0:aZ (enc (.jn l r)) (.int 0) st=.ok (enc l) st:=by rw[enc];exact yH st 0 _ _ rfl
  have q1:fL 800 (enc l) (.str c) st=.ok (.bl (cL c (.jn l r))) st:=by
   have:=My 799 l c st;cases l with
   | lf s=>rw[this,Ug]
   | jn a b=>rw[this,zc8]
  generalize enc (.jn l r)=J at *;generalize enc l=L at *;simp[startM,JQ,x0,q1,dz]
open Classical in
noncomputable def di(t:Tr)(many:Nat):D:=if cntK t<many/\t=bM (cntK t) many then .int (cntK t:Nat) else .non
def Rc{a b:MT}{env:aJ}{st st1:ak}(h:a env st=.ok false st1):t6 a b env st=.ok false st1:=by simp[h]
open Classical in
def zh3(t:Tr)(many:Nat)(st:ak)(ht:st[1]? = some (.tab "out_and_cost"))(hc:bJ st)(hm:many<=300000)(hd:dp t<800):M4 [enc t,.int many] st=.ok (di t many) st:=by
 unfold M4 bB bw zl3;generalize hC:(jU (az M6 [] _):MT)=C;generalize hW:(aC (aG 2 (aD bj _ _)) _:MS)=W
 let E:Nat->Tr->aJ:=λk r=>[some (enc t),some (.int many),some (.int (k:Nat)),some (enc r)]
 have cv:∀k r,C (E k r) st=.ok (cL [75] r) st:=λk r=>by rw[<-hC];exact jT (aY (zbs _ _ _) rfl) acp
 have stop:∀k r,cL [75] r=false->bC C W (E k r) st=.ok (.nx (E (k+cntK r) r)) st:=λk r h=>by rw[yq,cv,R.aB,h,zn0 h];rfl
 have loop:∀(r:Tr) (k:Nat),∃r',bC C W (E k r) st=.ok (.nx (E (k+cntK r) r')) st:=by
  intro r
  induction r with
  | lf s=>exact λk=>⟨_,stop k _ (zen _ _)⟩
  | jn l r _ ih =>
   intro k;cases hf:cL [75] (.jn l r) with
   | false=>exact⟨_,stop k _ hf⟩
   | true =>
    have el:l=Tr.tK:=by
     cases l with
     | lf s=>rw[Ug]at hf;rw[aeZ hf]
     | jn a b=>rw[zc8]at hf;cases hf
    subst el;obtain⟨r',e⟩:=ih (k+1);refine⟨r',?_⟩;rw[yq,cv,R.aB,hf,aeQ rfl,show W (E k (.jn Tr.tK r)) st=.ok (.nx (E (k+1) r)) st by rw[<-hW];exact bO (aL rfl rfl (Rr rfl)) (yF (aL rfl rfl (zJ _ _ _))),R.aB,KN,show k+(cntK r+1)=k+1+cntK r by omega];exact e
 obtain⟨r',e⟩:=loop t 0;rw[Nat.zero_add]at e;unfold di;by_cases h1:cntK t<many
 ·have p1:=ZP (cntK t) many st ht hc h1 hm;have q1:=ZM t (bM (cntK t) many) st hd;have l1:ltV (.int (cntK t:Nat)) (.int many) st=.ok (.bl true) st:=by rw[yX,aeV h1]
  by_cases h2:t=bM (cntK t) many
  ·rw[aeV h2]at q1;rw[aeQ ⟨h1,h2⟩];exact aW (bO rfl (bO rfl ((jP e).trans (rA (oU (Z7 (cZ (aL rfl rfl l1)) (cZ (aL rfl (aY p1 rfl) q1))) (dM rfl)))))) rfl (dz (by simp))
  ·rw[aeT h2]at q1;rw[aeS (λh=>h2 h.2)];exact aW (bO rfl (bO rfl ((jP e).trans (jZ (Z7 (cZ (aL rfl rfl l1)) (cZ (aL rfl (aY p1 rfl) q1))) (dM rfl))))) rfl (dz (by simp))
 ·have l1:ltV (.int (cntK t:Nat)) (.int many) st=.ok (.bl false) st:=by rw[yX,aeT h1]
  rw[aeS (λh=>h1 h.1)];exact aW (bO rfl (bO rfl ((jP e).trans (jZ (Rc (cZ (aL rfl rfl l1))) (dM rfl))))) rfl (dz (by simp))
def zk0(c:List Nat)(r:Tr)(st:ak):M6 [.str c,enc (.jn (.lf c) r)] st=.ok (.bl true) st:=by
 have:=zbs c (.jn (.lf c) r) st;rwa[Ug,aeV rfl]at this
def zf2(n:Nat)(ts:List Tr):bU n (ts.map enc):=by
 induction ts with
 | nil=>simp
 | cons t ts ih=>simp[ih,iQ]
end Law
namespace M
namespace Tr
def iC(t:Tr):Option (Tr×Tr):=match t with
 | .jn (.jn (.lf s) u) (.jn (.lf k) a)=>if s=[83]/\k=[75] then some (a,u) else none
 | _=>none
def zlp{t a u:Tr}(h:iC t=some (a,u)):t=.jn (.jn tS u) (.jn tK a):=by
 unfold iC at h
 split at h
 ·split at h
  ·rename_i c;obtain⟨rfl,rfl⟩:=c;cases h;rfl
  ·cases h
 ·cases h
def qz:Nat->Tr->Option (List Tr×Tr)
 | 0,t=>some ([],t)
 | k+1,t=>match iC t with
  | none=>none
  | some (a,u)=>match qz k u with
   | none=>none
   | some (ws,c)=>some (a::ws,c)
theorem zhy:∀{k:Nat} {t c:Tr} {ws:List Tr},qz k t=some (ws,c)->ws.length=k/\(c=tI->t=hold ws.reverse)
 | 0,t,c,ws,h=>by
  cases h;exact⟨rfl,λe=>e⟩
 | k+1,t,c,ws,h=>by
  rw[qz]at h;cases e:iC t with
  | none=>rw[e]at h;cases h
  | some p =>
   obtain⟨a,u⟩:=p;rw[e]at h;dsimp only at h;cases q:qz k u with
   | none=>rw[q]at h;cases h
   | some x =>
    rw[q]at h;cases h;obtain⟨i1,i2⟩:=zhy q;exact⟨congrArg (· + 1) i1,λe2=>by rw[zlp e,i2 e2,mZ,zh7]⟩
theorem zou:∀ts:List Tr,qz ts.length (hold ts.reverse)=some (ts,tI)
 | []=>rfl
 | t::ts=>by
  rw[mZ,zh7,gr,qz,show iC (.jn (.jn tS (hold ts.reverse)) (.jn tK t))=some (t,hold ts.reverse) by simp[iC]];dsimp only;rw[zou ts]
end Tr
end M
namespace Law
open L2 M Tr
def Rf{a b:ME}{env:aJ}{st st1:ak}(h:a env st=.ok (.bl false) st1):tZ a b env st=.ok (.bl false) st1:=by simp[h]
def Aa{a b:MT}{env:aJ}{st st1:ak}(h:a env st=.ok true st1):xJ a b env st=.ok true st1:=by simp[h]
def zpj(t:Tr)(st:ak):zbv [enc t] st=.ok (.bl (iC t).isSome) st:=by
 cases t with
 | lf s =>
  unfold zbv bB bw zed;rw[show enc (.lf s)=.str s from rfl];simp[startM,f9,iC,dz]
 | jn l r =>
  have e:(iC (.jn l r)).isSome=(cL [83] l && cL [75] r):=by
   cases l with
   | lf s=>rw[zen];simp[iC]
   | jn c d =>
    cases c with
    | jn c1 c2=>rw[zc8];simp[iC]
    | lf s =>
     cases r with
     | lf k=>rw[zen];simp[iC]
     | jn p q =>
      cases p with
      | jn p1 p2=>rw[zc8];simp[iC]
      | lf k =>
       rw[Ug,Ug];simp only[iC];by_cases h1:s=[83]<;>by_cases h2:k=[75]<;>simp[h1,h2]
  have f1:=zbs [83] l st;have f2:=zbs [75] r st;rw[e];cases h:cL [83] l with
  | false =>
   rw[h]at f1;exact aW (dM (ZF (Ah (yE rfl (Ln _ _ _))) (Rf (aY f1 (aK rfl (aK (aL rfl rfl (Fz _ _ _)) rfl)))))) rfl (dz (by simp))
  | true =>
   rw[h]at f1;exact aW (dM (ZF (Ah (yE rfl (Ln _ _ _))) (ZF (aY f1 (aK rfl (aK (aL rfl rfl (Fz _ _ _)) rfl))) (aY f2 (aK rfl (aK (aL rfl rfl (zJ _ _ _)) rfl)))))) rfl (dz (by simp))
open Classical in
def QF(t u:Tr)(st:ak)(hc:dm (enc t) (enc u)<800):iD 800 (enc t) (enc u) st=some (decide (t=u)):=by
 have h1:=TX t;have h2:=TX u;rw[<-ZR t u];cases t<;>cases u<;>(rw[enc,enc]at *;simp only[iD];rw[aeQ ⟨h1,h2,hc⟩])
open Classical in
def Kp(t:Tr)(st:ak):∃k,M.xK 800 (enc t) (enc tI) st=.ok (.bl k) st/\(k=false↔t=tI) :=
 ⟨!decide (t=tI),by
  unfold M.xK;rw[QF t tI st (by
   cases t with
   | lf s=>simp[enc]
   | jn l r=>cases l<;>simp[enc])],by simp⟩
def ZZ(t:Tr)(n:Nat)(st:ak)(hl:n<=100) :
  (∀ws,qz n t=some (ws,tI)->val t=true->FT [enc t,.int n] st=.ok (.loc st.length) (st++[.lst (ws.reverse.map enc)]))/\((∀ws,qz n t=some (ws,tI)->val t=false)->FT [enc t,.int n] st=.ok .non st):=by
 unfold FT bB bw ztd;generalize hC:(eY (aD ltV _ _):MT)=C;generalize hW:(aC (fu (lz _) _ _) _:MS)=W
 let E:Tr->aJ:=λr=>[some (enc t),some (.int n),some (.loc st.length),some (enc r)]
 let Z:List Tr->ak:=λvs=>st++[.lst (vs.map enc)]
 have cv:∀r vs,C (E r) (Z vs)=.ok (decide (vs.length<n)) (Z vs):=λr vs=>by
  have le:=Ls (st:=Z vs) (n:=st.length) (ds:=vs.map enc) (by simp[aA,Z]);rw[gm]at le;rw[<-hC];refine cZ (aL (q_ le rfl) rfl ?_);simp
 have lp:∀(k:Nat) (r:Tr) (vs:List Tr),vs.length+k=n->(∀ws c,qz k r=some (ws,c)->bC C W (E r) (Z vs)=.ok (.nx (E c)) (Z (vs++ws)))/\(qz k r=none->∃yr,bC C W (E r) (Z vs)=.ok (.rt .non) (Z yr)):=by
  intro k
  induction k with
  | zero =>
   intro r vs h;refine⟨λws c e=>?_,λe=>by cases e⟩;cases e;rw[yq,cv,R.aB,aeT (by omega),gR]
   rfl
  | succ k ih =>
   intro r vs h;have hf:=zpj r (Z vs);rw[yq,cv,R.aB,aeV (by omega),aeQ rfl,qz];cases e:iC r with
   | none =>
    rw[e]at hf;refine⟨λws c q=>by (cases q),λ_=>⟨vs,?_⟩⟩;rw[show W (E r) (Z vs)=.ok (.rt .non) (Z vs) by rw[<-hW];exact rA (oU (yp (jT (aY hf rfl) rfl)) (dM rfl))];rfl
   | some p =>
    obtain⟨a,u⟩:=p;rw[e]at hf;have ap:a_ (.loc st.length) [enc a] (Z vs)=.ok .non (Z (vs++[a])):=by
     have g:(Z vs)[st.length]? = some (.lst (vs.map enc)):=by simp[Z]
     unfold a_;simp only[g];rw[aeQ (by simp;omega)];simp[Z]
    have w:W (E r) (Z vs)=.ok (.nx (E u)) (Z (vs++[a])):=by
     have er:=zlp e;subst er;rw[<-hW];exact jZ (yp (jT (aY hf rfl) rfl)) ((jP (xn (uZ rfl (by simp[dw,Z]) (aK (aL (aL rfl rfl (zJ _ _ _)) rfl (zJ _ _ _)) rfl) ap))).trans (yF (aL (aL rfl rfl (Fz _ _ _)) rfl (zJ _ _ _))))
    rw[w,R.aB];obtain⟨i1,i2⟩:=ih u (vs++[a]) (by simp;omega);dsimp only;cases q:qz k u with
    | none=>exact⟨λws c q=>by (cases q),λ_=>i2 q⟩
    | some x =>
     refine⟨λws c q2=>?_,λq2=>by cases q2⟩;cases q2;have:=i1 _ _ q;rw[gP]at this;exact this
 obtain⟨l1,l2⟩:=lp n t [] (by simp);have iv:=λS=>ze9 t S;refine⟨λws h hv=>?_,λh=>?_⟩
 ·have l0:=l1 ws tI h;rw[mL]at l0;have iv:=iv (Z ws);rw[hv]at iv;obtain⟨k,ne,hk⟩:=Kp tI (Z ws);rw[hk.mpr rfl]at ne;have rv:dF (.loc st.length) [] (Z ws)=.ok .non (Z ws.reverse):=by
   have g:(Z ws)[st.length]? = some (.lst (ws.map enc)):=by simp[Z]
   unfold dF;simp only[g];simp[Z]
  exact aW (bO rfl (bO rfl ((jP l0).trans (jZ (BX (cZ (aL rfl rfl ne)) (yp (jT (aY iv rfl) rfl))) ((jP (xn (RJ rfl (by simp[dw,Z]) rv))).trans (dM rfl)))))) rfl (Mv (zf2 _ ws.reverse))
 ·cases q:qz n t with
  | none =>
   obtain⟨yr,l0⟩:=l2 q;exact aW (bO rfl (bO rfl (rA l0))) rfl (lW (by simp))
  | some x =>
   obtain⟨ws,c⟩:=x;have l0:=l1 ws c q;rw[mL]at l0;obtain⟨k,ne,hk⟩:=Kp c (Z ws);refine aW (st1:=Z ws) (bO rfl (bO rfl ((jP l0).trans (rA (oU ?_ (dM rfl)))))) rfl (lW (by simp));cases k with
   | true=>exact Aa (cZ (aL rfl rfl ne))
   | false =>
    have e:=hk.mp rfl;subst e;have iv:=iv (Z ws);rw[h ws q]at iv;exact BX (cZ (aL rfl rfl ne)) (yp (jT (aY iv rfl) rfl))
def zka(ts:List Tr)(st:ak)(hv:∀t∈ts,val t=true)(hl:ts.length<=100):FT [enc (hold ts),.int ts.length] st=.ok (.loc st.length) (st++[.lst (ts.map enc)]):=by
 have q:=zou ts.reverse;rw[pD,mC]at q;have:=(ZZ (hold ts) ts.length st hl).1 _ q (Mz hv);rwa[pD]at this
def Ik(l r:Tr)(s:List Nat)(st:ak):M.xK 800 (enc (.jn l r)) (.str s) st=.ok (.bl true) st:=lB (My 799 (.jn l r) s st)
def Wt{st g:ak}{n k:Nat}{ds:List D}(h:g[k]? = some (.lst ds))(e:n=st.length+k:=by rfl):aA (st++g) n=some ds:=by unfold aA;rw[eV h e]
def zpy(ts:List Tr)(st:ak)(hv:∀t∈ts,val t=true)(hl:ts.length<=900):Uh [enc (jV ts)] st=.ok (.loc st.length) (st++[.lst (ts.map enc)]):=by
 unfold Uh bB bw zet;generalize hC:(eY (aD (M.xK 800) _ _):MT)=C;generalize hW:(aC (aG 3 (Mj _ _ _)) _:MS)=W
 let E:Tr->Option D->aJ:=λt a=>[some (enc (jV ts)),some (.loc st.length),some (enc t),a]
 let Z:List Tr->ak->ak:=λvs G=>st++.lst (vs.map enc)::G
 have vl:∀us:List Tr,(∀t∈us,val t=true)->val (jV us)=true:=λus h=>by
  induction us with
  | nil=>rfl
  | cons t us ih=>rw[jV,uo,Mz];intro x hx;simp at hx;rcases hx with rfl | rfl;exact h _ (by simp);exact ih λy hy=>h y (by simp[hy])
 have lp:∀(us vs:List Tr) (a:Option D) (G:ak),(∀t∈us,val t=true)->us.length+vs.length<=900->∃a' G',bC C W (E (jV us) a) (Z vs G)=.ok (.nx (E tK a')) (Z (vs++us) G'):=by
  intro us
  induction us with
  | nil =>
   intro vs a G _ _;refine⟨a,G,?_⟩;rw[yq,show C (E (jV []) a) (Z vs G)=.ok false (Z vs G) by rw[<-hC];exact cZ (aL rfl rfl (by rw[jV];rfl)),R.aB,gR]
   rfl
  | cons t us ih =>
   intro vs a G hu hn;have Sq:∀x∈us,val x=true:=λx hx=>hu x (by simp[hx]);simp only[gr]at hn
   let H:MO:=.lst ([t,jV us].map enc)
   let m:Nat:=(Z vs G).length
   have hh:=zka [t,jV us] (Z vs G) (λx hx=>by simp at hx;rcases hx with rfl | rfl;exact hu _ (by simp);exact vl us Sq) (by simp);have g:(Z vs (G++[H]))[st.length]? = some (.lst (vs.map enc)):=eV (k:=0) rfl;have ez:∀vs,Z vs G++[H]=Z vs (G++[H]):=λvs=>by simp[Z]
   rw[show Z vs G++[.lst ([t,jV us].map enc)]=Z vs (G++[H]) from ez vs]at hh;have im:∀yr,yr.length=yr.length->aA (Z yr (G++[H])) m=some [enc t,enc (jV us)]:=λyr _=>by
    have:(Z yr (G++[H]))[m]? = some H:=by
     rw[<-ez yr,show m=(Z yr G).length by simp[m,Z]];simp
    unfold aA;rw[this];rfl
   have ap:a_ (.loc st.length) [enc t] (Z vs (G++[H]))=.ok .non (Z (vs++[t]) (G++[H])):=by
    unfold a_;simp only[g];rw[aeQ (by simp;omega)];simp[Z]
   have w:W (E (jV (t::us)) a) (Z vs G)=.ok (.nx (E (jV us) (some (.loc m)))) (Z (vs++[t]) (G++[H])):=by
    rw[jV,<-hW];exact bO (Rp (jT (aY (zk0 [75] _ _) rfl) rfl) (aY hh (aK (aL rfl rfl (zJ _ _ _)) rfl))) (jZ (cZ (aL rfl rfl rfl)) ((jP (xn (uZ rfl (by simp[dw,g]) (aK (aL rfl rfl (uh _ _ _ _ _ (im vs rfl) rfl)) rfl) ap))).trans (yF (aL rfl rfl (uh _ _ _ _ _ (im (vs++[t]) rfl) rfl)))))
   obtain⟨a',G',h⟩:=ih (vs++[t]) (some (.loc m)) (G++[H]) Sq (by simp;omega);refine⟨a',G',?_⟩;rw[yq,show C (E (jV (t::us)) a) (Z vs G)=.ok true (Z vs G) by rw[<-hC];exact cZ (aL rfl rfl (by rw[jV];exact Ik _ _ _ _)),R.aB,aeQ rfl,w,R.aB];rw[gP]at h;exact h
 obtain⟨a',G',h⟩:=lp ts [] none [] hv (by simp;omega);have gg:=Zz (st:=st) (g:=[]) (g':=G') (o:=.lst (ts.map enc)) (zf2 _ ts);rw[gR]at gg;exact aW (bO rfl (bO rfl ((jP h).trans (dM rfl)))) rfl gg
end Law
set_option maxHeartbeats 0
namespace Law
open L2 M Tr
open Classical in
noncomputable def liftT(g:Tr->D):D->D:=λd=>if h:∃t,enc t=d then g h.choose else d
def zh6(g:Tr->D)(t:Tr):liftT g (enc t)=g t:=by
 have hx:∃u,enc u=enc t:=⟨t,rfl⟩;unfold liftT;rw[dif_pos hx,zn9 hx.choose_spec]
def zg2{k n:Nat}(h:k<n)(st:ak)(hb:Bs st)(hn:n<=700):M4 [enc (bM k n),.int n] st=.ok (.int k) st:=by
 have e:di (bM k n) n=.int k:=by
  unfold di;rw[zem,aeQ ⟨h,rfl⟩]
 have:=zh3 (bM k n) n st hb.t1 hb.c (by omega) (by have:=Kr k n h;omega);rwa[e]at this
def Qo(xs:List Nat)(n:Nat)(st:ak)(h:aA st n=some (aP xs)):pQ 800 false .non (.loc n) st=.ok (.bl false) st:=by
 have f1:cD (aP xs)=true:=by
  clear h;unfold aP
  induction xs with
  | nil=>rfl
  | cons c cs ih=>simpa using ih
 have f2:((aP xs).all λe=>decide (dm e .non<800))=true:=by
  unfold aP;rw[List.all_map,nJ];intro c _;simp[dm]
 have f3:((aP xs).any λe=>fY e .non)=false:=by
  unfold aP;rw[List.any_map,List.any_eq_false];intro c _;simp[fY]
 unfold pQ;simp only[h,f1,f2,f3];rw[aeQ ⟨by simp,trivial,trivial⟩];rfl
def X_{m:ME}{env:aJ}{st:ak}{n:Nat}{ds:List D}(hm:m env st=.ok (.loc n) st)(h:st[n]? = some (.lst ds)):ig m env st=.ok (ds,[(n,.lst ds)]) st:=by
 rw[yO,hm];simp only[R.aB,h]
def len_str(cs:List Nat)(s:ak)(h:cs.length<=1000000):dR [.str cs] s=.ok (.int cs.length) s:=zoy _ cs h
def ltD(ls:List Nat):D->D
 | .int i=>.str [ls.getD i.toNat 0]
 | d=>d
section
variable  {B:Bk}{b:Nat}{st:ak}
def zeu(hB:lU B)(hb:Bs st)(hk:eU st b B)(cs:List Nat)(hc:∀c∈cs,c∈B.ls)(hl:cs.length<=900):zca [.loc b,enc (dO B cs)] st=.ok (.loc st.length) (st++[.lst (cs.map λc=>D.str [c])]):=by
 obtain⟨fs,ns,nk,nt,nm,ml,mr,nr,qC,h1,_⟩:=hk.ex;have uO:=hB.few
 let L1:MO:=.lst ((cs.map (cN B)).map enc)
 let L2:MO:=.lst (aP (cs.map (bR B.ls)))
 let L3:MO:=.lst (cs.map λc=>D.str [c])
 have th:=zpy (cs.map (cN B)) st (λt ht=>by
  obtain⟨c,_,rfl⟩:=gj.mp ht;exact FQ c) (by simpa using hl)
 have c1:eF [some 0,none] (ig (vr 2)) (aM 1) j5 (az M4 [] (aj (vr 1) (aj (bD dR (aj (cB "Book" "letters" (vr 0)) au)) au))) [some (.loc b),some (enc (dO B cs)),some (.loc st.length),none] (st++[L1])=.ok (.loc (st++[L1]).length) (st++[L1]++[L2]):=by
  have e2:((cs.map (cN B)).map enc).map (liftT λt=>.int (cntK t:Nat))=aP (cs.map (bR B.ls)):=by
   unfold aP;rw[gG,gG,gG];refine kE λc _=>?_;simp only[Function.comp,zh6];unfold cN;rw[zem]
  show _=R.ok _ (st++[L1]++[.lst (aP (cs.map (bR B.ls)))]);rw[<-e2];exact MF (liftT λt=>.int (cntK t:Nat)) (λenv=>∃x,env=[some (.loc b),x]) (X_ rfl (eV (k:=0) rfl)) ⟨_,rfl⟩ (by simp;omega) (λys=>t_ (bV (eV (k:=0) rfl))) (λd hd bW ys hP=>by
   obtain⟨t,ht,rfl⟩:=gj.mp hd;obtain⟨c,Gd,rfl⟩:=gj.mp ht;obtain⟨x,rfl⟩:=hP;have hz:=h1.mono ((Keeps.app st [L1]).trans (Keeps.app (st++[L1]) [.lst ys]));have bz:Bs (st++[L1]++[.lst ys]):=(hb.app (by simp[L1])).app (by simp);refine⟨[some (.loc b),some (enc (cN B c))],⟨_,rfl⟩,rfl,?_⟩;rw[zh6];unfold cN;rw[zem];exact aY (zg2 (FP (hc c Gd)) _ bz (by omega)) (aK rfl (aK (q_ (len_str B.ls _ (by omega)) (aK (lV rfl hz.o hz.f1) rfl)) rfl)))
 have c2:eF [some 0,none] (ig (vr 3)) (aM 1) j5 (aD aZ (cB "Book" "letters" (vr 0)) (vr 1)) [some (.loc b),some (enc (dO B cs)),some (.loc st.length),some (.loc (st++[L1]).length)] (st++[L1]++[L2])=.ok (.loc (st++[L1]++[L2]).length) (st++[L1]++[L2]++[L3]):=by
  have e3:(aP (cs.map (bR B.ls))).map (ltD B.ls)=cs.map λc=>D.str [c]:=by
   unfold aP;rw[gG,gG];refine kE λc Gd=>?_;show D.str [B.ls.getD _ 0]=_;rw[mY,pF,Gm (hc c Gd)];rfl
  show _=R.ok _ (st++[L1]++[L2]++[.lst (cs.map λc=>D.str [c])]);rw[<-e3];exact MF (ltD B.ls) (λenv=>∃x,env=[some (.loc b),x]) (X_ rfl (eV (k:=0) rfl)) ⟨_,rfl⟩ (by simp[aP];omega) (λys=>t_ (bV (eV (k:=0) rfl))) (λd hd bW ys hP=>by
   unfold aP at hd;obtain⟨i,hi,rfl⟩:=gj.mp hd;obtain⟨c,Gd,rfl⟩:=gj.mp hi;obtain⟨x,rfl⟩:=hP;have hz:=h1.mono (((Keeps.app st [L1]).trans (Keeps.app (st++[L1]) [L2])).trans (Keeps.app (st++[L1]++[L2]) [.lst ys]));refine⟨[some (.loc b),some (.int (bR B.ls c:Nat))],⟨_,rfl⟩,rfl,aL (lV rfl hz.o hz.f1) rfl ?_⟩;show _=R.ok (D.str [B.ls.getD _ 0]) _;unfold aZ;dsimp only;rw[aeQ (by omega),Gp,mY,pF,Gm (hc c Gd)];rfl)
 have gg:=Zz (st:=st) (g:=[L1,L2]) (g':=[]) (o:=L3) (by
  show bU _ _;clear hl hc th c1 c2
  induction cs with
  | nil=>simp
  | cons c cs ih=>simpa using ih)
 have es:st++[L1]++[L2]++[L3]=st++[L1,L2]++L3::[]:=by simp
 have el:(st++[L1]++[L2]).length=st.length+[L1,L2].length:=by simp
 rw[<-es,<-el]at gg;exact aW (bO (aY th rfl) (jZ (cZ (aL rfl rfl rfl)) (bO c1 (jZ (cZ (aL rfl rfl (Qo _ _ _ (by unfold aA;rw[eV (k:=0) rfl])))) (dM c2))))) rfl gg
end
theorem zob:∀cs:List Nat,uM [] (cs.map λc=>[c])=cs
 | []=>rfl
 | [c]=>rfl
 | c::d::r=>by
  have:=zob (d::r);show [c]++[]++uM [] (([d])::r.map λc=>[c])=_;rw[show ([d]::r.map λc=>[c])=(d::r).map λc=>[c] from rfl,this];rfl
def Aw{st:ak}{n:Nat}{cs:List Nat}(h:st[n]? = some (.lst (cs.map λc=>D.str [c])))(hl:cs.length<=1000):uL (.str []) [.loc n] st=.ok (.str cs) st:=by
 have:=UT (st:=st) [] n (cs.map λc=>[c]) (by unfold aA;rw[h,gG];rfl) (by
  rw[gG];have:((cs.map (List.length∘λc=>[c])).sum)=cs.length:=by
   clear h hl
   induction cs with
   | nil=>rfl
   | cons c cs ih=>rw[gw,List.sum_cons,ih,gr];show 1+_=_;omega
  rw[this];simp;omega)
 rwa[zob]at this
section
variable  {B:Bk}{b:Nat}{st:ak}
def zde(hB:lU B)(hb:Bs st)(hk:eU st b B)(z:Sd)(hz:vU B z)(ha:z.a.length<=900)(iM:z.b.length<=900)(p:Nat)(hp:st[p]? = some (.lst [enc (dO B z.a),enc (cN B z.c),enc (dO B z.b)])) :
  LR [.loc b,.int (bR B.ss z.s:Nat),.loc p] st=.ok (i_ z) st:=by
 have uO:=hB.few
 let A:MO:=.lst (z.a.map λc=>D.str [c])
 let R:MO:=.lst (z.b.map λc=>D.str [c])
 let A':MO:=.lst (z.a.reverse.map λc=>D.str [c])
 have kA:=Keeps.app st [A];have kR:=(Keeps.app st [A]).trans (Keeps.app (st++[A]) [R]);have k3:=(Keeps.app st [A']).trans (Keeps.app (st++[A']) [R]);obtain⟨fs,ns,nk,nt,nm,ml,mr,nr,qC,h1,_⟩:=hk.ex;have hA:=h1.mono kA;have h3:=h1.mono k3;have s1:=zeu hB hb hk z.a hz.a ha;have s2:=zeu hB (hb.app (g:=[A]) (by simp[A])) (hk.mono kA) z.b hz.b iM;have pk:=zg2 (FP hz.c) (st++[A]) (hb.app (by simp[A])) (by omega);have ix:∀{g:ak} (k:Int) (d:D),pW [enc (dO B z.a),enc (cN B z.c),enc (dO B z.b)] k=some d->aZ (.loc p) (.int k) (st++g)=.ok d (st++g):=λk d h=>uh _ _ _ _ _ (by unfold aA;rw[bV hp]) h;have rv:dF (.loc st.length) [] (st++[A]++[R])=.ok .non (st++[A']++[R]):=by
  have g:(st++[A]++[R])[st.length]? = some A:=bV (eV (k:=0) rfl);unfold dF;simp only[g,A];rw[Z9 _ _ _ _ (by simp),RD _ _ _ _ rfl,<-nW]
 have i0:aZ (.loc p) (.int 0) st=.ok (enc (dO B z.a)) st:=uh _ _ _ _ _ (by unfold aA;rw[hp]) rfl;have fV:aZ (.loc ns) (.int (bR B.ss z.s:Nat)) (st++[A']++[R])=.ok (.int z.s) (st++[A']++[R]):=by
  refine uh _ _ _ (B.ss.map λs=>D.int (s:Nat)) _ (by unfold aA;rw[h3.s]) ?_;rw[Gp,gB,Gm hz.s];rfl
 have lt3:aZ (.str B.ls) (.int (bR B.ls z.c:Nat)) (st++[A']++[R])=.ok (.str [z.c]) (st++[A']++[R]):=by
  unfold aZ;dsimp only;rw[aeQ (by omega),Gp,Gm hz.c]
 refine aW (jZ (BX (cZ (aL rfl rfl rfl)) (cZ (aL rfl rfl rfl))) (bO (aY s1 (aK rfl (aK (aL rfl rfl i0) rfl)))
  (bO (aY pk (aK (aL rfl rfl (ix 1 _ rfl)) (aK (q_ (len_str B.ls _ (by omega)) (aK (lV rfl hA.o hA.f1) rfl)) rfl)))
  (bO (aY s2 (aK rfl (aK (aL rfl rfl (ix 2 _ rfl)) rfl)))
  (jZ (BX (cZ (aL rfl rfl rfl)) (BX (cZ (aL rfl rfl rfl)) (cZ (aL rfl rfl rfl))))
  ((jP (xn (RJ rfl (by simp[dw,A]) rv))).trans
  (dM (yG (aK (aL (lV rfl h3.o h3.f2) rfl fV) (aK (uZ rfl rfl rfl (Aw (bV (eV (k:=0) rfl)) (by simp;omega))) (aK (aL (lV rfl h3.o h3.f1) rfl lt3) (aK (uZ rfl rfl rfl (Aw (eV (k:=0) rfl (by simp)) (by omega))) rfl)))))))))))) rfl ?_
 rw[gP];exact lW (by simp)
def zp0(hB:lU B)(hb:Bs st)(hk:eU st b B)(z:Sd)(hz:vU B z)(ha:z.a.length<=900)(iM:z.b.length<=900)(Ml:B.ss.length<=512):yI [.loc b,enc (oE B z)] st=.ok (i_ z) st:=by
 let H:MO:=.lst ([ue B z.s,dO B z.a,cN B z.c,dO B z.b].map enc)
 let P:MO:=.lst ([dO B z.a,cN B z.c,dO B z.b].map enc)
 have hh:=zka [ue B z.s,dO B z.a,cN B z.c,dO B z.b] st (λt ht=>by
  simp only[gf,g_,ae3]at ht;rcases ht with rfl | rfl | rfl | rfl
  ·exact T9 _ _
  ·exact FN _
  ·exact FQ _
  ·exact FN _) (by simp)
 obtain⟨ns,f1,_,_,le⟩:=zkp (hk.mono (Keeps.app st [H])) hz.s;have bH:Bs (st++[H]):=hb.app (by simp[H]);have pk:=zg2 (FP hz.s) (st++[H]) bH (by omega);have gH:(st++[H])[st.length]? = some H:=eV (k:=0) rfl;have sl:vz (.loc st.length) (some 1) none (st++[H])=.ok (.loc (st++[H]).length) (st++[H]++[P]):=by
  unfold vz;simp only[aA,gH]
  rfl
 have so:=zde hB (bH.app (g:=[P]) (by simp[P])) (hk.mono ((Keeps.app st [H]).trans (Keeps.app (st++[H]) [P]))) z hz ha iM (st++[H]).length (eV (k:=0) rfl);refine aW (bO (aY hh rfl) (jZ (cZ (aL rfl rfl rfl)) (dM (aY so (aK rfl (aK (aY pk (aK (aL rfl rfl (uh _ _ _ _ _ (by unfold aA;rw[gH]) rfl)) (aK (q_ le (aK (f1 _ _ rfl) rfl)) rfl))) (aK (Rw rfl rfl rfl sl) rfl))))))) rfl ?_;rw[gP];exact lW (by simp[i_])
end
end Law
set_option maxHeartbeats 0
namespace M
namespace Tr
theorem ziq{x y:List Nat}(h:y≠x):∀t,stands y t=true->stands y (out x t).1=true
 | .lf s,e=>by
  have es:s=y:=aeZ e;have:outF x (.lf s)=none:=by rw[outF,aeS (by rw[es];exact h)]
  rw[out,this];show (_ || stands y (.lf s))=true;rw[e,Bool.or_true]
 | .jn l r,e=>by
  by_cases h1:(val (.jn l r) && !stands x (.jn l r))=true
  ·rw[zf7 x h1];show (_ || stands y (.jn l r))=true;rw[e,Bool.or_true]
  ·by_cases h2:((val l && !stands x l) && jq x r)=true
   ·rw[gM]at h2;rw[zkd x h2.1 h2.2];rw[stands,nY]at e;rcases e with e | e
    ·exact e
    ·rw[zrc.mp h2.2]at e;exact absurd (aeZ e).symm h
   ·rw[zm3 x (by simpa using h1) (by simpa using h2)];rw[stands,nY]at e;show ((_ || stands y (out x l).1) || stands y (out x r).1)=true;rcases e with e | e
    ·rw[ziq h l e];simp
    ·rw[ziq h r e];simp
theorem zmm{y:List Nat}{t:Tr}:∀xs:List (List Nat),(∀x∈xs,y≠x)->stands y t=true->stands y (cT t xs)=true
 | [],_,e=>e
 | x::xs,h,e=>by
  rw[cT];exact ziq (h x (by simp)) _ (zmm xs (λz hz=>h z (by simp[hz])) e)
theorem G6{f g:List Nat->Option Tr}{y:List Nat}:∀t,stands y t=true->sb f t=sb g t->sb f (.lf y)=sb g (.lf y)
 | .lf s,e,q=>by rw[<-aeZ e];exact q
 | .jn l r,e,q=>by
  rw[sb,sb]at q;injection q with q1 q2;rw[stands,nY]at e;rcases e with e | e
  ·exact G6 l e q1
  ·exact G6 r e q2
def G9{ls:List Nat}{n n':Tr}{d d':Nat->Tr}(h:Ny ls n d=Ny ls n' d'):n=n':=by
 have s:stands [110] (cU ls)=true:=by
  unfold cU dZ;rw[show ∀A:List Tr,A++[[110],[102],[108],[114]].map Tr.lf=A++[.lf [110]]++[.lf [102]]++[.lf [108]]++[.lf [114]] from λA=>by simp,zf3,zf3,zf3,zf3];simp[stands]
 have:=G6 _ (zmm jN (by decide) s) h;simpa[sb,look] using this
end Tr
end M
namespace Law
open L2 M Tr
def zX{B:Bk}{s s':Nat}(hs:s∈B.ss)(oN:s'∈B.ss)(h:cz B s=cz B s'):s=s':=by
 unfold cz hold at h;simp only[List.foldl]at h;injection h with h _;injection h with _ h;injection h with _ h;injection h with _ h;have:=G9 h;unfold ue at this;have e:=congrArg cntK this;rw[zem,zem]at e;have q:=Gm hs;rw[e,Gm oN]at q;exact (aeU q).symm
def adt{t:Tr}{st:ak}(h:∀a b c,t=hold [a,b,c]->val t=false):FT [enc t,.int 3] st=.ok .non st :=
 (ZZ t 3 st (by omega)).2 λws q=>by
  obtain⟨q1,q2⟩:=zhy q;obtain⟨a,b,c,rfl⟩:∃a b c,ws=[a,b,c]:=by
   match ws,q1 with
   | [a,b,c],_=>exact⟨a,b,c,rfl⟩
  exact h _ _ _ (q2 rfl)
section
variable  {B:Bk}{b:Nat}{st:ak}
def zl8(i:Int):LR [.loc b,.int i,.non] st=.ok .non st:=by
 unfold LR bB bw zdz;exact aW (rA (oU (BX (cZ (aL rfl rfl rfl)) (cZ (aL rfl rfl rfl))) (dM rfl))) rfl (dz (by simp))
def end_none{t:Tr}(h:val t=false):yI [.loc b,enc t] st=.ok .non st :=
 aW (bO (aY ((ZZ t 4 st (by omega)).2 λ_ _=>h) rfl) (rA (oU (cZ (aL rfl rfl rfl)) (dM rfl)))) rfl (dz (by simp))
def zgj(hB:lU B)(hk:eU st b B)(l r:Tr)(h:∀s∈B.ss,l=cz B s->∀x y z,r=hold [x,y,z]->val r=false):xq [.loc b,enc (.jn l r)] st=.ok .non st:=by
 have Ml:=hB.ss;obtain⟨fs,ns,nk,nt,nm,ml,mr,nr,qC,h1,h2,h3,_⟩:=hk.ex;unfold xq bB bw zcy;generalize SX:(fu (eY _) (retS _) bh:MS)=BD
 let E:Option D->Option D->aJ:=λa2 a3=>[some (.loc b),some (enc (.jn l r)),a2,a3]
 let L:List D:=(B.ss.map (cz B)).map enc
 have lL:L.length=B.ss.length:=by simp[L]
 have key:∀d k,k+d=B.ss.length->∀a2 a3,∃o,cu (rD 2 (dY (aM 2) (dY (aM 3) tQ))) BD [(qC,.lst L)] ((cM 0 L).drop k) (E a2 a3) st=.ok o st/\(o=.rt .non\/∃a2 a3,o=.nx (E a2 a3)):=by
  intro d
  induction d with
  | zero =>
   intro k Za a2 a3;refine⟨_,?_,.inr ⟨a2,a3,rfl⟩⟩;rw[nj (by rw[T7,lL];omega),cu,aeQ (t_ h3)]
  | succ d ih =>
   intro k Za a2 a3;have Y_:k<B.ss.length:=by omega
   have g:(cM 0 L)[k]? = some (.tup [.int k,enc (cz B B.ss[k])]):=by
    rw[Yk];simp only[L,gB,gF Y_];simp
   obtain⟨zr,Gb⟩:=gh.mp g;rw[nq zr,Gb,cu,aeQ (t_ h3)];have hm:=kJ Y_;have eq:=ZM (cz B B.ss[k]) l st (by have:=XC hB.ok hB.few hm;omega);by_cases e:cz B B.ss[k]=l
   ·have eq:M.fL 800 (enc (cz B B.ss[k])) (enc l) st=.ok (.bl true) st:=by simpa[e] using eq
    refine⟨.rt .non,?_,.inl rfl⟩;have w:BD (E (some (.int k)) (some (enc (cz B B.ss[k])))) st=.ok (.rt .non) st:=by
     rw[<-SX];exact oU (cZ (aL rfl (aL rfl rfl (Fz _ _ _)) eq)) (dM (aY (zl8 _) (aK rfl (aK rfl (aK (aY (adt (h _ hm e.symm)) (aK (aL rfl rfl (zJ _ _ _)) rfl)) rfl)))))
    show (BD (E (some (.int k)) (some (enc (cz B B.ss[k])))) st).bind _=_;rw[w];rfl
   ·have eq:M.fL 800 (enc (cz B B.ss[k])) (enc l) st=.ok (.bl false) st:=by simpa[e] using eq
    have w:BD (E (some (.int k)) (some (enc (cz B B.ss[k])))) st=.ok (.nx (E (some (.int k)) (some (enc (cz B B.ss[k]))))) st:=by
     rw[<-SX];exact Lr (cZ (aL rfl (aL rfl rfl (Fz _ _ _)) eq))
    obtain⟨o,i1,i2⟩:=ih (k+1) (by omega) (some (.int k)) (some (enc (cz B B.ss[k])));refine⟨o,?_,i2⟩;show (BD (E (some (.int k)) (some (enc (cz B B.ss[k])))) st).bind _=_;rw[w];exact i1
 have en:qQ (aj (cB "Book" "state_trees" (vr 0)) au) (E none none) st=.ok (cM 0 L,[(qC,.lst L)]) st:=by
  have f:=lV (f:="state_trees") (m:=vr 0) (env:=E none none) rfl h1.o h2;simp[f,qF,h3,L]
 obtain⟨o,k1,k2⟩:=key B.ss.length 0 (Nat.zero_add _) none none;have fr:∀{g:MG} {m:MS},g=(rD 2 (dY (aM 2) (dY (aM 3) tQ)))->m=BD->dU (qQ (aj (cB "Book" "state_trees" (vr 0)) au)) g m (E none none) st=.ok o st:=λ{g m} e1 e2=>by
  subst e1 e2;rw[wA,en,R.aB];exact k1
 rcases k2 with rfl | ⟨a2,a3,rfl⟩
 ·exact aW (jZ (jT (yE rfl (Ln _ _ _)) rfl) (rA (fr rfl rfl))) rfl (dz (by simp))
 ·exact aW (jZ (jT (yE rfl (Ln _ _ _)) rfl) ((jP (fr rfl rfl)).trans (dM rfl))) rfl (dz (by simp))
end
def zsv(t:Tr)(n:Nat)(st:ak)(hl:n<=100):FT [enc t,.int n] st=.ok .non st\/∃ts:List Tr,ts.length=n/\t=hold ts/\FT [enc t,.int n] st=.ok (.loc st.length) (st++[.lst (ts.map enc)]):=by
 obtain⟨h1,h2⟩:=ZZ t n st hl;by_cases c:∃ws,qz n t=some (ws,tI)/\val t=true
 ·obtain⟨ws,q,hv⟩:=c;obtain⟨q1,q2⟩:=zhy q;exact .inr ⟨ws.reverse,by rw[mC,q1],q2 rfl,h1 ws q hv⟩
 ·refine .inl (h2 λws q=>?_);cases hv:val t with
  | false=>rfl
  | true=>exact absurd ⟨ws,q,hv⟩ c
def Bm(a b:Tr):dp b+2<=dp (hold [a,b])/\dp a+2<=dp (hold [a,b]):=by
 rw[show hold [a,b]=.jn (.jn tS (.jn (.jn tS tI) (.jn tK a))) (.jn tK b) from rfl];simp only[dp];omega
theorem Te:∀(ts:List Tr) (x:Tr),x∈ts->dp x<=dp (jV ts)
 | t::ts,x,h=>by
  rw[jV,dp];have:=Bm t (jV ts);rcases gf.mp h with rfl | h
  ·omega
  ·have:=Te ts x h;omega
theorem y_:∀ts:List Tr,ts.length<=dp (jV ts)
 | []=>kO _
 | t::ts=>by
  have:=Bm t (jV ts);have:=y_ ts;rw[jV,dp,gr];omega
def Cz(t:Tr)(st:ak)(hd:dp t<800):Uh [enc t] st=.ok .non st\/∃ts:List Tr,t=jV ts/\Uh [enc t] st=.ok (.loc st.length) (st++[.lst (ts.map enc)]):=by
 unfold Uh bB bw zet;generalize hC:(eY (aD (M.xK 800) _ _):MT)=C;generalize hW:(aC (aG 3 (Mj _ _ _)) _:MS)=W
 let E:Tr->Option D->aJ:=λr a=>[some (enc t),some (.loc st.length),some (enc r),a]
 let Z:List Tr->ak->ak:=λvs G=>st++.lst (vs.map enc)::G
 have no:∀r a vs G,cL [75] r=false->W (E r a) (Z vs G)=.ok (.rt .non) (Z vs G):=λr a vs G h=>by
  have fr:=zbs [75] r (Z vs G);rw[h]at fr;rw[<-hW];exact bO (Rp (jT (aY fr rfl) rfl) rfl) (rA (oU (cZ (aL rfl rfl rfl)) (dM rfl)))
 have lp:∀(n:Nat) (r:Tr) (vs:List Tr) (a:Option D) (G:ak),dp r<n->n+vs.length<=900->(∃X,bC C W (E r a) (Z vs G)=.ok (.rt .non) (st++X))\/∃us r' a' G',r=jV us/\bC C W (E r a) (Z vs G)=.ok (.nx (E r' a')) (Z (vs++us) G'):=by
  intro n
  induction n with
  | zero=>intro r vs a G h;omega
  | succ n ih =>
   intro r vs a G hr hn;cases r with
   | lf s =>
    by_cases hs:s=[75]
    ·subst hs;refine .inr ⟨[],Tr.tK,a,G,rfl,?_⟩;rw[yq,show C (E Tr.tK a) (Z vs G)=.ok false (Z vs G) by rw[<-hC];exact cZ (aL rfl rfl rfl),R.aB,gR]
     rfl
    ·refine .inl ⟨.lst (vs.map enc)::G,?_⟩;rw[yq,show C (E (.lf s) a) (Z vs G)=.ok true (Z vs G) by rw[<-hC];exact cZ (aL rfl rfl (by have:=lB (My 799 (.lf s) [75] (Z vs G));simpa[hs] using this)),R.aB,aeQ rfl,no _ _ _ _ (zen _ _)]
     rfl
   | jn l u =>
    have hc:C (E (.jn l u) a) (Z vs G)=.ok true (Z vs G):=by rw[<-hC];exact cZ (aL rfl rfl (Ik _ _ _ _))
    rw[yq,hc,R.aB,aeQ rfl];cases hf:cL [75] (.jn l u) with
    | false=>exact .inl ⟨.lst (vs.map enc)::G,by rw[no _ _ _ _ hf];rfl⟩
    | true =>
     obtain rfl:l=Tr.tK:=by
      cases l with
      | lf s=>rw[Ug]at hf;rw[aeZ hf]
      | jn p q=>rw[zc8]at hf;cases hf
     rcases zsv u 2 (Z vs G) (by omega) with hh | ⟨ts,tl,tu,hh⟩
     ·refine .inl ⟨.lst (vs.map enc)::G,?_⟩;rw[show W (E (.jn Tr.tK u) a) (Z vs G)=.ok (.rt .non) (Z vs G) by
       rw[<-hW];exact bO (Rp (jT (aY (zk0 [75] _ _) rfl) rfl) (aY hh (aK (aL rfl rfl (zJ _ _ _)) rfl))) (rA (oU (cZ (aL rfl rfl rfl)) (dM rfl)))]
      rfl
     ·obtain⟨x,y,rfl⟩:∃x y,ts=[x,y]:=by
       match ts,tl with
       | [x,y],_=>exact⟨x,y,rfl⟩
      have hy:=(Bm x y).1;rw[<-tu]at hy;rw[dp]at hr
      let H:MO:=.lst ([x,y].map enc)
      let m:Nat:=(Z vs G).length
      have g:(Z vs (G++[H]))[st.length]? = some (.lst (vs.map enc)):=eV (k:=0) rfl;have ez:∀vs,Z vs G++[H]=Z vs (G++[H]):=λvs=>by simp[Z]
      rw[show Z vs G++[.lst ([x,y].map enc)]=Z vs (G++[H]) from ez vs]at hh;have im:∀yr:List Tr,aA (Z yr (G++[H])) m=some [enc x,enc y]:=λyr=>by
       have:(Z yr (G++[H]))[m]? = some H:=by
        rw[<-ez yr,show m=(Z yr G).length by simp[m,Z]];simp
       unfold aA;rw[this];rfl
      have ap:a_ (.loc st.length) [enc x] (Z vs (G++[H]))=.ok .non (Z (vs++[x]) (G++[H])):=by
       unfold a_;simp only[g];rw[aeQ (by simp;omega)];simp[Z]
      have w:W (E (.jn Tr.tK u) a) (Z vs G)=.ok (.nx (E y (some (.loc m)))) (Z (vs++[x]) (G++[H])):=by
       rw[<-hW];exact bO (Rp (jT (aY (zk0 [75] _ _) rfl) rfl) (aY hh (aK (aL rfl rfl (zJ _ _ _)) rfl))) (jZ (cZ (aL rfl rfl rfl)) ((jP (xn (uZ rfl (by simp[dw,g]) (aK (aL rfl rfl (uh _ _ _ _ _ (im vs) rfl)) rfl) ap))).trans (yF (aL rfl rfl (uh _ _ _ _ _ (im (vs++[x])) rfl)))))
      rw[w,R.aB];rcases ih y (vs++[x]) (some (.loc m)) (G++[H]) (by omega) (by simp;omega) with⟨X,h⟩ | ⟨us,r',a',G',e,h⟩
      ·exact .inl ⟨X,h⟩
      ·refine .inr ⟨x::us,r',a',G',by rw[jV,tu,e],?_⟩;rw[gP]at h;exact h
 rcases lp (dp t+1) t [] none [] (by omega) (by simp;omega) with⟨X,h⟩ | ⟨us,r',a',G',e,h⟩
 ·exact .inl (aW (bO rfl (bO rfl (rA h))) rfl (lW (by simp)))
 ·have gg:=Zz (st:=st) (g:=[]) (g':=G') (o:=.lst (us.map enc)) (zf2 _ us);rw[gR]at gg;exact .inr ⟨us,e,aW (bO rfl (bO rfl ((jP h).trans (dM rfl)))) rfl gg⟩
def Qn(ds:List D)(n:Nat)(st:ak)(h:aA st n=some ds)(hf:cD ds=true)(hn:.non∈ds):pQ 800 false .non (.loc n) st=.ok (.bl true) st:=by
 unfold pQ;simp only[h];have f3:(ds.any λe=>fY e .non)=true:=ph.mpr ⟨_,hn,by simp[fY]⟩;rw[aeQ ⟨by simp,hf,nJ.mpr λe _=>by simp⟩,f3];rfl
def zgv(t:Tr)(n:Nat):(di t n=.non)\/(di t n=.int (cntK t:Nat)/\cntK t<n/\t=bM (cntK t) n):=by
 unfold di
 split
 ·rename_i c;exact .inr ⟨rfl,c⟩
 ·exact .inl rfl
section
variable  {B:Bk}{b:Nat}{st:ak}
def GX(hB:lU B){t:Tr}(h1:cntK t<B.ls.length)(h2:t=bM (cntK t) B.ls.length):B.ls.getD (cntK t) 0∈B.ls/\t=cN B (B.ls.getD (cntK t) 0):=by
 have g:B.ls[cntK t]? = some (B.ls.getD (cntK t) 0):=by rw[pF,gF h1];rfl
 refine⟨gU g,?_⟩;unfold cN;rw[Gk hB.ok.nl g];exact h2
def zro(hB:lU B)(hb:Bs st)(hk:eU st b B)(t:Tr)(hd:dp t<700):∃d g c,zca [.loc b,enc t] st=.ok d (st++g)/\bJ g/\(∀S,bI d .non S=.ok (.bl c) S)/\(c=false->∃cs:List Nat,(∀x∈cs,x∈B.ls)/\cs.length<=dp t/\t=dO B cs):=by
 obtain⟨fs,ns,nk,nt,nm,ml,mr,nr,qC,h1,_⟩:=hk.ex;have uO:=hB.few;rcases Cz t st (by omega) with th | ⟨ts,rfl,th⟩
 ·refine⟨.non,[],true,?_,by simp,λ_=>rfl,λh=>by cases h⟩;rw[gR];exact aW (bO (aY th rfl) (rA (oU (cZ (aL rfl rfl rfl)) (dM rfl)))) rfl (dz (by simp))
 ·by_cases al:∀x∈ts,cntK x<B.ls.length/\x=bM (cntK x) B.ls.length
  ·let cs:List Nat:=ts.map λx=>B.ls.getD (cntK x) 0
   have hc:∀x∈cs,x∈B.ls:=λx hx=>by
    obtain⟨y,hy,rfl⟩:=gj.mp hx;exact (GX hB (al y hy).1 (al y hy).2).1
   have e:jV ts=dO B cs:=by
    unfold dO;congr 1;rw[gG]
    conv=>lhs;rw[<-List.map_id ts]
    exact kE λx hx=>(GX hB (al x hx).1 (al x hx).2).2
   have hl:=y_ ts;have so:=zeu hB hb hk cs hc (by simp[cs];omega);rw[<-e]at so;exact⟨_,_,false,so,by simp,λ_=>rfl,λ_=>⟨cs,hc,by simp[cs];exact hl,e⟩⟩
  ·refine⟨.non,[],true,?_,by simp,λ_=>rfl,λh=>by cases h⟩;rw[gR]
   let L1:MO:=.lst (ts.map enc)
   let P:List D:=ts.map λx=>di x B.ls.length
   have c1:eF [some 0,none] (ig (vr 2)) (aM 1) j5 (az M4 [] (aj (vr 1) (aj (bD dR (aj (cB "Book" "letters" (vr 0)) au)) au))) [some (.loc b),some (enc (jV ts)),some (.loc st.length),none] (st++[L1])=.ok (.loc (st++[L1]).length) (st++[L1]++[.lst P]):=by
    have e2:(ts.map enc).map (liftT λx=>di x B.ls.length)=P:=by
     rw[gG];exact kE λx _=>zh6 _ x
    rw[<-e2];have hl:=y_ ts;exact MF (liftT λx=>di x B.ls.length) (λenv=>∃x,env=[some (.loc b),x]) (X_ rfl (eV (k:=0) rfl)) ⟨_,rfl⟩ (by simp;omega) (λys=>t_ (bV (eV (k:=0) rfl))) (λd wL bW ys hP=>by
     obtain⟨x,hx,rfl⟩:=gj.mp wL;obtain⟨w,rfl⟩:=hP;have hz:=h1.mono ((Keeps.app st [L1]).trans (Keeps.app (st++[L1]) [.lst ys]));have bz:Bs (st++[L1]++[.lst ys]):=(hb.app (by simp[L1])).app (by simp);refine⟨[some (.loc b),some (enc x)],⟨_,rfl⟩,rfl,?_⟩;rw[zh6];exact aY (zh3 x B.ls.length _ bz.t1 bz.c (by omega) (by have:=Te ts x hx;omega)) (aK rfl (aK (q_ (len_str B.ls _ (by omega)) (aK (lV rfl hz.o hz.f1) rfl)) rfl)))
   have hn:D.non∈P:=by
    simp only[Classical.not_forall]at al;obtain⟨x,hx,q⟩:=al;refine gj.mpr ⟨x,hx,?_⟩;rcases zgv x B.ls.length with h | h
    ·exact h
    ·exact absurd h.2 q
   have hf:cD P=true:=by
    show cD (ts.map λx=>di x B.ls.length)=true;clear hn c1 al th hd L1 P
    induction ts with
    | nil=>rfl
    | cons x ts ih =>
     rw[gw,Yn,ih,Bool.and_true];rcases zgv x B.ls.length with h | h
     ·rw[h];rfl
     ·rw[h.1];rfl
   refine aW (st1:=st++[L1]++[.lst P]) (bO (aY th rfl) (jZ (cZ (aL rfl rfl rfl)) (bO c1 (rA (oU (cZ (aL rfl rfl (Qn P _ _ (by unfold aA;rw[eV (k:=0) rfl]) hf hn))) (dM rfl)))))) rfl ?_;rw[gP];exact lW (by simp)
def Dh(t:Tr)(n:Nat):∃c,(∀S,bI (di t n) .non S=.ok (.bl c) S)/\(c=false->di t n=.int (cntK t:Nat)/\cntK t<n/\t=bM (cntK t) n):=by
 rcases zgv t n with h | h
 ·exact⟨true,λS=>by rw[h];rfl,λq=>by cases q⟩
 ·exact⟨false,λS=>by rw[h.1];rfl,λ_=>h⟩
def ztj(hB:lU B)(hb:Bs st)(hk:eU st b B)(s:Nat)(hs:s∈B.ss)(x y w:Tr)(hx:dp x<700)(hy:dp y<700)(hw:dp w<700)(p:Nat)(hp:st[p]? = some (.lst [enc x,enc y,enc w])) :
  LR [.loc b,.int (bR B.ss s:Nat),.loc p] st=.ok .non st\/∃z,vU B z/\z.s=s/\z.a.length<=700/\z.b.length<=700/\x=dO B z.a/\y=cN B z.c/\w=dO B z.b:=by
 have uO:=hB.few;obtain⟨d1,g1,c1,s1,n1,i1,q1⟩:=zro hB hb hk x hx;obtain⟨c2,i2,q2⟩:=Dh y B.ls.length;have b1:Bs (st++g1):=hb.app n1;have k1:eU (st++g1) b B:=hk.mono (Keeps.app st g1);obtain⟨d3,g3,c3,s3,n3,i3,q3⟩:=zro hB b1 k1 w hw;have pk:=zh3 y B.ls.length (st++g1) b1.t1 b1.c (by omega) (by omega);obtain⟨fs,ns,nk,nt,nm,ml,mr,nr,qC,h1,_⟩:=k1.ex;by_cases c:(c1 || (c2 || c3))=false
 ·simp only[Bool.or_eq_false_iff]at c;obtain⟨as,a1,a2,a3⟩:=q1 c.1;obtain⟨_,e1,e2⟩:=q2 c.2.1;obtain⟨bs,f1,f2,f3⟩:=q3 c.2.2;obtain⟨m1,m2⟩:=GX hB e1 e2;exact .inr ⟨⟨s,as,B.ls.getD (cntK y) 0,bs⟩,⟨hs,m1,a1,f1⟩,rfl,by show as.length<=_;omega,by show bs.length<=_;omega,a3,m2,f3⟩
 ·have c:(c1 || (c2 || c3))=true:=by revert c;cases (c1 || (c2 || c3))<;>simp
  have ix:∀{g:ak} (k:Int) (d:D),pW [enc x,enc y,enc w] k=some d->aZ (.loc p) (.int k) (st++g)=.ok d (st++g):=λk d h=>uh _ _ _ _ _ (by unfold aA;rw[bV hp]) h;have i0:aZ (.loc p) (.int 0) st=.ok (enc x) st:=uh _ _ _ _ _ (by unfold aA;rw[hp]) rfl;have or3:=Ab (cZ (aL (a:=vr 3) (b:=ct .non) (env:=[some (.loc b),some (.int (bR B.ss s:Nat)),some (.loc p),some d1,some (di y B.ls.length),some d3]) rfl rfl (i1 (st++g1++g3)))) (Ab (cZ (aL (a:=vr 4) (b:=ct .non) rfl rfl (i2 (st++g1++g3)))) (cZ (aL (a:=vr 5) (b:=ct .non) rfl rfl (i3 (st++g1++g3)))));rw[c]at or3;refine .inl (aW (st1:=st++g1++g3) (jZ (BX (cZ (aL rfl rfl rfl)) (cZ (aL rfl rfl rfl))) (bO (aY s1 (aK rfl (aK (aL rfl rfl i0) rfl)))
   (bO (aY pk (aK (aL rfl rfl (ix 1 _ rfl)) (aK (q_ (len_str B.ls _ (by omega)) (aK (lV rfl h1.o h1.f1) rfl)) rfl)))
   (bO (aY s3 (aK rfl (aK (aL rfl rfl (ix 2 _ rfl)) rfl)))
   (rA (oU or3 (dM rfl))))))) rfl ?_)
  rw[gP];exact lW (by simp)
end
end Law
set_option maxHeartbeats 0
namespace Law
open L2 M Tr
section
variable  {B:Bk}{b:Nat}{st:ak}
def zkc(hB:lU B)(hk:eU st b B){s:Nat}(hs:s∈B.ss)(r:Tr){d v:D}{S1 S2:ak}(hh:FT [enc r,.int 3] st=.ok d S1)(so:LR [.loc b,.int (bR B.ss s:Nat),d] S1=.ok v S2)(hg:gc st (.ok v S2)=.ok v st) :
  xq [.loc b,enc (.jn (cz B s) r)] st=.ok v st:=by
 have Ml:=hB.ss;obtain⟨fs,ns,nk,nt,nm,ml,mr,nr,qC,h1,h2,h3,_⟩:=hk.ex;unfold xq bB bw zcy;generalize SX:(fu (eY _) (retS _) bh:MS)=BD
 let E:Option D->Option D->aJ:=λa2 a3=>[some (.loc b),some (enc (.jn (cz B s) r)),a2,a3]
 let L:List D:=(B.ss.map (cz B)).map enc
 have hi:=FP hs;have key:∀d0 k,k+d0=bR B.ss s->∀a2 a3,cu (rD 2 (dY (aM 2) (dY (aM 3) tQ))) BD [(qC,.lst L)] ((cM 0 L).drop k) (E a2 a3) st=.ok (.rt v) S2:=by
  intro d0
  induction d0 with
  | zero =>
   intro k Za a2 a3;rw[Nat.add_zero]at Za;have g:(cM 0 L)[k]? = some (.tup [.int k,enc (cz B s)]):=by
    rw[Yk];simp only[L,Za,gB,Gm hs];simp
   obtain⟨zr,Gb⟩:=gh.mp g;rw[nq zr,Gb,cu,aeQ (t_ h3)];have eq:M.fL 800 (enc (cz B s)) (enc (cz B s)) st=.ok (.bl true) st:=by have:=ZM (cz B s) (cz B s) st (by have:=XC hB.ok hB.few hs;omega);simpa using this
   have w:BD (E (some (.int k)) (some (enc (cz B s)))) st=.ok (.rt v) S2:=by
    rw[<-SX,Za];exact oU (cZ (aL rfl (aL rfl rfl (Fz _ _ _)) eq)) (dM (aY so (aK rfl (aK rfl (aK (aY hh (aK (aL rfl rfl (zJ _ _ _)) rfl)) rfl)))))
   show (BD (E (some (.int k)) (some (enc (cz B s)))) st).bind _=_;rw[w];rfl
  | succ d0 ih =>
   intro k Za a2 a3;have Y_:k<B.ss.length:=by omega
   have g:(cM 0 L)[k]? = some (.tup [.int k,enc (cz B B.ss[k])]):=by
    rw[Yk];simp only[L,gB,gF Y_];simp
   obtain⟨zr,Gb⟩:=gh.mp g;rw[nq zr,Gb,cu,aeQ (t_ h3)];have hm:=kJ Y_;have ne:cz B B.ss[k]≠cz B s:=λe=>by
    have:=zX hm hs e;have q:=Gk hB.ok.ns (gF Y_);rw[this]at q;omega
   have eq:M.fL 800 (enc (cz B B.ss[k])) (enc (cz B s)) st=.ok (.bl false) st:=by have:=ZM (cz B B.ss[k]) (cz B s) st (by have:=XC hB.ok hB.few hm;omega);simpa[ne] using this
   have w:BD (E (some (.int k)) (some (enc (cz B B.ss[k])))) st=.ok (.nx (E (some (.int k)) (some (enc (cz B B.ss[k]))))) st:=by
    rw[<-SX];exact Lr (cZ (aL rfl (aL rfl rfl (Fz _ _ _)) eq))
   show (BD (E (some (.int k)) (some (enc (cz B B.ss[k])))) st).bind _=_;rw[w];exact ih (k+1) (by omega) _ _
 have en:qQ (aj (cB "Book" "state_trees" (vr 0)) au) (E none none) st=.ok (cM 0 L,[(qC,.lst L)]) st:=by
  have f:=lV (f:="state_trees") (m:=vr 0) (env:=E none none) rfl h1.o h2;simp[f,qF,h3,L]
 exact aW (jZ (jT (yE rfl (Ln _ _ _)) rfl) (rA (by rw[wA];exact (congrArg (λx=>R.bind x _) en).trans (key (bR B.ss s) 0 (Nat.zero_add _) none none)))) rfl hg
def znx(s:List Nat):xq [.loc b,enc (.lf s)] st=.ok .non st:=by
 unfold xq bB bw zcy;exact aW (rA (oU (jT (yE rfl (JM _ _)) rfl) (dM rfl))) rfl (dz (by simp))
def Tf(x y z:Tr):dp x<=dp (hold [x,y,z])/\dp y<=dp (hold [x,y,z])/\dp z<=dp (hold [x,y,z]):=by
 rw[show hold [x,y,z]=.jn (.jn tS (hold [x,y])) (.jn tK z) from rfl];have:=Bm x y;simp only[dp];omega
def JX(hB:lU B)(hb:Bs st)(hk:eU st b B)(t:Tr)(hd:dp t<700):xq [.loc b,enc t] st=.ok .non st\/∃z,vU B z/\z.a.length<=700/\z.b.length<=700/\t=vL B z/\xq [.loc b,enc t] st=.ok (i_ z) st:=by
 cases t with
 | lf s=>exact .inl (znx s)
 | jn l r =>
  by_cases hl:∃s∈B.ss,l=cz B s
  ·obtain⟨s,hs,rfl⟩:=hl;rw[dp]at hd;rcases zsv r 3 st (by omega) with hh | ⟨ts,tl,rfl,hh⟩
   ·exact .inl (zkc hB hk hs r hh (zl8 _) (dz (by simp)))
   ·obtain⟨x,y,w,rfl⟩:∃x y w,ts=[x,y,w]:=by
     match ts,tl with
     | [x,y,w],_=>exact⟨x,y,w,rfl⟩
    have h3:=Tf x y w
    let H:MO:=.lst ([x,y,w].map enc)
    have bH:Bs (st++[H]):=hb.app (by simp[H]);have kH:=hk.mono (Keeps.app st [H]);have hp:(st++[H])[st.length]? = some (.lst [enc x,enc y,enc w]):=eV (k:=0) rfl;rcases ztj hB bH kH s hs x y w (by omega) (by omega) (by omega) st.length hp with so | ⟨z,hz,rfl,ha,iM,e1,e2,e3⟩
    ·exact .inl (zkc hB hk hs _ hh so (lW (by simp)))
    ·subst e1 e2 e3;exact .inr ⟨z,hz,ha,iM,rfl,zkc hB hk hs _ hh (zde hB bH kH z hz (by omega) (by omega) st.length hp) (lW (by simp[i_]))⟩
  ·exact .inl (zgj hB hk l r λs hs e=>absurd ⟨s,hs,e⟩ hl)
def aa5(hB:lU B){t:Tr}(h1:cntK t<B.ss.length)(h2:t=bM (cntK t) B.ss.length):∃s∈B.ss,bR B.ss s=cntK t/\t=ue B s:=by
 have g:B.ss[cntK t]? = some (B.ss[cntK t]):=gF h1;refine⟨_,kJ h1,Gk hB.ok.ns g,?_⟩;unfold ue;rw[Gk hB.ok.ns g];exact h2
def Xf(hB:lU B)(hb:Bs st)(hk:eU st b B)(t:Tr)(hd:dp t<700):yI [.loc b,enc t] st=.ok .non st\/∃z,vU B z/\z.a.length<=700/\z.b.length<=700/\t=oE B z/\yI [.loc b,enc t] st=.ok (i_ z) st:=by
 have Ml:=hB.ss;rcases zsv t 4 st (by omega) with hh | ⟨ts,tl,rfl,hh⟩
 ·exact .inl (aW (bO (aY hh rfl) (rA (oU (cZ (aL rfl rfl rfl)) (dM rfl)))) rfl (dz (by simp)))
 ·obtain⟨n,x,y,w,rfl⟩:∃n x y w,ts=[n,x,y,w]:=by
   match ts,tl with
   | [n,x,y,w],_=>exact⟨n,x,y,w,rfl⟩
  have h4:dp n<700/\dp x<700/\dp y<700/\dp w<700:=by
   have:=Tf n x y;rw[show hold [n,x,y,w]=.jn (.jn tS (hold [n,x,y])) (.jn tK w) from rfl]at hd;simp only[dp]at hd;omega
  let H:MO:=.lst ([n,x,y,w].map enc)
  let P:MO:=.lst ([x,y,w].map enc)
  have bH:Bs (st++[H]):=hb.app (by simp[H]);have bP:Bs (st++[H]++[P]):=bH.app (by simp[P]);have kP:=hk.mono ((Keeps.app st [H]).trans (Keeps.app (st++[H]) [P]));obtain⟨fs,ns,nk,nt,nm,ml,mr,nr,qC,h1,_⟩:=(hk.mono (Keeps.app st [H])).ex;have gH:(st++[H])[st.length]? = some H:=eV (k:=0) rfl;have sl:vz (.loc st.length) (some 1) none (st++[H])=.ok (.loc (st++[H]).length) (st++[H]++[P]):=by
   unfold vz;simp only[aA,gH]
   rfl
  have le:=Ls (st:=st++[H]) (n:=ns) (ds:=B.ss.map λs=>D.int (s:Nat)) (by unfold aA;rw[h1.s]);rw[gm]at le;have pk:=zh3 n B.ss.length (st++[H]) bH.t1 bH.c (by omega) (by omega);have fin:∀{v:D},(∀m,under m v)->LR [.loc b,di n B.ss.length,.loc (st++[H]).length] (st++[H]++[P])=.ok v (st++[H]++[P])->yI [.loc b,enc (hold [n,x,y,w])] st=.ok v st:=λhv so=>by
   refine aW (st1:=st++[H]++[P]) (bO (aY hh rfl) (jZ (cZ (aL rfl rfl rfl)) (dM (aY so (aK rfl (aK (aY pk (aK (aL rfl rfl (uh _ _ _ _ _ (by unfold aA;rw[gH]) rfl)) (aK (q_ le (aK (lV rfl h1.o h1.f2) rfl)) rfl))) (aK (Rw rfl rfl rfl sl) rfl))))))) rfl ?_;rw[gP];exact lW (hv _)
  rcases zgv n B.ss.length with q | ⟨q,q1,q2⟩
  ·refine .inl (fin (λ_=>by simp) ?_);rw[q];unfold LR bB bw zdz;exact aW (rA (oU (Aa (cZ (aL rfl rfl rfl))) (dM rfl))) rfl (dz (by simp))
  ·obtain⟨s,hs,es,en⟩:=aa5 hB q1 q2;rw[q,<-es]at fin;have hp:(st++[H]++[P])[(st++[H]).length]? = some (.lst [enc x,enc y,enc w]):=eV (k:=0) rfl;rcases ztj hB bP kP s hs x y w h4.2.1 h4.2.2.1 h4.2.2.2 _ hp with so | ⟨z,hz,rfl,ha,iM,e1,e2,e3⟩
   ·exact .inl (fin (λ_=>by simp) so)
   ·subst e1 e2 e3;refine .inr ⟨z,hz,ha,iM,by rw[en];rfl,fin (λ_=>by simp[i_]) ?_⟩;exact zde hB bP kP z hz (by omega) (by omega) _ hp
def JN(z:Sd)(S:ak):bI (i_ z) .non S=.ok (.bl false) S:=rfl
def HN{x y:ME}{env:aJ}{s s1:ak}{r:R D}(h:x env s=.ok (.bl false) s1)(k:y env s1=r):HQ x y env s=r:=by simp[h,k]
def z9{x y:ME}{env:aJ}{s s1:ak}(h:x env s=.ok (.bl true) s1):HQ x y env s=.ok (.bl true) s1:=by simp[h]
def eq_self(t:Tr)(S:ak)(h:dp t<800):M.fL 800 (enc t) (enc t) S=.ok (.bl true) S:=by have:=ZM t t S h;simpa using this
def zn4(hB:lU B)(hb:Bs st)(hk:eU st b B)(t:Tr)(hd:dp t<700):Z8 [.loc b,enc t] st=.ok (.bl true) st:=by
 rcases JX hB hb hk t hd with h | ⟨z,hz,ha,iM,e,h⟩
 ·exact aW (bO (aY h rfl) (dM (z9 (aL rfl rfl rfl)))) rfl (dz (by simp))
 ·have im:=zdb hB hb hk z hz (by omega) (by omega);rw[<-e]at im;exact aW (bO (aY h rfl) (dM (HN (aL rfl rfl (JN z _)) (aL (aY im rfl) rfl (eq_self t _ (by omega)))))) rfl (dz (by simp))
def zpq(hB:lU B)(hb:Bs st)(hk:eU st b B)(t:Tr)(hd:dp t<700):zfp [.loc b,enc t] st=.ok (.bl true) st:=by
 rcases Xf hB hb hk t hd with h | ⟨z,hz,ha,iM,e,h⟩
 ·exact aW (bO (aY h rfl) (dM (z9 (aL rfl rfl rfl)))) rfl (dz (by simp))
 ·have im:=zg3 hB hb hk z hz (by omega) (by omega);rw[<-e]at im;exact aW (bO (aY h rfl) (dM (HN (aL rfl rfl (JN z _)) (aL (aY im rfl) rfl (eq_self t _ (by omega)))))) rfl (dz (by simp))
end
end Law
set_option maxHeartbeats 0
namespace M
theorem zrt:∀(n:Nat) (xs:List Nat),(∀r,r<n->r∈xs)->n<=xs.length
 | 0,_,_=>kO _
 | n+1,xs,h=>by
  have hm:=h n (by omega);have:=zrt n (xs.erase n) λr hr=>(List.mem_erase_of_ne (by omega)).mpr (h r (by omega));rw[List.length_erase_of_mem hm]at this;have:0<xs.length:=List.length_pos_of_mem hm;omega
def Kc{xs:List Nat}{n:Nat}(h:xs.length<n):∃r,r<n/\r∉xs:=by
 apply afo;intro hn;have:=zrt n xs λr hr=>afo λq=>hn ⟨r,hr,q⟩;omega
end M
namespace Law
open L2 M Tr
def fQ(ns:List Int)(k:Nat):Int:=if k<ns.length then ns.getD k 0 else 7919*k+13
def zpe(ns:List Int)(n k:Nat)(st:ak)(h:aA st n=some (ns.map D.int))(hk:k<=10000):Mx [.loc n,.int k] st=.ok (.int (fQ ns k)) st:=by
 have le:=Ls h;rw[gm]at le;have mu:lC (.int 7919) (.int k) st=.ok (.int (7919*(k:Int))) st:=T6 st 7919 k (by omega);unfold Mx bB bw zst fQ;by_cases hl:k<ns.length
 ·have c:(k:Int)<(ns.length:Nat):=by omega
  have ix:aZ (.loc n) (.int k) st=.ok (.int (ns.getD k 0)) st:=by
   refine uh _ _ _ _ _ h ?_;rw[Gp,gB,pF];rw[gF hl];rfl
  rw[aeQ hl];generalize ns.getD k 0=v at *;generalize (ns.length:Int)=L at *;simp[startM,le,c,ix,dz]
 ·have c:¬ (k:Int)<(ns.length:Nat):=by omega
  rw[aeS hl];generalize (ns.length:Int)=L at *;simp[startM,le,c,mu,dz]
def tU(c k:Int):Int:=(c % 2147483647*48271+k*69621+11) % 2147483629
def vD(c k:Int):Int:=(tU c k*tU c k+7) % 998244353
def yS(c k:Int):Int:=(vD c k*vD c k+k) % 1000000007
def Tz(c k:Int)(st:ak):MJ [.int c,.int k] st=.ok (.int (yS c k)) st:=by
 unfold MJ bB bw zo2 yS;have e1:(c % 2147483647*48271+k*69621+11) % 2147483629=tU c k:=rfl;have e2:(tU c k*tU c k+7) % 998244353=vD c k:=rfl;have b1:0<=tU c k/\tU c k<2147483629:=by unfold tU;omega
 have b2:0<=vD c k/\vD c k<998244353:=by unfold vD;omega
 have m1:∀s,lC (.int (c % 2147483647)) (.int 48271) s=.ok (.int (c % 2147483647*48271)) s:=λs=>T6 s _ _ (by omega);have m2:∀s,lC (.int k) (.int 69621) s=.ok (.int (k*69621)) s:=λs=>T6 s _ _ (by omega);have m3:∀s,lC (.int (tU c k)) (.int (tU c k)) s=.ok (.int (tU c k*tU c k)) s:=λs=>T6 s _ _ (by omega);have m4:∀s,lC (.int (vD c k)) (.int (vD c k)) s=.ok (.int (vD c k*vD c k)) s:=λs=>T6 s _ _ (by omega);simp[startM,zhv,m1,m2,e1,m3,e2,m4,dz]
def Ye(t:Tr)(st:ak):Lw [enc t] st=.ok (.int (lv t:Nat)) st:=by
 unfold Lw bB bw zqt;cases t with
 | lf s=>simp[startM,enc,f9,iZ,lv,dz]
 | jn l r =>
  have JQ:=ze2 (.jn l r);have x2:aZ (enc (.jn l r)) (.int 2) st=.ok (.int (lv (.jn l r):Nat)) st:=by rw[enc];exact yH st 2 _ _ rfl
  generalize enc (.jn l r)=J at *;generalize lv (.jn l r)=n at *;simp[startM,JQ,iZ,x2,dz]
def znb(t:Tr)(st:ak):T4 [enc t] st=.ok (.bl (val t)) st:=by
 unfold T4 bB bw zsf;cases t with
 | lf s=>simp[startM,enc,f9,val,dz]
 | jn l r =>
  have JQ:=ze2 (.jn l r);have x3:aZ (enc (.jn l r)) (.int 3) st=.ok (.bl (val (.jn l r))) st:=by rw[enc];exact yH st 3 _ _ rfl
  generalize enc (.jn l r)=J at *;generalize val (.jn l r)=n at *;simp[startM,JQ,x3,dz]
def ug:Tr->Prop
 | .lf s=>s=[83]\/s=[75]
 | .jn _ _=>True
def zK(l r:Tr)(st:ak)(h:ug l):jz [enc l,enc r] st=.ok (enc (.jn l r)) st:=by
 have d1:=znb l st;have d2:=znb r st;have m1:=Ye l st;have m2:=Ye r st;have u1:=iQ st.length l;have u2:=iQ st.length r;have JQ:=ze2 l;unfold jz bB bw zn8;cases l with
 | lf s =>
  have hs:(s==[83] || s==[75])=true:=by
   rcases (show s=[83]\/s=[75] from h) with rfl | rfl<;>rfl
  rw[enc.eq_2,Uc,hs,Bool.and_true,lv];generalize enc (.lf s)=L at *;generalize enc r=R' at *;rw[show val (.lf s)=true from rfl]at d1;generalize val r=vr' at *;generalize lv (.lf s)=n1 at *;generalize lv r=n2 at *;cases vr'<;>(simp[startM,d1,d2,JQ,iZ,m1,m2];refine dz ?_;simp[u1,u2])
 | jn a b =>
  have x0:aZ (enc (.jn a b)) (.int 0) st=.ok (enc a) st:=by rw[enc];exact yH st 0 _ _ rfl
  have q1:fL 800 (enc a) (.str [83]) st=.ok (.bl (tV (.jn a b))) st:=by
   have:=My 799 a [83] st;cases a with
   | lf s=>rw[this];simp[tV];rw[mz];simp
   | jn c d=>rw[this];simp[tV]
  rw[enc.eq_2 (.jn a b) r,T8,lv];generalize enc (.jn a b)=L at *;generalize enc r=R' at *;generalize enc a=A at *;generalize val (.jn a b)=v1 at *;generalize val r=v2 at *;generalize tV (.jn a b)=q at *;generalize lv (.jn a b)=n1 at *;generalize lv r=n2 at *;cases v1<;>cases v2<;>(simp[startM,d1,d2,JQ,iZ,m1,m2,x0,q1];refine dz ?_;simp[u1,u2])
def fo:Tr->Prop
 | .lf _=>True
 | .jn l r=>ug l/\fo l/\fo r
theorem XM:∀{t:Tr},val t=true->fo t
 | .lf _,_=>trivial
 | .jn (.lf s) r,h=>by
  rw[Uc]at h;simp only[gM,nY,beq_iff_eq]at h;exact⟨h.2,trivial,XM h.1⟩
 | .jn (.jn a b) r,h=>by
  rw[T8]at h;simp only[gM]at h;exact⟨trivial,XM h.2.2,XM h.1⟩
def zi1:∀(n:Nat) (t:Tr) (a:Int) (st:ak),dp t<n->fo t->∃u:Tr,fo u/\ug u/\dp u=dp t/\M5 n [enc t,.int a] st=.ok (enc u) st:=by
 intro n
 induction n with
 | zero=>intro t a st h;omega
 | succ n ih =>
  intro t a st hd hs;cases t with
  | lf s =>
   obtain⟨y,hy,py⟩:=aaS [83,75] (if s=[83] then 1 else 0) (by split<;>decide) (by split<;>decide) (by decide);have Qp:y=83\/y=75:=by simpa using hy
   refine⟨.lf [y],trivial,by rcases Qp with rfl | rfl<;>simp[ug],rfl,?_⟩;rw[M5];unfold bB bw zfz;rw[show enc (.lf s)=.str s from rfl,show enc (.lf [y])=.str [y] from rfl];by_cases e:s=[83]
   ·rw[aeQ e]at py;subst e;simp[startM,f9,iZ,py,dz]
   ·rw[aeS e]at py;simp[startM,f9,iZ,e,py,dz]
  | jn l r =>
   have JQ:=ze2 (.jn l r);have x0:aZ (enc (.jn l r)) (.int 0) st=.ok (enc l) st:=by rw[enc];exact yH st 0 _ _ rfl
   have x1:aZ (enc (.jn l r)) (.int 1) st=.ok (enc r) st:=by rw[enc];exact yH st 1 _ _ rfl
   have m1:=Ye l st;rw[dp]at hd;by_cases ha:a<(lv l:Nat)
   ·obtain⟨u,u1,u0,u2,u3⟩:=ih l a st (by omega) hs.2.1;have j1:=zK u r st u0;have hu:=iQ st.length (.jn u r);refine⟨.jn u r,⟨u0,u1,hs.2.2⟩,trivial,by rw[dp,dp,u2],?_⟩;rw[M5];unfold bB bw zfz;generalize enc (.jn u r)=W at *;generalize enc (.jn l r)=J at *;generalize enc u=U at *;generalize enc l=L at *;generalize enc r=R' at *;simp[startM,JQ,iZ,x0,x1,m1,ha,u3,j1];exact dz hu
   ·obtain⟨u,u1,u0,u2,u3⟩:=ih r (a - (lv l:Nat)) st (by omega) hs.2.2;have j1:=zK l u st hs.1;have hu:=iQ st.length (.jn l u);refine⟨.jn l u,⟨hs.1,hs.2.1,u1⟩,trivial,by rw[dp,dp,u2],?_⟩;rw[M5];unfold bB bw zfz;generalize enc (.jn l u)=W at *;generalize enc (.jn l r)=J at *;generalize enc u=U at *;generalize enc l=L at *;generalize enc r=R' at *;simp[startM,JQ,iZ,x0,x1,m1,ha,u3,j1];exact dz hu
def zhz{mA:MA}{env:aJ}{st st1:ak}(n:Nat)(h:mA env st=.ok [.int n] st1)(hn:n<=1000000):fc mA env st=.ok (jE 0 n,[]) st1:=by
 rw[zov,h,R.aB];dsimp only;rw[aeQ ⟨by omega,by omega⟩,mY]
def zpx(n:Nat)(xs:List Nat):bU n (aP xs):=by
 unfold aP
 induction xs with
 | nil=>simp
 | cons c cs ih=>simpa using ih
def Ww(xs:List Nat)(neg:Bool)(x n:Nat)(st:ak)(h:aA st n=some (aP xs)):pQ 800 neg (.int x) (.loc n) st=.ok (.bl (if neg=true then !decide (x∈xs) else decide (x∈xs))) st:=by
 have f1:cD (aP xs)=true:=by
  clear h;unfold aP
  induction xs with
  | nil=>rfl
  | cons c cs ih=>simpa using ih
 have f2:((aP xs).all λe=>decide (dm e (.int x)<800))=true:=by
  unfold aP;rw[List.all_map,nJ];intro c _;simp[dm]
 have f3:((aP xs).any λe=>fY e (.int x))=decide (x∈xs):=by
  unfold aP;rw[List.any_map,mz];simp[fY];exact⟨λ⟨y,hy,e⟩=>(by omega:y=x) ▸ hy,
   λhx=>⟨x,hx,rfl⟩⟩
 unfold pQ;simp only[h,f1,f2,f3];rw[aeQ ⟨by simp,trivial,trivial⟩]
def zg(ls:List Nat)(k:Nat)(s:ak)(hk:k<ls.length)(hl:ls.length<=1000):∃c∈ls,aZ (.str ls) (.int k) s=.ok (.str [c]) s:=by
 refine⟨ls[k],kJ hk,?_⟩;unfold aZ;dsimp only;rw[aeQ (by omega),Gp,gF hk]
def Qg(ss:List Nat)(n k:Nat)(s:ak)(h:s[n]? = some (.lst (aP ss)))(hk:k<ss.length):∃x∈ss,aZ (.loc n) (.int k) s=.ok (.int x) s:=by
 refine⟨ss[k],kJ hk,uh _ _ _ (aP ss) _ (by unfold aA;rw[h]) ?_⟩;rw[Gp];unfold aP;rw[gB,gF hk];rfl
def zms(rs:List Ru):cD (rs.map jc)=true/\deps (rs.map jc)<=100:=by
 have h1:=zpo (rs.map eZ);have h2:=zrb (rs.map eZ);rw[zon]at h1 h2;exact⟨h1,by omega⟩
def Fy{mi:MI}{g:MG}{b:MS}{env:aJ}{st st1:ak}{items:List D}{gs:List (Nat×MO)}{r:R Out}(h:mi env st=.ok (items,gs) st1)(k:cu g b gs items env st1=r):dU mi g b env st=r:=by rw[wA,h];exact k
def zoh{mA:MA}{env:aJ}{st st1:ak}{j:Int}(n:Nat)(h:mA env st=.ok [.int j] st1)(hn:j.toNat=n)(h1:-1000<=j)(h2:j<=100000):fc mA env st=.ok (jE 0 n,[]) st1:=by
 rw[zov,h,R.aB];dsimp only;rw[aeQ ⟨by omega,by omega⟩,hn]
def jI(st:ak):jz [enc (.jn tS Tr.tK),enc Tr.tK] st=.ok (enc tI) st:=zK _ _ st trivial
def jSK(st:ak):jz [.str [83],.str [75]] st=.ok (enc (.jn tS Tr.tK)) st:=zK tS Tr.tK st (.inl rfl)
def jS(t:Tr)(st:ak):jz [.str [83],enc t] st=.ok (enc (.jn tS t)) st:=zK tS t st (.inl rfl)
def jK(t:Tr)(st:ak):jz [.str [75],enc t] st=.ok (enc (.jn Tr.tK t)) st:=zK Tr.tK t st (.inr rfl)
def zgc(ts:List Tr)(n:Nat)(st:ak)(h:st[n]? = some (.lst (ts.map enc))):Gn [.loc n] st=.ok (enc (hold ts)) st:=by
 unfold Gn bB bw zlg;generalize hW:(aG 1 (az jz [] (aj (az jz [] (aj _ (aj (vr 1) au))) _)):MS)=W;obtain⟨bW,st',l1,rfl,a2,rfl⟩:=uc (g:=aM 2) (b:=W) (gs:=[(n,.lst (ts.map enc))]) (items:=ts.map enc)
  (λi env s=>s=st/\∃a2:Option D,env=[some (.loc n),some (enc (hold (ts.take i))),a2]) (env:=[some (.loc n),some (enc tI),none]) (st:=st) ⟨rfl,none,rfl⟩
  (λi d env s hi hI=>by
   obtain⟨rfl,a2,rfl⟩:=hI;rw[gB]at hi;cases e:ts[i]? with
   | none=>rw[e]at hi;cases hi
   | some t =>
    rw[e]at hi;cases hi;refine⟨t_ h,_,_,rfl,_,_,.inl ?_,rfl,some (enc t),rfl⟩;rw[<-hW];have et:ts.take (i+1)=ts.take i++[t]:=by rw[List.take_succ,e];rfl
    rw[et,zh7];exact yF (aY (zK (.jn tS (hold (ts.take i))) (.jn Tr.tK t) _ trivial) (aK (aY (jS _ _) rfl) (aK (aY (jK _ _) rfl) rfl))))
  (λenv s hI=>by obtain⟨rfl,_⟩:=hI;exact t_ h)
 rw[gm,k_]at l1;exact aW (bO (aY (jI _) (aK (aY (jSK _) rfl) rfl)) ((jP (Fy (X_ rfl h) l1)).trans (dM rfl))) rfl (dz (iQ _ _))
def zrv(k many:Nat)(st:ak)(h:k<many)(hm:many<=1000):RC [.int k,.int many] st=.ok (enc (bM k many)) st:=by
 unfold RC bB bw zrr;generalize hW1:(aG 2 (az jz [] (aj (az jz [] (aj _ (aj (az jz [] _) au))) (aj (vr 2) au))):MS)=W1;generalize hW2:(aG 2 (az jz [] (aj (ct (.str [75])) (aj (vr 2) au))):MS)=W2
 let m:Nat:=many - 1 - k
 let E:Tr->Option D->aJ:=λt a=>[some (.int k),some (.int many),some (enc t),a]
 let f:Nat->Tr:=λi=>if m=0 then tI else sr (i+1)
 have eq:M.fL 800 (.int ((many:Int) - 1)) (.int (k:Int)) st=.ok (.bl (decide (m=0))) st:=by
  have:((many:Int) - 1=(k:Int))↔m=0:=by show _↔many - 1 - k=0;omega
  simp[this]
 have s0:fu (eY (aD (M.fL 800) (aD ux (vr 1) (ct (.int 1))) (vr 0))) (aG 2 (az jz [] (aj (az jz [] (aj (ct (.str [83])) (aj (ct (.str [75])) au))) (aj (ct (.str [75])) au)))) bh (E Tr.tK none) st=.ok (.nx (E (f 0) none)) st:=by
  by_cases c:m=0
  ·rw[show f 0=tI from aeQ c];rw[aeV c]at eq;exact oU (cZ (aL (aL rfl rfl rfl) rfl eq)) (yF (aY (jI _) (aK (aY (jSK _) rfl) rfl)))
  ·rw[show f 0=Tr.tK from aeS c];rw[aeT c]at eq;exact Lr (cZ (aL (aL rfl rfl rfl) rfl eq))
 obtain⟨e1,s1,l1,q1,a1,q2⟩:=uc (g:=aM 3) (b:=W1) (gs:=[]) (items:=jE 0 (m - 1)) (λi env s=>s=st/\∃a,env=E (f i) a) (env:=E (f 0) none) (st:=st) ⟨rfl,none,rfl⟩
  (λi d env s hi hI=>by
   obtain⟨rfl,a,rfl⟩:=hI;obtain⟨hi,rfl⟩:=Yd hi;refine⟨xu _,_,_,rfl,_,_,.inl ?_,rfl,some (.int (0+(i:Nat))),rfl⟩;have c:m≠0:=by omega
   have fe:∀i,f i=sr (i+1):=λi=>aeS c;rw[<-hW1,fe,fe];exact yF (aY (zK (.jn tS (.jn Tr.tK Tr.tK)) (sr (i+1)) _ trivial) (aK (aY (jS (.jn Tr.tK Tr.tK) _) (aK rfl (aK (aY (jK Tr.tK _) rfl) rfl))) rfl)))
  (λ_ _ _=>xu _)
 rw[T5]at q2;rw[q1,q2]at l1;have fm:f (m - 1)=sr m:=by
  by_cases c:m=0
  ·rw[show f (m - 1)=tI from aeQ c,c];rfl
  ·rw[show f (m - 1)=sr (m - 1+1) from aeS c,show m - 1+1=m by omega]
 rw[fm]at l1;obtain⟨e2,s2,l2,q3,a2,q4⟩:=uc (g:=aM 3) (b:=W2) (gs:=[]) (items:=jE 0 k) (λi env s=>s=st/\∃a,env=E (dN i (sr m)) a) (env:=E (sr m) a1) (st:=st) ⟨rfl,a1,rfl⟩
  (λi d env s hi hI=>by
   obtain⟨rfl,a,rfl⟩:=hI;refine⟨xu _,_,_,rfl,_,_,.inl ?_,rfl,some d,rfl⟩;rw[<-hW2];exact yF (aY (jK _ _) rfl))
  (λ_ _ _=>xu _)
 rw[T5]at q4;rw[q3,q4]at l2;exact aW (bO rfl ((jP s0).trans ((jP (Fy (zoh (m - 1) (aK (aL (aL rfl rfl rfl) rfl rfl) rfl) (by show ((many:Int) - 2 - (k:Int)).toNat=many - 1 - k - 1;omega) (by omega) (by omega)) l1)).trans ((jP (Fy (zoh k rfl (by omega) (by omega) (by omega)) l2)).trans (dM rfl))))) rfl (dz (iQ _ _))
def QB(signs:List Nat)(c:Nat)(hn:95∉signs)(h:c∈95::signs)(st:ak):∃i:Int,rP (.str signs) [.str [c]] st=.ok (.int i) st/\i+1=((bR (95::signs) c:Nat):Int):=by
 refine⟨_,rfl,?_⟩;unfold bR;rw[List.findIdx_cons];by_cases e:c=95
 ·subst e;have:signs.findIdx? (λz=>decide (z=95))=none:=List.findIdx?_eq_none_iff.mpr λx hx=>by
   have:x≠95:=λq=>hn (q ▸ hx);simp[this]
  rw[this];simp
 ·have hc:c∈signs:=by
   rcases gf.mp h with h | h
   ·exact absurd h e
   ·exact h
  have h2:signs.findIdx? (λz=>decide (z=c))=some (signs.findIdx λz=>decide (z=c)):=List.findIdx?_eq_some_of_exists ⟨c,hc,by simp⟩;have e2:decide (95=c)=false:=aeT λq=>e q.symm;rw[h2,e2];simp
section
variable  {B:Bk}{signs:List Nat}
def Jb(hB:lU B)(hs:B.ls=95::signs){c:Nat}(hc:c∈B.ls){x y:ME}{env:aJ}(st:ak)(hx:x env st=.ok (.str signs) st)(hy:y env st=.ok (.str [c]) st) :
  az RC [] (aj (aD bj (cJ "str" rP x (aj y au)) (ct (.int 1))) (aj (aD bj (bD dR (aj x au)) (ct (.int 1))) au)) env st=.ok (enc (cN B c)) st:=by
 have uO:=hB.few;have hl:B.ls.length=signs.length+1:=by rw[hs];rfl
 have hn:95∉signs:=by
  have:=hB.ok.nl;rw[hs]at this;exact (my.mp this).1
 obtain⟨i,f1,f2⟩:=QB signs c hn (hs ▸ hc) st;rw[<-hs]at f2;have pk:=zrv (bR B.ls c) B.ls.length st (FP hc) (by omega);exact aY pk (aK (aL (uZ hx rfl (aK hy rfl) f1) rfl (by rw[<-f2];rfl)) (aK (aL (q_ (len_str signs st (by omega)) (aK hx rfl)) rfl (by rw[hl];exact Rr rfl)) rfl))
def zs9(hB:lU B)(hs:B.ls=95::signs)(cs:List Nat)(hc:∀c∈cs,c∈B.ls)(hl:cs.length<=1000)(st:ak):Z3 [.str signs,.str cs] st=.ok (enc (dO B cs)) st:=by
 unfold Z3 bB bw zs6;generalize hW:(aC (aG 4 _) _:MS)=W
 let T:Nat->Tr:=λi=>dO B (cs.drop (cs.length - i))
 obtain⟨e1,s1,l1,g,rfl,a3,a4,rfl⟩:=uc (g:=aM 3) (b:=W) (gs:=[]) (items:=cs.reverse.map λc=>D.str [c]) (λi env s=>∃g,s=st++g/\∃a3 a4,env=[some (.str signs),some (.str cs),some (enc (T i)),a3,a4]) (env:=[some (.str signs),some (.str cs),some (enc Tr.tK),none,none]) (st:=st) ⟨[],by simp,none,none,by show _=[_,_,some (enc (dO B (cs.drop (cs.length - 0)))),_,_];rw[Nat.sub_zero,List.drop_length];rfl⟩
  (λi d env s hi hI=>by
   obtain⟨g,rfl,a3,a4,rfl⟩:=hI;rw[gB]at hi;cases e:cs.reverse[i]? with
   | none=>rw[e]at hi;cases hi
   | some c =>
    rw[e]at hi;cases hi;obtain⟨hi,ed⟩:=zre e;have hcc:c∈B.ls:=hc c (List.mem_reverse.mp (gU e));refine⟨xu _,_,_,rfl,_,_,.inl ?_,g++[.lst [enc (cN B c),enc (T i)]],rfl,some (.str [c]),some (enc (cN B c)),rfl⟩;have eT:T (i+1)=.jn Tr.tK (hold [cN B c,T i]):=by
     show dO B (cs.drop (cs.length - (i+1)))=_;rw[ed];rfl
    rw[eT,<-hW,<-gP];exact bO (Jb hB hs hcc _ rfl rfl) (yF (aY (jK _ _) (aK rfl (aK (aY (zgc [cN B c,T i] _ _ (eV (k:=0) rfl)) (aK (Mw (aK rfl (aK rfl rfl))) rfl)) rfl)))))
  (λ_ _ _=>xu _)
 rw[gm,mC,show T cs.length=dO B cs from (by show dO B (cs.drop (cs.length - cs.length))=_;rw[Nat.sub_self];rfl)]at l1;have rv:vX (aj (vr 1) au) [some (.str signs),some (.str cs),some (enc Tr.tK),none,none] st=.ok (cs.reverse.map λc=>D.str [c],[]) st:=by
  have:cs.length<=1000000:=by omega
  simp[this]
 exact aW (bO rfl ((jP (Fy rv l1)).trans (dM rfl))) rfl (lW (iQ _ _))
def Dr(hB:lU B)(hs:B.ls=95::signs)(z:Sd)(hz:vU B z)(ha:z.a.length<=1000)(hb:z.b.length<=1000)(st:ak):zj7 [.str signs,i_ z] st=.ok (.loc st.length) (st++[.lst [enc (dO B z.a),enc (cN B z.c),enc (dO B z.b)]]):=by
 have tn:zR (aD aZ (vr 1) (ct (.int 1))) (uG yR (ct (.int 1))) [some (.str signs),some (i_ z),some (enc (cN B z.c))] st=.ok (.str z.a) st:=by
  unfold zR;rw[show aD aZ (vr 1) (ct (.int 1)) [some (.str signs),some (i_ z),some (enc (cN B z.c))] st=.ok (.str z.a.reverse) st from aL rfl rfl q9,R.aB,show uG yR (ct (.int 1)) [some (.str signs),some (i_ z),some (enc (cN B z.c))] st=.ok (.int (-1)) st from rfl,R.aB];dsimp only;rw[aeQ ⟨rfl,by simp;omega⟩,pD]
 exact aW (bO (Jb hB hs hz.c _ rfl (aL rfl rfl q9)) (dM (Mw (aK (aY (zs9 hB hs z.a hz.a ha _) (aK rfl (aK tn rfl))) (aK rfl (aK (aY (zs9 hB hs z.b hz.b hb _) (aK rfl (aK (aL rfl rfl q9) rfl))) rfl)))))) rfl (Mv (zf2 _ [dO B z.a,cN B z.c,dO B z.b]))
end
end Law
set_option maxHeartbeats 0
namespace Law
open L2 M Tr
def tR(i:Int){n:Nat}(hn:0<n):∃k:Nat,k<n/\∀s,eN (.int i) (.int (n:Int)) s=.ok (.int k) s:=by
 have h1:=Int.emod_lt_of_pos i (b:=(n:Int)) (by omega);have h2:=Int.emod_nonneg i (b:=(n:Int)) (by omega);exact⟨(i % n).toNat,by omega,λs=>by rw[zhv s i n (by omega),Int.toNat_of_nonneg h2]⟩
def El(i:Int)(j:Int)(s:ak)(h:0<j/\j<1000):dG (.int i) (.int j) s=.ok (.int (i / j)) s:=zma s i j (by omega)
def zra(ns:List Int)(st:ak)(h:aA st 0=some (ns.map D.int)):∃ss:List Nat,0<ss.length/\ss.length<=4/\ss.Nodup/\zf4 [.loc 0] st=.ok (.loc st.length) (st++[.lst (aP ss)]):=by
 obtain⟨m,hm,mo⟩:=tR (fQ ns 0) (n:=4) (by omega);have ce:=λk (hk:k<=10000) (g:ak)=>zpe ns 0 k (st++g) (by unfold aA at h ⊢;cases e:st[0]? with
  | none=>rw[e]at h;cases h
  | some o=>rw[bV e];rw[e]at h;exact h) hk
 unfold zf4 bB bw zme;generalize hC:(eY (aD (pQ 800 false) (vr 3) (vr 1)):MT)=C;generalize hb:(aG 3 (aD eN (aD bj (vr 3) (ct (.int 1))) (ct (.int 5001))):MS)=bd;generalize hW:(aC (aG 3 _) _:MS)=W
 let E:Option D->Option D->aJ:=λa2 a3=>[some (.loc 0),some (.loc st.length),a2,a3]
 let Z:List Nat->ak:=λxs=>st++[.lst (aP xs)]
 have cv:∀(xs:List Nat) (a2:Option D) (x:Nat),C (E a2 (some (.int (x:Nat)))) (Z xs)=.ok (decide (x∈xs)) (Z xs):=λxs a2 x=>by
  have il:=Ww xs false x st.length (Z xs) (Wt (k:=0) rfl);rw[aeS (by decide)]at il;rw[<-hC];exact cZ (aL rfl rfl il)
 have bv:∀(S:ak) (a2:Option D) (x:Nat),bd (E a2 (some (.int (x:Nat)))) S=.ok (.nx (E a2 (some (.int (((x+1) % 5001:Nat):Int))))) S:=λS a2 x=>by
  have m1:eN (.int ((x:Nat)+1:Int)) (.int 5001) S=.ok (.int (((x+1) % 5001:Nat):Int)) S:=by
   rw[zhv S _ _ (by decide)];congr 2
  rw[<-hb];exact yF (aL (aL rfl rfl (add_int rfl)) rfl m1)
 have wh:∀(xs:List Nat) (a2:Option D) (j x:Nat),x<5001->(x+j) % 5001∉xs->∃y,y<5001/\y∉xs/\bC C bd (E a2 (some (.int x))) (Z xs)=.ok (.nx (E a2 (some (.int y)))) (Z xs):=by
  intro xs a2 j
  induction j with
  | zero =>
   intro x hx hf;rw[Nat.add_zero,Nat.mod_eq_of_lt hx]at hf;refine⟨x,hx,hf,?_⟩;rw[yq,cv,R.aB,aeT hf]
   rfl
  | succ j ih =>
   intro x hx hf;by_cases hxm:x∈xs
   ·obtain⟨y,y1,y2,y3⟩:=ih ((x+1) % 5001) (Nat.mod_lt _ (by decide)) (by
     rw[show ((x+1) % 5001+j) % 5001=(x+(j+1)) % 5001 by rw[Nat.mod_add_mod];congr 1;omega];exact hf)
    refine⟨y,y1,y2,?_⟩;rw[yq,cv,R.aB,aeV hxm,aeQ rfl,bv,R.aB];exact y3
   ·refine⟨x,hx,hxm,?_⟩;rw[yq,cv,R.aB,aeT hxm]
    rfl
 obtain⟨bW,st',hh,xs,Y4,Sh,rfl,a2,a3,rfl⟩:=uc (g:=aM 2) (b:=W) (gs:=[]) (items:=jE 0 (m+1)) (λi env s=>∃xs:List Nat,xs.length=i/\xs.Nodup/\s=Z xs/\∃a2 a3,env=E a2 a3) (env:=E none none) (st:=Z []) ⟨[],rfl,by simp,rfl,none,none,rfl⟩ (by
   rintro i d env s hi ⟨xs,Y4,Sh,rfl,a2,a3,rfl⟩;obtain⟨hi',rfl⟩:=Yd hi;obtain⟨k,hk,mk⟩:=tR (yS (fQ ns 1) (60+(0+(i:Nat)))) (n:=5001) (by omega);obtain⟨r,hr,hrx⟩:=Kc (xs:=xs) (n:=5001) (by omega);obtain⟨y,y1,y2,y3⟩:=wh xs (some (.int (0+(i:Nat)))) ((r+5001 - k) % 5001) k hk (by
    rw[Nat.add_mod_mod,show k+(r+5001 - k)=r+5001 by omega,Nat.add_mod_right,Nat.mod_eq_of_lt hr];exact hrx)
   have ap:a_ (.loc st.length) [.int y] (Z xs)=.ok .non (Z (xs++[y])):=by
    have:=XH (st:=st) (g:=[.lst (aP xs)]) (k:=0) (d:=.int y) rfl (by rw[RB];omega);rw[<-zpa]at this;exact this
   refine⟨xu _,E (some (.int (0+(i:Nat)))) a3,_,rfl,E (some (.int (0+(i:Nat)))) (some (.int y)),_,.inl ?_,xs++[y],by simp[Y4],?_,rfl,_,_,rfl⟩
   ·rw[<-hW];exact bO (aL (aY (Tz _ _ _) (aK (aY (ce 1 (by omega) _) rfl) (aK (aL rfl rfl (add_int rfl)) rfl))) rfl (mk _)) ((jP y3).trans (xn (uZ rfl (VM (k:=0) rfl) rfl ap)))
   ·rw[nU];refine⟨Sh,by simp,λa ha b hb=>?_⟩;obtain rfl:=gW.mp hb;exact λe=>y2 (e ▸ ha)) (λ_ _ _=>xu _)
 rw[T5]at Y4;have c0:=ce 0 (by omega) [.lst []];refine⟨xs,by omega,by omega,Sh,aW (bO TY ((jP (Fy (zhz (m+1) (aK (aL rfl (aL (aY c0 rfl) rfl (mo _)) (add_int (by omega))) rfl) (by omega)) hh)).trans (dM rfl))) rfl (Mv (zpx _ _))⟩
def zr1(k:Nat)(h:k<26)(s:ak):aZ (.str [97,98,99,100,101,102,103,104,105,106,107,108,109,110,111,112,113,114,115,116,117,118,119,120,121,122]) (.int k) s=.ok (.str [97+k]) s:=by
 have e:([97,98,99,100,101,102,103,104,105,106,107,108,109,110,111,112,113,114,115,116,117,118,119,120,121,122]:List Nat)=(List.range 26).map (97 + ·):=by decide
 rw[e];unfold aZ;dsimp only;rw[aeQ (by simp),Gp,gB,List.getElem?_range h];rfl
def Ds(ns:List Int)(st:ak)(h:aA st 0=some (ns.map D.int)):∃signs:List Nat,signs.length<=4/\signs.Nodup/\(∀c∈signs,97<=c/\c<=122)/\zhu [.loc 0] st=.ok (.str signs) st:=by
 obtain⟨m,hm,mo⟩:=tR (fQ ns 0 / 4) (n:=5) (by omega);have ce:=λk (hk:k<=10000)=>zpe ns 0 k st h hk;unfold zhu bB bw zn7;generalize hW:(aC (aG 3 _) _:MS)=W;obtain⟨bW,st',hh,xs,Y4,Sh,jd,q1,a2,a3,q2⟩:=uc (g:=aM 2) (b:=W) (gs:=[]) (items:=jE 0 m) (λi env s=>∃xs:List Nat,xs.length<=i/\xs.Nodup/\(∀c∈xs,97<=c/\c<=122)/\s=st/\∃a2 a3:Option D,env=[some (.loc 0),some (.str xs),a2,a3]) (env:=[some (.loc 0),some (.str []),none,none]) (st:=st) ⟨[],by simp,by simp,by simp,rfl,none,none,rfl⟩ (by
   rintro i d env s hi ⟨xs,Y4,Sh,jd,e,a2,a3,rfl⟩;obtain⟨hi',rfl⟩:=Yd hi;subst e;obtain⟨k,hk,mk⟩:=tR (yS (fQ ns 2) (70+(0+(i:Nat)))) (n:=26) (by omega);have ni:qD (.str [97+k]) (.str xs) s=.ok (.bl (!decide (97+k∈xs))) s:=by
    unfold qD;dsimp only;rw[aeQ (by omega)]
   by_cases hx:97+k∈xs
   ·rw[aeV hx]at ni;refine⟨xu _,_,_,rfl,[some (.loc 0),some (.str xs),some (.int (0+(i:Nat))),some (.str [97+k])],s,.inl ?_,xs,by omega,Sh,jd,rfl,_,_,rfl⟩;rw[<-hW];exact bO (aL rfl (aL (aY (Tz _ _ _) (aK (aY (ce 2 (by omega)) rfl) (aK (aL rfl rfl (add_int rfl)) rfl))) rfl (mk s)) (zr1 k hk s)) (Lr (cZ (aL rfl rfl ni)))
   ·rw[aeT hx]at ni;refine⟨xu _,_,_,rfl,[some (.loc 0),some (.str (xs++[97+k])),some (.int (0+(i:Nat))),some (.str [97+k])],s,.inl ?_,xs++[97+k],by simp;omega,?_,?_,rfl,_,_,rfl⟩
    ·rw[<-hW];exact bO (aL rfl (aL (aY (Tz _ _ _) (aK (aY (ce 2 (by omega)) rfl) (aK (aL rfl rfl (add_int rfl)) rfl))) rfl (mk s)) (zr1 k hk s)) (oU (cZ (aL rfl rfl ni)) (yF (aL rfl rfl (add_str (by simp;omega)))))
    ·rw[nU];refine⟨Sh,by simp,λa ha b hb=>?_⟩;obtain rfl:=gW.mp hb;exact λe=>hx (e ▸ ha)
    ·intro c hc;rcases m7.mp hc with hc | hc
     ·exact jd c hc
     ·obtain rfl:=gW.mp hc;omega) (λ_ _ _=>xu _)
 rw[T5]at Y4;rw[q1,q2]at hh;exact⟨xs,by omega,Sh,jd,aW (bO rfl ((jP (Fy (zhz m (aK (aL (aL (aY (ce 0 (by omega)) rfl) rfl (El _ _ _ (by omega))) rfl (mo _)) rfl) (by omega)) hh)).trans (dM rfl))) rfl (dz (by simp))⟩
def Jc(signs:List Nat)(hl:signs.length<=900)(v:Int){x y:ME}{env:aJ}{s:ak}(hx:x env s=.ok (.str signs) s)(hy:y env s=.ok (.int v) s):∃c∈95::signs,aD aZ (aD bj (ct (.str [95])) x) (aD eN y (aD bj (bD dR (aj x au)) (ct (.int 1)))) env s=.ok (.str [c]) s:=by
 obtain⟨k,hk,mk⟩:=tR v (n:=signs.length+1) (by omega);obtain⟨c,hc,ix⟩:=zg (95::signs) k s (by simpa using hk) (by simp;omega);exact⟨c,hc,aL (aL rfl hx (add_str (by simp;omega))) (aL hy (aL (q_ (len_str signs s (by omega)) (aK hx rfl)) rfl (Rr rfl)) (mk s)) ix⟩
def GK(ss:List Nat)(h0:0<ss.length)(v:Int){n:Nat}{x y:ME}{env:aJ}{s:ak}(hn:s[n]? = some (.lst (aP ss)))(hx:x env s=.ok (.loc n) s)(hy:y env s=.ok (.int v) s):∃c∈ss,aD aZ x (aD eN y (bD dR (aj x au))) env s=.ok (.int c) s:=by
 obtain⟨k,hk,mk⟩:=tR v h0;obtain⟨c,hc,ix⟩:=Qg ss n k s hn hk;have le:=Ls (st:=s) (n:=n) (ds:=aP ss) (by unfold aA;rw[hn]);rw[RB]at le;exact⟨c,hc,aL hx (aL hy (q_ le (aK hx rfl)) (mk s)) ix⟩
def zr7(v:Int)(signs:List Nat)(hl:signs.length<=900)(m:Nat)(hm:m<=100)(st:ak):∃cs:List Nat,cs.length=m/\(∀c∈cs,c∈95::signs)/\Z6 [.int v,.str signs,.int m] st=.ok (.str cs) st:=by
 unfold Z6 bB bw zqz;generalize hW:(aG 3 (aD bj (vr 3) _):MS)=W;obtain⟨bW,st',hh,cs,q1,q2,q3,a4,q4⟩:=uc (g:=aM 4) (b:=W) (gs:=[]) (items:=jE 0 m) (λi env s=>∃cs:List Nat,cs.length=i/\(∀c∈cs,c∈95::signs)/\s=st/\∃a4,env=[some (.int v),some (.str signs),some (.int m),some (.str cs),a4]) (env:=[some (.int v),some (.str signs),some (.int m),some (.str []),none]) (st:=st) ⟨[],rfl,by simp,rfl,none,rfl⟩ (by
   rintro i d env s hi ⟨cs,q1,q2,e,a4,rfl⟩;obtain⟨hi',rfl⟩:=Yd hi;subst e;obtain⟨c,hc,e1⟩:=Jc signs hl (yS v (40+(0+(i:Nat))) / 3) (x:=vr 1) (y:=aD dG (az MJ [] (aj (vr 0) (aj (aD bj (ct (.int 40)) (vr 4)) au))) (ct (.int 3))) (env:=[some (.int v),some (.str signs),some (.int m),some (.str cs),some (.int (0+(i:Nat)))]) (s:=s) rfl (aL (aY (Tz _ _ _) (aK rfl (aK (aL rfl rfl (add_int rfl)) rfl))) rfl (El _ _ _ (by omega)));refine⟨xu _,_,_,rfl,[some (.int v),some (.str signs),some (.int m),some (.str (cs++[c])),some (.int (0+(i:Nat)))],s,.inl ?_,cs++[c],by simp[q1],?_,rfl,_,rfl⟩
   ·rw[<-hW];exact yF (aL rfl e1 (add_str (by simp;omega)))
   ·intro x hx;rcases m7.mp hx with hx | hx
    ·exact q2 x hx
    ·obtain rfl:=gW.mp hx;exact hc) (λ_ _ _=>xu _)
 rw[T5]at q1;rw[q3,q4]at hh;exact⟨cs,q1,q2,aW (bO rfl ((jP (Fy (zhz m rfl (by omega)) hh)).trans (dM rfl))) rfl (dz (by simp))⟩
end Law
set_option maxHeartbeats 0
namespace Law
open L2 M Tr
def CZ(n:Nat)(rs:List Ru):bU n (rs.map jc):=by
 induction rs with
 | nil=>simp
 | cons r rs ih=>rw[gw,Zy];simpa using ih
def Dt(ns:List Int)(signs ss:List Nat)(n:Nat)(st:ak)(h:aA st 0=some (ns.map D.int))(hn:st[n]? = some (.lst (aP ss)))(h0:0<ss.length)(h4:ss.length<=4)(hs:signs.length<=4)(hc:∀c∈95::signs,c<128) :
  ∃rs:List Ru,rs.length<=100/\(∀r∈rs,r.s∈ss/\r.x∈95::signs/\r.w∈95::signs/\r.g∈ss)/\zhx [.loc 0,.str signs,.loc n] st=.ok (.loc st.length) (st++[.lst (rs.map jc)]):=by
 have ce:=λk (hk:k<=10000) (g:ak)=>zpe ns 0 k (st++g) (by unfold aA at h ⊢;cases e:st[0]? with
  | none=>rw[e]at h;cases h
  | some o=>rw[bV e];rw[e]at h;exact h) hk
 unfold zhx bB bw zpc;generalize hW:(aC (aG 7 _) _:MS)=W
 let E:Nat->Option D->Option D->Option D->Option D->Option D->aJ:=λk a5 a6 a7 a8 a9=>[some (.loc 0),some (.str signs),some (.loc n),some (.loc st.length),some (.int (k:Nat)),a5,a6,a7,a8,a9]
 let Z:List Ru->ak:=λrs=>st++[.lst (rs.map jc)]
 let P:List Ru->Prop:=λrs=>∀r∈rs,r.s∈ss/\r.x∈95::signs/\r.w∈95::signs/\r.g∈ss
 have one:∀(x y k:Nat) (a7 a8 a9:Option D) (rs:List Ru),x∈ss->y∈95::signs->k<=1000->rs.length<=1000->P rs->∃u9 b7 b8 b9,u9.length<=rs.length+1/\P u9/\W (E k (some (.int x)) (some (.str [y])) a7 a8 a9) (Z rs)=.ok (.nx (E (k+1) (some (.int x)) (some (.str [y])) b7 b8 b9)) (Z u9):=by
  intro x y k a7 a8 a9 rs hx hy hk hr hP
  let v:Int:=yS (fQ ns k) (k:Nat)
  let c:Bool:=decide ((0:Int)<v % 5)
  have gt:Xa (.int (v % 5)) (.int 0) (Z rs)=.ok (.bl c) (Z rs):=by simp[c]
  have m5:eN (.int v) (.int 5) (Z rs)=.ok (.int (v % 5)) (Z rs):=zhv _ _ _ (by decide);rw[<-hW];by_cases hcv:c=true
  ·rw[hcv]at gt;obtain⟨w,hw,e8⟩:=Jc signs (by omega) (v / 5) (x:=vr 1) (y:=aD dG (vr 7) (ct (.int 5))) (env:=E (k+1) (some (.int x)) (some (.str [y])) (some (.int v)) a8 a9) (s:=Z rs) rfl (aL rfl rfl (El _ _ _ (by omega)));obtain⟨q,hq,mq⟩:=tR (v / 35) (n:=2) (by omega);have ix:aZ (.str [108,114]) (.int q) (Z rs)=.ok (.str (Ga (decide (q=0)))) (Z rs):=by
    rcases (by omega:q=0\/q=1) with rfl | rfl<;>rfl
   obtain⟨g,hg,e9⟩:=GK ss h0 (v / 77) (n:=n) (x:=vr 2) (y:=aD dG (vr 7) (ct (.int 77))) (env:=E (k+1) (some (.int x)) (some (.str [y])) (some (.int v)) (some (.str [w])) (some (.str (Ga (decide (q=0)))))) (s:=Z rs) (bV hn) rfl (aL rfl rfl (El _ _ _ (by omega)))
   let r:Ru:=⟨x,y,w,decide (q=0),g⟩
   have ap:a_ (.loc st.length) [jc r] (Z rs)=.ok .non (Z (rs++[r])):=by
    have:=XH (st:=st) (g:=[.lst (rs.map jc)]) (k:=0) (d:=jc r) rfl (by simp;omega);show _=R.ok _ (st++[.lst ((rs++[r]).map jc)]);rw[mF];exact this
   rw[Zy]at ap;refine⟨rs++[r],some (.int v),some (.str [w]),some (.str (Ga (decide (q=0)))),by simp,?_,?_⟩
   ·intro r' hr';rcases m7.mp hr' with hr' | hr'
    ·exact hP r' hr'
    ·obtain rfl:=gW.mp hr';exact⟨hx,hy,hw,hg⟩
   ·exact bO (aY (Tz _ _ _) (aK (aY (ce k (by omega) _) rfl) rfl)) (bO (aL rfl rfl (Rr rfl)) (oU (cZ (aL (aL rfl rfl m5) rfl gt)) (bO e8 (bO (aL rfl (aL (aL rfl rfl (El _ _ _ (by omega))) rfl (mq _)) ix) (xn (uZ rfl (VM (k:=0) rfl) (aK (yG (aK rfl (aK rfl (aK rfl (aK rfl (aK e9 rfl)))))) rfl) ap))))))
  ·have hcv:c=false:=by simpa using hcv
   rw[hcv]at gt;exact⟨rs,some (.int v),a8,a9,by omega,hP,bO (aY (Tz _ _ _) (aK (aY (ce k (by omega) _) rfl) rfl)) (bO (aL rfl rfl (Rr rfl)) (Lr (cZ (aL (aL rfl rfl m5) rfl gt))))⟩
 have inn:∀(x k:Nat) (a6 a7 a8 a9:Option D) (rs:List Ru),x∈ss->k<=100->rs.length<=100->P rs->∃u9 b6 b7 b8 b9,u9.length<=rs.length+5/\P u9/\∃k',k'<=k+5/\dU (uA (aD bj (ct (.str [95])) (vr 1))) (aM 6) W (E k (some (.int x)) a6 a7 a8 a9) (Z rs)=.ok (.nx (E k' (some (.int x)) b6 b7 b8 b9)) (Z u9):=by
  intro x k a6 a7 a8 a9 rs hx hk hr hP;obtain⟨bW,st',hh,u9,p1,p2,q1,b6,b7,b8,b9,q2⟩:=uc (g:=aM 6) (b:=W) (gs:=[]) (items:=(95::signs).map λc=>D.str [c]) (λi env s=>∃u9:List Ru,u9.length<=rs.length+i/\P u9/\s=Z u9/\∃a6 a7 a8 a9,env=E (k+i) (some (.int x)) a6 a7 a8 a9) (env:=E k (some (.int x)) a6 a7 a8 a9) (st:=Z rs) ⟨rs,by omega,hP,rfl,a6,a7,a8,a9,rfl⟩ (by
   rintro i d env s hi ⟨rs1,p1,p2,rfl,a6,a7,a8,a9,rfl⟩;have yz:=(gh.mp hi).1;rw[gm,gr]at yz;rw[gB]at hi;cases e:(95::signs)[i]? with
   | none=>rw[e]at hi;cases hi
   | some y =>
    rw[e]at hi;cases hi;obtain⟨u9,b7,b8,b9,w1,w2,w3⟩:=one x y (k+i) a7 a8 a9 rs1 hx (gU e) (by omega) (by omega) p2;exact⟨xu _,_,_,rfl,_,_,.inl w3,u9,by omega,w2,rfl,_,_,_,_,rfl⟩) (λ_ _ _=>xu _)
  rw[gm,gr]at p1 q2;rw[q1,q2]at hh;exact⟨u9,b6,b7,b8,b9,by omega,p2,_,by omega,Fy (zok (aL rfl rfl (add_str (by simp;omega))) (nJ.mpr λc W9=>by simpa using hc c W9)) hh⟩
 obtain⟨bW,st',hh,rs,p1,p2,q1,k,p3,a5,a6,a7,a8,a9,q2⟩:=uc (g:=aM 5) (b:=dU (uA (aD bj (ct (.str [95])) (vr 1))) (aM 6) W) (gs:=[(n,.lst (aP ss))]) (items:=aP ss) (λi env s=>∃rs:List Ru,rs.length<=5*i/\P rs/\s=Z rs/\∃k,k<=4+5*i/\∃a5 a6 a7 a8 a9,env=E k a5 a6 a7 a8 a9) (env:=E 4 none none none none none) (st:=Z []) ⟨[],by simp,(λr hr=>by cases hr),rfl,4,by omega,_,_,_,_,_,rfl⟩ (by
   rintro i d env s hi ⟨rs1,p1,p2,rfl,k,p3,a5,a6,a7,a8,a9,rfl⟩;have yz:=(gh.mp hi).1;rw[RB]at yz;unfold aP at hi;rw[gB]at hi;cases e:ss[i]? with
   | none=>rw[e]at hi;cases hi
   | some x =>
    rw[e]at hi;cases hi;obtain⟨u9,b6,b7,b8,b9,w1,w2,k',w3,w4⟩:=inn x k a6 a7 a8 a9 rs1 (gU e) (by omega) (by omega) p2;exact⟨t_ (bV hn),_,_,rfl,_,_,.inl w4,u9,by omega,w2,rfl,k',by omega,_,_,_,_,_,rfl⟩) (λenv s hI=>by
   obtain⟨rs1,_,_,rfl,_⟩:=hI;exact t_ (bV hn))
 rw[RB]at p1;rw[q1,q2]at hh;exact⟨rs,by omega,p2,aW (bO TY (bO rfl ((jP (Fy (X_ rfl (bV hn)) hh)).trans (dM rfl)))) rfl (Mv (CZ _ _))⟩
def Bf(z:Sd)(S:ak):M.fL 800 (i_ z) (i_ z) S=.ok (.bl true) S:=by
 have f:flat (i_ z)=true:=by simp[i_]
 have e:=znd (i_ z) f;have c:dm (i_ z) (i_ z)<800:=by simp[i_]
 unfold M.fL;rw[show iD 800 (i_ z) (i_ z) S=if flat (i_ z)=true/\flat (i_ z)=true/\dm (i_ z) (i_ z)<800 then some (fY (i_ z) (i_ z)) else none by unfold i_;simp only[iD],aeQ ⟨f,f,c⟩,e]
def Pn{ss:List Nat}{n s:Nat}{S:ak}(h:S[n]? = some (.lst (aP ss)))(hs:s∈ss):fK (.loc n) [.int s] S=.ok (.int (bR ss s:Nat)) S:=by
 unfold fK;dsimp only;rw[show aA S n=some (aP ss) by unfold aA;rw[h]];dsimp only;rw[zfc];dsimp only;rw[zto ss s hs]
section
variable  {B:Bk}{b:Nat}{st:ak}
def XS(t:Tr)(h:∀x y z w,t≠hold [x,y,z,w]):yI [.loc b,enc t] st=.ok .non st :=
 aW (bO (aY ((ZZ t 4 st (by omega)).2 λws q=>by
  obtain⟨q1,q2⟩:=zhy q;obtain⟨x,y,z,w,rfl⟩:∃x y z w,ws=[x,y,z,w]:=by
   match ws,q1 with
   | [x,y,z,w],_=>exact⟨x,y,z,w,rfl⟩
  exact absurd (q2 rfl) (h _ _ _ _)) rfl) (rA (oU (cZ (aL rfl rfl rfl)) (dM rfl)))) rfl (dz (by simp))
def RP(s:Nat)(t:Tr):(.jn tS t:Tr)≠cz B s:=λe=>by
 unfold cz hold at e;simp only[List.foldl]at e;injection e with e _;cases e
def zew(hB:lU B)(hb:Bs st)(hk:eU st b B)(z:Sd)(hz:vU B z)(ha:z.a.length<=500)(iM:z.b.length<=500):xq [.loc b,enc (vL B z)] st=.ok (i_ z) st:=by
 have hh:=zka [dO B z.a,cN B z.c,dO B z.b] st (λt ht=>by
  simp only[gf,g_,ae3]at ht;rcases ht with rfl | rfl | rfl
  ·exact FN _
  ·exact FQ _
  ·exact FN _) (by simp)
 let H:MO:=.lst ([dO B z.a,cN B z.c,dO B z.b].map enc)
 exact zkc hB hk hz.s _ hh (zde hB (hb.app (g:=[H]) (by simp[H])) (hk.mono (Keeps.app st [H])) z hz (by omega) (by omega) st.length (eV (k:=0) rfl)) (lW (by simp[i_]))
variable  {signs:List Nat}{n:Nat}
def Du(hB:lU B)(hs:B.ls=95::signs)(hb:Bs st)(hk:eU st b B)(hn:st[n]? = some (.lst (aP B.ss)))(z:Sd)(hz:vU B z)(ha:z.a.length<=12)(iM:z.b.length<=12):zkb [.loc b,i_ z,.str signs,.loc n] st=.ok (.bl true) st:=by
 have Ml:=hB.ss
 let T3:MO:=.lst [enc (dO B z.a),enc (cN B z.c),enc (dO B z.b)]
 let N1:MO:=.lst [enc (ue B z.s)]
 let N4:MO:=.lst [enc (ue B z.s),enc (dO B z.a),enc (cN B z.c),enc (dO B z.b)]
 let S1:ak:=st++[T3]
 let E:Option D->Option D->Option D->aJ:=λa5 a6 a7=>[some (.loc b),some (i_ z),some (.str signs),some (.loc n),some (.loc st.length),a5,a6,a7]
 have nc:∀k:Nat,bJ (T3::(List.replicate k [N1,N4]).flatten):=λk o ho=>by
  rcases gf.mp ho with rfl | ho
  ·rfl
  ·obtain⟨l,hl,ho⟩:=List.mem_flatten.mp ho;obtain⟨_,rfl⟩:=List.mem_replicate.mp hl;simp only[gf,g_,ae3]at ho;rcases ho with rfl | rfl<;>rfl
 let Z:Nat->ak:=λk=>st++T3::(List.replicate k [N1,N4]).flatten
 have bZ:∀k,Bs (Z k):=λk=>hb.app (nc k);have kZ:∀k,eU (Z k) b B:=λk=>hk.mono (Keeps.app st _);have Zs:∀k,Z (k+1)=Z k++[N1]++[N4]:=λk=>by
  show st++T3::_=st++T3::_++_++_;rw[List.replicate_succ',List.flatten_append];simp
 have th:=Dr hB hs z hz (by omega) (by omega) st;have g3:∀k,(Z k)[st.length]? = some T3:=λk=>eV (k:=0) rfl;have nu:∀a5 a6,az RC [] (aj (cJ "list" fK (vr 3) (aj (aD aZ (vr 1) (ct (.int 0))) au)) (aj (bD dR (aj (vr 3) au)) au)) (E a5 a6 none) (Z 0)=.ok (enc (ue B z.s)) (Z 0):=λa5 a6=>by
  have gn:(Z 0)[n]? = some (.lst (aP B.ss)):=bV hn;have le:=Ls (st:=Z 0) (n:=n) (ds:=aP B.ss) (by unfold aA;rw[gn]);rw[RB]at le;exact aY (zrv (bR B.ss z.s) B.ss.length (Z 0) (FP hz.s) (by omega)) (aK (uZ rfl (by simp[dw,gn]) (aK (aL rfl rfl q9) rfl) (Pn gn hz.s)) (aK (q_ le rfl) rfl))
 have ef:∀k a5 a6,az Gn [] (aj (aD bj (cV (aj (vr 7) au)) (vr 4)) au) (E a5 a6 (some (enc (ue B z.s)))) (Z k)=.ok (enc (oE B z)) (Z (k+1)):=λk a5 a6=>by
  have ad:bj (.loc (Z k).length) (.loc st.length) (Z k++[N1])=.ok (.loc (Z k++[N1]).length) (Z k++[N1]++[N4]):=by
   have e1:(Z k++[N1])[(Z k).length]? = some N1:=eV (k:=0) rfl;have e2:(Z k++[N1])[st.length]? = some T3:=bV (g3 k);unfold bj;dsimp only;rw[e1,e2]
   rfl
  rw[Zs];exact aY (zgc [ue B z.s,dO B z.a,cN B z.c,dO B z.b] _ _ (eV (k:=0) rfl)) (aK (aL (Mw (aK rfl rfl)) rfl ad) rfl)
 have dI:=Bl hB.ok hB.few hz 12 ha iM;have dE:=Bo hB.ok hB.few hz 12 ha iM;have im:=λk=>zdb hB (bZ k) (kZ k) z hz (by omega) (by omega);have en:=λk=>zg3 hB (bZ k) (kZ k) z hz (by omega) (by omega);have it:=λk=>zew hB (bZ k) (kZ k) z hz (by omega) (by omega);have et:=λk=>zp0 hB (bZ k) (kZ k) z hz (by omega) (by omega) Ml;have e1:∀k,yI [.loc b,enc (vL B z)] (Z k)=.ok .non (Z k):=λk=>end_none (Wx z);have e2:∀k,xq [.loc b,enc (oE B z)] (Z k)=.ok .non (Z k):=λk=>zgj hB (kZ k) _ _ λs _ q=>absurd q (RP s _);have s1:=λk=>zck (kZ k) hz.s;refine aW (st1:=Z 3) (bO (aY th (aK rfl (aK rfl rfl))) (bO (aY (s1 0) (aK rfl (aK (aL rfl rfl q9) rfl))) (bO (aY (im 0) rfl)
  (jZ (cZ (aL rfl (aY (zK (cz B z.s) _ _ trivial) (aK rfl (aK (aY (zgc [dO B z.a,cN B z.c,dO B z.b] st.length _ (g3 0)) rfl) rfl))) (lB (eq_self (vL B z) _ (by omega)))))
  (bO (nu _ _)
  (jZ (cZ (aL (aY (en 0) rfl) (ef 0 _ _) (lB (eq_self (oE B z) _ (by omega)))))
  (jZ (BX (cZ (aL (aY (it 1) rfl) rfl (lB (Bf z _)))) (cZ (aL (aY (et 2) (aK rfl (aK (ef 1 _ _) rfl))) rfl (lB (Bf z _)))))
  (dM (ZF (aL (aY (e1 2) rfl) rfl rfl) (aL (aY (e2 3) (aK rfl (aK (ef 2 _ _) rfl))) rfl rfl)))))))))) rfl (lW (by simp))
end
theorem zrs:∀(n k:Nat) (es:List Tr) (b:Nat),0<es.length->es.length<=2 ^ k->(∀e∈es,dp e<=b)->dp (d7 n es)<=6*k+b
 | 0,k,_,b,_,_,_=>by
  have:dp Tr.tK=0:=rfl;rw[d7,this];omega
 | n+1,k,es,b,h0,hk,h=>by
  rw[d7]
  split
  ·rename_i h1;obtain⟨e,rfl⟩:=mO.mp h1;have:=h e (by simp);simp;omega
  ·rename_i h1;obtain⟨k,rfl⟩:∃k',k=k'+1:=by
    cases k with
    | zero=>rw[Nat.pow_zero]at hk;omega
    | succ k=>exact⟨k,rfl⟩
   rw[n_]at hk;have:=TJ [d7 n (es.take (es.length / 2)),d7 n (es.drop (es.length / 2))] (6*k+b) (λt ht=>by
    simp only[gf,g_,ae3]at ht;rcases ht with rfl | rfl
    ·exact zrs n k _ b (by rw[kj];omega) (by rw[kj];omega) λe he=>h e (nZ he)
    ·exact zrs n k _ b (by rw[kW];omega) (by rw[kW];omega) λe he=>h e (n8 he))
   simp only[gr,mV]at this;omega
section
variable  {B B2:Bk}{b b2 n:Nat}{st:ak}
def Xg(hB:lU B)(h4:B.ss.length<=4){s:Nat}(hs:s∈B.ss):dp (cz B s)<155:=by
 have h0:=hB.s0;have t:=zrs 13 2 ((B.ss.map (fW B)).map pR) (B.ss.length+129) (by simpa using h0) (by simpa using h4) (λe he=>by
  obtain⟨r,hr,rfl⟩:=gj.mp he;obtain⟨s,hs,rfl⟩:=gj.mp hr;have q:=Lp (f:=look [([101],fW B s)]) (b:=B.ss.length+121) (Rx (by simp[zo7 hB.ok hB.few hs])) (cT iG xj);have e:dp (cT iG xj)=8:=by kernel_rfl
  unfold pR;omega)
 have:=TJ [fW B s,rO B] (B.ss.length+141) (λt' ht=>by
  simp only[gf,g_,ae3]at ht;rcases ht with rfl | rfl
  ·have:=zo7 hB.ok hB.few hs;omega
  ·unfold rO;omega)
 simp only[gr,mV]at this;unfold cz;omega
def yV(t:Tr):0<lv t:=Nat.lt_of_le_of_lt (kO _) (Z4 t)
def val_pack(z:Sd):val (hold [dO B z.a,cN B z.c,dO B z.b])=true:=Mz λt ht=>by
 simp only[gf,g_,ae3]at ht;rcases ht with rfl | rfl | rfl
 ·exact FN _
 ·exact FQ _
 ·exact FN _
def Gs(z:Sd):val (oE B z)=true:=Mz λt ht=>by
 simp only[gf,g_,ae3]at ht;rcases ht with rfl | rfl | rfl | rfl
 ·exact T9 _ _
 ·exact FN _
 ·exact FQ _
 ·exact FN _
def Dv(hB:lU B)(Gf:lU B2)(e1:B2.ls=B.ls)(e2:B2.ss=B.ss)(h4:B.ss.length<=4)(hb:Bs st)(hk:eU st b B)(Gb:eU st b2 B2)(hn:st[n]? = some (.lst (aP B.ss)))(z:Sd)(hz:vU B z)(ha:z.a.length<=12)(iM:z.b.length<=12)(v:Int):zkq [.loc b,.loc b2,i_ z,.loc n,.int v] st=.ok (.bl true) st:=by
 let P:Tr:=hold [dO B z.a,cN B z.c,dO B z.b]
 have im:=zdb hB hb hk z hz (by omega) (by omega);obtain⟨s',oN,e6⟩:=GK B.ss hB.s0 v (n:=n) (x:=vr 3) (y:=vr 4) (env:=[some (.loc b),some (.loc b2),some (i_ z),some (.loc n),some (.int v),some (enc (vL B z)),none,none,none]) (s:=st) hn rfl rfl
 let z':Sd:=⟨s',z.a,z.c,z.b⟩
 have hz':vU B z':=⟨oN,hz.c,hz.a,hz.b⟩;have hz2:vU B2 z:=⟨e2 ▸ hz.s,e1 ▸ hz.c,λc hc=>e1 ▸ hz.a c hc,λc hc=>e1 ▸ hz.b c hc⟩;have it':=zew hB hb hk z' hz' (by show z.a.length<=_;omega) (by show z.b.length<=_;omega);have ad:bj (.tup [.int s']) (.tup [.str z.a.reverse,.str [z.c],.str z.b]) st=.ok (i_ z') st:=rfl;have sl:vz (i_ z) (some 1) none st=.ok (.tup [.str z.a.reverse,.str [z.c],.str z.b]) st:=rfl;have dS:=Xg hB h4 hz.s;have dP:dp P<=60:=Td hB.ok hB.few hz 12 ha iM;have dE:=Bo hB.ok hB.few hz 12 ha iM;have dI2:=Bl Gf.ok Gf.few hz2 12 ha iM;obtain⟨k1,_,m1⟩:=tR v (n:=lv P) (yV P);obtain⟨u1,_,_,d1,t1⟩:=zi1 160 P (k1:Nat) st (by omega) (XM (val_pack z));obtain⟨k2,_,m2⟩:=tR (v / 3) (n:=lv (cz B z.s)) (yV _);obtain⟨u2,_,f2,d2,t2⟩:=zi1 160 (cz B z.s) (k2:Nat) st (by omega) (XM (zM _));obtain⟨k3,_,m3⟩:=tR (v / 7) (n:=lv (oE B z)) (yV _);obtain⟨u3,_,_,d3,t3⟩:=zi1 160 (oE B z) (k3:Nat) st (by omega) (XM (Gs z));have s1:=zn4 hB hb hk (.jn (cz B z.s) u1) (by rw[dp];omega);have s2:=zn4 hB hb hk (.jn u2 P) (by rw[dp];omega);have s3:=zn4 hB hb hk (vL B2 z) (by rw[e2]at dI2;omega);have s4:=zpq hB hb hk u3 (by omega);have it2:=zew Gf hb Gb z hz2 (by omega) (by omega);have im2:=zdb Gf hb Gb z hz2 (by omega) (by omega);have en:=zg3 hB hb hk z hz (by omega) (by omega);have x1:=zJ (cz B z.s) P st;have x0:=Fz (cz B z.s) P st;have n1:=XS (b:=b) (st:=st) P λx y p w e=>by simp[P,hold,tI]at e
 have n2:=XS (b:=b) (st:=st) (.jn (.jn tS (oE B z)) (.jn Tr.tK P)) λx y p w e=>by simp[oE,hold,tI]at e
 exact aW (bO (aY im rfl) (bO e6
  (jZ (cZ (aL (aY it' (aK rfl (aK (aY (zK (cz B s') P st trivial) (aK (aY (zck hk oN) rfl) (aK (aL rfl rfl x1) rfl))) rfl))) (aL (yG rfl) (Rw rfl rfl rfl sl) ad) (lB (Bf z' st))))
  (jZ (yp (jT (aY s1 (aK rfl (aK (aY (zK (cz B z.s) u1 st trivial) (aK (aL rfl rfl x0) (aK (aY t1 (aK (aL rfl rfl x1) (aK (aL rfl (aY (Ye P st) (aK (aL rfl rfl x1) rfl)) (m1 st)) rfl))) rfl))) rfl))) rfl))
  (jZ (yp (jT (aY s2 (aK rfl (aK (aY (zK u2 P st f2) (aK (aY t2 (aK (aL rfl rfl x0) (aK (aL (aL rfl rfl (El _ _ _ (by omega))) (aY (Ye (cz B z.s) st) (aK (aL rfl rfl x0) rfl)) (m2 st)) rfl))) (aK (aL rfl rfl x1) rfl))) rfl))) rfl))
  (jZ (BX (cZ (aL (aY it2 (aK rfl (aK (aY im2 rfl) rfl))) rfl (lB (Bf z st)))) (yp (jT (aY s3 (aK rfl (aK (aY im2 rfl) rfl))) rfl)))
  (bO (aY en rfl)
  (jZ (yp (jT (aY s4 (aK rfl (aK (aY t3 (aK rfl (aK (aL (aL rfl rfl (El _ _ _ (by omega))) (aY (Ye (oE B z) st) rfl) (m3 st)) rfl))) rfl))) rfl))
  (bO (aY (zK (.jn tS (oE B z)) (.jn Tr.tK P) st trivial) (aK (aY (jS _ _) rfl) (aK (aY (jK _ _) (aK rfl (aK (aL rfl rfl x1) rfl))) rfl)))
  (dM (ZF (aL (aY n1 (aK rfl (aK (aL rfl rfl x1) rfl))) rfl rfl) (aL (aY n2 rfl) rfl rfl)))))))))))) rfl (dz (by simp))
end
end Law
set_option maxHeartbeats 0
namespace Law
open L2 M Tr
def zqp{c:PySem.Str}{F:FD}{mA:MA}{env:aJ}{X X' X1:ak}{as:List D}(ha:mA env X=.ok as X')(hf:F (.loc X'.length::as) (X'++[.ins c []])=.ok .non X1):iT c F mA env X=.ok (.loc X'.length) X1:=by
 unfold iT;rw[ha,R.aB,hf];rfl
def abC{x:R Out}{f:Out->ak->R D}{S X:ak}{c:Bool}(h:x=.ok (.rt (.bl c)) X)(hf:f (.rt (.bl c)) X=.ok (.bl c) X):∃st,gc S (x.bind f)=.ok (.bl c) st:=by
 rw[h,R.aB,hf];unfold gc;dsimp only
 split
 ·exact⟨_,rfl⟩
 ·exact⟨_,rfl⟩
def zqx{S:ak}{n:Nat}{ds:List D}(h:S[n]? = some (.lst ds)):rW (.loc n) [] S=.ok .non (S.set n (.lst [])):=by
 unfold rW;simp only[h]
def ztn{S:ak}{m n:Nat}{ds:List D}(h1:S[m]? = some (.lst ds))(h2:S[n]? = some (.lst ds))(hf:cD ds=true)(hd:deps ds<=100):iD 790 (.loc m) (.loc n) S=some true:=by
 have i1:aA S m=some ds:=by unfold aA;rw[h1]
 have i2:aA S n=some ds:=by unfold aA;rw[h2]
 have c:=zmw ds ds;simp only[iD,i1,i2];rw[aeQ ⟨hf,hf,by omega⟩,zh2 ds hf]
def QD{S:ak}{m n:Nat}{ds:List D}(h1:S[m]? = some (.lst ds))(h2:S[n]? = some (.lst []))(hf:cD ds=true):M.fL 800 (.loc m) (.loc n) S=.ok (.bl ds.isEmpty) S:=by
 have i1:aA S m=some ds:=by unfold aA;rw[h1]
 have i2:aA S n=some []:=by unfold aA;rw[h2]
 have e:iD 800 (.loc m) (.loc n) S=some ds.isEmpty:=by
  simp only[iD,i1,i2];rw[aeQ ⟨hf,by simp,by simp⟩];cases ds<;>simp[jL]
 unfold M.fL;rw[e]
def Bj(xs:List Nat):cD (aP xs)=true/\deps (aP xs)<=100:=by
 unfold aP
 induction xs with
 | nil=>simp
 | cons c cs ih=>exact⟨by simpa using ih.1,by simpa using ih.2⟩
def ad8(ds:List D):cut ds (some 1) none=ds.drop 1:=by
 show (ds.drop (min 1 ds.length)).take (ds.length - min 1 ds.length)=_;cases ds with
 | nil=>rfl
 | cons d ds =>
  rw[show min 1 (d::ds).length=1 by simp];simp
def Ra(xs:List D)(d:D):pW (xs++[d]) (-1)=some d:=by
 unfold pW JB;rw[aeS (by omega),aeQ (by simp;omega)];have:((-1:Int)+((xs++[d]).length:Nat)).toNat=xs.length:=by simp;omega
 rw[this];simp
def QK(f:Int->D)(xs:List Int)(lo hi:Option Int):cut (xs.map f) lo hi=(cut xs lo hi).map f:=by
 unfold cut;rw[gm,List.map_take,List.map_drop]
section
variable  {B:Bk}{b:Nat}{st:ak}
def zsd(hB:lU B)(hk:eU st b B){t:Tr}(ht:t∈[tS,Tr.tK,.jn Tr.tK Tr.tK,tI]):xq [.loc b,enc t] st=.ok .non st/\yI [.loc b,enc t] st=.ok .non st:=by
 simp only[gf,g_,ae3]at ht;rcases ht with rfl | rfl | rfl | rfl
 ·exact⟨znx _,XS _ λx y z w e=>by simp[hold]at e⟩
 ·exact⟨znx _,XS _ λx y z w e=>by simp[hold]at e⟩
 ·exact⟨zgj hB hk _ _ λs _ e=>by simp[cz,hold]at e,XS _ λx y z w e=>by simp[hold]at e⟩
 ·exact⟨zgj hB hk _ _ λs _ e=>absurd e (RP s _),XS _ λx y z w e=>by simp[hold,tI]at e⟩
def M7(s:Nat):val (.jn (cz B s) Tr.tK)=false:=by
 unfold cz hold;simp only[List.foldl];exact zP _ _ _
def Lg(hB:lU B)(k:Nat)(hk:k<B.ss.length)(n:Nat)(S:ak)(h:S[n]? = some (.lst (((B.ss.map (cz B)).map enc).take k))):pQ 800 false (enc (cz B B.ss[k])) (.loc n) S=.ok (.bl false) S:=by
 have hm:=kJ hk;have Ml:=hB.ss;have i1:aA S n=some (((B.ss.map (cz B)).map enc).take k):=by unfold aA;rw[h]
 have al:∀e∈((B.ss.map (cz B)).map enc).take k,∃j,∃hj:j<B.ss.length,j<k/\e=enc (cz B B.ss[j]):=λe he=>by
  obtain⟨j,hj,rfl⟩:=mW.mp he;rw[kj,gm,gm]at hj;exact⟨j,by omega,by omega,by simp⟩
 have f1:cD (((B.ss.map (cz B)).map enc).take k)=true:=by
  generalize ((B.ss.map (cz B)).map enc).take k=l at al
  induction l with
  | nil=>simp
  | cons e l ih =>
   obtain⟨j,_,_,rfl⟩:=al e (by simp);rw[Yn,TX,ih λx hx=>al x (by simp[hx])];rfl
 have f2:(((B.ss.map (cz B)).map enc).take k).all (λe=>decide (dm e (enc (cz B B.ss[k]))<800))=true:=nJ.mpr λe he=>by
  obtain⟨j,hj,_,rfl⟩:=al e he;have c:=zso (enc (cz B B.ss[j])) (enc (cz B B.ss[k]));rw[Bh]at c;have:=XC hB.ok hB.few (kJ hj);exact aeV (by omega)
 have f3:(((B.ss.map (cz B)).map enc).take k).any (λe=>fY e (enc (cz B B.ss[k])))=false:=List.any_eq_false.mpr λe he=>by
  obtain⟨j,hj,hjk,rfl⟩:=al e he;have ne:cz B B.ss[j]≠cz B B.ss[k]:=λq=>by
   have q:=zX (kJ hj) hm q;have a1:=Gk hB.ok.ns (gF hj);have a2:=Gk hB.ok.ns (gF hk);rw[q]at a1;omega
  rw[ZR];simp[ne]
 unfold pQ;simp only[i1,f1,f2,f3];rw[aeQ ⟨TX _,trivial,trivial⟩];rfl
end
def law_true(ns:List Int)(Ef:ns.length<=63):∃st,zk7 [.loc 0] [.frz (ns.map D.int),.tab "out_and_cost",.tab "put_in"]=.ok (.bl true) st:=by
 generalize hS0:([.frz (ns.map D.int),.tab "out_and_cost",.tab "put_in"]:ak)=S0;have g0:S0[0]? = some (.frz (ns.map D.int)):=by subst hS0;rfl
 have it0:∀{S:ak},S[0]? = some (.frz (ns.map D.int))->aA S 0=some (ns.map D.int):=λh=>by unfold aA;rw[h]
 have hb0:Bs S0:=by subst hS0;exact⟨rfl,rfl,by intro o ho;simp at ho;rcases ho with rfl | rfl | rfl<;>rfl⟩
 have hl0:S0.length=3:=by subst hS0;rfl
 clear hS0

 obtain⟨ss,n1,n2,n3,e1⟩:=zra ns S0 (it0 g0)
 let S1:ak:=S0++[.lst (aP ss)]
 obtain⟨signs,s1,s2,s3,e2⟩:=Ds ns S1 (it0 (bV g0));have abA:∀c∈95::signs,c<128:=λc hc=>by
  rcases gf.mp hc with rfl | hc
  ·omega
  ·have:=s3 c hc;omega
 have p1:S1[3]? = some (.lst (aP ss)):=eV (k:=0) rfl hl0.symm;obtain⟨rs,r1,r2,e3⟩:=Dt ns signs ss 3 S1 (it0 (bV g0)) p1 n1 n2 s1 abA
 let B:Bk:=⟨95::signs,ss,rs⟩
 have n95:95∉signs:=λq=>by have:=s3 95 q;omega
 have mk:∀u9:List Ru,u9.length<=200->(∀r∈u9,r.s∈ss/\r.x∈95::signs/\r.w∈95::signs/\r.g∈ss)->lU ⟨95::signs,ss,u9⟩:=λu9 hl hr=>{
  ok:={
   nl:=my.mpr ⟨n95,s2⟩
   ns:=n3
   bl:=mX ..
   z:=λq=>by
    rcases gf.mp q with q | q
    ·omega
    ·have:=s3 0 q;omega
   many:=h_ n2 (by omega)
   ru:=λr h=>⟨(hr r h).2.2.2,(hr r h).2.2.1⟩ }
  vH:=λc hc=>by
   rcases gf.mp hc with q | q
   ·exact .inl q
   ·exact .inr (s3 c q)
  few:=by show (95::signs).length<=9;simp;omega
  x:=λr h=>(hr r h).2.1
  ss:=h_ n2 (by omega)
  s0:=n1
  rs:=h_ hl (by omega) }
 have hB:lU B:=mk rs (by omega) r2;have hls:B.ls=95::signs:=rfl
 let S2:ak:=S1++[.lst (rs.map jc)]
 have l1:S1.length=4:=by simp[S1,hl0]
 have l2:S2.length=5:=by simp[S2,l1]
 have p2:S2[4]? = some (.lst (rs.map jc)):=eV (k:=0) rfl l1.symm;have c2:bJ S2:=(xx _ _).mpr ⟨(xx _ _).mpr ⟨hb0.c,by simp⟩,by simp⟩

 let G:ak:=[.lst (rs.map jc),.lst (aP ss),.lst [.loc 5,.loc 6]]
 let S3:ak:=S2++G
 let Zt:ak:=S3++[.ins "Book" []]
 have l3:S3.length=8:=by simp[S3,G,l2]
 have k3:Keeps S2 Zt []:=(Keeps.app _ _).trans (Keeps.app _ _);have k02:Keeps S0 S2 []:=(Keeps.app _ _).trans (Keeps.app _ _);have c3:bJ Zt:=(xx _ _).mpr ⟨(xx _ _).mpr ⟨c2,by simp[G]⟩,by intro o ho;obtain rfl:=gW.mp ho;rfl⟩;have b3:Bs Zt:=hb0.keeps (k02.trans k3) (by simp) (by simp) c3;have g5:S3[5]? = some (.lst (rs.map jc)):=eV (k:=0) rfl l2.symm;have g6:S3[6]? = some (.lst (aP ss)):=eV (k:=1) rfl (by rw[l2]);have g7:S3[7]? = some (.lst [.loc 5,.loc 6]):=eV (k:=2) rfl (by rw[l2]);obtain⟨S4,e5,k4,bk4,c4⟩:=zi2 B hB signs rfl 8 5 6 Zt b3 (eV (k:=0) rfl l3.symm) (bV g5) (bV g6);have YJ:∀j o,S3[j]? = some o->S4[j]? = some o:=λj o hj=>k4 _ _ (λhm=>by
  have:=gW.mp hm;have:=(gh.mp hj).1;omega) (bV hj)
 have l3':Zt.length=9:=by simp[Zt,l3]
 rw[l3']at bk4
 let S5:ak:=S4.set 5 (.lst [])
 let S6:ak:=S5.set 6 (.lst [])
 have bk5:Tw 9 S5 8 B:=bk4.clr (YJ _ _ g5) (by omega) hB.ok.bl;have h65:S5[6]? = some (.lst (aP ss)):=Keeps.set S4 5 _ _ _ (by simp) (YJ _ _ g6);have bk6:Tw 9 S6 8 B:=bk5.clr h65 (by omega) hB.ok.bl;have YK:∀j o,j≠5->j≠6->S3[j]? = some o->S6[j]? = some o:=λj o h1 h2 hj=>Keeps.set S5 6 _ _ _ (by simpa using h2) (Keeps.set S4 5 _ _ _ (by simpa using h1) (YJ _ _ hj));have c6:bJ S6:=MN (MN c4 rfl) rfl;have g76:S6[7]? = some (.lst [.loc 5,.loc 6]):=YK _ _ (by omega) (by omega) g7;have g36:S6[3]? = some (.lst (aP ss)):=YK _ _ (by omega) (by omega) (bV (bV p1));have g46:S6[4]? = some (.lst (rs.map jc)):=YK _ _ (by omega) (by omega) (bV p2);have g06:S6[0]? = some (.frz (ns.map D.int)):=YK _ _ (by omega) (by omega) (bV (bV (bV g0)));have t16:S6[1]? = some (.tab "out_and_cost"):=YK _ _ (by omega) (by omega) (bV (bV (bV hb0.t1)));have t26:S6[2]? = some (.tab "put_in"):=YK _ _ (by omega) (by omega) (bV (bV (bV hb0.t2)));have b6:Bs S6:=⟨t16,t26,c6⟩

 obtain⟨sF,hsF,ixF⟩:∃x∈ss,∀g:ak,aZ (.loc 3) (.int 0) (S6++g)=.ok (.int x) (S6++g):=⟨ss[0],kJ n1,λg=>uh _ _ _ (aP ss) _ (by unfold aA;rw[bV g36]) (by
  rw[show (0:Int)=((0:Nat):Int) from rfl,Gp];unfold aP;rw[gB,gF n1];rfl)⟩
 obtain⟨sL,hsL,ixL⟩:∃x∈ss,∀g:ak,aZ (.loc 3) (.int (-1)) (S6++g)=.ok (.int x) (S6++g):=by
  have e:ss=ss.take (ss.length - 1)++[ss[ss.length - 1]'(by omega)]:=by
   have:=List.take_append_getElem (l:=ss) (i:=ss.length - 1) (by omega);rw[show ss.length - 1+1=ss.length by omega,k_]at this;exact this.symm
  refine⟨ss[ss.length - 1]'(by omega),kJ _,λg=>uh _ _ _ (aP ss) _ (by unfold aA;rw[bV g36]) ?_⟩
  conv=>lhs;rw[e]
  unfold aP;rw[mF];exact Ra _ _
 let rT:Ru:=⟨sF,95,95,false,sL⟩
 let Yz:List Ru:=rs.drop 1++(if rs.isEmpty=true then [rT] else [])
 have Gf:lU ⟨95::signs,ss,Yz⟩:=mk Yz (by
  show (rs.drop 1++_).length<=200;rw[gK,kW]
  split<;>simp<;>omega) λr hr=>by
   rcases m7.mp hr with hr | hr
   ·exact r2 r (n8 hr)
   ·split at hr
    ·obtain rfl:=gW.mp hr;exact⟨hsF,mX ..,mX ..,hsL⟩
    ·cases hr
 let A1:ak:=S6++[.lst ((rs.drop 1).map jc)]
 let A2:ak:=A1++[.lst [jc rT]]
 let A3:ak:=A2++[.lst []]
 let A4:ak:=A3++[.lst (if rs.isEmpty=true then [jc rT] else [])]
 let A5:ak:=A4++[.lst (Yz.map jc)]
 let A6:ak:=A5++[.ins "Book" []]
 have sl:vz (.loc 4) (some 1) none S6=.ok (.loc S6.length) A1:=by
  unfold vz;simp only[aA,g46];have:cut (rs.map jc) (some 1) none=(rs.drop 1).map jc:=by rw[ad8,List.map_drop]
  rw[this]
 have eqn:M.fL 800 (.loc 4) (.loc A2.length) A3=.ok (.bl rs.isEmpty) A3:=by
  have:=QD (S:=A3) (m:=4) (n:=A2.length) (bV (bV (bV g46))) (eV (k:=0) rfl) (zms rs).1;rwa[show (rs.map jc).isEmpty=rs.isEmpty by cases rs<;>rfl]at this
 have mu:v5 (.loc A1.length) (.int (if rs.isEmpty=true then 1 else 0)) A3=.ok (.loc A3.length) A4:=by
  have g:A3[A1.length]? = some (.lst [jc rT]):=bV (eV (k:=0) rfl);unfold v5;simp only[g];cases h:rs.isEmpty<;>simp[A4,h]
 have ad:bj (.loc S6.length) (.loc A3.length) A4=.ok (.loc A4.length) A5:=by
  have h1:A4[S6.length]? = some (.lst ((rs.drop 1).map jc)):=bV (bV (bV (eV (k:=0) rfl)));have h2:A4[A3.length]? = some (.lst (if rs.isEmpty=true then [jc rT] else [])):=eV (k:=0) rfl;unfold bj;simp only[h1,h2];rw[aeQ (by rw[gm,kW];split<;>simp<;>omega)];have:(rs.drop 1).map jc++(if rs.isEmpty=true then [jc rT] else [])=Yz.map jc:=by
   show _=(rs.drop 1++_).map jc;rw[mF];congr 1
   split<;>rfl
  rw[this]
 have k6A:Keeps S6 A6 []:=((((((Keeps.app _ _).trans (Keeps.app _ _)).trans (Keeps.app _ _)).trans (Keeps.app _ _)).trans (Keeps.app _ _)).trans (Keeps.app _ _));have cA:bJ A6:=(xx _ _).mpr ⟨(xx _ _).mpr ⟨(xx _ _).mpr ⟨(xx _ _).mpr ⟨(xx _ _).mpr ⟨(xx _ _).mpr ⟨c6,by simp⟩,by simp⟩,by simp⟩,by simp⟩,by simp⟩,by intro o ho;obtain rfl:=gW.mp ho;rfl⟩;obtain⟨S7,e7,k7,bk7,c7⟩:=zi2 ⟨95::signs,ss,Yz⟩ Gf signs rfl A5.length A4.length 3 A6 (b6.keeps k6A (by simp) (by simp) cA) (eV (k:=0) rfl) (bV (eV (k:=0) rfl)) (k6A _ _ (by simp) g36);have k67:Keeps S6 S7 []:=λj o _ hj=>k7 _ _ (λhm=>by
  have:=gW.mp hm;have:=(gh.mp hj).1;simp[A5,A4,A3,A2,A1]at *;omega) (k6A _ _ (by simp) hj)
 have b7:Bs S7:=b6.keeps k67 (by simp) (by simp) c7;have hk7:eU S7 8 B:=bk6.bk.mono k67;have ht7:eU S7 A5.length ⟨95::signs,ss,Yz⟩:=bk7.bk;have g37:=k67 _ _ (by simp) g36;have g47:=k67 _ _ (by simp) g46;have g07:=k67 _ _ (by simp) g06

 have ne:aD Il (fM (aj (cB "Book" "rules" (vr 5)) (aj (cB "Book" "signs" (vr 5)) (aj (cB "Book" "states" (vr 5)) au)))) (fM (aj (vr 3) (aj (vr 2) (aj (vr 1) au)))) [some (.loc 0),some (.loc 3),some (.str signs),some (.loc 4),some (.loc 7),some (.loc 8),some (.loc A5.length),none,none,none,none,none,none,none,none] S7=.ok (.bl false) S7:=by
  obtain⟨fs,ms,nk,nt,nm,ml,mr,nr,qC,h1,h2,h3,h4,h5,h6⟩:=hk7.ex;have q1:=ztn h5 g47 (zms rs).1 (zms rs).2;have q2:=ztn (ds:=aP ss) h1.s g37 (Bj ss).1 (Bj ss).2;refine aL (yG (aK (lV rfl h1.o h4) (aK (lV rfl h1.o h6) (aK (lV rfl h1.o h1.f2) rfl)))) (yG rfl) ?_;unfold Il;simp only[q1,q2];simp[fY,B]

 let E:Option D->Option D->Option D->Option D->Option D->Option D->Option D->Option D->aJ:=λa7 a8 a9 a10 Rh Zr Zq Xp=>[some (.loc 0),some (.loc 3),some (.str signs),some (.loc 4),some (.loc 7),some (.loc 8),some (.loc A5.length),a7,a8,a9,a10,Rh,Zr,Zq,Xp]
 let TS:List Tr:=[tS,Tr.tK,.jn Tr.tK Tr.tK,tI]
 let C1:ak:=S7++[.lst []]++[.lst (TS.map enc)]
 have ls:cV (aj (ct (.str [83])) (aj (ct (.str [75])) (aj (az jz [] (aj (ct (.str [75])) (aj (ct (.str [75])) au))) (aj (az Gn [] (aj (cV au) au)) au)))) (E none none none none none none none none) S7=.ok (.loc (S7++[MO.lst []]).length) C1 :=
  Mw (ds:=TS.map enc) (aK rfl (aK rfl (aK (aY (jK Tr.tK _) rfl) (aK (aY (zgc [] _ _ (eV (k:=0) rfl)) (aK TY rfl)) rfl)))) (by simp[TS])
 have kC1:Keeps S7 C1 []:=(Keeps.app _ _).trans (Keeps.app _ _);have bC1:Bs C1:=(b7.app (by simp)).app (by simp);have hkC:=hk7.mono kC1;unfold zk7 bB bw zod;generalize hW1:(fu (xJ (eY (aD lA _ _)) _) _ bh:MS)=W1;obtain⟨f1,z1,lp1,q1,a7,q2⟩:=uc (g:=aM 7) (b:=W1) (gs:=[((S7++[MO.lst []]).length,.lst (TS.map enc))]) (items:=TS.map enc) (λi env s=>s=C1/\∃a7,env=E a7 none none none none none none none) (env:=E none none none none none none none none) (st:=C1) ⟨rfl,none,rfl⟩
  (λi d env s hi hI=>by
   obtain⟨e,a7,rfl⟩:=hI;subst e;obtain⟨t,ht,rfl⟩:=gj.mp (gU hi);obtain⟨y1,y2⟩:=zsd hB hkC ht;refine⟨t_ (eV (k:=0) rfl),_,_,rfl,E (some (enc t)) none none none none none none none,_,.inl ?_,rfl,some (enc t),rfl⟩;rw[<-hW1];exact Lr (BX (cZ (aL (aY y1 rfl) rfl rfl)) (cZ (aL (aY y2 rfl) rfl rfl))))
  (λenv s hI=>by obtain⟨e,_⟩:=hI;subst e;exact t_ (eV (k:=0) rfl))
 rw[q1,q2]at lp1

 let L:List D:=(ss.map (cz B)).map enc
 let C2:ak:=C1++[.lst L]
 have cm:eF [some 5,none] (ig (vr 1)) (aM 1) j5 (az RM [] (aj (vr 0) (aj (vr 1) au))) (E a7 none none none none none none none) C1=.ok (.loc C1.length) C2:=by
  let f:D->D:=λd=>match d with
   | .int i=>enc (cz B i.toNat)
   | d=>d
  have e2:(aP ss).map f=L:=by
   show (ss.map _).map f=(ss.map (cz B)).map enc;rw[gG,gG];exact kE λx _=>by show enc (cz B (x:Int).toNat)=_;rw[mY];rfl
  show _=R.ok _ (C1++[.lst L]);rw[<-e2];exact MF f (λenv=>∃x,env=[some (.loc 8),x]) (X_ rfl (kC1 _ _ (by simp) g37)) ⟨_,rfl⟩ (by rw[RB];omega) (λys=>t_ (bV (kC1 _ _ (by simp) g37))) (λd hd bW ys hP=>by
   obtain⟨x,hx,rfl⟩:=gj.mp hd;obtain⟨w,rfl⟩:=hP;refine⟨[some (.loc 8),some (.int x)],⟨_,rfl⟩,rfl,?_⟩;show _=R.ok (enc (cz B (x:Int).toNat)) _;rw[mY];exact aY (zck (hkC.mono (Keeps.app _ _)) hx) rfl)
 have gL:∀g:ak,(C2++g)[C1.length]? = some (.lst L):=λg=>bV (eV (k:=0) rfl);have ixT:∀(g:ak) (k:Nat) (hk:k<ss.length),aZ (.loc C1.length) (.int (k:Nat)) (C2++g)=.ok (enc (cz B ss[k])) (C2++g):=λg k hk=>uh _ _ _ L _ (by unfold aA;rw[gL]) (by
  rw[Gp];show ((ss.map (cz B)).map enc)[k]? = _;rw[gB,gB,gF hk];rfl)
 have kC2:∀g,Keeps S7 (C2++g) []:=λg=>(kC1.trans (Keeps.app _ _)).trans (Keeps.app _ _);generalize hW2:(fu (xJ (lz (jU (az T4 [] _))) _) _ bh:MS)=W2;obtain⟨f2,z2,lp2,g2,cg2,q3,a9,q4⟩:=uc (g:=aM 9) (b:=W2) (gs:=[]) (items:=jE 0 ss.length) (λi env s=>∃g,bJ g/\s=C2++g/\∃a9,env=E a7 (some (.loc C1.length)) a9 none none none none none) (env:=E a7 (some (.loc C1.length)) none none none none none none) (st:=C2) ⟨[],by simp,by simp,none,rfl⟩
  (λi d env s hi hI=>by
   obtain⟨g,cg,e,a9,rfl⟩:=hI;subst e;obtain⟨hj,rfl⟩:=Yd hi;rw[Int.zero_add]
   let MM:MO:=.lst (L.take i)
   have slc:vz (.loc C1.length) none (some (i:Int)) (C2++g)=.ok (.loc (C2++g).length) (C2++g++[MM]):=by
    have:cut L none (some (i:Int))=L.take i:=by
     have hL:L.length=ss.length:=by simp[L]
     show (L.drop 0).take ((if (i:Int)<0 then ((i:Int)+(L.length:Nat)).toNat else min (i:Int).toNat L.length) - 0)=_;rw[aeS (by omega),mY,Nat.min_eq_left (by omega),pB,Nat.sub_zero]
    unfold vz;simp only[aA,gL,this];rfl
   have ah:=Lg hB i hj (C2++g).length (C2++g++[MM]) (eV (k:=0) rfl);have jo:=zK (cz B ss[i]) Tr.tK (C2++g) trivial;have x3:=zj (cz B ss[i]) Tr.tK (C2++g);rw[M7]at x3;have dn:=znb (cz B ss[i]) (C2++g);rw[zM]at dn;refine⟨xu _,_,_,rfl,E a7 (some (.loc C1.length)) (some (.int i)) none none none none none,C2++g++[MM],.inl ?_,g++[MM],(xx _ _).mpr ⟨cg,by simp[MM]⟩,by rw[gP],_,rfl⟩;rw[<-hW2];exact Lr (BX (yp (jT (aY dn (aK (aL rfl rfl (ixT g i hj)) rfl)) rfl)) (BX (jT (aL (aY jo (aK (aL rfl rfl (ixT g i hj)) rfl)) rfl x3) rfl) (cZ (aL (aL rfl rfl (ixT g i hj)) (Rw rfl rfl rfl slc) ah)))))
  (λ_ _ _=>xu _)
 rw[q3,q4]at lp2;have leL:dR [.loc C1.length] C2=.ok (.int ss.length) C2:=by
  have:=Ls (st:=C2) (n:=C1.length) (ds:=L) (by unfold aA;rw[show C2[C1.length]? = some (.lst L) from eV (k:=0) rfl]);rwa[show L.length=ss.length by simp[L]]at this

 let xs:List Int:=cut ns (some 3) (some 6)
 let C3:ak:=C2++g2
 let C4:ak:=C3++[.lst (xs.map D.int)]
 let C5:ak:=C4++[.lst [.int (fQ ns 3)]]
 let C6:ak:=C5++[.lst ((xs++[fQ ns 3]).map D.int)]
 have g03:C3[0]? = some (.frz (ns.map D.int)):=kC2 _ _ _ (by simp) g07;have xl:xs.length<=63:=by
  show (cut ns (some 3) (some 6)).length<=63;unfold cut;rw[kj,kW];omega
 have sl0:vz (.loc 0) (some 3) (some 6) C3=.ok (.loc C3.length) C4:=by
  unfold vz;simp only[aA,g03,QK];rfl
 have ad0:bj (.loc C3.length) (.loc C4.length) C5=.ok (.loc C5.length) C6:=by
  have h1:C5[C3.length]? = some (.lst (xs.map D.int)):=bV (eV (k:=0) rfl);have h2:C5[C4.length]? = some (.lst [.int (fQ ns 3)]):=eV (k:=0) rfl;unfold bj;simp only[h1,h2];rw[aeQ (by simp;omega)];show _=R.ok _ (C5++[.lst ((xs++[fQ ns 3]).map D.int)]);rw[mF];rfl
 have k76:Keeps S7 C6 []:=(((kC2 g2).trans (Keeps.app _ _)).trans (Keeps.app _ _)).trans (Keeps.app _ _);have cC6:bJ C6:=(xx _ _).mpr ⟨(xx _ _).mpr ⟨(xx _ _).mpr ⟨(xx _ _).mpr ⟨(xx _ _).mpr ⟨bC1.c,by simp⟩,cg2⟩,by simp⟩,by simp⟩,by simp⟩;have bC6:Bs C6:=b7.keeps k76 (by simp) (by simp) cC6;have hk6:=hk7.mono k76;have ht6:=ht7.mono k76;have Qz:=k76 _ _ (by simp) g37;generalize hW3:(aC (aG 11 _) _:MS)=W3;obtain⟨f3,z3,lp3,q5,a10,Rh,Zr,Zq,Xp,q6⟩:=uc (g:=aM 10) (b:=W3) (gs:=[(C5.length,.lst ((xs++[fQ ns 3]).map D.int))]) (items:=(xs++[fQ ns 3]).map D.int) (λi env s=>s=C6/\∃a10 Rh Zr Zq Xp,env=E a7 (some (.loc C1.length)) a9 a10 Rh Zr Zq Xp) (env:=E a7 (some (.loc C1.length)) a9 none none none none none) (st:=C6) ⟨rfl,_,_,_,_,_,rfl⟩
  (λi d env s hi hI=>by
   obtain⟨e,a10,Rh,Zr,Zq,Xp,rfl⟩:=hI;subst e;obtain⟨c,hc,rfl⟩:=gj.mp (gU hi)
   let v:Int:=yS c 80
   obtain⟨x,hx,ex⟩:=Jc signs (by omega) (v / 13) (x:=vr 2) (y:=aD dG (vr 11) (ct (.int 13))) (env:=E a7 (some (.loc C1.length)) a9 (some (.int c)) (some (.int v)) Zr Zq Xp) (s:=C6) rfl (aL rfl rfl (El _ _ _ (by omega)));obtain⟨m1,hm1,mo1⟩:=tR (v / 7) (n:=13) (by omega);obtain⟨m2,hm2,mo2⟩:=tR (v / 11) (n:=13) (by omega);obtain⟨as,al,am,ea⟩:=zr7 v signs (by omega) m1 (by omega) C6;obtain⟨bs,bl,bm,eb⟩:=zr7 (v / 5) signs (by omega) m2 (by omega) C6;obtain⟨y,hy,ey⟩:=GK ss n1 (v / 91) (n:=3) (x:=vr 1) (y:=aD dG (vr 11) (ct (.int 91))) (env:=E a7 (some (.loc C1.length)) a9 (some (.int c)) (some (.int v)) (some (.str [x])) (some (.str as)) Xp) (s:=C6) Qz rfl (aL rfl rfl (El _ _ _ (by omega)))
   let z:Sd:=⟨y,as.reverse,x,bs⟩
   have hz:vU B z:=⟨hy,hx,λc hc=>am c (List.mem_reverse.mp hc),bm⟩;have ez:i_ z=.tup [.int y,.str as,.str [x],.str bs]:=by
    show D.tup [_,.str as.reverse.reverse,_,_]=_;rw[pD]
   have ri:=Du hB hls bC6 hk6 Qz z hz (by show as.reverse.length<=12;rw[mC];omega) (by show bs.length<=12;omega);have ot:=Dv hB Gf rfl rfl n2 bC6 hk6 ht6 Qz z hz (by show as.reverse.length<=12;rw[mC];omega) (by show bs.length<=12;omega) (v / 3);refine⟨t_ (eV (k:=0) rfl),_,_,rfl,E a7 (some (.loc C1.length)) a9 (some (.int c)) (some (.int v)) (some (.str [x])) (some (.str as)) (some (i_ z)),C6,.inl ?_,rfl,_,_,_,_,_,rfl⟩;rw[<-hW3];refine bO (aY (Tz c 80 C6) rfl) (bO ex (bO (aY ea (aK rfl (aK rfl (aK (aL (aL rfl rfl (El _ _ _ (by omega))) rfl (mo1 _)) rfl)))) (bO (d:=i_ z) ?_ (Lr (BX (yp (jT (aY ri rfl) rfl)) (yp (jT (aY ot (aK rfl (aK rfl (aK rfl (aK rfl (aK (aL rfl rfl (El _ _ _ (by omega))) rfl)))))) rfl)))))));rw[ez];exact yG (aK ey (aK rfl (aK rfl (aK (aY eb (aK (aL rfl rfl (El _ _ _ (by omega))) (aK rfl (aK (aL (aL rfl rfl (El _ _ _ (by omega))) rfl (mo2 _)) rfl)))) rfl)))))
  (λenv s hI=>by obtain⟨e,_⟩:=hI;subst e;exact t_ (eV (k:=0) rfl))
 rw[q5,q6]at lp3;have e3':S1.length=4:=l1;rw[e3']at e3;rw[hl0]at e1;have ce3:=zpe ns 0 3 C4 (it0 (bV g03)) (by omega);have ix5:∀S:ak,S[7]? = some (.lst [.loc 5,.loc 6])->aZ (.loc 7) (.int 0) S=.ok (.loc 5) S/\aZ (.loc 7) (.int 1) S=.ok (.loc 6) S:=λS h=>⟨uh _ _ _ _ _ (by unfold aA;rw[h]) rfl,uh _ _ _ _ _ (by unfold aA;rw[h]) rfl⟩;have h74:S4[7]? = some (.lst [.loc 5,.loc 6]):=YJ _ _ g7;have h75:S5[7]? = some (.lst [.loc 5,.loc 6]):=Keeps.set S4 5 _ _ _ (by simp) h74;have st4:cV (aj (bD jR (aj (vr 3) au)) (aj (bD jR (aj (vr 1) au)) au)) [some (.loc 0),some (.loc 3),some (.str signs),some (.loc 4),none,none,none,none,none,none,none,none,none,none,none] S2=.ok (.loc 7) S3:=by
  have h1:=zj0 p2;have h2:=zj0 (st:=S2++[.lst (rs.map jc)]) (n:=3) (ds:=aP ss) (bV (bV p1));rw[l2]at h1;rw[show (S2++[MO.lst (rs.map jc)]).length=6 by simp[l2]]at h2;have:=Mw (aK (q_ h1 (aK (e:=vr 3) (mA:=au) (env:=[some (.loc 0),some (.loc 3),some (.str signs),some (.loc 4),none,none,none,none,none,none,none,none,none,none,none]) rfl rfl)) (aK (q_ h2 (aK (e:=vr 1) (mA:=au) rfl rfl)) (mA:=au) rfl));rw[show (S2++[MO.lst (rs.map jc)]++[MO.lst (aP ss)]).length=7 by simp[l2]]at this;rw[this];simp[S3,G]
 have mk5:zcj (.loc S3.length::[.loc 5,.str signs,.loc 6]) (S3++[.ins "Book" []])=.ok .non S4:=by rw[l3];exact e5
 have tw:aD bj (GP (vr 3) (Mi (ct (.int 1))) R3) (aD v5 (cV (aj (fM (aj (aD aZ (vr 1) (ct (.int 0))) (aj (ct (.str [95])) (aj (ct (.str [95])) (aj (ct (.str [114])) (aj (aD aZ (vr 1) (uG yR (ct (.int 1)))) au)))))) au)) (bD Eb (aj (aD (M.fL 800) (vr 3) (cV au)) au))) [some (.loc 0),some (.loc 3),some (.str signs),some (.loc 4),some (.loc 7),some (.loc 8),none,none,none,none,none,none,none,none,none] S6=.ok (.loc A4.length) A5:=by
  have er:jc rT=.tup [.int sF,.str [95],.str [95],.str [114],.int sL]:=Zy rT;have l5:cV (aj (fM (aj (aD aZ (vr 1) (ct (.int 0))) (aj (ct (.str [95])) (aj (ct (.str [95])) (aj (ct (.str [114])) (aj (aD aZ (vr 1) (uG yR (ct (.int 1)))) au)))))) au) [some (.loc 0),some (.loc 3),some (.str signs),some (.loc 4),some (.loc 7),some (.loc 8),none,none,none,none,none,none,none,none,none] A1=.ok (.loc A1.length) A2:=by
   refine Mw (ds:=[jc rT]) (aK ?_ rfl) (by simp);rw[er];exact yG (aK (aL rfl rfl (ixF _)) (aK rfl (aK rfl (aK rfl (aK (aL rfl rfl (ixL _)) rfl)))))
  exact aL (Rw rfl rfl rfl sl) (aL l5 (q_ (d:=.int (if rs.isEmpty=true then 1 else 0)) rfl (aK (aL rfl TY eqn) rfl)) mu) ad
 refine abC (X:=C6) (bO (aY e1 rfl) (bO (aY e2 rfl) (bO (aY e3 rfl) (bO st4
  (bO (zqp (aK (aL rfl rfl (ix5 S3 g7).1) (aK rfl (aK (aL rfl rfl (ix5 S3 g7).2) rfl))) mk5)
  ((jP (xn (RJ (aL rfl rfl (ix5 S4 h74).1) (by simp[dw,YJ _ _ g5]) (zqx (YJ _ _ g5))))).trans
  ((jP (xn (RJ (aL rfl rfl (ix5 S5 h75).2) (by simp[dw,h65]) (zqx h65)))).trans
  (bO (zqp (aK tw (aK rfl (aK rfl rfl))) e7) ?_)))))))) rfl
 rw[l3];refine jZ (cZ ne) ((jP (Fy (znl ls (eV (k:=0) rfl)) lp1)).trans (bO cm ((jP (Fy (zhz ss.length (aK (q_ leL rfl) rfl) (by omega)) lp2)).trans ((jP (Fy (znl (aL (Rw rfl rfl rfl sl0) (Mw (aK (aY ce3 rfl) rfl)) ad0) (eV (k:=0) rfl)) lp3)).trans ?_))));have adC:aZ (.loc 3) (.int 0) C6=.ok (.int (ss[0]:Nat)) C6:=uh _ _ _ (aP ss) _ (by unfold aA;rw[Qz]) (by
  rw[show (0:Int)=((0:Nat):Int) from rfl,Gp];unfold aP;rw[gB,gF n1];rfl)
 have dS:=XC hB.ok hB.few (kJ n1);have Ml:=hB.ss;have adB:aZ (.loc C1.length) (.int 0) C6=.ok (enc (cz B ss[0])) C6:=by
  have:=ixT (g2++[.lst (xs.map D.int)]++[.lst [.int (fQ ns 3)]]++[.lst ((xs++[fQ ns 3]).map D.int)]) 0 n1;rw[show C2++(g2++[MO.lst (xs.map D.int)]++[MO.lst [.int (fQ ns 3)]]++[MO.lst ((xs++[fQ ns 3]).map D.int)])=C6 by simp[C6,C5,C4,C3]]at this;exact this
 exact dM (aL (aY (zck hk6 (kJ n1)) (aK rfl (aK (aL rfl rfl adC) rfl))) (aL rfl rfl adB) (eq_self (cz B ss[0]) _ (by omega)))
end Law
open PySem PySem.W PyProof.Rows
namespace PySem.W.Fast
def tw3051247270267407618:=()
def tw16116442129473779485:=()
def tw15399810259281779104:=()
def tw4608782598468285384:=()
def tw6122240128770502201:=()
def tw13590020325878158479:=()
def tw4468477993025785370:=()
def tw11889401466203344485:=()
def tw5336651128637781003:=()
def tw12925574417755694187:=()
def tw11169329529018340941:=()
def tw156886478885688453:=()
def tw8882914523538868500:=()
def tw5120949846628975256:=()
def tw7944719111200246620:=()
def tw4445713128528416991:=()
def tw10333880726496697901:=()
def tw12351838942406327619:=()
def tw17891446478245932349:=()
def tw2173435435982902384:=()
def tw7885607677860795128:=()
def tw3295681100777716384:=()
def tw3945553524797220200:=()
def tw16708670726472713862:=()
def tw16439633097549683387:=()
def tw7100528888111901786:=()
def tw4116892494014911602:=()
def tw3419452004939979536:=()
def tw6321071936011876853:=()
def tw12149228642154583699:=()
def tw2807645184593343998:=()
def tw10199988681808554999:=()
def tw14069056827594116745:=()
def tw5237640029182524671:=()
def tw17655623386687219847:=()
def tw15885427417913416182:=()
def tw18054461656768910668:=()
def tw4963019251249760236:=()
def tw5679651469160125316:=()
def tw5759227461991592274:=()
def tw11519099011000416659:=()
def tw3731648281003626627:=()
def tw10745576468885881399:=()
def tw5570124179307423390:=()
def tw3835926127928793127:=()
def tw11568156539767879923:=()
def tw18279061899457435766:=()
def tw14452762810184583479:=()
def tw8154007744116096222:=()
def tw11037313179635678211:=()
def tw9305591260371785714:=()
def tw436491500556119526:=()
def tw10865865975384294343:=()
def tw10774017073532178976:=()
def tw5178647136978495936:=()
def tw2514388588092316335:=()
def tw828164291278597135:=()
def tw14695375030962672289:=()
def tw2214418766551185663:=()
def tw14631317527122457990:=()
def tw5367722557848394916:=()
def tw15766101656072956776:=()
def tw12880485768647349697:=()
def tw16827326691498650682:=()
def tw5116666312792393209:=()
def tw5150134521233905159:=()
def tw17558351660442687252:=()
def tw933696400628978445:=()
def tw2812989201446562118:=()
def tw988418947697984816:=()
def tw3683361235629466570:=()
def tw2925298292049811547:=()
def tw11188820998954031182:=()
def tw7339949794234328335:=()
def tw18044985302138965188:=()
def tw5929178619002147088:=()
def tw9717994482980099740:=()
def tw12459242087856175836:=()
def tw13812164423203619781:=()
def tw16730296818285340771:=()
def tw517854062088394526:=()
def tw4018372647394430:=()
def tw1606755405224765794:=()
def tw17320375813493864033:=()
def tw750529976080313943:=()
def tw14712543144806132148:=()
def tw18329081565591964988:=()
def tw1505052174158958780:=()
def tw1799885253178178051:=()
def tw8851416372365467647:=()
def tw17591347113228004887:=()
def tw18413466575536583845:=()
def tw4417484363886273640:=()
def tw4328411443221505097:=()
def tw2987582918704214392:=()
def tw11992329666537986815:=()
def tw3228913617840242742:=()
def tw3215761028900078218:=()
def tw8041066467511138800:=()
def tw17184617712649425188:=()
def tw10693798430777195512:=()
def tw13679014481867459992:=()
def tw6094007918213090463:=()
def tw3685657840639661710:=()
def tw12619460453671834234:=()
def tw3512156468229915982:=()
def tw6951709890384179309:=()
def tw13021274721526999151:=()
def tw6458502102782980598:=()
def tw5497678107927820451:=()
def tw6444503891204466529:=()
def tw1338162384261966161:=()
def tw3564805948494884769:=()
def tw11803063361875842564:=()
def tw13295902510223864329:=()
def tw5288680400765077617:=()
def tw13018798360719685748:=()
def tw1757415854862538443:=()
def tw3140340160895351919:=()
def tw13804080111497918930:=()
def tw18021933524366352537:=()
def tw7766204129594125175:=()
def tw4182644748229309171:=()
def tw10397937204423664936:=()
def tw6909659183699925696:=()
def tw4670352865770693740:=()
def tw14075750154520373236:=()
def tw9013139405691397222:=()
def tw10416794322273236799:=()
def tw11603512467148156424:=()
def tw12704199953159331737:=()
def tw13555276651169046916:=()
def tw14478778874011383555:=()
def tw3720339000162272583:=()
def tw11267870234752298215:=()
def tw5297313082160954674:=()
def tw4924557690110530263:=()
def tw12750093278522665553:=()
def tw10422302072215524332:=()
def tw13350755523474310478:=()
def tw15920461375102194074:=()
def tw18390037436009628835:=()
def tw13934168284107687878:=()
def tw4977865831321496807:=()
def tw13373830977489134635:=()
def tw10121969960963927886:=()
def tw12264880769616975821:=()
def tw4461168496731368963:=()
def tw8838365784161884210:=()
def tw12090423682638162530:=()
def tw1181364190887973050:=()
def tw13798314816208284706:=()
def tw4541994436837038842:=()
def tw15241344051459389590:=()
def tw17893563316966495879:=()
def tw15058901154216150169:=()
def tw1436501666985530319:=()
def tw4209662895036823712:=()
def tw12340507638517526625:=()
def tw2537692206724288861:=()
def tw6428863537658539754:=()
def tw5644440087593955633:=()
def tw9785010402137212395:=()
def tw2450191921235791597:=()
def tw222434389358178507:=()
def tw3486682449145831660:=()
def tw18196964587915195750:=()
def tw7813121704440889391:=()
def tw14433622448356393878:=()
def tw11493313773090453455:=()
def tw8592082403454672618:=()
def tw7356942955562307583:=()
def tw6715040895198039448:=()
def tw12367423947823644582:=()
def tw113944276932029455:=()
def tw915715776810845723:=()
def tw11433159286824640026:=()
def tw12212339131579386564:=()
def tw6888142758758810947:=()
def tw15933227542525529219:=()
def tw14762781699338839932:=()
def tw319773670728418428:=()
def tw12810580962204084180:=()
def tw2222804612852998191:=()
def tw2181650746229734998:=()
def tw12278103036284232636:=()
def tw9431475099078200303:=()
def tw16465584098961674305:=()
def tw3682044007892538389:=()
def tw1127281159282564803:=()
def tw15432203381448853546:=()
def tw6152819504508069514:=()
def tw17186281305374632110:=()
def tw7501838237776769242:=()
def tw7715848647697317615:=()
def tw12636391895943653186:=()
def tw7310609447274919655:=()
def tw2265716459707464918:=()
def tw721974444175362552:=()
def tw12813065914591221582:=()
def tw15997686538582066119:=()
def tw4266373492984538824:=()
def tw6060595681335001064:=()
def tw8484060199316478760:=()
def tw5495631712181783698:=()
def tw16531859745376636934:=()
def tw13526797313630351200:=()
def tw11819191420403094543:=()
def tw12473154581503865565:=()
def tw17959199756515223007:=()
def tw875468924843288558:=()
def tw15821968659068891031:=()
def tw12705150086304140459:=()
def tw10040618139074967508:=()
def tw380335261895680683:=()
def tw2534779623421448435:=()
def tw8165657071217757274:=()
def tw6679006784722190330:=()
def tw2921565017383658126:=()
def tw18376049962337392376:=()
def tw18403961039709335008:=()
def tw920845132117631444:=()
def tw7478635889907974289:=()
def tw5953967522227984870:=()
def tw16297274263533085650:=()
def tw8751889986207441929:=()
def tw4235643285863396932:=()
def tw2878971140079572199:=()
def tw16136122036807629055:=()
def tw9252723145436775972:=()
def tw8390062044865357245:=()
def tw7512701154418555095:=()
def tw593833323886790698:=()
def tw4717245872567743043:=()
def tw3990602107725245206:=()
def tw16951106422643500788:=()
def tw16336488047079370277:=()
def tw15915538031853605346:=()
def tw13335075851611892926:=()
def tw16060373024622718900:=()
def tw999181351896322531:=()
def tw6379720731028159598:=()
def tw634967316603647527:=()
def tw17174920019918284197:=()
def tw15974860747869278427:=()
def tw11546570602964892510:=()
def tw10405379334779529620:=()
def tw3279966593247031357:=()
def tw9799529232712119982:=()
def tw9111164466920779788:=()
def tw77940440141519488:=()
def tw5993596442679146618:=()
def tw5580349251705170097:=()
def tw12486779283393308783:=()
def tw1198578697632167562:=()
def tw11451944141374045293:=()
def tw18133836931190803427:=()
def tw8473343100287897994:=()
def tw7149798537797654502:=()
def tw5835146446550658348:=()
def tw417243385871455287:=()
def tw10907238958730310512:=()
def tw8488941381601982378:=()
def tw5043578248207295098:=()
def tw9684830412069264998:=()
def tw2548859681068219364:=()
def tw2201791653114089050:=()
def tw14468576053088627849:=()
def tw13997573501664156165:=()
def tw9281925371003667531:=()
def tw11166166429059640420:=()
def tw9908353214674247386:=()
def tw4665540791445027491:=()
def tw1906105600599241396:=()
def tw17331883638004838503:=()
def tw17303149364868006170:=()
def tw8162662444556617809:=()
def tw17597546272639483701:=()
def tw16853896507685579496:=()
def tw16809271755495689551:=()
def tw3035462942310113576:=()
def tw17458410244094513803:=()
def tw15906680052054667277:=()
def tw14837950277075556335:=()
def tw14409142328431015517:=()
def tw15804625533150994077:=()
def tw13481794366675830514:=()
def tw1421699882888428750:=()
def tw9407779102188948974:=()
def tw5153201578060853994:=()
def tw15678055156092346169:=()
def tw8138607194147885018:=()
def tw8209094908372894402:=()
def tw7352155444361425728:=()
def tw18222570511245502677:=()
def tw14026949871761372172:=()
def tw5729553408378394037:=()
def tw1007142566200362735:=()
def tw2213149283887378049:=()
def tw17447652338830211581:=()
def tw7900081256206287817:=()
def tw10820737228793737146:=()
def tw10898341695732854578:=()
def tw8819228698116637240:=()
def tw8301625819335075430:=()
def tw16898931869473861118:=()
def tw14415039223297387855:=()
def tw17710638535902337479:=()
def tw5654957110023921206:=()
def tw11949999678314791523:=()
def tw5137729198882623232:=()
def tw15813924145808120052:=()
def tw14774789707012704096:=()
def tw16646596550813273843:=()
def tw10760889731794214044:=()
def tw4322712092174703586:=()
def tw2242576929617054862:=()
def tw2028117603606085181:=()
def tw1740687502528787552:=()
end PySem.W.Fast
set_option maxRecDepth 100000 in
set_option maxHeartbeats 0 in
theorem PySem.Challenge.cw_oneofall_k74_images_and_ends_holds : PySem.Challenge.rw_oneofall_k74_images_and_ends.Holds := by
 w_on;o_law;k_head;(case hw=>w_witness2)
 k_fill
 refine M.holds_ofT Law.tabs (F:=Law.zk7) (k:=205) (x:="_law_script") rfl rfl ⟨rfl,by decide,by decide⟩ (by decide) (fun w h Y=>⟨PySem.W.km_in_of Y,fun P hP=>PySem.W.km_tabs_of Y P ((show ∀Q∈Law.tabs.map (·.2),Q∈([53,95]:List Addr) from by decide) P hP)⟩) ?F Law.law_true
 case F =>
  intro w mg fa h KX G hmg
  refine' Law.all_mk KX G hmg ?_ ?_ ?_ ?_ ?_ ?_ ?_ ?_ ?_ ?_ ?_ ?_ ?_ ?_ ?_ ?_ ?_ ?_ ?_ ?_ ?_ ?_ ?_ ?_ ?_ ?_ ?_ ?_ ?_ ?_ ?_ ?_ ?_ ?_ ?_ ?_ ?_ ?_ ?_ ?_ ?_ ?_ ?_ ?_ ?_ ?_ ?_ ?_ ?_ ?_ ?_ ?_ ?_ ?_ ?_ ?_ ?U ?Z ?N0 ?N1
  (case U=>(repeat refine' M.Us.cons (by k_is) (L2.fun_mk (by k_is) (by k_is) (by k_is)) (by intro _ _ _ _ _ _ us hl;first | (cases List.eq_nil_of_length_eq_zero hl;rfl) | (obtain⟨_,rfl⟩:=Law.us1 hl;rfl) | (obtain⟨_,_,rfl⟩:=Law.us2 hl;rfl) | (obtain⟨_,_,_,rfl⟩:=Law.us3 hl;rfl) | (obtain⟨_,_,_,_,rfl⟩:=Law.us4 hl;rfl) | (obtain⟨_,_,_,_,_,rfl⟩:=Law.us5 hl;rfl)) ?_);exact M.Us.nil)
  (case Z=>(repeat refine' M.Zs.cons (by k_is) ?_);exact M.Zs.nil)
  all_goals try first | k_is | kernel_rfl | (refine' L2.fun_mk ?l ?c ?k;(case l=>k_is);(case c=>k_is);(case k=>k_is))
  (case N0=>(repeat refine' M.As.cons (by k_is) ?_);exact M.As.nil)
  (case N1=>(repeat refine' M.As.cons (by k_is) ?_);exact M.As.nil)
