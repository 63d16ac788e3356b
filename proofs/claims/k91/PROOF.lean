import PyProof.Rows.All
import Wide.All
import OpenK.AllK
import Wide.FinOn
import Lean
import PyProof.EqAt
import PyProof.EqKinds
import PyProof.TupleCall
import PyProof.DictWalks
import KE.KEqDict
import KE.KIntText
import PyProof.CallStr
import PyProof.DictTruth
import KE.KTupSum
import KE.KListMore
import PyProof.Rows.MinMaxN
import PySem.SetOps
import PyProof.SetKind
import PyProof.TupleKey
import PyProof.Rows.SetFrom
import KE.KSortTup
import PyProof.ListStr
import PyProof.Rows.SortStr
import PyProof.CollectWalk
import PySem.Challenge.RW_oneofall_k91_whole_counters_on_a_tape
set_option Elab.async false
set_option linter.all false
set_option maxRecDepth 100000

abbrev gf:=@Nat.le_refl
abbrev gh:=@List.length_append
abbrev gj:=@List.mem_cons
abbrev gk:=@List.getElem?_eq_some_iff
abbrev gm:=@List.mem_append
abbrev gq:=@List.length_map
abbrev gw:=@List.getElem?_append_right
abbrev g8:=@List.mem_map
abbrev gB:=@List.map_cons
abbrev gC:=@List.length_cons
abbrev gF:=@PySem.Heap.lt_size
abbrev gG:=@List.append_assoc
abbrev gH:=@List.getElem?_map
abbrev gJ:=@PySem.Heap.get?_push_of_some
abbrev gK:=@List.size_toArray
abbrev gM:=@List.mem_of_getElem?
abbrev gO:=@Option.map_eq_some_iff
abbrev gP:=@List.getElem?_append_left
abbrev gQ:=@List.mem_singleton
abbrev gR:=@Nat.lt_of_lt_of_le
abbrev gU:=@Nat.ne_of_lt
abbrev gW:=@List.mem_append_left
abbrev gY:=@List.map_map
abbrev gZ:=@List.map_append
abbrev g_:=@List.not_mem_nil
abbrev h_:=@PySem.Heap.get?_push_size
abbrev kh:=@List.append_nil
abbrev kj:=@List.getElem?_eq_getElem
abbrev kE:=@List.mem_append_right
abbrev kI:=@Option.bind_some
abbrev kJ:=@List.cons_append
abbrev kO:=@Nat.le_trans
abbrev kW:=@List.mem_cons_of_mem
abbrev kY:=@List.lookup_cons
abbrev kZ:=@List.set_append_right
abbrev k_:=@List.nil_append
abbrev mq:=@List.length_singleton
abbrev my:=@List.any_cons
abbrev mz:=@List.take_succ
abbrev m6:=@List.length_take
abbrev m7:=@Option.map_some
abbrev m8:=@Int.eq_ofNat_of_zero_le
abbrev m9:=@List.take_length
abbrev mC:=@List.getElem?_set_ne
abbrev mD:=@Int.emod_nonneg
abbrev mF:=@Int.toNat_natCast
abbrev mH:=@List.replicate_succ
abbrev mJ:=@Nat.zero_add
abbrev mK:=@Nat.lt_irrefl
abbrev mL:=@List.getElem?_set_self
abbrev mO:=@Array.length_toList
abbrev mQ:=@Bool.false_ne_true
abbrev mR:=@List.nodup_cons
abbrev mU:=@List.map_nil
abbrev mV:=@List.map_congr_left
abbrev mW:=@List.find?_cons
abbrev mX:=@Int.emod_lt_of_pos
abbrev mY:=@Nat.ne_of_gt
abbrev mZ:=@Nat.zero_le
abbrev m_:=@Bool.and_eq_true
abbrev ni:=@List.getElem?_cons_succ
abbrev nj:=@List.length_drop
abbrev nq:=@PySem.Heap.get?_update_self
abbrev nu:=@Bool.false_eq_true
abbrev n6:=@Bool.eq_iff_iff
abbrev n8:=@List.length_nil
abbrev nA:=@List.foldl_append
abbrev nF:=@List.drop_eq_nil_of_le
abbrev nG:=@List.drop_eq_getElem_cons
abbrev nH:=@List.take_of_length_le
abbrev nJ:=@Nat.add_assoc
abbrev nM:=@List.getElem?_of_mem
abbrev nO:=@List.mem_cons_self
abbrev nQ:=@PySem.Heap.size_push
abbrev nR:=@List.nodup_append
abbrev nU:=@List.any_eq_true
abbrev nW:=@List.filterMap_cons
abbrev nY:=@Nat.lt_succ_self
abbrev nZ:=@List.of_mem_zip
abbrev n_:=@PySem.Heap.get?_update_other
abbrev ph:=@List.forIn_cons
abbrev pq:=@Array.getElem?_eq_getElem
abbrev p7:=@Nat.min_eq_left
abbrev p8:=@List.sum_cons
abbrev pA:=@List.foldl_cons
abbrev pB:=@List.flatten_cons
abbrev pC:=@List.dropLast_concat_getLast
abbrev pD:=@Nat.mul_le_mul_right
abbrev pF:=@List.mem_filterMap
abbrev pG:=@List.length_eq_zero_iff
abbrev pH:=@List.getElem?_take
abbrev pI:=@List.getElem?_cons_zero
abbrev pJ:=@Option.map_eq_none_iff
abbrev pK:=@List.find?_eq_none
abbrev pL:=@List.length_pos_iff
abbrev pM:=@Bool.or_eq_false_iff
abbrev pN:=@List.reverse_append
abbrev pO:=@List.contains_iff_mem
abbrev pP:=@List.getElem?_eq_none
abbrev pQ:=@List.take_append_drop
abbrev pR:=@List.take_succ_cons
abbrev ae7:=@PySem.wpAny_bind
abbrev ae8:=@PySem.wpAny_pure
abbrev ae9:=@if_pos
abbrev ae_:=@if_neg
abbrev afa:=@Option.some.inj
abbrev afb:=@PySem.W.mg_of
abbrev afc:=@PySem.PassesOwn.never
abbrev afd:=@decide_eq_false
abbrev afe:=@PySem.mem_of_lookup
abbrev afg:=@PySem.W.mg_none_of
abbrev afh:=@PyProof.Rows.callWith_type1
abbrev afi:=@PySem.wpAny_holding
abbrev afj:=@PySem.wpAny_callSpecial?_slot
abbrev afk:=@PySem.F.slot_dict_get
abbrev afl:=@Prod.mk.inj
abbrev afm:=@or_false
abbrev afn:=@PySem.wpAny_Call_Name_kw
abbrev afo:=@PySem.Paired.length
abbrev afp:=@PySem.F.slot_dict_keyiterator_next
abbrev afq:=@PySem.wpAny_newObj_type
abbrev afr:=@PySem.wpAny_mono
abbrev afs:=@PyProof.Rows.slot_tuple_getitem
abbrev aft:=@PySem.F.plainAttrs_list
abbrev afu:=@decide_eq_true
abbrev afv:=@Ne.symm
abbrev afw:=@PySem.wpAny_typeNameOfWhole_keyiter
abbrev afx:=@PySem.wpAny_call_entry
abbrev afy:=@if_true
abbrev afz:=@Int.ofNat.inj
abbrev afA:=@PySem.tupleKind_room_in1
abbrev afB:=@PySem.wpAny_passesOwn
abbrev afC:=@PySem.wpAny_field
abbrev afD:=@PySem.F.type_list_extend
abbrev afE:=@PySem.F.slot_list_extend
abbrev afF:=@if_false
abbrev afG:=@PySem.W.callWith_K
abbrev afH:=@PySem.F.plainAttrs_dict
abbrev afI:=@PySem.F.entry_dict_get
abbrev afJ:=@PyProof.Rows.cnt_cons
abbrev afK:=@PySem.wpAny_dictEntries
abbrev afL:=@decide_eq_true_eq
abbrev afM:=@PySem.F.args_tuple_add_2
abbrev afN:=@PySem.F.plain_extend_loop
abbrev afO:=@PySem.F.entry_tuple_add
abbrev afP:=@PySem.codeAny_mono
abbrev afQ:=@PySem.call_meetsIn
abbrev afR:=@PySem.F.slot_tuple_add
abbrev afS:=@PySem.F.plainAttrs_str
namespace L2
open PySem PySem.Spec PyProof.Rows
noncomputable abbrev Key:=Sum Int Str
noncomputable def vV:Key->Value->Bool
 | .inl k,v=>Value.isInt k v
 | .inr x,v=>Value.isStrOf x v
noncomputable def aa9(w:World):Key->Int
 | .inl k=>hashInt k
 | .inr x=>hashStr w x
theorem Mv:∀{k:Key} {v:Value},vV k v=true->(∃i t,k=Sum.inl i/\v=Value.int i t)\/(∃x t,k=Sum.inr x/\v=Value.str x t)
 | .inl i,v,h=>by
  obtain⟨t,e⟩:=Value.isInt_shape (k:=i) (v:=v) h;exact .inl ⟨i,t,rfl,e⟩
 | .inr x,v,h=>by
  obtain⟨t,e⟩:=Value.isStrOf_shape (x:=x) (v:=v) h;exact .inr ⟨x,t,rfl,e⟩
def FW(i:Int)(t:Tok):vV (.inl i) (.int i t)=true:=by simp[vV,Value.isInt]
def FT(x:Str)(t:Tok):vV (.inr x) (.str x t)=true:=by simp[vV,Value.isStrOf]
def V9(a b:Int):decide ((Sum.inl a:Key)=Sum.inl b)=(a==b):=by
 by_cases e:a=b
 ·subst e;simp
 ·have h:¬ (Sum.inl a:Key)=Sum.inl b:=λq=>e (Sum.inl.inj q);rw[afd h];exact (beq_eq_false_iff_ne.mpr e).symm
def V6(a b:Str):decide ((Sum.inr a:Key)=Sum.inr b)=decide (a=b):=by
 by_cases e:a=b
 ·subst e;simp
 ·have h:¬ (Sum.inr a:Key)=Sum.inr b:=λq=>e (Sum.inr.inj q);rw[afd h,afd e]
def V8(a:Int)(b:Str):decide ((Sum.inl a:Key)=Sum.inr b)=false:=afd (λq=>nomatch q)
def V7(a:Str)(b:Int):decide ((Sum.inr a:Key)=Sum.inl b)=false:=afd (λq=>nomatch q)
noncomputable def bU(prog:Program)(w:World):PySem.KeyKind prog w Key where
 is:=vV
 hash:=aa9 w
 inj:=λv a b ha hb=>by
  rcases Mv ha with⟨i,t,rfl,rfl⟩ | ⟨x,t,rfl,rfl⟩
  ·rcases Mv hb with⟨j,u,rfl,e⟩ | ⟨y,u,rfl,e⟩
   ·injection e with e1 _;rw[e1]
   ·exact nomatch e
  ·rcases Mv hb with⟨j,u,rfl,e⟩ | ⟨y,u,rfl,e⟩
   ·exact nomatch e
   ·injection e with e1 _;rw[e1]
 byValue:=λk v h=>by
  rcases Mv h with⟨i,t,rfl,rfl⟩ | ⟨x,t,rfl,rfl⟩<;>rfl
 pyHash:=λhv h=>by
  rcases Mv hv with⟨i,t,rfl,rfl⟩ | ⟨x,t,rfl,rfl⟩
  ·exact wpAny_pyHash_int h
  ·exact wpAny_pyHash_str h
 eqBool:=λhu hv h=>by
  rcases Mv hu with⟨i,t,rfl,rfl⟩ | ⟨x,t,rfl,rfl⟩
  ·rcases Mv hv with⟨j,u,rfl,rfl⟩ | ⟨y,u,rfl,rfl⟩
   ·rw[V9]at h;exact wpAny_eqBool_int h
   ·rw[V8]at h;exact SeqAt.EqAt.int_str i t y u _ _ _ _ h
  ·rcases Mv hv with⟨j,u,rfl,rfl⟩ | ⟨y,u,rfl,rfl⟩
   ·rw[V7]at h;exact SeqAt.EqAt.str_int x t j u _ _ _ _ h
   ·rw[V6]at h;exact wpAny_eqBool_str h
 «strs»:=λk x t v h=>by
  rcases Mv h with⟨i,u,rfl,e⟩ | ⟨y,u,rfl,e⟩
  ·exact nomatch e
  ·injection e with e1 _;subst e1;cases v<;>rfl
def zp0(prog:Program)(w:World)(k:Key)(v:Value):(bU prog w).is k v=vV k v:=rfl
def znc(prog:Program)(w:World)(i:Int)(t:Tok):(bU prog w).is (.inl i) (.int i t)=true:=FW i t
def zm6(prog:Program)(w:World)(x:Str)(t:Tok):(bU prog w).is (.inr x) (.str x t)=true:=FT x t
inductive V where
 | non | bl (b:Bool) | int (i:Int) | str (x:Str) | byt (b:Array UInt8) | flt (b:UInt64) | ref (a:Addr) | ty (n:String)
 deriving DecidableEq
def RelV:V->Value->Prop
 | .non,u=>u=Value.none
 | .bl b,u=>u=Value.bool b
 | .int i,u=>∃t,u=Value.int i t
 | .str x,u=>∃t,u=Value.str x t
 | .byt b,u=>∃t,u=Value.bytes b t
 | .flt b,u=>∃t,u=Value.float b t
 | .ref a,u=>u=Value.ref a
 | .ty n,u=>u=Value.type n
abbrev Vals:List V->List Value->Prop:=Paired RelV
def Vals.length{xs:List V}{us:List Value}(r:Vals xs us):xs.length=us.length:=afo r
theorem Vals.get:∀{xs:List V} {us:List Value} {i:Nat} {x:V},Vals xs us->xs[i]? = some x->∃u,us[i]? = some u/\RelV x u
 | _,_,_,_,.nil,e=>by simp at e
 | _,_,0,_,.cons r _,e=>by simp at e;subst e;exact⟨_,rfl,r⟩
 | _,_,i+1,x,.cons _ t,e=>by
  obtain⟨u,h1,h2⟩:=Vals.get (i:=i) (x:=x) t (by simpa using e);exact⟨u,by simpa using h1,h2⟩
theorem Vals.set{x:V}{u:Value}(r:RelV x u):∀{xs:List V} {us:List Value} (i:Nat),Vals xs us->Vals (xs.set i x) (us.set i u)
 | _,_,_,.nil=>.nil
 | _,_,0,.cons _ t=>.cons r t
 | _,_,i+1,.cons q t=>.cons q (Vals.set r i t)
theorem Vals.append:∀{xs ys:List V} {us ws:List Value},Vals xs us->Vals ys ws->Vals (xs++ys) (us++ws)
 | _,_,_,_,.nil,s=>s
 | _,_,_,_,.cons r t,s=>.cons r (Vals.append t s)
theorem Vals.take:∀{xs:List V} {us:List Value} (n:Nat),Vals xs us->Vals (xs.take n) (us.take n)
 | _,_,0,_=>.nil
 | _,_,_+1,.nil=>.nil
 | _,_,n+1,.cons r t=>.cons r (Vals.take n t)
theorem Vals.drop:∀{xs:List V} {us:List Value} (n:Nat),Vals xs us->Vals (xs.drop n) (us.drop n)
 | _,_,0,r=>r
 | _,_,_+1,.nil=>.nil
 | _,_,n+1,.cons _ t=>Vals.drop n t
def qK:Option V->Option Value->Prop
 | some v,some u=>RelV v u
 | none,none=>True
 | _,_=>False
def KV{κ:Type}:List (κ×V)->List (κ×Value)->Prop:=Paired λ(p:κ×V) (q:κ×Value)=>p.1=q.1/\RelV p.2 q.2
noncomputable def kV:Key->V
 | .inl i=>.int i
 | .inr x=>.str x
inductive HO where
 
 | lst (xs:List V)
 
 | tup (xs:List V)
 
 | dK (kvs:List (Key×V)) | dT (kvs:List (List Key×V))
 
 | set (S:Int->Bool) (n:Nat)
 
 | ins (C dx:Addr) (fs:List (Str×V))
 
 | own (x:Addr)
 
 | xd (fs:List (Str×V))
 
 | met (f x:Addr)
 
 | rng (lo hi:Int)
 
 | frz (o:Obj) (u:HO)
 
 | tbl (ps:Array Value)
 
 | ext (φ:Heap->Prop)
noncomputable abbrev Hp:=Addr->Option HO
noncomputable def upd(H:Hp)(a:Addr)(o:HO):Hp:=λb=>if b=a then some o else H b
def rQ:upd H a o a=some o:=by unfold upd;rw[ae9 rfl]
def iD(h:b≠a):upd H a o b=H b:=by unfold upd;rw[ae_ h]
def RM{H:Hp}{a b:Addr}{o u:HO}(h:H a=some o)(h':H b=some u)(d:o≠u):a≠b:=by
 intro e;subst e;rw[h]at h';exact d (afa h')
def yZ{H:Hp}{a b:Addr}{o:HO}(h:H a=some o)(h':H b=none):a≠b:=by
 intro e;subst e;rw[h]at h';cases h'
section
variable  (P:Program)(w:World)
def cH(H:Hp)(h:Heap)(a:Addr):HO->Prop
 | .lst xs=>xs.length<=sizeLine/\∃(its:List Value) (n:Nat),Vals xs its/\h.get? a=some { cls:=.type "list",data:=.seq its.toArray n }
 | .tup xs=>xs.length<=sizeLine/\∃its:List Value,Vals xs its/\IsTup h a its.toArray
 | .dK kvs=>kvs.length<=sizeLine/\(a==sysModules)=false/\∃vs,KV kvs vs/\h.DictOf (bU P w) a vs
 | .dT kvs=>kvs.length<=sizeLine/\(a==sysModules)=false/\∃xs:List (List Key×Addr×Value),
   Paired (λ(p:List Key×V) (q:List Key×Addr×Value)=>p.1=q.1/\H q.2.1=some (.tup (p.1.map kV))/\RelV p.2 q.2.2) kvs xs /\
   ∃o es ep,h.get? a=some o/\o.ExactDict/\o.data=.dict es ep/\es.toList=xs.map (entryOfKey (tupleKind (bU P w)))/\(xs.map (·.1)).Nodup
 | .set S n=>h.SetOf (intKind P w) a S n
 | .ins C dx fs=>H dx=some (.own a)/\fs.length<=1000/\dx≠a/\h.get? a=some (PySem.W.instObj C dx) /\
   ∃mA,h.Ns1 dx mA/\(∀f,qK (fs.lookup f) (mA f))/\PySem.Within mA (fs.map (·.1))
 | .own _=>∃o,h.get? a=some o
 | .xd fs=>∃mA,h.Ns1 a mA/\∀f,qK (fs.lookup f) (mA f)
 | .rng lo hi=>∃t u v,h.get? a=some { cls:=.type "range",data:=.fields #[.int lo t,.int hi u,.int 1 v] }
 | .frz o u=>h.get? a=some o/\cH H h a u
 | .tbl ps=>h.get? a=some { cls:=.none,data:=.fields ps }
 | .met f x=>h.get? a=some (PySem.W.methodObj (.ref f) (.ref x))
 | .ext φ=>φ h/\(∃o,h.get? a=some o)/\∀h1 h2:Heap,φ h1->(∀o,h1.get? a=some o->h2.get? a=some o)->φ h2
def qL(H:Hp)(h:Heap):Prop:=∀a o,H a=some o->cH P w H h a o
end
section
variable  {P:Program}{w:World}{H H':Hp}{h h':Heap}{a:Addr}{o:HO}
def cH.lt(x:cH P w H h a o):a<h.objs.size:=by
 cases o with
 | lst xs=>obtain⟨_,_,_,_,e⟩:=x;exact gF e
 | tup xs=>obtain⟨_,_,_,p⟩:=x;exact p.lt
 | dK kvs=>obtain⟨_,_,_,_,o,_,_,e,_⟩:=x;exact gF e
 | dT kvs=>obtain⟨_,_,_,_,o,_,_,e,_⟩:=x;exact gF e
 | set S n=>obtain⟨o,_,_,_,e,_⟩:=x;exact gF e
 | ins C dx fs=>obtain⟨_,_,_,e,_⟩:=x;exact gF e
 | own y=>obtain⟨_,e⟩:=x;exact gF e
 | xd fs=>obtain⟨_,⟨_,_,_,e,_⟩,_⟩:=x;exact gF e
 | rng lo hi=>obtain⟨_,_,_,e⟩:=x;exact gF e
 | frz ob u=>obtain⟨e,_⟩:=x;exact gF e
 | tbl ps=>exact gF (show h.get? a=some _ from x)
 | met f y=>exact gF (show h.get? a=some _ from x)
 | ext φ=>obtain⟨_,⟨_,e⟩,_⟩:=x;exact gF e
theorem Paired.VN:∀{ae0:List α} {aeZ:List β},Paired F ae0 aeZ->(∀a b,F a b->G a b)->Paired G ae0 aeZ
 | _,_,.nil,_=>.nil
 | _,_,.cons r t,f=>.cons (f _ _ r) (Paired.VN t f)
def cH.tX(x:cH P w H h a o)(k:∀b u,(b=a\/H b=some (.own a))->h.get? b=some u->h'.get? b=some u)
  (ho:∀b,H b=some (.own a)->H' b=some (.own a)) (ht:∀b xs,H b=some (.tup xs)->H' b=some (.tup xs)):cH P w H' h' a o:=by
 induction o with
 | lst xs=>obtain⟨z,its,n,r,e⟩:=x;exact⟨z,its,n,r,k _ _ (.inl rfl) e⟩
 | tup xs=>obtain⟨z,its,r,ob,e,c⟩:=x;exact⟨z,its,r,ob,k _ _ (.inl rfl) e,c⟩
 | dK kvs=>obtain⟨z,y,vs,r,ob,es,ep,e,c⟩:=x;exact⟨z,y,vs,r,ob,es,ep,k _ _ (.inl rfl) e,c⟩
 | dT kvs =>
  obtain⟨z,y,xs,r,ob,es,ep,e,c⟩:=x;exact⟨z,y,xs,Paired.VN r λp q z=>⟨z.1,ht _ _ z.2.1,z.2.2⟩,ob,es,ep,k _ _ (.inl rfl) e,c⟩
 | set S n=>obtain⟨ob,es,ep,t,e,c⟩:=x;exact⟨ob,es,ep,t,k _ _ (.inl rfl) e,c⟩
 | ins C dx fs =>
  obtain⟨d,z,ne,e,mA,⟨od,es,ep,e2,c⟩,r⟩:=x;exact⟨ho _ d,z,ne,k _ _ (.inl rfl) e,mA,⟨od,es,ep,k _ _ (.inr d) e2,c⟩,r⟩
 | own y=>obtain⟨ob,e⟩:=x;exact⟨ob,k _ _ (.inl rfl) e⟩
 | xd fs=>obtain⟨mA,⟨od,es,ep,e,c⟩,r⟩:=x;exact⟨mA,⟨od,es,ep,k _ _ (.inl rfl) e,c⟩,r⟩
 | rng lo hi=>obtain⟨t,u,v,e⟩:=x;exact⟨t,u,v,k _ _ (.inl rfl) e⟩
 | frz ob u ih=>obtain⟨e,q⟩:=x;exact⟨k _ _ (.inl rfl) e,ih q⟩
 | tbl ps =>
  have e:h.get? a=some { cls:=.none,data:=.fields ps }:=x;show h'.get? a=some { cls:=.none,data:=.fields ps };exact k a _ (.inl rfl) e
 | met f y =>
  have e:h.get? a=some (PySem.W.methodObj (.ref f) (.ref y)):=x;show h'.get? a=some (PySem.W.methodObj (.ref f) (.ref y));exact k a _ (.inl rfl) e
 | ext φ=>obtain⟨p,⟨o,e⟩,st⟩:=x;exact⟨st _ _ p λo q=>k _ _ (.inl rfl) q,⟨o,k _ _ (.inl rfl) e⟩,st⟩
def qL.lt(x:qL P w H h)(e:H a=some o):a<h.objs.size:=(x a o e).lt
def qL.fresh(x:qL P w H h)(e:h.objs.size<=a):H a=none:=by
 cases q:H a with
 | none=>rfl
 | some u=>exact absurd (gR (x.lt q) e) (mK _)
def qL.kept(x:qL P w H h)(k:∀b u,h.get? b=some u->h'.get? b=some u):qL P w H h':=λa o e =>
 (x a o e).tX (λb u _ q=>k b u q) (λ_ q=>q) λ_ _ q=>q
def qL.laid(x:qL P w H h)(k:∀b u,h.get? b=some u->h'.get? b=some u)(hp:h.objs.size<=a)(new:cH P w (upd H a o) h' a o):qL P w (upd H a o) h':=λb u e=>by
 have hn:=x.fresh hp;by_cases hb:b=a
 ·subst hb;rw[rQ]at e;cases e;exact new
 ·rw[iD hb]at e;exact (x b u e).tX (λc v _ q=>k c v q) (λc q=>by rw[iD (yZ q hn)];exact q) λc xs q=>by rw[iD (yZ q hn)];exact q
end
def Rd(H:Hp)(a:Addr)(u:HO):Prop:=H a=some u\/∃o,H a=some (.frz o u)
def Rd.ok(r:Rd H a u)(x:qL P w H h):cH P w H h a u:=by
 rcases r with r | ⟨o,r⟩
 ·exact x a u r
 ·obtain⟨_,q⟩:=x a _ r;exact q
def Mut:Option HO->Prop
 | some (.lst _)=>True
 | some (.dK _)=>True
 | some (.dT _)=>True
 | some (.set _ _)=>True
 | some (.ins _ _ _)=>True
 | some (.ext _)=>True
 | _=>False
section
variable  {P:Program}{w:World}{H:Hp}{h h':Heap}{x e:Addr}{o':HO}
def qL.write(ok:qL P w H h)(mu:Mut (H x))(he:e=x\/H e=some (.own x))(k:∀b u,b≠e->h.get? b=some u->h'.get? b=some u)(Sd:∃u,h'.get? e=some u)
  (new:cH P w (upd H x o') h' x o'):qL P w (upd H x o') h':=λb u q=>by
 have JH:∀c y,H c=some (.own y)->c≠x:=λc y r z=>by subst z;rw[r]at mu;exact mu
 have acZ:∀c xs,H c=some (.tup xs)->c≠x:=λc xs r z=>by subst z;rw[r]at mu;exact mu
 by_cases hb:b=x
 ·subst hb;rw[rQ]at q;cases q;exact new
 ·rw[iD hb]at q;by_cases Xa:b=e
  ·have q':H b=some (.own x):=by
    rcases he with z | z
    ·exact absurd (Xa.trans z) hb
    ·rw[Xa];exact z
   rw[q]at q';cases q';obtain⟨v,hv⟩:=Sd;exact⟨v,by rw[Xa];exact hv⟩
  ·refine (ok b u q).tX (λc v hc r=>k c v ?_ r) (λc r=>by rw[iD (JH c b r)];exact r) λc xs r=>by rw[iD (acZ c xs r)];exact r
   rcases hc with rfl | hc
   ·exact Xa
   ·rintro rfl;rcases he with z | z
    ·exact JH c b hc z
    ·rw[hc]at z;cases z;exact hb rfl
end
structure Un(fs ex:List Addr)(H H':Hp)(h h':Heap):Prop where
 keep:∀b o,h.get? b=some o->H b=none->b∉fs->b∉ex->h'.get? b=some o
 slot:∀b o,h.get? b=some o->H b=none->b∈fs->b∉ex->∃sl,h'.get? b=some { o with slots:=sl }
 free:∀b o,h.get? b=some o->H b=none->b∉ex->H' b=none
 there:∀b o,h.get? b=some o->b∉ex->∃o',h'.get? b=some o'
 vJ:∀b xs,H b=some (.tup xs)->H' b=some (.tup xs)
 uM:∀b o u,H b=some (.frz o u)->H' b=some (.frz o u)
 vf:∀b ps,H b=some (.tbl ps)->∃more,H' b=some (.tbl (ps++more))
section
variable  {fs fs' ex ex':List Addr}{H H1 H2:Hp}{h h1 h2 h':Heap}{a x e:Addr}{o:HO}
def Un.any(u:Un fs ex H H1 h h1){b:Addr}{ob:Obj}(q:h.get? b=some ob)(n:H b=none)(hx:b∉ex):∃sl,h1.get? b=some { ob with slots:=sl }:=by
 by_cases hb:b∈fs
 ·exact u.slot b ob q n hb hx
 ·exact⟨ob.slots,u.keep b ob q n hb hx⟩
def Un.kept(k:∀b u,h.get? b=some u->h'.get? b=some u):Un fs ex H H h h' :=
 ⟨λb ob q _ _ _=>k b ob q,λb ob q _ _ _=>⟨ob.slots,k b ob q⟩,λ_ _ _ n _=>n,λb ob q _=>⟨ob,k b ob q⟩,λ_ _ q=>q,λ_ _ _ q=>q,λ_ ps q=>⟨#[],by rw[q];simp⟩⟩
def Un.refl:Un fs ex H H h h:=Un.kept λ_ _ q=>q
def Un.laid(k:∀b u,h.get? b=some u->h'.get? b=some u)(hp:h.objs.size<=a)(hn:H a=none):Un fs ex H (upd H a o) h h' where
 keep:=λb u q _ _ _=>k b u q
 slot:=λb u q _ _ _=>⟨u.slots,k b u q⟩
 free:=λb u q n _=>by rw[iD (gU (gR (gF q) hp))];exact n
 there:=λb u q _=>⟨u,k b u q⟩
 vJ:=λb xs q=>by rw[iD (yZ q hn)];exact q
 uM:=λb u xs q=>by rw[iD (yZ q hn)];exact q
 vf:=λb ps q=>⟨#[],by rw[iD (yZ q hn),q];simp⟩
def Un.write(mu:Mut (H x))(he:e=x\/H e=some (.own x))(k:∀b u,b≠e->h.get? b=some u->h'.get? b=some u)(Sd:∃u,h'.get? e=some u):Un fs ex H (upd H x o) h h':=by
 have hx:∀b,H b=none->b≠x:=λb n z=>by subst z;rw[n]at mu;exact mu
 have hb:∀b,H b=none->b≠e:=λb n z=>by
  subst z;rcases he with r | r
  ·exact hx b n r
  ·rw[n]at r;cases r
 have hm:∀b u,H b=some u->¬ Mut (some u)->b≠x:=λb u q nm z=>by subst z;rw[q]at mu;exact nm mu
 refine⟨λb u q n _ _=>k b u (hb b n) q,λb u q n _ _=>⟨u.slots,k b u (hb b n) q⟩,λb u q n _=>by rw[iD (hx b n)];exact n,λb u q _=>?_,
  λb xs q=>by rw[iD (hm b _ q λz=>z)];exact q,λb u xs q=>by rw[iD (hm b _ q λz=>z)];exact q,λb ps q=>⟨#[],by rw[iD (hm b _ q λz=>z),q];simp⟩⟩
 by_cases Xa:b=e
 ·subst Xa;exact Sd
 ·exact⟨u,k b u Xa q⟩
end
noncomputable def trk(h:Heap)(H:Hp):List Addr:=(List.range h.objs.size).filter λa=>(H a).isSome
noncomputable def xg(h:Heap)(H:Hp):Heap:=PySem.W.hideAll h (trk h H)
def Gj(h:Heap)(H:Hp):(xg h H).objs.size=h.objs.size:=PySem.W.hideAll_size _ _
def K1(e:h.get? b=some o)(n:H b=none):(xg h H).get? b=some o :=
 PySem.W.hideAll_get _ e λhm=>by
  have q:(H b).isSome=true:=(List.mem_filter.mp hm).2;rw[n]at q;simp at q
def PB(e:(xg h H).get? b=some o):h.get? b=some o/\H b=none:=by
 have e':h.get? b=some o:=PySem.W.of_hideAll (trk h H) e;refine⟨e',?_⟩;cases q:H b with
 | none=>rfl
 | some x =>
  have hm:b∈trk h H:=List.mem_filter.mpr ⟨List.mem_range.mpr (gF e'),by simp[q]⟩;have z:(xg h H).get? b=none:=PySem.W.hideAll_none (trk h H) hm;rw[z]at e;cases e
noncomputable def Q0(g h:Heap)(L:Addr):List (Addr×Obj):=(List.range h.objs.size).filterMap λa=>if a=L\/(g.get? a).isSome=true then none else (h.get? a).map λo=>(a,o)
noncomputable def rest(g h:Heap)(L d:Addr):List (Addr×Obj):=(Q0 g h L).filter λp=>decide (p.1≠d)
structure Mod(K:PySem.W.Frag)(mg:Str->Option Value)(base:Heap):Prop where
 V4:K.In base
 glob:base.Ns mainGlobals mg
 blt:∃mb,base.Ns builtinsNs mb/\∀x:Str,x ≠ "__name__"->mb x=bootBuiltins x
 nolimit:base.NoLimit
structure Cx where
 prog:Program
 w:World
 K:PySem.W.Frag
 mg:Str->Option Value
 base:Heap
 A:Around
 N:List Str
 aeY:Shared
 ae6:Hp
 env:Env
 outer:List Env
 stack:List Env
 ex:List Addr
 fn:Str->Bool
 calm:Bool
 pn:List (Addr×Obj)
 xe:Value->Shared->Prop
noncomputable def Dh(l:List Env):List Addr:=l.filterMap (·.frame)
noncomputable abbrev Cx.fs(X:Cx):List Addr:=Dh X.outer
def Vis(sc:Scope)(x:Str):Prop:=sc.names.lookup x=some .local\/sc.names.lookup x=some .cell\/sc.names.lookup x=some .free
def Loc(sc:Scope)(x:Str):Prop:=sc.names.lookup x=some .local\/sc.names.lookup x=some .cell
def Look(env:Env)(h:Heap)(m:Str->Option Value)(x:Str)(u:Value):Prop :=
 (env.kindOf x=some .local/\m x=some u)\/((env.kindOf x=some .cell\/env.kindOf x=some .free)/\∃c,env.cells.lookup x=some c/\h.IsCell c (some u))
structure Cx.Ok(X:Cx):Prop where
 mod:Mod X.K X.mg X.base
 kind:X.env.scope.kind=.function
 glob:X.env.globals=mainGlobals
 blt:X.env.builtins=builtinsNs
 above:X.aeY.heap.objs.size<=X.env.locals
 inj:∀x y c,X.env.cells.lookup x=some c->X.env.cells.lookup y=some c->x=y
 has:∀x,(X.env.kindOf x=some .cell\/X.env.kindOf x=some .free)->∃c,X.env.cells.lookup x=some c
 Tf:∀x c,X.fn x=true->X.env.cells.lookup x=some c->X.aeY.heap.objs.size<=c
 hd:X.calm=true->X.A.handled=none
 frames:X.A.frames=some X.stack
 Yu:X.stack=X.outer\/(X.stack=X.env::X.outer/\X.env.frame=some X.env.locals)
 exf:∀b∈X.ex,b≠X.env.locals/\∀x c,X.env.cells.lookup x=some c->c≠b
 bs:∀b o,X.base.get? b=some o->X.aeY.heap.get? b=some o/\X.ae6 b=none
 GZ:X.base.objs.size<=X.aeY.heap.objs.size
 Ft:∀b o,X.base.get? b=some o->b∉X.ex
 Lg:∀b∈X.ex,b∉X.fs
 sE:X.aeY.heap.FunFrames X.base X.outer
 Lb:∀b∈X.fs,X.ae6 b=none
structure Inv(X:Cx)(pins:List (Addr×Obj))(σ:List (Option V))(H:Hp)(s:Shared):Prop where
 ok:X.Ok
 os:s.os=X.aeY.os
 bare:AllBare s.gens
 base:Un X.fs X.ex X.ae6 H X.aeY.heap s.heap
 loc:∃m,s.heap.Ns X.env.locals m/\∀(i:Nat) (x:Str) (v:V),X.N[i]? = some x->σ[i]? = some (some v)->Vis X.env.scope x->∃u,RelV v u/\Look X.env s.heap m x u
 cell:∀x c,X.env.cells.lookup x=some c->∃v,s.heap.IsCell c v
 free:H X.env.locals=none
 pU:∀x c,X.env.cells.lookup x=some c->H c=none
 pin:∀p∈X.pn++pins,s.heap.get? p.1=some p.2/\H p.1=none/\p.1≠X.env.locals/\p.1∉X.fs/\∀v,p.2.data≠.cell v
 cz:qL X.prog X.w H s.heap
 len:σ.length=X.N.length
section
variable  {X:Cx}{pins:List (Addr×Obj)}{σ:List (Option V)}{H H':Hp}{s:Shared}{h':Heap}
def Cx.Ok.ac1(ok:X.Ok)(e:X.base.get? b=some o):b∉X.fs:=λhb=>by
 have:=(ok.sE.mem hb).1;rw[e]at this;cases this
def Inv.bs(I:Inv X pins σ H s):∀b o,X.base.get? b=some o->s.heap.get? b=some o/\H b=none:=λb o e =>
 ⟨I.base.keep b o (I.ok.bs b o e).1 (I.ok.bs b o e).2 (I.ok.ac1 e) (I.ok.Ft b o e),I.base.free b o (I.ok.bs b o e).1 (I.ok.bs b o e).2 (I.ok.Ft b o e)⟩
def Inv.bk(I:Inv X pins σ H s):∀b o,X.base.get? b=some o->s.heap.get? b=some o:=λb o e=>(I.bs b o e).1
def Inv.mod(I:Inv X pins σ H s):Mod X.K X.mg X.base:=I.ok.mod
def Inv.zN(I:Inv X pins σ H s):X.K.In s.heap:=I.ok.mod.V4.keeps I.bk
def Inv.lt(I:Inv X pins σ H s):X.env.locals<s.heap.objs.size:=let ⟨_,hn,_⟩:=I.loc;hn.lt
def Inv.sz(I:Inv X pins σ H s):X.aeY.heap.objs.size<=s.heap.objs.size:=kO I.ok.above (Nat.le_of_lt I.lt)
def Inv.ac0(I:Inv X pins σ H s)(h:s.heap.objs.size<=a):a∉X.fs:=λhb=>by
 obtain⟨_,o,ho,_⟩:=I.ok.sE.mem hb;exact absurd (gR (gF ho) (kO I.sz h)) (mK _)
def Inv.Te(I:Inv X pins σ H s):∀x c,X.env.cells.lookup x=some c->c≠X.env.locals:=λx c e z=>by
 obtain⟨v,o,ho,hd⟩:=I.cell x c e;obtain⟨m,⟨o',es,ep,M7,K4,_⟩,_⟩:=I.loc;rw[z,M7]at ho;cases ho;rw[K4]at hd;cases hd
def Inv.sE(I:Inv X pins σ H s):s.heap.FunFrames X.base X.outer:=by
 have all:∀(l:List Env),(∀b∈Dh l,b∈X.fs)->X.aeY.heap.FunFrames X.base l->s.heap.FunFrames X.base l:=by
  intro l
  induction l with
  | nil=>intro _ _;trivial
  | cons env r ih =>
   intro hs hl;obtain⟨hk,⟨L,o,hf,hn,ho,hd⟩,hr⟩:=hl;have hL:L∈X.fs:=hs L (by unfold Dh;rw[nW,hf];exact nO);obtain⟨sl,e⟩:=I.base.slot L o ho (I.ok.Lb L hL) hL λz=>I.ok.Lg L z hL;exact⟨hk,⟨L,_,hf,hn,e,hd⟩,ih (λb hb=>hs b (by unfold Dh;rw[nW,hf];exact kW _ hb)) hr⟩
 exact all X.outer (λ_ hb=>hb) I.ok.sE
def Inv.stack(I:Inv X pins σ H s):s.heap.FunFrames X.base X.stack:=by
 rcases I.ok.Yu with e | ⟨e,hf⟩
 ·rw[e];exact I.sE
 ·rw[e];obtain⟨m,hn,_⟩:=I.loc;refine .cons (by rw[I.ok.kind];decide) hf hn ?_ I.sE;exact Heap.get?_none_of_le (kO I.ok.GZ I.ok.above)
def Inv.vK(I:Inv X pins σ H s):∀b∈Dh X.stack,b∈X.env.locals::X.fs:=λb hb=>by
 rcases I.ok.Yu with e | ⟨e,hf⟩
 ·rw[e]at hb;exact kW _ hb
 ·rw[e]at hb;unfold Dh at hb;rw[nW,hf]at hb;exact hb
def Inv.By(I:Inv X pins σ H s):∀b∈Dh X.stack,H b=none:=λb hb=>by
 rcases gj.mp (I.vK b hb) with e | hb
 ·rw[e];exact I.free
 ·obtain⟨_,o,ho,_⟩:=I.ok.sE.mem hb;exact I.base.free b o ho (I.ok.Lb b hb) λz=>I.ok.Lg b z hb
def Inv.step{g':Array GenState}{t':Nat}{d':Drawn}{ch:List Addr}(I:Inv X pins σ H s)
  (M9:∀b∈ch,(b∈X.ex\/X.aeY.heap.objs.size<=b)/\b≠X.env.locals/\(∀x c,X.env.cells.lookup x=some c->c≠b)/\∀p∈X.pn++pins,p.1≠b)
  (keep:∀b o,b≠X.env.locals->b∉X.fs->b∉ch->s.heap.get? b=some o->H b=none->h'.get? b=some o)
  (slot:∀b o,b≠X.env.locals->b∈X.fs->b∉ch->s.heap.get? b=some o->H b=none->∃sl,h'.get? b=some { o with slots:=sl }) (free:∀b o,b∉ch->s.heap.get? b=some o->H b=none->H' b=none)
  (there:∀b o,b∉ch->s.heap.get? b=some o->∃o',h'.get? b=some o')
  (vJ:∀b xs,H b=some (.tup xs)->H' b=some (.tup xs)) (uM:∀b o u,H b=some (.frz o u)->H' b=some (.frz o u)) (vf:∀b ps,H b=some (.tbl ps)->∃more,H' b=some (.tbl (ps++more)))
  (ns:∀m,s.heap.Ns X.env.locals m->h'.Ns X.env.locals m) (cz:qL X.prog X.w H' h') (hg:AllBare g') :
  Inv X pins σ H' { s with heap:=h',gens:=g',drawn:=d',toks:=t' }:=by
 have RN:∀b o,X.aeY.heap.get? b=some o->b≠X.env.locals:=λb o e=>gU (gR (gF e) I.ok.above);have MN:∀b o,X.aeY.heap.get? b=some o->b∉X.ex->b∉ch:=λb o e hx hb=>by
  rcases (M9 b hb).1 with z | z
  ·exact hx z
  ·exact absurd (gR (gF e) z) (mK _)
 have cellK:∀x c,X.env.cells.lookup x=some c->∀v,s.heap.IsCell c v->h'.IsCell c v:=λx c e v zz=>by
  obtain⟨o,ho,hd⟩:=zz;have JQ:c∉ch:=λz=>(M9 c z).2.2.1 x c e rfl;by_cases hc:c∈X.fs
  ·obtain⟨sl,q⟩:=slot c o (I.Te x c e) hc JQ ho (I.pU x c e);exact⟨_,q,hd⟩
  ·exact⟨o,keep c o (I.Te x c e) hc JQ ho (I.pU x c e),hd⟩
 refine⟨I.ok,I.os,hg,⟨λb o e n hb hx=>?_,λb o e n hb hx=>?_,λb o e n hx=>?_,λb o e hx=>?_,λb xs e=>vJ b xs (I.base.vJ b xs e),λb o xs e=>uM b o xs (I.base.uM b o xs e),λb ps e=>?_⟩,?_,λx c e=>?_,?_,λx c e=>?_,λp hp=>?_,cz,I.len⟩
 ·exact keep b o (RN b o e) hb (MN b o e hx) (I.base.keep b o e n hb hx) (I.base.free b o e n hx)
 ·obtain⟨sl,e1⟩:=I.base.slot b o e n hb hx;obtain⟨sl',e2⟩:=slot b _ (RN b o e) hb (MN b o e hx) e1 (I.base.free b o e n hx);exact⟨sl',e2⟩
 ·obtain⟨o',e1⟩:=I.base.there b o e hx;exact free b o' (MN b o e hx) e1 (I.base.free b o e n hx)
 ·obtain⟨o',e1⟩:=I.base.there b o e hx;exact there b o' (MN b o e hx) e1
 ·obtain⟨m1,e1⟩:=I.base.vf b ps e;obtain⟨m2,e2⟩:=vf b _ e1;exact⟨m1++m2,by rw[e2,Array.append_assoc]⟩
 ·obtain⟨m,hn,hl⟩:=I.loc;refine⟨m,ns m hn,λi x v e1 e2 e3=>?_⟩;obtain⟨u,r,l⟩:=hl i x v e1 e2 e3;refine⟨u,r,?_⟩;rcases l with l | ⟨k,c,e,z⟩
  ·exact .inl l
  ·exact .inr ⟨k,c,e,cellK x c e _ z⟩
 ·obtain⟨v,z⟩:=I.cell x c e;exact⟨v,cellK x c e v z⟩
 ·obtain⟨m,⟨o,_,_,ho,_⟩,_⟩:=I.loc;exact free _ o (λz=>(M9 _ z).2.1 rfl) ho I.free
 ·obtain⟨v,o,ho,hd⟩:=I.cell x c e;exact free c o (λz=>(M9 c z).2.2.1 x c e rfl) ho (I.pU x c e)
 ·obtain⟨e,n,ne,nf,d⟩:=I.pin p hp;have JQ:p.1∉ch:=λz=>(M9 p.1 z).2.2.2 p hp rfl;exact⟨keep p.1 p.2 ne nf JQ e n,free p.1 p.2 JQ e n,ne,nf,d⟩
def Inv.un{t':Nat}(I:Inv X pins σ H s)(u:Un X.fs [] H H' s.heap h')(cz:qL X.prog X.w H' h'):Inv X pins σ H' { s with heap:=h',toks:=t' }:=by
 obtain⟨m,⟨o,es,ep,ho,r⟩,_⟩:=id I.loc;obtain⟨sl,hL⟩:=u.any ho I.free (by simp);exact I.step (g':=s.gens) (d':=s.drawn) (ch:=[]) (λ_ z=>nomatch z) (λb o _ hb _ e n=>u.keep b o e n hb (by simp)) (λb o _ hb _ e n=>u.slot b o e n hb (by simp)) (λb o _ e n=>u.free b o e n (by simp)) (λb o _ e=>u.there b o e (by simp)) u.vJ u.uM u.vf (λm' hm=>by
  obtain⟨o',es',ep',M7,r'⟩:=hm;rw[ho]at M7;cases M7;exact⟨_,es',ep',hL,r'⟩) cz I.bare
def Inv.call{g':Array GenState}{t':Nat}{d':Drawn}{ch:List Addr}(I:Inv X pins σ H s)(u:Un (Dh X.stack) ch H H' s.heap h')(cz:qL X.prog X.w H' h')(hg:AllBare g')
  (M9:∀b∈ch,(b∈X.ex\/X.aeY.heap.objs.size<=b)/\b≠X.env.locals/\(∀x c,X.env.cells.lookup x=some c->c≠b)/\∀p∈X.pn++pins,p.1≠b) :
  Inv X pins σ H' { s with heap:=h',gens:=g',drawn:=d',toks:=t' }:=by
 obtain⟨m,⟨o,es,ep,ho,r⟩,_⟩:=id I.loc;obtain⟨sl,hL⟩:=u.any ho I.free λz=>(M9 _ z).2.1 rfl;exact I.step (ch:=ch) M9 (λb o hL hb hc e n=>u.keep b o e n (λz=>(gj.mp (I.vK b z)).elim hL hb) hc) (λb o _ _ hc e n=>u.any e n hc) (λb o hc e n=>u.free b o e n hc) (λb o hc e=>u.there b o e hc) u.vJ u.uM u.vf (λm' hm=>by
  obtain⟨o',es',ep',M7,r'⟩:=hm;rw[ho]at M7;cases M7;exact⟨_,es',ep',hL,r'⟩) cz hg
def Inv.turned{t':Nat}{it:Addr}(I:Inv X pins σ H s)(k:∀b o,b≠it->s.heap.get? b=some o->h'.get? b=some o)(hn:H it=none)(hL:it≠X.env.locals)
  (h1:it∈X.ex\/X.aeY.heap.objs.size<=it) (h2:∀x c,X.env.cells.lookup x=some c->c≠it) (h3:∀p∈X.pn++pins,p.1≠it):Inv X pins σ H { s with heap:=h',toks:=t' }:=by
 have nit:∀b u,H b=some u->b≠it:=λb u e z=>by rw[z,hn]at e;cases e
 refine I.step (g':=s.gens) (d':=s.drawn) (ch:=[it]) (λb hb=>?_) (λb o _ _ hc e _=>k b o (λz=>hc (by simp[z])) e) (λb o _ _ hc e _=>⟨o.slots,k b o (λz=>hc (by simp[z])) e⟩) (λ_ _ _ _ n=>n)
  (λb o hc e=>⟨o,k b o (λz=>hc (by simp[z])) e⟩) (λ_ _ e=>e) (λ_ _ _ e=>e) (λb ps e=>⟨#[],by rw[e];simp⟩) (λm hm=>?_) (λb u e=>?_) I.bare
 ·have e:b=it:=by simpa using hb
  subst e;exact⟨h1,hL,h2,h3⟩
 ·obtain⟨o,es,ep,ho,r⟩:=hm;exact⟨o,es,ep,k _ o (afv hL) ho,r⟩
 ·refine (I.cz b u e).tX (λc v hc q=>k c v ?_ q) (λ_ q=>q) λ_ _ q=>q;rcases hc with z | z
  ·rw[z];exact nit b u e
  ·exact nit c _ z
def Inv.tok(I:Inv X pins σ H s)(t:Nat):Inv X pins σ H { s with toks:=t }:=I.un (h':=s.heap) (t':=t) Un.refl I.cz
def Inv.kept(I:Inv X pins σ H s)(k:∀b u,s.heap.get? b=some u->h'.get? b=some u):Inv X pins σ H { s with heap:=h',toks:=t' }:=I.un (Un.kept k) (I.cz.kept k)
def Inv.laid(I:Inv X pins σ H s)(k:∀b u,s.heap.get? b=some u->h'.get? b=some u)(hp:s.heap.objs.size<=a)(new:cH X.prog X.w (upd H a o) h' a o) :
  Inv X pins σ (upd H a o) { s with heap:=h',toks:=t' }:=I.un (Un.laid k hp (I.cz.fresh hp)) (I.cz.laid k hp new)
def Inv.write(I:Inv X pins σ H s)(mu:Mut (H x))(he:e=x\/H e=some (.own x))(k:∀b u,b≠e->s.heap.get? b=some u->h'.get? b=some u)(Sd:∃u,h'.get? e=some u) 
  (new:cH X.prog X.w (upd H x o) h' x o):Inv X pins σ (upd H x o) { s with heap:=h',toks:=t' }:=I.un (Un.write mu he k Sd) (I.cz.write mu he k Sd new)
def Inv.Ci(I:Inv X pins σ H s)(h:∀p∈aaN,s.heap.get? p.1=some p.2/\H p.1=none/\p.1≠X.env.locals/\p.1∉X.fs/\∀v,p.2.data≠.cell v):Inv X aaN σ H s :=
 ⟨I.ok,I.os,I.bare,I.base,I.loc,I.cell,I.free,I.pU,λp hp=>(gm.mp hp).elim (λz=>I.pin p (gW _ z)) (h p),I.cz,I.len⟩
def zo2{N:List Str}(hN:N.Nodup){i j:Nat}{x:Str}(a:N[i]? = some x)(b:N[j]? = some x):i=j:=by
 obtain⟨h1,e1⟩:=gk.mp a;obtain⟨h2,e2⟩:=gk.mp b;exact (List.getElem_inj hN).mp (e1.trans e2.symm)
def zl5{M:Model}{A:Around}{E:Value->Shared->Prop}{i:Nat}{x:Str}{v:V}{u:Value}{Q:Unit->Shared->Prop}(I:Inv X pins σ H s)(hN:X.N.Nodup)(hi:X.N[i]? = some x)(hx:Loc X.env.scope x)(r:RelV v u)
  (h:∀s',Inv X pins (σ.set i (some v)) H s'->(∃a,Heap.SameBut a s.heap s'.heap/\(a=X.env.locals\/X.env.cells.lookup x=some a))->Q () s') (hf:X.fn x=true\/X.env.scope.names.lookup x=some .local:=by first | exact .inl rfl | exact .inr rfl | assumption):wpAny M A (storeName X.env x u) Q E s:=by
 obtain⟨m,hn,hl⟩:=id I.loc;have adF:(X.env.scope.kind == .class || (X.env.scope.kind == .module && X.env.locals != X.env.globals))=false:=by rw[I.ok.kind];rfl
 have aet:i<σ.length:=by rw[I.len];exact (gk.mp hi).1
 have Te:=I.Te;have tracked:∀{a:Addr} {h':Heap},(∃o,s.heap.get? a=some o/\H a=none)->Heap.SameBut a s.heap h'->qL X.prog X.w H h':=λ{a h'} ha hs b ob e=>by
  obtain⟨_,_,R_⟩:=ha;refine (I.cz b ob e).tX (λc w' hc q=>(hs.2 c ?_).trans q) (λ_ q=>q) λ_ _ q=>q;rintro rfl;rcases hc with rfl | hc
  ·rw[R_]at e;cases e
  ·rw[R_]at hc;cases hc
 rcases hx with hk | hk
 ·refine wpAny_storeName_local hk hn (λh' hn' hs=>?_) adF;obtain⟨oL,_,_,hoL,_⟩:=id hn;refine h _ ⟨I.ok,I.os,I.bare,⟨λb o e n hb hx=>?_,λb o e n hb hx=>?_,I.base.free,λb o e hx=>?_,I.base.vJ,I.base.uM,I.base.vf⟩,⟨_,hn',λj y v' e1 e2 e3=>?_⟩,λy c e=>?_,I.free,I.pU,λp hp=>?_,tracked ⟨oL,hoL,I.free⟩ hs,by simpa using I.len⟩ ⟨_,hs,.inl rfl⟩
  ·exact (hs.2 b (gU (gR (gF e) I.ok.above))).trans (I.base.keep b o e n hb hx)
  ·obtain⟨sl,e1⟩:=I.base.slot b o e n hb hx;exact⟨sl,(hs.2 b (gU (gR (gF e) I.ok.above))).trans e1⟩
  ·obtain⟨o',e1⟩:=I.base.there b o e hx;exact⟨o',(hs.2 b (gU (gR (gF e) I.ok.above))).trans e1⟩
  ·by_cases hj:j=i
   ·subst hj;rw[hi]at e1;cases e1;rw[mL aet]at e2;cases e2;exact⟨u,r,.inl ⟨hk,by simp⟩⟩
   ·rw[mC (afv hj)]at e2;obtain⟨u',r',q⟩:=hl j y v' e1 e2 e3;refine⟨u',r',?_⟩;rcases q with⟨k,e⟩ | ⟨k,c,e,z⟩
    ·refine .inl ⟨k,?_⟩;have:y≠x:=λe=>hj (zo2 hN e1 (e ▸ hi));simp[this,e]
    ·exact .inr ⟨k,c,e,z.sameBut hs (Te y c e)⟩
  ·obtain⟨w',z⟩:=I.cell y c e;exact⟨w',z.sameBut hs (Te y c e)⟩
  ·obtain⟨e,n,ne,nf,d⟩:=I.pin p hp;exact⟨(hs.2 p.1 ne).trans e,n,ne,nf,d⟩
 ·have hfn:X.fn x=true:=by
   rcases hf with z | z
   ·exact z
   ·rw[z]at hk;cases hk
  obtain⟨c,hc⟩:=I.ok.has x (.inl hk);obtain⟨w',z⟩:=I.cell x c hc;refine wpAny_storeName_cell I.ok.kind hk hc z (λh' W_ hs=>?_);obtain⟨oc,WN,adq⟩:=id z;refine h { s with heap:=h' } ⟨I.ok,I.os,I.bare,⟨λb o e n hb hx=>?_,λb o e n hb hx=>?_,I.base.free,λb o e hx=>?_,I.base.vJ,I.base.uM,I.base.vf⟩,⟨m,hn.sameBut hs (afv (Te x c hc)),λj y v' e1 e2 e3=>?_⟩,λy c' e=>?_,I.free,I.pU,λp hp=>?_,tracked ⟨oc,WN,I.pU x c hc⟩ hs,by simpa using I.len⟩ ⟨c,hs,.inr hc⟩
  ·exact (hs.2 b (gU (gR (gF e) (I.ok.Tf x c hfn hc)))).trans (I.base.keep b o e n hb hx)
  ·obtain⟨sl,e1⟩:=I.base.slot b o e n hb hx;exact⟨sl,(hs.2 b (gU (gR (gF e) (I.ok.Tf x c hfn hc)))).trans e1⟩
  ·obtain⟨o',e1⟩:=I.base.there b o e hx;exact⟨o',(hs.2 b (gU (gR (gF e) (I.ok.Tf x c hfn hc)))).trans e1⟩
  ·by_cases hj:j=i
   ·subst hj;rw[hi]at e1;cases e1;rw[mL aet]at e2;cases e2;exact⟨u,r,.inr ⟨.inl hk,c,hc,W_⟩⟩
   ·rw[mC (afv hj)]at e2;obtain⟨u',r',q⟩:=hl j y v' e1 e2 e3;refine⟨u',r',?_⟩;rcases q with q | ⟨k,c',e,z'⟩
    ·exact .inl q
    ·refine .inr ⟨k,c',e,z'.sameBut hs ?_⟩;rintro rfl;exact hj (zo2 hN e1 (I.ok.inj _ _ _ e hc ▸ hi))
  ·by_cases hcc:c'=c
   ·subst hcc;exact⟨_,W_⟩
   ·obtain⟨w2,z2⟩:=I.cell y c' e;exact⟨w2,z2.sameBut hs hcc⟩
  ·obtain⟨e,n,ne,nf,d⟩:=I.pin p hp;refine⟨(hs.2 p.1 ?_).trans e,n,ne,nf,d⟩;intro q;rw[q,WN]at e;have q':oc=p.2:=afa e;exact d w' (by rw[<-q'];exact adq)
def zoy(I:Inv X pins σ H s)(hN:X.N.Nodup)(hi:X.N[i]? = some x)(hx:Loc X.env.scope x)(r:RelV v u) 
  (h:∀s',Inv X pins (σ.set i (some v)) H s'->Q () s') (hf:X.fn x=true\/X.env.scope.names.lookup x=some .local:=by first | exact .inl rfl | exact .inr rfl | assumption):wpAny M A (storeName X.env x u) Q E s :=
 zl5 I hN hi hx r (λs' I' _=>h s' I') hf
def Inv.abP(I:Inv X pins σ H s)(ho:s'.os=s.os)(u:Un (Dh X.stack) ch H H' s.heap s'.heap)(cz:qL X.prog X.w H' s'.heap)(hg:AllBare s'.gens) 
  (M9:∀b∈ch,(b∈X.ex\/X.aeY.heap.objs.size<=b)/\b≠X.env.locals/\(∀x c,X.env.cells.lookup x=some c->c≠b)/\∀p∈X.pn++pins,p.1≠b):Inv X pins σ H' s':=by
 obtain⟨h',g',d',t',o'⟩:=s';have e:o'=s.os:=ho;subst e;exact I.call (g':=g') (t':=t') (d':=d') u cz hg M9
end
noncomputable abbrev XK:=Value->Option Addr->Hp->Prop
noncomputable abbrev St:=List (Option V)
noncomputable abbrev VK:=V->Hp->Prop
noncomputable abbrev TE:=St->Hp->VK->Prop
noncomputable abbrev TT:=St->Hp->(Bool->Hp->Prop)->Prop
noncomputable abbrev TA:=St->Hp->(List V->Hp->Prop)->Prop
structure Ends where
 nx:St->Hp->Prop
 rt:VK
 bk:St->Hp->Prop:=λ_ _=>False
 ct:St->Hp->Prop:=λ_ _=>False
noncomputable abbrev TS:=Ends->St->Hp->Prop
def EP(X:Cx)(pins:List (Addr×Obj))(σ:St)(Q:VK)(u:Value)(s':Shared):Prop:=∃v H',Inv X pins σ H' s'/\RelV v u/\Q v H'
def TP(X:Cx)(pins:List (Addr×Obj))(σ:St)(Q:Bool->Hp->Prop)(b:Bool)(s':Shared):Prop:=∃H',Inv X pins σ H' s'/\Q b H'
def AP(X:Cx)(pins:List (Addr×Obj))(σ:St)(Q:List V->Hp->Prop)(us:List Value)(s':Shared):Prop:=∃vs H',Inv X pins σ H' s'/\Vals vs us/\Q vs H'
def SP(X:Cx)(pins:List (Addr×Obj))(D:Ends)(f:Flow)(s':Shared):Prop :=
 match f with
 | .next=>∃σ' H',Inv X pins σ' H' s'/\D.nx σ' H'
 | .brk=>∃σ' H',Inv X pins σ' H' s'/\D.bk σ' H'
 | .cont=>∃σ' H',Inv X pins σ' H' s'/\D.ct σ' H'
 | .ret u=>∃v σ' H',Inv X pins σ' H' s'/\RelV v u/\D.rt v H'
def PE(X:Cx)(e:Expr)(t:TE):Prop :=
 ∀(pins:List (Addr×Obj)) (s:Shared) (σ:St) (H:Hp) (Q:VK),Inv X pins σ H s->t σ H Q->wpAny (model X.prog X.w) X.A (eval e X.env) (EP X pins σ Q) X.xe s
def PT(X:Cx)(e:Expr)(t:TT):Prop :=
 ∀(pins:List (Addr×Obj)) (s:Shared) (σ:St) (H:Hp) (Q:Bool->Hp->Prop),Inv X pins σ H s->t σ H Q->wpAny (model X.prog X.w) X.A (isTrue e X.env (eval e X.env)) (TP X pins σ Q) X.xe s
def PW(X:Cx)(e:Expr)(t:TT):Prop :=
 ∀(whole:Sem Value) (pins:List (Addr×Obj)) (s:Shared) (σ:St) (H:Hp) (Q:Bool->Hp->Prop),Inv X pins σ H s->t σ H Q->wpAny (model X.prog X.w) X.A (isTrue e X.env whole) (TP X pins σ Q) X.xe s
def PW.pt(h:PW X e t):PT X e t:=h _
def PA(X:Cx)(es:List Expr)(t:TA):Prop :=
 ∀(pos:Pos) (pins:List (Addr×Obj)) (s:Shared) (σ:St) (H:Hp) (Q:List V->Hp->Prop),Inv X pins σ H s->t σ H Q->wpAny (model X.prog X.w) X.A (spliced (backTo pos (starEach es X.env))) (AP X pins σ Q) X.xe s
def PS(X:Cx)(st:Stmt)(t:TS):Prop :=
 ∀(pins:List (Addr×Obj)) (s:Shared) (σ:St) (H:Hp) (D:Ends),Inv X pins σ H s->t D σ H->wpAny (model X.prog X.w) X.A (exec st X.env) (SP X pins D) X.xe s
def zH(X:Cx)(st:List Stmt)(t:TS):Prop :=
 ∀(pins:List (Addr×Obj)) (s:Shared) (σ:St) (H:Hp) (D:Ends),Inv X pins σ H s->t D σ H->wpAny (model X.prog X.w) X.A (execs st X.env) (SP X pins D) X.xe s
def dO{α:Type}{t:Sem α}{Q Q':α->Shared->Prop}{M:Model}{A:Around}{E:Value->Shared->Prop}{s:Shared}(h:wpAny M A t Q E s)(hQ:∀a s,Q a s->Q' a s):wpAny M A t Q' E s:=afr h hQ λ_ _ x=>x
section
variable  {X:Cx}
noncomputable def acg(i:Nat):TE:=fun σ H Q=>∃v,σ[i]? = some (some v)/\Q v H
noncomputable def tC(v:V):TE:=λ_ H Q=>Q v H
def Jo(hN:X.N[i]? = some x)(hv:Vis X.env.scope x)(hd:(x==("__debug__":Str))=false:=by decide)(yD:(x==("__classdict__":Str))=false:=by decide):PE X (.Name x pos) (acg i):=by
 intro pins s σ H Q I h;obtain⟨v,e,h⟩:=h;obtain⟨m,hn,hl⟩:=I.loc;obtain⟨u,r,l⟩:=hl i x v hN e hv;have fin:EP X pins σ Q u s:=⟨v,H,I,r,h⟩;rcases l with⟨hk,hm⟩ | ⟨hk,c,hc,Sq⟩
 ·exact wpAny_Name (wpAny_loadName_local I.ok.kind hk hn hm fin) hd
 ·rcases hk with hk | hk
  ·exact wpAny_Name (wpAny_loadName_cell I.ok.kind hk hc Sq fin) hd
  ·exact wpAny_Name (wpAny_loadName_free I.ok.kind hk hc Sq fin yD) hd
def Vv{i j pos}:PE X (.Constant (.int i) j pos) (tC (.int i)):=λ_ _ _ H _ I h=>wpAny_Constant_int ⟨.int i,H,I.tok _,⟨_,rfl⟩,h⟩
def aaU{b j pos}:PE X (.Constant (.bool b) j pos) (tC (.bl b)):=λ_ _ _ H _ I h=>Constant_bool ⟨.bl b,H,I,rfl,h⟩
def Vs{j pos}:PE X (.Constant .none j pos) (tC .non):=λ_ _ _ H _ I h=>Constant_none ⟨.non,H,I,rfl,h⟩
def Vp{x j pos}:PE X (.Constant (.str x) j pos) (tC (.str x)):=λ_ _ _ H _ I h=>Calls.Constant_str ⟨.str x,H,I.tok _,⟨_,rfl⟩,h⟩
def Gl(X:Cx)(x:Str):Prop:=X.env.kindOf x=some .globalImplicit
def zma(I:Inv X pins σ H s)(hg:Gl X x)(hm:X.mg x=some u)(h:Q u s) 
  (hd:(x==("__debug__":Str))=false:=by decide):wpAny (model X.prog X.w) X.A (eval (.Name x pos) X.env) Q E s :=
 Calls.Name_function_global I.ok.kind hg (Calls.loadGlobal_global (by rw[I.ok.glob];exact I.mod.glob.keeps I.bk) hm h) hd
def Tv(I:Inv X pins σ H s)(hg:Gl X x)(hm:X.mg x=none)(hv:bootBuiltins x=some u)(h:Q u s) 
  (hn:x ≠ "__name__":=by decide) (hd:(x==("__debug__":Str))=false:=by decide):wpAny (model X.prog X.w) X.A (eval (.Name x pos) X.env) Q E s:=by
 obtain⟨mb,h1,h2⟩:=I.mod.blt;exact Calls.Name_function_global I.ok.kind hg (Calls.loadGlobal_builtin (by rw[I.ok.glob];exact I.mod.glob.keeps I.bk) hm (by rw[I.ok.blt];exact h1.keeps I.bk) ((h2 x hn).trans hv) h) hd
def Pj(hg:Gl X x)(hm:X.mg x=some u)(r:RelV v u)(hd:(x==("__debug__":Str))=false:=by decide):PE X (.Name x pos) (tC v) :=
 λ_ _ _ H _ I h=>zma I hg hm ⟨v,H,I,r,h⟩ hd
variable  {a b:Expr}{ta tb:TE}{pos:Pos}
variable  {tA tB':TT}{rest:List Expr}
noncomputable def acu(t u:TT):TT:=fun σ H Q=>t σ H λc H1=>if c=true then u σ H1 Q else Q false H1
noncomputable def tOr(t u:TT):TT:=fun σ H Q=>t σ H λc H1=>if c=true then Q true H1 else u σ H1 Q
def Ox(ha:PT X a tA):PW X (.BoolOp .And [a] pos) tA:=by
 intro wh pins s σ H Q I h;refine isTrue_and (dO (ha pins s σ H Q I h) λc s1 e=>?_);cases c with
 | true=>exact isTrue_and_nil e
 | false=>exact e
def Vd(ha:PT X a tA):PW X (.BoolOp .Or [a] pos) tA:=by
 intro wh pins s σ H Q I h;refine isTrue_or (dO (ha pins s σ H Q I h) λc s1 e=>?_);cases c with
 | false=>exact isTrue_or_nil e
 | true=>exact e
def Ve(ha:PT X a tA)(hb:PW X (.BoolOp .And (b::rest) pos) tB'):PW X (.BoolOp .And (a::b::rest) pos) (acu tA tB'):=by
 intro wh pins s σ H Q I h;refine isTrue_and (dO (ha pins s σ H _ I h) λc s1 zz=>?_);obtain⟨H1,I1,q1⟩:=zz;cases c with
 | true=>exact hb wh pins s1 σ H1 Q I1 q1
 | false=>exact⟨H1,I1,q1⟩
def aaL(ha:PT X a tA)(hb:PW X (.BoolOp .Or (b::rest) pos) tB'):PW X (.BoolOp .Or (a::b::rest) pos) (tOr tA tB'):=by
 intro wh pins s σ H Q I h;refine isTrue_or (dO (ha pins s σ H _ I h) λc s1 zz=>?_);obtain⟨H1,I1,q1⟩:=zz;cases c with
 | true=>exact⟨H1,I1,q1⟩
 | false=>exact hb wh pins s1 σ H1 Q I1 q1
def Vr{op}(h:PE X a t):PE X (.BoolOp op [a] pos) t:=λpins s σ H Q I hw=>BoolOp_one (h pins s σ H Q I hw)
noncomputable def tIf(t:TT)(ta tb:TE):TE:=fun σ H Q=>t σ H λc H1=>if c=true then ta σ H1 Q else tb σ H1 Q
def Jq{c:Expr}(hc:PT X c tA)(ha:PE X a ta)(hb:PE X b tb):PE X (.IfExp c a b pos) (tIf tA ta tb):=by
 intro pins s σ H Q I h;refine wpAny_IfExp (dO (hc pins s σ H _ I h) λd s1 zz=>?_);obtain⟨H1,I1,q1⟩:=zz;cases d with
 | true=>exact ha pins s1 σ H1 Q I1 q1
 | false=>exact hb pins s1 σ H1 Q I1 q1
end
def rO(K:PySem.W.Frag)(H:Hp)(a:Addr)(xs:List V):Prop :=
 Rd H a (.lst xs) \/
  ∃(o:Obj) (its:Array Value) (n:Nat),K.lookup a=some o/\o.cls=.type "list"/\o.dict=none/\o.data=.seq its n/\its.size<=sizeLine/\Vals xs its.toList
def tU(K:PySem.W.Frag)(H:Hp)(a:Addr)(xs:List V):Prop :=
 Rd H a (.tup xs) \/
  ∃(o:Obj) (its:Array Value) (n:Nat),K.lookup a=some o/\o.cls=.type "tuple"/\o.data=.seq its n/\its.size<=sizeLine/\Vals xs its.toList
noncomputable def ad8:Value->Option V
 | .none=>some .non
 | .bool b=>some (.bl b)
 | .int i _=>some (.int i)
 | .str x _=>some (.str x)
 | .bytes b _=>some (.byt b)
 | .float b _=>some (.flt b)
 | .ref a=>some (.ref a)
 | .type n=>some (.ty n)
 | _=>none
def RelV.abs(r:RelV x u):ad8 u=some x:=by
 cases x with
 | non=>cases r;rfl
 | bl _=>cases r;rfl
 | int _=>obtain⟨t,rfl⟩:=r;rfl
 | str _=>obtain⟨t,rfl⟩:=r;rfl
 | byt _=>obtain⟨t,rfl⟩:=r;rfl
 | flt _=>obtain⟨t,rfl⟩:=r;rfl
 | ref _=>cases r;rfl
 | ty _=>cases r;rfl
def RelV.inj{x y:V}{u:Value}(r:RelV x u)(q:RelV y u):x=y:=afa (r.abs.symm.trans q.abs)
theorem Vals.inj:∀{xs ys:List V} {us:List Value},Vals xs us->Vals ys us->xs=ys
 | _,_,_,.nil,.nil=>rfl
 | _,_,_,.cons r t,.cons r' t'=>by rw[r.inj r',Vals.inj t t']
section
variable  {X:Cx}{pins:List (Addr×Obj)}{σ:St}{H:Hp}{s:Shared}{a:Addr}{xs ys:List V}
def rO.of{K:PySem.W.Frag}(h:H a=some (.lst xs)):rO K H a xs:=.inl (.inl h)
def tU.of{K:PySem.W.Frag}(h:H a=some (.tup xs)):tU K H a xs:=.inl (.inl h)
def Inv.list(I:Inv X pins σ H s)(h:rO X.K H a xs):∃its:List Value,Vals xs its/\PlainL s.heap a its.toArray/\xs.length<=sizeLine:=by
 rcases h with h | ⟨o,its,n,hk,hc,hd,hs,hz,r⟩
 ·obtain⟨z,its,n,r,e⟩:=h.ok I.cz;exact⟨its,r,⟨_,n,e,rfl,rfl,rfl⟩,z⟩
 ·refine⟨its.toList,r,⟨o,n,I.zN a o hk,hc,hd,by simpa using hs⟩,?_⟩;have e:=r.length;simp only[mO]at e;omega
def Inv.tuple(I:Inv X pins σ H s)(h:tU X.K H a xs):∃its:List Value,Vals xs its/\IsTup s.heap a its.toArray/\xs.length<=sizeLine:=by
 rcases h with h | ⟨o,its,n,hk,hc,hs,hz,r⟩
 ·obtain⟨z,its,r,p⟩:=h.ok I.cz;exact⟨its,r,p,z⟩
 ·refine⟨its.toList,r,⟨o,I.zN a o hk,hc,n,by simpa using hs⟩,?_⟩;have e:=r.length;simp only[mO]at e;omega
def Inv.zg(I:Inv X pins σ H s)(h:rO X.K H a xs)(h':rO X.K H a ys):xs=ys:=by
 obtain⟨its,r,⟨o,n,e,_,_,d⟩,_⟩:=I.list h;obtain⟨its',r',⟨o',n',e',_,_,d'⟩,_⟩:=I.list h';rw[e]at e';cases e';rw[d]at d';injection d' with d1 _;have:its=its':=by simpa using congrArg Array.toList d1
 subst this;exact r.inj r'
def Inv.xH(I:Inv X pins σ H s)(h:tU X.K H a xs)(h':tU X.K H a ys):xs=ys:=by
 obtain⟨its,r,⟨o,e,_,n,d⟩,_⟩:=I.tuple h;obtain⟨its',r',⟨o',e',_,n',d'⟩,_⟩:=I.tuple h';rw[e]at e';cases e';rw[d]at d';injection d' with d1 _;have:its=its':=by simpa using congrArg Array.toList d1
 subst this;exact r.inj r'
end
noncomputable abbrev Cx.wish(X:Cx)(E:Value->Shared->Prop):Cx:={ X with xe:=E }
noncomputable abbrev Cx.MJ(X:Cx):Cx:=X.wish λ_ _=>False
def Cx.Ok.wish{X:Cx}(ok:X.Ok)(E:Value->Shared->Prop):(X.wish E).Ok :=
 ⟨ok.mod,ok.kind,ok.glob,ok.blt,ok.above,ok.inj,ok.has,ok.Tf,ok.hd,ok.frames,ok.Yu,ok.exf,ok.bs,ok.GZ,ok.Ft,ok.Lg,ok.sE,ok.Lb⟩
def Cx.Ok.qR{X:Cx}{E:Value->Shared->Prop}(ok:(X.wish E).Ok):X.Ok :=
 ⟨ok.mod,ok.kind,ok.glob,ok.blt,ok.above,ok.inj,ok.has,ok.Tf,ok.hd,ok.frames,ok.Yu,ok.exf,ok.bs,ok.GZ,ok.Ft,ok.Lg,ok.sE,ok.Lb⟩
section
variable  {X:Cx}{pins:List (Addr×Obj)}{σ:St}{H:Hp}{s:Shared}{E:Value->Shared->Prop}
def Inv.wish(I:Inv X pins σ H s)(E:Value->Shared->Prop):Inv (X.wish E) pins σ H s:=⟨I.ok.wish E,I.os,I.bare,I.base,I.loc,I.cell,I.free,I.pU,I.pin,I.cz,I.len⟩
def Inv.qR(I:Inv (X.wish E) pins σ H s):Inv X pins σ H s:=⟨I.ok.qR,I.os,I.bare,I.base,I.loc,I.cell,I.free,I.pU,I.pin,I.cz,I.len⟩
def SP.qR(h:SP (X.wish E) pins D f s'):SP X pins D f s':=by
 cases f with
 | next=>obtain⟨σ',H',I,q⟩:=h;exact⟨σ',H',I.qR,q⟩
 | brk=>obtain⟨σ',H',I,q⟩:=h;exact⟨σ',H',I.qR,q⟩
 | cont=>obtain⟨σ',H',I,q⟩:=h;exact⟨σ',H',I.qR,q⟩
 | ret u=>obtain⟨v,σ',H',I,r,q⟩:=h;exact⟨v,σ',H',I.qR,r,q⟩
def zH.MJ{st:List Stmt}{t:TS}(h:zH X.MJ st t):zH X st t:=λpins s σ H D I hw =>
 afr (h pins s σ H D (I.wish _) hw) (λ_ _ q=>q.qR) λ_ _ z=>False.elim z
end
section
variable  {X:Cx}{st:Stmt}{rest:List Stmt}{t u:TS}{e:Expr}{te:TE}{pos:Pos}
noncomputable def aaj:TS:=λD σ H=>D.nx σ H
noncomputable def aci(t u:TS):TS:=λD σ H=>t { D with nx:=u D } σ H
def O4:zH X [] aaj:=λ_ _ σ H _ I h=>wpAny_execs_nil ⟨σ,H,I,h⟩
def Jf(h1:PS X st t)(h2:zH X rest u):zH X (st::rest) (aci t u):=by
 intro pins s σ H D I h;refine wpAny_execs_cons (dO (h1 pins s σ H { D with nx:=u D } I h) λf s1 q=>?_);cases f with
 | next =>
  obtain⟨σ',H',I',q⟩:=q;exact h2 pins s1 σ' H' D I' q
 | ret v=>exact q
 | brk=>exact q
 | cont=>exact q
def OJ(h1:PS X st t):zH X [st] t:=by
 intro pins s σ H D I h;refine wpAny_execs_cons (dO (h1 pins s σ H D I h) λf s1 q=>?_);cases f with
 | next=>exact wpAny_execs_nil q
 | ret v=>exact q
 | brk=>exact q
 | cont=>exact q
noncomputable def UJ:TS:=λD σ H=>D.bk σ H
def Jh:PS X (.Break pos) UJ:=λ_ _ σ H _ I h=>wpAny_Break ⟨σ,H,I,h⟩
def Inv.quiet(I:Inv X pins σ H s):interactive X.env=false:=by simp[interactive,I.ok.kind]
noncomputable def aan(te:TE):TS:=λD σ H=>te σ H λ_ H1=>D.nx σ H1
def O5(he:PE X e te)(hs:swapsWith e none pos.line X.env=pure false:=by rfl):PS X (.Expr e pos) (aan te):=by
 intro pins s σ H D I h;refine wpAny_Expr_any (dO (he pins s σ H _ I h) λv s1 zz=>?_) I.quiet hs;obtain⟨x,H1,I1,r1,q1⟩:=zz;exact⟨σ,H1,I1,q1⟩
noncomputable def acj(te:TE):TS:=λD σ H=>te σ H D.rt
def Vg(he:PE X e te):PS X (.Return (some e) pos) (acj te):=by
 intro pins s σ H D I h;refine wpAny_Return_some (dO (he pins s σ H _ I h) λv s1 zz=>?_);obtain⟨x,H1,I1,r1,q1⟩:=zz;exact⟨x,σ,H1,I1,r1,q1⟩
noncomputable def acq(c:TT)(t u:TS):TS:=λD σ H=>c σ H λb H1=>if b=true then t D σ H1 else u D σ H1
def aaM{c:Expr}{a b:List Stmt}{tc:TT}(hc:PT X c tc)(ha:zH X a t)(hb:zH X b u):PS X (.If c a b pos) (acq tc t u):=by
 intro pins s σ H D I h;refine wpAny_If (dO (hc pins s σ H _ I h) λd s1 zz=>?_);obtain⟨H1,I1,q1⟩:=zz;cases d with
 | true=>exact ha pins s1 σ H1 D I1 q1
 | false=>exact hb pins s1 σ H1 D I1 q1
end
noncomputable abbrev TG:=V->St->Hp->(St->Hp->Prop)->Prop
noncomputable abbrev Ti:=List V->St->Hp->(St->Hp->Prop)->Prop
def PG(X:Cx)(target:Expr)(t:TG):Prop :=
 ∀(pins:List (Addr×Obj)) (s:Shared) (σ:St) (H:Hp) (v:V) (u:Value) (Q:St->Hp->Prop),Inv X pins σ H s->RelV v u->t v σ H Q ->
  wpAny (model X.prog X.w) X.A (assign target X.env u) (λ_ s'=>∃σ' H',Inv X pins σ' H' s'/\Q σ' H') X.xe s
def Zo(X:Cx)(ts:List Expr)(t:Ti):Prop :=
 ∀(pins:List (Addr×Obj)) (s:Shared) (σ:St) (H:Hp) (vs:List V) (us:List Value) (Q:St->Hp->Prop),Inv X pins σ H s->Vals vs us->t vs σ H Q ->
  wpAny (model X.prog X.w) X.A (assignInOrder ((assignEach ts X.env).map (·.2)) us) (λ_ s'=>∃σ' H',Inv X pins σ' H' s'/\Q σ' H') X.xe s
noncomputable abbrev Mi:=V->V->V->Hp->(Hp->Prop)->Prop
def xu(X:Cx)(t:Mi):Prop :=
 ∀(pins:List (Addr×Obj)) (s:Shared) (σ:St) (H:Hp) (o i v:V) (ov iv u:Value) (Q:Hp->Prop),Inv X pins σ H s->RelV o ov->RelV i iv->RelV v u->t o i v H Q ->
  wpAny (model X.prog X.w) X.A (setItem ov iv u) (λ_ s'=>∃H',Inv X pins σ H' s'/\Q H') X.xe s
section
variable  {X:Cx}{pos:Pos}
noncomputable def Dg(i:Nat):TG:=λv σ H Q=>Q (σ.set i (some v)) H
def Pb(hN:X.N.Nodup)(hi:X.N[i]? = some x)(hx:Loc X.env.scope x)(hf:X.fn x=true\/X.env.scope.names.lookup x=some .local:=by first | exact .inl rfl | exact .inr rfl | assumption):PG X (.Name x pos) (Dg i):=by
 intro pins s σ H v u Q I r h;exact wpAny_assign_Name (zoy I hN hi hx r (λs' I'=>⟨_,H,I',h⟩) hf)
noncomputable def adN:Ti:=λvs σ H Q=>vs=[]/\Q σ H
noncomputable def abC(t:TG)(u:Ti):Ti:=λvs σ H Q=>∃v r,vs=v::r/\t v σ H fun σ' H'=>u r σ' H' Q
def Pa:Zo X [] adN:=by
 intro pins s σ H vs us Q I r h;obtain⟨e,h⟩:=h;subst e;cases r;exact assignInOrder_nil ⟨σ,H,I,h⟩
def Jm{e:Expr}{es:List Expr}{t:TG}{u:Ti}(h1:PG X e t)(h2:Zo X es u)
  (hs:(assignEach (e::es) X.env).map (·.2)=assign e X.env::(assignEach es X.env).map (·.2):=by rfl):Zo X (e::es) (abC t u):=by
 intro pins s σ H vs us Q I r h;obtain⟨v,vr,e1,h⟩:=h;subst e1;cases r with
 | cons r rr =>
  rw[hs];refine assignInOrder_cons (dO (h1 pins s σ H _ _ _ I r h) λ_ s1 zz=>?_);obtain⟨σ1,H1,I1,q1⟩:=zz;exact h2 pins s1 σ1 H1 _ _ Q I1 rr q1
noncomputable def adL(K:PySem.W.Frag)(n:Nat)(t:Ti):TG:=λv σ H Q=>∃a xs,v=.ref a/\tU K H a xs/\xs.length=n/\t xs σ H Q
def Vm(hc:X.calm=true)(h:Zo X es t) 
  (hn:(assignEach es X.env).length=n:=by rfl) (Hm:(assignEach es X.env).findIdx? (·.1)=none:=by rfl):PG X (.Tuple es k pos) (adL X.K n t):=by
 intro pins s σ H v u Q I r hw;obtain⟨a,xs,e1,hq,hl,hw⟩:=hw;subst e1;cases r;obtain⟨its,rv,ht,hz⟩:=I.tuple hq;refine assign_Tuple_tuple (I.ok.hd hc) ht (by simp[hn,<-hl,rv.length]) Hm λh' hx=>?_;have I1:Inv X pins σ H { s with heap:=h' }:=I.kept (t':=s.toks) λb o e=>hx b o (gU (gF e)) e;exact h pins _ σ H xs _ Q I1 (by simpa using rv) hw
noncomputable def adM(to ti:TE)(t:Mi):TG:=λv σ H Q=>to σ H λo H1=>ti σ H1 λi H2=>t o i v H2 λH3=>Q σ H3
def Vn{o i:Expr}{to ti:TE}{t:Mi}(ho:PE X o to)(hi:PE X i ti)(hs:xu X t)
  (ha:∀v,assign (.Subscript o i pos) X.env v=(do
   let ov <-holding [v] (eval o X.env)
   let iv <-holding [v,ov] (eval i X.env)
   standAt pos
   holding [v,ov,iv] (setItem ov iv v)
   release [v,ov,iv] []):=by intro _;rfl):PG X (.Subscript o i pos) (adM to ti t):=by
 intro pins s σ H v u Q I r h;rw[ha];refine ae7 (afi (dO (ho pins s σ H _ I h) λov s1 zz=>?_));obtain⟨x,H1,I1,r1,q1⟩:=zz;refine ae7 (afi (dO (hi pins s1 σ H1 _ I1 q1) λiv s2 zz=>?_));obtain⟨y,H2,I2,r2,q2⟩:=zz;refine ae7 (wpAny_standAt (ae7 (afi (dO (hs pins s2 σ H2 x y v ov iv u _ I2 r1 r2 r q2) λ_ s3 zz=>?_))));obtain⟨H3,I3,q3⟩:=zz;exact wpAny_release ⟨σ,H3,I3,q3⟩
noncomputable def UL(te:TE)(g:TG):TS:=λD σ H=>te σ H λx H1=>g x σ H1 D.nx
def Vj{tg e:Expr}{te:TE}{g:TG}(he:PE X e te)(hg:PG X tg g)(hs:swapsWithSole [tg] e pos.line X.env=pure false:=by rfl)(hw:swappedStores [tg] e X.env=pure none:=by rfl)
  (h1:(assignEach [tg] X.env).map (·.2)=[assign tg X.env]:=by rfl):PS X (.Assign [tg] e pos) (UL te g):=by
 intro pins s σ H D I h;refine wpAny_Assign_stores (dO (he pins s σ H _ I h) λv s1 zz=>?_) hs hw;obtain⟨x,H1,I1,r1,q1⟩:=zz;rw[h1];exact dO (hg pins s1 σ H1 x v _ I1 r1 q1) λ_ s2 q=>q
def Vf{i:Nat}{x:Str}{e:Expr}{te:TE}{pos':Pos}(hN:X.N.Nodup)(hi:X.N[i]? = some x)(hx:Loc X.env.scope x)(he:PE X e te)(hs:swapsWith e (some (.Name x pos')) pos.line X.env=pure false:=by rfl)(hf:X.fn x=true\/X.env.scope.names.lookup x=some .local:=by first | exact .inl rfl | exact .inr rfl | assumption) :
  PS X (.Assign [.Name x pos'] e pos) (UL te (Dg i)):=by
 intro pins s σ H D I h;refine wpAny_Assign_Name (dO (he pins s σ H _ I h) λv s1 zz=>?_) hs;obtain⟨y,H1,I1,r1,q1⟩:=zz;exact zoy I1 hN hi hx r1 (λs2 I2=>⟨_,H1,I2,q1⟩) hf
end
section
variable  {X:Cx}{pos:Pos}
noncomputable def Ux(c:TT)(tb:TS):TS:=λD σ H=>∃W:Nat->St->Hp->Prop,(∃m,W m σ H)/\∀m σ H,W m σ H ->
 c σ H λb H1=>if b=true then ∃N:St->Hp->Prop,(∀σ' H',N σ' H'->∃m',m'<m/\W m' σ' H')/\tb { D with nx:=N,ct:=N,bk:=D.nx } σ H1 else D.nx σ H1
def Jg{c:Expr}{body:List Stmt}{tc:TT}{tb:TS}(hp:PassesOwn (model X.prog X.w) X.A X.env X.xe)(hc:PT X c tc)(hb:zH X body tb):PS X (.While c body [] pos) (Ux tc tb):=by
 intro pins s σ H D I h;obtain⟨W,⟨m0,w0⟩,turn⟩:=h;refine wpAny_While (codeAny_whileLoop (λn s'=>∃σ' H',Inv X pins σ' H' s'/\W n σ' H') ?_ m0 ⟨σ,H,I,w0⟩);rintro n s1 ⟨σ1,H1,I1,w1⟩;refine afB hp (dO (hc pins s1 σ1 H1 _ I1 (turn n σ1 H1 w1)) λb s2 zz=>?_);obtain⟨H2,I2,q2⟩:=zz;cases b with
 | true =>
  obtain⟨N,hN,q2⟩:=q2;rw[ae9 rfl];refine afB hp (dO (hb pins s2 σ1 H2 _ I2 q2) λf s3 q3=>?_);cases f with
  | next =>
   obtain⟨σ3,H3,I3,n3⟩:=q3;obtain⟨m',hm,w3⟩:=hN σ3 H3 n3;exact⟨m',hm,σ3,H3,I3,w3⟩
  | cont =>
   obtain⟨σ3,H3,I3,n3⟩:=q3;obtain⟨m',hm,w3⟩:=hN σ3 H3 n3;exact⟨m',hm,σ3,H3,I3,w3⟩
  | brk=>exact q3
  | ret v=>exact q3
 | false =>
  rw[ae_ mQ];exact wpAny_execs_nil ⟨σ1,H2,I2,q2⟩
end
structure It where
 go:Nat->Hp->Prop
 yld:Nat->Hp->V->Hp->Prop
 stop:Nat->Hp->Prop
def qM(X:Cx)(pins:List (Addr×Obj))(H:Hp)(b:Addr):Prop :=
 H b=none/\b≠X.env.locals/\b∉X.fs/\(b∈X.ex\/X.aeY.heap.objs.size<=b)/\(∀x c,X.env.cells.lookup x=some c->c≠b)/\∀p∈X.pn++pins,p.1≠b
def Inv.yH(I:Inv X pins σ H s)(hb:s.heap.objs.size<=b)(hn:H' b=none):qM X pins H' b:=by
 refine⟨hn,mY (gR I.lt hb),I.ac0 hb,.inr (kO I.sz hb),λx c e z=>?_,λp hp z=>?_⟩
 ·obtain⟨v,q⟩:=I.cell x c e;exact absurd (gR q.lt (by rw[z];exact hb)) (mK _)
 ·exact absurd (gR (gF (I.pin p hp).1) (by rw[z];exact hb)) (mK _)
structure Turn(P:Program)(w:World)(K:PySem.W.Frag)(tg:Expr)(J:It)(fp:List Addr)(it:Addr)(tn:Nat->Heap->Prop):Prop where
 mem:it∈fp
 obj:∀i h,tn i h->∀b∈fp,∃o,h.get? b=some o/\∀v,o.data≠.cell v
 keep:∀i h h',tn i h->(∀b∈fp,∀o,h.get? b=some o->h'.get? b=some o)->tn i h'
 item:∀(X:Cx),X.prog=P->X.w=w->X.K=K->X.calm=true->∀(i:Nat) (pins:List (Addr×Obj)) (s:Shared) (σ:St) (H:Hp) (E:Value->Shared->Prop),Inv X pins σ H s->(∀b∈fp,qM X pins H b)->tn i s.heap->J.go i H ->
  wpAny (model P w) X.A (pyNext (.ref it)) (λr s1=>∃u,r=some u /\
   wpAny (model P w) X.A (letOwnedTupleGo tg (.ref it) u) (λ_ s2=>∃x H',Inv X pins σ H' s2/\RelV x u/\J.yld i H x H'/\tn (i+1) s2.heap/\∀b∈fp,H' b=none) E s1) E s
 done:∀(X:Cx),X.prog=P->X.w=w->X.K=K->X.calm=true->∀(i:Nat) (pins:List (Addr×Obj)) (s:Shared) (σ:St) (H:Hp) (E:Value->Shared->Prop),Inv X pins σ H s->(∀b∈fp,qM X pins H b)->tn i s.heap->J.stop i H ->
  wpAny (model P w) X.A (pyNext (.ref it)) (λr s1=>r=none/\Inv X pins σ H s1) E s
 self:∀(A:Around) (i:Nat) (s:Shared) (Q:Value->Shared->Prop) (E:Value->Shared->Prop),tn i s.heap->Q (.ref it) s->wpAny (model P w) A (pyIter (.ref it)) Q E s
noncomputable abbrev TI:=St->Hp->(It->Hp->Prop)->Prop
def PIE(X:Cx)(pins:List (Addr×Obj))(σ:St)(tg:Expr)(R:It->Hp->Prop)(itv:Value)(s2:Shared):Prop :=
 ∃(it:Addr) (fp:List Addr) (tn:Nat->Heap->Prop) (J:It) (H':Hp),itv=.ref it/\Inv X pins σ H' s2/\Turn X.prog X.w X.K tg J fp it tn/\tn 0 s2.heap/\(∀b∈fp,qM X pins H' b)/\R J H'
def PI(X:Cx)(tg iter:Expr)(wi:TI):Prop :=
 ∀(pins:List (Addr×Obj)) (s:Shared) (σ:St) (H:Hp) (R:It->Hp->Prop),Inv X pins σ H s->wi σ H R ->
  wpAny (model X.prog X.w) X.A (eval iter X.env) (λv s1=>wpAny (model X.prog X.w) X.A (pyIter v) (PIE X pins σ tg R) X.xe s1) X.xe s
def xR(ho:s.heap.get? it=some o)(hc:o.cls=.type n)(hd:o.data=.fields vs) 
  (hn:["enumerate","zip","dict_itemiterator","dict_reverseitemiterator","odict_iterator","itertools.zip_longest","itertools.pairwise"].contains n=false) (hQ:Q () s):wpAny M A (letOwnedTupleGo tg (.ref it) u) Q E s:=by
 unfold letOwnedTupleGo;cases tg<;>first
  | exact ae8 hQ
  | (cases u<;>first
    | exact ae8 hQ
    | (refine ae7 (wpAny_load ho ?_)
       rw[hc,hd];show wpAny M A (if (["enumerate","zip","dict_itemiterator","dict_reverseitemiterator","odict_iterator","itertools.zip_longest","itertools.pairwise"].contains n && vs[0]? == some (rawInt _))=true then _ else _) Q E s;rw[ae_ (by intro h;rw[hn,Bool.false_and]at h;cases h)];exact ae8 hQ))
noncomputable def Itl(K:PySem.W.Frag)(a:Addr):It :=
 ⟨λi H=>∃xs x,rO K H a xs/\xs[i]? = some x,λi H x H'=>H'=H/\∀xs,rO K H a xs->xs[i]? = some x,λi H=>∃xs,rO K H a xs/\xs.length<=i⟩
noncomputable def Itt(K:PySem.W.Frag)(a:Addr):It :=
 ⟨λi H=>∃xs x,tU K H a xs/\xs[i]? = some x,λi H x H'=>H'=H/\∀xs,tU K H a xs->xs[i]? = some x,λi H=>∃xs,tU K H a xs/\xs.length<=i⟩
noncomputable def Itr(lo:Int)(n:Nat):It:=⟨λi _=>i<n,λi H x H'=>H'=H/\x=.int (lo+i),λi _=>n<=i⟩
def Eb{P:Program}{w:World}{K:PySem.W.Frag}{tg:Expr}(a it:Addr):Turn P w K tg (Itl K a) [it] it (λi h=>h.IsListIter it a i) where
 mem:=by simp
 obj:=λi h st b hb=>by
  have e:b=it:=by simpa using hb
  subst e;obtain⟨o,e,c,d⟩:=st;exact⟨o,e,λv z=>by rw[d]at z;cases z⟩
 keep:=λi h h' st k=>st.at λo e=>k it (by simp) o e
 item:=by
  intro X hP hw hK hc i pins s σ H E I hf st hg;subst hP hw hK;obtain⟨xs,x,hq,hx⟩:=hg;obtain⟨its,rv,p,hz⟩:=I.list hq;obtain⟨u,hu,ru⟩:=rv.get hx;obtain⟨f0,f1,f2,f3,f4,f5⟩:=hf it (by simp);refine wpAny_pyNext_list_item st p.isList (x:=u) (by simpa using hu) λh' st' sb=>?_;have I1:Inv X pins σ H { s with heap:=h' }:=I.turned (t':=s.toks) (λb o hb e=>(sb.2 b hb).trans e) f0 f1 f3 f4 f5;obtain⟨o,e,c,d⟩:=id st';exact⟨u,rfl,xR (s:={ s with heap:=h' }) e c d (by decide) ⟨x,H,I1,ru,⟨rfl,λys hy=>by rw[I.zg hy hq];exact hx⟩,st',λb hb=>(hf b hb).1⟩⟩
 done:=by
  intro X hP hw hK hc i pins s σ H E I hf st hg;subst hP hw hK;obtain⟨xs,hq,hx⟩:=hg;obtain⟨its,rv,p,hz⟩:=I.list hq;obtain⟨f0,f1,f2,f3,f4,f5⟩:=hf it (by simp);have hl:=rv.length;exact wpAny_pyNext_list_end (I.ok.hd hc) st p.isList (by simp;omega) λh' eb=>⟨rfl,I.turned (t':=s.toks) (λb o hb e=>eb b o hb e) f0 f1 f3 f4 f5⟩
 self:=λ_ _ _ _ _ st h=>wpAny_pyIter_listiter st h
def zno{P:Program}{w:World}{K:PySem.W.Frag}{tg:Expr}(a it:Addr):Turn P w K tg (Itt K a) [it] it (λi h=>h.IsTupleIter it a i) where
 mem:=by simp
 obj:=λi h st b hb=>by
  have e:b=it:=by simpa using hb
  subst e;obtain⟨o,e,c,d⟩:=st;exact⟨o,e,λv z=>by rw[d]at z;cases z⟩
 keep:=λi h h' st k=>st.at λo e=>k it (by simp) o e
 item:=by
  intro X hP hw hK hc i pins s σ H E I hf st hg;subst hP hw hK;obtain⟨xs,x,hq,hx⟩:=hg;obtain⟨its,rv,p,hz⟩:=I.tuple hq;obtain⟨u,hu,ru⟩:=rv.get hx;obtain⟨f0,f1,f2,f3,f4,f5⟩:=hf it (by simp);refine wpAny_pyNext_tuple_item st (show s.heap.IsTuple a its.toArray from p) (x:=u) (by simpa using hu) λh' st' sb=>?_;have I1:Inv X pins σ H { s with heap:=h' }:=I.turned (t':=s.toks) (λb o hb e=>(sb.2 b hb).trans e) f0 f1 f3 f4 f5;obtain⟨o,e,c,d⟩:=id st';exact⟨u,rfl,xR (s:={ s with heap:=h' }) e c d (by decide) ⟨x,H,I1,ru,⟨rfl,λys hy=>by rw[I.xH hy hq];exact hx⟩,st',λb hb=>(hf b hb).1⟩⟩
 done:=by
  intro X hP hw hK hc i pins s σ H E I hf st hg;subst hP hw hK;obtain⟨xs,hq,hx⟩:=hg;obtain⟨its,rv,p,hz⟩:=I.tuple hq;obtain⟨f0,f1,f2,f3,f4,f5⟩:=hf it (by simp);have hl:=rv.length;exact wpAny_pyNext_tuple_end (I.ok.hd hc) st (show s.heap.IsTuple a its.toArray from p) (by simp;omega) λh' eb=>⟨rfl,I.turned (t':=s.toks) (λb o hb e=>eb b o hb e) f0 f1 f3 f4 f5⟩
 self:=λ_ _ _ _ _ st h=>wpAny_pyIter_tupleiter st h
def zph{P:Program}{w:World}{K:PySem.W.Frag}{tg:Expr}(it:Addr)(lo:Int)(n:Nat):Turn P w K tg (Itr lo n) [it] it (λi h=>IsRangeIter h it (lo+(i:Nat)*1) ((n:Int) - (i:Nat)) 1) where
 mem:=by simp
 obj:=λi h st b hb=>by
  have e:b=it:=by simpa using hb
  subst e;exact⟨_,st,λv z=>by
   have z':Data.fields _=Data.cell v:=z;cases z'⟩
 keep:=λi h h' st k=>k it (by simp) _ st
 item:=by
  intro X hP hw hK hc i pins s σ H E I hf st hg;subst hP hw hK;obtain⟨f0,f1,f2,f3,f4,f5⟩:=hf it (by simp);have W:=Walks.range (prog:=X.prog) (w:=X.w) (I.ok.hd hc) it lo 1 n;refine W.item i s _ _ hg st λv h' tk hv st' kk=>?_;obtain⟨t,rfl⟩:=hv;have I1:Inv X pins σ H { s with heap:=h',toks:=tk }:=I.turned (λb o hb e=>kk b o (by simpa using hb) e) f0 f1 f3 f4 f5;refine⟨_,rfl,xR (s:={ s with heap:=h',toks:=tk }) (n:="range_iterator") st' rfl rfl (by decide) ⟨.int (lo+i),H,I1,⟨t,?_⟩,⟨rfl,rfl⟩,st',λb hb=>(hf b hb).1⟩⟩;rw[Int.mul_one]
 done:=by
  intro X hP hw hK hc i pins s σ H E I hf st hg;subst hP hw hK;obtain⟨f0,f1,f2,f3,f4,f5⟩:=hf it (by simp);exact wpAny_pyNext_range_end (I.ok.hd hc) st (by have:n<=i:=hg;omega) λh' eb=>⟨rfl,I.turned (t':=s.toks) (λb o hb e=>eb b o hb e) f0 f1 f3 f4 f5⟩
 self:=λ_ _ _ _ _ st h=>wpAny_pyIter_rangeiter st h
section
variable  {X:Cx}{tg:Expr}
noncomputable def abe(K:PySem.W.Frag)(tl:TE):TI:=fun σ H R=>tl σ H λx H1=>∃a,x=.ref a/\(∃xs,rO K H1 a xs)/\R (Itl K a) H1
noncomputable def adf(K:PySem.W.Frag)(tl:TE):TI:=fun σ H R=>tl σ H λx H1=>∃a,x=.ref a/\(∃xs,tU K H1 a xs)/\R (Itt K a) H1
def O9{l:Expr}{tl:TE}(hl:PE X l tl):PI X tg l (abe X.K tl):=by
 intro pins s σ H R I h;refine dO (hl pins s σ H _ I h) λv s1 zz=>?_;obtain⟨x,H1,I1,r1,q1⟩:=zz;obtain⟨a,e,⟨xs,hq⟩,q⟩:=q1;subst e;cases r1;obtain⟨its,rv,p,hz⟩:=I1.list hq;refine wpAny_pyIter_list p.isList ?_;refine⟨s1.heap.objs.size,[s1.heap.objs.size],_,_,H1,rfl,I1.kept (t':=s1.toks) λb o e=>gJ _ e,Eb a _,⟨_,h_ _ rfl,rfl,rfl⟩,λb hb=>?_,q⟩;have e:b=s1.heap.objs.size:=by simpa using hb
 subst e;exact I1.yH (gf _) (I1.cz.fresh (gf _))
def Vk{l:Expr}{tl:TE}(hl:PE X l tl):PI X tg l (adf X.K tl):=by
 intro pins s σ H R I h;refine dO (hl pins s σ H _ I h) λv s1 zz=>?_;obtain⟨x,H1,I1,r1,q1⟩:=zz;obtain⟨a,e,⟨xs,hq⟩,q⟩:=q1;subst e;cases r1;obtain⟨its,rv,p,hz⟩:=I1.tuple hq;refine wpAny_pyIter_tuple (show s1.heap.IsTuple a its.toArray from p) ?_;refine⟨s1.heap.objs.size,[s1.heap.objs.size],_,_,H1,rfl,I1.kept (t':=s1.toks) λb o e=>gJ _ e,zno a _,⟨_,h_ _ rfl,rfl,rfl⟩,λb hb=>?_,q⟩;have e:b=s1.heap.objs.size:=by simpa using hb
 subst e;exact I1.yH (gf _) (I1.cz.fresh (gf _))
def zp3{pins:List (Addr×Obj)}{σ:St}{H:Hp}{s:Shared}{R:It->Hp->Prop}{E:Value->Shared->Prop}{lo hi:Int}{t u v:Tok}{tk:Nat}(I:Inv X pins σ H s)(h1:-(2 ^ 62)<=lo)(h2:lo<2 ^ 62)(h3:-(2 ^ 62)<=hi)(h4:hi<2 ^ 62)
  (q:R (Itr lo (hi - lo).toNat) H):wpAny (model X.prog X.w) X.A (pyIter (.ref s.heap.objs.size)) (PIE X pins σ tg R) E { s with heap:=s.heap.push { cls:=.type "range",data:=.fields #[.int lo t,.int hi u,.int 1 v] },toks:=tk }:=by
 refine wpAny_pyIter_range (IsRange.new ..) (small_one h1 h2 h3 h4) ?_;have I1:Inv X pins σ H { s with heap:=s.heap.push { cls:=.type "range",data:=.fields #[.int lo t,.int hi u,.int 1 v] },toks:=tk }:=I.kept λb o e=>gJ _ e;refine⟨(s.heap.push { cls:=.type "range",data:=.fields #[.int lo t,.int hi u,.int 1 v] }).objs.size,[(s.heap.push { cls:=.type "range",data:=.fields #[.int lo t,.int hi u,.int 1 v] }).objs.size],_,_,H,rfl,
  I1.kept (t':=tk) λb o e=>gJ _ e,zph _ lo (hi - lo).toNat,?_,λb hb=>?_,q⟩
 ·have e1:lo+((0:Nat):Int)*1=lo:=by simp
  have e2:(((hi - lo).toNat:Nat):Int) - ((0:Nat):Int)=Builtin.Range.rangeSize lo hi 1:=by rw[rangeSize_one];split<;>omega
  show IsRangeIter _ _ (lo+((0:Nat):Int)*1) ((((hi - lo).toNat:Nat):Int) - ((0:Nat):Int)) 1;rw[e1,e2];exact h_ _ rfl
 ·have e:b=(s.heap.push { cls:=.type "range",data:=.fields #[.int lo t,.int hi u,.int 1 v] }).objs.size:=by simpa using hb
  subst e;exact I1.yH (gf _) (I1.cz.fresh (gf _))
noncomputable def abd(ta:TA):TI:=fun σ H R=>ta σ H λvs H1=>∃j:Int,vs=[.int j]/\-(2 ^ 62)<=j/\j<2 ^ 62/\R (Itr 0 j.toNat) H1
noncomputable def abb(ta:TA):TI:=fun σ H R=>ta σ H λvs H1=>∃i j:Int,vs=[.int i,.int j]/\(-(2 ^ 62)<=i/\i<2 ^ 62/\-(2 ^ 62)<=j/\j<2 ^ 62)/\R (Itr i (j - i).toNat) H1
def Ff{a:Expr}{ta:TA}{p pos:Pos}(hg:Gl X "range")(hm:X.mg "range" = none)(ha:PA X [a] ta)(hs:starEach [a] X.env=[(false,eval a X.env)]:=by rfl):PI X tg (.Call (.Name "range" p) [a] [] pos) (abd ta):=by
 intro pins s σ H R I h;refine Call_ (Tv I hg hm boot_range (afh (dO (ha pos pins s σ H _ I h) λus s1 zz=>?_) hs rfl));obtain⟨vs,H1,I1,r1,q1⟩:=zz;obtain⟨j,e,q1,q2,q⟩:=q1;subst e;cases r1 with
 | cons r rr =>
  cases rr;obtain⟨t,rfl⟩:=r;exact call_range_1 (zp3 I1 (by omega) (by omega) q1 q2 (by simpa using q))
def Fe{a b:Expr}{ta:TA}{p pos:Pos}(hg:Gl X "range")(hm:X.mg "range" = none)(ha:PA X [a,b] ta)(hs:starEach [a,b] X.env=[(false,eval a X.env),(false,eval b X.env)]:=by rfl)(fY:starEach [b] X.env=[(false,eval b X.env)]:=by rfl) :
  PI X tg (.Call (.Name "range" p) [a,b] [] pos) (abb ta):=by
 intro pins s σ H R I h;refine Call_ (Tv I hg hm boot_range (afh (dO (ha pos pins s σ H _ I h) λus s1 zz=>?_) (by rw[hs,fY]) (by rw[fY];rfl)));obtain⟨vs,H1,I1,r1,q1⟩:=zz;obtain⟨i,j,e,⟨q1,q2,q3,q4⟩,q⟩:=q1;subst e;cases r1 with
 | cons r rr =>
  cases rr with
  | cons r' rr =>
   cases rr;obtain⟨t,rfl⟩:=r;obtain⟨t',rfl⟩:=r';exact call_range_2 (zp3 I1 q1 q2 q3 q4 q)
noncomputable def acr(wi:TI)(g:TG)(tb:TS):TS:=λD σ H=>wi σ H λJ H1=>∃W:Nat->Nat->St->Hp->Prop,(∃m,W 0 m σ H1)/\∀i m σ H,W i m σ H ->
 (J.stop i H/\D.nx σ H)\/(J.go i H/\∃N:St->Hp->Prop,(∀σ' H',N σ' H'->∃m',m'<m/\W (i+1) m' σ' H')/\∀x H',J.yld i H x H'->g x σ H' fun σ2 H2=>tb { D with nx:=N,ct:=N,bk:=D.nx } σ2 H2)
noncomputable def vM(fp:List Addr)(h:Heap):List (Addr×Obj):=fp.filterMap λb=>(h.get? b).map λo=>(b,o)
def zgf(hb:b∈fp)(e:h.get? b=some o):(b,o)∈vM fp h:=pF.mpr ⟨b,hb,by rw[e];rfl⟩
def Fp(hp:p∈vM fp h):p.1∈fp/\h.get? p.1=some p.2:=by
 obtain⟨b,hb,e⟩:=pF.mp hp;cases q:h.get? b with
 | none=>rw[q]at e;cases e
 | some o =>
  rw[q]at e;have e':(b,o)=p:=afa e;subst e';exact⟨hb,q⟩
def Inv.pinned(I:Inv X pins σ H s)(hf:∀b∈fp,qM X pins H b)(ho:∀b∈fp,∃o,s.heap.get? b=some o/\∀v,o.data≠.cell v):Inv X (pins++vM fp s.heap) σ H s :=
 I.Ci λp hp=>(gm.mp hp).elim (λz=>I.pin p (kE _ z)) λz=>by
  obtain⟨hb,e⟩:=Fp z;obtain⟨f0,f1,f2,_⟩:=hf p.1 hb;obtain⟨o,e',d⟩:=ho p.1 hb;rw[e]at e';cases e';exact⟨e,f0,f1,f2,d⟩
def Inv.tV(I:Inv X (pins++pl) σ H s):Inv X pins σ H s:=I.Ci λp hp=>I.pin p (kE _ (gW _ hp))
def Vh{iter:Expr}{body:List Stmt}{wi:TI}{g:TG}{tb:TS}{pos:Pos}(hp:PassesOwn (model X.prog X.w) X.A X.env X.xe)(hc:X.calm=true)(hi:PI X tg iter wi)(hg:PG X tg g)(hb:zH X body tb)
  (hs:∀x,foldedSetIterable iter X.env x=pure x:=by intro _;rfl):PS X (.For tg iter body [] pos) (acr wi g tb):=by
 intro pins s σ H D I h;refine wpAny_For (dO (hi pins s σ H _ I h) λv s1 h1=>dO h1 λitv s2 h2=>?_) hs;obtain⟨it,fp,tn,J,H2,e,I2,T,st2,f2,W,⟨m0,w0⟩,turn⟩:=h2;subst e

 have stat:∀{H':Hp},(∀b∈fp,H' b=none)->∀b∈fp,qM X pins H' b:=λhn b hb=>⟨hn b hb,(f2 b hb).2⟩;refine codeAny_forLoop_any (λn s'=>∃i σ' H',Inv X pins σ' H' s'/\tn i s'.heap/\(∀b∈fp,H' b=none)/\W i n σ' H') ?_ m0 ⟨0,σ,H2,I2,st2,λb hb=>(f2 b hb).1,w0⟩;rintro n s3 ⟨i,σ3,H3,I3,qO,fr3,w3⟩;rcases turn i n σ3 H3 w3 with⟨stop,qn⟩ | ⟨go,N,hN,step⟩
 ·refine afB hp (dO (T.done X rfl rfl rfl hc i pins s3 σ3 H3 X.xe I3 (stat fr3) qO stop) λr s4 zz=>?_);obtain⟨hr,I4⟩:=zz;subst hr;exact wpAny_execs_nil ⟨σ3,H3,I4,qn⟩
 ·refine afB hp (dO (T.item X rfl rfl rfl hc i pins s3 σ3 H3 X.xe I3 (stat fr3) qO go) λr s4 zz=>?_);obtain⟨u,hr,h4⟩:=zz;subst hr;refine afB hp (dO h4 λ_ s5 zz=>?_);obtain⟨x,H5,I5,r5,y5,MF,fr5⟩:=zz;have I5':=I5.pinned (stat fr5) (T.obj _ _ MF);refine afB hp (dO (hg _ s5 σ3 H5 x u _ I5' r5 (step x H5 y5)) λ_ s6 zz=>?_);obtain⟨σ6,H6,I6,q6⟩:=zz;refine afB hp (dO (hb _ s6 σ6 H6 _ I6 q6) λf s7 q7=>?_);have again:∀{σ7:St} {H7:Hp},Inv X (pins++vM fp s5.heap) σ7 H7 s7->N σ7 H7->∃m,m<n/\∃i σ' H',Inv X pins σ' H' s7/\tn i s7.heap/\(∀b∈fp,H' b=none)/\W i m σ' H':=λ{σ7 H7} I7 n7=>by
   obtain⟨m',hm,w7⟩:=hN σ7 H7 n7;refine⟨m',hm,i+1,σ7,H7,I7.tV,T.keep _ _ _ MF λb hb o e=>(I7.pin (b,o) (kE _ (kE _ (zgf hb e)))).1,λb hb=>?_,w7⟩;obtain⟨o,e,d⟩:=T.obj _ _ MF b hb;exact (I7.pin (b,o) (kE _ (kE _ (zgf hb e)))).2.1
  cases f with
  | next=>obtain⟨σ7,H7,I7,n7⟩:=q7;exact again I7 n7
  | cont=>obtain⟨σ7,H7,I7,n7⟩:=q7;exact again I7 n7
  | brk=>obtain⟨σ7,H7,I7,q7⟩:=q7;exact⟨σ7,H7,I7.tV,q7⟩
  | ret v=>obtain⟨x7,σ7,H7,I7,r7,q7⟩:=q7;exact⟨x7,σ7,H7,I7.tV,r7,q7⟩
end
noncomputable abbrev R2:=V->V->Hp->VK->Prop
def fK(X:Cx)(f:Value->Value->Sem Value)(r:R2):Prop :=
 ∀(pins:List (Addr×Obj)) (s:Shared) (σ:St) (H:Hp) (x y:V) (v u:Value) (Q:VK),Inv X pins σ H s->RelV x v->RelV y u->r x y H Q ->
  wpAny (model X.prog X.w) X.A (f v u) (EP X pins σ Q) X.xe s
def Q7(X:Cx)(f:Value->Sem Value)(r:V->Hp->VK->Prop):Prop :=
 ∀(pins:List (Addr×Obj)) (s:Shared) (σ:St) (H:Hp) (x:V) (v:Value) (Q:VK),Inv X pins σ H s->RelV x v->r x H Q ->
  wpAny (model X.prog X.w) X.A (f v) (EP X pins σ Q) X.xe s
def cD(X:Cx)(f:Value)(r:List V->Hp->VK->Prop):Prop :=
 ∀(pins:List (Addr×Obj)) (s:Shared) (σ:St) (H:Hp) (xs:List V) (us:List Value) (Q:VK),Inv X pins σ H s->Vals xs us->r xs H Q ->
  wpAny (model X.prog X.w) X.A (call f us) (EP X pins σ Q) X.xe s
def aed(X:Cx)(r:V->Hp->(Bool->Hp->Prop)->Prop):Prop :=
 ∀(pins:List (Addr×Obj)) (s:Shared) (σ:St) (H:Hp) (x:V) (v:Value) (Q:Bool->Hp->Prop),Inv X pins σ H s->RelV x v->r x H Q ->
  wpAny (model X.prog X.w) X.A (truthy v) (TP X pins σ Q) X.xe s
noncomputable def tOp(r:R2)(ta tb:TE):TE:=fun σ H Q=>ta σ H λx H1=>tb σ H1 λy H2=>r x y H2 Q
noncomputable def tUn(r:V->Hp->VK->Prop)(ta:TE):TE:=fun σ H Q=>ta σ H λx H1=>r x H1 Q
noncomputable def rI(C:Int->Int->Prop)(g:Int->Int->V):R2:=λx y H Q=>∃i j,x=.int i/\y=.int j/\C i j/\Q (g i j) H
noncomputable def RC(g:Int->Int->V):R2:=λx y H Q=>∃i j,x=.int i/\y=.int j/\Q (g i j) H
def rU(g:Int->V):V->Hp->VK->Prop:=λx H Q=>∃i,x=.int i/\Q (g i) H
section
variable  {X:Cx}{a b c:Expr}{ta tb tc:TE}{pos:Pos}
def Xx(ha:PE X a ta)(hb:PE X b tb){pins:List (Addr×Obj)}{s:Shared}{σ:St}{H:Hp}{R:V->V->Hp->Prop}(I:Inv X pins σ H s)
  (h:ta σ H λx H1=>tb σ H1 λy H2=>R x y H2) {Q:Value->Shared->Prop} {f:Value->Value->Sem Value}
  (hf:∀v u s2 x y H2,Inv X pins σ H2 s2->RelV x v->RelV y u->R x y H2->wpAny (model X.prog X.w) X.A (f v u) Q X.xe s2) :
  wpAny (model X.prog X.w) X.A (eval a X.env) (λv aeX=>wpAny (model X.prog X.w) X.A (eval b X.env) (λu aeW=>wpAny (model X.prog X.w) X.A (f v u) Q X.xe aeW) X.xe aeX) X.xe s:=by
 refine dO (ha pins s σ H _ I h) λv s1 zz=>?_;obtain⟨x,H1,I1,r1,q1⟩:=zz;refine dO (hb pins s1 σ H1 _ I1 q1) λu s2 zz=>?_;obtain⟨y,H2,I2,r2,q2⟩:=zz;exact hf v u s2 x y H2 I2 r1 r2 q2
def aaR{op:Operator}{r:R2}(ho:fK X (binaryOp op) r)(ha:PE X a ta)(hb:PE X b tb):PE X (.BinOp a op b pos) (tOp r ta tb):=by
 intro pins s σ H Q I h;exact wpAny_BinOp (Xx ha hb I h λv u s2 x y H2 I2 rx ry q=>ho pins s2 σ H2 x y v u Q I2 rx ry q)
def aaQ{op:UnaryOp}{r:V->Hp->VK->Prop}(ho:Q7 X (unaryOp op) r)(ha:PE X a ta):PE X (.UnaryOp op a pos) (tUn r ta):=by
 intro pins s σ H Q I h;refine UnaryOp_ (dO (ha pins s σ H _ I h) λv s1 zz=>?_);obtain⟨x,H1,I1,r1,q1⟩:=zz;exact ho pins s1 σ H1 x v Q I1 r1 q1
def opI{f:Value->Value->Sem Value}{C:Int->Int->Prop}{g:Int->Int->Int}
  (rule:∀(i j:Int) (t u:Tok) (s:Shared) (Q:Value->Shared->Prop) (E:Value->Shared->Prop),C i j->Q (.int (g i j) s.toks) { s with toks:=s.toks+1 }->wpAny (model X.prog X.w) X.A (f (.int i t) (.int j u)) Q E s) :
  fK X f (rI C λi j=>.int (g i j)):=by
 intro pins s σ H x y v u Q I rx ry h;obtain⟨i,j,rfl,rfl,hc,q⟩:=h;obtain⟨t,rfl⟩:=rx;obtain⟨t',rfl⟩:=ry;exact rule i j t t' s _ _ hc ⟨.int (g i j),H,I.tok _,⟨_,rfl⟩,q⟩
def aaZ{f:Value->Value->Sem Value}{g:Int->Int->Int}
  (rule:∀(i j:Int) (t u:Tok) (s:Shared) (Q:Value->Shared->Prop) (E:Value->Shared->Prop),Q (.int (g i j) s.toks) { s with toks:=s.toks+1 }->wpAny (model X.prog X.w) X.A (f (.int i t) (.int j u)) Q E s) :
  fK X f (RC λi j=>.int (g i j)):=by
 intro pins s σ H x y v u Q I rx ry h;obtain⟨i,j,rfl,rfl,q⟩:=h;obtain⟨t,rfl⟩:=rx;obtain⟨t',rfl⟩:=ry;exact rule i j t t' s _ _ ⟨.int (g i j),H,I.tok _,⟨_,rfl⟩,q⟩
def VH{f:Value->Value->Sem Value}{g:Int->Int->Bool}
  (rule:∀(i j:Int) (t u:Tok) (s:Shared) (Q:Value->Shared->Prop) (E:Value->Shared->Prop),Q (.bool (g i j)) s->wpAny (model X.prog X.w) X.A (f (.int i t) (.int j u)) Q E s) :
  fK X f (RC λi j=>.bl (g i j)):=by
 intro pins s σ H x y v u Q I rx ry h;obtain⟨i,j,rfl,rfl,q⟩:=h;obtain⟨t,rfl⟩:=rx;obtain⟨t',rfl⟩:=ry;exact rule i j t t' s _ _ ⟨.bl (g i j),H,I,rfl,q⟩
def XX(i j:Int):Prop:=(-(2 ^ 64)<i/\i<2 ^ 64)\/(-(2 ^ 64)<j/\j<2 ^ 64)
def XX.ok(h:XX i j):IntMulOk i j:=by
 rcases h with⟨h1,h2⟩ | ⟨h1,h2⟩
 ·exact .of_left (intBits_le_64 h1 h2)
 ·exact .of_right (intBits_le_64 h1 h2)
def VG:fK X (binaryOp .Add) (RC λi j=>.int (i+j)):=aaZ λ_ _ _ _ _ _ _ q=>add_int q
def Vx:fK X (binaryOp .Sub) (RC λi j=>.int (i - j)):=aaZ λ_ _ _ _ _ _ _ q=>sub_int q
def Vy:fK X (binaryOp .Mult) (rI XX λi j=>.int (i*j)):=opI λ_ _ _ _ _ _ _ hc q=>mul_int q hc.ok
def Vz:fK X (binaryOp .Mod) (rI (λ_ j=>0<j) λi j=>.int (i % j)):=opI λi j _ _ _ _ _ hc q=>by
 have h1:(0:Int)<j:=hc;exact mod_int' (by omega) (by rw[Int.fmod_eq_emod_of_nonneg i (by omega)];exact q)
def unI{f:Value->Sem Value}{g:Int->Int}
  (rule:∀(i:Int) (t:Tok) (s:Shared) (Q:Value->Shared->Prop) (E:Value->Shared->Prop),Q (.int (g i) s.toks) { s with toks:=s.toks+1 }->wpAny (model X.prog X.w) X.A (f (.int i t)) Q E s) :
  Q7 X f (rU λi=>.int (g i)):=by
 intro pins s σ H x v Q I rx h;obtain⟨i,rfl,q⟩:=h;obtain⟨t,rfl⟩:=rx;exact rule i t s _ _ ⟨.int (g i),H,I.tok _,⟨_,rfl⟩,q⟩
def Us:Q7 X (unaryOp .USub) (rU λi=>.int (-i)):=unI λ_ _ _ _ _ q=>neg_int q
end
section
variable  {X:Cx}{a b c:Expr}{ta tb tc:TE}{pos:Pos}
def Aq(I:Inv X pins σ H s)(q:Q (.bl k) H)(e:k=k'):EP X pins σ Q (.bool k') s:=by
 subst e;exact⟨.bl k,H,I,rfl,q⟩
def aaW:fK X (compareOp .Lt) (RC λi j=>.bl (decide (i<j))):=VH λ_ _ _ _ _ _ _ q=>lt_int q
def aaX:fK X (compareOp .LtE) (RC λi j=>.bl (decide (i<=j))):=VH λ_ _ _ _ _ _ _ q=>le_int q
def aaY:fK X (compareOp .Gt) (RC λi j=>.bl (decide (j<i))):=VH λ_ _ _ _ _ _ _ q=>gt_int q
def Fl:fK X (compareOp .In) (λx y H Q=>∃i j,x=.str i/\y=.str j/\Q (.bl (!(Builtin.Str.occurrences j i 0 j.length 1).isEmpty)) H):=by
 intro pins s σ H x y v u Q I rx ry h;obtain⟨i,j,rfl,rfl,q⟩:=h;obtain⟨t,rfl⟩:=rx;obtain⟨t',rfl⟩:=ry;exact in_str (Aq I q rfl)
def VD:fK X (compareOp .Is) (λx y H Q=>y=.non/\Q (.bl (decide (x=.non))) H):=by
 intro pins s σ H x y v u Q I rx ry h;obtain⟨rfl,q⟩:=h;cases ry;refine is_none_gen (Aq I q ?_);cases x<;>first
  | (cases rx;rfl)
  | (obtain⟨t,rfl⟩:=rx;rfl)
def Pu:fK X (compareOp .IsNot) (λx y H Q=>y=.non/\Q (.bl (!decide (x=.non))) H):=by
 intro pins s σ H x y v u Q I rx ry h;obtain⟨rfl,q⟩:=h;cases ry;refine isnot_none_gen (Aq I q ?_);cases x<;>first
  | (cases rx;rfl)
  | (obtain⟨t,rfl⟩:=rx;rfl)
def fK.or{f:Value->Value->Sem Value}{r r':R2}(h:fK X f r)(h':fK X f r'):fK X f (λx y H Q=>r x y H Q\/r' x y H Q):=by
 intro pins s σ H x y v u Q I rx ry q;rcases q with q | q
 ·exact h pins s σ H x y v u Q I rx ry q
 ·exact h' pins s σ H x y v u Q I rx ry q
def bI(b:Expr)(h:op≠.In:=by decide)(h2:op≠.NotIn:=by decide):behindInMarks op b=false:=by
 have e1:(op==CmpOp.In)=false:=by cases op<;>first | rfl | exact absurd rfl h
 have e2:(op==CmpOp.NotIn)=false:=by cases op<;>first | rfl | exact absurd rfl h2
 cases b<;>simp[behindInMarks,e1,e2]
def Pn{op:CmpOp}{r:R2}(ho:fK X (compareOp op) r)(ha:PE X a ta)(hb:PE X b tb)(hm:behindInMarks op b=false):PE X (.Compare a [op] [b] pos) (tOp r ta tb):=by
 intro pins s σ H Q I h;exact wpAny_Compare1 (Xx ha hb I h λv u s2 x y H2 I2 rx ry q=>ho pins s2 σ H2 x y v u Q I2 rx ry q) hm
noncomputable def aah(t:TE):TT:=fun σ H Q=>t σ H λx H'=>∃k,x=.bl k/\Q k H'
def OD{op:CmpOp}{r:R2}(ho:fK X (compareOp op) r)(ha:PE X a ta)(hb:PE X b tb)(hm:behindInMarks op b=false):PT X (.Compare a [op] [b] pos) (aah (tOp r ta tb)):=by
 intro pins s σ H Q I h;refine wpAny_isTrue_Compare1 (dO (ha pins s σ H _ I h) λv s1 zz=>?_) hm;obtain⟨x,H1,I1,r1,q1⟩:=zz;refine dO (hb pins s1 σ H1 _ I1 q1) λu s2 zz=>?_;obtain⟨y,H2,I2,r2,q2⟩:=zz;refine dO (ho pins s2 σ H2 x y v u _ I2 r1 r2 q2) λc s3 zz=>?_;obtain⟨z,H3,I3,r3,k,e,q3⟩:=zz;subst e;cases r3;exact wpAny_truthy_bool ⟨H3,I3,q3⟩
def XM(K:PySem.W.Frag)(x:V)(H:Hp)(k:Bool):Prop :=
 match x with
 | .non=>k=false
 | .bl b=>k=b
 | .int i=>k=(i != 0)
 | .str y=>y.length<=sizeLine/\k=((y.length:Int) != 0)
 | .byt y=>y.size<=sizeLine/\k=((y.size:Int) != 0)
 | .ref p=>(∃xs,rO K H p xs/\k=!xs.isEmpty)\/(∃xs,tU K H p xs/\k=!xs.isEmpty)\/∃kvs,H p=some (.dK kvs)/\k=!kvs.isEmpty
 | _=>False
def zow{κ:Type}{kvs:List (κ×V)}{vs:List (κ×Value)}(r:KV kvs vs):(!vs.isEmpty)=!kvs.isEmpty:=by
 cases r<;>rfl
def zjv{xs:List V}{its:List Value}(r:Vals xs its):(!its.toArray.isEmpty)=!xs.isEmpty:=by
 cases r<;>simp
def sZ:(sizeLine:Nat)<2 ^ 63:=by rw[sizeLine_eq];decide
def Uu:aed X (λx H Q=>∃k,XM X.K x H k/\Q k H):=by
 intro pins s σ H x v Q I rx h;obtain⟨k,e,q⟩:=h;have hl:=sZ;have hs:sizeLine=16777216:=sizeLine_eq;cases x with
 | non =>
  cases rx;have e':k=false:=e;subst e';exact truthy_none ⟨H,I,q⟩
 | bl b =>
  cases rx;have e':k=b:=e;subst e';exact wpAny_truthy_bool ⟨H,I,q⟩
 | int i =>
  obtain⟨t,rfl⟩:=rx;have e':k=(i != 0):=e;subst e';exact PySem.P.truthy_int ⟨H,I,q⟩
 | str y =>
  obtain⟨t,rfl⟩:=rx;obtain⟨hy,e'⟩:y.length<=sizeLine/\k=((y.length:Int) != 0):=e;subst e';exact PySem.P.truthy_str (by omega) ⟨H,I.tok _,q⟩
 | byt y =>
  obtain⟨t,rfl⟩:=rx;obtain⟨hy,e'⟩:y.size<=sizeLine/\k=((y.size:Int) != 0):=e;subst e';exact PySem.W.truthy_bytes (by omega) ⟨H,I.tok _,q⟩
 | ref p =>
  cases rx;have e':(∃xs,rO X.K H p xs/\k=!xs.isEmpty)\/(∃xs,tU X.K H p xs/\k=!xs.isEmpty)\/∃kvs,H p=some (.dK kvs)/\k=!kvs.isEmpty:=e;rcases e' with⟨xs,hx,e'⟩ | ⟨xs,hx,e'⟩ | ⟨kvs,hx,e'⟩
  ·subst e';obtain⟨its,r,pl,hz⟩:=I.list hx;have hlen:=r.length;exact wpAny_truthy_list pl.isList (by simp only[gK];omega) ⟨H,I.tok _,by rw[zjv r];exact q⟩
  ·subst e';obtain⟨its,r,pl,hz⟩:=I.tuple hx;have hlen:=r.length;exact truthy_tuple pl (by simp only[gK];omega) ⟨H,I.tok _,by rw[zjv r];exact q⟩
  ·subst e';obtain⟨hz,hS,vs,r,m⟩:kvs.length<=sizeLine/\(p==sysModules)=false/\∃vs,KV kvs vs/\s.heap.DictOf (bU X.prog X.w) p vs:=I.cz p _ hx;have hlen:kvs.length=vs.length:=afo r;exact wpAny_truthy_dict hS m (by omega) ⟨H,I.tok _,by rw[zow r];exact q⟩
 | _=>exact (show False from e).elim
def zn9:fK X (binaryOp .Add) (λx y H Q=>∃i j,x=.str i/\y=.str j/\i.length+j.length<=sizeLine/\Q (.str (i++j)) H):=by
 intro pins s σ H x y v u Q I rx ry h;obtain⟨i,j,rfl,rfl,hz,q⟩:=h;obtain⟨t,rfl⟩:=rx;obtain⟨t',rfl⟩:=ry;exact add_str (λt' tk=>⟨.str (i++j),H,I.tok _,⟨_,rfl⟩,q⟩) hz
def vals1(r:Vals [x] us):∃u,us=[u]/\RelV x u:=by
 cases r with
 | cons r1 r2=>cases r2;exact⟨_,rfl,r1⟩
def vals2(r:Vals [x,y] us):∃u w',us=[u,w']/\RelV x u/\RelV y w':=by
 cases r with
 | cons r1 r2 =>
  cases r2 with
  | cons r3 r4=>cases r4;exact⟨_,_,rfl,r1,r3⟩
def GR(hc:X.calm=true):cD X (.builtin "max") (λxs H Q=>∃i j,xs=[.int i,.int j]/\Q (.int (if j > i then j else i)) H):=by
 intro pins s σ H xs us Q I r h;obtain⟨i,j,rfl,q⟩:=h;obtain⟨u,w',rfl,⟨t,rfl⟩,⟨t',rfl⟩⟩:=vals2 r;refine max_two_ints (I.ok.hd hc) λh' tk k=>⟨_,H,I.kept k,?_,q⟩;by_cases hj:j > i
 ·rw[ae9 hj,ae9 hj];exact⟨_,rfl⟩
 ·rw[ae_ hj,ae_ hj];exact⟨_,rfl⟩
def GQ(hc:X.calm=true):cD X (.builtin "min") (λxs H Q=>∃i j,xs=[.int i,.int j]/\Q (.int (if j<i then j else i)) H):=by
 intro pins s σ H xs us Q I r h;obtain⟨i,j,rfl,q⟩:=h;obtain⟨u,w',rfl,⟨t,rfl⟩,⟨t',rfl⟩⟩:=vals2 r;refine min_two_ints (I.ok.hd hc) λh' tk k=>⟨_,H,I.kept k,?_,q⟩;by_cases hj:j<i
 ·rw[ae9 hj,ae9 hj];exact⟨_,rfl⟩
 ·rw[ae_ hj,ae_ hj];exact⟨_,rfl⟩
def GX:cD X (.type "int") (λxs H Q=>(∃i,xs=[.int i]/\Q (.int i) H)\/∃k,xs=[.bl k]/\Q (.int (if k then 1 else 0)) H):=by
 intro pins s σ H xs us Q I r h;rcases h with⟨i,rfl,q⟩ | ⟨k,rfl,q⟩
 ·obtain⟨u,rfl,t,rfl⟩:=vals1 r;exact call_int_int ⟨.int i,H,I,⟨_,rfl⟩,q⟩
 ·obtain⟨u,rfl,r1⟩:=vals1 r;cases r1;exact call_int_bool ⟨.int (if k then 1 else 0),H,I.tok _,⟨_,rfl⟩,q⟩
end
structure Be(h:Heap)(x dx C:Addr)(mA:Str->Option Value):Prop where
 obj:h.get? x=some (PySem.W.instObj C dx)
 ns:h.Ns1 dx mA
 ne:dx≠x
def FN{h:Heap}{dx:Addr}{mA:Str->Option Value}(n:h.Ns1 dx mA):∃od,h.get? dx=some od/\∀name,PySem.W.lookIn name od=some (mA name):=by
 obtain⟨o,es,ep,ho,hd,hk,_,hm⟩:=n;refine⟨o,ho,λname=>?_⟩;have e:=hm name;unfold nsFind findBy at e;rw[<-Array.find?_toList]at e;unfold PySem.W.lookIn;rw[hd];dsimp only
 split
 ·rename_i y q;rw[q]at e;exact congrArg some e
 ·rename_i q;rw[q]at e;have a:es.toList.any (·.refKey)=false:=by
   rw[List.any_eq_false];intro y hy;obtain⟨z,t,adx⟩:=hk y (Array.mem_toList_iff.mp hy);simp[DictEntry.refKey,adx]
  have a':¬ es.toList.any (·.refKey)=true:=by rw[a];exact mQ
  rw[ae_ a'];exact congrArg some e
def Be.look(I:Be h x dx C mA):∃od,PySem.W.InstAt h x (PySem.W.instObj C dx) C (some od)/\∀name,PySem.W.lookIn name od=some (mA name) :=
 let ⟨od,ho,hl⟩:=FN I.ns
 ⟨od,⟨I.obj,rfl,rfl,ho⟩,hl⟩
section
variable  {prog:Program}{w:World}{A:Around}{E:Value->Shared->Prop}{s:Shared}{K:PySem.W.Frag}{x dx C f:Addr}{mA:Str->Option Value}{name:Str}{v:Value}
def get_map{expr:Bool}(X:K.In s.heap)(I:Be s.heap x dx C mA)(hg:PySem.W.plainGet K C name=true)(hh:PySem.W.hasDictIn K C=true) 
  (ha:PySem.W.findIn K (.ref C) name=some none) (hv:mA name=some v) (Ak:PySem.W.handedIn v=true) (h:Q v { s with toks:=s.toks+1 }) :
  wpAny (model prog w) A (getAttr (.ref x) name expr) Q E s:=by
 obtain⟨od,J,hl⟩:=I.look;exact PySem.W.get_value X J (PySem.W.plainGet_of hg).1 (PySem.W.findObj_own hh ha rfl (by rw[hl,hv])) Ak h
def K7(X:K.In s.heap)(I:Be s.heap x dx C mA)(hg:PySem.W.plainGet K C name=true) 
  (hf:PySem.W.findIn K (.ref C) name=some (some (.ref f))) (ht:PySem.W.isFn K (.ref f)=true) (hv:mA name=none) (h:Q (.ref f,[.ref x]) s) :
  wpAny (model prog w) A (getMethod (.ref x) name pl) Q E s:=by
 obtain⟨od,J,hl⟩:=I.look;exact PySem.W.method_fn X J (PySem.W.plainGet_of hg).1 (PySem.W.plainGet_of hg).2 hf (beq_iff_eq.mp ht) (by show (PySem.W.lookIn name od).map (·.isSome)=some false;rw[hl,hv];rfl) h
def Ob(X:K.In s.heap)(I:Be s.heap x dx C mA) 
  (hs:PySem.W.findIn K (.ref C) "__setattr__" = some (some (.builtin "object.__setattr__"))) (hp:PySem.W.plainOver K C=true) (ht:PySem.W.takerIn K C name=some none) (hh:PySem.W.hasDictIn K C=true)
  (hw:PySem.Within mA ns) (hsz:ns.length<=sizeLine)
  (h:∀h',Be h' x dx C (λy=>if y=name then some v else mA y)->Heap.SameBut dx s.heap h'->Q () { s with heap:=h',toks:=s.toks+2 }) :
  wpAny (model prog w) A (setAttr (.ref x) name v) Q E s:=by
 obtain⟨od,J,hl⟩:=I.look;refine PySem.W.set_plain X J hs (PySem.W.osa_open (s:={ s with toks:=s.toks+1 }) (r:=none) X J hp ht λb=>?_);obtain⟨cd,hc,K4⟩:=PySem.W.any_some hh;have hx:s.heap.get? x=some ⟨.ref C,some dx,.plain,#[]⟩:=I.obj;refine ae7 (ae8 (ae7 (ae7 (wpAny_loadPart hx (ae7 (PySem.W.Looks.here (s:={ s with toks:=s.toks+1 }) (PySem.W.looks_clsIn X hc) ?_))))));rw[K4];refine ae8 (a:=some dx) (ae7 (ae8 (ae7 ?_)));refine wpAny_nsSet1 (s:={ s with toks:=s.toks+1 }) I.ns λh' WW fY=>?_;obtain⟨oD,esD,epD,hoD,hdD,hcD⟩:=WW.count (PySem.Within.cons name v hw);refine ae7 (wpAny_lookBehind hoD (by rw[hdD];exact pastItsLine_dict (kO hcD (by rw[gC];omega))) ?_);exact ae8 (h _ ⟨(fY.2 _ (afv I.ne)).trans I.obj,WW,I.ne⟩ fY)
def J1(X:K.In s.heap)(hm:PySem.W.makesIn K C=true) 
  (hi:PySem.W.findIn K (.ref C) "__init__" = some (some (.ref f))) (hf:PySem.W.typeIn K (.ref f)=some (.type "function"))
  (h:codeAny (model prog w) (A.under (.builtin "type.__call__" ⟨.ref C::vs,kw⟩)) (.call (.ref f) ⟨.ref (s.heap.objs.size+1)::vs,kw⟩) (PySem.W.InitBack (s.heap.objs.size+1) R)
   { s with heap:=(s.heap.push PySem.W.emptyDict).push (PySem.W.instObj C s.heap.objs.size) }) :
  codeAny (model prog w) A (.call (.ref C) ⟨vs,kw⟩) R s:=by
 obtain⟨hh,g,d,t,os⟩:=s;exact PySem.W.make_core (PySem.W.makes_of X hm) (PySem.W.looks_findIn X hi) (λself=>PySem.W.bind_fn X self hf) (.inl rfl) h
end
noncomputable def jK(f:Str)(v:V):List (Str×V)->List (Str×V)
 | []=>[(f,v)]
 | (g,x)::r=>if g=f then (g,v)::r else (g,x)::jK f v r
theorem zik(f g:Str)(v:V):∀fs:List (Str×V),(jK f v fs).lookup g=if g=f then some v else fs.lookup g
 | []=>by
  show List.lookup g [(f,v)]=_;by_cases h:g=f
  ·have hb:(g==f)=true:=beq_iff_eq.mpr h;simp only[List.lookup,hb,ae9 h]
  ·have hb:(g==f)=false:=beq_eq_false_iff_ne.mpr h;simp only[List.lookup,hb,ae_ h]
 | (k,x)::r=>by
  have ih:=zik f g v r;rw[show jK f v ((k,x)::r)=(if k=f then (k,v)::r else (k,x)::jK f v r) from rfl];by_cases hk:k=f
  ·rw[ae9 hk];by_cases h:g=k
   ·have hb:(g==k)=true:=beq_iff_eq.mpr h;simp only[List.lookup,hb,ae9 (h.trans hk)]
   ·have hb:(g==k)=false:=beq_eq_false_iff_ne.mpr h;simp only[List.lookup,hb,ae_ (λe:g=f=>h (e.trans hk.symm))]
  ·rw[ae_ hk];by_cases h:g=k
   ·have hb:(g==k)=true:=beq_iff_eq.mpr h;simp only[List.lookup,hb,ae_ (λe:g=f=>hk (h.symm.trans e))]
   ·have hb:(g==k)=false:=beq_eq_false_iff_ne.mpr h;simp only[List.lookup,hb];exact ih
theorem zje(f:Str)(v:V):∀fs:List (Str×V),f∈(jK f v fs).map (·.1)/\∀g,g∈fs.map (·.1)->g∈(jK f v fs).map (·.1)
 | []=>⟨by simp[jK],λg h=>by simp at h⟩
 | (k,x)::r=>by
  obtain⟨i1,i2⟩:=zje f v r;rw[show jK f v ((k,x)::r)=(if k=f then (k,v)::r else (k,x)::jK f v r) from rfl];by_cases hk:k=f
  ·rw[ae9 hk];subst hk;exact⟨by simp,λg h=>by simpa using h⟩
  ·rw[ae_ hk];refine⟨?_,λg h=>?_⟩
   ·rw[gB];exact kW _ i1
   ·rw[gB]at h ⊢;rcases gj.mp h with e | e
    ·exact gj.mpr (.inl e)
    ·exact kW _ (i2 g e)
theorem zin(f:Str)(v:V):∀fs:List (Str×V),(jK f v fs).length<=fs.length+1
 | []=>by simp[jK]
 | (k,x)::r=>by
  have ih:=zin f v r;rw[show jK f v ((k,x)::r)=(if k=f then (k,v)::r else (k,x)::jK f v r) from rfl];by_cases hk:k=f
  ·rw[ae9 hk,gC,gC];omega
  ·rw[ae_ hk,gC,gC];omega
def qK.some_of(r:qK (some v) o):∃u,o=some u/\RelV v u:=by
 cases o with
 | none=>exact (show False from r).elim
 | some u=>exact⟨u,rfl,r⟩
def qK.none_of(r:qK none o):o=none:=by
 cases o with
 | none=>rfl
 | some u=>exact (show False from r).elim
def Gk(r:RelV v u):PySem.W.handedIn u=true:=by
 cases v with
 | non=>cases (show u=Value.none from r);rfl
 | bl b=>cases (show u=Value.bool b from r);rfl
 | int i=>obtain⟨t,e⟩:=(show ∃t,u=Value.int i t from r);cases e;rfl
 | str x=>obtain⟨t,e⟩:=(show ∃t,u=Value.str x t from r);cases e;rfl
 | byt b=>obtain⟨t,e⟩:=(show ∃t,u=Value.bytes b t from r);cases e;rfl
 | flt b=>obtain⟨t,e⟩:=(show ∃t,u=Value.float b t from r);cases e;rfl
 | ref a=>cases (show u=Value.ref a from r);rfl
 | ty n=>cases (show u=Value.type n from r);rfl
section
variable  {P:Program}{w:World}{H H':Hp}{h h':Heap}{a C dx:Addr}{fs fs':List (Str×V)}
def zoo(cz:qL P w H h)(e:H a=some (.ins C dx fs)):∃mA,Be h a dx C mA/\(∀f,qK (fs.lookup f) (mA f))/\PySem.Within mA (fs.map (·.1))/\fs.length<=1000/\H dx=some (.own a):=by
 obtain⟨d,z,ne,ob,mA,n,r,q⟩:=(show cH P w H h a (.ins C dx fs) from cz a _ e);exact⟨mA,⟨ob,n,ne⟩,r,q,z,d⟩
end
structure Hb(K:PySem.W.Frag)(C:Addr):Prop where
 pg:PySem.W.plainGet K C Str.empty=true
 hd:PySem.W.hasDictIn K C=true
 po:PySem.W.plainOver K C=true
 sa:PySem.W.findIn K (.ref C) "__setattr__" = some (some (.builtin "object.__setattr__"))
def Hb.get{K:PySem.W.Frag}{C:Addr}(c:Hb K C)(f:Str):PySem.W.plainGet K C f=true:=c.pg
def oX(K:PySem.W.Frag)(C:Addr)(f:Str):Prop:=PySem.W.findIn K (.ref C) f=some none
def oX.aag{K:PySem.W.Frag}{C:Addr}{f:Str}(n:oX K C f):PySem.W.takerIn K C f=some none:=by
 unfold PySem.W.takerIn;rw[show PySem.W.findIn K (.ref C) f=some none from n]
 rfl
structure Con(K:PySem.W.Frag)(C:Addr)(f:Str)(v:V)(u:Value):Prop where
 at_:PySem.W.findIn K (.ref C) f=some (some u)
 rel:RelV v u
 get:PySem.W.specialIn K u "__get__" = some none
 cp:PySem.W.copiedNames.contains f=false
structure Meth(K:PySem.W.Frag)(C:Addr)(m:Str)(f:Addr):Prop where
 at_:PySem.W.findIn K (.ref C) m=some (some (.ref f))
 fn:PySem.W.isFn K (.ref f)=true
 kp:PySem.W.keepIn K (.ref f)=true
section
variable  {X:Cx}{pins:List (Addr×Obj)}{σ:St}{H:Hp}{s:Shared}{a C dx:Addr}{fs:List (Str×V)}{f:Str}{v:V}{A:Around}{E:Value->Shared->Prop}
def zps(I:Inv X pins σ H s)(e:H a=some (.ins C dx fs))(c:Hb X.K C)(n:oX X.K C f)(l:fs.lookup f=some v) 
  (h:∀u s',Inv X pins σ H s'->RelV v u->Q u s'):wpAny (model X.prog X.w) A (getAttr (.ref a) f b) Q E s:=by
 obtain⟨mA,O,r,_,_,_⟩:=zoo I.cz e;obtain⟨u,hu,ru⟩:=qK.some_of (v:=v) (o:=mA f) (by rw[<-l];exact r f);exact get_map I.zN O (c.get f) c.hd n hu (Gk ru) (h u _ (I.tok _) ru)
def zok(I:Inv X pins σ H s)(e:H a=some (.ins C dx fs))(c:Hb X.K C)(k:Meth X.K C m g)(l:fs.lookup m=none) 
  (h:Q (.ref g,[.ref a]) s):wpAny (model X.prog X.w) A (getMethod (.ref a) m pl) Q E s:=by
 obtain⟨mA,O,r,_,_,_⟩:=zoo I.cz e;have hn:mA m=none:=qK.none_of (by rw[<-l];exact r m);exact K7 I.zN O (c.get m) k.at_ k.fn hn h
def zn5(I:Inv X pins σ H s)(e:H a=some (.ins C dx fs))(c:Hb X.K C)(n:oX X.K C f)(hl:fs.length<1000)(ry:RelV y u) 
  (h:∀s',Inv X pins σ (upd H a (.ins C dx (jK f y fs))) s'->Q () s'):wpAny (model X.prog X.w) A (setAttr (.ref a) f u) Q E s:=by
 obtain⟨mA,O,r,wi,_,ho⟩:=zoo I.cz e;have hz:(fs.map (·.1)).length<=sizeLine:=by rw[gq,sizeLine_eq];omega
 refine Ob I.zN O c.sa c.po n.aag c.hd wi hz λh' O' sb=>h _ ?_;have hd:∃o,h'.get? dx=some o:=let ⟨o,_,_,e',_⟩:=O'.ns;⟨o,e'⟩;refine I.write (x:=a) (e:=dx) (by rw[e];exact True.intro) (.inr ho) (λb q hb z=>(sb.2 b hb).trans z) hd ?_;refine⟨by rw[iD O.ne];exact ho,?_,O.ne,O'.obj,_,O'.ns,λg=>?_,λg hg=>?_⟩
 ·have:=zin f y fs;omega
 ·show qK ((jK f y fs).lookup g) (if g=f then some u else mA g);rw[zik];by_cases q:g=f
  ·rw[ae9 q,ae9 q];exact ry
  ·rw[ae_ q,ae_ q];exact r g
 ·by_cases q:g=f
  ·rw[q];exact (zje f y fs).1
  ·refine (zje f y fs).2 g (wi g λz=>hg ?_);show (if g=f then some u else mA g)=none;rw[ae_ q];exact z
def Inv.made(I:Inv X pins σ H s):Inv X pins σ (upd (upd H s.heap.objs.size (.own (s.heap.objs.size+1))) (s.heap.objs.size+1) (.ins C s.heap.objs.size []))
  { s with heap:=(s.heap.push PySem.W.emptyDict).push (PySem.W.instObj C s.heap.objs.size) }:=by
 have e1:(s.heap.push PySem.W.emptyDict).get? s.heap.objs.size=some PySem.W.emptyDict:=h_ s.heap rfl;have e2:((s.heap.push PySem.W.emptyDict).push (PySem.W.instObj C s.heap.objs.size)).get? (s.heap.objs.size+1)=some (PySem.W.instObj C s.heap.objs.size):=by
  have:=h_ (s.heap.push PySem.W.emptyDict) (o:=PySem.W.instObj C s.heap.objs.size) rfl;rwa[nQ]at this
 have e3:(s.heap.push PySem.W.emptyDict).Ns s.heap.objs.size (λ_=>none):=⟨PySem.W.emptyDict,#[],_,e1,rfl,(λe he=>absurd he (by simp)),λ_=>rfl⟩;have I1:=I.laid (a:=s.heap.objs.size) (o:=.own (s.heap.objs.size+1)) (h':=s.heap.push PySem.W.emptyDict) (t':=s.toks) (λb u q=>gJ _ q) (gf _) ⟨_,e1⟩;refine I1.laid (a:=s.heap.objs.size+1) (o:=.ins C s.heap.objs.size []) (t':=s.toks) (λb u q=>gJ _ q) (Nat.le_of_eq (nQ _ _)) ?_;have ne:s.heap.objs.size≠s.heap.objs.size+1:=gU (nY _);refine⟨by rw[iD ne,rQ],mZ _,ne,e2,λ_=>none,(Heap.Ns1.of_empty e3).at λo q=>gJ _ q,λ_=>True.intro,λy hy=>absurd rfl hy⟩
def QX(hb:attributeBase e f env (eval e env)=eval e env) 
  (h:wpAny (model prog w) A (eval e env) (λo aeX=>wpAny (model prog w) A (getAttr o f true) Q E aeX) E s):wpAny (model prog w) A (eval (.Attribute e f pos) env) Q E s :=
 Attribute_any_ h (by rw[arm_eval_Attribute,hb])
end
noncomputable def acs(K:PySem.W.Frag)(ta:TE)(f:Str):TE:=fun σ H Q=>ta σ H λx H1=>∃a C dx fs v,x=.ref a/\H1 a=some (.ins C dx fs)/\Hb K C/\oX K C f/\fs.lookup f=some v/\Q v H1
noncomputable def acz(K:PySem.W.Frag)(ta tv:TE)(f:Str):TS:=λD σ H=>tv σ H λy H1=>ta σ H1 λx H2=>∃a C dx fs,x=.ref a/\H2 a=some (.ins C dx fs)/\Hb K C/\oX K C f/\fs.length<1000 /\
 D.nx σ (upd H2 a (.ins C dx (jK f y fs)))
section
variable  {X:Cx}{o e value:Expr}{f:Str}{pos pos' Ed:Pos}{ta tv:TE}
def Vw(he:PE X e ta)(hb:attributeBase e f X.env (eval e X.env)=eval e X.env):PE X (.Attribute e f pos) (acs X.K ta f):=by
 intro pins s σ H Q I h;refine QX hb (dO (he pins s σ H _ I h) λu s1 zz=>?_);obtain⟨x,H1,I1,rx,a,C,dx,fs,v,ex,ea,c,n,l,q⟩:=zz;subst ex;obtain rfl:u=Value.ref a:=rx;exact zps I1 ea c n l λu' s2 I2 ru=>⟨v,H1,I2,ru,q⟩
def Vi(ha:PE X o ta)(hv:PE X value tv)(hs:swapsWith value (some (.Attribute o f pos')) pos.line X.env=pure false):PS X (.Assign [.Attribute o f pos'] value pos) (acz X.K ta tv f):=by
 intro pins s σ H D I h;refine plainObj_wpAny_Assign_Attribute (dO (hv pins s σ H _ I h) λu s1 zz=>?_) hs;obtain⟨y,H1,I1,ry,q⟩:=zz;refine dO (ha pins s1 σ H1 _ I1 q) λov s2 zz=>?_;obtain⟨x,H2,I2,rx,a,C,dx,fs,ex,ea,c,n,l,q2⟩:=zz;subst ex;obtain rfl:ov=Value.ref a:=rx;exact zn5 I2 ea c n l ry λs3 I3=>⟨σ,_,I3,q2⟩
end
section
variable  {X:Cx}{pins:List (Addr×Obj)}{σ:St}{H:Hp}{s:Shared}{A:Around}{E:Value->Shared->Prop}{Q:Value->Shared->Prop}{c:Value}{b:Bool}
inductive wH (K:PySem.W.Frag) (H:Hp):V->Value->Prop where
 | non:wH K H .non (.type "NoneType")
 | bl (x:Bool):wH K H (.bl x) (.type "bool")
 | int (i:Int):wH K H (.int i) (.type "int")
 | str (x:Str):wH K H (.str x) (.type "str")
 | flt (x:UInt64):wH K H (.flt x) (.type "float")
 | lst {a:Addr} {xs:List V} (e:H a=some (.lst xs)):wH K H (.ref a) (.type "list")
 | frz {a:Addr} {o:Obj} {xs:List V} (e:H a=some (.frz o (.lst xs))):wH K H (.ref a) (.type "list")
 | tup {a:Addr} {xs:List V} (e:H a=some (.tup xs)):wH K H (.ref a) (.type "tuple")
 | dK {a:Addr} {kvs:List (Key×V)} (e:H a=some (.dK kvs)):wH K H (.ref a) (.type "dict")
 | dT {a:Addr} {kvs:List (List Key×V)} (e:H a=some (.dT kvs)):wH K H (.ref a) (.type "dict")
 | ins {a C dx:Addr} {fs:List (Str×V)} (e:H a=some (.ins C dx fs)) (cl:Hb K C) (ha:PySem.W.findIn K (.ref C) "__class__" = some (some (.builtin "object.__class__")))
   (hn:PySem.W.specialIn K (.builtin "object.__class__") "__get__" = some (some (.builtin "getset_descriptor.__get__"))) (htk:PySem.W.takesIn K (.builtin "object.__class__")=some true)
   (hm:PySem.W.mroIn K C (.type "object")=some true):wH K H (.ref a) (.ref C)
end
structure dX(k:Nat)(A:Around):Prop where
 hd:A.handled=none
 dp:A.depth+3*k+5<recursionLimit
 un:A.units+16*k+200<cLine
def dX.mono(r:dX k A)(h:j<=k):dX j A:=⟨r.hd,by have:=r.dp;omega,by have:=r.un;omega⟩
def dX.deeper(r:dX (k+1) A)(env:Env):dX k (A.deeper env) :=
 ⟨r.hd,by have:=r.dp;show A.depth+1+3*k+5<_;omega,by have:=r.un;show A.units+3+16*k+200<_;omega⟩
def znr{A:Around}{C:Addr}{us:List Value}{kw:List (Str×Value)}:(A.under (.builtin "type.__call__" ⟨.ref C::us,kw⟩)).depth=A.depth+1:=by
 first | rfl | simp[Around.under,Code.weight,Code.isCreation,Code.isGuard,Code.isCaller,Code.frames,Code.isFrame,guardIds]
def zny{A:Around}{C:Addr}{us:List Value}{kw:List (Str×Value)}:(A.under (.builtin "type.__call__" ⟨.ref C::us,kw⟩)).units=A.units+1:=by
 first | rfl | simp[Around.under,Code.cUnits,Code.frames,Code.isFrame]
def dX.make(r:dX (k+1) A)(C:Addr)(us:List Value)(kw:List (Str×Value)):dX k (A.under (.builtin "type.__call__" ⟨.ref C::us,kw⟩)) :=
 ⟨r.hd,by have:=r.dp;rw[znr];omega,by have:=r.un;rw[zny];omega⟩
def dX.depth(r:dX k A):A.depth<recursionLimit:=by have:=r.dp;omega
def dX.units(r:dX k A):A.units+64<cLine:=by have:=r.un;omega
noncomputable def acn:TA:=λ_ H Q=>Q [] H
noncomputable def aap(ta:TE)(tr:TA):TA:=fun σ H Q=>ta σ H λx H1=>tr σ H1 λxs H2=>Q (x::xs) H2
section
variable  {X:Cx}{e:Expr}{es:List Expr}{te:TE}{t:TA}{pos:Pos}
def Jv:PA X [] acn:=λ_ _ _ _ H Q I h=>Calls.spliced_nil ⟨[],H,I,.nil,h⟩
def zp1(ha:PE X e te)(hr:PA X es t)(hs:starEach (e::es) X.env=(false,eval e X.env)::starEach es X.env:=by rfl):PA X (e::es) (aap te t):=by
 intro pos pins s σ H Q I h;rw[hs];show wpAny _ _ (spliced ((false,eval e X.env)::backTo pos (starEach es X.env))) _ _ s;refine Calls.spliced_cons (dO (ha pins s σ H _ I h) λu s1 zz=>?_);obtain⟨x,H1,I1,r1,q1⟩:=zz;refine dO (hr pos pins s1 σ H1 _ I1 q1) λus s2 zz=>?_;obtain⟨xs,H2,I2,r2,q2⟩:=zz;exact⟨x::xs,H2,I2,.cons r1 r2,q2⟩
noncomputable def ach(t:TA):TE:=fun σ H Q=>t σ H λxs H1=>xs.length<=sizeLine/\∀p,H1 p=none->Q (.ref p) (upd H1 p (.tup xs))
noncomputable def aco(t:TA):TE:=fun σ H Q=>t σ H λxs H1=>xs.length<=sizeLine/\∀p,H1 p=none->Q (.ref p) (upd H1 p (.lst xs))
def Vo{x1}(h:PA X es t):PE X (.Tuple es x1 pos) (ach t):=by
 intro pins s σ H Q I hq;refine wpAny_Tuple_spliced (dO (h pos pins s σ H _ I hq) λus s1 zz=>?_);obtain⟨xs,H1,I1,r,z,q⟩:=zz;refine⟨by rw[<-r.length];exact z,?_⟩;have hf:H1 s1.heap.objs.size=none:=I1.cz.fresh (gf _);refine⟨.ref s1.heap.objs.size,upd H1 s1.heap.objs.size (.tup xs),I1.laid (t':=s1.toks) (λb u e=>gJ _ e) (gf _) ?_,rfl,q _ hf⟩;exact⟨z,us,r,⟨_,h_ _ rfl,rfl,_,rfl⟩⟩
def Vt(h:PA X es t):PE X (.List es pos) (aco t):=by
 intro pins s σ H Q I hq;refine wpAny_List_spliced (dO (h pos pins s σ H _ I hq) λus s1 zz=>?_);obtain⟨xs,H1,I1,r,z,q⟩:=zz;refine⟨by rw[<-r.length];exact z,?_⟩;have hf:H1 s1.heap.objs.size=none:=I1.cz.fresh (gf _);refine⟨.ref s1.heap.objs.size,upd H1 s1.heap.objs.size (.lst xs),I1.laid (t':=s1.toks) (λb u e=>gJ _ e) (gf _) ?_,rfl,q _ hf⟩;exact⟨z,us,0,r,h_ _ rfl⟩
end
noncomputable abbrev Sp:=List V->Hp->VK->XK->Prop
noncomputable abbrev Hr:=List Env->Hp->Shared->XK->Value->Shared->Prop
structure yN(P:Program)(w:World)(K:PySem.W.Frag)(mg:Str->Option Value)(base:Heap)(A:Around)(outer:List Env)(s:Shared)(H:Hp):Prop where
 frames:A.frames=some outer
 mod:Mod K mg base
 bs:∀b o,base.get? b=some o->s.heap.get? b=some o/\H b=none
 GZ:base.objs.size<=s.heap.objs.size
 sE:s.heap.FunFrames base outer
 Lb:∀b∈Dh outer,H b=none
 cz:qL P w H s.heap
 bare:AllBare s.gens
def CE(outer:List Env)(P:Program)(w:World)(H:Hp)(s:Shared)(Q:VK)(u:Value)(s':Shared):Prop :=
 ∃v H',s'.os=s.os/\AllBare s'.gens/\Un (Dh outer) [] H H' s.heap s'.heap/\qL P w H' s'.heap/\RelV v u/\Q v H'
def CR(CX:Hr)(outer:List Env)(P:Program)(w:World)(H:Hp)(s:Shared)(Q:VK)(E:XK)(r:Result)(s':Shared):Prop :=
 match r with
 | .ok (.ret u)=>CE outer P w H s Q u s'
 | .ok _=>False
 | .error e=>CX outer H s E e s'
structure bu(P:Program)(w:World)(K:PySem.W.Frag)(mg:Str->Option Value)(base:Heap)(CX:Hr)(k:Nat)(f:Addr)(fd:FuncData)(ps:List Str)(sp:Sp):Prop where
 len:∀vs H Q E,sp vs H Q E->vs.length=ps.length
 run:∀(A:Around) (outer:List Env) (s:Shared) (H:Hp) (args:Args) (us:List Value) (vs:List V) (Q:VK) (E:XK),dX k A->yN P w K mg base A outer s H->BindsTo s fd args (ps.zip us)->Vals vs us->sp vs H Q E ->
  codeAny (model P w) A (.call (.ref f) args) (CR CX outer P w H s Q E) s
def bu.mono{P:Program}{w:World}{K:PySem.W.Frag}{mg:Str->Option Value}{base:Heap}{CX:Hr}{j k:Nat}{f:Addr}{fd:FuncData}{ps:List Str}{sp:Sp}(F:bu P w K mg base CX j f fd ps sp)(h:j<=k) :
  bu P w K mg base CX k f fd ps sp:=⟨F.len,λA outer s H args us vs Q E hr=>F.run A outer s H args us vs Q E (hr.mono h)⟩
def bu.imp{P:Program}{w:World}{K:PySem.W.Frag}{mg:Str->Option Value}{base:Heap}{CX:Hr}{k:Nat}{f:Addr}{fd:FuncData}{ps:List Str}{sp Ru:Sp}(F:bu P w K mg base CX k f fd ps sp)
  (h:∀vs H Q E,Ru vs H Q E->sp vs H Q E):bu P w K mg base CX k f fd ps Ru :=
 ⟨λvs H Q E q=>F.len vs H Q E (h _ _ _ _ q),λA outer s H args us vs Q E hr he hb hv hs=>F.run A outer s H args us vs Q E hr he hb hv (h _ _ _ _ hs)⟩
def yN.make{P:Program}{w:World}{K:PySem.W.Frag}{mg:Str->Option Value}{base:Heap}{A:Around}{outer:List Env}{s:Shared}{H:Hp}(e:yN P w K mg base A outer s H)(C:Addr)(us:List Value)(kw:List (Str×Value)) :
  yN P w K mg base (A.under (.builtin "type.__call__" ⟨.ref C::us,kw⟩)) outer s H:=⟨by first | exact e.frames | (simpa[Around.under,Code.envs,Code.isFrame,pushEnvs] using e.frames),e.mod,e.bs,e.GZ,e.sE,e.Lb,e.cz,e.bare⟩
section
variable  {X:Cx}{pins:List (Addr×Obj)}{σ:St}{H:Hp}{s s':Shared}
def Inv.QJ(I:Inv X pins σ H s):yN X.prog X.w X.K X.mg X.base X.A X.stack s H :=
 ⟨I.ok.frames,I.ok.mod,I.bs,kO I.ok.GZ I.sz,I.stack,I.By,I.cz,I.bare⟩
def Inv.after(I:Inv X pins σ H s)(h:CE X.stack X.prog X.w H s Q u s'):EP X pins σ Q u s':=by
 obtain⟨v,H',os,bare,un,cz,r,q⟩:=h;obtain⟨hh,g,d,t,YB⟩:=s';obtain rfl:YB=s.os:=os;exact⟨v,H',I.call (h':=hh) (g':=g) (d':=d) (t':=t) (ch:=[]) un cz bare (λb z=>absurd z (by simp)),r,q⟩
end
noncomputable def aaq(sp:Sp)(dvs:List V)(E:XK)(t:TA):TE:=fun σ H Q=>t σ H λvs H1=>sp (vs++dvs) H1 Q E
noncomputable def aak(C:Addr)(m:Str)(sp:Sp)(dvs:List V)(E:XK)(ta:TE)(t:TA):TE:=fun σ H Q=>ta σ H λx H1=>∃a dx fs,x=.ref a/\H1 a=some (.ins C dx fs)/\fs.lookup m=none /\
 t σ H1 λvs H2=>sp (x::(vs++dvs)) H2 Q E
noncomputable def aal(C:Addr)(sp:Sp)(dvs:List V)(E:XK)(t:TA):TE:=fun σ H Q=>t σ H λvs H1=>∀x dx,H1 x=none->H1 dx=none->dx≠x ->
 sp (.ref x::(vs++dvs)) (upd (upd H1 dx (.own x)) x (.ins C dx [])) (λv H2=>v=.non/\Q (.ref x) H2) E
def Binds(K:PySem.W.Frag)(fd:FuncData)(ps:List Str)(ds:List Value):Prop :=
 ∀(s:Shared) (us:List Value),K.In s.heap->(us++ds).length=ps.length->BindsTo s fd ⟨us,[]⟩ (ps.zip (us++ds))
def Binds.all{K:PySem.W.Frag}{fd:FuncData}{ps:List Str}(h:∀us:List Value,us.length=ps.length->bindArgs fd ⟨us,[]⟩=pure (ps.zip us)):Binds K fd ps []:=λs us _ hl=>by
 rw[kh]at hl ⊢;exact .of_eq (h us hl)
def Passes(CX:Hr)(X:Cx)(E:XK):Prop:=∀(pins:List (Addr×Obj)) (σ:St) (H:Hp) (s:Shared) (e:Value) (s':Shared),Inv X pins σ H s->CX X.stack H s E e s'->X.xe e s'
section
variable  {X:Cx}{CX:Hr}{k:Nat}{f C:Addr}{fd:FuncData}{ps:List Str}{sp:Sp}{dvs:List V}{ds:List Value}{E:XK}{x m:Str}{p pos apos:Pos}{e o:Expr}{es:List Expr}{ta:TE}{t:TA}
def Iu(F:bu X.prog X.w X.K X.mg X.base CX k f fd ps sp)(hr:dX k X.A)(hb:Binds X.K fd ps ds)(hd:Vals dvs ds)(hx:Passes CX X E) 
  (I:Inv X pins σ H s) (r:Vals vs us) (h:sp (vs++dvs) H Q E):wpAny (model X.prog X.w) X.A (call (.ref f) us) (EP X pins σ Q) X.xe s:=by
 have r2:Vals (vs++dvs) (us++ds):=r.append hd;have hl:(us++ds).length=ps.length:=by rw[<-r2.length];exact F.len _ _ _ _ h
 refine wpAny_call (afP (F.run X.A X.stack s H ⟨us,[]⟩ (us++ds) (vs++dvs) Q E hr I.QJ (hb s us I.zN hl) r2 h) λr s' hq=>?_);cases r with
 | error e=>exact hx pins σ H s e s' I hq
 | ok fl =>
  cases fl with
  | ret u=>exact I.after hq
  | next=>exact False.elim hq
  | brk=>exact False.elim hq
  | cont=>exact False.elim hq
def Pq(F:bu X.prog X.w X.K X.mg X.base CX k f fd ps sp)(hr:dX k X.A)(hg:Gl X x)(hm:X.mg x=some (.ref f))(hk:PySem.W.keepIn X.K (.ref f)=true)(hb:Binds X.K fd ps ds)(hd:Vals dvs ds)(hx:Passes CX X E)
  (ha:PA X (e::es) t) (xj:(x==("__debug__":Str))=false:=by decide) (he:starEach (e::es) X.env=(false,eval e X.env)::starEach es X.env:=by rfl) (qH:(backTo pos (starEach es X.env)).any (·.1)=false:=by rfl) :
  PE X (.Call (.Name x p) (e::es) [] pos) (aaq sp dvs E t):=by
 intro pins s σ H Q I h;refine afn (zma I hg hm ?_ xj);refine afG (h₀:=X.base) I.ok.mod.V4 hk (dO (ha pos pins s σ H _ I h) λus s1 zz=>?_) he qH;obtain⟨vs,H1,I1,r,q⟩:=zz;refine⟨I1.zN,?_⟩;exact Iu F hr hb hd hx I1 r q
def Pg{pl:Sem Bool}(he:PE X o ta)(c:Hb X.K C)(hm:Meth X.K C m f)(F:bu X.prog X.w X.K X.mg X.base CX k f fd ps sp)(hr:dX k X.A)(hb:Binds X.K fd ps ds)(hd:Vals dvs ds)(hx:Passes CX X E)(ha:PA X (e::es) t)
  (Hm:starEach (e::es) X.env=(false,eval e X.env)::starEach es X.env:=by rfl) (qH:(backTo pos (starEach es X.env)).any (·.1)=false:=by rfl)
  (ht:eval (.Call (.Attribute o m apos) (e::es) [] pos) X.env=(do
   let ov <-eval o X.env
   standAt apos.atName
   let (f,first) <-holding [ov] (getMethod ov m pl)
   callWith pos f first (backTo pos (starEach (e::es) X.env)) (backToKw pos (keywordEach [] X.env))):=by rfl) :
  PE X (.Call (.Attribute o m apos) (e::es) [] pos) (aak C m sp dvs E ta t):=by
 intro pins s σ H Q I h;refine PySem.W.methodCall_KW (pl:=pl) (dO (he pins s σ H _ I h) λu s1 zz=>?_) ht;obtain⟨x,H1,I1,rx,a,dx,fs,ex,ea,l,q⟩:=zz;subst ex;obtain rfl:u=Value.ref a:=rx;refine zok I1 ea c hm l ?_;refine afG (first:=[.ref a]) (h₀:=X.base) I.ok.mod.V4 hm.kp (dO (ha pos pins s1 σ H1 _ I1 q) λus s2 zz=>?_) Hm qH;obtain⟨vs,H2,I2,r,q2⟩:=zz;refine⟨I2.zN,?_⟩;exact Iu (us:=.ref a::us) (vs:=.ref a::vs) F hr hb hd hx I2 (.cons rfl r) q2
structure Mk(K:PySem.W.Frag)(C f:Addr):Prop where
 makes:PySem.W.makesIn K C=true
 init:PySem.W.findIn K (.ref C) "__init__" = some (some (.ref f))
 fn:PySem.W.isFn K (.ref f)=true
 kp:PySem.W.keepIn K (.ref C)=true
def Ir(M:Mk X.K C f)(F:bu X.prog X.w X.K X.mg X.base CX k f fd ps sp)(hr:dX (k+1) X.A)(hb:Binds X.K fd ps ds)(hd:Vals dvs ds) 
  (hx:Passes CX X E) (I:Inv X pins σ H s) (r:Vals vs us)
  (h:∀x dx,H x=none->H dx=none->dx≠x->sp (.ref x::(vs++dvs)) (upd (upd H dx (.own x)) x (.ins C dx [])) (λv H2=>v=.non/\Q (.ref x) H2) E) :
  wpAny (model X.prog X.w) X.A (call (.ref C) us) (EP X pins σ Q) X.xe s:=by
 have hq:=h (s.heap.objs.size+1) s.heap.objs.size (I.cz.fresh (Nat.le_succ _)) (I.cz.fresh (gf _)) (gU (nY _));have I2:=Inv.made (C:=C) I;have r2:Vals (V.ref (s.heap.objs.size+1)::(vs++dvs)) (Value.ref (s.heap.objs.size+1)::(us++ds)):=.cons rfl (r.append hd);have hl:(Value.ref (s.heap.objs.size+1)::us++ds).length=ps.length:=by
  have e:=r2.length;rw[F.len _ _ _ _ hq]at e;exact e.symm
 refine wpAny_call (J1 (f:=f) I.zN M.makes M.init (beq_iff_eq.mp M.fn) (afP (F.run _ X.stack _ _ ⟨Value.ref (s.heap.objs.size+1)::us,[]⟩ (Value.ref (s.heap.objs.size+1)::(us++ds)) _ _ E (hr.make C us [])
  (I2.QJ.make C us []) (hb _ (Value.ref (s.heap.objs.size+1)::us) I2.zN hl) r2 hq) λr s' Qp=>?_))
 cases r with
 | error e=>exact hx pins σ _ _ e s' I2 Qp
 | ok fl =>
  cases fl with
  | ret u =>
   obtain⟨v,H',I3,rv,ev,q3⟩:=I2.after Qp;subst ev;exact⟨rv,⟨V.ref (s.heap.objs.size+1),H',I3,rfl,q3⟩⟩
  | next=>exact False.elim Qp
  | brk=>exact False.elim Qp
  | cont=>exact False.elim Qp
def Ph(M:Mk X.K C f)(F:bu X.prog X.w X.K X.mg X.base CX k f fd ps sp)(hr:dX (k+1) X.A)(hg:Gl X x)(hm:X.mg x=some (.ref C))(hb:Binds X.K fd ps ds)(hd:Vals dvs ds)(hx:Passes CX X E)
  (ha:PA X (e::es) t) (xj:(x==("__debug__":Str))=false:=by decide) (he:starEach (e::es) X.env=(false,eval e X.env)::starEach es X.env:=by rfl) (qH:(backTo pos (starEach es X.env)).any (·.1)=false:=by rfl) :
  PE X (.Call (.Name x p) (e::es) [] pos) (aal C sp dvs E t):=by
 intro pins s σ H Q I h;refine afn (zma I hg hm ?_ xj);refine afG (h₀:=X.base) I.ok.mod.V4 M.kp (dO (ha pos pins s σ H _ I h) λus s1 zz=>?_) he qH;obtain⟨vs,H1,I1,r,q⟩:=zz;refine⟨I1.zN,?_⟩;exact Ir M F hr hb hd hx I1 r q
end
section
variable  {X:Cx}{CX:Hr}{k:Nat}{f C:Addr}{fd:FuncData}{ps ks:List Str}{sp:Sp}{E:XK}{x m:Str}{p pos apos aeC:Pos}{e o:Expr}{es:List Expr}{kws:List Keyword}{te ta:TE}{t tk:TA}{nm:Option Str}
structure aee(K:PySem.W.Frag)(fd:FuncData)(ps ks:List Str)(g:List Value->List Value->List Value)(gV:List V->List V->List V):Prop where
 to:∀(s:Shared) (us ws:List Value),K.In s.heap->(g us ws).length=ps.length->BindsTo s fd ⟨us,ks.zip ws⟩ (ps.zip (g us ws))
 rel:∀{vs:List V} {us:List Value} {zs:List V} {ws:List Value},Vals vs us->Vals zs ws->Vals (gV vs zs) (g us ws)
variable  {g:List Value->List Value->List Value}{gV:List V->List V->List V}
end
structure aZ(N P:List Str)(sc:Scope):Prop where
 kind:sc.kind=.function
 co:sc.isCoroutine=false
 gen:sc.isGenerator=false
 nd:N.Nodup
 pre:N.take P.length=P
 par:∀x∈P,sc.names.lookup x=some .local\/sc.names.lookup x=some .cell
 VJ:∀y∈sc.names,y.2≠.free
theorem zmz{kindOf:Str->Option NameKind}{x:Str}:∀{binds:List (Str×Value)} {m:Str->Option Value},(∀v,(x,v)∉binds)->bindL kindOf binds m x=m x
 | [],_,_=>rfl
 | (n,v)::r,m,h=>by
  unfold bindL;rw[zmz λw hw=>h w (kW _ hw)]
  split
  ·have:x≠n:=by rintro rfl;exact h v nO
   simp[this]
  ·rfl
theorem zml{kindOf:Str->Option NameKind}{x:Str}:∀{binds:List (Str×Value)} {m:Str->Option Value},(∀v,(x,v)∉binds)->bindC kindOf binds m x=m x
 | [],_,_=>rfl
 | (n,v)::r,m,h=>by
  unfold bindC;rw[zml λw hw=>h w (kW _ hw)]
  split
  ·rfl
  ·have:x≠n:=by rintro rfl;exact h v nO
   simp[this]
theorem zls{kindOf:Str->Option NameKind}{x:Str}{v:Value}:∀{P:List Str} {vs:List Value} {i:Nat} {m:Str->Option Value},P.Nodup->P[i]? = some x->vs[i]? = some v->kindOf x=some .local ->
  bindL kindOf (P.zip vs) m x=some v
 | [],_,_,_,_,h,_,_=>by simp at h
 | _::_,[],_,_,_,_,h,_=>by simp at h
 | p::P,w::vs,0,m,nd,h1,h2,hk=>by
  simp at h1 h2;subst h1;subst h2;show bindL kindOf ((p,w)::P.zip vs) m p=_;unfold bindL;rw[zmz λv hv=>(mR.mp nd).1 (nZ hv).1,ae9 hk];simp
 | p::P,w::vs,i+1,m,nd,h1,h2,hk=>by
  show bindL kindOf ((p,w)::P.zip vs) m x=_;unfold bindL;exact zls (i:=i) (mR.mp nd).2 (by simpa using h1) (by simpa using h2) hk
theorem zmi{kindOf:Str->Option NameKind}{x:Str}{v:Value}:∀{P:List Str} {vs:List Value} {i:Nat} {m:Str->Option Value},P.Nodup->P[i]? = some x->vs[i]? = some v->kindOf x≠some .local ->
  bindC kindOf (P.zip vs) m x=some v
 | [],_,_,_,_,h,_,_=>by simp at h
 | _::_,[],_,_,_,_,h,_=>by simp at h
 | p::P,w::vs,0,m,nd,h1,h2,hk=>by
  simp at h1 h2;subst h1;subst h2;show bindC kindOf ((p,w)::P.zip vs) m p=_;unfold bindC;rw[zml λv hv=>(mR.mp nd).1 (nZ hv).1,ae_ hk];simp
 | p::P,w::vs,i+1,m,nd,h1,h2,hk=>by
  show bindC kindOf ((p,w)::P.zip vs) m x=_;unfold bindC;exact zmi (i:=i) (mR.mp nd).2 (by simpa using h1) (by simpa using h2) hk
noncomputable def start(N:List Str)(vs:List V):St:=vs.map some++List.replicate (N.length - vs.length) none
noncomputable def xn(CX:Hr)(P:Program)(w:World)(K:PySem.W.Frag)(mg:Str->Option Value)(base:Heap)(N:List Str)(qual:Str)(scope:Scope)(f:Addr)(cd:Value)(A:Around)(outer:List Env)(s:Shared)(H:Hp)(E:XK):Cx where
 prog:=P
 w:=w
 K:=K
 mg:=mg
 base:=base
 A:=A.deeper (envOfC qual scope s.heap.objs.size f cd)
 N:=N
 aeY:=s
 ae6:=H
 env:=envOfC qual scope s.heap.objs.size f cd
 outer:=outer
 stack:=envOfC qual scope s.heap.objs.size f cd::outer
 ex:=[]
 calm:=true
 fn:=λ_=>true
 pn:=[]
 xe:=λe s'=>wpAny (model P w) (A.deeper (envOfC qual scope s.heap.objs.size f cd)) (leaving (envOfC qual scope s.heap.objs.size f cd) e) (λ_ s''=>CX outer H s E e s'') (λe' s''=>CX outer H s E e' s'') s'
def znl{sc:Scope}{n:Nat}{x:Str}(h:sc.names.lookup x=some .cell):∃c,(cellsFrom n sc.names []).lookup x=some c:=by
 have q:=PySem.W.cellsFrom_some sc.names n [] (.inl h);exact Option.isSome_iff_exists.mp q
def Ge{CX:Hr}{P:Program}{w:World}{K:PySem.W.Frag}{mg:Str->Option Value}{base:Heap}{N ps:List Str}{qual:Str}{scope:Scope}{f:Addr}{cd:Value}{A:Around}{outer:List Env}{s s1:Shared}{H:Hp}{E:XK}{us:List Value}{vs:List V}
  (S:aZ N ps scope) (hd:A.handled=none) (e0:yN P w K mg base A outer s H) (hl:vs.length=ps.length) (r:Vals vs us)
  (x:InCallC s s.heap.objs.size (bindL (envOfC qual scope s.heap.objs.size f cd).kindOf (ps.zip us) λ_=>none) (cellsFrom (s.heap.objs.size+1) scope.names []) (bindC (envOfC qual scope s.heap.objs.size f cd).kindOf (ps.zip us) λ_=>none) s1) :
  Inv (xn CX P w K mg base N qual scope f cd A outer s H E) [] (start N vs) H s1:=by
 have qH:ps.length<=N.length:=by have:=congrArg List.length S.pre;rw[m6]at this;omega
 obtain⟨h1,tk,rfl,hk⟩:=x.done;have PJ:∀b:Addr,b∉(xn CX P w K mg base N qual scope f cd A outer s H E).ex:=λb z=>absurd (show b∈([]:List Addr) from z) (by simp);refine⟨⟨e0.mod,S.kind,rfl,rfl,gf _,λy z c h1 h2=>?_,λy hy=>?_,λy c _ h=>?_,λ_=>hd,Around.frames_deeper e0.frames,.inr ⟨rfl,rfl⟩,λb z=>absurd z (PJ b),e0.bs,e0.GZ,λb _ _=>PJ b,λb z=>absurd z (PJ b),e0.sE,e0.Lb⟩,
  rfl,e0.bare,Un.kept hk,⟨_,x.toInCall.ns,λi y v h1 h2 h3=>?_⟩,λy c h=>⟨_,x.cell y c h⟩,e0.cz.fresh (gf _),λy c h=>?_,λp hp=>absurd (show p∈([]:List (Addr×Obj)) from hp) (by simp),e0.cz.kept hk,?_⟩
 ·exact name_of_addr x.apart (afe h1) (afe h2)
 ·have hy:scope.names.lookup y=some .cell\/scope.names.lookup y=some .free:=hy;rcases hy with hy | hy
  ·exact znl hy
  ·exact absurd rfl (S.VJ _ (afe hy))
 ·exact Nat.le_of_lt (x.above y c (afe h))
 ·have hi:i<vs.length:=by
   unfold start at h2;by_cases hi:i<vs.length
   ·exact hi
   ·rw[gw (by simpa using hi)]at h2;rw[List.getElem?_replicate]at h2
    split at h2<;>cases h2
  have ha:vs[i]? = some v:=by
   unfold start at h2;rw[gP (by simpa using hi),gH]at h2;cases e:vs[i]? with
   | none=>rw[e]at h2;cases h2
   | some a=>rw[e]at h2;cases h2;rfl
  obtain⟨u,hu,rv⟩:=r.get ha;have hp:ps[i]? = some y:=by
   rw[<-S.pre,List.getElem?_take_of_lt (by omega)];exact h1
  have ndP:ps.Nodup:=by rw[<-S.pre];exact S.nd.sublist (List.take_sublist _ _)
  refine⟨u,rv,?_⟩;rcases S.par y (gM hp) with k | k
  ·exact .inl ⟨k,zls ndP hp hu k⟩
  ·obtain⟨c,e⟩:=znl (n:=s.heap.objs.size+1) k;refine .inr ⟨.inl k,c,e,?_⟩;have q:=x.cell y c e;rw[zmi ndP hp hu (by show scope.names.lookup y≠_;rw[k];decide)]at q;exact q
 ·exact e0.cz.fresh (Nat.le_of_lt (x.above y c (afe h)))
 ·unfold start;show _=N.length;rw[gh,gq,List.length_replicate];omega
def Ld{CX:Hr}{P:Program}{w:World}{K:PySem.W.Frag}{mg:Str->Option Value}{base:Heap}{k:Nat}{f:Addr}{name qual:Str}{params:Arguments}{body:List Stmt}{scope:Scope}{dV kV doc pm cdv ct oc:Value}{an od:Option Addr}
  {uX:Array (Option Value)} {N ps:List Str} {sp:Sp} (lk:K.lookup f=some ⟨oc,od,.func (PySem.W.fnOf name qual params body scope dV kV doc pm an cdv ct),uX⟩) (yD:PySem.W.codeIn K cdv qual=true) (S:aZ N ps scope)
  (len:∀vs H Q E,sp vs H Q E->vs.length=ps.length)
  (rm:∀(A:Around) (outer:List Env) (s:Shared) (H:Hp) (vs:List V) (Q:VK) (E:XK),dX k (A.deeper (envOfC qual scope s.heap.objs.size f cdv))->sp vs H Q E ->
   ∃t,zH (xn CX P w K mg base N qual scope f cdv A outer s H E) body t/\t { nx:=λ_ H'=>Q .non H',rt:=Q } (start N vs) H) :
  bu P w K mg base CX (k+1) f (PySem.W.fnOf name qual params body scope dV kV doc pm an cdv ct) ps sp:=by
 refine⟨len,λA outer s H args us vs Q E hr e0 hb r Gi=>?_⟩;have hl:=len _ _ _ _ Gi;have KX:K.In s.heap:=e0.mod.V4.keeps λb o e=>(e0.bs b o e).1;have lim:s.heap.NoLimit:=e0.mod.nolimit.keeps λb o e=>(e0.bs b o e).1;have abw:∀y∈ps.zip us,scope.names.lookup y.1=some .local\/(scope.names.lookup y.1=some .cell/\((cellsFrom (s.heap.objs.size+1) scope.names []).lookup y.1).isSome=true):=λ⟨n,v⟩ hy=>by
  rcases S.par n (nZ hy).1 with q | q
  ·exact .inl q
  ·exact .inr ⟨q,PySem.W.cellsFrom_some _ _ _ (.inl q)⟩
 refine codeAny_call_function hr.depth (KX _ _ lk) rfl S.co S.gen rfl (PySem.W.codeRec_of KX yD) (hb _ _ _ _ ?_);refine wpAny_newFunctionEnv_cells S.kind abw λenv he s1 x=>?_;subst he;refine⟨lim.keeps x.toInCall.keep,codeAny_func ?_⟩;obtain⟨t,ht,hq⟩:=rm A outer s H vs Q E (hr.deeper _) Gi;have I:Inv (xn CX P w K mg base N qual scope f cdv A outer s H E) [] (start N vs) H s1:=Ge S hr.hd e0 hl r x;refine afr (ht [] s1 (start N vs) H _ I hq) (λfl s' hs=>?_) λe s' hs=>hs;have fin:∀{σ':St} {H':Hp} {v:V} {u:Value},Inv (xn CX P w K mg base N qual scope f cdv A outer s H E) [] σ' H' s'->RelV v u->Q v H'->CE outer P w H s Q u s' :=
  λ{σ' H' v u} J rv q=>⟨v,H',J.os,J.bare,J.base,J.cz,rv,q⟩
 cases fl with
 | ret u =>
  obtain⟨v,σ',H',J,rv,q⟩:=hs;exact fin J rv q
 | next =>
  obtain⟨σ',H',J,q⟩:=hs;exact fin (v:=V.non) (u:=Value.none) J rfl q
 | brk =>
  obtain⟨_,_,_,q⟩:=hs;exact False.elim q
 | cont =>
  obtain⟨_,_,_,q⟩:=hs;exact False.elim q
section
variable  {X:Cx}{x:Str}{p pos:Pos}{e:Expr}{es:List Expr}{t:TA}{id T:String}{r:List V->Hp->VK->Prop}
noncomputable def tCB(r:List V->Hp->VK->Prop)(t:TA):TE:=fun σ H Q=>t σ H λvs H1=>r vs H1 Q
def Jt(hc:cD X (.builtin id) r)(hg:Gl X x)(hm:X.mg x=none)(hv:bootBuiltins x=some (.builtin id))(ha:PA X (e::es) t)(hn:x ≠ "__name__":=by decide)(xj:(x==("__debug__":Str))=false:=by decide)
  (he:starEach (e::es) X.env=(false,eval e X.env)::starEach es X.env:=by rfl) (qH:(backTo pos (starEach es X.env)).any (·.1)=false:=by rfl):PE X (.Call (.Name x p) (e::es) [] pos) (tCB r t):=by
 intro pins s σ H Q I h;refine afn (Tv I hg hm hv ?_ hn xj);refine PyProof.Rows.callWith_builtin1 (dO (ha pos pins s σ H _ I h) λus s1 zz=>?_) he qH;obtain⟨vs,H1,I1,r1,q1⟩:=zz;exact hc pins s1 σ H1 vs us Q I1 r1 q1
def Fg(hc:cD X (.type T) r)(hg:Gl X x)(hm:X.mg x=none)(hv:bootBuiltins x=some (.type T))(ha:PA X (e::es) t)(hn:x ≠ "__name__":=by decide)(xj:(x==("__debug__":Str))=false:=by decide)
  (he:starEach (e::es) X.env=(false,eval e X.env)::starEach es X.env:=by rfl) (qH:(backTo pos (starEach es X.env)).any (·.1)=false:=by rfl):PE X (.Call (.Name x p) (e::es) [] pos) (tCB r t):=by
 intro pins s σ H Q I h;refine afn (Tv I hg hm hv ?_ hn xj);refine afh (dO (ha pos pins s σ H _ I h) λus s1 zz=>?_) he qH;obtain⟨vs,H1,I1,r1,q1⟩:=zz;exact hc pins s1 σ H1 vs us Q I1 r1 q1
end
end L2
namespace HT
open PySem PyProof.Rows
section
open PySem.SeqAt
open PySem.AutoSeq1 (wpAny_loadPart')
open PySem.MeetsSeq PySem.MeetsSeq2 PySem.MeetsSeq3
end
section
variable  {prog:Program}{w:World}{A:Around}{E:Value->Shared->Prop}{s:Shared}
def QW(ht:IsTup s.heap t vs.toArray)(hb:IsTup s.heap b ws.toArray)(hv:vs≠[]) 
  (h1:ws=[]->Q (.ref t) s) (h2:ws≠[]->Q (.ref s.heap.objs.size) { s with heap:=s.heap.push { cls:=.type "tuple",data:=.seq (vs++ws).toArray } })
  (hsz:vs.length+ws.length<=sizeLine):wpAny (model prog w) A (binaryOp .Add (.ref t) (.ref b)) Q E s:=by
 obtain⟨⟨cls,dd,data,sl⟩,ho,hc,n,hd⟩:=id ht;obtain⟨⟨ad4,dd2,data2,sl2⟩,Qt,Ho,n2,hd2⟩:=id hb;simp only at hc hd Ho hd2;subst hc hd Ho hd2;have e:vs.toArray++ws.toArray=(vs++ws).toArray:=by simp
 by_cases hw:ws=[]
 ·exact concat_meets ⟨_,ho,rfl⟩ ⟨_,Qt,rfl⟩ noFill_tuple_add seq_tuple_add afR afO (afM _ _)
   (tuple_addW1 t b vs.toArray ws.toArray n n2 dd dd2 sl sl2 (by simpa using hv) (by simp[hw])) ⟨ho,Qt,h1 hw⟩
 ·refine concat_meets ⟨_,ho,rfl⟩ ⟨_,Qt,rfl⟩ noFill_tuple_add seq_tuple_add afR afO (afM _ _)
   (tuple_addW2 t b vs.toArray ws.toArray n n2 dd dd2 sl sl2 (by simpa using hv) (by simpa using hw) (by rw[gK,gK];exact hsz)) ⟨ho,Qt,?_⟩
  rw[e];exact h2 hw
noncomputable def dC(n d:Nat):Option Int->Nat
 | none=>d
 | some v=>if v<0 then (v+(n:Int)).toNat else min v.toNat n
def ZJ(n d:Nat):dC n d none=d:=rfl
def zn0(n d k:Nat):dC n d (some (k:Int))=min k n:=by
 show (if (k:Int)<0 then ((k:Int)+(n:Int)).toNat else min (k:Int).toNat n)=min k n;rw[ae_ (by omega),mF]
def Io(n d:Nat)(hd:d<=n)(o:Option Int):dC n d o<=n:=by
 cases o with
 | none=>exact hd
 | some v =>
  show (if v<0 then (v+(n:Int)).toNat else min v.toNat n)<=n;by_cases hv:v<0
  ·rw[ae9 hv];omega
  ·rw[ae_ hv];exact Nat.min_le_right _ _
def Dm(v:Int)(n d:Nat):(if v<0 then max (v+(n:Int)) 0 else min v (n:Int))=((dC n d (some v):Nat):Int):=by
 show (if v<0 then max (v+(n:Int)) 0 else min v (n:Int))=(((if v<0 then (v+(n:Int)).toNat else min v.toNat n):Nat):Int);by_cases hv:v<0
 ·simp only[ae9 hv];omega
 ·simp only[ae_ hv];omega
def zn3(lo hi:Option Int)(n:Nat):Builtin.Slice.sliceAdjust lo hi 1 (n:Int)=(((dC n 0 lo:Nat):Int),((dC n n hi:Nat):Int)):=by
 have h1:¬ ((1:Int)<0):=by omega
 unfold Builtin.Slice.sliceAdjust;simp only[h1,afF];refine Prod.ext ?_ ?_
 ·cases lo with
  | none=>rfl
  | some v=>exact Dm v n 0
 ·cases hi with
  | none=>rfl
  | some v=>exact Dm v n n
def znz(i j:Nat):Builtin.Slice.slicePlaces (i:Int) (j:Int) 1=j - i:=by
 unfold Builtin.Slice.slicePlaces;have h1:(1:Int) > 0:=by omega
 simp only[h1,afy,Int.ediv_one]
 split<;>omega
def zj1(p:IsPart v o)(h:Q o s):wpAny (model prog w) A (Builtin.Slice.slicePartIndex v) Q E s:=by
 cases p with
 | none=>exact slicePart_none h
 | int i t=>exact slicePart_int h
def ze5{sl:Addr}{vl vu:Value}{lo hi:Option Int}{n:Nat}{Q:Int×Int×Nat->Shared->Prop}(hs:s.heap.IsSliceOf sl vl vu .none)(pl:IsPart vl lo)(pu:IsPart vu hi)
  (h:Q (((dC n 0 lo:Nat):Int),1,dC n n hi - dC n 0 lo) s):wpAny (model prog w) A (Builtin.Slice.sliceApplied (.ref sl) (pure (n:Int))) Q E s:=by
 obtain⟨os,WM,Qx,Sg⟩:=id hs;unfold Builtin.Slice.sliceApplied Builtin.Slice.sliceFields;refine ae7 (ae7 (afC WM Sg (x:=vl) rfl (ae7 (afC WM Sg (x:=vu) rfl (ae7 (afC WM Sg (x:=.none) rfl (ae8 ?_)))))));refine ae7 (slicePart_none ?_);show wpAny _ _ (if ((1:Int)==0)=true then _ else _) _ _ s;rw[ae_ (by decide)];refine ae7 (zj1 pl (ae7 (zj1 pu (ae7 (ae8 ?_)))));show wpAny _ _ (match Builtin.Slice.sliceAdjust lo hi 1 (n:Int) with | (lo,hi)=>pure (lo,(1:Int),Builtin.Slice.slicePlaces lo hi 1)) _ _ s;rw[zn3 lo hi n];show wpAny _ _ (pure (((dC n 0 lo:Nat):Int),(1:Int),Builtin.Slice.slicePlaces ((dC n 0 lo:Nat):Int) ((dC n n hi:Nat):Int) 1)) _ _ s;rw[znz];exact ae8 h
def Jk(xs:Array Value)(i k:Nat):((List.range k).filterMap λ(m:Nat)=>xs[((i:Int)+(m:Int)*1).toNat]?).toArray=((xs.toList.drop i).take k).toArray:=by
 have e:(λ(m:Nat)=>xs[((i:Int)+(m:Int)*1).toNat]?)=λm=>xs[i+m]?:=by
  funext m;have:((i:Int)+(m:Int)*1).toNat=i+m:=by omega
  rw[this]
 rw[e];have:=pick_run xs i k;rw[List.filterMap_map]at this;have e2:((λx=>xs[x]?)∘λx=>i+x)=λm=>xs[i+m]?:=rfl;rw[e2]at this;rw[this]
def zg6{t sl:Addr}{items:Array Value}{vl vu:Value}{lo hi:Option Int}{Q:Value->Shared->Prop}(ht:IsTup s.heap t items)(hs:s.heap.IsSliceOf sl vl vu .none)(pl:IsPart vl lo)(pu:IsPart vu hi)
  (hw:¬ (dC items.size 0 lo=0/\dC items.size items.size hi=items.size))
  (h:Q (.ref s.heap.objs.size) { s with heap:=s.heap.push { cls:=.type "tuple",data:=.seq ((items.toList.drop (dC items.size 0 lo)).take (dC items.size items.size hi - dC items.size 0 lo)).toArray } })
  (hsz:items.size<=sizeLine):wpAny (model prog w) A (getItem (.ref t) (.ref sl)) Q E s:=by
 have C_:sizeOk (.seq ((items.toList.drop (dC items.size 0 lo)).take (dC items.size items.size hi - dC items.size 0 lo)).toArray):=by
  show ((items.toList.drop (dC items.size 0 lo)).take (dC items.size items.size hi - dC items.size 0 lo)).toArray.size<=sizeLine;rw[gK,m6,nj,mO];omega
 have hj:dC items.size items.size hi<=items.size:=Io _ _ (gf _) hi;obtain⟨os,WM,Qx,Sg⟩:=id hs;have hTs:s.TypeIs (.ref sl) "slice":=⟨os,WM,Qx⟩;unfold getItem
 try with_reducible refine afi ?_
 first | refine ae7 (ae8 ?_) | skip
 refine ae7 (wpAny_sequenceKey ht.typeIs (by decide) ?_);refine ae7 (afj (name:=Str.ofString "__getitem__") ht.typeIs afs
  (afx afs ht.typeIs entry_tuple_getitem ?_ (args_tuple_getitem _ _)))
 show wpAny _ _ (Builtin.Tuple.tupleItemsOf (.ref t) >>= _) _ _ s;refine ae7 (tupleItemsOf_ ht ?_);refine ae7 (wpAny_typeOf hTs ?_);rw[ae9 (by decide)];refine ae7 (ze5 hs pl pu ?_);have Hn:¬ ((((dC items.size 0 lo:Nat):Int)==0 && (1:Int)==1 && (dC items.size items.size hi - dC items.size 0 lo)==items.size)=true):=by
  intro q;rw[m_,m_]at q;have q1:((dC items.size 0 lo:Nat):Int)=0:=eq_of_beq q.1.1;have q2:dC items.size items.size hi - dC items.size 0 lo=items.size:=eq_of_beq q.2;exact hw ⟨by omega,by omega⟩
 show wpAny _ _ (if (((dC items.size 0 lo:Nat):Int)==0 && (1:Int)==1 && (dC items.size items.size hi - dC items.size 0 lo)==items.size)=true then _ else _) _ _ s;rw[ae_ Hn,Jk]
 first
  | exact ae7 (m:=Builtin.Tuple.tupleExact _) (afq (ae8 ⟨_,rfl,ae8 h⟩) C_)
  | exact ae7 (m:=Builtin.Tuple.tupleExact _) (afq (ae7 (ae8 (ae8 ⟨_,rfl,ae8 h⟩))) C_)
  | exact ae7 (ae7 (m:=Builtin.Tuple.tupleExact _) (afq (ae8 (ae8 ⟨_,rfl,ae8 h⟩)) C_))
  | exact ae7 (ae7 (m:=Builtin.Tuple.tupleExact _) (afq (ae8 ⟨_,rfl,ae8 h⟩) C_))
end
end HT
namespace L2
open PySem PySem.Spec PyProof.Rows
noncomputable abbrev TO:=St->Hp->(Option Int->Hp->Prop)->Prop
def PO(X:Cx)(e:Option Expr)(t:TO):Prop :=
 ∀(pins:List (Addr×Obj)) (s:Shared) (σ:St) (H:Hp) (Q:Option Int->Hp->Prop),Inv X pins σ H s->t σ H Q ->
  wpAny (model X.prog X.w) X.A (evalPart e X.env) (λu s'=>∃o H',Inv X pins σ H' s'/\IsPart u o/\Q o H') X.xe s
noncomputable def NZ:TO:=λ_ H Q=>Q none H
noncomputable def aai(t:TE):TO:=fun σ H Q=>t σ H λx H1=>∃i,x=.int i/\Q (some i) H1
section
variable  {X:Cx}{e:Expr}{te:TE}{lo hi:Option Expr}{tl th:TO}{pos p2:Pos}
def O8:PO X none NZ:=by
 intro pins s σ H Q I h;rw[evalPart_none];exact ae8 ⟨none,H,I,.none,h⟩
def O7(h:PE X e te):PO X (some e) (aai te):=by
 intro pins s σ H Q I hw;rw[evalPart_some];refine dO (h pins s σ H _ I hw) λu s1 zz=>?_;obtain⟨x,H1,I1,r1,q1⟩:=zz;obtain⟨i,rfl,q⟩:=q1;obtain⟨t,rfl⟩:=r1;exact⟨some i,H1,I1,.int i t,q⟩
def zG(X:Cx)(r:V->Option Int->Option Int->Hp->VK->Prop):Prop :=
 ∀(pins:List (Addr×Obj)) (s:Shared) (σ:St) (H:Hp) (x:V) (v vl vu:Value) (lo hi:Option Int) (sl:Addr) (Q:VK),Inv X pins σ H s->RelV x v->s.heap.IsSliceOf sl vl vu .none->IsPart vl lo->IsPart vu hi->r x lo hi H Q ->
  ∃T id,typeLookup (.type T) "__getitem__" = pure (some (.builtin id))/\s.TypeIs v T/\wpAny (model X.prog X.w) X.A (getItem v (.ref sl)) (EP X pins σ Q) X.xe s
def zG.or{r r':V->Option Int->Option Int->Hp->VK->Prop}(h:zG X r)(h':zG X r'):zG X (λx lo hi H Q=>r x lo hi H Q\/r' x lo hi H Q):=by
 intro pins s σ H x v vl vu lo hi sl Q I rx hs pl pu q;rcases q with q | q
 ·exact h pins s σ H x v vl vu lo hi sl Q I rx hs pl pu q
 ·exact h' pins s σ H x v vl vu lo hi sl Q I rx hs pl pu q
noncomputable def tSl(r:V->Option Int->Option Int->Hp->VK->Prop)(te:TE)(tl th:TO):TE:=fun σ H Q=>te σ H λx H1=>tl σ H1 λl H2=>th σ H2 λu H3=>r x l u H3 Q
def Jp{r:V->Option Int->Option Int->Hp->VK->Prop}(hr:zG X r)(he:PE X e te)(hl:PO X lo tl)(hu:PO X hi th):PE X (.Subscript e (.Slice lo hi none p2) pos) (tSl r te tl th):=by
 intro pins s σ H Q I h;refine Subscript_ (dO (he pins s σ H _ I h) λv s1 zz=>?_);obtain⟨x,H1,I1,r1,q1⟩:=zz;refine wpAny_Slice (dO (hl pins s1 σ H1 _ I1 q1) λvl s2 zz=>?_);obtain⟨l,H2,I2,pl,q2⟩:=zz;refine dO (hu pins s2 σ H2 _ I2 q2) λvu s3 zz=>?_;obtain⟨u,H3,I3,pu,q3⟩:=zz;rw[evalPart_none];refine ae8 ?_;have I4:Inv X pins σ H3 { s3 with heap:=s3.heap.push { cls:=.type "slice",data:=.fields #[vl,vu,.none] } }:=I3.kept (t':=s3.toks) λb ob q=>gJ _ q;obtain⟨T,id,hT,ht,hg⟩:=hr pins { s3 with heap:=s3.heap.push { cls:=.type "slice",data:=.fields #[vl,vu,.none] } } σ H3 x v vl vu l u s3.heap.objs.size Q I4 r1 (Heap.IsSliceOf.new ..) pl pu q3;show wpAny (model X.prog X.w) X.A (subscriptTail e (.Slice lo hi none p2) v (.ref s3.heap.objs.size)) (EP X pins σ Q) X.xe { s3 with heap:=s3.heap.push { cls:=.type "slice",data:=.fields #[vl,vu,.none] } };exact tail_any (ops:=[.ref s3.heap.objs.size,v]) ht hT hg (by with_unfolding_all rfl)
noncomputable def zE(xs:List V)(lo hi:Option Int):List V:=(xs.drop (HT.dC xs.length 0 lo)).take (HT.dC xs.length xs.length hi - HT.dC xs.length 0 lo)
def ziv(xs:List V)(lo hi:Option Int):(zE xs lo hi).length<=xs.length:=by
 unfold zE;rw[m6,nj];omega
def acR(K:PySem.W.Frag):V->Option Int->Option Int->Hp->VK->Prop:=λx lo hi H Q=>∃a xs,x=.ref a/\tU K H a xs /\
 ¬ (HT.dC xs.length 0 lo=0/\HT.dC xs.length xs.length hi=xs.length)/\∀p,H p=none->Q (.ref p) (upd H p (.tup (zE xs lo hi)))
def U0:zG X (acR X.K):=by
 intro pins s σ H x v vl vu lo hi sl Q I rx hs pl pu h;obtain⟨a,xs,rfl,hx,hw,q⟩:=h;cases rx;obtain⟨its,r,ht,hz⟩:=I.tuple hx;have hlen:its.toArray.size=xs.length:=by rw[gK];exact r.length.symm
 refine⟨"tuple",_,PyProof.Rows.slot_tuple_getitem.lookup,ht.typeIs,?_⟩;refine HT.zg6 ht hs pl pu (by rw[hlen];exact hw) ?_ (by rw[hlen];exact hz);rw[hlen];refine⟨.ref s.heap.objs.size,_,I.laid (t':=s.toks) (o:=.tup (zE xs lo hi)) (λb ob q=>gJ _ q) (gf _) ?_,rfl,q _ (I.cz.fresh (gf _))⟩;exact⟨kO (ziv xs lo hi) hz,_,(r.drop (HT.dC xs.length 0 lo)).take (HT.dC xs.length xs.length hi - HT.dC xs.length 0 lo),IsTup.new _ _⟩
noncomputable def aaK(K:PySem.W.Frag):R2:=λx y H Q=>∃a b xs ys,x=.ref a/\y=.ref b/\tU K H a xs/\tU K H b ys/\xs≠[]/\xs.length+ys.length<=sizeLine /\
 (ys=[]->Q (.ref a) H)/\(ys≠[]->∀p,H p=none->Q (.ref p) (upd H p (.tup (xs++ys))))
def Vals.ym(r:Vals xs us):us=[]↔xs=[]:=by
 cases r with
 | nil=>simp
 | cons _ _=>simp
def Py:fK X (binaryOp .Add) (aaK X.K):=by
 intro pins s σ H x y v u Q I rx ry h;obtain⟨a,b,xs,ys,rfl,rfl,ha,hb,hx,hz,q1,q2⟩:=h;cases rx;cases ry;obtain⟨its,r1,p1,_⟩:=I.tuple ha;obtain⟨o_,r2,p2,_⟩:=I.tuple hb;refine HT.QW p1 p2 (λz=>hx (r1.ym.mp z)) (λz=>⟨.ref a,H,I,rfl,q1 (r2.ym.mp z)⟩) (λz=>?_) (by rw[<-r1.length,<-r2.length];exact hz);refine⟨.ref s.heap.objs.size,_,I.laid (t':=s.toks) (o:=.tup (xs++ys)) (λb ob q=>gJ _ q) (gf _) ?_,rfl,q2 (λw=>z (r2.ym.mpr w)) _ (I.cz.fresh (gf _))⟩;exact⟨by rw[gh];exact hz,_,r1.append r2,IsTup.new _ _⟩
end
noncomputable def yU(n:Nat)(i:Int):Option Nat:=if 0<=i then (if i<n then some i.toNat else none) else if -(n:Int)<=i then some (i+n).toNat else none
noncomputable def uq{α:Type}(xs:List α)(i:Int):Option α:=(yU xs.length i).bind λj=>xs[j]?
def CK(h:yU n i=some j):seqIndex? i n=some j/\j<n/\-(n:Int)<=i/\i<n:=by
 unfold yU at h;by_cases h0:0<=i
 ·rw[ae9 h0]at h;by_cases h1:i<n
  ·rw[ae9 h1]at h;have e:i.toNat=j:=afa h;exact⟨by rw[seqIndex_of h0 h1,e],by omega,by omega,h1⟩
  ·rw[ae_ h1]at h;cases h
 ·rw[ae_ h0]at h;by_cases h1:-(n:Int)<=i
  ·rw[ae9 h1]at h;have e:(i+n).toNat=j:=afa h;exact⟨by rw[seqIndex_neg (by omega) h1,e],by omega,h1,by omega⟩
  ·rw[ae_ h1]at h;cases h
def zoj{α:Type}{xs:List α}{i:Int}{v:α}(h:uq xs i=some v):∃j,seqIndex? i xs.length=some j/\xs[j]? = some v/\j<xs.length/\-(xs.length:Int)<=i/\i<xs.length:=by
 unfold uq at h;cases e:yU xs.length i with
 | none=>rw[e]at h;cases h
 | some j =>
  rw[e]at h;obtain⟨h1,h2,h3,h4⟩:=CK e;exact⟨j,h1,h,h2,h3,h4⟩
def Dw(b:Expr):Prop:=∀o i,subscripted b false o i=operate [o,i] (getItem o i)
def Dy(X:Cx)(r:R2):Prop :=
 ∀(value slice:Expr) (pins:List (Addr×Obj)) (s:Shared) (σ:St) (H:Hp) (x y:V) (v u:Value) (Q:VK),Inv X pins σ H s->RelV x v->RelV y u->r x y H Q ->
  subscripted slice false v u=operate [v,u] (getItem v u)->wpAny (model X.prog X.w) X.A (subscriptTail value slice v u) (EP X pins σ Q) X.xe s
def xx(X:Cx)(id:String)(r:V->List V->Hp->VK->Prop):Prop :=
 ∀(pins:List (Addr×Obj)) (s:Shared) (σ:St) (H:Hp) (x:V) (xs:List V) (v:Value) (us:List Value) (Q:VK),Inv X pins σ H s->RelV x v->Vals xs us->r x xs H Q ->
  wpAny (model X.prog X.w) X.A (call (.builtin id) (v::us)) (EP X pins σ Q) X.xe s
section
variable  {X:Cx}{a b:Expr}{ta tb:TE}{pos:Pos}
def Dy.or{r r':R2}(h:Dy X r)(h':Dy X r'):Dy X (λx y H Q=>r x y H Q\/r' x y H Q):=by
 intro value slice pins s σ H x y v u Q I rx ry q hs;rcases q with q | q
 ·exact h value slice pins s σ H x y v u Q I rx ry q hs
 ·exact h' value slice pins s σ H x y v u Q I rx ry q hs
def aaS(hr:Dy X r)(ha:PE X a ta)(hb:PE X b tb)(hs:Dw b):PE X (.Subscript a b pos) (tOp r ta tb):=by
 intro pins s σ H Q I h;exact Subscript_ (Xx ha hb I h λv u s2 x y H2 I2 rx ry q=>hr a b pins s2 σ H2 x y v u Q I2 rx ry q (hs _ _))
noncomputable def aaJ(K:PySem.W.Frag):R2:=λx y H Q=>∃p xs i v,x=.ref p/\y=.int i/\rO K H p xs/\uq xs i=some v/\Q v H
noncomputable def aaH(K:PySem.W.Frag):R2:=λx y H Q=>∃p xs i v,x=.ref p/\y=.int i/\tU K H p xs/\uq xs i=some v/\Q v H
noncomputable def aaI:R2:=λx y H Q=>∃z i c,x=.str z/\y=.int i/\z.length<=sizeLine/\uq z.cps.toList i=some c/\Q (.str ⟨#[c]⟩) H
def Qh:Dy X (aaJ X.K):=by
 intro value slice pins s σ H x y v u Q I rx ry h hs;obtain⟨p,xs,i,z,rfl,rfl,hq,he,q⟩:=h;cases rx;obtain⟨t,rfl⟩:=ry;obtain⟨its,r,pl,hz⟩:=I.list hq;obtain⟨j,h1,h2,h3,h4,h5⟩:=zoj he;obtain⟨w,ew,z8⟩:=r.get h2;have hl:=r.length;have hn:=sZ;have fin:EP X pins σ Q w s:=⟨z,H,I,z8,q⟩;by_cases h0:0<=i
 ·have hj:i.toNat=j:=by
   rw[seqIndex_of h0 h5]at h1;exact afa h1
  exact item_listR pl.isList h0 (by omega) (by rw[hj];simpa using ew) fin hs
 ·have hj:(i+(its.toArray.size:Int)).toNat=j:=by
   rw[seqIndex_neg (by omega) h4]at h1;rw[gK,<-hl];exact afa h1
  exact subscriptTail_builtinR (x:=w) pl.isList.typeIs slot_list_getitem.lookup
   (wpAny_getItem_list_neg (Q:=λr s'=>r=w/\EP X pins σ Q r s') pl.isList (by omega) (by rw[gK]<;>omega) (by omega) (by rw[hj];simpa using ew) ⟨rfl,fin⟩) hs
def Wh:Dy X (aaH X.K):=by
 intro value slice pins s σ H x y v u Q I rx ry h hs;obtain⟨p,xs,i,z,rfl,rfl,hq,he,q⟩:=h;cases rx;obtain⟨t,rfl⟩:=ry;obtain⟨its,r,pl,hz⟩:=I.tuple hq;obtain⟨j,h1,h2,h3,h4,h5⟩:=zoj he;obtain⟨w,ew,z8⟩:=r.get h2;have hl:=r.length;have hn:=sZ;have fin:EP X pins σ Q w s:=⟨z,H,I,z8,q⟩;exact subscriptTail_builtinR (x:=w) pl.typeIs slot_tuple_getitem.lookup
  (getItem_tuple (j:=j) (Q:=λr s'=>r=w/\EP X pins σ Q r s') pl (by omega) (by omega) (by rw[gK,<-hl];exact h1) (by simpa using ew) ⟨rfl,fin⟩) hs
def Wi:Dy X aaI:=by
 intro value slice pins s σ H x y v u Q I rx ry h hs;obtain⟨z,i,c,rfl,rfl,hz,he,q⟩:=h;obtain⟨t,rfl⟩:=rx;obtain⟨t',rfl⟩:=ry;obtain⟨j,h1,h2,h3,h4,h5⟩:=zoj he;have hl:z.cps.toList.length=z.length:=by simp[Str.length]
 rw[hl]at h1 h4 h5;have hn:=sZ;exact tail_any (typeIs_str s z t) slot_str_getitem.lookup (getItem_str (c:=c) (by
  have e1:decide (i < -(2 ^ 63:Int))=false:=afd (by omega);have e2:decide (i ≥ 2 ^ 63)=false:=afd (by omega);rw[e1,e2,Bool.or_false]) (by rw[h1];simpa using h2) ⟨.str ⟨#[c]⟩,H,I.tok _,⟨_,rfl⟩,q⟩) hs
noncomputable def rIx(K:PySem.W.Frag):R2:=λx y H Q=>aaJ K x y H Q\/aaH K x y H Q\/aaI x y H Q
def Wj:Dy X (rIx X.K):=Qh.or (Wh.or Wi)
def zn4(its:List Value)(n j:Nat)(u:Value):Obj.mapSeq (·.setIfInBounds j u) { cls:=.type "list",data:=.seq its.toArray n }={ cls:=.type "list",data:=.seq (its.set j u).toArray n }:=by
 simp[Obj.mapSeq]
def Inv.lst(I:Inv X pins σ H s)(h:H p=some (.lst xs)) :
  ∃(its:List Value) (n:Nat),Vals xs its/\s.heap.get? p=some { cls:=.type "list",data:=.seq its.toArray n }/\xs.length<=sizeLine:=by
 obtain⟨z,its,n,r,e⟩:=I.cz p _ h;exact⟨its,n,r,e,z⟩
def Inv.VP{pins:List (Addr×Obj)}{σ:St}{H:Hp}{s:Shared}{p:Addr}{xs ys:List V}{its its':List Value}{n n':Nat}{f:Obj->Obj}(I:Inv X pins σ H s)(h:H p=some (.lst xs))
  (ho:s.heap.get? p=some { cls:=.type "list",data:=.seq its.toArray n }) (hf:f { cls:=.type "list",data:=.seq its.toArray n }={ cls:=.type "list",data:=.seq its'.toArray n' }) (r:Vals ys its') (hz:ys.length<=sizeLine) (t:Nat) :
  Inv X pins σ (upd H p (.lst ys)) { s with heap:=s.heap.update p f,toks:=t }:=by
 have e:(s.heap.update p f).get? p=some { cls:=.type "list",data:=.seq its'.toArray n' }:=by
  rw[nq f ho (by rw[hf]<;>rfl),hf]
 refine I.write (x:=p) (e:=p) (by rw[h];trivial) (.inl rfl) (λb u hb q=>(n_ _ _ (afv hb)).trans q) ⟨_,e⟩ ?_;exact⟨hz,its',n',r,e⟩
def aaG:V->V->V->Hp->(Hp->Prop)->Prop:=λo i v H Q=>∃p xs k j,o=.ref p/\i=.int k/\H p=some (.lst xs)/\yU xs.length k=some j/\Q (upd H p (.lst (xs.set j v)))
def set_list:xu X aaG:=by
 intro pins s σ H o i v ov iv u Q I ro ri rv h;obtain⟨p,xs,k,j,rfl,rfl,hp,hj,q⟩:=h;cases ro;obtain⟨t,rfl⟩:=ri;obtain⟨its,n,r,ho,hz⟩:=I.lst hp;obtain⟨h1,h2,h3,h4⟩:=CK hj;have hl:=r.length;have hn:=sZ;have I':Inv X pins σ (upd H p (.lst (xs.set j v))) { s with heap:=s.heap.update p (Obj.mapSeq (·.setIfInBounds j u)) } :=
  I.VP hp ho (zn4 its n j u) (r.set rv j) (by rw[List.length_set];exact hz) s.toks
 by_cases h0:0<=k
 ·have hk:k.toNat=j:=by
   rw[seqIndex_of h0 h4]at h1;exact afa h1
  exact PySem.W.ki_setAt ho h0 (by omega) (by rw[gK,<-hl];exact h4) (by rw[hk];exact⟨_,I',q⟩)
 ·have hk:(k+(its.toArray.size:Int)).toNat=j:=by
   rw[seqIndex_neg (by omega) h3]at h1;rw[gK,<-hl];exact afa h1
  exact PySem.W.ki_setBack ho (by omega) (by rw[gK,<-hl];exact h3) (by omega) (by rw[hk];exact⟨_,I',q⟩)
def zld(lo hi:Option Int)(n:Nat):(sliceBounds lo hi none n).1=((HT.dC n 0 lo:Nat):Int)/\(sliceBounds lo hi none n).2.1=((HT.dC n n hi:Nat):Int)/\(sliceBounds lo hi none n).2.2=1:=by
 refine⟨?_,?_,rfl⟩
 ·cases lo with
  | none=>simp[sliceBounds,HT.dC]
  | some i =>
   simp only[sliceBounds,HT.dC,Option.getD_none,show (1:Int) > 0 by decide,afy];by_cases h:i<0
   ·simp only[h,afy]<;>omega
   ·simp only[h,afF]<;>omega
 ·cases hi with
  | none=>simp[sliceBounds,HT.dC]
  | some i =>
   simp only[sliceBounds,HT.dC,Option.getD_none,show (1:Int) > 0 by decide,afy];by_cases h:i<0
   ·simp only[h,afy]<;>omega
   ·simp only[h,afF]<;>omega
def zkf(its:List Value)(lo hi:Option Int):slicePick its.toArray lo hi none=((its.drop (HT.dC its.length 0 lo)).take (HT.dC its.length its.length hi - HT.dC its.length 0 lo)).toArray:=by
 obtain⟨h1,h2,h3⟩:=zld lo hi its.toArray.size;unfold slicePick;rw[h1,h2,h3];simp only[sliceRange_one,pick_run,gK]<;>rfl
def acT(K:PySem.W.Frag):V->Option Int->Option Int->Hp->VK->Prop:=λx lo hi H Q=>∃a xs,x=.ref a/\rO K H a xs/\∀p,H p=none->Q (.ref p) (upd H p (.lst (zE xs lo hi)))
def Oa:zG X (acT X.K):=by
 intro pins s σ H x v vl vu lo hi sl Q I rx hs pl pu h;obtain⟨a,xs,rfl,hx,q⟩:=h;cases rx;obtain⟨its,r,ht,hz⟩:=I.list hx;have hlen:=r.length;refine⟨"list",_,slot_list_getitem.lookup,ht.isList.typeIs,?_⟩;refine wpAny_getItem_list_slice ht.isList hs pl pu .none (by simp) ?_ (by rw[gK]<;>omega);rw[zkf,<-hlen];refine⟨.ref s.heap.objs.size,_,I.laid (t':=s.toks) (o:=.lst (zE xs lo hi)) (λb ob q=>gJ _ q) (gf _) ?_,rfl,q _ (I.cz.fresh (gf _))⟩;exact⟨kO (ziv xs lo hi) hz,_,0,(r.drop (HT.dC xs.length 0 lo)).take (HT.dC xs.length xs.length hi - HT.dC xs.length 0 lo),h_ _ rfl⟩
noncomputable def tR:V->V->Bool
 | .non,.non=>true
 | .bl a,.bl b=>a==b
 | .bl a,.int b=>(if a then 1 else 0)==b
 | .int a,.bl b=>a==(if b then 1 else 0)
 | .int a,.int b=>a==b
 | .str a,.str b=>a==b
 | _,_=>false
def zlg:cD X (.builtin "len") (λxs H Q=>∃p ys,xs=[.ref p]/\(rO X.K H p ys\/tU X.K H p ys)/\Q (.int ys.length) H):=by
 intro pins s σ H xs us Q I r h;obtain⟨p,ys,rfl,hq,q⟩:=h;obtain⟨u,rfl,rx⟩:=vals1 r;cases rx;have hn:=sZ;rcases hq with hq | hq
 ·obtain⟨its,r',pl,hz⟩:=I.list hq;have hlen:=r'.length;exact Calls.call_len_list pl.isList (by simp only[gK]<;>omega) ⟨.int ys.length,H,I.tok _,⟨s.toks+1,by rw[gK,hlen]⟩,q⟩
 ·obtain⟨its,r',pl,hz⟩:=I.tuple hq;have hlen:=r'.length;exact len_tuple pl (by simp only[gK]<;>omega) ⟨.int ys.length,H,I.tok _,⟨s.toks+1,by rw[gK,hlen]⟩,q⟩
def zk7:cD X (.builtin "len") (λxs H Q=>∃z,xs=[.str z]/\z.length<=sizeLine/\Q (.int z.length) H):=by
 intro pins s σ H xs us Q I r h;obtain⟨z,rfl,hz,q⟩:=h;obtain⟨u,rfl,t,rfl⟩:=vals1 r;have hn:=sZ;exact len_str (by omega) ⟨.int z.length,H,I.tok _,⟨_,rfl⟩,q⟩
def cD.or(h:cD X f r)(h':cD X f r'):cD X f (λxs H Q=>r xs H Q\/r' xs H Q):=by
 intro pins s σ H xs us Q I rs q;rcases q with q | q
 ·exact h pins s σ H xs us Q I rs q
 ·exact h' pins s σ H xs us Q I rs q
def zku:cD X (.type "list") (λxs H Q=>∃p ys,xs=[.ref p]/\(rO X.K H p ys\/tU X.K H p ys)/\∀l,H l=none->Q (.ref l) (upd H l (.lst ys))):=by
 intro pins s σ H xs us Q I r h;obtain⟨p,ys,rfl,hq,q⟩:=h;obtain⟨u,rfl,rx⟩:=vals1 r;cases rx;have fin:∀(its:List Value),Vals ys its->ys.length<=sizeLine->∀(h':Heap) (c':Nat),(∀b o',s.heap.get? b=some o'->h'.get? b=some o') ->
   h'.get? s.heap.objs.size=some { cls:=.type "list",dict:=none,data:=.seq its.toArray c',slots:=#[] }->EP X pins σ Q (.ref s.heap.objs.size) { s with heap:=h' }:=λits r' hz h' c' kp e =>
  ⟨.ref s.heap.objs.size,_,I.laid (t':=s.toks) kp (gf _) (show cH X.prog X.w _ h' _ (.lst ys) from ⟨hz,its,c',r',e⟩),rfl,q _ (I.cz.fresh (gf _))⟩
 rcases hq with hq | hq
 ·obtain⟨its,r',pl,hz⟩:=I.list hq;have hlen:=r'.length;obtain⟨o,ho,hc,n,hd⟩:=pl.isList;exact call_list_seq p (.inl rfl) ho hc hd (λh' c' kp e=>fin its r' hz h' c' kp e) (by simp only[gK]<;>omega)
 ·obtain⟨its,r',pl,hz⟩:=I.tuple hq;have hlen:=r'.length;obtain⟨o,ho,hc,n,hd⟩:=pl;exact call_list_seq p (.inr rfl) ho hc hd (λh' c' kp e=>fin its r' hz h' c' kp e) (by simp only[gK]<;>omega)
def zj8:cD X (.type "tuple") (λxs H Q=>∃p ys,xs=[.ref p]/\((rO X.K H p ys/\∀l,H l=none->Q (.ref l) (upd H l (.tup ys)))\/(tU X.K H p ys/\Q (.ref p) H))):=by
 intro pins s σ H xs us Q I r h;obtain⟨p,ys,rfl,h⟩:=h;obtain⟨u,rfl,rx⟩:=vals1 r;cases rx;rcases h with⟨hq,q⟩ | ⟨hq,q⟩
 ·obtain⟨its,r',pl,hz⟩:=I.list hq;have hlen:=r'.length;refine call_tuple_list pl.isList (λh' kp=>?_) (by simp only[gK]<;>omega);have I1:Inv X pins σ H { s with heap:=h' }:=I.kept (t':=s.toks) kp;have I2:Inv X pins σ (upd H h'.objs.size (.tup ys)) { s with heap:=h'.push { cls:=.type "tuple",data:=.seq its.toArray } } :=
   I1.laid (t':=s.toks) (λb o e=>gJ _ e) (gf _) (show cH X.prog X.w _ _ _ (.tup ys) from ⟨hz,its,r',IsTup.new _ _⟩)
  exact⟨.ref h'.objs.size,_,I2,rfl,q _ (I1.cz.fresh (gf _))⟩
 ·obtain⟨its,r',pl,hz⟩:=I.tuple hq;exact call_tuple_same pl ⟨.ref p,H,I,rfl,q⟩
def tyV(K:PySem.W.Frag)(T:String)(x:V)(H:Hp):Prop:=match x with
 | .str _=>T = "str"
 | .int _=>T = "int"
 | .ref p=>(T = "list"/\∃xs,rO K H p xs)\/(T = "tuple"/\∃o,K.lookup p=some o/\o.cls=.type "tuple"/\o.dict=none) \/
   (T = "dict"/\((∃kvs,H p=some (.dK kvs))\/∃kvs,H p=some (.dT kvs)))\/(T = "set"/\∃S n,H p=some (.set S n))
 | _=>False
def Ut(I:Inv X pins σ H s)(r:RelV x v)(ty:tyV X.K T x H) :
  s.TypeIs v T/\∀a,v=.ref a->∃ob,s.heap.get? a=some ob/\ob.dict=none:=by
 cases x with
 | str z =>
  obtain⟨t,rfl⟩:=r;cases (show T = "str" from ty);exact⟨typeIs_str s z t,λ_ e=>nomatch e⟩
 | int i =>
  obtain⟨t,rfl⟩:=r;cases (show T = "int" from ty);exact⟨typeIs_int s i t,λ_ e=>nomatch e⟩
 | ref p =>
  cases r;rcases ty with⟨rfl,xs,hq⟩ | ⟨rfl,o,hk,hc,hd⟩ | ⟨rfl,hk⟩ | ⟨rfl,S,n,hk⟩
  ·obtain⟨its,_,pl,_⟩:=I.list hq;refine⟨pl.isList.typeIs,λa e=>?_⟩;cases e;obtain⟨o,n,e,c,hd,_⟩:=pl;exact⟨o,e,hd⟩
  ·refine⟨⟨o,I.zN p o hk,hc⟩,λa e=>?_⟩;cases e;exact⟨o,I.zN _ o hk,hd⟩
  ·have z:∃o,s.heap.get? p=some o/\o.ExactDict:=by
    rcases hk with⟨kvs,hk⟩ | ⟨kvs,hk⟩
    ·obtain⟨_,_,_,_,o,_,_,e,ex,_⟩:=I.cz p _ hk;exact⟨o,e,ex⟩
    ·obtain⟨_,_,_,_,o,_,_,e,ex,_⟩:=I.cz p _ hk;exact⟨o,e,ex⟩
   obtain⟨o,e,ex⟩:=z;refine⟨⟨o,e,ex.1⟩,λa e2=>?_⟩;cases e2;exact⟨o,e,ex.2.1⟩
  ·obtain⟨o,_,_,_,e,ex,_⟩:=I.cz p _ hk;refine⟨⟨o,e,ex.1⟩,λa e2=>?_⟩;cases e2;exact⟨o,e,ex.2.1⟩
 | _=>exact False.elim ty
noncomputable def tBM(K:PySem.W.Frag)(T:String)(r:V->List V->Hp->VK->Prop)(to:TE)(t:TA):TE:=fun σ H Q=>to σ H λx H1=>tyV K T x H1/\t σ H1 λxs H2=>r x xs H2 Q
variable  {o e:Expr}{es:List Expr}{to:TE}{t:TA}{name:Str}{apos fW:Pos}{T id:String}{r:V->List V->Hp->VK->Prop}
def aaT(pa:PlainAttrs T)(slot:Slot T name id)(hty:typeOf (.builtin id)=pure (.type "method_descriptor"))(hm:xx X id r)(ho:PE X o to)(ha:PA X (e::es) t)
  (zq:attributeBase o name X.env (eval o X.env)=eval o X.env:=by rfl)
  (K3:((backTo fW (starEach (e::es) X.env)).all (λx=>!x.1) && (backToKw fW (keywordEach [] X.env)).all (λx=>x.1.isSome)
   && decide ((e::es).length+([]:List Keyword).length+(if ([]:List Keyword).isEmpty then 0 else 1)<30))=true:=by rfl)
  (hline:(apos.endLine==fW.line)=true:=by rfl) (hs:starEach (e::es) X.env=(false,eval e X.env)::starEach es X.env:=by rfl) (vY:(backTo fW (starEach es X.env)).any (·.1)=false:=by rfl) :
  PE X (.Call (.Attribute o name apos) (e::es) [] fW) (tBM X.K T r to t):=by
 intro pins s σ H Q I h;refine wpAny_Call_method_late zq K3 hline rfl (dO (ho pins s σ H _ I h) λv s1 zz=>?_);obtain⟨x,H1,I1,r1,ty,q1⟩:=zz;obtain⟨h1,h2⟩:=Ut I1 r1 ty;refine⟨T,id,pa,slot,hty,h1,h2,?_⟩;have hA:=ha fW pins s1 σ H1 _ I1 q1;rw[hs]at hA ⊢;refine Calls.callWith_builtin (by show (false || (backTo fW (starEach es X.env)).any (·.1))=false;rw[vY]<;>rfl) (Calls.evalArgs_plain ?_);refine dO hA λus s2 zz=>?_;obtain⟨vs,H2,I2,r2,q2⟩:=zz;exact hm pins s2 σ H2 x vs v us Q I2 r1 r2 q2
end
def MtM(X:Cx)(id:String)(r:V->List V->Hp->VK->Prop):Prop :=
 ∀(pins:List (Addr×Obj)) (s:Shared) (σ:St) (H:Hp) (x:V) (xs:List V) (v:Value) (us:List Value) (Q:VK),Inv X pins σ H s->RelV x v->Vals xs us->r x xs H Q ->
  wpAny (model X.prog X.w) X.A (call (.builtin id) (v::us)) (EP X pins σ Q) X.xe s
theorem Vals.one:∀{x:V} {us:List Value},Vals [x] us->∃u,us=[u]/\RelV x u
 | _,_,.cons r .nil=>⟨_,rfl,r⟩
section
variable  {X:Cx}{pins:List (Addr×Obj)}{σ:St}{H:Hp}{s:Shared}{l b:Addr}{xs ys zs:List V}
def Inv.aa3{its its':List Value}{n:Nat}{f:Array Value->Array Value}{t':Nat}(I:Inv X pins σ H s)(hH:H l=some (.lst xs))
  (e:s.heap.get? l=some { cls:=.type "list",data:=.seq its.toArray n }) (hf:f its.toArray=its'.toArray) (hv:Vals ys its') (hz:ys.length<=sizeLine) :
  Inv X pins σ (upd H l (.lst ys)) { s with heap:=s.heap.update l (Obj.mapSeq f),toks:=t' }:=by
 have q:=PySem.IsL.update e f;rw[hf]at q;refine I.write (x:=l) (e:=l) (by rw[hH];exact trivial) (.inl rfl) (λb' u hb hu=>(n_ s.heap (Obj.mapSeq f) (afv hb)).trans hu) ⟨_,q⟩ ?_;exact⟨hz,its',_,hv,q⟩
def Inv.ac5(I:Inv X pins σ H s)(hv:Vals ys its)(hz:ys.length<=sizeLine) :
  Inv X pins σ (upd H s.heap.objs.size (.lst ys)) { s with heap:=s.heap.push { cls:=.type "list",data:=.seq its.toArray },toks:=t' } :=
 I.laid (λ_ _ q=>gJ _ q) (gf _) ⟨hz,its,0,hv,h_ _ rfl⟩
def Inv.fresh(I:Inv X pins σ H s):H s.heap.objs.size=none:=I.cz.fresh (gf _)
def Inv.J4(I:Inv X pins σ H s)(hH:H l=some (.lst xs)):xs.length<=sizeLine/\∃(its:List Value) (n:Nat),Vals xs its/\xs.length=its.length/\s.heap.get? l=some { cls:=.type "list",data:=.seq its.toArray n }:=by
 obtain⟨z,its,n,r,e⟩:=I.cz l _ hH;exact⟨z,its,n,r,r.length,e⟩
def JK(h:n<=sizeLine):Builtin.List.listTooLong n=false:=by
 unfold Builtin.List.listTooLong;exact afd (by omega)
end
section
variable  {X:Cx}
def Ow:V->List V->Hp->VK->Prop:=λx vs H Q=>∃l xs y,x=.ref l/\vs=[y]/\H l=some (.lst xs)/\xs.length<sizeLine/\Q .non (upd H l (.lst (xs++[y])))
def zm0:MtM X "list.append" Ow:=by
 intro pins s σ H x vs v us Q I rx rv h;obtain⟨l,xs,y,rfl,rfl,hH,hz,q⟩:=h;cases rx;obtain⟨u,rfl,ru⟩:=rv.one;obtain⟨z,its,n,r,hl,e⟩:=I.J4 hH;refine call_meets F.slot_list_append ⟨_,e,rfl⟩ F.entry_list_append (F.args_list_append_2 _ _) (PySem.list_append l its.toArray n u (by rw[gK];omega)) ⟨e,?_⟩;refine⟨.non,_,I.aa3 (its':=its++[u]) hH e (by simp) (r.append (.cons ru .nil)) ?_,rfl,q⟩;rw[gh,mq];omega
def Ov:V->List V->Hp->VK->Prop:=λx vs H Q=>∃l b xs zs,x=.ref l/\vs=[.ref b]/\H l=some (.lst xs)/\H b=some (.lst zs)/\xs.length+zs.length<=sizeLine/\Q .non (upd H l (.lst (xs++zs)))
def Fy:MtM X "list.extend" Ov:=by
 intro pins s σ H x vs v us Q I rx rv h;obtain⟨l,b,xs,zs,rfl,rfl,hH,hB,hz,q⟩:=h;cases rx;obtain⟨u,rfl,ru⟩:=rv.one;cases ru;obtain⟨z,its,n,r,hl,e⟩:=I.J4 hH;obtain⟨z2,o_,n2,r2,uZ,e2⟩:=I.J4 hB;have hsz:its.toArray.size+o_.toArray.size<=sizeLine:=by rw[gK,gK];omega
 have abu:¬ (!its.toArray.isEmpty && Builtin.List.listTooLong (its.toArray.size+o_.toArray.size))=true:=by
  rw[JK hsz,Bool.and_false];exact mQ
 refine call_meets F.slot_list_extend ⟨_,e,rfl⟩ F.entry_list_extend (F.args_list_extend_2 _ _)
  (AutoSeq1.list_extend_list_list_0 l its.toArray n b o_.toArray n2 abu (by rw[gK];omega) (by omega)) ⟨e,e2,?_⟩
 refine⟨.non,_,I.aa3 (its':=its++o_) hH e (by simp) (r.append r2) ?_,rfl,q⟩;rw[gh];omega
noncomputable def acU:R2:=λx y H Q=>∃l b xs zs,x=.ref l/\y=.ref b/\H l=some (.lst xs)/\H b=some (.lst zs)/\xs.length+zs.length<=sizeLine/\∀p,H p=none->Q (.ref p) (upd H p (.lst (xs++zs)))
def VF:fK X (binaryOp .Add) acU:=by
 intro pins s σ H x y v u Q I rx ry h;obtain⟨l,b,xs,zs,rfl,rfl,hH,hB,hz,q⟩:=h;cases rx;cases ry;obtain⟨z,its,n,r,hl,e⟩:=I.J4 hH;obtain⟨z2,o_,n2,r2,uZ,e2⟩:=I.J4 hB;refine PySem.P.add_list e e2 ?_ (by rw[gK,gK];omega);have ea:its.toArray++o_.toArray=(its++o_).toArray:=by simp
 rw[ea];exact⟨.ref _,_,I.ac5 (t':=s.toks) (r.append r2) (by rw[gh];omega),rfl,q _ I.fresh⟩
end
section
variable  {prog:Program}{w:World}{A:Around}{E:Value->Shared->Prop}{s:Shared}
set_option maxRecDepth 100000 in
end
section
variable  {X:Cx}
end
end L2
namespace Hc
open PySem PySem.W PySem.Calls PyProof.Rows
def zib:∀(ns:List Int) (vs:List Value),WellAll P h vs (ns.map WData.int)->IntsAre vs ns:=by
 intro ns
 induction ns with
 | nil =>
  intro vs w;rw[mU]at w;cases w;exact .nil
 | cons n ns ih =>
  intro vs w;rw[gB]at w;cases w with
  | cons a b =>
   cases a;exact .cons _ _ (ih _ b)
def Es{l:OpenLaw}{n:Nat}(hn:l.most=some n){P:Params}{h:Heap}{args:List WData}{vals:List Value}
  (wZ:l.row.toRowW.claim.pre args=true) (Qn:WellAll P h vals args) :
  ∃a vs ns,vals=[Value.ref a]/\args=[WData.list (ns.map WData.int)]/\h.get? a=some { cls:=.type "list",data:=.seq vs.toArray }/\IntsAre vs ns/\ns.length<=n:=by
 have hsh:WShape.hasAll [] args [.list .int]=true:=(pre_splitW wZ).1;have hc:l.pre.holds [] { args:=args }=true:=(pre_splitW wZ).2;obtain⟨d,r,rfl,h1,h2⟩:=hasAllW_cons hsh;obtain rfl:=hasAllW_nil h2;obtain⟨xs,rfl,h3⟩:=hasW_list h1;obtain⟨ns,rfl⟩:=items_int h3;have hlen:ns.length<=n:=by
  unfold OpenLaw.pre at hc;have h4:(WTm.not (.lt (.lit (.int (n:Int))) (.len (.arg 0)))).holds [] { args:=[.list (ns.map .int)] }=true:=by
   have h4:=(holds_andW hc).1;rw[hn]at h4;exact h4
  have h5:=condW_of h4 (w_not (w_lt w_lit (w_len_list (w_arg rfl))));rw[gq]at h5;refine Nat.le_of_not_lt λq=>?_;have q':(n:Int)<(ns.length:Int):=by omega
  first
   | (rw[afu q']at h5;exact absurd h5 (by decide))
   | (simp at h5;omega)
 cases Qn with
 | cons w1 w2 =>
  cases w2;cases w1 with
  | list ho xm=>exact⟨_,_,ns,rfl,rfl,ho,zib ns _ xm,hlen⟩
def Fd(l:OpenLaw)(args:List WData):l.row.toRowW.claim.post args (.bool true) args=true :=
 postW_of (r:=l.row.toRowW) (X:=(true==true))
  (show WShape.has [] (.bool true) .bool=true by first | rfl | decide | simp[WShape.has,WShape.arms,WShape.armsAll])
  (show (WTm.eq .res (.lit (.bool true))).value [] { args:=args,res:=some (.bool true),after:=args }=some (.bool (true==true)) from w_eq_bool (w_res rfl) w_lit) rfl
def zm5{l:OpenLaw}{n:Nat}{q:Program}{loose:List Str}{XP:(Str->Option Value)->Heap->Prop}{YP:World->Heap->Prop}{d:DefRec}
  (hn:l.most=some n) (hdf:d.params.defaults=[])
  (call:∀(w:World) (aeY aeX:Shared) (mg mb:Str->Option Value) (fa:Addr) (o:Obj) (pm cd doc:Value) (a:Addr) (vs:List Value) (ns:List Int),
   Ground q loose [] XP w aeY mg mb aeX.heap->YP w aeX.heap ->
   aeX.heap.get? fa=some o->o.data=.func (docDef d.name d.params d.body d.scope pm cd doc)->aeX.heap.CodeRec cd d.name->mg d.name=some (.ref fa) ->
   aeX.heap.get? a=some { cls:=.type "list",data:=.seq vs.toArray }->IntsAre vs ns->ns.length<=n->aeX.gens=#[] ->
   codeAny (model l.prog w) callerA (.call (.ref fa) ⟨[.ref a],[]⟩) (λr s'=>r=.ok (.ret (.bool true))/\OldK aeX.heap s'.heap/\s'.os=aeX.os/\AllBare s'.gens) aeX) :
  WalkO q loose XP YP l.row.toRowW d [] (λf vs=>PySem.call f vs):=by
 intro w aeY aeX mg mb G Y fa o pm cd doc dV kV ho hd yD hD hmg hg args vals as wZ hlay hrd Qn hlo;obtain rfl:dV=.none:=Dflts.none hD hdf;obtain rfl:kV=.none:=Dflts.noKw hD;obtain⟨a,vs,ns,rfl,rfl,WQ,hints,hlen⟩:=Es hn wZ Qn;refine enter_call (afP (call w aeY aeX mg mb fa o pm cd doc a vs ns G Y ho (fd_plain hd) yD hmg WQ hints hlen hg) λr s' hq=>?_);obtain⟨rfl,h2,h3,h4⟩:=hq;exact⟨.inl ⟨.bool true,.bool true,[],rfl,λ_=>rfl,.bool true,Fd l _,λ_=>⟨List.Pairwise.nil,λ_ hm=>(nomatch hm)⟩⟩,h2,h3,h4⟩
section
variable  {prog:Program}{w:World}{A:Around}{E:Value->Shared->Prop}{s:Shared}{K:Frag}
noncomputable def vN(h:Heap):Heap:={ h with objs:=#[] }
def zf6(h:Heap)(b:Addr):(vN h).get? b=none:=by
 cases e:(vN h).get? b with
 | none=>rfl
 | some o=>exact absurd (gF e) (Nat.not_lt_zero _)
noncomputable def ledger(h:Heap)(L d:Addr):List (Addr×Obj):=(List.range h.objs.size).filterMap λa=>if a=L\/a=d then none else (h.get? a).map λo=>(a,o)
def zgi:(a,o)∈ledger h L d↔a≠L/\a≠d/\h.get? a=some o:=by
 unfold ledger;rw[pF];constructor
 ·rintro ⟨b,_,e⟩
  split at e
  ·cases e
  ·rename_i hb;obtain⟨o',ho,e'⟩:=gO.mp e;cases e';exact⟨λq=>hb (.inl q),λq=>hb (.inr q),ho⟩
 ·rintro ⟨n1,n2,ho⟩;refine⟨a,List.mem_range.mpr (gF ho),?_⟩;rw[ae_ (show ¬ (a=L\/a=d) from λq=>q.elim n1 n2),ho]<;>rfl
def zm3(tQ:d≠L)(ho:h.get? d=some od):News (vN h) L h ([]++(d,od)::ledger h L d):=by
 rintro ⟨a,o⟩ hp;rcases gj.mp hp with e | hp
 ·cases e;exact⟨ho,tQ,zf6 _ _⟩
 ·obtain⟨n1,n2,e⟩:=zgi.mp hp;exact⟨e,n1,zf6 _ _⟩
def yG(n:h.Ns L m):Fr (vN h) L h m :=
 ⟨n,λb o e=>(by rw[zf6]at e;cases e),mZ _⟩
end
end Hc
namespace L2
open PySem PySem.Spec PyProof.Rows
theorem zmd:∀{vs:List Value} {ns:List Int},IntsAre vs ns->Vals (ns.map V.int) vs
 | _,_,.nil=>.nil
 | _,_,.cons n t h=>.cons ⟨t,rfl⟩ (zmd h)
noncomputable abbrev KOf{K:PySem.W.Frag}{h:Heap}(_:K.In h):PySem.W.Frag:=K
noncomputable def cZ(s:Stmt):Arguments:=match s with
 | .FunctionDef _ a _ _ _ _ _ _ _ _=>a
 | _=>{ posonlyargs:=[],args:=[],vararg:=none,kwonlyargs:=[],kw_defaults:=[],kwarg:=none,defaults:=[] }
noncomputable def cB(s:Stmt):List Stmt:=match s with
 | .FunctionDef _ _ b _ _ _ _ _ _ _=>b
 | _=>[]
noncomputable def aB(s:Stmt):Scope:=match s with
 | .FunctionDef _ _ _ _ _ _ sc _ _ _=>sc
 | _=>{ kind:=.function,names:=[],isGenerator:=false,isCoroutine:=false }
noncomputable abbrev jH:Hr:=λ_ _ _ _ _ _=>False
noncomputable abbrev E0:XK:=λ_ _ _=>False
def Ju:Passes jH X E0:=λ_ _ _ _ _ _ _ h=>h.elim
structure fL(K:PySem.W.Frag)(x qual:Str)(st:Stmt)(f:Addr)(fd:FuncData):Prop where
 ex:∃(oc:Value) (od:Option Addr) (kV doc pm:Value) (an:Option Addr) (cdv ct:Value) (uX:Array (Option Value)),
  fd=PySem.W.fnOf x qual (cZ st) (cB st) (aB st) .none kV doc pm an cdv ct/\K.lookup f=some ⟨oc,od,.func fd,uX⟩/\PySem.W.codeIn K cdv qual=true
 kp:PySem.W.keepIn K (.ref f)=true
section
variable  {P:Program}{w:World}{K:PySem.W.Frag}{mg:Str->Option Value}{base:Heap}
def fL.ok{x qual:Str}{st:Stmt}{f:Addr}{fd:FuncData}{N ps:List Str}{k:Nat}{sp:Sp}(F:fL K x qual st f fd)(S:aZ N ps (aB st))(len:∀vs H Q E,sp vs H Q E->vs.length=ps.length)
  (rm:∀(cdv:Value) (A:Around) (outer:List Env) (s:Shared) (H:Hp) (vs:List V) (Q:VK) (E:XK),dX k (A.deeper (envOfC qual (aB st) s.heap.objs.size f cdv))->sp vs H Q E ->
   ∃t,zH (xn jH P w K mg base N qual (aB st) f cdv A outer s H E).MJ (cB st) t/\t { nx:=λ_ H'=>Q .non H',rt:=Q } (start N vs) H):bu P w K mg base jH (k+1) f fd ps sp:=by
 obtain⟨oc,od,kV,doc,pm,an,cdv,ct,uX,rfl,lk,yD⟩:=F.ex;refine Ld lk yD S len λA outer s H vs Q E hr Gi=>?_;obtain⟨t,h,q⟩:=rm cdv A outer s H vs Q E hr Gi;exact⟨t,h.MJ,q⟩
def fL.binds{x qual:Str}{st:Stmt}{f:Addr}{fd:FuncData}{ps:List Str}(F:fL K x qual st f fd)
  (h:∀(kV doc pm:Value) (an:Option Addr) (cdv ct:Value) (us:List Value),us.length=ps.length->bindArgs (PySem.W.fnOf x qual (cZ st) (cB st) (aB st) .none kV doc pm an cdv ct) ⟨us,[]⟩=pure (ps.zip us)):Binds K fd ps []:=by
 obtain⟨oc,od,kV,doc,pm,an,cdv,ct,uX,rfl,lk,yD⟩:=F.ex;exact .all (h kV doc pm an cdv ct)
def fun_mk{x qual:Str}{st:Stmt}{f:Addr}{oc:Value}{od an:Option Addr}{uX:Array (Option Value)}{kV doc pm cdv ct:Value}(l:K.lookup f=some ⟨oc,od,.func (PySem.W.fnOf x qual (cZ st) (cB st) (aB st) .none kV doc pm an cdv ct),uX⟩)
  (c:PySem.W.codeIn K cdv qual=true) (k:PySem.W.keepIn K (.ref f)=true):fL K x qual st f (PySem.W.fnOf x qual (cZ st) (cB st) (aB st) .none kV doc pm an cdv ct):=⟨⟨oc,od,kV,doc,pm,an,cdv,ct,uX,rfl,l,c⟩,k⟩
end
def jY(hr:dX k A):A.units+1<cLine:=Nat.lt_of_le_of_lt (Nat.add_le_add_left (by decide:1<=64) _) hr.units
section
variable  {X:Cx}
end
def Aj{A B:Prop}(h:B):if false=true then A else B:=by
 rw[ae_ mQ];exact h
def Ai{A B:Prop}(h:A):if true=true then A else B:=by
 rw[ae9 rfl];exact h
def Xo(lo:Nat)(e C dx:Addr)(fl:Option Value)(H:Hp)(h:Heap):Prop :=
 lo<=e/\H e=none/\∃oe vs,h.get? e=some oe/\oe.cls=.ref C/\oe.dict=some dx/\oe.data=.fields vs/\1<vs.size /\
  match fl with
  | none=>vs[1]? = some .none
  | some v=>∃T oT ts,vs[1]? = some (.ref T)/\lo<=T/\T≠e/\H T=none/\h.get? T=some oT/\oT.data=.fields ts/\ts[3]? = some v
section
variable  {X:Cx}
def Jy:fK X (binaryOp .FloorDiv) (rI (λ_ j=>0<j/\j<2 ^ 64) λi j=>.int (i / j)):=by
 refine opI λi j t u s Q E hc h=>?_;obtain⟨h0,h1⟩:=hc;have e:i.fdiv j=i / j:=Int.fdiv_eq_ediv_of_nonneg i (Int.le_of_lt h0);refine floordiv_int (by omega) (by rw[e];exact h) (.inl (PyProof.noPylong_of_log2 ?_));have h2:j.natAbs<2 ^ 64:=by omega
 have h3:j.natAbs≠0:=by omega
 have:=(Nat.log2_lt h3).mpr h2;omega
def LK{prog:Program}{w:World}{A:Around}{E:Value->Shared->Prop}{s:Shared}{t b:Addr}{ws:List Value}{Q:Value->Shared->Prop}(ht:IsTup s.heap t #[])(hb:IsTup s.heap b ws.toArray)
  (h1:Q (.ref b) s):wpAny (model prog w) A (binaryOp .Add (.ref t) (.ref b)) Q E s:=by
 obtain⟨⟨cls,dd,data,sl⟩,ho,hc,n,hd⟩:=id ht;obtain⟨⟨ad4,dd2,data2,sl2⟩,Qt,Ho,n2,hd2⟩:=id hb;simp only at hc hd Ho hd2;subst hc hd Ho hd2;exact concat_meets ⟨_,ho,rfl⟩ ⟨_,Qt,rfl⟩ noFill_tuple_add seq_tuple_add afR afO (afM _ _)
   (tuple_addW0 t b #[] ws.toArray n n2 dd dd2 sl sl2 (by simp)) ⟨ho,Qt,h1⟩
noncomputable def Vc(K:PySem.W.Frag):R2:=λx y H Q=>∃a b ys,x=.ref a/\y=.ref b/\tU K H a []/\tU K H b ys/\Q (.ref b) H
def Jz:fK X (binaryOp .Add) (Vc X.K):=by
 intro pins s σ H x y v u Q I rx ry h;obtain⟨a,b,ys,rfl,rfl,ha,hb,q⟩:=h;cases rx;cases ry;obtain⟨its,r1,p1,_⟩:=I.tuple ha;obtain⟨o_,r2,p2,_⟩:=I.tuple hb;cases r1;exact LK p1 p2 ⟨.ref b,H,I,rfl,q⟩
end
end L2
namespace HT
open PySem PyProof.Rows
section
variable  {prog:Program}{w:World}{A:Around}{E:Value->Shared->Prop}{s:Shared}
def zgj{t sl:Addr}{items:Array Value}{vl vu:Value}{lo hi:Option Int}{Q:Value->Shared->Prop}(ht:IsTup s.heap t items)(hs:s.heap.IsSliceOf sl vl vu .none)(pl:IsPart vl lo)(pu:IsPart vu hi)
  (hw:dC items.size 0 lo=0/\dC items.size items.size hi=items.size)
  (h:Q (.ref t) s):wpAny (model prog w) A (getItem (.ref t) (.ref sl)) Q E s:=by
 obtain⟨os,WM,Qx,Sg⟩:=id hs;have hTs:s.TypeIs (.ref sl) "slice":=⟨os,WM,Qx⟩;unfold getItem
 try with_reducible refine afi ?_
 first | refine ae7 (ae8 ?_) | skip
 refine ae7 (wpAny_sequenceKey ht.typeIs (by decide) ?_);refine ae7 (afj (name:=Str.ofString "__getitem__") ht.typeIs afs
  (afx afs ht.typeIs entry_tuple_getitem ?_ (args_tuple_getitem _ _)))
 show wpAny _ _ (Builtin.Tuple.tupleItemsOf (.ref t) >>= _) _ _ s;refine ae7 (tupleItemsOf_ ht ?_);refine ae7 (wpAny_typeOf hTs ?_);rw[ae9 (by decide)];refine ae7 (ze5 hs pl pu ?_);have Hn:((((dC items.size 0 lo:Nat):Int)==0 && (1:Int)==1 && (dC items.size items.size hi - dC items.size 0 lo)==items.size)=true):=by
  rw[hw.1,hw.2];simp
 show wpAny _ _ (if (((dC items.size 0 lo:Nat):Int)==0 && (1:Int)==1 && (dC items.size items.size hi - dC items.size 0 lo)==items.size)=true then _ else _) _ _ s;rw[ae9 Hn];unfold Builtin.Tuple.tupleIsExact;refine ae7 (ae7 (wpAny_typeOf ht.typeIs ?_));refine ae8 ?_;rw[ae9 (by decide)];exact ae7 (wpAny_rule (ae8 ⟨_,rfl,ae8 h⟩))
end
end HT
namespace L2
open PySem PySem.Spec PyProof.Rows
section
variable  {X:Cx}
def aaF(K:PySem.W.Frag):V->Option Int->Option Int->Hp->VK->Prop:=λx lo hi H Q=>∃a xs,x=.ref a/\tU K H a xs /\
 (HT.dC xs.length 0 lo=0/\HT.dC xs.length xs.length hi=xs.length)/\Q (.ref a) H
def N_:zG X (aaF X.K):=by
 intro pins s σ H x v vl vu lo hi sl Q I rx hs pl pu h;obtain⟨a,xs,rfl,hx,hw,q⟩:=h;cases rx;obtain⟨its,r,ht,hz⟩:=I.tuple hx;have hlen:its.toArray.size=xs.length:=by rw[gK];exact r.length.symm
 refine⟨"tuple",_,PyProof.Rows.slot_tuple_getitem.lookup,ht.typeIs,?_⟩;exact HT.zgj ht hs pl pu (by rw[hlen];exact hw) ⟨.ref a,H,I,rfl,q⟩
end
section
variable  {X:Cx}{pins:List (Addr×Obj)}{σ:St}{H:Hp}{s:Shared}{h':Heap}{t':Nat}
def Inv.Bo{ch:List Addr}{a:Addr}{o:HO}(I:Inv X pins σ H s)(hf:∀b∈ch,qM X pins H b)(k:∀b ob,b∉ch->s.heap.get? b=some ob->h'.get? b=some ob)(hp:s.heap.objs.size<=a)
  (new:cH X.prog X.w (upd H a o) h' a o):Inv X pins σ (upd H a o) { s with heap:=h',toks:=t' }:=by
 have hn:H a=none:=I.cz.fresh hp;have JQ:∀b u,H b=some u->b∉ch:=λb u e hb=>by rw[(hf b hb).1]at e;cases e
 have na:∀b u,H b=some u->b≠a:=λb u e=>yZ e hn;refine I.step (g':=s.gens) (d':=s.drawn) (ch:=ch) (λb hb=>?_) (λb o _ _ hc e _=>k b o hc e) (λb o _ _ hc e _=>⟨o.slots,k b o hc e⟩)
  (λb o _ e n=>by rw[iD (gU (gR (gF e) hp))];exact n)
  (λb o hc e=>⟨o,k b o hc e⟩) (λb xs e=>by rw[iD (na b _ e)];exact e) (λb o u e=>by rw[iD (na b _ e)];exact e) (λb ps e=>⟨#[],by rw[iD (na b _ e),e];simp⟩) (λm hm=>?_) (λb u e=>?_) I.bare
 ·obtain⟨f0,f1,f2,f3,f4,f5⟩:=hf b hb;exact⟨f3,f1,f4,f5⟩
 ·obtain⟨ob,es,ep,ho,r⟩:=hm;exact⟨ob,es,ep,k _ ob (λz=>(hf _ z).2.1 rfl) ho,r⟩
 ·by_cases hb:b=a
  ·subst hb;rw[rQ]at e;cases e;exact new
  ·rw[iD hb]at e;refine (I.cz b u e).tX (λc v hc q=>k c v ?_ q) (λc q=>by rw[iD (na c _ q)];exact q) λc xs q=>by rw[iD (na c _ q)];exact q
   rcases hc with z | z
   ·rw[z];exact JQ b u e
   ·exact JQ c _ z
def Inv.turns{ch:List Addr}(I:Inv X pins σ H s)(hf:∀b∈ch,qM X pins H b)(k:∀b ob,b∉ch->s.heap.get? b=some ob->h'.get? b=some ob):Inv X pins σ H { s with heap:=h',toks:=t' }:=by
 have JQ:∀b u,H b=some u->b∉ch:=λb u e hb=>by rw[(hf b hb).1]at e;cases e
 refine I.step (g':=s.gens) (d':=s.drawn) (ch:=ch) (λb hb=>?_) (λb o _ _ hc e _=>k b o hc e) (λb o _ _ hc e _=>⟨o.slots,k b o hc e⟩)
  (λb o _ e n=>n) (λb o hc e=>⟨o,k b o hc e⟩) (λb xs e=>e) (λb o u e=>e) (λb ps e=>⟨#[],by rw[e];simp⟩) (λm hm=>?_) (λb u e=>?_) I.bare
 ·obtain⟨f0,f1,f2,f3,f4,f5⟩:=hf b hb;exact⟨f3,f1,f4,f5⟩
 ·obtain⟨ob,es,ep,ho,r⟩:=hm;exact⟨ob,es,ep,k _ ob (λz=>(hf _ z).2.1 rfl) ho,r⟩
 ·refine (I.cz b u e).tX (λc v hc q=>k c v ?_ q) (λc q=>q) λc xs q=>q;rcases hc with z | z
  ·rw[z];exact JQ b u e
  ·exact JQ c _ z
end
noncomputable def Ite(K:PySem.W.Frag)(a:Addr):It :=
 ⟨λi H=>∃xs x,rO K H a xs/\xs[i]? = some x,
  λi H y H'=>∃p x,H p=none/\y=.ref p/\H'=upd H p (.tup [.int i,x])/\∀xs,rO K H a xs->xs[i]? = some x,
  λi H=>∃xs,rO K H a xs/\xs.length<=i⟩
def Ec{P:Program}{w:World}{K:PySem.W.Frag}{elts:List Expr}{x1:Nat}{pos:Pos}(a e it:Addr)(tQ:e≠it) :
  Turn P w K (.Tuple elts x1 pos) (Ite K a) [e,it] e (λi h=>∃old,IsEnum h e it (i:Int) old/\h.IsListIter it a i) where
 mem:=by simp
 obj:=λi h st b hb=>by
  obtain⟨old,h1,h2⟩:=st;rcases gj.mp hb with rfl | hb
  ·exact⟨_,h1,λv z=>by cases z⟩
  ·have e:b=it:=by simpa using hb
   subst e;obtain⟨o,q,c,d⟩:=h2;exact⟨o,q,λv z=>by rw[d]at z;cases z⟩
 keep:=λi h h' st k=>by
  obtain⟨old,h1,h2⟩:=st;exact⟨old,k e (by simp) _ h1,h2.at λo q=>k it (by simp) o q⟩
 item:=by
  intro X hP hw hK hc i pins s σ H E I hf st hg;subst hP hw hK;obtain⟨xs,x,hq,hx⟩:=hg;obtain⟨old,h1,h2⟩:=st;obtain⟨its,rv,p,hz⟩:=I.list hq;obtain⟨u,hu,ru⟩:=rv.get hx;refine wpAny_pyNext_enum_item h1 h2 p.isList (x:=u) (by simpa using hu) tQ λae5 Sd hit ht hsz hk=>?_;refine⟨_,rfl,wpAny_letOwnedTupleGo_enum Sd λae4 aeL abj=>?_⟩;replace abj:Heap.SameBut e ae5 ae4:=abj;have KY:e<s.heap.objs.size:=gF h1;have ac_:it<s.heap.objs.size:=by obtain⟨o,q,_⟩:=h2;exact gF q
  have ht2:ae4.get? s.heap.objs.size=some { cls:=.type "tuple",data:=.seq #[.int i s.toks,u] }:=by rw[abj.2 _ (mY KY)];exact ht
  have kk:∀b ob,b∉[e,it]->s.heap.get? b=some ob->ae4.get? b=some ob:=λb ob hb q=>by
   have b1:b≠e:=λz=>hb (by simp[z]);have b2:b≠it:=λz=>hb (by simp[z]);exact abj.extBut b ob b1 (hk b ob b1 b2 q)
  refine⟨.ref s.heap.objs.size,upd H s.heap.objs.size (.tup [.int i,x]),I.Bo hf kk (gf _) ?_,rfl,⟨_,x,I.cz.fresh (gf _),rfl,rfl,λys hy=>by rw[I.zg hy hq];exact hx⟩,?_,λb hb=>?_⟩
  ·refine⟨by show 2<=sizeLine;decide,[.int i s.toks,u],.cons ⟨_,rfl⟩ (.cons ru .nil),?_⟩;exact⟨_,ht2,rfl,_,rfl⟩
  ·refine⟨u,?_,hit.extBut abj.extBut (afv tQ)⟩;have:(i:Int)+1=((i+1:Nat):Int):=by omega
   rw[<-this];exact aeL
  ·rw[iD]
   ·exact (hf b hb).1
   ·intro z;subst z;rcases gj.mp hb with z | z
    ·exact mY KY z
    ·exact mY ac_ (by simpa using z)
 done:=by
  intro X hP hw hK hc i pins s σ H E I hf st hg;subst hP hw hK;obtain⟨xs,hq,hx⟩:=hg;obtain⟨old,h1,h2⟩:=st;obtain⟨its,rv,p,hz⟩:=I.list hq;have hl:=rv.length;exact wpAny_pyNext_enum_end (I.ok.hd hc) h1 h2 p.isList (by simp;omega) λh' eb=>⟨rfl,I.turns (t':=s.toks) (ch:=[e,it]) hf λb o hb q=>eb b o (λz=>hb (by simp[z])) q⟩
 self:=λ_ _ _ _ _ st h=>by
  obtain⟨old,h1,h2⟩:=st;exact wpAny_pyIter_enum h1 h
noncomputable def abf(K:PySem.W.Frag)(ta:TA):TI:=fun σ H R=>ta σ H λvs H1=>∃a,vs=[.ref a]/\(∃xs,rO K H1 a xs)/\R (Ite K a) H1
def G3:bootBuiltins "enumerate" = some (.type "enumerate"):=by decide +kernel
def O_{X:Cx}{elts:List Expr}{x1:Nat}{Ed:Pos}{a:Expr}{ta:TA}{p pos:Pos}(hg:Gl X "enumerate")(hm:X.mg "enumerate" = none)(ha:PA X [a] ta)(hs:starEach [a] X.env=[(false,eval a X.env)]:=by rfl) :
  PI X (.Tuple elts x1 Ed) (.Call (.Name "enumerate" p) [a] [] pos) (abf X.K ta):=by
 intro pins s σ H R I h;refine Call_ (Tv I hg hm G3 (afh (dO (ha pos pins s σ H _ I h) λus s1 zz=>?_) hs rfl));obtain⟨vs,H1,I1,r1,q1⟩:=zz;obtain⟨l,e,⟨xs,hq⟩,q⟩:=q1;subst e;cases r1 with
 | cons r rr =>
  cases rr;cases r;obtain⟨its,rv,pl,hz⟩:=I1.list hq;refine call_enumerate_list pl.isList λh' he hit hsz hk=>?_;refine wpAny_pyIter_enum he ?_;have I2:Inv X pins σ H1 { s1 with heap:=h' }:=I1.kept (t':=s1.toks) hk;refine⟨s1.heap.objs.size+1,[s1.heap.objs.size+1,s1.heap.objs.size],_,_,H1,rfl,I2,Ec l _ _ (mY (nY _)),⟨.none,he,hit⟩,λb hb=>?_,q⟩;have yE:s1.heap.objs.size<=b:=by
   rcases gj.mp hb with z | z
   ·rw[z];exact Nat.le_succ _
   ·have:b=s1.heap.objs.size:=by simpa using z
    rw[this];exact gf _
  exact I1.yH yE (I1.cz.fresh yE)
def boot_zip:bootBuiltins "zip" = some (.type "zip"):=by decide +kernel
def zka(h:∀x∈scope.names,x.2=.free->∃c,env.cells.lookup x.1=some c) :
  ∃cl,closureFor scope env=pure cl/\(∀x c,cl.lookup x=some c->env.cells.lookup x=some c)/\∀x,(x,NameKind.free)∈scope.names->∃c,cl.lookup x=some c:=by
 have key:∀(names:List (Str×NameKind)) (acc:List (Str×Addr)),(∀x∈names,x.2=.free->∃c,env.cells.lookup x.1=some c)->(∀x c,acc.lookup x=some c->env.cells.lookup x=some c) ->
   ∃cl,(forIn names acc λ(x:Str×NameKind) (cs:List (Str×Addr))=>(if x.2 == .free then do let a <-cellOf env x.1;pure (ForInStep.yield ((x.1,a)::cs)) else pure (ForInStep.yield cs):Sem _))=pure cl/\(∀x c,cl.lookup x=some c->env.cells.lookup x=some c) /\
    (∀x,(x,NameKind.free)∈names->∃c,cl.lookup x=some c)/\∀x c,acc.lookup x=some c->∃c',cl.lookup x=some c':=by
  intro names
  induction names with
  | nil=>intro acc _ ha;exact⟨acc,rfl,ha,⟨(λx hx=>nomatch hx),λx c q=>⟨c,q⟩⟩⟩
  | cons y r ih =>
   intro acc hn ha;obtain⟨n,k⟩:=y;have hr:∀x∈r,x.2=.free->∃c,env.cells.lookup x.1=some c:=λx hx=>hn x (kW _ hx);by_cases hk:k=.free
   ·subst hk;obtain⟨c,hc⟩:=hn (n,.free) (by simp) rfl;have ha':∀x c',((n,c)::acc).lookup x=some c'->env.cells.lookup x=some c':=λx c' q=>by
     rw[kY]at q;cases e:x==n with
     | true=>rw[e]at q;cases q;rw[eq_of_beq e];exact hc
     | false=>rw[e]at q;exact ha x c' q
    obtain⟨cl,h1,h2,h3,h4⟩:=ih ((n,c)::acc) hr ha';refine⟨cl,?_,h2,λx hx=>?_,λx c' q=>?_⟩
    ·rw[ph];simp only[beq_self_eq_true,afy,cellOf,hc];exact h1
    ·rcases gj.mp hx with e | hx
     ·cases e;exact h4 n c (by simp)
     ·exact h3 x hx
    ·cases e:x==n with
     | true=>exact h4 x c (by rw[kY,e])
     | false=>exact h4 x c' (by rw[kY,e];exact q)
   ·have hb:(k==NameKind.free)=false:=by simpa using hk
    obtain⟨cl,h1,h2,h3,h4⟩:=ih acc hr ha;refine⟨cl,?_,h2,λx hx=>?_,h4⟩
    ·rw[ph];simp only[hb,nu,afF];exact h1
    ·rcases gj.mp hx with e | hx
     ·cases e;exact absurd rfl hk
     ·exact h3 x hx
 obtain⟨cl,h1,h2,h3,_⟩:=key scope.names [] h (λx c q=>by simp at q);refine⟨cl,?_,h2,h3⟩;unfold closureFor;show (forIn scope.names [] (λ(x:Str×NameKind) (cs:List (Str×Addr))=>(if x.2 == .free then do let a <-cellOf env x.1;pure (ForInStep.yield ((x.1,a)::cs)) else pure (ForInStep.yield cs):Sem _)) >>= λcs=>pure cs)=pure cl;rw[h1]
 rfl
theorem zd2{f:Str×NameKind->Str×NameKind}(h1:∀p,(f p).1=p.1):∀{names:List (Str×NameKind)} {x:Str},(names.map f).lookup x=(names.lookup x).map λk=>(f (x,k)).2
 | [],_=>rfl
 | (n,j)::r,x=>by
  rw[gB];have e:f (n,j)=(n,(f (n,j)).2):=by
   have:=h1 (n,j);exact Prod.ext this rfl
  rw[e,kY,kY];cases hx:x==n with
  | true=>rw[eq_of_beq hx];rfl
  | false=>exact zd2 h1
noncomputable def z9(env:Env)(p:Str×NameKind):Str×NameKind:=if (p.2 == .free && env.scope.kind == .function && env.kindOf p.1==some .cell)=true then (p.1,.cell) else (p.1,p.2)
def zpt(env:Env)(p:Str×NameKind):(z9 env p).1=p.1:=by unfold z9;split<;>rfl
def zoq(env:Env)(p:Str×NameKind):(z9 env p).2=p.2\/(p.2=.free/\(z9 env p).2=.cell):=by
 unfold z9
 split
 ·rename_i h;rw[m_,m_]at h;exact .inr ⟨eq_of_beq h.1.1,rfl⟩
 ·exact .inl rfl
def zg0(scope:Scope)(env:Env):(relabel scope env).names=scope.names.map (z9 env):=rfl
def zf5{scope:Scope}{env:Env}{x:Str}{k:NameKind}(h:(relabel scope env).names.lookup x=some k):scope.names.lookup x=some k\/(scope.names.lookup x=some .free/\k=.cell):=by
 rw[zg0,zd2 (zpt env)]at h;cases e:scope.names.lookup x with
 | none=>rw[e]at h;cases h
 | some j =>
  rw[e]at h;have h':(z9 env (x,j)).2=k:=afa h;rcases zoq env (x,j) with q | ⟨q1,q2⟩
  ·rw[q]at h';exact .inl (by rw[<-h'])
  ·rw[q2]at h';exact .inr ⟨by rw[show j=NameKind.free from q1],h'.symm⟩
def zft{scope:Scope}{env:Env}{x:Str}(h:scope.names.lookup x=some .free):(relabel scope env).names.lookup x=some .cell\/(relabel scope env).names.lookup x=some .free:=by
 rw[zg0,zd2 (zpt env),h];rcases zoq env (x,.free) with q | ⟨_,q⟩
 ·exact .inr (by rw[m7,q])
 ·exact .inl (by rw[m7,q])
theorem mem_of_lookup[BEq α][LawfulBEq α]:∀{l:List (α×β)},l.lookup x=some k->(x,k)∈l
 | [],h=>by simp at h
 | (n,j)::r,h=>by
  rw[kY]at h;cases e:x==n with
  | true=>rw[e]at h;cases h;rw[eq_of_beq e];simp
  | false=>rw[e]at h;exact kW _ (mem_of_lookup h)
noncomputable def dH(X:Cx)(N:List Str)(scope:Scope)(cl:List (Str×Addr))(C:Addr)(fp:List Addr)(s:Shared)(H:Hp):Cx :=
 { X with N:=N,aeY:=s,ae6:=H,env:=compEnvC scope cl C X.env,outer:=X.stack,stack:=X.stack,ex:=fp,fn:=λ_=>false,pn:=[],xe:=λ_ _=>False }
structure jC(scope:Scope):Prop where
 kind:scope.kind=.function
 cell:∀y∈scope.names,y.2≠.cell
 names:∀y∈scope.names,y.2=.local->scope.names.lookup y.1=some .local
def qN(X:Cx)(scope:Scope):List (Option Nat)->List Str->Prop
 | [],[]=>True
 | none::r,_::xs=>qN X scope r xs
 | some j::r,x::xs=>(X.N[j]? = some x/\(X.env.kindOf x=some .cell\/X.env.kindOf x=some .free)/\scope.names.lookup x=some .free)/\qN X scope r xs
 | _,_=>False
noncomputable def oO(capt:List (Option Nat))(σ:St):St:=capt.map λo=>o.bind λj=>(σ[j]?).join
theorem qN.len:∀{capt:List (Option Nat)} {N:List Str},qN X scope capt N->capt.length=N.length
 | [],[],_=>rfl
 | none::r,_::xs,h=>by simp[qN.len (show qN X scope r xs from h)]
 | some j::r,x::xs,h=>by simp[qN.len h.2]
 | [],_::_,h=>h.elim
 | none::_,[],h=>h.elim
 | some _::_,[],h=>h.elim
theorem qN.at_:∀{capt:List (Option Nat)} {N:List Str} {i j:Nat} {x:Str},qN X scope capt N->capt[i]? = some (some j)->N[i]? = some x ->
  X.N[j]? = some x/\(X.env.kindOf x=some .cell\/X.env.kindOf x=some .free)/\scope.names.lookup x=some .free
 | [],[],_,_,_,_,e,_=>by simp at e
 | none::r,y::xs,0,_,_,_,e,_=>by simp at e
 | none::r,y::xs,i+1,_,_,h,e,e2=>qN.at_ (i:=i) (show qN X scope r xs from h) (by simpa using e) (by simpa using e2)
 | some k::r,y::xs,0,_,_,h,e,e2=>by
  simp at e e2;subst e e2;exact h.1
 | some k::r,y::xs,i+1,_,_,h,e,e2=>qN.at_ (i:=i) h.2 (by simpa using e) (by simpa using e2)
 | [],_::_,_,_,_,h,_,_=>h.elim
 | none::_,[],_,_,_,h,_,_=>h.elim
 | some _::_,[],_,_,_,h,_,_=>h.elim
section
variable  {X:Cx}{pins:List (Addr×Obj)}{σ:St}{H:Hp}{s:Shared}{N:List Str}{scope:Scope}{cl:List (Str×Addr)}{C:Addr}{fp:List Addr}{capt:List (Option Nat)}
def QS(I:Inv X pins σ H s)(S:jC scope)(uc:∀x c,cl.lookup x=some c->X.env.cells.lookup x=some c)(xm:∀x,(x,NameKind.free)∈scope.names->∃c,cl.lookup x=some c)
  (hC:s.heap.objs.size<=C) (hf:∀b∈fp,qM X pins H b) (hb:∀b∈fp,b<s.heap.objs.size):(dH X N scope cl C fp s H).Ok where
 mod:=I.ok.mod
 kind:=S.kind
 glob:=I.ok.glob
 blt:=I.ok.blt
 above:=hC
 inj:=λx y c h1 h2=>I.ok.inj x y c (uc x c h1) (uc y c h2)
 has:=λx hx=>by
  have q:scope.names.lookup x=some .free:=by
   rcases hx with hx | hx
   ·rcases zf5 hx with e | ⟨e,_⟩
    ·exact absurd rfl (S.cell _ (mem_of_lookup e))
    ·exact e
   ·rcases zf5 hx with e | ⟨e,_⟩
    ·exact e
    ·exact e
  exact xm x (mem_of_lookup q)
 Tf:=λx c h=>by cases h
 hd:=I.ok.hd
 frames:=I.ok.frames
 Yu:=.inl rfl
 exf:=λb yE=>⟨gU (gR (hb b yE) hC),λx c h=>(hf b yE).2.2.2.2.1 x c (uc x c h)⟩
 bs:=I.bs
 GZ:=kO I.ok.GZ I.sz
 Ft:=λb o e yE=>by
  rcases (hf b yE).2.2.2.1 with z | z
  ·exact I.ok.Ft b o e z
  ·exact absurd (gF e) (Nat.not_lt.mpr (kO I.ok.GZ z))
 Lg:=λb yE z=>by
  rcases gj.mp (I.vK b z) with e | e
  ·exact (hf b yE).2.1 e
  ·exact (hf b yE).2.2.1 e
 sE:=I.stack
 Lb:=I.By
def Ly(I:Inv X pins σ H s)(S:jC scope)(uc:∀x c,cl.lookup x=some c->X.env.cells.lookup x=some c)(xm:∀x,(x,NameKind.free)∈scope.names->∃c,cl.lookup x=some c) 
  (hC:s.heap.objs.size<=C) (hf:∀b∈fp,qM X pins H b) (hb:∀b∈fp,b<s.heap.objs.size) (vA:qN X scope capt N) (hn:h'.Ns C m) (hk:∀b o,s.heap.get? b=some o->h'.get? b=some o) :
  Inv (dH X N scope cl C fp s H) [] (oO capt σ) H { s with heap:=h',toks:=t' } where
 ok:=QS I S uc xm hC hf hb
 os:=rfl
 bare:=I.bare
 base:=Un.kept hk
 loc:=by
  refine⟨m,hn,λi x v hN hv aeF=>?_⟩;have hN':N[i]? = some x:=hN;unfold oO at hv;rw[gH]at hv;cases e:capt[i]? with
  | none=>rw[e]at hv;cases hv
  | some o =>
   rw[e]at hv;cases o with
   | none=>cases hv
   | some j =>
    have Ak:(σ[j]?).join=some v:=by simpa using hv
    have xP:σ[j]? = some (some v):=by
     cases q:σ[j]? with
     | none=>rw[q]at Ak;cases Ak
     | some z=>rw[q]at Ak;cases Ak;rfl
    obtain⟨h1,h2,h3⟩:=vA.at_ e hN';obtain⟨m0,hm0,hl⟩:=I.loc;have hvx:Vis X.env.scope x:=by
     rcases h2 with h2 | h2
     ·exact .inr (.inl h2)
     ·exact .inr (.inr h2)
    obtain⟨u,r,lk⟩:=hl j x v h1 xP hvx;refine⟨u,r,?_⟩;rcases lk with⟨k1,_⟩ | ⟨_,c,k2,k3⟩
    ·rcases h2 with h2 | h2<;>(rw[h2]at k1;cases k1)
    ·obtain⟨c',W_⟩:=xm x (mem_of_lookup h3);have:=uc x c' W_;rw[k2]at this;cases this;refine .inr ⟨zft h3,c,W_,?_⟩;obtain⟨o,e1,e2⟩:=k3;exact⟨o,hk c o e1,e2⟩
 cell:=λx c h=>by
  obtain⟨v,o,e1,e2⟩:=I.cell x c (uc x c h);exact⟨v,o,hk c o e1,e2⟩
 free:=I.cz.fresh hC
 pU:=λx c h=>I.pU x c (uc x c h)
 pin:=λp hp=>by simp[dH]at hp
 cz:=I.cz.kept hk
 len:=by show (oO capt σ).length=N.length;unfold oO;rw[gq];exact vA.len
end
noncomputable abbrev Bt(ifs:List Expr)(env:Env):Sem Bool:=forIn ifs true λc r=>if r=true then do let ok <-isTrue c env (eval c env);pure (ForInStep.yield ok) else pure (ForInStep.yield r)
theorem zlk(I:Nat->Shared->Prop) 
  (turn:∀n s,I n s->wpAny (model prog w) A (pyNext it) (λr aeX=>match r with
   | none=>R (.ok .next) aeX
   | some v=>wpAny (model prog w) A (letOwnedTupleGo target it v) (λ_ aeg=>wpAny (model prog w) A (assign target env v) (λ_ aeW =>
     wpAny (model prog w) A (Bt ifs env) (λok aeV =>
      if ok=true then wpAny (model prog w) A (eval elt env) (λx aeU =>
       wpAny (model prog w) A (call (.builtin "list.append") [acc,x]) (λ_ aeT=>∃m,m<n/\I m aeT) (λ_ _=>False) aeU) (λ_ _=>False) aeV
      else ∃m,m<n/\I m aeV) (λ_ _=>False) aeW) (λ_ _=>False) aeg) (λ_ _=>False) aeX) (λ_ _=>False) s)
  (n:Nat) (h:I n s) :
  codeAny (model prog w) A (.compLoop (.ListComp elt [⟨target,iter,ifs,0⟩] scope pos) 0 it acc env) R s:=by
 refine codeAny_loop rfl I (λn s hI=>?_) n h;show wpAny _ A ((compTurn (.ListComp elt [⟨target,iter,ifs,0⟩] scope pos) 0 it acc env).onRaise (λx=>do noteFrame x env;theTreesLotGoes x)) _ _ s;refine wpAny_noted ?_;rw[compTurn_list];refine ae7 (wpAny_standAt (ae7 (afr (turn n s hI) (λr aeX ae5=>?_) λ_ _ h'=>h'.elim)));cases r with
 | none=>exact ae8 ae5
 | some v =>
  refine ae7 (afr ae5 (λ_ aeg aeD=>?_) λ_ _ h'=>h'.elim);refine ae7 (afr aeD (λ_ aeW ae4=>ae7 (afr ae4 (λok aeV ae3=>?_) λ_ _ h'=>h'.elim)) λ_ _ h'=>h'.elim);cases ok with
  | false=>exact ae8 ⟨rfl,ae3⟩
  | true =>
   exact ae7 (ae7 (afr ae3 (λx aeU ae2=>ae7 (afr ae2 (λ_ aeT ae1=>ae8 (ae8 ⟨rfl,ae1⟩)) λ_ _ h'=>h'.elim)) λ_ _ h'=>h'.elim))
def Zn(X:Cx)(ifs:List Expr)(t:TT):Prop :=
 ∀(pins:List (Addr×Obj)) (s:Shared) (σ:St) (H:Hp) (Q:Bool->Hp->Prop),Inv X pins σ H s->t σ H Q->wpAny (model X.prog X.w) X.A (Bt ifs X.env) (TP X pins σ Q) X.xe s
def Oz:Zn X [] (fun σ H Q=>Q true H):=λpins s σ H Q I h=>wpAny_tests_nil ⟨H,I,h⟩
noncomputable def Ib(capt:List (Option Nat))(wi:TI)(g:TG)(tt:TT)(te:TE):TE:=fun σ H Q=>wi σ H λJ H1=>∀D,H1 D=none->∃W:Nat->Nat->St->Hp->Prop,(∃m,W 0 m (oO capt σ) (upd H1 D (.lst []))) /\
 ∀i m σ' H',W i m σ' H'->(J.stop i H'/\Q (.ref D) H')\/(J.go i H'/\∃N:St->Hp->Prop,(∀σ2 H2,N σ2 H2->∃m',m'<m/\W (i+1) m' σ2 H2) /\
  ∀x H2,J.yld i H' x H2->g x σ' H2 fun σ3 H3=>tt σ3 H3 λok H4=>if ok=true then te σ3 H4 λy H5=>∃xs,H5 D=some (.lst xs)/\xs.length<sizeLine/\N σ3 (upd H5 D (.lst (xs++[y]))) else N σ3 H4)
section
variable  {X:Cx}{elt tg iter:Expr}{ifs:List Expr}{scope:Scope}{pos:Pos}{N:List Str}{capt:List (Option Nat)}{wi:TI}{g:TG}{tt:TT}{te:TE}
def zkh{pins:List (Addr×Obj)}{σ:St}{H:Hp}{s:Shared}{it:Addr}{fp:List Addr}{tn:Nat->Heap->Prop}{J:It}{cl:List (Str×Addr)}{Q:VK}{E:Value->Shared->Prop}{RR:Value->Addr->Result->Shared->Prop}
  (I:Inv X pins σ H s) (T:Turn X.prog X.w X.K tg J fp it tn) (st:tn 0 s.heap) (hf:∀b∈fp,qM X pins H b)
  (S:jC scope) (uc:∀x c,cl.lookup x=some c->X.env.cells.lookup x=some c) (xm:∀x,(x,NameKind.free)∈scope.names->∃c,cl.lookup x=some c) (vA:qN X scope capt N) (hc:X.calm=true)
  (hg:∀cl C fp s H,PG (dH X N scope cl C fp s H) tg g) (ht:∀cl C fp s H,Zn (dH X N scope cl C fp s H) ifs tt) (he:∀cl C fp s H,PE (dH X N scope cl C fp s H) elt te)
  (h:∀D,H D=none->∃W:Nat->Nat->St->Hp->Prop,(∃m,W 0 m (oO capt σ) (upd H D (.lst []))) /\
   ∀i m σ' H',W i m σ' H'->(J.stop i H'/\Q (.ref D) H')\/(J.go i H'/\∃N:St->Hp->Prop,(∀σ2 H2,N σ2 H2->∃m',m'<m/\W (i+1) m' σ2 H2) /\
    ∀x H2,J.yld i H' x H2->g x σ' H2 fun σ3 H3=>tt σ3 H3 λok H4=>if ok=true then te σ3 H4 λy H5=>∃xs,H5 D=some (.lst xs)/\xs.length<sizeLine/\N σ3 (upd H5 D (.lst (xs++[y]))) else N σ3 H4))
  (hRR:∀(D C:Addr) (H':Hp) (s':Shared) (m:Str->Option Value),s'.heap.Ns C m->Inv X pins σ H' s'->qM X pins H' C->Q (.ref D) H'->RR (.ref D) C (.ok .next) s') :
  wpAny (model X.prog X.w) X.A (newList []) (λacc aeV=>wpAny (model X.prog X.w) X.A (newFunctionEnv scope X.env.globals cl [] X.env.qual none .none (some X.env)) (λabJ aeU =>
   codeAny (model X.prog X.w) X.A (.compStart (.ListComp elt [⟨tg,iter,ifs,0⟩] scope pos) 0 (.ref it) acc { abJ with scope:=relabel scope X.env }) (RR acc abJ.locals) aeU) E aeV) E s:=by
 have hD:H s.heap.objs.size=none:=I.cz.fresh (gf _);have I3:Inv X pins σ (upd H s.heap.objs.size (.lst [])) { s with heap:=s.heap.push { cls:=.type "list",dict:=none,data:=.seq ([]:List Value).toArray } } :=
  I.laid (t':=s.toks) (λb o q=>gJ _ q) (gf _) ⟨by show 0<=sizeLine;decide,[],0,.nil,h_ _ rfl⟩
 obtain⟨W,⟨m0,w0⟩,turn⟩:=h _ hD;refine afq (wpAny_newFunctionEnv S.cell (by intro y hy;simp at hy) (λae5 WR Wv=>?_) S.kind);dsimp only at WR Wv ⊢;generalize hH2:s.heap.push { cls:=.type "list",dict:=none,data:=.seq ([]:List Value).toArray }=Hh at WR Wv I3 ⊢;have SM:∀b∈fp,b<s.heap.objs.size:=λb hb=>by
  obtain⟨o,e,_⟩:=T.obj 0 s.heap st b hb;exact gF e
 have szH:Hh.objs.size=s.heap.objs.size+1:=by rw[<-hH2,nQ]
 have abD:∀b∈fp,b<Hh.objs.size:=λb hb=>by rw[szH];exact Nat.lt_succ_of_lt (SM b hb)
 have Y8:∀b∈fp,qM X pins (upd H s.heap.objs.size (.lst [])) b:=λb hb=>by
  obtain⟨f0,fr⟩:=hf b hb;exact⟨by rw[iD (gU (SM b hb))];exact f0,fr⟩
 have yx:∀b o,Hh.get? b=some o->ae5.get? b=some o:=λb o e=>Wv.extBut b o (gU (gF e)) (gJ _ e);have st1:tn 0 ae5:=T.keep 0 _ _ st λb hb o e=>yx b o (by rw[<-hH2];exact gJ _ e);generalize hX:dH X N scope cl Hh.objs.size fp { s with heap:=Hh } (upd H s.heap.objs.size (.lst []))=X';have I4:Inv X' [] (oO capt σ) (upd H s.heap.objs.size (.lst [])) { s with heap:=ae5,toks:=s.toks+([]:List (Str×Value)).length }:=by
  rw[<-hX];exact Ly (capt:=capt) I3 S uc xm (gf _) Y8 abD vA WR yx
 have eP:X'.prog=X.prog:=by rw[<-hX];rfl
 have ew:X'.w=X.w:=by rw[<-hX];rfl
 have eK:X'.K=X.K:=by rw[<-hX];rfl
 have eA:X'.A=X.A:=by rw[<-hX];rfl
 have eC:X'.calm=true:=by rw[<-hX];exact hc
 have eE:X'.env=compEnvC scope cl Hh.objs.size X.env:=by rw[<-hX];rfl
 have eX:X'.xe=λ_ _=>False:=by rw[<-hX];rfl
 have ePn:X'.pn=[]:=by rw[<-hX];rfl
 have hg':PG X' tg g:=by rw[<-hX];exact hg _ _ _ _ _
 have ht':Zn X' ifs tt:=by rw[<-hX];exact ht _ _ _ _ _
 have he':PE X' elt te:=by rw[<-hX];exact he _ _ _ _ _
 have stat:∀{H':Hp},(∀b∈fp,H' b=none)->∀b∈fp,qM X' [] H' b:=λ{H'} hn b hb=>by
  rw[<-hX];refine⟨hn b hb,gU (abD b hb),λz=>?_,.inl hb,λx c q=>(hf b hb).2.2.2.2.1 x c (uc x c q),λp hp=>by simp[dH]at hp⟩;rcases gj.mp (I3.vK b z) with e | e
  ·exact (hf b hb).2.1 e
  ·exact (hf b hb).2.2.1 e
 have back:∀{σ':St} {H':Hp} {s':Shared},Inv X' [] σ' H' s'->∀Zd,Heap.SameBut Hh.objs.size s'.heap Zd->Inv X pins σ H' { s' with heap:=Zd }:=λ{σ' H' s'} I' Zd sb=>by
  have u:=I'.base;rw[<-hX]at u;have MN:∀b o,Hh.get? b=some o->b≠Hh.objs.size:=λb o e=>gU (gF e);have nC:H' Hh.objs.size=none:=by have:=I'.free;rw[eE]at this;exact this
  refine I3.abP (s':={ s' with heap:=Zd }) (ch:=fp) (by have:=I'.os;rw[<-hX]at this;exact this) ?_ ?_ I'.bare (λb hb=>⟨(Y8 b hb).2.2.2.1,(Y8 b hb).2.1,(Y8 b hb).2.2.2.2.1,(Y8 b hb).2.2.2.2.2⟩)
  ·exact⟨λb o e n hb hx=>sb.extBut b _ (MN b o e) (u.keep b o e n hb hx),λb o e n hb hx=>let ⟨sl,q⟩:=u.slot b o e n hb hx;⟨sl,sb.extBut b _ (MN b o e) q⟩,u.free,
    λb o e hx=>let ⟨o',q⟩:=u.there b o e hx;⟨o',sb.extBut b _ (MN b o e) q⟩,u.vJ,u.uM,u.vf⟩
  ·have hk:=I'.cz;rw[eP,ew]at hk;intro b ob e;have nb:∀c v,H' c=some v->c≠Hh.objs.size:=λc v q=>yZ q nC;refine (hk b ob e).tX (λc v hc q=>sb.extBut c v ?_ q) (λ_ q=>q) λ_ _ q=>q;rcases hc with z | z
   ·rw[z];exact nb b _ e
   ·exact nb c _ z
 have loop:∀aeV:Shared,aeV={ s with heap:=ae5,toks:=s.toks+([]:List (Str×Value)).length } ->
   codeAny (model X.prog X.w) X.A (.compLoop (.ListComp elt [⟨tg,iter,ifs,0⟩] scope pos) 0 (.ref it) (.ref s.heap.objs.size) (compEnvC scope cl Hh.objs.size X.env)) (RR (.ref s.heap.objs.size) Hh.objs.size) aeV:=by
  rintro aeV rfl;refine zlk (λn s'=>∃i σ' H',Inv X' [] σ' H' s'/\tn i s'.heap/\(∀b∈fp,H' b=none)/\W i n σ' H') ?_ m0 ⟨0,_,_,I4,st1,λb hb=>(Y8 b hb).1,w0⟩;rintro n s3 ⟨i,σ3,H3,I5,qO,fr3,w3⟩;rw[<-eP,<-ew,<-eA,<-eE];rcases turn i n σ3 H3 w3 with⟨stop,qn⟩ | ⟨go,Nn,hN,step⟩
  ·have d:=T.done X' eP ew eK eC i [] s3 σ3 H3 (λ_ _=>False) I5 (stat fr3) qO stop;rw[<-eP,<-ew]at d;refine dO d λr s4 zz=>?_;obtain⟨hr,I6⟩:=zz;subst hr;obtain⟨mm,zP,_⟩:=I6.loc;rw[eE]at zP;have nC:H3 Hh.objs.size=none:=by have:=I6.free;rw[eE]at this;exact this
   exact hRR _ _ H3 s4 mm zP (back I6 s4.heap (.refl ..)) (I3.yH (gf _) nC) qn
  ·have d:=T.item X' eP ew eK eC i [] s3 σ3 H3 (λ_ _=>False) I5 (stat fr3) qO go;rw[<-eP,<-ew]at d;refine dO d λr s4 zz=>?_;obtain⟨u,hr,h4⟩:=zz;subst hr;refine dO h4 λ_ s5 zz=>?_;obtain⟨x,H5,I6,r5,y5,MF,fr5⟩:=zz;have I6':=I6.pinned (stat fr5) (T.obj _ _ MF);have dg:=hg' _ s5 σ3 H5 x u _ I6' r5 (step x H5 y5);rw[eX]at dg;refine dO dg λ_ s6 zz=>?_;obtain⟨σ6,H6,I7,q6⟩:=zz;have dt:=ht' _ s6 σ6 H6 _ I7 q6;rw[eX]at dt;refine dO dt λok s7 zz=>?_;obtain⟨H7,I8,q7⟩:=zz;have again:∀{σ9:St} {H9:Hp} {s9:Shared},Inv X' ([]++vM fp s5.heap) σ9 H9 s9->Nn σ9 H9->∃m,m<n/\∃i σ' H',Inv X' [] σ' H' s9/\tn i s9.heap/\(∀b∈fp,H' b=none)/\W i m σ' H':=λ{σ9 H9 s9} I9 n9=>by
    obtain⟨m',hm,w9⟩:=hN σ9 H9 n9;refine⟨m',hm,i+1,σ9,H9,I9.tV,T.keep _ _ _ MF λb hb o e=>(I9.pin (b,o) (kE _ (kE _ (zgf hb e)))).1,λb hb=>?_,w9⟩;obtain⟨o,e,d⟩:=T.obj _ _ MF b hb;exact (I9.pin (b,o) (kE _ (kE _ (zgf hb e)))).2.1
   cases ok with
   | false=>exact again I8 q7
   | true =>
    have de:=he' _ s7 σ6 H7 _ I8 q7;rw[eX]at de;refine dO de λy s8 zz=>?_;obtain⟨v,H8,I9,r8,q8⟩:=zz;obtain⟨xs,hx,hz,nn⟩:=q8;have da:=zm0 (X:=X') _ s8 σ6 H8 (.ref s.heap.objs.size) [v] (.ref s.heap.objs.size) [y] (λ_ H9=>Nn σ6 H9) I9 rfl (.cons r8 .nil) ⟨_,xs,v,rfl,rfl,hx,hz,nn⟩;rw[eX]at da;refine dO da λ_ s9 zz=>?_;obtain⟨_,H9,I10,_,n9⟩:=zz;exact again I10 n9
 exact codeAny_compStart_list (loop _ rfl) (T.self _ 0 _ _ _ st1 (loop _ rfl))
def zkr(I:Inv X pins σ H s)(Qv:∀x∈scope.names,x.2=.free->X.env.kindOf x.1=some .cell\/X.env.kindOf x.1=some .free) :
  ∃cl,closureFor scope X.env=pure cl/\(∀x c,cl.lookup x=some c->X.env.cells.lookup x=some c)/\∀x,(x,NameKind.free)∈scope.names->∃c,cl.lookup x=some c :=
 zka λx hx hk=>I.ok.has x.1 (Qv x hx hk)
def Inv.xV(I:Inv X pins σ H s)(f:qM X pins H C)(sb:Heap.SameBut C s.heap h'):Inv X pins σ H { s with heap:=h' } :=
 I.turned (t':=s.toks) (λb o hb e=>sb.extBut b o hb e) f.1 f.2.1 f.2.2.2.1 f.2.2.2.2.1 f.2.2.2.2.2
def Pk(hi:PI X tg iter wi)(S:jC scope)(Qv:∀x∈scope.names,x.2=.free->X.env.kindOf x.1=some .cell\/X.env.kindOf x.1=some .free)(vA:qN X scope capt N)(hc:X.calm=true)
  (hg:∀cl C fp s H,PG (dH X N scope cl C fp s H) tg g) (ht:∀cl C fp s H,Zn (dH X N scope cl C fp s H) ifs tt) (he:∀cl C fp s H,PE (dH X N scope cl C fp s H) elt te)
  (hs:∀x,foldedSetIterable iter X.env x=pure x:=by intro _;rfl):PE X (.ListComp elt [⟨tg,iter,ifs,0⟩] scope pos) (Ib capt wi g tt te):=by
 intro pins s σ H Q I h;obtain⟨cl,uc,h1,h2⟩:=zkr I Qv;rw[eval_ListComp];refine wpAny_comprehension_free (use:=none) rfl hs uc S.kind S.names (dO (hi pins s σ H _ I h) λv s1 q1=>dO q1 λitv s2 q2=>?_);obtain⟨it,fp,tn,J,H2,e,I2,T,st2,f2,q⟩:=q2;subst e;refine zkh (RR:=λacc C=>compPost (model X.prog X.w) X.A X.xe none (EP X pins σ Q) acc C) I2 T st2 f2 S h1 h2 vA hc hg ht he q ?_;intro D C H' s' m hn I' f' q';exact⟨m,hn,λZd sb=>⟨.ref D,H',I'.xV f' sb,rfl,q'⟩⟩
def zol(hN:X.N.Nodup)(hy:X.N[i]? = some y)(hx:Loc X.env.scope y)(hsw:swapsWith (.ListComp elt [⟨tg,iter,ifs,0⟩] scope pos) (some (.Name y py)) UW.line X.env=pure true) 
  (hi:PI X tg iter wi) (S:jC scope) (Qv:∀x∈scope.names,x.2=.free->X.env.kindOf x.1=some .cell\/X.env.kindOf x.1=some .free) (vA:qN X scope capt N) (hc:X.calm=true)
  (hg:∀cl C fp s H,PG (dH X N scope cl C fp s H) tg g) (ht:∀cl C fp s H,Zn (dH X N scope cl C fp s H) ifs tt) (he:∀cl C fp s H,PE (dH X N scope cl C fp s H) elt te)
  (hs:∀x,foldedSetIterable iter X.env x=pure x:=by intro _;rfl) (hf:X.fn y=true\/X.env.scope.names.lookup y=some .local:=by first | exact .inl rfl | exact .inr rfl | assumption) :
  PS X (.Assign [.Name y py] (.ListComp elt [⟨tg,iter,ifs,0⟩] scope pos) UW) (UL (Ib capt wi g tt te) (Dg i)):=by
 intro pins s σ H D I h;obtain⟨cl,uc,h1,h2⟩:=zkr I Qv;rw[exec_Assign_Name_used _ _ _ _ hsw];refine ae7 (wpAny_standAt (ae7 ?_));show wpAny _ X.A (do let _ <-comprehension (.ListComp elt [⟨tg,iter,ifs,0⟩] scope pos) scope X.env _ (newList []) false (eval iter X.env) (some (assign (.Name y py) X.env))) _ _ s;refine ae7 (afr (wpAny_comprehension_free (use:=some (assign (.Name y py) X.env)) (Q:=λ_ s'=>SP X pins D .next s') rfl hs uc S.kind S.names
  (dO (hi pins s σ H _ I h) λv s1 q1=>dO q1 λitv s2 q2=>?_)) (λ_ s' hq=>ae8 (ae8 hq)) λ_ _ e=>e)
 obtain⟨it,fp,tn,J,H2,e,I2,T,st2,f2,q⟩:=q2;subst e;refine zkh (Q:=λx H1=>Dg i x σ H1 D.nx) (RR:=λacc C=>compPost (model X.prog X.w) X.A X.xe (some (assign (.Name y py) X.env)) (λ_ s'=>SP X pins D .next s') acc C) I2 T st2 f2 S h1 h2 vA hc hg ht he q ?_;intro D' C H' s' m hn I' f' q';show wpAny _ X.A (assign (.Name y py) X.env (.ref D')) _ _ _;refine wpAny_assign_Name (zl5 I' hN hy hx (v:=.ref D') rfl (λs'' I'' zz=>?_) hf);obtain⟨a,sb,ha⟩:=zz;have MN:C≠a:=by
  rcases ha with e | e
  ·rw[e];exact f'.2.1
  ·exact afv (f'.2.2.2.2.1 _ _ e)
 obtain⟨o,es,ep,ho,r⟩:=hn;exact⟨m,⟨o,es,ep,sb.extBut C o MN ho,r⟩,λZd sb'=>⟨_,H',I''.xV f' sb',q'⟩⟩
end
end L2
namespace M
open PySem PySem.Spec L2
inductive D where
 | non | bl (b:Bool) | int (i:Int) | str (cs:List Nat) | tup (xs:List D) | loc (n:Nat)
instance:Inhabited D:=⟨.non⟩
structure lO where
 qual:Str
 params:Arguments
 body:Expr
 scope:Scope
 sH:List Str
inductive MO where
 | lst (xs:List D) | frz (xs:List D) | dic (kvs:List (List Key×D)) | dkc (kvs:List (Key×D))
 
 | dkf (kvs:List (Key×D))
 
 | dtf (kvs:List (List Key×D))
 
 | ins (c:Str) (fs:List (Str×D))
 
 | tab (x:Str)
 
 | clo (j:Nat) (l:lO) (ds:List D)
 
 | exc (c:String) (d:D)
 
 | hid
noncomputable abbrev au:=List MO
noncomputable abbrev cg:=List (Option D)
structure Xc where
 cls:String
 fld:D
inductive R (α:Type) where
 | ok (a:α) (st:au) | err (x:Xc) (st:au) | bad
def jD{α:Sort u}{a b:α}(h:a=b):a=b:=h
noncomputable def R.bind{α β:Type}(r:R α)(f:α->au->R β):R β:=match r with
 | .ok a st=>f a st
 | .err x st=>.err x st
 | .bad=>.bad
@[simp] def R.aD{α β:Type}(a:α)(st:au)(f:α->au->R β):(R.ok a st).bind f=f a st:=jD rfl
@[simp] def R.uh{α β:Type}(x:Xc)(st:au)(f:α->au->R β):(R.err x st:R α).bind f=.err x st:=jD rfl
@[simp] def R.um{α β:Type}(f:α->au->R β):(R.bad:R α).bind f=.bad:=jD rfl
noncomputable abbrev strOf(cs:List Nat):Str:=⟨cs.toArray⟩
instance aeh {K:PySem.W.Frag} {H:Hp} {a:Addr} {xs:List V}:CoeTail (H a=some (.tup xs)) (tU K H a xs):=⟨tU.of⟩
noncomputable def xK:List D->Bool
 | []=>false
 | .int _::r=>xK r
 | .str _::r=>xK r
 | _::_=>true
def zF(K:PySem.W.Frag)(H:Hp)(a:Addr)(xs:List V)(ds:List D):Prop :=
 H a=some (.tup xs)\/(xK ds=true/\∃(o:Obj) (its:Array Value) (n:Nat),K.lookup a=some o/\o.cls=.type "tuple"/\o.data=.seq its n/\its.size<=sizeLine/\Vals xs its.toList)
def zF.uW(h:zF K H a xs ds):tU K H a xs:=by
 rcases h with h | ⟨_,h⟩
 ·exact tU.of h
 ·exact .inr h
mutual
def ak(K:PySem.W.Frag)(μ:List Addr)(H:Hp):D->V->Prop
 | .non,v=>v=.non
 | .bl b,v=>v=.bl b
 | .int i,v=>v=.int i
 | .str cs,v=>v=.str (strOf cs)
 | .tup ds,v=>∃a xs,v=.ref a/\zF K H a xs ds/\ao K μ H ds xs
 | .loc n,v=>∃a,μ[n]? = some a/\v=.ref a
def ao(K:PySem.W.Frag)(μ:List Addr)(H:Hp):List D->List V->Prop
 | [],vs=>vs=[]
 | d::ds,vs=>∃v r,vs=v::r/\ak K μ H d v/\ao K μ H ds r
end
structure Ext(H H':Hp):Prop where
 tup:∀b xs,H b=some (.tup xs)->H' b=some (.tup xs)
 frz:∀b o u,H b=some (.frz o u)->H' b=some (.frz o u)
def Ext.refl(H:Hp):Ext H H:=⟨λ_ _ h=>h,λ_ _ _ h=>h⟩
def Ext.trans(a:Ext H H1)(b:Ext H1 H2):Ext H H2:=⟨λc xs h=>b.tup c xs (a.tup c xs h),λc o u h=>b.frz c o u (a.frz c o u h)⟩
def Ext.uW(e:Ext H H')(h:tU K H a xs):tU K H' a xs:=by
 rcases h with (h | ⟨o,h⟩) | h
 ·exact .inl (.inl (e.tup _ _ h))
 ·exact .inl (.inr ⟨o,e.frz _ _ _ h⟩)
 ·exact .inr h
def Ext.ace(e:Ext H H')(h:zF K H a xs ds):zF K H' a xs ds:=by
 rcases h with h | h
 ·exact .inl (e.tup _ _ h)
 ·exact .inr h
def Ext.new(h:H p=none):Ext H (upd H p o) :=
 ⟨λb xs q=>by rw[iD (yZ q h)];exact q,λb o' u q=>by rw[iD (yZ q h)];exact q⟩
structure bD(μ:List Addr)(H:Hp)(μ':List Addr)(H':Hp):Prop where
 pre:∃ν,μ'=μ++ν
 ext:Ext H H'
def bD.refl(μ:List Addr)(H:Hp):bD μ H μ H:=⟨⟨[],by simp⟩,.refl H⟩
def bD.trans(a:bD μ H μ1 H1)(b:bD μ1 H1 μ2 H2):bD μ H μ2 H2:=by
 obtain⟨ν1,rfl⟩:=a.pre;obtain⟨ν2,rfl⟩:=b.pre;exact⟨⟨ν1++ν2,by simp⟩,a.ext.trans b.ext⟩
def bD.get{μ μ':List Addr}{H H':Hp}(g:bD μ H μ' H'){n:Nat}{a:Addr}(h:μ[n]? = some a):μ'[n]? = some a:=by
 obtain⟨ν,rfl⟩:=g.pre;rw[gP (gk.mp h).1];exact h
mutual
theorem ak.mono{K:PySem.W.Frag}{μ μ':List Addr}{H H':Hp}(g:bD μ H μ' H'):∀(d:D) {v:V},ak K μ H d v->ak K μ' H' d v
 | .non,_,h=>by simpa[ak] using h
 | .bl _,_,h=>by simpa[ak] using h
 | .int _,_,h=>by simpa[ak] using h
 | .str _,_,h=>by simpa[ak] using h
 | .tup ds,_,h=>by
  rw[ak]at h ⊢;obtain⟨a,xs,rfl,h1,h2⟩:=h;exact⟨a,xs,rfl,g.ext.ace h1,ao.mono g ds h2⟩
 | .loc n,_,h=>by
  rw[ak]at h ⊢;obtain⟨a,h1,rfl⟩:=h;exact⟨a,g.get h1,rfl⟩
theorem ao.mono(g:bD μ H μ' H'):∀(ds:List D) {vs:List V},ao K μ H ds vs->ao K μ' H' ds vs
 | [],_,h=>by simpa[ao] using h
 | d::ds,_,h=>by
  rw[ao]at h ⊢;obtain⟨v,r,rfl,h1,h2⟩:=h;exact⟨v,r,rfl,ak.mono g d h1,ao.mono g ds h2⟩
end
section
variable  {K:PySem.W.Frag}{μ:List Addr}{H:Hp}
theorem ao.length:∀{ds:List D} {vs:List V},ao K μ H ds vs->ds.length=vs.length
 | [],_,h=>by rw[ao]at h;subst h;rfl
 | d::ds,_,h=>by
  rw[ao]at h;obtain⟨v,r,rfl,_,h2⟩:=h;rw[gC,gC,ao.length h2]
theorem ao.get:∀{ds:List D} {vs:List V} {i:Nat} {d:D},ao K μ H ds vs->ds[i]? = some d->∃v,vs[i]? = some v/\ak K μ H d v
 | [],_,_,_,_,e=>by simp at e
 | d::ds,_,0,_,h,e=>by
  rw[ao]at h;obtain⟨v,r,rfl,h1,_⟩:=h;simp at e;subst e;exact⟨v,rfl,h1⟩
 | d::ds,_,i+1,x,h,e=>by
  rw[ao]at h;obtain⟨v,r,rfl,_,h2⟩:=h;obtain⟨u,h3,h4⟩:=ao.get (i:=i) h2 (by simpa using e);exact⟨u,by simpa using h3,h4⟩
theorem ao.append:∀{ds es:List D} {vs ws:List V},ao K μ H ds vs->ao K μ H es ws->ao K μ H (ds++es) (vs++ws)
 | [],_,_,_,h,k=>by rw[ao]at h;subst h;exact k
 | d::ds,es,_,ws,h,k=>by
  rw[ao]at h;obtain⟨v,r,rfl,h1,h2⟩:=h;show ao K μ H (d::(ds++es)) (v::(r++ws));rw[ao];exact⟨v,r++ws,rfl,h1,ao.append h2 k⟩
def ao.nil:ao K μ H [] []:=by rw[ao]
def ao.cons(h:ak K μ H d v)(k:ao K μ H ds vs):ao K μ H (d::ds) (v::vs):=by rw[ao];exact⟨v,vs,rfl,h,k⟩
theorem ao.take:∀{ds:List D} {vs:List V} (n:Nat),ao K μ H ds vs->ao K μ H (ds.take n) (vs.take n)
 | _,_,0,_=>by simp[ao]
 | [],_,n+1,h=>by rw[ao]at h;subst h;simp[ao]
 | d::ds,_,n+1,h=>by
  rw[ao]at h;obtain⟨v,r,rfl,h1,h2⟩:=h;exact ao.cons h1 (ao.take n h2)
theorem ao.drop:∀{ds:List D} {vs:List V} (n:Nat),ao K μ H ds vs->ao K μ H (ds.drop n) (vs.drop n)
 | _,_,0,h=>h
 | [],_,n+1,h=>by rw[ao]at h;subst h;simp[ao]
 | d::ds,_,n+1,h=>by
  rw[ao]at h;obtain⟨v,r,rfl,h1,h2⟩:=h;exact ao.drop n h2
theorem ao.set(hd:ak K μ H d v):∀{ds:List D} {vs:List V} (i:Nat),ao K μ H ds vs->ao K μ H (ds.set i d) (vs.set i v)
 | [],_,_,h=>by rw[ao]at h;subst h;simp[ao]
 | x::ds,_,0,h=>by
  rw[ao]at h;obtain⟨w,r,rfl,h1,h2⟩:=h;exact ao.cons hd h2
 | x::ds,_,i+1,h=>by
  rw[ao]at h;obtain⟨w,r,rfl,h1,h2⟩:=h;exact ao.cons h1 (ao.set hd i h2)
def ak.aP:ak K μ H (.int i) v↔v=.int i:=by rw[ak]
def ak.cG:ak K μ H (.bl b) v↔v=.bl b:=by rw[ak]
def ak.bT:ak K μ H .non v↔v=.non:=by rw[ak]
def ak.aY:ak K μ H (.str cs) v↔v=.str (strOf cs):=by rw[ak]
def ak.aX:ak K μ H (.tup ds) v ↔ ∃a xs,v=.ref a/\zF K H a xs ds/\ao K μ H ds xs:=by rw[ak]
def ak.aL:ak K μ H (.loc n) v ↔ ∃a,μ[n]? = some a/\v=.ref a:=by rw[ak]
end
def aN{κ:Type}(K:PySem.W.Frag)(μ:List Addr)(H:Hp):List (κ×D)->List (κ×V)->Prop
 | [],vs=>vs=[]
 | (k,d)::ds,vs=>∃v r,vs=(k,v)::r/\ak K μ H d v/\aN K μ H ds r
theorem aN.mono(g:bD μ H μ' H'):∀{ds:List (κ×D)} {vs:List (κ×V)},aN K μ H ds vs->aN K μ' H' ds vs
 | [],_,h=>h
 | (k,d)::ds,_,⟨v,r,e,h1,h2⟩=>⟨v,r,e,h1.mono g d,aN.mono g h2⟩
def yM(K:PySem.W.Frag)(H:Hp)(a:Addr)(xs:List V):Prop :=
 (∃o,H a=some (.frz o (.lst xs)))\/∃(o:Obj) (its:Array Value) (n:Nat),K.lookup a=some o/\o.cls=.type "list"/\o.dict=none/\o.data=.seq its n/\its.size<=sizeLine/\Vals xs its.toList
def yM.sqL(h:yM K H a xs):rO K H a xs:=by
 rcases h with h | h
 ·exact .inl (.inr h)
 ·exact .inr h
def yM.ext(e:Ext H H')(h:yM K H a xs):yM K H' a xs:=by
 rcases h with⟨o,h⟩ | h
 ·exact .inl ⟨o,e.frz _ _ _ h⟩
 ·exact .inr h
noncomputable def MO.mut:MO->Bool
 | .frz _=>false
 | .clo _ _ _=>false
 | .hid=>false
 | .dkf _=>false
 | .dtf _=>false
 | .exc _ _=>false
 | _=>true
def ur(H:Hp)(c:Addr)(q:Str):Prop:=∃oc vs t,H c=some (.frz oc (.own 0))/\oc.data=.fields vs/\vs[1]? = some (.str q t)
def iZ(H:Hp):List (Str×Addr)->List V->Prop
 | [],vs=>vs=[]
 | (_,c)::cl,vs=>∃v r o u,vs=v::r/\H c=some (.frz o (.own 0))/\o.data=.cell (some u)/\RelV v u/\iZ H cl r
def ur.ext(e:Ext H H')(h:ur H c q):ur H' c q :=
 let ⟨oc,vs,t,h1,h2⟩:=h;⟨oc,vs,t,e.frz _ _ _ h1,h2⟩
theorem iZ.ext(e:Ext H H'):∀{cl:List (Str×Addr)} {vs:List V},iZ H cl vs->iZ H' cl vs
 | [],_,h=>h
 | (_,c)::cl,_,⟨v,r,o,u,h1,h2,h3,h4,h5⟩=>⟨v,r,o,u,h1,e.frz _ _ _ h2,h3,h4,iZ.ext e h5⟩
noncomputable def t7(x:Str):Str:=x ++ ".<locals>." ++ "<lambda>"
def jW(K:PySem.W.Frag)(μ:List Addr)(H:Hp)(a:Addr):MO->Prop
 | .lst ds=>∃xs,H a=some (.lst xs)/\ao K μ H ds xs
 | .frz ds=>∃xs,yM K H a xs/\ao K μ H ds xs
 | .dic kvs=>∃ws,H a=some (.dT ws)/\aN K μ H kvs ws
 | .dkc kvs=>∃ws,H a=some (.dK ws)/\aN K μ H kvs ws
 | .dkf kvs=>∃ws o,H a=some (.frz o (.dK ws))/\aN K μ H kvs ws
 | .dtf kvs=>∃ws o,H a=some (.frz o (.dT ws))/\aN K μ H kvs ws
 | .ins c fs=>∃C dx ws,PySem.W.nsIn K mainGlobals c=some (some (.ref C))/\H a=some (.ins C dx ws)/\aN K μ H fs ws
 | .tab x=>(∃(fa:Addr) (o:Obj) (fd:FuncData) (c:Addr),PySem.W.nsIn K mainGlobals x=some (some (.ref fa))/\K.lookup fa=some o/\o.data=.func fd/\fd.code=.ref c/\PySem.W.codeHdIn K c a=true) /\
   ∃ps:Array Value,H a=some (.tbl ps)/\TriplesOk ps.toList/\∀pos cv,codeAmong pos ps.toList=some cv->∃c',cv=.ref c'/\ur H c' (t7 x)
 | .clo _ l ds=>∃(cl:List (Str×Addr)) (pm:Value) (c':Addr) (ug:Value) (vs:List V),H a=some (.frz (PySem.W.kla_obj "<lambda>" l.qual l.params l.body l.scope cl pm c' ug) (.own 0))/\ur H c' l.qual /\
   cl.map (·.1)=l.sH/\(cl.map (·.2)).Nodup/\iZ H cl vs/\ao K μ H ds vs
 | .exc c d=>∃oe C dx od v fs,H a=some (.frz oe (.own 0))/\oe.cls=.ref C/\oe.dict=some dx/\oe.data=.fields fs/\H dx=some (.frz od (.xd [("at",v)]))/\PySem.W.nsIn K mainGlobals (c:Str)=some (some (.ref C))/\ak K μ H d v
 | .hid=>True
structure aV(K:PySem.W.Frag)(μ:List Addr)(H:Hp)(st:au):Prop where
 len:μ.length=st.length
 at_:∀(n:Nat) (o:MO),st[n]? = some o->∃a,μ[n]? = some a/\jW K μ H a o
 uniq:∀(i j:Nat) (a:Addr) (oi oj:MO),st[i]? = some oi->st[j]? = some oj->oi.mut=true->oj.mut=true->μ[i]? = some a->μ[j]? = some a->i=j
structure fD(K:PySem.W.Frag)(μ:List Addr)(H:Hp)(env:cg)(σ:St):Prop where
 len:env.length=σ.length
 at_:∀(i:Nat) (d:D),env[i]? = some (some d)->∃v,σ[i]? = some (some v)/\ak K μ H d v
def fD.mono(g:bD μ H μ' H')(h:fD K μ H env σ):fD K μ' H' env σ :=
 ⟨h.len,λi d e=>let ⟨v,h1,h2⟩:=h.at_ i d e;⟨v,h1,h2.mono g d⟩⟩
def fD.set(h:fD K μ H env σ)(r:ak K μ H d v):fD K μ H (env.set i (some d)) (σ.set i (some v)):=by
 refine⟨by simp[h.len],λj e hj=>?_⟩;by_cases hij:i=j
 ·subst hij;have hl:i<env.length:=by
   have:=(gk.mp hj).1;simpa using this
  rw[mL hl]at hj;cases hj;exact⟨v,by rw[mL (by rw[<-h.len];exact hl)],r⟩
 ·rw[mC hij]at hj;rw[mC hij];exact h.at_ j e hj
def jW.some_of(h:jW K μ H a o)(hm:o.mut=true):∃u,H a=some u:=by
 cases o with
 | lst ds=>obtain⟨xs,h1,_⟩:=h;exact⟨_,h1⟩
 | frz ds=>cases hm
 | dic kvs=>obtain⟨xs,h1,_⟩:=h;exact⟨_,h1⟩
 | dkc kvs=>obtain⟨xs,h1,_⟩:=h;exact⟨_,h1⟩
 | dkf kvs=>cases hm
 | dtf kvs=>cases hm
 | ins c fs=>obtain⟨_,_,_,_,h1,_⟩:=h;exact⟨_,h1⟩
 | tab x=>obtain⟨_,_,h1,_⟩:=h;exact⟨_,h1⟩
 | clo j l ds=>cases hm
 | exc c d=>cases hm
 | hid=>cases hm
def jW.keep(g:bD μ H μ' H')(hk:o.mut=true->∀u,H a=some u->H' a=some u)(h:jW K μ H a o):jW K μ' H' a o:=by
 cases o with
 | lst ds=>obtain⟨xs,h1,h2⟩:=h;exact⟨xs,hk rfl _ h1,h2.mono g ds⟩
 | frz ds=>obtain⟨xs,h1,h2⟩:=h;exact⟨xs,h1.ext g.ext,h2.mono g ds⟩
 | dic kvs=>obtain⟨ws,h1,h2⟩:=h;exact⟨ws,hk rfl _ h1,h2.mono g⟩
 | dkc kvs=>obtain⟨ws,h1,h2⟩:=h;exact⟨ws,hk rfl _ h1,h2.mono g⟩
 | dkf kvs=>obtain⟨ws,o,h1,h2⟩:=h;exact⟨ws,o,g.ext.frz _ _ _ h1,h2.mono g⟩
 | dtf kvs=>obtain⟨ws,o,h1,h2⟩:=h;exact⟨ws,o,g.ext.frz _ _ _ h1,h2.mono g⟩
 | exc c d=>obtain⟨oe,C,dx,od,v,fs,h1,h2,h3,h4,h5,h6,h7⟩:=h;exact⟨oe,C,dx,od,v,fs,g.ext.frz _ _ _ h1,h2,h3,h4,g.ext.frz _ _ _ h5,h6,h7.mono g d⟩
 | ins c fs=>obtain⟨C,dx,ws,h0,h1,h2⟩:=h;exact⟨C,dx,ws,h0,hk rfl _ h1,h2.mono g⟩
 | tab x=>obtain⟨h0,ps,h1,h2,h3⟩:=h;exact⟨h0,ps,hk rfl _ h1,h2,λpos cv e=>let ⟨c',e1,e2⟩:=h3 pos cv e;⟨c',e1,e2.ext g.ext⟩⟩
 | clo j l ds=>obtain⟨cl,pm,c',ug,vs,h1,h2,h3,h4,h5,h6⟩:=h;exact⟨cl,pm,c',ug,vs,g.ext.frz _ _ _ h1,h2.ext g.ext,h3,h4,h5.ext g.ext,h6.mono g ds⟩
 | hid=>trivial
section
variable  {K:PySem.W.Frag}{μ:List Addr}{H:Hp}{st:au}{p a:Addr}{xs:List V}{n:Nat}{mo RP:MO}{o o':HO}
def aV.lay(h:aV K μ H st)(hp:H p=none):aV K μ (upd H p o) st :=
 ⟨h.len,λn mo e=>let ⟨a,h1,h2⟩:=h.at_ n mo e;⟨a,h1,h2.keep ⟨⟨[],by simp⟩,.new hp⟩ λ_ u q=>by rw[iD (yZ q hp)];exact q⟩,h.uniq⟩
def bD.lay(hp:H p=none):bD μ H μ (upd H p o):=⟨⟨[],by simp⟩,.new hp⟩
def bD.new(hp:H p=none):bD μ H (μ++[p]) (upd H p o):=⟨⟨[p],rfl⟩,.new hp⟩
def aV.new(h:aV K μ H st)(hp:H p=none)(hn:jW K (μ++[p]) (upd H p o) p mo):aV K (μ++[p]) (upd H p o) (st++[mo]):=by
 refine⟨by simp[h.len],λn mo1 e=>?_,λi j b oi oj ei ej mi mj hi hj=>?_⟩
 ·by_cases hl:n<st.length
  ·rw[gP hl]at e;obtain⟨b,h1,h2⟩:=h.at_ n mo1 e;exact⟨b,by rw[gP (by rw[h.len];exact hl)];exact h1,h2.keep (bD.new hp) λ_ u q=>by rw[iD (yZ q hp)];exact q⟩
  ·have uZ:=(gk.mp e).1;rw[gh,mq]at uZ;have e2:n=st.length:=by omega
   subst e2;rw[gw (gf _)]at e;simp at e;subst e;exact⟨p,by rw[<-h.len];simp,hn⟩
 ·have key:∀(k:Nat) (ok:MO),(st++[mo])[k]? = some ok->ok.mut=true->(μ++[p])[k]? = some b->(k<st.length/\st[k]? = some ok/\μ[k]? = some b/\b≠p)\/(k=st.length/\b=p):=λk ok ek mk hk=>by
   by_cases hl:k<st.length
   ·rw[gP hl]at ek;rw[gP (by rw[h.len];exact hl)]at hk;obtain⟨c,h1,h2⟩:=h.at_ k ok ek;rw[hk]at h1;cases h1;obtain⟨u,hu⟩:=h2.some_of mk;exact .inl ⟨hl,ek,hk,yZ hu hp⟩
   ·have uZ:=(gk.mp ek).1;rw[gh,mq]at uZ;have e2:k=st.length:=by omega
    subst e2;rw[<-h.len]at hk;simp at hk;exact .inr ⟨rfl,hk.symm⟩
  rcases key i oi ei mi hi with⟨_,a1,a2,a3⟩ | ⟨a1,a2⟩
  ·rcases key j oj ej mj hj with⟨_,b1,b2,b3⟩ | ⟨b1,b2⟩
   ·exact h.uniq i j b oi oj a1 b1 mi mj a2 b2
   ·exact absurd b2 a3
  ·rcases key j oj ej mj hj with⟨_,b1,b2,b3⟩ | ⟨b1,b2⟩
   ·exact absurd a2 b3
   ·rw[a1,b1]
def Ext.mut(h:H a=some o)(ht:∀ys,o≠.tup ys)(hf:∀w u,o≠.frz w u):Ext H (upd H a o') :=
 ⟨λb ys q=>by rw[iD (λe=>by subst e;rw[h]at q;exact ht _ (afa q))];exact q,
  λb w u q=>by rw[iD (λe=>by subst e;rw[h]at q;exact hf _ _ (afa q))];exact q⟩
def aV.put(h:aV K μ H st)(hn:st[n]? = some mo)(hm:mo.mut=true)(KR:RP.mut=true)(ha:μ[n]? = some a)(g:Ext H (upd H a o'))(new:jW K μ (upd H a o') a RP):aV K μ (upd H a o') (st.set n RP):=by
 have hl:=(gk.mp hn).1;refine⟨by simp[h.len],λk ok e=>?_,λi j b oi oj ei ej mi mj hi hj=>?_⟩
 ·by_cases hk:n=k
  ·subst hk;rw[mL hl]at e;cases e;exact⟨a,ha,new⟩
  ·rw[mC hk]at e;obtain⟨b,h1,h2⟩:=h.at_ k ok e;refine⟨b,h1,h2.keep ⟨⟨[],by simp⟩,g⟩ λWY u q=>?_⟩;rw[iD (λe2=>?_)]
   ·exact q
   ·subst e2;exact hk (h.uniq n k b mo ok hn e hm WY ha h1)
 ·have key:∀(k:Nat) (ok:MO),(st.set n RP)[k]? = some ok->ok.mut=true->∃ok',st[k]? = some ok'/\ok'.mut=true:=λk ok ek mk=>by
   by_cases hk:n=k
   ·subst hk;exact⟨mo,hn,hm⟩
   ·rw[mC hk]at ek;exact⟨ok,ek,mk⟩
  obtain⟨oi',ei',mi'⟩:=key i oi ei mi;obtain⟨oj',ej',mj'⟩:=key j oj ej mj;exact h.uniq i j b oi' oj' ei' ej' mi' mj' hi hj
end
def ExcAt(X:Cx)(μ:List Addr)(H:Hp)(x:Xc)(e:Value)(s:Shared):Prop :=
 ∃a C dx lo fl v,e=.ref a/\X.aeY.heap.objs.size<=lo/\Xo lo a C dx fl H s.heap/\H dx=some (.xd [("at",v)])/\PySem.W.nsIn X.K mainGlobals (x.cls:Str)=some (some (.ref C))/\ak X.K μ H x.fld v
def wK(X:Cx)(μ:List Addr)(H:Hp)(x:Xc)(st:au):Prop :=
 ∀(pins:List (Addr×Obj)) (σ':L2.St) (H':Hp) (μ':List Addr) (e:Value) (s':Shared),bD μ H μ' H'->aV X.K μ' H' st->Inv X pins σ' H' s'->ExcAt X μ' H' x e s'->X.xe e s'
def wK.mono(g:bD μ H μ1 H1)(h:wK X μ H x st):wK X μ1 H1 x st :=
 λpins σ' H' μ' e s' g'=>h pins σ' H' μ' e s' (g.trans g')
noncomputable abbrev Rel(α β:Type):=List Addr->Hp->α->β->Prop
def cM{α β:Type}(X:Cx)(μ:List Addr)(H:Hp)(rel:Rel α β)(Q:β->Hp->Prop)(r:R α):Prop:=match r with
 | .ok a st=>∀(b:β) (H':Hp) (μ':List Addr),bD μ H μ' H'->aV X.K μ' H' st->rel μ' H' a b->Q b H'
 | .err x st=>wK X μ H x st
 | .bad=>False
section
variable  {α β γ δ:Type}{X:Cx}{μ μ1:List Addr}{H H1:Hp}{rel:Rel α β}{Oi:Rel γ δ}{Q Q':β->Hp->Prop}{r:R α}
def cM.mono(g:bD μ H μ1 H1)(h:cM X μ H rel Q r):cM X μ1 H1 rel Q r:=by
 cases r with
 | ok a st=>exact λb H' μ' g'=>h b H' μ' (g.trans g')
 | err x st=>exact wK.mono g h
 | bad=>exact h
def cM.imp(h:cM X μ H rel Q r)(k:∀b H',Q b H'->Q' b H'):cM X μ H rel Q' r:=by
 cases r with
 | ok a st=>exact λb H' μ' g' h1 h2=>k b H' (h b H' μ' g' h1 h2)
 | err x st=>exact h
 | bad=>exact h
def Then(X:Cx)(μ:List Addr)(H:Hp)(rel:Rel α β)(Oi:Rel γ δ)(Q2:δ->Hp->Prop)(f:α->au->R γ):β->Hp->Prop :=
 λb H1=>∃μ1 st1 a,bD μ H μ1 H1/\aV X.K μ1 H1 st1/\rel μ1 H1 a b/\cM X μ1 H1 Oi Q2 (f a st1)
def cM.bind(h:cM X μ H Oi Q2 (r.bind f)):cM X μ H rel (Then X μ H rel Oi Q2 f) r:=by
 cases r with
 | ok a st=>exact λb H' μ' g h1 h2=>⟨μ',st,a,g,h1,h2,cM.mono g h⟩
 | err x st=>exact h
 | bad=>exact h
def cM.ret(h:cM X μ H rel Q (.ok a st))(hs:aV X.K μ H st)(hr:rel μ H a b):Q b H:=h b H μ (.refl _ _) hs hr
end
noncomputable abbrev rT(X:Cx):Rel D V:=fun μ H d v=>ak X.K μ H d v
noncomputable abbrev acF(X:Cx):Rel (List D) (List V):=fun μ H d v=>ao X.K μ H d v
noncomputable abbrev Ey:Rel Bool Bool:=λ_ _ a b=>a=b
noncomputable abbrev acC:Rel (Option Int) (Option Int):=λ_ _ a b=>a=b
noncomputable abbrev ME:=cg->au->R D
noncomputable abbrev MA:=cg->au->R (List D)
noncomputable abbrev MT:=cg->au->R Bool
noncomputable abbrev MP:=cg->au->R (Option Int)
noncomputable def tM(X:Cx)(m:ME):TE:=fun σ H Q=>∃μ env st,fD X.K μ H env σ/\aV X.K μ H st/\cM X μ H (rT X) Q (m env st)
noncomputable def tMA(X:Cx)(m:MA):TA:=fun σ H Q=>∃μ env st,fD X.K μ H env σ/\aV X.K μ H st/\cM X μ H (acF X) Q (m env st)
noncomputable def tMT(X:Cx)(m:MT):TT:=fun σ H Q=>∃μ env st,fD X.K μ H env σ/\aV X.K μ H st/\cM X μ H Ey Q (m env st)
noncomputable def tMP(X:Cx)(m:MP):TO:=fun σ H Q=>∃μ env st,fD X.K μ H env σ/\aV X.K μ H st/\cM X μ H acC Q (m env st)
def JE(X:Cx)(e:Expr)(m:ME):Prop:=PE X e (tM X m)
def JT(X:Cx)(e:Expr)(m:MT):Prop:=PT X e (tMT X m)
def JA(X:Cx)(es:List Expr)(m:MA):Prop:=PA X es (tMA X m)
def JP(X:Cx)(e:Option Expr)(m:MP):Prop:=PO X e (tMP X m)
section
variable  {X:Cx}{e a b c:Expr}{es:List Expr}{t:TE}{ma mb mc:ME}{mA:MA}{pos:Pos}
def JE.of(h:PE X e t)(k:∀σ H Q,tM X m σ H Q->t σ H Q):JE X e m:=λpins s σ H Q I q=>h pins s σ H Q I (k σ H Q q)
def JT.of{t:TT}{m:MT}(h:PT X e t)(k:∀σ H Q,tMT X m σ H Q->t σ H Q):JT X e m:=λpins s σ H Q I q=>h pins s σ H Q I (k σ H Q q)
def JA.of{t:TA}{m:MA}(h:PA X es t)(k:∀σ H Q,tMA X m σ H Q->t σ H Q):JA X es m:=λpos pins s σ H Q I q=>h pos pins s σ H Q I (k σ H Q q)
def JP.of{o:Option Expr}{t:TO}{m:MP}(h:PO X o t)(k:∀σ H Q,tMP X m σ H Q->t σ H Q):JP X o m:=λpins s σ H Q I q=>h pins s σ H Q I (k σ H Q q)
noncomputable def vr(i:Nat):ME:=λenv st=>match env[i]? with | some (some d)=>.ok d st | _=>.bad
noncomputable def ct(d:D):ME:=λ_ st=>.ok d st
def aA(i:Nat){pos:Pos}(hN:X.N[i]? = some x:=by rfl)(hv:Vis X.env.scope x:=by first | exact Or.inl rfl | exact Or.inr (Or.inl rfl) | exact Or.inr (Or.inr rfl))(hd:(x==("__debug__":Str))=false:=by decide) 
  (yD:(x==("__classdict__":Str))=false:=by decide):JE X (.Name x pos) (vr i):=JE.of (Jo hN hv hd yD) fun σ H Q zz=>by
 obtain⟨μ,env,st,he,hs,hp⟩:=zz;unfold vr at hp
 split at hp
 ·rename_i d e;obtain⟨v,h1,h2⟩:=he.at_ i d e;exact⟨v,h1,hp.ret hs h2⟩
 ·exact hp.elim
def bx{i j pos}:JE X (.Constant (.int i) j pos) (ct (.int i)):=by
 refine JE.of Vv fun σ H Q zz=>?_;obtain⟨μ,env,st,he,hs,hp⟩:=zz;exact hp.ret hs (ak.aP.mpr rfl)
def vW{b j pos}:JE X (.Constant (.bool b) j pos) (ct (.bl b)):=by
 refine JE.of aaU fun σ H Q zz=>?_;obtain⟨μ,env,st,he,hs,hp⟩:=zz;exact hp.ret hs (ak.cG.mpr rfl)
def Mp{j pos}:JE X (.Constant .none j pos) (ct .non):=by
 refine JE.of Vs fun σ H Q zz=>?_;obtain⟨μ,env,st,he,hs,hp⟩:=zz;exact hp.ret hs (ak.bT.mpr rfl)
def oY{j pos}(cs:List Nat)(h:x=strOf cs:=by decide +kernel):JE X (.Constant (.str x) j pos) (ct (.str cs)):=by
 refine JE.of Vp fun σ H Q zz=>?_;obtain⟨μ,env,st,he,hs,hp⟩:=zz;exact hp.ret hs (ak.aY.mpr (by rw[h]))
noncomputable def aM(g:D->D->au->R D)(a b:ME):ME:=λenv st=>(a env st).bind λx st1=>(b env st1).bind λy st2=>g x y st2
noncomputable def yj(g:D->au->R D)(a:ME):ME:=λenv st=>(a env st).bind λx st1=>g x st1
noncomputable def rM(X:Cx)(g:D->D->au->R D):R2:=λx y H Q=>∃μ st dx dy,aV X.K μ H st/\ak X.K μ H dx x/\ak X.K μ H dy y/\cM X μ H (rT X) Q (g dx dy st)
def rM1(X:Cx)(g:D->au->R D):V->Hp->VK->Prop:=λx H Q=>∃μ st dx,aV X.K μ H st/\ak X.K μ H dx x/\cM X μ H (rT X) Q (g dx st)
def E_(X:Cx)(g:List D->au->R D):List V->Hp->VK->Prop:=λxs H Q=>∃μ st ds,aV X.K μ H st/\ao X.K μ H ds xs/\cM X μ H (rT X) Q (g ds st)
def Ou(X:Cx)(g:D->List D->au->R D):V->List V->Hp->VK->Prop:=λx xs H Q=>∃μ st d ds,aV X.K μ H st/\ak X.K μ H d x/\ao X.K μ H ds xs/\cM X μ H (rT X) Q (g d ds st)
def fK.weak(h:fK X f r)(k:∀x y H Q,r' x y H Q->r x y H Q):fK X f r':=λpins s σ H x y v u Q I rx ry q=>h pins s σ H x y v u Q I rx ry (k x y H Q q)
def Q7.weak(h:Q7 X f r)(k:∀x H Q,r' x H Q->r x H Q):Q7 X f r':=λpins s σ H x v Q I rx q=>h pins s σ H x v Q I rx (k x H Q q)
def cD.weak(h:cD X f r)(k:∀x H Q,r' x H Q->r x H Q):cD X f r':=λpins s σ H x v Q I rx q=>h pins s σ H x v Q I rx (k x H Q q)
def xx.weak{id:String}{r r':V->List V->Hp->VK->Prop}(h:xx X id r)(k:∀x xs H Q,r' x xs H Q->r x xs H Q):xx X id r':=λpins s σ H x xs v us Q I rx rs q=>h pins s σ H x xs v us Q I rx rs (k x xs H Q q)
def Dy.weak(h:Dy X r)(k:∀x y H Q,r' x y H Q->r x y H Q):Dy X r':=λva sl pins s σ H x y v u Q I rx ry q=>h va sl pins s σ H x y v u Q I rx ry (k x y H Q q)
def zG.weak(h:zG X r)(k:∀x l u H Q,r' x l u H Q->r x l u H Q):zG X r':=λpins s σ H x v vl vu lo hi sl Q I rx hs pl pu q=>h pins s σ H x v vl vu lo hi sl Q I rx hs pl pu (k x lo hi H Q q)
def xu.weak{t t':Mi}(h:xu X t)(k:∀o i v H Q,t' o i v H Q->t o i v H Q):xu X t':=λpins s σ H o i v ov iv u Q I ro ri rv q=>h pins s σ H o i v ov iv u Q I ro ri rv (k o i v H Q q)
def X3(h:tM X (aM g ma mb) σ H Q):tM X ma σ H λx H1=>tM X mb σ H1 λy H2=>rM X g x y H2 Q:=by
 obtain⟨μ,env,st,he,hs,hp⟩:=h;refine⟨μ,env,st,he,hs,hp.bind.imp ?_⟩;rintro x H1 ⟨μ1,st1,d,g1,bV,hx,bf⟩;refine⟨μ1,env,st1,he.mono g1,bV,bf.bind.imp ?_⟩;rintro y H2 ⟨μ2,st2,d2,g2,fY,hy,dY⟩;exact⟨μ2,st2,d,d2,fY,hx.mono g2 _,hy,dY⟩
def aH(ho:fK X (binaryOp op) (rM X g))(ha:JE X a ma)(hb:JE X b mb):JE X (.BinOp a op b pos) (aM g ma mb) :=
 JE.of (aaR ho ha hb) fun σ H Q h=>X3 h
def yq(ho:fK X (compareOp op) (rM X g))(ha:JE X a ma)(hb:JE X b mb)(hm:behindInMarks op b=false):JE X (.Compare a [op] [b] pos) (aM g ma mb) :=
 JE.of (Pn ho ha hb hm) fun σ H Q h=>X3 h
def o9(ho:Q7 X (unaryOp op) (rM1 X g))(ha:JE X a ma):JE X (.UnaryOp op a pos) (yj g ma):=by
 refine JE.of (aaQ ho ha) fun σ H Q zz=>?_;obtain⟨μ,env,st,he,hs,hp⟩:=zz;refine⟨μ,env,st,he,hs,hp.bind.imp λx H1 zz=>?_⟩;obtain⟨μ1,st1,d,g1,bV,hx,bf⟩:=zz;exact⟨μ1,st1,d,bV,hx,bf⟩
noncomputable def oZ(a:ME):MT:=λenv st=>(a env st).bind λx st1=>match x with | .bl b=>.ok b st1 | _=>.bad
def qQ(ho:fK X (compareOp op) (rM X g))(ha:JE X a ma)(hb:JE X b mb)(hm:behindInMarks op b=false):JT X (.Compare a [op] [b] pos) (oZ (aM g ma mb)):=by
 refine JT.of (OD ho ha hb hm) fun σ H Q zz=>?_;obtain⟨μ,env,st,he,hs,hp⟩:=zz;refine X3 ⟨μ,env,st,he,hs,hp.bind.imp ?_⟩;rintro x H1 ⟨μ1,st1,d,g1,bV,hx,bf⟩;cases d with
 | bl b=>exact⟨b,ak.cG.mp hx,bf.ret bV rfl⟩
 | _=>exact bf.elim
noncomputable def HQ:D->au->Option Bool
 | .non,_=>some false
 | .bl b,_=>some b
 | .int i,_=>some (i != 0)
 | .str cs,_=>if cs.length<=1000000 then some (!cs.isEmpty) else none
 | .tup ds,_=>some (!ds.isEmpty)
 | .loc n,st=>match st[n]? with
  | some (.lst ds)=>some (!ds.isEmpty)
  | some (.frz ds)=>some (!ds.isEmpty)
  | _=>none
def Hu(h:n<=1000000):n<=sizeLine:=kO h (by decide)
def aV.lst{K:PySem.W.Frag}{μ:List Addr}{H:Hp}{st:au}{n:Nat}{ds:List D}(h:aV K μ H st)(e:st[n]? = some (.lst ds)):∃p xs,μ[n]? = some p/\H p=some (.lst xs)/\ao K μ H ds xs:=by
 obtain⟨p,h1,xs,h2,h3⟩:=h.at_ n _ e;exact⟨p,xs,h1,h2,h3⟩
noncomputable def aq(st:au)(n:Nat):Option (List D):=match st[n]? with
 | some (.lst ds)=>some ds
 | some (.frz ds)=>some ds
 | _=>none
def aV.items{K:PySem.W.Frag}{μ:List Addr}{H:Hp}{st:au}{n:Nat}{ds:List D}(h:aV K μ H st)(e:aq st n=some ds):∃p xs,μ[n]? = some p/\rO K H p xs/\ao K μ H ds xs:=by
 unfold aq at e
 split at e
 ·rename_i es q;cases e;obtain⟨p,xs,h1,h2,h3⟩:=h.lst q;exact⟨p,xs,h1,rO.of h2,h3⟩
 ·rename_i es q;cases e;obtain⟨p,h1,xs,h2,h3⟩:=h.at_ n _ q;exact⟨p,xs,h1,h2.sqL,h3⟩
 ·cases e
def ao.isEmpty(h:ao K μ H ds xs):ds.isEmpty=xs.isEmpty:=by
 have:=h.length;cases ds<;>cases xs<;>simp_all
def NB{d:D}{st:au}{b:Bool}{μ:List Addr}{H:Hp}{v:V}(h:HQ d st=some b)(hs:aV X.K μ H st)(hv:ak X.K μ H d v):XM X.K v H b:=by
 cases d with
 | non=>rw[ak.bT]at hv;subst hv;cases h;rfl
 | bl c=>rw[ak.cG]at hv;subst hv;cases h;rfl
 | int i=>rw[ak.aP]at hv;subst hv;cases h;rfl
 | str cs =>
  rw[ak.aY]at hv;subst hv;simp only[HQ]at h
  split at h
  ·rename_i hl;cases h;have e:(strOf cs).length=cs.length:=by simp[Str.length,strOf]
   refine⟨by rw[e];exact Hu hl,?_⟩;rw[e];cases cs<;>simp;omega
  ·cases h
 | tup ds =>
  rw[ak.aX]at hv;obtain⟨a,xs,rfl,h1,h2⟩:=hv;cases h;exact .inr (.inl ⟨xs,h1.uW,by rw[h2.isEmpty]⟩)
 | loc n =>
  rw[ak.aL]at hv;obtain⟨a,h1,rfl⟩:=hv;have key:∃ds,aq st n=some ds/\b=!ds.isEmpty:=by
   unfold aq;simp only[HQ]at h
   split at h
   ·rename_i q;cases h;exact⟨_,rfl,rfl⟩
   ·rename_i q;cases h;exact⟨_,rfl,rfl⟩
   ·cases h
  obtain⟨ds,q,rfl⟩:=key;obtain⟨p,xs,h3,h4,h5⟩:=hs.items q;rw[h1]at h3;cases h3;exact .inl ⟨xs,h4,by rw[h5.isEmpty]⟩
def JW(X:Cx)(e:Expr)(m:MT):Prop:=PW X e (tMT X m)
def JW.jt(h:JW X e m):JT X e m:=PW.pt h
def JW.of{t:TT}{m:MT}(h:PW X e t)(k:∀σ H Q,tMT X m σ H Q->t σ H Q):JW X e m:=λw pins s σ H Q I q=>h w pins s σ H Q I (k σ H Q q)
noncomputable def Xz(a b:MT):MT:=λenv st=>(a env st).bind λx st1=>if x then b env st1 else .ok false st1
noncomputable def YC(a b:MT):MT:=λenv st=>(a env st).bind λx st1=>if x then .ok true st1 else b env st1
variable  {ta tb tc:MT}{rest:List Expr}
def Qg(ha:JT X a ta):JW X (.BoolOp .And [a] pos) ta:=Ox ha
def Ah(ha:JT X a ta):JW X (.BoolOp .Or [a] pos) ta:=Vd ha
def Wa(ha:JT X a ta)(hb:JW X (.BoolOp .And (b::rest) pos) tb):JW X (.BoolOp .And (a::b::rest) pos) (Xz ta tb):=by
 refine JW.of (Ve ha hb) fun σ H Q zz=>?_;obtain⟨μ,env,st,hE,hs,hp⟩:=zz;refine⟨μ,env,st,hE,hs,hp.bind.imp ?_⟩;rintro x H1 ⟨μ1,st1,d,g1,bV,rfl,bf⟩;cases d with
 | true=>exact Ai ⟨μ1,env,st1,hE.mono g1,bV,bf⟩
 | false=>exact Aj (bf.ret bV rfl)
def Cw(ha:JT X a ta)(hb:JW X (.BoolOp .Or (b::rest) pos) tb):JW X (.BoolOp .Or (a::b::rest) pos) (YC ta tb):=by
 refine JW.of (aaL ha hb) fun σ H Q zz=>?_;obtain⟨μ,env,st,hE,hs,hp⟩:=zz;refine⟨μ,env,st,hE,hs,hp.bind.imp ?_⟩;rintro x H1 ⟨μ1,st1,d,g1,bV,rfl,bf⟩;cases d with
 | true=>exact Ai (bf.ret bV rfl)
 | false=>exact Aj ⟨μ1,env,st1,hE.mono g1,bV,bf⟩
def Ks{op}(h:JE X a m):JE X (.BoolOp op [a] pos) m:=Vr h
noncomputable def ifE(c:MT)(a b:ME):ME:=λenv st=>(c env st).bind λx st1=>if x then a env st1 else b env st1
def aa_(hc:JT X c tc)(ha:JE X a ma)(hb:JE X b mb):JE X (.IfExp c a b pos) (ifE tc ma mb):=by
 refine JE.of (Jq hc ha hb) fun σ H Q zz=>?_;obtain⟨μ,env,st,hE,hs,hp⟩:=zz;refine⟨μ,env,st,hE,hs,hp.bind.imp ?_⟩;rintro x H1 ⟨μ1,st1,d,g1,bV,rfl,bf⟩;cases d with
 | true=>exact Ai ⟨μ1,env,st1,hE.mono g1,bV,bf⟩
 | false=>exact Aj ⟨μ1,env,st1,hE.mono g1,bV,bf⟩
noncomputable def az:MA:=λ_ st=>.ok [] st
noncomputable def aj(a:ME)(r:MA):MA:=λenv st=>(a env st).bind λx st1=>(r env st1).bind λxs st2=>.ok (x::xs) st2
def bh:JA X [] az:=by
 refine JA.of Jv fun σ H Q zz=>?_;obtain⟨μ,env,st,hE,hs,hp⟩:=zz;exact hp.ret hs ao.nil
def aF{e:Expr}{es:List Expr}{m:ME}{mA:MA}(h:JE X e m)(hr:JA X es mA)(hs:starEach (e::es) X.env=(false,eval e X.env)::starEach es X.env:=by rfl):JA X (e::es) (aj m mA):=by
 refine JA.of (zp1 h hr hs) fun σ H Q zz=>?_;obtain⟨μ,env,st,hE,hs,hp⟩:=zz;refine⟨μ,env,st,hE,hs,hp.bind.imp ?_⟩;rintro x H1 ⟨μ1,st1,d,g1,bV,hx,bf⟩;refine⟨μ1,env,st1,hE.mono g1,bV,bf.bind.imp ?_⟩;rintro xs H2 ⟨μ2,st2,ds,g2,fY,uJ,dY⟩;exact dY.ret fY (ao.cons (hx.mono g2 _) uJ)
noncomputable def bZ(m:MA):ME:=λenv st=>(m env st).bind λds st1=>if ds.length<=1000000 then .ok (.tup ds) st1 else .bad
noncomputable def eO(m:MA):ME:=λenv st=>(m env st).bind λds st1=>if ds.length<=1000000 then .ok (.loc st1.length) (st1++[.lst ds]) else .bad
def oA{x1}(h:JA X es mA):JE X (.Tuple es x1 pos) (bZ mA):=by
 refine JE.of (Vo h) fun σ H Q zz=>?_;obtain⟨μ,env,st,hE,hs,hp⟩:=zz;refine⟨μ,env,st,hE,hs,hp.bind.imp ?_⟩;rintro xs H1 ⟨μ1,st1,ds,g1,bV,uJ,bf⟩;dsimp only at bf
 split at bf
 ·rename_i hl;refine⟨by rw[<-uJ.length];exact Hu hl,λp hn=>?_⟩;exact bf _ _ μ1 (bD.lay hn) (bV.lay hn) (ak.aX.mpr ⟨p,xs,rfl,.inl rQ,uJ.mono (bD.lay hn) _⟩)
 ·exact bf.elim
def cM.newList(h:cM X μ H (rT X) Q (.ok (.loc st.length) (st++[.lst ds])))(hs:aV X.K μ H st)(hx:ao X.K μ H ds xs)(hn:H p=none) :
  Q (.ref p) (upd H p (.lst xs)):=by
 have g:bD μ H (μ++[p]) (upd H p (.lst xs)):=bD.new hn;refine h _ _ (μ++[p]) g (hs.new hn ⟨xs,rQ,hx.mono g _⟩) (ak.aL.mpr ⟨p,?_,rfl⟩);rw[<-hs.len];simp
def wL(h:JA X es mA):JE X (.List es pos) (eO mA):=by
 refine JE.of (Vt h) fun σ H Q zz=>?_;obtain⟨μ,env,st,hE,hs,hp⟩:=zz;refine⟨μ,env,st,hE,hs,hp.bind.imp ?_⟩;rintro xs H1 ⟨μ1,st1,ds,g1,bV,uJ,bf⟩;dsimp only at bf
 split at bf
 ·rename_i hl;exact⟨by rw[<-uJ.length];exact Hu hl,λp hn=>bf.newList bV uJ hn⟩
 ·exact bf.elim
end
section
variable  {X:Cx}{e a b c:Expr}{es:List Expr}{t:TE}{ma mb mc:ME}{mA:MA}{pos:Pos}
def zf9(cs:List Nat):(strOf cs).length=cs.length:=by simp[Str.length,strOf]
def Ej(a b:List Nat):strOf a++strOf b=strOf (a++b):=by
 show Str.append _ _=_;simp[Str.append,strOf]
def zmv{a b:List Nat}:strOf a=strOf b↔a=b:=by
 constructor
 ·intro h;have:=congrArg (λs:Str=>s.cps.toList) h;simpa[strOf] using this
 ·intro h;rw[h]
noncomputable def bH:D->D->au->R D
 | .int i,.int j,st=>.ok (.int (i+j)) st
 | .str a,.str b,st=>if a.length+b.length<=1000000 then .ok (.str (a++b)) st else .bad
 | .tup a,.tup b,st=>if a.length+b.length<=1000000 then .ok (.tup (a++b)) st else .bad
 | .loc m,.loc n,st=>match st[m]?,st[n]? with
  | some (.lst a),some (.lst b)=>if a.length+b.length<=1000000 then .ok (.loc st.length) (st++[.lst (a++b)]) else .bad
  | _,_=>.bad
 | _,_,_=>.bad
def lQ:fK X (binaryOp .Add) (rM X bH):=by
 refine fK.weak (fK.or VG (fK.or zn9 (fK.or Py (fK.or Jz VF)))) ?_;rintro x y H Q ⟨μ,st,dx,dy,hs,hx,hy,hp⟩;cases dx with
 | int i =>
  cases dy with
  | int j =>
   rw[ak.aP]at hx hy;subst hx hy;exact .inl ⟨i,j,rfl,rfl,hp.ret hs (ak.aP.mpr rfl)⟩
  | _=>exact hp.elim
 | str i =>
  cases dy with
  | str j =>
   rw[ak.aY]at hx hy;subst hx hy;simp only[bH]at hp
   split at hp
   ·rename_i hl;refine .inr (.inl ⟨_,_,rfl,rfl,?_,?_⟩)
    ·rw[zf9,zf9];exact Hu hl
    ·rw[Ej];exact hp.ret hs (ak.aY.mpr rfl)
   ·exact hp.elim
  | _=>exact hp.elim
 | tup i =>
  cases dy with
  | tup j =>
   rw[ak.aX]at hx hy;obtain⟨p,xs,rfl,h1,h2⟩:=hx;obtain⟨q,ys,rfl,h3,h4⟩:=hy;simp only[bH]at hp
   split at hp
   ·rename_i hl;by_cases R6:xs=[]
    ·subst R6;have hi:i=[]:=by have:=h2.length;simpa using this
     subst hi;exact .inr (.inr (.inr (.inl ⟨p,q,ys,rfl,rfl,h1.uW,h3.uW,hp.ret hs (ak.aX.mpr ⟨q,ys,rfl,h3,h4⟩)⟩)))
    ·refine .inr (.inr (.inl ⟨p,q,xs,ys,rfl,rfl,h1.uW,h3.uW,R6,by rw[<-h2.length,<-h4.length];exact Hu hl,λhy0=>?_,λ_ r hr=>?_⟩))
     ·subst hy0;have hj:j=[]:=by have:=h4.length;simpa using this
      subst hj;exact hp.ret hs (ak.aX.mpr ⟨p,xs,rfl,by rw[kh];exact h1,by rw[kh];exact h2⟩)
     ·exact hp _ _ μ (bD.lay hr) (hs.lay hr) (ak.aX.mpr ⟨r,_,rfl,.inl rQ,(h2.append h4).mono (bD.lay hr) _⟩)
   ·exact hp.elim
  | _=>exact hp.elim
 | loc m =>
  cases dy with
  | loc n =>
   rw[ak.aL]at hx hy;obtain⟨p,h1,rfl⟩:=hx;obtain⟨q,h2,rfl⟩:=hy;simp only[bH]at hp
   split at hp
   ·rename_i da db e1 e2
    split at hp
    ·rename_i hl;obtain⟨p',xs,h3,h4,h5⟩:=hs.lst e1;obtain⟨q',ys,h6,h7,h8⟩:=hs.lst e2;rw[h1]at h3;cases h3;rw[h2]at h6;cases h6;exact .inr (.inr (.inr (.inr ⟨p,q,xs,ys,rfl,rfl,h4,h7,by rw[<-h5.length,<-h8.length];exact Hu hl,λr hr=>hp.newList hs (h5.append h8) hr⟩)))
    ·exact hp.elim
   ·exact hp.elim
  | _=>exact hp.elim
 | _=>exact hp.elim
noncomputable def sr(C:Int->Int->Prop)[∀i j,Decidable (C i j)](g:Int->Int->D):D->D->au->R D
 | .int i,.int j,st=>if C i j then .ok (g i j) st else .bad
 | _,_,_=>.bad
def Tw[∀i j,Decidable (C i j)](h:fK X f (rI C gv))(hg:∀i j μ H,ak X.K μ H (g i j) (gv i j)):fK X f (rM X (sr C g)):=by
 refine fK.weak h ?_;rintro x y H Q ⟨μ,st,dx,dy,hs,hx,hy,hp⟩;cases dx with
 | int i =>
  cases dy with
  | int j =>
   rw[ak.aP]at hx hy;subst hx hy;simp only[sr]at hp
   split at hp
   ·rename_i hc;exact⟨i,j,rfl,rfl,hc,hp.ret hs (hg i j μ H)⟩
   ·exact hp.elim
  | _=>exact hp.elim
 | _=>exact hp.elim
def fK.top(h:fK X f (RC gv)):fK X f (rI (λ_ _=>True) gv):=by
 refine fK.weak h λx y H Q zz=>?_;obtain⟨i,j,a,b,_,q⟩:=zz;exact⟨i,j,a,b,q⟩
noncomputable def z7:D->D->au->R D:=sr (λ_ _=>True) λi j=>.int (i - j)
def Cm:fK X (binaryOp .Sub) (rM X z7):=Tw (fK.top Vx) λi j μ H=>ak.aP.mpr rfl
noncomputable def jR:D->D->au->R D:=sr (λi j=>(-(2 ^ 64)<i/\i<2 ^ 64)\/(-(2 ^ 64)<j/\j<2 ^ 64)) λi j=>.int (i*j)
def DG:fK X (binaryOp .Mult) (rM X jR):=Tw (fK.weak Vy λx y H Q h=>h) λi j μ H=>ak.aP.mpr rfl
noncomputable def eV:D->D->au->R D:=sr (λ_ j=>0<j/\j<2 ^ 64) λi j=>.int (i / j)
def zX:fK X (binaryOp .FloorDiv) (rM X eV):=Tw Jy λi j μ H=>ak.aP.mpr rfl
noncomputable def eU:D->D->au->R D:=sr (λ_ j=>0<j) λi j=>.int (i % j)
def vC:fK X (binaryOp .Mod) (rM X eU):=Tw Vz λi j μ H=>ak.aP.mpr rfl
noncomputable def ltV:D->D->au->R D:=sr (λ_ _=>True) λi j=>.bl (decide (i<j))
def Jx:fK X (compareOp .Lt) (rM X ltV):=Tw (fK.top aaW) λi j μ H=>ak.cG.mpr rfl
noncomputable def leV:D->D->au->R D:=sr (λ_ _=>True) λi j=>.bl (decide (i<=j))
def VB:fK X (compareOp .LtE) (rM X leV):=Tw (fK.top aaX) λi j μ H=>ak.cG.mpr rfl
noncomputable def QB:D->D->au->R D:=sr (λ_ _=>True) λi j=>.bl (decide (j<i))
def Zu:fK X (compareOp .Gt) (rM X QB):=Tw (fK.top aaY) λi j μ H=>ak.cG.mpr rfl
noncomputable def qd:D->au->R D
 | .int i,st=>.ok (.int (-i)) st
 | _,_=>.bad
def Dz:Q7 X (unaryOp .USub) (rM1 X qd):=by
 refine Q7.weak Us ?_;rintro x H Q ⟨μ,st,dx,hs,hx,hp⟩;cases dx with
 | int i=>rw[ak.aP]at hx;subst hx;exact⟨i,rfl,hp.ret hs (ak.aP.mpr rfl)⟩
 | _=>exact hp.elim
noncomputable def jF:D->D->au->R D
 | .non,.non,st=>.ok (.bl true) st
 | _,.non,st=>.ok (.bl false) st
 | _,_,_=>.bad
noncomputable def jL:D->D->au->R D
 | .non,.non,st=>.ok (.bl false) st
 | _,.non,st=>.ok (.bl true) st
 | _,_,_=>.bad
def ak.xJ(h:ak K μ H d v):decide (v=.non)=(match d with | .non=>true | _=>false):=by
 cases d with
 | non=>rw[ak.bT]at h;subst h;rfl
 | bl b=>rw[ak.cG]at h;subst h;rfl
 | int b=>rw[ak.aP]at h;subst h;rfl
 | str b=>rw[ak.aY]at h;subst h;rfl
 | tup b=>rw[ak.aX]at h;obtain⟨_,_,rfl,_⟩:=h;rfl
 | loc b=>rw[ak.aL]at h;obtain⟨_,_,rfl⟩:=h;rfl
def zf0:fK X (compareOp .Is) (rM X jF):=by
 refine fK.weak VD ?_;rintro x y H Q ⟨μ,st,dx,dy,hs,hx,hy,hp⟩;cases dy with
 | non =>
  rw[ak.bT]at hy;refine⟨hy,?_⟩;rw[hx.xJ];cases dx<;>exact hp.ret hs (ak.cG.mpr rfl)
 | _=>cases dx<;>exact hp.elim
def zil:fK X (compareOp .IsNot) (rM X jL):=by
 refine fK.weak Pu ?_;rintro x y H Q ⟨μ,st,dx,dy,hs,hx,hy,hp⟩;cases dy with
 | non =>
  rw[ak.bT]at hy;refine⟨hy,?_⟩;rw[hx.xJ];cases dx<;>exact hp.ret hs (ak.cG.mpr rfl)
 | _=>cases dx<;>exact hp.elim
noncomputable def bz:D->D->au->R D
 | .loc n,.int i,st=>match (aq st n).bind λds=>uq ds i with | some d=>.ok d st | none=>.bad
 | .tup ds,.int i,st=>match uq ds i with | some d=>.ok d st | none=>.bad
 | .str cs,.int i,st=>if cs.length<=1000000 then (match uq cs i with | some c=>.ok (.str [c]) st | none=>.bad) else .bad
 | _,_,_=>.bad
def ao.uq(h:ao K μ H ds xs)(e:L2.uq ds i=some d):∃v,L2.uq xs i=some v/\ak K μ H d v:=by
 unfold L2.uq at e ⊢;rw[<-h.length];cases q:yU ds.length i with
 | none=>rw[q]at e;cases e
 | some j =>
  rw[q]at e;exact h.get (by simpa using e)
def ac9:Dy X (rM X bz):=by
 refine Dy.weak Wj ?_;rintro x y H Q ⟨μ,st,dx,dy,hs,hx,hy,hp⟩;cases dy with
 | int i =>
  rw[ak.aP]at hy;subst hy;cases dx with
  | loc n =>
   rw[ak.aL]at hx;obtain⟨p,h1,rfl⟩:=hx;simp only[bz]at hp;cases e:aq st n with
   | none=>rw[e]at hp;exact hp.elim
   | some ds =>
    rw[e]at hp;cases e2:L2.uq ds i with
    | none=>simp only[kI,e2]at hp;exact hp.elim
    | some d =>
     simp only[kI,e2]at hp;obtain⟨p',xs,h3,h4,h5⟩:=hs.items e;rw[h1]at h3;cases h3;obtain⟨v,h6,h7⟩:=h5.uq e2;exact .inl ⟨p,xs,i,v,rfl,rfl,h4,h6,hp.ret hs h7⟩
  | tup ds =>
   rw[ak.aX]at hx;obtain⟨p,xs,rfl,h1,h2⟩:=hx;simp only[bz]at hp;cases e2:L2.uq ds i with
   | none=>simp only[e2]at hp;exact hp.elim
   | some d =>
    simp only[e2]at hp;obtain⟨v,h6,h7⟩:=h2.uq e2;exact .inr (.inl ⟨p,xs,i,v,rfl,rfl,h1.uW,h6,hp.ret hs h7⟩)
  | str cs =>
   rw[ak.aY]at hx;subst hx;simp only[bz]at hp
   split at hp
   ·rename_i hl;cases e2:L2.uq cs i with
    | none=>simp only[e2]at hp;exact hp.elim
    | some c =>
     simp only[e2]at hp;exact .inr (.inr ⟨_,i,c,rfl,rfl,by rw[zf9];exact Hu hl,by simpa[strOf] using e2,hp.ret hs (ak.aY.mpr rfl)⟩)
   ·exact hp.elim
  | _=>exact hp.elim
 | _=>cases dx<;>exact hp.elim
def aO(ha:JE X a ma)(hb:JE X b mb)(hs:Dw b:=by exact λ_ _=>rfl):JE X (.Subscript a b pos) (aM bz ma mb) :=
 JE.of (aaS ac9 ha hb hs) fun σ H Q h=>X3 h
end
section
variable  {X:Cx}{e a b c:Expr}{es:List Expr}{t:TE}{ma mb mc:ME}{mA:MA}{pos p2:Pos}
noncomputable def cut{α:Type}(xs:List α)(lo hi:Option Int):List α:=(xs.drop (HT.dC xs.length 0 lo)).take (HT.dC xs.length xs.length hi - HT.dC xs.length 0 lo)
def ao.cut{K:PySem.W.Frag}{μ:List Addr}{H:Hp}{ds:List D}{xs:List V}(h:ao K μ H ds xs)(lo hi:Option Int):ao K μ H (M.cut ds lo hi) (zE xs lo hi):=by
 unfold M.cut zE;rw[<-h.length];exact (h.drop _).take _
def GC{α:Type}{xs:List α}{lo hi:Option Int}(h:HT.dC xs.length 0 lo=0/\HT.dC xs.length xs.length hi=xs.length):cut xs lo hi=xs:=by
 unfold cut;rw[h.1,h.2];simp
def Et(i j:Nat):sliceRange (i:Int) (j:Int) 1=(List.range (j - i)).map λk=>i+k:=by
 unfold sliceRange;simp only[show (1:Int) > 0 by decide,afy];have e:(if (i:Int)<(j:Int) then ((j:Int) - (i:Int)+1 - 1) / 1 else 0).toNat=j - i:=by
  split
  ·rw[Int.ediv_one];omega
  ·omega
 rw[e];refine mV λk _=>?_;omega
def Oc(lo hi:Option Int)(n:Nat):Builtin.Str.strSliceIndices lo hi 1 n=(List.range (HT.dC n n hi - HT.dC n 0 lo)).map λk=>HT.dC n 0 lo+k:=by
 rw[<-Et];unfold Builtin.Str.strSliceIndices;simp only[show (1:Int) > 0 by decide,afy];congr 1
 ·cases lo with
  | none=>rfl
  | some v =>
   show max 0 (min (if v<0 then v+(n:Int) else v) (n:Int))=((if v<0 then (v+(n:Int)).toNat else min v.toNat n:Nat):Int)
   split<;>omega
 ·cases hi with
  | none=>rfl
  | some v =>
   show max 0 (min (if v<0 then v+(n:Int) else v) (n:Int))=((if v<0 then (v+(n:Int)).toNat else min v.toNat n:Nat):Int)
   split<;>omega
def Jl(cs:List Nat)(i k:Nat):((List.range k).map λm=>i+m).filterMap (λm=>cs[m]?)=(cs.drop i).take k:=by
 induction k generalizing i with
 | zero=>simp
 | succ k ih =>
  rw[List.range_succ_eq_map,gB,nW,gY];have e:((λm=>i+m)∘Nat.succ)=λm=>(i+1)+m:=by funext m;simp;omega
  rw[e,ih (i+1)];cases q:cs[i]? with
  | none =>
   have hl:cs.length<=i:=List.getElem?_eq_none_iff.mp q;simp[q,nF hl,nF (Nat.le_succ_of_le hl)]
  | some c =>
   have hl:=(gk.mp q).1;have hc:=(gk.mp q).2;simp[q,nG hl,hc]
def Er(cs:List Nat)(lo hi:Option Int):Txt.slice (strOf cs) lo hi=strOf (cut cs lo hi):=by
 have e:(strOf cs).length=cs.length:=by simp[Str.length,strOf]
 unfold Txt.slice;rw[e,Oc];have hj:HT.dC cs.length cs.length hi<=cs.length:=HT.Io _ _ (gf _) hi;have q:((List.range (HT.dC cs.length cs.length hi - HT.dC cs.length 0 lo)).map λk=>HT.dC cs.length 0 lo+k).filterMap (λm=>(strOf cs).cps[m]?)=cut cs lo hi:=by
  have:(λ(m:Nat)=>(strOf cs).cps[m]?)=λ(m:Nat)=>cs[m]?:=by funext m;simp[strOf]
  rw[this,Jl];rfl
 split
 ·rename_i h;rw[m_]at h;have h2:HT.dC cs.length cs.length hi - HT.dC cs.length 0 lo=cs.length:=by simpa using h.2
  have h3:cut cs lo hi=cs:=by
   unfold cut;rw[h2];by_cases hz:cs.length=0
   ·have:cs=[]:=pG.mp hz;subst this;simp
   ·have:HT.dC cs.length 0 lo=0:=by omega
    rw[this];simp
  rw[h3]
 ·rw[q]
noncomputable def vG:D->Option Int->Option Int->au->R D
 | .loc n,lo,hi,st=>match aq st n with | some ds=>.ok (.loc st.length) (st++[.lst (cut ds lo hi)]) | none=>.bad
 | .tup ds,lo,hi,st=>.ok (.tup (cut ds lo hi)) st
 | .str cs,lo,hi,st=>if cs.length<=1000000 then .ok (.str (cut cs lo hi)) st else .bad
 | _,_,_,_=>.bad
def rMS(X:Cx)(g:D->Option Int->Option Int->au->R D):V->Option Int->Option Int->Hp->VK->Prop:=λx lo hi H Q=>∃μ st dx,aV X.K μ H st/\ak X.K μ H dx x/\cM X μ H (rT X) Q (g dx lo hi st)
def acS:V->Option Int->Option Int->Hp->VK->Prop:=λx lo hi H Q=>∃cs,x=.str (strOf cs)/\cs.length<=sizeLine/\Q (.str (strOf (cut cs lo hi))) H
def U3:zG X acS:=by
 intro pins s σ H x v vl vu lo hi sl Q I rx hs pl pu h;obtain⟨cs,rfl,hz,q⟩:=h;obtain⟨t,rfl⟩:=rx;obtain⟨l,el,ml⟩:∃l:Option (Int×Tok),vl=partValue l/\l.map (·.1)=lo:=by
  cases pl with
  | none=>exact⟨none,rfl,rfl⟩
  | int i u=>exact⟨some (i,u),rfl,rfl⟩
 obtain⟨u,eu,mu⟩:∃l:Option (Int×Tok),vu=partValue l/\l.map (·.1)=hi:=by
  cases pu with
  | none=>exact⟨none,rfl,rfl⟩
  | int i u=>exact⟨some (i,u),rfl,rfl⟩
 subst el eu;have su:s.heap.IsSlice sl l u none:=hs;refine⟨"str",_,F.slot_str_getitem.lookup,typeIs_str _ _ _,wpAny_getItem_str_slice (l:=l) (u:=u) (st:=none) su rfl ?_⟩;have e:Txt.slice (strOf cs) lo hi=strOf (cut cs lo hi):=Er cs lo hi;unfold Txt.slice at e;unfold sliceMade slicePicked;rw[ml,mu]
 split
 ·rename_i h;have h':((1:Int)==1 && (Builtin.Str.strSliceIndices lo hi 1 (strOf cs).length).length==(strOf cs).length)=true:=h;rw[ae9 h']at e;exact⟨.str (strOf cs),H,I,⟨t,rfl⟩,by rw[<-e]at q;exact q⟩
 ·rename_i h;have h':¬ ((1:Int)==1 && (Builtin.Str.strSliceIndices lo hi 1 (strOf cs).length).length==(strOf cs).length)=true:=h;rw[ae_ h']at e;have e':({ cps:=((Builtin.Str.strSliceIndices lo hi ((Option.map (·.1) (none:Option (Int×Tok))).getD 1) (strOf cs).length).filterMap λx=>(strOf cs).cps[x]?).toArray }:Str)=strOf (cut cs lo hi):=e;rw[e'];refine⟨?_,.str (strOf (cut cs lo hi)),H,I.tok _,⟨_,rfl⟩,q⟩;have:(strOf (cut cs lo hi)).length=(cut cs lo hi).length:=by simp[Str.length,strOf]
  rw[this];refine kO ?_ hz;unfold cut;rw[m6,nj];omega
def acx:zG X (rMS X vG):=by
 refine zG.weak (zG.or Oa (zG.or U0 (zG.or N_ U3))) ?_;rintro x lo hi H Q ⟨μ,st,dx,hs,hx,hp⟩;cases dx with
 | loc n =>
  rw[ak.aL]at hx;obtain⟨p,h1,rfl⟩:=hx;simp only[vG]at hp;cases e:aq st n with
  | none=>rw[e]at hp;exact hp.elim
  | some ds =>
   rw[e]at hp;obtain⟨p',xs,h3,h4,h5⟩:=hs.items e;rw[h1]at h3;cases h3;exact .inl ⟨p,xs,rfl,h4,λq hq=>hp.newList hs (h5.cut lo hi) hq⟩
 | tup ds =>
  rw[ak.aX]at hx;obtain⟨p,xs,rfl,h1,h2⟩:=hx;by_cases hw:HT.dC xs.length 0 lo=0/\HT.dC xs.length xs.length hi=xs.length
  ·refine .inr (.inr (.inl ⟨p,xs,rfl,h1.uW,hw,hp.ret hs ?_⟩));rw[<-h2.length]at hw;rw[GC hw];exact ak.aX.mpr ⟨p,xs,rfl,h1,h2⟩
  ·exact .inr (.inl ⟨p,xs,rfl,h1.uW,hw,λq hq=>hp _ _ μ (bD.lay hq) (hs.lay hq) (ak.aX.mpr ⟨q,_,rfl,.inl rQ,(h2.cut lo hi).mono (bD.lay hq) _⟩)⟩)
 | str cs =>
  rw[ak.aY]at hx;subst hx;simp only[vG]at hp
  split at hp
  ·rename_i hl;exact .inr (.inr (.inr ⟨cs,rfl,Hu hl,hp.ret hs (ak.aY.mpr rfl)⟩))
  ·exact hp.elim
 | _=>exact hp.elim
noncomputable def yS:MP:=λ_ st=>.ok none st
noncomputable def xO(m:ME):MP:=λenv st=>(m env st).bind λx st1=>match x with | .int i=>.ok (some i) st1 | _=>.bad
def Hf:JP X none yS:=by
 refine JP.of O8 fun σ H Q zz=>?_;obtain⟨μ,env,st,hE,hs,hp⟩:=zz;exact hp.ret hs rfl
def Bj(h:JE X e m):JP X (some e) (xO m):=by
 refine JP.of (O7 h) fun σ H Q zz=>?_;obtain⟨μ,env,st,hE,hs,hp⟩:=zz;refine⟨μ,env,st,hE,hs,hp.bind.imp ?_⟩;rintro x H1 ⟨μ1,st1,d,g1,bV,hx,bf⟩;cases d with
 | int i=>exact⟨i,ak.aP.mp hx,bf.ret bV rfl⟩
 | _=>exact bf.elim
noncomputable def yd(a:ME)(l h:MP):ME:=λenv st=>(a env st).bind λx st1=>(l env st1).bind λlo st2=>(h env st2).bind λhi qO=>vG x lo hi qO
def DP(he:JE X e ma)(hl:JP X lo ml)(hu:JP X hi mh):JE X (.Subscript e (.Slice lo hi none p2) pos) (yd ma ml mh):=by
 refine JE.of (Jp acx he hl hu) fun σ H Q zz=>?_;obtain⟨μ,env,st,hE,hs,hp⟩:=zz;refine⟨μ,env,st,hE,hs,hp.bind.imp ?_⟩;rintro x H1 ⟨μ1,st1,d,g1,bV,hx,bf⟩;refine⟨μ1,env,st1,hE.mono g1,bV,bf.bind.imp ?_⟩;rintro l H2 ⟨μ2,st2,l',g2,fY,rfl,dY⟩;refine⟨μ2,env,st2,(hE.mono g1).mono g2,fY,dY.bind.imp ?_⟩;rintro u H3 ⟨μ3,qO,u',g3,vX,rfl,zO⟩;exact⟨μ3,qO,d,vX,hx.mono (g2.trans g3) _,zO⟩
noncomputable def bL(g:List D->au->R D)(mA:MA):ME:=λenv st=>(mA env st).bind λds st1=>g ds st1
def zpv(h:tM X (bL g mA) σ H Q):tMA X mA σ H λvs H1=>E_ X g vs H1 Q:=by
 obtain⟨μ,env,st,hE,hs,hp⟩:=h;refine⟨μ,env,st,hE,hs,hp.bind.imp ?_⟩;rintro xs H1 ⟨μ1,st1,ds,g1,bV,hx,bf⟩;exact⟨μ1,st1,ds,bV,hx,bf⟩
def wN{x:Str}{p:Pos}{id:String}{g:List D->au->R D}(hc:cD X (.builtin id) (E_ X g))(hg:Gl X x)(hm:X.mg x=none)(hv:bootBuiltins x=some (.builtin id))(ha:JA X (e::es) mA)(hn:x ≠ "__name__":=by decide)(xj:(x==("__debug__":Str))=false:=by decide)
  (he:starEach (e::es) X.env=(false,eval e X.env)::starEach es X.env:=by rfl) (qH:(backTo pos (starEach es X.env)).any (·.1)=false:=by rfl):JE X (.Call (.Name x p) (e::es) [] pos) (bL g mA) :=
 JE.of (Jt hc hg hm hv ha hn xj he qH) fun σ H Q h=>zpv h
def Ra{p:Pos}(hc:cD X (.type T) (E_ X g))(hg:Gl X x)(hm:X.mg x=none)(hv:bootBuiltins x=some (.type T))(ha:JA X (e::es) mA)(hn:x ≠ "__name__":=by decide)(xj:(x==("__debug__":Str))=false:=by decide) 
  (he:starEach (e::es) X.env=(false,eval e X.env)::starEach es X.env:=by rfl) (qH:(backTo pos (starEach es X.env)).any (·.1)=false:=by rfl):JE X (.Call (.Name x p) (e::es) [] pos) (bL g mA) :=
 JE.of (Fg hc hg hm hv ha hn xj he qH) fun σ H Q h=>zpv h
end
inductive Out where
 | nx (env:cg) | rt (d:D) | bk (env:cg) | cn (env:cg)
noncomputable abbrev MS:=cg->au->R Out
def di(X:Cx)(μ:List Addr)(H:Hp)(E:Ends)(r:R Out):Prop:=match r with
 | .ok (.nx env) st=>∀(σ':L2.St) (H':Hp) (μ':List Addr),bD μ H μ' H'->aV X.K μ' H' st->fD X.K μ' H' env σ'->E.nx σ' H'
 | .ok (.rt d) st=>∀(v:V) (H':Hp) (μ':List Addr),bD μ H μ' H'->aV X.K μ' H' st->ak X.K μ' H' d v->E.rt v H'
 | .ok (.bk env) st=>∀(σ':L2.St) (H':Hp) (μ':List Addr),bD μ H μ' H'->aV X.K μ' H' st->fD X.K μ' H' env σ'->E.bk σ' H'
 | .ok (.cn env) st=>∀(σ':L2.St) (H':Hp) (μ':List Addr),bD μ H μ' H'->aV X.K μ' H' st->fD X.K μ' H' env σ'->E.ct σ' H'
 | .err x st=>wK X μ H x st
 | .bad=>False
noncomputable def Uy(X:Cx)(m:MS):TS:=λE σ H=>∃μ env st,fD X.K μ H env σ/\aV X.K μ H st/\di X μ H E (m env st)
def JS(X:Cx)(s:Stmt)(m:MS):Prop:=PS X s (Uy X m)
def zV(X:Cx)(s:List Stmt)(m:MS):Prop:=zH X s (Uy X m)
section
variable  {X:Cx}{e a b c:Expr}{es:List Expr}{t:TE}{ma mb mc:ME}{mA:MA}{pos p2:Pos}{s:Stmt}{ss:List Stmt}{m m1 m2:MS}{μ μ1:List Addr}{H H1:Hp}{E E':Ends}{r:R Out}
def di.mono(g:bD μ H μ1 H1)(h:di X μ H E r):di X μ1 H1 E r:=by
 match r,h with
 | .ok (.nx _) _,h=>exact fun σ' H' μ' g'=>h σ' H' μ' (g.trans g')
 | .ok (.rt _) _,h=>exact fun σ' H' μ' g'=>h σ' H' μ' (g.trans g')
 | .ok (.bk _) _,h=>exact fun σ' H' μ' g'=>h σ' H' μ' (g.trans g')
 | .ok (.cn _) _,h=>exact fun σ' H' μ' g'=>h σ' H' μ' (g.trans g')
 | .err _ _,h=>exact wK.mono g h
 | .bad,h=>exact h
def JS.of{t:TS}(h:PS X s t)(k:∀E σ H,Uy X m E σ H->t E σ H):JS X s m:=λpins s σ H D I q=>h pins s σ H D I (k D σ H q)
def zV.of{t:TS}(h:zH X ss t)(k:∀E σ H,Uy X m E σ H->t E σ H):zV X ss m:=λpins s σ H D I q=>h pins s σ H D I (k D σ H q)
def di.nx{env:cg}{st:au}{σ:L2.St}(h:di X μ H E (.ok (.nx env) st))(hs:aV X.K μ H st)(hE:fD X.K μ H env σ):E.nx σ H:=h σ H μ (.refl _ _) hs hE
noncomputable def cR:MS:=λenv st=>.ok (.nx env) st
noncomputable def aG(a b:MS):MS:=λenv st=>(a env st).bind λo st1=>match o with | .nx cA=>b cA st1 | o=>.ok o st1
noncomputable def retS(m:ME):MS:=λenv st=>(m env st).bind λd st1=>.ok (.rt d) st1
noncomputable def cF(m:ME):MS:=λenv st=>(m env st).bind λ_ st1=>.ok (.nx env) st1
noncomputable def tB(c:MT)(a b:MS):MS:=λenv st=>(c env st).bind λx st1=>if x then a env st1 else b env st1
noncomputable def Xw:MS:=λenv st=>.ok (.bk env) st
def uA:zV X [] cR:=by
 refine zV.of O4 λE σ H zz=>?_;obtain⟨μ,env,st,hE,hs,hp⟩:=zz;exact hp.nx hs hE
def Kp:JS X (.Break pos) Xw:=by
 refine JS.of Jh λE σ H zz=>?_;obtain⟨μ,env,st,hE,hs,hp⟩:=zz;exact hp σ H μ (.refl _ _) hs hE
def dJ(h:JS X s m):zV X [s] m:=OJ h
def di.seq(h:di X μ H E (r.bind λo st1=>match o with | .nx cA=>m2 cA st1 | o=>.ok o st1)):di X μ H { E with nx:=Uy X m2 E } r:=by
 match r,h with
 | .ok (.nx cA) st1,h=>exact fun σ' H' μ' g hs hE=>⟨μ',cA,st1,hE,hs,di.mono g h⟩
 | .ok (.rt _) _,h=>exact h
 | .ok (.bk _) _,h=>exact h
 | .ok (.cn _) _,h=>exact h
 | .err _ _,h=>exact h
 | .bad,h=>exact h
def bO(h1:JS X s m1)(h2:zV X ss m2):zV X (s::ss) (aG m1 m2):=by
 refine zV.of (Jf h1 h2) λE σ H zz=>?_;obtain⟨μ,env,st,hE,hs,hp⟩:=zz;exact⟨μ,env,st,hE,hs,di.seq hp⟩
def di.val{α β:Type}{rel:Rel α β}{r:R α}{f:α->au->R Out}(h:di X μ H E (r.bind f)):cM X μ H rel (λb H1=>∃μ1 st1 a,bD μ H μ1 H1/\aV X.K μ1 H1 st1/\rel μ1 H1 a b/\di X μ1 H1 E (f a st1)) r:=by
 cases r with
 | ok a st=>exact λb H' μ' g h1 h2=>⟨μ',st,a,g,h1,h2,di.mono g h⟩
 | err x st=>exact h
 | bad=>exact h
def jX(h:JE X e ma):JS X (.Return (some e) pos) (retS ma):=by
 refine JS.of (Vg h) λE σ H zz=>?_;obtain⟨μ,env,st,hE,hs,hp⟩:=zz;refine⟨μ,env,st,hE,hs,hp.val.imp ?_⟩;rintro v H1 ⟨μ1,st1,d,g1,bV,hv,bf⟩;exact bf v H1 μ1 (.refl _ _) bV hv
def vB(h:JE X e ma)(hs:swapsWith e none pos.line X.env=pure false:=by rfl):JS X (.Expr e pos) (cF ma):=by
 refine JS.of (O5 h hs) λE σ H zz=>?_;obtain⟨μ,env,st,hE,hs,hp⟩:=zz;refine⟨μ,env,st,hE,hs,hp.val.imp ?_⟩;rintro v H1 ⟨μ1,st1,d,g1,bV,hv,bf⟩;exact bf.nx bV (hE.mono g1)
def dF{sa sb:List Stmt}{tc:MT}(hc:JT X c tc)(ha:zV X sa m1)(hb:zV X sb m2):JS X (.If c sa sb pos) (tB tc m1 m2):=by
 refine JS.of (aaM hc ha hb) λE σ H zz=>?_;obtain⟨μ,env,st,hE,hs,hp⟩:=zz;refine⟨μ,env,st,hE,hs,hp.val.imp ?_⟩;rintro v H1 ⟨μ1,st1,d,g1,bV,rfl,bf⟩;cases d with
 | true=>exact Ai ⟨μ1,env,st1,hE.mono g1,bV,bf⟩
 | false=>exact Aj ⟨μ1,env,st1,hE.mono g1,bV,bf⟩
noncomputable abbrev MG:=D->cg->au->R cg
noncomputable abbrev Nh:=List D->cg->au->R cg
noncomputable abbrev aaw(X:Cx):Rel cg L2.St:=fun μ H env σ=>fD X.K μ H env σ
noncomputable def tMG(X:Cx)(m:MG):TG:=λv σ H Q=>∃μ env st d,fD X.K μ H env σ/\aV X.K μ H st/\ak X.K μ H d v/\cM X μ H (aaw X) Q (m d env st)
noncomputable def aam(X:Cx)(m:Nh):Ti:=λvs σ H Q=>∃μ env st ds,fD X.K μ H env σ/\aV X.K μ H st/\ao X.K μ H ds vs/\cM X μ H (aaw X) Q (m ds env st)
def JG(X:Cx)(t:Expr)(m:MG):Prop:=PG X t (tMG X m)
def Tq(X:Cx)(ts:List Expr)(m:Nh):Prop:=Zo X ts (aam X m)
def JG.of{g:TG}{m:MG}(h:PG X e g)(k:∀v σ H Q,tMG X m v σ H Q->g v σ H Q):JG X e m:=λpins s σ H v u Q I r q=>h pins s σ H v u Q I r (k v σ H Q q)
def Tq.of{g:Ti}{m:Nh}(h:Zo X es g)(k:∀v σ H Q,aam X m v σ H Q->g v σ H Q):Tq X es m:=λpins s σ H v u Q I r q=>h pins s σ H v u Q I r (k v σ H Q q)
noncomputable def aK(i:Nat):MG:=λd env st=>.ok (env.set i (some d)) st
def oE(i:Nat)(hN:X.N.Nodup)(hi:X.N[i]? = some x:=by rfl)(hx:Loc X.env.scope x:=by first | exact Or.inl rfl | exact Or.inr rfl)(hf:X.fn x=true\/X.env.scope.names.lookup x=some .local:=by first | exact .inl rfl | exact .inr rfl | assumption):JG X (.Name x pos) (aK i):=by
 refine JG.of (Pb hN hi hx hf) λv σ H Q zz=>?_;obtain⟨μ,env,st,d,hE,hs,hv,hp⟩:=zz;exact hp.ret hs (hE.set hv)
noncomputable def o4:Nh:=λds env st=>match ds with | []=>.ok env st | _=>.bad
noncomputable def bQ(g:MG)(r:Nh):Nh:=λds env st=>match ds with | d::ds=>(g d env st).bind λcA st1=>r ds cA st1 | _=>.bad
def Mt:Tq X [] o4:=Tq.of Pa λvs σ H Q zz=>by
 obtain⟨μ,env,st,ds,hE,hs,hv,hp⟩:=zz;cases ds with
 | nil=>rw[ao]at hv;exact⟨hv,hp.ret hs hE⟩
 | cons _ _=>exact hp.elim
def wM(h1:JG X e g)(h2:Tq X es gs)(hs:(assignEach (e::es) X.env).map (·.2)=assign e X.env::(assignEach es X.env).map (·.2):=by rfl):Tq X (e::es) (bQ g gs) :=
 Tq.of (Jm h1 h2 hs) λvs σ H Q zz=>by
 obtain⟨μ,env,st,ds,hE,hs,hv,hp⟩:=zz;cases ds with
 | nil=>exact hp.elim
 | cons d ds =>
  rw[ao]at hv;obtain⟨v,r,rfl,h3,h4⟩:=hv;refine⟨v,r,rfl,μ,env,st,d,hE,hs,h3,(cM.bind hp).imp ?_⟩;rintro σ1 H1 ⟨μ1,st1,cA,g1,bV,hE1,bf⟩;exact⟨μ1,cA,st1,ds,hE1,bV,h4.mono g1 _,bf⟩
noncomputable def oF(n:Nat)(g:Nh):MG:=λd env st=>match d with | .tup ds=>if ds.length=n then g ds env st else .bad | _=>.bad
def Mq{gs:Nh}{k:Nat}(n:Nat)(hc:X.calm=true)(h:Tq X es gs)(hn:(assignEach es X.env).length=n:=by rfl)(Hm:(assignEach es X.env).findIdx? (·.1)=none:=by rfl):JG X (.Tuple es k pos) (oF n gs) :=
 JG.of (Vm hc h hn Hm) λv σ H Q zz=>by
 obtain⟨μ,env,st,d,hE,hs,hv,hp⟩:=zz;cases d with
 | tup ds =>
  rw[ak.aX]at hv;obtain⟨p,xs,rfl,h1,h2⟩:=hv;simp only[oF]at hp
  split at hp
  ·rename_i hl;exact⟨p,xs,rfl,h1.uW,by rw[<-h2.length];exact hl,μ,env,st,ds,hE,hs,h2,hp⟩
  ·exact hp.elim
 | _=>exact hp.elim
noncomputable def vL:D->D->D->au->R Unit
 | .loc n,.int i,d,st=>match st[n]? with
  | some (.lst ds)=>(match yU ds.length i with | some j=>.ok () (st.set n (.lst (ds.set j d))) | none=>.bad)
  | _=>.bad
 | _,_,_,_=>.bad
noncomputable abbrev acB:Rel Unit Unit:=λ_ _ _ _=>True
noncomputable def Cd(X:Cx)(g:D->D->D->au->R Unit):Mi:=λo i v H Q=>∃μ st d1 d2 d3,aV X.K μ H st/\ak X.K μ H d1 o/\ak X.K μ H d2 i/\ak X.K μ H d3 v/\cM X μ H acB (λ_=>Q) (g d1 d2 d3 st)
def yh(hs:aV X.K μ H st)(e:st[n]? = some (.lst ds))(hp:μ[n]? = some p)(hx:H p=some (.lst xs))(hy:ao X.K μ H Zf ys) :
  bD μ H μ (upd H p (.lst ys))/\aV X.K μ (upd H p (.lst ys)) (st.set n (.lst Zf)):=by
 have g:Ext H (upd H p (.lst ys)):=Ext.mut hx (λ_ z=>nomatch z) (λ_ _ z=>nomatch z);have g':bD μ H μ (upd H p (.lst ys)):=⟨⟨[],by simp⟩,g⟩;exact⟨g',hs.put e rfl rfl hp g ⟨ys,rQ,hy.mono g' _⟩⟩
def Il:xu X (Cd X vL):=by
 refine xu.weak set_list ?_;rintro o i v H Q ⟨μ,st,d1,d2,d3,hs,h1,h2,h3,hp⟩;cases d1 with
 | loc n =>
  cases d2 with
  | int k =>
   rw[ak.aL]at h1;rw[ak.aP]at h2;obtain⟨p,hn,rfl⟩:=h1;subst h2;simp only[vL]at hp;cases e:st[n]? with
   | none=>rw[e]at hp;exact hp.elim
   | some mo =>
    cases mo with
    | lst ds =>
     rw[e]at hp;simp only at hp;obtain⟨p',xs,q1,q2,q3⟩:=hs.lst e;rw[hn]at q1;cases q1;cases e2:yU ds.length k with
     | none=>rw[e2]at hp;exact hp.elim
     | some j =>
      rw[e2]at hp;obtain⟨g,su⟩:=yh hs e hn q2 (ao.set h3 j q3);exact⟨p,xs,k,j,rfl,rfl,q2,by rw[<-q3.length];exact e2,hp () _ μ g su trivial⟩
    | _=>rw[e]at hp;exact hp.elim
  | _=>exact hp.elim
 | _=>exact hp.elim
noncomputable def qT(g:D->D->D->au->R Unit)(o i:ME):MG:=λd env st=>(o env st).bind λx st1=>(i env st1).bind λy st2=>(g x y d st2).bind λ_ qO=>.ok env qO
def Ms(vq:xu X (Cd X g))(ho:JE X o mo)(hi:JE X i mi) 
  (ha:∀v,assign (.Subscript o i pos) X.env v=(do
   let ov <-holding [v] (eval o X.env)
   let iv <-holding [v,ov] (eval i X.env)
   standAt pos
   holding [v,ov,iv] (setItem ov iv v)
   release [v,ov,iv] []):=by intro _;rfl):JG X (.Subscript o i pos) (qT g mo mi):=by
 refine JG.of (Vn ho hi vq ha) λv σ H Q zz=>?_;obtain⟨μ,env,st,d,hE,hs,hv,hp⟩:=zz;refine⟨μ,env,st,hE,hs,(cM.bind hp).imp ?_⟩;rintro x H1 ⟨μ1,st1,dx,g1,bV,hx,bf⟩;refine⟨μ1,env,st1,hE.mono g1,bV,(cM.bind bf).imp ?_⟩;rintro y H2 ⟨μ2,st2,dy,g2,fY,hy,dY⟩;refine⟨μ2,st2,dx,dy,d,fY,hx.mono g2 _,hy,(hv.mono g1 _).mono g2 _,(cM.bind dY).imp ?_⟩;rintro _ H3 ⟨μ3,qO,_,g3,vX,_,zO⟩;exact zO.ret vX (((hE.mono g1).mono g2).mono g3)
noncomputable def iV(m:ME)(g:MG):MS:=λenv st=>(m env st).bind λd st1=>(g d env st1).bind λcA st2=>.ok (.nx cA) st2
def zW{tg:Expr}{g:MG}(he:JE X e ma)(hg:JG X tg g)(hs:swapsWithSole [tg] e pos.line X.env=pure false:=by rfl)(hw:swappedStores [tg] e X.env=pure none:=by rfl)(h1:(assignEach [tg] X.env).map (·.2)=[assign tg X.env]:=by rfl):JS X (.Assign [tg] e pos) (iV ma g):=by
 refine JS.of (Vj he hg hs hw h1) λE σ H zz=>?_;obtain⟨μ,env,st,hE,hs,hp⟩:=zz;refine⟨μ,env,st,hE,hs,hp.val.imp ?_⟩;rintro x H1 ⟨μ1,st1,d,g1,bV,hx,bf⟩;refine⟨μ1,env,st1,d,hE.mono g1,bV,hx,bf.val.imp ?_⟩;rintro σ2 H2 ⟨μ2,st2,bF,g2,fY,SJ,dY⟩;exact dY.nx fY SJ
noncomputable def bw(i:Nat)(m:ME):MS:=iV m (aK i)
def dZ(i:Nat){x:Str}{pos':Pos}(he:JE X e ma)(hN:X.N.Nodup)(hi:X.N[i]? = some x:=by rfl)(hx:Loc X.env.scope x:=by first | exact Or.inl rfl | exact Or.inr rfl)(hs:swapsWith e (some (.Name x pos')) pos.line X.env=pure false:=by rfl)
  (hf:X.fn x=true\/X.env.scope.names.lookup x=some .local:=by first | exact .inl rfl | exact .inr rfl | assumption):JS X (.Assign [.Name x pos'] e pos) (bw i ma):=by
 refine JS.of (Vf hN hi hx he hs hf) λE σ H zz=>?_;obtain⟨μ,env,st,hE,hs,hp⟩:=zz;refine⟨μ,env,st,hE,hs,hp.val.imp ?_⟩;rintro x H1 ⟨μ1,st1,d,g1,bV,hx,bf⟩;exact bf.nx bV ((hE.mono g1).set hx)
end
noncomputable def bG(c:MT)(b:MS):Nat->MS
 | 0,_,_=>.bad
 | n+1,env,st=>(c env st).bind λx st1=>if x then (b env st1).bind λo st2=>(match o with
   | .nx bF=>bG c b n bF st2
   | .cn bF=>bG c b n bF st2
   | .bk bF=>.ok (.nx bF) st2
   | .rt d=>.ok (.rt d) st2) else .ok (.nx env) st1
section
variable  {X:Cx}{e a b c:Expr}{es:List Expr}{t:TE}{ma mb mc:ME}{mA:MA}{pos p2:Pos}{s:Stmt}{ss body:List Stmt}{m m1 m2 mb:MS}{μ μ1:List Addr}{H H1:Hp}{E E':Ends}{r:R Out}{tc:MT}
theorem di.loop{nxt:cg->au->R Out}{N:L2.St->Hp->Prop}
  (h:di X μ H E (r.bind λo st2=>(match o with
   | .nx bF=>nxt bF st2
   | .cn bF=>nxt bF st2
   | .bk bF=>.ok (.nx bF) st2
   | .rt d=>.ok (.rt d) st2)))
  (hN:∀bF st2 σ' H' μ',bD μ H μ' H'->aV X.K μ' H' st2->fD X.K μ' H' bF σ'->di X μ' H' E (nxt bF st2)->N σ' H') :
  di X μ H { E with nx:=N,ct:=N,bk:=E.nx } r:=by
 match r,h with
 | .ok (.nx cA) st1,h=>exact fun σ' H' μ' g hs hE=>hN cA st1 σ' H' μ' g hs hE (di.mono g h)
 | .ok (.cn cA) st1,h=>exact fun σ' H' μ' g hs hE=>hN cA st1 σ' H' μ' g hs hE (di.mono g h)
 | .ok (.rt _) _,h=>exact h
 | .ok (.bk _) _,h=>exact h
 | .err _ _,h=>exact h
 | .bad,h=>exact h
def Km(n:Nat)(hc:JT X c tc)(hb:zV X body mb)(hp:PassesOwn (model X.prog X.w) X.A X.env X.xe):JS X (.While c body [] pos) (bG tc mb n):=by
 refine JS.of (Jg hp hc hb) λE σ H h=>?_;refine⟨λk σ H=>Uy X (bG tc mb k) E σ H,⟨n,h⟩,?_⟩;rintro k σ H ⟨μ,env,st,hE,hs,hp⟩;cases k with
 | zero=>exact hp.elim
 | succ k =>
  refine⟨μ,env,st,hE,hs,(di.val hp).imp ?_⟩;rintro v H1 ⟨μ1,st1,d,g1,bV,rfl,bf⟩;cases d with
  | false=>exact Aj (bf.nx bV (hE.mono g1))
  | true =>
   refine Ai ⟨fun σ' H'=>Uy X (bG tc mb k) E σ' H',fun σ' H' q=>⟨k,nY _,q⟩,μ1,env,st1,hE.mono g1,bV,?_⟩;exact di.loop (nxt:=bG tc mb k) bf λbF st2 σ' H' μ' g fY SJ q=>⟨μ',bF,st2,SJ,fY,q⟩
noncomputable abbrev Src:=List D×List (Nat×MO)
noncomputable abbrev MI:=cg->au->R Src
def wO(gs:List (Nat×MO))(st:au):Prop:=∀g∈gs,st[g.1]? = some g.2
@[simp] def Pz(st:au):wO [] st:=λ_ h=>nomatch h
@[simp] def JC(g:Nat×MO)(gs:List (Nat×MO))(st:au):wO (g::gs) st↔st[g.1]? = some g.2/\wO gs st:=by simp[wO]
def vd(X:Cx)(μ:List Addr)(H:Hp)(J:It)(s:Src):Prop:=∀(H':Hp) (μ':List Addr) (st':au),bD μ H μ' H'->aV X.K μ' H' st'->wO s.2 st' ->
 (∀(i:Nat) (d:D),s.1[i]? = some d->J.go i H'/\∀x Ml,J.yld i H' x Ml->bD μ' H' μ' Ml/\aV X.K μ' Ml st'/\ak X.K μ' Ml d x)/\J.stop s.1.length H'
noncomputable abbrev acE(X:Cx):Rel Src It:=fun μ H s J=>vd X μ H J s
noncomputable def tMI(X:Cx)(m:MI):TI:=fun σ H Q=>∃μ env st,fD X.K μ H env σ/\aV X.K μ H st/\cM X μ H (acE X) (λJ H'=>Q J H') (m env st)
def JI(X:Cx)(tg iter:Expr)(m:MI):Prop:=PI X tg iter (tMI X m)
def JI.of{tg iter:Expr}{wi:TI}{m:MI}(h:PI X tg iter wi)(k:∀σ H Q,tMI X m σ H Q->wi σ H Q):JI X tg iter m:=λpins s σ H R I q=>h pins s σ H R I (k σ H R q)
open Classical in
noncomputable def dz(g:MG)(b:MS)(gs:List (Nat×MO)):List D->MS
 | [],env,st=>if wO gs st then .ok (.nx env) st else .bad
 | d::r,env,st=>if wO gs st then (g d env st).bind λcA st1=>(b cA st1).bind λo st2=>(match o with
   | .nx bF=>dz g b gs r bF st2
   | .cn bF=>dz g b gs r bF st2
   | .bk bF=>.ok (.nx bF) st2
   | .rt d=>.ok (.rt d) st2) else .bad
noncomputable def jT(mi:MI)(g:MG)(b:MS):MS:=λenv st=>(mi env st).bind λs st1=>dz g b s.2 s.1 env st1
def xF(hi:JI X tg iter mi)(hg:JG X tg g)(hb:zV X body mb)(hp:PassesOwn (model X.prog X.w) X.A X.env X.xe)(hc:X.calm=true) 
  (hs:∀x,foldedSetIterable iter X.env x=pure x:=by intro _;rfl):JS X (.For tg iter body [] pos) (jT mi g mb):=by
 refine JS.of (Vh hp hc hi hg hb hs) λE σ H zz=>?_;obtain⟨μ,env,st,hE,hs,hp⟩:=zz;refine⟨μ,env,st,hE,hs,(di.val hp).imp ?_⟩;rintro J H1 ⟨μ1,st1,s,g1,bV,hJ,bf⟩;refine⟨λi k σ H=>∃μ2 bF st2,bD μ1 H1 μ2 H/\fD X.K μ2 H bF σ/\aV X.K μ2 H st2/\di X μ2 H E (dz g mb s.2 (s.1.drop i) bF st2)/\i<=s.1.length/\k=s.1.length - i,
  ⟨_,μ1,env,st1,.refl _ _,hE.mono g1,bV,by simpa using bf,mZ _,rfl⟩,?_⟩
 rintro i k σ2 H2 ⟨μ2,bF,st2,g2,SJ,fY,dY,hi,rfl⟩;by_cases KY:i<s.1.length
 ·have e1:s.1.drop i=s.1[i]::s.1.drop (i+1):=nG KY;rw[e1,dz]at dY;by_cases ok:wO s.2 st2
  ·rw[ae9 ok]at dY;obtain⟨q1,q2⟩:=(hJ H2 μ2 st2 g2 fY ok).1 i s.1[i] (kj KY);refine .inr ⟨q1,fun σ' H'=>∃μ3 yI qO,bD μ1 H1 μ3 H'/\fD X.K μ3 H' yI σ'/\aV X.K μ3 H' qO/\di X μ3 H' E (dz g mb s.2 (s.1.drop (i+1)) yI qO),?_,?_⟩
   ·rintro σ' H' ⟨μ3,yI,qO,g3,hE3,vX,zO⟩;exact⟨s.1.length - (i+1),by omega,μ3,yI,qO,g3,hE3,vX,zO,by omega,rfl⟩
   ·intro x H3 hx;obtain⟨g3,vX,hd⟩:=q2 x H3 hx;refine⟨μ2,bF,st2,s.1[i],SJ.mono g3,vX,hd,(di.val (di.mono g3 dY)).imp ?_⟩;rintro σ4 H4 ⟨μ4,st4,abF,g4,hs4,hE4,hp4⟩;refine⟨μ4,abF,st4,hE4,hs4,?_⟩;exact di.loop (nxt:=dz g mb s.2 (s.1.drop (i+1))) hp4 λadS MF σ' H' μ' g5 hs5 hE5 q=>⟨μ',adS,MF,((g2.trans g3).trans g4).trans g5,hE5,hs5,q⟩
  ·rw[ae_ ok]at dY;exact dY.elim
 ·have e1:s.1.drop i=[]:=nF (by omega);rw[e1,dz]at dY;have e2:i=s.1.length:=by omega
  by_cases ok:wO s.2 st2
  ·rw[ae9 ok]at dY;refine .inl ⟨by rw[e2];exact (hJ H2 μ2 st2 g2 fY ok).2,dY.nx fY SJ⟩
  ·rw[ae_ ok]at dY;exact dY.elim
noncomputable def rR(m:ME):MI:=λenv st=>(m env st).bind λd st1=>match d with
 | .loc n=>(match st1[n]? with
  | some (.lst ds)=>.ok (ds,[(n,.lst ds)]) st1
  | some (.frz ds)=>.ok (ds,[(n,.frz ds)]) st1
  | _=>.bad)
 | .tup ds=>.ok (ds,[]) st1
 | _=>.bad
def PI.or(h1:PI X tg l w1)(h2:PI X tg l w2):PI X tg l (fun σ H R=>w1 σ H R\/w2 σ H R):=λpins s σ H R I h=>h.elim (h1 pins s σ H R I) (h2 pins s σ H R I)
def CQ{st:au}(ho:o=.lst ds\/o=.frz ds)(hp:μ[n]? = some p):vd X μ H (Itl X.K p) (ds,[(n,o)]):=by
 intro H' μ' st' g hs ok;have e:st'[n]? = some o:=(ok (n,o) (by simp));have e2:aq st' n=some ds:=by
  unfold aq;rcases ho with rfl | rfl<;>rw[e]
 obtain⟨p',xs,q1,q2,q3⟩:=hs.items e2;rw[g.get hp]at q1;cases q1;refine⟨λi d hd=>?_,xs,q2,Nat.le_of_eq q3.length.symm⟩;obtain⟨v,h1,h2⟩:=q3.get hd;refine⟨⟨xs,v,q2,h1⟩,?_⟩;rintro x Ml ⟨rfl,hx⟩;have:=hx xs q2;rw[h1]at this;cases this;exact⟨.refl _ _,hs,h2⟩
def Qi(hq:tU X.K H p xs)(hd:ao X.K μ H ds xs):vd X μ H (Itt X.K p) (ds,[]):=by
 intro H' μ' st' g hs ok;have Qp:=g.ext.uW hq;have K4:=hd.mono g ds;refine⟨λi d e=>?_,xs,Qp,Nat.le_of_eq hd.length.symm⟩;obtain⟨v,h1,h2⟩:=K4.get e;refine⟨⟨xs,v,Qp,h1⟩,?_⟩;rintro x Ml ⟨rfl,hx⟩;have:=hx xs Qp;rw[h1]at this;cases this;exact⟨.refl _ _,hs,h2⟩
def Ni(h:JE X l ma):JI X tg l (rR ma):=by
 refine JI.of (PI.or (O9 h) (Vk h)) fun σ H R hh=>?_

 obtain⟨μ,env,st,hE,hs,hp⟩:=hh;unfold rR at hp;cases hr:ma env st with
 | bad=>rw[hr]at hp;exact hp.elim
 | err x st1 =>
  rw[hr]at hp;refine .inl ⟨μ,env,st,hE,hs,?_⟩;rw[hr];exact hp
 | ok d st1 =>
  rw[hr,M.R.aD]at hp;cases d with
  | loc n =>
   simp only at hp;refine .inl ⟨μ,env,st,hE,hs,?_⟩;rw[hr];intro v H1 μ1 g1 bV hv;obtain⟨p,q1,rfl⟩:=ak.aL.mp hv;cases e:st1[n]? with
   | none=>rw[e]at hp;exact hp.elim
   | some mo =>
    cases mo with
    | lst ds =>
     rw[e]at hp;obtain⟨p',xs,r1,r2,r3⟩:=bV.lst e;rw[q1]at r1;cases r1;exact⟨p,rfl,⟨xs,rO.of r2⟩,hp _ _ _ g1 bV (CQ (st:=st1) (.inl rfl) q1)⟩
    | frz ds =>
     rw[e]at hp;obtain⟨p',r1,xs,r2,r3⟩:=bV.at_ n _ e;rw[q1]at r1;cases r1;exact⟨p,rfl,⟨xs,r2.sqL⟩,hp _ _ _ g1 bV (CQ (st:=st1) (.inr rfl) q1)⟩
    | _=>rw[e]at hp;exact hp.elim
  | tup ds =>
   refine .inr ⟨μ,env,st,hE,hs,?_⟩;rw[hr];intro v H1 μ1 g1 bV hv;obtain⟨p,xs,rfl,q1,q2⟩:=ak.aX.mp hv;exact⟨p,rfl,⟨xs,q1.uW⟩,hp _ _ _ g1 bV (Qi q1.uW q2)⟩
  | _=>exact hp.elim
noncomputable def j9(lo:Int)(n:Nat):List D:=(List.range n).map λ(k:Nat)=>.int (lo+k)
noncomputable def iK(mA:MA):MI:=λenv st=>(mA env st).bind λds st1=>match ds with
 | [.int j]=>if -(2 ^ 62)<=j/\j<2 ^ 62 then .ok (j9 0 j.toNat,[]) st1 else .bad
 | _=>.bad
noncomputable def yf(mA:MA):MI:=λenv st=>(mA env st).bind λds st1=>match ds with
 | [.int i,.int j]=>if -(2 ^ 62)<=i/\i<2 ^ 62/\-(2 ^ 62)<=j/\j<2 ^ 62 then .ok (j9 i (j - i).toNat,[]) st1 else .bad
 | _=>.bad
def CN(lo:Int)(n:Nat):vd X μ H (Itr lo n) (j9 lo n,[]):=by
 intro H' μ' st' g hs ok;refine⟨λi d e=>?_,by show n<=_;simp[j9]⟩;have hi:i<n:=by have:=(gk.mp e).1;simpa[j9] using this
 simp[j9,hi]at e;subst e;refine⟨hi,?_⟩;rintro x Ml ⟨rfl,rfl⟩;exact⟨.refl _ _,hs,ak.aP.mpr rfl⟩
def ao.one(h:ao K μ H [d] vs):∃v,vs=[v]/\ak K μ H d v:=by
 rw[ao]at h;obtain⟨v,r,rfl,q1,q2⟩:=h;rw[ao]at q2;subst q2;exact⟨v,rfl,q1⟩
def ao.two(h:ao K μ H [d1,d2] vs):∃v w,vs=[v,w]/\ak K μ H d1 v/\ak K μ H d2 w:=by
 rw[ao]at h;obtain⟨v,r,rfl,q1,q2⟩:=h;obtain⟨w,rfl,q3⟩:=ao.one q2;exact⟨v,w,rfl,q1,q3⟩
def zfy(ha:JA X [a] mA)(hg:Gl X "range")(hm:X.mg "range" = none)(hs:starEach [a] X.env=[(false,eval a X.env)]:=by rfl):JI X tg (.Call (.Name "range" p) [a] [] pos) (iK mA):=by
 refine JI.of (Ff hg hm ha hs) fun σ H R zz=>?_;obtain⟨μ,env,st,hE,hs,hp⟩:=zz;refine⟨μ,env,st,hE,hs,(cM.bind hp).imp ?_⟩;rintro vs H1 ⟨μ1,st1,ds,g1,bV,hv,bf⟩;dsimp only at bf
 split at bf
 ·split at bf
  ·rename_i hc;obtain⟨v,rfl,q1⟩:=ao.one hv;rw[ak.aP]at q1;subst q1;exact⟨_,rfl,hc.1,hc.2,bf _ _ _ (.refl _ _) bV (CN 0 _)⟩
  ·exact bf.elim
 ·exact bf.elim
def Ga(ha:JA X [a,b] mA)(hg:Gl X "range")(hm:X.mg "range" = none)(hs:starEach [a,b] X.env=[(false,eval a X.env),(false,eval b X.env)]:=by rfl)(fY:starEach [b] X.env=[(false,eval b X.env)]:=by rfl):JI X tg (.Call (.Name "range" p) [a,b] [] pos) (yf mA):=by
 refine JI.of (Fe hg hm ha hs fY) fun σ H R zz=>?_;obtain⟨μ,env,st,hE,hs,hp⟩:=zz;refine⟨μ,env,st,hE,hs,(cM.bind hp).imp ?_⟩;rintro vs H1 ⟨μ1,st1,ds,g1,bV,hv,bf⟩;dsimp only at bf
 split at bf
 ·split at bf
  ·rename_i hc;obtain⟨v,w,rfl,q1,q2⟩:=ao.two hv;rw[ak.aP]at q1 q2;subst q1 q2;exact⟨_,_,rfl,hc,bf _ _ _ (.refl _ _) bV (CN _ _)⟩
  ·exact bf.elim
 ·exact bf.elim
end
noncomputable abbrev FD:=List D->au->R D
def wI(K:PySem.W.Frag)(μ:List Addr)(H:Hp)(Q:VK)(r:R D):Prop:=match r with
 | .ok d st=>∀(v:V) (H':Hp) (μ':List Addr),bD μ H μ' H'->aV K μ' H' st->ak K μ' H' d v->Q v H'
 | _=>False
noncomputable def j8(K:PySem.W.Frag)(n:Nat)(fd:FD):Sp:=λvs H Q _=>vs.length=n/\∃μ ds st,ao K μ H ds vs/\aV K μ H st/\wI K μ H Q (fd ds st)
noncomputable def startM(n:Nat)(ds:List D):cg:=ds.map some++List.replicate (n - ds.length) none
noncomputable def eF(n:Nat)(m:MS):FD:=λds st=>(m (startM n ds) st).bind λo st1=>match o with
 | .rt d=>.ok d st1
 | .nx _=>.ok .non st1
 | _=>.bad
def ao.start(N:List Str)(h:ao K μ H ds vs):fD K μ H (startM N.length ds) (L2.start N vs):=by
 unfold startM L2.start;refine⟨by simp[h.length],λi d e=>?_⟩;rw[<-h.length];by_cases hi:i<ds.length
 ·rw[gP (by simpa using hi)]at e;rw[gP (by rw[gq,<-h.length];exact hi)];rw[gH]at e ⊢;cases q:ds[i]? with
  | none=>rw[q]at e;cases e
  | some d' =>
   rw[q]at e;cases e;obtain⟨v,q1,q2⟩:=h.get q;exact⟨v,by rw[q1];rfl,q2⟩
 ·rw[gw (by simpa using hi)]at e;rw[List.getElem?_replicate]at e
  split at e<;>cases e
section
variable  {P:Program}{w:World}{K:PySem.W.Frag}{mg:Str->Option Value}{base:Heap}
def cV(F:fL K x qual st f fd)(S:aZ N ps (aB st)) 
  (rm:∀(cdv:Value) (A:Around) (outer:List Env) (s:Shared) (H:Hp),dX k (A.deeper (PyProof.Rows.envOfC qual (aB st) s.heap.objs.size f cdv)) ->
   zV (xn jH P w K mg base N qual (aB st) f cdv A outer s H E0).MJ (cB st) m):bu P w K mg base jH (k+1) f fd ps (j8 K ps.length (eF N.length m)):=by
 refine F.ok S (λvs H Q E h=>h.1) (λcdv A outer s H vs Q E hr h=>?_);obtain⟨hl,μ,ds,Rt,hv,hs,hp⟩:=h;refine⟨_,rm cdv A outer s H hr,μ,startM N.length ds,Rt,ao.start N hv,hs,?_⟩;unfold eF at hp;cases hr:m (startM N.length ds) Rt with
 | bad=>rw[hr]at hp;exact hp.elim
 | err x st1=>rw[hr]at hp;exact hp.elim
 | ok o st1 =>
  rw[hr]at hp;cases o with
  | rt d=>exact hp
  | nx env=>exact fun σ' H' μ' g su _=>hp .non H' μ' g su (ak.bT.mpr rfl)
  | bk env=>exact hp.elim
  | cn env=>exact hp.elim
end
section
variable  {X:Cx}{e:Expr}{es:List Expr}{mA:MA}{pos p:Pos}{x:Str}{k:Nat}{f:Addr}{fd:FuncData}{ps:List Str}{F:FD}{dvs:List V}{ds:List Value}{dd:List D}
noncomputable def R.sure{α:Type}(r:R α):R α:=match r with
 | .ok a st=>.ok a st
 | _=>.bad
@[simp] def R.Bw(a:α)(st:au):(R.ok a st).sure=.ok a st:=jD rfl
noncomputable def aW(F:FD)(dd:List D)(mA:MA):ME:=λenv st=>(mA env st).bind λas st1=>(F (as++dd) st1).sure
def CJ(G:bu X.prog X.w X.K X.mg X.base jH k f fd ps (j8 X.K ps.length F))(hr:dX k X.A)(hm:X.mg x=some (.ref f))(hk:PySem.W.keepIn X.K (.ref f)=true)(hb:Binds X.K fd ps ds)(hd:Vals dvs ds)
  (hdd:∀μ H,ao X.K μ H dd dvs) (ha:JA X (e::es) mA) (hlen:(e::es).length+dvs.length=ps.length:=by rfl) (hg:Gl X x:=by rfl) (xj:(x==("__debug__":Str))=false:=by decide) (he:starEach (e::es) X.env=(false,eval e X.env)::starEach es X.env:=by rfl) (qH:(backTo pos (starEach es X.env)).any (·.1)=false:=by rfl)
  (hA:∀env st as st1,mA env st=.ok as st1->as.length=(e::es).length:=by intros;rfl) :
  JE X (.Call (.Name x p) (e::es) [] pos) (aW F dd mA):=by
 refine JE.of (Pq G hr hg hm hk hb hd Ju ha xj he qH) fun σ H Q zz=>?_;obtain⟨μ,env,st,hE,hs,hp⟩:=zz;refine⟨μ,env,st,hE,hs,?_⟩;cases hr:mA env st with
 | bad=>unfold aW at hp;rw[hr]at hp;exact hp
 | err y st1=>unfold aW at hp;rw[hr]at hp;exact hp
 | ok as st1 =>
  unfold aW at hp;rw[hr]at hp;intro vs H1 μ1 g1 bV hv;have Ak:ao X.K μ1 H1 (as++dd) (vs++dvs):=hv.append (hdd μ1 H1);refine⟨?_,μ1,as++dd,st1,Ak,bV,?_⟩
  ·rw[gh,<-hv.length,hA env st as st1 hr];exact hlen
  ·have dY:=cM.mono g1 (show cM X μ H (rT X) Q (F (as++dd) st1).sure from hp);cases hF:F (as++dd) st1 with
   | ok d st2=>rw[hF]at dY;exact dY
   | err y st2=>rw[hF]at dY;exact dY.elim
   | bad=>rw[hF]at dY;exact dY.elim
end
mutual
def under(n:Nat):D->Prop
 | .loc k=>k<n
 | .tup ds=>aR n ds
 | _=>True
def aR(n:Nat):List D->Prop
 | []=>True
 | d::ds=>under n d/\aR n ds
end
@[simp] def Ys(n:Nat):under n .non=True:=by simp[under]
@[simp] def aad(n:Nat)(b:Bool):under n (.bl b)=True:=by simp[under]
@[simp] def Yt(n:Nat)(i:Int):under n (.int i)=True:=by simp[under]
@[simp] def Yr(n:Nat)(c:List Nat):under n (.str c)=True:=by simp[under]
@[simp] def zjj(n:Nat)(ds:List D):under n (.tup ds)=aR n ds:=by simp[under]
@[simp] def ziw(n k:Nat):under n (.loc k)=(k<n):=by simp[under]
@[simp] def Ur(n:Nat):aR n []=True:=by simp[aR]
@[simp] def Ua(n:Nat)(d:D)(ds:List D):aR n (d::ds)=(under n d/\aR n ds):=by simp[aR]
def Mu(n:Nat)(ds:List D):aR n ds ↔ ∀d∈ds,under n d:=by
 induction ds with
 | nil=>simp
 | cons d ds ih=>simp[ih]
def aU(n:Nat):MO->Prop
 | .lst ds=>aR n ds
 | .frz ds=>aR n ds
 | .dic kvs=>∀p∈kvs,under n p.2
 | .dkc kvs=>∀p∈kvs,under n p.2
 | .dkf kvs=>∀p∈kvs,under n p.2
 | .dtf kvs=>∀p∈kvs,under n p.2
 | .exc _ d=>under n d
 | .ins _ fs=>∀p∈fs,under n p.2
 | .tab _=>True
 | .clo _ _ ds=>aR n ds
 | .hid=>True
mutual
theorem ak.under:∀(d:D) {v:V},ak K μ H d v->M.under μ.length d
 | .non,_,_=>by simp
 | .bl _,_,_=>by simp
 | .int _,_,_=>by simp
 | .str _,_,_=>by simp
 | .tup ds,_,h=>by
  obtain⟨a,xs,_,_,h2⟩:=ak.aX.mp h;rw[zjj];exact ao.aR ds h2
 | .loc n,_,h=>by
  obtain⟨a,h1,_⟩:=ak.aL.mp h;rw[ziw];exact (gk.mp h1).1
theorem ao.aR:∀(ds:List D) {vs:List V},ao K μ H ds vs->M.aR μ.length ds
 | [],_,_=>by simp
 | d::ds,_,h=>by
  rw[ao]at h;obtain⟨v,r,_,h1,h2⟩:=h;rw[Ua];exact⟨ak.under d h1,ao.aR ds h2⟩
end
mutual
theorem ak.down:∀(d:D) {v:V},ak K (μ++ν) H d v->M.under μ.length d->ak K μ H d v
 | .non,_,h,_=>by simpa[ak] using h
 | .bl _,_,h,_=>by simpa[ak] using h
 | .int _,_,h,_=>by simpa[ak] using h
 | .str _,_,h,_=>by simpa[ak] using h
 | .tup ds,_,h,u=>by
  obtain⟨a,xs,e,h1,h2⟩:=ak.aX.mp h;rw[zjj]at u;exact ak.aX.mpr ⟨a,xs,e,h1,ao.down ds h2 u⟩
 | .loc n,_,h,u=>by
  obtain⟨a,h1,e⟩:=ak.aL.mp h;rw[ziw]at u;rw[gP u]at h1;exact ak.aL.mpr ⟨a,h1,e⟩
theorem ao.down:∀(ds:List D) {vs:List V},ao K (μ++ν) H ds vs->M.aR μ.length ds->ao K μ H ds vs
 | [],_,h,_=>by simpa[ao] using h
 | d::ds,_,h,u=>by
  rw[ao]at h ⊢;obtain⟨v,r,e,h1,h2⟩:=h;rw[Ua]at u;exact⟨v,r,e,ak.down d h1 u.1,ao.down ds h2 u.2⟩
end
theorem aN.under:∀{ds:List (κ×D)} {vs:List (κ×V)},aN K μ H ds vs->∀p∈ds,M.under μ.length p.2
 | [],_,_,_,hp=>nomatch hp
 | (k,d)::ds,_,⟨v,r,e,h1,h2⟩,p,hp=>by
  rcases gj.mp hp with rfl | hp
  ·exact ak.under d h1
  ·exact aN.under h2 p hp
theorem aN.down:∀{ds:List (κ×D)} {vs:List (κ×V)},aN K (μ++ν) H ds vs->(∀p∈ds,M.under μ.length p.2)->aN K μ H ds vs
 | [],_,h,_=>h
 | (k,d)::ds,_,⟨v,r,e,h1,h2⟩,u=>⟨v,r,e,ak.down d h1 (u (k,d) (by simp)),aN.down h2 λp hp=>u p (kW _ hp)⟩
def jW.under(h:jW K μ H a o):aU μ.length o:=by
 cases o with
 | lst ds=>obtain⟨xs,_,h2⟩:=h;exact ao.aR ds h2
 | frz ds=>obtain⟨xs,_,h2⟩:=h;exact ao.aR ds h2
 | dic ds=>obtain⟨xs,_,h2⟩:=h;exact h2.under
 | dkc ds=>obtain⟨xs,_,h2⟩:=h;exact h2.under
 | dkf ds=>obtain⟨xs,_,_,h2⟩:=h;exact h2.under
 | dtf ds=>obtain⟨xs,_,_,h2⟩:=h;exact h2.under
 | exc c d=>obtain⟨_,_,_,_,_,_,_,_,_,_,_,_,h7⟩:=h;exact ak.under d h7
 | ins c ds=>obtain⟨_,_,xs,_,_,h2⟩:=h;exact h2.under
 | tab x=>trivial
 | clo j l ds=>obtain⟨_,_,_,_,xs,_,_,_,_,_,h2⟩:=h;exact ao.aR ds h2
 | hid=>trivial
def jW.down(h:jW K (μ++ν) H a o)(u:aU μ.length o):jW K μ H a o:=by
 cases o with
 | lst ds=>obtain⟨xs,h1,h2⟩:=h;exact⟨xs,h1,ao.down ds h2 u⟩
 | frz ds=>obtain⟨xs,h1,h2⟩:=h;exact⟨xs,h1,ao.down ds h2 u⟩
 | dic ds=>obtain⟨xs,h1,h2⟩:=h;exact⟨xs,h1,h2.down u⟩
 | dkc ds=>obtain⟨xs,h1,h2⟩:=h;exact⟨xs,h1,h2.down u⟩
 | dkf ds=>obtain⟨xs,o,h1,h2⟩:=h;exact⟨xs,o,h1,h2.down u⟩
 | dtf ds=>obtain⟨xs,o,h1,h2⟩:=h;exact⟨xs,o,h1,h2.down u⟩
 | exc c d=>obtain⟨oe,C,dx,od,v,fs,h1,h2,h3,h4,h5,h6,h7⟩:=h;exact⟨oe,C,dx,od,v,fs,h1,h2,h3,h4,h5,h6,ak.down d h7 u⟩
 | ins c ds=>obtain⟨C,dx,xs,h0,h1,h2⟩:=h;exact⟨C,dx,xs,h0,h1,h2.down u⟩
 | tab x=>exact h
 | clo j l ds=>obtain⟨cl,pm,c',ug,vs,h1,h2,h3,h4,h5,h6⟩:=h;exact⟨cl,pm,c',ug,vs,h1,h2,h3,h4,h5,ao.down ds h6 u⟩
 | hid=>trivial
def jW.up(ν:List Addr)(h:jW K μ H a o):jW K (μ++ν) H a o:=h.keep ⟨⟨ν,rfl⟩,.refl H⟩ λ_ _ q=>q
def ZP{α:Type}{l l':List α}(h:l'.take l.length=l){n:Nat}{o:α}(e:l[n]? = some o):l'[n]? = some o:=by
 have hl:=(gk.mp e).1;rw[<-h,pH]at e;rw[ae9 hl]at e;exact e
def aV.back{K:PySem.W.Frag}{μ ν:List Addr}{H H':Hp}{st st':au}(h0:aV K μ H st)(h:aV K (μ++ν) H' st')(ht:st'.take st.length=st):aV K μ H' st:=by
 refine⟨h0.len,λn o e=>?_,λi j a oi oj ei ej mi mj hi hj=>?_⟩
 ·obtain⟨a,h1,h2⟩:=h.at_ n o (ZP ht e);obtain⟨a0,h3,h4⟩:=h0.at_ n o e;have hn:n<μ.length:=by rw[h0.len];exact (gk.mp e).1
  rw[gP hn]at h1;exact⟨a,h1,h2.down h4.under⟩
 ·have up:∀k,μ[k]? = some a->(μ++ν)[k]? = some a:=λk hk=>by rw[gP (gk.mp hk).1];exact hk
  exact h.uniq i j a oi oj (ZP ht ei) (ZP ht ej) mi mj (up i hi) (up j hj)
def aV.abQ{K:PySem.W.Frag}{μ ν:List Addr}{H H':Hp}{st st':au}{k:Nat}{o:MO}{a:Addr}(h0:aV K μ H st)(h:aV K (μ++ν) H' st')(ht:st'.take st.length=st)(hk:st.length<=k)(e:st'[k]? = some o)(u:aU st.length o)(ha:(μ++ν)[k]? = some a) :
  aV K (μ++[a]) H' (st++[o]):=by
 have hb:=h0.back h ht;obtain⟨a',q1,q2⟩:=h.at_ k o e;rw[ha]at q1;cases q1;have key:∀(n:Nat) (on:MO) (c:Addr),(st++[o])[n]? = some on->(μ++[a])[n]? = some c->(n<st.length/\st[n]? = some on/\μ[n]? = some c)\/(n=st.length/\on=o/\c=a):=λn on c e1 e2=>by
  by_cases hn:n<st.length
  ·rw[gP hn]at e1;rw[gP (by rw[h0.len];exact hn)]at e2;exact .inl ⟨hn,e1,e2⟩
  ·have hl:=(gk.mp e1).1;rw[gh,mq]at hl;have en:n=st.length:=by omega
   subst en;rw[gw (gf _)]at e1;rw[<-h0.len,gw (gf _)]at e2;simp at e1 e2;exact .inr ⟨rfl,e1.symm,e2.symm⟩
 refine⟨by simp[h0.len],λn on e1=>?_,λi j c oi oj ei ej mi mj hi hj=>?_⟩
 ·have hn:n<(μ++[a]).length:=by
   have:=(gk.mp e1).1;simpa[h0.len] using this
  obtain⟨c,hc⟩:∃c,(μ++[a])[n]? = some c:=⟨_,kj hn⟩;rcases key n on c e1 hc with⟨h1,h2,h3⟩ | ⟨h1,rfl,rfl⟩
  ·obtain⟨c',h4,h5⟩:=hb.at_ n on h2;rw[h3]at h4;cases h4;exact⟨c,hc,h5.up _⟩
  ·exact⟨c,hc,(q2.down (by rw[h0.len];exact u)).up _⟩
 ·have up:∀k,μ[k]? = some c->(μ++ν)[k]? = some c:=λk hk=>by rw[gP (gk.mp hk).1];exact hk
  rcases key i oi c ei hi with⟨h1,h2,h3⟩ | ⟨h1,rfl,rfl⟩
  ·rcases key j oj c ej hj with⟨g1,g2,g3⟩ | ⟨g1,rfl,rfl⟩
   ·exact hb.uniq i j c oi oj h2 g2 mi mj h3 g3
   ·have:=h.uniq i k c oi oj (ZP ht h2) e mi mj (up i h3) ha;omega
  ·rcases key j oj c ej hj with⟨g1,g2,g3⟩ | ⟨g1,_,_⟩
   ·have:=h.uniq j k c oj oi (ZP ht g2) e mj mi (up j g3) ha;omega
   ·rw[h1,g1]
open Classical in
noncomputable def gc(st:au)(r:R D):R D:=match r with
 | .ok d st'=>if st'.take st.length=st/\under st.length d then .ok d st else (match d with
  | .loc k=>(match st'[k]? with
   | some o=>if st'.take st.length=st/\st.length<=k/\aU st.length o then .ok (.loc st.length) (st++[o]) else .ok d st'
   | none=>.ok d st')
  | d=>.ok d st')
 | r=>r
noncomputable def jP(F:FD):FD:=λds st=>gc st (F ds st)
def zoz(hs:aV K μ H st)(h:wI K μ H Q (gc st r)):wI K μ H Q r:=by
 cases r with
 | bad=>exact h
 | err x st'=>exact h
 | ok d st' =>
  unfold gc at h;dsimp only at h;by_cases c1:st'.take st.length=st/\under st.length d
  ·rw[ae9 c1]at h;intro v H' μ' g su hv;obtain⟨ν,rfl⟩:=g.pre;exact h v H' μ ⟨⟨[],by simp⟩,g.ext⟩ (hs.back su c1.1) (ak.down d hv (by rw[hs.len];exact c1.2))
  ·rw[ae_ c1]at h;cases d with
   | loc k =>
    dsimp only at h;cases e:st'[k]? with
    | none=>rw[e]at h;exact h
    | some o =>
     rw[e]at h;dsimp only at h;by_cases c2:st'.take st.length=st/\st.length<=k/\aU st.length o
     ·rw[ae9 c2]at h;intro v H' μ' g su hv;obtain⟨ν,rfl⟩:=g.pre;obtain⟨a,h1,rfl⟩:=ak.aL.mp hv;refine h _ H' (μ++[a]) ⟨⟨[a],rfl⟩,g.ext⟩ (hs.abQ su c2.1 c2.2.1 e c2.2.2 h1) (ak.aL.mpr ⟨a,?_,rfl⟩);rw[<-hs.len];simp
     ·rw[ae_ c2]at h;exact h
   | _=>exact h
def dR(h:j8 K n (jP F) vs H Q E):j8 K n F vs H Q E:=by
 obtain⟨hl,μ,ds,st,h1,h2,h3⟩:=h;exact⟨hl,μ,ds,st,h1,h2,zoz h2 h3⟩
def Hv(h:under st.length d):gc st (.ok d (st++g))=.ok d st:=by
 unfold gc;dsimp only;rw[ae9 ⟨by simp,h⟩]
def X4(h:aU st.length o):gc st (.ok (.loc (st.length+g.length)) (st++g++o::g'))=.ok (.loc st.length) (st++[o]):=by
 unfold gc;dsimp only;rw[ae_ (by simp)];have e:(st++g++o::g')[st.length+g.length]? = some o:=by
  rw[gw (by simp)];simp
 rw[e];dsimp only;rw[ae9 ⟨by simp,by omega,h⟩]
section
variable  {X:Cx}{e a b c:Expr}{es:List Expr}{ma mb mc:ME}{mA:MA}{pos p2 p:Pos}
noncomputable def uH:List D->au->R D
 | [.str cs],st=>if cs.length<=1000000 then .ok (.int cs.length) st else .bad
 | [.tup ds],st=>.ok (.int ds.length) st
 | [.loc n],st=>match aq st n with | some ds=>.ok (.int ds.length) st | none=>.bad
 | _,_=>.bad
def zms:cD X (.builtin "len") (E_ X uH):=by
 refine cD.weak (cD.or zk7 zlg) ?_;rintro xs H Q ⟨μ,st,ds,hs,hv,hp⟩;unfold uH at hp
 split at hp
 ·rename_i cs
  split at hp
  ·rename_i hl;obtain⟨v,rfl,q⟩:=ao.one hv;rw[ak.aY]at q;subst q;exact .inl ⟨_,rfl,by rw[zf9];exact Hu hl,by rw[zf9];exact hp.ret hs (ak.aP.mpr rfl)⟩
  ·exact hp.elim
 ·obtain⟨v,rfl,q⟩:=ao.one hv;obtain⟨p,ys,rfl,q1,q2⟩:=ak.aX.mp q;exact .inr ⟨p,ys,rfl,.inr q1.uW,by rw[<-q2.length];exact hp.ret hs (ak.aP.mpr rfl)⟩
 ·rename_i n;cases e:aq st n with
  | none=>rw[e]at hp;exact hp.elim
  | some ds =>
   rw[e]at hp;obtain⟨v,rfl,q⟩:=ao.one hv;obtain⟨p,q1,rfl⟩:=ak.aL.mp q;obtain⟨p',ys,r1,r2,r3⟩:=hs.items e;rw[q1]at r1;cases r1;exact .inr ⟨p,ys,rfl,.inl r2,by rw[<-r3.length];exact hp.ret hs (ak.aP.mpr rfl)⟩
 ·exact hp.elim
noncomputable def yt:List D->au->R D
 | [.int i],st=>.ok (.int i) st
 | [.bl k],st=>.ok (.int (if k then 1 else 0)) st
 | _,_=>.bad
def zi8:cD X (.type "int") (E_ X yt):=by
 refine cD.weak GX ?_;rintro xs H Q ⟨μ,st,ds,hs,hv,hp⟩;unfold yt at hp
 split at hp
 ·obtain⟨v,rfl,q⟩:=ao.one hv;rw[ak.aP]at q;subst q;exact .inl ⟨_,rfl,hp.ret hs (ak.aP.mpr rfl)⟩
 ·obtain⟨v,rfl,q⟩:=ao.one hv;rw[ak.cG]at q;subst q;exact .inr ⟨_,rfl,hp.ret hs (ak.aP.mpr rfl)⟩
 ·exact hp.elim
noncomputable def sJ:List D->au->R D
 | [.int i,.int j],st=>.ok (.int (if j<i then j else i)) st
 | _,_=>.bad
def zfx(hc:X.calm=true):cD X (.builtin "min") (E_ X sJ):=by
 refine cD.weak (GQ hc) ?_;rintro xs H Q ⟨μ,st,ds,hs,hv,hp⟩;unfold sJ at hp
 split at hp
 ·obtain⟨v,w,rfl,q1,q2⟩:=ao.two hv;rw[ak.aP]at q1 q2;subst q1 q2;exact⟨_,_,rfl,hp.ret hs (ak.aP.mpr rfl)⟩
 ·exact hp.elim
noncomputable def J0:List D->au->R D
 | [.int i,.int j],st=>.ok (.int (if j > i then j else i)) st
 | _,_=>.bad
def zp4(hc:X.calm=true):cD X (.builtin "max") (E_ X J0):=by
 refine cD.weak (GR hc) ?_;rintro xs H Q ⟨μ,st,ds,hs,hv,hp⟩;unfold J0 at hp
 split at hp
 ·obtain⟨v,w,rfl,q1,q2⟩:=ao.two hv;rw[ak.aP]at q1 q2;subst q1 q2;exact⟨_,_,rfl,hp.ret hs (ak.aP.mpr rfl)⟩
 ·exact hp.elim
noncomputable def Cq:List D->au->R D
 | [.tup ds],st=>.ok (.loc st.length) (st++[.lst ds])
 | [.loc n],st=>match aq st n with | some ds=>.ok (.loc st.length) (st++[.lst ds]) | none=>.bad
 | _,_=>.bad
def zpc:cD X (.type "list") (E_ X Cq):=by
 refine cD.weak zku ?_;rintro xs H Q ⟨μ,st,ds,hs,hv,hp⟩;unfold Cq at hp
 split at hp
 ·obtain⟨v,rfl,q⟩:=ao.one hv;obtain⟨p,ys,rfl,q1,q2⟩:=ak.aX.mp q;exact⟨p,ys,rfl,.inr q1.uW,λl hl=>hp.newList hs q2 hl⟩
 ·rename_i n;cases e:aq st n with
  | none=>rw[e]at hp;exact hp.elim
  | some ds =>
   rw[e]at hp;obtain⟨v,rfl,q⟩:=ao.one hv;obtain⟨p,q1,rfl⟩:=ak.aL.mp q;obtain⟨p',ys,r1,r2,r3⟩:=hs.items e;rw[q1]at r1;cases r1;exact⟨p,ys,rfl,.inl r2,λl hl=>hp.newList hs r3 hl⟩
 ·exact hp.elim
noncomputable def jQ:List D->au->R D
 | [.tup ds],st=>.ok (.tup ds) st
 | [.loc n],st=>match aq st n with | some ds=>.ok (.tup ds) st | none=>.bad
 | _,_=>.bad
def zfe:cD X (.type "tuple") (E_ X jQ):=by
 refine cD.weak zj8 ?_;rintro xs H Q ⟨μ,st,ds,hs,hv,hp⟩;unfold jQ at hp
 split at hp
 ·obtain⟨v,rfl,q⟩:=ao.one hv;obtain⟨p,ys,rfl,q1,q2⟩:=ak.aX.mp q;exact⟨p,ys,rfl,.inr ⟨q1.uW,hp.ret hs q⟩⟩
 ·rename_i n;cases e:aq st n with
  | none=>rw[e]at hp;exact hp.elim
  | some ds =>
   rw[e]at hp;obtain⟨v,rfl,q⟩:=ao.one hv;obtain⟨p,q1,rfl⟩:=ak.aL.mp q;obtain⟨p',ys,r1,r2,r3⟩:=hs.items e;rw[q1]at r1;cases r1;exact⟨p,ys,rfl,.inl ⟨r2,λl hl=>hp _ _ μ (bD.lay hl) (hs.lay hl) (ak.aX.mpr ⟨l,ys,rfl,.inl rQ,r3.mono (bD.lay hl) _⟩)⟩⟩
 ·exact hp.elim
end
end M
namespace M
open PySem PySem.Spec PySem.SeqAt L2
mutual
noncomputable def uf:D->D->Bool
 | .non,.non=>true
 | .bl a,.bl b=>a==b
 | .bl a,.int b=>(if a then 1 else 0)==b
 | .int a,.bl b=>a==(if b then 1 else 0)
 | .int a,.int b=>a==b
 | .str a,.str b=>a==b
 | .tup a,.tup b=>rC a b
 | _,_=>false
noncomputable def rC:List D->List D->Bool
 | [],[]=>true
 | a::as,b::bs=>uf a b && rC as bs
 | _,_=>false
end
mutual
noncomputable def flat:D->Bool
 | .loc _=>false
 | .tup ds=>dW ds
 | _=>true
noncomputable def dW:List D->Bool
 | []=>true
 | d::ds=>flat d && dW ds
end
mutual
noncomputable def dep:D->Nat
 | .tup ds=>deps ds+1
 | _=>0
noncomputable def deps:List D->Nat
 | []=>0
 | d::ds=>max (dep d) (deps ds)
end
mutual
noncomputable def jr:D->D->Nat
 | .tup a,.tup b=>jO a b+1
 | _,_=>0
noncomputable def jO:List D->List D->Nat
 | a::as,b::bs=>max (jr a b) (jO as bs)
 | _,_=>0
end
@[simp] def znu(a b:List D):jr (.tup a) (.tup b)=jO a b+1:=by simp[jr]
@[simp] def abL(d:D):jr .non d=0:=by simp[jr]
@[simp] def acd(b:Bool)(d:D):jr (.bl b) d=0:=by simp[jr]
@[simp] def zo4(b:Int)(d:D):jr (.int b) d=0:=by simp[jr]
@[simp] def LC(b:List Nat)(d:D):jr (.str b) d=0:=by simp[jr]
@[simp] def abM(b:Nat)(d:D):jr (.loc b) d=0:=by simp[jr]
@[simp] def Zj(d:D):jr d .non=0:=by cases d<;>simp[jr]
@[simp] def abN(b:Bool)(d:D):jr d (.bl b)=0:=by cases d<;>simp[jr]
@[simp] def Zk(b:Int)(d:D):jr d (.int b)=0:=by cases d<;>simp[jr]
@[simp] def Zi(b:List Nat)(d:D):jr d (.str b)=0:=by cases d<;>simp[jr]
@[simp] def Zh(bs:List D):jO [] bs=0:=by simp[jO]
@[simp] def Xu(as:List D):jO as []=0:=by cases as<;>simp[jO]
@[simp] def zjx(a b:D)(as bs:List D):jO (a::as) (b::bs)=max (jr a b) (jO as bs):=by simp[jO]
@[simp] def zos(b:Int):flat (.int b)=true:=by simp[flat]
@[simp] def Lf(b:List Nat):flat (.str b)=true:=by simp[flat]
@[simp] def Le(b:List D):flat (.tup b)=dW b:=by simp[flat]
@[simp] def Ze:dW []=true:=by simp[dW]
@[simp] def T8(d:D)(ds:List D):dW (d::ds)=(flat d && dW ds):=by simp[dW]
@[simp] def aca:dep .non=0:=by simp[dep]
@[simp] def ad1(b:Bool):dep (.bl b)=0:=by simp[dep]
@[simp] def acb(b:Int):dep (.int b)=0:=by simp[dep]
@[simp] def ab_(b:List Nat):dep (.str b)=0:=by simp[dep]
@[simp] def QL(b:List D):dep (.tup b)=deps b+1:=by simp[dep]
@[simp] def abH:deps []=0:=by simp[deps]
@[simp] def zhh(d:D)(ds:List D):deps (d::ds)=max (dep d) (deps ds):=by simp[deps]
mutual
theorem QV:∀(a b:D),jr a b<=dep a
 | .tup a,.tup b=>by rw[znu,QL];exact Nat.succ_le_succ (zjf a b)
 | .tup a,.non=>by simp
 | .tup a,.bl _=>by simp
 | .tup a,.int _=>by simp
 | .tup a,.str _=>by simp
 | .tup a,.loc _=>by simp[jr]
 | .non,_=>by simp
 | .bl _,_=>by simp
 | .int _,_=>by simp
 | .str _,_=>by simp
 | .loc _,_=>by simp
theorem zjf:∀(a b:List D),jO a b<=deps a
 | [],b=>by simp
 | a::as,[]=>by simp
 | a::as,b::bs=>by
  rw[zjx,zhh];have h1:=QV a b;have h2:=zjf as bs;omega
end
noncomputable def eqJ(as bs:List D)(j:Nat):Bool:=match as[j]?,bs[j]? with | some a,some b=>uf a b | _,_=>true
theorem zja:∀(as bs:List D),rC as bs=((List.range (min as.length bs.length)).all (eqJ as bs) && as.length==bs.length)
 | [],[]=>by simp[rC]
 | [],b::bs=>by simp[rC]
 | a::as,[]=>by simp[rC]
 | a::as,b::bs=>by
  rw[rC,zja as bs];have e1:min (a::as).length (b::bs).length=min as.length bs.length+1:=by simp
  rw[e1,List.range_succ_eq_map,List.all_cons,List.all_map];have e2:((a::as).length==(b::bs).length)=(as.length==bs.length):=by
   rw[n6];simp
  rw[e2];have e3:eqJ (a::as) (b::bs) 0=uf a b:=rfl;rw[e3,Bool.and_assoc]
  rfl
mutual
theorem zpm:∀(d:D),flat d=true->uf d d=true
 | .non,_=>by simp[uf]
 | .bl _,_=>by simp[uf]
 | .int _,_=>by simp[uf]
 | .str _,_=>by simp[uf]
 | .tup ds,h=>by rw[uf];exact zhg ds (by simpa using h)
 | .loc _,h=>by simp[flat]at h
theorem zhg:∀(ds:List D),dW ds=true->rC ds ds=true
 | [],_=>by simp[rC]
 | d::ds,h=>by
  rw[T8,m_]at h;rw[rC,zpm d h.1,zhg ds h.2];rfl
end
section
variable  {X:Cx}{pins:List (Addr×Obj)}{σ:L2.St}{μ:List Addr}{H:Hp}{s:Shared}
mutual
theorem zpr(I:Inv X pins σ H s):∀(d1 d2:D) {v:V},flat d1=true->flat d2=true->ak X.K μ H d1 v->ak X.K μ H d2 v->d1=d2
 | .non,d2,_,_,f2,h1,h2=>by
  rw[ak.bT]at h1;subst h1;cases d2 with
  | non=>rfl
  | bl _=>rw[ak.cG]at h2;cases h2
  | int _=>rw[ak.aP]at h2;cases h2
  | str _=>rw[ak.aY]at h2;cases h2
  | tup _=>obtain⟨_,_,q,_⟩:=ak.aX.mp h2;cases q
  | loc _=>simp[flat]at f2
 | .bl b,d2,_,_,f2,h1,h2=>by
  rw[ak.cG]at h1;subst h1;cases d2 with
  | bl _=>rw[ak.cG]at h2;cases h2;rfl
  | non=>rw[ak.bT]at h2;cases h2
  | int _=>rw[ak.aP]at h2;cases h2
  | str _=>rw[ak.aY]at h2;cases h2
  | tup _=>obtain⟨_,_,q,_⟩:=ak.aX.mp h2;cases q
  | loc _=>simp[flat]at f2
 | .int b,d2,_,_,f2,h1,h2=>by
  rw[ak.aP]at h1;subst h1;cases d2 with
  | int _=>rw[ak.aP]at h2;cases h2;rfl
  | non=>rw[ak.bT]at h2;cases h2
  | bl _=>rw[ak.cG]at h2;cases h2
  | str _=>rw[ak.aY]at h2;cases h2
  | tup _=>obtain⟨_,_,q,_⟩:=ak.aX.mp h2;cases q
  | loc _=>simp[flat]at f2
 | .str b,d2,_,_,f2,h1,h2=>by
  rw[ak.aY]at h1;subst h1;cases d2 with
  | str _=>rw[ak.aY]at h2;injection h2 with h3;rw[zmv.mp h3]
  | non=>rw[ak.bT]at h2;cases h2
  | bl _=>rw[ak.cG]at h2;cases h2
  | int _=>rw[ak.aP]at h2;cases h2
  | tup _=>obtain⟨_,_,q,_⟩:=ak.aX.mp h2;cases q
  | loc _=>simp[flat]at f2
 | .tup as,d2,_,f1,f2,h1,h2=>by
  obtain⟨a,xs,rfl,q1,q2⟩:=ak.aX.mp h1;cases d2 with
  | tup bs =>
   obtain⟨b,ys,e,r1,r2⟩:=ak.aX.mp h2;cases e;rw[I.xH (r1.uW) (q1.uW)]at r2;rw[zmo I as bs (by simpa using f1) (by simpa using f2) q2 r2]
  | non=>rw[ak.bT]at h2;cases h2
  | bl _=>rw[ak.cG]at h2;cases h2
  | int _=>rw[ak.aP]at h2;cases h2
  | str _=>rw[ak.aY]at h2;cases h2
  | loc _=>simp[flat]at f2
 | .loc _,_,_,f1,_,_,_=>by simp[flat]at f1
theorem zmo(I:Inv X pins σ H s):∀(as bs:List D) {vs:List V},dW as=true->dW bs=true->ao X.K μ H as vs->ao X.K μ H bs vs->as=bs
 | [],bs,_,_,_,h1,h2=>by
  rw[ao]at h1;subst h1;cases bs with
  | nil=>rfl
  | cons _ _=>rw[ao]at h2;obtain⟨_,_,q,_⟩:=h2;cases q
 | a::as,bs,_,f1,f2,h1,h2=>by
  rw[ao]at h1;obtain⟨v,r,rfl,q1,q2⟩:=h1;cases bs with
  | nil=>rw[ao]at h2;cases h2
  | cons b bs =>
   rw[ao]at h2;obtain⟨v',r',e,r1,r2⟩:=h2;cases e;rw[T8,m_]at f1 f2;rw[zpr I a b f1.1 f2.1 q1 r1,zmo I as bs f1.2 f2.2 q2 r2]
end
mutual
theorem S_(I:Inv X pins σ H s):∀(d1 d2:D) {A:Around} {x y:V} {u w:Value},flat d1=true->flat d2=true->A.units+jr d1 d2<cLine->ak X.K μ H d1 x->ak X.K μ H d2 y->RelV x u->RelV y w ->
  EqAt A s u w (uf d1 d2)/\RcAt A s u w (uf d1 d2)/\RcNeAt A s u w (!uf d1 d2)
 | d1,d2,A,x,y,u,w,f1,f2,hu,h1,h2,r1,r2=>by
  cases d1 with
  | loc _=>simp[flat]at f1
  | non =>
   rw[ak.bT]at h1;subst h1;cases (show u=Value.none from r1);cases d2 with
   | loc _=>simp[flat]at f2
   | non=>rw[ak.bT]at h2;subst h2;cases (show w=Value.none from r2);exact⟨EqAt.same _,RcAt.none_none,RcNeAt.none_none⟩
   | bl b=>rw[ak.cG]at h2;subst h2;cases (show w=Value.bool b from r2);exact⟨EqAt.none_bool b,RcAt.none_bool b,RcNeAt.none_bool b⟩
   | int b=>rw[ak.aP]at h2;subst h2;obtain⟨t,rfl⟩:=r2;exact⟨EqAt.none_int b t,RcAt.none_int b t,RcNeAt.none_int b t⟩
   | str b=>rw[ak.aY]at h2;subst h2;obtain⟨t,rfl⟩:=r2;exact⟨EqAt.none_str _ t,RcAt.none_str _ t,RcNeAt.none_str _ t⟩
   | tup bs =>
    obtain⟨b,ys,rfl,q1,q2⟩:=ak.aX.mp h2;cases (show w=Value.ref b from r2);obtain⟨its,_,p,_⟩:=I.tuple (q1.uW);exact⟨EqAt.none_tuple p (by omega),RcAt.none_tuple p (by omega),RcNeAt.none_tuple p (by omega)⟩
  | bl a =>
   rw[ak.cG]at h1;subst h1;cases (show u=Value.bool a from r1);cases d2 with
   | loc _=>simp[flat]at f2
   | non=>rw[ak.bT]at h2;subst h2;cases (show w=Value.none from r2);exact⟨EqAt.bool_none a,RcAt.bool_none a,RcNeAt.bool_none a⟩
   | bl b=>rw[ak.cG]at h2;subst h2;cases (show w=Value.bool b from r2);simp only[uf];exact⟨EqAt.bool_bool a b,RcAt.bool_bool a b,RcNeAt.bool_bool a b⟩
   | int b=>rw[ak.aP]at h2;subst h2;obtain⟨t,rfl⟩:=r2;simp only[uf];exact⟨EqAt.bool_int a b t,RcAt.bool_int a b t,RcNeAt.bool_int a b t⟩
   | str b=>rw[ak.aY]at h2;subst h2;obtain⟨t,rfl⟩:=r2;exact⟨EqAt.bool_str a _ t,RcAt.bool_str a _ t,RcNeAt.bool_str a _ t⟩
   | tup bs =>
    obtain⟨b,ys,rfl,q1,q2⟩:=ak.aX.mp h2;cases (show w=Value.ref b from r2);obtain⟨its,_,p,_⟩:=I.tuple (q1.uW);exact⟨EqAt.bool_tuple a p (by omega),RcAt.bool_tuple a p (by omega),RcNeAt.bool_tuple a p (by omega)⟩
  | int a =>
   rw[ak.aP]at h1;subst h1;obtain⟨ta,rfl⟩:=r1;cases d2 with
   | loc _=>simp[flat]at f2
   | non=>rw[ak.bT]at h2;subst h2;cases (show w=Value.none from r2);exact⟨EqAt.int_none a ta,RcAt.int_none a ta,RcNeAt.int_none a ta⟩
   | bl b=>rw[ak.cG]at h2;subst h2;cases (show w=Value.bool b from r2);simp only[uf];exact⟨EqAt.int_bool a ta b,RcAt.int_bool a ta b,RcNeAt.int_bool a ta b⟩
   | int b=>rw[ak.aP]at h2;subst h2;obtain⟨t,rfl⟩:=r2;simp only[uf];exact⟨EqAt.int_int a ta b t,RcAt.int_int a ta b t,RcNeAt.int_int a ta b t⟩
   | str b=>rw[ak.aY]at h2;subst h2;obtain⟨t,rfl⟩:=r2;exact⟨EqAt.int_str a ta _ t,RcAt.int_str a ta _ t,RcNeAt.int_str a ta _ t⟩
   | tup bs =>
    obtain⟨b,ys,rfl,q1,q2⟩:=ak.aX.mp h2;cases (show w=Value.ref b from r2);obtain⟨its,_,p,_⟩:=I.tuple (q1.uW);exact⟨EqAt.int_tuple a ta p (by omega),RcAt.int_tuple a ta p (by omega),RcNeAt.int_tuple a ta p (by omega)⟩
  | str a =>
   rw[ak.aY]at h1;subst h1;obtain⟨ta,rfl⟩:=r1;cases d2 with
   | loc _=>simp[flat]at f2
   | non=>rw[ak.bT]at h2;subst h2;cases (show w=Value.none from r2);exact⟨EqAt.str_none _ ta,RcAt.str_none _ ta,RcNeAt.str_none _ ta⟩
   | bl b=>rw[ak.cG]at h2;subst h2;cases (show w=Value.bool b from r2);exact⟨EqAt.str_bool _ ta b,RcAt.str_bool _ ta b,RcNeAt.str_bool _ ta b⟩
   | int b=>rw[ak.aP]at h2;subst h2;obtain⟨t,rfl⟩:=r2;exact⟨EqAt.str_int _ ta b t,RcAt.str_int _ ta b t,RcNeAt.str_int _ ta b t⟩
   | str b =>
    rw[ak.aY]at h2;subst h2;obtain⟨t,rfl⟩:=r2;have e:(strOf a==strOf b)=uf (.str a) (.str b):=by
     rw[uf,n6,beq_iff_eq,beq_iff_eq];exact zmv
    rw[<-e];exact⟨EqAt.str_str _ ta _ t,RcAt.str_str _ ta _ t,RcNeAt.str_str _ ta _ t⟩
   | tup bs =>
    obtain⟨b,ys,rfl,q1,q2⟩:=ak.aX.mp h2;cases (show w=Value.ref b from r2);obtain⟨its,_,p,_⟩:=I.tuple (q1.uW);exact⟨EqAt.str_tuple _ ta p (by omega),RcAt.str_tuple _ ta p (by omega),RcNeAt.str_tuple _ ta p (by omega)⟩
  | tup as =>
   have h1':=h1;have h2':=h2;obtain⟨a,xs,rfl,q1,q2⟩:=ak.aX.mp h1;cases (show u=Value.ref a from r1);obtain⟨its,ra,p,_⟩:=I.tuple (q1.uW);cases d2 with
   | loc _=>simp[flat]at f2
   | non=>rw[ak.bT]at h2;subst h2;cases (show w=Value.none from r2);exact⟨EqAt.tuple_none p (by omega),RcAt.tuple_none p (by omega),RcNeAt.tuple_none p (by omega)⟩
   | bl b=>rw[ak.cG]at h2;subst h2;cases (show w=Value.bool b from r2);exact⟨EqAt.tuple_bool b p (by omega),RcAt.tuple_bool b p (by omega),RcNeAt.tuple_bool b p (by omega)⟩
   | int b=>rw[ak.aP]at h2;subst h2;obtain⟨t,rfl⟩:=r2;exact⟨EqAt.tuple_int b t p (by omega),RcAt.tuple_int b t p (by omega),RcNeAt.tuple_int b t p (by omega)⟩
   | str b=>rw[ak.aY]at h2;subst h2;obtain⟨t,rfl⟩:=r2;exact⟨EqAt.tuple_str _ t p (by omega),RcAt.tuple_str _ t p (by omega),RcNeAt.tuple_str _ t p (by omega)⟩
   | tup bs =>
    obtain⟨b,ys,rfl,g1,g2⟩:=ak.aX.mp h2;cases (show w=Value.ref b from r2);obtain⟨o_,rb,p2,_⟩:=I.tuple (g1.uW);rw[znu]at hu;rw[Le]at f1 f2;have items:=Ar I as bs (A:=A.in1) f1 f2 (by show A.units+1+jO as bs<cLine;omega) q2 g2 ra rb;have la:as.length=its.toArray.size:=by rw[gK,q2.length,ra.length]
    have lb:bs.length=o_.toArray.size:=by rw[gK,g2.length,rb.length]
    have e:((List.range (min its.toArray.size o_.toArray.size)).all (eqJ as bs) && its.toArray.size==o_.toArray.size)=uf (.tup as) (.tup bs):=by
     rw[uf,zja,la,lb]
    have rc:RcAt A s (.ref a) (.ref b) (uf (.tup as) (.tup bs)):=by
     rw[<-e];exact RcAt.tuples p p2 (by omega) λj j1 j2=>items j (by simpa using j1) (by simpa using j2)
    have ne:RcNeAt A s (.ref a) (.ref b) (!uf (.tup as) (.tup bs)):=by
     rw[<-e];exact RcNeAt.tuples p p2 (by omega) λj j1 j2=>items j (by simpa using j1) (by simpa using j2)
    refine⟨?_,rc,ne⟩;by_cases hab:a=b
    ·subst hab;have:(D.tup as)=.tup bs:=zpr I _ _ (by simpa using f1) (by simpa using f2) h1' h2';rw[<-this,zpm _ (by simpa using f1)];exact EqAt.same _
    ·exact EqAt.of_refs hab rc
theorem Ar(I:Inv X pins σ H s):∀(as bs:List D) {A:Around} {xs ys:List V} {us ws:List Value},dW as=true->dW bs=true->A.units+jO as bs<cLine->ao X.K μ H as xs->ao X.K μ H bs ys->Vals xs us->Vals ys ws ->
  ∀(j:Nat) (h1:j<us.length) (h2:j<ws.length),EqAt A s us[j] ws[j] (eqJ as bs j)
 | [],bs,A,xs,ys,us,ws,_,_,_,h1,_,r1,_,j,j1,_=>by
  rw[ao]at h1;subst h1;cases r1;simp at j1
 | a::as,[],A,xs,ys,us,ws,_,_,_,_,h2,_,r2,j,_,j2=>by
  rw[ao]at h2;subst h2;cases r2;simp at j2
 | a::as,b::bs,A,xs,ys,us,ws,f1,f2,hu,h1,h2,r1,r2,j,j1,j2=>by
  rw[ao]at h1 h2;obtain⟨v,r,rfl,q1,q2⟩:=h1;obtain⟨v',r',rfl,g1,g2⟩:=h2;cases r1 with
  | cons r1 t1 =>
  cases r2 with
  | cons r2 t2 =>
  rw[T8,m_]at f1 f2;rw[zjx]at hu;cases j with
  | zero=>exact (S_ I a b f1.1 f2.1 (by omega) q1 g1 r1 r2).1
  | succ j=>exact Ar I as bs f1.2 f2.2 (by omega) q2 g2 t1 t2 j (by simpa using j1) (by simpa using j2)
end
end
noncomputable def qP(L:Nat):D->D->au->Option Bool
 | .loc m,.loc n,st=>match aq st m,aq st n with
  | some a,some b=>if dW a=true/\dW b=true/\jO a b+1<L then some (rC a b) else none
  | _,_=>none
 | .loc m,.non,st=>(aq st m).map λ_=>false
 | .loc m,.tup b,st=>if 0<L then (aq st m).map λ_=>false else none
 | .non,.loc n,st=>(aq st n).map λ_=>false
 | .tup a,.loc n,st=>if 0<L then (aq st n).map λ_=>false else none
 | d1,d2,_=>if flat d1=true/\flat d2=true/\jr d1 d2<L then some (uf d1 d2) else none
section
variable  {X:Cx}{pins:List (Addr×Obj)}{σ:L2.St}{μ:List Addr}{H:Hp}{s:Shared}{L:Nat}
def Gu(I:Inv X pins σ H s)(f1:dW as=true)(f2:dW bs=true)(hu:A.units+1+jO as bs<cLine)(h1:ao X.K μ H as xs)(h2:ao X.K μ H bs ys) 
  (q1:rO X.K H a xs) (q2:rO X.K H b ys):RcAt A s (.ref a) (.ref b) (rC as bs)/\RcNeAt A s (.ref a) (.ref b) (!rC as bs):=by
 obtain⟨its,ra,p,_⟩:=I.list q1;obtain⟨o_,rb,p2,_⟩:=I.list q2;have la:as.length=its.toArray.size:=by rw[gK,h1.length,ra.length]
 have lb:bs.length=o_.toArray.size:=by rw[gK,h2.length,rb.length]
 by_cases hl:its.toArray.size=o_.toArray.size
 ·have items:=Ar I as bs (A:=A.in1) f1 f2 hu h1 h2 ra rb;have e:((List.range its.toArray.size).all (eqJ as bs))=rC as bs:=by
   rw[zja,la,lb,<-hl,Nat.min_self];simp
  rw[<-e];exact⟨RcAt.lists p.isList p2.isList hl (by omega) λj j1 j2=>items j (by simpa using j1) (by simpa using j2),RcNeAt.lists p.isList p2.isList hl (by omega) λj j1 j2=>items j (by simpa using j1) (by simpa using j2)⟩
 ·have e:rC as bs=false:=by
   rw[zja,la,lb,Bool.and_eq_false_iff];exact .inr (by simpa using hl)
  have hl':(its.toArray.size != o_.toArray.size)=true:=by simpa using hl
  rw[e];exact⟨RcAt.lists_lengths p.isList p2.isList hl' (by omega),RcNeAt.lists_lengths p.isList p2.isList hl' (by omega)⟩
def Lh(I:Inv X pins σ H s)(hs:aV X.K μ H st)(e:qP L d1 d2 st=some k)(hu:A.units+L<cLine)(h1:ak X.K μ H d1 x)(h2:ak X.K μ H d2 y)(r1:RelV x u)(r2:RelV y w) :
  RcAt A s u w k/\RcNeAt A s u w (!k):=by
 have plain:∀{d1 d2:D},ak X.K μ H d1 x->ak X.K μ H d2 y->(if flat d1=true/\flat d2=true/\jr d1 d2<L then some (uf d1 d2) else none)=some k->RcAt A s u w k/\RcNeAt A s u w (!k):=λ{d1 d2} h1 h2 e=>by
  split at e
  ·rename_i c;cases e;exact (S_ I d1 d2 c.1 c.2.1 (by omega) h1 h2 r1 r2).2
  ·cases e
 have list:∀{n:Nat} {v:V} {z:Value} {ds:List D},ak X.K μ H (.loc n) v->RelV v z->aq st n=some ds->∃p its,z=.ref p/\s.heap.IsList p its:=λ{n v z ds} h r q=>by
  obtain⟨p,q1,rfl⟩:=ak.aL.mp h;obtain⟨p',xs,g1,g2,g3⟩:=hs.items q;rw[q1]at g1;cases g1;cases (show z=Value.ref p from r);obtain⟨its,_,pl,_⟩:=I.list g2;exact⟨p,_,rfl,pl.isList⟩
 have tuple:∀{bs:List D} {v:V} {z:Value},ak X.K μ H (.tup bs) v->RelV v z->∃p its,z=.ref p/\s.heap.IsTuple p its:=λ{bs v z} h r=>by
  obtain⟨p,xs,rfl,q1,_⟩:=ak.aX.mp h;cases (show z=Value.ref p from r);obtain⟨its,_,pl,_⟩:=I.tuple (q1.uW);exact⟨p,_,rfl,pl⟩
 match d1,d2,e,h1,h2 with
 | .loc m,.loc n,e,h1,h2 =>
  simp only[qP]at e;cases e1:aq st m with
  | none=>rw[e1]at e;cases e
  | some as =>
   cases e2:aq st n with
   | none=>rw[e1,e2]at e;cases e
   | some bs =>
    rw[e1,e2]at e;dsimp only at e
    split at e
    ·rename_i c;cases e;obtain⟨p,q1,rfl⟩:=ak.aL.mp h1;obtain⟨p',xs,g1,g2,g3⟩:=hs.items e1;rw[q1]at g1;cases g1;obtain⟨q,q2,rfl⟩:=ak.aL.mp h2;obtain⟨q',ys,k1,k2,k3⟩:=hs.items e2;rw[q2]at k1;cases k1;cases (show u=Value.ref p from r1);cases (show w=Value.ref q from r2);exact Gu I c.1 c.2.1 (by omega) g3 k3 g2 k2
    ·cases e
 | .loc m,.non,e,h1,h2 =>
  simp only[qP]at e;cases e1:aq st m with
  | none=>rw[e1]at e;cases e
  | some as =>
   rw[e1]at e;cases e;obtain⟨p,its,rfl,pl⟩:=list h1 r1 e1;rw[ak.bT]at h2;subst h2;cases (show w=Value.none from r2);exact⟨RcAt.list_none pl (by omega),RcNeAt.list_none pl (by omega)⟩
 | .non,.loc n,e,h1,h2 =>
  simp only[qP]at e;cases e1:aq st n with
  | none=>rw[e1]at e;cases e
  | some as =>
   rw[e1]at e;cases e;obtain⟨p,its,rfl,pl⟩:=list h2 r2 e1;rw[ak.bT]at h1;subst h1;cases (show u=Value.none from r1);exact⟨RcAt.none_list pl (by omega),RcNeAt.none_list pl (by omega)⟩
 | .loc m,.tup bs,e,h1,h2 =>
  simp only[qP]at e
  split at e
  ·cases e1:aq st m with
   | none=>rw[e1]at e;cases e
   | some as =>
    rw[e1]at e;cases e;obtain⟨p,its,rfl,pl⟩:=list h1 r1 e1;obtain⟨q,o_,rfl,pt⟩:=tuple h2 r2;exact⟨RcAt.list_tuple pl pt (by omega),RcNeAt.list_tuple pl pt (by omega)⟩
  ·cases e
 | .tup as,.loc n,e,h1,h2 =>
  simp only[qP]at e
  split at e
  ·cases e1:aq st n with
   | none=>rw[e1]at e;cases e
   | some as =>
    rw[e1]at e;cases e;obtain⟨p,its,rfl,pl⟩:=list h2 r2 e1;obtain⟨q,o_,rfl,pt⟩:=tuple h1 r1;exact⟨RcAt.tuple_list pt pl (by omega),RcNeAt.tuple_list pt pl (by omega)⟩
  ·cases e
 | .non,.non,e,h1,h2=>exact plain h1 h2 (by simpa only[qP] using e)
 | .non,.bl _,e,h1,h2=>exact plain h1 h2 (by simpa only[qP] using e)
 | .non,.int _,e,h1,h2=>exact plain h1 h2 (by simpa only[qP] using e)
 | .non,.str _,e,h1,h2=>exact plain h1 h2 (by simpa only[qP] using e)
 | .non,.tup _,e,h1,h2=>exact plain h1 h2 (by simpa only[qP] using e)
 | .bl _,d2,e,h1,h2=>exact plain h1 h2 (by simpa only[qP] using e)
 | .int _,d2,e,h1,h2=>exact plain h1 h2 (by simpa only[qP] using e)
 | .str _,d2,e,h1,h2=>exact plain h1 h2 (by simpa only[qP] using e)
 | .tup _,.non,e,h1,h2=>exact plain h1 h2 (by simpa only[qP] using e)
 | .tup _,.bl _,e,h1,h2=>exact plain h1 h2 (by simpa only[qP] using e)
 | .tup _,.int _,e,h1,h2=>exact plain h1 h2 (by simpa only[qP] using e)
 | .tup _,.str _,e,h1,h2=>exact plain h1 h2 (by simpa only[qP] using e)
 | .tup _,.tup _,e,h1,h2=>exact plain h1 h2 (by simpa only[qP] using e)
 | .loc _,.bl _,e,h1,h2=>simp[qP,flat]at e
 | .loc _,.int _,e,h1,h2=>simp[qP,flat]at e
 | .loc _,.str _,e,h1,h2=>simp[qP,flat]at e
noncomputable def tR(L:Nat):D->D->au->R D:=λd1 d2 st=>match qP L d1 d2 st with | some k=>.ok (.bl k) st | none=>.bad
noncomputable def z_(L:Nat):D->D->au->R D:=λd1 d2 st=>match qP L d1 d2 st with | some k=>.ok (.bl (!k)) st | none=>.bad
def yX(hu:X.A.units+L<cLine):fK X (compareOp .Eq) (rM X (tR L)):=by
 rintro pins s σ H x y v u Q I rx ry ⟨μ,st,dx,dy,hs,hx,hy,hp⟩;unfold tR at hp;cases e:qP L dx dy st with
 | none=>rw[e]at hp;exact hp.elim
 | some k =>
  rw[e]at hp;exact (Lh I hs e hu hx hy rx ry).1 X.prog X.w X.xe _ ⟨.bl k,H,I,rfl,hp.ret hs (ak.cG.mpr rfl)⟩
def Zt(hu:X.A.units+L<cLine):fK X (compareOp .NotEq) (rM X (z_ L)):=by
 rintro pins s σ H x y v u Q I rx ry ⟨μ,st,dx,dy,hs,hx,hy,hp⟩;unfold z_ at hp;cases e:qP L dx dy st with
 | none=>rw[e]at hp;exact hp.elim
 | some k =>
  rw[e]at hp;exact (Lh I hs e hu hx hy rx ry).2 X.prog X.w X.xe _ ⟨.bl (!k),H,I,rfl,hp.ret hs (ak.cG.mpr rfl)⟩
end
end M
namespace M
open PySem PySem.Spec L2
noncomputable def dM(T:String)(d:D)(st:au):Bool:=match d with
 | .str _=>T == "str"
 | .loc n=>(match st[n]? with
  | some (.lst _)=>T == "list"
  | some (.frz _)=>T == "list"
  | some (.dic _)=>T == "dict"
  | some (.dkc _)=>T == "dict"
  | _=>false)
 | _=>false
section
variable  {X:Cx}{e a b c o:Expr}{es:List Expr}{ma mb mc mo:ME}{mA:MA}{pos p2 p apos fW:Pos}{T id:String}{name:Str}{g:D->List D->au->R D}
def Ql(h:dM T d st=true)(hs:aV X.K μ H st)(hv:ak X.K μ H d v):tyV X.K T v H:=by
 cases d with
 | str cs=>rw[ak.aY]at hv;subst hv;exact eq_of_beq h
 | loc n =>
  obtain⟨p,q1,rfl⟩:=ak.aL.mp hv;simp only[dM]at h;cases e:st[n]? with
  | none=>rw[e]at h;cases h
  | some o =>
   rw[e]at h;obtain⟨p',r1,r2⟩:=hs.at_ n o e;rw[q1]at r1;cases r1;cases o with
   | lst ds=>obtain⟨xs,r3,_⟩:=r2;exact .inl ⟨eq_of_beq h,xs,rO.of r3⟩
   | frz ds=>obtain⟨xs,r3,_⟩:=r2;exact .inl ⟨eq_of_beq h,xs,r3.sqL⟩
   | dic ds=>obtain⟨xs,r3,_⟩:=r2;exact .inr (.inr (.inl ⟨eq_of_beq h,.inr ⟨xs,r3⟩⟩))
   | dkc ds=>obtain⟨xs,r3,_⟩:=r2;exact .inr (.inr (.inl ⟨eq_of_beq h,.inl ⟨xs,r3⟩⟩))
   | _=>cases h
 | _=>simp[dM]at h
noncomputable def bM(T:String)(g:D->List D->au->R D)(mo:ME)(mA:MA):ME:=λenv st=>(mo env st).bind λx st1=>if dM T x st1=true then (mA env st1).bind λxs st2=>g x xs st2 else .bad
def Hd(pa:PlainAttrs T)(slot:Slot T name id)(hty:typeOf (.builtin id)=pure (.type "method_descriptor"))(hm:xx X id (Ou X g))(ho:JE X o mo)(ha:JA X (e::es) mA)
  (zq:attributeBase o name X.env (eval o X.env)=eval o X.env:=by rfl)
  (K3:((backTo fW (starEach (e::es) X.env)).all (λx=>!x.1) && (backToKw fW (keywordEach [] X.env)).all (λx=>x.1.isSome)
   && decide ((e::es).length+([]:List Keyword).length+(if ([]:List Keyword).isEmpty then 0 else 1)<30))=true:=by rfl)
  (hline:(apos.endLine==fW.line)=true:=by rfl) (hs:starEach (e::es) X.env=(false,eval e X.env)::starEach es X.env:=by rfl) (vY:(backTo fW (starEach es X.env)).any (·.1)=false:=by rfl):JE X (.Call (.Attribute o name apos) (e::es) [] fW) (bM T g mo mA):=by
 refine JE.of (aaT pa slot hty hm ho ha zq K3 hline hs vY) fun σ H Q zz=>?_;obtain⟨μ,env,st,hE,hs,hp⟩:=zz;refine⟨μ,env,st,hE,hs,(cM.bind hp).imp ?_⟩;rintro x H1 ⟨μ1,st1,d,g1,bV,hx,bf⟩;dsimp only at bf
 split at bf
 ·rename_i hT;refine⟨Ql hT bV hx,μ1,env,st1,hE.mono g1,bV,(cM.bind bf).imp ?_⟩;rintro xs H2 ⟨μ2,st2,ds,g2,fY,uJ,dY⟩;exact⟨μ2,st2,d,ds,fY,hx.mono g2 _,uJ,dY⟩
 ·exact bf.elim
noncomputable def aQ:D->List D->au->R D
 | .loc n,[d],st=>match st[n]? with
  | some (.lst ds)=>if ds.length<1000000 then .ok .non (st.set n (.lst (ds++[d]))) else .bad
  | _=>.bad
 | _,_,_=>.bad
def Uh{μ:List Addr}{H:Hp}{st:au}{n:Nat}{ds Zf:List D}{p:Addr}{xs ys:List V}{Q:VK}(hp:cM X μ H (rT X) Q (.ok .non (st.set n (.lst Zf))))(hs:aV X.K μ H st)(e:st[n]? = some (.lst ds))(hq:μ[n]? = some p)(hx:H p=some (.lst xs))(hy:ao X.K μ H Zf ys) :
  Q .non (upd H p (.lst ys)):=by
 obtain⟨g,su⟩:=yh hs e hq hx hy;exact hp _ _ μ g su (ak.bT.mpr rfl)
def zo7:xx X "list.append" (Ou X aQ):=by
 refine xx.weak zm0 ?_;rintro x xs H Q ⟨μ,st,d,ds,hs,hx,uJ,hp⟩;unfold aQ at hp
 split at hp
 ·rename_i n d' ;cases e:st[n]? with
  | none=>rw[e]at hp;exact hp.elim
  | some mo =>
   cases mo with
   | lst l =>
    rw[e]at hp;dsimp only at hp
    split at hp
    ·rename_i hl;obtain⟨p,q1,rfl⟩:=ak.aL.mp hx;obtain⟨y,rfl,q2⟩:=ao.one uJ;obtain⟨p',ys,r1,r2,r3⟩:=hs.lst e;rw[q1]at r1;cases r1;refine⟨p,ys,y,rfl,rfl,r2,by rw[<-r3.length];exact gR hl (by decide),Uh hp hs e q1 r2 (r3.append (ao.cons q2 ao.nil))⟩
    ·exact hp.elim
   | _=>rw[e]at hp;exact hp.elim
 ·exact hp.elim
end
section
variable  {X:Cx}{e a b c l:Expr}{es:List Expr}{ma mb mc:ME}{mA:MA}{pos p2 p Ed:Pos}{μ:List Addr}{H:Hp}
noncomputable def o7(st:au)(n:Nat):Option (List D×MO):=match st[n]? with
 | some (.lst ds)=>some (ds,.lst ds)
 | some (.frz ds)=>some (ds,.frz ds)
 | _=>none
def zgm(h:o7 st n=some (ds,o)):aq st n=some ds/\st[n]? = some o/\(o=.lst ds\/o=.frz ds):=by
 unfold o7 at h;unfold aq
 split at h
 ·rename_i q;cases h;rw[q];exact⟨rfl,rfl,.inl rfl⟩
 ·rename_i q;cases h;rw[q];exact⟨rfl,rfl,.inr rfl⟩
 ·cases h
def znp{K:PySem.W.Frag}{st':au}{n:Nat}{ds:List D}{o:MO}{μ':List Addr}{H':Hp}(ho:o=.lst ds\/o=.frz ds)(hs:aV K μ' H' st')(e:st'[n]? = some o):∃p xs,μ'[n]? = some p/\rO K H' p xs/\ao K μ' H' ds xs:=by
 refine hs.items ?_;unfold aq;rcases ho with rfl | rfl<;>rw[e]
noncomputable def eZ:Nat->List D->List D
 | _,[]=>[]
 | k,d::ds=>.tup [.int k,d]::eZ (k+1) ds
theorem ZV:∀(ds:List D) (k i:Nat),(eZ k ds)[i]? = (ds[i]?).map λd=>.tup [.int ((k+i:Nat):Int),d]
 | [],k,i=>by simp[eZ]
 | d::ds,k,0=>by simp[eZ]
 | d::ds,k,i+1=>by
  have:=ZV ds (k+1) i;simp only[eZ,ni];rw[this,show k+1+i=k+(i+1) by omega]
theorem ZW:∀(ds:List D) (k:Nat),(eZ k ds).length=ds.length
 | [],_=>rfl
 | _::ds,k=>by simp[eZ,ZW ds (k+1)]
noncomputable def wg(mA:MA):MI:=λenv st=>(mA env st).bind λds st1=>match ds with
 | [.loc n]=>(match o7 st1 n with | some (xs,o)=>.ok (eZ 0 xs,[(n,o)]) st1 | none=>.bad)
 | _=>.bad
def Qk{n:Nat}{ds:List D}{q:Addr}{o:MO}(ho:o=.lst ds\/o=.frz ds)(hp:μ[n]? = some q):vd X μ H (Ite X.K q) (eZ 0 ds,[(n,o)]):=by
 intro H' μ' st' g hs ok;have e:st'[n]? = some o:=(ok (n,o) (by simp));obtain⟨p',xs,q1,q2,q3⟩:=znp ho hs e;rw[g.get hp]at q1;cases q1;refine⟨λi d hd=>?_,xs,q2,by rw[<-q3.length];show ds.length<=(eZ 0 ds).length;rw[ZW];exact gf _⟩;have K4:(eZ 0 ds)[i]? = some d:=hd;rw[ZV]at K4;cases e2:ds[i]? with
 | none=>rw[e2]at K4;cases K4
 | some d0 =>
  rw[e2]at K4;cases K4;obtain⟨v,h1,h2⟩:=q3.get e2;refine⟨⟨xs,v,q2,h1⟩,?_⟩;rintro x Ml ⟨pp,y,hn,rfl,rfl,hy⟩;have:=hy xs q2;rw[h1]at this;cases this;refine⟨bD.lay hn,hs.lay hn,ak.aX.mpr ⟨pp,_,rfl,.inl rQ,?_⟩⟩;exact (ao.cons (ak.aP.mpr (by simp)) (ao.cons h2 ao.nil)).mono (bD.lay hn) _
def zmk(ha:JA X [a] mA)(hg:Gl X "enumerate")(hm:X.mg "enumerate" = none)(hs:starEach [a] X.env=[(false,eval a X.env)]:=by rfl):JI X (.Tuple elts x1 Ed) (.Call (.Name "enumerate" p) [a] [] pos) (wg mA):=by
 refine JI.of (O_ hg hm ha hs) fun σ H R zz=>?_;obtain⟨μ,env,st,hE,hs,hp⟩:=zz;refine⟨μ,env,st,hE,hs,(cM.bind hp).imp ?_⟩;rintro vs H1 ⟨μ1,st1,ds,g1,bV,hv,bf⟩;dsimp only at bf
 split at bf
 ·rename_i n;cases e:o7 st1 n with
  | none=>rw[e]at bf;exact bf.elim
  | some y =>
   obtain⟨xs,o⟩:=y;rw[e]at bf;obtain⟨k1,k2,k3⟩:=zgm e;obtain⟨v,rfl,q1⟩:=ao.one hv;obtain⟨q,q2,rfl⟩:=ak.aL.mp q1;obtain⟨q',zs,r1,r2,r3⟩:=bV.items k1;rw[q2]at r1;cases r1;exact⟨q,rfl,⟨zs,r2⟩,bf _ _ _ (.refl _ _) bV (Qk k3 q2)⟩
 ·exact bf.elim
end
def ou{α β:Type}(K:PySem.W.Frag)(μ:List Addr)(H:Hp)(rel:Rel α β)(Q:β->Hp->Prop)(r:R α):Prop:=match r with
 | .ok a st=>∀(b:β) (H':Hp) (μ':List Addr),bD μ H μ' H'->aV K μ' H' st->rel μ' H' a b->Q b H'
 | _=>False
def tK{α β:Type}(K:PySem.W.Frag)(rel:Rel α β)(m:cg->au->R α):L2.St->Hp->(β->Hp->Prop)->Prop:=fun σ H Q=>∃μ env st,fD K μ H env σ/\aV K μ H st/\ou K μ H rel Q (m env st)
noncomputable def tKG(K:PySem.W.Frag)(m:MG):TG:=λv σ H Q=>∃μ env st d,fD K μ H env σ/\aV K μ H st/\ak K μ H d v/\ou K μ H (fun μ H env σ=>fD K μ H env σ) Q (m d env st)
def ou.post{α β:Type}{X:Cx}{μ:List Addr}{H:Hp}{rel:Rel α β}{Q:β->Hp->Prop}{r:R α}(h:ou X.K μ H rel Q r):cM X μ H rel Q r:=by
 cases r with
 | ok a st=>exact h
 | err x st=>exact h.elim
 | bad=>exact h.elim
def ou.mono{α β:Type}{K:PySem.W.Frag}{μ μ1:List Addr}{H H1:Hp}{rel:Rel α β}{Q:β->Hp->Prop}{r:R α}(g:bD μ H μ1 H1)(h:ou K μ H rel Q r):ou K μ1 H1 rel Q r:=by
 cases r with
 | ok a st=>exact λb H' μ' g'=>h b H' μ' (g.trans g')
 | err x st=>exact h.elim
 | bad=>exact h.elim
noncomputable def sV(capt:List (Option Nat))(env:cg):cg:=capt.map λo=>o.bind λj=>(env[j]?).join
open Classical in
noncomputable def jq(g:MG)(t:MT)(e:ME)(gs:List (Nat×MO))(n:Nat):List D->cg->au->R D
 | [],_,st=>if wO gs st then .ok (.loc n) st else .bad
 | d::r,env,st=>if wO gs st then (g d env st).bind λcA st1=>(t cA st1).bind λok st2=>if ok then (e cA st2).bind λy qO=>(match qO[n]? with
   | some (.lst xs)=>if xs.length<1000000 then jq g t e gs n r cA (qO.set n (.lst (xs++[y]))) else .bad
   | _=>.bad) else jq g t e gs n r cA st2 else .bad
noncomputable def lF(capt:List (Option Nat))(mi:MI)(g:MG)(t:MT)(e:ME):ME:=λenv st=>(mi env st).bind λs st1=>(jq g t e s.2 st1.length s.1 (sV capt env) (st1++[.lst []])).sure
noncomputable def wR:MT:=λ_ st=>.ok true st
section
variable  {X:Cx}{elt tg iter c:Expr}{ifs:List Expr}{scope:Scope}{pos:Pos}{N:List Str}{capt:List (Option Nat)}{mi:MI}{g:MG}{t:MT}{me:ME}
def fD.taken{K:PySem.W.Frag}{μ:List Addr}{H:Hp}{env:cg}{σ:L2.St}(cp:List (Option Nat))(h:fD K μ H env σ):fD K μ H (sV cp env) (oO cp σ):=by
 refine⟨by simp[sV,oO],λi d e=>?_⟩;unfold sV at e;unfold oO;rw[gH]at e ⊢;cases q:cp[i]? with
 | none=>rw[q]at e;cases e
 | some o =>
  rw[q]at e;cases o with
  | none=>cases e
  | some j =>
   have e':(env[j]?).join=some d:=by simpa using e
   have e2:env[j]? = some (some d):=by
    cases z:env[j]? with
    | none=>rw[z]at e';cases e'
    | some y=>rw[z]at e';cases e';rfl
   obtain⟨v,h1,h2⟩:=h.at_ j d e2;exact⟨v,by simp[h1],h2⟩
def ou.val{α β γ:Type}{K:PySem.W.Frag}{μ:List Addr}{H:Hp}{rel:Rel α β}{r:R α}{f:α->au->R γ}{G:List Addr->Hp->R γ->Prop}(hG:∀μ μ1 H H1 r,bD μ H μ1 H1->G μ H r->G μ1 H1 r)(hb:∀μ H,¬ G μ H .bad)(he:∀μ H x st,¬ G μ H (.err x st))
  (h:G μ H (r.bind f)):ou K μ H rel (λb H1=>∃μ1 st1 a,bD μ H μ1 H1/\aV K μ1 H1 st1/\rel μ1 H1 a b/\G μ1 H1 (f a st1)) r:=by
 cases r with
 | ok a st=>exact λb H' μ' g h1 h2=>⟨μ',st,a,g,h1,h2,hG _ _ _ _ _ g h⟩
 | err x st=>exact (he _ _ _ _ h).elim
 | bad=>exact (hb _ _ h).elim
def zK(X:Cx)(Q:VK):List Addr->Hp->R D->Prop:=fun μ H r=>ou X.K μ H (rT X) Q r
def zoh{σ:L2.St}{H:Hp}{Q:VK}(h:tM X (lF capt mi g t me) σ H Q):Ib capt (tMI X mi) (tKG X.K g) (tK X.K Ey t) (tK X.K (rT X) me) σ H Q:=by
 obtain⟨μ,env,st,hE,hs,hp⟩:=h;refine⟨μ,env,st,hE,hs,(cM.bind hp).imp ?_⟩;rintro J H1 ⟨μ1,st1,s,g1,bV,hJ,bf⟩;dsimp only at bf;have dY:zK X Q μ1 H1 (jq g t me s.2 st1.length s.1 (sV capt env) (st1++[.lst []])):=by
  cases hr:jq g t me s.2 st1.length s.1 (sV capt env) (st1++[.lst []]) with
  | ok d st2=>rw[hr]at bf;exact bf
  | err y st2=>rw[hr]at bf;exact bf.elim
  | bad=>rw[hr]at bf;exact bf.elim
 have mG:∀μ μ1 H H1 r,bD μ H μ1 H1->zK X Q μ H r->zK X Q μ1 H1 r:=fun μ μ1 H H1 r g h=>ou.mono g h;have nb:∀μ H,¬ zK X Q μ H .bad:=fun μ H h=>h;have ne:∀μ H x st,¬ zK X Q μ H (.err x st):=fun μ H x st h=>h;intro D hD;have gD:bD μ1 H1 (μ1++[D]) (upd H1 D (.lst [])):=bD.new hD;have sD:aV X.K (μ1++[D]) (upd H1 D (.lst [])) (st1++[.lst []]):=bV.new hD ⟨[],rQ,ao.nil⟩;have nD:(μ1++[D])[st1.length]? = some D:=by rw[<-bV.len];simp
 refine⟨λi k σ' H'=>∃μ2 bF st2,bD (μ1++[D]) (upd H1 D (.lst [])) μ2 H'/\fD X.K μ2 H' bF σ'/\aV X.K μ2 H' st2/\zK X Q μ2 H' (jq g t me s.2 st1.length (s.1.drop i) bF st2)/\i<=s.1.length/\k=s.1.length - i,
  ⟨_,μ1++[D],sV capt env,_,.refl _ _,(hE.mono (g1.trans gD)).taken capt,sD,by simpa using mG _ _ _ _ _ gD dY,mZ _,rfl⟩,?_⟩
 rintro i k σ2 H2 ⟨μ2,bF,st2,g2,SJ,fY,zO,hi,rfl⟩;have atD:μ2[st1.length]? = some D:=g2.get nD;by_cases KY:i<s.1.length
 ·have e1:s.1.drop i=s.1[i]::s.1.drop (i+1):=nG KY;rw[e1,jq]at zO;by_cases ok:wO s.2 st2
  ·rw[ae9 ok]at zO;obtain⟨q1,q2⟩:=(hJ H2 μ2 st2 (gD.trans g2) fY ok).1 i s.1[i] (kj KY);refine .inr ⟨q1,fun σ' H'=>∃μ3 yI qO,bD (μ1++[D]) (upd H1 D (.lst [])) μ3 H'/\fD X.K μ3 H' yI σ'/\aV X.K μ3 H' qO/\zK X Q μ3 H' (jq g t me s.2 st1.length (s.1.drop (i+1)) yI qO),?_,?_⟩
   ·rintro σ' H' ⟨μ3,yI,qO,g3,hE3,vX,hp4⟩;exact⟨s.1.length - (i+1),by omega,μ3,yI,qO,g3,hE3,vX,hp4,by omega,rfl⟩
   ·intro x H3 hx;obtain⟨g3,vX,hd⟩:=q2 x H3 hx;refine⟨μ2,bF,st2,s.1[i],SJ.mono g3,vX,hd,?_⟩;have w1:=ou.val (K:=X.K) (rel:=fun μ H env σ=>fD X.K μ H env σ) mG nb ne (mG _ _ _ _ _ g3 zO);cases uw:g s.1[i] bF st2 with
    | bad=>rw[uw]at w1;exact w1
    | err y z=>rw[uw]at w1;exact w1
    | ok abF st4 =>
     rw[uw]at w1;intro σ4 H4 μ4 g4 hs4 hE4;obtain⟨aew,aar,u6,g4',adl,Qz,hp4⟩:=w1 σ4 H4 μ4 g4 hs4 hE4;refine⟨aew,u6,aar,Qz,adl,?_⟩;have w2:=ou.val (K:=X.K) (rel:=Ey) mG nb ne hp4;cases Dc:t u6 aar with
     | bad=>rw[Dc]at w2;exact w2
     | err y z=>rw[Dc]at w2;exact w2
     | ok b5 MF =>
      rw[Dc]at w2;intro b H5 μ5 g5 hs5 hb5;obtain⟨ab2,N7,b5',g5',abl,adH,hp5⟩:=w2 b H5 μ5 g5 hs5 hb5;subst adH;have gg:bD (μ1++[D]) (upd H1 D (.lst [])) ab2 H5:=((g2.trans g3).trans g4').trans g5';cases b5' with
      | false=>exact Aj ⟨ab2,u6,N7,gg,Qz.mono g5',abl,by simpa using hp5⟩
      | true =>
       refine Ai ⟨ab2,u6,N7,Qz.mono g5',abl,?_⟩;have adp:zK X Q ab2 H5 ((me u6 N7).bind λy qO=>(match qO[st1.length]? with
        | some (.lst xs)=>if xs.length<1000000 then jq g t me s.2 st1.length (s.1.drop (i+1)) u6 (qO.set st1.length (.lst (xs++[y]))) else .bad
        | _=>.bad)):=by simpa using hp5
       have w3:=ou.val (K:=X.K) (rel:=rT X) mG nb ne adp;cases Wz:me u6 N7 with
       | bad=>rw[Wz]at w3;exact w3
       | err y z=>rw[Wz]at w3;exact w3
       | ok y6 st6 =>
        rw[Wz]at w3;intro v H6 μ6 g6 hs6 hv6;obtain⟨aef,acw,y6',g6',abk,adi,Qs⟩:=w3 v H6 μ6 g6 hs6 hv6;have gg6:=gg.trans g6';have abR:aef[st1.length]? = some D:=gg6.get nD;cases e6:acw[st1.length]? with
        | none=>rw[e6]at Qs;exact Qs.elim
        | some mo =>
         cases mo with
         | lst xs =>
          rw[e6]at Qs;dsimp only at Qs
          split at Qs
          ·rename_i hl;obtain⟨p',ys,r1,r2,r3⟩:=abk.lst e6;rw[abR]at r1;cases r1;obtain⟨g7,hs7⟩:=yh abk e6 abR r2 (r3.append (ao.cons adi ao.nil));refine⟨ys,r2,by rw[<-r3.length];exact gR hl (by decide),aef,u6,_,gg6.trans g7,((Qz.mono g5').mono g6').mono g7,hs7,mG _ _ _ _ _ g7 Qs⟩
          ·exact Qs.elim
         | _=>rw[e6]at Qs;exact Qs.elim
  ·rw[ae_ ok]at zO;exact zO.elim
 ·have e1:s.1.drop i=[]:=nF (by omega);rw[e1,jq]at zO;have e2:i=s.1.length:=by omega
  by_cases ok:wO s.2 st2
  ·rw[ae9 ok]at zO;refine .inl ⟨by rw[e2];exact (hJ H2 μ2 st2 (gD.trans g2) fY ok).2,?_⟩;exact zO _ H2 μ2 (.refl _ _) fY (ak.aL.mpr ⟨D,atD,rfl⟩)
  ·rw[ae_ ok]at zO;exact zO.elim
def RJ{X':Cx}{e:Expr}{m:ME}(h:JE X' e m):PE X' e (tK X'.K (rT X') m):=by
 refine λpins s σ H Q I zz=>?_;obtain⟨μ,env,st,a,b,c⟩:=zz;exact h pins s σ H Q I ⟨μ,env,st,a,b,c.post⟩
def RD{X':Cx}{e:Expr}{m:MG}(h:JG X' e m):PG X' e (tKG X'.K m):=by
 refine λpins s σ H v u Q I r zz=>?_;obtain⟨μ,env,st,d,a,b,b2,c⟩:=zz;exact h pins s σ H v u Q I r ⟨μ,env,st,d,a,b,b2,c.post⟩
def JTs(X:Cx)(ifs:List Expr)(m:MT):Prop:=Zn X ifs (tK X.K Ey m)
def X6:JTs X' [] wR:=by
 refine λpins s σ H Q I zz=>?_;obtain⟨μ,env,st,a,b,c⟩:=zz;exact Oz pins s σ H Q I (c true H μ (.refl _ _) b rfl)
def Bf(sc sc0:Scope):Prop:=∀x∈sc.names,x.2=.free->sc0.names.lookup x.1=some .cell\/sc0.names.lookup x.1=some .free
instance (sc sc0:Scope):Decidable (Bf sc sc0):=inferInstanceAs (Decidable (∀x∈sc.names,x.2=.free->sc0.names.lookup x.1=some .cell\/sc0.names.lookup x.1=some .free))
def ZC(hi:JI X tg iter mi)(S:jC scope)(Qv:Bf scope sc0)(vA:qN X scope capt N)(hc:X.calm=true) 
  (hg:∀cl C fp s H,JG (dH X N scope cl C fp s H) tg g) (ht:∀cl C fp s H,JTs (dH X N scope cl C fp s H) ifs t) (he:∀cl C fp s H,JE (dH X N scope cl C fp s H) elt me)
  (h0:X.env.scope=sc0:=by rfl) (hs:∀x,foldedSetIterable iter X.env x=pure x:=by intro _;rfl):JE X (.ListComp elt [⟨tg,iter,ifs,0⟩] scope pos) (lF capt mi g t me) :=
 JE.of (Pk (g:=tKG X.K g) (tt:=tK X.K Ey t) (te:=tK X.K (rT X) me) hi S (by subst h0;exact Qv) vA hc (λcl C fp s H=>RD (hg cl C fp s H)) ht (λcl C fp s H=>RJ (he cl C fp s H)) hs) fun σ H Q h=>zoh h
def zpz(i:Nat)(hi:JI X tg iter mi)(S:jC scope)(Qv:Bf scope sc0)(vA:qN X scope capt N)(hc:X.calm=true) 
  (hg:∀cl C fp s H,JG (dH X N scope cl C fp s H) tg g) (ht:∀cl C fp s H,JTs (dH X N scope cl C fp s H) ifs t) (he:∀cl C fp s H,JE (dH X N scope cl C fp s H) elt me)
  (hN:X.N.Nodup) (hy:X.N[i]? = some y:=by rfl) (hx:Loc X.env.scope y:=by first | exact Or.inl rfl | exact Or.inr rfl) (hsw:swapsWith (.ListComp elt [⟨tg,iter,ifs,0⟩] scope pos) (some (.Name y py)) UW.line X.env=pure true:=by rfl)
  (h0:X.env.scope=sc0:=by rfl) (hs:∀x,foldedSetIterable iter X.env x=pure x:=by intro _;rfl) (hf:X.fn y=true\/X.env.scope.names.lookup y=some .local:=by first | exact .inl rfl | exact .inr rfl | assumption) :
  JS X (.Assign [.Name y py] (.ListComp elt [⟨tg,iter,ifs,0⟩] scope pos) UW) (bw i (lF capt mi g t me)):=by
 refine JS.of (zol (g:=tKG X.K g) (tt:=tK X.K Ey t) (te:=tK X.K (rT X) me) hN hy hx hsw hi S (by subst h0;exact Qv) vA hc (λcl C fp s H=>RD (hg cl C fp s H)) ht (λcl C fp s H=>RJ (he cl C fp s H)) hs hf) λE σ H zz=>?_;obtain⟨μ,env,st,hE,hs,hp⟩:=zz;refine zoh ⟨μ,env,st,hE,hs,(di.val hp).imp ?_⟩;rintro x H1 ⟨μ1,st1,d,g1,bV,hx,bf⟩;exact bf.nx bV ((hE.mono g1).set hx)
end
def jc:∀(env:cg) (st:au) (as:List D) (st1:au),az env st=.ok as st1->as.length=([]:List Expr).length:=by
 intro env st as st1 h;cases h;rfl
def bY{e:Expr}{es:List Expr}{a:ME}{r:MA}(h:∀(env:cg) (st:au) (as:List D) (st1:au),r env st=.ok as st1->as.length=es.length) :
  ∀(env:cg) (st:au) (as:List D) (st1:au),aj a r env st=.ok as st1->as.length=(e::es).length:=by
 intro env st as st1 q;unfold aj at q;cases h1:a env st with
 | bad=>rw[h1]at q;cases q
 | err x s=>rw[h1]at q;cases q
 | ok x s =>
  rw[h1,R.aD]at q;cases h2:r env s with
  | bad=>rw[h2]at q;cases q
  | err x s=>rw[h2]at q;cases q
  | ok xs s2 =>
   rw[h2,R.aD]at q;cases q;rw[gC,gC,h env s xs _ h2]
def fH(hr:dX k A):A.units+200<cLine:=by have:=hr.un;omega
noncomputable def fuel:Nat:=1000000
end M
namespace M
open L2
def zL(h:under st.length d):gc st (.ok d st)=.ok d st:=by
 have:=Hv (st:=st) (g:=[]) h;simpa using this
def Nk(h:aU st.length o):gc st (.ok (.loc st.length) (st++[o]))=.ok (.loc st.length) (st++[o]):=by
 have:=X4 (st:=st) (g:=[]) (g':=[]) h;simpa using this
def zm4(h:aq st n=some ds):aq (st++l) n=some ds:=by
 unfold aq at h ⊢;cases e:st[n]? with
 | none=>rw[e]at h;cases h
 | some o =>
  rw[gP (gk.mp e).1,e];rw[e]at h;exact h
def fZ{st l:au}{n:Nat}{o:MO}(h:st[n]? = some o):(st++l)[n]? = some o:=by rw[gP (gk.mp h).1];exact h
@[simp] def zp6{st l:au}:(st++l)[st.length]? = l[0]?:=by rw[gw (gf _)];simp
@[simp] def K9{st l:au}{k:Nat}:(st++l)[st.length+k]? = l[k]?:=by rw[gw (Nat.le_add_right _ _)];simp
@[simp] def Ik{st l:au}{o:MO}:(st++l).set st.length o=st++l.set 0 o:=by rw[kZ _ _ (gf _)];simp
@[simp] def Wn{st l:au}:aq (st++l) st.length=aq l 0:=by unfold aq;rw[zp6]
@[simp] def Wm{st l:au}{k:Nat}:aq (st++l) (st.length+k)=aq l k:=by unfold aq;rw[K9]
@[simp] def R4:aq (o::l) 0=(match o with | .lst ds=>some ds | .frz ds=>some ds | _=>none):=by
 unfold aq;cases o<;>rfl
@[simp] def R0:aq (o::l) (n+1)=aq l n:=by unfold aq;simp
def Rb(xs:List α)(k:Nat):uq xs (k:Int)=xs[k]?:=by
 unfold uq yU;rw[ae9 (by omega)];by_cases h:k<xs.length
 ·rw[ae9 (by omega)];simp
 ·rw[ae_ (by omega)];simp;omega
def Gp(I:List D->cg->au->Prop)(h0:I [] env st) 
  (step:∀pre d post env st,items=pre++d::post->I pre env st->wO gs st/\∃cA st1,g d env st=.ok cA st1/\∃bF st2,(b cA st1=.ok (.nx bF) st2\/b cA st1=.ok (.cn bF) st2)/\I (pre++[d]) bF st2)
  (W7:∀env st,I items env st->wO gs st):∃dG st',dz g b gs items env st=.ok (.nx dG) st'/\I items dG st':=by
 have key:∀(post pre:List D) (env:cg) (st:au),items=pre++post->I pre env st->∃dG st',dz g b gs post env st=.ok (.nx dG) st'/\I items dG st':=by
  intro post
  induction post with
  | nil =>
   intro pre env st e hI;have:items=pre:=by simpa using e
   subst this;exact⟨env,st,by rw[dz,ae9 (W7 env st hI)],hI⟩
  | cons d post ih =>
   intro pre env st e hI;obtain⟨ok,cA,st1,h1,bF,st2,h2,hI2⟩:=step pre d post env st e hI;obtain⟨dG,st',h3,h4⟩:=ih (pre++[d]) bF st2 (by simp[e]) hI2;refine⟨dG,st',?_,h4⟩;rw[dz,ae9 ok,h1,R.aD];rcases h2 with h2 | h2<;>(rw[h2,R.aD];exact h3)
 exact key items [] env st rfl h0
def zlh{capt:List (Option Nat)}{mi:MI}{g:MG}{t:MT}{e:ME}{env:cg}{st st1:au}{items:List D}{gs:List (Nat×MO)}(p:D->Bool)(f:D->D)(Pe:cg->Prop)
  (hi:mi env st=.ok (items,gs) st1) (h0:Pe (sV capt env)) (hl:items.length<=1000000) (hg:∀ys,wO gs (st1++[.lst ys]))
  (step:∀d∈items,∀dG ys,Pe dG->∃cA,Pe cA/\g d dG (st1++[.lst ys])=.ok cA (st1++[.lst ys])/\t cA (st1++[.lst ys])=.ok (p d) (st1++[.lst ys]) /\
   (p d=true->e cA (st1++[.lst ys])=.ok (f d) (st1++[.lst ys]))) :
  lF capt mi g t e env st=.ok (.loc st1.length) (st1++[.lst ((items.filter p).map f)]):=by
 have key:∀(post:List D) (dG:cg) (ys:List D),(∀d∈post,d∈items)->Pe dG->ys.length+post.length<=1000000 ->
   jq g t e gs st1.length post dG (st1++[.lst ys])=.ok (.loc st1.length) (st1++[.lst (ys++(post.filter p).map f)]):=by
  intro post
  induction post with
  | nil=>intro dG ys _ _ _;rw[jq,ae9 (hg ys)];simp
  | cons d post ih =>
   intro dG ys hm hP hn;obtain⟨cA,hP1,h1,h2,h3⟩:=step d (hm d (by simp)) dG ys hP;have KR:∀d∈post,d∈items:=λd hd=>hm d (kW _ hd);rw[gC]at hn;rw[jq,ae9 (hg ys),h1,R.aD,h2,R.aD];cases hp:p d with
   | false =>
    rw[ae_ (by simp),ih cA ys KR hP1 (by omega)];simp[hp]
   | true =>
    rw[ae9 rfl,h3 hp,R.aD];simp only[zp6,pI];rw[ae9 (by omega),Ik,List.set_cons_zero,ih cA (ys++[f d]) KR hP1 (by simp;omega)];simp[hp]
 unfold lF;rw[hi,R.aD,key items (sV capt env) [] (λd hd=>hd) h0 (by simpa using hl)];simp
def Yc(f:D->D)(Pe:cg->Prop) 
  (hi:mi env st=.ok (items,gs) st1) (h0:Pe (sV capt env)) (hl:items.length<=1000000) (hg:∀ys,wO gs (st1++[.lst ys]))
  (step:∀d∈items,∀dG ys,Pe dG->∃cA,Pe cA/\g d dG (st1++[.lst ys])=.ok cA (st1++[.lst ys])/\e cA (st1++[.lst ys])=.ok (f d) (st1++[.lst ys])) :
  lF capt mi g wR e env st=.ok (.loc st1.length) (st1++[.lst (items.map f)]):=by
 have:=zlh (capt:=capt) (mi:=mi) (g:=g) (t:=wR) (e:=e) (env:=env) (st:=st) (λ_=>true) f Pe hi h0 hl hg λd hd dG ys hP=>by
  obtain⟨cA,a,b,c⟩:=step d hd dG ys hP;exact⟨cA,a,b,rfl,λ_=>c⟩
 have e2:items.filter (λ_=>true)=items:=List.filter_eq_self.mpr (by simp);rw[e2]at this;exact this
section
variable  (env:cg)(st:au)(a b:ME)(x y:D)(mA:MA)(tc ta tb:MT)(m1 m2:MS)
@[simp] def aax(i:Nat):vr i env st=match env[i]? with | some (some d)=>.ok d st | _=>.bad:=jD rfl
@[simp] def aeA(d:D):ct d env st=.ok d st:=jD rfl
@[simp] def aay(g:D->D->au->R D):aM g a b env st=(a env st).bind λx st1=>(b env st1).bind λy st2=>g x y st2:=jD rfl
@[simp] def aem(g:D->au->R D):yj g a env st=(a env st).bind λx st1=>g x st1:=jD rfl
@[simp] def aei :oZ a env st=(a env st).bind λx st1=>match x with | .bl b=>.ok b st1 | _=>.bad:=jD rfl
@[simp] def acQ :Xz ta tb env st=(ta env st).bind λx st1=>if x then tb env st1 else .ok false st1:=jD rfl
@[simp] def aek :YC ta tb env st=(ta env st).bind λx st1=>if x then .ok true st1 else tb env st1:=jD rfl
@[simp] def aeq :ifE tc a b env st=(tc env st).bind λx st1=>if x then a env st1 else b env st1:=jD rfl
@[simp] def yg :az env st=.ok [] st:=jD rfl
@[simp] def zlx :aj a mA env st=(a env st).bind λx st1=>(mA env st1).bind λxs st2=>.ok (x::xs) st2:=jD rfl
@[simp] def acH :bZ mA env st=(mA env st).bind λds st1=>if ds.length<=1000000 then .ok (.tup ds) st1 else .bad:=jD rfl
@[simp] def U_ :eO mA env st=(mA env st).bind λds st1=>if ds.length<=1000000 then .ok (.loc st1.length) (st1++[.lst ds]) else .bad:=jD rfl
@[simp] def aen :yS env st=.ok none st:=jD rfl
@[simp] def aeo :xO a env st=(a env st).bind λx st1=>match x with | .int i=>.ok (some i) st1 | _=>.bad:=jD rfl
@[simp] def aej(l h:MP):yd a l h env st=(a env st).bind λx st1=>(l env st1).bind λlo st2=>(h env st2).bind λhi qO=>vG x lo hi qO:=jD rfl
@[simp] def Ca(g:List D->au->R D):bL g mA env st=(mA env st).bind λds st1=>g ds st1:=jD rfl
@[simp] def ab3 :cR env st=.ok (.nx env) st:=jD rfl
@[simp] def U7 :aG m1 m2 env st=(m1 env st).bind λo st1=>match o with | .nx cA=>m2 cA st1 | o=>.ok o st1:=jD rfl
@[simp] def I_ :retS a env st=(a env st).bind λd st1=>.ok (.rt d) st1:=jD rfl
@[simp] def ab5 :cF a env st=(a env st).bind λ_ st1=>.ok (.nx env) st1:=jD rfl
@[simp] def aep :tB tc m1 m2 env st=(tc env st).bind λx st1=>if x then m1 env st1 else m2 env st1:=jD rfl
@[simp] def acO :Xw env st=.ok (.bk env) st:=jD rfl
@[simp] def Ol(i:Nat):aK i x env st=.ok (env.set i (some x)) st:=jD rfl
@[simp] def acP(g:MG):iV a g env st=(a env st).bind λd st1=>(g d env st1).bind λcA st2=>.ok (.nx cA) st2:=jD rfl
@[simp] def U6(i:Nat):bw i a env st=(a env st).bind λd st1=>.ok (.nx (env.set i (some d))) st1:=jD rfl
@[simp] def acK :o4 [] env st=.ok env st:=jD rfl
@[simp] def ab7(g:MG)(r:Nh)(d:D)(ds:List D):bQ g r (d::ds) env st=(g d env st).bind λcA st1=>r ds cA st1:=jD rfl
@[simp] def acG(n:Nat)(g:Nh)(ds:List D):oF n g (.tup ds) env st=if ds.length=n then g ds env st else .bad:=jD rfl
@[simp] def acI(g:D->D->D->au->R Unit)(d:D):qT g a b d env st=(a env st).bind λx st1=>(b env st1).bind λy st2=>(g x y d st2).bind λ_ qO=>.ok env qO:=jD rfl
@[simp] def B_(F:FD)(dd:List D):aW F dd mA env st=(mA env st).bind λas st1=>(F (as++dd) st1).sure:=jD rfl
@[simp] def ab4(T:String)(g:D->List D->au->R D):bM T g a mA env st=(a env st).bind λx st1=>if dM T x st1=true then (mA env st1).bind λxs st2=>g x xs st2 else .bad:=jD rfl
@[simp] def acM(mi:MI)(g:MG):jT mi g m1 env st=(mi env st).bind λs st1=>dz g m1 s.2 s.1 env st1:=jD rfl
@[simp] theorem U8 :rR a env st=(a env st).bind λd st1=>match d with
 | .loc n=>(match st1[n]? with
  | some (.lst ds)=>.ok (ds,[(n,.lst ds)]) st1
  | some (.frz ds)=>.ok (ds,[(n,.frz ds)]) st1
  | _=>.bad)
 | .tup ds=>.ok (ds,[]) st1
 | _=>.bad:=jD rfl
@[simp] theorem Yx :iK mA env st=(mA env st).bind λds st1=>match ds with
 | [.int j]=>if -(2 ^ 62)<=j/\j<2 ^ 62 then .ok (j9 0 j.toNat,[]) st1 else .bad
 | _=>.bad:=jD rfl
@[simp] theorem Yw :yf mA env st=(mA env st).bind λds st1=>match ds with
 | [.int i,.int j]=>if -(2 ^ 62)<=i/\i<2 ^ 62/\-(2 ^ 62)<=j/\j<2 ^ 62 then .ok (j9 i (j - i).toNat,[]) st1 else .bad
 | _=>.bad:=jD rfl
@[simp] theorem ab6 :wg mA env st=(mA env st).bind λds st1=>match ds with
 | [.loc n]=>(match o7 st1 n with | some (xs,o)=>.ok (eZ 0 xs,[(n,o)]) st1 | none=>.bad)
 | _=>.bad:=jD rfl
@[simp] def Yz(i j:Int):bH (.int i) (.int j) st=.ok (.int (i+j)) st:=jD rfl
@[simp] def Yv(i j:Int):z7 (.int i) (.int j) st=.ok (.int (i - j)) st:=by simp[z7,sr]
def Nr(i j:Int)(h:(-(2 ^ 64)<i/\i<2 ^ 64)\/(-(2 ^ 64)<j/\j<2 ^ 64)):jR (.int i) (.int j) st=.ok (.int (i*j)) st:=by
 unfold jR sr;dsimp only;rw[ae9 h]
def DQ(i j:Int)(h:0<j/\j<2 ^ 64):eV (.int i) (.int j) st=.ok (.int (i / j)) st:=by
 unfold eV sr;dsimp only;rw[ae9 h]
def yR(i j:Int)(h:0<j):eU (.int i) (.int j) st=.ok (.int (i % j)) st:=by
 unfold eU sr;dsimp only;rw[ae9 h]
@[simp] def aaA(i j:Int):ltV (.int i) (.int j) st=.ok (.bl (decide (i<j))) st:=by simp[ltV,sr]
@[simp] def aaB(i j:Int):leV (.int i) (.int j) st=.ok (.bl (decide (i<=j))) st:=by simp[leV,sr]
@[simp] def aaC(i j:Int):QB (.int i) (.int j) st=.ok (.bl (decide (j<i))) st:=by simp[QB,sr]
@[simp] def Yy(i:Int):qd (.int i) st=.ok (.int (-i)) st:=jD rfl
@[simp] def aaE(L:Nat)(i j:Int):tR (L+1) (.int i) (.int j) st=.ok (.bl (decide (i=j))) st:=by
 have e:(i==j)=decide (i=j):=by rw[n6];simp
 simp only[tR,qP,uf,e,zos,zo4];rw[ae9 ⟨trivial,trivial,Nat.succ_pos L⟩]
@[simp] def aaz(L:Nat)(i j:Int):z_ (L+1) (.int i) (.int j) st=.ok (.bl (!decide (i=j))) st:=by
 have e:(i==j)=decide (i=j):=by rw[n6];simp
 simp only[z_,qP,uf,e,zos,zo4];rw[ae9 ⟨trivial,trivial,Nat.succ_pos L⟩]
@[simp] def aaD(L:Nat)(i j:List Nat):tR (L+1) (.str i) (.str j) st=.ok (.bl (decide (i=j))) st:=by
 have e:(i==j)=decide (i=j):=by rw[n6];simp
 simp only[tR,qP,uf,e,Lf,LC];rw[ae9 ⟨trivial,trivial,Nat.succ_pos L⟩]
def zpy(L m n:Nat)(ds:List D)(h1:aq st m=some ds)(h2:aq st n=some ds)(hf:dW ds=true)(hd:deps ds+deps ds+1<L):tR L (.loc m) (.loc n) st=.ok (.bl true) st:=by
 have e:qP L (.loc m) (.loc n) st=some true:=by
  simp only[qP,h1,h2];rw[ae9 ⟨hf,hf,by have:=zjf ds ds;omega⟩,zhg _ hf]
 unfold tR;rw[e]
def zjt(L m n:Nat)(ds:List D)(h1:aq st m=some ds)(h2:aq st n=some ds)(hf:dW ds=true)(hd:deps ds+deps ds+1<L):z_ L (.loc m) (.loc n) st=.ok (.bl false) st:=by
 have e:qP L (.loc m) (.loc n) st=some true:=by
  simp only[qP,h1,h2];rw[ae9 ⟨hf,hf,by have:=zjf ds ds;omega⟩,zhg _ hf]
 unfold z_;rw[e];rfl
def zM(n:Nat)(i:Int)(ds:List D)(d:D)(h:aq st n=some ds)(hi:uq ds i=some d):bz (.loc n) (.int i) st=.ok d st:=by
 simp[bz,h,hi]
def qb(i:Int)(ds:List D)(d:D)(hi:uq ds i=some d):bz (.tup ds) (.int i) st=.ok d st:=by
 simp[bz,hi]
@[simp] def Vb(b:Bool):yt [.bl b] st=.ok (.int (if b then 1 else 0)) st:=jD rfl
@[simp] def acL(i j:Int):sJ [.int i,.int j] st=.ok (.int (if j<i then j else i)) st:=jD rfl
def zi3(n:Nat)(ds:List D)(h:aq st n=some ds):uH [.loc n] st=.ok (.int ds.length) st:=by simp[uH,h]
@[simp] def U9:jF .non .non st=.ok (.bl true) st:=jD rfl
def ze8(n:Nat)(ds:List D)(h:aq st n=some ds):jQ [.loc n] st=.ok (.tup ds) st:=by simp[jQ,h]
end
end M
namespace L2
open PySem PySem.Spec PyProof.Rows
section
variable  {κ:Type}[DecidableEq κ]
noncomputable def lR(kvs:List (κ×V))(k:κ):Option V:=(kvs.find? λkv=>decide (kv.1=k)).map (·.2)
noncomputable def putK(kvs:List (κ×V))(k:κ)(v:V):List (κ×V) :=
 if (kvs.any λkv=>decide (kv.1=k))=true then kvs.map (λkv=>if kv.1=k then (kv.1,v) else kv) else kvs++[(k,v)]
def ZK{p:κ×V}{r:List (κ×V)}{k:κ}(e:p.1=k):lR (p::r) k=some p.2:=by simp[lR,mW,e]
def ZR{p:κ×V}{r:List (κ×V)}{k:κ}(e:¬ p.1=k):lR (p::r) k=lR r k:=by simp[lR,mW,e]
theorem zkw(k:κ):∀kvs:List (κ×V),(kvs.any λkv=>decide (kv.1=k))=(lR kvs k).isSome
 | []=>rfl
 | p::r=>by
  rw[my];by_cases e:p.1=k
  ·simp only[ZK e,afu e,Bool.true_or,Option.isSome_some]
  ·rw[ZR e,afd e,Bool.false_or];exact zkw k r
def zim(kvs:List (κ×V))(k:κ)(v:V):(putK kvs k v).length<=kvs.length+1:=by
 unfold putK
 split
 ·rw[gq];omega
 ·rw[gh,gC,n8];omega
def Je{kvs:List (κ×V)}{k:κ}(v:V)(h:lR kvs k=none):putK kvs k v=kvs++[(k,v)]:=by
 unfold putK;rw[zkw,h];exact ae_ (by decide)
def qK.uI(r:qK o u):o.isSome=u.isSome:=by
 cases o with
 | none=>cases u with
  | none=>rfl
  | some _=>exact (show False from r).elim
 | some _=>cases u with
  | none=>exact (show False from r).elim
  | some _=>rfl
def qK.getD(r:qK o u)(rd:RelV d d'):RelV (o.getD d) (u.getD d'):=by
 cases o with
 | none=>cases u with
  | none=>exact rd
  | some _=>exact (show False from r).elim
 | some _=>cases u with
  | none=>exact (show False from r).elim
  | some _=>exact r
def KV.val{kvs:List (κ×V)}{vs:List (κ×Value)}(r:KV kvs vs)(k:κ):qK (lR kvs k) (valueAt vs k):=by
 unfold KV at r
 induction r with
 | nil=>exact True.intro
 | @cons p q ps qs h t ih =>
  obtain⟨h1,h2⟩:=h;by_cases e:p.1=k
  ·have e':q.1=k:=h1.symm.trans e;have b:valueAt (q::qs) k=some q.2:=by simp[valueAt,mW,e']
   rw[ZK e,b];exact h2
  ·have e':¬ q.1=k:=λz=>e (h1.trans z);have b:valueAt (q::qs) k=valueAt qs k:=by simp[valueAt,mW,e']
   rw[ZR e,b];exact ih
def KV.any(r:KV kvs vs)(k:κ):(kvs.any λkv=>decide (kv.1=k))=vs.any λkv=>decide (kv.1=k):=by
 unfold KV at r
 induction r with
 | nil=>rfl
 | cons h t ih=>rw[my,my,ih,h.1]
def KV.repl(r:KV kvs vs)(k:κ)(ry:RelV y u) :
  KV (kvs.map λkv=>if kv.1=k then (kv.1,y) else kv) (vs.map λkv=>if kv.1=k then (kv.1,u) else kv):=by
 unfold KV at r ⊢
 induction r with
 | nil=>exact .nil
 | @cons p q ps qs h t ih =>
  rw[gB,gB];refine .cons ?_ ih;obtain⟨h1,h2⟩:=h;by_cases e:p.1=k
  ·rw[ae9 e,ae9 (h1.symm.trans e)];exact⟨h1,ry⟩
  ·rw[ae_ e,ae_ (λz=>e (h1.trans z))];exact⟨h1,h2⟩
def KV.put(r:KV kvs vs)(k:κ)(ry:RelV y u):KV (putK kvs k y) (stored vs k u):=by
 unfold putK stored;rw[r.any k];by_cases e:(vs.any λkv=>decide (kv.1=k))=true
 ·rw[ae9 e,ae9 e];exact r.repl k ry
 ·rw[ae_ e,ae_ e];exact Paired.snoc r ⟨rfl,ry⟩
def KV.length(r:KV kvs vs):kvs.length=vs.length:=afo r
end
def xM(r:RelV (kV k) u):(bU P w).is k u=true:=by
 cases k with
 | inl i=>obtain⟨t,e⟩:=(show ∃t,u=Value.int i t from r);subst e;exact znc P w i t
 | inr x=>obtain⟨t,e⟩:=(show ∃t,u=Value.str x t from r);subst e;exact zm6 P w x t
theorem zl7:∀{ks:List Key} {us:List Value},Vals (ks.map kV) us->ItemsAre (bU P w) ks us
 | [],_,r=>by rw[mU]at r;cases r;exact .nil
 | k::ks,_,r=>by
  rw[gB]at r;cases r with
  | cons h t=>exact .cons (xM h) (zl7 t)
abbrev KT(H:Hp):List (List Key×V)->List (List Key×Addr×Value)->Prop:=Paired λp q=>p.1=q.1/\H q.2.1=some (.tup (p.1.map kV))/\RelV p.2 q.2.2
def KT.val{H:Hp}{kvs:List (List Key×V)}{xs:List (List Key×Addr×Value)}(r:KT H kvs xs)(k:List Key):qK (lR kvs k) ((atKey xs k).map (·.2)):=by
 induction r with
 | nil=>exact True.intro
 | @cons p q ps qs h t ih =>
  obtain⟨h1,_,h2⟩:=h;by_cases e:p.1=k
  ·have e':q.1=k:=h1.symm.trans e;have b:atKey (q::qs) k=some q.2:=by simp[atKey,mW,e']
   rw[ZK e,b];exact h2
  ·have e':¬ q.1=k:=λz=>e (h1.trans z);have b:atKey (q::qs) k=atKey qs k:=by simp[atKey,mW,e']
   rw[ZR e,b];exact ih
def KT.repl(r:KT H kvs xs)(k:List Key)(ry:RelV y u) :
  KT H (kvs.map λkv=>if kv.1=k then (kv.1,y) else kv) (xs.map (putAt k u)):=by
 induction r with
 | nil=>exact .nil
 | @cons p q ps qs h t ih =>
  rw[gB,gB];refine .cons ?_ ih;obtain⟨h1,h2,h3⟩:=h;unfold putAt;by_cases e:p.1=k
  ·rw[ae9 e,ae9 (h1.symm.trans e)];exact⟨h1,h2,ry⟩
  ·rw[ae_ e,ae_ (λz=>e (h1.trans z))];exact⟨h1,h2,h3⟩
def KT.put(r:KT H kvs xs)(k:List Key)(hb:H b=some (.tup (k.map kV)))(ry:RelV y u) :
  KT H (putK kvs k y) (storedH xs k b u):=by
 have e:(kvs.any λkv=>decide (kv.1=k))=(atKey xs k).isSome:=by
  rw[zkw,(r.val k).uI,Option.isSome_map]
 unfold putK storedH;rw[e];by_cases q:(atKey xs k).isSome=true
 ·rw[ae9 q,ae9 q];exact r.repl k ry
 ·rw[ae_ q,ae_ q];exact Paired.snoc r ⟨rfl,hb,ry⟩
def KT.keeps(r:KT H kvs xs)(ht:∀b ys,H b=some (.tup ys)->H' b=some (.tup ys)):KT H' kvs xs :=
 Paired.VN r λ_ _ z=>⟨z.1,ht _ _ z.2.1,z.2.2⟩
section
variable  {P:Program}{w:World}{H:Hp}{h:Heap}{a:Addr}
def RB(ok:qL P w H h)(e:Rd H a u):cH P w H h a u:=e.ok ok
def wj(ok:qL P w H h)(e:Rd H a (.dK kvs)):kvs.length<=sizeLine/\(a==sysModules)=false/\∃vs,KV kvs vs/\h.DictOf (bU P w) a vs :=
 show cH P w H h a (.dK kvs) from RB ok e
def abG(ok:qL P w H h)(e:H a=some (.dK kvs)):kvs.length<=sizeLine/\(a==sysModules)=false/\∃vs,KV kvs vs/\h.DictOf (bU P w) a vs:=wj ok (.inl e)
def Tt(ok:qL P w H h)(e:H a=some (.tup (ks.map kV))):(tupleKind (bU P w)).is h ks a:=by
 obtain⟨_,its,r,o,h1,h2,n,h3⟩:=(show cH P w H h a (.tup (ks.map kV)) from ok a _ e);exact⟨o,its.toArray,n,h1,h2,h3,by simpa using zl7 r⟩
def xU(ok:qL P w H h)(e:Rd H a (.dT kvs)):kvs.length<=sizeLine/\(a==sysModules)=false /\
  ∃xs,KT H kvs xs/\h.DictOfH (tupleKind (bU P w)) a xs:=by
 obtain⟨z,y,xs,r,o,es,ep,h1,h2,h3,h4,h5⟩:=(show cH P w H h a (.dT kvs) from RB ok e);refine⟨z,y,xs,r,o,es,ep,h1,h2,h3,h4,λx hx=>?_,h5⟩;have all:∀{l:List (List Key×V)} {m:List (List Key×Addr×Value)},KT H l m->∀x∈m,(tupleKind (bU P w)).is h x.1 x.2.1:=by
  intro l m q
  induction q with
  | nil=>intro x hx;exact nomatch hx
  | @cons p q ps qs hq t ih =>
   intro x hx;rcases gj.mp hx with e | hx
   ·subst e;exact Tt ok (by rw[<-hq.1];exact hq.2.1)
   ·exact ih x hx
 exact all r x hx
def Tc(ok:qL P w H h)(e:H a=some (.dT kvs)):kvs.length<=sizeLine/\(a==sysModules)=false /\
  ∃xs,KT H kvs xs/\h.DictOfH (tupleKind (bU P w)) a xs:=xU ok (.inl e)
end
def sI(H:Hp)(a:Addr)(y:V)(r:Option V):Prop :=
 (∃kvs k,Rd H a (.dK kvs)/\y=kV k/\r=lR kvs k)\/∃kvs k b,Rd H a (.dT kvs)/\y=.ref b/\H b=some (.tup (k.map kV))/\r=lR kvs k
def Bg(H:Hp)(a:Addr)(y v:V)(H':Hp):Prop :=
 (∃kvs k,H a=some (.dK kvs)/\y=kV k/\kvs.length<sizeLine/\H'=upd H a (.dK (putK kvs k v))) \/
 ∃kvs k b,H a=some (.dT kvs)/\y=.ref b/\H b=some (.tup (k.map kV))/\kvs.length<sizeLine/\H'=upd H a (.dT (putK kvs k v))
def sI.k{H:Hp}{a:Addr}{kvs:List (Key×V)}{k:Key}(e:H a=some (.dK kvs)):sI H a (kV k) (lR kvs k):=.inl ⟨kvs,k,.inl e,rfl,rfl⟩
def sI.t{H:Hp}{a b:Addr}{kvs:List (List Key×V)}{k:List Key}(e:H a=some (.dT kvs))(eb:H b=some (.tup (k.map kV))):sI H a (.ref b) (lR kvs k):=.inr ⟨kvs,k,b,.inl e,rfl,eb,rfl⟩
def Bg.k{H:Hp}{a:Addr}{kvs:List (Key×V)}{k:Key}{v:V}(e:H a=some (.dK kvs))(hl:kvs.length<sizeLine):Bg H a (kV k) v (upd H a (.dK (putK kvs k v))):=.inl ⟨kvs,k,e,rfl,hl,rfl⟩
def Bg.t{H:Hp}{a b:Addr}{kvs:List (List Key×V)}{k:List Key}{v:V}(e:H a=some (.dT kvs))(eb:H b=some (.tup (k.map kV)))(hl:kvs.length<sizeLine) :
  Bg H a (.ref b) v (upd H a (.dT (putK kvs k v))):=.inr ⟨kvs,k,b,e,rfl,eb,hl,rfl⟩
section
variable  {X:Cx}{pins:List (Addr×Obj)}{σ:St}{H:Hp}{s:Shared}{a:Addr}{y v:V}{u r:Value}{o:Option V}{A:Around}{E:Value->Shared->Prop}
def Inv.big(I:Inv X pins σ H s):sysModules<s.heap.objs.size:=by
 have h:mainGlobals<s.heap.objs.size:=(I.mod.glob.keeps I.bk).lt;exact Nat.lt_trans (by decide) h
def Gz(hu:A.units+1<cLine)(I:Inv X pins σ H s)(g:sI H a y (some v))(ry:RelV y u)(h:∀w' s',Inv X pins σ H s'->RelV v w'->Q w' s') :
  wpAny (model X.prog X.w) A (getItem (.ref a) u) Q E s:=by
 rcases g with⟨kvs,k,e,ey,l⟩ | ⟨kvs,k,b,e,ey,eb,l⟩
 ·subst ey;obtain⟨z,hd,vs,rel,dd⟩:=wj I.cz e;obtain⟨w',hw,z8⟩:=qK.some_of (v:=v) (o:=valueAt vs k) (by rw[l];exact rel.val k);exact wpAny_getItem_of (xM ry) dd.mapOf hw (h w' _ (I.tok _) z8)
 ·subst ey;cases (show u=Value.ref b from ry);obtain⟨z,hd,xs,rel,dd⟩:=xU I.cz e;obtain⟨w',hw,z8⟩:=qK.some_of (v:=v) (o:=(atKey xs k).map (·.2)) (by rw[l];exact rel.val k);obtain⟨p,hp,dY⟩:=gO.mp hw;refine wpAny_getItem_heap (afA hu) (Tt I.cz eb) dd hp ?_;rw[dY];exact h w' _ (I.tok _) z8
def QM(hu:A.units+1<cLine)(I:Inv X pins σ H s)(g:sI H a y o)(ry:RelV y u)(h:∀s',Inv X pins σ H s'->Q (.bool (!o.isSome)) s') :
  wpAny (model X.prog X.w) A (compareOp .NotIn u (.ref a)) Q E s:=by
 rcases g with⟨kvs,k,e,ey,l⟩ | ⟨kvs,k,b,e,ey,eb,l⟩
 ·subst ey;obtain⟨z,hd,vs,rel,dd⟩:=wj I.cz e;refine wpAny_notIn_of (xM ry) hd dd.mapOf ?_;rw[<-(rel.val k).uI,<-l];exact h _ (I.tok _)
 ·subst ey;cases (show u=Value.ref b from ry);obtain⟨z,hd,xs,rel,dd⟩:=xU I.cz e;refine wpAny_notIn_heap (afA hu) (Tt I.cz eb) hd dd ?_;have q:=(rel.val k).uI;rw[Option.isSome_map]at q;rw[<-q,<-l];exact h _ (I.tok _)
def zot(I:Inv X pins σ H s)(mu:Mut (H a))(hs:Heap.SameBut a s.heap h')(he:∃q,h'.get? a=some q)(new:cH X.prog X.w (upd H a ob) h' a ob) :
  Inv X pins σ (upd H a ob) { s with heap:=h',toks:=t' } :=
 I.write (x:=a) (e:=a) mu (.inl rfl) (λb q hb z=>(hs.2 b hb).trans z) he new
def Xn(z:kvs.length<=sizeLine)(hd:(a==sysModules)=false)(rel:KV kvs vs)(dd:h'.DictOf (bU P w) a vs) :
  cH P w H' h' a (.dK kvs):=⟨z,hd,vs,rel,dd⟩
def zmw(hu:A.units+1<cLine)(I:Inv X pins σ H s)(g:Bg H a y v H')(ry:RelV y u)(rv:RelV v r)(h:∀s',Inv X pins σ H' s'->Q () s') :
  wpAny (model X.prog X.w) A (setItem (.ref a) u r) Q E s:=by
 rcases g with⟨kvs,k,e,ey,l,eH⟩ | ⟨kvs,k,b,e,ey,eb,l,eH⟩
 ·subst ey eH;obtain⟨z,hd,vs,rel,dd⟩:=abG I.cz e;have hz:vs.length<=sizeLine:=by rw[<-rel.length];exact z
  have hl:(putK kvs k v).length<=sizeLine:=by have:=zim kvs k v;omega
  refine wpAny_setItem_pairs (hsz:=hz) (xM ry) dd λh' Zg hs=>h _ ?_;have he:∃q,h'.get? a=some q:=let ⟨q,_,_,hq,_⟩:=Zg;⟨q,hq⟩;exact zot I (by rw[e];exact True.intro) hs he (Xn hl hd (rel.put k rv) Zg)
 ·subst ey eH;cases (show u=Value.ref b from ry);obtain⟨z,hd,xs,rel,dd⟩:=Tc I.cz e;have hz:xs.length<=sizeLine:=by rw[<-afo rel];exact z
  have hl:(putK kvs k v).length<=sizeLine:=by have:=zim kvs k v;omega
  refine wpAny_setItem_heap (hsz:=hz) (afA hu) (Tt I.cz eb) dd λh' Zg hs=>h _ ?_;obtain⟨q,es,ep,hq,h2,h3,h4,_,h5⟩:=Zg;refine zot I (by rw[e];exact True.intro) hs ⟨q,hq⟩ ⟨hl,hd,_,(rel.put k eb rv).keeps λc ys ec=>?_,q,es,ep,hq,h2,h3,h4,h5⟩;rw[iD (RM ec e (λz=>nomatch z))];exact ec
end
section
variable  {X:Cx}{pins:List (Addr×Obj)}{σ:St}{H:Hp}{s:Shared}{a:Addr}{kvs:List (Key×V)}{k:Key}{u:Value}{A:Around}{E:Value->Shared->Prop}
def abI(I:Inv X pins σ H s)(e:Rd H a (.dK kvs))(h:∀t s',Inv X pins σ H s'->Q (.int kvs.length t) s'):wpAny (model X.prog X.w) A (call (.builtin "len") [.ref a]) Q E s:=by
 obtain⟨z,hd,vs,rel,dd⟩:=wj I.cz e;refine call_len_dict hd dd (by rw[<-rel.length];rw[sizeLine_eq]at z;omega) ?_;rw[<-rel.length];exact h _ _ (I.tok _)
end
def Q9(i:Expr):Prop:=∀ov iv,subscripted i false ov iv=operate [ov,iv] (getItem ov iv)
def N5{prog:Program}{w:World}{A:Around}{E:Value->Shared->Prop}{s:Shared}{env:Env}{value slice:Expr}{pos:Pos}{T id:String}{Q:Value->Shared->Prop}
  (hl:typeLookup (.type T) "__getitem__" = pure (some (.builtin id))) (hs:Q9 slice)
  (h:wpAny (model prog w) A (eval value env) (λo aeX=>wpAny (model prog w) A (eval slice env) (λi aeW=>aeW.TypeIs o T/\wpAny (model prog w) A (getItem o i) Q E aeW) E aeX) E s) :
  wpAny (model prog w) A (eval (.Subscript value slice pos) env) Q E s:=by
 refine Subscript_ (afr h (λo aeX ae5=>afr ae5 (λi aeW ae4=>?_) λ_ _ x=>x) λ_ _ x=>x);obtain⟨hT,ae4⟩:=ae4;unfold subscriptTail;refine ae7 ?_;rw[getitemInPython_of_ne hT.not_modules];refine ae7 (wpAny_specialOf hT hl ?_);have fin:wpAny (model prog w) A (subscripted slice false o i) (λr aeV=>wpAny (model prog w) A (letTemporaryGo value o r >>= λ_=>pure r) Q E aeV) E aeW:=by
  rw[hs o i];exact wpAny_operating (afr ae4 (λr aeV ae3=>ae7 (wpAny_letTemporaryGo (ae8 ae3))) λ_ _ x=>x)
 first
  | exact ae8 (ae7 fin)
  | exact ae7 (ae8 (ae7 fin))
  | exact ae7 fin
def znf(I:Inv X pins σ H s)(g:sI H a y o):s.TypeIs (.ref a) "dict":=by
 rcases g with⟨kvs,k,e,_,_⟩ | ⟨kvs,k,b,e,_,_,_⟩
 ·obtain⟨_,_,vs,_,dd⟩:=wj I.cz e;exact dd.typeIs
 ·obtain⟨_,_,xs,_,dd⟩:=xU I.cz e;exact dd.typeIs
noncomputable def aao(td ty:TE):TE:=fun σ H Q=>td σ H λx H1=>ty σ H1 λy H2=>∃a v,x=.ref a/\sI H2 a y (some v)/\Q v H2
section
variable  {X:Cx}{o i e value:Expr}{pos pos' Ed:Pos}{td ty tv:TE}
def Cj(hu:X.A.units+1<cLine)(ho:PE X o td)(hi:PE X i ty)(hs:Q9 i):PE X (.Subscript o i pos) (aao td ty):=by
 intro pins s σ H Q I h;refine N5 PySem.F.slot_dict_getitem.lookup hs (dO (ho pins s σ H _ I h) λu s1 zz=>?_);obtain⟨x,H1,I1,rx,q1⟩:=zz;refine dO (hi pins s1 σ H1 _ I1 q1) λiv s2 zz=>?_;obtain⟨y,H2,I2,ry,a,v,ex,g,q2⟩:=zz;subst ex;obtain rfl:u=Value.ref a:=rx;exact⟨znf I2 g,Gz hu I2 g ry λw' s3 I3 z8=>⟨v,H2,I3,z8,q2⟩⟩
end
def Lq(h:Heap)(hb:sysModules<h.objs.size):cH P w H (h.push { cls:=.type "dict",data:=.dict #[] }) h.objs.size (.dK []) :=
 ⟨mZ _,beq_eq_false_iff_ne.mpr (afv (gU hb)),[],.nil,Heap.DictOf.new h⟩
def Ln(h:Heap)(hb:sysModules<h.objs.size):cH P w H (h.push { cls:=.type "dict",data:=.dict #[] }) h.objs.size (.dT []) :=
 ⟨mZ _,beq_eq_false_iff_ne.mpr (afv (gU hb)),[],.nil,_,#[],0,h_ _ rfl,⟨rfl,rfl,rfl⟩,rfl,rfl,List.nodup_nil⟩
noncomputable def UG:TE:=λ_ H Q=>∀p,H p=none->Q (.ref p) (upd H p (.dK []))
noncomputable def Uz:TE:=λ_ H Q=>∀p,H p=none->Q (.ref p) (upd H p (.dT []))
section
variable  {X:Cx}{pos:Pos}
def Js:PE X (.Dict [] [] pos) UG:=λpins s σ H Q I h =>
 wpAny_Dict_empty ⟨.ref s.heap.objs.size,_,I.laid (a:=s.heap.objs.size) (o:=.dK []) (t':=s.toks) (λ_ _ q=>gJ _ q) (gf _) (Lq s.heap I.big),rfl,h _ (I.cz.fresh (gf _))⟩
def Jr:PE X (.Dict [] [] pos) Uz:=λpins s σ H Q I h =>
 wpAny_Dict_empty ⟨.ref s.heap.objs.size,_,I.laid (a:=s.heap.objs.size) (o:=.dT []) (t':=s.toks) (λ_ _ q=>gJ _ q) (gf _) (Ln s.heap I.big),rfl,h _ (I.cz.fresh (gf _))⟩
end
structure M1(X:Cx)(o:Expr)(m:Str)(apos:Pos)(e:Expr)(fW:Pos):Prop where
 base:attributeBase o m X.env (eval o X.env)=eval o X.env
 few:((backTo fW (starEach [e] X.env)).all (λx=>!x.1) && (backToKw fW (keywordEach [] X.env)).all (λx=>x.1.isSome)
  && decide (([e]:List Expr).length+([]:List Keyword).length+(if ([]:List Keyword).isEmpty then 0 else 1)<30))=true
 line:(apos.endLine==fW.line)=true
 trees:backTo fW (starEach [e] X.env)=[(false,eval e X.env)]
structure M2(X:Cx)(o:Expr)(m:Str)(apos:Pos)(e f:Expr)(fW:Pos):Prop where
 base:attributeBase o m X.env (eval o X.env)=eval o X.env
 few:((backTo fW (starEach [e,f] X.env)).all (λx=>!x.1) && (backToKw fW (keywordEach [] X.env)).all (λx=>x.1.isSome)
  && decide (([e,f]:List Expr).length+([]:List Keyword).length+(if ([]:List Keyword).isEmpty then 0 else 1)<30))=true
 line:(apos.endLine==fW.line)=true
 trees:backTo fW (starEach [e,f] X.env)=[(false,eval e X.env),(false,eval f X.env)]
section
variable  {X:Cx}{pins:List (Addr×Obj)}{σ:St}{H:Hp}{s:Shared}{a:Addr}{y d:V}{u r:Value}{o:Option V}{A:Around}{E:Value->Shared->Prop}
def Xr(hu:A.units+1<cLine)(I:Inv X pins σ H s)(g:sI H a y o)(ry:RelV y u)(h:∀w' s',Inv X pins σ H s'->RelV (o.getD .non) w'->Q w' s') :
  wpAny (model X.prog X.w) A (call (.builtin "dict.get") [.ref a,u]) Q E s:=by
 rcases g with⟨kvs,k,e,ey,l⟩ | ⟨kvs,k,b,e,ey,eb,l⟩
 ·subst ey;obtain⟨z,hd,vs,rel,dd⟩:=wj I.cz e;refine afQ afk dd.typeIs afI (PySem.F.args_dict_get_2 _ _) (meets_dict_get (bU X.prog X.w) a (xM ry) hd) ⟨_,dd.mapOf,h _ _ (I.tok _) ?_⟩;rw[l];exact (rel.val k).getD rfl
 ·subst ey;cases (show u=Value.ref b from ry);obtain⟨z,hd,xs,rel,dd⟩:=xU I.cz e;refine afQ afk dd.typeIs afI (PySem.F.args_dict_get_2 _ _) (meetsH_dict_get (tupleKind (bU X.prog X.w)) a b hd) ⟨afA hu,k,xs,Tt I.cz eb,dd,h _ _ (I.tok _) ?_⟩;rw[l];exact (rel.val k).getD rfl
def Xq(hu:A.units+1<cLine)(I:Inv X pins σ H s)(g:sI H a y o)(ry:RelV y u)(rd:RelV d r)(h:∀w' s',Inv X pins σ H s'->RelV (o.getD d) w'->Q w' s') :
  wpAny (model X.prog X.w) A (call (.builtin "dict.get") [.ref a,u,r]) Q E s:=by
 rcases g with⟨kvs,k,e,ey,l⟩ | ⟨kvs,k,b,e,ey,eb,l⟩
 ·subst ey;obtain⟨z,hd,vs,rel,dd⟩:=wj I.cz e;refine afQ afk dd.typeIs afI (PySem.F.args_dict_get_3 _ _ _) (meets_dict_get_default (bU X.prog X.w) a (xM ry) hd r) ⟨_,dd.mapOf,h _ _ (I.tok _) ?_⟩;rw[l];exact (rel.val k).getD rd
 ·subst ey;cases (show u=Value.ref b from ry);obtain⟨z,hd,xs,rel,dd⟩:=xU I.cz e;refine afQ afk dd.typeIs afI (PySem.F.args_dict_get_3 _ _ _) (meetsH_dict_get_default (tupleKind (bU X.prog X.w)) a b hd r) ⟨afA hu,k,xs,Tt I.cz eb,dd,h _ _ (I.tok _) ?_⟩;rw[l];exact (rel.val k).getD rd
end
section
variable  {X:Cx}{o e f:Expr}{apos fW:Pos}{td ty tx:TE}
end
section
variable  {X:Cx}{pins:List (Addr×Obj)}{σ:St}{H:Hp}{s:Shared}{a:Addr}{kvs:List (Key×V)}{A:Around}{E:Value->Shared->Prop}
end
section
variable  {X:Cx}{pins:List (Addr×Obj)}{σ:St}{H:Hp}{s:Shared}{a:Addr}{y:V}{u:Value}{A:Around}{E:Value->Shared->Prop}
end
def zf2{prog:Program}{w:World}{κ:Type}[DecidableEq κ]{knd:HeapKind prog w κ}{A:Around}{E:Value->Shared->Prop}{s:Shared}{d a:Addr}{xs:List (κ×Addr×Value)}{k:κ}{dflt:Value}{Q:Value->Shared->Prop}
  (hr:knd.room A) (hk:knd.is s.heap k a) (hd:s.heap.DictOfH knd d xs) (hz:xs.length<=sizeLine)
  (h1:∀p,atKey xs k=some p->Q p.2 { s with toks:=s.toks+knd.draws k })
  (h2:atKey xs k=none->∀h':Heap,h'.DictOfH knd d (xs++[(k,a,dflt)])->Heap.SameBut d s.heap h'->Q dflt { s with heap:=h',toks:=s.toks+knd.draws k }) :
  wpAny (model prog w) A (dictSetDefault d (.ref a) dflt) Q E s:=by
 obtain⟨o,es,ep,ho,hx,hdt,hes,his,xQ⟩:=hd;unfold dictSetDefault;refine afi (ae7 (knd.pyHash hr hk (ae7 ?_)));refine wpAny_dictFind_heap (s:={ s with toks:=s.toks+knd.draws k }) (o:=o) (es:=es) (ep:=ep) (xs:=xs) hr hk ho hdt hes his xQ (λHn=>?_) (λj p hj=>?_)
 ·have hn:atKey xs k=none:=by
   unfold atKey;rw[pJ,pK];intro x hx' hxk;obtain⟨j,hj,e⟩:=List.mem_iff_getElem.mp hx';refine Hn j x.2 ?_;rw[kj hj,e];have:=of_decide_eq_true hxk;rw[<-this]
  refine ae7 (wpAny_rule (ae7 (wpAny_updateDictKeys (s:={ s with toks:=s.toks+knd.draws k }) ho hdt (ae8 ?_) ?_ ?_)))
  ·obtain⟨cls,dct,dat,sl⟩:=o;obtain rfl:dat=Data.dict es ep:=hdt;have YZ:Heap.SameBut d s.heap (s.heap.update d (Obj.mapDictKeys λx=>x.push { hash:=knd.hash k,key:=.ref a,val:=dflt })):=Heap.SameBut.update _ _ _;refine h2 hn _ ⟨_,es.push { hash:=knd.hash k,key:=.ref a,val:=dflt },ep+1,nq _ ho rfl,hx,rfl,?_,?_,?_⟩ YZ
   ·rw[Array.toList_push,hes,gZ];rfl
   ·intro x hx';rcases gm.mp hx' with q | q
    ·exact knd.keeps (his x q) ho rfl YZ
    ·obtain rfl:x=(k,a,dflt):=by simpa using q
     exact knd.keeps hk ho rfl YZ
   ·rw[gZ];refine nR.mpr ⟨xQ,by simp,?_⟩;rintro y hy z hz' rfl;have hz2:y=k:=by simpa using hz'
    subst hz2;obtain⟨x,YX,rfl⟩:=g8.mp hy;obtain⟨j,hj,e⟩:=List.mem_iff_getElem.mp YX;exact Hn j x.2 (by rw[kj hj,e])
  ·have:es.size=xs.length:=by rw[<-mO,hes,gq]
   omega
  ·rw[Array.size_push];omega
 ·refine ae7 (afK (s:={ s with toks:=s.toks+knd.draws k }) ho hdt ?_);have e1:es[j]? = some (entryOfKey knd (k,p)):=by
   rw[<-Array.getElem?_toList,hes,gH,hj];rfl
  rw[e1];refine ae7 (wpAny_rule (ae8 ?_));exact h1 p (atKey_of_get xQ hj)
def zg4{prog:Program}{w:World}{κ:Type}[DecidableEq κ](knd:HeapKind prog w κ)(d b:Addr)(v:Value)(hd:(d==sysModules)=false) :
  MeetsIn prog w (Builtin.«dict.setdefault» { pos:=[.ref d,.ref b,v] }) λA R s=>knd.room A.in1/\∃k xs,knd.is s.heap k b/\s.heap.DictOfH knd d xs/\xs.length<=sizeLine /\
   (∀p,atKey xs k=some p->R (.ok (.ret p.2)) { s with toks:=s.toks+knd.draws k }) /\
   (atKey xs k=none->∀h':Heap,h'.DictOfH knd d (xs++[(k,b,v)])->Heap.SameBut d s.heap h'->R (.ok (.ret v)) { s with heap:=h',toks:=s.toks+knd.draws k }):=by
 rintro A R s ⟨hr,k,xs,hk,dd,hz,h1,h2⟩;unfold Builtin.«dict.setdefault»;refine ae7 ?_;unfold Builtin.Dict.keyAndDefault;refine ae7 ?_;unfold Builtin.Dict.notOrdered;rw[ae9 (by decide)];refine ae7 (wpAny_typeOf dd.typeIs ?_);rw[ae_ (by decide)];refine ae8 (ae7 ?_);refine ae8 (ae7 ?_);refine ae7 (ae8 (ae7 ?_));refine ae8 (ae8 ?_);refine ae7 (ae8 (ae8 ?_));dsimp only;rw[ae_ (by rw[hd];decide)];refine ae7 (zf2 hr hk dd hz (λp e=>ae8 (h1 p e)) λe h' q1 q2=>ae8 (h2 e h' q1 q2))
section
variable  {X:Cx}{pins:List (Addr×Obj)}{σ:St}{H:Hp}{s:Shared}{a b:Addr}{v:V}{u r:Value}{A:Around}{E:Value->Shared->Prop}{kvs:List (List Key×V)}{k:List Key}
def Ls(hu:A.units+1<cLine)(I:Inv X pins σ H s)(e:H a=some (.dT kvs))(eb:H b=some (.tup (k.map kV)))(rv:RelV v r)(hl:kvs.length<sizeLine) 
  (h1:∀x w' s',lR kvs k=some x->RelV x w'->Inv X pins σ H s'->Q w' s')
  (h2:lR kvs k=none->∀s',Inv X pins σ (upd H a (.dT (kvs++[(k,v)]))) s'->Q r s') :
  wpAny (model X.prog X.w) A (call (.builtin "dict.setdefault") [.ref a,.ref b,r]) Q E s:=by
 obtain⟨z,hd,xs,rel,dd⟩:=Tc I.cz e;have hz:xs.length<=sizeLine:=by rw[<-afo rel];exact z
 refine afQ PySem.F.slot_dict_setdefault dd.typeIs PySem.F.entry_dict_setdefault (PySem.F.args_dict_setdefault_3 _ _ _) (zg4 (tupleKind (bU X.prog X.w)) a b r hd) ⟨afA hu,k,xs,Tt I.cz eb,dd,hz,λp ep=>?_,λen h' Zg hs=>?_⟩
 ·have q:=rel.val k;rw[ep]at q;cases q2:lR kvs k with
  | none=>rw[q2]at q;exact q.elim
  | some x=>rw[q2]at q;exact h1 x _ _ q2 q (I.tok _)
 ·have q:=rel.val k;rw[en]at q;have q2:lR kvs k=none:=by
   cases q2:lR kvs k with
   | none=>rfl
   | some x=>rw[q2]at q;exact q.elim
  refine h2 q2 _ ?_;obtain⟨ob,es,ep,hq,h2,h3,h4,_,h5⟩:=Zg;have Hm:storedH xs k b r=xs++[(k,b,r)]:=by unfold storedH;rw[en];rfl
  have hp:=rel.put k eb rv;rw[Je v q2,Hm]at hp;refine zot I (by rw[e];exact True.intro) hs ⟨ob,hq⟩ ⟨by rw[gh];exact hl,hd,_,hp.keeps λc ys ec=>?_,ob,es,ep,hq,h2,h3,h4,h5⟩;rw[iD (RM ec e (λz=>nomatch z))];exact ec
end
end L2
namespace M
open PySem PySem.Spec L2
noncomputable def keyOf:D->Option Key
 | .int i=>some (.inl i)
 | .str cs=>some (.inr (strOf cs))
 | _=>none
noncomputable def keysOf:List D->Option (List Key)
 | []=>some []
 | d::ds=>(keyOf d).bind λk=>(keysOf ds).map λks=>k::ks
noncomputable def iJ(kvs:List (List Key×D))(k:List Key):Option D:=(kvs.find? λkv=>decide (kv.1=k)).map (·.2)
@[simp] def ZZ(i:Int):keyOf (.int i)=some (.inl i):=jD rfl
@[simp] def YG(cs:List Nat):keyOf (.str cs)=some (.inr (strOf cs)):=jD rfl
@[simp] def zpq:keysOf []=some []:=jD rfl
@[simp] def ziq(d:D)(ds:List D):keysOf (d::ds)=(keyOf d).bind λk=>(keysOf ds).map λks=>k::ks:=jD rfl
@[simp] def HF(k:List Key):iJ [] k=none:=jD rfl
def Hj(p:List Key×D)(r:List (List Key×D))(k:List Key):iJ (p::r) k=if p.1=k then some p.2 else iJ r k:=by
 unfold iJ;rw[mW];by_cases h:p.1=k
 ·simp[h]
 ·simp[h]
def zme(kvs:List (List Key×D))(k j:List Key)(y:D)(h:iJ kvs k=none):iJ (kvs++[(k,y)]) j=if k=j then some y else iJ kvs j:=by
 induction kvs with
 | nil=>rw[k_,Hj]
 | cons p r ih =>
  rw[Hj]at h
  split at h
  ·cases h
  ·rename_i hn;rw[kJ,Hj,Hj,ih h];by_cases e:p.1=j
   ·rw[ae9 e,ae9 e,ae_ (λz=>hn (e.trans z.symm))]
   ·rw[ae_ e,ae_ e]
theorem ao.keys:∀{ds:List D} {xs:List V} {ks:List Key},ao K μ H ds xs->keysOf ds=some ks->xs=ks.map kV
 | [],xs,ks,h,e=>by
  rw[ao]at h;rw[zpq]at e;cases e;exact h
 | d::ds,xs,ks,h,e=>by
  rw[ao]at h;obtain⟨v,r,rfl,h1,h2⟩:=h;rw[ziq]at e;cases e1:keyOf d with
  | none=>rw[e1]at e;cases e
  | some k1 =>
   rw[e1]at e;cases e2:keysOf ds with
   | none=>rw[e2]at e;cases e
   | some cQ =>
    rw[e2]at e;cases e;rw[ao.keys h2 e2];have:v=kV k1:=by
     cases d with
     | int i=>rw[ak.aP]at h1;cases e1;exact h1
     | str cs=>rw[ak.aY]at h1;cases e1;exact h1
     | _=>cases e1
    rw[this];rfl
theorem zh2:∀{ds:List D} {ks:List Key},keysOf ds=some ks->xK ds=false
 | [],_,_=>rfl
 | d::ds,ks,e=>by
  rw[ziq]at e;cases e1:keyOf d with
  | none=>rw[e1]at e;cases e
  | some k1 =>
   rw[e1]at e;cases e2:keysOf ds with
   | none=>rw[e2]at e;cases e
   | some cQ =>
    have ih:=zh2 e2;cases d with
    | int i=>rw[xK];exact ih
    | str cs=>rw[xK];exact ih
    | _=>cases e1
def zF.made(h:zF K H a xs ds)(e:keysOf ds=some ks):H a=some (.tup xs):=by
 rcases h with h | ⟨h,_⟩
 ·exact h
 ·rw[zh2 e]at h;cases h
theorem aN.val:∀{kvs:List (List Key×D)} {ws:List (List Key×V)},aN K μ H kvs ws ->
  (iJ kvs k=none/\lR ws k=none)\/∃d v,iJ kvs k=some d/\lR ws k=some v/\ak K μ H d v
 | [],ws,h=>.inl ⟨rfl,by rw[aN]at h;rw[h];rfl⟩
 | (j,d)::r,ws,h=>by
  obtain⟨v,r',rfl,h1,h2⟩:=h;rw[Hj];by_cases e:j=k
  ·rw[ae9 e];exact .inr ⟨d,v,rfl,ZK (p:=(j,v)) e,h1⟩
  ·rw[ae_ e,ZR (p:=(j,v)) e];exact aN.val h2
theorem aN.snoc:∀{kvs:List (List Key×D)} {ws:List (List Key×V)},aN K μ H kvs ws->ak K μ H d v->aN K μ H (kvs++[(k,d)]) (ws++[(k,v)])
 | [],ws,h,hv=>by rw[aN]at h;subst h;exact⟨v,[],rfl,hv,rfl⟩
 | (j,d')::r,ws,h,hv=>by
  obtain⟨v',r',rfl,h1,h2⟩:=h;exact⟨v',r'++[(k,v)],rfl,h1,aN.snoc h2 hv⟩
theorem aN.len:∀{kvs:List (κ×D)} {ws:List (κ×V)},aN K μ H kvs ws->kvs.length=ws.length
 | [],ws,h=>by rw[aN]at h;rw[h];rfl
 | (j,d)::r,ws,h=>by
  obtain⟨v,r',rfl,h1,h2⟩:=h;rw[gC,gC,aN.len h2]
def aV.dic{K:PySem.W.Frag}{μ:List Addr}{H:Hp}{st:au}{n:Nat}{kvs:List (List Key×D)}(h:aV K μ H st)(e:st[n]? = some (.dic kvs)):∃p ws,μ[n]? = some p/\H p=some (.dT ws)/\aN K μ H kvs ws:=by
 obtain⟨p,h1,xs,h2,h3⟩:=h.at_ n _ e;exact⟨p,xs,h1,h2,h3⟩
section
variable  {X:Cx}{e a b c o:Expr}{es:List Expr}{ma mb mc mo:ME}{mA:MA}{pos p2 p apos fW:Pos}
noncomputable def wu:ME:=λ_ st=>.ok (.loc st.length) (st++[.dic []])
def ZD:JE X (.Dict [] [] pos) wu:=by
 refine JE.of Jr fun σ H Q zz=>?_;obtain⟨μ,env,st,hE,hs,hp⟩:=zz;refine λp hn=>?_;have hr:jW X.K (μ++[p]) (upd H p (.dT [])) p (.dic []):=⟨[],rQ,rfl⟩;exact hp _ _ (μ++[p]) (bD.new hn) (hs.new hn hr) (ak.aL.mpr ⟨p,by rw[<-hs.len];simp,rfl⟩)
noncomputable def zx:D->List D->au->R D
 | .loc n,[.tup ks],st=>match st[n]?,keysOf ks with
  | some (.dic kvs),some k=>.ok ((iJ kvs k).getD .non) st
  | _,_=>.bad
 | _,_,_=>.bad
def PK(hu:X.A.units+1<cLine):xx X "dict.get" (Ou X zx):=by
 rintro pins s σ H x xs v us Q I rx Ip ⟨μ,st,d,ds,hs,hx,uJ,hp⟩;unfold zx at hp
 split at hp
 ·rename_i n ks
  split at hp
  ·rename_i kvs k e1 e2;obtain⟨p,q1,rfl⟩:=ak.aL.mp hx;obtain⟨y,rfl,q2⟩:=ao.one uJ;obtain⟨b,ys,rfl,q3,q4⟩:=ak.aX.mp q2;replace q3:=q3.made e2;obtain rfl:=q4.keys e2;obtain⟨p',ws,r1,r2,r3⟩:=hs.dic e1;rw[q1]at r1;cases r1;cases Ip with
   | cons ry rr =>
    cases rr;obtain rfl:v=Value.ref p:=rx;refine Xr hu I (sI.t r2 q3) ry λw' s' I' z8=>⟨_,H,I',z8,?_⟩;rcases r3.val (k:=k) with⟨z1,z2⟩ | ⟨d',v',z1,z2,z3⟩
    ·rw[z1]at hp;rw[z2];exact hp.ret hs (ak.bT.mpr rfl)
    ·rw[z1]at hp;rw[z2];exact hp.ret hs z3
  ·exact hp.elim
 ·exact hp.elim
noncomputable def rN:D->List D->au->R D
 | .loc n,[.tup ks,d],st=>match st[n]?,keysOf ks with
  | some (.dic kvs),some k=>if kvs.length<1000000 then (match iJ kvs k with
   | some d'=>.ok d' st
   | none=>.ok d (st.set n (.dic (kvs++[(k,d)])))) else .bad
  | _,_=>.bad
 | _,_,_=>.bad
def zoc(hu:X.A.units+1<cLine):xx X "dict.setdefault" (Ou X rN):=by
 rintro pins s σ H x xs v us Q I rx Ip ⟨μ,st,d,ds,hs,hx,uJ,hp⟩;unfold rN at hp
 split at hp
 ·rename_i n ks d1
  split at hp
  ·rename_i kvs k e1 e2
   split at hp
   ·rename_i hl;obtain⟨p,q1,rfl⟩:=ak.aL.mp hx;obtain⟨y,z,rfl,q2,q5⟩:=ao.two uJ;obtain⟨b,ys,rfl,q3,q4⟩:=ak.aX.mp q2;replace q3:=q3.made e2;obtain rfl:=q4.keys e2;obtain⟨p',ws,r1,r2,r3⟩:=hs.dic e1;rw[q1]at r1;cases r1;cases Ip with
    | cons ry rr =>
     cases rr with
     | cons rz rr =>
      cases rr;obtain rfl:v=Value.ref p:=rx;rename_i uy uz;obtain rfl:uy=Value.ref b:=ry;refine Ls hu I r2 q3 rz (by rw[<-r3.len];exact gR hl (by decide)) (λx' w' s' ex z8 I'=>⟨_,H,I',z8,?_⟩) λen s' I'=>⟨_,_,I',rz,?_⟩
      ·rcases r3.val (k:=k) with⟨z1,z2⟩ | ⟨d',v',z1,z2,z3⟩
       ·rw[z2]at ex;cases ex
       ·rw[z1]at hp;rw[z2]at ex;cases ex;exact hp.ret hs z3
      ·rcases r3.val (k:=k) with⟨z1,z2⟩ | ⟨d',v',z1,z2,z3⟩
       ·rw[z1]at hp;have g:Ext H (upd H p (.dT (ws++[(k,z)]))):=Ext.mut r2 (λ_ z=>nomatch z) (λ_ _ z=>nomatch z);have g':bD μ H μ (upd H p (.dT (ws++[(k,z)]))):=⟨⟨[],by simp⟩,g⟩;exact hp _ _ μ g' (hs.put e1 rfl rfl q1 g ⟨_,rQ,(r3.snoc q5).mono g'⟩) (q5.mono g' _)
       ·rw[z2]at en;cases en
   ·exact hp.elim
  ·exact hp.elim
 ·exact hp.elim
end
end M
namespace L2
open PySem PySem.Spec PyProof.Rows
noncomputable def Its(x:Str):It:=⟨λi _=>i<x.cps.size,λi H y H'=>H'=H/\∃c,x.cps[i]? = some c/\y=.str ⟨#[c]⟩,λi _=>x.cps.size<=i⟩
def HN{P:Program}{w:World}{K:PySem.W.Frag}{tg:Expr}(it:Addr)(x:Str)(t:Tok):Turn P w K tg (Its x) [it] it (λi h=>h.IsStrIter it "str_ascii_iterator" x t i) where
 mem:=by simp
 obj:=λi h st b hb=>by
  have e:b=it:=by simpa using hb
  subst e;obtain⟨o,e,c,d⟩:=st;exact⟨o,e,λv z=>by rw[d]at z;cases z⟩
 keep:=λi h h' st k=>by
  obtain⟨o,e,c,d⟩:=st;exact⟨o,k it (by simp) o e,c,d⟩
 item:=by
  intro X hP hw hK hc i pins s σ H E I hf st hg;subst hP hw hK;obtain⟨f0,f1,f2,f3,f4,f5⟩:=hf it (by simp);have hi:i<x.cps.size:=hg;refine wpAny_pyNext_ascii_item st (pq hi) λh' st' sb=>?_;have I1:Inv X pins σ H { s with heap:=h',toks:=s.toks+1 }:=I.turned (λb o hb e=>(sb.2 b hb).trans e) f0 f1 f3 f4 f5;obtain⟨o,e,c,d⟩:=id st';exact⟨_,rfl,xR (s:={ s with heap:=h',toks:=s.toks+1 }) e c d (by decide) ⟨.str ⟨#[x.cps[i]]⟩,H,I1,⟨_,rfl⟩,⟨rfl,_,pq hi,rfl⟩,st',λb hb=>(hf b hb).1⟩⟩
 done:=by
  intro X hP hw hK hc i pins s σ H E I hf st hg;subst hP hw hK;obtain⟨f0,f1,f2,f3,f4,f5⟩:=hf it (by simp);have hi:x.cps.size<=i:=hg;exact wpAny_pyNext_ascii_end (I.ok.hd hc) st (Array.getElem?_eq_none hi) λh' eb=>⟨rfl,I.turned (t':=s.toks) (λb o hb e=>eb b o hb e) f0 f1 f3 f4 f5⟩
 self:=λ_ _ _ _ _ st h=>wpAny_pyIter_striter_ascii st h
noncomputable def adg(tl:TE):TI:=fun σ H R=>tl σ H λy H1=>∃x,y=.str x/\strIterType x = "str_ascii_iterator"/\R (Its x) H1
def Vl{X:Cx}{tg l:Expr}{tl:TE}(hl:PE X l tl):PI X tg l (adg tl):=by
 intro pins s σ H R I h;refine dO (hl pins s σ H _ I h) λv s1 zz=>?_;obtain⟨y,H1,I1,r1,q1⟩:=zz;obtain⟨x,e,ha,q⟩:=q1;subst e;obtain⟨t,rfl⟩:=r1;refine wpAny_pyIter_strU ?_;rw[ha];refine⟨s1.heap.objs.size,[s1.heap.objs.size],_,_,H1,rfl,I1.kept (t':=s1.toks) λb o e=>gJ _ e,HN _ x t,⟨_,h_ _ rfl,rfl,rfl⟩,λb hb=>?_,q⟩;have e:b=s1.heap.objs.size:=by simpa using hb
 subst e;exact I1.yH (gf _) (I1.cz.fresh (gf _))
end L2
namespace M
open PySem PySem.Spec L2
section
variable  {X:Cx}{tg l:Expr}{ml:ME}{μ:List Addr}{H:Hp}
noncomputable def N6(m:ME):MI:=λenv st=>(m env st).bind λd st1=>match d with
 | .str cs=>if cs.all (λc=>decide (c<128))=true then .ok (cs.map λc=>D.str [c],[]) st1 else .bad
 | _=>.bad
def Qj(cs:List Nat):vd X μ H (Its (strOf cs)) (cs.map λc=>D.str [c],[]):=by
 intro H' μ' st' g hs ok;refine⟨λi d e=>?_,by show (strOf cs).cps.size<=_;simp⟩;rw[gH]at e;obtain⟨c,e1,rfl⟩:=gO.mp e;refine⟨by show i<(strOf cs).cps.size;simpa using (gk.mp e1).1,?_⟩;rintro x Ml ⟨rfl,c',hc,rfl⟩;have:c'=c:=by
  have h2:cs[i]? = some c':=by simpa using hc
  rw[e1]at h2;exact (afa h2).symm
 subst this;exact⟨.refl _ _,hs,ak.aY.mpr rfl⟩
def Wf(hl:JE X l ml):JI X tg l (N6 ml):=by
 refine JI.of (Vl hl) fun σ H R zz=>?_;obtain⟨μ,env,st,hE,hs,hp⟩:=zz;refine⟨μ,env,st,hE,hs,(cM.bind hp).imp ?_⟩;rintro v H1 ⟨μ1,st1,d,g1,bV,hv,bf⟩;dsimp only at bf
 split at bf
 ·rename_i cs
  split at bf
  ·rename_i hc;obtain rfl:=ak.aY.mp hv;refine⟨strOf cs,rfl,?_,bf _ _ _ (.refl _ _) bV (Qj cs)⟩;unfold strIterType;rw[ae9];show (cs.toArray.all _)=true;rw[List.all_toArray];exact hc
  ·exact bf.elim
 ·exact bf.elim
end
end M
namespace L2
open PySem PySem.Spec PyProof.Rows
def Inv.but(I:Inv X pins σ H s)(k:∀b o,b≠X.env.locals->s.heap.get? b=some o->h'.get? b=some o) 
  (ns:∀m,s.heap.Ns X.env.locals m->h'.Ns X.env.locals m):Inv X pins σ H { s with heap:=h',toks:=t' }:=by
 have RN:∀b u,H b=some u->b≠X.env.locals:=λb u e z=>by rw[z,I.free]at e;cases e
 refine I.step (g':=s.gens) (d':=s.drawn) (ch:=[]) (λ_ z=>nomatch z) (λb o hL _ _ e _=>k b o hL e) (λb o hL _ _ e _=>⟨o.slots,k b o hL e⟩) (λ_ _ _ _ n=>n) (λb o _ e=>?_) (λ_ _ e=>e) (λ_ _ _ e=>e) (λb ps e=>⟨#[],by rw[e];simp⟩) ns (λb u e=>?_) I.bare
 ·by_cases hb:b=X.env.locals
  ·subst hb;obtain⟨m,hm,_⟩:=I.loc;obtain⟨o',_,_,q,_⟩:=ns m hm;exact⟨o',q⟩
  ·exact⟨o,k b o hb e⟩
 ·refine (I.cz b u e).tX (λc v hc q=>k c v ?_ q) (λc q=>q) λc xs q=>q;rcases hc with z | z
  ·rw[z];exact RN b u e
  ·exact RN c _ z
def GP(hc:X.A.handled=none):cD X (.builtin "sum") (λxs H Q=>∃(p:Addr) (ns:List Int),xs=[.ref p]/\rO X.K H p (ns.map V.int)/\Q (.int ns.sum) H):=by
 rintro pins s σ H xs us Q I hr ⟨p,ns,rfl,hq,h⟩;cases hr with
 | cons r1 r2 =>
  cases r2;cases r1;obtain⟨its,rv,pl,hz⟩:=I.list hq;have hi:IntsAre its ns:=by
   have key:∀(ns:List Int) (its:List Value),Vals (ns.map V.int) its->IntsAre its ns:=by
    intro ns
    induction ns with
    | nil=>intro its h;cases h;exact .nil
    | cons n ns ih =>
     intro its h;cases h with
     | cons r1 r2 =>
      obtain⟨t,rfl⟩:=r1;exact .cons n t (ih _ r2)
   exact key ns its rv
  obtain⟨m,hm,_⟩:=id I.loc;obtain⟨o,ho,_⟩:=id pl.isList;have tQ:p≠X.env.locals:=λz=>by
   obtain⟨o',es,ep,q1,q2,_⟩:=hm;obtain⟨o2,w1,w2,w3⟩:=id pl.isList;rw[z,q1]at w1;cases w1;rw[q2]at w3;obtain⟨_,w4⟩:=w3;cases w4
  refine LSm.sum_ints (Hc.yG hm) (Hc.zm3 tQ ho) hc pl.isList hi λh' tk t' F' N'=>⟨.int ns.sum,H,I.but (λb ob hb e=>?_) (λm' KR=>?_),⟨t',rfl⟩,h⟩
  ·by_cases hbp:b=p
   ·subst hbp;rw[ho]at e;cases e;exact N'.get (List.Mem.head _)
   ·exact N'.get (List.Mem.tail _ (Hc.zgi.mpr ⟨hb,hbp,e⟩))
  ·have:m'=m:=by
    obtain⟨o1,es1,ep1,q1,q2,_,q3⟩:=hm;obtain⟨o2,es2,ep2,w1,w2,_,w3⟩:=KR;rw[q1]at w1;cases w1;rw[q2]at w2;cases w2;funext x;rw[<-q3 x,<-w3 x]
   subst this;exact F'.ns
end L2
namespace M
open PySem PySem.Spec L2
noncomputable def intsOf:List D->Option (List Int)
 | []=>some []
 | .int i::r=>(intsOf r).map (i :: ·)
 | _::_=>none
def zju(ns:List Int):intsOf (ns.map D.int)=some ns:=by
 induction ns with
 | nil=>rfl
 | cons a l ih=>rw[gB,intsOf,ih];rfl
theorem zjc:∀{ds:List D} {xs:List V} {ns:List Int},intsOf ds=some ns->ao K μ H ds xs->xs=ns.map V.int
 | [],_,_,e,h=>by cases e;rw[ao]at h;exact h
 | d::ds,_,ns,e,h=>by
  rw[ao]at h;obtain⟨v,t,rfl,h1,h2⟩:=h;cases d with
  | int i =>
   simp only[intsOf]at e;cases q:intsOf ds with
   | none=>rw[q]at e;cases e
   | some bs' =>
    rw[q]at e;cases e;rw[ak.aP]at h1;subst h1;rw[zjc q h2];rfl
  | _=>simp[intsOf]at e
noncomputable def UT:List D->au->R D
 | [.loc n],st=>match (aq st n).bind intsOf with | some ns=>.ok (.int ns.sum) st | none=>.bad
 | _,_=>.bad
def GJ(hc:X.A.handled=none):cD X (.builtin "sum") (E_ X UT):=by
 refine cD.weak (GP hc) ?_;rintro xs H Q ⟨μ,st,ds,hs,hv,hp⟩;unfold UT at hp
 split at hp
 ·rename_i n;cases e:aq st n with
  | none=>rw[e]at hp;exact hp.elim
  | some l =>
   rw[e]at hp;cases e2:intsOf l with
   | none=>simp only[kI,e2]at hp;exact hp.elim
   | some ns =>
    simp only[kI,e2]at hp;obtain⟨v,rfl,q⟩:=ao.one hv;obtain⟨p,q1,rfl⟩:=ak.aL.mp q;obtain⟨p',ys,r1,r2,r3⟩:=hs.items e;rw[q1]at r1;cases r1;rw[zjc e2 r3]at r2;exact⟨p,ns,rfl,r2,hp.ret hs (ak.aP.mpr rfl)⟩
 ·exact hp.elim
end M
namespace M
open L2
def znj(xs:List α)(c:Nat)(h:c<=xs.length):cut xs none (some (c:Int))=xs.take c:=by
 unfold cut;rw[HT.ZJ,HT.zn0,p7 h];simp
def ZS(xs:List α)(c:Nat):cut xs (some (c:Int)) none=xs.drop c:=by
 unfold cut;rw[HT.ZJ,HT.zn0];by_cases h:c<=xs.length
 ·rw[p7 h,nH (by simp)]
 ·rw[Nat.min_eq_right (by omega),nF (gf _),nF (by omega)];simp
def QQ(f:α->β)(l:List α)(lo hi:Option Int):cut (l.map f) lo hi=(cut l lo hi).map f:=by
 unfold cut;rw[gq,List.map_take,List.map_drop]
def QR(l:List α)(lo hi:Option Int):(cut l lo hi).length<=l.length:=by
 unfold cut;rw[m6,nj];omega
def Nq(lo:Int)(n:Nat):(j9 lo n).length=n:=by simp[j9]
section
variable  (st:au)
def Ja(cs:List Nat)(i:Int)(c:Nat)(h:cs.length<=1000000)(hi:uq cs i=some c):bz (.str cs) (.int i) st=.ok (.str [c]) st:=by simp[bz,h,hi]
def Rf(a b:List Nat)(h:a.length+b.length<=1000000):bH (.str a) (.str b) st=.ok (.str (a++b)) st:=by simp[bH,h]
def Hg(cs:List Nat)(lo hi:Option Int)(h:cs.length<=1000000):vG (.str cs) lo hi st=.ok (.str (cut cs lo hi)) st:=by simp[vG,h]
def zi1(cs:List Nat)(h:cs.length<=1000000):uH [.str cs] st=.ok (.int cs.length) st:=by simp[uH,h]
@[simp] def acN(env:cg):wu env st=.ok (.loc st.length) (st++[.dic []]):=jD rfl
@[simp] theorem acJ(a:ME)(env:cg):N6 a env st=(a env st).bind λd st1=>match d with
 | .str cs=>if cs.all (λc=>decide (c<128))=true then .ok (cs.map λc=>D.str [c],[]) st1 else .bad
 | _=>.bad:=jD rfl
end
end M
namespace M
open PySem PySem.Spec L2
section
variable  {X:Cx}
noncomputable def vp(neg:Bool):D->D->au->R D
 | .tup ks,.loc n,st=>match st[n]?,keysOf ks with
  | some (.dic kvs),some k=>.ok (.bl (if neg then !(iJ kvs k).isSome else (iJ kvs k).isSome)) st
  | _,_=>.bad
 | _,_,_=>.bad
def KJ(h:rM X (vp neg) x y H Q):∃p o,y=.ref p/\sI H p x o/\Q (.bl (if neg then !o.isSome else o.isSome)) H:=by
 obtain⟨μ,st,dx,dy,hs,hx,hy,hp⟩:=h;unfold vp at hp
 split at hp
 ·rename_i ks n
  split at hp
  ·rename_i kvs k e1 e2;obtain⟨p,q1,rfl⟩:=ak.aL.mp hy;obtain⟨b,ys,rfl,q3,q4⟩:=ak.aX.mp hx;replace q3:=q3.made e2;obtain rfl:=q4.keys e2;obtain⟨p',ws,r1,r2,r3⟩:=hs.dic e1;rw[q1]at r1;cases r1;refine⟨p,_,rfl,sI.t r2 q3,?_⟩;rcases r3.val (k:=k) with⟨z1,z2⟩ | ⟨d',v',z1,z2,z3⟩
   ·rw[z1]at hp;rw[z2];exact hp.ret hs (ak.cG.mpr rfl)
   ·rw[z1]at hp;rw[z2];exact hp.ret hs (ak.cG.mpr rfl)
  ·exact hp.elim
 ·exact hp.elim
def zkd(hu:X.A.units+1<cLine):fK X (compareOp .NotIn) (rM X (vp true)):=by
 intro pins s σ H x y v u Q I rx ry h;obtain⟨p,o,rfl,g,q⟩:=KJ h;obtain rfl:u=Value.ref p:=ry;exact QM hu I g rx λs' I'=>⟨.bl (!o.isSome),H,I',rfl,q⟩
noncomputable def rY(kvs:List (List Key×D))(k:List Key)(d:D):List (List Key×D) :=
 if (kvs.any λkv=>decide (kv.1=k))=true then kvs.map (λkv=>if kv.1=k then (kv.1,d) else kv) else kvs++[(k,d)]
theorem aN.any:∀{kvs:List (List Key×D)} {ws:List (List Key×V)},aN K μ H kvs ws->(kvs.any λkv=>decide (kv.1=k))=(ws.any λkv=>decide (kv.1=k))
 | [],ws,h=>by rw[aN]at h;rw[h];rfl
 | (j,d)::r,ws,h=>by
  obtain⟨v,r',rfl,h1,h2⟩:=h;rw[my,my,aN.any h2]
theorem aN.repl(hv:ak K μ H d v):∀{kvs:List (List Key×D)} {ws:List (List Key×V)},aN K μ H kvs ws->aN K μ H (kvs.map λkv=>if kv.1=k then (kv.1,d) else kv) (ws.map λkv=>if kv.1=k then (kv.1,v) else kv)
 | [],ws,h=>by rw[aN]at h;subst h;exact rfl
 | (j,d')::r,ws,h=>by
  obtain⟨v',r',rfl,h1,h2⟩:=h;rw[gB,gB];by_cases e:j=k
  ·rw[ae9 e,ae9 e];exact⟨v,_,rfl,hv,aN.repl hv h2⟩
  ·rw[ae_ e,ae_ e];exact⟨v',_,rfl,h1,aN.repl hv h2⟩
def aN.put(h:aN K μ H kvs ws)(hv:ak K μ H d v):aN K μ H (rY kvs k d) (putK ws k v):=by
 unfold rY putK;rw[h.any]
 split
 ·exact aN.repl hv h
 ·exact h.snoc hv
noncomputable def jd:D->D->D->au->R Unit
 | .loc n,.tup ks,d,st=>match st[n]?,keysOf ks with
  | some (.dic kvs),some k=>if kvs.length<1000000 then .ok () (st.set n (.dic (rY kvs k d))) else .bad
  | _,_=>.bad
 | _,_,_,_=>.bad
def ye(hu:X.A.units+1<cLine):xu X (Cd X jd):=by
 rintro pins s σ H o i v ov iv u Q I ro ri rv ⟨μ,st,d1,d2,d3,hs,h1,h2,h3,hp⟩;unfold jd at hp
 split at hp
 ·rename_i n ks d
  split at hp
  ·rename_i kvs k e1 e2
   split at hp
   ·rename_i hl;obtain⟨p,q1,rfl⟩:=ak.aL.mp h1;obtain⟨b,ys,rfl,q3,q4⟩:=ak.aX.mp h2;replace q3:=q3.made e2;obtain rfl:=q4.keys e2;obtain⟨p',ws,r1,r2,r3⟩:=hs.dic e1;rw[q1]at r1;cases r1;obtain rfl:ov=Value.ref p:=ro;refine zmw hu I (Bg.t r2 q3 (by rw[<-r3.len];exact gR hl (by decide))) ri rv λs' I'=>⟨_,I',?_⟩;have g:Ext H (upd H p (.dT (putK ws k v))):=Ext.mut r2 (λ_ z=>nomatch z) (λ_ _ z=>nomatch z);have g':bD μ H μ (upd H p (.dT (putK ws k v))):=⟨⟨[],by simp⟩,g⟩;exact hp () _ μ g' (hs.put e1 rfl rfl q1 g ⟨_,rQ,(r3.put h3).mono g'⟩) trivial
   ·exact hp.elim
  ·exact hp.elim
 ·exact hp.elim
end
end M
namespace L2
open PySem PySem.Spec PyProof.Rows
def Inv.Xv(I:Inv X pins σ H s)(k:∀b ob,b≠X.env.locals->s.heap.get? b=some ob->h'.get? b=some ob) 
  (ns:∀m,s.heap.Ns X.env.locals m->h'.Ns X.env.locals m) (hp:s.heap.objs.size<=a) (new:cH X.prog X.w (upd H a o) h' a o):Inv X pins σ (upd H a o) { s with heap:=h',toks:=t' }:=by
 have hn:H a=none:=I.cz.fresh hp;have RN:∀b u,H b=some u->b≠X.env.locals:=λb u e z=>by rw[z,I.free]at e;cases e
 have na:∀b u,H b=some u->b≠a:=λb u e=>yZ e hn;refine I.step (g':=s.gens) (d':=s.drawn) (ch:=[]) (λ_ z=>nomatch z) (λb o hL _ _ e _=>k b o hL e) (λb o hL _ _ e _=>⟨o.slots,k b o hL e⟩)
  (λb o _ e n=>by rw[iD (gU (gR (gF e) hp))];exact n) (λb o _ e=>?_)
  (λb xs e=>by rw[iD (na b _ e)];exact e) (λb o u e=>by rw[iD (na b _ e)];exact e) (λb ps e=>⟨#[],by rw[iD (na b _ e),e];simp⟩) ns (λb u e=>?_) I.bare
 ·by_cases hb:b=X.env.locals
  ·subst hb;obtain⟨m,hm,_⟩:=I.loc;obtain⟨o',_,_,q,_⟩:=ns m hm;exact⟨o',q⟩
  ·exact⟨o,k b o hb e⟩
 ·by_cases hb:b=a
  ·subst hb;rw[rQ]at e;cases e;exact new
  ·rw[iD hb]at e;refine (I.cz b u e).tX (λc v hc q=>k c v ?_ q) (λc q=>by rw[iD (na c _ q)];exact q) λc xs q=>by rw[iD (na c _ q)];exact q
   rcases hc with z | z
   ·rw[z];exact RN b u e
   ·exact RN c _ z
def zpg(h:Heap)(L:Addr):News (Hc.vN h) L h (Hc.ledger h L L):=by
 rintro ⟨a,o⟩ hp;obtain⟨n1,n2,e⟩:=Hc.zgi.mp hp;exact⟨e,n1,Hc.zf6 _ _⟩
theorem zly:∀(l:List (Str×Tok)),Vals (l.map λp=>V.str p.1) (strValues l)
 | []=>.nil
 | (y,t)::l=>.cons ⟨t,rfl⟩ (zly l)
theorem zo9:∀(ys:List Str) (its:List Value),Vals (ys.map V.str) its->StrsAre its ys
 | [],_,h=>by cases h;exact .nil
 | y::ys,_,h=>by
  cases h with
  | cons r1 r2 =>
   obtain⟨t,rfl⟩:=r1;exact .cons y t (zo9 ys _ r2)
def Fx:xx X "str.split" (λx xs H Q=>∃z y:Str,x=.str z/\xs=[.str y]/\(y.length==0)=false/\z.length+2<=sizeLine/\∀p,H p=none->Q (.ref p) (upd H p (.lst ((Txt.split z y).map V.str)))):=by
 rintro pins s σ H x xs v us Q I rx Ip ⟨z,y,rfl,rfl,hy,hz,h⟩;obtain⟨t,rfl⟩:=rx;cases Ip with
 | cons r1 r2 =>
  cases r2;obtain⟨u,rfl⟩:=r1;obtain⟨m,hm,_⟩:=id I.loc;refine splitN1A (Hc.yG hm) (zpg s.heap X.env.locals) hy (λl h' k hl _ _ hL F' N'=>?_) hz;have W6:H s.heap.objs.size=none:=I.cz.fresh (gf _);have hsz:(Txt.split z y).length<=sizeLine:=by have:=(fact_split z y).2;omega
  refine⟨.ref s.heap.objs.size,_,I.Xv (a:=s.heap.objs.size) (o:=.lst ((Txt.split z y).map V.str)) (λb ob hb e=>?_) (λm' KR=>?_) (gf _) ?_,rfl,h _ W6⟩
  ·exact N'.get (List.Mem.tail _ (Hc.zgi.mpr ⟨hb,hb,e⟩))
  ·have:m'=m:=by
    obtain⟨o1,es1,ep1,q1,q2,_,q3⟩:=hm;obtain⟨o2,es2,ep2,w1,w2,_,w3⟩:=KR;rw[q1]at w1;cases w1;rw[q2]at w2;cases w2;funext x;rw[<-q3 x,<-w3 x]
   subst this;exact F'.ns
  ·refine⟨by rw[gq];exact hsz,strValues l,0,?_,N'.get (List.Mem.head _)⟩;rw[<-hl,gY];exact zly l
def JV:xx X "str.join" (λx xs H Q=>∃(z:Str) (p:Addr) (ys:List Str),x=.str z/\xs=[.ref p]/\rO X.K H p (ys.map V.str)/\(ys.map λy=>y.length).sum+ys.length*z.length<=16777216/\Q (.str (Txt.join z ys)) H):=by
 rintro pins s σ H x xs v us Q I rx Ip ⟨z,p,ys,rfl,rfl,hq,hz,h⟩;obtain⟨t,rfl⟩:=rx;cases Ip with
 | cons r1 r2 =>
  cases r2;cases r1;obtain⟨its,rv,pl,_⟩:=I.list hq;exact join_list pl.isList (zo9 ys its rv) hz λt' k=>⟨.str (Txt.join z ys),H,I.kept (t':=k) λb u h=>h,⟨t',rfl⟩,h⟩
end L2
namespace M
open PySem PySem.Spec L2
section
variable  {X:Cx}
noncomputable def jZ:List D->Option (List (List Nat))
 | []=>some []
 | .str cs::r=>(jZ r).map (cs :: ·)
 | _::_=>none
theorem zmm:∀{ds:List D} {xs:List V} {ts:List (List Nat)},jZ ds=some ts->ao K μ H ds xs->xs=(ts.map strOf).map V.str
 | [],_,_,e,h=>by cases e;rw[ao]at h;exact h
 | d::ds,_,ts,e,h=>by
  rw[ao]at h;obtain⟨v,t,rfl,h1,h2⟩:=h;cases d with
  | str cs =>
   simp only[jZ]at e;cases q:jZ ds with
   | none=>rw[q]at e;cases e
   | some ts' =>
    rw[q]at e;cases e;rw[ak.aY]at h1;subst h1;rw[zmm q h2];rfl
  | _=>simp[jZ]at e
noncomputable def joinM(sep:List Nat)(ts:List (List Nat)):List Nat:=(Txt.join (strOf sep) (ts.map strOf)).cps.toList
noncomputable def splitM(cs sep:List Nat):List (List Nat):=(Txt.split (strOf cs) (strOf sep)).map λy=>y.cps.toList
noncomputable def xN:D->List D->au->R D
 | .str sep,[.loc n],st=>match (aq st n).bind jZ with
  | some ts=>if (ts.map List.length).sum+ts.length*sep.length<=1000000 then .ok (.str (joinM sep ts)) st else .bad
  | none=>.bad
 | _,_,_=>.bad
def JR:xx X "str.join" (Ou X xN):=by
 refine xx.weak JV ?_;rintro x xs H Q ⟨μ,st,d,ds,hs,hx,uJ,hp⟩;unfold xN at hp
 split at hp
 ·rename_i sep n;cases e:aq st n with
  | none=>rw[e]at hp;exact hp.elim
  | some l =>
   rw[e]at hp;cases e2:jZ l with
   | none=>simp only[kI,e2]at hp;exact hp.elim
   | some ts =>
    simp only[kI,e2]at hp
    split at hp
    ·rename_i hl;obtain⟨v,rfl,q⟩:=ao.one uJ;obtain⟨p,q1,rfl⟩:=ak.aL.mp q;obtain⟨p',ys,r1,r2,r3⟩:=hs.items e;rw[q1]at r1;cases r1;rw[zmm e2 r3]at r2;obtain rfl:=ak.aY.mp hx;refine⟨_,p,ts.map strOf,rfl,rfl,r2,?_,hp.ret hs (ak.aY.mpr rfl)⟩;rw[gY,gq];have e3:(ts.map ((λy:Str=>y.length)∘strOf))=ts.map List.length:=mV λt _=>by
      show (strOf t).cps.size=t.length;simp
     rw[e3];have e4:(strOf sep).length=sep.length:=by show (strOf sep).cps.size=sep.length;simp
     rw[e4];omega
    ·exact hp.elim
 ·exact hp.elim
noncomputable def uB:D->List D->au->R D
 | .str cs,[.str sep],st=>if sep.length≠0/\cs.length<=1000000 then .ok (.loc st.length) (st++[.lst ((splitM cs sep).map D.str)]) else .bad
 | _,_,_=>.bad
def Fw:xx X "str.split" (Ou X uB):=by
 refine xx.weak Fx ?_;rintro x xs H Q ⟨μ,st,d,ds,hs,hx,uJ,hp⟩;unfold uB at hp
 split at hp
 ·rename_i cs sep
  split at hp
  ·rename_i hc;obtain⟨v,rfl,q⟩:=ao.one uJ;obtain rfl:=ak.aY.mp hx;obtain rfl:=ak.aY.mp q;refine⟨_,_,rfl,rfl,?_,?_,λp hn=>?_⟩
   ·have:(strOf sep).length=sep.length:=by show (strOf sep).cps.size=sep.length;simp
    rw[this];simpa using hc.1
   ·have:(strOf cs).length=cs.length:=by show (strOf cs).cps.size=cs.length;simp
    rw[this];exact kO (Nat.add_le_add_right hc.2 2) (by decide)
   ·have hr:jW X.K (μ++[p]) (upd H p (.lst ((Txt.split (strOf cs) (strOf sep)).map V.str))) p (.lst ((splitM cs sep).map D.str)):=by
     refine⟨_,rQ,?_⟩;have key:∀(l:List Str),ao X.K (μ++[p]) (upd H p (.lst ((Txt.split (strOf cs) (strOf sep)).map V.str))) ((l.map λy=>y.cps.toList).map D.str) (l.map V.str):=by
      intro l
      induction l with
      | nil=>exact ao.nil
      | cons y l ih=>exact ao.cons (ak.aY.mpr (by show V.str y=V.str (strOf y.cps.toList);simp)) ih
     exact key _
    exact hp _ _ (μ++[p]) (bD.new hn) (hs.new hn hr) (ak.aL.mpr ⟨p,by rw[<-hs.len];simp,rfl⟩)
  ·exact hp.elim
 ·exact hp.elim
end
noncomputable def du(sep:List Nat):List (List Nat)->List Nat
 | []=>[]
 | [t]=>t
 | t::u::r=>t++sep++du sep (u::r)
def Bx{a b:Str}(h:a.cps.toList=b.cps.toList):a=b:=by
 cases a;cases b;congr 1;exact Array.toList_inj.mp h
theorem zfd(sep:Str):∀(ts:List Str),(sep.join ts).cps.toList=du sep.cps.toList (ts.map λt=>t.cps.toList)
 | []=>by rw[PyProof.Rows.join_nil];rfl
 | [t]=>by rw[PyProof.Rows.join_one];rfl
 | t::u::r=>by
  have ih:=zfd sep (u::r);rw[gB]at ih;rw[PyProof.Rows.join_cons_cons,gB,gB,du,<-ih];show (t.cps++sep.cps++(sep.join (u::r)).cps).toList=_;simp
def Kq(sep:List Nat)(ts:List (List Nat)):joinM sep ts=du sep ts:=by
 unfold joinM;rw[show Txt.join (strOf sep) (ts.map strOf)=(strOf sep).join (ts.map strOf) from StrLaws.glued_eq_join _ _,zfd,gY];have:(λt:Str=>t.cps.toList)∘strOf=id:=by funext t;simp
 rw[this,List.map_id]
theorem znn:∀{l:List Nat},PyProof.Rows.cnt c l=0->c∉l
 | [],_=>by simp
 | a::l,h=>by
  have h0:∀l,0<=PyProof.Rows.cnt c l:=λl=>by
   induction l with
   | nil=>rw[PyProof.Rows.cnt_nil];omega
   | cons b l ih=>rw[afJ];split<;>omega
  rw[afJ]at h;have h1:=h0 l
  split at h
  ·omega
  ·rename_i tQ;have:=znn (c:=c) (l:=l) (by omega);simp at tQ ⊢;exact⟨λz=>tQ z.symm,this⟩
theorem zpu:∀{a b r1 r2:List Nat},c∉a->c∉b->a++c::r1=b++c::r2->a=b/\r1=r2
 | [],[],_,_,_,_,h=>by simpa using h
 | [],y::b,_,_,_,hb,h=>by simp at h;exact absurd h.1 (λz=>hb (by simp[z]))
 | x::a,[],_,_,ha,_,h=>by simp at h;exact absurd h.1.symm (λz=>ha (by simp[z]))
 | x::a,y::b,_,_,ha,hb,h=>by
  simp at h;obtain⟨rfl,h⟩:=h;obtain⟨rfl,h2⟩:=zpu (λz=>ha (by simp[z])) (λz=>hb (by simp[z])) h;exact⟨rfl,h2⟩
theorem zmt:∀{ts us:List (List Nat)},ts.length=us.length->(∀t∈ts,c∉t)->(∀t∈us,c∉t)->du [c] ts=du [c] us->ts=us
 | [],[],_,_,_,_=>rfl
 | [t],[u],_,_,_,h=>by rw[du,du]at h;rw[h]
 | t::t2::ts,u::u2::us,hl,h1,h2,h=>by
  rw[du,du,gG,gG]at h;obtain⟨rfl,h3⟩:=zpu (h1 t (by simp)) (h2 u (by simp)) h;rw[zmt (by simpa using hl) (λx hx=>h1 x (by simp[hx])) (λx hx=>h2 x (by simp[hx])) h3]
 | [],_::_,hl,_,_,_=>by simp at hl
 | _::_,[],hl,_,_,_=>by simp at hl
 | [_],_::_::_,hl,_,_,_=>by simp at hl
 | _::_::_,[_],hl,_,_,_=>by simp at hl
def znd(c:Nat)(ts:List (List Nat))(hn:ts≠[])(hc:∀t∈ts,c∉t):splitM (du [c] ts) [c]=ts:=by
 have hx:strOf (du [c] ts)=(strOf [c]).join (ts.map strOf):=Bx (by
  rw[zfd,gY];have:(λt:Str=>t.cps.toList)∘strOf=id:=by funext t;simp
  rw[this,List.map_id])
 have hj:=StrLaws.join_split (strOf (du [c] ts)) (strOf [c]);have hl:((Txt.split (strOf (du [c] ts)) (strOf [c])).length:Int)=1+PyProof.Rows.cnt c (du [c] ts):=PyProof.Rows.split_len (strOf (du [c] ts)) c;have h1:PyProof.Rows.cnt c [c]=1:=by rw[afJ,PyProof.Rows.cnt_nil];simp
 have adE:PyProof.Rows.cnt c (du [c] ts)=((ts.length - 1:Nat):Int):=by
  have:=PyProof.Rows.cnt_join (strOf [c]) c h1 (ts.map strOf) (λt ht=>by
   obtain⟨t',ht',rfl⟩:=g8.mp ht;simpa using hc t' ht')
  rw[<-hx,gq]at this;exact this
 have Qq:0<ts.length:=pL.mpr hn;have hlen:(Txt.split (strOf (du [c] ts)) (strOf [c])).length=ts.length:=by omega
 have Gh:=PyProof.Rows.cnt_join_sum (strOf [c]) c (Txt.split (strOf (du [c] ts)) (strOf [c]));rw[hj]at Gh;have Qo:((Txt.split (strOf (du [c] ts)) (strOf [c])).map λt=>PyProof.Rows.cnt c t.cps.toList).sum=0:=by
  have e1:PyProof.Rows.cnt c (strOf [c]).cps.toList=1:=h1;have e2:PyProof.Rows.cnt c (strOf (du [c] ts)).cps.toList=((ts.length - 1:Nat):Int):=adE;rw[e1,e2,hlen]at Gh;omega
 have h0:∀l,0<=PyProof.Rows.cnt c l:=λl=>by
  induction l with
  | nil=>rw[PyProof.Rows.cnt_nil];omega
  | cons b l ih=>rw[afJ];split<;>omega
 have xm:∀(ys:List Str),(ys.map λt=>PyProof.Rows.cnt c t.cps.toList).sum=0->∀y∈ys,c∉y.cps.toList:=by
  have hnn:∀ys:List Str,0<=(ys.map λt=>PyProof.Rows.cnt c t.cps.toList).sum:=λys=>by
   induction ys with
   | nil=>simp
   | cons y ys ih=>rw[gB,p8];have:=h0 y.cps.toList;omega
  intro ys
  induction ys with
  | nil=>intro _ y hy;exact absurd hy (g_)
  | cons y ys ih =>
   intro h z hz;rw[gB,p8]at h;have a1:=h0 y.cps.toList;have a2:=hnn ys;rcases gj.mp hz with rfl | hz
   ·exact znn (by omega)
   ·exact ih (by omega) z hz
 unfold splitM;refine zmt (c:=c) (by rw[gq];exact hlen) (λt ht=>?_) hc ?_
 ·obtain⟨y,hy,rfl⟩:=g8.mp ht;exact xm _ Qo y hy
 ·have:=congrArg (λz:Str=>z.cps.toList) hj;simp only at this;rw[zfd]at this;exact this
end M
namespace L2
open PySem PySem.Spec PyProof.Rows
theorem zob(cs:List Nat):∀(n:Nat) (a:Array Nat),(List.foldl (λx1 x2=>x1++x2) a (List.replicate n cs.toArray)).toList=a.toList++(List.replicate n cs).flatten
 | 0,a=>by simp
 | n+1,a=>by
  rw[mH,mH,pA,zob cs n,pB];simp
def zov:fK X (binaryOp .Mult) (λx y H Q=>∃(cs:List Nat) (n:Nat),x=.str ⟨cs.toArray⟩/\y=.int n/\n<=1000000/\cs.length*n<=1000000/\Q (.str ⟨(List.replicate n cs).flatten.toArray⟩) H):=by
 intro pins s σ H x y v u Q I rx ry h;obtain⟨cs,n,rfl,rfl,hn,hz,q⟩:=h;obtain⟨t,rfl⟩:=rx;obtain⟨t',rfl⟩:=ry;have hlen:(Str.mk cs.toArray).length=cs.length:=by show cs.toArray.size=_;simp
 refine P.mul_str ?_ ?_ ?_ ?_
 ·rw[pM];exact⟨afd (by omega),afd (by omega)⟩
 ·intro h1 h2;rw[hlen];have h3:(cs.length:Int)*(n:Int)<=2 ^ 63 - 1:=by
   have:((cs.length*n:Nat):Int)<=1000000:=by omega
   rw[Int.natCast_mul]at this;omega
  have:=(Int.le_ediv_iff_mul_le (show (0:Int)<(n:Int) by omega)).mpr h3;omega
 ·intro _ _;rw[hlen];unfold Builtin.Str.tooLong;rw[mF];exact afd (by
   have M6:1000000<=sizeLine:=by decide
   omega)
 ·split
  ·have h0:n=0:=by omega
   subst h0;exact⟨mZ _,.str ⟨#[]⟩,H,I.tok _,⟨_,rfl⟩,q⟩
  ·split
   ·rename_i h1 h2;have e:(List.replicate n cs).flatten=cs:=by
     rw[Bool.or_eq_true]at h2;rcases h2 with h2 | h2
     ·have:n=1:=by have:=eq_of_beq h2;omega
      subst this;simp
     ·have:cs=[]:=by rw[hlen]at h2;exact pG.mp (eq_of_beq h2)
      subst this;simp
    rw[e]at q;exact⟨.str ⟨cs.toArray⟩,H,I,⟨t,rfl⟩,q⟩
   ·have e:(Str.mk (List.foldl (λx1 x2=>x1++x2) #[] (List.replicate (n:Int).toNat cs.toArray)))=⟨(List.replicate n cs).flatten.toArray⟩:=by
     congr 1;apply Array.toList_inj.mp;rw[mF,zob];simp
    rw[e];have hfl:(List.replicate n cs).flatten.length=n*cs.length:=by simp
    have uZ:(Str.mk (List.replicate n cs).flatten.toArray).length<=sizeLine:=by
     show (List.replicate n cs).flatten.toArray.size<=sizeLine;rw[gK,hfl,Nat.mul_comm];exact kO hz (by decide)
    exact⟨uZ,.str _,H,I.tok _,⟨_,rfl⟩,q⟩
end L2
namespace M
open PySem PySem.Spec L2
noncomputable def qX:D->D->au->R D
 | .str cs,.int i,st=>if 0<=i/\i<=1000000/\cs.length*i.toNat<=1000000 then .ok (.str (List.replicate i.toNat cs).flatten) st else .bad
 | _,_,_=>.bad
def zlb:fK X (binaryOp .Mult) (rM X qX):=by
 refine fK.weak zov ?_;rintro x y H Q ⟨μ,st,dx,dy,hs,hx,hy,hp⟩;unfold qX at hp
 split at hp
 ·rename_i cs i
  split at hp
  ·rename_i hc;obtain rfl:=ak.aY.mp hx;obtain rfl:=ak.aP.mp hy;obtain⟨n,rfl⟩:=m8 hc.1;rw[mF]at hc hp;exact⟨cs,n,rfl,rfl,by omega,hc.2.2,hp.ret hs (ak.aY.mpr rfl)⟩
  ·exact hp.elim
 ·exact hp.elim
section
variable  {X:Cx}{a b c:Expr}{ma mb mc:ME}{pos:Pos}
end
section
variable  {X:Cx}{pos:Pos}{x:Str}
def Kv(hg:Gl X x)(hm:X.mg x=some u)(r:RelV v u)(hv:∀μ H,ak X.K μ H d v)(hd:(x==("__debug__":Str))=false:=by decide):JE X (.Name x pos) (ct d):=by
 refine JE.of (Pj hg hm r hd) fun σ H Q zz=>?_;obtain⟨μ,env,st,hE,hs,hp⟩:=zz;exact hp.ret hs (hv μ H)
def Bk(cs:List Nat)(h:∃t,X.mg x=some (.str y t))(hy:y=strOf cs:=by rfl)(hg:Gl X x:=by rfl)(hd:(x==("__debug__":Str))=false:=by decide):JE X (.Name x pos) (ct (.str cs)):=by
 obtain⟨t,h⟩:=h;exact Kv (v:=.str y) hg h ⟨t,rfl⟩ (λ_ _=>ak.aY.mpr (by rw[hy])) hd
end
end M
namespace M
open L2
section
variable  (st:au)
def Va(sep:List Nat)(n:Nat)(ts:List (List Nat))(h:aq st n=some (ts.map D.str))(hl:(ts.map List.length).sum+ts.length*sep.length<=1000000):xN (.str sep) [.loc n] st=.ok (.str (du sep ts)) st:=by
 have e:jZ (ts.map D.str)=some ts:=by
  clear h hl
  induction ts with
  | nil=>rfl
  | cons t ts ih=>simp[jZ,ih]
 simp only[xN,h,kI,e];rw[ae9 hl,Kq]
end
noncomputable def b_(c:Nat):List Nat->List (List Nat)
 | []=>[[]]
 | x::xs=>if x=c then []::b_ c xs else match b_ c xs with
  | []=>[[x]]
  | t::ts=>(x::t)::ts
def zf7(c:Nat)(cs:List Nat):b_ c cs≠[]:=by
 cases cs with
 | nil=>simp[b_]
 | cons x xs =>
  rw[b_]
  split
  ·simp
  ·split<;>simp
def Ep(c:Nat)(cs:List Nat):∀t∈b_ c cs,c∉t:=by
 induction cs with
 | nil=>simp[b_]
 | cons x xs ih =>
  rw[b_]
  split
  ·intro t ht;rcases gj.mp ht with rfl | ht
   ·simp
   ·exact ih t ht
  ·rename_i hx
   split
   ·intro t ht;obtain rfl:t=[x]:=by simpa using ht
    simp;exact λz=>hx z.symm
   ·rename_i t ts e;rw[e]at ih;intro u hu;rcases gj.mp hu with rfl | hu
    ·have:=ih t (by simp);simp only[gj,not_or];exact⟨λz=>hx z.symm,this⟩
    ·exact ih u (by simp[hu])
def zhn(sep t:List Nat)(ts:List (List Nat))(h:ts≠[]):du sep (t::ts)=t++sep++du sep ts:=by
 cases ts with
 | nil=>exact absurd rfl h
 | cons u r=>rfl
def zk9(c:Nat)(cs:List Nat):du [c] (b_ c cs)=cs:=by
 induction cs with
 | nil=>rfl
 | cons x xs ih =>
  rw[b_]
  split
  ·rename_i hx;rw[zhn _ _ _ (zf7 c xs),ih,hx];rfl
  ·have hn:=zf7 c xs;cases e:b_ c xs with
   | nil=>exact absurd e hn
   | cons t ts =>
    rw[e]at ih;dsimp only;cases ts with
    | nil=>simp only[du]at ih ⊢;rw[ih]
    | cons u r =>
     rw[zhn _ _ _ (by simp)]at ih ⊢;rw[<-ih];simp
def Eo(c:Nat)(cs:List Nat):splitM cs [c]=b_ c cs:=by
 have:=znd c (b_ c cs) (zf7 c cs) (Ep c cs);rwa[zk9]at this
def Oj(st:au)(cs:List Nat)(c:Nat)(h:cs.length<=1000000):uB (.str cs) [.str [c]] st=.ok (.loc st.length) (st++[.lst ((b_ c cs).map D.str)]):=by
 simp only[uB,Eo];rw[ae9 ⟨by simp,h⟩]
def FZ(ts:List (List Nat)):du [] ts=ts.flatten:=by
 induction ts with
 | nil=>rfl
 | cons t ts ih =>
  cases ts with
  | nil=>simp[du]
  | cons u r=>rw[zhn _ _ _ (by simp),ih];simp
def zk2(xs:List α):cut xs none (some (-1))=xs.dropLast:=by
 unfold cut;rw[HT.ZJ];have:HT.dC xs.length xs.length (some (-1))=xs.length - 1:=by
  unfold HT.dC;dsimp only;rw[ae9 (by omega)];omega
 rw[this];simp[List.dropLast_eq_take]
def yO(I:Nat->cg->au->Prop)(h0:I 0 env st) 
  (step:∀i d env st,items[i]? = some d->I i env st->wO gs st/\∃cA st1,g d env st=.ok cA st1/\∃bF st2,(b cA st1=.ok (.nx bF) st2\/b cA st1=.ok (.cn bF) st2)/\I (i+1) bF st2)
  (W7:∀env st,I items.length env st->wO gs st):∃dG st',dz g b gs items env st=.ok (.nx dG) st'/\I items.length dG st':=by
 refine Gp (λpre env st=>I pre.length env st) h0 (λpre d post env st e hI=>?_) W7;have:=step pre.length d env st (by rw[e];simp) hI;simpa using this
def TJ(h:(j9 lo n)[i]? = some d):i<n/\d=.int (lo+(i:Nat)):=by
 have h2:i<n:=by
  have:=(gk.mp h).1;rwa[Nq]at this
 unfold j9 at h;rw[gH,List.getElem?_range h2]at h;exact⟨h2,(afa h).symm⟩
def Li{xs:List D}{i:Nat}{d:D}(h:(eZ 0 xs)[i]? = some d):∃x,xs[i]? = some x/\d=.tup [.int i,x]:=by
 rw[ZV]at h;cases e:xs[i]? with
 | none=>rw[e]at h;cases h
 | some x =>
  rw[e]at h;simp at h;exact⟨x,rfl,h.symm⟩
def Ij(row:List Nat)(st:au)(h:row.length<=1000000):vG (.str row) (some 1) none st=.ok (.str row.tail) st:=by
 rw[Hg st _ _ _ h];have:=ZS row 1;rw[List.drop_one]at this;exact congrArg (λz=>R.ok (D.str z) st) this
def RZ(c:Nat)(t:List Nat)(st:au)(h:(c::t).length<=1000000):bz (.str (c::t)) (.int 0) st=.ok (.str [c]) st:=Ja st _ _ _ h (by have:=Rb (c::t) 0;simpa using this)
noncomputable def orS(a b:ME):ME:=λenv st=>(a env st).bind λx st1=>match x with
 | .str cs=>if cs.length<=1000000 then (if cs=[] then b env st1 else .ok x st1) else .bad
 | _=>.bad
@[simp] theorem ael(a b:ME)(env:cg)(st:au):orS a b env st=(a env st).bind λx st1=>match x with
 | .str cs=>if cs.length<=1000000 then (if cs=[] then b env st1 else .ok x st1) else .bad
 | _=>.bad:=jD rfl
theorem zgq:∀(n:Nat) (env:cg) (st:au),bG c b n env st≠.bad->bG c b (n+1) env st=bG c b n env st
 | 0,env,st,h=>absurd (by rw[bG]) h
 | n+1,env,st,h=>by
  rw[bG]at h;rw[bG,bG];cases e:c env st with
  | bad=>rfl
  | err x s=>rfl
  | ok x st1 =>
   rw[e,R.aD]at h;rw[R.aD,R.aD];cases x with
   | false=>rfl
   | true =>
    rw[ae9 rfl]at h ⊢;rw[ae9 rfl];cases e2:b env st1 with
    | bad=>rfl
    | err x s=>rfl
    | ok o st2 =>
     rw[e2,R.aD]at h;rw[R.aD,R.aD];cases o with
     | nx bF=>exact zgq n bF st2 h
     | cn bF=>exact zgq n bF st2 h
     | bk bF=>rfl
     | rt d=>rfl
theorem zhs(h:bG c b n env st≠.bad):∀k,bG c b (n+k) env st=bG c b n env st
 | 0=>rfl
 | k+1=>by
  have:=zhs h k;rw[<-nJ,zgq (n+k) env st (by rw[this];exact h),this]
open Classical in
noncomputable def dq(c:MT)(b:MS):MS:=λenv st=>if h:∃n,bG c b n env st≠.bad then bG c b (Classical.choose h) env st else .bad
def T7(h:bG c b n env st≠.bad):dq c b env st=bG c b n env st:=by
 have hx:∃n,bG c b n env st≠.bad:=⟨n,h⟩;unfold dq;rw[dif_pos hx];have h2:=Classical.choose_spec hx;generalize Classical.choose hx=m at h2 ⊢;by_cases WX:m<=n
 ·obtain⟨k,rfl⟩:=Nat.le.dest WX;exact (zhs h2 k).symm
 ·obtain⟨k,rfl⟩:=Nat.le.dest (show n<=m by omega);exact zhs h k
def DW:dq c b env st=.bad\/∃n,dq c b env st=bG c b n env st:=by
 unfold dq
 split
 ·exact .inr ⟨_,rfl⟩
 ·exact .inl rfl
theorem Yd(c:MT)(b:MS)(env:cg)(st:au):dq c b env st=(c env st).bind λx st1=>if x then (b env st1).bind λo st2=>(match o with
   | .nx bF=>dq c b bF st2
   | .cn bF=>dq c b bF st2
   | .bk bF=>.ok (.nx bF) st2
   | .rt d=>.ok (.rt d) st2) else .ok (.nx env) st1:=by
 have one:∀n,bG c b (n+1) env st=(c env st).bind λx st1=>if x then (b env st1).bind λo st2=>(match o with
   | .nx bF=>bG c b n bF st2
   | .cn bF=>bG c b n bF st2
   | .bk bF=>.ok (.nx bF) st2
   | .rt d=>.ok (.rt d) st2) else .ok (.nx env) st1:=λn=>by rw[bG]<;>rfl
 have bd:(∀n,bG c b (n+1) env st=.bad)->dq c b env st=.bad:=λh=>by
  unfold dq;rw[dif_neg];rintro ⟨n,hn⟩;cases n with
  | zero=>exact hn (by rw[bG])
  | succ n=>exact hn (h n)
 have go:∀(bF:cg) (st2:au),(∀n,bG c b (n+1) env st=bG c b n bF st2)->dq c b env st=dq c b bF st2:=λbF st2 h=>by
  by_cases hx:∃n,bG c b n bF st2≠.bad
  ·obtain⟨n,hn⟩:=hx;rw[T7 hn,<-h n,T7 (n:=n+1) (by rw[h n];exact hn)]
  ·have e2:dq c b bF st2=.bad:=by unfold dq;rw[dif_neg hx]
   rw[e2];refine bd λn=>?_;rw[h n];by_cases q:bG c b n bF st2=.bad
   ·exact q
   ·exact absurd ⟨n,q⟩ hx
 cases e:c env st with
 | bad=>rw[R.um];exact bd λn=>by rw[one n,e,R.um]
 | err x s =>
  rw[R.uh];have:bG c b 1 env st=.err x s:=by rw[one 0,e,R.uh]
  rw[T7 (n:=1) (by rw[this];exact λz=>nomatch z),this]
 | ok x st1 =>
  rw[R.aD];cases x with
  | false =>
   have:bG c b 1 env st=.ok (.nx env) st1:=by rw[one 0,e,R.aD];rfl
   rw[T7 (n:=1) (by rw[this];exact λz=>nomatch z),this];rfl
  | true =>
   rw[ae9 rfl];cases e2:b env st1 with
   | bad=>rw[R.um];exact bd λn=>by rw[one n,e,R.aD,ae9 rfl,e2,R.um]
   | err x s =>
    rw[R.uh];have:bG c b 1 env st=.err x s:=by rw[one 0,e,R.aD,ae9 rfl,e2,R.uh]
    rw[T7 (n:=1) (by rw[this];exact λz=>nomatch z),this]
   | ok o st2 =>
    rw[R.aD];cases o with
    | nx bF=>exact go bF st2 λn=>by rw[one n,e,R.aD,ae9 rfl,e2,R.aD]
    | cn bF=>exact go bF st2 λn=>by rw[one n,e,R.aD,ae9 rfl,e2,R.aD]
    | bk bF =>
     have:bG c b 1 env st=.ok (.nx bF) st2:=by rw[one 0,e,R.aD,ae9 rfl,e2,R.aD]
     rw[T7 (n:=1) (by rw[this];exact λz=>nomatch z),this]
    | rt d =>
     have:bG c b 1 env st=.ok (.rt d) st2:=by rw[one 0,e,R.aD,ae9 rfl,e2,R.aD]
     rw[T7 (n:=1) (by rw[this];exact λz=>nomatch z),this]
noncomputable def cY(c:Nat)(cs:List Nat):List Nat:=(cs.reverse.dropWhile (λx=>decide (x=c))).reverse
noncomputable def tY:D->List D->au->R D
 | .str cs,[.str [c]],st=>if cs.length<=1000000 then .ok (.str (cY c cs)) st else .bad
 | _,_,_=>.bad
noncomputable def KH:D->D->au->R D
 | .str [c],.str cs,st=>if cs.length<=1000000 then .ok (.bl (decide (c∈cs))) st else .bad
 | _,_,_=>.bad
def Om(c k:Nat)(st:au)(h:k<=1000000):qX (.str [c]) (.int k) st=.ok (.str (List.replicate k c)) st:=by
 have e:∀k:Nat,(List.replicate k [c]).flatten=List.replicate k c:=λk=>by
  induction k with
  | zero=>rfl
  | succ k ih=>rw[mH,mH,pB,ih];rfl
 unfold qX;dsimp only;rw[ae9 (by simp;omega),mF,e]
def Rx(c:Nat):cY c []=[]:=rfl
def zlp(c:Nat)(t:List Nat):cY c (t++[c])=cY c t:=by
 unfold cY;rw[pN];simp
def zj2(c x:Nat)(t:List Nat)(h:x≠c):cY c (t++[x])=t++[x]:=by
 unfold cY;rw[pN];simp[h]
def zjy(c:Nat)(t:List Nat)(h:c∉t):cY c t=t:=by
 by_cases ht:t=[]
 ·subst ht;rfl
 ·have e:=(pC ht).symm;rw[e];refine zj2 _ _ _ λz=>h ?_;rw[<-z];exact List.getLast_mem ht
def znh(c:Nat)(t:List Nat):(cY c t).length<=t.length:=by
 unfold cY;have:∀(p:Nat->Bool) (l:List Nat),(l.dropWhile p).length<=l.length:=λp l=>by
  induction l with
  | nil=>simp
  | cons a l ih=>rw[List.dropWhile_cons];split<;>simp<;>omega
 have:=this (λx=>decide (x=c)) t.reverse;simpa using this
end M
namespace L2
open PySem PySem.Spec PyProof.Rows
section
variable  {X:Cx}{a b:Expr}{rest:List Expr}{pos:Pos}{ta tb:TE}
noncomputable def ack(K:PySem.W.Frag)(ta tb:TE):TE:=fun σ H Q=>ta σ H λx H1=>∃k,XM K x H1 k/\if k=true then Q x H1 else tb σ H1 Q
def Vq(ha:PE X a ta)(hb:PE X (.BoolOp .Or (b::rest) pos) tb):PE X (.BoolOp .Or (a::b::rest) pos) (ack X.K ta tb):=by
 intro pins s σ H Q I h;refine BoolOp_or (dO (ha pins s σ H _ I h) λv s1 zz=>?_);obtain⟨x,H1,I1,r1,q1⟩:=zz;refine dO (Uu pins s1 σ H1 x v (λk' H'=>if k'=true then Q x H' else tb σ H' Q) I1 r1 q1) λc s2 zz=>?_;obtain⟨H2,I2,q2⟩:=zz;cases c with
 | false=>exact hb pins s2 σ H2 Q I2 q2
 | true=>exact⟨x,H2,I2,r1,q2⟩
def zox:xx X "str.rstrip" (λx xs H Q=>∃z y:Str,x=.str z/\xs=[.str y]/\z.length<=sizeLine/\Q (.str (Txt.rstripChars z y)) H):=by
 rintro pins s σ H x xs v us Q I rx Ip ⟨z,y,rfl,rfl,hz,h⟩;obtain⟨t,rfl⟩:=rx;cases Ip with
 | cons r1 r2 =>
  cases r2;obtain⟨u,rfl⟩:=r1;exact SCL.rstripChars (λt' k _=>⟨.str (Txt.rstripChars z y),H,I.kept (t':=k) λb u h=>h,⟨t',rfl⟩,h⟩) hz
end
end L2
namespace M
open PySem PySem.Spec L2
section
variable  {X:Cx}{a b c:Expr}{ma mb mc:ME}{pos:Pos}{rest:List Expr}
def Kr(ha:JE X a ma)(hb:JE X (.BoolOp .Or (b::rest) pos) mb):JE X (.BoolOp .Or (a::b::rest) pos) (orS ma mb):=by
 refine JE.of (Vq ha hb) fun σ H Q zz=>?_;obtain⟨μ,env,st,hE,hs,hp⟩:=zz;refine⟨μ,env,st,hE,hs,hp.bind.imp ?_⟩;rintro x H1 ⟨μ1,st1,d,g1,bV,hx,bf⟩;cases d with
 | str cs =>
  dsimp only at bf
  split at bf
  ·rename_i hl;have ht:HQ (.str cs) st1=some (!cs.isEmpty):=by simp[HQ,hl]
   refine⟨_,NB ht bV hx,?_⟩;cases cs with
   | nil =>
    rw[ae9 rfl]at bf;exact Aj ⟨μ1,env,st1,hE.mono g1,bV,bf⟩
   | cons y t =>
    rw[ae_ (by simp)]at bf;exact Ai (bf.ret bV hx)
  ·exact bf.elim
 | _=>exact bf.elim
def zmc{body:List Stmt}{tc:MT}{mb:MS}(hc:JT X c tc)(hb:zV X body mb)(hp:PassesOwn (model X.prog X.w) X.A X.env X.xe):JS X (.While c body [] pos) (dq tc mb):=by
 rintro pins s σ H D I ⟨μ,env,st,hE,hs,q⟩;rcases DW (c:=tc) (b:=mb) (env:=env) (st:=st) with e | ⟨n,e⟩
 ·rw[e]at q;exact q.elim
 ·rw[e]at q;exact Km n hc hb hp pins s σ H D I ⟨μ,env,st,hE,hs,q⟩
def Px:fK X (compareOp .In) (rM X KH):=by
 refine fK.weak Fl ?_;rintro x y H Q ⟨μ,st,dx,dy,hs,hx,hy,hp⟩;unfold KH at hp
 split at hp
 ·rename_i c cs
  split at hp
  ·obtain rfl:=ak.aY.mp hx;obtain rfl:=ak.aY.mp hy;refine⟨_,_,rfl,rfl,?_⟩;have e:=PySem.StrLaws.found_one (strOf cs) c;have e2:(strOf [c])=⟨#[c]⟩:=rfl;rw[e2,e];refine hp.ret hs (ak.cG.mpr ?_);simp
  ·exact hp.elim
 ·exact hp.elim
def Eu(c:Nat)(cs:List Nat):(Txt.rstripChars (strOf cs) (strOf [c])).cps.toList=cY c cs:=by
 unfold Txt.rstripChars;rw[PyProof.Rows.stripBy_eq,PySem.StrLaws.strSub_toList];have hg:(strOf [c]).cps.contains=λx=>decide (x=c):=by
  funext x;rw[n6];simp
 rw[hg];have e:(strOf cs).length=cs.length:=by simp[Str.length,strOf]
 unfold PySem.stripHi PySem.stripLo;simp only[nu,afF,afy,List.drop_zero,Nat.sub_zero,e];unfold cY;have h1:=List.takeWhile_append_dropWhile (p:=λx=>decide (x=c)) (l:=cs.reverse);have h2:cs=(cs.reverse.dropWhile λx=>decide (x=c)).reverse++(cs.reverse.takeWhile λx=>decide (x=c)).reverse:=by
  rw[<-pN,h1,List.reverse_reverse]
 have h3:cs.length=(cs.reverse.dropWhile λx=>decide (x=c)).length+(cs.reverse.takeWhile λx=>decide (x=c)).length:=by
  have:=congrArg List.length h2;rw[gh,List.length_reverse,List.length_reverse]at this;exact this
 generalize (cs.reverse.dropWhile λx=>decide (x=c))=A at h2 h3 ⊢;generalize (cs.reverse.takeWhile λx=>decide (x=c))=B at h2 h3 ⊢;subst h2;simp
def zpj:xx X "str.rstrip" (Ou X tY):=by
 refine xx.weak zox ?_;rintro x xs H Q ⟨μ,st,d,ds,hs,hx,hv,hp⟩;unfold tY at hp
 split at hp
 ·rename_i cs c
  split at hp
  ·rename_i hl;obtain rfl:=ak.aY.mp hx;obtain⟨v,rfl,q⟩:=ao.one hv;obtain rfl:=ak.aY.mp q;refine⟨_,_,rfl,rfl,?_,?_⟩
   ·have e:(strOf cs).length=cs.length:=by simp[Str.length,strOf]
    rw[e];exact Hu hl
   ·refine hp.ret hs (ak.aY.mpr ?_);congr 1;exact Bx (by rw[Eu])
  ·exact hp.elim
 ·exact hp.elim
end
end M
namespace L2
open PySem PySem.Spec PyProof.Rows PySem.Builtin PySem.Builtin.Str
end L2
namespace M
open PySem PySem.Spec L2
structure XS(K:PySem.W.Frag)(x qual:Str)(st:Stmt)(f:Addr)(fd:FuncData):Prop where
 ex:∃(oc:Value) (od:Option Addr) (dV kV doc pm:Value) (an:Option Addr) (cdv ct:Value) (uX:Array (Option Value)),
  fd=PySem.W.fnOf x qual (cZ st) (cB st) (aB st) dV kV doc pm an cdv ct/\K.lookup f=some ⟨oc,od,.func fd,uX⟩/\PySem.W.codeIn K cdv qual=true
 kp:PySem.W.keepIn K (.ref f)=true
section
variable  {P:Program}{w:World}{K:PySem.W.Frag}{mg:Str->Option Value}{base:Heap}
def Xj(F:XS K x qual st f fd)(S:aZ N ps (aB st)) 
  (rm:∀(cdv:Value) (A:Around) (outer:List Env) (s:Shared) (H:Hp),dX k (A.deeper (PyProof.Rows.envOfC qual (aB st) s.heap.objs.size f cdv)) ->
   zV (xn jH P w K mg base N qual (aB st) f cdv A outer s H E0).MJ (cB st) m):bu P w K mg base jH (k+1) f fd ps (j8 K ps.length (eF N.length m)):=by
 obtain⟨oc,od,dV,kV,doc,pm,an,cdv,ct,uX,rfl,lk,yD⟩:=F.ex;refine Ld lk yD S (λvs H Q E h=>h.1) λA outer s H vs Q E hr h=>?_;obtain⟨hl,μ,ds,Rt,hv,hs,hp⟩:=h;have hb:=rm cdv A outer s H hr;refine⟨_,zH.MJ hb,μ,startM N.length ds,Rt,ao.start N hv,hs,?_⟩;unfold eF at hp;cases hr:m (startM N.length ds) Rt with
 | bad=>rw[hr]at hp;exact hp.elim
 | err x st1=>rw[hr]at hp;exact hp.elim
 | ok o st1 =>
  rw[hr]at hp;cases o with
  | rt d=>exact hp
  | nx env=>exact fun σ' H' μ' g su _=>hp .non H' μ' g su (ak.bT.mpr rfl)
  | bk env=>exact hp.elim
  | cn env=>exact hp.elim
def QF{x qual:Str}{st:Stmt}{f:Addr}{oc:Value}{od an:Option Addr}{uX:Array (Option Value)}{dV kV doc pm cdv ct:Value}(l:K.lookup f=some ⟨oc,od,.func (PySem.W.fnOf x qual (cZ st) (cB st) (aB st) dV kV doc pm an cdv ct),uX⟩)
  (c:PySem.W.codeIn K cdv qual=true) (k:PySem.W.keepIn K (.ref f)=true):XS K x qual st f (PySem.W.fnOf x qual (cZ st) (cB st) (aB st) dV kV doc pm an cdv ct):=⟨⟨oc,od,dV,kV,doc,pm,an,cdv,ct,uX,rfl,l,c⟩,k⟩
def LR{x qual:Str}{st:Stmt}{ps:List Str}{T:Addr}{oc:Value}{od:Option Addr}{d:Value}{n:Nat}{uX:Array (Option Value)}{kV doc pm cdv ct:Value}{an:Option Addr}(l:K.lookup T=some ⟨oc,od,.seq #[d] n,uX⟩)
  (h:∀us:List Value,us.length=ps.length->∃k:Option (Array Value)->Sem (List (Str×Value)),bindArgs (PySem.W.fnOf x qual (cZ st) (cB st) (aB st) (.ref T) kV doc pm an cdv ct) ⟨us,[]⟩=seqItems? (.ref T) >>= k/\k (some #[d])=pure (ps.zip us)) :
  Binds K (PySem.W.fnOf x qual (cZ st) (cB st) (aB st) (.ref T) kV doc pm an cdv ct) ps []:=λs us hK hl=>by
 rw[kh]at hl ⊢;obtain⟨k,h1,h2⟩:=h us hl;exact BindsTo.of_defaults (T:=T) rfl (hK _ _ l) rfl h1 h2
def Dq{x qual:Str}{st:Stmt}{ps:List Str}{T:Addr}{oc:Value}{od:Option Addr}{d:Value}{n:Nat}{uX:Array (Option Value)}{kV doc pm cdv ct:Value}{an:Option Addr}(l:K.lookup T=some ⟨oc,od,.seq #[d] n,uX⟩)
  (h:∀us:List Value,us.length+1=ps.length->∃k:Option (Array Value)->Sem (List (Str×Value)),bindArgs (PySem.W.fnOf x qual (cZ st) (cB st) (aB st) (.ref T) kV doc pm an cdv ct) ⟨us,[]⟩=seqItems? (.ref T) >>= k/\k (some #[d])=pure (ps.zip (us++[d]))) :
  Binds K (PySem.W.fnOf x qual (cZ st) (cB st) (aB st) (.ref T) kV doc pm an cdv ct) ps [d]:=λs us hK hl=>by
 obtain⟨k,h1,h2⟩:=h us (by simpa using hl);exact BindsTo.of_defaults (T:=T) rfl (hK _ _ l) rfl h1 h2
end
section
variable  {X:Cx}{e:Expr}{es:List Expr}{mA:MA}{pos p:Pos}{x:Str}{k:Nat}{f:Addr}{fd:FuncData}{ps:List Str}{F:FD}{i:Int}
def Kw(G:bu X.prog X.w X.K X.mg X.base jH k f fd ps (j8 X.K ps.length F))(hr:dX k X.A)(hm:X.mg x=some (.ref f))(hk:PySem.W.keepIn X.K (.ref f)=true)(hb:∃t,Binds X.K fd ps [.int i t])
  (ha:JA X (e::es) mA) (hlen:(e::es).length+1=ps.length:=by rfl) (hg:Gl X x:=by rfl) (xj:(x==("__debug__":Str))=false:=by decide) (he:starEach (e::es) X.env=(false,eval e X.env)::starEach es X.env:=by rfl) (qH:(backTo pos (starEach es X.env)).any (·.1)=false:=by rfl)
  (hA:∀env st as st1,mA env st=.ok as st1->as.length=(e::es).length:=by intros;rfl) :
  JE X (.Call (.Name x p) (e::es) [] pos) (aW F [.int i] mA):=by
 obtain⟨t,hb⟩:=hb;exact CJ (dvs:=[.int i]) (dd:=[.int i]) G hr hm hk hb (.cons ⟨t,rfl⟩ .nil) (λ_ _=>ao.cons (ak.aP.mpr rfl) ao.nil) ha hlen hg xj he qH hA
end
end M
namespace M
open PySem PySem.Spec L2 PyProof.Rows
end M
namespace M
open L2
noncomputable def eG:D->List D->au->R D
 | .loc n,[.loc m],st=>match st[n]?,st[m]? with
  | some (.lst a),some (.lst b)=>if a.length+b.length<=1000000 then .ok .non (st.set n (.lst (a++b))) else .bad
  | _,_=>.bad
 | _,_,_=>.bad
end M
namespace M
open PySem PySem.Spec L2
section
variable  {X:Cx}
def zgh:xx X "list.extend" (Ou X eG):=by
 refine xx.weak Fy ?_;rintro x xs H Q ⟨μ,st,d,ds,hs,hx,uJ,hp⟩;unfold eG at hp
 split at hp
 ·rename_i n m
  split at hp
  ·rename_i a b e1 e2
   split at hp
   ·rename_i hl;obtain⟨p,q1,rfl⟩:=ak.aL.mp hx;obtain⟨v,rfl,q⟩:=ao.one uJ;obtain⟨p2,q2,rfl⟩:=ak.aL.mp q;obtain⟨p',ys,r1,r2,r3⟩:=hs.lst e1;rw[q1]at r1;cases r1;obtain⟨p2',zs,s1,s2,s3⟩:=hs.lst e2;rw[q2]at s1;cases s1;obtain⟨g,su⟩:=yh hs e1 q1 r2 (r3.append s3);refine⟨p,p2,ys,zs,rfl,rfl,r2,s2,?_,hp _ _ μ g su (ak.bT.mpr rfl)⟩;rw[<-r3.length,<-s3.length];exact Hu hl
   ·exact hp.elim
  ·exact hp.elim
 ·exact hp.elim
end
section
variable  {X:Cx}{pos p:Pos}{x:Str}{k:Nat}{f:Addr}{fd:FuncData}{F:FD}
end
end M
namespace L2
open PySem PySem.Spec PyProof.Rows
noncomputable def iw(L:List (Addr×Obj))(H:Hp):Hp:=λb=>match L.lookup b with | some o=>some (.frz o (.own 0)) | none=>H b
noncomputable def fC(L:List (Addr×Obj))(H:Hp):Hp:=λb=>match L.lookup b with | some _=>none | none=>H b
def ZF(h:L.lookup b=some o):iw L H b=some (.frz o (.own 0)):=by unfold iw;rw[h]
def xX(h:L.lookup b=none):iw L H b=H b:=by unfold iw;rw[h]
def Zz(h:L.lookup b=some o):fC L H b=none:=by unfold fC;rw[h]
def DN(h:L.lookup b=none):fC L H b=H b:=by unfold fC;rw[h]
def G9(h:iw L H b=some u):(∃o,L.lookup b=some o/\u=.frz o (.own 0))\/(L.lookup b=none/\H b=some u):=by
 unfold iw at h;cases e:L.lookup b with
 | some o=>rw[e]at h;cases h;exact .inl ⟨o,rfl,rfl⟩
 | none=>rw[e]at h;exact .inr ⟨rfl,h⟩
def Gy(h:fC L H b=some u):L.lookup b=none/\H b=some u:=by
 unfold fC at h;cases e:L.lookup b with
 | some o=>rw[e]at h;cases h
 | none=>rw[e]at h;exact⟨rfl,h⟩
section
variable  {P:Program}{w:World}{H H':Hp}{h h':Heap}{L:List (Addr×Obj)}
def qL.iw(x:qL P w H h)(n:∀b o,L.lookup b=some o->H b=none)(k:∀b o,L.lookup b=some o->h.get? b=some o):qL P w (iw L H) h:=λa u e=>by
 have up:∀b v,H b=some v->L2.iw L H b=some v:=λb v q=>by
  cases z:L.lookup b with
  | some o=>rw[n b o z]at q;cases q
  | none=>rw[xX z];exact q
 rcases G9 e with⟨o,e1,rfl⟩ | ⟨e1,e2⟩
 ·exact⟨k a o e1,o,k a o e1⟩
 ·exact (x a u e2).tX (λ_ _ _ q=>q) (λb q=>up b _ q) λb xs q=>up b _ q
def qL.fC(x:qL P w H h)(n:∀b o,L.lookup b=some o->∃o',H b=some (.frz o' (.own 0))):qL P w (fC L H) h:=λa u e=>by
 have up:∀b v,H b=some v->(∀o',v≠.frz o' (.own 0))->L2.fC L H b=some v:=λb v q z=>by
  cases y:L.lookup b with
  | some o =>
   obtain⟨o',e'⟩:=n b o y;rw[e']at q;exact absurd (afa q).symm (z o')
  | none=>rw[DN y];exact q
 obtain⟨_,e2⟩:=Gy e;exact (x a u e2).tX (λ_ _ _ q=>q) (λb q=>up b _ q λ_ z=>nomatch z) λb xs q=>up b _ q λ_ z=>nomatch z
end
section
variable  {X:Cx}{k:Nat}{f:Addr}{fd:FuncData}{ps:List Str}{sp:Sp}{dvs:List V}{ds:List Value}{pins:List (Addr×Obj)}{σ:St}{H:Hp}{s:Shared}{Q:VK}{us:List Value}{vs:List V}
def Oe(F:bu X.prog X.w X.K X.mg X.base jH k f fd ps sp)(hr:dX k X.A)(hb:Binds X.K fd ps ds)(hd:Vals dvs ds)(I:Inv X pins σ H s) 
  (hL:∀b o,L.lookup b=some o->s.heap.get? b=some o/\∃x,X.env.cells.lookup x=some b/\X.fn x=true)
  (r:Vals vs us) (h:sp (vs++dvs) (iw L H) (λv H'=>Q v (fC L H')) E0):wpAny (model X.prog X.w) X.A (call (.ref f) us) (EP X pins σ Q) X.xe s:=by
 have r2:Vals (vs++dvs) (us++ds):=r.append hd;have hl:(us++ds).length=ps.length:=by rw[<-r2.length];exact F.len _ _ _ _ h
 have nL:∀b o,L.lookup b=some o->H b=none:=λb o e=>let ⟨_,x,hx,_⟩:=hL b o e;I.pU x b hx;have e0:=I.QJ;have e1:yN X.prog X.w X.K X.mg X.base X.A X.stack s (iw L H):=by
  refine⟨e0.frames,e0.mod,λb o e=>⟨(e0.bs b o e).1,?_⟩,e0.GZ,e0.sE,λb yE=>?_,I.cz.iw nL λb o e=>(hL b o e).1,e0.bare⟩
  ·cases z:L.lookup b with
   | none=>rw[xX z];exact (e0.bs b o e).2
   | some o' =>
    obtain⟨_,x,hx,hf⟩:=hL b o' z;have h1:=I.ok.Tf x b hf hx;exact absurd (gR (gF e) (kO I.ok.GZ h1)) (mK _)
  ·cases z:L.lookup b with
   | none=>rw[xX z];exact e0.Lb b yE
   | some o' =>
    obtain⟨_,x,hx,hf⟩:=hL b o' z;rcases gj.mp (I.vK b yE) with q | q
    ·exact absurd q (I.Te x b hx)
    ·have h1:=I.ok.Tf x b hf hx;obtain⟨_,o2,Qt,_⟩:=I.ok.sE.mem q;exact absurd (gR (gF Qt) h1) (mK _)
 refine wpAny_call (afP (F.run X.A X.stack s (iw L H) ⟨us,[]⟩ (us++ds) (vs++dvs) _ E0 hr e1 (hb s us I.zN hl) r2 h) λr s' hq=>?_);cases r with
 | error e=>exact False.elim hq
 | ok fl =>
  cases fl with
  | ret u =>
   obtain⟨v,H',os,bare,un,cz,rv,q⟩:=hq;obtain⟨hh,g,d,t,YB⟩:=s';obtain rfl:YB=s.os:=os;have kept:∀b o,L.lookup b=some o->H' b=some (.frz o (.own 0)):=λb o e=>un.uM b o (.own 0) (ZF e);have un':Un (Dh X.stack) [] H (fC L H') s.heap hh:=by
    refine⟨λb o e n hb hx=>?_,λb o e n hb hx=>?_,λb o e n hx=>?_,un.there,λb xs e=>?_,λb o u e=>?_,λb ps e=>?_⟩
    ·cases z:L.lookup b with
     | none=>exact un.keep b o e (by rw[xX z];exact n) hb hx
     | some o' =>
      have e2:=(hL b o' z).1;rw[e]at e2;cases e2;exact (cz b _ (kept b o z)).1
    ·cases z:L.lookup b with
     | none=>exact un.slot b o e (by rw[xX z];exact n) hb hx
     | some o' =>
      have e2:=(hL b o' z).1;rw[e]at e2;cases e2;exact⟨o.slots,(cz b _ (kept b o z)).1⟩
    ·cases z:L.lookup b with
     | none=>rw[DN z];exact un.free b o e (by rw[xX z];exact n) hx
     | some o'=>exact Zz z
    ·have z:L.lookup b=none:=by
      cases z:L.lookup b with
      | none=>rfl
      | some o'=>rw[nL b o' z]at e;cases e
     rw[DN z];exact un.vJ b xs (by rw[xX z];exact e)
    ·have z:L.lookup b=none:=by
      cases z:L.lookup b with
      | none=>rfl
      | some o'=>rw[nL b o' z]at e;cases e
     rw[DN z];exact un.uM b o u (by rw[xX z];exact e)
    ·have z:L.lookup b=none:=by
      cases z:L.lookup b with
      | none=>rfl
      | some o'=>rw[nL b o' z]at e;cases e
     rw[DN z];exact un.vf b ps (by rw[xX z];exact e)
   exact⟨v,fC L H',I.call (h':=hh) (g':=g) (d':=d) (t':=t) (ch:=[]) un' (cz.fC λb o e=>⟨o,kept b o e⟩) bare (λb z=>absurd z (by simp)),rv,q⟩
  | next=>exact False.elim hq
  | brk=>exact False.elim hq
  | cont=>exact False.elim hq
end
def BMain(mg:Str->Option Value)(base:Heap):Prop :=
 ∃bm o,mg "__builtins__" = some (.ref bm)/\bm≠builtinsNs/\bm≠mainGlobals/\base.get? bm=some o/\o.cls=.type "module"/\o.dict=some builtinsNs/\o.data=.plain
def ab0(H:Hp)(P:Addr)(q:Str):Prop:=∃ps:Array Value,H P=some (.tbl ps)/\TriplesOk ps.toList/\∀pos cv,codeAmong pos ps.toList=some cv->∃c',cv=.ref c'/\M.ur H c' q
structure wJ(H H':Hp)(P f c':Addr)(q:Str)(ob:Obj):Prop where
 new:H' f=some (.frz ob (.own 0))
 nf:H f=none
 code:M.ur H' c' q
 tab:ab0 H' P q
 same:∀b u,b≠P->H b=some u->H' b=some u
noncomputable def acp(P:Addr)(q:Str)(params:Arguments)(body:Expr)(scope:Scope)(clos:List (Str×Addr)):TE:=fun σ H Q=>ab0 H P q /\
 ∀f c' pm ug H',wJ H H' P f c' q (PySem.W.kla_obj "<lambda>" q params body scope clos pm c' ug)->Q (.ref f) H'
def zkq(ht:TriplesOk l)(hn:codeAmong pos l=none)(h:codeAmong pos' (l++[rawInt pos.line,rawInt pos.col,c])=some cv):codeAmong pos' l=some cv\/cv=c:=by
 clear hn
 fun_induction TriplesOk l with
 | case1 =>
  simp only[k_,codeAmong,rawInt]at h
  split at h
  ·cases h;exact .inr rfl
  ·cases h
 | case2 a t b u x rest ih =>
  simp only[kJ,codeAmong]at h ⊢
  split at h
  ·rename_i hc;rw[ae9 hc];exact .inl h
  ·rename_i hc;rw[ae_ hc];exact ih ht h
 | case3 l h1 h2=>exact ht.elim
section
variable  {X:Cx}{P c:Addr}{q:Str}{params:Arguments}{body:Expr}{scope:Scope}{clos:List (Str×Addr)}{pos:Pos}
def Vu(hB:BMain X.mg X.base)(hc:X.env.code=.ref c)(hh:PySem.W.codeHdIn X.K c P=true)(hq:X.env.qual ++ "<lambda>" = q)(uc:closureFor scope X.env=pure clos)(W8:defaultsOf params X.env=([],[]):=by rfl) :
  PE X (.Lambda params body scope pos) (acp P q params body scope clos):=by
 rintro pins s σ H Q I ⟨⟨ps,hP,ht,Am⟩,h⟩;refine PySem.W.kla_eval W8 ?_;rw[hq];have oP:s.heap.get? P=some (PySem.W.tabObj ps):=I.cz P _ hP;have hg:s.heap.Ns mainGlobals X.mg:=I.mod.glob.keeps I.bk;have CH:PySem.W.CodeHd s.heap c P:=PySem.W.codeHd_of_K I.zN hh;have hgP:mainGlobals≠P:=λz=>by
  obtain⟨o,es,ep,e,d,_⟩:=hg;rw[z,oP]at e;cases e;cases d
 have hb:s.heap.BuiltinsAt X.mg P:=by
  obtain⟨bm,o,b1,b2,b3,b4,b5,b6,b7⟩:=hB;have e:=I.bk bm o b4;refine⟨bm,o,b1,b2,b3,λz=>?_,e,b5,b6,b7⟩;rw[z,oP]at e;cases e;cases b7
 have hLP:X.env.locals≠P:=λz=>by have:=I.free;rw[z,hP]at this;cases this
 cases hca:codeAmong pos ps.toList with
 | none =>
  refine PySem.W.kla_makeFunction (mg:=X.mg) uc I.ok.glob hg hc CH oP ht hca hgP hb λc' ug h' tk hx hge KY adn htb=>?_;obtain⟨c2,oc,vs,t,e2,WN,hd,hv⟩:=adn;cases e2;have hsz:s.heap.objs.size<=h'.objs.size:=kO hge (Nat.le_of_lt KY);have nc:H c'=none:=I.cz.fresh hge;have nf:H h'.objs.size=none:=I.cz.fresh hsz;have cf:c'≠h'.objs.size:=gU KY;have cP:c'≠P:=λz=>by rw[z,hP]at nc;cases nc
  have fP:h'.objs.size≠P:=λz=>by rw[z,hP]at nf;cases nf
  let ob:Obj:=PySem.W.kla_obj "<lambda>" q params body scope clos ((X.mg "__name__").getD .none) c' ug
  let ps':Array Value:=ps++#[rawInt pos.line,rawInt pos.col,.ref c']
  let H1:Hp:=upd H P (.tbl ps')
  let H2:Hp:=upd H1 c' (.frz oc (.own 0))
  let H':Hp:=upd H2 h'.objs.size (.frz ob (.own 0))
  have s1:∀b u,b≠P->H b=some u->H' b=some u:=λb u Qy e=>by
   have n1:b≠h'.objs.size:=yZ e nf;have n2:b≠c':=yZ e nc;show upd H2 h'.objs.size _ b=_;rw[iD n1];show upd H1 c' _ b=_;rw[iD n2];show upd H P _ b=_;rw[iD Qy];exact e
  have atP:H' P=some (.tbl ps'):=by
   show upd H2 h'.objs.size _ P=_;rw[iD (afv fP)];show upd H1 c' _ P=_;rw[iD (afv cP)];exact rQ
  have atc:H' c'=some (.frz oc (.own 0)):=by
   show upd H2 h'.objs.size _ c'=_;rw[iD cf];exact rQ
  have atf:H' h'.objs.size=some (.frz ob (.own 0)):=rQ;have back:∀b u,H' b=some u->b=h'.objs.size\/b=c'\/b=P\/(b≠P/\H b=some u):=λb u e=>by
   by_cases n1:b=h'.objs.size
   ·exact .inl n1
   by_cases n2:b=c'
   ·exact .inr (.inl n2)
   by_cases n3:b=P
   ·exact .inr (.inr (.inl n3))
   ·refine .inr (.inr (.inr ⟨n3,?_⟩));have e:upd H2 h'.objs.size _ b=some u:=e;rw[iD n1]at e;have e:upd H1 c' _ b=some u:=e;rw[iD n2]at e;have e:upd H P _ b=some u:=e;rw[iD n3]at e;exact e
  have kp:∀b o,b≠P->s.heap.get? b=some o->(h'.push ob).get? b=some o:=λb o Qy e=>gJ _ (hx b o Qy e);have ext:M.Ext H H':=⟨λb xs e=>s1 b _ (λz=>by rw[z,hP]at e;cases e) e,λb o u e=>s1 b _ (λz=>by rw[z,hP]at e;cases e) e⟩;have new:wJ H H' P h'.objs.size c' q ob:=by
   refine⟨atf,nf,⟨oc,vs,t,atc,hd,hv⟩,⟨ps',atP,?_,λpos' cv e=>?_⟩,s1⟩
   ·show TriplesOk (ps++#[rawInt pos.line,rawInt pos.col,Value.ref c']).toList;rw[Array.toList_append];exact TriplesOk_snoc _ _ _ _ ht
   ·have e':codeAmong pos' (ps.toList++[rawInt pos.line,rawInt pos.col,Value.ref c'])=some cv:=by
     rw[<-Array.toList_append];exact e
    rcases zkq ht hca e' with e1 | e1
    ·obtain⟨c2,q1,q2⟩:=Am pos' cv e1;exact⟨c2,q1,q2.ext ext⟩
    ·exact⟨c',e1,⟨oc,vs,t,atc,hd,hv⟩⟩
  refine⟨.ref h'.objs.size,H',?_,rfl,h _ _ _ _ _ new⟩;have nP:∀b,H b=none->b≠P:=λb n z=>by rw[z,hP]at n;cases n
  refine I.step (g':=s.gens) (d':=s.drawn) (ch:=[]) (λ_ z=>nomatch z) (λb o _ _ _ e n=>kp b o (nP b n) e) (λb o _ _ _ e n=>⟨o.slots,kp b o (nP b n) e⟩) (λb o _ e n=>?_) (λb o _ e=>?_)
   (λb xs e=>ext.tup b xs e) (λb o u e=>ext.frz b o u e) (λb ps2 e=>?_) (λm hm=>(hm.extBut hx hLP).push _) (λb u e=>?_) I.bare
  ·cases z:H' b with
   | none=>rfl
   | some u =>
    have lt:=gF e;rcases back b u z with z1 | z1 | z1 | ⟨_,z1⟩
    ·rw[z1]at lt;exact absurd (gR lt hsz) (mK _)
    ·rw[z1]at lt;exact absurd (gR lt hge) (mK _)
    ·exact absurd z1 (nP b n)
    ·rw[n]at z1;cases z1
  ·by_cases Qy:b=P
   ·subst Qy;exact⟨_,gJ _ htb⟩
   ·exact⟨o,kp b o Qy e⟩
  ·by_cases Qy:b=P
   ·subst Qy;rw[hP]at e;cases e;exact⟨_,atP⟩
   ·exact⟨#[],by rw[s1 b _ Qy e];simp⟩
  ·rcases back b u e with z1 | z1 | z1 | ⟨z0,z1⟩
   ·subst z1;rw[atf]at e;cases e;exact⟨h_ _ rfl,ob,h_ _ rfl⟩
   ·subst z1;rw[atc]at e;cases e;exact⟨gJ _ WN,oc,gJ _ WN⟩
   ·subst z1;rw[atP]at e;cases e;exact gJ _ htb
   ·have JH:∀b2 u2,H b2=some u2->(∀ps2,u2≠.tbl ps2)->H' b2=some u2:=λb2 u2 q z=>s1 b2 u2 (λy=>by rw[y,hP]at q;exact z _ (afa q).symm) q;refine (I.cz b u z1).tX (λc2 v hc q=>kp c2 v ?_ q) (λc2 q=>JH c2 _ q λ_ z=>nomatch z) λc2 xs q=>JH c2 _ q λ_ z=>nomatch z;rcases hc with y | y
    ·rw[y];exact z0
    ·exact λy2=>by rw[y2,hP]at y;cases y
 | some cv =>
  obtain⟨c',rfl,zm⟩:=Am pos cv hca;refine PySem.W.kla_makeFunctionHit (mg:=X.mg) uc I.ok.glob hg hc CH oP ht hca hb λug h' tk hk hsz=>?_;have nf:H h'.objs.size=none:=I.cz.fresh hsz
  let ob:Obj:=PySem.W.kla_obj "<lambda>" q params body scope clos ((X.mg "__name__").getD .none) c' ug
  have kp:∀b o,s.heap.get? b=some o->(h'.push ob).get? b=some o:=λb o e=>gJ _ (hk b o e);have s1:∀b u,H b=some u->upd H h'.objs.size (.frz ob (.own 0)) b=some u:=λb u e=>by rw[iD (yZ e nf)];exact e
  have ext:M.Ext H (upd H h'.objs.size (.frz ob (.own 0))):=⟨λb xs e=>s1 b _ e,λb o u e=>s1 b _ e⟩;refine⟨.ref h'.objs.size,upd H h'.objs.size (.frz ob (.own 0)),I.laid (t':=tk) kp (by exact hsz) ⟨h_ _ rfl,ob,h_ _ rfl⟩,rfl,h _ c' _ _ _ ⟨rQ,nf,zm.ext ext,⟨ps,s1 _ _ hP,ht,λpos' cv e=>?_⟩,λb u _ e=>s1 b u e⟩⟩;obtain⟨c2,q1,q2⟩:=Am pos' cv e;exact⟨c2,q1,q2.ext ext⟩
end
def zj3{cl:List (Str×Addr)}(nd:(cl.map (·.2)).Nodup){x y:Str}{c:Addr}(h1:cl.lookup x=some c)(h2:cl.lookup y=some c):x=y:=by
 induction cl with
 | nil=>cases h1
 | cons p cl ih =>
  obtain⟨z,d⟩:=p;rw[gB,mR]at nd;have mem:∀w,cl.lookup w=some c->c∈cl.map (·.2):=λw e=>g8.mpr ⟨(w,c),afe e,rfl⟩;rw[kY]at h1 h2;by_cases e1:(x==z)=true
  ·simp only[e1]at h1;cases h1;by_cases e2:(y==z)=true
   ·rw[eq_of_beq e1,eq_of_beq e2]
   ·simp only[show (y==z)=false by simpa using e2]at h2;exact absurd (mem y h2) nd.1
  ·simp only[show (x==z)=false by simpa using e1]at h1;by_cases e2:(y==z)=true
   ·simp only[e2]at h2;cases h2;exact absurd (mem x h1) nd.1
   ·simp only[show (y==z)=false by simpa using e2]at h2;exact ih nd.2 h1 h2
def FJ{β:Type}{cl:List (Str×β)}{x:Str}(h:x∈cl.map (·.1)):∃c,cl.lookup x=some c:=by
 induction cl with
 | nil=>cases h
 | cons p cl ih =>
  rw[kY];by_cases e:(x==p.1)=true
  ·simp only[e];exact⟨_,rfl⟩
  ·simp only[show (x==p.1)=false by simpa using e];refine ih ?_;rcases gj.mp h with z | z
   ·rw[z]at e;simp at e
   ·exact z
def lookup_mem{β:Type}{l:List (Str×β)}{x:Str}{u:β}(nd:(l.map (·.1)).Nodup)(h:(x,u)∈l):l.lookup x=some u:=by
 induction l with
 | nil=>cases h
 | cons p l ih =>
  rw[gB,mR]at nd;rw[kY];rcases gj.mp h with z | z
  ·subst z;simp
  ·have:(x==p.1)=false:=by
    have hx:x∈l.map (·.1):=g8.mpr ⟨(x,u),z,rfl⟩;have:x≠p.1:=λy=>nd.1 (y ▸ hx);simpa using this
   simp only[this];exact ih nd.2 z
theorem zko:∀{cl:List (Str×Addr)} {vs:List V},M.iZ H cl vs->(cl.map (·.2)).Nodup->∃L:List (Addr×Obj),(∀b o,L.lookup b=some o->H b=some (.frz o (.own 0))/\∃u,o.data=.cell (some u)) /\
  (∀(i:Nat) (x:Str) (c:Addr),cl[i]? = some (x,c)->∃v o u,vs[i]? = some v/\L.lookup c=some o/\o.data=.cell (some u)/\RelV v u)/\vs.length=cl.length
 | [],vs,h,_=>by
  have h:vs=[]:=h;subst h;exact⟨[],λb o e=>by simp at e,λi x c e=>by simp at e,rfl⟩
 | (x,c)::cl,_,⟨v,r,o,u,rfl,h2,h3,h4,h5⟩,nd=>by
  rw[gB,mR]at nd;obtain⟨L,zR,Xe,hlen⟩:=zko h5 nd.2;refine⟨(c,o)::L,λb o' e=>?_,λi y d e=>?_,by simp[hlen]⟩
  ·rw[kY]at e;by_cases hb:(b==c)=true
   ·simp only[hb]at e;cases e;rw[eq_of_beq hb];exact⟨h2,u,h3⟩
   ·simp only[show (b==c)=false by simpa using hb]at e;exact zR b o' e
  ·cases i with
   | zero =>
    simp at e;obtain⟨rfl,rfl⟩:=e;exact⟨v,o,u,rfl,by rw[kY];simp,h3,h4⟩
   | succ i =>
    have e:cl[i]? = some (y,d):=by simpa using e
    obtain⟨v',o',u',q1,q2,q3,q4⟩:=Xe i y d e;have hd:(d==c)=false:=by
     have:d∈cl.map (·.2):=g8.mpr ⟨(y,d),gM e,rfl⟩;have:d≠c:=λz=>nd.1 (z ▸ this);simpa using this
    exact⟨v',o',u',by simpa using q1,by rw[kY];simp only[hd];exact q2,q3,q4⟩
structure zJ(cn ps:List Str)(sc:Scope):Prop where
 kind:sc.kind=.function
 co:sc.isCoroutine=false
 gen:sc.isGenerator=false
 nd:(cn++ps).Nodup
 free:∀y∈sc.names,y.2=.free->y.1∈cn
 JM:∀y∈sc.names,y.2≠.cell
 Wo:∀x∈cn,sc.names.lookup x=some .free
 par:∀x∈ps,sc.names.lookup x=some .local
noncomputable def Cv(P:Program)(w:World)(K:PySem.W.Frag)(mg:Str->Option Value)(base:Heap)(N:List Str)(qual:Str)(scope:Scope)(f:Addr)(cd:Value)(cl:List (Str×Addr))(A:Around)(outer:List Env)(s:Shared)(H:Hp):Cx where
 prog:=P
 w:=w
 K:=K
 mg:=mg
 base:=base
 A:=A.deeper (PySem.W.envX qual scope s.heap.objs.size f cd cl)
 N:=N
 aeY:=s
 ae6:=H
 env:=PySem.W.envX qual scope s.heap.objs.size f cd cl
 outer:=outer
 stack:=PySem.W.envX qual scope s.heap.objs.size f cd cl::outer
 ex:=[]
 calm:=true
 fn:=λ_=>false
 pn:=[]
 xe:=λ_ _=>False
section
variable  {P:Program}{w:World}{K:PySem.W.Frag}{mg:Str->Option Value}{base:Heap}{A:Around}{outer:List Env}{s:Shared}{H:Hp}{qual:Str}{params:Arguments}{body:Expr}{scope:Scope}{cl:List (Str×Addr)}{pm ug:Value}{c' f:Addr}{k:Nat}
 {cn ps:List Str} {us:List Value} {vs Nx:List V} {Q:VK} {t:TE}
def Qc(e0:yN P w K mg base A outer s H)(hr:dX (k+1) A)(S:zJ cn ps scope)(hf:H f=some (.frz (PySem.W.kla_obj "<lambda>" qual params body scope cl pm c' ug) (.own 0)))(zm:M.ur H c' qual)
  (Sh:cl.map (·.1)=cn) (xQ:(cl.map (·.2)).Nodup) (yC:M.iZ H cl Nx) (hb:bindArgs (PySem.W.kla_fn "<lambda>" qual params body scope cl pm (.ref c') ug) ⟨us,[]⟩=pure (ps.zip us)) (hl:us.length=ps.length) (r:Vals vs us)
  (rm:∀L:List (Addr×Obj),(∀b o,L.lookup b=some o->H b=some (.frz o (.own 0))/\∃u,o.data=.cell (some u))->∃t,PE (Cv P w K mg base (cn++ps) qual scope f (.ref c') cl A outer s (fC L H)) body t/\t ((Nx++vs).map some) (fC L H) λv H'=>(∀b o,L.lookup b=some o->H' b=none)->Q v (iw L H')) :
  codeAny (model P w) A (.call (.ref f) ⟨us,[]⟩) (CR jH outer P w H s Q E0) s:=by
 obtain⟨L,zR,Xe,R9⟩:=zko yC xQ;obtain⟨t,hPE,ht⟩:=rm L zR;have of:=(e0.cz f _ hf).1;obtain⟨oc,cvs,ct,hc1,Ho,hc3⟩:=zm;have occ:=(e0.cz c' _ hc1).1;have lim:s.heap.NoLimit:=e0.mod.nolimit.keeps λb o e=>(e0.bs b o e).1;have cellIn:∀x c,cl.lookup x=some c->∃i,cl[i]? = some (x,c):=λx c e=>by
  obtain⟨i,hi,e2⟩:=List.getElem_of_mem (afe e);exact⟨i,by rw[kj hi,e2]⟩
 have abK:∀x c,cl.lookup x=some c->∃o,L.lookup c=some o:=λx c e=>by
  obtain⟨i,hi⟩:=cellIn x c e;obtain⟨_,o,_,_,q,_⟩:=Xe i x c hi;exact⟨o,q⟩
 have abp:qL P w (fC L H) s.heap:=e0.cz.fC λb o e=>⟨o,(zR b o e).1⟩;refine PySem.W.kla_callFunE hr.depth of rfl S.co S.gen rfl ⟨c',oc,cvs,ct,rfl,occ,Ho,hc3⟩ ?_;rw[hb];have adu:∀x∈ps.zip us,scope.names.lookup x.1=some .local:=λ⟨n,v⟩ hy=>S.par n (nZ hy).1;refine ae8 (wpAny_newFunctionEnv S.JM adu (λae5 zP YZ=>⟨lim.fresh _ YZ,?_⟩) S.kind);have ab9:∀b o,s.heap.get? b=some o->ae5.get? b=some o:=λb o e=>YZ.extBut b o (gU (gF e)) (gJ _ e);show codeAny _ _ (.expr body (PySem.W.envX qual scope s.heap.objs.size f (.ref c') cl)) _ _;have PJ:∀b:Addr,b∉(Cv P w K mg base (cn++ps) qual scope f (.ref c') cl A outer s (fC L H)).ex:=λb z=>absurd (show b∈([]:List Addr) from z) (by simp);have zB:∀b,H b=none->fC L H b=none:=λb n=>by
  cases z:L.lookup b with
  | some o=>exact Zz z
  | none=>rw[DN z];exact n
 have I:Inv (Cv P w K mg base (cn++ps) qual scope f (.ref c') cl A outer s (fC L H)) [] ((Nx++vs).map some) (fC L H) { s with heap:=ae5,toks:=s.toks+(ps.zip us).length }:=by
  refine⟨⟨e0.mod,S.kind,rfl,rfl,gf _,λy z c h1 h2=>zj3 xQ h1 h2,λy hy=>?_,λy c z _=>(by cases z),λ_=>hr.hd,Around.frames_deeper e0.frames,.inr ⟨rfl,rfl⟩,λb z=>absurd z (PJ b),λb o e=>⟨(e0.bs b o e).1,zB b (e0.bs b o e).2⟩,e0.GZ,λb _ _=>PJ b,λb z=>absurd z (PJ b),e0.sE,λb yE=>zB b (e0.Lb b yE)⟩,
   rfl,e0.bare,Un.kept ab9,⟨_,zP,λi y v h1 h2 h3=>?_⟩,λy c h=>?_,abp.fresh (gf _),λy c h=>?_,λp hp=>absurd (show p∈([]:List (Addr×Obj)) from hp) (by simp),abp.kept ab9,?_⟩
  ·have hy:scope.names.lookup y=some .cell\/scope.names.lookup y=some .free:=hy;rcases hy with hy | hy
   ·exact absurd rfl (S.JM _ (afe hy))
   ·have hm:=S.free _ (afe hy) rfl;rw[<-Sh]at hm;obtain⟨p,hp,rfl⟩:=g8.mp hm;exact FJ (g8.mpr ⟨p,hp,rfl⟩)
  ·have ndc:(cl.map (·.1)).Nodup:=by rw[Sh];exact (nR.mp S.nd).1
   have ndp:ps.Nodup:=(nR.mp S.nd).2.1;have uc:cn.length=cl.length:=by rw[<-Sh,gq]
   have h2:(Nx++vs)[i]? = some v:=by
    rw[gH]at h2;cases q:(Nx++vs)[i]? with
    | none=>rw[q]at h2;cases h2
    | some v'=>rw[q]at h2;cases h2;rfl
   have h1:(cn++ps)[i]? = some y:=h1;by_cases hi:i<cn.length
   ·rw[gP hi]at h1;rw[gP (by rw[R9,<-uc];exact hi)]at h2;have hci:i<cl.length:=by omega
    have ec:cl[i]? = some (y,(cl[i]).2):=by
     rw[kj hci];have:(cl.map (·.1))[i]? = some y:=by rw[Sh];exact h1
     rw[gH,kj hci]at this;have e:cl[i].1=y:=afa this;rw[<-e]
    obtain⟨v',o,u,q1,q2,q3,q4⟩:=Xe i y _ ec;rw[h2]at q1;cases q1;refine⟨u,q4,.inr ⟨.inr (S.Wo y (gM h1)),_,lookup_mem ndc (gM ec),o,ab9 _ _ (e0.cz _ _ (zR _ o q2).1).1,q3⟩⟩
   ·rw[gw (by omega)]at h1;rw[gw (by omega)]at h2;have hij:i - Nx.length=i - cn.length:=by omega
    rw[hij]at h2;obtain⟨u,hu,rv⟩:=r.get h2;refine⟨u,rv,.inl ⟨S.par y (gM h1),?_⟩⟩;have hm:(y,u)∈(ps.zip us).reverse:=by
     rw[List.mem_reverse];refine gM (i:=i - cn.length) ?_;rw[List.getElem?_zip_eq_some];exact⟨h1,hu⟩
    refine lookup_mem ?_ hm;rw[List.map_reverse,List.map_fst_zip (by omega)];exact List.pairwise_reverse.mpr (ndp.imp λh=>afv h)
  ·obtain⟨i,hi⟩:=cellIn y c h;obtain⟨v,o,u,_,q2,q3,_⟩:=Xe i y c hi;exact⟨some u,o,ab9 _ _ (e0.cz c _ (zR c o q2).1).1,q3⟩
  ·obtain⟨o,q⟩:=abK y c h;exact Zz q
  ·show ((Nx++vs).map some).length=(cn++ps).length;rw[gq,gh,gh,R9,<-Sh,gq,r.length,hl]
 refine PySem.W.kla_codeExpr (afr (hPE [] _ _ _ _ I ht) (λv s' h=>?_) λe s' h=>h.elim);obtain⟨x,H',J,rx,q⟩:=h;obtain⟨hh,g,d,tk,YB⟩:=s';have jb:Un (Dh outer) [] (fC L H) H' s.heap hh:=J.base;have kc:∀b o,L.lookup b=some o->hh.get? b=some o/\H' b=none:=λb o e=>by
  have e1:=(e0.cz b _ (zR b o e).1).1;have nfr:b∉Dh outer:=λz=>by have:=e0.Lb b z;rw[(zR b o e).1]at this;cases this
  exact⟨jb.keep b o e1 (Zz e) nfr (by simp),jb.free b o e1 (Zz e) (by simp)⟩
 refine⟨x,iw L H',J.os,J.bare,⟨λb o e n yE hx=>?_,λb o e n yE hx=>?_,λb o e n hx=>?_,jb.there,λb xs e=>?_,λb o u e=>?_,λb ps e=>?_⟩,J.cz.iw (λb o e=>(kc b o e).2) (λb o e=>(kc b o e).1),rx,q λb o e=>(kc b o e).2⟩
 ·exact jb.keep b o e (zB b n) yE hx
 ·exact jb.slot b o e (zB b n) yE hx
 ·have z:L.lookup b=none:=by
   cases z:L.lookup b with
   | none=>rfl
   | some o'=>rw[(zR b o' z).1]at n;cases n
  rw[xX z];exact jb.free b o e (zB b n) hx
 ·have z:L.lookup b=none:=by
   cases z:L.lookup b with
   | none=>rfl
   | some o'=>rw[(zR b o' z).1]at e;cases e
  rw[xX z];exact jb.vJ b xs (by rw[DN z];exact e)
 ·cases z:L.lookup b with
  | some o' =>
   rw[(zR b o' z).1]at e;cases e;exact ZF z
  | none=>rw[xX z];exact jb.uM b o u (by rw[DN z];exact e)
 ·have z:L.lookup b=none:=by
   cases z:L.lookup b with
   | none=>rfl
   | some o'=>rw[(zR b o' z).1]at e;cases e
  rw[xX z];exact jb.vf b ps (by rw[DN z];exact e)
end
end L2
namespace M
open PySem PySem.Spec L2
mutual
theorem ak.cX(e:∀b xs,H b=some (.tup xs)->H' b=some (.tup xs)):∀(d:D) {v:V},ak K μ H d v->ak K μ H' d v
 | .non,_,h=>by simpa[ak] using h
 | .bl _,_,h=>by simpa[ak] using h
 | .int _,_,h=>by simpa[ak] using h
 | .str _,_,h=>by simpa[ak] using h
 | .tup ds,_,h=>by
  rw[ak]at h ⊢;obtain⟨a,xs,rfl,h1,h2⟩:=h;exact⟨a,xs,rfl,h1.elim (λz=>.inl (e _ _ z)) .inr,ao.cX e ds h2⟩
 | .loc n,_,h=>by
  rw[ak]at h ⊢;exact h
theorem ao.cX(e:∀b xs,H b=some (.tup xs)->H' b=some (.tup xs)):∀(ds:List D) {vs:List V},ao K μ H ds vs->ao K μ H' ds vs
 | [],_,h=>by simpa[ao] using h
 | d::ds,_,h=>by
  rw[ao]at h ⊢;obtain⟨v,r,rfl,h1,h2⟩:=h;exact⟨v,r,rfl,ak.cX e d h1,ao.cX e ds h2⟩
end
theorem aN.cX(e:∀b xs,H b=some (.tup xs)->H' b=some (.tup xs)):∀{ds:List (κ×D)} {vs:List (κ×V)},aN K μ H ds vs->aN K μ H' ds vs
 | [],_,h=>h
 | (k,d)::ds,_,⟨v,r,e1,h1,h2⟩=>⟨v,r,e1,h1.cX e d,aN.cX e h2⟩
noncomputable def MO.dU:MO->Bool
 | .clo _ _ _=>true
 | _=>false
def uv(L:List (Addr×Obj))(H:Hp):Prop:=∀b o,L.lookup b=some o->H b=some (.frz o (.own 0))/\∃u,o.data=.cell (some u)
def uv.del(h:uv L H)(e:H b=some u)(n:∀o,u=.frz o (.own 0)->∀v,o.data≠.cell v):fC L H b=some u:=by
 cases z:L.lookup b with
 | none=>rw[DN z];exact e
 | some o =>
  obtain⟨e1,v,hv⟩:=h b o z;rw[e]at e1;exact absurd hv (n o (afa e1) _)
def jW.del(hL:uv L H)(hc:o.dU=false)(h:jW K μ H a o):jW K μ (fC L H) a o:=by
 have ht:∀b xs,H b=some (.tup xs)->fC L H b=some (.tup xs):=λb xs e=>hL.del e λ_ z=>nomatch z;cases o with
 | lst ds=>obtain⟨xs,h1,h2⟩:=h;exact⟨xs,hL.del h1 (λ_ z=>nomatch z),h2.cX ht⟩
 | frz ds =>
  obtain⟨xs,h1,h2⟩:=h;refine⟨xs,?_,h2.cX ht⟩;rcases h1 with⟨o,h1⟩ | h1
  ·exact .inl ⟨o,hL.del h1 λ_ z=>(by cases z)⟩
  ·exact .inr h1
 | dic kvs=>obtain⟨ws,h1,h2⟩:=h;exact⟨ws,hL.del h1 (λ_ z=>nomatch z),h2.cX ht⟩
 | dkc kvs=>obtain⟨ws,h1,h2⟩:=h;exact⟨ws,hL.del h1 (λ_ z=>nomatch z),h2.cX ht⟩
 | dkf kvs=>obtain⟨ws,o,h1,h2⟩:=h;exact⟨ws,o,hL.del h1 (λ_ z=>(by cases z)),h2.cX ht⟩
 | dtf kvs=>obtain⟨ws,o,h1,h2⟩:=h;exact⟨ws,o,hL.del h1 (λ_ z=>(by cases z)),h2.cX ht⟩
 | exc c d=>obtain⟨oe,C,dx,od,v,fs,h1,h2,h3,h4,h5,h6,h7⟩:=h;exact⟨oe,C,dx,od,v,fs,hL.del h1 (λo z w q=>(by cases z;rw[h4]at q;cases q)),h2,h3,h4,hL.del h5 (λ_ z=>(by cases z)),h6,h7.cX ht d⟩
 | ins c fs=>obtain⟨C,dx,ws,h0,h1,h2⟩:=h;exact⟨C,dx,ws,h0,hL.del h1 (λ_ z=>nomatch z),h2.cX ht⟩
 | tab x =>
  obtain⟨h0,ps,h1,h2,h3⟩:=h;refine⟨h0,ps,hL.del h1 (λ_ z=>nomatch z),h2,λpos cv e=>?_⟩;obtain⟨c',e1,oc,vs,t,e2,e3,e4⟩:=h3 pos cv e;exact⟨c',e1,oc,vs,t,hL.del e2 (λo z v=>by cases z;rw[e3];exact λy=>nomatch y),e3,e4⟩
 | clo j l ds=>cases hc
 | hid=>trivial
noncomputable def fJ(st:au):au:=st.map λo=>if o.dU then .hid else o
def zjk(st:au):(fJ st).length=st.length:=by simp[fJ]
def ziy{st:au}{n:Nat}{o:MO}(h:(fJ st)[n]? = some o):∃o',st[n]? = some o'/\((o'.dU=true/\o=.hid)\/(o'.dU=false/\o=o')):=by
 unfold fJ at h;rw[gH]at h;cases e:st[n]? with
 | none=>rw[e]at h;cases h
 | some o' =>
  rw[e]at h;refine⟨o',rfl,?_⟩;have h:(if o'.dU=true then MO.hid else o')=o:=afa h;by_cases hc:o'.dU=true
  ·rw[ae9 hc]at h;exact .inl ⟨hc,h.symm⟩
  ·rw[ae_ hc]at h;exact .inr ⟨by simpa using hc,h.symm⟩
def zp5{st:au}{n:Nat}{o:MO}(h:st[n]? = some o):(fJ st)[n]? = some (if o.dU then .hid else o):=by
 unfold fJ;rw[gH,h];rfl
def aV.hide{K:PySem.W.Frag}{μ:List Addr}{H:Hp}{st:au}{L:List (Addr×Obj)}(hL:uv L H)(h:aV K μ H st):aV K μ (fC L H) (fJ st):=by
 refine⟨by rw[h.len,zjk],λn o e=>?_,λi j a oi oj ei ej mi mj hi hj=>?_⟩
 ·obtain⟨o',e1,e2⟩:=ziy e;obtain⟨a,h1,h2⟩:=h.at_ n o' e1;rcases e2 with⟨c,rfl⟩ | ⟨c,rfl⟩
  ·exact⟨a,h1,trivial⟩
  ·exact⟨a,h1,h2.del hL c⟩
 ·obtain⟨oi',e1,e2⟩:=ziy ei;obtain⟨oj',e3,e4⟩:=ziy ej;rcases e2 with⟨_,rfl⟩ | ⟨_,rfl⟩
  ·cases mi
  ·rcases e4 with⟨_,rfl⟩ | ⟨_,rfl⟩
   ·cases mj
   ·exact h.uniq i j a oi oj e1 e3 mi mj hi hj
def aV.Uq{K:PySem.W.Frag}{μ:List Addr}{H H':Hp}{st:au}{L:List (Addr×Obj)}(h0:aV K μ H st)(h:aV K μ H' (fJ st))(hn:∀b o,L.lookup b=some o->H' b=none)(ext:Ext H (iw L H')):aV K μ (iw L H') st:=by
 have up:∀b u,H' b=some u->iw L H' b=some u:=λb u e=>by
  cases z:L.lookup b with
  | none=>rw[xX z];exact e
  | some o=>rw[hn b o z]at e;cases e
 refine⟨h0.len,λn o e=>?_,h0.uniq⟩;by_cases hc:o.dU=true
 ·obtain⟨a,h1,h2⟩:=h0.at_ n o e;refine⟨a,h1,h2.keep ⟨⟨[],by simp⟩,ext⟩ λhm=>?_⟩;cases o<;>simp[MO.dU,MO.mut]at hc hm
 ·have e2:=zp5 e;rw[ae_ hc]at e2;obtain⟨a,h1,h2⟩:=h.at_ n o e2;exact⟨a,h1,h2.keep ⟨⟨[],by simp⟩,⟨λb xs q=>up b _ q,λb o u q=>up b _ q⟩⟩ λ_ u q=>up a u q⟩
structure Tn(P:Program)(w:World)(K:PySem.W.Frag)(mg:Str->Option Value)(base:Heap)(k:Nat)(l:lO)(ps:List Str)(m:ME):Prop where
 sc:zJ l.sH ps l.scope
 bind:∀cl pm c' ug (us:List Value),us.length=ps.length->bindArgs (PySem.W.kla_fn "<lambda>" l.qual l.params l.body l.scope cl pm (.ref c') ug) ⟨us,[]⟩=pure (ps.zip us)
 body:∀(f:Addr) (cd:Value) (cl:List (Str×Addr)) (A:Around) (outer:List Env) (s:Shared) (H:Hp),dX k (A.deeper (PySem.W.envX l.qual l.scope s.heap.objs.size f cd cl)) ->
  JE (Cv P w K mg base (l.sH++ps) l.qual l.scope f cd cl A outer s H) l.body m
open Classical in
noncomputable def Dp(Λ:Nat->lO)(G:Nat->FD)(n:Nat)(as:List D)(st:au):R D:=match st[n]? with
 | some (.clo j l ds)=>if l=Λ j then (match gc (fJ st) (G j (ds++as) (fJ st)) with
  | .ok d st2=>if st2=fJ st/\under st.length d then .ok d st else .bad
  | _=>.bad) else .bad
 | _=>.bad
noncomputable def FQ(n:Nat)(m:ME):FD:=λds st=>if ds.length=n then m (ds.map some) st else .bad
def Mj(P:Program)(w:World)(K:PySem.W.Frag)(mg:Str->Option Value)(base:Heap)(k:Nat)(Λ:Nat->lO)(G:Nat->FD):Prop :=
 ∀j,(∀ds st,G j ds st=.bad)\/∃ps m,Tn P w K mg base k (Λ j) ps m/\G j=FQ ((Λ j).sH.length+ps.length) m
theorem iZ.len:∀{cl:List (Str×Addr)} {vs:List V},iZ H cl vs->vs.length=cl.length
 | [],_,h=>by have h:_=[]:=h;subst h;rfl
 | (_,c)::cl,_,⟨v,r,o,u,h1,_,_,_,h5⟩=>by subst h1;simp[iZ.len h5]
def uv.back(hL:uv L H)(e:Ext (fC L H) H')(hn:∀b o,L.lookup b=some o->H' b=none):Ext H (iw L H'):=by
 have up:∀b u,H' b=some u->iw L H' b=some u:=λb u e=>by
  cases z:L.lookup b with
  | none=>rw[xX z];exact e
  | some o=>rw[hn b o z]at e;cases e
 refine⟨λb xs q=>up b _ (e.tup b xs (hL.del q λ_ z=>nomatch z)),λb o u q=>?_⟩;cases z:L.lookup b with
 | none=>exact up b _ (e.frz b o u (by rw[DN z];exact q))
 | some o' =>
  have q2:=(hL b o' z).1;rw[q]at q2;cases q2;exact ZF z
noncomputable def callC(Λ:Nat->lO)(G:Nat->FD)(i:Nat)(mA:MA):ME:=λenv st=>match env[i]? with
 | some (some (.loc n))=>(match st[n]? with
  | some (.clo _ _ _)=>(mA env st).bind λas st1=>Dp Λ G n as st1
  | _=>.bad)
 | _=>.bad
section
variable  {X:Cx}{e:Expr}{es:List Expr}{mA:MA}{pos p:Pos}{x:Str}{k:Nat}{Λ:Nat->lO}{G:Nat->FD}
def Ky(hΛ:Mj X.prog X.w X.K X.mg X.base k Λ G)(hr:dX (k+1) X.A)(i:Nat)(ha:JA X (e::es) mA)(hN:X.N[i]? = some x:=by rfl)(hv:Vis X.env.scope x:=by first | exact Or.inl rfl | exact Or.inr (Or.inl rfl) | exact Or.inr (Or.inr rfl))
  (hd:(x==("__debug__":Str))=false:=by decide) (yD:(x==("__classdict__":Str))=false:=by decide) (he:starEach (e::es) X.env=(false,eval e X.env)::starEach es X.env:=by rfl) (qH:(backTo pos (starEach es X.env)).any (·.1)=false:=by rfl) :
  JE X (.Call (.Name x p) (e::es) [] pos) (callC Λ G i mA):=by
 rintro pins s σ H Q I ⟨μ,env,st,hE,hs,hp⟩;unfold callC at hp
 split at hp
 case h_2=>exact hp.elim
 rename_i n hi
 split at hp
 case h_2=>exact hp.elim
 rename_i j0 l0 ds0 hn;obtain⟨v,h1,h2⟩:=hE.at_ i _ hi;obtain⟨a,q1,rfl⟩:=ak.aL.mp h2;obtain⟨a',r1,r2⟩:=hs.at_ n _ hn;rw[q1]at r1;cases r1;obtain⟨cl0,pm0,c0,aeP,aex,w1,_⟩:=r2;refine afn (dO (Jo hN hv hd yD pins s σ H (λv' H'=>v'=.ref a/\H'=H) I ⟨.ref a,h1,rfl,rfl⟩) λu s0 zz=>?_);obtain⟨v',H',I0,r0,ev,eH⟩:=zz;subst ev eH;cases (show u=Value.ref a from r0);have fnAt:∀(s:Shared) (H:Hp) (o:Obj),Inv X pins σ H s->(∃q ps b sc cl pm c' ug,o=PySem.W.kla_obj "<lambda>" q ps b sc cl pm c' ug)->H a=some (.frz o (.own 0))->PySem.W.FnAt a s.heap:=by
  rintro s H o I ⟨q,ps,b,sc,cl,pm,c',ug,rfl⟩ h;exact⟨_,_,_,_,(I.cz a _ h).1⟩
 refine PySem.W.callWith_F (fnAt s0 H' _ I0 ⟨_,_,_,_,_,_,_,_,rfl⟩ w1) (dO (ha pos pins s0 σ H' _ I0 ⟨μ,env,st,hE,hs,cM.bind hp⟩) λus s1 zz=>?_) he qH;obtain⟨vs,H1,I1,r,μ1,st1,as,g1,bV,KQ,bf⟩:=zz;have g2:=g1.get q1;unfold Dp at bf;dsimp only at bf
 split at bf
 case h_2=>exact bf.elim
 rename_i j l ds Dd
 split at bf
 case isFalse=>exact bf.elim
 rename_i hl;subst hl;obtain⟨a',r1,cl,pm,c',ug,Nx,hf,zm,Sh,xQ,yC,Sg⟩:=bV.at_ n _ Dd;rw[g2]at r1;cases r1;refine⟨fnAt s1 H1 _ I1 ⟨_,_,_,_,_,_,_,_,rfl⟩ hf,?_⟩;rcases hΛ j with adG | ⟨ps,m,LO,hG⟩
 ·rw[adG]at bf;exact bf.elim
 have hlen:(ds++as).length=(Λ j).sH.length+ps.length:=by
  refine Classical.byContradiction λh=>?_;rw[hG]at bf;unfold FQ at bf;rw[ae_ h]at bf;exact bf.elim
 have e1:ds.length=(Λ j).sH.length:=by rw[Sg.length,yC.len,<-Sh,gq]
 have hul:us.length=ps.length:=by
  rw[<-r.length,<-KQ.length];rw[gh]at hlen;omega
 refine wpAny_call (afP (Qc (k:=k) (Q:=Q) (vs:=vs) I1.QJ hr LO.sc hf zm Sh xQ yC (LO.bind cl pm c' ug us hul) hul r ?_) λr s' hq=>?_)
 ·intro L hL;have hL:uv L H1:=hL;refine⟨_,LO.body a (.ref c') cl X.A X.stack s1 (fC L H1) (hr.deeper _),μ1,(ds++as).map some,fJ st1,?_,bV.hide hL,?_⟩
  ·have xP:ao X.K μ1 (fC L H1) (ds++as) (Nx++vs):=(Sg.append KQ).cX (λb xs q=>hL.del q λ_ z=>nomatch z) _;refine⟨by rw[gq,gq,xP.length],λi d e=>?_⟩;rw[gH]at e ⊢;cases q:(ds++as)[i]? with
   | none=>rw[q]at e;cases e
   | some d' =>
    rw[q]at e;cases e;obtain⟨v,q1,q2⟩:=xP.get q;exact⟨v,by rw[q1];rfl,q2⟩
  ·have key:wI X.K μ1 (fC L H1) (λv H'=>(∀b o,L.lookup b=some o->H' b=none)->Q v (iw L H')) (G j (ds++as) (fJ st1)):=by
    refine zoz (bV.hide hL) ?_
    split at bf
    case h_2=>exact bf.elim
    rename_i d st2 yz
    split at bf
    case isFalse=>exact bf.elim
    rename_i hc;rw[yz];intro v H' μ' g su Ak hn';obtain⟨rfl,_⟩:=hc;obtain⟨ν,rfl⟩:=g.pre;have hν:ν=[]:=by
     have:=su.len;rw[gh,bV.len,zjk]at this;exact List.eq_nil_of_length_eq_zero (by omega)
    subst hν;rw[kh]at su Ak;have ext:=hL.back g.ext hn';refine bf v (iw L H') μ1 ⟨⟨[],by simp⟩,ext⟩ (bV.Uq su hn' ext) (Ak.cX (λb xs q=>?_) d);cases z:L.lookup b with
    | none=>rw[xX z];exact q
    | some o=>rw[hn' b o z]at q;cases q
   rw[hG]at key;unfold FQ at key;rw[ae9 hlen]at key;cases hm:m ((ds++as).map some) (fJ st1) with
   | bad=>rw[hm]at key;exact key.elim
   | err y st2=>rw[hm]at key;exact key.elim
   | ok d st2=>rw[hm]at key;exact key
 ·cases r with
  | error e=>exact False.elim hq
  | ok fl =>
   cases fl with
   | ret u=>exact I1.after hq
   | next=>exact False.elim hq
   | brk=>exact False.elim hq
   | cont=>exact False.elim hq
end
inductive LA where
 | v (d:D) | l (j:Nat) (cap:List Nat)
noncomputable abbrev ML:=cg->au->R (List LA)
noncomputable def oN(X:Cx)(l:lO):List (Str×Addr):=l.sH.map λx=>(x,(X.env.cells.lookup x).getD 0)
structure tO(X:Cx)(l:lO)(cap:List Nat):Prop where
 nd:l.sH.Nodup
 cell:∀x∈l.sH,X.env.kindOf x=some .cell
 ix:cap.map (λi=>X.N[i]?)=l.sH.map some
def Du(X:Cx)(Λ:Nat->lO)(μ:List Addr)(H:Hp):LA->V->Prop
 | .v d,v=>ak X.K μ H d v
 | .l j cap,v=>tO X (Λ j) cap/\∃f pm c' ug,v=.ref f/\H f=some (.frz (PySem.W.kla_obj "<lambda>" (Λ j).qual (Λ j).params (Λ j).body (Λ j).scope (oN X (Λ j)) pm c' ug) (.own 0))/\ur H c' (Λ j).qual
def lN(X:Cx)(Λ:Nat->lO)(μ:List Addr)(H:Hp):List LA->List V->Prop
 | [],vs=>vs=[]
 | a::r,vs=>∃v t,vs=v::t/\Du X Λ μ H a v/\lN X Λ μ H r t
noncomputable abbrev acD(X:Cx)(Λ:Nat->lO):Rel (List LA) (List V):=fun μ H d v=>lN X Λ μ H d v
section
variable  {X:Cx}{Λ:Nat->lO}{μ μ':List Addr}{H H':Hp}
theorem Du.mono(g:bD μ H μ' H'):∀{a:LA} {v:V},Du X Λ μ H a v->Du X Λ μ' H' a v
 | .v d,_,h=>ak.mono g d h
 | .l j cap,_,⟨h0,f,pm,c',ug,h1,h2,h3⟩=>⟨h0,f,pm,c',ug,h1,g.ext.frz _ _ _ h2,h3.ext g.ext⟩
theorem lN.mono(g:bD μ H μ' H'):∀{a:List LA} {v:List V},lN X Λ μ H a v->lN X Λ μ' H' a v
 | [],_,h=>h
 | a::r,_,⟨v,t,e,h1,h2⟩=>⟨v,t,e,h1.mono g,lN.mono g h2⟩
theorem lN.length:∀{a:List LA} {v:List V},lN X Λ μ H a v->a.length=v.length
 | [],_,h=>by have h:_=[]:=h;subst h;rfl
 | a::r,_,⟨v,t,e,h1,h2⟩=>by subst e;simp[lN.length h2]
end
noncomputable def tML(X:Cx)(Λ:Nat->lO)(m:ML):TA:=fun σ H Q=>∃μ env st,fD X.K μ H env σ/\aV X.K μ H st/\cM X μ H (acD X Λ) Q (m env st)
def JL(X:Cx)(Λ:Nat->lO)(es:List Expr)(m:ML):Prop:=PA X es (tML X Λ m)
noncomputable def JN:ML:=λ_ st=>.ok [] st
noncomputable def u9(a:ME)(r:ML):ML:=λenv st=>(a env st).bind λx st1=>(r env st1).bind λxs st2=>.ok (.v x::xs) st2
noncomputable def Ae(j:Nat)(cap:List Nat)(k:Nat)(x:Str)(r:ML):ML:=λenv st=>match st[k]? with
 | some (.tab y)=>if y=x then (r env st).bind λxs st2=>.ok (.l j cap::xs) st2 else .bad
 | _=>.bad
def abZ(X:Cx)(x:Str):Prop:=X.env.qual=x ++ ".<locals>."/\∃(c fa:Addr) (o:Obj) (fd:FuncData),X.env.code=.ref c/\PySem.W.nsIn X.K mainGlobals x=some (some (.ref fa))/\X.K.lookup fa=some o/\o.data=.func fd/\fd.code=.ref c
section
variable  {X:Cx}{Λ:Nat->lO}{μ:List Addr}{H H':Hp}{st:au}{e:Expr}{es:List Expr}{ma:ME}{m:ML}
def Wb:JL X Λ [] JN:=by
 refine λpos pins s σ H Q I zz=>?_;obtain⟨μ,env,st,hE,hs,hp⟩:=zz;exact Jv pos pins s σ H Q I (hp.ret hs rfl)
def Cy(h:JE X e ma)(hr:JL X Λ es m)(hs:starEach (e::es) X.env=(false,eval e X.env)::starEach es X.env:=by rfl):JL X Λ (e::es) (u9 ma m):=by
 rintro pos pins s σ H Q I ⟨μ,env,st,hE,Qo,hp⟩;refine zp1 h hr hs pos pins s σ H Q I ⟨μ,env,st,hE,Qo,hp.bind.imp ?_⟩;rintro x H1 ⟨μ1,st1,d,g1,bV,hx,bf⟩;refine⟨μ1,env,st1,hE.mono g1,bV,bf.bind.imp ?_⟩;rintro xs H2 ⟨μ2,st2,ds,g2,fY,uJ,dY⟩;exact dY.ret fY ⟨x,xs,rfl,hx.mono g2 _,uJ⟩
def _root_.L2.wJ.ext(n:wJ H H' P f c' q ob)(hP:H P=some (.tbl ps)):Ext H H' :=
 ⟨λb xs e=>n.same b _ (λz=>by rw[z,hP]at e;cases e) e,λb o u e=>n.same b _ (λz=>by rw[z,hP]at e;cases e) e⟩
def aV.lam{P f c':Addr}{x:Str}{ob:Obj}{k:Nat}(hs:aV X.K μ H st)(hk:st[k]? = some (.tab x))(ha:μ[k]? = some P)(n:wJ H H' P f c' (t7 x) ob):aV X.K μ H' st:=by
 obtain⟨a,h1,h2⟩:=hs.at_ k _ hk;rw[ha]at h1;cases h1;obtain⟨Hm,ps,hP,_⟩:=h2;have ext:=n.ext hP;refine⟨hs.len,λi o e=>?_,hs.uniq⟩;obtain⟨b,q1,q2⟩:=hs.at_ i o e;refine⟨b,q1,?_⟩;by_cases hm:o.mut=true
 ·by_cases hb:b=P
  ·subst hb;have hik:=hs.uniq i k b o (.tab x) e hk hm rfl q1 ha;subst hik;rw[hk]at e;cases e;exact⟨Hm,n.tab⟩
  ·exact q2.keep ⟨⟨[],by simp⟩,ext⟩ λ_ u q=>n.same b u hb q
 ·exact q2.keep ⟨⟨[],by simp⟩,ext⟩ λz=>absurd z hm
def Wd{x:Str}{j k:Nat}{cap:List Nat}{params:Arguments}{body:Expr}{scope:Scope}{pos:Pos}(hB:BMain X.mg X.base)(hT:abZ X x)(Y9:tO X (Λ j) cap)(hq:(Λ j).qual=t7 x)(hp:(Λ j).params=params)(hb:(Λ j).body=body)(hsc:(Λ j).scope=scope)
  (uc:closureFor scope X.env=pure (oN X (Λ j))) (hr:JL X Λ es m) (W8:defaultsOf params X.env=([],[]):=by rfl) (hs:starEach (.Lambda params body scope pos::es) X.env=(false,eval (.Lambda params body scope pos) X.env)::starEach es X.env:=by rfl) :
  JL X Λ (.Lambda params body scope pos::es) (Ae j cap k x m):=by
 subst hp hb hsc;rintro rZ pins s σ H Q I ⟨μ,env,st,hE,Qo,hp⟩;unfold Ae at hp
 split at hp
 case h_2=>exact hp.elim
 rename_i y hk
 split at hp
 case isFalse=>exact hp.elim
 rename_i hy;subst hy;obtain⟨P,h1,h2⟩:=Qo.at_ k _ hk;obtain⟨⟨fa',o',fd',c',w1,w2,w3,w4,w5⟩,ps,w6,w7,w8⟩:=h2;obtain⟨abn,c,fa,o,fd,t1,t2,t3,t4,t5⟩:=hT;rw[t2]at w1;cases w1;rw[t3]at w2;cases w2;rw[t4]at w3;cases w3;rw[t5]at w4;cases w4;refine zp1 (Vu (P:=P) (c:=c') (q:=t7 y) (clos:=oN X (Λ j)) hB t1 w5 (by rw[abn];rfl) uc W8) hr hs rZ pins s σ H Q I ⟨⟨ps,w6,w7,w8⟩,λf c' pm ug H' n=>?_⟩;have g:bD μ H μ H':=⟨⟨[],by simp⟩,n.ext w6⟩;refine⟨μ,env,st,hE.mono g,Qo.lam hk h1 n,(cM.mono g hp).bind.imp ?_⟩;rintro xs H2 ⟨μ2,st2,ds,g2,fY,uJ,dY⟩;refine dY.ret fY ⟨.ref f,xs,rfl,⟨Y9,f,pm,c',ug,rfl,?_,?_⟩,uJ⟩
 ·rw[hq];exact g2.ext.frz _ _ _ n.new
 ·rw[hq];exact n.code.ext g2.ext
end
noncomputable def cellAt(h:Heap)(c:Addr):Option Obj:=match h.get? c with
 | some o=>(match o.data with | .cell (some _)=>some o | _=>none)
 | none=>none
def ziu(e:cellAt h c=some o):h.get? c=some o/\∃u,o.data=.cell (some u):=by
 unfold cellAt at e
 split at e
 ·rename_i o' h1
  split at e
  ·rename_i u h2;cases e;exact⟨h1,u,h2⟩
  ·cases e
 ·cases e
def GD(h1:h.get? c=some o)(h2:o.data=.cell (some u)):cellAt h c=some o:=by
 unfold cellAt;rw[h1];dsimp only;rw[h2]
noncomputable def rF(cl:List (Str×Addr))(h:Heap):List Str->List (Addr×Obj)
 | []=>[]
 | x::r=>match cl.lookup x with
  | some c=>(match cellAt h c with | some o=>(c,o)::rF cl h r | none=>rF cl h r)
  | none=>rF cl h r
theorem zhf:∀{xs:List Str},(rF cl h xs).lookup b=some o->cellAt h b=some o/\∃x,cl.lookup x=some b
 | [],e=>by cases e
 | x::r,e=>by
  unfold rF at e
  split at e
  ·rename_i c hc
   split at e
   ·rename_i o' ho;rw[kY]at e;by_cases hb:(b==c)=true
    ·simp only[hb]at e;cases e;obtain rfl:=eq_of_beq hb;exact⟨ho,x,hc⟩
    ·simp only[show (b==c)=false by simpa using hb]at e;exact zhf e
   ·exact zhf e
  ·exact zhf e
theorem zj7(hx:cl.lookup x=some b)(ho:cellAt h b=some o):∀{xs:List Str},x∈xs->(rF cl h xs).lookup b=some o
 | [],e=>by cases e
 | y::r,e=>by
  unfold rF;by_cases hy:x=y
  ·subst hy;rw[hx];dsimp only;rw[ho];dsimp only;rw[kY];simp
  ·have e:=zj7 hx ho (xs:=r) (by simpa[hy] using e)
   split
   ·rename_i c hc
    split
    ·rename_i o' M7;rw[kY];by_cases hb:(b==c)=true
     ·simp only[hb];obtain rfl:=eq_of_beq hb;rw[ho]at M7;exact M7.symm
     ·simp only[show (b==c)=false by simpa using hb];exact e
    ·exact e
   ·exact e
noncomputable def Ba:List Nat->cg->Option (List D)
 | [],_=>some []
 | i::r,env=>match env[i]? with
  | some (some d)=>(match Ba r env with | some ds=>some (d::ds) | none=>none)
  | _=>none
noncomputable def qW(Λ:Nat->lO)(env:cg):Nat->List LA->Option (List D×List MO)
 | _,[]=>some ([],[])
 | n,.v d::r=>(match qW Λ env n r with | some (ds,os)=>some (d::ds,os) | none=>none)
 | n,.l j cap::r=>(match Ba cap env with
  | some cs=>(match qW Λ env (n+1) r with | some (ds,os)=>some (.loc n::ds,.clo j (Λ j) cs::os) | none=>none)
  | none=>none)
def fQ(st:au):Prop:=∀o∈st,o.dU=false
open Classical in
noncomputable def wC(Λ:Nat->lO)(F:FD)(dd:List D)(m:ML):ME:=λenv st=>(m env st).bind λas st1=>if fQ st1 then (match qW Λ env st1.length as with
 | some (ds,os)=>(match gc st1 (F (ds++dd) (st1++os)) with
  | .ok d st2=>if fQ st2 then .ok d st2 else .bad
  | _=>.bad)
 | none=>.bad) else .bad
def aV.snoc(h:aV K μ H st)(hm:o.mut=false)(ho:jW K (μ++[a]) H a o):aV K (μ++[a]) H (st++[o]):=by
 have key:∀(n:Nat) (on:MO) (c:Addr),(st++[o])[n]? = some on->on.mut=true->(μ++[a])[n]? = some c->st[n]? = some on/\μ[n]? = some c:=λn on c e1 WX e2=>by
  by_cases hn:n<st.length
  ·rw[gP hn]at e1;rw[gP (by rw[h.len];exact hn)]at e2;exact⟨e1,e2⟩
  ·rw[gw (by omega)]at e1;have:=gM e1;simp at this;subst this;rw[hm]at WX;cases WX
 refine⟨by simp[h.len],λn on e1=>?_,λi j c oi oj ei ej mi mj hi hj=>?_⟩
 ·by_cases hn:n<st.length
  ·rw[gP hn]at e1;obtain⟨b,q1,q2⟩:=h.at_ n on e1;exact⟨b,by rw[gP (by rw[h.len];exact hn)];exact q1,q2.up _⟩
  ·have hl:=(gk.mp e1).1;rw[gh,mq]at hl;have en:n=st.length:=by omega
   subst en;rw[gw (gf _)]at e1;simp at e1;subst e1;exact⟨a,by rw[<-h.len];simp,ho⟩
 ·obtain⟨a1,a2⟩:=key i oi c ei mi hi;obtain⟨b1,b2⟩:=key j oj c ej mj hj;exact h.uniq i j c oi oj a1 b1 mi mj a2 b2
def aV.del(hL:uv L H)(hc:fQ st)(h:aV K μ H st):aV K μ (fC L H) st :=
 ⟨h.len,λn o e=>let ⟨a,h1,h2⟩:=h.at_ n o e;⟨a,h1,h2.del hL (hc o (gM e))⟩,h.uniq⟩
section
variable  {X:Cx}{Λ:Nat->lO}{H:Hp}{env:cg}
theorem zlj(xQ:∀l cap,tO X l cap->((oN X l).map (·.2)).Nodup):∀{as:List LA} {vs:List V} {μ:List Addr} {st:au} {n:Nat} {ds:List D} {os:List MO},(∀l cap,tO X l cap->∀cs,Ba cap env=some cs->∃vs,iZ H (oN X l) vs/\ao X.K μ H cs vs)->qW Λ env n as=some (ds,os)->lN X Λ μ H as vs->aV X.K μ H st->n=st.length ->
  ∃ν,aV X.K (μ++ν) H (st++os)/\ao X.K (μ++ν) H ds vs
 | [],vs,μ,st,n,ds,os,hc,e,h,hs,hn=>by
  cases e;have h:vs=[]:=h;subst h;exact⟨[],by simpa using hs,ao.nil⟩
 | .v d::r,_,μ,st,n,ds,os,hc,e,⟨v,t,rfl,h1,h2⟩,hs,hn=>by
  unfold qW at e
  split at e
  ·rename_i Zf YB e';cases e;obtain⟨ν,q1,q2⟩:=zlj xQ hc e' h2 hs hn;exact⟨ν,q1,ao.cons (ak.mono ⟨⟨ν,rfl⟩,.refl H⟩ d h1) q2⟩
  ·cases e
 | .l j cap::r,_,μ,st,n,ds,os,hc,e,⟨v,t,rfl,hla,h2⟩,hs,hn=>by
  obtain⟨h0,f,pm,c',ug,rfl,h3,h4⟩:=hla;unfold qW at e
  split at e
  ·rename_i cs ec
   split at e
   ·rename_i Zf YB e';cases e;obtain⟨vs,q1,q2⟩:=hc _ cap h0 cs ec;have g:bD μ H (μ++[f]) H:=⟨⟨[f],rfl⟩,.refl H⟩;have bV:aV X.K (μ++[f]) H (st++[.clo j (Λ j) cs]):=hs.snoc rfl ⟨oN X (Λ j),pm,c',ug,vs,h3,h4,by simp[oN,Function.comp_def],xQ _ cap h0,q1,q2.mono g _⟩;obtain⟨ν,r1,r2⟩:=zlj xQ (μ:=μ++[f]) (λl cap hl cs ec=>let ⟨vs,a1,a2⟩:=hc l cap hl cs ec;⟨vs,a1,a2.mono g _⟩) e' (h2.mono g) bV (by simp[hn]);refine⟨f::ν,by simpa using r1,ao.cons (ak.aL.mpr ⟨f,?_,rfl⟩) (by simpa using r2)⟩;rw[hn,<-hs.len];simp
   ·cases e
  ·cases e
end
section
variable  {X:Cx}{Λ:Nat->lO}{e:Expr}{es:List Expr}{m:ML}{pos p:Pos}{x:Str}{k:Nat}{f:Addr}{fd:FuncData}{ps:List Str}{F:FD}{dvs:List V}{ds:List Value}{dd:List D}
def QT(I:Inv X pins σ H s)(h:tO X l cap):((oN X l).map (·.2)).Nodup:=by
 unfold oN;rw[gY];have key:∀xs:List Str,xs.Nodup->(∀x∈xs,X.env.kindOf x=some .cell)->(xs.map ((λp:Str×Addr=>p.2)∘λx=>(x,(X.env.cells.lookup x).getD 0))).Nodup:=by
  intro xs
  induction xs with
  | nil=>intros;simp
  | cons x xs ih =>
   intro nd hc;rw[mR]at nd;rw[gB,mR];refine⟨λhm=>?_,ih nd.2 λy hy=>hc y (by simp[hy])⟩;obtain⟨y,hy,e⟩:=g8.mp hm;obtain⟨c,h1⟩:=I.ok.has x (.inl (hc x (by simp)));obtain⟨c2,h2⟩:=I.ok.has y (.inl (hc y (by simp[hy])));simp only[Function.comp,h1,h2,Option.getD_some]at e;subst e;have:=I.ok.inj x y _ h1 h2;subst this;exact nd.1 hy
 exact key _ h.nd h.cell
def Lz(I:Inv X pins σ H s)(hE:fD X.K μ H2 env σ)(hc:∀x b o,X.env.cells.lookup x=some b->cellAt s.heap b=some o->H2 b=some (.frz o (.own 0)))(h:tO X l cap)(e:Ba cap env=some cs) :
  ∃vs,iZ H2 (oN X l) vs/\ao X.K μ H2 cs vs:=by
 obtain⟨mm,zP,hl⟩:=I.loc;have key:∀(xs:List Str) (cap:List Nat) (cs:List D),(∀x∈xs,X.env.kindOf x=some .cell)->cap.map (λi=>X.N[i]?)=xs.map some->Ba cap env=some cs->∃vs,iZ H2 (xs.map λx=>(x,(X.env.cells.lookup x).getD 0)) vs/\ao X.K μ H2 cs vs:=by
  intro xs
  induction xs with
  | nil =>
   intro cap cs _ hx e;cases cap with
   | nil=>cases e;exact⟨[],rfl,ao.nil⟩
   | cons i cap=>cases hx
  | cons x xs ih =>
   intro cap cs hk hx e;cases cap with
   | nil=>cases hx
   | cons i cap =>
    rw[gB,gB]at hx;obtain⟨hx1,hx2⟩:=List.cons.inj hx;unfold Ba at e
    split at e
    ·rename_i d ed
     split at e
     ·rename_i Lx ec;cases e;obtain⟨vs,a1,a2⟩:=ih cap Lx (λy hy=>hk y (by simp[hy])) hx2 ec;obtain⟨v,b1,b2⟩:=hE.at_ i d ed;have hkx:=hk x (by simp);obtain⟨u,r,lk⟩:=hl i x v hx1 b1 (.inr (.inl hkx));rcases lk with⟨z,_⟩ | ⟨_,c,hcx,o,ho,hd⟩
      ·rw[hkx]at z;cases z
      ·refine⟨v::vs,⟨v,vs,o,u,rfl,?_,hd,r,a1⟩,ao.cons b2 a2⟩;have:((X.env.cells.lookup x).getD 0)=c:=by rw[hcx];rfl
       rw[this];exact hc x c o hcx (GD ho hd)
     ·cases e
    ·cases e
 exact key l.sH cap cs h.cell h.ix e
def Gb(G:bu X.prog X.w X.K X.mg X.base jH k f fd ps (j8 X.K ps.length F))(hr:dX k X.A)(hm:X.mg x=some (.ref f))(hk:PySem.W.keepIn X.K (.ref f)=true)(hb:Binds X.K fd ps ds)(hd:Vals dvs ds)
  (hdd:∀μ H,ao X.K μ H dd dvs) (ha:JL X Λ (e::es) m) (hfn:∀x,X.fn x=true) (hlen:(e::es).length+dvs.length=ps.length:=by rfl) (hg:Gl X x:=by rfl) (xj:(x==("__debug__":Str))=false:=by decide) (he:starEach (e::es) X.env=(false,eval e X.env)::starEach es X.env:=by rfl) (qH:(backTo pos (starEach es X.env)).any (·.1)=false:=by rfl)
  (hA:∀env st as st1,m env st=.ok as st1->as.length=(e::es).length) :
  JE X (.Call (.Name x p) (e::es) [] pos) (wC Λ F dd m):=by
 rintro pins s σ H Q I ⟨μ,env,st,hE,hs,hp⟩;refine afn (zma I hg hm ?_ xj);unfold wC at hp;cases Y7:m env st with
 | bad=>rw[Y7]at hp;exact hp.elim
 | err y st1 =>
  rw[Y7]at hp;refine afG (h₀:=X.base) I.ok.mod.V4 hk (dO (ha pos pins s σ H (λ_ _=>False) I ⟨μ,env,st,hE,hs,by rw[Y7];exact hp⟩) λus s1 zz=>?_) he qH;obtain⟨vs,H1,I1,r,q⟩:=zz;exact q.elim
 | ok as st1 =>
 have hal:=hA env st as st1 Y7;rw[Y7,R.aD]at hp
 split at hp
 case isFalse=>exact hp.elim
 rename_i hnc
 split at hp
 case h_2=>exact hp.elim
 rename_i as' os ado
 split at hp
 case h_2=>exact hp.elim
 rename_i d st2 yz
 split at hp
 case isFalse=>exact hp.elim
 rename_i adt;refine afG (h₀:=X.base) I.ok.mod.V4 hk (dO (ha pos pins s σ H (λvs H1=>∃μ1,bD μ H μ1 H1/\aV X.K μ1 H1 st1/\lN X Λ μ1 H1 as vs) I ⟨μ,env,st,hE,hs,?_⟩) λus s1 ⟨vs,H1,I1,r,μ1,g1,bV,KQ⟩=>⟨I1.zN,?_⟩) he qH
 ·rw[Y7];exact λvs H1 μ1 g1 bV KQ=>⟨μ1,g1,bV,KQ⟩
 ·let L:=rF X.env.cells s1.heap (X.env.cells.map (·.1))
  have lin:∀b o,L.lookup b=some o->cellAt s1.heap b=some o/\∃x,X.env.cells.lookup x=some b:=λb o e=>zhf e;have nL:∀b o,L.lookup b=some o->H1 b=none:=λb o e=>let ⟨_,x,hx⟩:=lin b o e;I1.pU x b hx;have Jw:∀b u,H1 b=some u->L.lookup b=none:=λb u e=>by
   cases z:L.lookup b with
   | none=>rfl
   | some o=>rw[nL b o z]at e;cases e
  have Xk:Ext H1 (iw L H1):=⟨λb xs e=>by rw[xX (Jw b _ e)];exact e,λb o u e=>by rw[xX (Jw b _ e)];exact e⟩;have gA:bD μ1 H1 μ1 (iw L H1):=⟨⟨[],by simp⟩,Xk⟩;have hsA:aV X.K μ1 (iw L H1) st1:=⟨bV.len,λn o e=>let ⟨a,h1,h2⟩:=bV.at_ n o e;⟨a,h1,h2.keep gA λ_ u q=>by rw[xX (Jw a u q)];exact q⟩,bV.uniq⟩;have hcA:∀x b o,X.env.cells.lookup x=some b->cellAt s1.heap b=some o->iw L H1 b=some (.frz o (.own 0)):=λx b o hx ho =>
   ZF (zj7 hx ho (g8.mpr ⟨(x,b),afe hx,rfl⟩))
  obtain⟨ν,hsN,hvN⟩:=zlj (Λ:=Λ) (H:=iw L H1) (env:=env) (λl cap h=>QT I1 h) (λl cap h cs ec=>Lz I1 ((hE.mono g1).mono gA) hcA h ec) ado (KQ.mono gA) hsA rfl;refine Oe (L:=L) G hr hb hd I1 (λb o e=>?_) r ⟨?_,μ1++ν,as'++dd,st1++os,hvN.append (hdd _ _),hsN,?_⟩
  ·obtain⟨h1,x,h2⟩:=lin b o e;exact⟨(ziu h1).1,x,h2,hfn x⟩
  ·rw[gh,<-KQ.length,hal];exact hlen
  ·have key:wI X.K μ1 (iw L H1) (λv H'=>Q v (fC L H')) (F (as'++dd) (st1++os)):=by
    refine zoz hsA ?_;rw[yz];intro v H' μ' g su Ak;have hL:uv L H':=λb o e=>⟨g.ext.frz b o _ (ZF e),(ziu (lin b o e).1).2⟩;have ext:Ext H1 (fC L H'):=⟨λb xs e=>by rw[DN (Jw b _ e)];exact g.ext.tup b xs (Xk.tup b xs e),λb o u e=>by rw[DN (Jw b _ e)];exact g.ext.frz b o u (Xk.frz b o u e)⟩;exact hp v (fC L H') μ' ⟨g1.trans ⟨g.pre,ext⟩ |>.pre,(g1.trans ⟨g.pre,ext⟩).ext⟩ (su.del hL adt) (Ak.cX (λb xs q=>hL.del q λ_ z=>nomatch z) d)
   have gN:bD μ1 (iw L H1) (μ1++ν) (iw L H1):=⟨⟨ν,rfl⟩,.refl _⟩;cases hF:F (as'++dd) (st1++os) with
   | bad=>rw[hF]at key;exact key.elim
   | err y qO=>rw[hF]at key;exact key.elim
   | ok d3 qO =>
    rw[hF]at key;exact λv H' μ' g su Ak=>key v H' μ' (gN.trans g) su Ak
end
end M
namespace M
open PySem PySem.Spec L2 PyProof.Rows
structure Mh(K:PySem.W.Frag)(x:Str)(P:Addr):Prop where
 code:∃(fa:Addr) (o:Obj) (fd:FuncData) (c:Addr),PySem.W.nsIn K mainGlobals x=some (some (.ref fa))/\K.lookup fa=some o/\o.data=.func fd/\fd.code=.ref c/\PySem.W.codeHdIn K c P=true
 out:K.lookup P=none
def FP{P:Program}{w:World}{K:PySem.W.Frag}{mg mb:Str->Option Value}{k:Nat}{fa a:Addr}{fd:FuncData}{x:Str}{sp:Sp}{aeX:Shared}{vs:List Value}{ns:List Int}{ts:List (Str×Addr)}
  (KX:K.In aeX.heap) (zP:aeX.heap.Ns mainGlobals mg) (hb:aeX.heap.Ns builtinsNs mb) (hbb:∀x:Str,x ≠ "__name__"->mb x=bootBuiltins x) (adv:aeX.heap.NoLimit) (hg:aeX.gens=#[])
  (hbm:∃bm ob,mg "__builtins__" = some (.ref bm)/\bm≠builtinsNs/\aeX.heap.get? bm=some ob/\ob.cls=.type "module"/\ob.dict=some builtinsNs/\ob.data=.plain)
  (ht:∀p∈ts,aeX.heap.get? p.2=some (PySem.W.tabObj #[])) (hk:∀p∈ts,Mh K p.1 p.2)
  (ha:aeX.heap.get? a=some { cls:=.type "list",data:=.seq vs.toArray }) (hi:IntsAre vs ns) (hl:ns.length<=sizeLine) (hr:dX k callerA)
  (F:∀base:Heap,K.In base->base.Ns mainGlobals mg->BMain mg base->bu P w K mg base jH k fa fd [x] sp) (abA:∀(s:Shared) (u:Value),BindsTo s fd ⟨[u],[]⟩ [(x,u)])
  (Gi:∀H:Hp,yM K H a (ns.map V.int)->(∀p∈ts,H p.2=some (.tbl #[]))->sp [.ref a] H (λv _=>v=.bl true) λ_ _ _=>False) :
  codeAny (model P w) callerA (.call (.ref fa) ⟨[.ref a],[]⟩) (λr s'=>r=.ok (.ret (.bool true))/\OldK aeX.heap s'.heap/\s'.os=aeX.os/\AllBare s'.gens) aeX:=by
 have rv:=zmd hi;have uH:=hi.length;have core:∀H:Hp,yM K H a (ns.map V.int)->(∀p∈ts,H p.2=some (.tbl #[]))->qL P w H aeX.heap->(∀b u,H b=some u->(b=a/\K.lookup a=none/\∃o xs,u=.frz o (.lst xs))\/(∃p∈ts,b=p.2/\u=.tbl #[])) ->
   codeAny (model P w) callerA (.call (.ref fa) ⟨[.ref a],[]⟩) (λr s'=>r=.ok (.ret (.bool true))/\OldK aeX.heap s'.heap/\s'.os=aeX.os/\AllBare s'.gens) aeX:=by
  intro H hS hT cz hA;have yK:∀{b:Addr} {o:Obj},aeX.heap.get? b=some o->H b=none->(xg aeX.heap H).get? b=some o:=λe n=>K1 e n;have noH:∀{b:Addr} {o:Obj},aeX.heap.get? b=some o->o.cls≠.type "list"->(∀vs,o.data≠.fields vs)->H b=none:=λ{b o} e d1 d2=>by
   cases q:H b with
   | none=>rfl
   | some u =>
    rcases hA b u q with⟨rfl,_⟩ | ⟨p,hp,rfl,_⟩
    ·rw[ha]at e;cases e;exact absurd rfl d1
    ·rw[ht p hp]at e;cases e;exact absurd rfl (d2 _)
  have PJ:∀{b:Addr} {o:Obj} {es:Array DictEntry} {ep:Nat},aeX.heap.get? b=some o->o.data=.dict es ep->H b=none:=λ{b o es ep} e d=>by
   cases q:H b with
   | none=>rfl
   | some u =>
    rcases hA b u q with⟨rfl,_⟩ | ⟨p,hp,rfl,_⟩
    ·rw[ha]at e;cases e;have d':Data.seq vs.toArray _=Data.dict es ep:=d;cases d'
    ·rw[ht p hp]at e;cases e;have d':Data.fields #[]=Data.dict es ep:=d;cases d'
  have nsK:∀{b:Addr} {m:Str->Option Value},aeX.heap.Ns b m->(xg aeX.heap H).Ns b m:=λ{b m} ⟨o,es,ep,e,d,r⟩=>⟨o,es,ep,yK e (PJ e d),d,r⟩;have hKb:K.In (xg aeX.heap H):=λb o e=>yK (KX b o e) (by
   cases q:H b with
   | none=>rfl
   | some u =>
    rcases hA b u q with⟨rfl,z,_⟩ | ⟨p,hp,rfl,_⟩
    ·rw[z]at e;cases e
    ·rw[(hk p hp).out]at e;cases e)
  have hM:Mod K mg (xg aeX.heap H):=⟨hKb,nsK zP,⟨mb,nsK hb,hbb⟩,let ⟨mc,h1,h2⟩:=adv;⟨mc,nsK h1,h2⟩⟩;have e0:yN P w K mg (xg aeX.heap H) callerA [] aeX H:=⟨rfl,hM,λb o e=>PB e,Nat.le_of_eq (Gj _ _),trivial,λb hb=>absurd (show b∈([]:List Addr) from hb) (by simp),cz,.of_eq hg⟩;have hBM:BMain mg (xg aeX.heap H):=by
   obtain⟨bm,ob,b1,b2,b3,b4,b5,b6⟩:=hbm;refine⟨bm,ob,b1,b2,λz=>?_,yK b3 (noH b3 (by rw[b4];simp) λvs z=>by rw[b6]at z;cases z),b4,b5,b6⟩;obtain⟨o,es,ep,e,d,_⟩:=zP;rw[<-z,b3]at e;cases e;rw[b6]at d;cases d
  refine afP ((F _ hKb (nsK zP) hBM).run callerA [] aeX H ⟨[.ref a],[]⟩ [.ref a] [.ref a] _ _ hr e0 (abA aeX (.ref a)) (.cons rfl .nil) (Gi H hS hT)) λr s' h=>?_;cases r with
  | error e=>exact False.elim h
  | ok fl =>
   cases fl with
   | next=>exact False.elim h
   | brk=>exact False.elim h
   | cont=>exact False.elim h
   | ret u =>
    obtain⟨v,H',os,bare,un,abq,r',q⟩:=h;have q':v=.bl true:=q;subst q';obtain rfl:u=Value.bool true:=r';refine⟨rfl,⟨λb o e=>?_,λb o e=>un.there b o e (by simp)⟩,os,bare⟩;cases q:H b with
    | none=>exact .inl (un.keep b o e q (by intro z;exact absurd (show b∈([]:List Addr) from z) (by simp)) (by simp))
    | some u =>
     rcases hA b u q with⟨rfl,_,ob,xs,rfl⟩ | ⟨p,hp,rfl,rfl⟩
     ·have z2:=un.uM _ ob _ q;obtain⟨e1,_⟩:=cz _ _ q;obtain⟨e2,_⟩:=abq _ _ z2;rw[e]at e1;cases e1;exact .inl e2
     ·obtain⟨more,z2⟩:=un.vf p.2 #[] q;have e2:s'.heap.get? p.2=some (PySem.W.tabObj (#[]++more)):=abq _ _ z2;obtain⟨_,_,_,c,_,_,_,_,yD⟩:=(hk p hp).code;have hTA:=(PySem.W.codeHd_of_K KX yD).tab (ht p hp);rw[ht p hp]at e;cases e;exact .inr (.inl ⟨hTA.isCodeTable,rfl,#[],more,rfl,e2⟩)
 have nt:∀p∈ts,p.2≠a:=λp hp z=>by
  have:=ht p hp;rw[z,ha]at this;cases this
 cases hka:K.lookup a with
 | some o =>
  have e:=KX a o hka;rw[ha]at e;cases e
  let H:Hp:=λb=>if (ts.map (·.2)).contains b=true then some (.tbl #[]) else none
  have wQ:∀p∈ts,H p.2=some (.tbl #[]):=λp hp=>ae9 (by simp;exact⟨p.1,hp⟩);refine core H (.inr ⟨_,vs.toArray,_,hka,rfl,rfl,rfl,by rw[gK,uH];exact hl,by simpa using rv⟩) wQ (λb u z=>?_) λb u z=>?_
  ·by_cases hb:(ts.map (·.2)).contains b=true
   ·have z:(if (ts.map (·.2)).contains b=true then some (HO.tbl #[]) else none)=some u:=z;rw[ae9 hb]at z;cases z;obtain⟨p,hp,rfl⟩:=g8.mp (pO.mp hb);exact ht p hp
   ·have z:(if (ts.map (·.2)).contains b=true then some (HO.tbl #[]) else none)=some u:=z;rw[ae_ hb]at z;cases z
  ·by_cases hb:(ts.map (·.2)).contains b=true
   ·have z:(if (ts.map (·.2)).contains b=true then some (HO.tbl #[]) else none)=some u:=z;rw[ae9 hb]at z;cases z;obtain⟨p,hp,rfl⟩:=g8.mp (pO.mp hb);exact .inr ⟨p,hp,rfl,rfl⟩
   ·have z:(if (ts.map (·.2)).contains b=true then some (HO.tbl #[]) else none)=some u:=z;rw[ae_ hb]at z;cases z
 | none =>
  let H:Hp:=λb=>if b=a then some (.frz { cls:=.type "list",data:=.seq vs.toArray } (.lst (ns.map V.int))) else if (ts.map (·.2)).contains b=true then some (.tbl #[]) else none
  have wQ:∀p∈ts,H p.2=some (.tbl #[]):=λp hp=>(ae_ (nt p hp)).trans (ae9 (by simp;exact⟨p.1,hp⟩));have Y9:H a=some (.frz { cls:=.type "list",data:=.seq vs.toArray } (.lst (ns.map V.int))):=ae9 rfl;have Ss:∀b u,H b=some u->(b=a/\u=.frz { cls:=.type "list",data:=.seq vs.toArray } (.lst (ns.map V.int)))\/∃p∈ts,b=p.2/\u=.tbl #[]:=λb u z=>by
   by_cases hba:b=a
   ·subst hba;rw[Y9]at z;cases z;exact .inl ⟨rfl,rfl⟩
   ·have z:(if b=a then some (HO.frz { cls:=.type "list",data:=.seq vs.toArray } (.lst (ns.map V.int))) else if (ts.map (·.2)).contains b=true then some (HO.tbl #[]) else none)=some u:=z;rw[ae_ hba]at z;by_cases hb:(ts.map (·.2)).contains b=true
    ·rw[ae9 hb]at z;cases z;obtain⟨p,hp,rfl⟩:=g8.mp (pO.mp hb);exact .inr ⟨p,hp,rfl,rfl⟩
    ·rw[ae_ hb]at z;cases z
  refine core H (.inl ⟨_,Y9⟩) wQ (λb u z=>?_) λb u z=>?_
  ·rcases Ss b u z with⟨rfl,rfl⟩ | ⟨p,hp,rfl,rfl⟩
   ·exact⟨ha,by rw[gq];exact hl,vs,_,rv,ha⟩
   ·exact ht p hp
  ·rcases Ss b u z with⟨rfl,rfl⟩ | h
   ·exact .inl ⟨rfl,hka,_,_,rfl⟩
   ·exact .inr h
def zna{K:PySem.W.Frag}{H:Hp}{a:Addr}{ns:List Int}{ts:List (Str×Addr)}(xQ:(ts.map (·.2)).Nodup)(hS:yM K H a (ns.map V.int))(hT:∀p∈ts,H p.2=some (.tbl #[]))(hk:∀p∈ts,Mh K p.1 p.2) :
  aV K (a::ts.map (·.2)) H (.frz (ns.map D.int)::ts.map λp=>.tab p.1):=by
 have hv:∀(μ:List Addr) (l:List Int),ao K μ H (l.map D.int) (l.map V.int):=fun μ l=>by
  induction l with
  | nil=>exact ao.nil
  | cons i l ih=>exact ao.cons (ak.aP.mpr rfl) ih
 refine⟨by simp,λn o e=>?_,λi j b oi oj ei ej mi mj hi hj=>?_⟩
 ·match n,e with
  | 0,e =>
   simp at e;subst e;exact⟨a,rfl,_,hS,hv _ ns⟩
  | n+1,e =>
   rw[ni,gH]at e;cases q:ts[n]? with
   | none=>rw[q]at e;cases e
   | some p =>
    rw[q]at e;cases e;have hp:=gM q;refine⟨p.2,by rw[ni,gH,q];rfl,(hk p hp).code,#[],hT p hp,trivial,λpos cv z=>by cases z⟩
 ·match i,j,ei,ej,hi,hj with
  | 0,_,ei,_,_,_=>simp at ei;subst ei;cases mi
  | _+1,0,_,ej,_,_=>simp at ej;subst ej;cases mj
  | i+1,j+1,_,_,hi,hj =>
   rw[ni]at hi hj;have h1:=(gk.mp hi).1;rw[(List.getElem?_inj h1 xQ).mp (hi.trans hj.symm)]
def holds_ofT(ts:List (Str×Addr)){l:PySem.W.OpenLaw}{k:Nat}{q:Program}{loose:List Str}{XP:(Str->Option Value)->Heap->Prop}{YP:World->Heap->Prop}{d:DefRec}{K:Params->PySem.W.Frag}{F:FD}{x:Str}
  (hn:l.most=some 63) (hdf:d.params.defaults=[]) (hr:dX k callerA) (xQ:(ts.map (·.2)).Nodup)
  (hY:∀(w:World) (h:Heap),YP w h->(K w.params).In h/\∀P∈ts.map (·.2),h.get? P=some (PySem.W.tabObj #[]))
  (G:∀(w:World) (mg:Str->Option Value) (fa:Addr) (h:Heap),(K w.params).In h->h.Ns mainGlobals mg->mg d.name=some (.ref fa) ->
   ∃fd:FuncData,(∀(s:Shared) (u:Value),BindsTo s fd ⟨[u],[]⟩ [(x,u)])/\(∀p∈ts,Mh (K w.params) p.1 p.2)/\∀base:Heap,(K w.params).In base->base.Ns mainGlobals mg->BMain mg base->bu l.prog w (K w.params) mg base jH k fa fd [x] (j8 (K w.params) 1 F))
  (hF:∀ns:List Int,ns.length<=63->∃st,F [.loc 0] (.frz (ns.map D.int)::ts.map λp=>.tab p.1)=.ok (.bl true) st) :
  PySem.W.WalkO q loose XP YP l.row.toRowW d [] (λf vs=>PySem.call f vs):=by
 refine Hc.zm5 hn hdf λw aeY aeX mg mb fa o pm cd doc a vs ns G0 Y ho hd yD hmg WQ hints hlen hg=>?_;obtain⟨KX,hT⟩:=hY w _ Y;obtain⟨fd,hb,hk,hF'⟩:=G w mg fa _ KX G0.T.g hmg;refine FP (ts:=ts) KX G0.T.g G0.T.b G0.T.builtins G0.T.nolimit hg G0.T.bmain (λp hp=>hT p.2 (g8.mpr ⟨p,hp,rfl⟩)) hk WQ hints (kO hlen (by decide)) hr hF' hb λH hS hTb=>?_;obtain⟨st,e⟩:=hF ns hlen;refine⟨rfl,a::ts.map (·.2),[.loc 0],_,ao.cons (ak.aL.mpr ⟨a,rfl,rfl⟩) ao.nil,zna xQ hS hTb hk,?_⟩;rw[e];exact λv H' μ' _ _ hv=>ak.cG.mp hv
structure Mm(K:PySem.W.Frag)(x:Str)(st:Stmt)(f:Addr)(fd:FuncData):Prop where
 ex:∃(oc:Value) (od:Option Addr) (dV kV doc pm:Value) (an:Option Addr) (c:Addr) (ct:Value) (uX:Array (Option Value)),
  fd=PySem.W.fnOf x x (cZ st) (cB st) (aB st) dV kV doc pm an (.ref c) ct/\K.lookup f=some ⟨oc,od,.func fd,uX⟩/\PySem.W.codeIn K (.ref c) x=true
 ns:PySem.W.nsIn K mainGlobals x=some (some (.ref f))
 kp:PySem.W.keepIn K (.ref f)=true
def Xi{P:Program}{w:World}{K:PySem.W.Frag}{mg:Str->Option Value}{base:Heap}{x:Str}{st:Stmt}{f:Addr}{fd:FuncData}{N ps:List Str}{k:Nat}{m:MS}(F:Mm K x st f fd)(S:aZ N ps (aB st))
  (rm:∀(cdv:Value) (A:Around) (outer:List Env) (s:Shared) (H:Hp),dX k (A.deeper (PyProof.Rows.envOfC x (aB st) s.heap.objs.size f cdv)) ->
   abZ (xn jH P w K mg base N x (aB st) f cdv A outer s H E0).MJ x->zV (xn jH P w K mg base N x (aB st) f cdv A outer s H E0).MJ (cB st) m):bu P w K mg base jH (k+1) f fd ps (j8 K ps.length (eF N.length m)):=by
 obtain⟨oc,od,dV,kV,doc,pm,an,c,ct,uX,rfl,lk,yD⟩:=F.ex;refine Ld lk yD S (λvs H Q E h=>h.1) λA outer s H vs Q E hr h=>?_;obtain⟨hl,μ,ds,Rt,hv,hs,hp⟩:=h;have hb:=rm (.ref c) A outer s H hr ⟨rfl,c,f,_,_,rfl,F.ns,lk,rfl,rfl⟩;refine⟨_,zH.MJ hb,μ,startM N.length ds,Rt,ao.start N hv,hs,?_⟩;unfold eF at hp;cases hr:m (startM N.length ds) Rt with
 | bad=>rw[hr]at hp;exact hp.elim
 | err x st1=>rw[hr]at hp;exact hp.elim
 | ok o st1 =>
  rw[hr]at hp;cases o with
  | rt d=>exact hp
  | nx env=>exact fun σ' H' μ' g su _=>hp .non H' μ' g su (ak.bT.mpr rfl)
  | bk env=>exact hp.elim
  | cn env=>exact hp.elim
def QD{K:PySem.W.Frag}{x:Str}{st:Stmt}{f:Addr}{oc:Value}{od an:Option Addr}{uX:Array (Option Value)}{dV kV doc pm ct:Value}{c:Addr}(n:PySem.W.nsIn K mainGlobals x=some (some (.ref f)))(l:K.lookup f=some ⟨oc,od,.func (PySem.W.fnOf x x (cZ st) (cB st) (aB st) dV kV doc pm an (.ref c) ct),uX⟩)
  (h:PySem.W.codeIn K (.ref c) x=true) (k:PySem.W.keepIn K (.ref f)=true):Mm K x st f (PySem.W.fnOf x x (cZ st) (cB st) (aB st) dV kV doc pm an (.ref c) ct):=⟨⟨oc,od,dV,kV,doc,pm,an,c,ct,uX,rfl,l,h⟩,n,k⟩
def Mm.acf{K:PySem.W.Frag}{x:Str}{f P:Addr}{oc:Value}{od an:Option Addr}{uX:Array (Option Value)}{name qual:Str}{params:Arguments}{body:List Stmt}{scope:Scope}{dV kV doc pm ct:Value}{c:Addr}(n:PySem.W.nsIn K mainGlobals x=some (some (.ref f)))(l:K.lookup f=some ⟨oc,od,.func (PySem.W.fnOf name qual params body scope dV kV doc pm an (.ref c) ct),uX⟩)
  (h:PySem.W.codeHdIn K c P=true) (o:K.lookup P=none):Mh K x P:=⟨⟨f,_,_,c,n,l,rfl,rfl,h⟩,o⟩
def J9:∀(env:cg) (st:au) (as:List LA) (st1:au),JN env st=.ok as st1->as.length=([]:List Expr).length:=by
 intro env st as st1 h;cases h;rfl
def zmj{e:Expr}{es:List Expr}{a:ME}{r:ML}(h:∀(env:cg) (st:au) (as:List LA) (st1:au),r env st=.ok as st1->as.length=es.length) :
  ∀(env:cg) (st:au) (as:List LA) (st1:au),u9 a r env st=.ok as st1->as.length=(e::es).length:=by
 intro env st as st1 q;unfold u9 at q;cases h1:a env st with
 | bad=>rw[h1]at q;cases q
 | err x s=>rw[h1]at q;cases q
 | ok x s =>
  rw[h1,R.aD]at q;cases h2:r env s with
  | bad=>rw[h2]at q;cases q
  | err x s=>rw[h2]at q;cases q
  | ok xs s2 =>
   rw[h2,R.aD]at q;cases q;rw[gC,gC,h env s xs _ h2]
def J_{e:Expr}{es:List Expr}{j k:Nat}{cap:List Nat}{x:Str}{r:ML}(h:∀(env:cg) (st:au) (as:List LA) (st1:au),r env st=.ok as st1->as.length=es.length) :
  ∀(env:cg) (st:au) (as:List LA) (st1:au),Ae j cap k x r env st=.ok as st1->as.length=(e::es).length:=by
 intro env st as st1 q;unfold Ae at q
 split at q
 ·split at q
  ·cases h2:r env st with
   | bad=>rw[h2]at q;cases q
   | err x s=>rw[h2]at q;cases q
   | ok xs s2 =>
    rw[h2,R.aD]at q;cases q;rw[gC,gC,h env st xs _ h2]
  ·cases q
 ·cases q
end M
namespace M
open PySem PySem.Spec L2
noncomputable def abV:Expr->Nat->Expr
 | .Call _ as _ _,i=>as.getD i (.Constant .none 0 ⟨0,0,0,0⟩)
 | e,_=>e
noncomputable def Uk:Stmt->Expr
 | .Return (some e) _=>e
 | .Assign _ e _=>e
 | _=>.Constant .none 0 ⟨0,0,0,0⟩
noncomputable def RK:lO:=⟨"",⟨[],[],none,[],[],none,[]⟩,.Constant .none 0 ⟨0,0,0,0⟩,aB (.Pass ⟨0,0,0,0⟩),[]⟩
noncomputable def aa8(x:Str)(sH:List Str):Expr->lO
 | .Lambda ps b sc _=>⟨t7 x,ps,b,sc,sH⟩
 | _=>RK
def Kc(h0:X.env.scope=sc0)(nd:l.sH.Nodup)(hc:∀x∈l.sH,sc0.names.lookup x=some .cell)(ix:cap.map (λi=>X.N[i]?)=l.sH.map some):tO X l cap :=
 ⟨nd,λx hx=>by subst h0;exact hc x hx,ix⟩
end M
namespace M
open L2
def K8{s:au}{n:Nat}{o:MO}(h:s[n]? = some o)(hc:o.dU=false):(fJ s)[n]? = some o:=by
 rw[zp5 h,hc];rfl
def Oq(h:s[c]? = some (.clo j (Λ j) ds))(hG:G j (ds++as) (fJ s)=.ok d (fJ s))(hu:under s.length d):Dp Λ G c as s=.ok d s:=by
 unfold Dp;rw[h];dsimp only;rw[ae9 rfl,hG,zL (by rw[zjk];exact hu)];dsimp only;rw[ae9 ⟨rfl,hu⟩]
def Ot(hi:env[i]? = some (some (.loc n)))(h0:st[n]? = some (.clo j (Λ j) ds))(hA:mA env st=.ok as st1)(h:st1[n]? = some (.clo j (Λ j) ds))(hG:G j (ds++as) (fJ st1)=.ok d (fJ st1))(hu:under st1.length d) :
  callC Λ G i mA env st=.ok d st1:=by
 unfold callC;rw[hi];dsimp only;rw[h0];dsimp only;rw[hA,R.aD];exact Oq h hG hu
def Jb(hm:m env st=.ok as st1)(hn:fQ st1)(hp:qW Λ env st1.length as=some (ds,os))(hF:gc st1 (F (ds++dd) (st1++os))=.ok d st2)(WW:fQ st2) :
  wC Λ F dd m env st=.ok d st2:=by
 unfold wC;rw[hm,R.aD,ae9 hn,hp];dsimp only;rw[hF];dsimp only;rw[ae9 WW]
@[simp] def YF:fQ []:=λ_ h=>nomatch h
@[simp] def VM(o:MO)(st:au):fQ (o::st)↔o.dU=false/\fQ st:=by simp[fQ]
@[simp] def zlz(a b:au):fQ (a++b)↔fQ a/\fQ b:=by
 simp only[fQ,gm];exact⟨λh=>⟨λo ho=>h o (.inl ho),λo ho=>h o (.inr ho)⟩,λh o ho=>ho.elim (h.1 o) (h.2 o)⟩
@[simp] def YK(l:List D):(MO.lst l).dU=false:=rfl
@[simp] def YL(l:List D):(MO.frz l).dU=false:=rfl
@[simp] def YJ(x:PySem.Str):(MO.tab x).dU=false:=rfl
@[simp] def YW(l:List (List Key×D)):(MO.dic l).dU=false:=rfl
@[simp] def YT(l:List (Key×D)):(MO.dkc l).dU=false:=rfl
@[simp] def YS(l:List (Key×D)):(MO.dkf l).dU=false:=rfl
@[simp] def YM(c:String)(d:D):(MO.exc c d).dU=false:=rfl
@[simp] def YQ(l:List (List Key×D)):(MO.dtf l).dU=false:=rfl
end M
namespace M
open PySem PySem.Spec L2
section
variable  {X:Cx}{elt tg iter c:Expr}{ifs:List Expr}{scope:Scope}{pos:Pos}{N:List Str}{capt:List (Option Nat)}{mi:MI}{g:MG}{t:MT}{me:ME}
end
end M
namespace L2
open PySem PySem.Spec PyProof.Rows
end L2
namespace M
open PySem PySem.Spec L2
section
variable  {X:Cx}{a:Expr}{mA:MA}{μ:List Addr}{H:Hp}{p pos Ed:Pos}
end
end M
namespace M
open PySem PySem.Spec PySem.SeqAt L2
section
variable  {X:Cx}{pos:Pos}{x:Str}{L:Nat}
end
end M
namespace M
open PySem PySem.Spec L2
section
variable  {prog:Program}{w:World}{A:Around}{E:Value->Shared->Prop}{s:Shared}
end
section
variable  {X:Cx}{es:List Expr}{pos:Pos}
end
end M
namespace M
open L2
end M
namespace M
open PySem PySem.Spec L2
section
variable  {X:Cx}
end
end M
namespace M
open L2
noncomputable def valN(kvs:List (Key×D))(k:Key):Option D:=(kvs.find? λkv=>decide (kv.1=k)).map (·.2)
def Rc(p:Key×D)(r:List (Key×D))(k:Key):valN (p::r) k=if p.1=k then some p.2 else valN r k:=by
 unfold valN;rw[mW];by_cases h:p.1=k
 ·simp[h]
 ·simp[h]
noncomputable def putN(kvs:List (Key×D))(k:Key)(d:D):List (Key×D) :=
 if (kvs.any λkv=>decide (kv.1=k))=true then kvs.map (λkv=>if kv.1=k then (kv.1,d) else kv) else kvs++[(k,d)]
def D_(h:(kvs.any λkv=>decide (kv.1=k))=false):valN kvs k=none:=by
 induction kvs with
 | nil=>rfl
 | cons p r ih =>
  rw[my,pM]at h;rw[Rc,ae_ (by simpa using h.1),ih h.2]
def DX(kvs:List (Key×D))(k j:Key)(y:D)(h:valN kvs k=none):valN (kvs++[(k,y)]) j=if k=j then some y else valN kvs j:=by
 induction kvs with
 | nil=>rw[k_,Rc]
 | cons p r ih =>
  rw[Rc]at h
  split at h
  ·cases h
  ·rename_i hn;rw[kJ,Rc,Rc,ih h];by_cases e:p.1=j
   ·rw[ae9 e,ae9 e,ae_ (λz=>hn (e.trans z.symm))]
   ·rw[ae_ e,ae_ e]
def DY(kvs:List (Key×D))(k j:Key)(y:D)(h:(kvs.any λkv=>decide (kv.1=k))=true):valN (kvs.map λkv=>if kv.1=k then (kv.1,y) else kv) j=if k=j then some y else valN kvs j:=by
 induction kvs with
 | nil=>cases h
 | cons p r ih =>
  rw[gB,Rc,Rc];by_cases e:p.1=k
  ·rw[ae9 e];by_cases f:p.1=j
   ·rw[ae9 f,ae9 (e.symm.trans f)]
   ·have f2:¬ k=j:=λz=>f (e.trans z);rw[ae_ f,ae_ f,ae_ f2];cases ha:r.any λkv=>decide (kv.1=k) with
    | true=>rw[ih ha,ae_ f2]
    | false =>
     have:(r.map λkv=>if kv.1=k then (kv.1,y) else kv)=r:=by
      clear ih h
      induction r with
      | nil=>rfl
      | cons q r ih2 =>
       rw[my,pM]at ha;rw[gB,ae_ (by simpa using ha.1),ih2 ha.2]
     rw[this]
  ·rw[ae_ e];have ha:(r.any λkv=>decide (kv.1=k))=true:=by
    rw[my,Bool.or_eq_true]at h;exact h.resolve_left (by simpa using e)
   by_cases f:p.1=j
   ·rw[ae9 f,ae9 f,ae_ (λz=>e (f.trans z.symm))]
   ·rw[ae_ f,ae_ f,ih ha]
def zjm(kvs:List (Key×D))(k j:Key)(y:D):valN (putN kvs k y) j=if k=j then some y else valN kvs j:=by
 unfold putN
 split
 ·rename_i h;exact DY kvs k j y h
 ·rename_i h;exact DX kvs k j y (D_ (by simp only[Bool.not_eq_true]at h;exact h))
def zpx(kvs:List (Key×D))(k:Key)(y:D):(putN kvs k y).length<=kvs.length+1:=by
 unfold putN;split<;>simp
noncomputable def dkE:ME:=λ_ st=>.ok (.loc st.length) (st++[.dkc []])
@[simp] def aer(env:cg)(st:au):dkE env st=.ok (.loc st.length) (st++[.dkc []]):=jD rfl
noncomputable def v5:D->List D->au->R D
 | .loc n,[k,d],st=>match st[n]?,keyOf k with
  | some (.dkc kvs),some kk=>.ok ((valN kvs kk).getD d) st
  | _,_=>.bad
 | _,_,_=>.bad
noncomputable def wV:D->D->D->au->R Unit
 | .loc n,k,d,st=>match st[n]?,keyOf k with
  | some (.dkc kvs),some kk=>if kvs.length<1000000 then .ok () (st.set n (.dkc (putN kvs kk d))) else .bad
  | _,_=>.bad
 | _,_,_,_=>.bad
end M
namespace M
open PySem PySem.Spec L2
section
variable  {X:Cx}{K:PySem.W.Frag}{μ:List Addr}{H:Hp}
theorem aN.valN:∀{kvs:List (Key×D)} {ws:List (Key×V)},aN K μ H kvs ws ->
  (M.valN kvs k=none/\lR ws k=none)\/∃d v,M.valN kvs k=some d/\lR ws k=some v/\ak K μ H d v
 | [],ws,h=>.inl ⟨rfl,by rw[aN]at h;rw[h];rfl⟩
 | (j,d)::r,ws,h=>by
  obtain⟨v,r',rfl,h1,h2⟩:=h;rw[Rc];by_cases e:j=k
  ·rw[ae9 e];exact .inr ⟨d,v,rfl,ZK (p:=(j,v)) e,h1⟩
  ·rw[ae_ e,ZR (p:=(j,v)) e];exact aN.valN h2
theorem aN.abY:∀{kvs:List (Key×D)} {ws:List (Key×V)},aN K μ H kvs ws->(kvs.any λkv=>decide (kv.1=k))=(ws.any λkv=>decide (kv.1=k))
 | [],ws,h=>by rw[aN]at h;rw[h];rfl
 | (j,d)::r,ws,h=>by
  obtain⟨v,r',rfl,h1,h2⟩:=h;rw[my,my,aN.abY h2]
theorem aN.IV(hv:ak K μ H d v):∀{kvs:List (Key×D)} {ws:List (Key×V)},aN K μ H kvs ws->aN K μ H (kvs.map λkv=>if kv.1=k then (kv.1,d) else kv) (ws.map λkv=>if kv.1=k then (kv.1,v) else kv)
 | [],ws,h=>by rw[aN]at h;subst h;exact rfl
 | (j,d')::r,ws,h=>by
  obtain⟨v',r',rfl,h1,h2⟩:=h;rw[gB,gB];by_cases e:j=k
  ·rw[ae9 e,ae9 e];exact⟨v,_,rfl,hv,aN.IV hv h2⟩
  ·rw[ae_ e,ae_ e];exact⟨v',_,rfl,h1,aN.IV hv h2⟩
theorem aN.Rv:∀{kvs:List (Key×D)} {ws:List (Key×V)},aN K μ H kvs ws->ak K μ H d v->aN K μ H (kvs++[(k,d)]) (ws++[(k,v)])
 | [],ws,h,hv=>by rw[aN]at h;subst h;exact⟨v,[],rfl,hv,rfl⟩
 | (j,d')::r,ws,h,hv=>by
  obtain⟨v',r',rfl,h1,h2⟩:=h;exact⟨v',r'++[(k,v)],rfl,h1,aN.Rv h2 hv⟩
def aN.putN(h:aN K μ H kvs ws)(hv:ak K μ H d v):aN K μ H (M.putN kvs k d) (putK ws k v):=by
 unfold M.putN putK;rw[h.abY]
 split
 ·exact aN.IV hv h
 ·exact h.Rv hv
def aV.dkc{st:au}{n:Nat}{kvs:List (Key×D)}(h:aV K μ H st)(e:st[n]? = some (.dkc kvs)):∃p ws,μ[n]? = some p/\H p=some (.dK ws)/\aN K μ H kvs ws:=by
 obtain⟨p,h1,xs,h2,h3⟩:=h.at_ n _ e;exact⟨p,xs,h1,h2,h3⟩
def ak.key(h:ak K μ H d v)(e:keyOf d=some k):v=kV k:=by
 cases d with
 | int i=>rw[ak.aP]at h;cases e;exact h
 | str cs=>rw[ak.aY]at h;cases e;exact h
 | _=>cases e
end
section
variable  {X:Cx}{a b o i:Expr}{ma mb:ME}{pos:Pos}
def zpd:JE X (.Dict [] [] pos) dkE:=by
 refine JE.of Js fun σ H Q zz=>?_;obtain⟨μ,env,st,hE,hs,hp⟩:=zz;refine λp hn=>?_;have hr:jW X.K (μ++[p]) (upd H p (.dK [])) p (.dkc []):=⟨[],rQ,rfl⟩;exact hp _ _ (μ++[p]) (bD.new hn) (hs.new hn hr) (ak.aL.mpr ⟨p,by rw[<-hs.len];simp,rfl⟩)
def zpe(hu:X.A.units+1<cLine):xx X "dict.get" (Ou X v5):=by
 rintro pins s σ H x xs v us Q I rx Ip ⟨μ,st,d,ds,hs,hx,uJ,hp⟩;unfold v5 at hp
 split at hp
 ·rename_i n k dd
  split at hp
  ·rename_i kvs kk e1 e2;obtain⟨p,q1,rfl⟩:=ak.aL.mp hx;obtain⟨y,z,rfl,q2,q5⟩:=ao.two uJ;obtain rfl:=q2.key e2;obtain⟨p',ws,r1,r2,r3⟩:=hs.dkc e1;rw[q1]at r1;cases r1;cases Ip with
   | cons ry rr =>
    cases rr with
    | cons rz rr =>
     cases rr;obtain rfl:v=Value.ref p:=rx;refine Xq hu I (sI.k r2) ry rz λw' s' I' z8=>⟨_,H,I',z8,?_⟩;rcases r3.valN (k:=kk) with⟨z1,z2⟩ | ⟨d',v',z1,z2,z3⟩
     ·rw[z1]at hp;rw[z2];exact hp.ret hs q5
     ·rw[z1]at hp;rw[z2];exact hp.ret hs z3
  ·exact hp.elim
 ·exact hp.elim
def Im(hu:X.A.units+1<cLine):xu X (Cd X wV):=by
 rintro pins s σ H o i v ov iv u Q I ro ri rv ⟨μ,st,d1,d2,d3,hs,h1,h2,h3,hp⟩;unfold wV at hp
 split at hp
 ·rename_i n k d
  split at hp
  ·rename_i kvs kk e1 e2
   split at hp
   ·rename_i hl;obtain⟨p,q1,rfl⟩:=ak.aL.mp h1;obtain rfl:=h2.key e2;obtain⟨p',ws,r1,r2,r3⟩:=hs.dkc e1;rw[q1]at r1;cases r1;obtain rfl:ov=Value.ref p:=ro;refine zmw hu I (Bg.k r2 (by rw[<-r3.len];exact gR hl (by decide))) ri rv λs' I'=>⟨_,I',?_⟩;have g:Ext H (upd H p (.dK (putK ws kk v))):=Ext.mut r2 (λ_ z=>nomatch z) (λ_ _ z=>nomatch z);have g':bD μ H μ (upd H p (.dK (putK ws kk v))):=⟨⟨[],by simp⟩,g⟩;exact hp () _ μ g' (hs.put e1 rfl rfl q1 g ⟨_,rQ,(r3.putN h3).mono g'⟩) trivial
   ·exact hp.elim
  ·exact hp.elim
 ·exact hp.elim
end
end M
namespace M
open PySem PySem.Spec PySem.SeqAt L2
end M
namespace L2
open PySem PySem.Spec PyProof.Rows
def Qe(h:(bU P w).is k u=true):RelV (kV k) u:=by
 rw[zp0]at h;rcases Mv h with⟨i,t,rfl,rfl⟩ | ⟨x,t,rfl,rfl⟩
 ·exact⟨t,rfl⟩
 ·exact⟨t,rfl⟩
theorem zi2:∀{ae0:List α} {aeZ:List β},Paired F ae0 aeZ->∀(i:Nat) (a:α) (b:β),ae0[i]? = some a->aeZ[i]? = some b->F a b
 | _,_,.nil,i,a,b,h,_=>by simp at h
 | _,_,.cons r t,0,a,b,h1,h2=>by simp at h1 h2;subst h1;subst h2;exact r
 | _,_,.cons r t,i+1,a,b,h1,h2=>zi2 t i a b (by simpa using h1) (by simpa using h2)
noncomputable def Itk(d:Addr)(o:Obj)(kvs:List (Key×V)):It :=
 ⟨λi H=>i<kvs.length/\H d=some (.frz o (.dK kvs)),λi H y H'=>H'=H/\∃p,kvs[i]? = some p/\y=kV p.1,λi H=>kvs.length<=i/\H d=some (.frz o (.dK kvs))⟩
def Dk(I:Inv X pins σ H s)(ho:o.data=.dict es ep)(e:H d=some (.frz o (.dK kvs))) :
  (d==sysModules)=false/\∃vs,KV kvs vs/\s.heap.DictAt (bU X.prog X.w) d vs ep:=by
 obtain⟨h1,z,hd,vs,rel,o',es',ep',h2,h3,h4,h5⟩:=(show cH X.prog X.w H s.heap d (.frz o (.dK kvs)) from I.cz d _ e);rw[h1]at h2;cases h2;rw[ho]at h4;cases h4;exact⟨hd,vs,rel,o,es,h1,h3,ho,h5⟩
def Nz{P:Program}{w:World}{K:PySem.W.Frag}{tg:Expr}(it d:Addr)(o:Obj)(es:Array DictEntry)(ep:Nat)(ho:o.data=.dict es ep)(kvs:List (Key×V)):Turn P w K tg (Itk d o kvs) [it] it (λi h=>h.IsKeyIter it d i kvs.length ep) where
 mem:=by simp
 obj:=λi h st b hb=>by
  have e:b=it:=by simpa using hb
  subst e;obtain⟨o,e,c,d⟩:=st;exact⟨o,e,λv z=>by rw[d]at z;cases z⟩
 keep:=λi h h' st k=>by
  obtain⟨o,e,c,d⟩:=st;exact⟨o,k it (by simp) o e,c,d⟩
 item:=by
  intro X hP hw hK hc i pins s σ H E I hf st hg;subst hP hw hK;obtain⟨f0,f1,f2,f3,f4,f5⟩:=hf it (by simp);obtain⟨hi,e⟩:=hg;obtain⟨hd,vs,rel,da⟩:=Dk I ho e;have hl:kvs.length=vs.length:=afo rel;obtain⟨q,hq⟩:∃q,vs[i]? = some q:=⟨_,kj (by omega)⟩;obtain⟨p,hp⟩:∃p,kvs[i]? = some p:=⟨_,kj hi⟩;have hk:p.1=q.1:=(zi2 rel i p q hp hq).1;rw[hl]at st;refine wpAny_pyNext_dict_item (k:=q.1) (v:=q.2) st da hq λkey h' ik st' sb=>?_;have I1:Inv X pins σ H { s with heap:=h' }:=I.turned (t':=s.toks) (λb o hb e=>(sb.2 b hb).trans e) f0 f1 f3 f4 f5;obtain⟨o1,e1,c1,d1⟩:=id st';rw[<-hl]at st';exact⟨_,rfl,xR (s:={ s with heap:=h' }) e1 c1 d1 (by decide) ⟨kV p.1,H,I1,by rw[hk];exact Qe ik,⟨rfl,p,hp,rfl⟩,st',λb hb=>(hf b hb).1⟩⟩
 done:=by
  intro X hP hw hK hc i pins s σ H E I hf st hg;subst hP hw hK;obtain⟨f0,f1,f2,f3,f4,f5⟩:=hf it (by simp);obtain⟨hi,e⟩:=hg;obtain⟨hd,vs,rel,da⟩:=Dk I ho e;have hl:kvs.length=vs.length:=afo rel;rw[hl]at st;exact wpAny_pyNext_dict_end (I.ok.hd hc) st da (pP (by omega)) λh' eb=>⟨rfl,I.turned (t':=s.toks) (λb o hb e=>eb b o hb e) f0 f1 f3 f4 f5⟩
 self:=λ_ _ _ _ _ st h=>wpAny_pyIter_keyiter st h
noncomputable def iDk(tl:TE):TI:=fun σ H R=>tl σ H λy H1=>∃a kvs,y=.ref a/\((∃o,H1 a=some (.frz o (.dK kvs))/\R (Itk a o kvs) H1)\/(H1 a=some (.dK kvs)/\∀o,R (Itk a o kvs) (upd H1 a (.frz o (.dK kvs)))))
def aaP{X:Cx}{tg l:Expr}{tl:TE}(hl:PE X l tl):PI X tg l (iDk tl):=by
 intro pins s σ H R I h;refine dO (hl pins s σ H _ I h) λv s1 zz=>?_;obtain⟨y,H1,I1,r1,q1⟩:=zz;obtain⟨a,kvs,rfl,q⟩:=q1;cases (show v=Value.ref a from r1);have key:∀(H2:Hp) (o:Obj),Inv X pins σ H2 s1->H2 a=some (.frz o (.dK kvs))->R (Itk a o kvs) H2->wpAny (model X.prog X.w) X.A (pyIter (.ref a)) (PIE X pins σ tg R) X.xe s1:=λH2 o I2 e2 r2=>by
  obtain⟨h1,z,hd,vs,rel,o',es,ep,h2,h3,h4,h5⟩:=(show cH X.prog X.w H2 s1.heap a (.frz o (.dK kvs)) from I2.cz a _ e2);rw[h1]at h2;cases h2;have hl:kvs.length=vs.length:=afo rel;refine wpAny_pyIter_dict (knd:=bU X.prog X.w) (kvs:=vs) (ep:=ep) hd ⟨o,es,h1,h3,h4,h5⟩ ?_;refine⟨s1.heap.objs.size,[s1.heap.objs.size],_,_,H2,rfl,I2.kept (t':=s1.toks) λb u e=>gJ _ e,Nz _ a o es ep h4 kvs,⟨_,h_ _ rfl,rfl,by rw[hl];rfl⟩,λb hb=>?_,r2⟩;have e:b=s1.heap.objs.size:=by simpa using hb
  subst e;exact I2.yH (gf _) (I2.cz.fresh (gf _))
 rcases q with⟨o,e,r⟩ | ⟨e,r⟩
 ·exact key H1 o I1 e r
 ·obtain⟨z,hd,vs,rel,o,es,ep,h2,h3⟩:=(show cH X.prog X.w H1 s1.heap a (.dK kvs) from I1.cz a _ e);have new:cH X.prog X.w (upd H1 a (.frz o (.dK kvs))) s1.heap a (.frz o (.dK kvs)):=⟨h2,z,hd,vs,rel,o,es,ep,h2,h3⟩;exact key (upd H1 a (.frz o (.dK kvs))) o (I1.write (x:=a) (e:=a) (t':=s1.toks) (h':=s1.heap) (by rw[e];trivial) (.inl rfl) (λb u _ z=>z) ⟨o,h2⟩ new) rQ (r o)
end L2
namespace M
open PySem PySem.Spec L2
noncomputable def o8:Key->D
 | .inl i=>.int i
 | .inr x=>.str x.cps.toList
noncomputable def Xp(m:ME):MI:=λenv st=>(m env st).bind λd st1=>match d with
 | .loc n=>(match st1[n]? with
  | some (.dkc kvs)=>.ok (kvs.map (λp=>o8 p.1),[]) (st1.set n (.dkf kvs))
  | some (.dkf kvs)=>.ok (kvs.map (λp=>o8 p.1),[]) st1
  | _=>.bad)
 | _=>.bad
noncomputable def Wk:D->D->au->R D
 | .loc n,k,st=>match st[n]?,keyOf k with
  | some (.dkc kvs),some kk=>(match valN kvs kk with | some d=>.ok d st | none=>.bad)
  | some (.dkf kvs),some kk=>(match valN kvs kk with | some d=>.ok d st | none=>.bad)
  | _,_=>.bad
 | _,_,_=>.bad
section
variable  {X:Cx}{tg l a b:Expr}{ml ma mb:ME}{μ:List Addr}{H:Hp}{K:PySem.W.Frag}{st:au}{pos:Pos}
def ak.o8(k:Key):ak K μ H (M.o8 k) (kV k):=by
 cases k with
 | inl i=>exact ak.aP.mpr rfl
 | inr x=>exact ak.aY.mpr (by show V.str x=V.str (strOf x.cps.toList);simp[strOf])
theorem aN.RV:∀{kvs:List (Key×D)} {ws:List (Key×V)},aN K μ H kvs ws->kvs.length=ws.length/\∀(i:Nat) (p:Key×D) (q:Key×V),kvs[i]? = some p->ws[i]? = some q->p.1=q.1
 | [],_,h=>by cases h;exact⟨rfl,λi p q h1=>by simp at h1⟩
 | (k,d)::r,_,⟨v,s,rfl,h1,h2⟩=>by
  obtain⟨l,hk⟩:=aN.RV h2;refine⟨by simp[l],λi p q e1 e2=>?_⟩;cases i with
  | zero=>simp at e1 e2;subst e1;subst e2;rfl
  | succ i=>exact hk i p q (by simpa using e1) (by simpa using e2)
def CV{a:Addr}{o:Obj}{kvs:List (Key×D)}{ws:List (Key×V)}(e:H a=some (.frz o (.dK ws)))(h:aN X.K μ H kvs ws):vd X μ H (Itk a o ws) (kvs.map (λp=>M.o8 p.1),[]):=by
 intro H' μ' st' g hs ok;obtain⟨hl,hk⟩:=h.RV;have e':=g.ext.frz _ _ _ e;refine⟨λi d ed=>?_,⟨by simp[hl],e'⟩⟩;rw[gH]at ed;obtain⟨p,e1,rfl⟩:=gO.mp ed;have hi:=(gk.mp e1).1;refine⟨⟨by omega,e'⟩,?_⟩;rintro x Ml ⟨rfl,q,hq,rfl⟩;refine⟨.refl _ _,hs,?_⟩;rw[hk i p q e1 hq];exact ak.o8 _
def aV.jK{n:Nat}{mo RP:MO}{a:Addr}{o':HO}(h:aV K μ H st)(hn:st[n]? = some mo)(hm:mo.mut=true)(ha:μ[n]? = some a)(g:Ext H (upd H a o'))(new:jW K μ (upd H a o') a RP):aV K μ (upd H a o') (st.set n RP):=by
 have hl:=(gk.mp hn).1;refine⟨by simp[h.len],λk ok e=>?_,λi j b oi oj ei ej mi mj hi hj=>?_⟩
 ·by_cases hk:n=k
  ·subst hk;rw[mL hl]at e;cases e;exact⟨a,ha,new⟩
  ·rw[mC hk]at e;obtain⟨b,h1,h2⟩:=h.at_ k ok e;refine⟨b,h1,h2.keep ⟨⟨[],by simp⟩,g⟩ λWY u q=>?_⟩;rw[iD (λe2=>?_)]
   ·exact q
   ·subst e2;exact hk (h.uniq n k b mo ok hn e hm WY ha h1)
 ·have key:∀(k:Nat) (ok:MO),(st.set n RP)[k]? = some ok->ok.mut=true->∃ok',st[k]? = some ok'/\ok'.mut=true:=λk ok ek mk=>by
   by_cases hk:n=k
   ·subst hk;exact⟨mo,hn,hm⟩
   ·rw[mC hk]at ek;exact⟨ok,ek,mk⟩
  obtain⟨oi',ei',mi'⟩:=key i oi ei mi;obtain⟨oj',ej',mj'⟩:=key j oj ej mj;exact h.uniq i j b oi' oj' ei' ej' mi' mj' hi hj
def RX(hl:JE X l ml):JI X tg l (Xp ml):=by
 refine JI.of (aaP hl) fun σ H R zz=>?_;obtain⟨μ,env,st,hE,hs,hp⟩:=zz;refine⟨μ,env,st,hE,hs,(cM.bind hp).imp ?_⟩;rintro v H1 ⟨μ1,st1,d,g1,bV,hv,bf⟩;dsimp only at bf
 split at bf
 ·rename_i n;obtain⟨a,q1,rfl⟩:=ak.aL.mp hv
  split at bf
  ·rename_i kvs e1;obtain⟨a',ws,r1,r2,r3⟩:=bV.dkc e1;rw[q1]at r1;cases r1;refine⟨a,ws,rfl,.inr ⟨r2,λo=>?_⟩⟩;have g:Ext H1 (upd H1 a (.frz o (.dK ws))):=Ext.mut r2 (λ_ z=>nomatch z) (λ_ _ z=>nomatch z);have g':bD μ1 H1 μ1 (upd H1 a (.frz o (.dK ws))):=⟨⟨[],by simp⟩,g⟩;exact bf _ _ μ1 g' (bV.jK e1 rfl q1 g ⟨ws,o,rQ,r3.mono g'⟩) (CV rQ (r3.mono g'))
  ·rename_i kvs e1;obtain⟨a',r1,ws,o,r2,r3⟩:=bV.at_ n _ e1;rw[q1]at r1;cases r1;exact⟨a,ws,rfl,.inl ⟨o,r2,bf _ _ _ (.refl _ _) bV (CV r2 r3)⟩⟩
  ·exact bf.elim
 ·exact bf.elim
def Wg(hu:X.A.units+1<cLine)(ha:JE X a ma)(hb:JE X b mb)(hs:Q9 b:=by exact λ_ _=>rfl):JE X (.Subscript a b pos) (aM Wk ma mb):=by
 refine JE.of (Cj hu ha hb hs) fun σ H Q h=>?_;obtain⟨μ,env,st,hE,hs,hp⟩:=X3 h;refine⟨μ,env,st,hE,hs,hp.imp ?_⟩;rintro x H1 ⟨μ1,cA,st1,hE1,bV,bf⟩;refine⟨μ1,cA,st1,hE1,bV,bf.imp ?_⟩;rintro y H2 ⟨μ2,st2,dx,dy,fY,hx,hy,dY⟩;unfold Wk at dY
 split at dY
 ·rename_i n k
  split at dY
  ·rename_i kvs kk e1 e2;obtain⟨p,q1,rfl⟩:=ak.aL.mp hx;obtain rfl:=hy.key e2;obtain⟨p',ws,r1,r2,r3⟩:=fY.dkc e1;rw[q1]at r1;cases r1;rcases r3.valN (k:=kk) with⟨z1,z2⟩ | ⟨d',v',z1,z2,z3⟩
   ·rw[z1]at dY;exact dY.elim
   ·rw[z1]at dY;exact⟨p,v',rfl,by rw[<-z2];exact sI.k r2,dY.ret fY z3⟩
  ·rename_i kvs kk e1 e2;obtain⟨p,q1,rfl⟩:=ak.aL.mp hx;obtain rfl:=hy.key e2;obtain⟨p',r1,ws,o,r2,r3⟩:=fY.at_ _ _ e1;rw[q1]at r1;cases r1;rcases r3.valN (k:=kk) with⟨z1,z2⟩ | ⟨d',v',z1,z2,z3⟩
   ·rw[z1]at dY;exact dY.elim
   ·rw[z1]at dY;exact⟨p,v',rfl,.inl ⟨ws,kk,.inr ⟨o,r2⟩,rfl,z2.symm⟩,dY.ret fY z3⟩
  ·exact dY.elim
 ·exact dY.elim
end
end M
namespace L2
open PySem PySem.Spec PyProof.Rows
end L2
namespace M
open PySem PySem.Spec L2
def BZ(h:m env st=.ok (.loc n) st1)(e:st1[n]? = some (.dkc kvs)):Xp m env st=.ok (kvs.map (λp=>o8 p.1),[]) (st1.set n (.dkf kvs)):=by
 unfold Xp;rw[h];simp only[R.bind,e]
def Oo(e:st[n]? = some (.dkf kvs))(hk:keyOf k=some kk)(h:valN kvs kk=some d):Wk (.loc n) k st=.ok d st:=by
 simp only[Wk,e,hk,h]
noncomputable def ac7(tb:List (List Nat×D)):List (Key×D):=tb.map λp=>(Sum.inr (strOf p.1),p.2)
structure aev(w:World)(K:PySem.W.Frag)(a:Addr)(tb:List (List Nat×D)):Prop where
 low:(a==sysModules)=false
 at_:∀P:Program,∃(kvs:List (Key×V)) (vs:List (Key×Value)) (ep:Nat),(∀μ H,aN K μ H (ac7 tb) kvs)/\KV kvs vs/\∀h:Heap,K.In h->h.DictAt (bU P w) a vs ep
inductive Rws (K:PySem.W.Frag) (w:World):List DictEntry->List (List Nat×D)->Prop
 | nil:Rws K w [] []
 | i {h:Int} {x:Str} {t u:Tok} {cs:List Nat} {n:Int} {es:List DictEntry} {tb:List (List Nat×D)} (hx:x=strOf cs) (hh:h=aa9 w (.inr x)) (r:Rws K w es tb):Rws K w (⟨h,.str x t,.int n u⟩::es) ((cs,.int n)::tb)
section
variable  {X:Cx}{tg b:Expr}{mb:ME}{pos pos':Pos}{x:Str}{tb:List (List Nat×D)}
end
end M
namespace M
open PySem PySem.Spec PySem.SeqAt L2
section
variable  {X:Cx}{L:Nat}
end
end M
namespace M
open PySem PySem.Spec L2
section
variable  {X:Cx}{b:Expr}{mb:ME}{x:Str}{tb:List (List Nat×D)}{fW apos pos':Pos}
end
end M
namespace L2
open PySem PySem.Spec PyProof.Rows
section
variable  {prog:Program}{w:World}{A:Around}{E:Value->Shared->Prop}{s:Shared}{d:Addr}{o:Obj}{es:Array DictEntry}{ep:Nat}
def zj6(hd:(d==sysModules)=false):MeetsIn prog w (Builtin.«dict.__len__» ⟨[.ref d],[]⟩) (λ_ R s=>∃o es ep,s.heap.get? d=some o/\o.data=.dict es ep/\R (.ok (.ret (.int es.size s.toks))) { s with toks:=s.toks+1 }) :=
 .of_wp λA R s zz=>by
  obtain⟨o,es,ep,ho,vz,h⟩:=zz;show wpAny _ _ (dictSize d >>= _) _ _ s;unfold dictSize;refine ae7 (ae7 (afK ho vz (ae8 ?_)));show wpAny _ _ (Builtin.Dict.pendingCount d >>= _) _ _ s;refine ae7 (wpAny_pendingCount_other hd ?_);refine wpAny_ret_mkInt ?_;simpa using h
def PL(hd:(d==sysModules)=false)(ho:s.heap.get? d=some o)(hx:o.ExactDict)(vz:o.data=.dict es ep)(Qw:(es.size:Int)<2 ^ 63) 
  (h:Q (.int es.size (s.toks+1)) { s with toks:=s.toks+1+1 }):wpAny (model prog w) A (call (.builtin "len") [.ref d]) Q E s:=by
 have hT:s.TypeIs (.ref d) "dict":=⟨o,ho,hx.1⟩;refine Calls.call_function_entry PySem.kind_len PySem.plain_len PySem.entry_len (PySem.args_len1 _) ?_;unfold Builtin.«len»;refine ae7 (m:=oneArg "len" _) (ae8 ?_);refine ae7 (m:=callSpecial? (.ref d) (Str.ofString "__len__")) (afj (name:=Str.ofString "__len__") hT F.slot_dict_len
  (afQ F.slot_dict_len hT F.entry_dict_len (F.args_dict_len_1 _) (zj6 hd) ⟨o,es,ep,ho,vz,?_⟩))
 show wpAny _ _ _ _ _ { s with toks:=s.toks+1 };refine ae7 (afi (ae8 ?_));refine ae7 (wpAny_letGo ?_);show wpAny _ _ (if (es.size:Int)<0 then _ else _) _ _ _;rw[ae_ (by omega)];show wpAny _ _ (if (es.size:Int) ≥ 2 ^ 63 then _ else _) _ _ _;rw[ae_ (by omega)];exact ae7 (wpAny_mkInt (ae8 ⟨_,rfl,h⟩))
end
end L2
namespace M
open PySem PySem.Spec L2
section
variable  {K:PySem.W.Frag}{μ ν:List Addr}{H H':Hp}{st st':au}
def aV.Tg(hl:μ.length=n)(h:aV K (μ++ν) H' st')(hn:n<=st'.length)(hu:∀o∈st'.take n,aU n o):aV K μ H' (st'.take n):=by
 have tg:∀(k:Nat) (o:MO),(st'.take n)[k]? = some o->st'[k]? = some o/\k<n:=λk o e=>by
  have hk:=(gk.mp e).1;rw[m6]at hk;rw[pH,ae9 (by omega)]at e;exact⟨e,by omega⟩
 refine⟨by rw[m6,hl];omega,λk o e=>?_,λi j a oi oj ei ej mi mj hi hj=>?_⟩
 ·obtain⟨e1,hk⟩:=tg k o e;obtain⟨a,h1,h2⟩:=h.at_ k o e1;rw[gP (by omega)]at h1;exact⟨a,h1,h2.down (by rw[hl];exact hu o (gM e))⟩
 ·have up:∀k,μ[k]? = some a->(μ++ν)[k]? = some a:=λk hk=>by rw[gP (gk.mp hk).1];exact hk
  exact h.uniq i j a oi oj (tg i oi ei).1 (tg j oj ej).1 mi mj (up i hi) (up j hj)
def aV.Xy(hl:μ.length=n)(h:aV K (μ++ν) H' st')(hn:n<=st'.length)(hu:∀o∈st'.take n,aU n o)(hk:n<=k)(e:st'[k]? = some o)(u:aU n o)(ha:(μ++ν)[k]? = some a) :
  aV K (μ++[a]) H' (st'.take n++[o]):=by
 have hb:=aV.Tg hl h hn hu;have lt:(st'.take n).length=n:=by rw[m6];omega
 obtain⟨a',q1,q2⟩:=h.at_ k o e;rw[ha]at q1;cases q1;have key:∀(i:Nat) (on:MO) (c:Addr),(st'.take n++[o])[i]? = some on->(μ++[a])[i]? = some c->(i<n/\(st'.take n)[i]? = some on/\μ[i]? = some c)\/(i=n/\on=o/\c=a):=λi on c e1 e2=>by
  by_cases hi:i<n
  ·rw[gP (by omega)]at e1;rw[gP (by omega)]at e2;exact .inl ⟨hi,e1,e2⟩
  ·have uZ:=(gk.mp e1).1;rw[gh,mq,lt]at uZ;have en:i=n:=by omega
   subst en;rw[gw (by omega),lt]at e1;rw[gw (by omega),hl]at e2;simp at e1 e2;exact .inr ⟨rfl,e1.symm,e2.symm⟩
 have tg:∀(i:Nat) (o:MO),(st'.take n)[i]? = some o->st'[i]? = some o:=λi o e=>by
  have hi:=(gk.mp e).1;rw[lt]at hi;rw[pH,ae9 hi]at e;exact e
 refine⟨by simp[lt,hl],λi on e1=>?_,λi j c oi oj ei ej mi mj hi hj=>?_⟩
 ·have hi:i<(μ++[a]).length:=by
   have:=(gk.mp e1).1;simp[lt]at this;simp[hl];omega
  obtain⟨c,hc⟩:∃c,(μ++[a])[i]? = some c:=⟨_,kj hi⟩;rcases key i on c e1 hc with⟨h1,h2,h3⟩ | ⟨h1,rfl,rfl⟩
  ·obtain⟨c',h4,h5⟩:=hb.at_ i on h2;rw[h3]at h4;cases h4;exact⟨c,hc,h5.up _⟩
  ·exact⟨c,hc,(q2.down (by rw[hl];exact u)).up _⟩
 ·have up:∀k,μ[k]? = some c->(μ++ν)[k]? = some c:=λk hk=>by rw[gP (gk.mp hk).1];exact hk
  rcases key i oi c ei hi with⟨h1,h2,h3⟩ | ⟨h1,rfl,rfl⟩
  ·rcases key j oj c ej hj with⟨g1,g2,g3⟩ | ⟨g1,rfl,rfl⟩
   ·exact hb.uniq i j c oi oj h2 g2 mi mj h3 g3
   ·have:=h.uniq i k c oi oj (tg i oi h2) e mi mj (up i h3) ha;omega
  ·rcases key j oj c ej hj with⟨g1,g2,g3⟩ | ⟨g1,_,_⟩
   ·have:=h.uniq j k c oj oi (tg j oj g2) e mj mi (up j g3) ha;omega
   ·rw[h1,g1]
end
open Classical in
noncomputable def zT(st:au)(r:R D):R D:=match r with
 | .ok d st'=>if st.length<=st'.length/\∀o∈st'.take st.length,aU st.length o then (if under st.length d then .ok d (st'.take st.length) else (match d with
  | .loc k=>(match st'[k]? with
   | some o=>if st.length<=k/\aU st.length o then .ok (.loc st.length) (st'.take st.length++[o]) else .ok d st'
   | none=>.ok d st')
  | d=>.ok d st')) else .ok d st'
 | r=>r
noncomputable def qI(F:FD):FD:=λds st=>zT st (F ds st)
def T3(hl:st'.length=st.length)(hu:∀o∈st',aU st.length o)(h:under st.length d):zT st (.ok d (st'++g))=.ok d st':=by
 unfold zT;dsimp only;have e:(st'++g).take st.length=st':=by rw[<-hl,List.take_left'];rfl
 rw[ae9 ⟨by simp;omega,by rw[e];exact hu⟩,ae9 h,e]
def QC(hl:st'.length=st.length)(hu:∀o∈st',aU st.length o)(h:aU st.length o):zT st (.ok (.loc (st.length+g.length)) (st'++g++o::g'))=.ok (.loc st.length) (st'++[o]):=by
 unfold zT;dsimp only;have e:(st'++g++o::g').take st.length=st':=by rw[gG,<-hl,List.take_left'];rfl
 have e2:(st'++g++o::g')[st.length+g.length]? = some o:=by
  rw[<-hl,gw (by simp)];simp
 rw[ae9 ⟨by simp;omega,by rw[e];exact hu⟩,ae_ (by simp),e2];dsimp only;rw[ae9 ⟨by omega,h⟩,e]
def K_(hs:aV K μ H st)(h:wI K μ H Q (zT st r)):wI K μ H Q r:=by
 cases r with
 | bad=>exact h
 | err x st'=>exact h
 | ok d st' =>
  unfold zT at h;dsimp only at h;by_cases c0:st.length<=st'.length/\∀o∈st'.take st.length,aU st.length o
  ·rw[ae9 c0]at h;by_cases c1:under st.length d
   ·rw[ae9 c1]at h;intro v H' μ' g su hv;obtain⟨ν,rfl⟩:=g.pre;exact h v H' μ ⟨⟨[],by simp⟩,g.ext⟩ (aV.Tg hs.len su c0.1 c0.2) (ak.down d hv (by rw[hs.len];exact c1))
   ·rw[ae_ c1]at h;cases d with
    | loc k =>
     dsimp only at h;cases e:st'[k]? with
     | none=>rw[e]at h;exact h
     | some o =>
      rw[e]at h;dsimp only at h;by_cases c2:st.length<=k/\aU st.length o
      ·rw[ae9 c2]at h;intro v H' μ' g su hv;obtain⟨ν,rfl⟩:=g.pre;obtain⟨a,h1,rfl⟩:=ak.aL.mp hv;refine h _ H' (μ++[a]) ⟨⟨[a],rfl⟩,g.ext⟩ (aV.Xy hs.len su c0.1 c0.2 c2.1 e c2.2 h1) (ak.aL.mpr ⟨a,?_,rfl⟩);rw[<-hs.len];simp
      ·rw[ae_ c2]at h;exact h
    | _=>exact h
  ·rw[ae_ c0]at h;exact h
def Q_(h:j8 K n (qI F) vs H Q E):j8 K n F vs H Q E:=by
 obtain⟨hl,μ,ds,st,h1,h2,h3⟩:=h;exact⟨hl,μ,ds,st,h1,h2,K_ h2 h3⟩
noncomputable def za(f:Str)(d:D):List (Str×D)->List (Str×D)
 | []=>[(f,d)]
 | (g,x)::r=>if g=f then (g,d)::r else (g,x)::za f d r
noncomputable def j6(c f:Str)(m:ME):ME:=λenv st=>(m env st).bind λd st1=>match d with
 | .loc n=>(match st1[n]? with
  | some (.ins c' fs)=>if c'=c then (match fs.lookup f with | some x=>.ok x st1 | none=>.bad) else .bad
  | _=>.bad)
 | _=>.bad
noncomputable def vH(c f:Str)(mo mv:ME):MS:=λenv st=>(mv env st).bind λd st1=>(mo env st1).bind λx st2=>match x with
 | .loc n=>(match st2[n]? with
  | some (.ins c' fs)=>if c'=c/\fs.length<1000 then .ok (.nx env) (st2.set n (.ins c (za f d fs))) else .bad
  | _=>.bad)
 | _=>.bad
noncomputable def qz(c:Str)(F:FD)(mA:MA):ME:=λenv st=>(mA env st).bind λas st1=>((F (.loc st1.length::as) (st1++[.ins c []])).sure).bind λd st2=>match d with
 | .non=>.ok (.loc st1.length) st2
 | _=>.bad
noncomputable def jM(c m:Str)(F:FD)(mo:ME)(mA:MA):ME:=λenv st=>(mo env st).bind λx st1=>match x with
 | .loc n=>(match st1[n]? with
  | some (.ins c' fs)=>if c'=c/\fs.lookup m=none then (mA env st1).bind λas st2=>(match st2[n]? with
   | some (.ins _ _)=>(F (.loc n::as) st2).sure
   | _=>.bad) else .bad
  | _=>.bad)
 | _=>.bad
noncomputable def cO:List D->au->R D
 | [.loc n],st=>(match st[n]? with
  | some (.dic kvs)=>.ok (.int kvs.length) st
  | some (.dkc kvs)=>.ok (.int kvs.length) st
  | _=>uH [.loc n] st)
 | ds,st=>uH ds st
noncomputable def Kz:D->D->au->R D
 | .loc n,.tup ks,st=>match st[n]?,keysOf ks with
  | some (.dic kvs),some kk=>(match iJ kvs kk with | some d=>.ok d st | none=>.bad)
  | _,_=>.bad
 | _,_,_=>.bad
section
variable  {X:Cx}{K:PySem.W.Frag}{μ:List Addr}{H:Hp}{e o a b value:Expr}{es:List Expr}{me mo mv ma mb:ME}{mA:MA}{pos pos' apos p:Pos}{c f m x:Str}{C g:Addr}{F:FD}{fd:FuncData}{ps:List Str}{k:Nat}
theorem aN.look:∀{fs:List (Str×D)} {ws:List (Str×V)},aN K μ H fs ws->(fs.lookup f=none/\ws.lookup f=none)\/∃d v,fs.lookup f=some d/\ws.lookup f=some v/\ak K μ H d v
 | [],ws,h=>by rw[aN]at h;subst h;exact .inl ⟨rfl,rfl⟩
 | (j,d)::r,ws,h=>by
  obtain⟨v,r',rfl,h1,h2⟩:=h;by_cases q:f=j
  ·subst q;exact .inr ⟨d,v,by simp[List.lookup],by simp[List.lookup],h1⟩
  ·have q':(f==j)=false:=by simpa using q
   simp only[List.lookup,q'];exact aN.look h2
theorem aN.jK(hv:ak K μ H d v):∀{fs:List (Str×D)} {ws:List (Str×V)},aN K μ H fs ws->aN K μ H (za f d fs) (L2.jK f v ws)
 | [],ws,h=>by rw[aN]at h;subst h;exact⟨v,[],rfl,hv,rfl⟩
 | (j,d')::r,ws,h=>by
  obtain⟨v',r',rfl,h1,h2⟩:=h;unfold za L2.jK;by_cases q:j=f
  ·rw[ae9 q,ae9 q];exact⟨v,r',rfl,hv,h2⟩
  ·rw[ae_ q,ae_ q];exact⟨v',_,rfl,h1,aN.jK hv h2⟩
def Zv(h0:PySem.W.nsIn X.K mainGlobals c=some (some (.ref C)))(hc:Hb X.K C)(hn:oX X.K C f)(he:JE X e me)(hb:attributeBase e f X.env (eval e X.env)=eval e X.env:=by rfl):JE X (.Attribute e f pos) (j6 c f me):=by
 refine JE.of (Vw he hb) fun σ H Q zz=>?_;obtain⟨μ,env,st,hE,hs,hp⟩:=zz;refine⟨μ,env,st,hE,hs,(cM.bind hp).imp ?_⟩;rintro v H1 ⟨μ1,st1,d,g1,bV,hx,bf⟩;dsimp only at bf
 split at bf
 ·rename_i n
  split at bf
  ·rename_i c' fs e1
   split at bf
   ·rename_i ec;subst ec;obtain⟨p,q1,rfl⟩:=ak.aL.mp hx;obtain⟨p',r1,C',dx,ws,r2,r3,r4⟩:=bV.at_ n _ e1;rw[q1]at r1;cases r1;rw[h0]at r2;cases r2;rcases r4.look (f:=f) with⟨z1,z2⟩ | ⟨d',v',z1,z2,z3⟩
    ·rw[z1]at bf;exact bf.elim
    ·rw[z1]at bf;exact⟨p,C,dx,ws,v',rfl,r3,hc,hn,z2,bf.ret bV z3⟩
   ·exact bf.elim
  ·exact bf.elim
 ·exact bf.elim
def Ko(h0:PySem.W.nsIn X.K mainGlobals c=some (some (.ref C)))(hc:Hb X.K C)(hn:oX X.K C f)(ho:JE X o mo)(hv:JE X value mv)(hs:swapsWith value (some (.Attribute o f pos')) pos.line X.env=pure false:=by rfl) :
  JS X (.Assign [.Attribute o f pos'] value pos) (vH c f mo mv):=by
 refine JS.of (Vi ho hv hs) λE σ H zz=>?_;obtain⟨μ,env,st,hE,hs,hp⟩:=zz;refine⟨μ,env,st,hE,hs,hp.val.imp ?_⟩;rintro y H1 ⟨μ1,st1,d,g1,bV,hy,bf⟩;refine⟨μ1,env,st1,hE.mono g1,bV,bf.val.imp ?_⟩;rintro z H2 ⟨μ2,st2,d2,g2,fY,hz,dY⟩
 try dsimp only at dY
 split at dY
 ·rename_i n
  split at dY
  ·rename_i c' fs e1
   split at dY
   ·rename_i ec;obtain⟨ec,hl⟩:=ec;subst ec;obtain⟨p,q1,rfl⟩:=ak.aL.mp hz;obtain⟨p',r1,C',dx,ws,r2,r3,r4⟩:=fY.at_ n _ e1;rw[q1]at r1;cases r1;rw[h0]at r2;cases r2;have De:ws.length<1000:=by rw[<-r4.len];exact hl
    have gg:Ext H2 (upd H2 p (.ins C dx (L2.jK f y ws))):=Ext.mut r3 (λ_ z=>nomatch z) (λ_ _ z=>nomatch z);have g':bD μ2 H2 μ2 (upd H2 p (.ins C dx (L2.jK f y ws))):=⟨⟨[],by simp⟩,gg⟩;refine⟨p,C,dx,ws,rfl,r3,hc,hn,De,dY σ _ μ2 g' (fY.put e1 rfl rfl q1 gg ⟨C,dx,_,h0,rQ,(r4.jK (hy.mono g2 _)).mono g'⟩) (((hE.mono g1).mono g2).mono g')⟩
   ·exact dY.elim
  ·exact dY.elim
 ·exact dY.elim
def CG(h0:PySem.W.nsIn X.K mainGlobals c=some (some (.ref C)))(MK:Mk X.K C g)(G:bu X.prog X.w X.K X.mg X.base jH k g fd ps (j8 X.K ps.length F))(hr:dX (k+1) X.A)(hm:X.mg c=some (.ref C))(hb:Binds X.K fd ps [])(ha:JA X (e::es) mA)
  (hlen:(e::es).length+1=ps.length:=by rfl) (hg:Gl X c:=by rfl) (xj:(c==("__debug__":Str))=false:=by decide) (he:starEach (e::es) X.env=(false,eval e X.env)::starEach es X.env:=by rfl) (qH:(backTo pos (starEach es X.env)).any (·.1)=false:=by rfl)
  (hA:∀env st as st1,mA env st=.ok as st1->as.length=(e::es).length:=by intros;rfl):JE X (.Call (.Name c p) (e::es) [] pos) (qz c F mA):=by
 refine JE.of (Ph MK G hr hg hm hb .nil Ju ha xj he qH) fun σ H Q zz=>?_;obtain⟨μ,env,st,hE,hs,hp⟩:=zz;refine⟨μ,env,st,hE,hs,?_⟩;cases hq:mA env st with
 | bad=>unfold qz at hp;rw[hq]at hp;exact hp
 | err y st1=>unfold qz at hp;rw[hq]at hp;exact hp
 | ok as st1 =>
  unfold qz at hp;rw[hq]at hp;intro vs H1 μ1 g1 bV hv x dx hx hdx tQ;have abr:upd H1 dx (.own x) x=none:=by rw[iD (afv tQ)];exact hx
  have ext1:Ext H1 (upd H1 dx (.own x)):=Ext.new hdx;have gd:bD μ1 H1 μ1 (upd H1 dx (.own x)):=⟨⟨[],by simp⟩,ext1⟩;have fY:aV X.K μ1 (upd H1 dx (.own x)) st1:=bV.lay hdx;have Wz:jW X.K (μ1++[x]) (upd (upd H1 dx (.own x)) x (.ins C dx [])) x (.ins c []):=⟨C,dx,[],h0,rQ,rfl⟩;have vX:=fY.new abr Wz;have gn:bD μ1 (upd H1 dx (.own x)) (μ1++[x]) (upd (upd H1 dx (.own x)) x (.ins C dx [])):=bD.new abr;have Wu:ao X.K (μ1++[x]) (upd (upd H1 dx (.own x)) x (.ins C dx [])) (.loc st1.length::as) (.ref x::vs):=ao.cons (ak.aL.mpr ⟨x,by rw[<-bV.len];simp,rfl⟩) ((hv.mono gd _).mono gn _);have uZ:(V.ref x::(vs++[])).length=ps.length:=by
   have:=hA env st as st1 hq;have:=hv.length;simp only[kh,gC]at *;omega
  rw[kh]at uZ ⊢;refine⟨uZ,μ1++[x],.loc st1.length::as,st1++[.ins c []],Wu,vX,?_⟩;cases hF:F (.loc st1.length::as) (st1++[.ins c []]) with
  | bad=>rw[R.aD,hF]at hp;exact hp.elim
  | err y st2=>rw[R.aD,hF]at hp;exact hp.elim
  | ok d st2 =>
   rw[R.aD,hF]at hp;intro v H' μ' g' su hvd;have adK:bD μ H μ' H':=(g1.trans gd).trans (gn.trans g');cases d with
   | non =>
    refine⟨ak.bT.mp hvd,hp (.ref x) H' μ' adK su (ak.aL.mpr ⟨x,g'.get (by rw[<-bV.len];simp),rfl⟩)⟩
   | _=>exact hp.elim
def ZM{pl:Sem Bool}(h0:PySem.W.nsIn X.K mainGlobals c=some (some (.ref C)))(hc:Hb X.K C)(hm:Meth X.K C m g)(G:bu X.prog X.w X.K X.mg X.base jH k g fd ps (j8 X.K ps.length F))(hr:dX k X.A)(hb:Binds X.K fd ps [])(ho:JE X o mo)(ha:JA X (e::es) mA)
  (hlen:(e::es).length+1=ps.length:=by rfl) (Hm:starEach (e::es) X.env=(false,eval e X.env)::starEach es X.env:=by rfl) (qH:(backTo pos (starEach es X.env)).any (·.1)=false:=by rfl)
  (ht:eval (.Call (.Attribute o m apos) (e::es) [] pos) X.env=(do
   let ov <-eval o X.env
   standAt apos.atName
   let (f,first) <-holding [ov] (getMethod ov m pl)
   callWith pos f first (backTo pos (starEach (e::es) X.env)) (backToKw pos (keywordEach [] X.env))):=by rfl)
  (hA:∀env st as st1,mA env st=.ok as st1->as.length=(e::es).length:=by intros;rfl):JE X (.Call (.Attribute o m apos) (e::es) [] pos) (jM c m F mo mA):=by
 refine JE.of (Pg ho hc hm G hr hb .nil Ju ha Hm qH ht) fun σ H Q zz=>?_;obtain⟨μ,env,st,hE,hs,hp⟩:=zz;refine⟨μ,env,st,hE,hs,(cM.bind hp).imp ?_⟩;rintro v H1 ⟨μ1,st1,d,g1,bV,hx,bf⟩;dsimp only at bf
 split at bf
 ·rename_i n
  split at bf
  ·rename_i c' fs e1
   split at bf
   ·rename_i ec;obtain⟨ec,hl⟩:=ec;subst ec;obtain⟨p,q1,rfl⟩:=ak.aL.mp hx;obtain⟨p',r1,C',dx,ws,r2,r3,r4⟩:=bV.at_ n _ e1;rw[q1]at r1;cases r1;rw[h0]at r2;cases r2;have uZ:ws.lookup m=none:=by
     rcases r4.look (f:=m) with⟨_,z2⟩ | ⟨d',v',z1,_,_⟩
     ·exact z2
     ·rw[hl]at z1;cases z1
    refine⟨p,dx,ws,rfl,r3,uZ,μ1,env,st1,hE.mono g1,bV,?_⟩;cases hq:mA env st1 with
    | bad=>rw[hq]at bf;exact bf
    | err y st2=>rw[hq]at bf;exact bf
    | ok as st2 =>
     rw[hq,R.aD]at bf;intro vs H2 μ2 g2 fY hv
     split at bf
     ·rename_i c2 fs2 e2;have Wu:ao X.K μ2 H2 (.loc n::as) (.ref p::vs):=ao.cons (ak.aL.mpr ⟨p,g2.get q1,rfl⟩) hv;have De:(V.ref p::(vs++[])).length=ps.length:=by
       have:=hA env st1 as st2 hq;have:=hv.length;simp only[kh,gC]at *;omega
      rw[kh]at De ⊢;refine⟨De,μ2,.loc n::as,st2,Wu,fY,?_⟩;cases hF:F (.loc n::as) st2 with
      | bad=>rw[hF]at bf;exact bf.elim
      | err y qO=>rw[hF]at bf;exact bf.elim
      | ok d qO =>
       rw[hF]at bf;intro v H' μ' g' su hvd;exact bf v H' μ' (g2.trans g') su hvd
     ·exact bf.elim
   ·exact bf.elim
  ·exact bf.elim
 ·exact bf.elim
def zY:cD X (.builtin "len") (E_ X cO):=by
 rintro pins s σ H xs us Q I rv ⟨μ,st,ds,hs,hv,hp⟩;unfold cO at hp
 split at hp
 ·rename_i n
  split at hp
  ·rename_i kvs e1;obtain⟨v,rfl,q⟩:=ao.one hv;obtain⟨p,q1,rfl⟩:=ak.aL.mp q;obtain⟨u,rfl,ru⟩:=rv.one;cases ru;obtain⟨p',ws,r1,r2,r3⟩:=hs.dic e1;rw[q1]at r1;cases r1;obtain⟨z,y,xs,r,o,es,ep,h1,h2,h3,h4,h5⟩:=(show cH X.prog X.w H s.heap p (.dT ws) from I.cz p _ r2);have hl:es.size=kvs.length:=by
    rw[r3.len,afo r,<-mO,h4,gq]
   refine PL y h1 h2 h3 (by rw[hl,r3.len];rw[sizeLine_eq]at z;omega) ?_;rw[hl];exact⟨.int kvs.length,H,I.tok _,⟨_,rfl⟩,hp.ret hs (ak.aP.mpr rfl)⟩
  ·rename_i kvs e1;obtain⟨v,rfl,q⟩:=ao.one hv;obtain⟨p,q1,rfl⟩:=ak.aL.mp q;obtain⟨u,rfl,ru⟩:=rv.one;cases ru;obtain⟨p',ws,r1,r2,r3⟩:=hs.dkc e1;rw[q1]at r1;cases r1;refine abI I (.inl r2) λt s' I'=>?_;rw[<-r3.len];exact⟨.int kvs.length,H,I',⟨_,rfl⟩,hp.ret hs (ak.aP.mpr rfl)⟩
  ·exact zms pins s σ H xs us Q I rv ⟨μ,st,_,hs,hv,hp⟩
 ·exact zms pins s σ H xs us Q I rv ⟨μ,st,_,hs,hv,hp⟩
def Ku(hu:X.A.units+1<cLine)(ha:JE X a ma)(hb:JE X b mb)(hs:Q9 b:=by exact λ_ _=>rfl):JE X (.Subscript a b pos) (aM Kz ma mb):=by
 refine JE.of (Cj hu ha hb hs) fun σ H Q h=>?_;obtain⟨μ,env,st,hE,hs,hp⟩:=X3 h;refine⟨μ,env,st,hE,hs,hp.imp ?_⟩;rintro x H1 ⟨μ1,cA,st1,hE1,bV,bf⟩;refine⟨μ1,cA,st1,hE1,bV,bf.imp ?_⟩;rintro y H2 ⟨μ2,st2,dx,dy,fY,hx,hy,dY⟩;unfold Kz at dY
 split at dY
 ·rename_i n ks
  split at dY
  ·rename_i kvs kk e1 e2;obtain⟨p,q1,rfl⟩:=ak.aL.mp hx;obtain⟨b,ys,rfl,q3,q4⟩:=ak.aX.mp hy;replace q3:=q3.made e2;obtain rfl:=ao.keys q4 e2;obtain⟨p',ws,r1,r2,r3⟩:=fY.dic e1;rw[q1]at r1;cases r1;rcases r3.val (k:=kk) with⟨z1,z2⟩ | ⟨d',v',z1,z2,z3⟩
   ·rw[z1]at dY;exact dY.elim
   ·rw[z1]at dY;exact⟨p,v',rfl,by rw[<-z2];exact sI.t r2 q3,dY.ret fY z3⟩
  ·exact dY.elim
 ·exact dY.elim
end
end M
namespace M
open PySem
noncomputable def Dl:Stmt->List Stmt
 | .ClassDef _ _ _ body _ _ _ _ _ _ _=>body
 | _=>[]
end M
namespace L2
open PySem PySem.Spec PyProof.Rows
def GK(hc:X.A.handled=none):cD X (.builtin "sum") (λxs H Q=>∃(p:Addr) (ns:List Int),xs=[.ref p]/\tU X.K H p (ns.map V.int)/\Q (.int ns.sum) H):=by
 rintro pins s σ H xs us Q I hr ⟨p,ns,rfl,hq,h⟩;cases hr with
 | cons r1 r2 =>
  cases r2;cases r1;obtain⟨its,rv,pl,hz⟩:=I.tuple hq;have hi:IntsAre its ns:=by
   have key:∀(ns:List Int) (its:List Value),Vals (ns.map V.int) its->IntsAre its ns:=by
    intro ns
    induction ns with
    | nil=>intro its h;cases h;exact .nil
    | cons n ns ih =>
     intro its h;cases h with
     | cons r1 r2 =>
      obtain⟨t,rfl⟩:=r1;exact .cons n t (ih _ r2)
   exact key ns its rv
  obtain⟨m,hm,_⟩:=id I.loc;have hl:s.heap.IsTuple p its.toArray:=pl;obtain⟨xs,hx⟩:=hi.allInts.items;have hn:numsOf its.toArray.toList=ns:=by rw[show its.toArray.toList=its from rfl,hi.numsOf]
  rw[hx]at hl hn;rw[nums_intItems]at hn;refine PySem.W.ktm_sumG hc hl λh' tk t' hk=>?_;rw[preSum_eq,nH (by simp),hn];refine⟨.int ns.sum,H,I.but (λb ob hb e=>hk b ob e) (λm' KR=>?_),⟨t',rfl⟩,h⟩;exact ((Hc.yG KR).keeps hk).ns
end L2
namespace M
open PySem PySem.Spec L2
noncomputable def Ie:List D->au->R D
 | [.tup ds],st=>match intsOf ds with | some ns=>.ok (.int ns.sum) st | none=>.bad
 | ds,st=>UT ds st
def GF(hc:X.A.handled=none):cD X (.builtin "sum") (E_ X Ie):=by
 rintro pins s σ H xs us Q I rv ⟨μ,st,ds,hs,hv,hp⟩;unfold Ie at hp
 split at hp
 ·rename_i l;cases e2:intsOf l with
  | none=>simp only[e2]at hp;exact hp.elim
  | some ns =>
   simp only[e2]at hp;obtain⟨v,rfl,q⟩:=ao.one hv;obtain⟨p,ys,rfl,r2,r3⟩:=ak.aX.mp q;rw[zjc e2 r3]at r2;exact GK hc _ _ _ _ _ _ _ I rv ⟨p,ns,rfl,r2.uW,hp.ret hs (ak.aP.mpr rfl)⟩
 ·exact GJ hc _ _ _ _ _ _ _ I rv ⟨μ,st,_,hs,hv,hp⟩
end M
namespace L2
open PySem PySem.Spec PyProof.Rows
section
variable  {P:Program}{w:World}{A:Around}{E:Value->Shared->Prop}{s:Shared}{d it:Addr}{od:Obj}{es:Array DictEntry}{i ep:Nat}
def G8(hd:(d==sysModules)=false)(ho:s.heap.get? d=some od)(hx:od.ExactDict)(vz:od.data=.dict es ep) 
  (hQ:Q (.ref s.heap.objs.size) { s with heap:=s.heap.push { cls:=.type "dict_keyiterator",data:=.fields #[.ref d,.int 0 0,.int es.size 0,.int ep 0] } }) :
  wpAny (model P w) A (pyIter (.ref d)) Q E s:=by
 have hT:s.TypeIs (.ref d) "dict":=⟨od,ho,hx.1⟩;refine wpAny_pyIter_slot hT PySem.F.slot_dict_iter (afx PySem.F.slot_dict_iter hT PySem.F.entry_dict_iter ?_ (PySem.F.args_dict_iter_1 _));unfold Builtin.«dict.__iter__» Builtin.Dict.dictSlotNone Builtin.Dict.showsAll;refine ae7 (ae7 (wpAny_notOrdered_dict hT (ae8 ?_)));have no:¬ ((d==sysModules)=true):=by rw[hd];exact mQ
 refine ae7 (ae8 (ae7 ?_));rw[ae_ no];refine ae8 (ae7 (afK ho vz (ae7 (wpAny_dictEpoch ho vz ?_))));refine ae7 (afq ?_);exact ae8 ⟨_,rfl,"dict_keyiterator",_,⟨_,h_ _ rfl,rfl⟩,PySem.F.slot_dict_keyiterator_next.lookup,by simpa[rawInt] using hQ⟩
def G7(hit:s.heap.IsKeyIter it d i es.size ep)(ho:s.heap.get? d=some od)(vz:od.data=.dict es ep)(hi:i<es.size) 
  (hQ:∀h',h'.IsKeyIter it d (i+1) es.size ep->Heap.SameBut it s.heap h'->Q (some es[i].key) { s with heap:=h' }):wpAny (model P w) A (pyNext (.ref it)) Q E s:=by
 obtain⟨oi,Y6,hci,zQ⟩:=id hit;unfold pyNext;refine ae7 (wpAny_attempt (afj (name:=Str.ofString "__next__") hit.typeIs afp
  (afx afp hit.typeIs PySem.F.entry_dict_keyiterator_next ?_ (PySem.F.args_dict_keyiterator_next_1 _))))
 refine ae7 (ae8 (ae7 (ae7 (ae7 (afw hit.typeIs (ae8 (ae7 (wpAny_fieldsOf Y6 zQ ?_))))))));have own:Builtin.Dict_items.ownsTuple "dict_keyiterator" = false:=by decide
 simp only[own,nu,afF];have nn:¬ ((Value.ref d==Value.none)=true):=mQ;refine (show wpAny _ _ (if (Value.ref d==Value.none)=true then _ else _) _ _ s from ?_);rw[ae_ nn];refine ae7 (ae8 (ae7 (afK ho vz ?_)));rw[ae_ (by simp)];refine ae7 (ae8 (ae7 (wpAny_dictEpoch ho vz ?_)));rw[ae_ (by simp)];have lo:¬ ((i:Int)<0):=by omega
 refine ae8 ?_;simp only[lo,afF,mF,pq hi];refine ae7 (ae7 (afw hit.typeIs (ae8 (ae7 (wpAny_isOneOf_keyiter hit.typeIs ?_)))));refine (show wpAny _ _ (setField (.ref it) 1 (rawInt ((i:Int)+1)) >>= _) _ _ s from ae7 (wpAny_setField Y6 zQ (by simp) ?_));generalize eh:s.heap.update it (Obj.mapFields (·.setIfInBounds 1 (rawInt ((i:Int)+1))))=h2;have st:h2.IsKeyIter it d (i+1) es.size ep:=by
  subst eh;exact⟨_,nq _ Y6 (Obj.isFreed_of_fields (Obj.data_mapFields zQ _)),(Obj.cls_mapFields ..).trans hci,by rw[Obj.data_mapFields zQ];simp[rawInt]⟩
 have sb:Heap.SameBut it s.heap h2:=by subst eh;exact Heap.SameBut.update ..
 refine ae7 (afi (ae7 (wpAny_isOneOf_keyiter (s:={ s with heap:=h2 }) st.typeIs ?_)));exact ae8 (ae8 ⟨_,rfl,ae8 (hQ h2 st sb)⟩)
def Ma(hh:A.handled=none)(hit:s.heap.IsKeyIter it d i es.size ep)(ho:s.heap.get? d=some od)(vz:od.data=.dict es ep)(hi:es.size<=i) 
  (hQ:∀h',Heap.ExtBut it s.heap h'->Q none { s with heap:=h' }):wpAny (model P w) A (pyNext (.ref it)) Q E s:=by
 obtain⟨oi,Y6,hci,zQ⟩:=id hit;unfold pyNext;refine ae7 (wpAny_attempt (afj (name:=Str.ofString "__next__") hit.typeIs afp
  (afx afp hit.typeIs PySem.F.entry_dict_keyiterator_next ?_ (PySem.F.args_dict_keyiterator_next_1 _))))
 refine ae7 (ae8 (ae7 (ae7 (ae7 (afw hit.typeIs (ae8 (ae7 (wpAny_fieldsOf Y6 zQ ?_))))))));have own:Builtin.Dict_items.ownsTuple "dict_keyiterator" = false:=by decide
 simp only[own,nu,afF];have nn:¬ ((Value.ref d==Value.none)=true):=mQ;refine (show wpAny _ _ (if (Value.ref d==Value.none)=true then _ else _) _ _ s from ?_);rw[ae_ nn];refine ae7 (ae8 (ae7 (afK ho vz ?_)));rw[ae_ (by simp)];refine ae7 (ae8 (ae7 (wpAny_dictEpoch ho vz ?_)));rw[ae_ (by simp)];have lo:¬ ((i:Int)<0):=by omega
 refine ae8 ?_;simp only[lo,afF,mF,Array.getElem?_eq_none hi];refine ae7 (ae7 (afw hit.typeIs (ae8 ?_)));refine (show wpAny _ _ (setField (.ref it) 0 .none >>= _) _ _ s from ae7 (wpAny_setField Y6 zQ (by simp) ?_));refine (show wpAny _ _ (newExc (.type "StopIteration") [] >>= _) _ _ _ from ae7 ?_);simp only[newExc,newTuple];refine ae7 (afq (ae7 (m:=firstArgMember _ _) (wpAny_of_eq (a:=Value.none) (by simp only[firstArgMember];rfl) (afq ?_ (by size_fits)))) (by size_fits));simp only[raiseNew];have h2:A.in1.handled=none:=hh;refine ae7 (wpAny_handled ?_);rw[h2];refine ae7 (ae8 (wpAny_throw (ae7 ?_)));refine wpAny_isInstance (T:="StopIteration") (b:=true) ⟨_,h_ _ rfl,rfl⟩ isSubtype_stop ?_;exact ae8 (hQ _ (((Heap.SameBut.update ..).extBut.push _).push _))
end
noncomputable def Idt(d:Addr)(o:Obj)(kvs:List (List Key×V)):It :=
 ⟨λi H=>i<kvs.length/\H d=some (.frz o (.dT kvs)),λi H y H'=>H'=H/\∃p b,kvs[i]? = some p/\y=.ref b/\H b=some (.tup (p.1.map kV)),λi H=>kvs.length<=i/\H d=some (.frz o (.dT kvs))⟩
def zpi(I:Inv X pins σ H s)(ho:o.data=.dict es ep)(e:H d=some (.frz o (.dT kvs))) :
  s.heap.get? d=some o/\es.size=kvs.length/\∀(i:Nat) (p:List Key×V) (hi:i<es.size),kvs[i]? = some p->∃b,es[i].key=.ref b/\H b=some (.tup (p.1.map kV)):=by
 obtain⟨h1,z,hd,xs,rel,o',es',ep',h2,h3,h4,h5,h6⟩:=(show cH X.prog X.w H s.heap d (.frz o (.dT kvs)) from I.cz d _ e);rw[h1]at h2;cases h2;rw[ho]at h4;cases h4;have hl:kvs.length=xs.length:=afo rel;have hs:es.size=xs.length:=by rw[<-mO,h5,gq]
 refine⟨h1,by omega,λi p hi hp=>?_⟩;obtain⟨q,hq⟩:∃q,xs[i]? = some q:=⟨_,kj (by omega)⟩;obtain⟨k1,k2,_⟩:=zi2 rel i p q hp hq;refine⟨q.2.1,?_,k2⟩;have e1:es.toList[i]? = some (entryOfKey (tupleKind (bU X.prog X.w)) q):=by rw[h5,gH,hq];rfl
 have e2:es.toList[i]? = some es[i]:=by rw[Array.getElem?_toList];exact pq hi
 rw[e2]at e1;rw[afa e1]
 rfl
def Ny{P:Program}{w:World}{K:PySem.W.Frag}{tg:Expr}(it d:Addr)(o:Obj)(es:Array DictEntry)(ep:Nat)(ho:o.data=.dict es ep)(kvs:List (List Key×V)):Turn P w K tg (Idt d o kvs) [it] it (λi h=>h.IsKeyIter it d i es.size ep) where
 mem:=by simp
 obj:=λi h st b hb=>by
  have e:b=it:=by simpa using hb
  subst e;obtain⟨o,e,c,d⟩:=st;exact⟨o,e,λv z=>by rw[d]at z;cases z⟩
 keep:=λi h h' st k=>by
  obtain⟨o,e,c,d⟩:=st;exact⟨o,k it (by simp) o e,c,d⟩
 item:=by
  intro X hP hw hK hc i pins s σ H E I hf st hg;subst hP hw hK;obtain⟨f0,f1,f2,f3,f4,f5⟩:=hf it (by simp);obtain⟨hi,e⟩:=hg;obtain⟨h1,hs,hk⟩:=zpi I ho e;have hi2:i<es.size:=by omega
  obtain⟨p,hp⟩:∃p,kvs[i]? = some p:=⟨_,kj hi⟩;obtain⟨b,e1,e2⟩:=hk i p hi2 hp;refine G7 st h1 ho hi2 λh' st' sb=>?_;have I1:Inv X pins σ H { s with heap:=h' }:=I.turned (t':=s.toks) (λb o hb e=>(sb.2 b hb).trans e) f0 f1 f3 f4 f5;obtain⟨o1,e3,c1,d1⟩:=id st';exact⟨_,rfl,xR (s:={ s with heap:=h' }) e3 c1 d1 (by decide) ⟨.ref b,H,I1,by rw[e1];rfl,⟨rfl,p,b,hp,rfl,e2⟩,st',λb hb=>(hf b hb).1⟩⟩
 done:=by
  intro X hP hw hK hc i pins s σ H E I hf st hg;subst hP hw hK;obtain⟨f0,f1,f2,f3,f4,f5⟩:=hf it (by simp);obtain⟨hi,e⟩:=hg;obtain⟨h1,hs,hk⟩:=zpi I ho e;exact Ma (I.ok.hd hc) st h1 ho (by omega) λh' eb=>⟨rfl,I.turned (t':=s.toks) (λb o hb e=>eb b o hb e) f0 f1 f3 f4 f5⟩
 self:=λ_ _ _ _ _ st h=>wpAny_pyIter_keyiter st h
noncomputable def iDt(tl:TE):TI:=fun σ H R=>tl σ H λy H1=>∃a kvs,y=.ref a/\((∃o,H1 a=some (.frz o (.dT kvs))/\R (Idt a o kvs) H1)\/(H1 a=some (.dT kvs)/\∀o,R (Idt a o kvs) (upd H1 a (.frz o (.dT kvs)))))
def aaO{X:Cx}{tg l:Expr}{tl:TE}(hl:PE X l tl):PI X tg l (iDt tl):=by
 intro pins s σ H R I h;refine dO (hl pins s σ H _ I h) λv s1 zz=>?_;obtain⟨y,H1,I1,r1,q1⟩:=zz;obtain⟨a,kvs,rfl,q⟩:=q1;cases (show v=Value.ref a from r1);have key:∀(H2:Hp) (o:Obj),Inv X pins σ H2 s1->H2 a=some (.frz o (.dT kvs))->R (Idt a o kvs) H2->wpAny (model X.prog X.w) X.A (pyIter (.ref a)) (PIE X pins σ tg R) X.xe s1:=λH2 o I2 e2 r2=>by
  obtain⟨h1,z,hd,xs,rel,o',es,ep,h2,h3,h4,h5⟩:=(show cH X.prog X.w H2 s1.heap a (.frz o (.dT kvs)) from I2.cz a _ e2);rw[h1]at h2;cases h2;refine G8 hd h1 h3 h4 ?_;refine⟨s1.heap.objs.size,[s1.heap.objs.size],_,_,H2,rfl,I2.kept (t':=s1.toks) λb u e=>gJ _ e,Ny _ a o es ep h4 kvs,⟨_,h_ _ rfl,rfl,rfl⟩,λb hb=>?_,r2⟩;have e:b=s1.heap.objs.size:=by simpa using hb
  subst e;exact I2.yH (gf _) (I2.cz.fresh (gf _))
 rcases q with⟨o,e,r⟩ | ⟨e,r⟩
 ·exact key H1 o I1 e r
 ·obtain⟨z,hd,xs,rel,o,es,ep,h2,h3⟩:=(show cH X.prog X.w H1 s1.heap a (.dT kvs) from I1.cz a _ e);have ne:∀q∈xs,q.2.1≠a:=λq hq z=>by
   obtain⟨i,hi⟩:=nM hq;obtain⟨p,hp⟩:∃p,kvs[i]? = some p:=⟨_,kj (by rw[afo rel];exact (gk.mp hi).1)⟩;have k:=(zi2 rel i p q hp hi).2.1;rw[z,e]at k;cases k
  have new:cH X.prog X.w (upd H1 a (.frz o (.dT kvs))) s1.heap a (.frz o (.dT kvs)):=by
   refine⟨h2,z,hd,xs,?_,o,es,ep,h2,h3⟩;have go:∀(l1:List (List Key×V)) (l2:List (List Key×Addr×Value)),(∀q∈l2,q.2.1≠a)->Paired (λ(p:List Key×V) (q:List Key×Addr×Value)=>p.1=q.1/\H1 q.2.1=some (.tup (p.1.map kV))/\RelV p.2 q.2.2) l1 l2->Paired (λ(p:List Key×V) (q:List Key×Addr×Value)=>p.1=q.1/\upd H1 a (.frz o (.dT kvs)) q.2.1=some (.tup (p.1.map kV))/\RelV p.2 q.2.2) l1 l2:=by
    intro l1 l2 hn hp
    induction hp with
    | nil=>exact .nil
    | cons r t ih=>exact .cons ⟨r.1,by rw[iD (hn _ (nO))];exact r.2.1,r.2.2⟩ (ih λq hq=>hn q (kW _ hq))
   exact go kvs xs ne rel
  exact key (upd H1 a (.frz o (.dT kvs))) o (I1.write (x:=a) (e:=a) (t':=s1.toks) (h':=s1.heap) (by rw[e];trivial) (.inl rfl) (λb u _ z=>z) ⟨o,h2⟩ new) rQ (r o)
end L2
namespace M
open PySem PySem.Spec L2
noncomputable def Gx(m:ME):MI:=λenv st=>(m env st).bind λd st1=>match d with
 | .loc n=>(match st1[n]? with
  | some (.dic kvs)=>.ok (kvs.map (λp=>.tup (p.1.map o8)),[]) (st1.set n (.dtf kvs))
  | some (.dtf kvs)=>.ok (kvs.map (λp=>.tup (p.1.map o8)),[]) st1
  | _=>.bad)
 | _=>.bad
section
variable  {X:Cx}{tg l a b:Expr}{ml ma mb:ME}{μ:List Addr}{H:Hp}{K:PySem.W.Frag}{st:au}{pos:Pos}
theorem ao.RT:∀(ks:List Key),ao K μ H (ks.map M.o8) (ks.map kV)
 | []=>ao.nil
 | k::r=>ao.cons (ak.o8 k) (ao.RT r)
theorem aN.Kl:∀{kvs:List (κ×D)} {ws:List (κ×V)},aN K μ H kvs ws->kvs.length=ws.length/\∀(i:Nat) (p:κ×D) (q:κ×V),kvs[i]? = some p->ws[i]? = some q->p.1=q.1
 | [],_,h=>by cases h;exact⟨rfl,λi p q h1=>by simp at h1⟩
 | (k,d)::r,_,⟨v,s,rfl,h1,h2⟩=>by
  obtain⟨l,hk⟩:=aN.Kl h2;refine⟨by simp[l],λi p q e1 e2=>?_⟩;cases i with
  | zero=>simp at e1 e2;subst e1;subst e2;rfl
  | succ i=>exact hk i p q (by simpa using e1) (by simpa using e2)
def CZ{a:Addr}{o:Obj}{kvs:List (List Key×D)}{ws:List (List Key×V)}(e:H a=some (.frz o (.dT ws)))(h:aN X.K μ H kvs ws):vd X μ H (Idt a o ws) (kvs.map (λp=>.tup (p.1.map M.o8)),[]):=by
 intro H' μ' st' g hs ok;obtain⟨hl,hk⟩:=h.Kl;have e':=g.ext.frz _ _ _ e;refine⟨λi d ed=>?_,⟨by simp[hl],e'⟩⟩;rw[gH]at ed;obtain⟨p,e1,rfl⟩:=gO.mp ed;have hi:=(gk.mp e1).1;refine⟨⟨by omega,e'⟩,?_⟩;rintro x Ml ⟨rfl,q,b,hq,rfl,hb⟩;refine⟨.refl _ _,hs,?_⟩;rw[hk i p q e1 hq];exact ak.aX.mpr ⟨b,_,rfl,.inl hb,ao.RT _⟩
def Cz(hl:JE X l ml):JI X tg l (Gx ml):=by
 refine JI.of (aaO hl) fun σ H R zz=>?_;obtain⟨μ,env,st,hE,hs,hp⟩:=zz;refine⟨μ,env,st,hE,hs,(cM.bind hp).imp ?_⟩;rintro v H1 ⟨μ1,st1,d,g1,bV,hv,bf⟩;dsimp only at bf
 split at bf
 ·rename_i n;obtain⟨a,q1,rfl⟩:=ak.aL.mp hv
  split at bf
  ·rename_i kvs e1;obtain⟨a',r1,ws,r2,r3⟩:=bV.at_ n _ e1;rw[q1]at r1;cases r1;refine⟨a,ws,rfl,.inr ⟨r2,λo=>?_⟩⟩;have g:Ext H1 (upd H1 a (.frz o (.dT ws))):=Ext.mut r2 (λ_ z=>nomatch z) (λ_ _ z=>nomatch z);have g':bD μ1 H1 μ1 (upd H1 a (.frz o (.dT ws))):=⟨⟨[],by simp⟩,g⟩;exact bf _ _ μ1 g' (bV.jK e1 rfl q1 g ⟨ws,o,rQ,r3.mono g'⟩) (CZ rQ (r3.mono g'))
  ·rename_i kvs e1;obtain⟨a',r1,ws,o,r2,r3⟩:=bV.at_ n _ e1;rw[q1]at r1;cases r1;exact⟨a,ws,rfl,.inl ⟨o,r2,bf _ _ _ (.refl _ _) bV (CZ r2 r3)⟩⟩
  ·exact bf.elim
 ·exact bf.elim
end
def BX(h:m env st=.ok (.loc n) st1)(e:st1[n]? = some (.dic kvs)):Gx m env st=.ok (kvs.map (λp=>.tup (p.1.map o8)),[]) (st1.set n (.dtf kvs)):=by
 unfold Gx;rw[h];simp only[R.bind,e]
def BW(h:m env st=.ok (.loc n) st1)(e:st1[n]? = some (.dtf kvs)):Gx m env st=.ok (kvs.map (λp=>.tup (p.1.map o8)),[]) st1:=by
 unfold Gx;rw[h];simp only[R.bind,e]
end M
namespace L2
open PySem PySem.Spec PyProof.Rows
section
variable  {X:Cx}{pins:List (Addr×Obj)}{σ:St}{H:Hp}{s:Shared}{h':Heap}{lo:Nat}{e C dx:Addr}{E:Value->Shared->Prop}
structure Own(X:Cx):Prop where
 Yu:X.stack=X.env::X.outer
 frm:X.env.frame=some X.env.locals
 pn:X.pn=[]
end
section
variable  {X:Cx}{W:Addr->Addr->Hp->Prop}{P:Program}{w:World}
end
section
variable  {prog:Program}{w:World}{A:Around}{E:Value->Shared->Prop}{h:Heap}{g:Array GenState}{d:Drawn}{t:Nat}{os:OsState}
variable  {nm q nm1 q1:Str}{C N C1 N1:Addr}{bs bm bs1 bm1:List Value}{adD aeu:Bool}{sn sn1:List Str}{sub aey:List Value}{ab ab1:Bool}{col aeQ:Option Bool}{dd dd1:Option Addr}{k0 k1 k2 k3 k5 j0 j1 j2 j3 j5:Option Value}{ac2:String}{mN mN1:Str->Option Value}
end
end L2
set_option maxHeartbeats 0
namespace L2
open PySem PySem.Spec PyProof.Rows
section
variable  {prog:Program}{w:World}{A:Around}{E:Value->Shared->Prop}{h:Heap}{g:Array GenState}{d:Drawn}{t:Nat}{os:OsState}
variable  {nm q:Str}{C N C1 N1:Addr}{bs bm:List Value}{adD:Bool}{sn:List Str}{sub:List Value}{ab:Bool}{col:Option Bool}{dd:Option Addr}{k0 k1 k2 k3 k5:Option Value}{newId:String}{mN mN1:Str->Option Value}
structure Two(h:Heap)(C C1 fI:Addr):Prop where
 c:∃nm q N bs sn sub ab col dd k0 k1 k2 k3 k5 mN,h.get? C=some (excClassObj nm q C N bs [.ref C1,.type "ValueError",.type "Exception",.type "BaseException",.type "object"] true sn sub ab col dd k0 k1 k2 k3 k5 "ValueError.__new__")/\h.Ns N mN/\∀x:Str,x∈([("__init__":Str),"at","__setattr__","__getattribute__","__getattr__","__class__"]:List Str)->mN x=none
 c1:∃nm q N bs bm hd sn sub ab col dd k0 k1 k2 k3 k5 nid mN,h.get? C1=some (excClassObj nm q C1 N bs bm hd sn sub ab col dd k0 k1 k2 k3 k5 nid)/\h.Ns N mN/\mN "__init__" = some (.ref fI)/\∀x:Str,x∈([("at":Str),"__setattr__","__getattribute__","__getattr__","__class__"]:List Str)->mN x=none
 f:∃oI,h.get? fI=some oI/\oI.cls=.type "function"
end
end L2
set_option maxHeartbeats 0
namespace L2
open PySem PySem.Spec PyProof.Rows
section
variable  {prog:Program}{w:World}{A:Around}{E:Value->Shared->Prop}{h:Heap}{g:Array GenState}{d:Drawn}{t:Nat}{os:OsState}{C C1 fI:Addr}
end
end L2
set_option maxHeartbeats 0
namespace L2
open PySem PySem.Spec PyProof.Rows
section
variable  {prog:Program}{w:World}{A:Around}{E:Value->Shared->Prop}{h:Heap}{g:Array GenState}{d:Drawn}{t:Nat}{os:OsState}{C C1 fI:Addr}
end
end L2
set_option maxHeartbeats 0
namespace L2
open PySem PySem.Spec PyProof.Rows
section
variable  {prog:Program}{w:World}{A:Around}{E:Value->Shared->Prop}{h:Heap}{g:Array GenState}{d:Drawn}{t:Nat}{os:OsState}{C C1 fI:Addr}
end
end L2
set_option maxHeartbeats 0
namespace L2
open PySem PySem.Spec PyProof.Rows
section
variable  {X:Cx}{e:Expr}{te:TE}{p pos p1 p2 p3:Pos}{x:Str}{j:Nat}{pins:List (Addr×Obj)}{σ:St}{H:Hp}{s:Shared}
end
end L2
set_option maxHeartbeats 0
namespace L2
open PySem PySem.Spec PyProof.Rows
section
variable  {X:Cx}{pins:List (Addr×Obj)}{σ:St}{H:Hp}{s:Shared}
end
end L2
set_option maxHeartbeats 0
namespace L2
open PySem PySem.Spec PyProof.Rows
section
variable  {X:Cx}{pins:List (Addr×Obj)}{σ:St}{H:Hp}{s:Shared}
end
end L2
namespace M
open PySem PySem.Spec L2
end M
set_option maxHeartbeats 0
namespace L2
open PySem PySem.Spec PyProof.Rows
section
variable  {X:Cx}{CX:Hr}{k:Nat}{f C:Addr}{fd:FuncData}{ps:List Str}{sp:Sp}{dvs:List V}{ds:List Value}{x m:Str}{p pos apos:Pos}{e o:Expr}{es:List Expr}{ta:TE}{t:TA}{pins:List (Addr×Obj)}{σ:St}{H:Hp}{s:Shared}{Q:VK}
end
end L2
namespace M
open PySem PySem.Spec L2
section
variable  {P:Program}{w:World}{K:PySem.W.Frag}{mg:Str->Option Value}{base:Heap}
end
section
variable  {X:Cx}{e:Expr}{es:List Expr}{mA:MA}{pos p:Pos}{x:Str}{k:Nat}{f:Addr}{fd:FuncData}{ps:List Str}{F:FD}{dvs:List V}{ds:List Value}{dd:List D}
end
end M
set_option maxHeartbeats 0
namespace L2
open PySem PySem.Spec PyProof.Rows
section
variable  {X:Cx}{pins:List (Addr×Obj)}{σ:St}{H:Hp}{s:Shared}
end
end L2
set_option maxHeartbeats 0
namespace L2
open PySem PySem.Spec PyProof.Rows
section
variable  {X:Cx}{c:Expr}{pos:Pos}
end
end L2
namespace M
open PySem PySem.Spec L2
section
variable  {K:PySem.W.Frag}{μ:List Addr}{H:Hp}{st:au}{dx e:Addr}{od oe:Obj}{fs:List (Str×V)}
end
section
variable  {X:Cx}{e:Expr}{es:List Expr}{mA:MA}{pos p p1 p2 p3 p4 p5 p6:Pos}{x c1 n y:Str}{k:Nat}{f C1:Addr}{fd:FuncData}{ps:List Str}{F:FD}{dvs:List V}{ds:List Value}{dd:List D}{bst:Stmt}{i:Option Nat}{ie iy:Nat}{ok:String->Bool}
end
end M
set_option maxHeartbeats 0
namespace L2
open PySem PySem.Spec PyProof.Rows PySem.W
noncomputable def nsOkIn(K:Frag)(N:Addr)(no:List Str)(init:Option Value):Bool:=match K.lookup N with
 | some ⟨_,_,.dict es _,_⟩=>es.toList.all (λe=>match e.key with | .str _ _=>true | _=>false) && no.all (λx=>(nsFind es x).isNone) && (match init with | none=>true | some v=>nsFind es "__init__" == some v)
 | _=>false
noncomputable def aac(K:Frag)(C:Addr)(bm0:Option (List Value))(no:List Str)(init:Option Value):Bool:=match K.lookup C with
 | some ⟨.type "type",_,.cls cd,sl⟩=>(match cd.mro,sl.toList with
  | .ref C'::bm,[_,_,_,_,some (.builtin n),_]=>C'==C && !cd.hasDel && (match bm0 with | none=>true | some b=>cd.hasDict && n == "ValueError.__new__" && bm==b) && nsOkIn K cd.ns no init
  | _,_=>false)
 | _=>false
noncomputable def fnIn(K:Frag)(f:Addr):Bool:=match K.lookup f with
 | some ⟨.type "function",_,_,_⟩=>true
 | _=>false
noncomputable def aae(K:Frag)(C C1 fI:Addr):Bool :=
 aac K C (some [.ref C1,.type "ValueError",.type "Exception",.type "BaseException",.type "object"]) [("__init__":Str),"at","__setattr__","__getattribute__","__getattr__","__class__"] none &&
 aac K C1 none [("at":Str),"__setattr__","__getattribute__","__getattr__","__class__"] (some (.ref fI)) && fnIn K fI
end L2
namespace M
open PySem PySem.Spec L2
noncomputable def abE(c:String):Bool:=c == "NoProgram" || c == "NoTree"
noncomputable def acv(c T:String):Bool:=c==T || T == "OneError" || T == "ValueError"
noncomputable def adb(T:String):D->au->R D:=λd st=>match d with
 | .loc n=>(match st[n]? with
  | some (.exc c _)=>if abE c then .ok (.bl (acv c T)) st else .bad
  | _=>.bad)
 | _=>.bad
noncomputable def aa2(K:PySem.W.Frag)(x:Str):Bool:=match PySem.W.nsIn K mainGlobals x with
 | some (some (.ref _))=>false
 | _=>true
structure aeS(K:PySem.W.Frag)(C1 fI CP CT:Addr):Prop where
 nP:PySem.W.nsIn K mainGlobals (("NoProgram":String):Str)=some (some (.ref CP))
 nT:aa2 K (("NoTree":String):Str)=true
 tP:aae K CP C1 fI=true
 b1:PySem.W.ktsIn K C1 "BaseException" = true
 kPV:PySem.W.kitOne K (.ref CP) (.type "ValueError")=some true
section
variable  {K:PySem.W.Frag}{C1 fI CP CT:Addr}
end
section
variable  {X:Cx}{e:Expr}{ma:ME}{p p2 pos:Pos}{C1 fI CP CT:Addr}
def rIx(X:Cx)(T:String)(cv:V):List V->Hp->VK->Prop:=λxs H Q=>∃μ st d x,xs=[x,cv]/\aV X.K μ H st/\ak X.K μ H d x/\cM X μ H (rT X) Q (adb T d st)
end
end M
namespace L2
open PySem PySem.Spec PyProof.Rows PySem.Calls
section
variable  {X:Cx}
end
end L2
namespace M
open PySem PySem.Spec L2
section
variable  {X:Cx}
end
end M
namespace M
end M
namespace L2
open PySem PySem.Spec PyProof.Rows
section
variable  {X:Cx}
end
end L2
namespace M
open PySem PySem.Spec L2
end M
namespace ST
end ST
namespace ST
open PySem PySem.SetTable
noncomputable def lp(mask:Nat):Nat->Nat×Nat->Nat×Nat
 | 0,x=>x
 | n+1,x=>lp mask n (leap mask x.1 x.2)
noncomputable def cnt(owner:Array (Option Nat)):Nat:=owner.toList.countP Option.isSome
structure Lay(mask n:Nat)(owner:Array (Option Nat)):Prop where
 size:owner.size=mask+1
 aeR:cnt owner=n
 lt:∀(i:Nat) (v:Nat),owner[i]? = some (some v)->v<n
section
variable  {prog:Program}{w:World}{K:Type}[DecidableEq K]{knd:KeyKind prog w K}{A:Around}{E:Value->Shared->Prop}{s:Shared}
end
section
variable  {prog:Program}{w:World}{K:Type}[DecidableEq K]{knd:KeyKind prog w K}{A:Around}{E:Value->Shared->Prop}
structure Lies(knd:KeyKind prog w K)(h:Heap)(S:Addr)(o:Obj)(es:Array (Int×Value))(ep:Nat)(t:SetTable)(kk:Nat)(k:List K):Prop where
 ho:h.get? S=some o
 hd:o.data=.set es ep t
 fits:t.fits es.size=true
 dm:t.dummies=#[]
 pw:t.mask+1=2 ^ (kk+3)
 el:∀e∈es.toList,∃ks b,IsTupleKey knd h ks b/\e.2=.ref b/\ks≠k
end
section
variable  {prog:Program}{w:World}{K:Type}[DecidableEq K]{knd:KeyKind prog w K}{A:Around}{E:Value->Shared->Prop}
end
section
variable  {prog:Program}{w:World}{K:Type}[DecidableEq K]{knd:KeyKind prog w K}
variable  {G:Around}{R:Result->Shared->Prop}{it:Addr}{fp wr:List Addr}{n:Nat}{P:Nat->Value->Prop}{Sx:Nat->Heap->Prop}
end
section
variable  {prog:Program}{w:World}{K:Type}[DecidableEq K]{knd:KeyKind prog w K}{G:Around}{E:Value->Shared->Prop}{z:Shared}
set_option maxHeartbeats 3200000 in
end
end ST
namespace L2
open PySem PySem.Spec PyProof.Rows
section
variable  {X:Cx}{x y:Str}{p pos p2 rZ:Pos}{e:Expr}{te:TE}
end
end L2
namespace M
open PySem PySem.Spec L2
section
variable  {X:Cx}{x y:Str}{p pos p2 rZ:Pos}{e:Expr}{m:ME}
end
end M
namespace ST
open PySem PySem.W PyProof.Rows
noncomputable def aav{α:Type}(lt:Nat->Nat->Bool):KasT α->α
 | .ret a=>a
 | .ask i j k=>aav lt (k (lt i j))
structure Pl(n:Nat)(p:Array Nat):Prop where
 pos:0<n
 size:p.size=n
 all:∀x∈p,x<n
variable  {lt:Nat->Nat->Bool}{n:Nat}
noncomputable def order(lt:Nat->Nat->Bool)(n:Nat):List Nat:=if n<2 then List.range n else (aav lt (kas_sort n)).toList
section
variable  {prog:Program}{w:World}{A:Around}{E:Value->Shared->Prop}{s:Shared}
end
section
variable  {prog:Program}{w:World}{A:Around}{E:Value->Shared->Prop}{s:Shared}
end
end ST
namespace L2
open PySem PySem.Spec PyProof.Rows
variable  {X:Cx}
end L2
namespace M
open PySem PySem.Spec L2
variable  {X:Cx}
end M
namespace M
open PySem PySem.Spec PySem.SeqAt L2
variable  {X:Cx}
end M
namespace SS
open PySem PySem.SetTable
section
variable  {prog:Program}{w:World}{A:Around}{E:Value->Shared->Prop}{s:Shared}
noncomputable abbrev tx:=PyProof.Rows.strOf
variable  {G:Around}{R:Result->Shared->Prop}{it:Addr}{fp wr:List Addr}{n:Nat}{P:Nat->Value->Prop}{Sx:Nat->Heap->Prop}
end
section
variable  {prog:Program}{w:World}{A G:Around}{E:Value->Shared->Prop}{s z:Shared}
set_option maxHeartbeats 3200000 in
end
section
variable  {prog:Program}{w:World}{A G:Around}{E:Value->Shared->Prop}{s z:Shared}
end
section
variable  {prog:Program}{w:World}{A G:Around}{E:Value->Shared->Prop}{s z:Shared}
end
section
variable  {prog:Program}{w:World}{A G:Around}{E:Value->Shared->Prop}{s z:Shared}
end
section
variable  {prog:Program}{w:World}{A G:Around}{E:Value->Shared->Prop}{s z:Shared}
end
section
variable  {prog:Program}{w:World}{A G:Around}{E:Value->Shared->Prop}{s z:Shared}
end
section
variable  {prog:Program}{w:World}{A G:Around}{E:Value->Shared->Prop}{s z:Shared}
open PyProof.Rows in
noncomputable def sg(c:Nat):Str:=⟨#[c]⟩
end
end SS
namespace L2
open PySem PySem.Spec PyProof.Rows
section
variable  {X:Cx}{x y v:Str}{p pos p2 rZ p3 acV:Pos}{e:Expr}{te:TE}
end
end L2
namespace M
open PySem PySem.Spec L2
section
variable  {X:Cx}{x y v:Str}{p pos p2 rZ p3 acV:Pos}{e:Expr}{m:ME}
end
end M
namespace M
noncomputable def Fv:List Int->Int
 | []=>0
 | [n]=>n
 | n::m::r=>max n (Fv (m::r))
theorem znw:∀(l:List Int),l≠[]->Fv l∈l
 | [],h=>absurd rfl h
 | [n],_=>by simp[Fv]
 | n::m::r,_=>by
  have:=znw (m::r) (by simp);rw[Fv];rcases Int.le_total n (Fv (m::r)) with h | h
  ·rw[Int.max_eq_right h];exact kW _ this
  ·rw[Int.max_eq_left h];simp
theorem Aa:∀(l:List Int) (a:Int),a∈l->a<=Fv l
 | [n],a,h=>by simp at h;subst h;exact Int.le_refl _
 | n::m::r,a,h=>by
  rw[Fv];rcases gj.mp h with rfl | h
  ·exact Int.le_max_left _ _
  ·exact Int.le_trans (Aa (m::r) a h) (Int.le_max_right _ _)
end M
namespace L2
open PySem PySem.Spec PyProof.Rows
def KC:∀(ns:List Int) (its:List Value),Vals (ns.map V.int) its->IntsAre its ns:=by
 intro ns
 induction ns with
 | nil=>intro its h;cases h;exact .nil
 | cons n ns ih =>
  intro its h;cases h with
  | cons r1 r2 =>
   obtain⟨t,rfl⟩:=r1;exact .cons n t (ih _ r2)
variable  {X:Cx}
def zoe(hc:X.A.handled=none):cD X (.builtin "max") (λxs H Q=>∃(p:Addr) (ns:List Int),xs=[.ref p]/\rO X.K H p (ns.map V.int)/\ns≠[]/\Q (.int (M.Fv ns)) H):=by
 rintro pins s σ H xs us Q I hr ⟨p,ns,rfl,hq,tQ,h⟩;cases hr with
 | cons r1 r2 =>
  cases r2;cases r1;obtain⟨its,rv,pl,hz⟩:=I.list hq;have hi:=KC ns its rv;have hl:s.heap.IsList p its.toArray:=pl.isList;obtain⟨xs,hx⟩:=hi.allInts.items;have zP:ns=xs.toList.map (·.1):=by rw[<-hi.numsOf,<-nums_intItems,<-hx]
  have hsz:0<xs.size:=by
   have:0<ns.length:=pL.mpr tQ;rw[zP,gq,mO]at this;exact this
  rw[hx]at hl;refine max_intList hc hl hsz λv h' tk hv hk=>?_;obtain⟨t,rfl⟩:=intItems_at hv;obtain⟨h1,h2⟩:=argBest_gt (numAt xs) (xs.size - 1);have e:numAt xs (argBest (λi j=>decide (numAt xs i > numAt xs j)) (xs.size - 1))=M.Fv ns:=by
   refine Int.le_antisymm (M.Aa ns _ ?_) ?_
   ·rw[zP,numAt_eq];exact getD_mem (by rw[gq,mO];omega)
   ·have ha:=M.znw ns tQ;generalize M.Fv ns=a at ha;rw[zP]at ha;obtain⟨j,hj,rfl⟩:=mem_getD ha;rw[gq,mO]at hj;rw[<-numAt_eq];exact h2 j (by omega)
  rw[e];refine⟨.int (M.Fv ns),H,I.but (λb ob hb e=>hk b ob e) (λm' KR=>?_),⟨t,rfl⟩,h⟩;exact ((Hc.yG KR).keeps hk).ns
end L2
namespace M
open PySem PySem.Spec L2
noncomputable def vO:List D->au->R D
 | [.loc n],st=>match aq st n with
  | some ds=>(match intsOf ds with | some ns=>if ns≠[] then .ok (.int (Fv ns)) st else .bad | none=>.bad)
  | none=>.bad
 | ds,st=>J0 ds st
def zmg(hk:X.calm=true)(hc:X.A.handled=none):cD X (.builtin "max") (E_ X vO):=by
 rintro pins s σ H xs us Q I rv ⟨μ,st,ds,hs,hv,hp⟩;unfold vO at hp
 split at hp
 ·rename_i n;cases e1:aq st n with
  | none=>simp only[e1]at hp;exact hp.elim
  | some l =>
   simp only[e1]at hp;cases e2:intsOf l with
   | none=>simp only[e2]at hp;exact hp.elim
   | some ns =>
    simp only[e2]at hp
    split at hp
    ·rename_i tQ;obtain⟨v,rfl,q⟩:=ao.one hv;obtain⟨p,q1,rfl⟩:=ak.aL.mp q;obtain⟨p',ys,r1,r2,r3⟩:=hs.items e1;rw[q1]at r1;cases r1;rw[zjc e2 r3]at r2;exact zoe hc _ _ _ _ _ _ _ I rv ⟨p,ns,rfl,r2,tQ,hp.ret hs (ak.aP.mpr rfl)⟩
    ·exact hp.elim
 ·exact zp4 hk _ _ _ _ _ _ _ I rv ⟨μ,st,_,hs,hv,hp⟩
end M
namespace ZL
open PySem
section
variable  {prog:Program}{w:World}{A:Around}{E:Value->Shared->Prop}{s:Shared}
abbrev Ha(h:Heap)(z TI TO a:Addr)(f:Bool):Prop :=
 h.get? z=some { cls:=.type "zip",dict:=none,data:=.fields #[rawInt a,.bool f,.bool false,.ref TI,.ref TO],slots:=#[] }
def Di(hz:Ha s.heap z TI TO a f)(ha:s.heap.get? a=some oa) 
  (hQ:∀h',Ha h' z TI TO a true->Heap.SameBut z s.heap h'->Q false { s with heap:=h' }):wpAny (model prog w) A (Builtin.SmallTypes.ownedTupleIsFree (.ref z)) Q E s:=by
 unfold Builtin.SmallTypes.ownedTupleIsFree;refine ae7 (afC hz rfl (x:=rawInt a) rfl ?_);show wpAny _ _ (loadIfAlive a >>= _) _ _ _;have al:∀{R:Option Obj->Shared->Prop},R (some oa) s->wpAny (model prog w) A (loadIfAlive a) R E s:=λ{R} h=>by
  have h':R (s.heap.get? a) s:=by rw[ha];exact h
  exact λ_ _ _=>h'
 refine ae7 (al ?_);cases f with
 | true =>
  refine ae7 (afC hz rfl (x:=.bool true) rfl ?_);exact ae8 (hQ s.heap hz (Heap.SameBut.refl ..))
 | false =>
  refine ae7 (afC hz rfl (x:=.bool false) rfl ?_);exact ae7 (wpAny_setField_rec hz (by simp) λae5 aeE aeG=>ae8 (hQ ae5 aeE aeG))
variable  {z TI TO a i1 i2 l1 l2:Addr}{f:Bool}{oa:Obj}{k:Nat}{xs ys:Array Value}
def G4{x y:Value}{Q:Value->Shared->Prop}(D:ZipApart z TI TO i1 i2 l1 l2)(hz:Ha s.heap z TI TO a f)(ha:s.heap.get? a=some oa)(hTI:IsPair s.heap TI (.ref i1) (.ref i2))
  (h1:s.heap.IsListIter i1 l1 k) (h2:s.heap.IsListIter i2 l2 k) (t_:s.heap.IsList l1 xs) (uZ:s.heap.IsList l2 ys) (hx:xs[k]? = some x) (hy:ys[k]? = some y)
  (hQ:∀h',Ha h' z TI TO a true->h'.IsListIter i1 l1 (k+1)->h'.IsListIter i2 l2 (k+1)->IsPair h' s.heap.objs.size x y->h'.objs.size=s.heap.objs.size+1 ->
   (∀c o,c≠z->c≠i1->c≠i2->s.heap.get? c=some o->h'.get? c=some o)->Q (.ref s.heap.objs.size) { s with heap:=h' }) :
  wpAny (model prog w) A (Builtin.«zip.__next__» ⟨[.ref z],[]⟩) (λfin s'=>∃v,fin=.done (.ret v)/\Q v s') E s:=by
 show wpAny _ _ (field (.ref z) 2 >>= _) _ _ _;refine ae7 (afC hz rfl (x:=.bool false) rfl ?_);show wpAny _ _ (field (.ref z) 3 >>= _) _ _ _;refine ae7 (afC hz rfl (x:=.ref TI) rfl (ae7 (wpAny_seqItems hTI rfl ?_)));show wpAny _ _ (Builtin.SmallTypes.ownedTupleIsFree (.ref z) >>= _) _ _ _;refine ae7 (Di hz ha λg1 hz1 bV=>?_);rw[ae_ mQ];refine ae7 ?_;rw[<-Array.forIn_toList];simp only[ph,List.forIn_nil];have p1:=bV.extBut;refine ae7 (ae7 (afi ?_));show wpAny _ _ (Builtin.SmallTypes.nextOf (.ref i1) >>= _) _ _ _;refine ae7 (wpAny_nextOf_list_item (h1.extBut p1 D.i1z) (t_.extBut p1 D.l1z) hx λg2 n1 fY=>ae8 ?_);have p2:=fY.extBut;refine ae8 (ae7 (ae7 (afi ?_)));show wpAny _ _ (Builtin.SmallTypes.nextOf (.ref i2) >>= _) _ _ _;refine ae7 (wpAny_nextOf_list_item ((h2.extBut p1 D.i2z).extBut p2 D.i12.symm) ((uZ.extBut p1 D.l2z).extBut p2 D.l2i1) hy λg3 n2 vX=>ae8 ?_);have p3:=vX.extBut;refine ae8 (ae8 (ae7 (wpAny_newTuple (ae8 ⟨_,rfl,?_⟩) (by show 2<=sizeLine;decide))));have sz:g3.objs.size=s.heap.objs.size:=by rw[vX.1,fY.1,bV.1]
 show Q (.ref g3.objs.size) { s with heap:=g3.push { cls:=.type "tuple",data:=.seq #[x,y] } };rw[sz];have up:∀c o,c≠z->c≠i1->c≠i2->s.heap.get? c=some o->g3.get? c=some o:=λc o q1 q2 q3 e=>p3 _ _ q3 (p2 _ _ q2 (p1 _ _ q1 e));exact hQ _ (gJ _ (p3 _ _ D.i2z.symm (p2 _ _ D.i1z.symm hz1))) ((n1.extBut p3 D.i12).at λo e=>gJ _ e) (n2.at λo e=>gJ _ e)
  (sz ▸ h_ _ rfl) (by rw[nQ,sz]) λc o q1 q2 q3 e=>gJ _ (up c o q1 q2 q3 e)
def LQ{Q:Fin->Shared->Prop}(hh:A.handled=none)(D:ZipApart z TI TO i1 i2 l1 l2)(hz:Ha s.heap z TI TO a f)(ha:s.heap.get? a=some oa)(hTI:IsPair s.heap TI (.ref i1) (.ref i2))
  (h1:s.heap.IsListIter i1 l1 k) (h2:s.heap.IsListIter i2 l2 k) (t_:s.heap.IsList l1 xs) (uZ:s.heap.IsList l2 ys) (no:xs[k]? = none\/ys[k]? = none)
  (hE:∀h' e,(∀c o,c≠z->c≠i1->c≠i2->s.heap.get? c=some o->h'.get? c=some o)->(∃o,h'.get? e=some o/\o.cls=.type "StopIteration")->E (.ref e) { s with heap:=h' }) :
  wpAny (model prog w) A (Builtin.«zip.__next__» ⟨[.ref z],[]⟩) Q E s:=by
 show wpAny _ _ (field (.ref z) 2 >>= _) _ _ _;refine ae7 (afC hz rfl (x:=.bool false) rfl ?_);show wpAny _ _ (field (.ref z) 3 >>= _) _ _ _;refine ae7 (afC hz rfl (x:=.ref TI) rfl (ae7 (wpAny_seqItems hTI rfl ?_)));show wpAny _ _ (Builtin.SmallTypes.ownedTupleIsFree (.ref z) >>= _) _ _ _;refine ae7 (Di hz ha λg1 hz1 bV=>?_);rw[ae_ mQ];refine ae7 ?_;rw[<-Array.forIn_toList];simp only[ph,List.forIn_nil];have p1:=bV.extBut;refine ae7 (ae7 (afi ?_));show wpAny _ _ (Builtin.SmallTypes.nextOf (.ref i1) >>= _) _ _ _;cases hx:xs[k]? with
 | none=>exact ae7 (wpAny_nextOf_list_end hh (h1.extBut p1 D.i1z) (t_.extBut p1 D.l1z) hx λg2 e fY he=>hE g2 e (λc o q1 q2 _ x=>fY _ _ q2 (p1 _ _ q1 x)) he)
 | some x =>
  have hy:ys[k]? = none:=no.resolve_left (by rw[hx];exact λh=>nomatch h);refine ae7 (wpAny_nextOf_list_item (h1.extBut p1 D.i1z) (t_.extBut p1 D.l1z) hx λg2 n1 fY=>ae8 ?_);have p2:=fY.extBut;refine ae8 (ae7 (ae7 (afi ?_)));show wpAny _ _ (Builtin.SmallTypes.nextOf (.ref i2) >>= _) _ _ _;exact ae7 (wpAny_nextOf_list_end hh ((h2.extBut p1 D.i2z).extBut p2 D.i12.symm) ((uZ.extBut p1 D.l2z).extBut p2 D.l2i1) hy λg3 e vX he=>hE g3 e (λc o q1 q2 q3 x=>vX _ _ q3 (p2 _ _ q2 (p1 _ _ q1 x))) he)
structure XJ(h:Heap)(z TI TO i1 i2 l1 l2 S:Addr)(k:Nat):Prop where
 top:(IsZip h z TI TO .none/\∃a b,IsPair h TO a b)\/∃a f oa,Ha h z TI TO a f/\h.get? a=some oa/\a≠S
 its:IsPair h TI (.ref i1) (.ref i2)
 one:h.IsListIter i1 l1 k
 two:h.IsListIter i2 l2 k
variable  {S:Addr}
def XJ.keep(t:XJ h z TI TO i1 i2 l1 l2 S k)(kp:∀b o,b≠S->h.get? b=some o->h'.get? b=some o)(n:S≠z/\S≠TI/\S≠TO/\S≠i1/\S≠i2):XJ h' z TI TO i1 i2 l1 l2 S k:=by
 obtain⟨n1,n2,n3,n4,n5⟩:=n;refine⟨?_,kp _ _ n2.symm t.its,t.one.at λo e=>kp _ o n4.symm e,t.two.at λo e=>kp _ o n5.symm e⟩;rcases t.top with⟨u1,c,d,u2⟩ | ⟨c,f,oa,u1,u2,u3⟩
 ·exact .inl ⟨kp _ _ n1.symm u1,c,d,kp _ _ n3.symm u2⟩
 ·exact .inr ⟨c,f,oa,kp _ _ n1.symm u1,kp _ _ u3 u2,u3⟩
def zmx(D:ZipApart z TI TO i1 i2 l1 l2)(t:XJ s.heap z TI TO i1 i2 l1 l2 S k)(hS:S<s.heap.objs.size) 
  (t_:s.heap.IsList l1 xs) (uZ:s.heap.IsList l2 ys) (hx:xs[k]? = some x) (hy:ys[k]? = some y)
  (hQ:∀h',XJ h' z TI TO i1 i2 l1 l2 S (k+1)->IsPair h' s.heap.objs.size x y->h'.objs.size=s.heap.objs.size+1 ->
   (∀c o,c∉[z,TI,TO,i1,i2]->s.heap.get? c=some o->h'.get? c=some o)->Q (some (.ref s.heap.objs.size)) { s with heap:=h' }) :
  wpAny (model prog w) A (pyNext (.ref z)) Q E s:=by
 rcases t.top with⟨u1,c,d,u2⟩ | ⟨c,f,oa,u1,u2,u3⟩
 ·refine wpAny_pyNext_zip_item D u1 t.its u2 t.one t.two t_ uZ hx hy λh' e1 e2 e3 e4 e5 e6 e7=>hQ h' ⟨.inr ⟨_,false,_,e1,e5,mY hS⟩,e7 _ _ D.TIz D.TITO D.TIi1 D.TIi2 t.its,e3,e4⟩ e5 e6 λc o hc e=>?_;simp only[gj,g_,afm,not_or]at hc;exact e7 c o hc.1 hc.2.2.1 hc.2.2.2.1 hc.2.2.2.2 e
 ·have hT:s.TypeIs (.ref z) "zip":=⟨_,u1,rfl⟩;unfold pyNext;refine ae7 (wpAny_attempt (afj (name:=Str.ofString "__next__") hT F.slot_zip_next (afx F.slot_zip_next hT F.entry_zip_next
   (G4 D u1 u2 t.its t.one t.two t_ uZ hx hy λh' e1 e3 e4 e5 e6 e7=>ae8 (hQ h' ?_ e5 e6 λc o hc e=>?_)) (F.args_zip_next_1 _))))
  ·have hck:∃oc,h'.get? c=some oc:=by
    by_cases c1:c=z
    ·exact⟨_,(congrArg h'.get? c1).trans e1⟩
    ·by_cases c2:c=i1
     ·obtain⟨o,q,_⟩:=e3;exact⟨o,c2 ▸ q⟩
     ·by_cases c3:c=i2
      ·obtain⟨o,q,_⟩:=e4;exact⟨o,c3 ▸ q⟩
      ·exact⟨_,e7 c _ c1 c2 c3 u2⟩
   obtain⟨oc,WN⟩:=hck;exact⟨.inr ⟨c,true,oc,e1,WN,u3⟩,e7 _ _ D.TIz D.TIi1 D.TIi2 t.its,e3,e4⟩
  ·simp only[gj,g_,afm,not_or]at hc;exact e7 c o hc.1 hc.2.2.2.1 hc.2.2.2.2 e
def Xl(hh:A.handled=none)(D:ZipApart z TI TO i1 i2 l1 l2)(t:XJ s.heap z TI TO i1 i2 l1 l2 S k) 
  (t_:s.heap.IsList l1 xs) (uZ:s.heap.IsList l2 ys) (no:xs[k]? = none\/ys[k]? = none)
  (hQ:∀h',(∀c o,c∉[z,TI,TO,i1,i2]->s.heap.get? c=some o->h'.get? c=some o)->Q none { s with heap:=h' }) :
  wpAny (model prog w) A (pyNext (.ref z)) Q E s:=by
 rcases t.top with⟨u1,c,d,u2⟩ | ⟨c,f,oa,u1,u2,u3⟩
 ·refine wpAny_pyNext_zip_end hh D u1 t.its u2 t.one t.two t_ uZ no λh' e7=>hQ h' λc o hc e=>?_;simp only[gj,g_,afm,not_or]at hc;exact e7 c o hc.1 hc.2.2.1 hc.2.2.2.1 hc.2.2.2.2 e
 ·have hT:s.TypeIs (.ref z) "zip":=⟨_,u1,rfl⟩;unfold pyNext;refine ae7 (wpAny_attempt (afj (name:=Str.ofString "__next__") hT F.slot_zip_next (afx F.slot_zip_next hT F.entry_zip_next
   (LQ hh D u1 u2 t.its t.one t.two t_ uZ no λh' e e7 he=>?_) (F.args_zip_next_1 _))))
  obtain⟨o,ho,hc⟩:=he;refine ae7 (wpAny_isInstance (T:="StopIteration") (b:=true) ⟨o,ho,hc⟩ isSubtype_stop (ae8 (hQ _ λc o hc e=>?_)));simp only[gj,g_,afm,not_or]at hc;exact e7 c o hc.1 hc.2.2.2.1 hc.2.2.2.2 e
end
def aa1:typeLookup (.type "zip") "__len__" = pure none:=by
 rw[typeLookup_type,builtinLookup_eq_fast]
 kernel_rfl
def VL:typeLookup (.type "zip") "__length_hint__" = pure none:=by
 rw[typeLookup_type,builtinLookup_eq_fast]
 kernel_rfl
section
variable  {prog:Program}{w:World}{A:Around}{s:Shared}{R:Result->Shared->Prop}{z TI TO S:Addr}{f0:Value}
def zl2(hz:IsZip s.heap z TI TO f0)(hS:s.heap.get? S=some { cls:=.type "list",data:=.seq #[] })(ne:S≠z)
  (hR:∀h' c,h'.get? S=some { cls:=.type "list",data:=.seq #[] c }->h'.objs.size=s.heap.objs.size->(∀b o,b≠S->s.heap.get? b=some o->h'.get? b=some o) ->
   codeAny (model prog w) A (.builtin "list.extend.loop" ⟨[.ref S,.ref z,.none],[]⟩) R { s with heap:=h' }) :
  wpAny (model prog w) A.in1 (Builtin.«list.__init__» ⟨[.ref S,.ref z],[]⟩)
   (λfin s'=>match fin with | .done f=>R (.ok f) s' | .again c'=>c'.quiet=true/\codeAny (model prog w) A c' R s') (λe s'=>R (.error e) s') s:=by
 show wpAny _ A.in1 (Builtin.List.listItems (.ref S) >>= _) _ _ s;unfold Builtin.List.listItems;refine ae7 (ae7 (wpAny_seqItems hS rfl (ae8 ?_)));show wpAny _ A.in1 (updateSeq S (λ_=>#[]) >>= _) _ _ s;refine ae7 (wpAny_updateSeq hS rfl ?_);have up:∀(h:Heap) (f:Obj->Obj) b o,b≠S->h.get? b=some o->(h.update S f).get? b=some o:=λh f b o hb e=>(n_ _ _ (afv hb)).trans e;have a1:=nq (Obj.mapSeq λ_=>(#[]:Array Value)) hS rfl;refine ae7 (wpAny_letGo ?_);have hz1:=up s.heap (Obj.mapSeq λ_=>(#[]:Array Value)) z _ (afv ne) hz;have hT:Shared.TypeIs { s with heap:=s.heap.update S (Obj.mapSeq λ_=>(#[]:Array Value)) } (.ref z) "zip":=⟨_,hz1,rfl⟩;unfold Builtin.List.listExtendWith;refine ae7 (wpAny_typeOf hT ?_);have q1:Builtin.List.listSameRef (.ref S) (.ref z)=false:=by simp[Builtin.List.listSameRef,ne]
 have q2:(Value.type "zip" == Value.type "list")=false:=by decide
 have q3:(Value.type "zip" == Value.type "tuple")=false:=by decide
 rw[q1,q2,q3];refine ae7 (wpAny_pyIter_zip hz1 ?_);refine ae7 (afi ?_);unfold Builtin.List.listLengthHint;refine ae7 (wpAny_specialOf hT aa1 ?_);show wpAny _ _ (specialOf (.ref z) _ >>= _) _ _ _;refine ae7 (wpAny_specialOf hT VL (ae8 ?_));show wpAny _ _ (rule "list.extend.makes-room" >>= _) _ _ _;refine ae7 (wpAny_rule (ae7 ?_));show wpAny _ _ (updateSeq S (·.push .none) >>= _) _ _ _;refine ae7 (wpAny_updateSeq a1 rfl ?_);have a2:=nq (Obj.mapSeq (·.push Value.none)) a1 rfl;show wpAny _ _ (updateSeq S (·.pop)) _ _ _;refine wpAny_updateSeq (hz:=by seq_fits) a2 rfl ?_;have a3:=nq (Obj.mapSeq (·.pop)) a2 rfl;refine ae8 ⟨plainId_quiet afN _,hR _ _ a3 ?_ λb o hb e=>up _ _ b o hb (up _ _ b o hb (up _ _ b o hb e))⟩;simp only[Heap.size_update]
end
end ZL
namespace L2
open PySem PySem.Spec PyProof.Rows ZL
section
variable  {X:Cx}{pins:List (Addr×Obj)}{σ:L2.St}{H:Hp}{s:Shared}
def Inv.take(I:Inv X pins σ H s)(hf:qM X pins H a)(new:cH X.prog X.w (upd H a o) s.heap a o):Inv X pins σ (upd H a o) s:=by
 have na:∀b u,H b=some u->b≠a:=λb u e=>yZ e hf.1;refine I.step (h':=s.heap) (g':=s.gens) (d':=s.drawn) (t':=s.toks) (ch:=[a]) (λb hb=>?_) (λb o _ _ _ e _=>e) (λb o _ _ _ e _=>⟨o.slots,e⟩)
  (λb o hb _ n=>by rw[iD (λz=>hb (by simp[z]))];exact n) (λb o _ e=>⟨o,e⟩) (λb xs e=>by rw[iD (na b _ e)];exact e) (λb o u e=>by rw[iD (na b _ e)];exact e)
  (λb ps e=>⟨#[],by rw[iD (na b _ e),e];simp⟩) (λm hm=>hm) (λb u e=>?_) I.bare
 ·rw[gQ.mp hb];exact⟨hf.2.2.2.1,hf.2.1,hf.2.2.2.2.1,hf.2.2.2.2.2⟩
 ·by_cases hb:b=a
  ·subst hb;rw[rQ]at e;cases e;exact new
  ·rw[iD hb]at e;exact (I.cz b u e).tX (λc v _ q=>q) (λc q=>by rw[iD (na c _ q)];exact q) λc xs q=>by rw[iD (na c _ q)];exact q
def PN:Hp->List (V×V)->List V->(List V->Hp->Prop)->Prop
 | H,[],vs,Q=>Q vs H
 | H,(x,y)::r,vs,Q=>∀p,H p=none->PN (upd H p (.tup [x,y])) r (vs++[.ref p]) Q
def Vals.snoc(h:Vals vs us)(r:RelV v u):Vals (vs++[v]) (us++[u]):=by
 induction h with
 | nil=>exact .cons r .nil
 | cons a b ih=>exact .cons a ih
variable  {A:Around}{z TI TO i1 i2 l1 l2 S:Addr}{xs ys:List V}{us ws:List Value}{Qf:List V->Hp->Prop}{R:Result->Shared->Prop}
def Hs(hh:A.in1.handled=none)(D:ZipApart z TI TO i1 i2 l1 l2)(nS:S∉[z,TI,TO,i1,i2])(n1:l1∉[S,z,TI,TO,i1,i2])(n2:l2∉[S,z,TI,TO,i1,i2])(rx:Vals xs us)(ry:Vals ys ws)(few:xs.length<=sizeLine)
  (hR:∀H1 vs1 Q5 s1 c1,Inv X pins σ H1 s1->qM X pins H1 S->s1.heap.get? S=some { cls:=.type "list",data:=.seq (List.toArray Q5) c1 }->Vals vs1 Q5->vs1.length<=sizeLine->Qf vs1 H1->R (.ok (.ret .none)) s1) :
  ∀(r:List (V×V)) (k:Nat) (s:Shared) (H:Hp) (acc:List Value) (vs:List V) (c:Nat),(xs.zip ys).drop k=r->Inv X pins σ H s->(∀b∈[S,z,TI,TO,i1,i2],qM X pins H b)->(∀b∈[S,z,TI,TO,i1,i2],b<s.heap.objs.size)->XJ s.heap z TI TO i1 i2 l1 l2 S k ->
   s.heap.IsList l1 us.toArray->s.heap.IsList l2 ws.toArray->s.heap.get? S=some { cls:=.type "list",data:=.seq acc.toArray c }->Vals vs acc->vs.length=k->k<=xs.length->PN H r vs Qf ->
   codeAny (model X.prog X.w) A (.builtin "list.extend.loop" ⟨[.ref S,.ref z,.none],[]⟩) R s:=by
 have lx:=rx.length;have ly:=ry.length;have nn:S≠z/\S≠TI/\S≠TO/\S≠i1/\S≠i2:=by simpa only[gj,g_,afm,not_or] using nS
 intro r
 induction r with
 | nil =>
  intro k s H acc vs c hr I hf lt t L1 L2 hS hv hk hkl hq;refine codeAny_builtin F.entry_extend_loop ?_;rw[Around.under_plainId afN _];show wpAny _ A.in1 (pyNext (.ref z) >>= _) _ _ s;have hle:=List.drop_eq_nil_iff.mp hr;rw[List.length_zip]at hle;refine ae7 (Xl hh D t L1 L2 ?_ λh' kp=>ae8 ?_)
  ·by_cases hx:xs.length<=k
   ·exact .inl (by simp;omega)
   ·exact .inr (by simp;omega)
  ·refine hR H vs acc _ c (I.turns (t':=s.toks) (ch:=[S,z,TI,TO,i1,i2]) hf λb o hb e=>kp b o (λq=>hb (kW _ q)) e) (hf S (by simp)) (kp S _ nS hS) hv (by omega) hq
 | cons p r ih =>
  obtain⟨x,y⟩:=p;intro k s H acc vs c hr I hf lt t L1 L2 hS hv hk hkl hq;have adB:(xs.zip ys)[k]? = some (x,y):=by
   have:=congrArg (·[0]?) hr;simpa using this
  obtain⟨hx,hy⟩:=List.getElem?_zip_eq_some.mp adB;obtain⟨u,hu,ru⟩:=rx.get hx;obtain⟨v,xP,rv⟩:=ry.get hy;have hkx:k<xs.length:=(gk.mp hx).1;refine codeAny_builtin F.entry_extend_loop ?_;rw[Around.under_plainId afN _];show wpAny _ A.in1 (pyNext (.ref z) >>= _) _ _ s;have Slt:=gF hS;refine ae7 (zmx (x:=u) (y:=v) D t Slt L1 L2 (by simpa using hu) (by simpa using xP) λh' t' pr sz kp=>?_);show wpAny _ A.in1 (updateSeq S (·.push (.ref s.heap.objs.size)) >>= _) _ _ _;have hS':=kp S _ nS hS;have la:=hv.length;refine ae7 (wpAny_updateSeq hS' rfl (ae8 ⟨plainId_quiet afN _,?_⟩) (by simp;omega) (by simp;omega));have K5:=nq (Obj.mapSeq (·.push (.ref s.heap.objs.size))) hS' rfl;have up:∀b o,b≠S->h'.get? b=some o->(h'.update S (Obj.mapSeq (·.push (.ref s.heap.objs.size)))).get? b=some o:=λb o hb e=>(n_ _ _ (afv hb)).trans e;have kp2:∀b o,b∉[S,z,TI,TO,i1,i2]->s.heap.get? b=some o->(h'.update S (Obj.mapSeq (·.push (.ref s.heap.objs.size)))).get? b=some o:=λb o hb e =>
   up b o (λq=>hb (by simp[q])) (kp b o (λq=>hb (kW _ q)) e)
  have I2:Inv X pins σ (upd H s.heap.objs.size (.tup [x,y])) { s with heap:=h'.update S (Obj.mapSeq (·.push (.ref s.heap.objs.size))),toks:=s.toks } :=
   I.Bo (t':=s.toks) hf kp2 (gf _) ⟨by show 2<=sizeLine;decide,[u,v],.cons ru (.cons rv .nil),⟨_,up _ _ (mY Slt) pr,rfl,_,rfl⟩⟩
  refine ih (k+1) _ _ (acc++[.ref s.heap.objs.size]) (vs++[.ref s.heap.objs.size]) _ ?_ I2 (λb hb=>?_) (λb hb=>by rw[Heap.size_update,sz];exact Nat.lt_succ_of_lt (lt b hb)) (t'.keep up nn) ?_ ?_ (by simpa[Obj.mapSeq] using K5) (hv.snoc (v:=.ref s.heap.objs.size) (u:=.ref s.heap.objs.size) rfl) (by simp[hk]) hkx (hq _ (I.cz.fresh (gf _)))
  ·rw[<-List.drop_drop,hr];rfl
  ·obtain⟨f0,f⟩:=hf b hb;exact⟨by rw[iD (gU (lt b hb))];exact f0,f⟩
  ·exact L1.at λo e=>kp2 _ o n1 e
  ·exact L2.at λo e=>kp2 _ o n2 e
end
def Ug(N:Nat)(h:l<N)(h':m<N):ZipApart (N+4) (N+2) (N+3) N (N+1) l m:=by
 have ne:∀x y:Nat,x≠y->((x:Addr)≠y):=λ_ _ q=>q;constructor<;>exact ne _ _ (by omega)
def Tr{N n:Nat}(h:n<N\/N+4<n):(n:Addr)∉[N+4,N+2,N+3,N,N+1]:=by
 have ne:∀x y:Nat,x≠y->((x:Addr)≠y):=λ_ _ q=>q;simp only[gj,g_,afm,not_or];exact⟨ne _ _ (by omega),ne _ _ (by omega),ne _ _ (by omega),ne _ _ (by omega),ne _ _ (by omega)⟩
section
variable  {X:Cx}{p pos p2 rZ:Pos}{a b:Expr}{ta:TA}
noncomputable def tLz(X:Cx)(ta:TA):TE:=fun σ H Q=>ta σ H λvs H1=>∃l1 l2 xs ys,vs=[.ref l1,.ref l2]/\rO X.K H1 l1 xs/\rO X.K H1 l2 ys/\PN H1 (xs.zip ys) [] λvs H2=>∀l,H2 l=none->Q (.ref l) (upd H2 l (.lst vs))
def zoa(hc:X.A.handled=none)(hg:Gl X "list")(hm:X.mg "list" = none)(hg2:Gl X "zip")(ux:X.mg "zip" = none)(ha:PA X [a,b] ta)
  (hs:starEach [a,b] X.env=[(false,eval a X.env),(false,eval b X.env)]:=by rfl) (fY:starEach [b] X.env=[(false,eval b X.env)]:=by rfl)
  (vX:starEach [.Call (.Name "zip" p2) [a,b] [] rZ] X.env=[(false,eval (.Call (.Name "zip" p2) [a,b] [] rZ) X.env)]:=by rfl) :
  PE X (.Call (.Name "list" p) [.Call (.Name "zip" p2) [a,b] [] rZ] [] pos) (tLz X ta):=by
 intro pins s σ H Q I h;refine afn (Tv I hg hm (show bootBuiltins "list" = some (.type "list") by decide +kernel) ?_ (by decide) (by decide));refine afh (e:=.Call (.Name "zip" p2) [a,b] [] rZ) (rest:=[]) ?_ (by rw[vX];rfl) rfl;rw[vX];show wpAny _ _ (spliced ((false,eval (.Call (.Name "zip" p2) [a,b] [] rZ) X.env)::backTo pos [])) _ _ s;refine Calls.spliced_cons (afn (Tv I hg2 ux boot_zip (afh (dO (ha rZ pins s σ H _ I h) λus s1 zz=>?_) (by rw[hs,fY]) (by rw[fY];rfl)) (by decide) (by decide)));obtain⟨vs,H1,I1,r1,q1⟩:=zz;obtain⟨l1,l2,xs,ys,rfl,R7,hq2,q⟩:=q1;cases r1 with
 | cons r rr =>
 cases rr with
 | cons r2 rr =>
  cases rr;cases r;cases r2;obtain⟨its,rv,pl,hz⟩:=I1.list R7;obtain⟨o_,rv2,pl2,hz2⟩:=I1.list hq2;have lt1:l1<s1.heap.objs.size:=by obtain⟨o,q,_⟩:=pl.isList;exact gF q
  have lt2:l2<s1.heap.objs.size:=by obtain⟨o,q,_⟩:=pl2.isList;exact gF q
  refine call_zip_2 pl.isList pl2.isList λh' g1 g2 g3 g4 g5 hsz hk=>?_;refine ae8 ?_;have I2:Inv X pins σ H1 { s1 with heap:=h' }:=I1.kept (t':=s1.toks) hk;generalize hN:s1.heap.objs.size=N at *;have D:=Ug N lt1 lt2;refine callType_codes (Q₁:=λobj aeW=>obj=.ref h'.objs.size/\aeW={ s1 with heap:=h'.push { cls:=.type "list",data:=.seq #[] } }) F.called_list (F.typeCall_list_1 _) F.entry_list_init (code_list_new _ ⟨rfl,rfl⟩) λobj aeW ae4=>?_;obtain⟨rfl,rfl⟩:=ae4;have kp:∀b o,h'.get? b=some o->(h'.push { cls:=.type "list",data:=.seq #[] }).get? b=some o:=λb o e=>gJ _ e;have hS:(h'.push { cls:=.type "list",data:=.seq #[] }).get? h'.objs.size=some { cls:=.type "list",data:=.seq #[] }:=h_ _ rfl;refine⟨⟨_,hS,rfl⟩,F.args_list_init_2 _ _,zl2 (kp _ _ g1) hS (mY (by omega)) λh2 c K5 sz2 kp2=>?_⟩;have RQ:∀b o,h'.get? b=some o->h2.get? b=some o:=λb o e=>kp2 b o (gU (gF e)) (kp b o e);have fps:∀b∈[h'.objs.size,N+4,N+2,N+3,N,N+1],N<=b/\b<h2.objs.size:=λb hb=>by
   change h2.objs.size=(h'.push _).objs.size at sz2;rw[nQ]at sz2;have t:∀m:Nat,N<=m/\m<=N+5->N<=(m:Addr)/\m<h2.objs.size:=λm h=>⟨h.1,by omega⟩;simp only[gj,g_,afm]at hb;rcases hb with rfl | rfl | rfl | rfl | rfl | rfl<;>exact t _ ⟨by omega,by omega⟩
  refine Hs (A:=X.A.in1) (X:=X) (pins:=pins) (σ:=σ) (Qf:=λvs H2=>∀l,H2 l=none->Q (.ref l) (upd H2 l (.lst vs))) hc D ?_ ?_ ?_ rv rv2 hz ?_ (xs.zip ys) 0 _ H1 [] [] c rfl (I2.kept (t':=s1.toks) RQ) (λb hb=>?_) (λb hb=>(fps b hb).2)
   ⟨.inl ⟨RQ _ _ g1,_,_,RQ _ _ g3⟩,RQ _ _ g2,g4.at λo e=>RQ _ o e,g5.at λo e=>RQ _ o e⟩ ?_ ?_ K5 .nil rfl (mZ _) q
  ·exact Tr (.inr (by omega))
  ·exact λq=>(gj.mp q).elim (λe=>absurd (show l1=h'.objs.size from e) (gU (gR lt1 (by omega)))) (Tr (.inl lt1))
  ·exact λq=>(gj.mp q).elim (λe=>absurd (show l2=h'.objs.size from e) (gU (gR lt2 (by omega)))) (Tr (.inl lt2))
  ·intro H2 vs1 Q5 s3 c1 I3 fS hl hv hle hq;exact⟨rfl,.ref h'.objs.size,_,I3.take fS (show cH X.prog X.w _ _ _ (.lst vs1) from ⟨hle,Q5,c1,hv,hl⟩),rfl,hq _ fS.1⟩
  ·exact I1.yH (by rw[hN];exact (fps b hb).1) (I1.cz.fresh (by rw[hN];exact (fps b hb).1))
  ·exact pl.isList.at λo e=>RQ _ o (hk _ o e)
  ·exact pl2.isList.at λo e=>RQ _ o (hk _ o e)
end
end L2
namespace M
open PySem PySem.Spec L2
noncomputable def t6(mA:MA):ME:=λenv st=>(mA env st).bind λds st1=>match ds with
 | [.loc m,.loc n]=>(match aq st1 m,aq st1 n with | some xs,some ys=>.ok (.loc st1.length) (st1++[.lst (List.zipWith (λx y=>.tup [x,y]) xs ys)]) | _,_=>.bad)
 | _=>.bad
def PQ:∀(ds es acc:List D) (xs ys vs:List V) (H:Hp),aV K μ H st->ao K μ H ds xs->ao K μ H es ys->ao K μ H acc vs ->
  (∀H2 vs2,bD μ H μ H2->aV K μ H2 st->ao K μ H2 (acc++List.zipWith (λx y=>D.tup [x,y]) ds es) vs2->Q vs2 H2)->PN H (xs.zip ys) vs Q:=by
 intro ds
 induction ds with
 | nil =>
  intro es acc xs ys vs H hs h1 h2 h3 hq;rw[ao]at h1;subst h1;exact hq H vs (.refl _ _) hs (by simpa using h3)
 | cons d ds ih =>
  intro es acc xs ys vs H hs h1 h2 h3 hq;rw[ao]at h1;obtain⟨x,xr,rfl,hx,hxr⟩:=h1;cases es with
  | nil =>
   rw[ao]at h2;subst h2;exact hq H vs (.refl _ _) hs (by simpa using h3)
  | cons e es =>
   rw[ao]at h2;obtain⟨y,yr,rfl,hy,hyr⟩:=h2;intro p hn;have g:bD μ H μ (upd H p (.tup [x,y])):=bD.lay hn;refine ih es (acc++[.tup [d,e]]) xr yr (vs++[.ref p]) _ (hs.lay hn) (hxr.mono g _) (hyr.mono g _) ((h3.mono g _).append (.cons (ak.aX.mpr ⟨p,_,rfl,.inl rQ,(ao.cons hx (ao.cons hy ao.nil)).mono g _⟩) .nil)) λH2 vs2 g2 fY hv=>hq H2 vs2 (g.trans g2) fY ?_;simpa using hv
section
variable  {X:Cx}{p pos p2 rZ:Pos}{a b:Expr}{mA:MA}
def znk(hh:X.A.handled=none)(hg:Gl X "list")(hm:X.mg "list" = none)(hg2:Gl X "zip")(ux:X.mg "zip" = none)(ha:JA X [a,b] mA)
  (hs:starEach [a,b] X.env=[(false,eval a X.env),(false,eval b X.env)]:=by rfl) (fY:starEach [b] X.env=[(false,eval b X.env)]:=by rfl)
  (vX:starEach [.Call (.Name "zip" p2) [a,b] [] rZ] X.env=[(false,eval (.Call (.Name "zip" p2) [a,b] [] rZ) X.env)]:=by rfl) :
  JE X (.Call (.Name "list" p) [.Call (.Name "zip" p2) [a,b] [] rZ] [] pos) (t6 mA):=by
 refine JE.of (zoa hh hg hm hg2 ux ha hs fY vX) fun σ H Q zz=>?_;obtain⟨μ,env,st,he,hS,hp⟩:=zz;refine⟨μ,env,st,he,hS,hp.bind.imp ?_⟩;rintro vs H1 ⟨μ1,st1,ds,g1,bV,hv,bf⟩;dsimp only at bf
 split at bf
 ·rename_i m n;cases e1:aq st1 m with
  | none=>rw[e1]at bf;exact bf.elim
  | some ds =>
   cases e2:aq st1 n with
   | none=>rw[e1,e2]at bf;exact bf.elim
   | some es =>
    rw[e1,e2]at bf;obtain⟨u,v,rfl,r1,r2⟩:=ao.two hv;obtain⟨q1,k1,rfl⟩:=ak.aL.mp r1;obtain⟨q2,k2,rfl⟩:=ak.aL.mp r2;obtain⟨q1',xs,j1,j2,j3⟩:=bV.items e1;rw[k1]at j1;cases j1;obtain⟨q2',ys,i1,i2,i3⟩:=bV.items e2;rw[k2]at i1;cases i1;refine⟨q1,q2,xs,ys,rfl,j2,i2,PQ ds es [] xs ys [] H1 bV j3 i3 .nil λH2 vs2 g fY xP l hl=>?_⟩;exact (bf.mono g).newList fY (by simpa using xP) hl
 ·exact bf.elim
@[simp] theorem zh3:t6 mA env st=(mA env st).bind λds st1=>match ds with
 | [.loc m,.loc n]=>(match aq st1 m,aq st1 n with | some xs,some ys=>.ok (.loc st1.length) (st1++[.lst (List.zipWith (λx y=>.tup [x,y]) xs ys)]) | _,_=>.bad)
 | _=>.bad:=rfl
end
def sG{N P:List Str}{sc:Scope}(h1:sc.kind=.function:=by rfl)(h2:sc.isCoroutine=false:=by rfl)(h3:sc.isGenerator=false:=by rfl)(h4:N.Nodup:=by decide +kernel)(h5:N.take P.length=P:=by rfl)(h6:∀x∈P,sc.names.lookup x=some .local\/sc.names.lookup x=some .cell:=by decide +kernel)(h7:∀y∈sc.names,y.2≠.free:=by decide +kernel):aZ N P sc:=⟨h1,h2,h3,h4,h5,h6,h7⟩
section
variable  {X:Cx}
def bK{k k':Nat}{f:Addr}{fd:FuncData}{ps:List Str}{F:FD}{x:Str}{e:Expr}{es:List Expr}{mA:MA}{p pos:Pos}(G:bu X.prog X.w X.K X.mg X.base jH k f fd ps (j8 X.K ps.length F))(hr:dX k' X.A)(hm:X.mg x=some (.ref f))(hk:PySem.W.keepIn X.K (.ref f)=true)(hb:Binds X.K fd ps [])(ha:JA X (e::es) mA)
  (hA:∀env st as st1,mA env st=.ok as st1->as.length=(e::es).length) (W4:k<=k':=by decide) (hlen:(e::es).length+([]:List V).length=ps.length:=by rfl) (hg:Gl X x:=by rfl) (xj:(x==("__debug__":Str))=false:=by decide) (he:starEach (e::es) X.env=(false,eval e X.env)::starEach es X.env:=by rfl) (qH:(backTo pos (starEach es X.env)).any (·.1)=false:=by rfl) :
  JE X (.Call (.Name x p) (e::es) [] pos) (aW F [] mA):=CJ (G.mono W4) hr hm hk hb .nil (λ_ _=>ao.nil) ha hlen hg xj he qH hA
def xW{o e:Expr}{mo:ME}{mA:MA}{apos fW:Pos}(ho:JE X o mo)(ha:JA X [e] mA)(zq:attributeBase o "append" X.env (eval o X.env)=eval o X.env:=by rfl)
  (K3:((backTo fW (starEach [e] X.env)).all (λx=>!x.1) && (backToKw fW (keywordEach [] X.env)).all (λx=>x.1.isSome)
   && decide ([e].length+([]:List Keyword).length+(if ([]:List Keyword).isEmpty then 0 else 1)<30))=true:=by rfl)
  (hline:(apos.endLine==fW.line)=true:=by rfl) (hs:starEach [e] X.env=(false,eval e X.env)::starEach [] X.env:=by rfl) (vY:(backTo fW (starEach [] X.env)).any (·.1)=false:=by rfl):JE X (.Call (.Attribute o "append" apos) [e] [] fW) (bM "list" aQ mo mA) :=
 Hd aft PySem.F.slot_list_append PySem.F.type_list_append zo7 ho ha zq K3 hline hs vY
end
end M
set_option maxHeartbeats 0
namespace Law
open PySem PySem.Spec L2 M
noncomputable def top(i:Nat):Stmt:=PySem.Challenge.pw_oneofall_k91_whole_counters_on_a_tape.main.body.getD i (.Pass ⟨0,0,0,0⟩)
noncomputable abbrev zd1:Stmt:=top 1
noncomputable abbrev zej:Stmt:=top 2
noncomputable abbrev zdl:Stmt:=(Dl (top 3)).getD 0 (.Pass ⟨0,0,0,0⟩)
noncomputable abbrev Yq:Stmt:=(Dl (top 3)).getD 1 (.Pass ⟨0,0,0,0⟩)
noncomputable abbrev Mx:Stmt:=top 6
noncomputable abbrev zc3:Stmt:=top 7
noncomputable abbrev Rk:Stmt:=top 9
noncomputable abbrev zfs:Stmt:=top 10
noncomputable abbrev zez:Stmt:=top 11
noncomputable abbrev zeg:Stmt:=top 12
noncomputable abbrev zer:Stmt:=top 13
noncomputable abbrev zci:Stmt:=top 14
noncomputable abbrev zek:Stmt:=top 15
noncomputable abbrev zdk:Stmt:=top 16
noncomputable abbrev zef:Stmt:=top 17
noncomputable abbrev zch:Stmt:=top 19
noncomputable abbrev zcq:Stmt:=top 20
noncomputable abbrev ze6:Stmt:=top 21
noncomputable abbrev zdj:Stmt:=top 22
noncomputable abbrev ze7:Stmt:=top 23
noncomputable abbrev zcw:Stmt:=top 24
noncomputable abbrev zdn:Stmt:=top 25
noncomputable abbrev zgs:Stmt:=top 27
noncomputable abbrev zi4:Stmt:=top 28
noncomputable abbrev zh5:Stmt:=top 29
noncomputable abbrev zff:Stmt:=top 30
noncomputable abbrev zle:Stmt:=top 31
noncomputable abbrev zjh:Stmt:=top 32
noncomputable abbrev zgn:Stmt:=top 33
noncomputable abbrev zfp:Stmt:=top 34
noncomputable abbrev zdr:Stmt:=top 35
noncomputable abbrev zlm:Stmt:=top 36
noncomputable abbrev Tz:Stmt:=top 37
noncomputable abbrev l_0:lO:=aa8 "tape_run" ["table"] (abV (Uk ((cB Mx).getD 1 (.Pass ⟨0,0,0,0⟩))) 0)
noncomputable def G_:Nat->lO
 | 0=>l_0
 | _=>RK
noncomputable def tabs:List (Str×Addr):=[("tape_run",59)]
noncomputable def zbf:MS :=
  (aG (bw 2 (bM "dict" zx (vr 0) (aj (bZ (aj (aM bz (vr 1) (ct (.int 0))) (aj (aM bz (vr 1) (ct (.int 2))) az))) az)))
  (aG (tB (oZ (aM jF (vr 2) (ct .non))) (retS (ct .non)) cR)
  (aG (bw 3 (aM bz (vr 1) (ct (.int 1))))
  (aG (bw 4 (aM bz (vr 1) (ct (.int 3))))
  (aG (tB (oZ (aM (tR 200) (aM bz (vr 2) (ct (.int 3))) (ct (.str [108])))) (retS (bZ (aj (aM bz (vr 2) (ct (.int 4))) (aj (yd (vr 3) yS (xO (yj qd (ct (.int 1))))) (aj (orS (yd (vr 3) (xO (yj qd (ct (.int 1)))) yS) (ct (.str [95]))) (aj (aM bH (aM bz (vr 2) (ct (.int 2))) (vr 4)) az)))))) cR)
  (retS (bZ (aj (aM bz (vr 2) (ct (.int 4))) (aj (aM bH (vr 3) (aM bz (vr 2) (ct (.int 2)))) (aj (orS (yd (vr 4) yS (xO (ct (.int 1)))) (ct (.str [95]))) (aj (yd (vr 4) (xO (ct (.int 1))) yS) az)))))))))))
noncomputable def zca:FD:=jP (eF 5 zbf)
noncomputable def e_0:ME :=
  (aW zca [] (aj (vr 0) (aj (vr 1) az)))
noncomputable def GL:Nat->FD
 | 0=>FQ 2 e_0
 | _=>λ_ _=>.bad
noncomputable def zce:MS :=
  (aG (bw 3 (eO (aj (vr 1) az)))
  (aG (dq (oZ (aM leV (bL cO (aj (vr 3) az)) (vr 2))) (aG (bw 4 (callC G_ GL 0 (aj (aM bz (vr 3) (yj qd (ct (.int 1)))) az)))
  (aG (tB (oZ (aM jF (vr 4) (ct .non))) (retS (vr 3)) cR)
  (cF (bM "list" aQ (vr 3) (aj (vr 4) az))))))
  (retS (vr 3))))
noncomputable def zcd:FD:=jP (eF 5 zce)
noncomputable def zcp:MS :=
  (aG (bw 1 wu)
  (aG (jT (rR (vr 0)) (aK 2) (cF (bM "dict" rN (vr 1) (aj (bZ (aj (aM bz (vr 2) (ct (.int 0))) (aj (aM bz (vr 2) (ct (.int 1))) az))) (aj (vr 2) az)))))
  (retS (vr 1))))
noncomputable def zdg:FD:=jP (eF 3 zcp)
noncomputable def Yl:MS :=
  (aG (vH "Numbers" "first" (vr 0) (vr 1))
  (vH "Numbers" "given" (vr 0) wu))
noncomputable def Nt:FD:=qI (eF 2 Yl)
noncomputable def Mz:MS :=
  (aG (tB (oZ (aM (vp true) (vr 1) (j6 "Numbers" "given" (vr 0)))) (iV (aM bH (j6 "Numbers" "first" (vr 0)) (bL cO (aj (j6 "Numbers" "given" (vr 0)) az))) (qT jd (j6 "Numbers" "given" (vr 0)) (vr 1))) cR)
  (retS (aM Kz (j6 "Numbers" "given" (vr 0)) (vr 1))))
noncomputable def DR:FD:=qI (eF 2 Mz)
noncomputable def Yk:MS :=
  (aG (bw 3 (aW zdg [] (aj (vr 0) az)))
  (retS (wC G_ zcd [] (Ae 0 [3] 1 "tape_run" (u9 (vr 1) (u9 (vr 2) JN))))))
noncomputable def Yi:FD:=jP (eF 4 Yk)
noncomputable def zdu:MS :=
  (aG (bw 2 (aM bz (vr 0) (ct (.int 1))))
  (aG (tB (oZ (aM (tR 200) (vr 2) (ct (.str [])))) (retS (bZ (aj (aM bz (vr 0) (ct (.int 0))) (aj (aM qX (ct (.str [95])) (vr 1)) (aj (ct (.str [95])) (aj (ct (.str [])) az)))))) cR)
  (aG (bw 3 (ifE (oZ (aM QB (vr 1) (ct (.int 0)))) (ct (.str [95])) (ct (.str []))))
  (retS (bZ (aj (aM bz (vr 0) (ct (.int 0))) (aj (aM qX (ct (.str [95])) (vr 1)) (aj (aM bz (vr 2) (ct (.int 0))) (aj (aM bH (yd (vr 2) (xO (ct (.int 1))) yS) (vr 3)) az)))))))))
noncomputable def zdb:FD:=jP (eF 4 zdu)
noncomputable def zds:MS :=
  (aG (bw 2 (bM "str" tY (aM bH (aM bz (vr 1) (ct (.int 2))) (aM bz (vr 1) (ct (.int 3)))) (aj (ct (.str [95])) az)))
  (aG (tB (YC (oZ (aM QB (aM bz (vr 1) (ct (.int 0))) (vr 0))) (oZ (aM KH (ct (.str [95])) (vr 2)))) (retS (ct .non)) cR)
  (retS (bZ (aj (aM bz (vr 1) (ct (.int 0))) (aj (vr 2) az))))))
noncomputable def Ro:FD:=jP (eF 3 zds)
noncomputable def zcu:MS :=
  (aG (bw 1 dkE)
  (aG (jT (Gx (vr 0)) (aK 2) (iV (ct (.bl true)) (qT wV (vr 1) (aM bz (vr 2) (ct (.int 1))))))
  (retS (vr 1))))
noncomputable def Uc:FD:=jP (eF 3 zcu)
noncomputable def Yo:MS :=
  (retS (lF [some 0,some 2,none] (N6 (vr 1)) (aK 2) wR (bZ (aj (vr 0) (aj (vr 2) (aj (vr 2) (aj (vr 1) (aj (vr 0) az))))))))
noncomputable def Ud:FD:=jP (eF 3 Yo)
noncomputable def Yj:MS :=
  (retS (jM "Numbers" "number" DR (vr 0) (aj (bZ (aj (ct (.str [98,97,99,107])) (aj (vr 1) az))) az)))
noncomputable def Rp:FD:=qI (eF 2 Yj)
noncomputable def Rm:MS :=
  (retS (jM "Numbers" "number" DR (vr 0) (aj (bZ (aj (ct (.str [103,114,111,119])) (aj (vr 1) (aj (vr 2) az)))) az)))
noncomputable def Hz:FD:=qI (eF 3 Rm)
noncomputable def zby:MS :=
  (aG (bw 3 (aW Hz [] (aj (vr 0) (aj (vr 1) (aj (vr 2) az)))))
  (aG (tB (oZ (aM (tR 200) (vr 1) (ct (.str [])))) (retS (bZ (aj (vr 3) (aj (ct (.str [95])) (aj (ct (.str [95])) (aj (ct (.str [108])) (aj (aW Rp [] (aj (vr 0) (aj (vr 2) az))) az))))))) cR)
  (retS (bZ (aj (vr 3) (aj (ct (.str [95])) (aj (aM bz (vr 1) (ct (.int 0))) (aj (ct (.str [114])) (aj (aW Hz [] (aj (vr 0) (aj (yd (vr 1) (xO (ct (.int 1))) yS) (aj (vr 2) az)))) az)))))))))
noncomputable def Ym:FD:=qI (eF 4 zby)
noncomputable def zct:MS :=
  (aG (bw 1 wu)
  (aG (jT (Gx (vr 0)) (aK 2) (jT (iK (aj (aM bH (bL cO (aj (aM bz (vr 2) (ct (.int 0))) az)) (ct (.int 1))) az)) (aK 3) (iV (ct (.bl true)) (qT jd (vr 1) (bZ (aj (yd (aM bz (vr 2) (ct (.int 0))) (xO (vr 3)) yS) (aj (aM bz (vr 2) (ct (.int 1))) az)))))))
  (retS (vr 1))))
noncomputable def zde:FD:=jP (eF 4 zct)
noncomputable def zda:MS :=
  (aG (bw 3 (qz "Numbers" Nt (aj (aM bH (vr 2) (ct (.int 1))) az)))
  (aG (bw 4 (eO az))
  (aG (bw 5 wu)
  (aG (jT (rR (vr 0)) (aK 6) (aG (iV (ct (.bl true)) (qT jd (vr 5) (bZ (aj (aM bz (vr 6) (ct (.int 2))) (aj (aM bz (vr 6) (ct (.int 3))) az)))))
  (cF (bM "list" aQ (vr 4) (aj (bZ (aj (aM bz (vr 6) (ct (.int 0))) (aj (aM bz (vr 6) (ct (.int 1))) (aj (ct (.str [95])) (aj (ct (.str [114])) (aj (aW Hz [] (aj (vr 3) (aj (aM bz (vr 6) (ct (.int 2))) (aj (aM bz (vr 6) (ct (.int 3))) az)))) az)))))) az)))))
  (aG (jT (Gx (vr 5)) (aK 7) (aG (bw 8 (aW Hz [] (aj (vr 3) (aj (aM bz (vr 7) (ct (.int 0))) (aj (aM bz (vr 7) (ct (.int 1))) az)))))
  (cF (bM "list" eG (vr 4) (aj (aW Ud [] (aj (vr 8) (aj (vr 1) (aj (ct (.str [114])) az)))) az)))))
  (aG (bw 9 (aW zde [] (aj (vr 5) az)))
  (aG (jT (Gx (vr 9)) (aK 10) (cF (bM "list" aQ (vr 4) (aj (aW Ym [] (aj (vr 3) (aj (aM bz (vr 10) (ct (.int 0))) (aj (aM bz (vr 10) (ct (.int 1))) az)))) az))))
  (aG (jT (Xp (aW Uc [] (aj (vr 5) az))) (aK 11) (aG (bw 8 (aW Rp [] (aj (vr 3) (aj (vr 11) az))))
  (aG (cF (bM "list" eG (vr 4) (aj (aW Ud [] (aj (vr 8) (aj (vr 1) (aj (ct (.str [108])) az)))) az)))
  (cF (bM "list" aQ (vr 4) (aj (bZ (aj (vr 8) (aj (ct (.str [95])) (aj (ct (.str [95])) (aj (ct (.str [114])) (aj (vr 11) az)))))) az))))))
  (retS (vr 4))))))))))
noncomputable def zc7:FD:=jP (eF 12 zda)
noncomputable def Yp:MS :=
  (retS (bZ (aj (aM bz (vr 0) (ct (.int 0))) (aj (aM bH (ct (.str [98])) (bM "str" xN (ct (.str [])) (aj (lF [none] (rR (aM bz (vr 0) (ct (.int 1)))) (aK 0) wR (aM bH (aM qX (ct (.str [105])) (vr 0)) (ct (.str [101])))) az))) az))))
noncomputable def Yn:FD:=jP (eF 1 Yp)
noncomputable def zb1:MS :=
  (aG (bw 3 (bM "str" uB (yd (aM bz (vr 2) (ct (.int 1))) (xO (ct (.int 1))) yS) (aj (ct (.str [101])) az)))
  (aG (bw 4 (bL jQ (aj (lF [none] (rR (yd (vr 3) yS (xO (yj qd (ct (.int 1)))))) (aK 0) wR (bL cO (aj (vr 0) az))) az)))
  (aG (bw 5 (bZ (aj (aM bz (vr 2) (ct (.int 0))) (aj (vr 4) az))))
  (aG (tB (YC (oZ (aM QB (aM bz (vr 2) (ct (.int 0))) (vr 0))) (YC (oZ (aM (z_ 200) (bL cO (aj (vr 4) az)) (vr 1))) (oZ (aM (z_ 200) (aW Yn [] (aj (vr 5) az)) (vr 2))))) (retS (ct .non)) cR)
  (retS (vr 5))))))
noncomputable def zbz:FD:=jP (eF 6 zb1)
noncomputable def Ri:MS :=
  (aG (tB (oZ (aM (tR 200) (vr 2) (vr 3))) (retS (vr 1)) cR)
  (retS (jM "Numbers" "number" DR (vr 0) (aj (bZ (aj (ct (.str [101,110,100])) (aj (vr 1) (aj (vr 2) az)))) az))))
noncomputable def Rj:FD:=qI (eF 4 Ri)
noncomputable def zb6:MS :=
  (aG (bw 4 (eO az))
  (aG (jT (yf (aj (vr 2) (aj (vr 3) az))) (aK 5) (aG (bw 6 (aW Rj [] (aj (vr 0) (aj (vr 1) (aj (vr 5) (aj (vr 3) az))))))
  (aG (cF (bM "list" aQ (vr 4) (aj (bZ (aj (vr 6) (aj (ct (.str [105])) (aj (ct (.str [105])) (aj (vr 6) az))))) az)))
  (cF (bM "list" aQ (vr 4) (aj (bZ (aj (vr 6) (aj (ct (.str [101])) (aj (ct (.str [101])) (aj (aW Rj [] (aj (vr 0) (aj (vr 1) (aj (aM bH (vr 5) (ct (.int 1))) (aj (vr 3) az))))) az))))) az))))))
  (retS (vr 4))))
noncomputable def zb5:FD:=qI (eF 7 zb6)
noncomputable def zbj:MS :=
  (aG (bw 1 dkE)
  (aG (jT (rR (vr 0)) (aK 2) (aG (iV (bL sJ (aj (bM "dict" v5 (vr 1) (aj (aM bz (vr 2) (ct (.int 2))) (aj (aM bz (vr 2) (ct (.int 1))) az))) (aj (aM bz (vr 2) (ct (.int 1))) az))) (qT wV (vr 1) (aM bz (vr 2) (ct (.int 2)))))
  (tB (oZ (aM (tR 200) (aM bz (vr 2) (ct (.int 0))) (ct (.str [100,111,119,110])))) (iV (bL sJ (aj (bM "dict" v5 (vr 1) (aj (aM bz (vr 2) (ct (.int 3))) (aj (aM bH (aM bz (vr 2) (ct (.int 1))) (ct (.int 1))) az))) (aj (aM bH (aM bz (vr 2) (ct (.int 1))) (ct (.int 1))) az))) (qT wV (vr 1) (aM bz (vr 2) (ct (.int 3))))) cR)))
  (retS (vr 1))))
noncomputable def zb9:FD:=jP (eF 3 zbj)
noncomputable def zb7:MS :=
  (aG (bw 4 (eO az))
  (aG (bw 5 (vr 1))
  (aG (bw 6 (ct (.str [98])))
  (aG (jT (iK (aj (aM bz (vr 2) (ct (.int 1))) az)) (aK 7) (aG (bw 8 (jM "Numbers" "number" DR (vr 0) (aj (bZ (aj (ct (.str [97,104,101,97,100])) (aj (vr 1) (aj (vr 7) az)))) az)))
  (aG (cF (bM "list" aQ (vr 4) (aj (bZ (aj (vr 5) (aj (vr 6) (aj (vr 6) (aj (vr 8) az))))) az)))
  (aG (cF (bM "list" aQ (vr 4) (aj (bZ (aj (vr 8) (aj (ct (.str [105])) (aj (ct (.str [105])) (aj (vr 8) az))))) az)))
  (aG (bw 5 (vr 8))
  (bw 6 (ct (.str [101]))))))))
  (aG (bw 9 (aW Rj [] (aj (vr 0) (aj (aM bz (vr 2) (ct (.int 2))) (aj (aM bz (vr 2) (ct (.int 1))) (aj (vr 3) az))))))
  (aG (tB (oZ (aM (tR 200) (aM bz (vr 2) (ct (.int 0))) (ct (.str [117,112])))) (aG (cF (bM "list" aQ (vr 4) (aj (bZ (aj (vr 5) (aj (vr 6) (aj (aM bH (vr 6) (ct (.str [105]))) (aj (vr 9) az))))) az)))
  (retS (vr 4))) cR)
  (aG (bw 10 (jM "Numbers" "number" DR (vr 0) (aj (bZ (aj (ct (.str [97,115,107])) (aj (vr 1) az))) az)))
  (aG (cF (bM "list" aQ (vr 4) (aj (bZ (aj (vr 5) (aj (vr 6) (aj (vr 6) (aj (vr 10) az))))) az)))
  (aG (cF (bM "list" aQ (vr 4) (aj (bZ (aj (vr 10) (aj (ct (.str [105])) (aj (ct (.str [])) (aj (vr 9) az))))) az)))
  (aG (cF (bM "list" aQ (vr 4) (aj (bZ (aj (vr 10) (aj (ct (.str [101])) (aj (ct (.str [101])) (aj (aW Rj [] (aj (vr 0) (aj (aM bz (vr 2) (ct (.int 3))) (aj (aM bH (aM bz (vr 2) (ct (.int 1))) (ct (.int 1))) (aj (vr 3) az))))) az))))) az)))
  (retS (vr 4))))))))))))
noncomputable def zb8:FD:=qI (eF 11 zb7)
noncomputable def zc9:MS :=
  (aG (bw 2 (qz "Numbers" Nt (aj (aM bH (bL cO (aj (vr 0) az)) (ct (.int 1))) az)))
  (aG (bw 3 (eO az))
  (aG (jT (wg (aj (vr 0) az)) (oF 2 (bQ (aK 4) (bQ (aK 5) o4))) (cF (bM "list" eG (vr 3) (aj (aW zb8 [] (aj (vr 2) (aj (vr 4) (aj (vr 5) (aj (vr 1) az))))) az))))
  (aG (bw 6 (aW zb9 [] (aj (vr 0) az)))
  (aG (jT (Xp (vr 6)) (aK 7) (cF (bM "list" eG (vr 3) (aj (aW zb5 [] (aj (vr 2) (aj (vr 7) (aj (aM Wk (vr 6) (vr 7)) (aj (vr 1) az))))) az))))
  (retS (vr 3)))))))
noncomputable def zd0:FD:=jP (eF 8 zc9)
noncomputable def T9:MS :=
  (aG (tB (oZ (aM ltV (vr 1) (bL cO (aj (vr 0) az)))) (retS (aM bz (vr 0) (vr 1))) cR)
  (retS (ct (.int 0))))
noncomputable def Rg:FD:=jP (eF 2 T9)
noncomputable def Hi:MS :=
  (aG (bw 2 (aM bH (aM bH (aM eU (vr 0) (ct (.int 1000000007))) (aM jR (ct (.int 7919)) (vr 1))) (ct (.int 13))))
  (retS (aM eV (aM eU (aM jR (vr 2) (vr 2)) (ct (.int 998244353))) (ct (.int 3)))))
noncomputable def yQ:FD:=jP (eF 3 Hi)
noncomputable def ze1:MS :=
  (aG (bw 4 (aM eV (vr 0) (ct (.int 2))))
  (aG (bw 5 (aM bH (vr 3) (ct (.int 1))))
  (aG (bw 6 (eO (aj (aM eU (vr 4) (ct (.int 2))) (aj (aM eU (aM eV (vr 4) (ct (.int 2))) (vr 2)) (aj (aM eU (aM eV (aM eV (vr 4) (ct (.int 2))) (vr 2)) (vr 5)) (aj (aM eU (aM eV (aM eV (aM eV (vr 4) (ct (.int 2))) (vr 2)) (vr 5)) (vr 5)) az))))))
  (aG (tB (oZ (aM (tR 200) (aM eU (vr 0) (ct (.int 2))) (ct (.int 1)))) (aG (bw 6 (eO (aj (bL yt (aj (aM QB (aM eU (aM eV (aW yQ [] (aj (vr 0) (aj (aM jR (ct (.int 5)) (vr 1)) az))) (ct (.int 3))) (ct (.int 5))) (ct (.int 1))) az)) (aj (aM eU (aW yQ [] (aj (vr 0) (aj (aM bH (aM jR (ct (.int 5)) (vr 1)) (ct (.int 1))) az))) (vr 2)) az))))
  (aG (bw 6 (aM bH (vr 6) (eO (aj (aM eU (aW yQ [] (aj (vr 0) (aj (aM bH (aM jR (ct (.int 5)) (vr 1)) (ct (.int 2))) az))) (vr 5)) (aj (aM eU (aW yQ [] (aj (vr 0) (aj (aM bH (aM jR (ct (.int 5)) (vr 1)) (ct (.int 3))) az))) (vr 5)) az)))))
  (tB (oZ (aM (tR 200) (aM eU (aW yQ [] (aj (vr 0) (aj (aM jR (ct (.int 5)) (vr 1)) az))) (ct (.int 3))) (ct (.int 0)))) (iV (bL sJ (aj (aM bH (vr 1) (ct (.int 1))) (aj (vr 3) az))) (qT vL (vr 6) (ct (.int 2)))) cR))) cR)
  (aG (tB (oZ (aM (tR 200) (aM bz (vr 6) (ct (.int 0))) (ct (.int 0)))) (retS (bZ (aj (ct (.str [117,112])) (aj (aM bz (vr 6) (ct (.int 1))) (aj (aM bz (vr 6) (ct (.int 2))) az))))) cR)
  (retS (bZ (aj (ct (.str [100,111,119,110])) (aj (aM bz (vr 6) (ct (.int 1))) (aj (aM bz (vr 6) (ct (.int 2))) (aj (aM bz (vr 6) (ct (.int 3))) az)))))))))))
noncomputable def ze4:FD:=jP (eF 7 ze1)
noncomputable def zd5:MS :=
  (retS (lF [some 1,some 0,none,none] (wg (aj (vr 0) az)) (oF 2 (bQ (aK 2) (bQ (aK 3) o4))) wR (aW ze4 [] (aj (vr 3) (aj (vr 2) (aj (vr 0) (aj (bL cO (aj (vr 1) az)) az)))))))
noncomputable def zed:FD:=jP (eF 2 zd5)
noncomputable def TF:MS :=
  (aG (iV (vr 1) (oF 2 (bQ (aK 2) (bQ (aK 3) o4))))
  (aG (tB (oZ (aM (tR 200) (vr 2) (bL cO (aj (vr 0) az)))) (retS (ct .non)) cR)
  (aG (bw 4 (aM bz (vr 0) (vr 2)))
  (aG (bw 5 (bL Cq (aj (vr 3) az)))
  (aG (tB (Xz (oZ (aM (tR 200) (aM bz (vr 4) (ct (.int 0))) (ct (.str [100,111,119,110])))) (oZ (aM (tR 200) (aM bz (vr 5) (aM bz (vr 4) (ct (.int 1)))) (ct (.int 0))))) (retS (bZ (aj (aM bz (vr 4) (ct (.int 3))) (aj (bL jQ (aj (vr 5) az)) az)))) cR)
  (aG (iV (aM bH (aM bz (vr 5) (aM bz (vr 4) (ct (.int 1)))) (aM bz (eO (aj (aM z7 (ct (.int 0)) (ct (.int 1))) (aj (ct (.int 1)) az))) (bL yt (aj (aM (tR 200) (aM bz (vr 4) (ct (.int 0))) (ct (.str [117,112]))) az)))) (qT vL (vr 5) (aM bz (vr 4) (ct (.int 1)))))
  (retS (bZ (aj (aM bz (vr 4) (ct (.int 2))) (aj (bL jQ (aj (vr 5) az)) az))))))))))
noncomputable def Np:FD:=jP (eF 6 TF)
noncomputable def zfu:MS :=
  (aG (bw 4 (aM eU (aM eV (vr 0) (ct (.int 4))) (aM bH (vr 2) (ct (.int 1)))))
  (aG (bw 5 (vr 3))
  (aG (bw 6 (aM eV (aM eV (vr 0) (ct (.int 4))) (aM bH (vr 2) (ct (.int 1)))))
  (aG (tB (oZ (aM (tR 200) (aM eU (vr 0) (ct (.int 2))) (ct (.int 1)))) (bw 4 (aM eU (aW yQ [] (aj (vr 0) (aj (ct (.int 90)) az))) (aM bH (vr 2) (ct (.int 1))))) cR)
  (aG (bw 7 (eO az))
  (aG (jT (iK (aj (vr 1) az)) (aK 8) (aG (bw 9 (aM eU (vr 6) (aM bH (vr 5) (ct (.int 1)))))
  (aG (bw 6 (aM eV (vr 6) (aM bH (vr 5) (ct (.int 1)))))
  (aG (tB (oZ (aM (tR 200) (aM eU (vr 0) (ct (.int 2))) (ct (.int 1)))) (bw 9 (aM eU (aW yQ [] (aj (vr 0) (aj (aM bH (ct (.int 91)) (vr 8)) az))) (aM bH (ct (.int 1)) (vr 5)))) cR)
  (aG (cF (bM "list" aQ (vr 7) (aj (vr 9) az)))
  (bw 5 (aM z7 (vr 5) (vr 9))))))))
  (retS (bZ (aj (vr 4) (aj (bL jQ (aj (vr 7) az)) az))))))))))
noncomputable def Z_:FD:=jP (eF 10 zfu)
noncomputable def ze3:MS :=
  (aG (bw 2 (lF [none] (iK (aj (vr 1) az)) (aK 0) wR (aW yQ [] (aj (vr 0) (aj (ct (.int 70)) az)))))
  (aG (jT (wg (aj (yd (vr 0) (xO (ct (.int 2))) (xO (ct (.int 64)))) az)) (oF 2 (bQ (aK 3) (bQ (aK 4) o4))) (iV (aM eU (aM bH (aM jR (aM bz (vr 2) (aM eU (vr 3) (vr 1))) (ct (.int 69621))) (vr 4)) (ct (.int 2147483647))) (qT vL (vr 2) (aM eU (vr 3) (vr 1)))))
  (retS (vr 2))))
noncomputable def zfv:FD:=jP (eF 5 ze3)
noncomputable def zdo:MS :=
  (aG (bw 3 wu)
  (aG (jT (rR (vr 0)) (oF 4 (bQ (aK 4) (bQ (aK 5) (bQ (aK 6) (bQ (aK 7) o4))))) (iV (bZ (aj (vr 6) (aj (vr 7) az))) (qT jd (vr 3) (bZ (aj (vr 4) (aj (vr 5) az))))))
  (aG (bw 8 (eO (aj (vr 1) az)))
  (aG (bw 9 (eO (aj (ct (.int 0)) az)))
  (aG (jT (rR (vr 2)) (aK 10) (jT (iK (aj (vr 10) az)) (aK 11) (aG (iV (aM bz (vr 8) (yj qd (ct (.int 1)))) (oF 2 (bQ (aK 4) (bQ (aK 12) o4))))
  (aG (tB (oZ (aM (vp true) (bZ (aj (vr 4) (aj (yd (vr 12) yS (xO (ct (.int 1)))) az))) (vr 3))) (retS (bZ (aj (eO az) (aj (eO az) az)))) cR)
  (aG (iV (aM Kz (vr 3) (bZ (aj (vr 4) (aj (yd (vr 12) yS (xO (ct (.int 1)))) az)))) (oF 2 (bQ (aK 6) (bQ (aK 7) o4))))
  (aG (cF (bM "list" aQ (vr 9) (aj (aM bH (aM bH (aM bH (aM bz (vr 9) (yj qd (ct (.int 1)))) (aM jR (ct (.int 2)) (bL cO (aj (vr 12) az)))) (aM jR (ct (.int 2)) (bL cO (aj (vr 6) az)))) (ct (.int 1))) az)))
  (cF (bM "list" aQ (vr 8) (aj (bZ (aj (vr 7) (aj (aM bH (yd (vr 12) (xO (ct (.int 1))) yS) (vr 6)) az))) az)))))))))
  (retS (bZ (aj (vr 8) (aj (vr 9) az)))))))))
noncomputable def zei:FD:=jP (eF 13 zdo)
noncomputable def zb3:MS :=
  (aG (bw 2 (eO (aj (vr 1) az)))
  (aG (bw 3 (eO az))
  (aG (bw 4 (ct (.int 0)))
  (aG (dq (oZ (aM ltV (vr 4) (ct (.int 600)))) (aG (bw 5 (aW Np [] (aj (vr 0) (aj (aM bz (vr 2) (yj qd (ct (.int 1)))) az))))
  (aG (tB (oZ (aM jF (vr 5) (ct .non))) Xw cR)
  (aG (bw 6 (aM bH (aM bH (ct (.int 1)) (bL cO (aj (aM bz (vr 1) (ct (.int 1))) az))) (bL Ie (aj (aM bz (aM bz (vr 2) (yj qd (ct (.int 1)))) (ct (.int 1))) az))))
  (aG (cF (bM "list" aQ (vr 3) (aj (vr 6) az)))
  (aG (bw 4 (aM bH (vr 4) (aM jR (vr 6) (aM bH (aM jR (ct (.int 2)) (vr 6)) (ct (.int 3))))))
  (cF (bM "list" aQ (vr 2) (aj (vr 5) az)))))))))
  (retS (bZ (aj (vr 2) (aj (vr 3) az))))))))
noncomputable def zcs:FD:=jP (eF 7 zb3)
noncomputable def ZQ:MS :=
  (aG (bw 3 (eO az))
  (aG (jT (rR (vr 2)) (aK 4) (aG (bw 5 (aW zbz [] (aj (bL cO (aj (vr 0) az)) (aj (vr 1) (aj (vr 4) az)))))
  (tB (oZ (aM jL (vr 5) (ct .non))) (cF (bM "list" aQ (vr 3) (aj (vr 5) az))) cR)))
  (retS (vr 3))))
noncomputable def zi5:FD:=jP (eF 6 ZQ)
noncomputable def V3:MS :=
  (aG (bw 11 (bL vO (aj (aM bH (eO (aj (bL cO (aj (vr 3) az)) az)) (lF [none] (rR (vr 8)) (aK 0) wR (bL vO (aj (aM bz (vr 0) (ct (.int 0))) (aj (aM bz (vr 0) (ct (.int 3))) az))))) az)))
  (aG (bw 12 (aW zc7 [] (aj (vr 8) (aj (ct (.str [98,101,105])) (aj (vr 11) az)))))
  (aG (bw 13 (aW Yi [] (aj (vr 12) (aj (aW zdb [.int 0] (aj (aM bz (vr 9) (ct (.int 0))) az)) (aj (aM bz (vr 10) (yj qd (ct (.int 1)))) az)))))
  (aG (tB (oZ (aM (z_ 200) (bL cO (aj (vr 13) az)) (aM bH (aM bz (vr 10) (yj qd (ct (.int 1)))) (ct (.int 1))))) (retS (ct (.bl false))) cR)
  (aG (bw 14 (eO az))
  (aG (jT (wg (aj (vr 13) az)) (oF 2 (bQ (aK 15) (bQ (aK 16) o4))) (aG (bw 17 (aW Ro [] (aj (vr 11) (aj (vr 16) az))))
  (tB (oZ (aM jL (vr 17) (ct .non))) (cF (bM "list" aQ (vr 14) (aj (bZ (aj (vr 15) (aj (vr 17) az))) az))) cR)))
  (aG (tB (oZ (aM (z_ 200) (vr 14) (t6 (aj (vr 10) (aj (vr 9) az))))) (retS (ct (.bl false))) cR)
  (aG (tB (oZ (aM jF (aW Np [] (aj (vr 3) (aj (aM bz (vr 6) (yj qd (ct (.int 1)))) az))) (ct .non))) (retS (aM (tR 200) (aW Yi [] (aj (vr 12) (aj (aM bz (vr 13) (yj qd (ct (.int 1)))) (aj (ct (.int 5)) az)))) (eO (aj (aM bz (vr 13) (yj qd (ct (.int 1)))) az)))) cR)
  (retS (ct (.bl true)))))))))))
noncomputable def zmp:MS :=
  (aG (bw 1 (aM bH (ct (.int 1)) (aM eU (aW Rg [] (aj (vr 0) (aj (ct (.int 0)) az))) (ct (.int 6)))))
  (aG (bw 2 (aM bH (ct (.int 1)) (aM eU (aM eV (aW Rg [] (aj (vr 0) (aj (ct (.int 0)) az))) (ct (.int 6))) (bL sJ (aj (ct (.int 20)) (aj (aM eV (ct (.int 200)) (aM bH (aM jR (ct (.int 4)) (vr 1)) (ct (.int 1)))) az))))))
  (aG (bw 3 (aW zed [] (aj (aW zfv [] (aj (vr 0) (aj (vr 2) az))) (aj (vr 1) az))))
  (aG (bw 4 (aW Rg [] (aj (vr 0) (aj (ct (.int 1)) az))))
  (aG (bw 5 (aW Z_ [] (aj (vr 4) (aj (vr 1) (aj (vr 2) (aj (aM bz (eO (aj (ct (.int 60)) (aj (ct (.int 6)) az))) (bL yt (aj (aM QB (aM eU (vr 4) (ct (.int 4))) (ct (.int 0))) az))) az))))))
  (aG (iV (aW zcs [] (aj (vr 3) (aj (vr 5) az))) (oF 2 (bQ (aK 6) (bQ (aK 7) o4))))
  (aG (bw 8 (aW zd0 [] (aj (vr 3) (aj (vr 1) az))))
  (aG (iV (aW zei [] (aj (vr 8) (aj (aW Yn [] (aj (vr 5) az)) (aj (vr 7) az)))) (oF 2 (bQ (aK 9) (bQ (aK 10) o4))))
  (aG (tB (YC (oZ (aM (tR 200) (vr 9) (eO az))) (oZ (aM (z_ 200) (aW zi5 [] (aj (vr 3) (aj (vr 1) (aj (vr 9) az)))) (vr 6)))) (retS (ct (.bl false))) cR)
  V3)))))))))
noncomputable def zkp:FD:=jP (eF 18 zmp)
set_option genInjectivity false in
structure Adr where
 jV:Addr
 jU:FuncData
 lJ:Addr
 lC:FuncData
 jA:Addr
 jm:FuncData
 iC:Addr
 iu:FuncData
 qp:Addr
 j7:FuncData
 iz:Addr
 ig:FuncData
 oR:Addr
 jG:FuncData
 qt:Addr
 qj:FuncData
 oU:Addr
 oJ:FuncData
 lK:Addr
 lD:FuncData
 lL:Addr
 lE:FuncData
 iW:Addr
 iT:FuncData
 lG:Addr
 lA:FuncData
 jy:Addr
 jk:FuncData
 lH:Addr
 lB:FuncData
 iY:Addr
 iU:FuncData
 jz:Addr
 jl:FuncData
 oV:Addr
 oK:FuncData
 jx:Addr
 ji:FuncData
 oW:Addr
 oM:FuncData
 iB:Addr
 il:FuncData
 jw:Addr
 jh:FuncData
 rJ:Addr
 rE:FuncData
 uU:Addr
 uP:FuncData
 tH:Addr
 tE:FuncData
 rH:Addr
 rD:FuncData
 wG:Addr
 wz:FuncData
 uT:Addr
 uO:FuncData
 tL:Addr
 tG:FuncData
 qu:Addr
 qm:FuncData
 jB:Addr
 jo:FuncData
 wF:Addr
 wy:FuncData
 yL:Addr
 yJ:FuncData
 ju:Addr
structure Txt(K:PySem.W.Frag)(mg:Str->Option Value)(base:Heap)(A:Adr):Prop where
 hB:BMain mg base
 qG:fL K "stands_from" "stands_from" zd1 A.jV A.jU
 vm:mg "stands_from" = some (.ref A.jV)
 zce:Binds K A.jU ["step","stand","most"] []
 rB:fL K "rule_table" "rule_table" zej A.lJ A.lC
 vU:mg "rule_table" = some (.ref A.lJ)
 zcp:Binds K A.lC ["rules"] []
 uN:fL K "__init__" "Numbers.__init__" zdl A.jA A.jm
 o6:Mk K A.ju A.jA
 Yl:Binds K A.jm ["self","first"] []
 tD:fL K "number" "Numbers.number" Yq A.iC A.iu
 cT:Meth K A.ju "number" A.iC
 Mz:Binds K A.iu ["self","key"] []
 qi:Mm K "tape_run" Mx A.qp A.j7
 tZ:mg "tape_run" = some (.ref A.qp)
 Yk:Binds K A.j7 ["rules","stand","most"] []
 M_:∃t,Binds K A.j7 ["rules","stand","most"] [.int 100 t]
 lr:fL K "moved_by_table" "moved_by_table" zc3 A.iz A.ig
 sX:mg "moved_by_table" = some (.ref A.iz)
 zbf:Binds K A.ig ["table","stand"] []
 sO:XS K "row_image" "row_image" Rk A.oR A.jG
 wW:mg "row_image" = some (.ref A.oR)
 zdu:Binds K A.jG ["stand","k"] []
 wD:∃t,Binds K A.jG ["stand","k"] [.int 0 t]
 ud:fL K "row_told" "row_told" zfs A.qt A.qj
 yo:mg "row_told" = some (.ref A.qt)
 zds:Binds K A.qj ["top","stand"] []
 sS:fL K "make_tape" "make_tape" zez A.oU A.oJ
 wX:mg "make_tape" = some (.ref A.oU)
 zda:Binds K A.oJ ["rules","signs","top"] []
 eY:fL K "grow_state" "grow_state" zeg A.lK A.lD
 iM:mg "grow_state" = some (.ref A.lK)
 Rm:Binds K A.lD ["numbers","word","target"] []
 lz:fL K "back_state" "back_state" zer A.lL A.lE
 qY:mg "back_state" = some (.ref A.lL)
 Yj:Binds K A.lE ["numbers","target"] []
 iQ:fL K "passing_rules" "passing_rules" zci A.iW A.iT
 lX:mg "passing_rules" = some (.ref A.iW)
 Yo:Binds K A.iT ["state","signs","move"] []
 rn:fL K "words_left" "words_left" zek A.lG A.lA
 vP:mg "words_left" = some (.ref A.lG)
 zct:Binds K A.lA ["walks"] []
 pY:fL K "growing_rule" "growing_rule" zdk A.jy A.jk
 uE:mg "growing_rule" = some (.ref A.jy)
 zby:Binds K A.jk ["numbers","word","target"] []
 rA:fL K "targets_of" "targets_of" zef A.lH A.lB
 vQ:mg "targets_of" = some (.ref A.lH)
 zcu:Binds K A.lB ["walks"] []
 iR:fL K "counter_image" "counter_image" zch A.iY A.iU
 lY:mg "counter_image" = some (.ref A.iY)
 Yp:Binds K A.iU ["stand"] []
 pZ:fL K "counter_told" "counter_told" zcq A.jz A.jl
 uF:mg "counter_told" = some (.ref A.jz)
 zb1:Binds K A.jl ["size","many","stand"] []
 sU:fL K "make_rows" "make_rows" ze6 A.oV A.oK
 wY:mg "make_rows" = some (.ref A.oV)
 zc9:Binds K A.oK ["program","many"] []
 pX:fL K "rules_of_row" "rules_of_row" zdj A.jx A.ji
 uD:mg "rules_of_row" = some (.ref A.jx)
 zb7:Binds K A.ji ["numbers","place","row","many"] []
 fU:fL K "end_state" "end_state" ze7 A.oW A.oM
 jE:mg "end_state" = some (.ref A.oW)
 Ri:Binds K A.oM ["numbers","target","counter","many"] []
 lu:fL K "first_counters" "first_counters" zcw A.iB A.il
 sY:mg "first_counters" = some (.ref A.iB)
 zbj:Binds K A.il ["program"] []
 pW:fL K "rules_to_end" "rules_to_end" zdn A.jw A.jh
 uC:mg "rules_to_end" = some (.ref A.jw)
 zb6:Binds K A.jh ["numbers","target","first","many"] []
 oh:fL K "_law_cell_at" "_law_cell_at" zgs A.rJ A.rE
 qZ:mg "_law_cell_at" = some (.ref A.rJ)
 T9:Binds K A.rE ["_law_script","_law_k"] []
 fB:fL K "_law_mixed" "_law_mixed" zi4 A.uU A.uP
 iH:mg "_law_mixed" = some (.ref A.uU)
 Hi:Binds K A.uP ["_law_cell","_law_k"] []
 v7:fL K "_law_row_of" "_law_row_of" zh5 A.tH A.tE
 Ab:mg "_law_row_of" = some (.ref A.tH)
 ze1:Binds K A.tE ["_law_cell","_law_k","_law_many","_law_rows"] []
 u0:fL K "_law_program" "_law_program" zff A.rH A.rD
 zc:mg "_law_program" = some (.ref A.rH)
 zd5:Binds K A.rD ["_law_cells","_law_many"] []
 v8:fL K "_law_next" "_law_next" zle A.wG A.wz
 zf:mg "_law_next" = some (.ref A.wG)
 TF:Binds K A.wz ["_law_program_here","_law_stand_here"] []
 xT:fL K "_law_stand" "_law_stand" zjh A.uT A.uO
 Fz:mg "_law_stand" = some (.ref A.uT)
 zfu:Binds K A.uO ["_law_cell","_law_many","_law_rows","_law_most"] []
 v9:fL K "_law_folded" "_law_folded" zgn A.tL A.tG
 Ac:mg "_law_folded" = some (.ref A.tL)
 ze3:Binds K A.tG ["_law_script","_law_rows"] []
 ue:fL K "_law_row_walk" "_law_row_walk" zfp A.qu A.qm
 yp:mg "_law_row_walk" = some (.ref A.qu)
 zdo:Binds K A.qm ["_law_rules","_law_stand_here","_law_laps"] []
 p_:fL K "_law_counter_walk" "_law_counter_walk" zdr A.jB A.jo
 uG:mg "_law_counter_walk" = some (.ref A.jB)
 zb3:Binds K A.jo ["_law_program_here","_law_stand_here"] []
 zy:fL K "_law_told" "_law_told" zlm A.wF A.wy
 J2:mg "_law_told" = some (.ref A.wF)
 ZQ:Binds K A.wy ["_law_program_here","_law_many","_law_rows"] []
 QG:fL K "law" "law" Tz A.yL A.yJ
 ab8:mg "law" = some (.ref A.yL)
 zmp:Binds K A.yJ ["_law_script"] []
 cC:PySem.W.nsIn K mainGlobals "Numbers" = some (some (.ref A.ju))
 wB:mg "Numbers" = some (.ref A.ju)
 cN:Hb K A.ju
 o5:oX K A.ju "first"
 dD:oX K A.ju "given"
 dB:∃t,mg "BLANK" = some (.str "_" t)
 iG:mg "enumerate" = none
 y_:mg "int" = none
 jJ:mg "len" = none
 xY:mg "list" = none
 Bm:mg "max" = none
 xG:mg "min" = none
 lV:mg "range" = none
 HD:mg "sum" = none
 rK:mg "tuple" = none
 HB:mg "zip" = none
section
variable  {P:Program}{w:World}{K:PySem.W.Frag}{mg:Str->Option Value}{base:Heap}{Ad:Adr}
def zbx:aZ ["table","stand","rule","left","right"] ["table","stand"] (aB zc3):=sG
def zf4(T:Txt K mg base Ad):bu P w K mg base jH 1 Ad.iz Ad.ig ["table","stand"] (j8 K 2 zca):=by
 refine bu.imp (cV (m:=zbf) T.lr zbx λcdv A outer s H hr=>?_) λvs H Q E h=>dR h;exact (bO (dZ 2 (Hd afH afk PySem.F.type_dict_get (PK (jY hr)) (aA 0) (aF (oA (aF (aO (aA 1) bx) (aF (aO (aA 1) bx) bh))) bh)) zbx.nd)
  (bO (dF (qQ zf0 (aA 2) Mp (bI _)) (dJ (jX Mp)) uA)
  (bO (dZ 3 (aO (aA 1) bx) zbx.nd)
  (bO (dZ 4 (aO (aA 1) bx) zbx.nd)
  (bO (dF (qQ (yX (fH hr)) (aO (aA 2) bx) (oY [108]) (bI _)) (dJ (jX (oA (aF (aO (aA 2) bx) (aF (DP (aA 3) Hf (Bj (o9 Dz bx))) (aF (Kr (DP (aA 3) (Bj (o9 Dz bx)) Hf) (Ks (Bk [95] T.dB))) (aF (aH lQ (aO (aA 2) bx) (aA 4)) bh))))))) uA)
  (dJ (jX (oA (aF (aO (aA 2) bx) (aF (aH lQ (aA 3) (aO (aA 2) bx)) (aF (Kr (DP (aA 4) Hf (Bj bx)) (Ks (Bk [95] T.dB))) (aF (DP (aA 4) (Bj bx) Hf) bh))))))))))))
def Ul{us:List Value}(h:us.length=1):∃a0,us=[a0]:=by
 match us,h with | [a0],_=>exact⟨a0,rfl⟩
def Hk{us:List Value}(h:us.length=2):∃a0 a1,us=[a0,a1]:=by
 match us,h with | [a0,a1],_=>exact⟨a0,a1,rfl⟩
def Rr{us:List Value}(h:us.length=3):∃a0 a1 a2,us=[a0,a1,a2]:=by
 match us,h with | [a0,a1,a2],_=>exact⟨a0,a1,a2,rfl⟩
def us4{us:List Value}(h:us.length=4):∃a0 a1 a2 a3,us=[a0,a1,a2,a3]:=by
 match us,h with | [a0,a1,a2,a3],_=>exact⟨a0,a1,a2,a3,rfl⟩
def Ka(T:Txt K mg base Ad):Tn P w K mg base 1 (G_ 0) ["here"] e_0 :=
 ⟨⟨rfl,rfl,rfl,by decide +kernel,by decide +kernel,by decide +kernel,by decide +kernel,by decide +kernel⟩,λ_ _ _ _ us hl=>by obtain⟨_,rfl⟩:=Ul hl;rfl,λf cd cl A outer s H hr=>(bK (zf4 T) hr T.sX T.lr.kp T.zbf (aF (aA 0) (aF (aA 1) bh)) (bY (bY jc)))⟩
theorem Qa(T:Txt K mg base Ad):Mj P w K mg base 1 G_ GL
 | 0=>.inr ⟨["here"],_,Ka T,rfl⟩
 | _+1=>.inl λ_ _=>rfl
def zdq:aZ ["step","stand","most","stands","behind"] ["step","stand","most"] (aB zd1):=sG
def zhl(T:Txt K mg base Ad):bu P w K mg base jH 3 Ad.jV Ad.jU ["step","stand","most"] (j8 K 3 zcd):=by
 refine bu.imp (cV (m:=zce) T.qG zdq λcdv A outer s H hr=>?_) λvs H Q E h=>dR h;exact (bO (dZ 3 (wL (aF (aA 1) bh)) zdq.nd)
  (bO (zmc (qQ VB (wN zY rfl T.jJ (by decide +kernel) (aF (aA 3) bh)) (aA 2) (bI _)) (bO (dZ 4 (Ky (Qa T) (hr.mono (by decide)) 0 (aF (aO (aA 3) (o9 Dz bx)) bh)) zdq.nd)
  (bO (dF (qQ zf0 (aA 4) Mp (bI _)) (dJ (jX (aA 3))) uA)
  (dJ (vB (xW (aA 3) (aF (aA 4) bh)))))) afc)
  (dJ (jX (aA 3)))))
def zd3:aZ ["rules","table","rule"] ["rules"] (aB zej):=sG
def zh8(T:Txt K mg base Ad):bu P w K mg base jH 1 Ad.lJ Ad.lC ["rules"] (j8 K 1 zdg):=by
 refine bu.imp (cV (m:=zcp) T.rB zd3 λcdv A outer s H hr=>?_) λvs H Q E h=>dR h;exact (bO (dZ 1 ZD zd3.nd)
  (bO (xF (Ni (aA 0)) (oE 2 zd3.nd) (dJ (vB (Hd afH PySem.F.slot_dict_setdefault PySem.F.type_dict_setdefault (zoc (jY hr)) (aA 1) (aF (oA (aF (aO (aA 2) bx) (aF (aO (aA 2) bx) bh))) (aF (aA 2) bh))))) afc rfl)
  (dJ (jX (aA 1)))))
def zha:aZ ["self","first"] ["self","first"] (aB zdl):=sG
def zew(T:Txt K mg base Ad):bu P w K mg base jH 1 Ad.jA Ad.jm ["self","first"] (j8 K 2 Nt):=by
 refine bu.imp (cV (m:=Yl) T.uN zha λcdv A outer s H hr=>?_) λvs H Q E h=>Q_ h;exact (bO (Ko T.cC T.cN T.o5 (aA 0) (aA 1))
  (dJ (Ko T.cC T.cN T.dD (aA 0) ZD)))
def zfw:aZ ["self","key"] ["self","key"] (aB Yq):=sG
def zba(T:Txt K mg base Ad):bu P w K mg base jH 1 Ad.iC Ad.iu ["self","key"] (j8 K 2 DR):=by
 refine bu.imp (cV (m:=Mz) T.tD zfw λcdv A outer s H hr=>?_) λvs H Q E h=>Q_ h;exact (bO (dF (qQ (zkd (jY hr)) (aA 1) (Zv T.cC T.cN T.dD (aA 0)) rfl) (dJ (zW (aH lQ (Zv T.cC T.cN T.o5 (aA 0)) (wN zY rfl T.jJ (by decide +kernel) (aF (Zv T.cC T.cN T.dD (aA 0)) bh))) (Ms (ye (jY hr)) (Zv T.cC T.cN T.dD (aA 0)) (aA 1)))) uA)
  (dJ (jX (Ku (jY hr) (Zv T.cC T.cN T.dD (aA 0)) (aA 1)))))
def zgx:aZ ["rules","stand","most","table"] ["rules","stand","most"] (aB Mx):=sG
def zgz(T:Txt K mg base Ad):bu P w K mg base jH 4 Ad.qp Ad.j7 ["rules","stand","most"] (j8 K 3 Yi):=by
 refine bu.imp (Xi (m:=Yk) T.qi zgx λcdv A outer s H hr hT=>?_) λvs H Q E h=>dR h;exact (bO (dZ 3 (bK (zh8 T) hr T.vU T.rB.kp T.zcp (aF (aA 0) bh) (bY jc)) zgx.nd)
  (dJ (jX (Gb ((zhl T).mono (by decide)) hr T.vm T.qG.kp T.zce .nil (λ_ _=>ao.nil) (Wd (Λ:=G_) (x:="tape_run") (j:=0) (k:=1) (cap:=[3]) T.hB hT (Kc (sc0:=aB Mx) rfl (by decide +kernel) (by decide +kernel) rfl) rfl rfl rfl rfl rfl (Cy (aA 1) (Cy (aA 2) Wb))) (λ_=>rfl) rfl rfl (by decide) rfl rfl (J_ (zmj (zmj J9)))))))
def zeh:aZ ["stand","k","row","behind"] ["stand","k"] (aB Rk):=sG
def zi0(T:Txt K mg base Ad):bu P w K mg base jH 1 Ad.oR Ad.jG ["stand","k"] (j8 K 2 zdb):=by
 refine bu.imp (Xj (m:=zdu) T.sO zeh λcdv A outer s H hr=>?_) λvs H Q E h=>dR h;exact (bO (dZ 2 (aO (aA 0) bx) zeh.nd)
  (bO (dF (qQ (yX (fH hr)) (aA 2) (oY []) (bI _)) (dJ (jX (oA (aF (aO (aA 0) bx) (aF (aH zlb (Bk [95] T.dB) (aA 1)) (aF (Bk [95] T.dB) (aF (oY []) bh))))))) uA)
  (bO (dZ 3 (aa_ (qQ Zu (aA 1) bx (bI _)) (Bk [95] T.dB) (oY [])) zeh.nd)
  (dJ (jX (oA (aF (aO (aA 0) bx) (aF (aH zlb (Bk [95] T.dB) (aA 1)) (aF (aO (aA 2) bx) (aF (aH lQ (DP (aA 2) (Bj bx) Hf) (aA 3)) bh))))))))))
def zgy:aZ ["top","stand","row"] ["top","stand"] (aB zfs):=sG
def zjq(T:Txt K mg base Ad):bu P w K mg base jH 1 Ad.qt Ad.qj ["top","stand"] (j8 K 2 Ro):=by
 refine bu.imp (cV (m:=zds) T.ud zgy λcdv A outer s H hr=>?_) λvs H Q E h=>dR h;exact (bO (dZ 2 (Hd afS PySem.F.slot_str_rstrip PySem.F.type_str_rstrip zpj (aH lQ (aO (aA 1) bx) (aO (aA 1) bx)) (aF (Bk [95] T.dB) bh)) zgy.nd)
  (bO (dF (JW.jt (Cw (qQ Zu (aO (aA 1) bx) (aA 0) (bI _)) (Ah (qQ Px (Bk [95] T.dB) (aA 2) rfl)))) (dJ (jX Mp)) uA)
  (dJ (jX (oA (aF (aO (aA 1) bx) (aF (aA 2) bh)))))))
def zd4:aZ ["walks","targets","walk"] ["walks"] (aB zef):=sG
def zif(T:Txt K mg base Ad):bu P w K mg base jH 1 Ad.lH Ad.lB ["walks"] (j8 K 1 Uc):=by
 refine bu.imp (cV (m:=zcu) T.rA zd4 λcdv A outer s H hr=>?_) λvs H Q E h=>dR h;exact (bO (dZ 1 zpd zd4.nd)
  (bO (xF (Cz (aA 0)) (oE 2 zd4.nd) (dJ (zW vW (Ms (Im (jY hr)) (aA 1) (aO (aA 2) bx)))) afc rfl)
  (dJ (jX (aA 1)))))
def zgu:aZ ["state","signs","move"] ["state","signs","move"] (aB zci):=sG
def zd7(T:Txt K mg base Ad):bu P w K mg base jH 1 Ad.iW Ad.iT ["state","signs","move"] (j8 K 3 Ud):=by
 refine bu.imp (cV (m:=Yo) T.iQ zgu λcdv A outer s H hr=>?_) λvs H Q E h=>dR h;exact (dJ (jX (ZC (N:=["state","move","sign"]) (capt:=[some 0,some 2,none]) (sc0:=aB zci) (Wf (aA 1)) ⟨rfl,by decide +kernel,by decide +kernel⟩ (by decide +kernel) ⟨⟨rfl,by first | exact Or.inl rfl | exact Or.inr rfl,rfl⟩,⟨⟨rfl,by first | exact Or.inl rfl | exact Or.inr rfl,rfl⟩,trivial⟩⟩ rfl (λcl C fp s H=>(oE 2 (show List.Nodup (["state","move","sign"]:List Str) by decide +kernel))) (λcl C fp s H=>X6) (λcl C fp s H=>(oA (aF (aA 0) (aF (aA 2) (aF (aA 2) (aF (aA 1) (aF (aA 0) bh))))))))))
def zh9:aZ ["numbers","target"] ["numbers","target"] (aB zer):=sG
def zfg(T:Txt K mg base Ad):bu P w K mg base jH 2 Ad.lL Ad.lE ["numbers","target"] (j8 K 2 Rp):=by
 refine bu.imp (cV (m:=Yj) T.lz zh9 λcdv A outer s H hr=>?_) λvs H Q E h=>Q_ h;exact (dJ (jX (ZM T.cC T.cN T.cT ((zba T).mono (by decide)) hr T.Mz (aA 0) (aF (oA (aF (oY [98,97,99,107]) (aF (aA 1) bh))) bh) rfl rfl rfl rfl (bY jc))))
def zia:aZ ["numbers","word","target"] ["numbers","word","target"] (aB zeg):=sG
def zc5(T:Txt K mg base Ad):bu P w K mg base jH 2 Ad.lK Ad.lD ["numbers","word","target"] (j8 K 3 Hz):=by
 refine bu.imp (cV (m:=Rm) T.eY zia λcdv A outer s H hr=>?_) λvs H Q E h=>Q_ h;exact (dJ (jX (ZM T.cC T.cN T.cT ((zba T).mono (by decide)) hr T.Mz (aA 0) (aF (oA (aF (oY [103,114,111,119]) (aF (aA 1) (aF (aA 2) bh)))) bh) rfl rfl rfl rfl (bY jc))))
def zeu:aZ ["numbers","word","target","state"] ["numbers","word","target"] (aB zdk):=sG
def zg9(T:Txt K mg base Ad):bu P w K mg base jH 3 Ad.jy Ad.jk ["numbers","word","target"] (j8 K 3 Ym):=by
 refine bu.imp (cV (m:=zby) T.pY zeu λcdv A outer s H hr=>?_) λvs H Q E h=>Q_ h;exact (bO (dZ 3 (bK (zc5 T) hr T.iM T.eY.kp T.Rm (aF (aA 0) (aF (aA 1) (aF (aA 2) bh))) (bY (bY (bY jc)))) zeu.nd)
  (bO (dF (qQ (yX (fH hr)) (aA 1) (oY []) (bI _)) (dJ (jX (oA (aF (aA 3) (aF (Bk [95] T.dB) (aF (Bk [95] T.dB) (aF (oY [108]) (aF (bK (zfg T) hr T.qY T.lz.kp T.Yj (aF (aA 0) (aF (aA 2) bh)) (bY (bY jc))) bh)))))))) uA)
  (dJ (jX (oA (aF (aA 3) (aF (Bk [95] T.dB) (aF (aO (aA 1) bx) (aF (oY [114]) (aF (bK (zc5 T) hr T.iM T.eY.kp T.Rm (aF (aA 0) (aF (DP (aA 1) (Bj bx) Hf) (aF (aA 2) bh))) (bY (bY (bY jc)))) bh))))))))))
def zc6:aZ ["walks","grows","walk","cut"] ["walks"] (aB zek):=sG
def zic(T:Txt K mg base Ad):bu P w K mg base jH 1 Ad.lG Ad.lA ["walks"] (j8 K 1 zde):=by
 refine bu.imp (cV (m:=zct) T.rn zc6 λcdv A outer s H hr=>?_) λvs H Q E h=>dR h;exact (bO (dZ 1 ZD zc6.nd)
  (bO (xF (Cz (aA 0)) (oE 2 zc6.nd) (dJ (xF (zfy (aF (aH lQ (wN zY rfl T.jJ (by decide +kernel) (aF (aO (aA 2) bx) bh)) bx) bh) rfl T.lV) (oE 3 zc6.nd) (dJ (zW vW (Ms (ye (jY hr)) (aA 1) (oA (aF (DP (aO (aA 2) bx) (Bj (aA 3)) Hf) (aF (aO (aA 2) bx) bh)))))) afc rfl)) afc rfl)
  (dJ (jX (aA 1)))))
def Hy:aZ ["rules","signs","top","numbers","made","walks","rule","walk","state","grows","grow","target"] ["rules","signs","top"] (aB zez):=sG
def zi7(T:Txt K mg base Ad):bu P w K mg base jH 4 Ad.oU Ad.oJ ["rules","signs","top"] (j8 K 3 zc7):=by
 refine bu.imp (cV (m:=zda) T.sS Hy λcdv A outer s H hr=>?_) λvs H Q E h=>dR h;exact (bO (dZ 3 (CG T.cC T.o6 ((zew T).mono (by decide)) hr T.wB T.Yl (aF (aH lQ (aA 2) bx) bh) rfl rfl (by decide) rfl rfl (bY jc)) Hy.nd)
  (bO (dZ 4 (wL bh) Hy.nd)
  (bO (dZ 5 ZD Hy.nd)
  (bO (xF (Ni (aA 0)) (oE 6 Hy.nd) (bO (zW vW (Ms (ye (jY hr)) (aA 5) (oA (aF (aO (aA 6) bx) (aF (aO (aA 6) bx) bh)))))
  (dJ (vB (xW (aA 4) (aF (oA (aF (aO (aA 6) bx) (aF (aO (aA 6) bx) (aF (Bk [95] T.dB) (aF (oY [114]) (aF (bK (zc5 T) hr T.iM T.eY.kp T.Rm (aF (aA 3) (aF (aO (aA 6) bx) (aF (aO (aA 6) bx) bh))) (bY (bY (bY jc)))) bh)))))) bh))))) afc rfl)
  (bO (xF (Cz (aA 5)) (oE 7 Hy.nd) (bO (dZ 8 (bK (zc5 T) hr T.iM T.eY.kp T.Rm (aF (aA 3) (aF (aO (aA 7) bx) (aF (aO (aA 7) bx) bh))) (bY (bY (bY jc)))) Hy.nd)
  (dJ (vB (Hd aft afE afD zgh (aA 4) (aF (bK (zd7 T) hr T.lX T.iQ.kp T.Yo (aF (aA 8) (aF (aA 1) (aF (oY [114]) bh))) (bY (bY (bY jc)))) bh))))) afc rfl)
  (bO (dZ 9 (bK (zic T) hr T.vP T.rn.kp T.zct (aF (aA 5) bh) (bY jc)) Hy.nd)
  (bO (xF (Cz (aA 9)) (oE 10 Hy.nd) (dJ (vB (xW (aA 4) (aF (bK (zg9 T) hr T.uE T.pY.kp T.zby (aF (aA 3) (aF (aO (aA 10) bx) (aF (aO (aA 10) bx) bh))) (bY (bY (bY jc)))) bh)))) afc rfl)
  (bO (xF (RX (bK (zif T) hr T.vQ T.rA.kp T.zcu (aF (aA 5) bh) (bY jc))) (oE 11 Hy.nd) (bO (dZ 8 (bK (zfg T) hr T.qY T.lz.kp T.Yj (aF (aA 3) (aF (aA 11) bh)) (bY (bY jc))) Hy.nd)
  (bO (vB (Hd aft afE afD zgh (aA 4) (aF (bK (zd7 T) hr T.lX T.iQ.kp T.Yo (aF (aA 8) (aF (aA 1) (aF (oY [108]) bh))) (bY (bY (bY jc)))) bh)))
  (dJ (vB (xW (aA 4) (aF (oA (aF (aA 8) (aF (Bk [95] T.dB) (aF (Bk [95] T.dB) (aF (oY [114]) (aF (aA 11) bh)))))) bh)))))) afc rfl)
  (dJ (jX (aA 4)))))))))))
def zgr:aZ ["stand"] ["stand"] (aB zch):=sG
def zd8(T:Txt K mg base Ad):bu P w K mg base jH 1 Ad.iY Ad.iU ["stand"] (j8 K 1 Yn):=by
 refine bu.imp (cV (m:=Yp) T.iR zgr λcdv A outer s H hr=>?_) λvs H Q E h=>dR h;exact (dJ (jX (oA (aF (aO (aA 0) bx) (aF (aH lQ (oY [98]) (Hd afS PySem.F.slot_str_join PySem.F.type_str_join JR (oY []) (aF (ZC (N:=["count"]) (capt:=[none]) (sc0:=aB zch) (Ni (aO (aA 0) bx)) ⟨rfl,by decide +kernel,by decide +kernel⟩ (by decide +kernel) trivial rfl (λcl C fp s H=>(oE 0 (show List.Nodup (["count"]:List Str) by decide +kernel))) (λcl C fp s H=>X6) (λcl C fp s H=>(aH lQ (aH zlb (oY [105]) (aA 0)) (oY [101])))) bh))) bh)))))
def zcg:aZ ["size","many","stand","parts","counts","told"] ["size","many","stand"] (aB zcq):=sG
def zg7(T:Txt K mg base Ad):bu P w K mg base jH 2 Ad.jz Ad.jl ["size","many","stand"] (j8 K 3 zbz):=by
 refine bu.imp (cV (m:=zb1) T.pZ zcg λcdv A outer s H hr=>?_) λvs H Q E h=>dR h;exact (bO (dZ 3 (Hd afS PySem.F.slot_str_split PySem.F.type_str_split Fw (DP (aO (aA 2) bx) (Bj bx) Hf) (aF (oY [101]) bh)) zcg.nd)
  (bO (dZ 4 (Ra zfe rfl T.rK (by decide +kernel) (aF (ZC (N:=["part"]) (capt:=[none]) (sc0:=aB zcq) (Ni (DP (aA 3) Hf (Bj (o9 Dz bx)))) ⟨rfl,by decide +kernel,by decide +kernel⟩ (by decide +kernel) trivial rfl (λcl C fp s H=>(oE 0 (show List.Nodup (["part"]:List Str) by decide +kernel))) (λcl C fp s H=>X6) (λcl C fp s H=>(wN zY rfl T.jJ (by decide +kernel) (aF (aA 0) bh)))) bh)) zcg.nd)
  (bO (dZ 5 (oA (aF (aO (aA 2) bx) (aF (aA 4) bh))) zcg.nd)
  (bO (dF (JW.jt (Cw (qQ Zu (aO (aA 2) bx) (aA 0) (bI _)) (Cw (qQ (Zt (fH hr)) (wN zY rfl T.jJ (by decide +kernel) (aF (aA 4) bh)) (aA 1) (bI _)) (Ah (qQ (Zt (fH hr)) (bK (zd8 T) hr T.lY T.iR.kp T.Yp (aF (aA 5) bh) (bY jc)) (aA 2) (bI _)))))) (dJ (jX Mp)) uA)
  (dJ (jX (aA 5)))))))
def zjd:aZ ["numbers","target","counter","many"] ["numbers","target","counter","many"] (aB ze7):=sG
def zdf(T:Txt K mg base Ad):bu P w K mg base jH 2 Ad.oW Ad.oM ["numbers","target","counter","many"] (j8 K 4 Rj):=by
 refine bu.imp (cV (m:=Ri) T.fU zjd λcdv A outer s H hr=>?_) λvs H Q E h=>Q_ h;exact (bO (dF (qQ (yX (fH hr)) (aA 2) (aA 3) (bI _)) (dJ (jX (aA 1))) uA)
  (dJ (jX (ZM T.cC T.cN T.cT ((zba T).mono (by decide)) hr T.Mz (aA 0) (aF (oA (aF (oY [101,110,100]) (aF (aA 1) (aF (aA 2) bh)))) bh) rfl rfl rfl rfl (bY jc)))))
def zcj:aZ ["numbers","target","first","many","rules","counter","state"] ["numbers","target","first","many"] (aB zdn):=sG
def zg2(T:Txt K mg base Ad):bu P w K mg base jH 3 Ad.jw Ad.jh ["numbers","target","first","many"] (j8 K 4 zb5):=by
 refine bu.imp (cV (m:=zb6) T.pW zcj λcdv A outer s H hr=>?_) λvs H Q E h=>Q_ h;exact (bO (dZ 4 (wL bh) zcj.nd)
  (bO (xF (Ga (aF (aA 2) (aF (aA 3) bh)) rfl T.lV) (oE 5 zcj.nd) (bO (dZ 6 (bK (zdf T) hr T.jE T.fU.kp T.Ri (aF (aA 0) (aF (aA 1) (aF (aA 5) (aF (aA 3) bh)))) (bY (bY (bY (bY jc))))) zcj.nd)
  (bO (vB (xW (aA 4) (aF (oA (aF (aA 6) (aF (oY [105]) (aF (oY [105]) (aF (aA 6) bh))))) bh)))
  (dJ (vB (xW (aA 4) (aF (oA (aF (aA 6) (aF (oY [101]) (aF (oY [101]) (aF (bK (zdf T) hr T.jE T.fU.kp T.Ri (aF (aA 0) (aF (aA 1) (aF (aH lQ (aA 5) bx) (aF (aA 3) bh)))) (bY (bY (bY (bY jc))))) bh))))) bh)))))) afc rfl)
  (dJ (jX (aA 4)))))
def zcr:aZ ["program","firsts","row"] ["program"] (aB zcw):=sG
def zgc(T:Txt K mg base Ad):bu P w K mg base jH 1 Ad.iB Ad.il ["program"] (j8 K 1 zb9):=by
 refine bu.imp (cV (m:=zbj) T.lu zcr λcdv A outer s H hr=>?_) λvs H Q E h=>dR h;exact (bO (dZ 1 zpd zcr.nd)
  (bO (xF (Ni (aA 0)) (oE 2 zcr.nd) (bO (zW (wN (zfx rfl) rfl T.xG (by decide +kernel) (aF (Hd afH afk PySem.F.type_dict_get (zpe (jY hr)) (aA 1) (aF (aO (aA 2) bx) (aF (aO (aA 2) bx) bh))) (aF (aO (aA 2) bx) bh))) (Ms (Im (jY hr)) (aA 1) (aO (aA 2) bx)))
  (dJ (dF (qQ (yX (fH hr)) (aO (aA 2) bx) (oY [100,111,119,110]) (bI _)) (dJ (zW (wN (zfx rfl) rfl T.xG (by decide +kernel) (aF (Hd afH afk PySem.F.type_dict_get (zpe (jY hr)) (aA 1) (aF (aO (aA 2) bx) (aF (aH lQ (aO (aA 2) bx) bx) bh))) (aF (aH lQ (aO (aA 2) bx) bx) bh))) (Ms (Im (jY hr)) (aA 1) (aO (aA 2) bx)))) uA))) afc rfl)
  (dJ (jX (aA 1)))))
def My:aZ ["numbers","place","row","many","rules","state","sign","passed","behind","done","ask"] ["numbers","place","row","many"] (aB zdj):=sG
def zg3(T:Txt K mg base Ad):bu P w K mg base jH 3 Ad.jx Ad.ji ["numbers","place","row","many"] (j8 K 4 zb8):=by
 refine bu.imp (cV (m:=zb7) T.pX My λcdv A outer s H hr=>?_) λvs H Q E h=>Q_ h;exact (bO (dZ 4 (wL bh) My.nd)
  (bO (dZ 5 (aA 1) My.nd)
  (bO (dZ 6 (oY [98]) My.nd)
  (bO (xF (zfy (aF (aO (aA 2) bx) bh) rfl T.lV) (oE 7 My.nd) (bO (dZ 8 (ZM T.cC T.cN T.cT ((zba T).mono (by decide)) hr T.Mz (aA 0) (aF (oA (aF (oY [97,104,101,97,100]) (aF (aA 1) (aF (aA 7) bh)))) bh) rfl rfl rfl rfl (bY jc)) My.nd)
  (bO (vB (xW (aA 4) (aF (oA (aF (aA 5) (aF (aA 6) (aF (aA 6) (aF (aA 8) bh))))) bh)))
  (bO (vB (xW (aA 4) (aF (oA (aF (aA 8) (aF (oY [105]) (aF (oY [105]) (aF (aA 8) bh))))) bh)))
  (bO (dZ 5 (aA 8) My.nd)
  (dJ (dZ 6 (oY [101]) My.nd)))))) afc rfl)
  (bO (dZ 9 (bK (zdf T) hr T.jE T.fU.kp T.Ri (aF (aA 0) (aF (aO (aA 2) bx) (aF (aO (aA 2) bx) (aF (aA 3) bh)))) (bY (bY (bY (bY jc))))) My.nd)
  (bO (dF (qQ (yX (fH hr)) (aO (aA 2) bx) (oY [117,112]) (bI _)) (bO (vB (xW (aA 4) (aF (oA (aF (aA 5) (aF (aA 6) (aF (aH lQ (aA 6) (oY [105])) (aF (aA 9) bh))))) bh)))
  (dJ (jX (aA 4)))) uA)
  (bO (dZ 10 (ZM T.cC T.cN T.cT ((zba T).mono (by decide)) hr T.Mz (aA 0) (aF (oA (aF (oY [97,115,107]) (aF (aA 1) bh))) bh) rfl rfl rfl rfl (bY jc)) My.nd)
  (bO (vB (xW (aA 4) (aF (oA (aF (aA 5) (aF (aA 6) (aF (aA 6) (aF (aA 10) bh))))) bh)))
  (bO (vB (xW (aA 4) (aF (oA (aF (aA 10) (aF (oY [105]) (aF (oY []) (aF (aA 9) bh))))) bh)))
  (bO (vB (xW (aA 4) (aF (oA (aF (aA 10) (aF (oY [101]) (aF (oY [101]) (aF (bK (zdf T) hr T.jE T.fU.kp T.Ri (aF (aA 0) (aF (aO (aA 2) bx) (aF (aH lQ (aO (aA 2) bx) bx) (aF (aA 3) bh)))) (bY (bY (bY (bY jc))))) bh))))) bh)))
  (dJ (jX (aA 4)))))))))))))
def Ub:aZ ["program","many","numbers","rules","place","row","firsts","target"] ["program","many"] (aB ze6):=sG
def ziz(T:Txt K mg base Ad):bu P w K mg base jH 4 Ad.oV Ad.oK ["program","many"] (j8 K 2 zd0):=by
 refine bu.imp (cV (m:=zc9) T.sU Ub λcdv A outer s H hr=>?_) λvs H Q E h=>dR h;exact (bO (dZ 2 (CG T.cC T.o6 ((zew T).mono (by decide)) hr T.wB T.Yl (aF (aH lQ (wN zY rfl T.jJ (by decide +kernel) (aF (aA 0) bh)) bx) bh) rfl rfl (by decide) rfl rfl (bY jc)) Ub.nd)
  (bO (dZ 3 (wL bh) Ub.nd)
  (bO (xF (zmk (aF (aA 0) bh) rfl T.iG) (Mq 2 rfl (wM (oE 4 Ub.nd) (wM (oE 5 Ub.nd) Mt))) (dJ (vB (Hd aft afE afD zgh (aA 3) (aF (bK (zg3 T) hr T.uD T.pX.kp T.zb7 (aF (aA 2) (aF (aA 4) (aF (aA 5) (aF (aA 1) bh)))) (bY (bY (bY (bY jc))))) bh)))) afc rfl)
  (bO (dZ 6 (bK (zgc T) hr T.sY T.lu.kp T.zbj (aF (aA 0) bh) (bY jc)) Ub.nd)
  (bO (xF (RX (aA 6)) (oE 7 Ub.nd) (dJ (vB (Hd aft afE afD zgh (aA 3) (aF (bK (zg2 T) hr T.uC T.pW.kp T.zb6 (aF (aA 2) (aF (aA 7) (aF (Wg (jY hr) (aA 6) (aA 7)) (aF (aA 1) bh)))) (bY (bY (bY (bY jc))))) bh)))) afc rfl)
  (dJ (jX (aA 3))))))))
def zk4:aZ ["_law_script","_law_k"] ["_law_script","_law_k"] (aB zgs):=sG
def zfr(T:Txt K mg base Ad):bu P w K mg base jH 1 Ad.rJ Ad.rE ["_law_script","_law_k"] (j8 K 2 Rg):=by
 refine bu.imp (cV (m:=T9) T.oh zk4 λcdv A outer s H hr=>?_) λvs H Q E h=>dR h;exact (bO (dF (qQ Jx (aA 1) (wN zY rfl T.jJ (by decide +kernel) (aF (aA 0) bh)) (bI _)) (dJ (jX (aO (aA 0) (aA 1)))) uA)
  (dJ (jX bx)))
def zkm:aZ ["_law_cell","_law_k","_law_number"] ["_law_cell","_law_k"] (aB zi4):=sG
def Rh(T:Txt K mg base Ad):bu P w K mg base jH 1 Ad.uU Ad.uP ["_law_cell","_law_k"] (j8 K 2 yQ):=by
 refine bu.imp (cV (m:=Hi) T.fB zkm λcdv A outer s H hr=>?_) λvs H Q E h=>dR h;exact (bO (dZ 2 (aH lQ (aH lQ (aH vC (aA 0) bx) (aH DG bx (aA 1))) bx) zkm.nd)
  (dJ (jX (aH zX (aH vC (aH DG (aA 2) (aA 2)) bx) bx))))
def Yh:aZ ["_law_cell","_law_k","_law_many","_law_rows","_law_left","_law_places","_law_draws"] ["_law_cell","_law_k","_law_many","_law_rows"] (aB zh5):=sG
def zne(T:Txt K mg base Ad):bu P w K mg base jH 2 Ad.tH Ad.tE ["_law_cell","_law_k","_law_many","_law_rows"] (j8 K 4 ze4):=by
 refine bu.imp (cV (m:=ze1) T.v7 Yh λcdv A outer s H hr=>?_) λvs H Q E h=>dR h;exact (bO (dZ 4 (aH zX (aA 0) bx) Yh.nd)
  (bO (dZ 5 (aH lQ (aA 3) bx) Yh.nd)
  (bO (dZ 6 (wL (aF (aH vC (aA 4) bx) (aF (aH vC (aH zX (aA 4) bx) (aA 2)) (aF (aH vC (aH zX (aH zX (aA 4) bx) (aA 2)) (aA 5)) (aF (aH vC (aH zX (aH zX (aH zX (aA 4) bx) (aA 2)) (aA 5)) (aA 5)) bh))))) Yh.nd)
  (bO (dF (qQ (yX (fH hr)) (aH vC (aA 0) bx) bx (bI _)) (bO (dZ 6 (wL (aF (Ra zi8 rfl T.y_ (by decide +kernel) (aF (yq Zu (aH vC (aH zX (bK (Rh T) hr T.iH T.fB.kp T.Hi (aF (aA 0) (aF (aH DG bx (aA 1)) bh)) (bY (bY jc))) bx) bx) bx (bI _)) bh)) (aF (aH vC (bK (Rh T) hr T.iH T.fB.kp T.Hi (aF (aA 0) (aF (aH lQ (aH DG bx (aA 1)) bx) bh)) (bY (bY jc))) (aA 2)) bh))) Yh.nd)
  (bO (dZ 6 (aH lQ (aA 6) (wL (aF (aH vC (bK (Rh T) hr T.iH T.fB.kp T.Hi (aF (aA 0) (aF (aH lQ (aH DG bx (aA 1)) bx) bh)) (bY (bY jc))) (aA 5)) (aF (aH vC (bK (Rh T) hr T.iH T.fB.kp T.Hi (aF (aA 0) (aF (aH lQ (aH DG bx (aA 1)) bx) bh)) (bY (bY jc))) (aA 5)) bh)))) Yh.nd)
  (dJ (dF (qQ (yX (fH hr)) (aH vC (bK (Rh T) hr T.iH T.fB.kp T.Hi (aF (aA 0) (aF (aH DG bx (aA 1)) bh)) (bY (bY jc))) bx) bx (bI _)) (dJ (zW (wN (zfx rfl) rfl T.xG (by decide +kernel) (aF (aH lQ (aA 1) bx) (aF (aA 3) bh))) (Ms Il (aA 6) bx))) uA)))) uA)
  (bO (dF (qQ (yX (fH hr)) (aO (aA 6) bx) bx (bI _)) (dJ (jX (oA (aF (oY [117,112]) (aF (aO (aA 6) bx) (aF (aO (aA 6) bx) bh)))))) uA)
  (dJ (jX (oA (aF (oY [100,111,119,110]) (aF (aO (aA 6) bx) (aF (aO (aA 6) bx) (aF (aO (aA 6) bx) bh))))))))))))
def zln:aZ ["_law_cells","_law_many"] ["_law_cells","_law_many"] (aB zff):=sG
def zk5(T:Txt K mg base Ad):bu P w K mg base jH 3 Ad.rH Ad.rD ["_law_cells","_law_many"] (j8 K 2 zed):=by
 refine bu.imp (cV (m:=zd5) T.u0 zln λcdv A outer s H hr=>?_) λvs H Q E h=>dR h;exact (dJ (jX (ZC (N:=["_law_many","_law_cells","_law_k","_law_cell"]) (capt:=[some 1,some 0,none,none]) (sc0:=aB zff) (zmk (aF (aA 0) bh) rfl T.iG) ⟨rfl,by decide +kernel,by decide +kernel⟩ (by decide +kernel) ⟨⟨rfl,by first | exact Or.inl rfl | exact Or.inr rfl,rfl⟩,⟨⟨rfl,by first | exact Or.inl rfl | exact Or.inr rfl,rfl⟩,trivial⟩⟩ rfl (λcl C fp s H=>(Mq 2 rfl (wM (oE 2 (show List.Nodup (["_law_many","_law_cells","_law_k","_law_cell"]:List Str) by decide +kernel)) (wM (oE 3 (show List.Nodup (["_law_many","_law_cells","_law_k","_law_cell"]:List Str) by decide +kernel)) Mt)))) (λcl C fp s H=>X6) (λcl C fp s H=>(bK (zne T) hr T.Ab T.v7.kp T.ze1 (aF (aA 3) (aF (aA 2) (aF (aA 0) (aF (wN zY rfl T.jJ (by decide +kernel) (aF (aA 1) bh)) bh)))) (bY (bY (bY (bY jc)))))))))
def zgd:aZ ["_law_program_here","_law_stand_here","_law_place","_law_counts","_law_row","_law_new"] ["_law_program_here","_law_stand_here"] (aB zle):=sG
def zm1(T:Txt K mg base Ad):bu P w K mg base jH 1 Ad.wG Ad.wz ["_law_program_here","_law_stand_here"] (j8 K 2 Np):=by
 refine bu.imp (cV (m:=TF) T.v8 zgd λcdv A outer s H hr=>?_) λvs H Q E h=>dR h;exact (bO (zW (aA 1) (Mq 2 rfl (wM (oE 2 zgd.nd) (wM (oE 3 zgd.nd) Mt))))
  (bO (dF (qQ (yX (fH hr)) (aA 2) (wN zY rfl T.jJ (by decide +kernel) (aF (aA 0) bh)) (bI _)) (dJ (jX Mp)) uA)
  (bO (dZ 4 (aO (aA 0) (aA 2)) zgd.nd)
  (bO (dZ 5 (Ra zpc rfl T.xY (by decide +kernel) (aF (aA 3) bh)) zgd.nd)
  (bO (dF (JW.jt (Wa (qQ (yX (fH hr)) (aO (aA 4) bx) (oY [100,111,119,110]) (bI _)) (Qg (qQ (yX (fH hr)) (aO (aA 5) (aO (aA 4) bx)) bx (bI _))))) (dJ (jX (oA (aF (aO (aA 4) bx) (aF (Ra zfe rfl T.rK (by decide +kernel) (aF (aA 5) bh)) bh))))) uA)
  (bO (zW (aH lQ (aO (aA 5) (aO (aA 4) bx)) (aO (wL (aF (aH Cm bx bx) (aF bx bh))) (Ra zi8 rfl T.y_ (by decide +kernel) (aF (yq (yX (fH hr)) (aO (aA 4) bx) (oY [117,112]) (bI _)) bh)))) (Ms Il (aA 5) (aO (aA 4) bx)))
  (dJ (jX (oA (aF (aO (aA 4) bx) (aF (Ra zfe rfl T.rK (by decide +kernel) (aF (aA 5) bh)) bh)))))))))))
def Hx:aZ ["_law_cell","_law_many","_law_rows","_law_most","_law_place","_law_left","_law_digits","_law_counts","_law_k","_law_count"] ["_law_cell","_law_many","_law_rows","_law_most"] (aB zjh):=sG
def zp2(T:Txt K mg base Ad):bu P w K mg base jH 2 Ad.uT Ad.uO ["_law_cell","_law_many","_law_rows","_law_most"] (j8 K 4 Z_):=by
 refine bu.imp (cV (m:=zfu) T.xT Hx λcdv A outer s H hr=>?_) λvs H Q E h=>dR h;exact (bO (dZ 4 (aH vC (aH zX (aA 0) bx) (aH lQ (aA 2) bx)) Hx.nd)
  (bO (dZ 5 (aA 3) Hx.nd)
  (bO (dZ 6 (aH zX (aH zX (aA 0) bx) (aH lQ (aA 2) bx)) Hx.nd)
  (bO (dF (qQ (yX (fH hr)) (aH vC (aA 0) bx) bx (bI _)) (dJ (dZ 4 (aH vC (bK (Rh T) hr T.iH T.fB.kp T.Hi (aF (aA 0) (aF bx bh)) (bY (bY jc))) (aH lQ (aA 2) bx)) Hx.nd)) uA)
  (bO (dZ 7 (wL bh) Hx.nd)
  (bO (xF (zfy (aF (aA 1) bh) rfl T.lV) (oE 8 Hx.nd) (bO (dZ 9 (aH vC (aA 6) (aH lQ (aA 5) bx)) Hx.nd)
  (bO (dZ 6 (aH zX (aA 6) (aH lQ (aA 5) bx)) Hx.nd)
  (bO (dF (qQ (yX (fH hr)) (aH vC (aA 0) bx) bx (bI _)) (dJ (dZ 9 (aH vC (bK (Rh T) hr T.iH T.fB.kp T.Hi (aF (aA 0) (aF (aH lQ bx (aA 8)) bh)) (bY (bY jc))) (aH lQ bx (aA 5))) Hx.nd)) uA)
  (bO (vB (xW (aA 7) (aF (aA 9) bh)))
  (dJ (dZ 5 (aH Cm (aA 5) (aA 9)) Hx.nd)))))) afc rfl)
  (dJ (jX (oA (aF (aA 4) (aF (Ra zfe rfl T.rK (by decide +kernel) (aF (aA 7) bh)) bh)))))))))))
def ze9:aZ ["_law_script","_law_rows","_law_seeds","_law_k","_law_cell"] ["_law_script","_law_rows"] (aB zgn):=sG
def znb(T:Txt K mg base Ad):bu P w K mg base jH 2 Ad.tL Ad.tG ["_law_script","_law_rows"] (j8 K 2 zfv):=by
 refine bu.imp (cV (m:=ze3) T.v9 ze9 λcdv A outer s H hr=>?_) λvs H Q E h=>dR h;exact (bO (zpz 2 (N:=["_law_k"]) (capt:=[none]) (sc0:=aB zgn) (zfy (aF (aA 1) bh) rfl T.lV) ⟨rfl,by decide +kernel,by decide +kernel⟩ (by decide +kernel) trivial rfl (λcl C fp s H=>(oE 0 (show List.Nodup (["_law_k"]:List Str) by decide +kernel))) (λcl C fp s H=>X6) (λcl C fp s H=>(bK (Rh T) hr T.iH T.fB.kp T.Hi (aF (aA 0) (aF bx bh)) (bY (bY jc)))) ze9.nd)
  (bO (xF (zmk (aF (DP (aA 0) (Bj bx) (Bj bx)) bh) rfl T.iG) (Mq 2 rfl (wM (oE 3 ze9.nd) (wM (oE 4 ze9.nd) Mt))) (dJ (zW (aH vC (aH lQ (aH DG (aO (aA 2) (aH vC (aA 3) (aA 1))) bx) (aA 4)) bx) (Ms Il (aA 2) (aH vC (aA 3) (aA 1))))) afc rfl)
  (dJ (jX (aA 2)))))
def Bl:aZ ["_law_rules","_law_stand_here","_law_laps","_law_table","_law_state","_law_sign","_law_word","_law_goal","_law_stands","_law_spots","_law_lap","_law_k","_law_row"] ["_law_rules","_law_stand_here","_law_laps"] (aB zfp):=sG
def zjw(T:Txt K mg base Ad):bu P w K mg base jH 1 Ad.qu Ad.qm ["_law_rules","_law_stand_here","_law_laps"] (j8 K 3 zei):=by
 refine bu.imp (cV (m:=zdo) T.ue Bl λcdv A outer s H hr=>?_) λvs H Q E h=>dR h;exact (bO (dZ 3 ZD Bl.nd)
  (bO (xF (Ni (aA 0)) (Mq 4 rfl (wM (oE 4 Bl.nd) (wM (oE 5 Bl.nd) (wM (oE 6 Bl.nd) (wM (oE 7 Bl.nd) Mt))))) (dJ (zW (oA (aF (aA 6) (aF (aA 7) bh))) (Ms (ye (jY hr)) (aA 3) (oA (aF (aA 4) (aF (aA 5) bh)))))) afc rfl)
  (bO (dZ 8 (wL (aF (aA 1) bh)) Bl.nd)
  (bO (dZ 9 (wL (aF bx bh)) Bl.nd)
  (bO (xF (Ni (aA 2)) (oE 10 Bl.nd) (dJ (xF (zfy (aF (aA 10) bh) rfl T.lV) (oE 11 Bl.nd) (bO (zW (aO (aA 8) (o9 Dz bx)) (Mq 2 rfl (wM (oE 4 Bl.nd) (wM (oE 12 Bl.nd) Mt))))
  (bO (dF (qQ (zkd (jY hr)) (oA (aF (aA 4) (aF (DP (aA 12) Hf (Bj bx)) bh))) (aA 3) rfl) (dJ (jX (oA (aF (wL bh) (aF (wL bh) bh))))) uA)
  (bO (zW (Ku (jY hr) (aA 3) (oA (aF (aA 4) (aF (DP (aA 12) Hf (Bj bx)) bh)))) (Mq 2 rfl (wM (oE 6 Bl.nd) (wM (oE 7 Bl.nd) Mt))))
  (bO (vB (xW (aA 9) (aF (aH lQ (aH lQ (aH lQ (aO (aA 9) (o9 Dz bx)) (aH DG bx (wN zY rfl T.jJ (by decide +kernel) (aF (aA 12) bh)))) (aH DG bx (wN zY rfl T.jJ (by decide +kernel) (aF (aA 6) bh)))) bx) bh)))
  (dJ (vB (xW (aA 8) (aF (oA (aF (aA 7) (aF (aH lQ (DP (aA 12) (Bj bx) Hf) (aA 6)) bh))) bh)))))))) afc rfl)) afc rfl)
  (dJ (jX (oA (aF (aA 8) (aF (aA 9) bh))))))))))
def Ue:aZ ["_law_program_here","_law_stand_here","_law_stands","_law_laps","_law_spent","_law_goal","_law_lap"] ["_law_program_here","_law_stand_here"] (aB zdr):=sG
def zg5(T:Txt K mg base Ad):bu P w K mg base jH 2 Ad.jB Ad.jo ["_law_program_here","_law_stand_here"] (j8 K 2 zcs):=by
 refine bu.imp (cV (m:=zb3) T.p_ Ue λcdv A outer s H hr=>?_) λvs H Q E h=>dR h;exact (bO (dZ 2 (wL (aF (aA 1) bh)) Ue.nd)
  (bO (dZ 3 (wL bh) Ue.nd)
  (bO (dZ 4 bx Ue.nd)
  (bO (zmc (qQ Jx (aA 4) bx (bI _)) (bO (dZ 5 (bK (zm1 T) hr T.zf T.v8.kp T.TF (aF (aA 0) (aF (aO (aA 2) (o9 Dz bx)) bh)) (bY (bY jc))) Ue.nd)
  (bO (dF (qQ zf0 (aA 5) Mp (bI _)) (dJ Kp) uA)
  (bO (dZ 6 (aH lQ (aH lQ bx (wN zY rfl T.jJ (by decide +kernel) (aF (aO (aA 1) bx) bh))) (wN (GF hr.hd) rfl T.HD (by decide +kernel) (aF (aO (aO (aA 2) (o9 Dz bx)) bx) bh))) Ue.nd)
  (bO (vB (xW (aA 3) (aF (aA 6) bh)))
  (bO (dZ 4 (aH lQ (aA 4) (aH DG (aA 6) (aH lQ (aH DG bx (aA 6)) bx))) Ue.nd)
  (dJ (vB (xW (aA 2) (aF (aA 5) bh))))))))) afc)
  (dJ (jX (oA (aF (aA 2) (aF (aA 3) bh)))))))))
def zhe:aZ ["_law_program_here","_law_many","_law_rows","_law_found","_law_row","_law_back"] ["_law_program_here","_law_many","_law_rows"] (aB zlm):=sG
def Fo(T:Txt K mg base Ad):bu P w K mg base jH 3 Ad.wF Ad.wy ["_law_program_here","_law_many","_law_rows"] (j8 K 3 zi5):=by
 refine bu.imp (cV (m:=ZQ) T.zy zhe λcdv A outer s H hr=>?_) λvs H Q E h=>dR h;exact (bO (dZ 3 (wL bh) zhe.nd)
  (bO (xF (Ni (aA 2)) (oE 4 zhe.nd) (bO (dZ 5 (bK (zg7 T) hr T.uF T.pZ.kp T.zb1 (aF (wN zY rfl T.jJ (by decide +kernel) (aF (aA 0) bh)) (aF (aA 1) (aF (aA 4) bh))) (bY (bY (bY jc)))) zhe.nd)
  (dJ (dF (qQ zil (aA 5) Mp (bI _)) (dJ (vB (xW (aA 3) (aF (aA 5) bh)))) uA))) afc rfl)
  (dJ (jX (aA 3)))))
def yP:aZ ["_law_script","_law_many","_law_size","_law_program_here","_law_cell","_law_stand_here","_law_stands","_law_laps","_law_rules","_law_rows","_law_spots","_law_top","_law_tape","_law_found","_law_told_here","_law_spot","_law_one","_law_back"] ["_law_script"] (aB Tz):=sG
def JB(T:Txt K mg base Ad):bu P w K mg base jH 5 Ad.yL Ad.yJ ["_law_script"] (j8 K 1 zkp):=by
 refine bu.imp (cV (m:=zmp) T.QG yP λcdv A outer s H hr=>?_) λvs H Q E h=>dR h;exact (bO (dZ 1 (aH lQ bx (aH vC (bK (zfr T) hr T.qZ T.oh.kp T.T9 (aF (aA 0) (aF bx bh)) (bY (bY jc))) bx)) yP.nd)
  (bO (dZ 2 (aH lQ bx (aH vC (aH zX (bK (zfr T) hr T.qZ T.oh.kp T.T9 (aF (aA 0) (aF bx bh)) (bY (bY jc))) bx) (wN (zfx rfl) rfl T.xG (by decide +kernel) (aF bx (aF (aH zX bx (aH lQ (aH DG bx (aA 1)) bx)) bh))))) yP.nd)
  (bO (dZ 3 (bK (zk5 T) hr T.zc T.u0.kp T.zd5 (aF (bK (znb T) hr T.Ac T.v9.kp T.ze3 (aF (aA 0) (aF (aA 2) bh)) (bY (bY jc))) (aF (aA 1) bh)) (bY (bY jc))) yP.nd)
  (bO (dZ 4 (bK (zfr T) hr T.qZ T.oh.kp T.T9 (aF (aA 0) (aF bx bh)) (bY (bY jc))) yP.nd)
  (bO (dZ 5 (bK (zp2 T) hr T.Fz T.xT.kp T.zfu (aF (aA 4) (aF (aA 1) (aF (aA 2) (aF (aO (wL (aF bx (aF bx bh))) (Ra zi8 rfl T.y_ (by decide +kernel) (aF (yq Zu (aH vC (aA 4) bx) bx (bI _)) bh))) bh)))) (bY (bY (bY (bY jc))))) yP.nd)
  (bO (zW (bK (zg5 T) hr T.uG T.p_.kp T.zb3 (aF (aA 3) (aF (aA 5) bh)) (bY (bY jc))) (Mq 2 rfl (wM (oE 6 yP.nd) (wM (oE 7 yP.nd) Mt))))
  (bO (dZ 8 (bK (ziz T) hr T.wY T.sU.kp T.zc9 (aF (aA 3) (aF (aA 1) bh)) (bY (bY jc))) yP.nd)
  (bO (zW (bK (zjw T) hr T.yp T.ue.kp T.zdo (aF (aA 8) (aF (bK (zd8 T) hr T.lY T.iR.kp T.Yp (aF (aA 5) bh) (bY jc)) (aF (aA 7) bh))) (bY (bY (bY jc)))) (Mq 2 rfl (wM (oE 9 yP.nd) (wM (oE 10 yP.nd) Mt))))
  (bO (dF (JW.jt (Cw (qQ (yX (fH hr)) (aA 9) (wL bh) (bI _)) (Ah (qQ (Zt (fH hr)) (bK (Fo T) hr T.J2 T.zy.kp T.ZQ (aF (aA 3) (aF (aA 1) (aF (aA 9) bh))) (bY (bY (bY jc)))) (aA 6) (bI _))))) (dJ (jX vW)) uA)
  (bO (dZ 11 (wN (zmg rfl hr.hd) rfl T.Bm (by decide +kernel) (aF (aH lQ (wL (aF (wN zY rfl T.jJ (by decide +kernel) (aF (aA 3) bh)) bh)) (ZC (N:=["_law_rule"]) (capt:=[none]) (sc0:=aB Tz) (Ni (aA 8)) ⟨rfl,by decide +kernel,by decide +kernel⟩ (by decide +kernel) trivial rfl (λcl C fp s H=>(oE 0 (show List.Nodup (["_law_rule"]:List Str) by decide +kernel))) (λcl C fp s H=>X6) (λcl C fp s H=>(wN (zmg rfl hr.hd) rfl T.Bm (by decide +kernel) (aF (aO (aA 0) bx) (aF (aO (aA 0) bx) bh)))))) bh)) yP.nd)
  (bO (dZ 12 (bK (zi7 T) hr T.wX T.sS.kp T.zda (aF (aA 8) (aF (oY [98,101,105]) (aF (aA 11) bh))) (bY (bY (bY jc)))) yP.nd)
  (bO (dZ 13 (bK (zgz T) hr T.tZ T.qi.kp T.Yk (aF (aA 12) (aF (Kw ((zi0 T).mono (by decide)) hr T.wW T.sO.kp T.wD (aF (aO (aA 9) bx) bh) rfl rfl (by decide) rfl rfl (bY jc)) (aF (aO (aA 10) (o9 Dz bx)) bh))) (bY (bY (bY jc)))) yP.nd)
  (bO (dF (qQ (Zt (fH hr)) (wN zY rfl T.jJ (by decide +kernel) (aF (aA 13) bh)) (aH lQ (aO (aA 10) (o9 Dz bx)) bx) (bI _)) (dJ (jX vW)) uA)
  (bO (dZ 14 (wL bh) yP.nd)
  (bO (xF (zmk (aF (aA 13) bh) rfl T.iG) (Mq 2 rfl (wM (oE 15 yP.nd) (wM (oE 16 yP.nd) Mt))) (bO (dZ 17 (bK (zjq T) hr T.yo T.ud.kp T.zds (aF (aA 11) (aF (aA 16) bh)) (bY (bY jc))) yP.nd)
  (dJ (dF (qQ zil (aA 17) Mp (bI _)) (dJ (vB (xW (aA 14) (aF (oA (aF (aA 15) (aF (aA 17) bh))) bh)))) uA))) afc rfl)
  (bO (dF (qQ (Zt (fH hr)) (aA 14) (znk hr.hd rfl T.xY rfl T.HB (aF (aA 10) (aF (aA 9) bh))) (bI _)) (dJ (jX vW)) uA)
  (bO (dF (qQ zf0 (bK (zm1 T) hr T.zf T.v8.kp T.TF (aF (aA 3) (aF (aO (aA 6) (o9 Dz bx)) bh)) (bY (bY jc))) Mp (bI _)) (dJ (jX (yq (yX (fH hr)) (bK (zgz T) hr T.tZ T.qi.kp T.Yk (aF (aA 12) (aF (aO (aA 13) (o9 Dz bx)) (aF bx bh))) (bY (bY (bY jc)))) (wL (aF (aO (aA 13) (o9 Dz bx)) bh)) (bI _)))) uA)
  (dJ (jX vW)))))))))))))))))))
end
def all_mk{l:PySem.W.OpenLaw}{w:World}{K:PySem.W.Frag}{h:Heap}{mg:Str->Option Value}{fa f0 f1 f2 f3 f4 f5 f6 f7 f8 f9 f10 f11 f12 f13 f14 f15 f16 f17 f18 f19 f20 f21 f22 f23 f24 f25 f26 f27 f28 f29 f30 f31 f32:Addr}(X:K.In h)(G:h.Ns mainGlobals mg)(hfa:mg "law" = some (.ref fa))
  {od3 an3:Option Addr} {sl3:Array (Option Value)} {oc3 kV3 dc3 pm3 cd3 ct3:Value}
  {od4 an4:Option Addr} {sl4:Array (Option Value)} {oc4 kV4 dc4 pm4 ct4:Value}
  {od6 an6:Option Addr} {sl6:Array (Option Value)} {oc6 kV6 dc6 pm6 cd6 ct6:Value}
  {acX ad7:Option Addr} {acy:Array (Option Value)} {acY ac8 ad2 acW abO ad3:Value}
  {dI:Addr} (wA:PySem.W.nsIn K mainGlobals "Numbers" = some (some (.ref dI))) (Aw:PySem.W.plainGet K dI Str.empty=true) (Az:PySem.W.hasDictIn K dI=true) (Ax:PySem.W.plainOver K dI=true) (Av:PySem.W.findIn K (.ref dI) "__setattr__" = some (some (.builtin "object.__setattr__"))) (Ay:PySem.W.makesIn K dI=true) (A_:PySem.W.keepIn K (.ref dI)=true)
  (uR:PySem.W.findIn K (.ref dI) "first" = some none)
  (uQ:PySem.W.findIn K (.ref dI) "given" = some none)
  (a0:PySem.W.nsIn K mainGlobals "stands_from" = some (some (.ref f0))) {d0:FuncData} (F0:fL K "stands_from" "stands_from" zd1 f0 d0)
  (a1:PySem.W.nsIn K mainGlobals "rule_table" = some (some (.ref f1))) {d1:FuncData} (F1:fL K "rule_table" "rule_table" zej f1 d1)
  (a2:PySem.W.findIn K (.ref dI) "__init__" = some (some (.ref f2))) (i2:PySem.W.isFn K (.ref f2)=true) {d2:FuncData} (F2:fL K "__init__" "Numbers.__init__" zdl f2 d2)
  (a3:PySem.W.findIn K (.ref dI) "number" = some (some (.ref f3))) (i3:PySem.W.isFn K (.ref f3)=true) (l3:K.lookup f3=some ⟨oc3,od3,.func (PySem.W.fnOf "number" "Numbers.number" (cZ Yq) (cB Yq) (aB Yq) .none kV3 dc3 pm3 an3 cd3 ct3),sl3⟩) (c3:PySem.W.codeIn K cd3 "Numbers.number" = true) (k3:PySem.W.keepIn K (.ref f3)=true)
  {dT4:Addr} {ad0:Value} {adY:Option Addr} {dn4:Nat} {adU:Tok} {adW:Array (Option Value)}
  {q4:Addr}
  (a4:PySem.W.nsIn K mainGlobals "tape_run" = some (some (.ref f4))) (l4:K.lookup f4=some ⟨oc4,od4,.func (PySem.W.fnOf "tape_run" "tape_run" (cZ Mx) (cB Mx) (aB Mx) (.ref dT4) kV4 dc4 pm4 an4 (.ref q4) ct4),sl4⟩) (c4:PySem.W.codeIn K (.ref q4) "tape_run" = true) (k4:PySem.W.keepIn K (.ref f4)=true) (h4:PySem.W.codeHdIn K q4 59=true) (n4:K.lookup 59=none) (ld4:K.lookup dT4=some ⟨ad0,adY,.seq #[.int 100 adU] dn4,adW⟩)
  (a5:PySem.W.nsIn K mainGlobals "moved_by_table" = some (some (.ref f5))) {d5:FuncData} (F5:fL K "moved_by_table" "moved_by_table" zc3 f5 d5)
  {dT6:Addr} {adZ:Value} {adX:Option Addr} {dn6:Nat} {adT:Tok} {adV:Array (Option Value)}
  (a6:PySem.W.nsIn K mainGlobals "row_image" = some (some (.ref f6))) (l6:K.lookup f6=some ⟨oc6,od6,.func (PySem.W.fnOf "row_image" "row_image" (cZ Rk) (cB Rk) (aB Rk) (.ref dT6) kV6 dc6 pm6 an6 cd6 ct6),sl6⟩) (c6:PySem.W.codeIn K cd6 "row_image" = true) (k6:PySem.W.keepIn K (.ref f6)=true) (ld6:K.lookup dT6=some ⟨adZ,adX,.seq #[.int 0 adT] dn6,adV⟩)
  (a7:PySem.W.nsIn K mainGlobals "row_told" = some (some (.ref f7))) {d7:FuncData} (F7:fL K "row_told" "row_told" zfs f7 d7)
  (a8:PySem.W.nsIn K mainGlobals "make_tape" = some (some (.ref f8))) {d8:FuncData} (F8:fL K "make_tape" "make_tape" zez f8 d8)
  (a9:PySem.W.nsIn K mainGlobals "grow_state" = some (some (.ref f9))) {d9:FuncData} (F9:fL K "grow_state" "grow_state" zeg f9 d9)
  (qJ:PySem.W.nsIn K mainGlobals "back_state" = some (some (.ref f10))) {d10:FuncData} (F10:fL K "back_state" "back_state" zer f10 d10)
  (u_:PySem.W.nsIn K mainGlobals "passing_rules" = some (some (.ref f11))) {d11:FuncData} (F11:fL K "passing_rules" "passing_rules" zci f11 d11)
  (Bc:PySem.W.nsIn K mainGlobals "words_left" = some (some (.ref f12))) {d12:FuncData} (F12:fL K "words_left" "words_left" zek f12 d12)
  (XF:PySem.W.nsIn K mainGlobals "growing_rule" = some (some (.ref f13))) {d13:FuncData} (F13:fL K "growing_rule" "growing_rule" zdk f13 d13)
  (XC:PySem.W.nsIn K mainGlobals "targets_of" = some (some (.ref f14))) {d14:FuncData} (F14:fL K "targets_of" "targets_of" zef f14 d14)
  (Dt:PySem.W.nsIn K mainGlobals "counter_image" = some (some (.ref f15))) {d15:FuncData} (F15:fL K "counter_image" "counter_image" zch f15 d15)
  (Ds:PySem.W.nsIn K mainGlobals "counter_told" = some (some (.ref f16))) {d16:FuncData} (F16:fL K "counter_told" "counter_told" zcq f16 d16)
  (zU:PySem.W.nsIn K mainGlobals "make_rows" = some (some (.ref f17))) {d17:FuncData} (F17:fL K "make_rows" "make_rows" ze6 f17 d17)
  (a18:PySem.W.nsIn K mainGlobals "rules_of_row" = some (some (.ref f18))) {d18:FuncData} (F18:fL K "rules_of_row" "rules_of_row" zdj f18 d18)
  (a19:PySem.W.nsIn K mainGlobals "end_state" = some (some (.ref f19))) {d19:FuncData} (F19:fL K "end_state" "end_state" ze7 f19 d19)
  (a20:PySem.W.nsIn K mainGlobals "first_counters" = some (some (.ref f20))) {d20:FuncData} (F20:fL K "first_counters" "first_counters" zcw f20 d20)
  (a21:PySem.W.nsIn K mainGlobals "rules_to_end" = some (some (.ref f21))) {d21:FuncData} (F21:fL K "rules_to_end" "rules_to_end" zdn f21 d21)
  (a22:PySem.W.nsIn K mainGlobals "_law_cell_at" = some (some (.ref f22))) {d22:FuncData} (F22:fL K "_law_cell_at" "_law_cell_at" zgs f22 d22)
  (a23:PySem.W.nsIn K mainGlobals "_law_mixed" = some (some (.ref f23))) {d23:FuncData} (F23:fL K "_law_mixed" "_law_mixed" zi4 f23 d23)
  (a24:PySem.W.nsIn K mainGlobals "_law_row_of" = some (some (.ref f24))) {d24:FuncData} (F24:fL K "_law_row_of" "_law_row_of" zh5 f24 d24)
  (a25:PySem.W.nsIn K mainGlobals "_law_program" = some (some (.ref f25))) {d25:FuncData} (F25:fL K "_law_program" "_law_program" zff f25 d25)
  (a26:PySem.W.nsIn K mainGlobals "_law_next" = some (some (.ref f26))) {d26:FuncData} (F26:fL K "_law_next" "_law_next" zle f26 d26)
  (a27:PySem.W.nsIn K mainGlobals "_law_stand" = some (some (.ref f27))) {d27:FuncData} (F27:fL K "_law_stand" "_law_stand" zjh f27 d27)
  (a28:PySem.W.nsIn K mainGlobals "_law_folded" = some (some (.ref f28))) {d28:FuncData} (F28:fL K "_law_folded" "_law_folded" zgn f28 d28)
  (a29:PySem.W.nsIn K mainGlobals "_law_row_walk" = some (some (.ref f29))) {d29:FuncData} (F29:fL K "_law_row_walk" "_law_row_walk" zfp f29 d29)
  (a30:PySem.W.nsIn K mainGlobals "_law_counter_walk" = some (some (.ref f30))) {d30:FuncData} (F30:fL K "_law_counter_walk" "_law_counter_walk" zdr f30 d30)
  (a31:PySem.W.nsIn K mainGlobals "_law_told" = some (some (.ref f31))) {d31:FuncData} (F31:fL K "_law_told" "_law_told" zlm f31 d31)
  (a32:PySem.W.nsIn K mainGlobals "law" = some (some (.ref f32))) (l32:K.lookup f32=some ⟨acY,acX,.func (PySem.W.fnOf "law" "law" (cZ Tz) (cB Tz) (aB Tz) .none ac8 ad2 acW ad7 abO ad3),acy⟩) (c32:PySem.W.codeIn K abO "law" = true) (k32:PySem.W.keepIn K (.ref f32)=true)
  {NT:Tok} (dB:PySem.W.nsIn K mainGlobals "BLANK" = some (some (.str "_" NT)))
  (iG:PySem.W.nsIn K mainGlobals "enumerate" = some none)
  (y_:PySem.W.nsIn K mainGlobals "int" = some none)
  (jJ:PySem.W.nsIn K mainGlobals "len" = some none)
  (xY:PySem.W.nsIn K mainGlobals "list" = some none)
  (Bm:PySem.W.nsIn K mainGlobals "max" = some none)
  (xG:PySem.W.nsIn K mainGlobals "min" = some none)
  (lV:PySem.W.nsIn K mainGlobals "range" = some none)
  (HD:PySem.W.nsIn K mainGlobals "sum" = some none)
  (rK:PySem.W.nsIn K mainGlobals "tuple" = some none)
  (HB:PySem.W.nsIn K mainGlobals "zip" = some none)
  :∃fd:FuncData,(∀(s:Shared) (v:Value),BindsTo s fd ⟨[v],[]⟩ [("_law_script",v)])/\(∀p∈tabs,Mh K p.1 p.2)/\∀base:Heap,K.In base->base.Ns mainGlobals mg->BMain mg base->bu l.prog w K mg base jH 5 fa fd ["_law_script"] (j8 K 1 zkp):=by
 have e:=hfa.symm.trans (afb X G a32);cases e;have F3:=fun_mk (st:=Yq) l3 c3 k3;have F4:=QD (st:=Mx) a4 l4 c4 k4;have F6:=QF (st:=Rk) l6 c6 k6;have F32:=fun_mk (st:=Tz) l32 c32 k32;have b0:=F0.binds (ps:=["step","stand","most"]) λ_ _ _ _ _ _ us hl=>by obtain⟨_,_,_,rfl⟩:=Rr hl;rfl
 have b1:=F1.binds (ps:=["rules"]) λ_ _ _ _ _ _ us hl=>by obtain⟨_,rfl⟩:=Ul hl;rfl
 have b2:=F2.binds (ps:=["self","first"]) λ_ _ _ _ _ _ us hl=>by obtain⟨_,_,rfl⟩:=Hk hl;rfl
 have b3:=F3.binds (ps:=["self","key"]) λ_ _ _ _ _ _ us hl=>by obtain⟨_,_,rfl⟩:=Hk hl;rfl
 have b4:=LR (x:="tape_run") (qual:="tape_run") (st:=Mx) (ps:=["rules","stand","most"]) (kV:=kV4) (doc:=dc4) (pm:=pm4) (cdv:=(.ref q4)) (ct:=ct4) (an:=an4) ld4 λus hl=>match us,hl with | [_,_,_],_=>⟨_,rfl,rfl⟩
 have bd4:=Dq (x:="tape_run") (qual:="tape_run") (st:=Mx) (ps:=["rules","stand","most"]) (kV:=kV4) (doc:=dc4) (pm:=pm4) (cdv:=(.ref q4)) (ct:=ct4) (an:=an4) ld4 λus hl=>match us,hl with | [_,_],_=>⟨_,rfl,rfl⟩
 have b5:=F5.binds (ps:=["table","stand"]) λ_ _ _ _ _ _ us hl=>by obtain⟨_,_,rfl⟩:=Hk hl;rfl
 have b6:=LR (x:="row_image") (qual:="row_image") (st:=Rk) (ps:=["stand","k"]) (kV:=kV6) (doc:=dc6) (pm:=pm6) (cdv:=cd6) (ct:=ct6) (an:=an6) ld6 λus hl=>match us,hl with | [_,_],_=>⟨_,rfl,rfl⟩
 have bd6:=Dq (x:="row_image") (qual:="row_image") (st:=Rk) (ps:=["stand","k"]) (kV:=kV6) (doc:=dc6) (pm:=pm6) (cdv:=cd6) (ct:=ct6) (an:=an6) ld6 λus hl=>match us,hl with | [_],_=>⟨_,rfl,rfl⟩
 have b7:=F7.binds (ps:=["top","stand"]) λ_ _ _ _ _ _ us hl=>by obtain⟨_,_,rfl⟩:=Hk hl;rfl
 have b8:=F8.binds (ps:=["rules","signs","top"]) λ_ _ _ _ _ _ us hl=>by obtain⟨_,_,_,rfl⟩:=Rr hl;rfl
 have b9:=F9.binds (ps:=["numbers","word","target"]) λ_ _ _ _ _ _ us hl=>by obtain⟨_,_,_,rfl⟩:=Rr hl;rfl
 have b10:=F10.binds (ps:=["numbers","target"]) λ_ _ _ _ _ _ us hl=>by obtain⟨_,_,rfl⟩:=Hk hl;rfl
 have Hq:=F11.binds (ps:=["state","signs","move"]) λ_ _ _ _ _ _ us hl=>by obtain⟨_,_,_,rfl⟩:=Rr hl;rfl
 have Dr:=F12.binds (ps:=["walks"]) λ_ _ _ _ _ _ us hl=>by obtain⟨_,rfl⟩:=Ul hl;rfl
 have b13:=F13.binds (ps:=["numbers","word","target"]) λ_ _ _ _ _ _ us hl=>by obtain⟨_,_,_,rfl⟩:=Rr hl;rfl
 have b14:=F14.binds (ps:=["walks"]) λ_ _ _ _ _ _ us hl=>by obtain⟨_,rfl⟩:=Ul hl;rfl
 have b15:=F15.binds (ps:=["stand"]) λ_ _ _ _ _ _ us hl=>by obtain⟨_,rfl⟩:=Ul hl;rfl
 have b16:=F16.binds (ps:=["size","many","stand"]) λ_ _ _ _ _ _ us hl=>by obtain⟨_,_,_,rfl⟩:=Rr hl;rfl
 have b17:=F17.binds (ps:=["program","many"]) λ_ _ _ _ _ _ us hl=>by obtain⟨_,_,rfl⟩:=Hk hl;rfl
 have b18:=F18.binds (ps:=["numbers","place","row","many"]) λ_ _ _ _ _ _ us hl=>by obtain⟨_,_,_,_,rfl⟩:=us4 hl;rfl
 have b19:=F19.binds (ps:=["numbers","target","counter","many"]) λ_ _ _ _ _ _ us hl=>by obtain⟨_,_,_,_,rfl⟩:=us4 hl;rfl
 have b20:=F20.binds (ps:=["program"]) λ_ _ _ _ _ _ us hl=>by obtain⟨_,rfl⟩:=Ul hl;rfl
 have b21:=F21.binds (ps:=["numbers","target","first","many"]) λ_ _ _ _ _ _ us hl=>by obtain⟨_,_,_,_,rfl⟩:=us4 hl;rfl
 have b22:=F22.binds (ps:=["_law_script","_law_k"]) λ_ _ _ _ _ _ us hl=>by obtain⟨_,_,rfl⟩:=Hk hl;rfl
 have b23:=F23.binds (ps:=["_law_cell","_law_k"]) λ_ _ _ _ _ _ us hl=>by obtain⟨_,_,rfl⟩:=Hk hl;rfl
 have b24:=F24.binds (ps:=["_law_cell","_law_k","_law_many","_law_rows"]) λ_ _ _ _ _ _ us hl=>by obtain⟨_,_,_,_,rfl⟩:=us4 hl;rfl
 have b25:=F25.binds (ps:=["_law_cells","_law_many"]) λ_ _ _ _ _ _ us hl=>by obtain⟨_,_,rfl⟩:=Hk hl;rfl
 have b26:=F26.binds (ps:=["_law_program_here","_law_stand_here"]) λ_ _ _ _ _ _ us hl=>by obtain⟨_,_,rfl⟩:=Hk hl;rfl
 have b27:=F27.binds (ps:=["_law_cell","_law_many","_law_rows","_law_most"]) λ_ _ _ _ _ _ us hl=>by obtain⟨_,_,_,_,rfl⟩:=us4 hl;rfl
 have b28:=F28.binds (ps:=["_law_script","_law_rows"]) λ_ _ _ _ _ _ us hl=>by obtain⟨_,_,rfl⟩:=Hk hl;rfl
 have b29:=F29.binds (ps:=["_law_rules","_law_stand_here","_law_laps"]) λ_ _ _ _ _ _ us hl=>by obtain⟨_,_,_,rfl⟩:=Rr hl;rfl
 have b30:=F30.binds (ps:=["_law_program_here","_law_stand_here"]) λ_ _ _ _ _ _ us hl=>by obtain⟨_,_,rfl⟩:=Hk hl;rfl
 have b31:=F31.binds (ps:=["_law_program_here","_law_many","_law_rows"]) λ_ _ _ _ _ _ us hl=>by obtain⟨_,_,_,rfl⟩:=Rr hl;rfl
 have b32:=F32.binds (ps:=["_law_script"]) λ_ _ _ _ _ _ us hl=>by obtain⟨_,rfl⟩:=Ul hl;rfl
 exact⟨_,λs v=>.of_eq rfl,List.forall_mem_cons.mpr ⟨Mm.acf a4 l4 h4 n4,List.forall_mem_nil _⟩,λbase _ _ hB=>JB (Ad:=⟨_,_,_,_,_,_,_,_,_,_,_,_,_,_,_,_,_,_,_,_,_,_,_,_,_,_,_,_,_,_,_,_,_,_,_,_,_,_,_,_,_,_,_,_,_,_,_,_,_,_,_,_,_,_,_,_,_,_,_,_,_,_,_,_,_,_,_⟩) ⟨hB,F0,afb X G a0,b0,F1,afb X G a1,b1,F2,⟨Ay,a2,i2,A_⟩,b2,F3,⟨a3,i3,k3⟩,b3,F4,afb X G a4,b4,⟨_,bd4⟩,F5,afb X G a5,b5,F6,afb X G a6,b6,⟨_,bd6⟩,F7,afb X G a7,b7,F8,afb X G a8,b8,F9,afb X G a9,b9,F10,afb X G qJ,b10,F11,afb X G u_,Hq,F12,afb X G Bc,Dr,F13,afb X G XF,b13,F14,afb X G XC,b14,F15,afb X G Dt,b15,F16,afb X G Ds,b16,F17,afb X G zU,b17,F18,afb X G a18,b18,F19,afb X G a19,b19,F20,afb X G a20,b20,F21,afb X G a21,b21,F22,afb X G a22,b22,F23,afb X G a23,b23,F24,afb X G a24,b24,F25,afb X G a25,b25,F26,afb X G a26,b26,F27,afb X G a27,b27,F28,afb X G a28,b28,F29,afb X G a29,b29,F30,afb X G a30,b30,F31,afb X G a31,b31,F32,afb X G a32,b32,wA,afb X G wA,⟨Aw,Az,Ax,Av⟩,uR,uQ,⟨_,afb X G dB⟩,afg X G iG,afg X G y_,afg X G jJ,afg X G xY,afg X G Bm,afg X G xG,afg X G lV,afg X G HD,afg X G rK,afg X G HB⟩⟩
end Law
set_option maxHeartbeats 0
noncomputable section
namespace M
open L2
def zfz:(strOf a=strOf b)↔a=b:=by
 constructor
 ·intro h;have:=congrArg (λs=>s.cps.toList) h;simpa[strOf] using this
 ·rintro rfl;rfl
def wf(st:au):Prop:=∀o∈st,aU st.length o
def Nj(h:wf st)(ho:aU st.length o):∀q∈st.set n o,aU st.length q:=by
 intro q hq;rcases List.mem_or_eq_of_mem_set hq with hq | rfl
 ·exact h q hq
 ·exact ho
mutual
theorem TY(h:n<=m):∀(d:D),under n d->under m d
 | .non,_=>by simp
 | .bl _,_=>by simp
 | .int _,_=>by simp
 | .str _,_=>by simp
 | .tup ds,u=>by rw[zjj]at *;exact ZX h ds u
 | .loc k,u=>by rw[ziw]at *;omega
theorem ZX(h:n<=m):∀(ds:List D),aR n ds->aR m ds
 | [],_=>by simp
 | d::ds,u=>by rw[Ua]at *;exact⟨TY h d u.1,ZX h ds u.2⟩
end
def zi6(h:n<=m)(o:MO)(u:aU n o):aU m o:=by
 cases o with
 | lst ds=>exact ZX h ds u
 | frz ds=>exact ZX h ds u
 | dic kvs=>exact λp hp=>TY h _ (u p hp)
 | dkc kvs=>exact λp hp=>TY h _ (u p hp)
 | dkf kvs=>exact λp hp=>TY h _ (u p hp)
 | dtf kvs=>exact λp hp=>TY h _ (u p hp)
 | ins c fs=>exact λp hp=>TY h _ (u p hp)
 | tab x=>trivial
 | clo j l ds=>exact ZX h ds u
 | hid=>trivial
 | exc c d=>exact TY h _ u
def Mr(h:wf st)(hg:∀o∈g,aU (st++g).length o):wf (st++g):=by
 intro o ho;rcases gm.mp ho with ho | ho
 ·exact zi6 (by simp) o (h o ho)
 ·exact hg o ho
end M
namespace Law
open L2 M
def Zq{st:au}{n:Nat}{o:MO}(h:st[n]? = some o):st.set n o=st:=List.ext_getElem? λi=>by
 by_cases e:n=i
 ·subst e;rw[mL (gk.mp h).1,h]
 ·rw[mC e]
def zkb(x y:D):List.lookup ("first":PySem.Str) [(("first":PySem.Str),x),(("given":PySem.Str),y)]=some x:=by
 rw[List.lookup];simp
def zkj(x y:D):List.lookup ("given":PySem.Str) [(("first":PySem.Str),x),(("given":PySem.Str),y)]=some y:=by
 have:(("given":PySem.Str)==("first":PySem.Str))=false:=by decide
 rw[List.lookup,this,List.lookup];simp
def zir(x y:D):List.lookup ("number":PySem.Str) [(("first":PySem.Str),x),(("given":PySem.Str),y)]=none:=by
 have h1:(("number":PySem.Str)==("first":PySem.Str))=false:=by decide
 have h2:(("number":PySem.Str)==("given":PySem.Str))=false:=by decide
 simp only[List.lookup,h1,h2]
def set_set{st:au}{n:Nat}{o q:MO}:(st.set n o).set n q=st.set n q:=by simp
def La(hm:o∈st'.take st.length)(h:¬ aU st.length o):zT st (.ok d st')=.ok d st':=by
 unfold zT;dsimp only;rw[ae_ (λz=>h (z.2 o hm))]
def lq(n f:Nat):MO:=.ins "Numbers" [("first",.int f),("given",.loc (n+1))]
def J8(h:o7 st n=some (ds,o)):cO [.loc n] st=.ok (.int ds.length) st:=by
 obtain⟨h1,h2,h3⟩:=zgm h;unfold cO;rcases h3 with rfl | rfl
 ·simp only[h2];exact zi3 st n ds h1
 ·simp only[h2];exact zi3 st n ds h1
def zl2(st:au)(f:Nat):Nt [.loc st.length,.int f] (st++[.ins "Numbers" []])=.ok .non (st++[lq st.length f,.dic []]):=by
 have hu:zT (st++[.ins "Numbers" []]) (.ok .non (st++[lq st.length f,.dic []]))=.ok .non (st++[lq st.length f,.dic []]):=La (o:=lq st.length f) (by
  rw[show st++[lq st.length f,.dic []]=(st++[lq st.length f])++[.dic []] by simp,List.take_left' (by simp)];simp) (by
  intro h;have:=h ("given",.loc (st.length+1)) (by simp);simp at this)
 have n1:¬ (("first":PySem.Str) = "given"):=by decide
 unfold Nt qI eF Yl vH lq at *;rw[show startM 2 [D.loc st.length,.int f]=[some (.loc st.length),some (.int f)] from rfl];simp[wu,za,n1];exact hu
def Jd(kvs:List (List Key×D))(k:List Key)(d:D):(rY kvs k d).length<=kvs.length+1:=by
 unfold rY;split<;>simp
def Ea(kvs:List (List Key×D))(k k2:List Key)(d:D):iJ (rY kvs k d) k2=if k=k2 then some d else iJ kvs k2:=by
 unfold rY;by_cases h:(kvs.any λkv=>decide (kv.1=k))=true
 ·rw[ae9 h]
  induction kvs with
  | nil=>simp at h
  | cons p r ih =>
   rw[gB,Hj,Hj];by_cases e:p.1=k
   ·rw[ae9 e];simp only;by_cases e2:k=k2
    ·rw[ae9 (e.trans e2),ae9 e2]
    ·rw[ae_ (λz=>e2 (e.symm.trans z)),ae_ e2,ae_ (λz=>e2 (e.symm.trans z))];by_cases h2:(r.any λkv=>decide (kv.1=k))=true
     ·rw[ih h2,ae_ e2]
     ·congr 1;have:r.map (λkv=>if kv.1=k then (kv.1,d) else kv)=r:=by
       conv=>rhs;rw[<-List.map_id r]
       refine mV λq hq=>?_;rw[ae_];rfl;intro z;exact h2 (nU.mpr ⟨q,hq,by simpa using z⟩)
      rw[this]
   ·rw[ae_ e];have h2:(r.any λkv=>decide (kv.1=k))=true:=by simpa[e] using h
    rw[ih h2];by_cases e2:k=k2
    ·rw[ae9 e2,ae9 e2,ae_ (λz=>e (z.trans e2.symm))]
    ·rw[ae_ e2,ae_ e2]
 ·rw[ae_ h]
  induction kvs with
  | nil=>rw[k_,Hj]
  | cons p r ih =>
   rw[kJ,Hj,Hj];have h1:¬ p.1=k:=λz=>h (by simp[z]);have h2:¬ (r.any λkv=>decide (kv.1=k))=true:=λz=>h (by rw[my,z];simp);rw[ih h2];by_cases e2:k=k2
   ·rw[ae9 e2,ae9 e2,ae_ (λz=>h1 (z.trans e2.symm))]
   ·rw[ae_ e2,ae_ e2]
def Jc(h:q∈rY kvs k d):q∈kvs\/q.2=d:=by
 unfold rY at h
 split at h
 ·obtain⟨p,hp,rfl⟩:=g8.mp h;by_cases e:p.1=k
  ·rw[ae9 e];exact .inr rfl
  ·rw[ae_ e];exact .inl hp
 ·rcases gm.mp h with h | h
  ·exact .inl h
  ·exact .inr (by rw[gQ.mp h])
def Nm(h:aq st n=some ds):cO [.loc n] st=.ok (.int ds.length) st:=by
 have h2:=zi3 st n ds h;unfold aq at h;unfold cO
 split at h
 ·rename_i q;simp only[q];exact h2
 ·rename_i q;simp only[q];exact h2
 ·cases h
end Law
set_option maxHeartbeats 0
namespace M
open L2
structure Rl where
 s:Nat
 x:Nat
 w:List Nat
 g:Nat
inductive TK where
 | gr (w:List Nat) (t:Nat) | bk (t:Nat)
 deriving DecidableEq
inductive TS where
 | tp (n:Nat) | tk (k:TK)
 deriving DecidableEq
open TK TS
structure TQ where
 s:TS
 x:Nat
 w:Nat
 mv:Bool
 g:TS
def j4(r:Rl):TQ:=⟨tp r.s,r.x,95,true,tk (gr r.w r.g)⟩
def jg(k:TK)(mv:Bool)(c:Nat):TQ:=⟨tk k,c,c,mv,tk k⟩
def fu(w:List Nat)(t:Nat):TQ:=match w with
 | []=>⟨tk (gr [] t),95,95,false,tk (bk t)⟩
 | c::r=>⟨tk (gr (c::r) t),95,c,true,tk (gr r t)⟩
def rG(t:Nat):TQ:=⟨tk (bk t),95,95,true,tp t⟩
inductive Gd (RL:List Rl) (signs:List Nat):TQ->Prop where
 | src (r:Rl) (h:r∈RL):Gd RL signs (j4 r)
 | pas (w:List Nat) (t c:Nat) (h:c∈signs):Gd RL signs (jg (gr w t) true c)
 | gro (w:List Nat) (t:Nat):Gd RL signs (fu w t)
 | pab (t c:Nat) (h:c∈signs):Gd RL signs (jg (bk t) false c)
 | bak (t:Nat):Gd RL signs (rG t)
def Gd.one(hs:95∉signs)(hR:∀r∈RL,∀r'∈RL,r.s=r'.s->r.x=r'.x->r.w=r'.w/\r.g=r'.g)(hp:Gd RL signs p)(hq:Gd RL signs q)(e1:p.s=q.s)(e2:p.x=q.x):p=q:=by
 have ng:∀(w:List Nat) (t:Nat),(fu w t).s=tk (gr w t)/\(fu w t).x=95:=λw t=>by cases w<;>exact⟨rfl,rfl⟩
 cases hp with
 | src r h =>
  cases hq with
  | src r' h' =>
   obtain⟨a,b⟩:=hR r h r' h' (TS.tp.inj e1) e2;simp only[j4,jg,rG]at e1 e2;simp[j4,a,b,e1,e2]
  | pas w t c _=>cases e1
  | gro w t=>rw[(ng w t).1]at e1;cases e1
  | pab t c _=>cases e1
  | bak t=>cases e1
 | pas w t c h =>
  cases hq with
  | src r' h'=>cases e1
  | pas w' t' c' _=>cases e1;cases e2;rfl
  | gro w' t'=>rw[(ng w' t').2]at e2;cases e2;exact absurd h hs
  | pab t c _=>cases e1
  | bak t=>cases e1
 | gro w t =>
  rw[(ng w t).1]at e1;rw[(ng w t).2]at e2;cases hq with
  | src r' h'=>cases e1
  | pas w' t' c' h'=>simp only[jg]at e2;subst e2;exact absurd h' hs
  | gro w' t'=>rw[(ng w' t').1]at e1;cases e1;rfl
  | pab t c _=>cases e1
  | bak t=>cases e1
 | pab t c h =>
  cases hq with
  | src r' h'=>cases e1
  | pas w' t' c' h'=>cases e1
  | gro w' t'=>rw[(ng w' t').1]at e1;cases e1
  | pab t' c' _=>cases e1;cases e2;rfl
  | bak t'=>simp only[jg,rG]at e2;subst e2;exact absurd h hs
 | bak t =>
  cases hq with
  | src r' h'=>cases e1
  | pas w' t' c' h'=>cases e1
  | gro w' t'=>rw[(ng w' t').1]at e1;cases e1
  | pab t' c' h'=>simp only[jg,rG]at e2;subst e2;exact absurd h' hs
  | bak t'=>cases e1;rfl
def qC:TK->List Key
 | gr w t=>[.inr (strOf [103,114,111,119]),.inr (strOf w),.inl (t:Nat)]
 | bk t=>[.inr (strOf [98,97,99,107]),.inl (t:Nat)]
def qD:TK->List D
 | gr w t=>[.str [103,114,111,119],.str w,.int t]
 | bk t=>[.str [98,97,99,107],.int t]
def zom(k:TK):keysOf (qD k)=some (qC k):=by cases k<;>rfl
def zl8(h:qC a=qC b):a=b:=by
 cases a<;>cases b<;>simp[qC,zfz]at h
 ·obtain⟨h1,h2⟩:=h;rw[h1,show _=_ from afz h2]
 ·rw[show _=_ from afz h]
def sW(k:TK):List TK->Nat
 | []=>0
 | j::ks=>if j=k then 0 else sW k ks+1
def Jj(h:k∈ks)(l:List TK):sW k (ks++l)=sW k ks:=by
 induction ks with
 | nil=>exact nomatch h
 | cons j ks ih =>
  rw[kJ,sW,sW];by_cases e:j=k
  ·rw[ae9 e,ae9 e]
  ·rw[ae_ e,ae_ e,ih (by rcases gj.mp h with z | z;exact absurd z.symm e;exact z)]
def zo0(h:k∈ks):ks[sW k ks]? = some k:=by
 induction ks with
 | nil=>exact nomatch h
 | cons j ks ih =>
  rw[sW];by_cases e:j=k
  ·rw[ae9 e,e];rfl
  ·rw[ae_ e,ni];exact ih (by rcases gj.mp h with z | z;exact absurd z.symm e;exact z)
def cU:Nat->List TK->List (List Key×D)
 | _,[]=>[]
 | f,k::ks=>(qC k,.int f)::cU (f+1) ks
theorem zlc:∀(f:Nat) (ks:List TK),(cU f ks).length=ks.length
 | _,[]=>rfl
 | f,k::ks=>by rw[cU,gC,zlc,gC]
theorem zmh:∀(f:Nat) (ks:List TK) (k:TK),cU f (ks++[k])=cU f ks++[(qC k,.int ((f+ks.length:Nat):Int))]
 | f,[],k=>by simp[cU]
 | f,j::ks,k=>by
  rw[kJ,cU,zmh (f+1) ks k,cU];simp only[kJ,gC];congr 6;omega
theorem zZ:∀(f:Nat) (ks:List TK) (k:TK),iJ (cU f ks) (qC k)=if k∈ks then some (.int ((f+sW k ks:Nat):Int)) else none
 | f,[],k=>by simp[cU]
 | f,j::ks,k=>by
  rw[cU,Hj,zZ (f+1) ks k];by_cases h:j=k
  ·subst h;simp[sW]
  ·have hk:¬ qC j=qC k:=λz=>h (zl8 z);rw[ae_ hk];by_cases hm:k∈ks
   ·rw[ae9 hm,ae9 (by simp[hm]),sW,ae_ h];congr 3;omega
   ·rw[ae_ hm,ae_ (by simp[hm];exact λz=>h z.symm)]
def abW(f:Nat)(ks:List TK)(k:TK)(h:k∉ks):((cU f ks).any λkv=>decide (kv.1=qC k))=false:=by
 induction ks generalizing f with
 | nil=>rfl
 | cons j ks ih =>
  rw[cU,my,ih (f+1) (λz=>h (by simp[z]))];have:¬ qC j=qC k:=λz=>h (by simp[zl8 z]);simp[this]
def cj(ks:List TK)(k:TK):List TK:=if k∈ks then ks else ks++[k]
def T4(ks:List TK)(k:TK):k∈cj ks k:=by unfold cj;split;assumption;simp
def Yb(ks:List TK)(k:TK):∃l,cj ks k=ks++l:=by unfold cj;split;exact⟨[],by simp⟩;exact⟨[k],rfl⟩
def X8(ks:List TK)(k:TK):(cj ks k).length<=ks.length+1:=by unfold cj;split<;>simp
def bR(f:Nat)(ks:List TK):TS->Nat
 | tp n=>n
 | tk k=>f+sW k ks
def Wr(ks:List TK):TS->Prop
 | tp _=>True
 | tk k=>k∈ks
def znt(l:List TK)(h:Wr ks s):Wr (ks++l) s:=by
 cases s with
 | tp n=>trivial
 | tk k=>exact gW _ h
def zhd(l:List TK)(h:Wr ks s):bR f (ks++l) s=bR f ks s:=by
 cases s with
 | tp n=>rfl
 | tk k=>show f+sW k (ks++l)=f+sW k ks;rw[Jj h]
def JD(h1:Wr ks s)(h2:Wr ks u)(hp:∀n,s=tp n->n<f)(hq:∀n,u=tp n->n<f)(e:bR f ks s=bR f ks u):s=u:=by
 cases s with
 | tp n =>
  cases u with
  | tp m=>exact congrArg tp e
  | tk k=>have:=hp n rfl;simp only[bR]at e;omega
 | tk j =>
  cases u with
  | tp m=>have:=hq m rfl;simp only[bR]at e;omega
  | tk k =>
   simp only[bR]at e;have e2:sW j ks=sW k ks:=by omega
   have h1:j∈ks:=h1;have h2:k∈ks:=h2;have a:=zo0 h1;have b:=zo0 h2;rw[e2,b]at a;cases a;rfl
def mvC(b:Bool):Nat:=if b then 114 else 108
def bN(f:Nat)(ks:List TK)(r:TQ):D:=.tup [.int (bR f ks r.s:Nat),.str [r.x],.str [r.w],.str [mvC r.mv],.int (bR f ks r.g:Nat)]
def q_(ks:List TK)(r:TQ):Prop:=Wr ks r.s/\Wr ks r.g
def zhb(l:List TK)(h:q_ ks r):q_ (ks++l) r:=⟨znt l h.1,znt l h.2⟩
def Gv(l:List TK)(h:q_ ks r):bN f (ks++l) r=bN f ks r:=by
 unfold bN;rw[zhd l h.1,zhd l h.2]
def zgb{f:Nat}{ks:List TK}{rs:List TQ}(l:List TK)(h:∀r∈rs,q_ ks r):rs.map (bN f (ks++l))=rs.map (bN f ks):=mV λr hr=>Gv l (h r hr)
def X5(n f:Nat)(ks:List TK):aU n (.dic (cU f ks)):=by
 induction ks generalizing f with
 | nil=>intro p hp;exact nomatch hp
 | cons k ks ih =>
  intro p hp;rcases gj.mp hp with rfl | hp
  ·simp
  ·exact ih (f+1) p hp
def zhv(n f:Nat)(ks:List TK)(r:TQ):under n (bN f ks r):=by simp[bN]
def T_(n f:Nat)(ks:List TK)(rs:List TQ):aR n (rs.map (bN f ks)):=by
 induction rs with
 | nil=>simp
 | cons r rs ih=>simp[ih,zhv]
end M
namespace Law
open L2 M TK TS
structure uV(st:au)(a b f:Nat)(ks:List TK):Prop where
 ins:st[a]? = some (.ins "Numbers" [("first",.int f),("given",.loc b)])
 dic:st[b]? = some (.dic (cU f ks))
 ne:a≠b
 wf:M.wf st
def uV.set(h:uV st a b f ks):uV (st.set b (.dic (cU f ks'))) a b f ks':=by
 have hb:=(gk.mp h.dic).1;refine⟨by rw[mC (afv h.ne)];exact h.ins,mL hb,h.ne,?_⟩;intro o ho;rw[List.length_set];exact Nj h.wf (X5 _ _ _) o ho
def zjp(h:uV st a b f ks)(m:ME)(env:cg)(hm:m env st=.ok (.loc a) st):j6 "Numbers" "given" m env st=.ok (.loc b) st:=by
 unfold j6;rw[hm,R.aD];simp only[h.ins];simp only[afy,zkj]
def zo3(h:uV st a b f ks)(m:ME)(env:cg)(hm:m env st=.ok (.loc a) st):j6 "Numbers" "first" m env st=.ok (.int f) st:=by
 unfold j6;rw[hm,R.aD];simp only[h.ins];simp only[afy,zkb]
def zod(h:uV st a b f ks)(hl:ks.length<100000)(k:TK) :
  DR [.loc a,.tup (qD k)] st=.ok (.int (bR f (cj ks k) (tk k):Nat)) (st.set b (.dic (cU f (cj ks k)))):=by
 have hb:=(gk.mp h.dic).1;have v0:=zZ f ks k;have g1:∀(x:Option D),j6 "Numbers" "given" (vr 0) [some (.loc a),x] st=.ok (.loc b) st:=λx=>zjp h _ _ rfl;have g2:∀(x:Option D),j6 "Numbers" "first" (vr 0) [some (.loc a),x] st=.ok (.int f) st:=λx=>zo3 h _ _ rfl;have i1:vp true (.tup (qD k)) (.loc b) st=.ok (.bl (!decide (k∈ks))) st:=by
  simp only[vp,h.dic,zom,v0];by_cases c:k∈ks<;>simp[c]
 have h':uV (st.set b (.dic (cU f (cj ks k)))) a b f (cj ks k):=h.set;have g3:∀(x:Option D),j6 "Numbers" "given" (vr 0) [some (.loc a),x] (st.set b (.dic (cU f (cj ks k))))=.ok (.loc b) (st.set b (.dic (cU f (cj ks k)))):=λx=>zjp h' _ _ rfl;have ix:Kz (.loc b) (.tup (qD k)) (st.set b (.dic (cU f (cj ks k))))=.ok (.int (bR f (cj ks k) (tk k):Nat)) (st.set b (.dic (cU f (cj ks k)))):=by
  simp only[Kz,h'.dic,zom,zZ];rw[ae9 (T4 ks k)];rfl
 have hu:zT st (.ok (.int (bR f (cj ks k) (tk k):Nat)) (st.set b (.dic (cU f (cj ks k)))))=.ok (.int (bR f (cj ks k) (tk k):Nat)) (st.set b (.dic (cU f (cj ks k)))):=by
  have:=T3 (st:=st) (st':=st.set b (.dic (cU f (cj ks k)))) (g:=[]) (d:=.int (bR f (cj ks k) (tk k):Nat)) (by simp) (Nj h.wf (X5 _ _ _)) (by simp);simpa using this
 unfold DR qI eF Mz;rw[show startM 2 [D.loc a,.tup (qD k)]=[some (.loc a),some (.tup (qD k))] from rfl];generalize hG:j6 "Numbers" "given" (vr 0)=G at *;generalize hF:j6 "Numbers" "first" (vr 0)=FF at *;by_cases c:k∈ks
 ·have er:cj ks k=ks:=ae9 c;rw[er]at hu ix ⊢;rw[Zq h.dic]at hu ix ⊢;rw[afu c]at i1;generalize qD k=KT at *;generalize ((bR f ks (tk k):Nat):Int)=N at *;simp[g1,i1,ix];exact hu
 ·have er:cj ks k=ks++[k]:=ae_ c;rw[afd c]at i1;have ln:cO [.loc b] st=.ok (.int ks.length) st:=by simp only[cO,h.dic,zlc]
  have e1:(f:Int)+(ks.length:Int)=((f+ks.length:Nat):Int):=by omega
  have sd:jd (.loc b) (.tup (qD k)) (.int ((f+ks.length:Nat):Int)) st=.ok () (st.set b (.dic (cU f (cj ks k)))):=by
   simp only[jd,h.dic,zom];rw[ae9 (by rw[zlc];omega),er,zmh];unfold rY;rw[abW f ks k c,ae_ (by simp)]
  generalize st.set b (.dic (cU f (cj ks k)))=Z at *;generalize qD k=KT at *;generalize ((bR f (cj ks k) (tk k):Nat):Int)=N at *;generalize ((f+ks.length:Nat):Int)=FL at *;simp[g1,g2,i1,ln,e1,sd,g3,ix];exact hu
def zop(h:uV st a b f ks)(hl:ks.length<100000)(k:TK)(mo:ME)(mA:MA)(env:cg)(h1:mo env st=.ok (.loc a) st)(h2:mA env st=.ok [.tup (qD k)] st) :
  jM "Numbers" "number" DR mo mA env st=.ok (.int (bR f (cj ks k) (tk k):Nat)) (st.set b (.dic (cU f (cj ks k)))):=by
 unfold jM;rw[h1,R.aD];simp only[h.ins];rw[ae9 ⟨trivial,zir _ _⟩,h2,R.aD];rw[zod h hl k];simp only[h.ins]
 rfl
def gcT(h:uV st a b f ks)(v:Int):zT st (.ok (.int v) (st.set b (.dic (cU f ks'))))=.ok (.int v) (st.set b (.dic (cU f ks'))):=by
 have:=T3 (st:=st) (st':=st.set b (.dic (cU f ks'))) (g:=[]) (d:=.int v) (by simp) (Nj h.wf (X5 _ _ _)) (by simp);simpa using this
def zex(h:uV st a b f ks)(hl:ks.length<100000)(w:List Nat)(t:Nat) :
  Hz [.loc a,.str w,.int t] st=.ok (.int (bR f (cj ks (gr w t)) (tk (gr w t)):Nat)) (st.set b (.dic (cU f (cj ks (gr w t))))):=by
 unfold Hz qI eF Rm;rw[show startM 3 [D.loc a,.str w,.int t]=[some (.loc a),some (.str w),some (.int t)] from rfl];have mt:=zop h hl (gr w t) (vr 0) (aj (bZ (aj (ct (.str [103,114,111,119])) (aj (vr 1) (aj (vr 2) az)))) az) [some (.loc a),some (.str w),some (.int t)] rfl (by simp[qD]);have hu:=gcT h (ks':=cj ks (gr w t)) ((bR f (cj ks (gr w t)) (tk (gr w t)):Nat):Int);generalize jM _ _ _ _ _=MI at *;generalize st.set b (.dic (cU f (cj ks (gr w t))))=Z at *;generalize ((bR f (cj ks (gr w t)) (tk (gr w t)):Nat):Int)=N at *;generalize (t:Int)=T at *;simp[mt];exact hu
def zg1(h:uV st a b f ks)(hl:ks.length<100000)(t:Nat) :
  Rp [.loc a,.int t] st=.ok (.int (bR f (cj ks (bk t)) (tk (bk t)):Nat)) (st.set b (.dic (cU f (cj ks (bk t))))):=by
 unfold Rp qI eF Yj;rw[show startM 2 [D.loc a,.int t]=[some (.loc a),some (.int t)] from rfl];have mt:=zop h hl (bk t) (vr 0) (aj (bZ (aj (ct (.str [98,97,99,107])) (aj (vr 1) az))) az) [some (.loc a),some (.int t)] rfl (by simp[qD]);have hu:=gcT h (ks':=cj ks (bk t)) ((bR f (cj ks (bk t)) (tk (bk t)):Nat):Int);generalize jM _ _ _ _ _=MI at *;generalize st.set b (.dic (cU f (cj ks (bk t))))=Z at *;generalize ((bR f (cj ks (bk t)) (tk (bk t)):Nat):Int)=N at *;generalize (t:Int)=T at *;simp[mt];exact hu
end Law
set_option maxHeartbeats 0
namespace M
open L2 TK TS
def cW{α:Type}[DecidableEq α](ps:List α)(p:α):List α:=if p∈ps then ps else ps++[p]
def zk6[DecidableEq α](ps:List α)(p:α):p∈cW ps p:=by unfold cW;split;assumption;simp
def zjb[DecidableEq α](p:α)(h:q∈ps):q∈cW ps p:=by unfold cW;split;exact h;simp[h]
def Zy{α:Type}[DecidableEq α]{ps:List α}{p q:α}(h:q∈cW ps p):q∈ps\/q=p:=by
 unfold cW at h
 split at h
 ·exact .inl h
 ·rcases gm.mp h with h | h
  ·exact .inl h
  ·exact .inr (gQ.mp h)
def X_[DecidableEq α](ps:List α)(p:α):(cW ps p).length<=ps.length+1:=by unfold cW;split<;>simp
def Yg[DecidableEq α](h:ps.Nodup)(p:α):(cW ps p).Nodup:=by
 unfold cW
 split
 ·exact h
 ·rename_i hn;rw[nR];exact⟨h,by simp,λa ha b hb e=>by
   have hb:b=p:=by simpa using hb
   rw[hb]at e;exact hn (e ▸ ha)⟩
def Ag(p:List Nat×Nat):List Key:=[.inr (strOf p.1),.inl (p.2:Nat)]
def Kg(h:Ag p=Ag q):p=q:=by
 obtain⟨a,b⟩:=p;obtain⟨c,d⟩:=q;simp only[Ag,List.cons.injEq,Sum.inr.injEq,Sum.inl.injEq,and_true,zfz]at h;obtain⟨rfl,h2⟩:=h;have:b=d:=afz h2;rw[this]
def a_(ps:List (List Nat×Nat)):List (List Key×D):=ps.map λp=>(Ag p,.bl true)
def Ke(ps:List (List Nat×Nat)):(a_ ps).length=ps.length:=by simp[a_]
def Kd(ps:List (List Nat×Nat))(p:List Nat×Nat):rY (a_ ps) (Ag p) (.bl true)=a_ (cW ps p):=by
 unfold rY cW;by_cases h:p∈ps
 ·rw[ae9 h,ae9 (by simp only[a_,List.any_map,nU];exact⟨p,h,by simp⟩)];unfold a_;rw[gY];refine mV λq _=>?_;simp only[Function.comp]
  split<;>rfl
 ·rw[ae_ h,ae_]
  ·simp[a_]
  ·simp only[a_,List.any_map,nU,Function.comp,afL,not_exists,not_and];intro q hq e;exact h (Kg e ▸ hq)
def V5(p:List Nat×Nat):keysOf [.str p.1,.int (p.2:Nat)]=some (Ag p):=rfl
def BL(h:st[n]? = some (.dic (a_ ps)))(hl:ps.length<1000000)(w:List Nat)(g:Nat):jd (.loc n) (.tup [.str w,.int g]) (.bl true) st=.ok () (st.set n (.dic (a_ (cW ps (w,g))))):=by
 have k:=V5 (w,g);simp only at k;simp only[jd,h,k];rw[ae9 (by rw[Ke];exact hl),Kd]
def zf1(ps:List (List Nat×Nat)):(a_ ps).map (λp=>D.tup (p.1.map o8))=ps.map λp=>.tup [.str p.1,.int (p.2:Nat)]:=by
 unfold a_;rw[gY];refine mV λp _=>?_;simp[Function.comp,Ag,o8]
def Ye(n:Nat)(ps:List (List Nat×Nat)):∀p∈a_ ps,under n p.2:=by
 intro p hp;obtain⟨q,_,rfl⟩:=g8.mp hp;simp
def i_(ts:List Nat):List (Key×D):=ts.map λt=>(.inl (t:Nat),.bl true)
def Kf(ts:List Nat)(t:Nat):putN (i_ ts) (.inl (t:Nat)) (.bl true)=i_ (cW ts t):=by
 unfold putN cW;by_cases h:t∈ts
 ·rw[ae9 h,ae9 (by simp only[i_,List.any_map,nU];exact⟨t,h,by simp⟩)];unfold i_;rw[gY];refine mV λq _=>?_;simp only[Function.comp]
  split<;>rfl
 ·rw[ae_ h,ae_]
  ·simp[i_]
  ·simp only[i_,List.any_map,nU,Function.comp,afL,not_exists,not_and];intro q hq e;have e2:(q:Int)=(t:Nat):=Sum.inl.inj e;have e3:q=t:=by omega
   exact h (e3 ▸ hq)
def U4(h:st[n]? = some (.dkc (i_ ts)))(hl:ts.length<1000000)(t:Nat):wV (.loc n) (.int t) (.bl true) st=.ok () (st.set n (.dkc (i_ (cW ts t)))):=by
 simp only[wV,h,ZZ];rw[ae9 (by simpa[i_] using hl),Kf]
def zpp(ts:List Nat):(i_ ts).map (λp=>o8 p.1)=ts.map λt=>D.int (t:Nat):=by
 unfold i_;rw[gY]
 rfl
def zkn(n:Nat)(ts:List Nat):∀p∈i_ ts,under n p.2:=by
 intro p hp;obtain⟨q,_,rfl⟩:=g8.mp hp;simp
end M
namespace Law
open L2 M TK TS
def zjo(v:Int)(signs:List Nat)(mv:List Nat)(st:au)(hs:∀c∈signs,c<128)(hl:signs.length<=1000) :
  Ud [.int v,.str signs,.str mv] st=.ok (.loc st.length) (st++[.lst (signs.map λc=>.tup [.int v,.str [c],.str [c],.str mv,.int v])]):=by
 unfold Ud jP eF Yo;rw[show startM 3 [D.int v,.str signs,.str mv]=[some (.int v),some (.str signs),some (.str mv)] from rfl];have cm:=Yc (capt:=[some 0,some 2,none]) (mi:=N6 (vr 1)) (g:=aK 2) (e:=bZ (aj (vr 0) (aj (vr 2) (aj (vr 2) (aj (vr 1) (aj (vr 0) az)))))) (env:=[some (.int v),some (.str signs),some (.str mv)]) (st:=st) (st1:=st) (items:=signs.map λc=>D.str [c]) (gs:=[])
  (λd=>.tup [.int v,d,d,.str mv,.int v]) (λenv=>∃x,env=[some (.int v),some (.str mv),x]) (by
   have:signs.all (λc=>decide (c<128))=true:=by simpa using hs
   simp;exact hs) ⟨none,rfl⟩ (by simp;omega) (λ_=>by simp) (by
   rintro d hd dG ys ⟨x,rfl⟩;refine⟨[some (.int v),some (.str mv),some d],⟨_,rfl⟩,by simp,?_⟩;simp)
 rw[gY]at cm;have g:=Nk (st:=st) (o:=.lst (signs.map λc=>.tup [.int v,.str [c],.str [c],.str mv,.int v])) (by
  rw[show aU st.length (MO.lst _)=aR st.length _ from rfl,Mu];intro d hd;obtain⟨c,_,rfl⟩:=g8.mp hd;simp)
 have e:((λd=>D.tup [.int v,d,d,.str mv,.int v])∘λc=>D.str [c])=λc:Nat=>D.tup [.int v,.str [c],.str [c],.str mv,.int v]:=rfl;rw[e]at cm;generalize hC:lF _ _ _ _ _=C at *;generalize (signs.map λc=>D.tup [.int v,.str [c],.str [c],.str mv,.int v])=Z at *;simp[cm];exact g
def zu(ks:List TK)(w:List Nat)(t:Nat):List TK:=match w with
 | []=>cj (cj ks (gr [] t)) (bk t)
 | c::v=>cj (cj ks (gr (c::v) t)) (gr v t)
def zo8(h:uV st a b f ks)(hl:ks.length+2<100000)(w:List Nat)(t:Nat)(hw:w.length<=1000) :
  ∃ks' l,ks'=ks++l/\ks'=zu ks w t/\ks'.length<=ks.length+2/\q_ ks' (fu w t)/\Ym [.loc a,.str w,.int t] st=.ok (bN f ks' (fu w t)) (st.set b (.dic (cU f ks'))):=by
 have s1:=zex h (by omega) w t;obtain⟨l1,e1⟩:=Yb ks (gr w t);have n1:=X8 ks (gr w t);have m1:=T4 ks (gr w t);have h1:=h.set (ks':=cj ks (gr w t));generalize yx:cj ks (gr w t)=bJ at *;unfold Ym qI eF zby;rw[show startM 4 [D.loc a,.str w,.int t]=[some (.loc a),some (.str w),some (.int t),none] from rfl];cases w with
 | nil =>
  have s2:=zg1 h1 (by omega) t;obtain⟨l2,e2⟩:=Yb bJ (bk t);have n2:=X8 bJ (bk t);have m2:=T4 bJ (bk t);generalize KZ:cj bJ (bk t)=cQ at *;refine⟨cQ,l1++l2,by rw[e2,e1,gG],by unfold zu;rw[<-KZ,<-yx],by omega,⟨?_,m2⟩,?_⟩
  ·show gr [] t∈cQ;rw[e2];exact gW _ m1
  ·have hv:bR f bJ (tk (gr [] t))=bR f cQ (tk (gr [] t)):=by rw[e2];exact (zhd l2 (s:=tk (gr [] t)) m1).symm
   rw[hv]at s1;rw[set_set]at s2;have g:=T3 (st:=st) (st':=st.set b (.dic (cU f cQ))) (g:=[]) (d:=bN f cQ (fu [] t)) (by simp) (Nj h.wf (X5 _ _ _)) (zhv _ _ _ _);simp only[kh]at g;have eD:bN f cQ (fu [] t)=.tup [.int (bR f cQ (tk (gr [] t)):Nat),.str [95],.str [95],.str [108],.int (bR f cQ (tk (bk t)):Nat)]:=rfl;rw[eD]at g ⊢;generalize st.set b (.dic (cU f cQ))=Z2 at *;generalize st.set b (.dic (cU f bJ))=Z1 at *;generalize ((bR f cQ (tk (gr [] t)):Nat):Int)=V1 at *;generalize ((bR f cQ (tk (bk t)):Nat):Int)=V2 at *;generalize (t:Int)=T at *;simp[s1,s2];exact g
 | cons c r =>
  have s2:=zex h1 (by omega) r t;obtain⟨l2,e2⟩:=Yb bJ (gr r t);have n2:=X8 bJ (gr r t);have m2:=T4 bJ (gr r t);generalize KZ:cj bJ (gr r t)=cQ at *;refine⟨cQ,l1++l2,by rw[e2,e1,gG],by unfold zu;rw[<-KZ,<-yx],by omega,⟨?_,m2⟩,?_⟩
  ·show gr (c::r) t∈cQ;rw[e2];exact gW _ m1
  ·have hv:bR f bJ (tk (gr (c::r) t))=bR f cQ (tk (gr (c::r) t)):=by rw[e2];exact (zhd l2 (s:=tk (gr (c::r) t)) m1).symm
   rw[hv]at s1;rw[set_set]at s2;have g:=T3 (st:=st) (st':=st.set b (.dic (cU f cQ))) (g:=[]) (d:=bN f cQ (fu (c::r) t)) (by simp) (Nj h.wf (X5 _ _ _)) (zhv _ _ _ _);simp only[kh]at g;have eD:bN f cQ (fu (c::r) t)=.tup [.int (bR f cQ (tk (gr (c::r) t)):Nat),.str [95],.str [c],.str [114],.int (bR f cQ (tk (gr r t)):Nat)]:=rfl;rw[eD]at g ⊢;generalize st.set b (.dic (cU f cQ))=Z2 at *;generalize st.set b (.dic (cU f bJ))=Z1 at *;generalize ((bR f cQ (tk (gr (c::r) t)):Nat):Int)=V1 at *;generalize ((bR f cQ (tk (gr r t)):Nat):Int)=V2 at *;generalize (t:Int)=T at *;have x1:=RZ c r Z1 (by omega);have x2:=Ij (c::r) Z1 (by omega);rw[List.tail_cons]at x2;simp[s1,x1,x2,s2];exact g
end Law
set_option maxHeartbeats 0
namespace Law
open L2 M TK TS
def ZS(w:List Nat)(k:Nat)(h:k<=w.length):cut w (some (k:Nat)) none=w.drop k:=by
 unfold cut;rw[HT.zn0,HT.ZJ,p7 h];rw[nH (by simp)]
structure Lft(ps qs:List (List Nat×Nat))(n:Nat):Prop where
 all:∀p∈ps,∀k,k<=p.1.length->(p.1.drop k,p.2)∈qs
 of_:∀q∈qs,∃p∈ps,∃k,k<=p.1.length/\q=(p.1.drop k,p.2)
 len:qs.length<=n
 nd:qs.Nodup
def Cr(qs:List (List Nat×Nat))(w:List Nat)(t:Nat):Nat->List (List Nat×Nat)
 | 0=>qs
 | j+1=>cW (Cr qs w t j) (w.drop j,t)
def Hl(ps:List (List Nat×Nat)):List (List Nat×Nat):=ps.foldl (λqs p=>Cr qs p.1 p.2 (p.1.length+1)) []
def J7(ps:List (List Nat×Nat))(p:List Nat×Nat):Hl (ps++[p])=Cr (Hl ps) p.1 p.2 (p.1.length+1):=by unfold Hl;rw[nA];rfl
def zkc(ps:List (List Nat×Nat))(n B:Nat)(st:au)(hg:st[n]? = some (.dtf (a_ ps)))(hB:∀p∈ps,p.1.length<=B)(hl:ps.length<=1000)(hb:B<=100) :
  ∃qs,qs=Hl ps/\Lft ps qs (ps.length*(B+1))/\zde [.loc n] st=.ok (.loc st.length) (st++[.dic (a_ qs)]):=by
 have aeI:ps.length*(B+1)<=1000*101:=Nat.mul_le_mul hl (by omega);unfold zde jP eF zct;generalize hBi:(iV (ct (.bl true)) (qT jd (vr 1) _):MS)=BI;generalize hBo:(jT (iK _) (aK 3) BI:MS)=BO;obtain⟨dG,st',e1,qs,a2,a3,hQ,hq,rfl,rfl⟩:=yO (g:=aK 2) (b:=BO) (gs:=[]) (items:=ps.map λp=>D.tup [.str p.1,.int (p.2:Nat)])
  (λi env s=>∃(qs:List (List Nat×Nat)) (a2 a3:Option D),qs=Hl (ps.take i)/\Lft (ps.take i) qs (i*(B+1))/\env=[some (.loc n),some (.loc st.length),a2,a3]/\s=st++[.dic (a_ qs)])
  (env:=[some (.loc n),some (.loc st.length),none,none]) (st:=st++[.dic []]) ⟨[],none,none,rfl,⟨by simp,by simp,by simp,by simp⟩,rfl,rfl⟩ (by
   rintro i d env s hi ⟨qs,a2,a3,hQ,hq,rfl,rfl⟩;rw[gH]at hi;obtain⟨⟨w,t⟩,hp,rfl⟩:=gO.mp hi;have hpm:=gM hp;have Df:=(gk.mp hp).1;have hw:=hB _ hpm;simp only at hw;have him:i*(B+1)+(B+1)<=ps.length*(B+1):=by
    have:=pD (B+1) (show i+1<=ps.length by omega);rw[Nat.add_mul,Nat.one_mul]at this;exact this

   obtain⟨bF,st2,e2,vg,a3',hQ2,ha,hb2,hc,hd,rfl,rfl⟩:=yO (g:=aK 3) (b:=BI) (gs:=[]) (items:=j9 0 (w.length+1))
    (λj env s=>∃(vg:List (List Nat×Nat)) (a3:Option D),vg=Cr qs w t j/\(∀q∈qs,q∈vg)/\(∀k,k<j->(w.drop k,t)∈vg)/\(∀q∈vg,q∈qs\/∃k,k<=w.length/\q=(w.drop k,t))/\(vg.length<=qs.length+j/\vg.Nodup)/\env=[some (.loc n),some (.loc st.length),some (.tup [.str w,.int t]),a3]/\s=st++[.dic (a_ vg)])
    (env:=[some (.loc n),some (.loc st.length),some (.tup [.str w,.int t]),a3]) (st:=st++[.dic (a_ qs)]) ⟨qs,a3,rfl,λ_ h=>h,λk h=>absurd h (by omega),λq h=>.inl h,⟨by omega,hq.nd⟩,rfl,rfl⟩ (by
     rintro j d env s hj ⟨vg,a3,hQ2,ha,hb2,hc,⟨hd,xQ⟩,rfl,rfl⟩;obtain⟨hj',rfl⟩:=TJ hj;have ej:(0:Int)+(j:Int)=(j:Int):=by omega
     rw[ej];have ql:=hq.len;have sd:=BL (st:=st++[.dic (a_ vg)]) (n:=st.length) (ps:=vg) (by simp) (by omega) (w.drop j) t;have e5:(st++[MO.dic (a_ vg)]).set st.length (.dic (a_ (cW vg (w.drop j,t))))=st++[.dic (a_ (cW vg (w.drop j,t)))]:=by simp
     rw[e5]at sd;have al:=X_ vg (w.drop j,t);refine⟨by simp,[some (.loc n),some (.loc st.length),some (.tup [.str w,.int t]),some (.int j)],st++[.dic (a_ vg)],by simp,[some (.loc n),some (.loc st.length),some (.tup [.str w,.int t]),some (.int j)],st++[.dic (a_ (cW vg (w.drop j,t)))],.inl ?_,cW vg (w.drop j,t),_,by rw[hQ2];rfl,λq h=>zjb _ (ha q h),?_,?_,⟨by omega,Yg xQ _⟩,rfl,rfl⟩
     ·rw[<-hBi];have x1:vG (.str w) (some (j:Int)) none (st++[.dic (a_ vg)])=.ok (.str (w.drop j)) (st++[.dic (a_ vg)]):=by rw[Hg _ _ _ _ (by omega),ZS w j (by omega)]
      have x2:∀s,bz (.tup [.str w,.int t]) (.int 0) s=.ok (.str w) s:=λs=>qb _ _ _ _ rfl;have x3:∀s,bz (.tup [.str w,.int t]) (.int 1) s=.ok (.int t) s:=λs=>qb _ _ _ _ rfl;generalize st++[MO.dic (a_ (cW vg (w.drop j,t)))]=Z2 at *;generalize st++[MO.dic (a_ vg)]=Z1 at *;generalize w.drop j=W at *;generalize (t:Int)=T at *;generalize (j:Int)=J at *;generalize D.tup [.str w,.int T]=TT at *;simp[x1,x2,x3,sd]
     ·intro k hk;by_cases hkj:k<j
      ·exact zjb _ (hb2 k hkj)
      ·have:k=j:=by omega
       subst this;exact zk6 _ _
     ·intro q Y5;rcases Zy Y5 with h | h
      ·exact hc q h
      ·exact .inr ⟨j,by omega,h⟩) (λ_ _ _=>by simp)
   rw[Nq]at hb2 hd hQ2;have tk:ps.take (i+1)=ps.take i++[(w,t)]:=by rw[mz,hp];rfl
   have ql:=hq.len;refine⟨by simp,[some (.loc n),some (.loc st.length),some (.tup [.str w,.int t]),a3],st++[.dic (a_ qs)],by simp,[some (.loc n),some (.loc st.length),some (.tup [.str w,.int t]),a3'],st++[.dic (a_ vg)],.inl ?_,vg,_,_,by rw[tk,J7,<-hQ];exact hQ2,⟨?_,?_,by rw[Nat.add_mul];omega,hd.2⟩,rfl,rfl⟩
   ·rw[<-hBo];have x2:∀s,bz (.tup [.str w,.int t]) (.int 0) s=.ok (.str w) s:=λs=>qb _ _ _ _ rfl;have ln:∀s,cO [.str w] s=.ok (.int w.length) s:=λs=>by simp[cO,uH];omega
    have en:(w.length:Int)+1=((w.length+1:Nat):Int):=by omega
    have uw:((w.length+1:Nat):Int)<4611686018427387904:=by omega
    have Dc:-4611686018427387904<=((w.length+1:Nat):Int):=by omega
    generalize st++[MO.dic (a_ vg)]=Z2 at *;generalize st++[MO.dic (a_ qs)]=Z1 at *;generalize D.tup [.str w,.int (t:Int)]=TT at *;have et:(((w.length+1:Nat):Int)).toNat=w.length+1:=by omega
    generalize hN:((w.length+1:Nat):Int)=N at *;simp[x2,ln,en,uw,Dc,et,e2]
   ·intro p dY k hk;rw[tk]at dY;rcases gm.mp dY with h | h
    ·exact ha _ (hq.all p h k hk)
    ·have:p=(w,t):=gQ.mp h;subst this;exact hb2 k (Nat.lt_succ_of_le hk)
   ·intro q Y5;rcases hc q Y5 with h | ⟨k,hk,h⟩
    ·obtain⟨p,h1,h2⟩:=hq.of_ q h;exact⟨p,by rw[tk];exact gW _ h1,h2⟩
    ·exact⟨(w,t),by rw[tk];simp,k,hk,h⟩) (λ_ _ _=>by simp)
 rw[gq]at hq hQ;rw[m9]at hq hQ;refine⟨qs,hQ,hq,?_⟩;have zQ:=BW (m:=vr 0) (env:=[some (.loc n),some (.loc st.length),none,none]) (st:=st++[.dic []]) (st1:=st++[.dic []]) rfl (fZ hg);rw[zf1]at zQ;have g:=Nk (st:=st) (o:=.dic (a_ qs)) (Ye _ _);rw[show startM 4 [D.loc n]=[some (.loc n),none,none,none] from rfl];generalize hD:Gx (vr 0)=DT at *;generalize (ps.map λp=>D.tup [.str p.1,.int (p.2:Nat)])=IT at *;generalize hZ:st++[MO.dic (a_ qs)]=Z at *;simp[wu,zQ,e1];exact g
def HX(ps:List (List Nat×Nat)):List Nat:=ps.foldl (λts p=>cW ts p.2) []
def HW(ps:List (List Nat×Nat))(p:List Nat×Nat):HX (ps++[p])=cW (HX ps) p.2:=by unfold HX;rw[nA];rfl
def zj9(ps:List (List Nat×Nat))(n:Nat)(st:au)(hg:st[n]? = some (.dtf (a_ ps)))(hl:ps.length<=1000) :
  ∃ts:List Nat,ts=HX ps/\(∀p∈ps,p.2∈ts)/\(∀t∈ts,∃p∈ps,p.2=t)/\ts.length<=ps.length/\ts.Nodup/\Uc [.loc n] st=.ok (.loc st.length) (st++[.dkc (i_ ts)]):=by
 unfold Uc jP eF zcu;generalize hBi:(iV (ct (.bl true)) (qT wV (vr 1) _):MS)=BI;obtain⟨dG,st',e1,ts,a2,hT,h1,h2,h3,h4,rfl,rfl⟩:=yO (g:=aK 2) (b:=BI) (gs:=[]) (items:=ps.map λp=>D.tup [.str p.1,.int (p.2:Nat)])
  (λi env s=>∃(ts:List Nat) (a2:Option D),ts=HX (ps.take i)/\(∀p∈ps.take i,p.2∈ts)/\(∀t∈ts,∃p∈ps,p.2=t)/\ts.length<=i/\ts.Nodup/\env=[some (.loc n),some (.loc st.length),a2]/\s=st++[.dkc (i_ ts)])
  (env:=[some (.loc n),some (.loc st.length),none]) (st:=st++[.dkc []]) ⟨[],none,rfl,by simp,by simp,by simp,by simp,rfl,rfl⟩ (by
   rintro i d env s hi ⟨ts,a2,hT,h1,h2,h3,h4,rfl,rfl⟩;rw[gH]at hi;obtain⟨⟨w,t⟩,hp,rfl⟩:=gO.mp hi;have hpm:=gM hp;have Df:=(gk.mp hp).1;have tk:ps.take (i+1)=ps.take i++[(w,t)]:=by rw[mz,hp];rfl
   have sd:=U4 (st:=st++[.dkc (i_ ts)]) (n:=st.length) (ts:=ts) (by simp) (by omega) t;have e5:(st++[MO.dkc (i_ ts)]).set st.length (.dkc (i_ (cW ts t)))=st++[.dkc (i_ (cW ts t))]:=by simp
   rw[e5]at sd;have al:=X_ ts t;refine⟨by simp,[some (.loc n),some (.loc st.length),some (.tup [.str w,.int t])],st++[.dkc (i_ ts)],by simp,[some (.loc n),some (.loc st.length),some (.tup [.str w,.int t])],st++[.dkc (i_ (cW ts t))],.inl ?_,cW ts t,_,by rw[tk,HW,<-hT],?_,?_,by omega,Yg h4 _,rfl,rfl⟩
   ·rw[<-hBi];have x3:∀s,bz (.tup [.str w,.int t]) (.int 1) s=.ok (.int t) s:=λs=>qb _ _ _ _ rfl;generalize st++[MO.dkc (i_ (cW ts t))]=Z2 at *;generalize st++[MO.dkc (i_ ts)]=Z1 at *;generalize (t:Int)=T at *;generalize D.tup [.str w,.int T]=TT at *;simp[x3,sd]
   ·intro p dY;rw[tk]at dY;rcases gm.mp dY with h | h
    ·exact zjb _ (h1 p h)
    ·have:p=(w,t):=gQ.mp h;subst this;exact zk6 _ _
   ·intro q hq;rcases Zy hq with h | h
    ·exact h2 q h
    ·exact⟨(w,t),hpm,h.symm⟩) (λ_ _ _=>by simp)
 rw[gq]at h1 h3 hT;rw[m9]at h1 hT;refine⟨ts,hT,h1,h2,h3,h4,?_⟩;have zQ:=BW (m:=vr 0) (env:=[some (.loc n),some (.loc st.length),none]) (st:=st++[.dkc []]) (st1:=st++[.dkc []]) rfl (fZ hg);rw[zf1]at zQ;have g:=Nk (st:=st) (o:=.dkc (i_ ts)) (zkn _ _);rw[show startM 3 [D.loc n]=[some (.loc n),none,none] from rfl];generalize hD:Gx (vr 0)=DT at *;generalize (ps.map λp=>D.tup [.str p.1,.int (p.2:Nat)])=IT at *;generalize hZ:st++[MO.dkc (i_ ts)]=Z at *;simp[dkE,zQ,e1];exact g
end Law
set_option maxHeartbeats 0
namespace Law
open L2 M TK TS
@[irreducible] def WT(st:au)(f:Nat)(ks:List TK)(rl:List D)(dw:MO)(g:au):au:=st++[lq st.length f,.dic (cU f ks),.lst rl,dw]++g
section
variable  {st:au}{f:Nat}{ks:List TK}{rl:List D}{dw:MO}{g:au}
def WT.len:(WT st f ks rl dw g).length=st.length+4+g.length:=by simp[WT];omega
def WT.num(h:M.wf st)(hu:∀n,aR n rl)(hd:∀n,aU n dw)(hg:∀o∈g,∀n,aU n o):uV (WT st f ks rl dw g) st.length (st.length+1) f ks:=by
 refine⟨by unfold WT;rw[gG,gw (gf _)];simp[lq],by unfold WT;rw[gG,gw (by omega)];simp,by omega,?_⟩;intro o ho;rw[WT.len];unfold WT at ho;rcases gm.mp ho with ho | ho
 ·rcases gm.mp ho with ho | ho
  ·exact zi6 (by omega) o (h o ho)
  ·simp only[gj,g_,afm]at ho;rcases ho with rfl | rfl | rfl | rfl
   ·intro p hp;simp only[gj,g_,afm]at hp;rcases hp with rfl | rfl
    ·simp
    ·simp;omega
   ·exact X5 _ _ _
   ·exact hu _
   ·exact hd _
 ·exact hg o ho _
def WT.set:(WT st f ks rl dw g).set (st.length+1) (.dic (cU f ks'))=WT st f ks' rl dw g:=by
 unfold WT;rw[gG st,kZ _ _ (by omega)];simp
def WT.old{n:Nat}{o:MO}(h:st[n]? = some o):(WT st f ks rl dw g)[n]? = some o:=by
 unfold WT;exact fZ (fZ h)
def WT.at2:(WT st f ks rl dw g)[st.length+2]? = some (.lst rl):=by
 unfold WT;rw[gG,gw (by omega)];simp
def WT.at3:(WT st f ks rl dw g)[st.length+3]? = some dw:=by
 unfold WT;rw[gG,gw (by omega)];simp
def WT.Zm:(WT st f ks rl dw (g++[o]))[st.length+4+g.length]? = some o:=by
 unfold WT;rw[gw (by simp)];simp
def WT.aau:(WT st f ks rl dw g).set (st.length+2) (.lst rl')=WT st f ks rl' dw g:=by
 unfold WT;rw[gG st,kZ _ _ (by omega)];simp
def WT.aat:(WT st f ks rl dw g).set (st.length+3) o=WT st f ks rl o g:=by
 unfold WT;rw[gG st,kZ _ _ (by omega)];simp
def WT.aas:(WT st f ks rl dw (g++[o])).set (st.length+4+g.length) o'=WT st f ks rl dw (g++[o']):=by
 unfold WT;rw[kZ _ _ (by simp)];simp
def WT.ty:dM "list" (.loc (st.length+2)) (WT st f ks rl dw g)=true:=by simp[dM,WT.at2]
def WT.app(hl:rl.length<1000000)(d:D):aQ (.loc (st.length+2)) [d] (WT st f ks rl dw g)=.ok .non (WT st f ks (rl++[d]) dw g):=by
 unfold aQ;simp only[WT.at2];rw[ae9 hl,WT.aau]
def WT.ext(hl:rl.length+rs.length<=1000000):eG (.loc (st.length+2)) [.loc (st.length+4+g.length)] (WT st f ks rl dw (g++[.lst rs]))=.ok .non (WT st f ks (rl++rs) dw (g++[.lst rs])):=by
 unfold eG;simp only[WT.at2,WT.Zm];rw[ae9 hl,WT.aau]
def WT.snoc:WT st f ks rl dw g++[o]=WT st f ks rl dw (g++[o]):=by simp[WT]
def WT.grow(h:M.wf st)(hu:∀n,aR n rl)(hd:∀n,aU n dw)(hg:∀o∈g,∀n,aU n o)(hl:ks.length<100000)(w:List Nat)(t:Nat) :
  Hz [.loc st.length,.str w,.int t] (WT st f ks rl dw g)=.ok (.int (bR f (cj ks (gr w t)) (tk (gr w t)):Nat)) (WT st f (cj ks (gr w t)) rl dw g):=by
 rw[zex (WT.num h hu hd hg) hl,WT.set]
def WT.back(h:M.wf st)(hu:∀n,aR n rl)(hd:∀n,aU n dw)(hg:∀o∈g,∀n,aU n o)(hl:ks.length<100000)(t:Nat) :
  Rp [.loc st.length,.int t] (WT st f ks rl dw g)=.ok (.int (bR f (cj ks (bk t)) (tk (bk t)):Nat)) (WT st f (cj ks (bk t)) rl dw g):=by
 rw[zg1 (WT.num h hu hd hg) hl,WT.set]
end
def bW(r:Rl):D:=.tup [.int r.s,.str [r.x],.str r.w,.int r.g]
def fO(signs:List Nat)(ps:List (List Nat×Nat)):List TQ:=(ps.map λp=>signs.map (jg (gr p.1 p.2) true)).flatten
def dh(signs:List Nat)(ts:List Nat):List TQ:=(ts.map λt=>signs.map (jg (bk t) false)++[rG t]).flatten
def zh4(signs:List Nat)(ps:List (List Nat×Nat))(p:List Nat×Nat):fO signs (ps++[p])=fO signs ps++signs.map (jg (gr p.1 p.2) true):=by simp[fO]
def zhz(signs:List Nat)(ts:List Nat)(t:Nat):dh signs (ts++[t])=dh signs ts++(signs.map (jg (bk t) false)++[rG t]):=by simp[dh]
structure Bh(RL:List Rl)(signs:List Nat)(ks:List TK)(ALL:List TQ):Prop where
 good:∀q∈ALL,Gd RL signs q
 R5:∀q∈ALL,q_ ks q
 src:∀r∈RL,j4 r∈ALL
 pas:∀r∈RL,∀c∈signs,jg (gr r.w r.g) true c∈ALL
 gro:∀r∈RL,∀k,k<=r.w.length->fu (r.w.drop k) r.g∈ALL
 pab:∀r∈RL,∀c∈signs,jg (bk r.g) false c∈ALL
 bak:∀r∈RL,rG r.g∈ALL
def En(RL:List Rl):List TK:=RL.foldl (λks r=>cj ks (gr r.w r.g)) []
def j_(RL:List Rl):List (List Nat×Nat):=RL.foldl (λps r=>cW ps (r.w,r.g)) []
def Em(RL:List Rl)(r:Rl):En (RL++[r])=cj (En RL) (gr r.w r.g):=by unfold En;rw[nA];rfl
def El(RL:List Rl)(r:Rl):j_ (RL++[r])=cW (j_ RL) (r.w,r.g):=by unfold j_;rw[nA];rfl
def aa7(RL:List Rl)(signs:List Nat)(top n f:Nat)(st:au)(yu:M.wf st)(yW:st[n]? = some (.lst (RL.map bW)))(hl:RL.length<=1000)(hw:∀r∈RL,r.w.length<=100)(B:MS)
  (hB:(aG (iV (ct (.bl true)) (qT jd (vr 5) (bZ (aj (aM bz (vr 6) (ct (.int 2))) (aj (aM bz (vr 6) (ct (.int 3))) az)))))
  (cF (bM "list" aQ (vr 4) (aj (bZ (aj (aM bz (vr 6) (ct (.int 0))) (aj (aM bz (vr 6) (ct (.int 1))) (aj (ct (.str [95])) (aj (ct (.str [114])) (aj (aW Hz [] (aj (vr 3) (aj (aM bz (vr 6) (ct (.int 2))) (aj (aM bz (vr 6) (ct (.int 3))) az)))) az)))))) az))):MS)=B) :
  ∃ks ps a6,(ks=En RL/\ps=j_ RL)/\ks.length<=RL.length/\ps.length<=RL.length/\ps.Nodup/\(∀r∈RL,(r.w,r.g)∈ps)/\(∀p∈ps,∃r∈RL,p=(r.w,r.g))/\(∀q∈RL.map j4,q_ ks q) /\
   dz (aK 6) B [(n,.lst (RL.map bW))] (RL.map bW) [some (.loc n),some (.str signs),some (.int top),some (.loc st.length),some (.loc (st.length+2)),some (.loc (st.length+3)),none,none,none,none,none,none] (WT st f [] [] (.dic []) [])
    = .ok (.nx [some (.loc n),some (.str signs),some (.int top),some (.loc st.length),some (.loc (st.length+2)),some (.loc (st.length+3)),a6,none,none,none,none,none]) (WT st f ks ((RL.map j4).map (bN f ks)) (.dic (a_ ps)) []):=by
 obtain⟨cA,st1,e1,ks,ps,a6,hK,h1,h2,h3,h4,h5,h6,rfl,rfl⟩:=yO (g:=aK 6) (b:=B) (gs:=[(n,.lst (RL.map bW))]) (items:=RL.map bW)
  (λi env s=>∃(ks:List TK) (ps:List (List Nat×Nat)) (a6:Option D),(ks=En (RL.take i)/\ps=j_ (RL.take i))/\ks.length<=i/\ps.length<=i/\ps.Nodup/\(∀r∈RL.take i,(r.w,r.g)∈ps)/\(∀p∈ps,∃r∈RL,p=(r.w,r.g))/\(∀q∈(RL.take i).map j4,q_ ks q) /\
   env=[some (.loc n),some (.str signs),some (.int top),some (.loc st.length),some (.loc (st.length+2)),some (.loc (st.length+3)),a6,none,none,none,none,none]/\s=WT st f ks (((RL.take i).map j4).map (bN f ks)) (.dic (a_ ps)) [])
  (env:=[some (.loc n),some (.str signs),some (.int top),some (.loc st.length),some (.loc (st.length+2)),some (.loc (st.length+3)),none,none,none,none,none,none]) (st:=WT st f [] [] (.dic []) [])
  ⟨[],[],none,⟨rfl,rfl⟩,by simp,by simp,by simp,by simp,by simp,by simp,rfl,rfl⟩ (by
   rintro i d env s hi ⟨ks,ps,a6,hK,h1,h2,h3,h4,h5,h6,rfl,rfl⟩;rw[gH]at hi;obtain⟨r,hr,rfl⟩:=gO.mp hi;have sy:=gM hr;have Df:=(gk.mp hr).1;have yc:RL.take (i+1)=RL.take i++[r]:=by rw[mz,hr];rfl
   generalize qF:((RL.take i).map j4).map (bN f ks)=rl;have yw:rl.length<=i:=by rw[<-qF];simp;omega
   have hu:∀n,aR n rl:=λn=>by rw[<-qF];exact T_ _ _ _ _
   have sd:=BL (st:=WT st f ks rl (.dic (a_ ps)) []) (n:=st.length+3) (ps:=ps) WT.at3 (by omega) r.w r.g;rw[WT.aat]at sd;have gs:=WT.grow (st:=st) (f:=f) (ks:=ks) (rl:=rl) (dw:=.dic (a_ (cW ps (r.w,r.g)))) (g:=[]) yu hu (λn=>Ye n _) (by simp) (by omega) r.w r.g;obtain⟨l1,t_⟩:=Yb ks (gr r.w r.g);have kl:=X8 ks (gr r.w r.g);have km:=T4 ks (gr r.w r.g);generalize W3:cj ks (gr r.w r.g)=bJ at *;have e0:D.tup [.int r.s,.str [r.x],.str [95],.str [114],.int (bR f bJ (tk (gr r.w r.g)):Nat)]=bN f bJ (j4 r):=rfl;have ap:=WT.app (st:=st) (f:=f) (ks:=bJ) (rl:=rl) (dw:=.dic (a_ (cW ps (r.w,r.g)))) (g:=[]) (by omega) (bN f bJ (j4 r));rw[<-e0]at ap;have ty:=WT.ty (st:=st) (f:=f) (ks:=bJ) (rl:=rl) (dw:=.dic (a_ (cW ps (r.w,r.g)))) (g:=[]);have HJ:=WT.ty (st:=st) (f:=f) (ks:=ks) (rl:=rl) (dw:=.dic (a_ (cW ps (r.w,r.g)))) (g:=[]);have fin:rl++[bN f bJ (j4 r)]=((RL.take (i+1)).map j4).map (bN f bJ):=by
    rw[yc,gZ,gZ,<-qF,t_,zgb l1 h6];rfl
   have al:=X_ ps (r.w,r.g);have hgo:wO [(n,MO.lst (RL.map bW))] (WT st f ks rl (.dic (a_ ps)) []):=by simp[WT.old yW]
   refine⟨hgo,[some (.loc n),some (.str signs),some (.int top),some (.loc st.length),some (.loc (st.length+2)),some (.loc (st.length+3)),some (bW r),none,none,none,none,none],WT st f ks rl (.dic (a_ ps)) [],by generalize WT st f ks rl (.dic (a_ ps)) []=Z;simp,[some (.loc n),some (.str signs),some (.int top),some (.loc st.length),some (.loc (st.length+2)),some (.loc (st.length+3)),some (bW r),none,none,none,none,none],WT st f bJ (rl++[bN f bJ (j4 r)]) (.dic (a_ (cW ps (r.w,r.g)))) [],.inl ?_,bJ,cW ps (r.w,r.g),_,⟨by rw[yc,Em,<-hK.1];exact W3.symm,by rw[yc,El,<-hK.2]⟩,by omega,by omega,Yg h3 _,?_,?_,?_,rfl,by rw[fin]⟩
   ·rw[<-hB];have x0:∀s,bz (bW r) (.int 0) s=.ok (.int r.s) s:=λs=>qb _ _ _ _ rfl;have x1:∀s,bz (bW r) (.int 1) s=.ok (.str [r.x]) s:=λs=>qb _ _ _ _ rfl;have x2:∀s,bz (bW r) (.int 2) s=.ok (.str r.w) s:=λs=>qb _ _ _ _ rfl;have x3:∀s,bz (bW r) (.int 3) s=.ok (.int r.g) s:=λs=>qb _ _ _ _ rfl;rw[<-e0];generalize bW r=ER at *;generalize ((bR f bJ (tk (gr r.w r.g)):Nat):Int)=NV at *;generalize WT st f bJ (rl++[D.tup [.int r.s,.str [r.x],.str [95],.str [114],.int NV]]) (.dic (a_ (cW ps (r.w,r.g)))) []=Z3 at *;generalize WT st f bJ rl (.dic (a_ (cW ps (r.w,r.g)))) []=Z2 at *;generalize WT st f ks rl (.dic (a_ (cW ps (r.w,r.g)))) []=Z1 at *;generalize WT st f ks rl (.dic (a_ ps)) []=Z0 at *;generalize (r.g:Int)=RG at *;generalize (r.s:Int)=RS at *;simp[x0,x1,x2,x3,sd,gs,ap,ty,HJ]
   ·intro q hq;rw[yc]at hq;rcases gm.mp hq with h | h
    ·exact zjb _ (h4 q h)
    ·have:q=r:=gQ.mp h;subst this;exact zk6 _ _
   ·intro q hq;rcases Zy hq with h | h
    ·exact h5 q h
    ·exact⟨r,sy,h⟩
   ·intro q hq;rw[yc,gZ]at hq;rcases gm.mp hq with h | h
    ·rw[t_];exact zhb _ (h6 q h)
    ·have:q=j4 r:=by simpa using h
     subst this;exact⟨trivial,km⟩) (λ_ _ zz=>by obtain⟨_,_,_,_,_,_,_,_,_,_,_,e⟩:=zz;rw[e];simp[WT.old yW])
 rw[gq]at h1 h2 h4 h6 e1 hK;rw[m9]at h4 h6 e1 hK;exact⟨ks,ps,a6,hK,h1,h2,h3,h4,h5,h6,e1⟩
end Law
set_option maxHeartbeats 0
namespace Law
open L2 M TK TS
def EV(n:Nat)(signs:List Nat)(top m:Nat)(a6 a7 a8 a9 qJ u_:Option D):cg:=[some (.loc n),some (.str signs),some (.int top),some (.loc m),some (.loc (m+2)),some (.loc (m+3)),a6,a7,a8,a9,qJ,u_]
def Fj(je:List TK)(ps:List (List Nat×Nat)):List TK:=ps.foldl (λks p=>cj ks (gr p.1 p.2)) je
def Fi(je:List TK)(ps:List (List Nat×Nat))(p:List Nat×Nat):Fj je (ps++[p])=cj (Fj je ps) (gr p.1 p.2):=by unfold Fj;rw[nA];rfl
def Gn(je:List TK)(qs:List (List Nat×Nat)):List TK:=qs.foldl (λks p=>zu ks p.1 p.2) je
def Gm(je:List TK)(ps:List (List Nat×Nat))(p:List Nat×Nat):Gn je (ps++[p])=zu (Gn je ps) p.1 p.2:=by unfold Gn;rw[nA];rfl
def G6(je:List TK)(ts:List Nat):List TK:=ts.foldl (λks t=>cj ks (bk t)) je
def G5(je:List TK)(ts:List Nat)(t:Nat):G6 je (ts++[t])=cj (G6 je ts) (bk t):=by unfold G6;rw[nA];rfl
def aa6(ps:List (List Nat×Nat))(signs:List Nat)(top n f:Nat)(st:au)(yu:M.wf st)(hl:ps.length<=1000)(hs:∀c∈signs,c<128)(M6:signs.length<=100)(B:MS)(je:List TK)(R1:List TQ)(h0:∀q∈R1,q_ je q)(hR:R1.length<=1000)(hk:je.length<=1000)(a6:Option D)
  (hB:(aG (bw 8 (aW Hz [] (aj (vr 3) (aj (aM bz (vr 7) (ct (.int 0))) (aj (aM bz (vr 7) (ct (.int 1))) az)))))
  (cF (bM "list" eG (vr 4) (aj (aW Ud [] (aj (vr 8) (aj (vr 1) (aj (ct (.str [114])) az)))) az))):MS)=B) :
  ∃ks g a7 a8,ks=Fj je ps/\ks.length<=je.length+ps.length/\(∀q∈R1++fO signs ps,q_ ks q)/\(∀o∈g,∀n,aU n o)/\(fO signs ps).length<=1000*100 /\
   dz (aK 7) B [] (ps.map λp=>D.tup [.str p.1,.int (p.2:Nat)]) (EV n signs top st.length a6 none none none none none) (WT st f je (R1.map (bN f je)) (.dtf (a_ ps)) [])
    = .ok (.nx (EV n signs top st.length a6 a7 a8 none none none)) (WT st f ks ((R1++fO signs ps).map (bN f ks)) (.dtf (a_ ps)) g):=by
 obtain⟨cA,st1,e1,ks,g,a7,a8,hK,h1,h2,h3,h4,rfl,rfl⟩:=yO (g:=aK 7) (b:=B) (gs:=[]) (items:=ps.map λp=>D.tup [.str p.1,.int (p.2:Nat)])
  (λi env s=>∃(ks:List TK) (g:au) (a7 a8:Option D),ks=Fj je (ps.take i)/\ks.length<=je.length+i/\(∀q∈R1++fO signs (ps.take i),q_ ks q)/\(∀o∈g,∀n,aU n o)/\(fO signs (ps.take i)).length<=i*100 /\
   env=EV n signs top st.length a6 a7 a8 none none none/\s=WT st f ks ((R1++fO signs (ps.take i)).map (bN f ks)) (.dtf (a_ ps)) g)
  (env:=EV n signs top st.length a6 none none none none none) (st:=WT st f je (R1.map (bN f je)) (.dtf (a_ ps)) [])
  ⟨je,[],none,none,rfl,by omega,by simpa[fO] using h0,by simp,by simp[fO],rfl,by simp[fO]⟩ (by
   rintro i d env s hi ⟨ks,g,a7,a8,hK,h1,h2,h3,h4,rfl,rfl⟩;rw[gH]at hi;obtain⟨⟨w,t⟩,hr,rfl⟩:=gO.mp hi;have sy:=gM hr;have Df:=(gk.mp hr).1;have yc:ps.take (i+1)=ps.take i++[(w,t)]:=by rw[mz,hr];rfl
   generalize qF:(R1++fO signs (ps.take i)).map (bN f ks)=rl;have yw:rl.length<=1000+i*100:=by rw[<-qF];simp;omega
   have hu:∀n,aR n rl:=λn=>by rw[<-qF];exact T_ _ _ _ _
   have gs:=WT.grow (st:=st) (f:=f) (ks:=ks) (rl:=rl) (dw:=.dtf (a_ ps)) (g:=g) yu hu (λn=>Ye n _) h3 (by omega) w t;obtain⟨l1,t_⟩:=Yb ks (gr w t);have kl:=X8 ks (gr w t);have km:=T4 ks (gr w t);generalize W3:cj ks (gr w t)=bJ at *;have pa:=zjo ((bR f bJ (tk (gr w t)):Nat):Int) signs [114] (WT st f bJ rl (.dtf (a_ ps)) g) hs (by omega);rw[WT.len,WT.snoc]at pa;have eP:(signs.map λc=>D.tup [.int (bR f bJ (tk (gr w t)):Nat),.str [c],.str [c],.str [114],.int (bR f bJ (tk (gr w t)):Nat)])=(signs.map (jg (gr w t) true)).map (bN f bJ):=by
    rw[gY];rfl
   rw[eP]at pa;generalize WD:(signs.map (jg (gr w t) true)).map (bN f bJ)=PS at *;have qH:PS.length=signs.length:=by rw[<-WD];simp
   have Wt:=WT.ext (st:=st) (f:=f) (ks:=bJ) (rl:=rl) (dw:=.dtf (a_ ps)) (g:=g) (rs:=PS) (by omega);have ty:=WT.ty (st:=st) (f:=f) (ks:=bJ) (rl:=rl) (dw:=.dtf (a_ ps)) (g:=g++[.lst PS]);have HJ:=WT.ty (st:=st) (f:=f) (ks:=bJ) (rl:=rl) (dw:=.dtf (a_ ps)) (g:=g);have fin:rl++PS=(R1++fO signs (ps.take (i+1))).map (bN f bJ):=by
    rw[yc,zh4,<-gG,gZ,<-qF,t_,zgb l1 h2,<-t_,WD]
   refine⟨by simp,EV n signs top st.length a6 (some (.tup [.str w,.int t])) a8 none none none,WT st f ks rl (.dtf (a_ ps)) g,by generalize WT st f ks rl (.dtf (a_ ps)) g=Z;unfold EV;simp,EV n signs top st.length a6 (some (.tup [.str w,.int t])) (some (.int (bR f bJ (tk (gr w t)):Nat))) none none none,WT st f bJ (rl++PS) (.dtf (a_ ps)) (g++[.lst PS]),.inl ?_,bJ,g++[.lst PS],_,_,by rw[yc,Fi,<-hK];exact W3.symm,by omega,?_,?_,?_,rfl,by rw[fin]⟩
   ·rw[<-hB];have x0:∀s,bz (.tup [.str w,.int t]) (.int 0) s=.ok (.str w) s:=λs=>qb _ _ _ _ rfl;have x1:∀s,bz (.tup [.str w,.int t]) (.int 1) s=.ok (.int t) s:=λs=>qb _ _ _ _ rfl;generalize ((bR f bJ (tk (gr w t)):Nat):Int)=NV at *;generalize WT st f bJ (rl++PS) (.dtf (a_ ps)) (g++[.lst PS])=Z3 at *;generalize WT st f bJ rl (.dtf (a_ ps)) (g++[.lst PS])=Z2 at *;generalize WT st f bJ rl (.dtf (a_ ps)) g=Z1 at *;generalize WT st f ks rl (.dtf (a_ ps)) g=Z0 at *;generalize (t:Int)=RG at *;generalize D.tup [.str w,.int RG]=TT at *;generalize st.length+4+g.length=Y at *;unfold EV;simp[x0,x1,gs,pa,Wt,ty,HJ]
   ·intro q hq;rw[yc,zh4,<-gG]at hq;rcases gm.mp hq with h | h
    ·rw[t_];exact zhb _ (h2 q h)
    ·obtain⟨c,_,rfl⟩:=g8.mp h;exact⟨km,km⟩
   ·intro o ho;rcases gm.mp ho with h | h
    ·exact h3 o h
    ·have:o=_:=gQ.mp h;subst this;intro m;rw[<-WD];exact T_ _ _ _ _
   ·rw[yc,zh4,gh,gq];omega) (λ_ _ _=>by simp)
 rw[gq]at h1 h2 h4 e1 hK;rw[m9]at h2 h4 e1 hK;exact⟨ks,g,a7,a8,hK,h1,h2,h3,by have:=pD 100 hl;omega,e1⟩
def aa5(qs:List (List Nat×Nat))(dw:MO)(hdw:∀n,aU n dw)(signs:List Nat)(top n f:Nat)(st:au)(yu:M.wf st)(hl:qs.length<=40000)(hq:∀p∈qs,p.1.length<=100)(B:MS)(je:List TK)(R1:List TQ)(h0:∀q∈R1,q_ je q)(hR:R1.length<=200000)(hk:je.length<=2000)(g:au)(hg:∀o∈g,∀n,aU n o)(a6 a7 a8 a9:Option D)
  (hB:(cF (bM "list" aQ (vr 4) (aj (aW Ym [] (aj (vr 3) (aj (aM bz (vr 10) (ct (.int 0))) (aj (aM bz (vr 10) (ct (.int 1))) az)))) az)):MS)=B) :
  ∃ks qJ,ks=Gn je qs/\ks.length<=je.length+2*qs.length/\(∀q∈R1++qs.map (λp=>fu p.1 p.2),q_ ks q) /\
   dz (aK 10) B [] (qs.map λp=>D.tup [.str p.1,.int (p.2:Nat)]) (EV n signs top st.length a6 a7 a8 a9 none none) (WT st f je (R1.map (bN f je)) dw g)
    = .ok (.nx (EV n signs top st.length a6 a7 a8 a9 qJ none)) (WT st f ks ((R1++qs.map (λp=>fu p.1 p.2)).map (bN f ks)) dw g):=by
 obtain⟨cA,st1,e1,ks,qJ,hK,h1,h2,rfl,rfl⟩:=yO (g:=aK 10) (b:=B) (gs:=[]) (items:=qs.map λp=>D.tup [.str p.1,.int (p.2:Nat)])
  (λi env s=>∃(ks:List TK) (qJ:Option D),ks=Gn je (qs.take i)/\ks.length<=je.length+2*i/\(∀q∈R1++(qs.take i).map (λp=>fu p.1 p.2),q_ ks q) /\
   env=EV n signs top st.length a6 a7 a8 a9 qJ none/\s=WT st f ks ((R1++(qs.take i).map (λp=>fu p.1 p.2)).map (bN f ks)) dw g)
  (env:=EV n signs top st.length a6 a7 a8 a9 none none) (st:=WT st f je (R1.map (bN f je)) dw g)
  ⟨je,none,rfl,by omega,by simpa using h0,rfl,by simp⟩ (by
   rintro i d env s hi ⟨ks,qJ,hK,h1,h2,rfl,rfl⟩;rw[gH]at hi;obtain⟨⟨w,t⟩,hr,rfl⟩:=gO.mp hi;have sy:=gM hr;have Df:=(gk.mp hr).1;have Qn:=hq _ sy;simp only at Qn;have yc:qs.take (i+1)=qs.take i++[(w,t)]:=by rw[mz,hr];rfl
   generalize qF:(R1++(qs.take i).map (λp=>fu p.1 p.2)).map (bN f ks)=rl;have yw:rl.length<=200000+i:=by rw[<-qF];simp;omega
   have hu:∀n,aR n rl:=λn=>by rw[<-qF];exact T_ _ _ _ _
   obtain⟨bJ,l1,t_,W3,kl,wQ,gs⟩:=zo8 (WT.num (st:=st) (f:=f) (ks:=ks) (rl:=rl) (dw:=dw) (g:=g) yu hu hdw hg) (by omega) w t (by omega);rw[WT.set]at gs;have ap:=WT.app (st:=st) (f:=f) (ks:=bJ) (rl:=rl) (dw:=dw) (g:=g) (by omega) (bN f bJ (fu w t));have ty:=WT.ty (st:=st) (f:=f) (ks:=bJ) (rl:=rl) (dw:=dw) (g:=g);have HJ:=WT.ty (st:=st) (f:=f) (ks:=ks) (rl:=rl) (dw:=dw) (g:=g);have fin:rl++[bN f bJ (fu w t)]=(R1++(qs.take (i+1)).map (λp=>fu p.1 p.2)).map (bN f bJ):=by
    have e9:R1++(qs.take (i+1)).map (λp=>fu p.1 p.2)=(R1++(qs.take i).map (λp=>fu p.1 p.2))++[fu w t]:=by rw[yc];simp
    rw[e9,gZ,<-qF,t_,zgb l1 h2];rfl
   refine⟨by simp,EV n signs top st.length a6 a7 a8 a9 (some (.tup [.str w,.int t])) none,WT st f ks rl dw g,by generalize WT st f ks rl dw g=Z;unfold EV;simp,EV n signs top st.length a6 a7 a8 a9 (some (.tup [.str w,.int t])) none,WT st f bJ (rl++[bN f bJ (fu w t)]) dw g,.inl ?_,bJ,_,by rw[yc,Gm,<-hK];exact W3,by omega,?_,rfl,by rw[fin]⟩
   ·rw[<-hB];have x0:∀s,bz (.tup [.str w,.int t]) (.int 0) s=.ok (.str w) s:=λs=>qb _ _ _ _ rfl;have x1:∀s,bz (.tup [.str w,.int t]) (.int 1) s=.ok (.int t) s:=λs=>qb _ _ _ _ rfl;generalize bN f bJ (fu w t)=ER at *;generalize WT st f bJ (rl++[ER]) dw g=Z3 at *;generalize WT st f bJ rl dw g=Z1 at *;generalize WT st f ks rl dw g=Z0 at *;generalize (t:Int)=RG at *;generalize D.tup [.str w,.int RG]=TT at *;unfold EV;simp[x0,x1,gs,ap,ty,HJ]
   ·intro q Y5;rw[yc,gZ,<-gG]at Y5;rcases gm.mp Y5 with h | h
    ·rw[t_];exact zhb _ (h2 q h)
    ·have:q=fu w t:=by simpa using h
     subst this;exact wQ) (λ_ _ _=>by simp)
 rw[gq]at h1 h2 e1 hK;rw[m9]at h2 e1 hK;exact⟨ks,qJ,hK,h1,h2,e1⟩
def aa4(ts:List Nat)(dw:MO)(hdw:∀n,aU n dw)(signs:List Nat)(top n f:Nat)(st:au)(yu:M.wf st)(hl:ts.length<=1000)(hs:∀c∈signs,c<128)(M6:signs.length<=100)(B:MS)(je:List TK)(R1:List TQ)(h0:∀q∈R1,q_ je q)(hR:R1.length<=400000)(hk:je.length<=90000)(g0:au)(hg0:∀o∈g0,∀n,aU n o)(a6 a7 a8 a9 qJ:Option D)
  (hB:(aG (bw 8 (aW Rp [] (aj (vr 3) (aj (vr 11) az))))
  (aG (cF (bM "list" eG (vr 4) (aj (aW Ud [] (aj (vr 8) (aj (vr 1) (aj (ct (.str [108])) az)))) az)))
  (cF (bM "list" aQ (vr 4) (aj (bZ (aj (vr 8) (aj (ct (.str [95])) (aj (ct (.str [95])) (aj (ct (.str [114])) (aj (vr 11) az)))))) az)))):MS)=B) :
  ∃ks g a8' u_,ks=G6 je ts/\ks.length<=je.length+ts.length/\(∀q∈R1++dh signs ts,q_ ks q)/\(∀o∈g,∀n,aU n o)/\(dh signs ts).length<=1000*101 /\
   dz (aK 11) B [] (ts.map λt=>D.int (t:Nat)) (EV n signs top st.length a6 a7 a8 a9 qJ none) (WT st f je (R1.map (bN f je)) dw g0)
    = .ok (.nx (EV n signs top st.length a6 a7 a8' a9 qJ u_)) (WT st f ks ((R1++dh signs ts).map (bN f ks)) dw g):=by
 obtain⟨cA,st1,e1,ks,g,a8',u_,hK,h1,h2,h3,h4,rfl,rfl⟩:=yO (g:=aK 11) (b:=B) (gs:=[]) (items:=ts.map λt=>D.int (t:Nat))
  (λi env s=>∃(ks:List TK) (g:au) (a8 u_:Option D),ks=G6 je (ts.take i)/\ks.length<=je.length+i/\(∀q∈R1++dh signs (ts.take i),q_ ks q)/\(∀o∈g,∀n,aU n o)/\(dh signs (ts.take i)).length<=i*101 /\
   env=EV n signs top st.length a6 a7 a8 a9 qJ u_/\s=WT st f ks ((R1++dh signs (ts.take i)).map (bN f ks)) dw g)
  (env:=EV n signs top st.length a6 a7 a8 a9 qJ none) (st:=WT st f je (R1.map (bN f je)) dw g0)
  ⟨je,g0,a8,none,rfl,by omega,by simpa[dh] using h0,hg0,by simp[dh],rfl,by simp[dh]⟩ (by
   rintro i d env s hi ⟨ks,g,a8,u_,hK,h1,h2,h3,h4,rfl,rfl⟩;rw[gH]at hi;obtain⟨t,hr,rfl⟩:=gO.mp hi;have Df:=(gk.mp hr).1;have yc:ts.take (i+1)=ts.take i++[t]:=by rw[mz,hr];rfl
   generalize qF:(R1++dh signs (ts.take i)).map (bN f ks)=rl;have yw:rl.length<=400000+i*101:=by rw[<-qF];simp;omega
   have hu:∀n,aR n rl:=λn=>by rw[<-qF];exact T_ _ _ _ _
   have gs:=WT.back (st:=st) (f:=f) (ks:=ks) (rl:=rl) (dw:=dw) (g:=g) yu hu hdw h3 (by omega) t;obtain⟨l1,t_⟩:=Yb ks (bk t);have kl:=X8 ks (bk t);have km:=T4 ks (bk t);generalize W3:cj ks (bk t)=bJ at *;have pa:=zjo ((bR f bJ (tk (bk t)):Nat):Int) signs [108] (WT st f bJ rl dw g) hs (by omega);rw[WT.len,WT.snoc]at pa;have eP:(signs.map λc=>D.tup [.int (bR f bJ (tk (bk t)):Nat),.str [c],.str [c],.str [108],.int (bR f bJ (tk (bk t)):Nat)])=(signs.map (jg (bk t) false)).map (bN f bJ):=by
    rw[gY];rfl
   rw[eP]at pa;generalize WD:(signs.map (jg (bk t) false)).map (bN f bJ)=PS at *;have qH:PS.length=signs.length:=by rw[<-WD];simp
   have Wt:=WT.ext (st:=st) (f:=f) (ks:=bJ) (rl:=rl) (dw:=dw) (g:=g) (rs:=PS) (by omega);have e0:D.tup [.int (bR f bJ (tk (bk t)):Nat),.str [95],.str [95],.str [114],.int t]=bN f bJ (rG t):=rfl;have ap:=WT.app (st:=st) (f:=f) (ks:=bJ) (rl:=rl++PS) (dw:=dw) (g:=g++[.lst PS]) (by simp;omega) (bN f bJ (rG t));rw[<-e0]at ap;have ty:=WT.ty (st:=st) (f:=f) (ks:=bJ) (rl:=rl) (dw:=dw) (g:=g++[.lst PS]);have HJ:=WT.ty (st:=st) (f:=f) (ks:=bJ) (rl:=rl) (dw:=dw) (g:=g);have ty1:=WT.ty (st:=st) (f:=f) (ks:=bJ) (rl:=rl++PS) (dw:=dw) (g:=g++[.lst PS]);have fin:rl++PS++[bN f bJ (rG t)]=(R1++dh signs (ts.take (i+1))).map (bN f bJ):=by
    have e9:R1++dh signs (ts.take (i+1))=(R1++dh signs (ts.take i))++signs.map (jg (bk t) false)++[rG t]:=by rw[yc,zhz];simp
    rw[e9,gZ,gZ,WD,<-qF];have e8:(R1++dh signs (ts.take i)).map (bN f bJ)=(R1++dh signs (ts.take i)).map (bN f ks):=by rw[t_,zgb l1 h2]
    rw[e8];rfl
   refine⟨by simp,EV n signs top st.length a6 a7 a8 a9 qJ (some (.int t)),WT st f ks rl dw g,by generalize WT st f ks rl dw g=Z;unfold EV;simp,EV n signs top st.length a6 a7 (some (.int (bR f bJ (tk (bk t)):Nat))) a9 qJ (some (.int t)),WT st f bJ (rl++PS++[bN f bJ (rG t)]) dw (g++[.lst PS]),.inl ?_,bJ,g++[.lst PS],_,_,by rw[yc,G5,<-hK];exact W3.symm,by omega,?_,?_,?_,rfl,by rw[fin]⟩
   ·rw[<-hB];rw[<-e0];generalize ((bR f bJ (tk (bk t)):Nat):Int)=NV at *;generalize (t:Int)=RG at *;generalize WT st f bJ (rl++PS++[D.tup [.int NV,.str [95],.str [95],.str [114],.int RG]]) dw (g++[.lst PS])=Z4 at *;generalize WT st f bJ (rl++PS) dw (g++[.lst PS])=Z3 at *;generalize WT st f bJ rl dw (g++[.lst PS])=Z2 at *;generalize WT st f bJ rl dw g=Z1 at *;generalize WT st f ks rl dw g=Z0 at *;generalize st.length+4+g.length=Y at *;unfold EV;simp[gs,pa,Wt,ty,HJ,ty1,ap]
   ·intro q hq;rw[yc,zhz,<-gG]at hq;rcases gm.mp hq with h | h
    ·rw[t_];exact zhb _ (h2 q h)
    ·rcases gm.mp h with h | h
     ·obtain⟨c,_,rfl⟩:=g8.mp h;exact⟨km,km⟩
     ·have:q=rG t:=by simpa using h
      subst this;exact⟨km,trivial⟩
   ·intro o ho;rcases gm.mp ho with h | h
    ·exact h3 o h
    ·have:o=_:=gQ.mp h;subst this;intro m;rw[<-WD];exact T_ _ _ _ _
   ·rw[yc,zhz,gh,gh,gq];simp;omega) (λ_ _ _=>by simp)
 rw[gq]at h1 h2 h4 e1 hK;rw[m9]at h2 h4 e1 hK;exact⟨ks,g,a8',u_,hK,h1,h2,h3,by have:=pD 101 hl;omega,e1⟩
end Law
set_option maxHeartbeats 0
namespace Law
open L2 M TK TS
def zmf:q∈fO signs ps ↔ ∃p∈ps,∃c∈signs,q=jg (gr p.1 p.2) true c:=by
 unfold fO;simp only[List.mem_flatten,g8];constructor
 ·rintro ⟨l,⟨p,hp,rfl⟩,hq⟩;obtain⟨c,hc,rfl⟩:=g8.mp hq;exact⟨p,hp,c,hc,rfl⟩
 ·rintro ⟨p,hp,c,hc,rfl⟩;exact⟨_,⟨p,hp,rfl⟩,g8.mpr ⟨c,hc,rfl⟩⟩
def zjg:q∈dh signs ts ↔ ∃t∈ts,(∃c∈signs,q=jg (bk t) false c)\/q=rG t:=by
 unfold dh;simp only[List.mem_flatten,g8];constructor
 ·rintro ⟨l,⟨t,ht,rfl⟩,hq⟩;rcases gm.mp hq with h | h
  ·obtain⟨c,hc,rfl⟩:=g8.mp h;exact⟨t,ht,.inl ⟨c,hc,rfl⟩⟩
  ·exact⟨t,ht,.inr (by simpa using h)⟩
 ·rintro ⟨t,ht,h⟩;refine⟨_,⟨t,ht,rfl⟩,?_⟩;rcases h with⟨c,hc,rfl⟩ | rfl
  ·exact gW _ (g8.mpr ⟨c,hc,rfl⟩)
  ·simp
def Mg(RL:List Rl)(signs:List Nat):List TQ:=RL.map j4++fO signs (j_ RL)++(Hl (j_ RL)).map (λp=>fu p.1 p.2)++dh signs (HX (j_ RL))
def Qd(RL:List Rl):List TK:=G6 (Gn (Fj (En RL) (j_ RL)) (Hl (j_ RL))) (HX (j_ RL))
def zla(RL:List Rl)(signs:List Nat)(top n:Nat)(st:au)(yu:M.wf st)(yW:st[n]? = some (.lst (RL.map bW)))(hl:RL.length<=1000)(hw:∀r∈RL,r.w.length<=8)(hs:∀c∈signs,c<128)(M6:signs.length<=100) :
  ∃ks ALL,(ks=Qd RL/\ALL=Mg RL signs)/\Bh RL signs ks ALL/\ALL.length<=500000/\(∃(ps qs:List (List Nat×Nat)) (ts:List Nat),(ps=j_ RL/\qs=Hl (j_ RL)/\ts=HX (j_ RL))/\ALL=RL.map j4++fO signs ps++qs.map (λp=>fu p.1 p.2)++dh signs ts/\ps.Nodup/\qs.Nodup/\ts.Nodup) /\
   zc7 [.loc n,.str signs,.int top] st=.ok (.loc st.length) (st++[.lst (ALL.map (bN (top+1) ks))]):=by
 have hg:o7 st n=some (RL.map bW,.lst (RL.map bW)):=by unfold o7;rw[yW]
 generalize hf:top+1=f;unfold zc7 jP eF zda;generalize hB1:(aG (iV (ct (.bl true)) (qT jd (vr 5) _)) _:MS)=B1;generalize hB2:(aG (bw 8 (aW Hz [] _)) _:MS)=B2;generalize hB3:(cF (bM "list" aQ (vr 4) (aj (aW Ym [] _) az)):MS)=B3;generalize hB4:(aG (bw 8 (aW Rp [] _)) _:MS)=B4;obtain⟨bJ,ps,a6,Zc,k1,p1,pn,Pr,pof,in1,f1⟩:=aa7 RL signs top n f st yu yW (by omega) (λr h=>by have:=hw r h;omega) B1 hB1;have hpw:∀p∈ps,p.1.length<=8:=λp hp=>by
  obtain⟨r,h1,rfl⟩:=pof p hp;exact hw r h1
 obtain⟨cQ,g2,a7,a8,hK2,k2,in2,u2,l2,f2⟩:=aa6 ps signs top n f st yu (by omega) hs M6 B2 bJ (RL.map j4) in1 (by simp;omega) (by omega) a6 hB2;generalize hR2:RL.map j4++fO signs ps=R2 at *;have aeO:R2.length<=101000:=by rw[<-hR2];simp;omega

 obtain⟨qs,hQ,hq,f3⟩:=zkc ps (st.length+3) 8 (WT st f cQ (R2.map (bN f cQ)) (.dtf (a_ ps)) g2) WT.at3 hpw (by omega) (by omega);have hql:qs.length<=1000*9:=kO hq.len (pD 9 (by omega));rw[WT.len,WT.snoc]at f3;have hqw:∀p∈qs,p.1.length<=100:=λq h=>by
  obtain⟨p,h1,k,h2,rfl⟩:=hq.of_ q h;have:=hpw p h1;simp only[nj];omega
 have u3:∀o∈g2++[MO.dtf (a_ qs)],∀n,aU n o:=by
  intro o ho;rcases gm.mp ho with h | h
  ·exact u2 o h
  ·have:o=_:=gQ.mp h;subst this;exact λn=>Ye n _
 obtain⟨qe,qJ,hK3,k3,in3,f4⟩:=aa5 qs (.dtf (a_ ps)) (λn=>Ye n _) signs top n f st yu (by omega) hqw B3 cQ R2 in2 (by omega) (by omega) (g2++[.dtf (a_ qs)]) u3 a6 a7 a8 (some (.loc (st.length+4+g2.length))) hB3;generalize hR3:R2++qs.map (λp=>fu p.1 p.2)=R3 at *;have aeN:R3.length<=150000:=by rw[<-hR3];simp;omega

 obtain⟨ts,hT,t1,t2,t3,t4,f5⟩:=zj9 ps (st.length+3) (WT st f qe (R3.map (bN f qe)) (.dtf (a_ ps)) (g2++[.dtf (a_ qs)])) WT.at3 (by omega);rw[WT.len,WT.snoc]at f5;have u4:∀o∈g2++[MO.dtf (a_ qs)]++[MO.dkf (i_ ts)],∀n,aU n o:=by
  intro o ho;rcases gm.mp ho with h | h
  ·exact u3 o h
  ·have:o=_:=gQ.mp h;subst this;exact λn=>zkn n _
 obtain⟨uY,g4,a8',u_,hK4,k4,in4,u5,l4,f6⟩:=aa4 ts (.dtf (a_ ps)) (λn=>Ye n _) signs top n f st yu (by omega) hs M6 B4 qe R3 in3 (by omega) (by omega) (g2++[.dtf (a_ qs)]++[.dkf (i_ ts)]) u4 a6 a7 a8 (some (.loc (st.length+4+g2.length))) qJ hB4;have eA:R3++dh signs ts=RL.map j4++fO signs ps++qs.map (λp=>fu p.1 p.2)++dh signs ts:=by rw[<-hR3,<-hR2]
 refine⟨uY,R3++dh signs ts,⟨by unfold Qd;rw[<-Zc.1,<-Zc.2,<-hK2,<-hQ,<-hK3,<-hT,<-hK4],by rw[eA];unfold Mg;rw[<-Zc.2,<-hQ,<-hT]⟩,⟨?_,in4,?_,?_,?_,?_,?_⟩,by rw[gh];omega,⟨ps,qs,ts,⟨Zc.2,by rw[<-Zc.2];exact hQ,by rw[<-Zc.2];exact hT⟩,eA,pn,hq.nd,t4⟩,?_⟩
 ·intro q h;rw[eA]at h;rcases gm.mp h with h | h
  ·rcases gm.mp h with h | h
   ·rcases gm.mp h with h | h
    ·obtain⟨r,hr,rfl⟩:=g8.mp h;exact .src r hr
    ·obtain⟨p,_,c,hc,rfl⟩:=zmf.mp h;exact .pas _ _ c hc
   ·obtain⟨p,_,rfl⟩:=g8.mp h;exact .gro _ _
  ·obtain⟨t,_,h⟩:=zjg.mp h;rcases h with⟨c,hc,rfl⟩ | rfl
   ·exact .pab _ c hc
   ·exact .bak _
 ·intro r hr;rw[eA];exact gW _ (gW _ (gW _ (g8.mpr ⟨r,hr,rfl⟩)))
 ·intro r hr c hc;rw[eA];exact gW _ (gW _ (kE _ (zmf.mpr ⟨(r.w,r.g),Pr r hr,c,hc,rfl⟩)))
 ·intro r hr k hk;rw[eA];exact gW _ (kE _ (g8.mpr ⟨(r.w.drop k,r.g),hq.all (r.w,r.g) (Pr r hr) k hk,rfl⟩))
 ·intro r hr c hc;exact kE _ (zjg.mpr ⟨r.g,t1 (r.w,r.g) (Pr r hr),.inl ⟨c,hc,rfl⟩⟩)
 ·intro r hr;exact kE _ (zjg.mpr ⟨r.g,t1 (r.w,r.g) (Pr r hr),.inr rfl⟩)
 ·have ef:(top:Int)+1=(f:Int):=by omega
  have wQ:=zl2 st f;have gcx:=X4 (st:=st) (g:=[lq st.length f,.dic (cU f uY)]) (g':=MO.dtf (a_ ps)::g4) (o:=.lst ((R3++dh signs ts).map (bN f uY))) (T_ _ _ _ _);have eW:st++[lq st.length f,.dic (cU f uY)]++MO.lst ((R3++dh signs ts).map (bN f uY))::(MO.dtf (a_ ps)::g4)=WT st f uY ((R3++dh signs ts).map (bN f uY)) (.dtf (a_ ps)) g4:=by simp[WT]
  rw[eW]at gcx;have eW0:st++[lq st.length f,.dic []]++[.lst [],.dic []]=WT st f [] [] (.dic []) []:=by simp[WT,cU]
  have Qu:(st++[lq st.length f,.dic []]).length=st.length+2:=by simp
  have t_:st.length+2+1=st.length+3:=rfl;have hg0:(WT st f [] [] (.dic []) [])[n]? = some (.lst (RL.map bW)):=WT.old yW;have WY:qz "Numbers" Nt (aj (aM bH (vr 2) (ct (.int 1))) az) [some (.loc n),some (.str signs),some (.int top),none,none,none,none,none,none,none,none,none] st=.ok (.loc st.length) (st++[lq st.length f,.dic []]):=by
   unfold qz;have a1:(aj (aM bH (vr 2) (ct (.int 1))) az:MA) [some (.loc n),some (.str signs),some (.int top),none,none,none,none,none,none,none,none,none] st=.ok [.int f] st:=by simp[ef]
   rw[a1,R.aD,wQ]
   rfl

  have d1:=BX (m:=vr 5) (env:=EV n signs top st.length a6 none none none none none) (st:=WT st f bJ ((RL.map j4).map (bN f bJ)) (.dic (a_ ps)) []) (st1:=WT st f bJ ((RL.map j4).map (bN f bJ)) (.dic (a_ ps)) []) (n:=st.length+3) rfl WT.at3;rw[zf1,WT.aat]at d1;have d2:=BX (m:=vr 9) (env:=EV n signs top st.length a6 a7 a8 (some (.loc (st.length+4+g2.length))) none none) (st:=WT st f cQ (R2.map (bN f cQ)) (.dtf (a_ ps)) (g2++[.dic (a_ qs)])) (st1:=WT st f cQ (R2.map (bN f cQ)) (.dtf (a_ ps)) (g2++[.dic (a_ qs)])) (n:=st.length+4+g2.length) rfl WT.Zm;rw[zf1,WT.aas]at d2;have c5:aW Uc [] (aj (vr 5) az) (EV n signs top st.length a6 a7 a8 (some (.loc (st.length+4+g2.length))) qJ none) (WT st f qe (R3.map (bN f qe)) (.dtf (a_ ps)) (g2++[.dtf (a_ qs)]))=.ok (.loc (st.length+4+(g2++[MO.dtf (a_ qs)]).length)) (WT st f qe (R3.map (bN f qe)) (.dtf (a_ ps)) (g2++[.dtf (a_ qs)]++[.dkc (i_ ts)])):=by
   generalize WT st f qe (R3.map (bN f qe)) (.dtf (a_ ps)) (g2++[.dtf (a_ qs)])=Z at *;unfold EV;simp[f5]
  have d3:=BZ (m:=aW Uc [] (aj (vr 5) az)) (env:=EV n signs top st.length a6 a7 a8 (some (.loc (st.length+4+g2.length))) qJ none) (st:=WT st f qe (R3.map (bN f qe)) (.dtf (a_ ps)) (g2++[.dtf (a_ qs)])) c5 WT.Zm;rw[zpp,WT.aas]at d3;rw[show startM 12 [D.loc n,.str signs,.int top]=[some (.loc n),some (.str signs),some (.int top),none,none,none,none,none,none,none,none,none] from rfl];generalize hMK:qz "Numbers" Nt _=MK at *;generalize hD1:Gx (vr 5)=DT5 at *;generalize hD2:Gx (vr 9)=DT9 at *;generalize hD3:Xp (aW Uc [] (aj (vr 5) az))=DK at *;generalize (R3++dh signs ts).map (bN f uY)=RL4 at *;generalize WT st f uY RL4 _ _=Z9 at *;generalize WT st f qe _ _ (g2++[MO.dtf (a_ qs)]++[MO.dkf (i_ ts)])=Z8 at *;generalize WT st f qe _ _ (g2++[MO.dtf (a_ qs)])=Z7 at *;generalize WT st f cQ _ _ (g2++[MO.dtf (a_ qs)])=Z6 at *;generalize WT st f cQ _ _ (g2++[MO.dic (a_ qs)])=Z5 at *;generalize WT st f cQ _ _ g2=Z4 at *;generalize WT st f bJ _ (MO.dtf (a_ ps)) []=Z3 at *;generalize WT st f bJ _ (MO.dic (a_ ps)) []=Z2 at *;generalize WT st f [] [] (MO.dic []) []=Z1 at *;generalize (ps.map λp=>D.tup [.str p.1,.int (p.2:Nat)])=I1 at *;generalize (qs.map λp=>D.tup [.str p.1,.int (p.2:Nat)])=I2 at *;generalize (ts.map λt=>D.int (t:Nat))=I3 at *;generalize RL.map bW=RLE at *;unfold EV at *;generalize st++[lq st.length f,.dic []]=Z0 at *;generalize st.length+4+g2.length=Y at *;simp[WY,wu,Qu,t_,eW0,hg0,f1,d1,f2,f3,d2,f4,d3,f6];exact gcx
end Law
set_option maxHeartbeats 0
namespace Law
open L2 M TK TS
def BK(RL:List Rl):(∀p∈j_ RL,∃r∈RL,p=(r.w,r.g))/\(j_ RL).length<=RL.length/\(j_ RL).Nodup:=by
 have key:∀(l:List Rl) (ps:List (List Nat×Nat)),(∀p∈l.foldl (λps r=>cW ps (r.w,r.g)) ps,p∈ps\/∃r∈l,p=(r.w,r.g))/\(l.foldl (λps r=>cW ps (r.w,r.g)) ps).length<=ps.length+l.length/\(ps.Nodup->(l.foldl (λps r=>cW ps (r.w,r.g)) ps).Nodup):=by
  intro l
  induction l with
  | nil=>intro ps;exact⟨λp h=>.inl h,by simp,λh=>h⟩
  | cons r l ih =>
   intro ps;obtain⟨h1,h2,h3⟩:=ih (cW ps (r.w,r.g));refine⟨λp hp=>?_,?_,λh=>h3 (Yg h _)⟩
   ·rcases h1 p hp with h | ⟨r',hr,e⟩
    ·rcases Zy h with h | h
     ·exact .inl h
     ·exact .inr ⟨r,by simp,h⟩
    ·exact .inr ⟨r',by simp[hr],e⟩
   ·have:=X_ ps (r.w,r.g);simp only[pA,gC];omega
 obtain⟨h1,h2,h3⟩:=key RL [];refine⟨λp hp=>?_,by simp only[n8,mJ]at h2;exact h2,h3 .nil⟩;rcases h1 p hp with h | h
 ·exact nomatch h
 ·exact h
theorem J6(w:List Nat)(t:Nat)(qs:List (List Nat×Nat)):∀j,(∀q∈Cr qs w t j,q∈qs\/∃k,q=(w.drop k,t))/\(Cr qs w t j).length<=qs.length+j/\(qs.Nodup->(Cr qs w t j).Nodup)
 | 0=>⟨λq h=>.inl h,by simp[Cr],λh=>h⟩
 | j+1=>by
  obtain⟨h1,h2,h3⟩:=J6 w t qs j;refine⟨λq hq=>?_,?_,λh=>Yg (h3 h) _⟩
  ·rcases Zy hq with h | h
   ·exact h1 q h
   ·exact .inr ⟨j,h⟩
  ·have:=X_ (Cr qs w t j) (w.drop j,t);simp only[Cr];omega
def VR(B:Nat)(ps:List (List Nat×Nat))(hB:∀p∈ps,p.1.length<=B):(∀q∈Hl ps,∃p∈ps,∃k,q=(p.1.drop k,p.2))/\(Hl ps).length<=ps.length*(B+1)/\(Hl ps).Nodup:=by
 have key:∀(l qs:List (List Nat×Nat)),(∀p∈l,p.1.length<=B)->(∀q∈l.foldl (λqs p=>Cr qs p.1 p.2 (p.1.length+1)) qs,q∈qs\/∃p∈l,∃k,q=(p.1.drop k,p.2))/\(l.foldl (λqs p=>Cr qs p.1 p.2 (p.1.length+1)) qs).length<=qs.length+l.length*(B+1)/\(qs.Nodup->(l.foldl (λqs p=>Cr qs p.1 p.2 (p.1.length+1)) qs).Nodup):=by
  intro l
  induction l with
  | nil=>intro qs _;exact⟨λp h=>.inl h,by simp,λh=>h⟩
  | cons p l ih =>
   intro qs hb;obtain⟨a1,a2,a3⟩:=J6 p.1 p.2 qs (p.1.length+1);obtain⟨h1,h2,h3⟩:=ih (Cr qs p.1 p.2 (p.1.length+1)) λx hx=>hb x (by simp[hx]);have hp:=hb p (by simp);refine⟨λq hq=>?_,?_,λh=>h3 (a3 h)⟩
   ·rcases h1 q hq with h | ⟨p',WK,e⟩
    ·rcases a1 q h with h | ⟨k,e⟩
     ·exact .inl h
     ·exact .inr ⟨p,by simp,k,e⟩
    ·exact .inr ⟨p',by simp[WK],e⟩
   ·simp only[pA,gC];rw[Nat.add_mul,Nat.one_mul];omega
 obtain⟨h1,h2,h3⟩:=key ps [] hB;refine⟨λq hq=>?_,by simp only[n8,mJ]at h2;exact h2,h3 .nil⟩;rcases h1 q hq with h | h
 ·exact nomatch h
 ·exact h
def Uw(ps:List (List Nat×Nat)):(HX ps).length<=ps.length/\(HX ps).Nodup:=by
 have key:∀(l:List (List Nat×Nat)) (ts:List Nat),(l.foldl (λts p=>cW ts p.2) ts).length<=ts.length+l.length/\(ts.Nodup->(l.foldl (λts p=>cW ts p.2) ts).Nodup):=by
  intro l
  induction l with
  | nil=>intro ts;exact⟨by simp,λh=>h⟩
  | cons p l ih =>
   intro ts;obtain⟨h2,h3⟩:=ih (cW ts p.2);refine⟨?_,λh=>h3 (Yg h _)⟩;have:=X_ ts p.2;simp only[pA,gC];omega
 obtain⟨h2,h3⟩:=key ps [];exact⟨by simp only[n8,mJ]at h2;exact h2,h3 .nil⟩
end Law
namespace M
open L2 TK TS
structure TC where
 s:TS
 l:List Nat
 h:Nat
 r:List Nat
def L_(s:TS)(l r:List Nat):TC:=⟨s,l,r.headD 95,r.tail⟩
def Nb(s:TS)(l r:List Nat):TC:=⟨s,l.dropLast,l.getLastD 95,r⟩
def moved(c:TC)(q:TQ):TC:=if q.mv then L_ q.g (c.l++[q.w]) c.r else Nb q.g c.l (q.w::c.r)
def Wq:TS->Prop
 | tp _=>False
 | tk _=>True
def fits(c:TC)(q:TQ):Prop:=c.s=q.s/\c.h=q.x
inductive vI (ALL:List TQ):TC->Nat->TC->Prop where
 | nil (c:TC):vI ALL c 0 c
 | cons (c:TC) (q:TQ) (n:Nat) (c':TC) (hq:q∈ALL) (hf:fits c q) (ht:Wq (moved c q).s) (h:vI ALL (moved c q) n c'):vI ALL c (n+1) c'
inductive Rn (ALL:List TQ) (c':TC):Nat->TC->Prop where
 | last (c:TC) (q:TQ) (hq:q∈ALL) (hf:fits c q) (e:moved c q=c'):Rn ALL c' 1 c
 | more (c:TC) (q:TQ) (n:Nat) (hq:q∈ALL) (hf:fits c q) (ht:Wq (moved c q).s) (h:Rn ALL c' n (moved c q)):Rn ALL c' (n+1) c
def vI.run(h:vI ALL c n c1)(k:Rn ALL c' m c1):Rn ALL c' (n+m) c:=by
 induction h with
 | nil c=>simpa using k
 | cons c q n c1 hq hf ht _ ih =>
  rw[show n+1+m=n+m+1 by omega];exact .more c q (n+m) hq hf ht (ih k)
def vI.trans(h:vI ALL c n c1)(k:vI ALL c1 m c2):vI ALL c (n+m) c2:=by
 induction h with
 | nil c=>simpa using k
 | cons c q n c1 hq hf ht _ ih =>
  rw[show n+1+m=n+m+1 by omega];exact .cons c q (n+m) c2 hq hf ht (ih k)
theorem vI.pass:∀(u l t:List Nat),(∀c∈u,jg k true c∈ALL)->vI ALL (L_ (tk k) l (u++t)) u.length (L_ (tk k) (l++u) t)
 | [],l,t,_=>by simpa using vI.nil _
 | c::u,l,t,h=>by
  have ih:=vI.pass (k:=k) u (l++[c]) t λx hx=>h x (kW _ hx);rw[gG]at ih;exact .cons _ (jg k true c) _ _ (h c nO) ⟨rfl,rfl⟩ trivial ih
theorem vI.grow:∀(w l:List Nat),(∀j,j<=w.length->fu (w.drop j) t∈ALL)->vI ALL (L_ (tk (gr w t)) l []) w.length (L_ (tk (gr [] t)) (l++w) [])
 | [],l,_=>by simpa using vI.nil _
 | c::w,l,h=>by
  have ih:=vI.grow (t:=t) w (l++[c]) λj hj=>by simpa using h (j+1) (by simpa using hj)
  rw[gG]at ih;exact .cons _ (fu (c::w) t) _ _ (by simpa using h 0 (by simp)) ⟨rfl,rfl⟩ trivial ih
theorem vI.back(l:List Nat):∀(n:Nat) (u r:List Nat),u.length=n->(∀c∈u,jg k false c∈ALL)->vI ALL (Nb (tk k) (l++u) r) n (Nb (tk k) l (u++r))
 | 0,u,r,hn,_=>by
  have:u=[]:=List.eq_nil_of_length_eq_zero hn;subst this;simpa using vI.nil _
 | n+1,u,r,hn,h=>by
  have tQ:u≠[]:=λe=>by rw[e]at hn;cases hn
  obtain⟨u',c,rfl⟩:∃u' c,u=u'++[c]:=⟨u.dropLast,u.getLast tQ,(pC tQ).symm⟩;have ih:=vI.back (k:=k) l n u' (c::r) (by simpa using hn) λx hx=>h x (gW _ hx);have e1:Nb (tk k) (l++(u'++[c])) r=⟨tk k,l++u',c,r⟩:=by
   unfold Nb;rw[<-gG];simp
  rw[e1,gG];exact .cons _ (jg k false c) _ _ (h c (by simp)) ⟨rfl,rfl⟩ trivial ih
def img(t k:Nat)(u:List Nat):TC:=L_ (tp t) (List.replicate k 95) (u++if k=0 then [] else [95])
def ac6{RL:List Rl}{signs:List Nat}{ALL:List TQ}(src:∀r∈RL,j4 r∈ALL)(pas:∀r∈RL,∀c∈signs,jg (gr r.w r.g) true c∈ALL)(gro:∀r∈RL,∀k,k<=r.w.length->fu (r.w.drop k) r.g∈ALL)
  (pab:∀r∈RL,∀c∈signs,jg (bk r.g) false c∈ALL) (bak:∀r∈RL,rG r.g∈ALL) {r:Rl} (hr:r∈RL) (rest:List Nat) (k:Nat) (h1:∀c∈rest,c∈signs) (h2:∀c∈r.w,c∈signs) :
  Rn ALL (img r.g (k+1) (rest++r.w)) (2*(rest.length+1)+2*r.w.length+1) (img r.s k (r.x::rest)):=by
 have hu:∀c∈rest++r.w,c∈signs:=λc hc=>by
  rcases gm.mp hc with h | h
  ·exact h1 c h
  ·exact h2 c h

 have s6:Rn ALL (img r.g (k+1) (rest++r.w)) 1 (Nb (tk (bk r.g)) (List.replicate k 95++[95]) (rest++r.w++[95])):=by
  have e0:Nb (tk (bk r.g)) (List.replicate k 95++[95]) (rest++r.w++[95])=⟨tk (bk r.g),List.replicate k 95,95,rest++r.w++[95]⟩:=by unfold Nb;simp
  rw[e0];refine .last _ (rG r.g) (bak r hr) ⟨rfl,rfl⟩ ?_;show L_ (tp r.g) (List.replicate k 95++[95]) (rest++r.w++[95])=_;unfold img;rw[ae_ (by omega),List.replicate_succ']
 have s5:=(vI.back (k:=bk r.g) (List.replicate k 95++[95]) (rest++r.w).length (rest++r.w) [95] rfl λc hc=>pab r hr c (hu c hc)).run s6

 have s4:Rn ALL (img r.g (k+1) (rest++r.w)) ((rest++r.w).length+1+1) (L_ (tk (gr [] r.g)) (List.replicate k 95++[95]++rest++r.w) []):=by
  refine .more _ (fu [] r.g) _ (by simpa using gro r hr r.w.length (gf _)) ⟨rfl,rfl⟩ trivial ?_;have e0:moved (L_ (tk (gr [] r.g)) (List.replicate k 95++[95]++rest++r.w) []) (fu [] r.g)=Nb (tk (bk r.g)) (List.replicate k 95++[95]++(rest++r.w)) [95]:=by
   rw[<-gG];rfl
  rw[e0];exact s5
 have s3:=(vI.grow (t:=r.g) r.w (List.replicate k 95++[95]++rest) λj hj=>gro r hr j hj).run s4

 have tail:∀(t:List Nat),(t=[]\/t=[95])->L_ (tk (gr r.w r.g)) (List.replicate k 95++[95]++rest) t=L_ (tk (gr r.w r.g)) (List.replicate k 95++[95]++rest) []:=by
  rintro t (rfl | rfl)<;>rfl
 have ht:(if k=0 then [] else [95])=([]:List Nat)\/(if k=0 then [] else [95])=([95]:List Nat):=by by_cases c:k=0<;>simp[c]
 rw[<-tail _ ht]at s3;have s2:=(vI.pass (k:=gr r.w r.g) rest (List.replicate k 95++[95]) (if k=0 then [] else [95]) λc hc=>pas r hr c (h1 c hc)).run s3;have e:2*(rest.length+1)+2*r.w.length+1=rest.length+(r.w.length+((rest++r.w).length+1+1))+1:=by rw[gh];omega
 rw[e];exact .more _ (j4 r) _ (src r hr) ⟨rfl,rfl⟩ trivial s2
end M
set_option maxHeartbeats 0
namespace Law
open L2 M TK TS
def kT(f:Nat)(ks:List TK)(s:M.TS)(x:Nat):List Key:=[.inl ((bR f ks s:Nat):Int),.inr (strOf [x])]
def BJ(h:Gd RL signs q)(hT:∀r∈RL,r.s<f):∀n,q.s=tp n->n<f:=by
 intro n e;cases h with
 | src r hr=>cases e;exact hT r hr
 | pas w t c _=>cases e
 | gro w t=>cases w<;>cases e
 | pab t c _=>cases e
 | bak t=>cases e
def V_(A:Bh RL signs ks ALL)(hs:95∉signs)(hR:∀r∈RL,∀r'∈RL,r.s=r'.s->r.x=r'.x->r.w=r'.w/\r.g=r'.g)(hT:∀r∈RL,r.s<f)(ha:a∈ALL)(hb:b∈ALL) 
  (e:kT f ks a.s a.x=kT f ks b.s b.x):a=b:=by
 unfold kT at e;simp only[List.cons.injEq,Sum.inl.injEq,Sum.inr.injEq,zfz,and_true]at e;have e1:bR f ks a.s=bR f ks b.s:=by omega
 have es:a.s=b.s:=JD (A.R5 a ha).1 (A.R5 b hb).1 (BJ (A.good a ha) hT) (BJ (A.good b hb) hT) e1;exact Gd.one hs hR (A.good a ha) (A.good b hb) es e.2
structure fX where
 st:Int
 c:Nat
 w:Nat
 m:Nat
 g:Int
def fX.d(r:fX):D:=.tup [.int r.st,.str [r.c],.str [r.w],.str [r.m],.int r.g]
end Law
namespace Law
open L2 M
def tu(r:fX):List Key:=[.inl r.st,.inr (strOf [r.c])]
def zo5(r:fX)(s:Int)(c:Nat):tu r=[.inl s,.inr (strOf [c])]↔r.st=s/\r.c=c:=by
 unfold tu;constructor
 ·intro h;injection h with h1 h2;injection h2 with h2 h3;injection h1 with h1;injection h2 with h2;injection h2 with h2;refine⟨h1,?_⟩;have:=congrArg Array.toList h2;simpa using this
 ·rintro ⟨rfl,rfl⟩;rfl
def tab:List (List Key×D)->List fX->List (List Key×D)
 | kvs,[]=>kvs
 | kvs,r::rs=>tab (match iJ kvs (tu r) with | some _=>kvs | none=>kvs++[(tu r,r.d)]) rs
theorem Bu(s:Int)(c:Nat):∀(rs:List fX) (kvs:List (List Key×D)),iJ (tab kvs rs) [.inl s,.inr (strOf [c])]=match iJ kvs [.inl s,.inr (strOf [c])] with | some d=>some d | none=>(rs.find? λr=>decide (r.st=s/\r.c=c)).map fX.d
 | [],kvs=>by rw[tab];cases iJ kvs [.inl s,.inr (strOf [c])]<;>rfl
 | r::rs,kvs=>by
  rw[tab,Bu s c rs,mW];by_cases h:r.st=s/\r.c=c
  ·have hk:=(zo5 r s c).mpr h;rw[hk];cases e:iJ kvs [.inl s,.inr (strOf [c])] with
   | some d=>simp only[e]
   | none =>
    dsimp only;rw[zme _ _ _ _ e,ae9 rfl];simp[h]
  ·have hk:¬ tu r=[.inl s,.inr (strOf [c])]:=λz=>h ((zo5 r s c).mp z);have hd:decide (r.st=s/\r.c=c)=false:=afd h;rw[hd];cases e:iJ kvs (tu r) with
   | some d=>rfl
   | none =>
    dsimp only;rw[zme _ _ _ _ e,ae_ hk]
theorem Bv:∀{rs:List fX} {kvs:List (List Key×D)},p∈tab kvs rs->p∈kvs\/∃r∈rs,p.2=r.d
 | [],kvs,h=>by rw[tab]at h;exact .inl h
 | r::rs,kvs,h=>by
  rw[tab]at h;rcases Bv h with h | ⟨q,hq,e⟩
  ·cases e:iJ kvs (tu r) with
   | some d=>rw[e]at h;exact .inl h
   | none =>
    rw[e]at h;rcases gm.mp h with h | h
    ·exact .inl h
    ·obtain rfl:p=(tu r,r.d):=by simpa using h
     exact .inr ⟨r,by simp,rfl⟩
  ·exact .inr ⟨q,kW _ hq,e⟩
def Ia(rs:List fX)(n:Nat)(st:au)(h:st[n]? = some (.lst (rs.map fX.d)))(hl:rs.length<=50000):zdg [.loc n] st=.ok (.loc st.length) (st++[.dic (tab [] rs)]):=by
 unfold zdg jP eF zcp;generalize hb:(cF (bM "dict" rN (vr 1) _):MS)=body;have key:∀(l:List fX) (kvs:List (List Key×D)) (a2:Option D),kvs.length+l.length<=50000->∃a2',dz (aK 2) body [(n,.lst (rs.map fX.d))] (l.map fX.d) [some (.loc n),some (.loc st.length),a2] (st++[.dic kvs])=.ok (.nx [some (.loc n),some (.loc st.length),a2']) (st++[.dic (tab kvs l)]):=by
  intro l
  induction l with
  | nil=>intro kvs a2 _;exact⟨a2,by rw[mU,dz,ae9 (by simp[fZ h]),tab]⟩
  | cons r l ih =>
   intro kvs a2 hk;rw[gC]at hk;have yx:kvs.length<1000000:=by omega
   have ks:keysOf [.int r.st,.str [r.c]]=some (tu r):=rfl;rw[gB,dz,ae9 (by simp[fZ h]),Ol,R.aD,tab];rw[show List.set [some (D.loc n),some (D.loc st.length),a2] 2 (some r.d)=[some (.loc n),some (.loc st.length),some r.d] from rfl];cases e:iJ kvs (tu r) with
   | some d =>
    obtain⟨a2',h2⟩:=ih kvs (some r.d) (by omega);refine⟨a2',?_⟩;have tQ:body [some (.loc n),some (.loc st.length),some r.d] (st++[.dic kvs])=.ok (.nx [some (.loc n),some (.loc st.length),some r.d]) (st++[.dic kvs]):=by
     rw[<-hb];simp only[tu]at e;simp[dM,fX.d,bz,uq,yU,rN,yx,e]
    rw[tQ,R.aD];exact h2
   | none =>
    obtain⟨a2',h2⟩:=ih (kvs++[(tu r,r.d)]) (some r.d) (by simp;omega);refine⟨a2',?_⟩;have tQ:body [some (.loc n),some (.loc st.length),some r.d] (st++[.dic kvs])=.ok (.nx [some (.loc n),some (.loc st.length),some r.d]) (st++[.dic (kvs++[(tu r,r.d)])]):=by
     rw[<-hb];simp only[tu]at e;simp[dM,fX.d,bz,uq,yU,rN,yx,e,tu]
    rw[tQ,R.aD];exact h2
 obtain⟨a2,k1⟩:=key rs [] none (by simpa using hl);rw[show startM 3 [D.loc n]=[some (.loc n),none,none] from rfl];simp[fZ h,k1];refine Nk (o:=.dic (tab [] rs)) (λp hp=>?_);rcases Bv hp with hp | ⟨r,_,e⟩
 ·exact absurd hp (g_)
 ·rw[e];simp[fX.d]
def pick(rs:List fX)(s:Int)(c:Nat):Option fX:=rs.find? λr=>decide (r.st=s/\r.c=c)
def Rz(r:List Nat):Nat×List Nat:=match r with | []=>(95,[]) | x::t=>(x,t)
def M3(l:List Nat):List Nat×Nat:=if l=[] then ([],95) else (l.dropLast,l.getLastD 0)
def goD(q:fX)(l r:List Nat):D:=if q.m=108 then .tup [.int q.g,.str (M3 l).1,.str [(M3 l).2],.str (q.w::r)] else .tup [.int q.g,.str (l++[q.w]),.str [(Rz r).1],.str (Rz r).2]
def QK(rs:List fX)(s:Int)(l:List Nat)(c:Nat)(r:List Nat):D:=match pick rs s c with
 | none=>.non
 | some q=>goD q l r
def TV(l:List α)(x:α):uq (l++[x]) (-1)=some x:=by
 unfold uq yU;rw[ae_ (by omega),ae9 (by simp;omega)];have:((-1:Int)+((l++[x]).length:Nat)).toNat=l.length:=by simp;omega
 rw[this];simp
def Lw(l:List α)(x:α):cut (l++[x]) (some (-1)) none=[x]:=by
 unfold cut;rw[HT.ZJ];have:HT.dC (l++[x]).length 0 (some (-1))=l.length:=by
  unfold HT.dC;dsimp only;rw[ae9 (by omega)];simp;omega
 rw[this];simp
def QH(h:l≠[]):∃k x,l=k++[x]:=⟨l.dropLast,l.getLast h,(pC h).symm⟩
def J5(k:List Nat)(x:Nat):M3 (k++[x])=(k,x):=by
 unfold M3;rw[ae_ (by simp)];simp
def JX(rs:List fX)(m:Nat)(s:Int)(l:List Nat)(c:Nat)(r:List Nat)(st:au)(h:st[m]? = some (.dic (tab [] rs)))(hl:l.length<=100000)(hr:r.length<=100000) :
  zca [.loc m,.tup [.int s,.str l,.str [c],.str r]] st=.ok (QK rs s l c r) st:=by
 unfold zca jP eF zbf;rw[show startM 5 [D.loc m,.tup [.int s,.str l,.str [c],.str r]]=[some (.loc m),some (.tup [.int s,.str l,.str [c],.str r]),none,none,none] from rfl];have j0:∀s1,bz (.tup [.int s,.str l,.str [c],.str r]) (.int 0) s1=.ok (.int s) s1:=λs1=>qb s1 0 _ _ rfl;have j1:∀s1,bz (.tup [.int s,.str l,.str [c],.str r]) (.int 1) s1=.ok (.str l) s1:=λs1=>qb s1 1 _ _ rfl;have j2:∀s1,bz (.tup [.int s,.str l,.str [c],.str r]) (.int 2) s1=.ok (.str [c]) s1:=λs1=>qb s1 2 _ _ rfl;have j3:∀s1,bz (.tup [.int s,.str l,.str [c],.str r]) (.int 3) s1=.ok (.str r) s1:=λs1=>qb s1 3 _ _ rfl;have hv:=Bu s c rs [];rw[HF]at hv;dsimp only at hv;have hp:pick rs s c=rs.find? λr=>decide (r.st=s/\r.c=c):=rfl;rw[<-hp]at hv;unfold QK;cases e:pick rs s c with
 | none =>
  rw[e]at hv;simp only[Option.map_none]at hv;generalize tab [] rs=TB at *;simp[j0,j2,dM,h,zx,hv,zL]
 | some q =>
  rw[e]at hv;simp only[m7]at hv;have i0:∀s1,bz q.d (.int 0) s1=.ok (.int q.st) s1:=λs1=>qb s1 0 _ _ rfl;have i1:∀s1,bz q.d (.int 1) s1=.ok (.str [q.c]) s1:=λs1=>qb s1 1 _ _ rfl;have i2:∀s1,bz q.d (.int 2) s1=.ok (.str [q.w]) s1:=λs1=>qb s1 2 _ _ rfl;have i3:∀s1,bz q.d (.int 3) s1=.ok (.str [q.m]) s1:=λs1=>qb s1 3 _ _ rfl;have i4:∀s1,bz q.d (.int 4) s1=.ok (.int q.g) s1:=λs1=>qb s1 4 _ _ rfl;have jn:∀s1,jF q.d .non s1=.ok (.bl false) s1:=λs1=>rfl;dsimp only;generalize tab [] rs=TB at *;unfold goD;by_cases hq:q.m=108
  ·rw[ae9 hq];have ad:∀s1,bH (.str [q.w]) (.str r) s1=.ok (.str (q.w::r)) s1:=λs1=>Rf s1 _ _ (by simp;omega);by_cases Qu:l=[]
   ·subst Qu;have s1:∀s2,vG (.str []) none (some (-1)) s2=.ok (.str []) s2:=λs2=>by rw[Hg s2 _ _ _ (by decide),zk2];rfl
    have s3:∀s2,vG (.str []) (some (-1)) none s2=.ok (.str []) s2:=λs2=>by rw[Hg s2 _ _ _ (by decide)];rfl
    simp[j0,j1,j2,j3,dM,h,zx,hv,jn,i2,i3,i4,hq,s1,s3,ad,M3,zL]
   ·obtain⟨k,x,rfl⟩:=QH Qu;have hkl:k.length+1<=100000:=by simpa using hl
    have s1:∀s2,vG (.str (k++[x])) none (some (-1)) s2=.ok (.str k) s2:=λs2=>by rw[Hg s2 _ _ _ (by simp;omega),zk2,List.dropLast_concat]
    have s3:∀s2,vG (.str (k++[x])) (some (-1)) none s2=.ok (.str [x]) s2:=λs2=>by rw[Hg s2 _ _ _ (by simp;omega),Lw]
    rw[J5];generalize k++[x]=K at *;simp[j0,j1,j2,j3,dM,h,zx,hv,jn,i2,i3,i4,hq,s1,s3,ad,zL]
  ·rw[ae_ hq];have ad:∀s1,bH (.str l) (.str [q.w]) s1=.ok (.str (l++[q.w])) s1:=λs1=>Rf s1 _ _ (by simp;omega);cases r with
   | nil =>
    have s1:∀s2,vG (.str []) none (some 1) s2=.ok (.str []) s2:=λs2=>by rw[Hg s2 _ _ _ (by decide)];rfl
    have s3:∀s2,vG (.str []) (some 1) none s2=.ok (.str []) s2:=λs2=>by rw[Hg s2 _ _ _ (by decide)];rfl
    simp[j0,j1,j2,j3,dM,h,zx,hv,jn,i2,i3,i4,hq,s1,s3,ad,Rz,zL]
   | cons y t =>
    have hkl:t.length+1<=100000:=by simpa using hr
    have s1:∀s2,vG (.str (y::t)) none (some 1) s2=.ok (.str [y]) s2:=λs2=>by
     rw[Hg s2 _ _ _ (by simp;omega)];have:=znj (y::t) 1 (by simp);exact congrArg (λz=>R.ok (D.str z) s2) this
    have s3:∀s2,vG (.str (y::t)) (some 1) none s2=.ok (.str t) s2:=λs2=>Ij (y::t) s2 (by simp;omega);simp[j0,j1,j2,j3,dM,h,zx,hv,jn,i2,i3,i4,hq,s1,s3,ad,Rz,zL]
def d_{α:Type}(nx:α->Option α):Nat->α->List α
 | 0,x=>[x]
 | n+1,x=>match nx x with
  | none=>[x]
  | some y=>x::d_ nx n y
theorem zns(nx:α->Option α):∀(n:Nat) (x:α),1<=(d_ nx n x).length/\(d_ nx n x).length<=n+1
 | 0,x=>by simp[d_]
 | n+1,x=>by
  rw[d_]
  split
  ·simp
  ·rename_i y _;have:=zns nx n y;simp;omega
def zh7(enc:α->D)(nx:α->Option α)(P:Nat->α->Prop)(cap:D)(c most:Nat)(st:au)(x:α)(hP0:P 0 x)(hPs:∀k y z,k<most->P k y->nx y=some z->P (k+1) z) 
  (hnn:∀y s,jF (enc y) .non s=.ok (.bl false) s) (hu:∀y k,under k (enc y)) (hG:∀k y l,k<most->P k y->GL 0 ([cap]++[enc y]) (fJ (st++[.lst l]))=.ok ((nx y).elim .non enc) (fJ (st++[.lst l])))
  (hc:st[c]? = some (.clo 0 (G_ 0) [cap])) (hmo:most<999990):zcd [.loc c,enc x,.int most] st=.ok (.loc st.length) (st++[.lst ((d_ nx most x).map enc)]):=by
 unfold zcd jP eF zce;generalize hC:(oZ (aM leV (bL cO (aj (vr 3) az)) (vr 2)):MT)=C;generalize hB:(aG (bw 4 (callC G_ GL 0 _)) _:MS)=B;have Xf:∀(l:List D) (a4:Option D),C [some (.loc c),some (enc x),some (.int most),some (.loc st.length),a4] (st++[.lst l])=.ok (decide ((l.length:Int)<=(most:Int))) (st++[.lst l]):=λl a4=>by
  rw[<-hC];have uZ:=Nm (st:=st++[.lst l]) (n:=st.length) (ds:=l) (by simp[aq]);simp[uZ]
 have hBv:∀(pre:List α) (y:α) (a4:Option D),P pre.length y->pre.length<most->B [some (.loc c),some (enc x),some (.int most),some (.loc st.length),a4] (st++[.lst ((pre++[y]).map enc)]) =
   match nx y with
   | none=>.ok (.rt (.loc st.length)) (st++[.lst ((pre++[y]).map enc)])
   | some z=>.ok (.nx [some (.loc c),some (enc x),some (.int most),some (.loc st.length),some (enc z)]) (st++[.lst ((pre++[y]++[z]).map enc)]):=λpre y a4 hy hp=>by
  rw[<-hB];have W5:uq ((pre++[y]).map enc) (-1)=some (enc y):=by
   rw[gZ];exact TV _ _
  have hA:(aj (aM bz (vr 3) (yj qd (ct (.int 1)))) az) [some (.loc c),some (enc x),some (.int most),some (.loc st.length),a4] (st++[.lst ((pre++[y]).map enc)])=.ok [enc y] (st++[.lst ((pre++[y]).map enc)]):=by
   have:=zM (st++[.lst ((pre++[y]).map enc)]) st.length (-1) ((pre++[y]).map enc) (enc y) (by simp) W5;generalize (pre++[y]).map enc=l at this ⊢;simp[this]
  have vZ:=Ot (Λ:=G_) (G:=GL) (i:=0) (n:=c) (j:=0) (d:=(nx y).elim .non enc) (env:=[some (.loc c),some (enc x),some (.int most),some (.loc st.length),a4]) rfl (fZ hc) hA (fZ hc) (hG pre.length y _ hp hy) (by cases nx y with | none=>simp | some z=>exact hu z _);have hlen:((pre++[y]).map enc).length<1000000:=by simp;omega
  have adI:∀z,(pre++[y]++[z]).map enc=(pre++[y]).map enc++[enc z]:=λz=>by simp
  simp only[adI];generalize (pre++[y]).map enc=l at vZ hlen ⊢;cases e:nx y with
  | none =>
   rw[e]at vZ;simp only[Option.elim]at vZ;simp[vZ]
  | some z =>
   rw[e]at vZ;simp only[Option.elim]at vZ;simp[vZ,dM,aQ,hlen,hnn z]
 have loop:∀(k:Nat) (pre:List α) (y:α) (a4:Option D),pre.length+k=most->P pre.length y ->
   ∃o Nf,dq C B [some (.loc c),some (enc x),some (.int most),some (.loc st.length),a4] (st++[.lst ((pre++[y]).map enc)])=.ok o (st++[.lst ((pre++d_ nx k y).map enc)])/\(o=.nx [some (.loc c),some (enc x),some (.int most),some (.loc st.length),Nf]\/o=.rt (.loc st.length)):=by
  intro k
  induction k with
  | zero =>
   intro pre y a4 hk hy;refine⟨_,a4,?_,.inl rfl⟩;rw[Yd,Xf,R.aD];have hl:¬ (((pre++[y]).map enc).length:Int)<=(most:Int):=by simp;omega
   rw[afd hl]
   rfl
  | succ k ih =>
   intro pre y a4 hk hy;have hl:(((pre++[y]).map enc).length:Int)<=(most:Int):=by simp;omega
   rw[Yd,Xf,R.aD,afu hl,ae9 rfl,hBv pre y a4 hy (by omega)];rw[d_];cases e:nx y with
   | none=>exact⟨_,none,rfl,.inr rfl⟩
   | some z =>
    obtain⟨o,Nf,h1,h2⟩:=ih (pre++[y]) z (some (enc z)) (by simp;omega) (by rw[gh];exact hPs pre.length y z (by omega) hy e);refine⟨o,Nf,?_,h2⟩;dsimp only;rw[R.aD];dsimp only;rw[h1];simp
 obtain⟨o,Nf,h1,h2⟩:=loop most [] x none (by simp) hP0;rw[k_,k_]at h1;have h1:dq C B [some (.loc c),some (enc x),some (.int most),some (.loc st.length),none] (st++[.lst [enc x]])=.ok o (st++[.lst ((d_ nx most x).map enc)]):=h1;have hun:aU st.length (.lst ((d_ nx most x).map enc)):=(Mu _ _).mpr λd hd=>by
  obtain⟨y,_,rfl⟩:=g8.mp hd;exact hu y _
 generalize (d_ nx most x).map enc=l at h1 hun ⊢;rw[show startM 5 [D.loc c,enc x,.int most]=[some (.loc c),some (enc x),some (.int most),none,none] from rfl];rcases h2 with rfl | rfl
 ·simp[h1,Nk hun]
 ·simp[h1,Nk hun]
structure Tp where
 s:Int
 l:List Nat
 c:Nat
 r:List Nat
def Tp.d(x:Tp):D:=.tup [.int x.s,.str x.l,.str [x.c],.str x.r]
def Xh(q:fX)(x:Tp):Tp:=if q.m=108 then ⟨q.g,(M3 x.l).1,(M3 x.l).2,q.w::x.r⟩ else ⟨q.g,x.l++[q.w],(Rz x.r).1,(Rz x.r).2⟩
def vh(rs:List fX)(x:Tp):Option Tp:=(pick rs x.s x.c).map λq=>Xh q x
def Xm(rs:List fX)(x:Tp):QK rs x.s x.l x.c x.r=(vh rs x).elim .non Tp.d:=by
 unfold QK vh;cases pick rs x.s x.c with
 | none=>rfl
 | some q =>
  simp only[m7,Option.elim,goD,Xh]
  split<;>rfl
def Small(n:Nat)(x:Tp):Prop:=x.l.length<=1000+n/\x.r.length<=1000+n
def zon(h:Small n x)(e:vh rs x=some y):Small (n+1) y:=by
 unfold vh at e;cases q:pick rs x.s x.c with
 | none=>rw[q]at e;cases e
 | some r =>
  rw[q]at e;simp only[m7,Option.some.injEq]at e;subst e;obtain⟨h1,h2⟩:=h;unfold Xh
  split
  ·refine⟨?_,by simp;omega⟩;show (M3 x.l).1.length<=_;unfold M3
   split
   ·simp
   ·simp;omega
  ·refine⟨by simp;omega,?_⟩;show (Rz x.r).2.length<=_;unfold Rz
   split
   ·simp
   ·rename_i t e;rw[e]at h2;simp at h2 ⊢;omega
def zio(rs:List fX)(n:Nat)(x:Tp)(most k0:Nat)(st:au)(h:st[n]? = some (.lst (rs.map fX.d)))(Y0:rs.length<=50000)(hx:Small k0 x)(hk:k0+most<=90000)(hmo:most<=90000)(hn:fQ st)(ht:st[1]? = some (.tab "tape_run")) :
  Yi [.loc n,x.d,.int most] st=.ok (.loc st.length) (st++[.lst ((d_ (vh rs) most x).map Tp.d)]):=by
 unfold Yi jP eF Yk;have e1:=Ia rs n st h Y0;have hs:=zh7 Tp.d (vh rs) (λk y=>Small (k0+k) y) (.loc st.length) (st.length+1) most (st++[.dic (tab [] rs),.clo 0 (G_ 0) [.loc st.length]]) x hx (λk y z _ hy e=>zon hy e) (λ_ _=>rfl) (λy k=>by simp[Tp.d])
  (λk y l hk hy=>by
   have hm:=JX rs st.length y.s y.l y.c y.r (fJ (st++[.dic (tab [] rs),.clo 0 (G_ 0) [.loc st.length]]++[.lst l])) (K8 (by simp) rfl) (by have:=hy.1;omega) (by have:=hy.2;omega);rw[Xm]at hm;show FQ 2 e_0 [.loc st.length,y.d] _=_;unfold FQ e_0;rw[ae9 (by rfl)];simp only[Tp.d]at hm ⊢;simp only[B_,zlx,aax,yg,gB,mU,pI,ni,R.aD,kh,hm,R.Bw]) (by simp) (by omega)
 have hu:∀k,aU k (.lst ((d_ (vh rs) most x).map Tp.d)):=λk=>(Mu _ _).mpr λd hd=>by
  obtain⟨y,_,rfl⟩:=g8.mp hd;simp[Tp.d]
 generalize (d_ (vh rs) most x).map Tp.d=l at hs hu ⊢;generalize tab [] rs=TB at e1 hs;have hc:=Jb (Λ:=G_) (F:=zcd) (dd:=[]) (m:=Ae 0 [3] 1 "tape_run" (u9 (vr 1) (u9 (vr 2) JN))) (env:=[some (.loc n),some x.d,some (.int most),some (.loc st.length)]) (st:=st++[.dic TB]) (st1:=st++[.dic TB]) (as:=[.l 0 [3],.v x.d,.v (.int most)])
  (ds:=[.loc (st.length+1),x.d,.int most]) (os:=[.clo 0 (G_ 0) [.loc st.length]]) (d:=.loc (st.length+1)) (st2:=st++[.dic TB,.lst l])
  (by unfold Ae;rw[fZ ht];dsimp only;rw[ae9 rfl];simp[u9,JN]) (by simp[hn]) (by simp[qW,Ba]) (by
   rw[kh,gG,kJ,k_,hs];have:=X4 (st:=st++[.dic TB]) (g:=[.clo 0 (G_ 0) [.loc st.length]]) (g':=[]) (o:=.lst l) (hu _);simpa using this) (by simp[hn])
 rw[show startM 4 [D.loc n,x.d,.int most]=[some (.loc n),some x.d,some (.int most),none] from rfl];rw[U7,U6,B_,zlx,aax];simp only[pI,R.aD,yg,kh,e1,R.Bw,List.set_cons_succ,List.set_cons_zero];rw[I_,hc];have:=X4 (st:=st) (g:=[.dic TB]) (g':=[]) (o:=.lst l) (hu _);simpa using this
end Law
set_option maxHeartbeats 0
namespace Law
open L2 M
abbrev jf(s:Int)(l:List Nat)(c:Nat)(r:List Nat):D:=.tup [.int s,.str l,.str [c],.str r]
def Ws(s:Int)(row:List Nat)(k:Nat):D:=match row with
 | []=>jf s (List.replicate k 95) 95 []
 | c::t=>jf s (List.replicate k 95) c (t++(if 0<k then [95] else []))
def KN(s:Int)(row:List Nat)(k:Nat)(st:au)(hr:row.length<=1000)(hk:k<=1000):zdb [.tup [.int s,.str row],.int k] st=.ok (Ws s row k) st:=by
 unfold zdb jP eF zdu Ws;have j0:∀s1,bz (.tup [.int s,.str row]) (.int 0) s1=.ok (.int s) s1:=λs1=>qb s1 0 _ _ rfl;have j1:∀s1,bz (.tup [.int s,.str row]) (.int 1) s1=.ok (.str row) s1:=λs1=>qb s1 1 _ _ rfl;have mk:∀s1,qX (.str [95]) (.int k) s1=.ok (.str (List.replicate k 95)) s1:=λs1=>Om 95 k s1 (by omega);rw[show startM 4 [D.tup [.int s,.str row],.int k]=[some (.tup [.int s,.str row]),some (.int k),none,none] from rfl];cases row with
 | nil=>simp[j0,j1,mk,jf,zL]
 | cons c t =>
  have hx:=λs1=>RZ c t s1 (by omega);have hs:=λs1=>Ij (c::t) s1 (by omega);simp only[List.tail_cons,gC]at hs hr;by_cases h0:0<k
  ·have ad:∀s1,bH (.str t) (.str [95]) s1=.ok (.str (t++[95])) s1:=λs1=>Rf s1 _ _ (by simp;omega);simp[j0,j1,mk,h0,hx,hs,ad,jf,zL]
  ·have ad:∀s1,bH (.str t) (.str []) s1=.ok (.str t) s1:=λs1=>by rw[Rf s1 _ _ (by simp;omega),kh]
   simp[j0,j1,mk,h0,hx,hs,ad,jf,zL]
def Br(top s:Int)(c:Nat)(r:List Nat):D:=if top<s\/95∈cY 95 (c::r) then .non else .tup [.int s,.str (cY 95 (c::r))]
def Bq(top s:Int)(l:List Nat)(c:Nat)(r:List Nat)(st:au)(hr:r.length<=100000):Ro [.int top,jf s l c r] st=.ok (Br top s c r) st:=by
 unfold Ro jP eF zds Br;have j0:∀s1,bz (jf s l c r) (.int 0) s1=.ok (.int s) s1:=λs1=>qb s1 0 _ _ rfl;have j2:∀s1,bz (jf s l c r) (.int 2) s1=.ok (.str [c]) s1:=λs1=>qb s1 2 _ _ rfl;have j3:∀s1,bz (jf s l c r) (.int 3) s1=.ok (.str r) s1:=λs1=>qb s1 3 _ _ rfl;have ad:∀s1,bH (.str [c]) (.str r) s1=.ok (.str (c::r)) s1:=λs1=>Rf s1 _ _ (by simp;omega);have hl:=znh 95 (c::r);rw[gC]at hl;have rs:∀s1,tY (.str (c::r)) [.str [95]] s1=.ok (.str (cY 95 (c::r))) s1:=λs1=>by
  unfold tY;dsimp only;rw[ae9 (by simp;omega)]
 generalize cY 95 (c::r)=T at *;have wQ:∀s1,KH (.str [95]) (.str T) s1=.ok (.bl (decide (95∈T))) s1:=λs1=>by
  unfold KH;dsimp only;rw[ae9 (by omega)]
 rw[show startM 3 [D.int top,jf s l c r]=[some (.int top),some (jf s l c r),none] from rfl];generalize jf s l c r=X at *;by_cases h1:top<s
 ·simp[j0,j2,j3,ad,dM,rs,h1,zL]
 ·by_cases h2:95∈T
  ·simp[j0,j2,j3,ad,dM,rs,h1,wQ,h2,zL]
  ·simp[j0,j2,j3,ad,dM,rs,h1,wQ,h2,zL]
theorem zl0:∀(n k:Nat) (x:Tp),Small k x->∀(i:Nat) (y:Tp),(d_ (vh rs) n x)[i]? = some y->Small (k+i) y
 | 0,k,x,hx,i,y,h=>by
  cases i with
  | zero=>simp[d_]at h;subst h;exact hx
  | succ i=>simp[d_]at h
 | n+1,k,x,hx,i,y,h=>by
  rw[d_]at h
  split at h
  ·cases i with
   | zero=>simp at h;subst h;exact hx
   | succ i=>simp at h
  ·rename_i z e;cases i with
   | zero=>simp at h;subst h;exact hx
   | succ i =>
    have:=zl0 n (k+1) z (zon hx e) i y (by simpa using h);rw[show k+(i+1)=k+1+i by omega];exact this
end Law
namespace Law
open L2 M TK TS
def wU(f:Nat)(ks:List TK)(q:TQ):fX:=⟨(bR f ks q.s:Nat),q.x,q.w,mvC q.mv,(bR f ks q.g:Nat)⟩
def toT(f:Nat)(ks:List TK)(c:TC):Tp:=⟨(bR f ks c.s:Nat),c.l,c.h,c.r⟩
def K6(f:Nat)(ks:List TK)(q:TQ)(c:TC):Xh (wU f ks q) (toT f ks c)=toT f ks (moved c q):=by
 obtain⟨qs,qx,qw,mv,qg⟩:=q;obtain⟨cs,cl,ch,cr⟩:=c;cases mv with
 | true =>
  unfold Xh moved;rw[ae_ (show ¬ (wU f ks ⟨qs,qx,qw,true,qg⟩).m=108 from (by decide:¬ mvC true=108)),ae9 rfl];cases cr<;>rfl
 | false =>
  unfold Xh moved;rw[ae9 (show (wU f ks ⟨qs,qx,qw,false,qg⟩).m=108 from (by decide:mvC false=108)),ae_ (by simp)];unfold Nb toT M3;by_cases h:cl=[]
  ·subst h;rfl
  ·show (⟨_,(if cl=[] then ([],95) else (cl.dropLast,cl.getLastD 0)).1,(if cl=[] then ([],95) else (cl.dropLast,cl.getLastD 0)).2,_⟩:Tp)=⟨_,cl.dropLast,cl.getLastD 95,_⟩;rw[ae_ h];have:cl.getLastD 0=cl.getLastD 95:=by
    cases cl with
    | nil=>exact absurd rfl h
    | cons a l=>simp[List.getLastD]
   rw[this];rfl
section
variable  {RL:List Rl}{signs:List Nat}{ks:List TK}{ALL:List TQ}{f:Nat}
def zlv(A:Bh RL signs ks ALL)(hs:95∉signs)(hR:∀r∈RL,∀r'∈RL,r.s=r'.s->r.x=r'.x->r.w=r'.w/\r.g=r'.g)(hT:∀r∈RL,r.s<f)(hq:q∈ALL)(hf:fits c q) :
  vh (ALL.map (wU f ks)) (toT f ks c)=some (toT f ks (moved c q)):=by
 have hp:pick (ALL.map (wU f ks)) (toT f ks c).s (toT f ks c).c=some (wU f ks q):=by
  unfold pick;rw[List.find?_map];have hex:(ALL.find? ((λr:fX=>decide (r.st=(toT f ks c).s/\r.c=(toT f ks c).c))∘wU f ks)).isSome=true:=by
   rw[List.find?_isSome];exact⟨q,hq,by simp[wU,toT,hf.1,hf.2]⟩
  obtain⟨q0,h0⟩:=Option.isSome_iff_exists.mp hex;rw[h0];have hm:=List.mem_of_find?_eq_some h0;have hp:=List.find?_some h0;simp only[Function.comp,afL]at hp;have e:q0=q:=V_ A hs hR hT hm hq (by
   unfold kT;have e1:((bR f ks q0.s:Nat):Int)=(bR f ks q.s:Nat):=by rw[<-hf.1];exact hp.1
   have e2:q0.x=q.x:=by rw[<-hf.2];exact hp.2
   rw[e1,e2])
  rw[e];rfl
 unfold vh;rw[hp];show some (Xh (wU f ks q) (toT f ks c))=_;rw[K6]
def Ek(h:∀q∈ALL,¬ (((bR f ks q.s:Nat):Int)=(bR f ks c.s:Nat)/\q.x=c.h)):vh (ALL.map (wU f ks)) (toT f ks c)=none:=by
 unfold vh pick;rw[pJ,pK];intro r hr;obtain⟨q,hq,rfl⟩:=g8.mp hr;rw[Bool.not_eq_true,decide_eq_false_iff_not];exact h q hq
def Ck(A:Bh RL signs ks ALL)(hs:95∉signs)(hR:∀r∈RL,∀r'∈RL,r.s=r'.s->r.x=r'.x->r.w=r'.w/\r.g=r'.g)(hT:∀r∈RL,r.s<f){top:Nat}(hf:top+1=f){c':TC}:∀{N:Nat} {c:TC},Rn ALL c' N c->∀m,
  (N<=m->∃mid:List Tp,mid.length+1=N/\(∀x∈mid,(top:Int)<x.s)/\d_ (vh (ALL.map (wU f ks))) m (toT f ks c)=toT f ks c::(mid++d_ (vh (ALL.map (wU f ks))) (m - N) (toT f ks c'))) /\
  (m<N->∃mid:List Tp,mid.length=m/\(∀x∈mid,(top:Int)<x.s)/\d_ (vh (ALL.map (wU f ks))) m (toT f ks c)=toT f ks c::mid):=by
 intro N c h
 induction h with
 | last c q hq Qw e =>
  intro m;have st:=zlv A hs hR hT hq Qw;rw[e]at st;cases m with
  | zero=>exact⟨λz=>absurd z (by omega),λ_=>⟨[],rfl,by simp,rfl⟩⟩
  | succ m =>
   refine⟨λ_=>⟨[],rfl,by simp,?_⟩,λz=>absurd z (by omega)⟩;rw[d_,st,Nat.add_sub_cancel];rfl
 | more c q n hq Qw ht h ih =>
  intro m;have st:=zlv A hs hR hT hq Qw;have hi:(top:Int)<(toT f ks (moved c q)).s:=by
   have:Wq (moved c q).s:=ht;unfold toT;cases e:(moved c q).s with
   | tp n=>rw[e]at this;exact this.elim
   | tk k=>simp only[bR];omega
  cases m with
  | zero=>exact⟨λz=>absurd z (by omega),λ_=>⟨[],rfl,by simp,rfl⟩⟩
  | succ m =>
   obtain⟨i1,i2⟩:=ih m;refine⟨λz=>?_,λz=>?_⟩
   ·obtain⟨mid,m1,m2,m3⟩:=i1 (by omega);refine⟨toT f ks (moved c q)::mid,by simp[m1],λx hx=>?_,?_⟩
    ·rcases gj.mp hx with rfl | hx
     ·exact hi
     ·exact m2 x hx
    ·rw[d_,st];dsimp only;rw[m3,show m+1 - (n+1)=m - n by omega];rfl
   ·obtain⟨mid,m1,m2,m3⟩:=i2 (by omega);refine⟨toT f ks (moved c q)::mid,by simp[m1],λx hx=>?_,?_⟩
    ·rcases gj.mp hx with rfl | hx
     ·exact hi
     ·exact m2 x hx
    ·rw[d_,st];dsimp only;rw[m3]
end
def Ef{top:Nat}(x:Tp)(h:(top:Int)<x.s)(hr:x.r.length<=100000)(st:au):Ro [.int top,x.d] st=.ok .non st:=by
 have:=Bq (top:Nat) x.s x.l x.c x.r st hr;change Ro [.int top,x.d] st=_ at this;rw[this];unfold Br;rw[ae9 (.inl h)]
end Law
set_option maxHeartbeats 0
namespace M
structure Rw where
 up:Bool
 c:Nat
 t:Nat
 f:Nat
inductive NK where
 | ah (p k:Nat) | ask (p:Nat) | en (t c:Nat)
 deriving DecidableEq
inductive NS where
 | pl (n:Nat) | nk (k:NK)
 deriving DecidableEq
open NK NS
structure SR where
 s:NS
 x:Nat
 w:List Nat
 g:NS
def cL(many t c:Nat):NS:=if c=many then pl t else nk (en t c)
def dN(many p:Nat)(r:Rw)(x:Nat):List Nat×NS:=if r.up then ([x,105],cL many r.t r.c) else ([x],nk (ask p))
def dl(many:Nat)(rows:List Rw):NS->Nat->Option (List Nat×NS)
 | pl p,98=>(rows[p]?).map λr=>if r.c=0 then dN many p r 98 else ([98],nk (ah p 0))
 | nk (ah p k),105=>some ([105],nk (ah p k))
 | nk (ah p k),101=>(rows[p]?).map λr=>if k+1=r.c then dN many p r 101 else ([101],nk (ah p (k+1)))
 | nk (ask p),105=>(rows[p]?).map λr=>([],cL many r.t r.c)
 | nk (ask p),101=>(rows[p]?).map λr=>([101],cL many r.f (r.c+1))
 | nk (en t c),105=>some ([105],nk (en t c))
 | nk (en t c),101=>some ([101],cL many t (c+1))
 | _,_=>none
def xq(p:Nat):Nat->List SR
 | 0=>[]
 | k+1=>xq p k++[⟨if k=0 then pl p else nk (ah p (k - 1)),if k=0 then 98 else 101,[if k=0 then 98 else 101],nk (ah p k)⟩,⟨nk (ah p k),105,[105],nk (ah p k)⟩]
def vD(p k:Nat):NS:=if k=0 then pl p else nk (ah p (k - 1))
def qU(k:Nat):Nat:=if k=0 then 98 else 101
def fj(many p:Nat)(r:Rw):List SR :=
 xq p r.c++(if r.up then [⟨vD p r.c,qU r.c,[qU r.c,105],cL many r.t r.c⟩]
  else [⟨vD p r.c,qU r.c,[qU r.c],nk (ask p)⟩,⟨nk (ask p),105,[],cL many r.t r.c⟩,⟨nk (ask p),101,[101],cL many r.f (r.c+1)⟩])
def zA(many t c:Nat):List SR:=[⟨nk (en t c),105,[105],nk (en t c)⟩,⟨nk (en t c),101,[101],cL many t (c+1)⟩]
def good(many:Nat)(rows:List Rw)(r:SR):Prop:=dl many rows r.s r.x=some (r.w,r.g)
theorem zn2(h:rows[p]? = some r):∀k,k<=r.c->∀q∈xq p k,good many rows q
 | 0,_,q,hq=>nomatch hq
 | k+1,hk,q,hq=>by
  rw[xq]at hq;rcases gm.mp hq with hq | hq
  ·exact zn2 h k (by omega) q hq
  ·simp only[gj,g_,afm]at hq;rcases hq with rfl | rfl
   ·unfold good;by_cases c:k=0
    ·subst c;simp[dl,h,show ¬ r.c=0 by omega]
    ·simp only[ae_ c];have e:k - 1+1=k:=by omega
     simp[dl,h,e,show ¬ k=r.c by omega]
   ·simp[good,dl]
def Ex(h:rows[p]? = some r):∀q∈fj many p r,good many rows q:=by
 intro q hq;unfold fj at hq;have turn:∀(w:List Nat) (g:NS),dN many p r (qU r.c)=(w,g)->good many rows ⟨vD p r.c,qU r.c,w,g⟩:=by
  intro w g e;unfold good vD qU at *;by_cases c:r.c=0
  ·simp only[ae9 c]at e ⊢;simp[dl,h,c,e]
  ·simp only[ae_ c]at e ⊢;have e2:r.c - 1+1=r.c:=by omega
   simp[dl,h,e2,e]
 rcases gm.mp hq with hq | hq
 ·exact zn2 h r.c (gf _) q hq
 ·by_cases c:r.up=true
  ·rw[ae9 c]at hq;have:q=_:=gQ.mp hq;subst this;exact turn _ _ (by simp[dN,c])
  ·rw[ae_ c]at hq;simp only[gj,g_,afm]at hq;rcases hq with rfl | rfl | rfl
   ·exact turn _ _ (by simp[dN,c])
   ·simp[good,dl,h]
   ·simp[good,dl,h]
def Lk:∀q∈zA many t c,good many rows q:=by
 intro q hq;simp only[zA,gj,g_,afm]at hq;rcases hq with rfl | rfl<;>simp[good,dl]
def tr(δ:NS->Nat->Option (List Nat×NS)):NS->List Nat->Option (List Nat×NS)
 | s,[]=>some ([],s)
 | s,x::xs=>(δ s x).bind λq=>(tr δ q.2 xs).map λz=>(q.1++z.1,z.2)
theorem Ht(δ:NS->Nat->Option (List Nat×NS)):∀(xs ys:List Nat) (s:NS),tr δ s (xs++ys)=(tr δ s xs).bind λq=>(tr δ q.2 ys).map λz=>(q.1++z.1,z.2)
 | [],ys,s=>by
  simp only[k_,tr,kI];cases tr δ s ys<;>simp
 | x::xs,ys,s=>by
  rw[kJ,tr,tr];cases δ s x with
  | none=>rfl
  | some q =>
   simp only[kI,Ht δ xs ys q.2];cases tr δ q.2 xs with
   | none=>rfl
   | some z =>
    simp only[kI,m7];cases tr δ z.2 ys<;>simp
def seg(c:Nat):List Nat:=List.replicate c 105++[101]
def bj(cs:List Nat):List Nat:=(cs.map seg).flatten
theorem Bp(h:dl many rows s 105=some ([105],s)):∀c,tr (dl many rows) s (List.replicate c 105)=some (List.replicate c 105,s)
 | 0=>rfl
 | c+1=>by rw[mH,tr,h];simp[Bp h c]
def Zr(h:dl many rows s 105=some ([105],s))(h2:dl many rows s 101=some (w,g))(c:Nat):tr (dl many rows) s (seg c)=some (List.replicate c 105++w,g):=by
 unfold seg;rw[Ht,Bp h];simp[tr,h2]
theorem xZ(t:Nat):∀(cs:List Nat) (j:Nat),j+cs.length=many->tr (dl many rows) (cL many t j) (bj cs)=some (bj cs,pl t)
 | [],j,h=>by
  have:cL many t j=pl t:=by unfold cL;rw[ae9 (by simpa using h)]
  rw[this];rfl
 | c::cs,j,h=>by
  simp only[gC]at h;have e:cL many t j=nk (en t j):=by unfold cL;rw[ae_ (by omega)]
  rw[show bj (c::cs)=seg c++bj cs from by simp[bj],Ht,e,Zr (w:=[101]) (g:=cL many t (j+1)) (by simp[dl]) (by simp[dl]) c];have ih:=xZ (many:=many) (rows:=rows) t cs (j+1) (by omega);rw[kI,ih]
  rfl
theorem zn7(h:rows[p]? = some r):∀(cs:List Nat) (j:Nat),0<cs.length->j+cs.length=r.c ->
  tr (dl many rows) (nk (ah p j)) (bj cs)=some ((bj cs).dropLast++(dN many p r 101).1,(dN many p r 101).2)
 | [],j,h0,_=>absurd h0 (by simp)
 | [c],j,_,hj=>by
  simp only[gC,n8]at hj;rw[show bj [c]=seg c from by simp[bj],Zr (w:=(dN many p r 101).1) (g:=(dN many p r 101).2) (by simp[dl]) (by simp[dl,h,show j+1=r.c by omega]) c];simp[seg]
 | c::d::cs,j,_,hj=>by
  simp only[gC]at hj;have e:bj (c::d::cs)=seg c++bj (d::cs):=by simp[bj]
  have ne:bj (d::cs)≠[]:=by simp[bj,seg]
  rw[e,Ht,Zr (w:=[101]) (g:=nk (ah p (j+1))) (by simp[dl]) (by simp[dl,h,show ¬ j+1=r.c by omega]) c];simp only[kI,zn7 h (d::cs) (j+1) (by simp) (by simp;omega),m7];rw[List.dropLast_append_of_ne_nil ne];simp[seg]
def oH(cs:List Nat)(i:Nat):Nat:=cs.getD i 0
def yl(xs ys:List Nat)(c i:Nat)(h:xs.length=i):oH (xs++c::ys) i=c:=by subst h;simp[oH,List.getD]
def bC(r:Rw)(cs:List Nat):List Nat×Nat :=
 if r.up then (cs.set r.c (oH cs r.c+1),r.t) else if oH cs r.c=0 then (cs,r.f) else (cs.set r.c (oH cs r.c - 1),r.t)
def zj(h:rows[p]? = some r)(cs:List Nat)(hl:cs.length=many)(hc:r.c<many):tr (dl many rows) (pl p) (98::bj cs)=some (98::bj (bC r cs).1,pl (bC r cs).2):=by
 obtain⟨xs,c,ys,rfl,hx⟩:∃xs c ys,cs=xs++c::ys/\xs.length=r.c :=
  ⟨cs.take r.c,cs[r.c]'(by omega),cs.drop (r.c+1),by rw[<-nG,pQ],by rw[m6];omega⟩
 have hy:r.c+1+ys.length=many:=by rw[<-hl];simp;omega
 have hg:oH (xs++c::ys) r.c=c:=yl xs ys c r.c hx;have vq:∀v,(xs++c::ys).set r.c v=xs++v::ys:=λv=>by rw[<-hx];simp
 have sg:∀v,bj (xs++v::ys)=bj xs++(seg v++bj ys):=λv=>by simp[bj]

 have after:∀(x:Nat),∃w,tr (dl many rows) (dN many p r x).2 (seg c++bj ys)=some (w,pl (bC r (xs++c::ys)).2)/\(dN many p r x).1++w=x::(seg (oH (bC r (xs++c::ys)).1 r.c)++bj ys):=by
  intro x;have eN:∀t,cL many t r.c=nk (en t r.c):=λt=>by unfold cL;rw[ae_ (by omega)]
  by_cases cu:r.up=true
  ·refine⟨seg c++bj ys,?_,?_⟩
   ·rw[show (dN many p r x).2=cL many r.t r.c from by simp[dN,cu],eN,Ht,Zr (w:=[101]) (g:=cL many r.t (r.c+1)) (by simp[dl]) (by simp[dl]) c];simp only[kI,xZ r.t ys (r.c+1) hy,m7];simp[seg,bC,cu]
   ·simp only[bC,cu,afy,hg,vq];have:oH (xs++(c+1)::ys) r.c=c+1:=yl xs ys _ r.c hx;rw[this];simp[dN,cu,seg,mH]
  ·by_cases c0:c=0
   ·subst c0;refine⟨[101]++bj ys,?_,?_⟩
    ·rw[show (dN many p r x).2=nk (ask p) from by simp[dN,cu],show seg 0=[101] from rfl,Ht];have:tr (dl many rows) (nk (ask p)) [101]=some ([101],cL many r.f (r.c+1)):=by simp[tr,dl,h]
     rw[this];simp only[kI,xZ r.f ys (r.c+1) hy,m7];simp[bC,cu,hg]
    ·simp[dN,cu,bC,hg,seg]
   ·refine⟨seg (c - 1)++bj ys,?_,?_⟩
    ·obtain⟨d,rfl⟩:∃d,c=d+1:=⟨c - 1,by omega⟩;rw[show (dN many p r x).2=nk (ask p) from by simp[dN,cu],show seg (d+1)++bj ys=[105]++(seg d++bj ys) from by simp[seg,mH],Ht];have:tr (dl many rows) (nk (ask p)) [105]=some ([],cL many r.t r.c):=by simp[tr,dl,h]
     rw[this,kI,eN,Ht,Zr (w:=[101]) (g:=cL many r.t (r.c+1)) (by simp[dl]) (by simp[dl]) d];simp only[kI,xZ r.t ys (r.c+1) hy,m7];simp[seg,bC,cu,hg]
    ·simp only[bC,cu,hg,c0,afF,vq,nu];have:oH (xs++(c - 1)::ys) r.c=c - 1:=yl xs ys _ r.c hx;rw[this];simp[dN,cu]
 have res:bj (bC r (xs++c::ys)).1=bj xs++(seg (oH (bC r (xs++c::ys)).1 r.c)++bj ys):=by
  have:∃v,(bC r (xs++c::ys)).1=xs++v::ys:=by
   unfold bC;by_cases cu:r.up=true
   ·simp only[cu,afy,vq];exact⟨_,rfl⟩
   ·by_cases c0:c=0
    ·subst c0;simp only[cu,hg,afy,afF,nu];exact⟨_,rfl⟩
    ·simp only[cu,hg,c0,afF,vq,nu];exact⟨_,rfl⟩
  obtain⟨v,e⟩:=this;rw[e,sg];rw[yl xs ys v r.c hx]
 rw[sg,res];by_cases c0:r.c=0
 ·have R6:xs=[]:=pG.mp (by omega);subst R6;obtain⟨w,h1,h2⟩:=after 98;rw[tr];have:dl many rows (pl p) 98=some (dN many p r 98):=by simp[dl,h,c0]
  rw[this,kI,show bj []=[] from rfl,k_,h1,m7];show some ((dN many p r 98).1++w,_)=_;rw[h2];rfl
 ·obtain⟨w,h1,h2⟩:=after 101;rw[tr];have:dl many rows (pl p) 98=some ([98],nk (ah p 0)):=by simp[dl,h,c0]
  rw[this,kI,Ht,zn7 h xs 0 (by omega) (by omega)];simp only[kI,h1,m7];have ne:bj xs≠[]:=by
   cases xs with
   | nil=>exact absurd hx.symm c0
   | cons a as=>simp[bj,seg]
  have last:bj xs=(bj xs).dropLast++[101]:=by
   have e1:=(pC ne).symm;have:(bj xs).getLast ne=101:=by
    clear h1 h2 res sg vq hg hy hl after e1;obtain⟨as,a,rfl⟩:∃as a,xs=as++[a]:=by
     rcases List.eq_nil_or_concat xs with rfl | ⟨as,a,rfl⟩
     ·exact (ne (by simp[bj])).elim
     ·exact⟨as,a,by simp⟩
    simp[bj,seg]
   rw[this]at e1;exact e1
  rw[gG,h2]
  conv=>rhs;rw[last]
  simp
end M
namespace M
open NK NS L2
def vo:NK->List Key
 | ah p k=>[.inr (strOf [97,104,101,97,100]),.inl (p:Nat),.inl (k:Nat)]
 | ask p=>[.inr (strOf [97,115,107]),.inl (p:Nat)]
 | en t c=>[.inr (strOf [101,110,100]),.inl (t:Nat),.inl (c:Nat)]
def lZ:NK->List D
 | ah p k=>[.str [97,104,101,97,100],.int p,.int k]
 | ask p=>[.str [97,115,107],.int p]
 | en t c=>[.str [101,110,100],.int t,.int c]
def Af(k:NK):keysOf (lZ k)=some (vo k):=by cases k<;>rfl
def zof(h:vo a=vo b):a=b:=by
 cases a<;>cases b<;>simp[vo,zfz]at h
 ·obtain⟨h1,h2⟩:=h;rw[show _=_ from afz h1,show _=_ from afz h2]
 ·rw[show _=_ from afz h]
 ·obtain⟨h1,h2⟩:=h;rw[show _=_ from afz h1,show _=_ from afz h2]
def pos(k:NK):List NK->Nat
 | []=>0
 | j::ks=>if j=k then 0 else pos k ks+1
def O6(h:k∈ks)(l:List NK):pos k (ks++l)=pos k ks:=by
 induction ks with
 | nil=>exact nomatch h
 | cons j ks ih =>
  rw[kJ,pos,pos];by_cases e:j=k
  ·rw[ae9 e,ae9 e]
  ·rw[ae_ e,ae_ e,ih (by rcases gj.mp h with z | z;exact absurd z.symm e;exact z)]
def Cg(h:k∈ks):ks[pos k ks]? = some k:=by
 induction ks with
 | nil=>exact nomatch h
 | cons j ks ih =>
  rw[pos];by_cases e:j=k
  ·rw[ae9 e,e];rfl
  ·rw[ae_ e,ni];exact ih (by rcases gj.mp h with z | z;exact absurd z.symm e;exact z)
def dj:Nat->List NK->List (List Key×D)
 | _,[]=>[]
 | f,k::ks=>(vo k,.int f)::dj (f+1) ks
theorem zkt:∀(f:Nat) (ks:List NK),(dj f ks).length=ks.length
 | _,[]=>rfl
 | f,k::ks=>by rw[dj,gC,zkt,gC]
theorem zl9:∀(f:Nat) (ks:List NK) (k:NK),dj f (ks++[k])=dj f ks++[(vo k,.int ((f+ks.length:Nat):Int))]
 | f,[],k=>by simp[dj]
 | f,j::ks,k=>by
  rw[kJ,dj,zl9 (f+1) ks k,dj];simp only[kJ,gC];congr 6;omega
theorem z6:∀(f:Nat) (ks:List NK) (k:NK),iJ (dj f ks) (vo k)=if k∈ks then some (.int ((f+pos k ks:Nat):Int)) else none
 | f,[],k=>by simp[dj]
 | f,j::ks,k=>by
  rw[dj,Hj,z6 (f+1) ks k];by_cases h:j=k
  ·subst h;simp[pos]
  ·have hk:¬ vo j=vo k:=λz=>h (zof z);rw[ae_ hk];by_cases hm:k∈ks
   ·rw[ae9 hm,ae9 (by simp[hm]),pos,ae_ h];congr 3;omega
   ·rw[ae_ hm,ae_ (by simp[hm];exact λz=>h z.symm)]
def abX(f:Nat)(ks:List NK)(k:NK)(h:k∉ks):((dj f ks).any λkv=>decide (kv.1=vo k))=false:=by
 induction ks generalizing f with
 | nil=>rfl
 | cons j ks ih =>
  rw[dj,my,ih (f+1) (λz=>h (by simp[z]))];have:¬ vo j=vo k:=λz=>h (by simp[zof z]);simp[this]
def reg(ks:List NK)(k:NK):List NK:=if k∈ks then ks else ks++[k]
def Zx(ks:List NK)(k:NK):k∈reg ks k:=by unfold reg;split;assumption;simp
def zmb(ks:List NK)(k:NK):∃l,reg ks k=ks++l:=by unfold reg;split;exact⟨[],by simp⟩;exact⟨[k],rfl⟩
def zhc(h:ks.Nodup)(k:NK):(reg ks k).Nodup:=by
 unfold reg
 split
 ·exact h
 ·rename_i hn;rw[nR];exact⟨h,by simp,λa ha b hb e=>by
   have hb:b=k:=by simpa using hb
   rw[hb]at e;exact hn (e ▸ ha)⟩
def zlu(ks:List NK)(k:NK):(reg ks k).length<=ks.length+1:=by unfold reg;split<;>simp
def cJ(f:Nat)(ks:List NK):NS->Nat
 | pl n=>n
 | nk k=>f+pos k ks
def yV(ks:List NK):NS->Prop
 | pl _=>True
 | nk k=>k∈ks
def Hw(l:List NK)(h:yV ks s):yV (ks++l) s:=by
 cases s with
 | pl n=>trivial
 | nk k=>exact gW _ h
def T6(l:List NK)(h:yV ks s):cJ f (ks++l) s=cJ f ks s:=by
 cases s with
 | pl n=>rfl
 | nk k=>show f+pos k (ks++l)=f+pos k ks;rw[O6 h]
def JF(h1:yV ks s)(h2:yV ks u)(hp:∀n,s=pl n->n<f)(hq:∀n,u=pl n->n<f)(e:cJ f ks s=cJ f ks u):s=u:=by
 cases s with
 | pl n =>
  cases u with
  | pl m=>exact congrArg pl e
  | nk k=>have:=hp n rfl;simp only[cJ]at e;omega
 | nk j =>
  cases u with
  | pl m=>have:=hq m rfl;simp only[cJ]at e;omega
  | nk k =>
   simp only[cJ]at e;have e2:pos j ks=pos k ks:=by omega
   have h1:j∈ks:=h1;have h2:k∈ks:=h2;have a:=Cg h1;have b:=Cg h2;rw[e2,b]at a;cases a;rfl
def bA(f:Nat)(ks:List NK)(r:SR):D:=.tup [.int (cJ f ks r.s:Nat),.str [r.x],.str r.w,.int (cJ f ks r.g:Nat)]
def inR(ks:List NK)(r:SR):Prop:=yV ks r.s/\yV ks r.g
def zp8(l:List NK)(h:inR ks r):bA f (ks++l) r=bA f ks r:=by
 unfold bA;rw[T6 l h.1,T6 l h.2]
def zd9{f:Nat}{ks:List NK}{rs:List SR}(l:List NK)(h:∀r∈rs,inR ks r):rs.map (bA f (ks++l))=rs.map (bA f ks):=mV λr hr=>zp8 l (h r hr)
def Zw(n f:Nat)(ks:List NK):aU n (.dic (dj f ks)):=by
 induction ks generalizing f with
 | nil=>intro p hp;exact nomatch hp
 | cons k ks ih =>
  intro p hp;rcases gj.mp hp with rfl | hp
  ·simp
  ·exact ih (f+1) p hp
def zni(n f:Nat)(ks:List NK)(r:SR):under n (bA f ks r):=by simp[bA]
def Mw(n f:Nat)(ks:List NK)(rs:List SR):aR n (rs.map (bA f ks)):=by
 induction rs with
 | nil=>simp
 | cons r rs ih=>simp[ih,zni]
end M
namespace Law
open L2 M NK NS
structure Num(st:au)(a b f:Nat)(ks:List NK):Prop where
 ins:st[a]? = some (.ins "Numbers" [("first",.int f),("given",.loc b)])
 dic:st[b]? = some (.dic (dj f ks))
 ne:a≠b
 wf:M.wf st
def Num.set(h:Num st a b f ks):Num (st.set b (.dic (dj f ks'))) a b f ks':=by
 have hb:=(gk.mp h.dic).1;refine⟨by rw[mC (afv h.ne)];exact h.ins,mL hb,h.ne,?_⟩;intro o ho;rw[List.length_set];exact Nj h.wf (Zw _ _ _) o ho
def zl3(h:Num st a b f ks)(m:ME)(env:cg)(hm:m env st=.ok (.loc a) st):j6 "Numbers" "given" m env st=.ok (.loc b) st:=by
 unfold j6;rw[hm,R.aD];simp only[h.ins];simp only[afy,zkj]
def Gr(h:Num st a b f ks)(m:ME)(env:cg)(hm:m env st=.ok (.loc a) st):j6 "Numbers" "first" m env st=.ok (.int f) st:=by
 unfold j6;rw[hm,R.aD];simp only[h.ins];simp only[afy,zkb]
def Fq(h:Num st a b f ks)(hl:ks.length<100000)(k:NK) :
  DR [.loc a,.tup (lZ k)] st=.ok (.int (cJ f (reg ks k) (nk k):Nat)) (st.set b (.dic (dj f (reg ks k)))):=by
 have hb:=(gk.mp h.dic).1;have v0:=z6 f ks k;have g1:∀(x:Option D),j6 "Numbers" "given" (vr 0) [some (.loc a),x] st=.ok (.loc b) st:=λx=>zl3 h _ _ rfl;have g2:∀(x:Option D),j6 "Numbers" "first" (vr 0) [some (.loc a),x] st=.ok (.int f) st:=λx=>Gr h _ _ rfl;have i1:vp true (.tup (lZ k)) (.loc b) st=.ok (.bl (!decide (k∈ks))) st:=by
  simp only[vp,h.dic,Af,v0];by_cases c:k∈ks<;>simp[c]
 have h':Num (st.set b (.dic (dj f (reg ks k)))) a b f (reg ks k):=h.set;have g3:∀(x:Option D),j6 "Numbers" "given" (vr 0) [some (.loc a),x] (st.set b (.dic (dj f (reg ks k))))=.ok (.loc b) (st.set b (.dic (dj f (reg ks k)))):=λx=>zl3 h' _ _ rfl;have ix:Kz (.loc b) (.tup (lZ k)) (st.set b (.dic (dj f (reg ks k))))=.ok (.int (cJ f (reg ks k) (nk k):Nat)) (st.set b (.dic (dj f (reg ks k)))):=by
  simp only[Kz,h'.dic,Af,z6];rw[ae9 (Zx ks k)];rfl
 have hu:zT st (.ok (.int (cJ f (reg ks k) (nk k):Nat)) (st.set b (.dic (dj f (reg ks k)))))=.ok (.int (cJ f (reg ks k) (nk k):Nat)) (st.set b (.dic (dj f (reg ks k)))):=by
  have:=T3 (st:=st) (st':=st.set b (.dic (dj f (reg ks k)))) (g:=[]) (d:=.int (cJ f (reg ks k) (nk k):Nat)) (by simp) (Nj h.wf (Zw _ _ _)) (by simp);simpa using this
 unfold DR qI eF Mz;rw[show startM 2 [D.loc a,.tup (lZ k)]=[some (.loc a),some (.tup (lZ k))] from rfl];generalize hG:j6 "Numbers" "given" (vr 0)=G at *;generalize hF:j6 "Numbers" "first" (vr 0)=FF at *;by_cases c:k∈ks
 ·have er:reg ks k=ks:=ae9 c;rw[er]at hu ix ⊢;rw[Zq h.dic]at hu ix ⊢;rw[afu c]at i1;generalize lZ k=KT at *;generalize ((cJ f ks (nk k):Nat):Int)=N at *;simp[g1,i1,ix];exact hu
 ·have er:reg ks k=ks++[k]:=ae_ c;rw[afd c]at i1;have ln:cO [.loc b] st=.ok (.int ks.length) st:=by simp only[cO,h.dic,zkt]
  have e1:(f:Int)+(ks.length:Int)=((f+ks.length:Nat):Int):=by omega
  have sd:jd (.loc b) (.tup (lZ k)) (.int ((f+ks.length:Nat):Int)) st=.ok () (st.set b (.dic (dj f (reg ks k)))):=by
   simp only[jd,h.dic,Af];rw[ae9 (by rw[zkt];omega),er,zl9];unfold rY;rw[abX f ks k c,ae_ (by simp)]
  generalize st.set b (.dic (dj f (reg ks k)))=Z at *;generalize lZ k=KT at *;generalize ((cJ f (reg ks k) (nk k):Nat):Int)=N at *;generalize ((f+ks.length:Nat):Int)=FL at *;simp[g1,g2,i1,ln,e1,sd,g3,ix];exact hu
end Law
set_option maxHeartbeats 0
namespace Law
open L2 M NK NS
def Num.app(h:Num st a b f ks)(hg:∀o∈g,aU (st++g).length o):Num (st++g) a b f ks :=
 ⟨fZ h.ins,fZ h.dic,h.ne,Mr h.wf hg⟩
def rW(ks:List NK):NS->List NK
 | pl _=>ks
 | nk k=>reg ks k
def zpk(ks:List NK)(s:NS):yV (rW ks s) s:=by
 cases s with
 | pl n=>trivial
 | nk k=>exact Zx ks k
def zlf(ks:List NK)(s:NS):∃l,rW ks s=ks++l:=by
 cases s with
 | pl n=>exact⟨[],by simp[rW]⟩
 | nk k=>exact zmb ks k
def zhm(h:ks.Nodup)(s:NS):(rW ks s).Nodup:=by
 cases s with
 | pl n=>exact h
 | nk k=>exact zhc h k
def zky(ks:List NK)(s:NS):(rW ks s).length<=ks.length+1:=by
 cases s with
 | pl n=>simp[rW]
 | nk k=>exact zlu ks k
def Cp{st st2:au}(h:Num st a b f ks)(hl:ks.length<100000)(k:NK)(mo:ME)(mA:MA)(env:cg)(h1:mo env st=.ok (.loc a) st)(h2:mA env st=.ok [.tup (lZ k)] st) :
  jM "Numbers" "number" DR mo mA env st=.ok (.int (cJ f (reg ks k) (nk k):Nat)) (st.set b (.dic (dj f (reg ks k)))):=by
 unfold jM;rw[h1,R.aD];simp only[h.ins];rw[ae9 ⟨trivial,zir _ _⟩,h2,R.aD];rw[Fq h hl k];simp only[h.ins]
 rfl
def zkz(h:Num st a b f ks)(hl:ks.length<100000)(t c many:Nat) :
  Rj [.loc a,.int t,.int c,.int many] st=.ok (.int (cJ f (rW ks (cL many t c)) (cL many t c):Nat)) (st.set b (.dic (dj f (rW ks (cL many t c))))):=by
 unfold Rj qI eF Ri;rw[show startM 4 [D.loc a,.int t,.int c,.int many]=[some (.loc a),some (.int t),some (.int c),some (.int many)] from rfl];by_cases e:c=many
 ·have e1:cL many t c=pl t:=ae9 e;rw[e1];simp only[rW,cJ];rw[Zq h.dic];have e2:(c:Int)=(many:Int):=by rw[e]
  have hu:zT st (.ok (.int t) st)=.ok (.int t) st:=by
   have:=T3 (st:=st) (st':=st) (g:=[]) (d:=.int t) rfl h.wf (by simp);simpa using this
  generalize jM _ _ _ _ _=MI;generalize (t:Int)=T at *;generalize (many:Int)=MM at *;rw[e2];simp;exact hu
 ·have e1:cL many t c=nk (en t c):=ae_ e;rw[e1];simp only[rW];have e2:¬ (c:Int)=(many:Int):=by omega
  have mt:=Cp (st2:=st) h hl (en t c) (vr 0) (aj (bZ (aj (ct (.str [101,110,100])) (aj (vr 1) (aj (vr 2) az)))) az) [some (.loc a),some (.int t),some (.int c),some (.int many)] rfl (by simp[lZ]);have hu:zT st (.ok (.int (cJ f (reg ks (en t c)) (nk (en t c)):Nat)) (st.set b (.dic (dj f (reg ks (en t c))))))=.ok (.int (cJ f (reg ks (en t c)) (nk (en t c)):Nat)) (st.set b (.dic (dj f (reg ks (en t c))))):=by
   have:=T3 (st:=st) (st':=st.set b (.dic (dj f (reg ks (en t c))))) (g:=[]) (d:=.int (cJ f (reg ks (en t c)) (nk (en t c)):Nat)) (by simp) (Nj h.wf (Zw _ _ _)) (by simp);simpa using this
  generalize jM _ _ _ _ _=MI at *;generalize st.set b (.dic (dj f (reg ks (en t c))))=Z at *;generalize ((cJ f (reg ks (en t c)) (nk (en t c)):Nat):Int)=N at *;generalize (t:Int)=T at *;generalize (c:Int)=CC at *;generalize (many:Int)=MM at *;simp[e2,mt];exact hu
def SS(st:au)(b f:Nat)(ks:List NK)(rl:List D):au:=st.set b (.dic (dj f ks))++[.lst rl]
def SS.set(h:Num st a b f je):(SS st b f ks rl).set b (.dic (dj f cQ))=SS st b f cQ rl:=by
 unfold SS;have hb:=(gk.mp h.dic).1;rw[List.set_append_left _ _ (by simpa using hb),set_set]
def SS.num(h:Num st a b f je)(hu:∀n,aR n rl):Num (SS st b f ks rl) a b f ks :=
 (h.set (ks':=ks)).app (by intro o ho;have:o=_:=gQ.mp ho;subst this;exact hu _)
def SS.app(h:Num st a b f je)(hl:rl.length<1000000)(d:D):aQ (.loc st.length) [d] (SS st b f ks rl)=.ok .non (SS st b f ks (rl++[d])):=by
 have e:(st.set b (.dic (dj f ks))).length=st.length:=by simp
 unfold SS;rw[<-e];generalize st.set b (.dic (dj f ks))=Z;simp[aQ,hl]
def SS.ty:dM "list" (.loc st.length) (SS st b f ks rl)=true:=by
 have e:(st.set b (.dic (dj f ks))).length=st.length:=by simp
 unfold SS;rw[<-e];generalize st.set b (.dic (dj f ks))=Z;simp[dM]
def SS.gc(h:Num st a b f je)(hu:∀n,aR n rl):zT st (.ok (.loc st.length) (SS st b f ks rl))=.ok (.loc st.length) (SS st b f ks rl):=by
 have:=QC (st:=st) (st':=st.set b (.dic (dj f ks))) (g:=[]) (g':=[]) (o:=.lst rl) (by simp) (Nj h.wf (Zw _ _ _)) (hu _);simpa[SS] using this
def SS.end_(h:Num st a b f je)(hu:∀n,aR n rl)(hl:ks.length<100000)(t c many:Nat) :
  Rj [.loc a,.int t,.int c,.int many] (SS st b f ks rl)=.ok (.int (cJ f (rW ks (cL many t c)) (cL many t c):Nat)) (SS st b f (rW ks (cL many t c)) rl):=by
 rw[zkz (SS.num h hu) hl,SS.set h]
def SS.aa0(h:Num st a b f je)(hu:∀n,aR n rl)(hl:ks.length<100000)(k:NK)(mo:ME)(mA:MA)(env:cg)(h1:mo env (SS st b f ks rl)=.ok (.loc a) (SS st b f ks rl))(h2:mA env (SS st b f ks rl)=.ok [.tup (lZ k)] (SS st b f ks rl)) :
  jM "Numbers" "number" DR mo mA env (SS st b f ks rl)=.ok (.int (cJ f (reg ks k) (nk k):Nat)) (SS st b f (reg ks k) rl):=by
 rw[Cp (st2:=st) (SS.num h hu) hl k mo mA env h1 h2,SS.set h]
def fV(many t:Nat):Nat->Nat->List SR
 | _,0=>[]
 | c,n+1=>zA many t c++fV many t (c+1) n
theorem zjl(many t:Nat):∀(n c:Nat),fV many t c (n+1)=fV many t c n++zA many t (c+n)
 | 0,c=>by simp[fV]
 | n+1,c=>by
  rw[fV,zjl many t n (c+1),fV,gG];congr 3;omega
theorem zk3(many t:Nat):∀(n c:Nat),(fV many t c n).length=2*n
 | 0,c=>rfl
 | n+1,c=>by rw[fV,gh,zk3 many t n (c+1)];simp[zA];omega
def X7(l:List NK)(h:inR ks r):inR (ks++l) r:=⟨Hw l h.1,Hw l h.2⟩
def zih(h:Num st a b f ks)(hn:ks.Nodup)(t c0 many:Nat)(hl:ks.length+2*many<90000)(hc:c0<=many)(hm:many<=1000) :
  ∃ks' l,ks'=ks++l/\ks'.Nodup/\ks'.length<=ks.length+2*many/\(∀r∈fV many t c0 (many - c0),inR ks' r) /\
   zb5 [.loc a,.int t,.int c0,.int many] st=.ok (.loc st.length) (SS st b f ks' ((fV many t c0 (many - c0)).map (bA f ks'))):=by
 unfold zb5 qI eF zb6;generalize hB:(aG (bw 6 _) _:MS)=B;obtain⟨dG,st',e1,ks',l,a5,a6,hk,xQ,hlen,wQ,rfl,rfl⟩:=yO (g:=aK 5) (b:=B) (gs:=[]) (items:=j9 (c0:Nat) (many - c0))
  (λi env s=>∃(ks' l:List NK) (a5 a6:Option D),ks'=ks++l/\ks'.Nodup/\ks'.length<=ks.length+2*i/\(∀r∈fV many t c0 i,inR ks' r) /\
   env=[some (.loc a),some (.int t),some (.int c0),some (.int many),some (.loc st.length),a5,a6]/\s=SS st b f ks' ((fV many t c0 i).map (bA f ks')))
  (env:=[some (.loc a),some (.int t),some (.int c0),some (.int many),some (.loc st.length),none,none]) (st:=st++[.lst []]) ⟨ks,[],none,none,by simp,hn,by simp,by simp[fV],rfl,by unfold SS;rw[Zq h.dic];rfl⟩ (by
   rintro i d env s hi ⟨bJ,l1,a5,a6,yx,Dd,t_,uK,rfl,rfl⟩;obtain⟨hi',rfl⟩:=TJ hi;have ec:(c0:Int)+(i:Int)=((c0+i:Nat):Int):=by omega
   have ec1:((c0+i:Nat):Int)+1=((c0+i+1:Nat):Int):=by omega
   rw[ec];generalize qF:(fV many t c0 i).map (bA f bJ)=rl;have yw:rl.length=2*i:=by rw[<-qF,gq,zk3]
   have M5:∀n,aR n rl:=λn=>by rw[<-qF];exact Mw _ _ _ _
   have eN:cL many t (c0+i)=nk (en t (c0+i)):=ae_ (by omega);have s1:=SS.end_ h M5 (ks:=bJ) (by omega) t (c0+i) many;rw[eN]at s1;obtain⟨m2,ux⟩:=zmb bJ (en t (c0+i));have k2l:=zlu bJ (en t (c0+i));have YH:=zhc Dd (en t (c0+i));have M4:=Zx bJ (en t (c0+i));rw[show rW bJ (nk (en t (c0+i)))=reg bJ (en t (c0+i)) from rfl]at s1;generalize abv:reg bJ (en t (c0+i))=cQ at *;generalize xP:((cJ f cQ (nk (en t (c0+i))):Nat):Int)=v2 at *;have a1:=SS.app h (ks:=cQ) (rl:=rl) (by omega) (.tup [.int v2,.str [105],.str [105],.int v2]);have hu2:∀n,aR n (rl++[.tup [.int v2,.str [105],.str [105],.int v2]]):=λn=>by
    rw[Mu];intro d hd;rcases gm.mp hd with hd | hd
    ·exact (Mu n rl).mp (M5 n) d hd
    ·have:d=_:=gQ.mp hd;subst this;simp
   have s2:=SS.end_ h hu2 (ks:=cQ) (by omega) t (c0+i+1) many;obtain⟨m3,M8⟩:=zlf cQ (cL many t (c0+i+1));have k3l:=zky cQ (cL many t (c0+i+1));have k3n:=zhm YH (cL many t (c0+i+1));have k3m:=zpk cQ (cL many t (c0+i+1));generalize adw:rW cQ (cL many t (c0+i+1))=qe at *;generalize Wu:((cJ f qe (cL many t (c0+i+1)):Nat):Int)=v3 at *;have a2:=SS.app h (ks:=qe) (rl:=rl++[.tup [.int v2,.str [105],.str [105],.int v2]]) (by simp;omega) (.tup [.int v2,.str [101],.str [101],.int v3]);have t1:=SS.ty (st:=st) (b:=b) (f:=f) (ks:=cQ) (rl:=rl);have t2:=SS.ty (st:=st) (b:=b) (f:=f) (ks:=qe) (rl:=rl++[.tup [.int v2,.str [105],.str [105],.int v2]]);have t2':=SS.ty (st:=st) (b:=b) (f:=f) (ks:=cQ) (rl:=rl++[.tup [.int v2,.str [105],.str [105],.int v2]]);have inE:yV cQ (nk (en t (c0+i))):=M4;have fin:rl++[.tup [.int v2,.str [105],.str [105],.int v2]]++[.tup [.int v2,.str [101],.str [101],.int v3]]=(fV many t c0 (i+1)).map (bA f qe):=by
    rw[zjl,gZ,<-qF];have e2:(fV many t c0 i).map (bA f qe)=(fV many t c0 i).map (bA f bJ):=by
     rw[M8,ux,gG];exact zd9 _ uK
    have e3:((cJ f qe (nk (en t (c0+i))):Nat):Int)=v2:=by rw[M8,T6 m3 inE];exact xP
    rw[e2];simp[zA,bA,e3,Wu]
   refine⟨by simp,[some (.loc a),some (.int t),some (.int c0),some (.int many),some (.loc st.length),some (.int ((c0+i:Nat):Int)),a6],SS st b f bJ rl,by generalize SS st b f bJ rl=Z;simp,[some (.loc a),some (.int t),some (.int c0),some (.int many),some (.loc st.length),some (.int ((c0+i:Nat):Int)),some (.int v2)],SS st b f qe (rl++[.tup [.int v2,.str [105],.str [105],.int v2]]++[.tup [.int v2,.str [101],.str [101],.int v3]]),.inl ?_,qe,l1++m2++m3,_,_,by rw[M8,ux,yx];simp,k3n,by omega,?_,rfl,by rw[fin]⟩
   ·rw[<-hB];generalize SS st b f bJ rl=Z1 at *;generalize SS st b f cQ rl=Z2 at *;generalize SS st b f cQ (rl++[.tup [.int v2,.str [105],.str [105],.int v2]])=Z3 at *;generalize SS st b f qe (rl++[.tup [.int v2,.str [105],.str [105],.int v2]])=Z4 at *;generalize SS st b f qe (rl++[.tup [.int v2,.str [105],.str [105],.int v2]]++[.tup [.int v2,.str [101],.str [101],.int v3]])=Z5 at *;generalize ((c0+i+1:Nat):Int)=C1 at *;generalize ((c0+i:Nat):Int)=C0 at *;generalize (t:Int)=T at *;generalize (many:Int)=MM at *;simp[s1,t1,a1,t2',ec1,s2,t2,a2]
   ·intro r hr;rw[zjl]at hr;rcases gm.mp hr with hr | hr
    ·rw[M8,ux];exact X7 _ (X7 _ (uK r hr))
    ·simp only[zA,gj,g_,afm]at hr;rcases hr with rfl | rfl
     ·rw[M8];exact⟨Hw _ inE,Hw _ inE⟩
     ·exact⟨by rw[M8];exact Hw _ inE,k3m⟩) (λ_ _ _=>by simp)
 rw[Nq]at hlen wQ e1;refine⟨ks',l,hk,xQ,by omega,wQ,?_⟩;have g:=SS.gc h (ks:=ks') (rl:=(fV many t c0 (many - c0)).map (bA f ks')) (λn=>Mw _ _ _ _);have uw:-4611686018427387904<=(c0:Int):=by omega
 have Dc:(c0:Int)<4611686018427387904:=by omega
 have Wz:-4611686018427387904<=(many:Int):=by omega
 have hr4:(many:Int)<4611686018427387904:=by omega
 have eu:((many:Int) - (c0:Int)).toNat=many - c0:=by omega
 rw[show startM 7 [D.loc a,.int t,.int c0,.int many]=[some (.loc a),some (.int t),some (.int c0),some (.int many),none,none,none] from rfl];generalize SS st b f ks' _=Z9 at *;simp[uw,Dc,Wz,hr4,eu,e1];exact g
def aJ(r:Rw):D:=if r.up then .tup [.str [117,112],.int r.c,.int r.t] else .tup [.str [100,111,119,110],.int r.c,.int r.t,.int r.f]
def zpw(r:Rw)(st:au):bz (aJ r) (.int 1) st=.ok (.int r.c) st:=by
 unfold aJ;split
 ·exact qb st 1 _ _ rfl
 ·exact qb st 1 _ _ rfl
def znm(r:Rw)(st:au):bz (aJ r) (.int 2) st=.ok (.int r.t) st:=by
 unfold aJ;split
 ·exact qb st 2 _ _ rfl
 ·exact qb st 2 _ _ rfl
def znq(r:Rw)(st:au):bz (aJ r) (.int 0) st=.ok (.str (if r.up then [117,112] else [100,111,119,110])) st:=by
 unfold aJ;split
 ·exact qb st 0 _ _ rfl
 ·exact qb st 0 _ _ rfl
def zn6(r:Rw)(h:¬ r.up=true)(st:au):bz (aJ r) (.int 3) st=.ok (.int r.f) st:=by
 unfold aJ;rw[ae_ h];exact qb st 3 _ _ rfl
theorem zl4(p:Nat):∀k,(xq p k).length=2*k
 | 0=>rfl
 | k+1=>by rw[xq,gh,zl4 p k];simp;omega
def zfa(h:aR n rl)(hd:under n d):aR n (rl++[d]):=by
 rw[Mu]at *;intro x hx;rcases gm.mp hx with hx | hx
 ·exact h x hx
 ·have:x=_:=gQ.mp hx;subst this;exact hd
def zii(h:Num st a b f ks)(hn:ks.Nodup)(p many:Nat)(r:Rw)(hl:ks.length+r.c+4<90000)(hc:r.c<=1000) :
  ∃ks' l,ks'=ks++l/\ks'.Nodup/\ks'.length<=ks.length+r.c+4/\(∀q∈fj many p r,inR ks' q) /\
   zb8 [.loc a,.int p,aJ r,.int many] st=.ok (.loc st.length) (SS st b f ks' ((fj many p r).map (bA f ks'))):=by
 unfold zb8 qI eF zb7;generalize hB:(aG (bw 8 _) _:MS)=B;obtain⟨dG,st',e1,bJ,l1,a7,a8,yx,Dd,t_,uK,Al,rfl,rfl⟩:=yO (g:=aK 7) (b:=B) (gs:=[]) (items:=j9 0 r.c)
  (λi env s=>∃(ks' l:List NK) (a7 a8:Option D),ks'=ks++l/\ks'.Nodup/\ks'.length<=ks.length+i/\(∀q∈xq p i,inR ks' q)/\yV ks' (vD p i) /\
   env=[some (.loc a),some (.int p),some (aJ r),some (.int many),some (.loc st.length),some (.int (cJ f ks' (vD p i):Nat)),some (.str [qU i]),a7,a8,none,none]/\s=SS st b f ks' ((xq p i).map (bA f ks')))
  (env:=[some (.loc a),some (.int p),some (aJ r),some (.int many),some (.loc st.length),some (.int p),some (.str [98]),none,none,none,none]) (st:=st++[.lst []]) ⟨ks,[],none,none,by simp,hn,by simp,by simp[xq],by simp[vD,yV],by simp[vD,cJ,qU],by unfold SS;rw[Zq h.dic];rfl⟩ (by
   rintro i d env s hi ⟨bJ,l1,a7,a8,yx,Dd,t_,uK,Al,rfl,rfl⟩;obtain⟨hi',rfl⟩:=TJ hi;rw[Int.zero_add];generalize qF:(xq p i).map (bA f bJ)=rl;have yw:rl.length=2*i:=by rw[<-qF,gq,zl4]
   have M5:∀n,aR n rl:=λn=>by rw[<-qF];exact Mw _ _ _ _
   generalize KQ:((cJ f bJ (vD p i):Nat):Int)=v1;have mt:=SS.aa0 h M5 (ks:=bJ) (by omega) (ah p i) (vr 0) (aj (bZ (aj (ct (.str [97,104,101,97,100])) (aj (vr 1) (aj (vr 7) az)))) az) [some (.loc a),some (.int p),some (aJ r),some (.int many),some (.loc st.length),some (.int v1),some (.str [qU i]),some (.int i),a8,none,none] rfl (by
    generalize SS st b f bJ rl=Z;simp[lZ])
   obtain⟨m2,ux⟩:=zmb bJ (ah p i);have k2l:=zlu bJ (ah p i);have YH:=zhc Dd (ah p i);have M4:yV (reg bJ (ah p i)) (nk (ah p i)):=Zx bJ (ah p i);generalize abv:reg bJ (ah p i)=cQ at *;generalize xP:((cJ f cQ (nk (ah p i)):Nat):Int)=v2 at *
   let d1:D:=.tup [.int v1,.str [qU i],.str [qU i],.int v2]
   let d2:D:=.tup [.int v2,.str [105],.str [105],.int v2]
   have a1:=SS.app h (ks:=cQ) (rl:=rl) (by omega) d1;have a2:=SS.app h (ks:=cQ) (rl:=rl++[d1]) (by simp;omega) d2;have t1:=SS.ty (st:=st) (b:=b) (f:=f) (ks:=cQ) (rl:=rl);have t2:=SS.ty (st:=st) (b:=b) (f:=f) (ks:=cQ) (rl:=rl++[d1]);have e3:((cJ f cQ (vD p i):Nat):Int)=v1:=by rw[ux,T6 m2 Al];exact KQ
   have fin:rl++[d1]++[d2]=(xq p (i+1)).map (bA f cQ):=by
    rw[xq,gZ,<-qF];have e2:(xq p i).map (bA f cQ)=(xq p i).map (bA f bJ):=by rw[ux];exact zd9 _ uK
    rw[e2];have es:(if i=0 then pl p else nk (ah p (i - 1)))=vD p i:=rfl;have eg:(if i=0 then 98 else 101)=qU i:=rfl;rw[es,eg];simp only[d1,d2,bA,gB,mU,e3,xP,gG,kJ,k_]
   have sA:vD p (i+1)=nk (ah p i):=by simp[vD]
   have gA:qU (i+1)=101:=by simp[qU]
   refine⟨by simp,[some (.loc a),some (.int p),some (aJ r),some (.int many),some (.loc st.length),some (.int v1),some (.str [qU i]),some (.int i),a8,none,none],SS st b f bJ rl,by generalize SS st b f bJ rl=Z;simp,[some (.loc a),some (.int p),some (aJ r),some (.int many),some (.loc st.length),some (.int v2),some (.str [101]),some (.int i),some (.int v2),none,none],SS st b f cQ (rl++[d1]++[d2]),.inl ?_,cQ,l1++m2,_,_,by rw[ux,yx];simp,YH,by omega,?_,?_,by rw[sA,gA,xP],by rw[fin]⟩
   ·rw[<-hB];generalize hMI:jM _ _ _ _ _=MI at *;generalize SS st b f bJ rl=Z1 at *;generalize SS st b f cQ rl=Z2 at *;generalize SS st b f cQ (rl++[d1])=Z3 at *;generalize SS st b f cQ (rl++[d1]++[d2])=Z4 at *;simp only[d1,d2]at a1 a2;generalize (i:Int)=ii at *;generalize (p:Int)=pp at *;generalize (many:Int)=MM at *;generalize aJ r=ER at *;generalize qU i=sg at *;simp[mt,t1,a1,t2,a2]
   ·intro q hq;rw[xq]at hq;rcases gm.mp hq with hq | hq
    ·rw[ux];exact X7 _ (uK q hq)
    ·simp only[gj,g_,afm]at hq;rcases hq with rfl | rfl
     ·exact⟨by rw[ux];exact Hw _ Al,M4⟩
     ·exact⟨M4,M4⟩
   ·rw[sA];exact M4) (λ_ _ _=>by simp)
 rw[Nq]at t_ uK Al e1;generalize qF:(xq p r.c).map (bA f bJ)=rl at *;have yw:rl.length=2*r.c:=by rw[<-qF,gq,zl4]
 have M5:∀n,aR n rl:=λn=>by rw[<-qF];exact Mw _ _ _ _
 generalize KQ:((cJ f bJ (vD p r.c):Nat):Int)=v1 at *

 have s1:=SS.end_ h M5 (ks:=bJ) (by omega) r.t r.c many;obtain⟨m2,ux⟩:=zlf bJ (cL many r.t r.c);have k2l:=zky bJ (cL many r.t r.c);have YH:=zhm Dd (cL many r.t r.c);have M4:=zpk bJ (cL many r.t r.c);generalize abv:rW bJ (cL many r.t r.c)=cQ at *;generalize xP:((cJ f cQ (cL many r.t r.c):Nat):Int)=v2 at *;have st2:yV cQ (vD p r.c):=by rw[ux];exact Hw _ Al
 have uw:-4611686018427387904<=(r.c:Int):=by omega
 have Dc:(r.c:Int)<4611686018427387904:=by omega
 have et:((r.c:Int)).toNat=r.c:=mF _;have x0:=znq r;have x1:=zpw r;have x2:=znm r;have in1:∀(ks':List NK) (l':List NK),ks'=bJ++l'->∀q∈xq p r.c,inR ks' q:=λks' l' e q hq=>by rw[e];exact X7 _ (uK q hq)
 have Ry:∀(ks':List NK) (l':List NK),ks'=bJ++l'->(xq p r.c).map (bA f ks')=rl:=λks' l' e=>by rw[e,<-qF];exact zd9 _ uK
 have Rq:∀(ks':List NK) (l':List NK),ks'=bJ++l'->((cJ f ks' (vD p r.c):Nat):Int)=v1:=λks' l' e=>by rw[e,T6 _ Al];exact KQ
 rw[show startM 11 [D.loc a,.int p,aJ r,.int many]=[some (.loc a),some (.int p),some (aJ r),some (.int many),none,none,none,none,none,none,none] from rfl];by_cases cu:r.up=true
 ·let d1:D:=.tup [.int v1,.str [qU r.c],.str [qU r.c,105],.int v2]
  have a1:=SS.app h (ks:=cQ) (rl:=rl) (by omega) d1;have t1:=SS.ty (st:=st) (b:=b) (f:=f) (ks:=cQ) (rl:=rl);have fin:rl++[d1]=(fj many p r).map (bA f cQ):=by
   unfold fj;rw[ae9 cu,gZ,Ry cQ m2 ux];simp only[d1,bA,gB,mU,Rq cQ m2 ux,xP]
  have g:=SS.gc h (ks:=cQ) (rl:=rl++[d1]) (λn=>zfa (M5 n) (by simp[d1]));refine⟨cQ,l1++m2,by rw[ux,yx];simp,YH,by omega,?_,?_⟩
  ·intro q hq;unfold fj at hq;rw[ae9 cu]at hq;rcases gm.mp hq with hq | hq
   ·exact in1 cQ m2 ux q hq
   ·have:q=_:=gQ.mp hq;subst this;exact⟨st2,M4⟩
  ·rw[<-fin];simp only[cu,afy]at x0;simp only[d1]at a1 g ⊢;generalize SS st b f cQ (rl++_)=Z9 at *;generalize SS st b f bJ rl=Z1 at *;generalize SS st b f cQ rl=Z2 at *;generalize (r.c:Int)=CC at *;generalize (r.t:Int)=TT at *;generalize (p:Int)=pp at *;generalize (many:Int)=MM at *;generalize aJ r=ER at *;generalize qU r.c=sg at *;simp[x1,uw,Dc,et,e1,x2,s1,x0,bH,t1,a1];exact g
 ·have x3:=zn6 r cu;have mt:=SS.aa0 h M5 (ks:=cQ) (by omega) (ask p) (vr 0) (aj (bZ (aj (ct (.str [97,115,107])) (aj (vr 1) az))) az) [some (.loc a),some (.int p),some (aJ r),some (.int many),some (.loc st.length),some (.int v1),some (.str [qU r.c]),a7,a8,some (.int v2),none] rfl (by
    generalize SS st b f cQ rl=Z;simp[lZ])
  obtain⟨m3,M8⟩:=zmb cQ (ask p);have k3l:=zlu cQ (ask p);have k3n:=zhc YH (ask p);have k3m:yV (reg cQ (ask p)) (nk (ask p)):=Zx cQ (ask p);generalize adw:reg cQ (ask p)=qe at *;generalize Wu:((cJ f qe (nk (ask p)):Nat):Int)=v3 at *
  let d1:D:=.tup [.int v1,.str [qU r.c],.str [qU r.c],.int v3]
  let d2:D:=.tup [.int v3,.str [105],.str [],.int v2]
  have u2:∀n,aR n (rl++[d1]++[d2]):=λn=>zfa (zfa (M5 n) (by simp[d1])) (by simp[d2]);have s2:=SS.end_ h u2 (ks:=qe) (by omega) r.f (r.c+1) many;obtain⟨m4,hm4⟩:=zlf qe (cL many r.f (r.c+1));have k4l:=zky qe (cL many r.f (r.c+1));have k4n:=zhm k3n (cL many r.f (r.c+1));have k4m:=zpk qe (cL many r.f (r.c+1));generalize aeK:rW qe (cL many r.f (r.c+1))=uY at *;generalize hv4:((cJ f uY (cL many r.f (r.c+1)):Nat):Int)=v4 at *
  let d3:D:=.tup [.int v3,.str [101],.str [101],.int v4]
  have a1:=SS.app h (ks:=qe) (rl:=rl) (by omega) d1;have a2:=SS.app h (ks:=qe) (rl:=rl++[d1]) (by simp;omega) d2;have a3:=SS.app h (ks:=uY) (rl:=rl++[d1]++[d2]) (by simp;omega) d3;have t1:=SS.ty (st:=st) (b:=b) (f:=f) (ks:=qe) (rl:=rl);have t2:=SS.ty (st:=st) (b:=b) (f:=f) (ks:=qe) (rl:=rl++[d1]);have t3:=SS.ty (st:=st) (b:=b) (f:=f) (ks:=qe) (rl:=rl++[d1]++[d2]);have e41:uY=bJ++(m2++m3++m4):=by rw[hm4,M8,ux];simp
  have v2':((cJ f uY (cL many r.t r.c):Nat):Int)=v2:=by
   rw[hm4,M8,gG,T6 _ M4];exact xP
  have v3':((cJ f uY (nk (ask p)):Nat):Int)=v3:=by rw[hm4,T6 _ k3m];exact Wu
  have fin:rl++[d1]++[d2]++[d3]=(fj many p r).map (bA f uY):=by
   unfold fj;rw[ae_ cu,gZ,Ry uY _ e41];simp only[d1,d2,d3,bA,gB,mU,Rq uY _ e41,v2',v3',hv4,gG,kJ,k_]
  have g:=SS.gc h (ks:=uY) (rl:=rl++[d1]++[d2]++[d3]) (λn=>zfa (u2 n) (by simp[d3]));refine⟨uY,l1++(m2++m3++m4),by rw[e41,yx];simp,k4n,by omega,?_,?_⟩
  ·intro q hq;unfold fj at hq;rw[ae_ cu]at hq;rcases gm.mp hq with hq | hq
   ·exact in1 uY _ e41 q hq
   ·have i3:yV uY (nk (ask p)):=by rw[hm4];exact Hw _ k3m
    have i2:yV uY (cL many r.t r.c):=by rw[hm4,M8];exact Hw _ (Hw _ M4)
    have i1:yV uY (vD p r.c):=by rw[e41];exact Hw _ Al
    simp only[gj,g_,afm]at hq;rcases hq with rfl | rfl | rfl
    ·exact⟨i1,i3⟩
    ·exact⟨i3,i2⟩
    ·exact⟨i3,k4m⟩
  ·rw[<-fin];rw[ae_ cu]at x0;have ec1:(r.c:Int)+1=((r.c+1:Nat):Int):=by omega
   generalize hMI:jM _ _ _ _ (aj (bZ (aj (ct (.str [97,115,107])) _)) az)=MI at *;simp only[d1,d2,d3]at a1 a2 a3 g s2 t2 t3 ⊢;generalize SS st b f uY (rl++_++_++_)=Z9 at *;generalize SS st b f uY (rl++_++_)=Z8 at *;generalize SS st b f qe (rl++_++_)=Z7 at *;generalize SS st b f qe (rl++_)=Z6 at *;generalize SS st b f qe rl=Z5 at *;generalize SS st b f bJ rl=Z1 at *;generalize SS st b f cQ rl=Z2 at *;generalize ((r.c+1:Nat):Int)=C1 at *;generalize (r.c:Int)=CC at *;generalize (r.t:Int)=TT at *;generalize (r.f:Int)=FF at *;generalize (p:Int)=pp at *;generalize (many:Int)=MM at *;generalize aJ r=ER at *;generalize qU r.c=sg at *;simp[x1,uw,Dc,et,e1,x2,s1,x0,mt,t1,a1,t2,a2,x3,ec1,s2,t3,a3];exact g
end Law
set_option maxHeartbeats 0
namespace Law
open L2 M NK NS
structure Fst(kvs:List (Key×D))(many n:Nat):Prop where
 ent:∀q∈kvs,∃t v:Nat,q=(.inl (t:Nat),.int v)/\v<=many
 len:kvs.length<=n
def zk8(h:valN kvs k=some d):(k,d)∈kvs:=by
 unfold valN at h;obtain⟨p,hp,e2⟩:=gO.mp h;have h1:=List.mem_of_find?_eq_some hp;have hk:=List.find?_some hp;simp only[afL]at hk;obtain⟨pk,pd⟩:=p;cases hk;cases e2;exact h1
def JZ(h:q∈kvs):∃d,valN kvs q.1=some d:=by
 cases e:valN kvs q.1 with
 | some d=>exact⟨d,rfl⟩
 | none =>
  unfold valN at e;rw[pJ,pK]at e;exact absurd (afu rfl) (e q h)
def zpb(h:q∈putN kvs k d):q∈kvs\/q=(k,d):=by
 unfold putN at h
 split at h
 ·obtain⟨p,hp,rfl⟩:=g8.mp h;by_cases e:p.1=k
  ·rw[ae9 e];exact .inr (by rw[e])
  ·rw[ae_ e];exact .inl hp
 ·rcases gm.mp h with h | h
  ·exact .inl h
  ·exact .inr (gQ.mp h)
def Told(kvs:List (Key×D))(r:Rw):Prop :=
 (∃v:Nat,valN kvs (.inl (r.t:Nat))=some (.int v)/\v<=r.c)/\(¬ r.up=true->∃v:Nat,valN kvs (.inl (r.f:Nat))=some (.int v)/\v<=r.c+1)
def zpn{kvs:List (Key×D)}{many n t c:Nat}(h:Fst kvs many n)(hc:c<=many):∃w:Nat,(∀(b:Nat) (st:au),st[b]? = some (.dkc kvs)->v5 (.loc b) [.int t,.int c] st=.ok (.int ((valN kvs (.inl (t:Nat))).elim (c:Int) λd=>match d with | .int i=>i | _=>0)) st) /\
  w<=c/\w<=many/\(if (c:Int)<((valN kvs (.inl (t:Nat))).elim (c:Int) λd=>match d with | .int i=>i | _=>0) then (c:Int) else ((valN kvs (.inl (t:Nat))).elim (c:Int) λd=>match d with | .int i=>i | _=>0))=(w:Nat)/\Fst (putN kvs (.inl (t:Nat)) (.int w)) many (n+1) /\
  ∀(s:Nat) (v:Nat),valN kvs (.inl (s:Nat))=some (.int v)->∃v':Nat,valN (putN kvs (.inl (t:Nat)) (.int w)) (.inl (s:Nat))=some (.int v')/\v'<=v:=by
 cases e:valN kvs (.inl (t:Nat)) with
 | none =>
  refine⟨c,λb st hb=>?_,gf _,hc,by simp,⟨λq hq=>?_,by have:=zpx kvs (.inl (t:Nat)) (.int c);have:=h.len;omega⟩,λs v hs=>?_⟩
  ·simp only[v5,hb,ZZ,e];rfl
  ·rcases zpb hq with hq | rfl
   ·exact h.ent q hq
   ·exact⟨t,c,rfl,hc⟩
  ·rw[zjm];by_cases es:(Sum.inl (t:Int):Key)=.inl (s:Int)
   ·rw[<-es,e]at hs;cases hs
   ·rw[ae_ es];exact⟨v,hs,gf _⟩
 | some d =>
  obtain⟨t',u,e2,hu⟩:=h.ent _ (zk8 e);obtain⟨_,rfl⟩:=afl e2;refine⟨if c<u then c else u,λb st hb=>?_,by split<;>omega,by split<;>omega,?_,⟨λq hq=>?_,by have:=zpx kvs (.inl (t:Nat)) (.int (((if c<u then c else u:Nat)):Nat));have:=h.len;omega⟩,λs v hs=>?_⟩
  ·simp only[v5,hb,ZZ,e];rfl
  ·show (if (c:Int)<(u:Int) then (c:Int) else (u:Int))=_;by_cases cc:c<u
   ·rw[ae9 cc,ae9 (by omega)]
   ·rw[ae_ cc,ae_ (by omega)]
  ·rcases zpb hq with hq | rfl
   ·exact h.ent q hq
   ·exact⟨t,_,rfl,by split<;>omega⟩
  ·rw[zjm];by_cases es:(Sum.inl (t:Int):Key)=.inl (s:Int)
   ·rw[ae9 es];rw[<-es,e]at hs;have:(u:Int)=(v:Nat):=by cases hs;rfl
    exact⟨_,rfl,by split<;>omega⟩
   ·rw[ae_ es];exact⟨v,hs,gf _⟩
def zg8(rows:List Rw)(many n:Nat)(st:au)(h:aq st n=some (rows.map aJ))(Hm:∀L,wO [(n,L)] st->True)(hr:∀r∈rows,r.c+1<=many)(hl:rows.length<=1000)(hg:o7 st n=some (rows.map aJ,.lst (rows.map aJ))) :
  ∃kvs,Fst kvs many (2*rows.length)/\(∀r∈rows,Told kvs r)/\zb9 [.loc n] st=.ok (.loc st.length) (st++[.dkc kvs]):=by
 have yW:st[n]? = some (.lst (rows.map aJ)):=(zgm hg).2.1;unfold zb9 jP eF zbj;generalize hB:(aG (iV _ _) _:MS)=B;obtain⟨dG,st',e1,kvs,a2,hF,hT,rfl,rfl⟩:=yO (g:=aK 2) (b:=B) (gs:=[(n,.lst (rows.map aJ))]) (items:=rows.map aJ)
  (λi env s=>∃(kvs:List (Key×D)) (a2:Option D),Fst kvs many (2*i)/\(∀r∈rows.take i,Told kvs r)/\env=[some (.loc n),some (.loc st.length),a2]/\s=st++[.dkc kvs])
  (env:=[some (.loc n),some (.loc st.length),none]) (st:=st++[.dkc []]) ⟨[],none,⟨by simp,by simp⟩,by simp,rfl,rfl⟩ (by
   rintro i d env s hi ⟨kvs,a2,hF,hT,rfl,rfl⟩;rw[gH]at hi;obtain⟨r,uw,rfl⟩:=gO.mp hi;have sy:=gM uw;have Df:=(gk.mp uw).1;have hrc:=hr r sy;have x0:=znq r;have x1:=zpw r;have x2:=znm r;have ety:∀kvs:List (Key×D),dM "dict" (.loc st.length) (st++[.dkc kvs])=true:=λkvs=>by simp[dM]
   have hb:∀kvs:List (Key×D),(st++[MO.dkc kvs])[st.length]? = some (.dkc kvs):=λkvs=>by simp
   have sk:∀(kvs:List (Key×D)) (t w:Nat),kvs.length<1000000->wV (.loc st.length) (.int (t:Nat)) (.int (w:Nat)) (st++[.dkc kvs])=.ok () (st++[.dkc (putN kvs (.inl (t:Nat)) (.int (w:Nat)))]):=λkvs t w hl=>by
    unfold wV;simp only[hb,ZZ];rw[ae9 hl];simp
   obtain⟨w1,g1,l1,m1,q1,F1,T1⟩:=zpn (t:=r.t) (c:=r.c) hF (by omega);replace g1:=g1 st.length _ (hb kvs);have lk:=hF.len;have s1:=sk kvs r.t w1 (by omega);have e1:rows.take (i+1)=rows.take i++[r]:=by rw[mz,uw];rfl
   have t1:∃v:Nat,valN (putN kvs (.inl (r.t:Nat)) (.int w1)) (.inl (r.t:Nat))=some (.int v)/\v<=r.c:=⟨w1,by rw[zjm,ae9 rfl],l1⟩;by_cases cu:r.up=true
   ·refine⟨by simp[fZ yW],[some (.loc n),some (.loc st.length),some (aJ r)],st++[.dkc kvs],by simp,[some (.loc n),some (.loc st.length),some (aJ r)],st++[.dkc (putN kvs (.inl (r.t:Nat)) (.int w1))],.inl ?_,_,_,⟨F1.ent,by have:=F1.len;omega⟩,?_,rfl,rfl⟩
    ·rw[<-hB];simp only[cu,afy]at x0;have ety:=ety kvs;generalize (st++[.dkc (putN kvs (.inl (r.t:Nat)) (.int w1))]:au)=Z2 at *;generalize (st++[.dkc kvs]:au)=Z1 at *;generalize ((valN kvs (.inl (r.t:Nat))).elim (r.c:Int) λd=>match d with | .int i=>i | _=>0)=GV at *;generalize (r.c:Int)=CC at *;generalize (r.t:Int)=TT at *;generalize (w1:Int)=W1 at *;generalize aJ r=ER at *;simp[x1,x2,ety,g1,sJ,q1,s1,x0]
    ·intro q hq;rw[e1]at hq;rcases gm.mp hq with hq | hq
     ·obtain⟨⟨v,h1,h2⟩,h3⟩:=hT q hq;obtain⟨v',h4,h5⟩:=T1 q.t v h1;refine⟨⟨v',h4,by omega⟩,λc=>?_⟩;obtain⟨u,h6,h7⟩:=h3 c;obtain⟨u',h8,h9⟩:=T1 q.f u h6;exact⟨u',h8,by omega⟩
     ·have:q=r:=gQ.mp hq;subst this;exact⟨t1,λc=>absurd cu c⟩
   ·obtain⟨w2,g2,l2,m2,q2,F2,T2⟩:=zpn (t:=r.f) (c:=r.c+1) F1 (by omega);replace g2:=g2 st.length _ (hb _);have lk2:=F1.len;have s2:=sk (putN kvs (.inl (r.t:Nat)) (.int w1)) r.f w2 (by omega);have x3:=zn6 r cu;refine⟨by simp[fZ yW],[some (.loc n),some (.loc st.length),some (aJ r)],st++[.dkc kvs],by simp,[some (.loc n),some (.loc st.length),some (aJ r)],st++[.dkc (putN (putN kvs (.inl (r.t:Nat)) (.int w1)) (.inl (r.f:Nat)) (.int w2))],.inl ?_,_,_,⟨F2.ent,by have:=F2.len;omega⟩,?_,rfl,rfl⟩
    ·rw[<-hB];rw[ae_ cu]at x0;have adQ:=ety kvs;have adP:=ety (putN kvs (.inl (r.t:Nat)) (.int w1));have ec:(r.c:Int)+1=((r.c+1:Nat):Int):=by omega
     generalize (st++[.dkc (putN (putN kvs (.inl (r.t:Nat)) (.int w1)) (.inl (r.f:Nat)) (.int w2))]:au)=Z3 at *;generalize ((valN (putN kvs (.inl (r.t:Nat)) (.int w1)) (.inl (r.f:Nat))).elim ((r.c+1:Nat):Int) λd=>match d with | .int i=>i | _=>0)=GV2 at *;generalize (st++[.dkc (putN kvs (.inl (r.t:Nat)) (.int w1))]:au)=Z2 at *;generalize (st++[.dkc kvs]:au)=Z1 at *;generalize ((valN kvs (.inl (r.t:Nat))).elim (r.c:Int) λd=>match d with | .int i=>i | _=>0)=GV at *;generalize ((r.c+1:Nat):Int)=C1 at *;generalize (r.c:Int)=CC at *;generalize (r.t:Int)=TT at *;generalize (r.f:Int)=FF at *;generalize (w1:Int)=W1 at *;generalize (w2:Int)=W2 at *;generalize aJ r=ER at *;simp[x1,x2,adQ,g1,sJ,q1,s1,x0,x3,ec,adP,g2,q2,s2]
    ·intro q hq;rw[e1]at hq;rcases gm.mp hq with hq | hq
     ·obtain⟨⟨v,h1,h2⟩,h3⟩:=hT q hq;obtain⟨v',h4,h5⟩:=T1 q.t v h1;obtain⟨v'',h4',h5'⟩:=T2 q.t v' h4;refine⟨⟨v'',h4',by omega⟩,λc=>?_⟩;obtain⟨u,h6,h7⟩:=h3 c;obtain⟨u',h8,h9⟩:=T1 q.f u h6;obtain⟨u'',h8',h9'⟩:=T2 q.f u' h8;exact⟨u'',h8',by omega⟩
     ·have:q=r:=gQ.mp hq;subst this;obtain⟨v,h1,h2⟩:=t1;obtain⟨v',h4,h5⟩:=T2 q.t v h1;exact⟨⟨v',h4,by omega⟩,λ_=>⟨w2,by rw[zjm,ae9 rfl],l2⟩⟩) (λ_ _ zz=>by obtain⟨_,_,_,_,_,e⟩:=zz;rw[e];simp[fZ yW])
 rw[gq]at hF hT;rw[m9]at hT;refine⟨kvs,hF,hT,?_⟩;have adA:(st++[MO.dkc []])[n]? = some (.lst (rows.map aJ)):=fZ yW;have hu:gc st (.ok (.loc st.length) (st++[.dkc kvs]))=.ok (.loc st.length) (st++[.dkc kvs]):=Nk (by
  intro p hp;obtain⟨t,v,e,_⟩:=hF.ent p hp;rw[e];simp)
 rw[show startM 3 [D.loc n]=[some (.loc n),none,none] from rfl];generalize rows.map aJ=X at *;generalize (st++[.dkc kvs]:au)=Z9 at *;simp[adA,e1];exact hu
def W(st:au)(f:Nat)(ks:List NK)(rl:List D)(g:au):au:=st++[lq st.length f,.dic (dj f ks),.lst rl]++g
def W.len(st:au)(f:Nat)(ks:List NK)(rl:List D)(g:au):(W st f ks rl g).length=st.length+3+g.length:=by simp[W];omega
def W.num(h:M.wf st)(hu:∀n,aR n rl)(hg:∀o∈g,∀n,aU n o):Num (W st f ks rl g) st.length (st.length+1) f ks:=by
 refine⟨by unfold W;rw[gG,gw (gf _)];simp[lq],by unfold W;rw[gG,gw (by omega)];simp,by omega,?_⟩;intro o ho;rw[W.len];unfold W at ho;rcases gm.mp ho with ho | ho
 ·rcases gm.mp ho with ho | ho
  ·exact zi6 (by omega) o (h o ho)
  ·simp only[gj,g_,afm]at ho;rcases ho with rfl | rfl | rfl
   ·intro p hp;simp only[gj,g_,afm]at hp;rcases hp with rfl | rfl
    ·simp
    ·simp;omega
   ·exact Zw _ _ _
   ·exact hu _
 ·exact hg o ho _
def W.SS:Law.SS (W st f ks rl g) (st.length+1) f ks' rs=W st f ks' rl (g++[.lst rs]):=by
 unfold Law.SS W;rw[gG st,kZ _ _ (by omega)];simp
def W.old{st:au}{f:Nat}{ks:List NK}{rl:List D}{g:au}{n:Nat}{o:MO}(h:st[n]? = some o):(W st f ks rl g)[n]? = some o:=by
 unfold W;exact fZ (fZ h)
def W.ext(hl:rl.length+rs.length<=1000000):eG (.loc (st.length+2)) [.loc (st.length+3+g.length)] (W st f ks rl (g++[.lst rs]))=.ok .non (W st f ks (rl++rs) (g++[.lst rs])):=by
 have h1:(W st f ks rl (g++[.lst rs]))[st.length+2]? = some (.lst rl):=by
  unfold W;rw[gG,gw (by omega)];simp
 have h2:(W st f ks rl (g++[.lst rs]))[st.length+3+g.length]? = some (.lst rs):=by
  unfold W;rw[gw (by simp)];simp
 unfold eG;simp only[h1,h2];rw[ae9 hl];unfold W;rw[gG st,kZ _ _ (by omega)];simp
def W.ty:dM "list" (.loc (st.length+2)) (W st f ks rl g)=true:=by
 have h1:(W st f ks rl g)[st.length+2]? = some (.lst rl):=by
  unfold W;rw[gG,gw (by omega)];simp
 simp[dM,h1]
def fG(many:Nat):Nat->List Rw->List SR
 | _,[]=>[]
 | p,r::rs=>fj many p r++fG many (p+1) rs
theorem zj4(many:Nat):∀(rs:List Rw) (p:Nat) (r:Rw),fG many p (rs++[r])=fG many p rs++fj many (p+rs.length) r
 | [],p,r=>by simp[fG]
 | x::xs,p,r=>by
  rw[kJ,fG,zj4 many xs (p+1) r,fG,gG];congr 3;simp;omega
def Iz(many p:Nat)(r:Rw):(fj many p r).length<=2*r.c+3:=by
 unfold fj;rw[gh,zl4];split<;>simp
theorem zo6:∀{rs:List Rw} {p i:Nat} {r:Rw},rs[i]? = some r->∀q∈fj many (p+i) r,q∈fG many p rs
 | [],p,i,r,h,_,_=>by simp at h
 | x::xs,p,0,r,h,q,hq=>by
  have:x=r:=by simpa using h
  subst this;rw[fG];exact gW _ hq
 | x::xs,p,i+1,r,h,q,hq=>by
  rw[fG];refine kE _ (zo6 (p:=p+1) (i:=i) (by simpa using h) q ?_);rw[show p+1+i=p+(i+1) by omega];exact hq
theorem zmq:∀{rs:List Rw} {p:Nat},q∈fG many p rs->∃i r,rs[i]? = some r/\q∈fj many (p+i) r
 | [],p,h=>nomatch h
 | x::xs,p,h=>by
  rw[fG]at h;rcases gm.mp h with h | h
  ·exact⟨0,x,rfl,h⟩
  ·obtain⟨i,r,h1,h2⟩:=zmq h;exact⟨i+1,r,h1,by rw[show p+(i+1)=p+1+i by omega];exact h2⟩
theorem Dj:∀{n c i:Nat},i<n->∀q∈zA many t (c+i),q∈fV many t c n
 | 0,c,i,h,_,_=>absurd h (by omega)
 | n+1,c,0,h,q,hq=>by rw[fV];exact gW _ hq
 | n+1,c,i+1,h,q,hq=>by
  rw[fV];refine kE _ (Dj (c:=c+1) (i:=i) (by omega) q ?_);rw[show c+1+i=c+(i+1) by omega];exact hq
theorem zo1:∀{n c:Nat},q∈fV many t c n->∃c',q∈zA many t c'
 | 0,c,h=>nomatch h
 | n+1,c,h=>by
  rw[fV]at h;rcases gm.mp h with h | h
  ·exact⟨c,h⟩
  ·exact zo1 h
structure All(many:Nat)(rows:List Rw)(ks:List NK)(ALL:List SR):Prop where
 good:∀q∈ALL,M.good many rows q
 R5:∀q∈ALL,inR ks q
 row:∀p r,rows[p]? = some r->∀q∈fj many p r,q∈ALL
 ent:∀r∈rows,∀c,r.c<=c->c<many->∀q∈zA many r.t c,q∈ALL
 enf:∀r∈rows,¬ r.up=true->∀c,r.c+1<=c->c<many->∀q∈zA many r.f c,q∈ALL
def take_snoc{rows:List Rw}{i:Nat}{r:Rw}(h:rows[i]? = some r):rows.take (i+1)=rows.take i++[r]:=by rw[mz,h];rfl
end Law
set_option maxHeartbeats 0
namespace Law
open L2 M NK NS
def Kh(t:Int):o8 (.inl t)=.int t:=rfl
def zlq(rows:List Rw)(many n:Nat)(st:au)(yu:M.wf st)(yW:st[n]? = some (.lst (rows.map aJ)))(hm:many<=6)(hr:∀r∈rows,r.c+1<=many)(hl:rows.length<=100) :
  ∃ks ALL,All many rows ks ALL/\ALL.length<=40*rows.length/\zd0 [.loc n,.int many] st=.ok (.loc st.length) (st++[.lst (ALL.map (bA (rows.length+1) ks))]):=by
 have hg:o7 st n=some (rows.map aJ,.lst (rows.map aJ)):=by unfold o7;rw[yW]
 generalize hf:rows.length+1=f;unfold zd0 jP eF zc9

 obtain⟨cA,st1,e1,bJ,g1,a4,a5,Dd,yx,zR,uK,hg1,rfl,rfl⟩:=yO (g:=oF 2 (bQ (aK 4) (bQ (aK 5) o4))) (b:=cF (bM "list" eG (vr 3) (aj (aW zb8 [] (aj (vr 2) (aj (vr 4) (aj (vr 5) (aj (vr 1) az))))) az))) (gs:=[(n,.lst (rows.map aJ))]) (items:=eZ 0 (rows.map aJ))
  (λi env s=>∃(ks:List NK) (g:au) (a4 a5:Option D),ks.Nodup/\ks.length<=i*110/\(fG many 0 (rows.take i)).length<=i*13/\(∀q∈fG many 0 (rows.take i),inR ks q)/\(∀o∈g,∀n,aU n o) /\
   env=[some (.loc n),some (.int many),some (.loc st.length),some (.loc (st.length+2)),a4,a5,none,none]/\s=W st f ks ((fG many 0 (rows.take i)).map (bA f ks)) g)
  (env:=[some (.loc n),some (.int many),some (.loc st.length),some (.loc (st.length+2)),none,none,none,none]) (st:=W st f [] [] [])
  ⟨[],[],none,none,by simp,by simp,by simp[fG],by simp[fG],by simp,rfl,by simp[fG]⟩ (by
   rintro i d env s hi ⟨ks,g,a4,a5,hn,hk,hL,wQ,hgu,rfl,rfl⟩;obtain⟨x,hx,rfl⟩:=Li hi;rw[gH]at hx;obtain⟨r,uw,rfl⟩:=gO.mp hx;have sy:=gM uw;have Df:=(gk.mp uw).1;have hrc:=hr r sy;generalize qF:(fG many 0 (rows.take i)).map (bA f ks)=rl;have yw:rl.length<=i*13:=by rw[<-qF,gq];exact hL
   have hu:∀n,aR n rl:=λn=>by rw[<-qF];exact Mw _ _ _ _
   have hN:=W.num (f:=f) (ks:=ks) yu hu hgu;obtain⟨ks',l,h1,h2,h3,h4,h5⟩:=zii hN hn i many r (by omega) (by omega);rw[W.SS,W.len]at h5;have acA:=Iz many i r;have Wt:=W.ext (st:=st) (f:=f) (ks:=ks') (rl:=rl) (rs:=(fj many i r).map (bA f ks')) (g:=g) (by rw[gq];omega);have e2:fG many 0 (rows.take (i+1))=fG many 0 (rows.take i)++fj many i r:=by
    rw[take_snoc uw,zj4];congr 2;rw[m6];omega
   have e3:rl++(fj many i r).map (bA f ks')=(fG many 0 (rows.take (i+1))).map (bA f ks'):=by
    rw[e2,gZ,<-qF,h1,zd9 l wQ]
   have ty:=W.ty (st:=st) (f:=f) (ks:=ks') (rl:=rl) (g:=g++[.lst ((fj many i r).map (bA f ks'))]);have HJ:=W.ty (st:=st) (f:=f) (ks:=ks) (rl:=rl) (g:=g);refine⟨by simp[W.old yW],[some (.loc n),some (.int many),some (.loc st.length),some (.loc (st.length+2)),some (.int i),some (aJ r),none,none],W st f ks rl g,by generalize W st f ks rl g=Z;generalize aJ r=ER;simp,[some (.loc n),some (.int many),some (.loc st.length),some (.loc (st.length+2)),some (.int i),some (aJ r),none,none],W st f ks' (rl++(fj many i r).map (bA f ks')) (g++[.lst ((fj many i r).map (bA f ks'))]),.inl ?_,ks',g++[.lst ((fj many i r).map (bA f ks'))],_,_,h2,by omega,by rw[e2,gh];omega,?_,?_,rfl,by rw[e3]⟩
   ·generalize W st f ks' (rl++(fj many i r).map (bA f ks')) (g++[.lst ((fj many i r).map (bA f ks'))])=Z9 at *;generalize W st f ks' rl (g++[.lst ((fj many i r).map (bA f ks'))])=Z8 at *;generalize W st f ks rl g=Z7 at *;generalize aJ r=ER at *;simp[h5,Wt,ty,HJ]
   ·intro q hq;rw[e2]at hq;rcases gm.mp hq with hq | hq
    ·rw[h1];exact X7 _ (wQ q hq)
    ·exact h4 q hq
   ·intro o ho;rcases gm.mp ho with ho | ho
    ·exact hgu o ho
    ·have:o=_:=gQ.mp ho;subst this;exact λn=>Mw _ _ _ _) (λ_ _ zz=>by obtain⟨_,_,_,_,_,_,_,_,_,_,e⟩:=zz;rw[e];simp[W.old yW])
 rw[ZW,gq]at yx zR uK e1;rw[m9]at zR uK e1;generalize hR1:fG many 0 rows=R1 at *;generalize qF:R1.map (bA f bJ)=rl at *;have M5:∀n,aR n rl:=λn=>by rw[<-qF];exact Mw _ _ _ _
 have yw:rl.length<=rows.length*13:=by rw[<-qF,gq];exact zR

 obtain⟨kvs,hF,hT,fc⟩:=zg8 rows many n (W st f bJ rl g1) (by unfold aq;rw[W.old yW]) (λ_ _=>trivial) hr (by omega) (by unfold o7;rw[W.old yW]);rw[W.len,show W st f bJ rl g1++[MO.dkc kvs]=W st f bJ rl (g1++[.dkc kvs]) by simp[W]]at fc;have hdk:(W st f bJ rl (g1++[.dkc kvs]))[st.length+3+g1.length]? = some (.dkc kvs):=by
  unfold W;rw[gw (by simp)];simp
 have vq:(W st f bJ rl (g1++[.dkc kvs])).set (st.length+3+g1.length) (.dkf kvs)=W st f bJ rl (g1++[.dkf kvs]):=by
  unfold W;rw[kZ _ _ (by simp)];simp
 have adk:∀o∈g1++[MO.dkf kvs],∀n,aU n o:=by
  intro o ho;rcases gm.mp ho with ho | ho
  ·exact hg1 o ho
  ·have:o=_:=gQ.mp ho;subst this;intro n p hp;obtain⟨t,v,e,_⟩:=hF.ent p hp;rw[e];simp

 obtain⟨bF,st2,e2,cQ,E2,g2,a7,WW,KZ,Xe,ady,aby,adC,hg2,rfl,rfl⟩:=yO (g:=aK 7) (b:=cF (bM "list" eG (vr 3) (aj (aW zb5 [] (aj (vr 2) (aj (vr 7) (aj (aM Wk (vr 6) (vr 7)) (aj (vr 1) az))))) az))) (gs:=[]) (items:=kvs.map (λp=>o8 p.1))
  (λi env s=>∃(ks:List NK) (E:List SR) (g:au) (a7:Option D),ks.Nodup/\ks.length<=bJ.length+i*210/\E.length<=i*13/\(∀q∈R1++E,inR ks q) /\
   (∀j t v:Nat,j<i->kvs[j]?.map Prod.fst=some (.inl (t:Nat))->valN kvs (.inl (t:Nat))=some (.int v)->∀c,v<=c->c<many->∀q∈zA many t c,q∈E)/\(∀q∈E,M.good many rows q)/\(∀o∈g,∀n,aU n o) /\
   env=[some (.loc n),some (.int many),some (.loc st.length),some (.loc (st.length+2)),a4,a5,some (.loc (st.length+3+g1.length)),a7]/\s=W st f ks ((R1++E).map (bA f ks)) (g1++[.dkf kvs]++g))
  (env:=[some (.loc n),some (.int many),some (.loc st.length),some (.loc (st.length+2)),a4,a5,some (.loc (st.length+3+g1.length)),none]) (st:=W st f bJ rl (g1++[.dkf kvs]))
  ⟨bJ,[],[],none,Dd,by omega,by simp,by simpa using uK,λj t v h=>absurd h (by omega),by simp,by simp,rfl,by simp[qF]⟩ (by
   rintro i d env s hi ⟨ks,E,g,a7,hn,hk,hL,wQ,hen,hgd,hgu,rfl,rfl⟩;rw[gH]at hi;obtain⟨p,bf,rfl⟩:=gO.mp hi;have sy:=gM bf;have Df:=(gk.mp bf).1;have hkl:=hF.len;obtain⟨t,v0,rfl,hv0⟩:=hF.ent p sy;obtain⟨d,hd⟩:=JZ sy;obtain⟨t',v,ed,hv⟩:=hF.ent _ (zk8 hd);obtain⟨_,rfl⟩:=afl ed;simp only at hd;generalize Wx:(R1++E).map (bA f ks)=BV;have yw:BV.length<=rows.length*13+i*13:=by rw[<-Wx,gq,gh];omega
   have hu:∀n,aR n BV:=λn=>by rw[<-Wx];exact Mw _ _ _ _
   have adz:∀o∈g1++[MO.dkf kvs]++g,∀n,aU n o:=by
    intro o ho;rcases gm.mp ho with ho | ho
    ·exact adk o ho
    ·exact hgu o ho
   have hN:=W.num (f:=f) (ks:=ks) yu hu adz;obtain⟨ks',l,h1,h2,h3,h4,h5⟩:=zih hN hn t v many (by omega) (by omega) (by omega);rw[W.SS,W.len]at h5;have acA:=zk3 many t (many - v) v;have W5:Wk (.loc (st.length+3+g1.length)) (.int t) (W st f ks BV (g1++[.dkf kvs]++g))=.ok (.int v) (W st f ks BV (g1++[.dkf kvs]++g)):=Oo (by
    unfold W;rw[gw (by simp)];simp) (ZZ _) hd
   have Wt:=W.ext (st:=st) (f:=f) (ks:=ks') (rl:=BV) (rs:=(fV many t v (many - v)).map (bA f ks')) (g:=g1++[.dkf kvs]++g) (by rw[gq];omega);have e3:BV++(fV many t v (many - v)).map (bA f ks')=(R1++(E++fV many t v (many - v))).map (bA f ks'):=by
    rw[<-gG,gZ,<-Wx,h1,zd9 l wQ]
   have ty:=W.ty (st:=st) (f:=f) (ks:=ks') (rl:=BV) (g:=g1++[.dkf kvs]++g++[.lst ((fV many t v (many - v)).map (bA f ks'))]);have HJ:=W.ty (st:=st) (f:=f) (ks:=ks) (rl:=BV) (g:=g1++[.dkf kvs]++g);rw[Kh];refine⟨by simp,[some (.loc n),some (.int many),some (.loc st.length),some (.loc (st.length+2)),a4,a5,some (.loc (st.length+3+g1.length)),some (.int t)],W st f ks BV (g1++[.dkf kvs]++g),by generalize W st f ks BV _=Z;simp,[some (.loc n),some (.int many),some (.loc st.length),some (.loc (st.length+2)),a4,a5,some (.loc (st.length+3+g1.length)),some (.int t)],W st f ks' (BV++(fV many t v (many - v)).map (bA f ks')) (g1++[.dkf kvs]++g++[.lst ((fV many t v (many - v)).map (bA f ks'))]),.inl ?_,ks',E++fV many t v (many - v),g++[.lst ((fV many t v (many - v)).map (bA f ks'))],_,h2,by omega,by rw[gh];omega,?_,?_,?_,?_,rfl,by rw[e3];simp⟩
   ·generalize W st f ks' (BV++(fV many t v (many - v)).map (bA f ks')) _=Z9 at *;generalize W st f ks' BV _=Z8 at *;generalize W st f ks BV _=Z7 at *;generalize st.length+3+(g1++[MO.dkf kvs]++g).length=X at *;generalize st.length+3+g1.length=Y at *;simp[h5,Wt,ty,HJ,W5]
   ·intro q hq;rw[<-gG]at hq;rcases gm.mp hq with hq | hq
    ·rw[h1];exact X7 _ (wQ q hq)
    ·exact h4 q hq
   ·intro j t2 v2 hj KZ xP c hc1 Ho q hq;by_cases hji:j<i
    ·exact gW _ (hen j t2 v2 hji KZ xP c hc1 Ho q hq)
    ·have:j=i:=by omega
     subst this;rw[bf]at KZ;have et:(t:Int)=(t2:Nat):=by
      have:=afa KZ;exact Sum.inl.inj this
     have et:t=t2:=by omega
     subst et;rw[hd]at xP;have ev:(v:Int)=(v2:Nat):=by cases xP;rfl
     have ev:v=v2:=by omega
     subst ev;refine kE _ (Dj (i:=c - v) (by omega) q ?_);rw[show v+(c - v)=c by omega];exact hq
   ·intro q hq;rcases gm.mp hq with hq | hq
    ·exact hgd q hq
    ·obtain⟨c',W_⟩:=zo1 hq;exact Lk q W_
   ·intro o ho;rcases gm.mp ho with ho | ho
    ·exact hgu o ho
    ·have:o=_:=gQ.mp ho;subst this;exact λn=>Mw _ _ _ _) (λ_ _ _=>by simp)
 rw[gq]at KZ Xe aby;have hkl:=hF.len;have told:∀(t v c:Nat),valN kvs (.inl (t:Nat))=some (.int v)->v<=c->c<many->∀q∈zA many t c,q∈R1++E2:=by
  intro t v c h1 h2 h3 q hq;obtain⟨j,hj⟩:=nM (zk8 h1);exact kE _ (aby j t v (gk.mp hj).1 (by rw[hj];rfl) h1 c h2 h3 q hq)
 refine⟨cQ,R1++E2,⟨?_,ady,?_,?_,?_⟩,by rw[gh];omega,?_⟩
 ·intro q hq;rcases gm.mp hq with hq | hq
  ·rw[<-hR1]at hq;obtain⟨i,r,h1,h2⟩:=zmq hq;rw[mJ]at h2;exact Ex h1 q h2
  ·exact adC q hq
 ·intro p r h q hq;refine gW _ ?_;rw[<-hR1];exact zo6 (p:=0) h q (by rw[mJ];exact hq)
 ·intro r h c h1 h2 q hq;obtain⟨⟨v,h3,h4⟩,_⟩:=hT r h;exact told r.t v c h3 (by omega) h2 q hq
 ·intro r h cu c h1 h2 q hq;obtain⟨_,h5⟩:=hT r h;obtain⟨v,h3,h4⟩:=h5 cu;exact told r.f v c h3 (by omega) h2 q hq
 ·have hlen:=J8 hg;rw[gq]at hlen;have ef:(rows.length:Int)+1=(f:Int):=by omega
  have wQ:=zl2 st f;have gcx:=X4 (st:=st) (g:=[lq st.length f,.dic (dj f cQ)]) (g':=g1++[.dkf kvs]++g2) (o:=.lst ((R1++E2).map (bA f cQ))) (Mw _ _ _ _);have eW:st++[lq st.length f,.dic (dj f cQ)]++MO.lst ((R1++E2).map (bA f cQ))::(g1++[.dkf kvs]++g2)=W st f cQ ((R1++E2).map (bA f cQ)) (g1++[.dkf kvs]++g2):=by simp[W]
  rw[eW]at gcx;have eW0:st++[lq st.length f,.dic []]++[.lst []]=W st f [] [] []:=by simp[W,dj]
  have Qu:(st++[lq st.length f,.dic []]).length=st.length+2:=by simp
  have hg0:o7 (W st f [] [] []) n=some (rows.map aJ,.lst (rows.map aJ)):=by unfold o7;rw[W.old yW]
  have zQ:=BZ (m:=vr 6) (env:=[some (.loc n),some (.int many),some (.loc st.length),some (.loc (st.length+2)),a4,a5,some (.loc (st.length+3+g1.length)),none]) (st:=W st f bJ rl (g1++[.dkc kvs])) rfl hdk;rw[vq]at zQ;have WY:qz "Numbers" Nt (aj (aM bH (bL cO (aj (vr 0) az)) (ct (.int 1))) az) [some (.loc n),some (.int many),none,none,none,none,none,none] st=.ok (.loc st.length) (st++[lq st.length f,.dic []]):=by
   unfold qz;have a1:(aj (aM bH (bL cO (aj (vr 0) az)) (ct (.int 1))) az:MA) [some (.loc n),some (.int many),none,none,none,none,none,none] st=.ok [.int f] st:=by simp[hlen,ef]
   rw[a1,R.aD,wQ]
   rfl
  generalize hMK:qz "Numbers" Nt _=MK at *;rw[show startM 8 [D.loc n,.int many]=[some (.loc n),some (.int many),none,none,none,none,none,none] from rfl];generalize (R1++E2).map (bA f cQ)=RL at *;generalize W st f cQ RL _=Z9 at *;generalize W st f bJ rl (g1++[.dkf kvs])=Z8 at *;generalize W st f bJ rl (g1++[.dkc kvs])=Z7 at *;generalize W st f bJ rl g1=Z6 at *;generalize W st f [] [] []=Z5 at *;generalize kvs.map (λp=>o8 p.1)=IT at *;generalize st++[lq st.length f,.dic []]=Z4 at *;generalize st.length+3+g1.length=Y at *;generalize rows.map aJ=RW at *;generalize hD:Xp (vr 6)=DK at *;simp[WY,eW0,Qu,hg0,e1,fc,zQ,e2];exact gcx
def Q(many:Nat)(rows:List Rw)(ALL:List SR):NS->Prop
 | pl _=>True
 | nk (ah p k)=>∃r,rows[p]? = some r/\k<r.c
 | nk (ask p)=>∃r,rows[p]? = some r/\¬ r.up=true
 | nk (en t c)=>c<many/\∀c',c<=c'->c'<many->∀q∈zA many t c',q∈ALL
def Bb(h:k<n):⟨vD p k,qU k,[qU k],nk (ah p k)⟩∈xq p n/\⟨nk (ah p k),105,[105],nk (ah p k)⟩∈xq p n:=by
 induction n with
 | zero=>omega
 | succ n ih =>
  rw[xq];by_cases e:k=n
  ·subst e;exact⟨kE _ (by simp[vD,qU]),kE _ (by simp)⟩
  ·have:=ih (by omega);exact⟨gW _ this.1,gW _ this.2⟩
def Dv(hc:c<=many)(h:∀c',c<=c'->c'<many->∀q∈zA many t c',q∈ALL):Q many rows ALL (cL many t c):=by
 unfold cL;by_cases e:c=many
 ·rw[ae9 e];trivial
 ·rw[ae_ e];exact⟨by omega,h⟩
def XR(A:All many rows ks ALL)(hr:∀r∈rows,r.c+1<=many)(hQ:Q many rows ALL s)(h:dl many rows s x=some (w,g)):⟨s,x,w,g⟩∈ALL/\Q many rows ALL g:=by
 have turn:∀p r,rows[p]? = some r->∀w g,dN many p r (qU r.c)=(w,g)->⟨vD p r.c,qU r.c,w,g⟩∈ALL/\Q many rows ALL g:=by
  intro p r hp w g e;have hm:=gM hp;have hc:=hr r hm;unfold dN at e;by_cases cu:r.up=true
  ·rw[ae9 cu]at e;obtain⟨rfl,rfl⟩:=afl e;exact⟨A.row p r hp _ (by unfold fj;rw[ae9 cu];simp),Dv (by omega) λc' h1 h2=>A.ent r hm c' h1 h2⟩
  ·rw[ae_ cu]at e;obtain⟨rfl,rfl⟩:=afl e;exact⟨A.row p r hp _ (by unfold fj;rw[ae_ cu];simp),r,hp,cu⟩
 unfold dl at h
 split at h
 ·rename_i p;obtain⟨r,hp,e⟩:=gO.mp h;by_cases c0:r.c=0
  ·rw[ae9 c0]at e;have:=turn p r hp w g (by rw[<-e];simp[qU,c0]);simpa[vD,qU,c0] using this
  ·rw[ae_ c0]at e;obtain⟨rfl,rfl⟩:=afl e;refine⟨A.row p r hp _ ?_,r,hp,by omega⟩;have:=(Bb (p:=p) (k:=0) (n:=r.c) (by omega)).1;unfold fj;exact gW _ this
 ·rename_i p k;obtain⟨rfl,rfl⟩:=afl (afa h);obtain⟨r,hp,hk⟩:=hQ;refine⟨A.row p r hp _ ?_,r,hp,hk⟩;unfold fj;exact gW _ (Bb hk).2
 ·rename_i p k;obtain⟨r',WK,hk⟩:=hQ;obtain⟨r,hp,e⟩:=gO.mp h;have er:r=r':=afa (hp.symm.trans WK);subst er;by_cases c0:k+1=r.c
  ·rw[ae9 c0]at e;have:=turn p r hp w g (by rw[<-e];simp[qU,<-c0]);have e1:vD p r.c=nk (ah p k):=by unfold vD;rw[ae_ (by omega),<-c0];rfl
   have e2:qU r.c=101:=by unfold qU;rw[ae_ (by omega)]
   rwa[e1,e2]at this
  ·rw[ae_ c0]at e;obtain⟨rfl,rfl⟩:=afl e;refine⟨A.row p r hp _ ?_,r,hp,by omega⟩;have:=(Bb (p:=p) (k:=k+1) (n:=r.c) (by omega)).1;simp only[vD,qU,Nat.add_one_ne_zero,afF,Nat.add_sub_cancel]at this;unfold fj;exact gW _ this
 ·rename_i p;obtain⟨r',WK,hu⟩:=hQ;obtain⟨r,hp,e⟩:=gO.mp h;have er:r=r':=afa (hp.symm.trans WK);subst er;have hm:=gM hp;have hc:=hr r hm;obtain⟨rfl,rfl⟩:=afl e;exact⟨A.row p r hp _ (by unfold fj;rw[ae_ hu];simp),Dv (by omega) λc' h1 h2=>A.ent r hm c' h1 h2⟩
 ·rename_i p;obtain⟨r',WK,hu⟩:=hQ;obtain⟨r,hp,e⟩:=gO.mp h;have er:r=r':=afa (hp.symm.trans WK);subst er;have hm:=gM hp;have hc:=hr r hm;obtain⟨rfl,rfl⟩:=afl e;exact⟨A.row p r hp _ (by unfold fj;rw[ae_ hu];simp),Dv (by omega) λc' h1 h2=>A.enf r hm hu c' h1 h2⟩
 ·rename_i t c;obtain⟨rfl,rfl⟩:=afl (afa h);obtain⟨h1,h2⟩:=hQ;exact⟨h2 c (gf _) h1 _ (by simp[zA]),h1,h2⟩
 ·rename_i t c;obtain⟨rfl,rfl⟩:=afl (afa h);obtain⟨h1,h2⟩:=hQ;exact⟨h2 c (gf _) h1 _ (by simp[zA]),Dv (by omega) λc' h3 h4=>h2 c' (by omega) h4⟩
 ·cases h
def Ii(h:dl many rows s x=some y):∀n,s=pl n->n<rows.length+1:=by
 rintro n rfl;unfold dl at h
 split at h
 ·rename_i p e;obtain⟨r,hp,_⟩:=gO.mp h;have:=(gk.mp hp).1;cases e;omega
 all_goals simp_all
end Law
set_option maxHeartbeats 0
namespace Law
open L2 M
def t8(cs:List Nat):List Nat:=(cs.map λc=>List.replicate c 105++[101]).flatten
def zl1(c:Nat)(cs:List Nat):t8 (c::cs)=List.replicate c 105++101::t8 cs:=by simp[t8]
def zli(cs:List Nat):(t8 cs).length=cs.sum+cs.length:=by
 induction cs with
 | nil=>rfl
 | cons c cs ih=>rw[zl1];simp[ih];omega
def aC(cs:List Nat):List D:=cs.map λc=>D.int (c:Nat)
def zp7(k:Nat)(t:List Nat):b_ 101 (List.replicate k 105++101::t)=List.replicate k 105::b_ 101 t:=by
 induction k with
 | zero=>simp[b_]
 | succ k ih =>
  rw[mH,kJ,b_,ae_ (by decide),ih]
def zpo(cs:List Nat):b_ 101 (t8 cs)=cs.map (λc=>List.replicate c 105)++[[]]:=by
 induction cs with
 | nil=>rfl
 | cons c cs ih=>rw[zl1,zp7,ih];rfl
def eQ(t:List Nat):List Nat:=(b_ 101 t).dropLast.map List.length
def EY(cs:List Nat):eQ (t8 cs)=cs:=by
 unfold eQ;rw[zpo,List.dropLast_concat,gY];have:List.length∘(λc=>List.replicate c 105)=id:=by funext c;simp
 rw[this,List.map_id]
def zjr(c:Nat)(t:List Nat):((b_ c t).map List.length).sum+(b_ c t).length=t.length+1:=by
 induction t with
 | nil=>rfl
 | cons x xs ih =>
  rw[b_]
  split
  ·simp;omega
  ·cases e:b_ c xs with
   | nil=>exact absurd e (zf7 c xs)
   | cons t ts=>rw[e]at ih;simp at ih ⊢;omega
def zlo(l:List (List Nat)):(l.dropLast.map List.length).sum<=(l.map List.length).sum:=by
 induction l with
 | nil=>simp
 | cons a l ih =>
  cases l with
  | nil=>simp
  | cons b l=>simp at ih ⊢;omega
def Ez(t:List Nat):(eQ t).sum+(eQ t).length<=t.length:=by
 unfold eQ;have h1:=zjr 101 t;have h2:=zlo (b_ 101 t);have h3:0<(b_ 101 t).length:=pL.mpr (zf7 101 t);rw[gq,List.length_dropLast];omega
def zj0(l:List Nat):∀c∈l,c<=l.sum:=by
 induction l with
 | nil=>simp
 | cons a l ih =>
  intro c hc;rcases gj.mp hc with rfl | hc
  ·simp
  ·have:=ih c hc;simp;omega
def IW(c x:Nat):(List.replicate c [x]).flatten=List.replicate c x:=by
 induction c with
 | zero=>rfl
 | succ c ih=>rw[mH,mH,pB,ih];rfl
def CW(p:Int)(cs:List Nat)(st:au)(h:cs.sum+cs.length<=10000):Yn [.tup [.int p,.tup (aC cs)]] st=.ok (.tup [.int p,.str (98::t8 cs)]) st:=by
 have hm:=zj0 cs;have cc:=Yc (capt:=[none]) (mi:=rR (aM bz (vr 0) (ct (.int 1)))) (g:=aK 0) (e:=aM bH (aM qX (ct (.str [105])) (vr 0)) (ct (.str [101])))
  (env:=[some (.tup [.int p,.tup (aC cs)])]) (st:=st) (st1:=st) (items:=aC cs) (gs:=[]) (λd=>match d with | .int i=>.str (List.replicate i.toNat 105++[101]) | _=>.non) (λenv=>∃a,env=[a])
  (by simp[qb st 1 [.int p,.tup (aC cs)] (.tup (aC cs)) rfl]) ⟨none,rfl⟩ (by simp[aC];omega) (λys=>by simp) (by
   rintro d hd dG ys ⟨a,rfl⟩;obtain⟨c,hc,rfl⟩:=g8.mp hd;have hc:=hm c hc;refine⟨[some (.int c)],⟨_,rfl⟩,by simp,?_⟩;have e:=IW c 105;have q1:qX (.str [105]) (.int c) (st++[.lst ys])=.ok (.str (List.replicate c 105)) (st++[.lst ys]):=by
    unfold qX;dsimp only;rw[ae9 (by simp;omega),mF,e]
   have q2:bH (.str (List.replicate c 105)) (.str [101]) (st++[.lst ys])=.ok (.str (List.replicate c 105++[101])) (st++[.lst ys]):=Rf _ _ _ (by simp;omega);simp[q1,q2])
 have ei:(aC cs).map (λd=>match d with | .int i=>D.str (List.replicate i.toNat 105++[101]) | _=>.non)=(cs.map λc=>List.replicate c 105++[101]).map D.str:=by
  unfold aC;rw[gY,gY];apply mV;intro c _;simp
 rw[ei]at cc;have Gh:((cs.map λc=>List.replicate c 105++[101]).map List.length).sum=cs.sum+cs.length:=by
  rw[<-zli,t8,List.length_flatten]
 have jj:xN (.str []) [.loc st.length] (st++[.lst ((cs.map λc=>List.replicate c 105++[101]).map D.str)])=.ok (.str (t8 cs)) (st++[.lst ((cs.map λc=>List.replicate c 105++[101]).map D.str)]):=by
  rw[Va _ [] st.length (cs.map λc=>List.replicate c 105++[101]) (by simp) (by rw[Gh];simp;omega),FZ];rfl
 have aa:∀s,bH (.str [98]) (.str (t8 cs)) s=.ok (.str (98::t8 cs)) s:=λs=>Rf s _ _ (by rw[zli];simp;omega);have i0:∀s1,bz (.tup [.int p,.tup (aC cs)]) (.int 0) s1=.ok (.int p) s1:=λs1=>qb s1 0 _ _ rfl;unfold Yn jP eF Yp;generalize (cs.map λc=>List.replicate c 105++[101]).map D.str=L at cc jj;generalize aC cs=I at cc i0;rw[show startM 1 [D.tup [.int p,.tup I]]=[some (.tup [.int p,.tup I])] from rfl];simp[i0,cc,dM,jj,aa];exact Hv (by simp)
def Lr(cs:List Nat):deps (aC cs)=0:=by
 induction cs with
 | nil=>simp[aC]
 | cons c cs ih=>simp[aC]at ih ⊢;exact ih
def Gs(cs:List Nat):dW (aC cs)=true:=by
 induction cs with
 | nil=>simp[aC]
 | cons c cs ih=>simp[aC]at ih ⊢;exact ih
def zkl(n:Nat)(cs:List Nat):aR n (aC cs):=by
 induction cs with
 | nil=>simp[aC]
 | cons c cs ih=>simp[aC]at ih ⊢;exact ih
def lW(size:Int)(many:Int)(p:Int)(row:List Nat):D :=
 if size<p\/((eQ row.tail).length:Int)≠many\/98::t8 (eQ row.tail)≠row then .non else .tup [.int p,.tup (aC (eQ row.tail))]
def zor(p:Int)(a b:List Nat)(st:au):z_ 200 (.tup [.int p,.str a]) (.tup [.int p,.str b]) st=.ok (.bl (decide (a≠b))) st:=by
 have e:uf (.tup [.int p,.str a]) (.tup [.int p,.str b])=decide (a=b):=by
  simp[uf,rC];rw[n6];simp
 unfold z_;have:qP 200 (.tup [.int p,.str a]) (.tup [.int p,.str b]) st=some (decide (a=b)):=by
  simp only[qP];rw[ae9 (by simp),e]
 rw[this];by_cases h:a=b<;>simp[h]
def HS(size many p:Int)(row:List Nat)(st:au)(h:row.length<=5000):zbz [.int size,.int many,.tup [.int p,.str row]] st=.ok (lW size many p row) st:=by
 have i0:∀s1,bz (.tup [.int p,.str row]) (.int 0) s1=.ok (.int p) s1:=λs1=>qb s1 0 _ _ rfl;have i1:∀s1,bz (.tup [.int p,.str row]) (.int 1) s1=.ok (.str row) s1:=λs1=>qb s1 1 _ _ rfl;have s1:∀s,vG (.str row) (some 1) none s=.ok (.str row.tail) s:=λs=>by
  rw[Hg s _ _ _ (by omega)];have:=M.ZS row 1;rw[List.drop_one]at this;exact congrArg (λz=>R.ok (D.str z) s) this
 have hs:=Ez row.tail;have htl:row.tail.length<=5000:=by simp;omega
 have s2:uB (.str row.tail) [.str [101]] st=.ok (.loc st.length) (st++[.lst ((b_ 101 row.tail).map D.str)]):=Oj st _ 101 (by omega);have M6:(b_ 101 row.tail).length<=5001:=by have:=zjr 101 row.tail;omega
 have hlen:∀t∈(b_ 101 row.tail).dropLast,t.length<=5000:=λt ht=>by
  have:=zj0 (eQ row.tail) t.length (g8.mpr ⟨t,ht,rfl⟩);omega
 generalize hA:((b_ 101 row.tail).map D.str)=A at s2;have s3:vG (.loc st.length) none (some (-1)) (st++[.lst A])=.ok (.loc (st.length+1)) (st++[.lst A,.lst A.dropLast]):=by
  simp[vG,zk2]
 have hB:A.dropLast=(b_ 101 row.tail).dropLast.map D.str:=by rw[<-hA,List.map_dropLast]
 have cc:=Yc (capt:=[none]) (mi:=rR (yd (vr 3) yS (xO (yj qd (ct (.int 1)))))) (g:=aK 0) (e:=bL cO (aj (vr 0) az))
  (env:=[some (.int size),some (.int many),some (.tup [.int p,.str row]),some (.loc st.length),none,none]) (st:=st++[.lst A]) (st1:=st++[.lst A,.lst A.dropLast]) (items:=A.dropLast) (gs:=[(st.length+1,.lst A.dropLast)])
  (λd=>match d with | .str t=>.int t.length | _=>.non) (λenv=>∃a,env=[a])
  (by simp[s3]) ⟨none,rfl⟩ (by rw[hB];simp;omega) (λys=>by simp) (by
   rintro d hd dG ys ⟨a,rfl⟩;rw[hB]at hd;obtain⟨t,ht,rfl⟩:=g8.mp hd;exact⟨[some (.str t)],⟨_,rfl⟩,by simp,by simp[show ∀s,cO [.str t] s=.ok (.int t.length) s from λs=>zi1 s t (by have:=hlen t ht;omega)]⟩)
 have e1:A.dropLast.map (λd=>match d with | .str t=>D.int t.length | _=>.non)=aC (eQ row.tail):=by
  rw[hB,aC,eQ,gY,gY];rfl
 rw[e1]at cc;have im:=λs=>CW p (eQ row.tail) s (by omega);have De:(aC (eQ row.tail)).length=(eQ row.tail).length:=by simp[aC]
 have t1:jQ [.loc (st.length+2)] (st++[.lst A,.lst A.dropLast,.lst (aC (eQ row.tail))])=.ok (.tup (aC (eQ row.tail))) (st++[.lst A,.lst A.dropLast,.lst (aC (eQ row.tail))]):=ze8 _ _ _ (by simp);have hu:=zkl st.length (eQ row.tail);unfold zbz jP eF zb1 lW;rw[show startM 6 [D.int size,D.int many,D.tup [.int p,.str row]]=[some (.int size),some (.int many),some (.tup [.int p,.str row]),none,none,none] from rfl];have nn:=zor p (98::t8 (eQ row.tail)) row;generalize hI:aC (eQ row.tail)=I at cc im t1 hu De;generalize hM:t8 (eQ row.tail)=G at im nn;have lt:∀s,cO [.tup I] s=.ok (.int I.length) s:=λs=>rfl;simp[dM,i0,i1,s1,s2,cc,nJ,t1,lt,De,im,nn];by_cases h1:size<p
 ·simp[h1];exact Hv (by simp)
 ·by_cases h2:((eQ row.tail).length:Int)=many
  ·by_cases h3:98::G=row
   ·simp[h1,h2,h3];exact Hv (by simp[hu])
   ·simp[h1,h2,h3];exact Hv (by simp)
  ·simp[h1,h2];exact Hv (by simp)
end Law
namespace Law
open L2 M NK NS
def Dn(ns:List Int)(n:Nat)(k:Nat)(st:au)(h:aq st n=some (ns.map D.int)):Rg [.loc n,.int k] st=.ok (.int (ns.getD k 0)) st:=by
 unfold Rg jP eF T9;by_cases hk:k<ns.length
 ·simp[startM,Nm h,hk,zM st n k _ (.int (ns.getD k 0)) h (by rw[Rb];simp[hk]),zL]
 ·simp[startM,Nm h,hk,zL]
def mixed(c k:Int):Int:=(c % 1000000007+7919*k+13)*(c % 1000000007+7919*k+13) % 998244353 / 3
def zll(c k:Int):0<=mixed c k:=by
 unfold mixed;have:=mD ((c % 1000000007+7919*k+13)*(c % 1000000007+7919*k+13)) (show (998244353:Int)≠0 by decide);omega
def T5(c k:Int)(st:au)(h0:0<=k)(h1:k<=1000000):yQ [.int c,.int k] st=.ok (.int (mixed c k)) st:=by
 have a1:=mD c (show (1000000007:Int)≠0 by decide);have a2:=mX c (show (0:Int)<1000000007 by decide);unfold yQ jP eF Hi mixed;simp[startM,yR,DQ,Nr st 7919 k (by omega),Nr st (c % 1000000007+7919*k+13) (c % 1000000007+7919*k+13) (by omega),zL]
abbrev upS:List Nat:=[117,112]
abbrev Td:List Nat:=[100,111,119,110]
inductive lM (many rows:Int):D->Prop where
 | up (c t:Int) (h1:0<=c) (h2:c<many) (h3:0<=t) (h4:t<=rows):lM many rows (.tup [.str upS,.int c,.int t])
 | down (c t o:Int) (h1:0<=c) (h2:c<many) (h3:0<=t) (h4:t<=rows) (h5:0<=o) (h6:o<=rows):lM many rows (.tup [.str Td,.int c,.int t,.int o])
def rowOf(a c t o:Int):D:=if a=0 then .tup [.str upS,.int c,.int t] else .tup [.str Td,.int c,.int t,.int o]
def IK(cell k many rows:Int):D :=
 if cell % 2=1 then rowOf (if 1<mixed cell (5*k) / 3 % 5 then 1 else 0) (mixed cell (5*k+1) % many) (if mixed cell (5*k) % 3=0 then (if rows<k+1 then rows else k+1) else mixed cell (5*k+2) % (rows+1)) (mixed cell (5*k+3) % (rows+1))
 else rowOf (cell / 2 % 2) (cell / 2 / 2 % many) (cell / 2 / 2 / many % (rows+1)) (cell / 2 / 2 / many / (rows+1) % (rows+1))
def Oh(cell k many rows:Int)(hm:0<many)(hr:0<=rows)(hk:0<=k):lM many rows (IK cell k many rows):=by
 have key:∀a c t o:Int,0<=c->c<many->0<=t->t<=rows->0<=o->o<=rows->lM many rows (rowOf a c t o):=λa c t o h1 h2 h3 h4 h5 h6=>by
  unfold rowOf
  split
  ·exact .up c t h1 h2 h3 h4
  ·exact .down c t o h1 h2 h3 h4 h5 h6
 have m1:∀x:Int,0<=x % many:=λx=>mD x (by omega);have m2:∀x:Int,x % many<many:=λx=>mX x hm;have p1:∀x:Int,0<=x % (rows+1):=λx=>mD x (by omega);have p2:∀x:Int,x % (rows+1)<=rows:=λx=>by have:=mX x (show 0<rows+1 by omega);omega
 unfold IK
 split
 ·refine key _ _ _ _ (m1 _) (m2 _) ?_ ?_ (p1 _) (p2 _)
  ·split
   ·split<;>omega
   ·exact p1 _
  ·split
   ·split<;>omega
   ·exact p2 _
 ·exact key _ _ _ _ (m1 _) (m2 _) (p1 _) (p2 _) (p1 _) (p2 _)
def Ew(cell k many rows:Int)(st:au)(hm:0<many)(ux:many<=100)(hr:0<=rows)(Dc:rows<=100)(hk:0<=k)(KZ:k<=1000) :
  ze4 [.int cell,.int k,.int many,.int rows] st=.ok (IK cell k many rows) st:=by
 have f1:∀s i,eV (.int i) (.int many) s=.ok (.int (i / many)) s:=λs i=>DQ s i many ⟨hm,by omega⟩;have f2:∀s i,eV (.int i) (.int (rows+1)) s=.ok (.int (i / (rows+1))) s:=λs i=>DQ s i (rows+1) ⟨by omega,by omega⟩;have g1:∀s i,eU (.int i) (.int many) s=.ok (.int (i % many)) s:=λs i=>yR s i many hm;have g2:∀s i,eU (.int i) (.int (rows+1)) s=.ok (.int (i % (rows+1))) s:=λs i=>yR s i (rows+1) (by omega);have m5:∀s,jR (.int 5) (.int k) s=.ok (.int (5*k)) s:=λs=>Nr s 5 k (by omega);have x0:∀s,yQ [.int cell,.int (5*k)] s=.ok (.int (mixed cell (5*k))) s:=λs=>T5 _ _ s (by omega) (by omega);have x1:∀s,yQ [.int cell,.int (5*k+1)] s=.ok (.int (mixed cell (5*k+1))) s:=λs=>T5 _ _ s (by omega) (by omega);have x2:∀s,yQ [.int cell,.int (5*k+2)] s=.ok (.int (mixed cell (5*k+2))) s:=λs=>T5 _ _ s (by omega) (by omega);have x3:∀s,yQ [.int cell,.int (5*k+3)] s=.ok (.int (mixed cell (5*k+3))) s:=λs=>T5 _ _ s (by omega) (by omega);unfold ze4 jP eF ze1 IK;by_cases hc:cell % 2=1
 ·by_cases hz:mixed cell (5*k) % 3=0<;>by_cases ha:1<mixed cell (5*k) / 3 % 5<;>simp[startM,yR,DQ,f1,f2,g1,g2,m5,x0,x1,x2,x3,hc,hz,ha,rowOf,bz,vL,uq,yU,bH,Hv,nJ]
 ·by_cases ha:cell / 2 % 2=0<;>simp[startM,yR,DQ,f1,f2,g1,g2,m5,hc,ha,rowOf,bz,vL,uq,yU,bH,Hv,nJ]
def rowAt(many rows:Int):D->D
 | .tup [.int k,.int c]=>IK c k many rows
 | _=>.non
def Ce(cells:List Int)(many:Int):List D:=(eZ 0 (cells.map D.int)).map (rowAt many cells.length)
def zmu(h:d∈eZ k ds):∃(i:Nat) (x:D),d=.tup [.int ((k+i:Nat):Int),x]/\ds[i]? = some x:=by
 obtain⟨i,hi,e⟩:=List.getElem_of_mem h;have:(eZ k ds)[i]? = some d:=by rw[kj hi,e]
 rw[ZV]at this;cases q:ds[i]? with
 | none=>rw[q]at this;cases this
 | some x=>rw[q]at this;cases this;exact⟨i,x,rfl,q⟩
def zpl(hm:0<many):∀d∈Ce cells many,lM many cells.length d:=by
 intro d hd;obtain⟨e,he,rfl⟩:=g8.mp hd;obtain⟨i,x,rfl,hx⟩:=zmu he;rw[gH]at hx;cases q:cells[i]? with
 | none=>rw[q]at hx;cases hx
 | some c =>
  rw[q]at hx;cases hx;exact Oh _ _ _ _ hm (by omega) (by omega)
def Fb(cells:List Int)(many:Int):(Ce cells many).length=cells.length:=by simp[Ce,ZW]
def lM.under(h:lM many rows d)(n:Nat):under n d:=by cases h<;>simp
def lM.flat(h:lM many rows d):flat d=true:=by cases h<;>simp
def lM.dep(h:lM many rows d):dep d=1:=by cases h<;>simp
def zn8(h:∀d∈ds,lM many rows d)(n:Nat):aR n ds:=by
 rw[Mu];exact λd hd=>(h d hd).under n
def zou(cells:List Int)(n:Nat)(many:Int)(st:au)(o:MO)(h:o7 st n=some (cells.map D.int,o))(hl:cells.length<=100)(hm:0<many)(ux:many<=100) :
  zed [.loc n,.int many] st=.ok (.loc st.length) (st++[.lst (Ce cells many)]):=by
 have hi:=zgm h;unfold zed jP eF zd5;have c:=Yc (capt:=[some 1,some 0,none,none]) (mi:=wg (aj (vr 0) az)) (g:=oF 2 (bQ (aK 2) (bQ (aK 3) o4)))
  (e:=aW ze4 [] (aj (vr 3) (aj (vr 2) (aj (vr 0) (aj (bL cO (aj (vr 1) az)) az))))) (env:=[some (.loc n),some (.int many)]) (st:=st) (st1:=st) (items:=eZ 0 (cells.map D.int)) (gs:=[(n,o)])
  (rowAt many cells.length) (λenv=>∃a b,env=[some (.int many),some (.loc n),a,b]) (by simp[h]) ⟨none,none,rfl⟩ (by rw[ZW];simp;omega)
  (λys=>by simp[fZ hi.2.1]) ?_
 ·simp only[startM,gB,mU,gC,n8,Nat.reduceAdd,Nat.reduceSub,List.replicate_zero,kh,I_];rw[c];exact Nk (zn8 (zpl hm) _)
 ·rintro d hd dG ys ⟨a,b,rfl⟩;obtain⟨i,x,rfl,hx⟩:=zmu hd;rw[gH]at hx;cases q:cells[i]? with
  | none=>rw[q]at hx;cases hx
  | some c =>
   rw[q]at hx;cases hx;have Df:=(gk.mp q).1;refine⟨[some (.int many),some (.loc n),some (.int i),some (.int c)],⟨_,_,rfl⟩,by simp,?_⟩;have e1:aq (st++[.lst ys]) n=some (cells.map D.int):=zm4 hi.1;have e2:=Ew c ((0+i:Nat):Int) many cells.length (st++[.lst ys]) hm ux (by omega) (by omega) (by omega) (by omega);simp only[mJ]at e2;simp[Nm e1,e2,rowAt]
def lM.rw(h:lM (many:Nat) (rows:Nat) d):∃r:Rw,d=aJ r/\r.c+1<=many/\r.t<=rows/\r.f<=rows:=by
 cases h with
 | up c t h1 h2 h3 h4 =>
  obtain⟨c,rfl⟩:=m8 h1;obtain⟨t,rfl⟩:=m8 h3;exact⟨⟨true,c,t,0⟩,rfl,by simp only;omega,by simp only;omega,by simp⟩
 | down c t o h1 h2 h3 h4 h5 h6 =>
  obtain⟨c,rfl⟩:=m8 h1;obtain⟨t,rfl⟩:=m8 h3;obtain⟨o,rfl⟩:=m8 h5;exact⟨⟨false,c,t,o⟩,rfl,by simp only;omega,by simp only;omega,by simp only;omega⟩
theorem BR:∀(ds:List D),(∀d∈ds,lM (many:Nat) (rows:Nat) d)->∃rs:List Rw,ds=rs.map aJ/\∀r∈rs,r.c+1<=many/\r.t<=rows/\r.f<=rows
 | [],_=>⟨[],rfl,by simp⟩
 | d::ds,h=>by
  obtain⟨r,h1,h2⟩:=(h d (by simp)).rw;obtain⟨rs,h3,h4⟩:=BR ds λe he=>h e (by simp[he]);refine⟨r::rs,by rw[h1,h3];rfl,λq hq=>?_⟩;rcases gj.mp hq with rfl | hq
  ·exact h2
  ·exact h4 q hq
def Og(cells:List Int)(n many:Nat)(st:au)(h:st[n]? = some (.lst (cells.map D.int)))(hl:cells.length<=100)(hm:0<many)(ux:many<=100) :
  ∃rows:List Rw,rows.length=cells.length/\(∀r∈rows,r.c+1<=many/\r.t<=rows.length/\r.f<=rows.length)/\zed [.loc n,.int many] st=.ok (.loc st.length) (st++[.lst (rows.map aJ)]):=by
 obtain⟨rs,h1,h2⟩:=BR (many:=many) (rows:=cells.length) _ (zpl (cells:=cells) (many:=(many:Nat)) (by omega));have hlen:rs.length=cells.length:=by rw[<-Fb cells (many:Nat),h1,gq]
 refine⟨rs,hlen,by rw[hlen];exact h2,?_⟩;rw[zou cells n (many:Nat) st (.lst (cells.map D.int)) (by unfold o7;rw[h]) hl (by omega) (by omega),h1]
def zm7(r:Rw):flat (aJ r)=true/\dep (aJ r)=1/\∀n,under n (aJ r):=by unfold aJ;split<;>simp
def zkv(rs:List Rw):dW (rs.map aJ)=true/\deps (rs.map aJ)<=1/\∀n,aR n (rs.map aJ):=by
 induction rs with
 | nil=>simp
 | cons r rs ih =>
  obtain⟨h1,h2,h3⟩:=zm7 r;refine⟨by rw[gB,T8,h1,ih.1];rfl,by rw[gB,zhh,h2];have:=ih.2.1;omega,λn=>?_⟩;rw[gB,Ua];exact⟨h3 n,ih.2.2 n⟩
def zem(n:Nat)(cs:List Nat):aR n (aC cs):=by
 rw[Mu];intro d hd;obtain⟨c,_,rfl⟩:=g8.mp hd;simp
def Gg(cs:List Nat)(k v:Nat):(aC cs).set k (.int v)=aC (cs.set k v):=by
 unfold aC;rw[List.map_set]
def KD(cs:List Nat)(k:Nat)(h:k<cs.length):(aC cs)[k]? = some (.int (oH cs k:Nat)):=by
 unfold aC oH;rw[gH,kj h];simp[List.getD,h]
def zmx(rows:List Rw)(n p many:Nat)(r:Rw)(cs:List Nat)(st:au)(h:aq st n=some (rows.map aJ))(hp:rows[p]? = some r)(hc:cs.length=many)(hr:r.c+1<=many)(hl:many<=100) :
  Np [.loc n,.tup [.int p,.tup (aC cs)]] st=.ok (.tup [.int ((bC r cs).2:Nat),.tup (aC (bC r cs).1)]) st:=by
 have qH:=(gk.mp hp).1;have hlen:cO [.loc n] st=.ok (.int rows.length) st:=by have:=Nm h;rwa[gq]at this
 have tQ:¬ (p:Int)=(rows.length:Int):=by omega
 have W5:bz (.loc n) (.int p) st=.ok (aJ r) st:=zM st n _ _ _ h (by rw[Rb,gH,hp];rfl);have hk:r.c<cs.length:=by omega
 have hlc:Cq [.tup (aC cs)] st=.ok (.loc st.length) (st++[.lst (aC cs)]):=rfl;have Y9:=KD cs r.c hk;have ade:(aC cs).length=cs.length:=by simp[aC]
 have x0:=znq r;have x1:=zpw r;have x2:=znm r;have hn:bz (.loc st.length) (.int r.c) (st++[.lst (aC cs)])=.ok (.int (oH cs r.c:Nat)) (st++[.lst (aC cs)]):=zM _ st.length _ (aC cs) _ (by simp[aq]) (by rw[Rb,Y9]);have abt:∀env,eO (aj (aM z7 (ct (.int 0)) (ct (.int 1))) (aj (ct (.int 1)) az)) env (st++[.lst (aC cs)])=.ok (.loc (st.length+1)) (st++[.lst (aC cs),.lst [.int (-1),.int 1]]):=λenv=>by simp
 have abB:(st++[.lst (aC cs),.lst [.int (-1),.int 1]])[st.length+1]? = some (.lst [.int (-1),.int 1]):=by
  rw[gw (by omega)];simp
 have hi0:bz (.loc (st.length+1)) (.int 0) (st++[.lst (aC cs),.lst [.int (-1),.int 1]])=.ok (.int (-1)) (st++[.lst (aC cs),.lst [.int (-1),.int 1]]):=zM _ _ _ [.int (-1),.int 1] _ (by simp only[aq,abB]) (Rb [D.int (-1),.int 1] 0);have hi1:bz (.loc (st.length+1)) (.int 1) (st++[.lst (aC cs),.lst [.int (-1),.int 1]])=.ok (.int 1) (st++[.lst (aC cs),.lst [.int (-1),.int 1]]):=zM _ _ _ [.int (-1),.int 1] _ (by simp only[aq,abB]) (Rb [D.int (-1),.int 1] 1);have vq:∀v:Nat,vL (.loc st.length) (.int r.c) (.int (v:Nat)) (st++[.lst (aC cs),.lst [.int (-1),.int 1]])=.ok () (st++[.lst (aC (cs.set r.c v)),.lst [.int (-1),.int 1]]):=λv=>by
  have e1:(st++[.lst (aC cs),.lst [.int (-1),.int 1]]:au)[st.length]? = some (.lst (aC cs)):=by rw[gw (gf _)];simp
  have e2:yU (aC cs).length (r.c:Nat)=some r.c:=by rw[ade];simp[yU,hk]
  simp only[vL,e1,e2,Gg];rw[kZ _ _ (gf _)];simp
 have htp:∀(cs:List Nat) (g:au),jQ [.loc st.length] (st++.lst (aC cs)::g)=.ok (.tup (aC cs)) (st++.lst (aC cs)::g):=λcs g=>ze8 _ _ _ (by
  have e1:(st++.lst (aC cs)::g:au)[st.length]? = some (.lst (aC cs)):=by rw[gw (gf _)];simp
  simp only[aq,e1])
 have yz:∀(t:Nat) (Lx:List Nat) (g:au),gc st (.ok (.tup [.int (t:Nat),.tup (aC Lx)]) (st++g))=.ok (.tup [.int (t:Nat),.tup (aC Lx)]) st:=λt Lx g=>Hv (by simp[zem]);have ht0:=htp cs [];unfold Np jP eF TF;rw[show startM 6 [D.loc n,.tup [.int p,.tup (aC cs)]]=[some (.loc n),some (.tup [.int p,.tup (aC cs)]),none,none,none,none] from rfl];generalize hLE:eO (aj (aM z7 _ _) _)=LE at *;by_cases cu:r.up=true
 ·have es:bC r cs=(cs.set r.c (oH cs r.c+1),r.t):=by simp[bC,cu]
  rw[es];simp only[cu,afy]at x0;have hs:=vq (oH cs r.c+1);have ht:=htp (cs.set r.c (oH cs r.c+1)) [.lst [.int (-1),.int 1]];have hg:=yz r.t (cs.set r.c (oH cs r.c+1)) [.lst (aC (cs.set r.c (oH cs r.c+1))),.lst [.int (-1),.int 1]];have ea:((oH cs r.c:Nat):Int)+1=((oH cs r.c+1:Nat):Int):=by omega
  dsimp only;generalize (st++[.lst (aC (cs.set r.c (oH cs r.c+1))),.lst [.int (-1),.int 1]]:au)=Z3 at *;generalize (st++[.lst (aC cs),.lst [.int (-1),.int 1]]:au)=Z2 at *;generalize (st++[.lst (aC cs)]:au)=Z1 at *;generalize ((oH cs r.c+1:Nat):Int)=V at *;generalize aC (cs.set r.c (oH cs r.c+1))=I2 at *;generalize aC cs=I at *;generalize aJ r=ER at *;generalize st.length+1=Y at *;simp[hlen,tQ,W5,hlc,x0,hn,abt,hi1,x1,ea,hs,x2,ht];exact hg
 ·have x3:=zn6 r cu;rw[ae_ cu]at x0;by_cases hz:oH cs r.c=0
  ·have es:bC r cs=(cs,r.f):=by simp[bC,cu,hz]
   rw[es];have hg:=yz r.f cs [.lst (aC cs)];rw[hz]at hn;dsimp only;generalize (st++[.lst (aC cs)]:au)=Z1 at *;generalize aC cs=I at *;generalize aJ r=ER at *;simp[hlen,tQ,W5,hlc,x0,hn,x1,x3,ht0];exact hg
  ·have es:bC r cs=(cs.set r.c (oH cs r.c - 1),r.t):=by simp[bC,cu,hz]
   rw[es];have hs:=vq (oH cs r.c - 1);have ht:=htp (cs.set r.c (oH cs r.c - 1)) [.lst [.int (-1),.int 1]];have hg:=yz r.t (cs.set r.c (oH cs r.c - 1)) [.lst (aC (cs.set r.c (oH cs r.c - 1))),.lst [.int (-1),.int 1]];have ea:((oH cs r.c:Nat):Int) + -1=((oH cs r.c - 1:Nat):Int):=by omega
   have hz2:¬ ((oH cs r.c:Nat):Int)=0:=by omega
   dsimp only;generalize (st++[.lst (aC (cs.set r.c (oH cs r.c - 1))),.lst [.int (-1),.int 1]]:au)=Z3 at *;generalize (st++[.lst (aC cs),.lst [.int (-1),.int 1]]:au)=Z2 at *;generalize (st++[.lst (aC cs)]:au)=Z1 at *;generalize ((oH cs r.c - 1:Nat):Int)=V at *;generalize ((oH cs r.c:Nat):Int)=V0 at *;generalize aC (cs.set r.c (oH cs r.c - 1))=I2 at *;generalize aC cs=I at *;generalize aJ r=ER at *;generalize st.length+1=Y at *;simp[hlen,tQ,W5,hlc,x0,hn,hz2,abt,hi0,x1,ea,hs,x2,ht];exact hg
def zl6(r:Rw)(cs:List Nat):(bC r cs).1.length=cs.length:=by unfold bC;split<;>(try split)<;>simp
end Law
set_option maxHeartbeats 0
namespace Law
open L2 M NK NS
def tW(f:Nat)(ks:List NK)(q:SR):Rl:=⟨cJ f ks q.s,q.x,q.w,cJ f ks q.g⟩
def Lj(f:Nat)(ks:List NK)(ALL:List SR):ALL.map (bA f ks)=(ALL.map (tW f ks)).map bW:=by rw[gY];rfl
abbrev Mk:=Nat×Nat×List Nat
def lU(r:Rl)(rest:List Nat):Nat:=2*(rest.length+1)+2*r.w.length+1
def Stp(RL:List Rl)(a b:Mk):Prop:=∃r∈RL,∃rest,a.2.1=r.s/\a.2.2=r.x::rest/\b=(a.1+lU r rest,r.g,rest++r.w)
inductive Way (RL:List Rl):Mk->List Mk->Mk->Prop
 | nil (x:Mk):Way RL x [] x
 | cons {x z y:Mk} {l:List Mk}:Stp RL x z->Way RL z l y->Way RL x (x::l) y
def Way.app(h:Way RL x l y)(h':Way RL y l' z):Way RL x (l++l') z:=by
 induction h with
 | nil=>exact h'
 | cons a _ ih=>exact .cons a (ih h')
def Iv(A:All many rows ks ALL)(ha:a∈ALL)(hb:b∈ALL)(e1:cJ (rows.length+1) ks a.s=cJ (rows.length+1) ks b.s)(e2:a.x=b.x):a=b:=by
 have ga:=A.good a ha;have gb:=A.good b hb;unfold good at ga gb;have es:a.s=b.s:=JF (A.R5 a ha).1 (A.R5 b hb).1 (Ii ga) (Ii gb) e1;rw[es,e2,gb]at ga;have:=afl (afa ga);cases a;cases b;simp only at es e2 this;rw[es,e2,this.1,this.2]
def N8(h:dl many rows s x=some y):∀n,s=pl n->n<rows.length:=by
 rintro n rfl;unfold dl at h
 split at h
 ·rename_i p e;obtain⟨r,hp,_⟩:=gO.mp h;have:=(gk.mp hp).1;cases e;omega
 all_goals simp_all
def zkx(h:x∈bj cs):x=105\/x=101:=by
 unfold bj at h;obtain⟨l,hl,hx⟩:=List.mem_flatten.mp h;obtain⟨c,_,rfl⟩:=g8.mp hl;unfold seg at hx;rcases gm.mp hx with hx | hx
 ·exact .inl (List.eq_of_mem_replicate hx)
 ·exact .inr (gQ.mp hx)
def znv(cs:List Nat):(bj cs).length=cs.sum+cs.length:=zli cs
def aaf(h:tr δ s0 X=some y)(hx:X[i]? = some x)(hi:tr δ s0 (X.take i)=some (out,s)):∃w g,δ s x=some (w,g)/\tr δ s0 (X.take (i+1))=some (out++w,g):=by
 have e:X=X.take i++x::X.drop (i+1):=by
  have hl:=(gk.mp hx);obtain⟨hl,hv⟩:=hl;rw[<-hv,<-nG hl,pQ]
 rw[e,Ht,hi,kI,tr]at h;cases hd:δ s x with
 | none=>simp[hd]at h
 | some q =>
  refine⟨q.1,q.2,rfl,?_⟩;rw[mz,hx,Ht,hi];simp[tr,hd]
abbrev uo:List Nat:=[98,101,105]
def Lp(h:dl many rows s x=some (w,g)):w.length<=2/\x∈uo/\∀c∈w,c∈uo:=by
 have ht:∀{p:Nat} {r:Rw} {x:Nat} {w:List Nat} {g:NS},x∈uo->dN many p r x=(w,g)->w.length<=2/\x∈uo/\∀c∈w,c∈uo:=λ{p r x w g} hx e=>by
  unfold dN at e
  split at e<;>(obtain⟨rfl,_⟩:=afl e;exact⟨by simp,hx,by simp;simpa using hx⟩)
 unfold dl at h
 split at h
 ·obtain⟨r,_,e⟩:=gO.mp h
  split at e
  ·exact ht (by simp) e
  ·cases e;simp
 ·cases h;simp
 ·obtain⟨r,_,e⟩:=gO.mp h
  split at e
  ·exact ht (by simp) e
  ·cases e;simp
 ·obtain⟨r,_,e⟩:=gO.mp h;cases e;simp
 ·obtain⟨r,_,e⟩:=gO.mp h;cases e;simp
 ·cases h;simp
 ·cases h;simp
 ·cases h
def PX(A:All many rows ks ALL)(hr:∀r∈rows,r.c+1<=many)(hp:rows[p]? = some r)(cs:List Nat)(hl:cs.length=many)(a0:Nat) :
  ∃L e,Way (ALL.map (tW (rows.length+1) ks)) (a0,p,98::bj cs) L (e,(bC r cs).2,98::bj (bC r cs).1)/\L.length=(98::bj cs).length/\e<=a0+(98::bj cs).length*(4*(98::bj cs).length+5) /\
   ∀(j:Nat) (y:Mk),L[j]? = some y->y.2.2.length<=3*(98::bj cs).length/\(∀c∈y.2.2,c∈uo)/\(0<j->rows.length<y.2.1):=by
 have hc:=hr r (gM hp);have L0:=zj hp cs hl (by omega);have hX:∀i x,(98::bj cs)[i]? = some x->0<i->x=105\/x=101:=by
  intro i x h1 h2;obtain⟨j,rfl⟩:∃j,i=j+1:=⟨i - 1,by omega⟩;rw[ni]at h1;exact zkx (gM h1)
 have hXb:∀c∈98::bj cs,c∈uo:=λc hc=>by
  rcases gj.mp hc with rfl | hc
  ·simp
  ·rcases zkx hc with rfl | rfl<;>simp
 generalize hf:rows.length+1=f at *;generalize (98::bj cs)=X at *;have key:∀i,i<=X.length->∃L s out e,tr (dl many rows) (pl p) (X.take i)=some (out,s)/\Q many rows ALL s/\yV ks s/\out.length<=2*i/\(∀c∈out,c∈uo)/\L.length=i/\e<=a0+i*(4*X.length+5) /\
   Way (ALL.map (tW f ks)) (a0,p,X) L (e,cJ f ks s,X.drop i++out)/\∀(j:Nat) (y:Mk),L[j]? = some y->y.2.2.length<=3*X.length/\(∀c∈y.2.2,c∈uo)/\(0<j->rows.length<y.2.1):=by
  intro i
  induction i with
  | zero=>intro _;exact⟨[],pl p,[],a0,by simp[tr],trivial,trivial,by simp,by simp,rfl,by simp,by simp only[cJ,List.drop_zero,kh];exact .nil _,by simp⟩
  | succ i ih =>
   intro hi;obtain⟨L,s,out,e,htr,hQ,wQ,hol,hob,Xd,he,hC,hP⟩:=ih (by omega);have hi':i<X.length:=by omega
   have hx:X[i]? = some X[i]:=kj hi';have abz:X.drop i=X[i]::X.drop (i+1):=nG hi';generalize X[i]=x at *;obtain⟨w,g,h1,h2⟩:=aaf L0 hx htr;obtain⟨h3,h4⟩:=XR A hr hQ h1;obtain⟨hw,hxb,hwb⟩:=Lp h1;have hg:=(A.R5 _ h3).2;simp only at hg;rw[abz,kJ]at hC;have aeJ:lU (tW f ks ⟨s,x,w,g⟩) (X.drop (i+1)++out)<=4*X.length+5:=by
    unfold lU tW;simp only[gh,nj];omega
   refine⟨L++[(e,cJ f ks s,x::(X.drop (i+1)++out))],g,out++w,e+lU (tW f ks ⟨s,x,w,g⟩) (X.drop (i+1)++out),h2,h4,hg,by rw[gh];omega,λc hc=>?_,by simp[Xd],by rw[Nat.add_mul];omega,?_,?_⟩
   ·rcases gm.mp hc with hc | hc
    ·exact hob c hc
    ·exact hwb c hc
   ·refine hC.app (.cons ⟨tW f ks ⟨s,x,w,g⟩,g8.mpr ⟨_,h3,rfl⟩,X.drop (i+1)++out,rfl,rfl,rfl⟩ ?_);rw[gG];exact .nil _
   ·intro j y hj;by_cases hjl:j<L.length
    ·rw[gP hjl]at hj;exact hP j y hj
    ·have hj2:=(gk.mp hj).1;rw[gh,mq]at hj2;have:j=L.length:=by omega
     subst this;have:y=(e,cJ f ks s,x::(X.drop (i+1)++out)):=by simpa using hj.symm
     subst this;refine⟨by simp only[gC,gh,nj];omega,λc hc=>?_,λh0=>?_⟩
     ·rcases gj.mp hc with rfl | hc
      ·exact hxb
      ·rcases gm.mp hc with hc | hc
       ·exact hXb c (List.mem_of_mem_drop hc)
       ·exact hob c hc
     ·cases s with
      | pl n =>
       rcases hX i x hx (by omega) with rfl | rfl
       ·simp[dl]at h1
       ·simp[dl]at h1
      | nk k=>simp only[cJ];omega
 obtain⟨L,s,out,e,htr,_,_,_,_,Xd,he,hC,hP⟩:=key X.length (gf _);rw[m9,L0]at htr;obtain⟨rfl,rfl⟩:=afl (afa htr);simp only[List.drop_length,k_,cJ]at hC;exact⟨L,e,hC,Xd,he,hP⟩
def stC(q:Nat×List Nat):D:=.tup [.int (q.1:Nat),.tup (aC q.2)]
def qy(size many:Int):List Mk->List D
 | []=>[]
 | y::l=>(match lW size many (y.2.1:Nat) y.2.2 with | .non=>[] | d=>[d])++qy size many l
theorem zlw(size many:Int):∀(l l':List Mk),qy size many (l++l')=qy size many l++qy size many l'
 | [],l'=>by simp[qy]
 | y::l,l'=>by rw[kJ,qy,zlw size many l l',qy,gG]
theorem znx(size many:Int):∀(l:List Mk),(∀y∈l,size<((y.2.1:Nat):Int))->qy size many l=[]
 | [],_=>rfl
 | y::l,h=>by
  have:lW size many (y.2.1:Nat) y.2.2=.non:=by unfold lW;rw[ae9 (.inl (h y (by simp)))]
  rw[qy,this,znx size many l λz hz=>h z (by simp[hz])];rfl
def zmn(hp:p<=size):lW (size:Nat) (cs.length:Nat) (p:Nat) (98::bj cs)=stC (p,cs):=by
 unfold lW;have e:eQ (98::bj cs).tail=cs:=EY cs;rw[e,ae_]
 ·rfl
 intro h;rcases h with h | h | h
 ·omega
 ·exact h rfl
 ·exact h rfl
def cI(cs:List Nat):Nat:=1+cs.length+cs.sum
inductive Wc (rows:List Rw) (p0:Nat) (jN:List Nat):List (Nat×List Nat)->List Nat->Nat->Nat->List Nat->Prop
 | nil:Wc rows p0 jN [] [] 0 p0 jN
 | snoc {pre:List (Nat×List Nat)} {bB:List Nat} {sp p:Nat} {cs:List Nat} {r:Rw}:Wc rows p0 jN pre bB sp p cs->rows[p]? = some r->Wc rows p0 jN (pre++[(p,cs)]) (bB++[cI cs]) (sp+cI cs*(2*cI cs+3)) (bC r cs).2 (bC r cs).1
theorem zh0:∀(cs:List Nat) (k v:Nat),k<cs.length->(cs.set k v).sum+oH cs k=cs.sum+v
 | [],k,v,h=>by simp at h
 | c::cs,0,v,_=>by simp[oH];omega
 | c::cs,k+1,v,h=>by
  have:=zh0 cs k v (by simpa using h);have e:oH (c::cs) (k+1)=oH cs k:=by simp[oH]
  rw[e];simp;omega
def zjn(r:Rw)(cs:List Nat)(h:r.c<cs.length):(bC r cs).1.sum<=cs.sum+1:=by
 have h1:=zh0 cs r.c (oH cs r.c+1) h;have h2:=zh0 cs r.c (oH cs r.c - 1) h;unfold bC
 split
 ·simp only;omega
 ·split
  ·simp only;omega
  ·simp only;omega
def Ui(A:All many rows ks ALL)(hr:∀r∈rows,r.c+1<=many/\r.t<=rows.length/\r.f<=rows.length)(hp0:p0<=rows.length)(W9:jN.length=many)(h:Wc rows p0 jN pre bB sp p cs) :
  p<=rows.length/\cs.length=many/\cs.sum<=jN.sum+pre.length/\∃L e,Way (ALL.map (tW (rows.length+1) ks)) (0,p0,98::bj jN) L (e,p,98::bj cs)/\L.length=bB.sum/\e<=2*sp/\(∀y∈L,y.2.2.length<=3*(1+many+jN.sum+pre.length)/\∀c∈y.2.2,c∈uo)/\qy (rows.length:Nat) (many:Nat) L=pre.map stC:=by
 induction h with
 | nil=>exact⟨hp0,W9,by simp,[],0,.nil _,rfl,by simp,by simp,rfl⟩
 | @snoc pre bB sp p cs r hw hp ih =>
  obtain⟨h1,h2,h3,C,e,h4,h5,he,h6,h7⟩:=ih;have Ww:=hr r (gM hp);obtain⟨L,e',g1,g2,ge,g3⟩:=PX A (λr h=>(hr r h).1) hp cs h2 e;have De:(98::bj cs).length=cI cs:=by rw[gC,znv];unfold cI;omega
  rw[De]at g2 ge g3;refine⟨?_,by rw[zl6];exact h2,by have:=zjn r cs (by omega);rw[gh,mq];omega,C++L,e',h4.app g1,by rw[gh,h5,g2];simp,?_,?_,?_⟩
  ·unfold bC
   split
   ·exact Ww.2.1
   ·split
    ·exact Ww.2.2
    ·exact Ww.2.1
  ·have:cI cs*(4*cI cs+5)<=2*(cI cs*(2*cI cs+3)):=by
    rw[show 2*(cI cs*(2*cI cs+3))=cI cs*(2*(2*cI cs+3)) by rw[Nat.mul_left_comm]];exact Nat.mul_le_mul_left _ (by omega)
   omega
  ·intro y hy;rw[gh,mq];rcases gm.mp hy with hy | hy
   ·obtain⟨q1,q2⟩:=h6 y hy;exact⟨by omega,q2⟩
   ·obtain⟨j,hj⟩:=nM hy;obtain⟨q1,q2,_⟩:=g3 j y hj;refine⟨?_,q2⟩;unfold cI at q1;omega
  ·rw[zlw,h7,gZ];congr 1;cases L with
   | nil=>simp[cI]at g2;omega
   | cons y t =>
    have hy:y=(e,p,98::bj cs):=by cases g1;rfl
    subst hy;rw[qy,znx _ _ t λz hz=>by
     obtain⟨j,hj⟩:=nM hz;have:=(g3 (j+1) z (by simpa using hj)).2.2 (by omega);omega]
    have:=zmn (size:=rows.length) (p:=p) (cs:=cs) h1;rw[h2]at this;simp only[this]
    rfl
end Law
set_option maxHeartbeats 0
namespace Law
open L2 M TK TS
structure Gw(RL:List Rl)(top:Nat):Prop where
 at_:∀r∈RL,r.s<=top/\r.x∈uo/\(∀c∈r.w,c∈uo)/\r.w.length<=8/\r.g<=top
 one:∀r∈RL,∀r'∈RL,r.s=r'.s->r.x=r'.x->r.w=r'.w/\r.g=r'.g
inductive Tl (f:Nat) (ks:List TK) (top:Nat):Nat->List Tp->List Mk->Prop
 | nil (a:Nat):Tl f ks top a [] []
 | img (a s k:Nat) (row:List Nat) (F:List Tp) (M:List Mk):s<=top->row.length<=750->(∀c∈row,c∈uo)->Tl f ks top (a+1) F M->Tl f ks top a (toT f ks (img s k row)::F) ((a,s,row)::M)
 | hi (a:Nat) (x:Tp) (F:List Tp) (M:List Mk):(top:Int)<x.s->Tl f ks top (a+1) F M->Tl f ks top a (x::F) M
def Tl.app{f:Nat}{ks:List TK}{top a:Nat}{F F':List Tp}{M M':List Mk}(h:Tl f ks top a F M)(h':Tl f ks top (a+F.length) F' M'):Tl f ks top a (F++F') (M++M'):=by
 induction h with
 | nil a=>exact h'
 | img a s k row F M h1 h2 h3 h ih=>exact .img a s k row _ _ h1 h2 h3 (ih (by rw[gC]at h';rwa[nJ,Nat.add_comm 1]))
 | hi a x F M h1 h ih=>exact .hi a x _ _ h1 (ih (by rw[gC]at h';rwa[nJ,Nat.add_comm 1]))
theorem Tl.his{f:Nat}{ks:List TK}{top:Nat}:∀(mid:List Tp) (a:Nat),(∀x∈mid,(top:Int)<x.s)->Tl f ks top a mid []
 | [],a,_=>.nil a
 | x::l,a,h=>.hi a x l [] (h x (by simp)) (Tl.his l (a+1) λy hy=>h y (by simp[hy]))
section
variable  {RL:List Rl}{ks:List TK}{ALL:List TQ}{top:Nat}
def HY(A:Bh RL uo ks ALL)(G:Gw RL top):∀{x y:Mk} {L:List Mk},Way RL x L y->x.2.1<=top->(∀c∈x.2.2,c∈uo)->(∀z∈L,z.2.2.length<=750)->∀k,∃F,F.length+x.1=y.1/\Tl (top+1) ks top x.1 F L/\y.2.1<=top/\(∀c∈y.2.2,c∈uo) /\
  ∀m,d_ (vh (ALL.map (wU (top+1) ks))) (F.length+m) (toT (top+1) ks (img x.2.1 k x.2.2))=F++d_ (vh (ALL.map (wU (top+1) ks))) m (toT (top+1) ks (img y.2.1 (k+L.length) y.2.2)):=by
 intro x y L h
 induction h with
 | nil x=>intro h1 h2 _ k;exact⟨[],by simp,.nil _,h1,h2,λm=>by simp⟩
 | @cons x z y l hs _ ih =>
  intro h1 h2 h3 k;obtain⟨a,s,row⟩:=x;obtain⟨r,hr,rest,e1,e2,rfl⟩:=hs;simp only at e1 e2 h1 h2;subst e1 e2;obtain⟨_,_,g3,_,g5⟩:=G.at_ r hr;have hb:∀c∈rest++r.w,c∈uo:=λc hc=>by
   rcases gm.mp hc with hc | hc
   ·exact h2 c (by simp[hc])
   ·exact g3 c hc
  obtain⟨F,f1,f2,f3,f4,f5⟩:=ih g5 hb (λq hq=>h3 q (by simp[hq])) (k+1);have hT:∀r∈RL,r.s<top+1:=λr hr=>by have:=(G.at_ r hr).1;omega
  have lp:=ac6 A.src A.pas A.gro A.pab A.bak hr rest k (λc hc=>h2 c (by simp[hc])) g3;change Rn ALL _ (lU r rest) _ at lp;have go:=λm=>(Ck A (by decide) G.one hT rfl lp (lU r rest+m)).1 (by omega);obtain⟨mid,m1,m2,m3⟩:=go F.length;have hlen:=(h3 _ (by simp):(a,r.s,r.x::rest).2.2.length<=750);refine⟨toT (top+1) ks (img r.s k (r.x::rest))::(mid++F),?_,?_,f3,f4,λm=>?_⟩
  ·simp only[gC,gh];simp only at f1;omega
  ·refine .img _ _ _ _ _ _ h1 hlen h2 ?_;have:=(Tl.his (f:=top+1) (ks:=ks) mid (a+1) m2).app (F':=F) (M':=l) (by rw[show a+1+mid.length=a+lU r rest by omega];exact f2);simpa using this
  ·obtain⟨ac4,m1',m2',m3'⟩:=go (F.length+m);have e:lU r rest+(F.length+m) - lU r rest=F.length+m:=by omega
   have em:ac4=mid:=by
    have h0:=m3;rw[show lU r rest+F.length - lU r rest=F.length by omega]at h0;have p1:=(Ck A (by decide) G.one hT rfl lp (lU r rest)).1 (gf _);obtain⟨aeB,q1,q2,q3⟩:=p1;have BP:∀(n d:Nat) (x:Tp),(d_ (vh (ALL.map (wU (top+1) ks))) (n+d) x).take (n+1)=d_ (vh (ALL.map (wU (top+1) ks))) n x:=by
     intro n
     induction n with
     | zero=>intro d x;cases d with | zero=>simp[d_] | succ d=>rw[mJ,d_];simp[d_];split<;>simp
     | succ n ihn =>
      intro d x;rw[show n+1+d=(n+d)+1 by omega,d_,d_]
      split
      ·simp
      ·rw[pR,ihn]
    have t1:=BP (lU r rest) F.length (toT (top+1) ks (img r.s k (r.x::rest)));have t2:=BP (lU r rest) (F.length+m) (toT (top+1) ks (img r.s k (r.x::rest)));rw[m3]at t1;rw[m3']at t2;rw[<-t1]at t2;rw[show lU r rest+1=(mid.length+1)+1 by omega,pR,pR]at t2;have t3:=List.cons.inj t2;have t4:=congrArg (List.take mid.length) t3.2;rw[List.take_take,List.take_take,List.take_append_of_le_length (by omega),List.take_append_of_le_length (by omega),p7 (by omega),nH (by omega),nH (by omega)]at t4;exact t4
   rw[em,e,f5 m]at m3';have el:(toT (top+1) ks (img r.s k (r.x::rest))::(mid++F)).length+m=lU r rest+(F.length+m):=by simp only[gC,gh];omega
   rw[el,m3',kJ,gG,gC,show k+(l.length+1)=k+1+l.length by omega]
def Eg(A:Bh RL uo ks ALL)(hs:s<=top)(Hn:∀r∈RL,r.s≠s)(m:Nat):d_ (vh (ALL.map (wU (top+1) ks))) m (toT (top+1) ks (img s k row))=[toT (top+1) ks (img s k row)]:=by
 have sn:vh (ALL.map (wU (top+1) ks)) (toT (top+1) ks (img s k row))=none:=Ek λq hq e=>by
  obtain⟨e1,_⟩:=e;have e1:((bR (top+1) ks q.s:Nat):Int)=(s:Nat):=e1;cases A.good q hq with
  | src r hr =>
   have e1:(r.s:Int)=(s:Nat):=e1;exact Hn r hr (by omega)
  | pas w t c h=>simp only[jg,bR]at e1;omega
  | gro w t=>cases w<;>(simp only[fu,bR]at e1;omega)
  | pab t c h=>simp only[jg,bR]at e1;omega
  | bak t=>simp only[rG,bR]at e1;omega
 cases m with
 | zero=>rfl
 | succ m=>rw[d_,sn]
end
def iI(s:Nat)(row:List Nat):D:=.tup [.int s,.str row]
def HR{f:Nat}{ks:List TK}{top k s:Nat}{row:List Nat}(hs:s<=top)(qF:row.length<=750)(hb:∀c∈row,c∈uo)(st:au):Ro [.int top,(toT f ks (img s k row)).d] st=.ok (iI s row) st:=by
 have Wy:95∉row:=λh=>absurd (hb 95 h) (by decide);have e0:(toT f ks (img s k row)).d=jf (s:Int) (List.replicate k 95) ((row++if k=0 then [] else [95]).headD 95) (row++if k=0 then [] else [95]).tail:=rfl;rw[e0,Bq _ _ _ _ _ st (by simp;split<;>simp<;>omega)];unfold Br;have e:cY 95 ((row++if k=0 then [] else [95]).headD 95::(row++if k=0 then [] else [95]).tail)=row:=by
  cases row with
  | nil =>
   split
   ·rfl
   ·rfl
  | cons c t =>
   show cY 95 (c::(t++if k=0 then [] else [95]))=c::t
   split
   ·rw[kh,zjy _ _ Wy]
   ·rw[show c::(t++[95])=(c::t)++[95] from rfl,zlp,zjy _ _ Wy]
 rw[e,ae_ (by
  rintro (z | z)
  ·omega
  ·exact Wy z)]
 rfl
end Law
set_option maxHeartbeats 0
namespace Law
open L2 M NK NS
def zhk(n:Nat)(xs:List Int):aR n (xs.map D.int):=by
 rw[Mu];intro d hd;obtain⟨c,_,rfl⟩:=g8.mp hd;simp
def Gq(ns:List Int)(n size:Nat)(st:au)(h:∀g,aq (st++g) n=some (ns.map D.int))(h1:1<=size)(h2:size<=100)(zP:ns.length<=63) :
  ∃cells:List Int,cells.length=size/\zfv [.loc n,.int size] st=.ok (.loc st.length) (st++[.lst (cells.map D.int)]):=by
 unfold zfv jP eF ze3;generalize hB:(iV _ _:MS)=B;have cc:=Yc (capt:=[none]) (mi:=iK (aj (vr 1) az)) (g:=aK 0) (e:=aW yQ [] (aj (vr 0) (aj (ct (.int 70)) az)))
  (env:=[some (.loc n),some (.int size),none,none,none]) (st:=st) (st1:=st) (items:=j9 0 size) (gs:=[])
  (λd=>match d with | .int k=>.int (mixed k 70) | _=>.non) (λenv=>∃a,env=[a])
  (by
   have a1:-4611686018427387904<=(size:Int):=by omega
   have a2:(size:Int)<4611686018427387904:=by omega
   simp[a1,a2]) ⟨none,rfl⟩ (by rw[Nq];omega) (λys=>by simp) (by
   rintro d hd dG ys ⟨a,rfl⟩;obtain⟨i,hi⟩:=nM hd;obtain⟨_,rfl⟩:=TJ hi;exact⟨[some (.int (0+(i:Nat)))],⟨_,rfl⟩,by simp,by simp[T5]⟩)
 have e0:(j9 0 size).map (λd=>match d with | .int k=>D.int (mixed k 70) | _=>.non)=((List.range size).map λ(i:Nat)=>mixed (i:Int) 70).map D.int:=by
  refine List.ext_getElem? λi=>?_;rw[gH,gH,gH];by_cases hi:i<size
  ·obtain⟨d,hd⟩:∃d,(j9 0 size)[i]? = some d:=⟨_,kj (by rw[Nq];exact hi)⟩;obtain⟨_,rfl⟩:=TJ hd;rw[hd,List.getElem?_range hi];simp
  ·rw[pP (by rw[Nq];omega),pP (by simp;omega)];rfl
 rw[e0]at cc;have M6:vG (.loc n) (some 2) (some 64) (st++[.lst (((List.range size).map λ(i:Nat)=>mixed (i:Int) 70).map D.int)])=.ok (.loc (st.length+1)) (st++[.lst (((List.range size).map λ(i:Nat)=>mixed (i:Int) 70).map D.int),.lst ((cut ns (some 2) (some 64)).map D.int)]):=by
  simp[vG,h,QQ]
 have uc:=QR ns (some 2) (some 64);generalize cut ns (some 2) (some 64)=sl at M6 uc;have Qu:((List.range size).map λ(i:Nat)=>mixed (i:Int) 70).length=size:=by simp
 generalize ((List.range size).map λ(i:Nat)=>mixed (i:Int) 70)=c0 at cc M6 Qu;have hsz:(0:Int)<(size:Nat):=by omega
 obtain⟨dG,st',e1,cells,a3,a4,hl,rfl,rfl⟩:=yO (g:=oF 2 (bQ (aK 3) (bQ (aK 4) o4))) (b:=B) (gs:=[(st.length+1,.lst (sl.map D.int))]) (items:=eZ 0 (sl.map D.int))
  (λi env s=>∃(cells:List Int) (a3 a4:Option D),cells.length=size/\env=[some (.loc n),some (.int size),some (.loc st.length),a3,a4]/\s=st++[.lst (cells.map D.int),.lst (sl.map D.int)])
  (env:=[some (.loc n),some (.int size),some (.loc st.length),none,none]) (st:=st++[.lst (c0.map D.int),.lst (sl.map D.int)]) ⟨c0,none,none,Qu,rfl,rfl⟩ (by
   rintro i d env s hi ⟨cells,a3,a4,hl,rfl,rfl⟩;rw[ZV,gH]at hi;obtain⟨x,hx,rfl⟩:=gO.mp hi;obtain⟨v,hv,rfl⟩:=gO.mp hx;rw[mJ];have m1:∀s j,eU (.int j) (.int size) s=.ok (.int (j % (size:Nat))) s:=λs j=>yR s j _ hsz;obtain⟨j,hj⟩:∃j:Nat,(i:Int) % (size:Nat)=(j:Nat):=m8 (mD _ (by omega));have hjl:j<cells.length:=by have:=mX (i:Int) hsz;omega
   have q1:(st++[.lst (cells.map D.int),.lst (sl.map D.int)]:au)[st.length]? = some (.lst (cells.map D.int)):=by rw[gw (gf _)];simp
   have q2:bz (.loc st.length) (.int j) (st++[.lst (cells.map D.int),.lst (sl.map D.int)])=.ok (.int cells[j]) (st++[.lst (cells.map D.int),.lst (sl.map D.int)]):=zM _ _ _ (cells.map D.int) _ (by unfold aq;rw[q1]) (by rw[Rb,gH,kj hjl];rfl);generalize cells[j]=old at q2;have q3:∀v:Int,vL (.loc st.length) (.int j) (.int v) (st++[.lst (cells.map D.int),.lst (sl.map D.int)])=.ok () (st++[.lst ((cells.set j v).map D.int),.lst (sl.map D.int)]):=λv=>by
    have e2:yU (cells.map D.int).length (j:Nat)=some j:=by simp[yU,hjl]
    simp only[vL,q1,e2];rw[kZ _ _ (gf _),List.map_set];simp
   refine⟨by simp,[some (.loc n),some (.int size),some (.loc st.length),some (.int i),some (.int v)],st++[.lst (cells.map D.int),.lst (sl.map D.int)],by simp,[some (.loc n),some (.int size),some (.loc st.length),some (.int i),some (.int v)],st++[.lst ((cells.set j ((old*69621+v) % 2147483647)).map D.int),.lst (sl.map D.int)],.inl ?_,cells.set j ((old*69621+v) % 2147483647),_,_,by simp[hl],rfl,rfl⟩;have q4:=q3 ((old*69621+v) % 2147483647);rw[<-hB];generalize (st++[.lst ((cells.set j ((old*69621+v) % 2147483647)).map D.int),.lst (sl.map D.int)]:au)=Z2 at *;generalize (st++[.lst (cells.map D.int),.lst (sl.map D.int)]:au)=Z1 at *;have m3:∀s i,jR (.int i) (.int 69621) s=.ok (.int (i*69621)) s:=λs i=>Nr s i 69621 (by omega);simp[m1,m3,hj,q2,q4,yR]) (λ_ _ zz=>by obtain⟨_,_,_,_,_,e⟩:=zz;rw[e];simp)
 refine⟨cells,hl,?_⟩;have yz:gc st (.ok (.loc st.length) (st++[.lst (cells.map D.int),.lst (sl.map D.int)]))=.ok (.loc st.length) (st++[.lst (cells.map D.int)]):=by
  have:=X4 (st:=st) (g:=[]) (g':=[.lst (sl.map D.int)]) (o:=.lst (cells.map D.int)) (zhk _ _);simpa using this
 have hlg:o7 (st++[.lst (c0.map D.int),.lst (sl.map D.int)]) (st.length+1)=some (sl.map D.int,.lst (sl.map D.int)):=by
  have q1:(st++[.lst (c0.map D.int),.lst (sl.map D.int)]:au)[st.length+1]? = some (.lst (sl.map D.int)):=by rw[gw (by omega)];simp
  unfold o7;rw[q1]
 rw[show startM 5 [D.loc n,.int size]=[some (.loc n),some (.int size),none,none,none] from rfl];generalize (st++[.lst (cells.map D.int),.lst (sl.map D.int)]:au)=Z9 at *;generalize (st++[.lst (c0.map D.int),.lst (sl.map D.int)]:au)=Z8 at *;generalize (st++[.lst (c0.map D.int)]:au)=Z7 at *;generalize lF _ _ _ _ _=CE at *;simp[cc,M6,hlg,e1];exact yz
def zlt(rows:List Rw)(n:Nat)(cs:List Nat)(st:au)(h:aq st n=some (rows.map aJ)) :
  Np [.loc n,stC (rows.length,cs)] st=.ok .non st:=by
 have hlen:cO [.loc n] st=.ok (.int rows.length) st:=by have:=Nm h;rwa[gq]at this
 unfold Np jP eF TF stC;rw[show startM 6 [D.loc n,.tup [.int rows.length,.tup (aC cs)]]=[some (.loc n),some (.tup [.int rows.length,.tup (aC cs)]),none,none,none,none] from rfl];generalize aC cs=I at *;simp[hlen,zL]
def Ei(cs:List Nat)(st:au):Ie [.tup (aC cs)] st=.ok (.int cs.sum) st:=by
 have e:aC cs=(cs.map λ(c:Nat)=>(c:Int)).map D.int:=by unfold aC;rw[gY];rfl
 have e2:(cs.map λ(c:Nat)=>(c:Int)).sum=(cs.sum:Int):=by
  induction cs with
  | nil=>rfl
  | cons c cs ih =>
   have:=ih (by unfold aC;rw[gY];rfl);rw[gB,p8,this,p8];omega
 unfold Ie;rw[e];simp only[zju,e2]
end Law
set_option maxHeartbeats 0
namespace Law
open L2 M NK NS
def Ig(cell:Int)(m n mo:Nat)(hm:m<=100)(hn:n<=100)(hmo:mo<=60)(st:au):∃(p:Nat) (cs:List Nat),p<=n/\cs.length=m/\cs.sum<=mo/\Z_ [.int cell,.int m,.int n,.int mo] st=.ok (.tup [.int p,.tup (aC cs)]) st:=by
 unfold Z_ jP eF zfu;generalize hB:(aG (bw 9 _) _:MS)=B;have Dd:(0:Int)<(n:Nat)+1:=by omega
 have gn1:∀s i,eU (.int i) (.int ((n:Nat)+1)) s=.ok (.int (i % ((n:Nat)+1))) s:=λs i=>yR s i _ Dd;have gn2:∀s i,eV (.int i) (.int ((n:Nat)+1)) s=.ok (.int (i / ((n:Nat)+1))) s:=λs i=>DQ s i _ ⟨Dd,by omega⟩;have mx:∀s,yQ [.int cell,.int 90] s=.ok (.int (mixed cell 90)) s:=λs=>T5 _ _ s (by omega) (by omega);have loop:∀(pl:D) (dg0:Int),∃(cs:List Nat) (dg:Int) (a8 a9:Option D),cs.length=m/\cs.sum<=mo/\dz (aK 8) B [] (j9 0 m) [some (.int cell),some (.int m),some (.int n),some (.int mo),some pl,some (.int mo),some (.int dg0),some (.loc st.length),none,none] (st++[.lst []])=.ok (.nx [some (.int cell),some (.int m),some (.int n),some (.int mo),some pl,some (.int ((mo:Nat) - (cs.sum:Nat))),some (.int dg),some (.loc st.length),a8,a9]) (st++[.lst (aC cs)]):=by
  intro pl dg0;obtain⟨dG,st',e1,cs,dg,a8,a9,h1,h2,rfl,hz⟩:=yO (g:=aK 8) (b:=B) (gs:=[]) (items:=j9 0 m)
   (λi env s=>∃(cs:List Nat) (dg:Int) (a8 a9:Option D),cs.length=i/\cs.sum<=mo/\env=[some (.int cell),some (.int m),some (.int n),some (.int mo),some pl,some (.int ((mo:Nat) - (cs.sum:Nat))),some (.int dg),some (.loc st.length),a8,a9]/\s=st++[.lst (aC cs)])
   (env:=[some (.int cell),some (.int m),some (.int n),some (.int mo),some pl,some (.int mo),some (.int dg0),some (.loc st.length),none,none]) (st:=st++[.lst []]) ⟨[],dg0,none,none,rfl,by simp,rfl,rfl⟩ (by
    rintro i d env s hi ⟨cs,dg,a8,a9,h1,h2,rfl,rfl⟩;obtain⟨hi',rfl⟩:=TJ hi;rw[Int.zero_add];have mm:∀s,yQ [.int cell,.int (91+(i:Nat))] s=.ok (.int (mixed cell (91+(i:Nat)))) s:=λs=>T5 _ _ s (by omega) (by omega);have hnn:=zll cell (91+(i:Nat));generalize mixed cell (91+(i:Nat))=sd at *;have Qq:(0:Int)<(mo:Nat) - (cs.sum:Nat)+1:=by omega
    have g1:∀s i,eU (.int i) (.int ((mo:Nat) - (cs.sum:Nat)+1)) s=.ok (.int (i % ((mo:Nat) - (cs.sum:Nat)+1))) s:=λs i=>yR s i _ Qq;have g2:∀s i,eV (.int i) (.int ((mo:Nat) - (cs.sum:Nat)+1)) s=.ok (.int (i / ((mo:Nat) - (cs.sum:Nat)+1))) s:=λs i=>DQ s i _ ⟨Qq,by omega⟩;have R8:(0:Int)<1+((mo:Nat) - (cs.sum:Nat)):=by omega
    have g3:∀s i,eU (.int i) (.int (1+((mo:Nat) - (cs.sum:Nat)))) s=.ok (.int (i % (1+((mo:Nat) - (cs.sum:Nat))))) s:=λs i=>yR s i _ R8;have hl:(aC cs).length<1000000:=by simp[aC];omega
    have q1:=mD sd (show 1+((mo:Nat) - (cs.sum:Int))≠0 by omega);have q2:=mX sd R8;have q3:=mD dg (show (mo:Nat) - (cs.sum:Int)+1≠0 by omega);have q4:=mX dg Qq;have go:∀(k:Int) (dg':Int),0<=k->k<=(mo:Nat) - (cs.sum:Nat)->B [some (.int cell),some (.int m),some (.int n),some (.int mo),some pl,some (.int ((mo:Nat) - (cs.sum:Nat))),some (.int dg),some (.loc st.length),some (.int i),a9] (st++[.lst (aC cs)])=.ok (.nx [some (.int cell),some (.int m),some (.int n),some (.int mo),some pl,some (.int ((mo:Nat) - (cs.sum:Nat) - k)),some (.int dg'),some (.loc st.length),some (.int i),some (.int k)]) (st++[.lst (aC cs++[.int k])]) ->
      ∃bF st2,(B [some (.int cell),some (.int m),some (.int n),some (.int mo),some pl,some (.int ((mo:Nat) - (cs.sum:Nat))),some (.int dg),some (.loc st.length),some (.int i),a9] (st++[.lst (aC cs)])=.ok (.nx bF) st2\/B [some (.int cell),some (.int m),some (.int n),some (.int mo),some pl,some (.int ((mo:Nat) - (cs.sum:Nat))),some (.int dg),some (.loc st.length),some (.int i),a9] (st++[.lst (aC cs)])=.ok (.cn bF) st2) /\
       ∃(cs:List Nat) (dg:Int) (a8 a9:Option D),cs.length=i+1/\cs.sum<=mo/\bF=[some (.int cell),some (.int m),some (.int n),some (.int mo),some pl,some (.int ((mo:Nat) - (cs.sum:Nat))),some (.int dg),some (.loc st.length),a8,a9]/\st2=st++[.lst (aC cs)]:=λk dg' yx KZ hb=>by
     obtain⟨k',rfl⟩:=m8 yx;refine⟨_,_,.inl hb,cs++[k'],dg',some (.int i),some (.int k'),by simp[h1],by simp;omega,?_,by simp[aC]⟩;have:(mo:Int) - (cs.sum:Nat) - (k':Nat)=(mo:Nat) - ((cs++[k']).sum:Nat):=by simp;omega
     rw[this]
    refine⟨by simp,_,_,rfl,?_⟩;generalize hS:(cs.sum:Int)=S at *;generalize hI:aC cs=I at *;have adR:([some (.int cell),some (.int m),some (.int n),some (.int mo),some pl,some (.int ((mo:Nat) - S)),some (.int dg),some (.loc st.length),a8,a9]:cg).set 8 (some (.int i))=[some (.int cell),some (.int m),some (.int n),some (.int mo),some pl,some (.int ((mo:Nat) - S)),some (.int dg),some (.loc st.length),some (.int i),a9]:=rfl;rw[adR];by_cases Ho:cell % 2=1
    ·refine go (sd % (1+((mo:Nat) - S))) (dg / ((mo:Nat) - S+1)) q1 (by omega) ?_;rw[<-hB];simp[mm,yR,DQ,g1,g2,g3,Ho,dM,aQ,hl]
    ·refine go (dg % ((mo:Nat) - S+1)) (dg / ((mo:Nat) - S+1)) q3 (by omega) ?_;rw[<-hB];simp[mm,yR,DQ,g1,g2,g3,Ho,dM,aQ,hl]) (λ_ _ _=>by simp)
  rw[Nq]at h1;rw[hz]at e1;exact⟨cs,dg,a8,a9,h1,h2,e1⟩
 have uw:-4611686018427387904<=(m:Int):=by omega
 have Dc:(m:Int)<4611686018427387904:=by omega
 have et:((m:Int)).toNat=m:=mF _;have fin:∀(pz:Int),0<=pz->pz<=(n:Nat)->∃p:Nat,pz=(p:Nat)/\p<=n:=λpz h1 h2=>by
  obtain⟨p,rfl⟩:=m8 h1;exact⟨p,rfl,by omega⟩
 rw[show startM 10 [D.int cell,.int m,.int n,.int mo]=[some (.int cell),some (.int m),some (.int n),some (.int mo),none,none,none,none,none,none] from rfl];by_cases hc:cell % 2=1
 ·obtain⟨p,hp,hpn⟩:=fin (mixed cell 90 % ((n:Nat)+1)) (mD _ (by omega)) (by have:=mX (mixed cell 90) Dd;omega);obtain⟨cs,dg,a8,a9,h1,h2,e1⟩:=loop (.int p) (cell / 4 / ((n:Nat)+1));refine⟨p,cs,hpn,h1,h2,?_⟩;have tp:jQ [.loc st.length] (st++[.lst (aC cs)])=.ok (.tup (aC cs)) (st++[.lst (aC cs)]):=ze8 _ _ _ (by simp[aq]);have yz:gc st (.ok (.tup [.int p,.tup (aC cs)]) (st++[.lst (aC cs)]))=.ok (.tup [.int p,.tup (aC cs)]) st:=Hv (by simp[zem]);generalize (st++[.lst (aC cs)]:au)=Z9 at *;generalize aC cs=I at *;simp[DQ,yR,gn1,gn2,hc,mx,hp,uw,Dc,et,e1,tp];exact yz
 ·obtain⟨p,hp,hpn⟩:=fin (cell / 4 % ((n:Nat)+1)) (mD _ (by omega)) (by have:=mX (cell / 4) Dd;omega);obtain⟨cs,dg,a8,a9,h1,h2,e1⟩:=loop (.int p) (cell / 4 / ((n:Nat)+1));refine⟨p,cs,hpn,h1,h2,?_⟩;have tp:jQ [.loc st.length] (st++[.lst (aC cs)])=.ok (.tup (aC cs)) (st++[.lst (aC cs)]):=ze8 _ _ _ (by simp[aq]);have yz:gc st (.ok (.tup [.int p,.tup (aC cs)]) (st++[.lst (aC cs)]))=.ok (.tup [.int p,.tup (aC cs)]) st:=Hv (by simp[zem]);generalize (st++[.lst (aC cs)]:au)=Z9 at *;generalize aC cs=I at *;simp[DQ,yR,gn1,gn2,hc,hp,uw,Dc,et,e1,tp];exact yz
end Law
set_option maxHeartbeats 0
namespace Law
open L2 M NK NS
def q9(l:List Nat):List D:=l.map λx=>D.int (x:Nat)
def WS(st:au)(pre:List (Nat×List Nat))(bB:List Nat)(p:Nat)(cs:List Nat):au:=st++[.lst (pre.map stC++[stC (p,cs)]),.lst (q9 bB)]
def P0(cs:List Nat)(h:1<=cs.length):14<=cI cs*(2*cI cs+3):=by
 have:2<=cI cs:=by unfold cI;omega
 exact (show 2*7<=_ from Nat.mul_le_mul this (by omega))
def P_(cs:List Nat)(h:cI cs<=109):cI cs*(2*cI cs+3)<=24089:=(show _<=109*221 from Nat.mul_le_mul h (by omega))
def Nv(rows:List Rw)(n m p0:Nat)(jN:List Nat)(st:au)(h:st[n]? = some (.lst (rows.map aJ)))(hr:∀r∈rows,r.c+1<=m/\r.t<=rows.length/\r.f<=rows.length)(hp0:p0<=rows.length)(W9:jN.length=m)(Qo:jN.sum<=60)(hm1:1<=m)(hm:m<=6) :
  ∃pre bB sp p cs,Wc rows p0 jN pre bB sp p cs/\p<=rows.length/\cs.length=m/\pre.length<=43/\sp<=25000/\zcs [.loc n,stC (p0,jN)] st=.ok (.tup [.loc st.length,.loc (st.length+1)]) (WS st pre bB p cs):=by
 unfold zcs jP eF zb3;generalize hC:(oZ _:MT)=C;generalize hB:(aG (bw 5 _) _:MS)=B;have hW:∀pre bB p cs,(WS st pre bB p cs)[st.length]? = some (.lst (pre.map stC++[stC (p,cs)]))/\(WS st pre bB p cs)[st.length+1]? = some (.lst (q9 bB)):=λpre bB p cs=>by
  unfold WS;exact⟨by rw[gw (gf _)];simp,by rw[gw (by omega)];simp⟩
 have i1:∀pre bB p cs,bz (.loc st.length) (.int (-1)) (WS st pre bB p cs)=.ok (stC (p,cs)) (WS st pre bB p cs):=λpre bB p cs=>zM _ _ _ _ _ (by unfold aq;rw[(hW pre bB p cs).1]) (TV _ _)
 let EN:Nat->Option D->Option D->cg:=λsp a5 a6=>[some (.loc n),some (stC (p0,jN)),some (.loc st.length),some (.loc (st.length+1)),some (.int (sp:Nat)),a5,a6]
 have Xf:∀sp a5 a6 (Z:au),C (EN sp a5 a6) Z=.ok (decide (sp<600)) Z:=λsp a5 a6 Z=>by
  rw[<-hC];simp only[EN];by_cases h2:sp<600
  ·have h2':(sp:Int)<600:=by omega
   generalize (sp:Int)=TT at *;simp[h2,h2']
  ·have h2':¬ (sp:Int)<600:=by omega
   generalize (sp:Int)=TT at *;simp[h2,h2']
 have hgn:∀pre bB p cs,aq (WS st pre bB p cs) n=some (rows.map aJ):=λpre bB p cs=>by
  unfold aq WS;rw[fZ h]
 have Xg:∀pre bB cs sp (a5 a6:Option D),B (EN sp a5 a6) (WS st pre bB rows.length cs)=.ok (.bk (EN sp (some .non) a6)) (WS st pre bB rows.length cs):=λpre bB cs sp a5 a6=>by
  rw[<-hB];have a1:=i1 pre bB rows.length cs;have a3:=zlt rows n cs (WS st pre bB rows.length cs) (hgn _ _ _ _);simp only[EN];generalize WS st pre bB rows.length cs=Z at *;generalize stC (p0,jN)=S0 at *;generalize stC (rows.length,cs)=S1 at *;simp[a1,a3]
 have adJ:∀pre bB p cs r sp (a5 a6:Option D),rows[p]? = some r->cs.length=m->pre.length<1000->bB.length<1000->cI cs<=1000->sp<=1000 ->
   B (EN sp a5 a6) (WS st pre bB p cs)=.ok (.nx (EN (sp+cI cs*(2*cI cs+3)) (some (stC ((bC r cs).2,(bC r cs).1))) (some (.int (cI cs:Nat))))) (WS st (pre++[(p,cs)]) (bB++[cI cs]) (bC r cs).2 (bC r cs).1):=λpre bB p cs r sp a5 a6 hp uc qH hlp hlc Gi=>by
  rw[<-hB];have a1:=i1 pre bB p cs;have a3:Np [.loc n,stC (p,cs)] (WS st pre bB p cs)=.ok (stC ((bC r cs).2,(bC r cs).1)) (WS st pre bB p cs):=zmx rows n p m r cs (WS st pre bB p cs) (hgn _ _ _ _) hp uc (hr r (gM hp)).1 (by omega);have Nf:∀s,bz (stC (p,cs)) (.int 1) s=.ok (.tup (aC cs)) s:=λs=>qb s 1 _ _ rfl;have ad9:∀s,bz (stC (p0,jN)) (.int 1) s=.ok (.tup (aC jN)) s:=λs=>qb s 1 _ _ rfl;have a5':∀s,cO [.tup (aC jN)] s=.ok (.int cs.length) s:=λs=>by
   have:cO [.tup (aC jN)] s=.ok (.int (aC jN).length) s:=rfl;rw[this];simp[aC,W9,uc]
  have Q6:=Ei cs;have a7:∀s,jF (stC ((bC r cs).2,(bC r cs).1)) .non s=.ok (.bl false) s:=λs=>rfl
  let Z1:au:=st++[.lst (pre.map stC++[stC (p,cs)]),.lst (q9 (bB++[cI cs]))]
  have a8:aQ (.loc (st.length+1)) [.int (cI cs:Nat)] (WS st pre bB p cs)=.ok .non Z1:=by
   simp only[aQ,(hW pre bB p cs).2];rw[ae9 (by simp[q9];omega)];unfold WS;rw[kZ _ _ (by omega)];simp[Z1,q9]
  have a9:aQ (.loc st.length) [stC ((bC r cs).2,(bC r cs).1)] Z1=.ok .non (WS st (pre++[(p,cs)]) (bB++[cI cs]) (bC r cs).2 (bC r cs).1):=by
   have e:Z1[st.length]? = some (.lst (pre.map stC++[stC (p,cs)])):=by simp only[Z1];rw[gw (gf _)];simp
   simp only[aQ,e];rw[ae9 (by simp;omega)];simp only[Z1];rw[kZ _ _ (gf _)];simp[WS]
  have t1:dM "list" (.loc (st.length+1)) (WS st pre bB p cs)=true:=by simp[dM,(hW pre bB p cs).2]
  have t2:dM "list" (.loc st.length) Z1=true:=by
   have e:Z1[st.length]? = some (.lst (pre.map stC++[stC (p,cs)])):=by simp only[Z1];rw[gw (gf _)];simp
   simp[dM,e]
  have ea:(1:Int)+(cs.length:Int)+(cs.sum:Int)=((cI cs:Nat):Int):=by unfold cI;omega
  have mm:∀s,jR (.int 2) (.int (cI cs:Nat)) s=.ok (.int (2*(cI cs:Nat))) s:=λs=>Nr s _ _ (by omega);have mm2:∀s,jR (.int (cI cs:Nat)) (.int (2*(cI cs:Nat)+3)) s=.ok (.int ((cI cs:Nat)*(2*(cI cs:Nat)+3))) s:=λs=>Nr s _ _ (by omega);have eb:(sp:Int)+((cI cs:Nat):Int)*(2*(cI cs:Nat)+3)=((sp+cI cs*(2*cI cs+3):Nat):Int):=by push_cast;rfl
  simp only[EN];generalize WS st (pre++[(p,cs)]) _ _ _=Z2 at *;generalize Z1=Z1' at *;generalize WS st pre bB p cs=Z0 at *;generalize stC (p0,jN)=S0 at *;generalize stC (p,cs)=S1 at *;generalize stC ((bC r cs).2,(bC r cs).1)=S2 at *;generalize ((sp+cI cs*(2*cI cs+3):Nat):Int)=T2 at *;generalize (sp:Int)=T1 at *;generalize (cs.length:Int)=CL at *;generalize (cs.sum:Int)=CS at *;generalize ((cI cs:Nat):Int)=LL at *;generalize aC cs=I at *;generalize aC jN=I0 at *;generalize st.length+1=L1 at *;simp[a1,a3,Nf,ad9,a5',Q6,a7,ea,eb,a8,a9,t1,t2,mm,mm2]
 have loop:∀(k:Nat) (pre:List (Nat×List Nat)) (bB:List Nat) (sp p:Nat) (cs:List Nat) (a5 a6:Option D),600 - sp<=k->Wc rows p0 jN pre bB sp p cs->p<=rows.length->cs.length=m->cs.sum<=60+pre.length->bB.length=pre.length->14*pre.length<=sp->pre.length<=43->sp<=25000 ->
   ∃Ji Cu Ru p' Lx a5' Q6,Wc rows p0 jN Ji Cu Ru p' Lx/\p'<=rows.length/\Lx.length=m/\Ji.length<=43/\Ru<=25000/\dq C B (EN sp a5 a6) (WS st pre bB p cs)=.ok (.nx (EN Ru a5' Q6)) (WS st Ji Cu p' Lx):=by
  intro k
  induction k with
  | zero =>
   intro pre bB sp p cs a5 a6 hk hw hp hl hs De h14 wZ Gi;refine⟨pre,bB,sp,p,cs,a5,a6,hw,hp,hl,wZ,Gi,?_⟩;rw[Yd,Xf,R.aD,afd (by omega)];rfl
  | succ k ih =>
   intro pre bB sp p cs a5 a6 hk hw hp hl hs De h14 wZ Gi;by_cases hT2:sp<600
   ·by_cases qH:p<rows.length
    ·obtain⟨r,uw⟩:∃r,rows[p]? = some r:=⟨rows[p],kj qH⟩;have Ww:=hr r (gM uw);have bV:=zjn r cs (by omega);have hlm:=P0 cs (by omega);have hl9:cI cs<=109:=by unfold cI;omega
     have hlx:=P_ cs hl9;obtain⟨Ji,Cu,Ru,p',Lx,a5',Q6,g1,g2,g3,g4,g5,g6⟩:=ih (pre++[(p,cs)]) (bB++[cI cs]) (sp+cI cs*(2*cI cs+3)) (bC r cs).2 (bC r cs).1 (some (stC ((bC r cs).2,(bC r cs).1))) (some (.int (cI cs:Nat))) (by omega) (.snoc hw uw) (by
      unfold bC
      split
      ·exact Ww.2.1
      ·split
       ·exact Ww.2.2
       ·exact Ww.2.1) (by rw[zl6];exact hl) (by rw[gh,mq];omega) (by simp[De]) (by rw[gh,mq];omega) (by rw[gh,mq];omega) (by omega)
     refine⟨Ji,Cu,Ru,p',Lx,a5',Q6,g1,g2,g3,g4,g5,?_⟩;rw[Yd,Xf,R.aD,afu hT2,ae9 rfl,adJ pre bB p cs r sp a5 a6 uw hl (by omega) (by omega) (by omega) (by omega),R.aD];exact g6
    ·have:p=rows.length:=by omega
     subst this;refine⟨pre,bB,sp,rows.length,cs,some .non,a6,hw,hp,hl,wZ,Gi,?_⟩;rw[Yd,Xf,R.aD,afu hT2,ae9 rfl,Xg,R.aD]
   ·refine⟨pre,bB,sp,p,cs,a5,a6,hw,hp,hl,wZ,Gi,?_⟩;rw[Yd,Xf,R.aD,afd hT2];rfl
 obtain⟨pre,bB,sp,p,cs,a5,a6,g1,g2,g3,g4,g5,g6⟩:=loop 600 [] [] 0 p0 jN none none (by omega) .nil hp0 W9 (by simpa using Qo) rfl (by simp) (by simp) (by omega);refine⟨pre,bB,sp,p,cs,g1,g2,g3,g4,g5,?_⟩;have yz:gc st (.ok (.tup [.loc st.length,.loc (st.length+1)]) (WS st pre bB p cs))=.ok (.tup [.loc st.length,.loc (st.length+1)]) (WS st pre bB p cs):=by
  unfold gc;dsimp only;rw[ae_ (λz=>by have:=z.2;simp at this)]
 have e0:WS st [] [] p0 jN=st++[.lst [stC (p0,jN)],.lst []]:=by simp[WS,q9]
 rw[e0]at g6;simp only[EN]at g6;rw[show startM 7 [D.loc n,stC (p0,jN)]=[some (.loc n),some (stC (p0,jN)),none,none,none,none,none] from rfl];generalize WS st pre bB p cs=Z9 at *;generalize stC (p0,jN)=S0 at *;have g6':dq C B [some (D.loc n),some S0,some (D.loc st.length),some (D.loc (st.length+1)),some (D.int 0),none,none] (st++[.lst [S0],.lst []])=_:=g6;simp[g6'];exact yz
end Law
set_option maxHeartbeats 0
namespace Law
open L2 M NK NS
def Uj(h:Way RL x L y):∀k,k<L.length->∃a b,(L++[y])[k]? = some a/\(L++[y])[k+1]? = some b/\Stp RL a b:=by
 induction h with
 | nil x=>intro k hk;simp at hk
 | @cons x z y l hs hw ih =>
  intro k hk;cases k with
  | zero =>
   refine⟨x,z,rfl,?_,hs⟩;cases hw with
   | nil=>rfl
   | cons _ _=>rfl
  | succ k =>
   obtain⟨a,b,h1,h2,h3⟩:=ih k (by simpa using hk);exact⟨a,b,by simpa using h1,by simpa using h2,h3⟩
def zmy(h:Way RL x L y):(L++[y])[0]? = some x:=by
 cases h with
 | nil=>rfl
 | cons _ _=>rfl
def kR(r:Rl):List Key:=[.inl (r.s:Int),.inr (strOf [r.x])]
def vR(r:Rl):D:=.tup [.str r.w,.int r.g]
def RS(st:au)(kvs:List (List Key×D))(fl:List Mk):au:=st++[.dic kvs,.lst (fl.map λq=>iI q.2.1 q.2.2),.lst (fl.map λq=>D.int (q.1:Nat))]
def NQ(RL:List Rl)(one:∀r∈RL,∀r'∈RL,r.s=r'.s->r.x=r'.x->r.w=r'.w/\r.g=r'.g)(n m:Nat)(sd:D)(st:au)(hn:st[n]? = some (.lst (RL.map bW)))(hl:RL.length<=1000)(B:MS)
  (hB:(iV (bZ (aj (vr 6) (aj (vr 7) az))) (qT jd (vr 3) (bZ (aj (vr 4) (aj (vr 5) az)))):MS)=B) :
  ∃kvs a4 a5 a6 a7,(∀r∈RL,iJ kvs (kR r)=some (vR r))/\(∀k,aU k (.dic kvs))/\dz (oF 4 (bQ (aK 4) (bQ (aK 5) (bQ (aK 6) (bQ (aK 7) o4))))) B [(n,.lst (RL.map bW))] (RL.map bW) [some (.loc n),some sd,some (.loc m),some (.loc st.length),none,none,none,none,none,none,none,none,none] (st++[.dic []]) =
   .ok (.nx [some (.loc n),some sd,some (.loc m),some (.loc st.length),a4,a5,a6,a7,none,none,none,none,none]) (st++[.dic kvs]):=by
 obtain⟨dG,st',e1,kvs,a4,a5,a6,a7,hv,hu,hk,rfl,rfl⟩:=yO (g:=oF 4 (bQ (aK 4) (bQ (aK 5) (bQ (aK 6) (bQ (aK 7) o4))))) (b:=B) (gs:=[(n,.lst (RL.map bW))]) (items:=RL.map bW)
  (λi env s=>∃(kvs:List (List Key×D)) (a4 a5 a6 a7:Option D),(∀r∈RL.take i,iJ kvs (kR r)=some (vR r))/\(∀k,aU k (.dic kvs))/\kvs.length<=i /\
   env=[some (.loc n),some sd,some (.loc m),some (.loc st.length),a4,a5,a6,a7,none,none,none,none,none]/\s=st++[.dic kvs])
  (env:=[some (.loc n),some sd,some (.loc m),some (.loc st.length),none,none,none,none,none,none,none,none,none]) (st:=st++[.dic []]) ⟨[],none,none,none,none,by simp,(λk p hp=>by simp at hp),by simp,rfl,rfl⟩ (by
   rintro i d env s hi ⟨kvs,a4,a5,a6,a7,hv,hu,hk,rfl,rfl⟩;rw[gH]at hi;obtain⟨q,R7,rfl⟩:=gO.mp hi;have sy:=gM R7;have Df:=(gk.mp R7).1;have hs:jd (.loc st.length) (.tup [.int q.s,.str [q.x]]) (vR q) (st++[.dic kvs])=.ok () (st++[.dic (rY kvs (kR q) (vR q))]):=by
    have hb:(st++[MO.dic kvs])[st.length]? = some (.dic kvs):=by simp
    have W4:keysOf [.int q.s,.str [q.x]]=some (kR q):=rfl;simp only[jd,hb,W4];rw[ae9 (by omega)];simp
   refine⟨by simp[fZ hn],[some (.loc n),some sd,some (.loc m),some (.loc st.length),some (.int q.s),some (.str [q.x]),some (.str q.w),some (.int q.g),none,none,none,none,none],st++[.dic kvs],by simp[bW],[some (.loc n),some sd,some (.loc m),some (.loc st.length),some (.int q.s),some (.str [q.x]),some (.str q.w),some (.int q.g),none,none,none,none,none],st++[.dic (rY kvs (kR q) (vR q))],.inl ?_,_,_,_,_,_,?_,?_,by have:=Jd kvs (kR q) (vR q);omega,rfl,rfl⟩
   ·rw[<-hB];unfold vR at hs ⊢;generalize (st++[.dic (rY kvs (kR q) _)]:au)=Z2 at *;generalize (st++[.dic kvs]:au)=Z1 at *;simp[hs]
   ·intro b hb;rw[Ea];rw[mz,R7]at hb;by_cases e:kR q=kR b
    ·rw[ae9 e];have hbm:b∈RL:=by
      rcases gm.mp hb with hb | hb
      ·exact List.mem_of_mem_take hb
      ·have:b=q:=by simpa using hb
       rw[this];exact sy
     unfold kR at e;simp only[List.cons.injEq,Sum.inl.injEq,Sum.inr.injEq,zfz,and_true]at e;obtain⟨o1,o2⟩:=one q sy b hbm (by omega) e.2;unfold vR;rw[o1,o2]
    ·rw[ae_ e];rcases gm.mp hb with hb | hb
     ·exact hv b hb
     ·have:b=q:=by simpa using hb
      exact absurd (by rw[this]) e
   ·intro k p hp;rcases Jc hp with hp | hp
    ·exact hu k p hp
    ·rw[hp];simp[vR]) (λ_ _ zz=>by obtain⟨_,_,_,_,_,_,_,_,_,e⟩:=zz;rw[e];simp[fZ hn])
 rw[gq,m9]at hv;exact⟨kvs,a4,a5,a6,a7,hv,hu,e1⟩
def Iw(RL:List Rl)(n m:Nat)(sd:D)(st:au)(kvs:List (List Key×D))(hv:∀r∈RL,iJ kvs (kR r)=some (vR r))(hw:∀r∈RL,r.w.length<=8)(B:MS)
  (hB:(aG (iV (aM bz (vr 8) (yj qd (ct (.int 1)))) (oF 2 (bQ (aK 4) (bQ (aK 12) o4))))
  (aG (tB (oZ (aM (vp true) (bZ (aj (vr 4) (aj (yd (vr 12) yS (xO (ct (.int 1)))) az))) (vr 3))) (retS (bZ (aj (eO az) (aj (eO az) az)))) cR)
  (aG (iV (aM Kz (vr 3) (bZ (aj (vr 4) (aj (yd (vr 12) yS (xO (ct (.int 1)))) az)))) (oF 2 (bQ (aK 6) (bQ (aK 7) o4))))
  (aG (cF (bM "list" aQ (vr 9) (aj (aM bH (aM bH (aM bH (aM bz (vr 9) (yj qd (ct (.int 1)))) (aM jR (ct (.int 2)) (bL cO (aj (vr 12) az)))) (aM jR (ct (.int 2)) (bL cO (aj (vr 6) az)))) (ct (.int 1))) az)))
  (cF (bM "list" aQ (vr 8) (aj (bZ (aj (vr 7) (aj (aM bH (yd (vr 12) (xO (ct (.int 1))) yS) (vr 6)) az))) az)))))):MS)=B)
  (pre:List Mk) (a b:Mk) (hs:Stp RL a b) (hl:a.2.2.length<=750) (hp:pre.length<=100000) (a4 a5 a6 a7 qJ u_ Bc:Option D) :
  ∃Nf Q6 a7' XH,B [some (.loc n),some sd,some (.loc m),some (.loc st.length),a4,a5,a6,a7,some (.loc (st.length+1)),some (.loc (st.length+2)),qJ,u_,Bc] (RS st kvs (pre++[a])) =
   .ok (.nx [some (.loc n),some sd,some (.loc m),some (.loc st.length),Nf,a5,Q6,a7',some (.loc (st.length+1)),some (.loc (st.length+2)),qJ,u_,XH]) (RS st kvs (pre++[a]++[b])):=by
 obtain⟨at_,s,row⟩:=a;obtain⟨r,hr,rest,e1,e2,rfl⟩:=hs;simp only at e1 e2 hl;subst e1 e2;refine⟨some (.int r.s),some (.str r.w),some (.int r.g),some (.str (r.x::rest)),?_⟩;rw[<-hB];have hwr:=hw r hr;have hl':rest.length<=750:=by simp at hl;omega
 have W0:∀fl,(RS st kvs fl)[st.length]? = some (.dic kvs):=λfl=>by unfold RS;rw[gw (gf _)];simp
 have W1:∀fl,(RS st kvs fl)[st.length+1]? = some (.lst (fl.map λq=>iI q.2.1 q.2.2)):=λfl=>by unfold RS;rw[gw (by omega)];simp
 have W2:∀fl,(RS st kvs fl)[st.length+2]? = some (.lst (fl.map λq=>D.int (q.1:Nat))):=λfl=>by unfold RS;rw[gw (by omega)];simp
 have i1:bz (.loc (st.length+1)) (.int (-1)) (RS st kvs (pre++[(at_,r.s,r.x::rest)]))=.ok (.tup [.int r.s,.str (r.x::rest)]) (RS st kvs (pre++[(at_,r.s,r.x::rest)])):=zM _ _ _ _ _ (by unfold aq;rw[W1]) (by rw[gZ];exact TV _ _);have i2:bz (.loc (st.length+2)) (.int (-1)) (RS st kvs (pre++[(at_,r.s,r.x::rest)]))=.ok (.int at_) (RS st kvs (pre++[(at_,r.s,r.x::rest)])):=zM _ _ _ _ _ (by unfold aq;rw[W2]) (by rw[gZ];exact TV _ _);have k1:vp true (.tup [.int r.s,.str [r.x]]) (.loc st.length) (RS st kvs (pre++[(at_,r.s,r.x::rest)]))=.ok (.bl false) (RS st kvs (pre++[(at_,r.s,r.x::rest)])):=by
  have W4:keysOf [.int r.s,.str [r.x]]=some (kR r):=rfl;simp only[vp,W0,W4,hv r hr];rfl
 have k2:Kz (.loc st.length) (.tup [.int r.s,.str [r.x]]) (RS st kvs (pre++[(at_,r.s,r.x::rest)]))=.ok (.tup [.str r.w,.int r.g]) (RS st kvs (pre++[(at_,r.s,r.x::rest)])):=by
  have W4:keysOf [.int r.s,.str [r.x]]=some (kR r):=rfl;simp only[Kz,W0,W4,hv r hr];rfl
 have s1:∀z,vG (.str (r.x::rest)) none (some 1) z=.ok (.str [r.x]) z:=λz=>by
  rw[Hg z _ _ _ (by simp;omega)];have:=M.znj (r.x::rest) 1 (by simp);exact congrArg (λq=>R.ok (D.str q) z) this
 have s2:∀z,vG (.str (r.x::rest)) (some 1) none z=.ok (.str rest) z:=λz=>by
  rw[Hg z _ _ _ (by simp;omega)];have:=M.ZS (r.x::rest) 1;exact congrArg (λq=>R.ok (D.str q) z) this
 have n1:∀z,cO [.str (r.x::rest)] z=.ok (.int ((rest.length+1:Nat):Int)) z:=λz=>by show uH [.str (r.x::rest)] z=_;rw[zi1 z _ (by simp;omega)];simp
 have n2:∀z,cO [.str r.w] z=.ok (.int (r.w.length:Nat)) z:=λz=>by show uH [.str r.w] z=_;rw[zi1 z _ (by omega)]
 have m1:∀z,jR (.int 2) (.int ((rest.length+1:Nat):Int)) z=.ok (.int (2*((rest.length+1:Nat):Int))) z:=λz=>Nr z _ _ (by omega);have m2:∀z,jR (.int 2) (.int (r.w.length:Nat)) z=.ok (.int (2*(r.w.length:Nat))) z:=λz=>Nr z _ _ (by omega);have ea:(at_:Int)+2*((rest.length+1:Nat):Int)+2*((r.w.length:Nat):Int)+1=((at_+lU r rest:Nat):Int):=by unfold lU;omega
 have ad:∀z,bH (.str rest) (.str r.w) z=.ok (.str (rest++r.w)) z:=λz=>Rf z _ _ (by omega)
 let Z1:au:=st++[.dic kvs,.lst ((pre++[(at_,r.s,r.x::rest)]).map λq=>iI q.2.1 q.2.2),.lst ((pre++[(at_,r.s,r.x::rest)]++[(at_+lU r rest,r.g,rest++r.w)]).map λq=>D.int (q.1:Nat))]
 have p1:aQ (.loc (st.length+2)) [.int ((at_+lU r rest:Nat):Int)] (RS st kvs (pre++[(at_,r.s,r.x::rest)]))=.ok .non Z1:=by
  simp only[aQ,W2];rw[ae9 (by simp;omega)];unfold RS;rw[kZ _ _ (by omega)];simp[Z1]
 have q1:Z1[st.length+1]? = some (.lst ((pre++[(at_,r.s,r.x::rest)]).map λq=>iI q.2.1 q.2.2)):=by simp only[Z1];rw[gw (by omega)];simp
 have p2:aQ (.loc (st.length+1)) [.tup [.int r.g,.str (rest++r.w)]] Z1=.ok .non (RS st kvs (pre++[(at_,r.s,r.x::rest)]++[(at_+lU r rest,r.g,rest++r.w)])):=by
  simp only[aQ,q1];rw[ae9 (by simp;omega)];simp only[Z1];rw[kZ _ _ (by omega)];simp[RS,iI]
 have t1:dM "list" (.loc (st.length+2)) (RS st kvs (pre++[(at_,r.s,r.x::rest)]))=true:=by simp[dM,W2]
 have t2:dM "list" (.loc (st.length+1)) Z1=true:=by simp[dM,q1]
 simp only;generalize RS st kvs (pre++[(at_,r.s,r.x::rest)]++_)=Z2 at *;generalize Z1=Z1' at *;generalize RS st kvs (pre++[(at_,r.s,r.x::rest)])=Z0 at *;generalize ((at_+lU r rest:Nat):Int)=T2 at *;generalize ((rest.length+1:Nat):Int)=RL1 at *;generalize ((r.w.length:Nat):Int)=WL at *;generalize (at_:Int)=AT at *;generalize (r.x::rest)=row at *;generalize st.length+1=L1 at *;generalize st.length+2=L2 at *;generalize (rest++r.w)=aez at *;simp[i1,i2,k1,k2,s1,s2,n1,n2,m1,m2,ea,ad,p1,p2,t1,t2]
end Law
set_option maxHeartbeats 0
namespace Law
open L2 M NK NS
def ER(n m l:Nat)(sd:D)(a4 a5 a6 a7 qJ u_ Bc:Option D):cg:=[some (.loc n),some sd,some (.loc m),some (.loc l),a4,a5,a6,a7,some (.loc (l+1)),some (.loc (l+2)),qJ,u_,Bc]
def H_(l:List Nat)(i v:Nat)(h:l[i]? = some v):(l.take (i+1)).sum=(l.take i).sum+v/\(l.take (i+1)).sum<=l.sum:=by
 have e:(l.take (i+1)).sum=(l.take i).sum+v:=by rw[mz,h,List.sum_append];simp
 refine⟨e,?_⟩;have:=congrArg List.sum (pQ (i+1) l);rw[List.sum_append]at this;omega
def zm9(one:∀r∈RL,∀r'∈RL,r.s=r'.s->r.x=r'.x->r.w=r'.w/\r.g=r'.g)(Qn:∀r∈RL,r.w.length<=8)(hRl:RL.length<=1000)(h:Way RL (0,s0,oG) L y)(vy:∀z∈L,z.2.2.length<=750) 
  (bB:List Nat) (hs:L.length=bB.sum) (Gh:bB.sum<=90000) (n m:Nat) (st:au) (hn:st[n]? = some (.lst (RL.map bW))) (hm:st[m]? = some (.lst (q9 bB))) :
  ∃kvs,(∀k,aU k (.dic kvs))/\zei [.loc n,iI s0 oG,.loc m] st=.ok (.tup [.loc (st.length+1),.loc (st.length+2)]) (RS st kvs (L++[y])):=by
 unfold zei jP eF zdo;generalize hB1:(iV (bZ (aj (vr 6) (aj (vr 7) az))) _:MS)=B1;generalize hB:(aG (iV (aM bz (vr 8) _) _) _:MS)=B;obtain⟨kvs,a4,a5,a6,a7,hv,hu,e1⟩:=NQ RL one n m (iI s0 oG) st hn hRl B1 hB1;have step:=Iw RL n m (iI s0 oG) st kvs hv Qn B hB;have fl:∀k a,(L++[y])[k]? = some a->(L++[y]).take (k+1)=(L++[y]).take k++[a]:=λk a hk=>by rw[mz,hk];rfl
 have R5:∀(k0 zj:Nat),k0+zj<=L.length->∀(a4 a5 a6 a7 qJ u_ Bc:Option D),∃Nf Q6 a7' aec XH,dz (aK 11) B [] (j9 0 zj) (ER n m st.length (iI s0 oG) a4 a5 a6 a7 qJ u_ Bc) (RS st kvs ((L++[y]).take (k0+1))) =
   .ok (.nx (ER n m st.length (iI s0 oG) Nf a5 Q6 a7' qJ aec XH)) (RS st kvs ((L++[y]).take (k0+zj+1))):=by
  intro k0 zj hk a4 a5 a6 a7 qJ u_ Bc;obtain⟨dG,st',e,b4,b6,b7,Hq,Dr,rfl,rfl⟩:=yO (g:=aK 11) (b:=B) (gs:=[]) (items:=j9 0 zj)
   (λi env s=>∃(b4 b6 b7 Hq Dr:Option D),env=ER n m st.length (iI s0 oG) b4 a5 b6 b7 qJ Hq Dr/\s=RS st kvs ((L++[y]).take (k0+i+1)))
   (env:=ER n m st.length (iI s0 oG) a4 a5 a6 a7 qJ u_ Bc) (st:=RS st kvs ((L++[y]).take (k0+1))) ⟨_,_,_,_,_,rfl,rfl⟩ (by
    rintro i d env s hi ⟨b4,b6,b7,Hq,Dr,rfl,rfl⟩;obtain⟨Df,rfl⟩:=TJ hi;obtain⟨a,b,h1,h2,h3⟩:=Uj h (k0+i) (by omega);have hLa:a.2.2.length<=750:=by
     rw[gP (by omega)]at h1;exact vy a (gM h1)
    have hlen:L.length<=90000:=by omega
    obtain⟨c4,c6,c7,c12,hb⟩:=step ((L++[y]).take (k0+i)) a b h3 hLa (by rw[m6];omega) b4 a5 b6 b7 qJ (some (.int (0+(i:Nat)))) Dr;refine⟨by simp,ER n m st.length (iI s0 oG) b4 a5 b6 b7 qJ (some (.int (0+(i:Nat)))) Dr,RS st kvs ((L++[y]).take (k0+i+1)),by simp[ER],ER n m st.length (iI s0 oG) c4 a5 c6 c7 qJ (some (.int (0+(i:Nat)))) c12,RS st kvs ((L++[y]).take (k0+(i+1)+1)),.inl ?_,_,_,_,_,_,rfl,rfl⟩;rw[fl _ _ h1,show k0+(i+1)+1=(k0+i+1)+1 by omega,fl _ _ h2,fl _ _ h1];exact hb) (λ_ _ _=>by simp)
  rw[Nq]at e;exact⟨_,_,_,_,_,e⟩
 obtain⟨dG,st',e2,b4,b6,b7,b10,Hq,Dr,rfl,rfl⟩:=yO (g:=aK 10) (b:=jT (iK (aj (vr 10) az)) (aK 11) B) (gs:=[(m,.lst (q9 bB))]) (items:=q9 bB)
  (λi env s=>∃(b4 b6 b7 b10 Hq Dr:Option D),env=ER n m st.length (iI s0 oG) b4 a5 b6 b7 b10 Hq Dr/\s=RS st kvs ((L++[y]).take ((bB.take i).sum+1)))
  (env:=ER n m st.length (iI s0 oG) a4 a5 a6 a7 none none none) (st:=RS st kvs ((L++[y]).take 1)) ⟨_,_,_,_,_,_,rfl,by simp⟩ (by
   rintro i d env s hi ⟨b4,b6,b7,b10,Hq,Dr,rfl,rfl⟩;unfold q9 at hi;rw[gH]at hi;obtain⟨zj,hl,rfl⟩:=gO.mp hi;obtain⟨t1,t2⟩:=H_ bB i zj hl;obtain⟨c4,c6,c7,c11,c12,hb⟩:=R5 (bB.take i).sum zj (by omega) b4 a5 b6 b7 (some (.int zj)) Hq Dr;have g1:-4611686018427387904<=(zj:Int):=by omega
   have g2:(zj:Int)<4611686018427387904:=by omega
   have er:∀Z,iK (aj (vr 10) az) (ER n m st.length (iI s0 oG) b4 a5 b6 b7 (some (.int zj)) Hq Dr) Z=.ok (j9 0 zj,[]) Z:=λZ=>by
    generalize iI s0 oG=SD;simp[ER,g1,g2]
   refine⟨by unfold RS;simp[fZ hm],ER n m st.length (iI s0 oG) b4 a5 b6 b7 (some (.int zj)) Hq Dr,RS st kvs ((L++[y]).take ((bB.take i).sum+1)),by simp[ER],_,_,.inl ?_,c4,c6,c7,some (.int zj),c11,c12,rfl,rfl⟩;unfold jT;rw[er,R.aD,t1];exact hb) (λ_ _ zz=>by obtain⟨_,_,_,_,_,_,_,e⟩:=zz;rw[e];unfold RS;simp[fZ hm])
 have Df:(q9 bB).length=bB.length:=by simp[q9]
 have tf:(L++[y]).take (L.length+1)=L++[y]:=nH (by simp);rw[Df,m9,<-hs,tf]at e2;refine⟨kvs,hu,?_⟩;have yz:gc st (.ok (.tup [.loc (st.length+1),.loc (st.length+2)]) (RS st kvs (L++[y])))=.ok (.tup [.loc (st.length+1),.loc (st.length+2)]) (RS st kvs (L++[y])):=by
  unfold gc;dsimp only;rw[ae_ (λz=>by have:=z.2;simp at this;omega)]
 have f0:(L++[y]).take 1=[(0,s0,oG)]:=by
  have:=fl 0 _ (zmy h);simpa using this
 rw[f0]at e2;have e0:RS st kvs [(0,s0,oG)]=st++[.dic kvs,.lst [iI s0 oG],.lst [.int 0]]:=by simp[RS]
 rw[e0]at e2;unfold ER at e2;have WW:(st++[MO.dic []])[n]? = some (.lst (RL.map bW)):=fZ hn;have ux:(st++[.dic kvs,.lst [iI s0 oG],.lst [.int 0]]:au)[m]? = some (.lst (q9 bB)):=fZ hm;rw[show startM 13 [D.loc n,iI s0 oG,.loc m]=[some (.loc n),some (iI s0 oG),some (.loc m),none,none,none,none,none,none,none,none,none,none] from rfl];generalize RS st kvs (L++[y])=Z9 at *;generalize iI s0 oG=S0 at *;generalize q9 bB=LI at *;generalize RL.map bW=RE at *;simp[wu,WW,e1,ux,e2];exact yz
def zho(size many p:Int)(row:List Nat):lW size many p row=.non\/∃ds,lW size many p row=.tup ds:=by
 unfold lW;split
 ·exact .inl rfl
 ·exact .inr ⟨_,rfl⟩
def zng(n:Nat)(size many p:Int)(row:List Nat):under n (lW size many p row):=by
 unfold lW;split
 ·simp
 ·simp[zkl]
theorem zmr(n:Nat)(size many:Int):∀fl:List Mk,aR n (qy size many fl)
 | []=>by simp[qy]
 | q::fl=>by
  have h1:=zng n size many (q.2.1:Nat) q.2.2;have h2:=zmr n size many fl;rw[qy];rcases zho size many (q.2.1:Nat) q.2.2 with e | ⟨ds,e⟩
  ·rw[e];exact h2
  ·rw[e]at h1 ⊢;simp only[List.singleton_append,Ua];exact⟨h1,h2⟩
theorem Bs(size many:Int):∀fl:List Mk,(qy size many fl).length<=fl.length
 | []=>by simp[qy]
 | q::fl=>by
  have:=Bs size many fl;rw[qy];rcases zho size many (q.2.1:Nat) q.2.2 with e | ⟨ds,e⟩<;>rw[e]<;>simp<;>omega
def J3(rows:List Rw)(many n m:Nat)(fl:List Mk)(st:au)(hn:st[n]? = some (.lst (rows.map aJ)))(hm:st[m]? = some (.lst (fl.map λq=>iI q.2.1 q.2.2)))(hl:fl.length<=100000)(hr:∀z∈fl,z.2.2.length<=750) :
  zi5 [.loc n,.int many,.loc m] st=.ok (.loc st.length) (st++[.lst (qy (rows.length:Nat) (many:Nat) fl)]):=by
 unfold zi5 jP eF ZQ;generalize hB:(aG (bw 5 _) _:MS)=B;obtain⟨dG,st',e1,a4,a5,rfl,rfl⟩:=yO (g:=aK 4) (b:=B) (gs:=[(m,.lst (fl.map λq=>iI q.2.1 q.2.2))]) (items:=fl.map λq=>iI q.2.1 q.2.2)
  (λi env s=>∃(a4 a5:Option D),env=[some (.loc n),some (.int many),some (.loc m),some (.loc st.length),a4,a5]/\s=st++[.lst (qy (rows.length:Nat) (many:Nat) (fl.take i))])
  (env:=[some (.loc n),some (.int many),some (.loc m),some (.loc st.length),none,none]) (st:=st++[.lst []]) ⟨none,none,rfl,by simp[qy]⟩ (by
   rintro i d env s hi ⟨a4,a5,rfl,rfl⟩;rw[gH]at hi;obtain⟨q,R7,rfl⟩:=gO.mp hi;have sy:=gM R7;have hlen:cO [.loc n] (st++[.lst (qy (rows.length:Nat) (many:Nat) (fl.take i))])=.ok (.int rows.length) (st++[.lst (qy (rows.length:Nat) (many:Nat) (fl.take i))]):=by
    have:=Nm (st:=st++[.lst (qy (rows.length:Nat) (many:Nat) (fl.take i))]) (n:=n) (ds:=rows.map aJ) (by unfold aq;rw[fZ hn]);rwa[gq]at this
   have tk:∀s,zbz [.int rows.length,.int many,iI q.2.1 q.2.2] s=.ok (lW (rows.length:Nat) (many:Nat) (q.2.1:Nat) q.2.2) s:=λs=>HS _ _ _ _ s (by have:=hr q sy;omega);have e2:qy (rows.length:Nat) (many:Nat) (fl.take (i+1))=qy (rows.length:Nat) (many:Nat) (fl.take i)++qy (rows.length:Nat) (many:Nat) [q]:=by rw[mz,R7,zlw];rfl
   have De:(qy (rows.length:Nat) (many:Nat) (fl.take i)).length<1000000:=by have:=Bs (rows.length:Nat) (many:Nat) (fl.take i);rw[m6]at this;omega
   refine⟨by simp[fZ hm],[some (.loc n),some (.int many),some (.loc m),some (.loc st.length),some (iI q.2.1 q.2.2),a5],st++[.lst (qy (rows.length:Nat) (many:Nat) (fl.take i))],by generalize iI q.2.1 q.2.2=SQ;simp,[some (.loc n),some (.int many),some (.loc m),some (.loc st.length),some (iI q.2.1 q.2.2),some (lW (rows.length:Nat) (many:Nat) (q.2.1:Nat) q.2.2)],st++[.lst (qy (rows.length:Nat) (many:Nat) (fl.take (i+1)))],.inl ?_,_,_,rfl,rfl⟩;rw[<-hB,e2];simp only[qy];rcases zho (rows.length:Nat) (many:Nat) (q.2.1:Nat) q.2.2 with e | ⟨ds,e⟩
   ·rw[e]at tk ⊢;simp only[k_,kh];generalize hT:(qy (rows.length:Nat) (many:Nat) (fl.take i))=TL at *;generalize (st++[.lst TL]:au)=Z at *;generalize iI q.2.1 q.2.2=SQ at *;simp[hlen,tk,jL]
   ·rw[e]at tk ⊢;simp only[kh];generalize hT:(qy (rows.length:Nat) (many:Nat) (fl.take i))=TL at *;have ap:aQ (.loc st.length) [.tup ds] (st++[.lst TL])=.ok .non (st++[.lst (TL++[.tup ds])]):=by simp[aQ,De]
    have ty:dM "list" (.loc st.length) (st++[.lst TL])=true:=by simp[dM]
    generalize (st++[.lst (TL++[.tup ds])]:au)=Z2 at *;generalize (st++[.lst TL]:au)=Z at *;generalize iI q.2.1 q.2.2=SQ at *;simp[hlen,tk,jL,ap,ty]) (λ_ _ zz=>by obtain⟨_,_,_,e⟩:=zz;rw[e];simp[fZ hm])
 rw[gq,m9]at e1;have yz:gc st (.ok (.loc st.length) (st++[.lst (qy (rows.length:Nat) (many:Nat) fl)]))=.ok (.loc st.length) (st++[.lst (qy (rows.length:Nat) (many:Nat) fl)]):=Nk (zmr _ _ _ _);have ux:(st++[MO.lst []])[m]? = some (.lst (fl.map λq=>iI q.2.1 q.2.2)):=fZ hm;rw[show startM 6 [D.loc n,.int many,.loc m]=[some (.loc n),some (.int many),some (.loc m),none,none,none] from rfl];generalize (fl.map λq=>iI q.2.1 q.2.2)=FM at *;generalize (st++[.lst (qy (rows.length:Nat) (many:Nat) fl)]:au)=Z9 at *;simp[ux,e1];exact yz
end Law
set_option maxHeartbeats 0
namespace Law
open L2 M TK TS
def zb(r:Rl):Int:=if (r.g:Int) > (r.s:Int) then (r.g:Int) else (r.s:Int)
theorem Gf:∀l:List Int,intsOf (l.map D.int)=some l
 | l=>zju l
def ze2(f:α->D)(hf:∀a n,under n (f a))(l:List α)(n:Nat):aU n (.lst (l.map f)):=by
 show aR n _;rw[Mu];intro d hd;obtain⟨a,_,rfl⟩:=g8.mp hd;exact hf a n
def Uv(RL:List Rl)(hl:RL.length<=1000)(nr:Nat)(env:cg)(st:au)(h7:st[7]? = some (.lst (RL.map bW)))(hlen:∀g,cO [.loc 3] (st++g)=.ok (.int nr) (st++g))(e3:∀s,vr 3 env s=.ok (.loc 3) s)(e8:∀s,vr 8 env s=.ok (.loc 7) s) :
  ∃(top:Nat) (O1 O2 O3:MO),nr<=top/\(∀r∈RL,r.s<=top/\r.g<=top)/\(∀o∈[O1,O2,O3],(∀n,aU n o)/\∃ds,o=.lst ds) /\
   bL vO (aj (aM bH (eO (aj (bL cO (aj (vr 3) az)) az)) (lF [none] (rR (vr 8)) (aK 0) wR (bL vO (aj (aM bz (vr 0) (ct (.int 0))) (aj (aM bz (vr 0) (ct (.int 3))) az))))) az) env st=.ok (.int top) (st++[O1,O2,O3]):=by
 have a1:eO (aj (bL cO (aj (vr 3) az)) az) env st=.ok (.loc st.length) (st++[.lst [.int nr]]):=by
  have:=hlen [];rw[kh]at this;simp only[U_,zlx,Ca,yg,e3,R.aD,this]
  rfl
 have h7':(st++[MO.lst [.int nr]])[7]? = some (.lst (RL.map bW)):=fZ h7;have cm:=Yc (capt:=[none]) (mi:=rR (vr 8)) (g:=aK 0) (e:=bL vO (aj (aM bz (vr 0) (ct (.int 0))) (aj (aM bz (vr 0) (ct (.int 3))) az))) (env:=env) (st:=st++[.lst [.int nr]]) (st1:=st++[.lst [.int nr]]) (items:=RL.map bW) (gs:=[(7,.lst (RL.map bW))]) (λd=>match d with | .tup [.int a,_,_,.int b]=>.int (if b > a then b else a) | _=>.non) (λe=>∃e0,e=[e0])
  (by rw[U8,e8,R.aD];simp only[h7']) ⟨none,rfl⟩ (by rw[gq];omega) (λys=>by rw[JC];exact⟨fZ h7',Pz _⟩) (by
   rintro d hd dG ys ⟨e0,rfl⟩;obtain⟨q,hq,rfl⟩:=g8.mp hd;have i0:∀Z,bz (bW q) (.int 0) Z=.ok (.int q.s) Z:=λZ=>rfl;have i3:∀Z,bz (bW q) (.int 3) Z=.ok (.int q.g) Z:=λZ=>rfl;have mx:∀Z,vO [.int q.s,.int q.g] Z=.ok (.int (zb q)) Z:=λZ=>rfl;have e2:(match bW q with | .tup [.int a,_,_,.int b]=>D.int (if b > a then b else a) | _=>.non)=.int (zb q):=rfl;rw[e2];generalize bW q=EE at *;generalize (st++[.lst [.int nr]]++[MO.lst ys]:au)=Z at *;exact⟨[some EE],⟨_,rfl⟩,by simp,by simp[i0,i3,mx]⟩)
 rw[gY,show ((λd=>match d with | .tup [.int a,_,_,.int b]=>D.int (if b > a then b else a) | _=>.non)∘bW)=(λr=>D.int (zb r)) from rfl]at cm;generalize hms:((nr:Int)::RL.map zb)=ms;have hmd:[D.int nr]++(RL.map λr=>D.int (zb r))=ms.map D.int:=by rw[<-hms,gB,gY];rfl
 have ad:bH (.loc st.length) (.loc (st++[MO.lst [.int nr]]).length) (st++[.lst [.int nr]]++[.lst (RL.map λr=>D.int (zb r))])=.ok (.loc (st.length+2)) (st++[.lst [.int nr],.lst (RL.map λr=>D.int (zb r)),.lst (ms.map D.int)]):=by
  have q1:(st++[.lst [.int nr]]++[.lst (RL.map λr=>D.int (zb r))]:au)[st.length]? = some (.lst [.int nr]):=by simp
  have q2:(st++[.lst [.int nr]]++[.lst (RL.map λr=>D.int (zb r))]:au)[(st++[MO.lst [.int nr]]).length]? = some (.lst (RL.map λr=>D.int (zb r))):=by simp
  unfold bH;simp only[q1,q2];rw[ae9 (by simp;omega),hmd];simp
 have tQ:ms≠[]:=by rw[<-hms];simp
 have hmx:∀a∈ms,a<=Fv ms:=λa ha=>Aa ms a ha;have hmm:=znw ms tQ;have h5:∀a∈ms,0<=a:=λa ha=>by
  rw[<-hms]at ha;rcases gj.mp ha with rfl | ha
  ·omega
  ·obtain⟨r,hr,rfl⟩:=g8.mp ha;unfold zb
   split<;>omega
 obtain⟨top,ht⟩:=m8 (h5 _ hmm);have mxv:vO [.loc (st.length+2)] (st++[.lst [.int nr],.lst (RL.map λr=>D.int (zb r)),.lst (ms.map D.int)])=.ok (.int top) (st++[.lst [.int nr],.lst (RL.map λr=>D.int (zb r)),.lst (ms.map D.int)]):=by
  have it3:aq (st++[.lst [.int nr],.lst (RL.map λr=>D.int (zb r)),.lst (ms.map D.int)]) (st.length+2)=some (ms.map D.int):=by unfold aq;simp
  unfold vO;simp only[it3,Gf];rw[ae9 tQ,ht]
 refine⟨top,.lst [.int nr],.lst (RL.map λr=>D.int (zb r)),.lst (ms.map D.int),?_,λr hr=>?_,?_,?_⟩
 ·have:=hmx (nr:Int) (by rw[<-hms];simp);omega
 ·have:=hmx (zb r) (by rw[<-hms];exact kW _ (g8.mpr ⟨r,hr,rfl⟩));unfold zb at this
  split at this<;>omega
 ·intro o ho;simp only[gj,g_,afm]at ho;rcases ho with rfl | rfl | rfl
  ·exact⟨λn=>by show aR n _;simp,_,rfl⟩
  ·exact⟨λn=>ze2 _ (λa n=>by simp) RL n,_,rfl⟩
  ·exact⟨λn=>ze2 D.int (λa n=>by simp) ms n,_,rfl⟩
 ·rw[Ca,zlx,aay,a1,R.aD,cm,R.aD,ad,R.aD,yg,R.aD,R.aD];exact mxv
def encM(q:Mk):D:=.tup [.int (q.1:Nat),iI q.2.1 q.2.2]
section
variable  {d0 d1 d2 d3 d4 d5 d6 d7 d8 d9 d10 d12 d13:D}
def NP {f:Nat}{ks:List TK}{top:Nat}(B:MS)(hB:(aG (bw 17 (aW Ro [] (aj (vr 11) (aj (vr 16) az))))
  (tB (oZ (aM jL (vr 17) (ct .non))) (cF (bM "list" aQ (vr 14) (aj (bZ (aj (vr 15) (aj (vr 17) az))) az))) cR):MS)=B) (st:au) (m:Nat) (items:List D) (hm:st[m]? = some (.lst items)) {a:Nat} {F:List Tp} {M:List Mk} (h:Tl f ks top a F M) :
  (∀x∈F,x.r.length<=100000)->∀(acc:List D) (Dt Ds zU:Option D),acc.length+F.length<=900000->∃aeb aea ad_,dz (oF 2 (bQ (aK 15) (bQ (aK 16) o4))) B [(m,.lst items)] (eZ a (F.map Tp.d)) [some d0,some d1,some d2,some d3,some d4,some d5,some d6,some d7,some d8,some d9,some d10,some (.int top),some d12,some d13,some (.loc st.length),Dt,Ds,zU] (st++[.lst acc]) =
   .ok (.nx [some d0,some d1,some d2,some d3,some d4,some d5,some d6,some d7,some d8,some d9,some d10,some (.int top),some d12,some d13,some (.loc st.length),aeb,aea,ad_]) (st++[.lst (acc++M.map encM)]):=by
 have okg:∀acc:List D,wO [(m,MO.lst items)] (st++[.lst acc]):=λacc=>by simp[fZ hm]
 induction h with
 | nil a=>intro _ acc Dt Ds zU _;exact⟨Dt,Ds,zU,by rw[mU,eZ,dz,ae9 (okg acc)];simp⟩
 | img a s k row F M h1 h2 h3 h ih =>
  intro hx acc Dt Ds zU hl;obtain⟨b15,b16,b17,hg⟩:=ih (λx hxx=>hx x (by simp[hxx])) (acc++[encM (a,s,row)]) (some (.int a)) (some (toT f ks (img s k row)).d) (some (iI s row)) (by simp at hl ⊢;omega);refine⟨b15,b16,b17,?_⟩;rw[gB,eZ,dz,ae9 (okg acc)];have tg:=HR (f:=f) (ks:=ks) (k:=k) h1 h2 h3;have ap:aQ (.loc st.length) [encM (a,s,row)] (st++[.lst acc])=.ok .non (st++[.lst (acc++[encM (a,s,row)])]):=by simp[aQ,show acc.length<1000000 by omega]
  have ty:dM "list" (.loc st.length) (st++[.lst acc])=true:=by simp[dM]
  have nn:∀z,jL (iI s row) .non z=.ok (.bl true) z:=λz=>rfl;have hb:B [some d0,some d1,some d2,some d3,some d4,some d5,some d6,some d7,some d8,some d9,some d10,some (.int top),some d12,some d13,some (.loc st.length),some (.int a),some (toT f ks (img s k row)).d,zU] (st++[.lst acc])=.ok (.nx [some d0,some d1,some d2,some d3,some d4,some d5,some d6,some d7,some d8,some d9,some d10,some (.int top),some d12,some d13,some (.loc st.length),some (.int a),some (toT f ks (img s k row)).d,some (iI s row)]) (st++[.lst (acc++[encM (a,s,row)])]):=by
   rw[<-hB];unfold encM at ap ⊢;generalize (toT f ks (img s k row)).d=TD at *;generalize iI s row=SR at *;generalize (st++[.lst (acc++[_])]:au)=Z2 at *;generalize (st++[.lst acc]:au)=Z1 at *;simp[tg,nn,ap,ty]
  rw[gG]at hg;generalize (toT f ks (img s k row)).d=TD at *;generalize (st++[.lst (acc++[encM (a,s,row)])]:au)=Z2 at *;generalize (st++[.lst acc]:au)=Z1 at *;simp[hb];exact hg
 | hi a x F M h1 h ih =>
  intro hx acc Dt Ds zU hl;obtain⟨b15,b16,b17,hg⟩:=ih (λy hy=>hx y (by simp[hy])) acc (some (.int a)) (some x.d) (some .non) (by simp at hl ⊢;omega);refine⟨b15,b16,b17,?_⟩;rw[gB,eZ,dz,ae9 (okg acc)];have tg:=Ef x h1 (hx x (by simp));have hb:B [some d0,some d1,some d2,some d3,some d4,some d5,some d6,some d7,some d8,some d9,some d10,some (.int top),some d12,some d13,some (.loc st.length),some (.int a),some x.d,zU] (st++[.lst acc])=.ok (.nx [some d0,some d1,some d2,some d3,some d4,some d5,some d6,some d7,some d8,some d9,some d10,some (.int top),some d12,some d13,some (.loc st.length),some (.int a),some x.d,some .non]) (st++[.lst acc]):=by
   rw[<-hB];generalize x.d=TD at *;generalize (st++[.lst acc]:au)=Z1 at *;simp[tg,jL]
  generalize x.d=TD at *;generalize (st++[.lst acc]:au)=Z1 at *;simp[hb];exact hg
end
end Law
set_option maxHeartbeats 0
namespace Law
open L2 M TK TS
theorem zk1{α β:Type}(f:α->List β)(n:Nat)(h:∀a,(f a).length=n):∀l:List α,((l.map f).flatten).length=n*l.length
 | []=>by simp
 | a::l=>by
  rw[gB,pB,gh,h,zk1 f n h l,gC,Nat.mul_succ,Nat.add_comm]
def Mf(RL:List Rl)(signs:List Nat):(Mg RL signs).length=RL.length+signs.length*(j_ RL).length+(Hl (j_ RL)).length+(signs.length+1)*(HX (j_ RL)).length:=by
 unfold Mg fO dh;rw[gh,gh,gh,gq,gq,zk1 _ signs.length (λp=>by simp),zk1 _ (signs.length+1) (λp=>by simp)]
def Qm(f:Nat)(ks:List TK)(s k:Nat)(row:List Nat):Ws (s:Int) row k=(toT f ks (img s k row)).d:=by
 cases row with
 | nil=>cases k<;>rfl
 | cons c t=>cases k<;>rfl
def Eh{RL:List Rl}{top:Nat}(hl:RL.length<=1000)(G:Gw RL top)(n:Nat)(st:au)(yu:M.wf st)(hn:st[n]? = some (.lst (RL.map bW))) :
  ∃(ALL:List TQ),Bh RL uo (Qd RL) ALL/\ALL.length<=50000/\zc7 [.loc n,.str uo,.int top] st=.ok (.loc st.length) (st++[.lst ((ALL.map (wU (top+1) (Qd RL))).map fX.d)]):=by
 have hw:∀r∈RL,r.w.length<=8:=λr hr=>(G.at_ r hr).2.2.2.1;have Qn:∀p∈j_ RL,p.1.length<=8:=λp hp=>by
  obtain⟨r,hr,rfl⟩:=(BK RL).1 p hp;exact hw r hr
 obtain⟨ks,ALL,⟨rfl,rfl⟩,A,hAl,_,fM⟩:=zla RL uo top n st yu hn hl hw (by decide) (by decide);have hlen:(Mg RL uo).length<=50000:=by
  rw[Mf];have h1:=(BK RL).2.1;have h2:=(VR 8 (j_ RL) Qn).2.1;have h3:=(Uw (j_ RL)).1;simp only[gC,n8];omega
 refine⟨_,A,hlen,?_⟩;rw[fM,gY];rfl
theorem zhi:∀l:List Mk,dW (l.map encM)=true/\deps (l.map encM)<=2
 | []=>by simp
 | q::l=>by
  obtain⟨h1,h2⟩:=zhi l;rw[gB,T8,zhh,h1];have f1:flat (encM q)=true:=by simp[encM,iI]
  have f2:dep (encM q)<=2:=by simp[encM,iI]
  exact⟨by rw[f1];rfl,by omega⟩
theorem ZG:∀l:List Mk,List.zipWith (λx y=>D.tup [x,y]) (l.map λq=>D.int (q.1:Nat)) (l.map λq=>iI q.2.1 q.2.2)=l.map encM
 | []=>rfl
 | q::l=>by rw[gB,gB,List.zipWith_cons_cons,ZG l];rfl
open NK NS in
def aaV(rows:List Rw)(m p0 p e:Nat)(jN cs:List Nat)(RL:List Rl)(L:List Mk)(hl:RL.length<=1000)(hx:∀r∈RL,r.x∈uo/\(∀c∈r.w,c∈uo)/\r.w.length<=8)(one:∀r∈RL,∀r'∈RL,r.s=r'.s->r.x=r'.x->r.w=r'.w/\r.g=r'.g)(Hn:∀r∈RL,r.s≠rows.length)
  (Y4:∀r∈rows,r.c+1<=m/\r.t<=rows.length/\r.f<=rows.length) (hp0:p0<=rows.length) (hp:p<=rows.length) (Qx:cs.length=m) (hm:m<=6) (way:Way RL (0,p0,98::bj jN) L (e,p,98::bj cs))
  (vy:∀z∈L++[(e,p,98::bj cs)],z.2.2.length<=750/\∀c∈z.2.2,c∈uo) (he:e<=60000) (Xd:L.length<=60000) (st:au) (sl:st.length=13) (yu:M.wf st) (nc:fQ st) (h1:st[1]? = some (.tab "tape_run")) (h3:st[3]? = some (.lst (rows.map aJ)))
  (pre:List D) (h5:st[5]? = some (.lst (pre++[stC (p,cs)]))) (h7:st[7]? = some (.lst (RL.map bW))) (h9:st[9]? = some (.lst ((L++[(e,p,98::bj cs)]).map λq=>iI q.2.1 q.2.2))) (h10:st[10]? = some (.lst ((L++[(e,p,98::bj cs)]).map λq=>D.int (q.1:Nat)))) (d1 d2 d4 d5:D) :
  ∃st',V3 [some (.loc 0),some d1,some d2,some (.loc 3),some d4,some d5,some (.loc 5),some (.loc 6),some (.loc 7),some (.loc 9),some (.loc 10),none,none,none,none,none,none,none] st=.ok (.rt (.bl true)) st':=by
 have hlen:∀g:au,cO [.loc 3] (st++g)=.ok (.int rows.length) (st++g):=λg=>by
  have:=Nm (st:=st++g) (n:=3) (ds:=rows.map aJ) (by unfold aq;rw[fZ h3]);rwa[gq]at this
 obtain⟨top,O1,O2,O3,t1,t2,t3,et⟩:=Uv RL hl rows.length [some (.loc 0),some d1,some d2,some (.loc 3),some d4,some d5,some (.loc 5),some (.loc 6),some (.loc 7),some (.loc 9),some (.loc 10),none,none,none,none,none,none,none] st h7 hlen (λs=>by simp) (λs=>by simp);have G:Gw RL top:=⟨λr hr=>⟨(t2 r hr).1,(hx r hr).1,(hx r hr).2.1,(hx r hr).2.2,(t2 r hr).2⟩,one⟩;obtain⟨S7,hS7⟩:∃S,S=st++[O1,O2,O3]:=⟨_,rfl⟩;rw[<-hS7]at et;have S7l:S7.length=16:=by rw[hS7,gh,sl];rfl
 have wf7:M.wf S7:=by rw[hS7];exact Mr yu λo ho=>(t3 o ho).1 _
 have nc7:fQ S7:=by
  rw[hS7];refine (zlz _ _).mpr ⟨nc,λo ho=>?_⟩;obtain⟨ds,rfl⟩:=(t3 o ho).2
  rfl
 have up7:∀{i:Nat} {o:MO},st[i]? = some o->S7[i]? = some o:=λh=>by rw[hS7];exact fZ h
 obtain⟨ALL,A,hAl,fM⟩:=Eh hl G 7 S7 wf7 (up7 h7);rw[S7l]at fM;generalize Y0:ALL.map (wU (top+1) (Qd RL))=rs at *;have abm:rs.length<=50000:=by rw[<-Y0,gq];exact hAl
 obtain⟨S8,hS8⟩:∃S,S=S7++[.lst (rs.map fX.d)]:=⟨_,rfl⟩;rw[<-hS8]at fM;have S8l:S8.length=17:=by rw[hS8,gh,S7l];rfl
 have up8:∀{i:Nat} {o:MO},st[i]? = some o->S8[i]? = some o:=λh=>by rw[hS8];exact fZ (up7 h)
 have abU:S8[16]? = some (.lst (rs.map fX.d)):=by rw[hS8,gw (by omega),S7l];rfl
 have nc8:fQ S8:=by rw[hS8];exact (zlz _ _).mpr ⟨nc7,by simp[MO.dU]⟩
 have first:=zmy way;have hm0:(0,p0,98::bj jN)∈L++[(e,p,98::bj cs)]:=gM first;obtain⟨hr0,hb0⟩:=vy _ hm0;simp only at hr0 hb0;obtain⟨F,f1,f2,f3,f4,f5⟩:=HY A G way (by show p0<=top;omega) hb0 (λz hz=>(vy z (gW _ hz)).1) 0;simp only[mJ,Nat.add_zero,Y0]at f1 f2 f3 f4 f5;obtain⟨x0,R6⟩:∃x,x=toT (top+1) (Qd RL) (img p0 0 (98::bj jN)):=⟨_,rfl⟩;obtain⟨y0,hy0⟩:∃x,x=toT (top+1) (Qd RL) (img p L.length (98::bj cs)):=⟨_,rfl⟩;rw[<-R6,<-hy0]at f5;have run:d_ (vh rs) e x0=F++[y0]:=by
  have:=f5 0;rw[Nat.add_zero,f1]at this;rw[this];rfl
 have sm0:Small 0 x0:=by
  rw[R6];exact⟨by show (List.replicate 0 95).length<=_;simp,by show ((98::bj jN)++(if (0:Nat)=0 then [] else [95])).tail.length<=_;simp at hr0 ⊢;omega⟩
 have sm:∀x∈F++[y0],Small 60000 x:=λx YX=>by
  rw[<-run]at YX;obtain⟨i,hi⟩:=nM YX;have:=zl0 e 0 x0 sm0 i x hi;have Df:=(gk.mp hi).1;have:=(zns (vh rs) e x0).2;unfold Small at *;omega
 have im:zdb [iI p0 (98::bj jN),.int 0] S8=.ok x0.d S8:=by
  have:=KN (p0:Nat) (98::bj jN) 0 S8 (by omega) (by omega);rw[Qm (top+1) (Qd RL) p0 0,<-R6]at this;exact this
 have tr:=zio rs 16 x0 e 0 S8 abU abm sm0 (by omega) (by omega) nc8 (up8 h1);rw[S8l,run]at tr;obtain⟨FD,hFD⟩:∃X,X=(F++[y0]).map Tp.d:=⟨_,rfl⟩;rw[<-hFD]at tr;have hFl:FD.length=e+1:=by rw[hFD,gq,gh,mq,f1]
 obtain⟨S9,Y_⟩:∃S,S=S8++[.lst FD]:=⟨_,rfl⟩;rw[<-Y_]at tr;have S9l:S9.length=18:=by rw[Y_,gh,S8l];rfl
 have up9:∀{i:Nat} {o:MO},st[i]? = some o->S9[i]? = some o:=λh=>by rw[Y_];exact fZ (up8 h)
 have QZ:S9[17]? = some (.lst FD):=by rw[Y_,gw (by omega),S8l];rfl
 have ln:cO [.loc 17] S9=.ok (.int ((e:Nat)+1)) S9:=by
  have:=Nm (st:=S9) (n:=17) (ds:=FD) (by unfold aq;rw[QZ]);rw[hFl]at this;exact this
 have i9:bz (.loc 9) (.int 0) S8=.ok (iI p0 (98::bj jN)) S8:=zM _ _ _ _ _ (by unfold aq;rw[up8 h9]) (by
  have:=Rb ((L++[(e,p,98::bj cs)]).map λq=>iI q.2.1 q.2.2) 0;rw[gH,first]at this;exact this)
 have i10:∀S:au,S[10]? = some (.lst ((L++[(e,p,98::bj cs)]).map λq=>D.int (q.1:Nat)))->bz (.loc 10) (.int (-1)) S=.ok (.int e) S:=λS h=>zM _ _ _ _ _ (by unfold aq;rw[h]) (by rw[gZ];exact TV _ _);have abi:=i10 S8 (up8 h10);have abh:=i10 S9 (up9 h10);have lg:o7 (S9++[.lst []]) 17=some (FD,.lst FD):=by unfold o7;rw[fZ QZ]

 have hyz:=vy (e,p,98::bj cs) (by simp);have tl:Tl (top+1) (Qd RL) top 0 (F++[y0]) (L++[(e,p,98::bj cs)]):=by
  refine f2.app ?_;rw[mJ,f1,hy0];exact .img e p L.length (98::bj cs) [] [] f3 hyz.1 hyz.2 (.nil _)
 unfold V3;generalize hTX:(bL vO _:ME)=TX at et ⊢;generalize hB:(aG (bw 17 _) _:MS)=B;obtain⟨Dt,Ds,zU,lp⟩:=NP (d0:=.loc 0) (d1:=d1) (d2:=d2) (d3:=.loc 3) (d4:=d4) (d5:=d5) (d6:=.loc 5) (d7:=.loc 6) (d8:=.loc 7) (d9:=.loc 9) (d10:=.loc 10) (d12:=.loc 16) (d13:=.loc 17) B hB S9 17 FD QZ tl (λx YX=>by have:=(sm x YX).2;omega) [] none none none (by
  rw[gh,f1];simp;omega)
 rw[<-hFD,S9l,k_]at lp;obtain⟨Tj,Ao⟩:∃S,S=S9++[.lst ((L++[(e,p,98::bj cs)]).map encM)]:=⟨_,rfl⟩;rw[<-Ao]at lp;have XQ:Tj.length=19:=by rw[Ao,gh,S9l];rfl
 have Up:∀{i:Nat} {o:MO},st[i]? = some o->Tj[i]? = some o:=λh=>by rw[Ao];exact fZ (up9 h)
 have it9:aq Tj 9=some ((L++[(e,p,98::bj cs)]).map λq=>iI q.2.1 q.2.2):=by unfold aq;rw[Up h9]
 have ada:aq Tj 10=some ((L++[(e,p,98::bj cs)]).map λq=>D.int (q.1:Nat)):=by unfold aq;rw[Up h10]
 obtain⟨rP,zr⟩:∃S,S=Tj++[.lst ((L++[(e,p,98::bj cs)]).map encM)]:=⟨_,rfl⟩;have Uo:∀{i:Nat} {o:MO},st[i]? = some o->rP[i]? = some o:=λh=>by rw[zr];exact fZ (Up h)
 have Q8:rP.length=20:=by rw[zr,gh,XQ];rfl
 have zp:∀u_ Bc XF XC Dt Ds zU,t6 (aj (vr 10) (aj (vr 9) az)) [some (.loc 0),some d1,some d2,some (.loc 3),some d4,some d5,some (.loc 5),some (.loc 6),some (.loc 7),some (.loc 9),some (.loc 10),u_,Bc,XF,XC,Dt,Ds,zU] Tj=.ok (.loc 19) rP:=λu_ Bc XF XC Dt Ds zU=>by
  have ea:(aj (vr 10) (aj (vr 9) az)) [some (.loc 0),some d1,some d2,some (.loc 3),some d4,some d5,some (.loc 5),some (.loc 6),some (.loc 7),some (.loc 9),some (.loc 10),u_,Bc,XF,XC,Dt,Ds,zU] Tj=.ok [.loc 10,.loc 9] Tj:=by simp
  rw[zh3,ea,R.aD];simp only[it9,ada,ZG,XQ,zr]
 have ad6:rP[18]? = some (.lst ((L++[(e,p,98::bj cs)]).map encM)):=by rw[zr,Ao];refine fZ ?_;rw[gw (by omega),S9l];rfl
 have ad5:rP[19]? = some (.lst ((L++[(e,p,98::bj cs)]).map encM)):=by rw[zr,gw (by omega),XQ];rfl
 have ne:z_ 200 (.loc 18) (.loc 19) rP=.ok (.bl false) rP:=zjt _ _ _ _ _ (by unfold aq;rw[ad6]) (by unfold aq;rw[ad5]) (zhi _).1 (by have:=(zhi (L++[(e,p,98::bj cs)])).2;omega);have i5:bz (.loc 5) (.int (-1)) rP=.ok (stC (p,cs)) rP:=zM _ _ _ _ _ (by unfold aq;rw[Uo h5]) (TV _ _);have g3:aq rP 3=some (rows.map aJ):=by unfold aq;rw[Uo h3]
 by_cases qH:p<rows.length
 ·obtain⟨r,uw⟩:∃r,rows[p]? = some r:=⟨rows[p],kj qH⟩;have nx:Np [.loc 3,stC (p,cs)] rP=.ok (stC ((bC r cs).2,(bC r cs).1)) rP:=zmx rows 3 p m r cs rP g3 uw Qx (Y4 r (gM uw)).1 (by omega);have nn:jF (stC ((bC r cs).2,(bC r cs).1)) .non rP=.ok (.bl false) rP:=rfl;generalize stC ((bC r cs).2,(bC r cs).1)=SN at *;generalize stC (p,cs)=SP at *;generalize iI p0 (98::bj jN)=SR0 at *;generalize x0.d=XD at *;generalize (e:Int)=EI at *;refine⟨rP,?_⟩;clear sm sm0 A f5 tl hyz vy way;simp[-zh3,et,fM,i9,im,abi,tr,ln,abh,lg,lp,zp,ne,i5,nx,nn,S9l]
 ·have hpe:p=rows.length:=by omega
  subst hpe;have nx:=zlt rows 3 cs rP g3;have abS:rP[17]? = some (.lst FD):=by rw[zr,Ao];exact fZ (fZ QZ)
  have i17:∀g:au,bz (.loc 17) (.int (-1)) (rP++g)=.ok y0.d (rP++g):=λg=>zM _ _ _ FD _ (by unfold aq;rw[fZ abS]) (by rw[hFD,gZ];exact TV _ _);have abg:=i17 [];rw[kh]at abg;have ac3:fQ rP:=by rw[zr,Ao,Y_];simp[nc8,MO.dU]
  have abT:rP[16]? = some (.lst (rs.map fX.d)):=by rw[zr,Ao,Y_];exact fZ (fZ (fZ abU))
  have tr2:=zio rs 16 y0 5 60000 rP abT abm (sm y0 (by simp)) (by omega) (by omega) ac3 (Uo h1);have stp:d_ (vh rs) 5 y0=[y0]:=by
   rw[hy0,<-Y0];exact Eg A f3 Hn 5
  rw[stp,Q8]at tr2;have tr2:Yi [.loc 16,y0.d,.int 5] rP=.ok (.loc 20) (rP++[.lst [y0.d]]):=tr2;have adh:=i17 [.lst [y0.d]];have fin:tR 200 (.loc 20) (.loc 21) (rP++[.lst [y0.d],.lst [y0.d]])=.ok (.bl true) (rP++[.lst [y0.d],.lst [y0.d]]):=zpy _ _ _ _ [y0.d] (by
    have:(rP++[.lst [y0.d],.lst [y0.d]]:au)[20]? = some (.lst [y0.d]):=by rw[gw (by omega),Q8];rfl
    unfold aq;rw[this]) (by
    have:(rP++[.lst [y0.d],.lst [y0.d]]:au)[21]? = some (.lst [y0.d]):=by rw[gw (by omega),Q8];rfl
    unfold aq;rw[this]) (by simp[Tp.d]) (by simp[Tp.d])
  have l21:(rP++[MO.lst [y0.d]]).length=21:=by rw[gh,Q8];rfl
  generalize stC (rows.length,cs)=SP at *;generalize iI p0 (98::bj jN)=SR0 at *;generalize x0.d=XD at *;generalize y0.d=YD at *;generalize (e:Int)=EI at *;have ap:rP++[MO.lst [YD]]++[.lst [YD]]=rP++[.lst [YD],.lst [YD]]:=by simp
  generalize (rP++[.lst [YD],.lst [YD]]:au)=S13 at *;generalize aeM:(rP++[.lst [YD]]:au)=S12 at *;refine⟨S13,?_⟩;clear sm sm0 A f5 tl hyz vy way;simp[-zh3,et,fM,i9,im,abi,tr,ln,abh,lg,lp,zp,ne,i5,nx,S9l,abg,tr2,adh,l21,ap,fin]
end Law
namespace Law
open L2 M NK NS
def Ih(q:Nat×List Nat):flat (stC q)=true/\dep (stC q)<=2/\∀n,under n (stC q):=by
 have h1:=Gs q.2;have h2:=Lr q.2;have h3:=λn=>zem n q.2;unfold stC;generalize aC q.2=I at *;simp[h1,h2,h3]
theorem zf3:∀l:List (Nat×List Nat),dW (l.map stC)=true/\deps (l.map stC)<=2/\∀n,aR n (l.map stC)
 | []=>by simp
 | q::l=>by
  obtain⟨h1,h2,h3⟩:=zf3 l;obtain⟨f1,f2,f3⟩:=Ih q;rw[gB,T8,zhh,h1,f1];exact⟨rfl,by omega,λn=>by rw[Ua];exact⟨f3 n,h3 n⟩⟩
theorem zji:∀l:List Mk,dW (l.map λq=>iI q.2.1 q.2.2)=true/\∀n,aR n (l.map λq=>iI q.2.1 q.2.2)
 | []=>by simp
 | q::l=>by
  obtain⟨h1,h3⟩:=zji l;rw[gB,T8,h1];exact⟨by simp[iI],λn=>by rw[Ua];exact⟨by simp[iI],h3 n⟩⟩
def eq_nil(s:au)(a b:Nat)(d:D)(ds:List D)(hf:dW (d::ds)=true)(h1:aq s a=some (d::ds))(h2:aq s b=some []):tR 200 (.loc a) (.loc b) s=.ok (.bl false) s:=by
 have hc:jO (d::ds) []=0:=by simp[jO]
 simp only[M.tR,qP,h1,h2];rw[ae9 ⟨hf,rfl,by rw[hc];decide⟩];simp[rC]
def Nu{rows:List Rw}{p0:Nat}{jN:List Nat}{pre:List (Nat×List Nat)}{bB:List Nat}{sp p:Nat}{cs:List Nat}(h:Wc rows p0 jN pre bB sp p cs):bB.sum<=sp:=by
 induction h with
 | nil=>simp
 | @snoc pre bB sp p cs r _ _ ih =>
  rw[List.sum_append];have:cI cs<=cI cs*(2*cI cs+3):=Nat.le_mul_of_pos_right _ (by omega);simp;omega
def law_true(ns:List Int)(zP:ns.length<=63):∃st,zkp [.loc 0] (.frz (ns.map D.int)::tabs.map λp=>.tab p.1)=.ok (.bl true) st:=by
 have htb:(tabs.map λp=>MO.tab p.1)=[MO.tab "tape_run"]:=rfl;rw[htb];obtain⟨S0,Zb⟩:∃S:au,S=[.frz (ns.map D.int),.tab "tape_run"]:=⟨_,rfl⟩;rw[<-Zb];have z0:S0[0]? = some (.frz (ns.map D.int)):=by rw[Zb];rfl
 have z1:S0[1]? = some (.tab "tape_run"):=by rw[Zb];rfl
 have zl:S0.length=2:=by rw[Zb];rfl
 have wf0:M.wf S0:=by
  rw[Zb];intro o ho;simp only[gj,g_,afm]at ho;rcases ho with rfl | rfl
  ·exact zhk _ _
  ·exact trivial
 have nc0:fQ S0:=by rw[Zb];simp[MO.dU]
 have i0:∀g:au,aq (S0++g) 0=some (ns.map D.int):=λg=>by unfold aq;rw[fZ z0]
 have i00:aq S0 0=some (ns.map D.int):=by unfold aq;rw[z0]
 have c0:Rg [.loc 0,.int 0] S0=.ok (.int (ns.getD 0 0)) S0:=Dn ns 0 0 S0 i00;have c1:∀g:au,Rg [.loc 0,.int 1] (S0++g)=.ok (.int (ns.getD 1 0)) (S0++g):=λg=>Dn ns 0 1 _ (i0 g);generalize ns.getD 0 0=v0 at *;generalize ns.getD 1 0=v1 at *;obtain⟨m,hm⟩:∃m:Nat,1+v0 % 6=(m:Nat):=m8 (by omega);have hm1:1<=m/\m<=6:=by omega
 have hq:8<=(200:Int) / (4*(m:Nat)+1):=by
  have:m=1\/m=2\/m=3\/m=4\/m=5\/m=6:=by omega
  rcases this with rfl | rfl | rfl | rfl | rfl | rfl<;>decide
 have fd:eV (.int 200) (.int (4*(m:Nat)+1)) S0=.ok (.int (200 / (4*(m:Nat)+1))) S0:=DQ S0 _ _ ⟨by omega,by omega⟩;have ml:jR (.int 4) (.int m) S0=.ok (.int (4*(m:Nat))) S0:=Nr S0 _ _ (by omega);generalize (200:Int) / (4*(m:Nat)+1)=q at *;obtain⟨mn,WX,mv⟩:∃mn:Int,(0<mn/\mn<=20)/\sJ [.int 20,.int q] S0=.ok (.int mn) S0:=⟨if q<20 then q else 20,by split<;>omega,rfl⟩;obtain⟨sz,hsz⟩:∃k:Nat,1+v0 / 6 % mn=(k:Nat):=m8 (by have:=mD (v0 / 6) (show mn≠0 by omega);omega);have aeH:1<=sz/\sz<=20:=by
  have a1:=mD (v0 / 6) (show mn≠0 by omega);have a2:=mX (v0 / 6) WX.1;omega
 have md:∀s i,eU (.int i) (.int mn) s=.ok (.int (i % mn)) s:=λs i=>yR s i _ WX.1;obtain⟨cells,uc,fo⟩:=Gq ns 0 sz S0 i0 (by omega) (by omega) zP;rw[zl]at fo;obtain⟨S1,Xb⟩:∃S,S=S0++[.lst (cells.map D.int)]:=⟨_,rfl⟩;rw[<-Xb]at fo;have s1l:S1.length=3:=by rw[Xb,gh,zl];rfl
 obtain⟨rows,qF,Y4,prog⟩:=Og cells 2 m S1 (by rw[Xb,gw (by omega),zl];rfl) (by omega) (by omega) (by omega);rw[s1l]at prog;obtain⟨S2,K5⟩:∃S,S=S1++[.lst (rows.map aJ)]:=⟨_,rfl⟩;rw[<-K5]at prog;have s2l:S2.length=4:=by rw[K5,gh,s1l];rfl
 have e20:S2=S0++[.lst (cells.map D.int),.lst (rows.map aJ)]:=by rw[K5,Xb];simp
 have c1':=c1 [.lst (cells.map D.int),.lst (rows.map aJ)];rw[<-e20]at c1';have Y0:rows.length=sz:=by rw[qF,uc]
 obtain⟨Bd,An⟩:∃S,S=S2++[.lst [.int 60,.int 6]]:=⟨_,rfl⟩;have Od:Bd.length=5:=by rw[An,gh,s2l];rfl
 have Zm:Bd[4]? = some (.lst [.int 60,.int 6]):=by rw[An,gw (by omega),s2l];rfl
 obtain⟨mo,hmo,sel⟩:∃mo:Nat,mo<=60/\∀a5 a6 a7 a8 a9 qJ u_ Bc XF XC Dt Ds zU,(aM bz (eO (aj (ct (.int 60)) (aj (ct (.int 6)) az))) (bL yt (aj (aM QB (aM eU (vr 4) (ct (.int 4))) (ct (.int 0))) az))) [some (.loc 0),some (.int m),some (.int sz),some (.loc 3),some (.int v1),a5,a6,a7,a8,a9,qJ,u_,Bc,XF,XC,Dt,Ds,zU] S2=.ok (.int mo) Bd:=by
  have ls:∀env,eO (aj (ct (.int 60)) (aj (ct (.int 6)) az)) env S2=.ok (.loc 4) Bd:=λenv=>by simp[s2l,An]
  have x0:bz (.loc 4) (.int 0) Bd=.ok (.int 60) Bd:=zM _ _ _ [.int 60,.int 6] _ (by unfold aq;rw[Zm]) rfl;have x1:bz (.loc 4) (.int 1) Bd=.ok (.int 6) Bd:=zM _ _ _ [.int 60,.int 6] _ (by unfold aq;rw[Zm]) rfl;generalize eO (aj (ct (.int 60)) (aj (ct (.int 6)) az))=LE at *;by_cases h4:v1 % 4 > 0
  ·refine⟨6,by omega,?_⟩
   intros
   simp[ls,yR,h4,yt,x1]
  ·refine⟨60,by omega,?_⟩
   intros
   simp[ls,yR,h4,yt,x0]
 obtain⟨p0,jN,hp0,W9,Qo,std⟩:=Ig v1 m sz mo (by omega) (by omega) hmo Bd;have g3':Bd[3]? = some (.lst (rows.map aJ)):=by rw[An];refine fZ ?_;rw[K5,gw (by omega),s1l];rfl
 have std:Z_ [.int v1,.int m,.int sz,.int mo] Bd=.ok (stC (p0,jN)) Bd:=std;obtain⟨pre,bB,sp,p,cs,hw,hp,Qx,wZ,Gi,wk⟩:=Nv rows 3 m p0 jN Bd g3' Y4 (by omega) W9 (by omega) (by omega) (by omega);rw[Od]at wk;obtain⟨S3,Sy⟩:∃S,S=Bd++[.lst ((pre++[(p,cs)]).map stC),.lst (q9 bB)]:=⟨_,rfl⟩;have eWS:WS Bd pre bB p cs=S3:=by rw[Sy];simp[WS]
 rw[eWS]at wk;have s3l:S3.length=7:=by rw[Sy,gh,Od];rfl
 have g33:S3[3]? = some (.lst (rows.map aJ)):=by rw[Sy];exact fZ g3'
 have g35:S3[5]? = some (.lst ((pre++[(p,cs)]).map stC)):=by rw[Sy,gw (by omega),Od];rfl
 have g36:S3[6]? = some (.lst (q9 bB)):=by rw[Sy,gw (by omega),Od];rfl
 have uL:∀n,aU n (.lst (q9 bB)):=λn=>ze2 _ (λa n=>by simp) bB n;have wf3:M.wf S3:=by
  rw[Sy,An,K5,Xb];refine Mr (Mr (Mr (Mr wf0 λo ho=>?_) λo ho=>?_) λo ho=>?_) λo ho=>?_
  ·rw[gQ.mp ho];exact zhk _ _
  ·rw[gQ.mp ho];exact (zkv rows).2.2 _
  ·rw[gQ.mp ho];show aR _ _;simp
  ·simp only[gj,g_,afm]at ho;rcases ho with rfl | rfl
   ·exact (zf3 _).2.2 _
   ·exact uL _
 have nc3:fQ S3:=by rw[Sy,An,K5,Xb];simp[nc0,MO.dU]
 obtain⟨ks,ALL,A,hal,mk⟩:=zlq rows m 3 S3 wf3 g33 (by omega) (λr h=>(Y4 r h).1) (by omega);rw[s3l,Lj]at mk;obtain⟨_,_,Gh,L,e,way,Xd,he,hLr,hLt⟩:=Ui A Y4 (by omega) W9 hw;have abo:∀r∈ALL.map (tW (rows.length+1) ks),∀r'∈ALL.map (tW (rows.length+1) ks),r.s=r'.s->r.x=r'.x->r.w=r'.w/\r.g=r'.g:=by
  intro r hr r' hr' e1 e2;obtain⟨a,ha,rfl⟩:=g8.mp hr;obtain⟨b,hb,rfl⟩:=g8.mp hr';rw[Iv A ha hb e1 e2];exact⟨rfl,rfl⟩
 have hrx:∀r∈ALL.map (tW (rows.length+1) ks),r.x∈uo/\(∀c∈r.w,c∈uo)/\r.w.length<=8:=by
  intro r hr;obtain⟨a,ha,rfl⟩:=g8.mp hr;obtain⟨h1,h2,h3⟩:=Lp (A.good a ha);exact⟨h2,h3,by show a.w.length<=8;omega⟩
 have Hn:∀r∈ALL.map (tW (rows.length+1) ks),r.s≠rows.length:=by
  intro r hr;obtain⟨a,ha,rfl⟩:=g8.mp hr;intro h;have h:cJ (rows.length+1) ks a.s=rows.length:=h;cases hs:a.s with
  | pl n =>
   have:=N8 (A.good a ha) n hs;rw[hs]at h;simp only[cJ]at h;omega
  | nk k=>rw[hs]at h;simp only[cJ]at h;omega
 have hRl:(ALL.map (tW (rows.length+1) ks)).length<=1000:=by rw[gq];omega
 generalize ALL.map (tW (rows.length+1) ks)=RL at *;obtain⟨S4,Sw⟩:∃S,S=S3++[.lst (RL.map bW)]:=⟨_,rfl⟩;rw[<-Sw]at mk;have s4l:S4.length=8:=by rw[Sw,gh,s3l];rfl
 have im:Yn [stC (p0,jN)] S4=.ok (iI p0 (98::bj jN)) S4:=CW (p0:Nat) jN S4 (by omega);have vy:∀z∈L++[(e,p,98::bj cs)],z.2.2.length<=750/\∀c∈z.2.2,c∈uo:=by
  intro z hz;rcases gm.mp hz with hz | hz
  ·obtain⟨a1,a2⟩:=hLr z hz;exact⟨by omega,a2⟩
  ·rw[gQ.mp hz];refine⟨by show (98::bj cs).length<=750;rw[gC,znv];omega,λc hc=>?_⟩;rcases gj.mp hc with rfl | hc
   ·simp
   ·rcases zkx hc with rfl | rfl<;>simp
 have aes:=Nu hw;obtain⟨kvs,uk,rw_⟩:=zm9 abo (λr hr=>(hrx r hr).2.2) hRl way (λz hz=>(vy z (gW _ hz)).1) bB Xd (by omega) 7 6 S4 (by rw[Sw,gw (by omega),s3l];rfl) (by rw[Sw];exact fZ g36);rw[s4l]at rw_;obtain⟨S5,Sv⟩:∃S,S=RS S4 kvs (L++[(e,p,98::bj cs)]):=⟨_,rfl⟩;rw[<-Sv]at rw_;have s5l:S5.length=11:=by rw[Sv];unfold RS;rw[gh,s4l];rfl
 have g59:S5[9]? = some (.lst ((L++[(e,p,98::bj cs)]).map λq=>iI q.2.1 q.2.2)):=by rw[Sv];unfold RS;rw[gw (by omega),s4l];rfl
 have adO:S5[10]? = some (.lst ((L++[(e,p,98::bj cs)]).map λq=>D.int (q.1:Nat))):=by rw[Sv];unfold RS;rw[gw (by omega),s4l];rfl
 have up5:∀{i:Nat} {o:MO},S3[i]? = some o->S5[i]? = some o:=λh=>by rw[Sv];unfold RS;rw[Sw];exact fZ (fZ h)
 have g57:S5[7]? = some (.lst (RL.map bW)):=by rw[Sv];unfold RS;refine fZ ?_;rw[Sw,gw (by omega),s3l];rfl
 obtain⟨Ng,yF⟩:∃S,S=S5++[.lst []]:=⟨_,rfl⟩;have U5:Ng.length=12:=by rw[yF,gh,s5l];rfl
 have en:tR 200 (.loc 9) (.loc 11) Ng=.ok (.bl false) Ng:=by
  have h9:aq Ng 9=some ((L++[(e,p,98::bj cs)]).map λq=>iI q.2.1 q.2.2):=by unfold aq;rw[yF,fZ g59]
  have h11:aq Ng 11=some []:=by
   have:Ng[11]? = some (.lst []):=by rw[yF,gw (by omega),s5l];rfl
   unfold aq;rw[this]
  have hf:=(zji (L++[(e,p,98::bj cs)])).1;cases hfm:(L++[(e,p,98::bj cs)]).map λq=>iI q.2.1 q.2.2 with
  | nil=>exact absurd (congrArg List.length hfm) (by simp)
  | cons d ds=>rw[hfm]at h9 hf;exact eq_nil Ng 9 11 d ds hf h9 h11
 have tld:=J3 rows m 3 9 (L++[(e,p,98::bj cs)]) Ng (by rw[yF];exact fZ (up5 g33)) (by rw[yF];exact fZ g59) (by rw[gh,Xd];simp;omega) (λz hz=>(vy z hz).1);have abx:qy (rows.length:Nat) (m:Nat) (L++[(e,p,98::bj cs)])=(pre++[(p,cs)]).map stC:=by
  have t1:=zmn (size:=rows.length) (p:=p) (cs:=cs) hp;rw[Qx]at t1;have t2:qy (rows.length:Nat) (m:Nat) [(e,p,98::bj cs)]=[stC (p,cs)]:=by
   rw[qy];dsimp only;rw[t1]
   rfl
  rw[zlw,hLt,gZ,t2]
  rfl
 rw[abx,U5]at tld;obtain⟨S6,Za⟩:∃S,S=Ng++[.lst ((pre++[(p,cs)]).map stC)]:=⟨_,rfl⟩;rw[<-Za]at tld;have s6l:S6.length=13:=by rw[Za,gh,U5];rfl
 have Um:∀{i:Nat} {o:MO},S5[i]? = some o->S6[i]? = some o:=λh=>by rw[Za,yF];exact fZ (fZ h)
 have ne6:z_ 200 (.loc 12) (.loc 5) S6=.ok (.bl false) S6:=zjt _ _ _ _ ((pre++[(p,cs)]).map stC) (by
   have:S6[12]? = some (.lst ((pre++[(p,cs)]).map stC)):=by rw[Za,gw (by omega),U5];rfl
   unfold aq;rw[this]) (by unfold aq;rw[Um (up5 g35)]) (zf3 _).1 (by have:=(zf3 (pre++[(p,cs)])).2.1;omega)
 have wf6:M.wf S6:=by
  rw[Za,yF,Sv];unfold RS;rw[Sw];refine Mr (Mr (Mr (Mr wf3 λo ho=>?_) λo ho=>?_) λo ho=>?_) λo ho=>?_
  ·rw[gQ.mp ho];exact ze2 _ (λa n=>by simp[bW]) RL _
  ·simp only[gj,g_,afm]at ho;rcases ho with rfl | rfl | rfl
   ·exact uk _
   ·exact (zji _).2 _
   ·exact ze2 _ (λa n=>by simp) _ _
  ·rw[gQ.mp ho];show aR _ _;simp
  ·rw[gQ.mp ho];exact (zf3 _).2.2 _
 have nc6:fQ S6:=by rw[Za,yF,Sv];unfold RS;rw[Sw];simp[nc3,MO.dU]
 have z61:S6[1]? = some (.tab "tape_run"):=Um (up5 (by rw[Sy,An,K5,Xb];exact fZ (fZ (fZ (fZ z1)))));unfold zkp jP eF zmp;obtain⟨st',fin⟩:=aaV rows m p0 p e jN cs RL L hRl hrx abo Hn Y4 (by omega) hp Qx (by omega) way vy (by omega) (by omega) S6 s6l wf6 nc6 z61 (Um (up5 g33)) (pre.map stC) (by rw[Um (up5 g35),gZ];rfl) (Um g57) (Um g59) (Um adO) (.int m) (.int sz) (.int v1) (stC (p0,jN));rw[show startM 18 [D.loc 0]=[some (.loc 0),none,none,none,none,none,none,none,none,none,none,none,none,none,none,none,none,none] from rfl];generalize hSX:(aM bz (eO (aj (ct (.int 60)) _)) _:ME)=SX at sel ⊢;have ls5:∀env,eO az env S5=.ok (.loc 11) Ng:=λenv=>by simp[s5l,yF]
 generalize eO az=LN at *;generalize iI p0 (98::bj jN)=SR0 at *;generalize stC (p0,jN)=SC0 at *;clear way vy A hw hLr hLt;obtain⟨z,hz⟩:∃z,gc S0 (.ok (.bl true) st')=.ok (.bl true) z:=by
  unfold gc;dsimp only
  split
  ·exact⟨_,rfl⟩
  ·exact⟨_,rfl⟩
 refine⟨z,?_⟩;simp[c0,hm,fd,ml,mv,md,hsz,DQ,yR,fo,prog,c1',sel,std,wk,mk,im,rw_,ls5,en,tld,ne6,fin];exact hz
end Law
open PySem PySem.W PyProof.Rows
namespace PySem.W.Fast
def tw9340895825768041417:Unit:=()
def tw6690056160658539796:Unit:=()
def tw6074089483286711198:Unit:=()
def tw16975348719471402645:Unit:=()
def tw7714504453584712576:Unit:=()
def tw11624065916714018016:Unit:=()
def tw5320540143463448101:Unit:=()
def tw1844179192873568794:Unit:=()
def tw4448949844558595274:Unit:=()
def tw2696584938053354497:Unit:=()
def tw9254414614242614297:Unit:=()
def tw13640138175286861263:Unit:=()
def tw10627397475422325891:Unit:=()
def tw12333025505147779277:Unit:=()
def tw6476940251759863242:Unit:=()
def tw8960699836236908114:Unit:=()
def tw14699392009615396952:Unit:=()
def tw13227897276388965949:Unit:=()
def tw4832124296122136258:Unit:=()
def tw12442876441035402068:Unit:=()
def tw7750797574527619943:Unit:=()
def tw17566727604449835887:Unit:=()
def tw11146039542734695144:Unit:=()
def tw12735125334613254086:Unit:=()
def tw11234091885564988721:Unit:=()
def tw16242848523242737781:Unit:=()
def tw6654994718226049507:Unit:=()
def tw9672030579032050079:Unit:=()
def tw14402580820232430860:Unit:=()
def tw6940123826594667324:Unit:=()
def tw12382029472993917126:Unit:=()
def tw12579635748213787235:Unit:=()
def tw15180599070478854441:Unit:=()
def tw10040007788208059386:Unit:=()
def tw17207900536924406117:Unit:=()
def tw15646636431628962005:Unit:=()
def tw1474574030729294666:Unit:=()
def tw7791970954747052277:Unit:=()
def tw18127578994653699249:Unit:=()
def tw14310081114460737687:Unit:=()
def tw17963111585368838890:Unit:=()
def tw4434478929237497427:Unit:=()
end PySem.W.Fast
set_option maxRecDepth 100000 in
set_option maxHeartbeats 0 in
theorem PySem.Challenge.cw_oneofall_k91_whole_counters_on_a_tape_holds : PySem.Challenge.rw_oneofall_k91_whole_counters_on_a_tape.Holds := by
 w_on;o_law;k_head;(case hw=>w_witness2)
 k_fill
 refine M.holds_ofT Law.tabs (F:=Law.zkp) (k:=5) (x:="_law_script") rfl rfl ⟨rfl,by decide,by decide⟩ (by decide) (fun w h Y=>⟨PySem.W.km_in_of Y,PySem.W.km_tabs_of Y⟩) ?F Law.law_true
 case F =>
  intro w mg fa h KX G hmg
  refine' Law.all_mk KX G hmg ?_ ?_ ?_ ?_ ?_ ?_ ?_ ?_ ?_ ?_ ?_ ?_ ?_ ?_ ?_ ?_ ?_ ?_ ?_ ?_ ?_ ?_ ?_ ?_ ?_ ?_ ?_ ?_ ?_ ?_ ?_ ?_ ?_ ?_ ?_ ?_ ?_ ?_ ?_ ?_ ?_ ?_ ?_ ?_ ?_ ?_ ?_ ?_ ?_ ?_ ?_ ?_ ?_ ?_ ?_ ?_ ?_ ?_ ?_ ?_ ?_ ?_ ?_ ?_ ?_ ?_ ?_ ?_ ?_ ?_ ?_ ?_ ?_ ?_ ?_ ?_ ?_ ?_ ?_ ?_ ?_ ?_ ?_ ?_ ?_ ?_ ?_ ?_ ?_ ?_ ?_ ?_ ?_ ?_ ?_ ?_ ?_ ?_ ?_ ?_
  all_goals try first | k_is | kernel_rfl | (refine' L2.fun_mk ?l ?c ?k;(case l=>k_is);(case c=>k_is);(case k=>k_is))
