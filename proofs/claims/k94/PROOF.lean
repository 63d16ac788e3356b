import PyProof.Rows.All
import Wide.All
import OpenK.AllK
import Wide.FinOn
import Lean
import PyProof.EqAt
import PyProof.EqKinds
import PyProof.TupleCall
import PyProof.DictWalks
import KE.KEqDict
import KE.KIntText
import PyProof.CallStr
import PyProof.DictTruth
import KE.KTupSum
import KE.KRevIter
import PyProof.EnumMake
import PyProof.Rows.Range3
import PyProof.StrLawsFirst
import KE.KFind
import PySem.Challenge.RW_oneofall_k94_whole_what_is_made_is_playe
set_option Elab.async false
set_option linter.all false
set_option maxRecDepth 100000

abbrev gb:=@Nat.le_refl
abbrev gf:=@List.getElem?_eq_some_iff
abbrev gh:=@List.length_map
abbrev gj:=@List.mem_map
abbrev gm:=@List.map_cons
abbrev gq:=@List.mem_cons
abbrev gr:=@PySem.Heap.lt_size
abbrev gw:=@List.length_cons
abbrev g8:=@PySem.Heap.get?_push_of_some
abbrev gB:=@Bool.and_eq_true
abbrev gC:=@List.size_toArray
abbrev gF:=@List.getElem?_append_left
abbrev gG:=@List.length_append
abbrev gJ:=@List.map_map
abbrev gK:=@List.getElem?_eq_getElem
abbrev gM:=@List.getElem?_map
abbrev gO:=@List.getElem?_set_ne
abbrev gP:=@List.append_assoc
abbrev gQ:=@Nat.lt_of_lt_of_le
abbrev gR:=@Nat.ne_of_lt
abbrev gU:=@PySem.Heap.get?_push_size
abbrev gW:=@List.mem_of_getElem?
abbrev gY:=@List.append_nil
abbrev gZ:=@List.map_nil
abbrev g_:=@List.getElem?_append_right
abbrev h_:=@List.mem_singleton
abbrev kh:=@Nat.le_trans
abbrev kj:=@List.lookup_cons
abbrev km:=@List.length_take
abbrev kE:=@List.take_add_one
abbrev kI:=@List.mem_cons_of_mem
abbrev kJ:=@List.map_congr_left
abbrev kO:=@List.not_mem_nil
abbrev kW:=@List.getElem?_cons_succ
abbrev k_:=@List.take_length
abbrev mq:=@List.getElem?_set_self
abbrev my:=@List.mem_append_right
abbrev mz:=@Nat.zero_le
abbrev m7:=@List.length_singleton
abbrev m9:=@List.find?_cons
abbrev mC:=@List.map_append
abbrev mD:=@List.nil_append
abbrev mF:=@List.length_eq_one_iff
abbrev mH:=@Nat.lt_irrefl
abbrev mJ:=@Nat.ne_of_gt
abbrev mK:=@List.nodup_cons
abbrev mL:=@List.length_drop
abbrev mO:=@List.mem_append
abbrev mQ:=@Option.map_eq_some_iff
abbrev mR:=@Option.bind_some
abbrev mU:=@Bool.eq_iff_iff
abbrev mV:=@List.length_nil
abbrev mW:=@Int.toNat_natCast
abbrev mX:=@List.getElem?_cons_zero
abbrev mY:=@List.any_cons
abbrev mZ:=@List.mem_iff_getElem
abbrev m_:=@List.mem_of_mem_take
abbrev ni:=@List.mem_of_mem_drop
abbrev nj:=@List.of_mem_zip
abbrev nq:=@List.reverse_cons
abbrev nu:=@List.drop_eq_nil_of_le
abbrev n6:=@List.drop_eq_getElem_cons
abbrev nA:=@List.length_eq_zero_iff
abbrev nF:=@List.getElem?_inj
abbrev nG:=@Nat.zero_add
abbrev nH:=@Bool.not_eq_true'
abbrev nJ:=@Array.length_toList
abbrev nM:=@Nat.lt_succ_self
abbrev nO:=@List.cons_append
abbrev nQ:=@List.flatten_cons
abbrev nR:=@Int.eq_ofNat_of_zero_le
abbrev nT:=@List.map_reverse
abbrev nU:=@Nat.pow_succ
abbrev nW:=@List.length_set
abbrev nY:=@List.filterMap_cons
abbrev nZ:=@List.getElem?_reverse
abbrev n_:=@List.replicate_succ
abbrev ph:=@Bool.or_eq_true
abbrev pq:=@List.getElem_take
abbrev p6:=@List.sum_cons
abbrev p7:=@List.any_eq_true
abbrev p8:=@List.getD_eq_getElem?_getD
abbrev pA:=@Int.emod_nonneg
abbrev pB:=@List.mem_cons_self
abbrev pC:=@List.mem_append_left
abbrev pD:=@Bool.false_ne_true
abbrev pF:=@List.mem_filterMap
abbrev pG:=@List.length_reverse
abbrev pH:=@List.getElem?_take
abbrev pI:=@List.set_cons_zero
abbrev pJ:=@PySem.Heap.get?_update_self
abbrev pK:=@Array.getElem?_eq_getElem
abbrev pL:=@List.take_of_length_le
abbrev pM:=@Nat.add_right_comm
abbrev pN:=@List.getElem?_zip_eq_some
abbrev pO:=@List.contains_iff_mem
abbrev pP:=@List.getElem?_eq_none
abbrev pQ:=@List.findIdx?_eq_some_iff_getElem
abbrev pR:=@List.forall_mem_cons
abbrev pU:=@List.mem_of_find?_eq_some
abbrev ae0:=@PySem.wpAny_bind
abbrev ae1:=@if_pos
abbrev ae2:=@if_neg
abbrev ae3:=@PySem.wpAny_pure
abbrev ae4:=@decide_eq_false
abbrev ae5:=@Option.some.inj
abbrev ae6:=@PySem.W.mg_of
abbrev ae7:=@PySem.mem_of_lookup
abbrev ae8:=@PySem.W.kia_one
abbrev ae9:=@PyProof.Rows.callWith_type1
abbrev ae_:=@decide_eq_true
abbrev afa:=@of_decide_eq_true
abbrev afb:=@Ne.symm
abbrev afc:=@PySem.F.slot_dict_get
abbrev afd:=@PySem.Paired.length
abbrev afe:=@PySem.wpAny_mono
abbrev afg:=@PySem.wpAny_Call_Name_kw
abbrev afh:=@PyProof.Rows.slot_tuple_getitem
abbrev afi:=@PySem.wpAny_newObj_type
abbrev afj:=@PySem.wpAny_of_eq
abbrev afk:=@PySem.wpAny_callSpecial?_slot
abbrev afl:=@Sum.inr.inj
abbrev afm:=@PySem.wpAny_passesOwn
abbrev afn:=@PySem.builtinLookup_eq_fast
abbrev afo:=@PySem.W.callWith_K
abbrev afp:=@PySem.F.plainAttrs_list
abbrev afq:=@PySem.F.plainAttrs_dict
abbrev afr:=@PySem.F.entry_dict_get
abbrev afs:=@decide_eq_true_eq
abbrev aft:=@PySem.wpAny_holding
abbrev afu:=@PySem.tupleKind_room_in1
abbrev afv:=@PySem.wpAny_truthy_bool
abbrev afw:=@PySem.wpAny_field
abbrev afx:=@or_false
abbrev afy:=@PySem.wpAny_call_entry
abbrev afz:=@PySem.wpAny_specialOf
abbrev afA:=@PySem.typeLookup_type
abbrev afB:=@PySem.sizeLine_eq
abbrev afC:=@PySem.F.args_tuple_add_2
abbrev afD:=@PySem.Heap.SameBut.update
abbrev afE:=@PySem.F.entry_tuple_add
abbrev afF:=@PySem.codeAny_mono
abbrev afG:=@PySem.call_meetsIn
abbrev afH:=@PySem.isSubtype_type
abbrev afI:=@PySem.F.slot_tuple_add
abbrev afJ:=@PySem.F.plainAttrs_str
namespace L2
open PySem PySem.Spec PyProof.Rows
noncomputable abbrev Key:=Sum Int Str
noncomputable def vy:Key->Value->Bool
 | .inl k,v=>Value.isInt k v
 | .inr x,v=>Value.isStrOf x v
noncomputable def QC(w:World):Key->Int
 | .inl k=>hashInt k
 | .inr x=>hashStr w x
theorem M7:∀{k:Key} {v:Value},vy k v=true->(∃i t,k=Sum.inl i/\v=Value.int i t)\/(∃x t,k=Sum.inr x/\v=Value.str x t)
 | .inl i,v,h=>by
  obtain⟨t,e⟩:=Value.isInt_shape (k:=i) (v:=v) h;exact .inl ⟨i,t,rfl,e⟩
 | .inr x,v,h=>by
  obtain⟨t,e⟩:=Value.isStrOf_shape (x:=x) (v:=v) h;exact .inr ⟨x,t,rfl,e⟩
def Fo(i:Int)(t:Tok):vy (.inl i) (.int i t)=true:=by simp[vy,Value.isInt]
def Fl(x:Str)(t:Tok):vy (.inr x) (.str x t)=true:=by simp[vy,Value.isStrOf]
def WL(a b:Int):decide ((Sum.inl a:Key)=Sum.inl b)=(a==b):=by
 by_cases e:a=b
 ·subst e;simp
 ·have h:¬ (Sum.inl a:Key)=Sum.inl b:=λq=>e (Sum.inl.inj q);rw[ae4 h];exact (beq_eq_false_iff_ne.mpr e).symm
def Wz(a b:Str):decide ((Sum.inr a:Key)=Sum.inr b)=decide (a=b):=by
 by_cases e:a=b
 ·subst e;simp
 ·have h:¬ (Sum.inr a:Key)=Sum.inr b:=λq=>e (afl q);rw[ae4 h,ae4 e]
def WK(a:Int)(b:Str):decide ((Sum.inl a:Key)=Sum.inr b)=false:=ae4 (λq=>nomatch q)
def WD(a:Str)(b:Int):decide ((Sum.inr a:Key)=Sum.inl b)=false:=ae4 (λq=>nomatch q)
noncomputable def aZ(prog:Program)(w:World):PySem.KeyKind prog w Key where
 is:=vy
 hash:=QC w
 inj:=λv a b ha hb=>by
  rcases M7 ha with⟨i,t,rfl,rfl⟩ | ⟨x,t,rfl,rfl⟩
  ·rcases M7 hb with⟨j,u,rfl,e⟩ | ⟨y,u,rfl,e⟩
   ·injection e with e1 _;rw[e1]
   ·exact nomatch e
  ·rcases M7 hb with⟨j,u,rfl,e⟩ | ⟨y,u,rfl,e⟩
   ·exact nomatch e
   ·injection e with e1 _;rw[e1]
 byValue:=λk v h=>by
  rcases M7 h with⟨i,t,rfl,rfl⟩ | ⟨x,t,rfl,rfl⟩<;>rfl
 pyHash:=λhv h=>by
  rcases M7 hv with⟨i,t,rfl,rfl⟩ | ⟨x,t,rfl,rfl⟩
  ·exact wpAny_pyHash_int h
  ·exact wpAny_pyHash_str h
 eqBool:=λhu hv h=>by
  rcases M7 hu with⟨i,t,rfl,rfl⟩ | ⟨x,t,rfl,rfl⟩
  ·rcases M7 hv with⟨j,u,rfl,rfl⟩ | ⟨y,u,rfl,rfl⟩
   ·rw[WL]at h;exact wpAny_eqBool_int h
   ·rw[WK]at h;exact SeqAt.EqAt.int_str i t y u _ _ _ _ h
  ·rcases M7 hv with⟨j,u,rfl,rfl⟩ | ⟨y,u,rfl,rfl⟩
   ·rw[WD]at h;exact SeqAt.EqAt.str_int x t j u _ _ _ _ h
   ·rw[Wz]at h;exact wpAny_eqBool_str h
 «strs»:=λk x t v h=>by
  rcases M7 h with⟨i,u,rfl,e⟩ | ⟨y,u,rfl,e⟩
  ·exact nomatch e
  ·injection e with e1 _;subst e1;cases v<;>rfl
def zrg(prog:Program)(w:World)(k:Key)(v:Value):(aZ prog w).is k v=vy k v:=rfl
def zqs(prog:Program)(w:World)(i:Int)(t:Tok):(aZ prog w).is (.inl i) (.int i t)=true:=Fo i t
def zgl(prog:Program)(w:World)(x:Str)(t:Tok):(aZ prog w).is (.inr x) (.str x t)=true:=Fl x t
inductive V where
 | non | bl (b:Bool) | int (i:Int) | str (x:Str) | byt (b:Array UInt8) | flt (b:UInt64) | ref (a:Addr) | ty (n:String)
 deriving DecidableEq
def RelV:V->Value->Prop
 | .non,u=>u=Value.none
 | .bl b,u=>u=Value.bool b
 | .int i,u=>∃t,u=Value.int i t
 | .str x,u=>∃t,u=Value.str x t
 | .byt b,u=>∃t,u=Value.bytes b t
 | .flt b,u=>∃t,u=Value.float b t
 | .ref a,u=>u=Value.ref a
 | .ty n,u=>u=Value.type n
abbrev Vals:List V->List Value->Prop:=Paired RelV
def Vals.length{xs:List V}{us:List Value}(r:Vals xs us):xs.length=us.length:=afd r
theorem Vals.get:∀{xs:List V} {us:List Value} {i:Nat} {x:V},Vals xs us->xs[i]? = some x->∃u,us[i]? = some u/\RelV x u
 | _,_,_,_,.nil,e=>by simp at e
 | _,_,0,_,.cons r _,e=>by simp at e;subst e;exact⟨_,rfl,r⟩
 | _,_,i+1,x,.cons _ t,e=>by
  obtain⟨u,h1,h2⟩:=Vals.get (i:=i) (x:=x) t (by simpa using e);exact⟨u,by simpa using h1,h2⟩
theorem Vals.append:∀{xs ys:List V} {us ws:List Value},Vals xs us->Vals ys ws->Vals (xs++ys) (us++ws)
 | _,_,_,_,.nil,s=>s
 | _,_,_,_,.cons r t,s=>.cons r (Vals.append t s)
theorem Vals.take:∀{xs:List V} {us:List Value} (n:Nat),Vals xs us->Vals (xs.take n) (us.take n)
 | _,_,0,_=>.nil
 | _,_,_+1,.nil=>.nil
 | _,_,n+1,.cons r t=>.cons r (Vals.take n t)
theorem Vals.drop:∀{xs:List V} {us:List Value} (n:Nat),Vals xs us->Vals (xs.drop n) (us.drop n)
 | _,_,0,r=>r
 | _,_,_+1,.nil=>.nil
 | _,_,n+1,.cons _ t=>Vals.drop n t
def jZ:Option V->Option Value->Prop
 | some v,some u=>RelV v u
 | none,none=>True
 | _,_=>False
def KV{κ:Type}:List (κ×V)->List (κ×Value)->Prop:=Paired λ(p:κ×V) (q:κ×Value)=>p.1=q.1/\RelV p.2 q.2
noncomputable def kV:Key->V
 | .inl i=>.int i
 | .inr x=>.str x
inductive HO where
 
 | lst (xs:List V)
 
 | tup (xs:List V)
 
 | dK (kvs:List (Key×V)) | dT (kvs:List (List Key×V))
 
 | set (S:Int->Bool) (n:Nat)
 
 | ins (C dx:Addr) (fs:List (Str×V))
 
 | own (x:Addr)
 
 | xd (fs:List (Str×V))
 
 | met (f x:Addr)
 
 | rng (lo hi:Int)
 
 | frz (o:Obj) (u:HO)
 
 | tbl (ps:Array Value)
 
 | ext (φ:Heap->Prop)
noncomputable abbrev Hp:=Addr->Option HO
noncomputable def upd(H:Hp)(a:Addr)(o:HO):Hp:=λb=>if b=a then some o else H b
def rW:upd H a o a=some o:=by unfold upd;rw[ae1 rfl]
def iz(h:b≠a):upd H a o b=H b:=by unfold upd;rw[ae2 h]
def vm{H:Hp}{a b:Addr}{o u:HO}(h:H a=some o)(h':H b=some u)(d:o≠u):a≠b:=by
 intro e;subst e;rw[h]at h';exact d (ae5 h')
def z7{H:Hp}{a b:Addr}{o:HO}(h:H a=some o)(h':H b=none):a≠b:=by
 intro e;subst e;rw[h]at h';cases h'
section
variable  (P:Program)(w:World)
def bV(H:Hp)(h:Heap)(a:Addr):HO->Prop
 | .lst xs=>xs.length<=sizeLine/\∃(its:List Value) (n:Nat),Vals xs its/\h.get? a=some { cls:=.type "list",data:=.seq its.toArray n }
 | .tup xs=>xs.length<=sizeLine/\∃its:List Value,Vals xs its/\IsTup h a its.toArray
 | .dK kvs=>kvs.length<=sizeLine/\(a==sysModules)=false/\∃vs,KV kvs vs/\h.DictOf (aZ P w) a vs
 | .dT kvs=>kvs.length<=sizeLine/\(a==sysModules)=false/\∃xs:List (List Key×Addr×Value),
   Paired (λ(p:List Key×V) (q:List Key×Addr×Value)=>p.1=q.1/\H q.2.1=some (.tup (p.1.map kV))/\RelV p.2 q.2.2) kvs xs /\
   ∃o es ep,h.get? a=some o/\o.ExactDict/\o.data=.dict es ep/\es.toList=xs.map (entryOfKey (tupleKind (aZ P w)))/\(xs.map (·.1)).Nodup
 | .set S n=>h.SetOf (intKind P w) a S n
 | .ins C dx fs=>H dx=some (.own a)/\fs.length<=1000/\dx≠a/\h.get? a=some (PySem.W.instObj C dx) /\
   ∃mA,h.Ns1 dx mA/\(∀f,jZ (fs.lookup f) (mA f))/\PySem.Within mA (fs.map (·.1))
 | .own _=>∃o,h.get? a=some o
 | .xd fs=>∃mA,h.Ns1 a mA/\∀f,jZ (fs.lookup f) (mA f)
 | .rng lo hi=>∃t u v,h.get? a=some { cls:=.type "range",data:=.fields #[.int lo t,.int hi u,.int 1 v] }
 | .frz o u=>h.get? a=some o/\bV H h a u
 | .tbl ps=>h.get? a=some { cls:=.none,data:=.fields ps }
 | .met f x=>h.get? a=some (PySem.W.methodObj (.ref f) (.ref x))
 | .ext φ=>φ h/\(∃o,h.get? a=some o)/\∀h1 h2:Heap,φ h1->(∀o,h1.get? a=some o->h2.get? a=some o)->φ h2
def lC(H:Hp)(h:Heap):Prop:=∀a o,H a=some o->bV P w H h a o
end
section
variable  {P:Program}{w:World}{H H':Hp}{h h':Heap}{a:Addr}{o:HO}
def bV.lt(x:bV P w H h a o):a<h.objs.size:=by
 cases o with
 | lst xs=>obtain⟨_,_,_,_,e⟩:=x;exact gr e
 | tup xs=>obtain⟨_,_,_,p⟩:=x;exact p.lt
 | dK kvs=>obtain⟨_,_,_,_,o,_,_,e,_⟩:=x;exact gr e
 | dT kvs=>obtain⟨_,_,_,_,o,_,_,e,_⟩:=x;exact gr e
 | set S n=>obtain⟨o,_,_,_,e,_⟩:=x;exact gr e
 | ins C dx fs=>obtain⟨_,_,_,e,_⟩:=x;exact gr e
 | own y=>obtain⟨_,e⟩:=x;exact gr e
 | xd fs=>obtain⟨_,⟨_,_,_,e,_⟩,_⟩:=x;exact gr e
 | rng lo hi=>obtain⟨_,_,_,e⟩:=x;exact gr e
 | frz ob u=>obtain⟨e,_⟩:=x;exact gr e
 | tbl ps=>exact gr (show h.get? a=some _ from x)
 | met f y=>exact gr (show h.get? a=some _ from x)
 | ext φ=>obtain⟨_,⟨_,e⟩,_⟩:=x;exact gr e
theorem Paired.Wu:∀{aeT:List α} {aeS:List β},Paired F aeT aeS->(∀a b,F a b->G a b)->Paired G aeT aeS
 | _,_,.nil,_=>.nil
 | _,_,.cons r t,f=>.cons (f _ _ r) (Paired.Wu t f)
def bV.uB(x:bV P w H h a o)(k:∀b u,(b=a\/H b=some (.own a))->h.get? b=some u->h'.get? b=some u)
  (ho:∀b,H b=some (.own a)->H' b=some (.own a)) (ht:∀b xs,H b=some (.tup xs)->H' b=some (.tup xs)):bV P w H' h' a o:=by
 induction o with
 | lst xs=>obtain⟨z,its,n,r,e⟩:=x;exact⟨z,its,n,r,k _ _ (.inl rfl) e⟩
 | tup xs=>obtain⟨z,its,r,ob,e,c⟩:=x;exact⟨z,its,r,ob,k _ _ (.inl rfl) e,c⟩
 | dK kvs=>obtain⟨z,y,vs,r,ob,es,ep,e,c⟩:=x;exact⟨z,y,vs,r,ob,es,ep,k _ _ (.inl rfl) e,c⟩
 | dT kvs =>
  obtain⟨z,y,xs,r,ob,es,ep,e,c⟩:=x;exact⟨z,y,xs,Paired.Wu r λp q z=>⟨z.1,ht _ _ z.2.1,z.2.2⟩,ob,es,ep,k _ _ (.inl rfl) e,c⟩
 | set S n=>obtain⟨ob,es,ep,t,e,c⟩:=x;exact⟨ob,es,ep,t,k _ _ (.inl rfl) e,c⟩
 | ins C dx fs =>
  obtain⟨d,z,ne,e,mA,⟨od,es,ep,e2,c⟩,r⟩:=x;exact⟨ho _ d,z,ne,k _ _ (.inl rfl) e,mA,⟨od,es,ep,k _ _ (.inr d) e2,c⟩,r⟩
 | own y=>obtain⟨ob,e⟩:=x;exact⟨ob,k _ _ (.inl rfl) e⟩
 | xd fs=>obtain⟨mA,⟨od,es,ep,e,c⟩,r⟩:=x;exact⟨mA,⟨od,es,ep,k _ _ (.inl rfl) e,c⟩,r⟩
 | rng lo hi=>obtain⟨t,u,v,e⟩:=x;exact⟨t,u,v,k _ _ (.inl rfl) e⟩
 | frz ob u ih=>obtain⟨e,q⟩:=x;exact⟨k _ _ (.inl rfl) e,ih q⟩
 | tbl ps =>
  have e:h.get? a=some { cls:=.none,data:=.fields ps }:=x;show h'.get? a=some { cls:=.none,data:=.fields ps };exact k a _ (.inl rfl) e
 | met f y =>
  have e:h.get? a=some (PySem.W.methodObj (.ref f) (.ref y)):=x;show h'.get? a=some (PySem.W.methodObj (.ref f) (.ref y));exact k a _ (.inl rfl) e
 | ext φ=>obtain⟨p,⟨o,e⟩,st⟩:=x;exact⟨st _ _ p λo q=>k _ _ (.inl rfl) q,⟨o,k _ _ (.inl rfl) e⟩,st⟩
def lC.lt(x:lC P w H h)(e:H a=some o):a<h.objs.size:=(x a o e).lt
def lC.fresh(x:lC P w H h)(e:h.objs.size<=a):H a=none:=by
 cases q:H a with
 | none=>rfl
 | some u=>exact absurd (gQ (x.lt q) e) (mH _)
def lC.kept(x:lC P w H h)(k:∀b u,h.get? b=some u->h'.get? b=some u):lC P w H h':=λa o e =>
 (x a o e).uB (λb u _ q=>k b u q) (λ_ q=>q) λ_ _ q=>q
def lC.laid(x:lC P w H h)(k:∀b u,h.get? b=some u->h'.get? b=some u)(hp:h.objs.size<=a)(new:bV P w (upd H a o) h' a o):lC P w (upd H a o) h':=λb u e=>by
 have hn:=x.fresh hp;by_cases hb:b=a
 ·subst hb;rw[rW]at e;cases e;exact new
 ·rw[iz hb]at e;exact (x b u e).uB (λc v _ q=>k c v q) (λc q=>by rw[iz (z7 q hn)];exact q) λc xs q=>by rw[iz (z7 q hn)];exact q
end
def Rd(H:Hp)(a:Addr)(u:HO):Prop:=H a=some u\/∃o,H a=some (.frz o u)
def Rd.ok(r:Rd H a u)(x:lC P w H h):bV P w H h a u:=by
 rcases r with r | ⟨o,r⟩
 ·exact x a u r
 ·obtain⟨_,q⟩:=x a _ r;exact q
def Mut:Option HO->Prop
 | some (.lst _)=>True
 | some (.dK _)=>True
 | some (.dT _)=>True
 | some (.set _ _)=>True
 | some (.ins _ _ _)=>True
 | some (.ext _)=>True
 | _=>False
section
variable  {P:Program}{w:World}{H:Hp}{h h':Heap}{x e:Addr}{o':HO}
def lC.write(ok:lC P w H h)(mu:Mut (H x))(he:e=x\/H e=some (.own x))(k:∀b u,b≠e->h.get? b=some u->h'.get? b=some u)(Nm:∃u,h'.get? e=some u)
  (new:bV P w (upd H x o') h' x o'):lC P w (upd H x o') h':=λb u q=>by
 have Jq:∀c y,H c=some (.own y)->c≠x:=λc y r z=>by subst z;rw[r]at mu;exact mu
 have adC:∀c xs,H c=some (.tup xs)->c≠x:=λc xs r z=>by subst z;rw[r]at mu;exact mu
 by_cases hb:b=x
 ·subst hb;rw[rW]at q;cases q;exact new
 ·rw[iz hb]at q;by_cases Ye:b=e
  ·have q':H b=some (.own x):=by
    rcases he with z | z
    ·exact absurd (Ye.trans z) hb
    ·rw[Ye];exact z
   rw[q]at q';cases q';obtain⟨v,hv⟩:=Nm;exact⟨v,by rw[Ye];exact hv⟩
  ·refine (ok b u q).uB (λc v hc r=>k c v ?_ r) (λc r=>by rw[iz (Jq c b r)];exact r) λc xs r=>by rw[iz (adC c xs r)];exact r
   rcases hc with rfl | hc
   ·exact Ye
   ·rintro rfl;rcases he with z | z
    ·exact Jq c b hc z
    ·rw[hc]at z;cases z;exact hb rfl
end
structure Un(fs ex:List Addr)(H H':Hp)(h h':Heap):Prop where
 keep:∀b o,h.get? b=some o->H b=none->b∉fs->b∉ex->h'.get? b=some o
 slot:∀b o,h.get? b=some o->H b=none->b∈fs->b∉ex->∃sl,h'.get? b=some { o with slots:=sl }
 free:∀b o,h.get? b=some o->H b=none->b∉ex->H' b=none
 there:∀b o,h.get? b=some o->b∉ex->∃o',h'.get? b=some o'
 uU:∀b xs,H b=some (.tup xs)->H' b=some (.tup xs)
 tu:∀b o u,H b=some (.frz o u)->H' b=some (.frz o u)
 uw:∀b ps,H b=some (.tbl ps)->∃more,H' b=some (.tbl (ps++more))
section
variable  {fs xq ex ex':List Addr}{H H1 H2:Hp}{h h1 h2 h':Heap}{a x e:Addr}{o:HO}
def Un.any(u:Un fs ex H H1 h h1){b:Addr}{ob:Obj}(q:h.get? b=some ob)(n:H b=none)(hx:b∉ex):∃sl,h1.get? b=some { ob with slots:=sl }:=by
 by_cases hb:b∈fs
 ·exact u.slot b ob q n hb hx
 ·exact⟨ob.slots,u.keep b ob q n hb hx⟩
def Un.kept(k:∀b u,h.get? b=some u->h'.get? b=some u):Un fs ex H H h h' :=
 ⟨λb ob q _ _ _=>k b ob q,λb ob q _ _ _=>⟨ob.slots,k b ob q⟩,λ_ _ _ n _=>n,λb ob q _=>⟨ob,k b ob q⟩,λ_ _ q=>q,λ_ _ _ q=>q,λ_ ps q=>⟨#[],by rw[q];simp⟩⟩
def Un.refl:Un fs ex H H h h:=Un.kept λ_ _ q=>q
def Un.laid(k:∀b u,h.get? b=some u->h'.get? b=some u)(hp:h.objs.size<=a)(hn:H a=none):Un fs ex H (upd H a o) h h' where
 keep:=λb u q _ _ _=>k b u q
 slot:=λb u q _ _ _=>⟨u.slots,k b u q⟩
 free:=λb u q n _=>by rw[iz (gR (gQ (gr q) hp))];exact n
 there:=λb u q _=>⟨u,k b u q⟩
 uU:=λb xs q=>by rw[iz (z7 q hn)];exact q
 tu:=λb u xs q=>by rw[iz (z7 q hn)];exact q
 uw:=λb ps q=>⟨#[],by rw[iz (z7 q hn),q];simp⟩
def Un.write(mu:Mut (H x))(he:e=x\/H e=some (.own x))(k:∀b u,b≠e->h.get? b=some u->h'.get? b=some u)(Nm:∃u,h'.get? e=some u):Un fs ex H (upd H x o) h h':=by
 have hx:∀b,H b=none->b≠x:=λb n z=>by subst z;rw[n]at mu;exact mu
 have hb:∀b,H b=none->b≠e:=λb n z=>by
  subst z;rcases he with r | r
  ·exact hx b n r
  ·rw[n]at r;cases r
 have hm:∀b u,H b=some u->¬ Mut (some u)->b≠x:=λb u q nm z=>by subst z;rw[q]at mu;exact nm mu
 refine⟨λb u q n _ _=>k b u (hb b n) q,λb u q n _ _=>⟨u.slots,k b u (hb b n) q⟩,λb u q n _=>by rw[iz (hx b n)];exact n,λb u q _=>?_,
  λb xs q=>by rw[iz (hm b _ q λz=>z)];exact q,λb u xs q=>by rw[iz (hm b _ q λz=>z)];exact q,λb ps q=>⟨#[],by rw[iz (hm b _ q λz=>z),q];simp⟩⟩
 by_cases Ye:b=e
 ·subst Ye;exact Nm
 ·exact⟨u,k b u Ye q⟩
end
noncomputable def trk(h:Heap)(H:Hp):List Addr:=(List.range h.objs.size).filter λa=>(H a).isSome
noncomputable def wQ(h:Heap)(H:Hp):Heap:=PySem.W.hideAll h (trk h H)
def FQ(h:Heap)(H:Hp):(wQ h H).objs.size=h.objs.size:=PySem.W.hideAll_size _ _
def KQ(e:h.get? b=some o)(n:H b=none):(wQ h H).get? b=some o :=
 PySem.W.hideAll_get _ e λhm=>by
  have q:(H b).isSome=true:=(List.mem_filter.mp hm).2;rw[n]at q;simp at q
def Qo(e:(wQ h H).get? b=some o):h.get? b=some o/\H b=none:=by
 have e':h.get? b=some o:=PySem.W.of_hideAll (trk h H) e;refine⟨e',?_⟩;cases q:H b with
 | none=>rfl
 | some x =>
  have hm:b∈trk h H:=List.mem_filter.mpr ⟨List.mem_range.mpr (gr e'),by simp[q]⟩;have z:(wQ h H).get? b=none:=PySem.W.hideAll_none (trk h H) hm;rw[z]at e;cases e
noncomputable def R7(g h:Heap)(L:Addr):List (Addr×Obj):=(List.range h.objs.size).filterMap λa=>if a=L\/(g.get? a).isSome=true then none else (h.get? a).map λo=>(a,o)
noncomputable def rest(g h:Heap)(L d:Addr):List (Addr×Obj):=(R7 g h L).filter λp=>decide (p.1≠d)
structure Mod(K:PySem.W.Frag)(mg:Str->Option Value)(base:Heap):Prop where
 Wy:K.In base
 glob:base.Ns mainGlobals mg
 blt:∃mb,base.Ns builtinsNs mb/\∀x:Str,x ≠ "__name__"->mb x=bootBuiltins x
 nolimit:base.NoLimit
structure Cx where
 prog:Program
 w:World
 K:PySem.W.Frag
 mg:Str->Option Value
 base:Heap
 A:Around
 N:List Str
 aeR:Shared
 aeZ:Hp
 env:Env
 outer:List Env
 stack:List Env
 ex:List Addr
 fn:Str->Bool
 calm:Bool
 pn:List (Addr×Obj)
 xe:Value->Shared->Prop
noncomputable def CZ(l:List Env):List Addr:=l.filterMap (·.frame)
noncomputable abbrev Cx.fs(X:Cx):List Addr:=CZ X.outer
def Vis(sc:Scope)(x:Str):Prop:=sc.names.lookup x=some .local\/sc.names.lookup x=some .cell\/sc.names.lookup x=some .free
def Loc(sc:Scope)(x:Str):Prop:=sc.names.lookup x=some .local\/sc.names.lookup x=some .cell
def Look(env:Env)(h:Heap)(m:Str->Option Value)(x:Str)(u:Value):Prop :=
 (env.kindOf x=some .local/\m x=some u)\/((env.kindOf x=some .cell\/env.kindOf x=some .free)/\∃c,env.cells.lookup x=some c/\h.IsCell c (some u))
structure Cx.Ok(X:Cx):Prop where
 mod:Mod X.K X.mg X.base
 kind:X.env.scope.kind=.function
 glob:X.env.globals=mainGlobals
 blt:X.env.builtins=builtinsNs
 above:X.aeR.heap.objs.size<=X.env.locals
 inj:∀x y c,X.env.cells.lookup x=some c->X.env.cells.lookup y=some c->x=y
 has:∀x,(X.env.kindOf x=some .cell\/X.env.kindOf x=some .free)->∃c,X.env.cells.lookup x=some c
 Uo:∀x c,X.fn x=true->X.env.cells.lookup x=some c->X.aeR.heap.objs.size<=c
 hd:X.calm=true->X.A.handled=none
 frames:X.A.frames=some X.stack
 stk:X.stack=X.outer\/(X.stack=X.env::X.outer/\X.env.frame=some X.env.locals)
 exf:∀b∈X.ex,b≠X.env.locals/\∀x c,X.env.cells.lookup x=some c->c≠b
 bs:∀b o,X.base.get? b=some o->X.aeR.heap.get? b=some o/\X.aeZ b=none
 Gy:X.base.objs.size<=X.aeR.heap.objs.size
 Fb:∀b o,X.base.get? b=some o->b∉X.ex
 Lh:∀b∈X.ex,b∉X.fs
 oV:X.aeR.heap.FunFrames X.base X.outer
 K8:∀b∈X.fs,X.aeZ b=none
structure Inv(X:Cx)(pins:List (Addr×Obj))(σ:List (Option V))(H:Hp)(s:Shared):Prop where
 ok:X.Ok
 os:s.os=X.aeR.os
 bare:AllBare s.gens
 base:Un X.fs X.ex X.aeZ H X.aeR.heap s.heap
 loc:∃m,s.heap.Ns X.env.locals m/\∀(i:Nat) (x:Str) (v:V),X.N[i]? = some x->σ[i]? = some (some v)->Vis X.env.scope x->∃u,RelV v u/\Look X.env s.heap m x u
 cell:∀x c,X.env.cells.lookup x=some c->∃v,s.heap.IsCell c v
 free:H X.env.locals=none
 jE:∀x c,X.env.cells.lookup x=some c->H c=none
 pin:∀p∈X.pn++pins,s.heap.get? p.1=some p.2/\H p.1=none/\p.1≠X.env.locals/\p.1∉X.fs/\∀v,p.2.data≠.cell v
 bJ:lC X.prog X.w H s.heap
 len:σ.length=X.N.length
section
variable  {X:Cx}{pins:List (Addr×Obj)}{σ:List (Option V)}{H H':Hp}{s:Shared}{h':Heap}
def Cx.Ok.adF(ok:X.Ok)(e:X.base.get? b=some o):b∉X.fs:=λhb=>by
 have:=(ok.oV.mem hb).1;rw[e]at this;cases this
def Inv.bs(I:Inv X pins σ H s):∀b o,X.base.get? b=some o->s.heap.get? b=some o/\H b=none:=λb o e =>
 ⟨I.base.keep b o (I.ok.bs b o e).1 (I.ok.bs b o e).2 (I.ok.adF e) (I.ok.Fb b o e),I.base.free b o (I.ok.bs b o e).1 (I.ok.bs b o e).2 (I.ok.Fb b o e)⟩
def Inv.bk(I:Inv X pins σ H s):∀b o,X.base.get? b=some o->s.heap.get? b=some o:=λb o e=>(I.bs b o e).1
def Inv.mod(I:Inv X pins σ H s):Mod X.K X.mg X.base:=I.ok.mod
def Inv.oJ(I:Inv X pins σ H s):X.K.In s.heap:=I.ok.mod.Wy.keeps I.bk
def Inv.lt(I:Inv X pins σ H s):X.env.locals<s.heap.objs.size:=let ⟨_,hn,_⟩:=I.loc;hn.lt
def Inv.sz(I:Inv X pins σ H s):X.aeR.heap.objs.size<=s.heap.objs.size:=kh I.ok.above (Nat.le_of_lt I.lt)
def Inv.adE(I:Inv X pins σ H s)(h:s.heap.objs.size<=a):a∉X.fs:=λhb=>by
 obtain⟨_,o,ho,_⟩:=I.ok.oV.mem hb;exact absurd (gQ (gr ho) (kh I.sz h)) (mH _)
def Inv.Um(I:Inv X pins σ H s):∀x c,X.env.cells.lookup x=some c->c≠X.env.locals:=λx c e z=>by
 obtain⟨v,o,ho,hd⟩:=I.cell x c e;obtain⟨m,⟨o',es,ep,Nj,zc,_⟩,_⟩:=I.loc;rw[z,Nj]at ho;cases ho;rw[zc]at hd;cases hd
def Inv.oV(I:Inv X pins σ H s):s.heap.FunFrames X.base X.outer:=by
 have all:∀(l:List Env),(∀b∈CZ l,b∈X.fs)->X.aeR.heap.FunFrames X.base l->s.heap.FunFrames X.base l:=by
  intro l
  induction l with
  | nil=>intro _ _;trivial
  | cons env r ih =>
   intro hs hl;obtain⟨hk,⟨L,o,hf,hn,ho,hd⟩,hr⟩:=hl;have hL:L∈X.fs:=hs L (by unfold CZ;rw[nY,hf];exact pB);obtain⟨sl,e⟩:=I.base.slot L o ho (I.ok.K8 L hL) hL λz=>I.ok.Lh L z hL;exact⟨hk,⟨L,_,hf,hn,e,hd⟩,ih (λb hb=>hs b (by unfold CZ;rw[nY,hf];exact kI _ hb)) hr⟩
 exact all X.outer (λ_ hb=>hb) I.ok.oV
def Inv.stack(I:Inv X pins σ H s):s.heap.FunFrames X.base X.stack:=by
 rcases I.ok.stk with e | ⟨e,hf⟩
 ·rw[e];exact I.oV
 ·rw[e];obtain⟨m,hn,_⟩:=I.loc;refine .cons (by rw[I.ok.kind];decide) hf hn ?_ I.oV;exact Heap.get?_none_of_le (kh I.ok.Gy I.ok.above)
def Inv.uZ(I:Inv X pins σ H s):∀b∈CZ X.stack,b∈X.env.locals::X.fs:=λb hb=>by
 rcases I.ok.stk with e | ⟨e,hf⟩
 ·rw[e]at hb;exact kI _ hb
 ·rw[e]at hb;unfold CZ at hb;rw[nY,hf]at hb;exact hb
def Inv.Bx(I:Inv X pins σ H s):∀b∈CZ X.stack,H b=none:=λb hb=>by
 rcases gq.mp (I.uZ b hb) with e | hb
 ·rw[e];exact I.free
 ·obtain⟨_,o,ho,_⟩:=I.ok.oV.mem hb;exact I.base.free b o ho (I.ok.K8 b hb) λz=>I.ok.Lh b z hb
def Inv.step{g':Array GenState}{t':Nat}{d':Drawn}{ch:List Addr}(I:Inv X pins σ H s)
  (Np:∀b∈ch,(b∈X.ex\/X.aeR.heap.objs.size<=b)/\b≠X.env.locals/\(∀x c,X.env.cells.lookup x=some c->c≠b)/\∀p∈X.pn++pins,p.1≠b)
  (keep:∀b o,b≠X.env.locals->b∉X.fs->b∉ch->s.heap.get? b=some o->H b=none->h'.get? b=some o)
  (slot:∀b o,b≠X.env.locals->b∈X.fs->b∉ch->s.heap.get? b=some o->H b=none->∃sl,h'.get? b=some { o with slots:=sl }) (free:∀b o,b∉ch->s.heap.get? b=some o->H b=none->H' b=none)
  (there:∀b o,b∉ch->s.heap.get? b=some o->∃o',h'.get? b=some o')
  (uU:∀b xs,H b=some (.tup xs)->H' b=some (.tup xs)) (tu:∀b o u,H b=some (.frz o u)->H' b=some (.frz o u)) (uw:∀b ps,H b=some (.tbl ps)->∃more,H' b=some (.tbl (ps++more)))
  (ns:∀m,s.heap.Ns X.env.locals m->h'.Ns X.env.locals m) (bJ:lC X.prog X.w H' h') (hg:AllBare g') :
  Inv X pins σ H' { s with heap:=h',gens:=g',drawn:=d',toks:=t' }:=by
 have neL:∀b o,X.aeR.heap.get? b=some o->b≠X.env.locals:=λb o e=>gR (gQ (gr e) I.ok.above);have Nh:∀b o,X.aeR.heap.get? b=some o->b∉X.ex->b∉ch:=λb o e hx hb=>by
  rcases (Np b hb).1 with z | z
  ·exact hx z
  ·exact absurd (gQ (gr e) z) (mH _)
 have cellK:∀x c,X.env.cells.lookup x=some c->∀v,s.heap.IsCell c v->h'.IsCell c v:=λx c e v zz=>by
  obtain⟨o,ho,hd⟩:=zz;have Jt:c∉ch:=λz=>(Np c z).2.2.1 x c e rfl;by_cases hc:c∈X.fs
  ·obtain⟨sl,q⟩:=slot c o (I.Um x c e) hc Jt ho (I.jE x c e);exact⟨_,q,hd⟩
  ·exact⟨o,keep c o (I.Um x c e) hc Jt ho (I.jE x c e),hd⟩
 refine⟨I.ok,I.os,hg,⟨λb o e n hb hx=>?_,λb o e n hb hx=>?_,λb o e n hx=>?_,λb o e hx=>?_,λb xs e=>uU b xs (I.base.uU b xs e),λb o xs e=>tu b o xs (I.base.tu b o xs e),λb ps e=>?_⟩,?_,λx c e=>?_,?_,λx c e=>?_,λp hp=>?_,bJ,I.len⟩
 ·exact keep b o (neL b o e) hb (Nh b o e hx) (I.base.keep b o e n hb hx) (I.base.free b o e n hx)
 ·obtain⟨sl,e1⟩:=I.base.slot b o e n hb hx;obtain⟨sl',e2⟩:=slot b _ (neL b o e) hb (Nh b o e hx) e1 (I.base.free b o e n hx);exact⟨sl',e2⟩
 ·obtain⟨o',e1⟩:=I.base.there b o e hx;exact free b o' (Nh b o e hx) e1 (I.base.free b o e n hx)
 ·obtain⟨o',e1⟩:=I.base.there b o e hx;exact there b o' (Nh b o e hx) e1
 ·obtain⟨m1,e1⟩:=I.base.uw b ps e;obtain⟨m2,e2⟩:=uw b _ e1;exact⟨m1++m2,by rw[e2,Array.append_assoc]⟩
 ·obtain⟨m,hn,hl⟩:=I.loc;refine⟨m,ns m hn,λi x v e1 e2 e3=>?_⟩;obtain⟨u,r,l⟩:=hl i x v e1 e2 e3;refine⟨u,r,?_⟩;rcases l with l | ⟨k,c,e,z⟩
  ·exact .inl l
  ·exact .inr ⟨k,c,e,cellK x c e _ z⟩
 ·obtain⟨v,z⟩:=I.cell x c e;exact⟨v,cellK x c e v z⟩
 ·obtain⟨m,⟨o,_,_,ho,_⟩,_⟩:=I.loc;exact free _ o (λz=>(Np _ z).2.1 rfl) ho I.free
 ·obtain⟨v,o,ho,hd⟩:=I.cell x c e;exact free c o (λz=>(Np c z).2.2.1 x c e rfl) ho (I.jE x c e)
 ·obtain⟨e,n,ne,nf,d⟩:=I.pin p hp;have Jt:p.1∉ch:=λz=>(Np p.1 z).2.2.2 p hp rfl;exact⟨keep p.1 p.2 ne nf Jt e n,free p.1 p.2 Jt e n,ne,nf,d⟩
def Inv.un{t':Nat}(I:Inv X pins σ H s)(u:Un X.fs [] H H' s.heap h')(bJ:lC X.prog X.w H' h'):Inv X pins σ H' { s with heap:=h',toks:=t' }:=by
 obtain⟨m,⟨o,es,ep,ho,r⟩,_⟩:=id I.loc;obtain⟨sl,hL⟩:=u.any ho I.free (by simp);exact I.step (g':=s.gens) (d':=s.drawn) (ch:=[]) (λ_ z=>nomatch z) (λb o _ hb _ e n=>u.keep b o e n hb (by simp)) (λb o _ hb _ e n=>u.slot b o e n hb (by simp)) (λb o _ e n=>u.free b o e n (by simp)) (λb o _ e=>u.there b o e (by simp)) u.uU u.tu u.uw (λm' hm=>by
  obtain⟨o',es',ep',Nj,r'⟩:=hm;rw[ho]at Nj;cases Nj;exact⟨_,es',ep',hL,r'⟩) bJ I.bare
def Inv.call{g':Array GenState}{t':Nat}{d':Drawn}{ch:List Addr}(I:Inv X pins σ H s)(u:Un (CZ X.stack) ch H H' s.heap h')(bJ:lC X.prog X.w H' h')(hg:AllBare g')
  (Np:∀b∈ch,(b∈X.ex\/X.aeR.heap.objs.size<=b)/\b≠X.env.locals/\(∀x c,X.env.cells.lookup x=some c->c≠b)/\∀p∈X.pn++pins,p.1≠b) :
  Inv X pins σ H' { s with heap:=h',gens:=g',drawn:=d',toks:=t' }:=by
 obtain⟨m,⟨o,es,ep,ho,r⟩,_⟩:=id I.loc;obtain⟨sl,hL⟩:=u.any ho I.free λz=>(Np _ z).2.1 rfl;exact I.step (ch:=ch) Np (λb o hL hb hc e n=>u.keep b o e n (λz=>(gq.mp (I.uZ b z)).elim hL hb) hc) (λb o _ _ hc e n=>u.any e n hc) (λb o hc e n=>u.free b o e n hc) (λb o hc e=>u.there b o e hc) u.uU u.tu u.uw (λm' hm=>by
  obtain⟨o',es',ep',Nj,r'⟩:=hm;rw[ho]at Nj;cases Nj;exact⟨_,es',ep',hL,r'⟩) bJ hg
def Inv.turned{t':Nat}{it:Addr}(I:Inv X pins σ H s)(k:∀b o,b≠it->s.heap.get? b=some o->h'.get? b=some o)(hn:H it=none)(hL:it≠X.env.locals)
  (h1:it∈X.ex\/X.aeR.heap.objs.size<=it) (h2:∀x c,X.env.cells.lookup x=some c->c≠it) (h3:∀p∈X.pn++pins,p.1≠it):Inv X pins σ H { s with heap:=h',toks:=t' }:=by
 have nit:∀b u,H b=some u->b≠it:=λb u e z=>by rw[z,hn]at e;cases e
 refine I.step (g':=s.gens) (d':=s.drawn) (ch:=[it]) (λb hb=>?_) (λb o _ _ hc e _=>k b o (λz=>hc (by simp[z])) e) (λb o _ _ hc e _=>⟨o.slots,k b o (λz=>hc (by simp[z])) e⟩) (λ_ _ _ _ n=>n)
  (λb o hc e=>⟨o,k b o (λz=>hc (by simp[z])) e⟩) (λ_ _ e=>e) (λ_ _ _ e=>e) (λb ps e=>⟨#[],by rw[e];simp⟩) (λm hm=>?_) (λb u e=>?_) I.bare
 ·have e:b=it:=by simpa using hb
  subst e;exact⟨h1,hL,h2,h3⟩
 ·obtain⟨o,es,ep,ho,r⟩:=hm;exact⟨o,es,ep,k _ o (afb hL) ho,r⟩
 ·refine (I.bJ b u e).uB (λc v hc q=>k c v ?_ q) (λ_ q=>q) λ_ _ q=>q;rcases hc with z | z
  ·rw[z];exact nit b u e
  ·exact nit c _ z
def Inv.tok(I:Inv X pins σ H s)(t:Nat):Inv X pins σ H { s with toks:=t }:=I.un (h':=s.heap) (t':=t) Un.refl I.bJ
def Inv.kept(I:Inv X pins σ H s)(k:∀b u,s.heap.get? b=some u->h'.get? b=some u):Inv X pins σ H { s with heap:=h',toks:=t' }:=I.un (Un.kept k) (I.bJ.kept k)
def Inv.laid(I:Inv X pins σ H s)(k:∀b u,s.heap.get? b=some u->h'.get? b=some u)(hp:s.heap.objs.size<=a)(new:bV X.prog X.w (upd H a o) h' a o) :
  Inv X pins σ (upd H a o) { s with heap:=h',toks:=t' }:=I.un (Un.laid k hp (I.bJ.fresh hp)) (I.bJ.laid k hp new)
def Inv.write(I:Inv X pins σ H s)(mu:Mut (H x))(he:e=x\/H e=some (.own x))(k:∀b u,b≠e->s.heap.get? b=some u->h'.get? b=some u)(Nm:∃u,h'.get? e=some u) 
  (new:bV X.prog X.w (upd H x o) h' x o):Inv X pins σ (upd H x o) { s with heap:=h',toks:=t' }:=I.un (Un.write mu he k Nm) (I.bJ.write mu he k Nm new)
def Inv.Cd(I:Inv X pins σ H s)(h:∀p∈aaU,s.heap.get? p.1=some p.2/\H p.1=none/\p.1≠X.env.locals/\p.1∉X.fs/\∀v,p.2.data≠.cell v):Inv X aaU σ H s :=
 ⟨I.ok,I.os,I.bare,I.base,I.loc,I.cell,I.free,I.jE,λp hp=>(mO.mp hp).elim (λz=>I.pin p (pC _ z)) (h p),I.bJ,I.len⟩
def zsp{N:List Str}(hN:N.Nodup){i j:Nat}{x:Str}(a:N[i]? = some x)(b:N[j]? = some x):i=j:=by
 obtain⟨h1,e1⟩:=gf.mp a;obtain⟨h2,e2⟩:=gf.mp b;exact (List.getElem_inj hN).mp (e1.trans e2.symm)
def zog{M:Model}{A:Around}{E:Value->Shared->Prop}{i:Nat}{x:Str}{v:V}{u:Value}{Q:Unit->Shared->Prop}(I:Inv X pins σ H s)(hN:X.N.Nodup)(hi:X.N[i]? = some x)(hx:Loc X.env.scope x)(r:RelV v u)
  (h:∀s',Inv X pins (σ.set i (some v)) H s'->(∃a,Heap.SameBut a s.heap s'.heap/\(a=X.env.locals\/X.env.cells.lookup x=some a))->Q () s') (hf:X.fn x=true\/X.env.scope.names.lookup x=some .local:=by first | exact .inl rfl | exact .inr rfl | assumption):wpAny M A (storeName X.env x u) Q E s:=by
 obtain⟨m,hn,hl⟩:=id I.loc;have ad1:(X.env.scope.kind == .class || (X.env.scope.kind == .module && X.env.locals != X.env.globals))=false:=by rw[I.ok.kind];rfl
 have aeD:i<σ.length:=by rw[I.len];exact (gf.mp hi).1
 have Um:=I.Um;have tracked:∀{a:Addr} {h':Heap},(∃o,s.heap.get? a=some o/\H a=none)->Heap.SameBut a s.heap h'->lC X.prog X.w H h':=λ{a h'} ha hs b ob e=>by
  obtain⟨_,_,T6⟩:=ha;refine (I.bJ b ob e).uB (λc w' hc q=>(hs.2 c ?_).trans q) (λ_ q=>q) λ_ _ q=>q;rintro rfl;rcases hc with rfl | hc
  ·rw[T6]at e;cases e
  ·rw[T6]at hc;cases hc
 rcases hx with hk | hk
 ·refine wpAny_storeName_local hk hn (λh' hn' hs=>?_) ad1;obtain⟨oL,_,_,hoL,_⟩:=id hn;refine h _ ⟨I.ok,I.os,I.bare,⟨λb o e n hb hx=>?_,λb o e n hb hx=>?_,I.base.free,λb o e hx=>?_,I.base.uU,I.base.tu,I.base.uw⟩,⟨_,hn',λj y v' e1 e2 e3=>?_⟩,λy c e=>?_,I.free,I.jE,λp hp=>?_,tracked ⟨oL,hoL,I.free⟩ hs,by simpa using I.len⟩ ⟨_,hs,.inl rfl⟩
  ·exact (hs.2 b (gR (gQ (gr e) I.ok.above))).trans (I.base.keep b o e n hb hx)
  ·obtain⟨sl,e1⟩:=I.base.slot b o e n hb hx;exact⟨sl,(hs.2 b (gR (gQ (gr e) I.ok.above))).trans e1⟩
  ·obtain⟨o',e1⟩:=I.base.there b o e hx;exact⟨o',(hs.2 b (gR (gQ (gr e) I.ok.above))).trans e1⟩
  ·by_cases hj:j=i
   ·subst hj;rw[hi]at e1;cases e1;rw[mq aeD]at e2;cases e2;exact⟨u,r,.inl ⟨hk,by simp⟩⟩
   ·rw[gO (afb hj)]at e2;obtain⟨u',r',q⟩:=hl j y v' e1 e2 e3;refine⟨u',r',?_⟩;rcases q with⟨k,e⟩ | ⟨k,c,e,z⟩
    ·refine .inl ⟨k,?_⟩;have:y≠x:=λe=>hj (zsp hN e1 (e ▸ hi));simp[this,e]
    ·exact .inr ⟨k,c,e,z.sameBut hs (Um y c e)⟩
  ·obtain⟨w',z⟩:=I.cell y c e;exact⟨w',z.sameBut hs (Um y c e)⟩
  ·obtain⟨e,n,ne,nf,d⟩:=I.pin p hp;exact⟨(hs.2 p.1 ne).trans e,n,ne,nf,d⟩
 ·have XX:X.fn x=true:=by
   rcases hf with z | z
   ·exact z
   ·rw[z]at hk;cases hk
  obtain⟨c,hc⟩:=I.ok.has x (.inl hk);obtain⟨w',z⟩:=I.cell x c hc;refine wpAny_storeName_cell I.ok.kind hk hc z (λh' hc' hs=>?_);obtain⟨oc,hoc,adT⟩:=id z;refine h { s with heap:=h' } ⟨I.ok,I.os,I.bare,⟨λb o e n hb hx=>?_,λb o e n hb hx=>?_,I.base.free,λb o e hx=>?_,I.base.uU,I.base.tu,I.base.uw⟩,⟨m,hn.sameBut hs (afb (Um x c hc)),λj y v' e1 e2 e3=>?_⟩,λy c' e=>?_,I.free,I.jE,λp hp=>?_,tracked ⟨oc,hoc,I.jE x c hc⟩ hs,by simpa using I.len⟩ ⟨c,hs,.inr hc⟩
  ·exact (hs.2 b (gR (gQ (gr e) (I.ok.Uo x c XX hc)))).trans (I.base.keep b o e n hb hx)
  ·obtain⟨sl,e1⟩:=I.base.slot b o e n hb hx;exact⟨sl,(hs.2 b (gR (gQ (gr e) (I.ok.Uo x c XX hc)))).trans e1⟩
  ·obtain⟨o',e1⟩:=I.base.there b o e hx;exact⟨o',(hs.2 b (gR (gQ (gr e) (I.ok.Uo x c XX hc)))).trans e1⟩
  ·by_cases hj:j=i
   ·subst hj;rw[hi]at e1;cases e1;rw[mq aeD]at e2;cases e2;exact⟨u,r,.inr ⟨.inl hk,c,hc,hc'⟩⟩
   ·rw[gO (afb hj)]at e2;obtain⟨u',r',q⟩:=hl j y v' e1 e2 e3;refine⟨u',r',?_⟩;rcases q with q | ⟨k,c',e,z'⟩
    ·exact .inl q
    ·refine .inr ⟨k,c',e,z'.sameBut hs ?_⟩;rintro rfl;exact hj (zsp hN e1 (I.ok.inj _ _ _ e hc ▸ hi))
  ·by_cases hcc:c'=c
   ·subst hcc;exact⟨_,hc'⟩
   ·obtain⟨w2,z2⟩:=I.cell y c' e;exact⟨w2,z2.sameBut hs hcc⟩
  ·obtain⟨e,n,ne,nf,d⟩:=I.pin p hp;refine⟨(hs.2 p.1 ?_).trans e,n,ne,nf,d⟩;intro q;rw[q,hoc]at e;have q':oc=p.2:=ae5 e;exact d w' (by rw[<-q'];exact adT)
def zrf(I:Inv X pins σ H s)(hN:X.N.Nodup)(hi:X.N[i]? = some x)(hx:Loc X.env.scope x)(r:RelV v u) 
  (h:∀s',Inv X pins (σ.set i (some v)) H s'->Q () s') (hf:X.fn x=true\/X.env.scope.names.lookup x=some .local:=by first | exact .inl rfl | exact .inr rfl | assumption):wpAny M A (storeName X.env x u) Q E s :=
 zog I hN hi hx r (λs' I' _=>h s' I') hf
def Inv.abZ(I:Inv X pins σ H s)(ho:s'.os=s.os)(u:Un (CZ X.stack) ch H H' s.heap s'.heap)(bJ:lC X.prog X.w H' s'.heap)(hg:AllBare s'.gens) 
  (Np:∀b∈ch,(b∈X.ex\/X.aeR.heap.objs.size<=b)/\b≠X.env.locals/\(∀x c,X.env.cells.lookup x=some c->c≠b)/\∀p∈X.pn++pins,p.1≠b):Inv X pins σ H' s':=by
 obtain⟨h',g',d',t',o'⟩:=s';have e:o'=s.os:=ho;subst e;exact I.call (g':=g') (t':=t') (d':=d') u bJ hg Np
end
noncomputable abbrev XK:=Value->Option Addr->Hp->Prop
noncomputable abbrev St:=List (Option V)
noncomputable abbrev VK:=V->Hp->Prop
noncomputable abbrev TE:=St->Hp->VK->Prop
noncomputable abbrev TT:=St->Hp->(Bool->Hp->Prop)->Prop
noncomputable abbrev TA:=St->Hp->(List V->Hp->Prop)->Prop
structure Ends where
 nx:St->Hp->Prop
 rt:VK
 bk:St->Hp->Prop:=λ_ _=>False
 ct:St->Hp->Prop:=λ_ _=>False
noncomputable abbrev TS:=Ends->St->Hp->Prop
def EP(X:Cx)(pins:List (Addr×Obj))(σ:St)(Q:VK)(u:Value)(s':Shared):Prop:=∃v H',Inv X pins σ H' s'/\RelV v u/\Q v H'
def TP(X:Cx)(pins:List (Addr×Obj))(σ:St)(Q:Bool->Hp->Prop)(b:Bool)(s':Shared):Prop:=∃H',Inv X pins σ H' s'/\Q b H'
def AP(X:Cx)(pins:List (Addr×Obj))(σ:St)(Q:List V->Hp->Prop)(us:List Value)(s':Shared):Prop:=∃vs H',Inv X pins σ H' s'/\Vals vs us/\Q vs H'
def SP(X:Cx)(pins:List (Addr×Obj))(D:Ends)(f:Flow)(s':Shared):Prop :=
 match f with
 | .next=>∃σ' H',Inv X pins σ' H' s'/\D.nx σ' H'
 | .brk=>∃σ' H',Inv X pins σ' H' s'/\D.bk σ' H'
 | .cont=>∃σ' H',Inv X pins σ' H' s'/\D.ct σ' H'
 | .ret u=>∃v σ' H',Inv X pins σ' H' s'/\RelV v u/\D.rt v H'
def PE(X:Cx)(e:Expr)(t:TE):Prop :=
 ∀(pins:List (Addr×Obj)) (s:Shared) (σ:St) (H:Hp) (Q:VK),Inv X pins σ H s->t σ H Q->wpAny (model X.prog X.w) X.A (eval e X.env) (EP X pins σ Q) X.xe s
def PT(X:Cx)(e:Expr)(t:TT):Prop :=
 ∀(pins:List (Addr×Obj)) (s:Shared) (σ:St) (H:Hp) (Q:Bool->Hp->Prop),Inv X pins σ H s->t σ H Q->wpAny (model X.prog X.w) X.A (isTrue e X.env (eval e X.env)) (TP X pins σ Q) X.xe s
def PW(X:Cx)(e:Expr)(t:TT):Prop :=
 ∀(whole:Sem Value) (pins:List (Addr×Obj)) (s:Shared) (σ:St) (H:Hp) (Q:Bool->Hp->Prop),Inv X pins σ H s->t σ H Q->wpAny (model X.prog X.w) X.A (isTrue e X.env whole) (TP X pins σ Q) X.xe s
def PW.pt(h:PW X e t):PT X e t:=h _
def PA(X:Cx)(es:List Expr)(t:TA):Prop :=
 ∀(pos:Pos) (pins:List (Addr×Obj)) (s:Shared) (σ:St) (H:Hp) (Q:List V->Hp->Prop),Inv X pins σ H s->t σ H Q->wpAny (model X.prog X.w) X.A (spliced (backTo pos (starEach es X.env))) (AP X pins σ Q) X.xe s
def PS(X:Cx)(st:Stmt)(t:TS):Prop :=
 ∀(pins:List (Addr×Obj)) (s:Shared) (σ:St) (H:Hp) (D:Ends),Inv X pins σ H s->t D σ H->wpAny (model X.prog X.w) X.A (exec st X.env) (SP X pins D) X.xe s
def zK(X:Cx)(st:List Stmt)(t:TS):Prop :=
 ∀(pins:List (Addr×Obj)) (s:Shared) (σ:St) (H:Hp) (D:Ends),Inv X pins σ H s->t D σ H->wpAny (model X.prog X.w) X.A (execs st X.env) (SP X pins D) X.xe s
def cC{α:Type}{t:Sem α}{Q Q':α->Shared->Prop}{M:Model}{A:Around}{E:Value->Shared->Prop}{s:Shared}(h:wpAny M A t Q E s)(hQ:∀a s,Q a s->Q' a s):wpAny M A t Q' E s:=afe h hQ λ_ _ x=>x
section
variable  {X:Cx}
noncomputable def acB(i:Nat):TE:=fun σ H Q=>∃v,σ[i]? = some (some v)/\Q v H
noncomputable def tC(v:V):TE:=λ_ H Q=>Q v H
def IW(hN:X.N[i]? = some x)(hv:Vis X.env.scope x)(hd:(x==("__debug__":Str))=false:=by decide)(yh:(x==("__classdict__":Str))=false:=by decide):PE X (.Name x pos) (acB i):=by
 intro pins s σ H Q I h;obtain⟨v,e,h⟩:=h;obtain⟨m,hn,hl⟩:=I.loc;obtain⟨u,r,l⟩:=hl i x v hN e hv;have fin:EP X pins σ Q u s:=⟨v,H,I,r,h⟩;rcases l with⟨hk,hm⟩ | ⟨hk,c,hc,T_⟩
 ·exact wpAny_Name (wpAny_loadName_local I.ok.kind hk hn hm fin) hd
 ·rcases hk with hk | hk
  ·exact wpAny_Name (wpAny_loadName_cell I.ok.kind hk hc T_ fin) hd
  ·exact wpAny_Name (wpAny_loadName_free I.ok.kind hk hc T_ fin yh) hd
def Wa{i j pos}:PE X (.Constant (.int i) j pos) (tC (.int i)):=λ_ _ _ H _ I h=>wpAny_Constant_int ⟨.int i,H,I.tok _,⟨_,rfl⟩,h⟩
def aa1{b j pos}:PE X (.Constant (.bool b) j pos) (tC (.bl b)):=λ_ _ _ H _ I h=>Constant_bool ⟨.bl b,H,I,rfl,h⟩
def V8{j pos}:PE X (.Constant .none j pos) (tC .non):=λ_ _ _ H _ I h=>Constant_none ⟨.non,H,I,rfl,h⟩
def V5{x j pos}:PE X (.Constant (.str x) j pos) (tC (.str x)):=λ_ _ _ H _ I h=>Calls.Constant_str ⟨.str x,H,I.tok _,⟨_,rfl⟩,h⟩
def Gl(X:Cx)(x:Str):Prop:=X.env.kindOf x=some .globalImplicit
def Uw(I:Inv X pins σ H s)(hg:Gl X x)(hm:X.mg x=some u)(h:Q u s) 
  (hd:(x==("__debug__":Str))=false:=by decide):wpAny (model X.prog X.w) X.A (eval (.Name x pos) X.env) Q E s :=
 Calls.Name_function_global I.ok.kind hg (Calls.loadGlobal_global (by rw[I.ok.glob];exact I.mod.glob.keeps I.bk) hm h) hd
def Nt(I:Inv X pins σ H s)(hg:Gl X x)(hm:X.mg x=none)(hv:bootBuiltins x=some u)(h:Q u s) 
  (hn:x ≠ "__name__":=by decide) (hd:(x==("__debug__":Str))=false:=by decide):wpAny (model X.prog X.w) X.A (eval (.Name x pos) X.env) Q E s:=by
 obtain⟨mb,h1,h2⟩:=I.mod.blt;exact Calls.Name_function_global I.ok.kind hg (Calls.loadGlobal_builtin (by rw[I.ok.glob];exact I.mod.glob.keeps I.bk) hm (by rw[I.ok.blt];exact h1.keeps I.bk) ((h2 x hn).trans hv) h) hd
def P_(hg:Gl X x)(hm:X.mg x=some u)(r:RelV v u)(hd:(x==("__debug__":Str))=false:=by decide):PE X (.Name x pos) (tC v) :=
 λ_ _ _ H _ I h=>Uw I hg hm ⟨v,H,I,r,h⟩ hd
def Qg{x:Str}{v:V}{u:Value}{pos:Pos}(hg:Gl X x)(hm:X.mg x=none)(hv:bootBuiltins x=some u)(r:RelV v u)(hn:x ≠ "__name__":=by decide)(hd:(x==("__debug__":Str))=false:=by decide):PE X (.Name x pos) (tC v) :=
 λ_ _ _ H _ I h=>Nt I hg hm hv ⟨v,H,I,r,h⟩ hn hd
variable  {a b:Expr}{ta tb:TE}{pos:Pos}
variable  {tA tB':TT}{rest:List Expr}
noncomputable def acN(t u:TT):TT:=fun σ H Q=>t σ H λc H1=>if c=true then u σ H1 Q else Q false H1
noncomputable def tOr(t u:TT):TT:=fun σ H Q=>t σ H λc H1=>if c=true then Q true H1 else u σ H1 Q
noncomputable def acG(t:TT):TT:=fun σ H Q=>t σ H λc H1=>Q (!c) H1
def O_(ha:PT X a tA):PW X (.BoolOp .And [a] pos) tA:=by
 intro wh pins s σ H Q I h;refine isTrue_and (cC (ha pins s σ H Q I h) λc s1 e=>?_);cases c with
 | true=>exact isTrue_and_nil e
 | false=>exact e
def VF(ha:PT X a tA):PW X (.BoolOp .Or [a] pos) tA:=by
 intro wh pins s σ H Q I h;refine isTrue_or (cC (ha pins s σ H Q I h) λc s1 e=>?_);cases c with
 | false=>exact isTrue_or_nil e
 | true=>exact e
def VG(ha:PT X a tA)(hb:PW X (.BoolOp .And (b::rest) pos) tB'):PW X (.BoolOp .And (a::b::rest) pos) (acN tA tB'):=by
 intro wh pins s σ H Q I h;refine isTrue_and (cC (ha pins s σ H _ I h) λc s1 zz=>?_);obtain⟨H1,I1,q1⟩:=zz;cases c with
 | true=>exact hb wh pins s1 σ H1 Q I1 q1
 | false=>exact⟨H1,I1,q1⟩
def aaQ(ha:PT X a tA)(hb:PW X (.BoolOp .Or (b::rest) pos) tB'):PW X (.BoolOp .Or (a::b::rest) pos) (tOr tA tB'):=by
 intro wh pins s σ H Q I h;refine isTrue_or (cC (ha pins s σ H _ I h) λc s1 zz=>?_);obtain⟨H1,I1,q1⟩:=zz;cases c with
 | true=>exact⟨H1,I1,q1⟩
 | false=>exact hb wh pins s1 σ H1 Q I1 q1
def VH(ha:PT X a tA):PT X (.UnaryOp .Not a pos) (acG tA):=by
 intro pins s σ H Q I h;exact isTrue_not (ha pins s σ H (λc H1=>Q (!c) H1) I h)
noncomputable def aaw(ta tb:TE):TE:=fun σ H Q=>ta σ H λx H1=>∃c,x=.bl c/\if c=true then tb σ H1 Q else Q (.bl false) H1
noncomputable def acF(ta tb:TE):TE:=fun σ H Q=>ta σ H λx H1=>∃c,x=.bl c/\if c=true then Q (.bl true) H1 else tb σ H1 Q
noncomputable def aam(ta:TE):TE:=fun σ H Q=>ta σ H λx H1=>∃c,x=.bl c/\Q (.bl (!c)) H1
def V6{op}(h:PE X a t):PE X (.BoolOp op [a] pos) t:=λpins s σ H Q I hw=>BoolOp_one (h pins s σ H Q I hw)
def Wd(ha:PE X a ta)(hb:PE X (.BoolOp .And (b::rest) pos) tb):PE X (.BoolOp .And (a::b::rest) pos) (aaw ta tb):=by
 intro pins s σ H Q I h;refine BoolOp_and (cC (ha pins s σ H _ I h) λv s1 zz=>?_);obtain⟨x,H1,I1,r1,q1⟩:=zz;obtain⟨c,rfl,q1⟩:=q1;cases r1;refine afv ?_;cases c with
 | true=>exact hb pins s1 σ H1 Q I1 q1
 | false=>exact⟨.bl false,H1,I1,rfl,q1⟩
def aaX(ha:PE X a ta)(hb:PE X (.BoolOp .Or (b::rest) pos) tb):PE X (.BoolOp .Or (a::b::rest) pos) (acF ta tb):=by
 intro pins s σ H Q I h;refine BoolOp_or (cC (ha pins s σ H _ I h) λv s1 zz=>?_);obtain⟨x,H1,I1,r1,q1⟩:=zz;obtain⟨c,rfl,q1⟩:=q1;cases r1;refine afv ?_;cases c with
 | false=>exact hb pins s1 σ H1 Q I1 q1
 | true=>exact⟨.bl true,H1,I1,rfl,q1⟩
def V7(ha:PE X a ta):PE X (.UnaryOp .Not a pos) (aam ta):=by
 intro pins s σ H Q I h;refine UnaryOp_ (cC (ha pins s σ H _ I h) λv s1 zz=>?_);obtain⟨x,H1,I1,r1,q1⟩:=zz;obtain⟨c,rfl,q1⟩:=q1;cases r1;exact not_of (afv ⟨.bl (!c),H1,I1,rfl,q1⟩)
noncomputable def tIf(t:TT)(ta tb:TE):TE:=fun σ H Q=>t σ H λc H1=>if c=true then ta σ H1 Q else tb σ H1 Q
def Ja{c:Expr}(hc:PT X c tA)(ha:PE X a ta)(hb:PE X b tb):PE X (.IfExp c a b pos) (tIf tA ta tb):=by
 intro pins s σ H Q I h;refine wpAny_IfExp (cC (hc pins s σ H _ I h) λd s1 zz=>?_);obtain⟨H1,I1,q1⟩:=zz;cases d with
 | true=>exact ha pins s1 σ H1 Q I1 q1
 | false=>exact hb pins s1 σ H1 Q I1 q1
end
def oF(K:PySem.W.Frag)(H:Hp)(a:Addr)(xs:List V):Prop :=
 Rd H a (.lst xs) \/
  ∃(o:Obj) (its:Array Value) (n:Nat),K.lookup a=some o/\o.cls=.type "list"/\o.dict=none/\o.data=.seq its n/\its.size<=sizeLine/\Vals xs its.toList
def oK(K:PySem.W.Frag)(H:Hp)(a:Addr)(xs:List V):Prop :=
 Rd H a (.tup xs) \/
  ∃(o:Obj) (its:Array Value) (n:Nat),K.lookup a=some o/\o.cls=.type "tuple"/\o.data=.seq its n/\its.size<=sizeLine/\Vals xs its.toList
noncomputable def aem:Value->Option V
 | .none=>some .non
 | .bool b=>some (.bl b)
 | .int i _=>some (.int i)
 | .str x _=>some (.str x)
 | .bytes b _=>some (.byt b)
 | .float b _=>some (.flt b)
 | .ref a=>some (.ref a)
 | .type n=>some (.ty n)
 | _=>none
def RelV.abs(r:RelV x u):aem u=some x:=by
 cases x with
 | non=>cases r;rfl
 | bl _=>cases r;rfl
 | int _=>obtain⟨t,rfl⟩:=r;rfl
 | str _=>obtain⟨t,rfl⟩:=r;rfl
 | byt _=>obtain⟨t,rfl⟩:=r;rfl
 | flt _=>obtain⟨t,rfl⟩:=r;rfl
 | ref _=>cases r;rfl
 | ty _=>cases r;rfl
def RelV.inj{x y:V}{u:Value}(r:RelV x u)(q:RelV y u):x=y:=ae5 (r.abs.symm.trans q.abs)
theorem Vals.inj:∀{xs ys:List V} {us:List Value},Vals xs us->Vals ys us->xs=ys
 | _,_,_,.nil,.nil=>rfl
 | _,_,_,.cons r t,.cons r' t'=>by rw[r.inj r',Vals.inj t t']
section
variable  {X:Cx}{pins:List (Addr×Obj)}{σ:St}{H:Hp}{s:Shared}{a:Addr}{xs ys:List V}
def oF.of{K:PySem.W.Frag}(h:H a=some (.lst xs)):oF K H a xs:=.inl (.inl h)
def oK.of{K:PySem.W.Frag}(h:H a=some (.tup xs)):oK K H a xs:=.inl (.inl h)
def Inv.list(I:Inv X pins σ H s)(h:oF X.K H a xs):∃its:List Value,Vals xs its/\PlainL s.heap a its.toArray/\xs.length<=sizeLine:=by
 rcases h with h | ⟨o,its,n,hk,hc,hd,hs,hz,r⟩
 ·obtain⟨z,its,n,r,e⟩:=h.ok I.bJ;exact⟨its,r,⟨_,n,e,rfl,rfl,rfl⟩,z⟩
 ·refine⟨its.toList,r,⟨o,n,I.oJ a o hk,hc,hd,by simpa using hs⟩,?_⟩;have e:=r.length;simp only[nJ]at e;omega
def Inv.tuple(I:Inv X pins σ H s)(h:oK X.K H a xs):∃its:List Value,Vals xs its/\IsTup s.heap a its.toArray/\xs.length<=sizeLine:=by
 rcases h with h | ⟨o,its,n,hk,hc,hs,hz,r⟩
 ·obtain⟨z,its,r,p⟩:=h.ok I.bJ;exact⟨its,r,p,z⟩
 ·refine⟨its.toList,r,⟨o,I.oJ a o hk,hc,n,by simpa using hs⟩,?_⟩;have e:=r.length;simp only[nJ]at e;omega
def Inv.vo(I:Inv X pins σ H s)(h:oF X.K H a xs)(h':oF X.K H a ys):xs=ys:=by
 obtain⟨its,r,⟨o,n,e,_,_,d⟩,_⟩:=I.list h;obtain⟨its',r',⟨o',n',e',_,_,d'⟩,_⟩:=I.list h';rw[e]at e';cases e';rw[d]at d';injection d' with d1 _;have:its=its':=by simpa using congrArg Array.toList d1
 subst this;exact r.inj r'
def Inv.sy(I:Inv X pins σ H s)(h:oK X.K H a xs)(h':oK X.K H a ys):xs=ys:=by
 obtain⟨its,r,⟨o,e,_,n,d⟩,_⟩:=I.tuple h;obtain⟨its',r',⟨o',e',_,n',d'⟩,_⟩:=I.tuple h';rw[e]at e';cases e';rw[d]at d';injection d' with d1 _;have:its=its':=by simpa using congrArg Array.toList d1
 subst this;exact r.inj r'
end
noncomputable abbrev Cx.wish(X:Cx)(E:Value->Shared->Prop):Cx:={ X with xe:=E }
noncomputable abbrev Cx.Jp(X:Cx):Cx:=X.wish λ_ _=>False
def Cx.Ok.wish{X:Cx}(ok:X.Ok)(E:Value->Shared->Prop):(X.wish E).Ok :=
 ⟨ok.mod,ok.kind,ok.glob,ok.blt,ok.above,ok.inj,ok.has,ok.Uo,ok.hd,ok.frames,ok.stk,ok.exf,ok.bs,ok.Gy,ok.Fb,ok.Lh,ok.oV,ok.K8⟩
def Cx.Ok.lH{X:Cx}{E:Value->Shared->Prop}(ok:(X.wish E).Ok):X.Ok :=
 ⟨ok.mod,ok.kind,ok.glob,ok.blt,ok.above,ok.inj,ok.has,ok.Uo,ok.hd,ok.frames,ok.stk,ok.exf,ok.bs,ok.Gy,ok.Fb,ok.Lh,ok.oV,ok.K8⟩
section
variable  {X:Cx}{pins:List (Addr×Obj)}{σ:St}{H:Hp}{s:Shared}{E:Value->Shared->Prop}
def Inv.wish(I:Inv X pins σ H s)(E:Value->Shared->Prop):Inv (X.wish E) pins σ H s:=⟨I.ok.wish E,I.os,I.bare,I.base,I.loc,I.cell,I.free,I.jE,I.pin,I.bJ,I.len⟩
def Inv.lH(I:Inv (X.wish E) pins σ H s):Inv X pins σ H s:=⟨I.ok.lH,I.os,I.bare,I.base,I.loc,I.cell,I.free,I.jE,I.pin,I.bJ,I.len⟩
def SP.lH(h:SP (X.wish E) pins D f s'):SP X pins D f s':=by
 cases f with
 | next=>obtain⟨σ',H',I,q⟩:=h;exact⟨σ',H',I.lH,q⟩
 | brk=>obtain⟨σ',H',I,q⟩:=h;exact⟨σ',H',I.lH,q⟩
 | cont=>obtain⟨σ',H',I,q⟩:=h;exact⟨σ',H',I.lH,q⟩
 | ret u=>obtain⟨v,σ',H',I,r,q⟩:=h;exact⟨v,σ',H',I.lH,r,q⟩
def zK.Jp{st:List Stmt}{t:TS}(h:zK X.Jp st t):zK X st t:=λpins s σ H D I hw =>
 afe (h pins s σ H D (I.wish _) hw) (λ_ _ q=>q.lH) λ_ _ z=>False.elim z
end
section
variable  {X:Cx}{st:Stmt}{rest:List Stmt}{t u:TS}{e:Expr}{te:TE}{pos:Pos}
noncomputable def aao:TS:=λD σ H=>D.nx σ H
noncomputable def acD(t u:TS):TS:=λD σ H=>t { D with nx:=u D } σ H
def Pj:zK X [] aao:=λ_ _ σ H _ I h=>wpAny_execs_nil ⟨σ,H,I,h⟩
def Ik(h1:PS X st t)(h2:zK X rest u):zK X (st::rest) (acD t u):=by
 intro pins s σ H D I h;refine wpAny_execs_cons (cC (h1 pins s σ H { D with nx:=u D } I h) λf s1 q=>?_);cases f with
 | next =>
  obtain⟨σ',H',I',q⟩:=q;exact h2 pins s1 σ' H' D I' q
 | ret v=>exact q
 | brk=>exact q
 | cont=>exact q
def Ph(h1:PS X st t):zK X [st] t:=by
 intro pins s σ H D I h;refine wpAny_execs_cons (cC (h1 pins s σ H D I h) λf s1 q=>?_);cases f with
 | next=>exact wpAny_execs_nil q
 | ret v=>exact q
 | brk=>exact q
 | cont=>exact q
noncomputable def Vk:TS:=λD σ H=>D.bk σ H
def Im:PS X (.Break pos) Vk:=λ_ _ σ H _ I h=>wpAny_Break ⟨σ,H,I,h⟩
def Inv.quiet(I:Inv X pins σ H s):interactive X.env=false:=by simp[interactive,I.ok.kind]
noncomputable def aas(te:TE):TS:=λD σ H=>te σ H λ_ H1=>D.nx σ H1
def Pk(he:PE X e te)(hs:swapsWith e none pos.line X.env=pure false:=by rfl):PS X (.Expr e pos) (aas te):=by
 intro pins s σ H D I h;refine wpAny_Expr_any (cC (he pins s σ H _ I h) λv s1 zz=>?_) I.quiet hs;obtain⟨x,H1,I1,r1,q1⟩:=zz;exact⟨σ,H1,I1,q1⟩
noncomputable def acE(te:TE):TS:=λD σ H=>te σ H D.rt
def VL(he:PE X e te):PS X (.Return (some e) pos) (acE te):=by
 intro pins s σ H D I h;refine wpAny_Return_some (cC (he pins s σ H _ I h) λv s1 zz=>?_);obtain⟨x,H1,I1,r1,q1⟩:=zz;exact⟨x,σ,H1,I1,r1,q1⟩
noncomputable def acJ(c:TT)(t u:TS):TS:=λD σ H=>c σ H λb H1=>if b=true then t D σ H1 else u D σ H1
def aaR{c:Expr}{a b:List Stmt}{tc:TT}(hc:PT X c tc)(ha:zK X a t)(hb:zK X b u):PS X (.If c a b pos) (acJ tc t u):=by
 intro pins s σ H D I h;refine wpAny_If (cC (hc pins s σ H _ I h) λd s1 zz=>?_);obtain⟨H1,I1,q1⟩:=zz;cases d with
 | true=>exact ha pins s1 σ H1 D I1 q1
 | false=>exact hb pins s1 σ H1 D I1 q1
end
noncomputable abbrev TG:=V->St->Hp->(St->Hp->Prop)->Prop
noncomputable abbrev Uq:=List V->St->Hp->(St->Hp->Prop)->Prop
def PG(X:Cx)(target:Expr)(t:TG):Prop :=
 ∀(pins:List (Addr×Obj)) (s:Shared) (σ:St) (H:Hp) (v:V) (u:Value) (Q:St->Hp->Prop),Inv X pins σ H s->RelV v u->t v σ H Q ->
  wpAny (model X.prog X.w) X.A (assign target X.env u) (λ_ s'=>∃σ' H',Inv X pins σ' H' s'/\Q σ' H') X.xe s
def PGs(X:Cx)(ts:List Expr)(t:Uq):Prop :=
 ∀(pins:List (Addr×Obj)) (s:Shared) (σ:St) (H:Hp) (vs:List V) (us:List Value) (Q:St->Hp->Prop),Inv X pins σ H s->Vals vs us->t vs σ H Q ->
  wpAny (model X.prog X.w) X.A (assignInOrder ((assignEach ts X.env).map (·.2)) us) (λ_ s'=>∃σ' H',Inv X pins σ' H' s'/\Q σ' H') X.xe s
noncomputable abbrev R_:=V->V->V->Hp->(Hp->Prop)->Prop
def Yy(X:Cx)(t:R_):Prop :=
 ∀(pins:List (Addr×Obj)) (s:Shared) (σ:St) (H:Hp) (o i v:V) (ov iv u:Value) (Q:Hp->Prop),Inv X pins σ H s->RelV o ov->RelV i iv->RelV v u->t o i v H Q ->
  wpAny (model X.prog X.w) X.A (setItem ov iv u) (λ_ s'=>∃H',Inv X pins σ H' s'/\Q H') X.xe s
section
variable  {X:Cx}{pos:Pos}
noncomputable def CW(i:Nat):TG:=λv σ H Q=>Q (σ.set i (some v)) H
def PQ(hN:X.N.Nodup)(hi:X.N[i]? = some x)(hx:Loc X.env.scope x)(hf:X.fn x=true\/X.env.scope.names.lookup x=some .local:=by first | exact .inl rfl | exact .inr rfl | assumption):PG X (.Name x pos) (CW i):=by
 intro pins s σ H v u Q I r h;exact wpAny_assign_Name (zrf I hN hi hx r (λs' I'=>⟨_,H,I',h⟩) hf)
noncomputable def ad7:Uq:=λvs σ H Q=>vs=[]/\Q σ H
noncomputable def abE(t:TG)(u:Uq):Uq:=λvs σ H Q=>∃v r,vs=v::r/\t v σ H fun σ' H'=>u r σ' H' Q
def PN:PGs X [] ad7:=by
 intro pins s σ H vs us Q I r h;obtain⟨e,h⟩:=h;subst e;cases r;exact assignInOrder_nil ⟨σ,H,I,h⟩
def IV{e:Expr}{es:List Expr}{t:TG}{u:Uq}(h1:PG X e t)(h2:PGs X es u)
  (hs:(assignEach (e::es) X.env).map (·.2)=assign e X.env::(assignEach es X.env).map (·.2):=by rfl):PGs X (e::es) (abE t u):=by
 intro pins s σ H vs us Q I r h;obtain⟨v,vr,e1,h⟩:=h;subst e1;cases r with
 | cons r rr =>
  rw[hs];refine assignInOrder_cons (cC (h1 pins s σ H _ _ _ I r h) λ_ s1 zz=>?_);obtain⟨σ1,H1,I1,q1⟩:=zz;exact h2 pins s1 σ1 H1 _ _ Q I1 rr q1
noncomputable def ad5(K:PySem.W.Frag)(n:Nat)(t:Uq):TG:=λv σ H Q=>∃a xs,v=.ref a/\oK K H a xs/\xs.length=n/\t xs σ H Q
def V2(hc:X.calm=true)(h:PGs X es t) 
  (hn:(assignEach es X.env).length=n:=by rfl) (FJ:(assignEach es X.env).findIdx? (·.1)=none:=by rfl):PG X (.Tuple es k pos) (ad5 X.K n t):=by
 intro pins s σ H v u Q I r hw;obtain⟨a,xs,e1,hq,hl,hw⟩:=hw;subst e1;cases r;obtain⟨its,rv,ht,hz⟩:=I.tuple hq;refine assign_Tuple_tuple (I.ok.hd hc) ht (by simp[hn,<-hl,rv.length]) FJ λh' hx=>?_;have I1:Inv X pins σ H { s with heap:=h' }:=I.kept (t':=s.toks) λb o e=>hx b o (gR (gr e)) e;exact h pins _ σ H xs _ Q I1 (by simpa using rv) hw
noncomputable def ad6(to ti:TE)(t:R_):TG:=λv σ H Q=>to σ H λo H1=>ti σ H1 λi H2=>t o i v H2 λH3=>Q σ H3
def V3{o i:Expr}{to ti:TE}{t:R_}(ho:PE X o to)(hi:PE X i ti)(hs:Yy X t)
  (ha:∀v,assign (.Subscript o i pos) X.env v=(do
   let ov <-holding [v] (eval o X.env)
   let iv <-holding [v,ov] (eval i X.env)
   standAt pos
   holding [v,ov,iv] (setItem ov iv v)
   release [v,ov,iv] []):=by intro _;rfl):PG X (.Subscript o i pos) (ad6 to ti t):=by
 intro pins s σ H v u Q I r h;rw[ha];refine ae0 (aft (cC (ho pins s σ H _ I h) λov s1 zz=>?_));obtain⟨x,H1,I1,r1,q1⟩:=zz;refine ae0 (aft (cC (hi pins s1 σ H1 _ I1 q1) λiv s2 zz=>?_));obtain⟨y,H2,I2,r2,q2⟩:=zz;refine ae0 (wpAny_standAt (ae0 (aft (cC (hs pins s2 σ H2 x y v ov iv u _ I2 r1 r2 r q2) λ_ s3 zz=>?_))));obtain⟨H3,I3,q3⟩:=zz;exact wpAny_release ⟨σ,H3,I3,q3⟩
noncomputable def Vl(te:TE)(g:TG):TS:=λD σ H=>te σ H λx H1=>g x σ H1 D.nx
def VP{tg e:Expr}{te:TE}{g:TG}(he:PE X e te)(hg:PG X tg g)(hs:swapsWithSole [tg] e pos.line X.env=pure false:=by rfl)(hw:swappedStores [tg] e X.env=pure none:=by rfl)
  (h1:(assignEach [tg] X.env).map (·.2)=[assign tg X.env]:=by rfl):PS X (.Assign [tg] e pos) (Vl te g):=by
 intro pins s σ H D I h;refine wpAny_Assign_stores (cC (he pins s σ H _ I h) λv s1 zz=>?_) hs hw;obtain⟨x,H1,I1,r1,q1⟩:=zz;rw[h1];exact cC (hg pins s1 σ H1 x v _ I1 r1 q1) λ_ s2 q=>q
def VJ{i:Nat}{x:Str}{e:Expr}{te:TE}{pos':Pos}(hN:X.N.Nodup)(hi:X.N[i]? = some x)(hx:Loc X.env.scope x)(he:PE X e te)(hs:swapsWith e (some (.Name x pos')) pos.line X.env=pure false:=by rfl)(hf:X.fn x=true\/X.env.scope.names.lookup x=some .local:=by first | exact .inl rfl | exact .inr rfl | assumption) :
  PS X (.Assign [.Name x pos'] e pos) (Vl te (CW i)):=by
 intro pins s σ H D I h;refine wpAny_Assign_Name (cC (he pins s σ H _ I h) λv s1 zz=>?_) hs;obtain⟨y,H1,I1,r1,q1⟩:=zz;exact zrf I1 hN hi hx r1 (λs2 I2=>⟨_,H1,I2,q1⟩) hf
end
section
variable  {X:Cx}{pos:Pos}
noncomputable def Vg(c:TT)(tb:TS):TS:=λD σ H=>∃W:Nat->St->Hp->Prop,(∃m,W m σ H)/\∀m σ H,W m σ H ->
 c σ H λb H1=>if b=true then ∃N:St->Hp->Prop,(∀σ' H',N σ' H'->∃m',m'<m/\W m' σ' H')/\tb { D with nx:=N,ct:=N,bk:=D.nx } σ H1 else D.nx σ H1
def Il{c:Expr}{body:List Stmt}{tc:TT}{tb:TS}(hp:PassesOwn (model X.prog X.w) X.A X.env X.xe)(hc:PT X c tc)(hb:zK X body tb):PS X (.While c body [] pos) (Vg tc tb):=by
 intro pins s σ H D I h;obtain⟨W,⟨m0,w0⟩,turn⟩:=h;refine wpAny_While (codeAny_whileLoop (λn s'=>∃σ' H',Inv X pins σ' H' s'/\W n σ' H') ?_ m0 ⟨σ,H,I,w0⟩);rintro n s1 ⟨σ1,H1,I1,w1⟩;refine afm hp (cC (hc pins s1 σ1 H1 _ I1 (turn n σ1 H1 w1)) λb s2 zz=>?_);obtain⟨H2,I2,q2⟩:=zz;cases b with
 | true =>
  obtain⟨N,hN,q2⟩:=q2;rw[ae1 rfl];refine afm hp (cC (hb pins s2 σ1 H2 _ I2 q2) λf s3 q3=>?_);cases f with
  | next =>
   obtain⟨σ3,H3,I3,n3⟩:=q3;obtain⟨m',hm,w3⟩:=hN σ3 H3 n3;exact⟨m',hm,σ3,H3,I3,w3⟩
  | cont =>
   obtain⟨σ3,H3,I3,n3⟩:=q3;obtain⟨m',hm,w3⟩:=hN σ3 H3 n3;exact⟨m',hm,σ3,H3,I3,w3⟩
  | brk=>exact q3
  | ret v=>exact q3
 | false =>
  rw[ae2 pD];exact wpAny_execs_nil ⟨σ1,H2,I2,q2⟩
end
structure It where
 go:Nat->Hp->Prop
 yld:Nat->Hp->V->Hp->Prop
 stop:Nat->Hp->Prop
def qy(X:Cx)(pins:List (Addr×Obj))(H:Hp)(b:Addr):Prop :=
 H b=none/\b≠X.env.locals/\b∉X.fs/\(b∈X.ex\/X.aeR.heap.objs.size<=b)/\(∀x c,X.env.cells.lookup x=some c->c≠b)/\∀p∈X.pn++pins,p.1≠b
def Inv.uH(I:Inv X pins σ H s)(hb:s.heap.objs.size<=b)(hn:H' b=none):qy X pins H' b:=by
 refine⟨hn,mJ (gQ I.lt hb),I.adE hb,.inr (kh I.sz hb),λx c e z=>?_,λp hp z=>?_⟩
 ·obtain⟨v,q⟩:=I.cell x c e;exact absurd (gQ q.lt (by rw[z];exact hb)) (mH _)
 ·exact absurd (gQ (gr (I.pin p hp).1) (by rw[z];exact hb)) (mH _)
structure Turn(P:Program)(w:World)(K:PySem.W.Frag)(tg:Expr)(J:It)(fp:List Addr)(it:Addr)(tn:Nat->Heap->Prop):Prop where
 mem:it∈fp
 obj:∀i h,tn i h->∀b∈fp,∃o,h.get? b=some o/\∀v,o.data≠.cell v
 keep:∀i h h',tn i h->(∀b∈fp,∀o,h.get? b=some o->h'.get? b=some o)->tn i h'
 item:∀(X:Cx),X.prog=P->X.w=w->X.K=K->X.calm=true->∀(i:Nat) (pins:List (Addr×Obj)) (s:Shared) (σ:St) (H:Hp) (E:Value->Shared->Prop),Inv X pins σ H s->(∀b∈fp,qy X pins H b)->tn i s.heap->J.go i H ->
  wpAny (model P w) X.A (pyNext (.ref it)) (λr s1=>∃u,r=some u /\
   wpAny (model P w) X.A (letOwnedTupleGo tg (.ref it) u) (λ_ s2=>∃x H',Inv X pins σ H' s2/\RelV x u/\J.yld i H x H'/\tn (i+1) s2.heap/\∀b∈fp,H' b=none) E s1) E s
 done:∀(X:Cx),X.prog=P->X.w=w->X.K=K->X.calm=true->∀(i:Nat) (pins:List (Addr×Obj)) (s:Shared) (σ:St) (H:Hp) (E:Value->Shared->Prop),Inv X pins σ H s->(∀b∈fp,qy X pins H b)->tn i s.heap->J.stop i H ->
  wpAny (model P w) X.A (pyNext (.ref it)) (λr s1=>r=none/\Inv X pins σ H s1) E s
 self:∀(A:Around) (i:Nat) (s:Shared) (Q:Value->Shared->Prop) (E:Value->Shared->Prop),tn i s.heap->Q (.ref it) s->wpAny (model P w) A (pyIter (.ref it)) Q E s
noncomputable abbrev TI:=St->Hp->(It->Hp->Prop)->Prop
def PIE(X:Cx)(pins:List (Addr×Obj))(σ:St)(tg:Expr)(R:It->Hp->Prop)(itv:Value)(s2:Shared):Prop :=
 ∃(it:Addr) (fp:List Addr) (tn:Nat->Heap->Prop) (J:It) (H':Hp),itv=.ref it/\Inv X pins σ H' s2/\Turn X.prog X.w X.K tg J fp it tn/\tn 0 s2.heap/\(∀b∈fp,qy X pins H' b)/\R J H'
def PI(X:Cx)(tg iter:Expr)(wi:TI):Prop :=
 ∀(pins:List (Addr×Obj)) (s:Shared) (σ:St) (H:Hp) (R:It->Hp->Prop),Inv X pins σ H s->wi σ H R ->
  wpAny (model X.prog X.w) X.A (eval iter X.env) (λv s1=>wpAny (model X.prog X.w) X.A (pyIter v) (PIE X pins σ tg R) X.xe s1) X.xe s
def rm(ho:s.heap.get? it=some o)(hc:o.cls=.type n)(hd:o.data=.fields vs) 
  (hn:["enumerate","zip","dict_itemiterator","dict_reverseitemiterator","odict_iterator","itertools.zip_longest","itertools.pairwise"].contains n=false) (hQ:Q () s):wpAny M A (letOwnedTupleGo tg (.ref it) u) Q E s:=by
 unfold letOwnedTupleGo;cases tg<;>first
  | exact ae3 hQ
  | (cases u<;>first
    | exact ae3 hQ
    | (refine ae0 (wpAny_load ho ?_)
       rw[hc,hd];show wpAny M A (if (["enumerate","zip","dict_itemiterator","dict_reverseitemiterator","odict_iterator","itertools.zip_longest","itertools.pairwise"].contains n && vs[0]? == some (rawInt _))=true then _ else _) Q E s;rw[ae2 (by intro h;rw[hn,Bool.false_and]at h;cases h)];exact ae3 hQ))
noncomputable def Itl(K:PySem.W.Frag)(a:Addr):It :=
 ⟨λi H=>∃xs x,oF K H a xs/\xs[i]? = some x,λi H x H'=>H'=H/\∀xs,oF K H a xs->xs[i]? = some x,λi H=>∃xs,oF K H a xs/\xs.length<=i⟩
noncomputable def Itt(K:PySem.W.Frag)(a:Addr):It :=
 ⟨λi H=>∃xs x,oK K H a xs/\xs[i]? = some x,λi H x H'=>H'=H/\∀xs,oK K H a xs->xs[i]? = some x,λi H=>∃xs,oK K H a xs/\xs.length<=i⟩
noncomputable def Itr(lo:Int)(n:Nat):It:=⟨λi _=>i<n,λi H x H'=>H'=H/\x=.int (lo+i),λi _=>n<=i⟩
def D_{P:Program}{w:World}{K:PySem.W.Frag}{tg:Expr}(a it:Addr):Turn P w K tg (Itl K a) [it] it (λi h=>h.IsListIter it a i) where
 mem:=by simp
 obj:=λi h st b hb=>by
  have e:b=it:=by simpa using hb
  subst e;obtain⟨o,e,c,d⟩:=st;exact⟨o,e,λv z=>by rw[d]at z;cases z⟩
 keep:=λi h h' st k=>st.at λo e=>k it (by simp) o e
 item:=by
  intro X hP hw hK hc i pins s σ H E I hf st hg;subst hP hw hK;obtain⟨xs,x,hq,hx⟩:=hg;obtain⟨its,rv,p,hz⟩:=I.list hq;obtain⟨u,hu,ru⟩:=rv.get hx;obtain⟨f0,f1,f2,f3,f4,f5⟩:=hf it (by simp);refine wpAny_pyNext_list_item st p.isList (x:=u) (by simpa using hu) λh' st' sb=>?_;have I1:Inv X pins σ H { s with heap:=h' }:=I.turned (t':=s.toks) (λb o hb e=>(sb.2 b hb).trans e) f0 f1 f3 f4 f5;obtain⟨o,e,c,d⟩:=id st';exact⟨u,rfl,rm (s:={ s with heap:=h' }) e c d (by decide) ⟨x,H,I1,ru,⟨rfl,λys hy=>by rw[I.vo hy hq];exact hx⟩,st',λb hb=>(hf b hb).1⟩⟩
 done:=by
  intro X hP hw hK hc i pins s σ H E I hf st hg;subst hP hw hK;obtain⟨xs,hq,hx⟩:=hg;obtain⟨its,rv,p,hz⟩:=I.list hq;obtain⟨f0,f1,f2,f3,f4,f5⟩:=hf it (by simp);have hl:=rv.length;exact wpAny_pyNext_list_end (I.ok.hd hc) st p.isList (by simp;omega) λh' eb=>⟨rfl,I.turned (t':=s.toks) (λb o hb e=>eb b o hb e) f0 f1 f3 f4 f5⟩
 self:=λ_ _ _ _ _ st h=>wpAny_pyIter_listiter st h
def zsd{P:Program}{w:World}{K:PySem.W.Frag}{tg:Expr}(a it:Addr):Turn P w K tg (Itt K a) [it] it (λi h=>h.IsTupleIter it a i) where
 mem:=by simp
 obj:=λi h st b hb=>by
  have e:b=it:=by simpa using hb
  subst e;obtain⟨o,e,c,d⟩:=st;exact⟨o,e,λv z=>by rw[d]at z;cases z⟩
 keep:=λi h h' st k=>st.at λo e=>k it (by simp) o e
 item:=by
  intro X hP hw hK hc i pins s σ H E I hf st hg;subst hP hw hK;obtain⟨xs,x,hq,hx⟩:=hg;obtain⟨its,rv,p,hz⟩:=I.tuple hq;obtain⟨u,hu,ru⟩:=rv.get hx;obtain⟨f0,f1,f2,f3,f4,f5⟩:=hf it (by simp);refine wpAny_pyNext_tuple_item st (show s.heap.IsTuple a its.toArray from p) (x:=u) (by simpa using hu) λh' st' sb=>?_;have I1:Inv X pins σ H { s with heap:=h' }:=I.turned (t':=s.toks) (λb o hb e=>(sb.2 b hb).trans e) f0 f1 f3 f4 f5;obtain⟨o,e,c,d⟩:=id st';exact⟨u,rfl,rm (s:={ s with heap:=h' }) e c d (by decide) ⟨x,H,I1,ru,⟨rfl,λys hy=>by rw[I.sy hy hq];exact hx⟩,st',λb hb=>(hf b hb).1⟩⟩
 done:=by
  intro X hP hw hK hc i pins s σ H E I hf st hg;subst hP hw hK;obtain⟨xs,hq,hx⟩:=hg;obtain⟨its,rv,p,hz⟩:=I.tuple hq;obtain⟨f0,f1,f2,f3,f4,f5⟩:=hf it (by simp);have hl:=rv.length;exact wpAny_pyNext_tuple_end (I.ok.hd hc) st (show s.heap.IsTuple a its.toArray from p) (by simp;omega) λh' eb=>⟨rfl,I.turned (t':=s.toks) (λb o hb e=>eb b o hb e) f0 f1 f3 f4 f5⟩
 self:=λ_ _ _ _ _ st h=>wpAny_pyIter_tupleiter st h
def ztv{P:Program}{w:World}{K:PySem.W.Frag}{tg:Expr}(it:Addr)(lo:Int)(n:Nat):Turn P w K tg (Itr lo n) [it] it (λi h=>IsRangeIter h it (lo+(i:Nat)*1) ((n:Int) - (i:Nat)) 1) where
 mem:=by simp
 obj:=λi h st b hb=>by
  have e:b=it:=by simpa using hb
  subst e;exact⟨_,st,λv z=>by
   have z':Data.fields _=Data.cell v:=z;cases z'⟩
 keep:=λi h h' st k=>k it (by simp) _ st
 item:=by
  intro X hP hw hK hc i pins s σ H E I hf st hg;subst hP hw hK;obtain⟨f0,f1,f2,f3,f4,f5⟩:=hf it (by simp);have W:=Walks.range (prog:=X.prog) (w:=X.w) (I.ok.hd hc) it lo 1 n;refine W.item i s _ _ hg st λv h' tk hv st' kk=>?_;obtain⟨t,rfl⟩:=hv;have I1:Inv X pins σ H { s with heap:=h',toks:=tk }:=I.turned (λb o hb e=>kk b o (by simpa using hb) e) f0 f1 f3 f4 f5;refine⟨_,rfl,rm (s:={ s with heap:=h',toks:=tk }) (n:="range_iterator") st' rfl rfl (by decide) ⟨.int (lo+i),H,I1,⟨t,?_⟩,⟨rfl,rfl⟩,st',λb hb=>(hf b hb).1⟩⟩;rw[Int.mul_one]
 done:=by
  intro X hP hw hK hc i pins s σ H E I hf st hg;subst hP hw hK;obtain⟨f0,f1,f2,f3,f4,f5⟩:=hf it (by simp);exact wpAny_pyNext_range_end (I.ok.hd hc) st (by have:n<=i:=hg;omega) λh' eb=>⟨rfl,I.turned (t':=s.toks) (λb o hb e=>eb b o hb e) f0 f1 f3 f4 f5⟩
 self:=λ_ _ _ _ _ st h=>wpAny_pyIter_rangeiter st h
section
variable  {X:Cx}{tg:Expr}
noncomputable def abq(K:PySem.W.Frag)(tl:TE):TI:=fun σ H R=>tl σ H λx H1=>∃a,x=.ref a/\(∃xs,oF K H1 a xs)/\R (Itl K a) H1
noncomputable def adK(K:PySem.W.Frag)(tl:TE):TI:=fun σ H R=>tl σ H λx H1=>∃a,x=.ref a/\(∃xs,oK K H1 a xs)/\R (Itt K a) H1
def PJ{l:Expr}{tl:TE}(hl:PE X l tl):PI X tg l (abq X.K tl):=by
 intro pins s σ H R I h;refine cC (hl pins s σ H _ I h) λv s1 zz=>?_;obtain⟨x,H1,I1,r1,q1⟩:=zz;obtain⟨a,e,⟨xs,hq⟩,q⟩:=q1;subst e;cases r1;obtain⟨its,rv,p,hz⟩:=I1.list hq;refine wpAny_pyIter_list p.isList ?_;refine⟨s1.heap.objs.size,[s1.heap.objs.size],_,_,H1,rfl,I1.kept (t':=s1.toks) λb o e=>g8 _ e,D_ a _,⟨_,gU _ rfl,rfl,rfl⟩,λb hb=>?_,q⟩;have e:b=s1.heap.objs.size:=by simpa using hb
 subst e;exact I1.uH (gb _) (I1.bJ.fresh (gb _))
def VR{l:Expr}{tl:TE}(hl:PE X l tl):PI X tg l (adK X.K tl):=by
 intro pins s σ H R I h;refine cC (hl pins s σ H _ I h) λv s1 zz=>?_;obtain⟨x,H1,I1,r1,q1⟩:=zz;obtain⟨a,e,⟨xs,hq⟩,q⟩:=q1;subst e;cases r1;obtain⟨its,rv,p,hz⟩:=I1.tuple hq;refine wpAny_pyIter_tuple (show s1.heap.IsTuple a its.toArray from p) ?_;refine⟨s1.heap.objs.size,[s1.heap.objs.size],_,_,H1,rfl,I1.kept (t':=s1.toks) λb o e=>g8 _ e,zsd a _,⟨_,gU _ rfl,rfl,rfl⟩,λb hb=>?_,q⟩;have e:b=s1.heap.objs.size:=by simpa using hb
 subst e;exact I1.uH (gb _) (I1.bJ.fresh (gb _))
def H_{pins:List (Addr×Obj)}{σ:St}{H:Hp}{s:Shared}{R:It->Hp->Prop}{E:Value->Shared->Prop}{lo hi:Int}{t u v:Tok}{tk:Nat}(I:Inv X pins σ H s)(h1:-(2 ^ 62)<=lo)(h2:lo<2 ^ 62)(h3:-(2 ^ 62)<=hi)(h4:hi<2 ^ 62)
  (q:R (Itr lo (hi - lo).toNat) H):wpAny (model X.prog X.w) X.A (pyIter (.ref s.heap.objs.size)) (PIE X pins σ tg R) E { s with heap:=s.heap.push { cls:=.type "range",data:=.fields #[.int lo t,.int hi u,.int 1 v] },toks:=tk }:=by
 refine wpAny_pyIter_range (IsRange.new ..) (small_one h1 h2 h3 h4) ?_;have I1:Inv X pins σ H { s with heap:=s.heap.push { cls:=.type "range",data:=.fields #[.int lo t,.int hi u,.int 1 v] },toks:=tk }:=I.kept λb o e=>g8 _ e;refine⟨(s.heap.push { cls:=.type "range",data:=.fields #[.int lo t,.int hi u,.int 1 v] }).objs.size,[(s.heap.push { cls:=.type "range",data:=.fields #[.int lo t,.int hi u,.int 1 v] }).objs.size],_,_,H,rfl,
  I1.kept (t':=tk) λb o e=>g8 _ e,ztv _ lo (hi - lo).toNat,?_,λb hb=>?_,q⟩
 ·have e1:lo+((0:Nat):Int)*1=lo:=by simp
  have e2:(((hi - lo).toNat:Nat):Int) - ((0:Nat):Int)=Builtin.Range.rangeSize lo hi 1:=by rw[rangeSize_one];split<;>omega
  show IsRangeIter _ _ (lo+((0:Nat):Int)*1) ((((hi - lo).toNat:Nat):Int) - ((0:Nat):Int)) 1;rw[e1,e2];exact gU _ rfl
 ·have e:b=(s.heap.push { cls:=.type "range",data:=.fields #[.int lo t,.int hi u,.int 1 v] }).objs.size:=by simpa using hb
  subst e;exact I1.uH (gb _) (I1.bJ.fresh (gb _))
noncomputable def abn(ta:TA):TI:=fun σ H R=>ta σ H λvs H1=>∃j:Int,vs=[.int j]/\-(2 ^ 62)<=j/\j<2 ^ 62/\R (Itr 0 j.toNat) H1
def Ez{a:Expr}{ta:TA}{p pos:Pos}(hg:Gl X "range")(hm:X.mg "range" = none)(ha:PA X [a] ta)(hs:starEach [a] X.env=[(false,eval a X.env)]:=by rfl):PI X tg (.Call (.Name "range" p) [a] [] pos) (abn ta):=by
 intro pins s σ H R I h;refine Call_ (Nt I hg hm boot_range (ae9 (cC (ha pos pins s σ H _ I h) λus s1 zz=>?_) hs rfl));obtain⟨vs,H1,I1,r1,q1⟩:=zz;obtain⟨j,e,q1,q2,q⟩:=q1;subst e;cases r1 with
 | cons r rr =>
  cases rr;obtain⟨t,rfl⟩:=r;exact call_range_1 (H_ I1 (by omega) (by omega) q1 q2 (by simpa using q))
noncomputable def acK(wi:TI)(g:TG)(tb:TS):TS:=λD σ H=>wi σ H λJ H1=>∃W:Nat->Nat->St->Hp->Prop,(∃m,W 0 m σ H1)/\∀i m σ H,W i m σ H ->
 (J.stop i H/\D.nx σ H)\/(J.go i H/\∃N:St->Hp->Prop,(∀σ' H',N σ' H'->∃m',m'<m/\W (i+1) m' σ' H')/\∀x H',J.yld i H x H'->g x σ H' fun σ2 H2=>tb { D with nx:=N,ct:=N,bk:=D.nx } σ2 H2)
noncomputable def vd(fp:List Addr)(h:Heap):List (Addr×Obj):=fp.filterMap λb=>(h.get? b).map λo=>(b,o)
def zf3(hb:b∈fp)(e:h.get? b=some o):(b,o)∈vd fp h:=pF.mpr ⟨b,hb,by rw[e];rfl⟩
def E_(hp:p∈vd fp h):p.1∈fp/\h.get? p.1=some p.2:=by
 obtain⟨b,hb,e⟩:=pF.mp hp;cases q:h.get? b with
 | none=>rw[q]at e;cases e
 | some o =>
  rw[q]at e;have e':(b,o)=p:=ae5 e;subst e';exact⟨hb,q⟩
def Inv.pinned(I:Inv X pins σ H s)(hf:∀b∈fp,qy X pins H b)(ho:∀b∈fp,∃o,s.heap.get? b=some o/\∀v,o.data≠.cell v):Inv X (pins++vd fp s.heap) σ H s :=
 I.Cd λp hp=>(mO.mp hp).elim (λz=>I.pin p (my _ z)) λz=>by
  obtain⟨hb,e⟩:=E_ z;obtain⟨f0,f1,f2,_⟩:=hf p.1 hb;obtain⟨o,e',d⟩:=ho p.1 hb;rw[e]at e';cases e';exact⟨e,f0,f1,f2,d⟩
def Inv.qz(I:Inv X (pins++pl) σ H s):Inv X pins σ H s:=I.Cd λp hp=>I.pin p (my _ (pC _ hp))
def VM{iter:Expr}{body:List Stmt}{wi:TI}{g:TG}{tb:TS}{pos:Pos}(hp:PassesOwn (model X.prog X.w) X.A X.env X.xe)(hc:X.calm=true)(hi:PI X tg iter wi)(hg:PG X tg g)(hb:zK X body tb)
  (hs:∀x,foldedSetIterable iter X.env x=pure x:=by intro _;rfl):PS X (.For tg iter body [] pos) (acK wi g tb):=by
 intro pins s σ H D I h;refine wpAny_For (cC (hi pins s σ H _ I h) λv s1 h1=>cC h1 λitv s2 h2=>?_) hs;obtain⟨it,fp,tn,J,H2,e,I2,T,st2,f2,W,⟨m0,w0⟩,turn⟩:=h2;subst e

 have stat:∀{H':Hp},(∀b∈fp,H' b=none)->∀b∈fp,qy X pins H' b:=λhn b hb=>⟨hn b hb,(f2 b hb).2⟩;refine codeAny_forLoop_any (λn s'=>∃i σ' H',Inv X pins σ' H' s'/\tn i s'.heap/\(∀b∈fp,H' b=none)/\W i n σ' H') ?_ m0 ⟨0,σ,H2,I2,st2,λb hb=>(f2 b hb).1,w0⟩;rintro n s3 ⟨i,σ3,H3,I3,fO,fr3,w3⟩;rcases turn i n σ3 H3 w3 with⟨stop,qn⟩ | ⟨go,N,hN,step⟩
 ·refine afm hp (cC (T.done X rfl rfl rfl hc i pins s3 σ3 H3 X.xe I3 (stat fr3) fO stop) λr s4 zz=>?_);obtain⟨hr,I4⟩:=zz;subst hr;exact wpAny_execs_nil ⟨σ3,H3,I4,qn⟩
 ·refine afm hp (cC (T.item X rfl rfl rfl hc i pins s3 σ3 H3 X.xe I3 (stat fr3) fO go) λr s4 zz=>?_);obtain⟨u,hr,h4⟩:=zz;subst hr;refine afm hp (cC h4 λ_ s5 zz=>?_);obtain⟨x,H5,I5,r5,y5,Ei,fr5⟩:=zz;have I5':=I5.pinned (stat fr5) (T.obj _ _ Ei);refine afm hp (cC (hg _ s5 σ3 H5 x u _ I5' r5 (step x H5 y5)) λ_ s6 zz=>?_);obtain⟨σ6,H6,I6,q6⟩:=zz;refine afm hp (cC (hb _ s6 σ6 H6 _ I6 q6) λf s7 q7=>?_);have again:∀{σ7:St} {H7:Hp},Inv X (pins++vd fp s5.heap) σ7 H7 s7->N σ7 H7->∃m,m<n/\∃i σ' H',Inv X pins σ' H' s7/\tn i s7.heap/\(∀b∈fp,H' b=none)/\W i m σ' H':=λ{σ7 H7} I7 n7=>by
   obtain⟨m',hm,w7⟩:=hN σ7 H7 n7;refine⟨m',hm,i+1,σ7,H7,I7.qz,T.keep _ _ _ Ei λb hb o e=>(I7.pin (b,o) (my _ (my _ (zf3 hb e)))).1,λb hb=>?_,w7⟩;obtain⟨o,e,d⟩:=T.obj _ _ Ei b hb;exact (I7.pin (b,o) (my _ (my _ (zf3 hb e)))).2.1
  cases f with
  | next=>obtain⟨σ7,H7,I7,n7⟩:=q7;exact again I7 n7
  | cont=>obtain⟨σ7,H7,I7,n7⟩:=q7;exact again I7 n7
  | brk=>obtain⟨σ7,H7,I7,q7⟩:=q7;exact⟨σ7,H7,I7.qz,q7⟩
  | ret v=>obtain⟨x7,σ7,H7,I7,r7,q7⟩:=q7;exact⟨x7,σ7,H7,I7.qz,r7,q7⟩
end
noncomputable abbrev R2:=V->V->Hp->VK->Prop
def d9(X:Cx)(f:Value->Value->Sem Value)(r:R2):Prop :=
 ∀(pins:List (Addr×Obj)) (s:Shared) (σ:St) (H:Hp) (x y:V) (v u:Value) (Q:VK),Inv X pins σ H s->RelV x v->RelV y u->r x y H Q ->
  wpAny (model X.prog X.w) X.A (f v u) (EP X pins σ Q) X.xe s
def R9(X:Cx)(f:Value->Sem Value)(r:V->Hp->VK->Prop):Prop :=
 ∀(pins:List (Addr×Obj)) (s:Shared) (σ:St) (H:Hp) (x:V) (v:Value) (Q:VK),Inv X pins σ H s->RelV x v->r x H Q ->
  wpAny (model X.prog X.w) X.A (f v) (EP X pins σ Q) X.xe s
def cz(X:Cx)(f:Value)(r:List V->Hp->VK->Prop):Prop :=
 ∀(pins:List (Addr×Obj)) (s:Shared) (σ:St) (H:Hp) (xs:List V) (us:List Value) (Q:VK),Inv X pins σ H s->Vals xs us->r xs H Q ->
  wpAny (model X.prog X.w) X.A (call f us) (EP X pins σ Q) X.xe s
def aen(X:Cx)(r:V->Hp->(Bool->Hp->Prop)->Prop):Prop :=
 ∀(pins:List (Addr×Obj)) (s:Shared) (σ:St) (H:Hp) (x:V) (v:Value) (Q:Bool->Hp->Prop),Inv X pins σ H s->RelV x v->r x H Q ->
  wpAny (model X.prog X.w) X.A (truthy v) (TP X pins σ Q) X.xe s
noncomputable def tOp(r:R2)(ta tb:TE):TE:=fun σ H Q=>ta σ H λx H1=>tb σ H1 λy H2=>r x y H2 Q
noncomputable def tUn(r:V->Hp->VK->Prop)(ta:TE):TE:=fun σ H Q=>ta σ H λx H1=>r x H1 Q
noncomputable def rI(C:Int->Int->Prop)(g:Int->Int->V):R2:=λx y H Q=>∃i j,x=.int i/\y=.int j/\C i j/\Q (g i j) H
noncomputable def VB(g:Int->Int->V):R2:=λx y H Q=>∃i j,x=.int i/\y=.int j/\Q (g i j) H
def rU(g:Int->V):V->Hp->VK->Prop:=λx H Q=>∃i,x=.int i/\Q (g i) H
section
variable  {X:Cx}{a b c:Expr}{ta tb tc:TE}{pos:Pos}
def Yw(ha:PE X a ta)(hb:PE X b tb){pins:List (Addr×Obj)}{s:Shared}{σ:St}{H:Hp}{R:V->V->Hp->Prop}(I:Inv X pins σ H s)
  (h:ta σ H λx H1=>tb σ H1 λy H2=>R x y H2) {Q:Value->Shared->Prop} {f:Value->Value->Sem Value}
  (hf:∀v u s2 x y H2,Inv X pins σ H2 s2->RelV x v->RelV y u->R x y H2->wpAny (model X.prog X.w) X.A (f v u) Q X.xe s2) :
  wpAny (model X.prog X.w) X.A (eval a X.env) (λv aeQ=>wpAny (model X.prog X.w) X.A (eval b X.env) (λu aeP=>wpAny (model X.prog X.w) X.A (f v u) Q X.xe aeP) X.xe aeQ) X.xe s:=by
 refine cC (ha pins s σ H _ I h) λv s1 zz=>?_;obtain⟨x,H1,I1,r1,q1⟩:=zz;refine cC (hb pins s1 σ H1 _ I1 q1) λu s2 zz=>?_;obtain⟨y,H2,I2,r2,q2⟩:=zz;exact hf v u s2 x y H2 I2 r1 r2 q2
def aaY{op:Operator}{r:R2}(ho:d9 X (binaryOp op) r)(ha:PE X a ta)(hb:PE X b tb):PE X (.BinOp a op b pos) (tOp r ta tb):=by
 intro pins s σ H Q I h;exact wpAny_BinOp (Yw ha hb I h λv u s2 x y H2 I2 rx ry q=>ho pins s2 σ H2 x y v u Q I2 rx ry q)
def aaW{op:UnaryOp}{r:V->Hp->VK->Prop}(ho:R9 X (unaryOp op) r)(ha:PE X a ta):PE X (.UnaryOp op a pos) (tUn r ta):=by
 intro pins s σ H Q I h;refine UnaryOp_ (cC (ha pins s σ H _ I h) λv s1 zz=>?_);obtain⟨x,H1,I1,r1,q1⟩:=zz;exact ho pins s1 σ H1 x v Q I1 r1 q1
def opI{f:Value->Value->Sem Value}{C:Int->Int->Prop}{g:Int->Int->Int}
  (rule:∀(i j:Int) (t u:Tok) (s:Shared) (Q:Value->Shared->Prop) (E:Value->Shared->Prop),C i j->Q (.int (g i j) s.toks) { s with toks:=s.toks+1 }->wpAny (model X.prog X.w) X.A (f (.int i t) (.int j u)) Q E s) :
  d9 X f (rI C λi j=>.int (g i j)):=by
 intro pins s σ H x y v u Q I rx ry h;obtain⟨i,j,rfl,rfl,hc,q⟩:=h;obtain⟨t,rfl⟩:=rx;obtain⟨t',rfl⟩:=ry;exact rule i j t t' s _ _ hc ⟨.int (g i j),H,I.tok _,⟨_,rfl⟩,q⟩
def aa4{f:Value->Value->Sem Value}{g:Int->Int->Int}
  (rule:∀(i j:Int) (t u:Tok) (s:Shared) (Q:Value->Shared->Prop) (E:Value->Shared->Prop),Q (.int (g i j) s.toks) { s with toks:=s.toks+1 }->wpAny (model X.prog X.w) X.A (f (.int i t) (.int j u)) Q E s) :
  d9 X f (VB λi j=>.int (g i j)):=by
 intro pins s σ H x y v u Q I rx ry h;obtain⟨i,j,rfl,rfl,q⟩:=h;obtain⟨t,rfl⟩:=rx;obtain⟨t',rfl⟩:=ry;exact rule i j t t' s _ _ ⟨.int (g i j),H,I.tok _,⟨_,rfl⟩,q⟩
def aa5{f:Value->Value->Sem Value}{g:Int->Int->Bool}
  (rule:∀(i j:Int) (t u:Tok) (s:Shared) (Q:Value->Shared->Prop) (E:Value->Shared->Prop),Q (.bool (g i j)) s->wpAny (model X.prog X.w) X.A (f (.int i t) (.int j u)) Q E s) :
  d9 X f (VB λi j=>.bl (g i j)):=by
 intro pins s σ H x y v u Q I rx ry h;obtain⟨i,j,rfl,rfl,q⟩:=h;obtain⟨t,rfl⟩:=rx;obtain⟨t',rfl⟩:=ry;exact rule i j t t' s _ _ ⟨.bl (g i j),H,I,rfl,q⟩
def YF(i j:Int):Prop:=(-(2 ^ 64)<i/\i<2 ^ 64)\/(-(2 ^ 64)<j/\j<2 ^ 64)
def YF.ok(h:YF i j):IntMulOk i j:=by
 rcases h with⟨h1,h2⟩ | ⟨h1,h2⟩
 ·exact .of_left (intBits_le_64 h1 h2)
 ·exact .of_right (intBits_le_64 h1 h2)
def Wk:d9 X (binaryOp .Add) (VB λi j=>.int (i+j)):=aa4 λ_ _ _ _ _ _ _ q=>add_int q
def Wf:d9 X (binaryOp .Sub) (VB λi j=>.int (i - j)):=aa4 λ_ _ _ _ _ _ _ q=>sub_int q
def Wg:d9 X (binaryOp .Mult) (rI YF λi j=>.int (i*j)):=opI λ_ _ _ _ _ _ _ hc q=>mul_int q hc.ok
def Wh:d9 X (binaryOp .Mod) (rI (λ_ j=>0<j) λi j=>.int (i % j)):=opI λi j _ _ _ _ _ hc q=>by
 have h1:(0:Int)<j:=hc;exact mod_int' (by omega) (by rw[Int.fmod_eq_emod_of_nonneg i (by omega)];exact q)
def unI{f:Value->Sem Value}{g:Int->Int}
  (rule:∀(i:Int) (t:Tok) (s:Shared) (Q:Value->Shared->Prop) (E:Value->Shared->Prop),Q (.int (g i) s.toks) { s with toks:=s.toks+1 }->wpAny (model X.prog X.w) X.A (f (.int i t)) Q E s) :
  R9 X f (rU λi=>.int (g i)):=by
 intro pins s σ H x v Q I rx h;obtain⟨i,rfl,q⟩:=h;obtain⟨t,rfl⟩:=rx;exact rule i t s _ _ ⟨.int (g i),H,I.tok _,⟨_,rfl⟩,q⟩
def Ve:R9 X (unaryOp .USub) (rU λi=>.int (-i)):=unI λ_ _ _ _ _ q=>neg_int q
end
section
variable  {X:Cx}{a b c:Expr}{ta tb tc:TE}{pos:Pos}
def Lf(I:Inv X pins σ H s)(q:Q (.bl k) H)(e:k=k'):EP X pins σ Q (.bool k') s:=by
 subst e;exact⟨.bl k,H,I,rfl,q⟩
def aa2:d9 X (compareOp .Lt) (VB λi j=>.bl (decide (i<j))):=aa5 λ_ _ _ _ _ _ _ q=>lt_int q
def aa3:d9 X (compareOp .Gt) (VB λi j=>.bl (decide (j<i))):=aa5 λ_ _ _ _ _ _ _ q=>gt_int q
def Wi:d9 X (compareOp .Is) (λx y H Q=>y=.non/\Q (.bl (decide (x=.non))) H):=by
 intro pins s σ H x y v u Q I rx ry h;obtain⟨rfl,q⟩:=h;cases ry;refine is_none_gen (Lf I q ?_);cases x<;>first
  | (cases rx;rfl)
  | (obtain⟨t,rfl⟩:=rx;rfl)
def Qj:d9 X (compareOp .IsNot) (λx y H Q=>y=.non/\Q (.bl (!decide (x=.non))) H):=by
 intro pins s σ H x y v u Q I rx ry h;obtain⟨rfl,q⟩:=h;cases ry;refine isnot_none_gen (Lf I q ?_);cases x<;>first
  | (cases rx;rfl)
  | (obtain⟨t,rfl⟩:=rx;rfl)
def d9.or{f:Value->Value->Sem Value}{r r':R2}(h:d9 X f r)(h':d9 X f r'):d9 X f (λx y H Q=>r x y H Q\/r' x y H Q):=by
 intro pins s σ H x y v u Q I rx ry q;rcases q with q | q
 ·exact h pins s σ H x y v u Q I rx ry q
 ·exact h' pins s σ H x y v u Q I rx ry q
def Qe{op:CmpOp}{r:R2}(ho:d9 X (compareOp op) r)(ha:PE X a ta)(hb:PE X b tb)(hm:behindInMarks op b=false):PE X (.Compare a [op] [b] pos) (tOp r ta tb):=by
 intro pins s σ H Q I h;exact wpAny_Compare1 (Yw ha hb I h λv u s2 x y H2 I2 rx ry q=>ho pins s2 σ H2 x y v u Q I2 rx ry q) hm
noncomputable def aak(t:TE):TT:=fun σ H Q=>t σ H λx H'=>∃k,x=.bl k/\Q k H'
def Pg{op:CmpOp}{r:R2}(ho:d9 X (compareOp op) r)(ha:PE X a ta)(hb:PE X b tb)(hm:behindInMarks op b=false):PT X (.Compare a [op] [b] pos) (aak (tOp r ta tb)):=by
 intro pins s σ H Q I h;refine wpAny_isTrue_Compare1 (cC (ha pins s σ H _ I h) λv s1 zz=>?_) hm;obtain⟨x,H1,I1,r1,q1⟩:=zz;refine cC (hb pins s1 σ H1 _ I1 q1) λu s2 zz=>?_;obtain⟨y,H2,I2,r2,q2⟩:=zz;refine cC (ho pins s2 σ H2 x y v u _ I2 r1 r2 q2) λc s3 zz=>?_;obtain⟨z,H3,I3,r3,k,e,q3⟩:=zz;subst e;cases r3;exact afv ⟨H3,I3,q3⟩
def Yx(K:PySem.W.Frag)(x:V)(H:Hp)(k:Bool):Prop :=
 match x with
 | .non=>k=false
 | .bl b=>k=b
 | .int i=>k=(i != 0)
 | .str y=>y.length<=sizeLine/\k=((y.length:Int) != 0)
 | .byt y=>y.size<=sizeLine/\k=((y.size:Int) != 0)
 | .ref p=>(∃xs,oF K H p xs/\k=!xs.isEmpty)\/(∃xs,oK K H p xs/\k=!xs.isEmpty)\/∃kvs,H p=some (.dK kvs)/\k=!kvs.isEmpty
 | _=>False
def zq0{κ:Type}{kvs:List (κ×V)}{vs:List (κ×Value)}(r:KV kvs vs):(!vs.isEmpty)=!kvs.isEmpty:=by
 cases r<;>rfl
def zlc{xs:List V}{its:List Value}(r:Vals xs its):(!its.toArray.isEmpty)=!xs.isEmpty:=by
 cases r<;>simp
def iI:(sizeLine:Nat)<2 ^ 63:=by rw[afB];decide
def zr6:aen X (λx H Q=>∃k,Yx X.K x H k/\Q k H):=by
 intro pins s σ H x v Q I rx h;obtain⟨k,e,q⟩:=h;have hl:=iI;have hs:sizeLine=16777216:=afB;cases x with
 | non =>
  cases rx;have e':k=false:=e;subst e';exact truthy_none ⟨H,I,q⟩
 | bl b =>
  cases rx;have e':k=b:=e;subst e';exact afv ⟨H,I,q⟩
 | int i =>
  obtain⟨t,rfl⟩:=rx;have e':k=(i != 0):=e;subst e';exact PySem.P.truthy_int ⟨H,I,q⟩
 | str y =>
  obtain⟨t,rfl⟩:=rx;obtain⟨hy,e'⟩:y.length<=sizeLine/\k=((y.length:Int) != 0):=e;subst e';exact PySem.P.truthy_str (by omega) ⟨H,I.tok _,q⟩
 | byt y =>
  obtain⟨t,rfl⟩:=rx;obtain⟨hy,e'⟩:y.size<=sizeLine/\k=((y.size:Int) != 0):=e;subst e';exact PySem.W.truthy_bytes (by omega) ⟨H,I.tok _,q⟩
 | ref p =>
  cases rx;have e':(∃xs,oF X.K H p xs/\k=!xs.isEmpty)\/(∃xs,oK X.K H p xs/\k=!xs.isEmpty)\/∃kvs,H p=some (.dK kvs)/\k=!kvs.isEmpty:=e;rcases e' with⟨xs,hx,e'⟩ | ⟨xs,hx,e'⟩ | ⟨kvs,hx,e'⟩
  ·subst e';obtain⟨its,r,pl,hz⟩:=I.list hx;have hlen:=r.length;exact wpAny_truthy_list pl.isList (by simp only[gC];omega) ⟨H,I.tok _,by rw[zlc r];exact q⟩
  ·subst e';obtain⟨its,r,pl,hz⟩:=I.tuple hx;have hlen:=r.length;exact truthy_tuple pl (by simp only[gC];omega) ⟨H,I.tok _,by rw[zlc r];exact q⟩
  ·subst e';obtain⟨hz,hS,vs,r,m⟩:kvs.length<=sizeLine/\(p==sysModules)=false/\∃vs,KV kvs vs/\s.heap.DictOf (aZ X.prog X.w) p vs:=I.bJ p _ hx;have hlen:kvs.length=vs.length:=afd r;exact wpAny_truthy_dict hS m (by omega) ⟨H,I.tok _,by rw[zq0 r];exact q⟩
 | _=>exact (show False from e).elim
def Ij(ha:PE X a ta)(he:∀whole,isTrue a X.env whole=(do let v <-whole;standAt a.pos;holding [v] (truthy v))) :
  PT X a (fun σ H Q=>ta σ H λx H'=>∃k,Yx X.K x H' k/\Q k H'):=by
 intro pins s σ H Q I h;refine isTrue_plain (cC (ha pins s σ H _ I h) λv s1 zz=>?_) (he _);obtain⟨x,H1,I1,r1,q1⟩:=zz;exact zr6 pins s1 σ H1 x v Q I1 r1 q1
def zr1:d9 X (binaryOp .Add) (λx y H Q=>∃i j,x=.str i/\y=.str j/\i.length+j.length<=sizeLine/\Q (.str (i++j)) H):=by
 intro pins s σ H x y v u Q I rx ry h;obtain⟨i,j,rfl,rfl,hz,q⟩:=h;obtain⟨t,rfl⟩:=rx;obtain⟨t',rfl⟩:=ry;exact add_str (λt' tk=>⟨.str (i++j),H,I.tok _,⟨_,rfl⟩,q⟩) hz
def vals1(r:Vals [x] us):∃u,us=[u]/\RelV x u:=by
 cases r with
 | cons r1 r2=>cases r2;exact⟨_,rfl,r1⟩
def vals2(r:Vals [x,y] us):∃u w',us=[u,w']/\RelV x u/\RelV y w':=by
 cases r with
 | cons r1 r2 =>
  cases r2 with
  | cons r3 r4=>cases r4;exact⟨_,_,rfl,r1,r3⟩
def Gx:cz X (.type "int") (λxs H Q=>(∃i,xs=[.int i]/\Q (.int i) H)\/∃k,xs=[.bl k]/\Q (.int (if k then 1 else 0)) H):=by
 intro pins s σ H xs us Q I r h;rcases h with⟨i,rfl,q⟩ | ⟨k,rfl,q⟩
 ·obtain⟨u,rfl,t,rfl⟩:=vals1 r;exact call_int_int ⟨.int i,H,I,⟨_,rfl⟩,q⟩
 ·obtain⟨u,rfl,r1⟩:=vals1 r;cases r1;exact call_int_bool ⟨.int (if k then 1 else 0),H,I.tok _,⟨_,rfl⟩,q⟩
end
structure Be(h:Heap)(x dx C:Addr)(mA:Str->Option Value):Prop where
 obj:h.get? x=some (PySem.W.instObj C dx)
 ns:h.Ns1 dx mA
 ne:dx≠x
def Ff{h:Heap}{dx:Addr}{mA:Str->Option Value}(n:h.Ns1 dx mA):∃od,h.get? dx=some od/\∀name,PySem.W.lookIn name od=some (mA name):=by
 obtain⟨o,es,ep,ho,hd,hk,_,hm⟩:=n;refine⟨o,ho,λname=>?_⟩;have e:=hm name;unfold nsFind findBy at e;rw[<-Array.find?_toList]at e;unfold PySem.W.lookIn;rw[hd];dsimp only
 split
 ·rename_i y q;rw[q]at e;exact congrArg some e
 ·rename_i q;rw[q]at e;have a:es.toList.any (·.refKey)=false:=by
   rw[List.any_eq_false];intro y hy;obtain⟨z,t,adZ⟩:=hk y (Array.mem_toList_iff.mp hy);simp[DictEntry.refKey,adZ]
  have a':¬ es.toList.any (·.refKey)=true:=by rw[a];exact pD
  rw[ae2 a'];exact congrArg some e
def Be.look(I:Be h x dx C mA):∃od,PySem.W.InstAt h x (PySem.W.instObj C dx) C (some od)/\∀name,PySem.W.lookIn name od=some (mA name) :=
 let ⟨od,ho,hl⟩:=Ff I.ns
 ⟨od,⟨I.obj,rfl,rfl,ho⟩,hl⟩
section
variable  {prog:Program}{w:World}{A:Around}{E:Value->Shared->Prop}{s:Shared}{K:PySem.W.Frag}{x dx C f:Addr}{mA:Str->Option Value}{name:Str}{v:Value}
def get_map{expr:Bool}(X:K.In s.heap)(I:Be s.heap x dx C mA)(hg:PySem.W.plainGet K C name=true)(hh:PySem.W.hasDictIn K C=true) 
  (ha:PySem.W.findIn K (.ref C) name=some none) (hv:mA name=some v) (Ax:PySem.W.handedIn v=true) (h:Q v { s with toks:=s.toks+1 }) :
  wpAny (model prog w) A (getAttr (.ref x) name expr) Q E s:=by
 obtain⟨od,J,hl⟩:=I.look;exact PySem.W.get_value X J (PySem.W.plainGet_of hg).1 (PySem.W.findObj_own hh ha rfl (by rw[hl,hv])) Ax h
def KZ(X:K.In s.heap)(I:Be s.heap x dx C mA)(hg:PySem.W.plainGet K C name=true) 
  (hf:PySem.W.findIn K (.ref C) name=some (some (.ref f))) (ht:PySem.W.isFn K (.ref f)=true) (hv:mA name=none) (h:Q (.ref f,[.ref x]) s) :
  wpAny (model prog w) A (getMethod (.ref x) name pl) Q E s:=by
 obtain⟨od,J,hl⟩:=I.look;exact PySem.W.method_fn X J (PySem.W.plainGet_of hg).1 (PySem.W.plainGet_of hg).2 hf (beq_iff_eq.mp ht) (by show (PySem.W.lookIn name od).map (·.isSome)=some false;rw[hl,hv];rfl) h
def Oq(X:K.In s.heap)(I:Be s.heap x dx C mA) 
  (hs:PySem.W.findIn K (.ref C) "__setattr__" = some (some (.builtin "object.__setattr__"))) (hp:PySem.W.plainOver K C=true) (ht:PySem.W.takerIn K C name=some none) (hh:PySem.W.hasDictIn K C=true)
  (hw:PySem.Within mA ns) (hsz:ns.length<=sizeLine)
  (h:∀h',Be h' x dx C (λy=>if y=name then some v else mA y)->Heap.SameBut dx s.heap h'->Q () { s with heap:=h',toks:=s.toks+2 }) :
  wpAny (model prog w) A (setAttr (.ref x) name v) Q E s:=by
 obtain⟨od,J,hl⟩:=I.look;refine PySem.W.set_plain X J hs (PySem.W.osa_open (s:={ s with toks:=s.toks+1 }) (r:=none) X J hp ht λb=>?_);obtain⟨cd,hc,zc⟩:=PySem.W.any_some hh;have hx:s.heap.get? x=some ⟨.ref C,some dx,.plain,#[]⟩:=I.obj;refine ae0 (ae3 (ae0 (ae0 (wpAny_loadPart hx (ae0 (PySem.W.Looks.here (s:={ s with toks:=s.toks+1 }) (PySem.W.looks_clsIn X hc) ?_))))));rw[zc];refine ae3 (a:=some dx) (ae0 (ae3 (ae0 ?_)));refine wpAny_nsSet1 (s:={ s with toks:=s.toks+1 }) I.ns λh' hn2 fQ=>?_;obtain⟨oD,esD,epD,hoD,hdD,hcD⟩:=hn2.count (PySem.Within.cons name v hw);refine ae0 (wpAny_lookBehind hoD (by rw[hdD];exact pastItsLine_dict (kh hcD (by rw[gw];omega))) ?_);exact ae3 (h _ ⟨(fQ.2 _ (afb I.ne)).trans I.obj,hn2,I.ne⟩ fQ)
def JC(X:K.In s.heap)(hm:PySem.W.makesIn K C=true) 
  (hi:PySem.W.findIn K (.ref C) "__init__" = some (some (.ref f))) (hf:PySem.W.typeIn K (.ref f)=some (.type "function"))
  (h:codeAny (model prog w) (A.under (.builtin "type.__call__" ⟨.ref C::vs,kw⟩)) (.call (.ref f) ⟨.ref (s.heap.objs.size+1)::vs,kw⟩) (PySem.W.InitBack (s.heap.objs.size+1) R)
   { s with heap:=(s.heap.push PySem.W.emptyDict).push (PySem.W.instObj C s.heap.objs.size) }) :
  codeAny (model prog w) A (.call (.ref C) ⟨vs,kw⟩) R s:=by
 obtain⟨hh,g,d,t,os⟩:=s;exact PySem.W.make_core (PySem.W.makes_of X hm) (PySem.W.looks_findIn X hi) (λself=>PySem.W.bind_fn X self hf) (.inl rfl) h
end
noncomputable def fX(f:Str)(v:V):List (Str×V)->List (Str×V)
 | []=>[(f,v)]
 | (g,x)::r=>if g=f then (g,v)::r else (g,x)::fX f v r
theorem zjn(f g:Str)(v:V):∀fs:List (Str×V),(fX f v fs).lookup g=if g=f then some v else fs.lookup g
 | []=>by
  show List.lookup g [(f,v)]=_;by_cases h:g=f
  ·have hb:(g==f)=true:=beq_iff_eq.mpr h;simp only[List.lookup,hb,ae1 h]
  ·have hb:(g==f)=false:=beq_eq_false_iff_ne.mpr h;simp only[List.lookup,hb,ae2 h]
 | (k,x)::r=>by
  have ih:=zjn f g v r;rw[show fX f v ((k,x)::r)=(if k=f then (k,v)::r else (k,x)::fX f v r) from rfl];by_cases hk:k=f
  ·rw[ae1 hk];by_cases h:g=k
   ·have hb:(g==k)=true:=beq_iff_eq.mpr h;simp only[List.lookup,hb,ae1 (h.trans hk)]
   ·have hb:(g==k)=false:=beq_eq_false_iff_ne.mpr h;simp only[List.lookup,hb,ae2 (λe:g=f=>h (e.trans hk.symm))]
  ·rw[ae2 hk];by_cases h:g=k
   ·have hb:(g==k)=true:=beq_iff_eq.mpr h;simp only[List.lookup,hb,ae2 (λe:g=f=>hk (h.symm.trans e))]
   ·have hb:(g==k)=false:=beq_eq_false_iff_ne.mpr h;simp only[List.lookup,hb];exact ih
theorem zkh(f:Str)(v:V):∀fs:List (Str×V),f∈(fX f v fs).map (·.1)/\∀g,g∈fs.map (·.1)->g∈(fX f v fs).map (·.1)
 | []=>⟨by simp[fX],λg h=>by simp at h⟩
 | (k,x)::r=>by
  obtain⟨i1,i2⟩:=zkh f v r;rw[show fX f v ((k,x)::r)=(if k=f then (k,v)::r else (k,x)::fX f v r) from rfl];by_cases hk:k=f
  ·rw[ae1 hk];subst hk;exact⟨by simp,λg h=>by simpa using h⟩
  ·rw[ae2 hk];refine⟨?_,λg h=>?_⟩
   ·rw[gm];exact kI _ i1
   ·rw[gm]at h ⊢;rcases gq.mp h with e | e
    ·exact gq.mpr (.inl e)
    ·exact kI _ (i2 g e)
theorem zjm(f:Str)(v:V):∀fs:List (Str×V),(fX f v fs).length<=fs.length+1
 | []=>by simp[fX]
 | (k,x)::r=>by
  have ih:=zjm f v r;rw[show fX f v ((k,x)::r)=(if k=f then (k,v)::r else (k,x)::fX f v r) from rfl];by_cases hk:k=f
  ·rw[ae1 hk,gw,gw];omega
  ·rw[ae2 hk,gw,gw];omega
def jZ.some_of(r:jZ (some v) o):∃u,o=some u/\RelV v u:=by
 cases o with
 | none=>exact (show False from r).elim
 | some u=>exact⟨u,rfl,r⟩
def jZ.none_of(r:jZ none o):o=none:=by
 cases o with
 | none=>rfl
 | some u=>exact (show False from r).elim
def FW(r:RelV v u):PySem.W.handedIn u=true:=by
 cases v with
 | non=>cases (show u=Value.none from r);rfl
 | bl b=>cases (show u=Value.bool b from r);rfl
 | int i=>obtain⟨t,e⟩:=(show ∃t,u=Value.int i t from r);cases e;rfl
 | str x=>obtain⟨t,e⟩:=(show ∃t,u=Value.str x t from r);cases e;rfl
 | byt b=>obtain⟨t,e⟩:=(show ∃t,u=Value.bytes b t from r);cases e;rfl
 | flt b=>obtain⟨t,e⟩:=(show ∃t,u=Value.float b t from r);cases e;rfl
 | ref a=>cases (show u=Value.ref a from r);rfl
 | ty n=>cases (show u=Value.type n from r);rfl
section
variable  {P:Program}{w:World}{H H':Hp}{h h':Heap}{a C dx:Addr}{fs xq:List (Str×V)}
def zop(bJ:lC P w H h)(e:H a=some (.ins C dx fs)):∃mA,Be h a dx C mA/\(∀f,jZ (fs.lookup f) (mA f))/\PySem.Within mA (fs.map (·.1))/\fs.length<=1000/\H dx=some (.own a):=by
 obtain⟨d,z,ne,ob,mA,n,r,q⟩:=(show bV P w H h a (.ins C dx fs) from bJ a _ e);exact⟨mA,⟨ob,n,ne⟩,r,q,z,d⟩
end
structure Du(K:PySem.W.Frag)(C:Addr):Prop where
 pg:PySem.W.plainGet K C Str.empty=true
 hd:PySem.W.hasDictIn K C=true
 po:PySem.W.plainOver K C=true
 sa:PySem.W.findIn K (.ref C) "__setattr__" = some (some (.builtin "object.__setattr__"))
def Du.get{K:PySem.W.Frag}{C:Addr}(c:Du K C)(f:Str):PySem.W.plainGet K C f=true:=c.pg
def iT(K:PySem.W.Frag)(C:Addr)(f:Str):Prop:=PySem.W.findIn K (.ref C) f=some none
def iT.aaj{K:PySem.W.Frag}{C:Addr}{f:Str}(n:iT K C f):PySem.W.takerIn K C f=some none:=by
 unfold PySem.W.takerIn;rw[show PySem.W.findIn K (.ref C) f=some none from n]
 rfl
structure Con(K:PySem.W.Frag)(C:Addr)(f:Str)(v:V)(u:Value):Prop where
 at_:PySem.W.findIn K (.ref C) f=some (some u)
 rel:RelV v u
 get:PySem.W.specialIn K u "__get__" = some none
 cp:PySem.W.copiedNames.contains f=false
structure Meth(K:PySem.W.Frag)(C:Addr)(m:Str)(f:Addr):Prop where
 at_:PySem.W.findIn K (.ref C) m=some (some (.ref f))
 fn:PySem.W.isFn K (.ref f)=true
 kp:PySem.W.keepIn K (.ref f)=true
section
variable  {X:Cx}{pins:List (Addr×Obj)}{σ:St}{H:Hp}{s:Shared}{a C dx:Addr}{fs:List (Str×V)}{f:Str}{v:V}{A:Around}{E:Value->Shared->Prop}
def ztg(I:Inv X pins σ H s)(e:H a=some (.ins C dx fs))(c:Du X.K C)(n:iT X.K C f)(l:fs.lookup f=some v) 
  (h:∀u s',Inv X pins σ H s'->RelV v u->Q u s'):wpAny (model X.prog X.w) A (getAttr (.ref a) f b) Q E s:=by
 obtain⟨mA,O,r,_,_,_⟩:=zop I.bJ e;obtain⟨u,hu,ru⟩:=jZ.some_of (v:=v) (o:=mA f) (by rw[<-l];exact r f);exact get_map I.oJ O (c.get f) c.hd n hu (FW ru) (h u _ (I.tok _) ru)
def zsw(I:Inv X pins σ H s)(e:H a=some (.ins C dx fs))(c:Du X.K C)(k:Meth X.K C m g)(l:fs.lookup m=none) 
  (h:Q (.ref g,[.ref a]) s):wpAny (model X.prog X.w) A (getMethod (.ref a) m pl) Q E s:=by
 obtain⟨mA,O,r,_,_,_⟩:=zop I.bJ e;have hn:mA m=none:=jZ.none_of (by rw[<-l];exact r m);exact KZ I.oJ O (c.get m) k.at_ k.fn hn h
def zti(I:Inv X pins σ H s)(e:H a=some (.ins C dx fs))(c:Du X.K C)(n:iT X.K C f)(hl:fs.length<1000)(ry:RelV y u) 
  (h:∀s',Inv X pins σ (upd H a (.ins C dx (fX f y fs))) s'->Q () s'):wpAny (model X.prog X.w) A (setAttr (.ref a) f u) Q E s:=by
 obtain⟨mA,O,r,wi,_,ho⟩:=zop I.bJ e;have hz:(fs.map (·.1)).length<=sizeLine:=by rw[gh,afB];omega
 refine Oq I.oJ O c.sa c.po n.aaj c.hd wi hz λh' O' sb=>h _ ?_;have hd:∃o,h'.get? dx=some o:=let ⟨o,_,_,e',_⟩:=O'.ns;⟨o,e'⟩;refine I.write (x:=a) (e:=dx) (by rw[e];exact True.intro) (.inr ho) (λb q hb z=>(sb.2 b hb).trans z) hd ?_;refine⟨by rw[iz O.ne];exact ho,?_,O.ne,O'.obj,_,O'.ns,λg=>?_,λg hg=>?_⟩
 ·have:=zjm f y fs;omega
 ·show jZ ((fX f y fs).lookup g) (if g=f then some u else mA g);rw[zjn];by_cases q:g=f
  ·rw[ae1 q,ae1 q];exact ry
  ·rw[ae2 q,ae2 q];exact r g
 ·by_cases q:g=f
  ·rw[q];exact (zkh f y fs).1
  ·refine (zkh f y fs).2 g (wi g λz=>hg ?_);show (if g=f then some u else mA g)=none;rw[ae2 q];exact z
def Inv.made(I:Inv X pins σ H s):Inv X pins σ (upd (upd H s.heap.objs.size (.own (s.heap.objs.size+1))) (s.heap.objs.size+1) (.ins C s.heap.objs.size []))
  { s with heap:=(s.heap.push PySem.W.emptyDict).push (PySem.W.instObj C s.heap.objs.size) }:=by
 have e1:(s.heap.push PySem.W.emptyDict).get? s.heap.objs.size=some PySem.W.emptyDict:=gU s.heap rfl;have e2:((s.heap.push PySem.W.emptyDict).push (PySem.W.instObj C s.heap.objs.size)).get? (s.heap.objs.size+1)=some (PySem.W.instObj C s.heap.objs.size):=by
  have:=gU (s.heap.push PySem.W.emptyDict) (o:=PySem.W.instObj C s.heap.objs.size) rfl;rwa[Heap.size_push]at this
 have e3:(s.heap.push PySem.W.emptyDict).Ns s.heap.objs.size (λ_=>none):=⟨PySem.W.emptyDict,#[],_,e1,rfl,(λe he=>absurd he (by simp)),λ_=>rfl⟩;have I1:=I.laid (a:=s.heap.objs.size) (o:=.own (s.heap.objs.size+1)) (h':=s.heap.push PySem.W.emptyDict) (t':=s.toks) (λb u q=>g8 _ q) (gb _) ⟨_,e1⟩;refine I1.laid (a:=s.heap.objs.size+1) (o:=.ins C s.heap.objs.size []) (t':=s.toks) (λb u q=>g8 _ q) (Nat.le_of_eq (Heap.size_push _ _)) ?_;have ne:s.heap.objs.size≠s.heap.objs.size+1:=gR (nM _);refine⟨by rw[iz ne,rW],mz _,ne,e2,λ_=>none,(Heap.Ns1.of_empty e3).at λo q=>g8 _ q,λ_=>True.intro,λy hy=>absurd rfl hy⟩
def R3(hb:attributeBase e f env (eval e env)=eval e env) 
  (h:wpAny (model prog w) A (eval e env) (λo aeQ=>wpAny (model prog w) A (getAttr o f true) Q E aeQ) E s):wpAny (model prog w) A (eval (.Attribute e f pos) env) Q E s :=
 Attribute_any_ h (by rw[arm_eval_Attribute,hb])
end
noncomputable def acL(K:PySem.W.Frag)(ta:TE)(f:Str):TE:=fun σ H Q=>ta σ H λx H1=>∃a C dx fs v,x=.ref a/\H1 a=some (.ins C dx fs)/\Du K C/\iT K C f/\fs.lookup f=some v/\Q v H1
noncomputable def acW(K:PySem.W.Frag)(ta tv:TE)(f:Str):TS:=λD σ H=>tv σ H λy H1=>ta σ H1 λx H2=>∃a C dx fs,x=.ref a/\H2 a=some (.ins C dx fs)/\Du K C/\iT K C f/\fs.length<1000 /\
 D.nx σ (upd H2 a (.ins C dx (fX f y fs)))
section
variable  {X:Cx}{o e value:Expr}{f:Str}{pos pos' xJ:Pos}{ta tv:TE}
def Wb(he:PE X e ta)(hb:attributeBase e f X.env (eval e X.env)=eval e X.env):PE X (.Attribute e f pos) (acL X.K ta f):=by
 intro pins s σ H Q I h;refine R3 hb (cC (he pins s σ H _ I h) λu s1 zz=>?_);obtain⟨x,H1,I1,rx,a,C,dx,fs,v,ex,ea,c,n,l,q⟩:=zz;subst ex;obtain rfl:u=Value.ref a:=rx;exact ztg I1 ea c n l λu' s2 I2 ru=>⟨v,H1,I2,ru,q⟩
def VN(ha:PE X o ta)(hv:PE X value tv)(hs:swapsWith value (some (.Attribute o f pos')) pos.line X.env=pure false):PS X (.Assign [.Attribute o f pos'] value pos) (acW X.K ta tv f):=by
 intro pins s σ H D I h;refine plainObj_wpAny_Assign_Attribute (cC (hv pins s σ H _ I h) λu s1 zz=>?_) hs;obtain⟨y,H1,I1,ry,q⟩:=zz;refine cC (ha pins s1 σ H1 _ I1 q) λov s2 zz=>?_;obtain⟨x,H2,I2,rx,a,C,dx,fs,ex,ea,c,n,l,q2⟩:=zz;subst ex;obtain rfl:ov=Value.ref a:=rx;exact zti I2 ea c n l ry λs3 I3=>⟨σ,_,I3,q2⟩
end
section
variable  {X:Cx}{pins:List (Addr×Obj)}{σ:St}{H:Hp}{s:Shared}{A:Around}{E:Value->Shared->Prop}{Q:Value->Shared->Prop}{c:Value}{b:Bool}
inductive uJ (K:PySem.W.Frag) (H:Hp):V->Value->Prop where
 | non:uJ K H .non (.type "NoneType")
 | bl (x:Bool):uJ K H (.bl x) (.type "bool")
 | int (i:Int):uJ K H (.int i) (.type "int")
 | str (x:Str):uJ K H (.str x) (.type "str")
 | flt (x:UInt64):uJ K H (.flt x) (.type "float")
 | lst {a:Addr} {xs:List V} (e:H a=some (.lst xs)):uJ K H (.ref a) (.type "list")
 | frz {a:Addr} {o:Obj} {xs:List V} (e:H a=some (.frz o (.lst xs))):uJ K H (.ref a) (.type "list")
 | tup {a:Addr} {xs:List V} (e:H a=some (.tup xs)):uJ K H (.ref a) (.type "tuple")
 | dK {a:Addr} {kvs:List (Key×V)} (e:H a=some (.dK kvs)):uJ K H (.ref a) (.type "dict")
 | dT {a:Addr} {kvs:List (List Key×V)} (e:H a=some (.dT kvs)):uJ K H (.ref a) (.type "dict")
 | ins {a C dx:Addr} {fs:List (Str×V)} (e:H a=some (.ins C dx fs)) (cl:Du K C) (ha:PySem.W.findIn K (.ref C) "__class__" = some (some (.builtin "object.__class__")))
   (hn:PySem.W.specialIn K (.builtin "object.__class__") "__get__" = some (some (.builtin "getset_descriptor.__get__"))) (htk:PySem.W.takesIn K (.builtin "object.__class__")=some true)
   (hm:PySem.W.mroIn K C (.type "object")=some true):uJ K H (.ref a) (.ref C)
def Zb{x:V}{u t:Value}(I:Inv X pins σ H s)(rx:RelV x u)(ty:uJ X.K H x t)(e:PySem.W.kitOne X.K t c=some b)(h:∀tk,Q (.bool b) { s with toks:=tk }) :
  wpAny (model X.prog X.w) A (call (.builtin "isinstance") [u,c]) Q E s:=by
 cases ty with
 | non=>cases (show u=Value.none from rx);exact ae8 PySem.W.kitx_none I.oJ True.intro e (λz=>nomatch z) h
 | bl y=>cases (show u=Value.bool y from rx);exact ae8 PySem.W.kitx_bool I.oJ True.intro e (λz=>nomatch z) h
 | int i=>obtain⟨t,q⟩:=(show ∃t,u=Value.int i t from rx);cases q;exact ae8 PySem.W.kitx_int I.oJ True.intro e (λz=>nomatch z) h
 | str y=>obtain⟨t,q⟩:=(show ∃t,u=Value.str y t from rx);cases q;exact ae8 PySem.W.kitx_str I.oJ True.intro e (λz=>nomatch z) h
 | flt y=>obtain⟨t,q⟩:=(show ∃t,u=Value.float y t from rx);cases q;exact ae8 PySem.W.kitx_float I.oJ True.intro e (λz=>nomatch z) h
 | @lst a xs ea =>
  cases (show u=Value.ref a from rx);obtain⟨_,_,n,_,h1⟩:=(show bV X.prog X.w H s.heap a (.lst xs) from I.bJ a _ ea);exact ae8 PySem.W.kitx_list I.oJ ⟨_,h1,rfl⟩ e (λz=>nomatch z) h
 | @frz a ob xs ea =>
  cases (show u=Value.ref a from rx);obtain⟨_,_,_,n,_,h1⟩:=(show bV X.prog X.w H s.heap a (.frz ob (.lst xs)) from I.bJ a _ ea);exact ae8 PySem.W.kitx_list I.oJ ⟨_,h1,rfl⟩ e (λz=>nomatch z) h
 | @tup a xs ea =>
  cases (show u=Value.ref a from rx);obtain⟨_,_,_,p⟩:=(show bV X.prog X.w H s.heap a (.tup xs) from I.bJ a _ ea);obtain⟨o,h1,h2,_⟩:=p;exact ae8 PySem.W.kitx_tuple I.oJ ⟨o,h1,h2⟩ e (λz=>nomatch z) h
 | @dK a kvs ea =>
  cases (show u=Value.ref a from rx);obtain⟨_,_,vs,_,p⟩:=(show bV X.prog X.w H s.heap a (.dK kvs) from I.bJ a _ ea);obtain⟨o,es,ep,h1,h2,_⟩:=p;exact ae8 PySem.W.kitx_dict I.oJ ⟨o,h1,h2.1⟩ e (λz=>nomatch z) h
 | @dT a kvs ea =>
  cases (show u=Value.ref a from rx);obtain⟨_,_,xs,_,o,es,ep,h1,h2,_⟩:=(show bV X.prog X.w H s.heap a (.dT kvs) from I.bJ a _ ea);exact ae8 PySem.W.kitx_dict I.oJ ⟨o,h1,h2.1⟩ e (λz=>nomatch z) h
 | @ins a C dx fs ea cl ha hn htk hm =>
  cases (show u=Value.ref a from rx);obtain⟨mA,O,_⟩:=zop I.bJ ea;obtain⟨od,J,_⟩:=O.look;exact ae8 (PySem.W.kitx_own (cl.get _) cl.hd ha hn htk hm) I.oJ J e (λz=>nomatch z) h
end
structure cG(k:Nat)(A:Around):Prop where
 hd:A.handled=none
 dp:A.depth+3*k+5<recursionLimit
 un:A.units+16*k+200<cLine
def cG.mono(r:cG k A)(h:j<=k):cG j A:=⟨r.hd,by have:=r.dp;omega,by have:=r.un;omega⟩
def cG.deeper(r:cG (k+1) A)(env:Env):cG k (A.deeper env) :=
 ⟨r.hd,by have:=r.dp;show A.depth+1+3*k+5<_;omega,by have:=r.un;show A.units+3+16*k+200<_;omega⟩
def zq2{A:Around}{C:Addr}{us:List Value}{kw:List (Str×Value)}:(A.under (.builtin "type.__call__" ⟨.ref C::us,kw⟩)).depth=A.depth+1:=by
 first | rfl | simp[Around.under,Code.weight,Code.isCreation,Code.isGuard,Code.isCaller,Code.frames,Code.isFrame,guardIds]
def zrm{A:Around}{C:Addr}{us:List Value}{kw:List (Str×Value)}:(A.under (.builtin "type.__call__" ⟨.ref C::us,kw⟩)).units=A.units+1:=by
 first | rfl | simp[Around.under,Code.cUnits,Code.frames,Code.isFrame]
def cG.make(r:cG (k+1) A)(C:Addr)(us:List Value)(kw:List (Str×Value)):cG k (A.under (.builtin "type.__call__" ⟨.ref C::us,kw⟩)) :=
 ⟨r.hd,by have:=r.dp;rw[zq2];omega,by have:=r.un;rw[zrm];omega⟩
def cG.depth(r:cG k A):A.depth<recursionLimit:=by have:=r.dp;omega
def cG.units(r:cG k A):A.units+64<cLine:=by have:=r.un;omega
noncomputable def aan:TA:=λ_ H Q=>Q [] H
noncomputable def aav(ta:TE)(tr:TA):TA:=fun σ H Q=>ta σ H λx H1=>tr σ H1 λxs H2=>Q (x::xs) H2
section
variable  {X:Cx}{e:Expr}{es:List Expr}{te:TE}{t:TA}{pos:Pos}
def Ai:PA X [] aan:=λ_ _ _ _ H Q I h=>Calls.spliced_nil ⟨[],H,I,.nil,h⟩
def zl8(ha:PE X e te)(hr:PA X es t)(hs:starEach (e::es) X.env=(false,eval e X.env)::starEach es X.env:=by rfl):PA X (e::es) (aav te t):=by
 intro pos pins s σ H Q I h;rw[hs];show wpAny _ _ (spliced ((false,eval e X.env)::backTo pos (starEach es X.env))) _ _ s;refine Calls.spliced_cons (cC (ha pins s σ H _ I h) λu s1 zz=>?_);obtain⟨x,H1,I1,r1,q1⟩:=zz;refine cC (hr pos pins s1 σ H1 _ I1 q1) λus s2 zz=>?_;obtain⟨xs,H2,I2,r2,q2⟩:=zz;exact⟨x::xs,H2,I2,.cons r1 r2,q2⟩
noncomputable def acC(t:TA):TE:=fun σ H Q=>t σ H λxs H1=>xs.length<=sizeLine/\∀p,H1 p=none->Q (.ref p) (upd H1 p (.tup xs))
noncomputable def acH(t:TA):TE:=fun σ H Q=>t σ H λxs H1=>xs.length<=sizeLine/\∀p,H1 p=none->Q (.ref p) (upd H1 p (.lst xs))
def V4{x1}(h:PA X es t):PE X (.Tuple es x1 pos) (acC t):=by
 intro pins s σ H Q I hq;refine wpAny_Tuple_spliced (cC (h pos pins s σ H _ I hq) λus s1 zz=>?_);obtain⟨xs,H1,I1,r,z,q⟩:=zz;refine⟨by rw[<-r.length];exact z,?_⟩;have hf:H1 s1.heap.objs.size=none:=I1.bJ.fresh (gb _);refine⟨.ref s1.heap.objs.size,upd H1 s1.heap.objs.size (.tup xs),I1.laid (t':=s1.toks) (λb u e=>g8 _ e) (gb _) ?_,rfl,q _ hf⟩;exact⟨z,us,r,⟨_,gU _ rfl,rfl,_,rfl⟩⟩
def V9(h:PA X es t):PE X (.List es pos) (acH t):=by
 intro pins s σ H Q I hq;refine wpAny_List_spliced (cC (h pos pins s σ H _ I hq) λus s1 zz=>?_);obtain⟨xs,H1,I1,r,z,q⟩:=zz;refine⟨by rw[<-r.length];exact z,?_⟩;have hf:H1 s1.heap.objs.size=none:=I1.bJ.fresh (gb _);refine⟨.ref s1.heap.objs.size,upd H1 s1.heap.objs.size (.lst xs),I1.laid (t':=s1.toks) (λb u e=>g8 _ e) (gb _) ?_,rfl,q _ hf⟩;exact⟨z,us,0,r,gU _ rfl⟩
end
noncomputable abbrev Sp:=List V->Hp->VK->XK->Prop
noncomputable abbrev Mz:=List Env->Hp->Shared->XK->Value->Shared->Prop
structure yz(P:Program)(w:World)(K:PySem.W.Frag)(mg:Str->Option Value)(base:Heap)(A:Around)(outer:List Env)(s:Shared)(H:Hp):Prop where
 frames:A.frames=some outer
 mod:Mod K mg base
 bs:∀b o,base.get? b=some o->s.heap.get? b=some o/\H b=none
 Gy:base.objs.size<=s.heap.objs.size
 oV:s.heap.FunFrames base outer
 K8:∀b∈CZ outer,H b=none
 bJ:lC P w H s.heap
 bare:AllBare s.gens
def CE(outer:List Env)(P:Program)(w:World)(H:Hp)(s:Shared)(Q:VK)(u:Value)(s':Shared):Prop :=
 ∃v H',s'.os=s.os/\AllBare s'.gens/\Un (CZ outer) [] H H' s.heap s'.heap/\lC P w H' s'.heap/\RelV v u/\Q v H'
def CR(CX:Mz)(outer:List Env)(P:Program)(w:World)(H:Hp)(s:Shared)(Q:VK)(E:XK)(r:Result)(s':Shared):Prop :=
 match r with
 | .ok (.ret u)=>CE outer P w H s Q u s'
 | .ok _=>False
 | .error e=>CX outer H s E e s'
structure bZ(P:Program)(w:World)(K:PySem.W.Frag)(mg:Str->Option Value)(base:Heap)(CX:Mz)(k:Nat)(f:Addr)(fd:FuncData)(ps:List Str)(sp:Sp):Prop where
 len:∀vs H Q E,sp vs H Q E->vs.length=ps.length
 run:∀(A:Around) (outer:List Env) (s:Shared) (H:Hp) (args:Args) (us:List Value) (vs:List V) (Q:VK) (E:XK),cG k A->yz P w K mg base A outer s H->BindsTo s fd args (ps.zip us)->Vals vs us->sp vs H Q E ->
  codeAny (model P w) A (.call (.ref f) args) (CR CX outer P w H s Q E) s
def bZ.mono{P:Program}{w:World}{K:PySem.W.Frag}{mg:Str->Option Value}{base:Heap}{CX:Mz}{j k:Nat}{f:Addr}{fd:FuncData}{ps:List Str}{sp:Sp}(F:bZ P w K mg base CX j f fd ps sp)(h:j<=k) :
  bZ P w K mg base CX k f fd ps sp:=⟨F.len,λA outer s H args us vs Q E hr=>F.run A outer s H args us vs Q E (hr.mono h)⟩
def bZ.imp{P:Program}{w:World}{K:PySem.W.Frag}{mg:Str->Option Value}{base:Heap}{CX:Mz}{k:Nat}{f:Addr}{fd:FuncData}{ps:List Str}{sp sp':Sp}(F:bZ P w K mg base CX k f fd ps sp)
  (h:∀vs H Q E,sp' vs H Q E->sp vs H Q E):bZ P w K mg base CX k f fd ps sp' :=
 ⟨λvs H Q E q=>F.len vs H Q E (h _ _ _ _ q),λA outer s H args us vs Q E hr he hb hv hs=>F.run A outer s H args us vs Q E hr he hb hv (h _ _ _ _ hs)⟩
def yz.make{P:Program}{w:World}{K:PySem.W.Frag}{mg:Str->Option Value}{base:Heap}{A:Around}{outer:List Env}{s:Shared}{H:Hp}(e:yz P w K mg base A outer s H)(C:Addr)(us:List Value)(kw:List (Str×Value)) :
  yz P w K mg base (A.under (.builtin "type.__call__" ⟨.ref C::us,kw⟩)) outer s H:=⟨by first | exact e.frames | (simpa[Around.under,Code.envs,Code.isFrame,pushEnvs] using e.frames),e.mod,e.bs,e.Gy,e.oV,e.K8,e.bJ,e.bare⟩
section
variable  {X:Cx}{pins:List (Addr×Obj)}{σ:St}{H:Hp}{s s':Shared}
def Inv.Rt(I:Inv X pins σ H s):yz X.prog X.w X.K X.mg X.base X.A X.stack s H :=
 ⟨I.ok.frames,I.ok.mod,I.bs,kh I.ok.Gy I.sz,I.stack,I.Bx,I.bJ,I.bare⟩
def Inv.after(I:Inv X pins σ H s)(h:CE X.stack X.prog X.w H s Q u s'):EP X pins σ Q u s':=by
 obtain⟨v,H',os,bare,un,bJ,r,q⟩:=h;obtain⟨hh,g,d,t,ZF⟩:=s';obtain rfl:ZF=s.os:=os;exact⟨v,H',I.call (h':=hh) (g':=g) (d':=d) (t':=t) (ch:=[]) un bJ bare (λb z=>absurd z (by simp)),r,q⟩
end
noncomputable def Tc(sp:Sp)(lZ:List V)(E:XK)(t:TA):TE:=fun σ H Q=>t σ H λvs H1=>sp (vs++lZ) H1 Q E
noncomputable def aap(C:Addr)(m:Str)(sp:Sp)(lZ:List V)(E:XK)(ta:TE)(t:TA):TE:=fun σ H Q=>ta σ H λx H1=>∃a dx fs,x=.ref a/\H1 a=some (.ins C dx fs)/\fs.lookup m=none /\
 t σ H1 λvs H2=>sp (x::(vs++lZ)) H2 Q E
noncomputable def aaq(C:Addr)(sp:Sp)(lZ:List V)(E:XK)(t:TA):TE:=fun σ H Q=>t σ H λvs H1=>∀x dx,H1 x=none->H1 dx=none->dx≠x ->
 sp (.ref x::(vs++lZ)) (upd (upd H1 dx (.own x)) x (.ins C dx [])) (λv H2=>v=.non/\Q (.ref x) H2) E
def Binds(K:PySem.W.Frag)(fd:FuncData)(ps:List Str)(ds:List Value):Prop :=
 ∀(s:Shared) (us:List Value),K.In s.heap->(us++ds).length=ps.length->BindsTo s fd ⟨us,[]⟩ (ps.zip (us++ds))
def Binds.all{K:PySem.W.Frag}{fd:FuncData}{ps:List Str}(h:∀us:List Value,us.length=ps.length->bindArgs fd ⟨us,[]⟩=pure (ps.zip us)):Binds K fd ps []:=λs us _ hl=>by
 rw[gY]at hl ⊢;exact .of_eq (h us hl)
def Passes(CX:Mz)(X:Cx)(E:XK):Prop:=∀(pins:List (Addr×Obj)) (σ:St) (H:Hp) (s:Shared) (e:Value) (s':Shared),Inv X pins σ H s->CX X.stack H s E e s'->X.xe e s'
section
variable  {X:Cx}{CX:Mz}{k:Nat}{f C:Addr}{fd:FuncData}{ps:List Str}{sp:Sp}{lZ:List V}{ds:List Value}{E:XK}{x m:Str}{p pos apos:Pos}{e o:Expr}{es:List Expr}{ta:TE}{t:TA}
def Ab(F:bZ X.prog X.w X.K X.mg X.base CX k f fd ps sp)(hr:cG k X.A)(hb:Binds X.K fd ps ds)(hd:Vals lZ ds)(hx:Passes CX X E) 
  (I:Inv X pins σ H s) (r:Vals vs us) (h:sp (vs++lZ) H Q E):wpAny (model X.prog X.w) X.A (call (.ref f) us) (EP X pins σ Q) X.xe s:=by
 have r2:Vals (vs++lZ) (us++ds):=r.append hd;have hl:(us++ds).length=ps.length:=by rw[<-r2.length];exact F.len _ _ _ _ h
 refine wpAny_call (afF (F.run X.A X.stack s H ⟨us,[]⟩ (us++ds) (vs++lZ) Q E hr I.Rt (hb s us I.oJ hl) r2 h) λr s' hq=>?_);cases r with
 | error e=>exact hx pins σ H s e s' I hq
 | ok fl =>
  cases fl with
  | ret u=>exact I.after hq
  | next=>exact False.elim hq
  | brk=>exact False.elim hq
  | cont=>exact False.elim hq
def Qf(F:bZ X.prog X.w X.K X.mg X.base CX k f fd ps sp)(hr:cG k X.A)(hg:Gl X x)(hm:X.mg x=some (.ref f))(hk:PySem.W.keepIn X.K (.ref f)=true)(hb:Binds X.K fd ps ds)(hd:Vals lZ ds)(hx:Passes CX X E)
  (ha:PA X (e::es) t) (q9:(x==("__debug__":Str))=false:=by decide) (he:starEach (e::es) X.env=(false,eval e X.env)::starEach es X.env:=by rfl) (oR:(backTo pos (starEach es X.env)).any (·.1)=false:=by rfl) :
  PE X (.Call (.Name x p) (e::es) [] pos) (Tc sp lZ E t):=by
 intro pins s σ H Q I h;refine afg (Uw I hg hm ?_ q9);refine afo (h₀:=X.base) I.ok.mod.Wy hk (cC (ha pos pins s σ H _ I h) λus s1 zz=>?_) he oR;obtain⟨vs,H1,I1,r,q⟩:=zz;refine⟨I1.oJ,?_⟩;exact Ab F hr hb hd hx I1 r q
def Jd(F:bZ X.prog X.w X.K X.mg X.base CX k f fd ps sp)(hr:cG k X.A)(hg:Gl X x)(hm:X.mg x=some (.ref f))(hk:PySem.W.keepIn X.K (.ref f)=true)(hb:Binds X.K fd ps ds)(hd:Vals lZ ds)(hx:Passes CX X E)
  (q9:(x==("__debug__":Str))=false:=by decide):PE X (.Call (.Name x p) [] [] pos) (Tc sp lZ E aan):=by
 intro pins s σ H Q I h;refine afg (Uw I hg hm ?_ q9);exact PySem.W.callWith_K0 I.oJ hk (Ab (us:=[]) F hr hb hd hx I .nil h)
def PX{pl:Sem Bool}(he:PE X o ta)(c:Du X.K C)(hm:Meth X.K C m f)(F:bZ X.prog X.w X.K X.mg X.base CX k f fd ps sp)(hr:cG k X.A)(hb:Binds X.K fd ps ds)(hd:Vals lZ ds)(hx:Passes CX X E)(ha:PA X (e::es) t)
  (FJ:starEach (e::es) X.env=(false,eval e X.env)::starEach es X.env:=by rfl) (oR:(backTo pos (starEach es X.env)).any (·.1)=false:=by rfl)
  (ht:eval (.Call (.Attribute o m apos) (e::es) [] pos) X.env=(do
   let ov <-eval o X.env
   standAt apos.atName
   let (f,first) <-holding [ov] (getMethod ov m pl)
   callWith pos f first (backTo pos (starEach (e::es) X.env)) (backToKw pos (keywordEach [] X.env))):=by rfl) :
  PE X (.Call (.Attribute o m apos) (e::es) [] pos) (aap C m sp lZ E ta t):=by
 intro pins s σ H Q I h;refine PySem.W.methodCall_KW (pl:=pl) (cC (he pins s σ H _ I h) λu s1 zz=>?_) ht;obtain⟨x,H1,I1,rx,a,dx,fs,ex,ea,l,q⟩:=zz;subst ex;obtain rfl:u=Value.ref a:=rx;refine zsw I1 ea c hm l ?_;refine afo (first:=[.ref a]) (h₀:=X.base) I.ok.mod.Wy hm.kp (cC (ha pos pins s1 σ H1 _ I1 q) λus s2 zz=>?_) FJ oR;obtain⟨vs,H2,I2,r,q2⟩:=zz;refine⟨I2.oJ,?_⟩;exact Ab (us:=.ref a::us) (vs:=.ref a::vs) F hr hb hd hx I2 (.cons rfl r) q2
structure Mk(K:PySem.W.Frag)(C f:Addr):Prop where
 makes:PySem.W.makesIn K C=true
 init:PySem.W.findIn K (.ref C) "__init__" = some (some (.ref f))
 fn:PySem.W.isFn K (.ref f)=true
 kp:PySem.W.keepIn K (.ref C)=true
def HN(M:Mk X.K C f)(F:bZ X.prog X.w X.K X.mg X.base CX k f fd ps sp)(hr:cG (k+1) X.A)(hb:Binds X.K fd ps ds)(hd:Vals lZ ds) 
  (hx:Passes CX X E) (I:Inv X pins σ H s) (r:Vals vs us)
  (h:∀x dx,H x=none->H dx=none->dx≠x->sp (.ref x::(vs++lZ)) (upd (upd H dx (.own x)) x (.ins C dx [])) (λv H2=>v=.non/\Q (.ref x) H2) E) :
  wpAny (model X.prog X.w) X.A (call (.ref C) us) (EP X pins σ Q) X.xe s:=by
 have hq:=h (s.heap.objs.size+1) s.heap.objs.size (I.bJ.fresh (Nat.le_succ _)) (I.bJ.fresh (gb _)) (gR (nM _));have I2:=Inv.made (C:=C) I;have r2:Vals (V.ref (s.heap.objs.size+1)::(vs++lZ)) (Value.ref (s.heap.objs.size+1)::(us++ds)):=.cons rfl (r.append hd);have hl:(Value.ref (s.heap.objs.size+1)::us++ds).length=ps.length:=by
  have e:=r2.length;rw[F.len _ _ _ _ hq]at e;exact e.symm
 refine wpAny_call (JC (f:=f) I.oJ M.makes M.init (beq_iff_eq.mp M.fn) (afF (F.run _ X.stack _ _ ⟨Value.ref (s.heap.objs.size+1)::us,[]⟩ (Value.ref (s.heap.objs.size+1)::(us++ds)) _ _ E (hr.make C us [])
  (I2.Rt.make C us []) (hb _ (Value.ref (s.heap.objs.size+1)::us) I2.oJ hl) r2 hq) λr s' FN=>?_))
 cases r with
 | error e=>exact hx pins σ _ _ e s' I2 FN
 | ok fl =>
  cases fl with
  | ret u =>
   obtain⟨v,H',I3,rv,ev,q3⟩:=I2.after FN;subst ev;exact⟨rv,⟨V.ref (s.heap.objs.size+1),H',I3,rfl,q3⟩⟩
  | next=>exact False.elim FN
  | brk=>exact False.elim FN
  | cont=>exact False.elim FN
def P0(M:Mk X.K C f)(F:bZ X.prog X.w X.K X.mg X.base CX k f fd ps sp)(hr:cG (k+1) X.A)(hg:Gl X x)(hm:X.mg x=some (.ref C))(hb:Binds X.K fd ps ds)(hd:Vals lZ ds)(hx:Passes CX X E)
  (ha:PA X (e::es) t) (q9:(x==("__debug__":Str))=false:=by decide) (he:starEach (e::es) X.env=(false,eval e X.env)::starEach es X.env:=by rfl) (oR:(backTo pos (starEach es X.env)).any (·.1)=false:=by rfl) :
  PE X (.Call (.Name x p) (e::es) [] pos) (aaq C sp lZ E t):=by
 intro pins s σ H Q I h;refine afg (Uw I hg hm ?_ q9);refine afo (h₀:=X.base) I.ok.mod.Wy M.kp (cC (ha pos pins s σ H _ I h) λus s1 zz=>?_) he oR;obtain⟨vs,H1,I1,r,q⟩:=zz;refine⟨I1.oJ,?_⟩;exact HN M F hr hb hd hx I1 r q
end
section
variable  {X:Cx}{CX:Mz}{k:Nat}{f C:Addr}{fd:FuncData}{ps ks:List Str}{sp:Sp}{E:XK}{x m:Str}{p pos apos aeG:Pos}{e o:Expr}{es:List Expr}{kws:List Keyword}{te ta:TE}{t tk:TA}{nm:Option Str}
structure aeo(K:PySem.W.Frag)(fd:FuncData)(ps ks:List Str)(g:List Value->List Value->List Value)(gV:List V->List V->List V):Prop where
 to:∀(s:Shared) (us ws:List Value),K.In s.heap->(g us ws).length=ps.length->BindsTo s fd ⟨us,ks.zip ws⟩ (ps.zip (g us ws))
 rel:∀{vs:List V} {us:List Value} {zs:List V} {ws:List Value},Vals vs us->Vals zs ws->Vals (gV vs zs) (g us ws)
variable  {g:List Value->List Value->List Value}{gV:List V->List V->List V}
end
structure cJ(N P:List Str)(sc:Scope):Prop where
 kind:sc.kind=.function
 co:sc.isCoroutine=false
 gen:sc.isGenerator=false
 nd:N.Nodup
 pre:N.take P.length=P
 par:∀x∈P,sc.names.lookup x=some .local\/sc.names.lookup x=some .cell
 Wo:∀y∈sc.names,y.2≠.free
theorem zo0{kindOf:Str->Option NameKind}{x:Str}:∀{binds:List (Str×Value)} {m:Str->Option Value},(∀v,(x,v)∉binds)->bindL kindOf binds m x=m x
 | [],_,_=>rfl
 | (n,v)::r,m,h=>by
  unfold bindL;rw[zo0 λw hw=>h w (kI _ hw)]
  split
  ·have:x≠n:=by rintro rfl;exact h v pB
   simp[this]
  ·rfl
theorem zom{kindOf:Str->Option NameKind}{x:Str}:∀{binds:List (Str×Value)} {m:Str->Option Value},(∀v,(x,v)∉binds)->bindC kindOf binds m x=m x
 | [],_,_=>rfl
 | (n,v)::r,m,h=>by
  unfold bindC;rw[zom λw hw=>h w (kI _ hw)]
  split
  ·rfl
  ·have:x≠n:=by rintro rfl;exact h v pB
   simp[this]
theorem zo3{kindOf:Str->Option NameKind}{x:Str}{v:Value}:∀{P:List Str} {vs:List Value} {i:Nat} {m:Str->Option Value},P.Nodup->P[i]? = some x->vs[i]? = some v->kindOf x=some .local ->
  bindL kindOf (P.zip vs) m x=some v
 | [],_,_,_,_,h,_,_=>by simp at h
 | _::_,[],_,_,_,_,h,_=>by simp at h
 | p::P,w::vs,0,m,nd,h1,h2,hk=>by
  simp at h1 h2;subst h1;subst h2;show bindL kindOf ((p,w)::P.zip vs) m p=_;unfold bindL;rw[zo0 λv hv=>(mK.mp nd).1 (nj hv).1,ae1 hk];simp
 | p::P,w::vs,i+1,m,nd,h1,h2,hk=>by
  show bindL kindOf ((p,w)::P.zip vs) m x=_;unfold bindL;exact zo3 (i:=i) (mK.mp nd).2 (by simpa using h1) (by simpa using h2) hk
theorem zpt{kindOf:Str->Option NameKind}{x:Str}{v:Value}:∀{P:List Str} {vs:List Value} {i:Nat} {m:Str->Option Value},P.Nodup->P[i]? = some x->vs[i]? = some v->kindOf x≠some .local ->
  bindC kindOf (P.zip vs) m x=some v
 | [],_,_,_,_,h,_,_=>by simp at h
 | _::_,[],_,_,_,_,h,_=>by simp at h
 | p::P,w::vs,0,m,nd,h1,h2,hk=>by
  simp at h1 h2;subst h1;subst h2;show bindC kindOf ((p,w)::P.zip vs) m p=_;unfold bindC;rw[zom λv hv=>(mK.mp nd).1 (nj hv).1,ae2 hk];simp
 | p::P,w::vs,i+1,m,nd,h1,h2,hk=>by
  show bindC kindOf ((p,w)::P.zip vs) m x=_;unfold bindC;exact zpt (i:=i) (mK.mp nd).2 (by simpa using h1) (by simpa using h2) hk
noncomputable def start(N:List Str)(vs:List V):St:=vs.map some++List.replicate (N.length - vs.length) none
noncomputable def vX(CX:Mz)(P:Program)(w:World)(K:PySem.W.Frag)(mg:Str->Option Value)(base:Heap)(N:List Str)(qual:Str)(scope:Scope)(f:Addr)(cd:Value)(A:Around)(outer:List Env)(s:Shared)(H:Hp)(E:XK):Cx where
 prog:=P
 w:=w
 K:=K
 mg:=mg
 base:=base
 A:=A.deeper (envOfC qual scope s.heap.objs.size f cd)
 N:=N
 aeR:=s
 aeZ:=H
 env:=envOfC qual scope s.heap.objs.size f cd
 outer:=outer
 stack:=envOfC qual scope s.heap.objs.size f cd::outer
 ex:=[]
 calm:=true
 fn:=λ_=>true
 pn:=[]
 xe:=λe s'=>wpAny (model P w) (A.deeper (envOfC qual scope s.heap.objs.size f cd)) (leaving (envOfC qual scope s.heap.objs.size f cd) e) (λ_ s''=>CX outer H s E e s'') (λe' s''=>CX outer H s E e' s'') s'
def zro{sc:Scope}{n:Nat}{x:Str}(h:sc.names.lookup x=some .cell):∃c,(cellsFrom n sc.names []).lookup x=some c:=by
 have q:=PySem.W.cellsFrom_some sc.names n [] (.inl h);exact Option.isSome_iff_exists.mp q
def Fx{CX:Mz}{P:Program}{w:World}{K:PySem.W.Frag}{mg:Str->Option Value}{base:Heap}{N ps:List Str}{qual:Str}{scope:Scope}{f:Addr}{cd:Value}{A:Around}{outer:List Env}{s s1:Shared}{H:Hp}{E:XK}{us:List Value}{vs:List V}
  (S:cJ N ps scope) (hd:A.handled=none) (e0:yz P w K mg base A outer s H) (hl:vs.length=ps.length) (r:Vals vs us)
  (x:InCallC s s.heap.objs.size (bindL (envOfC qual scope s.heap.objs.size f cd).kindOf (ps.zip us) λ_=>none) (cellsFrom (s.heap.objs.size+1) scope.names []) (bindC (envOfC qual scope s.heap.objs.size f cd).kindOf (ps.zip us) λ_=>none) s1) :
  Inv (vX CX P w K mg base N qual scope f cd A outer s H E) [] (start N vs) H s1:=by
 have oR:ps.length<=N.length:=by have:=congrArg List.length S.pre;rw[km]at this;omega
 obtain⟨h1,tk,rfl,hk⟩:=x.done;have Qt:∀b:Addr,b∉(vX CX P w K mg base N qual scope f cd A outer s H E).ex:=λb z=>absurd (show b∈([]:List Addr) from z) (by simp);refine⟨⟨e0.mod,S.kind,rfl,rfl,gb _,λy z c h1 h2=>?_,λy hy=>?_,λy c _ h=>?_,λ_=>hd,Around.frames_deeper e0.frames,.inr ⟨rfl,rfl⟩,λb z=>absurd z (Qt b),e0.bs,e0.Gy,λb _ _=>Qt b,λb z=>absurd z (Qt b),e0.oV,e0.K8⟩,
  rfl,e0.bare,Un.kept hk,⟨_,x.toInCall.ns,λi y v h1 h2 h3=>?_⟩,λy c h=>⟨_,x.cell y c h⟩,e0.bJ.fresh (gb _),λy c h=>?_,λp hp=>absurd (show p∈([]:List (Addr×Obj)) from hp) (by simp),e0.bJ.kept hk,?_⟩
 ·exact name_of_addr x.apart (ae7 h1) (ae7 h2)
 ·have hy:scope.names.lookup y=some .cell\/scope.names.lookup y=some .free:=hy;rcases hy with hy | hy
  ·exact zro hy
  ·exact absurd rfl (S.Wo _ (ae7 hy))
 ·exact Nat.le_of_lt (x.above y c (ae7 h))
 ·have hi:i<vs.length:=by
   unfold start at h2;by_cases hi:i<vs.length
   ·exact hi
   ·rw[g_ (by simpa using hi)]at h2;rw[List.getElem?_replicate]at h2
    split at h2<;>cases h2
  have ha:vs[i]? = some v:=by
   unfold start at h2;rw[gF (by simpa using hi),gM]at h2;cases e:vs[i]? with
   | none=>rw[e]at h2;cases h2
   | some a=>rw[e]at h2;cases h2;rfl
  obtain⟨u,hu,rv⟩:=r.get ha;have hp:ps[i]? = some y:=by
   rw[<-S.pre,List.getElem?_take_of_lt (by omega)];exact h1
  have ndP:ps.Nodup:=by rw[<-S.pre];exact S.nd.sublist (List.take_sublist _ _)
  refine⟨u,rv,?_⟩;rcases S.par y (gW hp) with k | k
  ·exact .inl ⟨k,zo3 ndP hp hu k⟩
  ·obtain⟨c,e⟩:=zro (n:=s.heap.objs.size+1) k;refine .inr ⟨.inl k,c,e,?_⟩;have q:=x.cell y c e;rw[zpt ndP hp hu (by show scope.names.lookup y≠_;rw[k];decide)]at q;exact q
 ·exact e0.bJ.fresh (Nat.le_of_lt (x.above y c (ae7 h)))
 ·unfold start;show _=N.length;rw[gG,gh,List.length_replicate];omega
def La{CX:Mz}{P:Program}{w:World}{K:PySem.W.Frag}{mg:Str->Option Value}{base:Heap}{k:Nat}{f:Addr}{name qual:Str}{params:Arguments}{body:List Stmt}{scope:Scope}{dV kV doc pm cdv ct oc:Value}{an od:Option Addr}
  {tH:Array (Option Value)} {N ps:List Str} {sp:Sp} (lk:K.lookup f=some ⟨oc,od,.func (PySem.W.fnOf name qual params body scope dV kV doc pm an cdv ct),tH⟩) (yh:PySem.W.codeIn K cdv qual=true) (S:cJ N ps scope)
  (len:∀vs H Q E,sp vs H Q E->vs.length=ps.length)
  (lU:∀(A:Around) (outer:List Env) (s:Shared) (H:Hp) (vs:List V) (Q:VK) (E:XK),cG k (A.deeper (envOfC qual scope s.heap.objs.size f cdv))->sp vs H Q E ->
   ∃t,zK (vX CX P w K mg base N qual scope f cdv A outer s H E) body t/\t { nx:=λ_ H'=>Q .non H',rt:=Q } (start N vs) H) :
  bZ P w K mg base CX (k+1) f (PySem.W.fnOf name qual params body scope dV kV doc pm an cdv ct) ps sp:=by
 refine⟨len,λA outer s H args us vs Q E hr e0 hb r Z4=>?_⟩;have hl:=len _ _ _ _ Z4;have KX:K.In s.heap:=e0.mod.Wy.keeps λb o e=>(e0.bs b o e).1;have lim:s.heap.NoLimit:=e0.mod.nolimit.keeps λb o e=>(e0.bs b o e).1;have aby:∀y∈ps.zip us,scope.names.lookup y.1=some .local\/(scope.names.lookup y.1=some .cell/\((cellsFrom (s.heap.objs.size+1) scope.names []).lookup y.1).isSome=true):=λ⟨n,v⟩ hy=>by
  rcases S.par n (nj hy).1 with q | q
  ·exact .inl q
  ·exact .inr ⟨q,PySem.W.cellsFrom_some _ _ _ (.inl q)⟩
 refine codeAny_call_function hr.depth (KX _ _ lk) rfl S.co S.gen rfl (PySem.W.codeRec_of KX yh) (hb _ _ _ _ ?_);refine wpAny_newFunctionEnv_cells S.kind aby λenv he s1 x=>?_;subst he;refine⟨lim.keeps x.toInCall.keep,codeAny_func ?_⟩;obtain⟨t,ht,hq⟩:=lU A outer s H vs Q E (hr.deeper _) Z4;have I:Inv (vX CX P w K mg base N qual scope f cdv A outer s H E) [] (start N vs) H s1:=Fx S hr.hd e0 hl r x;refine afe (ht [] s1 (start N vs) H _ I hq) (λfl s' hs=>?_) λe s' hs=>hs;have fin:∀{σ':St} {H':Hp} {v:V} {u:Value},Inv (vX CX P w K mg base N qual scope f cdv A outer s H E) [] σ' H' s'->RelV v u->Q v H'->CE outer P w H s Q u s' :=
  λ{σ' H' v u} J rv q=>⟨v,H',J.os,J.bare,J.base,J.bJ,rv,q⟩
 cases fl with
 | ret u =>
  obtain⟨v,σ',H',J,rv,q⟩:=hs;exact fin J rv q
 | next =>
  obtain⟨σ',H',J,q⟩:=hs;exact fin (v:=V.non) (u:=Value.none) J rfl q
 | brk =>
  obtain⟨_,_,_,q⟩:=hs;exact False.elim q
 | cont =>
  obtain⟨_,_,_,q⟩:=hs;exact False.elim q
section
variable  {X:Cx}{x:Str}{p pos:Pos}{e:Expr}{es:List Expr}{t:TA}{id T:String}{r:List V->Hp->VK->Prop}
noncomputable def tCB(r:List V->Hp->VK->Prop)(t:TA):TE:=fun σ H Q=>t σ H λvs H1=>r vs H1 Q
def zts(hc:cz X (.builtin id) r)(hg:Gl X x)(hm:X.mg x=none)(hv:bootBuiltins x=some (.builtin id))(ha:PA X (e::es) t)(hn:x ≠ "__name__":=by decide)(q9:(x==("__debug__":Str))=false:=by decide)
  (he:starEach (e::es) X.env=(false,eval e X.env)::starEach es X.env:=by rfl) (oR:(backTo pos (starEach es X.env)).any (·.1)=false:=by rfl):PE X (.Call (.Name x p) (e::es) [] pos) (tCB r t):=by
 intro pins s σ H Q I h;refine afg (Nt I hg hm hv ?_ hn q9);refine PyProof.Rows.callWith_builtin1 (cC (ha pos pins s σ H _ I h) λus s1 zz=>?_) he oR;obtain⟨vs,H1,I1,r1,q1⟩:=zz;exact hc pins s1 σ H1 vs us Q I1 r1 q1
def EY(hc:cz X (.type T) r)(hg:Gl X x)(hm:X.mg x=none)(hv:bootBuiltins x=some (.type T))(ha:PA X (e::es) t)(hn:x ≠ "__name__":=by decide)(q9:(x==("__debug__":Str))=false:=by decide)
  (he:starEach (e::es) X.env=(false,eval e X.env)::starEach es X.env:=by rfl) (oR:(backTo pos (starEach es X.env)).any (·.1)=false:=by rfl):PE X (.Call (.Name x p) (e::es) [] pos) (tCB r t):=by
 intro pins s σ H Q I h;refine afg (Nt I hg hm hv ?_ hn q9);refine ae9 (cC (ha pos pins s σ H _ I h) λus s1 zz=>?_) he oR;obtain⟨vs,H1,I1,r1,q1⟩:=zz;exact hc pins s1 σ H1 vs us Q I1 r1 q1
end
end L2
namespace HT
open PySem PyProof.Rows
section
open PySem.SeqAt
open PySem.AutoSeq1 (wpAny_loadPart')
open PySem.MeetsSeq PySem.MeetsSeq2 PySem.MeetsSeq3
end
section
variable  {prog:Program}{w:World}{A:Around}{E:Value->Shared->Prop}{s:Shared}
def R0(ht:IsTup s.heap t vs.toArray)(hb:IsTup s.heap b ws.toArray)(hv:vs≠[]) 
  (h1:ws=[]->Q (.ref t) s) (h2:ws≠[]->Q (.ref s.heap.objs.size) { s with heap:=s.heap.push { cls:=.type "tuple",data:=.seq (vs++ws).toArray } })
  (hsz:vs.length+ws.length<=sizeLine):wpAny (model prog w) A (binaryOp .Add (.ref t) (.ref b)) Q E s:=by
 obtain⟨⟨cls,dd,data,sl⟩,ho,hc,n,hd⟩:=id ht;obtain⟨⟨aej,dd2,data2,sl2⟩,KN,Rk,n2,hd2⟩:=id hb;simp only at hc hd Rk hd2;subst hc hd Rk hd2;have e:vs.toArray++ws.toArray=(vs++ws).toArray:=by simp
 by_cases hw:ws=[]
 ·exact concat_meets ⟨_,ho,rfl⟩ ⟨_,KN,rfl⟩ noFill_tuple_add seq_tuple_add afI afE (afC _ _)
   (tuple_addW1 t b vs.toArray ws.toArray n n2 dd dd2 sl sl2 (by simpa using hv) (by simp[hw])) ⟨ho,KN,h1 hw⟩
 ·refine concat_meets ⟨_,ho,rfl⟩ ⟨_,KN,rfl⟩ noFill_tuple_add seq_tuple_add afI afE (afC _ _)
   (tuple_addW2 t b vs.toArray ws.toArray n n2 dd dd2 sl sl2 (by simpa using hv) (by simpa using hw) (by rw[gC,gC];exact hsz)) ⟨ho,KN,?_⟩
  rw[e];exact h2 hw
noncomputable def cT(n d:Nat):Option Int->Nat
 | none=>d
 | some v=>if v<0 then (v+(n:Int)).toNat else min v.toNat n
def zqw(n d:Nat):cT n d none=d:=rfl
def BL(n d k:Nat):cT n d (some (k:Int))=min k n:=by
 show (if (k:Int)<0 then ((k:Int)+(n:Int)).toNat else min (k:Int).toNat n)=min k n;rw[ae2 (by omega),mW]
def HJ(n d:Nat)(hd:d<=n)(o:Option Int):cT n d o<=n:=by
 cases o with
 | none=>exact hd
 | some v =>
  show (if v<0 then (v+(n:Int)).toNat else min v.toNat n)<=n;by_cases hv:v<0
  ·rw[ae1 hv];omega
  ·rw[ae2 hv];exact Nat.min_le_right _ _
def Di(v:Int)(n d:Nat):(if v<0 then max (v+(n:Int)) 0 else min v (n:Int))=((cT n d (some v):Nat):Int):=by
 show (if v<0 then max (v+(n:Int)) 0 else min v (n:Int))=(((if v<0 then (v+(n:Int)).toNat else min v.toNat n):Nat):Int);by_cases hv:v<0
 ·simp only[ae1 hv];omega
 ·simp only[ae2 hv];omega
def zs4(lo hi:Option Int)(n:Nat):Builtin.Slice.sliceAdjust lo hi 1 (n:Int)=(((cT n 0 lo:Nat):Int),((cT n n hi:Nat):Int)):=by
 have h1:¬ ((1:Int)<0):=by omega
 unfold Builtin.Slice.sliceAdjust;simp only[h1,if_false];refine Prod.ext ?_ ?_
 ·cases lo with
  | none=>rfl
  | some v=>exact Di v n 0
 ·cases hi with
  | none=>rfl
  | some v=>exact Di v n n
def ztp(i j:Nat):Builtin.Slice.slicePlaces (i:Int) (j:Int) 1=j - i:=by
 unfold Builtin.Slice.slicePlaces;have h1:(1:Int) > 0:=by omega
 simp only[h1,if_true,Int.ediv_one]
 split<;>omega
def zmt(p:IsPart v o)(h:Q o s):wpAny (model prog w) A (Builtin.Slice.slicePartIndex v) Q E s:=by
 cases p with
 | none=>exact slicePart_none h
 | int i t=>exact slicePart_int h
def zeo{sl:Addr}{vl vu:Value}{lo hi:Option Int}{n:Nat}{Q:Int×Int×Nat->Shared->Prop}(hs:s.heap.IsSliceOf sl vl vu .none)(pl:IsPart vl lo)(pu:IsPart vu hi)
  (h:Q (((cT n 0 lo:Nat):Int),1,cT n n hi - cT n 0 lo) s):wpAny (model prog w) A (Builtin.Slice.sliceApplied (.ref sl) (pure (n:Int))) Q E s:=by
 obtain⟨os,XF,hcs,T8⟩:=id hs;unfold Builtin.Slice.sliceApplied Builtin.Slice.sliceFields;refine ae0 (ae0 (afw XF T8 (x:=vl) rfl (ae0 (afw XF T8 (x:=vu) rfl (ae0 (afw XF T8 (x:=.none) rfl (ae3 ?_)))))));refine ae0 (slicePart_none ?_);show wpAny _ _ (if ((1:Int)==0)=true then _ else _) _ _ s;rw[ae2 (by decide)];refine ae0 (zmt pl (ae0 (zmt pu (ae0 (ae3 ?_)))));show wpAny _ _ (match Builtin.Slice.sliceAdjust lo hi 1 (n:Int) with | (lo,hi)=>pure (lo,(1:Int),Builtin.Slice.slicePlaces lo hi 1)) _ _ s;rw[zs4 lo hi n];show wpAny _ _ (pure (((cT n 0 lo:Nat):Int),(1:Int),Builtin.Slice.slicePlaces ((cT n 0 lo:Nat):Int) ((cT n n hi:Nat):Int) 1)) _ _ s;rw[ztp];exact ae3 h
def Iv(xs:Array Value)(i k:Nat):((List.range k).filterMap λ(m:Nat)=>xs[((i:Int)+(m:Int)*1).toNat]?).toArray=((xs.toList.drop i).take k).toArray:=by
 have e:(λ(m:Nat)=>xs[((i:Int)+(m:Int)*1).toNat]?)=λm=>xs[i+m]?:=by
  funext m;have:((i:Int)+(m:Int)*1).toNat=i+m:=by omega
  rw[this]
 rw[e];have:=pick_run xs i k;rw[List.filterMap_map]at this;have e2:((λx=>xs[x]?)∘λx=>i+x)=λm=>xs[i+m]?:=rfl;rw[e2]at this;rw[this]
def zhd{t sl:Addr}{items:Array Value}{vl vu:Value}{lo hi:Option Int}{Q:Value->Shared->Prop}(ht:IsTup s.heap t items)(hs:s.heap.IsSliceOf sl vl vu .none)(pl:IsPart vl lo)(pu:IsPart vu hi)
  (hw:¬ (cT items.size 0 lo=0/\cT items.size items.size hi=items.size))
  (h:Q (.ref s.heap.objs.size) { s with heap:=s.heap.push { cls:=.type "tuple",data:=.seq ((items.toList.drop (cT items.size 0 lo)).take (cT items.size items.size hi - cT items.size 0 lo)).toArray } })
  (hsz:items.size<=sizeLine):wpAny (model prog w) A (getItem (.ref t) (.ref sl)) Q E s:=by
 have CQ:sizeOk (.seq ((items.toList.drop (cT items.size 0 lo)).take (cT items.size items.size hi - cT items.size 0 lo)).toArray):=by
  show ((items.toList.drop (cT items.size 0 lo)).take (cT items.size items.size hi - cT items.size 0 lo)).toArray.size<=sizeLine;rw[gC,km,mL,nJ];omega
 have hj:cT items.size items.size hi<=items.size:=HJ _ _ (gb _) hi;obtain⟨os,XF,hcs,T8⟩:=id hs;have hTs:s.TypeIs (.ref sl) "slice":=⟨os,XF,hcs⟩;unfold getItem
 try with_reducible refine aft ?_
 first | refine ae0 (ae3 ?_) | skip
 refine ae0 (wpAny_sequenceKey ht.typeIs (by decide) ?_);refine ae0 (afk (name:=Str.ofString "__getitem__") ht.typeIs afh
  (afy afh ht.typeIs entry_tuple_getitem ?_ (args_tuple_getitem _ _)))
 show wpAny _ _ (Builtin.Tuple.tupleItemsOf (.ref t) >>= _) _ _ s;refine ae0 (tupleItemsOf_ ht ?_);refine ae0 (wpAny_typeOf hTs ?_);rw[ae1 (by decide)];refine ae0 (zeo hs pl pu ?_);have Z7:¬ ((((cT items.size 0 lo:Nat):Int)==0 && (1:Int)==1 && (cT items.size items.size hi - cT items.size 0 lo)==items.size)=true):=by
  intro q;rw[gB,gB]at q;have q1:((cT items.size 0 lo:Nat):Int)=0:=eq_of_beq q.1.1;have q2:cT items.size items.size hi - cT items.size 0 lo=items.size:=eq_of_beq q.2;exact hw ⟨by omega,by omega⟩
 show wpAny _ _ (if (((cT items.size 0 lo:Nat):Int)==0 && (1:Int)==1 && (cT items.size items.size hi - cT items.size 0 lo)==items.size)=true then _ else _) _ _ s;rw[ae2 Z7,Iv]
 first
  | exact ae0 (m:=Builtin.Tuple.tupleExact _) (afi (ae3 ⟨_,rfl,ae3 h⟩) CQ)
  | exact ae0 (m:=Builtin.Tuple.tupleExact _) (afi (ae0 (ae3 (ae3 ⟨_,rfl,ae3 h⟩))) CQ)
  | exact ae0 (ae0 (m:=Builtin.Tuple.tupleExact _) (afi (ae3 (ae3 ⟨_,rfl,ae3 h⟩)) CQ))
  | exact ae0 (ae0 (m:=Builtin.Tuple.tupleExact _) (afi (ae3 ⟨_,rfl,ae3 h⟩) CQ))
end
end HT
namespace L2
open PySem PySem.Spec PyProof.Rows
noncomputable abbrev TO:=St->Hp->(Option Int->Hp->Prop)->Prop
def PO(X:Cx)(e:Option Expr)(t:TO):Prop :=
 ∀(pins:List (Addr×Obj)) (s:Shared) (σ:St) (H:Hp) (Q:Option Int->Hp->Prop),Inv X pins σ H s->t σ H Q ->
  wpAny (model X.prog X.w) X.A (evalPart e X.env) (λu s'=>∃o H',Inv X pins σ H' s'/\IsPart u o/\Q o H') X.xe s
noncomputable def Og:TO:=λ_ H Q=>Q none H
noncomputable def aal(t:TE):TO:=fun σ H Q=>t σ H λx H1=>∃i,x=.int i/\Q (some i) H1
section
variable  {X:Cx}{e:Expr}{te:TE}{lo hi:Option Expr}{tl th:TO}{pos p2:Pos}
def Pr:PO X none Og:=by
 intro pins s σ H Q I h;rw[evalPart_none];exact ae3 ⟨none,H,I,.none,h⟩
def Pq(h:PE X e te):PO X (some e) (aal te):=by
 intro pins s σ H Q I hw;rw[evalPart_some];refine cC (h pins s σ H _ I hw) λu s1 zz=>?_;obtain⟨x,H1,I1,r1,q1⟩:=zz;obtain⟨i,rfl,q⟩:=q1;obtain⟨t,rfl⟩:=r1;exact⟨some i,H1,I1,.int i t,q⟩
def zG(X:Cx)(r:V->Option Int->Option Int->Hp->VK->Prop):Prop :=
 ∀(pins:List (Addr×Obj)) (s:Shared) (σ:St) (H:Hp) (x:V) (v vl vu:Value) (lo hi:Option Int) (sl:Addr) (Q:VK),Inv X pins σ H s->RelV x v->s.heap.IsSliceOf sl vl vu .none->IsPart vl lo->IsPart vu hi->r x lo hi H Q ->
  ∃T id,typeLookup (.type T) "__getitem__" = pure (some (.builtin id))/\s.TypeIs v T/\wpAny (model X.prog X.w) X.A (getItem v (.ref sl)) (EP X pins σ Q) X.xe s
def zG.or{r r':V->Option Int->Option Int->Hp->VK->Prop}(h:zG X r)(h':zG X r'):zG X (λx lo hi H Q=>r x lo hi H Q\/r' x lo hi H Q):=by
 intro pins s σ H x v vl vu lo hi sl Q I rx hs pl pu q;rcases q with q | q
 ·exact h pins s σ H x v vl vu lo hi sl Q I rx hs pl pu q
 ·exact h' pins s σ H x v vl vu lo hi sl Q I rx hs pl pu q
noncomputable def tSl(r:V->Option Int->Option Int->Hp->VK->Prop)(te:TE)(tl th:TO):TE:=fun σ H Q=>te σ H λx H1=>tl σ H1 λl H2=>th σ H2 λu H3=>r x l u H3 Q
def I_{r:V->Option Int->Option Int->Hp->VK->Prop}(hr:zG X r)(he:PE X e te)(hl:PO X lo tl)(hu:PO X hi th):PE X (.Subscript e (.Slice lo hi none p2) pos) (tSl r te tl th):=by
 intro pins s σ H Q I h;refine Subscript_ (cC (he pins s σ H _ I h) λv s1 zz=>?_);obtain⟨x,H1,I1,r1,q1⟩:=zz;refine wpAny_Slice (cC (hl pins s1 σ H1 _ I1 q1) λvl s2 zz=>?_);obtain⟨l,H2,I2,pl,q2⟩:=zz;refine cC (hu pins s2 σ H2 _ I2 q2) λvu s3 zz=>?_;obtain⟨u,H3,I3,pu,q3⟩:=zz;rw[evalPart_none];refine ae3 ?_;have I4:Inv X pins σ H3 { s3 with heap:=s3.heap.push { cls:=.type "slice",data:=.fields #[vl,vu,.none] } }:=I3.kept (t':=s3.toks) λb ob q=>g8 _ q;obtain⟨T,id,hT,ht,hg⟩:=hr pins { s3 with heap:=s3.heap.push { cls:=.type "slice",data:=.fields #[vl,vu,.none] } } σ H3 x v vl vu l u s3.heap.objs.size Q I4 r1 (Heap.IsSliceOf.new ..) pl pu q3;show wpAny (model X.prog X.w) X.A (subscriptTail e (.Slice lo hi none p2) v (.ref s3.heap.objs.size)) (EP X pins σ Q) X.xe { s3 with heap:=s3.heap.push { cls:=.type "slice",data:=.fields #[vl,vu,.none] } };exact tail_any (ops:=[.ref s3.heap.objs.size,v]) ht hT hg (by with_unfolding_all rfl)
noncomputable def zB(xs:List V)(lo hi:Option Int):List V:=(xs.drop (HT.cT xs.length 0 lo)).take (HT.cT xs.length xs.length hi - HT.cT xs.length 0 lo)
def zjf(xs:List V)(lo hi:Option Int):(zB xs lo hi).length<=xs.length:=by
 unfold zB;rw[km,mL];omega
def adi(K:PySem.W.Frag):V->Option Int->Option Int->Hp->VK->Prop:=λx lo hi H Q=>∃a xs,x=.ref a/\oK K H a xs /\
 ¬ (HT.cT xs.length 0 lo=0/\HT.cT xs.length xs.length hi=xs.length)/\∀p,H p=none->Q (.ref p) (upd H p (.tup (zB xs lo hi)))
def Vq:zG X (adi X.K):=by
 intro pins s σ H x v vl vu lo hi sl Q I rx hs pl pu h;obtain⟨a,xs,rfl,hx,hw,q⟩:=h;cases rx;obtain⟨its,r,ht,hz⟩:=I.tuple hx;have hlen:its.toArray.size=xs.length:=by rw[gC];exact r.length.symm
 refine⟨"tuple",_,PyProof.Rows.slot_tuple_getitem.lookup,ht.typeIs,?_⟩;refine HT.zhd ht hs pl pu (by rw[hlen];exact hw) ?_ (by rw[hlen];exact hz);rw[hlen];refine⟨.ref s.heap.objs.size,_,I.laid (t':=s.toks) (o:=.tup (zB xs lo hi)) (λb ob q=>g8 _ q) (gb _) ?_,rfl,q _ (I.bJ.fresh (gb _))⟩;exact⟨kh (zjf xs lo hi) hz,_,(r.drop (HT.cT xs.length 0 lo)).take (HT.cT xs.length xs.length hi - HT.cT xs.length 0 lo),IsTup.new _ _⟩
noncomputable def aaP(K:PySem.W.Frag):R2:=λx y H Q=>∃a b xs ys,x=.ref a/\y=.ref b/\oK K H a xs/\oK K H b ys/\xs≠[]/\xs.length+ys.length<=sizeLine /\
 (ys=[]->Q (.ref a) H)/\(ys≠[]->∀p,H p=none->Q (.ref p) (upd H p (.tup (xs++ys))))
def Vals.xW(r:Vals xs us):us=[]↔xs=[]:=by
 cases r with
 | nil=>simp
 | cons _ _=>simp
def Qm:d9 X (binaryOp .Add) (aaP X.K):=by
 intro pins s σ H x y v u Q I rx ry h;obtain⟨a,b,xs,ys,rfl,rfl,ha,hb,hx,hz,q1,q2⟩:=h;cases rx;cases ry;obtain⟨its,r1,p1,_⟩:=I.tuple ha;obtain⟨qY,r2,p2,_⟩:=I.tuple hb;refine HT.R0 p1 p2 (λz=>hx (r1.xW.mp z)) (λz=>⟨.ref a,H,I,rfl,q1 (r2.xW.mp z)⟩) (λz=>?_) (by rw[<-r1.length,<-r2.length];exact hz);refine⟨.ref s.heap.objs.size,_,I.laid (t':=s.toks) (o:=.tup (xs++ys)) (λb ob q=>g8 _ q) (gb _) ?_,rfl,q2 (λw=>z (r2.xW.mpr w)) _ (I.bJ.fresh (gb _))⟩;exact⟨by rw[gG];exact hz,_,r1.append r2,IsTup.new _ _⟩
end
noncomputable def Kr(n:Nat)(i:Int):Option Nat:=if 0<=i then (if i<n then some i.toNat else none) else if -(n:Int)<=i then some (i+n).toNat else none
noncomputable def rQ{α:Type}(xs:List α)(i:Int):Option α:=(Kr xs.length i).bind λj=>xs[j]?
def QV(h:Kr n i=some j):seqIndex? i n=some j/\j<n/\-(n:Int)<=i/\i<n:=by
 unfold Kr at h;by_cases h0:0<=i
 ·rw[ae1 h0]at h;by_cases h1:i<n
  ·rw[ae1 h1]at h;have e:i.toNat=j:=ae5 h;exact⟨by rw[seqIndex_of h0 h1,e],by omega,by omega,h1⟩
  ·rw[ae2 h1]at h;cases h
 ·rw[ae2 h0]at h;by_cases h1:-(n:Int)<=i
  ·rw[ae1 h1]at h;have e:(i+n).toNat=j:=ae5 h;exact⟨by rw[seqIndex_neg (by omega) h1,e],by omega,h1,by omega⟩
  ·rw[ae2 h1]at h;cases h
def ztr{α:Type}{xs:List α}{i:Int}{v:α}(h:rQ xs i=some v):∃j,seqIndex? i xs.length=some j/\xs[j]? = some v/\j<xs.length/\-(xs.length:Int)<=i/\i<xs.length:=by
 unfold rQ at h;cases e:Kr xs.length i with
 | none=>rw[e]at h;cases h
 | some j =>
  rw[e]at h;obtain⟨h1,h2,h3,h4⟩:=QV e;exact⟨j,h1,h,h2,h3,h4⟩
def R4{α:Type}{xs:List α}{j:Nat}{v:α}(h:xs[j]? = some v):rQ xs (j:Int)=some v:=by
 have hj:j<xs.length:=(gf.mp h).1;have e:Kr xs.length (j:Int)=some j:=by
  unfold Kr;rw[ae1 (by omega),ae1 (by omega)];simp
 unfold rQ;rw[e];exact h
def Dp(b:Expr):Prop:=∀o i,subscripted b false o i=operate [o,i] (getItem o i)
def Dr(X:Cx)(r:R2):Prop :=
 ∀(value slice:Expr) (pins:List (Addr×Obj)) (s:Shared) (σ:St) (H:Hp) (x y:V) (v u:Value) (Q:VK),Inv X pins σ H s->RelV x v->RelV y u->r x y H Q ->
  subscripted slice false v u=operate [v,u] (getItem v u)->wpAny (model X.prog X.w) X.A (subscriptTail value slice v u) (EP X pins σ Q) X.xe s
def rY(X:Cx)(id:String)(r:V->List V->Hp->VK->Prop):Prop :=
 ∀(pins:List (Addr×Obj)) (s:Shared) (σ:St) (H:Hp) (x:V) (xs:List V) (v:Value) (us:List Value) (Q:VK),Inv X pins σ H s->RelV x v->Vals xs us->r x xs H Q ->
  wpAny (model X.prog X.w) X.A (call (.builtin id) (v::us)) (EP X pins σ Q) X.xe s
section
variable  {X:Cx}{a b:Expr}{ta tb:TE}{pos:Pos}
def Dr.or{r r':R2}(h:Dr X r)(h':Dr X r'):Dr X (λx y H Q=>r x y H Q\/r' x y H Q):=by
 intro value slice pins s σ H x y v u Q I rx ry q hs;rcases q with q | q
 ·exact h value slice pins s σ H x y v u Q I rx ry q hs
 ·exact h' value slice pins s σ H x y v u Q I rx ry q hs
def aaZ(hr:Dr X r)(ha:PE X a ta)(hb:PE X b tb)(hs:Dp b):PE X (.Subscript a b pos) (tOp r ta tb):=by
 intro pins s σ H Q I h;exact Subscript_ (Yw ha hb I h λv u s2 x y H2 I2 rx ry q=>hr a b pins s2 σ H2 x y v u Q I2 rx ry q (hs _ _))
noncomputable def aaO(K:PySem.W.Frag):R2:=λx y H Q=>∃p xs i v,x=.ref p/\y=.int i/\oF K H p xs/\rQ xs i=some v/\Q v H
noncomputable def aaM(K:PySem.W.Frag):R2:=λx y H Q=>∃p xs i v,x=.ref p/\y=.int i/\oK K H p xs/\rQ xs i=some v/\Q v H
noncomputable def aaN:R2:=λx y H Q=>∃z i c,x=.str z/\y=.int i/\z.length<=sizeLine/\rQ z.cps.toList i=some c/\Q (.str ⟨#[c]⟩) H
def QT:Dr X (aaO X.K):=by
 intro value slice pins s σ H x y v u Q I rx ry h hs;obtain⟨p,xs,i,z,rfl,rfl,hq,he,q⟩:=h;cases rx;obtain⟨t,rfl⟩:=ry;obtain⟨its,r,pl,hz⟩:=I.list hq;obtain⟨j,h1,h2,h3,h4,h5⟩:=ztr he;obtain⟨w,ew,yP⟩:=r.get h2;have hl:=r.length;have hn:=iI;have fin:EP X pins σ Q w s:=⟨z,H,I,yP,q⟩;by_cases h0:0<=i
 ·have hj:i.toNat=j:=by
   rw[seqIndex_of h0 h5]at h1;exact ae5 h1
  exact item_listR pl.isList h0 (by omega) (by rw[hj];simpa using ew) fin hs
 ·have hj:(i+(its.toArray.size:Int)).toNat=j:=by
   rw[seqIndex_neg (by omega) h4]at h1;rw[gC,<-hl];exact ae5 h1
  exact subscriptTail_builtinR (x:=w) pl.isList.typeIs slot_list_getitem.lookup
   (wpAny_getItem_list_neg (Q:=λr s'=>r=w/\EP X pins σ Q r s') pl.isList (by omega) (by rw[gC]<;>omega) (by omega) (by rw[hj];simpa using ew) ⟨rfl,fin⟩) hs
def Xj:Dr X (aaM X.K):=by
 intro value slice pins s σ H x y v u Q I rx ry h hs;obtain⟨p,xs,i,z,rfl,rfl,hq,he,q⟩:=h;cases rx;obtain⟨t,rfl⟩:=ry;obtain⟨its,r,pl,hz⟩:=I.tuple hq;obtain⟨j,h1,h2,h3,h4,h5⟩:=ztr he;obtain⟨w,ew,yP⟩:=r.get h2;have hl:=r.length;have hn:=iI;have fin:EP X pins σ Q w s:=⟨z,H,I,yP,q⟩;exact subscriptTail_builtinR (x:=w) pl.typeIs slot_tuple_getitem.lookup
  (getItem_tuple (j:=j) (Q:=λr s'=>r=w/\EP X pins σ Q r s') pl (by omega) (by omega) (by rw[gC,<-hl];exact h1) (by simpa using ew) ⟨rfl,fin⟩) hs
def Xk:Dr X aaN:=by
 intro value slice pins s σ H x y v u Q I rx ry h hs;obtain⟨z,i,c,rfl,rfl,hz,he,q⟩:=h;obtain⟨t,rfl⟩:=rx;obtain⟨t',rfl⟩:=ry;obtain⟨j,h1,h2,h3,h4,h5⟩:=ztr he;have hl:z.cps.toList.length=z.length:=by simp[Str.length]
 rw[hl]at h1 h4 h5;have hn:=iI;exact tail_any (typeIs_str s z t) slot_str_getitem.lookup (getItem_str (c:=c) (by
  have e1:decide (i < -(2 ^ 63:Int))=false:=ae4 (by omega);have e2:decide (i ≥ 2 ^ 63)=false:=ae4 (by omega);rw[e1,e2,Bool.or_false]) (by rw[h1];simpa using h2) ⟨.str ⟨#[c]⟩,H,I.tok _,⟨_,rfl⟩,q⟩) hs
noncomputable def rIx(K:PySem.W.Frag):R2:=λx y H Q=>aaO K x y H Q\/aaM K x y H Q\/aaN x y H Q
def Xl:Dr X (rIx X.K):=QT.or (Xj.or Xk)
def znt(lo hi:Option Int)(n:Nat):(sliceBounds lo hi none n).1=((HT.cT n 0 lo:Nat):Int)/\(sliceBounds lo hi none n).2.1=((HT.cT n n hi:Nat):Int)/\(sliceBounds lo hi none n).2.2=1:=by
 refine⟨?_,?_,rfl⟩
 ·cases lo with
  | none=>simp[sliceBounds,HT.cT]
  | some i =>
   simp only[sliceBounds,HT.cT,Option.getD_none,show (1:Int) > 0 by decide,if_true];by_cases h:i<0
   ·simp only[h,if_true]<;>omega
   ·simp only[h,if_false]<;>omega
 ·cases hi with
  | none=>simp[sliceBounds,HT.cT]
  | some i =>
   simp only[sliceBounds,HT.cT,Option.getD_none,show (1:Int) > 0 by decide,if_true];by_cases h:i<0
   ·simp only[h,if_true]<;>omega
   ·simp only[h,if_false]<;>omega
def zl9(its:List Value)(lo hi:Option Int):slicePick its.toArray lo hi none=((its.drop (HT.cT its.length 0 lo)).take (HT.cT its.length its.length hi - HT.cT its.length 0 lo)).toArray:=by
 obtain⟨h1,h2,h3⟩:=znt lo hi its.toArray.size;unfold slicePick;rw[h1,h2,h3];simp only[sliceRange_one,pick_run,gC]<;>rfl
def adl(K:PySem.W.Frag):V->Option Int->Option Int->Hp->VK->Prop:=λx lo hi H Q=>∃a xs,x=.ref a/\oF K H a xs/\∀p,H p=none->Q (.ref p) (upd H p (.lst (zB xs lo hi)))
def Oj:zG X (adl X.K):=by
 intro pins s σ H x v vl vu lo hi sl Q I rx hs pl pu h;obtain⟨a,xs,rfl,hx,q⟩:=h;cases rx;obtain⟨its,r,ht,hz⟩:=I.list hx;have hlen:=r.length;refine⟨"list",_,slot_list_getitem.lookup,ht.isList.typeIs,?_⟩;refine wpAny_getItem_list_slice ht.isList hs pl pu .none (by simp) ?_ (by rw[gC]<;>omega);rw[zl9,<-hlen];refine⟨.ref s.heap.objs.size,_,I.laid (t':=s.toks) (o:=.lst (zB xs lo hi)) (λb ob q=>g8 _ q) (gb _) ?_,rfl,q _ (I.bJ.fresh (gb _))⟩;exact⟨kh (zjf xs lo hi) hz,_,0,(r.drop (HT.cT xs.length 0 lo)).take (HT.cT xs.length xs.length hi - HT.cT xs.length 0 lo),gU _ rfl⟩
noncomputable def jf:V->V->Bool
 | .non,.non=>true
 | .bl a,.bl b=>a==b
 | .bl a,.int b=>(if a then 1 else 0)==b
 | .int a,.bl b=>a==(if b then 1 else 0)
 | .int a,.int b=>a==b
 | .str a,.str b=>a==b
 | _,_=>false
def zm0:cz X (.builtin "len") (λxs H Q=>∃p ys,xs=[.ref p]/\(oF X.K H p ys\/oK X.K H p ys)/\Q (.int ys.length) H):=by
 intro pins s σ H xs us Q I r h;obtain⟨p,ys,rfl,hq,q⟩:=h;obtain⟨u,rfl,rx⟩:=vals1 r;cases rx;have hn:=iI;rcases hq with hq | hq
 ·obtain⟨its,r',pl,hz⟩:=I.list hq;have hlen:=r'.length;exact Calls.call_len_list pl.isList (by simp only[gC]<;>omega) ⟨.int ys.length,H,I.tok _,⟨s.toks+1,by rw[gC,hlen]⟩,q⟩
 ·obtain⟨its,r',pl,hz⟩:=I.tuple hq;have hlen:=r'.length;exact len_tuple pl (by simp only[gC]<;>omega) ⟨.int ys.length,H,I.tok _,⟨s.toks+1,by rw[gC,hlen]⟩,q⟩
def znb:cz X (.builtin "len") (λxs H Q=>∃z,xs=[.str z]/\z.length<=sizeLine/\Q (.int z.length) H):=by
 intro pins s σ H xs us Q I r h;obtain⟨z,rfl,hz,q⟩:=h;obtain⟨u,rfl,t,rfl⟩:=vals1 r;have hn:=iI;exact len_str (by omega) ⟨.int z.length,H,I.tok _,⟨_,rfl⟩,q⟩
def cz.or(h:cz X f r)(h':cz X f r'):cz X f (λxs H Q=>r xs H Q\/r' xs H Q):=by
 intro pins s σ H xs us Q I rs q;rcases q with q | q
 ·exact h pins s σ H xs us Q I rs q
 ·exact h' pins s σ H xs us Q I rs q
def zm6:cz X (.type "list") (λxs H Q=>∃p ys,xs=[.ref p]/\(oF X.K H p ys\/oK X.K H p ys)/\∀l,H l=none->Q (.ref l) (upd H l (.lst ys))):=by
 intro pins s σ H xs us Q I r h;obtain⟨p,ys,rfl,hq,q⟩:=h;obtain⟨u,rfl,rx⟩:=vals1 r;cases rx;have fin:∀(its:List Value),Vals ys its->ys.length<=sizeLine->∀(h':Heap) (c':Nat),(∀b o',s.heap.get? b=some o'->h'.get? b=some o') ->
   h'.get? s.heap.objs.size=some { cls:=.type "list",dict:=none,data:=.seq its.toArray c',slots:=#[] }->EP X pins σ Q (.ref s.heap.objs.size) { s with heap:=h' }:=λits r' hz h' c' kp e =>
  ⟨.ref s.heap.objs.size,_,I.laid (t':=s.toks) kp (gb _) (show bV X.prog X.w _ h' _ (.lst ys) from ⟨hz,its,c',r',e⟩),rfl,q _ (I.bJ.fresh (gb _))⟩
 rcases hq with hq | hq
 ·obtain⟨its,r',pl,hz⟩:=I.list hq;have hlen:=r'.length;obtain⟨o,ho,hc,n,hd⟩:=pl.isList;exact call_list_seq p (.inl rfl) ho hc hd (λh' c' kp e=>fin its r' hz h' c' kp e) (by simp only[gC]<;>omega)
 ·obtain⟨its,r',pl,hz⟩:=I.tuple hq;have hlen:=r'.length;obtain⟨o,ho,hc,n,hd⟩:=pl;exact call_list_seq p (.inr rfl) ho hc hd (λh' c' kp e=>fin its r' hz h' c' kp e) (by simp only[gC]<;>omega)
def tyV(K:PySem.W.Frag)(T:String)(x:V)(H:Hp):Prop:=match x with
 | .str _=>T = "str"
 | .int _=>T = "int"
 | .ref p=>(T = "list"/\∃xs,oF K H p xs)\/(T = "tuple"/\∃o,K.lookup p=some o/\o.cls=.type "tuple"/\o.dict=none) \/
   (T = "dict"/\((∃kvs,H p=some (.dK kvs))\/∃kvs,H p=some (.dT kvs)))\/(T = "set"/\∃S n,H p=some (.set S n))
 | _=>False
def Hm(I:Inv X pins σ H s)(r:RelV x v)(ty:tyV X.K T x H) :
  s.TypeIs v T/\∀a,v=.ref a->∃ob,s.heap.get? a=some ob/\ob.dict=none:=by
 cases x with
 | str z =>
  obtain⟨t,rfl⟩:=r;cases (show T = "str" from ty);exact⟨typeIs_str s z t,λ_ e=>nomatch e⟩
 | int i =>
  obtain⟨t,rfl⟩:=r;cases (show T = "int" from ty);exact⟨typeIs_int s i t,λ_ e=>nomatch e⟩
 | ref p =>
  cases r;rcases ty with⟨rfl,xs,hq⟩ | ⟨rfl,o,hk,hc,hd⟩ | ⟨rfl,hk⟩ | ⟨rfl,S,n,hk⟩
  ·obtain⟨its,_,pl,_⟩:=I.list hq;refine⟨pl.isList.typeIs,λa e=>?_⟩;cases e;obtain⟨o,n,e,c,hd,_⟩:=pl;exact⟨o,e,hd⟩
  ·refine⟨⟨o,I.oJ p o hk,hc⟩,λa e=>?_⟩;cases e;exact⟨o,I.oJ _ o hk,hd⟩
  ·have z:∃o,s.heap.get? p=some o/\o.ExactDict:=by
    rcases hk with⟨kvs,hk⟩ | ⟨kvs,hk⟩
    ·obtain⟨_,_,_,_,o,_,_,e,ex,_⟩:=I.bJ p _ hk;exact⟨o,e,ex⟩
    ·obtain⟨_,_,_,_,o,_,_,e,ex,_⟩:=I.bJ p _ hk;exact⟨o,e,ex⟩
   obtain⟨o,e,ex⟩:=z;refine⟨⟨o,e,ex.1⟩,λa e2=>?_⟩;cases e2;exact⟨o,e,ex.2.1⟩
  ·obtain⟨o,_,_,_,e,ex,_⟩:=I.bJ p _ hk;refine⟨⟨o,e,ex.1⟩,λa e2=>?_⟩;cases e2;exact⟨o,e,ex.2.1⟩
 | _=>exact False.elim ty
noncomputable def acM(K:PySem.W.Frag)(T:String)(r:V->List V->Hp->VK->Prop)(to:TE):TE:=fun σ H Q=>to σ H λx H1=>tyV K T x H1/\r x [] H1 Q
noncomputable def tBM(K:PySem.W.Frag)(T:String)(r:V->List V->Hp->VK->Prop)(to:TE)(t:TA):TE:=fun σ H Q=>to σ H λx H1=>tyV K T x H1/\t σ H1 λxs H2=>r x xs H2 Q
variable  {o e:Expr}{es:List Expr}{to:TE}{t:TA}{name:Str}{apos di:Pos}{T id:String}{r:V->List V->Hp->VK->Prop}
def Wc(pa:PlainAttrs T)(slot:Slot T name id)(XC:typeOf (.builtin id)=pure (.type "method_descriptor"))(hm:rY X id r)(ho:PE X o to)
  (q_:attributeBase o name X.env (eval o X.env)=eval o X.env:=by rfl) (hline:(apos.endLine==di.line)=true:=by rfl):PE X (.Call (.Attribute o name apos) [] [] di) (acM X.K T r to):=by
 intro pins s σ H Q I h;refine wpAny_Call_method0_late q_ hline (cC (ho pins s σ H _ I h) λv s1 zz=>?_);obtain⟨x,H1,I1,r1,ty,q1⟩:=zz;obtain⟨h1,h2⟩:=Hm I1 r1 ty;exact⟨T,id,pa,slot,XC,h1,h2,Calls.callWith_builtin rfl (PySem.evalArgs_none (hm pins s1 σ H1 x [] v [] Q I1 r1 .nil q1))⟩
def aa0(pa:PlainAttrs T)(slot:Slot T name id)(XC:typeOf (.builtin id)=pure (.type "method_descriptor"))(hm:rY X id r)(ho:PE X o to)(ha:PA X (e::es) t)
  (q_:attributeBase o name X.env (eval o X.env)=eval o X.env:=by rfl)
  (zb:((backTo di (starEach (e::es) X.env)).all (λx=>!x.1) && (backToKw di (keywordEach [] X.env)).all (λx=>x.1.isSome)
   && decide ((e::es).length+([]:List Keyword).length+(if ([]:List Keyword).isEmpty then 0 else 1)<30))=true:=by rfl)
  (hline:(apos.endLine==di.line)=true:=by rfl) (hs:starEach (e::es) X.env=(false,eval e X.env)::starEach es X.env:=by rfl) (vI:(backTo di (starEach es X.env)).any (·.1)=false:=by rfl) :
  PE X (.Call (.Attribute o name apos) (e::es) [] di) (tBM X.K T r to t):=by
 intro pins s σ H Q I h;refine wpAny_Call_method_late q_ zb hline rfl (cC (ho pins s σ H _ I h) λv s1 zz=>?_);obtain⟨x,H1,I1,r1,ty,q1⟩:=zz;obtain⟨h1,h2⟩:=Hm I1 r1 ty;refine⟨T,id,pa,slot,XC,h1,h2,?_⟩;have hA:=ha di pins s1 σ H1 _ I1 q1;rw[hs]at hA ⊢;refine Calls.callWith_builtin (by show (false || (backTo di (starEach es X.env)).any (·.1))=false;rw[vI]<;>rfl) (Calls.evalArgs_plain ?_);refine cC hA λus s2 zz=>?_;obtain⟨vs,H2,I2,r2,q2⟩:=zz;exact hm pins s2 σ H2 x vs v us Q I2 r1 r2 q2
end
def MtM(X:Cx)(id:String)(r:V->List V->Hp->VK->Prop):Prop :=
 ∀(pins:List (Addr×Obj)) (s:Shared) (σ:St) (H:Hp) (x:V) (xs:List V) (v:Value) (us:List Value) (Q:VK),Inv X pins σ H s->RelV x v->Vals xs us->r x xs H Q ->
  wpAny (model X.prog X.w) X.A (call (.builtin id) (v::us)) (EP X pins σ Q) X.xe s
theorem Vals.one:∀{x:V} {us:List Value},Vals [x] us->∃u,us=[u]/\RelV x u
 | _,_,.cons r .nil=>⟨_,rfl,r⟩
theorem Vals.zero:∀{us:List Value},Vals [] us->us=[]
 | _,.nil=>rfl
def Vals.dropLast{xs:List V}{us:List Value}(h:Vals xs us):Vals xs.dropLast us.dropLast:=by
 induction h with
 | nil=>exact .nil
 | cons r t ih =>
  cases t with
  | nil=>exact .nil
  | cons q t'=>exact .cons r ih
def Vals.reverse{xs:List V}{us:List Value}(h:Vals xs us):Vals xs.reverse us.reverse:=by
 induction h with
 | nil=>exact .nil
 | cons r t ih=>rw[nq,nq];exact Vals.append ih (.cons r .nil)
def zra{α:Type}(l:List α):l.eraseIdx (l.length - 1)=l.dropLast:=by
 induction l with
 | nil=>rfl
 | cons a r ih =>
  cases r with
  | nil=>rfl
  | cons b r =>
   have e:(a::b::r).length - 1=((b::r).length - 1)+1:=by
    have h1:(a::b::r).length=r.length+2:=rfl;have h2:(b::r).length=r.length+1:=rfl;omega
   rw[e,List.eraseIdx_cons_succ,ih]
   all_goals rfl
section
variable  {X:Cx}{pins:List (Addr×Obj)}{σ:St}{H:Hp}{s:Shared}{l b:Addr}{xs ys zs:List V}
def Inv.Ww{its its':List Value}{n:Nat}{f:Array Value->Array Value}{t':Nat}(I:Inv X pins σ H s)(hH:H l=some (.lst xs))
  (e:s.heap.get? l=some { cls:=.type "list",data:=.seq its.toArray n }) (hf:f its.toArray=its'.toArray) (hv:Vals ys its') (hz:ys.length<=sizeLine) :
  Inv X pins σ (upd H l (.lst ys)) { s with heap:=s.heap.update l (Obj.mapSeq f),toks:=t' }:=by
 have q:=PySem.IsL.update e f;rw[hf]at q;refine I.write (x:=l) (e:=l) (by rw[hH];exact trivial) (.inl rfl) (λb' u hb hu=>(Heap.get?_update_other s.heap (Obj.mapSeq f) (afb hb)).trans hu) ⟨_,q⟩ ?_;exact⟨hz,its',_,hv,q⟩
def Inv.adG(I:Inv X pins σ H s)(hv:Vals ys its)(hz:ys.length<=sizeLine) :
  Inv X pins σ (upd H s.heap.objs.size (.lst ys)) { s with heap:=s.heap.push { cls:=.type "list",data:=.seq its.toArray },toks:=t' } :=
 I.laid (λ_ _ q=>g8 _ q) (gb _) ⟨hz,its,0,hv,gU _ rfl⟩
def Inv.fresh(I:Inv X pins σ H s):H s.heap.objs.size=none:=I.bJ.fresh (gb _)
def Inv.JH(I:Inv X pins σ H s)(hH:H l=some (.lst xs)):xs.length<=sizeLine/\∃(its:List Value) (n:Nat),Vals xs its/\xs.length=its.length/\s.heap.get? l=some { cls:=.type "list",data:=.seq its.toArray n }:=by
 obtain⟨z,its,n,r,e⟩:=I.bJ l _ hH;exact⟨z,its,n,r,r.length,e⟩
end
section
variable  {X:Cx}
def O9:V->List V->Hp->VK->Prop:=λx vs H Q=>∃l xs y,x=.ref l/\vs=[y]/\H l=some (.lst xs)/\xs.length<sizeLine/\Q .non (upd H l (.lst (xs++[y])))
def zo5:MtM X "list.append" O9:=by
 intro pins s σ H x vs v us Q I rx rv h;obtain⟨l,xs,y,rfl,rfl,hH,hz,q⟩:=h;cases rx;obtain⟨u,rfl,ru⟩:=rv.one;obtain⟨z,its,n,r,hl,e⟩:=I.JH hH;refine call_meets F.slot_list_append ⟨_,e,rfl⟩ F.entry_list_append (F.args_list_append_2 _ _) (PySem.list_append l its.toArray n u (by rw[gC];omega)) ⟨e,?_⟩;refine⟨.non,_,I.Ww (its':=its++[u]) hH e (by simp) (r.append (.cons ru .nil)) ?_,rfl,q⟩;rw[gG,m7];omega
def adn:V->List V->Hp->VK->Prop:=λx vs H Q=>∃l xs y,x=.ref l/\vs=[]/\H l=some (.lst xs)/\xs[xs.length - 1]? = some y/\Q y (upd H l (.lst xs.dropLast))
def Wt:MtM X "list.pop" adn:=by
 intro pins s σ H x vs v us Q I rx rv h;obtain⟨l,xs,y,rfl,rfl,hH,hy,q⟩:=h;cases rx;have ZZ:=rv.zero;subst ZZ;obtain⟨z,its,n,r,hl,e⟩:=I.JH hH;obtain⟨u,hu,ru⟩:=r.get hy;have Xy:its.toArray[its.toArray.size - 1]? = some u:=by
  show its.toArray[its.length - 1]? = some u;rw[<-Array.getElem?_toList,<-hl];exact hu
 refine call_meets F.slot_list_pop ⟨_,e,rfl⟩ F.entry_list_pop (F.args_list_pop_1 _) (MeetsSeq.list_pop_last l its.toArray n u Xy (by rw[gC];omega)) ⟨e,?_⟩;refine⟨y,_,I.Ww (its':=its.dropLast) hH e ?_ r.dropLast ?_,ru,q⟩
 ·show its.toArray.eraseIdxIfInBounds (its.toArray.size - 1)=its.dropLast.toArray;rw[gC,List.eraseIdxIfInBounds_toArray,zra]
 ·rw[List.length_dropLast];omega
def Ih:V->List V->Hp->VK->Prop:=λx vs H Q=>∃l xs,x=.ref l/\vs=[]/\H l=some (.lst xs)/\Q .non (upd H l (.lst xs.reverse))
def zty:MtM X "list.reverse" Ih:=by
 intro pins s σ H x vs v us Q I rx rv h;obtain⟨l,xs,rfl,rfl,hH,q⟩:=h;cases rx;have ZZ:=rv.zero;subst ZZ;obtain⟨z,its,n,r,hl,e⟩:=I.JH hH;refine call_meets F.slot_list_reverse ⟨_,e,rfl⟩ F.entry_list_reverse (F.args_list_reverse_1 _) (AutoSeq1.list_reverse_list_0 l its.toArray n (by rw[gC];omega)) ⟨e,?_⟩;refine⟨.non,_,I.Ww (its':=its.reverse) hH e (by simp) r.reverse ?_,rfl,q⟩;rw[pG];omega
noncomputable def ado:R2:=λx y H Q=>∃l b xs zs,x=.ref l/\y=.ref b/\H l=some (.lst xs)/\H b=some (.lst zs)/\xs.length+zs.length<=sizeLine/\∀p,H p=none->Q (.ref p) (upd H p (.lst (xs++zs)))
def Wj:d9 X (binaryOp .Add) ado:=by
 intro pins s σ H x y v u Q I rx ry h;obtain⟨l,b,xs,zs,rfl,rfl,hH,hB,hz,q⟩:=h;cases rx;cases ry;obtain⟨z,its,n,r,hl,e⟩:=I.JH hH;obtain⟨z2,qY,n2,r2,CT,e2⟩:=I.JH hB;refine PySem.P.add_list e e2 ?_ (by rw[gC,gC];omega);have ea:its.toArray++qY.toArray=(its++qY).toArray:=by simp
 rw[ea];exact⟨.ref _,_,I.adG (t':=s.toks) (r.append r2) (by rw[gG];omega),rfl,q _ I.fresh⟩
end
section
variable  {prog:Program}{w:World}{A:Around}{E:Value->Shared->Prop}{s:Shared}
set_option maxRecDepth 100000 in
end
section
variable  {X:Cx}
end
end L2
namespace Att
open PySem PySem.W PySem.Calls PyProof.Rows
def zi6:∀(ns:List Int) (vs:List Value),WellAll P h vs (ns.map WData.int)->IntsAre vs ns:=by
 intro ns
 induction ns with
 | nil =>
  intro vs w;rw[gZ]at w;cases w;exact .nil
 | cons n ns ih =>
  intro vs w;rw[gm]at w;cases w with
  | cons a b =>
   cases a;exact .cons _ _ (ih _ b)
def El{l:OpenLaw}{n:Nat}(hn:l.most=some n){P:Params}{h:Heap}{args:List WData}{vals:List Value}
  (Rf:l.row.toRowW.claim.pre args=true) (hwl:WellAll P h vals args) :
  ∃a vs ns,vals=[Value.ref a]/\args=[WData.list (ns.map WData.int)]/\h.get? a=some { cls:=.type "list",data:=.seq vs.toArray }/\IntsAre vs ns/\ns.length<=n:=by
 have hsh:WShape.hasAll [] args [.list .int]=true:=(pre_splitW Rf).1;have hc:l.pre.holds [] { args:=args }=true:=(pre_splitW Rf).2;obtain⟨d,r,rfl,h1,h2⟩:=hasAllW_cons hsh;obtain rfl:=hasAllW_nil h2;obtain⟨xs,rfl,h3⟩:=hasW_list h1;obtain⟨ns,rfl⟩:=items_int h3;have hlen:ns.length<=n:=by
  unfold OpenLaw.pre at hc;have h4:(WTm.not (.lt (.lit (.int (n:Int))) (.len (.arg 0)))).holds [] { args:=[.list (ns.map .int)] }=true:=by
   have h4:=(holds_andW hc).1;rw[hn]at h4;exact h4
  have h5:=condW_of h4 (w_not (w_lt w_lit (w_len_list (w_arg rfl))));rw[gh]at h5;refine Nat.le_of_not_lt λq=>?_;have q':(n:Int)<(ns.length:Int):=by omega
  first
   | (rw[ae_ q']at h5;exact absurd h5 (by decide))
   | (simp at h5;omega)
 cases hwl with
 | cons w1 w2 =>
  cases w2;cases w1 with
  | list ho uG=>exact⟨_,_,ns,rfl,rfl,ho,zi6 ns _ uG,hlen⟩
def Eu(l:OpenLaw)(args:List WData):l.row.toRowW.claim.post args (.bool true) args=true :=
 postW_of (r:=l.row.toRowW) (X:=(true==true))
  (show WShape.has [] (.bool true) .bool=true by first | rfl | decide | simp[WShape.has,WShape.arms,WShape.armsAll])
  (show (WTm.eq .res (.lit (.bool true))).value [] { args:=args,res:=some (.bool true),after:=args }=some (.bool (true==true)) from w_eq_bool (w_res rfl) w_lit) rfl
def zqd{l:OpenLaw}{n:Nat}{q:Program}{loose:List Str}{XP:(Str->Option Value)->Heap->Prop}{YP:World->Heap->Prop}{d:DefRec}
  (hn:l.most=some n) (hdf:d.params.defaults=[])
  (call:∀(w:World) (aeR aeQ:Shared) (mg mb:Str->Option Value) (fa:Addr) (o:Obj) (pm cd doc:Value) (a:Addr) (vs:List Value) (ns:List Int),
   Ground q loose [] XP w aeR mg mb aeQ.heap->YP w aeQ.heap ->
   aeQ.heap.get? fa=some o->o.data=.func (docDef d.name d.params d.body d.scope pm cd doc)->aeQ.heap.CodeRec cd d.name->mg d.name=some (.ref fa) ->
   aeQ.heap.get? a=some { cls:=.type "list",data:=.seq vs.toArray }->IntsAre vs ns->ns.length<=n->aeQ.gens=#[] ->
   codeAny (model l.prog w) callerA (.call (.ref fa) ⟨[.ref a],[]⟩) (λr s'=>r=.ok (.ret (.bool true))/\OldK aeQ.heap s'.heap/\s'.os=aeQ.os/\AllBare s'.gens) aeQ) :
  WalkO q loose XP YP l.row.toRowW d [] (λf vs=>PySem.call f vs):=by
 intro w aeR aeQ mg mb G Y fa o pm cd doc dV kV ho hd yh hD hmg hg args vals as Rf hlay hrd hwl hlo;obtain rfl:dV=.none:=Dflts.none hD hdf;obtain rfl:kV=.none:=Dflts.noKw hD;obtain⟨a,vs,ns,rfl,rfl,XH,hints,hlen⟩:=El hn Rf hwl;refine enter_call (afF (call w aeR aeQ mg mb fa o pm cd doc a vs ns G Y ho (fd_plain hd) yh hmg XH hints hlen hg) λr s' hq=>?_);obtain⟨rfl,h2,h3,h4⟩:=hq;exact⟨.inl ⟨.bool true,.bool true,[],rfl,λ_=>rfl,.bool true,Eu l _,λ_=>⟨List.Pairwise.nil,λ_ hm=>(nomatch hm)⟩⟩,h2,h3,h4⟩
section
variable  {prog:Program}{w:World}{A:Around}{E:Value->Shared->Prop}{s:Shared}{K:Frag}
noncomputable def xV(h:Heap):Heap:={ h with objs:=#[] }
def zia(h:Heap)(b:Addr):(xV h).get? b=none:=by
 cases e:(xV h).get? b with
 | none=>rfl
 | some o=>exact absurd (gr e) (Nat.not_lt_zero _)
noncomputable def ledger(h:Heap)(L d:Addr):List (Addr×Obj):=(List.range h.objs.size).filterMap λa=>if a=L\/a=d then none else (h.get? a).map λo=>(a,o)
def zl6:(a,o)∈ledger h L d↔a≠L/\a≠d/\h.get? a=some o:=by
 unfold ledger;rw[pF];constructor
 ·rintro ⟨b,_,e⟩
  split at e
  ·cases e
  ·rename_i hb;obtain⟨o',ho,e'⟩:=mQ.mp e;cases e';exact⟨λq=>hb (.inl q),λq=>hb (.inr q),ho⟩
 ·rintro ⟨n1,n2,ho⟩;refine⟨a,List.mem_range.mpr (gr ho),?_⟩;rw[ae2 (show ¬ (a=L\/a=d) from λq=>q.elim n1 n2),ho]<;>rfl
def zqn(tO:d≠L)(ho:h.get? d=some od):News (xV h) L h ([]++(d,od)::ledger h L d):=by
 rintro ⟨a,o⟩ hp;rcases gq.mp hp with e | hp
 ·cases e;exact⟨ho,tO,zia _ _⟩
 ·obtain⟨n1,n2,e⟩:=zl6.mp hp;exact⟨e,n1,zia _ _⟩
def K9(n:h.Ns L m):Fr (xV h) L h m :=
 ⟨n,λb o e=>(by rw[zia]at e;cases e),mz _⟩
end
end Att
namespace L2
open PySem PySem.Spec PyProof.Rows
theorem zpc:∀{vs:List Value} {ns:List Int},IntsAre vs ns->Vals (ns.map V.int) vs
 | _,_,.nil=>.nil
 | _,_,.cons n t h=>.cons ⟨t,rfl⟩ (zpc h)
noncomputable abbrev KOf{K:PySem.W.Frag}{h:Heap}(_:K.In h):PySem.W.Frag:=K
noncomputable def bK(s:Stmt):Arguments:=match s with
 | .FunctionDef _ a _ _ _ _ _ _ _ _=>a
 | _=>{ posonlyargs:=[],args:=[],vararg:=none,kwonlyargs:=[],kw_defaults:=[],kwarg:=none,defaults:=[] }
noncomputable def aX(s:Stmt):List Stmt:=match s with
 | .FunctionDef _ _ b _ _ _ _ _ _ _=>b
 | _=>[]
noncomputable def aC(s:Stmt):Scope:=match s with
 | .FunctionDef _ _ _ _ _ _ sc _ _ _=>sc
 | _=>{ kind:=.function,names:=[],isGenerator:=false,isCoroutine:=false }
noncomputable abbrev qb:Mz:=λ_ _ _ _ _ _=>False
noncomputable abbrev E0:XK:=λ_ _ _=>False
def Ce:Passes qb X E0:=λ_ _ _ _ _ _ _ h=>h.elim
structure Ds(K:PySem.W.Frag)(x qual:Str)(st:Stmt)(f:Addr)(fd:FuncData):Prop where
 ex:∃(oc:Value) (od:Option Addr) (kV doc pm:Value) (an:Option Addr) (cdv ct:Value) (tH:Array (Option Value)),
  fd=PySem.W.fnOf x qual (bK st) (aX st) (aC st) .none kV doc pm an cdv ct/\K.lookup f=some ⟨oc,od,.func fd,tH⟩/\PySem.W.codeIn K cdv qual=true
 kp:PySem.W.keepIn K (.ref f)=true
section
variable  {P:Program}{w:World}{K:PySem.W.Frag}{mg:Str->Option Value}{base:Heap}
def Ds.ok{x qual:Str}{st:Stmt}{f:Addr}{fd:FuncData}{N ps:List Str}{k:Nat}{sp:Sp}(F:Ds K x qual st f fd)(S:cJ N ps (aC st))(len:∀vs H Q E,sp vs H Q E->vs.length=ps.length)
  (lU:∀(cdv:Value) (A:Around) (outer:List Env) (s:Shared) (H:Hp) (vs:List V) (Q:VK) (E:XK),cG k (A.deeper (envOfC qual (aC st) s.heap.objs.size f cdv))->sp vs H Q E ->
   ∃t,zK (vX qb P w K mg base N qual (aC st) f cdv A outer s H E).Jp (aX st) t/\t { nx:=λ_ H'=>Q .non H',rt:=Q } (start N vs) H):bZ P w K mg base qb (k+1) f fd ps sp:=by
 obtain⟨oc,od,kV,doc,pm,an,cdv,ct,tH,rfl,lk,yh⟩:=F.ex;refine La lk yh S len λA outer s H vs Q E hr Z4=>?_;obtain⟨t,h,q⟩:=lU cdv A outer s H vs Q E hr Z4;exact⟨t,h.Jp,q⟩
def Ds.binds{x qual:Str}{st:Stmt}{f:Addr}{fd:FuncData}{ps:List Str}(F:Ds K x qual st f fd)
  (h:∀(kV doc pm:Value) (an:Option Addr) (cdv ct:Value) (us:List Value),us.length=ps.length->bindArgs (PySem.W.fnOf x qual (bK st) (aX st) (aC st) .none kV doc pm an cdv ct) ⟨us,[]⟩=pure (ps.zip us)):Binds K fd ps []:=by
 obtain⟨oc,od,kV,doc,pm,an,cdv,ct,tH,rfl,lk,yh⟩:=F.ex;exact .all (h kV doc pm an cdv ct)
def fun_mk{x qual:Str}{st:Stmt}{f:Addr}{oc:Value}{od an:Option Addr}{tH:Array (Option Value)}{kV doc pm cdv ct:Value}(l:K.lookup f=some ⟨oc,od,.func (PySem.W.fnOf x qual (bK st) (aX st) (aC st) .none kV doc pm an cdv ct),tH⟩)
  (c:PySem.W.codeIn K cdv qual=true) (k:PySem.W.keepIn K (.ref f)=true):Ds K x qual st f (PySem.W.fnOf x qual (bK st) (aX st) (aC st) .none kV doc pm an cdv ct):=⟨⟨oc,od,kV,doc,pm,an,cdv,ct,tH,rfl,l,c⟩,k⟩
end
def KH(hr:cG k A):A.units+1<cLine:=Nat.lt_of_le_of_lt (Nat.add_le_add_left (by decide:1<=64) _) hr.units
section
variable  {X:Cx}
end
def y_{A B:Prop}(h:B):if false=true then A else B:=by
 rw[ae2 pD];exact h
def yZ{A B:Prop}(h:A):if true=true then A else B:=by
 rw[ae1 rfl];exact h
def Xo(lo:Nat)(e C dx:Addr)(fl:Option Value)(H:Hp)(h:Heap):Prop :=
 lo<=e/\H e=none/\∃oe vs,h.get? e=some oe/\oe.cls=.ref C/\oe.dict=some dx/\oe.data=.fields vs/\1<vs.size /\
  match fl with
  | none=>vs[1]? = some .none
  | some v=>∃T oT ts,vs[1]? = some (.ref T)/\lo<=T/\T≠e/\H T=none/\h.get? T=some oT/\oT.data=.fields ts/\ts[3]? = some v
section
variable  {X:Cx}
def Jj:d9 X (binaryOp .FloorDiv) (rI (λ_ j=>0<j/\j<2 ^ 64) λi j=>.int (i / j)):=by
 refine opI λi j t u s Q E hc h=>?_;obtain⟨h0,h1⟩:=hc;have e:i.fdiv j=i / j:=Int.fdiv_eq_ediv_of_nonneg i (Int.le_of_lt h0);refine floordiv_int (by omega) (by rw[e];exact h) (.inl (PyProof.noPylong_of_log2 ?_));have h2:j.natAbs<2 ^ 64:=by omega
 have h3:j.natAbs≠0:=by omega
 have:=(Nat.log2_lt h3).mpr h2;omega
def Ml{prog:Program}{w:World}{A:Around}{E:Value->Shared->Prop}{s:Shared}{t b:Addr}{ws:List Value}{Q:Value->Shared->Prop}(ht:IsTup s.heap t #[])(hb:IsTup s.heap b ws.toArray)
  (h1:Q (.ref b) s):wpAny (model prog w) A (binaryOp .Add (.ref t) (.ref b)) Q E s:=by
 obtain⟨⟨cls,dd,data,sl⟩,ho,hc,n,hd⟩:=id ht;obtain⟨⟨aej,dd2,data2,sl2⟩,KN,Rk,n2,hd2⟩:=id hb;simp only at hc hd Rk hd2;subst hc hd Rk hd2;exact concat_meets ⟨_,ho,rfl⟩ ⟨_,KN,rfl⟩ noFill_tuple_add seq_tuple_add afI afE (afC _ _)
   (tuple_addW0 t b #[] ws.toArray n n2 dd dd2 sl sl2 (by simp)) ⟨ho,KN,h1⟩
noncomputable def VD(K:PySem.W.Frag):R2:=λx y H Q=>∃a b ys,x=.ref a/\y=.ref b/\oK K H a []/\oK K H b ys/\Q (.ref b) H
def Jm:d9 X (binaryOp .Add) (VD X.K):=by
 intro pins s σ H x y v u Q I rx ry h;obtain⟨a,b,ys,rfl,rfl,ha,hb,q⟩:=h;cases rx;cases ry;obtain⟨its,r1,p1,_⟩:=I.tuple ha;obtain⟨qY,r2,p2,_⟩:=I.tuple hb;cases r1;exact Ml p1 p2 ⟨.ref b,H,I,rfl,q⟩
end
end L2
namespace HT
open PySem PyProof.Rows
section
variable  {prog:Program}{w:World}{A:Around}{E:Value->Shared->Prop}{s:Shared}
def zfz{t sl:Addr}{items:Array Value}{vl vu:Value}{lo hi:Option Int}{Q:Value->Shared->Prop}(ht:IsTup s.heap t items)(hs:s.heap.IsSliceOf sl vl vu .none)(pl:IsPart vl lo)(pu:IsPart vu hi)
  (hw:cT items.size 0 lo=0/\cT items.size items.size hi=items.size)
  (h:Q (.ref t) s):wpAny (model prog w) A (getItem (.ref t) (.ref sl)) Q E s:=by
 obtain⟨os,XF,hcs,T8⟩:=id hs;have hTs:s.TypeIs (.ref sl) "slice":=⟨os,XF,hcs⟩;unfold getItem
 try with_reducible refine aft ?_
 first | refine ae0 (ae3 ?_) | skip
 refine ae0 (wpAny_sequenceKey ht.typeIs (by decide) ?_);refine ae0 (afk (name:=Str.ofString "__getitem__") ht.typeIs afh
  (afy afh ht.typeIs entry_tuple_getitem ?_ (args_tuple_getitem _ _)))
 show wpAny _ _ (Builtin.Tuple.tupleItemsOf (.ref t) >>= _) _ _ s;refine ae0 (tupleItemsOf_ ht ?_);refine ae0 (wpAny_typeOf hTs ?_);rw[ae1 (by decide)];refine ae0 (zeo hs pl pu ?_);have Z7:((((cT items.size 0 lo:Nat):Int)==0 && (1:Int)==1 && (cT items.size items.size hi - cT items.size 0 lo)==items.size)=true):=by
  rw[hw.1,hw.2];simp
 show wpAny _ _ (if (((cT items.size 0 lo:Nat):Int)==0 && (1:Int)==1 && (cT items.size items.size hi - cT items.size 0 lo)==items.size)=true then _ else _) _ _ s;rw[ae1 Z7];unfold Builtin.Tuple.tupleIsExact;refine ae0 (ae0 (wpAny_typeOf ht.typeIs ?_));refine ae3 ?_;rw[ae1 (by decide)];exact ae0 (wpAny_rule (ae3 ⟨_,rfl,ae3 h⟩))
end
end HT
namespace L2
open PySem PySem.Spec PyProof.Rows
section
variable  {X:Cx}
def aaL(K:PySem.W.Frag):V->Option Int->Option Int->Hp->VK->Prop:=λx lo hi H Q=>∃a xs,x=.ref a/\oK K H a xs /\
 (HT.cT xs.length 0 lo=0/\HT.cT xs.length xs.length hi=xs.length)/\Q (.ref a) H
def Oi:zG X (aaL X.K):=by
 intro pins s σ H x v vl vu lo hi sl Q I rx hs pl pu h;obtain⟨a,xs,rfl,hx,hw,q⟩:=h;cases rx;obtain⟨its,r,ht,hz⟩:=I.tuple hx;have hlen:its.toArray.size=xs.length:=by rw[gC];exact r.length.symm
 refine⟨"tuple",_,PyProof.Rows.slot_tuple_getitem.lookup,ht.typeIs,?_⟩;exact HT.zfz ht hs pl pu (by rw[hlen];exact hw) ⟨.ref a,H,I,rfl,q⟩
end
section
variable  {X:Cx}{pins:List (Addr×Obj)}{σ:St}{H:Hp}{s:Shared}{h':Heap}{t':Nat}
def Inv.Br{ch:List Addr}{a:Addr}{o:HO}(I:Inv X pins σ H s)(hf:∀b∈ch,qy X pins H b)(k:∀b ob,b∉ch->s.heap.get? b=some ob->h'.get? b=some ob)(hp:s.heap.objs.size<=a)
  (new:bV X.prog X.w (upd H a o) h' a o):Inv X pins σ (upd H a o) { s with heap:=h',toks:=t' }:=by
 have hn:H a=none:=I.bJ.fresh hp;have Jt:∀b u,H b=some u->b∉ch:=λb u e hb=>by rw[(hf b hb).1]at e;cases e
 have na:∀b u,H b=some u->b≠a:=λb u e=>z7 e hn;refine I.step (g':=s.gens) (d':=s.drawn) (ch:=ch) (λb hb=>?_) (λb o _ _ hc e _=>k b o hc e) (λb o _ _ hc e _=>⟨o.slots,k b o hc e⟩)
  (λb o _ e n=>by rw[iz (gR (gQ (gr e) hp))];exact n)
  (λb o hc e=>⟨o,k b o hc e⟩) (λb xs e=>by rw[iz (na b _ e)];exact e) (λb o u e=>by rw[iz (na b _ e)];exact e) (λb ps e=>⟨#[],by rw[iz (na b _ e),e];simp⟩) (λm hm=>?_) (λb u e=>?_) I.bare
 ·obtain⟨f0,f1,f2,f3,f4,f5⟩:=hf b hb;exact⟨f3,f1,f4,f5⟩
 ·obtain⟨ob,es,ep,ho,r⟩:=hm;exact⟨ob,es,ep,k _ ob (λz=>(hf _ z).2.1 rfl) ho,r⟩
 ·by_cases hb:b=a
  ·subst hb;rw[rW]at e;cases e;exact new
  ·rw[iz hb]at e;refine (I.bJ b u e).uB (λc v hc q=>k c v ?_ q) (λc q=>by rw[iz (na c _ q)];exact q) λc xs q=>by rw[iz (na c _ q)];exact q
   rcases hc with z | z
   ·rw[z];exact Jt b u e
   ·exact Jt c _ z
def Inv.turns{ch:List Addr}(I:Inv X pins σ H s)(hf:∀b∈ch,qy X pins H b)(k:∀b ob,b∉ch->s.heap.get? b=some ob->h'.get? b=some ob):Inv X pins σ H { s with heap:=h',toks:=t' }:=by
 have Jt:∀b u,H b=some u->b∉ch:=λb u e hb=>by rw[(hf b hb).1]at e;cases e
 refine I.step (g':=s.gens) (d':=s.drawn) (ch:=ch) (λb hb=>?_) (λb o _ _ hc e _=>k b o hc e) (λb o _ _ hc e _=>⟨o.slots,k b o hc e⟩)
  (λb o _ e n=>n) (λb o hc e=>⟨o,k b o hc e⟩) (λb xs e=>e) (λb o u e=>e) (λb ps e=>⟨#[],by rw[e];simp⟩) (λm hm=>?_) (λb u e=>?_) I.bare
 ·obtain⟨f0,f1,f2,f3,f4,f5⟩:=hf b hb;exact⟨f3,f1,f4,f5⟩
 ·obtain⟨ob,es,ep,ho,r⟩:=hm;exact⟨ob,es,ep,k _ ob (λz=>(hf _ z).2.1 rfl) ho,r⟩
 ·refine (I.bJ b u e).uB (λc v hc q=>k c v ?_ q) (λc q=>q) λc xs q=>q;rcases hc with z | z
  ·rw[z];exact Jt b u e
  ·exact Jt c _ z
end
noncomputable def Ite(K:PySem.W.Frag)(a:Addr):It :=
 ⟨λi H=>∃xs x,oF K H a xs/\xs[i]? = some x,
  λi H y H'=>∃p x,H p=none/\y=.ref p/\H'=upd H p (.tup [.int i,x])/\∀xs,oF K H a xs->xs[i]? = some x,
  λi H=>∃xs,oF K H a xs/\xs.length<=i⟩
def Ea{P:Program}{w:World}{K:PySem.W.Frag}{elts:List Expr}{x1:Nat}{pos:Pos}(a e it:Addr)(tO:e≠it) :
  Turn P w K (.Tuple elts x1 pos) (Ite K a) [e,it] e (λi h=>∃old,IsEnum h e it (i:Int) old/\h.IsListIter it a i) where
 mem:=by simp
 obj:=λi h st b hb=>by
  obtain⟨old,h1,h2⟩:=st;rcases gq.mp hb with rfl | hb
  ·exact⟨_,h1,λv z=>by cases z⟩
  ·have e:b=it:=by simpa using hb
   subst e;obtain⟨o,q,c,d⟩:=h2;exact⟨o,q,λv z=>by rw[d]at z;cases z⟩
 keep:=λi h h' st k=>by
  obtain⟨old,h1,h2⟩:=st;exact⟨old,k e (by simp) _ h1,h2.at λo q=>k it (by simp) o q⟩
 item:=by
  intro X hP hw hK hc i pins s σ H E I hf st hg;subst hP hw hK;obtain⟨xs,x,hq,hx⟩:=hg;obtain⟨old,h1,h2⟩:=st;obtain⟨its,rv,p,hz⟩:=I.list hq;obtain⟨u,hu,ru⟩:=rv.get hx;refine wpAny_pyNext_enum_item h1 h2 p.isList (x:=u) (by simpa using hu) tO λaeY Nm hit ht hsz hk=>?_;refine⟨_,rfl,wpAny_letOwnedTupleGo_enum Nm λaeX ad0 KJ=>?_⟩;replace KJ:Heap.SameBut e aeY aeX:=KJ;have zY:e<s.heap.objs.size:=gr h1;have Xm:it<s.heap.objs.size:=by obtain⟨o,q,_⟩:=h2;exact gr q
  have Z3:aeX.get? s.heap.objs.size=some { cls:=.type "tuple",data:=.seq #[.int i s.toks,u] }:=by rw[KJ.2 _ (mJ zY)];exact ht
  have kk:∀b ob,b∉[e,it]->s.heap.get? b=some ob->aeX.get? b=some ob:=λb ob hb q=>by
   have b1:b≠e:=λz=>hb (by simp[z]);have b2:b≠it:=λz=>hb (by simp[z]);exact KJ.extBut b ob b1 (hk b ob b1 b2 q)
  refine⟨.ref s.heap.objs.size,upd H s.heap.objs.size (.tup [.int i,x]),I.Br hf kk (gb _) ?_,rfl,⟨_,x,I.bJ.fresh (gb _),rfl,rfl,λys hy=>by rw[I.vo hy hq];exact hx⟩,?_,λb hb=>?_⟩
  ·refine⟨by show 2<=sizeLine;decide,[.int i s.toks,u],.cons ⟨_,rfl⟩ (.cons ru .nil),?_⟩;exact⟨_,Z3,rfl,_,rfl⟩
  ·refine⟨u,?_,hit.extBut KJ.extBut (afb tO)⟩;have:(i:Int)+1=((i+1:Nat):Int):=by omega
   rw[<-this];exact ad0
  ·rw[iz]
   ·exact (hf b hb).1
   ·intro z;subst z;rcases gq.mp hb with z | z
    ·exact mJ zY z
    ·exact mJ Xm (by simpa using z)
 done:=by
  intro X hP hw hK hc i pins s σ H E I hf st hg;subst hP hw hK;obtain⟨xs,hq,hx⟩:=hg;obtain⟨old,h1,h2⟩:=st;obtain⟨its,rv,p,hz⟩:=I.list hq;have hl:=rv.length;exact wpAny_pyNext_enum_end (I.ok.hd hc) h1 h2 p.isList (by simp;omega) λh' eb=>⟨rfl,I.turns (t':=s.toks) (ch:=[e,it]) hf λb o hb q=>eb b o (λz=>hb (by simp[z])) q⟩
 self:=λ_ _ _ _ _ st h=>by
  obtain⟨old,h1,h2⟩:=st;exact wpAny_pyIter_enum h1 h
noncomputable def abr(K:PySem.W.Frag)(ta:TA):TI:=fun σ H R=>ta σ H λvs H1=>∃a,vs=[.ref a]/\(∃xs,oF K H1 a xs)/\R (Ite K a) H1
def zok:bootBuiltins "enumerate" = some (.type "enumerate"):=by decide +kernel
def PK{X:Cx}{elts:List Expr}{x1:Nat}{xJ:Pos}{a:Expr}{ta:TA}{p pos:Pos}(hg:Gl X "enumerate")(hm:X.mg "enumerate" = none)(ha:PA X [a] ta)(hs:starEach [a] X.env=[(false,eval a X.env)]:=by rfl) :
  PI X (.Tuple elts x1 xJ) (.Call (.Name "enumerate" p) [a] [] pos) (abr X.K ta):=by
 intro pins s σ H R I h;refine Call_ (Nt I hg hm zok (ae9 (cC (ha pos pins s σ H _ I h) λus s1 zz=>?_) hs rfl));obtain⟨vs,H1,I1,r1,q1⟩:=zz;obtain⟨l,e,⟨xs,hq⟩,q⟩:=q1;subst e;cases r1 with
 | cons r rr =>
  cases rr;cases r;obtain⟨its,rv,pl,hz⟩:=I1.list hq;refine call_enumerate_list pl.isList λh' he hit hsz hk=>?_;refine wpAny_pyIter_enum he ?_;have I2:Inv X pins σ H1 { s1 with heap:=h' }:=I1.kept (t':=s1.toks) hk;refine⟨s1.heap.objs.size+1,[s1.heap.objs.size+1,s1.heap.objs.size],_,_,H1,rfl,I2,Ea l _ _ (mJ (nM _)),⟨.none,he,hit⟩,λb hb=>?_,q⟩;have oU:s1.heap.objs.size<=b:=by
   rcases gq.mp hb with z | z
   ·rw[z];exact Nat.le_succ _
   ·have:b=s1.heap.objs.size:=by simpa using z
    rw[this];exact gb _
  exact I1.uH oU (I1.bJ.fresh oU)
noncomputable def Itv(K:PySem.W.Frag)(a:Addr)(n:Nat):It :=
 ⟨λi H=>∃xs x,oF K H a xs/\xs.length=n/\i<n/\xs[n - 1 - i]? = some x,λi H x H'=>H'=H/\∀xs,oF K H a xs->xs[n - 1 - i]? = some x,λi H=>(∃xs,oF K H a xs/\xs.length=n)/\i=n⟩
def Ho{P:Program}{w:World}{K:PySem.W.Frag}{tg:Expr}(a it:Addr)(n:Nat):Turn P w K tg (Itv K a n) [it] it (λi h=>h.IsRevIter it a ((n:Int) - 1 - (i:Nat))) where
 mem:=by simp
 obj:=λi h st b hb=>by
  have e:b=it:=by simpa using hb
  subst e;obtain⟨o,e,c,d⟩:=st;exact⟨o,e,λv z=>by rw[d]at z;cases z⟩
 keep:=λi h h' st k=>st.at λo e=>k it (by simp) o e
 item:=by
  intro X hP hw hK hc i pins s σ H E I hf st hg;subst hP hw hK;obtain⟨xs,x,hq,hn,hi,hx⟩:=hg;obtain⟨its,rv,p,hz⟩:=I.list hq;obtain⟨u,hu,ru⟩:=rv.get hx;obtain⟨f0,f1,f2,f3,f4,f5⟩:=hf it (by simp);have ei:(n:Int) - 1 - (i:Nat)=((n - 1 - i:Nat):Int):=by omega
  rw[ei]at st;refine wpAny_pyNext_rev_item st p.isList (x:=u) (by simpa using hu) λh' st' sb=>?_;have I1:Inv X pins σ H { s with heap:=h' }:=I.turned (t':=s.toks) (λb o hb e=>(sb.2 b hb).trans e) f0 f1 f3 f4 f5;obtain⟨o,e,c,d⟩:=id st';refine⟨u,rfl,rm (s:={ s with heap:=h' }) e c d (by decide) ⟨x,H,I1,ru,⟨rfl,λys hy=>by rw[I.vo hy hq];exact hx⟩,?_,λb hb=>(hf b hb).1⟩⟩;have e2:(n:Int) - 1 - ((i+1:Nat))=((n - 1 - i:Nat):Int) - 1:=by omega
  rw[e2];exact st'
 done:=by
  intro X hP hw hK hc i pins s σ H E I hf st hg;subst hP hw hK;obtain⟨⟨xs,hq,hn⟩,hi⟩:=hg;obtain⟨f0,f1,f2,f3,f4,f5⟩:=hf it (by simp);have ei:(n:Int) - 1 - (i:Nat)=-1:=by omega
  rw[ei]at st;exact wpAny_pyNext_rev_end (I.ok.hd hc) st λh' eb=>⟨rfl,I.turned (t':=s.toks) (λb o hb e=>eb b o hb e) f0 f1 f3 f4 f5⟩
 self:=λ_ _ _ _ _ st h=>wpAny_pyIter_revIter st h
noncomputable def adM(K:PySem.W.Frag)(ta:TA):TI:=fun σ H R=>ta σ H λvs H1=>∃a xs,vs=[.ref a]/\oF K H1 a xs/\R (Itv K a xs.length) H1
def zmx:bootBuiltins "reversed" = some (.type "reversed"):=by decide +kernel
def V1{X:Cx}{tg a:Expr}{ta:TA}{p pos:Pos}(hg:Gl X "reversed")(hm:X.mg "reversed" = none)(ha:PA X [a] ta)(hs:starEach [a] X.env=[(false,eval a X.env)]:=by rfl) :
  PI X tg (.Call (.Name "reversed" p) [a] [] pos) (adM X.K ta):=by
 intro pins s σ H R I h;refine Call_ (Nt I hg hm zmx (ae9 (cC (ha pos pins s σ H _ I h) λus s1 zz=>?_) hs rfl));obtain⟨vs,H1,I1,r1,q1⟩:=zz;obtain⟨l,xs,e,hq,q⟩:=q1;subst e;cases r1 with
 | cons r rr =>
  cases rr;cases r;obtain⟨its,rv,pl,hz⟩:=I1.list hq;refine call_reversed_list pl.isList ?_;have st:(s1.heap.push (revObj l ((its.toArray.size:Int) - 1))).IsRevIter s1.heap.objs.size l ((xs.length:Int) - 1 - ((0:Nat):Int)):=by
   refine⟨_,gU _ rfl,rfl,?_⟩;have e1:(its.toArray.size:Int) - 1=(xs.length:Int) - 1 - ((0:Nat):Int):=by rw[gC,<-rv.length];omega
   rw[<-e1];rfl
  refine wpAny_pyIter_revIter st ?_;refine⟨s1.heap.objs.size,[s1.heap.objs.size],_,_,H1,rfl,I1.kept (t':=s1.toks) λb o e=>g8 _ e,Ho l _ xs.length,st,λb hb=>?_,q⟩;have e:b=s1.heap.objs.size:=by simpa using hb
  subst e;exact I1.uH (gb _) (I1.bJ.fresh (gb _))
def zli(h:∀x∈scope.names,x.2=.free->∃c,env.cells.lookup x.1=some c) :
  ∃cl,closureFor scope env=pure cl/\(∀x c,cl.lookup x=some c->env.cells.lookup x=some c)/\∀x,(x,NameKind.free)∈scope.names->∃c,cl.lookup x=some c:=by
 have key:∀(names:List (Str×NameKind)) (acc:List (Str×Addr)),(∀x∈names,x.2=.free->∃c,env.cells.lookup x.1=some c)->(∀x c,acc.lookup x=some c->env.cells.lookup x=some c) ->
   ∃cl,(forIn names acc λ(x:Str×NameKind) (cs:List (Str×Addr))=>(if x.2 == .free then do let a <-cellOf env x.1;pure (ForInStep.yield ((x.1,a)::cs)) else pure (ForInStep.yield cs):Sem _))=pure cl/\(∀x c,cl.lookup x=some c->env.cells.lookup x=some c) /\
    (∀x,(x,NameKind.free)∈names->∃c,cl.lookup x=some c)/\∀x c,acc.lookup x=some c->∃c',cl.lookup x=some c':=by
  intro names
  induction names with
  | nil=>intro acc _ ha;exact⟨acc,rfl,ha,⟨(λx hx=>nomatch hx),λx c q=>⟨c,q⟩⟩⟩
  | cons y r ih =>
   intro acc hn ha;obtain⟨n,k⟩:=y;have hr:∀x∈r,x.2=.free->∃c,env.cells.lookup x.1=some c:=λx hx=>hn x (kI _ hx);by_cases hk:k=.free
   ·subst hk;obtain⟨c,hc⟩:=hn (n,.free) (by simp) rfl;have ha':∀x c',((n,c)::acc).lookup x=some c'->env.cells.lookup x=some c':=λx c' q=>by
     rw[kj]at q;cases e:x==n with
     | true=>rw[e]at q;cases q;rw[eq_of_beq e];exact hc
     | false=>rw[e]at q;exact ha x c' q
    obtain⟨cl,h1,h2,h3,h4⟩:=ih ((n,c)::acc) hr ha';refine⟨cl,?_,h2,λx hx=>?_,λx c' q=>?_⟩
    ·rw[List.forIn_cons];simp only[beq_self_eq_true,if_true,cellOf,hc];exact h1
    ·rcases gq.mp hx with e | hx
     ·cases e;exact h4 n c (by simp)
     ·exact h3 x hx
    ·cases e:x==n with
     | true=>exact h4 x c (by rw[kj,e])
     | false=>exact h4 x c' (by rw[kj,e];exact q)
   ·have hb:(k==NameKind.free)=false:=by simpa using hk
    obtain⟨cl,h1,h2,h3,h4⟩:=ih acc hr ha;refine⟨cl,?_,h2,λx hx=>?_,h4⟩
    ·rw[List.forIn_cons];simp only[hb,Bool.false_eq_true,if_false];exact h1
    ·rcases gq.mp hx with e | hx
     ·cases e;exact absurd rfl hk
     ·exact h3 x hx
 obtain⟨cl,h1,h2,h3,_⟩:=key scope.names [] h (λx c q=>by simp at q);refine⟨cl,?_,h2,h3⟩;unfold closureFor;show (forIn scope.names [] (λ(x:Str×NameKind) (cs:List (Str×Addr))=>(if x.2 == .free then do let a <-cellOf env x.1;pure (ForInStep.yield ((x.1,a)::cs)) else pure (ForInStep.yield cs):Sem _)) >>= λcs=>pure cs)=pure cl;rw[h1]
 rfl
theorem zdf{f:Str×NameKind->Str×NameKind}(h1:∀p,(f p).1=p.1):∀{names:List (Str×NameKind)} {x:Str},(names.map f).lookup x=(names.lookup x).map λk=>(f (x,k)).2
 | [],_=>rfl
 | (n,j)::r,x=>by
  rw[gm];have e:f (n,j)=(n,(f (n,j)).2):=by
   have:=h1 (n,j);exact Prod.ext this rfl
  rw[e,kj,kj];cases hx:x==n with
  | true=>rw[eq_of_beq hx];rfl
  | false=>exact zdf h1
noncomputable def Ac(env:Env)(p:Str×NameKind):Str×NameKind:=if (p.2 == .free && env.scope.kind == .function && env.kindOf p.1==some .cell)=true then (p.1,.cell) else (p.1,p.2)
def ztq(env:Env)(p:Str×NameKind):(Ac env p).1=p.1:=by unfold Ac;split<;>rfl
def ztc(env:Env)(p:Str×NameKind):(Ac env p).2=p.2\/(p.2=.free/\(Ac env p).2=.cell):=by
 unfold Ac
 split
 ·rename_i h;rw[gB,gB]at h;exact .inr ⟨eq_of_beq h.1.1,rfl⟩
 ·exact .inl rfl
def zgz(scope:Scope)(env:Env):(relabel scope env).names=scope.names.map (Ac env):=rfl
def zf0{scope:Scope}{env:Env}{x:Str}{k:NameKind}(h:(relabel scope env).names.lookup x=some k):scope.names.lookup x=some k\/(scope.names.lookup x=some .free/\k=.cell):=by
 rw[zgz,zdf (ztq env)]at h;cases e:scope.names.lookup x with
 | none=>rw[e]at h;cases h
 | some j =>
  rw[e]at h;have h':(Ac env (x,j)).2=k:=ae5 h;rcases ztc env (x,j) with q | ⟨q1,q2⟩
  ·rw[q]at h';exact .inl (by rw[<-h'])
  ·rw[q2]at h';exact .inr ⟨by rw[show j=NameKind.free from q1],h'.symm⟩
def zfp{scope:Scope}{env:Env}{x:Str}(h:scope.names.lookup x=some .free):(relabel scope env).names.lookup x=some .cell\/(relabel scope env).names.lookup x=some .free:=by
 rw[zgz,zdf (ztq env),h];rcases ztc env (x,.free) with q | ⟨_,q⟩
 ·exact .inr (by rw[Option.map_some,q])
 ·exact .inl (by rw[Option.map_some,q])
theorem mem_of_lookup[BEq α][LawfulBEq α]:∀{l:List (α×β)},l.lookup x=some k->(x,k)∈l
 | [],h=>by simp at h
 | (n,j)::r,h=>by
  rw[kj]at h;cases e:x==n with
  | true=>rw[e]at h;cases h;rw[eq_of_beq e];simp
  | false=>rw[e]at h;exact kI _ (mem_of_lookup h)
noncomputable def cO(X:Cx)(N:List Str)(scope:Scope)(cl:List (Str×Addr))(C:Addr)(fp:List Addr)(s:Shared)(H:Hp):Cx :=
 { X with N:=N,aeR:=s,aeZ:=H,env:=compEnvC scope cl C X.env,outer:=X.stack,stack:=X.stack,ex:=fp,fn:=λ_=>false,pn:=[],xe:=λ_ _=>False }
structure fu(scope:Scope):Prop where
 kind:scope.kind=.function
 cell:∀y∈scope.names,y.2≠.cell
 names:∀y∈scope.names,y.2=.local->scope.names.lookup y.1=some .local
def lD(X:Cx)(scope:Scope):List (Option Nat)->List Str->Prop
 | [],[]=>True
 | none::r,_::xs=>lD X scope r xs
 | some j::r,x::xs=>(X.N[j]? = some x/\(X.env.kindOf x=some .cell\/X.env.kindOf x=some .free)/\scope.names.lookup x=some .free)/\lD X scope r xs
 | _,_=>False
noncomputable def jw(capt:List (Option Nat))(σ:St):St:=capt.map λo=>o.bind λj=>(σ[j]?).join
theorem lD.len:∀{capt:List (Option Nat)} {N:List Str},lD X scope capt N->capt.length=N.length
 | [],[],_=>rfl
 | none::r,_::xs,h=>by simp[lD.len (show lD X scope r xs from h)]
 | some j::r,x::xs,h=>by simp[lD.len h.2]
 | [],_::_,h=>h.elim
 | none::_,[],h=>h.elim
 | some _::_,[],h=>h.elim
theorem lD.at_:∀{capt:List (Option Nat)} {N:List Str} {i j:Nat} {x:Str},lD X scope capt N->capt[i]? = some (some j)->N[i]? = some x ->
  X.N[j]? = some x/\(X.env.kindOf x=some .cell\/X.env.kindOf x=some .free)/\scope.names.lookup x=some .free
 | [],[],_,_,_,_,e,_=>by simp at e
 | none::r,y::xs,0,_,_,_,e,_=>by simp at e
 | none::r,y::xs,i+1,_,_,h,e,e2=>lD.at_ (i:=i) (show lD X scope r xs from h) (by simpa using e) (by simpa using e2)
 | some k::r,y::xs,0,_,_,h,e,e2=>by
  simp at e e2;subst e e2;exact h.1
 | some k::r,y::xs,i+1,_,_,h,e,e2=>lD.at_ (i:=i) h.2 (by simpa using e) (by simpa using e2)
 | [],_::_,_,_,_,h,_,_=>h.elim
 | none::_,[],_,_,_,h,_,_=>h.elim
 | some _::_,[],_,_,_,h,_,_=>h.elim
section
variable  {X:Cx}{pins:List (Addr×Obj)}{σ:St}{H:Hp}{s:Shared}{N:List Str}{scope:Scope}{cl:List (Str×Addr)}{C:Addr}{fp:List Addr}{capt:List (Option Nat)}
def RJ(I:Inv X pins σ H s)(S:fu scope)(uE:∀x c,cl.lookup x=some c->X.env.cells.lookup x=some c)(uG:∀x,(x,NameKind.free)∈scope.names->∃c,cl.lookup x=some c)
  (hC:s.heap.objs.size<=C) (hf:∀b∈fp,qy X pins H b) (hb:∀b∈fp,b<s.heap.objs.size):(cO X N scope cl C fp s H).Ok where
 mod:=I.ok.mod
 kind:=S.kind
 glob:=I.ok.glob
 blt:=I.ok.blt
 above:=hC
 inj:=λx y c h1 h2=>I.ok.inj x y c (uE x c h1) (uE y c h2)
 has:=λx hx=>by
  have q:scope.names.lookup x=some .free:=by
   rcases hx with hx | hx
   ·rcases zf0 hx with e | ⟨e,_⟩
    ·exact absurd rfl (S.cell _ (mem_of_lookup e))
    ·exact e
   ·rcases zf0 hx with e | ⟨e,_⟩
    ·exact e
    ·exact e
  exact uG x (mem_of_lookup q)
 Uo:=λx c h=>by cases h
 hd:=I.ok.hd
 frames:=I.ok.frames
 stk:=.inl rfl
 exf:=λb oU=>⟨gR (gQ (hb b oU) hC),λx c h=>(hf b oU).2.2.2.2.1 x c (uE x c h)⟩
 bs:=I.bs
 Gy:=kh I.ok.Gy I.sz
 Fb:=λb o e oU=>by
  rcases (hf b oU).2.2.2.1 with z | z
  ·exact I.ok.Fb b o e z
  ·exact absurd (gr e) (Nat.not_lt.mpr (kh I.ok.Gy z))
 Lh:=λb oU z=>by
  rcases gq.mp (I.uZ b z) with e | e
  ·exact (hf b oU).2.1 e
  ·exact (hf b oU).2.2.1 e
 oV:=I.stack
 K8:=I.Bx
def Ma(I:Inv X pins σ H s)(S:fu scope)(uE:∀x c,cl.lookup x=some c->X.env.cells.lookup x=some c)(uG:∀x,(x,NameKind.free)∈scope.names->∃c,cl.lookup x=some c) 
  (hC:s.heap.objs.size<=C) (hf:∀b∈fp,qy X pins H b) (hb:∀b∈fp,b<s.heap.objs.size) (uF:lD X scope capt N) (hn:h'.Ns C m) (hk:∀b o,s.heap.get? b=some o->h'.get? b=some o) :
  Inv (cO X N scope cl C fp s H) [] (jw capt σ) H { s with heap:=h',toks:=t' } where
 ok:=RJ I S uE uG hC hf hb
 os:=rfl
 bare:=I.bare
 base:=Un.kept hk
 loc:=by
  refine⟨m,hn,λi x v hN hv aeI=>?_⟩;have hN':N[i]? = some x:=hN;unfold jw at hv;rw[gM]at hv;cases e:capt[i]? with
  | none=>rw[e]at hv;cases hv
  | some o =>
   rw[e]at hv;cases o with
   | none=>cases hv
   | some j =>
    have Ax:(σ[j]?).join=some v:=by simpa using hv
    have hv2:σ[j]? = some (some v):=by
     cases q:σ[j]? with
     | none=>rw[q]at Ax;cases Ax
     | some z=>rw[q]at Ax;cases Ax;rfl
    obtain⟨h1,h2,h3⟩:=uF.at_ e hN';obtain⟨m0,hm0,hl⟩:=I.loc;have hvx:Vis X.env.scope x:=by
     rcases h2 with h2 | h2
     ·exact .inr (.inl h2)
     ·exact .inr (.inr h2)
    obtain⟨u,r,lk⟩:=hl j x v h1 hv2 hvx;refine⟨u,r,?_⟩;rcases lk with⟨k1,_⟩ | ⟨_,c,k2,k3⟩
    ·rcases h2 with h2 | h2<;>(rw[h2]at k1;cases k1)
    ·obtain⟨c',hc'⟩:=uG x (mem_of_lookup h3);have:=uE x c' hc';rw[k2]at this;cases this;refine .inr ⟨zfp h3,c,hc',?_⟩;obtain⟨o,e1,e2⟩:=k3;exact⟨o,hk c o e1,e2⟩
 cell:=λx c h=>by
  obtain⟨v,o,e1,e2⟩:=I.cell x c (uE x c h);exact⟨v,o,hk c o e1,e2⟩
 free:=I.bJ.fresh hC
 jE:=λx c h=>I.jE x c (uE x c h)
 pin:=λp hp=>by simp[cO]at hp
 bJ:=I.bJ.kept hk
 len:=by show (jw capt σ).length=N.length;unfold jw;rw[gh];exact uF.len
end
noncomputable abbrev Bt(ifs:List Expr)(env:Env):Sem Bool:=forIn ifs true λc r=>if r=true then do let ok <-isTrue c env (eval c env);pure (ForInStep.yield ok) else pure (ForInStep.yield r)
theorem zm5(I:Nat->Shared->Prop) 
  (turn:∀n s,I n s->wpAny (model prog w) A (pyNext it) (λr aeQ=>match r with
   | none=>R (.ok .next) aeQ
   | some v=>wpAny (model prog w) A (letOwnedTupleGo target it v) (λ_ aeq=>wpAny (model prog w) A (assign target env v) (λ_ aeP =>
     wpAny (model prog w) A (Bt ifs env) (λok aeO =>
      if ok=true then wpAny (model prog w) A (eval elt env) (λx aeN =>
       wpAny (model prog w) A (call (.builtin "list.append") [acc,x]) (λ_ aeM=>∃m,m<n/\I m aeM) (λ_ _=>False) aeN) (λ_ _=>False) aeO
      else ∃m,m<n/\I m aeO) (λ_ _=>False) aeP) (λ_ _=>False) aeq) (λ_ _=>False) aeQ) (λ_ _=>False) s)
  (n:Nat) (h:I n s) :
  codeAny (model prog w) A (.compLoop (.ListComp elt [⟨target,iter,ifs,0⟩] scope pos) 0 it acc env) R s:=by
 refine codeAny_loop rfl I (λn s hI=>?_) n h;show wpAny _ A ((compTurn (.ListComp elt [⟨target,iter,ifs,0⟩] scope pos) 0 it acc env).onRaise (λx=>do noteFrame x env;theTreesLotGoes x)) _ _ s;refine wpAny_noted ?_;rw[compTurn_list];refine ae0 (wpAny_standAt (ae0 (afe (turn n s hI) (λr aeQ aeY=>?_) λ_ _ h'=>h'.elim)));cases r with
 | none=>exact ae3 aeY
 | some v =>
  refine ae0 (afe aeY (λ_ aeq aeH=>?_) λ_ _ h'=>h'.elim);refine ae0 (afe aeH (λ_ aeP aeX=>ae0 (afe aeX (λok aeO aeW=>?_) λ_ _ h'=>h'.elim)) λ_ _ h'=>h'.elim);cases ok with
  | false=>exact ae3 ⟨rfl,aeW⟩
  | true =>
   exact ae0 (ae0 (afe aeW (λx aeN aeV=>ae0 (afe aeV (λ_ aeM aeU=>ae3 (ae3 ⟨rfl,aeU⟩)) λ_ _ h'=>h'.elim)) λ_ _ h'=>h'.elim))
def PTs(X:Cx)(ifs:List Expr)(t:TT):Prop :=
 ∀(pins:List (Addr×Obj)) (s:Shared) (σ:St) (H:Hp) (Q:Bool->Hp->Prop),Inv X pins σ H s->t σ H Q->wpAny (model X.prog X.w) X.A (Bt ifs X.env) (TP X pins σ Q) X.xe s
def Pb:PTs X [] (fun σ H Q=>Q true H):=λpins s σ H Q I h=>wpAny_tests_nil ⟨H,I,h⟩
noncomputable def Hs(capt:List (Option Nat))(wi:TI)(g:TG)(tt:TT)(te:TE):TE:=fun σ H Q=>wi σ H λJ H1=>∀D,H1 D=none->∃W:Nat->Nat->St->Hp->Prop,(∃m,W 0 m (jw capt σ) (upd H1 D (.lst []))) /\
 ∀i m σ' H',W i m σ' H'->(J.stop i H'/\Q (.ref D) H')\/(J.go i H'/\∃N:St->Hp->Prop,(∀σ2 H2,N σ2 H2->∃m',m'<m/\W (i+1) m' σ2 H2) /\
  ∀x H2,J.yld i H' x H2->g x σ' H2 fun σ3 H3=>tt σ3 H3 λok H4=>if ok=true then te σ3 H4 λy H5=>∃xs,H5 D=some (.lst xs)/\xs.length<sizeLine/\N σ3 (upd H5 D (.lst (xs++[y]))) else N σ3 H4)
section
variable  {X:Cx}{elt tg iter:Expr}{ifs:List Expr}{scope:Scope}{pos:Pos}{N:List Str}{capt:List (Option Nat)}{wi:TI}{g:TG}{tt:TT}{te:TE}
def zmn{pins:List (Addr×Obj)}{σ:St}{H:Hp}{s:Shared}{it:Addr}{fp:List Addr}{tn:Nat->Heap->Prop}{J:It}{cl:List (Str×Addr)}{Q:VK}{E:Value->Shared->Prop}{RR:Value->Addr->Result->Shared->Prop}
  (I:Inv X pins σ H s) (T:Turn X.prog X.w X.K tg J fp it tn) (st:tn 0 s.heap) (hf:∀b∈fp,qy X pins H b)
  (S:fu scope) (uE:∀x c,cl.lookup x=some c->X.env.cells.lookup x=some c) (uG:∀x,(x,NameKind.free)∈scope.names->∃c,cl.lookup x=some c) (uF:lD X scope capt N) (hc:X.calm=true)
  (hg:∀cl C fp s H,PG (cO X N scope cl C fp s H) tg g) (ht:∀cl C fp s H,PTs (cO X N scope cl C fp s H) ifs tt) (he:∀cl C fp s H,PE (cO X N scope cl C fp s H) elt te)
  (h:∀D,H D=none->∃W:Nat->Nat->St->Hp->Prop,(∃m,W 0 m (jw capt σ) (upd H D (.lst []))) /\
   ∀i m σ' H',W i m σ' H'->(J.stop i H'/\Q (.ref D) H')\/(J.go i H'/\∃N:St->Hp->Prop,(∀σ2 H2,N σ2 H2->∃m',m'<m/\W (i+1) m' σ2 H2) /\
    ∀x H2,J.yld i H' x H2->g x σ' H2 fun σ3 H3=>tt σ3 H3 λok H4=>if ok=true then te σ3 H4 λy H5=>∃xs,H5 D=some (.lst xs)/\xs.length<sizeLine/\N σ3 (upd H5 D (.lst (xs++[y]))) else N σ3 H4))
  (hRR:∀(D C:Addr) (H':Hp) (s':Shared) (m:Str->Option Value),s'.heap.Ns C m->Inv X pins σ H' s'->qy X pins H' C->Q (.ref D) H'->RR (.ref D) C (.ok .next) s') :
  wpAny (model X.prog X.w) X.A (newList []) (λacc aeO=>wpAny (model X.prog X.w) X.A (newFunctionEnv scope X.env.globals cl [] X.env.qual none .none (some X.env)) (λabS aeN =>
   codeAny (model X.prog X.w) X.A (.compStart (.ListComp elt [⟨tg,iter,ifs,0⟩] scope pos) 0 (.ref it) acc { abS with scope:=relabel scope X.env }) (RR acc abS.locals) aeN) E aeO) E s:=by
 have hD:H s.heap.objs.size=none:=I.bJ.fresh (gb _);have I3:Inv X pins σ (upd H s.heap.objs.size (.lst [])) { s with heap:=s.heap.push { cls:=.type "list",dict:=none,data:=.seq ([]:List Value).toArray } } :=
  I.laid (t':=s.toks) (λb o q=>g8 _ q) (gb _) ⟨by show 0<=sizeLine;decide,[],0,.nil,gU _ rfl⟩
 obtain⟨W,⟨m0,w0⟩,turn⟩:=h _ hD;refine afi (wpAny_newFunctionEnv S.cell (by intro y hy;simp at hy) (λaeY XJ XD=>?_) S.kind);dsimp only at XJ XD ⊢;generalize hH2:s.heap.push { cls:=.type "list",dict:=none,data:=.seq ([]:List Value).toArray }=Hh at XJ XD I3 ⊢;have Ue:∀b∈fp,b<s.heap.objs.size:=λb hb=>by
  obtain⟨o,e,_⟩:=T.obj 0 s.heap st b hb;exact gr e
 have szH:Hh.objs.size=s.heap.objs.size+1:=by rw[<-hH2,Heap.size_push]
 have abG:∀b∈fp,b<Hh.objs.size:=λb hb=>by rw[szH];exact Nat.lt_succ_of_lt (Ue b hb)
 have Z9:∀b∈fp,qy X pins (upd H s.heap.objs.size (.lst [])) b:=λb hb=>by
  obtain⟨f0,fr⟩:=hf b hb;exact⟨by rw[iz (gR (Ue b hb))];exact f0,fr⟩
 have Ri:∀b o,Hh.get? b=some o->aeY.get? b=some o:=λb o e=>XD.extBut b o (gR (gr e)) (g8 _ e);have st1:tn 0 aeY:=T.keep 0 _ _ st λb hb o e=>Ri b o (by rw[<-hH2];exact g8 _ e);generalize hX:cO X N scope cl Hh.objs.size fp { s with heap:=Hh } (upd H s.heap.objs.size (.lst []))=X';have I4:Inv X' [] (jw capt σ) (upd H s.heap.objs.size (.lst [])) { s with heap:=aeY,toks:=s.toks+([]:List (Str×Value)).length }:=by
  rw[<-hX];exact Ma (capt:=capt) I3 S uE uG (gb _) Z9 abG uF XJ Ri
 have eP:X'.prog=X.prog:=by rw[<-hX];rfl
 have ew:X'.w=X.w:=by rw[<-hX];rfl
 have eK:X'.K=X.K:=by rw[<-hX];rfl
 have eA:X'.A=X.A:=by rw[<-hX];rfl
 have eC:X'.calm=true:=by rw[<-hX];exact hc
 have eE:X'.env=compEnvC scope cl Hh.objs.size X.env:=by rw[<-hX];rfl
 have eX:X'.xe=λ_ _=>False:=by rw[<-hX];rfl
 have ePn:X'.pn=[]:=by rw[<-hX];rfl
 have hg':PG X' tg g:=by rw[<-hX];exact hg _ _ _ _ _
 have ht':PTs X' ifs tt:=by rw[<-hX];exact ht _ _ _ _ _
 have he':PE X' elt te:=by rw[<-hX];exact he _ _ _ _ _
 have stat:∀{H':Hp},(∀b∈fp,H' b=none)->∀b∈fp,qy X' [] H' b:=λ{H'} hn b hb=>by
  rw[<-hX];refine⟨hn b hb,gR (abG b hb),λz=>?_,.inl hb,λx c q=>(hf b hb).2.2.2.2.1 x c (uE x c q),λp hp=>by simp[cO]at hp⟩;rcases gq.mp (I3.uZ b z) with e | e
  ·exact (hf b hb).2.1 e
  ·exact (hf b hb).2.2.1 e
 have back:∀{σ':St} {H':Hp} {s':Shared},Inv X' [] σ' H' s'->∀h'',Heap.SameBut Hh.objs.size s'.heap h''->Inv X pins σ H' { s' with heap:=h'' }:=λ{σ' H' s'} I' h'' sb=>by
  have u:=I'.base;rw[<-hX]at u;have Nh:∀b o,Hh.get? b=some o->b≠Hh.objs.size:=λb o e=>gR (gr e);have nC:H' Hh.objs.size=none:=by have:=I'.free;rw[eE]at this;exact this
  refine I3.abZ (s':={ s' with heap:=h'' }) (ch:=fp) (by have:=I'.os;rw[<-hX]at this;exact this) ?_ ?_ I'.bare (λb hb=>⟨(Z9 b hb).2.2.2.1,(Z9 b hb).2.1,(Z9 b hb).2.2.2.2.1,(Z9 b hb).2.2.2.2.2⟩)
  ·exact⟨λb o e n hb hx=>sb.extBut b _ (Nh b o e) (u.keep b o e n hb hx),λb o e n hb hx=>let ⟨sl,q⟩:=u.slot b o e n hb hx;⟨sl,sb.extBut b _ (Nh b o e) q⟩,u.free,
    λb o e hx=>let ⟨o',q⟩:=u.there b o e hx;⟨o',sb.extBut b _ (Nh b o e) q⟩,u.uU,u.tu,u.uw⟩
  ·have hk:=I'.bJ;rw[eP,ew]at hk;intro b ob e;have nb:∀c v,H' c=some v->c≠Hh.objs.size:=λc v q=>z7 q nC;refine (hk b ob e).uB (λc v hc q=>sb.extBut c v ?_ q) (λ_ q=>q) λ_ _ q=>q;rcases hc with z | z
   ·rw[z];exact nb b _ e
   ·exact nb c _ z
 have loop:∀aeO:Shared,aeO={ s with heap:=aeY,toks:=s.toks+([]:List (Str×Value)).length } ->
   codeAny (model X.prog X.w) X.A (.compLoop (.ListComp elt [⟨tg,iter,ifs,0⟩] scope pos) 0 (.ref it) (.ref s.heap.objs.size) (compEnvC scope cl Hh.objs.size X.env)) (RR (.ref s.heap.objs.size) Hh.objs.size) aeO:=by
  rintro aeO rfl;refine zm5 (λn s'=>∃i σ' H',Inv X' [] σ' H' s'/\tn i s'.heap/\(∀b∈fp,H' b=none)/\W i n σ' H') ?_ m0 ⟨0,_,_,I4,st1,λb hb=>(Z9 b hb).1,w0⟩;rintro n s3 ⟨i,σ3,H3,I5,fO,fr3,w3⟩;rw[<-eP,<-ew,<-eA,<-eE];rcases turn i n σ3 H3 w3 with⟨stop,qn⟩ | ⟨go,Nn,hN,step⟩
  ·have d:=T.done X' eP ew eK eC i [] s3 σ3 H3 (λ_ _=>False) I5 (stat fr3) fO stop;rw[<-eP,<-ew]at d;refine cC d λr s4 zz=>?_;obtain⟨hr,I6⟩:=zz;subst hr;obtain⟨mm,FP,_⟩:=I6.loc;rw[eE]at FP;have nC:H3 Hh.objs.size=none:=by have:=I6.free;rw[eE]at this;exact this
   exact hRR _ _ H3 s4 mm FP (back I6 s4.heap (.refl ..)) (I3.uH (gb _) nC) qn
  ·have d:=T.item X' eP ew eK eC i [] s3 σ3 H3 (λ_ _=>False) I5 (stat fr3) fO go;rw[<-eP,<-ew]at d;refine cC d λr s4 zz=>?_;obtain⟨u,hr,h4⟩:=zz;subst hr;refine cC h4 λ_ s5 zz=>?_;obtain⟨x,H5,I6,r5,y5,Ei,fr5⟩:=zz;have I6':=I6.pinned (stat fr5) (T.obj _ _ Ei);have dg:=hg' _ s5 σ3 H5 x u _ I6' r5 (step x H5 y5);rw[eX]at dg;refine cC dg λ_ s6 zz=>?_;obtain⟨σ6,H6,I7,q6⟩:=zz;have dt:=ht' _ s6 σ6 H6 _ I7 q6;rw[eX]at dt;refine cC dt λok s7 zz=>?_;obtain⟨H7,I8,q7⟩:=zz;have again:∀{σ9:St} {H9:Hp} {s9:Shared},Inv X' ([]++vd fp s5.heap) σ9 H9 s9->Nn σ9 H9->∃m,m<n/\∃i σ' H',Inv X' [] σ' H' s9/\tn i s9.heap/\(∀b∈fp,H' b=none)/\W i m σ' H':=λ{σ9 H9 s9} I9 n9=>by
    obtain⟨m',hm,w9⟩:=hN σ9 H9 n9;refine⟨m',hm,i+1,σ9,H9,I9.qz,T.keep _ _ _ Ei λb hb o e=>(I9.pin (b,o) (my _ (my _ (zf3 hb e)))).1,λb hb=>?_,w9⟩;obtain⟨o,e,d⟩:=T.obj _ _ Ei b hb;exact (I9.pin (b,o) (my _ (my _ (zf3 hb e)))).2.1
   cases ok with
   | false=>exact again I8 q7
   | true =>
    have de:=he' _ s7 σ6 H7 _ I8 q7;rw[eX]at de;refine cC de λy s8 zz=>?_;obtain⟨v,H8,I9,r8,q8⟩:=zz;obtain⟨xs,hx,hz,nn⟩:=q8;have da:=zo5 (X:=X') _ s8 σ6 H8 (.ref s.heap.objs.size) [v] (.ref s.heap.objs.size) [y] (λ_ H9=>Nn σ6 H9) I9 rfl (.cons r8 .nil) ⟨_,xs,v,rfl,rfl,hx,hz,nn⟩;rw[eX]at da;refine cC da λ_ s9 zz=>?_;obtain⟨_,H9,I10,_,n9⟩:=zz;exact again I10 n9
 exact codeAny_compStart_list (loop _ rfl) (T.self _ 0 _ _ _ st1 (loop _ rfl))
def zmj(I:Inv X pins σ H s)(Rj:∀x∈scope.names,x.2=.free->X.env.kindOf x.1=some .cell\/X.env.kindOf x.1=some .free) :
  ∃cl,closureFor scope X.env=pure cl/\(∀x c,cl.lookup x=some c->X.env.cells.lookup x=some c)/\∀x,(x,NameKind.free)∈scope.names->∃c,cl.lookup x=some c :=
 zli λx hx hk=>I.ok.has x.1 (Rj x hx hk)
def Inv.xr(I:Inv X pins σ H s)(f:qy X pins H C)(sb:Heap.SameBut C s.heap h'):Inv X pins σ H { s with heap:=h' } :=
 I.turned (t':=s.toks) (λb o hb e=>sb.extBut b o hb e) f.1 f.2.1 f.2.2.2.1 f.2.2.2.2.1 f.2.2.2.2.2
def Qd(hi:PI X tg iter wi)(S:fu scope)(Rj:∀x∈scope.names,x.2=.free->X.env.kindOf x.1=some .cell\/X.env.kindOf x.1=some .free)(uF:lD X scope capt N)(hc:X.calm=true)
  (hg:∀cl C fp s H,PG (cO X N scope cl C fp s H) tg g) (ht:∀cl C fp s H,PTs (cO X N scope cl C fp s H) ifs tt) (he:∀cl C fp s H,PE (cO X N scope cl C fp s H) elt te)
  (hs:∀x,foldedSetIterable iter X.env x=pure x:=by intro _;rfl):PE X (.ListComp elt [⟨tg,iter,ifs,0⟩] scope pos) (Hs capt wi g tt te):=by
 intro pins s σ H Q I h;obtain⟨cl,uE,h1,h2⟩:=zmj I Rj;rw[eval_ListComp];refine wpAny_comprehension_free (use:=none) rfl hs uE S.kind S.names (cC (hi pins s σ H _ I h) λv s1 q1=>cC q1 λitv s2 q2=>?_);obtain⟨it,fp,tn,J,H2,e,I2,T,st2,f2,q⟩:=q2;subst e;refine zmn (RR:=λacc C=>compPost (model X.prog X.w) X.A X.xe none (EP X pins σ Q) acc C) I2 T st2 f2 S h1 h2 uF hc hg ht he q ?_;intro D C H' s' m hn I' f' q';exact⟨m,hn,λh'' sb=>⟨.ref D,H',I'.xr f' sb,rfl,q'⟩⟩
def zr8(hN:X.N.Nodup)(hy:X.N[i]? = some y)(hx:Loc X.env.scope y)(hsw:swapsWith (.ListComp elt [⟨tg,iter,ifs,0⟩] scope pos) (some (.Name y py)) Vp.line X.env=pure true) 
  (hi:PI X tg iter wi) (S:fu scope) (Rj:∀x∈scope.names,x.2=.free->X.env.kindOf x.1=some .cell\/X.env.kindOf x.1=some .free) (uF:lD X scope capt N) (hc:X.calm=true)
  (hg:∀cl C fp s H,PG (cO X N scope cl C fp s H) tg g) (ht:∀cl C fp s H,PTs (cO X N scope cl C fp s H) ifs tt) (he:∀cl C fp s H,PE (cO X N scope cl C fp s H) elt te)
  (hs:∀x,foldedSetIterable iter X.env x=pure x:=by intro _;rfl) (hf:X.fn y=true\/X.env.scope.names.lookup y=some .local:=by first | exact .inl rfl | exact .inr rfl | assumption) :
  PS X (.Assign [.Name y py] (.ListComp elt [⟨tg,iter,ifs,0⟩] scope pos) Vp) (Vl (Hs capt wi g tt te) (CW i)):=by
 intro pins s σ H D I h;obtain⟨cl,uE,h1,h2⟩:=zmj I Rj;rw[exec_Assign_Name_used _ _ _ _ hsw];refine ae0 (wpAny_standAt (ae0 ?_));show wpAny _ X.A (do let _ <-comprehension (.ListComp elt [⟨tg,iter,ifs,0⟩] scope pos) scope X.env _ (newList []) false (eval iter X.env) (some (assign (.Name y py) X.env))) _ _ s;refine ae0 (afe (wpAny_comprehension_free (use:=some (assign (.Name y py) X.env)) (Q:=λ_ s'=>SP X pins D .next s') rfl hs uE S.kind S.names
  (cC (hi pins s σ H _ I h) λv s1 q1=>cC q1 λitv s2 q2=>?_)) (λ_ s' hq=>ae3 (ae3 hq)) λ_ _ e=>e)
 obtain⟨it,fp,tn,J,H2,e,I2,T,st2,f2,q⟩:=q2;subst e;refine zmn (Q:=λx H1=>CW i x σ H1 D.nx) (RR:=λacc C=>compPost (model X.prog X.w) X.A X.xe (some (assign (.Name y py) X.env)) (λ_ s'=>SP X pins D .next s') acc C) I2 T st2 f2 S h1 h2 uF hc hg ht he q ?_;intro D' C H' s' m hn I' f' q';show wpAny _ X.A (assign (.Name y py) X.env (.ref D')) _ _ _;refine wpAny_assign_Name (zog I' hN hy hx (v:=.ref D') rfl (λs'' I'' zz=>?_) hf);obtain⟨a,sb,ha⟩:=zz;have Nh:C≠a:=by
  rcases ha with e | e
  ·rw[e];exact f'.2.1
  ·exact afb (f'.2.2.2.2.1 _ _ e)
 obtain⟨o,es,ep,ho,r⟩:=hn;exact⟨m,⟨o,es,ep,sb.extBut C o Nh ho,r⟩,λh'' sb'=>⟨_,H',I''.xr f' sb',q'⟩⟩
end
end L2
namespace M
open PySem PySem.Spec L2
inductive D where
 | non | bl (b:Bool) | int (i:Int) | str (cs:List Nat) | tup (xs:List D) | loc (n:Nat)
instance:Inhabited D:=⟨.non⟩
structure eO where
 qual:Str
 params:Arguments
 body:Expr
 scope:Scope
 oW:List Str
inductive MO where
 | lst (xs:List D) | frz (xs:List D) | dic (kvs:List (List Key×D)) | dkc (kvs:List (Key×D))
 
 | dkf (kvs:List (Key×D))
 
 | dtf (kvs:List (List Key×D))
 
 | ins (c:Str) (fs:List (Str×D))
 
 | tab (x:Str)
 
 | clo (j:Nat) (l:eO) (ds:List D)
 
 | exc (c:String) (d:D)
 
 | hid
noncomputable abbrev ak:=List MO
noncomputable abbrev aJ:=List (Option D)
structure Xc where
 cls:String
 fld:D
inductive R (α:Type) where
 | ok (a:α) (st:ak) | err (x:Xc) (st:ak) | bad
def dq{α:Sort u}{a b:α}(h:a=b):a=b:=h
noncomputable def R.bind{α β:Type}(r:R α)(f:α->ak->R β):R β:=match r with
 | .ok a st=>f a st
 | .err x st=>.err x st
 | .bad=>.bad
@[simp] def R.aB{α β:Type}(a:α)(st:ak)(f:α->ak->R β):(R.ok a st).bind f=f a st:=dq rfl
@[simp] def R.rO{α β:Type}(x:Xc)(st:ak)(f:α->ak->R β):(R.err x st:R α).bind f=.err x st:=dq rfl
@[simp] def R.rP{α β:Type}(f:α->ak->R β):(R.bad:R α).bind f=.bad:=dq rfl
noncomputable abbrev strOf(cs:List Nat):Str:=⟨cs.toArray⟩
instance aer {K:PySem.W.Frag} {H:Hp} {a:Addr} {xs:List V}:CoeTail (H a=some (.tup xs)) (oK K H a xs):=⟨oK.of⟩
noncomputable def Fd:List D->Bool
 | []=>false
 | .int _::r=>Fd r
 | .str _::r=>Fd r
 | _::_=>true
noncomputable def GF:List D->Bool
 | []=>true
 | .str _::r=>GF r
 | _::_=>false
noncomputable def Cm(ds:List D):Bool:=GF ds || Fd ds
def zF(K:PySem.W.Frag)(H:Hp)(a:Addr)(xs:List V)(ds:List D):Prop :=
 H a=some (.tup xs)\/(Cm ds=true/\∃(o:Obj) (its:Array Value) (n:Nat),K.lookup a=some o/\o.cls=.type "tuple"/\o.data=.seq its n/\its.size<=sizeLine/\Vals xs its.toList)
def zF.qP(h:zF K H a xs ds):oK K H a xs:=by
 rcases h with h | ⟨_,h⟩
 ·exact oK.of h
 ·exact .inr h
mutual
def ao(K:PySem.W.Frag)(μ:List Addr)(H:Hp):D->V->Prop
 | .non,v=>v=.non
 | .bl b,v=>v=.bl b
 | .int i,v=>v=.int i
 | .str cs,v=>v=.str (strOf cs)
 | .tup ds,v=>∃a xs,v=.ref a/\zF K H a xs ds/\aq K μ H ds xs
 | .loc n,v=>∃a,μ[n]? = some a/\v=.ref a
def aq(K:PySem.W.Frag)(μ:List Addr)(H:Hp):List D->List V->Prop
 | [],vs=>vs=[]
 | d::ds,vs=>∃v r,vs=v::r/\ao K μ H d v/\aq K μ H ds r
end
structure Ext(H H':Hp):Prop where
 tup:∀b xs,H b=some (.tup xs)->H' b=some (.tup xs)
 frz:∀b o u,H b=some (.frz o u)->H' b=some (.frz o u)
def Ext.refl(H:Hp):Ext H H:=⟨λ_ _ h=>h,λ_ _ _ h=>h⟩
def Ext.trans(a:Ext H H1)(b:Ext H1 H2):Ext H H2:=⟨λc xs h=>b.tup c xs (a.tup c xs h),λc o u h=>b.frz c o u (a.frz c o u h)⟩
def Ext.qP(e:Ext H H')(h:oK K H a xs):oK K H' a xs:=by
 rcases h with (h | ⟨o,h⟩) | h
 ·exact .inl (.inl (e.tup _ _ h))
 ·exact .inl (.inr ⟨o,e.frz _ _ _ h⟩)
 ·exact .inr h
def Ext.acx(e:Ext H H')(h:zF K H a xs ds):zF K H' a xs ds:=by
 rcases h with h | h
 ·exact .inl (e.tup _ _ h)
 ·exact .inr h
def Ext.new(h:H p=none):Ext H (upd H p o) :=
 ⟨λb xs q=>by rw[iz (z7 q h)];exact q,λb o' u q=>by rw[iz (z7 q h)];exact q⟩
structure a_(μ:List Addr)(H:Hp)(μ':List Addr)(H':Hp):Prop where
 pre:∃ν,μ'=μ++ν
 ext:Ext H H'
def a_.refl(μ:List Addr)(H:Hp):a_ μ H μ H:=⟨⟨[],by simp⟩,.refl H⟩
def a_.trans(a:a_ μ H μ1 H1)(b:a_ μ1 H1 μ2 H2):a_ μ H μ2 H2:=by
 obtain⟨ν1,rfl⟩:=a.pre;obtain⟨ν2,rfl⟩:=b.pre;exact⟨⟨ν1++ν2,by simp⟩,a.ext.trans b.ext⟩
def a_.get{μ μ':List Addr}{H H':Hp}(g:a_ μ H μ' H'){n:Nat}{a:Addr}(h:μ[n]? = some a):μ'[n]? = some a:=by
 obtain⟨ν,rfl⟩:=g.pre;rw[gF (gf.mp h).1];exact h
mutual
theorem ao.mono{K:PySem.W.Frag}{μ μ':List Addr}{H H':Hp}(g:a_ μ H μ' H'):∀(d:D) {v:V},ao K μ H d v->ao K μ' H' d v
 | .non,_,h=>by simpa[ao] using h
 | .bl _,_,h=>by simpa[ao] using h
 | .int _,_,h=>by simpa[ao] using h
 | .str _,_,h=>by simpa[ao] using h
 | .tup ds,_,h=>by
  rw[ao]at h ⊢;obtain⟨a,xs,rfl,h1,h2⟩:=h;exact⟨a,xs,rfl,g.ext.acx h1,aq.mono g ds h2⟩
 | .loc n,_,h=>by
  rw[ao]at h ⊢;obtain⟨a,h1,rfl⟩:=h;exact⟨a,g.get h1,rfl⟩
theorem aq.mono(g:a_ μ H μ' H'):∀(ds:List D) {vs:List V},aq K μ H ds vs->aq K μ' H' ds vs
 | [],_,h=>by simpa[aq] using h
 | d::ds,_,h=>by
  rw[aq]at h ⊢;obtain⟨v,r,rfl,h1,h2⟩:=h;exact⟨v,r,rfl,ao.mono g d h1,aq.mono g ds h2⟩
end
section
variable  {K:PySem.W.Frag}{μ:List Addr}{H:Hp}
theorem aq.length:∀{ds:List D} {vs:List V},aq K μ H ds vs->ds.length=vs.length
 | [],_,h=>by rw[aq]at h;subst h;rfl
 | d::ds,_,h=>by
  rw[aq]at h;obtain⟨v,r,rfl,_,h2⟩:=h;rw[gw,gw,aq.length h2]
theorem aq.get:∀{ds:List D} {vs:List V} {i:Nat} {d:D},aq K μ H ds vs->ds[i]? = some d->∃v,vs[i]? = some v/\ao K μ H d v
 | [],_,_,_,_,e=>by simp at e
 | d::ds,_,0,_,h,e=>by
  rw[aq]at h;obtain⟨v,r,rfl,h1,_⟩:=h;simp at e;subst e;exact⟨v,rfl,h1⟩
 | d::ds,_,i+1,x,h,e=>by
  rw[aq]at h;obtain⟨v,r,rfl,_,h2⟩:=h;obtain⟨u,h3,h4⟩:=aq.get (i:=i) h2 (by simpa using e);exact⟨u,by simpa using h3,h4⟩
theorem aq.append:∀{ds es:List D} {vs ws:List V},aq K μ H ds vs->aq K μ H es ws->aq K μ H (ds++es) (vs++ws)
 | [],_,_,_,h,k=>by rw[aq]at h;subst h;exact k
 | d::ds,es,_,ws,h,k=>by
  rw[aq]at h;obtain⟨v,r,rfl,h1,h2⟩:=h;show aq K μ H (d::(ds++es)) (v::(r++ws));rw[aq];exact⟨v,r++ws,rfl,h1,aq.append h2 k⟩
def aq.nil:aq K μ H [] []:=by rw[aq]
def aq.cons(h:ao K μ H d v)(k:aq K μ H ds vs):aq K μ H (d::ds) (v::vs):=by rw[aq];exact⟨v,vs,rfl,h,k⟩
theorem aq.take:∀{ds:List D} {vs:List V} (n:Nat),aq K μ H ds vs->aq K μ H (ds.take n) (vs.take n)
 | _,_,0,_=>by simp[aq]
 | [],_,n+1,h=>by rw[aq]at h;subst h;simp[aq]
 | d::ds,_,n+1,h=>by
  rw[aq]at h;obtain⟨v,r,rfl,h1,h2⟩:=h;exact aq.cons h1 (aq.take n h2)
theorem aq.drop:∀{ds:List D} {vs:List V} (n:Nat),aq K μ H ds vs->aq K μ H (ds.drop n) (vs.drop n)
 | _,_,0,h=>h
 | [],_,n+1,h=>by rw[aq]at h;subst h;simp[aq]
 | d::ds,_,n+1,h=>by
  rw[aq]at h;obtain⟨v,r,rfl,h1,h2⟩:=h;exact aq.drop n h2
def aq.reverse{ds:List D}{vs:List V}(h:aq K μ H ds vs):aq K μ H ds.reverse vs.reverse:=by
 induction ds generalizing vs with
 | nil=>rw[aq]at h;subst h;simp[aq]
 | cons d ds ih =>
  rw[aq]at h;obtain⟨v,r,rfl,h1,h2⟩:=h;rw[nq,nq];exact (ih h2).append (aq.cons h1 aq.nil)
def ao.aF:ao K μ H (.int i) v↔v=.int i:=by rw[ao]
def ao.bw:ao K μ H (.bl b) v↔v=.bl b:=by rw[ao]
def ao.bC:ao K μ H .non v↔v=.non:=by rw[ao]
def ao.aO:ao K μ H (.str cs) v↔v=.str (strOf cs):=by rw[ao]
def ao.aR:ao K μ H (.tup ds) v ↔ ∃a xs,v=.ref a/\zF K H a xs ds/\aq K μ H ds xs:=by rw[ao]
def ao.aG:ao K μ H (.loc n) v ↔ ∃a,μ[n]? = some a/\v=.ref a:=by rw[ao]
end
def aH{κ:Type}(K:PySem.W.Frag)(μ:List Addr)(H:Hp):List (κ×D)->List (κ×V)->Prop
 | [],vs=>vs=[]
 | (k,d)::ds,vs=>∃v r,vs=(k,v)::r/\ao K μ H d v/\aH K μ H ds r
theorem aH.mono(g:a_ μ H μ' H'):∀{ds:List (κ×D)} {vs:List (κ×V)},aH K μ H ds vs->aH K μ' H' ds vs
 | [],_,h=>h
 | (k,d)::ds,_,⟨v,r,e,h1,h2⟩=>⟨v,r,e,h1.mono g d,aH.mono g h2⟩
def yx(K:PySem.W.Frag)(H:Hp)(a:Addr)(xs:List V):Prop :=
 (∃o,H a=some (.frz o (.lst xs)))\/∃(o:Obj) (its:Array Value) (n:Nat),K.lookup a=some o/\o.cls=.type "list"/\o.dict=none/\o.data=.seq its n/\its.size<=sizeLine/\Vals xs its.toList
def yx.sqL(h:yx K H a xs):oF K H a xs:=by
 rcases h with h | h
 ·exact .inl (.inr h)
 ·exact .inr h
def yx.ext(e:Ext H H')(h:yx K H a xs):yx K H' a xs:=by
 rcases h with⟨o,h⟩ | h
 ·exact .inl ⟨o,e.frz _ _ _ h⟩
 ·exact .inr h
noncomputable def MO.mut:MO->Bool
 | .frz _=>false
 | .clo _ _ _=>false
 | .hid=>false
 | .dkf _=>false
 | .dtf _=>false
 | .exc _ _=>false
 | _=>true
def rR(H:Hp)(c:Addr)(q:Str):Prop:=∃oc vs t,H c=some (.frz oc (.own 0))/\oc.data=.fields vs/\vs[1]? = some (.str q t)
def eQ(H:Hp):List (Str×Addr)->List V->Prop
 | [],vs=>vs=[]
 | (_,c)::cl,vs=>∃v r o u,vs=v::r/\H c=some (.frz o (.own 0))/\o.data=.cell (some u)/\RelV v u/\eQ H cl r
def rR.ext(e:Ext H H')(h:rR H c q):rR H' c q :=
 let ⟨oc,vs,t,h1,h2⟩:=h;⟨oc,vs,t,e.frz _ _ _ h1,h2⟩
theorem eQ.ext(e:Ext H H'):∀{cl:List (Str×Addr)} {vs:List V},eQ H cl vs->eQ H' cl vs
 | [],_,h=>h
 | (_,c)::cl,_,⟨v,r,o,u,h1,h2,h3,h4,h5⟩=>⟨v,r,o,u,h1,e.frz _ _ _ h2,h3,h4,eQ.ext e h5⟩
noncomputable def qX(x:Str):Str:=x ++ ".<locals>." ++ "<lambda>"
def fM(K:PySem.W.Frag)(μ:List Addr)(H:Hp)(a:Addr):MO->Prop
 | .lst ds=>∃xs,H a=some (.lst xs)/\aq K μ H ds xs
 | .frz ds=>∃xs,yx K H a xs/\aq K μ H ds xs
 | .dic kvs=>∃ws,H a=some (.dT ws)/\aH K μ H kvs ws
 | .dkc kvs=>∃ws,H a=some (.dK ws)/\aH K μ H kvs ws
 | .dkf kvs=>∃ws o,H a=some (.frz o (.dK ws))/\aH K μ H kvs ws
 | .dtf kvs=>∃ws o,H a=some (.frz o (.dT ws))/\aH K μ H kvs ws
 | .ins c fs=>∃C dx ws,PySem.W.nsIn K mainGlobals c=some (some (.ref C))/\H a=some (.ins C dx ws)/\aH K μ H fs ws
 | .tab x=>(∃(fa:Addr) (o:Obj) (fd:FuncData) (c:Addr),PySem.W.nsIn K mainGlobals x=some (some (.ref fa))/\K.lookup fa=some o/\o.data=.func fd/\fd.code=.ref c/\PySem.W.codeHdIn K c a=true) /\
   ∃ps:Array Value,H a=some (.tbl ps)/\TriplesOk ps.toList/\∀pos cv,codeAmong pos ps.toList=some cv->∃c',cv=.ref c'/\rR H c' (qX x)
 | .clo _ l ds=>∃(cl:List (Str×Addr)) (pm:Value) (c':Addr) (rH:Value) (vs:List V),H a=some (.frz (PySem.W.kla_obj "<lambda>" l.qual l.params l.body l.scope cl pm c' rH) (.own 0))/\rR H c' l.qual /\
   cl.map (·.1)=l.oW/\(cl.map (·.2)).Nodup/\eQ H cl vs/\aq K μ H ds vs
 | .exc c d=>∃oe C dx od v fs,H a=some (.frz oe (.own 0))/\oe.cls=.ref C/\oe.dict=some dx/\oe.data=.fields fs/\H dx=some (.frz od (.xd [("at",v)]))/\PySem.W.nsIn K mainGlobals (c:Str)=some (some (.ref C))/\ao K μ H d v
 | .hid=>True
structure aQ(K:PySem.W.Frag)(μ:List Addr)(H:Hp)(st:ak):Prop where
 len:μ.length=st.length
 at_:∀(n:Nat) (o:MO),st[n]? = some o->∃a,μ[n]? = some a/\fM K μ H a o
 uniq:∀(i j:Nat) (a:Addr) (oi oj:MO),st[i]? = some oi->st[j]? = some oj->oi.mut=true->oj.mut=true->μ[i]? = some a->μ[j]? = some a->i=j
structure dm(K:PySem.W.Frag)(μ:List Addr)(H:Hp)(env:aJ)(σ:St):Prop where
 len:env.length=σ.length
 at_:∀(i:Nat) (d:D),env[i]? = some (some d)->∃v,σ[i]? = some (some v)/\ao K μ H d v
def dm.mono(g:a_ μ H μ' H')(h:dm K μ H env σ):dm K μ' H' env σ :=
 ⟨h.len,λi d e=>let ⟨v,h1,h2⟩:=h.at_ i d e;⟨v,h1,h2.mono g d⟩⟩
def dm.set(h:dm K μ H env σ)(r:ao K μ H d v):dm K μ H (env.set i (some d)) (σ.set i (some v)):=by
 refine⟨by simp[h.len],λj e hj=>?_⟩;by_cases XR:i=j
 ·subst XR;have hl:i<env.length:=by
   have:=(gf.mp hj).1;simpa using this
  rw[mq hl]at hj;cases hj;exact⟨v,by rw[mq (by rw[<-h.len];exact hl)],r⟩
 ·rw[gO XR]at hj;rw[gO XR];exact h.at_ j e hj
def fM.some_of(h:fM K μ H a o)(hm:o.mut=true):∃u,H a=some u:=by
 cases o with
 | lst ds=>obtain⟨xs,h1,_⟩:=h;exact⟨_,h1⟩
 | frz ds=>cases hm
 | dic kvs=>obtain⟨xs,h1,_⟩:=h;exact⟨_,h1⟩
 | dkc kvs=>obtain⟨xs,h1,_⟩:=h;exact⟨_,h1⟩
 | dkf kvs=>cases hm
 | dtf kvs=>cases hm
 | ins c fs=>obtain⟨_,_,_,_,h1,_⟩:=h;exact⟨_,h1⟩
 | tab x=>obtain⟨_,_,h1,_⟩:=h;exact⟨_,h1⟩
 | clo j l ds=>cases hm
 | exc c d=>cases hm
 | hid=>cases hm
def fM.keep(g:a_ μ H μ' H')(hk:o.mut=true->∀u,H a=some u->H' a=some u)(h:fM K μ H a o):fM K μ' H' a o:=by
 cases o with
 | lst ds=>obtain⟨xs,h1,h2⟩:=h;exact⟨xs,hk rfl _ h1,h2.mono g ds⟩
 | frz ds=>obtain⟨xs,h1,h2⟩:=h;exact⟨xs,h1.ext g.ext,h2.mono g ds⟩
 | dic kvs=>obtain⟨ws,h1,h2⟩:=h;exact⟨ws,hk rfl _ h1,h2.mono g⟩
 | dkc kvs=>obtain⟨ws,h1,h2⟩:=h;exact⟨ws,hk rfl _ h1,h2.mono g⟩
 | dkf kvs=>obtain⟨ws,o,h1,h2⟩:=h;exact⟨ws,o,g.ext.frz _ _ _ h1,h2.mono g⟩
 | dtf kvs=>obtain⟨ws,o,h1,h2⟩:=h;exact⟨ws,o,g.ext.frz _ _ _ h1,h2.mono g⟩
 | exc c d=>obtain⟨oe,C,dx,od,v,fs,h1,h2,h3,h4,h5,h6,h7⟩:=h;exact⟨oe,C,dx,od,v,fs,g.ext.frz _ _ _ h1,h2,h3,h4,g.ext.frz _ _ _ h5,h6,h7.mono g d⟩
 | ins c fs=>obtain⟨C,dx,ws,h0,h1,h2⟩:=h;exact⟨C,dx,ws,h0,hk rfl _ h1,h2.mono g⟩
 | tab x=>obtain⟨h0,ps,h1,h2,h3⟩:=h;exact⟨h0,ps,hk rfl _ h1,h2,λpos cv e=>let ⟨c',e1,e2⟩:=h3 pos cv e;⟨c',e1,e2.ext g.ext⟩⟩
 | clo j l ds=>obtain⟨cl,pm,c',rH,vs,h1,h2,h3,h4,h5,h6⟩:=h;exact⟨cl,pm,c',rH,vs,g.ext.frz _ _ _ h1,h2.ext g.ext,h3,h4,h5.ext g.ext,h6.mono g ds⟩
 | hid=>trivial
section
variable  {K:PySem.W.Frag}{μ:List Addr}{H:Hp}{st:ak}{p a:Addr}{xs:List V}{n:Nat}{mo Tz:MO}{o o':HO}
def aQ.lay(h:aQ K μ H st)(hp:H p=none):aQ K μ (upd H p o) st :=
 ⟨h.len,λn mo e=>let ⟨a,h1,h2⟩:=h.at_ n mo e;⟨a,h1,h2.keep ⟨⟨[],by simp⟩,.new hp⟩ λ_ u q=>by rw[iz (z7 q hp)];exact q⟩,h.uniq⟩
def a_.lay(hp:H p=none):a_ μ H μ (upd H p o):=⟨⟨[],by simp⟩,.new hp⟩
def a_.new(hp:H p=none):a_ μ H (μ++[p]) (upd H p o):=⟨⟨[p],rfl⟩,.new hp⟩
def aQ.new(h:aQ K μ H st)(hp:H p=none)(hn:fM K (μ++[p]) (upd H p o) p mo):aQ K (μ++[p]) (upd H p o) (st++[mo]):=by
 refine⟨by simp[h.len],λn mo1 e=>?_,λi j b oi oj ei ej mi mj hi hj=>?_⟩
 ·by_cases hl:n<st.length
  ·rw[gF hl]at e;obtain⟨b,h1,h2⟩:=h.at_ n mo1 e;exact⟨b,by rw[gF (by rw[h.len];exact hl)];exact h1,h2.keep (a_.new hp) λ_ u q=>by rw[iz (z7 q hp)];exact q⟩
  ·have CT:=(gf.mp e).1;rw[gG,m7]at CT;have e2:n=st.length:=by omega
   subst e2;rw[g_ (gb _)]at e;simp at e;subst e;exact⟨p,by rw[<-h.len];simp,hn⟩
 ·have key:∀(k:Nat) (ok:MO),(st++[mo])[k]? = some ok->ok.mut=true->(μ++[p])[k]? = some b->(k<st.length/\st[k]? = some ok/\μ[k]? = some b/\b≠p)\/(k=st.length/\b=p):=λk ok ek mk hk=>by
   by_cases hl:k<st.length
   ·rw[gF hl]at ek;rw[gF (by rw[h.len];exact hl)]at hk;obtain⟨c,h1,h2⟩:=h.at_ k ok ek;rw[hk]at h1;cases h1;obtain⟨u,hu⟩:=h2.some_of mk;exact .inl ⟨hl,ek,hk,z7 hu hp⟩
   ·have CT:=(gf.mp ek).1;rw[gG,m7]at CT;have e2:k=st.length:=by omega
    subst e2;rw[<-h.len]at hk;simp at hk;exact .inr ⟨rfl,hk.symm⟩
  rcases key i oi ei mi hi with⟨_,a1,a2,a3⟩ | ⟨a1,a2⟩
  ·rcases key j oj ej mj hj with⟨_,b1,b2,b3⟩ | ⟨b1,b2⟩
   ·exact h.uniq i j b oi oj a1 b1 mi mj a2 b2
   ·exact absurd b2 a3
  ·rcases key j oj ej mj hj with⟨_,b1,b2,b3⟩ | ⟨b1,b2⟩
   ·exact absurd a2 b3
   ·rw[a1,b1]
def Ext.mut(h:H a=some o)(ht:∀ys,o≠.tup ys)(hf:∀w u,o≠.frz w u):Ext H (upd H a o') :=
 ⟨λb ys q=>by rw[iz (λe=>by subst e;rw[h]at q;exact ht _ (ae5 q))];exact q,
  λb w u q=>by rw[iz (λe=>by subst e;rw[h]at q;exact hf _ _ (ae5 q))];exact q⟩
def aQ.put(h:aQ K μ H st)(hn:st[n]? = some mo)(hm:mo.mut=true)(Nk:Tz.mut=true)(ha:μ[n]? = some a)(g:Ext H (upd H a o'))(new:fM K μ (upd H a o') a Tz):aQ K μ (upd H a o') (st.set n Tz):=by
 have hl:=(gf.mp hn).1;refine⟨by simp[h.len],λk ok e=>?_,λi j b oi oj ei ej mi mj hi hj=>?_⟩
 ·by_cases hk:n=k
  ·subst hk;rw[mq hl]at e;cases e;exact⟨a,ha,new⟩
  ·rw[gO hk]at e;obtain⟨b,h1,h2⟩:=h.at_ k ok e;refine⟨b,h1,h2.keep ⟨⟨[],by simp⟩,g⟩ λhmk u q=>?_⟩;rw[iz (λe2=>?_)]
   ·exact q
   ·subst e2;exact hk (h.uniq n k b mo ok hn e hm hmk ha h1)
 ·have key:∀(k:Nat) (ok:MO),(st.set n Tz)[k]? = some ok->ok.mut=true->∃ok',st[k]? = some ok'/\ok'.mut=true:=λk ok ek mk=>by
   by_cases hk:n=k
   ·subst hk;exact⟨mo,hn,hm⟩
   ·rw[gO hk]at ek;exact⟨ok,ek,mk⟩
  obtain⟨oi',ei',mi'⟩:=key i oi ei mi;obtain⟨oj',ej',mj'⟩:=key j oj ej mj;exact h.uniq i j b oi' oj' ei' ej' mi' mj' hi hj
end
def ExcAt(X:Cx)(μ:List Addr)(H:Hp)(x:Xc)(e:Value)(s:Shared):Prop :=
 ∃a C dx lo fl v,e=.ref a/\X.aeR.heap.objs.size<=lo/\Xo lo a C dx fl H s.heap/\H dx=some (.xd [("at",v)])/\PySem.W.nsIn X.K mainGlobals (x.cls:Str)=some (some (.ref C))/\ao X.K μ H x.fld v
def v8(X:Cx)(μ:List Addr)(H:Hp)(x:Xc)(st:ak):Prop :=
 ∀(pins:List (Addr×Obj)) (σ':L2.St) (H':Hp) (μ':List Addr) (e:Value) (s':Shared),a_ μ H μ' H'->aQ X.K μ' H' st->Inv X pins σ' H' s'->ExcAt X μ' H' x e s'->X.xe e s'
def v8.mono(g:a_ μ H μ1 H1)(h:v8 X μ H x st):v8 X μ1 H1 x st :=
 λpins σ' H' μ' e s' g'=>h pins σ' H' μ' e s' (g.trans g')
noncomputable abbrev Rel(α β:Type):=List Addr->Hp->α->β->Prop
def bF{α β:Type}(X:Cx)(μ:List Addr)(H:Hp)(rel:Rel α β)(Q:β->Hp->Prop)(r:R α):Prop:=match r with
 | .ok a st=>∀(b:β) (H':Hp) (μ':List Addr),a_ μ H μ' H'->aQ X.K μ' H' st->rel μ' H' a b->Q b H'
 | .err x st=>v8 X μ H x st
 | .bad=>False
section
variable  {α β γ δ:Type}{X:Cx}{μ μ1:List Addr}{H H1:Hp}{rel:Rel α β}{O2:Rel γ δ}{Q Q':β->Hp->Prop}{r:R α}
def bF.mono(g:a_ μ H μ1 H1)(h:bF X μ H rel Q r):bF X μ1 H1 rel Q r:=by
 cases r with
 | ok a st=>exact λb H' μ' g'=>h b H' μ' (g.trans g')
 | err x st=>exact v8.mono g h
 | bad=>exact h
def bF.imp(h:bF X μ H rel Q r)(k:∀b H',Q b H'->Q' b H'):bF X μ H rel Q' r:=by
 cases r with
 | ok a st=>exact λb H' μ' g' h1 h2=>k b H' (h b H' μ' g' h1 h2)
 | err x st=>exact h
 | bad=>exact h
def Then(X:Cx)(μ:List Addr)(H:Hp)(rel:Rel α β)(O2:Rel γ δ)(Q2:δ->Hp->Prop)(f:α->ak->R γ):β->Hp->Prop :=
 λb H1=>∃μ1 st1 a,a_ μ H μ1 H1/\aQ X.K μ1 H1 st1/\rel μ1 H1 a b/\bF X μ1 H1 O2 Q2 (f a st1)
def bF.bind(h:bF X μ H O2 Q2 (r.bind f)):bF X μ H rel (Then X μ H rel O2 Q2 f) r:=by
 cases r with
 | ok a st=>exact λb H' μ' g h1 h2=>⟨μ',st,a,g,h1,h2,bF.mono g h⟩
 | err x st=>exact h
 | bad=>exact h
def bF.ret(h:bF X μ H rel Q (.ok a st))(hs:aQ X.K μ H st)(hr:rel μ H a b):Q b H:=h b H μ (.refl _ _) hs hr
end
noncomputable abbrev lM(X:Cx):Rel D V:=fun μ H d v=>ao X.K μ H d v
noncomputable abbrev ac2(X:Cx):Rel (List D) (List V):=fun μ H d v=>aq X.K μ H d v
noncomputable abbrev Es:Rel Bool Bool:=λ_ _ a b=>a=b
noncomputable abbrev acZ:Rel (Option Int) (Option Int):=λ_ _ a b=>a=b
noncomputable abbrev ME:=aJ->ak->R D
noncomputable abbrev MA:=aJ->ak->R (List D)
noncomputable abbrev MT:=aJ->ak->R Bool
noncomputable abbrev MP:=aJ->ak->R (Option Int)
noncomputable def tM(X:Cx)(m:ME):TE:=fun σ H Q=>∃μ env st,dm X.K μ H env σ/\aQ X.K μ H st/\bF X μ H (lM X) Q (m env st)
noncomputable def tMA(X:Cx)(m:MA):TA:=fun σ H Q=>∃μ env st,dm X.K μ H env σ/\aQ X.K μ H st/\bF X μ H (ac2 X) Q (m env st)
noncomputable def tMT(X:Cx)(m:MT):TT:=fun σ H Q=>∃μ env st,dm X.K μ H env σ/\aQ X.K μ H st/\bF X μ H Es Q (m env st)
noncomputable def tMP(X:Cx)(m:MP):TO:=fun σ H Q=>∃μ env st,dm X.K μ H env σ/\aQ X.K μ H st/\bF X μ H acZ Q (m env st)
def JE(X:Cx)(e:Expr)(m:ME):Prop:=PE X e (tM X m)
def JT(X:Cx)(e:Expr)(m:MT):Prop:=PT X e (tMT X m)
def JA(X:Cx)(es:List Expr)(m:MA):Prop:=PA X es (tMA X m)
def JP(X:Cx)(e:Option Expr)(m:MP):Prop:=PO X e (tMP X m)
section
variable  {X:Cx}{e a b c:Expr}{es:List Expr}{t:TE}{ma mb mc:ME}{mA:MA}{pos:Pos}
def JE.of(h:PE X e t)(k:∀σ H Q,tM X m σ H Q->t σ H Q):JE X e m:=λpins s σ H Q I q=>h pins s σ H Q I (k σ H Q q)
def JT.of{t:TT}{m:MT}(h:PT X e t)(k:∀σ H Q,tMT X m σ H Q->t σ H Q):JT X e m:=λpins s σ H Q I q=>h pins s σ H Q I (k σ H Q q)
def JA.of{t:TA}{m:MA}(h:PA X es t)(k:∀σ H Q,tMA X m σ H Q->t σ H Q):JA X es m:=λpos pins s σ H Q I q=>h pos pins s σ H Q I (k σ H Q q)
def JP.of{o:Option Expr}{t:TO}{m:MP}(h:PO X o t)(k:∀σ H Q,tMP X m σ H Q->t σ H Q):JP X o m:=λpins s σ H Q I q=>h pins s σ H Q I (k σ H Q q)
noncomputable def vr(i:Nat):ME:=λenv st=>match env[i]? with | some (some d)=>.ok d st | _=>.bad
noncomputable def ct(d:D):ME:=λ_ st=>.ok d st
def yG(i:Nat){pos:Pos}(hN:X.N[i]? = some x:=by rfl)(hv:Vis X.env.scope x:=by first | exact Or.inl rfl | exact Or.inr (Or.inl rfl) | exact Or.inr (Or.inr rfl))(hd:(x==("__debug__":Str))=false:=by decide) 
  (yh:(x==("__classdict__":Str))=false:=by decide):JE X (.Name x pos) (vr i):=JE.of (IW hN hv hd yh) fun σ H Q zz=>by
 obtain⟨μ,env,st,he,hs,hp⟩:=zz;unfold vr at hp
 split at hp
 ·rename_i d e;obtain⟨v,h1,h2⟩:=he.at_ i d e;exact⟨v,h1,hp.ret hs h2⟩
 ·exact hp.elim
def Xe{i j pos}:JE X (.Constant (.int i) j pos) (ct (.int i)):=by
 refine JE.of Wa fun σ H Q zz=>?_;obtain⟨μ,env,st,he,hs,hp⟩:=zz;exact hp.ret hs (ao.aF.mpr rfl)
def abl{b j pos}:JE X (.Constant (.bool b) j pos) (ct (.bl b)):=by
 refine JE.of aa1 fun σ H Q zz=>?_;obtain⟨μ,env,st,he,hs,hp⟩:=zz;exact hp.ret hs (ao.bw.mpr rfl)
def Xb{j pos}:JE X (.Constant .none j pos) (ct .non):=by
 refine JE.of V8 fun σ H Q zz=>?_;obtain⟨μ,env,st,he,hs,hp⟩:=zz;exact hp.ret hs (ao.bC.mpr rfl)
def W9{j pos}(cs:List Nat)(h:x=strOf cs:=by decide +kernel):JE X (.Constant (.str x) j pos) (ct (.str cs)):=by
 refine JE.of V5 fun σ H Q zz=>?_;obtain⟨μ,env,st,he,hs,hp⟩:=zz;exact hp.ret hs (ao.aO.mpr (by rw[h]))
noncomputable def aL(g:D->D->ak->R D)(a b:ME):ME:=λenv st=>(a env st).bind λx st1=>(b env st1).bind λy st2=>g x y st2
noncomputable def Aj(g:D->ak->R D)(a:ME):ME:=λenv st=>(a env st).bind λx st1=>g x st1
noncomputable def rM(X:Cx)(g:D->D->ak->R D):R2:=λx y H Q=>∃μ st dx dy,aQ X.K μ H st/\ao X.K μ H dx x/\ao X.K μ H dy y/\bF X μ H (lM X) Q (g dx dy st)
def rM1(X:Cx)(g:D->ak->R D):V->Hp->VK->Prop:=λx H Q=>∃μ st dx,aQ X.K μ H st/\ao X.K μ H dx x/\bF X μ H (lM X) Q (g dx st)
def Nf(X:Cx)(g:List D->ak->R D):List V->Hp->VK->Prop:=λxs H Q=>∃μ st ds,aQ X.K μ H st/\aq X.K μ H ds xs/\bF X μ H (lM X) Q (g ds st)
def GX(X:Cx)(g:D->List D->ak->R D):V->List V->Hp->VK->Prop:=λx xs H Q=>∃μ st d ds,aQ X.K μ H st/\ao X.K μ H d x/\aq X.K μ H ds xs/\bF X μ H (lM X) Q (g d ds st)
def d9.weak(h:d9 X f r)(k:∀x y H Q,r' x y H Q->r x y H Q):d9 X f r':=λpins s σ H x y v u Q I rx ry q=>h pins s σ H x y v u Q I rx ry (k x y H Q q)
def R9.weak(h:R9 X f r)(k:∀x H Q,r' x H Q->r x H Q):R9 X f r':=λpins s σ H x v Q I rx q=>h pins s σ H x v Q I rx (k x H Q q)
def cz.weak(h:cz X f r)(k:∀x H Q,r' x H Q->r x H Q):cz X f r':=λpins s σ H x v Q I rx q=>h pins s σ H x v Q I rx (k x H Q q)
def rY.weak{id:String}{r r':V->List V->Hp->VK->Prop}(h:rY X id r)(k:∀x xs H Q,r' x xs H Q->r x xs H Q):rY X id r':=λpins s σ H x xs v us Q I rx rs q=>h pins s σ H x xs v us Q I rx rs (k x xs H Q q)
def Dr.weak(h:Dr X r)(k:∀x y H Q,r' x y H Q->r x y H Q):Dr X r':=λva sl pins s σ H x y v u Q I rx ry q=>h va sl pins s σ H x y v u Q I rx ry (k x y H Q q)
def zG.weak(h:zG X r)(k:∀x l u H Q,r' x l u H Q->r x l u H Q):zG X r':=λpins s σ H x v vl vu lo hi sl Q I rx hs pl pu q=>h pins s σ H x v vl vu lo hi sl Q I rx hs pl pu (k x lo hi H Q q)
def zr7(h:tM X (aL g ma mb) σ H Q):tM X ma σ H λx H1=>tM X mb σ H1 λy H2=>rM X g x y H2 Q:=by
 obtain⟨μ,env,st,he,hs,hp⟩:=h;refine⟨μ,env,st,he,hs,hp.bind.imp ?_⟩;rintro x H1 ⟨μ1,st1,d,g1,bx,hx,aP⟩;refine⟨μ1,env,st1,he.mono g1,bx,aP.bind.imp ?_⟩;rintro y H2 ⟨μ2,st2,d2,g2,fQ,hy,dw⟩;exact⟨μ2,st2,d,d2,fQ,hx.mono g2 _,hy,dw⟩
def TX(ho:d9 X (binaryOp op) (rM X g))(ha:JE X a ma)(hb:JE X b mb):JE X (.BinOp a op b pos) (aL g ma mb) :=
 JE.of (aaY ho ha hb) fun σ H Q h=>zr7 h
def Xh(ho:d9 X (compareOp op) (rM X g))(ha:JE X a ma)(hb:JE X b mb)(hm:behindInMarks op b=false):JE X (.Compare a [op] [b] pos) (aL g ma mb) :=
 JE.of (Qe ho ha hb hm) fun σ H Q h=>zr7 h
def abg(ho:R9 X (unaryOp op) (rM1 X g))(ha:JE X a ma):JE X (.UnaryOp op a pos) (Aj g ma):=by
 refine JE.of (aaW ho ha) fun σ H Q zz=>?_;obtain⟨μ,env,st,he,hs,hp⟩:=zz;refine⟨μ,env,st,he,hs,hp.bind.imp λx H1 zz=>?_⟩;obtain⟨μ1,st1,d,g1,bx,hx,aP⟩:=zz;exact⟨μ1,st1,d,bx,hx,aP⟩
noncomputable def fW(a:ME):MT:=λenv st=>(a env st).bind λx st1=>match x with | .bl b=>.ok b st1 | _=>.bad
def WQ(ho:d9 X (compareOp op) (rM X g))(ha:JE X a ma)(hb:JE X b mb)(hm:behindInMarks op b=false):JT X (.Compare a [op] [b] pos) (fW (aL g ma mb)):=by
 refine JT.of (Pg ho ha hb hm) fun σ H Q zz=>?_;obtain⟨μ,env,st,he,hs,hp⟩:=zz;refine zr7 ⟨μ,env,st,he,hs,hp.bind.imp ?_⟩;rintro x H1 ⟨μ1,st1,d,g1,bx,hx,aP⟩;cases d with
 | bl b=>exact⟨b,ao.bw.mp hx,aP.ret bx rfl⟩
 | _=>exact aP.elim
noncomputable def cD:D->ak->Option Bool
 | .non,_=>some false
 | .bl b,_=>some b
 | .int i,_=>some (i != 0)
 | .str cs,_=>if cs.length<=1000000 then some (!cs.isEmpty) else none
 | .tup ds,_=>some (!ds.isEmpty)
 | .loc n,st=>match st[n]? with
  | some (.lst ds)=>some (!ds.isEmpty)
  | some (.frz ds)=>some (!ds.isEmpty)
  | _=>none
noncomputable def o_(a:ME):MT:=λenv st=>(a env st).bind λx st1=>match cD x st1 with | some b=>.ok b st1 | none=>.bad
def zQ(h:n<=1000000):n<=sizeLine:=kh h (by decide)
def aQ.lst{K:PySem.W.Frag}{μ:List Addr}{H:Hp}{st:ak}{n:Nat}{ds:List D}(h:aQ K μ H st)(e:st[n]? = some (.lst ds)):∃p xs,μ[n]? = some p/\H p=some (.lst xs)/\aq K μ H ds xs:=by
 obtain⟨p,h1,xs,h2,h3⟩:=h.at_ n _ e;exact⟨p,xs,h1,h2,h3⟩
noncomputable def aA(st:ak)(n:Nat):Option (List D):=match st[n]? with
 | some (.lst ds)=>some ds
 | some (.frz ds)=>some ds
 | _=>none
def aQ.items{K:PySem.W.Frag}{μ:List Addr}{H:Hp}{st:ak}{n:Nat}{ds:List D}(h:aQ K μ H st)(e:aA st n=some ds):∃p xs,μ[n]? = some p/\oF K H p xs/\aq K μ H ds xs:=by
 unfold aA at e
 split at e
 ·rename_i es q;cases e;obtain⟨p,xs,h1,h2,h3⟩:=h.lst q;exact⟨p,xs,h1,oF.of h2,h3⟩
 ·rename_i es q;cases e;obtain⟨p,h1,xs,h2,h3⟩:=h.at_ n _ q;exact⟨p,xs,h1,h2.sqL,h3⟩
 ·cases e
def aq.isEmpty(h:aq K μ H ds xs):ds.isEmpty=xs.isEmpty:=by
 have:=h.length;cases ds<;>cases xs<;>simp_all
def Ob{d:D}{st:ak}{b:Bool}{μ:List Addr}{H:Hp}{v:V}(h:cD d st=some b)(hs:aQ X.K μ H st)(hv:ao X.K μ H d v):Yx X.K v H b:=by
 cases d with
 | non=>rw[ao.bC]at hv;subst hv;cases h;rfl
 | bl c=>rw[ao.bw]at hv;subst hv;cases h;rfl
 | int i=>rw[ao.aF]at hv;subst hv;cases h;rfl
 | str cs =>
  rw[ao.aO]at hv;subst hv;simp only[cD]at h
  split at h
  ·rename_i hl;cases h;have e:(strOf cs).length=cs.length:=by simp[Str.length,strOf]
   refine⟨by rw[e];exact zQ hl,?_⟩;rw[e];cases cs<;>simp;omega
  ·cases h
 | tup ds =>
  rw[ao.aR]at hv;obtain⟨a,xs,rfl,h1,h2⟩:=hv;cases h;exact .inr (.inl ⟨xs,h1.qP,by rw[h2.isEmpty]⟩)
 | loc n =>
  rw[ao.aG]at hv;obtain⟨a,h1,rfl⟩:=hv;have key:∃ds,aA st n=some ds/\b=!ds.isEmpty:=by
   unfold aA;simp only[cD]at h
   split at h
   ·rename_i q;cases h;exact⟨_,rfl,rfl⟩
   ·rename_i q;cases h;exact⟨_,rfl,rfl⟩
   ·cases h
  obtain⟨ds,q,rfl⟩:=key;obtain⟨p,xs,h3,h4,h5⟩:=hs.items q;rw[h1]at h3;cases h3;exact .inl ⟨xs,h4,by rw[h5.isEmpty]⟩
def J3(ha:JE X a ma)(he:∀whole,isTrue a X.env whole=(do let v <-whole;standAt a.pos;holding [v] (truthy v)):=by intro _;rfl):JT X a (o_ ma):=by
 refine JT.of (Ij ha he) fun σ H Q zz=>?_;obtain⟨μ,env,st,hE,hs,hp⟩:=zz;refine⟨μ,env,st,hE,hs,hp.bind.imp ?_⟩;rintro x H1 ⟨μ1,st1,d,g1,bx,hx,aP⟩;cases e:cD d st1 with
 | none=>simp only[e]at aP;exact aP.elim
 | some b=>simp only[e]at aP;exact⟨b,Ob e bx hx,aP.ret bx rfl⟩
def JW(X:Cx)(e:Expr)(m:MT):Prop:=PW X e (tMT X m)
def JW.jt(h:JW X e m):JT X e m:=PW.pt h
def JW.of{t:TT}{m:MT}(h:PW X e t)(k:∀σ H Q,tMT X m σ H Q->t σ H Q):JW X e m:=λw pins s σ H Q I q=>h w pins s σ H Q I (k σ H Q q)
noncomputable def tD(a b:MT):MT:=λenv st=>(a env st).bind λx st1=>if x then b env st1 else .ok false st1
noncomputable def Ng(a b:MT):MT:=λenv st=>(a env st).bind λx st1=>if x then .ok true st1 else b env st1
noncomputable def vh(a:MT):MT:=λenv st=>(a env st).bind λx st1=>.ok (!x) st1
variable  {ta tb tc:MT}{rest:List Expr}
def QF(ha:JT X a ta):JW X (.BoolOp .And [a] pos) ta:=O_ ha
def WM(ha:JT X a ta):JW X (.BoolOp .Or [a] pos) ta:=VF ha
def J2(ha:JT X a ta)(hb:JW X (.BoolOp .And (b::rest) pos) tb):JW X (.BoolOp .And (a::b::rest) pos) (tD ta tb):=by
 refine JW.of (VG ha hb) fun σ H Q zz=>?_;obtain⟨μ,env,st,hE,hs,hp⟩:=zz;refine⟨μ,env,st,hE,hs,hp.bind.imp ?_⟩;rintro x H1 ⟨μ1,st1,d,g1,bx,rfl,aP⟩;cases d with
 | true=>exact yZ ⟨μ1,env,st1,hE.mono g1,bx,aP⟩
 | false=>exact y_ (aP.ret bx rfl)
def TV(ha:JT X a ta)(hb:JW X (.BoolOp .Or (b::rest) pos) tb):JW X (.BoolOp .Or (a::b::rest) pos) (Ng ta tb):=by
 refine JW.of (aaQ ha hb) fun σ H Q zz=>?_;obtain⟨μ,env,st,hE,hs,hp⟩:=zz;refine⟨μ,env,st,hE,hs,hp.bind.imp ?_⟩;rintro x H1 ⟨μ1,st1,d,g1,bx,rfl,aP⟩;cases d with
 | true=>exact yZ (aP.ret bx rfl)
 | false=>exact y_ ⟨μ1,env,st1,hE.mono g1,bx,aP⟩
def WN(ha:JT X a ta):JT X (.UnaryOp .Not a pos) (vh ta):=by
 refine JT.of (VH ha) fun σ H Q zz=>?_;obtain⟨μ,env,st,hE,hs,hp⟩:=zz;refine⟨μ,env,st,hE,hs,hp.bind.imp ?_⟩;rintro x H1 ⟨μ1,st1,d,g1,bx,rfl,aP⟩;exact aP.ret bx rfl
noncomputable def wW(a b:ME):ME:=λenv st=>(a env st).bind λx st1=>match x with | .bl true=>b env st1 | .bl false=>.ok (.bl false) st1 | _=>.bad
noncomputable def orV(a b:ME):ME:=λenv st=>(a env st).bind λx st1=>match x with | .bl true=>.ok (.bl true) st1 | .bl false=>b env st1 | _=>.bad
noncomputable def Jr(a:ME):ME:=λenv st=>(a env st).bind λx st1=>match x with | .bl c=>.ok (.bl (!c)) st1 | _=>.bad
def W_{op}(h:JE X a m):JE X (.BoolOp op [a] pos) m:=V6 h
def Xi(ha:JE X a ma)(hb:JE X (.BoolOp .And (b::rest) pos) mb):JE X (.BoolOp .And (a::b::rest) pos) (wW ma mb):=by
 refine JE.of (Wd ha hb) fun σ H Q zz=>?_;obtain⟨μ,env,st,hE,hs,hp⟩:=zz;refine⟨μ,env,st,hE,hs,hp.bind.imp ?_⟩;rintro x H1 ⟨μ1,st1,d,g1,bx,hx,aP⟩;cases d with
 | bl c =>
  refine⟨c,ao.bw.mp hx,?_⟩;cases c with
  | true=>exact yZ ⟨μ1,env,st1,hE.mono g1,bx,aP⟩
  | false=>exact y_ (aP.ret bx (ao.bw.mpr rfl))
 | _=>exact aP.elim
def abh(ha:JE X a ma)(hb:JE X (.BoolOp .Or (b::rest) pos) mb):JE X (.BoolOp .Or (a::b::rest) pos) (orV ma mb):=by
 refine JE.of (aaX ha hb) fun σ H Q zz=>?_;obtain⟨μ,env,st,hE,hs,hp⟩:=zz;refine⟨μ,env,st,hE,hs,hp.bind.imp ?_⟩;rintro x H1 ⟨μ1,st1,d,g1,bx,hx,aP⟩;cases d with
 | bl c =>
  refine⟨c,ao.bw.mp hx,?_⟩;cases c with
  | true=>exact yZ (aP.ret bx (ao.bw.mpr rfl))
  | false=>exact y_ ⟨μ1,env,st1,hE.mono g1,bx,aP⟩
 | _=>exact aP.elim
def Xa(ha:JE X a ma):JE X (.UnaryOp .Not a pos) (Jr ma):=by
 refine JE.of (V7 ha) fun σ H Q zz=>?_;obtain⟨μ,env,st,hE,hs,hp⟩:=zz;refine⟨μ,env,st,hE,hs,hp.bind.imp ?_⟩;rintro x H1 ⟨μ1,st1,d,g1,bx,hx,aP⟩;cases d with
 | bl c=>exact⟨c,ao.bw.mp hx,aP.ret bx (ao.bw.mpr rfl)⟩
 | _=>exact aP.elim
noncomputable def G5(c:MT)(a b:ME):ME:=λenv st=>(c env st).bind λx st1=>if x then a env st1 else b env st1
def abj(hc:JT X c tc)(ha:JE X a ma)(hb:JE X b mb):JE X (.IfExp c a b pos) (G5 tc ma mb):=by
 refine JE.of (Ja hc ha hb) fun σ H Q zz=>?_;obtain⟨μ,env,st,hE,hs,hp⟩:=zz;refine⟨μ,env,st,hE,hs,hp.bind.imp ?_⟩;rintro x H1 ⟨μ1,st1,d,g1,bx,rfl,aP⟩;cases d with
 | true=>exact yZ ⟨μ1,env,st1,hE.mono g1,bx,aP⟩
 | false=>exact y_ ⟨μ1,env,st1,hE.mono g1,bx,aP⟩
noncomputable def au:MA:=λ_ st=>.ok [] st
noncomputable def aj(a:ME)(r:MA):MA:=λenv st=>(a env st).bind λx st1=>(r env st1).bind λxs st2=>.ok (x::xs) st2
def YG:JA X [] au:=by
 refine JA.of Ai fun σ H Q zz=>?_;obtain⟨μ,env,st,hE,hs,hp⟩:=zz;exact hp.ret hs aq.nil
def Ux{e:Expr}{es:List Expr}{m:ME}{mA:MA}(h:JE X e m)(hr:JA X es mA)(hs:starEach (e::es) X.env=(false,eval e X.env)::starEach es X.env:=by rfl):JA X (e::es) (aj m mA):=by
 refine JA.of (zl8 h hr hs) fun σ H Q zz=>?_;obtain⟨μ,env,st,hE,hs,hp⟩:=zz;refine⟨μ,env,st,hE,hs,hp.bind.imp ?_⟩;rintro x H1 ⟨μ1,st1,d,g1,bx,hx,aP⟩;refine⟨μ1,env,st1,hE.mono g1,bx,aP.bind.imp ?_⟩;rintro xs H2 ⟨μ2,st2,ds,g2,fQ,lR,dw⟩;exact dw.ret fQ (aq.cons (hx.mono g2 _) lR)
noncomputable def f9(m:MA):ME:=λenv st=>(m env st).bind λds st1=>if ds.length<=1000000 then .ok (.tup ds) st1 else .bad
noncomputable def dO(m:MA):ME:=λenv st=>(m env st).bind λds st1=>if ds.length<=1000000 then .ok (.loc st1.length) (st1++[.lst ds]) else .bad
def W7{x1}(h:JA X es mA):JE X (.Tuple es x1 pos) (f9 mA):=by
 refine JE.of (V4 h) fun σ H Q zz=>?_;obtain⟨μ,env,st,hE,hs,hp⟩:=zz;refine⟨μ,env,st,hE,hs,hp.bind.imp ?_⟩;rintro xs H1 ⟨μ1,st1,ds,g1,bx,lR,aP⟩;dsimp only at aP
 split at aP
 ·rename_i hl;refine⟨by rw[<-lR.length];exact zQ hl,λp hn=>?_⟩;exact aP _ _ μ1 (a_.lay hn) (bx.lay hn) (ao.aR.mpr ⟨p,xs,rfl,.inl rW,lR.mono (a_.lay hn) _⟩)
 ·exact aP.elim
def bF.newList(h:bF X μ H (lM X) Q (.ok (.loc st.length) (st++[.lst ds])))(hs:aQ X.K μ H st)(hx:aq X.K μ H ds xs)(hn:H p=none) :
  Q (.ref p) (upd H p (.lst xs)):=by
 have g:a_ μ H (μ++[p]) (upd H p (.lst xs)):=a_.new hn;refine h _ _ (μ++[p]) g (hs.new hn ⟨xs,rW,hx.mono g _⟩) (ao.aG.mpr ⟨p,?_,rfl⟩);rw[<-hs.len];simp
def Kd(h:JA X es mA):JE X (.List es pos) (dO mA):=by
 refine JE.of (V9 h) fun σ H Q zz=>?_;obtain⟨μ,env,st,hE,hs,hp⟩:=zz;refine⟨μ,env,st,hE,hs,hp.bind.imp ?_⟩;rintro xs H1 ⟨μ1,st1,ds,g1,bx,lR,aP⟩;dsimp only at aP
 split at aP
 ·rename_i hl;exact⟨by rw[<-lR.length];exact zQ hl,λp hn=>aP.newList bx lR hn⟩
 ·exact aP.elim
end
section
variable  {X:Cx}{e a b c:Expr}{es:List Expr}{t:TE}{ma mb mc:ME}{mA:MA}{pos:Pos}
def zfx(cs:List Nat):(strOf cs).length=cs.length:=by simp[Str.length,strOf]
def Eg(a b:List Nat):strOf a++strOf b=strOf (a++b):=by
 show Str.append _ _=_;simp[Str.append,strOf]
def zot{a b:List Nat}:strOf a=strOf b↔a=b:=by
 constructor
 ·intro h;have:=congrArg (λs:Str=>s.cps.toList) h;simpa[strOf] using this
 ·intro h;rw[h]
noncomputable def bY:D->D->ak->R D
 | .int i,.int j,st=>.ok (.int (i+j)) st
 | .str a,.str b,st=>if a.length+b.length<=1000000 then .ok (.str (a++b)) st else .bad
 | .tup a,.tup b,st=>if a.length+b.length<=1000000 then .ok (.tup (a++b)) st else .bad
 | .loc m,.loc n,st=>match st[m]?,st[n]? with
  | some (.lst a),some (.lst b)=>if a.length+b.length<=1000000 then .ok (.loc st.length) (st++[.lst (a++b)]) else .bad
  | _,_=>.bad
 | _,_,_=>.bad
def Ci:d9 X (binaryOp .Add) (rM X bY):=by
 refine d9.weak (d9.or Wk (d9.or zr1 (d9.or Qm (d9.or Jm Wj)))) ?_;rintro x y H Q ⟨μ,st,dx,dy,hs,hx,hy,hp⟩;cases dx with
 | int i =>
  cases dy with
  | int j =>
   rw[ao.aF]at hx hy;subst hx hy;exact .inl ⟨i,j,rfl,rfl,hp.ret hs (ao.aF.mpr rfl)⟩
  | _=>exact hp.elim
 | str i =>
  cases dy with
  | str j =>
   rw[ao.aO]at hx hy;subst hx hy;simp only[bY]at hp
   split at hp
   ·rename_i hl;refine .inr (.inl ⟨_,_,rfl,rfl,?_,?_⟩)
    ·rw[zfx,zfx];exact zQ hl
    ·rw[Eg];exact hp.ret hs (ao.aO.mpr rfl)
   ·exact hp.elim
  | _=>exact hp.elim
 | tup i =>
  cases dy with
  | tup j =>
   rw[ao.aR]at hx hy;obtain⟨p,xs,rfl,h1,h2⟩:=hx;obtain⟨q,ys,rfl,h3,h4⟩:=hy;simp only[bY]at hp
   split at hp
   ·rename_i hl;by_cases hx0:xs=[]
    ·subst hx0;have hi:i=[]:=by have:=h2.length;simpa using this
     subst hi;exact .inr (.inr (.inr (.inl ⟨p,q,ys,rfl,rfl,h1.qP,h3.qP,hp.ret hs (ao.aR.mpr ⟨q,ys,rfl,h3,h4⟩)⟩)))
    ·refine .inr (.inr (.inl ⟨p,q,xs,ys,rfl,rfl,h1.qP,h3.qP,hx0,by rw[<-h2.length,<-h4.length];exact zQ hl,λhy0=>?_,λ_ r hr=>?_⟩))
     ·subst hy0;have hj:j=[]:=by have:=h4.length;simpa using this
      subst hj;exact hp.ret hs (ao.aR.mpr ⟨p,xs,rfl,by rw[gY];exact h1,by rw[gY];exact h2⟩)
     ·exact hp _ _ μ (a_.lay hr) (hs.lay hr) (ao.aR.mpr ⟨r,_,rfl,.inl rW,(h2.append h4).mono (a_.lay hr) _⟩)
   ·exact hp.elim
  | _=>exact hp.elim
 | loc m =>
  cases dy with
  | loc n =>
   rw[ao.aG]at hx hy;obtain⟨p,h1,rfl⟩:=hx;obtain⟨q,h2,rfl⟩:=hy;simp only[bY]at hp
   split at hp
   ·rename_i da db e1 e2
    split at hp
    ·rename_i hl;obtain⟨p',xs,h3,h4,h5⟩:=hs.lst e1;obtain⟨q',ys,h6,h7,h8⟩:=hs.lst e2;rw[h1]at h3;cases h3;rw[h2]at h6;cases h6;exact .inr (.inr (.inr (.inr ⟨p,q,xs,ys,rfl,rfl,h4,h7,by rw[<-h5.length,<-h8.length];exact zQ hl,λr hr=>hp.newList hs (h5.append h8) hr⟩)))
    ·exact hp.elim
   ·exact hp.elim
  | _=>exact hp.elim
 | _=>exact hp.elim
noncomputable def qZ(C:Int->Int->Prop)[∀i j,Decidable (C i j)](g:Int->Int->D):D->D->ak->R D
 | .int i,.int j,st=>if C i j then .ok (g i j) st else .bad
 | _,_,_=>.bad
def Y4[∀i j,Decidable (C i j)](h:d9 X f (rI C gv))(hg:∀i j μ H,ao X.K μ H (g i j) (gv i j)):d9 X f (rM X (qZ C g)):=by
 refine d9.weak h ?_;rintro x y H Q ⟨μ,st,dx,dy,hs,hx,hy,hp⟩;cases dx with
 | int i =>
  cases dy with
  | int j =>
   rw[ao.aF]at hx hy;subst hx hy;simp only[qZ]at hp
   split at hp
   ·rename_i hc;exact⟨i,j,rfl,rfl,hc,hp.ret hs (hg i j μ H)⟩
   ·exact hp.elim
  | _=>exact hp.elim
 | _=>exact hp.elim
def d9.top(h:d9 X f (VB gv)):d9 X f (rI (λ_ _=>True) gv):=by
 refine d9.weak h λx y H Q zz=>?_;obtain⟨i,j,a,b,_,q⟩:=zz;exact⟨i,j,a,b,q⟩
noncomputable def uA:D->D->ak->R D:=qZ (λ_ _=>True) λi j=>.int (i - j)
def Qi:d9 X (binaryOp .Sub) (rM X uA):=Y4 (d9.top Wf) λi j μ H=>ao.aF.mpr rfl
noncomputable def yU:D->D->ak->R D:=qZ (λi j=>(-(2 ^ 64)<i/\i<2 ^ 64)\/(-(2 ^ 64)<j/\j<2 ^ 64)) λi j=>.int (i*j)
def Qk:d9 X (binaryOp .Mult) (rM X yU):=Y4 (d9.weak Wg λx y H Q h=>h) λi j μ H=>ao.aF.mpr rfl
noncomputable def jF:D->D->ak->R D:=qZ (λ_ j=>0<j/\j<2 ^ 64) λi j=>.int (i / j)
def Jk:d9 X (binaryOp .FloorDiv) (rM X jF):=Y4 Jj λi j μ H=>ao.aF.mpr rfl
noncomputable def jQ:D->D->ak->R D:=qZ (λ_ j=>0<j) λi j=>.int (i % j)
def Ql:d9 X (binaryOp .Mod) (rM X jQ):=Y4 Wh λi j μ H=>ao.aF.mpr rfl
noncomputable def ltV:D->D->ak->R D:=qZ (λ_ _=>True) λi j=>.bl (decide (i<j))
def Jh:d9 X (compareOp .Lt) (rM X ltV):=Y4 (d9.top aa2) λi j μ H=>ao.bw.mpr rfl
noncomputable def gtV:D->D->ak->R D:=qZ (λ_ _=>True) λi j=>.bl (decide (j<i))
def Ji:d9 X (compareOp .Gt) (rM X gtV):=Y4 (d9.top aa3) λi j μ H=>ao.bw.mpr rfl
noncomputable def aa7:D->ak->R D
 | .int i,st=>.ok (.int (-i)) st
 | _,_=>.bad
def N7:R9 X (unaryOp .USub) (rM1 X aa7):=by
 refine R9.weak Ve ?_;rintro x H Q ⟨μ,st,dx,hs,hx,hp⟩;cases dx with
 | int i=>rw[ao.aF]at hx;subst hx;exact⟨i,rfl,hp.ret hs (ao.aF.mpr rfl)⟩
 | _=>exact hp.elim
noncomputable def cg:D->D->ak->R D
 | .non,.non,st=>.ok (.bl true) st
 | _,.non,st=>.ok (.bl false) st
 | _,_,_=>.bad
noncomputable def yS:D->D->ak->R D
 | .non,.non,st=>.ok (.bl false) st
 | _,.non,st=>.ok (.bl true) st
 | _,_,_=>.bad
def ao.xj(h:ao K μ H d v):decide (v=.non)=(match d with | .non=>true | _=>false):=by
 cases d with
 | non=>rw[ao.bC]at h;subst h;rfl
 | bl b=>rw[ao.bw]at h;subst h;rfl
 | int b=>rw[ao.aF]at h;subst h;rfl
 | str b=>rw[ao.aO]at h;subst h;rfl
 | tup b=>rw[ao.aR]at h;obtain⟨_,_,rfl,_⟩:=h;rfl
 | loc b=>rw[ao.aG]at h;obtain⟨_,_,rfl⟩:=h;rfl
def zla:d9 X (compareOp .Is) (rM X cg):=by
 refine d9.weak Wi ?_;rintro x y H Q ⟨μ,st,dx,dy,hs,hx,hy,hp⟩;cases dy with
 | non =>
  rw[ao.bC]at hy;refine⟨hy,?_⟩;rw[hx.xj];cases dx<;>exact hp.ret hs (ao.bw.mpr rfl)
 | _=>cases dx<;>exact hp.elim
def zi8:d9 X (compareOp .IsNot) (rM X yS):=by
 refine d9.weak Qj ?_;rintro x y H Q ⟨μ,st,dx,dy,hs,hx,hy,hp⟩;cases dy with
 | non =>
  rw[ao.bC]at hy;refine⟨hy,?_⟩;rw[hx.xj];cases dx<;>exact hp.ret hs (ao.bw.mpr rfl)
 | _=>cases dx<;>exact hp.elim
noncomputable def aY:D->D->ak->R D
 | .loc n,.int i,st=>match (aA st n).bind λds=>rQ ds i with | some d=>.ok d st | none=>.bad
 | .tup ds,.int i,st=>match rQ ds i with | some d=>.ok d st | none=>.bad
 | .str cs,.int i,st=>if cs.length<=1000000 then (match rQ cs i with | some c=>.ok (.str [c]) st | none=>.bad) else .bad
 | _,_,_=>.bad
def aq.rQ(h:aq K μ H ds xs)(e:L2.rQ ds i=some d):∃v,L2.rQ xs i=some v/\ao K μ H d v:=by
 unfold L2.rQ at e ⊢;rw[<-h.length];cases q:Kr ds.length i with
 | none=>rw[q]at e;cases e
 | some j =>
  rw[q]at e;exact h.get (by simpa using e)
def adJ:Dr X (rM X aY):=by
 refine Dr.weak Xl ?_;rintro x y H Q ⟨μ,st,dx,dy,hs,hx,hy,hp⟩;cases dy with
 | int i =>
  rw[ao.aF]at hy;subst hy;cases dx with
  | loc n =>
   rw[ao.aG]at hx;obtain⟨p,h1,rfl⟩:=hx;simp only[aY]at hp;cases e:aA st n with
   | none=>rw[e]at hp;exact hp.elim
   | some ds =>
    rw[e]at hp;cases e2:L2.rQ ds i with
    | none=>simp only[mR,e2]at hp;exact hp.elim
    | some d =>
     simp only[mR,e2]at hp;obtain⟨p',xs,h3,h4,h5⟩:=hs.items e;rw[h1]at h3;cases h3;obtain⟨v,h6,h7⟩:=h5.rQ e2;exact .inl ⟨p,xs,i,v,rfl,rfl,h4,h6,hp.ret hs h7⟩
  | tup ds =>
   rw[ao.aR]at hx;obtain⟨p,xs,rfl,h1,h2⟩:=hx;simp only[aY]at hp;cases e2:L2.rQ ds i with
   | none=>simp only[e2]at hp;exact hp.elim
   | some d =>
    simp only[e2]at hp;obtain⟨v,h6,h7⟩:=h2.rQ e2;exact .inr (.inl ⟨p,xs,i,v,rfl,rfl,h1.qP,h6,hp.ret hs h7⟩)
  | str cs =>
   rw[ao.aO]at hx;subst hx;simp only[aY]at hp
   split at hp
   ·rename_i hl;cases e2:L2.rQ cs i with
    | none=>simp only[e2]at hp;exact hp.elim
    | some c =>
     simp only[e2]at hp;exact .inr (.inr ⟨_,i,c,rfl,rfl,by rw[zfx];exact zQ hl,by simpa[strOf] using e2,hp.ret hs (ao.aO.mpr rfl)⟩)
   ·exact hp.elim
  | _=>exact hp.elim
 | _=>cases dx<;>exact hp.elim
def abi(ha:JE X a ma)(hb:JE X b mb)(hs:Dp b:=by exact λ_ _=>rfl):JE X (.Subscript a b pos) (aL aY ma mb) :=
 JE.of (aaZ adJ ha hb hs) fun σ H Q h=>zr7 h
end
section
variable  {X:Cx}{e a b c:Expr}{es:List Expr}{t:TE}{ma mb mc:ME}{mA:MA}{pos p2:Pos}
noncomputable def cut{α:Type}(xs:List α)(lo hi:Option Int):List α:=(xs.drop (HT.cT xs.length 0 lo)).take (HT.cT xs.length xs.length hi - HT.cT xs.length 0 lo)
def aq.cut{K:PySem.W.Frag}{μ:List Addr}{H:Hp}{ds:List D}{xs:List V}(h:aq K μ H ds xs)(lo hi:Option Int):aq K μ H (M.cut ds lo hi) (zB xs lo hi):=by
 unfold M.cut zB;rw[<-h.length];exact (h.drop _).take _
def Gn{α:Type}{xs:List α}{lo hi:Option Int}(h:HT.cT xs.length 0 lo=0/\HT.cT xs.length xs.length hi=xs.length):cut xs lo hi=xs:=by
 unfold cut;rw[h.1,h.2];simp
def Em(i j:Nat):sliceRange (i:Int) (j:Int) 1=(List.range (j - i)).map λk=>i+k:=by
 unfold sliceRange;simp only[show (1:Int) > 0 by decide,if_true];have e:(if (i:Int)<(j:Int) then ((j:Int) - (i:Int)+1 - 1) / 1 else 0).toNat=j - i:=by
  split
  ·rw[Int.ediv_one];omega
  ·omega
 rw[e];refine kJ λk _=>?_;omega
def Ov(lo hi:Option Int)(n:Nat):Builtin.Str.strSliceIndices lo hi 1 n=(List.range (HT.cT n n hi - HT.cT n 0 lo)).map λk=>HT.cT n 0 lo+k:=by
 rw[<-Em];unfold Builtin.Str.strSliceIndices;simp only[show (1:Int) > 0 by decide,if_true];congr 1
 ·cases lo with
  | none=>rfl
  | some v =>
   show max 0 (min (if v<0 then v+(n:Int) else v) (n:Int))=((if v<0 then (v+(n:Int)).toNat else min v.toNat n:Nat):Int)
   split<;>omega
 ·cases hi with
  | none=>rfl
  | some v =>
   show max 0 (min (if v<0 then v+(n:Int) else v) (n:Int))=((if v<0 then (v+(n:Int)).toNat else min v.toNat n:Nat):Int)
   split<;>omega
def Iw(cs:List Nat)(i k:Nat):((List.range k).map λm=>i+m).filterMap (λm=>cs[m]?)=(cs.drop i).take k:=by
 induction k generalizing i with
 | zero=>simp
 | succ k ih =>
  rw[List.range_succ_eq_map,gm,nY,gJ];have e:((λm=>i+m)∘Nat.succ)=λm=>(i+1)+m:=by funext m;simp;omega
  rw[e,ih (i+1)];cases q:cs[i]? with
  | none =>
   have hl:cs.length<=i:=List.getElem?_eq_none_iff.mp q;simp[q,nu hl,nu (Nat.le_succ_of_le hl)]
  | some c =>
   have hl:=(gf.mp q).1;have hc:=(gf.mp q).2;simp[q,n6 hl,hc]
def Ek(cs:List Nat)(lo hi:Option Int):Txt.slice (strOf cs) lo hi=strOf (cut cs lo hi):=by
 have e:(strOf cs).length=cs.length:=by simp[Str.length,strOf]
 unfold Txt.slice;rw[e,Ov];have hj:HT.cT cs.length cs.length hi<=cs.length:=HT.HJ _ _ (gb _) hi;have q:((List.range (HT.cT cs.length cs.length hi - HT.cT cs.length 0 lo)).map λk=>HT.cT cs.length 0 lo+k).filterMap (λm=>(strOf cs).cps[m]?)=cut cs lo hi:=by
  have:(λ(m:Nat)=>(strOf cs).cps[m]?)=λ(m:Nat)=>cs[m]?:=by funext m;simp[strOf]
  rw[this,Iw];rfl
 split
 ·rename_i h;rw[gB]at h;have h2:HT.cT cs.length cs.length hi - HT.cT cs.length 0 lo=cs.length:=by simpa using h.2
  have h3:cut cs lo hi=cs:=by
   unfold cut;rw[h2];by_cases hz:cs.length=0
   ·have:cs=[]:=nA.mp hz;subst this;simp
   ·have:HT.cT cs.length 0 lo=0:=by omega
    rw[this];simp
  rw[h3]
 ·rw[q]
noncomputable def zU:D->Option Int->Option Int->ak->R D
 | .loc n,lo,hi,st=>match aA st n with | some ds=>.ok (.loc st.length) (st++[.lst (cut ds lo hi)]) | none=>.bad
 | .tup ds,lo,hi,st=>.ok (.tup (cut ds lo hi)) st
 | .str cs,lo,hi,st=>if cs.length<=1000000 then .ok (.str (cut cs lo hi)) st else .bad
 | _,_,_,_=>.bad
def rMS(X:Cx)(g:D->Option Int->Option Int->ak->R D):V->Option Int->Option Int->Hp->VK->Prop:=λx lo hi H Q=>∃μ st dx,aQ X.K μ H st/\ao X.K μ H dx x/\bF X μ H (lM X) Q (g dx lo hi st)
def adk:V->Option Int->Option Int->Hp->VK->Prop:=λx lo hi H Q=>∃cs,x=.str (strOf cs)/\cs.length<=sizeLine/\Q (.str (strOf (cut cs lo hi))) H
def Vr:zG X adk:=by
 intro pins s σ H x v vl vu lo hi sl Q I rx hs pl pu h;obtain⟨cs,rfl,hz,q⟩:=h;obtain⟨t,rfl⟩:=rx;obtain⟨l,el,ml⟩:∃l:Option (Int×Tok),vl=partValue l/\l.map (·.1)=lo:=by
  cases pl with
  | none=>exact⟨none,rfl,rfl⟩
  | int i u=>exact⟨some (i,u),rfl,rfl⟩
 obtain⟨u,eu,mu⟩:∃l:Option (Int×Tok),vu=partValue l/\l.map (·.1)=hi:=by
  cases pu with
  | none=>exact⟨none,rfl,rfl⟩
  | int i u=>exact⟨some (i,u),rfl,rfl⟩
 subst el eu;have qp:s.heap.IsSlice sl l u none:=hs;refine⟨"str",_,F.slot_str_getitem.lookup,typeIs_str _ _ _,wpAny_getItem_str_slice (l:=l) (u:=u) (st:=none) qp rfl ?_⟩;have e:Txt.slice (strOf cs) lo hi=strOf (cut cs lo hi):=Ek cs lo hi;unfold Txt.slice at e;unfold sliceMade slicePicked;rw[ml,mu]
 split
 ·rename_i h;have h':((1:Int)==1 && (Builtin.Str.strSliceIndices lo hi 1 (strOf cs).length).length==(strOf cs).length)=true:=h;rw[ae1 h']at e;exact⟨.str (strOf cs),H,I,⟨t,rfl⟩,by rw[<-e]at q;exact q⟩
 ·rename_i h;have h':¬ ((1:Int)==1 && (Builtin.Str.strSliceIndices lo hi 1 (strOf cs).length).length==(strOf cs).length)=true:=h;rw[ae2 h']at e;have e':({ cps:=((Builtin.Str.strSliceIndices lo hi ((Option.map (·.1) (none:Option (Int×Tok))).getD 1) (strOf cs).length).filterMap λx=>(strOf cs).cps[x]?).toArray }:Str)=strOf (cut cs lo hi):=e;rw[e'];refine⟨?_,.str (strOf (cut cs lo hi)),H,I.tok _,⟨_,rfl⟩,q⟩;have:(strOf (cut cs lo hi)).length=(cut cs lo hi).length:=by simp[Str.length,strOf]
  rw[this];refine kh ?_ hz;unfold cut;rw[km,mL];omega
def acP:zG X (rMS X zU):=by
 refine zG.weak (zG.or Oj (zG.or Vq (zG.or Oi Vr))) ?_;rintro x lo hi H Q ⟨μ,st,dx,hs,hx,hp⟩;cases dx with
 | loc n =>
  rw[ao.aG]at hx;obtain⟨p,h1,rfl⟩:=hx;simp only[zU]at hp;cases e:aA st n with
  | none=>rw[e]at hp;exact hp.elim
  | some ds =>
   rw[e]at hp;obtain⟨p',xs,h3,h4,h5⟩:=hs.items e;rw[h1]at h3;cases h3;exact .inl ⟨p,xs,rfl,h4,λq hq=>hp.newList hs (h5.cut lo hi) hq⟩
 | tup ds =>
  rw[ao.aR]at hx;obtain⟨p,xs,rfl,h1,h2⟩:=hx;by_cases hw:HT.cT xs.length 0 lo=0/\HT.cT xs.length xs.length hi=xs.length
  ·refine .inr (.inr (.inl ⟨p,xs,rfl,h1.qP,hw,hp.ret hs ?_⟩));rw[<-h2.length]at hw;rw[Gn hw];exact ao.aR.mpr ⟨p,xs,rfl,h1,h2⟩
  ·exact .inr (.inl ⟨p,xs,rfl,h1.qP,hw,λq hq=>hp _ _ μ (a_.lay hq) (hs.lay hq) (ao.aR.mpr ⟨q,_,rfl,.inl rW,(h2.cut lo hi).mono (a_.lay hq) _⟩)⟩)
 | str cs =>
  rw[ao.aO]at hx;subst hx;simp only[zU]at hp
  split at hp
  ·rename_i hl;exact .inr (.inr (.inr ⟨cs,rfl,zQ hl,hp.ret hs (ao.aO.mpr rfl)⟩))
  ·exact hp.elim
 | _=>exact hp.elim
noncomputable def Tv:MP:=λ_ st=>.ok none st
noncomputable def Q8(m:ME):MP:=λenv st=>(m env st).bind λx st1=>match x with | .int i=>.ok (some i) st1 | _=>.bad
def QH:JP X none Tv:=by
 refine JP.of Pr fun σ H Q zz=>?_;obtain⟨μ,env,st,hE,hs,hp⟩:=zz;exact hp.ret hs rfl
def QG(h:JE X e m):JP X (some e) (Q8 m):=by
 refine JP.of (Pq h) fun σ H Q zz=>?_;obtain⟨μ,env,st,hE,hs,hp⟩:=zz;refine⟨μ,env,st,hE,hs,hp.bind.imp ?_⟩;rintro x H1 ⟨μ1,st1,d,g1,bx,hx,aP⟩;cases d with
 | int i=>exact⟨i,ao.aF.mp hx,aP.ret bx rfl⟩
 | _=>exact aP.elim
noncomputable def Hv(a:ME)(l h:MP):ME:=λenv st=>(a env st).bind λx st1=>(l env st1).bind λlo st2=>(h env st2).bind λhi fO=>zU x lo hi fO
def Ka(he:JE X e ma)(hl:JP X lo ml)(hu:JP X hi mh):JE X (.Subscript e (.Slice lo hi none p2) pos) (Hv ma ml mh):=by
 refine JE.of (I_ acP he hl hu) fun σ H Q zz=>?_;obtain⟨μ,env,st,hE,hs,hp⟩:=zz;refine⟨μ,env,st,hE,hs,hp.bind.imp ?_⟩;rintro x H1 ⟨μ1,st1,d,g1,bx,hx,aP⟩;refine⟨μ1,env,st1,hE.mono g1,bx,aP.bind.imp ?_⟩;rintro l H2 ⟨μ2,st2,l',g2,fQ,rfl,dw⟩;refine⟨μ2,env,st2,(hE.mono g1).mono g2,fQ,dw.bind.imp ?_⟩;rintro u H3 ⟨μ3,fO,u',g3,za,rfl,zW⟩;exact⟨μ3,fO,d,za,hx.mono (g2.trans g3) _,zW⟩
noncomputable def bU(g:List D->ak->R D)(mA:MA):ME:=λenv st=>(mA env st).bind λds st1=>g ds st1
def zs1(h:tM X (bU g mA) σ H Q):tMA X mA σ H λvs H1=>Nf X g vs H1 Q:=by
 obtain⟨μ,env,st,hE,hs,hp⟩:=h;refine⟨μ,env,st,hE,hs,hp.bind.imp ?_⟩;rintro xs H1 ⟨μ1,st1,ds,g1,bx,hx,aP⟩;exact⟨μ1,st1,ds,bx,hx,aP⟩
def Km{x:Str}{p:Pos}{id:String}{g:List D->ak->R D}(hc:cz X (.builtin id) (Nf X g))(hg:Gl X x)(hm:X.mg x=none)(hv:bootBuiltins x=some (.builtin id))(ha:JA X (e::es) mA)(hn:x ≠ "__name__":=by decide)(q9:(x==("__debug__":Str))=false:=by decide)
  (he:starEach (e::es) X.env=(false,eval e X.env)::starEach es X.env:=by rfl) (oR:(backTo pos (starEach es X.env)).any (·.1)=false:=by rfl):JE X (.Call (.Name x p) (e::es) [] pos) (bU g mA) :=
 JE.of (zts hc hg hm hv ha hn q9 he oR) fun σ H Q h=>zs1 h
def Ft{p:Pos}(hc:cz X (.type T) (Nf X g))(hg:Gl X x)(hm:X.mg x=none)(hv:bootBuiltins x=some (.type T))(ha:JA X (e::es) mA)(hn:x ≠ "__name__":=by decide)(q9:(x==("__debug__":Str))=false:=by decide) 
  (he:starEach (e::es) X.env=(false,eval e X.env)::starEach es X.env:=by rfl) (oR:(backTo pos (starEach es X.env)).any (·.1)=false:=by rfl):JE X (.Call (.Name x p) (e::es) [] pos) (bU g mA) :=
 JE.of (EY hc hg hm hv ha hn q9 he oR) fun σ H Q h=>zs1 h
end
inductive Out where
 | nx (env:aJ) | rt (d:D) | bk (env:aJ) | cn (env:aJ)
noncomputable abbrev MS:=aJ->ak->R Out
def cu(X:Cx)(μ:List Addr)(H:Hp)(E:Ends)(r:R Out):Prop:=match r with
 | .ok (.nx env) st=>∀(σ':L2.St) (H':Hp) (μ':List Addr),a_ μ H μ' H'->aQ X.K μ' H' st->dm X.K μ' H' env σ'->E.nx σ' H'
 | .ok (.rt d) st=>∀(v:V) (H':Hp) (μ':List Addr),a_ μ H μ' H'->aQ X.K μ' H' st->ao X.K μ' H' d v->E.rt v H'
 | .ok (.bk env) st=>∀(σ':L2.St) (H':Hp) (μ':List Addr),a_ μ H μ' H'->aQ X.K μ' H' st->dm X.K μ' H' env σ'->E.bk σ' H'
 | .ok (.cn env) st=>∀(σ':L2.St) (H':Hp) (μ':List Addr),a_ μ H μ' H'->aQ X.K μ' H' st->dm X.K μ' H' env σ'->E.ct σ' H'
 | .err x st=>v8 X μ H x st
 | .bad=>False
noncomputable def Vh(X:Cx)(m:MS):TS:=λE σ H=>∃μ env st,dm X.K μ H env σ/\aQ X.K μ H st/\cu X μ H E (m env st)
def JS(X:Cx)(s:Stmt)(m:MS):Prop:=PS X s (Vh X m)
def zM(X:Cx)(s:List Stmt)(m:MS):Prop:=zK X s (Vh X m)
section
variable  {X:Cx}{e a b c:Expr}{es:List Expr}{t:TE}{ma mb mc:ME}{mA:MA}{pos p2:Pos}{s:Stmt}{ss:List Stmt}{m m1 m2:MS}{μ μ1:List Addr}{H H1:Hp}{E E':Ends}{r:R Out}
def cu.mono(g:a_ μ H μ1 H1)(h:cu X μ H E r):cu X μ1 H1 E r:=by
 match r,h with
 | .ok (.nx _) _,h=>exact fun σ' H' μ' g'=>h σ' H' μ' (g.trans g')
 | .ok (.rt _) _,h=>exact fun σ' H' μ' g'=>h σ' H' μ' (g.trans g')
 | .ok (.bk _) _,h=>exact fun σ' H' μ' g'=>h σ' H' μ' (g.trans g')
 | .ok (.cn _) _,h=>exact fun σ' H' μ' g'=>h σ' H' μ' (g.trans g')
 | .err _ _,h=>exact v8.mono g h
 | .bad,h=>exact h
def JS.of{t:TS}(h:PS X s t)(k:∀E σ H,Vh X m E σ H->t E σ H):JS X s m:=λpins s σ H D I q=>h pins s σ H D I (k D σ H q)
def zM.of{t:TS}(h:zK X ss t)(k:∀E σ H,Vh X m E σ H->t E σ H):zM X ss m:=λpins s σ H D I q=>h pins s σ H D I (k D σ H q)
def cu.nx{env:aJ}{st:ak}{σ:L2.St}(h:cu X μ H E (.ok (.nx env) st))(hs:aQ X.K μ H st)(hE:dm X.K μ H env σ):E.nx σ H:=h σ H μ (.refl _ _) hs hE
noncomputable def bR:MS:=λenv st=>.ok (.nx env) st
noncomputable def aD(a b:MS):MS:=λenv st=>(a env st).bind λo st1=>match o with | .nx env1=>b env1 st1 | o=>.ok o st1
noncomputable def retS(m:ME):MS:=λenv st=>(m env st).bind λd st1=>.ok (.rt d) st1
noncomputable def dF(m:ME):MS:=λenv st=>(m env st).bind λ_ st1=>.ok (.nx env) st1
noncomputable def iZ(c:MT)(a b:MS):MS:=λenv st=>(c env st).bind λx st1=>if x then a env st1 else b env st1
noncomputable def Yu:MS:=λenv st=>.ok (.bk env) st
def J5:zM X [] bR:=by
 refine zM.of Pj λE σ H zz=>?_;obtain⟨μ,env,st,hE,hs,hp⟩:=zz;exact hp.nx hs hE
def J7:JS X (.Break pos) Yu:=by
 refine JS.of Im λE σ H zz=>?_;obtain⟨μ,env,st,hE,hs,hp⟩:=zz;exact hp σ H μ (.refl _ _) hs hE
def Bh(h:JS X s m):zM X [s] m:=Ph h
def cu.seq(h:cu X μ H E (r.bind λo st1=>match o with | .nx env1=>m2 env1 st1 | o=>.ok o st1)):cu X μ H { E with nx:=Vh X m2 E } r:=by
 match r,h with
 | .ok (.nx env1) st1,h=>exact fun σ' H' μ' g hs hE=>⟨μ',env1,st1,hE,hs,cu.mono g h⟩
 | .ok (.rt _) _,h=>exact h
 | .ok (.bk _) _,h=>exact h
 | .ok (.cn _) _,h=>exact h
 | .err _ _,h=>exact h
 | .bad,h=>exact h
def jC(h1:JS X s m1)(h2:zM X ss m2):zM X (s::ss) (aD m1 m2):=by
 refine zM.of (Ik h1 h2) λE σ H zz=>?_;obtain⟨μ,env,st,hE,hs,hp⟩:=zz;exact⟨μ,env,st,hE,hs,cu.seq hp⟩
def cu.val{α β:Type}{rel:Rel α β}{r:R α}{f:α->ak->R Out}(h:cu X μ H E (r.bind f)):bF X μ H rel (λb H1=>∃μ1 st1 a,a_ μ H μ1 H1/\aQ X.K μ1 H1 st1/\rel μ1 H1 a b/\cu X μ1 H1 E (f a st1)) r:=by
 cases r with
 | ok a st=>exact λb H' μ' g h1 h2=>⟨μ',st,a,g,h1,h2,cu.mono g h⟩
 | err x st=>exact h
 | bad=>exact h
def Uu(h:JE X e ma):JS X (.Return (some e) pos) (retS ma):=by
 refine JS.of (VL h) λE σ H zz=>?_;obtain⟨μ,env,st,hE,hs,hp⟩:=zz;refine⟨μ,env,st,hE,hs,hp.val.imp ?_⟩;rintro v H1 ⟨μ1,st1,d,g1,bx,hv,aP⟩;exact aP v H1 μ1 (.refl _ _) bx hv
def ztn(h:JE X e ma)(hs:swapsWith e none pos.line X.env=pure false:=by rfl):JS X (.Expr e pos) (dF ma):=by
 refine JS.of (Pk h hs) λE σ H zz=>?_;obtain⟨μ,env,st,hE,hs,hp⟩:=zz;refine⟨μ,env,st,hE,hs,hp.val.imp ?_⟩;rintro v H1 ⟨μ1,st1,d,g1,bx,hv,aP⟩;exact aP.nx bx (hE.mono g1)
def J6{sa sb:List Stmt}{tc:MT}(hc:JT X c tc)(ha:zM X sa m1)(hb:zM X sb m2):JS X (.If c sa sb pos) (iZ tc m1 m2):=by
 refine JS.of (aaR hc ha hb) λE σ H zz=>?_;obtain⟨μ,env,st,hE,hs,hp⟩:=zz;refine⟨μ,env,st,hE,hs,hp.val.imp ?_⟩;rintro v H1 ⟨μ1,st1,d,g1,bx,rfl,aP⟩;cases d with
 | true=>exact yZ ⟨μ1,env,st1,hE.mono g1,bx,aP⟩
 | false=>exact y_ ⟨μ1,env,st1,hE.mono g1,bx,aP⟩
noncomputable abbrev MG:=D->aJ->ak->R aJ
noncomputable abbrev Nr:=List D->aJ->ak->R aJ
noncomputable abbrev aaD(X:Cx):Rel aJ L2.St:=fun μ H env σ=>dm X.K μ H env σ
noncomputable def tMG(X:Cx)(m:MG):TG:=λv σ H Q=>∃μ env st d,dm X.K μ H env σ/\aQ X.K μ H st/\ao X.K μ H d v/\bF X μ H (aaD X) Q (m d env st)
noncomputable def aar(X:Cx)(m:Nr):Uq:=λvs σ H Q=>∃μ env st ds,dm X.K μ H env σ/\aQ X.K μ H st/\aq X.K μ H ds vs/\bF X μ H (aaD X) Q (m ds env st)
def JG(X:Cx)(t:Expr)(m:MG):Prop:=PG X t (tMG X m)
def Ur(X:Cx)(ts:List Expr)(m:Nr):Prop:=PGs X ts (aar X m)
def JG.of{g:TG}{m:MG}(h:PG X e g)(k:∀v σ H Q,tMG X m v σ H Q->g v σ H Q):JG X e m:=λpins s σ H v u Q I r q=>h pins s σ H v u Q I r (k v σ H Q q)
def Ur.of{g:Uq}{m:Nr}(h:PGs X es g)(k:∀v σ H Q,aar X m v σ H Q->g v σ H Q):Ur X es m:=λpins s σ H v u Q I r q=>h pins s σ H v u Q I r (k v σ H Q q)
noncomputable def aW(i:Nat):MG:=λd env st=>.ok (env.set i (some d)) st
def QQ(i:Nat)(hN:X.N.Nodup)(hi:X.N[i]? = some x:=by rfl)(hx:Loc X.env.scope x:=by first | exact Or.inl rfl | exact Or.inr rfl)(hf:X.fn x=true\/X.env.scope.names.lookup x=some .local:=by first | exact .inl rfl | exact .inr rfl | assumption):JG X (.Name x pos) (aW i):=by
 refine JG.of (PQ hN hi hx hf) λv σ H Q zz=>?_;obtain⟨μ,env,st,d,hE,hs,hv,hp⟩:=zz;exact hp.ret hs (hE.set hv)
noncomputable def xX:Nr:=λds env st=>match ds with | []=>.ok env st | _=>.bad
noncomputable def eY(g:MG)(r:Nr):Nr:=λds env st=>match ds with | d::ds=>(g d env st).bind λenv1 st1=>r ds env1 st1 | _=>.bad
def QM:Ur X [] xX:=Ur.of PN λvs σ H Q zz=>by
 obtain⟨μ,env,st,ds,hE,hs,hv,hp⟩:=zz;cases ds with
 | nil=>rw[aq]at hv;exact⟨hv,hp.ret hs hE⟩
 | cons _ _=>exact hp.elim
def J_(h1:JG X e g)(h2:Ur X es gs)(hs:(assignEach (e::es) X.env).map (·.2)=assign e X.env::(assignEach es X.env).map (·.2):=by rfl):Ur X (e::es) (eY g gs) :=
 Ur.of (IV h1 h2 hs) λvs σ H Q zz=>by
 obtain⟨μ,env,st,ds,hE,hs,hv,hp⟩:=zz;cases ds with
 | nil=>exact hp.elim
 | cons d ds =>
  rw[aq]at hv;obtain⟨v,r,rfl,h3,h4⟩:=hv;refine⟨v,r,rfl,μ,env,st,d,hE,hs,h3,(bF.bind hp).imp ?_⟩;rintro σ1 H1 ⟨μ1,st1,env1,g1,bx,hE1,aP⟩;exact⟨μ1,env1,st1,ds,hE1,bx,h4.mono g1 _,aP⟩
noncomputable def wu(n:Nat)(g:Nr):MG:=λd env st=>match d with | .tup ds=>if ds.length=n then g ds env st else .bad | _=>.bad
def W5{gs:Nr}{k:Nat}(n:Nat)(hc:X.calm=true)(h:Ur X es gs)(hn:(assignEach es X.env).length=n:=by rfl)(FJ:(assignEach es X.env).findIdx? (·.1)=none:=by rfl):JG X (.Tuple es k pos) (wu n gs) :=
 JG.of (V2 hc h hn FJ) λv σ H Q zz=>by
 obtain⟨μ,env,st,d,hE,hs,hv,hp⟩:=zz;cases d with
 | tup ds =>
  rw[ao.aR]at hv;obtain⟨p,xs,rfl,h1,h2⟩:=hv;simp only[wu]at hp
  split at hp
  ·rename_i hl;exact⟨p,xs,rfl,h1.qP,by rw[<-h2.length];exact hl,μ,env,st,ds,hE,hs,h2,hp⟩
  ·exact hp.elim
 | _=>exact hp.elim
noncomputable abbrev acY:Rel Unit Unit:=λ_ _ _ _=>True
noncomputable def Tn(X:Cx)(g:D->D->D->ak->R Unit):R_:=λo i v H Q=>∃μ st d1 d2 d3,aQ X.K μ H st/\ao X.K μ H d1 o/\ao X.K μ H d2 i/\ao X.K μ H d3 v/\bF X μ H acY (λ_=>Q) (g d1 d2 d3 st)
def xR(hs:aQ X.K μ H st)(e:st[n]? = some (.lst ds))(hp:μ[n]? = some p)(hx:H p=some (.lst xs))(hy:aq X.K μ H ds' ys) :
  a_ μ H μ (upd H p (.lst ys))/\aQ X.K μ (upd H p (.lst ys)) (st.set n (.lst ds')):=by
 have g:Ext H (upd H p (.lst ys)):=Ext.mut hx (λ_ z=>nomatch z) (λ_ _ z=>nomatch z);have g':a_ μ H μ (upd H p (.lst ys)):=⟨⟨[],by simp⟩,g⟩;exact⟨g',hs.put e rfl rfl hp g ⟨ys,rW,hy.mono g' _⟩⟩
noncomputable def uY(g:D->D->D->ak->R Unit)(o i:ME):MG:=λd env st=>(o env st).bind λx st1=>(i env st1).bind λy st2=>(g x y d st2).bind λ_ fO=>.ok env fO
def W6(adO:Yy X (Tn X g))(ho:JE X o mo)(hi:JE X i mi) 
  (ha:∀v,assign (.Subscript o i pos) X.env v=(do
   let ov <-holding [v] (eval o X.env)
   let iv <-holding [v,ov] (eval i X.env)
   standAt pos
   holding [v,ov,iv] (setItem ov iv v)
   release [v,ov,iv] []):=by intro _;rfl):JG X (.Subscript o i pos) (uY g mo mi):=by
 refine JG.of (V3 ho hi adO ha) λv σ H Q zz=>?_;obtain⟨μ,env,st,d,hE,hs,hv,hp⟩:=zz;refine⟨μ,env,st,hE,hs,(bF.bind hp).imp ?_⟩;rintro x H1 ⟨μ1,st1,dx,g1,bx,hx,aP⟩;refine⟨μ1,env,st1,hE.mono g1,bx,(bF.bind aP).imp ?_⟩;rintro y H2 ⟨μ2,st2,dy,g2,fQ,hy,dw⟩;refine⟨μ2,st2,dx,dy,d,fQ,hx.mono g2 _,hy,(hv.mono g1 _).mono g2 _,(bF.bind dw).imp ?_⟩;rintro _ H3 ⟨μ3,fO,_,g3,za,_,zW⟩;exact zW.ret za (((hE.mono g1).mono g2).mono g3)
noncomputable def lB(m:ME)(g:MG):MS:=λenv st=>(m env st).bind λd st1=>(g d env st1).bind λenv1 st2=>.ok (.nx env1) st2
def Ao{tg:Expr}{g:MG}(he:JE X e ma)(hg:JG X tg g)(hs:swapsWithSole [tg] e pos.line X.env=pure false:=by rfl)(hw:swappedStores [tg] e X.env=pure none:=by rfl)(h1:(assignEach [tg] X.env).map (·.2)=[assign tg X.env]:=by rfl):JS X (.Assign [tg] e pos) (lB ma g):=by
 refine JS.of (VP he hg hs hw h1) λE σ H zz=>?_;obtain⟨μ,env,st,hE,hs,hp⟩:=zz;refine⟨μ,env,st,hE,hs,hp.val.imp ?_⟩;rintro x H1 ⟨μ1,st1,d,g1,bx,hx,aP⟩;refine⟨μ1,env,st1,d,hE.mono g1,bx,hx,aP.val.imp ?_⟩;rintro σ2 H2 ⟨μ2,st2,env2,g2,fQ,Uc,dw⟩;exact dw.nx fQ Uc
noncomputable def aK(i:Nat)(m:ME):MS:=lB m (aW i)
def YL(i:Nat){x:Str}{pos':Pos}(he:JE X e ma)(hN:X.N.Nodup)(hi:X.N[i]? = some x:=by rfl)(hx:Loc X.env.scope x:=by first | exact Or.inl rfl | exact Or.inr rfl)(hs:swapsWith e (some (.Name x pos')) pos.line X.env=pure false:=by rfl)
  (hf:X.fn x=true\/X.env.scope.names.lookup x=some .local:=by first | exact .inl rfl | exact .inr rfl | assumption):JS X (.Assign [.Name x pos'] e pos) (aK i ma):=by
 refine JS.of (VJ hN hi hx he hs hf) λE σ H zz=>?_;obtain⟨μ,env,st,hE,hs,hp⟩:=zz;refine⟨μ,env,st,hE,hs,hp.val.imp ?_⟩;rintro x H1 ⟨μ1,st1,d,g1,bx,hx,aP⟩;exact aP.nx bx ((hE.mono g1).set hx)
end
noncomputable def bf(c:MT)(b:MS):Nat->MS
 | 0,_,_=>.bad
 | n+1,env,st=>(c env st).bind λx st1=>if x then (b env st1).bind λo st2=>(match o with
   | .nx env2=>bf c b n env2 st2
   | .cn env2=>bf c b n env2 st2
   | .bk env2=>.ok (.nx env2) st2
   | .rt d=>.ok (.rt d) st2) else .ok (.nx env) st1
section
variable  {X:Cx}{e a b c:Expr}{es:List Expr}{t:TE}{ma mb mc:ME}{mA:MA}{pos p2:Pos}{s:Stmt}{ss body:List Stmt}{m m1 m2 mb:MS}{μ μ1:List Addr}{H H1:Hp}{E E':Ends}{r:R Out}{tc:MT}
theorem cu.loop{nxt:aJ->ak->R Out}{N:L2.St->Hp->Prop}
  (h:cu X μ H E (r.bind λo st2=>(match o with
   | .nx env2=>nxt env2 st2
   | .cn env2=>nxt env2 st2
   | .bk env2=>.ok (.nx env2) st2
   | .rt d=>.ok (.rt d) st2)))
  (hN:∀env2 st2 σ' H' μ',a_ μ H μ' H'->aQ X.K μ' H' st2->dm X.K μ' H' env2 σ'->cu X μ' H' E (nxt env2 st2)->N σ' H') :
  cu X μ H { E with nx:=N,ct:=N,bk:=E.nx } r:=by
 match r,h with
 | .ok (.nx env1) st1,h=>exact fun σ' H' μ' g hs hE=>hN env1 st1 σ' H' μ' g hs hE (cu.mono g h)
 | .ok (.cn env1) st1,h=>exact fun σ' H' μ' g hs hE=>hN env1 st1 σ' H' μ' g hs hE (cu.mono g h)
 | .ok (.rt _) _,h=>exact h
 | .ok (.bk _) _,h=>exact h
 | .err _ _,h=>exact h
 | .bad,h=>exact h
def J4(n:Nat)(hc:JT X c tc)(hb:zM X body mb)(hp:PassesOwn (model X.prog X.w) X.A X.env X.xe):JS X (.While c body [] pos) (bf tc mb n):=by
 refine JS.of (Il hp hc hb) λE σ H h=>?_;refine⟨λk σ H=>Vh X (bf tc mb k) E σ H,⟨n,h⟩,?_⟩;rintro k σ H ⟨μ,env,st,hE,hs,hp⟩;cases k with
 | zero=>exact hp.elim
 | succ k =>
  refine⟨μ,env,st,hE,hs,(cu.val hp).imp ?_⟩;rintro v H1 ⟨μ1,st1,d,g1,bx,rfl,aP⟩;cases d with
  | false=>exact y_ (aP.nx bx (hE.mono g1))
  | true =>
   refine yZ ⟨fun σ' H'=>Vh X (bf tc mb k) E σ' H',fun σ' H' q=>⟨k,nM _,q⟩,μ1,env,st1,hE.mono g1,bx,?_⟩;exact cu.loop (nxt:=bf tc mb k) aP λenv2 st2 σ' H' μ' g fQ Uc q=>⟨μ',env2,st2,Uc,fQ,q⟩
noncomputable abbrev Src:=List D×List (Nat×MO)
noncomputable abbrev MI:=aJ->ak->R Src
def uC(gs:List (Nat×MO))(st:ak):Prop:=∀g∈gs,st[g.1]? = some g.2
@[simp] def aco(st:ak):uC [] st:=λ_ h=>nomatch h
@[simp] def aa6(g:Nat×MO)(gs:List (Nat×MO))(st:ak):uC (g::gs) st↔st[g.1]? = some g.2/\uC gs st:=by simp[uC]
def j9(X:Cx)(μ:List Addr)(H:Hp)(J:It)(s:Src):Prop:=∀(H':Hp) (μ':List Addr) (st':ak),a_ μ H μ' H'->aQ X.K μ' H' st'->uC s.2 st' ->
 (∀(i:Nat) (d:D),s.1[i]? = some d->J.go i H'/\∀x Bf,J.yld i H' x Bf->a_ μ' H' μ' Bf/\aQ X.K μ' Bf st'/\ao X.K μ' Bf d x)/\J.stop s.1.length H'
noncomputable abbrev ac1(X:Cx):Rel Src It:=fun μ H s J=>j9 X μ H J s
noncomputable def tMI(X:Cx)(m:MI):TI:=fun σ H Q=>∃μ env st,dm X.K μ H env σ/\aQ X.K μ H st/\bF X μ H (ac1 X) (λJ H'=>Q J H') (m env st)
def JI(X:Cx)(tg iter:Expr)(m:MI):Prop:=PI X tg iter (tMI X m)
def JI.of{tg iter:Expr}{wi:TI}{m:MI}(h:PI X tg iter wi)(k:∀σ H Q,tMI X m σ H Q->wi σ H Q):JI X tg iter m:=λpins s σ H R I q=>h pins s σ H R I (k σ H R q)
open Classical in
noncomputable def cN(g:MG)(b:MS)(gs:List (Nat×MO)):List D->MS
 | [],env,st=>if uC gs st then .ok (.nx env) st else .bad
 | d::r,env,st=>if uC gs st then (g d env st).bind λenv1 st1=>(b env1 st1).bind λo st2=>(match o with
   | .nx env2=>cN g b gs r env2 st2
   | .cn env2=>cN g b gs r env2 st2
   | .bk env2=>.ok (.nx env2) st2
   | .rt d=>.ok (.rt d) st2) else .bad
noncomputable def lz(mi:MI)(g:MG)(b:MS):MS:=λenv st=>(mi env st).bind λs st1=>cN g b s.2 s.1 env st1
def yf(hi:JI X tg iter mi)(hg:JG X tg g)(hb:zM X body mb)(hp:PassesOwn (model X.prog X.w) X.A X.env X.xe)(hc:X.calm=true) 
  (hs:∀x,foldedSetIterable iter X.env x=pure x:=by intro _;rfl):JS X (.For tg iter body [] pos) (lz mi g mb):=by
 refine JS.of (VM hp hc hi hg hb hs) λE σ H zz=>?_;obtain⟨μ,env,st,hE,hs,hp⟩:=zz;refine⟨μ,env,st,hE,hs,(cu.val hp).imp ?_⟩;rintro J H1 ⟨μ1,st1,s,g1,bx,hJ,aP⟩;refine⟨λi k σ H=>∃μ2 env2 st2,a_ μ1 H1 μ2 H/\dm X.K μ2 H env2 σ/\aQ X.K μ2 H st2/\cu X μ2 H E (cN g mb s.2 (s.1.drop i) env2 st2)/\i<=s.1.length/\k=s.1.length - i,
  ⟨_,μ1,env,st1,.refl _ _,hE.mono g1,bx,by simpa using aP,mz _,rfl⟩,?_⟩
 rintro i k σ2 H2 ⟨μ2,env2,st2,g2,Uc,fQ,dw,hi,rfl⟩;by_cases zY:i<s.1.length
 ·have e1:s.1.drop i=s.1[i]::s.1.drop (i+1):=n6 zY;rw[e1,cN]at dw;by_cases ok:uC s.2 st2
  ·rw[ae1 ok]at dw;obtain⟨q1,q2⟩:=(hJ H2 μ2 st2 g2 fQ ok).1 i s.1[i] (gK zY);refine .inr ⟨q1,fun σ' H'=>∃μ3 yj fO,a_ μ1 H1 μ3 H'/\dm X.K μ3 H' yj σ'/\aQ X.K μ3 H' fO/\cu X μ3 H' E (cN g mb s.2 (s.1.drop (i+1)) yj fO),?_,?_⟩
   ·rintro σ' H' ⟨μ3,yj,fO,g3,hE3,za,zW⟩;exact⟨s.1.length - (i+1),by omega,μ3,yj,fO,g3,hE3,za,zW,by omega,rfl⟩
   ·intro x H3 hx;obtain⟨g3,za,hd⟩:=q2 x H3 hx;refine⟨μ2,env2,st2,s.1[i],Uc.mono g3,za,hd,(cu.val (cu.mono g3 dw)).imp ?_⟩;rintro σ4 H4 ⟨μ4,st4,abK,g4,hs4,hE4,hp4⟩;refine⟨μ4,abK,st4,hE4,hs4,?_⟩;exact cu.loop (nxt:=cN g mb s.2 (s.1.drop (i+1))) hp4 λad8 Ei σ' H' μ' g5 hs5 hE5 q=>⟨μ',ad8,Ei,((g2.trans g3).trans g4).trans g5,hE5,hs5,q⟩
  ·rw[ae2 ok]at dw;exact dw.elim
 ·have e1:s.1.drop i=[]:=nu (by omega);rw[e1,cN]at dw;have e2:i=s.1.length:=by omega
  by_cases ok:uC s.2 st2
  ·rw[ae1 ok]at dw;refine .inl ⟨by rw[e2];exact (hJ H2 μ2 st2 g2 fQ ok).2,dw.nx fQ Uc⟩
  ·rw[ae2 ok]at dw;exact dw.elim
noncomputable def lu(m:ME):MI:=λenv st=>(m env st).bind λd st1=>match d with
 | .loc n=>(match st1[n]? with
  | some (.lst ds)=>.ok (ds,[(n,.lst ds)]) st1
  | some (.frz ds)=>.ok (ds,[(n,.frz ds)]) st1
  | _=>.bad)
 | .tup ds=>.ok (ds,[]) st1
 | _=>.bad
def PI.or(h1:PI X tg l w1)(h2:PI X tg l w2):PI X tg l (fun σ H R=>w1 σ H R\/w2 σ H R):=λpins s σ H R I h=>h.elim (h1 pins s σ H R I) (h2 pins s σ H R I)
def CK{st:ak}(ho:o=.lst ds\/o=.frz ds)(hp:μ[n]? = some p):j9 X μ H (Itl X.K p) (ds,[(n,o)]):=by
 intro H' μ' st' g hs ok;have e:st'[n]? = some o:=(ok (n,o) (by simp));have e2:aA st' n=some ds:=by
  unfold aA;rcases ho with rfl | rfl<;>rw[e]
 obtain⟨p',xs,q1,q2,q3⟩:=hs.items e2;rw[g.get hp]at q1;cases q1;refine⟨λi d hd=>?_,xs,q2,Nat.le_of_eq q3.length.symm⟩;obtain⟨v,h1,h2⟩:=q3.get hd;refine⟨⟨xs,v,q2,h1⟩,?_⟩;rintro x Bf ⟨rfl,hx⟩;have:=hx xs q2;rw[h1]at this;cases this;exact⟨.refl _ _,hs,h2⟩
def QX(hq:oK X.K H p xs)(hd:aq X.K μ H ds xs):j9 X μ H (Itt X.K p) (ds,[]):=by
 intro H' μ' st' g hs ok;have FN:=g.ext.qP hq;have zc:=hd.mono g ds;refine⟨λi d e=>?_,xs,FN,Nat.le_of_eq hd.length.symm⟩;obtain⟨v,h1,h2⟩:=zc.get e;refine⟨⟨xs,v,FN,h1⟩,?_⟩;rintro x Bf ⟨rfl,hx⟩;have:=hx xs FN;rw[h1]at this;cases this;exact⟨.refl _ _,hs,h2⟩
def WW(h:JE X l ma):JI X tg l (lu ma):=by
 refine JI.of (PI.or (PJ h) (VR h)) fun σ H R hh=>?_

 obtain⟨μ,env,st,hE,hs,hp⟩:=hh;unfold lu at hp;cases hr:ma env st with
 | bad=>rw[hr]at hp;exact hp.elim
 | err x st1 =>
  rw[hr]at hp;refine .inl ⟨μ,env,st,hE,hs,?_⟩;rw[hr];exact hp
 | ok d st1 =>
  rw[hr,M.R.aB]at hp;cases d with
  | loc n =>
   simp only at hp;refine .inl ⟨μ,env,st,hE,hs,?_⟩;rw[hr];intro v H1 μ1 g1 bx hv;obtain⟨p,q1,rfl⟩:=ao.aG.mp hv;cases e:st1[n]? with
   | none=>rw[e]at hp;exact hp.elim
   | some mo =>
    cases mo with
    | lst ds =>
     rw[e]at hp;obtain⟨p',xs,r1,r2,r3⟩:=bx.lst e;rw[q1]at r1;cases r1;exact⟨p,rfl,⟨xs,oF.of r2⟩,hp _ _ _ g1 bx (CK (st:=st1) (.inl rfl) q1)⟩
    | frz ds =>
     rw[e]at hp;obtain⟨p',r1,xs,r2,r3⟩:=bx.at_ n _ e;rw[q1]at r1;cases r1;exact⟨p,rfl,⟨xs,r2.sqL⟩,hp _ _ _ g1 bx (CK (st:=st1) (.inr rfl) q1)⟩
    | _=>rw[e]at hp;exact hp.elim
  | tup ds =>
   refine .inr ⟨μ,env,st,hE,hs,?_⟩;rw[hr];intro v H1 μ1 g1 bx hv;obtain⟨p,xs,rfl,q1,q2⟩:=ao.aR.mp hv;exact⟨p,rfl,⟨xs,q1.qP⟩,hp _ _ _ g1 bx (QX q1.qP q2)⟩
  | _=>exact hp.elim
noncomputable def uR(lo:Int)(n:Nat):List D:=(List.range n).map λ(k:Nat)=>.int (lo+k)
noncomputable def xO(mA:MA):MI:=λenv st=>(mA env st).bind λds st1=>match ds with
 | [.int j]=>if -(2 ^ 62)<=j/\j<2 ^ 62 then .ok (uR 0 j.toNat,[]) st1 else .bad
 | _=>.bad
def Q0(lo:Int)(n:Nat):j9 X μ H (Itr lo n) (uR lo n,[]):=by
 intro H' μ' st' g hs ok;refine⟨λi d e=>?_,by show n<=_;simp[uR]⟩;have hi:i<n:=by have:=(gf.mp e).1;simpa[uR] using this
 simp[uR,hi]at e;subst e;refine⟨hi,?_⟩;rintro x Bf ⟨rfl,rfl⟩;exact⟨.refl _ _,hs,ao.aF.mpr rfl⟩
def aq.one(h:aq K μ H [d] vs):∃v,vs=[v]/\ao K μ H d v:=by
 rw[aq]at h;obtain⟨v,r,rfl,q1,q2⟩:=h;rw[aq]at q2;subst q2;exact⟨v,rfl,q1⟩
def aq.two(h:aq K μ H [d1,d2] vs):∃v w,vs=[v,w]/\ao K μ H d1 v/\ao K μ H d2 w:=by
 rw[aq]at h;obtain⟨v,r,rfl,q1,q2⟩:=h;obtain⟨w,rfl,q3⟩:=aq.one q2;exact⟨v,w,rfl,q1,q3⟩
def Fq(ha:JA X [a] mA)(hg:Gl X "range")(hm:X.mg "range" = none)(hs:starEach [a] X.env=[(false,eval a X.env)]:=by rfl):JI X tg (.Call (.Name "range" p) [a] [] pos) (xO mA):=by
 refine JI.of (Ez hg hm ha hs) fun σ H R zz=>?_;obtain⟨μ,env,st,hE,hs,hp⟩:=zz;refine⟨μ,env,st,hE,hs,(bF.bind hp).imp ?_⟩;rintro vs H1 ⟨μ1,st1,ds,g1,bx,hv,aP⟩;dsimp only at aP
 split at aP
 ·split at aP
  ·rename_i hc;obtain⟨v,rfl,q1⟩:=aq.one hv;rw[ao.aF]at q1;subst q1;exact⟨_,rfl,hc.1,hc.2,aP _ _ _ (.refl _ _) bx (Q0 0 _)⟩
  ·exact aP.elim
 ·exact aP.elim
end
noncomputable abbrev FD:=List D->ak->R D
def zJ(K:PySem.W.Frag)(μ:List Addr)(H:Hp)(Q:VK)(r:R D):Prop:=match r with
 | .ok d st=>∀(v:V) (H':Hp) (μ':List Addr),a_ μ H μ' H'->aQ K μ' H' st->ao K μ' H' d v->Q v H'
 | _=>False
noncomputable def u0(K:PySem.W.Frag)(n:Nat)(fd:FD):Sp:=λvs H Q _=>vs.length=n/\∃μ ds st,aq K μ H ds vs/\aQ K μ H st/\zJ K μ H Q (fd ds st)
noncomputable def startM(n:Nat)(ds:List D):aJ:=ds.map some++List.replicate (n - ds.length) none
noncomputable def bh(n:Nat)(m:MS):FD:=λds st=>(m (startM n ds) st).bind λo st1=>match o with
 | .rt d=>.ok d st1
 | .nx _=>.ok .non st1
 | _=>.bad
def aq.start(N:List Str)(h:aq K μ H ds vs):dm K μ H (startM N.length ds) (L2.start N vs):=by
 unfold startM L2.start;refine⟨by simp[h.length],λi d e=>?_⟩;rw[<-h.length];by_cases hi:i<ds.length
 ·rw[gF (by simpa using hi)]at e;rw[gF (by rw[gh,<-h.length];exact hi)];rw[gM]at e ⊢;cases q:ds[i]? with
  | none=>rw[q]at e;cases e
  | some d' =>
   rw[q]at e;cases e;obtain⟨v,q1,q2⟩:=h.get q;exact⟨v,by rw[q1];rfl,q2⟩
 ·rw[g_ (by simpa using hi)]at e;rw[List.getElem?_replicate]at e
  split at e<;>cases e
section
variable  {P:Program}{w:World}{K:PySem.W.Frag}{mg:Str->Option Value}{base:Heap}
def zq(F:Ds K x qual st f fd)(S:cJ N ps (aC st)) 
  (lU:∀(cdv:Value) (A:Around) (outer:List Env) (s:Shared) (H:Hp),cG k (A.deeper (PyProof.Rows.envOfC qual (aC st) s.heap.objs.size f cdv)) ->
   zM (vX qb P w K mg base N qual (aC st) f cdv A outer s H E0).Jp (aX st) m):bZ P w K mg base qb (k+1) f fd ps (u0 K ps.length (bh N.length m)):=by
 refine F.ok S (λvs H Q E h=>h.1) (λcdv A outer s H vs Q E hr h=>?_);obtain⟨hl,μ,ds,Te,hv,hs,hp⟩:=h;refine⟨_,lU cdv A outer s H hr,μ,startM N.length ds,Te,aq.start N hv,hs,?_⟩;unfold bh at hp;cases hr:m (startM N.length ds) Te with
 | bad=>rw[hr]at hp;exact hp.elim
 | err x st1=>rw[hr]at hp;exact hp.elim
 | ok o st1 =>
  rw[hr]at hp;cases o with
  | rt d=>exact hp
  | nx env=>exact fun σ' H' μ' g qp _=>hp .non H' μ' g qp (ao.bC.mpr rfl)
  | bk env=>exact hp.elim
  | cn env=>exact hp.elim
end
section
variable  {X:Cx}{e:Expr}{es:List Expr}{mA:MA}{pos p:Pos}{x:Str}{k:Nat}{f:Addr}{fd:FuncData}{ps:List Str}{F:FD}{lZ:List V}{ds:List Value}{dd:List D}
noncomputable def R.sure{α:Type}(r:R α):R α:=match r with
 | .ok a st=>.ok a st
 | _=>.bad
@[simp] def R.aca(a:α)(st:ak):(R.ok a st).sure=.ok a st:=dq rfl
noncomputable def az(F:FD)(dd:List D)(mA:MA):ME:=λenv st=>(mA env st).bind λas st1=>(F (as++dd) st1).sure
def QS(G:bZ X.prog X.w X.K X.mg X.base qb k f fd ps (u0 X.K ps.length F))(hr:cG k X.A)(hm:X.mg x=some (.ref f))(hk:PySem.W.keepIn X.K (.ref f)=true)(hb:Binds X.K fd ps ds)(hd:Vals lZ ds)
  (hdd:∀μ H,aq X.K μ H dd lZ) (ha:JA X (e::es) mA) (hlen:(e::es).length+lZ.length=ps.length:=by rfl) (hg:Gl X x:=by rfl) (q9:(x==("__debug__":Str))=false:=by decide) (he:starEach (e::es) X.env=(false,eval e X.env)::starEach es X.env:=by rfl) (oR:(backTo pos (starEach es X.env)).any (·.1)=false:=by rfl)
  (hA:∀env st as st1,mA env st=.ok as st1->as.length=(e::es).length:=by intros;rfl) :
  JE X (.Call (.Name x p) (e::es) [] pos) (az F dd mA):=by
 refine JE.of (Qf G hr hg hm hk hb hd Ce ha q9 he oR) fun σ H Q zz=>?_;obtain⟨μ,env,st,hE,hs,hp⟩:=zz;refine⟨μ,env,st,hE,hs,?_⟩;cases hr:mA env st with
 | bad=>unfold az at hp;rw[hr]at hp;exact hp
 | err y st1=>unfold az at hp;rw[hr]at hp;exact hp
 | ok as st1 =>
  unfold az at hp;rw[hr]at hp;intro vs H1 μ1 g1 bx hv;have Ax:aq X.K μ1 H1 (as++dd) (vs++lZ):=hv.append (hdd μ1 H1);refine⟨?_,μ1,as++dd,st1,Ax,bx,?_⟩
  ·rw[gG,<-hv.length,hA env st as st1 hr];exact hlen
  ·have dw:=bF.mono g1 (show bF X μ H (lM X) Q (F (as++dd) st1).sure from hp);cases hF:F (as++dd) st1 with
   | ok d st2=>rw[hF]at dw;exact dw
   | err y st2=>rw[hF]at dw;exact dw.elim
   | bad=>rw[hF]at dw;exact dw.elim
end
mutual
def under(n:Nat):D->Prop
 | .loc k=>k<n
 | .tup ds=>bW n ds
 | _=>True
def bW(n:Nat):List D->Prop
 | []=>True
 | d::ds=>under n d/\bW n ds
end
@[simp] def Zw(n:Nat):under n .non=True:=by simp[under]
@[simp] def aai(n:Nat)(b:Bool):under n (.bl b)=True:=by simp[under]
@[simp] def Zx(n:Nat)(i:Int):under n (.int i)=True:=by simp[under]
@[simp] def Zv(n:Nat)(c:List Nat):under n (.str c)=True:=by simp[under]
@[simp] def zoc(n:Nat)(ds:List D):under n (.tup ds)=bW n ds:=by simp[under]
@[simp] def zpd(n k:Nat):under n (.loc k)=(k<n):=by simp[under]
@[simp] def Vd(n:Nat):bW n []=True:=by simp[bW]
@[simp] def zjb(n:Nat)(d:D)(ds:List D):bW n (d::ds)=(under n d/\bW n ds):=by simp[bW]
def qg(n:Nat):MO->Prop
 | .lst ds=>bW n ds
 | .frz ds=>bW n ds
 | .dic kvs=>∀p∈kvs,under n p.2
 | .dkc kvs=>∀p∈kvs,under n p.2
 | .dkf kvs=>∀p∈kvs,under n p.2
 | .dtf kvs=>∀p∈kvs,under n p.2
 | .exc _ d=>under n d
 | .ins _ fs=>∀p∈fs,under n p.2
 | .tab _=>True
 | .clo _ _ ds=>bW n ds
 | .hid=>True
mutual
theorem ao.under:∀(d:D) {v:V},ao K μ H d v->M.under μ.length d
 | .non,_,_=>by simp
 | .bl _,_,_=>by simp
 | .int _,_,_=>by simp
 | .str _,_,_=>by simp
 | .tup ds,_,h=>by
  obtain⟨a,xs,_,_,h2⟩:=ao.aR.mp h;rw[zoc];exact aq.bW ds h2
 | .loc n,_,h=>by
  obtain⟨a,h1,_⟩:=ao.aG.mp h;rw[zpd];exact (gf.mp h1).1
theorem aq.bW:∀(ds:List D) {vs:List V},aq K μ H ds vs->M.bW μ.length ds
 | [],_,_=>by simp
 | d::ds,_,h=>by
  rw[aq]at h;obtain⟨v,r,_,h1,h2⟩:=h;rw[zjb];exact⟨ao.under d h1,aq.bW ds h2⟩
end
mutual
theorem ao.down:∀(d:D) {v:V},ao K (μ++ν) H d v->M.under μ.length d->ao K μ H d v
 | .non,_,h,_=>by simpa[ao] using h
 | .bl _,_,h,_=>by simpa[ao] using h
 | .int _,_,h,_=>by simpa[ao] using h
 | .str _,_,h,_=>by simpa[ao] using h
 | .tup ds,_,h,u=>by
  obtain⟨a,xs,e,h1,h2⟩:=ao.aR.mp h;rw[zoc]at u;exact ao.aR.mpr ⟨a,xs,e,h1,aq.down ds h2 u⟩
 | .loc n,_,h,u=>by
  obtain⟨a,h1,e⟩:=ao.aG.mp h;rw[zpd]at u;rw[gF u]at h1;exact ao.aG.mpr ⟨a,h1,e⟩
theorem aq.down:∀(ds:List D) {vs:List V},aq K (μ++ν) H ds vs->M.bW μ.length ds->aq K μ H ds vs
 | [],_,h,_=>by simpa[aq] using h
 | d::ds,_,h,u=>by
  rw[aq]at h ⊢;obtain⟨v,r,e,h1,h2⟩:=h;rw[zjb]at u;exact⟨v,r,e,ao.down d h1 u.1,aq.down ds h2 u.2⟩
end
theorem aH.under:∀{ds:List (κ×D)} {vs:List (κ×V)},aH K μ H ds vs->∀p∈ds,M.under μ.length p.2
 | [],_,_,_,hp=>nomatch hp
 | (k,d)::ds,_,⟨v,r,e,h1,h2⟩,p,hp=>by
  rcases gq.mp hp with rfl | hp
  ·exact ao.under d h1
  ·exact aH.under h2 p hp
theorem aH.down:∀{ds:List (κ×D)} {vs:List (κ×V)},aH K (μ++ν) H ds vs->(∀p∈ds,M.under μ.length p.2)->aH K μ H ds vs
 | [],_,h,_=>h
 | (k,d)::ds,_,⟨v,r,e,h1,h2⟩,u=>⟨v,r,e,ao.down d h1 (u (k,d) (by simp)),aH.down h2 λp hp=>u p (kI _ hp)⟩
def fM.under(h:fM K μ H a o):qg μ.length o:=by
 cases o with
 | lst ds=>obtain⟨xs,_,h2⟩:=h;exact aq.bW ds h2
 | frz ds=>obtain⟨xs,_,h2⟩:=h;exact aq.bW ds h2
 | dic ds=>obtain⟨xs,_,h2⟩:=h;exact h2.under
 | dkc ds=>obtain⟨xs,_,h2⟩:=h;exact h2.under
 | dkf ds=>obtain⟨xs,_,_,h2⟩:=h;exact h2.under
 | dtf ds=>obtain⟨xs,_,_,h2⟩:=h;exact h2.under
 | exc c d=>obtain⟨_,_,_,_,_,_,_,_,_,_,_,_,h7⟩:=h;exact ao.under d h7
 | ins c ds=>obtain⟨_,_,xs,_,_,h2⟩:=h;exact h2.under
 | tab x=>trivial
 | clo j l ds=>obtain⟨_,_,_,_,xs,_,_,_,_,_,h2⟩:=h;exact aq.bW ds h2
 | hid=>trivial
def fM.down(h:fM K (μ++ν) H a o)(u:qg μ.length o):fM K μ H a o:=by
 cases o with
 | lst ds=>obtain⟨xs,h1,h2⟩:=h;exact⟨xs,h1,aq.down ds h2 u⟩
 | frz ds=>obtain⟨xs,h1,h2⟩:=h;exact⟨xs,h1,aq.down ds h2 u⟩
 | dic ds=>obtain⟨xs,h1,h2⟩:=h;exact⟨xs,h1,h2.down u⟩
 | dkc ds=>obtain⟨xs,h1,h2⟩:=h;exact⟨xs,h1,h2.down u⟩
 | dkf ds=>obtain⟨xs,o,h1,h2⟩:=h;exact⟨xs,o,h1,h2.down u⟩
 | dtf ds=>obtain⟨xs,o,h1,h2⟩:=h;exact⟨xs,o,h1,h2.down u⟩
 | exc c d=>obtain⟨oe,C,dx,od,v,fs,h1,h2,h3,h4,h5,h6,h7⟩:=h;exact⟨oe,C,dx,od,v,fs,h1,h2,h3,h4,h5,h6,ao.down d h7 u⟩
 | ins c ds=>obtain⟨C,dx,xs,h0,h1,h2⟩:=h;exact⟨C,dx,xs,h0,h1,h2.down u⟩
 | tab x=>exact h
 | clo j l ds=>obtain⟨cl,pm,c',rH,vs,h1,h2,h3,h4,h5,h6⟩:=h;exact⟨cl,pm,c',rH,vs,h1,h2,h3,h4,h5,aq.down ds h6 u⟩
 | hid=>trivial
def fM.up(ν:List Addr)(h:fM K μ H a o):fM K (μ++ν) H a o:=h.keep ⟨⟨ν,rfl⟩,.refl H⟩ λ_ _ q=>q
def ziw{α:Type}{l l':List α}(h:l'.take l.length=l){n:Nat}{o:α}(e:l[n]? = some o):l'[n]? = some o:=by
 have hl:=(gf.mp e).1;rw[<-h,pH]at e;rw[ae1 hl]at e;exact e
def aQ.back{K:PySem.W.Frag}{μ ν:List Addr}{H H':Hp}{st st':ak}(h0:aQ K μ H st)(h:aQ K (μ++ν) H' st')(ht:st'.take st.length=st):aQ K μ H' st:=by
 refine⟨h0.len,λn o e=>?_,λi j a oi oj ei ej mi mj hi hj=>?_⟩
 ·obtain⟨a,h1,h2⟩:=h.at_ n o (ziw ht e);obtain⟨a0,h3,h4⟩:=h0.at_ n o e;have hn:n<μ.length:=by rw[h0.len];exact (gf.mp e).1
  rw[gF hn]at h1;exact⟨a,h1,h2.down h4.under⟩
 ·have up:∀k,μ[k]? = some a->(μ++ν)[k]? = some a:=λk hk=>by rw[gF (gf.mp hk).1];exact hk
  exact h.uniq i j a oi oj (ziw ht ei) (ziw ht ej) mi mj (up i hi) (up j hj)
def aQ.ab0{K:PySem.W.Frag}{μ ν:List Addr}{H H':Hp}{st st':ak}{k:Nat}{o:MO}{a:Addr}(h0:aQ K μ H st)(h:aQ K (μ++ν) H' st')(ht:st'.take st.length=st)(hk:st.length<=k)(e:st'[k]? = some o)(u:qg st.length o)(ha:(μ++ν)[k]? = some a) :
  aQ K (μ++[a]) H' (st++[o]):=by
 have hb:=h0.back h ht;obtain⟨a',q1,q2⟩:=h.at_ k o e;rw[ha]at q1;cases q1;have key:∀(n:Nat) (on:MO) (c:Addr),(st++[o])[n]? = some on->(μ++[a])[n]? = some c->(n<st.length/\st[n]? = some on/\μ[n]? = some c)\/(n=st.length/\on=o/\c=a):=λn on c e1 e2=>by
  by_cases hn:n<st.length
  ·rw[gF hn]at e1;rw[gF (by rw[h0.len];exact hn)]at e2;exact .inl ⟨hn,e1,e2⟩
  ·have hl:=(gf.mp e1).1;rw[gG,m7]at hl;have en:n=st.length:=by omega
   subst en;rw[g_ (gb _)]at e1;rw[<-h0.len,g_ (gb _)]at e2;simp at e1 e2;exact .inr ⟨rfl,e1.symm,e2.symm⟩
 refine⟨by simp[h0.len],λn on e1=>?_,λi j c oi oj ei ej mi mj hi hj=>?_⟩
 ·have hn:n<(μ++[a]).length:=by
   have:=(gf.mp e1).1;simpa[h0.len] using this
  obtain⟨c,hc⟩:∃c,(μ++[a])[n]? = some c:=⟨_,gK hn⟩;rcases key n on c e1 hc with⟨h1,h2,h3⟩ | ⟨h1,rfl,rfl⟩
  ·obtain⟨c',h4,h5⟩:=hb.at_ n on h2;rw[h3]at h4;cases h4;exact⟨c,hc,h5.up _⟩
  ·exact⟨c,hc,(q2.down (by rw[h0.len];exact u)).up _⟩
 ·have up:∀k,μ[k]? = some c->(μ++ν)[k]? = some c:=λk hk=>by rw[gF (gf.mp hk).1];exact hk
  rcases key i oi c ei hi with⟨h1,h2,h3⟩ | ⟨h1,rfl,rfl⟩
  ·rcases key j oj c ej hj with⟨g1,g2,g3⟩ | ⟨g1,rfl,rfl⟩
   ·exact hb.uniq i j c oi oj h2 g2 mi mj h3 g3
   ·have:=h.uniq i k c oi oj (ziw ht h2) e mi mj (up i h3) ha;omega
  ·rcases key j oj c ej hj with⟨g1,g2,g3⟩ | ⟨g1,_,_⟩
   ·have:=h.uniq j k c oj oi (ziw ht g2) e mj mi (up j g3) ha;omega
   ·rw[h1,g1]
open Classical in
noncomputable def gc(st:ak)(r:R D):R D:=match r with
 | .ok d st'=>if st'.take st.length=st/\under st.length d then .ok d st else (match d with
  | .loc k=>(match st'[k]? with
   | some o=>if st'.take st.length=st/\st.length<=k/\qg st.length o then .ok (.loc st.length) (st++[o]) else .ok d st'
   | none=>.ok d st')
  | d=>.ok d st')
 | r=>r
noncomputable def bu(F:FD):FD:=λds st=>gc st (F ds st)
def zsm(hs:aQ K μ H st)(h:zJ K μ H Q (gc st r)):zJ K μ H Q r:=by
 cases r with
 | bad=>exact h
 | err x st'=>exact h
 | ok d st' =>
  unfold gc at h;dsimp only at h;by_cases c1:st'.take st.length=st/\under st.length d
  ·rw[ae1 c1]at h;intro v H' μ' g qp hv;obtain⟨ν,rfl⟩:=g.pre;exact h v H' μ ⟨⟨[],by simp⟩,g.ext⟩ (hs.back qp c1.1) (ao.down d hv (by rw[hs.len];exact c1.2))
  ·rw[ae2 c1]at h;cases d with
   | loc k =>
    dsimp only at h;cases e:st'[k]? with
    | none=>rw[e]at h;exact h
    | some o =>
     rw[e]at h;dsimp only at h;by_cases c2:st'.take st.length=st/\st.length<=k/\qg st.length o
     ·rw[ae1 c2]at h;intro v H' μ' g qp hv;obtain⟨ν,rfl⟩:=g.pre;obtain⟨a,h1,rfl⟩:=ao.aG.mp hv;refine h _ H' (μ++[a]) ⟨⟨[a],rfl⟩,g.ext⟩ (hs.ab0 qp c2.1 c2.2.1 e c2.2.2 h1) (ao.aG.mpr ⟨a,?_,rfl⟩);rw[<-hs.len];simp
     ·rw[ae2 c2]at h;exact h
   | _=>exact h
def qQ(h:u0 K n (bu F) vs H Q E):u0 K n F vs H Q E:=by
 obtain⟨hl,μ,ds,st,h1,h2,h3⟩:=h;exact⟨hl,μ,ds,st,h1,h2,zsm h2 h3⟩
def o9(h:under st.length d):gc st (.ok d (st++g))=.ok d st:=by
 unfold gc;dsimp only;rw[ae1 ⟨by simp,h⟩]
def zr4(h:qg st.length o):gc st (.ok (.loc (st.length+g.length)) (st++g++o::g'))=.ok (.loc st.length) (st++[o]):=by
 unfold gc;dsimp only;rw[ae2 (by simp)];have e:(st++g++o::g')[st.length+g.length]? = some o:=by
  rw[g_ (by simp)];simp
 rw[e];dsimp only;rw[ae1 ⟨by simp,by omega,h⟩]
section
variable  {X:Cx}{e a b c:Expr}{es:List Expr}{ma mb mc:ME}{mA:MA}{pos p2 p:Pos}
noncomputable def wN:List D->ak->R D
 | [.str cs],st=>if cs.length<=1000000 then .ok (.int cs.length) st else .bad
 | [.tup ds],st=>.ok (.int ds.length) st
 | [.loc n],st=>match aA st n with | some ds=>.ok (.int ds.length) st | none=>.bad
 | _,_=>.bad
def zoq:cz X (.builtin "len") (Nf X wN):=by
 refine cz.weak (cz.or znb zm0) ?_;rintro xs H Q ⟨μ,st,ds,hs,hv,hp⟩;unfold wN at hp
 split at hp
 ·rename_i cs
  split at hp
  ·rename_i hl;obtain⟨v,rfl,q⟩:=aq.one hv;rw[ao.aO]at q;subst q;exact .inl ⟨_,rfl,by rw[zfx];exact zQ hl,by rw[zfx];exact hp.ret hs (ao.aF.mpr rfl)⟩
  ·exact hp.elim
 ·obtain⟨v,rfl,q⟩:=aq.one hv;obtain⟨p,ys,rfl,q1,q2⟩:=ao.aR.mp q;exact .inr ⟨p,ys,rfl,.inr q1.qP,by rw[<-q2.length];exact hp.ret hs (ao.aF.mpr rfl)⟩
 ·rename_i n;cases e:aA st n with
  | none=>rw[e]at hp;exact hp.elim
  | some ds =>
   rw[e]at hp;obtain⟨v,rfl,q⟩:=aq.one hv;obtain⟨p,q1,rfl⟩:=ao.aG.mp q;obtain⟨p',ys,r1,r2,r3⟩:=hs.items e;rw[q1]at r1;cases r1;exact .inr ⟨p,ys,rfl,.inl r2,by rw[<-r3.length];exact hp.ret hs (ao.aF.mpr rfl)⟩
 ·exact hp.elim
noncomputable def Q7:List D->ak->R D
 | [.int i],st=>.ok (.int i) st
 | [.bl k],st=>.ok (.int (if k then 1 else 0)) st
 | _,_=>.bad
def Gw:cz X (.type "int") (Nf X Q7):=by
 refine cz.weak Gx ?_;rintro xs H Q ⟨μ,st,ds,hs,hv,hp⟩;unfold Q7 at hp
 split at hp
 ·obtain⟨v,rfl,q⟩:=aq.one hv;rw[ao.aF]at q;subst q;exact .inl ⟨_,rfl,hp.ret hs (ao.aF.mpr rfl)⟩
 ·obtain⟨v,rfl,q⟩:=aq.one hv;rw[ao.bw]at q;subst q;exact .inr ⟨_,rfl,hp.ret hs (ao.aF.mpr rfl)⟩
 ·exact hp.elim
noncomputable def tL:List D->ak->R D
 | [.tup ds],st=>.ok (.loc st.length) (st++[.lst ds])
 | [.loc n],st=>match aA st n with | some ds=>.ok (.loc st.length) (st++[.lst ds]) | none=>.bad
 | _,_=>.bad
def zrq:cz X (.type "list") (Nf X tL):=by
 refine cz.weak zm6 ?_;rintro xs H Q ⟨μ,st,ds,hs,hv,hp⟩;unfold tL at hp
 split at hp
 ·obtain⟨v,rfl,q⟩:=aq.one hv;obtain⟨p,ys,rfl,q1,q2⟩:=ao.aR.mp q;exact⟨p,ys,rfl,.inr q1.qP,λl hl=>hp.newList hs q2 hl⟩
 ·rename_i n;cases e:aA st n with
  | none=>rw[e]at hp;exact hp.elim
  | some ds =>
   rw[e]at hp;obtain⟨v,rfl,q⟩:=aq.one hv;obtain⟨p,q1,rfl⟩:=ao.aG.mp q;obtain⟨p',ys,r1,r2,r3⟩:=hs.items e;rw[q1]at r1;cases r1;exact⟨p,ys,rfl,.inl r2,λl hl=>hp.newList hs r3 hl⟩
 ·exact hp.elim
noncomputable def Zy:D->ak->Option String
 | .non,_=>some "NoneType"
 | .bl _,_=>some "bool"
 | .int _,_=>some "int"
 | .str _,_=>some "str"
 | .tup _,_=>some "tuple"
 | .loc n,st=>match st[n]? with
  | some (.lst _)=>some "list"
  | some (.frz _)=>some "list"
  | some (.dic _)=>some "dict"
  | some (.dkc _)=>some "dict"
  | _=>none
def Ky{pins:List (Addr×Obj)}{σ:L2.St}{μ:List Addr}{H:Hp}{s:Shared}{A:Around}{E:Value->Shared->Prop}{Q:Value->Shared->Prop}{cv:Value}{k:Bool}{d:D}{st:ak}{x:V}{u:Value}{T:String}
  (I:Inv X pins σ H s) (hs:aQ X.K μ H st) (hd:ao X.K μ H d x) (rx:RelV x u) (ht:Zy d st=some T) (e:PySem.W.kitOne X.K (.type T) cv=some k) (h:∀tk,Q (.bool k) { s with toks:=tk }) :
  wpAny (model X.prog X.w) A (call (.builtin "isinstance") [u,cv]) Q E s:=by
 cases d with
 | non=>rw[ao.bC]at hd;subst hd;cases ht;exact Zb I rx (.non) e h
 | bl y=>rw[ao.bw]at hd;subst hd;cases ht;exact Zb I rx (.bl y) e h
 | int y=>rw[ao.aF]at hd;subst hd;cases ht;exact Zb I rx (.int y) e h
 | str y=>rw[ao.aO]at hd;subst hd;cases ht;exact Zb I rx (.str _) e h
 | tup ds =>
  obtain⟨a,xs,rfl,q1,q2⟩:=ao.aR.mp hd;cases ht;obtain⟨its,_,p,_⟩:=I.tuple (q1.qP);obtain⟨o,h1,h2,_⟩:=p;cases (show u=Value.ref a from rx);exact ae8 PySem.W.kitx_tuple I.oJ ⟨o,h1,h2⟩ e (λz=>nomatch z) h
 | loc n =>
  obtain⟨a,q1,rfl⟩:=ao.aG.mp hd;simp only[Zy]at ht;have lst:∀ds,aA st n=some ds->PySem.W.kitOne X.K (.type "list") cv=some k->wpAny (model X.prog X.w) A (call (.builtin "isinstance") [u,cv]) Q E s:=λds e1 e2=>by
   obtain⟨p',ys,r1,r2,r3⟩:=hs.items e1;rw[q1]at r1;cases r1;obtain⟨its,_,p,_⟩:=I.list r2;cases (show u=Value.ref a from rx);exact ae8 PySem.W.kitx_list I.oJ p.isList.typeIs e2 (λz=>nomatch z) h
  cases e1:st[n]? with
  | none=>rw[e1]at ht;cases ht
  | some mo =>
   rw[e1]at ht;cases mo with
   | lst ds=>cases ht;exact lst ds (by unfold aA;rw[e1]) e
   | frz ds=>cases ht;exact lst ds (by unfold aA;rw[e1]) e
   | dic kvs =>
    cases ht;obtain⟨p',r1,ws,r2,_⟩:=hs.at_ n _ e1;rw[q1]at r1;cases r1;exact Zb I rx (.dT r2) e h
   | dkc kvs =>
    cases ht;obtain⟨p',r1,ws,r2,_⟩:=hs.at_ n _ e1;rw[q1]at r1;cases r1;exact Zb I rx (.dK r2) e h
   | _=>cases ht
noncomputable def jc(t T:String):Bool:=t==T || (t == "bool" && T == "int")
noncomputable def yF(T:String):D->ak->R D:=λd st=>match Zy d st with | some t=>.ok (.bl (jc t T)) st | none=>.bad
noncomputable def Hl:List String:=["NoneType","bool","int","str","tuple","list","dict"]
def N8{d:D}{st:ak}{t:String}(h:Zy d st=some t):t∈Hl:=by
 cases d with
 | loc n =>
  simp only[Zy]at h
  split at h<;>cases h<;>decide
 | _=>cases h;decide
def rIs(X:Cx)(T:String):List V->Hp->VK->Prop:=λxs H Q=>∃μ st d x,xs=[x,.ty T]/\aQ X.K μ H st/\ao X.K μ H d x/\bF X μ H (lM X) Q (yF T d st)
def Mq{T:String}(hT:∀t∈Hl,PySem.W.kitOne X.K (.type t) (.type T)=some (jc t T)):cz X (.builtin "isinstance") (rIs X T):=by
 rintro pins s σ H xs us Q I hr ⟨μ,st,d,x,rfl,hs,hd,hp⟩;obtain⟨u,w',rfl,r1,r2⟩:=vals2 hr;cases (show w'=Value.type T from r2);unfold yF at hp;cases e:Zy d st with
 | none=>rw[e]at hp;exact hp.elim
 | some t =>
  rw[e]at hp;exact Ky I hs hd r1 e (hT t (N8 e)) λtk=>⟨.bl (jc t T),H,I.tok tk,rfl,hp.ret hs (ao.bw.mpr rfl)⟩
def QB{K:PySem.W.Frag}:∀t∈Hl,PySem.W.kitOne K (.type t) (.type "str")=some (jc t "str"):=by
 intro t ht;simp only[Hl,gq,kO,afx]at ht;rcases ht with rfl | rfl | rfl | rfl | rfl | rfl | rfl<;>rfl
def Xd{T:String}{xT:Str}(hT:∀t∈Hl,PySem.W.kitOne X.K (.type t) (.type T)=some (jc t T))(h:JE X e ma)(hg:Gl X "isinstance")(hm:X.mg "isinstance" = none)(hgT:Gl X xT)(hmT:X.mg xT=none)
  (hv:bootBuiltins xT=some (.type T)) (hb:bootBuiltins "isinstance" = some (.builtin "isinstance")) (hnT:xT ≠ "__name__":=by decide) (sZ:(xT==("__debug__":Str))=false:=by decide)
  (bx:starEach [e,.Name xT p2] X.env=[(false,eval e X.env),(false,eval (.Name xT p2) X.env)]:=by rfl) (fQ:starEach [.Name xT p2] X.env=[(false,eval (.Name xT p2) X.env)]:=by rfl) (oR:(backTo pos (starEach [.Name xT p2] X.env)).any (·.1)=false:=by rfl) :
  JE X (.Call (.Name "isinstance" p) [e,.Name xT p2] [] pos) (Aj (yF T) ma):=by
 refine JE.of (zts (Mq hT) hg hm hb (zl8 h (zl8 (Qg (v:=.ty T) hgT hmT hv rfl hnT sZ) Ai fQ) bx) (by decide) (by decide) bx oR) fun σ H Q zz=>?_;obtain⟨μ,env,st,hE,hs,hp⟩:=zz;refine⟨μ,env,st,hE,hs,(bF.bind hp).imp ?_⟩;rintro x H1 ⟨μ1,st1,d,g1,bx,hx,aP⟩;exact⟨μ1,st1,d,x,rfl,bx,hx,aP⟩
end
end M
namespace M
open PySem PySem.Spec PySem.SeqAt L2
mutual
noncomputable def jH:D->D->Bool
 | .non,.non=>true
 | .bl a,.bl b=>a==b
 | .bl a,.int b=>(if a then 1 else 0)==b
 | .int a,.bl b=>a==(if b then 1 else 0)
 | .int a,.int b=>a==b
 | .str a,.str b=>a==b
 | .tup a,.tup b=>jW a b
 | _,_=>false
noncomputable def jW:List D->List D->Bool
 | [],[]=>true
 | a::as,b::bs=>jH a b && jW as bs
 | _,_=>false
end
mutual
noncomputable def flat:D->Bool
 | .loc _=>false
 | .tup ds=>dR ds
 | _=>true
noncomputable def dR:List D->Bool
 | []=>true
 | d::ds=>flat d && dR ds
end
mutual
noncomputable def dep:D->Nat
 | .tup ds=>deps ds+1
 | _=>0
noncomputable def deps:List D->Nat
 | []=>0
 | d::ds=>max (dep d) (deps ds)
end
mutual
noncomputable def dI:D->D->Nat
 | .tup a,.tup b=>fZ a b+1
 | _,_=>0
noncomputable def fZ:List D->List D->Nat
 | a::as,b::bs=>max (dI a b) (fZ as bs)
 | _,_=>0
end
@[simp] def zsf(a b:List D):dI (.tup a) (.tup b)=fZ a b+1:=by simp[dI]
@[simp] def abU(d:D):dI .non d=0:=by simp[dI]
@[simp] def acw(b:Bool)(d:D):dI (.bl b) d=0:=by simp[dI]
@[simp] def Mj(b:Int)(d:D):dI (.int b) d=0:=by simp[dI]
@[simp] def Mi(b:List Nat)(d:D):dI (.str b) d=0:=by simp[dI]
@[simp] def abV(b:Nat)(d:D):dI (.loc b) d=0:=by simp[dI]
@[simp] def aaf(d:D):dI d .non=0:=by cases d<;>simp[dI]
@[simp] def abW(b:Bool)(d:D):dI d (.bl b)=0:=by cases d<;>simp[dI]
@[simp] def aag(b:Int)(d:D):dI d (.int b)=0:=by cases d<;>simp[dI]
@[simp] def aae(b:List Nat)(d:D):dI d (.str b)=0:=by cases d<;>simp[dI]
@[simp] def aad(bs:List D):fZ [] bs=0:=by simp[fZ]
@[simp] def Yt(as:List D):fZ as []=0:=by cases as<;>simp[fZ]
@[simp] def zlu(a b:D)(as bs:List D):fZ (a::as) (b::bs)=max (dI a b) (fZ as bs):=by simp[fZ]
@[simp] def abH:flat .non=true:=by simp[flat]
@[simp] def acr(b:Bool):flat (.bl b)=true:=by simp[flat]
@[simp] def Le(b:Int):flat (.int b)=true:=by simp[flat]
@[simp] def Ld(b:List Nat):flat (.str b)=true:=by simp[flat]
@[simp] def Lb(b:List D):flat (.tup b)=dR b:=by simp[flat]
@[simp] def aac:dR []=true:=by simp[dR]
@[simp] def zfr(d:D)(ds:List D):dR (d::ds)=(flat d && dR ds):=by simp[dR]
@[simp] def acu:dep .non=0:=by simp[dep]
@[simp] def aee(b:Bool):dep (.bl b)=0:=by simp[dep]
@[simp] def acv(b:Int):dep (.int b)=0:=by simp[dep]
@[simp] def acs(b:List Nat):dep (.str b)=0:=by simp[dep]
@[simp] def Rz(b:List D):dep (.tup b)=deps b+1:=by simp[dep]
@[simp] def abM:deps []=0:=by simp[deps]
@[simp] def Gi(d:D)(ds:List D):deps (d::ds)=max (dep d) (deps ds):=by simp[deps]
mutual
theorem ztw:∀(a b:D),dI a b<=dep a
 | .tup a,.tup b=>by rw[zsf,Rz];exact Nat.succ_le_succ (zn9 a b)
 | .tup a,.non=>by simp
 | .tup a,.bl _=>by simp
 | .tup a,.int _=>by simp
 | .tup a,.str _=>by simp
 | .tup a,.loc _=>by simp[dI]
 | .non,_=>by simp
 | .bl _,_=>by simp
 | .int _,_=>by simp
 | .str _,_=>by simp
 | .loc _,_=>by simp
theorem zn9:∀(a b:List D),fZ a b<=deps a
 | [],b=>by simp
 | a::as,[]=>by simp
 | a::as,b::bs=>by
  rw[zlu,Gi];have h1:=ztw a b;have h2:=zn9 as bs;omega
end
noncomputable def eqJ(as bs:List D)(j:Nat):Bool:=match as[j]?,bs[j]? with | some a,some b=>jH a b | _,_=>true
theorem zk1:∀(as bs:List D),jW as bs=((List.range (min as.length bs.length)).all (eqJ as bs) && as.length==bs.length)
 | [],[]=>by simp[jW]
 | [],b::bs=>by simp[jW]
 | a::as,[]=>by simp[jW]
 | a::as,b::bs=>by
  rw[jW,zk1 as bs];have e1:min (a::as).length (b::bs).length=min as.length bs.length+1:=by simp
  rw[e1,List.range_succ_eq_map,List.all_cons,List.all_map];have e2:((a::as).length==(b::bs).length)=(as.length==bs.length):=by
   rw[mU];simp
  rw[e2];have e3:eqJ (a::as) (b::bs) 0=jH a b:=rfl;rw[e3,Bool.and_assoc]
  rfl
mutual
theorem znz:∀(d:D),flat d=true->jH d d=true
 | .non,_=>by simp[jH]
 | .bl _,_=>by simp[jH]
 | .int _,_=>by simp[jH]
 | .str _,_=>by simp[jH]
 | .tup ds,h=>by rw[jH];exact zkf ds (by simpa using h)
 | .loc _,h=>by simp[flat]at h
theorem zkf:∀(ds:List D),dR ds=true->jW ds ds=true
 | [],_=>by simp[jW]
 | d::ds,h=>by
  rw[zfr,gB]at h;rw[jW,znz d h.1,zkf ds h.2];rfl
end
section
variable  {X:Cx}{pins:List (Addr×Obj)}{σ:L2.St}{μ:List Addr}{H:Hp}{s:Shared}
mutual
theorem zny(I:Inv X pins σ H s):∀(d1 d2:D) {v:V},flat d1=true->flat d2=true->ao X.K μ H d1 v->ao X.K μ H d2 v->d1=d2
 | .non,d2,_,_,f2,h1,h2=>by
  rw[ao.bC]at h1;subst h1;cases d2 with
  | non=>rfl
  | bl _=>rw[ao.bw]at h2;cases h2
  | int _=>rw[ao.aF]at h2;cases h2
  | str _=>rw[ao.aO]at h2;cases h2
  | tup _=>obtain⟨_,_,q,_⟩:=ao.aR.mp h2;cases q
  | loc _=>simp[flat]at f2
 | .bl b,d2,_,_,f2,h1,h2=>by
  rw[ao.bw]at h1;subst h1;cases d2 with
  | bl _=>rw[ao.bw]at h2;cases h2;rfl
  | non=>rw[ao.bC]at h2;cases h2
  | int _=>rw[ao.aF]at h2;cases h2
  | str _=>rw[ao.aO]at h2;cases h2
  | tup _=>obtain⟨_,_,q,_⟩:=ao.aR.mp h2;cases q
  | loc _=>simp[flat]at f2
 | .int b,d2,_,_,f2,h1,h2=>by
  rw[ao.aF]at h1;subst h1;cases d2 with
  | int _=>rw[ao.aF]at h2;cases h2;rfl
  | non=>rw[ao.bC]at h2;cases h2
  | bl _=>rw[ao.bw]at h2;cases h2
  | str _=>rw[ao.aO]at h2;cases h2
  | tup _=>obtain⟨_,_,q,_⟩:=ao.aR.mp h2;cases q
  | loc _=>simp[flat]at f2
 | .str b,d2,_,_,f2,h1,h2=>by
  rw[ao.aO]at h1;subst h1;cases d2 with
  | str _=>rw[ao.aO]at h2;injection h2 with h3;rw[zot.mp h3]
  | non=>rw[ao.bC]at h2;cases h2
  | bl _=>rw[ao.bw]at h2;cases h2
  | int _=>rw[ao.aF]at h2;cases h2
  | tup _=>obtain⟨_,_,q,_⟩:=ao.aR.mp h2;cases q
  | loc _=>simp[flat]at f2
 | .tup as,d2,_,f1,f2,h1,h2=>by
  obtain⟨a,xs,rfl,q1,q2⟩:=ao.aR.mp h1;cases d2 with
  | tup bs =>
   obtain⟨b,ys,e,r1,r2⟩:=ao.aR.mp h2;cases e;rw[I.sy (r1.qP) (q1.qP)]at r2;rw[zo8 I as bs (by simpa using f1) (by simpa using f2) q2 r2]
  | non=>rw[ao.bC]at h2;cases h2
  | bl _=>rw[ao.bw]at h2;cases h2
  | int _=>rw[ao.aF]at h2;cases h2
  | str _=>rw[ao.aO]at h2;cases h2
  | loc _=>simp[flat]at f2
 | .loc _,_,_,f1,_,_,_=>by simp[flat]at f1
theorem zo8(I:Inv X pins σ H s):∀(as bs:List D) {vs:List V},dR as=true->dR bs=true->aq X.K μ H as vs->aq X.K μ H bs vs->as=bs
 | [],bs,_,_,_,h1,h2=>by
  rw[aq]at h1;subst h1;cases bs with
  | nil=>rfl
  | cons _ _=>rw[aq]at h2;obtain⟨_,_,q,_⟩:=h2;cases q
 | a::as,bs,_,f1,f2,h1,h2=>by
  rw[aq]at h1;obtain⟨v,r,rfl,q1,q2⟩:=h1;cases bs with
  | nil=>rw[aq]at h2;cases h2
  | cons b bs =>
   rw[aq]at h2;obtain⟨v',r',e,r1,r2⟩:=h2;cases e;rw[zfr,gB]at f1 f2;rw[zny I a b f1.1 f2.1 q1 r1,zo8 I as bs f1.2 f2.2 q2 r2]
end
mutual
theorem Lj(I:Inv X pins σ H s):∀(d1 d2:D) {A:Around} {x y:V} {u w:Value},flat d1=true->flat d2=true->A.units+dI d1 d2<cLine->ao X.K μ H d1 x->ao X.K μ H d2 y->RelV x u->RelV y w ->
  EqAt A s u w (jH d1 d2)/\RcAt A s u w (jH d1 d2)/\RcNeAt A s u w (!jH d1 d2)
 | d1,d2,A,x,y,u,w,f1,f2,hu,h1,h2,r1,r2=>by
  cases d1 with
  | loc _=>simp[flat]at f1
  | non =>
   rw[ao.bC]at h1;subst h1;cases (show u=Value.none from r1);cases d2 with
   | loc _=>simp[flat]at f2
   | non=>rw[ao.bC]at h2;subst h2;cases (show w=Value.none from r2);exact⟨EqAt.same _,RcAt.none_none,RcNeAt.none_none⟩
   | bl b=>rw[ao.bw]at h2;subst h2;cases (show w=Value.bool b from r2);exact⟨EqAt.none_bool b,RcAt.none_bool b,RcNeAt.none_bool b⟩
   | int b=>rw[ao.aF]at h2;subst h2;obtain⟨t,rfl⟩:=r2;exact⟨EqAt.none_int b t,RcAt.none_int b t,RcNeAt.none_int b t⟩
   | str b=>rw[ao.aO]at h2;subst h2;obtain⟨t,rfl⟩:=r2;exact⟨EqAt.none_str _ t,RcAt.none_str _ t,RcNeAt.none_str _ t⟩
   | tup bs =>
    obtain⟨b,ys,rfl,q1,q2⟩:=ao.aR.mp h2;cases (show w=Value.ref b from r2);obtain⟨its,_,p,_⟩:=I.tuple (q1.qP);exact⟨EqAt.none_tuple p (by omega),RcAt.none_tuple p (by omega),RcNeAt.none_tuple p (by omega)⟩
  | bl a =>
   rw[ao.bw]at h1;subst h1;cases (show u=Value.bool a from r1);cases d2 with
   | loc _=>simp[flat]at f2
   | non=>rw[ao.bC]at h2;subst h2;cases (show w=Value.none from r2);exact⟨EqAt.bool_none a,RcAt.bool_none a,RcNeAt.bool_none a⟩
   | bl b=>rw[ao.bw]at h2;subst h2;cases (show w=Value.bool b from r2);simp only[jH];exact⟨EqAt.bool_bool a b,RcAt.bool_bool a b,RcNeAt.bool_bool a b⟩
   | int b=>rw[ao.aF]at h2;subst h2;obtain⟨t,rfl⟩:=r2;simp only[jH];exact⟨EqAt.bool_int a b t,RcAt.bool_int a b t,RcNeAt.bool_int a b t⟩
   | str b=>rw[ao.aO]at h2;subst h2;obtain⟨t,rfl⟩:=r2;exact⟨EqAt.bool_str a _ t,RcAt.bool_str a _ t,RcNeAt.bool_str a _ t⟩
   | tup bs =>
    obtain⟨b,ys,rfl,q1,q2⟩:=ao.aR.mp h2;cases (show w=Value.ref b from r2);obtain⟨its,_,p,_⟩:=I.tuple (q1.qP);exact⟨EqAt.bool_tuple a p (by omega),RcAt.bool_tuple a p (by omega),RcNeAt.bool_tuple a p (by omega)⟩
  | int a =>
   rw[ao.aF]at h1;subst h1;obtain⟨ta,rfl⟩:=r1;cases d2 with
   | loc _=>simp[flat]at f2
   | non=>rw[ao.bC]at h2;subst h2;cases (show w=Value.none from r2);exact⟨EqAt.int_none a ta,RcAt.int_none a ta,RcNeAt.int_none a ta⟩
   | bl b=>rw[ao.bw]at h2;subst h2;cases (show w=Value.bool b from r2);simp only[jH];exact⟨EqAt.int_bool a ta b,RcAt.int_bool a ta b,RcNeAt.int_bool a ta b⟩
   | int b=>rw[ao.aF]at h2;subst h2;obtain⟨t,rfl⟩:=r2;simp only[jH];exact⟨EqAt.int_int a ta b t,RcAt.int_int a ta b t,RcNeAt.int_int a ta b t⟩
   | str b=>rw[ao.aO]at h2;subst h2;obtain⟨t,rfl⟩:=r2;exact⟨EqAt.int_str a ta _ t,RcAt.int_str a ta _ t,RcNeAt.int_str a ta _ t⟩
   | tup bs =>
    obtain⟨b,ys,rfl,q1,q2⟩:=ao.aR.mp h2;cases (show w=Value.ref b from r2);obtain⟨its,_,p,_⟩:=I.tuple (q1.qP);exact⟨EqAt.int_tuple a ta p (by omega),RcAt.int_tuple a ta p (by omega),RcNeAt.int_tuple a ta p (by omega)⟩
  | str a =>
   rw[ao.aO]at h1;subst h1;obtain⟨ta,rfl⟩:=r1;cases d2 with
   | loc _=>simp[flat]at f2
   | non=>rw[ao.bC]at h2;subst h2;cases (show w=Value.none from r2);exact⟨EqAt.str_none _ ta,RcAt.str_none _ ta,RcNeAt.str_none _ ta⟩
   | bl b=>rw[ao.bw]at h2;subst h2;cases (show w=Value.bool b from r2);exact⟨EqAt.str_bool _ ta b,RcAt.str_bool _ ta b,RcNeAt.str_bool _ ta b⟩
   | int b=>rw[ao.aF]at h2;subst h2;obtain⟨t,rfl⟩:=r2;exact⟨EqAt.str_int _ ta b t,RcAt.str_int _ ta b t,RcNeAt.str_int _ ta b t⟩
   | str b =>
    rw[ao.aO]at h2;subst h2;obtain⟨t,rfl⟩:=r2;have e:(strOf a==strOf b)=jH (.str a) (.str b):=by
     rw[jH,mU,beq_iff_eq,beq_iff_eq];exact zot
    rw[<-e];exact⟨EqAt.str_str _ ta _ t,RcAt.str_str _ ta _ t,RcNeAt.str_str _ ta _ t⟩
   | tup bs =>
    obtain⟨b,ys,rfl,q1,q2⟩:=ao.aR.mp h2;cases (show w=Value.ref b from r2);obtain⟨its,_,p,_⟩:=I.tuple (q1.qP);exact⟨EqAt.str_tuple _ ta p (by omega),RcAt.str_tuple _ ta p (by omega),RcNeAt.str_tuple _ ta p (by omega)⟩
  | tup as =>
   have h1':=h1;have h2':=h2;obtain⟨a,xs,rfl,q1,q2⟩:=ao.aR.mp h1;cases (show u=Value.ref a from r1);obtain⟨its,ra,p,_⟩:=I.tuple (q1.qP);cases d2 with
   | loc _=>simp[flat]at f2
   | non=>rw[ao.bC]at h2;subst h2;cases (show w=Value.none from r2);exact⟨EqAt.tuple_none p (by omega),RcAt.tuple_none p (by omega),RcNeAt.tuple_none p (by omega)⟩
   | bl b=>rw[ao.bw]at h2;subst h2;cases (show w=Value.bool b from r2);exact⟨EqAt.tuple_bool b p (by omega),RcAt.tuple_bool b p (by omega),RcNeAt.tuple_bool b p (by omega)⟩
   | int b=>rw[ao.aF]at h2;subst h2;obtain⟨t,rfl⟩:=r2;exact⟨EqAt.tuple_int b t p (by omega),RcAt.tuple_int b t p (by omega),RcNeAt.tuple_int b t p (by omega)⟩
   | str b=>rw[ao.aO]at h2;subst h2;obtain⟨t,rfl⟩:=r2;exact⟨EqAt.tuple_str _ t p (by omega),RcAt.tuple_str _ t p (by omega),RcNeAt.tuple_str _ t p (by omega)⟩
   | tup bs =>
    obtain⟨b,ys,rfl,g1,g2⟩:=ao.aR.mp h2;cases (show w=Value.ref b from r2);obtain⟨qY,rb,p2,_⟩:=I.tuple (g1.qP);rw[zsf]at hu;rw[Lb]at f1 f2;have items:=Bb I as bs (A:=A.in1) f1 f2 (by show A.units+1+fZ as bs<cLine;omega) q2 g2 ra rb;have la:as.length=its.toArray.size:=by rw[gC,q2.length,ra.length]
    have lb:bs.length=qY.toArray.size:=by rw[gC,g2.length,rb.length]
    have e:((List.range (min its.toArray.size qY.toArray.size)).all (eqJ as bs) && its.toArray.size==qY.toArray.size)=jH (.tup as) (.tup bs):=by
     rw[jH,zk1,la,lb]
    have rc:RcAt A s (.ref a) (.ref b) (jH (.tup as) (.tup bs)):=by
     rw[<-e];exact RcAt.tuples p p2 (by omega) λj j1 j2=>items j (by simpa using j1) (by simpa using j2)
    have ne:RcNeAt A s (.ref a) (.ref b) (!jH (.tup as) (.tup bs)):=by
     rw[<-e];exact RcNeAt.tuples p p2 (by omega) λj j1 j2=>items j (by simpa using j1) (by simpa using j2)
    refine⟨?_,rc,ne⟩;by_cases Ub:a=b
    ·subst Ub;have:(D.tup as)=.tup bs:=zny I _ _ (by simpa using f1) (by simpa using f2) h1' h2';rw[<-this,znz _ (by simpa using f1)];exact EqAt.same _
    ·exact EqAt.of_refs Ub rc
theorem Bb(I:Inv X pins σ H s):∀(as bs:List D) {A:Around} {xs ys:List V} {us ws:List Value},dR as=true->dR bs=true->A.units+fZ as bs<cLine->aq X.K μ H as xs->aq X.K μ H bs ys->Vals xs us->Vals ys ws ->
  ∀(j:Nat) (h1:j<us.length) (h2:j<ws.length),EqAt A s us[j] ws[j] (eqJ as bs j)
 | [],bs,A,xs,ys,us,ws,_,_,_,h1,_,r1,_,j,j1,_=>by
  rw[aq]at h1;subst h1;cases r1;simp at j1
 | a::as,[],A,xs,ys,us,ws,_,_,_,_,h2,_,r2,j,_,j2=>by
  rw[aq]at h2;subst h2;cases r2;simp at j2
 | a::as,b::bs,A,xs,ys,us,ws,f1,f2,hu,h1,h2,r1,r2,j,j1,j2=>by
  rw[aq]at h1 h2;obtain⟨v,r,rfl,q1,q2⟩:=h1;obtain⟨v',r',rfl,g1,g2⟩:=h2;cases r1 with
  | cons r1 t1 =>
  cases r2 with
  | cons r2 t2 =>
  rw[zfr,gB]at f1 f2;rw[zlu]at hu;cases j with
  | zero=>exact (Lj I a b f1.1 f2.1 (by omega) q1 g1 r1 r2).1
  | succ j=>exact Bb I as bs f1.2 f2.2 (by omega) q2 g2 t1 t2 j (by simpa using j1) (by simpa using j2)
end
end
noncomputable def jV(L:Nat):D->D->ak->Option Bool
 | .loc m,.loc n,st=>match aA st m,aA st n with
  | some a,some b=>if dR a=true/\dR b=true/\fZ a b+1<L then some (jW a b) else none
  | _,_=>none
 | .loc m,.non,st=>(aA st m).map λ_=>false
 | .loc m,.tup b,st=>if 0<L then (aA st m).map λ_=>false else none
 | .non,.loc n,st=>(aA st n).map λ_=>false
 | .tup a,.loc n,st=>if 0<L then (aA st n).map λ_=>false else none
 | d1,d2,_=>if flat d1=true/\flat d2=true/\dI d1 d2<L then some (jH d1 d2) else none
section
variable  {X:Cx}{pins:List (Addr×Obj)}{σ:L2.St}{μ:List Addr}{H:Hp}{s:Shared}{L:Nat}
def Gf(I:Inv X pins σ H s)(f1:dR as=true)(f2:dR bs=true)(hu:A.units+1+fZ as bs<cLine)(h1:aq X.K μ H as xs)(h2:aq X.K μ H bs ys) 
  (q1:oF X.K H a xs) (q2:oF X.K H b ys):RcAt A s (.ref a) (.ref b) (jW as bs)/\RcNeAt A s (.ref a) (.ref b) (!jW as bs):=by
 obtain⟨its,ra,p,_⟩:=I.list q1;obtain⟨qY,rb,p2,_⟩:=I.list q2;have la:as.length=its.toArray.size:=by rw[gC,h1.length,ra.length]
 have lb:bs.length=qY.toArray.size:=by rw[gC,h2.length,rb.length]
 by_cases hl:its.toArray.size=qY.toArray.size
 ·have items:=Bb I as bs (A:=A.in1) f1 f2 hu h1 h2 ra rb;have e:((List.range its.toArray.size).all (eqJ as bs))=jW as bs:=by
   rw[zk1,la,lb,<-hl,Nat.min_self];simp
  rw[<-e];exact⟨RcAt.lists p.isList p2.isList hl (by omega) λj j1 j2=>items j (by simpa using j1) (by simpa using j2),RcNeAt.lists p.isList p2.isList hl (by omega) λj j1 j2=>items j (by simpa using j1) (by simpa using j2)⟩
 ·have e:jW as bs=false:=by
   rw[zk1,la,lb,Bool.and_eq_false_iff];exact .inr (by simpa using hl)
  have hl':(its.toArray.size != qY.toArray.size)=true:=by simpa using hl
  rw[e];exact⟨RcAt.lists_lengths p.isList p2.isList hl' (by omega),RcNeAt.lists_lengths p.isList p2.isList hl' (by omega)⟩
def Ln(I:Inv X pins σ H s)(hs:aQ X.K μ H st)(e:jV L d1 d2 st=some k)(hu:A.units+L<cLine)(h1:ao X.K μ H d1 x)(h2:ao X.K μ H d2 y)(r1:RelV x u)(r2:RelV y w) :
  RcAt A s u w k/\RcNeAt A s u w (!k):=by
 have plain:∀{d1 d2:D},ao X.K μ H d1 x->ao X.K μ H d2 y->(if flat d1=true/\flat d2=true/\dI d1 d2<L then some (jH d1 d2) else none)=some k->RcAt A s u w k/\RcNeAt A s u w (!k):=λ{d1 d2} h1 h2 e=>by
  split at e
  ·rename_i c;cases e;exact (Lj I d1 d2 c.1 c.2.1 (by omega) h1 h2 r1 r2).2
  ·cases e
 have list:∀{n:Nat} {v:V} {z:Value} {ds:List D},ao X.K μ H (.loc n) v->RelV v z->aA st n=some ds->∃p its,z=.ref p/\s.heap.IsList p its:=λ{n v z ds} h r q=>by
  obtain⟨p,q1,rfl⟩:=ao.aG.mp h;obtain⟨p',xs,g1,g2,g3⟩:=hs.items q;rw[q1]at g1;cases g1;cases (show z=Value.ref p from r);obtain⟨its,_,pl,_⟩:=I.list g2;exact⟨p,_,rfl,pl.isList⟩
 have tuple:∀{bs:List D} {v:V} {z:Value},ao X.K μ H (.tup bs) v->RelV v z->∃p its,z=.ref p/\s.heap.IsTuple p its:=λ{bs v z} h r=>by
  obtain⟨p,xs,rfl,q1,_⟩:=ao.aR.mp h;cases (show z=Value.ref p from r);obtain⟨its,_,pl,_⟩:=I.tuple (q1.qP);exact⟨p,_,rfl,pl⟩
 match d1,d2,e,h1,h2 with
 | .loc m,.loc n,e,h1,h2 =>
  simp only[jV]at e;cases e1:aA st m with
  | none=>rw[e1]at e;cases e
  | some as =>
   cases e2:aA st n with
   | none=>rw[e1,e2]at e;cases e
   | some bs =>
    rw[e1,e2]at e;dsimp only at e
    split at e
    ·rename_i c;cases e;obtain⟨p,q1,rfl⟩:=ao.aG.mp h1;obtain⟨p',xs,g1,g2,g3⟩:=hs.items e1;rw[q1]at g1;cases g1;obtain⟨q,q2,rfl⟩:=ao.aG.mp h2;obtain⟨q',ys,k1,k2,k3⟩:=hs.items e2;rw[q2]at k1;cases k1;cases (show u=Value.ref p from r1);cases (show w=Value.ref q from r2);exact Gf I c.1 c.2.1 (by omega) g3 k3 g2 k2
    ·cases e
 | .loc m,.non,e,h1,h2 =>
  simp only[jV]at e;cases e1:aA st m with
  | none=>rw[e1]at e;cases e
  | some as =>
   rw[e1]at e;cases e;obtain⟨p,its,rfl,pl⟩:=list h1 r1 e1;rw[ao.bC]at h2;subst h2;cases (show w=Value.none from r2);exact⟨RcAt.list_none pl (by omega),RcNeAt.list_none pl (by omega)⟩
 | .non,.loc n,e,h1,h2 =>
  simp only[jV]at e;cases e1:aA st n with
  | none=>rw[e1]at e;cases e
  | some as =>
   rw[e1]at e;cases e;obtain⟨p,its,rfl,pl⟩:=list h2 r2 e1;rw[ao.bC]at h1;subst h1;cases (show u=Value.none from r1);exact⟨RcAt.none_list pl (by omega),RcNeAt.none_list pl (by omega)⟩
 | .loc m,.tup bs,e,h1,h2 =>
  simp only[jV]at e
  split at e
  ·cases e1:aA st m with
   | none=>rw[e1]at e;cases e
   | some as =>
    rw[e1]at e;cases e;obtain⟨p,its,rfl,pl⟩:=list h1 r1 e1;obtain⟨q,qY,rfl,pt⟩:=tuple h2 r2;exact⟨RcAt.list_tuple pl pt (by omega),RcNeAt.list_tuple pl pt (by omega)⟩
  ·cases e
 | .tup as,.loc n,e,h1,h2 =>
  simp only[jV]at e
  split at e
  ·cases e1:aA st n with
   | none=>rw[e1]at e;cases e
   | some as =>
    rw[e1]at e;cases e;obtain⟨p,its,rfl,pl⟩:=list h2 r2 e1;obtain⟨q,qY,rfl,pt⟩:=tuple h1 r1;exact⟨RcAt.tuple_list pt pl (by omega),RcNeAt.tuple_list pt pl (by omega)⟩
  ·cases e
 | .non,.non,e,h1,h2=>exact plain h1 h2 (by simpa only[jV] using e)
 | .non,.bl _,e,h1,h2=>exact plain h1 h2 (by simpa only[jV] using e)
 | .non,.int _,e,h1,h2=>exact plain h1 h2 (by simpa only[jV] using e)
 | .non,.str _,e,h1,h2=>exact plain h1 h2 (by simpa only[jV] using e)
 | .non,.tup _,e,h1,h2=>exact plain h1 h2 (by simpa only[jV] using e)
 | .bl _,d2,e,h1,h2=>exact plain h1 h2 (by simpa only[jV] using e)
 | .int _,d2,e,h1,h2=>exact plain h1 h2 (by simpa only[jV] using e)
 | .str _,d2,e,h1,h2=>exact plain h1 h2 (by simpa only[jV] using e)
 | .tup _,.non,e,h1,h2=>exact plain h1 h2 (by simpa only[jV] using e)
 | .tup _,.bl _,e,h1,h2=>exact plain h1 h2 (by simpa only[jV] using e)
 | .tup _,.int _,e,h1,h2=>exact plain h1 h2 (by simpa only[jV] using e)
 | .tup _,.str _,e,h1,h2=>exact plain h1 h2 (by simpa only[jV] using e)
 | .tup _,.tup _,e,h1,h2=>exact plain h1 h2 (by simpa only[jV] using e)
 | .loc _,.bl _,e,h1,h2=>simp[jV,flat]at e
 | .loc _,.int _,e,h1,h2=>simp[jV,flat]at e
 | .loc _,.str _,e,h1,h2=>simp[jV,flat]at e
noncomputable def jf(L:Nat):D->D->ak->R D:=λd1 d2 st=>match jV L d1 d2 st with | some k=>.ok (.bl k) st | none=>.bad
noncomputable def wK(L:Nat):D->D->ak->R D:=λd1 d2 st=>match jV L d1 d2 st with | some k=>.ok (.bl (!k)) st | none=>.bad
def Jl(hu:X.A.units+L<cLine):d9 X (compareOp .Eq) (rM X (jf L)):=by
 rintro pins s σ H x y v u Q I rx ry ⟨μ,st,dx,dy,hs,hx,hy,hp⟩;unfold jf at hp;cases e:jV L dx dy st with
 | none=>rw[e]at hp;exact hp.elim
 | some k =>
  rw[e]at hp;exact (Ln I hs e hu hx hy rx ry).1 X.prog X.w X.xe _ ⟨.bl k,H,I,rfl,hp.ret hs (ao.bw.mpr rfl)⟩
def Jf(hu:X.A.units+L<cLine):d9 X (compareOp .NotEq) (rM X (wK L)):=by
 rintro pins s σ H x y v u Q I rx ry ⟨μ,st,dx,dy,hs,hx,hy,hp⟩;unfold wK at hp;cases e:jV L dx dy st with
 | none=>rw[e]at hp;exact hp.elim
 | some k =>
  rw[e]at hp;exact (Ln I hs e hu hx hy rx ry).2 X.prog X.w X.xe _ ⟨.bl (!k),H,I,rfl,hp.ret hs (ao.bw.mpr rfl)⟩
end
end M
namespace M
open PySem PySem.Spec L2
noncomputable def cM(T:String)(d:D)(st:ak):Bool:=match d with
 | .str _=>T == "str"
 | .loc n=>(match st[n]? with
  | some (.lst _)=>T == "list"
  | some (.frz _)=>T == "list"
  | some (.dic _)=>T == "dict"
  | some (.dkc _)=>T == "dict"
  | _=>false)
 | _=>false
section
variable  {X:Cx}{e a b c o:Expr}{es:List Expr}{ma mb mc mo:ME}{mA:MA}{pos p2 p apos di:Pos}{T id:String}{name:Str}{g:D->List D->ak->R D}
def CP(h:cM T d st=true)(hs:aQ X.K μ H st)(hv:ao X.K μ H d v):tyV X.K T v H:=by
 cases d with
 | str cs=>rw[ao.aO]at hv;subst hv;exact eq_of_beq h
 | loc n =>
  obtain⟨p,q1,rfl⟩:=ao.aG.mp hv;simp only[cM]at h;cases e:st[n]? with
  | none=>rw[e]at h;cases h
  | some o =>
   rw[e]at h;obtain⟨p',r1,r2⟩:=hs.at_ n o e;rw[q1]at r1;cases r1;cases o with
   | lst ds=>obtain⟨xs,r3,_⟩:=r2;exact .inl ⟨eq_of_beq h,xs,oF.of r3⟩
   | frz ds=>obtain⟨xs,r3,_⟩:=r2;exact .inl ⟨eq_of_beq h,xs,r3.sqL⟩
   | dic ds=>obtain⟨xs,r3,_⟩:=r2;exact .inr (.inr (.inl ⟨eq_of_beq h,.inr ⟨xs,r3⟩⟩))
   | dkc ds=>obtain⟨xs,r3,_⟩:=r2;exact .inr (.inr (.inl ⟨eq_of_beq h,.inl ⟨xs,r3⟩⟩))
   | _=>cases h
 | _=>simp[cM]at h
noncomputable def cH(T:String)(g:D->List D->ak->R D)(mo:ME)(mA:MA):ME:=λenv st=>(mo env st).bind λx st1=>if cM T x st1=true then (mA env st1).bind λxs st2=>g x xs st2 else .bad
noncomputable def eG(T:String)(g:D->List D->ak->R D)(mo:ME):ME:=λenv st=>(mo env st).bind λx st1=>if cM T x st1=true then g x [] st1 else .bad
def Sy(pa:PlainAttrs T)(slot:Slot T name id)(XC:typeOf (.builtin id)=pure (.type "method_descriptor"))(hm:rY X id (GX X g))(ho:JE X o mo)(ha:JA X (e::es) mA)
  (q_:attributeBase o name X.env (eval o X.env)=eval o X.env:=by rfl)
  (zb:((backTo di (starEach (e::es) X.env)).all (λx=>!x.1) && (backToKw di (keywordEach [] X.env)).all (λx=>x.1.isSome)
   && decide ((e::es).length+([]:List Keyword).length+(if ([]:List Keyword).isEmpty then 0 else 1)<30))=true:=by rfl)
  (hline:(apos.endLine==di.line)=true:=by rfl) (hs:starEach (e::es) X.env=(false,eval e X.env)::starEach es X.env:=by rfl) (vI:(backTo di (starEach es X.env)).any (·.1)=false:=by rfl):JE X (.Call (.Attribute o name apos) (e::es) [] di) (cH T g mo mA):=by
 refine JE.of (aa0 pa slot XC hm ho ha q_ zb hline hs vI) fun σ H Q zz=>?_;obtain⟨μ,env,st,hE,hs,hp⟩:=zz;refine⟨μ,env,st,hE,hs,(bF.bind hp).imp ?_⟩;rintro x H1 ⟨μ1,st1,d,g1,bx,hx,aP⟩;dsimp only at aP
 split at aP
 ·rename_i hT;refine⟨CP hT bx hx,μ1,env,st1,hE.mono g1,bx,(bF.bind aP).imp ?_⟩;rintro xs H2 ⟨μ2,st2,ds,g2,fQ,lR,dw⟩;exact⟨μ2,st2,d,ds,fQ,hx.mono g2 _,lR,dw⟩
 ·exact aP.elim
def zna(pa:PlainAttrs T)(slot:Slot T name id)(XC:typeOf (.builtin id)=pure (.type "method_descriptor"))(hm:rY X id (GX X g))(ho:JE X o mo)
  (q_:attributeBase o name X.env (eval o X.env)=eval o X.env:=by rfl) (hline:(apos.endLine==di.line)=true:=by rfl):JE X (.Call (.Attribute o name apos) [] [] di) (eG T g mo):=by
 refine JE.of (Wc pa slot XC hm ho q_ hline) fun σ H Q zz=>?_;obtain⟨μ,env,st,hE,hs,hp⟩:=zz;refine⟨μ,env,st,hE,hs,(bF.bind hp).imp ?_⟩;rintro x H1 ⟨μ1,st1,d,g1,bx,hx,aP⟩;dsimp only at aP
 split at aP
 ·rename_i hT;exact⟨CP hT bx hx,μ1,st1,d,[],bx,hx,aq.nil,aP⟩
 ·exact aP.elim
noncomputable def aU:D->List D->ak->R D
 | .loc n,[d],st=>match st[n]? with
  | some (.lst ds)=>if ds.length<1000000 then .ok .non (st.set n (.lst (ds++[d]))) else .bad
  | _=>.bad
 | _,_,_=>.bad
def U5{μ:List Addr}{H:Hp}{st:ak}{n:Nat}{ds ds':List D}{p:Addr}{xs ys:List V}{Q:VK}(hp:bF X μ H (lM X) Q (.ok .non (st.set n (.lst ds'))))(hs:aQ X.K μ H st)(e:st[n]? = some (.lst ds))(hq:μ[n]? = some p)(hx:H p=some (.lst xs))(hy:aq X.K μ H ds' ys) :
  Q .non (upd H p (.lst ys)):=by
 obtain⟨g,qp⟩:=xR hs e hq hx hy;exact hp _ _ μ g qp (ao.bC.mpr rfl)
def zr0:rY X "list.append" (GX X aU):=by
 refine rY.weak zo5 ?_;rintro x xs H Q ⟨μ,st,d,ds,hs,hx,lR,hp⟩;unfold aU at hp
 split at hp
 ·rename_i n d' ;cases e:st[n]? with
  | none=>rw[e]at hp;exact hp.elim
  | some mo =>
   cases mo with
   | lst l =>
    rw[e]at hp;dsimp only at hp
    split at hp
    ·rename_i hl;obtain⟨p,q1,rfl⟩:=ao.aG.mp hx;obtain⟨y,rfl,q2⟩:=aq.one lR;obtain⟨p',ys,r1,r2,r3⟩:=hs.lst e;rw[q1]at r1;cases r1;refine⟨p,ys,y,rfl,rfl,r2,by rw[<-r3.length];exact gQ hl (by decide),U5 hp hs e q1 r2 (r3.append (aq.cons q2 aq.nil))⟩
    ·exact hp.elim
   | _=>rw[e]at hp;exact hp.elim
 ·exact hp.elim
end
section
variable  {X:Cx}{e a b c l:Expr}{es:List Expr}{ma mb mc:ME}{mA:MA}{pos p2 p xJ:Pos}{μ:List Addr}{H:Hp}
noncomputable def sW(st:ak)(n:Nat):Option (List D×MO):=match st[n]? with
 | some (.lst ds)=>some (ds,.lst ds)
 | some (.frz ds)=>some (ds,.frz ds)
 | _=>none
def zmp(h:sW st n=some (ds,o)):aA st n=some ds/\st[n]? = some o/\(o=.lst ds\/o=.frz ds):=by
 unfold sW at h;unfold aA
 split at h
 ·rename_i q;cases h;rw[q];exact⟨rfl,rfl,.inl rfl⟩
 ·rename_i q;cases h;rw[q];exact⟨rfl,rfl,.inr rfl⟩
 ·cases h
def zly{K:PySem.W.Frag}{st':ak}{n:Nat}{ds:List D}{o:MO}{μ':List Addr}{H':Hp}(ho:o=.lst ds\/o=.frz ds)(hs:aQ K μ' H' st')(e:st'[n]? = some o):∃p xs,μ'[n]? = some p/\oF K H' p xs/\aq K μ' H' ds xs:=by
 refine hs.items ?_;unfold aA;rcases ho with rfl | rfl<;>rw[e]
noncomputable def dG:Nat->List D->List D
 | _,[]=>[]
 | k,d::ds=>.tup [.int k,d]::dG (k+1) ds
theorem zks:∀(ds:List D) (k i:Nat),(dG k ds)[i]? = (ds[i]?).map λd=>.tup [.int ((k+i:Nat):Int),d]
 | [],k,i=>by simp[dG]
 | d::ds,k,0=>by simp[dG]
 | d::ds,k,i+1=>by
  have:=zks ds (k+1) i;simp only[dG,kW];rw[this,show k+1+i=k+(i+1) by omega]
theorem Zd:∀(ds:List D) (k:Nat),(dG k ds).length=ds.length
 | [],_=>rfl
 | _::ds,k=>by simp[dG,Zd ds (k+1)]
noncomputable def zr(mA:MA):MI:=λenv st=>(mA env st).bind λds st1=>match ds with
 | [.loc n]=>(match sW st1 n with | some (xs,o)=>.ok (dG 0 xs,[(n,o)]) st1 | none=>.bad)
 | _=>.bad
def Q5{n:Nat}{ds:List D}{q:Addr}{o:MO}(ho:o=.lst ds\/o=.frz ds)(hp:μ[n]? = some q):j9 X μ H (Ite X.K q) (dG 0 ds,[(n,o)]):=by
 intro H' μ' st' g hs ok;have e:st'[n]? = some o:=(ok (n,o) (by simp));obtain⟨p',xs,q1,q2,q3⟩:=zly ho hs e;rw[g.get hp]at q1;cases q1;refine⟨λi d hd=>?_,xs,q2,by rw[<-q3.length];show ds.length<=(dG 0 ds).length;rw[Zd];exact gb _⟩;have zc:(dG 0 ds)[i]? = some d:=hd;rw[zks]at zc;cases e2:ds[i]? with
 | none=>rw[e2]at zc;cases zc
 | some d0 =>
  rw[e2]at zc;cases zc;obtain⟨v,h1,h2⟩:=q3.get e2;refine⟨⟨xs,v,q2,h1⟩,?_⟩;rintro x Bf ⟨pp,y,hn,rfl,rfl,hy⟩;have:=hy xs q2;rw[h1]at this;cases this;refine⟨a_.lay hn,hs.lay hn,ao.aR.mpr ⟨pp,_,rfl,.inl rW,?_⟩⟩;exact (aq.cons (ao.aF.mpr (by simp)) (aq.cons h2 aq.nil)).mono (a_.lay hn) _
def QL(ha:JA X [a] mA)(hg:Gl X "enumerate")(hm:X.mg "enumerate" = none)(hs:starEach [a] X.env=[(false,eval a X.env)]:=by rfl):JI X (.Tuple elts x1 xJ) (.Call (.Name "enumerate" p) [a] [] pos) (zr mA):=by
 refine JI.of (PK hg hm ha hs) fun σ H R zz=>?_;obtain⟨μ,env,st,hE,hs,hp⟩:=zz;refine⟨μ,env,st,hE,hs,(bF.bind hp).imp ?_⟩;rintro vs H1 ⟨μ1,st1,ds,g1,bx,hv,aP⟩;dsimp only at aP
 split at aP
 ·rename_i n;cases e:sW st1 n with
  | none=>rw[e]at aP;exact aP.elim
  | some y =>
   obtain⟨xs,o⟩:=y;rw[e]at aP;obtain⟨k1,k2,k3⟩:=zmp e;obtain⟨v,rfl,q1⟩:=aq.one hv;obtain⟨q,q2,rfl⟩:=ao.aG.mp q1;obtain⟨q',zs,r1,r2,r3⟩:=bx.items k1;rw[q2]at r1;cases r1;exact⟨q,rfl,⟨zs,r2⟩,aP _ _ _ (.refl _ _) bx (Q5 k3 q2)⟩
 ·exact aP.elim
noncomputable def O1(mA:MA):MI:=λenv st=>(mA env st).bind λds st1=>match ds with
 | [.loc n]=>(match sW st1 n with | some (xs,o)=>.ok (xs.reverse,[(n,o)]) st1 | none=>.bad)
 | _=>.bad
def QW{n:Nat}{ds:List D}{q:Addr}{o:MO}(ho:o=.lst ds\/o=.frz ds)(hp:μ[n]? = some q):j9 X μ H (Itv X.K q ds.length) (ds.reverse,[(n,o)]):=by
 intro H' μ' st' g hs ok;have e:st'[n]? = some o:=(ok (n,o) (by simp));obtain⟨p',xs,q1,q2,q3⟩:=zly ho hs e;rw[g.get hp]at q1;cases q1;refine⟨λi d hd=>?_,⟨xs,q2,q3.length.symm⟩,by simp⟩;have zc:ds.reverse[i]? = some d:=hd;have hi:i<ds.length:=by have:=(gf.mp zc).1;simpa using this
 rw[nZ hi]at zc;obtain⟨v,h1,h2⟩:=q3.get zc;refine⟨⟨xs,v,q2,q3.length.symm,hi,h1⟩,?_⟩;rintro x Bf ⟨rfl,hy⟩;have:=hy xs q2;rw[h1]at this;cases this;exact⟨.refl _ _,hs,h2⟩
def WX{tg:Expr}(ha:JA X [a] mA)(hg:Gl X "reversed")(hm:X.mg "reversed" = none)(hs:starEach [a] X.env=[(false,eval a X.env)]:=by rfl):JI X tg (.Call (.Name "reversed" p) [a] [] pos) (O1 mA):=by
 refine JI.of (V1 hg hm ha hs) fun σ H R zz=>?_;obtain⟨μ,env,st,hE,hs,hp⟩:=zz;refine⟨μ,env,st,hE,hs,(bF.bind hp).imp ?_⟩;rintro vs H1 ⟨μ1,st1,ds,g1,bx,hv,aP⟩;dsimp only at aP
 split at aP
 ·rename_i n;cases e:sW st1 n with
  | none=>rw[e]at aP;exact aP.elim
  | some y =>
   obtain⟨xs,o⟩:=y;rw[e]at aP;obtain⟨k1,k2,k3⟩:=zmp e;obtain⟨v,rfl,q1⟩:=aq.one hv;obtain⟨q,q2,rfl⟩:=ao.aG.mp q1;obtain⟨q',zs,r1,r2,r3⟩:=bx.items k1;rw[q2]at r1;cases r1;exact⟨q,zs,rfl,r2,by rw[<-r3.length];exact aP _ _ _ (.refl _ _) bx (QW k3 q2)⟩
 ·exact aP.elim
end
def ji{α β:Type}(K:PySem.W.Frag)(μ:List Addr)(H:Hp)(rel:Rel α β)(Q:β->Hp->Prop)(r:R α):Prop:=match r with
 | .ok a st=>∀(b:β) (H':Hp) (μ':List Addr),a_ μ H μ' H'->aQ K μ' H' st->rel μ' H' a b->Q b H'
 | _=>False
def tK{α β:Type}(K:PySem.W.Frag)(rel:Rel α β)(m:aJ->ak->R α):L2.St->Hp->(β->Hp->Prop)->Prop:=fun σ H Q=>∃μ env st,dm K μ H env σ/\aQ K μ H st/\ji K μ H rel Q (m env st)
noncomputable def tKG(K:PySem.W.Frag)(m:MG):TG:=λv σ H Q=>∃μ env st d,dm K μ H env σ/\aQ K μ H st/\ao K μ H d v/\ji K μ H (fun μ H env σ=>dm K μ H env σ) Q (m d env st)
def ji.post{α β:Type}{X:Cx}{μ:List Addr}{H:Hp}{rel:Rel α β}{Q:β->Hp->Prop}{r:R α}(h:ji X.K μ H rel Q r):bF X μ H rel Q r:=by
 cases r with
 | ok a st=>exact h
 | err x st=>exact h.elim
 | bad=>exact h.elim
def ji.mono{α β:Type}{K:PySem.W.Frag}{μ μ1:List Addr}{H H1:Hp}{rel:Rel α β}{Q:β->Hp->Prop}{r:R α}(g:a_ μ H μ1 H1)(h:ji K μ H rel Q r):ji K μ1 H1 rel Q r:=by
 cases r with
 | ok a st=>exact λb H' μ' g'=>h b H' μ' (g.trans g')
 | err x st=>exact h.elim
 | bad=>exact h.elim
noncomputable def oA(capt:List (Option Nat))(env:aJ):aJ:=capt.map λo=>o.bind λj=>(env[j]?).join
open Classical in
noncomputable def fc(g:MG)(t:MT)(e:ME)(gs:List (Nat×MO))(n:Nat):List D->aJ->ak->R D
 | [],_,st=>if uC gs st then .ok (.loc n) st else .bad
 | d::r,env,st=>if uC gs st then (g d env st).bind λenv1 st1=>(t env1 st1).bind λok st2=>if ok then (e env1 st2).bind λy fO=>(match fO[n]? with
   | some (.lst xs)=>if xs.length<1000000 then fc g t e gs n r env1 (fO.set n (.lst (xs++[y]))) else .bad
   | _=>.bad) else fc g t e gs n r env1 st2 else .bad
noncomputable def dU(capt:List (Option Nat))(mi:MI)(g:MG)(t:MT)(e:ME):ME:=λenv st=>(mi env st).bind λs st1=>(fc g t e s.2 st1.length s.1 (oA capt env) (st1++[.lst []])).sure
noncomputable def qd:MT:=λ_ st=>.ok true st
section
variable  {X:Cx}{elt tg iter c:Expr}{ifs:List Expr}{scope:Scope}{pos:Pos}{N:List Str}{capt:List (Option Nat)}{mi:MI}{g:MG}{t:MT}{me:ME}
def dm.taken{K:PySem.W.Frag}{μ:List Addr}{H:Hp}{env:aJ}{σ:L2.St}(cp:List (Option Nat))(h:dm K μ H env σ):dm K μ H (oA cp env) (jw cp σ):=by
 refine⟨by simp[oA,jw],λi d e=>?_⟩;unfold oA at e;unfold jw;rw[gM]at e ⊢;cases q:cp[i]? with
 | none=>rw[q]at e;cases e
 | some o =>
  rw[q]at e;cases o with
  | none=>cases e
  | some j =>
   have e':(env[j]?).join=some d:=by simpa using e
   have e2:env[j]? = some (some d):=by
    cases z:env[j]? with
    | none=>rw[z]at e';cases e'
    | some y=>rw[z]at e';cases e';rfl
   obtain⟨v,h1,h2⟩:=h.at_ j d e2;exact⟨v,by simp[h1],h2⟩
def ji.val{α β γ:Type}{K:PySem.W.Frag}{μ:List Addr}{H:Hp}{rel:Rel α β}{r:R α}{f:α->ak->R γ}{G:List Addr->Hp->R γ->Prop}(hG:∀μ μ1 H H1 r,a_ μ H μ1 H1->G μ H r->G μ1 H1 r)(hb:∀μ H,¬ G μ H .bad)(he:∀μ H x st,¬ G μ H (.err x st))
  (h:G μ H (r.bind f)):ji K μ H rel (λb H1=>∃μ1 st1 a,a_ μ H μ1 H1/\aQ K μ1 H1 st1/\rel μ1 H1 a b/\G μ1 H1 (f a st1)) r:=by
 cases r with
 | ok a st=>exact λb H' μ' g h1 h2=>⟨μ',st,a,g,h1,h2,hG _ _ _ _ _ g h⟩
 | err x st=>exact (he _ _ _ _ h).elim
 | bad=>exact (hb _ _ h).elim
def zO(X:Cx)(Q:VK):List Addr->Hp->R D->Prop:=fun μ H r=>ji X.K μ H (lM X) Q r
def zsa{σ:L2.St}{H:Hp}{Q:VK}(h:tM X (dU capt mi g t me) σ H Q):Hs capt (tMI X mi) (tKG X.K g) (tK X.K Es t) (tK X.K (lM X) me) σ H Q:=by
 obtain⟨μ,env,st,hE,hs,hp⟩:=h;refine⟨μ,env,st,hE,hs,(bF.bind hp).imp ?_⟩;rintro J H1 ⟨μ1,st1,s,g1,bx,hJ,aP⟩;dsimp only at aP;have dw:zO X Q μ1 H1 (fc g t me s.2 st1.length s.1 (oA capt env) (st1++[.lst []])):=by
  cases hr:fc g t me s.2 st1.length s.1 (oA capt env) (st1++[.lst []]) with
  | ok d st2=>rw[hr]at aP;exact aP
  | err y st2=>rw[hr]at aP;exact aP.elim
  | bad=>rw[hr]at aP;exact aP.elim
 have mG:∀μ μ1 H H1 r,a_ μ H μ1 H1->zO X Q μ H r->zO X Q μ1 H1 r:=fun μ μ1 H H1 r g h=>ji.mono g h;have nb:∀μ H,¬ zO X Q μ H .bad:=fun μ H h=>h;have ne:∀μ H x st,¬ zO X Q μ H (.err x st):=fun μ H x st h=>h;intro D hD;have gD:a_ μ1 H1 (μ1++[D]) (upd H1 D (.lst [])):=a_.new hD;have sD:aQ X.K (μ1++[D]) (upd H1 D (.lst [])) (st1++[.lst []]):=bx.new hD ⟨[],rW,aq.nil⟩;have nD:(μ1++[D])[st1.length]? = some D:=by rw[<-bx.len];simp
 refine⟨λi k σ' H'=>∃μ2 env2 st2,a_ (μ1++[D]) (upd H1 D (.lst [])) μ2 H'/\dm X.K μ2 H' env2 σ'/\aQ X.K μ2 H' st2/\zO X Q μ2 H' (fc g t me s.2 st1.length (s.1.drop i) env2 st2)/\i<=s.1.length/\k=s.1.length - i,
  ⟨_,μ1++[D],oA capt env,_,.refl _ _,(hE.mono (g1.trans gD)).taken capt,sD,by simpa using mG _ _ _ _ _ gD dw,mz _,rfl⟩,?_⟩
 rintro i k σ2 H2 ⟨μ2,env2,st2,g2,Uc,fQ,zW,hi,rfl⟩;have atD:μ2[st1.length]? = some D:=g2.get nD;by_cases zY:i<s.1.length
 ·have e1:s.1.drop i=s.1[i]::s.1.drop (i+1):=n6 zY;rw[e1,fc]at zW;by_cases ok:uC s.2 st2
  ·rw[ae1 ok]at zW;obtain⟨q1,q2⟩:=(hJ H2 μ2 st2 (gD.trans g2) fQ ok).1 i s.1[i] (gK zY);refine .inr ⟨q1,fun σ' H'=>∃μ3 yj fO,a_ (μ1++[D]) (upd H1 D (.lst [])) μ3 H'/\dm X.K μ3 H' yj σ'/\aQ X.K μ3 H' fO/\zO X Q μ3 H' (fc g t me s.2 st1.length (s.1.drop (i+1)) yj fO),?_,?_⟩
   ·rintro σ' H' ⟨μ3,yj,fO,g3,hE3,za,hp4⟩;exact⟨s.1.length - (i+1),by omega,μ3,yj,fO,g3,hE3,za,hp4,by omega,rfl⟩
   ·intro x H3 hx;obtain⟨g3,za,hd⟩:=q2 x H3 hx;refine⟨μ2,env2,st2,s.1[i],Uc.mono g3,za,hd,?_⟩;have w1:=ji.val (K:=X.K) (rel:=fun μ H env σ=>dm X.K μ H env σ) mG nb ne (mG _ _ _ _ _ g3 zW);cases Z6:g s.1[i] env2 st2 with
    | bad=>rw[Z6]at w1;exact w1
    | err y z=>rw[Z6]at w1;exact w1
    | ok abK st4 =>
     rw[Z6]at w1;intro σ4 H4 μ4 g4 hs4 hE4;obtain⟨aeE,aax,tR,g4',adP,Rn,hp4⟩:=w1 σ4 H4 μ4 g4 hs4 hE4;refine⟨aeE,tR,aax,Rn,adP,?_⟩;have w2:=ji.val (K:=X.K) (rel:=Es) mG nb ne hp4;cases hr2:t tR aax with
     | bad=>rw[hr2]at w2;exact w2
     | err y z=>rw[hr2]at w2;exact w2
     | ok b5 Ei =>
      rw[hr2]at w2;intro b H5 μ5 g5 hs5 hb5;obtain⟨ab_,Oh,b5',g5',abu,ad3,hp5⟩:=w2 b H5 μ5 g5 hs5 hb5;subst ad3;have gg:a_ (μ1++[D]) (upd H1 D (.lst [])) ab_ H5:=((g2.trans g3).trans g4').trans g5';cases b5' with
      | false=>exact y_ ⟨ab_,tR,Oh,gg,Rn.mono g5',abu,by simpa using hp5⟩
      | true =>
       refine yZ ⟨ab_,tR,Oh,Rn.mono g5',abu,?_⟩;have adS:zO X Q ab_ H5 ((me tR Oh).bind λy fO=>(match fO[st1.length]? with
        | some (.lst xs)=>if xs.length<1000000 then fc g t me s.2 st1.length (s.1.drop (i+1)) tR (fO.set st1.length (.lst (xs++[y]))) else .bad
        | _=>.bad)):=by simpa using hp5
       have w3:=ji.val (K:=X.K) (rel:=lM X) mG nb ne adS;cases hr3:me tR Oh with
       | bad=>rw[hr3]at w3;exact w3
       | err y z=>rw[hr3]at w3;exact w3
       | ok y6 st6 =>
        rw[hr3]at w3;intro v H6 μ6 g6 hs6 hv6;obtain⟨aep,acO,y6',g6',abt,adN,Rg⟩:=w3 v H6 μ6 g6 hs6 hv6;have gg6:=gg.trans g6';have ab1:aep[st1.length]? = some D:=gg6.get nD;cases e6:acO[st1.length]? with
        | none=>rw[e6]at Rg;exact Rg.elim
        | some mo =>
         cases mo with
         | lst xs =>
          rw[e6]at Rg;dsimp only at Rg
          split at Rg
          ·rename_i hl;obtain⟨p',ys,r1,r2,r3⟩:=abt.lst e6;rw[ab1]at r1;cases r1;obtain⟨g7,hs7⟩:=xR abt e6 ab1 r2 (r3.append (aq.cons adN aq.nil));refine⟨ys,r2,by rw[<-r3.length];exact gQ hl (by decide),aep,tR,_,gg6.trans g7,((Rn.mono g5').mono g6').mono g7,hs7,mG _ _ _ _ _ g7 Rg⟩
          ·exact Rg.elim
         | _=>rw[e6]at Rg;exact Rg.elim
  ·rw[ae2 ok]at zW;exact zW.elim
 ·have e1:s.1.drop i=[]:=nu (by omega);rw[e1,fc]at zW;have e2:i=s.1.length:=by omega
  by_cases ok:uC s.2 st2
  ·rw[ae1 ok]at zW;refine .inl ⟨by rw[e2];exact (hJ H2 μ2 st2 (gD.trans g2) fQ ok).2,?_⟩;exact zW _ H2 μ2 (.refl _ _) fQ (ao.aG.mpr ⟨D,atD,rfl⟩)
  ·rw[ae2 ok]at zW;exact zW.elim
def Tq{X':Cx}{e:Expr}{m:ME}(h:JE X' e m):PE X' e (tK X'.K (lM X') m):=by
 refine λpins s σ H Q I zz=>?_;obtain⟨μ,env,st,a,b,c⟩:=zz;exact h pins s σ H Q I ⟨μ,env,st,a,b,c.post⟩
def Tp{X':Cx}{e:Expr}{m:MG}(h:JG X' e m):PG X' e (tKG X'.K m):=by
 refine λpins s σ H v u Q I r zz=>?_;obtain⟨μ,env,st,d,a,b,b2,c⟩:=zz;exact h pins s σ H v u Q I r ⟨μ,env,st,d,a,b,b2,c.post⟩
def JTs(X:Cx)(ifs:List Expr)(m:MT):Prop:=PTs X ifs (tK X.K Es m)
def MF:JTs X' [] qd:=by
 refine λpins s σ H Q I zz=>?_;obtain⟨μ,env,st,a,b,c⟩:=zz;exact Pb pins s σ H Q I (c true H μ (.refl _ _) b rfl)
def Bg(sc sc0:Scope):Prop:=∀x∈sc.names,x.2=.free->sc0.names.lookup x.1=some .cell\/sc0.names.lookup x.1=some .free
instance (sc sc0:Scope):Decidable (Bg sc sc0):=inferInstanceAs (Decidable (∀x∈sc.names,x.2=.free->sc0.names.lookup x.1=some .cell\/sc0.names.lookup x.1=some .free))
def Uv(hi:JI X tg iter mi)(S:fu scope)(Rj:Bg scope sc0)(uF:lD X scope capt N)(hc:X.calm=true) 
  (hg:∀cl C fp s H,JG (cO X N scope cl C fp s H) tg g) (ht:∀cl C fp s H,JTs (cO X N scope cl C fp s H) ifs t) (he:∀cl C fp s H,JE (cO X N scope cl C fp s H) elt me)
  (h0:X.env.scope=sc0:=by rfl) (hs:∀x,foldedSetIterable iter X.env x=pure x:=by intro _;rfl):JE X (.ListComp elt [⟨tg,iter,ifs,0⟩] scope pos) (dU capt mi g t me) :=
 JE.of (Qd (g:=tKG X.K g) (tt:=tK X.K Es t) (te:=tK X.K (lM X) me) hi S (by subst h0;exact Rj) uF hc (λcl C fp s H=>Tp (hg cl C fp s H)) ht (λcl C fp s H=>Tq (he cl C fp s H)) hs) fun σ H Q h=>zsa h
def zmo(i:Nat)(hi:JI X tg iter mi)(S:fu scope)(Rj:Bg scope sc0)(uF:lD X scope capt N)(hc:X.calm=true) 
  (hg:∀cl C fp s H,JG (cO X N scope cl C fp s H) tg g) (ht:∀cl C fp s H,JTs (cO X N scope cl C fp s H) ifs t) (he:∀cl C fp s H,JE (cO X N scope cl C fp s H) elt me)
  (hN:X.N.Nodup) (hy:X.N[i]? = some y:=by rfl) (hx:Loc X.env.scope y:=by first | exact Or.inl rfl | exact Or.inr rfl) (hsw:swapsWith (.ListComp elt [⟨tg,iter,ifs,0⟩] scope pos) (some (.Name y py)) Vp.line X.env=pure true:=by rfl)
  (h0:X.env.scope=sc0:=by rfl) (hs:∀x,foldedSetIterable iter X.env x=pure x:=by intro _;rfl) (hf:X.fn y=true\/X.env.scope.names.lookup y=some .local:=by first | exact .inl rfl | exact .inr rfl | assumption) :
  JS X (.Assign [.Name y py] (.ListComp elt [⟨tg,iter,ifs,0⟩] scope pos) Vp) (aK i (dU capt mi g t me)):=by
 refine JS.of (zr8 (g:=tKG X.K g) (tt:=tK X.K Es t) (te:=tK X.K (lM X) me) hN hy hx hsw hi S (by subst h0;exact Rj) uF hc (λcl C fp s H=>Tp (hg cl C fp s H)) ht (λcl C fp s H=>Tq (he cl C fp s H)) hs hf) λE σ H zz=>?_;obtain⟨μ,env,st,hE,hs,hp⟩:=zz;refine zsa ⟨μ,env,st,hE,hs,(cu.val hp).imp ?_⟩;rintro x H1 ⟨μ1,st1,d,g1,bx,hx,aP⟩;exact aP.nx bx ((hE.mono g1).set hx)
end
def zij:∀(env:aJ) (st:ak) (as:List D) (st1:ak),au env st=.ok as st1->as.length=([]:List Expr).length:=by
 intro env st as st1 h;cases h;rfl
def M5{e:Expr}{es:List Expr}{a:ME}{r:MA}(h:∀(env:aJ) (st:ak) (as:List D) (st1:ak),r env st=.ok as st1->as.length=es.length) :
  ∀(env:aJ) (st:ak) (as:List D) (st1:ak),aj a r env st=.ok as st1->as.length=(e::es).length:=by
 intro env st as st1 q;unfold aj at q;cases h1:a env st with
 | bad=>rw[h1]at q;cases q
 | err x s=>rw[h1]at q;cases q
 | ok x s =>
  rw[h1,R.aB]at q;cases h2:r env s with
  | bad=>rw[h2]at q;cases q
  | err x s=>rw[h2]at q;cases q
  | ok xs s2 =>
   rw[h2,R.aB]at q;cases q;rw[gw,gw,h env s xs _ h2]
noncomputable def fuel:Nat:=1000000
end M
namespace M
open L2
def dY(h:under st.length d):gc st (.ok d st)=.ok d st:=by
 have:=o9 (st:=st) (g:=[]) h;simpa using this
def YS(h:qg st.length o):gc st (.ok (.loc st.length) (st++[o]))=.ok (.loc st.length) (st++[o]):=by
 have:=zr4 (st:=st) (g:=[]) (g':=[]) h;simpa using this
def zpv(h:aA st n=some ds):aA (st++l) n=some ds:=by
 unfold aA at h ⊢;cases e:st[n]? with
 | none=>rw[e]at h;cases h
 | some o =>
  rw[gF (gf.mp e).1,e];rw[e]at h;exact h
def cZ{st l:ak}{n:Nat}{o:MO}(h:st[n]? = some o):(st++l)[n]? = some o:=by rw[gF (gf.mp h).1];exact h
@[simp] def zq5{st l:ak}:(st++l)[st.length]? = l[0]?:=by rw[g_ (gb _)];simp
@[simp] def K3{st l:ak}{k:Nat}:(st++l)[st.length+k]? = l[k]?:=by rw[g_ (Nat.le_add_right _ _)];simp
@[simp] def Hy{st l:ak}{o:MO}:(st++l).set st.length o=st++l.set 0 o:=by rw[List.set_append_right _ _ (gb _)];simp
@[simp] def Xp{st l:ak}:aA (st++l) st.length=aA l 0:=by unfold aA;rw[zq5]
@[simp] def Xn{st l:ak}{k:Nat}:aA (st++l) (st.length+k)=aA l k:=by unfold aA;rw[K3]
@[simp] def T3:aA (o::l) 0=(match o with | .lst ds=>some ds | .frz ds=>some ds | _=>none):=by
 unfold aA;cases o<;>rfl
@[simp] def TY:aA (o::l) (n+1)=aA l n:=by unfold aA;simp
def zhl(xs:List α)(k:Nat):rQ xs (k:Int)=xs[k]?:=by
 unfold rQ Kr;rw[ae1 (by omega)];by_cases h:k<xs.length
 ·rw[ae1 (by omega)];simp
 ·rw[ae2 (by omega)];simp;omega
def Ge(I:List D->aJ->ak->Prop)(h0:I [] env st) 
  (step:∀pre d post env st,items=pre++d::post->I pre env st->uC gs st/\∃env1 st1,g d env st=.ok env1 st1/\∃env2 st2,(b env1 st1=.ok (.nx env2) st2\/b env1 st1=.ok (.cn env2) st2)/\I (pre++[d]) env2 st2)
  (X_:∀env st,I items env st->uC gs st):∃cB st',cN g b gs items env st=.ok (.nx cB) st'/\I items cB st':=by
 have key:∀(post pre:List D) (env:aJ) (st:ak),items=pre++post->I pre env st->∃cB st',cN g b gs post env st=.ok (.nx cB) st'/\I items cB st':=by
  intro post
  induction post with
  | nil =>
   intro pre env st e hI;have:items=pre:=by simpa using e
   subst this;exact⟨env,st,by rw[cN,ae1 (X_ env st hI)],hI⟩
  | cons d post ih =>
   intro pre env st e hI;obtain⟨ok,env1,st1,h1,env2,st2,h2,hI2⟩:=step pre d post env st e hI;obtain⟨cB,st',h3,h4⟩:=ih (pre++[d]) env2 st2 (by simp[e]) hI2;refine⟨cB,st',?_,h4⟩;rw[cN,ae1 ok,h1,R.aB];rcases h2 with h2 | h2<;>(rw[h2,R.aB];exact h3)
 exact key items [] env st rfl h0
def zm8{capt:List (Option Nat)}{mi:MI}{g:MG}{t:MT}{e:ME}{env:aJ}{st st1:ak}{items:List D}{gs:List (Nat×MO)}(p:D->Bool)(f:D->D)(Pe:aJ->Prop)
  (hi:mi env st=.ok (items,gs) st1) (h0:Pe (oA capt env)) (hl:items.length<=1000000) (hg:∀ys,uC gs (st1++[.lst ys]))
  (step:∀d∈items,∀cB ys,Pe cB->∃env1,Pe env1/\g d cB (st1++[.lst ys])=.ok env1 (st1++[.lst ys])/\t env1 (st1++[.lst ys])=.ok (p d) (st1++[.lst ys]) /\
   (p d=true->e env1 (st1++[.lst ys])=.ok (f d) (st1++[.lst ys]))) :
  dU capt mi g t e env st=.ok (.loc st1.length) (st1++[.lst ((items.filter p).map f)]):=by
 have key:∀(post:List D) (cB:aJ) (ys:List D),(∀d∈post,d∈items)->Pe cB->ys.length+post.length<=1000000 ->
   fc g t e gs st1.length post cB (st1++[.lst ys])=.ok (.loc st1.length) (st1++[.lst (ys++(post.filter p).map f)]):=by
  intro post
  induction post with
  | nil=>intro cB ys _ _ _;rw[fc,ae1 (hg ys)];simp
  | cons d post ih =>
   intro cB ys hm hP hn;obtain⟨env1,hP1,h1,h2,h3⟩:=step d (hm d (by simp)) cB ys hP;have Nk:∀d∈post,d∈items:=λd hd=>hm d (kI _ hd);rw[gw]at hn;rw[fc,ae1 (hg ys),h1,R.aB,h2,R.aB];cases hp:p d with
   | false =>
    rw[ae2 (by simp),ih env1 ys Nk hP1 (by omega)];simp[hp]
   | true =>
    rw[ae1 rfl,h3 hp,R.aB];simp only[zq5,mX];rw[ae1 (by omega),Hy,pI,ih env1 (ys++[f d]) Nk hP1 (by simp;omega)];simp[hp]
 unfold dU;rw[hi,R.aB,key items (oA capt env) [] (λd hd=>hd) h0 (by simpa using hl)];simp
def S6(f:D->D)(Pe:aJ->Prop) 
  (hi:mi env st=.ok (items,gs) st1) (h0:Pe (oA capt env)) (hl:items.length<=1000000) (hg:∀ys,uC gs (st1++[.lst ys]))
  (step:∀d∈items,∀cB ys,Pe cB->∃env1,Pe env1/\g d cB (st1++[.lst ys])=.ok env1 (st1++[.lst ys])/\e env1 (st1++[.lst ys])=.ok (f d) (st1++[.lst ys])) :
  dU capt mi g qd e env st=.ok (.loc st1.length) (st1++[.lst (items.map f)]):=by
 have:=zm8 (capt:=capt) (mi:=mi) (g:=g) (t:=qd) (e:=e) (env:=env) (st:=st) (λ_=>true) f Pe hi h0 hl hg λd hd cB ys hP=>by
  obtain⟨env1,a,b,c⟩:=step d hd cB ys hP;exact⟨env1,a,b,rfl,λ_=>c⟩
 have e2:items.filter (λ_=>true)=items:=List.filter_eq_self.mpr (by simp);rw[e2]at this;exact this
section
variable  (env:aJ)(st:ak)(a b:ME)(x y:D)(mA:MA)(tc ta tb:MT)(m1 m2:MS)
@[simp] def Ae(i:Nat):vr i env st=match env[i]? with | some (some d)=>.ok d st | _=>.bad:=dq rfl
@[simp] def O6(d:D):ct d env st=.ok d st:=dq rfl
@[simp] def aew(g:D->D->ak->R D):aL g a b env st=(a env st).bind λx st1=>(b env st1).bind λy st2=>g x y st2:=dq rfl
@[simp] def aex(g:D->ak->R D):Aj g a env st=(a env st).bind λx st1=>g x st1:=dq rfl
@[simp] def aes :fW a env st=(a env st).bind λx st1=>match x with | .bl b=>.ok b st1 | _=>.bad:=dq rfl
@[simp] def aaE :o_ a env st=(a env st).bind λx st1=>match cD x st1 with | some b=>.ok b st1 | none=>.bad:=dq rfl
@[simp] def adh :tD ta tb env st=(ta env st).bind λx st1=>if x then tb env st1 else .ok false st1:=dq rfl
@[simp] def aev :Ng ta tb env st=(ta env st).bind λx st1=>if x then .ok true st1 else tb env st1:=dq rfl
@[simp] def ac_ :vh ta env st=(ta env st).bind λx st1=>.ok (!x) st1:=dq rfl
@[simp] def adg :wW a b env st=(a env st).bind λx st1=>match x with | .bl true=>b env st1 | .bl false=>.ok (.bl false) st1 | _=>.bad:=dq rfl
@[simp] def aeu :orV a b env st=(a env st).bind λx st1=>match x with | .bl true=>.ok (.bl true) st1 | .bl false=>b env st1 | _=>.bad:=dq rfl
@[simp] def ac9 :Jr a env st=(a env st).bind λx st1=>match x with | .bl c=>.ok (.bl (!c)) st1 | _=>.bad:=dq rfl
@[simp] def aeB :G5 tc a b env st=(tc env st).bind λx st1=>if x then a env st1 else b env st1:=dq rfl
@[simp] def Ag :au env st=.ok [] st:=dq rfl
@[simp] def O7 :aj a mA env st=(a env st).bind λx st1=>(mA env st1).bind λxs st2=>.ok (x::xs) st2:=dq rfl
@[simp] def ac4 :f9 mA env st=(mA env st).bind λds st1=>if ds.length<=1000000 then .ok (.tup ds) st1 else .bad:=dq rfl
@[simp] def Ib :dO mA env st=(mA env st).bind λds st1=>if ds.length<=1000000 then .ok (.loc st1.length) (st1++[.lst ds]) else .bad:=dq rfl
@[simp] def aey :Tv env st=.ok none st:=dq rfl
@[simp] def aez :Q8 a env st=(a env st).bind λx st1=>match x with | .int i=>.ok (some i) st1 | _=>.bad:=dq rfl
@[simp] def aet(l h:MP):Hv a l h env st=(a env st).bind λx st1=>(l env st1).bind λlo st2=>(h env st2).bind λhi fO=>zU x lo hi fO:=dq rfl
@[simp] def acn(g:List D->ak->R D):bU g mA env st=(mA env st).bind λds st1=>g ds st1:=dq rfl
@[simp] def acb :bR env st=.ok (.nx env) st:=dq rfl
@[simp] def xP :aD m1 m2 env st=(m1 env st).bind λo st1=>match o with | .nx env1=>m2 env1 st1 | o=>.ok o st1:=dq rfl
@[simp] def ac8 :retS a env st=(a env st).bind λd st1=>.ok (.rt d) st1:=dq rfl
@[simp] def ach :dF a env st=(a env st).bind λ_ st1=>.ok (.nx env) st1:=dq rfl
@[simp] def aeA :iZ tc m1 m2 env st=(tc env st).bind λx st1=>if x then m1 env st1 else m2 env st1:=dq rfl
@[simp] def ade :Yu env st=.ok (.bk env) st:=dq rfl
@[simp] def O5(i:Nat):aW i x env st=.ok (env.set i (some x)) st:=dq rfl
@[simp] def adf(g:MG):lB a g env st=(a env st).bind λd st1=>(g d env st1).bind λenv1 st2=>.ok (.nx env1) st2:=dq rfl
@[simp] def Af(i:Nat):aK i a env st=(a env st).bind λd st1=>.ok (.nx (env.set i (some d))) st1:=dq rfl
@[simp] def ada :xX [] env st=.ok env st:=dq rfl
@[simp] def acj(g:MG)(r:Nr)(d:D)(ds:List D):eY g r (d::ds) env st=(g d env st).bind λenv1 st1=>r ds env1 st1:=dq rfl
@[simp] def ac3(n:Nat)(g:Nr)(ds:List D):wu n g (.tup ds) env st=if ds.length=n then g ds env st else .bad:=dq rfl
@[simp] def ac6(g:D->D->D->ak->R Unit)(d:D):uY g a b d env st=(a env st).bind λx st1=>(b env st1).bind λy st2=>(g x y d st2).bind λ_ fO=>.ok env fO:=dq rfl
@[simp] def ack(F:FD)(dd:List D):az F dd mA env st=(mA env st).bind λas st1=>(F (as++dd) st1).sure:=dq rfl
@[simp] def acf(T:String)(g:D->List D->ak->R D):cH T g a mA env st=(a env st).bind λx st1=>if cM T x st1=true then (mA env st1).bind λxs st2=>g x xs st2 else .bad:=dq rfl
@[simp] def aaF(T:String)(g:D->List D->ak->R D):eG T g a env st=(a env st).bind λx st1=>if cM T x st1=true then g x [] st1 else .bad:=dq rfl
@[simp] def Vz(mi:MI)(g:MG):lz mi g m1 env st=(mi env st).bind λs st1=>cN g m1 s.2 s.1 env st1:=dq rfl
@[simp] theorem Ia :lu a env st=(a env st).bind λd st1=>match d with
 | .loc n=>(match st1[n]? with
  | some (.lst ds)=>.ok (ds,[(n,.lst ds)]) st1
  | some (.frz ds)=>.ok (ds,[(n,.frz ds)]) st1
  | _=>.bad)
 | .tup ds=>.ok (ds,[]) st1
 | _=>.bad:=dq rfl
@[simp] theorem ZC :xO mA env st=(mA env st).bind λds st1=>match ds with
 | [.int j]=>if -(2 ^ 62)<=j/\j<2 ^ 62 then .ok (uR 0 j.toNat,[]) st1 else .bad
 | _=>.bad:=dq rfl
@[simp] theorem aci :zr mA env st=(mA env st).bind λds st1=>match ds with
 | [.loc n]=>(match sW st1 n with | some (xs,o)=>.ok (dG 0 xs,[(n,o)]) st1 | none=>.bad)
 | _=>.bad:=dq rfl
@[simp] theorem ac7 :O1 mA env st=(mA env st).bind λds st1=>match ds with
 | [.loc n]=>(match sW st1 n with | some (xs,o)=>.ok (xs.reverse,[(n,o)]) st1 | none=>.bad)
 | _=>.bad:=dq rfl
@[simp] def ZD(i j:Int):bY (.int i) (.int j) st=.ok (.int (i+j)) st:=dq rfl
@[simp] def Zz(i j:Int):uA (.int i) (.int j) st=.ok (.int (i - j)) st:=by simp[uA,qZ]
def zkl(i j:Int)(h:(-(2 ^ 64)<i/\i<2 ^ 64)\/(-(2 ^ 64)<j/\j<2 ^ 64)):yU (.int i) (.int j) st=.ok (.int (i*j)) st:=by
 unfold yU qZ;dsimp only;rw[ae1 h]
def zed(i j:Int)(h:0<j/\j<2 ^ 64):jF (.int i) (.int j) st=.ok (.int (i / j)) st:=by
 unfold jF qZ;dsimp only;rw[ae1 h]
def S7(i j:Int)(h:0<j):jQ (.int i) (.int j) st=.ok (.int (i % j)) st:=by
 unfold jQ qZ;dsimp only;rw[ae1 h]
@[simp] def aaG(i j:Int):ltV (.int i) (.int j) st=.ok (.bl (decide (i<j))) st:=by simp[ltV,qZ]
@[simp] def aaJ(i j:Int):gtV (.int i) (.int j) st=.ok (.bl (decide (j<i))) st:=by simp[gtV,qZ]
@[simp] def aaK(L:Nat)(i j:Int):jf (L+1) (.int i) (.int j) st=.ok (.bl (decide (i=j))) st:=by
 have e:(i==j)=decide (i=j):=by rw[mU];simp
 simp only[jf,jV,jH,e,Le,Mj];rw[ae1 ⟨trivial,trivial,Nat.succ_pos L⟩]
@[simp] def Ie(L:Nat)(i j:List Nat):jf (L+1) (.str i) (.str j) st=.ok (.bl (decide (i=j))) st:=by
 have e:(i==j)=decide (i=j):=by rw[mU];simp
 simp only[jf,jV,jH,e,Ld,Mi];rw[ae1 ⟨trivial,trivial,Nat.succ_pos L⟩]
def Lk(L:Nat)(d:D)(st:ak)(hf:flat d=true)(hd:dep d+dep d<L):jV L d d st=some true:=by
 have e:=znz d hf;have c:flat d=true/\flat d=true/\dI d d<L:=⟨hf,hf,by have:=ztw d d;omega⟩;cases d with
 | loc n=>simp[flat]at hf
 | non=>exact (ae1 c).trans (congrArg some e)
 | bl b=>exact (ae1 c).trans (congrArg some e)
 | int i=>exact (ae1 c).trans (congrArg some e)
 | str s=>exact (ae1 c).trans (congrArg some e)
 | tup ds=>exact (ae1 c).trans (congrArg some e)
def zpb(L:Nat)(d:D)(hf:flat d=true)(hd:dep d+dep d<L):wK L d d st=.ok (.bl false) st:=by
 have:jV L d d st=some true:=Lk L d st hf hd;unfold wK;rw[this];rfl
def zrc(L m n:Nat)(ds:List D)(h1:aA st m=some ds)(h2:aA st n=some ds)(hf:dR ds=true)(hd:deps ds+deps ds+1<L):wK L (.loc m) (.loc n) st=.ok (.bl false) st:=by
 have e:jV L (.loc m) (.loc n) st=some true:=by
  simp only[jV,h1,h2];rw[ae1 ⟨hf,hf,by have:=zn9 ds ds;omega⟩,zkf _ hf]
 unfold wK;rw[e];rfl
def z6(n:Nat)(i:Int)(ds:List D)(d:D)(h:aA st n=some ds)(hi:rQ ds i=some d):aY (.loc n) (.int i) st=.ok d st:=by
 simp[aY,h,hi]
def jD(i:Int)(ds:List D)(d:D)(hi:rQ ds i=some d):aY (.tup ds) (.int i) st=.ok d st:=by
 simp[aY,hi]
@[simp] def Vy(b:Bool):Q7 [.bl b] st=.ok (.int (if b then 1 else 0)) st:=dq rfl
@[simp] def aaI(T:String)(i:List Nat):yF T (.str i) st=.ok (.bl (jc "str" T)) st:=dq rfl
@[simp] def aaH(T:String)(i:List D):yF T (.tup i) st=.ok (.bl (jc "tuple" T)) st:=dq rfl
@[simp] def Vw:cg .non .non st=.ok (.bl true) st:=dq rfl
end
end M
namespace L2
open PySem PySem.Spec PyProof.Rows
section
variable  {κ:Type}[DecidableEq κ]
noncomputable def iV(kvs:List (κ×V))(k:κ):Option V:=(kvs.find? λkv=>decide (kv.1=k)).map (·.2)
noncomputable def putK(kvs:List (κ×V))(k:κ)(v:V):List (κ×V) :=
 if (kvs.any λkv=>decide (kv.1=k))=true then kvs.map (λkv=>if kv.1=k then (kv.1,v) else kv) else kvs++[(k,v)]
def zh7{p:κ×V}{r:List (κ×V)}{k:κ}(e:p.1=k):iV (p::r) k=some p.2:=by simp[iV,m9,e]
def ziy{p:κ×V}{r:List (κ×V)}{k:κ}(e:¬ p.1=k):iV (p::r) k=iV r k:=by simp[iV,m9,e]
theorem zm3(k:κ):∀kvs:List (κ×V),(kvs.any λkv=>decide (kv.1=k))=(iV kvs k).isSome
 | []=>rfl
 | p::r=>by
  rw[mY];by_cases e:p.1=k
  ·simp only[zh7 e,ae_ e,Bool.true_or,Option.isSome_some]
  ·rw[ziy e,ae4 e,Bool.false_or];exact zm3 k r
def zgi(kvs:List (κ×V))(k:κ)(v:V):(putK kvs k v).length<=kvs.length+1:=by
 unfold putK
 split
 ·rw[gh];omega
 ·rw[gG,gw,mV];omega
def Ii{kvs:List (κ×V)}{k:κ}(v:V)(h:iV kvs k=none):putK kvs k v=kvs++[(k,v)]:=by
 unfold putK;rw[zm3,h];exact ae2 (by decide)
def jZ.Fw(r:jZ o u):o.isSome=u.isSome:=by
 cases o with
 | none=>cases u with
  | none=>rfl
  | some _=>exact (show False from r).elim
 | some _=>cases u with
  | none=>exact (show False from r).elim
  | some _=>rfl
def jZ.getD(r:jZ o u)(rd:RelV d d'):RelV (o.getD d) (u.getD d'):=by
 cases o with
 | none=>cases u with
  | none=>exact rd
  | some _=>exact (show False from r).elim
 | some _=>cases u with
  | none=>exact (show False from r).elim
  | some _=>exact r
def KV.val{kvs:List (κ×V)}{vs:List (κ×Value)}(r:KV kvs vs)(k:κ):jZ (iV kvs k) (valueAt vs k):=by
 unfold KV at r
 induction r with
 | nil=>exact True.intro
 | @cons p q ps qs h t ih =>
  obtain⟨h1,h2⟩:=h;by_cases e:p.1=k
  ·have e':q.1=k:=h1.symm.trans e;have b:valueAt (q::qs) k=some q.2:=by simp[valueAt,m9,e']
   rw[zh7 e,b];exact h2
  ·have e':¬ q.1=k:=λz=>e (h1.trans z);have b:valueAt (q::qs) k=valueAt qs k:=by simp[valueAt,m9,e']
   rw[ziy e,b];exact ih
def KV.any(r:KV kvs vs)(k:κ):(kvs.any λkv=>decide (kv.1=k))=vs.any λkv=>decide (kv.1=k):=by
 unfold KV at r
 induction r with
 | nil=>rfl
 | cons h t ih=>rw[mY,mY,ih,h.1]
def KV.repl(r:KV kvs vs)(k:κ)(ry:RelV y u) :
  KV (kvs.map λkv=>if kv.1=k then (kv.1,y) else kv) (vs.map λkv=>if kv.1=k then (kv.1,u) else kv):=by
 unfold KV at r ⊢
 induction r with
 | nil=>exact .nil
 | @cons p q ps qs h t ih =>
  rw[gm,gm];refine .cons ?_ ih;obtain⟨h1,h2⟩:=h;by_cases e:p.1=k
  ·rw[ae1 e,ae1 (h1.symm.trans e)];exact⟨h1,ry⟩
  ·rw[ae2 e,ae2 (λz=>e (h1.trans z))];exact⟨h1,h2⟩
def KV.put(r:KV kvs vs)(k:κ)(ry:RelV y u):KV (putK kvs k y) (stored vs k u):=by
 unfold putK stored;rw[r.any k];by_cases e:(vs.any λkv=>decide (kv.1=k))=true
 ·rw[ae1 e,ae1 e];exact r.repl k ry
 ·rw[ae2 e,ae2 e];exact Paired.snoc r ⟨rfl,ry⟩
def KV.length(r:KV kvs vs):kvs.length=vs.length:=afd r
end
def vz(r:RelV (kV k) u):(aZ P w).is k u=true:=by
 cases k with
 | inl i=>obtain⟨t,e⟩:=(show ∃t,u=Value.int i t from r);subst e;exact zqs P w i t
 | inr x=>obtain⟨t,e⟩:=(show ∃t,u=Value.str x t from r);subst e;exact zgl P w x t
theorem zpp:∀{ks:List Key} {us:List Value},Vals (ks.map kV) us->ItemsAre (aZ P w) ks us
 | [],_,r=>by rw[gZ]at r;cases r;exact .nil
 | k::ks,_,r=>by
  rw[gm]at r;cases r with
  | cons h t=>exact .cons (vz h) (zpp t)
abbrev KT(H:Hp):List (List Key×V)->List (List Key×Addr×Value)->Prop:=Paired λp q=>p.1=q.1/\H q.2.1=some (.tup (p.1.map kV))/\RelV p.2 q.2.2
def KT.val{H:Hp}{kvs:List (List Key×V)}{xs:List (List Key×Addr×Value)}(r:KT H kvs xs)(k:List Key):jZ (iV kvs k) ((atKey xs k).map (·.2)):=by
 induction r with
 | nil=>exact True.intro
 | @cons p q ps qs h t ih =>
  obtain⟨h1,_,h2⟩:=h;by_cases e:p.1=k
  ·have e':q.1=k:=h1.symm.trans e;have b:atKey (q::qs) k=some q.2:=by simp[atKey,m9,e']
   rw[zh7 e,b];exact h2
  ·have e':¬ q.1=k:=λz=>e (h1.trans z);have b:atKey (q::qs) k=atKey qs k:=by simp[atKey,m9,e']
   rw[ziy e,b];exact ih
def KT.repl(r:KT H kvs xs)(k:List Key)(ry:RelV y u) :
  KT H (kvs.map λkv=>if kv.1=k then (kv.1,y) else kv) (xs.map (putAt k u)):=by
 induction r with
 | nil=>exact .nil
 | @cons p q ps qs h t ih =>
  rw[gm,gm];refine .cons ?_ ih;obtain⟨h1,h2,h3⟩:=h;unfold putAt;by_cases e:p.1=k
  ·rw[ae1 e,ae1 (h1.symm.trans e)];exact⟨h1,h2,ry⟩
  ·rw[ae2 e,ae2 (λz=>e (h1.trans z))];exact⟨h1,h2,h3⟩
def KT.put(r:KT H kvs xs)(k:List Key)(hb:H b=some (.tup (k.map kV)))(ry:RelV y u) :
  KT H (putK kvs k y) (storedH xs k b u):=by
 have e:(kvs.any λkv=>decide (kv.1=k))=(atKey xs k).isSome:=by
  rw[zm3,(r.val k).Fw,Option.isSome_map]
 unfold putK storedH;rw[e];by_cases q:(atKey xs k).isSome=true
 ·rw[ae1 q,ae1 q];exact r.repl k ry
 ·rw[ae2 q,ae2 q];exact Paired.snoc r ⟨rfl,hb,ry⟩
def KT.keeps(r:KT H kvs xs)(ht:∀b ys,H b=some (.tup ys)->H' b=some (.tup ys)):KT H' kvs xs :=
 Paired.Wu r λ_ _ z=>⟨z.1,ht _ _ z.2.1,z.2.2⟩
section
variable  {P:Program}{w:World}{H:Hp}{h:Heap}{a:Addr}
def Tj(ok:lC P w H h)(e:Rd H a u):bV P w H h a u:=e.ok ok
def vU(ok:lC P w H h)(e:Rd H a (.dK kvs)):kvs.length<=sizeLine/\(a==sysModules)=false/\∃vs,KV kvs vs/\h.DictOf (aZ P w) a vs :=
 show bV P w H h a (.dK kvs) from Tj ok e
def Ui(ok:lC P w H h)(e:H a=some (.dK kvs)):kvs.length<=sizeLine/\(a==sysModules)=false/\∃vs,KV kvs vs/\h.DictOf (aZ P w) a vs:=vU ok (.inl e)
def YK(ok:lC P w H h)(e:H a=some (.tup (ks.map kV))):(tupleKind (aZ P w)).is h ks a:=by
 obtain⟨_,its,r,o,h1,h2,n,h3⟩:=(show bV P w H h a (.tup (ks.map kV)) from ok a _ e);exact⟨o,its.toArray,n,h1,h2,h3,by simpa using zpp r⟩
def zx(ok:lC P w H h)(e:Rd H a (.dT kvs)):kvs.length<=sizeLine/\(a==sysModules)=false /\
  ∃xs,KT H kvs xs/\h.DictOfH (tupleKind (aZ P w)) a xs:=by
 obtain⟨z,y,xs,r,o,es,ep,h1,h2,h3,h4,h5⟩:=(show bV P w H h a (.dT kvs) from Tj ok e);refine⟨z,y,xs,r,o,es,ep,h1,h2,h3,h4,λx hx=>?_,h5⟩;have all:∀{l:List (List Key×V)} {m:List (List Key×Addr×Value)},KT H l m->∀x∈m,(tupleKind (aZ P w)).is h x.1 x.2.1:=by
  intro l m q
  induction q with
  | nil=>intro x hx;exact nomatch hx
  | @cons p q ps qs hq t ih =>
   intro x hx;rcases gq.mp hx with e | hx
   ·subst e;exact YK ok (by rw[<-hq.1];exact hq.2.1)
   ·exact ih x hx
 exact all r x hx
def Uh(ok:lC P w H h)(e:H a=some (.dT kvs)):kvs.length<=sizeLine/\(a==sysModules)=false /\
  ∃xs,KT H kvs xs/\h.DictOfH (tupleKind (aZ P w)) a xs:=zx ok (.inl e)
end
def uK(H:Hp)(a:Addr)(y:V)(r:Option V):Prop :=
 (∃kvs k,Rd H a (.dK kvs)/\y=kV k/\r=iV kvs k)\/∃kvs k b,Rd H a (.dT kvs)/\y=.ref b/\H b=some (.tup (k.map kV))/\r=iV kvs k
def Ss(H:Hp)(a:Addr)(y v:V)(H':Hp):Prop :=
 (∃kvs k,H a=some (.dK kvs)/\y=kV k/\kvs.length<sizeLine/\H'=upd H a (.dK (putK kvs k v))) \/
 ∃kvs k b,H a=some (.dT kvs)/\y=.ref b/\H b=some (.tup (k.map kV))/\kvs.length<sizeLine/\H'=upd H a (.dT (putK kvs k v))
def uK.k{H:Hp}{a:Addr}{kvs:List (Key×V)}{k:Key}(e:H a=some (.dK kvs)):uK H a (kV k) (iV kvs k):=.inl ⟨kvs,k,.inl e,rfl,rfl⟩
def uK.t{H:Hp}{a b:Addr}{kvs:List (List Key×V)}{k:List Key}(e:H a=some (.dT kvs))(eb:H b=some (.tup (k.map kV))):uK H a (.ref b) (iV kvs k):=.inr ⟨kvs,k,b,.inl e,rfl,eb,rfl⟩
def Ss.k{H:Hp}{a:Addr}{kvs:List (Key×V)}{k:Key}{v:V}(e:H a=some (.dK kvs))(hl:kvs.length<sizeLine):Ss H a (kV k) v (upd H a (.dK (putK kvs k v))):=.inl ⟨kvs,k,e,rfl,hl,rfl⟩
section
variable  {X:Cx}{pins:List (Addr×Obj)}{σ:St}{H:Hp}{s:Shared}{a:Addr}{y v:V}{u r:Value}{o:Option V}{A:Around}{E:Value->Shared->Prop}
def Inv.big(I:Inv X pins σ H s):sysModules<s.heap.objs.size:=by
 have h:mainGlobals<s.heap.objs.size:=(I.mod.glob.keeps I.bk).lt;exact Nat.lt_trans (by decide) h
def Gm(hu:A.units+1<cLine)(I:Inv X pins σ H s)(g:uK H a y (some v))(ry:RelV y u)(h:∀w' s',Inv X pins σ H s'->RelV v w'->Q w' s') :
  wpAny (model X.prog X.w) A (getItem (.ref a) u) Q E s:=by
 rcases g with⟨kvs,k,e,ey,l⟩ | ⟨kvs,k,b,e,ey,eb,l⟩
 ·subst ey;obtain⟨z,hd,vs,rel,dd⟩:=vU I.bJ e;obtain⟨w',hw,yP⟩:=jZ.some_of (v:=v) (o:=valueAt vs k) (by rw[l];exact rel.val k);exact wpAny_getItem_of (vz ry) dd.mapOf hw (h w' _ (I.tok _) yP)
 ·subst ey;cases (show u=Value.ref b from ry);obtain⟨z,hd,xs,rel,dd⟩:=zx I.bJ e;obtain⟨w',hw,yP⟩:=jZ.some_of (v:=v) (o:=(atKey xs k).map (·.2)) (by rw[l];exact rel.val k);obtain⟨p,hp,dw⟩:=mQ.mp hw;refine wpAny_getItem_heap (afu hu) (YK I.bJ eb) dd hp ?_;rw[dw];exact h w' _ (I.tok _) yP
def zpj(I:Inv X pins σ H s)(mu:Mut (H a))(hs:Heap.SameBut a s.heap h')(he:∃q,h'.get? a=some q)(new:bV X.prog X.w (upd H a ob) h' a ob) :
  Inv X pins σ (upd H a ob) { s with heap:=h',toks:=t' } :=
 I.write (x:=a) (e:=a) mu (.inl rfl) (λb q hb z=>(hs.2 b hb).trans z) he new
def Bd(z:kvs.length<=sizeLine)(hd:(a==sysModules)=false)(rel:KV kvs vs)(dd:h'.DictOf (aZ P w) a vs) :
  bV P w H' h' a (.dK kvs):=⟨z,hd,vs,rel,dd⟩
def Gk(hu:A.units+1<cLine)(I:Inv X pins σ H s)(g:Ss H a y v H')(ry:RelV y u)(rv:RelV v r)(h:∀s',Inv X pins σ H' s'->Q () s') :
  wpAny (model X.prog X.w) A (setItem (.ref a) u r) Q E s:=by
 rcases g with⟨kvs,k,e,ey,l,eH⟩ | ⟨kvs,k,b,e,ey,eb,l,eH⟩
 ·subst ey eH;obtain⟨z,hd,vs,rel,dd⟩:=Ui I.bJ e;have hz:vs.length<=sizeLine:=by rw[<-rel.length];exact z
  have hl:(putK kvs k v).length<=sizeLine:=by have:=zgi kvs k v;omega
  refine wpAny_setItem_pairs (hsz:=hz) (vz ry) dd λh' LC hs=>h _ ?_;have he:∃q,h'.get? a=some q:=let ⟨q,_,_,hq,_⟩:=LC;⟨q,hq⟩;exact zpj I (by rw[e];exact True.intro) hs he (Bd hl hd (rel.put k rv) LC)
 ·subst ey eH;cases (show u=Value.ref b from ry);obtain⟨z,hd,xs,rel,dd⟩:=Uh I.bJ e;have hz:xs.length<=sizeLine:=by rw[<-afd rel];exact z
  have hl:(putK kvs k v).length<=sizeLine:=by have:=zgi kvs k v;omega
  refine wpAny_setItem_heap (hsz:=hz) (afu hu) (YK I.bJ eb) dd λh' LC hs=>h _ ?_;obtain⟨q,es,ep,hq,h2,h3,h4,_,h5⟩:=LC;refine zpj I (by rw[e];exact True.intro) hs ⟨q,hq⟩ ⟨hl,hd,_,(rel.put k eb rv).keeps λc ys ec=>?_,q,es,ep,hq,h2,h3,h4,h5⟩;rw[iz (vm ec e (λz=>nomatch z))];exact ec
end
section
variable  {X:Cx}{pins:List (Addr×Obj)}{σ:St}{H:Hp}{s:Shared}{a:Addr}{kvs:List (Key×V)}{k:Key}{u:Value}{A:Around}{E:Value->Shared->Prop}
def abP(I:Inv X pins σ H s)(e:Rd H a (.dK kvs))(h:∀t s',Inv X pins σ H s'->Q (.int kvs.length t) s'):wpAny (model X.prog X.w) A (call (.builtin "len") [.ref a]) Q E s:=by
 obtain⟨z,hd,vs,rel,dd⟩:=vU I.bJ e;refine call_len_dict hd dd (by rw[<-rel.length];rw[afB]at z;omega) ?_;rw[<-rel.length];exact h _ _ (I.tok _)
end
def Sh(i:Expr):Prop:=∀ov iv,subscripted i false ov iv=operate [ov,iv] (getItem ov iv)
def Bw{prog:Program}{w:World}{A:Around}{E:Value->Shared->Prop}{s:Shared}{env:Env}{value slice:Expr}{pos:Pos}{T id:String}{Q:Value->Shared->Prop}
  (hl:typeLookup (.type T) "__getitem__" = pure (some (.builtin id))) (hs:Sh slice)
  (h:wpAny (model prog w) A (eval value env) (λo aeQ=>wpAny (model prog w) A (eval slice env) (λi aeP=>aeP.TypeIs o T/\wpAny (model prog w) A (getItem o i) Q E aeP) E aeQ) E s) :
  wpAny (model prog w) A (eval (.Subscript value slice pos) env) Q E s:=by
 refine Subscript_ (afe h (λo aeQ aeY=>afe aeY (λi aeP aeX=>?_) λ_ _ x=>x) λ_ _ x=>x);obtain⟨hT,aeX⟩:=aeX;unfold subscriptTail;refine ae0 ?_;rw[getitemInPython_of_ne hT.not_modules];refine ae0 (afz hT hl ?_);have fin:wpAny (model prog w) A (subscripted slice false o i) (λr aeO=>wpAny (model prog w) A (letTemporaryGo value o r >>= λ_=>pure r) Q E aeO) E aeP:=by
  rw[hs o i];exact wpAny_operating (afe aeX (λr aeO aeW=>ae0 (wpAny_letTemporaryGo (ae3 aeW))) λ_ _ x=>x)
 first
  | exact ae3 (ae0 fin)
  | exact ae0 (ae3 (ae0 fin))
  | exact ae0 fin
def zqu(I:Inv X pins σ H s)(g:uK H a y o):s.TypeIs (.ref a) "dict":=by
 rcases g with⟨kvs,k,e,_,_⟩ | ⟨kvs,k,b,e,_,_,_⟩
 ·obtain⟨_,_,vs,_,dd⟩:=vU I.bJ e;exact dd.typeIs
 ·obtain⟨_,_,xs,_,dd⟩:=zx I.bJ e;exact dd.typeIs
noncomputable def aau(td ty:TE):TE:=fun σ H Q=>td σ H λx H1=>ty σ H1 λy H2=>∃a v,x=.ref a/\uK H2 a y (some v)/\Q v H2
section
variable  {X:Cx}{o i e value:Expr}{pos pos' xJ:Pos}{td ty tv:TE}
def Qc(hu:X.A.units+1<cLine)(ho:PE X o td)(hi:PE X i ty)(hs:Sh i):PE X (.Subscript o i pos) (aau td ty):=by
 intro pins s σ H Q I h;refine Bw PySem.F.slot_dict_getitem.lookup hs (cC (ho pins s σ H _ I h) λu s1 zz=>?_);obtain⟨x,H1,I1,rx,q1⟩:=zz;refine cC (hi pins s1 σ H1 _ I1 q1) λiv s2 zz=>?_;obtain⟨y,H2,I2,ry,a,v,ex,g,q2⟩:=zz;subst ex;obtain rfl:u=Value.ref a:=rx;exact⟨zqu I2 g,Gm hu I2 g ry λw' s3 I3 yP=>⟨v,H2,I3,yP,q2⟩⟩
end
def zqv(h:Heap)(hb:sysModules<h.objs.size):bV P w H (h.push { cls:=.type "dict",data:=.dict #[] }) h.objs.size (.dK []) :=
 ⟨mz _,beq_eq_false_iff_ne.mpr (afb (gR hb)),[],.nil,Heap.DictOf.new h⟩
def Lq(h:Heap)(hb:sysModules<h.objs.size):bV P w H (h.push { cls:=.type "dict",data:=.dict #[] }) h.objs.size (.dT []) :=
 ⟨mz _,beq_eq_false_iff_ne.mpr (afb (gR hb)),[],.nil,_,#[],0,gU _ rfl,⟨rfl,rfl,rfl⟩,rfl,rfl,List.nodup_nil⟩
noncomputable def Vj:TE:=λ_ H Q=>∀p,H p=none->Q (.ref p) (upd H p (.dK []))
noncomputable def Vi:TE:=λ_ H Q=>∀p,H p=none->Q (.ref p) (upd H p (.dT []))
section
variable  {X:Cx}{pos:Pos}
def Jc:PE X (.Dict [] [] pos) Vj:=λpins s σ H Q I h =>
 wpAny_Dict_empty ⟨.ref s.heap.objs.size,_,I.laid (a:=s.heap.objs.size) (o:=.dK []) (t':=s.toks) (λ_ _ q=>g8 _ q) (gb _) (zqv s.heap I.big),rfl,h _ (I.bJ.fresh (gb _))⟩
def Jb:PE X (.Dict [] [] pos) Vi:=λpins s σ H Q I h =>
 wpAny_Dict_empty ⟨.ref s.heap.objs.size,_,I.laid (a:=s.heap.objs.size) (o:=.dT []) (t':=s.toks) (λ_ _ q=>g8 _ q) (gb _) (Lq s.heap I.big),rfl,h _ (I.bJ.fresh (gb _))⟩
end
def xK:List (TE×TE)->St->Hp->(List (V×V)->Hp->Prop)->Prop
 | [],_,H,Q=>Q [] H
 | (tk,tv)::r,σ,H,Q=>tk σ H λx H1=>tv σ H1 λy H2=>xK r σ H2 λps H3=>Q ((x,y)::ps) H3
abbrev VV:List (V×V)->List (Value×Value)->Prop:=Paired λp q=>RelV p.1 q.1/\RelV p.2 q.2
def PPs(X:Cx)(pos:Pos)(keys:List (Option Expr))(values:List Expr)(z_:List (TE×TE)):Prop :=
 ∀(pins:List (Addr×Obj)) (s:Shared) (σ:St) (H:Hp) (Q:List (V×V)->Hp->Prop),Inv X pins σ H s->xK z_ σ H Q ->
  wpAny (model X.prog X.w) X.A (evalPairs (pairTrees keys values X.env pos)) (λvs s'=>∃ps H',Inv X pins σ H' s'/\VV ps vs/\Q ps H') X.xe s
def Pn{X:Cx}{pos:Pos}:PPs X pos [] [] []:=λpins s σ H Q I h=>pairTrees_nil_walk ⟨[],H,I,.nil,h⟩
def Io{X:Cx}{pos:Pos}{k v:Expr}{ks:List (Option Expr)}{vs:List Expr}{tk tv:TE}{z_:List (TE×TE)}(hk:PE X k tk)(hv:PE X v tv)(hr:PPs X pos ks vs z_) :
  PPs X pos (some k::ks) (v::vs) ((tk,tv)::z_):=λpins s σ H Q I h =>
 pairTrees_cons_walk (cC (hk pins s σ H _ I h) λu s1 ⟨x,H1,I1,rx,q1⟩=>cC (hv pins s1 σ H1 _ I1 q1) λw2 s2 ⟨y,H2,I2,ry,q2⟩ =>
  cC (hr pins s2 σ H2 _ I2 q2) λws s3 ⟨ps,H3,I3,rel,q3⟩=>⟨(x,y)::ps,H3,I3,.cons ⟨rx,ry⟩ rel,q3⟩)
noncomputable def jT(kvs more:List (Key×V)):List (Key×V):=more.foldl (λacc kv=>putK acc kv.1 kv.2) kvs
def KV.merge:∀{more:List (Key×V)} {rs:List (Key×Value)} {kvs:List (Key×V)} {vs:List (Key×Value)},KV more rs->KV kvs vs->KV (jT kvs more) (merged vs rs):=by
 intro more rs kvs vs r;unfold KV at r
 induction r generalizing kvs vs with
 | nil=>intro q;exact q
 | @cons p q ps qs h t ih =>
  intro r0;have e:KV (putK kvs p.1 p.2) (stored vs q.1 q.2):=by
   have:=r0.put p.1 h.2;rw[<-h.1];exact this
  exact ih e
theorem zg5:∀(more kvs:List (Key×V)),(jT kvs more).length<=kvs.length+more.length
 | [],kvs=>by show kvs.length<=kvs.length+0;omega
 | p::r,kvs=>by
  have h1:=zg5 r (putK kvs p.1 p.2);have h2:=zgi kvs p.1 p.2;show (jT (putK kvs p.1 p.2) r).length<=_;rw[gw];omega
theorem zmr{P:Program}{w:World}:∀{kvs:List (Key×V)} {ws:List (Value×Value)},VV (kvs.map λkv=>(kV kv.1,kv.2)) ws->∃rs,Carries (aZ P w) ws rs/\KV kvs rs
 | [],_,r=>by rw[gZ]at r;cases r;exact⟨[],True.intro,.nil⟩
 | p::kvs,_,r=>by
  rw[gm]at r;cases r with
  | @cons a b as bs h t =>
   obtain⟨rs,c,q⟩:=zmr (P:=P) (w:=w) t;obtain⟨b1,b2⟩:=b;exact⟨(p.1,b2)::rs,⟨vz h.1,rfl,c⟩,.cons ⟨rfl,h.2⟩ q⟩
noncomputable def aat(z_:List (TE×TE)):TE:=fun σ H Q=>∀p,H p=none->xK z_ σ (upd H p (.dK [])) λps H2=>H2 p=some (.dK [])/\∃kvs:List (Key×V),ps=kvs.map (λkv=>(kV kv.1,kv.2))/\kvs.length<=15/\Q (.ref p) (upd H2 p (.dK (jT [] kvs)))
def Qa{X:Cx}{pos:Pos}{keys:List (Option Expr)}{values:List Expr}{z_:List (TE×TE)}(h:PPs X pos keys values z_)(uG:keys.all (·.isSome)=true)(hl:keys.length=values.length)(h0:keys≠[])
  (h15:keys.length<=15):PE X (.Dict keys values pos) (aat z_):=by
 intro pins s σ H Q I q;have hn:=I.bJ.fresh (gb s.heap.objs.size);have I1:=I.laid (a:=s.heap.objs.size) (o:=.dK []) (h':=s.heap.push { cls:=.type "dict",data:=.dict #[] }) (t':=s.toks) (λ_ _ q=>g8 _ q) (gb _) (zqv s.heap I.big);refine wpAny_Dict_walk (knd:=aZ X.prog X.w) uG hl h0 h15 (cC (h pins _ σ _ _ I1 (q _ hn)) λws s2 zz=>?_);obtain⟨ps,H2,I2,rel,e,kvs,ep,lk,q2⟩:=zz;subst ep;obtain⟨rs,c,rk⟩:=zmr (P:=X.prog) (w:=X.w) rel;obtain⟨z,hd,M_,r0,dd⟩:=Ui I2.bJ e;cases r0;refine⟨rs,c,dd,λh' LC hs=>⟨.ref s.heap.objs.size,_,?_,rfl,q2⟩⟩;have hz:(jT [] kvs).length<=sizeLine:=by
  have h1:=zg5 kvs [];rw[mV]at h1;rw[afB];omega
 have he:∃q,h'.get? s.heap.objs.size=some q:=let ⟨q,_,_,hq,_⟩:=LC;⟨q,hq⟩;exact zpj I2 (by rw[e];exact True.intro) hs he (Bd hz hd (rk.merge .nil) LC)
structure M1(X:Cx)(o:Expr)(m:Str)(apos:Pos)(e:Expr)(di:Pos):Prop where
 base:attributeBase o m X.env (eval o X.env)=eval o X.env
 few:((backTo di (starEach [e] X.env)).all (λx=>!x.1) && (backToKw di (keywordEach [] X.env)).all (λx=>x.1.isSome)
  && decide (([e]:List Expr).length+([]:List Keyword).length+(if ([]:List Keyword).isEmpty then 0 else 1)<30))=true
 line:(apos.endLine==di.line)=true
 trees:backTo di (starEach [e] X.env)=[(false,eval e X.env)]
structure M2(X:Cx)(o:Expr)(m:Str)(apos:Pos)(e f:Expr)(di:Pos):Prop where
 base:attributeBase o m X.env (eval o X.env)=eval o X.env
 few:((backTo di (starEach [e,f] X.env)).all (λx=>!x.1) && (backToKw di (keywordEach [] X.env)).all (λx=>x.1.isSome)
  && decide (([e,f]:List Expr).length+([]:List Keyword).length+(if ([]:List Keyword).isEmpty then 0 else 1)<30))=true
 line:(apos.endLine==di.line)=true
 trees:backTo di (starEach [e,f] X.env)=[(false,eval e X.env),(false,eval f X.env)]
section
variable  {X:Cx}{pins:List (Addr×Obj)}{σ:St}{H:Hp}{s:Shared}{a:Addr}{y d:V}{u r:Value}{o:Option V}{A:Around}{E:Value->Shared->Prop}
def Ys(hu:A.units+1<cLine)(I:Inv X pins σ H s)(g:uK H a y o)(ry:RelV y u)(h:∀w' s',Inv X pins σ H s'->RelV (o.getD .non) w'->Q w' s') :
  wpAny (model X.prog X.w) A (call (.builtin "dict.get") [.ref a,u]) Q E s:=by
 rcases g with⟨kvs,k,e,ey,l⟩ | ⟨kvs,k,b,e,ey,eb,l⟩
 ·subst ey;obtain⟨z,hd,vs,rel,dd⟩:=vU I.bJ e;refine afG afc dd.typeIs afr (PySem.F.args_dict_get_2 _ _) (meets_dict_get (aZ X.prog X.w) a (vz ry) hd) ⟨_,dd.mapOf,h _ _ (I.tok _) ?_⟩;rw[l];exact (rel.val k).getD rfl
 ·subst ey;cases (show u=Value.ref b from ry);obtain⟨z,hd,xs,rel,dd⟩:=zx I.bJ e;refine afG afc dd.typeIs afr (PySem.F.args_dict_get_2 _ _) (meetsH_dict_get (tupleKind (aZ X.prog X.w)) a b hd) ⟨afu hu,k,xs,YK I.bJ eb,dd,h _ _ (I.tok _) ?_⟩;rw[l];exact (rel.val k).getD rfl
def Yr(hu:A.units+1<cLine)(I:Inv X pins σ H s)(g:uK H a y o)(ry:RelV y u)(rd:RelV d r)(h:∀w' s',Inv X pins σ H s'->RelV (o.getD d) w'->Q w' s') :
  wpAny (model X.prog X.w) A (call (.builtin "dict.get") [.ref a,u,r]) Q E s:=by
 rcases g with⟨kvs,k,e,ey,l⟩ | ⟨kvs,k,b,e,ey,eb,l⟩
 ·subst ey;obtain⟨z,hd,vs,rel,dd⟩:=vU I.bJ e;refine afG afc dd.typeIs afr (PySem.F.args_dict_get_3 _ _ _) (meets_dict_get_default (aZ X.prog X.w) a (vz ry) hd r) ⟨_,dd.mapOf,h _ _ (I.tok _) ?_⟩;rw[l];exact (rel.val k).getD rd
 ·subst ey;cases (show u=Value.ref b from ry);obtain⟨z,hd,xs,rel,dd⟩:=zx I.bJ e;refine afG afc dd.typeIs afr (PySem.F.args_dict_get_3 _ _ _) (meetsH_dict_get_default (tupleKind (aZ X.prog X.w)) a b hd r) ⟨afu hu,k,xs,YK I.bJ eb,dd,h _ _ (I.tok _) ?_⟩;rw[l];exact (rel.val k).getD rd
end
section
variable  {X:Cx}{o e f:Expr}{apos di:Pos}{td ty tx:TE}
end
section
variable  {X:Cx}{pins:List (Addr×Obj)}{σ:St}{H:Hp}{s:Shared}{a:Addr}{kvs:List (Key×V)}{A:Around}{E:Value->Shared->Prop}
def LQ{Q:Value->Shared->Prop}(I:Inv X pins σ H s)(e:Rd H a (.dK kvs))(h:∀p s',H p=none->Inv X pins σ (upd H p (.dK kvs)) s'->Q (.ref p) s'):wpAny (model X.prog X.w) A (call (.type "dict") [.ref a]) Q E s:=by
 obtain⟨z,hd,vs,rel,dd⟩:=vU I.bJ e;refine kt_call_dict hd dd (by rw[<-rel.length];exact z) λh' LC hs=>?_;refine h _ _ (I.bJ.fresh (gb _)) (I.laid (a:=s.heap.objs.size) (o:=.dK kvs) (t':=s.toks) (λb q hq=>?_) (gb _) (Bd z (beq_eq_false_iff_ne.mpr (afb (gR I.big))) rel LC));exact (hs.2 b (gR (gr hq))).trans (g8 _ hq)
end
section
variable  {X:Cx}{pins:List (Addr×Obj)}{σ:St}{H:Hp}{s:Shared}{a:Addr}{y:V}{u:Value}{A:Around}{E:Value->Shared->Prop}
end
def zf6{prog:Program}{w:World}{κ:Type}[DecidableEq κ]{knd:HeapKind prog w κ}{A:Around}{E:Value->Shared->Prop}{s:Shared}{d a:Addr}{xs:List (κ×Addr×Value)}{k:κ}{dflt:Value}{Q:Value->Shared->Prop}
  (hr:knd.room A) (hk:knd.is s.heap k a) (hd:s.heap.DictOfH knd d xs) (hz:xs.length<=sizeLine)
  (h1:∀p,atKey xs k=some p->Q p.2 { s with toks:=s.toks+knd.draws k })
  (h2:atKey xs k=none->∀h':Heap,h'.DictOfH knd d (xs++[(k,a,dflt)])->Heap.SameBut d s.heap h'->Q dflt { s with heap:=h',toks:=s.toks+knd.draws k }) :
  wpAny (model prog w) A (dictSetDefault d (.ref a) dflt) Q E s:=by
 obtain⟨o,es,ep,ho,hx,hdt,hes,his,zX⟩:=hd;unfold dictSetDefault;refine aft (ae0 (knd.pyHash hr hk (ae0 ?_)));refine wpAny_dictFind_heap (s:={ s with toks:=s.toks+knd.draws k }) (o:=o) (es:=es) (ep:=ep) (xs:=xs) hr hk ho hdt hes his zX (λZ7=>?_) (λj p hj=>?_)
 ·have hn:atKey xs k=none:=by
   unfold atKey;rw[Option.map_eq_none_iff,List.find?_eq_none];intro x hx' hxk;obtain⟨j,hj,e⟩:=mZ.mp hx';refine Z7 j x.2 ?_;rw[gK hj,e];have:=afa hxk;rw[<-this]
  refine ae0 (wpAny_rule (ae0 (wpAny_updateDictKeys (s:={ s with toks:=s.toks+knd.draws k }) ho hdt (ae3 ?_) ?_ ?_)))
  ·obtain⟨cls,dct,dat,sl⟩:=o;obtain rfl:dat=Data.dict es ep:=hdt;have Z5:Heap.SameBut d s.heap (s.heap.update d (Obj.mapDictKeys λx=>x.push { hash:=knd.hash k,key:=.ref a,val:=dflt })):=afD _ _ _;refine h2 hn _ ⟨_,es.push { hash:=knd.hash k,key:=.ref a,val:=dflt },ep+1,pJ _ ho rfl,hx,rfl,?_,?_,?_⟩ Z5
   ·rw[Array.toList_push,hes,mC];rfl
   ·intro x hx';rcases mO.mp hx' with q | q
    ·exact knd.keeps (his x q) ho rfl Z5
    ·obtain rfl:x=(k,a,dflt):=by simpa using q
     exact knd.keeps hk ho rfl Z5
   ·rw[mC];refine List.nodup_append.mpr ⟨zX,by simp,?_⟩;rintro y hy z hz' rfl;have hz2:y=k:=by simpa using hz'
    subst hz2;obtain⟨x,hxm,rfl⟩:=gj.mp hy;obtain⟨j,hj,e⟩:=mZ.mp hxm;exact Z7 j x.2 (by rw[gK hj,e])
  ·have:es.size=xs.length:=by rw[<-nJ,hes,gh]
   omega
  ·rw[Array.size_push];omega
 ·refine ae0 (wpAny_dictEntries (s:={ s with toks:=s.toks+knd.draws k }) ho hdt ?_);have e1:es[j]? = some (entryOfKey knd (k,p)):=by
   rw[<-Array.getElem?_toList,hes,gM,hj];rfl
  rw[e1];refine ae0 (wpAny_rule (ae3 ?_));exact h1 p (atKey_of_get zX hj)
def zg9{prog:Program}{w:World}{κ:Type}[DecidableEq κ](knd:HeapKind prog w κ)(d b:Addr)(v:Value)(hd:(d==sysModules)=false) :
  MeetsIn prog w (Builtin.«dict.setdefault» { pos:=[.ref d,.ref b,v] }) λA R s=>knd.room A.in1/\∃k xs,knd.is s.heap k b/\s.heap.DictOfH knd d xs/\xs.length<=sizeLine /\
   (∀p,atKey xs k=some p->R (.ok (.ret p.2)) { s with toks:=s.toks+knd.draws k }) /\
   (atKey xs k=none->∀h':Heap,h'.DictOfH knd d (xs++[(k,b,v)])->Heap.SameBut d s.heap h'->R (.ok (.ret v)) { s with heap:=h',toks:=s.toks+knd.draws k }):=by
 rintro A R s ⟨hr,k,xs,hk,dd,hz,h1,h2⟩;unfold Builtin.«dict.setdefault»;refine ae0 ?_;unfold Builtin.Dict.keyAndDefault;refine ae0 ?_;unfold Builtin.Dict.notOrdered;rw[ae1 (by decide)];refine ae0 (wpAny_typeOf dd.typeIs ?_);rw[ae2 (by decide)];refine ae3 (ae0 ?_);refine ae3 (ae0 ?_);refine ae0 (ae3 (ae0 ?_));refine ae3 (ae3 ?_);refine ae0 (ae3 (ae3 ?_));dsimp only;rw[ae2 (by rw[hd];decide)];refine ae0 (zf6 hr hk dd hz (λp e=>ae3 (h1 p e)) λe h' q1 q2=>ae3 (h2 e h' q1 q2))
section
variable  {X:Cx}{pins:List (Addr×Obj)}{σ:St}{H:Hp}{s:Shared}{a b:Addr}{v:V}{u r:Value}{A:Around}{E:Value->Shared->Prop}{kvs:List (List Key×V)}{k:List Key}
def LK(hu:A.units+1<cLine)(I:Inv X pins σ H s)(e:H a=some (.dT kvs))(eb:H b=some (.tup (k.map kV)))(rv:RelV v r)(hl:kvs.length<sizeLine) 
  (h1:∀x w' s',iV kvs k=some x->RelV x w'->Inv X pins σ H s'->Q w' s')
  (h2:iV kvs k=none->∀s',Inv X pins σ (upd H a (.dT (kvs++[(k,v)]))) s'->Q r s') :
  wpAny (model X.prog X.w) A (call (.builtin "dict.setdefault") [.ref a,.ref b,r]) Q E s:=by
 obtain⟨z,hd,xs,rel,dd⟩:=Uh I.bJ e;have hz:xs.length<=sizeLine:=by rw[<-afd rel];exact z
 refine afG PySem.F.slot_dict_setdefault dd.typeIs PySem.F.entry_dict_setdefault (PySem.F.args_dict_setdefault_3 _ _ _) (zg9 (tupleKind (aZ X.prog X.w)) a b r hd) ⟨afu hu,k,xs,YK I.bJ eb,dd,hz,λp ep=>?_,λen h' LC hs=>?_⟩
 ·have q:=rel.val k;rw[ep]at q;cases q2:iV kvs k with
  | none=>rw[q2]at q;exact q.elim
  | some x=>rw[q2]at q;exact h1 x _ _ q2 q (I.tok _)
 ·have q:=rel.val k;rw[en]at q;have q2:iV kvs k=none:=by
   cases q2:iV kvs k with
   | none=>rfl
   | some x=>rw[q2]at q;exact q.elim
  refine h2 q2 _ ?_;obtain⟨ob,es,ep,hq,h2,h3,h4,_,h5⟩:=LC;have FJ:storedH xs k b r=xs++[(k,b,r)]:=by unfold storedH;rw[en];rfl
  have hp:=rel.put k eb rv;rw[Ii v q2,FJ]at hp;refine zpj I (by rw[e];exact True.intro) hs ⟨ob,hq⟩ ⟨by rw[gG];exact hl,hd,_,hp.keeps λc ys ec=>?_,ob,es,ep,hq,h2,h3,h4,h5⟩;rw[iz (vm ec e (λz=>nomatch z))];exact ec
end
end L2
namespace M
open PySem PySem.Spec L2
noncomputable def keyOf:D->Option Key
 | .int i=>some (.inl i)
 | .str cs=>some (.inr (strOf cs))
 | _=>none
noncomputable def lO:List D->Option (List Key)
 | []=>some []
 | d::ds=>(keyOf d).bind λk=>(lO ds).map λks=>k::ks
noncomputable def keysOf(ds:List D):Option (List Key):=if GF ds=true then none else lO ds
noncomputable def jK(kvs:List (List Key×D))(k:List Key):Option D:=(kvs.find? λkv=>decide (kv.1=k)).map (·.2)
@[simp] def zow(i:Int):keyOf (.int i)=some (.inl i):=dq rfl
@[simp] def ZJ(cs:List Nat):keyOf (.str cs)=some (.inr (strOf cs)):=dq rfl
@[simp] def Fj:lO []=some []:=dq rfl
@[simp] def ab5(i:Int)(r:List D):GF (.int i::r)=false:=dq rfl
@[simp] def zl2(d:D)(ds:List D):lO (d::ds)=(keyOf d).bind λk=>(lO ds).map λks=>k::ks:=dq rfl
@[simp] def TJ(d:D)(ds:List D):keysOf (d::ds)=if GF (d::ds)=true then none else (keyOf d).bind λk=>(lO ds).map λks=>k::ks:=dq rfl
@[simp] def Hj(k:List Key):jK [] k=none:=dq rfl
def zfk(p:List Key×D)(r:List (List Key×D))(k:List Key):jK (p::r) k=if p.1=k then some p.2 else jK r k:=by
 unfold jK;rw[m9];by_cases h:p.1=k
 ·simp[h]
 ·simp[h]
def zpq(kvs:List (List Key×D))(k j:List Key)(y:D)(h:jK kvs k=none):jK (kvs++[(k,y)]) j=if k=j then some y else jK kvs j:=by
 induction kvs with
 | nil=>rw[mD,zfk]
 | cons p r ih =>
  rw[zfk]at h
  split at h
  ·cases h
  ·rename_i hn;rw[nO,zfk,zfk,ih h];by_cases e:p.1=j
   ·rw[ae1 e,ae1 e,ae2 (λz=>hn (e.trans z.symm))]
   ·rw[ae2 e,ae2 e]
theorem aq.TF{K:PySem.W.Frag}{μ:List Addr}{H:Hp}:∀{ds:List D} {xs:List V} {ks:List Key},aq K μ H ds xs->lO ds=some ks->xs=ks.map kV
 | [],xs,ks,h,e=>by
  rw[aq]at h;rw[Fj]at e;cases e;exact h
 | d::ds,xs,ks,h,e=>by
  rw[aq]at h;obtain⟨v,r,rfl,h1,h2⟩:=h;rw[zl2]at e;cases e1:keyOf d with
  | none=>rw[e1]at e;cases e
  | some k1 =>
   rw[e1]at e;cases e2:lO ds with
   | none=>rw[e2]at e;cases e
   | some ks2 =>
    rw[e2]at e;cases e;rw[aq.TF h2 e2];have:v=kV k1:=by
     cases d with
     | int i=>rw[ao.aF]at h1;cases e1;exact h1
     | str cs=>rw[ao.aO]at h1;cases e1;exact h1
     | _=>cases e1
    rw[this];rfl
theorem zlh:∀{ds:List D} {ks:List Key},lO ds=some ks->Fd ds=false
 | [],_,_=>rfl
 | d::ds,ks,e=>by
  rw[zl2]at e;cases e1:keyOf d with
  | none=>rw[e1]at e;cases e
  | some k1 =>
   rw[e1]at e;cases e2:lO ds with
   | none=>rw[e2]at e;cases e
   | some ks2 =>
    have ih:=zlh e2;cases d with
    | int i=>rw[Fd];exact ih
    | str cs=>rw[Fd];exact ih
    | _=>cases e1
def znk{ds:List D}{ks:List Key}(h:keysOf ds=some ks):GF ds=false/\lO ds=some ks:=by
 unfold keysOf at h
 split at h
 ·cases h
 ·rename_i n;exact⟨by simpa using n,h⟩
def aq.keys(h:aq K μ H ds xs)(e:keysOf ds=some ks):xs=ks.map kV:=h.TF (znk e).2
def zn0{ds:List D}{ks:List Key}(e:keysOf ds=some ks):Cm ds=false:=by
 unfold Cm;rw[(znk e).1,zlh (znk e).2];rfl
def zF.made(h:zF K H a xs ds)(e:keysOf ds=some ks):H a=some (.tup xs):=by
 rcases h with h | ⟨h,_⟩
 ·exact h
 ·rw[zn0 e]at h;cases h
theorem aH.val:∀{kvs:List (List Key×D)} {ws:List (List Key×V)},aH K μ H kvs ws ->
  (jK kvs k=none/\iV ws k=none)\/∃d v,jK kvs k=some d/\iV ws k=some v/\ao K μ H d v
 | [],ws,h=>.inl ⟨rfl,by rw[aH]at h;rw[h];rfl⟩
 | (j,d)::r,ws,h=>by
  obtain⟨v,r',rfl,h1,h2⟩:=h;rw[zfk];by_cases e:j=k
  ·rw[ae1 e];exact .inr ⟨d,v,rfl,zh7 (p:=(j,v)) e,h1⟩
  ·rw[ae2 e,ziy (p:=(j,v)) e];exact aH.val h2
theorem aH.snoc:∀{kvs:List (List Key×D)} {ws:List (List Key×V)},aH K μ H kvs ws->ao K μ H d v->aH K μ H (kvs++[(k,d)]) (ws++[(k,v)])
 | [],ws,h,hv=>by rw[aH]at h;subst h;exact⟨v,[],rfl,hv,rfl⟩
 | (j,d')::r,ws,h,hv=>by
  obtain⟨v',r',rfl,h1,h2⟩:=h;exact⟨v',r'++[(k,v)],rfl,h1,aH.snoc h2 hv⟩
theorem aH.len:∀{kvs:List (κ×D)} {ws:List (κ×V)},aH K μ H kvs ws->kvs.length=ws.length
 | [],ws,h=>by rw[aH]at h;rw[h];rfl
 | (j,d)::r,ws,h=>by
  obtain⟨v,r',rfl,h1,h2⟩:=h;rw[gw,gw,aH.len h2]
def aQ.dic{K:PySem.W.Frag}{μ:List Addr}{H:Hp}{st:ak}{n:Nat}{kvs:List (List Key×D)}(h:aQ K μ H st)(e:st[n]? = some (.dic kvs)):∃p ws,μ[n]? = some p/\H p=some (.dT ws)/\aH K μ H kvs ws:=by
 obtain⟨p,h1,xs,h2,h3⟩:=h.at_ n _ e;exact⟨p,xs,h1,h2,h3⟩
section
variable  {X:Cx}{e a b c o:Expr}{es:List Expr}{ma mb mc mo:ME}{mA:MA}{pos p2 p apos di:Pos}
noncomputable def Yq:ME:=λ_ st=>.ok (.loc st.length) (st++[.dic []])
def QR:JE X (.Dict [] [] pos) Yq:=by
 refine JE.of Jb fun σ H Q zz=>?_;obtain⟨μ,env,st,hE,hs,hp⟩:=zz;refine λp hn=>?_;have hr:fM X.K (μ++[p]) (upd H p (.dT [])) p (.dic []):=⟨[],rW,rfl⟩;exact hp _ _ (μ++[p]) (a_.new hn) (hs.new hn hr) (ao.aG.mpr ⟨p,by rw[<-hs.len];simp,rfl⟩)
noncomputable def FZ:D->List D->ak->R D
 | .loc n,[.tup ks],st=>match st[n]?,keysOf ks with
  | some (.dic kvs),some k=>.ok ((jK kvs k).getD .non) st
  | _,_=>.bad
 | _,_,_=>.bad
def Qx(hu:X.A.units+1<cLine):rY X "dict.get" (GX X FZ):=by
 rintro pins s σ H x xs v us Q I rx En ⟨μ,st,d,ds,hs,hx,lR,hp⟩;unfold FZ at hp
 split at hp
 ·rename_i n ks
  split at hp
  ·rename_i kvs k e1 e2;obtain⟨p,q1,rfl⟩:=ao.aG.mp hx;obtain⟨y,rfl,q2⟩:=aq.one lR;obtain⟨b,ys,rfl,q3,q4⟩:=ao.aR.mp q2;replace q3:=q3.made e2;obtain rfl:=q4.keys e2;obtain⟨p',ws,r1,r2,r3⟩:=hs.dic e1;rw[q1]at r1;cases r1;cases En with
   | cons ry rr =>
    cases rr;obtain rfl:v=Value.ref p:=rx;refine Ys hu I (uK.t r2 q3) ry λw' s' I' yP=>⟨_,H,I',yP,?_⟩;rcases r3.val (k:=k) with⟨z1,z2⟩ | ⟨d',v',z1,z2,z3⟩
    ·rw[z1]at hp;rw[z2];exact hp.ret hs (ao.bC.mpr rfl)
    ·rw[z1]at hp;rw[z2];exact hp.ret hs z3
  ·exact hp.elim
 ·exact hp.elim
noncomputable def oH:D->List D->ak->R D
 | .loc n,[.tup ks,d],st=>match st[n]?,keysOf ks with
  | some (.dic kvs),some k=>if kvs.length<1000000 then (match jK kvs k with
   | some d'=>.ok d' st
   | none=>.ok d (st.set n (.dic (kvs++[(k,d)])))) else .bad
  | _,_=>.bad
 | _,_,_=>.bad
def ztl(hu:X.A.units+1<cLine):rY X "dict.setdefault" (GX X oH):=by
 rintro pins s σ H x xs v us Q I rx En ⟨μ,st,d,ds,hs,hx,lR,hp⟩;unfold oH at hp
 split at hp
 ·rename_i n ks d1
  split at hp
  ·rename_i kvs k e1 e2
   split at hp
   ·rename_i hl;obtain⟨p,q1,rfl⟩:=ao.aG.mp hx;obtain⟨y,z,rfl,q2,q5⟩:=aq.two lR;obtain⟨b,ys,rfl,q3,q4⟩:=ao.aR.mp q2;replace q3:=q3.made e2;obtain rfl:=q4.keys e2;obtain⟨p',ws,r1,r2,r3⟩:=hs.dic e1;rw[q1]at r1;cases r1;cases En with
    | cons ry rr =>
     cases rr with
     | cons rz rr =>
      cases rr;obtain rfl:v=Value.ref p:=rx;rename_i uy uz;obtain rfl:uy=Value.ref b:=ry;refine LK hu I r2 q3 rz (by rw[<-r3.len];exact gQ hl (by decide)) (λx' w' s' ex yP I'=>⟨_,H,I',yP,?_⟩) λen s' I'=>⟨_,_,I',rz,?_⟩
      ·rcases r3.val (k:=k) with⟨z1,z2⟩ | ⟨d',v',z1,z2,z3⟩
       ·rw[z2]at ex;cases ex
       ·rw[z1]at hp;rw[z2]at ex;cases ex;exact hp.ret hs z3
      ·rcases r3.val (k:=k) with⟨z1,z2⟩ | ⟨d',v',z1,z2,z3⟩
       ·rw[z1]at hp;have g:Ext H (upd H p (.dT (ws++[(k,z)]))):=Ext.mut r2 (λ_ z=>nomatch z) (λ_ _ z=>nomatch z);have g':a_ μ H μ (upd H p (.dT (ws++[(k,z)]))):=⟨⟨[],by simp⟩,g⟩;exact hp _ _ μ g' (hs.put e1 rfl rfl q1 g ⟨_,rW,(r3.snoc q5).mono g'⟩) (q5.mono g' _)
       ·rw[z2]at en;cases en
   ·exact hp.elim
  ·exact hp.elim
 ·exact hp.elim
end
end M
namespace L2
open PySem PySem.Spec PyProof.Rows
noncomputable def Its(x:Str):It:=⟨λi _=>i<x.cps.size,λi H y H'=>H'=H/\∃c,x.cps[i]? = some c/\y=.str ⟨#[c]⟩,λi _=>x.cps.size<=i⟩
def Hn{P:Program}{w:World}{K:PySem.W.Frag}{tg:Expr}(it:Addr)(x:Str)(t:Tok):Turn P w K tg (Its x) [it] it (λi h=>h.IsStrIter it "str_ascii_iterator" x t i) where
 mem:=by simp
 obj:=λi h st b hb=>by
  have e:b=it:=by simpa using hb
  subst e;obtain⟨o,e,c,d⟩:=st;exact⟨o,e,λv z=>by rw[d]at z;cases z⟩
 keep:=λi h h' st k=>by
  obtain⟨o,e,c,d⟩:=st;exact⟨o,k it (by simp) o e,c,d⟩
 item:=by
  intro X hP hw hK hc i pins s σ H E I hf st hg;subst hP hw hK;obtain⟨f0,f1,f2,f3,f4,f5⟩:=hf it (by simp);have hi:i<x.cps.size:=hg;refine wpAny_pyNext_ascii_item st (pK hi) λh' st' sb=>?_;have I1:Inv X pins σ H { s with heap:=h',toks:=s.toks+1 }:=I.turned (λb o hb e=>(sb.2 b hb).trans e) f0 f1 f3 f4 f5;obtain⟨o,e,c,d⟩:=id st';exact⟨_,rfl,rm (s:={ s with heap:=h',toks:=s.toks+1 }) e c d (by decide) ⟨.str ⟨#[x.cps[i]]⟩,H,I1,⟨_,rfl⟩,⟨rfl,_,pK hi,rfl⟩,st',λb hb=>(hf b hb).1⟩⟩
 done:=by
  intro X hP hw hK hc i pins s σ H E I hf st hg;subst hP hw hK;obtain⟨f0,f1,f2,f3,f4,f5⟩:=hf it (by simp);have hi:x.cps.size<=i:=hg;exact wpAny_pyNext_ascii_end (I.ok.hd hc) st (Array.getElem?_eq_none hi) λh' eb=>⟨rfl,I.turned (t':=s.toks) (λb o hb e=>eb b o hb e) f0 f1 f3 f4 f5⟩
 self:=λ_ _ _ _ _ st h=>wpAny_pyIter_striter_ascii st h
noncomputable def adL(tl:TE):TI:=fun σ H R=>tl σ H λy H1=>∃x,y=.str x/\strIterType x = "str_ascii_iterator"/\R (Its x) H1
def V0{X:Cx}{tg l:Expr}{tl:TE}(hl:PE X l tl):PI X tg l (adL tl):=by
 intro pins s σ H R I h;refine cC (hl pins s σ H _ I h) λv s1 zz=>?_;obtain⟨y,H1,I1,r1,q1⟩:=zz;obtain⟨x,e,ha,q⟩:=q1;subst e;obtain⟨t,rfl⟩:=r1;refine wpAny_pyIter_strU ?_;rw[ha];refine⟨s1.heap.objs.size,[s1.heap.objs.size],_,_,H1,rfl,I1.kept (t':=s1.toks) λb o e=>g8 _ e,Hn _ x t,⟨_,gU _ rfl,rfl,rfl⟩,λb hb=>?_,q⟩;have e:b=s1.heap.objs.size:=by simpa using hb
 subst e;exact I1.uH (gb _) (I1.bJ.fresh (gb _))
end L2
namespace M
open PySem PySem.Spec L2
section
variable  {X:Cx}{tg l:Expr}{ml:ME}{μ:List Addr}{H:Hp}
noncomputable def yN(m:ME):MI:=λenv st=>(m env st).bind λd st1=>match d with
 | .str cs=>if cs.all (λc=>decide (c<128))=true then .ok (cs.map λc=>D.str [c],[]) st1 else .bad
 | _=>.bad
def QZ(cs:List Nat):j9 X μ H (Its (strOf cs)) (cs.map λc=>D.str [c],[]):=by
 intro H' μ' st' g hs ok;refine⟨λi d e=>?_,by show (strOf cs).cps.size<=_;simp⟩;rw[gM]at e;obtain⟨c,e1,rfl⟩:=mQ.mp e;refine⟨by show i<(strOf cs).cps.size;simpa using (gf.mp e1).1,?_⟩;rintro x Bf ⟨rfl,c',hc,rfl⟩;have:c'=c:=by
  have h2:cs[i]? = some c':=by simpa using hc
  rw[e1]at h2;exact (ae5 h2).symm
 subst this;exact⟨.refl _ _,hs,ao.aO.mpr rfl⟩
def WT(hl:JE X l ml):JI X tg l (yN ml):=by
 refine JI.of (V0 hl) fun σ H R zz=>?_;obtain⟨μ,env,st,hE,hs,hp⟩:=zz;refine⟨μ,env,st,hE,hs,(bF.bind hp).imp ?_⟩;rintro v H1 ⟨μ1,st1,d,g1,bx,hv,aP⟩;dsimp only at aP
 split at aP
 ·rename_i cs
  split at aP
  ·rename_i hc;obtain rfl:=ao.aO.mp hv;refine⟨strOf cs,rfl,?_,aP _ _ _ (.refl _ _) bx (QZ cs)⟩;unfold strIterType;rw[ae1];show (cs.toArray.all _)=true;rw[List.all_toArray];exact hc
  ·exact aP.elim
 ·exact aP.elim
end
end M
namespace L2
open PySem PySem.Spec PyProof.Rows
def Inv.but(I:Inv X pins σ H s)(k:∀b o,b≠X.env.locals->s.heap.get? b=some o->h'.get? b=some o) 
  (ns:∀m,s.heap.Ns X.env.locals m->h'.Ns X.env.locals m):Inv X pins σ H { s with heap:=h',toks:=t' }:=by
 have neL:∀b u,H b=some u->b≠X.env.locals:=λb u e z=>by rw[z,I.free]at e;cases e
 refine I.step (g':=s.gens) (d':=s.drawn) (ch:=[]) (λ_ z=>nomatch z) (λb o hL _ _ e _=>k b o hL e) (λb o hL _ _ e _=>⟨o.slots,k b o hL e⟩) (λ_ _ _ _ n=>n) (λb o _ e=>?_) (λ_ _ e=>e) (λ_ _ _ e=>e) (λb ps e=>⟨#[],by rw[e];simp⟩) ns (λb u e=>?_) I.bare
 ·by_cases hb:b=X.env.locals
  ·subst hb;obtain⟨m,hm,_⟩:=I.loc;obtain⟨o',_,_,q,_⟩:=ns m hm;exact⟨o',q⟩
  ·exact⟨o,k b o hb e⟩
 ·refine (I.bJ b u e).uB (λc v hc q=>k c v ?_ q) (λc q=>q) λc xs q=>q;rcases hc with z | z
  ·rw[z];exact neL b u e
  ·exact neL c _ z
def Gu(hc:X.A.handled=none):cz X (.builtin "sum") (λxs H Q=>∃(p:Addr) (ns:List Int),xs=[.ref p]/\oF X.K H p (ns.map V.int)/\Q (.int ns.sum) H):=by
 rintro pins s σ H xs us Q I hr ⟨p,ns,rfl,hq,h⟩;cases hr with
 | cons r1 r2 =>
  cases r2;cases r1;obtain⟨its,rv,pl,hz⟩:=I.list hq;have hi:IntsAre its ns:=by
   have key:∀(ns:List Int) (its:List Value),Vals (ns.map V.int) its->IntsAre its ns:=by
    intro ns
    induction ns with
    | nil=>intro its h;cases h;exact .nil
    | cons n ns ih =>
     intro its h;cases h with
     | cons r1 r2 =>
      obtain⟨t,rfl⟩:=r1;exact .cons n t (ih _ r2)
   exact key ns its rv
  obtain⟨m,hm,_⟩:=id I.loc;obtain⟨o,ho,_⟩:=id pl.isList;have tO:p≠X.env.locals:=λz=>by
   obtain⟨o',es,ep,q1,q2,_⟩:=hm;obtain⟨o2,w1,w2,w3⟩:=id pl.isList;rw[z,q1]at w1;cases w1;rw[q2]at w3;obtain⟨_,w4⟩:=w3;cases w4
  refine LSm.sum_ints (Att.K9 hm) (Att.zqn tO ho) hc pl.isList hi λh' tk t' F' N'=>⟨.int ns.sum,H,I.but (λb ob hb e=>?_) (λm' Nk=>?_),⟨t',rfl⟩,h⟩
  ·by_cases hbp:b=p
   ·subst hbp;rw[ho]at e;cases e;exact N'.get (List.Mem.head _)
   ·exact N'.get (List.Mem.tail _ (Att.zl6.mpr ⟨hb,hbp,e⟩))
  ·have:m'=m:=by
    obtain⟨o1,es1,ep1,q1,q2,_,q3⟩:=hm;obtain⟨o2,es2,ep2,w1,w2,_,w3⟩:=Nk;rw[q1]at w1;cases w1;rw[q2]at w2;cases w2;funext x;rw[<-q3 x,<-w3 x]
   subst this;exact F'.ns
end L2
namespace M
open PySem PySem.Spec L2
noncomputable def intsOf:List D->Option (List Int)
 | []=>some []
 | .int i::r=>(intsOf r).map (i :: ·)
 | _::_=>none
theorem zk6:∀{ds:List D} {xs:List V} {ns:List Int},intsOf ds=some ns->aq K μ H ds xs->xs=ns.map V.int
 | [],_,_,e,h=>by cases e;rw[aq]at h;exact h
 | d::ds,_,ns,e,h=>by
  rw[aq]at h;obtain⟨v,t,rfl,h1,h2⟩:=h;cases d with
  | int i =>
   simp only[intsOf]at e;cases q:intsOf ds with
   | none=>rw[q]at e;cases e
   | some bs' =>
    rw[q]at e;cases e;rw[ao.aF]at h1;subst h1;rw[zk6 q h2];rfl
  | _=>simp[intsOf]at e
noncomputable def Ht:List D->ak->R D
 | [.loc n],st=>match (aA st n).bind intsOf with | some ns=>.ok (.int ns.sum) st | none=>.bad
 | _,_=>.bad
def Gr(hc:X.A.handled=none):cz X (.builtin "sum") (Nf X Ht):=by
 refine cz.weak (Gu hc) ?_;rintro xs H Q ⟨μ,st,ds,hs,hv,hp⟩;unfold Ht at hp
 split at hp
 ·rename_i n;cases e:aA st n with
  | none=>rw[e]at hp;exact hp.elim
  | some l =>
   rw[e]at hp;cases e2:intsOf l with
   | none=>simp only[mR,e2]at hp;exact hp.elim
   | some ns =>
    simp only[mR,e2]at hp;obtain⟨v,rfl,q⟩:=aq.one hv;obtain⟨p,q1,rfl⟩:=ao.aG.mp q;obtain⟨p',ys,r1,r2,r3⟩:=hs.items e;rw[q1]at r1;cases r1;rw[zk6 e2 r3]at r2;exact⟨p,ns,rfl,r2,hp.ret hs (ao.aF.mpr rfl)⟩
 ·exact hp.elim
end M
namespace M
open L2
def LR(xs:List α)(c:Nat)(h:c<=xs.length):cut xs none (some (c:Int))=xs.take c:=by
 unfold cut;rw[HT.zqw,HT.BL,Nat.min_eq_left h];simp
def L_(xs:List α)(c:Nat):cut xs (some (c:Int)) none=xs.drop c:=by
 unfold cut;rw[HT.zqw,HT.BL];by_cases h:c<=xs.length
 ·rw[Nat.min_eq_left h,pL (by simp)]
 ·rw[Nat.min_eq_right (by omega),nu (gb _),nu (by omega)];simp
def zqx(lo:Int)(n:Nat):(uR lo n).length=n:=by simp[uR]
section
variable  (st:ak)
def zj3(cs:List Nat)(h:cs.length<=1000000):wN [.str cs] st=.ok (.int cs.length) st:=by simp[wN,h]
@[simp] def adb(env:aJ):Yq env st=.ok (.loc st.length) (st++[.dic []]):=dq rfl
@[simp] theorem Vv(a:ME)(env:aJ):yN a env st=(a env st).bind λd st1=>match d with
 | .str cs=>if cs.all (λc=>decide (c<128))=true then .ok (cs.map λc=>D.str [c],[]) st1 else .bad
 | _=>.bad:=dq rfl
end
end M
namespace M
open PySem PySem.Spec L2
section
variable  {X:Cx}
noncomputable def jP:D->List D->ak->R D
 | .loc n,[],st=>match st[n]? with
  | some (.lst ds)=>(match ds[ds.length - 1]? with | some d=>.ok d (st.set n (.lst ds.dropLast)) | none=>.bad)
  | _=>.bad
 | _,_,_=>.bad
theorem aq.dropLast{K:PySem.W.Frag}{μ:List Addr}{H:Hp}:∀{ds:List D} {xs:List V},aq K μ H ds xs->aq K μ H ds.dropLast xs.dropLast
 | [],xs,h=>by rw[aq]at h;subst h;exact aq.nil
 | [d],xs,h=>by obtain⟨v,rfl,_⟩:=aq.one h;exact aq.nil
 | d::e::ds,xs,h=>by
  rw[aq]at h;obtain⟨v,r,rfl,h1,h2⟩:=h;obtain⟨w,r',rfl,h3,h4⟩:=(by rw[aq]at h2;exact h2:∃v r',r=v::r'/\ao K μ H e v/\aq K μ H ds r');rw[List.dropLast_cons_cons,List.dropLast_cons_cons];exact aq.cons h1 (aq.dropLast h2)
def Qw:rY X "list.pop" (GX X jP):=by
 refine rY.weak Wt ?_;rintro x xs H Q ⟨μ,st,d,ds,hs,hx,lR,hp⟩;unfold jP at hp
 split at hp
 ·rename_i n;cases e:st[n]? with
  | none=>rw[e]at hp;exact hp.elim
  | some mo =>
   cases mo with
   | lst l =>
    rw[e]at hp;dsimp only at hp;cases e2:l[l.length - 1]? with
    | none=>rw[e2]at hp;exact hp.elim
    | some d =>
     rw[e2]at hp;obtain⟨p,q1,rfl⟩:=ao.aG.mp hx;rw[aq]at lR;obtain⟨p',ys,r1,r2,r3⟩:=hs.lst e;rw[q1]at r1;cases r1;obtain⟨v,z1,z2⟩:=r3.get e2;obtain⟨g,qp⟩:=xR hs e q1 r2 r3.dropLast;exact⟨p,ys,v,rfl,lR,r2,by rw[<-r3.length];exact z1,hp _ _ μ g qp (z2.mono g _)⟩
   | _=>rw[e]at hp;exact hp.elim
 ·exact hp.elim
end
end M
namespace L2
open PySem PySem.Spec PyProof.Rows
theorem zsv:∀(ys:List Str) (its:List Value),Vals (ys.map V.str) its->StrsAre its ys
 | [],_,h=>by cases h;exact .nil
 | y::ys,_,h=>by
  cases h with
  | cons r1 r2 =>
   obtain⟨t,rfl⟩:=r1;exact .cons y t (zsv ys _ r2)
def Jy:rY X "str.join" (λx xs H Q=>∃(z:Str) (p:Addr) (ys:List Str),x=.str z/\xs=[.ref p]/\oF X.K H p (ys.map V.str)/\(ys.map λy=>y.length).sum+ys.length*z.length<=16777216/\Q (.str (Txt.join z ys)) H):=by
 rintro pins s σ H x xs v us Q I rx En ⟨z,p,ys,rfl,rfl,hq,hz,h⟩;obtain⟨t,rfl⟩:=rx;cases En with
 | cons r1 r2 =>
  cases r2;cases r1;obtain⟨its,rv,pl,_⟩:=I.list hq;exact join_list pl.isList (zsv ys its rv) hz λt' k=>⟨.str (Txt.join z ys),H,I.kept (t':=k) λb u h=>h,⟨t',rfl⟩,h⟩
end L2
namespace M
open PySem PySem.Spec L2
section
variable  {X:Cx}
noncomputable def ie:List D->Option (List (List Nat))
 | []=>some []
 | .str cs::r=>(ie r).map (cs :: ·)
 | _::_=>none
theorem zou:∀{ds:List D} {xs:List V} {ts:List (List Nat)},ie ds=some ts->aq K μ H ds xs->xs=(ts.map strOf).map V.str
 | [],_,_,e,h=>by cases e;rw[aq]at h;exact h
 | d::ds,_,ts,e,h=>by
  rw[aq]at h;obtain⟨v,t,rfl,h1,h2⟩:=h;cases d with
  | str cs =>
   simp only[ie]at e;cases q:ie ds with
   | none=>rw[q]at e;cases e
   | some ts' =>
    rw[q]at e;cases e;rw[ao.aO]at h1;subst h1;rw[zou q h2];rfl
  | _=>simp[ie]at e
noncomputable def joinM(sep:List Nat)(ts:List (List Nat)):List Nat:=(Txt.join (strOf sep) (ts.map strOf)).cps.toList
noncomputable def vC:D->List D->ak->R D
 | .str sep,[.loc n],st=>match (aA st n).bind ie with
  | some ts=>if (ts.map List.length).sum+ts.length*sep.length<=1000000 then .ok (.str (joinM sep ts)) st else .bad
  | none=>.bad
 | _,_,_=>.bad
def Jx:rY X "str.join" (GX X vC):=by
 refine rY.weak Jy ?_;rintro x xs H Q ⟨μ,st,d,ds,hs,hx,lR,hp⟩;unfold vC at hp
 split at hp
 ·rename_i sep n;cases e:aA st n with
  | none=>rw[e]at hp;exact hp.elim
  | some l =>
   rw[e]at hp;cases e2:ie l with
   | none=>simp only[mR,e2]at hp;exact hp.elim
   | some ts =>
    simp only[mR,e2]at hp
    split at hp
    ·rename_i hl;obtain⟨v,rfl,q⟩:=aq.one lR;obtain⟨p,q1,rfl⟩:=ao.aG.mp q;obtain⟨p',ys,r1,r2,r3⟩:=hs.items e;rw[q1]at r1;cases r1;rw[zou e2 r3]at r2;obtain rfl:=ao.aO.mp hx;refine⟨_,p,ts.map strOf,rfl,rfl,r2,?_,hp.ret hs (ao.aO.mpr rfl)⟩;rw[gJ,gh];have e3:(ts.map ((λy:Str=>y.length)∘strOf))=ts.map List.length:=kJ λt _=>by
      show (strOf t).cps.size=t.length;simp
     rw[e3];have e4:(strOf sep).length=sep.length:=by show (strOf sep).cps.size=sep.length;simp
     rw[e4];omega
    ·exact hp.elim
 ·exact hp.elim
end
noncomputable def vD(sep:List Nat):List (List Nat)->List Nat
 | []=>[]
 | [t]=>t
 | t::u::r=>t++sep++vD sep (u::r)
theorem zji(sep:Str):∀(ts:List Str),(sep.join ts).cps.toList=vD sep.cps.toList (ts.map λt=>t.cps.toList)
 | []=>by rw[PyProof.Rows.join_nil];rfl
 | [t]=>by rw[PyProof.Rows.join_one];rfl
 | t::u::r=>by
  have ih:=zji sep (u::r);rw[gm]at ih;rw[PyProof.Rows.join_cons_cons,gm,gm,vD,<-ih];show (t.cps++sep.cps++(sep.join (u::r)).cps).toList=_;simp
def J8(sep:List Nat)(ts:List (List Nat)):joinM sep ts=vD sep ts:=by
 unfold joinM;rw[show Txt.join (strOf sep) (ts.map strOf)=(strOf sep).join (ts.map strOf) from StrLaws.glued_eq_join _ _,zji,gJ];have:(λt:Str=>t.cps.toList)∘strOf=id:=by funext t;simp
 rw[this,List.map_id]
end M
namespace L2
open PySem PySem.Spec PyProof.Rows
theorem zqz(cs:List Nat):∀(n:Nat) (a:Array Nat),(List.foldl (λx1 x2=>x1++x2) a (List.replicate n cs.toArray)).toList=a.toList++(List.replicate n cs).flatten
 | 0,a=>by simp
 | n+1,a=>by
  rw[n_,n_,List.foldl_cons,zqz cs n,nQ];simp
def zs7:d9 X (binaryOp .Mult) (λx y H Q=>∃(cs:List Nat) (n:Nat),x=.str ⟨cs.toArray⟩/\y=.int n/\n<=1000000/\cs.length*n<=1000000/\Q (.str ⟨(List.replicate n cs).flatten.toArray⟩) H):=by
 intro pins s σ H x y v u Q I rx ry h;obtain⟨cs,n,rfl,rfl,hn,hz,q⟩:=h;obtain⟨t,rfl⟩:=rx;obtain⟨t',rfl⟩:=ry;have hlen:(Str.mk cs.toArray).length=cs.length:=by show cs.toArray.size=_;simp
 refine P.mul_str ?_ ?_ ?_ ?_
 ·rw[Bool.or_eq_false_iff];exact⟨ae4 (by omega),ae4 (by omega)⟩
 ·intro h1 h2;rw[hlen];have h3:(cs.length:Int)*(n:Int)<=2 ^ 63 - 1:=by
   have:((cs.length*n:Nat):Int)<=1000000:=by omega
   rw[Int.natCast_mul]at this;omega
  have:=(Int.le_ediv_iff_mul_le (show (0:Int)<(n:Int) by omega)).mpr h3;omega
 ·intro _ _;rw[hlen];unfold Builtin.Str.tooLong;rw[mW];exact ae4 (by
   have hsl:1000000<=sizeLine:=by decide
   omega)
 ·split
  ·have h0:n=0:=by omega
   subst h0;exact⟨mz _,.str ⟨#[]⟩,H,I.tok _,⟨_,rfl⟩,q⟩
  ·split
   ·rename_i h1 h2;have e:(List.replicate n cs).flatten=cs:=by
     rw[ph]at h2;rcases h2 with h2 | h2
     ·have:n=1:=by have:=eq_of_beq h2;omega
      subst this;simp
     ·have:cs=[]:=by rw[hlen]at h2;exact nA.mp (eq_of_beq h2)
      subst this;simp
    rw[e]at q;exact⟨.str ⟨cs.toArray⟩,H,I,⟨t,rfl⟩,q⟩
   ·have e:(Str.mk (List.foldl (λx1 x2=>x1++x2) #[] (List.replicate (n:Int).toNat cs.toArray)))=⟨(List.replicate n cs).flatten.toArray⟩:=by
     congr 1;apply Array.toList_inj.mp;rw[mW,zqz];simp
    rw[e];have T7:(List.replicate n cs).flatten.length=n*cs.length:=by simp
    have CT:(Str.mk (List.replicate n cs).flatten.toArray).length<=sizeLine:=by
     show (List.replicate n cs).flatten.toArray.size<=sizeLine;rw[gC,T7,Nat.mul_comm];exact kh hz (by decide)
    exact⟨CT,.str _,H,I.tok _,⟨_,rfl⟩,q⟩
end L2
namespace M
open PySem PySem.Spec L2
noncomputable def xm:D->D->ak->R D
 | .str cs,.int i,st=>if 0<=i/\i<=1000000/\cs.length*i.toNat<=1000000 then .ok (.str (List.replicate i.toNat cs).flatten) st else .bad
 | _,_,_=>.bad
def Jg:d9 X (binaryOp .Mult) (rM X xm):=by
 refine d9.weak zs7 ?_;rintro x y H Q ⟨μ,st,dx,dy,hs,hx,hy,hp⟩;unfold xm at hp
 split at hp
 ·rename_i cs i
  split at hp
  ·rename_i hc;obtain rfl:=ao.aO.mp hx;obtain rfl:=ao.aF.mp hy;obtain⟨n,rfl⟩:=nR hc.1;rw[mW]at hc hp;exact⟨cs,n,rfl,rfl,by omega,hc.2.2,hp.ret hs (ao.aO.mpr rfl)⟩
  ·exact hp.elim
 ·exact hp.elim
section
variable  {X:Cx}{a b c:Expr}{ma mb mc:ME}{pos:Pos}
end
section
variable  {X:Cx}{pos:Pos}{x:Str}
def znf(hg:Gl X x)(hm:X.mg x=some u)(r:RelV v u)(hv:∀μ H,ao X.K μ H d v)(hd:(x==("__debug__":Str))=false:=by decide):JE X (.Name x pos) (ct d):=by
 refine JE.of (P_ hg hm r hd) fun σ H Q zz=>?_;obtain⟨μ,env,st,hE,hs,hp⟩:=zz;exact hp.ret hs (hv μ H)
def Kh{i:Int}(h:∃t,X.mg x=some (.int i t))(hg:Gl X x:=by rfl)(hd:(x==("__debug__":Str))=false:=by decide):JE X (.Name x pos) (ct (.int i)):=by
 obtain⟨t,h⟩:=h;exact znf (v:=.int i) hg h ⟨t,rfl⟩ (λ_ _=>ao.aF.mpr rfl) hd
def Kg(cs:List Nat)(h:∃t,X.mg x=some (.str y t))(hy:y=strOf cs:=by rfl)(hg:Gl X x:=by rfl)(hd:(x==("__debug__":Str))=false:=by decide):JE X (.Name x pos) (ct (.str cs)):=by
 obtain⟨t,h⟩:=h;exact znf (v:=.str y) hg h ⟨t,rfl⟩ (λ_ _=>ao.aO.mpr (by rw[hy])) hd
end
end M
namespace M
open L2
section
variable  (st:ak)
def Vx(sep:List Nat)(n:Nat)(ts:List (List Nat))(h:aA st n=some (ts.map D.str))(hl:(ts.map List.length).sum+ts.length*sep.length<=1000000):vC (.str sep) [.loc n] st=.ok (.str (vD sep ts)) st:=by
 have e:ie (ts.map D.str)=some ts:=by
  clear h hl
  induction ts with
  | nil=>rfl
  | cons t ts ih=>simp[ie,ih]
 simp only[vC,h,mR,e];rw[ae1 hl,J8]
end
def GP(I:Nat->aJ->ak->Prop)(h0:I 0 env st) 
  (step:∀i d env st,items[i]? = some d->I i env st->uC gs st/\∃env1 st1,g d env st=.ok env1 st1/\∃env2 st2,(b env1 st1=.ok (.nx env2) st2\/b env1 st1=.ok (.cn env2) st2)/\I (i+1) env2 st2)
  (X_:∀env st,I items.length env st->uC gs st):∃cB st',cN g b gs items env st=.ok (.nx cB) st'/\I items.length cB st':=by
 refine Ge (λpre env st=>I pre.length env st) h0 (λpre d post env st e hI=>?_) X_;have:=step pre.length d env st (by rw[e];simp) hI;simpa using this
def Hk(h:(uR lo n)[i]? = some d):i<n/\d=.int (lo+(i:Nat)):=by
 have h2:i<n:=by
  have:=(gf.mp h).1;rwa[zqx]at this
 unfold uR at h;rw[gM,List.getElem?_range h2]at h;exact⟨h2,(ae5 h).symm⟩
def zk7{xs:List D}{i:Nat}{d:D}(h:(dG 0 xs)[i]? = some d):∃x,xs[i]? = some x/\d=.tup [.int i,x]:=by
 rw[zks]at h;cases e:xs[i]? with
 | none=>rw[e]at h;cases h
 | some x =>
  rw[e]at h;simp at h;exact⟨x,rfl,h.symm⟩
def Hc{α:Type}{f:α->D}{xs:List α}{i:Nat}{d:D}(h:(xs.map f)[i]? = some d):∃x,xs[i]? = some x/\d=f x:=by
 rw[gM]at h;cases e:xs[i]? with
 | none=>rw[e]at h;cases h
 | some x=>rw[e]at h;exact⟨x,rfl,(ae5 h).symm⟩
theorem zgk:∀(n:Nat) (env:aJ) (st:ak),bf c b n env st≠.bad->bf c b (n+1) env st=bf c b n env st
 | 0,env,st,h=>absurd (by rw[bf]) h
 | n+1,env,st,h=>by
  rw[bf]at h;rw[bf,bf];cases e:c env st with
  | bad=>rfl
  | err x s=>rfl
  | ok x st1 =>
   rw[e,R.aB]at h;rw[R.aB,R.aB];cases x with
   | false=>rfl
   | true =>
    rw[ae1 rfl]at h ⊢;rw[ae1 rfl];cases e2:b env st1 with
    | bad=>rfl
    | err x s=>rfl
    | ok o st2 =>
     rw[e2,R.aB]at h;rw[R.aB,R.aB];cases o with
     | nx env2=>exact zgk n env2 st2 h
     | cn env2=>exact zgk n env2 st2 h
     | bk env2=>rfl
     | rt d=>rfl
theorem zis(h:bf c b n env st≠.bad):∀k,bf c b (n+k) env st=bf c b n env st
 | 0=>rfl
 | k+1=>by
  have:=zis h k;rw[<-Nat.add_assoc,zgk (n+k) env st (by rw[this];exact h),this]
open Classical in
noncomputable def bj(c:MT)(b:MS):MS:=λenv st=>if h:∃n,bf c b n env st≠.bad then bf c b (Classical.choose h) env st else .bad
def UL(h:bf c b n env st≠.bad):bj c b env st=bf c b n env st:=by
 have hx:∃n,bf c b n env st≠.bad:=⟨n,h⟩;unfold bj;rw[dif_pos hx];have h2:=Classical.choose_spec hx;generalize Classical.choose hx=m at h2 ⊢;by_cases hmn:m<=n
 ·obtain⟨k,rfl⟩:=Nat.le.dest hmn;exact (zis h2 k).symm
 ·obtain⟨k,rfl⟩:=Nat.le.dest (show n<=m by omega);exact zis h k
def DQ:bj c b env st=.bad\/∃n,bj c b env st=bf c b n env st:=by
 unfold bj
 split
 ·exact .inr ⟨_,rfl⟩
 ·exact .inl rfl
theorem wY(c:MT)(b:MS)(env:aJ)(st:ak):bj c b env st=(c env st).bind λx st1=>if x then (b env st1).bind λo st2=>(match o with
   | .nx env2=>bj c b env2 st2
   | .cn env2=>bj c b env2 st2
   | .bk env2=>.ok (.nx env2) st2
   | .rt d=>.ok (.rt d) st2) else .ok (.nx env) st1:=by
 have one:∀n,bf c b (n+1) env st=(c env st).bind λx st1=>if x then (b env st1).bind λo st2=>(match o with
   | .nx env2=>bf c b n env2 st2
   | .cn env2=>bf c b n env2 st2
   | .bk env2=>.ok (.nx env2) st2
   | .rt d=>.ok (.rt d) st2) else .ok (.nx env) st1:=λn=>by rw[bf]<;>rfl
 have bd:(∀n,bf c b (n+1) env st=.bad)->bj c b env st=.bad:=λh=>by
  unfold bj;rw[dif_neg];rintro ⟨n,hn⟩;cases n with
  | zero=>exact hn (by rw[bf])
  | succ n=>exact hn (h n)
 have go:∀(env2:aJ) (st2:ak),(∀n,bf c b (n+1) env st=bf c b n env2 st2)->bj c b env st=bj c b env2 st2:=λenv2 st2 h=>by
  by_cases hx:∃n,bf c b n env2 st2≠.bad
  ·obtain⟨n,hn⟩:=hx;rw[UL hn,<-h n,UL (n:=n+1) (by rw[h n];exact hn)]
  ·have e2:bj c b env2 st2=.bad:=by unfold bj;rw[dif_neg hx]
   rw[e2];refine bd λn=>?_;rw[h n];by_cases q:bf c b n env2 st2=.bad
   ·exact q
   ·exact absurd ⟨n,q⟩ hx
 cases e:c env st with
 | bad=>rw[R.rP];exact bd λn=>by rw[one n,e,R.rP]
 | err x s =>
  rw[R.rO];have:bf c b 1 env st=.err x s:=by rw[one 0,e,R.rO]
  rw[UL (n:=1) (by rw[this];exact λz=>nomatch z),this]
 | ok x st1 =>
  rw[R.aB];cases x with
  | false =>
   have:bf c b 1 env st=.ok (.nx env) st1:=by rw[one 0,e,R.aB];rfl
   rw[UL (n:=1) (by rw[this];exact λz=>nomatch z),this];rfl
  | true =>
   rw[ae1 rfl];cases e2:b env st1 with
   | bad=>rw[R.rP];exact bd λn=>by rw[one n,e,R.aB,ae1 rfl,e2,R.rP]
   | err x s =>
    rw[R.rO];have:bf c b 1 env st=.err x s:=by rw[one 0,e,R.aB,ae1 rfl,e2,R.rO]
    rw[UL (n:=1) (by rw[this];exact λz=>nomatch z),this]
   | ok o st2 =>
    rw[R.aB];cases o with
    | nx env2=>exact go env2 st2 λn=>by rw[one n,e,R.aB,ae1 rfl,e2,R.aB]
    | cn env2=>exact go env2 st2 λn=>by rw[one n,e,R.aB,ae1 rfl,e2,R.aB]
    | bk env2 =>
     have:bf c b 1 env st=.ok (.nx env2) st2:=by rw[one 0,e,R.aB,ae1 rfl,e2,R.aB]
     rw[UL (n:=1) (by rw[this];exact λz=>nomatch z),this]
    | rt d =>
     have:bf c b 1 env st=.ok (.rt d) st2:=by rw[one 0,e,R.aB,ae1 rfl,e2,R.aB]
     rw[UL (n:=1) (by rw[this];exact λz=>nomatch z),this]
noncomputable def OD(c:Nat)(cs:List Nat):List Nat:=(cs.reverse.dropWhile (λx=>decide (x=c))).reverse
def BW(c k:Nat)(st:ak)(h:k<=1000000):xm (.str [c]) (.int k) st=.ok (.str (List.replicate k c)) st:=by
 have e:∀k:Nat,(List.replicate k [c]).flatten=List.replicate k c:=λk=>by
  induction k with
  | zero=>rfl
  | succ k ih=>rw[n_,n_,nQ,ih];rfl
 unfold xm;dsimp only;rw[ae1 (by simp;omega),mW,e]
def Tg(c:Nat):OD c []=[]:=rfl
end M
namespace L2
open PySem PySem.Spec PyProof.Rows
section
variable  {X:Cx}{a b:Expr}{rest:List Expr}{pos:Pos}{ta tb:TE}
end
end L2
namespace M
open PySem PySem.Spec L2
section
variable  {X:Cx}{a b c:Expr}{ma mb mc:ME}{pos:Pos}{rest:List Expr}
def Fp{body:List Stmt}{tc:MT}{mb:MS}(hc:JT X c tc)(hb:zM X body mb)(hp:PassesOwn (model X.prog X.w) X.A X.env X.xe):JS X (.While c body [] pos) (bj tc mb):=by
 rintro pins s σ H D I ⟨μ,env,st,hE,hs,q⟩;rcases DQ (c:=tc) (b:=mb) (env:=env) (st:=st) with e | ⟨n,e⟩
 ·rw[e]at q;exact q.elim
 ·rw[e]at q;exact J4 n hc hb hp pins s σ H D I ⟨μ,env,st,hE,hs,q⟩
end
end M
namespace L2
open PySem PySem.Spec PyProof.Rows PySem.Builtin PySem.Builtin.Str
end L2
namespace M
open PySem PySem.Spec L2
structure YD(K:PySem.W.Frag)(x qual:Str)(st:Stmt)(f:Addr)(fd:FuncData):Prop where
 ex:∃(oc:Value) (od:Option Addr) (dV kV doc pm:Value) (an:Option Addr) (cdv ct:Value) (tH:Array (Option Value)),
  fd=PySem.W.fnOf x qual (bK st) (aX st) (aC st) dV kV doc pm an cdv ct/\K.lookup f=some ⟨oc,od,.func fd,tH⟩/\PySem.W.codeIn K cdv qual=true
 kp:PySem.W.keepIn K (.ref f)=true
section
variable  {P:Program}{w:World}{K:PySem.W.Frag}{mg:Str->Option Value}{base:Heap}
def Yh(F:YD K x qual st f fd)(S:cJ N ps (aC st)) 
  (lU:∀(cdv:Value) (A:Around) (outer:List Env) (s:Shared) (H:Hp),cG k (A.deeper (PyProof.Rows.envOfC qual (aC st) s.heap.objs.size f cdv)) ->
   zM (vX qb P w K mg base N qual (aC st) f cdv A outer s H E0).Jp (aX st) m):bZ P w K mg base qb (k+1) f fd ps (u0 K ps.length (bh N.length m)):=by
 obtain⟨oc,od,dV,kV,doc,pm,an,cdv,ct,tH,rfl,lk,yh⟩:=F.ex;refine La lk yh S (λvs H Q E h=>h.1) λA outer s H vs Q E hr h=>?_;obtain⟨hl,μ,ds,Te,hv,hs,hp⟩:=h;have hb:=lU cdv A outer s H hr;refine⟨_,zK.Jp hb,μ,startM N.length ds,Te,aq.start N hv,hs,?_⟩;unfold bh at hp;cases hr:m (startM N.length ds) Te with
 | bad=>rw[hr]at hp;exact hp.elim
 | err x st1=>rw[hr]at hp;exact hp.elim
 | ok o st1 =>
  rw[hr]at hp;cases o with
  | rt d=>exact hp
  | nx env=>exact fun σ' H' μ' g qp _=>hp .non H' μ' g qp (ao.bC.mpr rfl)
  | bk env=>exact hp.elim
  | cn env=>exact hp.elim
def Rp{x qual:Str}{st:Stmt}{f:Addr}{oc:Value}{od an:Option Addr}{tH:Array (Option Value)}{dV kV doc pm cdv ct:Value}(l:K.lookup f=some ⟨oc,od,.func (PySem.W.fnOf x qual (bK st) (aX st) (aC st) dV kV doc pm an cdv ct),tH⟩)
  (c:PySem.W.codeIn K cdv qual=true) (k:PySem.W.keepIn K (.ref f)=true):YD K x qual st f (PySem.W.fnOf x qual (bK st) (aX st) (aC st) dV kV doc pm an cdv ct):=⟨⟨oc,od,dV,kV,doc,pm,an,cdv,ct,tH,rfl,l,c⟩,k⟩
def Yv{x qual:Str}{st:Stmt}{ps:List Str}{T:Addr}{oc:Value}{od:Option Addr}{d:Value}{n:Nat}{tH:Array (Option Value)}{kV doc pm cdv ct:Value}{an:Option Addr}(l:K.lookup T=some ⟨oc,od,.seq #[d] n,tH⟩)
  (h:∀us:List Value,us.length=ps.length->∃k:Option (Array Value)->Sem (List (Str×Value)),bindArgs (PySem.W.fnOf x qual (bK st) (aX st) (aC st) (.ref T) kV doc pm an cdv ct) ⟨us,[]⟩=seqItems? (.ref T) >>= k/\k (some #[d])=pure (ps.zip us)) :
  Binds K (PySem.W.fnOf x qual (bK st) (aX st) (aC st) (.ref T) kV doc pm an cdv ct) ps []:=λs us hK hl=>by
 rw[gY]at hl ⊢;obtain⟨k,h1,h2⟩:=h us hl;exact BindsTo.of_defaults (T:=T) rfl (hK _ _ l) rfl h1 h2
def R1{x qual:Str}{st:Stmt}{ps:List Str}{T:Addr}{oc:Value}{od:Option Addr}{d:Value}{n:Nat}{tH:Array (Option Value)}{kV doc pm cdv ct:Value}{an:Option Addr}(l:K.lookup T=some ⟨oc,od,.seq #[d] n,tH⟩)
  (h:∀us:List Value,us.length+1=ps.length->∃k:Option (Array Value)->Sem (List (Str×Value)),bindArgs (PySem.W.fnOf x qual (bK st) (aX st) (aC st) (.ref T) kV doc pm an cdv ct) ⟨us,[]⟩=seqItems? (.ref T) >>= k/\k (some #[d])=pure (ps.zip (us++[d]))) :
  Binds K (PySem.W.fnOf x qual (bK st) (aX st) (aC st) (.ref T) kV doc pm an cdv ct) ps [d]:=λs us hK hl=>by
 obtain⟨k,h1,h2⟩:=h us (by simpa using hl);exact BindsTo.of_defaults (T:=T) rfl (hK _ _ l) rfl h1 h2
end
section
variable  {X:Cx}{e:Expr}{es:List Expr}{mA:MA}{pos p:Pos}{x:Str}{k:Nat}{f:Addr}{fd:FuncData}{ps:List Str}{F:FD}{i:Int}
end
def huL(L:Nat){A:Around}{k:Nat}(hr:cG k A)(h:L<=16*k+200):A.units+L<cLine:=by have:=hr.un;omega
end M
namespace M
inductive Tr where
 | lf (s:List Nat) | jn (l r:Tr)
namespace Tr
noncomputable def vG:Tr->Bool
 | .jn (.lf s) _=>s==[83]
 | _=>false
noncomputable def val:Tr->Bool
 | .lf _=>true
 | .jn l r=>val r && (match l with
  | .lf s=>s==[83] || s==[75]
  | .jn _ _=>vG l && val l)
noncomputable def lv:Tr->Nat
 | .lf _=>1
 | .jn l r=>lv l+lv r
noncomputable def dp:Tr->Nat
 | .lf _=>0
 | .jn l r=>max (dp l) (dp r)+1
def U4(s:List Nat)(r:Tr):val (.jn (.lf s) r)=(val r && (s==[83] || s==[75])):=by rw[val]
def UG(a b r:Tr):val (.jn (.jn a b) r)=(val r && (vG (.jn a b) && val (.jn a b))):=by rw[val]
def S8{l r:Tr}(h:val (.jn l r)=true):val l=true/\val r=true:=by
 cases l with
 | lf s=>rw[U4,gB]at h;exact⟨rfl,h.1⟩
 | jn a b=>rw[UG,gB,gB]at h;exact⟨h.2.2,h.1⟩
def Za(t:Tr):dp t<lv t:=by
 induction t with
 | lf s=>simp[dp,lv]
 | jn l r h1 h2=>rw[dp,lv];omega
noncomputable def fG:Tr->Tr->Option Tr
 | .jn (.lf s) b,_=>if s=[75] then some b else none
 | .jn (.jn _ u) v,r=>some (.jn (.jn u r) (.jn v r))
 | .lf _,_=>none
noncomputable def step:Tr->Option Tr
 | .lf _=>none
 | .jn l r=>if val l=false then (step l).map (λx=>.jn x r) else if val r=false then (step r).map (λx=>.jn l x) else if val (.jn l r)=true then none else fG l r
def Uy{t:Tr}(h:val t=true):step t=none:=by
 cases t with
 | lf s=>rw[step]
 | jn l r =>
  obtain⟨h1,h2⟩:=S8 h;rw[step,ae2 (by simp[h1]),ae2 (by simp[h2]),ae1 h]
def zhm{l r:Tr}(h:val l=false):step (.jn l r)=(step l).map (λx=>.jn x r):=by rw[step,ae1 h]
def zf7{l r:Tr}(h1:val l=true)(h:val r=false):step (.jn l r)=(step r).map (λx=>.jn l x):=by rw[step,ae2 (by simp[h1]),ae1 h]
def zfv{l r:Tr}(h1:val l=true)(h2:val r=true)(h:val (.jn l r)=false):step (.jn l r)=fG l r:=by rw[step,ae2 (by simp[h1]),ae2 (by simp[h2]),ae2 (by simp[h])]
noncomputable def run:Nat->Tr->Tr×Nat
 | 0,t=>(t,0)
 | n+1,t=>match step t with
  | none=>(t,0)
  | some u=>((run n u).1,(run n u).2+1)
theorem SX{t:Tr}(h:step t=none):∀n,run n t=(t,0)
 | 0=>rfl
 | n+1=>by rw[run,h]
def zie{t u:Tr}(h:step t=some u)(n:Nat):run (n+1) t=((run n u).1,(run n u).2+1):=by rw[run,h]
def Oz(a b:Nat):∀t,run (a+b) t=((run b (run a t).1).1,(run a t).2+(run b (run a t).1).2):=by
 induction a with
 | zero=>intro t;simp[run]
 | succ a ih =>
  intro t;rw[pM];cases h:step t with
  | none=>rw[SX h,SX h,SX h];rfl
  | some u =>
   rw[zie h,zie h,ih u];simp only;rw[pM]
inductive Fr where
 | fl (r:Tr) | fr (l:Tr)
noncomputable def fill:Fr->Tr->Tr
 | .fl r,t=>.jn t r
 | .fr l,t=>.jn l t
noncomputable def cR(fs:List Fr)(t:Tr):Tr:=fs.foldr fill t
def good(fs:List Fr):Prop:=∀f∈fs,∀l,f=.fr l->val l=true
def zhg(fs:List Fr)(f:Fr)(t:Tr):cR (fs++[f]) t=cR fs (fill f t):=by simp[cR]
def zpl(fs:List Fr)(f:Fr)(t:Tr):cR (f::fs) t=fill f (cR fs t):=rfl
def Lg{f:Fr}{t:Tr}(h:val t=false):val (fill f t)=false:=by
 cases hv:val (fill f t) with
 | false=>rfl
 | true =>
  cases f with
  | fl r=>rw[(S8 hv).1]at h;exact h
  | fr l=>rw[(S8 hv).2]at h;exact h
def Ir{fs:List Fr}{t:Tr}(h:val t=false):val (cR fs t)=false:=by
 induction fs with
 | nil=>exact h
 | cons f fs ih=>exact Lg ih
def Eh{fs:List Fr}{t:Tr}(hg:good fs)(h:val t=false):step (cR fs t)=(step t).map (cR fs):=by
 induction fs with
 | nil=>show step t=_;cases step t<;>rfl
 | cons f fs ih =>
  have ih:=ih λf hf=>hg f (kI _ hf);have hv:=Ir (fs:=fs) h;rw[zpl];cases f with
  | fl r =>
   show step (.jn (cR fs t) r)=_;rw[zhm hv,ih];cases step t<;>rfl
  | fr l =>
   show step (.jn l (cR fs t))=_;rw[zf7 (hg (.fr l) (by simp) l rfl) hv,ih];cases step t<;>rfl
def Pu(fs:List Fr)(t:Tr):fs.length+dp t<=dp (cR fs t):=by
 induction fs with
 | nil=>simp[cR]
 | cons f fs ih =>
  rw[zpl,gw];cases f with
  | fl r=>show _<=dp (.jn (cR fs t) r);rw[dp];omega
  | fr l=>show _<=dp (.jn l (cR fs t));rw[dp];omega
def HY{l r u:Tr}(h:fG l r=some u):dp u<=dp (.jn l r)+1:=by
 cases l with
 | lf s=>rw[fG]at h;cases h
 | jn a b =>
  cases a with
  | lf s =>
   rw[fG]at h
   split at h
   ·cases h;rw[dp,dp];omega
   ·cases h
  | jn a c =>
   rw[fG]at h;cases h;simp only[dp];omega
theorem zpu:∀{t u:Tr},step t=some u->dp u<=dp t+1
 | .lf _,_,h=>by rw[step]at h;cases h
 | .jn l r,u,h=>by
  rw[step]at h
  split at h
  ·cases e:step l with
   | none=>rw[e]at h;cases h
   | some x =>
    rw[e]at h;cases h;have:=zpu e;rw[dp,dp];omega
  ·split at h
   ·cases e:step r with
    | none=>rw[e]at h;cases h
    | some x =>
     rw[e]at h;cases h;have:=zpu e;rw[dp,dp];omega
   ·split at h
    ·cases h
    ·exact HY h
def sk:Tr->Prop
 | .lf s=>s=[83]\/s=[75]
 | .jn l r=>sk l/\sk r
end Tr
open Tr
noncomputable def enc:Tr->D
 | .lf s=>.str s
 | .jn l r=>.tup [enc l,enc r,.int (lv (.jn l r):Nat),.bl (val (.jn l r))]
def zj7(t:Tr):flat (enc t)=true:=by
 induction t with
 | lf s=>simp[enc]
 | jn l r h1 h2=>simp[enc,h1,h2]
def Dc(t:Tr):dep (enc t)=dp t:=by
 induction t with
 | lf s=>simp[enc,dp]
 | jn l r h1 h2=>simp[enc,dp,h1,h2]
def fB(n:Nat)(t:Tr):under n (enc t):=by
 induction t with
 | lf s=>simp[enc]
 | jn l r h1 h2=>simp[enc,h1,h2]
def Nu(L:Nat)(t:Tr)(s:List Nat)(st:ak):jf (L+1) (enc t) (.str s) st=.ok (.bl (match t with | .lf c=>decide (c=s) | .jn _ _=>false)) st:=by
 cases t with
 | lf c=>exact Ie st L c s
 | jn l r =>
  have hf:=zj7 (.jn l r);unfold jf;have:jV (L+1) (enc (.jn l r)) (.str s) st=some false:=by
   rw[enc]at hf ⊢;simp only[jV];rw[ae1 ⟨hf,by simp,by simp⟩];simp[jH]
  rw[this]
def Ny(t:Tr)(st:ak):yF "str" (enc t) st=.ok (.bl (match t with | .lf _=>true | .jn _ _=>false)) st:=by
 cases t with
 | lf s=>rw[enc];simp[jc]
 | jn l r=>rw[enc];simp[jc]
def Lp(t:Tr)(st:ak):cg (enc t) .non st=.ok (.bl false) st:=by
 cases t with
 | lf s=>rfl
 | jn l r=>rfl
end M
namespace M
open PySem PySem.Spec L2 PyProof.Rows
end M
namespace M
open L2
noncomputable def dj:D->List D->ak->R D
 | .loc n,[],st=>match st[n]? with
  | some (.lst a)=>.ok .non (st.set n (.lst a.reverse))
  | _=>.bad
 | _,_,_=>.bad
end M
namespace M
open PySem PySem.Spec L2
section
variable  {X:Cx}
def zqf:rY X "list.reverse" (GX X dj):=by
 refine rY.weak zty ?_;rintro x xs H Q ⟨μ,st,d,ds,hs,hx,lR,hp⟩;unfold dj at hp
 split at hp
 ·rename_i n
  split at hp
  ·rename_i a e1;obtain⟨p,q1,rfl⟩:=ao.aG.mp hx;rw[aq]at lR;obtain⟨p',ys,r1,r2,r3⟩:=hs.lst e1;rw[q1]at r1;cases r1;obtain⟨g,qp⟩:=xR hs e1 q1 r2 r3.reverse;exact⟨p,ys,rfl,lR,r2,hp _ _ μ g qp (ao.bC.mpr rfl)⟩
  ·exact hp.elim
 ·exact hp.elim
def bZ.never{P:Program}{w:World}{K:PySem.W.Frag}{mg:Str->Option Value}{base:Heap}{k n:Nat}{f:Addr}{fd:FuncData}{ps:List Str}(h:n=ps.length:=by rfl):bZ P w K mg base qb k f fd ps (u0 K n λ_ _=>.bad) :=
 ⟨λvs H Q E q=>q.1.trans h,λA outer s H args us vs Q E hr he hb hv hs=>by
  obtain⟨_,_,_,_,_,_,hp⟩:=hs;exact hp.elim⟩
end
section
variable  {X:Cx}{pos p:Pos}{x:Str}{k:Nat}{f:Addr}{fd:FuncData}{F:FD}
def Ko(G:bZ X.prog X.w X.K X.mg X.base qb k f fd [] (u0 X.K 0 F))(hr:cG k X.A)(hm:X.mg x=some (.ref f))(hk:PySem.W.keepIn X.K (.ref f)=true)(hb:Binds X.K fd [] [])(hg:Gl X x:=by rfl)(q9:(x==("__debug__":Str))=false:=by decide) :
  JE X (.Call (.Name x p) [] [] pos) (az F [] au):=by
 refine JE.of (Jd G hr hg hm hk hb .nil Ce q9) fun σ H Q zz=>?_;obtain⟨μ,env,st,hE,hs,hp⟩:=zz;refine⟨rfl,μ,[],st,aq.nil,hs,?_⟩;have dw:bF X μ H (lM X) Q (F ([]++[]) st).sure:=hp;rw[gY]at dw;cases hF:F [] st with
 | ok d st2=>rw[hF]at dw;exact dw
 | err y st2=>rw[hF]at dw;exact dw.elim
 | bad=>rw[hF]at dw;exact dw.elim
end
end M
namespace L2
open PySem PySem.Spec PyProof.Rows
noncomputable def d7(L:List (Addr×Obj))(H:Hp):Hp:=λb=>match L.lookup b with | some o=>some (.frz o (.own 0)) | none=>H b
noncomputable def dB(L:List (Addr×Obj))(H:Hp):Hp:=λb=>match L.lookup b with | some _=>none | none=>H b
def zlq(h:L.lookup b=some o):d7 L H b=some (.frz o (.own 0)):=by unfold d7;rw[h]
def xF(h:L.lookup b=none):d7 L H b=H b:=by unfold d7;rw[h]
def zlz(h:L.lookup b=some o):dB L H b=none:=by unfold dB;rw[h]
def Dw(h:L.lookup b=none):dB L H b=H b:=by unfold dB;rw[h]
def GJ(h:d7 L H b=some u):(∃o,L.lookup b=some o/\u=.frz o (.own 0))\/(L.lookup b=none/\H b=some u):=by
 unfold d7 at h;cases e:L.lookup b with
 | some o=>rw[e]at h;cases h;exact .inl ⟨o,rfl,rfl⟩
 | none=>rw[e]at h;exact .inr ⟨rfl,h⟩
def Gj(h:dB L H b=some u):L.lookup b=none/\H b=some u:=by
 unfold dB at h;cases e:L.lookup b with
 | some o=>rw[e]at h;cases h
 | none=>rw[e]at h;exact⟨rfl,h⟩
section
variable  {P:Program}{w:World}{H H':Hp}{h h':Heap}{L:List (Addr×Obj)}
def lC.d7(x:lC P w H h)(n:∀b o,L.lookup b=some o->H b=none)(k:∀b o,L.lookup b=some o->h.get? b=some o):lC P w (d7 L H) h:=λa u e=>by
 have up:∀b v,H b=some v->L2.d7 L H b=some v:=λb v q=>by
  cases z:L.lookup b with
  | some o=>rw[n b o z]at q;cases q
  | none=>rw[xF z];exact q
 rcases GJ e with⟨o,e1,rfl⟩ | ⟨e1,e2⟩
 ·exact⟨k a o e1,o,k a o e1⟩
 ·exact (x a u e2).uB (λ_ _ _ q=>q) (λb q=>up b _ q) λb xs q=>up b _ q
def lC.dB(x:lC P w H h)(n:∀b o,L.lookup b=some o->∃o',H b=some (.frz o' (.own 0))):lC P w (dB L H) h:=λa u e=>by
 have up:∀b v,H b=some v->(∀o',v≠.frz o' (.own 0))->L2.dB L H b=some v:=λb v q z=>by
  cases y:L.lookup b with
  | some o =>
   obtain⟨o',e'⟩:=n b o y;rw[e']at q;exact absurd (ae5 q).symm (z o')
  | none=>rw[Dw y];exact q
 obtain⟨_,e2⟩:=Gj e;exact (x a u e2).uB (λ_ _ _ q=>q) (λb q=>up b _ q λ_ z=>nomatch z) λb xs q=>up b _ q λ_ z=>nomatch z
end
section
variable  {X:Cx}{k:Nat}{f:Addr}{fd:FuncData}{ps:List Str}{sp:Sp}{lZ:List V}{ds:List Value}{pins:List (Addr×Obj)}{σ:St}{H:Hp}{s:Shared}{Q:VK}{us:List Value}{vs:List V}
def Ox(F:bZ X.prog X.w X.K X.mg X.base qb k f fd ps sp)(hr:cG k X.A)(hb:Binds X.K fd ps ds)(hd:Vals lZ ds)(I:Inv X pins σ H s) 
  (hL:∀b o,L.lookup b=some o->s.heap.get? b=some o/\∃x,X.env.cells.lookup x=some b/\X.fn x=true)
  (r:Vals vs us) (h:sp (vs++lZ) (d7 L H) (λv H'=>Q v (dB L H')) E0):wpAny (model X.prog X.w) X.A (call (.ref f) us) (EP X pins σ Q) X.xe s:=by
 have r2:Vals (vs++lZ) (us++ds):=r.append hd;have hl:(us++ds).length=ps.length:=by rw[<-r2.length];exact F.len _ _ _ _ h
 have nL:∀b o,L.lookup b=some o->H b=none:=λb o e=>let ⟨_,x,hx,_⟩:=hL b o e;I.jE x b hx;have e0:=I.Rt;have e1:yz X.prog X.w X.K X.mg X.base X.A X.stack s (d7 L H):=by
  refine⟨e0.frames,e0.mod,λb o e=>⟨(e0.bs b o e).1,?_⟩,e0.Gy,e0.oV,λb oU=>?_,I.bJ.d7 nL λb o e=>(hL b o e).1,e0.bare⟩
  ·cases z:L.lookup b with
   | none=>rw[xF z];exact (e0.bs b o e).2
   | some o' =>
    obtain⟨_,x,hx,hf⟩:=hL b o' z;have h1:=I.ok.Uo x b hf hx;exact absurd (gQ (gr e) (kh I.ok.Gy h1)) (mH _)
  ·cases z:L.lookup b with
   | none=>rw[xF z];exact e0.K8 b oU
   | some o' =>
    obtain⟨_,x,hx,hf⟩:=hL b o' z;rcases gq.mp (I.uZ b oU) with q | q
    ·exact absurd q (I.Um x b hx)
    ·have h1:=I.ok.Uo x b hf hx;obtain⟨_,o2,KN,_⟩:=I.ok.oV.mem q;exact absurd (gQ (gr KN) h1) (mH _)
 refine wpAny_call (afF (F.run X.A X.stack s (d7 L H) ⟨us,[]⟩ (us++ds) (vs++lZ) _ E0 hr e1 (hb s us I.oJ hl) r2 h) λr s' hq=>?_);cases r with
 | error e=>exact False.elim hq
 | ok fl =>
  cases fl with
  | ret u =>
   obtain⟨v,H',os,bare,un,bJ,rv,q⟩:=hq;obtain⟨hh,g,d,t,ZF⟩:=s';obtain rfl:ZF=s.os:=os;have kept:∀b o,L.lookup b=some o->H' b=some (.frz o (.own 0)):=λb o e=>un.tu b o (.own 0) (zlq e);have un':Un (CZ X.stack) [] H (dB L H') s.heap hh:=by
    refine⟨λb o e n hb hx=>?_,λb o e n hb hx=>?_,λb o e n hx=>?_,un.there,λb xs e=>?_,λb o u e=>?_,λb ps e=>?_⟩
    ·cases z:L.lookup b with
     | none=>exact un.keep b o e (by rw[xF z];exact n) hb hx
     | some o' =>
      have e2:=(hL b o' z).1;rw[e]at e2;cases e2;exact (bJ b _ (kept b o z)).1
    ·cases z:L.lookup b with
     | none=>exact un.slot b o e (by rw[xF z];exact n) hb hx
     | some o' =>
      have e2:=(hL b o' z).1;rw[e]at e2;cases e2;exact⟨o.slots,(bJ b _ (kept b o z)).1⟩
    ·cases z:L.lookup b with
     | none=>rw[Dw z];exact un.free b o e (by rw[xF z];exact n) hx
     | some o'=>exact zlz z
    ·have z:L.lookup b=none:=by
      cases z:L.lookup b with
      | none=>rfl
      | some o'=>rw[nL b o' z]at e;cases e
     rw[Dw z];exact un.uU b xs (by rw[xF z];exact e)
    ·have z:L.lookup b=none:=by
      cases z:L.lookup b with
      | none=>rfl
      | some o'=>rw[nL b o' z]at e;cases e
     rw[Dw z];exact un.tu b o u (by rw[xF z];exact e)
    ·have z:L.lookup b=none:=by
      cases z:L.lookup b with
      | none=>rfl
      | some o'=>rw[nL b o' z]at e;cases e
     rw[Dw z];exact un.uw b ps (by rw[xF z];exact e)
   exact⟨v,dB L H',I.call (h':=hh) (g':=g) (d':=d) (t':=t) (ch:=[]) un' (bJ.dB λb o e=>⟨o,kept b o e⟩) bare (λb z=>absurd z (by simp)),rv,q⟩
  | next=>exact False.elim hq
  | brk=>exact False.elim hq
  | cont=>exact False.elim hq
end
def BMain(mg:Str->Option Value)(base:Heap):Prop :=
 ∃bm o,mg "__builtins__" = some (.ref bm)/\bm≠builtinsNs/\bm≠mainGlobals/\base.get? bm=some o/\o.cls=.type "module"/\o.dict=some builtinsNs/\o.data=.plain
def ab7(H:Hp)(P:Addr)(q:Str):Prop:=∃ps:Array Value,H P=some (.tbl ps)/\TriplesOk ps.toList/\∀pos cv,codeAmong pos ps.toList=some cv->∃c',cv=.ref c'/\M.rR H c' q
structure v7(H H':Hp)(P f c':Addr)(q:Str)(ob:Obj):Prop where
 new:H' f=some (.frz ob (.own 0))
 nf:H f=none
 code:M.rR H' c' q
 tab:ab7 H' P q
 same:∀b u,b≠P->H b=some u->H' b=some u
noncomputable def acI(P:Addr)(q:Str)(params:Arguments)(body:Expr)(scope:Scope)(clos:List (Str×Addr)):TE:=fun σ H Q=>ab7 H P q /\
 ∀f c' pm rH H',v7 H H' P f c' q (PySem.W.kla_obj "<lambda>" q params body scope clos pm c' rH)->Q (.ref f) H'
def zlk(ht:TriplesOk l)(hn:codeAmong pos l=none)(h:codeAmong pos' (l++[rawInt pos.line,rawInt pos.col,c])=some cv):codeAmong pos' l=some cv\/cv=c:=by
 clear hn
 fun_induction TriplesOk l with
 | case1 =>
  simp only[mD,codeAmong,rawInt]at h
  split at h
  ·cases h;exact .inr rfl
  ·cases h
 | case2 a t b u x rest ih =>
  simp only[nO,codeAmong]at h ⊢
  split at h
  ·rename_i hc;rw[ae1 hc];exact .inl h
  ·rename_i hc;rw[ae2 hc];exact ih ht h
 | case3 l h1 h2=>exact ht.elim
section
variable  {X:Cx}{P c:Addr}{q:Str}{params:Arguments}{body:Expr}{scope:Scope}{clos:List (Str×Addr)}{pos:Pos}
def V_(hB:BMain X.mg X.base)(hc:X.env.code=.ref c)(hh:PySem.W.codeHdIn X.K c P=true)(hq:X.env.qual ++ "<lambda>" = q)(uE:closureFor scope X.env=pure clos)(Yb:defaultsOf params X.env=([],[]):=by rfl) :
  PE X (.Lambda params body scope pos) (acI P q params body scope clos):=by
 rintro pins s σ H Q I ⟨⟨ps,hP,ht,Az⟩,h⟩;refine PySem.W.kla_eval Yb ?_;rw[hq];have oP:s.heap.get? P=some (PySem.W.tabObj ps):=I.bJ P _ hP;have hg:s.heap.Ns mainGlobals X.mg:=I.mod.glob.keeps I.bk;have CH:PySem.W.CodeHd s.heap c P:=PySem.W.codeHd_of_K I.oJ hh;have hgP:mainGlobals≠P:=λz=>by
  obtain⟨o,es,ep,e,d,_⟩:=hg;rw[z,oP]at e;cases e;cases d
 have hb:s.heap.BuiltinsAt X.mg P:=by
  obtain⟨bm,o,b1,b2,b3,b4,b5,b6,b7⟩:=hB;have e:=I.bk bm o b4;refine⟨bm,o,b1,b2,b3,λz=>?_,e,b5,b6,b7⟩;rw[z,oP]at e;cases e;cases b7
 have hLP:X.env.locals≠P:=λz=>by have:=I.free;rw[z,hP]at this;cases this
 cases hca:codeAmong pos ps.toList with
 | none =>
  refine PySem.W.kla_makeFunction (mg:=X.mg) uE I.ok.glob hg hc CH oP ht hca hgP hb λc' rH h' tk hx hge zY adQ htb=>?_;obtain⟨c2,oc,vs,t,e2,hoc,hd,hv⟩:=adQ;cases e2;have hsz:s.heap.objs.size<=h'.objs.size:=kh hge (Nat.le_of_lt zY);have nc:H c'=none:=I.bJ.fresh hge;have nf:H h'.objs.size=none:=I.bJ.fresh hsz;have cf:c'≠h'.objs.size:=gR zY;have cP:c'≠P:=λz=>by rw[z,hP]at nc;cases nc
  have fP:h'.objs.size≠P:=λz=>by rw[z,hP]at nf;cases nf
  let ob:Obj:=PySem.W.kla_obj "<lambda>" q params body scope clos ((X.mg "__name__").getD .none) c' rH
  let ps':Array Value:=ps++#[rawInt pos.line,rawInt pos.col,.ref c']
  let H1:Hp:=upd H P (.tbl ps')
  let H2:Hp:=upd H1 c' (.frz oc (.own 0))
  let H':Hp:=upd H2 h'.objs.size (.frz ob (.own 0))
  have s1:∀b u,b≠P->H b=some u->H' b=some u:=λb u Rm e=>by
   have n1:b≠h'.objs.size:=z7 e nf;have n2:b≠c':=z7 e nc;show upd H2 h'.objs.size _ b=_;rw[iz n1];show upd H1 c' _ b=_;rw[iz n2];show upd H P _ b=_;rw[iz Rm];exact e
  have atP:H' P=some (.tbl ps'):=by
   show upd H2 h'.objs.size _ P=_;rw[iz (afb fP)];show upd H1 c' _ P=_;rw[iz (afb cP)];exact rW
  have atc:H' c'=some (.frz oc (.own 0)):=by
   show upd H2 h'.objs.size _ c'=_;rw[iz cf];exact rW
  have atf:H' h'.objs.size=some (.frz ob (.own 0)):=rW;have back:∀b u,H' b=some u->b=h'.objs.size\/b=c'\/b=P\/(b≠P/\H b=some u):=λb u e=>by
   by_cases n1:b=h'.objs.size
   ·exact .inl n1
   by_cases n2:b=c'
   ·exact .inr (.inl n2)
   by_cases n3:b=P
   ·exact .inr (.inr (.inl n3))
   ·refine .inr (.inr (.inr ⟨n3,?_⟩));have e:upd H2 h'.objs.size _ b=some u:=e;rw[iz n1]at e;have e:upd H1 c' _ b=some u:=e;rw[iz n2]at e;have e:upd H P _ b=some u:=e;rw[iz n3]at e;exact e
  have kp:∀b o,b≠P->s.heap.get? b=some o->(h'.push ob).get? b=some o:=λb o Rm e=>g8 _ (hx b o Rm e);have ext:M.Ext H H':=⟨λb xs e=>s1 b _ (λz=>by rw[z,hP]at e;cases e) e,λb o u e=>s1 b _ (λz=>by rw[z,hP]at e;cases e) e⟩;have new:v7 H H' P h'.objs.size c' q ob:=by
   refine⟨atf,nf,⟨oc,vs,t,atc,hd,hv⟩,⟨ps',atP,?_,λpos' cv e=>?_⟩,s1⟩
   ·show TriplesOk (ps++#[rawInt pos.line,rawInt pos.col,Value.ref c']).toList;rw[Array.toList_append];exact TriplesOk_snoc _ _ _ _ ht
   ·have e':codeAmong pos' (ps.toList++[rawInt pos.line,rawInt pos.col,Value.ref c'])=some cv:=by
     rw[<-Array.toList_append];exact e
    rcases zlk ht hca e' with e1 | e1
    ·obtain⟨c2,q1,q2⟩:=Az pos' cv e1;exact⟨c2,q1,q2.ext ext⟩
    ·exact⟨c',e1,⟨oc,vs,t,atc,hd,hv⟩⟩
  refine⟨.ref h'.objs.size,H',?_,rfl,h _ _ _ _ _ new⟩;have nP:∀b,H b=none->b≠P:=λb n z=>by rw[z,hP]at n;cases n
  refine I.step (g':=s.gens) (d':=s.drawn) (ch:=[]) (λ_ z=>nomatch z) (λb o _ _ _ e n=>kp b o (nP b n) e) (λb o _ _ _ e n=>⟨o.slots,kp b o (nP b n) e⟩) (λb o _ e n=>?_) (λb o _ e=>?_)
   (λb xs e=>ext.tup b xs e) (λb o u e=>ext.frz b o u e) (λb ps2 e=>?_) (λm hm=>(hm.extBut hx hLP).push _) (λb u e=>?_) I.bare
  ·cases z:H' b with
   | none=>rfl
   | some u =>
    have lt:=gr e;rcases back b u z with z1 | z1 | z1 | ⟨_,z1⟩
    ·rw[z1]at lt;exact absurd (gQ lt hsz) (mH _)
    ·rw[z1]at lt;exact absurd (gQ lt hge) (mH _)
    ·exact absurd z1 (nP b n)
    ·rw[n]at z1;cases z1
  ·by_cases Rm:b=P
   ·subst Rm;exact⟨_,g8 _ htb⟩
   ·exact⟨o,kp b o Rm e⟩
  ·by_cases Rm:b=P
   ·subst Rm;rw[hP]at e;cases e;exact⟨_,atP⟩
   ·exact⟨#[],by rw[s1 b _ Rm e];simp⟩
  ·rcases back b u e with z1 | z1 | z1 | ⟨z0,z1⟩
   ·subst z1;rw[atf]at e;cases e;exact⟨gU _ rfl,ob,gU _ rfl⟩
   ·subst z1;rw[atc]at e;cases e;exact⟨g8 _ hoc,oc,g8 _ hoc⟩
   ·subst z1;rw[atP]at e;cases e;exact g8 _ htb
   ·have Jq:∀b2 u2,H b2=some u2->(∀ps2,u2≠.tbl ps2)->H' b2=some u2:=λb2 u2 q z=>s1 b2 u2 (λy=>by rw[y,hP]at q;exact z _ (ae5 q).symm) q;refine (I.bJ b u z1).uB (λc2 v hc q=>kp c2 v ?_ q) (λc2 q=>Jq c2 _ q λ_ z=>nomatch z) λc2 xs q=>Jq c2 _ q λ_ z=>nomatch z;rcases hc with y | y
    ·rw[y];exact z0
    ·exact λy2=>by rw[y2,hP]at y;cases y
 | some cv =>
  obtain⟨c',rfl,zf⟩:=Az pos cv hca;refine PySem.W.kla_makeFunctionHit (mg:=X.mg) uE I.ok.glob hg hc CH oP ht hca hb λrH h' tk hk hsz=>?_;have nf:H h'.objs.size=none:=I.bJ.fresh hsz
  let ob:Obj:=PySem.W.kla_obj "<lambda>" q params body scope clos ((X.mg "__name__").getD .none) c' rH
  have kp:∀b o,s.heap.get? b=some o->(h'.push ob).get? b=some o:=λb o e=>g8 _ (hk b o e);have s1:∀b u,H b=some u->upd H h'.objs.size (.frz ob (.own 0)) b=some u:=λb u e=>by rw[iz (z7 e nf)];exact e
  have ext:M.Ext H (upd H h'.objs.size (.frz ob (.own 0))):=⟨λb xs e=>s1 b _ e,λb o u e=>s1 b _ e⟩;refine⟨.ref h'.objs.size,upd H h'.objs.size (.frz ob (.own 0)),I.laid (t':=tk) kp (by exact hsz) ⟨gU _ rfl,ob,gU _ rfl⟩,rfl,h _ c' _ _ _ ⟨rW,nf,zf.ext ext,⟨ps,s1 _ _ hP,ht,λpos' cv e=>?_⟩,λb u _ e=>s1 b u e⟩⟩;obtain⟨c2,q1,q2⟩:=Az pos' cv e;exact⟨c2,q1,q2.ext ext⟩
end
def zme{cl:List (Str×Addr)}(nd:(cl.map (·.2)).Nodup){x y:Str}{c:Addr}(h1:cl.lookup x=some c)(h2:cl.lookup y=some c):x=y:=by
 induction cl with
 | nil=>cases h1
 | cons p cl ih =>
  obtain⟨z,d⟩:=p;rw[gm,mK]at nd;have mem:∀w,cl.lookup w=some c->c∈cl.map (·.2):=λw e=>gj.mpr ⟨(w,c),ae7 e,rfl⟩;rw[kj]at h1 h2;by_cases e1:(x==z)=true
  ·simp only[e1]at h1;cases h1;by_cases e2:(y==z)=true
   ·rw[eq_of_beq e1,eq_of_beq e2]
   ·simp only[show (y==z)=false by simpa using e2]at h2;exact absurd (mem y h2) nd.1
  ·simp only[show (x==z)=false by simpa using e1]at h1;by_cases e2:(y==z)=true
   ·simp only[e2]at h2;cases h2;exact absurd (mem x h1) nd.1
   ·simp only[show (y==z)=false by simpa using e2]at h2;exact ih nd.2 h1 h2
def Fe{β:Type}{cl:List (Str×β)}{x:Str}(h:x∈cl.map (·.1)):∃c,cl.lookup x=some c:=by
 induction cl with
 | nil=>cases h
 | cons p cl ih =>
  rw[kj];by_cases e:(x==p.1)=true
  ·simp only[e];exact⟨_,rfl⟩
  ·simp only[show (x==p.1)=false by simpa using e];refine ih ?_;rcases gq.mp h with z | z
   ·rw[z]at e;simp at e
   ·exact z
def lookup_mem{β:Type}{l:List (Str×β)}{x:Str}{u:β}(nd:(l.map (·.1)).Nodup)(h:(x,u)∈l):l.lookup x=some u:=by
 induction l with
 | nil=>cases h
 | cons p l ih =>
  rw[gm,mK]at nd;rw[kj];rcases gq.mp h with z | z
  ·subst z;simp
  ·have:(x==p.1)=false:=by
    have hx:x∈l.map (·.1):=gj.mpr ⟨(x,u),z,rfl⟩;have:x≠p.1:=λy=>nd.1 (y ▸ hx);simpa using this
   simp only[this];exact ih nd.2 z
theorem zlr:∀{cl:List (Str×Addr)} {vs:List V},M.eQ H cl vs->(cl.map (·.2)).Nodup->∃L:List (Addr×Obj),(∀b o,L.lookup b=some o->H b=some (.frz o (.own 0))/\∃u,o.data=.cell (some u)) /\
  (∀(i:Nat) (x:Str) (c:Addr),cl[i]? = some (x,c)->∃v o u,vs[i]? = some v/\L.lookup c=some o/\o.data=.cell (some u)/\RelV v u)/\vs.length=cl.length
 | [],vs,h,_=>by
  have h:vs=[]:=h;subst h;exact⟨[],λb o e=>by simp at e,λi x c e=>by simp at e,rfl⟩
 | (x,c)::cl,_,⟨v,r,o,u,rfl,h2,h3,h4,h5⟩,nd=>by
  rw[gm,mK]at nd;obtain⟨L,G8,hL2,hlen⟩:=zlr h5 nd.2;refine⟨(c,o)::L,λb o' e=>?_,λi y d e=>?_,by simp[hlen]⟩
  ·rw[kj]at e;by_cases hb:(b==c)=true
   ·simp only[hb]at e;cases e;rw[eq_of_beq hb];exact⟨h2,u,h3⟩
   ·simp only[show (b==c)=false by simpa using hb]at e;exact G8 b o' e
  ·cases i with
   | zero =>
    simp at e;obtain⟨rfl,rfl⟩:=e;exact⟨v,o,u,rfl,by rw[kj];simp,h3,h4⟩
   | succ i =>
    have e:cl[i]? = some (y,d):=by simpa using e
    obtain⟨v',o',u',q1,q2,q3,q4⟩:=hL2 i y d e;have hd:(d==c)=false:=by
     have:d∈cl.map (·.2):=gj.mpr ⟨(y,d),gW e,rfl⟩;have:d≠c:=λz=>nd.1 (z ▸ this);simpa using this
    exact⟨v',o',u',by simpa using q1,by rw[kj];simp only[hd];exact q2,q3,q4⟩
structure zL(cn ps:List Str)(sc:Scope):Prop where
 kind:sc.kind=.function
 co:sc.isCoroutine=false
 gen:sc.isGenerator=false
 nd:(cn++ps).Nodup
 free:∀y∈sc.names,y.2=.free->y.1∈cn
 Js:∀y∈sc.names,y.2≠.cell
 Xq:∀x∈cn,sc.names.lookup x=some .free
 par:∀x∈ps,sc.names.lookup x=some .local
noncomputable def Cv(P:Program)(w:World)(K:PySem.W.Frag)(mg:Str->Option Value)(base:Heap)(N:List Str)(qual:Str)(scope:Scope)(f:Addr)(cd:Value)(cl:List (Str×Addr))(A:Around)(outer:List Env)(s:Shared)(H:Hp):Cx where
 prog:=P
 w:=w
 K:=K
 mg:=mg
 base:=base
 A:=A.deeper (PySem.W.envX qual scope s.heap.objs.size f cd cl)
 N:=N
 aeR:=s
 aeZ:=H
 env:=PySem.W.envX qual scope s.heap.objs.size f cd cl
 outer:=outer
 stack:=PySem.W.envX qual scope s.heap.objs.size f cd cl::outer
 ex:=[]
 calm:=true
 fn:=λ_=>false
 pn:=[]
 xe:=λ_ _=>False
section
variable  {P:Program}{w:World}{K:PySem.W.Frag}{mg:Str->Option Value}{base:Heap}{A:Around}{outer:List Env}{s:Shared}{H:Hp}{qual:Str}{params:Arguments}{body:Expr}{scope:Scope}{cl:List (Str×Addr)}{pm rH:Value}{c' f:Addr}{k:Nat}
 {cn ps:List Str} {us:List Value} {vs M_:List V} {Q:VK} {t:TE}
def Qz(e0:yz P w K mg base A outer s H)(hr:cG (k+1) A)(S:zL cn ps scope)(hf:H f=some (.frz (PySem.W.kla_obj "<lambda>" qual params body scope cl pm c' rH) (.own 0)))(zf:M.rR H c' qual)
  (T9:cl.map (·.1)=cn) (zX:(cl.map (·.2)).Nodup) (yg:M.eQ H cl M_) (hb:bindArgs (PySem.W.kla_fn "<lambda>" qual params body scope cl pm (.ref c') rH) ⟨us,[]⟩=pure (ps.zip us)) (hl:us.length=ps.length) (r:Vals vs us)
  (lU:∀L:List (Addr×Obj),(∀b o,L.lookup b=some o->H b=some (.frz o (.own 0))/\∃u,o.data=.cell (some u))->∃t,PE (Cv P w K mg base (cn++ps) qual scope f (.ref c') cl A outer s (dB L H)) body t/\t ((M_++vs).map some) (dB L H) λv H'=>(∀b o,L.lookup b=some o->H' b=none)->Q v (d7 L H')) :
  codeAny (model P w) A (.call (.ref f) ⟨us,[]⟩) (CR qb outer P w H s Q E0) s:=by
 obtain⟨L,G8,hL2,T5⟩:=zlr yg zX;obtain⟨t,hPE,ht⟩:=lU L G8;have of:=(e0.bJ f _ hf).1;obtain⟨oc,cvs,ct,hc1,Rk,hc3⟩:=zf;have occ:=(e0.bJ c' _ hc1).1;have lim:s.heap.NoLimit:=e0.mod.nolimit.keeps λb o e=>(e0.bs b o e).1;have cellIn:∀x c,cl.lookup x=some c->∃i,cl[i]? = some (x,c):=λx c e=>by
  obtain⟨i,hi,e2⟩:=List.getElem_of_mem (ae7 e);exact⟨i,by rw[gK hi,e2]⟩
 have abT:∀x c,cl.lookup x=some c->∃o,L.lookup c=some o:=λx c e=>by
  obtain⟨i,hi⟩:=cellIn x c e;obtain⟨_,o,_,_,q,_⟩:=hL2 i x c hi;exact⟨o,q⟩
 have abw:lC P w (dB L H) s.heap:=e0.bJ.dB λb o e=>⟨o,(G8 b o e).1⟩;refine PySem.W.kla_callFunE hr.depth of rfl S.co S.gen rfl ⟨c',oc,cvs,ct,rfl,occ,Rk,hc3⟩ ?_;rw[hb];have adW:∀x∈ps.zip us,scope.names.lookup x.1=some .local:=λ⟨n,v⟩ hy=>S.par n (nj hy).1;refine ae3 (wpAny_newFunctionEnv S.Js adW (λaeY FP Z5=>⟨lim.fresh _ Z5,?_⟩) S.kind);have acq:∀b o,s.heap.get? b=some o->aeY.get? b=some o:=λb o e=>Z5.extBut b o (gR (gr e)) (g8 _ e);show codeAny _ _ (.expr body (PySem.W.envX qual scope s.heap.objs.size f (.ref c') cl)) _ _;have Qt:∀b:Addr,b∉(Cv P w K mg base (cn++ps) qual scope f (.ref c') cl A outer s (dB L H)).ex:=λb z=>absurd (show b∈([]:List Addr) from z) (by simp);have zy:∀b,H b=none->dB L H b=none:=λb n=>by
  cases z:L.lookup b with
  | some o=>exact zlz z
  | none=>rw[Dw z];exact n
 have I:Inv (Cv P w K mg base (cn++ps) qual scope f (.ref c') cl A outer s (dB L H)) [] ((M_++vs).map some) (dB L H) { s with heap:=aeY,toks:=s.toks+(ps.zip us).length }:=by
  refine⟨⟨e0.mod,S.kind,rfl,rfl,gb _,λy z c h1 h2=>zme zX h1 h2,λy hy=>?_,λy c z _=>(by cases z),λ_=>hr.hd,Around.frames_deeper e0.frames,.inr ⟨rfl,rfl⟩,λb z=>absurd z (Qt b),λb o e=>⟨(e0.bs b o e).1,zy b (e0.bs b o e).2⟩,e0.Gy,λb _ _=>Qt b,λb z=>absurd z (Qt b),e0.oV,λb oU=>zy b (e0.K8 b oU)⟩,
   rfl,e0.bare,Un.kept acq,⟨_,FP,λi y v h1 h2 h3=>?_⟩,λy c h=>?_,abw.fresh (gb _),λy c h=>?_,λp hp=>absurd (show p∈([]:List (Addr×Obj)) from hp) (by simp),abw.kept acq,?_⟩
  ·have hy:scope.names.lookup y=some .cell\/scope.names.lookup y=some .free:=hy;rcases hy with hy | hy
   ·exact absurd rfl (S.Js _ (ae7 hy))
   ·have hm:=S.free _ (ae7 hy) rfl;rw[<-T9]at hm;obtain⟨p,hp,rfl⟩:=gj.mp hm;exact Fe (gj.mpr ⟨p,hp,rfl⟩)
  ·have ndc:(cl.map (·.1)).Nodup:=by rw[T9];exact (List.nodup_append.mp S.nd).1
   have ndp:ps.Nodup:=(List.nodup_append.mp S.nd).2.1;have uE:cn.length=cl.length:=by rw[<-T9,gh]
   have h2:(M_++vs)[i]? = some v:=by
    rw[gM]at h2;cases q:(M_++vs)[i]? with
    | none=>rw[q]at h2;cases h2
    | some v'=>rw[q]at h2;cases h2;rfl
   have h1:(cn++ps)[i]? = some y:=h1;by_cases hi:i<cn.length
   ·rw[gF hi]at h1;rw[gF (by rw[T5,<-uE];exact hi)]at h2;have hci:i<cl.length:=by omega
    have ec:cl[i]? = some (y,(cl[i]).2):=by
     rw[gK hci];have:(cl.map (·.1))[i]? = some y:=by rw[T9];exact h1
     rw[gM,gK hci]at this;have e:cl[i].1=y:=ae5 this;rw[<-e]
    obtain⟨v',o,u,q1,q2,q3,q4⟩:=hL2 i y _ ec;rw[h2]at q1;cases q1;refine⟨u,q4,.inr ⟨.inr (S.Xq y (gW h1)),_,lookup_mem ndc (gW ec),o,acq _ _ (e0.bJ _ _ (G8 _ o q2).1).1,q3⟩⟩
   ·rw[g_ (by omega)]at h1;rw[g_ (by omega)]at h2;have XR:i - M_.length=i - cn.length:=by omega
    rw[XR]at h2;obtain⟨u,hu,rv⟩:=r.get h2;refine⟨u,rv,.inl ⟨S.par y (gW h1),?_⟩⟩;have hm:(y,u)∈(ps.zip us).reverse:=by
     rw[List.mem_reverse];refine gW (i:=i - cn.length) ?_;rw[pN];exact⟨h1,hu⟩
    refine lookup_mem ?_ hm;rw[nT,List.map_fst_zip (by omega)];exact List.pairwise_reverse.mpr (ndp.imp λh=>afb h)
  ·obtain⟨i,hi⟩:=cellIn y c h;obtain⟨v,o,u,_,q2,q3,_⟩:=hL2 i y c hi;exact⟨some u,o,acq _ _ (e0.bJ c _ (G8 c o q2).1).1,q3⟩
  ·obtain⟨o,q⟩:=abT y c h;exact zlz q
  ·show ((M_++vs).map some).length=(cn++ps).length;rw[gh,gG,gG,T5,<-T9,gh,r.length,hl]
 refine PySem.W.kla_codeExpr (afe (hPE [] _ _ _ _ I ht) (λv s' h=>?_) λe s' h=>h.elim);obtain⟨x,H',J,rx,q⟩:=h;obtain⟨hh,g,d,tk,ZF⟩:=s';have jb:Un (CZ outer) [] (dB L H) H' s.heap hh:=J.base;have kc:∀b o,L.lookup b=some o->hh.get? b=some o/\H' b=none:=λb o e=>by
  have e1:=(e0.bJ b _ (G8 b o e).1).1;have nfr:b∉CZ outer:=λz=>by have:=e0.K8 b z;rw[(G8 b o e).1]at this;cases this
  exact⟨jb.keep b o e1 (zlz e) nfr (by simp),jb.free b o e1 (zlz e) (by simp)⟩
 refine⟨x,d7 L H',J.os,J.bare,⟨λb o e n oU hx=>?_,λb o e n oU hx=>?_,λb o e n hx=>?_,jb.there,λb xs e=>?_,λb o u e=>?_,λb ps e=>?_⟩,J.bJ.d7 (λb o e=>(kc b o e).2) (λb o e=>(kc b o e).1),rx,q λb o e=>(kc b o e).2⟩
 ·exact jb.keep b o e (zy b n) oU hx
 ·exact jb.slot b o e (zy b n) oU hx
 ·have z:L.lookup b=none:=by
   cases z:L.lookup b with
   | none=>rfl
   | some o'=>rw[(G8 b o' z).1]at n;cases n
  rw[xF z];exact jb.free b o e (zy b n) hx
 ·have z:L.lookup b=none:=by
   cases z:L.lookup b with
   | none=>rfl
   | some o'=>rw[(G8 b o' z).1]at e;cases e
  rw[xF z];exact jb.uU b xs (by rw[Dw z];exact e)
 ·cases z:L.lookup b with
  | some o' =>
   rw[(G8 b o' z).1]at e;cases e;exact zlq z
  | none=>rw[xF z];exact jb.tu b o u (by rw[Dw z];exact e)
 ·have z:L.lookup b=none:=by
   cases z:L.lookup b with
   | none=>rfl
   | some o'=>rw[(G8 b o' z).1]at e;cases e
  rw[xF z];exact jb.uw b ps (by rw[Dw z];exact e)
end
end L2
namespace M
open PySem PySem.Spec L2
mutual
theorem ao.b_(e:∀b xs,H b=some (.tup xs)->H' b=some (.tup xs)):∀(d:D) {v:V},ao K μ H d v->ao K μ H' d v
 | .non,_,h=>by simpa[ao] using h
 | .bl _,_,h=>by simpa[ao] using h
 | .int _,_,h=>by simpa[ao] using h
 | .str _,_,h=>by simpa[ao] using h
 | .tup ds,_,h=>by
  rw[ao]at h ⊢;obtain⟨a,xs,rfl,h1,h2⟩:=h;exact⟨a,xs,rfl,h1.elim (λz=>.inl (e _ _ z)) .inr,aq.b_ e ds h2⟩
 | .loc n,_,h=>by
  rw[ao]at h ⊢;exact h
theorem aq.b_(e:∀b xs,H b=some (.tup xs)->H' b=some (.tup xs)):∀(ds:List D) {vs:List V},aq K μ H ds vs->aq K μ H' ds vs
 | [],_,h=>by simpa[aq] using h
 | d::ds,_,h=>by
  rw[aq]at h ⊢;obtain⟨v,r,rfl,h1,h2⟩:=h;exact⟨v,r,rfl,ao.b_ e d h1,aq.b_ e ds h2⟩
end
theorem aH.b_(e:∀b xs,H b=some (.tup xs)->H' b=some (.tup xs)):∀{ds:List (κ×D)} {vs:List (κ×V)},aH K μ H ds vs->aH K μ H' ds vs
 | [],_,h=>h
 | (k,d)::ds,_,⟨v,r,e1,h1,h2⟩=>⟨v,r,e1,h1.b_ e d,aH.b_ e h2⟩
noncomputable def MO.dD:MO->Bool
 | .clo _ _ _=>true
 | _=>false
def rT(L:List (Addr×Obj))(H:Hp):Prop:=∀b o,L.lookup b=some o->H b=some (.frz o (.own 0))/\∃u,o.data=.cell (some u)
def rT.del(h:rT L H)(e:H b=some u)(n:∀o,u=.frz o (.own 0)->∀v,o.data≠.cell v):dB L H b=some u:=by
 cases z:L.lookup b with
 | none=>rw[Dw z];exact e
 | some o =>
  obtain⟨e1,v,hv⟩:=h b o z;rw[e]at e1;exact absurd hv (n o (ae5 e1) _)
def fM.del(hL:rT L H)(hc:o.dD=false)(h:fM K μ H a o):fM K μ (dB L H) a o:=by
 have ht:∀b xs,H b=some (.tup xs)->dB L H b=some (.tup xs):=λb xs e=>hL.del e λ_ z=>nomatch z;cases o with
 | lst ds=>obtain⟨xs,h1,h2⟩:=h;exact⟨xs,hL.del h1 (λ_ z=>nomatch z),h2.b_ ht⟩
 | frz ds =>
  obtain⟨xs,h1,h2⟩:=h;refine⟨xs,?_,h2.b_ ht⟩;rcases h1 with⟨o,h1⟩ | h1
  ·exact .inl ⟨o,hL.del h1 λ_ z=>(by cases z)⟩
  ·exact .inr h1
 | dic kvs=>obtain⟨ws,h1,h2⟩:=h;exact⟨ws,hL.del h1 (λ_ z=>nomatch z),h2.b_ ht⟩
 | dkc kvs=>obtain⟨ws,h1,h2⟩:=h;exact⟨ws,hL.del h1 (λ_ z=>nomatch z),h2.b_ ht⟩
 | dkf kvs=>obtain⟨ws,o,h1,h2⟩:=h;exact⟨ws,o,hL.del h1 (λ_ z=>(by cases z)),h2.b_ ht⟩
 | dtf kvs=>obtain⟨ws,o,h1,h2⟩:=h;exact⟨ws,o,hL.del h1 (λ_ z=>(by cases z)),h2.b_ ht⟩
 | exc c d=>obtain⟨oe,C,dx,od,v,fs,h1,h2,h3,h4,h5,h6,h7⟩:=h;exact⟨oe,C,dx,od,v,fs,hL.del h1 (λo z w q=>(by cases z;rw[h4]at q;cases q)),h2,h3,h4,hL.del h5 (λ_ z=>(by cases z)),h6,h7.b_ ht d⟩
 | ins c fs=>obtain⟨C,dx,ws,h0,h1,h2⟩:=h;exact⟨C,dx,ws,h0,hL.del h1 (λ_ z=>nomatch z),h2.b_ ht⟩
 | tab x =>
  obtain⟨h0,ps,h1,h2,h3⟩:=h;refine⟨h0,ps,hL.del h1 (λ_ z=>nomatch z),h2,λpos cv e=>?_⟩;obtain⟨c',e1,oc,vs,t,e2,e3,e4⟩:=h3 pos cv e;exact⟨c',e1,oc,vs,t,hL.del e2 (λo z v=>by cases z;rw[e3];exact λy=>nomatch y),e3,e4⟩
 | clo j l ds=>cases hc
 | hid=>trivial
noncomputable def bL(st:ak):ak:=st.map λo=>if o.dD then .hid else o
def zkz(st:ak):(bL st).length=st.length:=by simp[bL]
def zkk{st:ak}{n:Nat}{o:MO}(h:(bL st)[n]? = some o):∃o',st[n]? = some o'/\((o'.dD=true/\o=.hid)\/(o'.dD=false/\o=o')):=by
 unfold bL at h;rw[gM]at h;cases e:st[n]? with
 | none=>rw[e]at h;cases h
 | some o' =>
  rw[e]at h;refine⟨o',rfl,?_⟩;have h:(if o'.dD=true then MO.hid else o')=o:=ae5 h;by_cases hc:o'.dD=true
  ·rw[ae1 hc]at h;exact .inl ⟨hc,h.symm⟩
  ·rw[ae2 hc]at h;exact .inr ⟨by simpa using hc,h.symm⟩
def zq3{st:ak}{n:Nat}{o:MO}(h:st[n]? = some o):(bL st)[n]? = some (if o.dD then .hid else o):=by
 unfold bL;rw[gM,h];rfl
def aQ.hide{K:PySem.W.Frag}{μ:List Addr}{H:Hp}{st:ak}{L:List (Addr×Obj)}(hL:rT L H)(h:aQ K μ H st):aQ K μ (dB L H) (bL st):=by
 refine⟨by rw[h.len,zkz],λn o e=>?_,λi j a oi oj ei ej mi mj hi hj=>?_⟩
 ·obtain⟨o',e1,e2⟩:=zkk e;obtain⟨a,h1,h2⟩:=h.at_ n o' e1;rcases e2 with⟨c,rfl⟩ | ⟨c,rfl⟩
  ·exact⟨a,h1,trivial⟩
  ·exact⟨a,h1,h2.del hL c⟩
 ·obtain⟨oi',e1,e2⟩:=zkk ei;obtain⟨oj',e3,e4⟩:=zkk ej;rcases e2 with⟨_,rfl⟩ | ⟨_,rfl⟩
  ·cases mi
  ·rcases e4 with⟨_,rfl⟩ | ⟨_,rfl⟩
   ·cases mj
   ·exact h.uniq i j a oi oj e1 e3 mi mj hi hj
def aQ.Vc{K:PySem.W.Frag}{μ:List Addr}{H H':Hp}{st:ak}{L:List (Addr×Obj)}(h0:aQ K μ H st)(h:aQ K μ H' (bL st))(hn:∀b o,L.lookup b=some o->H' b=none)(ext:Ext H (d7 L H')):aQ K μ (d7 L H') st:=by
 have up:∀b u,H' b=some u->d7 L H' b=some u:=λb u e=>by
  cases z:L.lookup b with
  | none=>rw[xF z];exact e
  | some o=>rw[hn b o z]at e;cases e
 refine⟨h0.len,λn o e=>?_,h0.uniq⟩;by_cases hc:o.dD=true
 ·obtain⟨a,h1,h2⟩:=h0.at_ n o e;refine⟨a,h1,h2.keep ⟨⟨[],by simp⟩,ext⟩ λhm=>?_⟩;cases o<;>simp[MO.dD,MO.mut]at hc hm
 ·have e2:=zq3 e;rw[ae2 hc]at e2;obtain⟨a,h1,h2⟩:=h.at_ n o e2;exact⟨a,h1,h2.keep ⟨⟨[],by simp⟩,⟨λb xs q=>up b _ q,λb o u q=>up b _ q⟩⟩ λ_ u q=>up a u q⟩
structure v5(P:Program)(w:World)(K:PySem.W.Frag)(mg:Str->Option Value)(base:Heap)(k:Nat)(l:eO)(ps:List Str)(m:ME):Prop where
 sc:zL l.oW ps l.scope
 bind:∀cl pm c' rH (us:List Value),us.length=ps.length->bindArgs (PySem.W.kla_fn "<lambda>" l.qual l.params l.body l.scope cl pm (.ref c') rH) ⟨us,[]⟩=pure (ps.zip us)
 body:∀(f:Addr) (cd:Value) (cl:List (Str×Addr)) (A:Around) (outer:List Env) (s:Shared) (H:Hp),cG k (A.deeper (PySem.W.envX l.qual l.scope s.heap.objs.size f cd cl)) ->
  JE (Cv P w K mg base (l.oW++ps) l.qual l.scope f cd cl A outer s H) l.body m
open Classical in
noncomputable def Dk(Λ:Nat->eO)(G:Nat->FD)(n:Nat)(as:List D)(st:ak):R D:=match st[n]? with
 | some (.clo j l ds)=>if l=Λ j then (match gc (bL st) (G j (ds++as) (bL st)) with
  | .ok d st2=>if st2=bL st/\under st.length d then .ok d st else .bad
  | _=>.bad) else .bad
 | _=>.bad
noncomputable def oO(n:Nat)(m:ME):FD:=λds st=>if ds.length=n then m (ds.map some) st else .bad
def Mx(P:Program)(w:World)(K:PySem.W.Frag)(mg:Str->Option Value)(base:Heap)(k:Nat)(Λ:Nat->eO)(G:Nat->FD):Prop :=
 ∀j,(∀ds st,G j ds st=.bad)\/∃ps m,v5 P w K mg base k (Λ j) ps m/\G j=oO ((Λ j).oW.length+ps.length) m
theorem eQ.len:∀{cl:List (Str×Addr)} {vs:List V},eQ H cl vs->vs.length=cl.length
 | [],_,h=>by have h:_=[]:=h;subst h;rfl
 | (_,c)::cl,_,⟨v,r,o,u,h1,_,_,_,h5⟩=>by subst h1;simp[eQ.len h5]
def rT.back(hL:rT L H)(e:Ext (dB L H) H')(hn:∀b o,L.lookup b=some o->H' b=none):Ext H (d7 L H'):=by
 have up:∀b u,H' b=some u->d7 L H' b=some u:=λb u e=>by
  cases z:L.lookup b with
  | none=>rw[xF z];exact e
  | some o=>rw[hn b o z]at e;cases e
 refine⟨λb xs q=>up b _ (e.tup b xs (hL.del q λ_ z=>nomatch z)),λb o u q=>?_⟩;cases z:L.lookup b with
 | none=>exact up b _ (e.frz b o u (by rw[Dw z];exact q))
 | some o' =>
  have q2:=(hL b o' z).1;rw[q]at q2;cases q2;exact zlq z
noncomputable def callC(Λ:Nat->eO)(G:Nat->FD)(i:Nat)(mA:MA):ME:=λenv st=>match env[i]? with
 | some (some (.loc n))=>(match st[n]? with
  | some (.clo _ _ _)=>(mA env st).bind λas st1=>Dk Λ G n as st1
  | _=>.bad)
 | _=>.bad
section
variable  {X:Cx}{e:Expr}{es:List Expr}{mA:MA}{pos p:Pos}{x:Str}{k:Nat}{Λ:Nat->eO}{G:Nat->FD}
def zq4(hΛ:Mx X.prog X.w X.K X.mg X.base k Λ G)(hr:cG (k+1) X.A)(i:Nat)(ha:JA X (e::es) mA)(hN:X.N[i]? = some x:=by rfl)(hv:Vis X.env.scope x:=by first | exact Or.inl rfl | exact Or.inr (Or.inl rfl) | exact Or.inr (Or.inr rfl))
  (hd:(x==("__debug__":Str))=false:=by decide) (yh:(x==("__classdict__":Str))=false:=by decide) (he:starEach (e::es) X.env=(false,eval e X.env)::starEach es X.env:=by rfl) (oR:(backTo pos (starEach es X.env)).any (·.1)=false:=by rfl) :
  JE X (.Call (.Name x p) (e::es) [] pos) (callC Λ G i mA):=by
 rintro pins s σ H Q I ⟨μ,env,st,hE,hs,hp⟩;unfold callC at hp
 split at hp
 case h_2=>exact hp.elim
 rename_i n hi
 split at hp
 case h_2=>exact hp.elim
 rename_i j0 l0 ds0 hn;obtain⟨v,h1,h2⟩:=hE.at_ i _ hi;obtain⟨a,q1,rfl⟩:=ao.aG.mp h2;obtain⟨a',r1,r2⟩:=hs.at_ n _ hn;rw[q1]at r1;cases r1;obtain⟨cl0,pm0,c0,aeL,aeF,w1,_⟩:=r2;refine afg (cC (IW hN hv hd yh pins s σ H (λv' H'=>v'=.ref a/\H'=H) I ⟨.ref a,h1,rfl,rfl⟩) λu s0 zz=>?_);obtain⟨v',H',I0,r0,ev,eH⟩:=zz;subst ev eH;cases (show u=Value.ref a from r0);have fnAt:∀(s:Shared) (H:Hp) (o:Obj),Inv X pins σ H s->(∃q ps b sc cl pm c' rH,o=PySem.W.kla_obj "<lambda>" q ps b sc cl pm c' rH)->H a=some (.frz o (.own 0))->PySem.W.FnAt a s.heap:=by
  rintro s H o I ⟨q,ps,b,sc,cl,pm,c',rH,rfl⟩ h;exact⟨_,_,_,_,(I.bJ a _ h).1⟩
 refine PySem.W.callWith_F (fnAt s0 H' _ I0 ⟨_,_,_,_,_,_,_,_,rfl⟩ w1) (cC (ha pos pins s0 σ H' _ I0 ⟨μ,env,st,hE,hs,bF.bind hp⟩) λus s1 zz=>?_) he oR;obtain⟨vs,H1,I1,r,μ1,st1,as,g1,bx,Xz,aP⟩:=zz;have g2:=g1.get q1;unfold Dk at aP;dsimp only at aP
 split at aP
 case h_2=>exact aP.elim
 rename_i j l ds hn1
 split at aP
 case isFalse=>exact aP.elim
 rename_i hl;subst hl;obtain⟨a',r1,cl,pm,c',rH,M_,hf,zf,T9,zX,yg,T8⟩:=bx.at_ n _ hn1;rw[g2]at r1;cases r1;refine⟨fnAt s1 H1 _ I1 ⟨_,_,_,_,_,_,_,_,rfl⟩ hf,?_⟩;rcases hΛ j with ad2 | ⟨ps,m,LO,hG⟩
 ·rw[ad2]at aP;exact aP.elim
 have hlen:(ds++as).length=(Λ j).oW.length+ps.length:=by
  refine Classical.byContradiction λh=>?_;rw[hG]at aP;unfold oO at aP;rw[ae2 h]at aP;exact aP.elim
 have e1:ds.length=(Λ j).oW.length:=by rw[T8.length,yg.len,<-T9,gh]
 have hul:us.length=ps.length:=by
  rw[<-r.length,<-Xz.length];rw[gG]at hlen;omega
 refine wpAny_call (afF (Qz (k:=k) (Q:=Q) (vs:=vs) I1.Rt hr LO.sc hf zf T9 zX yg (LO.bind cl pm c' rH us hul) hul r ?_) λr s' hq=>?_)
 ·intro L hL;have hL:rT L H1:=hL;refine⟨_,LO.body a (.ref c') cl X.A X.stack s1 (dB L H1) (hr.deeper _),μ1,(ds++as).map some,bL st1,?_,bx.hide hL,?_⟩
  ·have hv2:aq X.K μ1 (dB L H1) (ds++as) (M_++vs):=(T8.append Xz).b_ (λb xs q=>hL.del q λ_ z=>nomatch z) _;refine⟨by rw[gh,gh,hv2.length],λi d e=>?_⟩;rw[gM]at e ⊢;cases q:(ds++as)[i]? with
   | none=>rw[q]at e;cases e
   | some d' =>
    rw[q]at e;cases e;obtain⟨v,q1,q2⟩:=hv2.get q;exact⟨v,by rw[q1];rfl,q2⟩
  ·have key:zJ X.K μ1 (dB L H1) (λv H'=>(∀b o,L.lookup b=some o->H' b=none)->Q v (d7 L H')) (G j (ds++as) (bL st1)):=by
    refine zsm (bx.hide hL) ?_
    split at aP
    case h_2=>exact aP.elim
    rename_i d st2 XS
    split at aP
    case isFalse=>exact aP.elim
    rename_i hc;rw[XS];intro v H' μ' g qp Ax hn';obtain⟨rfl,_⟩:=hc;obtain⟨ν,rfl⟩:=g.pre;have hν:ν=[]:=by
     have:=qp.len;rw[gG,bx.len,zkz]at this;exact List.eq_nil_of_length_eq_zero (by omega)
    subst hν;rw[gY]at qp Ax;have ext:=hL.back g.ext hn';refine aP v (d7 L H') μ1 ⟨⟨[],by simp⟩,ext⟩ (bx.Vc qp hn' ext) (Ax.b_ (λb xs q=>?_) d);cases z:L.lookup b with
    | none=>rw[xF z];exact q
    | some o=>rw[hn' b o z]at q;cases q
   rw[hG]at key;unfold oO at key;rw[ae1 hlen]at key;cases hm:m ((ds++as).map some) (bL st1) with
   | bad=>rw[hm]at key;exact key.elim
   | err y st2=>rw[hm]at key;exact key.elim
   | ok d st2=>rw[hm]at key;exact key
 ·cases r with
  | error e=>exact False.elim hq
  | ok fl =>
   cases fl with
   | ret u=>exact I1.after hq
   | next=>exact False.elim hq
   | brk=>exact False.elim hq
   | cont=>exact False.elim hq
end
inductive LA where
 | v (d:D) | l (j:Nat) (cap:List Nat)
noncomputable abbrev ML:=aJ->ak->R (List LA)
noncomputable def ju(X:Cx)(l:eO):List (Str×Addr):=l.oW.map λx=>(x,(X.env.cells.lookup x).getD 0)
structure qx(X:Cx)(l:eO)(cap:List Nat):Prop where
 nd:l.oW.Nodup
 cell:∀x∈l.oW,X.env.kindOf x=some .cell
 ix:cap.map (λi=>X.N[i]?)=l.oW.map some
def Dn(X:Cx)(Λ:Nat->eO)(μ:List Addr)(H:Hp):LA->V->Prop
 | .v d,v=>ao X.K μ H d v
 | .l j cap,v=>qx X (Λ j) cap/\∃f pm c' rH,v=.ref f/\H f=some (.frz (PySem.W.kla_obj "<lambda>" (Λ j).qual (Λ j).params (Λ j).body (Λ j).scope (ju X (Λ j)) pm c' rH) (.own 0))/\rR H c' (Λ j).qual
def iR(X:Cx)(Λ:Nat->eO)(μ:List Addr)(H:Hp):List LA->List V->Prop
 | [],vs=>vs=[]
 | a::r,vs=>∃v t,vs=v::t/\Dn X Λ μ H a v/\iR X Λ μ H r t
noncomputable abbrev ac0(X:Cx)(Λ:Nat->eO):Rel (List LA) (List V):=fun μ H d v=>iR X Λ μ H d v
section
variable  {X:Cx}{Λ:Nat->eO}{μ μ':List Addr}{H H':Hp}
theorem Dn.mono(g:a_ μ H μ' H'):∀{a:LA} {v:V},Dn X Λ μ H a v->Dn X Λ μ' H' a v
 | .v d,_,h=>ao.mono g d h
 | .l j cap,_,⟨h0,f,pm,c',rH,h1,h2,h3⟩=>⟨h0,f,pm,c',rH,h1,g.ext.frz _ _ _ h2,h3.ext g.ext⟩
theorem iR.mono(g:a_ μ H μ' H'):∀{a:List LA} {v:List V},iR X Λ μ H a v->iR X Λ μ' H' a v
 | [],_,h=>h
 | a::r,_,⟨v,t,e,h1,h2⟩=>⟨v,t,e,h1.mono g,iR.mono g h2⟩
theorem iR.length:∀{a:List LA} {v:List V},iR X Λ μ H a v->a.length=v.length
 | [],_,h=>by have h:_=[]:=h;subst h;rfl
 | a::r,_,⟨v,t,e,h1,h2⟩=>by subst e;simp[iR.length h2]
end
noncomputable def tML(X:Cx)(Λ:Nat->eO)(m:ML):TA:=fun σ H Q=>∃μ env st,dm X.K μ H env σ/\aQ X.K μ H st/\bF X μ H (ac0 X Λ) Q (m env st)
def JL(X:Cx)(Λ:Nat->eO)(es:List Expr)(m:ML):Prop:=PA X es (tML X Λ m)
noncomputable def qU:ML:=λ_ st=>.ok [] st
noncomputable def iK(a:ME)(r:ML):ML:=λenv st=>(a env st).bind λx st1=>(r env st1).bind λxs st2=>.ok (.v x::xs) st2
noncomputable def fY(j:Nat)(cap:List Nat)(k:Nat)(x:Str)(r:ML):ML:=λenv st=>match st[k]? with
 | some (.tab y)=>if y=x then (r env st).bind λxs st2=>.ok (.l j cap::xs) st2 else .bad
 | _=>.bad
def ab6(X:Cx)(x:Str):Prop:=X.env.qual=x ++ ".<locals>."/\∃(c fa:Addr) (o:Obj) (fd:FuncData),X.env.code=.ref c/\PySem.W.nsIn X.K mainGlobals x=some (some (.ref fa))/\X.K.lookup fa=some o/\o.data=.func fd/\fd.code=.ref c
section
variable  {X:Cx}{Λ:Nat->eO}{μ:List Addr}{H H':Hp}{st:ak}{e:Expr}{es:List Expr}{ma:ME}{m:ML}
def Aq:JL X Λ [] qU:=by
 refine λpos pins s σ H Q I zz=>?_;obtain⟨μ,env,st,hE,hs,hp⟩:=zz;exact Ai pos pins s σ H Q I (hp.ret hs rfl)
def ztf(h:JE X e ma)(hr:JL X Λ es m)(hs:starEach (e::es) X.env=(false,eval e X.env)::starEach es X.env:=by rfl):JL X Λ (e::es) (iK ma m):=by
 rintro pos pins s σ H Q I ⟨μ,env,st,hE,hs0,hp⟩;refine zl8 h hr hs pos pins s σ H Q I ⟨μ,env,st,hE,hs0,hp.bind.imp ?_⟩;rintro x H1 ⟨μ1,st1,d,g1,bx,hx,aP⟩;refine⟨μ1,env,st1,hE.mono g1,bx,aP.bind.imp ?_⟩;rintro xs H2 ⟨μ2,st2,ds,g2,fQ,lR,dw⟩;exact dw.ret fQ ⟨x,xs,rfl,hx.mono g2 _,lR⟩
def _root_.L2.v7.ext(n:v7 H H' P f c' q ob)(hP:H P=some (.tbl ps)):Ext H H' :=
 ⟨λb xs e=>n.same b _ (λz=>by rw[z,hP]at e;cases e) e,λb o u e=>n.same b _ (λz=>by rw[z,hP]at e;cases e) e⟩
def aQ.lam{P f c':Addr}{x:Str}{ob:Obj}{k:Nat}(hs:aQ X.K μ H st)(hk:st[k]? = some (.tab x))(ha:μ[k]? = some P)(n:v7 H H' P f c' (qX x) ob):aQ X.K μ H' st:=by
 obtain⟨a,h1,h2⟩:=hs.at_ k _ hk;rw[ha]at h1;cases h1;obtain⟨FJ,ps,hP,_⟩:=h2;have ext:=n.ext hP;refine⟨hs.len,λi o e=>?_,hs.uniq⟩;obtain⟨b,q1,q2⟩:=hs.at_ i o e;refine⟨b,q1,?_⟩;by_cases hm:o.mut=true
 ·by_cases hb:b=P
  ·subst hb;have hik:=hs.uniq i k b o (.tab x) e hk hm rfl q1 ha;subst hik;rw[hk]at e;cases e;exact⟨FJ,n.tab⟩
  ·exact q2.keep ⟨⟨[],by simp⟩,ext⟩ λ_ u q=>n.same b u hb q
 ·exact q2.keep ⟨⟨[],by simp⟩,ext⟩ λz=>absurd z hm
def YJ{x:Str}{j k:Nat}{cap:List Nat}{params:Arguments}{body:Expr}{scope:Scope}{pos:Pos}(hB:BMain X.mg X.base)(hT:ab6 X x)(hat:qx X (Λ j) cap)(hq:(Λ j).qual=qX x)(hp:(Λ j).params=params)(hb:(Λ j).body=body)(hsc:(Λ j).scope=scope)
  (uE:closureFor scope X.env=pure (ju X (Λ j))) (hr:JL X Λ es m) (Yb:defaultsOf params X.env=([],[]):=by rfl) (hs:starEach (.Lambda params body scope pos::es) X.env=(false,eval (.Lambda params body scope pos) X.env)::starEach es X.env:=by rfl) :
  JL X Λ (.Lambda params body scope pos::es) (fY j cap k x m):=by
 subst hp hb hsc;rintro adp pins s σ H Q I ⟨μ,env,st,hE,hs0,hp⟩;unfold fY at hp
 split at hp
 case h_2=>exact hp.elim
 rename_i y hk
 split at hp
 case isFalse=>exact hp.elim
 rename_i hy;subst hy;obtain⟨P,h1,h2⟩:=hs0.at_ k _ hk;obtain⟨⟨fa',o',fd',c',w1,w2,w3,w4,w5⟩,ps,w6,w7,w8⟩:=h2;obtain⟨abv,c,fa,o,fd,t1,t2,t3,t4,t5⟩:=hT;rw[t2]at w1;cases w1;rw[t3]at w2;cases w2;rw[t4]at w3;cases w3;rw[t5]at w4;cases w4;refine zl8 (V_ (P:=P) (c:=c') (q:=qX y) (clos:=ju X (Λ j)) hB t1 w5 (by rw[abv];rfl) uE Yb) hr hs adp pins s σ H Q I ⟨⟨ps,w6,w7,w8⟩,λf c' pm rH H' n=>?_⟩;have g:a_ μ H μ H':=⟨⟨[],by simp⟩,n.ext w6⟩;refine⟨μ,env,st,hE.mono g,hs0.lam hk h1 n,(bF.mono g hp).bind.imp ?_⟩;rintro xs H2 ⟨μ2,st2,ds,g2,fQ,lR,dw⟩;refine dw.ret fQ ⟨.ref f,xs,rfl,⟨hat,f,pm,c',rH,rfl,?_,?_⟩,lR⟩
 ·rw[hq];exact g2.ext.frz _ _ _ n.new
 ·rw[hq];exact n.code.ext g2.ext
end
noncomputable def cellAt(h:Heap)(c:Addr):Option Obj:=match h.get? c with
 | some o=>(match o.data with | .cell (some _)=>some o | _=>none)
 | none=>none
def zju(e:cellAt h c=some o):h.get? c=some o/\∃u,o.data=.cell (some u):=by
 unfold cellAt at e
 split at e
 ·rename_i o' h1
  split at e
  ·rename_i u h2;cases e;exact⟨h1,u,h2⟩
  ·cases e
 ·cases e
def Gp(h1:h.get? c=some o)(h2:o.data=.cell (some u)):cellAt h c=some o:=by
 unfold cellAt;rw[h1];dsimp only;rw[h2]
noncomputable def ou(cl:List (Str×Addr))(h:Heap):List Str->List (Addr×Obj)
 | []=>[]
 | x::r=>match cl.lookup x with
  | some c=>(match cellAt h c with | some o=>(c,o)::ou cl h r | none=>ou cl h r)
  | none=>ou cl h r
theorem zhh:∀{xs:List Str},(ou cl h xs).lookup b=some o->cellAt h b=some o/\∃x,cl.lookup x=some b
 | [],e=>by cases e
 | x::r,e=>by
  unfold ou at e
  split at e
  ·rename_i c hc
   split at e
   ·rename_i o' ho;rw[kj]at e;by_cases hb:(b==c)=true
    ·simp only[hb]at e;cases e;obtain rfl:=eq_of_beq hb;exact⟨ho,x,hc⟩
    ·simp only[show (b==c)=false by simpa using hb]at e;exact zhh e
   ·exact zhh e
  ·exact zhh e
theorem zlx(hx:cl.lookup x=some b)(ho:cellAt h b=some o):∀{xs:List Str},x∈xs->(ou cl h xs).lookup b=some o
 | [],e=>by cases e
 | y::r,e=>by
  unfold ou;by_cases hy:x=y
  ·subst hy;rw[hx];dsimp only;rw[ho];dsimp only;rw[kj];simp
  ·have e:=zlx hx ho (xs:=r) (by simpa[hy] using e)
   split
   ·rename_i c hc
    split
    ·rename_i o' Nj;rw[kj];by_cases hb:(b==c)=true
     ·simp only[hb];obtain rfl:=eq_of_beq hb;rw[ho]at Nj;exact Nj.symm
     ·simp only[show (b==c)=false by simpa using hb];exact e
    ·exact e
   ·exact e
noncomputable def yq:List Nat->aJ->Option (List D)
 | [],_=>some []
 | i::r,env=>match env[i]? with
  | some (some d)=>(match yq r env with | some ds=>some (d::ds) | none=>none)
  | _=>none
noncomputable def jl(Λ:Nat->eO)(env:aJ):Nat->List LA->Option (List D×List MO)
 | _,[]=>some ([],[])
 | n,.v d::r=>(match jl Λ env n r with | some (ds,os)=>some (d::ds,os) | none=>none)
 | n,.l j cap::r=>(match yq cap env with
  | some cs=>(match jl Λ env (n+1) r with | some (ds,os)=>some (.loc n::ds,.clo j (Λ j) cs::os) | none=>none)
  | none=>none)
def bG(st:ak):Prop:=∀o∈st,o.dD=false
open Classical in
noncomputable def iM(Λ:Nat->eO)(F:FD)(dd:List D)(m:ML):ME:=λenv st=>(m env st).bind λas st1=>if bG st1 then (match jl Λ env st1.length as with
 | some (ds,os)=>(match gc st1 (F (ds++dd) (st1++os)) with
  | .ok d st2=>if bG st2 then .ok d st2 else .bad
  | _=>.bad)
 | none=>.bad) else .bad
def aQ.snoc(h:aQ K μ H st)(hm:o.mut=false)(ho:fM K (μ++[a]) H a o):aQ K (μ++[a]) H (st++[o]):=by
 have key:∀(n:Nat) (on:MO) (c:Addr),(st++[o])[n]? = some on->on.mut=true->(μ++[a])[n]? = some c->st[n]? = some on/\μ[n]? = some c:=λn on c e1 hmn e2=>by
  by_cases hn:n<st.length
  ·rw[gF hn]at e1;rw[gF (by rw[h.len];exact hn)]at e2;exact⟨e1,e2⟩
  ·rw[g_ (by omega)]at e1;have:=gW e1;simp at this;subst this;rw[hm]at hmn;cases hmn
 refine⟨by simp[h.len],λn on e1=>?_,λi j c oi oj ei ej mi mj hi hj=>?_⟩
 ·by_cases hn:n<st.length
  ·rw[gF hn]at e1;obtain⟨b,q1,q2⟩:=h.at_ n on e1;exact⟨b,by rw[gF (by rw[h.len];exact hn)];exact q1,q2.up _⟩
  ·have hl:=(gf.mp e1).1;rw[gG,m7]at hl;have en:n=st.length:=by omega
   subst en;rw[g_ (gb _)]at e1;simp at e1;subst e1;exact⟨a,by rw[<-h.len];simp,ho⟩
 ·obtain⟨a1,a2⟩:=key i oi c ei mi hi;obtain⟨b1,b2⟩:=key j oj c ej mj hj;exact h.uniq i j c oi oj a1 b1 mi mj a2 b2
def aQ.del(hL:rT L H)(hc:bG st)(h:aQ K μ H st):aQ K μ (dB L H) st :=
 ⟨h.len,λn o e=>let ⟨a,h1,h2⟩:=h.at_ n o e;⟨a,h1,h2.del hL (hc o (gW e))⟩,h.uniq⟩
section
variable  {X:Cx}{Λ:Nat->eO}{H:Hp}{env:aJ}
theorem zmw(zX:∀l cap,qx X l cap->((ju X l).map (·.2)).Nodup):∀{as:List LA} {vs:List V} {μ:List Addr} {st:ak} {n:Nat} {ds:List D} {os:List MO},(∀l cap,qx X l cap->∀cs,yq cap env=some cs->∃vs,eQ H (ju X l) vs/\aq X.K μ H cs vs)->jl Λ env n as=some (ds,os)->iR X Λ μ H as vs->aQ X.K μ H st->n=st.length ->
  ∃ν,aQ X.K (μ++ν) H (st++os)/\aq X.K (μ++ν) H ds vs
 | [],vs,μ,st,n,ds,os,hc,e,h,hs,hn=>by
  cases e;have h:vs=[]:=h;subst h;exact⟨[],by simpa using hs,aq.nil⟩
 | .v d::r,_,μ,st,n,ds,os,hc,e,⟨v,t,rfl,h1,h2⟩,hs,hn=>by
  unfold jl at e
  split at e
  ·rename_i ds' ZF e';cases e;obtain⟨ν,q1,q2⟩:=zmw zX hc e' h2 hs hn;exact⟨ν,q1,aq.cons (ao.mono ⟨⟨ν,rfl⟩,.refl H⟩ d h1) q2⟩
  ·cases e
 | .l j cap::r,_,μ,st,n,ds,os,hc,e,⟨v,t,rfl,hla,h2⟩,hs,hn=>by
  obtain⟨h0,f,pm,c',rH,rfl,h3,h4⟩:=hla;unfold jl at e
  split at e
  ·rename_i cs ec
   split at e
   ·rename_i ds' ZF e';cases e;obtain⟨vs,q1,q2⟩:=hc _ cap h0 cs ec;have g:a_ μ H (μ++[f]) H:=⟨⟨[f],rfl⟩,.refl H⟩;have bx:aQ X.K (μ++[f]) H (st++[.clo j (Λ j) cs]):=hs.snoc rfl ⟨ju X (Λ j),pm,c',rH,vs,h3,h4,by simp[ju,Function.comp_def],zX _ cap h0,q1,q2.mono g _⟩;obtain⟨ν,r1,r2⟩:=zmw zX (μ:=μ++[f]) (λl cap hl cs ec=>let ⟨vs,a1,a2⟩:=hc l cap hl cs ec;⟨vs,a1,a2.mono g _⟩) e' (h2.mono g) bx (by simp[hn]);refine⟨f::ν,by simpa using r1,aq.cons (ao.aG.mpr ⟨f,?_,rfl⟩) (by simpa using r2)⟩;rw[hn,<-hs.len];simp
   ·cases e
  ·cases e
end
section
variable  {X:Cx}{Λ:Nat->eO}{e:Expr}{es:List Expr}{m:ML}{pos p:Pos}{x:Str}{k:Nat}{f:Addr}{fd:FuncData}{ps:List Str}{F:FD}{lZ:List V}{ds:List Value}{dd:List D}
def RN(I:Inv X pins σ H s)(h:qx X l cap):((ju X l).map (·.2)).Nodup:=by
 unfold ju;rw[gJ];have key:∀xs:List Str,xs.Nodup->(∀x∈xs,X.env.kindOf x=some .cell)->(xs.map ((λp:Str×Addr=>p.2)∘λx=>(x,(X.env.cells.lookup x).getD 0))).Nodup:=by
  intro xs
  induction xs with
  | nil=>intros;simp
  | cons x xs ih =>
   intro nd hc;rw[mK]at nd;rw[gm,mK];refine⟨λhm=>?_,ih nd.2 λy hy=>hc y (by simp[hy])⟩;obtain⟨y,hy,e⟩:=gj.mp hm;obtain⟨c,h1⟩:=I.ok.has x (.inl (hc x (by simp)));obtain⟨c2,h2⟩:=I.ok.has y (.inl (hc y (by simp[hy])));simp only[Function.comp,h1,h2,Option.getD_some]at e;subst e;have:=I.ok.inj x y _ h1 h2;subst this;exact nd.1 hy
 exact key _ h.nd h.cell
def Mh(I:Inv X pins σ H s)(hE:dm X.K μ H2 env σ)(hc:∀x b o,X.env.cells.lookup x=some b->cellAt s.heap b=some o->H2 b=some (.frz o (.own 0)))(h:qx X l cap)(e:yq cap env=some cs) :
  ∃vs,eQ H2 (ju X l) vs/\aq X.K μ H2 cs vs:=by
 obtain⟨mm,FP,hl⟩:=I.loc;have key:∀(xs:List Str) (cap:List Nat) (cs:List D),(∀x∈xs,X.env.kindOf x=some .cell)->cap.map (λi=>X.N[i]?)=xs.map some->yq cap env=some cs->∃vs,eQ H2 (xs.map λx=>(x,(X.env.cells.lookup x).getD 0)) vs/\aq X.K μ H2 cs vs:=by
  intro xs
  induction xs with
  | nil =>
   intro cap cs _ hx e;cases cap with
   | nil=>cases e;exact⟨[],rfl,aq.nil⟩
   | cons i cap=>cases hx
  | cons x xs ih =>
   intro cap cs hk hx e;cases cap with
   | nil=>cases hx
   | cons i cap =>
    rw[gm,gm]at hx;obtain⟨hx1,hx2⟩:=List.cons.inj hx;unfold yq at e
    split at e
    ·rename_i d ed
     split at e
     ·rename_i cs' ec;cases e;obtain⟨vs,a1,a2⟩:=ih cap cs' (λy hy=>hk y (by simp[hy])) hx2 ec;obtain⟨v,b1,b2⟩:=hE.at_ i d ed;have hkx:=hk x (by simp);obtain⟨u,r,lk⟩:=hl i x v hx1 b1 (.inr (.inl hkx));rcases lk with⟨z,_⟩ | ⟨_,c,Yd,o,ho,hd⟩
      ·rw[hkx]at z;cases z
      ·refine⟨v::vs,⟨v,vs,o,u,rfl,?_,hd,r,a1⟩,aq.cons b2 a2⟩;have:((X.env.cells.lookup x).getD 0)=c:=by rw[Yd];rfl
       rw[this];exact hc x c o Yd (Gp ho hd)
     ·cases e
    ·cases e
 exact key l.oW cap cs h.cell h.ix e
def Fv(G:bZ X.prog X.w X.K X.mg X.base qb k f fd ps (u0 X.K ps.length F))(hr:cG k X.A)(hm:X.mg x=some (.ref f))(hk:PySem.W.keepIn X.K (.ref f)=true)(hb:Binds X.K fd ps ds)(hd:Vals lZ ds)
  (hdd:∀μ H,aq X.K μ H dd lZ) (ha:JL X Λ (e::es) m) (XX:∀x,X.fn x=true) (hlen:(e::es).length+lZ.length=ps.length:=by rfl) (hg:Gl X x:=by rfl) (q9:(x==("__debug__":Str))=false:=by decide) (he:starEach (e::es) X.env=(false,eval e X.env)::starEach es X.env:=by rfl) (oR:(backTo pos (starEach es X.env)).any (·.1)=false:=by rfl)
  (hA:∀env st as st1,m env st=.ok as st1->as.length=(e::es).length) :
  JE X (.Call (.Name x p) (e::es) [] pos) (iM Λ F dd m):=by
 rintro pins s σ H Q I ⟨μ,env,st,hE,hs,hp⟩;refine afg (Uw I hg hm ?_ q9);unfold iM at hp;cases Z8:m env st with
 | bad=>rw[Z8]at hp;exact hp.elim
 | err y st1 =>
  rw[Z8]at hp;refine afo (h₀:=X.base) I.ok.mod.Wy hk (cC (ha pos pins s σ H (λ_ _=>False) I ⟨μ,env,st,hE,hs,by rw[Z8];exact hp⟩) λus s1 zz=>?_) he oR;obtain⟨vs,H1,I1,r,q⟩:=zz;exact q.elim
 | ok as st1 =>
 have hal:=hA env st as st1 Z8;rw[Z8,R.aB]at hp
 split at hp
 case isFalse=>exact hp.elim
 rename_i hnc
 split at hp
 case h_2=>exact hp.elim
 rename_i as' os adR
 split at hp
 case h_2=>exact hp.elim
 rename_i d st2 XS
 split at hp
 case isFalse=>exact hp.elim
 rename_i adU;refine afo (h₀:=X.base) I.ok.mod.Wy hk (cC (ha pos pins s σ H (λvs H1=>∃μ1,a_ μ H μ1 H1/\aQ X.K μ1 H1 st1/\iR X Λ μ1 H1 as vs) I ⟨μ,env,st,hE,hs,?_⟩) λus s1 ⟨vs,H1,I1,r,μ1,g1,bx,Xz⟩=>⟨I1.oJ,?_⟩) he oR
 ·rw[Z8];exact λvs H1 μ1 g1 bx Xz=>⟨μ1,g1,bx,Xz⟩
 ·let L:=ou X.env.cells s1.heap (X.env.cells.map (·.1))
  have lin:∀b o,L.lookup b=some o->cellAt s1.heap b=some o/\∃x,X.env.cells.lookup x=some b:=λb o e=>zhh e;have nL:∀b o,L.lookup b=some o->H1 b=none:=λb o e=>let ⟨_,x,hx⟩:=lin b o e;I1.jE x b hx;have Je:∀b u,H1 b=some u->L.lookup b=none:=λb u e=>by
   cases z:L.lookup b with
   | none=>rfl
   | some o=>rw[nL b o z]at e;cases e
  have Yi:Ext H1 (d7 L H1):=⟨λb xs e=>by rw[xF (Je b _ e)];exact e,λb o u e=>by rw[xF (Je b _ e)];exact e⟩;have gA:a_ μ1 H1 μ1 (d7 L H1):=⟨⟨[],by simp⟩,Yi⟩;have hsA:aQ X.K μ1 (d7 L H1) st1:=⟨bx.len,λn o e=>let ⟨a,h1,h2⟩:=bx.at_ n o e;⟨a,h1,h2.keep gA λ_ u q=>by rw[xF (Je a u q)];exact q⟩,bx.uniq⟩;have hcA:∀x b o,X.env.cells.lookup x=some b->cellAt s1.heap b=some o->d7 L H1 b=some (.frz o (.own 0)):=λx b o hx ho =>
   zlq (zlx hx ho (gj.mpr ⟨(x,b),ae7 hx,rfl⟩))
  obtain⟨ν,hsN,hvN⟩:=zmw (Λ:=Λ) (H:=d7 L H1) (env:=env) (λl cap h=>RN I1 h) (λl cap h cs ec=>Mh I1 ((hE.mono g1).mono gA) hcA h ec) adR (Xz.mono gA) hsA rfl;refine Ox (L:=L) G hr hb hd I1 (λb o e=>?_) r ⟨?_,μ1++ν,as'++dd,st1++os,hvN.append (hdd _ _),hsN,?_⟩
  ·obtain⟨h1,x,h2⟩:=lin b o e;exact⟨(zju h1).1,x,h2,XX x⟩
  ·rw[gG,<-Xz.length,hal];exact hlen
  ·have key:zJ X.K μ1 (d7 L H1) (λv H'=>Q v (dB L H')) (F (as'++dd) (st1++os)):=by
    refine zsm hsA ?_;rw[XS];intro v H' μ' g qp Ax;have hL:rT L H':=λb o e=>⟨g.ext.frz b o _ (zlq e),(zju (lin b o e).1).2⟩;have ext:Ext H1 (dB L H'):=⟨λb xs e=>by rw[Dw (Je b _ e)];exact g.ext.tup b xs (Yi.tup b xs e),λb o u e=>by rw[Dw (Je b _ e)];exact g.ext.frz b o u (Yi.frz b o u e)⟩;exact hp v (dB L H') μ' ⟨g1.trans ⟨g.pre,ext⟩ |>.pre,(g1.trans ⟨g.pre,ext⟩).ext⟩ (qp.del hL adU) (Ax.b_ (λb xs q=>hL.del q λ_ z=>nomatch z) d)
   have gN:a_ μ1 (d7 L H1) (μ1++ν) (d7 L H1):=⟨⟨ν,rfl⟩,.refl _⟩;cases hF:F (as'++dd) (st1++os) with
   | bad=>rw[hF]at key;exact key.elim
   | err y fO=>rw[hF]at key;exact key.elim
   | ok d3 fO =>
    rw[hF]at key;exact λv H' μ' g qp Ax=>key v H' μ' (gN.trans g) qp Ax
end
end M
namespace M
open PySem PySem.Spec L2 PyProof.Rows
structure Mw(K:PySem.W.Frag)(x:Str)(P:Addr):Prop where
 code:∃(fa:Addr) (o:Obj) (fd:FuncData) (c:Addr),PySem.W.nsIn K mainGlobals x=some (some (.ref fa))/\K.lookup fa=some o/\o.data=.func fd/\fd.code=.ref c/\PySem.W.codeHdIn K c P=true
 out:K.lookup P=none
def Fi{P:Program}{w:World}{K:PySem.W.Frag}{mg mb:Str->Option Value}{k:Nat}{fa a:Addr}{fd:FuncData}{x:Str}{sp:Sp}{aeQ:Shared}{vs:List Value}{ns:List Int}{ts:List (Str×Addr)}
  (KX:K.In aeQ.heap) (FP:aeQ.heap.Ns mainGlobals mg) (hb:aeQ.heap.Ns builtinsNs mb) (hbb:∀x:Str,x ≠ "__name__"->mb x=bootBuiltins x) (adX:aeQ.heap.NoLimit) (hg:aeQ.gens=#[])
  (hbm:∃bm ob,mg "__builtins__" = some (.ref bm)/\bm≠builtinsNs/\aeQ.heap.get? bm=some ob/\ob.cls=.type "module"/\ob.dict=some builtinsNs/\ob.data=.plain)
  (ht:∀p∈ts,aeQ.heap.get? p.2=some (PySem.W.tabObj #[])) (hk:∀p∈ts,Mw K p.1 p.2)
  (ha:aeQ.heap.get? a=some { cls:=.type "list",data:=.seq vs.toArray }) (hi:IntsAre vs ns) (hl:ns.length<=sizeLine) (hr:cG k callerA)
  (F:∀base:Heap,K.In base->base.Ns mainGlobals mg->BMain mg base->bZ P w K mg base qb k fa fd [x] sp) (abz:∀(s:Shared) (u:Value),BindsTo s fd ⟨[u],[]⟩ [(x,u)])
  (Z4:∀H:Hp,yx K H a (ns.map V.int)->(∀p∈ts,H p.2=some (.tbl #[]))->sp [.ref a] H (λv _=>v=.bl true) λ_ _ _=>False) :
  codeAny (model P w) callerA (.call (.ref fa) ⟨[.ref a],[]⟩) (λr s'=>r=.ok (.ret (.bool true))/\OldK aeQ.heap s'.heap/\s'.os=aeQ.os/\AllBare s'.gens) aeQ:=by
 have rv:=zpc hi;have wN:=hi.length;have core:∀H:Hp,yx K H a (ns.map V.int)->(∀p∈ts,H p.2=some (.tbl #[]))->lC P w H aeQ.heap->(∀b u,H b=some u->(b=a/\K.lookup a=none/\∃o xs,u=.frz o (.lst xs))\/(∃p∈ts,b=p.2/\u=.tbl #[])) ->
   codeAny (model P w) callerA (.call (.ref fa) ⟨[.ref a],[]⟩) (λr s'=>r=.ok (.ret (.bool true))/\OldK aeQ.heap s'.heap/\s'.os=aeQ.os/\AllBare s'.gens) aeQ:=by
  intro H hS hT bJ hA;have yr:∀{b:Addr} {o:Obj},aeQ.heap.get? b=some o->H b=none->(wQ aeQ.heap H).get? b=some o:=λe n=>KQ e n;have noH:∀{b:Addr} {o:Obj},aeQ.heap.get? b=some o->o.cls≠.type "list"->(∀vs,o.data≠.fields vs)->H b=none:=λ{b o} e d1 d2=>by
   cases q:H b with
   | none=>rfl
   | some u =>
    rcases hA b u q with⟨rfl,_⟩ | ⟨p,hp,rfl,_⟩
    ·rw[ha]at e;cases e;exact absurd rfl d1
    ·rw[ht p hp]at e;cases e;exact absurd rfl (d2 _)
  have Qt:∀{b:Addr} {o:Obj} {es:Array DictEntry} {ep:Nat},aeQ.heap.get? b=some o->o.data=.dict es ep->H b=none:=λ{b o es ep} e d=>by
   cases q:H b with
   | none=>rfl
   | some u =>
    rcases hA b u q with⟨rfl,_⟩ | ⟨p,hp,rfl,_⟩
    ·rw[ha]at e;cases e;have d':Data.seq vs.toArray _=Data.dict es ep:=d;cases d'
    ·rw[ht p hp]at e;cases e;have d':Data.fields #[]=Data.dict es ep:=d;cases d'
  have nsK:∀{b:Addr} {m:Str->Option Value},aeQ.heap.Ns b m->(wQ aeQ.heap H).Ns b m:=λ{b m} ⟨o,es,ep,e,d,r⟩=>⟨o,es,ep,yr e (Qt e d),d,r⟩;have hKb:K.In (wQ aeQ.heap H):=λb o e=>yr (KX b o e) (by
   cases q:H b with
   | none=>rfl
   | some u =>
    rcases hA b u q with⟨rfl,z,_⟩ | ⟨p,hp,rfl,_⟩
    ·rw[z]at e;cases e
    ·rw[(hk p hp).out]at e;cases e)
  have hM:Mod K mg (wQ aeQ.heap H):=⟨hKb,nsK FP,⟨mb,nsK hb,hbb⟩,let ⟨mc,h1,h2⟩:=adX;⟨mc,nsK h1,h2⟩⟩;have e0:yz P w K mg (wQ aeQ.heap H) callerA [] aeQ H:=⟨rfl,hM,λb o e=>Qo e,Nat.le_of_eq (FQ _ _),trivial,λb hb=>absurd (show b∈([]:List Addr) from hb) (by simp),bJ,.of_eq hg⟩;have hBM:BMain mg (wQ aeQ.heap H):=by
   obtain⟨bm,ob,b1,b2,b3,b4,b5,b6⟩:=hbm;refine⟨bm,ob,b1,b2,λz=>?_,yr b3 (noH b3 (by rw[b4];simp) λvs z=>by rw[b6]at z;cases z),b4,b5,b6⟩;obtain⟨o,es,ep,e,d,_⟩:=FP;rw[<-z,b3]at e;cases e;rw[b6]at d;cases d
  refine afF ((F _ hKb (nsK FP) hBM).run callerA [] aeQ H ⟨[.ref a],[]⟩ [.ref a] [.ref a] _ _ hr e0 (abz aeQ (.ref a)) (.cons rfl .nil) (Z4 H hS hT)) λr s' h=>?_;cases r with
  | error e=>exact False.elim h
  | ok fl =>
   cases fl with
   | next=>exact False.elim h
   | brk=>exact False.elim h
   | cont=>exact False.elim h
   | ret u =>
    obtain⟨v,H',os,bare,un,abx,r',q⟩:=h;have q':v=.bl true:=q;subst q';obtain rfl:u=Value.bool true:=r';refine⟨rfl,⟨λb o e=>?_,λb o e=>un.there b o e (by simp)⟩,os,bare⟩;cases q:H b with
    | none=>exact .inl (un.keep b o e q (by intro z;exact absurd (show b∈([]:List Addr) from z) (by simp)) (by simp))
    | some u =>
     rcases hA b u q with⟨rfl,_,ob,xs,rfl⟩ | ⟨p,hp,rfl,rfl⟩
     ·have z2:=un.tu _ ob _ q;obtain⟨e1,_⟩:=bJ _ _ q;obtain⟨e2,_⟩:=abx _ _ z2;rw[e]at e1;cases e1;exact .inl e2
     ·obtain⟨more,z2⟩:=un.uw p.2 #[] q;have e2:s'.heap.get? p.2=some (PySem.W.tabObj (#[]++more)):=abx _ _ z2;obtain⟨_,_,_,c,_,_,_,_,yh⟩:=(hk p hp).code;have hTA:=(PySem.W.codeHd_of_K KX yh).tab (ht p hp);rw[ht p hp]at e;cases e;exact .inr (.inl ⟨hTA.isCodeTable,rfl,#[],more,rfl,e2⟩)
 have nt:∀p∈ts,p.2≠a:=λp hp z=>by
  have:=ht p hp;rw[z,ha]at this;cases this
 cases hka:K.lookup a with
 | some o =>
  have e:=KX a o hka;rw[ha]at e;cases e
  let H:Hp:=λb=>if (ts.map (·.2)).contains b=true then some (.tbl #[]) else none
  have hin:∀p∈ts,H p.2=some (.tbl #[]):=λp hp=>ae1 (by simp;exact⟨p.1,hp⟩);refine core H (.inr ⟨_,vs.toArray,_,hka,rfl,rfl,rfl,by rw[gC,wN];exact hl,by simpa using rv⟩) hin (λb u z=>?_) λb u z=>?_
  ·by_cases hb:(ts.map (·.2)).contains b=true
   ·have z:(if (ts.map (·.2)).contains b=true then some (HO.tbl #[]) else none)=some u:=z;rw[ae1 hb]at z;cases z;obtain⟨p,hp,rfl⟩:=gj.mp (pO.mp hb);exact ht p hp
   ·have z:(if (ts.map (·.2)).contains b=true then some (HO.tbl #[]) else none)=some u:=z;rw[ae2 hb]at z;cases z
  ·by_cases hb:(ts.map (·.2)).contains b=true
   ·have z:(if (ts.map (·.2)).contains b=true then some (HO.tbl #[]) else none)=some u:=z;rw[ae1 hb]at z;cases z;obtain⟨p,hp,rfl⟩:=gj.mp (pO.mp hb);exact .inr ⟨p,hp,rfl,rfl⟩
   ·have z:(if (ts.map (·.2)).contains b=true then some (HO.tbl #[]) else none)=some u:=z;rw[ae2 hb]at z;cases z
 | none =>
  let H:Hp:=λb=>if b=a then some (.frz { cls:=.type "list",data:=.seq vs.toArray } (.lst (ns.map V.int))) else if (ts.map (·.2)).contains b=true then some (.tbl #[]) else none
  have hin:∀p∈ts,H p.2=some (.tbl #[]):=λp hp=>(ae2 (nt p hp)).trans (ae1 (by simp;exact⟨p.1,hp⟩));have hat:H a=some (.frz { cls:=.type "list",data:=.seq vs.toArray } (.lst (ns.map V.int))):=ae1 rfl;have Ua:∀b u,H b=some u->(b=a/\u=.frz { cls:=.type "list",data:=.seq vs.toArray } (.lst (ns.map V.int)))\/∃p∈ts,b=p.2/\u=.tbl #[]:=λb u z=>by
   by_cases hba:b=a
   ·subst hba;rw[hat]at z;cases z;exact .inl ⟨rfl,rfl⟩
   ·have z:(if b=a then some (HO.frz { cls:=.type "list",data:=.seq vs.toArray } (.lst (ns.map V.int))) else if (ts.map (·.2)).contains b=true then some (HO.tbl #[]) else none)=some u:=z;rw[ae2 hba]at z;by_cases hb:(ts.map (·.2)).contains b=true
    ·rw[ae1 hb]at z;cases z;obtain⟨p,hp,rfl⟩:=gj.mp (pO.mp hb);exact .inr ⟨p,hp,rfl,rfl⟩
    ·rw[ae2 hb]at z;cases z
  refine core H (.inl ⟨_,hat⟩) hin (λb u z=>?_) λb u z=>?_
  ·rcases Ua b u z with⟨rfl,rfl⟩ | ⟨p,hp,rfl,rfl⟩
   ·exact⟨ha,by rw[gh];exact hl,vs,_,rv,ha⟩
   ·exact ht p hp
  ·rcases Ua b u z with⟨rfl,rfl⟩ | h
   ·exact .inl ⟨rfl,hka,_,_,rfl⟩
   ·exact .inr h
def zqe{K:PySem.W.Frag}{H:Hp}{a:Addr}{ns:List Int}{ts:List (Str×Addr)}(zX:(ts.map (·.2)).Nodup)(hS:yx K H a (ns.map V.int))(hT:∀p∈ts,H p.2=some (.tbl #[]))(hk:∀p∈ts,Mw K p.1 p.2) :
  aQ K (a::ts.map (·.2)) H (.frz (ns.map D.int)::ts.map λp=>.tab p.1):=by
 have hv:∀(μ:List Addr) (l:List Int),aq K μ H (l.map D.int) (l.map V.int):=fun μ l=>by
  induction l with
  | nil=>exact aq.nil
  | cons i l ih=>exact aq.cons (ao.aF.mpr rfl) ih
 refine⟨by simp,λn o e=>?_,λi j b oi oj ei ej mi mj hi hj=>?_⟩
 ·match n,e with
  | 0,e =>
   simp at e;subst e;exact⟨a,rfl,_,hS,hv _ ns⟩
  | n+1,e =>
   rw[kW,gM]at e;cases q:ts[n]? with
   | none=>rw[q]at e;cases e
   | some p =>
    rw[q]at e;cases e;have hp:=gW q;refine⟨p.2,by rw[kW,gM,q];rfl,(hk p hp).code,#[],hT p hp,trivial,λpos cv z=>by cases z⟩
 ·match i,j,ei,ej,hi,hj with
  | 0,_,ei,_,_,_=>simp at ei;subst ei;cases mi
  | _+1,0,_,ej,_,_=>simp at ej;subst ej;cases mj
  | i+1,j+1,_,_,hi,hj =>
   rw[kW]at hi hj;have h1:=(gf.mp hi).1;rw[(nF h1 zX).mp (hi.trans hj.symm)]
def holds_ofT(ts:List (Str×Addr)){l:PySem.W.OpenLaw}{k:Nat}{q:Program}{loose:List Str}{XP:(Str->Option Value)->Heap->Prop}{YP:World->Heap->Prop}{d:DefRec}{K:Params->PySem.W.Frag}{F:FD}{x:Str}
  (hn:l.most=some 63) (hdf:d.params.defaults=[]) (hr:cG k callerA) (zX:(ts.map (·.2)).Nodup)
  (hY:∀(w:World) (h:Heap),YP w h->(K w.params).In h/\∀P∈ts.map (·.2),h.get? P=some (PySem.W.tabObj #[]))
  (G:∀(w:World) (mg:Str->Option Value) (fa:Addr) (h:Heap),(K w.params).In h->h.Ns mainGlobals mg->mg d.name=some (.ref fa) ->
   ∃fd:FuncData,(∀(s:Shared) (u:Value),BindsTo s fd ⟨[u],[]⟩ [(x,u)])/\(∀p∈ts,Mw (K w.params) p.1 p.2)/\∀base:Heap,(K w.params).In base->base.Ns mainGlobals mg->BMain mg base->bZ l.prog w (K w.params) mg base qb k fa fd [x] (u0 (K w.params) 1 F))
  (hF:∀ns:List Int,ns.length<=63->∃st,F [.loc 0] (.frz (ns.map D.int)::ts.map λp=>.tab p.1)=.ok (.bl true) st) :
  PySem.W.WalkO q loose XP YP l.row.toRowW d [] (λf vs=>PySem.call f vs):=by
 refine Att.zqd hn hdf λw aeR aeQ mg mb fa o pm cd doc a vs ns G0 Y ho hd yh hmg XH hints hlen hg=>?_;obtain⟨KX,hT⟩:=hY w _ Y;obtain⟨fd,hb,hk,hF'⟩:=G w mg fa _ KX G0.T.g hmg;refine Fi (ts:=ts) KX G0.T.g G0.T.b G0.T.builtins G0.T.nolimit hg G0.T.bmain (λp hp=>hT p.2 (gj.mpr ⟨p,hp,rfl⟩)) hk XH hints (kh hlen (by decide)) hr hF' hb λH hS hTb=>?_;obtain⟨st,e⟩:=hF ns hlen;refine⟨rfl,a::ts.map (·.2),[.loc 0],_,aq.cons (ao.aG.mpr ⟨a,rfl,rfl⟩) aq.nil,zqe zX hS hTb hk,?_⟩;rw[e];exact λv H' μ' _ _ hv=>ao.bw.mp hv
structure yw(K:PySem.W.Frag)(x:Str)(st:Stmt)(f:Addr)(fd:FuncData):Prop where
 ex:∃(oc:Value) (od:Option Addr) (dV kV doc pm:Value) (an:Option Addr) (c:Addr) (ct:Value) (tH:Array (Option Value)),
  fd=PySem.W.fnOf x x (bK st) (aX st) (aC st) dV kV doc pm an (.ref c) ct/\K.lookup f=some ⟨oc,od,.func fd,tH⟩/\PySem.W.codeIn K (.ref c) x=true
 ns:PySem.W.nsIn K mainGlobals x=some (some (.ref f))
 kp:PySem.W.keepIn K (.ref f)=true
def Ba{P:Program}{w:World}{K:PySem.W.Frag}{mg:Str->Option Value}{base:Heap}{x:Str}{st:Stmt}{f:Addr}{fd:FuncData}{N ps:List Str}{k:Nat}{m:MS}(F:yw K x st f fd)(S:cJ N ps (aC st))
  (lU:∀(cdv:Value) (A:Around) (outer:List Env) (s:Shared) (H:Hp),cG k (A.deeper (PyProof.Rows.envOfC x (aC st) s.heap.objs.size f cdv)) ->
   ab6 (vX qb P w K mg base N x (aC st) f cdv A outer s H E0).Jp x->zM (vX qb P w K mg base N x (aC st) f cdv A outer s H E0).Jp (aX st) m):bZ P w K mg base qb (k+1) f fd ps (u0 K ps.length (bh N.length m)):=by
 obtain⟨oc,od,dV,kV,doc,pm,an,c,ct,tH,rfl,lk,yh⟩:=F.ex;refine La lk yh S (λvs H Q E h=>h.1) λA outer s H vs Q E hr h=>?_;obtain⟨hl,μ,ds,Te,hv,hs,hp⟩:=h;have hb:=lU (.ref c) A outer s H hr ⟨rfl,c,f,_,_,rfl,F.ns,lk,rfl,rfl⟩;refine⟨_,zK.Jp hb,μ,startM N.length ds,Te,aq.start N hv,hs,?_⟩;unfold bh at hp;cases hr:m (startM N.length ds) Te with
 | bad=>rw[hr]at hp;exact hp.elim
 | err x st1=>rw[hr]at hp;exact hp.elim
 | ok o st1 =>
  rw[hr]at hp;cases o with
  | rt d=>exact hp
  | nx env=>exact fun σ' H' μ' g qp _=>hp .non H' μ' g qp (ao.bC.mpr rfl)
  | bk env=>exact hp.elim
  | cn env=>exact hp.elim
def zs5{K:PySem.W.Frag}{x:Str}{st:Stmt}{f:Addr}{oc:Value}{od an:Option Addr}{tH:Array (Option Value)}{dV kV doc pm ct:Value}{c:Addr}(n:PySem.W.nsIn K mainGlobals x=some (some (.ref f)))(l:K.lookup f=some ⟨oc,od,.func (PySem.W.fnOf x x (bK st) (aX st) (aC st) dV kV doc pm an (.ref c) ct),tH⟩)
  (h:PySem.W.codeIn K (.ref c) x=true) (k:PySem.W.keepIn K (.ref f)=true):yw K x st f (PySem.W.fnOf x x (bK st) (aX st) (aC st) dV kV doc pm an (.ref c) ct):=⟨⟨oc,od,dV,kV,doc,pm,an,c,ct,tH,rfl,l,h⟩,n,k⟩
def yw.Vf{K:PySem.W.Frag}{x:Str}{f P:Addr}{oc:Value}{od an:Option Addr}{tH:Array (Option Value)}{name qual:Str}{params:Arguments}{body:List Stmt}{scope:Scope}{dV kV doc pm ct:Value}{c:Addr}(n:PySem.W.nsIn K mainGlobals x=some (some (.ref f)))(l:K.lookup f=some ⟨oc,od,.func (PySem.W.fnOf name qual params body scope dV kV doc pm an (.ref c) ct),tH⟩)
  (h:PySem.W.codeHdIn K c P=true) (o:K.lookup P=none):Mw K x P:=⟨⟨f,_,_,c,n,l,rfl,rfl,h⟩,o⟩
def zne:∀(env:aJ) (st:ak) (as:List LA) (st1:ak),qU env st=.ok as st1->as.length=([]:List Expr).length:=by
 intro env st as st1 h;cases h;rfl
def zkm{e:Expr}{es:List Expr}{a:ME}{r:ML}(h:∀(env:aJ) (st:ak) (as:List LA) (st1:ak),r env st=.ok as st1->as.length=es.length) :
  ∀(env:aJ) (st:ak) (as:List LA) (st1:ak),iK a r env st=.ok as st1->as.length=(e::es).length:=by
 intro env st as st1 q;unfold iK at q;cases h1:a env st with
 | bad=>rw[h1]at q;cases q
 | err x s=>rw[h1]at q;cases q
 | ok x s =>
  rw[h1,R.aB]at q;cases h2:r env s with
  | bad=>rw[h2]at q;cases q
  | err x s=>rw[h2]at q;cases q
  | ok xs s2 =>
   rw[h2,R.aB]at q;cases q;rw[gw,gw,h env s xs _ h2]
def Y9{e:Expr}{es:List Expr}{j k:Nat}{cap:List Nat}{x:Str}{r:ML}(h:∀(env:aJ) (st:ak) (as:List LA) (st1:ak),r env st=.ok as st1->as.length=es.length) :
  ∀(env:aJ) (st:ak) (as:List LA) (st1:ak),fY j cap k x r env st=.ok as st1->as.length=(e::es).length:=by
 intro env st as st1 q;unfold fY at q
 split at q
 ·split at q
  ·cases h2:r env st with
   | bad=>rw[h2]at q;cases q
   | err x s=>rw[h2]at q;cases q
   | ok xs s2 =>
    rw[h2,R.aB]at q;cases q;rw[gw,gw,h env st xs _ h2]
  ·cases q
 ·cases q
end M
namespace M
open PySem PySem.Spec L2
noncomputable def xu:Expr->Nat->Expr
 | .Call _ as _ _,i=>as.getD i (.Constant .none 0 ⟨0,0,0,0⟩)
 | e,_=>e
noncomputable def su:Stmt->Expr
 | .Return (some e) _=>e
 | .Assign _ e _=>e
 | _=>.Constant .none 0 ⟨0,0,0,0⟩
noncomputable def Tw:eO:=⟨"",⟨[],[],none,[],[],none,[]⟩,.Constant .none 0 ⟨0,0,0,0⟩,aC (.Pass ⟨0,0,0,0⟩),[]⟩
noncomputable def xn(x:Str)(oW:List Str):Expr->eO
 | .Lambda ps b sc _=>⟨qX x,ps,b,sc,oW⟩
 | _=>Tw
def Y8(h0:X.env.scope=sc0)(nd:l.oW.Nodup)(hc:∀x∈l.oW,sc0.names.lookup x=some .cell)(ix:cap.map (λi=>X.N[i]?)=l.oW.map some):qx X l cap :=
 ⟨nd,λx hx=>by subst h0;exact hc x hx,ix⟩
end M
namespace M
open L2
def zsh{s:ak}{n:Nat}{o:MO}(h:s[n]? = some o)(hc:o.dD=false):(bL s)[n]? = some o:=by
 rw[zq3 h,hc];rfl
def O8(h:s[c]? = some (.clo j (Λ j) ds))(hG:G j (ds++as) (bL s)=.ok d (bL s))(hu:under s.length d):Dk Λ G c as s=.ok d s:=by
 unfold Dk;rw[h];dsimp only;rw[ae1 rfl,hG,dY (by rw[zkz];exact hu)];dsimp only;rw[ae1 ⟨rfl,hu⟩]
def BZ(hi:env[i]? = some (some (.loc n)))(h0:st[n]? = some (.clo j (Λ j) ds))(hA:mA env st=.ok as st1)(h:st1[n]? = some (.clo j (Λ j) ds))(hG:G j (ds++as) (bL st1)=.ok d (bL st1))(hu:under st1.length d) :
  callC Λ G i mA env st=.ok d st1:=by
 unfold callC;rw[hi];dsimp only;rw[h0];dsimp only;rw[hA,R.aB];exact O8 h hG hu
def zm9(hm:m env st=.ok as st1)(hn:bG st1)(hp:jl Λ env st1.length as=some (ds,os))(hF:gc st1 (F (ds++dd) (st1++os))=.ok d st2)(hn2:bG st2) :
  iM Λ F dd m env st=.ok d st2:=by
 unfold iM;rw[hm,R.aB,ae1 hn,hp];dsimp only;rw[hF];dsimp only;rw[ae1 hn2]
@[simp] def ZG:bG []:=λ_ h=>nomatch h
@[simp] def Wq(o:MO)(st:ak):bG (o::st)↔o.dD=false/\bG st:=by simp[bG]
@[simp] def zpo(a b:ak):bG (a++b)↔bG a/\bG b:=by
 simp only[bG,mO];exact⟨λh=>⟨λo ho=>h o (.inl ho),λo ho=>h o (.inr ho)⟩,λh o ho=>ho.elim (h.1 o) (h.2 o)⟩
@[simp] def ZP(l:List D):(MO.lst l).dD=false:=rfl
@[simp] def ZQ(l:List D):(MO.frz l).dD=false:=rfl
@[simp] def ZM(x:PySem.Str):(MO.tab x).dD=false:=rfl
@[simp] def ZX(l:List (List Key×D)):(MO.dic l).dD=false:=rfl
@[simp] def ZW(l:List (Key×D)):(MO.dkc l).dD=false:=rfl
@[simp] def ZV(l:List (Key×D)):(MO.dkf l).dD=false:=rfl
@[simp] def ZR(c:String)(d:D):(MO.exc c d).dD=false:=rfl
@[simp] def ZS(l:List (List Key×D)):(MO.dtf l).dD=false:=rfl
end M
namespace M
open PySem PySem.Spec L2
section
variable  {X:Cx}{elt tg iter c:Expr}{ifs:List Expr}{scope:Scope}{pos:Pos}{N:List Str}{capt:List (Option Nat)}{mi:MI}{g:MG}{t:MT}{me:ME}
end
end M
namespace L2
open PySem PySem.Spec PyProof.Rows
noncomputable def YC(x:Str):It :=
 ⟨λi _=>i<x.cps.size,
  λi H y H'=>∃p c,H p=none/\y=.ref p/\x.cps[i]? = some c/\H'=upd H p (.tup [.int i,.str ⟨#[c]⟩]),
  λi _=>x.cps.size<=i⟩
def zrs{P:Program}{w:World}{K:PySem.W.Frag}{elts:List Expr}{x1:Nat}{pos:Pos}(x:Str)(t:Tok)(e it:Addr)(tO:e≠it) :
  Turn P w K (.Tuple elts x1 pos) (YC x) [e,it] e (λi h=>i<=x.cps.size/\∃old,IsEnum h e it (i:Int) old/\h.IsStrIter it "str_ascii_iterator" x t i) where
 mem:=by simp
 obj:=λi h st b hb=>by
  obtain⟨_,old,h1,h2⟩:=st;rcases gq.mp hb with rfl | hb
  ·exact⟨_,h1,λv z=>by cases z⟩
  ·have e:b=it:=by simpa using hb
   subst e;obtain⟨o,q,c,d⟩:=h2;exact⟨o,q,λv z=>by rw[d]at z;cases z⟩
 keep:=λi h h' st k=>by
  obtain⟨h0,old,h1,h2⟩:=st;refine⟨h0,old,k e (by simp) _ h1,?_⟩;obtain⟨o,q,c,d⟩:=h2;exact⟨o,k it (by simp) o q,c,d⟩
 item:=by
  intro X hP hw hK hc i pins s σ H E I hf st hg;subst hP hw hK;obtain⟨_,old,h1,h2⟩:=st;have hi:i<x.cps.size:=hg;have D:=Draws.strAscii (prog:=X.prog) (w:=X.w) (A:=X.A.in1) (I.ok.hd hc) it x t;refine wpAny_pyNext_enum_itemD D h1 h2 hi tO (by simpa using tO) λu aeY tk hPu Nm hit ht hsz hk=>?_;refine⟨_,rfl,wpAny_letOwnedTupleGo_enum Nm λaeX ad0 KJ=>?_⟩;replace KJ:Heap.SameBut e aeY aeX:=KJ;have zY:e<s.heap.objs.size:=gr h1;have Xm:it<s.heap.objs.size:=by obtain⟨o,q,_⟩:=h2;exact gr q
  have Z3:aeX.get? s.heap.objs.size=some { cls:=.type "tuple",data:=.seq #[.int i tk,u] }:=by rw[KJ.2 _ (mJ zY)];exact ht
  have kk:∀b ob,b∉[e,it]->s.heap.get? b=some ob->aeX.get? b=some ob:=λb ob hb q=>by
   have b1:b≠e:=λz=>hb (by simp[z]);have b2:b≠it:=λz=>hb (by simp[z]);exact KJ.extBut b ob b1 (hk b ob b1 b2 q)
  obtain⟨c,t2,Yd,rfl⟩:=hPu;refine⟨.ref s.heap.objs.size,upd H s.heap.objs.size (.tup [.int i,.str ⟨#[c]⟩]),I.Br hf kk (gb _) ?_,rfl,⟨_,c,I.bJ.fresh (gb _),rfl,Yd,rfl⟩,?_,λb hb=>?_⟩
  ·refine⟨by show 2<=sizeLine;decide,[.int i tk,.str ⟨#[c]⟩ t2],.cons ⟨_,rfl⟩ (.cons ⟨_,rfl⟩ .nil),?_⟩;exact⟨_,Z3,rfl,_,rfl⟩
  ·refine⟨hi,.str ⟨#[c]⟩ t2,?_,?_⟩
   ·have:(i:Int)+1=((i+1:Nat):Int):=by omega
    rw[<-this];exact ad0
   ·obtain⟨o,q,c,d⟩:=hit;exact⟨o,KJ.extBut it o (afb tO) q,c,d⟩
  ·rw[iz]
   ·exact (hf b hb).1
   ·intro z;subst z;rcases gq.mp hb with z | z
    ·exact mJ zY z
    ·exact mJ Xm (by simpa using z)
 done:=by
  intro X hP hw hK hc i pins s σ H E I hf st hg;subst hP hw hK;obtain⟨h0,old,h1,h2⟩:=st;have hi:x.cps.size<=i:=hg;have hii:i=x.cps.size:=by omega
  subst hii;have D:=Draws.strAscii (prog:=X.prog) (w:=X.w) (A:=X.A.in1) (I.ok.hd hc) it x t;exact wpAny_pyNext_enum_endD D h1 h2 λh' eb=>⟨rfl,I.turns (t':=s.toks) (ch:=[e,it]) hf λb o hb q=>eb b o (λz=>hb (by simp[z])) q⟩
 self:=λ_ _ _ _ _ st h=>by
  obtain⟨_,old,h1,h2⟩:=st;exact wpAny_pyIter_enum h1 h
noncomputable def Xx(ta:TA):TI:=fun σ H R=>ta σ H λvs H1=>∃x,vs=[.str x]/\strIterType x = "str_ascii_iterator"/\R (YC x) H1
def IK{X:Cx}{elts:List Expr}{x1:Nat}{xJ:Pos}{a:Expr}{ta:TA}{p pos:Pos}(hg:Gl X "enumerate")(hm:X.mg "enumerate" = none)(ha:PA X [a] ta)(hs:starEach [a] X.env=[(false,eval a X.env)]:=by rfl) :
  PI X (.Tuple elts x1 xJ) (.Call (.Name "enumerate" p) [a] [] pos) (Xx ta):=by
 intro pins s σ H R I h;refine Call_ (Nt I hg hm zok (ae9 (cC (ha pos pins s σ H _ I h) λus s1 zz=>?_) hs rfl));obtain⟨vs,H1,I1,r1,q1⟩:=zz;obtain⟨x,e,hq,q⟩:=q1;subst e;cases r1 with
 | cons r rr =>
  cases rr;obtain⟨t,rfl⟩:=r;refine call_enumerate_str λh' he hit hsz hk=>?_;rw[hq]at hit;refine wpAny_pyIter_enum he ?_;have I2:Inv X pins σ H1 { s1 with heap:=h' }:=I1.kept (t':=s1.toks) hk;refine⟨s1.heap.objs.size+1,[s1.heap.objs.size+1,s1.heap.objs.size],_,_,H1,rfl,I2,zrs x t _ _ (mJ (nM _)),⟨mz _,.none,he,hit⟩,λb hb=>?_,q⟩;have oU:s1.heap.objs.size<=b:=by
   rcases gq.mp hb with z | z
   ·rw[z];exact Nat.le_succ _
   ·have:b=s1.heap.objs.size:=by simpa using z
    rw[this];exact gb _
  exact I1.uH oU (I1.bJ.fresh oU)
end L2
namespace M
open PySem PySem.Spec L2
section
variable  {X:Cx}{a:Expr}{mA:MA}{μ:List Addr}{H:Hp}{p pos xJ:Pos}
noncomputable def vQ(mA:MA):MI:=λenv st=>(mA env st).bind λds st1=>match ds with
 | [.str cs]=>if cs.all (λc=>decide (c<128))=true then .ok (dG 0 (cs.map λc=>D.str [c]),[]) st1 else .bad
 | _=>.bad
@[simp] theorem Ig(env:aJ)(st:ak):vQ mA env st=(mA env st).bind λds st1=>match ds with
 | [.str cs]=>if cs.all (λc=>decide (c<128))=true then .ok (dG 0 (cs.map λc=>D.str [c]),[]) st1 else .bad
 | _=>.bad:=dq rfl
def Kw(cs:List Nat):j9 X μ H (YC (strOf cs)) (dG 0 (cs.map λc=>D.str [c]),[]):=by
 intro H' μ' st' g hs ok;refine⟨λi d e=>?_,by show (strOf cs).cps.size<=_;rw[Zd];simp⟩;obtain⟨y,e1,rfl⟩:=zk7 e;rw[gM]at e1;obtain⟨c,e2,rfl⟩:=mQ.mp e1;refine⟨by show i<(strOf cs).cps.size;simpa using (gf.mp e2).1,?_⟩;rintro x Bf ⟨pp,c',hn,rfl,hc,rfl⟩;have:c'=c:=by
  have h2:cs[i]? = some c':=by simpa using hc
  rw[e2]at h2;exact (ae5 h2).symm
 subst this;refine⟨a_.lay hn,hs.lay hn,ao.aR.mpr ⟨pp,_,rfl,.inl rW,?_⟩⟩;exact aq.cons (ao.aF.mpr rfl) (aq.cons (ao.aO.mpr rfl) aq.nil)
def J9{elts:List Expr}{x1:Nat}(ha:JA X [a] mA)(hg:Gl X "enumerate")(hm:X.mg "enumerate" = none)(hs:starEach [a] X.env=[(false,eval a X.env)]:=by rfl):JI X (.Tuple elts x1 xJ) (.Call (.Name "enumerate" p) [a] [] pos) (vQ mA):=by
 refine JI.of (IK hg hm ha hs) fun σ H R zz=>?_;obtain⟨μ,env,st,hE,hs,hp⟩:=zz;refine⟨μ,env,st,hE,hs,(bF.bind hp).imp ?_⟩;rintro vs H1 ⟨μ1,st1,ds,g1,bx,hv,aP⟩;dsimp only at aP
 split at aP
 ·rename_i cs
  split at aP
  ·rename_i hc;obtain⟨v,rfl,q1⟩:=aq.one hv;obtain rfl:=ao.aO.mp q1;refine⟨strOf cs,rfl,?_,aP _ _ _ (.refl _ _) bx (Kw cs)⟩;unfold strIterType;rw[ae1];show (cs.toArray.all _)=true;rw[List.all_toArray];exact hc
  ·exact aP.elim
 ·exact aP.elim
end
end M
namespace M
open PySem PySem.Spec PySem.SeqAt L2
def ao.kt{K:PySem.W.Frag}{a:Addr}{od:Option Addr}{its:Array Value}{n:Nat}{sl:Array (Option Value)}{ds:List D}(xs:List V)(l:K.lookup a=some ⟨.type "tuple",od,.seq its n,sl⟩)(hs:its.size<=sizeLine)(hv:Vals xs its.toList)(nk:Cm ds=true)
  (hr:∀μ H,aq K μ H ds xs):∀μ H,ao K μ H (.tup ds) (.ref a):=fun μ H=>ao.aR.mpr ⟨a,xs,rfl,.inr ⟨nk,_,its,n,l,rfl,rfl,hs,hv⟩,hr μ H⟩
def aq.n{K:PySem.W.Frag}:∀μ H,aq K μ H [] []:=λ_ _=>aq.nil
def aq.c{K:PySem.W.Frag}{d:D}{ds:List D}{v:V}{vs:List V}(h:∀μ H,ao K μ H d v)(k:∀μ H,aq K μ H ds vs):∀μ H,aq K μ H (d::ds) (v::vs):=fun μ H=>aq.cons (h μ H) (k μ H)
def ao.ks{K:PySem.W.Frag}{cs:List Nat}{y:Str}(hy:y=strOf cs):∀μ H,ao K μ H (.str cs) (.str y):=λ_ _=>ao.aO.mpr (by rw[hy])
def ao.ki{K:PySem.W.Frag}{i:Int}:∀μ H,ao K μ H (.int i) (.int i):=λ_ _=>ao.aF.mpr rfl
def ao.kb{K:PySem.W.Frag}{b:Bool}:∀μ H,ao K μ H (.bl b) (.bl b):=λ_ _=>ao.bw.mpr rfl
section
variable  {X:Cx}{pos:Pos}{x:Str}{L:Nat}
def Kf{d:D}(h:∃a,X.mg x=some (.ref a)/\∀μ H,ao X.K μ H d (.ref a))(hg:Gl X x:=by rfl)(hd:(x==("__debug__":Str))=false:=by decide):JE X (.Name x pos) (ct d):=by
 obtain⟨a,h,hv⟩:=h;exact znf (v:=.ref a) hg h rfl hv hd
noncomputable def Fz(L:Nat)(neg:Bool):D->D->ak->R D
 | d,.loc n,st=>match aA st n with
  | some ds=>if flat d=true/\dR ds=true/\(ds.all λe=>decide (dI e d<L))=true then .ok (.bl (if neg then !(ds.any λe=>jH e d) else ds.any λe=>jH e d)) st else .bad
  | none=>.bad
 | _,_,_=>.bad
def HW{a b:V}{w:Value}(h:RelV a w)(k:RelV b w):a=b:=by
 cases a<;>cases b<;>simp only[RelV]at h k<;>first
  | rfl
  | (subst h;cases k;done)
  | (subst h;injection k with k;subst k;rfl)
  | (obtain⟨_,rfl⟩:=h;cases k;done)
  | (obtain⟨_,rfl⟩:=k;cases h;done)
  | (obtain⟨_,rfl⟩:=h;obtain⟨_,k⟩:=k;injection k with k;subst k;rfl)
  | (obtain⟨_,rfl⟩:=h;obtain⟨_,k⟩:=k;cases k;done)
open Classical in
def KC(hu:X.A.units+L<cLine){pins:List (Addr×Obj)}{s:Shared}{σ:L2.St}{H:Hp}{x y:V}{v u:Value}{Q:VK}{neg:Bool}(I:Inv X pins σ H s)(rx:RelV x v)(ry:RelV y u)(h:rM X (Fz L neg) x y H Q) :
  ∃(p:Addr) (its:List Value) (f:Value->Bool),u=.ref p/\s.heap.IsList p its.toArray/\(∀w∈its,EqAt X.A.in1 s w v (f w))/\Q (.bl (if neg then !its.any f else its.any f)) H:=by
 obtain⟨μ,st,dx,dy,hs,hx,hy,hp⟩:=h;unfold Fz at hp
 split at hp
 ·rename_i n
  split at hp
  ·rename_i ds e
   split at hp
   ·rename_i c;obtain⟨c1,c2,c3⟩:=c;obtain⟨p,q1,rfl⟩:=ao.aG.mp hy;obtain⟨p',xs,r1,r2,r3⟩:=hs.items e;rw[q1]at r1;cases r1;obtain rfl:u=Value.ref p:=ry;obtain⟨its,ra,pl,_⟩:=I.list r2
    let f:Value->Bool:=λw=>decide (∃d z,flat d=true/\ao X.K μ H d z/\RelV z w/\jH d dx=true)
    have key:∀(ds:List D) (xs:List V) (its:List Value),aq X.K μ H ds xs->Vals xs its->dR ds=true->(ds.all λe=>decide (dI e dx<L))=true ->
      (∀w∈its,EqAt X.A.in1 s w v (f w))/\its.any f=ds.any λe=>jH e dx:=by
     intro ds
     induction ds with
     | nil =>
      intro xs its h1 h2 _ _;rw[aq]at h1;subst h1;cases h2;exact⟨λw hw=>(nomatch hw),rfl⟩
     | cons d ds ih =>
      intro xs its h1 h2 h3 h4;rw[aq]at h1;obtain⟨z,r,rfl,g1,g2⟩:=h1;cases h2 with
      | cons rz rr =>
       rw[zfr,gB]at h3;rw[List.all_cons,gB]at h4;obtain⟨i1,i2⟩:=ih _ _ g2 rr h3.2 h4.2;have fe:∀{w:Value},RelV z w->f w=jH d dx:=λ{w} hw=>by
        cases q:jH d dx with
        | true=>exact ae_ ⟨d,z,h3.1,g1,hw,q⟩
        | false =>
         refine ae4 ?_;rintro ⟨d',z',k1,k2,k3,k4⟩;have ez:z'=z:=HW k3 hw;subst ez;rw[zny I d' d k1 h3.1 k2 g1]at k4;rw[k4]at q;cases q
       refine⟨λw hw=>?_,?_⟩
       ·rcases gq.mp hw with rfl | hw
        ·rw[fe rz];exact (Lj I d dx h3.1 c1 (by have:=afa h4.1;show X.A.units+1+_<_;omega) g1 hx rz rx).1
        ·exact i1 w hw
       ·rw[mY,mY,fe rz,i2]
    obtain⟨k1,k2⟩:=key ds xs its r3 ra c2 c3;refine⟨p,its,f,rfl,pl.isList,k1,?_⟩;rw[k2];exact hp.ret hs (ao.bw.mpr rfl)
   ·exact hp.elim
  ·exact hp.elim
 ·exact hp.elim
def Cg(hu:X.A.units+L<cLine):d9 X (compareOp .In) (rM X (Fz L false)):=by
 intro pins s σ H x y v u Q I rx ry h;obtain⟨p,its,f,rfl,pl,k1,q⟩:=KC hu I rx ry h;refine SeqAt.in_listAt f pl (λw hw=>k1 w (by simpa using hw)) ⟨.bl _,H,I,rfl,?_⟩;rw[show its.toArray.any f=its.any f by simp];exact q
end
end M
namespace M
open PySem PySem.Spec L2
section
variable  {prog:Program}{w:World}{A:Around}{E:Value->Shared->Prop}{s:Shared}
end
section
variable  {X:Cx}{es:List Expr}{pos:Pos}
end
end M
namespace M
namespace Tr
noncomputable def ig:Nat->Tr->Option Tr
 | 0,t=>some t
 | n+1,t=>(step t).bind (ig n)
def v9{n:Nat}{t u:Tr}(h:step t=some u):ig (n+1) t=ig n u:=by rw[ig,h];rfl
theorem Sw:∀{a b:Nat} {t u:Tr},ig a t=some u->ig (a+b) t=ig b u
 | 0,b,t,u,h=>by rw[ig]at h;cases h;rw[nG]
 | a+1,b,t,u,h=>by
  cases e:step t with
  | none=>rw[ig,e]at h;cases h
  | some x =>
   rw[v9 e]at h;rw[pM,v9 e];exact Sw h
def zrj{t u:Tr}(h:step t=some u):val t=false:=by
 cases e:val t with
 | false=>rfl
 | true=>rw[Uy e]at h;cases h
theorem zmy{r:Tr}:∀{n:Nat} {l l':Tr},ig n l=some l'->ig n (.jn l r)=some (.jn l' r)
 | 0,l,l',h=>by rw[ig]at h ⊢;cases h;rfl
 | n+1,l,l',h=>by
  cases e:step l with
  | none=>rw[ig,e]at h;cases h
  | some x =>
   rw[v9 e]at h;rw[v9 (u:=.jn x r) (by rw[zhm (zrj e),e];rfl)];exact zmy h
theorem zpm{l:Tr}(hl:val l=true):∀{n:Nat} {r r':Tr},ig n r=some r'->ig n (.jn l r)=some (.jn l r')
 | 0,l,l',h=>by rw[ig]at h ⊢;cases h;rfl
 | n+1,r,r',h=>by
  cases e:step r with
  | none=>rw[ig,e]at h;cases h
  | some x =>
   rw[v9 e]at h;rw[v9 (u:=.jn l x) (by rw[zf7 hl (zrj e),e];rfl)];exact zpm hl h
theorem zl1:∀{n:Nat} {t u:Tr},ig n t=some u->run n t=(u,n)
 | 0,t,u,h=>by rw[ig]at h;cases h;rfl
 | n+1,t,u,h=>by
  cases e:step t with
  | none=>rw[ig,e]at h;cases h
  | some x =>
   rw[v9 e]at h;rw[zie e,zl1 h]
def Ow{n m:Nat}{t v:Tr}(h:ig n t=some v)(hv:val v=true)(hm:n<=m):run m t=(v,n):=by
 obtain⟨k,rfl⟩:=Nat.exists_eq_add_of_le hm;rw[Oz,zl1 h,SX (Uy hv)];rfl
def Ev(t:Tr)(n:Nat)(v:Tr):Prop:=ig n t=some v/\val v=true
def Ev.v{v:Tr}(h:Tr.val v=true):Ev v 0 v:=⟨rfl,h⟩
def Ev.to{t v:Tr}{n m:Nat}(h:Ev t n v)(e:n=m):Ev t m v:=e ▸ h
def Ev.run{t v:Tr}{n m:Nat}(h:Ev t n v)(hm:n<=m):Tr.run m t=(v,n):=Ow h.1 h.2 hm
def Ev.both{l r a b:Tr}{n m:Nat}(h:Ev l n a)(k:Ev r m b):ig (n+m) (.jn l r)=some (.jn a b):=by
 rw[Sw (zmy h.1)];exact zpm h.2 k.1
def Ev.jv{l r a b:Tr}{n m:Nat}(h:Ev l n a)(k:Ev r m b)(hv:Tr.val (.jn a b)=true):Ev (.jn l r) (n+m) (.jn a b):=⟨h.both k,hv⟩
def Ev.red{l r a b u v:Tr}{n m k:Nat}(h:Ev l n a)(h2:Ev r m b)(hn:Tr.val (.jn a b)=false)(hr:fG a b=some u)(h3:Ev u k v):Ev (.jn l r) (n+m+1+k) v:=by
 refine⟨?_,h3.2⟩;rw[Nat.add_assoc (n+m),Sw (h.both h2),Nat.add_comm 1 k,v9 (u:=u) (by rw[zfv h.2 h2.2 hn,hr])];exact h3.1
noncomputable abbrev tS:Tr:=.lf [83]
noncomputable abbrev tK:Tr:=.lf [75]
noncomputable abbrev tI:Tr:=.jn (.jn tS tK) tK
def dM(v:Tr):val (.jn tK v)=val v:=by rw[U4];simp
def Hg(v:Tr):val (.jn tS v)=val v:=by rw[U4];simp
def Dv(u v:Tr):val (.jn (.jn tS u) v)=(val v && val u):=by rw[UG,Hg];simp[vG]
def U_(u v:Tr):val (.jn (.jn tK u) v)=false:=by rw[UG];simp[vG]
def zlm(u v w:Tr):val (.jn (.jn (.jn tS u) v) w)=false:=by rw[UG];simp[vG]
def uQ:val tI=true:=by decide
def Ev.K{l r v w:Tr}{n m:Nat}(h:Ev l n (.jn tK v))(h2:Ev r m w):Ev (.jn l r) (n+m+1) v:=by
 have hv:val v=true:=by rw[<-dM];exact h.2
 exact (h.red h2 (U_ _ _) (by rw[fG,ae1 rfl]) (Ev.v hv)).to (by omega)
def Ev.S{l r u v w x:Tr}{n m k:Nat}(h:Ev l n (.jn (.jn tS u) v))(h2:Ev r m w)(h3:Ev (.jn (.jn u w) (.jn v w)) k x):Ev (.jn l r) (n+m+1+k) x :=
 h.red h2 (zlm _ _ _) rfl h3
def Ev.I{r w:Tr}{m:Nat}(h:Ev r m w):Ev (.jn tI r) (m+2) w:=by
 have hK:Ev tK 0 tK:=Ev.v rfl;have hw:Ev w 0 w:=Ev.v h.2;have h1:Ev (.jn tK w) 0 (.jn tK w):=Ev.v (by rw[dM];exact h.2);exact ((Ev.v uQ).S h (h1.K h1)).to (by omega)
def Ev.det{t v w:Tr}{n m:Nat}(h:Ev t n v)(k:Ev t m w):n=m/\v=w:=by
 have a:=h.run (Nat.le_add_right n m);have b:=k.run (Nat.le_add_left m n);rw[a]at b;exact⟨congrArg Prod.snd b,congrArg Prod.fst b⟩
end Tr
end M
namespace M
namespace Tr
def Ev.comp{l r a b v:Tr}{n m k:Nat}(h:Ev l n a)(h2:Ev r m b)(h3:Ev (.jn a b) k v):Ev (.jn l r) (n+m+k) v:=by
 refine⟨?_,h3.2⟩;rw[Sw (h.both h2)];exact h3.1
inductive cI (p:Tr):List Tr->Nat->Tr->Prop
 | nil (h:val p=true):cI p [] 0 p
 | snoc (ts:List Tr) (t w v:Tr) (n m:Nat) (h:cI p ts n w) (ht:val t=true) (k:Ev (.jn w t) m v):cI p (ts++[t]) (n+m) v
noncomputable def apps(p:Tr)(ts:List Tr):Tr:=ts.foldl (λw t=>.jn w t) p
def zhi(p:Tr)(ts:List Tr)(t:Tr):apps p (ts++[t])=.jn (apps p ts) t:=by simp[apps]
def cI.apps{p v:Tr}{ts:List Tr}{n:Nat}(h:cI p ts n v):Ev (Tr.apps p ts) n v:=by
 induction h with
 | nil h=>exact Ev.v h
 | snoc ts t w v n m h ht k ih =>
  rw[zhi];exact (ih.comp (Ev.v ht) k).to (by omega)
noncomputable def hold(ts:List Tr):Tr:=ts.foldl (λw t=>.jn (.jn tS w) (.jn tK t)) tI
def Zf(ts:List Tr)(t:Tr):hold (ts++[t])=.jn (.jn tS (hold ts)) (.jn tK t):=by simp[hold]
theorem zrp:∀(ts:List Tr) (w:Tr),val w=true->(∀t∈ts,val t=true)->val (ts.foldl (λw t=>.jn (.jn tS w) (.jn tK t)) w)=true
 | [],w,h,_=>h
 | t::ts,w,h,k=>zrp ts _ (by rw[Dv,dM,h,k t (by simp)];rfl) λx hx=>k x (by simp[hx])
def Bo{ts:List Tr}(h:∀t∈ts,val t=true):val (hold ts)=true:=zrp ts tI uQ h
def YT{p v:Tr}{ts:List Tr}{n:Nat}(hp:Tr.val p=true)(h:cI p ts n v):val (hold ts)=true/\Ev (.jn (hold ts) p) (n+2+2*ts.length) v:=by
 induction h with
 | nil h=>exact⟨uQ,Ev.I (Ev.v h)⟩
 | snoc ts t w v n m h ht k ih =>
  obtain⟨i1,i2⟩:=ih;have hv:val (hold (ts++[t]))=true:=by rw[Zf,Dv,dM,ht,i1];rfl
  refine⟨hv,?_⟩;have e1:Ev (.jn (.jn tK t) p) 1 t:=((Ev.v (v:=.jn tK t) (by rw[dM];exact ht)).K (Ev.v hp)).to (by omega);have e2:=(Ev.v hv);rw[Zf]at e2 ⊢;refine (e2.S (Ev.v hp) (i2.comp e1 k)).to ?_;rw[gG,m7];omega
noncomputable def cQ:Nat->Tr->Tr
 | 0,v=>v
 | n+1,v=>.jn tK (cQ n v)
theorem zh6{v:Tr}(h:val v=true):∀n,val (cQ n v)=true
 | 0=>h
 | n+1=>by rw[cQ,dM];exact zh6 h n
noncomputable def wg:Nat->Tr
 | 0=>tI
 | 1=>tK
 | m+2=>.jn (.jn tS (.jn tK tK)) (wg (m+1))
noncomputable def Ca:Nat->Nat
 | 0=>2
 | 1=>0
 | m+2=>2+Ca (m+1)
theorem zoh:∀m,val (wg m)=true
 | 0=>rfl
 | 1=>rfl
 | m+2=>by rw[wg,Dv,zoh (m+1)];rfl
theorem My{a:Tr}(h:val a=true):∀m,Ev (.jn (wg m) a) (Ca m) (cQ m a)
 | 0=>Ev.I (Ev.v h)
 | 1=>Ev.v (by rw[show (.jn (wg 1) a:Tr)=.jn tK a from rfl,dM];exact h)
 | m+2=>by
  have hv:=zoh (m+2);have ih:=My h (m+1);have e1:Ev (.jn (.jn tK tK) a) 1 tK:=((Ev.v (v:=.jn tK tK) rfl).K (Ev.v h)).to (by omega);rw[wg]at hv ⊢;exact ((Ev.v hv).S (Ev.v h) (e1.jv ih (by rw[dM];exact zh6 h _))).to (by rw[Ca];omega)
noncomputable def aM(k many:Nat):Tr:=cQ k (wg (many - 1 - k))
def z8(k many:Nat):val (aM k many)=true:=zh6 (zoh _) _
def zms{w:Tr}(hw:val w=true):∀(ts:List Tr) (j:Nat),(∀t∈ts,val t=true)->cI (cQ (ts.length+j) w) ts ts.length (cQ j w):=by
 intro ts
 induction hn:ts.length generalizing ts with
 | zero =>
  intro j h;have:ts=[]:=nA.mp hn;subst this;rw[nG];exact .nil (zh6 hw _)
 | succ n ih =>
  intro j h;obtain⟨us,t,rfl⟩:∃us t,ts=us++[t]:=by
   rcases List.eq_nil_or_concat ts with rfl | ⟨us,t,rfl⟩
   ·cases hn
   ·exact⟨us,t,by rw[List.concat_eq_append]⟩
  have hl:us.length=n:=by simpa using hn
  have h1:=ih us hl (j+1) λx hx=>h x (by simp[hx]);rw[show n+1+j=n+(j+1) by omega];refine .snoc _ _ _ _ _ 1 h1 (h t (by simp)) ?_;exact ((Ev.v (v:=.jn tK (cQ j w)) (by rw[dM];exact zh6 hw _)).K (Ev.v (h t (by simp)))).to (by omega)
def cI.trans{p w v:Tr}{ts us:List Tr}{n m:Nat}(h:cI p ts n w)(k:cI w us m v):cI p (ts++us) (n+m) v:=by
 induction k with
 | nil hw=>simpa using h
 | snoc us t x v m k hk ht e ih =>
  rw[<-gP,<-Nat.add_assoc];exact .snoc _ _ _ _ _ _ ih ht e
def zii{ts:List Tr}{k:Nat}{t:Tr}(hv:∀x∈ts,val x=true)(hk:ts[k]? = some t):cI (aM k ts.length) ts (k+Ca (ts.length - 1 - k)+(ts.length - 1 - k)) t:=by
 have hl:=(gf.mp hk).1;have ht:val t=true:=hv t (gW hk);have e:ts=ts.take k++[t]++ts.drop (k+1):=by
  rw[gP];have h1:ts.drop k=t::ts.drop (k+1):=by
   rw[n6 hl];rw[gK hl]at hk;cases hk;rfl
  rw[List.singleton_append,<-h1,List.take_append_drop]
 have l1:(ts.take k).length=k:=by rw[km];omega
 have l2:(ts.drop (k+1)).length=ts.length - 1 - k:=by rw[mL];omega
 have a1:=zms (zoh (ts.length - 1 - k)) (ts.take k) 0 λx hx=>hv x (m_ hx);have a2:=zms ht (ts.drop (k+1)) 0 λx hx=>hv x (ni hx);rw[l1,Nat.add_zero]at a1;rw[l2,Nat.add_zero]at a2;have a3:cI (aM k ts.length) (ts.take k++[t]) (k+Ca (ts.length - 1 - k)) (cQ (ts.length - 1 - k) t):=.snoc _ _ _ _ _ _ a1 ht (My ht _);have:=a3.trans a2;rw[<-e]at this;exact this
theorem Iu:∀m,Ca m<=2*m+2
 | 0=>by decide
 | 1=>by decide
 | m+2=>by have:=Iu (m+1);rw[Ca];omega
theorem zpa(v:Tr):∀n,dp (cQ n v)=dp v+n
 | 0=>rfl
 | n+1=>by
  rw[cQ,dp,zpa v n];have:dp tK=0:=rfl;omega
theorem yl:∀m,dp (wg m)<=m+2
 | 0=>by decide
 | 1=>by decide
 | m+2=>by
  have:=yl (m+1);rw[wg,dp];have e:dp (.jn tS (.jn tK tK))=2:=rfl;rw[e];omega
end Tr
end M
namespace M
open Tr
open Classical in
theorem zss:∀(t u:Tr),jH (enc t) (enc u)=decide (t=u)
 | .lf a,.lf b=>by
  rw[enc,enc,jH,mU];simp
 | .lf a,.jn l r=>by rw[enc,enc];simp[jH]
 | .jn l r,.lf a=>by rw[enc,enc];simp[jH]
 | .jn l r,.jn l' r'=>by
  have h1:=zss l l';have h2:=zss r r';rw[enc,enc,jH,jW,jW,h1,h2];by_cases e1:l=l'
  ·by_cases e2:r=r'
   ·subst e1 e2;simp[jH,jW]
   ·have:(Tr.jn l r=.jn l' r')=False:=by simp[e2]
    simp[e2]
  ·simp[e1]
open Classical in
def zrd(t u:Tr)(st:ak)(h:dp t<800):jf 800 (enc t) (enc u) st=.ok (.bl (decide (t=u))) st:=by
 have hc:=ztw (enc t) (enc u);rw[Dc]at hc;have hr:jV 800 (enc t) (enc u) st=some (decide (t=u)):=by
  have h1:=zj7 t;have h2:=zj7 u;have h3:=zss t u;rw[<-h3];have h4:dI (enc t) (enc u)<800:=by omega
  cases t<;>cases u<;>(rw[enc,enc]at *;simp only[jV];rw[ae1 ⟨h1,h2,h4⟩])
 unfold jf;rw[hr]
end M
namespace M
open L2
end M
namespace M
open PySem PySem.Spec L2
section
variable  {X:Cx}
end
end M
namespace M
open L2
noncomputable def valN(kvs:List (Key×D))(k:Key):Option D:=(kvs.find? λkv=>decide (kv.1=k)).map (·.2)
def M4(p:Key×D)(r:List (Key×D))(k:Key):valN (p::r) k=if p.1=k then some p.2 else valN r k:=by
 unfold valN;rw[m9];by_cases h:p.1=k
 ·simp[h]
 ·simp[h]
noncomputable def putN(kvs:List (Key×D))(k:Key)(d:D):List (Key×D) :=
 if (kvs.any λkv=>decide (kv.1=k))=true then kvs.map (λkv=>if kv.1=k then (kv.1,d) else kv) else kvs++[(k,d)]
noncomputable def jR(kvs more:List (Key×D)):List (Key×D):=more.foldl (λacc kv=>putN acc kv.1 kv.2) kvs
noncomputable def Uk:ME:=λ_ st=>.ok (.loc st.length) (st++[.dkc []])
@[simp] def aeC(env:aJ)(st:ak):Uk env st=.ok (.loc st.length) (st++[.dkc []]):=dq rfl
noncomputable def zj:D->List D->ak->R D
 | .loc n,[k,d],st=>match st[n]?,keyOf k with
  | some (.dkc kvs),some kk=>.ok ((valN kvs kk).getD d) st
  | _,_=>.bad
 | _,_,_=>.bad
noncomputable def iW:D->D->D->ak->R Unit
 | .loc n,k,d,st=>match st[n]?,keyOf k with
  | some (.dkc kvs),some kk=>if kvs.length<1000000 then .ok () (st.set n (.dkc (putN kvs kk d))) else .bad
  | _,_=>.bad
 | _,_,_,_=>.bad
noncomputable abbrev Sq:=aJ->ak->R (List (D×D))
noncomputable def iH:Sq:=λ_ st=>.ok [] st
noncomputable def cF(a b:ME)(r:Sq):Sq:=λenv st=>(a env st).bind λx st1=>(b env st1).bind λy st2=>(r env st2).bind λps fO=>.ok ((x,y)::ps) fO
noncomputable def vp:List (D×D)->Option (List (Key×D))
 | []=>some []
 | (k,d)::r=>match keyOf k,vp r with | some kk,some l=>some ((kk,d)::l) | _,_=>none
noncomputable def fL(m:Sq):ME:=λenv st=>(m env (st++[.dkc []])).bind λps st1=>match vp ps,st1[st.length]? with
 | some kvs,some (.dkc [])=>if kvs.length<=15 then .ok (.loc st.length) (st1.set st.length (.dkc (jR [] kvs))) else .bad
 | _,_=>.bad
@[simp] def O4(env:aJ)(st:ak):iH env st=.ok [] st:=dq rfl
@[simp] def zry(a b:ME)(r:Sq)(env:aJ)(st:ak):cF a b r env st=(a env st).bind λx st1=>(b env st1).bind λy st2=>(r env st2).bind λps fO=>.ok ((x,y)::ps) fO:=dq rfl
end M
namespace M
open PySem PySem.Spec L2
section
variable  {X:Cx}{K:PySem.W.Frag}{μ:List Addr}{H:Hp}
theorem aH.valN:∀{kvs:List (Key×D)} {ws:List (Key×V)},aH K μ H kvs ws ->
  (M.valN kvs k=none/\iV ws k=none)\/∃d v,M.valN kvs k=some d/\iV ws k=some v/\ao K μ H d v
 | [],ws,h=>.inl ⟨rfl,by rw[aH]at h;rw[h];rfl⟩
 | (j,d)::r,ws,h=>by
  obtain⟨v,r',rfl,h1,h2⟩:=h;rw[M4];by_cases e:j=k
  ·rw[ae1 e];exact .inr ⟨d,v,rfl,zh7 (p:=(j,v)) e,h1⟩
  ·rw[ae2 e,ziy (p:=(j,v)) e];exact aH.valN h2
theorem aH.ab2:∀{kvs:List (Key×D)} {ws:List (Key×V)},aH K μ H kvs ws->(kvs.any λkv=>decide (kv.1=k))=(ws.any λkv=>decide (kv.1=k))
 | [],ws,h=>by rw[aH]at h;rw[h];rfl
 | (j,d)::r,ws,h=>by
  obtain⟨v,r',rfl,h1,h2⟩:=h;rw[mY,mY,aH.ab2 h2]
theorem aH.HS(hv:ao K μ H d v):∀{kvs:List (Key×D)} {ws:List (Key×V)},aH K μ H kvs ws->aH K μ H (kvs.map λkv=>if kv.1=k then (kv.1,d) else kv) (ws.map λkv=>if kv.1=k then (kv.1,v) else kv)
 | [],ws,h=>by rw[aH]at h;subst h;exact rfl
 | (j,d')::r,ws,h=>by
  obtain⟨v',r',rfl,h1,h2⟩:=h;rw[gm,gm];by_cases e:j=k
  ·rw[ae1 e,ae1 e];exact⟨v,_,rfl,hv,aH.HS hv h2⟩
  ·rw[ae2 e,ae2 e];exact⟨v',_,rfl,h1,aH.HS hv h2⟩
theorem aH.Tf:∀{kvs:List (Key×D)} {ws:List (Key×V)},aH K μ H kvs ws->ao K μ H d v->aH K μ H (kvs++[(k,d)]) (ws++[(k,v)])
 | [],ws,h,hv=>by rw[aH]at h;subst h;exact⟨v,[],rfl,hv,rfl⟩
 | (j,d')::r,ws,h,hv=>by
  obtain⟨v',r',rfl,h1,h2⟩:=h;exact⟨v',r'++[(k,v)],rfl,h1,aH.Tf h2 hv⟩
def aH.putN(h:aH K μ H kvs ws)(hv:ao K μ H d v):aH K μ H (M.putN kvs k d) (putK ws k v):=by
 unfold M.putN putK;rw[h.ab2]
 split
 ·exact aH.HS hv h
 ·exact h.Tf hv
theorem aH.jR:∀{more:List (Key×D)} {ms:List (Key×V)} {kvs:List (Key×D)} {ws:List (Key×V)},aH K μ H more ms->aH K μ H kvs ws->aH K μ H (M.jR kvs more) (jT ws ms)
 | [],ms,kvs,ws,h,k=>by rw[aH]at h;subst h;exact k
 | (j,d)::r,ms,kvs,ws,h,k=>by
  obtain⟨v,r',rfl,h1,h2⟩:=h;show aH K μ H (M.jR (M.putN kvs j d) r) (jT (putK ws j v) r');exact aH.jR h2 (k.putN h1)
def aQ.dkc{st:ak}{n:Nat}{kvs:List (Key×D)}(h:aQ K μ H st)(e:st[n]? = some (.dkc kvs)):∃p ws,μ[n]? = some p/\H p=some (.dK ws)/\aH K μ H kvs ws:=by
 obtain⟨p,h1,xs,h2,h3⟩:=h.at_ n _ e;exact⟨p,xs,h1,h2,h3⟩
def ao.key(h:ao K μ H d v)(e:keyOf d=some k):v=kV k:=by
 cases d with
 | int i=>rw[ao.aF]at h;cases e;exact h
 | str cs=>rw[ao.aO]at h;cases e;exact h
 | _=>cases e
end
section
variable  {X:Cx}{a b o i:Expr}{ma mb:ME}{pos:Pos}
def Kl:JE X (.Dict [] [] pos) Uk:=by
 refine JE.of Jc fun σ H Q zz=>?_;obtain⟨μ,env,st,hE,hs,hp⟩:=zz;refine λp hn=>?_;have hr:fM X.K (μ++[p]) (upd H p (.dK [])) p (.dkc []):=⟨[],rW,rfl⟩;exact hp _ _ (μ++[p]) (a_.new hn) (hs.new hn hr) (ao.aG.mpr ⟨p,by rw[<-hs.len];simp,rfl⟩)
def zsk(hu:X.A.units+1<cLine):rY X "dict.get" (GX X zj):=by
 rintro pins s σ H x xs v us Q I rx En ⟨μ,st,d,ds,hs,hx,lR,hp⟩;unfold zj at hp
 split at hp
 ·rename_i n k dd
  split at hp
  ·rename_i kvs kk e1 e2;obtain⟨p,q1,rfl⟩:=ao.aG.mp hx;obtain⟨y,z,rfl,q2,q5⟩:=aq.two lR;obtain rfl:=q2.key e2;obtain⟨p',ws,r1,r2,r3⟩:=hs.dkc e1;rw[q1]at r1;cases r1;cases En with
   | cons ry rr =>
    cases rr with
    | cons rz rr =>
     cases rr;obtain rfl:v=Value.ref p:=rx;refine Yr hu I (uK.k r2) ry rz λw' s' I' yP=>⟨_,H,I',yP,?_⟩;rcases r3.valN (k:=kk) with⟨z1,z2⟩ | ⟨d',v',z1,z2,z3⟩
     ·rw[z1]at hp;rw[z2];exact hp.ret hs q5
     ·rw[z1]at hp;rw[z2];exact hp.ret hs z3
  ·exact hp.elim
 ·exact hp.elim
def aay(hu:X.A.units+1<cLine):Yy X (Tn X iW):=by
 rintro pins s σ H o i v ov iv u Q I ro ri rv ⟨μ,st,d1,d2,d3,hs,h1,h2,h3,hp⟩;unfold iW at hp
 split at hp
 ·rename_i n k d
  split at hp
  ·rename_i kvs kk e1 e2
   split at hp
   ·rename_i hl;obtain⟨p,q1,rfl⟩:=ao.aG.mp h1;obtain rfl:=h2.key e2;obtain⟨p',ws,r1,r2,r3⟩:=hs.dkc e1;rw[q1]at r1;cases r1;obtain rfl:ov=Value.ref p:=ro;refine Gk hu I (Ss.k r2 (by rw[<-r3.len];exact gQ hl (by decide))) ri rv λs' I'=>⟨_,I',?_⟩;have g:Ext H (upd H p (.dK (putK ws kk v))):=Ext.mut r2 (λ_ z=>nomatch z) (λ_ _ z=>nomatch z);have g':a_ μ H μ (upd H p (.dK (putK ws kk v))):=⟨⟨[],by simp⟩,g⟩;exact hp () _ μ g' (hs.put e1 rfl rfl q1 g ⟨_,rW,(r3.putN h3).mono g'⟩) trivial
   ·exact hp.elim
  ·exact hp.elim
 ·exact hp.elim
def zH(K:PySem.W.Frag)(μ:List Addr)(H:Hp):List (D×D)->List (V×V)->Prop
 | [],vs=>vs=[]
 | (k,d)::r,vs=>∃u v s,vs=(u,v)::s/\ao K μ H k u/\ao K μ H d v/\zH K μ H r s
theorem zH.keys{K:PySem.W.Frag}{μ:List Addr}{H:Hp}:∀{ps:List (D×D)} {vs:List (V×V)} {kvs:List (Key×D)},zH K μ H ps vs->vp ps=some kvs->∃ws:List (Key×V),vs=ws.map (λkv=>(kV kv.1,kv.2))/\aH K μ H kvs ws
 | [],vs,kvs,h,e=>by cases e;cases h;exact⟨[],rfl,rfl⟩
 | (k,d)::r,vs,kvs,h,e=>by
  obtain⟨u,v,s,rfl,h1,h2,h3⟩:=h;unfold vp at e
  split at e
  ·rename_i kk l e1 e2;cases e;obtain⟨ws,rfl,q⟩:=zH.keys h3 e2;obtain rfl:=h1.key e1;exact⟨(kk,v)::ws,rfl,v,ws,rfl,h2,q⟩
  ·cases e
noncomputable abbrev Ti(X:Cx):Rel (List (D×D)) (List (V×V)):=fun μ H d v=>zH X.K μ H d v
def JPs(X:Cx)(pos:Pos)(keys:List (Option Expr))(values:List Expr)(m:Sq):Prop :=
 ∃z_,PPs X pos keys values z_/\∀(σ:L2.St) (H:Hp) (Q:List (V×V)->Hp->Prop) (μ:List Addr) (env:aJ) (st:ak),dm X.K μ H env σ->aQ X.K μ H st->bF X μ H (Ti X) Q (m env st)->xK z_ σ H Q
def Cz:JPs X pos [] [] iH:=⟨[],Pn,fun σ H Q μ env st hE hs hp=>hp.ret hs rfl⟩
def zn8{k v:Expr}{ks:List (Option Expr)}{vs:List Expr}{mk mv:ME}{r:Sq}(hk:JE X k mk)(hv:JE X v mv)(hr:JPs X pos ks vs r):JPs X pos (some k::ks) (v::vs) (cF mk mv r):=by
 obtain⟨z_,hp,hq⟩:=hr;refine⟨(tM X mk,tM X mv)::z_,Io hk hv hp,fun σ H Q μ env st hE hs h=>?_⟩;refine⟨μ,env,st,hE,hs,(bF.bind h).imp ?_⟩;rintro x H1 ⟨μ1,st1,d1,g1,bx,h1,p1⟩;refine⟨μ1,env,st1,hE.mono g1,bx,(bF.bind p1).imp ?_⟩;rintro y H2 ⟨μ2,st2,d2,g2,fQ,h2,p2⟩;refine hq σ H2 _ μ2 env st2 ((hE.mono g1).mono g2) fQ ((bF.bind p2).imp ?_);rintro ps H3 ⟨μ3,fO,d3,g3,za,h3,p3⟩;exact p3.ret za ⟨x,y,ps,rfl,(h1.mono g2 _).mono g3 _,h2.mono g3 _,h3⟩
def CJ{keys:List (Option Expr)}{values:List Expr}{m:Sq}(h:JPs X pos keys values m)(uG:keys.all (·.isSome)=true:=by rfl)(hl:keys.length=values.length:=by rfl)(h0:keys≠[]:=by exact λz=>nomatch z)(h15:keys.length<=15:=by decide):JE X (.Dict keys values pos) (fL m):=by
 obtain⟨z_,hp,hq⟩:=h;refine JE.of (Qa hp uG hl h0 h15) fun σ H Q zz=>?_;obtain⟨μ,env,st,hE,hs,hP⟩:=zz;refine λp hn=>?_;have hr:fM X.K (μ++[p]) (upd H p (.dK [])) p (.dkc []):=⟨[],rW,rfl⟩;have bx:=hs.new hn hr;have g0:a_ μ H (μ++[p]) (upd H p (.dK [])):=a_.new hn;refine hq σ _ _ (μ++[p]) env (st++[.dkc []]) (hE.mono g0) bx ?_;have hP1:=bF.mono g0 hP;refine (bF.bind (rel:=Ti X) hP1).imp ?_;rintro ps H2 ⟨μ2,st2,d2,g2,fQ,h2,p2⟩;dsimp only at p2
 split at p2
 ·rename_i kvs e1 e2
  split at p2
  ·rename_i adY;have hmu:(μ++[p])[st.length]? = some p:=by rw[<-hs.len];simp
   have hm2:=g2.get hmu;obtain⟨p',ws0,r1,r2,r3⟩:=fQ.dkc e2;rw[hm2]at r1;cases r1;rw[aH]at r3;subst r3;obtain⟨ws,rfl,q⟩:=h2.keys e1;refine⟨r2,ws,rfl,by rw[<-q.len];exact adY,?_⟩;have g:Ext H2 (upd H2 p (.dK (jT [] ws))):=Ext.mut r2 (λ_ z=>nomatch z) (λ_ _ z=>nomatch z);have g':a_ μ2 H2 μ2 (upd H2 p (.dK (jT [] ws))):=⟨⟨[],by simp⟩,g⟩;exact p2 _ _ μ2 g' (fQ.put e2 rfl rfl hm2 g ⟨_,rW,(q.jR (show aH X.K μ2 H2 [] [] from rfl)).mono g'⟩) (ao.aG.mpr ⟨p,hm2,rfl⟩)
  ·exact p2.elim
 ·exact p2.elim
end
end M
namespace M
open PySem PySem.Spec PySem.SeqAt L2
end M
namespace L2
open PySem PySem.Spec PyProof.Rows
def Cw(h:(aZ P w).is k u=true):RelV (kV k) u:=by
 rw[zrg]at h;rcases M7 h with⟨i,t,rfl,rfl⟩ | ⟨x,t,rfl,rfl⟩
 ·exact⟨t,rfl⟩
 ·exact⟨t,rfl⟩
theorem znl:∀{aeT:List α} {aeS:List β},Paired F aeT aeS->∀(i:Nat) (a:α) (b:β),aeT[i]? = some a->aeS[i]? = some b->F a b
 | _,_,.nil,i,a,b,h,_=>by simp at h
 | _,_,.cons r t,0,a,b,h1,h2=>by simp at h1 h2;subst h1;subst h2;exact r
 | _,_,.cons r t,i+1,a,b,h1,h2=>znl t i a b (by simpa using h1) (by simpa using h2)
noncomputable def Itk(d:Addr)(o:Obj)(kvs:List (Key×V)):It :=
 ⟨λi H=>i<kvs.length/\H d=some (.frz o (.dK kvs)),λi H y H'=>H'=H/\∃p,kvs[i]? = some p/\y=kV p.1,λi H=>kvs.length<=i/\H d=some (.frz o (.dK kvs))⟩
def De(I:Inv X pins σ H s)(ho:o.data=.dict es ep)(e:H d=some (.frz o (.dK kvs))) :
  (d==sysModules)=false/\∃vs,KV kvs vs/\s.heap.DictAt (aZ X.prog X.w) d vs ep:=by
 obtain⟨h1,z,hd,vs,rel,o',es',ep',h2,h3,h4,h5⟩:=(show bV X.prog X.w H s.heap d (.frz o (.dK kvs)) from I.bJ d _ e);rw[h1]at h2;cases h2;rw[ho]at h4;cases h4;exact⟨hd,vs,rel,o,es,h1,h3,ho,h5⟩
def N_{P:Program}{w:World}{K:PySem.W.Frag}{tg:Expr}(it d:Addr)(o:Obj)(es:Array DictEntry)(ep:Nat)(ho:o.data=.dict es ep)(kvs:List (Key×V)):Turn P w K tg (Itk d o kvs) [it] it (λi h=>h.IsKeyIter it d i kvs.length ep) where
 mem:=by simp
 obj:=λi h st b hb=>by
  have e:b=it:=by simpa using hb
  subst e;obtain⟨o,e,c,d⟩:=st;exact⟨o,e,λv z=>by rw[d]at z;cases z⟩
 keep:=λi h h' st k=>by
  obtain⟨o,e,c,d⟩:=st;exact⟨o,k it (by simp) o e,c,d⟩
 item:=by
  intro X hP hw hK hc i pins s σ H E I hf st hg;subst hP hw hK;obtain⟨f0,f1,f2,f3,f4,f5⟩:=hf it (by simp);obtain⟨hi,e⟩:=hg;obtain⟨hd,vs,rel,da⟩:=De I ho e;have hl:kvs.length=vs.length:=afd rel;obtain⟨q,hq⟩:∃q,vs[i]? = some q:=⟨_,gK (by omega)⟩;obtain⟨p,hp⟩:∃p,kvs[i]? = some p:=⟨_,gK hi⟩;have hk:p.1=q.1:=(znl rel i p q hp hq).1;rw[hl]at st;refine wpAny_pyNext_dict_item (k:=q.1) (v:=q.2) st da hq λkey h' ik st' sb=>?_;have I1:Inv X pins σ H { s with heap:=h' }:=I.turned (t':=s.toks) (λb o hb e=>(sb.2 b hb).trans e) f0 f1 f3 f4 f5;obtain⟨o1,e1,c1,d1⟩:=id st';rw[<-hl]at st';exact⟨_,rfl,rm (s:={ s with heap:=h' }) e1 c1 d1 (by decide) ⟨kV p.1,H,I1,by rw[hk];exact Cw ik,⟨rfl,p,hp,rfl⟩,st',λb hb=>(hf b hb).1⟩⟩
 done:=by
  intro X hP hw hK hc i pins s σ H E I hf st hg;subst hP hw hK;obtain⟨f0,f1,f2,f3,f4,f5⟩:=hf it (by simp);obtain⟨hi,e⟩:=hg;obtain⟨hd,vs,rel,da⟩:=De I ho e;have hl:kvs.length=vs.length:=afd rel;rw[hl]at st;exact wpAny_pyNext_dict_end (I.ok.hd hc) st da (pP (by omega)) λh' eb=>⟨rfl,I.turned (t':=s.toks) (λb o hb e=>eb b o hb e) f0 f1 f3 f4 f5⟩
 self:=λ_ _ _ _ _ st h=>wpAny_pyIter_keyiter st h
noncomputable def iDk(tl:TE):TI:=fun σ H R=>tl σ H λy H1=>∃a kvs,y=.ref a/\((∃o,H1 a=some (.frz o (.dK kvs))/\R (Itk a o kvs) H1)\/(H1 a=some (.dK kvs)/\∀o,R (Itk a o kvs) (upd H1 a (.frz o (.dK kvs)))))
def aaV{X:Cx}{tg l:Expr}{tl:TE}(hl:PE X l tl):PI X tg l (iDk tl):=by
 intro pins s σ H R I h;refine cC (hl pins s σ H _ I h) λv s1 zz=>?_;obtain⟨y,H1,I1,r1,q1⟩:=zz;obtain⟨a,kvs,rfl,q⟩:=q1;cases (show v=Value.ref a from r1);have key:∀(H2:Hp) (o:Obj),Inv X pins σ H2 s1->H2 a=some (.frz o (.dK kvs))->R (Itk a o kvs) H2->wpAny (model X.prog X.w) X.A (pyIter (.ref a)) (PIE X pins σ tg R) X.xe s1:=λH2 o I2 e2 r2=>by
  obtain⟨h1,z,hd,vs,rel,o',es,ep,h2,h3,h4,h5⟩:=(show bV X.prog X.w H2 s1.heap a (.frz o (.dK kvs)) from I2.bJ a _ e2);rw[h1]at h2;cases h2;have hl:kvs.length=vs.length:=afd rel;refine wpAny_pyIter_dict (knd:=aZ X.prog X.w) (kvs:=vs) (ep:=ep) hd ⟨o,es,h1,h3,h4,h5⟩ ?_;refine⟨s1.heap.objs.size,[s1.heap.objs.size],_,_,H2,rfl,I2.kept (t':=s1.toks) λb u e=>g8 _ e,N_ _ a o es ep h4 kvs,⟨_,gU _ rfl,rfl,by rw[hl];rfl⟩,λb hb=>?_,r2⟩;have e:b=s1.heap.objs.size:=by simpa using hb
  subst e;exact I2.uH (gb _) (I2.bJ.fresh (gb _))
 rcases q with⟨o,e,r⟩ | ⟨e,r⟩
 ·exact key H1 o I1 e r
 ·obtain⟨z,hd,vs,rel,o,es,ep,h2,h3⟩:=(show bV X.prog X.w H1 s1.heap a (.dK kvs) from I1.bJ a _ e);have new:bV X.prog X.w (upd H1 a (.frz o (.dK kvs))) s1.heap a (.frz o (.dK kvs)):=⟨h2,z,hd,vs,rel,o,es,ep,h2,h3⟩;exact key (upd H1 a (.frz o (.dK kvs))) o (I1.write (x:=a) (e:=a) (t':=s1.toks) (h':=s1.heap) (by rw[e];trivial) (.inl rfl) (λb u _ z=>z) ⟨o,h2⟩ new) rW (r o)
end L2
namespace M
open PySem PySem.Spec L2
noncomputable def ye:Key->D
 | .inl i=>.int i
 | .inr x=>.str x.cps.toList
noncomputable def Uj(m:ME):MI:=λenv st=>(m env st).bind λd st1=>match d with
 | .loc n=>(match st1[n]? with
  | some (.dkc kvs)=>.ok (kvs.map (λp=>ye p.1),[]) (st1.set n (.dkf kvs))
  | some (.dkf kvs)=>.ok (kvs.map (λp=>ye p.1),[]) st1
  | _=>.bad)
 | _=>.bad
noncomputable def uD:D->D->ak->R D
 | .loc n,k,st=>match st[n]?,keyOf k with
  | some (.dkc kvs),some kk=>(match valN kvs kk with | some d=>.ok d st | none=>.bad)
  | some (.dkf kvs),some kk=>(match valN kvs kk with | some d=>.ok d st | none=>.bad)
  | _,_=>.bad
 | _,_,_=>.bad
section
variable  {X:Cx}{tg l a b:Expr}{ml ma mb:ME}{μ:List Addr}{H:Hp}{K:PySem.W.Frag}{st:ak}{pos:Pos}
def ao.ye(k:Key):ao K μ H (M.ye k) (kV k):=by
 cases k with
 | inl i=>exact ao.aF.mpr rfl
 | inr x=>exact ao.aO.mpr (by show V.str x=V.str (strOf x.cps.toList);simp[strOf])
theorem aH.J1:∀{kvs:List (Key×D)} {ws:List (Key×V)},aH K μ H kvs ws->kvs.length=ws.length/\∀(i:Nat) (p:Key×D) (q:Key×V),kvs[i]? = some p->ws[i]? = some q->p.1=q.1
 | [],_,h=>by cases h;exact⟨rfl,λi p q h1=>by simp at h1⟩
 | (k,d)::r,_,⟨v,s,rfl,h1,h2⟩=>by
  obtain⟨l,hk⟩:=aH.J1 h2;refine⟨by simp[l],λi p q e1 e2=>?_⟩;cases i with
  | zero=>simp at e1 e2;subst e1;subst e2;rfl
  | succ i=>exact hk i p q (by simpa using e1) (by simpa using e2)
def CN{a:Addr}{o:Obj}{kvs:List (Key×D)}{ws:List (Key×V)}(e:H a=some (.frz o (.dK ws)))(h:aH X.K μ H kvs ws):j9 X μ H (Itk a o ws) (kvs.map (λp=>M.ye p.1),[]):=by
 intro H' μ' st' g hs ok;obtain⟨hl,hk⟩:=h.J1;have e':=g.ext.frz _ _ _ e;refine⟨λi d ed=>?_,⟨by simp[hl],e'⟩⟩;rw[gM]at ed;obtain⟨p,e1,rfl⟩:=mQ.mp ed;have hi:=(gf.mp e1).1;refine⟨⟨by omega,e'⟩,?_⟩;rintro x Bf ⟨rfl,q,hq,rfl⟩;refine⟨.refl _ _,hs,?_⟩;rw[hk i p q e1 hq];exact ao.ye _
def aQ.fX{n:Nat}{mo Tz:MO}{a:Addr}{o':HO}(h:aQ K μ H st)(hn:st[n]? = some mo)(hm:mo.mut=true)(ha:μ[n]? = some a)(g:Ext H (upd H a o'))(new:fM K μ (upd H a o') a Tz):aQ K μ (upd H a o') (st.set n Tz):=by
 have hl:=(gf.mp hn).1;refine⟨by simp[h.len],λk ok e=>?_,λi j b oi oj ei ej mi mj hi hj=>?_⟩
 ·by_cases hk:n=k
  ·subst hk;rw[mq hl]at e;cases e;exact⟨a,ha,new⟩
  ·rw[gO hk]at e;obtain⟨b,h1,h2⟩:=h.at_ k ok e;refine⟨b,h1,h2.keep ⟨⟨[],by simp⟩,g⟩ λhmk u q=>?_⟩;rw[iz (λe2=>?_)]
   ·exact q
   ·subst e2;exact hk (h.uniq n k b mo ok hn e hm hmk ha h1)
 ·have key:∀(k:Nat) (ok:MO),(st.set n Tz)[k]? = some ok->ok.mut=true->∃ok',st[k]? = some ok'/\ok'.mut=true:=λk ok ek mk=>by
   by_cases hk:n=k
   ·subst hk;exact⟨mo,hn,hm⟩
   ·rw[gO hk]at ek;exact⟨ok,ek,mk⟩
  obtain⟨oi',ei',mi'⟩:=key i oi ei mi;obtain⟨oj',ej',mj'⟩:=key j oj ej mj;exact h.uniq i j b oi' oj' ei' ej' mi' mj' hi hj
def abe(hl:JE X l ml):JI X tg l (Uj ml):=by
 refine JI.of (aaV hl) fun σ H R zz=>?_;obtain⟨μ,env,st,hE,hs,hp⟩:=zz;refine⟨μ,env,st,hE,hs,(bF.bind hp).imp ?_⟩;rintro v H1 ⟨μ1,st1,d,g1,bx,hv,aP⟩;dsimp only at aP
 split at aP
 ·rename_i n;obtain⟨a,q1,rfl⟩:=ao.aG.mp hv
  split at aP
  ·rename_i kvs e1;obtain⟨a',ws,r1,r2,r3⟩:=bx.dkc e1;rw[q1]at r1;cases r1;refine⟨a,ws,rfl,.inr ⟨r2,λo=>?_⟩⟩;have g:Ext H1 (upd H1 a (.frz o (.dK ws))):=Ext.mut r2 (λ_ z=>nomatch z) (λ_ _ z=>nomatch z);have g':a_ μ1 H1 μ1 (upd H1 a (.frz o (.dK ws))):=⟨⟨[],by simp⟩,g⟩;exact aP _ _ μ1 g' (bx.fX e1 rfl q1 g ⟨ws,o,rW,r3.mono g'⟩) (CN rW (r3.mono g'))
  ·rename_i kvs e1;obtain⟨a',r1,ws,o,r2,r3⟩:=bx.at_ n _ e1;rw[q1]at r1;cases r1;exact⟨a,ws,rfl,.inl ⟨o,r2,aP _ _ _ (.refl _ _) bx (CN r2 r3)⟩⟩
  ·exact aP.elim
 ·exact aP.elim
def Ke(hu:X.A.units+1<cLine)(ha:JE X a ma)(hb:JE X b mb)(hs:Sh b:=by exact λ_ _=>rfl):JE X (.Subscript a b pos) (aL uD ma mb):=by
 refine JE.of (Qc hu ha hb hs) fun σ H Q h=>?_;obtain⟨μ,env,st,hE,hs,hp⟩:=zr7 h;refine⟨μ,env,st,hE,hs,hp.imp ?_⟩;rintro x H1 ⟨μ1,env1,st1,hE1,bx,aP⟩;refine⟨μ1,env1,st1,hE1,bx,aP.imp ?_⟩;rintro y H2 ⟨μ2,st2,dx,dy,fQ,hx,hy,dw⟩;unfold uD at dw
 split at dw
 ·rename_i n k
  split at dw
  ·rename_i kvs kk e1 e2;obtain⟨p,q1,rfl⟩:=ao.aG.mp hx;obtain rfl:=hy.key e2;obtain⟨p',ws,r1,r2,r3⟩:=fQ.dkc e1;rw[q1]at r1;cases r1;rcases r3.valN (k:=kk) with⟨z1,z2⟩ | ⟨d',v',z1,z2,z3⟩
   ·rw[z1]at dw;exact dw.elim
   ·rw[z1]at dw;exact⟨p,v',rfl,by rw[<-z2];exact uK.k r2,dw.ret fQ z3⟩
  ·rename_i kvs kk e1 e2;obtain⟨p,q1,rfl⟩:=ao.aG.mp hx;obtain rfl:=hy.key e2;obtain⟨p',r1,ws,o,r2,r3⟩:=fQ.at_ _ _ e1;rw[q1]at r1;cases r1;rcases r3.valN (k:=kk) with⟨z1,z2⟩ | ⟨d',v',z1,z2,z3⟩
   ·rw[z1]at dw;exact dw.elim
   ·rw[z1]at dw;exact⟨p,v',rfl,.inl ⟨ws,kk,.inr ⟨o,r2⟩,rfl,z2.symm⟩,dw.ret fQ z3⟩
  ·exact dw.elim
 ·exact dw.elim
end
end M
namespace L2
open PySem PySem.Spec PyProof.Rows
noncomputable def ItN(ks:List V):It :=
 ⟨λi _=>i<ks.length,λi H y H'=>H'=H/\ks[i]? = some y,λi _=>ks.length<=i⟩
def Oa{P:Program}{w:World}{K:PySem.W.Frag}{tg:Expr}(it d:Addr)(ep:Nat)(kvs:List (Key×V))(vs:List (Key×Value))(rel:KV kvs vs)(da:∀h:Heap,K.In h->h.DictAt (aZ P w) d vs ep):Turn P w K tg (ItN (kvs.map λp=>kV p.1)) [it] it (λi h=>h.IsKeyIter it d i kvs.length ep) where
 mem:=by simp
 obj:=λi h st b hb=>by
  have e:b=it:=by simpa using hb
  subst e;obtain⟨o,e,c,d⟩:=st;exact⟨o,e,λv z=>by rw[d]at z;cases z⟩
 keep:=λi h h' st k=>by
  obtain⟨o,e,c,d⟩:=st;exact⟨o,k it (by simp) o e,c,d⟩
 item:=by
  intro X hP hw hK hc i pins s σ H E I hf st hg;subst hP hw hK;obtain⟨f0,f1,f2,f3,f4,f5⟩:=hf it (by simp);have hi:i<kvs.length:=by simpa[ItN] using hg
  have da:=da s.heap I.oJ;have hl:kvs.length=vs.length:=afd rel;obtain⟨q,hq⟩:∃q,vs[i]? = some q:=⟨_,gK (by omega)⟩;obtain⟨p,hp⟩:∃p,kvs[i]? = some p:=⟨_,gK hi⟩;have hk:p.1=q.1:=(znl rel i p q hp hq).1;rw[hl]at st;refine wpAny_pyNext_dict_item (k:=q.1) (v:=q.2) st da hq λkey h' ik st' sb=>?_;have I1:Inv X pins σ H { s with heap:=h' }:=I.turned (t':=s.toks) (λb o hb e=>(sb.2 b hb).trans e) f0 f1 f3 f4 f5;obtain⟨o1,e1,c1,d1⟩:=id st';rw[<-hl]at st';exact⟨_,rfl,rm (s:={ s with heap:=h' }) e1 c1 d1 (by decide) ⟨kV p.1,H,I1,by rw[hk];exact Cw ik,⟨rfl,by rw[gM,hp];rfl⟩,st',λb hb=>(hf b hb).1⟩⟩
 done:=by
  intro X hP hw hK hc i pins s σ H E I hf st hg;subst hP hw hK;obtain⟨f0,f1,f2,f3,f4,f5⟩:=hf it (by simp);have hi:kvs.length<=i:=by simpa[ItN] using hg
  have da:=da s.heap I.oJ;have hl:kvs.length=vs.length:=afd rel;rw[hl]at st;exact wpAny_pyNext_dict_end (I.ok.hd hc) st da (pP (by omega)) λh' eb=>⟨rfl,I.turned (t':=s.toks) (λb o hb e=>eb b o hb e) f0 f1 f3 f4 f5⟩
 self:=λ_ _ _ _ _ st h=>wpAny_pyIter_keyiter st h
end L2
namespace M
open PySem PySem.Spec L2
noncomputable def J0(tb:List (List Nat×D)):MI:=λ_ st=>.ok (tb.map (λp=>D.str p.1),[]) st
noncomputable def qW:List (List Nat×D)->List Nat->Option D
 | [],_=>none
 | (c,d)::r,cs=>if c=cs then some d else qW r cs
noncomputable def Hr(tb:List (List Nat×D)):D->ak->R D
 | .str cs,st=>(match qW tb cs with | some d=>.ok d st | none=>.bad)
 | _,_=>.bad
noncomputable def Oc(tb:List (List Nat×D))(m:ME):ME:=λenv st=>(m env st).bind λk st1=>Hr tb k st1
@[simp] def acg(tb:List (List Nat×D))(env:aJ)(st:ak):J0 tb env st=.ok (tb.map (λp=>D.str p.1),[]) st:=dq rfl
def Vu{tb:List (List Nat×D)}{cs:List Nat}{d:D}(st:ak)(h:qW tb cs=some d):Hr tb (.str cs) st=.ok d st:=by
 simp only[Hr,h]
@[simp] def ac5(tb:List (List Nat×D))(m:ME)(env:aJ)(st:ak):Oc tb m env st=(m env st).bind λk st1=>Hr tb k st1:=dq rfl
def BX{n:Nat}{k:D}{kk:Key}{st:ak}{kvs:List (Key×D)}{d:D}(e:st[n]? = some (.dkc kvs))(hk:keyOf k=some kk)(h:valN kvs kk=some d):uD (.loc n) k st=.ok d st:=by
 simp only[uD,e,hk,h]
def zpr{a b:List Nat}:(strOf a=strOf b)↔a=b:=by
 constructor
 ·intro h;have:=congrArg (λs=>s.cps.toList) h;simpa[strOf] using this
 ·rintro rfl;rfl
noncomputable def vq(tb:List (List Nat×D)):List (Key×D):=tb.map λp=>(Sum.inr (strOf p.1),p.2)
structure Dt(w:World)(K:PySem.W.Frag)(a:Addr)(tb:List (List Nat×D)):Prop where
 low:(a==sysModules)=false
 at_:∀P:Program,∃(kvs:List (Key×V)) (vs:List (Key×Value)) (ep:Nat),(∀μ H,aH K μ H (vq tb) kvs)/\KV kvs vs/\∀h:Heap,K.In h->h.DictAt (aZ P w) a vs ep
inductive Sg (K:PySem.W.Frag) (w:World):List DictEntry->List (List Nat×D)->Prop
 | nil:Sg K w [] []
 | i {h:Int} {x:Str} {t u:Tok} {cs:List Nat} {n:Int} {es:List DictEntry} {tb:List (List Nat×D)} (hx:x=strOf cs) (hh:h=QC w (.inr x)) (r:Sg K w es tb):Sg K w (⟨h,.str x t,.int n u⟩::es) ((cs,.int n)::tb)
theorem Sg.all{K:PySem.W.Frag}{w:World}(P:Program):∀{es:List DictEntry} {tb:List (List Nat×D)},Sg K w es tb ->
  ∃(kvs:List (Key×V)) (vs:List (Key×Value)),(∀μ H,aH K μ H (vq tb) kvs)/\KV kvs vs/\(∀e∈es,∃k,(aZ P w).is k e.key=true/\e.hash=(aZ P w).hash k)/\Pairs (aZ P w) es vs/\vs.map (·.1)=(vq tb).map (·.1)
 | _,_,.nil=>⟨[],[],λ_ _=>rfl,.nil,(λ_ h=>nomatch h),.nil,rfl⟩
 | _,_,@Sg.i _ _ h x t u cs n es tb hx hh r=>by
  obtain⟨kvs,vs,h1,h2,h3,h4,h5⟩:=Sg.all P r;refine⟨(.inr x,.int n)::kvs,(.inr x,.int n u)::vs,fun μ H=>?_,.cons ⟨rfl,⟨u,rfl⟩⟩ h2,λe he=>?_,.cons (zgl P w x t) rfl h4,?_⟩
  ·subst hx;exact⟨.int n,kvs,rfl,ao.aF.mpr rfl,h1 μ H⟩
  ·rcases gq.mp he with rfl | he
   ·exact⟨.inr x,zgl P w x t,hh⟩
   ·exact h3 e he
  ·subst hx;show (.inr (strOf cs):Key)::vs.map (·.1)=.inr (strOf cs)::(vq tb).map (·.1);rw[h5]
def Lz{w:World}{K:PySem.W.Frag}{a:Addr}{tb:List (List Nat×D)}{es:Array DictEntry}{ep:Nat}(hl:K.lookup a=some ⟨.type "dict",none,.dict es ep,#[]⟩)(h0:(a==sysModules)=false)(hr:Sg K w es.toList tb)(hn:(tb.map (·.1)).Nodup):Dt w K a tb:=by
 refine⟨h0,λP=>?_⟩;obtain⟨kvs,vs,h1,h2,h3,h4,h5⟩:=Sg.all P hr;refine⟨kvs,vs,ep,h1,h2,λh KI=>⟨_,es,KI a _ hl,⟨rfl,rfl,rfl⟩,rfl,λe he=>h3 e (by simpa using he),h4,?_⟩⟩;rw[h5];have e:(vq tb).map (·.1)=(tb.map (·.1)).map λcs=>(Sum.inr (strOf cs):Key):=by simp[vq]
 rw[e];exact List.Pairwise.map (λcs=>(Sum.inr (strOf cs):Key)) (λa b tO e=>tO (zpr.mp (afl e))) hn
theorem zj6(cs:List Nat):∀tb:List (List Nat×D),valN (vq tb) (.inr (strOf cs))=qW tb cs
 | []=>rfl
 | (c,d)::r=>by
  show valN ((Sum.inr (strOf c),d)::vq r) _=_;rw[M4,zj6 cs r];by_cases h:c=cs
  ·subst h;simp[qW]
  ·rw[ae2 (λz=>h (zpr.mp (afl z)))];simp[qW,h]
section
variable  {X:Cx}{tg b:Expr}{mb:ME}{pos pos':Pos}{x:Str}{tb:List (List Nat×D)}
def Q6{μ:List Addr}{H:Hp}{ws:List (Key×V)}(h:∀μ H,aH X.K μ H (vq tb) ws):j9 X μ H (ItN (ws.map λp=>kV p.1)) (tb.map (λp=>D.str p.1),[]):=by
 intro H' μ' st' g hs ok;obtain⟨hl,hk⟩:=(h μ' H').J1;have CT:tb.length=ws.length:=by rw[<-hl];simp[vq]
 refine⟨λi d ed=>?_,by simp[ItN,CT]⟩;rw[gM]at ed;obtain⟨p,e1,rfl⟩:=mQ.mp ed;have hi:=(gf.mp e1).1;refine⟨by simp[ItN];omega,?_⟩;rintro y Bf ⟨rfl,hy⟩;refine⟨.refl _ _,hs,?_⟩;rw[gM]at hy;obtain⟨q,e2,rfl⟩:=mQ.mp hy;rw[<-hk i (.inr (strOf p.1),p.2) q (by simp[vq,e1]) e2];exact ao.aO.mpr rfl
def abf(h:∃a,X.mg x=some (.ref a)/\Dt X.w X.K a tb)(hg:Gl X x:=by rfl)(hd:(x==("__debug__":Str))=false:=by decide):JI X tg (.Name x pos) (J0 tb):=by
 obtain⟨a,hm,dk⟩:=h;obtain⟨kvs,vs,ep,h1,rel,da⟩:=dk.at_ X.prog;rintro pins s σ H R I ⟨μ,env,st,hE,hs,hp⟩;refine Uw I hg hm ?_ hd;have hl:kvs.length=vs.length:=afd rel;refine wpAny_pyIter_dict (knd:=aZ X.prog X.w) (kvs:=vs) (ep:=ep) dk.low (da _ I.oJ) ?_;refine⟨s.heap.objs.size,[s.heap.objs.size],_,_,H,rfl,I.kept (t':=s.toks) λb u e=>g8 _ e,Oa _ a ep kvs vs rel da,⟨_,gU _ rfl,rfl,by rw[hl];rfl⟩,λb hb=>?_,hp _ _ μ (.refl _ _) hs (Q6 h1)⟩;have e:b=s.heap.objs.size:=by simpa using hb
 subst e;exact I.uH (gb _) (I.bJ.fresh (gb _))
def W8(h:∃a,X.mg x=some (.ref a)/\Dt X.w X.K a tb)(hb:JE X b mb)(hs:Sh b:=by exact λ_ _=>rfl)(hg:Gl X x:=by rfl)(hd:(x==("__debug__":Str))=false:=by decide):JE X (.Subscript (.Name x pos') b pos) (Oc tb mb):=by
 obtain⟨a,hm,dk⟩:=h;obtain⟨kvs,vs,ep,h1,rel,da⟩:=dk.at_ X.prog;rintro pins s σ H Q I ⟨μ,env,st,hE,hsS,hp⟩;refine Bw PySem.F.slot_dict_getitem.lookup hs (Uw I hg hm (cC (hb pins s σ H _ I ⟨μ,env,st,hE,hsS,bF.bind hp⟩) λiv s1 zz=>?_) hd);obtain⟨y,H1,I1,ry,μ1,st1,d,g1,bx,hv,aP⟩:=zz;dsimp only at aP;unfold Hr at aP
 split at aP
 ·rename_i cs
  split at aP
  ·rename_i d' e;obtain rfl:=ao.aO.mp hv;have da:=da _ I1.oJ;rcases (h1 μ1 H1).valN (k:=.inr (strOf cs)) with⟨z1,z2⟩ | ⟨d2,v',z1,z2,z3⟩
   ·rw[zj6,e]at z1;cases z1
   ·rw[zj6,e]at z1;cases z1;obtain⟨w',hw,yP⟩:=jZ.some_of (v:=v') (o:=valueAt vs (.inr (strOf cs))) (by rw[<-z2];exact rel.val _);exact⟨da.dictOf.typeIs,wpAny_getItem_of (vz (k:=.inr (strOf cs)) ry) da.dictOf.mapOf hw ⟨v',H1,I1.tok _,yP,aP.ret bx z3⟩⟩
  ·exact aP.elim
 ·exact aP.elim
end
end M
namespace M
open PySem PySem.Spec PySem.SeqAt L2
noncomputable def tU:List D->ak->R D
 | [.loc n],st=>match st[n]? with | some (.dkc kvs)=>.ok (.loc st.length) (st++[.dkc kvs]) | _=>.bad
 | _,_=>.bad
section
variable  {X:Cx}{L:Nat}
def ztj:cz X (.type "dict") (Nf X tU):=by
 rintro pins s σ H xs us Q I rv ⟨μ,st,ds,hs,hv,hp⟩;unfold tU at hp
 split at hp
 ·rename_i n
  split at hp
  ·rename_i kvs e;obtain⟨v,rfl,q⟩:=aq.one hv;obtain⟨p,q1,rfl⟩:=ao.aG.mp q;obtain⟨u,rfl,ru⟩:=rv.one;cases ru;obtain⟨p',ws,r1,r2,r3⟩:=hs.dkc e;rw[q1]at r1;cases r1;refine LQ I (.inl r2) λl s' hn I'=>⟨.ref l,_,I',rfl,?_⟩;have g:=a_.new (μ:=μ) (o:=.dK ws) hn;have hr:fM X.K (μ++[l]) (upd H l (.dK ws)) l (.dkc kvs):=⟨ws,rW,r3.mono g⟩;exact hp _ _ (μ++[l]) g (hs.new hn hr) (ao.aG.mpr ⟨l,by rw[<-hs.len];simp,rfl⟩)
  ·exact hp.elim
 ·exact hp.elim
end
end M
namespace M
open PySem PySem.Spec L2
section
variable  {X:Cx}{b:Expr}{mb:ME}{x:Str}{tb:List (List Nat×D)}{di apos pos':Pos}
end
end M
namespace L2
open PySem PySem.Spec PyProof.Rows
section
variable  {prog:Program}{w:World}{A:Around}{E:Value->Shared->Prop}{s:Shared}{d:Addr}{o:Obj}{es:Array DictEntry}{ep:Nat}
def zld(hd:(d==sysModules)=false):MeetsIn prog w (Builtin.«dict.__len__» ⟨[.ref d],[]⟩) (λ_ R s=>∃o es ep,s.heap.get? d=some o/\o.data=.dict es ep/\R (.ok (.ret (.int es.size s.toks))) { s with toks:=s.toks+1 }) :=
 .of_wp λA R s zz=>by
  obtain⟨o,es,ep,ho,Yc,h⟩:=zz;show wpAny _ _ (dictSize d >>= _) _ _ s;unfold dictSize;refine ae0 (ae0 (wpAny_dictEntries ho Yc (ae3 ?_)));show wpAny _ _ (Builtin.Dict.pendingCount d >>= _) _ _ s;refine ae0 (wpAny_pendingCount_other hd ?_);refine wpAny_ret_mkInt ?_;simpa using h
def Qy(hd:(d==sysModules)=false)(ho:s.heap.get? d=some o)(hx:o.ExactDict)(Yc:o.data=.dict es ep)(aeJ:(es.size:Int)<2 ^ 63) 
  (h:Q (.int es.size (s.toks+1)) { s with toks:=s.toks+1+1 }):wpAny (model prog w) A (call (.builtin "len") [.ref d]) Q E s:=by
 have hT:s.TypeIs (.ref d) "dict":=⟨o,ho,hx.1⟩;refine Calls.call_function_entry PySem.kind_len PySem.plain_len PySem.entry_len (PySem.args_len1 _) ?_;unfold Builtin.«len»;refine ae0 (m:=oneArg "len" _) (ae3 ?_);refine ae0 (m:=callSpecial? (.ref d) (Str.ofString "__len__")) (afk (name:=Str.ofString "__len__") hT F.slot_dict_len
  (afG F.slot_dict_len hT F.entry_dict_len (F.args_dict_len_1 _) (zld hd) ⟨o,es,ep,ho,Yc,?_⟩))
 show wpAny _ _ _ _ _ { s with toks:=s.toks+1 };refine ae0 (aft (ae3 ?_));refine ae0 (wpAny_letGo ?_);show wpAny _ _ (if (es.size:Int)<0 then _ else _) _ _ _;rw[ae2 (by omega)];show wpAny _ _ (if (es.size:Int) ≥ 2 ^ 63 then _ else _) _ _ _;rw[ae2 (by omega)];exact ae0 (wpAny_mkInt (ae3 ⟨_,rfl,h⟩))
end
end L2
namespace M
open PySem PySem.Spec L2
section
variable  {K:PySem.W.Frag}{μ ν:List Addr}{H H':Hp}{st st':ak}
end
noncomputable def xg(f:Str)(d:D):List (Str×D)->List (Str×D)
 | []=>[(f,d)]
 | (g,x)::r=>if g=f then (g,d)::r else (g,x)::xg f d r
noncomputable def cj(c f:Str)(m:ME):ME:=λenv st=>(m env st).bind λd st1=>match d with
 | .loc n=>(match st1[n]? with
  | some (.ins c' fs)=>if c'=c then (match fs.lookup f with | some x=>.ok x st1 | none=>.bad) else .bad
  | _=>.bad)
 | _=>.bad
noncomputable def cA(c f:Str)(mo mv:ME):MS:=λenv st=>(mv env st).bind λd st1=>(mo env st1).bind λx st2=>match x with
 | .loc n=>(match st2[n]? with
  | some (.ins c' fs)=>if c'=c/\fs.length<1000 then .ok (.nx env) (st2.set n (.ins c (xg f d fs))) else .bad
  | _=>.bad)
 | _=>.bad
noncomputable def lN(c:Str)(F:FD)(mA:MA):ME:=λenv st=>(mA env st).bind λas st1=>((F (.loc st1.length::as) (st1++[.ins c []])).sure).bind λd st2=>match d with
 | .non=>.ok (.loc st1.length) st2
 | _=>.bad
noncomputable def Cp(c m:Str)(F:FD)(mo:ME)(mA:MA):ME:=λenv st=>(mo env st).bind λx st1=>match x with
 | .loc n=>(match st1[n]? with
  | some (.ins c' fs)=>if c'=c/\fs.lookup m=none then (mA env st1).bind λas st2=>(match st2[n]? with
   | some (.ins _ _)=>(F (.loc n::as) st2).sure
   | _=>.bad) else .bad
  | _=>.bad)
 | _=>.bad
noncomputable def fH:List D->ak->R D
 | [.loc n],st=>(match st[n]? with
  | some (.dic kvs)=>.ok (.int kvs.length) st
  | some (.dkc kvs)=>.ok (.int kvs.length) st
  | _=>wN [.loc n] st)
 | ds,st=>wN ds st
section
variable  {X:Cx}{K:PySem.W.Frag}{μ:List Addr}{H:Hp}{e o a b value:Expr}{es:List Expr}{me mo mv ma mb:ME}{mA:MA}{pos pos' apos p:Pos}{c f m x:Str}{C g:Addr}{F:FD}{fd:FuncData}{ps:List Str}{k:Nat}
theorem aH.look:∀{fs:List (Str×D)} {ws:List (Str×V)},aH K μ H fs ws->(fs.lookup f=none/\ws.lookup f=none)\/∃d v,fs.lookup f=some d/\ws.lookup f=some v/\ao K μ H d v
 | [],ws,h=>by rw[aH]at h;subst h;exact .inl ⟨rfl,rfl⟩
 | (j,d)::r,ws,h=>by
  obtain⟨v,r',rfl,h1,h2⟩:=h;by_cases q:f=j
  ·subst q;exact .inr ⟨d,v,by simp[List.lookup],by simp[List.lookup],h1⟩
  ·have q':(f==j)=false:=by simpa using q
   simp only[List.lookup,q'];exact aH.look h2
theorem aH.fX(hv:ao K μ H d v):∀{fs:List (Str×D)} {ws:List (Str×V)},aH K μ H fs ws->aH K μ H (xg f d fs) (L2.fX f v ws)
 | [],ws,h=>by rw[aH]at h;subst h;exact⟨v,[],rfl,hv,rfl⟩
 | (j,d')::r,ws,h=>by
  obtain⟨v',r',rfl,h1,h2⟩:=h;unfold xg L2.fX;by_cases q:j=f
  ·rw[ae1 q,ae1 q];exact⟨v,r',rfl,hv,h2⟩
  ·rw[ae2 q,ae2 q];exact⟨v',_,rfl,h1,aH.fX hv h2⟩
def Xf(h0:PySem.W.nsIn X.K mainGlobals c=some (some (.ref C)))(hc:Du X.K C)(hn:iT X.K C f)(he:JE X e me)(hb:attributeBase e f X.env (eval e X.env)=eval e X.env:=by rfl):JE X (.Attribute e f pos) (cj c f me):=by
 refine JE.of (Wb he hb) fun σ H Q zz=>?_;obtain⟨μ,env,st,hE,hs,hp⟩:=zz;refine⟨μ,env,st,hE,hs,(bF.bind hp).imp ?_⟩;rintro v H1 ⟨μ1,st1,d,g1,bx,hx,aP⟩;dsimp only at aP
 split at aP
 ·rename_i n
  split at aP
  ·rename_i c' fs e1
   split at aP
   ·rename_i ec;subst ec;obtain⟨p,q1,rfl⟩:=ao.aG.mp hx;obtain⟨p',r1,C',dx,ws,r2,r3,r4⟩:=bx.at_ n _ e1;rw[q1]at r1;cases r1;rw[h0]at r2;cases r2;rcases r4.look (f:=f) with⟨z1,z2⟩ | ⟨d',v',z1,z2,z3⟩
    ·rw[z1]at aP;exact aP.elim
    ·rw[z1]at aP;exact⟨p,C,dx,ws,v',rfl,r3,hc,hn,z2,aP.ret bx z3⟩
   ·exact aP.elim
  ·exact aP.elim
 ·exact aP.elim
def An(h0:PySem.W.nsIn X.K mainGlobals c=some (some (.ref C)))(hc:Du X.K C)(hn:iT X.K C f)(ho:JE X o mo)(hv:JE X value mv)(hs:swapsWith value (some (.Attribute o f pos')) pos.line X.env=pure false:=by rfl) :
  JS X (.Assign [.Attribute o f pos'] value pos) (cA c f mo mv):=by
 refine JS.of (VN ho hv hs) λE σ H zz=>?_;obtain⟨μ,env,st,hE,hs,hp⟩:=zz;refine⟨μ,env,st,hE,hs,hp.val.imp ?_⟩;rintro y H1 ⟨μ1,st1,d,g1,bx,hy,aP⟩;refine⟨μ1,env,st1,hE.mono g1,bx,aP.val.imp ?_⟩;rintro z H2 ⟨μ2,st2,d2,g2,fQ,hz,dw⟩
 try dsimp only at dw
 split at dw
 ·rename_i n
  split at dw
  ·rename_i c' fs e1
   split at dw
   ·rename_i ec;obtain⟨ec,hl⟩:=ec;subst ec;obtain⟨p,q1,rfl⟩:=ao.aG.mp hz;obtain⟨p',r1,C',dx,ws,r2,r3,r4⟩:=fQ.at_ n _ e1;rw[q1]at r1;cases r1;rw[h0]at r2;cases r2;have hll:ws.length<1000:=by rw[<-r4.len];exact hl
    have gg:Ext H2 (upd H2 p (.ins C dx (L2.fX f y ws))):=Ext.mut r3 (λ_ z=>nomatch z) (λ_ _ z=>nomatch z);have g':a_ μ2 H2 μ2 (upd H2 p (.ins C dx (L2.fX f y ws))):=⟨⟨[],by simp⟩,gg⟩;refine⟨p,C,dx,ws,rfl,r3,hc,hn,hll,dw σ _ μ2 g' (fQ.put e1 rfl rfl q1 gg ⟨C,dx,_,h0,rW,(r4.fX (hy.mono g2 _)).mono g'⟩) (((hE.mono g1).mono g2).mono g')⟩
   ·exact dw.elim
  ·exact dw.elim
 ·exact dw.elim
def zq7(h0:PySem.W.nsIn X.K mainGlobals c=some (some (.ref C)))(MK:Mk X.K C g)(G:bZ X.prog X.w X.K X.mg X.base qb k g fd ps (u0 X.K ps.length F))(hr:cG (k+1) X.A)(hm:X.mg c=some (.ref C))(hb:Binds X.K fd ps [])(ha:JA X (e::es) mA)
  (hlen:(e::es).length+1=ps.length:=by rfl) (hg:Gl X c:=by rfl) (q9:(c==("__debug__":Str))=false:=by decide) (he:starEach (e::es) X.env=(false,eval e X.env)::starEach es X.env:=by rfl) (oR:(backTo pos (starEach es X.env)).any (·.1)=false:=by rfl)
  (hA:∀env st as st1,mA env st=.ok as st1->as.length=(e::es).length:=by intros;rfl):JE X (.Call (.Name c p) (e::es) [] pos) (lN c F mA):=by
 refine JE.of (P0 MK G hr hg hm hb .nil Ce ha q9 he oR) fun σ H Q zz=>?_;obtain⟨μ,env,st,hE,hs,hp⟩:=zz;refine⟨μ,env,st,hE,hs,?_⟩;cases hq:mA env st with
 | bad=>unfold lN at hp;rw[hq]at hp;exact hp
 | err y st1=>unfold lN at hp;rw[hq]at hp;exact hp
 | ok as st1 =>
  unfold lN at hp;rw[hq]at hp;intro vs H1 μ1 g1 bx hv x dx hx hdx tO;have Rh:upd H1 dx (.own x) x=none:=by rw[iz (afb tO)];exact hx
  have ext1:Ext H1 (upd H1 dx (.own x)):=Ext.new hdx;have gd:a_ μ1 H1 μ1 (upd H1 dx (.own x)):=⟨⟨[],by simp⟩,ext1⟩;have fQ:aQ X.K μ1 (upd H1 dx (.own x)) st1:=bx.lay hdx;have hr3:fM X.K (μ1++[x]) (upd (upd H1 dx (.own x)) x (.ins C dx [])) x (.ins c []):=⟨C,dx,[],h0,rW,rfl⟩;have za:=fQ.new Rh hr3;have gn:a_ μ1 (upd H1 dx (.own x)) (μ1++[x]) (upd (upd H1 dx (.own x)) x (.ins C dx [])):=a_.new Rh;have hv3:aq X.K (μ1++[x]) (upd (upd H1 dx (.own x)) x (.ins C dx [])) (.loc st1.length::as) (.ref x::vs):=aq.cons (ao.aG.mpr ⟨x,by rw[<-bx.len];simp,rfl⟩) ((hv.mono gd _).mono gn _);have CT:(V.ref x::(vs++[])).length=ps.length:=by
   have:=hA env st as st1 hq;have:=hv.length;simp only[gY,gw]at *;omega
  rw[gY]at CT ⊢;refine⟨CT,μ1++[x],.loc st1.length::as,st1++[.ins c []],hv3,za,?_⟩;cases hF:F (.loc st1.length::as) (st1++[.ins c []]) with
  | bad=>rw[R.aB,hF]at hp;exact hp.elim
  | err y st2=>rw[R.aB,hF]at hp;exact hp.elim
  | ok d st2 =>
   rw[R.aB,hF]at hp;intro v H' μ' g' qp hvd;have ad4:a_ μ H μ' H':=(g1.trans gd).trans (gn.trans g');cases d with
   | non =>
    refine⟨ao.bC.mp hvd,hp (.ref x) H' μ' ad4 qp (ao.aG.mpr ⟨x,g'.get (by rw[<-bx.len];simp),rfl⟩)⟩
   | _=>exact hp.elim
def Kc{pl:Sem Bool}(h0:PySem.W.nsIn X.K mainGlobals c=some (some (.ref C)))(hc:Du X.K C)(hm:Meth X.K C m g)(G:bZ X.prog X.w X.K X.mg X.base qb k g fd ps (u0 X.K ps.length F))(hr:cG k X.A)(hb:Binds X.K fd ps [])(ho:JE X o mo)(ha:JA X (e::es) mA)
  (hlen:(e::es).length+1=ps.length:=by rfl) (FJ:starEach (e::es) X.env=(false,eval e X.env)::starEach es X.env:=by rfl) (oR:(backTo pos (starEach es X.env)).any (·.1)=false:=by rfl)
  (ht:eval (.Call (.Attribute o m apos) (e::es) [] pos) X.env=(do
   let ov <-eval o X.env
   standAt apos.atName
   let (f,first) <-holding [ov] (getMethod ov m pl)
   callWith pos f first (backTo pos (starEach (e::es) X.env)) (backToKw pos (keywordEach [] X.env))):=by rfl)
  (hA:∀env st as st1,mA env st=.ok as st1->as.length=(e::es).length:=by intros;rfl):JE X (.Call (.Attribute o m apos) (e::es) [] pos) (Cp c m F mo mA):=by
 refine JE.of (PX ho hc hm G hr hb .nil Ce ha FJ oR ht) fun σ H Q zz=>?_;obtain⟨μ,env,st,hE,hs,hp⟩:=zz;refine⟨μ,env,st,hE,hs,(bF.bind hp).imp ?_⟩;rintro v H1 ⟨μ1,st1,d,g1,bx,hx,aP⟩;dsimp only at aP
 split at aP
 ·rename_i n
  split at aP
  ·rename_i c' fs e1
   split at aP
   ·rename_i ec;obtain⟨ec,hl⟩:=ec;subst ec;obtain⟨p,q1,rfl⟩:=ao.aG.mp hx;obtain⟨p',r1,C',dx,ws,r2,r3,r4⟩:=bx.at_ n _ e1;rw[q1]at r1;cases r1;rw[h0]at r2;cases r2;have CT:ws.lookup m=none:=by
     rcases r4.look (f:=m) with⟨_,z2⟩ | ⟨d',v',z1,_,_⟩
     ·exact z2
     ·rw[hl]at z1;cases z1
    refine⟨p,dx,ws,rfl,r3,CT,μ1,env,st1,hE.mono g1,bx,?_⟩;cases hq:mA env st1 with
    | bad=>rw[hq]at aP;exact aP
    | err y st2=>rw[hq]at aP;exact aP
    | ok as st2 =>
     rw[hq,R.aB]at aP;intro vs H2 μ2 g2 fQ hv
     split at aP
     ·rename_i c2 fs2 e2;have hv3:aq X.K μ2 H2 (.loc n::as) (.ref p::vs):=aq.cons (ao.aG.mpr ⟨p,g2.get q1,rfl⟩) hv;have hll:(V.ref p::(vs++[])).length=ps.length:=by
       have:=hA env st1 as st2 hq;have:=hv.length;simp only[gY,gw]at *;omega
      rw[gY]at hll ⊢;refine⟨hll,μ2,.loc n::as,st2,hv3,fQ,?_⟩;cases hF:F (.loc n::as) st2 with
      | bad=>rw[hF]at aP;exact aP.elim
      | err y fO=>rw[hF]at aP;exact aP.elim
      | ok d fO =>
       rw[hF]at aP;intro v H' μ' g' qp hvd;exact aP v H' μ' (g2.trans g') qp hvd
     ·exact aP.elim
   ·exact aP.elim
  ·exact aP.elim
 ·exact aP.elim
def Gv:cz X (.builtin "len") (Nf X fH):=by
 rintro pins s σ H xs us Q I rv ⟨μ,st,ds,hs,hv,hp⟩;unfold fH at hp
 split at hp
 ·rename_i n
  split at hp
  ·rename_i kvs e1;obtain⟨v,rfl,q⟩:=aq.one hv;obtain⟨p,q1,rfl⟩:=ao.aG.mp q;obtain⟨u,rfl,ru⟩:=rv.one;cases ru;obtain⟨p',ws,r1,r2,r3⟩:=hs.dic e1;rw[q1]at r1;cases r1;obtain⟨z,y,xs,r,o,es,ep,h1,h2,h3,h4,h5⟩:=(show bV X.prog X.w H s.heap p (.dT ws) from I.bJ p _ r2);have hl:es.size=kvs.length:=by
    rw[r3.len,afd r,<-nJ,h4,gh]
   refine Qy y h1 h2 h3 (by rw[hl,r3.len];rw[afB]at z;omega) ?_;rw[hl];exact⟨.int kvs.length,H,I.tok _,⟨_,rfl⟩,hp.ret hs (ao.aF.mpr rfl)⟩
  ·rename_i kvs e1;obtain⟨v,rfl,q⟩:=aq.one hv;obtain⟨p,q1,rfl⟩:=ao.aG.mp q;obtain⟨u,rfl,ru⟩:=rv.one;cases ru;obtain⟨p',ws,r1,r2,r3⟩:=hs.dkc e1;rw[q1]at r1;cases r1;refine abP I (.inl r2) λt s' I'=>?_;rw[<-r3.len];exact⟨.int kvs.length,H,I',⟨_,rfl⟩,hp.ret hs (ao.aF.mpr rfl)⟩
  ·exact zoq pins s σ H xs us Q I rv ⟨μ,st,_,hs,hv,hp⟩
 ·exact zoq pins s σ H xs us Q I rv ⟨μ,st,_,hs,hv,hp⟩
end
end M
namespace M
open PySem
noncomputable def yo:Stmt->List Stmt
 | .ClassDef _ _ _ body _ _ _ _ _ _ _=>body
 | _=>[]
end M
namespace L2
open PySem PySem.Spec PyProof.Rows
def Gs(hc:X.A.handled=none):cz X (.builtin "sum") (λxs H Q=>∃(p:Addr) (ns:List Int),xs=[.ref p]/\oK X.K H p (ns.map V.int)/\Q (.int ns.sum) H):=by
 rintro pins s σ H xs us Q I hr ⟨p,ns,rfl,hq,h⟩;cases hr with
 | cons r1 r2 =>
  cases r2;cases r1;obtain⟨its,rv,pl,hz⟩:=I.tuple hq;have hi:IntsAre its ns:=by
   have key:∀(ns:List Int) (its:List Value),Vals (ns.map V.int) its->IntsAre its ns:=by
    intro ns
    induction ns with
    | nil=>intro its h;cases h;exact .nil
    | cons n ns ih =>
     intro its h;cases h with
     | cons r1 r2 =>
      obtain⟨t,rfl⟩:=r1;exact .cons n t (ih _ r2)
   exact key ns its rv
  obtain⟨m,hm,_⟩:=id I.loc;have hl:s.heap.IsTuple p its.toArray:=pl;obtain⟨xs,hx⟩:=hi.allInts.items;have hn:numsOf its.toArray.toList=ns:=by rw[show its.toArray.toList=its from rfl,hi.numsOf]
  rw[hx]at hl hn;rw[nums_intItems]at hn;refine PySem.W.ktm_sumG hc hl λh' tk t' hk=>?_;rw[preSum_eq,pL (by simp),hn];refine⟨.int ns.sum,H,I.but (λb ob hb e=>hk b ob e) (λm' Nk=>?_),⟨t',rfl⟩,h⟩;exact ((Att.K9 Nk).keeps hk).ns
end L2
namespace M
open PySem PySem.Spec L2
noncomputable def wG:List D->ak->R D
 | [.tup ds],st=>match intsOf ds with | some ns=>.ok (.int ns.sum) st | none=>.bad
 | ds,st=>Ht ds st
def Gq(hc:X.A.handled=none):cz X (.builtin "sum") (Nf X wG):=by
 rintro pins s σ H xs us Q I rv ⟨μ,st,ds,hs,hv,hp⟩;unfold wG at hp
 split at hp
 ·rename_i l;cases e2:intsOf l with
  | none=>simp only[e2]at hp;exact hp.elim
  | some ns =>
   simp only[e2]at hp;obtain⟨v,rfl,q⟩:=aq.one hv;obtain⟨p,ys,rfl,r2,r3⟩:=ao.aR.mp q;rw[zk6 e2 r3]at r2;exact Gs hc _ _ _ _ _ _ _ I rv ⟨p,ns,rfl,r2.qP,hp.ret hs (ao.aF.mpr rfl)⟩
 ·exact Gr hc _ _ _ _ _ _ _ I rv ⟨μ,st,_,hs,hv,hp⟩
end M
namespace L2
open PySem PySem.Spec PyProof.Rows
section
variable  {P:Program}{w:World}{A:Around}{E:Value->Shared->Prop}{s:Shared}{d it:Addr}{od:Obj}{es:Array DictEntry}{i ep:Nat}
end
end L2
namespace M
open PySem PySem.Spec L2
section
variable  {X:Cx}{tg l a b:Expr}{ml ma mb:ME}{μ:List Addr}{H:Hp}{K:PySem.W.Frag}{st:ak}{pos:Pos}
end
def Rq{N P:List Str}{sc:Scope}(h1:sc.kind=.function:=by rfl)(h2:sc.isCoroutine=false:=by rfl)(h3:sc.isGenerator=false:=by rfl)(h4:N.Nodup:=by decide +kernel)(h5:N.take P.length=P:=by rfl)(h6:∀x∈P,sc.names.lookup x=some .local\/sc.names.lookup x=some .cell:=by decide +kernel)(h7:∀y∈sc.names,y.2≠.free:=by decide +kernel):cJ N P sc:=⟨h1,h2,h3,h4,h5,h6,h7⟩
section
variable  {X:Cx}
def abk{k k':Nat}{f:Addr}{fd:FuncData}{ps:List Str}{F:FD}{x:Str}{e:Expr}{es:List Expr}{mA:MA}{p pos:Pos}(G:bZ X.prog X.w X.K X.mg X.base qb k f fd ps (u0 X.K ps.length F))(hr:cG k' X.A)(hm:X.mg x=some (.ref f))(hk:PySem.W.keepIn X.K (.ref f)=true)(hb:Binds X.K fd ps [])(ha:JA X (e::es) mA)
  (hA:∀env st as st1,mA env st=.ok as st1->as.length=(e::es).length) (XM:k<=k':=by decide) (hlen:(e::es).length+([]:List V).length=ps.length:=by rfl) (hg:Gl X x:=by rfl) (q9:(x==("__debug__":Str))=false:=by decide) (he:starEach (e::es) X.env=(false,eval e X.env)::starEach es X.env:=by rfl) (oR:(backTo pos (starEach es X.env)).any (·.1)=false:=by rfl) :
  JE X (.Call (.Name x p) (e::es) [] pos) (az F [] mA):=QS (G.mono XM) hr hm hk hb .nil (λ_ _=>aq.nil) ha hlen hg q9 he oR hA
def Ar{o e:Expr}{mo:ME}{mA:MA}{apos di:Pos}(ho:JE X o mo)(ha:JA X [e] mA)(q_:attributeBase o "append" X.env (eval o X.env)=eval o X.env:=by rfl)
  (zb:((backTo di (starEach [e] X.env)).all (λx=>!x.1) && (backToKw di (keywordEach [] X.env)).all (λx=>x.1.isSome)
   && decide ([e].length+([]:List Keyword).length+(if ([]:List Keyword).isEmpty then 0 else 1)<30))=true:=by rfl)
  (hline:(apos.endLine==di.line)=true:=by rfl) (hs:starEach [e] X.env=(false,eval e X.env)::starEach [] X.env:=by rfl) (vI:(backTo di (starEach [] X.env)).any (·.1)=false:=by rfl):JE X (.Call (.Attribute o "append" apos) [e] [] di) (cH "list" aU mo mA) :=
 Sy afp PySem.F.slot_list_append PySem.F.type_list_append zr0 ho ha q_ zb hline hs vI
end
end M
namespace L2
open PySem PySem.Spec PyProof.Rows
namespace Rv
def owner:Manifest.owners.lookup (String.ofList ['d','e','s','r','e','v','e','r'].reverse)=some Manifest.sig_reversed:=by kernel_rfl
def Ej:Slot "reversed" "__init__" "object.__init__" :=
 .of (owner:="object") (n:="__init__") (by rw[afA,afn];kernel_rfl) (by decide +kernel) (by decide +kernel) (by decide +kernel)
  (by first | exact .inl (by decide +kernel) | exact .inr (by decide +kernel)) (by rw[afH];kernel_rfl)
def slot_next:Slot "reversed" "__next__" "reversed.__next__" :=
 .of (owner:="reversed") (n:="__next__") (by rw[afA,afn];kernel_rfl) (by decide +kernel) (by decide +kernel) (by decide +kernel)
  (by first | exact .inl (by decide +kernel) | exact .inr (by decide +kernel)) (by rw[afH];kernel_rfl)
def zo9:Slot "reversed" "__iter__" "reversed.__iter__" :=
 .of (owner:="reversed") (n:="__iter__") (by rw[afA,afn];kernel_rfl) (by decide +kernel) (by decide +kernel) (by decide +kernel)
  (by first | exact .inl (by decide +kernel) | exact .inr (by decide +kernel)) (by rw[afH];kernel_rfl)
def entry_next:entryFor table "reversed.__next__" = some Builtin.«reversed.__next__»:=entryFor_of_tree (by kernel_rfl)
def zrz:entryFor table "reversed.__iter__" = some Builtin.«dict_keyiterator.__iter__» :=
 entryFor_alias (id':="dict_keyiterator.__iter__") (by kernel_rfl) (by first | rfl | decide +kernel | (unfold String.splitOn;simp +decide [String.splitOnAux])) (by decide +kernel) (by kernel_rfl)
def args_next(a:Value):argsOk "reversed.__next__" ⟨[a],[]⟩:=by
 unfold argsOk;rw[signature?_of (id:="reversed.__next__") (n:=['_','_','t','x','e','n','_','_']) (o:=['d','e','s','r','e','v','e','r']) (by kernel_rfl) owner];kernel_rfl
def GC(a:Value):argsOk "reversed.__iter__" ⟨[a],[]⟩:=by
 unfold argsOk;rw[signature?_of (id:="reversed.__iter__") (n:=['_','_','r','e','t','i','_','_']) (o:=['d','e','s','r','e','v','e','r']) (by kernel_rfl) owner];kernel_rfl
def called:TypeCalled "reversed" "reversed.__new__" "object.__init__" :=
 ⟨by decide +kernel,by decide +kernel,⟨_,_,F.mro_reversed⟩,F.made_reversed,by decide +kernel,by rw[afH];kernel_rfl,Ej⟩
def Ef:typeLookup (.type "str") "__reversed__" = pure none:=by rw[afA,afn];kernel_rfl
def Eb:typeLookup (.type "tuple") "__reversed__" = pure none:=by rw[afA,afn];kernel_rfl
def zs0:isSubtype (.type "tuple") (.type "dict")=pure false:=by rw[afH];kernel_rfl
noncomputable def ob(q:Value)(i:Int):Obj:={ cls:=.type "reversed",data:=.fields #[q,rawInt i] }
def At(h:Heap)(a:Addr)(q:Value)(i:Int):Prop:=∃o,h.get? a=some o/\o.cls=.type "reversed"/\o.data=.fields #[q,rawInt i]
def At.typeIs{s:Shared}{a:Addr}{q:Value}{i:Int}(x:At s.heap a q i):s.TypeIs (.ref a) "reversed":=let ⟨o,ho,hc,_⟩:=x;⟨o,ho,hc⟩
section
variable  {prog:Program}{w:World}{A:Around}{E:Value->Shared->Prop}{s:Shared}
def Qv(x:Str)(t:Tok)(hx:x.length<=sizeLine):MeetsIn prog w (Builtin.«reversed.__new__» ⟨[.type "reversed",.str x t],[]⟩)
  (λA R s=>R (.ok (.ret (.ref s.heap.objs.size))) { s with toks:=s.toks+2,heap:=s.heap.push (ob (.str x t) ((x.length:Int) - 1)) }) :=
 .of_wp λA R s h=>by
  have hn:=iI;unfold Builtin.«reversed.__new__»;refine ae0 (afj (newClass_reversed _) ?_)
  try dsimp only
  refine ae0 (afj (a:=()) (by first | rfl | kernel_rfl) ?_);refine ae0 (afj (a:=()) (by first | rfl | kernel_rfl) ?_)
  try dsimp only
  refine ae0 (afz (T:="str") (typeIs_str s x t) Ef ?_)
  try dsimp only
  refine ae0 (ae3 ?_);rw[ae2 (by decide)];refine ae0 (P.len_str (by omega) ?_);refine ae0 (afj (a:=some (x.length:Int)) rfl ?_);show wpAny _ _ (newObj (.type "reversed") (.fields #[.str x t,rawInt ((x.length:Int) - 1)]) >>= _) _ _ _;refine ae0 (afi ?_ (by size_fits));exact ae3 ⟨_,rfl,h⟩
def Qu(a:Addr)(items:Array Value):MeetsIn prog w (Builtin.«reversed.__new__» ⟨[.type "reversed",.ref a],[]⟩)
  (λA R s=>IsTup s.heap a items/\items.size<=sizeLine/\R (.ok (.ret (.ref s.heap.objs.size))) { s with toks:=s.toks+2,heap:=s.heap.push (ob (.ref a) ((items.size:Int) - 1)) }) :=
 .of_wp λA R s zz=>by
  obtain⟨ht,hx,h⟩:=zz;have hn:=iI;unfold Builtin.«reversed.__new__»;refine ae0 (afj (newClass_reversed _) ?_)
  try dsimp only
  refine ae0 (afj (a:=()) (by first | rfl | kernel_rfl) ?_);refine ae0 (afj (a:=()) (by first | rfl | kernel_rfl) ?_)
  try dsimp only
  refine ae0 (afz (T:="tuple") ht.typeIs Eb ?_)
  try dsimp only
  refine ae0 ?_;show wpAny _ _ (isInstance (.ref a) (.type "dict") >>= _) _ _ _;refine ae0 (wpAny_isInstance ht.typeIs zs0 ?_);show wpAny _ _ (specialOf (.ref a) "__getitem__" >>= _) _ _ _;refine ae0 (afz ht.typeIs slot_tuple_getitem.lookup ?_);refine ae3 ?_;rw[ae2 (by decide)];refine ae0 (len_tuple ht (by omega) ?_);refine ae0 (afj (a:=some (items.size:Int)) rfl ?_);show wpAny _ _ (newObj (.type "reversed") (.fields #[.ref a,rawInt ((items.size:Int) - 1)]) >>= _) _ _ _;refine ae0 (afi ?_ (by size_fits));exact ae3 ⟨_,rfl,h⟩
def Mp{x:Str}{t:Tok}{Q:Value->Shared->Prop}(hx:x.length<=sizeLine)(h:Q (.ref s.heap.objs.size) { s with toks:=s.toks+2,heap:=s.heap.push (ob (.str x t) ((x.length:Int) - 1)) }) :
  wpAny (model prog w) A (call (.type "reversed") [.str x t]) Q E s :=
 callType_newIn called (by decide) (F.typeCall_reversed_1 _) (F.newCall_reversed_1 _) (λobj=>F.args_object_init_2 obj _) F.entry_reversed_new (Qv x t hx) ⟨⟨_,gU _ rfl,rfl⟩,h⟩
def Mm{a:Addr}{items:Array Value}{Q:Value->Shared->Prop}(ht:IsTup s.heap a items)(hx:items.size<=sizeLine)(h:Q (.ref s.heap.objs.size) { s with toks:=s.toks+2,heap:=s.heap.push (ob (.ref a) ((items.size:Int) - 1)) }) :
  wpAny (model prog w) A (call (.type "reversed") [.ref a]) Q E s :=
 callType_newIn called (by decide) (F.typeCall_reversed_1 _) (F.newCall_reversed_1 _) (λobj=>F.args_object_init_2 obj _) F.entry_reversed_new (Qu a items) ⟨ht,hx,⟨_,gU _ rfl,rfl⟩,h⟩
def next_item{it:Addr}{q u:Value}{T gid:String}{i:Nat}{k:Tok}{Q:Option Value->Shared->Prop}(hit:At s.heap it q (i:Int))(hT:s.TypeIs q T)(sl:Slot T "__getitem__" gid)
  (get:∀(A':Around) (Q':Value->Shared->Prop) (E':Value->Shared->Prop),Q' u { s with toks:=s.toks+1+k }->wpAny (model prog w) A' (getItem q (.int i s.toks)) Q' E' { s with toks:=s.toks+1 })
  (hQ:∀h',At h' it q ((i:Int) - 1)->Heap.SameBut it s.heap h'->Q (some u) { s with toks:=s.toks+1+k,heap:=h' }):wpAny (model prog w) A (pyNext (.ref it)) Q E s:=by
 obtain⟨o,ho,hc,hd⟩:=id hit;unfold pyNext;refine ae0 (wpAny_attempt (afk (name:=Str.ofString "__next__") hit.typeIs slot_next (afy slot_next hit.typeIs entry_next ?_ (args_next _))));unfold Builtin.«reversed.__next__»;refine ae0 (afj (a:=(Value.ref it,[])) rfl ?_)
 try dsimp only
 refine ae0 (afw ho hd (x:=q) rfl ?_);refine ae0 (afw ho hd (x:=rawInt (i:Int)) rfl ?_);show wpAny _ _ (if (i:Int)<0 then _ else _) _ _ s;rw[ae2 (by omega)];refine ae0 (afz hT sl.lookup ?_);rw[ae2 (by simp)];refine ae0 (wpAny_mkInt ?_);refine ae0 (wpAny_attempt (get _ _ _ ?_));dsimp only;refine ae0 (afw (s:={ s with toks:=s.toks+1+k }) ho hd (x:=rawInt (i:Int)) rfl ?_);show wpAny _ _ (setField (.ref it) 1 (rawInt ((i:Int) - 1)) >>= _) _ _ _;refine ae0 (wpAny_setField (s:={ s with toks:=s.toks+1+k }) ho hd (by simp) ?_);refine ae3 ⟨_,rfl,ae3 (hQ _ ?_ (afD ..))⟩;exact⟨_,pJ _ ho (Obj.isFreed_of_fields (Obj.data_mapFields hd _)),(Obj.cls_mapFields ..).trans hc,by rw[Obj.data_mapFields hd];simp⟩
def next_end{it:Addr}{q:Value}{Q:Option Value->Shared->Prop}(hh:A.handled=none)(hit:At s.heap it q (-1))(hQ:∀h',Heap.ExtBut it s.heap h'->Q none { s with heap:=h' }):wpAny (model prog w) A (pyNext (.ref it)) Q E s:=by
 obtain⟨o,ho,hc,hd⟩:=id hit;unfold pyNext;refine ae0 (wpAny_attempt (afk (name:=Str.ofString "__next__") hit.typeIs slot_next (afy slot_next hit.typeIs entry_next ?_ (args_next _))));unfold Builtin.«reversed.__next__»;refine ae0 (afj (a:=(Value.ref it,[])) rfl ?_)
 try dsimp only
 refine ae0 (afw ho hd (x:=q) rfl ?_);refine ae0 (afw ho hd (x:=rawInt (-1)) rfl ?_);show wpAny _ _ (if (-1:Int)<0 then _ else _) _ _ s;rw[ae1 (by decide)];refine ae0 (wpAny_rule ?_);refine ae0 ?_;show wpAny _ _ (setField (.ref it) 1 (rawInt (-1)) >>= _) _ _ _;refine ae0 (wpAny_setField ho hd (by simp) ?_);have hd1:=Obj.data_mapFields hd (λvs=>vs.set! 1 (rawInt (-1)));have ho1:=pJ (λo=>o.mapFields λvs=>vs.set! 1 (rawInt (-1))) ho (Obj.isFreed_of_fields hd1);refine wpAny_setField ho1 hd1 (by simp) ?_;refine ae0 ?_;unfold Builtin.SmallTypes.stopIteration newExc newTuple raiseNew
 wp_walk
 refine afj isSubtype_stop ?_;rw[ae1 rfl];refine ae3 (hQ _ λb o hb e=>g8 _ (g8 _ ?_));exact (afD ..).extBut b o hb ((afD ..).extBut b o hb e)
def zho{it:Addr}{q:Value}{i:Int}{Q:Value->Shared->Prop}(hit:At s.heap it q i)(h:Q (.ref it) s):wpAny (model prog w) A (pyIter (.ref it)) Q E s:=by
 refine wpAny_pyIter_slot hit.typeIs zo9 (afy zo9 hit.typeIs zrz ?_ (GC _));show wpAny _ _ (ret (.ref it)) _ _ s;exact ae3 ⟨_,rfl,"reversed",_,hit.typeIs,slot_next.lookup,h⟩
end
end Rv
end L2
namespace L2
open PySem PySem.Spec PyProof.Rows
noncomputable def YB(x:Str):It :=
 ⟨λi _=>i<x.cps.size,λi H y H'=>H'=H/\∃c,x.cps[x.cps.size - 1 - i]? = some c/\y=.str ⟨#[c]⟩,λi _=>i=x.cps.size⟩
def DY{P:Program}{w:World}{K:PySem.W.Frag}{tg:Expr}(x:Str)(t:Tok)(hx:x.cps.size<=sizeLine)(it:Addr):Turn P w K tg (YB x) [it] it (λi h=>Rv.At h it (.str x t) ((x.cps.size:Int) - 1 - (i:Nat))) where
 mem:=h_.mpr rfl
 obj:=λi h st b hb=>by
  obtain rfl:=h_.mp hb;obtain⟨o,e,_,d⟩:=st;exact⟨o,e,λv z=>by rw[d]at z;cases z⟩
 keep:=λi h h' ⟨o,e,r⟩ k=>⟨o,k it (h_.mpr rfl) o e,r⟩
 item:=by
  intro X hP hw hK hc i pins s σ H E I hf st hg;subst hP hw hK;have hi:i<x.cps.size:=hg;have hl:=iI;obtain⟨f0,f1,f2,f3,f4,f5⟩:=hf it (h_.mpr rfl);rw[show (x.cps.size:Int) - 1 - (i:Nat)=((x.cps.size - 1 - i:Nat):Int) by omega]at st;obtain⟨c,Yd⟩:∃c,x.cps[x.cps.size - 1 - i]? = some c:=⟨_,pK (by omega)⟩;refine Rv.next_item (k:=1) (u:=.str ⟨#[c]⟩ (s.toks+1)) (T:="str") st (typeIs_str s x t) PySem.F.slot_str_getitem (λA' Q' E' q=>P.getItem_str (c:=c) ?_ ?_ q) λh' st' sb=>?_
  ·have h1:¬ (((x.cps.size - 1 - i:Nat):Int) < -(2 ^ 63:Int)):=by omega
   have h2:¬ (((x.cps.size - 1 - i:Nat):Int) ≥ 2 ^ 63):=by omega
   rw[ae4 h1,ae4 h2];rfl
  ·have e:seqIndex? ((x.cps.size - 1 - i:Nat):Int) x.length=some (x.cps.size - 1 - i):=by
    unfold seqIndex?;have:x.length=x.cps.size:=rfl;simp only[this]
    split
    ·omega
    ·simp;omega
   rw[e];exact Yd
  ·have I1:Inv X pins σ H { s with toks:=s.toks+1+1,heap:=h' }:=I.turned (t':=s.toks+1+1) (λb o hb e=>(sb.2 b hb).trans e) f0 f1 f3 f4 f5;obtain⟨o,e,c',d⟩:=id st';refine⟨_,rfl,rm (s:={ s with toks:=s.toks+1+1,heap:=h' }) e c' d (by decide) ⟨.str ⟨#[c]⟩,H,I1,⟨_,rfl⟩,⟨rfl,c,Yd,rfl⟩,?_,λb hb=>(hf b hb).1⟩⟩;rw[show (x.cps.size:Int) - 1 - ((i+1:Nat))=((x.cps.size - 1 - i:Nat):Int) - 1 by omega];exact st'
 done:=by
  intro X hP hw hK hc i pins s σ H E I hf st hg;subst hP hw hK;obtain rfl:i=x.cps.size:=hg;obtain⟨f0,f1,f2,f3,f4,f5⟩:=hf it (h_.mpr rfl);rw[show (x.cps.size:Int) - 1 - (x.cps.size:Nat)=-1 by omega]at st;exact Rv.next_end (I.ok.hd hc) st λh' eb=>⟨rfl,I.turned (t':=s.toks) (λb o hb e=>eb b o hb e) f0 f1 f3 f4 f5⟩
 self:=λ_ _ _ _ _ st h=>Rv.zho st h
noncomputable def abp(ta:TA):TI:=fun σ H R=>ta σ H λvs H1=>∃x,vs=[.str x]/\x.cps.size<=sizeLine/\R (YB x) H1
def PB{X:Cx}{tg a:Expr}{ta:TA}{p pos:Pos}(hg:Gl X "reversed")(hm:X.mg "reversed" = none)(ha:PA X [a] ta)(hs:starEach [a] X.env=[(false,eval a X.env)]:=by rfl) :
  PI X tg (.Call (.Name "reversed" p) [a] [] pos) (abp ta):=by
 intro pins s σ H R I h;refine Call_ (Nt I hg hm zmx (ae9 (cC (ha pos pins s σ H _ I h) λus s1 zz=>?_) hs rfl));obtain⟨vs,H1,I1,r1,q1⟩:=zz;obtain⟨x,rfl,hx,q⟩:=q1;obtain⟨u,rfl,t,rfl⟩:=vals1 r1;refine Rv.Mp hx ?_;have st:Rv.At (s1.heap.push (Rv.ob (.str x t) ((x.length:Int) - 1))) s1.heap.objs.size (.str x t) ((x.cps.size:Int) - 1 - ((0:Nat):Int)):=by
  refine⟨_,gU _ rfl,rfl,?_⟩;rw[show (x.cps.size:Int) - 1 - ((0:Nat):Int)=(x.length:Int) - 1 by have:x.length=x.cps.size:=rfl;omega];rfl
 refine Rv.zho st ?_;refine⟨s1.heap.objs.size,[s1.heap.objs.size],_,_,H1,rfl,I1.kept (t':=s1.toks+2) λb o e=>g8 _ e,DY x t hx _,st,λb hb=>?_,q⟩;obtain rfl:=h_.mp hb;exact I1.uH (gb _) (I1.bJ.fresh (gb _))
noncomputable def Yz(K:PySem.W.Frag)(a:Addr)(n:Nat):It :=
 ⟨λi H=>∃xs x,oK K H a xs/\xs.length=n/\i<n/\xs[n - 1 - i]? = some x,λi H x H'=>H'=H/\∀xs,oK K H a xs->xs[n - 1 - i]? = some x,λi H=>(∃xs,oK K H a xs/\xs.length=n)/\i=n⟩
def DX{P:Program}{w:World}{K:PySem.W.Frag}{tg:Expr}(a it:Addr)(n:Nat):Turn P w K tg (Yz K a n) [it] it (λi h=>Rv.At h it (.ref a) ((n:Int) - 1 - (i:Nat))) where
 mem:=h_.mpr rfl
 obj:=λi h st b hb=>by
  obtain rfl:=h_.mp hb;obtain⟨o,e,_,d⟩:=st;exact⟨o,e,λv z=>by rw[d]at z;cases z⟩
 keep:=λi h h' ⟨o,e,r⟩ k=>⟨o,k it (h_.mpr rfl) o e,r⟩
 item:=by
  intro X hP hw hK hc i pins s σ H E I hf st hg;subst hP hw hK;obtain⟨xs,x,hq,hn,hi,hx⟩:=hg;obtain⟨its,rv,p,hz⟩:=I.tuple hq;obtain⟨u,hu,ru⟩:=rv.get hx;have hl:=iI;have hlen:=rv.length;obtain⟨f0,f1,f2,f3,f4,f5⟩:=hf it (h_.mpr rfl);rw[show (n:Int) - 1 - (i:Nat)=((n - 1 - i:Nat):Int) by omega]at st;refine Rv.next_item (k:=0) (u:=u) (T:="tuple") st p.typeIs slot_tuple_getitem (λA' Q' E' q=>getItem_tuple (s:={ s with toks:=s.toks+1 }) p (by omega) (by omega) (j:=n - 1 - i) ?_ (by simpa using hu) q) λh' st' sb=>?_
  ·unfold seqIndex?
   split
   ·omega
   ·simp;omega
  ·have I1:Inv X pins σ H { s with toks:=s.toks+1+0,heap:=h' }:=I.turned (t':=s.toks+1+0) (λb o hb e=>(sb.2 b hb).trans e) f0 f1 f3 f4 f5;obtain⟨o,e,c',d⟩:=id st';refine⟨u,rfl,rm (s:={ s with toks:=s.toks+1+0,heap:=h' }) e c' d (by decide) ⟨x,H,I1,ru,⟨rfl,λys hy=>by rw[I.sy hy hq];exact hx⟩,?_,λb hb=>(hf b hb).1⟩⟩;rw[show (n:Int) - 1 - ((i+1:Nat))=((n - 1 - i:Nat):Int) - 1 by omega];exact st'
 done:=by
  intro X hP hw hK hc i pins s σ H E I hf st hg;subst hP hw hK;obtain⟨_,rfl⟩:=hg;obtain⟨f0,f1,f2,f3,f4,f5⟩:=hf it (h_.mpr rfl);rw[show (i:Int) - 1 - (i:Nat)=-1 by omega]at st;exact Rv.next_end (I.ok.hd hc) st λh' eb=>⟨rfl,I.turned (t':=s.toks) (λb o hb e=>eb b o hb e) f0 f1 f3 f4 f5⟩
 self:=λ_ _ _ _ _ st h=>Rv.zho st h
noncomputable def abo(K:PySem.W.Frag)(ta:TA):TI:=fun σ H R=>ta σ H λvs H1=>∃a xs,vs=[.ref a]/\oK K H1 a xs/\R (Yz K a xs.length) H1
def Pz{X:Cx}{tg a:Expr}{ta:TA}{p pos:Pos}(hg:Gl X "reversed")(hm:X.mg "reversed" = none)(ha:PA X [a] ta)(hs:starEach [a] X.env=[(false,eval a X.env)]:=by rfl) :
  PI X tg (.Call (.Name "reversed" p) [a] [] pos) (abo X.K ta):=by
 intro pins s σ H R I h;refine Call_ (Nt I hg hm zmx (ae9 (cC (ha pos pins s σ H _ I h) λus s1 zz=>?_) hs rfl));obtain⟨vs,H1,I1,r1,q1⟩:=zz;obtain⟨l,xs,rfl,hq,q⟩:=q1;obtain⟨u,rfl,rx⟩:=vals1 r1;cases rx;obtain⟨its,rv,pl,hz⟩:=I1.tuple hq;have hlen:=rv.length;refine Rv.Mm pl (by simp only[gC];omega) ?_;have st:Rv.At (s1.heap.push (Rv.ob (.ref l) ((its.toArray.size:Int) - 1))) s1.heap.objs.size (.ref l) ((xs.length:Int) - 1 - ((0:Nat):Int)):=by
  refine⟨_,gU _ rfl,rfl,?_⟩;rw[show (xs.length:Int) - 1 - ((0:Nat):Int)=(its.toArray.size:Int) - 1 by rw[gC];omega];rfl
 refine Rv.zho st ?_;refine⟨s1.heap.objs.size,[s1.heap.objs.size],_,_,H1,rfl,I1.kept (t':=s1.toks+2) λb o e=>g8 _ e,DX l _ xs.length,st,λb hb=>?_,q⟩;obtain rfl:=h_.mp hb;exact I1.uH (gb _) (I1.bJ.fresh (gb _))
end L2
namespace M
open PySem PySem.Spec L2
section
variable  {X:Cx}{a:Expr}{mA:MA}{μ:List Addr}{H:Hp}{p pos:Pos}
noncomputable def BV(mA:MA):MI:=λenv st=>(mA env st).bind λds st1=>match ds with
 | [.str cs]=>if cs.length<=1000000 then .ok (cs.reverse.map λc=>D.str [c],[]) st1 else .bad
 | _=>.bad
noncomputable def HQ(mA:MA):MI:=λenv st=>(mA env st).bind λds st1=>match ds with
 | [.tup xs]=>.ok (xs.reverse,[]) st1
 | _=>.bad
@[simp] theorem ace(env:aJ)(st:ak):BV mA env st=(mA env st).bind λds st1=>match ds with
 | [.str cs]=>if cs.length<=1000000 then .ok (cs.reverse.map λc=>D.str [c],[]) st1 else .bad
 | _=>.bad:=dq rfl
@[simp] theorem acd(env:aJ)(st:ak):HQ mA env st=(mA env st).bind λds st1=>match ds with
 | [.tup xs]=>.ok (xs.reverse,[]) st1
 | _=>.bad:=dq rfl
def Kv(cs:List Nat):j9 X μ H (YB (strOf cs)) (cs.reverse.map λc=>D.str [c],[]):=by
 intro H' μ' st' g hs ok;have hz:(strOf cs).cps.size=cs.length:=by simp
 refine⟨λi d e=>?_,by show _=(strOf cs).cps.size;rw[hz];simp⟩;have e:(cs.reverse.map λc=>D.str [c])[i]? = some d:=e;rw[gM]at e;obtain⟨c,e2,rfl⟩:=mQ.mp e;have hi:i<cs.length:=by have:=(gf.mp e2).1;simpa using this
 rw[nZ hi]at e2;refine⟨by show i<(strOf cs).cps.size;omega,?_⟩;rintro x Bf ⟨rfl,c',hc,rfl⟩;rw[hz]at hc;have h2:cs[cs.length - 1 - i]? = some c':=by simpa using hc
 rw[e2]at h2;cases h2;exact⟨.refl _ _,hs,ao.aO.mpr rfl⟩
def QK{tg:Expr}(ha:JA X [a] mA)(hg:Gl X "reversed")(hm:X.mg "reversed" = none)(hs:starEach [a] X.env=[(false,eval a X.env)]:=by rfl):JI X tg (.Call (.Name "reversed" p) [a] [] pos) (BV mA):=by
 refine JI.of (PB hg hm ha hs) fun σ H R zz=>?_;obtain⟨μ,env,st,hE,hs,hp⟩:=zz;refine⟨μ,env,st,hE,hs,(bF.bind hp).imp ?_⟩;rintro vs H1 ⟨μ1,st1,ds,g1,bx,hv,aP⟩;dsimp only at aP
 split at aP
 ·rename_i cs
  split at aP
  ·rename_i hc;obtain⟨v,rfl,q1⟩:=aq.one hv;obtain rfl:=ao.aO.mp q1;refine⟨strOf cs,rfl,?_,aP _ _ _ (.refl _ _) bx (Kv cs)⟩;show cs.toArray.size<=sizeLine;rw[afB];simp;omega
  ·exact aP.elim
 ·exact aP.elim
def Ku{ds:List D}{q:Addr}{xs:List V}(hq:oK X.K H q xs)(hd:aq X.K μ H ds xs):j9 X μ H (Yz X.K q ds.length) (ds.reverse,[]):=by
 intro H' μ' st' g hs ok;have FN:=g.ext.qP hq;have zc:=hd.mono g ds;refine⟨λi d e=>?_,⟨xs,FN,hd.length.symm⟩,by simp⟩;have e:ds.reverse[i]? = some d:=e;have hi:i<ds.length:=by have:=(gf.mp e).1;simpa using this
 rw[nZ hi]at e;obtain⟨v,h1,h2⟩:=zc.get e;refine⟨⟨xs,v,FN,hd.length.symm,hi,h1⟩,?_⟩;rintro x Bf ⟨rfl,hx⟩;have:=hx xs FN;rw[h1]at this;cases this;exact⟨.refl _ _,hs,h2⟩
def QJ{tg:Expr}(ha:JA X [a] mA)(hg:Gl X "reversed")(hm:X.mg "reversed" = none)(hs:starEach [a] X.env=[(false,eval a X.env)]:=by rfl):JI X tg (.Call (.Name "reversed" p) [a] [] pos) (HQ mA):=by
 refine JI.of (Pz hg hm ha hs) fun σ H R zz=>?_;obtain⟨μ,env,st,hE,hs,hp⟩:=zz;refine⟨μ,env,st,hE,hs,(bF.bind hp).imp ?_⟩;rintro vs H1 ⟨μ1,st1,ds,g1,bx,hv,aP⟩;dsimp only at aP
 split at aP
 ·rename_i xs;obtain⟨v,rfl,q1⟩:=aq.one hv;obtain⟨b,ys,rfl,q2,q3⟩:=ao.aR.mp q1;exact⟨b,ys,rfl,q2.qP,by rw[<-q3.length];exact aP _ _ _ (.refl _ _) bx (Ku q2.qP q3)⟩
 ·exact aP.elim
end
end M
namespace L2
open PySem PySem.Spec PyProof.Rows
section
variable  {X:Cx}
def zpz:rY X "str.isalpha" (λx xs H Q=>∃z:Str,x=.str z/\xs=[]/\Q (.bl (Txt.isalpha z)) H):=by
 rintro pins s σ H x xs v us Q I rx En ⟨z,rfl,rfl,h⟩;obtain⟨t,rfl⟩:=rx;cases En;exact SC.isalpha ⟨.bl (Txt.isalpha z),H,I,rfl,h⟩
def zrb:rY X "str.index" (λx xs H Q=>∃(z:Str) (y:Str) (i:Nat) (r:List Nat),x=.str z/\xs=[.str y]/\Builtin.Str.occurrences z y 0 z.length 1=i::r/\Q (.int i) H):=by
 rintro pins s σ H x xs v us Q I rx En ⟨z,y,i,r,rfl,rfl,ho,h⟩;obtain⟨t,rfl⟩:=rx;obtain⟨u,rfl,t',rfl⟩:=vals1 En;exact SC.index ho ⟨.int i,H,I.tok _,⟨_,rfl⟩,h⟩
def zso:rY X "list.index" (λx xs H Q=>∃(a:Addr) (ns:List Int) (k:Int) (j:Nat),x=.ref a/\xs=[.int k]/\oF X.K H a (ns.map V.int)/\ns.findIdx? (λz=>decide (z=k))=some j/\Q (.int j) H):=by
 rintro pins s σ H x xs v us Q I rx En ⟨a,ns,k,j,rfl,rfl,hq,hj,h⟩;cases rx;obtain⟨u,rfl,t,rfl⟩:=vals1 En;obtain⟨its,rv,⟨⟨c0,d0,dt,sl⟩,n,e,hc,hd,hs⟩,hz⟩:=I.list hq;replace hc:c0=.type "list":=hc;replace hd:d0=none:=hd;replace hs:dt=.seq its.toArray n:=hs;subst hc hd hs;have hl:=iI;have hlen:=rv.length;rw[gh]at hlen hz;have at_:∀(m:Nat) (hm:m<its.length),∃t',its[m]=.int (ns[m]'(by omega)) t':=λm hm=>by
  obtain⟨u,hu,ru⟩:=rv.get (i:=m) (x:=.int (ns[m]'(by omega))) (by rw[gM,gK (by omega)];rfl);rw[gK hm]at hu;cases hu;exact ru
 obtain⟨hj1,hj2,hj3⟩:=pQ.mp hj
 let f:Value->Bool:=PyProof.Rows.isInt k
 have fe:∀(m:Nat) (hm:m<its.length),f its[m]=decide (ns[m]'(by omega)=k):=λm hm=>by
  obtain⟨t',e'⟩:=at_ m hm;rw[e'];show PyProof.Rows.isInt k _=_;unfold PyProof.Rows.isInt;rw[mU];simp
 refine call_meets PySem.F.slot_list_index ⟨_,e,rfl⟩ PySem.F.entry_list_index (PySem.F.args_list_index_2 _ _)
  (PySem.SeqAt.list_indexAt a its.toArray n none sl (.int k t) f j (by simp;omega) (by omega) ?_ λm hm zY=>?_) ⟨e,λy hy=>?_,⟨.int j,H,I.tok _,⟨_,rfl⟩,h⟩⟩
 ·simp only[List.getElem_toArray];rw[fe j (by omega)];exact hj2
 ·simp only[List.getElem_toArray];rw[fe m (by simpa using hm)];have:=hj3 m zY;simpa using this
 ·have Xy:y∈its:=by simpa using hy
  obtain⟨m,hm,rfl⟩:=mZ.mp Xy;obtain⟨t',e'⟩:=at_ m hm;rw[e'];exact (PySem.MeetsSeq.EqGives.int _ k t' t).at _ _
end
end L2
namespace M
open PySem PySem.Spec L2
section
variable  {X:Cx}
noncomputable def tE(cs:List Nat):Bool:=!cs.isEmpty && cs.all PySem.Unicode.isAlpha
noncomputable def lQ:D->List D->ak->R D
 | .str cs,[],st=>.ok (.bl (tE cs)) st
 | _,_,_=>.bad
def zp9:rY X "str.isalpha" (GX X lQ):=by
 refine rY.weak zpz ?_;rintro x xs H Q ⟨μ,st,d,ds,hs,hx,lR,hp⟩;unfold lQ at hp
 split at hp
 ·rename_i cs;obtain rfl:=ao.aO.mp hx;cases lR;refine⟨strOf cs,rfl,rfl,?_⟩;have e:Txt.isalpha (strOf cs)=tE cs:=by
   unfold Txt.isalpha tE;cases cs<;>simp[Str.length,strOf]
  rw[e];exact hp.ret hs (ao.bw.mpr rfl)
 ·exact hp.elim
noncomputable def qR:D->List D->ak->R D
 | .str cs,[.str [c]],st=>match cs.findIdx? (λz=>decide (z=c)) with
  | some j=>.ok (.int j) st
  | none=>.bad
 | _,_,_=>.bad
theorem Qq(cs:List Nat)(c:Nat):match cs.findIdx? (λz=>decide (z=c)) with
  | some j=>∃r,Builtin.Str.occurrences (strOf cs) (strOf [c]) 0 (strOf cs).length 1=j::r
  | none=>Builtin.Str.occurrences (strOf cs) (strOf [c]) 0 (strOf cs).length 1=[]:=by
 have key:∀i,PySem.StrLaws.At (strOf cs) (strOf [c]) (strOf cs).length i↔cs[i]? = some c:=λi=>by
  have:=PySem.StrLaws.subAt_one (strOf cs) c i;rw[show (strOf cs).cps.toList=cs by simp]at this;exact this
 rcases PySem.StrLaws.occ_head (strOf cs) (strOf [c]) 1 (gb _) with⟨e,h⟩ | ⟨i,r,e,h1,h2⟩
 ·cases hj:cs.findIdx? (λz=>decide (z=c)) with
  | none=>exact e
  | some j =>
   obtain⟨q1,q2,_⟩:=pQ.mp hj;exact absurd ((key j).mpr (by rw[gK q1];simpa using q2)) (h j)
 ·rw[key]at h1;obtain⟨hi,h1⟩:=gf.mp h1;have:cs.findIdx? (λz=>decide (z=c))=some i:=by
   rw[pQ];refine⟨hi,by simpa using h1,λk hk=>?_⟩;have:=h2 k hk;rw[key,gK (by omega)]at this;simpa using this
  rw[this];exact⟨r,e⟩
def ztu:rY X "str.index" (GX X qR):=by
 refine rY.weak zrb ?_;rintro x xs H Q ⟨μ,st,d,ds,hs,hx,lR,hp⟩;unfold qR at hp
 split at hp
 ·rename_i cs c;obtain rfl:=ao.aO.mp hx;obtain⟨v,rfl,q⟩:=aq.one lR;obtain rfl:=ao.aO.mp q;have h:=Qq cs c;cases e:cs.findIdx? (λz=>decide (z=c)) with
  | none=>rw[e]at hp;exact hp.elim
  | some j =>
   rw[e]at hp h;obtain⟨r,h⟩:=h;exact⟨_,_,j,r,rfl,rfl,h,hp.ret hs (ao.aF.mpr rfl)⟩
 ·exact hp.elim
noncomputable def jU:D->List D->ak->R D
 | .loc n,[.int k],st=>match aA st n with
  | some l=>(match intsOf l with
   | some ns=>(match ns.findIdx? (λz=>decide (z=k)) with
    | some j=>.ok (.int j) st
    | none=>.bad)
   | none=>.bad)
  | none=>.bad
 | _,_,_=>.bad
def zth:rY X "list.index" (GX X jU):=by
 refine rY.weak zso ?_;rintro x xs H Q ⟨μ,st,d,ds,hs,hx,lR,hp⟩;unfold jU at hp
 split at hp
 ·rename_i n k;obtain⟨a,q1,rfl⟩:=ao.aG.mp hx;obtain⟨v,rfl,q⟩:=aq.one lR;obtain rfl:=ao.aF.mp q;cases e1:aA st n with
  | none=>rw[e1]at hp;exact hp.elim
  | some l =>
   rw[e1]at hp;dsimp only at hp;cases e2:intsOf l with
   | none=>rw[e2]at hp;exact hp.elim
   | some ns =>
    rw[e2]at hp;dsimp only at hp;cases e3:ns.findIdx? (λz=>decide (z=k)) with
    | none=>rw[e3]at hp;exact hp.elim
    | some j =>
     rw[e3]at hp;obtain⟨p',ys,r1,r2,r3⟩:=hs.items e1;rw[q1]at r1;cases r1;rw[zk6 e2 r3]at r2;exact⟨a,ns,k,j,rfl,rfl,r2,e3,hp.ret hs (ao.aF.mpr rfl)⟩
 ·exact hp.elim
end
noncomputable def abF{α:Type}:List (Str×α)->Nat->List Str
 | (x,_)::l,n+1=>x::abF l n
 | _,_=>[]
noncomputable def Ah(st:Stmt)(a:Nat):List Str:=abF (aC st).names a
abbrev Row:Type:=Str×Stmt×Nat
def Fn(K:PySem.W.Frag)(mg:Str->Option Value)(p:Row):Prop:=∃f fd,Ds K p.1 p.1 p.2.1 f fd/\mg p.1=some (.ref f)/\Binds K fd (Ah p.2.1 p.2.2) []
inductive Us (K:PySem.W.Frag):List Row->Prop
 | nil:Us K []
 | cons {n:Str} {st:Stmt} {a:Nat} {l:List Row} {f:Addr} {fd:FuncData} (h:PySem.W.nsIn K mainGlobals n=some (some (.ref f))) (F:Ds K n n st f fd)
  (b:∀(kV doc pm:Value) (an:Option Addr) (cdv ct:Value) (us:List Value),us.length=(Ah st a).length->bindArgs (PySem.W.fnOf n n (bK st) (aX st) (aC st) .none kV doc pm an cdv ct) ⟨us,[]⟩=pure ((Ah st a).zip us)) (r:Us K l):Us K ((n,st,a)::l)
def Us.all{K:PySem.W.Frag}{h:Heap}{mg:Str->Option Value}(X:K.In h)(G:h.Ns mainGlobals mg){l:List Row}(u:Us K l):∀p∈l,Fn K mg p:=by
 induction u with
 | nil=>intro p hp;cases hp
 | cons a F b r ih =>
  intro p hp;rcases gq.mp hp with rfl | hp
  ·exact⟨_,_,F,ae6 X G a,F.binds b⟩
  ·exact ih p hp
inductive Zs (K:PySem.W.Frag):List Str->Prop
 | nil:Zs K []
 | cons {n:Str} {l:List Str} (h:PySem.W.nsIn K mainGlobals n=some none) (r:Zs K l):Zs K (n::l)
def Zs.all{K:PySem.W.Frag}{h:Heap}{mg:Str->Option Value}(X:K.In h)(G:h.Ns mainGlobals mg){l:List Str}(u:Zs K l):∀x∈l,mg x=none:=by
 induction u with
 | nil=>intro p hp;cases hp
 | cons a r ih =>
  intro p hp;rcases gq.mp hp with rfl | hp
  ·exact PySem.W.mg_none_of X G a
  ·exact ih p hp
inductive As (K:PySem.W.Frag) (C:Addr):List Str->Prop
 | nil:As K C []
 | cons {n:Str} {l:List Str} (h:PySem.W.findIn K (.ref C) n=some none) (r:As K C l):As K C (n::l)
def As.all{K:PySem.W.Frag}{C:Addr}{l:List Str}(u:As K C l):∀x∈l,iT K C x:=by
 induction u with
 | nil=>intro p hp;cases hp
 | cons a r ih =>
  intro p hp;rcases gq.mp hp with rfl | hp
  ·exact a
  ·exact ih p hp
def nth{K:PySem.W.Frag}{mg:Str->Option Value}{l:List Row}(i:Nat){p:Row}(h:∀p∈l,Fn K mg p)(e:l[i]? = some p:=by rfl):Fn K mg p:=h p (gW e)
def Cl(F:FD)(n:Str)(k a:Nat)(P:Program)(w:World)(K:PySem.W.Frag)(mg:Str->Option Value)(base:Heap):Prop :=
 ∃f fd ps,ps.length=a/\mg n=some (.ref f)/\PySem.W.keepIn K (.ref f)=true/\Binds K fd ps []/\bZ P w K mg base qb k f fd ps (u0 K ps.length F)
section
variable  {P:Program}{w:World}{K:PySem.W.Frag}{mg:Str->Option Value}{base:Heap}
def dz{l:List Row}{n:Str}{st:Stmt}{a k:Nat}{N:List Str}{m:MS}(i:Nat)(h:∀p∈l,Fn K mg p)(e:l[i]? = some (n,st,a):=by exact rfl)(hN:Ah st N.length=N:=by exact rfl)
  (hb:∀f cdv A outer s H,cG k (A.deeper (PyProof.Rows.envOfC n (aC st) s.heap.objs.size f cdv))->N.Nodup->zM (vX qb P w K mg base N n (aC st) f cdv A outer s H E0).Jp (aX st) m)
  (S:cJ N (Ah st a) (aC st):=by exact Rq) (hp:(Ah st a).length=a:=by exact rfl):Cl (bu (bh N.length m)) n (k+1) a P w K mg base:=by
 obtain⟨f,fd,F,hm,hbd⟩:=h _ (gW e);have q:=zq F S (λcdv A outer s H hr=>hb f cdv A outer s H hr S.nd);exact⟨f,fd,_,hp,hm,F.kp,hbd,bZ.imp q λvs H Q E h=>qQ h⟩
def Cl.never{n:Str}{st:Stmt}{a k:Nat}(h:Fn K mg (n,st,a))(hp:(Ah st a).length=a:=by rfl):Cl (λ_ _=>.bad) n k a P w K mg base:=by
 obtain⟨f,fd,F,hm,hbd⟩:=h;exact⟨f,fd,_,hp,hm,F.kp,hbd,bZ.never⟩
end
section
variable  {X:Cx}{P:Program}{w:World}{K:PySem.W.Frag}{mg:Str->Option Value}{base:Heap}
def JZ(X:Cx)(es:List Expr)(mA:MA):Prop:=JA X es mA/\∀(env:aJ) (st:ak) (as:List D) (st1:ak),mA env st=.ok as st1->as.length=es.length
def G4:JZ X [] au:=⟨YG,zij⟩
def wO{e:Expr}{es:List Expr}{m:ME}{mA:MA}(h:JE X e m)(r:JZ X es mA)(hs:starEach (e::es) X.env=(false,eval e X.env)::starEach es X.env:=by rfl):JZ X (e::es) (aj m mA):=⟨Ux h r.1 hs,M5 r.2⟩
def j7{F:FD}{n x:Str}{k k' a:Nat}{e:Expr}{es:List Expr}{mA:MA}{p pos:Pos}(G:Cl F n k a P w K mg base)(hr:cG k' X.A)(ha:JZ X (e::es) mA)
  (hX:X.prog=P/\X.w=w/\X.K=K/\X.mg=mg/\X.base=base:=by exact⟨rfl,rfl,rfl,rfl,rfl⟩) (hn:n=x:=by rfl) (XM:k<=k':=by first | decide | omega) (hlen:(e::es).length=a:=by rfl) (hg:Gl X x:=by rfl) (q9:(x==("__debug__":Str))=false:=by decide)
  (he:starEach (e::es) X.env=(false,eval e X.env)::starEach es X.env:=by rfl) (oR:(backTo pos (starEach es X.env)).any (·.1)=false:=by rfl):JE X (.Call (.Name x p) (e::es) [] pos) (az F [] mA):=by
 obtain⟨rfl,rfl,rfl,rfl,rfl⟩:=hX;subst hn;obtain⟨f,fd,ps,hl,hm,hk,hb,g⟩:=G;exact abk g hr hm hk hb ha.1 ha.2 XM (hlen.trans hl.symm) hg q9 he oR
def Kp{F:FD}{n x:Str}{k k' a:Nat}{Λ:Nat->eO}{e:Expr}{es:List Expr}{m:ML}{p pos:Pos}(G:Cl F n k a P w K mg base)(hr:cG k' X.A)(ha:JL X Λ (e::es) m)(XX:∀x,X.fn x=true)(hA:∀env st as st1,m env st=.ok as st1->as.length=(e::es).length)
  (hX:X.prog=P/\X.w=w/\X.K=K/\X.mg=mg/\X.base=base:=by exact⟨rfl,rfl,rfl,rfl,rfl⟩) (hn:n=x:=by rfl) (XM:k<=k':=by first | decide | omega) (hlen:(e::es).length=a:=by rfl) (hg:Gl X x:=by rfl) (q9:(x==("__debug__":Str))=false:=by decide)
  (he:starEach (e::es) X.env=(false,eval e X.env)::starEach es X.env:=by rfl) (oR:(backTo pos (starEach es X.env)).any (·.1)=false:=by rfl):JE X (.Call (.Name x p) (e::es) [] pos) (iM Λ F [] m):=by
 obtain⟨rfl,rfl,rfl,rfl,rfl⟩:=hX;subst hn;obtain⟨f,fd,ps,hl,hm,hk,hb,g⟩:=G;exact Fv (g.mono XM) hr hm hk hb .nil (λ_ _=>aq.nil) ha XX (hlen.trans hl.symm) hg q9 he oR hA
def Xg{F:FD}{n x:Str}{k k':Nat}{p pos:Pos}(G:Cl F n k 0 P w K mg base)(hr:cG k' X.A)
  (hX:X.prog=P/\X.w=w/\X.K=K/\X.mg=mg/\X.base=base:=by exact⟨rfl,rfl,rfl,rfl,rfl⟩) (hn:n=x:=by rfl) (XM:k<=k':=by first | decide | omega) (hg:Gl X x:=by rfl) (q9:(x==("__debug__":Str))=false:=by decide):JE X (.Call (.Name x p) [] [] pos) (az F [] au):=by
 obtain⟨rfl,rfl,rfl,rfl,rfl⟩:=hX;subst hn;obtain⟨f,fd,ps,hl,hm,hk,hb,g⟩:=G;obtain rfl:=List.eq_nil_of_length_eq_zero hl;exact Ko (g.mono XM) hr hm hk hb hg q9
end
end M
set_option maxHeartbeats 0
namespace Law
open PySem PySem.Spec L2 M
noncomputable def top(i:Nat):Stmt:=PySem.Challenge.pw_oneofall_k94_whole_what_is_made_is_playe.main.body.getD i (.Pass ⟨0,0,0,0⟩)
noncomputable abbrev S9:Stmt:=top 6
noncomputable abbrev DP:Stmt:=top 11
noncomputable abbrev DN:Stmt:=top 18
noncomputable abbrev Dz:Stmt:=top 43
noncomputable abbrev zee:Stmt:=(yo (top 67)).getD 0 (.Pass ⟨0,0,0,0⟩)
noncomputable abbrev Zq:Stmt:=(yo (top 67)).getD 1 (.Pass ⟨0,0,0,0⟩)
noncomputable abbrev zcc:Stmt:=(yo (top 79)).getD 0 (.Pass ⟨0,0,0,0⟩)
noncomputable abbrev YX:Stmt:=top 95
noncomputable abbrev l_0:eO:=xn "put_in" ["puts"] (xu (su ((aX DP).getD 0 (.Pass ⟨0,0,0,0⟩))) 1)
noncomputable abbrev l_1:eO:=xn "put_in" [] (xu (su ((aX DP).getD 0 (.Pass ⟨0,0,0,0⟩))) 2)
noncomputable abbrev l_2:eO:=xn "out_and_cost" ["name"] (xu (su ((aX DN).getD 0 (.Pass ⟨0,0,0,0⟩))) 1)
noncomputable abbrev l_3:eO:=xn "out_and_cost" ["name"] (xu (su ((aX DN).getD 0 (.Pass ⟨0,0,0,0⟩))) 2)
noncomputable abbrev l_4:eO:=xn "text_of" ["texts"] (xu (su ((aX Dz).getD 2 (.Pass ⟨0,0,0,0⟩))) 1)
noncomputable abbrev l_5:eO:=xn "text_of" ["head"] (xu (su ((aX Dz).getD 2 (.Pass ⟨0,0,0,0⟩))) 2)
noncomputable def iy:Nat->eO
 | 0=>l_0
 | 1=>l_1
 | 2=>l_2
 | 3=>l_3
 | 4=>l_4
 | 5=>l_5
 | _=>Tw
noncomputable def tabs:List (Str×Addr):=[("out_and_cost",124),("put_in",75),("text_of",258)]
noncomputable def zhz:MS :=
  (retS (orV (Aj (yF "str") (vr 0)) (aL aY (vr 0) (ct (.int 3)))))
noncomputable def DG:FD:=bu (bh 1 zhz)
noncomputable def zjl:MS :=
  (aD (iZ (vh (o_ (az DG [] (aj (vr 1) au)))) (retS (ct (.bl false))) bR)
  (aD (iZ (o_ (Aj (yF "str") (vr 0))) (retS (orV (aL (jf 800) (vr 0) (ct (.str [83]))) (aL (jf 800) (vr 0) (ct (.str [75]))))) bR)
  (retS (wW (aL (jf 800) (aL aY (vr 0) (ct (.int 0))) (ct (.str [83]))) (aL aY (vr 0) (ct (.int 3)))))))
noncomputable def ze1:FD:=bu (bh 2 zjl)
noncomputable def zml:MS :=
  (aD (iZ (o_ (Aj (yF "str") (vr 0))) (retS (ct (.int 1))) bR)
  (retS (aL aY (vr 0) (ct (.int 2)))))
noncomputable def UT:FD:=bu (bh 1 zml)
noncomputable def zov:MS :=
  (retS (f9 (aj (vr 0) (aj (vr 1) (aj (aL bY (az UT [] (aj (vr 0) au)) (az UT [] (aj (vr 1) au))) (aj (az ze1 [] (aj (vr 0) (aj (vr 1) au))) au))))))
noncomputable def lE:FD:=bu (bh 2 zov)
noncomputable def zlf:MS :=
  (aD (iZ (fW (aL cg (aL aY (vr 0) (ct (.int 0))) (ct .non))) (retS (az lE [] (aj (vr 1) (aj (aL aY (vr 0) (ct (.int 1))) au)))) bR)
  (retS (az lE [] (aj (aL aY (vr 0) (ct (.int 0))) (aj (vr 1) au)))))
noncomputable def Zg:FD:=bu (bh 2 zlf)
noncomputable def zjp:MS :=
  (aD (iZ (fW (aL (jf 800) (aL aY (vr 0) (ct (.int 0))) (ct (.str [75])))) (retS (aL aY (vr 0) (ct (.int 1)))) bR)
  (retS (az lE [] (aj (az lE [] (aj (aL aY (aL aY (vr 0) (ct (.int 0))) (ct (.int 1))) (aj (vr 1) au))) (aj (az lE [] (aj (aL aY (vr 0) (ct (.int 1))) (aj (vr 1) au))) au)))))
noncomputable def zez:FD:=bu (bh 2 zjp)
noncomputable def zcx:MS :=
  (aD (aK 2 (vr 0))
  (aD (aK 3 (dO au))
  (aD (aK 4 (ct (.int 0)))
  (aD (bj (tD (fW (aL ltV (vr 4) (vr 1))) (Ng (o_ (vr 3)) (vh (o_ (az DG [] (aj (vr 2) au)))))) (iZ (o_ (az DG [] (aj (vr 2) au))) (aK 2 (az Zg [] (aj (eG "list" jP (vr 3)) (aj (vr 2) au)))) (iZ (vh (o_ (az DG [] (aj (aL aY (vr 2) (ct (.int 0))) au)))) (aD (dF (cH "list" aU (vr 3) (aj (f9 (aj (ct .non) (aj (aL aY (vr 2) (ct (.int 1))) au))) au)))
  (aK 2 (aL aY (vr 2) (ct (.int 0))))) (iZ (vh (o_ (az DG [] (aj (aL aY (vr 2) (ct (.int 1))) au)))) (aD (dF (cH "list" aU (vr 3) (aj (f9 (aj (aL aY (vr 2) (ct (.int 0))) (aj (ct .non) au))) au)))
  (aK 2 (aL aY (vr 2) (ct (.int 1))))) (iZ (o_ (Aj (yF "str") (aL aY (vr 2) (ct (.int 0))))) Yu (aD (aK 2 (az zez [] (aj (aL aY (vr 2) (ct (.int 0))) (aj (aL aY (vr 2) (ct (.int 1))) au))))
  (aK 4 (aL bY (vr 4) (ct (.int 1))))))))))
  (aD (bj (o_ (vr 3)) (aK 2 (az Zg [] (aj (eG "list" jP (vr 3)) (aj (vr 2) au)))))
  (retS (f9 (aj (G5 (o_ (az DG [] (aj (vr 2) au))) (ct (.str [118,97,108,117,101])) (ct (.str [111,110]))) (aj (vr 2) (aj (vr 4) au))))))))))
noncomputable def UW:FD:=bu (bh 5 zcx)
noncomputable def zfq:MS :=
  (aD (iZ (fW (aL (jf 800) (vr 1) (vr 0))) (retS (f9 (aj (ct (.tup [.tup [.str [83],.str [75],.int 2,.bl true],.str [75],.int 3,.bl true])) (aj (ct (.int 2)) au)))) bR)
  (retS (ct .non)))
noncomputable def zcp:FD:=bu (bh 2 zfq)
noncomputable def ze8:MS :=
  (aD (iZ (fW (aL cg (vr 0) (ct .non))) (retS (f9 (aj (az lE [] (aj (ct (.str [75])) (aj (vr 1) au))) (aj (ct (.int 1)) au)))) bR)
  (retS (vr 0)))
noncomputable def Zt:FD:=bu (bh 2 ze8)
noncomputable def ze4:MS :=
  (aD (iZ (tD (fW (aL cg (vr 2) (ct .non))) (tD (fW (aL cg (vr 3) (ct .non))) (o_ (az DG [] (aj (vr 1) au))))) (retS (ct .non)) bR)
  (aD (iZ (tD (fW (aL cg (vr 2) (ct .non))) (fW (aL (jf 800) (aL aY (vr 1) (ct (.int 1))) (vr 0)))) (retS (f9 (aj (aL aY (vr 1) (ct (.int 0))) (aj (ct (.int 0)) au)))) bR)
  (aD (aK 4 (az Zt [] (aj (vr 2) (aj (aL aY (vr 1) (ct (.int 0))) au))))
  (aD (aK 5 (az Zt [] (aj (vr 3) (aj (aL aY (vr 1) (ct (.int 1))) au))))
  (retS (f9 (aj (az lE [] (aj (az lE [] (aj (ct (.str [83])) (aj (aL aY (vr 4) (ct (.int 0))) au))) (aj (aL aY (vr 5) (ct (.int 0))) au))) (aj (aL bY (aL bY (ct (.int 1)) (aL aY (vr 4) (ct (.int 1)))) (aL aY (vr 5) (ct (.int 1)))) au))))))))
noncomputable def zb9:FD:=bu (bh 6 ze4)
noncomputable def zf2:MS :=
  (retS (az lE [] (aj (az lE [] (aj (ct (.str [83])) (aj (az lE [] (aj (az lE [] (aj (ct (.str [83])) (aj (vr 0) au))) (aj (vr 1) au))) au))) (aj (vr 2) au))))
noncomputable def zco:FD:=bu (bh 3 zf2)
noncomputable def e_0:ME :=
  (cH "dict" zj (vr 0) (aj (vr 1) (aj (vr 1) au)))
noncomputable def e_1:ME :=
  (az lE [] (aj (vr 1) (aj (vr 2) au)))
noncomputable def e_2:ME :=
  (az zcp [] (aj (vr 0) (aj (vr 1) au)))
noncomputable def e_3:ME :=
  (az zb9 [] (aj (vr 0) (aj (vr 1) (aj (vr 2) (aj (vr 3) au)))))
noncomputable def e_4:ME :=
  (aL uD (vr 0) (vr 1))
noncomputable def e_5:ME :=
  (az zco [] (aj (vr 0) (aj (vr 2) (aj (vr 3) au))))
noncomputable def GL:Nat->FD
 | 0=>oO 2 e_0
 | 1=>oO 3 e_1
 | 2=>oO 2 e_2
 | 3=>oO 4 e_3
 | 4=>oO 2 e_4
 | 5=>oO 4 e_5
 | _=>λ_ _=>.bad
noncomputable def zl5:MS :=
  (aD (aK 3 (dO au))
  (aD (aK 4 (dO (aj (vr 0) au)))
  (aD (bj (o_ (vr 4)) (aD (aK 5 (eG "list" jP (vr 4)))
  (aD (dF (cH "list" aU (vr 3) (aj (vr 5) au)))
  (iZ (vh (o_ (Aj (yF "str") (vr 5)))) (aD (dF (cH "list" aU (vr 4) (aj (aL aY (vr 5) (ct (.int 0))) au)))
  (dF (cH "list" aU (vr 4) (aj (aL aY (vr 5) (ct (.int 1))) au)))) bR))))
  (aD (aK 6 (dO au))
  (aD (lz (O1 (aj (vr 3) au)) (aW 5) (iZ (o_ (Aj (yF "str") (vr 5))) (dF (cH "list" aU (vr 6) (aj (callC iy GL 1 (aj (vr 5) au)) au))) (aD (aK 7 (eG "list" jP (vr 6)))
  (aD (aK 8 (eG "list" jP (vr 6)))
  (dF (cH "list" aU (vr 6) (aj (callC iy GL 2 (aj (vr 5) (aj (vr 8) (aj (vr 7) au)))) au)))))))
  (retS (aL aY (vr 6) (ct (.int 0)))))))))
noncomputable def z9:FD:=bu (bh 9 zl5)
noncomputable def zer:MS :=
  (retS (iM iy z9 [] (iK (vr 0) (fY 0 [1] 2 "put_in" (fY 1 [] 2 "put_in" qU)))))
noncomputable def GQ:FD:=bu (bh 2 zer)
noncomputable def zbc:MS :=
  (aD (aK 2 (iM iy z9 [] (iK (vr 1) (fY 2 [0] 1 "out_and_cost" (fY 3 [0] 1 "out_and_cost" qU)))))
  (retS (az Zt [] (aj (vr 2) (aj (vr 1) au)))))
noncomputable def S_:FD:=bu (bh 3 zbc)
noncomputable def zgp:MS :=
  (retS (aL aY (az S_ [] (aj (vr 0) (aj (vr 1) au))) (ct (.int 0))))
noncomputable def zcd:FD:=bu (bh 2 zgp)
noncomputable def zhs:MS :=
  (retS (aL aY (az S_ [] (aj (vr 0) (aj (vr 1) au))) (ct (.int 1))))
noncomputable def zdy:FD:=bu (bh 2 zhs)
noncomputable def zdh:MS :=
  (aD (aK 2 (vr 1))
  (aD (aK 3 (dO au))
  (aD (lz (HQ (aj (vr 0) au)) (aW 4) (aD (aK 5 (az S_ [] (aj (vr 4) (aj (vr 2) au))))
  (aD (aK 2 (aL aY (vr 5) (ct (.int 0))))
  (dF (cH "list" aU (vr 3) (aj (aL aY (vr 5) (ct (.int 1))) au))))))
  (aD (dF (eG "list" dj (vr 3)))
  (retS (f9 (aj (vr 2) (aj (vr 3) au))))))))
noncomputable def za4:FD:=bu (bh 6 zdh)
noncomputable def zja:MS :=
  (retS (aL aY (az za4 [] (aj (vr 0) (aj (vr 1) au))) (ct (.int 0))))
noncomputable def NB:FD:=bu (bh 2 zja)
noncomputable def zfi:MS :=
  (retS (aL aY (az za4 [] (aj (vr 0) (aj (vr 1) au))) (ct (.int 1))))
noncomputable def M6:FD:=bu (bh 2 zfi)
noncomputable def zlt:MS :=
  (aD (aK 2 (vr 0))
  (aD (lz (lu (vr 1)) (aW 3) (aK 2 (az lE [] (aj (vr 2) (aj (vr 3) au)))))
  (retS (vr 2))))
noncomputable def M3:FD:=bu (bh 4 zlt)
noncomputable def zjq:MS :=
  (aD (aK 2 (vr 1))
  (aD (lz (xO (aj (vr 0) au)) (aW 3) (aK 2 (az lE [] (aj (ct (.str [75])) (aj (vr 2) au)))))
  (retS (vr 2))))
noncomputable def Nz:FD:=bu (bh 4 zjq)
noncomputable def zsq:MS :=
  (retS (az Nz [] (aj (vr 0) (aj (az zcd [] (aj (ct (.str [120])) (aj (az Nz [] (aj (aL uA (aL uA (vr 1) (ct (.int 1))) (vr 0)) (aj (ct (.str [120])) au))) au))) au))))
noncomputable def Bm:FD:=bu (bh 2 zsq)
noncomputable def zg6:MS :=
  (retS (aL bY (aL uA (vr 1) (ct (.int 1))) (az zdy [] (aj (ct (.str [120])) (aj (az Nz [] (aj (aL uA (aL uA (vr 1) (ct (.int 1))) (vr 0)) (aj (ct (.str [120])) au))) au)))))
noncomputable def Zm:FD:=bu (bh 2 zg6)
noncomputable def zta:MS :=
  (aD (iZ (o_ (az DG [] (aj (vr 0) au))) (retS (az lE [] (aj (ct (.str [75])) (aj (vr 0) au)))) bR)
  (retS (az zcd [] (aj (ct (.str [112])) (aj (vr 0) au)))))
noncomputable def zky:FD:=bu (bh 1 zta)
noncomputable def zlp:MS :=
  (aD (aK 1 (ct (.tup [.tup [.str [83],.str [75],.int 2,.bl true],.str [75],.int 3,.bl true])))
  (aD (lz (lu (vr 0)) (aW 2) (aK 1 (az lE [] (aj (az lE [] (aj (ct (.str [83])) (aj (vr 1) au))) (aj (az zky [] (aj (vr 2) au)) au)))))
  (retS (vr 1))))
noncomputable def yD:FD:=bu (bh 3 zlp)
noncomputable def zgr:MS :=
  (retS (az Nz [] (aj (ct (.int 1)) (aj (az yD [] (aj (dO (aj (vr 0) (aj (vr 1) au))) au)) au))))
noncomputable def U0:FD:=bu (bh 2 zgr)
noncomputable def zjz:MS :=
  (aD (aK 1 (ct (.str [75])))
  (aD (lz (O1 (aj (vr 0) au)) (aW 2) (aK 1 (az U0 [] (aj (vr 2) (aj (vr 1) au)))))
  (retS (vr 1))))
noncomputable def Zk:FD:=bu (bh 3 zjz)
noncomputable def zte:MS :=
  (retS (az yD [] (aj (dO (aj (vr 0) (aj (vr 1) (aj (vr 2) au)))) au)))
noncomputable def Y_:FD:=bu (bh 3 zte)
noncomputable def zmc:MS :=
  (retS (az yD [] (aj (dO (aj (vr 0) (aj (vr 1) (aj (vr 2) (aj (vr 3) au))))) au)))
noncomputable def zek:FD:=bu (bh 4 zmc)
noncomputable def ze6:MS :=
  (retS (aL bY (ct (.int 2)) (aL yU (ct (.int 2)) (vr 0))))
noncomputable def NK:FD:=bu (bh 1 ze6)
noncomputable def zel:MS :=
  (retS (wW (Jr (Aj (yF "str") (vr 1))) (aL (jf 800) (aL aY (vr 1) (ct (.int 0))) (vr 0))))
noncomputable def NP:FD:=bu (bh 2 zel)
noncomputable def zhc:MS :=
  (retS (wW (Jr (Aj (yF "str") (vr 0))) (wW (az NP [] (aj (ct (.str [83])) (aj (aL aY (vr 0) (ct (.int 0))) au))) (az NP [] (aj (ct (.str [75])) (aj (aL aY (vr 0) (ct (.int 1))) au))))))
noncomputable def zcf:FD:=bu (bh 1 zhc)
noncomputable def ztd:MS :=
  (aD (aK 2 (dO au))
  (aD (aK 3 (vr 0))
  (aD (bj (fW (aL ltV (bU fH (aj (vr 2) au)) (vr 1))) (aD (iZ (vh (o_ (az zcf [] (aj (vr 3) au)))) (retS (ct .non)) bR)
  (aD (dF (cH "list" aU (vr 2) (aj (aL aY (aL aY (vr 3) (ct (.int 1))) (ct (.int 1))) au)))
  (aK 3 (aL aY (aL aY (vr 3) (ct (.int 0))) (ct (.int 1)))))))
  (aD (iZ (Ng (fW (aL (wK 800) (vr 3) (ct (.tup [.tup [.str [83],.str [75],.int 2,.bl true],.str [75],.int 3,.bl true])))) (vh (o_ (az DG [] (aj (vr 0) au))))) (retS (ct .non)) bR)
  (aD (dF (eG "list" dj (vr 2)))
  (retS (vr 2)))))))
noncomputable def zim:FD:=bu (bh 4 ztd)
noncomputable def zgx:MS :=
  (aD (aK 1 (dO au))
  (aD (aK 2 (vr 0))
  (aD (bj (fW (aL (wK 800) (vr 2) (ct (.str [75])))) (aD (aK 3 (G5 (o_ (az NP [] (aj (ct (.str [75])) (aj (vr 2) au)))) (az zim [] (aj (aL aY (vr 2) (ct (.int 1))) (aj (ct (.int 2)) au))) (ct .non)))
  (aD (iZ (fW (aL cg (vr 3) (ct .non))) (retS (ct .non)) bR)
  (aD (dF (cH "list" aU (vr 1) (aj (aL aY (vr 3) (ct (.int 0))) au)))
  (aK 2 (aL aY (vr 3) (ct (.int 1))))))))
  (retS (vr 1)))))
noncomputable def zc7:FD:=bu (bh 4 zgx)
noncomputable def zmd:MS :=
  (aD (aK 2 (ct (.int 0)))
  (aD (aK 3 (vr 0))
  (aD (bj (o_ (az NP [] (aj (ct (.str [75])) (aj (vr 3) au)))) (aD (aK 2 (aL bY (vr 2) (ct (.int 1))))
  (aK 3 (aL aY (vr 3) (ct (.int 1))))))
  (aD (iZ (tD (fW (aL ltV (vr 2) (vr 1))) (fW (aL (jf 800) (vr 0) (az Bm [] (aj (vr 2) (aj (vr 1) au)))))) (retS (vr 2)) bR)
  (retS (ct .non))))))
noncomputable def S5:FD:=bu (bh 4 zmd)
noncomputable def zfs:MS :=
  (retS (az yD [] (aj (dO (aj (az Bm [] (aj (ct (.int 2)) (aj (ct (.int 3)) au))) au)) au)))
noncomputable def zcq:FD:=bu (bh 0 zfs)
noncomputable def zfg:MS :=
  (aD (aK 0 Uk)
  (aD (lz (J0 [([83],.int 0),([75],.int 1)]) (aW 1) (lB (az yD [] (aj (dO (aj (az Bm [] (aj (Oc [([83],.int 0),([75],.int 1)] (vr 1)) (aj (ct (.int 3)) au))) au)) au)) (uY iW (vr 0) (vr 1))))
  (retS (vr 0))))
noncomputable def zcl:FD:=bu (bh 2 zfg)
noncomputable def zdn:MS :=
  (aD (aK 1 (az zcl [] au))
  (aD (aK 2 (az zcq [] au))
  (retS (iM iy z9 [] (iK (vr 0) (fY 4 [1] 3 "text_of" (fY 5 [2] 3 "text_of" qU)))))))
noncomputable def zdi:FD:=bu (bh 3 zdn)
noncomputable def zmh:MS :=
  (retS (az yD [] (aj (dO (aj (az yD [] (aj (dO (aj (vr 0) (aj (vr 1) (aj (ct (.tup [.tup [.str [83],.str [75],.int 2,.bl true],.str [75],.int 3,.bl true])) au)))) au)) au)) au)))
noncomputable def zf5:FD:=bu (bh 2 zmh)
noncomputable def zd8:MS :=
  (retS (az zf5 [] (aj (ct (.str [83])) (aj (ct (.str [75])) au))))
noncomputable def zbo:FD:=bu (bh 0 zd8)
noncomputable def zf1:MS :=
  (aD (aK 1 Yq)
  (aD (lz (lu (vr 0)) (aW 2) (dF (cH "dict" oH (vr 1) (aj (f9 (aj (aL aY (vr 2) (ct (.int 0))) (aj (aL aY (vr 2) (ct (.int 1))) au))) (aj (vr 2) au)))))
  (retS (vr 1))))
noncomputable def zcj:FD:=bu (bh 3 zf1)
noncomputable def zgo:MS :=
  (retS (G5 (o_ (eG "str" lQ (vr 0))) (aL bY (ct (.str [100])) (vr 0)) (ct (.str [100]))))
noncomputable def Zr:FD:=bu (bh 1 zgo)
noncomputable def ziu:MS :=
  (retS (az M3 [] (aj (ct (.str [115])) (aj (aL bY (dU [none] (yN (vr 0)) (aW 0) qd (az Zr [] (aj (vr 0) au))) (bU tL (aj (ct (.tup [.str [110],.str [102],.str [108],.str [114]])) au))) au))))
noncomputable def zcv:FD:=bu (bh 1 ziu)
noncomputable def zhx:MS :=
  (retS (az NB [] (aj (ct (.tup [.str [108],.str [115],.str [114],.str [102]])) (aj (az zcv [] (aj (vr 0) au)) au))))
noncomputable def zdv:FD:=bu (bh 1 zhx)
noncomputable def zl3:MS :=
  (aD (aK 3 (fL (cF (ct (.str [110])) (vr 1) iH)))
  (aD (lz (Uj (vr 2)) (aW 4) (lB (aL uD (vr 2) (vr 4)) (uY iW (vr 3) (az Zr [] (aj (vr 4) au)))))
  (retS (az GQ [] (aj (vr 0) (aj (vr 3) au))))))
noncomputable def zfl:FD:=bu (bh 5 zl3)
noncomputable def zht:MS :=
  (retS (aL bY (aL bY (az NK [] (aj (ct (.int 2)) au)) (az NK [] (aj (ct (.int 3)) au))) (bU wG (aj (az M6 [] (aj (ct (.tup [.str [108],.str [115],.str [114],.str [102]])) (aj (az zcv [] (aj (vr 0) au)) au))) au))))
noncomputable def zd7:FD:=bu (bh 1 zht)
noncomputable def zik:MS :=
  (retS (az zek [] (aj (ct (.str [110])) (aj (ct (.str [108])) (aj (ct (.str [119])) (aj (ct (.str [114])) au))))))
noncomputable def zcw:FD:=bu (bh 0 zik)
noncomputable def zh4:MS :=
  (retS (az GQ [] (aj (az NB [] (aj (ct (.tup [.str [110],.str [102],.str [108],.str [114]])) (aj (az zcw [] au) au))) (aj (fL (cF (ct (.str [119])) (vr 0) iH)) au))))
noncomputable def zcs:FD:=bu (bh 1 zh4)
noncomputable def zh9:MS :=
  (retS (bU wG (aj (az M6 [] (aj (ct (.tup [.str [110],.str [102],.str [108],.str [114]])) (aj (az zcw [] au) au))) au)))
noncomputable def zd2:FD:=bu (bh 0 zh9)
noncomputable def zgt:MS :=
  (aD (aK 1 (G5 (fW (aL (jf 800) (vr 0) (ct (.str [108])))) (f9 (aj (ct (.str [108])) (aj (ct (.str [114])) au))) (f9 (aj (ct (.str [114])) (aj (ct (.str [108])) au)))))
  (retS (az M3 [] (aj (aL aY (vr 1) (ct (.int 0))) (aj (dO (aj (ct (.str [98,97,114,101])) (aj (ct (.str [102,117,108,108])) (aj (az lE [] (aj (az lE [] (aj (ct (.str [103])) (aj (ct (.str [102])) au))) (aj (ct (.str [102])) au))) (aj (aL aY (vr 1) (ct (.int 1))) au))))) au)))))
noncomputable def zca:FD:=bu (bh 2 zgt)
noncomputable def zfm:MS :=
  (aD (aK 1 (az U0 [] (aj (ct (.str [119])) (aj (ct (.str [120])) au))))
  (aD (iZ (fW (aL (jf 800) (vr 0) (ct (.str [108])))) (retS (az lE [] (aj (ct (.str [121])) (aj (az Y_ [] (aj (ct (.str [116])) (aj (ct (.str [97])) (aj (vr 1) au)))) au)))) bR)
  (retS (az lE [] (aj (ct (.str [121])) (aj (az Y_ [] (aj (vr 1) (aj (ct (.str [97])) (aj (ct (.str [116])) au)))) au))))))
noncomputable def zcm:FD:=bu (bh 2 zfm)
noncomputable def Zo:MS :=
  (aD (aK 3 (az zcm [] (aj (vr 1) au)))
  (aD (aK 4 (az GQ [] (aj (az NB [] (aj (ct (.tup [.str [121],.str [120]])) (aj (vr 3) au))) (aj (fL (cF (ct (.str [97])) (aL uD (vr 2) (ct (.str [95]))) (cF (ct (.str [116])) (ct (.str [75])) iH))) au))))
  (aD (aK 5 (az NB [] (aj (ct (.tup [.str [97],.str [116],.str [121],.str [120]])) (aj (vr 3) au))))
  (aD (cA "Move" "plan" (vr 0) (az NB [] (aj (ct (.tup [.str [110],.str [102],.str [108],.str [114]])) (aj (az zca [] (aj (vr 1) au)) au))))
  (aD (cA "Move" "written" (vr 0) Uk)
  (aD (lz (Uj (vr 2)) (aW 6) (aD (aK 7 (fL (cF (ct (.str [119])) (aL uD (vr 2) (vr 6)) iH)))
  (lB (fL (cF (ct (.str [98,97,114,101])) (az GQ [] (aj (vr 4) (aj (vr 7) au))) (cF (ct (.str [102,117,108,108])) (az GQ [] (aj (vr 5) (aj (vr 7) au))) iH))) (uY iW (cj "Move" "written" (vr 0)) (vr 6)))))
  (aD (aK 8 (aL bY (bU wG (aj (az M6 [] (aj (ct (.tup [.str [110],.str [102],.str [108],.str [114]])) (aj (az zca [] (aj (vr 1) au)) au))) au)) (ct (.int 1))))
  (aD (cA "Move" "bare_cost" (vr 0) (aL bY (vr 8) (bU wG (aj (az M6 [] (aj (ct (.tup [.str [121],.str [120]])) (aj (vr 3) au))) au))))
  (cA "Move" "full_cost" (vr 0) (aL bY (aL bY (vr 8) (az NK [] (aj (ct (.int 2)) au))) (bU wG (aj (az M6 [] (aj (ct (.tup [.str [97],.str [116],.str [121],.str [120]])) (aj (vr 3) au))) au))))))))))))
noncomputable def U3:FD:=bu (bh 9 Zo)
noncomputable def zc4:MS :=
  (aD (aK 3 (bU tU (aj (aL uD (cj "Move" "written" (vr 0)) (vr 1)) au)))
  (aD (lB (vr 2) (uY iW (vr 3) (ct (.str [103]))))
  (retS (az GQ [] (aj (cj "Move" "plan" (vr 0)) (aj (vr 3) au))))))
noncomputable def zem:FD:=bu (bh 4 zc4)
noncomputable def zfj:MS :=
  (retS (az M3 [] (aj (ct (.str [118])) (aj (dO (aj (ct (.str [101])) (aj (ct (.str [102])) au))) au))))
noncomputable def zby:FD:=bu (bh 0 zfj)
noncomputable def zio:MS :=
  (retS (az GQ [] (aj (az NB [] (aj (ct (.tup [.str [102],.str [118]])) (aj (az zby [] au) au))) (aj (fL (cF (ct (.str [101])) (vr 0) iH)) au))))
noncomputable def zd0:FD:=bu (bh 1 zio)
noncomputable def zfa:MS :=
  (retS (az yD [] (aj (dO (aj (vr 0) (aj (vr 1) au))) au)))
noncomputable def zb8:FD:=bu (bh 2 zfa)
noncomputable def zjd:MS :=
  (retS (aL jF (vr 0) (ct (.int 2))))
noncomputable def zdj:FD:=bu (bh 1 zjd)
noncomputable def zc0(zN:FD):MS :=
  (aD (iZ (fW (aL (jf 800) (bU fH (aj (vr 0) au)) (ct (.int 1)))) (retS (aL aY (vr 0) (ct (.int 0)))) bR)
  (aD (aK 1 (az zdj [] (aj (bU fH (aj (vr 0) au)) au)))
  (retS (az yD [] (aj (dO (aj (az zN [] (aj (Hv (vr 0) Tv (Q8 (vr 1))) au)) (aj (az zN [] (aj (Hv (vr 0) (Q8 (vr 1)) Tv) au)) au))) au)))))
noncomputable def M8:Nat->FD
 | 0=>λ_ _=>.bad
 | n+1=>bu (bh 2 (zc0 (M8 n)))
noncomputable def zi0:MS :=
  (aD (aK 2 (dO au))
  (aD (aK 3 (ct (.int 0)))
  (aD (aK 4 (vr 1))
  (aD (bj (fW (aL gtV (vr 4) (ct (.int 1)))) (aD (aK 5 (az zdj [] (aj (vr 4) au)))
  (aD (aK 6 (G5 (fW (aL ltV (vr 0) (aL bY (vr 3) (vr 5)))) (ct (.int 0)) (ct (.int 1))))
  (aD (dF (cH "list" aU (vr 2) (aj (vr 6) au)))
  (aD (aK 3 (aL bY (vr 3) (aL yU (vr 5) (vr 6))))
  (aK 4 (G5 (fW (aL (jf 800) (vr 6) (ct (.int 0)))) (vr 5) (aL uA (vr 4) (vr 5)))))))))
  (retS (vr 2))))))
noncomputable def Zu:FD:=bu (bh 7 zi0)
noncomputable def zlv:MS :=
  (retS (az yD [] (aj (dU [none] (lu (az Zu [] (aj (vr 0) (aj (vr 1) au)))) (aW 0) qd (az Bm [] (aj (vr 0) (aj (ct (.int 2)) au)))) au)))
noncomputable def zep:FD:=bu (bh 2 zlv)
noncomputable def zhw:MS :=
  (aD (aK 2 (az Zu [] (aj (vr 0) (aj (vr 1) au))))
  (aD (aK 3 (dU [none] (lu (vr 2)) (aW 0) qd (aL bY (az NK [] (aj (ct (.int 2)) au)) (az Zm [] (aj (vr 0) (aj (ct (.int 2)) au))))))
  (retS (aL bY (aL bY (az NK [] (aj (bU fH (aj (vr 2) au)) au)) (bU wG (aj (vr 3) au))) (aL aY (az M6 [] (aj (ct (.tup [.str [102],.str [118]])) (aj (az zby [] au) au))) (ct (.int 0)))))))
noncomputable def zdx:FD:=bu (bh 4 zhw)
noncomputable def zh5:MS :=
  (aD (aK 4 (bU tU (aj (vr 2) au)))
  (aD (lz (yN (cj "Book" "letters" (vr 0))) (aW 5) (aD (aK 6 (cH "dict" FZ (cj "Book" "by_key" (vr 0)) (aj (f9 (aj (vr 1) (aj (vr 5) au))) au)))
  (iZ (fW (aL yS (vr 6) (ct .non))) (lB (Cp "Move" "deed" zem (aL uD (cj "Book" "moves" (vr 0)) (aL aY (vr 6) (ct (.int 3)))) (aj (aL aY (vr 6) (ct (.int 2))) (aj (aL uD (vr 3) (aL aY (vr 6) (ct (.int 4)))) au))) (uY iW (vr 4) (vr 5))) bR)))
  (retS (vr 4))))
noncomputable def zdw:FD:=bu (bh 7 zh5)
noncomputable def zjy:MS :=
  (aD (aK 1 (bU fH (aj (cj "Book" "states" (vr 0)) au)))
  (aD (aK 2 (az zdv [] (aj (cj "Book" "letters" (vr 0)) au)))
  (aD (aK 3 Uk)
  (aD (lz (yN (cj "Book" "letters" (vr 0))) (aW 4) (lB (az zcs [] (aj (aL uD (cj "Book" "sign_trees" (vr 0)) (vr 4)) au)) (uY iW (vr 3) (vr 4))))
  (aD (aK 5 Uk)
  (aD (lz (zr (aj (cj "Book" "states" (vr 0)) au)) (wu 2 (eY (aW 6) (eY (aW 7) xX))) (lB (az zep [] (aj (vr 6) (aj (vr 1) au))) (uY iW (vr 5) (vr 7))))
  (aD (aK 8 (dO au))
  (aD (lz (zr (aj (cj "Book" "states" (vr 0)) au)) (wu 2 (eY (aW 6) (eY (aW 7) xX))) (dF (cH "list" aU (vr 8) (aj (az zfl [] (aj (vr 2) (aj (az Bm [] (aj (vr 6) (aj (vr 1) au))) (aj (az zdw [] (aj (vr 0) (aj (vr 7) (aj (vr 3) (aj (vr 5) au))))) au)))) au))))
  (retS (vr 8))))))))))
noncomputable def ze0:FD:=bu (bh 9 zjy)
noncomputable def zea:MS :=
  (aD (aK 1 Uk)
  (aD (lz (vQ (aj (vr 0) au)) (wu 2 (eY (aW 2) (eY (aW 3) xX))) (lB (az Bm [] (aj (vr 2) (aj (bU fH (aj (vr 0) au)) au))) (uY iW (vr 1) (vr 3))))
  (retS (vr 1))))
noncomputable def zbp:FD:=bu (bh 4 zea)
noncomputable def zc6:MS :=
  (aD (cA "Book" "rules" (vr 0) (bU tL (aj (vr 1) au)))
  (aD (cA "Book" "signs" (vr 0) (vr 2))
  (aD (cA "Book" "states" (vr 0) (bU tL (aj (vr 3) au)))
  (aD (cA "Book" "letters" (vr 0) (aL bY (ct (.str [95])) (vr 2)))
  (aD (cA "Book" "by_key" (vr 0) (az zcj [] (aj (vr 1) au)))
  (aD (cA "Book" "sign_trees" (vr 0) (az zbp [] (aj (cj "Book" "letters" (vr 0)) au)))
  (aD (cA "Book" "moves" (vr 0) (fL (cF (ct (.str [108])) (lN "Move" U3 (aj (ct (.str [108])) (aj (cj "Book" "sign_trees" (vr 0)) au))) (cF (ct (.str [114])) (lN "Move" U3 (aj (ct (.str [114])) (aj (cj "Book" "sign_trees" (vr 0)) au))) iH))))
  (aD (cA "Book" "start_cost" (vr 0) (az zd7 [] (aj (cj "Book" "letters" (vr 0)) au)))
  (aD (aK 4 (az ze0 [] (aj (vr 0) au)))
  (aD (aK 5 (az (M8 10) [] (aj (dU [none] (lu (vr 4)) (aW 0) qd (az zd0 [] (aj (vr 0) au))) au)))
  (cA "Book" "state_trees" (vr 0) (dU [some 5,none] (lu (vr 4)) (aW 1) qd (az zb8 [] (aj (vr 1) (aj (vr 0) au)))))))))))))))
noncomputable def Zn:FD:=bu (bh 6 zc6)
noncomputable def zkq:MS :=
  (retS (aL aY (cj "Book" "state_trees" (vr 0)) (cH "list" jU (cj "Book" "states" (vr 0)) (aj (vr 1) au))))
noncomputable def zdz:FD:=bu (bh 2 zkq)
noncomputable def zm7:MS :=
  (aD (aK 2 (az Zk [] (aj (dU [some 0,none] (BV (aj (aL aY (vr 1) (ct (.int 1))) au)) (aW 1) qd (aL uD (cj "Book" "sign_trees" (vr 0)) (vr 1))) au)))
  (aD (aK 3 (az Zk [] (aj (dU [some 0,none] (yN (aL aY (vr 1) (ct (.int 3)))) (aW 1) qd (aL uD (cj "Book" "sign_trees" (vr 0)) (vr 1))) au)))
  (retS (f9 (aj (vr 2) (aj (aL uD (cj "Book" "sign_trees" (vr 0)) (aL aY (vr 1) (ct (.int 2)))) (aj (vr 3) au)))))))
noncomputable def zd6:FD:=bu (bh 4 zm7)
noncomputable def zka:MS :=
  (aD (aK 2 (az zd6 [] (aj (vr 0) (aj (vr 1) au))))
  (retS (az lE [] (aj (az zdz [] (aj (vr 0) (aj (aL aY (vr 1) (ct (.int 0))) au))) (aj (az Y_ [] (aj (aL aY (vr 2) (ct (.int 0))) (aj (aL aY (vr 2) (ct (.int 1))) (aj (aL aY (vr 2) (ct (.int 2))) au)))) au)))))
noncomputable def zdt:FD:=bu (bh 3 zka)
noncomputable def zob:MS :=
  (aD (aK 2 (az zd6 [] (aj (vr 0) (aj (vr 1) au))))
  (aD (aK 3 (az Bm [] (aj (cH "list" jU (cj "Book" "states" (vr 0)) (aj (aL aY (vr 1) (ct (.int 0))) au)) (aj (bU fH (aj (cj "Book" "states" (vr 0)) au)) au))))
  (retS (az zek [] (aj (vr 3) (aj (aL aY (vr 2) (ct (.int 0))) (aj (aL aY (vr 2) (ct (.int 1))) (aj (aL aY (vr 2) (ct (.int 2))) au))))))))
noncomputable def zfd:FD:=bu (bh 4 zob)
noncomputable def zgs:MS :=
  (aD (aK 2 (aL bY (cj "Book" "start_cost" (vr 0)) (az Zm [] (aj (cH "str" qR (cj "Book" "letters" (vr 0)) (aj (aL aY (vr 1) (ct (.int 2))) au)) (aj (bU fH (aj (cj "Book" "letters" (vr 0)) au)) au)))))
  (aD (aK 3 (cH "dict" FZ (cj "Book" "by_key" (vr 0)) (aj (f9 (aj (aL aY (vr 1) (ct (.int 0))) (aj (aL aY (vr 1) (ct (.int 2))) au))) au)))
  (aD (iZ (fW (aL cg (vr 3) (ct .non))) (retS (aL bY (vr 2) (az zd2 [] au))) bR)
  (aD (aK 4 (aL uD (cj "Book" "moves" (vr 0)) (aL aY (vr 3) (ct (.int 3)))))
  (aD (aK 5 (G5 (fW (aL (jf 800) (aL aY (vr 3) (ct (.int 3))) (ct (.str [108])))) (aL aY (vr 1) (ct (.int 1))) (aL aY (vr 1) (ct (.int 3)))))
  (aD (aK 6 (G5 (fW (aL (jf 800) (vr 5) (ct (.str [])))) (cj "Move" "bare_cost" (vr 4)) (cj "Move" "full_cost" (vr 4))))
  (retS (aL bY (aL bY (vr 2) (vr 6)) (az zdx [] (aj (cH "list" jU (cj "Book" "states" (vr 0)) (aj (aL aY (vr 3) (ct (.int 4))) au)) (aj (bU fH (aj (cj "Book" "states" (vr 0)) au)) au)))))))))))
noncomputable def zc8:FD:=bu (bh 7 zgs)
noncomputable def zkg:MS :=
  (aD (aK 2 (az zc7 [] (aj (vr 1) au)))
  (aD (iZ (fW (aL cg (vr 2) (ct .non))) (retS (ct .non)) bR)
  (aD (aK 3 (dU [some 0,none] (lu (vr 2)) (aW 1) qd (az S5 [] (aj (vr 1) (aj (bU fH (aj (cj "Book" "letters" (vr 0)) au)) au)))))
  (aD (iZ (fW (aL (Fz 800 false) (ct .non) (vr 3))) (retS (ct .non)) bR)
  (retS (dU [some 0,none] (lu (vr 3)) (aW 1) qd (aL aY (cj "Book" "letters" (vr 0)) (vr 1))))))))
noncomputable def zci:FD:=bu (bh 4 zkg)
noncomputable def zkw:MS :=
  (aD (iZ (Ng (fW (aL cg (vr 1) (ct .non))) (fW (aL cg (vr 2) (ct .non)))) (retS (ct .non)) bR)
  (aD (aK 3 (az zci [] (aj (vr 0) (aj (aL aY (vr 2) (ct (.int 0))) au))))
  (aD (aK 4 (az S5 [] (aj (aL aY (vr 2) (ct (.int 1))) (aj (bU fH (aj (cj "Book" "letters" (vr 0)) au)) au))))
  (aD (aK 5 (az zci [] (aj (vr 0) (aj (aL aY (vr 2) (ct (.int 2))) au))))
  (aD (iZ (Ng (fW (aL cg (vr 3) (ct .non))) (Ng (fW (aL cg (vr 4) (ct .non))) (fW (aL cg (vr 5) (ct .non))))) (retS (ct .non)) bR)
  (aD (dF (eG "list" dj (vr 3)))
  (retS (f9 (aj (aL aY (cj "Book" "states" (vr 0)) (vr 1)) (aj (cH "str" vC (ct (.str [])) (aj (vr 3) au)) (aj (aL aY (cj "Book" "letters" (vr 0)) (vr 4)) (aj (cH "str" vC (ct (.str [])) (aj (vr 5) au)) au))))))))))))
noncomputable def zd4:FD:=bu (bh 6 zkw)
noncomputable def zn1:MS :=
  (aD (aK 2 (az zim [] (aj (vr 1) (aj (ct (.int 4)) au))))
  (aD (iZ (fW (aL cg (vr 2) (ct .non))) (retS (ct .non)) bR)
  (retS (az zd4 [] (aj (vr 0) (aj (az S5 [] (aj (aL aY (vr 2) (ct (.int 0))) (aj (bU fH (aj (cj "Book" "states" (vr 0)) au)) au))) (aj (Hv (vr 2) (Q8 (ct (.int 1))) Tv) au)))))))
noncomputable def zfe:FD:=bu (bh 3 zn1)
noncomputable def zqi:MS :=
  (aD (iZ (fW (aL ltV (vr 1) (bU fH (aj (vr 0) au)))) (retS (aL aY (vr 0) (vr 1))) bR)
  (retS (ct (.int 0))))
noncomputable def zdl:FD:=bu (bh 2 zqi)
noncomputable def zrx(zN:FD):MS :=
  (aD (iZ (o_ (Aj (yF "str") (vr 0))) (retS (aL aY (dO (aj (ct (.int 16)) (aj (ct (.int 14)) au))) (bU Q7 (aj (aL (jf 800) (vr 0) (ct (.str [75]))) au)))) bR)
  (retS (aL bY (aL bY (ct (.int 20)) (az zN [] (aj (aL aY (vr 0) (ct (.int 0))) au))) (az zN [] (aj (aL aY (vr 0) (ct (.int 1))) au)))))
noncomputable def zi3:Nat->FD
 | 0=>λ_ _=>.bad
 | n+1=>bu (bh 1 (zrx (zi3 n)))
noncomputable def zs8:MS :=
  (aD (lB (vr 0) (wu 4 (eY (aW 2) (eY (aW 3) (eY (aW 4) (eY (aW 5) xX))))))
  (aD (iZ (fW (aL (jf 800) (aL aY (vr 1) (ct (.int 3))) (ct (.str [108])))) (retS (f9 (aj (aL aY (vr 1) (ct (.int 4))) (aj (Hv (vr 3) Tv (Q8 (Aj aa7 (ct (.int 1))))) (aj (ct (.str [95])) (aj (aL bY (ct (.str [95])) (vr 5)) au)))))) bR)
  (retS (f9 (aj (aL aY (vr 1) (ct (.int 4))) (aj (aL bY (vr 3) (ct (.str [95]))) (aj (ct (.str [95])) (aj (Hv (vr 5) (Q8 (ct (.int 1))) Tv) au))))))))
noncomputable def zhu:FD:=bu (bh 6 zs8)
noncomputable def zoj:MS :=
  (aD (aK 1 (az zdl [] (aj (vr 0) (aj (ct (.int 0)) au))))
  (aD (aK 2 (aL jQ (az zdl [] (aj (vr 0) (aj (ct (.int 1)) au))) (ct (.int 5000))))
  (aD (aK 3 (Hv (dO (aj (vr 2) (aj (aL jQ (aL bY (aL bY (vr 2) (ct (.int 1))) (aL jQ (az zdl [] (aj (vr 0) (aj (ct (.int 2)) au))) (ct (.int 4998)))) (ct (.int 5000))) au))) Tv (Q8 (aL bY (ct (.int 1)) (aL jQ (vr 1) (ct (.int 2)))))))
  (aD (aK 4 (f9 (aj (vr 2) (aj (aL xm (ct (.str [95])) (aL jQ (aL jF (vr 1) (ct (.int 16))) (ct (.int 3)))) (aj (ct (.str [95])) (aj (aL xm (ct (.str [95])) (aL jQ (aL jF (vr 1) (ct (.int 48))) (ct (.int 3)))) au))))))
  (aD (aK 5 (dO au))
  (aD (iZ (tD (fW (aL (jf 800) (aL jQ (aL jF (vr 1) (ct (.int 2))) (ct (.int 8))) (ct (.int 1)))) (fW (aL (jf 800) (bU fH (aj (vr 3) au)) (ct (.int 2))))) (dF (cH "list" aU (vr 5) (aj (f9 (aj (aL aY (vr 3) (ct (.int 0))) (aj (ct (.str [95])) (aj (ct (.str [95])) (aj (aL aY (ct (.str [108,114])) (aL jQ (aL jF (vr 1) (ct (.int 144))) (ct (.int 2)))) (aj (aL aY (vr 3) (ct (.int 1))) au)))))) au))) bR)
  (aD (aK 6 (lN "Book" Zn (aj (vr 5) (aj (ct (.str [])) (aj (vr 3) au)))))
  (aD (aK 7 (az zdt [] (aj (vr 6) (aj (vr 4) au))))
  (aD (aK 8 (az zc8 [] (aj (vr 6) (aj (vr 4) au))))
  (aD (iZ (fW (aL (wK 800) (vr 5) (dO au))) (aD (aK 4 (az zhu [] (aj (vr 4) (aj (aL aY (vr 5) (ct (.int 0))) au))))
  (aK 8 (aL bY (vr 8) (az zc8 [] (aj (vr 6) (aj (vr 4) au)))))) bR)
  (aD (aK 9 (az zfd [] (aj (vr 6) (aj (vr 4) au))))
  (aD (iZ (Ng (fW (aL (wK 800) (az UW [] (aj (vr 7) (aj (vr 8) au))) (f9 (aj (ct (.str [118,97,108,117,101])) (aj (vr 9) (aj (vr 8) au)))))) (fW (aL (wK 800) (az zfe [] (aj (vr 6) (aj (vr 9) au))) (vr 4)))) (retS (ct (.bl false))) bR)
  (aD (aK 10 (aL bY (aL bY (ct (.int 4)) (az (zi3 100) [] (aj (vr 7) au))) (vr 8)))
  (aD (aK 11 (az UW [] (aj (az lE [] (aj (az zbo [] au) (aj (az zdi [] (aj (vr 7) au)) au))) (aj (aL uA (vr 10) (ct (.int 1))) au))))
  (aD (iZ (Ng (fW (aL (wK 800) (aL aY (vr 11) (ct (.int 0))) (ct (.str [111,110])))) (fW (aL (wK 800) (aL aY (vr 11) (ct (.int 2))) (aL uA (vr 10) (ct (.int 1)))))) (retS (ct (.bl false))) bR)
  (aD (aK 12 (az UW [] (aj (aL aY (vr 11) (ct (.int 1))) (aj (ct (.int 5)) au))))
  (retS (wW (aL (jf 800) (aL aY (vr 12) (ct (.int 0))) (ct (.str [118,97,108,117,101]))) (wW (aL (jf 800) (aL aY (vr 12) (ct (.int 2))) (ct (.int 1))) (wW (aL (jf 800) (az UT [] (aj (aL aY (vr 12) (ct (.int 1))) au)) (az UT [] (aj (vr 9) au))) (aL (jf 800) (aL aY (vr 12) (ct (.int 1))) (vr 9))))))))))))))))))))))
noncomputable def zmk:FD:=bu (bh 13 zoj)
noncomputable def acA:List M.Row:=[("joint",top 2,2),("is_done",top 3,2),("leaves",top 4,1),("is_value",top 5,1),("joined",top 7,2),("changed",top 8,2),("folded",top 9,3),("taken_out",top 12,2),("out_cost",top 13,2),("made_of",top 14,2),("made_costs",top 15,2),("handed",top 16,2),("made_and_costs",top 17,2),("leaf_taken",top 19,2),("joint_taken",top 20,4),("or_constant",top 21,2),("pick",top 24,2),("pick_cost",top 25,2),("unasked",top 26,2),("list_of",top 27,1),("list_with",top 28,2),("pack",top 29,3),("end_of",top 30,4),("holder",top 31,1),("kept",top 32,1)]
noncomputable def acz:List M.Row:=[("holder_cost",top 33,1),("held",top 34,2),("has_held_form",top 35,1),("has_in_front",top 36,2),("things_of",top 37,1),("picked",top 38,2),("leaf_texts",top 44,0),("joint_head",top 45,0),("joint_text",top 46,3),("player",top 47,2),("player_of_all",top 48,0),("rule_table",top 50,1),("row_term",top 57,1),("deed_name",top 58,1),("row_plan",top 59,1),("row_of",top 60,3),("row_cost",top 61,1),("end_term",top 62,0),("end_deed",top 63,1),("end_cost",top 64,0),("side_term",top 65,1),("image_term",top 66,1),("entry_term",top 70,0),("entry_of",top 71,1),("tree_of_row",top 72,2)]
noncomputable def acy:List M.Row:=[("table_of",top 73,1),("half_of",top 74,1),("turns_to",top 75,2),("way_to",top 76,2),("way_cost",top 77,2),("sign_trees_of",top 80,1),("rows_of",top 81,1),("deeds_of",top 82,4),("state_tree",top 83,2),("tape_image",top 84,2),("tape_end",top 85,2),("parts_of",top 86,2),("tape_cost",top 87,2),("end_told",top 88,2),("stand_told",top 89,3),("signs_told",top 90,2),("_law_cell_at",top 92,2),("_law_cost",top 93,1),("_law_behind",top 94,2)]
noncomputable def tbl:List M.Row:=acA++acz++acy
noncomputable def zs:List Str:=["dict","enumerate","int","isinstance","len","list","range","reversed","str","sum"]
noncomputable def Ju:List Str:=["bare_cost","full_cost","plan","written"]
noncomputable def Jv:List Str:=["by_key","letters","moves","rules","sign_trees","signs","start_cost","state_trees","states"]
def zol{us:List Value}{n:Nat}(h:us.length=n+1):∃a v,us=a::v/\v.length=n:=by
 cases us with
 | nil=>cases h
 | cons a v=>exact⟨a,v,rfl,by simpa using h⟩
def us1{us:List Value}(h:us.length=1):∃a,us=[a]:=mF.mp h
def us2{us:List Value}(h:us.length=2):∃a0 a1,us=[a0,a1]:=by
 obtain⟨a0,v,e,h⟩:=zol h;obtain⟨a1,e2⟩:=us1 h;exact⟨a0,a1,by rw[e,e2]⟩
def us3{us:List Value}(h:us.length=3):∃a0 a1 a2,us=[a0,a1,a2]:=by
 obtain⟨a0,v,e,h⟩:=zol h;obtain⟨a1,a2,e2⟩:=us2 h;exact⟨a0,a1,a2,by rw[e,e2]⟩
def us4{us:List Value}(h:us.length=4):∃a0 a1 a2 a3,us=[a0,a1,a2,a3]:=by
 obtain⟨a0,v,e,h⟩:=zol h;obtain⟨a1,a2,a3,e2⟩:=us3 h;exact⟨a0,a1,a2,a3,by rw[e,e2]⟩
def us5{us:List Value}(h:us.length=5):∃a0 a1 a2 a3 a4,us=[a0,a1,a2,a3,a4]:=by
 obtain⟨a0,v,e,h⟩:=zol h;obtain⟨a1,a2,a3,a4,e2⟩:=us4 h;exact⟨a0,a1,a2,a3,a4,by rw[e,e2]⟩
set_option genInjectivity false in
structure Adr where
 jX:Addr
 iw:FuncData
 qw:Addr
 qt:FuncData
 fj:Addr
 eZ:FuncData
 oE:Addr
 oh:FuncData
 jx:Addr
 jm:FuncData
 jy:Addr
 jq:FuncData
 jz:Addr
 jr:FuncData
 yu:Addr
 ym:FuncData
 tB:Addr
 vY:Addr
structure Txt(P:Program)(w:World)(K:PySem.W.Frag)(mg:Str->Option Value)(base:Heap)(A:Adr):Prop where
 hB:BMain mg base
 tb:∀p∈tbl,Fn K mg p
 z:∀x∈zs,mg x=none
 aa8:∀f∈Ju,iT K A.tB f
 Jw:∀f∈Jv,iT K A.vY f
 rA:YD K "tree_run" "tree_run" S9 A.jX A.iw
 xY:mg "tree_run" = some (.ref A.jX)
 zcx:Binds K A.iw ["tree","most"] []
 Nq:∃t,Binds K A.iw ["tree","most"] [.int 1000 t]
 vN:yw K "put_in" DP A.qw A.qt
 Al:mg "put_in" = some (.ref A.qw)
 zer:Binds K A.qt ["term","puts"] []
 jG:yw K "out_and_cost" DN A.fj A.eZ
 sV:mg "out_and_cost" = some (.ref A.fj)
 zbc:Binds K A.eZ ["name","term"] []
 tQ:yw K "text_of" Dz A.oE A.oh
 yV:mg "text_of" = some (.ref A.oE)
 zdn:Binds K A.oh ["tree"] []
 wR:Ds K "__init__" "Move.__init__" zee A.jx A.jm
 pZ:Mk K A.tB A.jx
 Zo:Binds K A.jm ["self","move","sign_trees"] []
 wU:Ds K "deed" "Move.deed" Zq A.jy A.jq
 wL:Meth K A.tB "deed" A.jy
 zc4:Binds K A.jq ["self","sign","way"] []
 wV:Ds K "__init__" "Book.__init__" zcc A.jz A.jr
 wM:Mk K A.vY A.jz
 zc6:Binds K A.jr ["self","rules","signs","states"] []
 Rr:Ds K "law" "law" YX A.yu A.ym
 acp:mg "law" = some (.ref A.yu)
 zoj:Binds K A.ym ["_law_script"] []
 rK:PySem.W.nsIn K mainGlobals "Move" = some (some (.ref A.tB))
 Dh:mg "Move" = some (.ref A.tB)
 Dj:Du K A.tB
 rN:PySem.W.nsIn K mainGlobals "Book" = some (some (.ref A.vY))
 RM:mg "Book" = some (.ref A.vY)
 yp:Du K A.vY
 eF:∃a,mg "PICK_OF_LEAF" = some (.ref a)/\Dt w K a [([83],.int 0),([75],.int 1)]
 xH:∃t,mg "BLANK" = some (.str "_" t)
 lG:∃t,mg "NO_THINGS" = some (.str "K" t)
 xG:∃t,mg "PICKS" = some (.int 3 t)
 fU:∃t,mg "PICK_OF_JOINT" = some (.int 2 t)
 jN:∃a,mg "BARE_NAMES" = some (.ref a)/\∀μ H,ao K μ H (.tup [.str [121],.str [120]]) (.ref a)
 jM:∃a,mg "DEED_NAMES" = some (.ref a)/\∀μ H,ao K μ H (.tup [.str [110],.str [102],.str [108],.str [114]]) (.ref a)
 jk:∃a,mg "ENTRY_NAMES" = some (.ref a)/\∀μ H,ao K μ H (.tup [.str [102],.str [118]]) (.ref a)
 jL:∃a,mg "FULL_NAMES" = some (.ref a)/\∀μ H,ao K μ H (.tup [.str [97],.str [116],.str [121],.str [120]]) (.ref a)
 qe:∃a,mg "IDENTITY" = some (.ref a)/\∀μ H,ao K μ H (.tup [.tup [.str [83],.str [75],.int 2,.bl true],.str [75],.int 3,.bl true]) (.ref a)
 lF:∃a,mg "ROW_NAMES" = some (.ref a)/\∀μ H,ao K μ H (.tup [.str [108],.str [115],.str [114],.str [102]]) (.ref a)
def zgw:cJ ["tree","most","here","above","steps"] ["tree","most"] (aC S9):=Rq
def zjh:cJ ["term","puts"] ["term","puts"] (aC DP):=Rq
def zd9:cJ ["name","term","taken"] ["name","term"] (aC DN):=Rq
def zif:cJ ["tree","texts","head"] ["tree"] (aC Dz):=Rq
def zfy:cJ ["self","move","sign_trees","term","bare","full","sign","puts","start"] ["self","move","sign_trees"] (aC zee):=Rq
def zfh:cJ ["self","sign","way","puts"] ["self","sign","way"] (aC Zq):=Rq
def zfw:cJ ["self","rules","signs","states","rows","table"] ["self","rules","signs","states"] (aC zcc):=Rq
def zsr:cJ ["_law_script","_law_cell","_law_first","_law_states","_law_stand","_law_rules","_law_book","_law_tree","_law_steps","_law_due","_law_most","_law_found","_law_last"] ["_law_script"] (aC YX):=Rq
section
variable  {P:Program}{w:World}{K:PySem.W.Frag}{mg:Str->Option Value}{base:Heap}{Ad:Adr}(T:Txt P w K mg base Ad)
abbrev Ck(_:Txt P w K mg base Ad)(F:FD)(n:Str)(k a:Nat):Prop:=Cl F n k a P w K mg base
include T
set_option hygiene false in
local macro_rules | `(tactic| trivial)=>`(tactic| repeat' first | eq_refl | (with_reducible (first | refine' yG _ ?_ ?_ ?_ ?_ | refine' wO ?_ ?_ ?_ | exact G4 | exact Xe)) | exact Or.inl rfl | exact Or.inr rfl | exact Or.inr (Or.inl rfl) | exact Or.inr (Or.inr rfl) | exact nd | ((with_reducible refine' j7 ?G ?H ?_ ?_ ?_ ?_ ?_ ?_ ?_ ?_ ?_);(case G=>with_reducible assumption);(case H=>exact hr)) | (with_reducible (first | refine' Ux ?_ ?_ ?_ | exact YG | refine' Bh ?_ | refine' jC ?_ ?_ | refine' Uu ?_ | refine' YL _ ?_ ?_ ?_ ?_ ?_ ?_ | exact J5 | refine' J6 ?_ ?_ ?_ | refine' abi ?_ ?_ ?_ | refine' W9 _ ?_ | refine' W7 ?_ | refine' Kd ?_ | refine' J3 ?_ ?_ | refine' ztn ?_ ?_ | refine' Ar ?_ ?_ ?_ ?_ ?_ ?_ ?_ | refine' Ke ?_ ?_ ?_ ?_ | refine' yf ?_ ?_ ?_ ?_ ?_ ?_ | refine' QQ _ ?_ ?_ ?_ ?_ | refine' J2 ?_ ?_ | refine' QF ?_ | refine' TV ?_ ?_ | refine' WM ?_ | refine' WN ?_ | refine' Ao ?_ ?_ ?_ ?_ ?_ | refine' Fp ?_ ?_ ?_ | exact J7 | exact abl | exact Xb | refine' W5 _ ?_ ?_ ?_ ?_ | refine' J_ ?_ ?_ ?_ | exact QM | refine' WW ?_ | refine' WT ?_ | refine' abe ?_ | refine' Fq ?_ ?_ ?_ ?_ | refine' QL ?_ ?_ ?_ ?_ | refine' J9 ?_ ?_ ?_ ?_ | refine' WX ?_ ?_ ?_ ?_ | refine' QK ?_ ?_ ?_ ?_ | refine' QJ ?_ ?_ ?_ ?_ | refine' W_ ?_ | refine' Xi ?_ ?_ | refine' abh ?_ ?_ | refine' abj ?_ ?_ ?_ | refine' Ka ?_ ?_ ?_ | exact QH | refine' QG ?_ | refine' CJ ?_ ?_ ?_ ?_ ?_ | refine' zn8 ?_ ?_ ?_ | exact Cz | exact QR | exact Kl | exact MF | refine' Xa ?_)) | ((with_reducible refine' TX ?_ ?_ ?_);(with_reducible first | exact Ci | exact Ql | exact Qk | exact Qi | exact Jk | exact Jg)) | ((with_reducible refine' WQ ?_ ?_ ?_ ?_);(with_reducible first | refine' Jl ?_ | refine' Jf ?_ | exact Jh | exact Ji | exact zla | exact zi8 | refine' Cg ?_)) | ((with_reducible refine' Xh ?_ ?_ ?_ ?_);(with_reducible first | refine' Jl ?_ | refine' Jf ?_ | exact Jh | exact Ji | exact zla | exact zi8 | refine' Cg ?_)) | ((with_reducible refine' Xg ?G ?H ?_ ?_ ?_ ?_ ?_);(case G=>with_reducible assumption);(case H=>exact hr)) | ((with_reducible refine' Km ?G ?_ ?_ ?_ ?_ ?_ ?_ ?_ ?_);(case G=>first | (with_reducible exact Gv) | exact Gq hr.hd)) | ((with_reducible refine' Ft ?G ?_ ?_ ?_ ?_ ?_ ?_ ?_ ?_);(case G=>with_reducible first | exact ztj | exact Gw | exact zrq)) | ((with_reducible refine' abg ?_ ?_);(with_reducible first | exact N7)) | ((with_reducible refine' W6 ?_ ?_ ?_ ?_);(with_reducible first | refine' aay ?_)) | ((with_reducible refine' Xf ?G ?_ ?_ ?_ ?_);(case G=>first | exact T.rN | exact T.rK)) | ((with_reducible refine' An ?G ?_ ?_ ?_ ?_ ?_);(case G=>first | exact T.rN | exact T.rK)) | ((with_reducible refine' Xd ?_ ?_ ?_ ?_ ?_ ?_ ?_ ?_ ?_ ?_ ?_ ?_ ?_);(with_reducible first | exact QB)) | (with_reducible refine JW.jt (J2 ?_ ?_)) | (with_reducible refine JW.jt (TV ?_ ?_)) | (with_reducible refine' Sy afq afc PySem.F.type_dict_get (zsk ?_) ?_ ?_ ?_ ?_ ?_ ?_ ?_) | (with_reducible refine' Sy afq afc PySem.F.type_dict_get (Qx ?_) ?_ ?_ ?_ ?_ ?_ ?_ ?_) | (with_reducible refine' Sy afq PySem.F.slot_dict_setdefault PySem.F.type_dict_setdefault (ztl ?_) ?_ ?_ ?_ ?_ ?_ ?_ ?_) | (with_reducible refine' Sy afp PySem.F.slot_list_index PySem.F.type_list_index zth ?_ ?_ ?_ ?_ ?_ ?_ ?_) | (with_reducible refine' Sy afJ PySem.F.slot_str_index PySem.F.type_str_index ztu ?_ ?_ ?_ ?_ ?_ ?_ ?_) | (with_reducible refine' Sy afJ PySem.F.slot_str_join PySem.F.type_str_join Jx ?_ ?_ ?_ ?_ ?_ ?_ ?_) | (with_reducible refine' zna afp PySem.F.slot_list_pop PySem.F.type_list_pop Qw ?_ ?_ ?_) | (with_reducible refine' zna afp PySem.F.slot_list_reverse PySem.F.type_list_reverse zqf ?_ ?_ ?_) | (with_reducible refine' zna afJ PySem.F.slot_str_isalpha PySem.F.type_str_isalpha zp9 ?_ ?_ ?_) | ((with_reducible refine' Kg _ ?G ?_ ?_ ?_);(case G=>first | exact T.xH | exact T.lG)) | ((with_reducible refine' Kf ?G ?_ ?_);(case G=>first | exact T.jN | exact T.jM | exact T.jk | exact T.jL | exact T.qe | exact T.lF)) | ((with_reducible refine' Kh ?G ?_ ?_);(case G=>first | exact T.xG | exact T.fU)) | decide +kernel | exact hr | exact λ_ _=>rfl | (intro _;rfl) | exact PassesOwn.never | exact adD _ | (show List.Nodup [_];decide +kernel) | (show List.Nodup [_,_];decide +kernel) | exact KH hr | exact huL 800 hr (by omega) | exact T.z _ (by decide +kernel) | exact hr.hd | exact⟨rfl,rfl,rfl,rfl,rfl⟩ | exact List.cons_ne_nil _ _ | exact T.yp | exact T.Dj | exact T.Jw _ (by decide +kernel) | exact T.aa8 _ (by decide +kernel) | omega | refine Bh ?_ | refine jC ?_ ?_ | refine Uu ?_ | intro _ _ _ _ _ _ hr nd)
def zcz:Ck T DG "is_value" 41 1:=dz (N:=[_]) 3 T.tb (hb:=by trivial)
def zp4:Ck T ze1 "is_done" 42 2:=dz (N:=[_,_]) 1 T.tb (hb:=by have:=zcz T;trivial)
def zk9:Ck T UT "leaves" 41 1:=dz (N:=[_]) 2 T.tb (hb:=by trivial)
def Bl:Ck T lE "joint" 43 2:=dz (N:=[_,_]) 0 T.tb (hb:=by have:=zk9 T;have:=zp4 T;trivial)
def zrt:Ck T Zg "joined" 44 2:=dz (N:=[_,_]) 4 T.tb (hb:=by have:=Bl T;trivial)
def zpy:Ck T zez "changed" 44 2:=dz (N:=[_,_]) 5 T.tb (hb:=by have:=Bl T;trivial)
def zle:bZ P w K mg base qb 45 Ad.jX Ad.iw ["tree","most"] (u0 K 2 UW):=by
 have nd:=zgw.nd;refine bZ.imp (Yh (m:=zcx) T.rA zgw λcdv A outer s H hr=>?_) λvs H Q E h=>qQ h;exact (by have:=zcz T;have:=zrt T;have:=zpy T;trivial)
def znq:Ck T UW "tree_run" 45 2:=⟨_,_,_,rfl,T.xY,T.rA.kp,T.zcx,zle T⟩
def zj9:Ck T zcp "leaf_taken" 41 2:=dz (N:=[_,_]) 13 T.tb (hb:=by trivial)
def ze5:Ck T Zt "or_constant" 44 2:=dz (N:=[_,_]) 15 T.tb (hb:=by have:=Bl T;trivial)
def zi7:Ck T zb9 "joint_taken" 45 4:=dz (N:=[_,_,_,_,_,_]) 14 T.tb (hb:=by have:=zcz T;have:=ze5 T;have:=Bl T;trivial)
def zk2:Ck T zco "joint_text" 44 3:=dz (N:=[_,_,_]) 33 T.tb (hb:=by have:=Bl T;trivial)
def JX:v5 P w K mg base 45 (iy 0) ["leaf"] e_0 :=
 let _:=T;⟨⟨rfl,rfl,rfl,by decide +kernel,by decide +kernel,by decide +kernel,by decide +kernel,by decide +kernel⟩,λ_ _ _ _ us hl=>by obtain⟨_,rfl⟩:=us1 hl;exact rfl,λf cd cl A outer s H hr=>(Sy afq afc PySem.F.type_dict_get (zsk (KH hr)) (yG 0) (Ux (yG 1) (Ux (yG 1) YG)))⟩
def JV:v5 P w K mg base 45 (iy 1) ["part","left","right"] e_1 :=
 ⟨⟨rfl,rfl,rfl,by decide +kernel,by decide +kernel,by decide +kernel,by decide +kernel,by decide +kernel⟩,λ_ _ _ _ us hl=>by obtain⟨_,_,_,rfl⟩:=us3 hl;exact rfl,λf cd cl A outer s H hr=>(j7 (Bl T) hr (wO (yG 1) (wO (yG 2) G4)))⟩
def JR:v5 P w K mg base 45 (iy 2) ["leaf"] e_2 :=
 ⟨⟨rfl,rfl,rfl,by decide +kernel,by decide +kernel,by decide +kernel,by decide +kernel,by decide +kernel⟩,λ_ _ _ _ us hl=>by obtain⟨_,rfl⟩:=us1 hl;exact rfl,λf cd cl A outer s H hr=>(j7 (zj9 T) hr (wO (yG 0) (wO (yG 1) G4)))⟩
def JQ:v5 P w K mg base 45 (iy 3) ["part","left","right"] e_3 :=
 ⟨⟨rfl,rfl,rfl,by decide +kernel,by decide +kernel,by decide +kernel,by decide +kernel,by decide +kernel⟩,λ_ _ _ _ us hl=>by obtain⟨_,_,_,rfl⟩:=us3 hl;exact rfl,λf cd cl A outer s H hr=>(j7 (zi7 T) hr (wO (yG 0) (wO (yG 1) (wO (yG 2) (wO (yG 3) G4)))))⟩
def JN:v5 P w K mg base 45 (iy 4) ["leaf"] e_4 :=
 let _:=T;⟨⟨rfl,rfl,rfl,by decide +kernel,by decide +kernel,by decide +kernel,by decide +kernel,by decide +kernel⟩,λ_ _ _ _ us hl=>by obtain⟨_,rfl⟩:=us1 hl;exact rfl,λf cd cl A outer s H hr=>(Ke (KH hr) (yG 0) (yG 1))⟩
def JM:v5 P w K mg base 45 (iy 5) ["part","left","right"] e_5 :=
 ⟨⟨rfl,rfl,rfl,by decide +kernel,by decide +kernel,by decide +kernel,by decide +kernel,by decide +kernel⟩,λ_ _ _ _ us hl=>by obtain⟨_,_,_,rfl⟩:=us3 hl;exact rfl,λf cd cl A outer s H hr=>(j7 (zk2 T) hr (wO (yG 0) (wO (yG 2) (wO (yG 3) G4))))⟩
theorem Cu:Mx P w K mg base 45 iy GL
 | 0=>.inr ⟨["leaf"],_,JX T,rfl⟩
 | 1=>.inr ⟨["part","left","right"],_,JV T,rfl⟩
 | 2=>.inr ⟨["leaf"],_,JR T,rfl⟩
 | 3=>.inr ⟨["part","left","right"],_,JQ T,rfl⟩
 | 4=>.inr ⟨["leaf"],_,JN T,rfl⟩
 | 5=>.inr ⟨["part","left","right"],_,JM T,rfl⟩
 | _+6=>.inl λ_ _=>rfl
def zh1:Ck T z9 "folded" 47 3:=dz (N:=[_,_,_,_,_,_,_,_,_]) 6 T.tb (hb:=by intro _ _ _ _ _ _ hr nd;exact (jC (by trivial) (jC (by trivial) (jC (by trivial) (jC (by trivial) (jC (yf (by trivial) (by trivial) (Bh (J6 (by trivial) (Bh (ztn (Ar (by trivial) (Ux (zq4 (Cu T) (hr.mono (by decide)) 1 (by trivial)) YG)))) (jC (by trivial) (jC (by trivial) (Bh (ztn (Ar (by trivial) (Ux (zq4 (Cu T) (hr.mono (by decide)) 2 (by trivial)) YG)))))))) PassesOwn.never rfl) (by trivial)))))))
def zqa:bZ P w K mg base qb 48 Ad.qw Ad.qt ["term","puts"] (u0 K 2 GQ):=by
 have nd:=zjh.nd;refine bZ.imp (Ba (m:=zer) T.vN zjh λcdv A outer s H hr hT=>?_) λvs H Q E h=>qQ h;exact (by exact (Bh (Uu (Kp (zh1 T) hr (ztf (by trivial) (YJ (Λ:=iy) (x:="put_in") (j:=0) (k:=2) (cap:=[1]) T.hB hT (Y8 (sc0:=aC DP) rfl (by decide +kernel) (by decide +kernel) rfl) rfl rfl rfl rfl rfl (YJ (Λ:=iy) (x:="put_in") (j:=1) (k:=2) (cap:=[]) T.hB hT (Y8 (sc0:=aC DP) rfl (by decide +kernel) (by decide +kernel) rfl) rfl rfl rfl rfl rfl Aq))) (λ_=>rfl) (zkm (Y9 (Y9 zne)))))))
def zei:Ck T GQ "put_in" 48 2:=⟨_,_,_,rfl,T.Al,T.vN.kp,T.zer,zqa T⟩
def zhb:bZ P w K mg base qb 48 Ad.fj Ad.eZ ["name","term"] (u0 K 2 S_):=by
 have nd:=zd9.nd;refine bZ.imp (Ba (m:=zbc) T.jG zd9 λcdv A outer s H hr hT=>?_) λvs H Q E h=>qQ h;exact (by have:=ze5 T;exact (jC (YL 2 (Kp (zh1 T) hr (ztf (by trivial) (YJ (Λ:=iy) (x:="out_and_cost") (j:=2) (k:=1) (cap:=[0]) T.hB hT (Y8 (sc0:=aC DN) rfl (by decide +kernel) (by decide +kernel) rfl) rfl rfl rfl rfl rfl (YJ (Λ:=iy) (x:="out_and_cost") (j:=3) (k:=1) (cap:=[0]) T.hB hT (Y8 (sc0:=aC DN) rfl (by decide +kernel) (by decide +kernel) rfl) rfl rfl rfl rfl rfl Aq))) (λ_=>rfl) (zkm (Y9 (Y9 zne)))) nd) (by trivial)))
def zcy:Ck T S_ "out_and_cost" 48 2:=⟨_,_,_,rfl,T.sV,T.jG.kp,T.zbc,zhb T⟩
def zgq:Ck T zcd "taken_out" 49 2:=dz (N:=[_,_]) 7 T.tb (hb:=by have:=zcy T;trivial)
def zn4:Ck T zdy "out_cost" 49 2:=dz (N:=[_,_]) 8 T.tb (hb:=by have:=zcy T;trivial)
def zdg:Ck T za4 "made_and_costs" 49 2:=dz (N:=[_,_,_,_,_,_]) 12 T.tb (hb:=by have:=zcy T;trivial)
def zex:Ck T NB "made_of" 50 2:=dz (N:=[_,_]) 9 T.tb (hb:=by have:=zdg T;trivial)
def zck:Ck T M6 "made_costs" 50 2:=dz (N:=[_,_]) 10 T.tb (hb:=by have:=zdg T;trivial)
def zf8:Ck T M3 "handed" 44 2:=dz (N:=[_,_,_,_]) 11 T.tb (hb:=by have:=Bl T;trivial)
def zgb:Ck T Nz "unasked" 44 2:=dz (N:=[_,_,_,_]) 18 T.tb (hb:=by have:=Bl T;trivial)
def SQ:Ck T Bm "pick" 50 2:=dz (N:=[_,_]) 16 T.tb (hb:=by have:=zgb T;have:=zgq T;trivial)
def zgy:Ck T Zm "pick_cost" 50 2:=dz (N:=[_,_]) 17 T.tb (hb:=by have:=zn4 T;have:=zgb T;trivial)
def Mr:Ck T zky "kept" 50 1:=dz (N:=[_]) 24 T.tb (hb:=by have:=zcz T;have:=Bl T;have:=zgq T;trivial)
def Hf:Ck T yD "holder" 51 1:=dz (N:=[_,_,_]) 23 T.tb (hb:=by have:=Bl T;have:=Mr T;trivial)
def zgv:Ck T U0 "list_with" 52 2:=dz (N:=[_,_]) 20 T.tb (hb:=by have:=zgb T;have:=Hf T;trivial)
def zgj:Ck T Zk "list_of" 53 1:=dz (N:=[_,_,_]) 19 T.tb (hb:=by have:=zgv T;trivial)
def zsg:Ck T Y_ "pack" 52 3:=dz (N:=[_,_,_]) 21 T.tb (hb:=by have:=Hf T;trivial)
def zlj:Ck T zek "end_of" 52 4:=dz (N:=[_,_,_,_]) 22 T.tb (hb:=by have:=Hf T;trivial)
def zdd:Ck T NK "holder_cost" 41 1:=dz (N:=[_]) 25 T.tb (hb:=by trivial)
def zc1:Ck T NP "has_in_front" 41 2:=dz (N:=[_,_]) 28 T.tb (hb:=by trivial)
def zha:Ck T zcf "has_held_form" 42 1:=dz (N:=[_]) 27 T.tb (hb:=by have:=zc1 T;trivial)
def zri:Ck T zim "held" 43 2:=dz (N:=[_,_,_,_]) 26 T.tb (hb:=by have:=zha T;have:=zcz T;trivial)
def zmq:Ck T zc7 "things_of" 44 1:=dz (N:=[_,_,_,_]) 29 T.tb (hb:=by have:=zc1 T;have:=zri T;trivial)
def zh3:Ck T S5 "picked" 51 2:=dz (N:=[_,_,_,_]) 30 T.tb (hb:=by have:=zc1 T;have:=SQ T;trivial)
def zkj:Ck T zcq "joint_head" 52 0:=dz (N:=[]) 32 T.tb (hb:=by have:=Hf T;have:=SQ T;trivial)
def zkx:Ck T zcl "leaf_texts" 52 0:=dz (N:=[_,_]) 31 T.tb (hb:=by intro _ _ _ _ _ _ hr nd;have:=Hf T;have:=SQ T;exact (jC (by trivial) (jC (yf (abf T.eF) (by trivial) (Bh (Ao (j7 (Hf T) hr (wO (Kd (Ux (j7 (SQ T) hr (wO (W8 T.eF (by trivial)) (wO (by trivial) G4))) YG)) G4)) (by trivial))) PassesOwn.never rfl) (by trivial))))
def zno:bZ P w K mg base qb 53 Ad.oE Ad.oh ["tree"] (u0 K 1 zdi):=by
 have nd:=zif.nd;refine bZ.imp (Ba (m:=zdn) T.tQ zif λcdv A outer s H hr hT=>?_) λvs H Q E h=>qQ h;exact (by have:=zkx T;have:=zkj T;exact (jC (by trivial) (jC (by trivial) (Bh (Uu (Kp (zh1 T) hr (ztf (by trivial) (YJ (Λ:=iy) (x:="text_of") (j:=4) (k:=3) (cap:=[1]) T.hB hT (Y8 (sc0:=aC Dz) rfl (by decide +kernel) (by decide +kernel) rfl) rfl rfl rfl rfl rfl (YJ (Λ:=iy) (x:="text_of") (j:=5) (k:=3) (cap:=[2]) T.hB hT (Y8 (sc0:=aC Dz) rfl (by decide +kernel) (by decide +kernel) rfl) rfl rfl rfl rfl rfl Aq))) (λ_=>rfl) (zkm (Y9 (Y9 zne)))))))))
def zpx:Ck T zdi "text_of" 53 1:=⟨_,_,_,rfl,T.yV,T.tQ.kp,T.zdn,zno T⟩
def zru:Ck T zf5 "player" 52 2:=dz (N:=[_,_]) 34 T.tb (hb:=by have:=Hf T;trivial)
def zhf:Ck T zbo "player_of_all" 53 0:=dz (N:=[]) 35 T.tb (hb:=by have:=zru T;trivial)
def zj4:Ck T zcj "rule_table" 41 1:=dz (N:=[_,_,_]) 36 T.tb (hb:=by trivial)
def zg3:Ck T Zr "deed_name" 41 1:=dz (N:=[_]) 38 T.tb (hb:=by trivial)
def zib:Ck T zcv "row_term" 45 1:=dz (N:=[_]) 37 T.tb (hb:=by intro _ _ _ _ _ _ hr nd;have:=zf8 T;have:=zg3 T;exact (Bh (Uu (j7 (zf8 T) hr (wO (by trivial) (wO (TX Ci (Uv (N:=["sign"]) (capt:=[none]) (sc0:=aC (top 57)) (by trivial) ⟨rfl,by decide +kernel,by decide +kernel⟩ (by decide +kernel) trivial rfl (λcl C fp s H=>(by trivial)) (λcl C fp s H=>MF) (λcl C fp s H=>(by trivial))) (by trivial)) G4))))))
def zni:Ck T zdv "row_plan" 51 1:=dz (N:=[_]) 39 T.tb (hb:=by have:=zex T;have:=zib T;trivial)
def zq9:Ck T zfl "row_of" 49 3:=dz (N:=[_,_,_,_,_]) 40 T.tb (hb:=by have:=zg3 T;have:=zei T;trivial)
def zm4:Ck T zd7 "row_cost" 51 1:=dz (N:=[_]) 41 T.tb (hb:=by have:=zdd T;have:=zck T;have:=zib T;trivial)
def zic:Ck T zcw "end_term" 53 0:=dz (N:=[]) 42 T.tb (hb:=by have:=zlj T;trivial)
def zn3:Ck T zcs "end_deed" 54 1:=dz (N:=[_]) 43 T.tb (hb:=by have:=zei T;have:=zex T;have:=zic T;trivial)
def zmv:Ck T zd2 "end_cost" 54 0:=dz (N:=[]) 44 T.tb (hb:=by have:=zck T;have:=zic T;trivial)
def zmg:Ck T zca "side_term" 45 1:=dz (N:=[_,_]) 45 T.tb (hb:=by have:=zf8 T;have:=Bl T;trivial)
def zke:Ck T zcm "image_term" 53 1:=dz (N:=[_,_]) 46 T.tb (hb:=by have:=zgv T;have:=Bl T;have:=zsg T;trivial)
def zfo:bZ P w K mg base qb 54 Ad.jx Ad.jm ["self","move","sign_trees"] (u0 K 3 U3):=by
 have nd:=zfy.nd;refine bZ.imp (zq (m:=Zo) T.wR zfy λcdv A outer s H hr=>?_) λvs H Q E h=>qQ h;exact (by have:=zke T;have:=zei T;have:=zex T;have:=zmg T;have:=zck T;have:=zdd T;trivial)
def zj0:bZ P w K mg base qb 49 Ad.jy Ad.jq ["self","sign","way"] (u0 K 3 zem):=by
 have nd:=zfh.nd;refine bZ.imp (zq (m:=zc4) T.wU zfh λcdv A outer s H hr=>?_) λvs H Q E h=>qQ h;exact (by have:=zei T;trivial)
def zfu:Ck T zby "entry_term" 45 0:=dz (N:=[]) 47 T.tb (hb:=by have:=zf8 T;trivial)
def zng:Ck T zd0 "entry_of" 51 1:=dz (N:=[_]) 48 T.tb (hb:=by have:=zei T;have:=zex T;have:=zfu T;trivial)
def zi5:Ck T zb8 "tree_of_row" 52 2:=dz (N:=[_,_]) 49 T.tb (hb:=by have:=Hf T;trivial)
def zjg:Ck T zdj "half_of" 41 1:=dz (N:=[_]) 51 T.tb (hb:=by trivial)
theorem zfb:∀n:Nat,Ck T (M8 n) "table_of" (52+n) 1
 | 0=>Cl.never (nth 50 T.tb)
 | n+1=>by
  have IH:=zfb n;exact dz (N:=[_,_]) (k:=52+n) 50 T.tb (hb:=λ_ _ _ _ _ _ hr nd=>by have:=zjg T;have:=Hf T;trivial)
def zi4:Ck T Zu "turns_to" 42 2:=dz (N:=[_,_,_,_,_,_,_]) 52 T.tb (hb:=by have:=zjg T;trivial)
def zsy:Ck T zep "way_to" 52 2:=dz (N:=[_,_]) 53 T.tb (hb:=by intro _ _ _ _ _ _ hr nd;have:=Hf T;have:=zi4 T;have:=SQ T;exact (Bh (Uu (j7 (Hf T) hr (wO (Uv (N:=["turn"]) (capt:=[none]) (sc0:=aC (top 76)) (by trivial) ⟨rfl,by decide +kernel,by decide +kernel⟩ (by decide +kernel) trivial rfl (λcl C fp s H=>(by trivial)) (λcl C fp s H=>MF) (λcl C fp s H=>(by trivial))) G4)))))
def zmz:Ck T zdx "way_cost" 51 2:=dz (N:=[_,_,_,_]) 54 T.tb (hb:=by intro _ _ _ _ _ _ hr nd;have:=zi4 T;have:=zdd T;have:=zgy T;have:=zck T;have:=zfu T;exact (jC (by trivial) (jC (zmo 3 (N:=["turn"]) (capt:=[none]) (sc0:=aC (top 77)) (by trivial) ⟨rfl,by decide +kernel,by decide +kernel⟩ (by decide +kernel) trivial rfl (λcl C fp s H=>(by trivial)) (λcl C fp s H=>MF) (λcl C fp s H=>(by trivial)) nd) (by trivial))))
def znj:Ck T zdw "deeds_of" 50 4:=dz (N:=[_,_,_,_,_,_,_]) 57 T.tb (hb:=by intro _ _ _ _ _ _ hr nd;exact (jC (by trivial) (jC (yf (by trivial) (by trivial) (jC (by trivial) (Bh (J6 (by trivial) (Bh (Ao (Kc T.rK T.Dj T.wL ((zj0 T).mono (by decide)) hr T.zc4 (by trivial) (by trivial) rfl rfl rfl rfl (M5 (M5 zij))) (by trivial))) J5))) PassesOwn.never rfl) (by trivial))))
def zpw:Ck T ze0 "rows_of" 55 1:=dz (N:=[_,_,_,_,_,_,_,_,_]) 56 T.tb (hb:=by have:=zni T;have:=zn3 T;have:=zsy T;have:=zq9 T;have:=SQ T;have:=znj T;trivial)
def zhe:Ck T zbp "sign_trees_of" 51 1:=dz (N:=[_,_,_,_]) 55 T.tb (hb:=by have:=SQ T;trivial)
def zkr:bZ P w K mg base qb 63 Ad.jz Ad.jr ["self","rules","signs","states"] (u0 K 4 Zn):=by
 have nd:=zfw.nd;refine bZ.imp (zq (m:=zc6) T.wV zfw λcdv A outer s H hr=>?_) λvs H Q E h=>qQ h;exact (by have:=zj4 T;have:=zhe T;have:=zm4 T;have:=zpw T;have:=zfb T 10;have:=zng T;have:=zi5 T;exact (jC (by trivial) (jC (by trivial) (jC (by trivial) (jC (by trivial) (jC (by trivial) (jC (by trivial) (jC (An T.rN T.yp (T.Jw _ (by decide +kernel)) (by trivial) (CJ (zn8 (by trivial) (zq7 T.rK T.pZ ((zfo T).mono (by decide)) hr T.Dh T.Zo (by trivial) rfl rfl (by decide) rfl rfl (M5 (M5 zij))) (zn8 (by trivial) (zq7 T.rK T.pZ ((zfo T).mono (by decide)) hr T.Dh T.Zo (by trivial) rfl rfl (by decide) rfl rfl (M5 (M5 zij))) Cz)))) (jC (by trivial) (jC (by trivial) (jC (YL 5 (j7 (zfb T 10) hr (wO (Uv (N:=["row"]) (capt:=[none]) (sc0:=aC zcc) (by trivial) ⟨rfl,by decide +kernel,by decide +kernel⟩ (by decide +kernel) trivial rfl (λcl C fp s H=>(by trivial)) (λcl C fp s H=>MF) (λcl C fp s H=>(by trivial))) G4)) nd) (Bh (An T.rN T.yp (T.Jw _ (by decide +kernel)) (by trivial) (Uv (N:=["table","row"]) (capt:=[some 5,none]) (sc0:=aC zcc) (by trivial) ⟨rfl,by decide +kernel,by decide +kernel⟩ (by decide +kernel) ⟨⟨rfl,by first | exact Or.inl rfl | exact Or.inr rfl,rfl⟩,trivial⟩ rfl (λcl C fp s H=>(by trivial)) (λcl C fp s H=>MF) (λcl C fp s H=>(by trivial))))))))))))))))
def zkd:Ck T zdz "state_tree" 41 2:=dz (N:=[_,_]) 58 T.tb (hb:=by trivial)
def ziq:Ck T zd6 "parts_of" 54 2:=dz (N:=[_,_,_,_]) 61 T.tb (hb:=by intro _ _ _ _ _ _ hr nd;have:=zgj T;exact (jC (YL 2 (j7 (zgj T) hr (wO (Uv (N:=["book","sign"]) (capt:=[some 0,none]) (sc0:=aC (top 86)) (by trivial) ⟨rfl,by decide +kernel,by decide +kernel⟩ (by decide +kernel) ⟨⟨rfl,by first | exact Or.inl rfl | exact Or.inr rfl,rfl⟩,trivial⟩ rfl (λcl C fp s H=>(by trivial)) (λcl C fp s H=>MF) (λcl C fp s H=>(by trivial))) G4)) nd) (jC (YL 3 (j7 (zgj T) hr (wO (Uv (N:=["book","sign"]) (capt:=[some 0,none]) (sc0:=aC (top 86)) (by trivial) ⟨rfl,by decide +kernel,by decide +kernel⟩ (by decide +kernel) ⟨⟨rfl,by first | exact Or.inl rfl | exact Or.inr rfl,rfl⟩,trivial⟩ rfl (λcl C fp s H=>(by trivial)) (λcl C fp s H=>MF) (λcl C fp s H=>(by trivial))) G4)) nd) (by trivial))))
def zj5:Ck T zdt "tape_image" 55 2:=dz (N:=[_,_,_]) 59 T.tb (hb:=by have:=ziq T;have:=Bl T;have:=zkd T;have:=zsg T;trivial)
def zoa:Ck T zfd "tape_end" 55 2:=dz (N:=[_,_,_,_]) 60 T.tb (hb:=by have:=ziq T;have:=SQ T;have:=zlj T;trivial)
def zll:Ck T zc8 "tape_cost" 55 2:=dz (N:=[_,_,_,_,_,_,_]) 62 T.tb (hb:=by have:=zgy T;have:=zmv T;have:=zmz T;trivial)
def zj8:Ck T zci "signs_told" 52 2:=dz (N:=[_,_,_,_]) 65 T.tb (hb:=by intro _ _ _ _ _ _ hr nd;have:=zmq T;have:=zh3 T;exact (jC (by trivial) (jC (by trivial) (jC (zmo 3 (N:=["book","thing"]) (capt:=[some 0,none]) (sc0:=aC (top 90)) (by trivial) ⟨rfl,by decide +kernel,by decide +kernel⟩ (by decide +kernel) ⟨⟨rfl,by first | exact Or.inl rfl | exact Or.inr rfl,rfl⟩,trivial⟩ rfl (λcl C fp s H=>(by trivial)) (λcl C fp s H=>MF) (λcl C fp s H=>(by trivial)) nd) (jC (by trivial) (Bh (Uu (Uv (N:=["book","place"]) (capt:=[some 0,none]) (sc0:=aC (top 90)) (by trivial) ⟨rfl,by decide +kernel,by decide +kernel⟩ (by decide +kernel) ⟨⟨rfl,by first | exact Or.inl rfl | exact Or.inr rfl,rfl⟩,trivial⟩ rfl (λcl C fp s H=>(by trivial)) (λcl C fp s H=>MF) (λcl C fp s H=>(by trivial))))))))))
def zk3:Ck T zd4 "stand_told" 53 3:=dz (N:=[_,_,_,_,_,_]) 64 T.tb (hb:=by have:=zj8 T;have:=zh3 T;trivial)
def zn5:Ck T zfe "end_told" 54 2:=dz (N:=[_,_,_]) 63 T.tb (hb:=by have:=zri T;have:=zk3 T;have:=zh3 T;trivial)
def zqj:Ck T zdl "_law_cell_at" 41 2:=dz (N:=[_,_]) 66 T.tb (hb:=by trivial)
theorem zrh:∀n:Nat,Ck T (zi3 n) "_law_cost" (41+n) 1
 | 0=>Cl.never (nth 67 T.tb)
 | n+1=>by
  have IH:=zrh n;exact dz (N:=[_]) (k:=41+n) 67 T.tb (hb:=λ_ _ _ _ _ _ hr nd=>by trivial)
def zrl:Ck T zhu "_law_behind" 41 2:=dz (N:=[_,_,_,_,_,_]) 68 T.tb (hb:=by trivial)
def Jo:bZ P w K mg base qb 142 Ad.yu Ad.ym ["_law_script"] (u0 K 1 zmk):=by
 have nd:=zsr.nd;refine bZ.imp (zq (m:=zoj) T.Rr zsr λcdv A outer s H hr=>?_) λvs H Q E h=>qQ h;exact (by have:=zqj T;have:=zj5 T;have:=zll T;have:=zrl T;have:=zoa T;have:=znq T;have:=zn5 T;have:=zrh T 100;have:=Bl T;have:=zhf T;have:=zpx T;have:=zk9 T;exact (jC (by trivial) (jC (by trivial) (jC (by trivial) (jC (by trivial) (jC (by trivial) (jC (by trivial) (jC (YL 6 (zq7 T.rN T.wM ((zkr T).mono (by decide)) hr T.RM T.zc6 (by trivial) rfl rfl (by decide) rfl rfl (M5 (M5 (M5 zij)))) nd) (by trivial)))))))))
end
def all_mk{l:PySem.W.OpenLaw}{w:World}{K:PySem.W.Frag}{h:Heap}{mg:Str->Option Value}{fa f4 f8 f15 f34 f51 f52 f61 f76:Addr}(X:K.In h)(G:h.Ns mainGlobals mg)(hfa:mg "law" = some (.ref fa))
  {od4 an4:Option Addr} {sl4:Array (Option Value)} {oc4 kV4 dc4 pm4 cd4 ct4:Value}
  {od8 an8:Option Addr} {sl8:Array (Option Value)} {oc8 kV8 dc8 pm8 ct8:Value}
  {adx ab4:Option Addr} {acT:Array (Option Value)} {adB abd abO aaT abR:Value}
  {adw ab3:Option Addr} {acS:Array (Option Value)} {adA abb abN aaS abQ:Value}
  {adv ael:Option Addr} {acR:Array (Option Value)} {adz adI aeg adt abY aei:Value}
  {adu aek:Option Addr} {acQ:Array (Option Value)} {ady adH aef adq abX aeh:Value}
  {jB:Addr} (Df:PySem.W.nsIn K mainGlobals "Move" = some (some (.ref jB))) (RD:PySem.W.plainGet K jB Str.empty=true) (RT:PySem.W.hasDictIn K jB=true) (RK:PySem.W.plainOver K jB=true) (RB:PySem.W.findIn K (.ref jB) "__setattr__" = some (some (.builtin "object.__setattr__"))) (RP:PySem.W.makesIn K jB=true) (RX:PySem.W.keepIn K (.ref jB)=true)
  {j5:Addr} (Dg:PySem.W.nsIn K mainGlobals "Book" = some (some (.ref j5))) (RG:PySem.W.plainGet K j5 Str.empty=true) (RV:PySem.W.hasDictIn K j5=true) (RL:PySem.W.plainOver K j5=true) (RC:PySem.W.findIn K (.ref j5) "__setattr__" = some (some (.builtin "object.__setattr__"))) (RQ:PySem.W.makesIn K j5=true) (RZ:PySem.W.keepIn K (.ref j5)=true)
  {dT4:Addr} {aec:Value} {aeb:Option Addr} {dn4:Nat} {ad_:Tok} {aea:Array (Option Value)}
  (a4:PySem.W.nsIn K mainGlobals "tree_run" = some (some (.ref f4))) (l4:K.lookup f4=some ⟨oc4,od4,.func (PySem.W.fnOf "tree_run" "tree_run" (bK S9) (aX S9) (aC S9) (.ref dT4) kV4 dc4 pm4 an4 cd4 ct4),sl4⟩) (c4:PySem.W.codeIn K cd4 "tree_run" = true) (k4:PySem.W.keepIn K (.ref f4)=true) (ld4:K.lookup dT4=some ⟨aec,aeb,.seq #[.int 1000 ad_] dn4,aea⟩)
  {q8:Addr}
  (a8:PySem.W.nsIn K mainGlobals "put_in" = some (some (.ref f8))) (l8:K.lookup f8=some ⟨oc8,od8,.func (PySem.W.fnOf "put_in" "put_in" (bK DP) (aX DP) (aC DP) .none kV8 dc8 pm8 an8 (.ref q8) ct8),sl8⟩) (c8:PySem.W.codeIn K (.ref q8) "put_in" = true) (k8:PySem.W.keepIn K (.ref f8)=true) (h8:PySem.W.codeHdIn K q8 75=true) (n8:K.lookup 75=none)
  {q15:Addr}
  (a15:PySem.W.nsIn K mainGlobals "out_and_cost" = some (some (.ref f15))) (l15:K.lookup f15=some ⟨adB,adx,.func (PySem.W.fnOf "out_and_cost" "out_and_cost" (bK DN) (aX DN) (aC DN) .none abd abO aaT ab4 (.ref q15) abR),acT⟩) (c15:PySem.W.codeIn K (.ref q15) "out_and_cost" = true) (k15:PySem.W.keepIn K (.ref f15)=true) (h15:PySem.W.codeHdIn K q15 124=true) (n15:K.lookup 124=none)
  {q34:Addr}
  (a34:PySem.W.nsIn K mainGlobals "text_of" = some (some (.ref f34))) (l34:K.lookup f34=some ⟨adA,adw,.func (PySem.W.fnOf "text_of" "text_of" (bK Dz) (aX Dz) (aC Dz) .none abb abN aaS ab3 (.ref q34) abQ),acS⟩) (c34:PySem.W.codeIn K (.ref q34) "text_of" = true) (k34:PySem.W.keepIn K (.ref f34)=true) (h34:PySem.W.codeHdIn K q34 258=true) (n34:K.lookup 258=none)
  (a51:PySem.W.findIn K (.ref jB) "__init__" = some (some (.ref f51))) (i51:PySem.W.isFn K (.ref f51)=true) {d51:FuncData} (F51:Ds K "__init__" "Move.__init__" zee f51 d51)
  (a52:PySem.W.findIn K (.ref jB) "deed" = some (some (.ref f52))) (i52:PySem.W.isFn K (.ref f52)=true) (l52:K.lookup f52=some ⟨adz,adv,.func (PySem.W.fnOf "deed" "Move.deed" (bK Zq) (aX Zq) (aC Zq) .none adI aeg adt ael abY aei),acR⟩) (c52:PySem.W.codeIn K abY "Move.deed" = true) (k52:PySem.W.keepIn K (.ref f52)=true)
  (a61:PySem.W.findIn K (.ref j5) "__init__" = some (some (.ref f61))) (i61:PySem.W.isFn K (.ref f61)=true) {d61:FuncData} (F61:Ds K "__init__" "Book.__init__" zcc f61 d61)
  (a76:PySem.W.nsIn K mainGlobals "law" = some (some (.ref f76))) (l76:K.lookup f76=some ⟨ady,adu,.func (PySem.W.fnOf "law" "law" (bK YX) (aX YX) (aC YX) .none adH aef adq aek abX aeh),acQ⟩) (c76:PySem.W.codeIn K abX "law" = true) (k76:PySem.W.keepIn K (.ref f76)=true)
  {iC:Addr} {uI:Nat} {jh:Int} {rG rC:Tok} {jg:Int} {rF rB:Tok}
  (eF:PySem.W.nsIn K mainGlobals "PICK_OF_LEAF" = some (some (.ref iC)))
  (tW:K.lookup iC=some ⟨.type "dict",none,.dict #[⟨jh,.str "S" rG,.int 0 rC⟩,⟨jg,.str "K" rF,.int 1 rB⟩] uI,#[]⟩)
  (sY:(iC==sysModules)=false) (rE:jh=QC w (.inr "S")) (rD:jg=QC w (.inr "K"))
  {Oe:Tok} (xH:PySem.W.nsIn K mainGlobals "BLANK" = some (some (.str "_" Oe)))
  {yM:Tok} (lG:PySem.W.nsIn K mainGlobals "NO_THINGS" = some (some (.str "K" yM)))
  {Od:Tok} (xG:PySem.W.nsIn K mainGlobals "PICKS" = some (some (.int 3 Od)))
  {ux:Tok} (fU:PySem.W.nsIn K mainGlobals "PICK_OF_JOINT" = some (some (.int 2 ux)))
  {lL:Addr} {ue:Option Addr} {uh:Nat} {t_:Array (Option Value)} {qM:Tok} {qL:Tok}
  (jN:PySem.W.nsIn K mainGlobals "BARE_NAMES" = some (some (.ref lL)))
  (t6:K.lookup lL=some ⟨.type "tuple",ue,.seq #[.str "y" qM,.str "x" qL] uh,t_⟩)
  {lK:Addr} {ud:Option Addr} {ug:Nat} {t8:Array (Option Value)} {qK:Tok} {qJ:Tok} {qI:Tok} {qH:Tok}
  (jM:PySem.W.nsIn K mainGlobals "DEED_NAMES" = some (some (.ref lK)))
  (tZ:K.lookup lK=some ⟨.type "tuple",ud,.seq #[.str "n" qK,.str "f" qJ,.str "l" qI,.str "r" qH] ug,t8⟩)
  {j6:Addr} {sG:Option Addr} {sH:Nat} {sE:Array (Option Value)} {qj:Tok} {qi:Tok}
  (jk:PySem.W.nsIn K mainGlobals "ENTRY_NAMES" = some (some (.ref j6)))
  (rZ:K.lookup j6=some ⟨.type "tuple",sG,.seq #[.str "f" qj,.str "v" qi] sH,sE⟩)
  {lJ:Addr} {uc:Option Addr} {uf:Nat} {t7:Array (Option Value)} {qG:Tok} {qF:Tok} {qD:Tok} {qC:Tok}
  (jL:PySem.W.nsIn K mainGlobals "FULL_NAMES" = some (some (.ref lJ)))
  (tX:K.lookup lJ=some ⟨.type "tuple",uc,.seq #[.str "a" qG,.str "t" qF,.str "y" qD,.str "x" qC] uf,t7⟩)
  {qN:Addr} {wC:Option Addr} {wF:Nat} {wA:Array (Option Value)} {jO:Addr} {wB:Option Addr} {wD:Nat} {wz:Array (Option Value)} {uq:Tok} {uo:Tok} {um:Tok} {uv:Tok} {ur:Tok}
  (qe:PySem.W.nsIn K mainGlobals "IDENTITY" = some (some (.ref qN)))
  (wk:K.lookup qN=some ⟨.type "tuple",wC,.seq #[.ref jO,.str "K" uv,.int 3 ur,.bool true] wF,wA⟩)
  (wj:K.lookup jO=some ⟨.type "tuple",wB,.seq #[.str "S" uq,.str "K" uo,.int 2 um,.bool true] wD,wz⟩)
  {pW:Addr} {uW:Option Addr} {uX:Nat} {uV:Array (Option Value)} {sS:Tok} {sO:Tok} {sJ:Tok} {sI:Tok}
  (lF:PySem.W.nsIn K mainGlobals "ROW_NAMES" = some (some (.ref pW)))
  (uP:K.lookup pW=some ⟨.type "tuple",uW,.seq #[.str "l" sS,.str "s" sO,.str "r" sJ,.str "f" sI] uX,uV⟩)
  (U:Us K tbl) (Z:Zs K zs) (ab8:As K jB Ju) (ab9:As K j5 Jv)
  :∃fd:FuncData,(∀(s:Shared) (v:Value),BindsTo s fd ⟨[v],[]⟩ [("_law_script",v)])/\(∀p∈tabs,Mw K p.1 p.2)/\∀base:Heap,K.In base->base.Ns mainGlobals mg->BMain mg base->bZ l.prog w K mg base qb 142 fa fd ["_law_script"] (u0 K 1 zmk):=by
 have e:=hfa.symm.trans (ae6 X G a76);cases e;have F4:=Rp (st:=S9) l4 c4 k4;have F8:=zs5 (st:=DP) a8 l8 c8 k8;have F15:=zs5 (st:=DN) a15 l15 c15 k15;have F34:=zs5 (st:=Dz) a34 l34 c34 k34;have F52:=fun_mk (st:=Zq) l52 c52 k52;have F76:=fun_mk (st:=YX) l76 c76 k76;have b4:=Yv (x:="tree_run") (qual:="tree_run") (st:=S9) (ps:=["tree","most"]) (kV:=kV4) (doc:=dc4) (pm:=pm4) (cdv:=cd4) (ct:=ct4) (an:=an4) ld4 λus hl=>by obtain⟨_,_,rfl⟩:=us2 hl;exact⟨_,rfl,rfl⟩
 have bd4:=R1 (x:="tree_run") (qual:="tree_run") (st:=S9) (ps:=["tree","most"]) (kV:=kV4) (doc:=dc4) (pm:=pm4) (cdv:=cd4) (ct:=ct4) (an:=an4) ld4 λus hl=>by obtain⟨_,rfl⟩:=us1 (Nat.succ.inj hl);exact⟨_,rfl,rfl⟩
 have b8:Binds K (PySem.W.fnOf "put_in" "put_in" (bK DP) (aX DP) (aC DP) .none kV8 dc8 pm8 an8 (.ref q8) ct8) ["term","puts"] []:=Binds.all λus hl=>by obtain⟨_,_,rfl⟩:=us2 hl;exact rfl
 have b15:Binds K (PySem.W.fnOf "out_and_cost" "out_and_cost" (bK DN) (aX DN) (aC DN) .none abd abO aaT ab4 (.ref q15) abR) ["name","term"] []:=Binds.all λus hl=>by obtain⟨_,_,rfl⟩:=us2 hl;exact rfl
 have b34:Binds K (PySem.W.fnOf "text_of" "text_of" (bK Dz) (aX Dz) (aC Dz) .none abb abN aaS ab3 (.ref q34) abQ) ["tree"] []:=Binds.all λus hl=>by obtain⟨_,rfl⟩:=us1 hl;exact rfl
 have b51:=F51.binds (ps:=["self","move","sign_trees"]) λ_ _ _ _ _ _ us hl=>by obtain⟨_,_,_,rfl⟩:=us3 hl;exact rfl
 have b52:=F52.binds (ps:=["self","sign","way"]) λ_ _ _ _ _ _ us hl=>by obtain⟨_,_,_,rfl⟩:=us3 hl;exact rfl
 have b61:=F61.binds (ps:=["self","rules","signs","states"]) λ_ _ _ _ _ _ us hl=>by obtain⟨_,_,_,_,rfl⟩:=us4 hl;exact rfl
 have b76:=F76.binds (ps:=["_law_script"]) λ_ _ _ _ _ _ us hl=>by obtain⟨_,rfl⟩:=us1 hl;exact rfl
 exact⟨_,λs v=>.of_eq rfl,pR.mpr ⟨yw.Vf a15 l15 h15 n15,pR.mpr ⟨yw.Vf a8 l8 h8 n8,pR.mpr ⟨yw.Vf a34 l34 h34 n34,List.forall_mem_nil _⟩⟩⟩,λbase _ _ hB=>Jo (Ad:=⟨_,_,_,_,_,_,_,_,_,_,_,_,_,_,_,_,_,_⟩) ⟨hB,U.all X G,Z.all X G,ab8.all,ab9.all,F4,ae6 X G a4,b4,⟨_,bd4⟩,F8,ae6 X G a8,b8,F15,ae6 X G a15,b15,F34,ae6 X G a34,b34,F51,⟨RP,a51,i51,RX⟩,b51,F52,⟨a52,i52,k52⟩,b52,F61,⟨RQ,a61,i61,RZ⟩,b61,F76,ae6 X G a76,b76,Df,ae6 X G Df,⟨RD,RT,RK,RB⟩,Dg,ae6 X G Dg,⟨RG,RV,RL,RC⟩,⟨_,ae6 X G eF,Lz tW sY (.i rfl rE (.i rfl rD .nil)) (by decide)⟩,⟨_,ae6 X G xH⟩,⟨_,ae6 X G lG⟩,⟨_,ae6 X G xG⟩,⟨_,ae6 X G fU⟩,⟨_,ae6 X G jN,(ao.kt [.str "y",.str "x"] t6 (zQ (n:=2) (by decide)) (.cons ⟨_,rfl⟩ (.cons ⟨_,rfl⟩ .nil)) rfl (aq.c (ao.ks rfl) (aq.c (ao.ks rfl) aq.n)))⟩,⟨_,ae6 X G jM,(ao.kt [.str "n",.str "f",.str "l",.str "r"] tZ (zQ (n:=4) (by decide)) (.cons ⟨_,rfl⟩ (.cons ⟨_,rfl⟩ (.cons ⟨_,rfl⟩ (.cons ⟨_,rfl⟩ .nil)))) rfl (aq.c (ao.ks rfl) (aq.c (ao.ks rfl) (aq.c (ao.ks rfl) (aq.c (ao.ks rfl) aq.n)))))⟩,⟨_,ae6 X G jk,(ao.kt [.str "f",.str "v"] rZ (zQ (n:=2) (by decide)) (.cons ⟨_,rfl⟩ (.cons ⟨_,rfl⟩ .nil)) rfl (aq.c (ao.ks rfl) (aq.c (ao.ks rfl) aq.n)))⟩,⟨_,ae6 X G jL,(ao.kt [.str "a",.str "t",.str "y",.str "x"] tX (zQ (n:=4) (by decide)) (.cons ⟨_,rfl⟩ (.cons ⟨_,rfl⟩ (.cons ⟨_,rfl⟩ (.cons ⟨_,rfl⟩ .nil)))) rfl (aq.c (ao.ks rfl) (aq.c (ao.ks rfl) (aq.c (ao.ks rfl) (aq.c (ao.ks rfl) aq.n)))))⟩,⟨_,ae6 X G qe,(ao.kt [.ref jO,.str "K",.int 3,.bl true] wk (zQ (n:=4) (by decide)) (.cons rfl (.cons ⟨_,rfl⟩ (.cons ⟨_,rfl⟩ (.cons rfl .nil)))) rfl (aq.c (ao.kt [.str "S",.str "K",.int 2,.bl true] wj (zQ (n:=4) (by decide)) (.cons ⟨_,rfl⟩ (.cons ⟨_,rfl⟩ (.cons ⟨_,rfl⟩ (.cons rfl .nil)))) rfl (aq.c (ao.ks rfl) (aq.c (ao.ks rfl) (aq.c ao.ki (aq.c ao.kb aq.n))))) (aq.c (ao.ks rfl) (aq.c ao.ki (aq.c ao.kb aq.n)))))⟩,⟨_,ae6 X G lF,(ao.kt [.str "l",.str "s",.str "r",.str "f"] uP (zQ (n:=4) (by decide)) (.cons ⟨_,rfl⟩ (.cons ⟨_,rfl⟩ (.cons ⟨_,rfl⟩ (.cons ⟨_,rfl⟩ .nil)))) rfl (aq.c (ao.ks rfl) (aq.c (ao.ks rfl) (aq.c (ao.ks rfl) (aq.c (ao.ks rfl) aq.n)))))⟩⟩⟩
end Law
set_option maxHeartbeats 0
noncomputable section
namespace Law
open L2 M Tr
def yE(t:Tr)(st:ak):DG [enc t] st=.ok (.bl (val t)) st:=by
 unfold DG bu bh zhz;have h1:=Ny t st;cases t with
 | lf s=>simp[startM,h1,dY,val]
 | jn l r =>
  have j3:aY (enc (.jn l r)) (.int 3) st=.ok (.bl (val (.jn l r))) st:=by rw[enc];exact jD st 3 _ _ rfl
  generalize enc (.jn l r)=X at *;simp[startM,h1,j3,dY]
def zhk(t:Tr)(st:ak):UT [enc t] st=.ok (.int (lv t:Nat)) st:=by
 unfold UT bu bh zml;have h1:=Ny t st;cases t with
 | lf s=>simp[startM,h1,cD,dY,lv]
 | jn l r =>
  have j2:aY (enc (.jn l r)) (.int 2) st=.ok (.int (lv (.jn l r):Nat)) st:=by rw[enc];exact jD st 2 _ _ rfl
  generalize enc (.jn l r)=X at *;simp[startM,h1,cD,j2,dY]
def zsi(l r:Tr)(st:ak):ze1 [enc l,enc r] st=.ok (.bl (val (.jn l r))) st:=by
 unfold ze1 bu bh zjl;have hv:=yE r st;rw[show startM 2 [enc l,enc r]=[some (enc l),some (enc r)] from rfl];cases hr:val r with
 | false =>
  rw[hr]at hv;have e:val (.jn l r)=false:=by
   cases q:val (.jn l r) with
   | false=>rfl
   | true=>rw[(S8 q).2]at hr;cases hr
  simp[hv,cD,e,dY]
 | true =>
  rw[hr]at hv;have h1:=Ny l st;cases l with
  | lf s =>
   rw[U4,hr];have e1:=Nu 799 (.lf s) [83] st;have e2:=Nu 799 (.lf s) [75] st;generalize enc (.lf s)=X at *;by_cases hs:s=[83]
   ·simp[hv,cD,h1,e1,hs,dY]
   ·by_cases fQ:s=[75]
    ·simp[hv,cD,h1,e1,e2,hs,fQ,dY]
    ·simp[hv,cD,h1,e1,e2,hs,fQ,dY]
  | jn a b =>
   rw[UG,hr];have j0:aY (enc (.jn a b)) (.int 0) st=.ok (enc a) st:=by rw[enc];exact jD st 0 _ _ rfl
   have j3:aY (enc (.jn a b)) (.int 3) st=.ok (.bl (val (.jn a b))) st:=by rw[enc];exact jD st 3 _ _ rfl
   have e1:=Nu 799 a [83] st;generalize enc (.jn a b)=X at *;cases a with
   | lf s =>
    by_cases hs:s=[83]
    ·subst hs;simp[hv,cD,h1,j0,j3,e1,vG,dY]
    ·simp[hv,cD,h1,j0,j3,e1,hs,vG,dY]
   | jn a c =>
    simp[hv,cD,h1,j0,j3,e1,vG,dY]
def uL(l r:Tr)(st:ak):lE [enc l,enc r] st=.ok (enc (.jn l r)) st:=by
 unfold lE bu bh zov;have h1:=zhk l st;have h2:=zhk r st;have h3:=zsi l r st;have hu1:=fB st.length l;have hu2:=fB st.length r;have e:enc (.jn l r)=.tup [enc l,enc r,.int ((lv l:Nat)+(lv r:Nat)),.bl (val (.jn l r))]:=by rw[enc,lv];simp
 rw[e];generalize enc l=X at *;generalize enc r=Y at *;simp[startM,h1,h2,h3,dY,hu1,hu2]
def iJ:Fr->D
 | .fl r=>.tup [.non,enc r]
 | .fr l=>.tup [enc l,.non]
def zph(f:Fr)(t:Tr)(st:ak):Zg [iJ f,enc t] st=.ok (enc (fill f t)) st:=by
 unfold Zg bu bh zlf;cases f with
 | fl r =>
  have h:=uL t r st;have hu:=fB st.length (.jn t r);have j0:aY (iJ (.fl r)) (.int 0) st=.ok .non st:=jD st 0 _ _ rfl;have j1:aY (iJ (.fl r)) (.int 1) st=.ok (enc r) st:=jD st 1 _ _ rfl;show _=R.ok (enc (.jn t r)) st;generalize enc (.jn t r)=Z at *;generalize iJ (.fl r)=W at *;simp[startM,j0,j1,h,dY hu]
 | fr l =>
  have h:=uL l t st;have hu:=fB st.length (.jn l t);have hn:=Lp l st;have j0:aY (iJ (.fr l)) (.int 0) st=.ok (enc l) st:=jD st 0 _ _ rfl;show _=R.ok (enc (.jn l t)) st;generalize enc (.jn l t)=Z at *;generalize iJ (.fr l)=W at *;simp[startM,j0,hn,h,dY hu]
def zsz(l r u:Tr)(st:ak)(h:fG l r=some u):zez [enc l,enc r] st=.ok (enc u) st:=by
 unfold zez bu bh zjp;have hu:=fB st.length u;cases l with
 | lf s=>rw[fG]at h;cases h
 | jn a b =>
  have j0:aY (enc (.jn a b)) (.int 0) st=.ok (enc a) st:=by rw[enc];exact jD st 0 _ _ rfl
  have j1:aY (enc (.jn a b)) (.int 1) st=.ok (enc b) st:=by rw[enc];exact jD st 1 _ _ rfl
  have e1:=Nu 799 a [75] st;cases a with
  | lf s =>
   rw[fG]at h
   split at h
   ·rename_i hs;subst hs;generalize enc (.jn (.lf [75]) b)=X at *;cases h;simp[startM,j0,j1,e1,dY hu]
   ·cases h
  | jn a c =>
   rw[fG]at h;cases h;have k1:aY (enc (.jn a c)) (.int 1) st=.ok (enc c) st:=by rw[enc];exact jD st 1 _ _ rfl
   have q1:=uL c r st;have q2:=uL b r st;have q3:=uL (.jn c r) (.jn b r) st;generalize enc (.jn (.jn a c) b)=X at *;generalize enc (.jn (.jn c r) (.jn b r))=Z at *;simp[startM,j0,j1,e1,k1,q1,q2,q3,dY hu]
def HX{l r:Tr}(hl:val l=true)(hr:val r=true)(h:val (.jn l r)=false):(∃s,l=.lf s)\/∃u,fG l r=some u:=by
 cases l with
 | lf s=>exact .inl ⟨s,rfl⟩
 | jn a b =>
  refine .inr ?_;cases a with
  | jn a c=>exact⟨_,rfl⟩
  | lf s =>
   rw[U4,gB,ph]at hl;rcases hl.2 with e | e
   ·have:val (.jn (.jn (.lf s) b) r)=true:=by rw[UG,hr,U4,hl.1];simp[vG,eq_of_beq e]
    rw[this]at h;cases h
   ·exact⟨b,by rw[fG,ae1 (eq_of_beq e)]⟩
def yL(b:Bool)(st:ak):cD (.bl b) st=some b:=dq rfl
def zrr(st:ak)(ds:List D)(d:D):jP (.loc st.length) [] (st++[.lst (ds++[d])])=.ok d (st++[.lst ds]):=by
 simp[jP]
def zq1(st:ak)(ds:List D):cD (.loc st.length) (st++[.lst ds])=some (!ds.isEmpty):=by
 simp[cD]
def zga(t:Tr)(n:Nat)(st:ak)(h:dp t+n<=900000) :
  UW [enc t,.int n] st=.ok (.tup [.str (if val (run n t).1=true then [118,97,108,117,101] else [111,110]),enc (run n t).1,.int ((run n t).2:Nat)]) st:=by
 unfold UW bu bh zcx;generalize hC:(tD (fW (aL ltV (vr 4) (vr 1))) _:MT)=C;generalize hB:(iZ (o_ (az DG [] (aj (vr 2) au))) (aK 2 _) _:MS)=B;generalize hP:(aK 2 (az Zg [] (aj (eG "list" jP (vr 3)) (aj (vr 2) au))):MS)=P
 let E:Tr->Nat->aJ:=λx k=>[some (enc t),some (.int n),some (enc x),some (.loc st.length),some (.int k)]
 let S:List Fr->ak:=λfs=>st++[.lst (fs.map iJ)]
 have hE:∀x k,E x k=[some (enc t),some (.int n),some (enc x),some (.loc st.length),some (.int k)]:=λ_ _=>rfl;have fC:∀(x:Tr) (fs:List Fr) (k:Nat),C (E x k) (S fs)=.ok (decide (k<n) && (!fs.isEmpty || !val x)) (S fs):=by
  intro x fs k;have hv:=yE x (S fs);have ht:cD (.loc st.length) (S fs)=some (!fs.isEmpty):=by
   have:=zq1 st (fs.map iJ);rw[List.isEmpty_map]at this;exact this
  rw[<-hC,hE];generalize S fs=Z at *;generalize enc x=X at *;by_cases hk:k<n
  ·cases hf:fs.isEmpty with
   | false =>
    have ht:cD (.loc st.length) Z=some true:=by rw[ht,hf];rfl
    simp[hk,ht]
   | true =>
    have ht:cD (.loc st.length) Z=some false:=by rw[ht,hf];rfl
    simp[hk,ht,hv,yL]
  ·simp[hk]
 have fB1:∀(x:Tr) (gs:List Fr) (f:Fr) (k:Nat),val x=true->B (E x k) (S (gs++[f]))=.ok (.nx (E (fill f x) k)) (S gs):=by
  intro x gs f k hx;have hv:=yE x (S (gs++[f]));rw[hx]at hv;have hp:jP (.loc st.length) [] (S (gs++[f]))=.ok (iJ f) (S gs):=by
   show jP (.loc st.length) [] (st++[.lst ((gs++[f]).map iJ)])=_;rw[mC];exact zrr st (gs.map iJ) (iJ f)
  have ht:cM "list" (.loc st.length) (S (gs++[f]))=true:=by simp[S,cM]
  have hj:=zph f x (S gs);rw[<-hB,hE,hE];generalize S (gs++[f])=Z at *;generalize S gs=Z' at *;generalize enc x=X at *;simp[hv,yL,ht,hp,hj]
 have app:∀(fs:List Fr) (f:Fr),fs.length<1000000->aU (.loc st.length) [iJ f] (S fs)=.ok .non (S (fs++[f])):=by
  intro fs f hl;have hl':(fs.map iJ).length<1000000:=by rw[gh];exact hl
  show aU (.loc st.length) [iJ f] (st++[.lst (fs.map iJ)])=.ok .non (st++[.lst ((fs++[f]).map iJ)]);rw[mC];generalize fs.map iJ=L at *;simp[aU,hl']
 have isl:∀fs,cM "list" (.loc st.length) (S fs)=true:=λfs=>by simp[S,cM]
 have fB2:∀(l r:Tr) (fs:List Fr) (k:Nat),fs.length<1000000->val (.jn l r)=false->val l=false->B (E (.jn l r) k) (S fs)=.ok (.nx (E l k)) (S (fs++[.fl r])):=by
  intro l r fs k T7 hv hl;have v1:=yE (.jn l r) (S fs);have v2:=yE l (S fs);have ap:=app fs (.fl r) T7;have ty:=isl fs;have j0:∀s,aY (enc (.jn l r)) (.int 0) s=.ok (enc l) s:=λs=>by rw[enc];exact jD s 0 _ _ rfl
  have j1:∀s,aY (enc (.jn l r)) (.int 1) s=.ok (enc r) s:=λs=>by rw[enc];exact jD s 1 _ _ rfl
  have ap':aU (.loc st.length) [.tup [.non,enc r]] (S fs)=.ok .non (S (fs++[.fl r])):=ap;rw[hv]at v1;rw[hl]at v2;rw[<-hB,hE,hE];generalize enc (.jn l r)=X at *;generalize S (fs++[.fl r])=Z' at *;generalize S fs=Z at *;simp[v1,v2,yL,j0,j1,ty,ap']
 have fB3:∀(l r:Tr) (fs:List Fr) (k:Nat),fs.length<1000000->val (.jn l r)=false->val l=true->val r=false->B (E (.jn l r) k) (S fs)=.ok (.nx (E r k)) (S (fs++[.fr l])):=by
  intro l r fs k T7 hv hl hr;have v1:=yE (.jn l r) (S fs);have v2:=yE l (S fs);have v3:=yE r (S fs);have ap:=app fs (.fr l) T7;have ty:=isl fs;have j0:∀s,aY (enc (.jn l r)) (.int 0) s=.ok (enc l) s:=λs=>by rw[enc];exact jD s 0 _ _ rfl
  have j1:∀s,aY (enc (.jn l r)) (.int 1) s=.ok (enc r) s:=λs=>by rw[enc];exact jD s 1 _ _ rfl
  have ap':aU (.loc st.length) [.tup [enc l,.non]] (S fs)=.ok .non (S (fs++[.fr l])):=ap;rw[hv]at v1;rw[hl]at v2;rw[hr]at v3;rw[<-hB,hE,hE];generalize enc (.jn l r)=X at *;generalize S (fs++[.fr l])=Z' at *;generalize S fs=Z at *;simp[v1,v2,v3,yL,j0,j1,ty,ap']
 have fB4:∀(s:List Nat) (r:Tr) (fs:List Fr) (k:Nat),val (.jn (.lf s) r)=false->val r=true->B (E (.jn (.lf s) r) k) (S fs)=.ok (.bk (E (.jn (.lf s) r) k)) (S fs):=by
  intro s r fs k hv hr;have v1:=yE (.jn (.lf s) r) (S fs);have v2:=yE (.lf s) (S fs);have v3:=yE r (S fs);have j0:∀z,aY (enc (.jn (.lf s) r)) (.int 0) z=.ok (enc (.lf s)) z:=λz=>by rw[enc];exact jD z 0 _ _ rfl
  have j1:∀z,aY (enc (.jn (.lf s) r)) (.int 1) z=.ok (enc r) z:=λz=>by rw[enc];exact jD z 1 _ _ rfl
  have i1:=Ny (.lf s) (S fs);rw[hv]at v1;rw[hr]at v3;rw[<-hB,hE];generalize enc (.jn (.lf s) r)=X at *;generalize enc (.lf s)=X2 at *;generalize S fs=Z at *;simp[v1,v2,v3,yL,j0,j1,i1,val]
 have fB5:∀(l r u:Tr) (fs:List Fr) (k:Nat),val (.jn l r)=false->val l=true->val r=true->fG l r=some u->B (E (.jn l r) k) (S fs)=.ok (.nx (E u (k+1))) (S fs):=by
  intro l r u fs k hv hl hr hx;have v1:=yE (.jn l r) (S fs);have v2:=yE l (S fs);have v3:=yE r (S fs);have j0:∀z,aY (enc (.jn l r)) (.int 0) z=.ok (enc l) z:=λz=>by rw[enc];exact jD z 0 _ _ rfl
  have j1:∀z,aY (enc (.jn l r)) (.int 1) z=.ok (enc r) z:=λz=>by rw[enc];exact jD z 1 _ _ rfl
  have i1:yF "str" (enc l) (S fs)=.ok (.bl false) (S fs):=by
   cases l with
   | lf s=>rw[fG]at hx;cases hx
   | jn _ _=>exact Ny _ _
  have ch:=zsz l r u (S fs) hx;rw[hv]at v1;rw[hl]at v2;rw[hr]at v3;rw[<-hB,hE,hE];generalize enc (.jn l r)=X at *;generalize S fs=Z at *;simp[v1,v2,v3,yL,j0,j1,i1,ch]

 have W:∀(m:Nat) (x:Tr) (fs:List Fr) (k:Nat),k+m=n->good fs->dp (cR fs x)+m<=900000 ->
   ∃x' xq,bj C B (E x k) (S fs)=.ok (.nx (E x' (k+(run m (cR fs x)).2))) (S xq)/\cR xq x'=(run m (cR fs x)).1:=by
  intro m
  induction m with
  | zero =>
   intro x fs k hk hg hd;refine⟨x,fs,?_,rfl⟩;rw[wY,fC,show decide (k<n)=false from ae4 (by omega)];simp[run]
  | succ m ih =>
   have hN:∀(x:Tr) (fs:List Fr) (k:Nat),val x=false->k+(m+1)=n->good fs->dp (cR fs x)+(m+1)<=900000 ->
     ∃x' xq,bj C B (E x k) (S fs)=.ok (.nx (E x' (k+(run (m+1) (cR fs x)).2))) (S xq)/\cR xq x'=(run (m+1) (cR fs x)).1:=by
    intro x
    induction x with
    | lf s=>intro fs k hv;simp[val]at hv
    | jn l r Ra Q_ =>
     intro fs k hv hk hg hd;have T7:fs.length<1000000:=by have:=Pu fs (.jn l r);omega
     have hc:C (E (.jn l r) k) (S fs)=.ok true (S fs):=by
      rw[fC,hv,show decide (k<n)=true from ae_ (by omega)];simp
     rw[wY,hc,R.aB,ae1 rfl];cases hl:val l with
     | false =>
      rw[fB2 l r fs k T7 hv hl,R.aB];have e:cR (fs++[.fl r]) l=cR fs (.jn l r):=zhg fs (.fl r) l;have:=Ra (fs++[.fl r]) k hl hk (λf hf l' e'=>by
       rcases mO.mp hf with hf | hf
       ·exact hg f hf l' e'
       ·obtain rfl:f=.fl r:=by simpa using hf
        cases e') (by rw[e];exact hd)
      rw[e]at this;exact this
     | true =>
      cases hr:val r with
      | false =>
       rw[fB3 l r fs k T7 hv hl hr,R.aB];have e:cR (fs++[.fr l]) r=cR fs (.jn l r):=zhg fs (.fr l) r;have:=Q_ (fs++[.fr l]) k hr hk (λf hf l' e'=>by
        rcases mO.mp hf with hf | hf
        ·exact hg f hf l' e'
        ·obtain rfl:f=.fr l:=by simpa using hf
         cases e';exact hl) (by rw[e];exact hd)
       rw[e]at this;exact this
      | true =>
       have hs:=Eh (fs:=fs) hg hv;rw[zfv hl hr hv]at hs;rcases HX hl hr hv with⟨s,rfl⟩ | ⟨u,hu⟩
       ·rw[fG]at hs;rw[fB4 s r fs k hv hr,R.aB,SX hs];exact⟨_,fs,rfl,rfl⟩
       ·rw[hu]at hs;have hs:step (cR fs (.jn l r))=some (cR fs u):=hs;rw[fB5 l r u fs k hv hl hr hu,R.aB,zie hs];have hd2:=zpu hs;obtain⟨x',xq,h1,h2⟩:=ih u fs (k+1) (by omega) hg (by omega);refine⟨x',xq,?_,h2⟩;dsimp only;rw[show k+((run m (cR fs u)).2+1)=k+1+(run m (cR fs u)).2 by omega];exact h1
   have hV:∀(q:Nat) (x:Tr) (fs:List Fr) (k:Nat),fs.length<=q->k+(m+1)=n->good fs->dp (cR fs x)+(m+1)<=900000 ->
     ∃x' xq,bj C B (E x k) (S fs)=.ok (.nx (E x' (k+(run (m+1) (cR fs x)).2))) (S xq)/\cR xq x'=(run (m+1) (cR fs x)).1:=by
    intro q
    induction q with
    | zero =>
     intro x fs k hq hk hg hd;obtain rfl:fs=[]:=nA.mp (by omega);cases hv:val x with
     | false=>exact hN x [] k hv hk hg hd
     | true =>
      refine⟨x,[],?_,?_⟩
      ·rw[wY,fC,hv,SX (Uy (show val (cR [] x)=true from hv))];simp
      ·rw[SX (Uy (show val (cR [] x)=true from hv))]
    | succ q ihq =>
     intro x fs k hq hk hg hd;cases hv:val x with
     | false=>exact hN x fs k hv hk hg hd
     | true =>
      by_cases hf:fs=[]
      ·subst hf;exact ihq x [] k (by simp) hk hg hd
      ·obtain⟨gs,f,rfl⟩:∃gs f,fs=gs++[f]:=⟨fs.dropLast,fs.getLast hf,(List.dropLast_concat_getLast hf).symm⟩;have hc:C (E x k) (S (gs++[f]))=.ok true (S (gs++[f])):=by
        rw[fC,show decide (k<n)=true from ae_ (by omega)];simp
       rw[wY,hc,R.aB,ae1 rfl,fB1 x gs f k hv,R.aB];have e:cR (gs++[f]) x=cR gs (fill f x):=zhg gs f x;rw[e]at hd ⊢;exact ihq (fill f x) gs k (by simp at hq;omega) hk (λf' hf'=>hg f' (pC _ hf')) hd
   intro x fs k hk hg hd;exact hV fs.length x fs k (gb _) hk hg hd

 have V:∀(q:Nat) (x:Tr) (fs:List Fr) (k:Nat),fs.length<=q->bj (o_ (vr 3)) P (E x k) (S fs)=.ok (.nx (E (cR fs x) k)) (S []):=by
  intro q
  induction q with
  | zero =>
   intro x fs k hq;obtain rfl:fs=[]:=nA.mp (by omega);have ht:=zq1 st [];rw[wY,hE];simp only[aaE,Ae,kW,mX,R.aB,S,gZ,ht,List.isEmpty_nil,Bool.not_true,if_false,Bool.false_eq_true,ae2]
   rfl
  | succ q ihq =>
   intro x fs k hq;by_cases hf:fs=[]
   ·subst hf;exact ihq x [] k (by simp)
   ·obtain⟨gs,f,rfl⟩:∃gs f,fs=gs++[f]:=⟨fs.dropLast,fs.getLast hf,(List.dropLast_concat_getLast hf).symm⟩;have ht:cD (.loc st.length) (S (gs++[f]))=some true:=by
     have:=zq1 st ((gs++[f]).map iJ);rw[List.isEmpty_map,show (gs++[f]).isEmpty=false by simp]at this;exact this
    have hp:jP (.loc st.length) [] (S (gs++[f]))=.ok (iJ f) (S gs):=by
     show jP (.loc st.length) [] (st++[.lst ((gs++[f]).map iJ)])=_;rw[mC];exact zrr st (gs.map iJ) (iJ f)
    have hj:=zph f x (S gs);have ty:=isl (gs++[f]);have hb:P (E x k) (S (gs++[f]))=.ok (.nx (E (fill f x) k)) (S gs):=by
     rw[<-hP,hE,hE];generalize S (gs++[f])=Z at *;generalize S gs=Z' at *;simp[ty,hp,hj]
    have hc:o_ (vr 3) (E x k) (S (gs++[f]))=.ok true (S (gs++[f])):=by
     rw[hE];generalize S (gs++[f])=Z at *;simp[ht]
    rw[wY,hc,R.aB,ae1 rfl,hb,R.aB,zhg];exact ihq (fill f x) gs k (by simp at hq;omega)
 obtain⟨x',xq,h1,h2⟩:=W n t [] 0 (by omega) (λf hf=>absurd hf (kO)) (by show dp t+n<=_;exact h);rw[show cR [] t=t from rfl]at h1 h2;have h3:=V xq.length x' xq (0+(run n t).2) (gb _);rw[h2]at h3;have h4:=yE (run n t).1 (S []);have hu:=fB st.length (run n t).1;have hS:S []=st++[.lst []]:=rfl;rw[hS]at h1 h3 h4;rw[hE]at h1 h3;rw[hE,nG]at h3;rw[nG]at h1;rw[hE]at h1;generalize (run n t).2=c at *;rw[show startM 5 [enc t,.int n]=[some (enc t),some (.int n),none,none,none] from rfl];cases hv:val (run n t).1 with
 | false =>
  rw[hv]at h4;generalize enc (run n t).1=Y at *;generalize S xq=Z at *;simp only[xP,Af,Ae,mX,kW,R.aB,pI,List.set_cons_succ,Ib,Ag,mV,mz,if_true,O6];rw[show ((0:Int))=((0:Nat):Int) from rfl,h1];simp[h3,h4,yL];exact o9 (by simp[hu])
 | true =>
  rw[hv]at h4;generalize enc (run n t).1=Y at *;generalize S xq=Z at *;simp only[xP,Af,Ae,mX,kW,R.aB,pI,List.set_cons_succ,Ib,Ag,mV,mz,if_true,O6];rw[show ((0:Int))=((0:Nat):Int) from rfl,h1];simp[h3,h4,yL];exact o9 (by simp[hu])
end Law
set_option maxHeartbeats 0
namespace M
def zig{g:MG}{b:MS}{gs:List (Nat×MO)}{d:D}{r:List D}{env env1 env2:aJ}{st st1 st2:ak}(ho:uC gs st)(hg:g d env st=.ok env1 st1)(hb:b env1 st1=.ok (.nx env2) st2) :
  cN g b gs (d::r) env st=cN g b gs r env2 st2:=by
 rw[cN,ae1 ho,hg,R.aB,hb,R.aB]
def Gb{g:MG}{b:MS}{gs:List (Nat×MO)}{env:aJ}{st:ak}(ho:uC gs st):cN g b gs [] env st=.ok (.nx env) st:=by
 rw[cN,ae1 ho]
namespace Tr
def vf:Tr->List Tr
 | .lf s=>[.lf s]
 | .jn l r=>.jn l r::(vf r++vf l)
def zV:Tr->Nat
 | .lf _=>1
 | .jn l r=>zV l+zV r+1
def Ws(t:Tr):zV t+1=2*lv t:=by
 induction t with
 | lf s=>rfl
 | jn l r h1 h2=>rw[zV,lv];omega
def G3(W:List Tr):Nat:=(W.map zV).sum
def yR(W:List Tr):List Tr:=(W.reverse.map vf).flatten
def zm2(W:List Tr)(t:Tr):G3 (W++[t])=G3 W+zV t:=by simp[G3]
def zhp(W:List Tr)(t:Tr):yR (W++[t])=vf t++yR W:=by simp[yR]
def zon(t:Tr):0<zV t:=by cases t<;>simp[zV]
def zrv(W:List Tr):W.length<=G3 W:=by
 induction W with
 | nil=>simp[G3]
 | cons y W ih=>have:=zon y;simp[G3]at ih ⊢;omega
end Tr
end M
namespace Law
open L2 M Tr
def Ip(st:ak)(O:List D)(ds:List D)(d:D):jP (.loc (st.length+1)) [] (st++[.lst O,.lst (ds++[d])])=.ok d (st++[.lst O,.lst ds]):=by simp[jP]
def B_(st:ak)(O P:List D)(ds:List D)(d:D):jP (.loc (st.length+2)) [] (st++[.lst O,.lst P,.lst (ds++[d])])=.ok d (st++[.lst O,.lst P,.lst ds]):=by simp[jP]
def zkt(f:Tr->D)(P:Tr->Prop)(a b j1 j2:Nat)(da db:List D)(t:Tr)(st:ak)
  (ha:st[a]? = some (.clo j1 (iy j1) da)) (hb:st[b]? = some (.clo j2 (iy j2) db)) (hsz:lv t<=400000)
  (hf:∀(u:Tr) (n:Nat),under n (f u)) (hP:P t) (hPP:∀l r,P (.jn l r)->P l/\P r)
  (h1:∀(s:List Nat) (g:ak),P (.lf s)->GL j1 (da++[enc (.lf s)]) (bL (st++g))=.ok (f (.lf s)) (bL (st++g)))
  (h2:∀(l r:Tr) (g:ak),P (.jn l r)->GL j2 (db++[enc (.jn l r),f l,f r]) (bL (st++g))=.ok (f (.jn l r)) (bL (st++g))) :
  z9 [enc t,.loc a,.loc b] st=.ok (f t) st:=by
 have hN:zV t<=800000:=by have:=Ws t;omega
 unfold z9 bu bh zl5;generalize hB1:(aD (aK 5 (eG "list" jP (vr 4))) _:MS)=B1;generalize hB2:(iZ (o_ (Aj (yF "str") (vr 5))) _ _:MS)=B2
 let E:Option D->aJ:=λa5=>[some (enc t),some (.loc a),some (.loc b),some (.loc st.length),some (.loc (st.length+1)),a5,none,none,none]
 let S:List Tr->List Tr->ak:=λO W=>st++[.lst (O.map enc),.lst (W.map enc)]

 have aa_:∀(k:Nat) (O W:List Tr) (a5:Option D),G3 W<=k->O.length+G3 W<=800000->∃G9,bj (o_ (vr 4)) B1 (E a5) (S O W)=.ok (.nx (E G9)) (S (O++yR W) []):=by
  intro k
  induction k with
  | zero =>
   intro O W a5 hk _;have hw:=zrv W;cases W with
   | nil =>
    refine⟨a5,?_⟩;rw[wY];simp[E,S,cD,yR]
   | cons x W=>simp at hw;omega
  | succ k ih =>
   intro O W a5 hk hO;have hw:=zrv W;rcases List.eq_nil_or_concat W with rfl | ⟨W,x,rfl⟩
   ·refine⟨a5,?_⟩;rw[wY];simp[E,S,cD,yR]
   ·rw[List.concat_eq_append]at *;rw[zm2]at hk hO hw;have hx:=zon x;rw[gG,m7]at hw;have hl:=zrv W;have c1:o_ (vr 4) (E a5) (S O (W++[x]))=.ok true (S O (W++[x])):=by simp[E,S,cD]
    cases x with
    | lf s =>
     obtain⟨G9,e⟩:=ih (O++[.lf s]) W (some (enc (.lf s))) (by simp[zV]at hk;omega) (by simp[zV]at hO ⊢;omega);refine⟨G9,?_⟩;have b1:B1 (E a5) (S O (W++[.lf s]))=.ok (.nx (E (some (enc (.lf s))))) (S (O++[.lf s]) W):=by
      rw[<-hB1];have q1:=Ip st (O.map enc) (W.map enc) (enc (.lf s));have hOl:(O.map enc).length<1000000:=by rw[gh];omega
      simp only[E,S,mC,gm,gZ];generalize O.map enc=O' at *;generalize W.map enc=W' at *;rw[show enc (.lf s)=.str s from rfl]at *;simp[cM,q1,aU,hOl,jc,cD]
     rw[wY,c1,R.aB,ae1 rfl,b1,R.aB];dsimp only;rw[e,zhp,vf,gP]
    | jn l r =>
     have ew:G3 ((W++[l])++[r])=G3 W+zV l+zV r:=by rw[zm2,zm2]
     have hl1:=zon l;have Z6:=zon r;rw[zV]at hk hO hw;obtain⟨G9,e⟩:=ih (O++[.jn l r]) ((W++[l])++[r]) (some (enc (.jn l r))) (by rw[ew];omega) (by rw[ew,gG,m7];omega);refine⟨G9,?_⟩;have b1:B1 (E a5) (S O (W++[.jn l r]))=.ok (.nx (E (some (enc (.jn l r))))) (S (O++[.jn l r]) ((W++[l])++[r])):=by
      rw[<-hB1];have q1:=Ip st (O.map enc) (W.map enc) (enc (.jn l r));have hOl:(O.map enc).length<1000000:=by rw[gh];omega
      have hWl:(W.map enc).length<1000000:=by rw[gh];omega
      have abA:(W.map enc++[enc l]).length<1000000:=by rw[gG,gh,m7];omega
      have x0:∀s,aY (enc (.jn l r)) (.int 0) s=.ok (enc l) s:=λs=>by rw[enc];exact jD s 0 _ _ rfl
      have x1:∀s,aY (enc (.jn l r)) (.int 1) s=.ok (enc r) s:=λs=>by rw[enc];exact jD s 1 _ _ rfl
      have Xu:=Ny (.jn l r);simp only[E,S,mC,gm,gZ];generalize O.map enc=O' at *;generalize W.map enc=W' at *;generalize enc (.jn l r)=J at *;generalize enc l=L at *;generalize enc r=R' at *;simp only[gG,m7]at abA;simp[cM,q1,aU,hOl,Xu,cD,x0,x1,hWl,abA]
     rw[wY,c1,R.aB,ae1 rfl,b1,R.aB];dsimp only;rw[e,zhp,zhp,zhp,vf];simp
 obtain⟨a5,e1⟩:=aa_ (G3 [t]) [] [t] none (gb _) (by simp[G3];omega);have eo:yR [t]=vf t:=by simp[yR]
 rw[mD,eo]at e1

 let O:=(vf t).map enc
 let E2:Option D->Option D->Option D->aJ:=λa5 a7 a8=>[some (enc t),some (.loc a),some (.loc b),some (.loc st.length),some (.loc (st.length+1)),a5,some (.loc (st.length+2)),a7,a8]
 let S2:List D->ak:=λT=>st++[.lst O,.lst [],.lst T]
 have abC:∀T,(S2 T)[a]? = some (.clo j1 (iy j1) da):=λT=>cZ ha;have abB:∀T,(S2 T)[b]? = some (.clo j2 (iy j2) db):=λT=>cZ hb;have aa9:∀(u:Tr),P u->∀(rest T:List D) (a5 a7 a8:Option D),T.length+zV u<=900000 ->
   ∃G9 a7' a8',cN (aW 5) B2 [(st.length,.lst O)] ((vf u).reverse.map enc++rest) (E2 a5 a7 a8) (S2 T)=cN (aW 5) B2 [(st.length,.lst O)] rest (E2 G9 a7' a8') (S2 (T++[f u])):=by
  intro u
  induction u with
  | lf s =>
   intro hp rest T a5 a7 a8 hT;refine⟨some (enc (.lf s)),a7,a8,?_⟩;refine zig (env1:=E2 (some (enc (.lf s))) a7 a8) (st1:=S2 T) (by simp[S2]) rfl ?_;rw[<-hB2];have hA:aj (vr 5) au (E2 (some (enc (.lf s))) a7 a8) (S2 T)=.ok [enc (.lf s)] (S2 T):=by simp[E2]
   have c1:=BZ (Λ:=iy) (G:=GL) (i:=1) (env:=E2 (some (enc (.lf s))) a7 a8) (st:=S2 T) (n:=a) rfl (abC T) hA (abC T) (h1 s _ hp) (hf _ _);have hTl:T.length<1000000:=by omega
   generalize f (.lf s)=F at *;rw[show enc (.lf s)=.str s from rfl]at *;simp only[E2,S2]at c1 ⊢;generalize O=O' at *;simp[jc,cD,cM,c1,aU,hTl]
  | jn l r Ra Q_ =>
   intro hp rest T a5 a7 a8 hT;obtain⟨pl,pr⟩:=hPP l r hp;rw[zV]at hT;rw[vf,nq,List.reverse_append,mC,mC,gP,gP];obtain⟨b5,b7,b8,q1⟩:=Ra pl ((vf r).reverse.map enc++([Tr.jn l r].map enc++rest)) T a5 a7 a8 (by omega);obtain⟨c5,c7,c8,q2⟩:=Q_ pr ([Tr.jn l r].map enc++rest) (T++[f l]) b5 b7 b8 (by simp;omega);rw[q1,q2];refine⟨some (enc (.jn l r)),some (f r),some (f l),?_⟩;refine zig (env1:=E2 (some (enc (.jn l r))) c7 c8) (st1:=S2 (T++[f l]++[f r])) (by simp[S2]) rfl ?_;rw[<-hB2];have hA:aj (vr 5) (aj (vr 8) (aj (vr 7) au)) (E2 (some (enc (.jn l r))) (some (f r)) (some (f l))) (S2 T)=.ok [enc (.jn l r),f l,f r] (S2 T):=by simp[E2]
   have c1:=BZ (Λ:=iy) (G:=GL) (i:=2) (env:=E2 (some (enc (.jn l r))) (some (f r)) (some (f l))) (st:=S2 T) (n:=b) rfl (abB T) hA (abB T) (h2 l r _ hp) (hf _ _);have hTl:T.length<1000000:=by omega
   have Xu:=Ny (.jn l r);have p1:=B_ st O [] (T++[f l]) (f r);have p2:=B_ st O [] T (f l);simp only[E2,S2]at c1 ⊢;generalize enc (.jn l r)=J at *;generalize f (.jn l r)=F at *;generalize f l=FL at *;generalize f r=FR at *;generalize O=O' at *;simp only[gP,List.singleton_append]at p1;simp[Xu,cD,cM,c1,aU,hTl,p1,p2]
 obtain⟨b5,b7,b8,e2⟩:=aa9 t hP [] [] a5 none none (by simp;omega);rw[gY,mD,Gb (by simp[S2])]at e2;have hu:=hf t st.length;have ZL:aY (.loc (st.length+2)) (.int 0) (S2 [f t])=.ok (f t) (S2 [f t]):=by simp[S2,aY,rQ,Kr]
 have lg:sW (S2 []) st.length=some (O,.lst O):=by simp[S2,sW]
 rw[show startM 9 [enc t,D.loc a,.loc b]=[some (enc t),some (.loc a),some (.loc b),none,none,none,none,none,none] from rfl];rw[nT]at e2;simp only[E,S,E2,S2,gZ,gm]at e1 e2 lg ZL;change _=R.ok _ (st++[.lst O,.lst []]) at e1;change cN (aW 5) B2 [(st.length,.lst O)] O.reverse _ _=_ at e2;generalize O=O' at *;generalize enc t=X at *;simp[e1,e2,lg,ZL];exact o9 hu
end Law
namespace M
namespace Tr
def iU(o:Option (Tr×Nat))(p:Tr):Tr×Nat:=match o with | some x=>x | none=>(.jn tK p,1)
def iY(x:List Nat):Tr->Bool
 | .lf s=>decide (s=x)
 | .jn _ _=>false
def outF(x:List Nat):Tr->Option (Tr×Nat)
 | .lf s=>if s=x then some (tI,2) else none
 | .jn l r=>if (outF x l).isNone && (outF x r).isNone && val (.jn l r) then none
  else if (outF x l).isNone && iY x r then some (l,0)
  else some (.jn (.jn tS (iU (outF x l) l).1) (iU (outF x r) r).1,1+(iU (outF x l) l).2+(iU (outF x r) r).2)
def out(x:List Nat)(t:Tr):Tr×Nat:=iU (outF x t) t
end Tr
open Tr
def fK:Option (Tr×Nat)->D
 | none=>.non
 | some (t,n)=>.tup [enc t,.int n]
def zes(n:Nat)(o:Option (Tr×Nat)):under n (fK o):=by
 cases o with
 | none=>simp[fK]
 | some p=>simp[fK,fB]
def encC(p:Tr×Nat):D:=.tup [enc p.1,.int p.2]
def zgf(o:Option (Tr×Nat))(st:ak):cg (fK o) .non st=.ok (.bl o.isNone) st:=by
 cases o with
 | none=>rfl
 | some p=>rfl
def Et(x:List Nat)(t:Tr)(st:ak):jf 800 (enc t) (.str x) st=.ok (.bl (iY x t)) st:=by
 have:=Nu 799 t x st;cases t with
 | lf s=>exact this
 | jn l r=>exact this
end M
namespace Law
open L2 M Tr
def zlo(x s:List Nat)(st:ak):zcp [.str x,.str s] st=.ok (fK (outF x (.lf s))) st:=by
 have hu:=zes st.length (outF x (.lf s));unfold zcp bu bh zfq;rw[outF]at *;by_cases h:s=x
 ·rw[ae1 h]at *;subst h;simp[startM,fK];rw[show enc tI=.tup [.tup [.str [83],.str [75],.int 2,.bl true],.str [75],.int 3,.bl true] from rfl];exact dY (by simp)
 ·rw[ae2 h]at *;simp[startM,fK,h,dY]
def zds(o:Option (Tr×Nat))(p:Tr)(st:ak):Zt [fK o,enc p] st=.ok (encC (iU o p)) st:=by
 have j:lE [.str [75],enc p] st=.ok (enc (.jn tK p)) st:=uL tK p st;have hn:=zgf o st;unfold Zt bu bh ze8;cases o with
 | none =>
  have hu:=fB st.length (.jn tK p);simp only[iU,encC];rw[show fK none=.non from rfl]at *;generalize enc (.jn tK p)=W at *;simp[startM,j]
  (refine dY ?_;simp[hu])
 | some q =>
  have hu:=zes st.length (some q);simp only[iU];rw[show fK (some q)=encC q from rfl]at *;generalize encC q=W at *;simp[startM,hn];exact dY hu
def zkn(x:List Nat)(l r:Tr)(st:ak):zb9 [.str x,enc (.jn l r),fK (outF x l),fK (outF x r)] st=.ok (fK (outF x (.jn l r))) st:=by
 have n1:=zgf (outF x l) st;have n2:=zgf (outF x r) st;have v1:=yE (.jn l r) st;have x0:aY (enc (.jn l r)) (.int 0) st=.ok (enc l) st:=by rw[enc];exact jD st 0 _ _ rfl
 have x1:aY (enc (.jn l r)) (.int 1) st=.ok (enc r) st:=by rw[enc];exact jD st 1 _ _ rfl
 have q1:=Et x r st;have o1:=zds (outF x l) l st;have o2:=zds (outF x r) r st;have j1:lE [.str [83],enc (iU (outF x l) l).1] st=.ok (enc (.jn tS (iU (outF x l) l).1)) st:=uL tS _ st;have j2:=uL (.jn tS (iU (outF x l) l).1) (iU (outF x r) r).1 st;have hu:=zes st.length (outF x (.jn l r));have i10:aY (encC (iU (outF x l) l)) (.int 0) st=.ok (enc (iU (outF x l) l).1) st:=by rw[encC];exact jD st 0 _ _ rfl
 have i11:aY (encC (iU (outF x l) l)) (.int 1) st=.ok (.int ((iU (outF x l) l).2:Nat)) st:=by rw[encC];exact jD st 1 _ _ rfl
 have i20:aY (encC (iU (outF x r) r)) (.int 0) st=.ok (enc (iU (outF x r) r).1) st:=by rw[encC];exact jD st 0 _ _ rfl
 have i21:aY (encC (iU (outF x r) r)) (.int 1) st=.ok (.int ((iU (outF x r) r).2:Nat)) st:=by rw[encC];exact jD st 1 _ _ rfl
 unfold zb9 bu bh ze4;rw[outF]at hu ⊢;generalize (outF x l)=ol at *;generalize (outF x r)=or' at *;generalize val (.jn l r)=vv at *;generalize iY x r=il at *;have aeK:(if ol.isNone && or'.isNone && vv then (none:Option (Tr×Nat)) else if ol.isNone && il then some (l,0) else some (.jn (.jn tS (iU ol l).1) (iU or' r).1,1+(iU ol l).2+(iU or' r).2))=(if ol.isNone && or'.isNone && vv then (none:Option (Tr×Nat)) else if ol.isNone && il then some (l,0) else some (.jn (.jn tS (iU ol l).1) (iU or' r).1,1+(iU ol l).2+(iU or' r).2)):=rfl;have u1:=fB st.length l;have u2:=fB st.length (.jn (.jn tS (iU ol l).1) (iU or' r).1);by_cases c1:(ol.isNone && or'.isNone && vv)=true
 ·rw[ae1 c1];simp only[gB]at c1;rw[c1.1.1]at n1;rw[c1.1.2]at n2;rw[c1.2]at v1;generalize fK ol=OL at *;generalize fK or'=OR at *;generalize enc (.jn l r)=J at *;simp[startM,n1,n2,v1,cD,fK,dY]
 ·rw[ae2 c1];by_cases c2:(ol.isNone && il)=true
  ·rw[ae1 c2];simp only[gB]at c2;rw[c2.1]at n1 c1;rw[c2.2]at q1;have c1':or'.isNone=true->vv=false:=λh=>by rw[h]at c1;simpa using c1
   generalize or'.isNone=o2n at *;rw[show fK (some (l,0))=.tup [enc l,.int 0] from rfl];generalize fK ol=OL at *;generalize fK or'=OR at *;generalize enc (.jn l r)=J at *;generalize enc l=EL at *;cases o2n with
   | true =>
    rw[c1' rfl]at v1;simp[startM,n1,n2,v1,cD,x0,x1,q1]
    (refine dY ?_;simp[u1])
   | false =>
    simp[startM,n1,n2,cD,x0,x1,q1]
    (refine dY ?_;simp[u1])
  ·rw[ae2 c2];rw[show fK (some (Tr.jn (.jn tS (iU ol l).1) (iU or' r).1,1+(iU ol l).2+(iU or' r).2))=.tup [enc (.jn (.jn tS (iU ol l).1) (iU or' r).1),.int ((1+(iU ol l).2+(iU or' r).2:Nat):Int)] from rfl];generalize hC1:iU ol l=C1 at *;generalize hC2:iU or' r=C2 at *;generalize fK ol=OL at *;generalize fK or'=OR at *;generalize ol.isNone=o1n at *;generalize or'.isNone=o2n at *;generalize enc (.jn (.jn tS C1.1) C2.1)=W at *;generalize enc (.jn tS C1.1)=W1 at *;generalize enc C1.1=W2 at *;generalize enc C2.1=W3 at *;generalize encC C1=Z1 at *;generalize encC C2=Z2 at *;generalize enc (.jn l r)=J at *;generalize enc l=EL at *;generalize enc r=ER at *;cases o1n<;>cases o2n<;>cases vv<;>cases il<;>first
    | (exact absurd rfl c1)
    | (exact absurd rfl c2)
    | (simp[startM,n1,n2,v1,cD,x0,x1,q1,o1,o2,i10,i11,i20,i21,j1,j2];refine dY ?_;simp[u2])
def zdb(x:List Nat)(t:Tr)(st:ak)(ht:st[1]? = some (.tab "out_and_cost"))(hc:bG st)(hl:lv t<=400000):S_ [.str x,enc t] st=.ok (encC (out x t)) st:=by
 have f1:z9 [enc t,.loc st.length,.loc (st.length+1)] (st++[.clo 2 (iy 2) [.str x],.clo 3 (iy 3) [.str x]])=.ok (fK (outF x t)) (st++[.clo 2 (iy 2) [.str x],.clo 3 (iy 3) [.str x]]):=by
  refine zkt (λu=>fK (outF x u)) (λ_=>True) st.length (st.length+1) 2 3 [.str x] [.str x] t _ (by simp) (by simp) hl (λu n=>zes n _) trivial (λ_ _ _=>⟨trivial,trivial⟩) ?_ ?_
  ·intro s g _;have h:=zlo x s (bL (st++[.clo 2 (iy 2) [.str x],.clo 3 (iy 3) [.str x]]++g));generalize bL (st++[.clo 2 (iy 2) [.str x],.clo 3 (iy 3) [.str x]]++g)=Z at *;rw[show enc (.lf s)=.str s from rfl];simp[GL,oO,e_2,h]
  ·intro l r g _;have h:=zkn x l r (bL (st++[.clo 2 (iy 2) [.str x],.clo 3 (iy 3) [.str x]]++g));generalize bL (st++[.clo 2 (iy 2) [.str x],.clo 3 (iy 3) [.str x]]++g)=Z at *;generalize enc (.jn l r)=J at *;simp[GL,oO,e_3,h]
 have o1:=zds (outF x t) t st;have hu:under st.length (encC (out x t)):=by simp[encC,fB]
 have c1:=zm9 (Λ:=iy) (F:=z9) (dd:=[]) (m:=iK (vr 1) (fY 2 [0] 1 "out_and_cost" (fY 3 [0] 1 "out_and_cost" qU))) (env:=[some (.str x),some (enc t),none]) (st:=st) (st1:=st) (st2:=st) (as:=[.v (enc t),.l 2 [0],.l 3 [0]]) (ds:=[enc t,.loc st.length,.loc (st.length+1)]) (os:=[.clo 2 (iy 2) [.str x],.clo 3 (iy 3) [.str x]]) (d:=fK (outF x t))
  (by simp[iK,fY,qU,ht]) hc (by simp[jl,yq]) (by rw[gY,f1];exact o9 (zes _ _)) hc
 unfold S_ bu bh zbc;rw[show startM 3 [D.str x,enc t]=[some (.str x),some (enc t),none] from rfl];unfold out at hu ⊢;generalize iM iy z9 [] (iK (vr 1) (fY 2 [0] 1 "out_and_cost" (fY 3 [0] 1 "out_and_cost" qU)))=CL at c1 ⊢;generalize encC (iU (outF x t) t)=W at *;generalize fK (outF x t)=W2 at *;generalize enc t=X at *;simp[c1,o1];exact dY hu
def znr(x:List Nat)(t:Tr)(st:ak)(ht:st[1]? = some (.tab "out_and_cost"))(hc:bG st)(hl:lv t<=400000):zcd [.str x,enc t] st=.ok (enc (out x t).1) st:=by
 have h:=zdb x t st ht hc hl;have x0:aY (encC (out x t)) (.int 0) st=.ok (enc (out x t).1) st:=by rw[encC];exact jD st 0 _ _ rfl
 have hu:=fB st.length (out x t).1;unfold zcd bu bh zgp;generalize enc (out x t).1=W at *;generalize encC (out x t)=W2 at *;generalize enc t=X at *;simp[startM,h,x0];exact dY hu
end Law
set_option maxHeartbeats 0
namespace M
namespace Tr
def stands(x:List Nat):Tr->Bool
 | .lf s=>decide (s=x)
 | .jn l r=>stands x l || stands x r
def zqk{x:List Nat}{t:Tr}(h:iY x t=true):stands x t=true:=by
 cases t with
 | lf s=>exact h
 | jn l r=>cases h
def zk4{x:List Nat}{t:Tr}:iY x t=true↔t=.lf x:=by
 cases t with
 | lf s=>simp[iY]
 | jn l r=>simp[iY]
theorem Uz(x:List Nat):∀t,(outF x t).isNone=(val t && !stands x t)
 | .lf s=>by
  rw[outF,stands,show val (.lf s)=true from rfl];by_cases h:s=x
  ·rw[ae1 h];simp[h]
  ·rw[ae2 h];simp[h]
 | .jn l r=>by
  have h1:=Uz x l;have h2:=Uz x r;rw[outF,stands];by_cases c:((outF x l).isNone && (outF x r).isNone && val (.jn l r))=true
  ·rw[ae1 c];simp only[gB]at c;rw[h1,h2]at c;simp only[gB,nH]at c;rw[c.2,c.1.1.2,c.1.2.2];rfl
  ·rw[ae2 c];have e:(if ((outF x l).isNone && iY x r)=true then some (l,0) else some (.jn (.jn tS (iU (outF x l) l).1) (iU (outF x r) r).1,1+(iU (outF x l) l).2+(iU (outF x r) r).2)).isNone=false:=by split<;>rfl
   rw[e]
   symm
   rw[Bool.and_eq_false_iff];by_cases hv:val (.jn l r)=true
   ·right;obtain⟨v1,v2⟩:=S8 hv;rw[h1,h2,hv,v1,v2]at c;cases s1:stands x l<;>cases s2:stands x r<;>rw[s1,s2]at c<;>first | rfl | exact absurd rfl c
   ·left;simpa using hv
def znd(x:List Nat){t:Tr}(h:iY x t=true):out x t=(tI,2):=by
 rw[zk4]at h;subst h;rw[out,outF,ae1 rfl];rfl
def Ze(x:List Nat){t:Tr}(h:(val t && !stands x t)=true):out x t=(.jn tK t,1):=by
 rw[<-Uz]at h;rw[out,Option.isNone_iff_eq_none.mp h];rfl
def zhq(x:List Nat){l r:Tr}(h:(val l && !stands x l)=true)(hr:iY x r=true):out x (.jn l r)=(l,0):=by
 rw[<-Uz]at h;have h2:(outF x r).isNone=false:=by
  rw[Uz,zqk hr];simp
 rw[out,outF,h,h2,hr];rfl
def zk5(x:List Nat){l r:Tr}(h1:(val (.jn l r) && !stands x (.jn l r))=false)(h2:((val l && !stands x l) && iY x r)=false):out x (.jn l r)=(.jn (.jn tS (out x l).1) (out x r).1,1+(out x l).2+(out x r).2):=by
 have e1:((outF x l).isNone && (outF x r).isNone && val (.jn l r))=false:=by
  rw[<-Uz]at h1;cases c:((outF x l).isNone && (outF x r).isNone && val (.jn l r)) with
  | false=>rfl
  | true =>
   rw[outF,ae1 c]at h1;cases h1
 rw[<-Uz]at h2;rw[out,outF,ae2 (by rw[e1];simp),ae2 (by rw[h2];simp)]
 rfl
theorem zR(x:List Nat):∀t,val (out x t).1=true
 | .lf s=>by
  by_cases h:iY x (.lf s)=true
  ·rw[znd x h];rfl
  ·have:stands x (.lf s)=false:=(show iY x (.lf s)=false by simpa using h);rw[Ze x (by rw[this];rfl)];rfl
 | .jn l r=>by
  by_cases h1:(val (.jn l r) && !stands x (.jn l r))=true
  ·rw[Ze x h1,dM];simp only[gB]at h1;exact h1.1
  ·by_cases h2:((val l && !stands x l) && iY x r)=true
   ·have h2':=h2;simp only[gB]at h2;rw[zhq x (by simp only[gB];exact h2.1) h2.2];exact h2.1.1
   ·rw[zk5 x (by simpa using h1) (by simpa using h2),Dv,zR x l,zR x r];rfl
end Tr
end M
namespace M
namespace Tr
theorem zpi:∀m,outF [120] (cQ m (.lf [120]))=some (wg m,Ca m)
 | 0=>by rw[cQ,outF,ae1 rfl];rfl
 | 1=>by rw[cQ,cQ,outF,outF,outF,ae1 rfl,ae2 (by decide)];rfl
 | m+2=>by
  have ih:=zpi (m+1);rw[cQ,outF,ih];have h0:outF [120] tK=none:=by rw[outF,ae2 (by decide)]
  have h1:iY [120] (cQ (m+1) (.lf [120]))=false:=rfl;rw[h0,h1];simp[iU,wg,Ca]
def zsn(m:Nat):out [120] (cQ m (.lf [120]))=(wg m,Ca m):=by unfold out;rw[zpi];rfl
theorem zoi(v:Tr):∀n,lv (cQ n v)=lv v+n
 | 0=>rfl
 | n+1=>by rw[cQ,lv,zoi v n,show lv tK=1 from rfl];omega
end Tr
end M
namespace Law
open L2 M Tr
def zfn(n:Nat)(v:Tr)(st:ak)(hn:n<=1000000):Nz [.int n,enc v] st=.ok (enc (cQ n v)) st:=by
 unfold Nz bu bh zjq;generalize hB:(aK 2 (az lE [] _):MS)=B;obtain⟨cB,st',h1,a3,rfl,rfl⟩:=GP (g:=aW 3) (b:=B) (gs:=[]) (items:=uR 0 n)
  (λi env s=>∃(a3:Option D),env=[some (.int n),some (enc v),some (enc (cQ i v)),a3]/\s=st)
  (env:=[some (.int n),some (enc v),some (enc v),none]) (st:=st) ⟨none,rfl,rfl⟩ (by
   rintro i d env s hi ⟨a3,rfl,rfl⟩;obtain⟨hi',rfl⟩:=Hk hi;have j1:lE [.str [75],enc (cQ i v)] s=.ok (enc (cQ (i+1) v)) s:=uL tK _ s;refine⟨by simp,_,_,rfl,[some (.int n),some (enc v),some (enc (cQ (i+1) v)),some (.int (0+(i:Int)))],s,.inl ?_,_,rfl,rfl⟩;rw[<-hB];generalize enc (cQ (i+1) v)=W at *;generalize enc (cQ i v)=W1 at *;generalize enc v=V at *;simp[j1]) (λ_ _ _=>by simp)
 rw[zqx]at h1;have hu:=fB st'.length (cQ n v);have Z6:-4611686018427387904<=(n:Int):=by omega
 have hr2:(n:Int)<4611686018427387904:=by omega
 rw[show startM 4 [D.int n,enc v]=[some (.int n),some (enc v),none,none] from rfl];generalize enc (cQ n v)=W at *;generalize enc v=V at *;simp[Z6,hr2,h1];exact dY hu
def Y6(k many:Nat)(st:ak)(ht:st[1]? = some (.tab "out_and_cost"))(hc:bG st)(hk:k<many)(hm:many<=300000):Bm [.int k,.int many] st=.ok (enc (aM k many)) st:=by
 have u1:Nz [.int ((many - 1 - k:Nat):Int),.str [120]] st=.ok (enc (cQ (many - 1 - k) (.lf [120]))) st:=zfn (many - 1 - k) (.lf [120]) st (by omega);have t1:=znr [120] (cQ (many - 1 - k) (.lf [120])) st ht hc (by rw[zoi,show lv (.lf [120])=1 from rfl];omega);rw[zsn]at t1;have u2:=zfn k (wg (many - 1 - k)) st (by omega);have hu:=fB st.length (aM k many);have e1:(many:Int) - 1 - (k:Int)=((many - 1 - k:Nat):Int):=by omega
 unfold Bm bu bh zsq;unfold aM at hu ⊢;generalize many - 1 - k=m at *;generalize enc (cQ k (wg m))=W at *;generalize enc (cQ m (.lf [120]))=W1 at *;generalize enc (wg m)=W2 at *;simp[startM,e1,u1,t1,u2];exact dY hu
end Law
namespace M
namespace Tr
def ad9:enc tI=.tup [.tup [.str [83],.str [75],.int 2,.bl true],.str [75],.int 3,.bl true]:=by rfl
def jd:List Tr->Tr
 | []=>tK
 | t::ts=>.jn tK (hold [t,jd ts])
theorem zox:∀{ts:List Tr},(∀t∈ts,val t=true)->val (jd ts)=true
 | [],_=>rfl
 | t::ts,h=>by
  have ih:=zox (ts:=ts) λx hx=>h x (by simp[hx]);rw[jd,dM];exact Bo (by simp[h t (by simp),ih])
end Tr
end M
namespace Law
open L2 M Tr
def QD(t:Tr)(st:ak)(h:val t=true):zky [enc t] st=.ok (enc (.jn tK t)) st:=by
 have h1:=yE t st;have h2:lE [.str [75],enc t] st=.ok (enc (.jn tK t)) st:=uL tK t st;have hu:=fB st.length (.jn tK t);rw[h]at h1;unfold zky bu bh zta;generalize enc (.jn tK t)=W at *;simp[startM,h1,h2,dY,hu,cD]
def zpf(ts:List Tr)(n:Nat)(st:ak)(h:st[n]? = some (.lst (ts.map enc)))(hv:∀t∈ts,val t=true):yD [.loc n] st=.ok (enc (hold ts)) st:=by
 unfold yD bu bh zlp;rw[<-ad9];generalize hB:(aK 1 (az lE [] _):MS)=B;obtain⟨cB,st',h1,a2,rfl,rfl⟩:=GP (g:=aW 2) (b:=B) (gs:=[(n,.lst (ts.map enc))]) (items:=ts.map enc)
  (λi env s=>∃(a2:Option D),env=[some (.loc n),some (enc (hold (ts.take i))),a2]/\s=st)
  (env:=[some (.loc n),some (enc tI),none]) (st:=st) ⟨none,rfl,rfl⟩ (by
   rintro i d env s hi ⟨a2,rfl,rfl⟩;obtain⟨t,ht,rfl⟩:=Hc hi;have e:=Zf (ts.take i) t;have e2:ts.take (i+1)=ts.take i++[t]:=by rw[kE,ht];rfl
   have j1:lE [.str [83],enc (hold (ts.take i))] s=.ok (enc (.jn tS (hold (ts.take i)))) s:=uL tS _ s;have j2:=uL (.jn tS (hold (ts.take i))) (.jn tK t) s;have k1:=QD t s (hv t (gW ht));refine⟨by simp[h],_,_,rfl,[some (.loc n),some (enc (hold (ts.take (i+1)))),some (enc t)],s,.inl ?_,_,rfl,rfl⟩;rw[<-hB,e2,e];generalize enc (.jn (.jn tS (hold (ts.take i))) (.jn tK t))=W at *;generalize enc (.jn tS (hold (ts.take i)))=W1 at *;generalize enc (.jn tK t)=W2 at *;simp[j1,j2,k1]) (λ_ _ zz=>by obtain⟨_,_,q⟩:=zz;subst q;simp[h])
 rw[gh,k_]at h1;have hu:=fB st'.length (hold ts);rw[show startM 3 [D.loc n]=[some (.loc n),none,none] from rfl];generalize enc tI=W at *;simp[h,h1,dY,hu]
def je(ts:List Tr)(ds:List D)(e:ds=ts.map enc)(st:ak)(hv:∀t∈ts,val t=true):yD [.loc st.length] (st++[.lst ds])=.ok (enc (hold ts)) (st++[.lst ds]):=by
 subst e;exact zpf ts st.length _ (by simp) hv
def zqy(a b c:Tr)(st:ak)(ha:val a=true)(hb:val b=true)(hc:val c=true):Y_ [enc a,enc b,enc c] st=.ok (enc (hold [a,b,c])) st:=by
 have h1:=je [a,b,c] [enc a,enc b,enc c] rfl st (by simp[ha,hb,hc]);have hu:=fB st.length (hold [a,b,c]);unfold Y_ bu bh zte;generalize enc (hold [a,b,c])=W at *;simp[startM,h1];exact o9 hu
def zo6(a b c d:Tr)(st:ak)(ha:val a=true)(hb:val b=true)(hc:val c=true)(hd:val d=true):zek [enc a,enc b,enc c,enc d] st=.ok (enc (hold [a,b,c,d])) st:=by
 have h1:=je [a,b,c,d] [enc a,enc b,enc c,enc d] rfl st (by simp[ha,hb,hc,hd]);have hu:=fB st.length (hold [a,b,c,d]);unfold zek bu bh zmc;generalize enc (hold [a,b,c,d])=W at *;simp[startM,h1];exact o9 hu
def zh8(a b:Tr)(st:ak)(ha:val a=true)(hb:val b=true):U0 [enc a,enc b] st=.ok (enc (.jn tK (hold [a,b]))) st:=by
 have h1:=je [a,b] [enc a,enc b] rfl st (by simp[ha,hb]);have h2:∀s,Nz [.int 1,enc (hold [a,b])] s=.ok (enc (.jn tK (hold [a,b]))) s:=λs=>zfn 1 (hold [a,b]) s (by decide);have hu:=fB st.length (.jn tK (hold [a,b]));unfold U0 bu bh zgr;generalize enc (.jn tK (hold [a,b]))=W at *;generalize enc (hold [a,b])=W1 at *;simp[startM,h1,h2];exact o9 hu
def BR{α:Type}{l:List α}{i:Nat}{x:α}(h:l.reverse[i]? = some x):i<l.length/\l.drop (l.length - (i+1))=x::l.drop (l.length - i):=by
 have hi:i<l.length:=by have:=(gf.mp h).1;simpa using this
 refine⟨hi,?_⟩;rw[nZ hi]at h;have hl:l.length - (i+1)<l.length:=by omega
 rw[n6 hl,show l.length - (i+1)+1=l.length - i by omega];have e:l.length - 1 - i=l.length - (i+1):=by omega
 rw[e,gK hl]at h;cases h;rfl
def zr5(ts:List Tr)(n:Nat)(st:ak)(h:st[n]? = some (.lst (ts.map enc)))(hv:∀t∈ts,val t=true):Zk [.loc n] st=.ok (enc (jd ts)) st:=by
 unfold Zk bu bh zjz;generalize hB:(aK 1 (az U0 [] _):MS)=B;have hS:(.str [75]:D)=enc tK:=rfl;obtain⟨cB,st',h1,a2,rfl,rfl⟩:=GP (g:=aW 2) (b:=B) (gs:=[(n,.lst (ts.map enc))]) (items:=(ts.map enc).reverse)
  (λi env s=>∃(a2:Option D),env=[some (.loc n),some (enc (jd (ts.drop (ts.length - i)))),a2]/\s=st)
  (env:=[some (.loc n),some (.str [75]),none]) (st:=st) ⟨none,by simp[jd,hS],rfl⟩ (by
   rintro i d env s hi ⟨a2,rfl,rfl⟩;rw[<-nT]at hi;obtain⟨t,ht,rfl⟩:=Hc hi;obtain⟨hl,e⟩:=BR ht;have hm:t∈ts:=by have:=gW ht;simpa using this
   have hd:∀x∈ts.drop (ts.length - i),val x=true:=λx hx=>hv x (ni hx);have k1:=zh8 t (jd (ts.drop (ts.length - i))) s (hv t hm) (zox hd);refine⟨by simp[h],_,_,rfl,[some (.loc n),some (enc (jd (ts.drop (ts.length - (i+1))))),some (enc t)],s,.inl ?_,_,rfl,rfl⟩;rw[<-hB,e,jd];generalize enc (.jn tK (hold [t,jd (ts.drop (ts.length - i))]))=W at *;generalize enc (jd (ts.drop (ts.length - i)))=W1 at *;simp[k1]) (λ_ _ zz=>by obtain⟨_,_,q⟩:=zz;subst q;simp[h])
 rw[pG,gh,Nat.sub_self,List.drop_zero]at h1;have hu:=fB st'.length (jd ts);have lg:sW st' n=some (ts.map enc,.lst (ts.map enc)):=by simp[sW,h]
 rw[show startM 3 [D.loc n]=[some (.loc n),none,none] from rfl];generalize ts.map enc=X at *;simp[lg,h1,dY,hu]
end Law
set_option maxHeartbeats 0
namespace M
namespace Tr
def sb(f:List Nat->Option Tr):Tr->Tr
 | .lf s=>(f s).getD (.lf s)
 | .jn l r=>.jn (sb f l) (sb f r)
structure Sub(f:List Nat->Option Tr):Prop where
 v:∀s t,f s=some t->val t=true
 S:f [83]=none
 K:f [75]=none
def yO{f:List Nat->Option Tr}{s:List Nat}(h:f s=none):sb f (.lf s)=.lf s:=by rw[sb,h];rfl
def Ou{f:List Nat->Option Tr}(h:Sub f):sb f tS=tS:=yO h.S
def Vs{f:List Nat->Option Tr}(h:Sub f):sb f tK=tK:=yO h.K
def acV{f:List Nat->Option Tr}(h:Sub f):sb f tI=tI:=by
 show Tr.jn (.jn (sb f tS) (sb f tK)) (sb f tK)=_;rw[Ou h,Vs h]
theorem yC{f:List Nat->Option Tr}(h:Sub f):∀{t:Tr},val t=true->val (sb f t)=true
 | .lf s,_=>by
  rw[sb];cases e:f s with
  | none=>rfl
  | some t=>exact h.v s t e
 | .jn l r,hv=>by
  obtain⟨v1,v2⟩:=S8 hv;have i2:=yC h v2;cases l with
  | lf s =>
   rw[U4,gB,ph]at hv;have hs:s=[83]\/s=[75]:=hv.2.imp (λe=>eq_of_beq e) (λe=>eq_of_beq e);rcases hs with rfl | rfl
   ·rw[sb,yO h.S,Hg];exact i2
   ·rw[sb,yO h.K,dM];exact i2
  | jn a b =>
   rw[UG,gB,gB]at hv;obtain⟨_,hj,_⟩:=hv;cases a with
   | jn c d=>simp[vG]at hj
   | lf s =>
    have hs:s=[83]:=by simpa[vG] using hj
    subst hs;have i1:=yC h v1;have e1:sb f (.jn (.lf [83]) b)=.jn tS (sb f b):=by rw[sb,yO h.S]
    rw[e1,Hg]at i1;rw[sb,e1,Dv,i2,i1];rfl
theorem zl4{f g:List Nat->Option Tr}{x:List Nat}(KR:∀s,s≠x->f s=g s):∀{t:Tr},stands x t=false->sb f t=sb g t
 | .lf s,h=>by
  have:s≠x:=by simpa[stands] using h
  rw[sb,sb,KR s this]
 | .jn l r,h=>by
  rw[stands,Bool.or_eq_false_iff]at h;rw[sb,sb,zl4 KR h.1,zl4 KR h.2]
theorem Ev.inv:∀{n:Nat} {l r v:Tr},Ev (.jn l r) n v->∃n1 n2 n3 a b,Ev l n1 a/\Ev r n2 b/\Ev (.jn a b) n3 v/\n=n1+n2+n3
 | 0,l,r,v,h=>by
  obtain⟨h1,h2⟩:=h;rw[ig]at h1;cases h1;obtain⟨v1,v2⟩:=S8 h2;exact⟨0,0,0,l,r,Ev.v v1,Ev.v v2,Ev.v h2,rfl⟩
 | n+1,l,r,v,h=>by
  cases vl:val l with
  | false =>
   obtain⟨h1,h2⟩:=h;have e:=zhm (r:=r) vl;cases sl:step l with
   | none=>rw[ig,e,sl]at h1;cases h1
   | some l' =>
    rw[sl]at e;rw[v9 (u:=.jn l' r) e]at h1;obtain⟨n1,n2,n3,a,b,q1,q2,q3,q4⟩:=Ev.inv (n:=n) ⟨h1,h2⟩;exact⟨n1+1,n2,n3,a,b,⟨by rw[v9 sl];exact q1.1,q1.2⟩,q2,q3,by omega⟩
  | true =>
   cases vr:val r with
   | false =>
    obtain⟨h1,h2⟩:=h;have e:=zf7 vl vr;cases sr:step r with
    | none=>rw[ig,e,sr]at h1;cases h1
    | some r' =>
     rw[sr]at e;rw[v9 (u:=.jn l r') e]at h1;obtain⟨n1,n2,n3,a,b,q1,q2,q3,q4⟩:=Ev.inv (n:=n) ⟨h1,h2⟩;have:n1=0/\l=a:=Ev.det (Ev.v vl) q1 |>.imp (λz=>z.symm) id;exact⟨n1,n2+1,n3,a,b,q1,⟨by rw[v9 sr];exact q2.1,q2.2⟩,q3,by omega⟩
   | true=>exact⟨0,0,n+1,l,r,Ev.v vl,Ev.v vr,h,by omega⟩
def Ev.Qp{u v w x:Tr}{n:Nat}(hv:val (.jn (.jn tS u) v)=true)(hw:val w=true)(h:Ev (.jn (.jn (.jn tS u) v) w) n x):∃k,n=k+1/\Ev (.jn (.jn u w) (.jn v w)) k x:=by
 have e:step (.jn (.jn (.jn tS u) v) w)=some (.jn (.jn u w) (.jn v w)):=by rw[zfv hv hw (zlm u v w)];rfl
 cases n with
 | zero =>
  obtain⟨h1,h2⟩:=h;rw[ig]at h1;cases h1;rw[zlm]at h2;cases h2
 | succ n =>
  obtain⟨h1,h2⟩:=h;rw[v9 e]at h1;exact⟨n,rfl,h1,h2⟩
def sim{f g:List Nat->Option Tr}{x:List Nat}{V:Tr}(hg:Sub g)(hf:Sub f)(hx:f x=some V)(KR:∀s,s≠x->f s=g s)(hV:val V=true):∀(t:Tr) (n:Nat) (v:Tr),
  Ev (.jn (sb g (out x t).1) V) n v ↔ ∃k,n=k+(out x t).2/\Ev (sb f t) k v:=by
 have hVe:Ev V 0 V:=Ev.v hV;have cst:∀(t:Tr),(val t && !stands x t)=true->∀n v,Ev (.jn (sb g (.jn tK t)) V) n v ↔ ∃k,n=k+1/\Ev (sb f t) k v:=by
  intro t ht n v;simp only[gB,nH]at ht;have e1:sb f t=sb g t:=zl4 KR ht.2;have v1:=yC hg ht.1;have e2:sb g (.jn tK t)=.jn tK (sb g t):=by rw[sb,Vs hg]
  have base:Ev (.jn (sb g (.jn tK t)) V) 1 (sb g t):=by
   rw[e2];exact ((Ev.v (v:=.jn tK (sb g t)) (by rw[dM];exact v1)).K hVe).to (by omega)
  rw[e1];constructor
  ·intro h;obtain⟨q1,q2⟩:=base.det h;subst q1 q2;exact⟨0,rfl,Ev.v v1⟩
  ·rintro ⟨k,rfl,h⟩;obtain⟨q1,q2⟩:=(Ev.v v1).det h;subst q1 q2;exact base
 intro t
 induction t with
 | lf s =>
  intro n v;by_cases h0:iY x (.lf s)=true
  ·rw[znd x h0];rw[zk4]at h0;cases h0;have e1:sb f (.lf x)=V:=by rw[sb,hx];rfl
   rw[e1,show sb g (tI,2).1=tI from acV hg];have base:Ev (.jn tI V) 2 V:=Ev.I hVe;constructor
   ·intro h;obtain⟨q1,q2⟩:=base.det h;subst q1 q2;exact⟨0,rfl,hVe⟩
   ·rintro ⟨k,rfl,h⟩;obtain⟨q1,q2⟩:=hVe.det h;subst q1 q2;exact base
  ·have hs:stands x (.lf s)=false:=(show iY x (.lf s)=false by simpa using h0);have hc:(val (.lf s) && !stands x (.lf s))=true:=by rw[hs];rfl
   rw[Ze x hc];exact cst _ hc n v
 | jn l r Ra Q_ =>
  intro n v;by_cases h1:(val (.jn l r) && !stands x (.jn l r))=true
  ·rw[Ze x h1];exact cst _ h1 n v
  ·by_cases h2:((val l && !stands x l) && iY x r)=true
   ·simp only[gB,nH]at h2;rw[zhq x (by simp only[gB,nH];exact h2.1) h2.2];obtain⟨⟨_,hs⟩,hr⟩:=h2;rw[zk4]at hr;subst hr;have e1:sb f (.jn l (.lf x))=.jn (sb g l) V:=by rw[sb,zl4 KR hs,show sb f (.lf x)=V by rw[sb,hx];rfl]
    rw[e1];exact⟨λh=>⟨n,rfl,h⟩,λzz=>by obtain⟨k,e,h⟩:=zz;subst e;exact h⟩
   ·rw[zk5 x (by simpa using h1) (by simpa using h2)];have e1:sb g (.jn (.jn tS (out x l).1) (out x r).1)=.jn (.jn tS (sb g (out x l).1)) (sb g (out x r).1):=by rw[sb,sb,Ou hg]
    have vA:=yC hg (zR x l);have vB:=yC hg (zR x r);have vS:val (.jn (.jn tS (sb g (out x l).1)) (sb g (out x r).1))=true:=by rw[Dv,vA,vB];rfl
    rw[show (Tr.jn (.jn tS (out x l).1) (out x r).1,1+(out x l).2+(out x r).2).1=Tr.jn (.jn tS (out x l).1) (out x r).1 from rfl,e1];show _ ↔ ∃k,n=k+(1+(out x l).2+(out x r).2)/\Ev (.jn (sb f l) (sb f r)) k v;constructor
    ·intro h;obtain⟨k,rfl,h'⟩:=Ev.Qp vS hV h;obtain⟨n1,n2,n3,a,b,q1,q2,q3,rfl⟩:=h'.inv;obtain⟨k1,rfl,p1⟩:=(Ra n1 a).mp q1;obtain⟨k2,rfl,p2⟩:=(Q_ n2 b).mp q2;exact⟨k1+k2+n3,by omega,p1.comp p2 q3⟩
    ·rintro ⟨k,rfl,h⟩;obtain⟨n1,n2,n3,a,b,q1,q2,q3,rfl⟩:=h.inv;have p1:=(Ra (n1+(out x l).2) a).mpr ⟨n1,rfl,q1⟩;have p2:=(Q_ (n2+(out x r).2) b).mpr ⟨n2,rfl,q2⟩;exact ((Ev.v vS).S hVe (p1.comp p2 q3)).to (by omega)
end Tr
end M
namespace M
open Tr
def aV(σ:List (List Nat×Tr)):List (L2.Key×D):=σ.map λp=>(.inr (strOf p.1),enc p.2)
def look(σ:List (List Nat×Tr))(s:List Nat):Option Tr:=(σ.find? λp=>decide (p.1=s)).map (·.2)
def SN{a b:List Nat}:(strOf a=strOf b)↔a=b:=by
 constructor
 ·intro h;injection h with h;simpa using congrArg Array.toList h
 ·intro h;rw[h]
def Nx(p:List Nat×Tr)(r:List (List Nat×Tr))(s:List Nat):look (p::r) s=if p.1=s then some p.2 else look r s:=by
 unfold look;rw[m9];by_cases h:p.1=s<;>simp[h]
theorem zj2(s:List Nat):∀σ:List (List Nat×Tr),valN (aV σ) (.inr (strOf s))=(look σ s).map enc
 | []=>rfl
 | p::r=>by
  rw[show aV (p::r)=(.inr (strOf p.1),enc p.2)::aV r from rfl,M4,Nx,zj2 s r];by_cases h:p.1=s
  ·rw[ae1 (by rw[h]),ae1 h];rfl
  ·rw[ae2 (λz=>h (SN.mp (afl z))),ae2 h]
def yX(s:List Nat):keyOf (.str s)=some (.inr (strOf s)):=rfl
end M
namespace Law
open L2 M Tr
def Ro(σ:List (List Nat×Tr))(n:Nat)(s:List Nat)(st:ak)(h:st[n]? = some (.dkc (aV σ))):zj (.loc n) [.str s,.str s] st=.ok (enc (sb (look σ) (.lf s))) st:=by
 unfold zj;simp only[h,yX,zj2];rw[sb];cases look σ s<;>rfl
def zhn(σ:List (List Nat×Tr))(t:Tr)(n:Nat)(st:ak)(h:st[n]? = some (.dkc (aV σ)))(ht:st[2]? = some (.tab "put_in"))(hc:bG st)(hl:lv t<=400000):GQ [enc t,.loc n] st=.ok (enc (sb (look σ) t)) st:=by
 let os:ak:=[.clo 0 (iy 0) [.loc n],.clo 1 (iy 1) []]
 have f1:z9 [enc t,.loc st.length,.loc (st.length+1)] (st++os)=.ok (enc (sb (look σ) t)) (st++os):=by
  refine zkt (λu=>enc (sb (look σ) u)) (λ_=>True) st.length (st.length+1) 0 1 [.loc n] [] t _ (by simp[os]) (by simp[os]) hl (λu n=>fB n _) trivial (λ_ _ _=>⟨trivial,trivial⟩) ?_ ?_
  ·intro s g _;have hh:(bL (st++os++g))[n]? = some (.dkc (aV σ)):=zsh (cZ (cZ h)) rfl;have hg:=Ro σ n s _ hh;have it:cM "dict" (.loc n) (bL (st++os++g))=true:=by unfold cM;simp only[hh];rfl
   generalize bL (st++os++g)=Z at *;rw[show enc (.lf s)=.str s from rfl];generalize enc (sb (look σ) (.lf s))=W at *;simp[GL,oO,e_0,it,hg]
  ·intro l r g _;have j1:=uL (sb (look σ) l) (sb (look σ) r) (bL (st++os++g));rw[show sb (look σ) (.jn l r)=.jn (sb (look σ) l) (sb (look σ) r) from rfl];generalize bL (st++os++g)=Z at *;generalize enc (.jn (sb (look σ) l) (sb (look σ) r))=W at *;generalize enc (.jn l r)=J at *;generalize enc (sb (look σ) l)=L at *;generalize enc (sb (look σ) r)=R' at *;simp[GL,oO,e_1,j1]
 have hu:=fB st.length (sb (look σ) t);have c1:=zm9 (Λ:=iy) (F:=z9) (dd:=[]) (m:=iK (vr 0) (fY 0 [1] 2 "put_in" (fY 1 [] 2 "put_in" qU))) (env:=[some (enc t),some (.loc n)]) (st:=st) (st1:=st) (st2:=st) (as:=[.v (enc t),.l 0 [1],.l 1 []]) (ds:=[enc t,.loc st.length,.loc (st.length+1)]) (os:=os) (d:=enc (sb (look σ) t))
  (by simp[iK,fY,qU,ht]) hc (by simp[jl,yq,os]) (by rw[gY,f1];exact o9 hu) hc
 unfold GQ bu bh zer;rw[show startM 2 [enc t,D.loc n]=[some (enc t),some (.loc n)] from rfl];generalize iM iy z9 [] (iK (vr 0) (fY 0 [1] 2 "put_in" (fY 1 [] 2 "put_in" qU)))=CL at c1 ⊢;generalize enc (sb (look σ) t)=W at *;generalize enc t=X at *;simp[c1];exact dY hu
end Law
namespace M
namespace Tr
def bQ(t:Tr):List (List Nat)->Tr
 | []=>t
 | x::xs=>(out x (bQ t xs)).1
def cX(t:Tr):List (List Nat)->List Nat
 | []=>[]
 | x::xs=>(out x (bQ t xs)).2::cX t xs
theorem zpe(t:Tr):∀xs:List (List Nat),(cX t xs).length=xs.length
 | []=>rfl
 | x::xs=>by rw[cX,gw,zpe t xs,gw]
structure Puts(xs:List (List Nat))(vs:List Tr):Prop where
 len:vs.length=xs.length
 nd:xs.Nodup
 v:∀v∈vs,val v=true
 S:[83]∉xs
 K:[75]∉xs
def zps{σ:List (List Nat×Tr)}{s:List Nat}(h:∀p∈σ,p.1≠s):look σ s=none:=by
 induction σ with
 | nil=>rfl
 | cons p r ih=>rw[Nx,ae2 (h p (by simp)),ih λq hq=>h q (by simp[hq])]
def zki{σ:List (List Nat×Tr)}{s:List Nat}{v:Tr}(h:look σ s=some v):(s,v)∈σ:=by
 induction σ with
 | nil=>cases h
 | cons p r ih =>
  rw[Nx]at h
  split at h
  ·rename_i e;cases h;obtain⟨a,b⟩:=p;cases e;simp
  ·exact kI _ (ih h)
def zpg(σ:List (List Nat×Tr))(x s:List Nat)(v:Tr)(h:∀p∈σ,p.1≠x):look (σ++[(x,v)]) s=if x=s then some v else look σ s:=by
 induction σ with
 | nil=>rw[mD,Nx]
 | cons p r ih =>
  rw[nO,Nx,Nx,ih λq hq=>h q (by simp[hq])];by_cases e:p.1=s
  ·rw[ae1 e,ae1 e,ae2 (λz=>h p (by simp) (e.trans z.symm))]
  ·rw[ae2 e,ae2 e]
section
variable  {xs:List (List Nat)}{vs:List Tr}
def Puts.sub(h:Puts xs vs)(j:Nat):Sub (look ((xs.zip vs).take j)):=by
 have mem:∀s v,look ((xs.zip vs).take j) s=some v->s∈xs/\v∈vs:=λs v e=>by
  have:=m_ (zki e);exact⟨(nj this).1,(nj this).2⟩
 refine⟨λs v e=>h.v v (mem s v e).2,?_,?_⟩
 ·cases e:look ((xs.zip vs).take j) [83] with
  | none=>rfl
  | some v=>exact absurd (mem _ _ e).1 h.S
 ·cases e:look ((xs.zip vs).take j) [75] with
  | none=>rfl
  | some v=>exact absurd (mem _ _ e).1 h.K
def Puts.next(h:Puts xs vs){j:Nat}{x:List Nat}{v:Tr}(hx:xs[j]? = some x)(hv:vs[j]? = some v):(xs.zip vs).take (j+1)=(xs.zip vs).take j++[(x,v)]/\∀p∈(xs.zip vs).take j,p.1≠x:=by
 have hz:(xs.zip vs)[j]? = some (x,v):=by rw[pN];exact⟨hx,hv⟩
 refine⟨by rw[kE,hz];rfl,λp hp e=>?_⟩;obtain⟨i,hi,q⟩:=mZ.mp hp;rw[km]at hi;have q2:(xs.zip vs)[i]? = some p:=by rw[pq]at q;rw[<-q];exact gK (by omega)
 obtain⟨a,b⟩:=p;rw[pN]at q2;have XR:xs[i]? = xs[j]?:=by rw[q2.1,hx];exact congrArg some e
 have G6:=(gf.mp q2.1).1;have:=(nF G6 h.nd).mp XR;omega
def zs9{t:Tr}{j:Nat}{x:List Nat}(hx:xs[j]? = some x):bQ t (xs.drop j)=(out x (bQ t (xs.drop (j+1)))).1:=by
 have hl:=(gf.mp hx).1;rw[n6 hl];rw[gK hl]at hx;cases hx;rfl
def Puts.sim(h:Puts xs vs)(t:Tr){j:Nat}{x:List Nat}{V:Tr}(hx:xs[j]? = some x)(hV:vs[j]? = some V)(n:Nat)(v:Tr) :
  Ev (.jn (sb (look ((xs.zip vs).take j)) (bQ t (xs.drop j))) V) n v ↔ ∃k,n=k+(out x (bQ t (xs.drop (j+1)))).2/\Ev (sb (look ((xs.zip vs).take (j+1))) (bQ t (xs.drop (j+1)))) k v:=by
 obtain⟨e1,e2⟩:=h.next hx hV;rw[zs9 hx];refine Tr.sim (h.sub j) (h.sub (j+1)) ?_ (λs hs=>?_) (h.v V (gW hV)) _ n v
 ·rw[e1,zpg _ _ _ _ e2,ae1 rfl]
 ·rw[e1,zpg _ _ _ _ e2,ae2 (λz=>hs z.symm)]
theorem zsb(t:Tr):∀(xs:List (List Nat)) (j:Nat) (x:List Nat),xs[j]? = some x->(cX t xs)[j]? = some (out x (bQ t (xs.drop (j+1)))).2
 | [],j,x,h=>by simp at h
 | y::ys,0,x,h=>by simp at h;subst h;simp[cX]
 | y::ys,j+1,x,h=>by
  have:=zsb t ys j x (by simpa using h);simpa[cX] using this
theorem Puts.few(h:Puts xs vs)(t:Tr):∀j,j<xs.length->Ev (apps (bQ t xs) (vs.take j)) ((cX t xs).take j).sum (sb (look ((xs.zip vs).take j)) (bQ t (xs.drop j)))
 | 0,hj=>by
  rw[List.take_zero,List.take_zero,List.take_zero,List.drop_zero];have e:sb (look []) (bQ t xs)=bQ t xs:=by
   have:∀u,sb (look []) u=u:=by
    intro u
    induction u with
    | lf s=>rfl
    | jn l r h1 h2=>rw[sb,h1,h2]
   exact this _
  rw[e];obtain⟨x,ys,rfl⟩:∃x ys,xs=x::ys:=by
   cases xs with
   | nil=>simp at hj
   | cons x ys=>exact⟨x,ys,rfl⟩
  exact Ev.v (zR x _)
 | j+1,hj=>by
  have ih:=Puts.few h t j (by omega);obtain⟨x,hx⟩:∃x,xs[j]? = some x:=⟨_,gK (by omega)⟩;obtain⟨V,hV⟩:∃V,vs[j]? = some V:=⟨_,gK (by rw[h.len];omega)⟩;obtain⟨y,hy⟩:∃y,xs[j+1]? = some y:=⟨_,gK hj⟩;have vW:val (sb (look ((xs.zip vs).take (j+1))) (bQ t (xs.drop (j+1))))=true:=by
   refine yC (h.sub (j+1)) ?_;rw[zs9 hy];exact zR y _
  have e:=(h.sim t hx hV _ _).mpr ⟨0,rfl,Ev.v vW⟩;have et:vs.take (j+1)=vs.take j++[V]:=by rw[kE,hV];rfl
  have ec:((cX t xs).take (j+1)).sum=((cX t xs).take j).sum+(out x (bQ t (xs.drop (j+1)))).2:=by
   rw[kE,zsb t xs j x hx];simp
  rw[et,zhi,ec];exact (ih.comp (Ev.v (h.v V (gW hV))) e).to (by omega)
def Puts.all(h:Puts xs vs)(hn:0<xs.length)(t:Tr)(n:Nat)(v:Tr):Ev (apps (bQ t xs) vs) n v ↔ ∃k,n=k+(cX t xs).sum/\Ev (sb (look (xs.zip vs)) t) k v:=by
 obtain⟨x,hx⟩:∃x,xs[xs.length - 1]? = some x:=⟨_,gK (by omega)⟩;obtain⟨V,hV⟩:∃V,vs[xs.length - 1]? = some V:=⟨_,gK (by rw[h.len];omega)⟩;have f:=h.few t (xs.length - 1) (by omega);have s:=h.sim t hx hV;have vV:=h.v V (gW hV);have e1:xs.length - 1+1=xs.length:=by omega
 have ed:bQ t (xs.drop (xs.length - 1+1))=t:=by rw[e1,List.drop_length];rfl
 have ez:(xs.zip vs).take (xs.length - 1+1)=xs.zip vs:=by rw[e1];exact pL (by rw[List.length_zip];omega)
 have ev:vs=vs.take (xs.length - 1)++[V]:=by
  have:vs.take (xs.length - 1+1)=vs.take (xs.length - 1)++[V]:=by rw[kE,hV];rfl
  rw[<-this,e1,<-h.len,k_]
 have ec:(cX t xs).sum=((cX t xs).take (xs.length - 1)).sum+(out x t).2:=by
  have h1:=zsb t xs _ x hx;rw[ed]at h1;have h2:(cX t xs).take (xs.length - 1+1)=(cX t xs).take (xs.length - 1)++[(out x t).2]:=by rw[kE,h1];rfl
  rw[e1,<-zpe t xs,k_]at h2;rw[<-zpe t xs]
  calc (cX t xs).sum=((cX t xs).take ((cX t xs).length - 1)++[(out x t).2]).sum:=by rw[<-h2]
   _=_:=by simp
 rw[ed,ez]at s;have ea:apps (bQ t xs) vs=.jn (apps (bQ t xs) (vs.take (xs.length - 1))) V:=by
  conv=>lhs;rw[ev]
  rw[zhi]
 rw[ea,ec];constructor
 ·intro q;obtain⟨n1,n2,n3,a,b,q1,q2,q3,rfl⟩:=q.inv;obtain⟨d1,d2⟩:=f.det q1;obtain⟨d3,d4⟩:=(Ev.v vV).det q2;subst d1 d2 d3 d4;obtain⟨k,rfl,hk⟩:=(s n3 v).mp q3;exact⟨k,by omega,hk⟩
 ·rintro ⟨k,rfl,hk⟩;exact (f.comp (Ev.v vV) ((s _ v).mpr ⟨k,rfl,hk⟩)).to (by omega)
end
end Tr
end M
set_option maxHeartbeats 0
namespace M
namespace Tr
def Rdy:Tr->Prop
 | .lf _=>True
 | .jn a b=>val a=true/\val b=true
theorem Rdy.Wn:∀{t:Tr},val t=true->Rdy t
 | .lf _,_=>trivial
 | .jn _ _,h=>S8 h
def jA(t:Tr)(n:Nat)(u:Tr):Prop:=ig n t=some u/\Rdy u
def Ev.r{t v:Tr}{n:Nat}(h:Ev t n v):jA t n v:=⟨h.1,.Wn h.2⟩
def jA.to{t v:Tr}{n m:Nat}(h:jA t n v)(e:n=m):jA t m v:=e ▸ h
def jA.then{t u v:Tr}{n m:Nat}(h:ig n t=some u)(k:jA u m v):jA t (n+m) v:=⟨by rw[Sw h];exact k.1,k.2⟩
theorem jA.inv:∀{n:Nat} {l r u:Tr},jA (.jn l r) n u->∃n1 n2 n3 a b,Ev l n1 a/\Ev r n2 b/\jA (.jn a b) n3 u/\n=n1+n2+n3
 | 0,l,r,u,h=>by
  obtain⟨h1,h2⟩:=h;rw[ig]at h1;cases h1;exact⟨0,0,0,l,r,Ev.v h2.1,Ev.v h2.2,⟨rfl,h2⟩,rfl⟩
 | n+1,l,r,u,h=>by
  cases vl:val l with
  | false =>
   obtain⟨h1,h2⟩:=h;have e:=zhm (r:=r) vl;cases sl:step l with
   | none=>rw[ig,e,sl]at h1;cases h1
   | some l' =>
    rw[sl]at e;rw[v9 (u:=.jn l' r) e]at h1;obtain⟨n1,n2,n3,a,b,q1,q2,q3,q4⟩:=jA.inv (n:=n) ⟨h1,h2⟩;exact⟨n1+1,n2,n3,a,b,⟨by rw[v9 sl];exact q1.1,q1.2⟩,q2,q3,by omega⟩
  | true =>
   cases vr:val r with
   | false =>
    obtain⟨h1,h2⟩:=h;have e:=zf7 vl vr;cases sr:step r with
    | none=>rw[ig,e,sr]at h1;cases h1
    | some r' =>
     rw[sr]at e;rw[v9 (u:=.jn l r') e]at h1;obtain⟨n1,n2,n3,a,b,q1,q2,q3,q4⟩:=jA.inv (n:=n) ⟨h1,h2⟩;have:n1=0/\l=a:=Ev.det (Ev.v vl) q1 |>.imp (λz=>z.symm) id;exact⟨n1,n2+1,n3,a,b,q1,⟨by rw[v9 sr];exact q2.1,q2.2⟩,q3,by omega⟩
   | true=>exact⟨0,0,n+1,l,r,Ev.v vl,Ev.v vr,h,by omega⟩
def jA.comp{l r a b u:Tr}{n m k:Nat}(h:Ev l n a)(h2:Ev r m b)(h3:jA (.jn a b) k u):jA (.jn l r) (n+m+k) u:=.then (h.both h2) h3
def acU{f g:List Nat->Option Tr}{x:List Nat}{V:Tr}(hg:Sub g)(hf:Sub f)(hx:f x=some V)(KR:∀s,s≠x->f s=g s)(hV:val V=true)(t:Tr){k:Nat}{u:Tr}(h:jA (sb f t) k u) :
  jA (.jn (sb g (out x t).1) V) (k+(out x t).2) u:=by
 by_cases hv:val u=true
 ·exact ((sim hg hf hx KR hV t _ _).mpr ⟨k,rfl,h.1,hv⟩).r
 have key:∀t',Ev (sb f t') k u->False:=λt' e=>hv e.2;cases t with
 | lf s =>
  exfalso;have:val (sb f (.lf s))=true:=yC hf rfl;obtain⟨h1,_⟩:=h;cases k with
  | zero=>rw[ig]at h1;cases h1;exact hv this
  | succ k=>rw[ig,Uy this]at h1;cases h1
 | jn l r =>
  have hVe:Ev V 0 V:=Ev.v hV;by_cases h1:(val (.jn l r) && !stands x (.jn l r))=true
  ·exfalso;simp only[gB]at h1;have:val (sb f (.jn l r))=true:=yC hf h1.1;obtain⟨h2,_⟩:=h;cases k with
   | zero=>rw[ig]at h2;cases h2;exact hv this
   | succ k=>rw[ig,Uy this]at h2;cases h2
  ·by_cases h2:((val l && !stands x l) && iY x r)=true
   ·simp only[gB,nH]at h2;rw[zhq x (by simp only[gB,nH];exact h2.1) h2.2];obtain⟨⟨_,hs⟩,hr⟩:=h2;rw[zk4]at hr;subst hr;have e1:sb f (.jn l (.lf x))=.jn (sb g l) V:=by rw[sb,zl4 KR hs,show sb f (.lf x)=V by rw[sb,hx];rfl]
    rw[e1]at h;exact h
   ·rw[zk5 x (by simpa using h1) (by simpa using h2)];have e1:sb g (.jn (.jn tS (out x l).1) (out x r).1)=.jn (.jn tS (sb g (out x l).1)) (sb g (out x r).1):=by rw[sb,sb,Ou hg]
    have vS:val (.jn (.jn tS (sb g (out x l).1)) (sb g (out x r).1))=true:=by rw[Dv,yC hg (zR x l),yC hg (zR x r)];rfl
    show jA (.jn (sb g (.jn (.jn tS (out x l).1) (out x r).1)) V) (k+(1+(out x l).2+(out x r).2)) u;rw[e1];obtain⟨n1,n2,n3,a,b,q1,q2,q3,rfl⟩:=jA.inv h;have p1:=(sim hg hf hx KR hV l (n1+(out x l).2) a).mpr ⟨n1,rfl,q1⟩;have p2:=(sim hg hf hx KR hV r (n2+(out x r).2) b).mpr ⟨n2,rfl,q2⟩;have st1:ig 1 (.jn (.jn (.jn tS (sb g (out x l).1)) (sb g (out x r).1)) V)=some (.jn (.jn (sb g (out x l).1) V) (.jn (sb g (out x r).1) V)):=by
     rw[v9 (u:=.jn (.jn (sb g (out x l).1) V) (.jn (sb g (out x r).1) V)) (by rw[zfv vS hV (zlm _ _ _)];rfl)];rfl
    exact (jA.then st1 (jA.comp p1 p2 q3)).to (by omega)
def lq(ρ:List Nat->Option Tr)(x:List Nat)(v:Tr):List Nat->Option Tr:=λs=>if s=x then some v else ρ s
def uT(ρ:List Nat->Option Tr):List (List Nat)->List Tr->List Nat->Option Tr
 | x::xs,v::vs=>uT (lq ρ x v) xs vs
 | _,_=>ρ
def j8(x:List Nat):Prop:=x≠[83]/\x≠[75]
def Sub.upd{ρ:List Nat->Option Tr}(h:Sub ρ){x:List Nat}{v:Tr}(hx:j8 x)(hv:val v=true):Sub (lq ρ x v):=by
 refine⟨λs t e=>?_,?_,?_⟩
 ·unfold lq at e
  split at e
  ·cases e;exact hv
  ·exact h.v s t e
 ·unfold lq;rw[ae2 (afb hx.1)];exact h.S
 ·unfold lq;rw[ae2 (afb hx.2)];exact h.K
def ztx{n:Nat}{p w:Tr}(h:ig n p=some w):∀vs:List Tr,ig n (apps p vs)=some (apps w vs):=by
 intro vs
 induction vs generalizing p w with
 | nil=>exact h
 | cons v vs ih=>exact ih (zmy h)
def Hx{ρ:List Nat->Option Tr}(h:Sub ρ){x:List Nat}{V:Tr}(hx:j8 x)(hV:val V=true)(t:Tr){k:Nat}{u:Tr}(e:jA (sb (lq ρ x V) t) k u):jA (.jn (sb ρ (out x t).1) V) (k+(out x t).2) u :=
 acU h (h.upd hx hV) (by unfold lq;rw[ae1 rfl]) (λs hs=>by unfold lq;rw[ae2 hs]) hV t e
def xU{ρ:List Nat->Option Tr}(h:Sub ρ){x y:List Nat}{V:Tr}(hx:j8 x)(hV:val V=true)(t:Tr)(ys:List (List Nat)) :
  Ev (.jn (sb ρ (bQ t (x::y::ys))) V) (out x (bQ t (y::ys))).2 (sb (lq ρ x V) (bQ t (y::ys))):=by
 have vW:val (sb (lq ρ x V) (bQ t (y::ys)))=true:=yC (h.upd hx hV) (zR y _);have:=Hx h hx hV (bQ t (y::ys)) (Ev.v vW).r;rw[nG]at this;exact⟨this.1,vW⟩
theorem hands(t:Tr):∀(xs:List (List Nat)) (vs:List Tr) (ρ:List Nat->Option Tr),Sub ρ->(∀x∈xs,j8 x)->(∀v∈vs,val v=true)->vs.length=xs.length->xs≠[]->∀{k:Nat} {u:Tr},jA (sb (uT ρ xs vs) t) k u ->
  jA (apps (sb ρ (bQ t xs)) vs) (k+(cX t xs).sum) u
 | [],_,_,_,_,_,_,h,_,_,_=>absurd rfl h
 | [x],[v],ρ,h,hx,hv,_,_,k,u,e=>by
  have:=Hx h (hx x (by simp)) (hv v (by simp)) t e;exact this.to (by simp[cX,bQ])
 | x::y::ys,v::vs,ρ,h,hx,hv,hl,_,k,u,e=>by
  have o:=xU h (hx x (by simp)) (hv v (by simp)) t ys (y:=y);have ih:=hands t (y::ys) vs (lq ρ x v) (h.upd (hx x (by simp)) (hv v (by simp))) (λz hz=>hx z (by simp[hz])) (λz hz=>hv z (by simp[hz])) (by simpa using hl) (by simp) e;exact (jA.then (ztx (p:=.jn (sb ρ (bQ t (x::y::ys))) v) o.1 vs) ih).to (by rw[show cX t (x::y::ys)=(out x (bQ t (y::ys))).2::cX t (y::ys) from rfl,p6];omega)
 | [_],[],_,_,_,_,hl,_,_,_,_=>by simp at hl
 | [_],_::_::_,_,_,_,_,hl,_,_,_,_=>by simp at hl
 | _::_::_,[],_,_,_,_,hl,_,_,_,_=>by simp at hl
def ztb{p w:Tr}{ts:List Tr}{t:Tr}{n:Nat}(hp:val p=true)(h:cI p ts n w)(ht:val t=true):ig (n+2+2*(ts.length+1)) (.jn (hold (ts++[t])) p)=some (.jn w t):=by
 obtain⟨v1,e1⟩:=YT hp h;have hv:val (hold (ts++[t]))=true:=by rw[Zf,Dv,dM,ht,v1];rfl
 have k1:Ev (.jn (.jn tK t) p) 1 t:=((Ev.v (v:=.jn tK t) (by rw[dM];exact ht)).K (Ev.v hp)).to (by omega);rw[Zf]at hv ⊢;have st1:ig 1 (.jn (.jn (.jn tS (hold ts)) (.jn tK t)) p)=some (.jn (.jn (hold ts) p) (.jn (.jn tK t) p)):=by
  rw[v9 (u:=.jn (.jn (hold ts) p) (.jn (.jn tK t) p)) (by rw[zfv hv hp (zlm _ _ _)];rfl)];rfl
 rw[show n+2+2*(ts.length+1)=1+(n+2+2*ts.length+1) by omega,Sw st1];exact e1.both k1
end Tr
end M
namespace M
namespace Tr
abbrev dW:List (List Nat):=[[108],[115],[114],[102]]
abbrev cU:List (List Nat):=[[110],[102],[108],[114]]
abbrev j_:List (List Nat):=[[121],[120]]
abbrev tV:List (List Nat):=[[97],[116],[121],[120]]
abbrev tG:List (List Nat):=[[102],[118]]
def dn(c:Nat):List Nat:=if c=95 then [100] else [100,c]
def cL(ls:List Nat):Tr:=apps (.lf [115]) ((ls.map λc=>.lf (dn c))++cU.map .lf)
def fJ:Tr:=hold [.lf [110],.lf [108],.lf [119],.lf [114]]
def cW(m:Bool):Tr:=apps (.lf (if m then [108] else [114])) [.lf [98,97,114,101],.lf [102,117,108,108],.jn (.jn (.lf [103]) (.lf [102])) (.lf [102]),.lf (if m then [114] else [108])]
def dX:Tr:=.jn tK (hold [.lf [119],.lf [120]])
def bD(m:Bool):Tr:=.jn (.lf [121]) (if m then hold [.lf [116],.lf [97],dX] else hold [dX,.lf [97],.lf [116]])
def dH:Tr:=apps (.lf [118]) [.lf [101],.lf [102]]
def Mv(p:Tr)(a b:List Tr):apps p (a++b)=apps (apps p a) b:=by simp[apps]
def Ot(f:List Nat->Option Tr)(p:Tr)(ts:List Tr):sb f (apps p ts)=apps (sb f p) (ts.map (sb f)):=by
 induction ts generalizing p with
 | nil=>rfl
 | cons t ts ih=>exact ih (.jn p t)
theorem HB{f:List Nat->Option Tr}(h:Sub f):∀{t:Tr},sk t->sb f t=t
 | .lf s,hs=>by
  rcases (show s=[83]\/s=[75] from hs) with rfl | rfl
  ·exact Ou h
  ·exact Vs h
 | .jn l r,hs=>by rw[sb,HB h hs.1,HB h hs.2]
def rJ(f g:List Nat->Option Tr):List Nat->Option Tr:=λs=>match f s with | some v=>some v | none=>g s
theorem HF{f g:List Nat->Option Tr}(hg:Sub g)(hf:∀s v,f s=some v->sk v):∀t:Tr,sb g (sb f t)=sb (rJ f g) t
 | .lf s=>by
  unfold rJ;rw[sb,sb];cases e:f s with
  | none=>rfl
  | some v=>exact HB hg (hf s v e)
 | .jn l r=>by rw[sb,sb,sb,HF hg hf l,HF hg hf r]
def Sub.rJ{f g:List Nat->Option Tr}(hf:Sub f)(hg:Sub g):Sub (Tr.rJ f g):=by
 refine⟨λs t e=>?_,?_,?_⟩
 ·unfold Tr.rJ at e;cases q:f s with
  | none=>rw[q]at e;exact hg.v s t e
  | some v=>rw[q]at e;cases e;exact hf.v s _ q
 ·unfold Tr.rJ;rw[hf.S];exact hg.S
 ·unfold Tr.rJ;rw[hf.K];exact hg.K
def Hd{σ:List (List Nat×Tr)}(h:∀p∈σ,j8 p.1/\val p.2=true):Sub (look σ):=by
 refine⟨λs t e=>(h _ (zki e)).2,?_,?_⟩
 ·exact zps λp hp=>(h p hp).1.1
 ·exact zps λp hp=>(h p hp).1.2
def wI(ls:List Nat)(num:Tr)(eU:Nat->Tr):Tr:=sb (look (([110],num)::ls.map λc=>(dn c,eU c))) (bQ (cL ls) dW)
def jJ(w:Tr):Tr:=sb (look [([119],w)]) (bQ fJ cU)
def iQ(m:Bool)(bl w:Tr):Tr:=sb (look [([119],w)]) (sb (look [([97],bl),([116],tK)]) (bQ (bD m) j_))
def lV(m:Bool)(w:Tr):Tr:=sb (look [([119],w)]) (bQ (bD m) tV)
def pX(m:Bool)(bl w way:Tr):Tr:=sb (look [([98,97,114,101],iQ m bl w),([102,117,108,108],lV m w),([103],way)]) (bQ (cW m) cU)
def lA(row:Tr):Tr:=sb (look [([101],row)]) (bQ dH tG)
def cV:Nat->List Tr->Tr
 | 0,_=>tK
 | n+1,es=>if es.length=1 then es.headD tK else hold [cV n (es.take (es.length / 2)),cV n (es.drop (es.length / 2))]
def bB:Nat->Nat->Nat->List Nat
 | 0,_,_=>[]
 | n+1,k,left=>if left<=1 then [] else if k<left / 2 then 0::bB n k (left / 2) else 1::bB n (k - left / 2) (left - left / 2)
def jj(ts:List Nat):Tr:=hold (ts.map λt=>aM t 2)
def bO(k many:Nat):Nat:=many - 1+Ca (many - 1 - k)
def i_(ts:List Nat):Nat:=(ts.map λt=>6+bO t 2).sum
theorem SM:∀(n:Nat) (es:List Tr),(∀e∈es,val e=true)->val (cV n es)=true
 | 0,_,_=>rfl
 | n+1,es,h=>by
  rw[cV]
  split
  ·rename_i h1;obtain⟨e,rfl⟩:=mF.mp h1;exact h e (by simp)
  ·refine Bo λt ht=>?_;simp only[gq,kO,afx]at ht;rcases ht with rfl | rfl
   ·exact SM n _ λe he=>h e (m_ he)
   ·exact SM n _ λe he=>h e (ni he)
def GK:∀(n:Nat) (es:List Tr) (k:Nat) (e:Tr),(∀e∈es,val e=true)->es.length<=2 ^ n->es[k]? = some e->cI (cV (n+1) es) ((bB (n+1) k es.length).map λt=>aM t 2) (i_ (bB (n+1) k es.length)) e:=by
 intro n
 induction n with
 | zero =>
  intro es k e h hl hk;have h0:=(gf.mp hk).1;have h1:es.length=1:=by simp at hl;omega
  obtain⟨x,rfl⟩:=mF.mp h1;have:k=0:=by simp at h0;exact h0
  subst this;simp at hk;subst hk;exact .nil (h x (by simp))
 | succ n ih =>
  intro es k e h hl hk;have h0:=(gf.mp hk).1;by_cases h1:es.length=1
  ·obtain⟨x,rfl⟩:=mF.mp h1;have:k=0:=by simp at h0;exact h0
   subst this;simp at hk;subst hk;exact .nil (h x (by simp))
  ·have hp:2 ^ (n+1)=2 ^ n+2 ^ n:=by rw[nU];omega
   have e1:cV (n+1+1) es=hold [cV (n+1) (es.take (es.length / 2)),cV (n+1) (es.drop (es.length / 2))]:=by rw[cV,ae2 h1]
   have l1:(es.take (es.length / 2)).length=es.length / 2:=by rw[km];omega
   have l2:(es.drop (es.length / 2)).length=es.length - es.length / 2:=by rw[mL]
   have v1:=SM (n+1) _ λe he=>h e (m_ (i:=es.length / 2) he);have v2:=SM (n+1) _ λe he=>h e (ni (i:=es.length / 2) he);have one:∀(t:Nat) (T:Tr),[cV (n+1) (es.take (es.length / 2)),cV (n+1) (es.drop (es.length / 2))][t]? = some T->cI (cV (n+1+1) es) [aM t 2] (6+bO t 2) T:=λt T hT=>by
    rw[e1];have ht:=(gf.mp hT).1;have a:=zii (ts:=[cV (n+1) (es.take (es.length / 2)),cV (n+1) (es.drop (es.length / 2))]) (λx hx=>by
     simp only[gq,kO,afx]at hx;rcases hx with rfl | rfl
     ·exact v1
     ·exact v2) hT
    obtain⟨q1,q2⟩:=YT (z8 t 2) a;have:=cI.snoc [] (aM t 2) _ T 0 _ (.nil q1) (z8 t 2) q2;simp only[mD,gw,mV]at this ht;have ec:0+(t+Ca (0+1+1 - 1 - t)+(0+1+1 - 1 - t)+2+2*(0+1+1))=6+bO t 2:=by unfold bO;simp only[show 0+1+1 - 1 - t=2 - 1 - t by omega];omega
    rw[ec]at this;exact this
   have hh:¬ es.length<=1:=by omega
   by_cases XQ:k<es.length / 2
   ·have et:bB (n+1+1) k es.length=0::bB (n+1) k (es.length / 2):=by rw[bB,ae2 hh,ae1 XQ]
    have r:=ih (es.take (es.length / 2)) k e (λe he=>h e (m_ he)) (by omega) (by rw[pH,ae1 XQ];exact hk);rw[l1]at r;have:=(one 0 _ rfl).trans r;rw[et];exact this
   ·have et:bB (n+1+1) k es.length=1::bB (n+1) (k - es.length / 2) (es.length - es.length / 2):=by rw[bB,ae2 hh,ae2 XQ]
    have r:=ih (es.drop (es.length / 2)) (k - es.length / 2) e (λe he=>h e (ni he)) (by omega) (by rw[List.getElem?_drop,show es.length / 2+(k - es.length / 2)=k by omega];exact hk);rw[l2]at r;have:=(one 1 _ rfl).trans r;rw[et];exact this
def zn6{row:Tr}(h:val row=true):val (lA row)=true:=by
 unfold lA;exact yC (Hd (by simp[j8,h])) (zR _ _)
def Yj{row T:Tr}(h:val row=true)(hT:val T=true):Ev (.jn (lA row) T) ((cX dH tG).headD 0) (hold [row,T]):=by
 have s:Sub (look [([101],row)]):=Hd (by simp[j8,h]);have:=xU s (x:=[102]) (y:=[118]) (by simp[j8]) hT dH [];have e:sb (lq (look [([101],row)]) [102] T) (bQ dH [[118]])=hold [row,T]:=by rfl
 rw[e]at this;exact this
def U7{n k:Nat}{rows:List Tr}{row:Tr}(hv:∀r∈rows,val r=true)(hl:rows.length<=2 ^ n)(hk:rows[k]? = some row) :
  Ev (.jn (.jn (jj (bB (n+1) k rows.length)) (cV (n+1) (rows.map lA))) (cV (n+1) (rows.map lA)))
   (2+2*(bB (n+1) k rows.length).length+i_ (bB (n+1) k rows.length)+(cX dH tG).headD 0) (hold [row,cV (n+1) (rows.map lA)]):=by
 have he:∀e∈rows.map lA,val e=true:=λe h=>by
  obtain⟨r,hr,rfl⟩:=gj.mp h;exact zn6 (hv r hr)
 have vT:=SM (n+1) _ he;have vr:val row=true:=hv row (gW hk);have a:=GK n (rows.map lA) k (lA row) he (by simpa using hl) (by rw[gM,hk];rfl);rw[gh]at a;obtain⟨q1,q2⟩:=YT vT a;rw[gh]at q2;have:=q2.comp (Ev.v vT) (Yj vr vT);exact this.to (by omega)
end Tr
end M
namespace M
namespace Tr
def Ep{ρ:List Nat->Option Tr}(hρ:Sub ρ){t L s R T u:Tr}{k:Nat}(vL:val L=true)(vs:val s=true)(vR:val R=true)(vT:val T=true)(h:jA (sb (uT ρ dW [L,s,R,T]) t) k u) :
  jA (.jn (hold [sb ρ (bQ t dW),T]) (hold [L,s,R])) (6+8+(cX t dW).sum+k) u:=by
 have s1:=hρ.upd (x:=[108]) (by simp[j8]) vL;have s2:=s1.upd (x:=[115]) (by simp[j8]) vs;have s3:=s2.upd (x:=[114]) (by simp[j8]) vR;have e1:=xU hρ (x:=[108]) (y:=[115]) (by simp[j8]) vL t [[114],[102]];have e2:=xU s1 (x:=[115]) (y:=[114]) (by simp[j8]) vs t [[102]];have e3:=xU s2 (x:=[114]) (y:=[102]) (by simp[j8]) vR t [];have e4:=Hx s3 (x:=[102]) (by simp[j8]) vT t h;have U9:val (sb ρ (bQ t dW))=true:=yC hρ (zR _ _);have vP:val (hold [L,s,R])=true:=Bo (by simp[vL,vs,vR]);have a2:cI (sb ρ (bQ t dW)) [L,s] _ _:=cI.snoc [L] s _ _ _ _ (cI.snoc [] L _ _ 0 _ (.nil U9) vL e1) vs e2;have h1:=ztb U9 a2 vR;have ev:Ev (.jn (hold [L,s,R]) (sb ρ (bQ t dW))) _ _:=⟨(Sw h1).trans e3.1,e3.2⟩;have a1:cI (hold [L,s,R]) [sb ρ (bQ t dW)] _ _:=cI.snoc [] (sb ρ (bQ t dW)) _ _ 0 _ (.nil vP) U9 ev;have h2:=ztb vP a1 vT;refine (jA.then h2 e4).to ?_;have es:(cX t dW).sum=(out [108] (bQ t [[115],[114],[102]])).2+((out [115] (bQ t [[114],[102]])).2+((out [114] (bQ t [[102]])).2+((out [102] t).2+0))):=rfl;rw[es];simp only[gw,mV];omega
def ztk{deeds rest:List Tr}{d u:Tr}{i k:Nat}(hv:∀x∈deeds,val x=true)(hd:deeds[i]? = some d)(h:jA (apps d rest) k u):jA (apps (aM i deeds.length) (deeds++rest)) (bO i deeds.length+k) u:=by
 have a:=(zii hv hd).apps;rw[Mv];have hl:=(gf.mp hd).1;exact (jA.then (ztx a.1 rest) h).to (by unfold bO;omega)
def zu:Nat:=(cX fJ cU).sum
def iD(m:Bool):Nat:=(cX (cW m) cU).sum+1
def p_(m:Bool):Nat:=(cX (bD m) j_).sum
def lW(m:Bool):Nat:=6+(cX (bD m) tV).sum
def Gg{w num T L R:Tr}(vw:val w=true)(vn:val num=true)(vT:val T=true)(vL:val L=true)(vR:val R=true):jA (apps (jJ w) [num,T,L,R]) zu (hold [num,L,w,R]):=by
 have s:Sub (look [([119],w)]):=Hd (by simp[j8,vw]);have e:sb (uT (look [([119],w)]) cU [num,T,L,R]) fJ=hold [num,L,w,R]:=rfl;have:=hands fJ cU [num,T,L,R] _ s (by simp[j8]) (by simp[vn,vT,vL,vR]) rfl (by simp) (k:=0) (u:=hold [num,L,w,R]) (by rw[e];exact (Ev.v (Bo (by simp[vn,vL,vw,vR]))).r);exact this.to (by unfold zu;omega)
def wJ(m:Bool)(t a w x:Tr):Tr:=if m then hold [t,a,.jn tK (hold [w,x])] else hold [.jn tK (hold [w,x]),a,t]
def zsj{m:Bool}{t a w x:Tr}(vt:val t=true)(va:val a=true)(vw:val w=true)(vx:val x=true):val (wJ m t a w x)=true:=by
 have g:val (.jn tK (hold [w,x]))=true:=by rw[dM];exact Bo (by simp[vw,vx])
 unfold wJ
 split
 ·exact Bo (by simp[vt,va,g])
 ·exact Bo (by simp[vt,va,g])
def Dl(bl w:Tr):List Nat->Option Tr:=rJ (look [([97],bl),([116],tK)]) (look [([119],w)])
def zst{m:Bool}{bl w:Tr}(vw:val w=true)(GR:sk bl):iQ m bl w=sb (Dl bl w) (bQ (bD m) j_):=by
 unfold iQ Dl;refine HF (Hd (by simp[j8,vw])) (λs v e=>?_) _;have:=zki e;simp only[gq,kO,afx,Prod.mk.injEq]at this;rcases this with⟨_,rfl⟩ | ⟨_,rfl⟩
 ·exact GR
 ·exact .inr rfl
def zr3{bl w:Tr}(vb:val bl=true)(vw:val w=true):Sub (Dl bl w) :=
 (Hd (σ:=[([97],bl),([116],tK)]) (by simp[j8,vb];rfl)).rJ (Hd (σ:=[([119],w)]) (by simp[j8,vw]))
def zj1{m:Bool}{bl w:Tr}(vb:val bl=true)(vw:val w=true)(s:sk bl):val (iQ m bl w)=true:=by
 rw[zst vw s];exact yC (zr3 vb vw) (zR _ _)
def zkp{m:Bool}{w:Tr}(vw:val w=true):val (lV m w)=true:=yC (Hd (by simp[j8,vw])) (zR _ _)
section
variable  {m:Bool}{bl w way num T S O st:Tr}{cw:Nat}
def zs6(vb:val bl=true)(vw:val w=true)(GR:sk bl)(vg:val way=true):Sub (look [([98,97,114,101],iQ m bl w),([102,117,108,108],lV m w),([103],way)]) :=
 Hd (by simp[j8,zj1 vb vw GR,zkp vw,vg])
def BJ(X:Tr){k:Nat}{u:Tr}(vb:val bl=true)(vw:val w=true)(GR:sk bl)(vg:val way=true)(vn:val num=true)(vT:val T=true)(vS:val S=true)(vO:val O=true)
  (h:jA (.jn (.jn (.jn (.jn S (iQ m bl w)) (lV m w)) (.jn (.jn way T) T)) O) k u) :
  jA (apps (pX m bl w way) [num,T,if m then S else O,if m then O else S]) (k+(cX (cW m) cU).sum) u:=by
 refine hands (cW m) cU [num,T,if m then S else O,if m then O else S] _ (zs6 vb vw GR vg) (by simp[j8]) (by cases m<;>simp[vn,vT,vS,vO]) rfl (by simp) ?_;have e:sb (uT (look [([98,97,114,101],iQ m bl w),([102,117,108,108],lV m w),([103],way)]) cU [num,T,if m then S else O,if m then O else S]) (cW m)=.jn (.jn (.jn (.jn S (iQ m bl w)) (lV m w)) (.jn (.jn way T) T)) O:=by
  cases m<;>rfl
 rw[e];exact h
def zs2(vb:val bl=true)(vw:val w=true)(GR:sk bl)(vg:val way=true)(vn:val num=true)(vT:val T=true)(vO:val O=true)(hw:Ev (.jn (.jn way T) T) cw st) :
  jA (apps (pX m bl w way) [num,T,if m then tK else O,if m then O else tK]) (iD m+p_ m+cw) (.jn st (wJ m tK bl w O)):=by
 have vB:=zj1 (m:=m) vb vw GR;have vF:=zkp (m:=m) vw;have A:Ev (.jn (.jn tK (iQ m bl w)) (lV m w)) 1 (iQ m bl w):=((Ev.v (v:=.jn tK (iQ m bl w)) (by rw[dM];exact vB)).K (Ev.v vF)).to (by omega);have s0:=zr3 vb vw;have s1:=s0.upd (x:=[121]) (by simp[j8]) hw.2;have e1:=xU s0 (x:=[121]) (y:=[120]) (by simp[j8]) hw.2 (bD m) [];rw[show bQ (bD m) [[121],[120]]=bQ (bD m) j_ from rfl,<-zst (m:=m) vw GR]at e1;have et:sb (lq (lq (Dl bl w) [121] st) [120] O) (bD m)=.jn st (wJ m tK bl w O):=by cases m<;>rfl
 have r:Rdy (.jn st (wJ m tK bl w O)):=⟨hw.2,zsj rfl vb vw vO⟩;have e2:=Hx s1 (x:=[120]) (by simp[j8]) vO (bD m) (k:=0) (u:=.jn st (wJ m tK bl w O)) (by rw[et];exact⟨rfl,r⟩);have X:=A.comp hw e1;have:=BJ (m:=m) (O:=O) (num:=num) tK vb vw GR vg vn vT rfl vO (jA.comp X (Ev.v vO) e2);refine this.to ?_;have es:p_ m=(out [121] (bQ (bD m) [[120]])).2+((out [120] (bD m)).2+0):=rfl;rw[es];unfold iD;omega
def ztt{a t:Tr}(vb:val bl=true)(vw:val w=true)(GR:sk bl)(vg:val way=true)(vn:val num=true)(vT:val T=true)(vO:val O=true)(va:val a=true)(vt:val t=true)(hw:Ev (.jn (.jn way T) T) cw st) :
  jA (apps (pX m bl w way) [num,T,if m then .jn tK (hold [a,t]) else O,if m then O else .jn tK (hold [a,t])]) (iD m+lW m+cw) (.jn st (wJ m t a w O)):=by
 have vB:=zj1 (m:=m) vb vw GR;have vF:=zkp (m:=m) vw;have vH:val (hold [a,t])=true:=Bo (by simp[va,vt]);have vS:val (.jn tK (hold [a,t]))=true:=by rw[dM];exact vH
 have A1:Ev (.jn (.jn tK (hold [a,t])) (iQ m bl w)) 1 (hold [a,t]):=((Ev.v vS).K (Ev.v vB)).to (by omega);have s0:Sub (look [([119],w)]):=Hd (by simp[j8,vw]);have s1:=s0.upd (x:=[97]) (by simp[j8]) va;have s2:=s1.upd (x:=[116]) (by simp[j8]) vt;have s3:=s2.upd (x:=[121]) (by simp[j8]) hw.2;have e1:=xU s0 (x:=[97]) (y:=[116]) (by simp[j8]) va (bD m) [[121],[120]];have e2:=xU s1 (x:=[116]) (y:=[121]) (by simp[j8]) vt (bD m) [[120]];have e3:=xU s2 (x:=[121]) (y:=[120]) (by simp[j8]) hw.2 (bD m) [];have et:sb (lq (lq (lq (lq (look [([119],w)]) [97] a) [116] t) [121] st) [120] O) (bD m)=.jn st (wJ m t a w O):=by cases m<;>rfl
 have r:Rdy (.jn st (wJ m t a w O)):=⟨hw.2,zsj vt va vw vO⟩;have e4:=Hx s3 (x:=[120]) (by simp[j8]) vO (bD m) (k:=0) (u:=.jn st (wJ m t a w O)) (by rw[et];exact⟨rfl,r⟩);have a2:cI (lV m w) [a,t] _ _:=cI.snoc [a] t _ _ _ _ (cI.snoc [] a _ _ 0 _ (.nil vF) va e1) vt e2;obtain⟨_,q⟩:=YT vF a2;have A:=A1.comp (Ev.v vF) q;have X:=A.comp hw e3;have:=BJ (m:=m) (O:=O) (num:=num) (.jn tK (hold [a,t])) vb vw GR vg vn vT vS vO (jA.comp X (Ev.v vO) e4);refine this.to ?_;have es:lW m=6+((out [97] (bQ (bD m) [[116],[121],[120]])).2+((out [116] (bQ (bD m) [[121],[120]])).2+((out [121] (bQ (bD m) [[120]])).2+((out [120] (bD m)).2+0)))):=rfl;rw[es];unfold iD;simp only[gw,mV];omega
end
def Vt{ls:List Nat}(hn:ls.Nodup)(h0:0∉ls)(num:Tr)(eU:Nat->Tr)(L s R T:Tr) :
  sb (uT (look (([110],num)::ls.map λc=>(dn c,eU c))) dW [L,s,R,T]) (cL ls)=apps s (ls.map eU++[num,T,L,R]):=by
 have hd:∀c,∀x,dn c=[x]->x=100:=λc x e=>by
  unfold dn at e
  split at e<;>simp at e
  exact e.symm
 have aed:∀a b,dn a=dn b->a∈ls->b∈ls->a=b:=λa b e _ _=>by
  unfold dn at e
  split at e<;>split at e<;>simp_all
 have lk:∀(l:List Nat) (c:Nat),c∈l->(∀x∈l,x∈ls)->look (l.map λc=>(dn c,eU c)) (dn c)=some (eU c):=by
  intro l
  induction l with
  | nil=>intro c hc;cases hc
  | cons x l ih =>
   intro c hc hs;rw[gm,Nx];by_cases e:dn x=dn c
   ·rw[ae1 e,aed x c e (hs x (by simp)) (hs c hc)]
   ·rw[ae2 e];refine ih c ?_ λy hy=>hs y (by simp[hy]);rcases gq.mp hc with rfl | h
    ·exact absurd rfl e
    ·exact h
 generalize hρ:look (([110],num)::ls.map λc=>(dn c,eU c))=ρ;have hu:∀q,uT ρ dW [L,s,R,T] q=if q=[102] then some T else if q=[114] then some R else if q=[115] then some s else if q=[108] then some L else ρ q:=λq=>rfl;have ne:∀c x,x≠100->dn c≠[x]:=λc x hx e=>hx (hd c x e);have sdn:∀c∈ls,sb (uT ρ dW [L,s,R,T]) (.lf (dn c))=eU c:=λc hc=>by
  rw[sb,hu,ae2 (ne c _ (by decide)),ae2 (ne c _ (by decide)),ae2 (ne c _ (by decide)),ae2 (ne c _ (by decide)),<-hρ,Nx,ae2 (λe=>ne c 110 (by decide) e.symm),lk ls c hc λx hx=>hx];rfl
 have sn:sb (uT ρ dW [L,s,R,T]) (.lf [110])=num:=by rw[sb,hu,<-hρ];rfl
 unfold cL;rw[Ot,mC,gJ];have e1:ls.map (sb (uT ρ dW [L,s,R,T])∘λc=>.lf (dn c))=ls.map eU:=kJ λc hc=>sdn c hc;rw[e1];have e2:(cU.map Tr.lf).map (sb (uT ρ dW [L,s,R,T]))=[num,T,L,R]:=by
  show [sb _ (.lf [110]),sb _ (.lf [102]),sb _ (.lf [108]),sb _ (.lf [114])]=_;rw[sn];rfl
 rw[e2];rfl
end Tr
end M
set_option maxHeartbeats 0
namespace M
namespace Tr
structure Ru where
 s:Nat
 x:Nat
 w:Nat
 m:Bool
 g:Nat
structure Bk where
 ls:List Nat
 ss:List Nat
 rs:List Ru
def zm(B:Bk)(s x:Nat):Option Ru:=B.rs.find? λr=>decide (r.s=s) && decide (r.x=x)
def bI(l:List Nat)(c:Nat):Nat:=l.findIdx λz=>decide (z=c)
def dC(B:Bk)(c:Nat):Tr:=aM (bI B.ls c) B.ls.length
def uN(B:Bk)(s:Nat):Tr:=aM (bI B.ss s) B.ss.length
def iB(B:Bk)(s:Nat):List Nat:=bB 13 (bI B.ss s) B.ss.length
def bN(B:Bk)(s c:Nat):Tr:=match zm B s c with
 | none=>jJ (dC B c)
 | some r=>pX r.m (dC B 95) (dC B r.w) (jj (iB B r.g))
def dN(B:Bk)(s:Nat):Tr:=wI B.ls (uN B s) (bN B s)
def lr(B:Bk):Tr:=cV 13 ((B.ss.map (dN B)).map lA)
def qO(B:Bk)(s:Nat):Tr:=hold [dN B s,lr B]
def sX:List Tr->Tr
 | []=>tK
 | t::ts=>.jn tK (hold [t,sX ts])
def iu(B:Bk)(cs:List Nat):Tr:=sX (cs.map (dC B))
structure Sd where
 s:Nat
 a:List Nat
 c:Nat
 b:List Nat
def d_(B:Bk)(z:Sd):Tr:=.jn (qO B z.s) (hold [iu B z.a,dC B z.c,iu B z.b])
def lX(B:Bk)(z:Sd):Tr:=hold [uN B z.s,iu B z.a,dC B z.c,iu B z.b]
def zg(r:Ru)(z:Sd):Sd:=if r.m=true then ⟨r.g,z.a.tail,z.a.headD 95,r.w::z.b⟩ else ⟨r.g,r.w::z.a,z.b.headD 95,z.b.tail⟩
def Tt(B:Bk)(z:Sd):Option Sd:=(zm B z.s z.c).map λr=>zg r z
def yI(B:Bk)(s:Nat):Nat:=2+2*(iB B s).length+i_ (iB B s)+(cX dH tG).headD 0
def qT(ls:List Nat):Nat:=6+8+(cX (cL ls) dW).sum
def d8(B:Bk)(z:Sd):Nat:=qT B.ls+bO (bI B.ls z.c) B.ls.length+(match zm B z.s z.c with
 | none=>zu
 | some r=>iD r.m+(if (if r.m=true then z.a else z.b)=[] then p_ r.m else lW r.m)+yI B r.g)
structure OkB(B:Bk):Prop where
 nl:B.ls.Nodup
 ns:B.ss.Nodup
 bl:95∈B.ls
 z:0∉B.ls
 many:B.ss.length<=4096
 ru:∀r∈B.rs,r.g∈B.ss/\r.w∈B.ls
def MN{l:List Nat}{c:Nat}(h:c∈l):l[bI l c]? = some c:=by
 have hl:bI l c<l.length:=List.findIdx_lt_length_of_exists ⟨c,h,by simp⟩;have:=List.findIdx_getElem (p:=λz=>decide (z=c)) (xs:=l) (w:=hl);rw[gK hl];exact congrArg some (afa this)
theorem Hw:∀m,sk (wg m)
 | 0=>⟨⟨.inl rfl,.inr rfl⟩,.inr rfl⟩
 | 1=>.inr rfl
 | m+2=>⟨⟨.inl rfl,.inr rfl,.inr rfl⟩,Hw (m+1)⟩
theorem By{v:Tr}(h:sk v):∀n,sk (cQ n v)
 | 0=>h
 | n+1=>⟨.inr rfl,By h n⟩
def znm(k m:Nat):sk (aM k m):=By (Hw _) _
theorem Bp:∀{ts:List Tr},(∀t∈ts,val t=true)->val (sX ts)=true
 | [],_=>rfl
 | t::ts,h=>by
  have ih:=Bp (ts:=ts) λx hx=>h x (by simp[hx]);rw[sX,dM];exact Bo (by simp[h t (by simp),ih])
section
variable  {B:Bk}
def yH(c:Nat):val (dC B c)=true:=z8 _ _
def Bj(cs:List Nat):val (iu B cs)=true:=Bp λt ht=>by
 obtain⟨c,_,rfl⟩:=gj.mp ht;exact yH c
def znv(ts:List Nat):val (jj ts)=true:=Bo λt ht=>by
 obtain⟨c,_,rfl⟩:=gj.mp ht;exact z8 _ _
def zo7(s c:Nat):val (bN B s c)=true:=by
 unfold bN
 split
 ·exact yC (Hd (by simp[j8,yH])) (zR _ _)
 ·exact yC (zs6 (yH _) (yH _) (znm _ _) (znv _)) (zR _ _)
def BP(s:Nat):Sub (look (([110],uN B s)::B.ls.map λc=>(dn c,bN B s c))):=by
 refine Hd λp hp=>?_;rcases gq.mp hp with rfl | hp
 ·exact⟨by simp[j8],z8 _ _⟩
 ·obtain⟨c,_,rfl⟩:=gj.mp hp;refine⟨?_,zo7 _ _⟩;show j8 (dn c);unfold dn
  split<;>simp[j8]
def znn(s:Nat):val (dN B s)=true:=yC (BP s) (zR _ _)
def zin:val (lr B)=true:=SM 13 _ λe he=>by
 obtain⟨r,hr,rfl⟩:=gj.mp he;obtain⟨s,_,rfl⟩:=gj.mp hr;exact zn6 (znn s)
def NQ(h:OkB B){g:Nat}(hg:g∈B.ss):Ev (.jn (.jn (jj (iB B g)) (lr B)) (lr B)) (yI B g) (qO B g):=by
 have:=U7 (n:=12) (k:=bI B.ss g) (rows:=B.ss.map (dN B)) (row:=dN B g) (λr hr=>by
  obtain⟨s,_,rfl⟩:=gj.mp hr;exact znn s) (by rw[gh];exact h.many) (by rw[gM,MN hg];rfl)
 rw[gh]at this;exact this
theorem zn7(h:OkB B)(z:Sd)(hc:z.c∈B.ls):match Tt B z with
  | some z'=>jA (d_ B z) (d8 B z) (d_ B z')
  | none=>Ev (d_ B z) (d8 B z) (lX B z):=by
 have key:∀{k:Nat} {u:Tr},jA (apps (bN B z.s z.c) [uN B z.s,lr B,iu B z.a,iu B z.b]) k u->jA (d_ B z) (qT B.ls+bO (bI B.ls z.c) B.ls.length+k) u:=λ{k u} e=>by
  have hd:((B.ls.map (bN B z.s))[bI B.ls z.c]?)=some (bN B z.s z.c):=by rw[gM,MN hc];rfl
  have d:=ztk (deeds:=B.ls.map (bN B z.s)) (λx hx=>by
   obtain⟨c,_,rfl⟩:=gj.mp hx;exact zo7 _ _) hd e
  rw[gh]at d;have r:=Ep (BP (B:=B) z.s) (t:=cL B.ls) (L:=iu B z.a) (s:=dC B z.c) (R:=iu B z.b) (T:=lr B) (Bj _) (yH _) (Bj _) zin (k:=bO (bI B.ls z.c) B.ls.length+k) (u:=u) (by
   rw[Vt h.nl h.z];exact d)
  exact r.to (by unfold qT;omega)
 unfold Tt;cases hf:zm B z.s z.c with
 | none =>
  have e:=Gg (w:=dC B z.c) (num:=uN B z.s) (T:=lr B) (L:=iu B z.a) (R:=iu B z.b) (yH _) (z8 _ _) zin (Bj _) (Bj _);have hd:bN B z.s z.c=jJ (dC B z.c):=by unfold bN;rw[hf]
  rw[<-hd]at e;have:=key e;have vJ:d8 B z=qT B.ls+bO (bI B.ls z.c) B.ls.length+zu:=by unfold d8;rw[hf]
  rw[vJ];exact⟨this.1,Bo (by simp[uN,z8,Bj,yH])⟩
 | some r =>
  have hr:=h.ru r (pU hf);have hd:bN B z.s z.c=pX r.m (dC B 95) (dC B r.w) (jj (iB B r.g)):=by unfold bN;rw[hf]
  have vJ:d8 B z=qT B.ls+bO (bI B.ls z.c) B.ls.length+(iD r.m+(if (if r.m=true then z.a else z.b)=[] then p_ r.m else lW r.m)+yI B r.g):=by unfold d8;rw[hf]
  show jA (d_ B z) (d8 B z) (d_ B (zg r z));rw[vJ];refine key ?_;rw[hd];have hw:=NQ h hr.1;have bb:=λ(O:List Nat)=>zs2 (m:=r.m) (bl:=dC B 95) (w:=dC B r.w) (way:=jj (iB B r.g)) (num:=uN B z.s) (T:=lr B) (O:=iu B O) (yH _) (yH _) (znm _ _) (znv _) (z8 _ _) zin (Bj _) hw;have ff:=λ(a:Nat) (t O:List Nat)=>ztt (m:=r.m) (bl:=dC B 95) (w:=dC B r.w) (way:=jj (iB B r.g)) (num:=uN B z.s) (T:=lr B) (O:=iu B O) (a:=dC B a) (t:=iu B t) (yH _) (yH _) (znm _ _) (znv _) (z8 _ _) zin (Bj _) (yH _) (Bj _) hw;obtain⟨s0,a0,c0,b0⟩:=z;cases hm:r.m with
  | true =>
   rw[hm]at bb ff;cases a0 with
   | nil =>
    have:=bb b0;unfold zg;rw[ae1 hm];exact this
   | cons a t =>
    have:=ff a t b0;unfold zg;rw[ae1 hm];exact this
  | false =>
   rw[hm]at bb ff;have Nk:¬ r.m=true:=by rw[hm];decide
   cases b0 with
   | nil =>
    have:=bb a0;unfold zg;rw[ae2 Nk];exact this
   | cons a t =>
    have:=ff a t a0;unfold zg;rw[ae2 Nk];exact this
end
end Tr
end M
namespace M
namespace Tr
def u_(ns:List (List Nat)):Tr:=apps (.lf [115]) (ns.map .lf++cU.map .lf)
def OJ(ls:List Nat):cL ls=u_ (ls.map dn):=by unfold cL u_;rw[gJ];rfl
def Yp(c:Nat):∃t,dn c=100::t:=by unfold dn;split<;>exact⟨_,rfl⟩
def acX:∀(ns:List (List Nat)),(∀n∈ns,∃t,n=100::t)->ns.length<=9->(cX (u_ ns) dW).sum=46+6*ns.length/\dp (bQ (u_ ns) dW)=19+3*ns.length/\lv (bQ (u_ ns) dW)=48+7*ns.length:=by
 intro ns h hl;have un:∀(k:Nat) (l:List (List Nat)),(∀n∈l,∃t,n=100::t)->l.length=k->∃ts:List (List Nat),ts.length=k/\l=ts.map (100 :: ·):=by
  intro k
  induction k with
  | zero=>intro l _ e;exact⟨[],rfl,nA.mp e⟩
  | succ k ih =>
   intro l h e;cases l with
   | nil=>cases e
   | cons a l =>
    obtain⟨t,rfl⟩:=h a (by simp);obtain⟨ts,h1,h2⟩:=ih l (λn hn=>h n (by simp[hn])) (by simpa using e);exact⟨t::ts,by simp[h1],by simp[h2]⟩
 obtain⟨ts,h1,h2⟩:=un ns.length ns h rfl;rw[h2,gh];rw[<-h1]at hl;clear h h1 h2 un
 match ts,hl with
 | [],_=>exact⟨by kernel_rfl,by kernel_rfl,by kernel_rfl⟩
 | [_],_=>exact⟨by kernel_rfl,by kernel_rfl,by kernel_rfl⟩
 | [_,_],_=>exact⟨by kernel_rfl,by kernel_rfl,by kernel_rfl⟩
 | [_,_,_],_=>exact⟨by kernel_rfl,by kernel_rfl,by kernel_rfl⟩
 | [_,_,_,_],_=>exact⟨by kernel_rfl,by kernel_rfl,by kernel_rfl⟩
 | [_,_,_,_,_],_=>exact⟨by kernel_rfl,by kernel_rfl,by kernel_rfl⟩
 | [_,_,_,_,_,_],_=>exact⟨by kernel_rfl,by kernel_rfl,by kernel_rfl⟩
 | [_,_,_,_,_,_,_],_=>exact⟨by kernel_rfl,by kernel_rfl,by kernel_rfl⟩
 | [_,_,_,_,_,_,_,_],_=>exact⟨by kernel_rfl,by kernel_rfl,by kernel_rfl⟩
 | [_,_,_,_,_,_,_,_,_],_=>exact⟨by kernel_rfl,by kernel_rfl,by kernel_rfl⟩
 | _::_::_::_::_::_::_::_::_::_::_,h=>simp at h
def aaC(ls:List Nat)(h:ls.length<=9):(cX (cL ls) dW).sum=46+6*ls.length/\dp (bQ (cL ls) dW)=19+3*ls.length/\lv (bQ (cL ls) dW)=48+7*ls.length:=by
 have:=acX (ls.map dn) (λn hn=>by
  obtain⟨c,_,rfl⟩:=gj.mp hn;exact Yp c) (by simpa using h)
 rw[<-OJ,gh]at this;exact this
theorem zh2:∀(n k left:Nat),(bB n k left).length<=n/\∀t∈bB n k left,t<=1
 | 0,_,_=>⟨gb _,by simp[bB]⟩
 | n+1,k,left=>by
  rw[bB]
  split
  ·simp
  ·split
   ·obtain⟨h1,h2⟩:=zh2 n k (left / 2);exact⟨by simp;exact h1,λt ht=>(gq.mp ht).elim (λe=>by omega) (h2 t)⟩
   ·obtain⟨h1,h2⟩:=zh2 n (k - left / 2) (left - left / 2);exact⟨by simp;exact h1,λt ht=>(gq.mp ht).elim (λe=>by omega) (h2 t)⟩
theorem zrn:∀(ts:List Nat),(∀t∈ts,t<=1)->i_ ts<=9*ts.length
 | [],_=>by simp[i_]
 | t::ts,h=>by
  have ih:=zrn ts λx hx=>h x (by simp[hx]);have e:i_ (t::ts)=6+bO t 2+i_ ts:=by simp[i_]
  have h1:=h t (by simp);have h2:bO t 2<=3:=by
   rcases (by omega:t=0\/t=1) with rfl | rfl<;>decide
  rw[e,gw];omega
def Iz(k m:Nat):bO k m<=3*m+2:=by
 unfold bO;have:=Iu (m - 1 - k);omega
def Hb{l:List Nat}{c:Nat}(h:c∈l):bI l c<l.length:=List.findIdx_lt_length_of_exists ⟨c,h,by simp⟩
def znw(B:Bk)(z:Sd)(hl:B.ls.length<=9):1<=d8 B z/\d8 B z<=600:=by
 have h1:=(aaC B.ls hl).1;have h2:=Iz (bI B.ls z.c) B.ls.length;have e1:zu=45:=by kernel_rfl
 cases hf:zm B z.s z.c with
 | none =>
  have vJ:d8 B z=qT B.ls+bO (bI B.ls z.c) B.ls.length+zu:=by unfold d8;rw[hf]
  rw[vJ];unfold qT;omega
 | some r =>
  have vJ:d8 B z=qT B.ls+bO (bI B.ls z.c) B.ls.length+(iD r.m+(if (if r.m=true then z.a else z.b)=[] then p_ r.m else lW r.m)+yI B r.g):=by unfold d8;rw[hf]
  obtain⟨t1,t2⟩:=zh2 13 (bI B.ss r.g) B.ss.length;have t3:=zrn _ t2;have hw:yI B r.g<=2+2*13+9*13+2:=by
   unfold yI iB;have:(cX dH tG).headD 0=2:=by kernel_rfl
   rw[this];omega
  have s1:iD r.m<=47:=by cases r.m<;>decide +kernel
  have s2:p_ r.m<=22:=by cases r.m<;>decide +kernel
  have s3:lW r.m<=56:=by cases r.m<;>decide +kernel
  have hi:(if (if r.m=true then z.a else z.b)=[] then p_ r.m else lW r.m)<=56:=by
   by_cases q:(if r.m=true then z.a else z.b)=[]
   ·rw[ae1 q];omega
   ·rw[ae2 q];omega
  rw[vJ];unfold qT;omega
def Rx(ts:List Tr)(b:Nat)(h:∀t∈ts,dp t<=b):dp (hold ts)<=2*ts.length+b+2:=by
 have key:∀(ts:List Tr) (w:Tr) (c:Nat),(∀t∈ts,dp t<=b)->dp w<=c->b+2<=c->dp (ts.foldl (λw t=>.jn (.jn tS w) (.jn tK t)) w)<=2*ts.length+c:=by
  intro ts
  induction ts with
  | nil=>intro w c _ hw _;simpa using hw
  | cons t ts ih =>
   intro w c h hw hc;have ht:=h t (by simp);have e:dp (.jn (.jn tS w) (.jn tK t))<=c+2:=by
    have a0:dp tS=0:=rfl;have a1:dp tK=0:=rfl;simp only[dp,a0,a1];omega
   have:=ih (.jn (.jn tS w) (.jn tK t)) (c+2) (λx hx=>h x (by simp[hx])) e (by omega);simp only[List.foldl_cons,gw];omega
 have e:dp tI=2:=rfl;have:=key ts tI (b+2) h (by rw[e];omega) (gb _);unfold hold;omega
theorem Ly(b:Nat):∀(ts:List Tr),(∀t∈ts,dp t<=b)->dp (sX ts)<=3*ts.length+b+5
 | [],_=>by
  have:dp tK=0:=rfl;rw[sX,this];omega
 | t::ts,h=>by
  have ih:=Ly b ts λx hx=>h x (by simp[hx]);have ht:=h t (by simp);have a0:dp tS=0:=rfl;have a1:dp tK=0:=rfl;have a2:dp tI=2:=rfl;have e:dp (sX (t::ts))=dp (.jn tK (.jn (.jn tS (.jn (.jn tS tI) (.jn tK t))) (.jn tK (sX ts)))):=rfl;rw[e];simp only[dp,a0,a1,a2,gw];omega
section
variable  {B:Bk}
def Ls(hl:B.ls.length<=9){c:Nat}(h:c∈B.ls):dp (dC B c)<=11:=by
 have h1:=zpa (wg (B.ls.length - 1 - bI B.ls c)) (bI B.ls c);have h2:=yl (B.ls.length - 1 - bI B.ls c);have h3:=Hb h;unfold dC aM;omega
def Ym{s:Nat}(h:s∈B.ss):dp (uN B s)<=B.ss.length+2:=by
 have h1:=zpa (wg (B.ss.length - 1 - bI B.ss s)) (bI B.ss s);have h2:=yl (B.ss.length - 1 - bI B.ss s);have h3:=Hb h;unfold uN aM;omega
def Lw(hl:B.ls.length<=9){cs:List Nat}(hc:∀c∈cs,c∈B.ls):dp (iu B cs)<=3*cs.length+16:=by
 have:=Ly 11 (cs.map (dC B)) (λt ht=>by
  obtain⟨c,h,rfl⟩:=gj.mp ht;exact Ls hl (hc c h))
 rw[gh]at this;unfold iu;omega
structure Dq(B:Bk)(z:Sd):Prop where
 s:z.s∈B.ss
 c:z.c∈B.ls
 a:∀c∈z.a,c∈B.ls
 b:∀c∈z.b,c∈B.ls
def Ry(h:OkB B)(hl:B.ls.length<=9){z:Sd}(hz:Dq B z)(b:Nat)(ha:z.a.length<=b)(hb:z.b.length<=b):dp (lX B z)<=B.ss.length+3*b+30:=by
 have:=Rx [uN B z.s,iu B z.a,dC B z.c,iu B z.b] (B.ss.length+3*b+16) (λt ht=>by
  simp only[gq,kO,afx]at ht;rcases ht with rfl | rfl | rfl | rfl
  ·have:=Ym hz.s;omega
  ·have:=Lw hl hz.a;omega
  ·have:=Ls hl hz.c;omega
  ·have:=Lw hl hz.b;omega)
 simp only[gw,mV]at this;unfold lX;omega
def Dq.go(h:OkB B){z:Sd}(hz:Dq B z){r:Ru}(hr:r∈B.rs):Dq B (zg r z):=by
 have hd:∀(l:List Nat),(∀c∈l,c∈B.ls)->l.headD 95∈B.ls:=λl hl=>by
  cases l with
  | nil=>exact h.bl
  | cons a l=>exact hl a (by simp)
 have hc:∀(l:List Nat),(∀c∈l,c∈B.ls)->∀c∈r.w::l,c∈B.ls:=λl hl c hx=>by
  rcases gq.mp hx with rfl | hx
  ·exact (h.ru r hr).2
  ·exact hl c hx
 unfold zg
 split
 ·exact⟨(h.ru r hr).1,hd _ hz.a,λc hx=>hz.a c (List.mem_of_mem_tail hx),hc _ hz.b⟩
 ·exact⟨(h.ru r hr).1,hd _ hz.b,hc _ hz.a,λc hx=>hz.b c (List.mem_of_mem_tail hx)⟩
end
end Tr
end M
set_option maxHeartbeats 0
namespace M
namespace Tr
theorem Am(x:List Nat):∀t,lv (out x t).1+1<=4*lv t
 | .lf s=>by
  by_cases h:iY x (.lf s)=true
  ·rw[znd x h];show 3+1<=4*1;decide
  ·have e:stands x (.lf s)=false:=(show iY x (.lf s)=false by simpa using h);rw[Ze x (by rw[e];rfl)];show 2+1<=4*1;decide
 | .jn l r=>by
  have i1:=Am x l;have i2:=Am x r;by_cases h1:(val (.jn l r) && !stands x (.jn l r))=true
  ·rw[Ze x h1];have:=Za l;have:=Za r;simp only[lv];omega
  ·by_cases h2:((val l && !stands x l) && iY x r)=true
   ·simp only[gB]at h2;rw[zhq x (by simp only[gB];exact h2.1) h2.2];have:=Za r;have:=Za l;simp only[lv];omega
   ·rw[zk5 x (by simpa using h1) (by simpa using h2)];simp only[lv];omega
theorem xZ(t:Tr):∀xs:List (List Nat),lv (bQ t xs)<=4 ^ xs.length*lv t
 | []=>by simp[bQ]
 | x::xs=>by
  have ih:=xZ t xs;have:=Am x (bQ t xs);rw[bQ,gw,nU,Nat.mul_assoc,Nat.mul_comm 4,<-Nat.mul_assoc];omega
end Tr
end M
namespace Law
open L2 M Tr
def aN(cs:List Nat):List D:=cs.map λ(c:Nat)=>D.int (c:Int)
def Cq(xs:List (List Nat))(t:Tr)(st:ak)(ht:st[1]? = some (.tab "out_and_cost"))(hc:bG st)(hl:xs.length<=4)(hv:lv t<=100) :
  za4 [.tup (xs.map D.str),enc t] st=.ok (.tup [enc (bQ t xs),.loc st.length]) (st++[.lst (aN (cX t xs))]):=by
 unfold za4 bu bh zdh;generalize hB:(aD (aK 5 (az S_ [] _)) _:MS)=B;obtain⟨cB,st',h1,a4,a5,rfl,rfl⟩:=GP (g:=aW 4) (b:=B) (gs:=[]) (items:=(xs.map D.str).reverse)
  (λi env s=>∃(a4 a5:Option D),env=[some (.tup (xs.map D.str)),some (enc t),some (enc (bQ t (xs.drop (xs.length - i)))),some (.loc st.length),a4,a5]/\s=st++[.lst (aN (cX t (xs.drop (xs.length - i))).reverse)])
  (env:=[some (.tup (xs.map D.str)),some (enc t),some (enc t),some (.loc st.length),none,none]) (st:=st++[.lst []]) ⟨none,none,by simp[bQ],by simp[cX,aN]⟩ (by
   rintro i d env s hi ⟨a4,a5,rfl,rfl⟩;rw[<-nT]at hi;obtain⟨x,hx,rfl⟩:=Hc hi;obtain⟨G6,e⟩:=BR hx;generalize hys:xs.drop (xs.length - i)=ys at *;have hyl:ys.length<=4:=by rw[<-hys,mL];omega
   have hlv:lv (bQ t ys)<=400000:=by
    have h1:=xZ t ys;have h2:4 ^ ys.length<=4 ^ 4:=Nat.pow_le_pow_right (by decide) hyl;have h3:4 ^ ys.length*lv t<=4 ^ 4*100:=Nat.mul_le_mul h2 hv;omega
   have uE:(aN (cX t ys).reverse).length<1000000:=by simp[aN,zpe];omega
   let S1:ak:=st++[.lst (aN (cX t ys).reverse)]
   have o1:=zdb x (bQ t ys) S1 (cZ ht) (by simp[S1,hc]) hlv;have x0:aY (encC (out x (bQ t ys))) (.int 0) S1=.ok (enc (out x (bQ t ys)).1) S1:=by rw[encC];exact jD S1 0 _ _ rfl
   have x1:aY (encC (out x (bQ t ys))) (.int 1) S1=.ok (.int ((out x (bQ t ys)).2:Nat)) S1:=by rw[encC];exact jD S1 1 _ _ rfl
   have ap:aU (.loc st.length) [.int ((out x (bQ t ys)).2:Nat)] S1=.ok .non (st++[.lst (aN (cX t (x::ys)).reverse)]):=by
    have e3:aN (cX t (x::ys)).reverse=aN (cX t ys).reverse++[.int ((out x (bQ t ys)).2:Nat)]:=by simp[aN,cX]
    rw[e3];show aU (.loc st.length) [_] (st++[.lst (aN (cX t ys).reverse)])=_;generalize aN (cX t ys).reverse=Y at uE ⊢;simp[aU,uE]
   have it:cM "list" (.loc st.length) S1=true:=by simp[cM,S1]
   refine⟨by simp,_,_,rfl,[some (.tup (xs.map D.str)),some (enc t),some (enc (bQ t (xs.drop (xs.length - (i+1))))),some (.loc st.length),some (.str x),some (encC (out x (bQ t ys)))],st++[.lst (aN (cX t (xs.drop (xs.length - (i+1)))).reverse)],.inl ?_,_,_,rfl,rfl⟩;rw[<-hB,e,show bQ t (x::ys)=(out x (bQ t ys)).1 from rfl];show _=R.ok _ (st++[.lst (aN (cX t (x::ys)).reverse)]);change (aD _ _:MS) [some (.tup (xs.map D.str)),some (enc t),some (enc (bQ t ys)),some (.loc st.length),some (.str x),a5] S1=_;generalize (st++[.lst (aN (cX t (x::ys)).reverse)]:ak)=S2 at *;generalize S1=Z1 at *;generalize encC (out x (bQ t ys))=W1 at *;generalize enc (out x (bQ t ys)).1=W2 at *;generalize enc (bQ t ys)=W3 at *;generalize (((out x (bQ t ys)).2:Nat):Int)=c1 at *;simp[o1,x0,x1,it,ap]) (λ_ _ _=>by simp)
 rw[pG,gh,Nat.sub_self,List.drop_zero]at h1;have rv:dj (.loc st.length) [] (st++[.lst (aN (cX t xs).reverse)])=.ok .non (st++[.lst (aN (cX t xs))]):=by
  have e:(aN (cX t xs).reverse).reverse=aN (cX t xs):=by simp[aN]
  rw[<-e];generalize aN (cX t xs).reverse=Y;simp[dj]
 have it:cM "list" (.loc st.length) (st++[.lst (aN (cX t xs).reverse)])=true:=by simp[cM]
 have l0:∀env,dO au env st=.ok (.loc st.length) (st++[.lst []]):=λenv=>by simp
 have fin:gc st (.ok (.tup [enc (bQ t xs),.loc st.length]) (st++[.lst (aN (cX t xs))]))=.ok (.tup [enc (bQ t xs),.loc st.length]) (st++[.lst (aN (cX t xs))]):=by
  unfold gc;dsimp only;rw[ae2];rintro ⟨_,h⟩;simp at h
 rw[show startM 6 [D.tup (xs.map D.str),enc t]=[some (.tup (xs.map D.str)),some (enc t),none,none,none,none] from rfl];generalize hZ2:(st++[.lst (aN (cX t xs))]:ak)=Z2 at *;generalize hZ1:(st++[.lst (aN (cX t xs).reverse)]:ak)=Z1 at *;generalize hZ0:(st++[.lst []]:ak)=Z0 at *;generalize hL:dO au=L at *;generalize enc (bQ t xs)=W at *;generalize enc t=T at *;generalize xs.map D.str=X at *;simp[l0,h1,it,rv];exact fin
def Zh(xs:List (List Nat))(t:Tr)(st:ak)(ht:st[1]? = some (.tab "out_and_cost"))(hc:bG st)(hl:xs.length<=4)(hv:lv t<=100) :
  NB [.tup (xs.map D.str),enc t] st=.ok (enc (bQ t xs)) st:=by
 have m:=Cq xs t st ht hc hl hv;have x0:∀s,aY (.tup [enc (bQ t xs),.loc st.length]) (.int 0) s=.ok (enc (bQ t xs)) s:=λs=>jD s 0 _ _ rfl;have hu:=fB st.length (bQ t xs);unfold NB bu bh zja;generalize enc (bQ t xs)=W at *;generalize enc t=T at *;simp[startM,m,x0];exact o9 hu
def zg4(xs:List (List Nat))(t:Tr)(st:ak)(ht:st[1]? = some (.tab "out_and_cost"))(hc:bG st)(hl:xs.length<=4)(hv:lv t<=100) :
  M6 [.tup (xs.map D.str),enc t] st=.ok (.loc st.length) (st++[.lst (aN (cX t xs))]):=by
 have m:=Cq xs t st ht hc hl hv;have x0:∀s,aY (.tup [enc (bQ t xs),.loc st.length]) (.int 1) s=.ok (.loc st.length) s:=λs=>jD s 1 _ _ rfl;have hu:bW st.length (aN (cX t xs)):=by
  unfold aN;generalize cX t xs=cs
  induction cs with
  | nil=>simp
  | cons c cs ih=>simp[ih]
 unfold M6 bu bh zfi;generalize enc (bQ t xs)=W at *;generalize aN (cX t xs)=Y at *;generalize enc t=T at *;simp[startM,m,x0];exact YS hu
def zhr(t:Tr)(ts:List Tr)(n:Nat)(st:ak)(h:st[n]? = some (.lst (ts.map enc))):M3 [enc t,.loc n] st=.ok (enc (apps t ts)) st:=by
 unfold M3 bu bh zlt;generalize hB:(aK 2 (az lE [] _):MS)=B;obtain⟨cB,st',h1,a3,rfl,rfl⟩:=GP (g:=aW 3) (b:=B) (gs:=[(n,.lst (ts.map enc))]) (items:=ts.map enc)
  (λi env s=>∃(a3:Option D),env=[some (enc t),some (.loc n),some (enc (apps t (ts.take i))),a3]/\s=st)
  (env:=[some (enc t),some (.loc n),some (enc t),none]) (st:=st) ⟨none,rfl,rfl⟩ (by
   rintro i d env s hi ⟨a3,rfl,rfl⟩;obtain⟨x,hx,rfl⟩:=Hc hi;have e:=zhi t (ts.take i) x;have e2:ts.take (i+1)=ts.take i++[x]:=by rw[kE,hx];rfl
   have j1:=uL (apps t (ts.take i)) x s;refine⟨by simp[h],_,_,rfl,[some (enc t),some (.loc n),some (enc (apps t (ts.take (i+1)))),some (enc x)],s,.inl ?_,_,rfl,rfl⟩;rw[<-hB,e2,e];generalize enc (.jn (apps t (ts.take i)) x)=W at *;generalize enc (apps t (ts.take i))=W1 at *;simp[j1]) (λ_ _ zz=>by obtain⟨_,_,q⟩:=zz;subst q;simp[h])
 rw[gh,k_]at h1;have hu:=fB st'.length (apps t ts);rw[show startM 4 [enc t,D.loc n]=[some (enc t),some (.loc n),none,none] from rfl];generalize enc (apps t ts)=W at *;generalize enc t=X at *;simp[h,h1];exact dY hu
end Law
set_option maxHeartbeats 0
namespace Law
open L2 M Tr
structure Bs(st:ak):Prop where
 t1:st[1]? = some (.tab "out_and_cost")
 t2:st[2]? = some (.tab "put_in")
 c:bG st
def Bs.app{st:ak}(h:Bs st){g:ak}(hg:bG g):Bs (st++g):=⟨cZ h.t1,cZ h.t2,by simp[h.c,hg]⟩
def zbz(n:Nat)(st:ak)(h:n<=1000):NK [.int n] st=.ok (.int ((2+2*n:Nat):Int)) st:=by
 have m2:yU (.int 2) (.int n) st=.ok (.int (2*(n:Int))) st:=zkl st 2 n (by omega);unfold NK bu bh ze6;simp[startM,m2,bY,dY]
def zqb(x:List Nat)(t:Tr)(st:ak)(h:Bs st)(hl:lv t<=400000):zdy [.str x,enc t] st=.ok (.int ((out x t).2:Nat)) st:=by
 have o:=zdb x t st h.t1 h.c hl;have x1:aY (encC (out x t)) (.int 1) st=.ok (.int ((out x t).2:Nat)) st:=by rw[encC];exact jD st 1 _ _ rfl
 unfold zdy bu bh zhs;generalize encC (out x t)=W at *;generalize enc t=T at *;simp[startM,o,x1,dY]
def zir(k many:Nat)(st:ak)(h:Bs st)(hk:k<many)(hm:many<=100000):Zm [.int k,.int many] st=.ok (.int (bO k many:Nat)) st:=by
 have u:=zfn (many - 1 - k) (.lf [120]) st (by omega);have o:=zqb [120] (cQ (many - 1 - k) (.lf [120])) st h (by rw[zoi];show 1+_<=_;omega);rw[zsn]at o;have e1:(many:Int) - 1 - (k:Int)=((many - 1 - k:Nat):Int):=by omega
 have e2:(many:Int) - 1+((Ca (many - 1 - k):Nat):Int)=((bO k many:Nat):Int):=by unfold bO;omega
 rw[show enc (.lf [120])=.str [120] from rfl]at u;unfold Zm bu bh zg6;generalize enc (cQ (many - 1 - k) (.lf [120]))=W at *;dsimp only at o;simp[startM,e1,u,o,e2,dY]
def zjk(st:ak):zcw [] st=.ok (enc fJ) st:=by
 have e:=zo6 (.lf [110]) (.lf [108]) (.lf [119]) (.lf [114]) st rfl rfl rfl rfl;have hu:=fB st.length fJ;unfold zcw bu bh zik;rw[show enc (.lf [110])=.str [110] from rfl,show enc (.lf [108])=.str [108] from rfl,show enc (.lf [119])=.str [119] from rfl,show enc (.lf [114])=.str [114] from rfl]at e;change _=R.ok (enc fJ) st at e;generalize enc fJ=W at *;simp[startM,e,dY hu]
theorem zge:∀cs:List Nat,intsOf (aN cs)=some (cs.map λ(c:Nat)=>(c:Int))
 | []=>rfl
 | c::cs=>by
  show intsOf (.int (c:Int)::aN cs)=_;rw[intsOf,zge cs];rfl
theorem zrk:∀cs:List Nat,(cs.map λ(c:Nat)=>(c:Int)).sum=(cs.sum:Int)
 | []=>rfl
 | c::cs=>by
  rw[gm,p6,zrk cs,p6];omega
def sum_ints(cs:List Nat)(n:Nat)(st:ak)(h:st[n]? = some (.lst (aN cs))):wG [.loc n] st=.ok (.int cs.sum) st:=by
 have e:aA st n=some (aN cs):=by unfold aA;rw[h]
 show Ht [.loc n] st=_;unfold Ht;dsimp only;rw[e,mR,zge];dsimp only;rw[zrk]
def zhy(xs:List (List Nat))(t:Tr)(st:ak)(h:Bs st)(hl:xs.length<=4)(hv:lv t<=100) :
  M6 [.tup (xs.map D.str),enc t] st=.ok (.loc st.length) (st++[.lst (aN (cX t xs))])/\wG [.loc st.length] (st++[.lst (aN (cX t xs))])=.ok (.int ((cX t xs).sum:Nat)) (st++[.lst (aN (cX t xs))]) :=
 ⟨zg4 xs t st h.t1 h.c hl hv,sum_ints _ _ _ (by simp)⟩
def zp2(st:ak)(h:Bs st):zd2 [] st=.ok (.int zu) st:=by
 obtain⟨m1,m2⟩:=zhy cU fJ st h (by decide) (by decide);have et:=zjk st;change _=R.ok (D.int zu) _ at m2;unfold zd2 bu bh zh9;simp only[gm,gZ]at m1;generalize enc fJ=W at *;generalize aN (cX fJ cU)=Y at *;simp[startM,et,m1,m2];exact o9 (by simp)
def xQ(σ:List (List Nat×Tr))(t:Tr)(st:ak)(h:Bs st)(hl:lv t<=400000):GQ [enc t,.loc st.length] (st++[.dkc (aV σ)])=.ok (enc (sb (look σ) t)) (st++[.dkc (aV σ)]) :=
 zhn σ t st.length (st++[.dkc (aV σ)]) (by simp) (cZ h.t2) (by simp[h.c]) hl
def Dd(x:List Nat)(e:ME)(v:Tr)(env:aJ)(st:ak)(h:∀s,e env (st++s)=.ok (enc v) (st++s)):fL (cF (ct (.str x)) e iH) env st=.ok (.loc st.length) (st++[.dkc (aV [(x,v)])]):=by
 have h0:=h [.dkc []];unfold fL;simp[h0,vp,yX,jR,putN,aV]
def zqo(w:Tr)(st:ak)(h:Bs st):zcs [enc w] st=.ok (enc (jJ w)) st:=by
 have et:=zjk st;have mo:=Zh cU fJ st h.t1 h.c (by decide) (by decide);have pi:=xQ [([119],w)] (bQ fJ cU) st h (by have:=xZ fJ cU;have e:lv fJ=15:=rfl;simp at this;omega);have ds:=Dd [119] (vr 0) w [some (enc w)] st (λs=>by simp);change _=R.ok (enc (jJ w)) _ at pi;have hu:=fB st.length (jJ w);simp only[gm,gZ]at mo;unfold zcs bu bh zh4;generalize fL (cF (ct (.str [119])) (vr 0) iH)=DE at *;generalize enc (jJ w)=W1 at *;generalize enc w=W0 at *;generalize enc (bQ fJ cU)=W2 at *;generalize enc fJ=W3 at *;generalize aV _=KV at *;simp[startM,et,mo,ds,pi];exact o9 hu
abbrev Ni(m:Bool):List Nat:=if m=true then [108] else [114]
def zit(m:Bool)(st:ak):zca [.str (Ni m)] st=.ok (enc (cW m)) st:=by
 have j1:=λs=>uL (.lf [103]) (.lf [102]) s;have j2:=λs=>uL (.jn (.lf [103]) (.lf [102])) (.lf [102]) s;rw[show enc (.lf [103])=.str [103] from rfl,show enc (.lf [102])=.str [102] from rfl]at j1;rw[show enc (.lf [102])=.str [102] from rfl]at j2;have hu:=fB st.length (cW m);unfold zca bu bh zgt;cases m with
 | true =>
  have hd:=zhr (.lf [108]) [.lf [98,97,114,101],.lf [102,117,108,108],.jn (.jn (.lf [103]) (.lf [102])) (.lf [102]),.lf [114]] st.length (st++[.lst [.str [98,97,114,101],.str [102,117,108,108],enc (.jn (.jn (.lf [103]) (.lf [102])) (.lf [102])),.str [114]]]) (by simp;exact⟨rfl,rfl,rfl⟩);change M3 [.str [108],.loc st.length] _=R.ok (enc (cW true)) _ at hd;generalize enc (cW true)=W at *;generalize enc (.jn (.jn (.lf [103]) (.lf [102])) (.lf [102]))=W2 at *;generalize enc (.jn (.lf [103]) (.lf [102]))=W3 at *;have x0:∀s,aY (.tup [.str [108],.str [114]]) (.int 0) s=.ok (.str [108]) s:=λs=>jD s 0 _ _ rfl;have x1:∀s,aY (.tup [.str [108],.str [114]]) (.int 1) s=.ok (.str [114]) s:=λs=>jD s 1 _ _ rfl;simp[startM,x0,x1,j1,j2,hd];exact o9 hu
 | false =>
  have hd:=zhr (.lf [114]) [.lf [98,97,114,101],.lf [102,117,108,108],.jn (.jn (.lf [103]) (.lf [102])) (.lf [102]),.lf [108]] st.length (st++[.lst [.str [98,97,114,101],.str [102,117,108,108],enc (.jn (.jn (.lf [103]) (.lf [102])) (.lf [102])),.str [108]]]) (by simp;exact⟨rfl,rfl,rfl⟩);change M3 [.str [114],.loc st.length] _=R.ok (enc (cW false)) _ at hd;generalize enc (cW false)=W at *;generalize enc (.jn (.jn (.lf [103]) (.lf [102])) (.lf [102]))=W2 at *;generalize enc (.jn (.lf [103]) (.lf [102]))=W3 at *;have x0:∀s,aY (.tup [.str [114],.str [108]]) (.int 0) s=.ok (.str [114]) s:=λs=>jD s 0 _ _ rfl;have x1:∀s,aY (.tup [.str [114],.str [108]]) (.int 1) s=.ok (.str [108]) s:=λs=>jD s 1 _ _ rfl;simp[startM,x0,x1,j1,j2,hd];exact o9 hu
def zk8(m:Bool)(st:ak):zcm [.str (Ni m)] st=.ok (enc (bD m)) st:=by
 have lw:=zh8 (.lf [119]) (.lf [120]) st rfl rfl;change U0 [.str [119],.str [120]] st=R.ok (enc dX) st at lw;have vg:val dX=true:=rfl;have p1:=zqy (.lf [116]) (.lf [97]) dX st rfl rfl vg;have p2:=zqy dX (.lf [97]) (.lf [116]) st vg rfl rfl;rw[show enc (.lf [116])=.str [116] from rfl,show enc (.lf [97])=.str [97] from rfl]at p1 p2;have j1:=uL (.lf [121]) (hold [.lf [116],.lf [97],dX]) st;have j2:=uL (.lf [121]) (hold [dX,.lf [97],.lf [116]]) st;rw[show enc (.lf [121])=.str [121] from rfl]at j1 j2;have hu:=fB st.length (bD m);unfold zcm bu bh zfm;cases m with
 | true =>
  change _=R.ok (enc (bD true)) st at j1;generalize enc (bD true)=W at *;generalize enc (hold [.lf [116],.lf [97],dX])=W1 at *;generalize enc dX=W2 at *;simp[startM,lw,p1,j1,dY hu]
 | false =>
  change _=R.ok (enc (bD false)) st at j2;generalize enc (bD false)=W at *;generalize enc (hold [dX,.lf [97],.lf [116]])=W1 at *;generalize enc dX=W2 at *;simp[startM,lw,p2,j2,dY hu]
def zg0(st:ak):zby [] st=.ok (enc dH) st:=by
 have hd:=zhr (.lf [118]) [.lf [101],.lf [102]] st.length (st++[.lst [.str [101],.str [102]]]) (by simp;exact⟨rfl,rfl⟩);change M3 [.str [118],.loc st.length] _=R.ok (enc dH) _ at hd;have hu:=fB st.length dH;unfold zby bu bh zfj;generalize enc dH=W at *;simp[startM,hd];exact o9 hu
def zp5(row:Tr)(st:ak)(h:Bs st):zd0 [enc row] st=.ok (enc (lA row)) st:=by
 have et:=zg0 st;have mo:=Zh tG dH st h.t1 h.c (by decide) (by decide);have pi:=xQ [([101],row)] (bQ dH tG) st h (by have:=xZ dH tG;have e:lv dH=3:=rfl;simp at this;omega);have ds:=Dd [101] (vr 0) row [some (enc row)] st (λs=>by simp);change _=R.ok (enc (lA row)) _ at pi;have hu:=fB st.length (lA row);simp only[gm,gZ]at mo;unfold zd0 bu bh zio;generalize fL (cF (ct (.str [101])) (vr 0) iH)=DE at *;generalize enc (lA row)=W1 at *;generalize enc row=W0 at *;generalize enc (bQ dH tG)=W2 at *;generalize enc dH=W3 at *;generalize aV _=KV at *;simp[startM,et,mo,ds,pi];exact o9 hu
def zko(row tab:Tr)(st:ak)(h1:val row=true)(h2:val tab=true):zb8 [enc row,enc tab] st=.ok (enc (hold [row,tab])) st:=by
 have hd:=je [row,tab] [enc row,enc tab] rfl st (by simp[h1,h2]);have hu:=fB st.length (hold [row,tab]);unfold zb8 bu bh zfa;generalize enc (hold [row,tab])=W at *;generalize enc row=W1 at *;generalize enc tab=W2 at *;simp[startM,hd];exact o9 hu
def Let(c:Nat):Prop:=c=95\/97<=c/\c<=122
def GD:∀c,97<=c->c<=122->tE [c]=true:=by
 have key:∀k:Fin 26,tE [97+k.val]=true:=by decide +kernel
 intro c h1 h2;have:=key ⟨c - 97,by omega⟩;rwa[show 97+(c - 97)=c by omega]at this
def zhv(c:Nat)(st:ak)(h:Let c):Zr [.str [c]] st=.ok (.str (dn c)) st:=by
 unfold Zr bu bh zgo;rcases h with rfl | ⟨h1,h2⟩
 ·have a:tE [95]=false:=by decide +kernel
  have hd:dn 95=[100]:=rfl;rw[hd];simp[startM,lQ,a,cM,cD,dY]
 ·have a:=GD c h1 h2;have hd:dn c=[100,c]:=by unfold dn;rw[ae2 (by omega)]
  rw[hd];simp[startM,lQ,a,cM,cD,bY,dY]
def dnD:D->D
 | .str [c]=>.str (dn c)
 | d=>d
def yc{ls:List Nat}(h:∀c∈ls,Let c):ls.all (λc=>decide (c<128))=true:=List.all_eq_true.mpr λc hc=>by
 have:=h c hc;unfold Let at this;simp;omega
def zjv(ls:List Nat)(st:ak)(h:∀c∈ls,Let c)(hl:ls.length<=1000):zcv [.str ls] st=.ok (enc (cL ls)) st:=by
 have ha:∀x∈ls,x<128:=λx hx=>by have:=h x hx;unfold Let at this;omega
 have cc:=S6 (capt:=[none]) (mi:=yN (vr 0)) (g:=aW 0) (e:=az Zr [] (aj (vr 0) au)) (env:=[some (.str ls)]) (st:=st) (st1:=st) (items:=ls.map λc=>D.str [c]) (gs:=[]) dnD (λenv=>env.length=1) (by simp;exact ha) rfl (by simp;omega) (λys=>by simp) (λd hd cB ys hP=>by
  obtain⟨c,hc,rfl⟩:=gj.mp hd;obtain⟨x,rfl⟩:=mF.mp hP;have:=zhv c (st++[.lst ys]) (h c hc);exact⟨[some (.str [c])],rfl,by simp,by simp[dnD,this]⟩)
 rw[show (ls.map λc=>D.str [c]).map dnD=ls.map λc=>D.str (dn c) by rw[gJ];rfl]at cc;have hd:=zhr (.lf [115]) ((ls.map λc=>.lf (dn c))++cU.map .lf) (st.length+2) (st++[.lst (ls.map λc=>D.str (dn c)),.lst [.str [110],.str [102],.str [108],.str [114]],.lst ((ls.map λc=>D.str (dn c))++[.str [110],.str [102],.str [108],.str [114]])]) (by
  simp;rfl)
 change M3 [.str [115],.loc (st.length+2)] _=R.ok (enc (cL ls)) _ at hd;have hu:=fB st.length (cL ls);have hlen:(ls.map λc=>D.str (dn c)).length<=1000:=by simpa using hl
 unfold zcv bu bh ziu;generalize hCE:dU _ _ _ _ _=CE at *;generalize (ls.map λc=>D.str (dn c))=X at *;generalize enc (cL ls)=W at *;have ad:bY (.loc st.length) (.loc (st.length+1)) (st++[.lst X,.lst [.str [110],.str [102],.str [108],.str [114]]])=.ok (.loc (st.length+2)) (st++[.lst X,.lst [.str [110],.str [102],.str [108],.str [114]],.lst (X++[.str [110],.str [102],.str [108],.str [114]])]):=by
  have h4:X.length+4<=1000000:=by omega
  simp[bY,h4]
 simp[startM,cc,tL,ad,hd];exact o9 hu
def zrw(ls:List Nat):lv (cL ls)=ls.length+5:=by
 have key:∀(ts:List Tr) (p:Tr),(∀t∈ts,lv t=1)->lv (apps p ts)=lv p+ts.length:=by
  intro ts
  induction ts with
  | nil=>intro p _;rfl
  | cons t ts ih =>
   intro p h;have:=ih (.jn p t) λx hx=>h x (by simp[hx]);have h1:=h t (by simp);show lv (apps (.jn p t) ts)=_;rw[this,lv,h1,gw];omega
 unfold cL;rw[key]
 ·simp[lv];omega
 ·intro t ht;rcases mO.mp ht with ht | ht
  ·obtain⟨c,_,rfl⟩:=gj.mp ht;rfl
  ·obtain⟨c,_,rfl⟩:=gj.mp ht;rfl
def zp8(ls:List Nat)(st:ak)(hb:Bs st)(h:∀c∈ls,Let c)(hl:ls.length<=9):zdv [.str ls] st=.ok (enc (bQ (cL ls) dW)) st:=by
 have rt:=zjv ls st h (by omega);have mo:=Zh dW (cL ls) st hb.t1 hb.c (by decide) (by rw[zrw];omega);have hu:=fB st.length (bQ (cL ls) dW);simp only[gm,gZ]at mo;unfold zdv bu bh zhx;generalize enc (bQ (cL ls) dW)=W at *;generalize enc (cL ls)=W1 at *;simp[startM,rt,mo,dY hu]
def zqq(ls:List Nat)(st:ak)(hb:Bs st)(h:∀c∈ls,Let c)(hl:ls.length<=9):zd7 [.str ls] st=.ok (.int (qT ls:Nat)) st:=by
 have rt:=zjv ls st h (by omega);obtain⟨m1,m2⟩:=zhy dW (cL ls) st hb (by decide) (by rw[zrw];omega);have c1:=zbz 2 st (by omega);have c2:=zbz 3 st (by omega);simp only[gm,gZ]at m1;unfold zd7 bu bh zht qT;rw[show ((2:Nat):Int)=2 from rfl,show ((2+2*2:Nat):Int)=6 from rfl]at c1;rw[show ((3:Nat):Int)=3 from rfl,show ((2+2*3:Nat):Int)=8 from rfl]at c2;generalize aN (cX (cL ls) dW)=Y at *;generalize enc (cL ls)=W1 at *;generalize (cX (cL ls) dW).sum=S at *;simp[startM,rt,m1,m2,c1,c2];exact o9 (by simp)
end Law
set_option maxHeartbeats 0
namespace M
def SJ{st:ak}{n:Nat}{ds:List D}(h:aA st n=some ds):fH [.loc n] st=.ok (.int ds.length) st:=by
 unfold aA at h;unfold fH;cases e:st[n]? with
 | none=>rw[e]at h;cases h
 | some o =>
  rw[e]at h;cases o<;>first | (cases h;done) | (dsimp only;unfold wN;simp[aA,e]at h ⊢;exact h ▸ rfl)
def A_{st st':ak}{d:D}{n:Nat}(hn:n<st.length)(tO:st'[n]?≠st[n]?):gc st (.ok d st')=.ok d st':=by
 have h:st'.take st.length≠st:=λe=>tO (by
  conv=>rhs;rw[<-e]
  rw[pH,ae1 hn])
 unfold gc;dsimp only;rw[ae2 (λq=>h q.1)];cases d with
 | loc k =>
  dsimp only;cases st'[k]? with
  | none=>rfl
  | some o=>dsimp only;rw[ae2 (λq=>h q.1)]
 | _=>rfl
def Nv(a:ak)(x y:MO)(n:Nat)(h:n=a.length):(a++[x]).set n y=a++[y]:=by subst h;simp
def zf4(a b:ak)(n:Nat)(y:MO)(h:n<a.length):(a++b).set n y=a.set n y++b:=by
 rw[List.set_append,ae1 h]
def UJ{st:ak}(h:bG st){n:Nat}{o:MO}(ho:o.dD=false):bG (st.set n o):=λq hq=>by
 rcases List.mem_or_eq_of_mem_set hq with hq | rfl
 ·exact h q hq
 ·exact ho
namespace Tr
def Y5{ls:List Nat}{f:Nat->Tr}{c:Nat}(h:c∈ls):look (ls.map λc=>([c],f c)) [c]=some (f c):=by
 induction ls with
 | nil=>cases h
 | cons x l ih =>
  rw[gm,Nx];by_cases e:x=c
  ·rw[ae1 (by rw[e]),e]
  ·rw[ae2 (λz=>e (by simpa using z))];exact ih ((gq.mp h).resolve_left (afb e))
def Yo{a b:Nat}(h:dn a=dn b):a=b:=by
 unfold dn at h
 split at h<;>split at h<;>simp_all
def abL(c x:Nat)(hx:x≠100):dn c≠[x]:=λe=>by
 unfold dn at e
 split at e<;>simp at e
 exact hx e.symm
end Tr
end M
namespace Law
open L2 M Tr
def zoz(σ:List (List Nat×Tr))(n:Nat)(s:List Nat)(v:Tr)(st:ak)(h:st[n]? = some (.dkc (aV σ)))(hl:σ.length<=10000)(hs:∀p∈σ,p.1≠s):iW (.loc n) (.str s) (enc v) st=.ok () (st.set n (.dkc (aV (σ++[(s,v)])))):=by
 unfold iW;simp only[h,yX];rw[ae1 (by simp[aV];omega)];congr 3;unfold putN;rw[ae2]
 ·simp[aV]
 ·simp only[aV,List.any_map,p7,Function.comp,afs,not_exists,not_and];intro p hp e;exact hs p hp (SN.mp (afl e))
def YH(σ:List (List Nat×Tr))(n:Nat)(s:List Nat)(v:Tr)(st:ak)(h:st[n]? = some (.dkc (aV σ))\/st[n]? = some (.dkf (aV σ)))(hv:look σ s=some v):uD (.loc n) (.str s) st=.ok (enc v) st:=by
 have e:valN (aV σ) (.inr (strOf s))=some (enc v):=by rw[zj2,hv];rfl
 unfold uD;rcases h with h | h<;>simp only[h,yX,e]
def zsc(ls:List Nat)(f:Nat->Tr):(aV (ls.map λc=>([c],f c))).map (λp=>ye p.1)=ls.map λc=>D.str [c]:=by
 unfold aV;rw[gJ,gJ];exact kJ λc _=>by simp[ye]
def Er(ls:List Nat)(hn:ls.Nodup)(h:∀c∈ls,Let c)(hl:ls.length<=9)(ql num:Tr)(eU:Nat->Tr)(n:Nat)(st:ak)(hb:Bs st)(hd:st[n]? = some (.dkc (aV (ls.map λc=>([c],eU c)))))(hv:lv ql<=400000) :
  zfl [enc ql,enc num,.loc n] st=.ok (enc (sb (look (([110],num)::ls.map λc=>(dn c,eU c))) ql)) (st.set n (.dkf (aV (ls.map λc=>([c],eU c))))++[.dkc (aV (([110],num)::ls.map λc=>(dn c,eU c)))]):=by
 have T4:=(gf.mp hd).1;have ds:=Dd [110] (vr 1) num [some (enc ql),some (enc num),some (.loc n),none,none] st (λs=>by simp);generalize hσ:(ls.map λc=>([c],eU c))=σL at *
 let Z:Nat->ak:=λi=>st.set n (.dkf (aV σL))++[.dkc (aV (([110],num)::(ls.take i).map λc=>(dn c,eU c)))]
 unfold zfl bu bh zl3;generalize hB:(lB (aL uD (vr 2) (vr 4)) _:MS)=B;obtain⟨cB,st',h1,a4,rfl,rfl⟩:=GP (g:=aW 4) (b:=B) (gs:=[]) (items:=ls.map λc=>D.str [c])
  (λi env s=>∃(a4:Option D),env=[some (enc ql),some (enc num),some (.loc n),some (.loc st.length),a4]/\s=Z i)
  (env:=[some (enc ql),some (enc num),some (.loc n),some (.loc st.length),none]) (st:=Z 0) ⟨none,rfl,rfl⟩ (by
   rintro i d env s hi ⟨a4,rfl,rfl⟩;obtain⟨c,hc,rfl⟩:=Hc hi;have G7:=gW hc;have zl:(st.set n (.dkf (aV σL))).length=st.length:=by simp
   have zn:(Z i)[n]? = some (.dkf (aV σL)):=by
    show (st.set n _++_)[n]? = _;rw[gF (by rw[zl];exact T4)];simp[T4]
   have zp:(Z i)[st.length]? = some (.dkc (aV (([110],num)::(ls.take i).map λc=>(dn c,eU c)))):=by
    show (st.set n _++_)[_]? = _;rw[g_ (by rw[zl];exact gb _),zl];simp
   have dnm:=zhv c (Z i) (h c G7);have ix:=YH σL n [c] (eU c) (Z i) (.inr zn) (by rw[<-hσ];exact Y5 G7);have sk:=zoz (([110],num)::(ls.take i).map λc=>(dn c,eU c)) st.length (dn c) (eU c) (Z i) zp (by simp;omega) (λp hp=>by
    rcases gq.mp hp with rfl | hp
    ·exact λe=>abL c 110 (by decide) e.symm
    ·obtain⟨x,hx,rfl⟩:=gj.mp hp;intro e;have:x=c:=Yo e;subst this;obtain⟨j,hj,q⟩:=mZ.mp hx;rw[km]at hj;rw[pq]at q;have:ls[j]? = ls[i]?:=by rw[hc,<-q];exact gK (by omega)
     have:=(nF (by omega) hn).mp this;omega)
   have e2:(Z i).set st.length (.dkc (aV ((([110],num)::(ls.take i).map λc=>(dn c,eU c))++[(dn c,eU c)])))=Z (i+1):=by
    show (st.set n _++_).set _ _=st.set n _++_;rw[Nv _ _ _ _ zl.symm,kE,hc];simp
   rw[e2]at sk;refine⟨by simp,_,_,rfl,[some (enc ql),some (enc num),some (.loc n),some (.loc st.length),some (.str [c])],Z (i+1),.inl ?_,_,rfl,rfl⟩;rw[<-hB];generalize Z i=Zi at *;generalize Z (i+1)=Zj at *;generalize enc (eU c)=W at *;generalize enc ql=W1 at *;generalize enc num=W2 at *;simp[ix,dnm,sk]) (λ_ _ _=>by simp)
 rw[gh]at h1;have ez:Z ls.length=st.set n (.dkf (aV σL))++[.dkc (aV (([110],num)::ls.map λc=>(dn c,eU c)))]:=by show _++_=_;rw[k_]
 have e0:(st++[.dkc (aV [([110],num)])]:ak).set n (.dkf (aV σL))=Z 0:=by
  show _=st.set n _++_;rw[zf4 _ _ _ _ T4];simp
 have dk:Uj (vr 2) [some (enc ql),some (enc num),some (.loc n),some (.loc st.length),none] (st++[.dkc (aV [([110],num)])])=.ok (ls.map λc=>D.str [c],[]) (Z 0):=by
  unfold Uj;have:(st++[.dkc (aV [([110],num)])]:ak)[n]? = some (.dkc (aV σL)):=cZ hd;have kk:=zsc ls eU;rw[hσ]at kk;simp only[Ae,kW,mX,R.aB,this,e0,kk]
 have zl:(st.set n (.dkf (aV σL))).length=st.length:=by simp
 have pi:=zhn (([110],num)::ls.map λc=>(dn c,eU c)) ql st.length (Z ls.length) (by rw[ez,g_ (by rw[zl];exact gb _),zl];simp) (by
  rw[ez];refine cZ ?_;rw[gO (λe=>by subst e;rw[hb.t2]at hd;cases hd)];exact hb.t2) (by
  rw[ez];have:=UJ hb.c (n:=n) (o:=.dkf (aV σL)) rfl;simp[this]) hv
 rw[<-ez];have hz:(Z ls.length)[n]?≠st[n]?:=by
  rw[ez,gF (by rw[zl];exact T4),hd];simp[T4]
 have g:=A_ (st:=st) (st':=Z ls.length) (d:=enc (sb (look (([110],num)::ls.map λc=>(dn c,eU c))) ql)) T4 hz;rw[show startM 5 [enc ql,enc num,D.loc n]=[some (enc ql),some (enc num),some (.loc n),none,none] from rfl];generalize hDE:fL (cF (ct (.str [110])) (vr 1) iH)=DE at *;generalize hDK:Uj (vr 2)=DK at *;generalize Z ls.length=Zl at *;generalize Z 0=Z0 at *;generalize aV [([110],num)]=K1 at *;generalize enc (sb (look (([110],num)::ls.map λc=>(dn c,eU c))) ql)=W3 at *;generalize enc ql=W1 at *;generalize enc num=W2 at *;generalize (ls.map λc=>D.str [c])=X at *;simp[ds,dk,h1,pi];exact g
end Law
set_option maxHeartbeats 0
namespace Law
open L2 M Tr
def CV(n:Nat)(st:ak):zdj [.int n] st=.ok (.int ((n / 2:Nat):Int)) st:=by
 have f2:jF (.int n) (.int 2) st=.ok (.int ((n:Int) / 2)) st:=zed st n 2 (by omega);have e:(n:Int) / 2=((n / 2:Nat):Int):=by omega
 rw[e]at f2;unfold zdj bu bh zjd;generalize ((n / 2:Nat):Int)=q at *;simp[startM,f2,dY]
def Gh(a:List Nat)(x:Nat):aN (a++[x])=aN a++[.int x]:=by simp[aN]
def zkb(a:List Nat):(aN a).length=a.length:=by simp[aN]
def zje(k many:Nat)(st:ak)(hk:k<many)(hm:many<=4096):Zu [.int k,.int many] st=.ok (.loc st.length) (st++[.lst (aN (bB 13 k many))]):=by
 unfold Zu bu bh zi0;generalize hC:(fW (aL gtV (vr 4) (ct (.int 1))):MT)=C;generalize hB:(aD (aK 5 _) _:MS)=B
 let E:Nat->Nat->Option D->Option D->aJ:=λfirst left a5 a6=>[some (.int k),some (.int many),some (.loc st.length),some (.int (first:Nat)),some (.int (left:Nat)),a5,a6]
 let S:List Nat->ak:=λdone=>st++[.lst (aN done)]
 have stop:∀(first left:Nat) (done:List Nat) (a5 a6:Option D),left<=1->bj C B (E first left a5 a6) (S done)=.ok (.nx (E first left a5 a6)) (S done):=λfirst left done a5 a6 hl=>by
  have c0:¬ (left:Int) > 1:=by omega
  rw[wY,<-hC];show _=R.ok (Out.nx (E first left a5 a6)) (S done);simp only[E];generalize S done=Z;simp[c0]
 have go:∀(first left:Nat) (done:List Nat) (a5 a6:Option D),2<=left->left<=4096->first<=4096->done.length<=1000 ->
   ∃G9 a6',bj C B (E first left a5 a6) (S done)=if k<first+left / 2 then bj C B (E first (left / 2) G9 a6') (S (done++[0])) else bj C B (E (first+left / 2) (left - left / 2) G9 a6') (S (done++[1])):=λfirst left done a5 a6 hl CT hf hd=>by
  have c1:(left:Int) > 1:=by omega
  have hh:=CV left (S done);have ty:cM "list" (.loc st.length) (S done)=true:=by simp[cM,S]
  have ap:∀x:Nat,aU (.loc st.length) [.int (x:Nat)] (S done)=.ok .non (S (done++[x])):=λx=>by
   show aU _ _ (st++[.lst (aN done)])=R.ok _ (st++[.lst (aN (done++[x]))]);have:=zkb done;rw[Gh];generalize aN done=Y at *;have hy:Y.length<1000000:=by omega
   simp[aU,hy]
  by_cases hc:k<first+left / 2
  ·refine⟨some (.int ((left / 2:Nat):Int)),some (.int 0),?_⟩;rw[ae1 hc,wY,<-hC,<-hB];have a0:=ap 0;rw[show ((0:Nat):Int)=0 from rfl]at a0;have c2:(k:Int)<(first:Nat)+((left / 2:Nat):Int):=by omega
   have mu:∀s,yU (.int ((left / 2:Nat):Int)) (.int 0) s=.ok (.int 0) s:=λs=>by have:=zkl s ((left / 2:Nat):Int) 0 (by omega);simpa using this
   simp only[E];generalize S (done++[0])=Z1 at *;generalize S done=Z at *;generalize ((left / 2:Nat):Int)=h2 at *;simp[c1,hh,c2,ty,a0,mu]
  ·refine⟨some (.int ((left / 2:Nat):Int)),some (.int 1),?_⟩;rw[ae2 hc,wY,<-hC,<-hB];have a0:=ap 1;rw[show ((1:Nat):Int)=1 from rfl]at a0;have c2:¬ (k:Int)<(first:Nat)+((left / 2:Nat):Int):=by omega
   have mu:∀s,yU (.int ((left / 2:Nat):Int)) (.int 1) s=.ok (.int ((left / 2:Nat):Int)) s:=λs=>by have:=zkl s ((left / 2:Nat):Int) 1 (by omega);simpa using this
   have e1:(first:Int)+((left / 2:Nat):Int)=((first+left / 2:Nat):Int):=by omega
   have e2:(left:Int) - ((left / 2:Nat):Int)=((left - left / 2:Nat):Int):=by omega
   rw[e1]at c2;simp only[E];generalize S (done++[1])=Z1 at *;generalize S done=Z at *;generalize ((first+left / 2:Nat):Int)=f2 at *;generalize ((left - left / 2:Nat):Int)=l2 at *;generalize ((left / 2:Nat):Int)=h2 at *;simp[c1,hh,e1,c2,ty,a0,mu,e2]
 have loop:∀(f first left:Nat) (done:List Nat) (a5 a6:Option D),first<=k->k<first+left->left<=2 ^ f->done.length+f<=100->f<=12 ->
   ∃(fi le:Nat) (G9 a6':Option D),bj C B (E first left a5 a6) (S done)=.ok (.nx (E fi le G9 a6')) (S (done++bB (f+1) (k - first) left)):=by
  intro f
  induction f with
  | zero =>
   intro first left done a5 a6 h1 h2 h3 _ _;have hl:left<=1:=by simpa using h3
   refine⟨first,left,a5,a6,?_⟩;rw[stop first left done a5 a6 hl,bB,ae1 hl,gY]
  | succ f ih =>
   intro first left done a5 a6 h1 h2 h3 hd hf;have hp:2 ^ (f+1)=2 ^ f+2 ^ f:=by rw[nU];omega
   have dw:2 ^ f<=2 ^ 11:=Nat.pow_le_pow_right (by decide) (by omega);by_cases hl:left<=1
   ·refine⟨first,left,a5,a6,?_⟩;rw[stop first left done a5 a6 hl,bB,ae1 hl,gY]
   ·obtain⟨b5,b6,e⟩:=go first left done a5 a6 (by omega) (by omega) (by omega) (by omega);rw[bB,ae2 hl,e];by_cases hc:k<first+left / 2
    ·rw[ae1 hc,ae1 (by omega)];obtain⟨fi,le,c5,c6,e2⟩:=ih first (left / 2) (done++[0]) b5 b6 h1 hc (by omega) (by simp;omega) (by omega);exact⟨fi,le,c5,c6,by rw[e2,gP];rfl⟩
    ·rw[ae2 hc,ae2 (by omega)];obtain⟨fi,le,c5,c6,e2⟩:=ih (first+left / 2) (left - left / 2) (done++[1]) b5 b6 (by omega) (by omega) (by omega) (by simp;omega) (by omega);exact⟨fi,le,c5,c6,by rw[e2,gP,show k - (first+left / 2)=k - first - left / 2 by omega];rfl⟩
 obtain⟨fi,le,a5,a6,h1⟩:=loop 12 0 many [] none none (by omega) (by omega) (by omega) (by simp) (by omega);rw[mD,Nat.sub_zero]at h1;have g:=YS (st:=st) (o:=.lst (aN (bB 13 k many))) (by
  show bW st.length (aN _);generalize bB 13 k many=cs
  induction cs with
  | nil=>simp[aN]
  | cons c cs ih=>simpa[aN] using ih)
 change _=R.ok _ (st++[.lst (aN (bB 13 k many))]) at h1;change bj C B [some (.int k),some (.int many),some (.loc st.length),some (.int 0),some (.int many),none,none] (st++[.lst []])=_ at h1;simp only[E]at h1;generalize aN (bB 13 k many)=Y at *;simp[startM,h1];exact g
def pkD:D->D
 | .int i=>enc (aM i.toNat 2)
 | d=>d
def pcD:D->D
 | .int i=>.int ((6+bO i.toNat 2:Nat):Int)
 | d=>d
def Py(ts:List Nat):(aN ts).map pkD=(ts.map λt=>aM t 2).map enc:=by
 unfold aN;rw[gJ,gJ];exact kJ λt _=>by simp[pkD]
def DR(k many:Nat)(st:ak)(hb:Bs st)(hk:k<many)(hm:many<=4096):zep [.int k,.int many] st=.ok (enc (jj (bB 13 k many))) st:=by
 have tt:=zje k many st hk hm;obtain⟨tl,t1⟩:=zh2 13 k many;generalize bB 13 k many=ts at *;have KY:Bs (st++[.lst (aN ts)]):=hb.app (by simp);have cc:=S6 (capt:=[none]) (mi:=lu (az Zu [] (aj (vr 0) (aj (vr 1) au)))) (g:=aW 0) (e:=az Bm [] (aj (vr 0) (aj (ct (.int 2)) au))) (env:=[some (.int k),some (.int many)]) (st:=st) (st1:=st++[.lst (aN ts)]) (items:=aN ts) (gs:=[(st.length,.lst (aN ts))]) pkD (λenv=>env.length=1) (by
   generalize aN ts=Y at *;simp[tt]) rfl (by rw[zkb];omega) (λys=>by simp[uC]) (λd hd cB ys hP=>by
  obtain⟨t,ht,rfl⟩:=gj.mp hd;obtain⟨x,rfl⟩:=mF.mp hP;have h2:=t1 t ht;have pk:=Y6 t 2 (st++[.lst (aN ts)]++[.lst ys]) (cZ KY.t1) (by simp[hb.c]) (by omega) (by omega);rw[show ((2:Nat):Int)=2 from rfl]at pk;refine⟨[some (.int t)],rfl,rfl,?_⟩;rw[show pkD (.int t)=enc (aM t 2) by simp[pkD]];generalize (st++[.lst (aN ts)]++[.lst ys]:ak)=Z at *;generalize enc (aM t 2)=W at *;simp[pk])
 rw[Py]at cc;have hd:=zpf (ts.map λt=>aM t 2) (st++[.lst (aN ts)]:ak).length (st++[.lst (aN ts)]++[.lst ((ts.map λt=>aM t 2).map enc)]) (by simp) (λt ht=>by
  obtain⟨x,_,rfl⟩:=gj.mp ht;exact z8 _ _)
 change _=R.ok (enc (jj ts)) _ at hd;have hu:=fB st.length (jj ts);unfold zep bu bh zlv;generalize hCE:dU _ _ _ _ _=CE at *;have e0:startM 2 [D.int k,.int many]=[some (.int k),some (.int many)]:=rfl;rw[e0];generalize (ts.map λt=>aM t 2).map enc=X at *;generalize enc (jj ts)=W at *;generalize aN ts=Y at *;have ll:(st++[.lst Y]:ak).length=st.length+1:=by simp
 rw[ll]at cc hd;generalize hZ:(st++[.lst Y]++[.lst X]:ak)=Z at *;simp[cc,hd];rw[<-hZ,gP];exact o9 hu
def Qh(ts:List Nat):(aN ts).map pcD=aN (ts.map λt=>6+bO t 2):=by
 unfold aN;rw[gJ,gJ];exact kJ λt _=>by simp[pcD]
def zqm(k many:Nat)(st:ak)(hb:Bs st)(hk:k<many)(hm:many<=4096):zdx [.int k,.int many] st=.ok (.int ((2+2*(bB 13 k many).length+i_ (bB 13 k many)+(cX dH tG).headD 0:Nat):Int)) st:=by
 have tt:=zje k many st hk hm;obtain⟨tl,t1⟩:=zh2 13 k many;generalize bB 13 k many=ts at *;have KY:Bs (st++[.lst (aN ts)]):=hb.app (by simp);have cc:=S6 (capt:=[none]) (mi:=lu (vr 2)) (g:=aW 0) (e:=aL bY (az NK [] (aj (ct (.int 2)) au)) (az Zm [] (aj (vr 0) (aj (ct (.int 2)) au)))) (env:=[some (.int k),some (.int many),some (.loc st.length),none]) (st:=st++[.lst (aN ts)]) (st1:=st++[.lst (aN ts)]) (items:=aN ts) (gs:=[(st.length,.lst (aN ts))]) pcD (λenv=>env.length=1) (by
   generalize aN ts=Y at *;simp) rfl (by rw[zkb];omega) (λys=>by simp[uC]) (λd hd cB ys hP=>by
  obtain⟨t,ht,rfl⟩:=gj.mp hd;obtain⟨x,rfl⟩:=mF.mp hP;have h2:=t1 t ht;have hb2:Bs (st++[.lst (aN ts)]++[.lst ys]):=KY.app (by simp);have pk:=zir t 2 _ hb2 (by omega) (by omega);have hc:=zbz 2 (st++[.lst (aN ts)]++[.lst ys]) (by omega);rw[show ((2:Nat):Int)=2 from rfl]at pk hc;rw[show ((2+2*2:Nat):Int)=6 from rfl]at hc;refine⟨[some (.int t)],rfl,rfl,?_⟩;have e6:(6:Int)+((bO t 2:Nat):Int)=((6+bO t 2:Nat):Int):=by omega
  rw[show pcD (.int t)=.int ((6+bO t 2:Nat):Int) by simp[pcD]];generalize (st++[.lst (aN ts)]++[.lst ys]:ak)=Z at *;generalize ((bO t 2:Nat):Int)=W at *;simp[pk,hc,e6])
 rw[Qh]at cc;have l1:fH [.loc st.length] (st++[.lst (aN ts)]++[.lst (aN (ts.map λt=>6+bO t 2))])=.ok (.int ts.length) (st++[.lst (aN ts)]++[.lst (aN (ts.map λt=>6+bO t 2))]):=by
  have:=SJ (st:=st++[.lst (aN ts)]++[.lst (aN (ts.map λt=>6+bO t 2))]) (n:=st.length) (ds:=aN ts) (by simp[aA]);rwa[zkb]at this
 have hc:=zbz ts.length (st++[.lst (aN ts)]++[.lst (aN (ts.map λt=>6+bO t 2))]) (by omega);have sm:=sum_ints (ts.map λt=>6+bO t 2) (st.length+1) (st++[.lst (aN ts)]++[.lst (aN (ts.map λt=>6+bO t 2))]) (by simp);change _=R.ok (D.int (i_ ts:Nat)) _ at sm;have hb3:Bs (st++[.lst (aN ts)]++[.lst (aN (ts.map λt=>6+bO t 2))]):=KY.app (by simp);have et:=zg0 (st++[.lst (aN ts)]++[.lst (aN (ts.map λt=>6+bO t 2))]);have mc:=zg4 tG dH _ hb3.t1 hb3.c (by decide) (by decide);have em:aN (cX dH tG)=[.int 2,.int 6]:=by kernel_rfl
 have eh:(cX dH tG).headD 0=2:=by kernel_rfl
 rw[em]at mc;rw[eh];simp only[gm,gZ]at mc;unfold zdx bu bh zhw;generalize hCE:dU _ _ _ _ _=CE at *;have e0:startM 4 [D.int k,.int many]=[some (.int k),some (.int many),none,none]:=rfl;rw[e0];have ll:(st++[.lst (aN ts)]:ak).length=st.length+1:=by simp
 rw[ll]at cc;generalize aN (ts.map λt=>6+bO t 2)=X at *;generalize aN ts=Y at *;generalize enc dH=W at *;have zl:(st++[.lst Y]++[.lst X]:ak).length=st.length+2:=by simp
 rw[zl]at mc;have ix:aY (.loc (st.length+2)) (.int 0) (st++[.lst Y]++[.lst X]++[.lst [.int 2,.int 6]])=.ok (.int 2) (st++[.lst Y]++[.lst X]++[.lst [.int 2,.int 6]]):=z6 _ _ _ [.int 2,.int 6] _ (by simp[aA]) rfl;have ef:((2+2*ts.length:Nat):Int)+((i_ ts:Nat):Int)+2=((2+2*ts.length+i_ ts+2:Nat):Int):=by omega
 generalize hZ2:(st++[.lst Y]++[.lst X]++[.lst [.int 2,.int 6]]:ak)=Z2 at *;generalize hZ:(st++[.lst Y]++[.lst X]:ak)=Z at *;generalize hZ1:(st++[.lst Y]:ak)=Z1 at *;generalize ((2+2*ts.length+i_ ts+2:Nat):Int)=r4 at *;generalize ((2+2*ts.length:Nat):Int)=r1 at *;generalize ((i_ ts:Nat):Int)=r2 at *;generalize (ts.length:Int)=r3 at *;simp[tt,cc,l1,hc,sm,et,mc,ix,ef];rw[<-hZ2,<-hZ,<-hZ1,gP,gP];exact o9 (by simp)
def Ec:∀(f:Nat) (es:List Tr) (n:Nat) (st:ak),0<es.length->es.length<=2 ^ f->f<=9->aA st n=some (es.map enc)->(∀e∈es,val e=true)->M8 (f+1) [.loc n] st=.ok (enc (cV (f+1) es)) st:=by
 intro f
 induction f with
 | zero =>
  intro es n st h0 h1 _ hi hv;have hl:es.length=1:=by simp at h1;omega
  obtain⟨e,rfl⟩:=mF.mp hl;have l1:=SJ hi;have ix:aY (.loc n) (.int 0) st=.ok (enc e) st:=z6 _ _ _ _ _ hi rfl;have hu:=fB st.length e;rw[show cV (0+1) [e]=e from rfl];unfold M8 bu bh zc0;generalize enc e=W at *;simp[startM,l1,ix,dY hu]
 | succ f ih =>
  intro es n st h0 h1 hf hi hv;have hp:2 ^ (f+1)=2 ^ f+2 ^ f:=by rw[nU];omega
  have l1:=SJ hi;rw[gh]at l1;by_cases hl:es.length=1
  ·obtain⟨e,rfl⟩:=mF.mp hl;have ix:aY (.loc n) (.int 0) st=.ok (enc e) st:=z6 _ _ _ _ _ hi rfl;have hu:=fB st.length e;rw[show cV (f+1+1) [e]=e from rfl];unfold M8 bu bh zc0;generalize enc e=W at *;rw[show (([e]:List Tr).length:Int)=1 from rfl]at l1;simp[startM,l1,ix,dY hu]
  ·have c1:¬ (es.length:Int)=1:=by omega
   have hh:=CV es.length st;have e1:cV (f+1+1) es=hold [cV (f+1) (es.take (es.length / 2)),cV (f+1) (es.drop (es.length / 2))]:=by rw[cV,ae2 hl]
   have l2:(es.take (es.length / 2)).length=es.length / 2:=by rw[km];omega
   have l3:(es.drop (es.length / 2)).length=es.length - es.length / 2:=mL;have s1:zU (.loc n) none (some ((es.length / 2:Nat):Int)) st=.ok (.loc st.length) (st++[.lst ((es.take (es.length / 2)).map enc)]):=by
    have:=LR (es.map enc) (es.length / 2) (by rw[gh];omega);unfold zU;simp only[hi,this,<-List.map_take]
   have r1:=ih (es.take (es.length / 2)) st.length (st++[.lst ((es.take (es.length / 2)).map enc)]) (by omega) (by omega) (by omega) (by simp[aA]) (λe he=>hv e (m_ he));have hi2:aA (st++[.lst ((es.take (es.length / 2)).map enc)]) n=some (es.map enc):=zpv hi;have s2:zU (.loc n) (some ((es.length / 2:Nat):Int)) none (st++[.lst ((es.take (es.length / 2)).map enc)])=.ok (.loc (st.length+1)) (st++[.lst ((es.take (es.length / 2)).map enc)]++[.lst ((es.drop (es.length / 2)).map enc)]):=by
    have:=L_ (es.map enc) (es.length / 2);unfold zU;simp only[hi2,this,<-List.map_drop];simp
   have r2:=ih (es.drop (es.length / 2)) (st.length+1) (st++[.lst ((es.take (es.length / 2)).map enc)]++[.lst ((es.drop (es.length / 2)).map enc)]) (by omega) (by omega) (by omega) (by simp[aA]) (λe he=>hv e (ni he));have v1:=SM (f+1) _ λe he=>hv e (m_ (i:=es.length / 2) he);have v2:=SM (f+1) _ λe he=>hv e (ni (i:=es.length / 2) he);have hd:=je [cV (f+1) (es.take (es.length / 2)),cV (f+1) (es.drop (es.length / 2))] [enc (cV (f+1) (es.take (es.length / 2))),enc (cV (f+1) (es.drop (es.length / 2)))] rfl (st++[.lst ((es.take (es.length / 2)).map enc)]++[.lst ((es.drop (es.length / 2)).map enc)]) (by simp[v1,v2]);rw[<-e1]at hd;have hu:=fB st.length (cV (f+1+1) es);have ef:M8 (f+1+1)=bu (bh 2 (zc0 (M8 (f+1)))):=rfl;rw[ef];unfold bu bh zc0;generalize M8 (f+1)=FT at *;have zl:(st++[.lst ((es.take (es.length / 2)).map enc)]++[.lst ((es.drop (es.length / 2)).map enc)]:ak).length=st.length+2:=by simp
   rw[zl]at hd;generalize (es.take (es.length / 2)).map enc=X1 at *;generalize (es.drop (es.length / 2)).map enc=X2 at *;generalize enc (cV (f+1+1) es)=W at *;generalize enc (cV (f+1) (es.take (es.length / 2)))=W1 at *;generalize enc (cV (f+1) (es.drop (es.length / 2)))=W2 at *;generalize hZ2:(st++[.lst X1]++[.lst X2]:ak)=Z2 at *;generalize hZ1:(st++[.lst X1]:ak)=Z1 at *;have hz2:Z2.length=st.length+2:=by rw[<-hZ2,<-hZ1];simp
   generalize ((es.length / 2:Nat):Int)=q at *;generalize (es.length:Int)=q2 at *;simp[startM,l1,c1,hh,s1,r1,s2,r2,hz2,hd];rw[<-hZ2,<-hZ1,gP,gP];exact o9 hu
def Zc(n:Nat)(es:List Tr):cV (n+1) es=if es.length=1 then es.headD Tr.tK else hold [cV n (es.take (es.length / 2)),cV n (es.drop (es.length / 2))]:=rfl
def Ed:∀(f n:Nat) (es:List Tr),0<es.length->es.length<=2 ^ f->f<=n->cV (n+1) es=cV (f+1) es:=by
 intro f
 induction f with
 | zero =>
  intro n es h0 h1 _;have hl:es.length=1:=by simp at h1;omega
  rw[Zc n,Zc 0,ae1 hl,ae1 hl]
 | succ f ih =>
  intro n es h0 h1 hn;have hp:2 ^ (f+1)=2 ^ f+2 ^ f:=by rw[nU];omega
  obtain⟨m,rfl⟩:∃m,n=m+1:=⟨n - 1,by omega⟩;by_cases hl:es.length=1
  ·rw[Zc (m+1),Zc (f+1),ae1 hl,ae1 hl]
  ·rw[Zc (m+1),Zc (f+1),ae2 hl,ae2 hl];rw[ih m (es.take (es.length / 2)) (by rw[km];omega) (by rw[km];omega) (by omega),ih m (es.drop (es.length / 2)) (by rw[mL];omega) (by rw[mL];omega) (by omega)]
def zqr(es:List Tr)(n:Nat)(st:ak)(h0:0<es.length)(h1:es.length<=512)(hi:aA st n=some (es.map enc))(hv:∀e∈es,val e=true):M8 10 [.loc n] st=.ok (enc (cV 13 es)) st:=by
 rw[Ed 9 12 es h0 (by omega) (by omega)];exact Ec 9 es n st h0 (by omega) (by omega) hi hv
end Law
set_option maxHeartbeats 0
namespace Law
open L2 M
structure jY where
 st:Int
 c:Nat
 w:Nat
 m:Nat
 g:Int
def jY.d(r:jY):D:=.tup [.int r.st,.str [r.c],.str [r.w],.str [r.m],.int r.g]
def zsu(s:Int)(c:Nat):keysOf [.int s,.str [c]]=some [.inl s,.inr (strOf [c])]:=rfl
def qm(r:jY):List Key:=[.inl r.st,.inr (strOf [r.c])]
def zq6(r:jY)(s:Int)(c:Nat):qm r=[.inl s,.inr (strOf [c])]↔r.st=s/\r.c=c:=by
 unfold qm;constructor
 ·intro h;injection h with h1 h2;injection h2 with h2 h3;injection h1 with h1;injection h2 with h2;injection h2 with h2;refine⟨h1,?_⟩;have:=congrArg Array.toList h2;simpa using this
 ·rintro ⟨rfl,rfl⟩;rfl
def tab:List (List Key×D)->List jY->List (List Key×D)
 | kvs,[]=>kvs
 | kvs,r::rs=>tab (match jK kvs (qm r) with | some _=>kvs | none=>kvs++[(qm r,r.d)]) rs
theorem Bu(s:Int)(c:Nat):∀(rs:List jY) (kvs:List (List Key×D)),jK (tab kvs rs) [.inl s,.inr (strOf [c])]=match jK kvs [.inl s,.inr (strOf [c])] with | some d=>some d | none=>(rs.find? λr=>decide (r.st=s/\r.c=c)).map jY.d
 | [],kvs=>by rw[tab];cases jK kvs [.inl s,.inr (strOf [c])]<;>rfl
 | r::rs,kvs=>by
  rw[tab,Bu s c rs,m9];by_cases h:r.st=s/\r.c=c
  ·have hk:=(zq6 r s c).mpr h;rw[hk];cases e:jK kvs [.inl s,.inr (strOf [c])] with
   | some d=>simp only[e]
   | none =>
    dsimp only;rw[zpq _ _ _ _ e,ae1 rfl];simp[h]
  ·have hk:¬ qm r=[.inl s,.inr (strOf [c])]:=λz=>h ((zq6 r s c).mp z);have hd:decide (r.st=s/\r.c=c)=false:=ae4 h;rw[hd];cases e:jK kvs (qm r) with
   | some d=>rfl
   | none =>
    dsimp only;rw[zpq _ _ _ _ e,ae2 hk]
theorem Bv{p:List Key×D}:∀{rs:List jY} {kvs:List (List Key×D)},p∈tab kvs rs->p∈kvs\/∃r∈rs,p.2=r.d
 | [],kvs,h=>by rw[tab]at h;exact .inl h
 | r::rs,kvs,h=>by
  rw[tab]at h;rcases Bv h with h | ⟨q,hq,e⟩
  ·cases e:jK kvs (qm r) with
   | some d=>rw[e]at h;exact .inl h
   | none =>
    rw[e]at h;rcases mO.mp h with h | h
    ·exact .inl h
    ·obtain rfl:p=(qm r,r.d):=by simpa using h
     exact .inr ⟨r,by simp,rfl⟩
  ·exact .inr ⟨q,kI _ hq,e⟩
def Hq(rs:List jY)(n:Nat)(st:ak)(h:st[n]? = some (.lst (rs.map jY.d)))(hl:rs.length<=1000):zcj [.loc n] st=.ok (.loc st.length) (st++[.dic (tab [] rs)]):=by
 unfold zcj bu bh zf1;generalize hb:(dF (cH "dict" oH (vr 1) _):MS)=body;have key:∀(l:List jY) (kvs:List (List Key×D)) (a2:Option D),kvs.length+l.length<=1000->∃a2',cN (aW 2) body [(n,.lst (rs.map jY.d))] (l.map jY.d) [some (.loc n),some (.loc st.length),a2] (st++[.dic kvs])=.ok (.nx [some (.loc n),some (.loc st.length),a2']) (st++[.dic (tab kvs l)]):=by
  intro l
  induction l with
  | nil=>intro kvs a2 _;exact⟨a2,by rw[gZ,cN,ae1 (by simp[cZ h]),tab]⟩
  | cons r l ih =>
   intro kvs a2 hk;rw[gw]at hk;have Ri:kvs.length<1000000:=by omega
   have ks:keysOf [.int r.st,.str [r.c]]=some (qm r):=rfl;rw[gm,cN,ae1 (by simp[cZ h]),O5,R.aB,tab];rw[show List.set [some (D.loc n),some (D.loc st.length),a2] 2 (some r.d)=[some (.loc n),some (.loc st.length),some r.d] from rfl];cases e:jK kvs (qm r) with
   | some d =>
    obtain⟨a2',h2⟩:=ih kvs (some r.d) (by omega);refine⟨a2',?_⟩;have tO:body [some (.loc n),some (.loc st.length),some r.d] (st++[.dic kvs])=.ok (.nx [some (.loc n),some (.loc st.length),some r.d]) (st++[.dic kvs]):=by
     rw[<-hb];simp only[qm]at e;simp[cM,jY.d,aY,rQ,Kr,oH,Ri,e]
    rw[tO,R.aB];exact h2
   | none =>
    obtain⟨a2',h2⟩:=ih (kvs++[(qm r,r.d)]) (some r.d) (by simp;omega);refine⟨a2',?_⟩;have tO:body [some (.loc n),some (.loc st.length),some r.d] (st++[.dic kvs])=.ok (.nx [some (.loc n),some (.loc st.length),some r.d]) (st++[.dic (kvs++[(qm r,r.d)])]):=by
     rw[<-hb];simp only[qm]at e;simp[cM,jY.d,aY,rQ,Kr,oH,Ri,e,qm]
    rw[tO,R.aB];exact h2
 obtain⟨a2,k1⟩:=key rs [] none (by simpa using hl);rw[show startM 3 [D.loc n]=[some (.loc n),none,none] from rfl];simp[cZ h,k1];refine YS (o:=.dic (tab [] rs)) (λp hp=>?_);rcases Bv hp with hp | ⟨r,_,e⟩
 ·exact absurd hp (kO)
 ·rw[e];simp[jY.d]
end Law
namespace Law
open L2 M Tr
def fV(r:Ru):jY:=⟨(r.s:Nat),r.x,r.w,if r.m=true then 108 else 114,(r.g:Nat)⟩
def xN(r:Ru):D:=(fV r).d
def Ut(r:Ru):xN r=.tup [.int r.s,.str [r.x],.str [r.w],.str (Ni r.m),.int r.g]:=by
 unfold xN fV jY.d Ni;cases r.m<;>rfl
def Eo(rs:List Ru):(rs.map fV).map jY.d=rs.map xN:=by rw[gJ];rfl
def Cy(B:Bk)(n s c:Nat)(st:ak)(h:st[n]? = some (.dic (tab [] (B.rs.map fV)))):FZ (.loc n) [.tup [.int s,.str [c]]] st=.ok (match zm B s c with | some r=>xN r | none=>.non) st:=by
 have e:=Bu (s:Nat) c (B.rs.map fV) [];rw[Hj]at e;dsimp only at e;rw[List.find?_map]at e;have e2:(λr=>decide ((fV r).st=(s:Int)/\(fV r).c=c))=λr:Ru=>decide (r.s=s) && decide (r.x=c):=by
  funext r;rw[mU];constructor
  ·intro q;obtain⟨a,b⟩:=afa q;have a':(r.s:Int)=s:=a;have b':r.x=c:=b;rw[gB];exact⟨ae_ (by omega),ae_ b'⟩
  ·intro q;rw[gB]at q;have a:=afa q.1;exact ae_ ⟨by show (r.s:Int)=s;omega,afa q.2⟩
 have e3:B.rs.find? ((λr=>decide (r.st=(s:Int)/\r.c=c))∘fV)=zm B s c:=by
  unfold zm;rw[<-e2];rfl
 rw[e3]at e;unfold FZ;have ks:=zsu (s:Nat) c;simp only[h,ks,e];cases zm B s c<;>rfl
def G_{m1 m2:MS}{env env1:aJ}{st st1:ak}(h:m1 env st=.ok (.nx env1) st1):aD m1 m2 env st=m2 env1 st1:=by rw[xP,h];rfl
def xM{i:Nat}{e:ME}{env:aJ}{st st1:ak}{d:D}(h:e env st=.ok d st1):aK i e env st=.ok (.nx (env.set i (some d))) st1:=by
 rw[Af,h];rfl
def oZ{c f:PySem.Str}{m:ME}{env:aJ}{st:ak}{n:Nat}{fs:List (PySem.Str×D)}{x:D}(hm:m env st=.ok (.loc n) st)(h:st[n]? = some (.ins c fs))(hx:fs.lookup f=some x):cj c f m env st=.ok x st:=by
 unfold cj;rw[hm,R.aB];dsimp only;rw[h];dsimp only;rw[ae1 rfl,hx]
def zku{c f:PySem.Str}{mo mv:ME}{env:aJ}{st st1:ak}{n:Nat}{fs:List (PySem.Str×D)}{d:D}(hv:mv env st=.ok d st1)(hm:mo env st1=.ok (.loc n) st1)(h:st1[n]? = some (.ins c fs))(hl:fs.length<1000):cA c f mo mv env st=.ok (.nx env) (st1.set n (.ins c (xg f d fs))):=by
 unfold cA;rw[hv,R.aB,hm,R.aB];dsimp only;rw[h];dsimp only;rw[ae1 ⟨rfl,hl⟩]
def wH(ls:List Nat):List (List Nat×Tr):=ls.map λc=>([c],aM (bI ls c) ls.length)
def zln{ls:List Nat}(hn:ls.Nodup){i c:Nat}(h:ls[i]? = some c):bI ls c=i:=by
 have hm:=gW h;have h2:=MN hm;exact (nF (Hb hm) hn).mp (by rw[h2,h])
def zmf(ls:List Nat)(hn:ls.Nodup)(h:∀c∈ls,Let c)(hl:ls.length<=1000)(st:ak)(hb:Bs st):zbp [.str ls] st=.ok (.loc st.length) (st++[.dkc (aV (wH ls))]):=by
 have ha:=yc h;unfold zbp bu bh zea;generalize hB:(lB (az Bm [] _) _:MS)=B
 let Z:Nat->ak:=λi=>st++[.dkc (aV ((ls.take i).map λc=>([c],aM (bI ls c) ls.length)))]
 obtain⟨cB,st',h1,a2,a3,rfl,rfl⟩:=GP (g:=wu 2 (eY (aW 2) (eY (aW 3) xX))) (b:=B) (gs:=[]) (items:=dG 0 (ls.map λc=>D.str [c]))
  (λi env s=>∃(a2 a3:Option D),env=[some (.str ls),some (.loc st.length),a2,a3]/\s=Z i)
  (env:=[some (.str ls),some (.loc st.length),none,none]) (st:=Z 0) ⟨none,none,rfl,rfl⟩ (by
   rintro i d env s hi ⟨a2,a3,rfl,rfl⟩;obtain⟨y,hy,rfl⟩:=zk7 hi;obtain⟨c,hc,rfl⟩:=Hc hy;have G6:=(gf.mp hc).1;have ei:=zln hn hc;have KY:Bs (Z i):=hb.app (by simp);have pk:=Y6 i ls.length (Z i) KY.t1 KY.c G6 (by omega);have le:fH [.str ls] (Z i)=.ok (.int ls.length) (Z i):=by
    show wN [.str ls] (Z i)=_;exact zj3 _ ls (by omega)
   have sk:=zoz ((ls.take i).map λc=>([c],aM (bI ls c) ls.length)) st.length [c] (aM i ls.length) (Z i) (by simp[Z]) (by simp;omega) (λp hp=>by
    obtain⟨x,hx,rfl⟩:=gj.mp hp;intro e;have:x=c:=by simpa using e
    subst this;obtain⟨j,hj,q⟩:=mZ.mp hx;rw[km]at hj;rw[pq]at q;have:ls[j]? = ls[i]?:=by rw[hc,<-q];exact gK (by omega)
    have:=(nF (by omega) hn).mp this;omega)
   have e2:(Z i).set st.length (.dkc (aV (((ls.take i).map λc=>([c],aM (bI ls c) ls.length))++[([c],aM i ls.length)])))=Z (i+1):=by
    show (st++_).set _ _=st++_;rw[Nv _ _ _ _ rfl,kE,hc];simp[ei]
   rw[e2]at sk;refine⟨by simp,[some (.str ls),some (.loc st.length),some (.int i),some (.str [c])],Z i,?_,[some (.str ls),some (.loc st.length),some (.int i),some (.str [c])],Z (i+1),.inl ?_,_,_,rfl,rfl⟩
   ·generalize Z i=Zi;simp
   ·rw[<-hB];generalize Z i=Zi at *;generalize Z (i+1)=Zj at *;generalize enc (aM i ls.length)=W at *;simp[le,pk,sk]) (λ_ _ _=>by simp)
 rw[Zd,gh]at h1;have ez:Z ls.length=st++[.dkc (aV (wH ls))]:=by show _++_=_;rw[k_];rfl
 rw[ez]at h1;have g:=YS (st:=st) (o:=.dkc (aV (wH ls))) (λp hp=>by
  unfold aV at hp;obtain⟨q,_,rfl⟩:=gj.mp hp;exact fB _ _)
 have e0:Z 0=st++[.dkc []]:=rfl;rw[e0]at h1;have en:vQ (aj (vr 0) au) [some (.str ls),some (.loc st.length),none,none] (st++[.dkc []])=.ok (dG 0 (ls.map λc=>D.str [c]),[]) (st++[.dkc []]):=by
  rw[Ig];simp only[O7,Ag,Ae,mX,R.aB];rw[ae1 ha]
 rw[show startM 4 [D.str ls]=[some (.str ls),none,none,none] from rfl];generalize aV (wH ls)=Y at *;generalize vQ (aj (vr 0) au)=EI at *;generalize dG 0 (ls.map λc=>D.str [c])=X at *;simp[Uk,en,h1];exact g
def dh{F:FD}{mA:MA}{env:aJ}{st st1 st2:ak}{as:List D}{d:D}(hF:F as st1=.ok d st2)(ha:mA env st=.ok as st1):az F [] mA env st=.ok d st2:=by simp[ha,hF]
def xx{f:List D->ak->R D}{mA:MA}{env:aJ}{st st1 st2:ak}{as:List D}{d:D}(hF:f as st1=.ok d st2)(ha:mA env st=.ok as st1):bU f mA env st=.ok d st2:=by simp[ha,hF]
def bM{e:ME}{mA:MA}{env:aJ}{st st1 st2:ak}{as:List D}{d:D}(h:e env st=.ok d st1)(ha:mA env st1=.ok as st2):aj e mA env st=.ok (d::as) st2:=by simp[ha,h]
def bA{g:D->D->ak->R D}{a b:ME}{env:aJ}{st st1 st2 fO:ak}{x y d:D}(ha:a env st=.ok x st1)(hb:b env st1=.ok y st2)(hg:g x y st2=.ok d fO):aL g a b env st=.ok d fO:=by simp[ha,hb,hg]
def fD{i:Nat}{e:ME}{m2:MS}{env:aJ}{st st1:ak}{d:D}{r:R Out}(h:e env st=.ok d st1)(k:m2 (env.set i (some d)) st1=r):aD (aK i e) m2 env st=r:=by rw[G_ (xM h)];exact k
def zZ{t:MT}{a m2:MS}{env:aJ}{st st1:ak}{r:R Out}(h:t env st=.ok false st1)(k:m2 env st1=r):aD (iZ t a bR) m2 env st=r:=by simp[h,k]
def Ak{e:ME}{G:MG}{m2:MS}{env env1:aJ}{st st1 st2:ak}{d:D}{r:R Out}(h:e env st=.ok d st1)(hg:G d env st1=.ok env1 st2)(k:m2 env1 st2=r):aD (lB e G) m2 env st=r:=by simp[h,hg,k]
def YQ{a b:MT}{env:aJ}{st st1 st2:ak}{c:Bool}(h:a env st=.ok false st1)(k:b env st1=.ok c st2):Ng a b env st=.ok c st2:=by simp[h,k]
def Cj{a:MT}{env:aJ}{st st1:ak}{c:Bool}(h:a env st=.ok c st1):vh a env st=.ok (!c) st1:=by simp[h]
def zr6{a:ME}{env:aJ}{st st1:ak}{x:D}{c:Bool}(h:a env st=.ok x st1)(k:cD x st1=some c):o_ a env st=.ok c st1:=by simp[h,k]
def Wm{g:D->ak->R D}{a:ME}{env:aJ}{st st1 st2:ak}{x d:D}(ha:a env st=.ok x st1)(hg:g x st1=.ok d st2):Aj g a env st=.ok d st2:=by simp[ha,hg]
def zl7{a b:ME}{env:aJ}{st st1 st2:ak}{d:D}(h:a env st=.ok (.bl true) st1)(k:b env st1=.ok d st2):wW a b env st=.ok d st2:=by simp[h,k]
def wX{e:ME}{env:aJ}{st st1:ak}{d:D}(h:e env st=.ok d st1):retS e env st=.ok (.rt d) st1:=by simp[h]
def MJ{mA:MA}{env:aJ}{st st1:ak}{ds:List D}(h:mA env st=.ok ds st1)(hl:ds.length<=1000000:=by simp):f9 mA env st=.ok (.tup ds) st1:=by simp[h,hl]
def oG{a:ME}{env:aJ}{st st1:ak}{c:Bool}(h:a env st=.ok (.bl c) st1):fW a env st=.ok c st1:=by simp[h]
def eV{x:R Out}{f:Out->ak->R D}{st st1:ak}{d:D}{r:R D}(h:x=.ok (.rt d) st1)(hf:f (.rt d) st1=.ok d st1)(k:gc st (.ok d st1)=r):gc st (x.bind f)=r:=by rw[h,R.aB,hf];exact k
def Dy{T:String}{f:D->List D->ak->R D}{mo:ME}{mA:MA}{env:aJ}{st st1 st2 fO:ak}{x d:D}{as:List D}(h:mo env st=.ok x st1)(ht:cM T x st1=true)(ha:mA env st1=.ok as st2)(hf:f x as st2=.ok d fO):cH T f mo mA env st=.ok d fO:=by simp[h,ht,ha,hf]
def Ha{c f:PySem.Str}{mo mv:ME}{m2:MS}{env:aJ}{st st1 st2:ak}{n:Nat}{fs:List (PySem.Str×D)}{d:D}{r:R Out}(hv:mv env st=.ok d st1)(hm:mo env st1=.ok (.loc n) st1)(h:st1[n]? = some (.ins c fs))(e:st1.set n (.ins c (xg f d fs))=st2)(k:m2 env st2=r)(hl:fs.length<1000:=by simp):aD (cA c f mo mv) m2 env st=r:=by rw[G_ (zku hv hm h hl),e];exact k
def zs3{mi:MI}{g:MG}{b m2:MS}{env env1:aJ}{st st1 st2:ak}{s:List D}{gs:List (Nat×MO)}{r:R Out}(hi:mi env st=.ok (s,gs) st1)(h:cN g b gs s env st1=.ok (.nx env1) st2)(k:m2 env1 st2=r):aD (lz mi g b) m2 env st=r:=by rw[G_ (by rw[Vz,hi,R.aB];exact h)];exact k
def yt{e:ME}{G:MG}{env env1:aJ}{st st1 st2:ak}{d:D}(h:e env st=.ok d st1)(hg:G d env st1=.ok env1 st2):lB e G env st=.ok (.nx env1) st2:=by simp[h,hg]
def zmm{g:D->D->D->ak->R Unit}{a b:ME}{d x y:D}{env:aJ}{st st1 st2 fO:ak}(ha:a env st=.ok x st1)(hb:b env st1=.ok y st2)(hg:g x y d st2=.ok () fO):uY g a b d env st=.ok env fO:=by simp[ha,hb,hg]
def YZ{e:ME}{env:aJ}{st st1:ak}{d:D}(h:e env st=.ok d st1):dF e env st=.ok (.nx env) st1:=by simp[h]
def Ud{x:R Out}{f:Out->ak->R D}{env:aJ}{st st1:ak}{r:R D}(h:x=.ok (.nx env) st1)(hf:f (.nx env) st1=.ok .non st1)(k:gc st (.ok .non st1)=r):gc st (x.bind f)=r:=by rw[h,R.aB,hf];exact k
def add_int{i j k:Int}{st:ak}(h:i+j=k):bY (.int i) (.int j) st=.ok (.int k) st:=by subst h;rfl
def add_str{a b:List Nat}{st:ak}(h:a.length+b.length<=1000000):bY (.str a) (.str b) st=.ok (.str (a++b)) st:=ae1 h
def Y7{a b c:Nat}{st:ak}(h:a+b=c):bY (.int a) (.int b) st=.ok (.int c) st:=add_int (by omega)
def Rb{t:MT}{a:MS}{env:aJ}{st st1:ak}(h:t env st=.ok false st1):iZ t a bR env st=.ok (.nx env) st1:=by simp[h]
def YM{t:MT}{a b:MS}{env:aJ}{st st1:ak}{r:R Out}(h:t env st=.ok true st1)(k:a env st1=r):iZ t a b env st=r:=by simp[h,k]
def JB{c m:PySem.Str}{F:FD}{mo:ME}{mA:MA}{env:aJ}{st st1 st2:ak}{n:Nat}{fs fs2:List (PySem.Str×D)}{as:List D}{d:D}(h:mo env st=.ok (.loc n) st)(ho:st[n]? = some (.ins c fs))(ha:mA env st=.ok as st1)(KN:st1[n]? = some (.ins c fs2))(hF:F (.loc n::as) st1=.ok d st2)(hm:fs.lookup m=none:=by rfl):Cp c m F mo mA env st=.ok d st2:=by
 unfold Cp;rw[h,R.aB];dsimp only;rw[ho];dsimp only;rw[ae1 ⟨rfl,hm⟩,ha,R.aB,KN];dsimp only;rw[hF];rfl
def oM{i:Int}{ds:List D}{d:D}{st:ak}(hi:rQ ds i=some d:=by rfl):aY (.tup ds) (.int i) st=.ok d st:=jD st i ds d hi
def zsl{e:ME}{env:aJ}{st:ak}{cs:List Nat}(h:e env st=.ok (.str cs) st)(ha:cs.all (λc=>decide (c<128))=true):yN e env st=.ok (cs.map λc=>D.str [c],[]) st:=by
 rw[Vv,h,R.aB];dsimp only;rw[ae1 ha]
def uO{st:ak}{n k:Nat}{g:ak}{o:MO}(h:g[k]? = some o)(e:n=st.length+k:=by rfl):(st++g)[n]? = some o:=by subst e;rw[g_ (by omega),show st.length+k - st.length=k by omega];exact h
def HR{e:ME}{env:aJ}{st:ak}{cs:List Nat}(h:e env st=.ok (.str cs.reverse) st)(hl:cs.length<=1000000):BV (aj e au) env st=.ok (cs.map λc=>D.str [c],[]) st:=by simp[h,hl]
def Aw{t:MT}{a b:ME}{env:aJ}{st st1:ak}{c:Bool}{r:R D}(h:t env st=.ok c st1)(k:(bif c then a env st1 else b env st1)=r):G5 t a b env st=r:=by cases c<;>simpa[h] using k
def eq_str{a b:List Nat}{st:ak}:M.jf 800 (.str a) (.str b) st=.ok (.bl (decide (a=b))) st:=by simp
def Aa{m1 m2:MS}{env:aJ}{st st1:ak}{d:D}(h:m1 env st=.ok (.rt d) st1):aD m1 m2 env st=.ok (.rt d) st1:=by rw[xP,h];rfl
def Dm{a b:MT}{env:aJ}{st st1 st2:ak}{c:Bool}(h:a env st=.ok true st1)(k:b env st1=.ok c st2):tD a b env st=.ok c st2:=by simp[h,k]
def R6{a b:MT}{env:aJ}{st st1:ak}(h:a env st=.ok false st1):tD a b env st=.ok false st1:=by simp[h]
def Hu{a:ME}{l h:MP}{env:aJ}{st:ak}{x d:D}{lo hi:Option Int}(ha:a env st=.ok x st)(hl:l env st=.ok lo st)(hh:h env st=.ok hi st)(k:zU x lo hi st=.ok d st):Hv a l h env st=.ok d st:=by simp[ha,hl,hh,k]
def eq_int{i j:Int}{st:ak}:M.jf 800 (.int i) (.int j) st=.ok (.bl (decide (i=j))) st:=by simp
def YW{i:Int}{st:ak}:M.jf 800 (.int i) (.int i) st=.ok (.bl true) st:=by simp
def zsx{i:List Nat}{st:ak}:M.jf 800 (.str i) (.str i) st=.ok (.bl true) st:=by simp
end Law
set_option maxHeartbeats 0
namespace Law
open L2 M Tr
abbrev u9(ls:List Nat)(c:Nat):Tr:=aM (bI ls c) ls.length
abbrev Mt:List Nat:=[98,97,114,101]
abbrev K7:List Nat:=[102,117,108,108]
def U6(m:Bool)(ls:List Nat)(c:Nat):MO:=.dkc (aV [(Mt,iQ m (u9 ls 95) (u9 ls c)),(K7,lV m (u9 ls c))])
def mvF(m:Bool)(w:Nat):List (PySem.Str×D):=[("plan",enc (bQ (cW m) cU)),("written",.loc w),("bare_cost",.int ((iD m+p_ m:Nat):Int)),("full_cost",.int ((iD m+lW m:Nat):Int))]
def dJ(st:ak)(n:Nat)(m:Bool)(ls:List Nat):Prop :=
 ∃w W,st[n]? = some (.ins "Move" (mvF m w))/\st[w]? = some (.dkc W)/\∀c∈ls,∃q,valN W (.inr (strOf [c]))=some (.loc q)/\st[q]? = some (U6 m ls c)
def Keeps(st st':ak)(ex:List Nat):Prop:=∀j o,j∉ex->st[j]? = some o->st'[j]? = some o
def Keeps.app(st g:ak):Keeps st (st++g) []:=λ_ _ _ h=>cZ h
def dJ.mono{st st':ak}{n:Nat}{m:Bool}{ls:List Nat}(h:dJ st n m ls)(k:Keeps st st' []):dJ st' n m ls:=by
 obtain⟨w,W,h1,h2,h3⟩:=h;refine⟨w,W,k _ _ (by simp) h1,k _ _ (by simp) h2,λc hc=>?_⟩;obtain⟨q,q1,q2⟩:=h3 c hc;exact⟨q,q1,k _ _ (by simp) q2⟩
def Bs.keeps{st st':ak}(h:Bs st){ex:List Nat}(k:Keeps st st' ex)(h1:1∉ex)(h2:2∉ex)(c:bG st'):Bs st':=⟨k _ _ h1 h.t1,k _ _ h2 h.t2,c⟩
def Ul(x y:List Nat)(hxy:x≠y)(e1 e2:ME)(v w:Tr)(env:aJ)(st:ak)(h1:e1 env (st++[.dkc []])=.ok (enc v) (st++[.dkc []]))(h2:e2 env (st++[.dkc []])=.ok (enc w) (st++[.dkc []])) :
  fL (cF (ct (.str x)) e1 (cF (ct (.str y)) e2 iH)) env st=.ok (.loc st.length) (st++[.dkc (aV [(x,v),(y,w)])]):=by
 have tO:¬ strOf x=strOf y:=λe=>hxy (SN.mp e);unfold fL;simp[h1,h2,vp,yX,jR,putN,aV,tO]
def aaA(kvs:List (Key×D))(n:Nat)(s:List Nat)(d:D)(st:ak)(h:st[n]? = some (.dkc kvs))(hl:kvs.length<=10000)(hs:∀p∈kvs,p.1≠.inr (strOf s)):iW (.loc n) (.str s) d st=.ok () (st.set n (.dkc (kvs++[(.inr (strOf s),d)]))):=by
 unfold iW;simp only[h,yX];rw[ae1 (by omega)];congr 3;unfold putN;rw[ae2];simp only[p7,afs,not_exists,not_and];exact hs
def Hi(ls:List Nat)(f:Nat->D){c:Nat}(h:c∈ls):valN (ls.map λc=>(Sum.inr (strOf [c]),f c)) (.inr (strOf [c]))=some (f c):=by
 induction ls with
 | nil=>cases h
 | cons x l ih =>
  rw[gm,M4];by_cases e:x=c
  ·rw[ae1 (by rw[e]),e]
  ·rw[ae2 (λz=>e (by have:=SN.mp (afl z);simpa using this))];exact ih ((gq.mp h).resolve_left (afb e))
def zns{ls:List Nat}(hn:ls.Nodup){i c x:Nat}(hc:ls[i]? = some c)(hx:x∈ls.take i):x≠c:=by
 intro e;subst e;obtain⟨j,hj,q⟩:=mZ.mp hx;rw[km]at hj;rw[pq]at q;have:ls[j]? = ls[i]?:=by rw[hc,<-q];exact gK (by omega)
 have:=(nF (by omega) hn).mp this;omega
def JD(m:Bool):lv (bD m)<=100/\lv (bQ (bD m) j_)<=1000/\lv (bQ (bD m) tV)<=1000/\lv (cW m)<=100/\lv (bQ (cW m) cU)<=1000:=by cases m<;>decide +kernel
theorem JF{f:List Nat->Option Tr}{b:Nat}(hb:1<=b)(h:∀s v,f s=some v->lv v<=b):∀t,lv (sb f t)<=lv t*b
 | .lf s=>by
  rw[sb];cases e:f s with
  | none=>show 1<=1*b;omega
  | some v=>have:=h s v e;show lv v<=1*b;omega
 | .jn l r=>by
  have:=JF hb h l;have:=JF hb h r;rw[sb,lv,lv,Nat.add_mul];omega
theorem zpn:∀m,lv (wg m)<=3*m+3
 | 0=>by decide
 | 1=>by decide
 | m+2=>by
  have:=zpn (m+1);rw[wg,lv];have:lv (.jn tS (.jn tK tK))=3:=rfl;omega
def Wv(ls:List Nat)(hl:ls.length<=9)(c:Nat):lv (u9 ls c)<=60:=by
 have h1:=zoi (wg (ls.length - 1 - bI ls c)) (bI ls c);have h2:=zpn (ls.length - 1 - bI ls c);have h3:bI ls c<=ls.length:=List.findIdx_le_length;show lv (cQ _ _)<=_;omega
end Law
set_option maxHeartbeats 0
namespace Law
open L2 M Tr
def set_same{st:ak}{n:Nat}{o:MO}(h:st[n]? = some o):st.set n o=st:=by
 apply List.ext_getElem?;intro i;by_cases e:n=i
 ·subst e;rw[h];have:=(gf.mp h).1;simp[this]
 ·rw[gO e]
def gL(m:Bool)(ls:List Nat)(c:Nat):List MO:=[.dkc (aV [([119],u9 ls c)]),U6 m ls c]
def vM(m:Bool)(ls:List Nat)(i:Nat):List MO:=((ls.take i).map (gL m ls)).flatten
def K5(m:Bool)(ls:List Nat):∀i,i<=ls.length->(vM m ls i).length=2*i:=λi hi=>by
 unfold vM;have key:∀l:List Nat,((l.map (gL m ls)).flatten).length=2*l.length:=λl=>by
  induction l with
  | nil=>rfl
  | cons c l ih=>rw[gm,nQ,gG,ih];simp[gL];omega
 rw[key,km];omega
def Ga(m:Bool){ls:List Nat}{i c:Nat}(h:ls[i]? = some c):vM m ls (i+1)=vM m ls i++gL m ls c:=by
 unfold vM;rw[kE,h];simp
def K6(m:Bool)(ls:List Nat)(i:Nat):bG (vM m ls i):=by
 unfold vM;generalize ls.take i=l
 induction l with
 | nil=>simp
 | cons c l ih=>rw[gm,nQ];simp[ih,gL,U6]
def M9(p:Nat)(ls:List Nat)(i:Nat):List (Key×D):=(ls.take i).map λc=>(Sum.inr (strOf [c]),D.loc (p+2*bI ls c))
def zi1(m:Bool)(ls:List Nat)(hn:ls.Nodup)(hL:∀c∈ls,Let c)(hl:ls.length<=9)(h95:95∈ls)(sf nt:Nat)(st:ak)(hb:Bs st)(h1:st[sf]? = some (.ins "Move" []))
  (h2:st[nt]? = some (.dkc (aV (wH ls)))\/st[nt]? = some (.dkf (aV (wH ls)))) :
  ∃st',U3 [.loc sf,.str (Ni m),.loc nt] st=.ok .non st'/\Keeps st st' [sf,nt]/\st'[nt]? = some (.dkf (aV (wH ls)))/\dJ st' sf m ls/\bG st'/\st.length<=st'.length:=by
 obtain⟨l1,l2,l3,l4,l5⟩:=JD m;have Rc:=(gf.mp h1).1;have hnt:nt<st.length:=by rcases h2 with h2 | h2<;>exact (gf.mp h2).1
 have tO:sf≠nt:=λe=>by subst e;rw[h1]at h2;simp at h2
 let A:MO:=.dkc (aV [([97],u9 ls 95),([116],tK)])
 let Mu:Tr:=sb (look [([97],u9 ls 95),([116],tK)]) (bQ (bD m) j_)
 let p1:(PySem.Str×D):=("plan",enc (bQ (cW m) cU))
 let p2:(PySem.Str×D):=("written",.loc (st.length+1))
 let Av:MO:=.ins "Move" [p1,p2]
 let Xv:MO:=.ins "Move" [p1,p2,("bare_cost",.int ((iD m+p_ m:Nat):Int))]
 let Kz:MO:=.ins "Move" (mvF m (st.length+1))
 have b1:Bs (st++[A]):=hb.app (by simp[A])
 let E3:Option D->Option D->aJ:=λa6 a7=>[some (.loc sf),some (.str (Ni m)),some (.loc nt),some (enc (bD m)),some (enc Mu),some (enc (bQ (bD m) tV)),a6,a7,none]
 have zA:∀x:MO,(st.set sf x).length=st.length:=λx=>by simp
 let S0:ak:=(st.set sf Av).set nt (.dkf (aV (wH ls)))
 have z0:S0.length=st.length:=by simp[S0]
 let T:Nat->ak:=λi=>S0++A::.dkc (M9 (st.length+3) ls i)::vM m ls i
 have dk:Uj (vr 2) (E3 none none) (st.set sf Av++[A,.dkc []])=.ok (ls.map λc=>D.str [c],[]) (T 0):=by
  have kk:=zsc ls (u9 ls);change (aV (wH ls)).map (λp=>ye p.1)=_ at kk;have e0:(st.set sf Av++[A,.dkc []]:ak).set nt (.dkf (aV (wH ls)))=T 0:=by
   rw[zf4 _ _ _ _ (by rw[zA];exact hnt)];rfl
  have gn:∀o,st[nt]? = some o->(st.set sf Av++[A,.dkc []]:ak)[nt]? = some o:=λo ho=>by
   rw[gF (by rw[zA];exact hnt),gO tO];exact ho
  unfold Uj;simp only[E3,Ae,kW,mX,R.aB];rcases h2 with h2 | h2
  ·simp only[gn _ h2,e0,kk]
  ·have e1:(st.set sf Av++[A,.dkc []]:ak)=T 0:=by rw[<-e0,set_same (gn _ h2)]
   simp only[gn _ h2,kk];rw[e1]
 have tsf:∀i,(T i)[sf]? = some Av:=λi=>by
  rw[gF (by rw[z0];exact Rc),gO (afb tO)];simp[Rc]
 have tnt:∀i,(T i)[nt]? = some (.dkf (aV (wH ls))):=λi=>by
  rw[gF (by rw[z0];exact hnt)];simp[S0,hnt]
 have tw:∀i,(T i)[st.length+1]? = some (.dkc (M9 (st.length+3) ls i)):=λi=>by
  rw[g_ (by rw[z0];omega),z0,show st.length+1 - st.length=1 by omega];rfl
 have n1:sf≠1:=λe=>by rw[e,hb.t1]at h1;cases h1
 have n2:sf≠2:=λe=>by rw[e,hb.t2]at h1;cases h1
 have n3:nt≠1:=λe=>by rw[e,hb.t1]at h2;simp at h2
 have n4:nt≠2:=λe=>by rw[e,hb.t2]at h2;simp at h2
 have bS:Bs S0:=⟨by rw[gO n3,gO n1];exact hb.t1,by rw[gO n4,gO n2];exact hb.t2,UJ (UJ hb.c rfl) rfl⟩;have bT:∀i,Bs (T i):=λi=>bS.app (by simp[K6,A]);have tl:∀i,i<=ls.length->(T i).length=st.length+2+2*i:=λi hi=>by
  have:=K5 m ls i hi;simp only[T,gG,gw,this,z0];omega
 have lb:lv Mu<=400000:=by
  have:=JF (f:=look [([97],u9 ls 95),([116],tK)]) (b:=60) (by omega) (λs v e=>by
   have:=zki e;simp only[gq,kO,afx,Prod.mk.injEq]at this;rcases this with⟨_,rfl⟩ | ⟨_,rfl⟩
   ·exact Wv ls hl 95
   ·decide) (bQ (bD m) j_)
  have h6:lv (bQ (bD m) j_)*60<=1000*60:=Nat.mul_le_mul_right 60 l2;show lv (sb _ _)<=_;omega
 unfold U3 bu bh Zo;generalize hB:(aD (aK 7 _) _:MS)=B;obtain⟨cB,st',hh,a6,a7,rfl,rfl⟩:=GP (g:=aW 6) (b:=B) (gs:=[]) (items:=ls.map λc=>D.str [c]) (λi env s=>∃(a6 a7:Option D),env=E3 a6 a7/\s=T i)
  (env:=E3 none none) (st:=T 0) ⟨none,none,rfl,rfl⟩ (by
   rintro i d env s hi ⟨a6,a7,rfl,rfl⟩;obtain⟨c,hc,rfl⟩:=Hc hi;have G6:=(gf.mp hc).1;have ei:=zln hn hc
   let P:ak:=T i++[.dkc (aV [([119],u9 ls c)])]
   have pl:P.length=st.length+3+2*i:=by simp[P,tl i (by omega)];omega
   have bP:Bs (P++[.dkc []]):=((bT i).app (by simp)).app (by simp);have gp:(P++[.dkc []])[(T i).length]? = some (.dkc (aV [([119],u9 ls c)])):=by simp[P]
   have sk:=aaA (M9 (st.length+3) ls i) (st.length+1) [c] (.loc P.length) (P++[U6 m ls c]) (cZ (cZ (tw i))) (by simp[M9];omega) (λp hp=>by
    obtain⟨x,hx,rfl⟩:=gj.mp hp;intro e;have:x=c:=by have:=SN.mp (afl e);simpa using this
    exact zns hn hc hx this)
   have e2:(P++[U6 m ls c]).set (st.length+1) (.dkc (M9 (st.length+3) ls i++[(.inr (strOf [c]),.loc P.length)]))=T (i+1):=by
    have ew:M9 (st.length+3) ls (i+1)=M9 (st.length+3) ls i++[(.inr (strOf [c]),.loc P.length)]:=by
     unfold M9;rw[kE,hc,pl];simp[ei]
    show (S0++A::_::vM m ls i++[_]++[_]).set _ _=S0++A::_::vM m ls (i+1);rw[Ga m hc,ew];simp only[gP,nO,mD,gL];rw[List.set_append,ae2 (by rw[z0];omega),z0,show st.length+1 - st.length=1 by omega]
    rfl
   rw[e2]at sk;refine⟨by simp,E3 (some (.str [c])) a7,T i,rfl,E3 (some (.str [c])) (some (.loc (T i).length)),T (i+1),.inl ?_,_,_,rfl,rfl⟩;rw[<-hB];exact fD (Dd _ _ (u9 ls c) _ _ λs=>bA rfl rfl (YH (wH ls) nt [c] _ _ (.inr (cZ (tnt i))) (Y5 (gW hc))))
    (yt (Ul _ _ (by decide) _ _ (iQ m (u9 ls 95) (u9 ls c)) (lV m (u9 ls c)) _ P (dh (zhn _ Mu _ _ gp bP.t2 bP.c lb) rfl) (dh (zhn _ (bQ (bD m) tV) _ _ gp bP.t2 bP.c (by omega)) rfl))
     (zmm (oZ rfl (cZ (cZ (tsf i))) rfl) rfl sk))) (λ_ _ _=>by simp)
 rw[gh]at hh
 let C1:MO:=.lst (aN (cX (cW m) cU))
 let C2:MO:=.lst (aN (cX (bD m) j_))
 let C3:MO:=.lst (aN (cX (bD m) tV))
 have bC1:Bs (T ls.length++[C1]):=(bT _).app (by simp[C1]);obtain⟨m1,m2⟩:=zhy cU (cW m) (T ls.length) (bT _) (by decide) l4;obtain⟨m3,m4⟩:=zhy j_ (bD m) (T ls.length++[C1]) bC1 (by decide) l1;have za:sf<(T ls.length++[C1]++[C2]).length:=by rw[gG,gG,tl _ (gb _)];omega
 have bC2:Bs ((T ls.length++[C1]++[C2]).set sf Xv):=by
  have b:=bC1.app (g:=[C2]) (by simp[C2]);exact⟨by rw[gO n1];exact b.t1,by rw[gO n2];exact b.t2,UJ b.c rfl⟩
 obtain⟨m5,m6⟩:=zhy tV (bD m) _ bC2 (by decide) l1
 let stE:ak:=(((T ls.length++[C1]++[C2]).set sf Xv)++[C3]).set sf Kz
 have hsE:sf<(((T ls.length++[C1]++[C2]).set sf Xv)++[C3]).length:=by
  rw[gG,nW];omega
 have esf:stE[sf]? = some Kz:=mq hsE;have eo:∀j o,j≠sf->(T ls.length)[j]? = some o->stE[j]? = some o:=λj o hj ho=>by
  show ((_:ak).set sf Kz)[j]? = _;rw[gO (afb hj)];refine cZ ?_;rw[gO (afb hj)];exact cZ (cZ ho)
 have FJ:∀j,j<st.length->(T ls.length)[j]? = S0[j]?:=λj hj=>by rw[gF (by rw[z0];exact hj)]
 have cE:bG stE:=UJ ((zpo _ _).mpr ⟨bC2.c,by simp[C3]⟩) rfl;have XS:=A_ (st:=st) (st':=stE) (d:=.non) Rc (by rw[esf,h1];simp[Kz,mvF]);refine⟨stE,?_,λj o hj ho=>?_,?_,⟨st.length+1,M9 (st.length+3) ls ls.length,esf,?_,λc hc=>?_⟩,cE,?_⟩
 ·have e5:(st.set sf (.ins "Move" [p1])++[A]++[.dkc []]:ak).set sf (.ins "Move" [p1,("written",.loc (st.set sf (.ins "Move" [p1])++[A]).length)])=st.set sf Av++[A,.dkc []]:=by
   rw[gP,zf4 _ _ _ _ (by rw[zA];exact Rc),List.set_set,gG,zA];rfl
  refine Ud (fD (dh (zk8 m st) rfl) (fD (dh (xQ _ (bQ (bD m) j_) st hb (by omega)) (bM (dh (Zh j_ (bD m) st hb.t1 hb.c (by decide) l1) rfl) (bM (Ul _ _ (by decide) _ _ (u9 ls 95) tK _ _ (bA rfl rfl (YH (wH ls) nt [95] _ _ (by rcases h2 with h2 | h2;exact .inl (cZ h2);exact .inr (cZ h2)) (Y5 h95))) rfl) rfl)))
   (fD (dh (Zh tV (bD m) (st++[A]) b1.t1 b1.c (by decide) l1) rfl)
   (Ha (dh (Zh cU (cW m) (st++[A]) b1.t1 b1.c (by decide) l4) (bM rfl (bM (dh (zit m _) rfl) rfl))) rfl (cZ h1) (zf4 _ _ _ _ Rc)
   (Ha (fs:=[p1]) rfl rfl (by rw[gP,gF (by rw[zA];exact Rc)];simp[Rc];rfl) e5
   (zs3 dk hh (fD (bA (xx m2 (bM (dh m1 (bM rfl (bM (dh (zit m _) rfl) rfl))) rfl)) rfl (add_int (k:=((iD m:Nat):Int)) (by unfold iD;omega)))
   (Ha (bA rfl (xx m4 (bM (dh m3 rfl) rfl)) (Y7 rfl)) rfl (cZ (cZ (tsf _))) rfl
   (zku (bA (bA rfl (dh (zbz 2 _ (by omega)) rfl) (add_int rfl)) (xx m6 (bM (dh m5 rfl) rfl)) (add_int (k:=((iD m+lW m:Nat):Int)) (by unfold lW;omega))) rfl (cZ (mq za)) (by simp)))))))))) rfl XS
 ·simp only[gq,kO,afx,not_or]at hj;have hjl:=(gf.mp ho).1;refine eo j o hj.1 ?_;rw[FJ j hjl,gO (afb hj.2),gO (afb hj.1)];exact ho
 ·exact eo nt _ (afb tO) (tnt _)
 ·exact eo _ _ (by omega) (tw _)
 ·refine⟨st.length+3+2*bI ls c,?_,?_⟩
  ·unfold M9;rw[k_];exact Hi ls (λc=>D.loc (st.length+3+2*bI ls c)) hc
  ·refine eo _ _ (by omega) ?_;have hi:=MN hc;have G6:=Hb hc;generalize bI ls c=i at hi G6 ⊢;rw[g_ (by rw[z0];omega),z0,show st.length+3+2*i - st.length=(2*i+1)+2 by omega,kW,kW];unfold vM;rw[k_];have key:∀(l:List Nat) (i:Nat),l[i]? = some c->((l.map (gL m ls)).flatten)[2*i+1]? = some (U6 m ls c):=by
    intro l
    induction l with
    | nil=>intro i h;simp at h
    | cons x l ih =>
     intro i h;rw[gm,nQ];cases i with
     | zero =>
      obtain rfl:x=c:=by simpa using h
      rfl
     | succ i =>
      rw[g_ (by simp[gL];omega)];have:=ih i (by simpa using h);rw[show 2*(i+1)+1 - (gL m ls x).length=2*i+1 by simp[gL];omega];exact this
   exact key ls i hi
 ·show st.length<=((_:ak).set sf Kz).length;rw[nW,gG,nW,gG,gG,tl _ (gb _)];omega
end Law
set_option maxHeartbeats 0
namespace Law
open L2 M Tr
def Ks{kvs:List (Key×D)}{n:Nat}{s:List Nat}{d:D}{st:ak}(h:st[n]? = some (.dkc kvs))(hv:valN kvs (.inr (strOf s))=some d):uD (.loc n) (.str s) st=.ok d st:=by
 unfold uD;simp only[h,yX,hv]
def abm{kvs:List (Key×D)}{n:Nat}{i:Int}{d:D}{st:ak}(h:st[n]? = some (.dkc kvs))(hv:valN kvs (.inl i)=some d):uD (.loc n) (.int i) st=.ok d st:=by
 unfold uD;simp only[h,zow,hv]
def znc(m:Bool)(ls:List Nat)(n:Nat)(st:ak)(hb:Bs st)(h:dJ st n m ls)(c:Nat)(hc:c∈ls)(way:Tr):zem [.loc n,.str [c],enc way] st=.ok (enc (pX m (u9 ls 95) (u9 ls c) way)) st:=by
 obtain⟨w,W,h1,h2,h3⟩:=h;obtain⟨q,q1,q2⟩:=h3 c hc
 let σ:List (List Nat×Tr):=[(Mt,iQ m (u9 ls 95) (u9 ls c)),(K7,lV m (u9 ls c))]
 have dc:tU [.loc q] st=.ok (.loc st.length) (st++[.dkc (aV σ)]):=by
  unfold tU;simp only[q2,U6];rfl
 have sk:=zoz σ st.length [103] way (st++[.dkc (aV σ)]) (by simp) (by simp[σ]) (by simp[σ,Mt,K7]);rw[Nv _ _ _ _ rfl]at sk;exact eV (fD (xx dc (bM (bA (oZ rfl h1 rfl) rfl (Ks h2 q1)) rfl)) (Ak rfl (zmm rfl rfl sk) (wX (dh (xQ _ (bQ (cW m) cU) st hb (by have:=(JD m).2.2.2.2;omega)) (bM (oZ rfl (cZ h1) rfl) rfl))))) rfl (o9 (fB _ _))
def Hz(ls:List Nat)(f:Nat->Tr)(n c:Nat)(v:Tr)(st:ak)(h:st[n]? = some (.dkc (aV (ls.map λc=>([c],f c)))))(hc:c∈ls)(hl:ls.length<=1000):iW (.loc n) (.str [c]) (enc v) st=.ok () (st.set n (.dkc (aV (ls.map λx=>([x],if x=c then v else f x))))):=by
 unfold iW;simp only[h,yX];rw[ae1 (by simp[aV];omega)];congr 3;unfold putN;rw[ae1]
 ·unfold aV;rw[gJ,gJ,gJ];refine kJ λx _=>?_;simp only[Function.comp];by_cases e:x=c
  ·rw[ae1 (by rw[e]),ae1 e]
  ·rw[ae2 (λz=>e (by have:=SN.mp (afl z);simpa using this)),ae2 e]
 ·simp only[aV,p7,afs];exact⟨(.inr (strOf [c]),enc (f c)),by
   rw[gJ];exact gj.mpr ⟨c,hc,rfl⟩,rfl⟩
def DW(ss:List Nat)(f:Nat->D){s:Nat}(h:s∈ss):valN (ss.map λ(s:Nat)=>(Sum.inl (s:Int),f s)) (.inl (s:Int))=some (f s):=by
 induction ss with
 | nil=>cases h
 | cons x l ih =>
  rw[gm,M4];by_cases e:x=s
  ·rw[ae1 (by rw[e]),e]
  ·rw[ae2 (λz=>e (by have:=Sum.inl.inj z;omega))];exact ih ((gq.mp h).resolve_left (afb e))
structure Sv(st:ak)(b:Nat)(B:Bk)(fs:List (PySem.Str×D))(ns nk nt nm ml mr:Nat):Prop where
 o:st[b]? = some (.ins "Book" fs)
 f1:fs.lookup ("letters":PySem.Str)=some (D.str B.ls)
 f2:fs.lookup ("states":PySem.Str)=some (D.loc ns)
 f3:fs.lookup ("by_key":PySem.Str)=some (D.loc nk)
 f4:fs.lookup ("sign_trees":PySem.Str)=some (D.loc nt)
 f5:fs.lookup ("moves":PySem.Str)=some (D.loc nm)
 f6:fs.lookup ("start_cost":PySem.Str)=some (D.int (qT B.ls:Nat))
 s:st[ns]? = some (.lst (B.ss.map λs=>D.int (s:Nat)))
 k:st[nk]? = some (.dic (tab [] (B.rs.map fV)))
 t:st[nt]? = some (.dkf (aV (wH B.ls)))
 m:st[nm]? = some (.dkc [(.inr (strOf [108]),.loc ml),(.inr (strOf [114]),.loc mr)])
 l:dJ st ml true B.ls
 r:dJ st mr false B.ls
def Sv.mono{st st':ak}{b:Nat}{B:Bk}{fs:List (PySem.Str×D)}{ns nk nt nm ml mr:Nat}(h:Sv st b B fs ns nk nt nm ml mr)(k:Keeps st st' []):Sv st' b B fs ns nk nt nm ml mr :=
 ⟨k _ _ (by simp) h.o,h.f1,h.f2,h.f3,h.f4,h.f5,h.f6,k _ _ (by simp) h.s,k _ _ (by simp) h.k,k _ _ (by simp) h.t,k _ _ (by simp) h.m,h.l.mono k,h.r.mono k⟩
def Sv.mv{st:ak}{b:Nat}{B:Bk}{fs:List (PySem.Str×D)}{ns nk nt nm ml mr:Nat}(h:Sv st b B fs ns nk nt nm ml mr)(m:Bool):∃mo,dJ st mo m B.ls/\uD (.loc nm) (.str (Ni m)) st=.ok (.loc mo) st:=by
 cases m with
 | true=>exact⟨ml,h.l,Ks h.m rfl⟩
 | false=>exact⟨mr,h.r,Ks h.m (by
  have ne:¬ strOf [108]=strOf (Ni false):=λe=>by have:=SN.mp e;simp[Ni]at this
  rw[M4,ae2 (λe=>ne (afl e)),M4];exact ae1 rfl)⟩
structure zP(B:Bk):Prop where
 ok:OkB B
 yd:∀c∈B.ls,Let c
 few:B.ls.length<=9
 x:∀r∈B.rs,r.x∈B.ls
 ss:B.ss.length<=512
 s0:0<B.ss.length
 rs:B.rs.length<=1000
def aah(B:Bk):List (Key×D):=B.ss.map λ(s:Nat)=>(Sum.inl (s:Int),enc (jj (iB B s)))
def zp7(B:Bk)(hB:zP B)(b:Nat)(fs:List (PySem.Str×D))(ns nk nt nm ml mr s ne nw:Nat)(st:ak)(hb:Bs st)(hk:Sv st b B fs ns nk nt nm ml mr)
  (he:st[ne]? = some (.dkc (aV (B.ls.map λc=>([c],jJ (dC B c)))))) (hw:st[nw]? = some (.dkc (aah B))) :
  zdw [.loc b,.int s,.loc ne,.loc nw] st=.ok (.loc st.length) (st++[.dkc (aV (B.ls.map λc=>([c],bN B s c)))]):=by
 have dc:tU [.loc ne] st=.ok (.loc st.length) (st++[.dkc (aV (B.ls.map λc=>([c],jJ (dC B c))))]):=by
  unfold tU;simp only[he]
 have ha:=yc hB.yd
 let mx:Nat->Nat->Tr:=λi c=>if bI B.ls c<i then bN B s c else jJ (dC B c)
 let Z:Nat->ak:=λi=>st++[.dkc (aV (B.ls.map λc=>([c],mx i c)))]
 have z0:st++[.dkc (aV (B.ls.map λc=>([c],jJ (dC B c))))]=Z 0:=by
  show _=st++[MO.dkc (aV (B.ls.map λc=>([c],mx 0 c)))];have:(λc=>([c],jJ (dC B c)))=λc=>([c],mx 0 c):=by funext c;simp[mx]
  rw[this]
 rw[z0]at dc;have zn:Z B.ls.length=st++[.dkc (aV (B.ls.map λc=>([c],bN B s c)))]:=by
  show st++[MO.dkc (aV (B.ls.map λc=>([c],mx B.ls.length c)))]=_;have:(B.ls.map λc=>([c],mx B.ls.length c))=B.ls.map λc=>([c],bN B s c):=kJ λc hc=>by simp[mx,Hb hc]
  rw[this]
 have kz:∀i,Keeps st (Z i) []:=λi=>Keeps.app st _;have bz:∀i,Bs (Z i):=λi=>hb.app (by simp)
 let E:Option D->Option D->aJ:=λa5 a6=>[some (.loc b),some (.int s),some (.loc ne),some (.loc nw),some (.loc st.length),a5,a6]
 unfold zdw bu bh zh5;generalize hBd:(aD (aK 6 _) _:MS)=BD;obtain⟨cB,st',hh,a5,a6,rfl,rfl⟩:=GP (g:=aW 5) (b:=BD) (gs:=[]) (items:=B.ls.map λc=>D.str [c]) (λi env s=>∃(a5 a6:Option D),env=E a5 a6/\s=Z i)
  (env:=E none none) (st:=Z 0) ⟨none,none,rfl,rfl⟩ (by
   rintro i d env s' hi ⟨a5,a6,rfl,rfl⟩;obtain⟨c,hc,rfl⟩:=Hc hi;have G6:=(gf.mp hc).1;have G7:=gW hc;have ei:=zln hB.ok.nl hc;have hz:=hk.mono (kz i);have gk:=Cy B nk s c (Z i) hz.k;have ty:cM "dict" (.loc nk) (Z i)=true:=by simp[cM,hz.k]
   have mxs:(B.ls.map λx=>([x],if x=c then bN B s c else mx i x))=B.ls.map λx=>([x],mx (i+1) x):=kJ λx hx=>by
    by_cases e:x=c
    ·subst e;simp[mx,ei]
    ·have:bI B.ls x≠i:=λq=>e (by
      have h1:=MN hx;rw[q,hc]at h1;exact (ae5 h1).symm)
     rw[ae2 e];show ([x],mx i x)=([x],mx (i+1) x);have:(bI B.ls x<i)=(bI B.ls x<i+1):=by rw[eq_iff_iff];omega
     simp only[mx,this]
   cases hf:zm B s c with
   | none =>
    rw[hf]at gk;dsimp only at gk;have same:Z i=Z (i+1):=by
     show st++[MO.dkc (aV (B.ls.map λc=>([c],mx i c)))]=st++[MO.dkc (aV (B.ls.map λc=>([c],mx (i+1) c)))];rw[<-mxs];have:(B.ls.map λx=>([x],if x=c then bN B s c else mx i x))=B.ls.map λx=>([x],mx i x):=kJ λx hx=>by
      by_cases e:x=c
      ·subst e;rw[ae1 rfl];have hd:bN B s x=jJ (dC B x):=by unfold bN;rw[hf]
       simp[mx,ei,hd]
      ·rw[ae2 e]
     rw[this]
    refine⟨by simp,E (some (.str [c])) a6,Z i,rfl,E (some (.str [c])) (some .non),Z (i+1),.inl ?_,_,_,rfl,rfl⟩;rw[<-hBd,<-same];exact fD (Dy (oZ rfl hz.o hz.f3) ty (bM (MJ rfl) rfl) gk) (Rb (oG (bA rfl rfl rfl)))
   | some r =>
    rw[hf]at gk;dsimp only at gk;have hr:=hB.ok.ru r (pU hf);have hd:bN B s c=pX r.m (dC B 95) (dC B r.w) (jj (iB B r.g)):=by unfold bN;rw[hf]
    obtain⟨mo,hmo,ixm⟩:=hz.mv r.m;have adV:=hmo;obtain⟨w,W,o1,_,_⟩:=adV;have md:=znc r.m B.ls mo (Z i) (bz i) hmo r.w hr.2 (jj (iB B r.g));rw[show pX r.m (u9 B.ls 95) (u9 B.ls r.w) (jj (iB B r.g))=bN B s c from hd.symm]at md;rw[Ut]at gk;have sk:=Hz B.ls (mx i) st.length c (bN B s c) (Z i) (by simp[Z]) G7 (by have:=hB.few;omega);rw[mxs]at sk;rw[show (Z i).set st.length _=Z (i+1) from Nv _ _ _ _ rfl]at sk;refine⟨by simp,E (some (.str [c])) a6,Z i,rfl,E (some (.str [c])) (some (xN r)),Z (i+1),.inl ?_,_,_,rfl,rfl⟩;rw[<-hBd,Ut];exact fD (Dy (oZ rfl hz.o hz.f3) ty (bM (MJ rfl) rfl) gk) (YM (oG (bA rfl rfl rfl))
     (yt (JB (bA (oZ rfl hz.o hz.f5) (bA rfl rfl oM) ixm) o1 (bM (bA rfl rfl oM) (bM (bA rfl (bA rfl rfl oM) (abm (kz i _ _ (by simp) hw) (DW B.ss (λs=>enc (jj (iB B s))) hr.1))) rfl)) o1 md) (zmm rfl rfl sk)))) (λ_ _ _=>by simp)
 rw[gh]at hh;have g:=YS (st:=st) (o:=.dkc (aV (B.ls.map λc=>([c],bN B s c)))) (λp hp=>by
  unfold aV at hp;obtain⟨q,_,rfl⟩:=gj.mp hp;exact fB _ _)
 rw[<-zn]at g ⊢;exact eV (fD (xx dc rfl) (zs3 (zsl (oZ rfl (hk.mono (kz 0)).o hk.f1) ha) hh (wX rfl))) rfl g
end Law
set_option maxHeartbeats 0
namespace Law
open L2 M Tr
def aaz(kvs:List (Key×D))(n:Nat)(i:Int)(d:D)(st:ak)(h:st[n]? = some (.dkc kvs))(hl:kvs.length<=10000)(hs:∀p∈kvs,p.1≠.inl i):iW (.loc n) (.int i) d st=.ok () (st.set n (.dkc (kvs++[(.inl i,d)]))):=by
 unfold iW;simp only[h,zow];rw[ae1 (by omega)];congr 3;unfold putN;rw[ae2];simp only[p7,afs,not_exists,not_and];exact hs
def Sx{n:Nat}{o:MO}{st:ak}(h:st[n]? = some o):uC [(n,o)] st:=by simp[uC,h]
def zpk(ss:List Nat)(n:Nat)(st:ak)(m:ME)(env:aJ)(hm:m env st=.ok (.loc n) st)(h:st[n]? = some (.lst (ss.map λs=>D.int (s:Nat)))) :
  zr (aj m au) env st=.ok (dG 0 (ss.map λs=>D.int (s:Nat)),[(n,.lst (ss.map λs=>D.int (s:Nat)))]) st:=by
 generalize (ss.map λs=>D.int (s:Nat))=X at *;simp[hm,sW,h]
def R5(st:ak)(A B:MO)(ds:List D)(G:ak)(d:D)(h:ds.length<1000):aU (.loc (st.length+2)) [d] (st++A::B::.lst ds::G)=.ok .non (st++A::B::.lst (ds++[d])::G):=by
 have e:(st++A::B::.lst ds::G)[st.length+2]? = some (.lst ds):=uO (k:=2) rfl;have e2:(st++A::B::.lst ds::G).set (st.length+2) (.lst (ds++[d]))=st++A::B::.lst (ds++[d])::G:=by
  rw[List.set_append,ae2 (by omega),show st.length+2 - st.length=2 by omega];rfl
 unfold aU;dsimp only;rw[e];dsimp only;rw[ae1 (by omega),e2]
def zse(B:Bk)(hB:zP B)(b:Nat)(fs:List (PySem.Str×D))(ns nk nt nm ml mr:Nat)(st:ak)(hb:Bs st)(hk:Sv st b B fs ns nk nt nm ml mr) :
  ze0 [.loc b] st=.ok (.loc st.length) (st++[.lst ((B.ss.map (dN B)).map enc)]):=by
 have Ay:=hB.ss;have zb:=hB.few;have ha:=yc hB.yd
 let EN:MO:=.dkc (aV (B.ls.map λc=>([c],jJ (dC B c))))
 let WY:MO:=.dkc (aah B)
 let PL:D:=enc (bQ (cL B.ls) dW)
 unfold ze0 bu bh zjy;generalize hB1:(lB (az zcs _ _) _:MS)=B1;generalize hB2:(lB (az zep _ _) _:MS)=B2;generalize hB3:(dF _:MS)=B3
 let E:Option D->Option D->Option D->Option D->Option D->aJ:=λa4 a5 a6 a7 a8=>[some (.loc b),some (.int (B.ss.length:Nat)),some PL,some (.loc st.length),a4,a5,a6,a7,a8]

 let Z:Nat->ak:=λi=>st++[.dkc (aV ((B.ls.take i).map λc=>([c],jJ (dC B c))))]
 have hz:=λi=>hk.mono (Keeps.app st [.dkc (aV ((B.ls.take i).map λc=>([c],jJ (dC B c))))]);obtain⟨cB,st',h1,a4,rfl,rfl⟩:=GP (g:=aW 4) (b:=B1) (gs:=[]) (items:=B.ls.map λc=>D.str [c]) (λi env s=>∃(a4:Option D),env=E a4 none none none none/\s=Z i)
  (env:=E none none none none none) (st:=Z 0) ⟨none,rfl,rfl⟩ (by
   rintro i d env s hi ⟨a4,rfl,rfl⟩;obtain⟨c,hc,rfl⟩:=Hc hi;have sk:=zoz ((B.ls.take i).map λc=>([c],jJ (dC B c))) st.length [c] (jJ (dC B c)) (Z i) (by simp[Z]) (by simp;omega) (λp hp=>by
    obtain⟨x,hx,rfl⟩:=gj.mp hp;intro e;exact zns hB.ok.nl hc hx (by simpa using e))
   have es:(Z i).set st.length (.dkc (aV (((B.ls.take i).map λc=>([c],jJ (dC B c)))++[([c],jJ (dC B c))])))=Z (i+1):=by
    show (st++_).set _ _=st++_;rw[Nv _ _ _ _ rfl,kE,hc];simp
   rw[es]at sk;refine⟨by simp,E (some (.str [c])) none none none none,Z i,rfl,_,Z (i+1),.inl ?_,some (.str [c]),rfl,rfl⟩;rw[<-hB1];exact yt (dh (zqo (dC B c) (Z i) (hb.app (by simp))) (bM (bA (oZ rfl (hz i).o hk.f4) rfl (YH (wH B.ls) nt [c] _ (Z i) (.inr (hz i).t) (Y5 (gW hc)))) rfl)) (zmm rfl rfl sk)) (λ_ _ _=>by simp)
 rw[gh]at h1;rw[show Z B.ls.length=st++[EN] by show st++_=_;rw[k_]]at h1

 have KY:Bs (st++[EN]):=hb.app (by simp[EN]);have Ri:=hk.mono (Keeps.app st [EN]);have l1:(st++[EN]).length=st.length+1:=by simp
 let wy:Nat->Key×D:=λ(s:Nat)=>(Sum.inl (s:Int),enc (jj (iB B s)))
 let Y:Nat->ak:=λi=>st++[EN]++[.dkc ((B.ss.take i).map wy)]
 have hy:=λi=>Ri.mono (Keeps.app (st++[EN]) [.dkc ((B.ss.take i).map wy)]);obtain⟨cB,st',h2,a6,a7,rfl,rfl⟩:=GP (g:=wu 2 (eY (aW 6) (eY (aW 7) xX))) (b:=B2) (gs:=[(ns,.lst (B.ss.map λs=>D.int (s:Nat)))]) (items:=dG 0 (B.ss.map λs=>D.int (s:Nat))) (λi env s=>∃(a6 a7:Option D),env=E a4 (some (.loc (st++[EN]).length)) a6 a7 none/\s=Y i)
  (env:=E a4 (some (.loc (st++[EN]).length)) none none none) (st:=Y 0) ⟨none,none,rfl,rfl⟩ (by
   rintro i d env s' hi ⟨a6,a7,rfl,rfl⟩;obtain⟨y,Xy,rfl⟩:=zk7 hi;obtain⟨s,hs,rfl⟩:=Hc Xy;have G6:=(gf.mp hs).1;have wt:=DR i B.ss.length (Y i) (KY.app (by simp)) G6 (by omega);rw[show bB 13 i B.ss.length=iB B s by unfold iB;rw[zln hB.ok.ns hs]]at wt;have sk:=aaz ((B.ss.take i).map wy) (st++[EN]).length (s:Nat) (enc (jj (iB B s))) (Y i) (by simp[Y]) (by simp;omega) (λp hp=>by
    obtain⟨x,hx,rfl⟩:=gj.mp hp;intro e;have:=Sum.inl.inj e;exact zns hB.ok.ns hs hx (by omega))
   rw[show (Y i).set (st++[EN]).length (.dkc ((B.ss.take i).map wy++[(.inl (s:Nat),enc (jj (iB B s)))]))=Y (i+1) by
    show (st++[EN]++_).set _ _=st++[EN]++_;rw[Nv _ _ _ _ rfl,kE,hs];simp[wy]]at sk
   refine⟨Sx (hy i).s,E a4 (some (.loc (st++[EN]).length)) (some (.int i)) (some (.int s)) none,Y i,rfl,_,Y (i+1),.inl ?_,some (.int i),some (.int s),rfl,rfl⟩;rw[<-hB2];exact yt (dh wt rfl) (zmm rfl rfl sk)) (λ_ _ h=>by obtain⟨_,_,_,rfl⟩:=h;exact Sx (hy _).s)
 rw[Zd,gh]at h2;rw[show Y B.ss.length=st++[EN]++[WY] by show st++[EN]++_=_;rw[k_];rfl]at h2

 let E5:Option D->Option D->aJ:=λa6 a7=>E a4 (some (.loc (st++[EN]).length)) a6 a7 (some (.loc (st++[EN]++[WY]).length))
 let S:Nat->ak->ak:=λi G=>st++EN::WY::.lst (((B.ss.take i).map (dN B)).map enc)::G
 have hS:=λi G=>hk.mono (Keeps.app st (EN::WY::.lst (((B.ss.take i).map (dN B)).map enc)::G));have l2:(st++[EN]++[WY]).length=st.length+2:=by simp
 obtain⟨cB,st',h3,a6',a7',G,hG,rfl,rfl⟩:=GP (g:=wu 2 (eY (aW 6) (eY (aW 7) xX))) (b:=B3) (gs:=[(ns,.lst (B.ss.map λs=>D.int (s:Nat)))]) (items:=dG 0 (B.ss.map λs=>D.int (s:Nat))) (λi env s=>∃(a6 a7:Option D) (G:ak),bG G/\env=E5 a6 a7/\s=S i G)
  (env:=E5 a6 a7) (st:=S 0 []) ⟨a6,a7,[],by simp,rfl,rfl⟩ (by
   rintro i d env s' hi ⟨a6,a7,G,hG,rfl,rfl⟩;obtain⟨y,Xy,rfl⟩:=zk7 hi;obtain⟨s,hs,rfl⟩:=Hc Xy;have G6:=(gf.mp hs).1;have bz:Bs (S i G):=hb.app (by simp[EN,WY,hG]);have pk:=Y6 i B.ss.length (S i G) bz.t1 bz.c G6 (by omega);rw[show aM i B.ss.length=uN B s by unfold uN;rw[zln hB.ok.ns hs]]at pk
   let DK:ak:=[.dkc (aV (B.ls.map λc=>([c],bN B s c)))]
   have ro:=Er B.ls hB.ok.nl hB.yd hB.few (bQ (cL B.ls) dW) (uN B s) (bN B s) (S i G).length (S i G++DK) (bz.app (by simp[DK])) (by simp[DK]) (by rw[(aaC B.ls hB.few).2.2];omega);rw[Nv _ _ _ _ rfl]at ro
   let G':ak:=G++[.dkf (aV (B.ls.map λc=>([c],bN B s c)))]++[.dkc (aV (([110],uN B s)::B.ls.map λc=>(dn c,bN B s c)))]
   rw[show S i G++[.dkf (aV (B.ls.map λc=>([c],bN B s c)))]++[.dkc (aV (([110],uN B s)::B.ls.map λc=>(dn c,bN B s c)))]=S i G' by
    show st++EN::WY::_::G++_++_=st++EN::WY::_::G';simp only[G',gP,nO]]at ro
   have ap:=R5 st EN WY (((B.ss.take i).map (dN B)).map enc) G' (enc (dN B s)) (by simp;omega);rw[show st++EN::WY::.lst (((B.ss.take i).map (dN B)).map enc++[enc (dN B s)])::G'=S (i+1) G' by
    show _=st++EN::WY::.lst (((B.ss.take (i+1)).map (dN B)).map enc)::G';rw[kE,hs];simp,<-l2]at ap
   refine⟨Sx (hS i G).s,E5 (some (.int i)) (some (.int s)),S i G,rfl,_,S (i+1) G',.inl ?_,some (.int i),some (.int s),G',by simp[G',hG],rfl,rfl⟩;rw[<-hB3];exact YZ (Dy rfl (by simp[cM,S]) (bM (dh ro (bM rfl (bM (dh pk rfl) (bM (dh (zp7 B hB b fs ns nk nt nm ml mr s st.length _ (S i G) bz (hS i G) (uO (k:=0) rfl) (uO (k:=1) rfl l1)) rfl) rfl)))) rfl) ap)) (λ_ _ h=>by obtain⟨_,_,G,_,_,rfl⟩:=h;exact Sx (hS _ G).s)
 rw[Zd,gh]at h3;have ln:=SJ (st:=st) (n:=ns) (ds:=B.ss.map λs=>D.int (s:Nat)) (by unfold aA;rw[hk.s]);rw[gh]at ln;have g:=zr4 (st:=st) (g:=[EN,WY]) (g':=G) (o:=.lst ((B.ss.map (dN B)).map enc)) (by
  show bW _ _;generalize B.ss.map (dN B)=ts
  induction ts with
  | nil=>simp
  | cons t ts ih=>simp[ih,fB])
 have eS:S B.ss.length G=st++[EN,WY]++.lst ((B.ss.map (dN B)).map enc)::G:=by
  show st++EN::WY::.lst (((B.ss.take B.ss.length).map (dN B)).map enc)::G=_;rw[k_];simp
 rw[<-eS,show st.length+[EN,WY].length=(st++[EN]++[WY]).length from l2.symm]at g;have e3:st++[EN]++[WY]++[.lst []]=S 0 []:=by show _=st++EN::WY::.lst []::[];simp
 exact eV (fD (xx ln (bM (oZ rfl hk.o hk.f2) rfl)) (fD (dh (zp8 B.ls st hb hB.yd hB.few) (bM (oZ rfl hk.o hk.f1) rfl)) (fD rfl (zs3 (zsl (oZ rfl (hz 0).o hk.f1) ha) h1 (fD rfl
  (zs3 (zpk B.ss ns (Y 0) _ _ (oZ rfl (hy 0).o hk.f2) (hy 0).s) h2 (fD (st1:=S 0 []) (by rw[<-e3];rfl) (zs3 (zpk B.ss ns (S 0 []) _ _ (oZ rfl (hS _ _).o hk.f2) (hS _ _).s) h3 (wX rfl))))))))) rfl g
end Law
set_option maxHeartbeats 0
namespace Law
open L2 M Tr
def Keeps.trans{a b c:ak}{ex:List Nat}(h:Keeps a b ex)(k:Keeps b c ex):Keeps a c ex:=λj o hj ho=>k j o hj (h j o hj ho)
def Keeps.more{a b:ak}{ex:List Nat}(h:Keeps a b []):Keeps a b ex:=λj o _ ho=>h j o (by simp) ho
def Keeps.set(a:ak)(n:Nat)(o:MO):Keeps a (a.set n o) [n]:=λj x hj hx=>by
 rw[gO (λe=>hj (by simp[e]))];exact hx
def Keeps.refl(a:ak)(ex:List Nat):Keeps a a ex:=λ_ _ _ h=>h
def rn{c:PySem.Str}{X X1:ak}{sf:Nat}{fs:List (PySem.Str×D)}(xq:List (PySem.Str×D))(h:X1[sf]? = some (.ins c fs))(k:Keeps X X1 [sf])(hc:bG X1) :
  ∃X2,X1.set sf (.ins c xq)=X2/\X2[sf]? = some (.ins c xq)/\Keeps X X2 [sf]/\Keeps X1 X2 [sf]/\X2.length=X1.length/\bG X2 :=
 ⟨_,rfl,mq (gf.mp h).1,k.trans (Keeps.set _ _ _),Keeps.set _ _ _,nW,UJ hc rfl⟩
def zo2{c:PySem.Str}{F:FD}{mA:MA}{env:aJ}{X X1:ak}{as:List D}(ha:mA env X=.ok as X)(hf:F (.loc X.length::as) (X++[.ins c []])=.ok .non X1):lN c F mA env X=.ok (.loc X.length) X1:=by
 unfold lN;rw[ha,R.aB,hf];rfl
def dJ.keeps{st st':ak}{n p:Nat}{m:Bool}{ls:List Nat}{o:MO}(h:dJ st n m ls)(k:Keeps st st' [p])(ho:st[p]? = some o)(hb:95∈ls)(h1:∀fs,o≠.ins "Move" fs)(h2:∀W,o=.dkc W->W=[]):dJ st' n m ls:=by
 obtain⟨w,W,q1,q2,q3⟩:=h;have kk:∀j x,st[j]? = some x->x≠o->st'[j]? = some x:=λj x hj hx=>k _ _ (λhm=>by obtain rfl:=h_.mp hm;rw[ho]at hj;cases hj;exact hx rfl) hj;refine⟨w,W,kk _ _ q1 (λe=>h1 _ e.symm),kk _ _ q2 (λe=>?_),λc hc=>?_⟩
 ·obtain⟨q,z,_⟩:=q3 95 hb;rw[h2 _ e.symm]at z;cases z
 ·obtain⟨q,z1,z2⟩:=q3 c hc;exact⟨q,z1,kk _ _ z2 (λe=>by have:=h2 _ e.symm;simp[aV]at this)⟩
def dJ.book{st st':ak}{n sf:Nat}{m:Bool}{ls:List Nat}{fs:List (PySem.Str×D)}(h:dJ st n m ls)(k:Keeps st st' [sf])(ho:st[sf]? = some (.ins "Book" fs))(hb:95∈ls):dJ st' n m ls :=
 h.keeps k ho hb (λ_ e=>by injection e with e _;exact absurd e (by decide +kernel)) (λ_ e=>by cases e)
def Jz(B:Bk)(hB:zP B)(nt:Nat)(fe:ME)(env:aJ)(X:ak)(hb:Bs X)(hfe:∀Z,Keeps X Z [nt]->fe env Z=.ok (.loc nt) Z)(ht:X[nt]? = some (.dkc (aV (wH B.ls)))) :
  ∃X1 ml mr,fL (cF (ct (.str [108])) (lN "Move" U3 (aj (ct (.str [108])) (aj fe au))) (cF (ct (.str [114])) (lN "Move" U3 (aj (ct (.str [114])) (aj fe au))) iH)) env X=.ok (.loc X.length) X1 /\
   Keeps X X1 [nt]/\X1[nt]? = some (.dkf (aV (wH B.ls)))/\X1[X.length]? = some (.dkc [(.inr (strOf [108]),.loc ml),(.inr (strOf [114]),.loc mr)])/\dJ X1 ml true B.ls/\dJ X1 mr false B.ls/\bG X1/\X.length<X1.length:=by
 have hnt:=(gf.mp ht).1
 let Y0:ak:=X++[.dkc []]
 have y0l:Y0.length=X.length+1:=by simp[Y0]
 have b0:Bs (Y0++[.ins "Move" []]):=(hb.app (by simp)).app (by simp;rfl);obtain⟨Y1,i1,k1,t1,m1,c1,l1⟩:=zi1 true B.ls hB.ok.nl hB.yd hB.few hB.ok.bl Y0.length nt (Y0++[.ins "Move" []]) b0 (by simp) (.inl (cZ (cZ ht)));have kX1:Keeps X Y1 [nt]:=λj o hj h=>k1 j o (by
  have:=(gf.mp h).1;simp only[gq,kO,afx,not_or]at hj ⊢;exact⟨by omega,hj⟩) (cZ (cZ h))
 have e1:=zo2 (c:="Move") (mA:=aj (ct (.str [108])) (aj fe au)) (env:=env) (bM rfl (bM (hfe Y0 (Keeps.app X _).more) rfl)) i1;have p0:Y1[X.length]? = some (.dkc []):=k1 _ _ (by
  simp only[gq,kO,afx,not_or];exact⟨by omega,by omega⟩) (cZ (by simp[Y0]))
 have y1l:X.length+1<Y1.length:=by
  have:(Y0++[.ins "Move" []]:ak).length=X.length+2:=(by simp[Y0]);omega
 have n1:nt≠1:=λe=>by rw[e,hb.t1]at ht;cases ht
 have n2:nt≠2:=λe=>by rw[e,hb.t2]at ht;cases ht
 have bY1:Bs Y1:=⟨kX1 _ _ (by simpa using afb n1) hb.t1,kX1 _ _ (by simpa using afb n2) hb.t2,c1⟩;obtain⟨Y2,i2,k2,t2,m2,c2,l2⟩:=zi1 false B.ls hB.ok.nl hB.yd hB.few hB.ok.bl Y1.length nt (Y1++[.ins "Move" []]) (bY1.app (by simp;rfl)) (by simp) (.inr (cZ t1));have e2:=zo2 (c:="Move") (mA:=aj (ct (.str [114])) (aj fe au)) (env:=env) (bM rfl (bM (hfe Y1 kX1) rfl)) i2;have k12:Keeps Y1 Y2 []:=λj o _ h=>by
  by_cases e:j=nt
  ·subst e;rw[t1]at h;cases h;exact t2
  ·refine k2 j o ?_ (cZ h);have:=(gf.mp h).1;simp only[gq,kO,afx,not_or];exact⟨by omega,e⟩
 have p1:Y2[X.length]? = some (.dkc []):=k12 _ _ (by simp) p0;have hx2:=(gf.mp p1).1
 let KV:MO:=.dkc [(.inr (strOf [108]),.loc Y0.length),(.inr (strOf [114]),.loc Y1.length)]
 have ks:=Keeps.set Y2 X.length KV;refine⟨Y2.set X.length KV,Y0.length,Y1.length,?_,?_,?_,mq hx2,?_,?_,UJ c2 rfl,by rw[nW];exact hx2⟩
 ·have Rh:¬ strOf [108]=strOf [114]:=λe=>by have:=SN.mp e;simp at this
  unfold fL;change ((cF _ _ _:Sq) env Y0).bind _=_;rw[zry,O6,R.aB,e1,R.aB,zry,O6,R.aB,e2];simp only[O4,R.aB];rw[show vp [(D.str [108],D.loc Y0.length),(D.str [114],D.loc Y1.length)]=some [(.inr (strOf [108]),.loc Y0.length),(.inr (strOf [114]),.loc Y1.length)] from rfl,p1];simp[jR,putN,Rh,KV]
 ·exact λj o hj h=>by
   have:=(gf.mp h).1;rw[gO (by omega)];exact k12 _ _ (by simp) (kX1 j o hj h)
 ·rw[gO (by omega)];exact t2
 ·exact m1.keeps (k12.more.trans ks) p0 hB.ok.bl (λ_=>by simp) (λW e=>by cases e;rfl)
 ·exact m2.keeps ks p1 hB.ok.bl (λ_=>by simp) (λW e=>by cases e;rfl)
theorem zor:∀{t u:Tr},enc t=enc u->t=u
 | .lf s,.lf t,h=>by
  rw[enc,enc]at h;injection h with h;rw[h]
 | .lf s,.jn l r,h=>by rw[enc,enc]at h;cases h
 | .jn l r,.lf s,h=>by rw[enc,enc]at h;cases h
 | .jn l r,.jn l' r',h=>by
  rw[enc,enc]at h;injection h with h;injection h with h1 h2;injection h2 with h2 h3;rw[zor h1,zor h2]
open Classical in
noncomputable def yW(f:Tr->Tr):D->D:=λd=>if h:∃t,enc t=d then enc (f h.choose) else d
def zk0(f:Tr->Tr)(t:Tr):yW f (enc t)=enc (f t):=by
 have hx:∃u,enc u=enc t:=⟨t,rfl⟩;unfold yW;rw[dif_pos hx,zor hx.choose_spec]
def zoe(f:Tr->Tr)(ts:List Tr):(ts.map enc).map (yW f)=(ts.map f).map enc:=by
 rw[gJ,gJ];exact kJ λt _=>zk0 f t
structure oX(st:ak)(b:Nat)(B:Bk):Prop where
 ex:∃fs ns nk nt nm ml mr nr GZ,Sv st b B fs ns nk nt nm ml mr/\fs.lookup ("state_trees":PySem.Str)=some (D.loc GZ)/\st[GZ]? = some (.lst ((B.ss.map (qO B)).map enc)) /\
  fs.lookup ("rules":PySem.Str)=some (D.loc nr)/\st[nr]? = some (.lst (B.rs.map xN))/\fs.lookup ("signs":PySem.Str)=some (D.str B.ls.tail)
def oX.mono{st st':ak}{b:Nat}{B:Bk}(h:oX st b B)(k:Keeps st st' []):oX st' b B:=by
 obtain⟨fs,ns,nk,nt,nm,ml,mr,nr,GZ,h1,h2,h3,h4,h5,h6⟩:=h.ex;exact⟨fs,ns,nk,nt,nm,ml,mr,nr,GZ,h1.mono k,h2,k _ _ (by simp) h3,h4,k _ _ (by simp) h5,h6⟩
def zre{st:ak}{n:Nat}{ds:List D}(h:st[n]? = some (.lst ds)):tL [.loc n] st=.ok (.loc st.length) (st++[.lst ds]):=by
 have:aA st n=some ds:=by unfold aA;rw[h]
 unfold tL;simp only[this]
def zm1(B:Bk)(hB:zP B)(signs:List Nat)(hs:B.ls=95::signs)(sf nr nss:Nat)(st:ak)(hb:Bs st)(h1:st[sf]? = some (.ins "Book" []))(h2:st[nr]? = some (.lst (B.rs.map xN)))(h3:st[nss]? = some (.lst (B.ss.map λs=>D.int (s:Nat)))) :
  ∃st',Zn [.loc sf,.loc nr,.str signs,.loc nss] st=.ok .non st'/\Keeps st st' [sf]/\oX st' sf B/\bG st':=by
 have Rc:=(gf.mp h1).1;have hnr:nr≠sf:=λe=>by subst e;rw[h1]at h2;cases h2
 have FP:nss≠sf:=λe=>by subst e;rw[h1]at h3;cases h3
 have n1:(1:Nat)∉[sf]:=by simp;exact λe=>by rw[<-e,hb.t1]at h1;cases h1
 have n2:(2:Nat)∉[sf]:=by simp;exact λe=>by rw[<-e,hb.t2]at h1;cases h1
 have big:∀j,st.length<=j->j∉[sf]:=λj hj=>by simp;omega
 let r1:PySem.Str×D:=("rules",.loc st.length)
 let r2:PySem.Str×D:=("signs",.str signs)
 let r4:PySem.Str×D:=("letters",.str B.ls)
 let r8:PySem.Str×D:=("start_cost",.int (qT B.ls:Nat))
 obtain⟨X1,u1,o1,k1,q1,l1,c1⟩:=rn [r1] (cZ h1) (Keeps.app st [.lst (B.rs.map xN)]).more (by simp[hb.c]);have x1:X1[st.length]? = some (.lst (B.rs.map xN)):=q1 _ _ (big _ (gb _)) (by simp);obtain⟨X2,u2,o2,k2,q2,l2,c2⟩:=rn [r1,r2] o1 (Keeps.refl _ _) c1;have h3':=k2 _ _ (by simpa using FP) (k1 _ _ (by simpa using FP) h3)
 let r3:PySem.Str×D:=("states",.loc X2.length)
 have m2:X2.length=st.length+1:=by rw[l2,l1];simp
 obtain⟨X3,u3,o3,k3,q3,l3,c3⟩:=rn [r1,r2,r3] (cZ o2) (Keeps.app X2 [.lst (B.ss.map λs=>D.int (s:Nat))]).more (by simp[c2]);have x3:X3[X2.length]? = some (.lst (B.ss.map λs=>D.int (s:Nat))):=q3 _ _ (big _ (by omega)) (by simp);obtain⟨X4,u4,o4,k4,q4,l4,c4⟩:=rn [r1,r2,r3,r4] o3 (Keeps.refl _ _) c3;have kk4:Keeps st X4 [sf]:=((k1.trans k2).trans k3).trans k4;have h2':=kk4 _ _ (by simpa using hnr) h2
 let r5:PySem.Str×D:=("by_key",.loc X4.length)
 have m4:X4.length=st.length+2:=by rw[l4,l3];simp[m2]
 obtain⟨X5,u5,o5,k5,q5,l5,c5⟩:=rn [r1,r2,r3,r4,r5] (cZ o4) (Keeps.app X4 [.dic (tab [] (B.rs.map fV))]).more (by simp[c4]);have x5:X5[X4.length]? = some (.dic (tab [] (B.rs.map fV))):=q5 _ _ (big _ (by omega)) (by simp);have kk5:Keeps st X5 [sf]:=kk4.trans k5
 let r6:PySem.Str×D:=("sign_trees",.loc X5.length)
 have m5:X5.length=st.length+3:=by rw[l5];simp[m4]
 obtain⟨X6,u6,o6,k6,q6,l6,c6⟩:=rn [r1,r2,r3,r4,r5,r6] (cZ o5) (Keeps.app X5 [.dkc (aV (wH B.ls))]).more (by simp[c5]);have x6:X6[X5.length]? = some (.dkc (aV (wH B.ls))):=q6 _ _ (big _ (by omega)) (by simp);have kk6:Keeps st X6 [sf]:=kk5.trans k6;have m6:X6.length=st.length+4:=by rw[l6];simp[m5]

 obtain⟨Y,ml,mr,hY,kY,tY,pY,mlY,mrY,cY,lY⟩:=Jz B hB X5.length (cj "Book" "sign_trees" (vr 0)) [some (.loc sf),some (.loc nr),some (.str signs),some (.loc nss),none,none] X6 (hb.keeps kk6 n1 n2 c6) (λZ kZ=>oZ rfl (kZ _ _ (by simp;omega) o6) rfl) x6;have oY:=kY sf _ (by simp;omega) o6
 let r7:PySem.Str×D:=("moves",.loc X6.length)
 obtain⟨X7,u7,o7,k7,q7,l7,c7⟩:=rn [r1,r2,r3,r4,r5,r6,r7] oY (Keeps.refl _ _) cY;have kk7:Keeps st X7 [sf]:=λj o hj h=>q7 _ _ hj (kY _ _ (by
  have:=(gf.mp h).1;simp;omega) (kk6 _ _ hj h))
 have b7:Bs X7:=hb.keeps kk7 n1 n2 c7;obtain⟨X8,u8,o8,k8,q8,l8,c8⟩:=rn [r1,r2,r3,r4,r5,r6,r7,r8] o7 (Keeps.refl _ _) c7;have k68:∀j o,st.length<=j->j≠X5.length->X6[j]? = some o->X8[j]? = some o:=λj o hj hn h=>k8 _ _ (big j hj) (q7 _ _ (big j hj) (kY _ _ (by simp;exact hn) h));have x8s:=k68 _ _ (by omega) (by omega) (k6 _ _ (big _ (by omega)) (k5 _ _ (big _ (by omega)) (k4 _ _ (big _ (by omega)) x3)));have x8k:=k68 _ _ (by omega) (by omega) (k6 _ _ (big _ (by omega)) x5);have x8r:=k68 _ _ (gb _) (by omega) (k6 _ _ (big _ (by omega)) (k5 _ _ (big _ (by omega)) (k4 _ _ (big _ (by omega)) (k3 _ _ (big _ (by omega)) (k2 _ _ (big _ (by omega)) x1)))));have b8:Bs X8:=hb.keeps (kk7.trans k8) n1 n2 c8;have Z_:=hB.ok.bl;have k0:∀(r:List (PySem.Str×D)) (Z:ak),Z[sf]? = some (.ins "Book" (r1::r2::r3::r4::r5::r6::r7::r8::r))->Keeps X8 Z [sf]->Sv Z sf B (r1::r2::r3::r4::r5::r6::r7::r8::r) X2.length X4.length X5.length X6.length ml mr:=λfs Z hZ kZ =>
  ⟨hZ,rfl,rfl,rfl,rfl,rfl,rfl,kZ _ _ (big _ (by omega)) x8s,kZ _ _ (big _ (by omega)) x8k,kZ _ _ (big _ (by omega)) (k8 _ _ (big _ (by omega)) (q7 _ _ (big _ (by omega)) tY)),kZ _ _ (big _ (by omega)) (k8 _ _ (big _ (by omega)) (q7 _ _ (big _ (by omega)) pY)),
   ((mlY.book q7 oY Z_).book k8 o7 Z_).book kZ o8 Z_,((mrY.book q7 oY Z_).book k8 o7 Z_).book kZ o8 Z_⟩
 have ro:=zse B hB sf _ _ _ _ _ _ _ X8 b8 (k0 [] X8 o8 (Keeps.refl _ _))
 let RW:List Tr:=B.ss.map (dN B)
 let X9:ak:=X8++[.lst (RW.map enc)]
 have b9:Bs X9:=b8.app (by simp);have vR:∀t∈RW,val t=true:=λt ht=>by
  obtain⟨x,_,rfl⟩:=gj.mp ht;exact znn x
 have g9:∀g:ak,(X9++g)[X8.length]? = some (.lst (RW.map enc)):=λg=>cZ (by simp[X9]);have aaB:∀(e:aJ) (g:ak),e[4]? = some (some (.loc X8.length))->lu (vr 4) e (X9++g)=.ok (RW.map enc,[(X8.length,.lst (RW.map enc))]) (X9++g):=λe g he=>by
  rw[Ia,Ae,he];simp only[R.aB,g9]
 have rl:RW.length=B.ss.length:=by simp[RW]
 have Ay:=hB.ss;have to:=zqr (RW.map lA) X9.length (X9++[.lst ((RW.map lA).map enc)]) (by rw[gh,rl];exact hB.s0) (by rw[gh,rl];exact Ay) (by simp[aA]) (λe he=>by
  obtain⟨t,ht,rfl⟩:=gj.mp he;exact zn6 (vR t ht))
 let R8:ak:=X9++[.lst ((RW.map lA).map enc)]
 have est:(RW.map (λt=>hold [t,lr B])).map enc=(B.ss.map (qO B)).map enc:=by
  show ((B.ss.map (dN B)).map _).map _=_;rw[gJ (l:=B.ss)];rfl
 have c10:bG (R8++[.lst ((B.ss.map (qO B)).map enc)]):=by
  have:=b9.c;simp[R8,this]
 obtain⟨X11,u11,o11,k11,q11,l11,c11⟩:=rn [r1,r2,r3,r4,r5,r6,r7,r8,("state_trees",.loc R8.length)] (cZ (cZ (cZ o8))) (Keeps.app R8 [.lst ((B.ss.map (qO B)).map enc)]).more c10;have k8b:Keeps X8 X11 [sf]:=((Keeps.app X8 _).trans (Keeps.app X9 _)).more.trans k11;have x10:st.length<=R8.length:=by simp[R8,X9,l8,l7];omega
 have XS:=A_ (st:=st) (st':=X11) (d:=.non) Rc (by rw[o11,h1];simp);refine⟨X11,?_,(kk7.trans k8).trans k8b,⟨_,_,_,_,_,_,_,st.length,R8.length,k0 [_] X11 o11 k8b,rfl,q11 _ _ (big _ x10) (uO (k:=0) rfl),rfl,k8b _ _ (big _ (gb _)) x8r,by rw[hs];rfl⟩,c11⟩;refine Ud (Ha (xx (zre h2) rfl) rfl (cZ h1) u1 (Ha rfl rfl o1 u2 (Ha (xx (zre h3') rfl) rfl (cZ o2) u3
  (Ha (d:=.str B.ls) (bA rfl rfl ?_) rfl o3 u4
  (Ha (dh (Hq (B.rs.map fV) nr X4 (by rw[Eo];exact h2') (by rw[gh];exact hB.rs)) rfl) rfl (cZ o4) u5
  (Ha (dh (zmf B.ls hB.ok.nl hB.yd (by have:=hB.few;omega) X5 (hb.keeps kk5 n1 n2 c5)) (bM (oZ rfl o5 rfl) rfl)) rfl (cZ o5) u6
  (Ha hY rfl oY u7 (Ha (dh (zqq B.ls X7 b7 hB.yd hB.few) (bM (oZ rfl o7 rfl) rfl)) rfl o7 u8
  (fD (dh ro rfl) (fD (dh to (bM ?_ rfl)) (zku (d:=.loc R8.length) (st1:=R8++[.lst ((B.ss.map (qO B)).map enc)]) ?_ rfl (cZ (cZ (cZ o8))) (by simp)))))))))))) rfl ?_
 ·have hf:=hB.few;rw[hs]at hf ⊢;have:1+signs.length<=1000000:=by simp at hf;omega
  exact add_str this
 ·rw[<-zoe];exact S6 (yW lA) (λenv=>env.length=1) (by have:=aaB [none,none,none,none,some (.loc X8.length)] [] rfl;rwa[gY]at this) rfl (by simp;omega) (λys=>Sx (g9 _)) (λd hd cB ys hP=>by
   obtain⟨t,ht,rfl⟩:=gj.mp hd;obtain⟨x,rfl⟩:=mF.mp hP;refine⟨[some (enc t)],rfl,rfl,?_⟩;rw[zk0];exact dh (zp5 t _ (b9.app (by simp))) rfl)
 ·rw[<-est,<-zoe λt=>hold [t,lr B]];exact S6 (yW λt=>hold [t,lr B]) (λenv=>∃x,env=[some (enc (lr B)),x]) (aaB _ _ rfl) ⟨_,rfl⟩ (by simp;omega) (λys=>Sx (cZ (g9 _))) (λd hd cB ys hP=>by
   obtain⟨t,ht,rfl⟩:=gj.mp hd;obtain⟨x,rfl⟩:=hP;refine⟨[some (enc (lr B)),some (enc t)],⟨_,rfl⟩,rfl,?_⟩;rw[zk0];exact dh (zko t (lr B) _ (vR t ht) zin) rfl)
 ·subst u11;exact XS
end Law
set_option maxHeartbeats 0
namespace Law
open L2 M Tr
theorem JK:∀ts:List Tr,sX ts=jd ts
 | []=>rfl
 | t::ts=>by rw[sX,jd,JK ts]
def sU(z:Sd):D:=.tup [.int z.s,.str z.a.reverse,.str [z.c],.str z.b]
def sgD(B:Bk):D->D
 | .str [c]=>enc (dC B c)
 | d=>d
def Oo(B:Bk)(cs:List Nat):(cs.map λc=>D.str [c]).map (sgD B)=(cs.map (dC B)).map enc:=by rw[gJ,gJ];rfl
def KD(ss:List Nat)(s:Nat)(h:s∈ss):(ss.map λ(s:Nat)=>(s:Int)).findIdx? (λz=>decide (z=(s:Int)))=some (bI ss s):=by
 rw[List.findIdx?_map];have e:((λz=>decide (z=(s:Int)))∘λ(s:Nat)=>(s:Int))=λz:Nat=>decide (z=s):=by
  funext z;rw[mU];simp only[Function.comp,afs];omega
 rw[e,List.findIdx?_eq_some_of_exists ⟨s,h,by simp⟩]
 rfl
def Fy(ss:List Nat):intsOf (ss.map λs=>D.int (s:Nat))=some (ss.map λ(s:Nat)=>(s:Int)):=zge ss
section
variable  {B:Bk}{b:Nat}{st:ak}
def zhj(hk:oX st b B){s:Nat}(hs:s∈B.ss):∃ns,(∀m env,m env st=.ok (.loc b) st->cj "Book" "states" m env st=.ok (.loc ns) st)/\cM "list" (.loc ns) st=true/\jU (.loc ns) [.int s] st=.ok (.int (bI B.ss s:Nat)) st/\fH [.loc ns] st=.ok (.int (B.ss.length:Nat)) st:=by
 obtain⟨fs,ns,nk,nt,nm,ml,mr,nr,GZ,h1,h2,h3,_⟩:=hk.ex;have it:aA st ns=some (B.ss.map λs=>D.int (s:Nat)):=by unfold aA;rw[h1.s]
 refine⟨ns,λm env hm=>oZ hm h1.o h1.f2,by simp[cM,h1.s],?_,?_⟩
 ·unfold jU;simp only[it,Fy,KD B.ss s hs]
 ·have:=SJ it;rwa[gh]at this
def zlg(hk:oX st b B){s:Nat}(hs:s∈B.ss):zdz [.loc b,.int s] st=.ok (enc (qO B s)) st:=by
 obtain⟨ns,f1,ty,li,_⟩:=zhj hk hs;obtain⟨fs,_,nk,nt,nm,ml,mr,nr,GZ,h1,h2,h3,_⟩:=hk.ex;have ix:aY (.loc GZ) (.int (bI B.ss s:Nat)) st=.ok (enc (qO B s)) st:=by
  refine z6 _ _ _ ((B.ss.map (qO B)).map enc) _ (by unfold aA;rw[h3]) ?_;have g:((B.ss.map (qO B)).map enc)[bI B.ss s]? = some (enc (qO B s)):=by rw[gM,gM,MN hs];rfl
  exact R4 g
 exact eV (wX (bA (oZ rfl h1.o h2) (Dy (f1 _ _ rfl) ty rfl li) ix)) rfl (dY (fB _ _))
def zmi(hB:zP B)(hb:Bs st)(hk:oX st b B)(mi:MI)(env:aJ)(cs:List Nat)(h0:env[0]? = some (some (.loc b)))(hi:mi env st=.ok (cs.map λc=>D.str [c],[]) st)(hc:∀c∈cs,c∈B.ls)(hl:cs.length<=1000) :
  dU [some 0,none] mi (aW 1) qd (aL uD (cj "Book" "sign_trees" (vr 0)) (vr 1)) env st=.ok (.loc st.length) (st++[.lst ((cs.map (dC B)).map enc)]):=by
 obtain⟨fs,ns,nk,nt,nm,ml,mr,nr,GZ,h1,_⟩:=hk.ex;rw[<-Oo];exact S6 (sgD B) (λenv=>∃x,env=[some (.loc b),x]) hi ⟨none,by simp[oA,h0]⟩ (by simp;omega) (λys=>by simp) (λd hd cB ys hP=>by
  obtain⟨c,G7,rfl⟩:=gj.mp hd;obtain⟨x,rfl⟩:=hP;have hz:=h1.mono (Keeps.app st [.lst ys]);exact⟨[some (.loc b),some (.str [c])],⟨_,rfl⟩,rfl,bA (oZ rfl hz.o hz.f4) rfl (YH (wH B.ls) nt [c] (dC B c) _ (.inr hz.t) (Y5 (hc c G7)))⟩)
def zoo(cs:List Nat)(st:ak)(n:Nat)(h:st[n]? = some (.lst ((cs.map (dC B)).map enc))):Zk [.loc n] st=.ok (enc (iu B cs)) st:=by
 have:=zr5 (cs.map (dC B)) n st h (λt ht=>by
  obtain⟨c,_,rfl⟩:=gj.mp ht;exact yH c)
 rw[<-JK]at this;exact this
def zr9(hB:zP B)(hb:Bs st)(hk:oX st b B)(z:Sd)(hz:Dq B z)(ha:z.a.length<=1000)(oU:z.b.length<=1000):zd6 [.loc b,sU z] st=.ok (.tup [enc (iu B z.a),enc (dC B z.c),enc (iu B z.b)]) st:=by
 obtain⟨fs,ns,nk,nt,nm,ml,mr,nr,GZ,h1,_⟩:=hk.ex
 let Z1:ak:=st++[.lst ((z.a.map (dC B)).map enc)]
 have Ri:=hk.mono (Keeps.app st [.lst ((z.a.map (dC B)).map enc)]);have KY:Bs Z1:=hb.app (by simp);have al:z.b.all (λc=>decide (c<128))=true:=yc λx hx=>hB.yd x (hz.b x hx);have XQ:=h1.mono ((Keeps.app st _).trans (Keeps.app Z1 [.lst ((z.b.map (dC B)).map enc)]));refine eV (fD (dh (zoo (B:=B) z.a Z1 st.length (by simp[Z1])) (bM (zmi hB hb hk _ _ z.a rfl (HR (bA rfl rfl oM) (by omega)) hz.a ha) rfl)) (fD (dh (zoo (B:=B) z.b (Z1++[.lst ((z.b.map (dC B)).map enc)]) Z1.length (by simp)) (bM (zmi hB KY Ri _ _ z.b rfl (zsl (bA rfl rfl oM) al) hz.b oU) rfl)) (wX (MJ (bM rfl (bM (bA (oZ rfl XQ.o XQ.f4) (bA rfl rfl oM) (YH (wH B.ls) nt [z.c] (dC B z.c) _ (.inr XQ.t) (Y5 hz.c))) rfl)))))) rfl ?_;rw[gP];exact o9 (by simp[fB])
def zgu(hB:zP B)(hb:Bs st)(hk:oX st b B)(z:Sd)(hz:Dq B z)(ha:z.a.length<=1000)(oU:z.b.length<=1000):zdt [.loc b,sU z] st=.ok (enc (d_ B z)) st:=by
 exact eV (fD (dh (zr9 hB hb hk z hz ha oU) rfl) (wX (dh (uL (qO B z.s) (hold [iu B z.a,dC B z.c,iu B z.b]) st) (bM (dh (zlg hk hz.s) (bM rfl (bM (bA rfl rfl oM) rfl))) (bM (dh (zqy (iu B z.a) (dC B z.c) (iu B z.b) st (Bj _) (yH _) (Bj _)) (bM (bA rfl rfl oM) (bM (bA rfl rfl oM) (bM (bA rfl rfl oM) rfl)))) rfl))))) rfl (dY (fB _ (d_ B z)))
def zqg(hB:zP B)(hb:Bs st)(hk:oX st b B)(z:Sd)(hz:Dq B z)(ha:z.a.length<=1000)(oU:z.b.length<=1000):zfd [.loc b,sU z] st=.ok (enc (lX B z)) st:=by
 obtain⟨ns,f1,ty,li,le⟩:=zhj hk hz.s;exact eV (fD (dh (zr9 hB hb hk z hz ha oU) rfl) (fD (dh (Y6 (bI B.ss z.s) B.ss.length st hb.t1 hb.c (Hb hz.s) (by have:=hB.ss;omega)) (bM (Dy (f1 _ _ rfl) ty (bM (bA rfl rfl oM) rfl) li) (bM (xx le (bM (f1 _ _ rfl) rfl)) rfl))) (wX (dh (zo6 (uN B z.s) (iu B z.a) (dC B z.c) (iu B z.b) st (z8 _ _) (Bj _) (yH _) (Bj _)) (bM rfl (bM (bA rfl rfl oM) (bM (bA rfl rfl oM) (bM (bA rfl rfl oM) rfl)))))))) rfl (dY (fB _ (lX B z)))
end
end Law
set_option maxHeartbeats 0
namespace Law
open L2 M Tr
section
variable  {B:Bk}{b:Nat}{st:ak}
def zfc(hB:zP B)(hb:Bs st)(hk:oX st b B)(z:Sd)(hz:Dq B z)(ha:z.a.length<=1000)(oU:z.b.length<=1000):zc8 [.loc b,sU z] st=.ok (.int (d8 B z:Nat)) st:=by
 have hl:=hB.few;obtain⟨fs,ns,nk,nt,nm,ml,mr,nr,GZ,h1,_⟩:=hk.ex;have si:qR (.str B.ls) [.str [z.c]] st=.ok (.int (bI B.ls z.c:Nat)) st:=by
  unfold qR;dsimp only;rw[List.findIdx?_eq_some_of_exists ⟨z.c,hz.c,by simp⟩]
  rfl
 have le:fH [.str B.ls] st=.ok (.int (B.ls.length:Nat)) st:=zj3 _ B.ls (by omega);have pc:=zir (bI B.ls z.c) B.ls.length st hb (Hb hz.c) (by omega);have gk:=Cy B nk z.s z.c st h1.k;have ty:cM "dict" (.loc nk) st=true:=by simp[cM,h1.k]
 let P:Nat:=qT B.ls+bO (bI B.ls z.c) B.ls.length
 have body:zgs (startM 7 [.loc b,sU z]) st=.ok (.rt (.int (d8 B z:Nat))) st:=by
  refine fD (bA (oZ rfl h1.o h1.f6) (dh pc (bM (Dy (oZ rfl h1.o h1.f1) rfl (bM (bA rfl rfl oM) rfl) si) (bM (xx le (bM (oZ rfl h1.o h1.f1) rfl)) rfl))) (Y7 (c:=P) rfl)) (fD (Dy (oZ rfl h1.o h1.f3) ty (bM (MJ (bM (bA rfl rfl oM) (bM (bA rfl rfl oM) rfl))) rfl) gk) ?_);cases hf:zm B z.s z.c with
  | none =>
   refine (Aa (YM (oG (bA rfl rfl rfl)) (wX (bA rfl (dh (zp2 st hb) rfl) (Y7 (c:=d8 B z) ?_)))));unfold d8;rw[hf]
  | some r =>
   have hr:=hB.ok.ru r (pU hf);obtain⟨mo,⟨w,W,o1,_,_⟩,ixm⟩:=h1.mv r.m;obtain⟨ns',g2,ty2,li,lw⟩:=zhj hk hr.1;have wc:=zqm (bI B.ss r.g) B.ss.length st hb (Hb hr.1) (by have:=hB.ss;omega)
   let SDE:List Nat:=if r.m=true then z.a.reverse else z.b
   let MV:Nat:=iD r.m+(if (if r.m=true then z.a else z.b)=[] then p_ r.m else lW r.m)
   have hq:decide (SDE=[])=decide ((if r.m=true then z.a else z.b)=[]):=by simp only[SDE];by_cases h:r.m=true<;>simp[h]
   dsimp only;rw[Ut];refine zZ (oG (bA rfl rfl rfl)) (fD (bA (oZ rfl h1.o h1.f5) (bA rfl rfl oM) ixm) (fD (d:=.str SDE) (st1:=st) (Aw (oG (bA (bA rfl rfl oM) rfl eq_str)) ?_) (fD (d:=.int MV) (st1:=st) (Aw (oG (bA rfl rfl eq_str)) ?_)
    (wX (bA (bA rfl rfl (Y7 rfl)) (dh wc (bM (Dy (g2 _ _ rfl) ty2 (bM (bA rfl rfl oM) rfl) li) (bM (xx lw (bM (g2 _ _ rfl) rfl)) rfl))) (Y7 ?_))))))
   ·simp only[SDE];cases r.m<;>rfl
   ·rw[hq];by_cases e:(if r.m=true then z.a else z.b)=[]
    ·rw[ae_ e];simp only[MV];rw[ae1 e];exact oZ rfl o1 rfl
    ·rw[ae4 e];simp only[MV];rw[ae2 e];exact oZ rfl o1 rfl
   ·unfold d8;rw[hf];show P+MV+yI B r.g=P+(MV+yI B r.g);omega
 exact eV body rfl (dY (by simp))
end
end Law
set_option maxHeartbeats 0
namespace M
namespace Tr
def eN(c:List Nat):Tr->Bool
 | .jn (.lf s) _=>decide (s=c)
 | _=>false
def cntK:Tr->Nat
 | .jn (.lf s) r=>if s=[75] then cntK r+1 else 0
 | _=>0
def zd1(c s:List Nat)(r:Tr):eN c (.jn (.lf s) r)=decide (s=c):=by rw[eN]
def zix(c:List Nat)(a b r:Tr):eN c (.jn (.jn a b) r)=false:=by rw[eN];intro s r' h;cases h
def zil(c s:List Nat):eN c (.lf s)=false:=by rw[eN];intro s r' h;cases h
def zl0{t:Tr}(h:eN [75] t=false):cntK t=0:=by
 cases t with
 | lf s=>rw[cntK];intro s r h;cases h
 | jn l r =>
  cases l with
  | lf s=>rw[zd1]at h;rw[cntK,ae2 (by simpa using h)]
  | jn a b=>rw[cntK];intro s r h;cases h
def Mg(r:Tr):cntK (.jn tK r)=cntK r+1:=by rw[cntK,ae1 rfl]
theorem zof(v:Tr):∀n,cntK (cQ n v)=n+cntK v
 | 0=>by simp[cQ]
 | n+1=>by rw[cQ,Mg,zof v n];omega
def Mf(m:Nat):cntK (wg m)=0:=by
 match m with
 | 0=>exact zl0 rfl
 | 1=>exact zl0 rfl
 | m+2=>exact zl0 rfl
def zih(k many:Nat):cntK (aM k many)=k:=by rw[aM,zof,Mf];omega
def Lx(k many:Nat)(h:k<many):dp (aM k many)<=many+2:=by
 rw[aM,zpa];have:=yl (many - 1 - k);omega
end Tr
end M
namespace Law
open L2 M Tr
def zdc(c:List Nat)(t:Tr)(st:ak):NP [.str c,enc t] st=.ok (.bl (eN c t)) st:=by
 unfold NP bu bh zel;cases t with
 | lf s=>rw[zil,show enc (.lf s)=.str s from rfl];simp[startM,jc,dY]
 | jn l r =>
  have Xu:=Ny (.jn l r);have x0:aY (enc (.jn l r)) (.int 0) st=.ok (enc l) st:=by rw[enc];exact jD st 0 _ _ rfl
  have q1:jf 800 (enc l) (.str c) st=.ok (.bl (eN c (.jn l r))) st:=by
   have:=Nu 799 l c st;cases l with
   | lf s=>rw[this,zd1]
   | jn a b=>rw[this,zix]
  generalize enc (.jn l r)=J at *;generalize enc l=L at *;simp[startM,Xu,x0,q1,dY]
open Classical in
noncomputable def uM(t:Tr)(many:Nat):D:=if cntK t<many/\t=aM (cntK t) many then .int (cntK t:Nat) else .non
open Classical in
def Ey(t:Tr)(many:Nat)(st:ak)(ht:st[1]? = some (.tab "out_and_cost"))(hc:bG st)(hm:many<=300000)(hd:dp t<800):S5 [enc t,.int many] st=.ok (uM t many) st:=by
 unfold S5 bu bh zmd;generalize hC:(o_ (az NP [] (aj (ct (.str [75])) (aj (vr 3) au))):MT)=C;generalize hB:(aD (aK 2 (aL bY (vr 2) (ct (.int 1)))) _:MS)=B
 let E:Nat->Tr->aJ:=λk r=>[some (enc t),some (.int many),some (.int k),some (enc r)]
 have loop:∀(r:Tr) (k:Nat),∃r',bj C B (E k r) st=.ok (.nx (E (k+cntK r) r')) st:=by
  intro r
  induction r with
  | lf s =>
   intro k;have c1:C (E k (.lf s)) st=.ok false st:=by
    have h:=zdc [75] (.lf s) st;rw[zil]at h;rw[<-hC];simp only[E];generalize enc (.lf s)=L at *;simp[h,cD]
   exact⟨.lf s,by rw[wY,c1,zl0 (zil _ _)];simp⟩
  | jn l r _ ih =>
   intro k;have h:=zdc [75] (.jn l r) st;by_cases hf:eN [75] (.jn l r)=true
   ·rw[hf]at h;have el:l=Tr.tK:=by
     cases l with
     | lf s=>rw[zd1]at hf;rw[afa hf]
     | jn a b=>rw[zix]at hf;cases hf
    subst el;have x1:aY (enc (.jn tK r)) (.int 1) st=.ok (enc r) st:=by rw[enc];exact jD st 1 _ _ rfl
    have c1:C (E k (.jn tK r)) st=.ok true st:=by
     rw[<-hC];simp only[E];generalize enc (.jn tK r)=L at *;simp[h,cD]
    have b1:B (E k (.jn tK r)) st=.ok (.nx (E (k+1) r)) st:=by
     rw[<-hB];simp only[E];generalize enc (.jn tK r)=L at *;simp[x1]
    obtain⟨r',e⟩:=ih (k+1);refine⟨r',?_⟩;rw[wY,c1,R.aB,ae1 rfl,b1,R.aB];dsimp only;rw[e,Mg,show k+1+cntK r=k+(cntK r+1) by omega]
   ·have hf':eN [75] (.jn l r)=false:=by simpa using hf
    rw[hf']at h;have c1:C (E k (.jn l r)) st=.ok false st:=by
     rw[<-hC];simp only[E];generalize enc (.jn l r)=L at *;simp[h,cD]
    exact⟨.jn l r,by rw[wY,c1,zl0 hf'];simp⟩
 obtain⟨r',e⟩:=loop t 0;rw[nG]at e;simp only[E]at e;rw[show startM 4 [enc t,D.int many]=[some (enc t),some (.int many),none,none] from rfl];unfold uM;by_cases h1:cntK t<many
 ·have p1:=Y6 (cntK t) many st ht hc h1 hm;have q1:=zrd t (aM (cntK t) many) st hd;have h1':(cntK t:Int)<(many:Int):=by omega
  by_cases h2:t=aM (cntK t) many
  ·rw[ae1 ⟨h1,h2⟩];rw[ae_ h2]at q1;generalize enc (aM (cntK t) many)=W at *;generalize enc t=X at *;generalize enc r'=Y at *;generalize ((cntK t:Nat):Int)=kk at *;simp only[show ((0:Nat):Int)=0 from rfl]at e;simp[e,h1',p1,q1,dY]
  ·rw[ae2 (λh=>h2 h.2)];rw[ae4 h2]at q1;generalize enc (aM (cntK t) many)=W at *;generalize enc t=X at *;generalize enc r'=Y at *;generalize ((cntK t:Nat):Int)=kk at *;simp only[show ((0:Nat):Int)=0 from rfl]at e;simp[e,h1',p1,q1,dY]
 ·rw[ae2 (λh=>h1 h.1)];have h1':¬ (cntK t:Int)<(many:Int):=by omega
  generalize enc t=X at *;generalize enc r'=Y at *;generalize ((cntK t:Nat):Int)=kk at *;simp only[show ((0:Nat):Int)=0 from rfl]at e;simp[e,h1',dY]
def vm{L:Nat}{x y:D}{st:ak}{k:Bool}(h:M.jf L x y st=.ok (.bl k) st):M.wK L x y st=.ok (.bl (!k)) st:=by
 unfold M.jf at h;unfold M.wK;cases e:jV L x y st with
 | none=>rw[e]at h;cases h
 | some j =>
  rw[e]at h;injection h with h _;injection h with h;subst h;rfl
def zod{T:String}{f:D->List D->ak->R D}{mo:ME}{env:aJ}{st st1 st2:ak}{x d:D}(h:mo env st=.ok x st1)(ht:cM T x st1=true)(hf:f x [] st1=.ok d st2):eG T f mo env st=.ok d st2:=by simp[h,ht,hf]
def Qs{a:ME}{env:aJ}{st st1:ak}{c:Bool}(h:a env st=.ok (.bl c) st1):Jr a env st=.ok (.bl (!c)) st1:=by simp[h]
def Kq(l r:Tr)(s:ak):aY (enc (.jn l r)) (.int 0) s=.ok (enc l) s:=by rw[enc];exact oM
def zq8(l r:Tr)(s:ak):aY (enc (.jn l r)) (.int 1) s=.ok (enc r) s:=by rw[enc];exact oM
def Xr(l r:Tr)(s:ak):yF "str" (enc (.jn l r)) s=.ok (.bl false) s:=by rw[enc];rfl
def zkc(c:List Nat)(r:Tr)(st:ak):NP [.str c,enc (.jn (.lf c) r)] st=.ok (.bl true) st:=by
 have:=zdc c (.jn (.lf c) r) st;rwa[zd1,ae_ rfl]at this
def znh(u a:Tr)(st:ak):zcf [enc (.jn (.jn tS u) (.jn tK a))] st=.ok (.bl true) st :=
 eV (wX (zl7 (Qs (Wm rfl (Xr _ _ _))) (zl7 (dh (zkc [83] u _) (bM rfl (bM (bA rfl rfl (Kq _ _ _)) rfl))) (dh (zkc [75] a _) (bM rfl (bM (bA rfl rfl (zq8 _ _ _)) rfl)))))) rfl (dY (by simp))
def zmb(n:Nat)(ts:List Tr):bW n (ts.map enc):=by
 induction ts with
 | nil=>simp
 | cons t ts ih=>simp[ih,fB]
def zo4(ts:List Tr)(st:ak)(hv:∀t∈ts,val t=true)(hl:ts.length<=100):zim [enc (hold ts),.int ts.length] st=.ok (.loc st.length) (st++[.lst (ts.map enc)]):=by
 unfold zim bu bh ztd;generalize hC:(fW (aL ltV _ _):MT)=C;generalize hW:(aD (iZ (vh _) _ _) _:MS)=W
 let E:Tr->aJ:=λt=>[some (enc (hold ts)),some (.int ts.length),some (.loc st.length),some (enc t)]
 let Z:List Tr->ak:=λvs=>st++[.lst (vs.map enc)]
 have cv:∀t vs,C (E t) (Z vs)=.ok (decide (vs.length<ts.length)) (Z vs):=λt vs=>by
  have le:=SJ (st:=Z vs) (n:=st.length) (ds:=vs.map enc) (by simp[aA,Z]);rw[gh]at le;rw[<-hC];refine oG (bA (xx le rfl) rfl ?_);simp
 have lp:∀(r vs:List Tr),r.length+vs.length=ts.length->bj C W (E (hold r.reverse)) (Z vs)=.ok (.nx (E tI)) (Z (vs++r)):=by
  intro r
  induction r with
  | nil =>
   intro vs h;rw[wY,cv,R.aB,ae4 (by simp at h;omega),gY]
   rfl
  | cons a r ih =>
   intro vs h;simp only[gw]at h;have ap:aU (.loc st.length) [enc a] (Z vs)=.ok .non (Z (vs++[a])):=by
    have g:(Z vs)[st.length]? = some (.lst (vs.map enc)):=by simp[Z]
    unfold aU;simp only[g];rw[ae1 (by simp;omega)];simp[Z]
   have w:W (E (hold (a::r).reverse)) (Z vs)=.ok (.nx (E (hold r.reverse))) (Z (vs++[a])):=by
    rw[nq,Zf,<-hW];exact zZ (Cj (zr6 (dh (znh _ _ _) rfl) rfl)) ((G_ (YZ (Dy rfl (by simp[cM,Z]) (bM (bA (bA rfl rfl (zq8 _ _ _)) rfl (zq8 _ _ _)) rfl) ap))).trans (xM (bA (bA rfl rfl (Kq _ _ _)) rfl (zq8 _ _ _))))
   rw[wY,cv,R.aB,ae_ (by omega),ae1 rfl,w,R.aB];have:=ih (vs++[a]) (by simp;omega);rw[gP]at this;exact this
 have l0:=lp ts.reverse [] (by simp);rw[List.reverse_reverse,mD]at l0;have iv:=yE (hold ts) (Z ts.reverse);rw[Bo hv]at iv;have ne:M.wK 800 (enc tI) (enc tI) (Z ts.reverse)=.ok (.bl false) (Z ts.reverse):=vm (by have:=zrd tI tI (Z ts.reverse) (by decide);simpa using this);have rv:dj (.loc st.length) [] (Z ts.reverse)=.ok .non (Z ts):=by
  have g:(Z ts.reverse)[st.length]? = some (.lst (ts.reverse.map enc)):=by simp[Z]
  unfold dj;simp only[g];simp[Z]
 exact eV (fD rfl (fD rfl ((G_ l0).trans (zZ (YQ (oG (bA rfl rfl ne)) (Cj (zr6 (dh iv rfl) rfl))) ((G_ (YZ (zod rfl (by simp[cM,Z]) rv))).trans (wX rfl)))))) rfl (YS (zmb _ ts))
def Wr(l r:Tr)(s:List Nat)(st:ak):M.wK 800 (enc (.jn l r)) (.str s) st=.ok (.bl true) st:=vm (Nu 799 (.jn l r) s st)
def zp3(ts:List Tr)(st:ak)(hv:∀t∈ts,val t=true)(hl:ts.length<=900):zc7 [enc (sX ts)] st=.ok (.loc st.length) (st++[.lst (ts.map enc)]):=by
 unfold zc7 bu bh zgx;generalize hC:(fW (aL (M.wK 800) _ _):MT)=C;generalize hW:(aD (aK 3 (G5 _ _ _)) _:MS)=W
 let E:Tr->Option D->aJ:=λt a=>[some (enc (sX ts)),some (.loc st.length),some (enc t),a]
 let Z:List Tr->ak->ak:=λvs G=>st++.lst (vs.map enc)::G
 have vl:∀us:List Tr,(∀t∈us,val t=true)->val (sX us)=true:=λus h=>by
  induction us with
  | nil=>rfl
  | cons t us ih=>rw[sX,dM,Bo];intro x hx;simp at hx;rcases hx with rfl | rfl;exact h _ (by simp);exact ih λy hy=>h y (by simp[hy])
 have lp:∀(us vs:List Tr) (a:Option D) (G:ak),(∀t∈us,val t=true)->us.length+vs.length<=900->∃a' G',bj C W (E (sX us) a) (Z vs G)=.ok (.nx (E tK a')) (Z (vs++us) G'):=by
  intro us
  induction us with
  | nil =>
   intro vs a G _ _;refine⟨a,G,?_⟩;rw[wY,show C (E (sX []) a) (Z vs G)=.ok false (Z vs G) by rw[<-hC];exact oG (bA rfl rfl (by rw[sX];rfl)),R.aB,gY]
   rfl
  | cons t us ih =>
   intro vs a G hu hn;have ZZ:∀x∈us,val x=true:=λx hx=>hu x (by simp[hx]);simp only[gw]at hn
   let H:MO:=.lst ([t,sX us].map enc)
   let m:Nat:=(Z vs G).length
   have hh:=zo4 [t,sX us] (Z vs G) (λx hx=>by simp at hx;rcases hx with rfl | rfl;exact hu _ (by simp);exact vl us ZZ) (by simp);have g:(Z vs (G++[H]))[st.length]? = some (.lst (vs.map enc)):=uO (k:=0) rfl;have ez:∀vs,Z vs G++[H]=Z vs (G++[H]):=λvs=>by simp[Z]
   rw[show Z vs G++[.lst ([t,sX us].map enc)]=Z vs (G++[H]) from ez vs]at hh;have im:∀U8,U8.length=U8.length->aA (Z U8 (G++[H])) m=some [enc t,enc (sX us)]:=λU8 _=>by
    have:(Z U8 (G++[H]))[m]? = some H:=by
     rw[<-ez U8,show m=(Z U8 G).length by simp[m,Z]];simp
    unfold aA;rw[this];rfl
   have ap:aU (.loc st.length) [enc t] (Z vs (G++[H]))=.ok .non (Z (vs++[t]) (G++[H])):=by
    unfold aU;simp only[g];rw[ae1 (by simp;omega)];simp[Z]
   have w:W (E (sX (t::us)) a) (Z vs G)=.ok (.nx (E (sX us) (some (.loc m)))) (Z (vs++[t]) (G++[H])):=by
    rw[sX,<-hW];exact fD (Aw (zr6 (dh (zkc [75] _ _) rfl) rfl) (dh hh (bM (bA rfl rfl (zq8 _ _ _)) rfl))) (zZ (oG (bA rfl rfl rfl)) ((G_ (YZ (Dy rfl (by simp[cM,g]) (bM (bA rfl rfl (z6 _ _ _ _ _ (im vs rfl) rfl)) rfl) ap))).trans (xM (bA rfl rfl (z6 _ _ _ _ _ (im (vs++[t]) rfl) rfl)))))
   obtain⟨a',G',h⟩:=ih (vs++[t]) (some (.loc m)) (G++[H]) ZZ (by simp;omega);refine⟨a',G',?_⟩;rw[wY,show C (E (sX (t::us)) a) (Z vs G)=.ok true (Z vs G) by rw[<-hC];exact oG (bA rfl rfl (by rw[sX];exact Wr _ _ _ _)),R.aB,ae1 rfl,w,R.aB];rw[gP]at h;exact h
 obtain⟨a',G',h⟩:=lp ts [] none [] hv (by simp;omega);have gg:=zr4 (st:=st) (g:=[]) (g':=G') (o:=.lst (ts.map enc)) (zmb _ ts);rw[gY]at gg;exact eV (fD rfl (fD rfl ((G_ h).trans (wX rfl)))) rfl gg
end Law
set_option maxHeartbeats 0
namespace Law
open L2 M Tr
open Classical in
noncomputable def liftT(g:Tr->D):D->D:=λd=>if h:∃t,enc t=d then g h.choose else d
def zoy(g:Tr->D)(t:Tr):liftT g (enc t)=g t:=by
 have hx:∃u,enc u=enc t:=⟨t,rfl⟩;unfold liftT;rw[dif_pos hx,zor hx.choose_spec]
def zgd{k n:Nat}(h:k<n)(st:ak)(hb:Bs st)(hn:n<=700):S5 [enc (aM k n),.int n] st=.ok (.int k) st:=by
 have e:uM (aM k n) n=.int k:=by
  unfold uM;rw[zih,ae1 ⟨h,rfl⟩]
 have:=Ey (aM k n) n st hb.t1 hb.c (by omega) (by have:=Lx k n h;omega);rwa[e]at this
def Q9(xs:List Nat)(n:Nat)(st:ak)(h:aA st n=some (aN xs)):Fz 800 false .non (.loc n) st=.ok (.bl false) st:=by
 have f1:dR (aN xs)=true:=by
  clear h;unfold aN
  induction xs with
  | nil=>rfl
  | cons c cs ih=>simpa using ih
 have f2:((aN xs).all λe=>decide (dI e .non<800))=true:=by
  unfold aN;rw[List.all_map,List.all_eq_true];intro c _;simp[dI]
 have f3:((aN xs).any λe=>jH e .non)=false:=by
  unfold aN;rw[List.any_map,List.any_eq_false];intro c _;simp[jH]
 unfold Fz;simp only[h,f1,f2,f3];rw[ae1 ⟨by simp,trivial,trivial⟩];rfl
def BK{m:ME}{env:aJ}{st:ak}{n:Nat}{ds:List D}(hm:m env st=.ok (.loc n) st)(h:st[n]? = some (.lst ds)):lu m env st=.ok (ds,[(n,.lst ds)]) st:=by
 rw[Ia,hm];simp only[R.aB,h]
def len_str(cs:List Nat)(s:ak)(h:cs.length<=1000000):fH [.str cs] s=.ok (.int cs.length) s:=zj3 _ cs h
def ltD(ls:List Nat):D->D
 | .int i=>.str [ls.getD i.toNat 0]
 | d=>d
section
variable  {B:Bk}{b:Nat}{st:ak}
def zg8(hB:zP B)(hb:Bs st)(hk:oX st b B)(cs:List Nat)(hc:∀c∈cs,c∈B.ls)(hl:cs.length<=900):zci [.loc b,enc (iu B cs)] st=.ok (.loc st.length) (st++[.lst (cs.map λc=>D.str [c])]):=by
 obtain⟨fs,ns,nk,nt,nm,ml,mr,nr,GZ,h1,_⟩:=hk.ex;have zb:=hB.few
 let L1:MO:=.lst ((cs.map (dC B)).map enc)
 let L2:MO:=.lst (aN (cs.map (bI B.ls)))
 let L3:MO:=.lst (cs.map λc=>D.str [c])
 have th:=zp3 (cs.map (dC B)) st (λt ht=>by
  obtain⟨c,_,rfl⟩:=gj.mp ht;exact yH c) (by simpa using hl)
 have c1:dU [some 0,none] (lu (vr 2)) (aW 1) qd (az S5 [] (aj (vr 1) (aj (bU fH (aj (cj "Book" "letters" (vr 0)) au)) au))) [some (.loc b),some (enc (iu B cs)),some (.loc st.length),none] (st++[L1])=.ok (.loc (st++[L1]).length) (st++[L1]++[L2]):=by
  have e2:((cs.map (dC B)).map enc).map (liftT λt=>.int (cntK t:Nat))=aN (cs.map (bI B.ls)):=by
   unfold aN;rw[gJ,gJ,gJ];refine kJ λc _=>?_;simp only[Function.comp,zoy];unfold dC;rw[zih]
  show _=R.ok _ (st++[L1]++[.lst (aN (cs.map (bI B.ls)))]);rw[<-e2];exact S6 (liftT λt=>.int (cntK t:Nat)) (λenv=>∃x,env=[some (.loc b),x]) (BK rfl (uO (k:=0) rfl)) ⟨_,rfl⟩ (by simp;omega) (λys=>Sx (cZ (uO (k:=0) rfl))) (λd hd cB ys hP=>by
   obtain⟨t,ht,rfl⟩:=gj.mp hd;obtain⟨c,G7,rfl⟩:=gj.mp ht;obtain⟨x,rfl⟩:=hP;have hz:=h1.mono ((Keeps.app st [L1]).trans (Keeps.app (st++[L1]) [.lst ys]));have bz:Bs (st++[L1]++[.lst ys]):=(hb.app (by simp[L1])).app (by simp);refine⟨[some (.loc b),some (enc (dC B c))],⟨_,rfl⟩,rfl,?_⟩;rw[zoy];unfold dC;rw[zih];exact dh (zgd (Hb (hc c G7)) _ bz (by omega)) (bM rfl (bM (xx (len_str B.ls _ (by omega)) (bM (oZ rfl hz.o hz.f1) rfl)) rfl)))
 have c2:dU [some 0,none] (lu (vr 3)) (aW 1) qd (aL aY (cj "Book" "letters" (vr 0)) (vr 1)) [some (.loc b),some (enc (iu B cs)),some (.loc st.length),some (.loc (st++[L1]).length)] (st++[L1]++[L2])=.ok (.loc (st++[L1]++[L2]).length) (st++[L1]++[L2]++[L3]):=by
  have e3:(aN (cs.map (bI B.ls))).map (ltD B.ls)=cs.map λc=>D.str [c]:=by
   unfold aN;rw[gJ,gJ];refine kJ λc G7=>?_;show D.str [B.ls.getD _ 0]=_;rw[mW,p8,MN (hc c G7)];rfl
  show _=R.ok _ (st++[L1]++[L2]++[.lst (cs.map λc=>D.str [c])]);rw[<-e3];exact S6 (ltD B.ls) (λenv=>∃x,env=[some (.loc b),x]) (BK rfl (uO (k:=0) rfl)) ⟨_,rfl⟩ (by simp[aN];omega) (λys=>Sx (cZ (uO (k:=0) rfl))) (λd hd cB ys hP=>by
   unfold aN at hd;obtain⟨i,hi,rfl⟩:=gj.mp hd;obtain⟨c,G7,rfl⟩:=gj.mp hi;obtain⟨x,rfl⟩:=hP;have hz:=h1.mono (((Keeps.app st [L1]).trans (Keeps.app (st++[L1]) [L2])).trans (Keeps.app (st++[L1]++[L2]) [.lst ys]));refine⟨[some (.loc b),some (.int (bI B.ls c:Nat))],⟨_,rfl⟩,rfl,bA (oZ rfl hz.o hz.f1) rfl ?_⟩;show _=R.ok (D.str [B.ls.getD _ 0]) _;unfold aY;dsimp only;rw[ae1 (by omega),zhl,mW,p8,MN (hc c G7)];rfl)
 have gg:=zr4 (st:=st) (g:=[L1,L2]) (g':=[]) (o:=L3) (by
  show bW _ _;clear hl hc th c1 c2
  induction cs with
  | nil=>simp
  | cons c cs ih=>simpa using ih)
 have es:st++[L1]++[L2]++[L3]=st++[L1,L2]++L3::[]:=by simp
 have el:(st++[L1]++[L2]).length=st.length+[L1,L2].length:=by simp
 rw[<-es,<-el]at gg;exact eV (fD (dh th rfl) (zZ (oG (bA rfl rfl rfl)) (fD c1 (zZ (oG (bA rfl rfl (Q9 _ _ _ (by unfold aA;rw[uO (k:=0) rfl])))) (wX c2))))) rfl gg
end
end Law
set_option maxHeartbeats 0
namespace Law
open L2 M Tr
theorem zos:∀cs:List Nat,vD [] (cs.map λc=>[c])=cs
 | []=>rfl
 | [c]=>rfl
 | c::d::r=>by
  have:=zos (d::r);show [c]++[]++vD [] (([d])::r.map λc=>[c])=_;rw[show ([d]::r.map λc=>[c])=(d::r).map λc=>[c] from rfl,this];rfl
def CG{st:ak}{n:Nat}{cs:List Nat}(h:st[n]? = some (.lst (cs.map λc=>D.str [c])))(hl:cs.length<=1000):vC (.str []) [.loc n] st=.ok (.str cs) st:=by
 have:=Vx (st:=st) [] n (cs.map λc=>[c]) (by unfold aA;rw[h,gJ];rfl) (by
  rw[gJ];have:((cs.map (List.length∘λc=>[c])).sum)=cs.length:=by
   clear h hl
   induction cs with
   | nil=>rfl
   | cons c cs ih=>rw[gm,p6,ih,gw];show 1+_=_;omega
  rw[this];simp;omega)
 rwa[zos]at this
def Om{a:ME}{l h:MP}{env:aJ}{st st1:ak}{x d:D}{lo hi:Option Int}(ha:a env st=.ok x st)(hl:l env st=.ok lo st)(hh:h env st=.ok hi st)(k:zU x lo hi st=.ok d st1):Hv a l h env st=.ok d st1:=by simp[ha,hl,hh,k]
section
variable  {B:Bk}{b:Nat}{st:ak}
def zlb(hB:zP B)(hb:Bs st)(hk:oX st b B)(z:Sd)(hz:Dq B z)(ha:z.a.length<=900)(oU:z.b.length<=900)(p:Nat)(hp:st[p]? = some (.lst [enc (iu B z.a),enc (dC B z.c),enc (iu B z.b)])) :
  zd4 [.loc b,.int (bI B.ss z.s:Nat),.loc p] st=.ok (sU z) st:=by
 have zb:=hB.few
 let A:MO:=.lst (z.a.map λc=>D.str [c])
 let R:MO:=.lst (z.b.map λc=>D.str [c])
 let A':MO:=.lst (z.a.reverse.map λc=>D.str [c])
 have kA:=Keeps.app st [A];have kR:=(Keeps.app st [A]).trans (Keeps.app (st++[A]) [R]);have k3:=(Keeps.app st [A']).trans (Keeps.app (st++[A']) [R]);obtain⟨fs,ns,nk,nt,nm,ml,mr,nr,GZ,h1,_⟩:=hk.ex;have hA:=h1.mono kA;have h3:=h1.mono k3;have s1:=zg8 hB hb hk z.a hz.a ha;have s2:=zg8 hB (hb.app (g:=[A]) (by simp[A])) (hk.mono kA) z.b hz.b oU;have pk:=zgd (Hb hz.c) (st++[A]) (hb.app (by simp[A])) (by omega);have ix:∀{g:ak} (k:Int) (d:D),rQ [enc (iu B z.a),enc (dC B z.c),enc (iu B z.b)] k=some d->aY (.loc p) (.int k) (st++g)=.ok d (st++g):=λk d h=>z6 _ _ _ _ _ (by unfold aA;rw[cZ hp]) h;have rv:dj (.loc st.length) [] (st++[A]++[R])=.ok .non (st++[A']++[R]):=by
  have g:(st++[A]++[R])[st.length]? = some A:=cZ (uO (k:=0) rfl);unfold dj;simp only[g,A];rw[zf4 _ _ _ _ (by simp),Nv _ _ _ _ rfl,<-nT]
 have i0:aY (.loc p) (.int 0) st=.ok (enc (iu B z.a)) st:=z6 _ _ _ _ _ (by unfold aA;rw[hp]) rfl;have fO:aY (.loc ns) (.int (bI B.ss z.s:Nat)) (st++[A']++[R])=.ok (.int z.s) (st++[A']++[R]):=by
  refine z6 _ _ _ (B.ss.map λs=>D.int (s:Nat)) _ (by unfold aA;rw[h3.s]) ?_;rw[zhl,gM,MN hz.s];rfl
 have lt3:aY (.str B.ls) (.int (bI B.ls z.c:Nat)) (st++[A']++[R])=.ok (.str [z.c]) (st++[A']++[R]):=by
  unfold aY;dsimp only;rw[ae1 (by omega),zhl,MN hz.c]
 refine eV (zZ (YQ (oG (bA rfl rfl rfl)) (oG (bA rfl rfl rfl))) (fD (dh s1 (bM rfl (bM (bA rfl rfl i0) rfl)))
  (fD (dh pk (bM (bA rfl rfl (ix 1 _ rfl)) (bM (xx (len_str B.ls _ (by omega)) (bM (oZ rfl hA.o hA.f1) rfl)) rfl)))
  (fD (dh s2 (bM rfl (bM (bA rfl rfl (ix 2 _ rfl)) rfl)))
  (zZ (YQ (oG (bA rfl rfl rfl)) (YQ (oG (bA rfl rfl rfl)) (oG (bA rfl rfl rfl))))
  ((G_ (YZ (zod rfl (by simp[cM,A]) rv))).trans
  (wX (MJ (bM (bA (oZ rfl h3.o h3.f2) rfl fO) (bM (Dy rfl rfl rfl (CG (cZ (uO (k:=0) rfl)) (by simp;omega))) (bM (bA (oZ rfl h3.o h3.f1) rfl lt3) (bM (Dy rfl rfl rfl (CG (uO (k:=0) rfl (by simp)) (by omega))) rfl)))))))))))) rfl ?_
 rw[gP];exact o9 (by simp)
def zp6(hB:zP B)(hb:Bs st)(hk:oX st b B)(z:Sd)(hz:Dq B z)(ha:z.a.length<=900)(oU:z.b.length<=900)(Ay:B.ss.length<=512):zfe [.loc b,enc (lX B z)] st=.ok (sU z) st:=by
 let H:MO:=.lst ([uN B z.s,iu B z.a,dC B z.c,iu B z.b].map enc)
 let P:MO:=.lst ([iu B z.a,dC B z.c,iu B z.b].map enc)
 have hh:=zo4 [uN B z.s,iu B z.a,dC B z.c,iu B z.b] st (λt ht=>by
  simp only[gq,kO,afx]at ht;rcases ht with rfl | rfl | rfl | rfl
  ·exact z8 _ _
  ·exact Bj _
  ·exact yH _
  ·exact Bj _) (by simp)
 obtain⟨ns,f1,_,_,le⟩:=zhj (hk.mono (Keeps.app st [H])) hz.s;have bH:Bs (st++[H]):=hb.app (by simp[H]);have pk:=zgd (Hb hz.s) (st++[H]) bH (by omega);have gH:(st++[H])[st.length]? = some H:=uO (k:=0) rfl;have sl:zU (.loc st.length) (some 1) none (st++[H])=.ok (.loc (st++[H]).length) (st++[H]++[P]):=by
  unfold zU;simp only[aA,gH]
  rfl
 have so:=zlb hB (bH.app (g:=[P]) (by simp[P])) (hk.mono ((Keeps.app st [H]).trans (Keeps.app (st++[H]) [P]))) z hz ha oU (st++[H]).length (uO (k:=0) rfl);refine eV (fD (dh hh rfl) (zZ (oG (bA rfl rfl rfl)) (wX (dh so (bM rfl (bM (dh pk (bM (bA rfl rfl (z6 _ _ _ _ _ (by unfold aA;rw[gH]) rfl)) (bM (xx le (bM (f1 _ _ rfl) rfl)) rfl))) (bM (Om rfl rfl rfl sl) rfl))))))) rfl ?_;rw[gP];exact o9 (by simp[sU])
end
end Law
set_option maxHeartbeats 0
namespace M
namespace Tr
def yK:Tr:=hold [aM 0 3]
def Nb:Tr:=hold [aM 1 3]
def sZ:Tr:=hold [aM 2 3]
def Wx(s:List Nat):Tr:=if s=[83] then yK else Nb
def WR(l r:Tr):Tr:=.jn (.jn tS (.jn (.jn tS sZ) l)) r
def txt:Tr->Tr
 | .lf s=>Wx s
 | .jn l r=>WR (txt l) (txt r)
def NZ:val yK=true:=by decide
def NT:val Nb=true:=by decide
def Bq:val sZ=true:=by decide
def N5(s:List Nat):val (Wx s)=true:=by unfold Wx;split;exact NZ;exact NT
def N6{l r:Tr}(h1:val l=true)(h2:val r=true):val (WR l r)=true:=by
 unfold WR;rw[Dv,Dv,Bq,h1,h2];rfl
theorem zls:∀t,val (txt t)=true
 | .lf s=>N5 s
 | .jn l r=>N6 (zls l) (zls r)
def Yl:dp yK=5:=by decide
def Yk:dp Nb=4:=by decide
def Yn:dp sZ=6:=by decide
end Tr
end M
namespace Law
open L2 M Tr
abbrev kS:Key:=.inr (strOf [83])
abbrev kK:Key:=.inr (strOf [75])
def zT:List (Key×D):=[(kS,enc yK),(kK,enc Nb)]
def TQ:¬ (kS=kK):=by intro h;have:=afl h;simp[strOf]at this
def Va:valN zT kS=some (enc yK):=by rw[zT,M4,ae1 rfl]
def Vb:valN zT kK=some (enc Nb):=by rw[zT,M4,ae2 TQ,M4,ae1 rfl]
def zto(k:Nat)(st:ak)(ht:st[1]? = some (.tab "out_and_cost"))(hc:bG st)(hk:k<3)(env:aJ)(m:ME)(hm:m env st=.ok (.int k) st) :
  az yD [] (aj (dO (aj (az Bm [] (aj m (aj (ct (.int 3)) au))) au)) au) env st=.ok (enc (hold [aM k 3])) (st++[.lst [enc (aM k 3)]]):=by
 have p:=Y6 k 3 st ht hc hk (by omega);rw[show ((3:Nat):Int)=3 from rfl]at p;have h:=je [aM k 3] [enc (aM k 3)] rfl st (by intro t ht;cases h_.mp ht;exact z8 _ _);generalize enc (hold [aM k 3])=W at *;generalize enc (aM k 3)=Y at *;simp[hm,p,h]
def zmu(st:ak)(ht:st[1]? = some (.tab "out_and_cost"))(hc:bG st):zcq [] st=.ok (enc sZ) st:=by
 have h:=zto 2 st ht hc (by omega) [] (ct (.int 2)) rfl;have hu:=fB st.length sZ;unfold sZ at *;unfold zcq bu bh zfs;generalize az yD [] _=C at *;generalize enc (hold [aM 2 3])=W at *;simp[startM,h];exact o9 hu
def zma(st:ak)(ht:st[1]? = some (.tab "out_and_cost"))(hc:bG st):zcl [] st=.ok (.loc st.length) (st++[.dkc zT]):=by
 have hl:1<st.length:=(gf.mp ht).1;have key:∀(k:Nat) (c:List Nat) (g:ak) (kvs:List (Key×D)) (a1:Option D),k<3->qW [([83],.int 0),([75],.int 1)] c=some (.int k)->bG g->
   az yD [] (aj (dO (aj (az Bm [] (aj (Oc [([83],.int 0),([75],.int 1)] (vr 1)) (aj (ct (.int 3)) au))) au)) au) [some (.loc st.length),some (.str c)] (st++[.dkc kvs]++g)=.ok (enc (hold [aM k 3])) (st++[.dkc kvs]++(g++[.lst [enc (aM k 3)]])):=by
  intro k c g kvs a1 hk Rk hg;rw[zto k _ (by rw[gP,gF hl];exact ht) ?_ hk _ _ ?_,gP (st++[MO.dkc kvs])]
  ·simp[zpo,hc,hg]
  ·have e:=Vu (st++[.dkc kvs]++g) Rk;generalize (st++[.dkc kvs]++g)=Z at *;simp[e]
 unfold zcl bu bh zfg;generalize hH:az yD [] _=HC at *;have e1:=key 0 [83] [] [] none (by omega) (by simp[qW]) (by simp);have e2:=key 1 [75] [.lst [enc (aM 0 3)]] [(kS,enc yK)] none (by omega) (by simp[qW]) (by simp);rw[show hold [aM 0 3]=yK from rfl]at e1;rw[show hold [aM 1 3]=Nb from rfl]at e2;have p1:putN [] kS (enc yK)=[(kS,enc yK)]:=by simp[putN]
 have p2:putN [(kS,enc yK)] kK (enc Nb)=zT:=by unfold putN;rw[ae2 (by simp[TQ])];rfl
 have s1:∀g:ak,iW (.loc st.length) (.str [83]) (enc yK) (st++[.dkc []]++g)=.ok () (st++[.dkc [(kS,enc yK)]]++g):=λg=>by
  simp[iW,p1]
 have s2:∀g:ak,iW (.loc st.length) (.str [75]) (enc Nb) (st++[.dkc [(kS,enc yK)]]++g)=.ok () (st++[.dkc zT]++g):=λg=>by
  simp[iW,p2]
 have hu:∀g:ak,gc st (.ok (.loc st.length) (st++[.dkc zT]++g))=.ok (.loc st.length) (st++[.dkc zT]):=λg=>by
  have:=zr4 (st:=st) (g:=[]) (g':=g) (o:=.dkc zT) (by intro p hp;simp[zT]at hp;rcases hp with rfl | rfl<;>exact fB _ _);simpa using this
 have s1':=s1 [.lst [enc (aM 0 3)]];have s2':=s2 [.lst [enc (aM 0 3)],.lst [enc (aM 1 3)]];have hu':=hu [.lst [enc (aM 0 3)],.lst [enc (aM 1 3)]];rw[mD]at e1;rw[gY]at e1;rw[show ([.lst [enc (aM 0 3)]]++[.lst [enc (aM 1 3)]]:ak)=[.lst [enc (aM 0 3)],.lst [enc (aM 1 3)]] from rfl]at e2;generalize hA:(st++[.dkc [(kS,enc yK)]]++[.lst [enc (aM 0 3)]]:ak)=A1 at *;generalize (st++[.dkc [(kS,enc yK)]]++[.lst [enc (aM 0 3)],.lst [enc (aM 1 3)]]:ak)=A2 at *;generalize (st++[.dkc zT]++[.lst [enc (aM 0 3)],.lst [enc (aM 1 3)]]:ak)=A3 at *;generalize (st++[.dkc []]++[.lst [enc (aM 0 3)]]:ak)=A0 at *;generalize enc yK=T1 at *;generalize enc Nb=T2 at *;simp[startM,zig (st1:=st++[.dkc []]) (st2:=A1) (env1:=[some (.loc st.length),some (.str [83])]) (env2:=[some (.loc st.length),some (.str [83])]),e1,e2,s1',s2',cN];exact hu'
def zr2(t:Tr)(st:ak)(hs:sk t)(ht:st[1]? = some (.tab "out_and_cost"))(Z3:st[3]? = some (.tab "text_of"))(hc:bG st)(hl:lv t<=400000):zdi [enc t] st=.ok (enc (txt t)) st:=by
 have a1:=zma st ht hc;have hb:3<st.length:=(gf.mp Z3).1
 let S1:ak:=st++[.dkc zT]
 have hc1:bG S1:=by simp[S1,hc,MO.dD]
 have a2:=zmu S1 (by simp only[S1];rw[gF (by omega)];exact ht) hc1;have ht3:S1[3]? = some (.tab "text_of"):=by simp only[S1];rw[gF (by omega)];exact Z3
 have hn:S1[st.length]? = some (.dkc zT):=by simp[S1]
 let os:ak:=[.clo 4 (iy 4) [.loc st.length],.clo 5 (iy 5) [enc sZ]]
 have f1:z9 [enc t,.loc S1.length,.loc (S1.length+1)] (S1++os)=.ok (enc (txt t)) (S1++os):=by
  refine zkt (λu=>enc (txt u)) sk S1.length (S1.length+1) 4 5 [.loc st.length] [enc sZ] t _ (by simp[os]) (by simp[os]) hl (λu n=>fB n _) hs (λ_ _ h=>h) ?_ ?_
  ·intro s g hs;have hh:(bL (S1++os++g))[st.length]? = some (.dkc zT):=zsh (cZ (cZ hn)) rfl;have qp:s=[83]\/s=[75]:=hs;generalize bL (S1++os++g)=Z at *;rw[show enc (.lf s)=.str s from rfl,txt];rcases qp with rfl | rfl
   ·have e:=BX (k:=.str [83]) hh rfl Va;rw[Wx,ae1 rfl];simp[GL,oO,e_4,e]
   ·have e:=BX (k:=.str [75]) hh rfl Vb;rw[Wx,ae2 (by decide)];simp[GL,oO,e_4,e]
  ·intro l r g _;have j1:=uL tS sZ (bL (S1++os++g));have j2:=uL (.jn tS sZ) (txt l) (bL (S1++os++g));have j3:=uL tS (.jn (.jn tS sZ) (txt l)) (bL (S1++os++g));have j4:=uL (.jn tS (.jn (.jn tS sZ) (txt l))) (txt r) (bL (S1++os++g));rw[show enc tS=.str [83] from rfl]at j1 j3;rw[show txt (.jn l r)=WR (txt l) (txt r) from rfl];have hu:∀n,under n (enc (.jn (.jn tS (.jn (.jn tS sZ) (txt l))) (txt r))):=λn=>fB n _;unfold WR;generalize bL (S1++os++g)=Z at *;generalize enc (.jn (.jn tS (.jn (.jn tS sZ) (txt l))) (txt r))=W4 at *;generalize enc (.jn tS (.jn (.jn tS sZ) (txt l)))=W3 at *;generalize enc (.jn (.jn tS sZ) (txt l))=W2 at *;generalize enc (.jn tS sZ)=W1 at *;generalize enc sZ=W0 at *;generalize enc (txt l)=L at *;generalize enc (txt r)=R' at *;have jt:zco [W0,L,R'] Z=.ok W4 Z:=by
    unfold zco bu bh zf2;simp[startM,j1,j2,j3,j4];exact dY (hu _)
   simp[GL,oO,e_5,jt]
 have hu:=fB S1.length (txt t);have hu0:gc st (.ok (enc (txt t)) S1)=.ok (enc (txt t)) st:=o9 (fB st.length (txt t));have c1:=zm9 (Λ:=iy) (F:=z9) (dd:=[]) (m:=iK (vr 0) (fY 4 [1] 3 "text_of" (fY 5 [2] 3 "text_of" qU))) (env:=[some (enc t),some (.loc st.length),some (enc sZ)]) (st:=S1) (st1:=S1) (st2:=S1) (as:=[.v (enc t),.l 4 [1],.l 5 [2]]) (ds:=[enc t,.loc S1.length,.loc (S1.length+1)]) (os:=os) (d:=enc (txt t))
  (by simp[iK,fY,qU,ht3]) hc1 (by simp[jl,yq,os]) (by rw[gY,f1];exact o9 hu) hc1
 unfold zdi bu bh zdn;rw[show startM 3 [enc t]=[some (enc t),none,none] from rfl];generalize iM iy z9 [] (iK (vr 0) (fY 4 [1] 3 "text_of" (fY 5 [2] 3 "text_of" qU)))=CL at c1 ⊢;rw[show (st++[.dkc zT]:ak)=S1 from rfl]at a1;generalize enc (txt t)=W at *;generalize enc t=X at *;generalize enc sZ=HD at *;generalize S1=Z1 at *;simp[a1,a2,c1];exact hu0
end Law
set_option maxHeartbeats 0
namespace M
namespace Tr
def iG(a b:Tr):Tr:=hold [a,b,tI]
def oN(a b:Tr):Tr:=hold [iG a b]
def put2(a b:Tr):Tr->Tr
 | .lf s=>if s=[83] then a else b
 | .jn l r=>.jn (put2 a b l) (put2 a b r)
def qu:Tr->Nat
 | .lf s=>if s=[83] then 16 else 14
 | .jn l r=>20+qu l+qu r
theorem ztm:∀t,qu t+20<=36*lv t
 | .lf s=>by rw[qu,lv];split<;>omega
 | .jn l r=>by
  have:=ztm l;have:=ztm r;have hl:0<lv l:=by have:=Za l;omega
  have hr:0<lv r:=by have:=Za r;omega
  rw[qu,lv];omega
def Pa{t:Tr}(hs:sk t):put2 tS Tr.tK t=t:=by
 induction t with
 | lf s =>
  have hs:s=[83]\/s=[75]:=hs;rcases hs with rfl | rfl<;>rfl
 | jn l r i1 i2=>rw[put2,i1 hs.1,i2 hs.2]
def yJ{a b:Tr}(ha:val a=true)(hb:val b=true):val (iG a b)=true :=
 Bo (by intro t ht;simp at ht;rcases ht with rfl | rfl | rfl;exact ha;exact hb;exact uQ)
def Li{a b:Tr}(ha:val a=true)(hb:val b=true)(k:Nat){v:Tr}(hk:[a,b,tI][k]? = some v) :
  Ev (.jn (hold [aM k 3]) (iG a b)) (k+Ca (2 - k)+(2 - k)+12) v:=by
 have hv:∀x∈[a,b,tI],val x=true:=by intro t ht;simp at ht;rcases ht with rfl | rfl | rfl;exact ha;exact hb;exact uQ
 have h1:=zii hv hk;obtain⟨_,h2⟩:=YT (z8 k 3) h1;have h3:cI (iG a b) ([]++[aM k 3]) (0+_) v:=cI.snoc [] _ _ _ _ _ (cI.nil (yJ ha hb)) (z8 k 3) h2;obtain⟨_,h4⟩:=YT (yJ ha hb) h3;refine h4.to ?_;simp
 try omega
def Ug{a b:Tr}(ha:val a=true)(hb:val b=true):Ev (.jn sZ (iG a b)) 16 tI:=Li ha hb 2 rfl
def abJ{a b:Tr}(ha:val a=true)(hb:val b=true):Ev (.jn yK (iG a b)) 16 a:=Li ha hb 0 rfl
def abI{a b:Tr}(ha:val a=true)(hb:val b=true):Ev (.jn Nb (iG a b)) 14 b:=Li ha hb 1 rfl
def C_{t v:Tr}{n:Nat}(hv:val v=true)(h:Ev t n v)(m:Nat)(w:Tr):Ev t m w ↔ ∃k,m=k+n/\Ev v k w:=by
 constructor
 ·intro g;obtain⟨rfl,rfl⟩:=h.det g;exact⟨0,by omega,Ev.v hv⟩
 ·rintro ⟨k,rfl,g⟩;obtain⟨rfl,rfl⟩:=(Ev.v hv).det g;exact h.to (by omega)
theorem Px{a b:Tr}(ha:val a=true)(hb:val b=true):∀(t:Tr) (n:Nat) (v:Tr),Ev (.jn (txt t) (iG a b)) n v ↔ ∃k,n=k+qu t/\Ev (put2 a b t) k v
 | .lf s,n,v=>by
  rw[txt,Wx,put2,qu];by_cases h:s=[83]
  ·rw[ae1 h,ae1 h,ae1 h];exact C_ ha (abJ ha hb) n v
  ·rw[ae2 h,ae2 h,ae2 h];exact C_ hb (abI ha hb) n v
 | .jn l r,n,v=>by
  have hE:=yJ ha hb;have vl:=zls l;have vr:=zls r;have Ra:=Px ha hb l;have Q_:=Px ha hb r;rw[txt,put2,qu,WR];have v1:val (.jn (.jn tS sZ) (txt l))=true:=by rw[Dv,Bq,vl];rfl
  have v2:val (.jn (.jn tS (.jn (.jn tS sZ) (txt l))) (txt r))=true:=by rw[Dv,v1,vr];rfl
  constructor
  ·intro h;obtain⟨k,rfl,h'⟩:=Ev.Qp v2 hE h;obtain⟨n1,n2,n3,x,y,q1,q2,q3,rfl⟩:=h'.inv;obtain⟨k1,rfl,q1'⟩:=Ev.Qp v1 hE q1;obtain⟨m1,m2,m3,h',z,p1,p2,p3,rfl⟩:=q1'.inv;obtain⟨rfl,rfl⟩:=(Ug ha hb).det p1;obtain⟨rfl,rfl⟩:=(Ev.I (Ev.v p2.2)).det p3;obtain⟨kl,rfl,el⟩:=(Ra _ _).mp p2;obtain⟨kr,rfl,er⟩:=(Q_ _ _).mp q2;exact⟨kl+kr+n3,by omega,el.comp er q3⟩
  ·rintro ⟨k,rfl,h⟩;obtain⟨n1,n2,n3,x,y,q1,q2,q3,rfl⟩:=h.inv;have el:=(Ra _ _).mpr ⟨n1,rfl,q1⟩;have er:=(Q_ _ _).mpr ⟨n2,rfl,q2⟩;have e1:Ev (.jn (.jn sZ (iG a b)) (.jn (txt l) (iG a b))) _ x:=(Ug ha hb).comp el (Ev.I (Ev.v el.2));have e2:Ev (.jn (.jn (.jn tS sZ) (txt l)) (iG a b)) _ x:=(Ev.v v1).S (Ev.v hE) e1;have e3:=(Ev.v v2).S (Ev.v hE) (e2.comp er q3);exact e3.to (by omega)
def Ex{a b:Tr}(ha:val a=true)(hb:val b=true)(t:Tr)(n:Nat)(v:Tr):Ev (.jn (oN a b) (txt t)) n v ↔ ∃k,n=k+(4+qu t)/\Ev (put2 a b t) k v:=by
 have hE:=yJ ha hb;have vt:=zls t;have vK:val (.jn Tr.tK (iG a b))=true:=by rw[dM];exact hE
 have vP:val (.jn (.jn tS tI) (.jn Tr.tK (iG a b)))=true:=by rw[Dv,vK,uQ];rfl
 have eI:Ev (.jn tI (txt t)) 2 (txt t):=Ev.I (Ev.v vt);have eK:Ev (.jn (.jn Tr.tK (iG a b)) (txt t)) 1 (iG a b):=((Ev.v vK).K (Ev.v vt)).to (by omega);rw[show oN a b=.jn (.jn tS tI) (.jn Tr.tK (iG a b)) from rfl];constructor
 ·intro h;obtain⟨k,rfl,h'⟩:=Ev.Qp vP vt h;obtain⟨n1,n2,n3,x,y,q1,q2,q3,rfl⟩:=h'.inv;obtain⟨rfl,rfl⟩:=eI.det q1;obtain⟨rfl,rfl⟩:=eK.det q2;obtain⟨k,rfl,e⟩:=(Px ha hb t _ _).mp q3;exact⟨k,by omega,e⟩
 ·rintro ⟨k,rfl,h⟩;have e:=(Px ha hb t _ _).mpr ⟨k,rfl,h⟩;exact ((Ev.v vP).S (Ev.v vt) (eI.comp eK e)).to (by omega)
theorem Bc:∀t,dp (txt t)<=3*dp t+7
 | .lf s=>by rw[txt,Wx];split;exact (by rw[Yl];omega);exact (by rw[Yk];omega)
 | .jn l r=>by
  have:=Bc l;have:=Bc r;have:=Yn;rw[txt,WR,dp,dp,dp,dp,dp];simp only[dp];omega
def Rw{a b:Tr}:dp (oN a b)<=dp a+dp b+20:=by
 simp[oN,iG,hold,dp];omega
end Tr
end M
namespace Law
open L2 M Tr
def Ew(a b:Tr)(ha:val a=true)(hb:val b=true)(st:ak):zf5 [enc a,enc b] st=.ok (enc (oN a b)) st:=by
 have h1:=je [a,b,tI] [enc a,enc b,.tup [.tup [.str [83],.str [75],.int 2,.bl true],.str [75],.int 3,.bl true]] rfl st (by intro t ht;simp at ht;rcases ht with rfl | rfl | rfl;exact ha;exact hb;exact uQ);have h2:=je [iG a b] [enc (iG a b)] rfl (st++[.lst [enc a,enc b,.tup [.tup [.str [83],.str [75],.int 2,.bl true],.str [75],.int 3,.bl true]]]) (by intro t ht;cases h_.mp ht;exact yJ ha hb);have hu:∀g:ak,gc st (.ok (enc (oN a b)) (st++g))=.ok (enc (oN a b)) st:=λg=>o9 (fB _ _);rw[show hold [a,b,tI]=iG a b from rfl]at h1;rw[show hold [iG a b]=oN a b from rfl]at h2;unfold zf5 bu bh zmh;have hu2:=hu ([MO.lst [enc a,enc b,.tup [.tup [.str [83],.str [75],.int 2,.bl true],.str [75],.int 3,.bl true]]]++[MO.lst [enc (iG a b)]]);rw[<-gP]at hu2;generalize enc (oN a b)=W at *;generalize enc (iG a b)=W2 at *;generalize enc a=EA at *;generalize enc b=EB at *;have e:(st++[MO.lst [EA,EB,.tup [.tup [.str [83],.str [75],.int 2,.bl true],.str [75],.int 3,.bl true]]]).length=st.length+1:=by simp
 generalize hZ:(st++[MO.lst [EA,EB,.tup [.tup [.str [83],.str [75],.int 2,.bl true],.str [75],.int 3,.bl true]]]:ak)=Z at *;rw[e]at h2;simp[startM,hZ,h1,e,h2];exact hu2
def zlw(st:ak):zbo [] st=.ok (enc (oN tS Tr.tK)) st:=by
 have h:=Ew tS Tr.tK rfl rfl st;rw[show enc tS=.str [83] from rfl,show enc Tr.tK=.str [75] from rfl]at h;have hu:=fB st.length (oN tS Tr.tK);unfold zbo bu bh zd8;generalize enc (oN tS Tr.tK)=W at *;simp[startM,h];exact dY hu
def Fg(st:ak):∀(k:Nat) (t:Tr),sk t->dp t<k->zi3 k [enc t] st=.ok (.int (qu t:Nat)) st:=by
 intro k
 induction k with
 | zero=>intro t _ h;omega
 | succ k ih =>
  intro t hs hd;have Xu:=Ny t;rw[zi3];unfold bu bh zrx;cases t with
  | lf s =>
   have hs:s=[83]\/s=[75]:=hs;rw[show enc (.lf s)=.str s from rfl,qu];have xa:aY (.loc st.length) (.int 0) (st++[.lst [.int 16,.int 14]])=.ok (.int 16) (st++[.lst [.int 16,.int 14]]):=z6 _ _ _ [.int 16,.int 14] _ (by simp) rfl;have xb:aY (.loc st.length) (.int 1) (st++[.lst [.int 16,.int 14]])=.ok (.int 14) (st++[.lst [.int 16,.int 14]]):=z6 _ _ _ [.int 16,.int 14] _ (by simp) rfl;rcases hs with rfl | rfl
   ·rw[ae1 rfl];have e:=Nu 799 tS [75] (st++[.lst [.int 16,.int 14]]);rw[show enc tS=.str [83] from rfl]at e;simp[startM,jc,cD,e,xa];exact o9 (by simp)
   ·rw[ae2 (by decide)];have e:=Nu 799 Tr.tK [75] (st++[.lst [.int 16,.int 14]]);rw[show enc Tr.tK=.str [75] from rfl]at e;simp[startM,jc,cD,e,xb];exact o9 (by simp)
  | jn l r =>
   rw[dp]at hd;have x0:aY (enc (.jn l r)) (.int 0) st=.ok (enc l) st:=by rw[enc];exact jD st 0 _ _ rfl
   have x1:aY (enc (.jn l r)) (.int 1) st=.ok (enc r) st:=by rw[enc];exact jD st 1 _ _ rfl
   have h1:=ih l hs.1 (by omega);have h2:=ih r hs.2 (by omega);rw[qu];generalize enc (.jn l r)=J at *;generalize enc l=L at *;generalize enc r=RR at *;simp[startM,Xu,cD,x0,x1,h1,h2];exact dY (by simp)
end Law
set_option maxHeartbeats 0
namespace M
namespace Tr
theorem znp:∀{n:Nat} {t v:Tr},ig (n+1) t=some v->∃u,ig n t=some u/\step u=some v
 | 0,t,v,h=>by
  rw[ig]at h;cases e:step t with
  | none=>rw[e]at h;cases h
  | some x =>
   rw[e]at h;have:x=v:=by simpa[ig] using h
   exact⟨t,rfl,by rw[e,this]⟩
 | n+1,t,v,h=>by
  cases e:step t with
  | none=>rw[ig,e]at h;cases h
  | some x =>
   rw[v9 e]at h;obtain⟨u,h1,h2⟩:=znp h;exact⟨u,by rw[v9 e];exact h1,h2⟩
end Tr
end M
namespace M
namespace Tr
def skb:Tr->Bool
 | .lf s=>decide (s=[83]) || decide (s=[75])
 | .jn l r=>skb l && skb r
theorem wZ:∀{t:Tr},skb t=true->sk t
 | .lf s,h=>by
  rw[skb,ph]at h;rcases h with h | h
  ·exact .inl (afa h)
  ·exact .inr (afa h)
 | .jn l r,h=>by
  rw[skb,gB]at h;exact⟨wZ h.1,wZ h.2⟩
end Tr
end M
namespace Law
open L2 M Tr
abbrev yQ(a b:Nat)(m:Bool):Ru:=⟨a,95,95,m,b⟩
def Up(a:Nat):Bk:=⟨[95],[a],[]⟩
def Ms(a b:Nat):Bk:=⟨[95],[a,b],[]⟩
def vZ(a b:Nat)(m:Bool):Bk:=⟨[95],[a,b],[yQ a b m]⟩
def ZL(a:Nat)(l:List Nat):bI (a::l) a=0:=by simp[bI,List.findIdx_cons]
def ZK{a b:Nat}(h:a≠b)(l:List Nat):bI (a::b::l) b=1:=by simp[bI,List.findIdx_cons,h]
def Yg(a b:Nat)(m:Bool):zm (vZ a b m) a 95=some (yQ a b m):=by simp[zm,vZ]
def K_{a b:Nat}(h:a≠b)(m:Bool):zm (vZ a b m) b 95=none:=by simp[zm,vZ,h]
def Vo(a:Nat):qO (Up a) a=qO (Up 0) 0:=by
 have r:dN (Up a) a=dN (Up 0) 0:=by
  unfold dN wI uN;simp only[Up,ZL]
  rfl
 unfold qO lr;simp only[Up,gm,gZ]at r ⊢;rw[r]
def Vn{a b:Nat}(h:a≠b):qO (Ms a b) a=qO (Ms 0 1) 0:=by
 have r:dN (Ms a b) a=dN (Ms 0 1) 0:=by
  unfold dN wI uN;simp only[Ms,ZL]
  rfl
 have r':dN (Ms a b) b=dN (Ms 0 1) 1:=by
  unfold dN wI uN;simp only[Ms,ZK h,ZK (show (0:Nat)≠1 by decide)]
  rfl
 unfold qO lr;simp only[Ms,gm,gZ]at r r' ⊢;rw[r,r']
def Vm{a b:Nat}(h:a≠b)(m:Bool):qO (vZ a b m) a=qO (vZ 0 1 m) 0:=by
 have t:iB (vZ a b m) b=iB (vZ 0 1 m) 1:=by
  unfold iB;simp only[vZ,ZK h,ZK (show (0:Nat)≠1 by decide)]
  rfl
 have d:bN (vZ a b m) a 95=bN (vZ 0 1 m) 0 95:=by
  unfold bN;rw[Yg,Yg];show pX m _ _ (jj (iB _ b))=pX m _ _ (jj (iB _ 1));rw[t];rfl
 have d':bN (vZ a b m) b 95=bN (vZ 0 1 m) 1 95:=by
  unfold bN;rw[K_ h,K_ (by decide)];rfl
 have r:dN (vZ a b m) a=dN (vZ 0 1 m) 0:=by
  show wI [95] _ _=wI [95] _ _;unfold wI uN;simp only[gm,gZ,d];simp only[vZ,ZL]
  rfl
 have r':dN (vZ a b m) b=dN (vZ 0 1 m) 1:=by
  show wI [95] _ _=wI [95] _ _;unfold wI uN;simp only[gm,gZ,d'];simp only[vZ,ZK h,ZK (show (0:Nat)≠1 by decide)]
  rfl
 unfold qO lr;rw[show (vZ a b m).ss=[a,b] from rfl,show (vZ 0 1 m).ss=[0,1] from rfl];simp only[gm,gZ];rw[r,r']
def Gd(t:Tr):Prop:=sk t/\dp t<=90/\lv t<=5000
def gd1(a:Nat):Gd (qO (Up a) a):=by rw[Vo];exact⟨wZ (by decide +kernel),by decide +kernel,by decide +kernel⟩
def gd2{a b:Nat}(h:a≠b):Gd (qO (Ms a b) a):=by rw[Vn h];exact⟨wZ (by decide +kernel),by decide +kernel,by decide +kernel⟩
def gd3{a b:Nat}(h:a≠b)(m:Bool):Gd (qO (vZ a b m) a):=by
 rw[Vm h];cases m<;>exact⟨wZ (by decide +kernel),by decide +kernel,by decide +kernel⟩
def dZ(n:Nat):List Nat:=List.replicate n 95
def K4{B:Bk}(hl:B.ls=[95]){a:Nat}(h:Gd (qO B a)){i j:Nat}(hi:i<=2)(hj:j<=2):sk (d_ B ⟨a,dZ i,95,dZ j⟩)/\dp (d_ B ⟨a,dZ i,95,dZ j⟩)<=91/\lv (d_ B ⟨a,dZ i,95,dZ j⟩)<=10000:=by
 have sg:dC B 95=aM 0 1:=by unfold dC;rw[hl];rfl
 have key:Gd (hold [iu B (dZ i),dC B 95,iu B (dZ j)]):=by
  have e:∀n,iu B (dZ n)=sX (List.replicate n (aM 0 1)):=λn=>by unfold iu dZ;rw[List.map_replicate,sg]
  rw[e,e,sg];rcases (by omega:i=0\/i=1\/i=2) with rfl | rfl | rfl<;>rcases (by omega:j=0\/j=1\/j=2) with rfl | rfl | rfl<;>exact⟨wZ (by decide +kernel),by decide +kernel,by decide +kernel⟩
 exact⟨⟨h.1,key.1⟩,by
  show max (dp (qO B a)) (dp (hold [iu B (dZ i),dC B 95,iu B (dZ j)]))+1<=_;have:=h.2.1;have:=key.2.1;omega,by
  show lv (qO B a)+lv (hold [iu B (dZ i),dC B 95,iu B (dZ j)])<=_;have:=h.2.2;have:=key.2.2;omega⟩
def last_step{T v:Tr}{n:Nat}(h:Ev T (n+1) v):∃u,run n T=(u,n)/\val u=false/\run 5 u=(v,1):=by
 obtain⟨u,u1,u2⟩:=znp h.1;refine⟨u,zl1 u1,zrj u2,?_⟩;rw[zie u2,SX (Uy h.2)]
def lt_int{i j:Int}{c:Bool}{st:ak}(h:decide (i<j)=c):ltV (.int i) (.int j) st=.ok (.bl c) st:=by subst h;simp
def znx(ns:List Int)(k:Nat)(st:ak)(h:aA st 0=some (ns.map D.int)):zdl [.loc 0,.int k] st=.ok (.int (ns.getD k 0)) st:=by
 have le:=SJ h;rw[gh]at le;by_cases hk:k<ns.length
 ·refine eV (Aa (YM (oG (bA rfl (xx le rfl) (lt_int (ae_ (by omega))))) (wX (bA rfl rfl (z6 _ _ _ _ _ h ?_))))) rfl (dY (by simp));rw[zhl,gM,p8,gK hk];rfl
 ·refine eV (zZ (oG (bA rfl (xx le rfl) (lt_int (ae4 (by omega))))) (wX rfl)) rfl ?_;rw[p8,pP (by omega)];exact dY (by simp)
def Gz(a b i j:Nat)(m:Bool)(hi:i<=2)(hj:j<=2)(st:ak):zhu [sU ⟨a,dZ i,95,dZ j⟩,xN (yQ a b m)] st=.ok (sU (zg (yQ a b m) ⟨a,dZ i,95,dZ j⟩)) st:=by
 rw[Ut];have hu:∀z:Sd,under st.length (sU z):=λz=>by simp[sU]
 cases m with
 | true =>
  have e:sU (zg (yQ a b true) ⟨a,dZ i,95,dZ j⟩)=.tup [.int b,.str (dZ (i - 1)),.str [95],.str (dZ (j+1))]:=by
   rcases (by omega:i=0\/i=1\/i=2) with rfl | rfl | rfl<;>rfl
  have g:=hu (zg (yQ a b true) ⟨a,dZ i,95,dZ j⟩);rw[e]at g ⊢;refine eV (Ak rfl (show _=R.ok [some (sU _),some _,some (.int a),some (.str (dZ i).reverse),some (.str [95]),some (.str (dZ j))] st from rfl) (Aa (YM (oG (bA (bA rfl rfl oM) rfl eq_str)) (wX (MJ (bM (bA rfl rfl oM) (bM (Hu rfl rfl rfl ?_) (bM rfl (bM (bA rfl rfl (add_str (by simp[dZ];omega))) rfl))))))))) rfl (dY g);rcases (by omega:i=0\/i=1\/i=2) with rfl | rfl | rfl<;>rfl
 | false =>
  have e:sU (zg (yQ a b false) ⟨a,dZ i,95,dZ j⟩)=.tup [.int b,.str (dZ i++[95]),.str [95],.str (dZ (j - 1))]:=by
   rcases (by omega:i=0\/i=1\/i=2) with rfl | rfl | rfl<;>rcases (by omega:j=0\/j=1\/j=2) with rfl | rfl | rfl<;>rfl
  have g:=hu (zg (yQ a b false) ⟨a,dZ i,95,dZ j⟩);rw[e]at g ⊢;have er:(dZ i).reverse=dZ i:=by simp[dZ]
  refine eV (Ak rfl (show _=R.ok [some (sU _),some _,some (.int a),some (.str (dZ i).reverse),some (.str [95]),some (.str (dZ j))] st from rfl) (zZ (oG (bA (bA rfl rfl oM) rfl eq_str)) (wX (MJ (bM (bA rfl rfl oM) (bM (bA rfl rfl (by rw[er];exact add_str (by simp[dZ];omega))) (bM rfl (bM (Hu rfl rfl rfl ?_) rfl)))))))) rfl (dY g);rcases (by omega:j=0\/j=1\/j=2) with rfl | rfl | rfl<;>rfl
theorem Lr:∀{n:Nat} {t u:Tr},ig n t=some u->dp u<=dp t+n
 | 0,t,u,h=>by
  have:t=u:=by simpa[ig] using h
  subst this;omega
 | n+1,t,u,h=>by
  cases e:step t with
  | none=>rw[ig,e]at h;cases h
  | some x =>
   rw[v9 e]at h;have:=Lr h;have:=zpu e;omega
def Qn{B:Bk}(hl:B.ls=[95]){s:Nat}(hs:s∈B.ss){x y:List Nat}(hx:∀c∈x,c=95)(hy:∀c∈y,c=95):Dq B ⟨s,x,95,y⟩:=⟨hs,by rw[hl];simp,λc hc=>by rw[hx c hc,hl];simp,λc hc=>by rw[hy c hc,hl];simp⟩
def Td{i j k:Int}{st:ak}(h:i - j=k):uA (.int i) (.int j) st=.ok (.int k) st:=by subst h;rfl
def abD{x:R Out}{f:Out->ak->R D}{S X:ak}{c:Bool}(h:x=.ok (.rt (.bl c)) X)(hf:f (.rt (.bl c)) X=.ok (.bl c) X):∃st,gc S (x.bind f)=.ok (.bl c) st:=by
 rw[h,R.aB,hf];unfold gc;dsimp only
 split
 ·exact⟨_,rfl⟩
 ·exact⟨_,rfl⟩
def Ol{a:ME}{l h:MP}{env:aJ}{st st1 st2:ak}{x d:D}{lo hi:Option Int}(ha:a env st=.ok x st1)(hl:l env st1=.ok lo st1)(hh:h env st1=.ok hi st1)(k:zU x lo hi st1=.ok d st2):Hv a l h env st=.ok d st2:=by simp[ha,hl,hh,k]
def Cr{mA:MA}{env:aJ}{st st1:ak}{ds:List D}(h:mA env st=.ok ds st1)(hl:ds.length<=1000000:=by simp):dO mA env st=.ok (.loc st1.length) (st1++[.lst ds]):=by simp[h,hl]
def Xw{a:ME}{env:aJ}{st:ak}{i:Int}(h:a env st=.ok (.int i) st):Q8 a env st=.ok (some i) st:=by simp[h]
def bkw(B:Bk)(hl:B.ls=[95])(hn:B.ss.Nodup)(h2:B.ss.length<=2)(h0:0<B.ss.length)(hr:∀r∈B.rs,r.g∈B.ss/\r.w=95/\r.x=95)(h1:B.rs.length<=1):zP B :=
 ⟨⟨by rw[hl];simp,hn,by rw[hl];simp,by rw[hl];simp,by omega,λr h=>⟨(hr r h).1,by rw[(hr r h).2.1,hl];simp⟩⟩,λc h=>by rw[hl]at h;obtain rfl:=h_.mp h;exact .inl rfl,by rw[hl];simp,λr h=>by rw[(hr r h).2.2,hl];simp,by omega,h0,by omega⟩
def law_true(ns:List Int)(FP:ns.length<=63):∃st,zmk [.loc 0] [.frz (ns.map D.int),.tab "out_and_cost",.tab "put_in",.tab "text_of"]=.ok (.bl true) st:=by
 generalize hS0:([.frz (ns.map D.int),.tab "out_and_cost",.tab "put_in",.tab "text_of"]:ak)=S0;have it0:aA S0 0=some (ns.map D.int):=by subst hS0;rfl
 have hb0:Bs S0:=by subst hS0;exact⟨rfl,rfl,by intro o ho;simp at ho;rcases ho with rfl | rfl | rfl | rfl<;>rfl⟩
 have t30:S0[3]? = some (.tab "text_of"):=by subst hS0;rfl
 have hl0:S0.length=4:=by subst hS0;rfl
 obtain⟨a,ha⟩:=nR (pA (ns.getD 1 0) (show (5000:Int)≠0 by decide));obtain⟨y,hy⟩:=nR (pA (ns.getD 2 0) (show (4998:Int)≠0 by decide));have c0:=znx ns 0 S0 it0;have c1:=znx ns 1 S0 it0;have c2:=znx ns 2 S0 it0;generalize ns.getD 0 0=c at c0;obtain⟨i,hi⟩:=nR (pA (c / 16) (show (3:Int)≠0 by decide));obtain⟨j,hj⟩:=nR (pA (c / 48) (show (3:Int)≠0 by decide))
 let b:Nat:=(a+1+y) % 5000
 have hb:((a:Int)+1+y) % 5000=(b:Nat):=by simp[b]
 have Ub:a≠b:=by
  have:y<4998:=by omega
  have:a<5000:=by omega
  show a≠(a+1+y) % 5000;omega
 have hi2:i<=2:=by omega
 have hj2:j<=2:=by omega
 have b95:∀n,∀c∈dZ n,c=95:=λn c hc=>List.eq_of_mem_replicate hc;have bl:∀n,(dZ n).length=n:=λn=>by simp[dZ]
 let z:Sd:=⟨a,dZ i,95,dZ j⟩
 unfold zmk bu bh zoj;generalize hT:(aD (aK 9 _) _:MS)=T

 have tl:∀(B:Bk) (hB:zP B) (bk:Nat) (X:ak) (bX:Bs X) (t3:X[3]? = some (.tab "text_of")) (hk:oX X bk B) (zE:Sd) (hzE:Dq B zE) (la:zE.a.length<=3) (lb:zE.b.length<=3) (n:Nat) (hev:Ev (d_ B z) n (lX B zE)) (hn:n<=2000) (T4:1<=n) (hg:sk (d_ B z)/\dp (d_ B z)<=91/\lv (d_ B z)<=10000) (fQ:B.ss.length<=2) (d1 d2 d3 d5:Option D),
   T [some (.loc 0),d1,d2,d3,some (sU zE),d5,some (.loc bk),some (enc (d_ B z)),some (.int n),none,none,none,none] X=.ok (.rt (.bl true)) X:=by
  intro B hB bk X bX t3 hk zE hzE la lb n hev hn T4 ⟨g1,g2,g3⟩ fQ d1 d2 d3 d5;have Ay:=hB.ss;have dE:=Ry hB.ok hB.few hzE 3 la lb
  let MM:Nat:=4+qu (d_ B z)+n
  have hc:=ztm (d_ B z);have pe:Ev (.jn (oN tS Tr.tK) (txt (d_ B z))) (MM - 1+1) (lX B zE):=by
   have:=(Ex (a:=tS) (b:=Tr.tK) rfl rfl (d_ B z) (n+(4+qu (d_ B z))) (lX B zE)).mpr ⟨n,rfl,by rw[Pa g1];exact hev⟩;rwa[show n+(4+qu (d_ B z))=MM - 1+1 by simp only[MM];omega]at this
  obtain⟨u,u1,u2,u3⟩:=last_step pe;have dT:dp (.jn (oN tS Tr.tK) (txt (d_ B z)))<=400:=by
   have h1:=Bc (d_ B z);have h2:=Rw (a:=tS) (b:=Tr.tK);have h3:dp tS=0:=rfl;have h4:dp Tr.tK=0:=rfl;rw[dp];omega
  have du:dp u<=400+MM:=by
   obtain⟨v,v1,_⟩:=znp pe.1;have e:=zl1 v1;rw[u1]at e;have:u=v:=congrArg Prod.fst e;rw[this];have:=Lr v1;omega
  have r1:=zga (d_ B z) n X (by omega);have r2:=zga (.jn (oN tS Tr.tK) (txt (d_ B z))) (MM - 1) X (by simp only[MM];omega);have r3:=zga u 5 X (by simp only[MM]at du;omega);rw[zl1 hev.1]at r1;rw[u1]at r2;rw[u3]at r3;dsimp only at r1 r2 r3;rw[ae1 hev.2]at r1 r3;rw[u2,ae2 (by decide)]at r2;have eqE:M.jf 800 (enc (lX B zE)) (enc (lX B zE)) X=.ok (.bl true) X:=by have:=zrd (lX B zE) (lX B zE) X (by omega);simpa using this
  have te:=zqg hB bX hk zE hzE (by omega) (by omega);have et:=zp6 hB bX hk zE hzE (by omega) (by omega) Ay;have jo:=uL (oN tS Tr.tK) (txt (d_ B z)) X;have tx:=zr2 (d_ B z) X g1 bX.t1 t3 bX.c (by omega);have lc:=Fg X 100 (d_ B z) g1 (by omega);have n1:=zpb (st:=X) 800 (.tup [.str [118,97,108,117,101],enc (lX B zE),.int n]) (by simp[zj7]) (by simp[Dc];omega);have n2:=zpb (st:=X) 800 (sU zE) (by simp[sU]) (by simp[sU]);rw[<-hT];exact fD (dh te rfl) (zZ (YQ (oG (bA (dh r1 rfl) (MJ rfl) n1)) (oG (bA (dh et rfl) rfl n2)))
   (fD (bA (bA rfl (dh lc rfl) (add_int rfl)) rfl (add_int (k:=(MM:Int)) (by simp only[MM];omega)))
   (fD (dh r2 (bM (dh jo (bM (dh (zlw X) rfl) (bM (dh tx rfl) rfl))) (bM (bA rfl rfl (Td (k:=((MM - 1:Nat):Int)) (by simp only[MM];omega))) rfl)))
   (zZ (YQ (oG (bA (bA rfl rfl oM) rfl (vm zsx))) (oG (bA (bA rfl rfl oM) (bA rfl rfl (Td (k:=((MM - 1:Nat):Int)) (by simp only[MM];omega))) (vm YW))))
   (fD (dh r3 (bM (bA rfl rfl oM) rfl))
   (wX (zl7 (bA (bA rfl rfl oM) rfl zsx) (zl7 (bA (bA rfl rfl oM) rfl YW) (zl7 (bA (dh (zhk (lX B zE) X) (bM (bA rfl rfl oM) rfl)) (dh (zhk (lX B zE) X) rfl) YW) (bA (bA rfl rfl oM) rfl eqE))))))))))
 generalize hR:(aD (iZ (tD _ _) _ _) _:MS)=RR
 let ss:List Nat:=if c % 2=0 then [a] else [a,b]
 let S1:ak:=S0++[.lst [.int a,.int b]]
 let S2:ak:=S1++[.lst (ss.map λs=>D.int (s:Nat))]
 have l1:S1.length=5:=by simp[S1,hl0]
 have l2:S2.length=6:=by simp[S2,l1]
 let E:D->List (Option D)->aJ:=λd r=>some (.loc 0)::some (.int c)::some (.int a)::some (.loc 5)::some d::some (.loc 6)::r
 let E0:D->aJ:=λd=>[some (.loc 0),some (.int c),some (.int a),some (.loc 5),some d,none,none,none,none,none,none,none,none]
 have ez:sU z=.tup [.int a,.str (dZ i),.str [95],.str (dZ j)]:=by simp[sU,z,dZ]
 have sl:zU (.loc S0.length) none (some (1+c % 2)) S1=.ok (.loc S1.length) S2:=by
  have g:S1[S0.length]? = some (.lst [.int a,.int b]):=uO (k:=0) rfl;unfold zU;simp only[aA,g];rcases (by omega:c % 2=0\/c % 2=1) with h | h
  ·simp only[S2,ss,h,ae1];rfl
  ·simp only[S2,ss,h];rfl
 suffices h:∃X,RR (E (sU z) [none,none,none,none,none,none,none]) (S2++[.lst []])=.ok (.rt (.bl true)) X by
  obtain⟨X,h⟩:=h;have m1:jQ (.int (ns.getD 1 0)) (.int 5000) S0=.ok (.int a) S0:=by rw[S7 S0 _ 5000 (by decide),ha]
  have m2:jQ (.int (ns.getD 2 0)) (.int 4998) S0=.ok (.int y) S0:=by rw[S7 S0 _ 4998 (by decide),hy]
  have m3:jQ (.int ((a:Int)+1+y)) (.int 5000) S0=.ok (.int b) S0:=by rw[S7 S0 _ 5000 (by decide),hb]
  have m4:∀S,jQ (.int c) (.int 2) S=.ok (.int (c % 2)) S:=λS=>S7 S _ 2 (by decide);have m5:∀S,jQ (.int (c / 16)) (.int 3) S=.ok (.int i) S:=λS=>by rw[S7 S _ 3 (by decide),hi]
  have m6:∀S,jQ (.int (c / 48)) (.int 3) S=.ok (.int j) S:=λS=>by rw[S7 S _ 3 (by decide),hj]
  have q5:∀S,jF (.int c) (.int 16) S=.ok (.int (c / 16)) S:=λS=>zed S _ 16 (by decide);have q6:∀S,jF (.int c) (.int 48) S=.ok (.int (c / 48)) S:=λS=>zed S _ 48 (by decide);have Ei:=fD (i:=5) (e:=dO au) (m2:=RR) (env:=E0 (sU z)) (st:=S2) (r:=.ok (.rt (.bl true)) X) (Cr rfl) (by rw[l2];exact h);rw[ez]at Ei;exact abD (fD (dh c0 rfl) (fD (bA (dh c1 rfl) rfl m1) (fD (d:=.loc 5) (by rw[<-l1];exact Ol (Cr (bM rfl (bM (bA (bA (bA rfl rfl (add_int rfl)) (bA (dh c2 rfl) rfl m2) (add_int rfl)) rfl m3) rfl))) rfl (Xw (bA rfl (bA rfl rfl (m4 _)) (add_int rfl))) sl)
   (fD (MJ (bM rfl (bM (bA rfl (bA (bA rfl rfl (q5 _)) rfl (m5 _)) (BW 95 i _ (by omega))) (bM rfl (bM (bA rfl (bA (bA rfl rfl (q6 _)) rfl (m6 _)) (BW 95 j _ (by omega))) rfl))))) Ei)))) rfl

 have book:∀(B:Bk),zP B->B.ls=[95]->B.ss=ss->∃X,Zn [.loc 7,.loc 6,.str [],.loc 5] (S2++[.lst (B.rs.map xN)]++[.ins "Book" []])=.ok .non X/\oX X 7 B/\Bs X/\X[3]? = some (.tab "text_of")/\X[6]? = some (.lst (B.rs.map xN)):=by
  intro B hB hls Ay
  let S4:ak:=S2++[.lst (B.rs.map xN)]++[.ins "Book" []]
  have b4:Bs S4:=(((hb0.app (by simp)).app (by simp)).app (by simp)).app (by simp;rfl);have g6:S4[6]? = some (.lst (B.rs.map xN)):=cZ (uO (k:=0) rfl l2.symm);obtain⟨X,x1,x2,x3,x4⟩:=zm1 B hB [] (by rw[hls]) 7 6 5 S4 b4 (uO (k:=0) rfl (by simp[l2])) g6 (cZ (cZ (by rw[Ay];exact uO (k:=0) rfl l1.symm)));exact⟨X,x1,x3,⟨x2 _ _ (by decide) b4.t1,x2 _ _ (by decide) b4.t2,x4⟩,x2 _ _ (by decide) (cZ (cZ (cZ (cZ t30)))),x2 _ _ (by decide) g6⟩
 have len:∀g:ak,fH [.loc 5] (S2++g)=.ok (.int ss.length) (S2++g):=λg=>by
  have:=SJ (st:=S2++g) (n:=5) (ds:=ss.map λs=>D.int (s:Nat)) (by unfold aA;rw[cZ (uO (k:=0) rfl l1.symm)]);rwa[gh]at this
 have q2:jF (.int c) (.int 2) (S2++[.lst []])=.ok (.int (c / 2)) (S2++[.lst []]):=zed _ _ 2 (by decide);have m8:jQ (.int (c / 2)) (.int 8) (S2++[.lst []])=.ok (.int (c / 2 % 8)) (S2++[.lst []]):=S7 _ _ 8 (by decide);have hz:∀{B:Bk},B.ls=[95]->a∈B.ss->Dq B z:=λhl hs=>Qn hl hs (b95 i) (b95 j);rw[<-hR];by_cases hc:c / 2 % 8=1/\c % 2=1
 ·
  have Ay:ss=[a,b]:=by simp[ss,hc.2]
  let m:Bool:=decide (c / 144 % 2=0)
  let B:Bk:=vZ a b m
  have hB:zP B:=bkw B rfl (by show [a,b].Nodup;simp[Ub]) (by show 2<=2;omega) (by show 0<2;omega) (λr hr=>by obtain rfl:=h_.mp hr;exact⟨by show b∈[a,b];simp,rfl,rfl⟩) (by show 1<=1;omega);obtain⟨X,x1,x2,x3,x4,x5⟩:=book B hB rfl Ay.symm;have zo:=hz (B:=B) rfl (by show a∈[a,b];simp);have fd:zm B z.s z.c=some (yQ a b m):=Yg a b m
  let z1:Sd:=zg (yQ a b m) z
  have z1s:z1.s=b:=by simp only[z1,zg];split<;>rfl
  have z1c:z1.c=95:=by
   simp only[z1,zg]
   split
   ·show (dZ i).headD 95=95;rcases (by omega:i=0\/i=1\/i=2) with rfl | rfl | rfl<;>rfl
   ·show (dZ j).headD 95=95;rcases (by omega:j=0\/j=1\/j=2) with rfl | rfl | rfl<;>rfl
  have zo1:Dq B z1:=zo.go hB.ok (by show yQ a b m∈[yQ a b m];simp);obtain⟨la,lb⟩:z1.a.length<=3/\z1.b.length<=3:=by
   simp only[z1,zg]
   split
   ·exact⟨by simp[z,dZ];omega,by simp[z,dZ];omega⟩
   ·exact⟨by simp[z,dZ];omega,by simp[z,dZ];omega⟩
  have e1:=zn7 hB.ok z zo.c;have e2:=zn7 hB.ok z1 zo1.c;rw[show Tt B z=some z1 by unfold Tt;rw[fd];rfl]at e1;rw[show Tt B z1=none by unfold Tt;rw[z1s,z1c,K_ Ub];rfl]at e2;have k1:=znw B z hB.few;have k2:=znw B z1 hB.few;have ev:Ev (d_ B z) (d8 B z+d8 B z1) (lX B z1):=⟨by rw[Sw e1.1];exact e2.1,e2.2⟩
  let X':ak:=X++[.lst []]
  have im:=zgu hB x3 x2 z zo (by simp[z,dZ];omega) (by simp[z,dZ];omega);have co:=zfc hB x3 x2 z zo (by simp[z,dZ];omega) (by simp[z,dZ];omega);have x3':Bs X':=x3.app (by simp);have x2':=x2.mono (Keeps.app X [.lst []]);have co2:=zfc hB x3' x2' z1 zo1 (by omega) (by omega);have ne:M.wK 800 (.loc 6) (.loc X.length) X'=.ok (.bl true) X':=by
   have h1:aA X' 6=some [xN (yQ a b m)]:=by unfold aA;rw[cZ x5];rfl
   have h2:aA X' X.length=some []:=by simp[aA,X']
   have e:jV 800 (.loc 6) (.loc X.length) X'=some false:=by
    simp only[jV,h1,h2];rw[ae1 ⟨by simp[Ut],by simp,by simp[fZ]⟩];simp[jW]
   unfold M.wK;rw[e];rfl
  have ap:aU (.loc 6) [xN (yQ a b m)] (S2++[.lst []])=.ok .non (S2++[.lst [xN (yQ a b m)]]):=by
   unfold aU;simp only[show (S2++[.lst []])[6]? = some (.lst []) from uO (k:=0) rfl l2.symm];rw[ae1 (by simp),Nv _ _ _ _ l2.symm];rfl
  have i5:∀(k:Int) (d:D),rQ ([a,b].map λs=>D.int (s:Nat)) k=some d->aY (.loc 5) (.int k) (S2++[.lst []])=.ok d (S2++[.lst []]):=λk d h=>z6 _ _ _ _ _ (by unfold aA;rw[cZ (uO (k:=0) rfl l1.symm)]) (by rw[Ay];exact h);have ml:aY (.str [108,114]) (.int (c / 144 % 2)) (S2++[.lst []])=.ok (.str (Ni m)) (S2++[.lst []]):=by
   rcases (by omega:c / 144 % 2=0\/c / 144 % 2=1) with h | h
   ·rw[h,show m=true from ae_ h];rfl
   ·rw[h,show m=false from ae4 (by omega)];rfl
  have ap':=ap;rw[Ut (yQ a b m)]at ap;refine⟨X',(G_ (YM (Dm (oG (bA (bA (bA rfl rfl q2) rfl m8) rfl (by rw[hc.1];exact YW))) (oG (bA (xx (len _) rfl) rfl (by rw[Ay];exact YW)))) (YZ (Dy rfl (by simp[cM,uO (st:=S2) (g:=[.lst []]) (k:=0) (o:=.lst []) rfl l2.symm]) (bM (MJ (bM (bA rfl rfl (i5 0 _ rfl)) (bM rfl (bM rfl (bM (bA rfl (bA (bA rfl rfl (zed _ _ 144 (by decide))) rfl (S7 _ _ 2 (by decide))) ml) (bM (bA rfl rfl (i5 1 _ rfl)) rfl)))))) rfl) ap)))).trans ?_⟩;rw[<-Ut (yQ a b m)];have mk:=zo2 (c:="Book") (F:=Zn) (mA:=aj (vr 5) (aj (ct (.str [])) (aj (vr 3) au))) (env:=E (sU z) [none,none,none,none,none,none,none]) (X:=S2++[.lst (B.rs.map xN)]) (X1:=X) rfl (by rw[gG,l2];exact x1);rw[show (S2++[MO.lst (B.rs.map xN)]).length=7 by simp[l2]]at mk;refine fD mk (fD (dh im rfl) (fD (dh co rfl) ((G_ (YM (oG (bA rfl rfl ne)) (fD (dh (Gz a b i j m hi2 hj2 X') (bM rfl (bM (bA rfl rfl (z6 _ _ _ _ _ (by unfold aA;rw[cZ x5]) rfl)) rfl))) (xM (bA rfl (dh co2 rfl) (Y7 rfl)))))).trans ?_)));exact tl B hB 7 X' x3' (cZ x4) x2' z1 zo1 la lb _ ev (by omega) (by omega) (K4 rfl (gd3 Ub m) hi2 hj2) (by show 2<=2;omega) _ _ _ _
 ·
  obtain⟨B,hls,Ay,hrs,hg,hB⟩:∃B:Bk,B.ls=[95]/\B.ss=ss/\B.rs=[]/\Gd (qO B a)/\zP B:=by
   by_cases h:c % 2=0
   ·exact⟨Up a,rfl,by simp[ss,h];rfl,rfl,gd1 a,bkw _ rfl (by show [a].Nodup;simp) (by show 1<=2;omega) (by show 0<1;omega) (λr hr=>by cases hr) (by show 0<=1;omega)⟩
   ·exact⟨Ms a b,rfl,by simp[ss,h];rfl,rfl,gd2 Ub,bkw _ rfl (by show [a,b].Nodup;simp[Ub]) (by show 2<=2;omega) (by show 0<2;omega) (λr hr=>by cases hr) (by show 0<=1;omega)⟩
  have as:a∈B.ss:=by rw[Ay];simp only[ss];split<;>simp
  have s2:B.ss.length<=2:=by rw[Ay];simp only[ss];split<;>simp
  obtain⟨X,x1,x2,x3,x4,x5⟩:=book B hB hls Ay;rw[hrs]at x1 x5;have zo:=hz hls as;have e1:=zn7 hB.ok z zo.c;rw[show Tt B z=none by unfold Tt zm;rw[hrs];rfl]at e1;have k1:=znw B z hB.few
  let X':ak:=X++[.lst []]
  have im:=zgu hB x3 x2 z zo (by simp[z,dZ];omega) (by simp[z,dZ];omega);have co:=zfc hB x3 x2 z zo (by simp[z,dZ];omega) (by simp[z,dZ];omega);have ne:M.wK 800 (.loc 6) (.loc X.length) X'=.ok (.bl false) X':=by
   have h1:aA X' 6=some []:=by unfold aA;rw[cZ x5];rfl
   have h2:aA X' X.length=some []:=by simp[aA,X']
   exact zrc (st:=X') 800 6 X.length [] h1 h2 rfl (by simp)
  have mk:=zo2 (c:="Book") (F:=Zn) (mA:=aj (vr 5) (aj (ct (.str [])) (aj (vr 3) au))) (env:=E (sU z) [none,none,none,none,none,none,none]) (X:=S2++[.lst []]) (X1:=X) rfl (by rw[gG,l2];exact x1);rw[show (S2++[.lst []]:ak).length=7 by simp[l2]]at mk;have cond:tD (fW (aL (M.jf 800) (aL jQ (aL jF (vr 1) (ct (.int 2))) (ct (.int 8))) (ct (.int 1)))) (fW (aL (M.jf 800) (bU fH (aj (vr 3) au)) (ct (.int 2)))) (E (sU z) [none,none,none,none,none,none,none]) (S2++[.lst []])=.ok false (S2++[.lst []]):=by
   by_cases h1:c / 2 % 8=1
   ·refine Dm (oG (bA (bA (bA rfl rfl q2) rfl m8) rfl (by rw[h1];exact YW))) (oG (bA (xx (len _) rfl) rfl ?_));have:c % 2=0:=by omega
    simp only[ss,this,ae1];rw[eq_int];rfl
   ·refine R6 (oG (bA (bA (bA rfl rfl q2) rfl m8) rfl ?_));rw[eq_int,ae4 h1]
  refine⟨X',zZ cond (fD mk (fD (dh im rfl) (fD (dh co rfl) (zZ (oG (bA rfl rfl ne)) ?_))))⟩;exact tl B hB 7 X' (x3.app (by simp)) (cZ x4) (x2.mono (Keeps.app X _)) z zo (by simp[z,dZ];omega) (by simp[z,dZ];omega) _ e1 (by omega) (by omega) (K4 hls hg hi2 hj2) s2 _ _ _ _
end Law
open PySem PySem.W PyProof.Rows
namespace PySem.W.Fast
def tw14756043831995298687:=()
def tw10983171921946999414:=()
def tw16649105024427208250:=()
def tw13066844524759745816:=()
def tw14610274293395071072:=()
def tw3420460806878925449:=()
def tw3627953077901466618:=()
def tw443762147536272162:=()
def tw5093105621536761089:=()
def tw2776615878213660951:=()
def tw6054739611861972200:=()
def tw6641972023347851340:=()
def tw17627458317343002528:=()
def tw8544090037473658844:=()
def tw9116363752107463721:=()
def tw2077023326740667418:=()
def tw8399238446966322343:=()
def tw8255450421793498195:=()
def tw14639958637675895379:=()
def tw2253157492998301613:=()
def tw8551376684485003393:=()
def tw14387825461993963475:=()
def tw4997954725901060514:=()
def tw11796105556390283215:=()
def tw12354223337872220043:=()
def tw10053096249712004297:=()
def tw5976500358151094960:=()
def tw4670900634599216076:=()
def tw13687896814097899865:=()
def tw14333051186610212608:=()
def tw218995873816556475:=()
def tw12401820514483436077:=()
def tw10520726438761486552:=()
def tw14046275486377905041:=()
def tw14382054118669217024:=()
def tw7967521134133852288:=()
def tw12181014501039062561:=()
def tw12090020802985311672:=()
def tw17940679948077301873:=()
def tw546227362295112022:=()
def tw2508386044378467991:=()
def tw6474574631287264938:=()
def tw2588701638664590773:=()
def tw5865209965435394626:=()
def tw2249789370329750589:=()
def tw15914807874159409567:=()
def tw5453106114026735232:=()
def tw17464099861982116965:=()
def tw11462312902615109538:=()
def tw10654748173119407508:=()
def tw3680949969047619739:=()
def tw1362744209739209627:=()
def tw9487781727097874860:=()
def tw2609619207705686054:=()
def tw5356309126009676441:=()
def tw14094525077987395170:=()
def tw12398804705030318580:=()
def tw13193015855693762045:=()
def tw4405482839838365388:=()
def tw8286896742781368123:=()
def tw7847154558999488591:=()
def tw859191007910423748:=()
def tw1748933340581365403:=()
def tw14299348890113715357:=()
def tw5123209564478027636:=()
def tw8671325974336173640:=()
def tw14989179138987010690:=()
def tw13216102533723015874:=()
def tw8621026014932735799:=()
def tw16359919440600566810:=()
def tw9496553970598409334:=()
def tw15251108868626486838:=()
def tw11731885735282600027:=()
def tw9189425066604112645:=()
def tw16772289993336952313:=()
def tw17888459852045244621:=()
def tw16920421679526193802:=()
def tw8437914689512587314:=()
def tw17528946730966761154:=()
def tw10031305749915463179:=()
def tw16755943723438962334:=()
def tw8202525736017495931:=()
def tw12724036682723882436:=()
def tw12395326508675843107:=()
def tw6497631447323810899:=()
def tw16143492764638688963:=()
def tw10684926825391947877:=()
def tw12867434451247727338:=()
def tw9694731463701102238:=()
def tw16728083707752716434:=()
def tw13596275597875212592:=()
def tw1386052533389897564:=()
def tw5420720775779963740:=()
def tw13911079459519314077:=()
def tw14650895619686174614:=()
def tw191070718930942791:=()
def tw13167913091780981993:=()
def tw14820100391890119345:=()
def tw8391808448135542418:=()
def tw13924977222083441231:=()
def tw9848055266245901647:=()
def tw1426870191349906255:=()
def tw15935267831722720768:=()
def tw11105227859549634422:=()
def tw13954123315887950579:=()
def tw1088698581697751043:=()
def tw18351339766856861733:=()
def tw10309796524287472792:=()
def tw18306654089181249877:=()
def tw10545324409804326635:=()
def tw5660974485860779083:=()
def tw11926739089632011107:=()
def tw4933266581254211718:=()
def tw5945164593488889062:=()
def tw690015022438985073:=()
def tw9590716921054373041:=()
def tw809370824493204819:=()
def tw17952403513310204349:=()
def tw16027170145562040881:=()
def tw3002293547555972009:=()
def tw200630952368245372:=()
def tw7562294294225136586:=()
def tw14166651819887955170:=()
def tw14962118783937121538:=()
def tw3236843527541345912:=()
def tw16647589244052805325:=()
def tw7317428676562142509:=()
def tw859889303317754839:=()
def tw25009309287958925:=()
def tw6850199303757372182:=()
def tw10579489681124327483:=()
def tw12664453199065650946:=()
def tw13294238392961803404:=()
def tw811678647636110647:=()
def tw179894213824536732:=()
def tw7770201035006143973:=()
def tw1174554117908279203:=()
def tw9992047363961714554:=()
def tw1207393078032520555:=()
def tw4795984175188865578:=()
def tw6261456922136333078:=()
def tw3325103258102495699:=()
def tw6439349587736943461:=()
def tw9089900727634613247:=()
def tw12438987531616799364:=()
def tw11027985663913778290:=()
def tw2045110728890137694:=()
def tw5094543999341035867:=()
def tw7401045580541650458:=()
def tw8122874255792088906:=()
def tw12638920984515530087:=()
def tw12427156442424651275:=()
def tw10741189680433896329:=()
def tw9754127373187472577:=()
def tw8776020547233824600:=()
def tw8006683699733055020:=()
def tw10740249014776862466:=()
def tw5155330561592783787:=()
def tw5095693288819629959:=()
def tw2746978152786090454:=()
def tw2381737014138386500:=()
def tw3890054797241128211:=()
def tw10033274693561735419:=()
def tw304083927405714040:=()
def tw5776870798095558922:=()
def tw12327048101096717828:=()
def tw11962360051810133856:=()
def tw5722329708379742018:=()
def tw4870496300750760135:=()
def tw7875091199987258756:=()
def tw5306029122802956169:=()
def tw17595482838708314943:=()
def tw15442855409948416054:=()
def tw1884055237356762201:=()
def tw5055653529935363277:=()
def tw7011813374987172054:=()
def tw7167874169936137625:=()
def tw7451198312868942615:=()
def tw17068795838391266810:=()
def tw5066494628721890450:=()
def tw11439375019614927414:=()
def tw17691741734181065006:=()
def tw14716945673389331664:=()
def tw12269672156374139838:=()
def tw7867221845890033286:=()
def tw3350364212569306728:=()
end PySem.W.Fast
set_option maxRecDepth 100000 in
set_option maxHeartbeats 0 in
theorem PySem.Challenge.cw_oneofall_k94_whole_what_is_made_is_playe_holds : PySem.Challenge.rw_oneofall_k94_whole_what_is_made_is_playe.Holds := by
 w_on;o_law;k_head;(case hw=>w_witness2)
 k_fill
 refine M.holds_ofT Law.tabs (F:=Law.zmk) (k:=142) (x:="_law_script") rfl rfl ⟨rfl,by decide,by decide⟩ (by decide) (fun w h Y=>⟨PySem.W.km_in_of Y,fun P hP=>PySem.W.km_tabs_of Y P ((show ∀Q∈Law.tabs.map (·.2),Q∈([75,124,258]:List Addr) from by decide) P hP)⟩) ?F Law.law_true
 case F =>
  intro w mg fa h KX G hmg
  refine' Law.all_mk KX G hmg ?_ ?_ ?_ ?_ ?_ ?_ ?_ ?_ ?_ ?_ ?_ ?_ ?_ ?_ ?_ ?_ ?_ ?_ ?_ ?_ ?_ ?_ ?_ ?_ ?_ ?_ ?_ ?_ ?_ ?_ ?_ ?_ ?_ ?_ ?_ ?_ ?_ ?_ ?_ ?_ ?_ ?_ ?_ ?_ ?_ ?_ ?_ ?_ ?_ ?_ ?_ ?_ ?_ ?_ ?_ ?_ ?_ ?_ ?_ ?_ ?_ ?_ ?_ ?_ ?_ ?_ ?_ ?_ ?_ ?_ ?_ ?_ ?_ ?_ ?U ?Z ?N0 ?N1
  (case U=>(repeat refine' M.Us.cons (by k_is) (L2.fun_mk (by k_is) (by k_is) (by k_is)) (by intro _ _ _ _ _ _ us hl;first | (cases List.eq_nil_of_length_eq_zero hl;rfl) | (obtain⟨_,rfl⟩:=Law.us1 hl;rfl) | (obtain⟨_,_,rfl⟩:=Law.us2 hl;rfl) | (obtain⟨_,_,_,rfl⟩:=Law.us3 hl;rfl) | (obtain⟨_,_,_,_,rfl⟩:=Law.us4 hl;rfl) | (obtain⟨_,_,_,_,_,rfl⟩:=Law.us5 hl;rfl)) ?_);exact M.Us.nil)
  (case Z=>(repeat refine' M.Zs.cons (by k_is) ?_);exact M.Zs.nil)
  all_goals try first | k_is | kernel_rfl | (refine' L2.fun_mk ?l ?c ?k;(case l=>k_is);(case c=>k_is);(case k=>k_is))
  (case N0=>(repeat refine' M.As.cons (by k_is) ?_);exact M.As.nil)
  (case N1=>(repeat refine' M.As.cons (by k_is) ?_);exact M.As.nil)
