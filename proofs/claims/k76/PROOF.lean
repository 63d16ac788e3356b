import PyProof.Rows.All
import Wide.All
import OpenK.AllK
import Wide.FinOn
import Lean
import PyProof.EqAt
import PyProof.EqKinds
import PyProof.TupleCall
import PyProof.DictWalks
import KE.KEqDict
import KE.KIntText
import PyProof.CallStr
import PyProof.DictTruth
import KE.KTupSum
import KE.KRevIter
import PyProof.EnumMake
import PyProof.Rows.Range3
import PyProof.StrLawsFirst
import KE.KFind
import PySem.Challenge.RW_oneofall_k76_no_image_between
set_option Elab.async false
set_option linter.all false
set_option maxRecDepth 100000
set_option hygiene false
local macro_rules|`(#[2,$y,$z])=>`(aF aX (vr $y) (ct (.int $z)))|`(0x0)=>`((by omega))|`(#[3,$y,$z])=>`(aj (vr $y) (aj $z au))|`(0x3)=>`(.loc st.length)|`(#[0,$y])=>`(aO rfl rfl $y)|`(#[5,$y,$z])=>`(aj $y (aj $z au))|`(#[8,$y,$z])=>`(aF $y $z (ct (.int 1)))|`(0x7)=>`(model X.prog X.w)|`(0x1)=>`((by simp))|`(0x4)=>`((by trivial))
local macro_rules|`(0x8)=>`((by decide +kernel))|`(#[1,$y])=>`(ct (.str $y))|`(#[14,$y])=>`(PySem.W.fnOf x qual (bZ st) (bh st) (aD st) $y kV doc pm an cdv ct)|`(#[10,$y,$z])=>`(backTo $y (starEach $z X.env))|`(#[15,$y])=>`(.cons ⟨_,rfl⟩ (.cons ⟨_,rfl⟩ $y))|`(0x5)=>`((by decide))|`(#[7,$y,$z])=>`(az $y [] (aj $z au))|`(0xe)=>`(es.take (es.length / 2))|`(0xc)=>`((x==("__debug__":Str)))|`(0x2)=>`(.jn l r)
local macro_rules|`(0x6)=>`((Addr×Obj))|`(0xb)=>`((false,eval e X.env))|`(#[16,$y])=>`(ao.c (aq.ks rfl) (ao.c (aq.ks rfl) $y))|`(0x9)=>`((by simp;omega))|`(#[12,$y])=>`(d7 (aF bN (vr $y) (ct .non)))|`(0x14)=>`(.ListComp elt [⟨tg,iter,ifs,0⟩] scope pos)|`(#[4,$y])=>`(ct (.int $y))|`(0xd)=>`((λcl C fp s H=>0x4))|`(0x1a)=>`((((dh items.size 0 lo:Nat):Int)==0 && (1:Int)==1 && (dh items.size items.size hi - dh items.size 0 lo)==items.size))|`(#[13,$y,$z])=>`(dO (cI "list" aW (vr $y) (aj $z au)))
local macro_rules|`(0xf)=>`(cZ X N scope cl C fp s H)|`(0x13)=>`((.Call (.Name x p) (e::es) [] pos))|`(0x10)=>`(es.drop (es.length / 2))|`(#[11,$y])=>`(aY rfl (aY $y rfl))|`(#[6,$y])=>`(aj (vr $y) au)|`(0x16)=>`(E (some (.int k)) (some (enc (iu B B.ss[k]))))|`(0x17)=>`((cO (ha pos pins s σ H _ I h) λus s1 zz=>?_))|`(0xa)=>`(model prog w)|`(0x18)=>`(s5.set (st.length+1) (.dic (yf (rs++[r]))))|`(0x15)=>`((([110],num)::ls.map λc=>(dn c,fG c)))
local macro_rules|`(0x11)=>`((by simpa only[j5] using e))|`(0x19)=>`((st++[.lst (aG ts)]++[.lst (aG (ts.map λt=>6+cg t 2))]))|`(0x12)=>`(cF "Book" "letters" (vr 0))|`(#[17,$y])=>`(Vc $y (rQ (zgu T) hr (Ak (T4 (N:=["book","sign"]) (capt:=[some 0,none]) (sc0:=aD (top 75)) 0x4 ⟨rfl,by decide +kernel,by decide +kernel⟩ 0x8 ⟨⟨rfl,by first | exact Or.inl rfl | exact Or.inr rfl,rfl⟩,trivial⟩ rfl 0xd (λcl C fp s H=>Ho) 0xd) Rh)) nd)|`(#[9,$y])=>`(some (.ref $y))
set_option hygiene false
local macro_rules|`(tactic|exists $a,$b:ident)=>`(tactic|generalize $a=$b at *)|`(tactic|exists $a,$b:ident,$c,$d:ident)=>`(tactic|(exists $a,$b;exists $c,$d))|`(tactic|exists $a,$b:ident,$c,$d:ident,$e,$f:ident)=>`(tactic|(exists $a,$b;exists $c,$d;exists $e,$f))
local macro_rules|`(tactic|show 1)=>`(tactic|(obtain⟨μ,env,st,hE,hs,hp⟩:=zz))|`(tactic|show 2)=>`(tactic|(intro X hP hw hK hc i pins s σ H E I hf st hg;subst hP hw hK))|`(tactic|show 3)=>`(tactic|(refine⟨μ,env,st,hE,hs,(bR.bind hp).imp ?_⟩))|`(tactic|show 4)=>`(tactic|(rintro x H1 ⟨μ1,st1,d,g1,bG,hx,aR⟩))|`(tactic|show 5)=>`(tactic|(refine⟨μ,env,st,hE,hs,hp.bind.imp ?_⟩))|`(tactic|show 6)=>`(tactic|(obtain⟨f0,f1,f2,f3,f4,f5⟩:=hf it 0x1))|`(tactic|show 7)=>`(tactic|(rw[q1]at r1;cases r1))|`(tactic|show 8)=>`(tactic|(intro pins s σ H Q I h))|`(tactic|show 9)=>`(tactic|(have I1:Inv X pins σ H { s with heap:=h' }:=I.turned (t':=s.toks) (λb o hb e=>(sb.2 b hb).trans e) f0 f1 f3 f4 f5))|`(tactic|show 10)=>`(tactic|(intro pins s σ H x y v u Q I rx ry h))
local macro_rules|`(tactic|show 11)=>`(tactic|(obtain⟨x,H1,I1,r1,q1⟩:=zz))|`(tactic|show 12)=>`(tactic|(obtain⟨b,ys,rfl,q1,q2⟩:=aq.aQ.mp h2;cases (show w=Value.ref b from r2);obtain⟨its,_,p,_⟩:=I.tuple (q1.rF)))|`(tactic|show 13)=>`(tactic|(obtain⟨v,rfl,q⟩:=ao.one hv;obtain⟨p,q1,rfl⟩:=aq.aL.mp q))|`(tactic|show 14)=>`(tactic|(intro pins s σ H R I h;refine Call_ (Oi I hg hm zoi (afg 0x17 hs rfl));obtain⟨vs,H1,I1,r1,q1⟩:=zz))|`(tactic|show 15)=>`(tactic|(subst e;obtain⟨o,e,c,d⟩:=st;exact⟨o,e,λv z=>by rw[d]at z;cases z⟩))|`(tactic|show 16)=>`(tactic|(show 1;show 3;rintro vs H1 ⟨μ1,st1,ds,g1,bG,hv,aR⟩;dsimp only at aR))|`(tactic|show 17)=>`(tactic|(obtain⟨o,ho,hc,hd⟩:=id hit;unfold pyNext;refine ae6 (wpAny_attempt (afq (name:=Str.ofString "__next__") hit.typeIs slot_next (afF slot_next hit.typeIs entry_next ?_ (args_next _))));unfold Builtin.«reversed.__next__»;refine ae6 (afp (a:=(Value.ref it,[])) rfl ?_)))|`(tactic|show 18)=>`(tactic|(replace q3:=q3.made e2;obtain rfl:=q4.keys e2;obtain⟨p',ws,r1,r2,r3⟩:=hs.dic e1;show 7))|`(tactic|show 19)=>`(tactic|(obtain⟨p,q1,rfl⟩:=aq.aL.mp hx))|`(tactic|show 20)=>`(tactic|(rintro x xs H Q ⟨μ,st,d,ds,hs,hx,j4,hp⟩))
local macro_rules|`(tactic|show 21)=>`(tactic|(exists enc t,X;exists enc r',Y;generalize ((cntK t:Nat):Int)=kk at *;simp only[show ((0:Nat):Int)=0 from rfl]at e))|`(tactic|show 22)=>`(tactic|(subst h2;obtain⟨t,rfl⟩:=r2))|`(tactic|show 23)=>`(tactic|(cases (show u=Value.ref b from ry);obtain⟨z,hd,xs,rel,dd⟩:=xF I.bQ e))|`(tactic|show 24)=>`(tactic|(exact I1.vN (gb _) (I1.bQ.fresh (gb _))))|`(tactic|show 25)=>`(tactic|(cases (show u=Value.ref a from rx)))|`(tactic|show 26)=>`(tactic|(rintro x y H Q ⟨μ,st,dx,dy,hs,hx,hy,hp⟩))|`(tactic|show 27)=>`(tactic|(show wpAny _ _ (Builtin.Tuple.tupleItemsOf (.ref t) >>= _) _ _ s;refine ae6 (tupleItemsOf_ ht ?_);refine ae6 (wpAny_typeOf hTs ?_);rw[ae7 0x5];refine ae6 (zen hs pl pu ?_)))|`(tactic|show 28)=>`(tactic|(obtain⟨t,rfl⟩:=rx))|`(tactic|show 29)=>`(tactic|(obtain⟨xs,o⟩:=y;rw[e]at aR;obtain⟨k1,k2,k3⟩:=zmc e;obtain⟨v,rfl,q1⟩:=ao.one hv;obtain⟨q,q2,rfl⟩:=aq.aL.mp q1;obtain⟨q',zs,r1,r2,r3⟩:=bG.items k1;rw[q2]at r1))|`(tactic|show 30)=>`(tactic|(refine⟨μ,env,st,hE,hs,hp.val.imp ?_⟩))

abbrev gb:=@Nat.le_refl
abbrev gf:=@List.getElem?_eq_some_iff
abbrev gh:=@List.mem_map
abbrev gj:=@List.length_map
abbrev gm:=@List.mem_cons
abbrev gq:=@List.map_cons
abbrev gr:=@PySem.Heap.lt_size
abbrev gw:=@List.append_nil
abbrev gC:=@List.length_cons
abbrev gF:=@PySem.Heap.get?_push_of_some
abbrev gG:=@List.size_toArray
abbrev gJ:=@List.map_map
abbrev gK:=@List.getElem?_eq_getElem
abbrev gM:=@Bool.and_eq_true
abbrev gO:=@List.getElem?_map
abbrev gP:=@List.getElem?_append_left
abbrev gQ:=@List.length_append
abbrev gR:=@Nat.lt_of_lt_of_le
abbrev gU:=@List.getElem?_set_ne
abbrev gW:=@List.append_assoc
abbrev gY:=@Nat.ne_of_lt
abbrev gZ:=@List.mem_of_getElem?
abbrev g_:=@PySem.Heap.get?_push_size
abbrev h_:=@List.mem_singleton
abbrev kh:=@Nat.le_trans
abbrev kj:=@List.getElem?_append_right
abbrev km:=@List.not_mem_nil
abbrev kE:=@List.lookup_cons
abbrev kI:=@List.map_congr_left
abbrev kJ:=@List.length_take
abbrev kO:=@List.take_add_one
abbrev kW:=@List.mem_cons_of_mem
abbrev k_:=@List.getElem?_set_self
abbrev mq:=@List.length_eq_one_iff
abbrev my:=@List.take_length
abbrev mz:=@List.mem_append
abbrev m7:=@List.find?_cons
abbrev m8:=@List.nil_append
abbrev mC:=@List.map_nil
abbrev mD:=@Bool.eq_iff_iff
abbrev mF:=@List.mem_append_right
abbrev mH:=@List.nodup_cons
abbrev mJ:=@Nat.lt_irrefl
abbrev mK:=@Nat.ne_of_gt
abbrev mL:=@Nat.zero_le
abbrev mO:=@List.length_drop
abbrev mQ:=@List.drop_eq_getElem_cons
abbrev mR:=@List.any_cons
abbrev mU:=@List.map_append
abbrev mV:=@List.reverse_cons
abbrev mW:=@Option.bind_some
abbrev mX:=@List.getElem?_cons_succ
abbrev mY:=@List.length_nil
abbrev mZ:=@Nat.zero_add
abbrev m_:=@List.mem_of_mem_take
abbrev nj:=@List.mem_of_mem_drop
abbrev nq:=@Nat.add_zero
abbrev nu:=@List.length_singleton
abbrev nA:=@Option.map_eq_some_iff
abbrev nF:=@List.drop_eq_nil_of_le
abbrev nG:=@List.mem_iff_getElem
abbrev nH:=@List.cons_append
abbrev nJ:=@List.of_mem_zip
abbrev nM:=@List.length_set
abbrev nQ:=@List.getElem?_inj
abbrev nU:=@Bool.not_eq_true'
abbrev nW:=@Array.length_toList
abbrev nY:=@Nat.lt_succ_self
abbrev nZ:=@List.length_eq_zero_iff
abbrev n_:=@List.getElem?_cons_zero
abbrev ph:=@List.nodup_append
abbrev pq:=@List.map_reverse
abbrev p6:=@Bool.or_eq_true
abbrev p7:=@List.sum_cons
abbrev p8:=@Nat.pow_succ
abbrev pA:=@List.mem_of_find?_eq_some
abbrev pB:=@List.set_append
abbrev pC:=@List.any_eq_true
abbrev pD:=@List.getElem_mem
abbrev pF:=@List.filterMap_cons
abbrev pG:=@List.mem_cons_self
abbrev pH:=@Int.toNat_natCast
abbrev pI:=@PySem.Heap.get?_update_self
abbrev pJ:=@List.length_reverse
abbrev pK:=@List.getElem?_reverse
abbrev pL:=@Nat.add_right_comm
abbrev pM:=@List.getElem_take
abbrev pN:=@Int.emod_nonneg
abbrev pO:=@List.mem_append_left
abbrev pP:=@Bool.false_ne_true
abbrev pQ:=@List.mem_filterMap
abbrev pR:=@List.getElem?_take
abbrev pU:=@Bool.and_eq_false_iff
abbrev pW:=@Array.getElem?_eq_getElem
abbrev pX:=@List.take_of_length_le
abbrev pZ:=@List.getElem?_zip_eq_some
abbrev p_:=@List.contains_iff_mem
abbrev qb:=@List.findIdx?_eq_some_iff_getElem
abbrev qd:=@List.dropLast_concat_getLast
abbrev qe:=@List.getD_eq_getElem?_getD
abbrev qg:=@Int.emod_lt_of_pos
abbrev ae6:=@PySem.wpAny_bind
abbrev ae7:=@if_pos
abbrev ae8:=@if_neg
abbrev ae9:=@PySem.wpAny_pure
abbrev ae_:=@decide_eq_false
abbrev afa:=@Option.some.inj
abbrev afb:=@decide_eq_true
abbrev afc:=@PySem.W.mg_of
abbrev afd:=@PySem.mem_of_lookup
abbrev afe:=@PySem.W.kia_one
abbrev afg:=@PyProof.Rows.callWith_type1
abbrev afh:=@of_decide_eq_true
abbrev afi:=@Ne.symm
abbrev afj:=@PySem.F.slot_dict_get
abbrev afk:=@PySem.wpAny_mono
abbrev afl:=@PySem.wpAny_Call_Name_kw
abbrev afm:=@decide_eq_true_eq
abbrev afn:=@PyProof.Rows.slot_tuple_getitem
abbrev afo:=@PySem.wpAny_newObj_type
abbrev afp:=@PySem.wpAny_of_eq
abbrev afq:=@PySem.wpAny_callSpecial?_slot
abbrev afr:=@PySem.Paired.length
abbrev afs:=@PySem.tupleKind_room_in1
abbrev aft:=@PySem.wpAny_passesOwn
abbrev afu:=@PySem.builtinLookup_eq_fast
abbrev afv:=@or_false
abbrev afw:=@Sum.inr.inj
abbrev afx:=@PySem.W.callWith_K
abbrev afy:=@PySem.F.plainAttrs_list
abbrev afz:=@PySem.F.plainAttrs_dict
abbrev afA:=@PySem.F.plainAttrs_str
abbrev afB:=@PySem.F.entry_dict_get
abbrev afC:=@PySem.wpAny_holding
abbrev afD:=@PySem.wpAny_truthy_bool
abbrev afE:=@PySem.wpAny_field
abbrev afF:=@PySem.wpAny_call_entry
abbrev afG:=@Classical.byContradiction
abbrev afH:=@PySem.typeIs_str
abbrev afI:=@PySem.wpAny_specialOf
abbrev afJ:=@PySem.typeLookup_type
abbrev afK:=@PySem.sizeLine_eq
abbrev afL:=@PySem.F.args_tuple_add_2
abbrev afM:=@PySem.Heap.SameBut.update
abbrev afN:=@PySem.F.entry_tuple_add
abbrev afO:=@PySem.codeAny_mono
abbrev afP:=@PySem.call_meetsIn
abbrev afQ:=@PySem.isSubtype_type
abbrev afR:=@PySem.F.slot_tuple_add
namespace L2
open PySem PySem.Spec PyProof.Rows
noncomputable abbrev Key:=Sum Int Str
noncomputable def vG:Key->Value->Bool
 | .inl k,v=>Value.isInt k v
 | .inr x,v=>Value.isStrOf x v
noncomputable def abn(w:World):Key->Int
 | .inl k=>hashInt k
 | .inr x=>hashStr w x
theorem Nx:∀{k:Key} {v:Value},vG k v=true->(∃i t,k=Sum.inl i/\v=Value.int i t)\/(∃x t,k=Sum.inr x/\v=Value.str x t)
 | .inl i,v,h=>by
  obtain⟨t,e⟩:=Value.isInt_shape (k:=i) (v:=v) h;exact .inl ⟨i,t,rfl,e⟩
 | .inr x,v,h=>by
  obtain⟨t,e⟩:=Value.isStrOf_shape (x:=x) (v:=v) h;exact .inr ⟨x,t,rfl,e⟩
def Fi(i:Int)(t:Tok):vG (.inl i) (.int i t)=true:=by simp[vG,Value.isInt]
def Fg(x:Str)(t:Tok):vG (.inr x) (.str x t)=true:=by simp[vG,Value.isStrOf]
def Xk(a b:Int):decide ((Sum.inl a:Key)=Sum.inl b)=(a==b):=by
 by_cases e:a=b
 ·subst e;simp
 ·have h:¬ (Sum.inl a:Key)=Sum.inl b:=λq=>e (Sum.inl.inj q);rw[ae_ h];exact (beq_eq_false_iff_ne.mpr e).symm
def Xh(a b:Str):decide ((Sum.inr a:Key)=Sum.inr b)=decide (a=b):=by
 by_cases e:a=b
 ·subst e;simp
 ·have h:¬ (Sum.inr a:Key)=Sum.inr b:=λq=>e (afw q);rw[ae_ h,ae_ e]
def Xj(a:Int)(b:Str):decide ((Sum.inl a:Key)=Sum.inr b)=false:=ae_ (λq=>nomatch q)
def Xi(a:Str)(b:Int):decide ((Sum.inr a:Key)=Sum.inl b)=false:=ae_ (λq=>nomatch q)
noncomputable def bK(prog:Program)(w:World):PySem.KeyKind prog w Key where
 is:=vG
 hash:=abn w
 inj:=λv a b ha hb=>by
  rcases Nx ha with⟨i,t,rfl,rfl⟩ | ⟨x,t,rfl,rfl⟩
  ·rcases Nx hb with⟨j,u,rfl,e⟩ | ⟨y,u,rfl,e⟩
   ·injection e with e1 _;rw[e1]
   ·exact nomatch e
  ·rcases Nx hb with⟨j,u,rfl,e⟩ | ⟨y,u,rfl,e⟩
   ·exact nomatch e
   ·injection e with e1 _;rw[e1]
 byValue:=λk v h=>by
  rcases Nx h with⟨i,t,rfl,rfl⟩ | ⟨x,t,rfl,rfl⟩<;>rfl
 pyHash:=λhv h=>by
  rcases Nx hv with⟨i,t,rfl,rfl⟩ | ⟨x,t,rfl,rfl⟩
  ·exact wpAny_pyHash_int h
  ·exact wpAny_pyHash_str h
 eqBool:=λhu hv h=>by
  rcases Nx hu with⟨i,t,rfl,rfl⟩ | ⟨x,t,rfl,rfl⟩
  ·rcases Nx hv with⟨j,u,rfl,rfl⟩ | ⟨y,u,rfl,rfl⟩
   ·rw[Xk]at h;exact wpAny_eqBool_int h
   ·rw[Xj]at h;exact SeqAt.EqAt.int_str i t y u _ _ _ _ h
  ·rcases Nx hv with⟨j,u,rfl,rfl⟩ | ⟨y,u,rfl,rfl⟩
   ·rw[Xi]at h;exact SeqAt.EqAt.str_int x t j u _ _ _ _ h
   ·rw[Xh]at h;exact wpAny_eqBool_str h
 «strs»:=λk x t v h=>by
  rcases Nx h with⟨i,u,rfl,e⟩ | ⟨y,u,rfl,e⟩
  ·exact nomatch e
  ·injection e with e1 _;subst e1;cases v<;>rfl
def zth(prog:Program)(w:World)(k:Key)(v:Value):(bK prog w).is k v=vG k v:=rfl
def zql(prog:Program)(w:World)(i:Int)(t:Tok):(bK prog w).is (.inl i) (.int i t)=true:=Fi i t
def zqx(prog:Program)(w:World)(x:Str)(t:Tok):(bK prog w).is (.inr x) (.str x t)=true:=Fg x t
inductive V where
 | non | bl (b:Bool) | int (i:Int) | str (x:Str) | byt (b:Array UInt8) | flt (b:UInt64) | ref (a:Addr) | ty (n:String)
 deriving DecidableEq
def RelV:V->Value->Prop
 | .non,u=>u=Value.none
 | .bl b,u=>u=Value.bool b
 | .int i,u=>∃t,u=Value.int i t
 | .str x,u=>∃t,u=Value.str x t
 | .byt b,u=>∃t,u=Value.bytes b t
 | .flt b,u=>∃t,u=Value.float b t
 | .ref a,u=>u=Value.ref a
 | .ty n,u=>u=Value.type n
abbrev Vals:List V->List Value->Prop:=Paired RelV
def Vals.length{xs:List V}{us:List Value}(r:Vals xs us):xs.length=us.length:=afr r
theorem Vals.get:∀{xs:List V} {us:List Value} {i:Nat} {x:V},Vals xs us->xs[i]? = some x->∃u,us[i]? = some u/\RelV x u
 | _,_,_,_,.nil,e=>by simp at e
 | _,_,0,_,.cons r _,e=>by simp at e;subst e;exact⟨_,rfl,r⟩
 | _,_,i+1,x,.cons _ t,e=>by
  obtain⟨u,h1,h2⟩:=Vals.get (i:=i) (x:=x) t (by simpa using e);exact⟨u,by simpa using h1,h2⟩
theorem Vals.set{x:V}{u:Value}(r:RelV x u):∀{xs:List V} {us:List Value} (i:Nat),Vals xs us->Vals (xs.set i x) (us.set i u)
 | _,_,_,.nil=>.nil
 | _,_,0,.cons _ t=>.cons r t
 | _,_,i+1,.cons q t=>.cons q (Vals.set r i t)
theorem Vals.append:∀{xs ys:List V} {us ws:List Value},Vals xs us->Vals ys ws->Vals (xs++ys) (us++ws)
 | _,_,_,_,.nil,s=>s
 | _,_,_,_,.cons r t,s=>.cons r (Vals.append t s)
theorem Vals.take:∀{xs:List V} {us:List Value} (n:Nat),Vals xs us->Vals (xs.take n) (us.take n)
 | _,_,0,_=>.nil
 | _,_,_+1,.nil=>.nil
 | _,_,n+1,.cons r t=>.cons r (Vals.take n t)
theorem Vals.drop:∀{xs:List V} {us:List Value} (n:Nat),Vals xs us->Vals (xs.drop n) (us.drop n)
 | _,_,0,r=>r
 | _,_,_+1,.nil=>.nil
 | _,_,n+1,.cons _ t=>Vals.drop n t
def lu:Option V->Option Value->Prop
 | some v,some u=>RelV v u
 | none,none=>True
 | _,_=>False
def KV{κ:Type}:List (κ×V)->List (κ×Value)->Prop:=Paired λ(p:κ×V) (q:κ×Value)=>p.1=q.1/\RelV p.2 q.2
noncomputable def kV:Key->V
 | .inl i=>.int i
 | .inr x=>.str x
inductive HO where
 
 | lst (xs:List V)
 
 | tup (xs:List V)
 
 | dK (kvs:List (Key×V)) | dT (kvs:List (List Key×V))
 
 | set (S:Int->Bool) (n:Nat)
 
 | ins (C dx:Addr) (fs:List (Str×V))
 
 | own (x:Addr)
 
 | xd (fs:List (Str×V))
 
 | met (f x:Addr)
 
 | rng (lo hi:Int)
 
 | frz (o:Obj) (u:HO)
 
 | tbl (ps:Array Value)
 
 | ext (φ:Heap->Prop)
noncomputable abbrev Hp:=Addr->Option HO
noncomputable def upd(H:Hp)(a:Addr)(o:HO):Hp:=λb=>if b=a then some o else H b
def qT:upd H a o a=some o:=by unfold upd;rw[ae7 rfl]
def iK(h:b≠a):upd H a o b=H b:=by unfold upd;rw[ae8 h]
def vy{H:Hp}{a b:Addr}{o u:HO}(h:H a=some o)(h':H b=some u)(d:o≠u):a≠b:=by
 intro e;subst e;rw[h]at h';exact d (afa h')
def z7{H:Hp}{a b:Addr}{o:HO}(h:H a=some o)(h':H b=none):a≠b:=by
 intro e;subst e;rw[h]at h';cases h'
section
variable  (P:Program)(w:World)
def cA(H:Hp)(h:Heap)(a:Addr):HO->Prop
 | .lst xs=>xs.length<=sizeLine/\∃(its:List Value) (n:Nat),Vals xs its/\h.get? a=some { cls:=.type "list",data:=.seq its.toArray n }
 | .tup xs=>xs.length<=sizeLine/\∃its:List Value,Vals xs its/\IsTup h a its.toArray
 | .dK kvs=>kvs.length<=sizeLine/\(a==sysModules)=false/\∃vs,KV kvs vs/\h.DictOf (bK P w) a vs
 | .dT kvs=>kvs.length<=sizeLine/\(a==sysModules)=false/\∃xs:List (List Key×Addr×Value),
   Paired (λ(p:List Key×V) (q:List Key×Addr×Value)=>p.1=q.1/\H q.2.1=some (.tup (p.1.map kV))/\RelV p.2 q.2.2) kvs xs /\
   ∃o es ep,h.get? a=some o/\o.ExactDict/\o.data=.dict es ep/\es.toList=xs.map (entryOfKey (tupleKind (bK P w)))/\(xs.map (·.1)).Nodup
 | .set S n=>h.SetOf (intKind P w) a S n
 | .ins C dx fs=>H dx=some (.own a)/\fs.length<=1000/\dx≠a/\h.get? a=some (PySem.W.instObj C dx) /\
   ∃mA,h.Ns1 dx mA/\(∀f,lu (fs.lookup f) (mA f))/\PySem.Within mA (fs.map (·.1))
 | .own _=>∃o,h.get? a=some o
 | .xd fs=>∃mA,h.Ns1 a mA/\∀f,lu (fs.lookup f) (mA f)
 | .rng lo hi=>∃t u v,h.get? a=some { cls:=.type "range",data:=.fields #[.int lo t,.int hi u,.int 1 v] }
 | .frz o u=>h.get? a=some o/\cA H h a u
 | .tbl ps=>h.get? a=some { cls:=.none,data:=.fields ps }
 | .met f x=>h.get? a=some (PySem.W.methodObj (.ref f) (.ref x))
 | .ext φ=>φ h/\(∃o,h.get? a=some o)/\∀h1 h2:Heap,φ h1->(∀o,h1.get? a=some o->h2.get? a=some o)->φ h2
def lz(H:Hp)(h:Heap):Prop:=∀a o,H a=some o->cA P w H h a o
end
section
variable  {P:Program}{w:World}{H H':Hp}{h h':Heap}{a:Addr}{o:HO}
def cA.lt(x:cA P w H h a o):a<h.objs.size:=by
 cases o with
 | lst xs=>obtain⟨_,_,_,_,e⟩:=x;exact gr e
 | tup xs=>obtain⟨_,_,_,p⟩:=x;exact p.lt
 | dK kvs=>obtain⟨_,_,_,_,o,_,_,e,_⟩:=x;exact gr e
 | dT kvs=>obtain⟨_,_,_,_,o,_,_,e,_⟩:=x;exact gr e
 | set S n=>obtain⟨o,_,_,_,e,_⟩:=x;exact gr e
 | ins C dx fs=>obtain⟨_,_,_,e,_⟩:=x;exact gr e
 | own y=>obtain⟨_,e⟩:=x;exact gr e
 | xd fs=>obtain⟨_,⟨_,_,_,e,_⟩,_⟩:=x;exact gr e
 | rng lo hi=>obtain⟨_,_,_,e⟩:=x;exact gr e
 | frz ob u=>obtain⟨e,_⟩:=x;exact gr e
 | tbl ps=>exact gr (show h.get? a=some _ from x)
 | met f y=>exact gr (show h.get? a=some _ from x)
 | ext φ=>obtain⟨_,⟨_,e⟩,_⟩:=x;exact gr e
theorem Paired.Xb:∀{aeZ:List α} {aeY:List β},Paired F aeZ aeY->(∀a b,F a b->G a b)->Paired G aeZ aeY
 | _,_,.nil,_=>.nil
 | _,_,.cons r t,f=>.cons (f _ _ r) (Paired.Xb t f)
def cA.uN(x:cA P w H h a o)(k:∀b u,(b=a\/H b=some (.own a))->h.get? b=some u->h'.get? b=some u)
  (ho:∀b,H b=some (.own a)->H' b=some (.own a)) (ht:∀b xs,H b=some (.tup xs)->H' b=some (.tup xs)):cA P w H' h' a o:=by
 induction o with
 | lst xs=>obtain⟨z,its,n,r,e⟩:=x;exact⟨z,its,n,r,k _ _ (.inl rfl) e⟩
 | tup xs=>obtain⟨z,its,r,ob,e,c⟩:=x;exact⟨z,its,r,ob,k _ _ (.inl rfl) e,c⟩
 | dK kvs=>obtain⟨z,y,vs,r,ob,es,ep,e,c⟩:=x;exact⟨z,y,vs,r,ob,es,ep,k _ _ (.inl rfl) e,c⟩
 | dT kvs =>
  obtain⟨z,y,xs,r,ob,es,ep,e,c⟩:=x;exact⟨z,y,xs,Paired.Xb r λp q z=>⟨z.1,ht _ _ z.2.1,z.2.2⟩,ob,es,ep,k _ _ (.inl rfl) e,c⟩
 | set S n=>obtain⟨ob,es,ep,t,e,c⟩:=x;exact⟨ob,es,ep,t,k _ _ (.inl rfl) e,c⟩
 | ins C dx fs =>
  obtain⟨d,z,ne,e,mA,⟨od,es,ep,e2,c⟩,r⟩:=x;exact⟨ho _ d,z,ne,k _ _ (.inl rfl) e,mA,⟨od,es,ep,k _ _ (.inr d) e2,c⟩,r⟩
 | own y=>obtain⟨ob,e⟩:=x;exact⟨ob,k _ _ (.inl rfl) e⟩
 | xd fs=>obtain⟨mA,⟨od,es,ep,e,c⟩,r⟩:=x;exact⟨mA,⟨od,es,ep,k _ _ (.inl rfl) e,c⟩,r⟩
 | rng lo hi=>obtain⟨t,u,v,e⟩:=x;exact⟨t,u,v,k _ _ (.inl rfl) e⟩
 | frz ob u ih=>obtain⟨e,q⟩:=x;exact⟨k _ _ (.inl rfl) e,ih q⟩
 | tbl ps =>
  have e:h.get? a=some { cls:=.none,data:=.fields ps }:=x;show h'.get? a=some { cls:=.none,data:=.fields ps };exact k a _ (.inl rfl) e
 | met f y =>
  have e:h.get? a=some (PySem.W.methodObj (.ref f) (.ref y)):=x;show h'.get? a=some (PySem.W.methodObj (.ref f) (.ref y));exact k a _ (.inl rfl) e
 | ext φ=>obtain⟨p,⟨o,e⟩,st⟩:=x;exact⟨st _ _ p λo q=>k _ _ (.inl rfl) q,⟨o,k _ _ (.inl rfl) e⟩,st⟩
def lz.lt(x:lz P w H h)(e:H a=some o):a<h.objs.size:=(x a o e).lt
def lz.fresh(x:lz P w H h)(e:h.objs.size<=a):H a=none:=by
 cases q:H a with
 | none=>rfl
 | some u=>exact absurd (gR (x.lt q) e) (mJ _)
def lz.kept(x:lz P w H h)(k:∀b u,h.get? b=some u->h'.get? b=some u):lz P w H h':=λa o e =>
 (x a o e).uN (λb u _ q=>k b u q) (λ_ q=>q) λ_ _ q=>q
def lz.laid(x:lz P w H h)(k:∀b u,h.get? b=some u->h'.get? b=some u)(hp:h.objs.size<=a)(new:cA P w (upd H a o) h' a o):lz P w (upd H a o) h':=λb u e=>by
 have hn:=x.fresh hp;by_cases hb:b=a
 ·subst hb;rw[qT]at e;cases e;exact new
 ·rw[iK hb]at e;exact (x b u e).uN (λc v _ q=>k c v q) (λc q=>by rw[iK (z7 q hn)];exact q) λc xs q=>by rw[iK (z7 q hn)];exact q
end
def Rd(H:Hp)(a:Addr)(u:HO):Prop:=H a=some u\/∃o,H a=some (.frz o u)
def Rd.ok(r:Rd H a u)(x:lz P w H h):cA P w H h a u:=by
 rcases r with r | ⟨o,r⟩
 ·exact x a u r
 ·obtain⟨_,q⟩:=x a _ r;exact q
def Mut:Option HO->Prop
 | some (.lst _)=>True
 | some (.dK _)=>True
 | some (.dT _)=>True
 | some (.set _ _)=>True
 | some (.ins _ _ _)=>True
 | some (.ext _)=>True
 | _=>False
section
variable  {P:Program}{w:World}{H:Hp}{h h':Heap}{x e:Addr}{o':HO}
def lz.write(ok:lz P w H h)(mu:Mut (H x))(he:e=x\/H e=some (.own x))(k:∀b u,b≠e->h.get? b=some u->h'.get? b=some u)(N8:∃u,h'.get? e=some u)
  (new:cA P w (upd H x o') h' x o'):lz P w (upd H x o') h':=λb u q=>by
 have JH:∀c y,H c=some (.own y)->c≠x:=λc y r z=>by subst z;rw[r]at mu;exact mu
 have adD:∀c xs,H c=some (.tup xs)->c≠x:=λc xs r z=>by subst z;rw[r]at mu;exact mu
 by_cases hb:b=x
 ·subst hb;rw[qT]at q;cases q;exact new
 ·rw[iK hb]at q;by_cases YG:b=e
  ·have q':H b=some (.own x):=by
    rcases he with z | z
    ·exact absurd (YG.trans z) hb
    ·rw[YG];exact z
   rw[q]at q';cases q';obtain⟨v,hv⟩:=N8;exact⟨v,by rw[YG];exact hv⟩
  ·refine (ok b u q).uN (λc v hc r=>k c v ?_ r) (λc r=>by rw[iK (JH c b r)];exact r) λc xs r=>by rw[iK (adD c xs r)];exact r
   rcases hc with rfl | hc
   ·exact YG
   ·rintro rfl;rcases he with z | z
    ·exact JH c b hc z
    ·rw[hc]at z;cases z;exact hb rfl
end
structure Un(fs ex:List Addr)(H H':Hp)(h h':Heap):Prop where
 keep:∀b o,h.get? b=some o->H b=none->b∉fs->b∉ex->h'.get? b=some o
 slot:∀b o,h.get? b=some o->H b=none->b∈fs->b∉ex->∃sl,h'.get? b=some { o with slots:=sl }
 free:∀b o,h.get? b=some o->H b=none->b∉ex->H' b=none
 there:∀b o,h.get? b=some o->b∉ex->∃o',h'.get? b=some o'
 u9:∀b xs,H b=some (.tup xs)->H' b=some (.tup xs)
 t7:∀b o u,H b=some (.frz o u)->H' b=some (.frz o u)
 uM:∀b ps,H b=some (.tbl ps)->∃more,H' b=some (.tbl (ps++more))
section
variable  {fs yH ex ex':List Addr}{H H1 H2:Hp}{h h1 h2 h':Heap}{a x e:Addr}{o:HO}
def Un.any(u:Un fs ex H H1 h h1){b:Addr}{ob:Obj}(q:h.get? b=some ob)(n:H b=none)(hx:b∉ex):∃sl,h1.get? b=some { ob with slots:=sl }:=by
 by_cases hb:b∈fs
 ·exact u.slot b ob q n hb hx
 ·exact⟨ob.slots,u.keep b ob q n hb hx⟩
def Un.kept(k:∀b u,h.get? b=some u->h'.get? b=some u):Un fs ex H H h h' :=
 ⟨λb ob q _ _ _=>k b ob q,λb ob q _ _ _=>⟨ob.slots,k b ob q⟩,λ_ _ _ n _=>n,λb ob q _=>⟨ob,k b ob q⟩,λ_ _ q=>q,λ_ _ _ q=>q,λ_ ps q=>⟨#[],by rw[q];simp⟩⟩
def Un.refl:Un fs ex H H h h:=Un.kept λ_ _ q=>q
def Un.laid(k:∀b u,h.get? b=some u->h'.get? b=some u)(hp:h.objs.size<=a)(hn:H a=none):Un fs ex H (upd H a o) h h' where
 keep:=λb u q _ _ _=>k b u q
 slot:=λb u q _ _ _=>⟨u.slots,k b u q⟩
 free:=λb u q n _=>by rw[iK (gY (gR (gr q) hp))];exact n
 there:=λb u q _=>⟨u,k b u q⟩
 u9:=λb xs q=>by rw[iK (z7 q hn)];exact q
 t7:=λb u xs q=>by rw[iK (z7 q hn)];exact q
 uM:=λb ps q=>⟨#[],by rw[iK (z7 q hn),q];simp⟩
def Un.write(mu:Mut (H x))(he:e=x\/H e=some (.own x))(k:∀b u,b≠e->h.get? b=some u->h'.get? b=some u)(N8:∃u,h'.get? e=some u):Un fs ex H (upd H x o) h h':=by
 have hx:∀b,H b=none->b≠x:=λb n z=>by subst z;rw[n]at mu;exact mu
 have hb:∀b,H b=none->b≠e:=λb n z=>by
  subst z;rcases he with r | r
  ·exact hx b n r
  ·rw[n]at r;cases r
 have hm:∀b u,H b=some u->¬ Mut (some u)->b≠x:=λb u q nm z=>by subst z;rw[q]at mu;exact nm mu
 refine⟨λb u q n _ _=>k b u (hb b n) q,λb u q n _ _=>⟨u.slots,k b u (hb b n) q⟩,λb u q n _=>by rw[iK (hx b n)];exact n,λb u q _=>?_,
  λb xs q=>by rw[iK (hm b _ q λz=>z)];exact q,λb u xs q=>by rw[iK (hm b _ q λz=>z)];exact q,λb ps q=>⟨#[],by rw[iK (hm b _ q λz=>z),q];simp⟩⟩
 by_cases YG:b=e
 ·subst YG;exact N8
 ·exact⟨u,k b u YG q⟩
end
noncomputable def trk(h:Heap)(H:Hp):List Addr:=(List.range h.objs.size).filter λa=>(H a).isSome
noncomputable def wX(h:Heap)(H:Hp):Heap:=PySem.W.hideAll h (trk h H)
def FP(h:Heap)(H:Hp):(wX h H).objs.size=h.objs.size:=PySem.W.hideAll_size _ _
def K9(e:h.get? b=some o)(n:H b=none):(wX h H).get? b=some o :=
 PySem.W.hideAll_get _ e λhm=>by
  have q:(H b).isSome=true:=(List.mem_filter.mp hm).2;rw[n]at q;simp at q
def QW(e:(wX h H).get? b=some o):h.get? b=some o/\H b=none:=by
 have e':h.get? b=some o:=PySem.W.of_hideAll (trk h H) e;refine⟨e',?_⟩;cases q:H b with
 | none=>rfl
 | some x =>
  have hm:b∈trk h H:=List.mem_filter.mpr ⟨List.mem_range.mpr (gr e'),by simp[q]⟩;have z:(wX h H).get? b=none:=PySem.W.hideAll_none (trk h H) hm;rw[z]at e;cases e
noncomputable def Tz(g h:Heap)(L:Addr):List 0x6:=(List.range h.objs.size).filterMap λa=>if a=L\/(g.get? a).isSome=true then none else (h.get? a).map λo=>(a,o)
noncomputable def rest(g h:Heap)(L d:Addr):List 0x6:=(Tz g h L).filter λp=>decide (p.1≠d)
structure Mod(K:PySem.W.Frag)(mg:Str->Option Value)(base:Heap):Prop where
 Xg:K.In base
 glob:base.Ns mainGlobals mg
 blt:∃mb,base.Ns builtinsNs mb/\∀x:Str,x ≠ "__name__"->mb x=bootBuiltins x
 nolimit:base.NoLimit
structure Cx where
 prog:Program
 w:World
 K:PySem.W.Frag
 mg:Str->Option Value
 base:Heap
 A:Around
 N:List Str
 aeX:Shared
 ae5:Hp
 env:Env
 outer:List Env
 stack:List Env
 ex:List Addr
 fn:Str->Bool
 calm:Bool
 pn:List 0x6
 xe:Value->Shared->Prop
noncomputable def CQ(l:List Env):List Addr:=l.filterMap (·.frame)
noncomputable abbrev Cx.fs(X:Cx):List Addr:=CQ X.outer
def Vis(sc:Scope)(x:Str):Prop:=sc.names.lookup x=some .local\/sc.names.lookup x=some .cell\/sc.names.lookup x=some .free
def Loc(sc:Scope)(x:Str):Prop:=sc.names.lookup x=some .local\/sc.names.lookup x=some .cell
def Look(env:Env)(h:Heap)(m:Str->Option Value)(x:Str)(u:Value):Prop :=
 (env.kindOf x=some .local/\m x=some u)\/((env.kindOf x=some .cell\/env.kindOf x=some .free)/\∃c,env.cells.lookup x=some c/\h.IsCell c (some u))
structure Cx.Ok(X:Cx):Prop where
 mod:Mod X.K X.mg X.base
 kind:X.env.scope.kind=.function
 glob:X.env.globals=mainGlobals
 blt:X.env.builtins=builtinsNs
 above:X.aeX.heap.objs.size<=X.env.locals
 inj:∀x y c,X.env.cells.lookup x=some c->X.env.cells.lookup y=some c->x=y
 has:∀x,(X.env.kindOf x=some .cell\/X.env.kindOf x=some .free)->∃c,X.env.cells.lookup x=some c
 U8:∀x c,X.fn x=true->X.env.cells.lookup x=some c->X.aeX.heap.objs.size<=c
 hd:X.calm=true->X.A.handled=none
 frames:X.A.frames=some X.stack
 stk:X.stack=X.outer\/(X.stack=X.env::X.outer/\X.env.frame=some X.env.locals)
 exf:∀b∈X.ex,b≠X.env.locals/\∀x c,X.env.cells.lookup x=some c->c≠b
 bs:∀b o,X.base.get? b=some o->X.aeX.heap.get? b=some o/\X.ae5 b=none
 Gz:X.base.objs.size<=X.aeX.heap.objs.size
 EY:∀b o,X.base.get? b=some o->b∉X.ex
 Ly:∀b∈X.ex,b∉X.fs
 oU:X.aeX.heap.FunFrames X.base X.outer
 Li:∀b∈X.fs,X.ae5 b=none
structure Inv(X:Cx)(pins:List 0x6)(σ:List (Option V))(H:Hp)(s:Shared):Prop where
 ok:X.Ok
 os:s.os=X.aeX.os
 bare:AllBare s.gens
 base:Un X.fs X.ex X.ae5 H X.aeX.heap s.heap
 loc:∃m,s.heap.Ns X.env.locals m/\∀(i:Nat) (x:Str) (v:V),X.N[i]? = some x->σ[i]? = some (some v)->Vis X.env.scope x->∃u,RelV v u/\Look X.env s.heap m x u
 cell:∀x c,X.env.cells.lookup x=some c->∃v,s.heap.IsCell c v
 free:H X.env.locals=none
 jL:∀x c,X.env.cells.lookup x=some c->H c=none
 pin:∀p∈X.pn++pins,s.heap.get? p.1=some p.2/\H p.1=none/\p.1≠X.env.locals/\p.1∉X.fs/\∀v,p.2.data≠.cell v
 bQ:lz X.prog X.w H s.heap
 len:σ.length=X.N.length
section
variable  {X:Cx}{pins:List 0x6}{σ:List (Option V)}{H H':Hp}{s:Shared}{h':Heap}
def Cx.Ok.adH(ok:X.Ok)(e:X.base.get? b=some o):b∉X.fs:=λhb=>by
 have:=(ok.oU.mem hb).1;rw[e]at this;cases this
def Inv.bs(I:Inv X pins σ H s):∀b o,X.base.get? b=some o->s.heap.get? b=some o/\H b=none:=λb o e =>
 ⟨I.base.keep b o (I.ok.bs b o e).1 (I.ok.bs b o e).2 (I.ok.adH e) (I.ok.EY b o e),I.base.free b o (I.ok.bs b o e).1 (I.ok.bs b o e).2 (I.ok.EY b o e)⟩
def Inv.bk(I:Inv X pins σ H s):∀b o,X.base.get? b=some o->s.heap.get? b=some o:=λb o e=>(I.bs b o e).1
def Inv.mod(I:Inv X pins σ H s):Mod X.K X.mg X.base:=I.ok.mod
def Inv.qR(I:Inv X pins σ H s):X.K.In s.heap:=I.ok.mod.Xg.keeps I.bk
def Inv.lt(I:Inv X pins σ H s):X.env.locals<s.heap.objs.size:=let ⟨_,hn,_⟩:=I.loc;hn.lt
def Inv.sz(I:Inv X pins σ H s):X.aeX.heap.objs.size<=s.heap.objs.size:=kh I.ok.above (Nat.le_of_lt I.lt)
def Inv.adG(I:Inv X pins σ H s)(h:s.heap.objs.size<=a):a∉X.fs:=λhb=>by
 obtain⟨_,o,ho,_⟩:=I.ok.oU.mem hb;exact absurd (gR (gr ho) (kh I.sz h)) (mJ _)
def Inv.U7(I:Inv X pins σ H s):∀x c,X.env.cells.lookup x=some c->c≠X.env.locals:=λx c e z=>by
 obtain⟨v,o,ho,hd⟩:=I.cell x c e;obtain⟨m,⟨o',es,ep,N5,zf,_⟩,_⟩:=I.loc;rw[z,N5]at ho;cases ho;rw[zf]at hd;cases hd
def Inv.oU(I:Inv X pins σ H s):s.heap.FunFrames X.base X.outer:=by
 have all:∀(l:List Env),(∀b∈CQ l,b∈X.fs)->X.aeX.heap.FunFrames X.base l->s.heap.FunFrames X.base l:=by
  intro l
  induction l with
  | nil=>intro _ _;trivial
  | cons env r ih =>
   intro hs hl;obtain⟨hk,⟨L,o,hf,hn,ho,hd⟩,hr⟩:=hl;have hL:L∈X.fs:=hs L (by unfold CQ;rw[pF,hf];exact pG);obtain⟨sl,e⟩:=I.base.slot L o ho (I.ok.Li L hL) hL λz=>I.ok.Ly L z hL;exact⟨hk,⟨L,_,hf,hn,e,hd⟩,ih (λb hb=>hs b (by unfold CQ;rw[pF,hf];exact kW _ hb)) hr⟩
 exact all X.outer (λ_ hb=>hb) I.ok.oU
def Inv.stack(I:Inv X pins σ H s):s.heap.FunFrames X.base X.stack:=by
 rcases I.ok.stk with e | ⟨e,hf⟩
 ·rw[e];exact I.oU
 ·rw[e];obtain⟨m,hn,_⟩:=I.loc;refine .cons (by rw[I.ok.kind];decide) hf hn ?_ I.oU;exact Heap.get?_none_of_le (kh I.ok.Gz I.ok.above)
def Inv.vh(I:Inv X pins σ H s):∀b∈CQ X.stack,b∈X.env.locals::X.fs:=λb hb=>by
 rcases I.ok.stk with e | ⟨e,hf⟩
 ·rw[e]at hb;exact kW _ hb
 ·rw[e]at hb;unfold CQ at hb;rw[pF,hf]at hb;exact hb
def Inv.Bp(I:Inv X pins σ H s):∀b∈CQ X.stack,H b=none:=λb hb=>by
 rcases gm.mp (I.vh b hb) with e | hb
 ·rw[e];exact I.free
 ·obtain⟨_,o,ho,_⟩:=I.ok.oU.mem hb;exact I.base.free b o ho (I.ok.Li b hb) λz=>I.ok.Ly b z hb
def Inv.step{g':Array GenState}{t':Nat}{d':Drawn}{ch:List Addr}(I:Inv X pins σ H s)
  (N_:∀b∈ch,(b∈X.ex\/X.aeX.heap.objs.size<=b)/\b≠X.env.locals/\(∀x c,X.env.cells.lookup x=some c->c≠b)/\∀p∈X.pn++pins,p.1≠b)
  (keep:∀b o,b≠X.env.locals->b∉X.fs->b∉ch->s.heap.get? b=some o->H b=none->h'.get? b=some o)
  (slot:∀b o,b≠X.env.locals->b∈X.fs->b∉ch->s.heap.get? b=some o->H b=none->∃sl,h'.get? b=some { o with slots:=sl }) (free:∀b o,b∉ch->s.heap.get? b=some o->H b=none->H' b=none)
  (there:∀b o,b∉ch->s.heap.get? b=some o->∃o',h'.get? b=some o')
  (u9:∀b xs,H b=some (.tup xs)->H' b=some (.tup xs)) (t7:∀b o u,H b=some (.frz o u)->H' b=some (.frz o u)) (uM:∀b ps,H b=some (.tbl ps)->∃more,H' b=some (.tbl (ps++more)))
  (ns:∀m,s.heap.Ns X.env.locals m->h'.Ns X.env.locals m) (bQ:lz X.prog X.w H' h') (hg:AllBare g') :
  Inv X pins σ H' { s with heap:=h',gens:=g',drawn:=d',toks:=t' }:=by
 have neL:∀b o,X.aeX.heap.get? b=some o->b≠X.env.locals:=λb o e=>gY (gR (gr e) I.ok.above);have NZ:∀b o,X.aeX.heap.get? b=some o->b∉X.ex->b∉ch:=λb o e hx hb=>by
  rcases (N_ b hb).1 with z | z
  ·exact hx z
  ·exact absurd (gR (gr e) z) (mJ _)
 have cellK:∀x c,X.env.cells.lookup x=some c->∀v,s.heap.IsCell c v->h'.IsCell c v:=λx c e v zz=>by
  obtain⟨o,ho,hd⟩:=zz;have JN:c∉ch:=λz=>(N_ c z).2.2.1 x c e rfl;by_cases hc:c∈X.fs
  ·obtain⟨sl,q⟩:=slot c o (I.U7 x c e) hc JN ho (I.jL x c e);exact⟨_,q,hd⟩
  ·exact⟨o,keep c o (I.U7 x c e) hc JN ho (I.jL x c e),hd⟩
 refine⟨I.ok,I.os,hg,⟨λb o e n hb hx=>?_,λb o e n hb hx=>?_,λb o e n hx=>?_,λb o e hx=>?_,λb xs e=>u9 b xs (I.base.u9 b xs e),λb o xs e=>t7 b o xs (I.base.t7 b o xs e),λb ps e=>?_⟩,?_,λx c e=>?_,?_,λx c e=>?_,λp hp=>?_,bQ,I.len⟩
 ·exact keep b o (neL b o e) hb (NZ b o e hx) (I.base.keep b o e n hb hx) (I.base.free b o e n hx)
 ·obtain⟨sl,e1⟩:=I.base.slot b o e n hb hx;obtain⟨sl',e2⟩:=slot b _ (neL b o e) hb (NZ b o e hx) e1 (I.base.free b o e n hx);exact⟨sl',e2⟩
 ·obtain⟨o',e1⟩:=I.base.there b o e hx;exact free b o' (NZ b o e hx) e1 (I.base.free b o e n hx)
 ·obtain⟨o',e1⟩:=I.base.there b o e hx;exact there b o' (NZ b o e hx) e1
 ·obtain⟨m1,e1⟩:=I.base.uM b ps e;obtain⟨m2,e2⟩:=uM b _ e1;exact⟨m1++m2,by rw[e2,Array.append_assoc]⟩
 ·obtain⟨m,hn,hl⟩:=I.loc;refine⟨m,ns m hn,λi x v e1 e2 e3=>?_⟩;obtain⟨u,r,l⟩:=hl i x v e1 e2 e3;refine⟨u,r,?_⟩;rcases l with l | ⟨k,c,e,z⟩
  ·exact .inl l
  ·exact .inr ⟨k,c,e,cellK x c e _ z⟩
 ·obtain⟨v,z⟩:=I.cell x c e;exact⟨v,cellK x c e v z⟩
 ·obtain⟨m,⟨o,_,_,ho,_⟩,_⟩:=I.loc;exact free _ o (λz=>(N_ _ z).2.1 rfl) ho I.free
 ·obtain⟨v,o,ho,hd⟩:=I.cell x c e;exact free c o (λz=>(N_ c z).2.2.1 x c e rfl) ho (I.jL x c e)
 ·obtain⟨e,n,ne,nf,d⟩:=I.pin p hp;have JN:p.1∉ch:=λz=>(N_ p.1 z).2.2.2 p hp rfl;exact⟨keep p.1 p.2 ne nf JN e n,free p.1 p.2 JN e n,ne,nf,d⟩
def Inv.un{t':Nat}(I:Inv X pins σ H s)(u:Un X.fs [] H H' s.heap h')(bQ:lz X.prog X.w H' h'):Inv X pins σ H' { s with heap:=h',toks:=t' }:=by
 obtain⟨m,⟨o,es,ep,ho,r⟩,_⟩:=id I.loc;obtain⟨sl,hL⟩:=u.any ho I.free 0x1;exact I.step (g':=s.gens) (d':=s.drawn) (ch:=[]) (λ_ z=>nomatch z) (λb o _ hb _ e n=>u.keep b o e n hb 0x1) (λb o _ hb _ e n=>u.slot b o e n hb 0x1) (λb o _ e n=>u.free b o e n 0x1) (λb o _ e=>u.there b o e 0x1) u.u9 u.t7 u.uM (λm' hm=>by
  obtain⟨o',es',ep',N5,r'⟩:=hm;rw[ho]at N5;cases N5;exact⟨_,es',ep',hL,r'⟩) bQ I.bare
def Inv.call{g':Array GenState}{t':Nat}{d':Drawn}{ch:List Addr}(I:Inv X pins σ H s)(u:Un (CQ X.stack) ch H H' s.heap h')(bQ:lz X.prog X.w H' h')(hg:AllBare g')
  (N_:∀b∈ch,(b∈X.ex\/X.aeX.heap.objs.size<=b)/\b≠X.env.locals/\(∀x c,X.env.cells.lookup x=some c->c≠b)/\∀p∈X.pn++pins,p.1≠b) :
  Inv X pins σ H' { s with heap:=h',gens:=g',drawn:=d',toks:=t' }:=by
 obtain⟨m,⟨o,es,ep,ho,r⟩,_⟩:=id I.loc;obtain⟨sl,hL⟩:=u.any ho I.free λz=>(N_ _ z).2.1 rfl;exact I.step (ch:=ch) N_ (λb o hL hb hc e n=>u.keep b o e n (λz=>(gm.mp (I.vh b z)).elim hL hb) hc) (λb o _ _ hc e n=>u.any e n hc) (λb o hc e n=>u.free b o e n hc) (λb o hc e=>u.there b o e hc) u.u9 u.t7 u.uM (λm' hm=>by
  obtain⟨o',es',ep',N5,r'⟩:=hm;rw[ho]at N5;cases N5;exact⟨_,es',ep',hL,r'⟩) bQ hg
def Inv.turned{t':Nat}{it:Addr}(I:Inv X pins σ H s)(k:∀b o,b≠it->s.heap.get? b=some o->h'.get? b=some o)(hn:H it=none)(hL:it≠X.env.locals)
  (h1:it∈X.ex\/X.aeX.heap.objs.size<=it) (h2:∀x c,X.env.cells.lookup x=some c->c≠it) (h3:∀p∈X.pn++pins,p.1≠it):Inv X pins σ H { s with heap:=h',toks:=t' }:=by
 have nit:∀b u,H b=some u->b≠it:=λb u e z=>by rw[z,hn]at e;cases e
 refine I.step (g':=s.gens) (d':=s.drawn) (ch:=[it]) (λb hb=>?_) (λb o _ _ hc e _=>k b o (λz=>hc (by simp[z])) e) (λb o _ _ hc e _=>⟨o.slots,k b o (λz=>hc (by simp[z])) e⟩) (λ_ _ _ _ n=>n)
  (λb o hc e=>⟨o,k b o (λz=>hc (by simp[z])) e⟩) (λ_ _ e=>e) (λ_ _ _ e=>e) (λb ps e=>⟨#[],by rw[e];simp⟩) (λm hm=>?_) (λb u e=>?_) I.bare
 ·have e:b=it:=by simpa using hb
  subst e;exact⟨h1,hL,h2,h3⟩
 ·obtain⟨o,es,ep,ho,r⟩:=hm;exact⟨o,es,ep,k _ o (afi hL) ho,r⟩
 ·refine (I.bQ b u e).uN (λc v hc q=>k c v ?_ q) (λ_ q=>q) λ_ _ q=>q;rcases hc with z | z
  ·rw[z];exact nit b u e
  ·exact nit c _ z
def Inv.tok(I:Inv X pins σ H s)(t:Nat):Inv X pins σ H { s with toks:=t }:=I.un (h':=s.heap) (t':=t) Un.refl I.bQ
def Inv.kept(I:Inv X pins σ H s)(k:∀b u,s.heap.get? b=some u->h'.get? b=some u):Inv X pins σ H { s with heap:=h',toks:=t' }:=I.un (Un.kept k) (I.bQ.kept k)
def Inv.laid(I:Inv X pins σ H s)(k:∀b u,s.heap.get? b=some u->h'.get? b=some u)(hp:s.heap.objs.size<=a)(new:cA X.prog X.w (upd H a o) h' a o) :
  Inv X pins σ (upd H a o) { s with heap:=h',toks:=t' }:=I.un (Un.laid k hp (I.bQ.fresh hp)) (I.bQ.laid k hp new)
def Inv.write(I:Inv X pins σ H s)(mu:Mut (H x))(he:e=x\/H e=some (.own x))(k:∀b u,b≠e->s.heap.get? b=some u->h'.get? b=some u)(N8:∃u,h'.get? e=some u) 
  (new:cA X.prog X.w (upd H x o) h' x o):Inv X pins σ (upd H x o) { s with heap:=h',toks:=t' }:=I.un (Un.write mu he k N8) (I.bQ.write mu he k N8 new)
def Inv.BK(I:Inv X pins σ H s)(h:∀p∈aa4,s.heap.get? p.1=some p.2/\H p.1=none/\p.1≠X.env.locals/\p.1∉X.fs/\∀v,p.2.data≠.cell v):Inv X aa4 σ H s :=
 ⟨I.ok,I.os,I.bare,I.base,I.loc,I.cell,I.free,I.jL,λp hp=>(mz.mp hp).elim (λz=>I.pin p (pO _ z)) (h p),I.bQ,I.len⟩
def zt9{N:List Str}(hN:N.Nodup){i j:Nat}{x:Str}(a:N[i]? = some x)(b:N[j]? = some x):i=j:=by
 obtain⟨h1,e1⟩:=gf.mp a;obtain⟨h2,e2⟩:=gf.mp b;exact (List.getElem_inj hN).mp (e1.trans e2.symm)
def zo5{M:Model}{A:Around}{E:Value->Shared->Prop}{i:Nat}{x:Str}{v:V}{u:Value}{Q:Unit->Shared->Prop}(I:Inv X pins σ H s)(hN:X.N.Nodup)(hi:X.N[i]? = some x)(hx:Loc X.env.scope x)(r:RelV v u)
  (h:∀s',Inv X pins (σ.set i (some v)) H s'->(∃a,Heap.SameBut a s.heap s'.heap/\(a=X.env.locals\/X.env.cells.lookup x=some a))->Q () s') (hf:X.fn x=true\/X.env.scope.names.lookup x=some .local:=by first | exact .inl rfl | exact .inr rfl | assumption):wpAny M A (storeName X.env x u) Q E s:=by
 obtain⟨m,hn,hl⟩:=id I.loc;have ad8:(X.env.scope.kind == .class || (X.env.scope.kind == .module && X.env.locals != X.env.globals))=false:=by rw[I.ok.kind];rfl
 have aeI:i<σ.length:=by rw[I.len];exact (gf.mp hi).1
 have U7:=I.U7;have tracked:∀{a:Addr} {h':Heap},(∃o,s.heap.get? a=some o/\H a=none)->Heap.SameBut a s.heap h'->lz X.prog X.w H h':=λ{a h'} ha hs b ob e=>by
  obtain⟨_,_,Uy⟩:=ha;refine (I.bQ b ob e).uN (λc w' hc q=>(hs.2 c ?_).trans q) (λ_ q=>q) λ_ _ q=>q;rintro rfl;rcases hc with rfl | hc
  ·rw[Uy]at e;cases e
  ·rw[Uy]at hc;cases hc
 rcases hx with hk | hk
 ·refine wpAny_storeName_local hk hn (λh' hn' hs=>?_) ad8;obtain⟨oL,_,_,hoL,_⟩:=id hn;refine h _ ⟨I.ok,I.os,I.bare,⟨λb o e n hb hx=>?_,λb o e n hb hx=>?_,I.base.free,λb o e hx=>?_,I.base.u9,I.base.t7,I.base.uM⟩,⟨_,hn',λj y v' e1 e2 e3=>?_⟩,λy c e=>?_,I.free,I.jL,λp hp=>?_,tracked ⟨oL,hoL,I.free⟩ hs,by simpa using I.len⟩ ⟨_,hs,.inl rfl⟩
  ·exact (hs.2 b (gY (gR (gr e) I.ok.above))).trans (I.base.keep b o e n hb hx)
  ·obtain⟨sl,e1⟩:=I.base.slot b o e n hb hx;exact⟨sl,(hs.2 b (gY (gR (gr e) I.ok.above))).trans e1⟩
  ·obtain⟨o',e1⟩:=I.base.there b o e hx;exact⟨o',(hs.2 b (gY (gR (gr e) I.ok.above))).trans e1⟩
  ·by_cases hj:j=i
   ·subst hj;rw[hi]at e1;cases e1;rw[k_ aeI]at e2;cases e2;exact⟨u,r,.inl ⟨hk,by simp⟩⟩
   ·rw[gU (afi hj)]at e2;obtain⟨u',r',q⟩:=hl j y v' e1 e2 e3;refine⟨u',r',?_⟩;rcases q with⟨k,e⟩ | ⟨k,c,e,z⟩
    ·refine .inl ⟨k,?_⟩;have:y≠x:=λe=>hj (zt9 hN e1 (e ▸ hi));simp[this,e]
    ·exact .inr ⟨k,c,e,z.sameBut hs (U7 y c e)⟩
  ·obtain⟨w',z⟩:=I.cell y c e;exact⟨w',z.sameBut hs (U7 y c e)⟩
  ·obtain⟨e,n,ne,nf,d⟩:=I.pin p hp;exact⟨(hs.2 p.1 ne).trans e,n,ne,nf,d⟩
 ·have Yx:X.fn x=true:=by
   rcases hf with z | z
   ·exact z
   ·rw[z]at hk;cases hk
  obtain⟨c,hc⟩:=I.ok.has x (.inl hk);obtain⟨w',z⟩:=I.cell x c hc;refine wpAny_storeName_cell I.ok.kind hk hc z (λh' hc' hs=>?_);obtain⟨oc,hoc,adY⟩:=id z;refine h { s with heap:=h' } ⟨I.ok,I.os,I.bare,⟨λb o e n hb hx=>?_,λb o e n hb hx=>?_,I.base.free,λb o e hx=>?_,I.base.u9,I.base.t7,I.base.uM⟩,⟨m,hn.sameBut hs (afi (U7 x c hc)),λj y v' e1 e2 e3=>?_⟩,λy c' e=>?_,I.free,I.jL,λp hp=>?_,tracked ⟨oc,hoc,I.jL x c hc⟩ hs,by simpa using I.len⟩ ⟨c,hs,.inr hc⟩
  ·exact (hs.2 b (gY (gR (gr e) (I.ok.U8 x c Yx hc)))).trans (I.base.keep b o e n hb hx)
  ·obtain⟨sl,e1⟩:=I.base.slot b o e n hb hx;exact⟨sl,(hs.2 b (gY (gR (gr e) (I.ok.U8 x c Yx hc)))).trans e1⟩
  ·obtain⟨o',e1⟩:=I.base.there b o e hx;exact⟨o',(hs.2 b (gY (gR (gr e) (I.ok.U8 x c Yx hc)))).trans e1⟩
  ·by_cases hj:j=i
   ·subst hj;rw[hi]at e1;cases e1;rw[k_ aeI]at e2;cases e2;exact⟨u,r,.inr ⟨.inl hk,c,hc,hc'⟩⟩
   ·rw[gU (afi hj)]at e2;obtain⟨u',r',q⟩:=hl j y v' e1 e2 e3;refine⟨u',r',?_⟩;rcases q with q | ⟨k,c',e,z'⟩
    ·exact .inl q
    ·refine .inr ⟨k,c',e,z'.sameBut hs ?_⟩;rintro rfl;exact hj (zt9 hN e1 (I.ok.inj _ _ _ e hc ▸ hi))
  ·by_cases hcc:c'=c
   ·subst hcc;exact⟨_,hc'⟩
   ·obtain⟨w2,z2⟩:=I.cell y c' e;exact⟨w2,z2.sameBut hs hcc⟩
  ·obtain⟨e,n,ne,nf,d⟩:=I.pin p hp;refine⟨(hs.2 p.1 ?_).trans e,n,ne,nf,d⟩;intro q;rw[q,hoc]at e;have q':oc=p.2:=afa e;exact d w' (by rw[<-q'];exact adY)
def zse(I:Inv X pins σ H s)(hN:X.N.Nodup)(hi:X.N[i]? = some x)(hx:Loc X.env.scope x)(r:RelV v u) 
  (h:∀s',Inv X pins (σ.set i (some v)) H s'->Q () s') (hf:X.fn x=true\/X.env.scope.names.lookup x=some .local:=by first | exact .inl rfl | exact .inr rfl | assumption):wpAny M A (storeName X.env x u) Q E s :=
 zo5 I hN hi hx r (λs' I' _=>h s' I') hf
def Inv.ab4(I:Inv X pins σ H s)(ho:s'.os=s.os)(u:Un (CQ X.stack) ch H H' s.heap s'.heap)(bQ:lz X.prog X.w H' s'.heap)(hg:AllBare s'.gens) 
  (N_:∀b∈ch,(b∈X.ex\/X.aeX.heap.objs.size<=b)/\b≠X.env.locals/\(∀x c,X.env.cells.lookup x=some c->c≠b)/\∀p∈X.pn++pins,p.1≠b):Inv X pins σ H' s':=by
 obtain⟨h',g',d',t',o'⟩:=s';have e:o'=s.os:=ho;subst e;exact I.call (g':=g') (t':=t') (d':=d') u bQ hg N_
end
noncomputable abbrev XK:=Value->Option Addr->Hp->Prop
noncomputable abbrev St:=List (Option V)
noncomputable abbrev VK:=V->Hp->Prop
noncomputable abbrev TE:=St->Hp->VK->Prop
noncomputable abbrev TT:=St->Hp->(Bool->Hp->Prop)->Prop
noncomputable abbrev TA:=St->Hp->(List V->Hp->Prop)->Prop
structure Ends where
 nx:St->Hp->Prop
 rt:VK
 bk:St->Hp->Prop:=λ_ _=>False
 ct:St->Hp->Prop:=λ_ _=>False
noncomputable abbrev TS:=Ends->St->Hp->Prop
def EP(X:Cx)(pins:List 0x6)(σ:St)(Q:VK)(u:Value)(s':Shared):Prop:=∃v H',Inv X pins σ H' s'/\RelV v u/\Q v H'
def TP(X:Cx)(pins:List 0x6)(σ:St)(Q:Bool->Hp->Prop)(b:Bool)(s':Shared):Prop:=∃H',Inv X pins σ H' s'/\Q b H'
def AP(X:Cx)(pins:List 0x6)(σ:St)(Q:List V->Hp->Prop)(us:List Value)(s':Shared):Prop:=∃vs H',Inv X pins σ H' s'/\Vals vs us/\Q vs H'
def SP(X:Cx)(pins:List 0x6)(D:Ends)(f:Flow)(s':Shared):Prop :=
 match f with
 | .next=>∃σ' H',Inv X pins σ' H' s'/\D.nx σ' H'
 | .brk=>∃σ' H',Inv X pins σ' H' s'/\D.bk σ' H'
 | .cont=>∃σ' H',Inv X pins σ' H' s'/\D.ct σ' H'
 | .ret u=>∃v σ' H',Inv X pins σ' H' s'/\RelV v u/\D.rt v H'
def PE(X:Cx)(e:Expr)(t:TE):Prop :=
 ∀(pins:List 0x6) (s:Shared) (σ:St) (H:Hp) (Q:VK),Inv X pins σ H s->t σ H Q->wpAny 0x7 X.A (eval e X.env) (EP X pins σ Q) X.xe s
def PT(X:Cx)(e:Expr)(t:TT):Prop :=
 ∀(pins:List 0x6) (s:Shared) (σ:St) (H:Hp) (Q:Bool->Hp->Prop),Inv X pins σ H s->t σ H Q->wpAny 0x7 X.A (isTrue e X.env (eval e X.env)) (TP X pins σ Q) X.xe s
def PW(X:Cx)(e:Expr)(t:TT):Prop :=
 ∀(whole:Sem Value) (pins:List 0x6) (s:Shared) (σ:St) (H:Hp) (Q:Bool->Hp->Prop),Inv X pins σ H s->t σ H Q->wpAny 0x7 X.A (isTrue e X.env whole) (TP X pins σ Q) X.xe s
def PW.pt(h:PW X e t):PT X e t:=h _
def PA(X:Cx)(es:List Expr)(t:TA):Prop :=
 ∀(pos:Pos) (pins:List 0x6) (s:Shared) (σ:St) (H:Hp) (Q:List V->Hp->Prop),Inv X pins σ H s->t σ H Q->wpAny 0x7 X.A (spliced #[10,pos,es]) (AP X pins σ Q) X.xe s
def PS(X:Cx)(st:Stmt)(t:TS):Prop :=
 ∀(pins:List 0x6) (s:Shared) (σ:St) (H:Hp) (D:Ends),Inv X pins σ H s->t D σ H->wpAny 0x7 X.A (exec st X.env) (SP X pins D) X.xe s
def zJ(X:Cx)(st:List Stmt)(t:TS):Prop :=
 ∀(pins:List 0x6) (s:Shared) (σ:St) (H:Hp) (D:Ends),Inv X pins σ H s->t D σ H->wpAny 0x7 X.A (execs st X.env) (SP X pins D) X.xe s
def cO{α:Type}{t:Sem α}{Q Q':α->Shared->Prop}{M:Model}{A:Around}{E:Value->Shared->Prop}{s:Shared}(h:wpAny M A t Q E s)(hQ:∀a s,Q a s->Q' a s):wpAny M A t Q' E s:=afk h hQ λ_ _ x=>x
section
variable  {X:Cx}
noncomputable def acF(i:Nat):TE:=fun σ H Q=>∃v,σ[i]? = some (some v)/\Q v H
noncomputable def tC(v:V):TE:=λ_ H Q=>Q v H
def Jm(hN:X.N[i]? = some x)(hv:Vis X.env.scope x)(hd:0xc=false:=by decide)(ym:(x==("__classdict__":Str))=false:=by decide):PE X (.Name x pos) (acF i):=by
 show 8;obtain⟨v,e,h⟩:=h;obtain⟨m,hn,hl⟩:=I.loc;obtain⟨u,r,l⟩:=hl i x v hN e hv;have fin:EP X pins σ Q u s:=⟨v,H,I,r,h⟩;rcases l with⟨hk,hm⟩ | ⟨hk,c,hc,UG⟩
 ·exact wpAny_Name (wpAny_loadName_local I.ok.kind hk hn hm fin) hd
 ·rcases hk with hk | hk
  ·exact wpAny_Name (wpAny_loadName_cell I.ok.kind hk hc UG fin) hd
  ·exact wpAny_Name (wpAny_loadName_free I.ok.kind hk hc UG fin ym) hd
def Wy{i j pos}:PE X (.Constant (.int i) j pos) (tC (.int i)):=λ_ _ _ H _ I h=>wpAny_Constant_int ⟨.int i,H,I.tok _,⟨_,rfl⟩,h⟩
def abb{b j pos}:PE X (.Constant (.bool b) j pos) (tC (.bl b)):=λ_ _ _ H _ I h=>Constant_bool ⟨.bl b,H,I,rfl,h⟩
def Wv{j pos}:PE X (.Constant .none j pos) (tC .non):=λ_ _ _ H _ I h=>Constant_none ⟨.non,H,I,rfl,h⟩
def Ws{x j pos}:PE X (.Constant (.str x) j pos) (tC (.str x)):=λ_ _ _ H _ I h=>Calls.Constant_str ⟨.str x,H,I.tok _,⟨_,rfl⟩,h⟩
def Gl(X:Cx)(x:Str):Prop:=X.env.kindOf x=some .globalImplicit
def zm8(I:Inv X pins σ H s)(hg:Gl X x)(hm:X.mg x=some u)(h:Q u s) 
  (hd:0xc=false:=by decide):wpAny 0x7 X.A (eval (.Name x pos) X.env) Q E s :=
 Calls.Name_function_global I.ok.kind hg (Calls.loadGlobal_global (by rw[I.ok.glob];exact I.mod.glob.keeps I.bk) hm h) hd
def Oi(I:Inv X pins σ H s)(hg:Gl X x)(hm:X.mg x=none)(hv:bootBuiltins x=some u)(h:Q u s) 
  (hn:x ≠ "__name__":=by decide) (hd:0xc=false:=by decide):wpAny 0x7 X.A (eval (.Name x pos) X.env) Q E s:=by
 obtain⟨mb,h1,h2⟩:=I.mod.blt;exact Calls.Name_function_global I.ok.kind hg (Calls.loadGlobal_builtin (by rw[I.ok.glob];exact I.mod.glob.keeps I.bk) hm (by rw[I.ok.blt];exact h1.keeps I.bk) ((h2 x hn).trans hv) h) hd
def QB(hg:Gl X x)(hm:X.mg x=some u)(r:RelV v u)(hd:0xc=false:=by decide):PE X (.Name x pos) (tC v) :=
 λ_ _ _ H _ I h=>zm8 I hg hm ⟨v,H,I,r,h⟩ hd
def QJ{x:Str}{v:V}{u:Value}{pos:Pos}(hg:Gl X x)(hm:X.mg x=none)(hv:bootBuiltins x=some u)(r:RelV v u)(hn:x ≠ "__name__":=by decide)(hd:0xc=false:=by decide):PE X (.Name x pos) (tC v) :=
 λ_ _ _ H _ I h=>Oi I hg hm hv ⟨v,H,I,r,h⟩ hn hd
variable  {a b:Expr}{ta tb:TE}{pos:Pos}
variable  {tA tB':TT}{rest:List Expr}
noncomputable def acR(t u:TT):TT:=fun σ H Q=>t σ H λc H1=>if c=true then u σ H1 Q else Q false H1
noncomputable def tOr(t u:TT):TT:=fun σ H Q=>t σ H λc H1=>if c=true then Q true H1 else u σ H1 Q
noncomputable def acK(t:TT):TT:=fun σ H Q=>t σ H λc H1=>Q (!c) H1
def Qe(ha:PT X a tA):PW X (.BoolOp .And [a] pos) tA:=by
 intro wh pins s σ H Q I h;refine isTrue_and (cO (ha pins s σ H Q I h) λc s1 e=>?_);cases c with
 | true=>exact isTrue_and_nil e
 | false=>exact e
def Wb(ha:PT X a tA):PW X (.BoolOp .Or [a] pos) tA:=by
 intro wh pins s σ H Q I h;refine isTrue_or (cO (ha pins s σ H Q I h) λc s1 e=>?_);cases c with
 | false=>exact isTrue_or_nil e
 | true=>exact e
def Wc(ha:PT X a tA)(hb:PW X (.BoolOp .And (b::rest) pos) tB'):PW X (.BoolOp .And (a::b::rest) pos) (acR tA tB'):=by
 intro wh pins s σ H Q I h;refine isTrue_and (cO (ha pins s σ H _ I h) λc s1 zz=>?_);obtain⟨H1,I1,q1⟩:=zz;cases c with
 | true=>exact hb wh pins s1 σ H1 Q I1 q1
 | false=>exact⟨H1,I1,q1⟩
def aa0(ha:PT X a tA)(hb:PW X (.BoolOp .Or (b::rest) pos) tB'):PW X (.BoolOp .Or (a::b::rest) pos) (tOr tA tB'):=by
 intro wh pins s σ H Q I h;refine isTrue_or (cO (ha pins s σ H _ I h) λc s1 zz=>?_);obtain⟨H1,I1,q1⟩:=zz;cases c with
 | true=>exact⟨H1,I1,q1⟩
 | false=>exact hb wh pins s1 σ H1 Q I1 q1
def Wd(ha:PT X a tA):PT X (.UnaryOp .Not a pos) (acK tA):=by
 show 8;exact isTrue_not (ha pins s σ H (λc H1=>Q (!c) H1) I h)
noncomputable def aaH(ta tb:TE):TE:=fun σ H Q=>ta σ H λx H1=>∃c,x=.bl c/\if c=true then tb σ H1 Q else Q (.bl false) H1
noncomputable def acJ(ta tb:TE):TE:=fun σ H Q=>ta σ H λx H1=>∃c,x=.bl c/\if c=true then Q (.bl true) H1 else tb σ H1 Q
noncomputable def aax(ta:TE):TE:=fun σ H Q=>ta σ H λx H1=>∃c,x=.bl c/\Q (.bl (!c)) H1
def Wt{op}(h:PE X a t):PE X (.BoolOp op [a] pos) t:=λpins s σ H Q I hw=>BoolOp_one (h pins s σ H Q I hw)
def WK(ha:PE X a ta)(hb:PE X (.BoolOp .And (b::rest) pos) tb):PE X (.BoolOp .And (a::b::rest) pos) (aaH ta tb):=by
 show 8;refine BoolOp_and (cO (ha pins s σ H _ I h) λv s1 zz=>?_);show 11;obtain⟨c,rfl,q1⟩:=q1;cases r1;refine afD ?_;cases c with
 | true=>exact hb pins s1 σ H1 Q I1 q1
 | false=>exact⟨.bl false,H1,I1,rfl,q1⟩
def aa7(ha:PE X a ta)(hb:PE X (.BoolOp .Or (b::rest) pos) tb):PE X (.BoolOp .Or (a::b::rest) pos) (acJ ta tb):=by
 show 8;refine BoolOp_or (cO (ha pins s σ H _ I h) λv s1 zz=>?_);show 11;obtain⟨c,rfl,q1⟩:=q1;cases r1;refine afD ?_;cases c with
 | false=>exact hb pins s1 σ H1 Q I1 q1
 | true=>exact⟨.bl true,H1,I1,rfl,q1⟩
def Wu(ha:PE X a ta):PE X (.UnaryOp .Not a pos) (aax ta):=by
 show 8;refine UnaryOp_ (cO (ha pins s σ H _ I h) λv s1 zz=>?_);show 11;obtain⟨c,rfl,q1⟩:=q1;cases r1;exact not_of (afD ⟨.bl (!c),H1,I1,rfl,q1⟩)
noncomputable def tIf(t:TT)(ta tb:TE):TE:=fun σ H Q=>t σ H λc H1=>if c=true then ta σ H1 Q else tb σ H1 Q
def Jp{c:Expr}(hc:PT X c tA)(ha:PE X a ta)(hb:PE X b tb):PE X (.IfExp c a b pos) (tIf tA ta tb):=by
 show 8;refine wpAny_IfExp (cO (hc pins s σ H _ I h) λd s1 zz=>?_);obtain⟨H1,I1,q1⟩:=zz;cases d with
 | true=>exact ha pins s1 σ H1 Q I1 q1
 | false=>exact hb pins s1 σ H1 Q I1 q1
end
def oA(K:PySem.W.Frag)(H:Hp)(a:Addr)(xs:List V):Prop :=
 Rd H a (.lst xs) \/
  ∃(o:Obj) (its:Array Value) (n:Nat),K.lookup a=some o/\o.cls=.type "list"/\o.dict=none/\o.data=.seq its n/\its.size<=sizeLine/\Vals xs its.toList
def oJ(K:PySem.W.Frag)(H:Hp)(a:Addr)(xs:List V):Prop :=
 Rd H a (.tup xs) \/
  ∃(o:Obj) (its:Array Value) (n:Nat),K.lookup a=some o/\o.cls=.type "tuple"/\o.data=.seq its n/\its.size<=sizeLine/\Vals xs its.toList
noncomputable def aet:Value->Option V
 | .none=>some .non
 | .bool b=>some (.bl b)
 | .int i _=>some (.int i)
 | .str x _=>some (.str x)
 | .bytes b _=>some (.byt b)
 | .float b _=>some (.flt b)
 | .ref a=>some (.ref a)
 | .type n=>some (.ty n)
 | _=>none
def RelV.abs(r:RelV x u):aet u=some x:=by
 cases x with
 | non=>cases r;rfl
 | bl _=>cases r;rfl
 | int _=>obtain⟨t,rfl⟩:=r;rfl
 | str _=>obtain⟨t,rfl⟩:=r;rfl
 | byt _=>obtain⟨t,rfl⟩:=r;rfl
 | flt _=>obtain⟨t,rfl⟩:=r;rfl
 | ref _=>cases r;rfl
 | ty _=>cases r;rfl
def RelV.inj{x y:V}{u:Value}(r:RelV x u)(q:RelV y u):x=y:=afa (r.abs.symm.trans q.abs)
theorem Vals.inj:∀{xs ys:List V} {us:List Value},Vals xs us->Vals ys us->xs=ys
 | _,_,_,.nil,.nil=>rfl
 | _,_,_,.cons r t,.cons r' t'=>by rw[r.inj r',Vals.inj t t']
section
variable  {X:Cx}{pins:List 0x6}{σ:St}{H:Hp}{s:Shared}{a:Addr}{xs ys:List V}
def oA.of{K:PySem.W.Frag}(h:H a=some (.lst xs)):oA K H a xs:=.inl (.inl h)
def oJ.of{K:PySem.W.Frag}(h:H a=some (.tup xs)):oJ K H a xs:=.inl (.inl h)
def Inv.list(I:Inv X pins σ H s)(h:oA X.K H a xs):∃its:List Value,Vals xs its/\PlainL s.heap a its.toArray/\xs.length<=sizeLine:=by
 rcases h with h | ⟨o,its,n,hk,hc,hd,hs,hz,r⟩
 ·obtain⟨z,its,n,r,e⟩:=h.ok I.bQ;exact⟨its,r,⟨_,n,e,rfl,rfl,rfl⟩,z⟩
 ·refine⟨its.toList,r,⟨o,n,I.qR a o hk,hc,hd,by simpa using hs⟩,?_⟩;have e:=r.length;simp only[nW]at e;omega
def Inv.tuple(I:Inv X pins σ H s)(h:oJ X.K H a xs):∃its:List Value,Vals xs its/\IsTup s.heap a its.toArray/\xs.length<=sizeLine:=by
 rcases h with h | ⟨o,its,n,hk,hc,hs,hz,r⟩
 ·obtain⟨z,its,r,p⟩:=h.ok I.bQ;exact⟨its,r,p,z⟩
 ·refine⟨its.toList,r,⟨o,I.qR a o hk,hc,n,by simpa using hs⟩,?_⟩;have e:=r.length;simp only[nW]at e;omega
def Inv.vz(I:Inv X pins σ H s)(h:oA X.K H a xs)(h':oA X.K H a ys):xs=ys:=by
 obtain⟨its,r,⟨o,n,e,_,_,d⟩,_⟩:=I.list h;obtain⟨its',r',⟨o',n',e',_,_,d'⟩,_⟩:=I.list h';rw[e]at e';cases e';rw[d]at d';injection d' with d1 _;have:its=its':=by simpa using congrArg Array.toList d1
 subst this;exact r.inj r'
def Inv.tD(I:Inv X pins σ H s)(h:oJ X.K H a xs)(h':oJ X.K H a ys):xs=ys:=by
 obtain⟨its,r,⟨o,e,_,n,d⟩,_⟩:=I.tuple h;obtain⟨its',r',⟨o',e',_,n',d'⟩,_⟩:=I.tuple h';rw[e]at e';cases e';rw[d]at d';injection d' with d1 _;have:its=its':=by simpa using congrArg Array.toList d1
 subst this;exact r.inj r'
end
noncomputable abbrev Cx.wish(X:Cx)(E:Value->Shared->Prop):Cx:={ X with xe:=E }
noncomputable abbrev Cx.JF(X:Cx):Cx:=X.wish λ_ _=>False
def Cx.Ok.wish{X:Cx}(ok:X.Ok)(E:Value->Shared->Prop):(X.wish E).Ok :=
 ⟨ok.mod,ok.kind,ok.glob,ok.blt,ok.above,ok.inj,ok.has,ok.U8,ok.hd,ok.frames,ok.stk,ok.exf,ok.bs,ok.Gz,ok.EY,ok.Ly,ok.oU,ok.Li⟩
def Cx.Ok.lF{X:Cx}{E:Value->Shared->Prop}(ok:(X.wish E).Ok):X.Ok :=
 ⟨ok.mod,ok.kind,ok.glob,ok.blt,ok.above,ok.inj,ok.has,ok.U8,ok.hd,ok.frames,ok.stk,ok.exf,ok.bs,ok.Gz,ok.EY,ok.Ly,ok.oU,ok.Li⟩
section
variable  {X:Cx}{pins:List 0x6}{σ:St}{H:Hp}{s:Shared}{E:Value->Shared->Prop}
def Inv.wish(I:Inv X pins σ H s)(E:Value->Shared->Prop):Inv (X.wish E) pins σ H s:=⟨I.ok.wish E,I.os,I.bare,I.base,I.loc,I.cell,I.free,I.jL,I.pin,I.bQ,I.len⟩
def Inv.lF(I:Inv (X.wish E) pins σ H s):Inv X pins σ H s:=⟨I.ok.lF,I.os,I.bare,I.base,I.loc,I.cell,I.free,I.jL,I.pin,I.bQ,I.len⟩
def SP.lF(h:SP (X.wish E) pins D f s'):SP X pins D f s':=by
 cases f with
 | next=>obtain⟨σ',H',I,q⟩:=h;exact⟨σ',H',I.lF,q⟩
 | brk=>obtain⟨σ',H',I,q⟩:=h;exact⟨σ',H',I.lF,q⟩
 | cont=>obtain⟨σ',H',I,q⟩:=h;exact⟨σ',H',I.lF,q⟩
 | ret u=>obtain⟨v,σ',H',I,r,q⟩:=h;exact⟨v,σ',H',I.lF,r,q⟩
def zJ.JF{st:List Stmt}{t:TS}(h:zJ X.JF st t):zJ X st t:=λpins s σ H D I hw =>
 afk (h pins s σ H D (I.wish _) hw) (λ_ _ q=>q.lF) λ_ _ z=>False.elim z
end
section
variable  {X:Cx}{st:Stmt}{rest:List Stmt}{t u:TS}{e:Expr}{te:TE}{pos:Pos}
noncomputable def aaz:TS:=λD σ H=>D.nx σ H
noncomputable def acH(t u:TS):TS:=λD σ H=>t { D with nx:=u D } σ H
def Qk:zJ X [] aaz:=λ_ _ σ H _ I h=>wpAny_execs_nil ⟨σ,H,I,h⟩
def Jb(h1:PS X st t)(h2:zJ X rest u):zJ X (st::rest) (acH t u):=by
 intro pins s σ H D I h;refine wpAny_execs_cons (cO (h1 pins s σ H { D with nx:=u D } I h) λf s1 q=>?_);cases f with
 | next =>
  obtain⟨σ',H',I',q⟩:=q;exact h2 pins s1 σ' H' D I' q
 | ret v=>exact q
 | brk=>exact q
 | cont=>exact q
def Qj(h1:PS X st t):zJ X [st] t:=by
 intro pins s σ H D I h;refine wpAny_execs_cons (cO (h1 pins s σ H D I h) λf s1 q=>?_);cases f with
 | next=>exact wpAny_execs_nil q
 | ret v=>exact q
 | brk=>exact q
 | cont=>exact q
noncomputable def VM:TS:=λD σ H=>D.bk σ H
def Jd:PS X (.Break pos) VM:=λ_ _ σ H _ I h=>wpAny_Break ⟨σ,H,I,h⟩
def Inv.quiet(I:Inv X pins σ H s):interactive X.env=false:=by simp[interactive,I.ok.kind]
noncomputable def aaD(te:TE):TS:=λD σ H=>te σ H λ_ H1=>D.nx σ H1
def Ql(he:PE X e te)(hs:swapsWith e none pos.line X.env=pure false:=by rfl):PS X (.Expr e pos) (aaD te):=by
 intro pins s σ H D I h;refine wpAny_Expr_any (cO (he pins s σ H _ I h) λv s1 zz=>?_) I.quiet hs;show 11;exact⟨σ,H1,I1,q1⟩
noncomputable def acI(te:TE):TS:=λD σ H=>te σ H D.rt
def Wg(he:PE X e te):PS X (.Return (some e) pos) (acI te):=by
 intro pins s σ H D I h;refine wpAny_Return_some (cO (he pins s σ H _ I h) λv s1 zz=>?_);show 11;exact⟨x,σ,H1,I1,r1,q1⟩
noncomputable def acN(c:TT)(t u:TS):TS:=λD σ H=>c σ H λb H1=>if b=true then t D σ H1 else u D σ H1
def aa2{c:Expr}{a b:List Stmt}{tc:TT}(hc:PT X c tc)(ha:zJ X a t)(hb:zJ X b u):PS X (.If c a b pos) (acN tc t u):=by
 intro pins s σ H D I h;refine wpAny_If (cO (hc pins s σ H _ I h) λd s1 zz=>?_);obtain⟨H1,I1,q1⟩:=zz;cases d with
 | true=>exact ha pins s1 σ H1 D I1 q1
 | false=>exact hb pins s1 σ H1 D I1 q1
end
noncomputable abbrev TG:=V->St->Hp->(St->Hp->Prop)->Prop
noncomputable abbrev U_:=List V->St->Hp->(St->Hp->Prop)->Prop
def PG(X:Cx)(target:Expr)(t:TG):Prop :=
 ∀(pins:List 0x6) (s:Shared) (σ:St) (H:Hp) (v:V) (u:Value) (Q:St->Hp->Prop),Inv X pins σ H s->RelV v u->t v σ H Q ->
  wpAny 0x7 X.A (assign target X.env u) (λ_ s'=>∃σ' H',Inv X pins σ' H' s'/\Q σ' H') X.xe s
def PGs(X:Cx)(ts:List Expr)(t:U_):Prop :=
 ∀(pins:List 0x6) (s:Shared) (σ:St) (H:Hp) (vs:List V) (us:List Value) (Q:St->Hp->Prop),Inv X pins σ H s->Vals vs us->t vs σ H Q ->
  wpAny 0x7 X.A (assignInOrder ((assignEach ts X.env).map (·.2)) us) (λ_ s'=>∃σ' H',Inv X pins σ' H' s'/\Q σ' H') X.xe s
noncomputable abbrev Nf:=V->V->V->Hp->(Hp->Prop)->Prop
def xj(X:Cx)(t:Nf):Prop :=
 ∀(pins:List 0x6) (s:Shared) (σ:St) (H:Hp) (o i v:V) (ov iv u:Value) (Q:Hp->Prop),Inv X pins σ H s->RelV o ov->RelV i iv->RelV v u->t o i v H Q ->
  wpAny 0x7 X.A (setItem ov iv u) (λ_ s'=>∃H',Inv X pins σ H' s'/\Q H') X.xe s
section
variable  {X:Cx}{pos:Pos}
noncomputable def CN(i:Nat):TG:=λv σ H Q=>Q (σ.set i (some v)) H
def Qx(hN:X.N.Nodup)(hi:X.N[i]? = some x)(hx:Loc X.env.scope x)(hf:X.fn x=true\/X.env.scope.names.lookup x=some .local:=by first | exact .inl rfl | exact .inr rfl | assumption):PG X (.Name x pos) (CN i):=by
 intro pins s σ H v u Q I r h;exact wpAny_assign_Name (zse I hN hi hx r (λs' I'=>⟨_,H,I',h⟩) hf)
noncomputable def aed:U_:=λvs σ H Q=>vs=[]/\Q σ H
noncomputable def abM(t:TG)(u:U_):U_:=λvs σ H Q=>∃v r,vs=v::r/\t v σ H fun σ' H'=>u r σ' H' Q
def Qw:PGs X [] aed:=by
 intro pins s σ H vs us Q I r h;obtain⟨e,h⟩:=h;subst e;cases r;exact assignInOrder_nil ⟨σ,H,I,h⟩
def Jl{e:Expr}{es:List Expr}{t:TG}{u:U_}(h1:PG X e t)(h2:PGs X es u)
  (hs:(assignEach (e::es) X.env).map (·.2)=assign e X.env::(assignEach es X.env).map (·.2):=by rfl):PGs X (e::es) (abM t u):=by
 intro pins s σ H vs us Q I r h;obtain⟨v,vr,e1,h⟩:=h;subst e1;cases r with
 | cons r rr =>
  rw[hs];refine assignInOrder_cons (cO (h1 pins s σ H _ _ _ I r h) λ_ s1 zz=>?_);obtain⟨σ1,H1,I1,q1⟩:=zz;exact h2 pins s1 σ1 H1 _ _ Q I1 rr q1
noncomputable def aeb(K:PySem.W.Frag)(n:Nat)(t:U_):TG:=λv σ H Q=>∃a xs,v=.ref a/\oJ K H a xs/\xs.length=n/\t xs σ H Q
def Wo(hc:X.calm=true)(h:PGs X es t) 
  (hn:(assignEach es X.env).length=n:=by rfl) (Fy:(assignEach es X.env).findIdx? (·.1)=none:=by rfl):PG X (.Tuple es k pos) (aeb X.K n t):=by
 intro pins s σ H v u Q I r hw;obtain⟨a,xs,e1,hq,hl,hw⟩:=hw;subst e1;cases r;obtain⟨its,rv,ht,hz⟩:=I.tuple hq;refine assign_Tuple_tuple (I.ok.hd hc) ht (by simp[hn,<-hl,rv.length]) Fy λh' hx=>?_;have I1:Inv X pins σ H { s with heap:=h' }:=I.kept (t':=s.toks) λb o e=>hx b o (gY (gr e)) e;exact h pins _ σ H xs _ Q I1 (by simpa using rv) hw
noncomputable def aec(to ti:TE)(t:Nf):TG:=λv σ H Q=>to σ H λo H1=>ti σ H1 λi H2=>t o i v H2 λH3=>Q σ H3
def Wq{o i:Expr}{to ti:TE}{t:Nf}(ho:PE X o to)(hi:PE X i ti)(hs:xj X t)
  (ha:∀v,assign (.Subscript o i pos) X.env v=(do
   let ov <-holding [v] (eval o X.env)
   let iv <-holding [v,ov] (eval i X.env)
   standAt pos
   holding [v,ov,iv] (setItem ov iv v)
   release [v,ov,iv] []):=by intro _;rfl):PG X (.Subscript o i pos) (aec to ti t):=by
 intro pins s σ H v u Q I r h;rw[ha];refine ae6 (afC (cO (ho pins s σ H _ I h) λov s1 zz=>?_));show 11;refine ae6 (afC (cO (hi pins s1 σ H1 _ I1 q1) λiv s2 zz=>?_));obtain⟨y,H2,I2,r2,q2⟩:=zz;refine ae6 (wpAny_standAt (ae6 (afC (cO (hs pins s2 σ H2 x y v ov iv u _ I2 r1 r2 r q2) λ_ s3 zz=>?_))));obtain⟨H3,I3,q3⟩:=zz;exact wpAny_release ⟨σ,H3,I3,q3⟩
noncomputable def VN(te:TE)(g:TG):TS:=λD σ H=>te σ H λx H1=>g x σ H1 D.nx
def Wj{tg e:Expr}{te:TE}{g:TG}(he:PE X e te)(hg:PG X tg g)(hs:swapsWithSole [tg] e pos.line X.env=pure false:=by rfl)(hw:swappedStores [tg] e X.env=pure none:=by rfl)
  (h1:(assignEach [tg] X.env).map (·.2)=[assign tg X.env]:=by rfl):PS X (.Assign [tg] e pos) (VN te g):=by
 intro pins s σ H D I h;refine wpAny_Assign_stores (cO (he pins s σ H _ I h) λv s1 zz=>?_) hs hw;show 11;rw[h1];exact cO (hg pins s1 σ H1 x v _ I1 r1 q1) λ_ s2 q=>q
def Wf{i:Nat}{x:Str}{e:Expr}{te:TE}{pos':Pos}(hN:X.N.Nodup)(hi:X.N[i]? = some x)(hx:Loc X.env.scope x)(he:PE X e te)(hs:swapsWith e (some (.Name x pos')) pos.line X.env=pure false:=by rfl)(hf:X.fn x=true\/X.env.scope.names.lookup x=some .local:=by first | exact .inl rfl | exact .inr rfl | assumption) :
  PS X (.Assign [.Name x pos'] e pos) (VN te (CN i)):=by
 intro pins s σ H D I h;refine wpAny_Assign_Name (cO (he pins s σ H _ I h) λv s1 zz=>?_) hs;obtain⟨y,H1,I1,r1,q1⟩:=zz;exact zse I1 hN hi hx r1 (λs2 I2=>⟨_,H1,I2,q1⟩) hf
end
section
variable  {X:Cx}{pos:Pos}
noncomputable def VG(c:TT)(tb:TS):TS:=λD σ H=>∃W:Nat->St->Hp->Prop,(∃m,W m σ H)/\∀m σ H,W m σ H ->
 c σ H λb H1=>if b=true then ∃N:St->Hp->Prop,(∀σ' H',N σ' H'->∃m',m'<m/\W m' σ' H')/\tb { D with nx:=N,ct:=N,bk:=D.nx } σ H1 else D.nx σ H1
def Jc{c:Expr}{body:List Stmt}{tc:TT}{tb:TS}(hp:PassesOwn 0x7 X.A X.env X.xe)(hc:PT X c tc)(hb:zJ X body tb):PS X (.While c body [] pos) (VG tc tb):=by
 intro pins s σ H D I h;obtain⟨W,⟨m0,w0⟩,turn⟩:=h;refine wpAny_While (codeAny_whileLoop (λn s'=>∃σ' H',Inv X pins σ' H' s'/\W n σ' H') ?_ m0 ⟨σ,H,I,w0⟩);rintro n s1 ⟨σ1,H1,I1,w1⟩;refine aft hp (cO (hc pins s1 σ1 H1 _ I1 (turn n σ1 H1 w1)) λb s2 zz=>?_);obtain⟨H2,I2,q2⟩:=zz;cases b with
 | true =>
  obtain⟨N,hN,q2⟩:=q2;rw[ae7 rfl];refine aft hp (cO (hb pins s2 σ1 H2 _ I2 q2) λf s3 q3=>?_);cases f with
  | next =>
   obtain⟨σ3,H3,I3,n3⟩:=q3;obtain⟨m',hm,w3⟩:=hN σ3 H3 n3;exact⟨m',hm,σ3,H3,I3,w3⟩
  | cont =>
   obtain⟨σ3,H3,I3,n3⟩:=q3;obtain⟨m',hm,w3⟩:=hN σ3 H3 n3;exact⟨m',hm,σ3,H3,I3,w3⟩
  | brk=>exact q3
  | ret v=>exact q3
 | false =>
  rw[ae8 pP];exact wpAny_execs_nil ⟨σ1,H2,I2,q2⟩
end
structure It where
 go:Nat->Hp->Prop
 yld:Nat->Hp->V->Hp->Prop
 stop:Nat->Hp->Prop
def qM(X:Cx)(pins:List 0x6)(H:Hp)(b:Addr):Prop :=
 H b=none/\b≠X.env.locals/\b∉X.fs/\(b∈X.ex\/X.aeX.heap.objs.size<=b)/\(∀x c,X.env.cells.lookup x=some c->c≠b)/\∀p∈X.pn++pins,p.1≠b
def Inv.vN(I:Inv X pins σ H s)(hb:s.heap.objs.size<=b)(hn:H' b=none):qM X pins H' b:=by
 refine⟨hn,mK (gR I.lt hb),I.adG hb,.inr (kh I.sz hb),λx c e z=>?_,λp hp z=>?_⟩
 ·obtain⟨v,q⟩:=I.cell x c e;exact absurd (gR q.lt (by rw[z];exact hb)) (mJ _)
 ·exact absurd (gR (gr (I.pin p hp).1) (by rw[z];exact hb)) (mJ _)
structure Turn(P:Program)(w:World)(K:PySem.W.Frag)(tg:Expr)(J:It)(fp:List Addr)(it:Addr)(tn:Nat->Heap->Prop):Prop where
 mem:it∈fp
 obj:∀i h,tn i h->∀b∈fp,∃o,h.get? b=some o/\∀v,o.data≠.cell v
 keep:∀i h h',tn i h->(∀b∈fp,∀o,h.get? b=some o->h'.get? b=some o)->tn i h'
 item:∀(X:Cx),X.prog=P->X.w=w->X.K=K->X.calm=true->∀(i:Nat) (pins:List 0x6) (s:Shared) (σ:St) (H:Hp) (E:Value->Shared->Prop),Inv X pins σ H s->(∀b∈fp,qM X pins H b)->tn i s.heap->J.go i H ->
  wpAny (model P w) X.A (pyNext (.ref it)) (λr s1=>∃u,r=some u /\
   wpAny (model P w) X.A (letOwnedTupleGo tg (.ref it) u) (λ_ s2=>∃x H',Inv X pins σ H' s2/\RelV x u/\J.yld i H x H'/\tn (i+1) s2.heap/\∀b∈fp,H' b=none) E s1) E s
 done:∀(X:Cx),X.prog=P->X.w=w->X.K=K->X.calm=true->∀(i:Nat) (pins:List 0x6) (s:Shared) (σ:St) (H:Hp) (E:Value->Shared->Prop),Inv X pins σ H s->(∀b∈fp,qM X pins H b)->tn i s.heap->J.stop i H ->
  wpAny (model P w) X.A (pyNext (.ref it)) (λr s1=>r=none/\Inv X pins σ H s1) E s
 self:∀(A:Around) (i:Nat) (s:Shared) (Q:Value->Shared->Prop) (E:Value->Shared->Prop),tn i s.heap->Q (.ref it) s->wpAny (model P w) A (pyIter (.ref it)) Q E s
noncomputable abbrev TI:=St->Hp->(It->Hp->Prop)->Prop
def PIE(X:Cx)(pins:List 0x6)(σ:St)(tg:Expr)(R:It->Hp->Prop)(itv:Value)(s2:Shared):Prop :=
 ∃(it:Addr) (fp:List Addr) (tn:Nat->Heap->Prop) (J:It) (H':Hp),itv=.ref it/\Inv X pins σ H' s2/\Turn X.prog X.w X.K tg J fp it tn/\tn 0 s2.heap/\(∀b∈fp,qM X pins H' b)/\R J H'
def PI(X:Cx)(tg iter:Expr)(wi:TI):Prop :=
 ∀(pins:List 0x6) (s:Shared) (σ:St) (H:Hp) (R:It->Hp->Prop),Inv X pins σ H s->wi σ H R ->
  wpAny 0x7 X.A (eval iter X.env) (λv s1=>wpAny 0x7 X.A (pyIter v) (PIE X pins σ tg R) X.xe s1) X.xe s
def ug(ho:s.heap.get? it=some o)(hc:o.cls=.type n)(hd:o.data=.fields vs) 
  (hn:["enumerate","zip","dict_itemiterator","dict_reverseitemiterator","odict_iterator","itertools.zip_longest","itertools.pairwise"].contains n=false) (hQ:Q () s):wpAny M A (letOwnedTupleGo tg (.ref it) u) Q E s:=by
 unfold letOwnedTupleGo;cases tg<;>first
  | exact ae9 hQ
  | (cases u<;>first
    | exact ae9 hQ
    | (refine ae6 (wpAny_load ho ?_)
       rw[hc,hd];show wpAny M A (if (["enumerate","zip","dict_itemiterator","dict_reverseitemiterator","odict_iterator","itertools.zip_longest","itertools.pairwise"].contains n && vs[0]? == some (rawInt _))=true then _ else _) Q E s;rw[ae8 (by intro h;rw[hn,Bool.false_and]at h;cases h)];exact ae9 hQ))
noncomputable def Itl(K:PySem.W.Frag)(a:Addr):It :=
 ⟨λi H=>∃xs x,oA K H a xs/\xs[i]? = some x,λi H x H'=>H'=H/\∀xs,oA K H a xs->xs[i]? = some x,λi H=>∃xs,oA K H a xs/\xs.length<=i⟩
noncomputable def Itt(K:PySem.W.Frag)(a:Addr):It :=
 ⟨λi H=>∃xs x,oJ K H a xs/\xs[i]? = some x,λi H x H'=>H'=H/\∀xs,oJ K H a xs->xs[i]? = some x,λi H=>∃xs,oJ K H a xs/\xs.length<=i⟩
noncomputable def Itr(lo:Int)(n:Nat):It:=⟨λi _=>i<n,λi H x H'=>H'=H/\x=.int (lo+i),λi _=>n<=i⟩
def DR{P:Program}{w:World}{K:PySem.W.Frag}{tg:Expr}(a it:Addr):Turn P w K tg (Itl K a) [it] it (λi h=>h.IsListIter it a i) where
 mem:=by simp
 obj:=λi h st b hb=>by
  have e:b=it:=by simpa using hb
  show 15
 keep:=λi h h' st k=>st.at λo e=>k it 0x1 o e
 item:=by
  show 2;obtain⟨xs,x,hq,hx⟩:=hg;obtain⟨its,rv,p,hz⟩:=I.list hq;obtain⟨u,hu,ru⟩:=rv.get hx;show 6;refine wpAny_pyNext_list_item st p.isList (x:=u) (by simpa using hu) λh' st' sb=>?_;show 9;obtain⟨o,e,c,d⟩:=id st';exact⟨u,rfl,ug (s:={ s with heap:=h' }) e c d 0x5 ⟨x,H,I1,ru,⟨rfl,λys hy=>by rw[I.vz hy hq];exact hx⟩,st',λb hb=>(hf b hb).1⟩⟩
 done:=by
  show 2;obtain⟨xs,hq,hx⟩:=hg;obtain⟨its,rv,p,hz⟩:=I.list hq;show 6;have hl:=rv.length;exact wpAny_pyNext_list_end (I.ok.hd hc) st p.isList 0x9 λh' eb=>⟨rfl,I.turned (t':=s.toks) (λb o hb e=>eb b o hb e) f0 f1 f3 f4 f5⟩
 self:=λ_ _ _ _ _ st h=>wpAny_pyIter_listiter st h
def zs2{P:Program}{w:World}{K:PySem.W.Frag}{tg:Expr}(a it:Addr):Turn P w K tg (Itt K a) [it] it (λi h=>h.IsTupleIter it a i) where
 mem:=by simp
 obj:=λi h st b hb=>by
  have e:b=it:=by simpa using hb
  show 15
 keep:=λi h h' st k=>st.at λo e=>k it 0x1 o e
 item:=by
  show 2;obtain⟨xs,x,hq,hx⟩:=hg;obtain⟨its,rv,p,hz⟩:=I.tuple hq;obtain⟨u,hu,ru⟩:=rv.get hx;show 6;refine wpAny_pyNext_tuple_item st (show s.heap.IsTuple a its.toArray from p) (x:=u) (by simpa using hu) λh' st' sb=>?_;show 9;obtain⟨o,e,c,d⟩:=id st';exact⟨u,rfl,ug (s:={ s with heap:=h' }) e c d 0x5 ⟨x,H,I1,ru,⟨rfl,λys hy=>by rw[I.tD hy hq];exact hx⟩,st',λb hb=>(hf b hb).1⟩⟩
 done:=by
  show 2;obtain⟨xs,hq,hx⟩:=hg;obtain⟨its,rv,p,hz⟩:=I.tuple hq;show 6;have hl:=rv.length;exact wpAny_pyNext_tuple_end (I.ok.hd hc) st (show s.heap.IsTuple a its.toArray from p) 0x9 λh' eb=>⟨rfl,I.turned (t':=s.toks) (λb o hb e=>eb b o hb e) f0 f1 f3 f4 f5⟩
 self:=λ_ _ _ _ _ st h=>wpAny_pyIter_tupleiter st h
def zr7{P:Program}{w:World}{K:PySem.W.Frag}{tg:Expr}(it:Addr)(lo:Int)(n:Nat):Turn P w K tg (Itr lo n) [it] it (λi h=>IsRangeIter h it (lo+(i:Nat)*1) ((n:Int) - (i:Nat)) 1) where
 mem:=by simp
 obj:=λi h st b hb=>by
  have e:b=it:=by simpa using hb
  subst e;exact⟨_,st,λv z=>by
   have z':Data.fields _=Data.cell v:=z;cases z'⟩
 keep:=λi h h' st k=>k it 0x1 _ st
 item:=by
  show 2;show 6;have W:=Walks.range (prog:=X.prog) (w:=X.w) (I.ok.hd hc) it lo 1 n;refine W.item i s _ _ hg st λv h' tk hv st' kk=>?_;obtain⟨t,rfl⟩:=hv;have I1:Inv X pins σ H { s with heap:=h',toks:=tk }:=I.turned (λb o hb e=>kk b o (by simpa using hb) e) f0 f1 f3 f4 f5;refine⟨_,rfl,ug (s:={ s with heap:=h',toks:=tk }) (n:="range_iterator") st' rfl rfl 0x5 ⟨.int (lo+i),H,I1,⟨t,?_⟩,⟨rfl,rfl⟩,st',λb hb=>(hf b hb).1⟩⟩;rw[Int.mul_one]
 done:=by
  show 2;show 6;exact wpAny_pyNext_range_end (I.ok.hd hc) st (by have:n<=i:=hg;omega) λh' eb=>⟨rfl,I.turned (t':=s.toks) (λb o hb e=>eb b o hb e) f0 f1 f3 f4 f5⟩
 self:=λ_ _ _ _ _ st h=>wpAny_pyIter_rangeiter st h
section
variable  {X:Cx}{tg:Expr}
noncomputable def abB(K:PySem.W.Frag)(tl:TE):TI:=fun σ H R=>tl σ H λx H1=>∃a,x=.ref a/\(∃xs,oA K H1 a xs)/\R (Itl K a) H1
noncomputable def adO(K:PySem.W.Frag)(tl:TE):TI:=fun σ H R=>tl σ H λx H1=>∃a,x=.ref a/\(∃xs,oJ K H1 a xs)/\R (Itt K a) H1
def Qu{l:Expr}{tl:TE}(hl:PE X l tl):PI X tg l (abB X.K tl):=by
 intro pins s σ H R I h;refine cO (hl pins s σ H _ I h) λv s1 zz=>?_;show 11;obtain⟨a,e,⟨xs,hq⟩,q⟩:=q1;subst e;cases r1;obtain⟨its,rv,p,hz⟩:=I1.list hq;refine wpAny_pyIter_list p.isList ?_;refine⟨s1.heap.objs.size,[s1.heap.objs.size],_,_,H1,rfl,I1.kept (t':=s1.toks) λb o e=>gF _ e,DR a _,⟨_,g_ _ rfl,rfl,rfl⟩,λb hb=>?_,q⟩;have e:b=s1.heap.objs.size:=by simpa using hb
 subst e;show 24
def Wk{l:Expr}{tl:TE}(hl:PE X l tl):PI X tg l (adO X.K tl):=by
 intro pins s σ H R I h;refine cO (hl pins s σ H _ I h) λv s1 zz=>?_;show 11;obtain⟨a,e,⟨xs,hq⟩,q⟩:=q1;subst e;cases r1;obtain⟨its,rv,p,hz⟩:=I1.tuple hq;refine wpAny_pyIter_tuple (show s1.heap.IsTuple a its.toArray from p) ?_;refine⟨s1.heap.objs.size,[s1.heap.objs.size],_,_,H1,rfl,I1.kept (t':=s1.toks) λb o e=>gF _ e,zs2 a _,⟨_,g_ _ rfl,rfl,rfl⟩,λb hb=>?_,q⟩;have e:b=s1.heap.objs.size:=by simpa using hb
 subst e;show 24
def Ir{pins:List 0x6}{σ:St}{H:Hp}{s:Shared}{R:It->Hp->Prop}{E:Value->Shared->Prop}{lo hi:Int}{t u v:Tok}{tk:Nat}(I:Inv X pins σ H s)(h1:-(2 ^ 62)<=lo)(h2:lo<2 ^ 62)(h3:-(2 ^ 62)<=hi)(h4:hi<2 ^ 62)
  (q:R (Itr lo (hi - lo).toNat) H):wpAny 0x7 X.A (pyIter (.ref s.heap.objs.size)) (PIE X pins σ tg R) E { s with heap:=s.heap.push { cls:=.type "range",data:=.fields #[.int lo t,.int hi u,.int 1 v] },toks:=tk }:=by
 refine wpAny_pyIter_range (IsRange.new ..) (small_one h1 h2 h3 h4) ?_;have I1:Inv X pins σ H { s with heap:=s.heap.push { cls:=.type "range",data:=.fields #[.int lo t,.int hi u,.int 1 v] },toks:=tk }:=I.kept λb o e=>gF _ e;refine⟨(s.heap.push { cls:=.type "range",data:=.fields #[.int lo t,.int hi u,.int 1 v] }).objs.size,[(s.heap.push { cls:=.type "range",data:=.fields #[.int lo t,.int hi u,.int 1 v] }).objs.size],_,_,H,rfl,
  I1.kept (t':=tk) λb o e=>gF _ e,zr7 _ lo (hi - lo).toNat,?_,λb hb=>?_,q⟩
 ·have e1:lo+((0:Nat):Int)*1=lo:=by simp
  have e2:(((hi - lo).toNat:Nat):Int) - ((0:Nat):Int)=Builtin.Range.rangeSize lo hi 1:=by rw[rangeSize_one];split<;>omega
  show IsRangeIter _ _ (lo+((0:Nat):Int)*1) ((((hi - lo).toNat:Nat):Int) - ((0:Nat):Int)) 1;rw[e1,e2];exact g_ _ rfl
 ·have e:b=(s.heap.push { cls:=.type "range",data:=.fields #[.int lo t,.int hi u,.int 1 v] }).objs.size:=by simpa using hb
  subst e;show 24
noncomputable def aby(ta:TA):TI:=fun σ H R=>ta σ H λvs H1=>∃j:Int,vs=[.int j]/\-(2 ^ 62)<=j/\j<2 ^ 62/\R (Itr 0 j.toNat) H1
def Eu{a:Expr}{ta:TA}{p pos:Pos}(hg:Gl X "range")(hm:X.mg "range" = none)(ha:PA X [a] ta)(hs:starEach [a] X.env=[(false,eval a X.env)]:=by rfl):PI X tg (.Call (.Name "range" p) [a] [] pos) (aby ta):=by
 intro pins s σ H R I h;refine Call_ (Oi I hg hm boot_range (afg 0x17 hs rfl));obtain⟨vs,H1,I1,r1,q1⟩:=zz;obtain⟨j,e,q1,q2,q⟩:=q1;subst e;cases r1 with
 | cons r rr =>
  cases rr;obtain⟨t,rfl⟩:=r;exact call_range_1 (Ir I1 0x0 0x0 q1 q2 (by simpa using q))
noncomputable def acO(wi:TI)(g:TG)(tb:TS):TS:=λD σ H=>wi σ H λJ H1=>∃W:Nat->Nat->St->Hp->Prop,(∃m,W 0 m σ H1)/\∀i m σ H,W i m σ H ->
 (J.stop i H/\D.nx σ H)\/(J.go i H/\∃N:St->Hp->Prop,(∀σ' H',N σ' H'->∃m',m'<m/\W (i+1) m' σ' H')/\∀x H',J.yld i H x H'->g x σ H' fun σ2 H2=>tb { D with nx:=N,ct:=N,bk:=D.nx } σ2 H2)
noncomputable def vq(fp:List Addr)(h:Heap):List 0x6:=fp.filterMap λb=>(h.get? b).map λo=>(b,o)
def zf1(hb:b∈fp)(e:h.get? b=some o):(b,o)∈vq fp h:=pQ.mpr ⟨b,hb,by rw[e];rfl⟩
def Ez(hp:p∈vq fp h):p.1∈fp/\h.get? p.1=some p.2:=by
 obtain⟨b,hb,e⟩:=pQ.mp hp;cases q:h.get? b with
 | none=>rw[q]at e;cases e
 | some o =>
  rw[q]at e;have e':(b,o)=p:=afa e;subst e';exact⟨hb,q⟩
def Inv.pinned(I:Inv X pins σ H s)(hf:∀b∈fp,qM X pins H b)(ho:∀b∈fp,∃o,s.heap.get? b=some o/\∀v,o.data≠.cell v):Inv X (pins++vq fp s.heap) σ H s :=
 I.BK λp hp=>(mz.mp hp).elim (λz=>I.pin p (mF _ z)) λz=>by
  obtain⟨hb,e⟩:=Ez z;obtain⟨f0,f1,f2,_⟩:=hf p.1 hb;obtain⟨o,e',d⟩:=ho p.1 hb;rw[e]at e';cases e';exact⟨e,f0,f1,f2,d⟩
def Inv.qW(I:Inv X (pins++pl) σ H s):Inv X pins σ H s:=I.BK λp hp=>I.pin p (mF _ (pO _ hp))
def Wh{iter:Expr}{body:List Stmt}{wi:TI}{g:TG}{tb:TS}{pos:Pos}(hp:PassesOwn 0x7 X.A X.env X.xe)(hc:X.calm=true)(hi:PI X tg iter wi)(hg:PG X tg g)(hb:zJ X body tb)
  (hs:∀x,foldedSetIterable iter X.env x=pure x:=by intro _;rfl):PS X (.For tg iter body [] pos) (acO wi g tb):=by
 intro pins s σ H D I h;refine wpAny_For (cO (hi pins s σ H _ I h) λv s1 h1=>cO h1 λitv s2 h2=>?_) hs;obtain⟨it,fp,tn,J,H2,e,I2,T,st2,f2,W,⟨m0,w0⟩,turn⟩:=h2;subst e

 have stat:∀{H':Hp},(∀b∈fp,H' b=none)->∀b∈fp,qM X pins H' b:=λhn b hb=>⟨hn b hb,(f2 b hb).2⟩;refine codeAny_forLoop_any (λn s'=>∃i σ' H',Inv X pins σ' H' s'/\tn i s'.heap/\(∀b∈fp,H' b=none)/\W i n σ' H') ?_ m0 ⟨0,σ,H2,I2,st2,λb hb=>(f2 b hb).1,w0⟩;rintro n s3 ⟨i,σ3,H3,I3,ie,fr3,w3⟩;rcases turn i n σ3 H3 w3 with⟨stop,qn⟩ | ⟨go,N,hN,step⟩
 ·refine aft hp (cO (T.done X rfl rfl rfl hc i pins s3 σ3 H3 X.xe I3 (stat fr3) ie stop) λr s4 zz=>?_);obtain⟨hr,I4⟩:=zz;subst hr;exact wpAny_execs_nil ⟨σ3,H3,I4,qn⟩
 ·refine aft hp (cO (T.item X rfl rfl rfl hc i pins s3 σ3 H3 X.xe I3 (stat fr3) ie go) λr s4 zz=>?_);obtain⟨u,hr,h4⟩:=zz;subst hr;refine aft hp (cO h4 λ_ s5 zz=>?_);obtain⟨x,H5,I5,r5,y5,NQ,fr5⟩:=zz;have I5':=I5.pinned (stat fr5) (T.obj _ _ NQ);refine aft hp (cO (hg _ s5 σ3 H5 x u _ I5' r5 (step x H5 y5)) λ_ s6 zz=>?_);obtain⟨σ6,H6,I6,q6⟩:=zz;refine aft hp (cO (hb _ s6 σ6 H6 _ I6 q6) λf s7 q7=>?_);have again:∀{σ7:St} {H7:Hp},Inv X (pins++vq fp s5.heap) σ7 H7 s7->N σ7 H7->∃m,m<n/\∃i σ' H',Inv X pins σ' H' s7/\tn i s7.heap/\(∀b∈fp,H' b=none)/\W i m σ' H':=λ{σ7 H7} I7 n7=>by
   obtain⟨m',hm,w7⟩:=hN σ7 H7 n7;refine⟨m',hm,i+1,σ7,H7,I7.qW,T.keep _ _ _ NQ λb hb o e=>(I7.pin (b,o) (mF _ (mF _ (zf1 hb e)))).1,λb hb=>?_,w7⟩;obtain⟨o,e,d⟩:=T.obj _ _ NQ b hb;exact (I7.pin (b,o) (mF _ (mF _ (zf1 hb e)))).2.1
  cases f with
  | next=>obtain⟨σ7,H7,I7,n7⟩:=q7;exact again I7 n7
  | cont=>obtain⟨σ7,H7,I7,n7⟩:=q7;exact again I7 n7
  | brk=>obtain⟨σ7,H7,I7,q7⟩:=q7;exact⟨σ7,H7,I7.qW,q7⟩
  | ret v=>obtain⟨x7,σ7,H7,I7,r7,q7⟩:=q7;exact⟨x7,σ7,H7,I7.qW,r7,q7⟩
end
noncomputable abbrev R2:=V->V->Hp->VK->Prop
def eQ(X:Cx)(f:Value->Value->Sem Value)(r:R2):Prop :=
 ∀(pins:List 0x6) (s:Shared) (σ:St) (H:Hp) (x y:V) (v u:Value) (Q:VK),Inv X pins σ H s->RelV x v->RelV y u->r x y H Q ->
  wpAny 0x7 X.A (f v u) (EP X pins σ Q) X.xe s
def TQ(X:Cx)(f:Value->Sem Value)(r:V->Hp->VK->Prop):Prop :=
 ∀(pins:List 0x6) (s:Shared) (σ:St) (H:Hp) (x:V) (v:Value) (Q:VK),Inv X pins σ H s->RelV x v->r x H Q ->
  wpAny 0x7 X.A (f v) (EP X pins σ Q) X.xe s
def cL(X:Cx)(f:Value)(r:List V->Hp->VK->Prop):Prop :=
 ∀(pins:List 0x6) (s:Shared) (σ:St) (H:Hp) (xs:List V) (us:List Value) (Q:VK),Inv X pins σ H s->Vals xs us->r xs H Q ->
  wpAny 0x7 X.A (call f us) (EP X pins σ Q) X.xe s
def aeu(X:Cx)(r:V->Hp->(Bool->Hp->Prop)->Prop):Prop :=
 ∀(pins:List 0x6) (s:Shared) (σ:St) (H:Hp) (x:V) (v:Value) (Q:Bool->Hp->Prop),Inv X pins σ H s->RelV x v->r x H Q ->
  wpAny 0x7 X.A (truthy v) (TP X pins σ Q) X.xe s
noncomputable def tOp(r:R2)(ta tb:TE):TE:=fun σ H Q=>ta σ H λx H1=>tb σ H1 λy H2=>r x y H2 Q
noncomputable def tUn(r:V->Hp->VK->Prop)(ta:TE):TE:=fun σ H Q=>ta σ H λx H1=>r x H1 Q
noncomputable def rI(C:Int->Int->Prop)(g:Int->Int->V):R2:=λx y H Q=>∃i j,x=.int i/\y=.int j/\C i j/\Q (g i j) H
noncomputable def V_(g:Int->Int->V):R2:=λx y H Q=>∃i j,x=.int i/\y=.int j/\Q (g i j) H
def rU(g:Int->V):V->Hp->VK->Prop:=λx H Q=>∃i,x=.int i/\Q (g i) H
section
variable  {X:Cx}{a b c:Expr}{ta tb tc:TE}{pos:Pos}
def Y6(ha:PE X a ta)(hb:PE X b tb){pins:List 0x6}{s:Shared}{σ:St}{H:Hp}{R:V->V->Hp->Prop}(I:Inv X pins σ H s)
  (h:ta σ H λx H1=>tb σ H1 λy H2=>R x y H2) {Q:Value->Shared->Prop} {f:Value->Value->Sem Value}
  (hf:∀v u s2 x y H2,Inv X pins σ H2 s2->RelV x v->RelV y u->R x y H2->wpAny 0x7 X.A (f v u) Q X.xe s2) :
  wpAny 0x7 X.A (eval a X.env) (λv aeW=>wpAny 0x7 X.A (eval b X.env) (λu aeV=>wpAny 0x7 X.A (f v u) Q X.xe aeV) X.xe aeW) X.xe s:=by
 refine cO (ha pins s σ H _ I h) λv s1 zz=>?_;show 11;refine cO (hb pins s1 σ H1 _ I1 q1) λu s2 zz=>?_;obtain⟨y,H2,I2,r2,q2⟩:=zz;exact hf v u s2 x y H2 I2 r1 r2 q2
def aa8{op:Operator}{r:R2}(ho:eQ X (binaryOp op) r)(ha:PE X a ta)(hb:PE X b tb):PE X (.BinOp a op b pos) (tOp r ta tb):=by
 show 8;exact wpAny_BinOp (Y6 ha hb I h λv u s2 x y H2 I2 rx ry q=>ho pins s2 σ H2 x y v u Q I2 rx ry q)
def aa6{op:UnaryOp}{r:V->Hp->VK->Prop}(ho:TQ X (unaryOp op) r)(ha:PE X a ta):PE X (.UnaryOp op a pos) (tUn r ta):=by
 show 8;refine UnaryOp_ (cO (ha pins s σ H _ I h) λv s1 zz=>?_);show 11;exact ho pins s1 σ H1 x v Q I1 r1 q1
def opI{f:Value->Value->Sem Value}{C:Int->Int->Prop}{g:Int->Int->Int}
  (rule:∀(i j:Int) (t u:Tok) (s:Shared) (Q:Value->Shared->Prop) (E:Value->Shared->Prop),C i j->Q (.int (g i j) s.toks) { s with toks:=s.toks+1 }->wpAny 0x7 X.A (f (.int i t) (.int j u)) Q E s) :
  eQ X f (rI C λi j=>.int (g i j)):=by
 show 10;obtain⟨i,j,rfl,rfl,hc,q⟩:=h;show 28;obtain⟨t',rfl⟩:=ry;exact rule i j t t' s _ _ hc ⟨.int (g i j),H,I.tok _,⟨_,rfl⟩,q⟩
def abf{f:Value->Value->Sem Value}{g:Int->Int->Int}
  (rule:∀(i j:Int) (t u:Tok) (s:Shared) (Q:Value->Shared->Prop) (E:Value->Shared->Prop),Q (.int (g i j) s.toks) { s with toks:=s.toks+1 }->wpAny 0x7 X.A (f (.int i t) (.int j u)) Q E s) :
  eQ X f (V_ λi j=>.int (g i j)):=by
 show 10;obtain⟨i,j,rfl,rfl,q⟩:=h;show 28;obtain⟨t',rfl⟩:=ry;exact rule i j t t' s _ _ ⟨.int (g i j),H,I.tok _,⟨_,rfl⟩,q⟩
def abg{f:Value->Value->Sem Value}{g:Int->Int->Bool}
  (rule:∀(i j:Int) (t u:Tok) (s:Shared) (Q:Value->Shared->Prop) (E:Value->Shared->Prop),Q (.bool (g i j)) s->wpAny 0x7 X.A (f (.int i t) (.int j u)) Q E s) :
  eQ X f (V_ λi j=>.bl (g i j)):=by
 show 10;obtain⟨i,j,rfl,rfl,q⟩:=h;show 28;obtain⟨t',rfl⟩:=ry;exact rule i j t t' s _ _ ⟨.bl (g i j),H,I,rfl,q⟩
def Zf(i j:Int):Prop:=(-(2 ^ 64)<i/\i<2 ^ 64)\/(-(2 ^ 64)<j/\j<2 ^ 64)
def Zf.ok(h:Zf i j):IntMulOk i j:=by
 rcases h with⟨h1,h2⟩ | ⟨h1,h2⟩
 ·exact .of_left (intBits_le_64 h1 h2)
 ·exact .of_right (intBits_le_64 h1 h2)
def WT:eQ X (binaryOp .Add) (V_ λi j=>.int (i+j)):=abf λ_ _ _ _ _ _ _ q=>add_int q
def WL:eQ X (binaryOp .Sub) (V_ λi j=>.int (i - j)):=abf λ_ _ _ _ _ _ _ q=>sub_int q
def WM:eQ X (binaryOp .Mult) (rI Zf λi j=>.int (i*j)):=opI λ_ _ _ _ _ _ _ hc q=>mul_int q hc.ok
def WN:eQ X (binaryOp .Mod) (rI (λ_ j=>0<j) λi j=>.int (i % j)):=opI λi j _ _ _ _ _ hc q=>by
 have h1:(0:Int)<j:=hc;exact mod_int' 0x0 (by rw[Int.fmod_eq_emod_of_nonneg i 0x0];exact q)
def unI{f:Value->Sem Value}{g:Int->Int}
  (rule:∀(i:Int) (t:Tok) (s:Shared) (Q:Value->Shared->Prop) (E:Value->Shared->Prop),Q (.int (g i) s.toks) { s with toks:=s.toks+1 }->wpAny 0x7 X.A (f (.int i t)) Q E s) :
  TQ X f (rU λi=>.int (g i)):=by
 intro pins s σ H x v Q I rx h;obtain⟨i,rfl,q⟩:=h;show 28;exact rule i t s _ _ ⟨.int (g i),H,I.tok _,⟨_,rfl⟩,q⟩
def VF:TQ X (unaryOp .USub) (rU λi=>.int (-i)):=unI λ_ _ _ _ _ q=>neg_int q
end
section
variable  {X:Cx}{a b c:Expr}{ta tb tc:TE}{pos:Pos}
def Lw(I:Inv X pins σ H s)(q:Q (.bl k) H)(e:k=k'):EP X pins σ Q (.bool k') s:=by
 subst e;exact⟨.bl k,H,I,rfl,q⟩
def abd:eQ X (compareOp .Lt) (V_ λi j=>.bl (decide (i<j))):=abg λ_ _ _ _ _ _ _ q=>lt_int q
def abe:eQ X (compareOp .Gt) (V_ λi j=>.bl (decide (j<i))):=abg λ_ _ _ _ _ _ _ q=>gt_int q
def WQ:eQ X (compareOp .Is) (λx y H Q=>y=.non/\Q (.bl (decide (x=.non))) H):=by
 show 10;obtain⟨rfl,q⟩:=h;cases ry;refine is_none_gen (Lw I q ?_);cases x<;>first
  | (cases rx;rfl)
  | (obtain⟨t,rfl⟩:=rx;rfl)
def QR:eQ X (compareOp .IsNot) (λx y H Q=>y=.non/\Q (.bl (!decide (x=.non))) H):=by
 show 10;obtain⟨rfl,q⟩:=h;cases ry;refine isnot_none_gen (Lw I q ?_);cases x<;>first
  | (cases rx;rfl)
  | (obtain⟨t,rfl⟩:=rx;rfl)
def eQ.or{f:Value->Value->Sem Value}{r r':R2}(h:eQ X f r)(h':eQ X f r'):eQ X f (λx y H Q=>r x y H Q\/r' x y H Q):=by
 intro pins s σ H x y v u Q I rx ry q;rcases q with q | q
 ·exact h pins s σ H x y v u Q I rx ry q
 ·exact h' pins s σ H x y v u Q I rx ry q
def QG{op:CmpOp}{r:R2}(ho:eQ X (compareOp op) r)(ha:PE X a ta)(hb:PE X b tb)(hm:behindInMarks op b=false):PE X (.Compare a [op] [b] pos) (tOp r ta tb):=by
 show 8;exact wpAny_Compare1 (Y6 ha hb I h λv u s2 x y H2 I2 rx ry q=>ho pins s2 σ H2 x y v u Q I2 rx ry q) hm
noncomputable def aav(t:TE):TT:=fun σ H Q=>t σ H λx H'=>∃k,x=.bl k/\Q k H'
def Qi{op:CmpOp}{r:R2}(ho:eQ X (compareOp op) r)(ha:PE X a ta)(hb:PE X b tb)(hm:behindInMarks op b=false):PT X (.Compare a [op] [b] pos) (aav (tOp r ta tb)):=by
 show 8;refine wpAny_isTrue_Compare1 (cO (ha pins s σ H _ I h) λv s1 zz=>?_) hm;show 11;refine cO (hb pins s1 σ H1 _ I1 q1) λu s2 zz=>?_;obtain⟨y,H2,I2,r2,q2⟩:=zz;refine cO (ho pins s2 σ H2 x y v u _ I2 r1 r2 q2) λc s3 zz=>?_;obtain⟨z,H3,I3,r3,k,e,q3⟩:=zz;subst e;cases r3;exact afD ⟨H3,I3,q3⟩
def Y7(K:PySem.W.Frag)(x:V)(H:Hp)(k:Bool):Prop :=
 match x with
 | .non=>k=false
 | .bl b=>k=b
 | .int i=>k=(i != 0)
 | .str y=>y.length<=sizeLine/\k=((y.length:Int) != 0)
 | .byt y=>y.size<=sizeLine/\k=((y.size:Int) != 0)
 | .ref p=>(∃xs,oA K H p xs/\k=!xs.isEmpty)\/(∃xs,oJ K H p xs/\k=!xs.isEmpty)\/∃kvs,H p=some (.dK kvs)/\k=!kvs.isEmpty
 | _=>False
def zrj{κ:Type}{kvs:List (κ×V)}{vs:List (κ×Value)}(r:KV kvs vs):(!vs.isEmpty)=!kvs.isEmpty:=by
 cases r<;>rfl
def zmk{xs:List V}{its:List Value}(r:Vals xs its):(!its.toArray.isEmpty)=!xs.isEmpty:=by
 cases r<;>simp
def iz:(sizeLine:Nat)<2 ^ 63:=by rw[afK];decide
def qu:aeu X (λx H Q=>∃k,Y7 X.K x H k/\Q k H):=by
 intro pins s σ H x v Q I rx h;obtain⟨k,e,q⟩:=h;have hl:=iz;have hs:sizeLine=16777216:=afK;cases x with
 | non =>
  cases rx;have e':k=false:=e;subst e';exact truthy_none ⟨H,I,q⟩
 | bl b =>
  cases rx;have e':k=b:=e;subst e';exact afD ⟨H,I,q⟩
 | int i =>
  show 28;have e':k=(i != 0):=e;subst e';exact PySem.P.truthy_int ⟨H,I,q⟩
 | str y =>
  show 28;obtain⟨hy,e'⟩:y.length<=sizeLine/\k=((y.length:Int) != 0):=e;subst e';exact PySem.P.truthy_str 0x0 ⟨H,I.tok _,q⟩
 | byt y =>
  show 28;obtain⟨hy,e'⟩:y.size<=sizeLine/\k=((y.size:Int) != 0):=e;subst e';exact PySem.W.truthy_bytes 0x0 ⟨H,I.tok _,q⟩
 | ref p =>
  cases rx;have e':(∃xs,oA X.K H p xs/\k=!xs.isEmpty)\/(∃xs,oJ X.K H p xs/\k=!xs.isEmpty)\/∃kvs,H p=some (.dK kvs)/\k=!kvs.isEmpty:=e;rcases e' with⟨xs,hx,e'⟩ | ⟨xs,hx,e'⟩ | ⟨kvs,hx,e'⟩
  ·subst e';obtain⟨its,r,pl,hz⟩:=I.list hx;have hlen:=r.length;exact wpAny_truthy_list pl.isList (by simp only[gG];omega) ⟨H,I.tok _,by rw[zmk r];exact q⟩
  ·subst e';obtain⟨its,r,pl,hz⟩:=I.tuple hx;have hlen:=r.length;exact truthy_tuple pl (by simp only[gG];omega) ⟨H,I.tok _,by rw[zmk r];exact q⟩
  ·subst e';obtain⟨hz,hS,vs,r,m⟩:kvs.length<=sizeLine/\(p==sysModules)=false/\∃vs,KV kvs vs/\s.heap.DictOf (bK X.prog X.w) p vs:=I.bQ p _ hx;have hlen:kvs.length=vs.length:=afr r;exact wpAny_truthy_dict hS m 0x0 ⟨H,I.tok _,by rw[zrj r];exact q⟩
 | _=>exact (show False from e).elim
def Ja(ha:PE X a ta)(he:∀whole,isTrue a X.env whole=(do let v <-whole;standAt a.pos;holding [v] (truthy v))) :
  PT X a (fun σ H Q=>ta σ H λx H'=>∃k,Y7 X.K x H' k/\Q k H'):=by
 show 8;refine isTrue_plain (cO (ha pins s σ H _ I h) λv s1 zz=>?_) (he _);show 11;exact qu pins s1 σ H1 x v Q I1 r1 q1
def zt5:eQ X (binaryOp .Add) (λx y H Q=>∃i j,x=.str i/\y=.str j/\i.length+j.length<=sizeLine/\Q (.str (i++j)) H):=by
 show 10;obtain⟨i,j,rfl,rfl,hz,q⟩:=h;show 28;obtain⟨t',rfl⟩:=ry;exact add_str (λt' tk=>⟨.str (i++j),H,I.tok _,⟨_,rfl⟩,q⟩) hz
def vals1(r:Vals [x] us):∃u,us=[u]/\RelV x u:=by
 cases r with
 | cons r1 r2=>cases r2;exact⟨_,rfl,r1⟩
def vals2(r:Vals [x,y] us):∃u w',us=[u,w']/\RelV x u/\RelV y w':=by
 cases r with
 | cons r1 r2 =>
  cases r2 with
  | cons r3 r4=>cases r4;exact⟨_,_,rfl,r1,r3⟩
def Gv:cL X (.type "int") (λxs H Q=>(∃i,xs=[.int i]/\Q (.int i) H)\/∃k,xs=[.bl k]/\Q (.int (if k then 1 else 0)) H):=by
 intro pins s σ H xs us Q I r h;rcases h with⟨i,rfl,q⟩ | ⟨k,rfl,q⟩
 ·obtain⟨u,rfl,t,rfl⟩:=vals1 r;exact call_int_int ⟨.int i,H,I,⟨_,rfl⟩,q⟩
 ·obtain⟨u,rfl,r1⟩:=vals1 r;cases r1;exact call_int_bool ⟨.int (if k then 1 else 0),H,I.tok _,⟨_,rfl⟩,q⟩
end
structure Ba(h:Heap)(x dx C:Addr)(mA:Str->Option Value):Prop where
 obj:h.get? x=some (PySem.W.instObj C dx)
 ns:h.Ns1 dx mA
 ne:dx≠x
def Fd{h:Heap}{dx:Addr}{mA:Str->Option Value}(n:h.Ns1 dx mA):∃od,h.get? dx=some od/\∀name,PySem.W.lookIn name od=some (mA name):=by
 obtain⟨o,es,ep,ho,hd,hk,_,hm⟩:=n;refine⟨o,ho,λname=>?_⟩;have e:=hm name;unfold nsFind findBy at e;rw[<-Array.find?_toList]at e;unfold PySem.W.lookIn;rw[hd];dsimp only
 split
 ·rename_i y q;rw[q]at e;exact congrArg some e
 ·rename_i q;rw[q]at e;have a:es.toList.any (·.refKey)=false:=by
   rw[List.any_eq_false];intro y hy;obtain⟨z,t,ad5⟩:=hk y (Array.mem_toList_iff.mp hy);simp[DictEntry.refKey,ad5]
  have a':¬ es.toList.any (·.refKey)=true:=by rw[a];exact pP
  rw[ae8 a'];exact congrArg some e
def Ba.look(I:Ba h x dx C mA):∃od,PySem.W.InstAt h x (PySem.W.instObj C dx) C (some od)/\∀name,PySem.W.lookIn name od=some (mA name) :=
 let ⟨od,ho,hl⟩:=Fd I.ns
 ⟨od,⟨I.obj,rfl,rfl,ho⟩,hl⟩
section
variable  {prog:Program}{w:World}{A:Around}{E:Value->Shared->Prop}{s:Shared}{K:PySem.W.Frag}{x dx C f:Addr}{mA:Str->Option Value}{name:Str}{v:Value}
def get_map{expr:Bool}(X:K.In s.heap)(I:Ba s.heap x dx C mA)(hg:PySem.W.plainGet K C name=true)(hh:PySem.W.hasDictIn K C=true) 
  (ha:PySem.W.findIn K (.ref C) name=some none) (hv:mA name=some v) (Ar:PySem.W.handedIn v=true) (h:Q v { s with toks:=s.toks+1 }) :
  wpAny 0xa A (getAttr (.ref x) name expr) Q E s:=by
 obtain⟨od,J,hl⟩:=I.look;exact PySem.W.get_value X J (PySem.W.plainGet_of hg).1 (PySem.W.findObj_own hh ha rfl (by rw[hl,hv])) Ar h
def Lb(X:K.In s.heap)(I:Ba s.heap x dx C mA)(hg:PySem.W.plainGet K C name=true) 
  (hf:PySem.W.findIn K (.ref C) name=some #[9,f]) (ht:PySem.W.isFn K (.ref f)=true) (hv:mA name=none) (h:Q (.ref f,[.ref x]) s) :
  wpAny 0xa A (getMethod (.ref x) name pl) Q E s:=by
 obtain⟨od,J,hl⟩:=I.look;exact PySem.W.method_fn X J (PySem.W.plainGet_of hg).1 (PySem.W.plainGet_of hg).2 hf (beq_iff_eq.mp ht) (by show (PySem.W.lookIn name od).map (·.isSome)=some false;rw[hl,hv];rfl) h
def Pr(X:K.In s.heap)(I:Ba s.heap x dx C mA) 
  (hs:PySem.W.findIn K (.ref C) "__setattr__" = some (some (.builtin "object.__setattr__"))) (hp:PySem.W.plainOver K C=true) (ht:PySem.W.takerIn K C name=some none) (hh:PySem.W.hasDictIn K C=true)
  (hw:PySem.Within mA ns) (hsz:ns.length<=sizeLine)
  (h:∀h',Ba h' x dx C (λy=>if y=name then some v else mA y)->Heap.SameBut dx s.heap h'->Q () { s with heap:=h',toks:=s.toks+2 }) :
  wpAny 0xa A (setAttr (.ref x) name v) Q E s:=by
 obtain⟨od,J,hl⟩:=I.look;refine PySem.W.set_plain X J hs (PySem.W.osa_open (s:={ s with toks:=s.toks+1 }) (r:=none) X J hp ht λb=>?_);obtain⟨cd,hc,zf⟩:=PySem.W.any_some hh;have hx:s.heap.get? x=some ⟨.ref C,some dx,.plain,#[]⟩:=I.obj;refine ae6 (ae9 (ae6 (ae6 (wpAny_loadPart hx (ae6 (PySem.W.Looks.here (s:={ s with toks:=s.toks+1 }) (PySem.W.looks_clsIn X hc) ?_))))));rw[zf];refine ae9 (a:=some dx) (ae6 (ae9 (ae6 ?_)));refine wpAny_nsSet1 (s:={ s with toks:=s.toks+1 }) I.ns λh' hn2 iJ=>?_;obtain⟨oD,esD,epD,hoD,hdD,hcD⟩:=hn2.count (PySem.Within.cons name v hw);refine ae6 (wpAny_lookBehind hoD (by rw[hdD];exact pastItsLine_dict (kh hcD (by rw[gC];omega))) ?_);exact ae9 (h _ ⟨(iJ.2 _ (afi I.ne)).trans I.obj,hn2,I.ne⟩ iJ)
def J4(X:K.In s.heap)(hm:PySem.W.makesIn K C=true) 
  (hi:PySem.W.findIn K (.ref C) "__init__" = some #[9,f]) (hf:PySem.W.typeIn K (.ref f)=some (.type "function"))
  (h:codeAny 0xa (A.under (.builtin "type.__call__" ⟨.ref C::vs,kw⟩)) (.call (.ref f) ⟨.ref (s.heap.objs.size+1)::vs,kw⟩) (PySem.W.InitBack (s.heap.objs.size+1) R)
   { s with heap:=(s.heap.push PySem.W.emptyDict).push (PySem.W.instObj C s.heap.objs.size) }) :
  codeAny 0xa A (.call (.ref C) ⟨vs,kw⟩) R s:=by
 obtain⟨hh,g,d,t,os⟩:=s;exact PySem.W.make_core (PySem.W.makes_of X hm) (PySem.W.looks_findIn X hi) (λself=>PySem.W.bind_fn X self hf) (.inl rfl) h
end
noncomputable def iy(f:Str)(v:V):List (Str×V)->List (Str×V)
 | []=>[(f,v)]
 | (g,x)::r=>if g=f then (g,v)::r else (g,x)::iy f v r
theorem zj3(f g:Str)(v:V):∀fs:List (Str×V),(iy f v fs).lookup g=if g=f then some v else fs.lookup g
 | []=>by
  show List.lookup g [(f,v)]=_;by_cases h:g=f
  ·have hb:(g==f)=true:=beq_iff_eq.mpr h;simp only[List.lookup,hb,ae7 h]
  ·have hb:(g==f)=false:=beq_eq_false_iff_ne.mpr h;simp only[List.lookup,hb,ae8 h]
 | (k,x)::r=>by
  have ih:=zj3 f g v r;rw[show iy f v ((k,x)::r)=(if k=f then (k,v)::r else (k,x)::iy f v r) from rfl];by_cases hk:k=f
  ·rw[ae7 hk];by_cases h:g=k
   ·have hb:(g==k)=true:=beq_iff_eq.mpr h;simp only[List.lookup,hb,ae7 (h.trans hk)]
   ·have hb:(g==k)=false:=beq_eq_false_iff_ne.mpr h;simp only[List.lookup,hb,ae8 (λe:g=f=>h (e.trans hk.symm))]
  ·rw[ae8 hk];by_cases h:g=k
   ·have hb:(g==k)=true:=beq_iff_eq.mpr h;simp only[List.lookup,hb,ae8 (λe:g=f=>hk (h.symm.trans e))]
   ·have hb:(g==k)=false:=beq_eq_false_iff_ne.mpr h;simp only[List.lookup,hb];exact ih
theorem zk2(f:Str)(v:V):∀fs:List (Str×V),f∈(iy f v fs).map (·.1)/\∀g,g∈fs.map (·.1)->g∈(iy f v fs).map (·.1)
 | []=>⟨by simp[iy],λg h=>by simp at h⟩
 | (k,x)::r=>by
  obtain⟨i1,i2⟩:=zk2 f v r;rw[show iy f v ((k,x)::r)=(if k=f then (k,v)::r else (k,x)::iy f v r) from rfl];by_cases hk:k=f
  ·rw[ae7 hk];subst hk;exact⟨by simp,λg h=>by simpa using h⟩
  ·rw[ae8 hk];refine⟨?_,λg h=>?_⟩
   ·rw[gq];exact kW _ i1
   ·rw[gq]at h ⊢;rcases gm.mp h with e | e
    ·exact gm.mpr (.inl e)
    ·exact kW _ (i2 g e)
theorem zjr(f:Str)(v:V):∀fs:List (Str×V),(iy f v fs).length<=fs.length+1
 | []=>by simp[iy]
 | (k,x)::r=>by
  have ih:=zjr f v r;rw[show iy f v ((k,x)::r)=(if k=f then (k,v)::r else (k,x)::iy f v r) from rfl];by_cases hk:k=f
  ·rw[ae7 hk,gC,gC];omega
  ·rw[ae8 hk,gC,gC];omega
def lu.some_of(r:lu (some v) o):∃u,o=some u/\RelV v u:=by
 cases o with
 | none=>exact (show False from r).elim
 | some u=>exact⟨u,rfl,r⟩
def lu.none_of(r:lu none o):o=none:=by
 cases o with
 | none=>rfl
 | some u=>exact (show False from r).elim
def FQ(r:RelV v u):PySem.W.handedIn u=true:=by
 cases v with
 | non=>cases (show u=Value.none from r);rfl
 | bl b=>cases (show u=Value.bool b from r);rfl
 | int i=>obtain⟨t,e⟩:=(show ∃t,u=Value.int i t from r);cases e;rfl
 | str x=>obtain⟨t,e⟩:=(show ∃t,u=Value.str x t from r);cases e;rfl
 | byt b=>obtain⟨t,e⟩:=(show ∃t,u=Value.bytes b t from r);cases e;rfl
 | flt b=>obtain⟨t,e⟩:=(show ∃t,u=Value.float b t from r);cases e;rfl
 | ref a=>cases (show u=Value.ref a from r);rfl
 | ty n=>cases (show u=Value.type n from r);rfl
section
variable  {P:Program}{w:World}{H H':Hp}{h h':Heap}{a C dx:Addr}{fs yH:List (Str×V)}
def zqd(bQ:lz P w H h)(e:H a=some (.ins C dx fs)):∃mA,Ba h a dx C mA/\(∀f,lu (fs.lookup f) (mA f))/\PySem.Within mA (fs.map (·.1))/\fs.length<=1000/\H dx=some (.own a):=by
 obtain⟨d,z,ne,ob,mA,n,r,q⟩:=(show cA P w H h a (.ins C dx fs) from bQ a _ e);exact⟨mA,⟨ob,n,ne⟩,r,q,z,d⟩
end
structure Dr(K:PySem.W.Frag)(C:Addr):Prop where
 pg:PySem.W.plainGet K C Str.empty=true
 hd:PySem.W.hasDictIn K C=true
 po:PySem.W.plainOver K C=true
 sa:PySem.W.findIn K (.ref C) "__setattr__" = some (some (.builtin "object.__setattr__"))
def Dr.get{K:PySem.W.Frag}{C:Addr}(c:Dr K C)(f:Str):PySem.W.plainGet K C f=true:=c.pg
def iY(K:PySem.W.Frag)(C:Addr)(f:Str):Prop:=PySem.W.findIn K (.ref C) f=some none
def iY.aat{K:PySem.W.Frag}{C:Addr}{f:Str}(n:iY K C f):PySem.W.takerIn K C f=some none:=by
 unfold PySem.W.takerIn;rw[show PySem.W.findIn K (.ref C) f=some none from n]
 rfl
structure Con(K:PySem.W.Frag)(C:Addr)(f:Str)(v:V)(u:Value):Prop where
 at_:PySem.W.findIn K (.ref C) f=some (some u)
 rel:RelV v u
 get:PySem.W.specialIn K u "__get__" = some none
 cp:PySem.W.copiedNames.contains f=false
structure Meth(K:PySem.W.Frag)(C:Addr)(m:Str)(f:Addr):Prop where
 at_:PySem.W.findIn K (.ref C) m=some #[9,f]
 fn:PySem.W.isFn K (.ref f)=true
 kp:PySem.W.keepIn K (.ref f)=true
section
variable  {X:Cx}{pins:List 0x6}{σ:St}{H:Hp}{s:Shared}{a C dx:Addr}{fs:List (Str×V)}{f:Str}{v:V}{A:Around}{E:Value->Shared->Prop}
def zt7(I:Inv X pins σ H s)(e:H a=some (.ins C dx fs))(c:Dr X.K C)(n:iY X.K C f)(l:fs.lookup f=some v) 
  (h:∀u s',Inv X pins σ H s'->RelV v u->Q u s'):wpAny 0x7 A (getAttr (.ref a) f b) Q E s:=by
 obtain⟨mA,O,r,_,_,_⟩:=zqd I.bQ e;obtain⟨u,hu,ru⟩:=lu.some_of (v:=v) (o:=mA f) (by rw[<-l];exact r f);exact get_map I.qR O (c.get f) c.hd n hu (FQ ru) (h u _ (I.tok _) ru)
def zry(I:Inv X pins σ H s)(e:H a=some (.ins C dx fs))(c:Dr X.K C)(k:Meth X.K C m g)(l:fs.lookup m=none) 
  (h:Q (.ref g,[.ref a]) s):wpAny 0x7 A (getMethod (.ref a) m pl) Q E s:=by
 obtain⟨mA,O,r,_,_,_⟩:=zqd I.bQ e;have hn:mA m=none:=lu.none_of (by rw[<-l];exact r m);exact Lb I.qR O (c.get m) k.at_ k.fn hn h
def zrs(I:Inv X pins σ H s)(e:H a=some (.ins C dx fs))(c:Dr X.K C)(n:iY X.K C f)(hl:fs.length<1000)(ry:RelV y u) 
  (h:∀s',Inv X pins σ (upd H a (.ins C dx (iy f y fs))) s'->Q () s'):wpAny 0x7 A (setAttr (.ref a) f u) Q E s:=by
 obtain⟨mA,O,r,wi,_,ho⟩:=zqd I.bQ e;have hz:(fs.map (·.1)).length<=sizeLine:=by rw[gj,afK];omega
 refine Pr I.qR O c.sa c.po n.aat c.hd wi hz λh' O' sb=>h _ ?_;have hd:∃o,h'.get? dx=some o:=let ⟨o,_,_,e',_⟩:=O'.ns;⟨o,e'⟩;refine I.write (x:=a) (e:=dx) (by rw[e];exact True.intro) (.inr ho) (λb q hb z=>(sb.2 b hb).trans z) hd ?_;refine⟨by rw[iK O.ne];exact ho,?_,O.ne,O'.obj,_,O'.ns,λg=>?_,λg hg=>?_⟩
 ·have:=zjr f y fs;omega
 ·show lu ((iy f y fs).lookup g) (if g=f then some u else mA g);rw[zj3];by_cases q:g=f
  ·rw[ae7 q,ae7 q];exact ry
  ·rw[ae8 q,ae8 q];exact r g
 ·by_cases q:g=f
  ·rw[q];exact (zk2 f y fs).1
  ·refine (zk2 f y fs).2 g (wi g λz=>hg ?_);show (if g=f then some u else mA g)=none;rw[ae8 q];exact z
def Inv.made(I:Inv X pins σ H s):Inv X pins σ (upd (upd H s.heap.objs.size (.own (s.heap.objs.size+1))) (s.heap.objs.size+1) (.ins C s.heap.objs.size []))
  { s with heap:=(s.heap.push PySem.W.emptyDict).push (PySem.W.instObj C s.heap.objs.size) }:=by
 have e1:(s.heap.push PySem.W.emptyDict).get? s.heap.objs.size=some PySem.W.emptyDict:=g_ s.heap rfl;have e2:((s.heap.push PySem.W.emptyDict).push (PySem.W.instObj C s.heap.objs.size)).get? (s.heap.objs.size+1)=some (PySem.W.instObj C s.heap.objs.size):=by
  have:=g_ (s.heap.push PySem.W.emptyDict) (o:=PySem.W.instObj C s.heap.objs.size) rfl;rwa[Heap.size_push]at this
 have e3:(s.heap.push PySem.W.emptyDict).Ns s.heap.objs.size (λ_=>none):=⟨PySem.W.emptyDict,#[],_,e1,rfl,(λe he=>absurd he 0x1),λ_=>rfl⟩;have I1:=I.laid (a:=s.heap.objs.size) (o:=.own (s.heap.objs.size+1)) (h':=s.heap.push PySem.W.emptyDict) (t':=s.toks) (λb u q=>gF _ q) (gb _) ⟨_,e1⟩;refine I1.laid (a:=s.heap.objs.size+1) (o:=.ins C s.heap.objs.size []) (t':=s.toks) (λb u q=>gF _ q) (Nat.le_of_eq (Heap.size_push _ _)) ?_;have ne:s.heap.objs.size≠s.heap.objs.size+1:=gY (nY _);refine⟨by rw[iK ne,qT],mL _,ne,e2,λ_=>none,(Heap.Ns1.of_empty e3).at λo q=>gF _ q,λ_=>True.intro,λy hy=>absurd rfl hy⟩
def Tn(hb:attributeBase e f env (eval e env)=eval e env) 
  (h:wpAny 0xa A (eval e env) (λo aeW=>wpAny 0xa A (getAttr o f true) Q E aeW) E s):wpAny 0xa A (eval (.Attribute e f pos) env) Q E s :=
 Attribute_any_ h (by rw[arm_eval_Attribute,hb])
end
noncomputable def acP(K:PySem.W.Frag)(ta:TE)(f:Str):TE:=fun σ H Q=>ta σ H λx H1=>∃a C dx fs v,x=.ref a/\H1 a=some (.ins C dx fs)/\Dr K C/\iY K C f/\fs.lookup f=some v/\Q v H1
noncomputable def acZ(K:PySem.W.Frag)(ta tv:TE)(f:Str):TS:=λD σ H=>tv σ H λy H1=>ta σ H1 λx H2=>∃a C dx fs,x=.ref a/\H2 a=some (.ins C dx fs)/\Dr K C/\iY K C f/\fs.length<1000 /\
 D.nx σ (upd H2 a (.ins C dx (iy f y fs)))
section
variable  {X:Cx}{o e value:Expr}{f:Str}{pos pos' xO:Pos}{ta tv:TE}
def Wz(he:PE X e ta)(hb:attributeBase e f X.env (eval e X.env)=eval e X.env):PE X (.Attribute e f pos) (acP X.K ta f):=by
 show 8;refine Tn hb (cO (he pins s σ H _ I h) λu s1 zz=>?_);obtain⟨x,H1,I1,rx,a,C,dx,fs,v,ex,ea,c,n,l,q⟩:=zz;subst ex;obtain rfl:u=Value.ref a:=rx;exact zt7 I1 ea c n l λu' s2 I2 ru=>⟨v,H1,I2,ru,q⟩
def Wi(ha:PE X o ta)(hv:PE X value tv)(hs:swapsWith value (some (.Attribute o f pos')) pos.line X.env=pure false):PS X (.Assign [.Attribute o f pos'] value pos) (acZ X.K ta tv f):=by
 intro pins s σ H D I h;refine plainObj_wpAny_Assign_Attribute (cO (hv pins s σ H _ I h) λu s1 zz=>?_) hs;obtain⟨y,H1,I1,ry,q⟩:=zz;refine cO (ha pins s1 σ H1 _ I1 q) λov s2 zz=>?_;obtain⟨x,H2,I2,rx,a,C,dx,fs,ex,ea,c,n,l,q2⟩:=zz;subst ex;obtain rfl:ov=Value.ref a:=rx;exact zrs I2 ea c n l ry λs3 I3=>⟨σ,_,I3,q2⟩
end
section
variable  {X:Cx}{pins:List 0x6}{σ:St}{H:Hp}{s:Shared}{A:Around}{E:Value->Shared->Prop}{Q:Value->Shared->Prop}{c:Value}{b:Bool}
inductive uV (K:PySem.W.Frag) (H:Hp):V->Value->Prop where
 | non:uV K H .non (.type "NoneType")
 | bl (x:Bool):uV K H (.bl x) (.type "bool")
 | int (i:Int):uV K H (.int i) (.type "int")
 | str (x:Str):uV K H (.str x) (.type "str")
 | flt (x:UInt64):uV K H (.flt x) (.type "float")
 | lst {a:Addr} {xs:List V} (e:H a=some (.lst xs)):uV K H (.ref a) (.type "list")
 | frz {a:Addr} {o:Obj} {xs:List V} (e:H a=some (.frz o (.lst xs))):uV K H (.ref a) (.type "list")
 | tup {a:Addr} {xs:List V} (e:H a=some (.tup xs)):uV K H (.ref a) (.type "tuple")
 | dK {a:Addr} {kvs:List (Key×V)} (e:H a=some (.dK kvs)):uV K H (.ref a) (.type "dict")
 | dT {a:Addr} {kvs:List (List Key×V)} (e:H a=some (.dT kvs)):uV K H (.ref a) (.type "dict")
 | ins {a C dx:Addr} {fs:List (Str×V)} (e:H a=some (.ins C dx fs)) (cl:Dr K C) (ha:PySem.W.findIn K (.ref C) "__class__" = some (some (.builtin "object.__class__")))
   (hn:PySem.W.specialIn K (.builtin "object.__class__") "__get__" = some (some (.builtin "getset_descriptor.__get__"))) (htk:PySem.W.takesIn K (.builtin "object.__class__")=some true)
   (hm:PySem.W.mroIn K C (.type "object")=some true):uV K H (.ref a) (.ref C)
def ZC{x:V}{u t:Value}(I:Inv X pins σ H s)(rx:RelV x u)(ty:uV X.K H x t)(e:PySem.W.kitOne X.K t c=some b)(h:∀tk,Q (.bool b) { s with toks:=tk }) :
  wpAny 0x7 A (call (.builtin "isinstance") [u,c]) Q E s:=by
 cases ty with
 | non=>cases (show u=Value.none from rx);exact afe PySem.W.kitx_none I.qR True.intro e (λz=>nomatch z) h
 | bl y=>cases (show u=Value.bool y from rx);exact afe PySem.W.kitx_bool I.qR True.intro e (λz=>nomatch z) h
 | int i=>obtain⟨t,q⟩:=(show ∃t,u=Value.int i t from rx);cases q;exact afe PySem.W.kitx_int I.qR True.intro e (λz=>nomatch z) h
 | str y=>obtain⟨t,q⟩:=(show ∃t,u=Value.str y t from rx);cases q;exact afe PySem.W.kitx_str I.qR True.intro e (λz=>nomatch z) h
 | flt y=>obtain⟨t,q⟩:=(show ∃t,u=Value.float y t from rx);cases q;exact afe PySem.W.kitx_float I.qR True.intro e (λz=>nomatch z) h
 | @lst a xs ea =>
  show 25;obtain⟨_,_,n,_,h1⟩:=(show cA X.prog X.w H s.heap a (.lst xs) from I.bQ a _ ea);exact afe PySem.W.kitx_list I.qR ⟨_,h1,rfl⟩ e (λz=>nomatch z) h
 | @frz a ob xs ea =>
  show 25;obtain⟨_,_,_,n,_,h1⟩:=(show cA X.prog X.w H s.heap a (.frz ob (.lst xs)) from I.bQ a _ ea);exact afe PySem.W.kitx_list I.qR ⟨_,h1,rfl⟩ e (λz=>nomatch z) h
 | @tup a xs ea =>
  show 25;obtain⟨_,_,_,p⟩:=(show cA X.prog X.w H s.heap a (.tup xs) from I.bQ a _ ea);obtain⟨o,h1,h2,_⟩:=p;exact afe PySem.W.kitx_tuple I.qR ⟨o,h1,h2⟩ e (λz=>nomatch z) h
 | @dK a kvs ea =>
  show 25;obtain⟨_,_,vs,_,p⟩:=(show cA X.prog X.w H s.heap a (.dK kvs) from I.bQ a _ ea);obtain⟨o,es,ep,h1,h2,_⟩:=p;exact afe PySem.W.kitx_dict I.qR ⟨o,h1,h2.1⟩ e (λz=>nomatch z) h
 | @dT a kvs ea =>
  show 25;obtain⟨_,_,xs,_,o,es,ep,h1,h2,_⟩:=(show cA X.prog X.w H s.heap a (.dT kvs) from I.bQ a _ ea);exact afe PySem.W.kitx_dict I.qR ⟨o,h1,h2.1⟩ e (λz=>nomatch z) h
 | @ins a C dx fs ea cl ha hn htk hm =>
  show 25;obtain⟨mA,O,_⟩:=zqd I.bQ ea;obtain⟨od,J,_⟩:=O.look;exact afe (PySem.W.kitx_own (cl.get _) cl.hd ha hn htk hm) I.qR J e (λz=>nomatch z) h
end
structure cT(k:Nat)(A:Around):Prop where
 hd:A.handled=none
 dp:A.depth+3*k+5<recursionLimit
 un:A.units+16*k+200<cLine
def cT.mono(r:cT k A)(h:j<=k):cT j A:=⟨r.hd,by have:=r.dp;omega,by have:=r.un;omega⟩
def cT.deeper(r:cT (k+1) A)(env:Env):cT k (A.deeper env) :=
 ⟨r.hd,by have:=r.dp;show A.depth+1+3*k+5<_;omega,by have:=r.un;show A.units+3+16*k+200<_;omega⟩
def zsv{A:Around}{C:Addr}{us:List Value}{kw:List (Str×Value)}:(A.under (.builtin "type.__call__" ⟨.ref C::us,kw⟩)).depth=A.depth+1:=by
 first | rfl | simp[Around.under,Code.weight,Code.isCreation,Code.isGuard,Code.isCaller,Code.frames,Code.isFrame,guardIds]
def zru{A:Around}{C:Addr}{us:List Value}{kw:List (Str×Value)}:(A.under (.builtin "type.__call__" ⟨.ref C::us,kw⟩)).units=A.units+1:=by
 first | rfl | simp[Around.under,Code.cUnits,Code.frames,Code.isFrame]
def cT.make(r:cT (k+1) A)(C:Addr)(us:List Value)(kw:List (Str×Value)):cT k (A.under (.builtin "type.__call__" ⟨.ref C::us,kw⟩)) :=
 ⟨r.hd,by have:=r.dp;rw[zsv];omega,by have:=r.un;rw[zru];omega⟩
def cT.depth(r:cT k A):A.depth<recursionLimit:=by have:=r.dp;omega
def cT.units(r:cT k A):A.units+64<cLine:=by have:=r.un;omega
noncomputable def aay:TA:=λ_ H Q=>Q [] H
noncomputable def aaG(ta:TE)(tr:TA):TA:=fun σ H Q=>ta σ H λx H1=>tr σ H1 λxs H2=>Q (x::xs) H2
section
variable  {X:Cx}{e:Expr}{es:List Expr}{te:TE}{t:TA}{pos:Pos}
def Ag:PA X [] aay:=λ_ _ _ _ H Q I h=>Calls.spliced_nil ⟨[],H,I,.nil,h⟩
def zmo(ha:PE X e te)(hr:PA X es t)(hs:starEach (e::es) X.env=0xb::starEach es X.env:=by rfl):PA X (e::es) (aaG te t):=by
 intro pos pins s σ H Q I h;rw[hs];show wpAny _ _ (spliced (0xb::backTo pos (starEach es X.env))) _ _ s;refine Calls.spliced_cons (cO (ha pins s σ H _ I h) λu s1 zz=>?_);show 11;refine cO (hr pos pins s1 σ H1 _ I1 q1) λus s2 zz=>?_;obtain⟨xs,H2,I2,r2,q2⟩:=zz;exact⟨x::xs,H2,I2,.cons r1 r2,q2⟩
noncomputable def acG(t:TA):TE:=fun σ H Q=>t σ H λxs H1=>xs.length<=sizeLine/\∀p,H1 p=none->Q (.ref p) (upd H1 p (.tup xs))
noncomputable def acL(t:TA):TE:=fun σ H Q=>t σ H λxs H1=>xs.length<=sizeLine/\∀p,H1 p=none->Q (.ref p) (upd H1 p (.lst xs))
def Wr{x1}(h:PA X es t):PE X (.Tuple es x1 pos) (acG t):=by
 intro pins s σ H Q I hq;refine wpAny_Tuple_spliced (cO (h pos pins s σ H _ I hq) λus s1 zz=>?_);obtain⟨xs,H1,I1,r,z,q⟩:=zz;refine⟨by rw[<-r.length];exact z,?_⟩;have hf:H1 s1.heap.objs.size=none:=I1.bQ.fresh (gb _);refine⟨.ref s1.heap.objs.size,upd H1 s1.heap.objs.size (.tup xs),I1.laid (t':=s1.toks) (λb u e=>gF _ e) (gb _) ?_,rfl,q _ hf⟩;exact⟨z,us,r,⟨_,g_ _ rfl,rfl,_,rfl⟩⟩
def Ww(h:PA X es t):PE X (.List es pos) (acL t):=by
 intro pins s σ H Q I hq;refine wpAny_List_spliced (cO (h pos pins s σ H _ I hq) λus s1 zz=>?_);obtain⟨xs,H1,I1,r,z,q⟩:=zz;refine⟨by rw[<-r.length];exact z,?_⟩;have hf:H1 s1.heap.objs.size=none:=I1.bQ.fresh (gb _);refine⟨.ref s1.heap.objs.size,upd H1 s1.heap.objs.size (.lst xs),I1.laid (t':=s1.toks) (λb u e=>gF _ e) (gb _) ?_,rfl,q _ hf⟩;exact⟨z,us,0,r,g_ _ rfl⟩
end
noncomputable abbrev Sp:=List V->Hp->VK->XK->Prop
noncomputable abbrev Ni:=List Env->Hp->Shared->XK->Value->Shared->Prop
structure yE(P:Program)(w:World)(K:PySem.W.Frag)(mg:Str->Option Value)(base:Heap)(A:Around)(outer:List Env)(s:Shared)(H:Hp):Prop where
 frames:A.frames=some outer
 mod:Mod K mg base
 bs:∀b o,base.get? b=some o->s.heap.get? b=some o/\H b=none
 Gz:base.objs.size<=s.heap.objs.size
 oU:s.heap.FunFrames base outer
 Li:∀b∈CQ outer,H b=none
 bQ:lz P w H s.heap
 bare:AllBare s.gens
def CE(outer:List Env)(P:Program)(w:World)(H:Hp)(s:Shared)(Q:VK)(u:Value)(s':Shared):Prop :=
 ∃v H',s'.os=s.os/\AllBare s'.gens/\Un (CQ outer) [] H H' s.heap s'.heap/\lz P w H' s'.heap/\RelV v u/\Q v H'
def CR(CX:Ni)(outer:List Env)(P:Program)(w:World)(H:Hp)(s:Shared)(Q:VK)(E:XK)(r:Result)(s':Shared):Prop :=
 match r with
 | .ok (.ret u)=>CE outer P w H s Q u s'
 | .ok _=>False
 | .error e=>CX outer H s E e s'
structure cH(P:Program)(w:World)(K:PySem.W.Frag)(mg:Str->Option Value)(base:Heap)(CX:Ni)(k:Nat)(f:Addr)(fd:FuncData)(ps:List Str)(sp:Sp):Prop where
 len:∀vs H Q E,sp vs H Q E->vs.length=ps.length
 run:∀(A:Around) (outer:List Env) (s:Shared) (H:Hp) (args:Args) (us:List Value) (vs:List V) (Q:VK) (E:XK),cT k A->yE P w K mg base A outer s H->BindsTo s fd args (ps.zip us)->Vals vs us->sp vs H Q E ->
  codeAny (model P w) A (.call (.ref f) args) (CR CX outer P w H s Q E) s
def cH.mono{P:Program}{w:World}{K:PySem.W.Frag}{mg:Str->Option Value}{base:Heap}{CX:Ni}{j k:Nat}{f:Addr}{fd:FuncData}{ps:List Str}{sp:Sp}(F:cH P w K mg base CX j f fd ps sp)(h:j<=k) :
  cH P w K mg base CX k f fd ps sp:=⟨F.len,λA outer s H args us vs Q E hr=>F.run A outer s H args us vs Q E (hr.mono h)⟩
def cH.imp{P:Program}{w:World}{K:PySem.W.Frag}{mg:Str->Option Value}{base:Heap}{CX:Ni}{k:Nat}{f:Addr}{fd:FuncData}{ps:List Str}{sp sp':Sp}(F:cH P w K mg base CX k f fd ps sp)
  (h:∀vs H Q E,sp' vs H Q E->sp vs H Q E):cH P w K mg base CX k f fd ps sp' :=
 ⟨λvs H Q E q=>F.len vs H Q E (h _ _ _ _ q),λA outer s H args us vs Q E hr he hb hv hs=>F.run A outer s H args us vs Q E hr he hb hv (h _ _ _ _ hs)⟩
def yE.make{P:Program}{w:World}{K:PySem.W.Frag}{mg:Str->Option Value}{base:Heap}{A:Around}{outer:List Env}{s:Shared}{H:Hp}(e:yE P w K mg base A outer s H)(C:Addr)(us:List Value)(kw:List (Str×Value)) :
  yE P w K mg base (A.under (.builtin "type.__call__" ⟨.ref C::us,kw⟩)) outer s H:=⟨by first | exact e.frames | (simpa[Around.under,Code.envs,Code.isFrame,pushEnvs] using e.frames),e.mod,e.bs,e.Gz,e.oU,e.Li,e.bQ,e.bare⟩
section
variable  {X:Cx}{pins:List 0x6}{σ:St}{H:Hp}{s s':Shared}
def Inv.R6(I:Inv X pins σ H s):yE X.prog X.w X.K X.mg X.base X.A X.stack s H :=
 ⟨I.ok.frames,I.ok.mod,I.bs,kh I.ok.Gz I.sz,I.stack,I.Bp,I.bQ,I.bare⟩
def Inv.after(I:Inv X pins σ H s)(h:CE X.stack X.prog X.w H s Q u s'):EP X pins σ Q u s':=by
 obtain⟨v,H',os,bare,un,bQ,r,q⟩:=h;obtain⟨hh,g,d,t,os'⟩:=s';obtain rfl:os'=s.os:=os;exact⟨v,H',I.call (h':=hh) (g':=g) (d':=d) (t':=t) (ch:=[]) un bQ bare (λb z=>absurd z 0x1),r,q⟩
end
noncomputable def Ub(sp:Sp)(lX:List V)(E:XK)(t:TA):TE:=fun σ H Q=>t σ H λvs H1=>sp (vs++lX) H1 Q E
noncomputable def aaA(C:Addr)(m:Str)(sp:Sp)(lX:List V)(E:XK)(ta:TE)(t:TA):TE:=fun σ H Q=>ta σ H λx H1=>∃a dx fs,x=.ref a/\H1 a=some (.ins C dx fs)/\fs.lookup m=none /\
 t σ H1 λvs H2=>sp (x::(vs++lX)) H2 Q E
noncomputable def aaB(C:Addr)(sp:Sp)(lX:List V)(E:XK)(t:TA):TE:=fun σ H Q=>t σ H λvs H1=>∀x dx,H1 x=none->H1 dx=none->dx≠x ->
 sp (.ref x::(vs++lX)) (upd (upd H1 dx (.own x)) x (.ins C dx [])) (λv H2=>v=.non/\Q (.ref x) H2) E
def Binds(K:PySem.W.Frag)(fd:FuncData)(ps:List Str)(ds:List Value):Prop :=
 ∀(s:Shared) (us:List Value),K.In s.heap->(us++ds).length=ps.length->BindsTo s fd ⟨us,[]⟩ (ps.zip (us++ds))
def Binds.all{K:PySem.W.Frag}{fd:FuncData}{ps:List Str}(h:∀us:List Value,us.length=ps.length->bindArgs fd ⟨us,[]⟩=pure (ps.zip us)):Binds K fd ps []:=λs us _ hl=>by
 rw[gw]at hl ⊢;exact .of_eq (h us hl)
def Passes(CX:Ni)(X:Cx)(E:XK):Prop:=∀(pins:List 0x6) (σ:St) (H:Hp) (s:Shared) (e:Value) (s':Shared),Inv X pins σ H s->CX X.stack H s E e s'->X.xe e s'
section
variable  {X:Cx}{CX:Ni}{k:Nat}{f C:Addr}{fd:FuncData}{ps:List Str}{sp:Sp}{lX:List V}{ds:List Value}{E:XK}{x m:Str}{p pos apos:Pos}{e o:Expr}{es:List Expr}{ta:TE}{t:TA}
def Aa(F:cH X.prog X.w X.K X.mg X.base CX k f fd ps sp)(hr:cT k X.A)(hb:Binds X.K fd ps ds)(hd:Vals lX ds)(hx:Passes CX X E) 
  (I:Inv X pins σ H s) (r:Vals vs us) (h:sp (vs++lX) H Q E):wpAny 0x7 X.A (call (.ref f) us) (EP X pins σ Q) X.xe s:=by
 have r2:Vals (vs++lX) (us++ds):=r.append hd;have hl:(us++ds).length=ps.length:=by rw[<-r2.length];exact F.len _ _ _ _ h
 refine wpAny_call (afO (F.run X.A X.stack s H ⟨us,[]⟩ (us++ds) (vs++lX) Q E hr I.R6 (hb s us I.qR hl) r2 h) λr s' hq=>?_);cases r with
 | error e=>exact hx pins σ H s e s' I hq
 | ok fl =>
  cases fl with
  | ret u=>exact I.after hq
  | next=>exact False.elim hq
  | brk=>exact False.elim hq
  | cont=>exact False.elim hq
def QH(F:cH X.prog X.w X.K X.mg X.base CX k f fd ps sp)(hr:cT k X.A)(hg:Gl X x)(hm:X.mg x=some (.ref f))(hk:PySem.W.keepIn X.K (.ref f)=true)(hb:Binds X.K fd ps ds)(hd:Vals lX ds)(hx:Passes CX X E)
  (ha:PA X (e::es) t) (rY:0xc=false:=by decide) (he:starEach (e::es) X.env=0xb::starEach es X.env:=by rfl) (oO:#[10,pos,es].any (·.1)=false:=by rfl) :
  PE X 0x13 (Ub sp lX E t):=by
 show 8;refine afl (zm8 I hg hm ?_ rY);refine afx (h₀:=X.base) I.ok.mod.Xg hk 0x17 he oO;obtain⟨vs,H1,I1,r,q⟩:=zz;refine⟨I1.qR,?_⟩;exact Aa F hr hb hd hx I1 r q
def Js(F:cH X.prog X.w X.K X.mg X.base CX k f fd ps sp)(hr:cT k X.A)(hg:Gl X x)(hm:X.mg x=some (.ref f))(hk:PySem.W.keepIn X.K (.ref f)=true)(hb:Binds X.K fd ps ds)(hd:Vals lX ds)(hx:Passes CX X E)
  (rY:0xc=false:=by decide):PE X (.Call (.Name x p) [] [] pos) (Ub sp lX E aay):=by
 show 8;refine afl (zm8 I hg hm ?_ rY);exact PySem.W.callWith_K0 I.qR hk (Aa (us:=[]) F hr hb hd hx I .nil h)
def Qy{pl:Sem Bool}(he:PE X o ta)(c:Dr X.K C)(hm:Meth X.K C m f)(F:cH X.prog X.w X.K X.mg X.base CX k f fd ps sp)(hr:cT k X.A)(hb:Binds X.K fd ps ds)(hd:Vals lX ds)(hx:Passes CX X E)(ha:PA X (e::es) t)
  (Fy:starEach (e::es) X.env=0xb::starEach es X.env:=by rfl) (oO:#[10,pos,es].any (·.1)=false:=by rfl)
  (ht:eval (.Call (.Attribute o m apos) (e::es) [] pos) X.env=(do
   let ov <-eval o X.env
   standAt apos.atName
   let (f,first) <-holding [ov] (getMethod ov m pl)
   callWith pos f first (backTo pos (starEach (e::es) X.env)) (backToKw pos (keywordEach [] X.env))):=by rfl) :
  PE X (.Call (.Attribute o m apos) (e::es) [] pos) (aaA C m sp lX E ta t):=by
 show 8;refine PySem.W.methodCall_KW (pl:=pl) (cO (he pins s σ H _ I h) λu s1 zz=>?_) ht;obtain⟨x,H1,I1,rx,a,dx,fs,ex,ea,l,q⟩:=zz;subst ex;obtain rfl:u=Value.ref a:=rx;refine zry I1 ea c hm l ?_;refine afx (first:=[.ref a]) (h₀:=X.base) I.ok.mod.Xg hm.kp (cO (ha pos pins s1 σ H1 _ I1 q) λus s2 zz=>?_) Fy oO;obtain⟨vs,H2,I2,r,q2⟩:=zz;refine⟨I2.qR,?_⟩;exact Aa (us:=.ref a::us) (vs:=.ref a::vs) F hr hb hd hx I2 (.cons rfl r) q2
structure Mk(K:PySem.W.Frag)(C f:Addr):Prop where
 makes:PySem.W.makesIn K C=true
 init:PySem.W.findIn K (.ref C) "__init__" = some #[9,f]
 fn:PySem.W.isFn K (.ref f)=true
 kp:PySem.W.keepIn K (.ref C)=true
def Ie(M:Mk X.K C f)(F:cH X.prog X.w X.K X.mg X.base CX k f fd ps sp)(hr:cT (k+1) X.A)(hb:Binds X.K fd ps ds)(hd:Vals lX ds) 
  (hx:Passes CX X E) (I:Inv X pins σ H s) (r:Vals vs us)
  (h:∀x dx,H x=none->H dx=none->dx≠x->sp (.ref x::(vs++lX)) (upd (upd H dx (.own x)) x (.ins C dx [])) (λv H2=>v=.non/\Q (.ref x) H2) E) :
  wpAny 0x7 X.A (call (.ref C) us) (EP X pins σ Q) X.xe s:=by
 have hq:=h (s.heap.objs.size+1) s.heap.objs.size (I.bQ.fresh (Nat.le_succ _)) (I.bQ.fresh (gb _)) (gY (nY _));have I2:=Inv.made (C:=C) I;have r2:Vals (V.ref (s.heap.objs.size+1)::(vs++lX)) (Value.ref (s.heap.objs.size+1)::(us++ds)):=.cons rfl (r.append hd);have hl:(Value.ref (s.heap.objs.size+1)::us++ds).length=ps.length:=by
  have e:=r2.length;rw[F.len _ _ _ _ hq]at e;exact e.symm
 refine wpAny_call (J4 (f:=f) I.qR M.makes M.init (beq_iff_eq.mp M.fn) (afO (F.run _ X.stack _ _ ⟨Value.ref (s.heap.objs.size+1)::us,[]⟩ (Value.ref (s.heap.objs.size+1)::(us++ds)) _ _ E (hr.make C us [])
  (I2.R6.make C us []) (hb _ (Value.ref (s.heap.objs.size+1)::us) I2.qR hl) r2 hq) λr s' Fz=>?_))
 cases r with
 | error e=>exact hx pins σ _ _ e s' I2 Fz
 | ok fl =>
  cases fl with
  | ret u =>
   obtain⟨v,H',I3,rv,ev,q3⟩:=I2.after Fz;subst ev;exact⟨rv,⟨V.ref (s.heap.objs.size+1),H',I3,rfl,q3⟩⟩
  | next=>exact False.elim Fz
  | brk=>exact False.elim Fz
  | cont=>exact False.elim Fz
def Qz(M:Mk X.K C f)(F:cH X.prog X.w X.K X.mg X.base CX k f fd ps sp)(hr:cT (k+1) X.A)(hg:Gl X x)(hm:X.mg x=some (.ref C))(hb:Binds X.K fd ps ds)(hd:Vals lX ds)(hx:Passes CX X E)
  (ha:PA X (e::es) t) (rY:0xc=false:=by decide) (he:starEach (e::es) X.env=0xb::starEach es X.env:=by rfl) (oO:#[10,pos,es].any (·.1)=false:=by rfl) :
  PE X 0x13 (aaB C sp lX E t):=by
 show 8;refine afl (zm8 I hg hm ?_ rY);refine afx (h₀:=X.base) I.ok.mod.Xg M.kp 0x17 he oO;obtain⟨vs,H1,I1,r,q⟩:=zz;refine⟨I1.qR,?_⟩;exact Ie M F hr hb hd hx I1 r q
end
section
variable  {X:Cx}{CX:Ni}{k:Nat}{f C:Addr}{fd:FuncData}{ps ks:List Str}{sp:Sp}{E:XK}{x m:Str}{p pos apos aeM:Pos}{e o:Expr}{es:List Expr}{kws:List Keyword}{te ta:TE}{t tk:TA}{nm:Option Str}
structure aev(K:PySem.W.Frag)(fd:FuncData)(ps ks:List Str)(g:List Value->List Value->List Value)(gV:List V->List V->List V):Prop where
 to:∀(s:Shared) (us ws:List Value),K.In s.heap->(g us ws).length=ps.length->BindsTo s fd ⟨us,ks.zip ws⟩ (ps.zip (g us ws))
 rel:∀{vs:List V} {us:List Value} {zs:List V} {ws:List Value},Vals vs us->Vals zs ws->Vals (gV vs zs) (g us ws)
variable  {g:List Value->List Value->List Value}{gV:List V->List V->List V}
end
structure dm(N P:List Str)(sc:Scope):Prop where
 kind:sc.kind=.function
 co:sc.isCoroutine=false
 gen:sc.isGenerator=false
 nd:N.Nodup
 pre:N.take P.length=P
 par:∀x∈P,sc.names.lookup x=some .local\/sc.names.lookup x=some .cell
 W4:∀y∈sc.names,y.2≠.free
theorem zps{kindOf:Str->Option NameKind}{x:Str}:∀{binds:List (Str×Value)} {m:Str->Option Value},(∀v,(x,v)∉binds)->bindL kindOf binds m x=m x
 | [],_,_=>rfl
 | (n,v)::r,m,h=>by
  unfold bindL;rw[zps λw hw=>h w (kW _ hw)]
  split
  ·have:x≠n:=by rintro rfl;exact h v pG
   simp[this]
  ·rfl
theorem zp8{kindOf:Str->Option NameKind}{x:Str}:∀{binds:List (Str×Value)} {m:Str->Option Value},(∀v,(x,v)∉binds)->bindC kindOf binds m x=m x
 | [],_,_=>rfl
 | (n,v)::r,m,h=>by
  unfold bindC;rw[zp8 λw hw=>h w (kW _ hw)]
  split
  ·rfl
  ·have:x≠n:=by rintro rfl;exact h v pG
   simp[this]
theorem zpz{kindOf:Str->Option NameKind}{x:Str}{v:Value}:∀{P:List Str} {vs:List Value} {i:Nat} {m:Str->Option Value},P.Nodup->P[i]? = some x->vs[i]? = some v->kindOf x=some .local ->
  bindL kindOf (P.zip vs) m x=some v
 | [],_,_,_,_,h,_,_=>by simp at h
 | _::_,[],_,_,_,_,h,_=>by simp at h
 | p::P,w::vs,0,m,nd,h1,h2,hk=>by
  simp at h1 h2;subst h1;subst h2;show bindL kindOf ((p,w)::P.zip vs) m p=_;unfold bindL;rw[zps λv hv=>(mH.mp nd).1 (nJ hv).1,ae7 hk];simp
 | p::P,w::vs,i+1,m,nd,h1,h2,hk=>by
  show bindL kindOf ((p,w)::P.zip vs) m x=_;unfold bindL;exact zpz (i:=i) (mH.mp nd).2 (by simpa using h1) (by simpa using h2) hk
theorem zpi{kindOf:Str->Option NameKind}{x:Str}{v:Value}:∀{P:List Str} {vs:List Value} {i:Nat} {m:Str->Option Value},P.Nodup->P[i]? = some x->vs[i]? = some v->kindOf x≠some .local ->
  bindC kindOf (P.zip vs) m x=some v
 | [],_,_,_,_,h,_,_=>by simp at h
 | _::_,[],_,_,_,_,h,_=>by simp at h
 | p::P,w::vs,0,m,nd,h1,h2,hk=>by
  simp at h1 h2;subst h1;subst h2;show bindC kindOf ((p,w)::P.zip vs) m p=_;unfold bindC;rw[zp8 λv hv=>(mH.mp nd).1 (nJ hv).1,ae8 hk];simp
 | p::P,w::vs,i+1,m,nd,h1,h2,hk=>by
  show bindC kindOf ((p,w)::P.zip vs) m x=_;unfold bindC;exact zpi (i:=i) (mH.mp nd).2 (by simpa using h1) (by simpa using h2) hk
noncomputable def start(N:List Str)(vs:List V):St:=vs.map some++List.replicate (N.length - vs.length) none
noncomputable def vX(CX:Ni)(P:Program)(w:World)(K:PySem.W.Frag)(mg:Str->Option Value)(base:Heap)(N:List Str)(qual:Str)(scope:Scope)(f:Addr)(cd:Value)(A:Around)(outer:List Env)(s:Shared)(H:Hp)(E:XK):Cx where
 prog:=P
 w:=w
 K:=K
 mg:=mg
 base:=base
 A:=A.deeper (envOfC qual scope s.heap.objs.size f cd)
 N:=N
 aeX:=s
 ae5:=H
 env:=envOfC qual scope s.heap.objs.size f cd
 outer:=outer
 stack:=envOfC qual scope s.heap.objs.size f cd::outer
 ex:=[]
 calm:=true
 fn:=λ_=>true
 pn:=[]
 xe:=λe s'=>wpAny (model P w) (A.deeper (envOfC qual scope s.heap.objs.size f cd)) (leaving (envOfC qual scope s.heap.objs.size f cd) e) (λ_ s''=>CX outer H s E e s'') (λe' s''=>CX outer H s E e' s'') s'
def zsd{sc:Scope}{n:Nat}{x:Str}(h:sc.names.lookup x=some .cell):∃c,(cellsFrom n sc.names []).lookup x=some c:=by
 have q:=PySem.W.cellsFrom_some sc.names n [] (.inl h);exact Option.isSome_iff_exists.mp q
def Ft{CX:Ni}{P:Program}{w:World}{K:PySem.W.Frag}{mg:Str->Option Value}{base:Heap}{N ps:List Str}{qual:Str}{scope:Scope}{f:Addr}{cd:Value}{A:Around}{outer:List Env}{s s1:Shared}{H:Hp}{E:XK}{us:List Value}{vs:List V}
  (S:dm N ps scope) (hd:A.handled=none) (e0:yE P w K mg base A outer s H) (hl:vs.length=ps.length) (r:Vals vs us)
  (x:InCallC s s.heap.objs.size (bindL (envOfC qual scope s.heap.objs.size f cd).kindOf (ps.zip us) λ_=>none) (cellsFrom (s.heap.objs.size+1) scope.names []) (bindC (envOfC qual scope s.heap.objs.size f cd).kindOf (ps.zip us) λ_=>none) s1) :
  Inv (vX CX P w K mg base N qual scope f cd A outer s H E) [] (start N vs) H s1:=by
 have oO:ps.length<=N.length:=by have:=congrArg List.length S.pre;rw[kJ]at this;omega
 obtain⟨h1,tk,rfl,hk⟩:=x.done;have Q0:∀b:Addr,b∉(vX CX P w K mg base N qual scope f cd A outer s H E).ex:=λb z=>absurd (show b∈([]:List Addr) from z) 0x1;refine⟨⟨e0.mod,S.kind,rfl,rfl,gb _,λy z c h1 h2=>?_,λy hy=>?_,λy c _ h=>?_,λ_=>hd,Around.frames_deeper e0.frames,.inr ⟨rfl,rfl⟩,λb z=>absurd z (Q0 b),e0.bs,e0.Gz,λb _ _=>Q0 b,λb z=>absurd z (Q0 b),e0.oU,e0.Li⟩,
  rfl,e0.bare,Un.kept hk,⟨_,x.toInCall.ns,λi y v h1 h2 h3=>?_⟩,λy c h=>⟨_,x.cell y c h⟩,e0.bQ.fresh (gb _),λy c h=>?_,λp hp=>absurd (show p∈([]:List 0x6) from hp) 0x1,e0.bQ.kept hk,?_⟩
 ·exact name_of_addr x.apart (afd h1) (afd h2)
 ·have hy:scope.names.lookup y=some .cell\/scope.names.lookup y=some .free:=hy;rcases hy with hy | hy
  ·exact zsd hy
  ·exact absurd rfl (S.W4 _ (afd hy))
 ·exact Nat.le_of_lt (x.above y c (afd h))
 ·have hi:i<vs.length:=by
   unfold start at h2;by_cases hi:i<vs.length
   ·exact hi
   ·rw[kj (by simpa using hi)]at h2;rw[List.getElem?_replicate]at h2
    split at h2<;>cases h2
  have ha:vs[i]? = some v:=by
   unfold start at h2;rw[gP (by simpa using hi),gO]at h2;cases e:vs[i]? with
   | none=>rw[e]at h2;cases h2
   | some a=>rw[e]at h2;cases h2;rfl
  obtain⟨u,hu,rv⟩:=r.get ha;have hp:ps[i]? = some y:=by
   rw[<-S.pre,List.getElem?_take_of_lt 0x0];exact h1
  have ndP:ps.Nodup:=by rw[<-S.pre];exact S.nd.sublist (List.take_sublist _ _)
  refine⟨u,rv,?_⟩;rcases S.par y (gZ hp) with k | k
  ·exact .inl ⟨k,zpz ndP hp hu k⟩
  ·obtain⟨c,e⟩:=zsd (n:=s.heap.objs.size+1) k;refine .inr ⟨.inl k,c,e,?_⟩;have q:=x.cell y c e;rw[zpi ndP hp hu (by show scope.names.lookup y≠_;rw[k];decide)]at q;exact q
 ·exact e0.bQ.fresh (Nat.le_of_lt (x.above y c (afd h)))
 ·unfold start;show _=N.length;rw[gQ,gj,List.length_replicate];omega
def Lp{CX:Ni}{P:Program}{w:World}{K:PySem.W.Frag}{mg:Str->Option Value}{base:Heap}{k:Nat}{f:Addr}{name qual:Str}{params:Arguments}{body:List Stmt}{scope:Scope}{dV kV doc pm cdv ct oc:Value}{an od:Option Addr}
  {ue:Array (Option Value)} {N ps:List Str} {sp:Sp} (lk:K.lookup f=some ⟨oc,od,.func (PySem.W.fnOf name qual params body scope dV kV doc pm an cdv ct),ue⟩) (ym:PySem.W.codeIn K cdv qual=true) (S:dm N ps scope)
  (len:∀vs H Q E,sp vs H Q E->vs.length=ps.length)
  (lV:∀(A:Around) (outer:List Env) (s:Shared) (H:Hp) (vs:List V) (Q:VK) (E:XK),cT k (A.deeper (envOfC qual scope s.heap.objs.size f cdv))->sp vs H Q E ->
   ∃t,zJ (vX CX P w K mg base N qual scope f cdv A outer s H E) body t/\t { nx:=λ_ H'=>Q .non H',rt:=Q } (start N vs) H) :
  cH P w K mg base CX (k+1) f (PySem.W.fnOf name qual params body scope dV kV doc pm an cdv ct) ps sp:=by
 refine⟨len,λA outer s H args us vs Q E hr e0 hb r hsp=>?_⟩;have hl:=len _ _ _ _ hsp;have KX:K.In s.heap:=e0.mod.Xg.keeps λb o e=>(e0.bs b o e).1;have lim:s.heap.NoLimit:=e0.mod.nolimit.keeps λb o e=>(e0.bs b o e).1;have abJ:∀y∈ps.zip us,scope.names.lookup y.1=some .local\/(scope.names.lookup y.1=some .cell/\((cellsFrom (s.heap.objs.size+1) scope.names []).lookup y.1).isSome=true):=λ⟨n,v⟩ hy=>by
  rcases S.par n (nJ hy).1 with q | q
  ·exact .inl q
  ·exact .inr ⟨q,PySem.W.cellsFrom_some _ _ _ (.inl q)⟩
 refine codeAny_call_function hr.depth (KX _ _ lk) rfl S.co S.gen rfl (PySem.W.codeRec_of KX ym) (hb _ _ _ _ ?_);refine wpAny_newFunctionEnv_cells S.kind abJ λenv he s1 x=>?_;subst he;refine⟨lim.keeps x.toInCall.keep,codeAny_func ?_⟩;obtain⟨t,ht,hq⟩:=lV A outer s H vs Q E (hr.deeper _) hsp;have I:Inv (vX CX P w K mg base N qual scope f cdv A outer s H E) [] (start N vs) H s1:=Ft S hr.hd e0 hl r x;refine afk (ht [] s1 (start N vs) H _ I hq) (λfl s' hs=>?_) λe s' hs=>hs;have fin:∀{σ':St} {H':Hp} {v:V} {u:Value},Inv (vX CX P w K mg base N qual scope f cdv A outer s H E) [] σ' H' s'->RelV v u->Q v H'->CE outer P w H s Q u s' :=
  λ{σ' H' v u} J rv q=>⟨v,H',J.os,J.bare,J.base,J.bQ,rv,q⟩
 cases fl with
 | ret u =>
  obtain⟨v,σ',H',J,rv,q⟩:=hs;exact fin J rv q
 | next =>
  obtain⟨σ',H',J,q⟩:=hs;exact fin (v:=V.non) (u:=Value.none) J rfl q
 | brk =>
  obtain⟨_,_,_,q⟩:=hs;exact False.elim q
 | cont =>
  obtain⟨_,_,_,q⟩:=hs;exact False.elim q
section
variable  {X:Cx}{x:Str}{p pos:Pos}{e:Expr}{es:List Expr}{t:TA}{id T:String}{r:List V->Hp->VK->Prop}
noncomputable def tCB(r:List V->Hp->VK->Prop)(t:TA):TE:=fun σ H Q=>t σ H λvs H1=>r vs H1 Q
def ztc(hc:cL X (.builtin id) r)(hg:Gl X x)(hm:X.mg x=none)(hv:bootBuiltins x=some (.builtin id))(ha:PA X (e::es) t)(hn:x ≠ "__name__":=by decide)(rY:0xc=false:=by decide)
  (he:starEach (e::es) X.env=0xb::starEach es X.env:=by rfl) (oO:#[10,pos,es].any (·.1)=false:=by rfl):PE X 0x13 (tCB r t):=by
 show 8;refine afl (Oi I hg hm hv ?_ hn rY);refine PyProof.Rows.callWith_builtin1 0x17 he oO;obtain⟨vs,H1,I1,r1,q1⟩:=zz;exact hc pins s1 σ H1 vs us Q I1 r1 q1
def Ew(hc:cL X (.type T) r)(hg:Gl X x)(hm:X.mg x=none)(hv:bootBuiltins x=some (.type T))(ha:PA X (e::es) t)(hn:x ≠ "__name__":=by decide)(rY:0xc=false:=by decide)
  (he:starEach (e::es) X.env=0xb::starEach es X.env:=by rfl) (oO:#[10,pos,es].any (·.1)=false:=by rfl):PE X 0x13 (tCB r t):=by
 show 8;refine afl (Oi I hg hm hv ?_ hn rY);refine afg 0x17 he oO;obtain⟨vs,H1,I1,r1,q1⟩:=zz;exact hc pins s1 σ H1 vs us Q I1 r1 q1
end
end L2
namespace HT
open PySem PyProof.Rows
section
open PySem.SeqAt
open PySem.AutoSeq1 (wpAny_loadPart')
open PySem.MeetsSeq PySem.MeetsSeq2 PySem.MeetsSeq3
end
section
variable  {prog:Program}{w:World}{A:Around}{E:Value->Shared->Prop}{s:Shared}
def Tg(ht:IsTup s.heap t vs.toArray)(hb:IsTup s.heap b ws.toArray)(hv:vs≠[]) 
  (h1:ws=[]->Q (.ref t) s) (h2:ws≠[]->Q (.ref s.heap.objs.size) { s with heap:=s.heap.push { cls:=.type "tuple",data:=.seq (vs++ws).toArray } })
  (hsz:vs.length+ws.length<=sizeLine):wpAny 0xa A (binaryOp .Add (.ref t) (.ref b)) Q E s:=by
 obtain⟨⟨cls,dd,data,sl⟩,ho,hc,n,hd⟩:=id ht;obtain⟨⟨aeq,dd2,data2,sl2⟩,K7,YF,n2,hd2⟩:=id hb;simp only at hc hd YF hd2;subst hc hd YF hd2;have e:vs.toArray++ws.toArray=(vs++ws).toArray:=by simp
 by_cases hw:ws=[]
 ·exact concat_meets ⟨_,ho,rfl⟩ ⟨_,K7,rfl⟩ noFill_tuple_add seq_tuple_add afR afN (afL _ _)
   (tuple_addW1 t b vs.toArray ws.toArray n n2 dd dd2 sl sl2 (by simpa using hv) (by simp[hw])) ⟨ho,K7,h1 hw⟩
 ·refine concat_meets ⟨_,ho,rfl⟩ ⟨_,K7,rfl⟩ noFill_tuple_add seq_tuple_add afR afN (afL _ _)
   (tuple_addW2 t b vs.toArray ws.toArray n n2 dd dd2 sl sl2 (by simpa using hv) (by simpa using hw) (by rw[gG,gG];exact hsz)) ⟨ho,K7,?_⟩
  rw[e];exact h2 hw
noncomputable def dh(n d:Nat):Option Int->Nat
 | none=>d
 | some v=>if v<0 then (v+(n:Int)).toNat else min v.toNat n
def zng(n d:Nat):dh n d none=d:=rfl
def Bu(n d k:Nat):dh n d (some (k:Int))=min k n:=by
 show (if (k:Int)<0 then ((k:Int)+(n:Int)).toNat else min (k:Int).toNat n)=min k n;rw[ae8 0x0,pH]
def Ib(n d:Nat)(hd:d<=n)(o:Option Int):dh n d o<=n:=by
 cases o with
 | none=>exact hd
 | some v =>
  show (if v<0 then (v+(n:Int)).toNat else min v.toNat n)<=n;by_cases hv:v<0
  ·rw[ae7 hv];omega
  ·rw[ae8 hv];exact Nat.min_le_right _ _
def Dd(v:Int)(n d:Nat):(if v<0 then max (v+(n:Int)) 0 else min v (n:Int))=((dh n d (some v):Nat):Int):=by
 show (if v<0 then max (v+(n:Int)) 0 else min v (n:Int))=(((if v<0 then (v+(n:Int)).toNat else min v.toNat n):Nat):Int);by_cases hv:v<0
 ·simp only[ae7 hv];omega
 ·simp only[ae8 hv];omega
def zrz(lo hi:Option Int)(n:Nat):Builtin.Slice.sliceAdjust lo hi 1 (n:Int)=(((dh n 0 lo:Nat):Int),((dh n n hi:Nat):Int)):=by
 have h1:¬ ((1:Int)<0):=by omega
 unfold Builtin.Slice.sliceAdjust;simp only[h1,if_false];refine Prod.ext ?_ ?_
 ·cases lo with
  | none=>rfl
  | some v=>exact Dd v n 0
 ·cases hi with
  | none=>rfl
  | some v=>exact Dd v n n
def zrw(i j:Nat):Builtin.Slice.slicePlaces (i:Int) (j:Int) 1=j - i:=by
 unfold Builtin.Slice.slicePlaces;have h1:(1:Int) > 0:=by omega
 simp only[h1,if_true,Int.ediv_one]
 split<;>omega
def zma(p:IsPart v o)(h:Q o s):wpAny 0xa A (Builtin.Slice.slicePartIndex v) Q E s:=by
 cases p with
 | none=>exact slicePart_none h
 | int i t=>exact slicePart_int h
def zen{sl:Addr}{vl vu:Value}{lo hi:Option Int}{n:Nat}{Q:Int×Int×Nat->Shared->Prop}(hs:s.heap.IsSliceOf sl vl vu .none)(pl:IsPart vl lo)(pu:IsPart vu hi)
  (h:Q (((dh n 0 lo:Nat):Int),1,dh n n hi - dh n 0 lo) s):wpAny 0xa A (Builtin.Slice.sliceApplied (.ref sl) (pure (n:Int))) Q E s:=by
 obtain⟨os,Ys,hcs,yG⟩:=id hs;unfold Builtin.Slice.sliceApplied Builtin.Slice.sliceFields;refine ae6 (ae6 (afE Ys yG (x:=vl) rfl (ae6 (afE Ys yG (x:=vu) rfl (ae6 (afE Ys yG (x:=.none) rfl (ae9 ?_)))))));refine ae6 (slicePart_none ?_);show wpAny _ _ (if ((1:Int)==0)=true then _ else _) _ _ s;rw[ae8 0x5];refine ae6 (zma pl (ae6 (zma pu (ae6 (ae9 ?_)))));show wpAny _ _ (match Builtin.Slice.sliceAdjust lo hi 1 (n:Int) with | (lo,hi)=>pure (lo,(1:Int),Builtin.Slice.slicePlaces lo hi 1)) _ _ s;rw[zrz lo hi n];show wpAny _ _ (pure (((dh n 0 lo:Nat):Int),(1:Int),Builtin.Slice.slicePlaces ((dh n 0 lo:Nat):Int) ((dh n n hi:Nat):Int) 1)) _ _ s;rw[zrw];exact ae9 h
def Jh(xs:Array Value)(i k:Nat):((List.range k).filterMap λ(m:Nat)=>xs[((i:Int)+(m:Int)*1).toNat]?).toArray=((xs.toList.drop i).take k).toArray:=by
 have e:(λ(m:Nat)=>xs[((i:Int)+(m:Int)*1).toNat]?)=λm=>xs[i+m]?:=by
  funext m;have:((i:Int)+(m:Int)*1).toNat=i+m:=by omega
  rw[this]
 rw[e];have:=pick_run xs i k;rw[List.filterMap_map]at this;have e2:((λx=>xs[x]?)∘λx=>i+x)=λm=>xs[i+m]?:=rfl;rw[e2]at this;rw[this]
def zho{t sl:Addr}{items:Array Value}{vl vu:Value}{lo hi:Option Int}{Q:Value->Shared->Prop}(ht:IsTup s.heap t items)(hs:s.heap.IsSliceOf sl vl vu .none)(pl:IsPart vl lo)(pu:IsPart vu hi)
  (hw:¬ (dh items.size 0 lo=0/\dh items.size items.size hi=items.size))
  (h:Q (.ref s.heap.objs.size) { s with heap:=s.heap.push { cls:=.type "tuple",data:=.seq ((items.toList.drop (dh items.size 0 lo)).take (dh items.size items.size hi - dh items.size 0 lo)).toArray } })
  (hsz:items.size<=sizeLine):wpAny 0xa A (getItem (.ref t) (.ref sl)) Q E s:=by
 have CJ:sizeOk (.seq ((items.toList.drop (dh items.size 0 lo)).take (dh items.size items.size hi - dh items.size 0 lo)).toArray):=by
  show ((items.toList.drop (dh items.size 0 lo)).take (dh items.size items.size hi - dh items.size 0 lo)).toArray.size<=sizeLine;rw[gG,kJ,mO,nW];omega
 have hj:dh items.size items.size hi<=items.size:=Ib _ _ (gb _) hi;obtain⟨os,Ys,hcs,yG⟩:=id hs;have hTs:s.TypeIs (.ref sl) "slice":=⟨os,Ys,hcs⟩;unfold getItem
 try with_reducible refine afC ?_
 first | refine ae6 (ae9 ?_) | skip
 refine ae6 (wpAny_sequenceKey ht.typeIs 0x5 ?_);refine ae6 (afq (name:=Str.ofString "__getitem__") ht.typeIs afn
  (afF afn ht.typeIs entry_tuple_getitem ?_ (args_tuple_getitem _ _)))
 show 27;have hno:¬ (0x1a=true):=by
  intro q;rw[gM,gM]at q;have q1:((dh items.size 0 lo:Nat):Int)=0:=eq_of_beq q.1.1;have q2:dh items.size items.size hi - dh items.size 0 lo=items.size:=eq_of_beq q.2;exact hw ⟨by omega,by omega⟩
 show wpAny _ _ (if 0x1a=true then _ else _) _ _ s;rw[ae8 hno,Jh]
 first
  | exact ae6 (m:=Builtin.Tuple.tupleExact _) (afo (ae9 ⟨_,rfl,ae9 h⟩) CJ)
  | exact ae6 (m:=Builtin.Tuple.tupleExact _) (afo (ae6 (ae9 (ae9 ⟨_,rfl,ae9 h⟩))) CJ)
  | exact ae6 (ae6 (m:=Builtin.Tuple.tupleExact _) (afo (ae9 (ae9 ⟨_,rfl,ae9 h⟩)) CJ))
  | exact ae6 (ae6 (m:=Builtin.Tuple.tupleExact _) (afo (ae9 ⟨_,rfl,ae9 h⟩) CJ))
end
end HT
namespace L2
open PySem PySem.Spec PyProof.Rows
noncomputable abbrev TO:=St->Hp->(Option Int->Hp->Prop)->Prop
def PO(X:Cx)(e:Option Expr)(t:TO):Prop :=
 ∀(pins:List 0x6) (s:Shared) (σ:St) (H:Hp) (Q:Option Int->Hp->Prop),Inv X pins σ H s->t σ H Q ->
  wpAny 0x7 X.A (evalPart e X.env) (λu s'=>∃o H',Inv X pins σ H' s'/\IsPart u o/\Q o H') X.xe s
noncomputable def Pa:TO:=λ_ H Q=>Q none H
noncomputable def aaw(t:TE):TO:=fun σ H Q=>t σ H λx H1=>∃i,x=.int i/\Q (some i) H1
section
variable  {X:Cx}{e:Expr}{te:TE}{lo hi:Option Expr}{tl th:TO}{pos p2:Pos}
def Qo:PO X none Pa:=by
 show 8;rw[evalPart_none];exact ae9 ⟨none,H,I,.none,h⟩
def Qn(h:PE X e te):PO X (some e) (aaw te):=by
 intro pins s σ H Q I hw;rw[evalPart_some];refine cO (h pins s σ H _ I hw) λu s1 zz=>?_;show 11;obtain⟨i,rfl,q⟩:=q1;obtain⟨t,rfl⟩:=r1;exact⟨some i,H1,I1,.int i t,q⟩
def zF(X:Cx)(r:V->Option Int->Option Int->Hp->VK->Prop):Prop :=
 ∀(pins:List 0x6) (s:Shared) (σ:St) (H:Hp) (x:V) (v vl vu:Value) (lo hi:Option Int) (sl:Addr) (Q:VK),Inv X pins σ H s->RelV x v->s.heap.IsSliceOf sl vl vu .none->IsPart vl lo->IsPart vu hi->r x lo hi H Q ->
  ∃T id,typeLookup (.type T) "__getitem__" = pure (some (.builtin id))/\s.TypeIs v T/\wpAny 0x7 X.A (getItem v (.ref sl)) (EP X pins σ Q) X.xe s
def zF.or{r r':V->Option Int->Option Int->Hp->VK->Prop}(h:zF X r)(h':zF X r'):zF X (λx lo hi H Q=>r x lo hi H Q\/r' x lo hi H Q):=by
 intro pins s σ H x v vl vu lo hi sl Q I rx hs pl pu q;rcases q with q | q
 ·exact h pins s σ H x v vl vu lo hi sl Q I rx hs pl pu q
 ·exact h' pins s σ H x v vl vu lo hi sl Q I rx hs pl pu q
noncomputable def tSl(r:V->Option Int->Option Int->Hp->VK->Prop)(te:TE)(tl th:TO):TE:=fun σ H Q=>te σ H λx H1=>tl σ H1 λl H2=>th σ H2 λu H3=>r x l u H3 Q
def Jo{r:V->Option Int->Option Int->Hp->VK->Prop}(hr:zF X r)(he:PE X e te)(hl:PO X lo tl)(hu:PO X hi th):PE X (.Subscript e (.Slice lo hi none p2) pos) (tSl r te tl th):=by
 show 8;refine Subscript_ (cO (he pins s σ H _ I h) λv s1 zz=>?_);show 11;refine wpAny_Slice (cO (hl pins s1 σ H1 _ I1 q1) λvl s2 zz=>?_);obtain⟨l,H2,I2,pl,q2⟩:=zz;refine cO (hu pins s2 σ H2 _ I2 q2) λvu s3 zz=>?_;obtain⟨u,H3,I3,pu,q3⟩:=zz;rw[evalPart_none];refine ae9 ?_;have I4:Inv X pins σ H3 { s3 with heap:=s3.heap.push { cls:=.type "slice",data:=.fields #[vl,vu,.none] } }:=I3.kept (t':=s3.toks) λb ob q=>gF _ q;obtain⟨T,id,hT,ht,hg⟩:=hr pins { s3 with heap:=s3.heap.push { cls:=.type "slice",data:=.fields #[vl,vu,.none] } } σ H3 x v vl vu l u s3.heap.objs.size Q I4 r1 (Heap.IsSliceOf.new ..) pl pu q3;show wpAny 0x7 X.A (subscriptTail e (.Slice lo hi none p2) v (.ref s3.heap.objs.size)) (EP X pins σ Q) X.xe { s3 with heap:=s3.heap.push { cls:=.type "slice",data:=.fields #[vl,vu,.none] } };exact tail_any (ops:=[.ref s3.heap.objs.size,v]) ht hT hg (by with_unfolding_all rfl)
noncomputable def zx(xs:List V)(lo hi:Option Int):List V:=(xs.drop (HT.dh xs.length 0 lo)).take (HT.dh xs.length xs.length hi - HT.dh xs.length 0 lo)
def zju(xs:List V)(lo hi:Option Int):(zx xs lo hi).length<=xs.length:=by
 unfold zx;rw[kJ,mO];omega
def adl(K:PySem.W.Frag):V->Option Int->Option Int->Hp->VK->Prop:=λx lo hi H Q=>∃a xs,x=.ref a/\oJ K H a xs /\
 ¬ (HT.dh xs.length 0 lo=0/\HT.dh xs.length xs.length hi=xs.length)/\∀p,H p=none->Q (.ref p) (upd H p (.tup (zx xs lo hi)))
def V0:zF X (adl X.K):=by
 intro pins s σ H x v vl vu lo hi sl Q I rx hs pl pu h;obtain⟨a,xs,rfl,hx,hw,q⟩:=h;cases rx;obtain⟨its,r,ht,hz⟩:=I.tuple hx;have hlen:its.toArray.size=xs.length:=by rw[gG];exact r.length.symm
 refine⟨"tuple",_,PyProof.Rows.slot_tuple_getitem.lookup,ht.typeIs,?_⟩;refine HT.zho ht hs pl pu (by rw[hlen];exact hw) ?_ (by rw[hlen];exact hz);rw[hlen];refine⟨.ref s.heap.objs.size,_,I.laid (t':=s.toks) (o:=.tup (zx xs lo hi)) (λb ob q=>gF _ q) (gb _) ?_,rfl,q _ (I.bQ.fresh (gb _))⟩;exact⟨kh (zju xs lo hi) hz,_,(r.drop (HT.dh xs.length 0 lo)).take (HT.dh xs.length xs.length hi - HT.dh xs.length 0 lo),IsTup.new _ _⟩
noncomputable def aaZ(K:PySem.W.Frag):R2:=λx y H Q=>∃a b xs ys,x=.ref a/\y=.ref b/\oJ K H a xs/\oJ K H b ys/\xs≠[]/\xs.length+ys.length<=sizeLine /\
 (ys=[]->Q (.ref a) H)/\(ys≠[]->∀p,H p=none->Q (.ref p) (upd H p (.tup (xs++ys))))
def Vals.xY(r:Vals xs us):us=[]↔xs=[]:=by
 cases r with
 | nil=>simp
 | cons _ _=>simp
def QV:eQ X (binaryOp .Add) (aaZ X.K):=by
 show 10;obtain⟨a,b,xs,ys,rfl,rfl,ha,hb,hx,hz,q1,q2⟩:=h;cases rx;cases ry;obtain⟨its,r1,p1,_⟩:=I.tuple ha;obtain⟨rR,r2,p2,_⟩:=I.tuple hb;refine HT.Tg p1 p2 (λz=>hx (r1.xY.mp z)) (λz=>⟨.ref a,H,I,rfl,q1 (r2.xY.mp z)⟩) (λz=>?_) (by rw[<-r1.length,<-r2.length];exact hz);refine⟨.ref s.heap.objs.size,_,I.laid (t':=s.toks) (o:=.tup (xs++ys)) (λb ob q=>gF _ q) (gb _) ?_,rfl,q2 (λw=>z (r2.xY.mpr w)) _ (I.bQ.fresh (gb _))⟩;exact⟨by rw[gQ];exact hz,_,r1.append r2,IsTup.new _ _⟩
end
noncomputable def Cw(n:Nat)(i:Int):Option Nat:=if 0<=i then (if i<n then some i.toNat else none) else if -(n:Int)<=i then some (i+n).toNat else none
noncomputable def qJ{α:Type}(xs:List α)(i:Int):Option α:=(Cw xs.length i).bind λj=>xs[j]?
def Cv(h:Cw n i=some j):seqIndex? i n=some j/\j<n/\-(n:Int)<=i/\i<n:=by
 unfold Cw at h;by_cases h0:0<=i
 ·rw[ae7 h0]at h;by_cases h1:i<n
  ·rw[ae7 h1]at h;have e:i.toNat=j:=afa h;exact⟨by rw[seqIndex_of h0 h1,e],by omega,by omega,h1⟩
  ·rw[ae8 h1]at h;cases h
 ·rw[ae8 h0]at h;by_cases h1:-(n:Int)<=i
  ·rw[ae7 h1]at h;have e:(i+n).toNat=j:=afa h;exact⟨by rw[seqIndex_neg 0x0 h1,e],by omega,h1,by omega⟩
  ·rw[ae8 h1]at h;cases h
def zuj{α:Type}{xs:List α}{i:Int}{v:α}(h:qJ xs i=some v):∃j,seqIndex? i xs.length=some j/\xs[j]? = some v/\j<xs.length/\-(xs.length:Int)<=i/\i<xs.length:=by
 unfold qJ at h;cases e:Cw xs.length i with
 | none=>rw[e]at h;cases h
 | some j =>
  rw[e]at h;obtain⟨h1,h2,h3,h4⟩:=Cv e;exact⟨j,h1,h,h2,h3,h4⟩
def Tp{α:Type}{xs:List α}{j:Nat}{v:α}(h:xs[j]? = some v):qJ xs (j:Int)=some v:=by
 have hj:j<xs.length:=(gf.mp h).1;have e:Cw xs.length (j:Int)=some j:=by
  unfold Cw;rw[ae7 0x0,ae7 0x0];simp
 unfold qJ;rw[e];exact h
def Dl(b:Expr):Prop:=∀o i,subscripted b false o i=operate [o,i] (getItem o i)
def Dm(X:Cx)(r:R2):Prop :=
 ∀(value slice:Expr) (pins:List 0x6) (s:Shared) (σ:St) (H:Hp) (x y:V) (v u:Value) (Q:VK),Inv X pins σ H s->RelV x v->RelV y u->r x y H Q ->
  subscripted slice false v u=operate [v,u] (getItem v u)->wpAny 0x7 X.A (subscriptTail value slice v u) (EP X pins σ Q) X.xe s
def sX(X:Cx)(id:String)(r:V->List V->Hp->VK->Prop):Prop :=
 ∀(pins:List 0x6) (s:Shared) (σ:St) (H:Hp) (x:V) (xs:List V) (v:Value) (us:List Value) (Q:VK),Inv X pins σ H s->RelV x v->Vals xs us->r x xs H Q ->
  wpAny 0x7 X.A (call (.builtin id) (v::us)) (EP X pins σ Q) X.xe s
section
variable  {X:Cx}{a b:Expr}{ta tb:TE}{pos:Pos}
def Dm.or{r r':R2}(h:Dm X r)(h':Dm X r'):Dm X (λx y H Q=>r x y H Q\/r' x y H Q):=by
 intro value slice pins s σ H x y v u Q I rx ry q hs;rcases q with q | q
 ·exact h value slice pins s σ H x y v u Q I rx ry q hs
 ·exact h' value slice pins s σ H x y v u Q I rx ry q hs
def aa9(hr:Dm X r)(ha:PE X a ta)(hb:PE X b tb)(hs:Dl b):PE X (.Subscript a b pos) (tOp r ta tb):=by
 show 8;exact Subscript_ (Y6 ha hb I h λv u s2 x y H2 I2 rx ry q=>hr a b pins s2 σ H2 x y v u Q I2 rx ry q (hs _ _))
noncomputable def aaY(K:PySem.W.Frag):R2:=λx y H Q=>∃p xs i v,x=.ref p/\y=.int i/\oA K H p xs/\qJ xs i=some v/\Q v H
noncomputable def aaW(K:PySem.W.Frag):R2:=λx y H Q=>∃p xs i v,x=.ref p/\y=.int i/\oJ K H p xs/\qJ xs i=some v/\Q v H
noncomputable def aaX:R2:=λx y H Q=>∃z i c,x=.str z/\y=.int i/\z.length<=sizeLine/\qJ z.cps.toList i=some c/\Q (.str ⟨#[c]⟩) H
def Rx:Dm X (aaY X.K):=by
 intro value slice pins s σ H x y v u Q I rx ry h hs;obtain⟨p,xs,i,z,rfl,rfl,hq,he,q⟩:=h;cases rx;obtain⟨t,rfl⟩:=ry;obtain⟨its,r,pl,hz⟩:=I.list hq;obtain⟨j,h1,h2,h3,h4,h5⟩:=zuj he;obtain⟨w,ew,z_⟩:=r.get h2;have hl:=r.length;have hn:=iz;have fin:EP X pins σ Q w s:=⟨z,H,I,z_,q⟩;by_cases h0:0<=i
 ·have hj:i.toNat=j:=by
   rw[seqIndex_of h0 h5]at h1;exact afa h1
  exact item_listR pl.isList h0 0x0 (by rw[hj];simpa using ew) fin hs
 ·have hj:(i+(its.toArray.size:Int)).toNat=j:=by
   rw[seqIndex_neg 0x0 h4]at h1;rw[gG,<-hl];exact afa h1
  exact subscriptTail_builtinR (x:=w) pl.isList.typeIs slot_list_getitem.lookup
   (wpAny_getItem_list_neg (Q:=λr s'=>r=w/\EP X pins σ Q r s') pl.isList 0x0 (by rw[gG]<;>omega) 0x0 (by rw[hj];simpa using ew) ⟨rfl,fin⟩) hs
def XX:Dm X (aaW X.K):=by
 intro value slice pins s σ H x y v u Q I rx ry h hs;obtain⟨p,xs,i,z,rfl,rfl,hq,he,q⟩:=h;cases rx;obtain⟨t,rfl⟩:=ry;obtain⟨its,r,pl,hz⟩:=I.tuple hq;obtain⟨j,h1,h2,h3,h4,h5⟩:=zuj he;obtain⟨w,ew,z_⟩:=r.get h2;have hl:=r.length;have hn:=iz;have fin:EP X pins σ Q w s:=⟨z,H,I,z_,q⟩;exact subscriptTail_builtinR (x:=w) pl.typeIs slot_tuple_getitem.lookup
  (getItem_tuple (j:=j) (Q:=λr s'=>r=w/\EP X pins σ Q r s') pl 0x0 0x0 (by rw[gG,<-hl];exact h1) (by simpa using ew) ⟨rfl,fin⟩) hs
def Ao:Dm X aaX:=by
 intro value slice pins s σ H x y v u Q I rx ry h hs;obtain⟨z,i,c,rfl,rfl,hz,he,q⟩:=h;show 28;obtain⟨t',rfl⟩:=ry;obtain⟨j,h1,h2,h3,h4,h5⟩:=zuj he;have hl:z.cps.toList.length=z.length:=by simp[Str.length]
 rw[hl]at h1 h4 h5;have hn:=iz;exact tail_any (afH s z t) slot_str_getitem.lookup (getItem_str (c:=c) (by
  have e1:decide (i < -(2 ^ 63:Int))=false:=ae_ 0x0;have e2:decide (i ≥ 2 ^ 63)=false:=ae_ 0x0;rw[e1,e2,Bool.or_false]) (by rw[h1];simpa using h2) ⟨.str ⟨#[c]⟩,H,I.tok _,⟨_,rfl⟩,q⟩) hs
noncomputable def rIx(K:PySem.W.Frag):R2:=λx y H Q=>aaY K x y H Q\/aaW K x y H Q\/aaX x y H Q
def X_:Dm X (rIx X.K):=Rx.or (XX.or Ao)
def zud(its:List Value)(n j:Nat)(u:Value):Obj.mapSeq (·.setIfInBounds j u) { cls:=.type "list",data:=.seq its.toArray n }={ cls:=.type "list",data:=.seq (its.set j u).toArray n }:=by
 simp[Obj.mapSeq]
def Inv.lst(I:Inv X pins σ H s)(h:H p=some (.lst xs)) :
  ∃(its:List Value) (n:Nat),Vals xs its/\s.heap.get? p=some { cls:=.type "list",data:=.seq its.toArray n }/\xs.length<=sizeLine:=by
 obtain⟨z,its,n,r,e⟩:=I.bQ p _ h;exact⟨its,n,r,e,z⟩
def Inv.Xe{pins:List 0x6}{σ:St}{H:Hp}{s:Shared}{p:Addr}{xs ys:List V}{its its':List Value}{n n':Nat}{f:Obj->Obj}(I:Inv X pins σ H s)(h:H p=some (.lst xs))
  (ho:s.heap.get? p=some { cls:=.type "list",data:=.seq its.toArray n }) (hf:f { cls:=.type "list",data:=.seq its.toArray n }={ cls:=.type "list",data:=.seq its'.toArray n' }) (r:Vals ys its') (hz:ys.length<=sizeLine) (t:Nat) :
  Inv X pins σ (upd H p (.lst ys)) { s with heap:=s.heap.update p f,toks:=t }:=by
 have e:(s.heap.update p f).get? p=some { cls:=.type "list",data:=.seq its'.toArray n' }:=by
  rw[pI f ho (by rw[hf]<;>rfl),hf]
 refine I.write (x:=p) (e:=p) (by rw[h];trivial) (.inl rfl) (λb u hb q=>(Heap.get?_update_other _ _ (afi hb)).trans q) ⟨_,e⟩ ?_;exact⟨hz,its',n',r,e⟩
def aaV:V->V->V->Hp->(Hp->Prop)->Prop:=λo i v H Q=>∃p xs k j,o=.ref p/\i=.int k/\H p=some (.lst xs)/\Cw xs.length k=some j/\Q (upd H p (.lst (xs.set j v)))
def set_list:xj X aaV:=by
 intro pins s σ H o i v ov iv u Q I ro ri rv h;obtain⟨p,xs,k,j,rfl,rfl,hp,hj,q⟩:=h;cases ro;obtain⟨t,rfl⟩:=ri;obtain⟨its,n,r,ho,hz⟩:=I.lst hp;obtain⟨h1,h2,h3,h4⟩:=Cv hj;have hl:=r.length;have hn:=iz;have I':Inv X pins σ (upd H p (.lst (xs.set j v))) { s with heap:=s.heap.update p (Obj.mapSeq (·.setIfInBounds j u)) } :=
  I.Xe hp ho (zud its n j u) (r.set rv j) (by rw[nM];exact hz) s.toks
 by_cases h0:0<=k
 ·have hk:k.toNat=j:=by
   rw[seqIndex_of h0 h4]at h1;exact afa h1
  exact PySem.W.ki_setAt ho h0 0x0 (by rw[gG,<-hl];exact h4) (by rw[hk];exact⟨_,I',q⟩)
 ·have hk:(k+(its.toArray.size:Int)).toNat=j:=by
   rw[seqIndex_neg 0x0 h3]at h1;rw[gG,<-hl];exact afa h1
  exact PySem.W.ki_setBack ho 0x0 (by rw[gG,<-hl];exact h3) 0x0 (by rw[hk];exact⟨_,I',q⟩)
def zn3(lo hi:Option Int)(n:Nat):(sliceBounds lo hi none n).1=((HT.dh n 0 lo:Nat):Int)/\(sliceBounds lo hi none n).2.1=((HT.dh n n hi:Nat):Int)/\(sliceBounds lo hi none n).2.2=1:=by
 refine⟨?_,?_,rfl⟩
 ·cases lo with
  | none=>simp[sliceBounds,HT.dh]
  | some i =>
   simp only[sliceBounds,HT.dh,Option.getD_none,show (1:Int) > 0 by decide,if_true];by_cases h:i<0
   ·simp only[h,if_true]<;>omega
   ·simp only[h,if_false]<;>omega
 ·cases hi with
  | none=>simp[sliceBounds,HT.dh]
  | some i =>
   simp only[sliceBounds,HT.dh,Option.getD_none,show (1:Int) > 0 by decide,if_true];by_cases h:i<0
   ·simp only[h,if_true]<;>omega
   ·simp only[h,if_false]<;>omega
def zms(its:List Value)(lo hi:Option Int):slicePick its.toArray lo hi none=((its.drop (HT.dh its.length 0 lo)).take (HT.dh its.length its.length hi - HT.dh its.length 0 lo)).toArray:=by
 obtain⟨h1,h2,h3⟩:=zn3 lo hi its.toArray.size;unfold slicePick;rw[h1,h2,h3];simp only[sliceRange_one,pick_run,gG]<;>rfl
def ado(K:PySem.W.Frag):V->Option Int->Option Int->Hp->VK->Prop:=λx lo hi H Q=>∃a xs,x=.ref a/\oA K H a xs/\∀p,H p=none->Q (.ref p) (upd H p (.lst (zx xs lo hi)))
def Pk:zF X (ado X.K):=by
 intro pins s σ H x v vl vu lo hi sl Q I rx hs pl pu h;obtain⟨a,xs,rfl,hx,q⟩:=h;cases rx;obtain⟨its,r,ht,hz⟩:=I.list hx;have hlen:=r.length;refine⟨"list",_,slot_list_getitem.lookup,ht.isList.typeIs,?_⟩;refine wpAny_getItem_list_slice ht.isList hs pl pu .none 0x1 ?_ (by rw[gG]<;>omega);rw[zms,<-hlen];refine⟨.ref s.heap.objs.size,_,I.laid (t':=s.toks) (o:=.lst (zx xs lo hi)) (λb ob q=>gF _ q) (gb _) ?_,rfl,q _ (I.bQ.fresh (gb _))⟩;exact⟨kh (zju xs lo hi) hz,_,0,(r.drop (HT.dh xs.length 0 lo)).take (HT.dh xs.length xs.length hi - HT.dh xs.length 0 lo),g_ _ rfl⟩
noncomputable def ig:V->V->Bool
 | .non,.non=>true
 | .bl a,.bl b=>a==b
 | .bl a,.int b=>(if a then 1 else 0)==b
 | .int a,.bl b=>a==(if b then 1 else 0)
 | .int a,.int b=>a==b
 | .str a,.str b=>a==b
 | _,_=>false
def zod:cL X (.builtin "len") (λxs H Q=>∃p ys,xs=[.ref p]/\(oA X.K H p ys\/oJ X.K H p ys)/\Q (.int ys.length) H):=by
 intro pins s σ H xs us Q I r h;obtain⟨p,ys,rfl,hq,q⟩:=h;obtain⟨u,rfl,rx⟩:=vals1 r;cases rx;have hn:=iz;rcases hq with hq | hq
 ·obtain⟨its,r',pl,hz⟩:=I.list hq;have hlen:=r'.length;exact Calls.call_len_list pl.isList (by simp only[gG]<;>omega) ⟨.int ys.length,H,I.tok _,⟨s.toks+1,by rw[gG,hlen]⟩,q⟩
 ·obtain⟨its,r',pl,hz⟩:=I.tuple hq;have hlen:=r'.length;exact len_tuple pl (by simp only[gG]<;>omega) ⟨.int ys.length,H,I.tok _,⟨s.toks+1,by rw[gG,hlen]⟩,q⟩
def znt:cL X (.builtin "len") (λxs H Q=>∃z,xs=[.str z]/\z.length<=sizeLine/\Q (.int z.length) H):=by
 intro pins s σ H xs us Q I r h;obtain⟨z,rfl,hz,q⟩:=h;obtain⟨u,rfl,t,rfl⟩:=vals1 r;have hn:=iz;exact len_str 0x0 ⟨.int z.length,H,I.tok _,⟨_,rfl⟩,q⟩
def cL.or(h:cL X f r)(h':cL X f r'):cL X f (λxs H Q=>r xs H Q\/r' xs H Q):=by
 intro pins s σ H xs us Q I rs q;rcases q with q | q
 ·exact h pins s σ H xs us Q I rs q
 ·exact h' pins s σ H xs us Q I rs q
def zn0:cL X (.type "list") (λxs H Q=>∃p ys,xs=[.ref p]/\(oA X.K H p ys\/oJ X.K H p ys)/\∀l,H l=none->Q (.ref l) (upd H l (.lst ys))):=by
 intro pins s σ H xs us Q I r h;obtain⟨p,ys,rfl,hq,q⟩:=h;obtain⟨u,rfl,rx⟩:=vals1 r;cases rx;have fin:∀(its:List Value),Vals ys its->ys.length<=sizeLine->∀(h':Heap) (c':Nat),(∀b o',s.heap.get? b=some o'->h'.get? b=some o') ->
   h'.get? s.heap.objs.size=some { cls:=.type "list",dict:=none,data:=.seq its.toArray c',slots:=#[] }->EP X pins σ Q (.ref s.heap.objs.size) { s with heap:=h' }:=λits r' hz h' c' kp e =>
  ⟨.ref s.heap.objs.size,_,I.laid (t':=s.toks) kp (gb _) (show cA X.prog X.w _ h' _ (.lst ys) from ⟨hz,its,c',r',e⟩),rfl,q _ (I.bQ.fresh (gb _))⟩
 rcases hq with hq | hq
 ·obtain⟨its,r',pl,hz⟩:=I.list hq;have hlen:=r'.length;obtain⟨o,ho,hc,n,hd⟩:=pl.isList;exact call_list_seq p (.inl rfl) ho hc hd (λh' c' kp e=>fin its r' hz h' c' kp e) (by simp only[gG]<;>omega)
 ·obtain⟨its,r',pl,hz⟩:=I.tuple hq;have hlen:=r'.length;obtain⟨o,ho,hc,n,hd⟩:=pl;exact call_list_seq p (.inr rfl) ho hc hd (λh' c' kp e=>fin its r' hz h' c' kp e) (by simp only[gG]<;>omega)
def tyV(K:PySem.W.Frag)(T:String)(x:V)(H:Hp):Prop:=match x with
 | .str _=>T = "str"
 | .int _=>T = "int"
 | .ref p=>(T = "list"/\∃xs,oA K H p xs)\/(T = "tuple"/\∃o,K.lookup p=some o/\o.cls=.type "tuple"/\o.dict=none) \/
   (T = "dict"/\((∃kvs,H p=some (.dK kvs))\/∃kvs,H p=some (.dT kvs)))\/(T = "set"/\∃S n,H p=some (.set S n))
 | _=>False
def Hy(I:Inv X pins σ H s)(r:RelV x v)(ty:tyV X.K T x H) :
  s.TypeIs v T/\∀a,v=.ref a->∃ob,s.heap.get? a=some ob/\ob.dict=none:=by
 cases x with
 | str z =>
  obtain⟨t,rfl⟩:=r;cases (show T = "str" from ty);exact⟨afH s z t,λ_ e=>nomatch e⟩
 | int i =>
  obtain⟨t,rfl⟩:=r;cases (show T = "int" from ty);exact⟨typeIs_int s i t,λ_ e=>nomatch e⟩
 | ref p =>
  cases r;rcases ty with⟨rfl,xs,hq⟩ | ⟨rfl,o,hk,hc,hd⟩ | ⟨rfl,hk⟩ | ⟨rfl,S,n,hk⟩
  ·obtain⟨its,_,pl,_⟩:=I.list hq;refine⟨pl.isList.typeIs,λa e=>?_⟩;cases e;obtain⟨o,n,e,c,hd,_⟩:=pl;exact⟨o,e,hd⟩
  ·refine⟨⟨o,I.qR p o hk,hc⟩,λa e=>?_⟩;cases e;exact⟨o,I.qR _ o hk,hd⟩
  ·have z:∃o,s.heap.get? p=some o/\o.ExactDict:=by
    rcases hk with⟨kvs,hk⟩ | ⟨kvs,hk⟩
    ·obtain⟨_,_,_,_,o,_,_,e,ex,_⟩:=I.bQ p _ hk;exact⟨o,e,ex⟩
    ·obtain⟨_,_,_,_,o,_,_,e,ex,_⟩:=I.bQ p _ hk;exact⟨o,e,ex⟩
   obtain⟨o,e,ex⟩:=z;refine⟨⟨o,e,ex.1⟩,λa e2=>?_⟩;cases e2;exact⟨o,e,ex.2.1⟩
  ·obtain⟨o,_,_,_,e,ex,_⟩:=I.bQ p _ hk;refine⟨⟨o,e,ex.1⟩,λa e2=>?_⟩;cases e2;exact⟨o,e,ex.2.1⟩
 | _=>exact False.elim ty
noncomputable def acQ(K:PySem.W.Frag)(T:String)(r:V->List V->Hp->VK->Prop)(to:TE):TE:=fun σ H Q=>to σ H λx H1=>tyV K T x H1/\r x [] H1 Q
noncomputable def tBM(K:PySem.W.Frag)(T:String)(r:V->List V->Hp->VK->Prop)(to:TE)(t:TA):TE:=fun σ H Q=>to σ H λx H1=>tyV K T x H1/\t σ H1 λxs H2=>r x xs H2 Q
variable  {o e:Expr}{es:List Expr}{to:TE}{t:TA}{name:Str}{apos dH:Pos}{T id:String}{r:V->List V->Hp->VK->Prop}
def WD(pa:PlainAttrs T)(slot:Slot T name id)(Yn:typeOf (.builtin id)=pure (.type "method_descriptor"))(hm:sX X id r)(ho:PE X o to)
  (rZ:attributeBase o name X.env (eval o X.env)=eval o X.env:=by rfl) (hline:(apos.endLine==dH.line)=true:=by rfl):PE X (.Call (.Attribute o name apos) [] [] dH) (acQ X.K T r to):=by
 show 8;refine wpAny_Call_method0_late rZ hline (cO (ho pins s σ H _ I h) λv s1 zz=>?_);obtain⟨x,H1,I1,r1,ty,q1⟩:=zz;obtain⟨h1,h2⟩:=Hy I1 r1 ty;exact⟨T,id,pa,slot,Yn,h1,h2,Calls.callWith_builtin rfl (PySem.evalArgs_none (hm pins s1 σ H1 x [] v [] Q I1 r1 .nil q1))⟩
def aa_(pa:PlainAttrs T)(slot:Slot T name id)(Yn:typeOf (.builtin id)=pure (.type "method_descriptor"))(hm:sX X id r)(ho:PE X o to)(ha:PA X (e::es) t)
  (rZ:attributeBase o name X.env (eval o X.env)=eval o X.env:=by rfl)
  (y_:((backTo dH (starEach (e::es) X.env)).all (λx=>!x.1) && (backToKw dH (keywordEach [] X.env)).all (λx=>x.1.isSome)
   && decide ((e::es).length+([]:List Keyword).length+(if ([]:List Keyword).isEmpty then 0 else 1)<30))=true:=by rfl)
  (hline:(apos.endLine==dH.line)=true:=by rfl) (hs:starEach (e::es) X.env=0xb::starEach es X.env:=by rfl) (vJ:#[10,dH,es].any (·.1)=false:=by rfl) :
  PE X (.Call (.Attribute o name apos) (e::es) [] dH) (tBM X.K T r to t):=by
 show 8;refine wpAny_Call_method_late rZ y_ hline rfl (cO (ho pins s σ H _ I h) λv s1 zz=>?_);obtain⟨x,H1,I1,r1,ty,q1⟩:=zz;obtain⟨h1,h2⟩:=Hy I1 r1 ty;refine⟨T,id,pa,slot,Yn,h1,h2,?_⟩;have hA:=ha dH pins s1 σ H1 _ I1 q1;rw[hs]at hA ⊢;refine Calls.callWith_builtin (by show (false || #[10,dH,es].any (·.1))=false;rw[vJ]<;>rfl) (Calls.evalArgs_plain ?_);refine cO hA λus s2 zz=>?_;obtain⟨vs,H2,I2,r2,q2⟩:=zz;exact hm pins s2 σ H2 x vs v us Q I2 r1 r2 q2
end
def MtM(X:Cx)(id:String)(r:V->List V->Hp->VK->Prop):Prop :=
 ∀(pins:List 0x6) (s:Shared) (σ:St) (H:Hp) (x:V) (xs:List V) (v:Value) (us:List Value) (Q:VK),Inv X pins σ H s->RelV x v->Vals xs us->r x xs H Q ->
  wpAny 0x7 X.A (call (.builtin id) (v::us)) (EP X pins σ Q) X.xe s
theorem Vals.one:∀{x:V} {us:List Value},Vals [x] us->∃u,us=[u]/\RelV x u
 | _,_,.cons r .nil=>⟨_,rfl,r⟩
theorem Vals.zero:∀{us:List Value},Vals [] us->us=[]
 | _,.nil=>rfl
def Vals.dropLast{xs:List V}{us:List Value}(h:Vals xs us):Vals xs.dropLast us.dropLast:=by
 induction h with
 | nil=>exact .nil
 | cons r t ih =>
  cases t with
  | nil=>exact .nil
  | cons q t'=>exact .cons r ih
def Vals.reverse{xs:List V}{us:List Value}(h:Vals xs us):Vals xs.reverse us.reverse:=by
 induction h with
 | nil=>exact .nil
 | cons r t ih=>rw[mV,mV];exact Vals.append ih (.cons r .nil)
def zsm{α:Type}(l:List α):l.eraseIdx (l.length - 1)=l.dropLast:=by
 induction l with
 | nil=>rfl
 | cons a r ih =>
  cases r with
  | nil=>rfl
  | cons b r =>
   have e:(a::b::r).length - 1=((b::r).length - 1)+1:=by
    have h1:(a::b::r).length=r.length+2:=rfl;have h2:(b::r).length=r.length+1:=rfl;omega
   rw[e,List.eraseIdx_cons_succ,ih]
   all_goals rfl
section
variable  {X:Cx}{pins:List 0x6}{σ:St}{H:Hp}{s:Shared}{l b:Addr}{xs ys zs:List V}
def Inv.Xf{its its':List Value}{n:Nat}{f:Array Value->Array Value}{t':Nat}(I:Inv X pins σ H s)(hH:H l=some (.lst xs))
  (e:s.heap.get? l=some { cls:=.type "list",data:=.seq its.toArray n }) (hf:f its.toArray=its'.toArray) (hv:Vals ys its') (hz:ys.length<=sizeLine) :
  Inv X pins σ (upd H l (.lst ys)) { s with heap:=s.heap.update l (Obj.mapSeq f),toks:=t' }:=by
 have q:=PySem.IsL.update e f;rw[hf]at q;refine I.write (x:=l) (e:=l) (by rw[hH];exact trivial) (.inl rfl) (λb' u hb hu=>(Heap.get?_update_other s.heap (Obj.mapSeq f) (afi hb)).trans hu) ⟨_,q⟩ ?_;exact⟨hz,its',_,hv,q⟩
def Inv.adJ(I:Inv X pins σ H s)(hv:Vals ys its)(hz:ys.length<=sizeLine) :
  Inv X pins σ (upd H s.heap.objs.size (.lst ys)) { s with heap:=s.heap.push { cls:=.type "list",data:=.seq its.toArray },toks:=t' } :=
 I.laid (λ_ _ q=>gF _ q) (gb _) ⟨hz,its,0,hv,g_ _ rfl⟩
def Inv.fresh(I:Inv X pins σ H s):H s.heap.objs.size=none:=I.bQ.fresh (gb _)
def Inv.J8(I:Inv X pins σ H s)(hH:H l=some (.lst xs)):xs.length<=sizeLine/\∃(its:List Value) (n:Nat),Vals xs its/\xs.length=its.length/\s.heap.get? l=some { cls:=.type "list",data:=.seq its.toArray n }:=by
 obtain⟨z,its,n,r,e⟩:=I.bQ l _ hH;exact⟨z,its,n,r,r.length,e⟩
end
section
variable  {X:Cx}
def Qd:V->List V->Hp->VK->Prop:=λx vs H Q=>∃l xs y,x=.ref l/\vs=[y]/\H l=some (.lst xs)/\xs.length<sizeLine/\Q .non (upd H l (.lst (xs++[y])))
def zpm:MtM X "list.append" Qd:=by
 intro pins s σ H x vs v us Q I rx rv h;obtain⟨l,xs,y,rfl,rfl,hH,hz,q⟩:=h;cases rx;obtain⟨u,rfl,ru⟩:=rv.one;obtain⟨z,its,n,r,hl,e⟩:=I.J8 hH;refine call_meets F.slot_list_append ⟨_,e,rfl⟩ F.entry_list_append (F.args_list_append_2 _ _) (PySem.list_append l its.toArray n u (by rw[gG];omega)) ⟨e,?_⟩;refine⟨.non,_,I.Xf (its':=its++[u]) hH e 0x1 (r.append (.cons ru .nil)) ?_,rfl,q⟩;rw[gQ,nu];omega
def adp:V->List V->Hp->VK->Prop:=λx vs H Q=>∃l xs y,x=.ref l/\vs=[]/\H l=some (.lst xs)/\xs[xs.length - 1]? = some y/\Q y (upd H l (.lst xs.dropLast))
def W_:MtM X "list.pop" adp:=by
 intro pins s σ H x vs v us Q I rx rv h;obtain⟨l,xs,y,rfl,rfl,hH,hy,q⟩:=h;cases rx;have hus:=rv.zero;subst hus;obtain⟨z,its,n,r,hl,e⟩:=I.J8 hH;obtain⟨u,hu,ru⟩:=r.get hy;have Yk:its.toArray[its.toArray.size - 1]? = some u:=by
  show its.toArray[its.length - 1]? = some u;rw[<-Array.getElem?_toList,<-hl];exact hu
 refine call_meets F.slot_list_pop ⟨_,e,rfl⟩ F.entry_list_pop (F.args_list_pop_1 _) (MeetsSeq.list_pop_last l its.toArray n u Yk (by rw[gG];omega)) ⟨e,?_⟩;refine⟨y,_,I.Xf (its':=its.dropLast) hH e ?_ r.dropLast ?_,ru,q⟩
 ·show its.toArray.eraseIdxIfInBounds (its.toArray.size - 1)=its.dropLast.toArray;rw[gG,List.eraseIdxIfInBounds_toArray,zsm]
 ·rw[List.length_dropLast];omega
def IW:V->List V->Hp->VK->Prop:=λx vs H Q=>∃l xs,x=.ref l/\vs=[]/\H l=some (.lst xs)/\Q .non (upd H l (.lst xs.reverse))
def zsz:MtM X "list.reverse" IW:=by
 intro pins s σ H x vs v us Q I rx rv h;obtain⟨l,xs,rfl,rfl,hH,q⟩:=h;cases rx;have hus:=rv.zero;subst hus;obtain⟨z,its,n,r,hl,e⟩:=I.J8 hH;refine call_meets F.slot_list_reverse ⟨_,e,rfl⟩ F.entry_list_reverse (F.args_list_reverse_1 _) (AutoSeq1.list_reverse_list_0 l its.toArray n (by rw[gG];omega)) ⟨e,?_⟩;refine⟨.non,_,I.Xf (its':=its.reverse) hH e 0x1 r.reverse ?_,rfl,q⟩;rw[pJ];omega
noncomputable def adq:R2:=λx y H Q=>∃l b xs zs,x=.ref l/\y=.ref b/\H l=some (.lst xs)/\H b=some (.lst zs)/\xs.length+zs.length<=sizeLine/\∀p,H p=none->Q (.ref p) (upd H p (.lst (xs++zs)))
def WR:eQ X (binaryOp .Add) adq:=by
 show 10;obtain⟨l,b,xs,zs,rfl,rfl,hH,hB,hz,q⟩:=h;cases rx;cases ry;obtain⟨z,its,n,r,hl,e⟩:=I.J8 hH;obtain⟨z2,rR,n2,r2,K8,e2⟩:=I.J8 hB;refine PySem.P.add_list e e2 ?_ (by rw[gG,gG];omega);have ea:its.toArray++rR.toArray=(its++rR).toArray:=by simp
 rw[ea];exact⟨.ref _,_,I.adJ (t':=s.toks) (r.append r2) (by rw[gQ];omega),rfl,q _ I.fresh⟩
end
section
variable  {prog:Program}{w:World}{A:Around}{E:Value->Shared->Prop}{s:Shared}
set_option maxRecDepth 100000 in
end
section
variable  {X:Cx}
end
end L2
namespace Att
open PySem PySem.W PySem.Calls PyProof.Rows
def zjj:∀(ns:List Int) (vs:List Value),WellAll P h vs (ns.map WData.int)->IntsAre vs ns:=by
 intro ns
 induction ns with
 | nil =>
  intro vs w;rw[mC]at w;cases w;exact .nil
 | cons n ns ih =>
  intro vs w;rw[gq]at w;cases w with
  | cons a b =>
   cases a;exact .cons _ _ (ih _ b)
def Eg{l:OpenLaw}{n:Nat}(hn:l.most=some n){P:Params}{h:Heap}{args:List WData}{vals:List Value}
  (RP:l.row.toRowW.claim.pre args=true) (hwl:WellAll P h vals args) :
  ∃a vs ns,vals=[Value.ref a]/\args=[WData.list (ns.map WData.int)]/\h.get? a=some { cls:=.type "list",data:=.seq vs.toArray }/\IntsAre vs ns/\ns.length<=n:=by
 have hsh:WShape.hasAll [] args [.list .int]=true:=(pre_splitW RP).1;have hc:l.pre.holds [] { args:=args }=true:=(pre_splitW RP).2;obtain⟨d,r,rfl,h1,h2⟩:=hasAllW_cons hsh;obtain rfl:=hasAllW_nil h2;obtain⟨xs,rfl,h3⟩:=hasW_list h1;obtain⟨ns,rfl⟩:=items_int h3;have hlen:ns.length<=n:=by
  unfold OpenLaw.pre at hc;have h4:(WTm.not (.lt (.lit (.int (n:Int))) (.len (.arg 0)))).holds [] { args:=[.list (ns.map .int)] }=true:=by
   have h4:=(holds_andW hc).1;rw[hn]at h4;exact h4
  have h5:=condW_of h4 (w_not (w_lt w_lit (w_len_list (w_arg rfl))));rw[gj]at h5;refine Nat.le_of_not_lt λq=>?_;have q':(n:Int)<(ns.length:Int):=by omega
  first
   | (rw[afb q']at h5;exact absurd h5 0x5)
   | (simp at h5;omega)
 cases hwl with
 | cons w1 w2 =>
  cases w2;cases w1 with
  | list ho uT=>exact⟨_,_,ns,rfl,rfl,ho,zjj ns _ uT,hlen⟩
def Er(l:OpenLaw)(args:List WData):l.row.toRowW.claim.post args (.bool true) args=true :=
 postW_of (r:=l.row.toRowW) (X:=(true==true))
  (show WShape.has [] (.bool true) .bool=true by first | rfl | decide | simp[WShape.has,WShape.arms,WShape.armsAll])
  (show (WTm.eq .res (.lit (.bool true))).value [] { args:=args,res:=some (.bool true),after:=args }=some (.bool (true==true)) from w_eq_bool (w_res rfl) w_lit) rfl
def zqk{l:OpenLaw}{n:Nat}{q:Program}{loose:List Str}{XP:(Str->Option Value)->Heap->Prop}{YP:World->Heap->Prop}{d:DefRec}
  (hn:l.most=some n) (hdf:d.params.defaults=[])
  (call:∀(w:World) (aeX aeW:Shared) (mg mb:Str->Option Value) (fa:Addr) (o:Obj) (pm cd doc:Value) (a:Addr) (vs:List Value) (ns:List Int),
   Ground q loose [] XP w aeX mg mb aeW.heap->YP w aeW.heap ->
   aeW.heap.get? fa=some o->o.data=.func (docDef d.name d.params d.body d.scope pm cd doc)->aeW.heap.CodeRec cd d.name->mg d.name=some (.ref fa) ->
   aeW.heap.get? a=some { cls:=.type "list",data:=.seq vs.toArray }->IntsAre vs ns->ns.length<=n->aeW.gens=#[] ->
   codeAny (model l.prog w) callerA (.call (.ref fa) ⟨[.ref a],[]⟩) (λr s'=>r=.ok (.ret (.bool true))/\OldK aeW.heap s'.heap/\s'.os=aeW.os/\AllBare s'.gens) aeW) :
  WalkO q loose XP YP l.row.toRowW d [] (λf vs=>PySem.call f vs):=by
 intro w aeX aeW mg mb G Y fa o pm cd doc dV kV ho hd ym hD hmg hg args vals as RP hlay hrd hwl hlo;obtain rfl:dV=.none:=Dflts.none hD hdf;obtain rfl:kV=.none:=Dflts.noKw hD;obtain⟨a,vs,ns,rfl,rfl,Yt,hints,hlen⟩:=Eg hn RP hwl;refine enter_call (afO (call w aeX aeW mg mb fa o pm cd doc a vs ns G Y ho (fd_plain hd) ym hmg Yt hints hlen hg) λr s' hq=>?_);obtain⟨rfl,h2,h3,h4⟩:=hq;exact⟨.inl ⟨.bool true,.bool true,[],rfl,λ_=>rfl,.bool true,Er l _,λ_=>⟨List.Pairwise.nil,λ_ hm=>(nomatch hm)⟩⟩,h2,h3,h4⟩
section
variable  {prog:Program}{w:World}{A:Around}{E:Value->Shared->Prop}{s:Shared}{K:Frag}
noncomputable def xX(h:Heap):Heap:={ h with objs:=#[] }
def zh9(h:Heap)(b:Addr):(xX h).get? b=none:=by
 cases e:(xX h).get? b with
 | none=>rfl
 | some o=>exact absurd (gr e) (Nat.not_lt_zero _)
noncomputable def ledger(h:Heap)(L d:Addr):List 0x6:=(List.range h.objs.size).filterMap λa=>if a=L\/a=d then none else (h.get? a).map λo=>(a,o)
def zlz:(a,o)∈ledger h L d↔a≠L/\a≠d/\h.get? a=some o:=by
 unfold ledger;rw[pQ];constructor
 ·rintro ⟨b,_,e⟩
  split at e
  ·cases e
  ·rename_i hb;obtain⟨o',ho,e'⟩:=nA.mp e;cases e';exact⟨λq=>hb (.inl q),λq=>hb (.inr q),ho⟩
 ·rintro ⟨n1,n2,ho⟩;refine⟨a,List.mem_range.mpr (gr ho),?_⟩;rw[ae8 (show ¬ (a=L\/a=d) from λq=>q.elim n1 n2),ho]<;>rfl
def zqv(lU:d≠L)(ho:h.get? d=some od):News (xX h) L h ([]++(d,od)::ledger h L d):=by
 rintro ⟨a,o⟩ hp;rcases gm.mp hp with e | hp
 ·cases e;exact⟨ho,lU,zh9 _ _⟩
 ·obtain⟨n1,n2,e⟩:=zlz.mp hp;exact⟨e,n1,zh9 _ _⟩
def Lk(n:h.Ns L m):Fr (xX h) L h m :=
 ⟨n,λb o e=>(by rw[zh9]at e;cases e),mL _⟩
end
end Att
namespace L2
open PySem PySem.Spec PyProof.Rows
theorem zp7:∀{vs:List Value} {ns:List Int},IntsAre vs ns->Vals (ns.map V.int) vs
 | _,_,.nil=>.nil
 | _,_,.cons n t h=>.cons ⟨t,rfl⟩ (zp7 h)
noncomputable abbrev KOf{K:PySem.W.Frag}{h:Heap}(_:K.In h):PySem.W.Frag:=K
noncomputable def bZ(s:Stmt):Arguments:=match s with
 | .FunctionDef _ a _ _ _ _ _ _ _ _=>a
 | _=>{ posonlyargs:=[],args:=[],vararg:=none,kwonlyargs:=[],kw_defaults:=[],kwarg:=none,defaults:=[] }
noncomputable def bh(s:Stmt):List Stmt:=match s with
 | .FunctionDef _ _ b _ _ _ _ _ _ _=>b
 | _=>[]
noncomputable def aD(s:Stmt):Scope:=match s with
 | .FunctionDef _ _ _ _ _ _ sc _ _ _=>sc
 | _=>{ kind:=.function,names:=[],isGenerator:=false,isCoroutine:=false }
noncomputable abbrev qP:Ni:=λ_ _ _ _ _ _=>False
noncomputable abbrev E0:XK:=λ_ _ _=>False
def BL:Passes qP X E0:=λ_ _ _ _ _ _ _ h=>h.elim
structure Dp(K:PySem.W.Frag)(x qual:Str)(st:Stmt)(f:Addr)(fd:FuncData):Prop where
 ex:∃(oc:Value) (od:Option Addr) (kV doc pm:Value) (an:Option Addr) (cdv ct:Value) (ue:Array (Option Value)),
  fd=PySem.W.fnOf x qual (bZ st) (bh st) (aD st) .none kV doc pm an cdv ct/\K.lookup f=some ⟨oc,od,.func fd,ue⟩/\PySem.W.codeIn K cdv qual=true
 kp:PySem.W.keepIn K (.ref f)=true
section
variable  {P:Program}{w:World}{K:PySem.W.Frag}{mg:Str->Option Value}{base:Heap}
def Dp.ok{x qual:Str}{st:Stmt}{f:Addr}{fd:FuncData}{N ps:List Str}{k:Nat}{sp:Sp}(F:Dp K x qual st f fd)(S:dm N ps (aD st))(len:∀vs H Q E,sp vs H Q E->vs.length=ps.length)
  (lV:∀(cdv:Value) (A:Around) (outer:List Env) (s:Shared) (H:Hp) (vs:List V) (Q:VK) (E:XK),cT k (A.deeper (envOfC qual (aD st) s.heap.objs.size f cdv))->sp vs H Q E ->
   ∃t,zJ (vX qP P w K mg base N qual (aD st) f cdv A outer s H E).JF (bh st) t/\t { nx:=λ_ H'=>Q .non H',rt:=Q } (start N vs) H):cH P w K mg base qP (k+1) f fd ps sp:=by
 obtain⟨oc,od,kV,doc,pm,an,cdv,ct,ue,rfl,lk,ym⟩:=F.ex;refine Lp lk ym S len λA outer s H vs Q E hr hsp=>?_;obtain⟨t,h,q⟩:=lV cdv A outer s H vs Q E hr hsp;exact⟨t,h.JF,q⟩
def Dp.binds{x qual:Str}{st:Stmt}{f:Addr}{fd:FuncData}{ps:List Str}(F:Dp K x qual st f fd)
  (h:∀(kV doc pm:Value) (an:Option Addr) (cdv ct:Value) (us:List Value),us.length=ps.length->bindArgs #[14,.none] ⟨us,[]⟩=pure (ps.zip us)):Binds K fd ps []:=by
 obtain⟨oc,od,kV,doc,pm,an,cdv,ct,ue,rfl,lk,ym⟩:=F.ex;exact .all (h kV doc pm an cdv ct)
def fun_mk{x qual:Str}{st:Stmt}{f:Addr}{oc:Value}{od an:Option Addr}{ue:Array (Option Value)}{kV doc pm cdv ct:Value}(l:K.lookup f=some ⟨oc,od,.func #[14,.none],ue⟩)
  (c:PySem.W.codeIn K cdv qual=true) (k:PySem.W.keepIn K (.ref f)=true):Dp K x qual st f #[14,.none]:=⟨⟨oc,od,kV,doc,pm,an,cdv,ct,ue,rfl,l,c⟩,k⟩
end
def Uu(hr:cT k A):A.units+1<cLine:=Nat.lt_of_le_of_lt (Nat.add_le_add_left (by decide:1<=64) _) hr.units
section
variable  {X:Cx}
end
def yX{A B:Prop}(h:B):if false=true then A else B:=by
 rw[ae8 pP];exact h
def yW{A B:Prop}(h:A):if true=true then A else B:=by
 rw[ae7 rfl];exact h
def Xo(lo:Nat)(e C dx:Addr)(fl:Option Value)(H:Hp)(h:Heap):Prop :=
 lo<=e/\H e=none/\∃oe vs,h.get? e=some oe/\oe.cls=.ref C/\oe.dict=some dx/\oe.data=.fields vs/\1<vs.size /\
  match fl with
  | none=>vs[1]? = some .none
  | some v=>∃T oT ts,vs[1]? = some (.ref T)/\lo<=T/\T≠e/\H T=none/\h.get? T=some oT/\oT.data=.fields ts/\ts[3]? = some v
section
variable  {X:Cx}
def Jy:eQ X (binaryOp .FloorDiv) (rI (λ_ j=>0<j/\j<2 ^ 64) λi j=>.int (i / j)):=by
 refine opI λi j t u s Q E hc h=>?_;obtain⟨h0,h1⟩:=hc;have e:i.fdiv j=i / j:=Int.fdiv_eq_ediv_of_nonneg i (Int.le_of_lt h0);refine floordiv_int 0x0 (by rw[e];exact h) (.inl (PyProof.noPylong_of_log2 ?_));have h2:j.natAbs<2 ^ 64:=by omega
 have h3:j.natAbs≠0:=by omega
 have:=(Nat.log2_lt h3).mpr h2;omega
def Mx{prog:Program}{w:World}{A:Around}{E:Value->Shared->Prop}{s:Shared}{t b:Addr}{ws:List Value}{Q:Value->Shared->Prop}(ht:IsTup s.heap t #[])(hb:IsTup s.heap b ws.toArray)
  (h1:Q (.ref b) s):wpAny 0xa A (binaryOp .Add (.ref t) (.ref b)) Q E s:=by
 obtain⟨⟨cls,dd,data,sl⟩,ho,hc,n,hd⟩:=id ht;obtain⟨⟨aeq,dd2,data2,sl2⟩,K7,YF,n2,hd2⟩:=id hb;simp only at hc hd YF hd2;subst hc hd YF hd2;exact concat_meets ⟨_,ho,rfl⟩ ⟨_,K7,rfl⟩ noFill_tuple_add seq_tuple_add afR afN (afL _ _)
   (tuple_addW0 t b #[] ws.toArray n n2 dd dd2 sl sl2 0x1) ⟨ho,K7,h1⟩
noncomputable def Wa(K:PySem.W.Frag):R2:=λx y H Q=>∃a b ys,x=.ref a/\y=.ref b/\oJ K H a []/\oJ K H b ys/\Q (.ref b) H
def JC:eQ X (binaryOp .Add) (Wa X.K):=by
 show 10;obtain⟨a,b,ys,rfl,rfl,ha,hb,q⟩:=h;cases rx;cases ry;obtain⟨its,r1,p1,_⟩:=I.tuple ha;obtain⟨rR,r2,p2,_⟩:=I.tuple hb;cases r1;exact Mx p1 p2 ⟨.ref b,H,I,rfl,q⟩
end
end L2
namespace HT
open PySem PyProof.Rows
section
variable  {prog:Program}{w:World}{A:Around}{E:Value->Shared->Prop}{s:Shared}
def zgd{t sl:Addr}{items:Array Value}{vl vu:Value}{lo hi:Option Int}{Q:Value->Shared->Prop}(ht:IsTup s.heap t items)(hs:s.heap.IsSliceOf sl vl vu .none)(pl:IsPart vl lo)(pu:IsPart vu hi)
  (hw:dh items.size 0 lo=0/\dh items.size items.size hi=items.size)
  (h:Q (.ref t) s):wpAny 0xa A (getItem (.ref t) (.ref sl)) Q E s:=by
 obtain⟨os,Ys,hcs,yG⟩:=id hs;have hTs:s.TypeIs (.ref sl) "slice":=⟨os,Ys,hcs⟩;unfold getItem
 try with_reducible refine afC ?_
 first | refine ae6 (ae9 ?_) | skip
 refine ae6 (wpAny_sequenceKey ht.typeIs 0x5 ?_);refine ae6 (afq (name:=Str.ofString "__getitem__") ht.typeIs afn
  (afF afn ht.typeIs entry_tuple_getitem ?_ (args_tuple_getitem _ _)))
 show 27;have hno:(0x1a=true):=by
  rw[hw.1,hw.2];simp
 show wpAny _ _ (if 0x1a=true then _ else _) _ _ s;rw[ae7 hno];unfold Builtin.Tuple.tupleIsExact;refine ae6 (ae6 (wpAny_typeOf ht.typeIs ?_));refine ae9 ?_;rw[ae7 0x5];exact ae6 (wpAny_rule (ae9 ⟨_,rfl,ae9 h⟩))
end
end HT
namespace L2
open PySem PySem.Spec PyProof.Rows
section
variable  {X:Cx}
def aaU(K:PySem.W.Frag):V->Option Int->Option Int->Hp->VK->Prop:=λx lo hi H Q=>∃a xs,x=.ref a/\oJ K H a xs /\
 (HT.dh xs.length 0 lo=0/\HT.dh xs.length xs.length hi=xs.length)/\Q (.ref a) H
def Pj:zF X (aaU X.K):=by
 intro pins s σ H x v vl vu lo hi sl Q I rx hs pl pu h;obtain⟨a,xs,rfl,hx,hw,q⟩:=h;cases rx;obtain⟨its,r,ht,hz⟩:=I.tuple hx;have hlen:its.toArray.size=xs.length:=by rw[gG];exact r.length.symm
 refine⟨"tuple",_,PyProof.Rows.slot_tuple_getitem.lookup,ht.typeIs,?_⟩;exact HT.zgd ht hs pl pu (by rw[hlen];exact hw) ⟨.ref a,H,I,rfl,q⟩
end
section
variable  {X:Cx}{pins:List 0x6}{σ:St}{H:Hp}{s:Shared}{h':Heap}{t':Nat}
def Inv.Bj{ch:List Addr}{a:Addr}{o:HO}(I:Inv X pins σ H s)(hf:∀b∈ch,qM X pins H b)(k:∀b ob,b∉ch->s.heap.get? b=some ob->h'.get? b=some ob)(hp:s.heap.objs.size<=a)
  (new:cA X.prog X.w (upd H a o) h' a o):Inv X pins σ (upd H a o) { s with heap:=h',toks:=t' }:=by
 have hn:H a=none:=I.bQ.fresh hp;have JN:∀b u,H b=some u->b∉ch:=λb u e hb=>by rw[(hf b hb).1]at e;cases e
 have na:∀b u,H b=some u->b≠a:=λb u e=>z7 e hn;refine I.step (g':=s.gens) (d':=s.drawn) (ch:=ch) (λb hb=>?_) (λb o _ _ hc e _=>k b o hc e) (λb o _ _ hc e _=>⟨o.slots,k b o hc e⟩)
  (λb o _ e n=>by rw[iK (gY (gR (gr e) hp))];exact n)
  (λb o hc e=>⟨o,k b o hc e⟩) (λb xs e=>by rw[iK (na b _ e)];exact e) (λb o u e=>by rw[iK (na b _ e)];exact e) (λb ps e=>⟨#[],by rw[iK (na b _ e),e];simp⟩) (λm hm=>?_) (λb u e=>?_) I.bare
 ·obtain⟨f0,f1,f2,f3,f4,f5⟩:=hf b hb;exact⟨f3,f1,f4,f5⟩
 ·obtain⟨ob,es,ep,ho,r⟩:=hm;exact⟨ob,es,ep,k _ ob (λz=>(hf _ z).2.1 rfl) ho,r⟩
 ·by_cases hb:b=a
  ·subst hb;rw[qT]at e;cases e;exact new
  ·rw[iK hb]at e;refine (I.bQ b u e).uN (λc v hc q=>k c v ?_ q) (λc q=>by rw[iK (na c _ q)];exact q) λc xs q=>by rw[iK (na c _ q)];exact q
   rcases hc with z | z
   ·rw[z];exact JN b u e
   ·exact JN c _ z
def Inv.turns{ch:List Addr}(I:Inv X pins σ H s)(hf:∀b∈ch,qM X pins H b)(k:∀b ob,b∉ch->s.heap.get? b=some ob->h'.get? b=some ob):Inv X pins σ H { s with heap:=h',toks:=t' }:=by
 have JN:∀b u,H b=some u->b∉ch:=λb u e hb=>by rw[(hf b hb).1]at e;cases e
 refine I.step (g':=s.gens) (d':=s.drawn) (ch:=ch) (λb hb=>?_) (λb o _ _ hc e _=>k b o hc e) (λb o _ _ hc e _=>⟨o.slots,k b o hc e⟩)
  (λb o _ e n=>n) (λb o hc e=>⟨o,k b o hc e⟩) (λb xs e=>e) (λb o u e=>e) (λb ps e=>⟨#[],by rw[e];simp⟩) (λm hm=>?_) (λb u e=>?_) I.bare
 ·obtain⟨f0,f1,f2,f3,f4,f5⟩:=hf b hb;exact⟨f3,f1,f4,f5⟩
 ·obtain⟨ob,es,ep,ho,r⟩:=hm;exact⟨ob,es,ep,k _ ob (λz=>(hf _ z).2.1 rfl) ho,r⟩
 ·refine (I.bQ b u e).uN (λc v hc q=>k c v ?_ q) (λc q=>q) λc xs q=>q;rcases hc with z | z
  ·rw[z];exact JN b u e
  ·exact JN c _ z
end
noncomputable def Ite(K:PySem.W.Frag)(a:Addr):It :=
 ⟨λi H=>∃xs x,oA K H a xs/\xs[i]? = some x,
  λi H y H'=>∃p x,H p=none/\y=.ref p/\H'=upd H p (.tup [.int i,x])/\∀xs,oA K H a xs->xs[i]? = some x,
  λi H=>∃xs,oA K H a xs/\xs.length<=i⟩
def DW{P:Program}{w:World}{K:PySem.W.Frag}{elts:List Expr}{x1:Nat}{pos:Pos}(a e it:Addr)(lU:e≠it) :
  Turn P w K (.Tuple elts x1 pos) (Ite K a) [e,it] e (λi h=>∃old,IsEnum h e it (i:Int) old/\h.IsListIter it a i) where
 mem:=by simp
 obj:=λi h st b hb=>by
  obtain⟨old,h1,h2⟩:=st;rcases gm.mp hb with rfl | hb
  ·exact⟨_,h1,λv z=>by cases z⟩
  ·have e:b=it:=by simpa using hb
   subst e;obtain⟨o,q,c,d⟩:=h2;exact⟨o,q,λv z=>by rw[d]at z;cases z⟩
 keep:=λi h h' st k=>by
  obtain⟨old,h1,h2⟩:=st;exact⟨old,k e 0x1 _ h1,h2.at λo q=>k it 0x1 o q⟩
 item:=by
  show 2;obtain⟨xs,x,hq,hx⟩:=hg;obtain⟨old,h1,h2⟩:=st;obtain⟨its,rv,p,hz⟩:=I.list hq;obtain⟨u,hu,ru⟩:=rv.get hx;refine wpAny_pyNext_enum_item h1 h2 p.isList (x:=u) (by simpa using hu) lU λae4 N8 hit ht hsz hk=>?_;refine⟨_,rfl,wpAny_letOwnedTupleGo_enum N8 λae3 ad6 K6=>?_⟩;replace K6:Heap.SameBut e ae4 ae3:=K6;have wk:e<s.heap.objs.size:=gr h1;have Yc:it<s.heap.objs.size:=by obtain⟨o,q,_⟩:=h2;exact gr q
  have ht2:ae3.get? s.heap.objs.size=some { cls:=.type "tuple",data:=.seq #[.int i s.toks,u] }:=by rw[K6.2 _ (mK wk)];exact ht
  have kk:∀b ob,b∉[e,it]->s.heap.get? b=some ob->ae3.get? b=some ob:=λb ob hb q=>by
   have b1:b≠e:=λz=>hb (by simp[z]);have b2:b≠it:=λz=>hb (by simp[z]);exact K6.extBut b ob b1 (hk b ob b1 b2 q)
  refine⟨.ref s.heap.objs.size,upd H s.heap.objs.size (.tup [.int i,x]),I.Bj hf kk (gb _) ?_,rfl,⟨_,x,I.bQ.fresh (gb _),rfl,rfl,λys hy=>by rw[I.vz hy hq];exact hx⟩,?_,λb hb=>?_⟩
  ·refine⟨by show 2<=sizeLine;decide,[.int i s.toks,u],.cons ⟨_,rfl⟩ (.cons ru .nil),?_⟩;exact⟨_,ht2,rfl,_,rfl⟩
  ·refine⟨u,?_,hit.extBut K6.extBut (afi lU)⟩;have:(i:Int)+1=((i+1:Nat):Int):=by omega
   rw[<-this];exact ad6
  ·rw[iK]
   ·exact (hf b hb).1
   ·intro z;subst z;rcases gm.mp hb with z | z
    ·exact mK wk z
    ·exact mK Yc (by simpa using z)
 done:=by
  show 2;obtain⟨xs,hq,hx⟩:=hg;obtain⟨old,h1,h2⟩:=st;obtain⟨its,rv,p,hz⟩:=I.list hq;have hl:=rv.length;exact wpAny_pyNext_enum_end (I.ok.hd hc) h1 h2 p.isList 0x9 λh' eb=>⟨rfl,I.turns (t':=s.toks) (ch:=[e,it]) hf λb o hb q=>eb b o (λz=>hb (by simp[z])) q⟩
 self:=λ_ _ _ _ _ st h=>by
  obtain⟨old,h1,h2⟩:=st;exact wpAny_pyIter_enum h1 h
noncomputable def abC(K:PySem.W.Frag)(ta:TA):TI:=fun σ H R=>ta σ H λvs H1=>∃a,vs=[.ref a]/\(∃xs,oA K H1 a xs)/\R (Ite K a) H1
def zo3:bootBuiltins "enumerate" = some (.type "enumerate"):=by decide +kernel
def Qv{X:Cx}{elts:List Expr}{x1:Nat}{xO:Pos}{a:Expr}{ta:TA}{p pos:Pos}(hg:Gl X "enumerate")(hm:X.mg "enumerate" = none)(ha:PA X [a] ta)(hs:starEach [a] X.env=[(false,eval a X.env)]:=by rfl) :
  PI X (.Tuple elts x1 xO) (.Call (.Name "enumerate" p) [a] [] pos) (abC X.K ta):=by
 intro pins s σ H R I h;refine Call_ (Oi I hg hm zo3 (afg 0x17 hs rfl));obtain⟨vs,H1,I1,r1,q1⟩:=zz;obtain⟨l,e,⟨xs,hq⟩,q⟩:=q1;subst e;cases r1 with
 | cons r rr =>
  cases rr;cases r;obtain⟨its,rv,pl,hz⟩:=I1.list hq;refine call_enumerate_list pl.isList λh' he hit hsz hk=>?_;refine wpAny_pyIter_enum he ?_;have I2:Inv X pins σ H1 { s1 with heap:=h' }:=I1.kept (t':=s1.toks) hk;refine⟨s1.heap.objs.size+1,[s1.heap.objs.size+1,s1.heap.objs.size],_,_,H1,rfl,I2,DW l _ _ (mK (nY _)),⟨.none,he,hit⟩,λb hb=>?_,q⟩;have oR:s1.heap.objs.size<=b:=by
   rcases gm.mp hb with z | z
   ·rw[z];exact Nat.le_succ _
   ·have:b=s1.heap.objs.size:=by simpa using z
    rw[this];exact gb _
  exact I1.vN oR (I1.bQ.fresh oR)
noncomputable def Itv(K:PySem.W.Frag)(a:Addr)(n:Nat):It :=
 ⟨λi H=>∃xs x,oA K H a xs/\xs.length=n/\i<n/\xs[n - 1 - i]? = some x,λi H x H'=>H'=H/\∀xs,oA K H a xs->xs[n - 1 - i]? = some x,λi H=>(∃xs,oA K H a xs/\xs.length=n)/\i=n⟩
def HB{P:Program}{w:World}{K:PySem.W.Frag}{tg:Expr}(a it:Addr)(n:Nat):Turn P w K tg (Itv K a n) [it] it (λi h=>h.IsRevIter it a ((n:Int) - 1 - (i:Nat))) where
 mem:=by simp
 obj:=λi h st b hb=>by
  have e:b=it:=by simpa using hb
  show 15
 keep:=λi h h' st k=>st.at λo e=>k it 0x1 o e
 item:=by
  show 2;obtain⟨xs,x,hq,hn,hi,hx⟩:=hg;obtain⟨its,rv,p,hz⟩:=I.list hq;obtain⟨u,hu,ru⟩:=rv.get hx;show 6;have ei:(n:Int) - 1 - (i:Nat)=((n - 1 - i:Nat):Int):=by omega
  rw[ei]at st;refine wpAny_pyNext_rev_item st p.isList (x:=u) (by simpa using hu) λh' st' sb=>?_;show 9;obtain⟨o,e,c,d⟩:=id st';refine⟨u,rfl,ug (s:={ s with heap:=h' }) e c d 0x5 ⟨x,H,I1,ru,⟨rfl,λys hy=>by rw[I.vz hy hq];exact hx⟩,?_,λb hb=>(hf b hb).1⟩⟩;have e2:(n:Int) - 1 - ((i+1:Nat))=((n - 1 - i:Nat):Int) - 1:=by omega
  rw[e2];exact st'
 done:=by
  show 2;obtain⟨⟨xs,hq,hn⟩,hi⟩:=hg;show 6;have ei:(n:Int) - 1 - (i:Nat)=-1:=by omega
  rw[ei]at st;exact wpAny_pyNext_rev_end (I.ok.hd hc) st λh' eb=>⟨rfl,I.turned (t':=s.toks) (λb o hb e=>eb b o hb e) f0 f1 f3 f4 f5⟩
 self:=λ_ _ _ _ _ st h=>wpAny_pyIter_revIter st h
noncomputable def adQ(K:PySem.W.Frag)(ta:TA):TI:=fun σ H R=>ta σ H λvs H1=>∃a xs,vs=[.ref a]/\oA K H1 a xs/\R (Itv K a xs.length) H1
def zoi:bootBuiltins "reversed" = some (.type "reversed"):=by decide +kernel
def Wn{X:Cx}{tg a:Expr}{ta:TA}{p pos:Pos}(hg:Gl X "reversed")(hm:X.mg "reversed" = none)(ha:PA X [a] ta)(hs:starEach [a] X.env=[(false,eval a X.env)]:=by rfl) :
  PI X tg (.Call (.Name "reversed" p) [a] [] pos) (adQ X.K ta):=by
 show 14;obtain⟨l,xs,e,hq,q⟩:=q1;subst e;cases r1 with
 | cons r rr =>
  cases rr;cases r;obtain⟨its,rv,pl,hz⟩:=I1.list hq;refine call_reversed_list pl.isList ?_;have st:(s1.heap.push (revObj l ((its.toArray.size:Int) - 1))).IsRevIter s1.heap.objs.size l ((xs.length:Int) - 1 - ((0:Nat):Int)):=by
   refine⟨_,g_ _ rfl,rfl,?_⟩;have e1:(its.toArray.size:Int) - 1=(xs.length:Int) - 1 - ((0:Nat):Int):=by rw[gG,<-rv.length];omega
   rw[<-e1];rfl
  refine wpAny_pyIter_revIter st ?_;refine⟨s1.heap.objs.size,[s1.heap.objs.size],_,_,H1,rfl,I1.kept (t':=s1.toks) λb o e=>gF _ e,HB l _ xs.length,st,λb hb=>?_,q⟩;have e:b=s1.heap.objs.size:=by simpa using hb
  subst e;show 24
def zm0(h:∀x∈scope.names,x.2=.free->∃c,env.cells.lookup x.1=some c) :
  ∃cl,closureFor scope env=pure cl/\(∀x c,cl.lookup x=some c->env.cells.lookup x=some c)/\∀x,(x,NameKind.free)∈scope.names->∃c,cl.lookup x=some c:=by
 have key:∀(names:List (Str×NameKind)) (acc:List (Str×Addr)),(∀x∈names,x.2=.free->∃c,env.cells.lookup x.1=some c)->(∀x c,acc.lookup x=some c->env.cells.lookup x=some c) ->
   ∃cl,(forIn names acc λ(x:Str×NameKind) (cs:List (Str×Addr))=>(if x.2 == .free then do let a <-cellOf env x.1;pure (ForInStep.yield ((x.1,a)::cs)) else pure (ForInStep.yield cs):Sem _))=pure cl/\(∀x c,cl.lookup x=some c->env.cells.lookup x=some c) /\
    (∀x,(x,NameKind.free)∈names->∃c,cl.lookup x=some c)/\∀x c,acc.lookup x=some c->∃c',cl.lookup x=some c':=by
  intro names
  induction names with
  | nil=>intro acc _ ha;exact⟨acc,rfl,ha,⟨(λx hx=>nomatch hx),λx c q=>⟨c,q⟩⟩⟩
  | cons y r ih =>
   intro acc hn ha;obtain⟨n,k⟩:=y;have hr:∀x∈r,x.2=.free->∃c,env.cells.lookup x.1=some c:=λx hx=>hn x (kW _ hx);by_cases hk:k=.free
   ·subst hk;obtain⟨c,hc⟩:=hn (n,.free) 0x1 rfl;have ha':∀x c',((n,c)::acc).lookup x=some c'->env.cells.lookup x=some c':=λx c' q=>by
     rw[kE]at q;cases e:x==n with
     | true=>rw[e]at q;cases q;rw[eq_of_beq e];exact hc
     | false=>rw[e]at q;exact ha x c' q
    obtain⟨cl,h1,h2,h3,h4⟩:=ih ((n,c)::acc) hr ha';refine⟨cl,?_,h2,λx hx=>?_,λx c' q=>?_⟩
    ·rw[List.forIn_cons];simp only[beq_self_eq_true,if_true,cellOf,hc];exact h1
    ·rcases gm.mp hx with e | hx
     ·cases e;exact h4 n c 0x1
     ·exact h3 x hx
    ·cases e:x==n with
     | true=>exact h4 x c (by rw[kE,e])
     | false=>exact h4 x c' (by rw[kE,e];exact q)
   ·have hb:(k==NameKind.free)=false:=by simpa using hk
    obtain⟨cl,h1,h2,h3,h4⟩:=ih acc hr ha;refine⟨cl,?_,h2,λx hx=>?_,h4⟩
    ·rw[List.forIn_cons];simp only[hb,Bool.false_eq_true,if_false];exact h1
    ·rcases gm.mp hx with e | hx
     ·cases e;exact absurd rfl hk
     ·exact h3 x hx
 obtain⟨cl,h1,h2,h3,_⟩:=key scope.names [] h (λx c q=>by simp at q);refine⟨cl,?_,h2,h3⟩;unfold closureFor;show (forIn scope.names [] (λ(x:Str×NameKind) (cs:List (Str×Addr))=>(if x.2 == .free then do let a <-cellOf env x.1;pure (ForInStep.yield ((x.1,a)::cs)) else pure (ForInStep.yield cs):Sem _)) >>= λcs=>pure cs)=pure cl;rw[h1]
 rfl
theorem zdj{f:Str×NameKind->Str×NameKind}(h1:∀p,(f p).1=p.1):∀{names:List (Str×NameKind)} {x:Str},(names.map f).lookup x=(names.lookup x).map λk=>(f (x,k)).2
 | [],_=>rfl
 | (n,j)::r,x=>by
  rw[gq];have e:f (n,j)=(n,(f (n,j)).2):=by
   have:=h1 (n,j);exact Prod.ext this rfl
  rw[e,kE,kE];cases hx:x==n with
  | true=>rw[eq_of_beq hx];rfl
  | false=>exact zdj h1
noncomputable def Ab(env:Env)(p:Str×NameKind):Str×NameKind:=if (p.2 == .free && env.scope.kind == .function && env.kindOf p.1==some .cell)=true then (p.1,.cell) else (p.1,p.2)
def zrn(env:Env)(p:Str×NameKind):(Ab env p).1=p.1:=by unfold Ab;split<;>rfl
def zsu(env:Env)(p:Str×NameKind):(Ab env p).2=p.2\/(p.2=.free/\(Ab env p).2=.cell):=by
 unfold Ab
 split
 ·rename_i h;rw[gM,gM]at h;exact .inr ⟨eq_of_beq h.1.1,rfl⟩
 ·exact .inl rfl
def zhj(scope:Scope)(env:Env):(relabel scope env).names=scope.names.map (Ab env):=rfl
def zfz{scope:Scope}{env:Env}{x:Str}{k:NameKind}(h:(relabel scope env).names.lookup x=some k):scope.names.lookup x=some k\/(scope.names.lookup x=some .free/\k=.cell):=by
 rw[zhj,zdj (zrn env)]at h;cases e:scope.names.lookup x with
 | none=>rw[e]at h;cases h
 | some j =>
  rw[e]at h;have h':(Ab env (x,j)).2=k:=afa h;rcases zsu env (x,j) with q | ⟨q1,q2⟩
  ·rw[q]at h';exact .inl (by rw[<-h'])
  ·rw[q2]at h';exact .inr ⟨by rw[show j=NameKind.free from q1],h'.symm⟩
def zgq{scope:Scope}{env:Env}{x:Str}(h:scope.names.lookup x=some .free):(relabel scope env).names.lookup x=some .cell\/(relabel scope env).names.lookup x=some .free:=by
 rw[zhj,zdj (zrn env),h];rcases zsu env (x,.free) with q | ⟨_,q⟩
 ·exact .inr (by rw[Option.map_some,q])
 ·exact .inl (by rw[Option.map_some,q])
theorem mem_of_lookup[BEq α][LawfulBEq α]:∀{l:List (α×β)},l.lookup x=some k->(x,k)∈l
 | [],h=>by simp at h
 | (n,j)::r,h=>by
  rw[kE]at h;cases e:x==n with
  | true=>rw[e]at h;cases h;rw[eq_of_beq e];simp
  | false=>rw[e]at h;exact kW _ (mem_of_lookup h)
noncomputable def cZ(X:Cx)(N:List Str)(scope:Scope)(cl:List (Str×Addr))(C:Addr)(fp:List Addr)(s:Shared)(H:Hp):Cx :=
 { X with N:=N,aeX:=s,ae5:=H,env:=compEnvC scope cl C X.env,outer:=X.stack,stack:=X.stack,ex:=fp,fn:=λ_=>false,pn:=[],xe:=λ_ _=>False }
structure fU(scope:Scope):Prop where
 kind:scope.kind=.function
 cell:∀y∈scope.names,y.2≠.cell
 names:∀y∈scope.names,y.2=.local->scope.names.lookup y.1=some .local
def lA(X:Cx)(scope:Scope):List (Option Nat)->List Str->Prop
 | [],[]=>True
 | none::r,_::xs=>lA X scope r xs
 | some j::r,x::xs=>(X.N[j]? = some x/\(X.env.kindOf x=some .cell\/X.env.kindOf x=some .free)/\scope.names.lookup x=some .free)/\lA X scope r xs
 | _,_=>False
noncomputable def jx(capt:List (Option Nat))(σ:St):St:=capt.map λo=>o.bind λj=>(σ[j]?).join
theorem lA.len:∀{capt:List (Option Nat)} {N:List Str},lA X scope capt N->capt.length=N.length
 | [],[],_=>rfl
 | none::r,_::xs,h=>by simp[lA.len (show lA X scope r xs from h)]
 | some j::r,x::xs,h=>by simp[lA.len h.2]
 | [],_::_,h=>h.elim
 | none::_,[],h=>h.elim
 | some _::_,[],h=>h.elim
theorem lA.at_:∀{capt:List (Option Nat)} {N:List Str} {i j:Nat} {x:Str},lA X scope capt N->capt[i]? = some (some j)->N[i]? = some x ->
  X.N[j]? = some x/\(X.env.kindOf x=some .cell\/X.env.kindOf x=some .free)/\scope.names.lookup x=some .free
 | [],[],_,_,_,_,e,_=>by simp at e
 | none::r,y::xs,0,_,_,_,e,_=>by simp at e
 | none::r,y::xs,i+1,_,_,h,e,e2=>lA.at_ (i:=i) (show lA X scope r xs from h) (by simpa using e) (by simpa using e2)
 | some k::r,y::xs,0,_,_,h,e,e2=>by
  simp at e e2;subst e e2;exact h.1
 | some k::r,y::xs,i+1,_,_,h,e,e2=>lA.at_ (i:=i) h.2 (by simpa using e) (by simpa using e2)
 | [],_::_,_,_,_,h,_,_=>h.elim
 | none::_,[],_,_,_,h,_,_=>h.elim
 | some _::_,[],_,_,_,h,_,_=>h.elim
section
variable  {X:Cx}{pins:List 0x6}{σ:St}{H:Hp}{s:Shared}{N:List Str}{scope:Scope}{cl:List (Str×Addr)}{C:Addr}{fp:List Addr}{capt:List (Option Nat)}
def Sy(I:Inv X pins σ H s)(S:fU scope)(uQ:∀x c,cl.lookup x=some c->X.env.cells.lookup x=some c)(uT:∀x,(x,NameKind.free)∈scope.names->∃c,cl.lookup x=some c)
  (hC:s.heap.objs.size<=C) (hf:∀b∈fp,qM X pins H b) (hb:∀b∈fp,b<s.heap.objs.size):0xf.Ok where
 mod:=I.ok.mod
 kind:=S.kind
 glob:=I.ok.glob
 blt:=I.ok.blt
 above:=hC
 inj:=λx y c h1 h2=>I.ok.inj x y c (uQ x c h1) (uQ y c h2)
 has:=λx hx=>by
  have q:scope.names.lookup x=some .free:=by
   rcases hx with hx | hx
   ·rcases zfz hx with e | ⟨e,_⟩
    ·exact absurd rfl (S.cell _ (mem_of_lookup e))
    ·exact e
   ·rcases zfz hx with e | ⟨e,_⟩
    ·exact e
    ·exact e
  exact uT x (mem_of_lookup q)
 U8:=λx c h=>by cases h
 hd:=I.ok.hd
 frames:=I.ok.frames
 stk:=.inl rfl
 exf:=λb oR=>⟨gY (gR (hb b oR) hC),λx c h=>(hf b oR).2.2.2.2.1 x c (uQ x c h)⟩
 bs:=I.bs
 Gz:=kh I.ok.Gz I.sz
 EY:=λb o e oR=>by
  rcases (hf b oR).2.2.2.1 with z | z
  ·exact I.ok.EY b o e z
  ·exact absurd (gr e) (Nat.not_lt.mpr (kh I.ok.Gz z))
 Ly:=λb oR z=>by
  rcases gm.mp (I.vh b z) with e | e
  ·exact (hf b oR).2.1 e
  ·exact (hf b oR).2.2.1 e
 oU:=I.stack
 Li:=I.Bp
def Mr(I:Inv X pins σ H s)(S:fU scope)(uQ:∀x c,cl.lookup x=some c->X.env.cells.lookup x=some c)(uT:∀x,(x,NameKind.free)∈scope.names->∃c,cl.lookup x=some c) 
  (hC:s.heap.objs.size<=C) (hf:∀b∈fp,qM X pins H b) (hb:∀b∈fp,b<s.heap.objs.size) (uR:lA X scope capt N) (hn:h'.Ns C m) (hk:∀b o,s.heap.get? b=some o->h'.get? b=some o) :
  Inv 0xf [] (jx capt σ) H { s with heap:=h',toks:=t' } where
 ok:=Sy I S uQ uT hC hf hb
 os:=rfl
 bare:=I.bare
 base:=Un.kept hk
 loc:=by
  refine⟨m,hn,λi x v hN hv aeO=>?_⟩;have hN':N[i]? = some x:=hN;unfold jx at hv;rw[gO]at hv;cases e:capt[i]? with
  | none=>rw[e]at hv;cases hv
  | some o =>
   rw[e]at hv;cases o with
   | none=>cases hv
   | some j =>
    have Ar:(σ[j]?).join=some v:=by simpa using hv
    have hv2:σ[j]? = some (some v):=by
     cases q:σ[j]? with
     | none=>rw[q]at Ar;cases Ar
     | some z=>rw[q]at Ar;cases Ar;rfl
    obtain⟨h1,h2,h3⟩:=uR.at_ e hN';obtain⟨m0,hm0,hl⟩:=I.loc;have hvx:Vis X.env.scope x:=by
     rcases h2 with h2 | h2
     ·exact .inr (.inl h2)
     ·exact .inr (.inr h2)
    obtain⟨u,r,lk⟩:=hl j x v h1 hv2 hvx;refine⟨u,r,?_⟩;rcases lk with⟨k1,_⟩ | ⟨_,c,k2,k3⟩
    ·rcases h2 with h2 | h2<;>(rw[h2]at k1;cases k1)
    ·obtain⟨c',hc'⟩:=uT x (mem_of_lookup h3);have:=uQ x c' hc';rw[k2]at this;cases this;refine .inr ⟨zgq h3,c,hc',?_⟩;obtain⟨o,e1,e2⟩:=k3;exact⟨o,hk c o e1,e2⟩
 cell:=λx c h=>by
  obtain⟨v,o,e1,e2⟩:=I.cell x c (uQ x c h);exact⟨v,o,hk c o e1,e2⟩
 free:=I.bQ.fresh hC
 jL:=λx c h=>I.jL x c (uQ x c h)
 pin:=λp hp=>by simp[cZ]at hp
 bQ:=I.bQ.kept hk
 len:=by show (jx capt σ).length=N.length;unfold jx;rw[gj];exact uR.len
end
noncomputable abbrev Bl(ifs:List Expr)(env:Env):Sem Bool:=forIn ifs true λc r=>if r=true then do let ok <-isTrue c env (eval c env);pure (ForInStep.yield ok) else pure (ForInStep.yield r)
theorem znp(I:Nat->Shared->Prop) 
  (turn:∀n s,I n s->wpAny 0xa A (pyNext it) (λr aeW=>match r with
   | none=>R (.ok .next) aeW
   | some v=>wpAny 0xa A (letOwnedTupleGo target it v) (λ_ aex=>wpAny 0xa A (assign target env v) (λ_ aeV =>
     wpAny 0xa A (Bl ifs env) (λok aeU =>
      if ok=true then wpAny 0xa A (eval elt env) (λx aeT =>
       wpAny 0xa A (call (.builtin "list.append") [acc,x]) (λ_ aeS=>∃m,m<n/\I m aeS) (λ_ _=>False) aeT) (λ_ _=>False) aeU
      else ∃m,m<n/\I m aeU) (λ_ _=>False) aeV) (λ_ _=>False) aex) (λ_ _=>False) aeW) (λ_ _=>False) s)
  (n:Nat) (h:I n s) :
  codeAny 0xa A (.compLoop (.ListComp elt [⟨target,iter,ifs,0⟩] scope pos) 0 it acc env) R s:=by
 refine codeAny_loop rfl I (λn s hI=>?_) n h;show wpAny _ A ((compTurn (.ListComp elt [⟨target,iter,ifs,0⟩] scope pos) 0 it acc env).onRaise (λx=>do noteFrame x env;theTreesLotGoes x)) _ _ s;refine wpAny_noted ?_;rw[compTurn_list];refine ae6 (wpAny_standAt (ae6 (afk (turn n s hI) (λr aeW ae4=>?_) λ_ _ h'=>h'.elim)));cases r with
 | none=>exact ae9 ae4
 | some v =>
  refine ae6 (afk ae4 (λ_ aex aeN=>?_) λ_ _ h'=>h'.elim);refine ae6 (afk aeN (λ_ aeV ae3=>ae6 (afk ae3 (λok aeU ae2=>?_) λ_ _ h'=>h'.elim)) λ_ _ h'=>h'.elim);cases ok with
  | false=>exact ae9 ⟨rfl,ae2⟩
  | true =>
   exact ae6 (ae6 (afk ae2 (λx aeT ae1=>ae6 (afk ae1 (λ_ aeS ae0=>ae9 (ae9 ⟨rfl,ae0⟩)) λ_ _ h'=>h'.elim)) λ_ _ h'=>h'.elim))
def Y9(X:Cx)(ifs:List Expr)(t:TT):Prop :=
 ∀(pins:List 0x6) (s:Shared) (σ:St) (H:Hp) (Q:Bool->Hp->Prop),Inv X pins σ H s->t σ H Q->wpAny 0x7 X.A (Bl ifs X.env) (TP X pins σ Q) X.xe s
def Qh:Y9 X [] (fun σ H Q=>Q true H):=λpins s σ H Q I h=>wpAny_tests_nil ⟨H,I,h⟩
def Qg{X:Cx}{c:Expr}{t:TT}(h:PT X c t):Y9 X [c] t:=λpins s σ H Q I q=>wpAny_tests_one (h pins s σ H Q I q)
noncomputable def HF(capt:List (Option Nat))(wi:TI)(g:TG)(tt:TT)(te:TE):TE:=fun σ H Q=>wi σ H λJ H1=>∀D,H1 D=none->∃W:Nat->Nat->St->Hp->Prop,(∃m,W 0 m (jx capt σ) (upd H1 D (.lst []))) /\
 ∀i m σ' H',W i m σ' H'->(J.stop i H'/\Q (.ref D) H')\/(J.go i H'/\∃N:St->Hp->Prop,(∀σ2 H2,N σ2 H2->∃m',m'<m/\W (i+1) m' σ2 H2) /\
  ∀x H2,J.yld i H' x H2->g x σ' H2 fun σ3 H3=>tt σ3 H3 λok H4=>if ok=true then te σ3 H4 λy H5=>∃xs,H5 D=some (.lst xs)/\xs.length<sizeLine/\N σ3 (upd H5 D (.lst (xs++[y]))) else N σ3 H4)
section
variable  {X:Cx}{elt tg iter:Expr}{ifs:List Expr}{scope:Scope}{pos:Pos}{N:List Str}{capt:List (Option Nat)}{wi:TI}{g:TG}{tt:TT}{te:TE}
def zmw{pins:List 0x6}{σ:St}{H:Hp}{s:Shared}{it:Addr}{fp:List Addr}{tn:Nat->Heap->Prop}{J:It}{cl:List (Str×Addr)}{Q:VK}{E:Value->Shared->Prop}{RR:Value->Addr->Result->Shared->Prop}
  (I:Inv X pins σ H s) (T:Turn X.prog X.w X.K tg J fp it tn) (st:tn 0 s.heap) (hf:∀b∈fp,qM X pins H b)
  (S:fU scope) (uQ:∀x c,cl.lookup x=some c->X.env.cells.lookup x=some c) (uT:∀x,(x,NameKind.free)∈scope.names->∃c,cl.lookup x=some c) (uR:lA X scope capt N) (hc:X.calm=true)
  (hg:∀cl C fp s H,PG 0xf tg g) (ht:∀cl C fp s H,Y9 0xf ifs tt) (he:∀cl C fp s H,PE 0xf elt te)
  (h:∀D,H D=none->∃W:Nat->Nat->St->Hp->Prop,(∃m,W 0 m (jx capt σ) (upd H D (.lst []))) /\
   ∀i m σ' H',W i m σ' H'->(J.stop i H'/\Q (.ref D) H')\/(J.go i H'/\∃N:St->Hp->Prop,(∀σ2 H2,N σ2 H2->∃m',m'<m/\W (i+1) m' σ2 H2) /\
    ∀x H2,J.yld i H' x H2->g x σ' H2 fun σ3 H3=>tt σ3 H3 λok H4=>if ok=true then te σ3 H4 λy H5=>∃xs,H5 D=some (.lst xs)/\xs.length<sizeLine/\N σ3 (upd H5 D (.lst (xs++[y]))) else N σ3 H4))
  (hRR:∀(D C:Addr) (H':Hp) (s':Shared) (m:Str->Option Value),s'.heap.Ns C m->Inv X pins σ H' s'->qM X pins H' C->Q (.ref D) H'->RR (.ref D) C (.ok .next) s') :
  wpAny 0x7 X.A (newList []) (λacc aeU=>wpAny 0x7 X.A (newFunctionEnv scope X.env.globals cl [] X.env.qual none .none (some X.env)) (λabX aeT =>
   codeAny 0x7 X.A (.compStart 0x14 0 (.ref it) acc { abX with scope:=relabel scope X.env }) (RR acc abX.locals) aeT) E aeU) E s:=by
 have hD:H s.heap.objs.size=none:=I.bQ.fresh (gb _);have I3:Inv X pins σ (upd H s.heap.objs.size (.lst [])) { s with heap:=s.heap.push { cls:=.type "list",dict:=none,data:=.seq ([]:List Value).toArray } } :=
  I.laid (t':=s.toks) (λb o q=>gF _ q) (gb _) ⟨by show 0<=sizeLine;decide,[],0,.nil,g_ _ rfl⟩
 obtain⟨W,⟨m0,w0⟩,turn⟩:=h _ hD;refine afo (wpAny_newFunctionEnv S.cell (by intro y hy;simp at hy) (λae4 Yu Yo=>?_) S.kind);dsimp only at Yu Yo ⊢;generalize hH2:s.heap.push { cls:=.type "list",dict:=none,data:=.seq ([]:List Value).toArray }=Hh at Yu Yo I3 ⊢;have U0:∀b∈fp,b<s.heap.objs.size:=λb hb=>by
  obtain⟨o,e,_⟩:=T.obj 0 s.heap st b hb;exact gr e
 have szH:Hh.objs.size=s.heap.objs.size+1:=by rw[<-hH2,Heap.size_push]
 have abO:∀b∈fp,b<Hh.objs.size:=λb hb=>by rw[szH];exact Nat.lt_succ_of_lt (U0 b hb)
 have hf3:∀b∈fp,qM X pins (upd H s.heap.objs.size (.lst [])) b:=λb hb=>by
  obtain⟨f0,fr⟩:=hf b hb;exact⟨by rw[iK (gY (U0 b hb))];exact f0,fr⟩
 have zX:∀b o,Hh.get? b=some o->ae4.get? b=some o:=λb o e=>Yo.extBut b o (gY (gr e)) (gF _ e);have st1:tn 0 ae4:=T.keep 0 _ _ st λb hb o e=>zX b o (by rw[<-hH2];exact gF _ e);generalize hX:cZ X N scope cl Hh.objs.size fp { s with heap:=Hh } (upd H s.heap.objs.size (.lst []))=X';have I4:Inv X' [] (jx capt σ) (upd H s.heap.objs.size (.lst [])) { s with heap:=ae4,toks:=s.toks+([]:List (Str×Value)).length }:=by
  rw[<-hX];exact Mr (capt:=capt) I3 S uQ uT (gb _) hf3 abO uR Yu zX
 have eP:X'.prog=X.prog:=by rw[<-hX];rfl
 have ew:X'.w=X.w:=by rw[<-hX];rfl
 have eK:X'.K=X.K:=by rw[<-hX];rfl
 have eA:X'.A=X.A:=by rw[<-hX];rfl
 have eC:X'.calm=true:=by rw[<-hX];exact hc
 have eE:X'.env=compEnvC scope cl Hh.objs.size X.env:=by rw[<-hX];rfl
 have eX:X'.xe=λ_ _=>False:=by rw[<-hX];rfl
 have ePn:X'.pn=[]:=by rw[<-hX];rfl
 have hg':PG X' tg g:=by rw[<-hX];exact hg _ _ _ _ _
 have ht':Y9 X' ifs tt:=by rw[<-hX];exact ht _ _ _ _ _
 have he':PE X' elt te:=by rw[<-hX];exact he _ _ _ _ _
 have stat:∀{H':Hp},(∀b∈fp,H' b=none)->∀b∈fp,qM X' [] H' b:=λ{H'} hn b hb=>by
  rw[<-hX];refine⟨hn b hb,gY (abO b hb),λz=>?_,.inl hb,λx c q=>(hf b hb).2.2.2.2.1 x c (uQ x c q),λp hp=>by simp[cZ]at hp⟩;rcases gm.mp (I3.vh b z) with e | e
  ·exact (hf b hb).2.1 e
  ·exact (hf b hb).2.2.1 e
 have back:∀{σ':St} {H':Hp} {s':Shared},Inv X' [] σ' H' s'->∀h'',Heap.SameBut Hh.objs.size s'.heap h''->Inv X pins σ H' { s' with heap:=h'' }:=λ{σ' H' s'} I' h'' sb=>by
  have u:=I'.base;rw[<-hX]at u;have NZ:∀b o,Hh.get? b=some o->b≠Hh.objs.size:=λb o e=>gY (gr e);have nC:H' Hh.objs.size=none:=by have:=I'.free;rw[eE]at this;exact this
  refine I3.ab4 (s':={ s' with heap:=h'' }) (ch:=fp) (by have:=I'.os;rw[<-hX]at this;exact this) ?_ ?_ I'.bare (λb hb=>⟨(hf3 b hb).2.2.2.1,(hf3 b hb).2.1,(hf3 b hb).2.2.2.2.1,(hf3 b hb).2.2.2.2.2⟩)
  ·exact⟨λb o e n hb hx=>sb.extBut b _ (NZ b o e) (u.keep b o e n hb hx),λb o e n hb hx=>let ⟨sl,q⟩:=u.slot b o e n hb hx;⟨sl,sb.extBut b _ (NZ b o e) q⟩,u.free,
    λb o e hx=>let ⟨o',q⟩:=u.there b o e hx;⟨o',sb.extBut b _ (NZ b o e) q⟩,u.u9,u.t7,u.uM⟩
  ·have hk:=I'.bQ;rw[eP,ew]at hk;intro b ob e;have nb:∀c v,H' c=some v->c≠Hh.objs.size:=λc v q=>z7 q nC;refine (hk b ob e).uN (λc v hc q=>sb.extBut c v ?_ q) (λ_ q=>q) λ_ _ q=>q;rcases hc with z | z
   ·rw[z];exact nb b _ e
   ·exact nb c _ z
 have loop:∀aeU:Shared,aeU={ s with heap:=ae4,toks:=s.toks+([]:List (Str×Value)).length } ->
   codeAny 0x7 X.A (.compLoop 0x14 0 (.ref it) (.ref s.heap.objs.size) (compEnvC scope cl Hh.objs.size X.env)) (RR (.ref s.heap.objs.size) Hh.objs.size) aeU:=by
  rintro aeU rfl;refine znp (λn s'=>∃i σ' H',Inv X' [] σ' H' s'/\tn i s'.heap/\(∀b∈fp,H' b=none)/\W i n σ' H') ?_ m0 ⟨0,_,_,I4,st1,λb hb=>(hf3 b hb).1,w0⟩;rintro n s3 ⟨i,σ3,H3,I5,ie,fr3,w3⟩;rw[<-eP,<-ew,<-eA,<-eE];rcases turn i n σ3 H3 w3 with⟨stop,qn⟩ | ⟨go,Nn,hN,step⟩
  ·have d:=T.done X' eP ew eK eC i [] s3 σ3 H3 (λ_ _=>False) I5 (stat fr3) ie stop;rw[<-eP,<-ew]at d;refine cO d λr s4 zz=>?_;obtain⟨hr,I6⟩:=zz;subst hr;obtain⟨mm,FJ,_⟩:=I6.loc;rw[eE]at FJ;have nC:H3 Hh.objs.size=none:=by have:=I6.free;rw[eE]at this;exact this
   exact hRR _ _ H3 s4 mm FJ (back I6 s4.heap (.refl ..)) (I3.vN (gb _) nC) qn
  ·have d:=T.item X' eP ew eK eC i [] s3 σ3 H3 (λ_ _=>False) I5 (stat fr3) ie go;rw[<-eP,<-ew]at d;refine cO d λr s4 zz=>?_;obtain⟨u,hr,h4⟩:=zz;subst hr;refine cO h4 λ_ s5 zz=>?_;obtain⟨x,H5,I6,r5,y5,NQ,fr5⟩:=zz;have I6':=I6.pinned (stat fr5) (T.obj _ _ NQ);have dg:=hg' _ s5 σ3 H5 x u _ I6' r5 (step x H5 y5);rw[eX]at dg;refine cO dg λ_ s6 zz=>?_;obtain⟨σ6,H6,I7,q6⟩:=zz;have dt:=ht' _ s6 σ6 H6 _ I7 q6;rw[eX]at dt;refine cO dt λok s7 zz=>?_;obtain⟨H7,I8,q7⟩:=zz;have again:∀{σ9:St} {H9:Hp} {s9:Shared},Inv X' ([]++vq fp s5.heap) σ9 H9 s9->Nn σ9 H9->∃m,m<n/\∃i σ' H',Inv X' [] σ' H' s9/\tn i s9.heap/\(∀b∈fp,H' b=none)/\W i m σ' H':=λ{σ9 H9 s9} I9 n9=>by
    obtain⟨m',hm,w9⟩:=hN σ9 H9 n9;refine⟨m',hm,i+1,σ9,H9,I9.qW,T.keep _ _ _ NQ λb hb o e=>(I9.pin (b,o) (mF _ (mF _ (zf1 hb e)))).1,λb hb=>?_,w9⟩;obtain⟨o,e,d⟩:=T.obj _ _ NQ b hb;exact (I9.pin (b,o) (mF _ (mF _ (zf1 hb e)))).2.1
   cases ok with
   | false=>exact again I8 q7
   | true =>
    have de:=he' _ s7 σ6 H7 _ I8 q7;rw[eX]at de;refine cO de λy s8 zz=>?_;obtain⟨v,H8,I9,r8,q8⟩:=zz;obtain⟨xs,hx,hz,nn⟩:=q8;have da:=zpm (X:=X') _ s8 σ6 H8 (.ref s.heap.objs.size) [v] (.ref s.heap.objs.size) [y] (λ_ H9=>Nn σ6 H9) I9 rfl (.cons r8 .nil) ⟨_,xs,v,rfl,rfl,hx,hz,nn⟩;rw[eX]at da;refine cO da λ_ s9 zz=>?_;obtain⟨_,H9,I10,_,n9⟩:=zz;exact again I10 n9
 exact codeAny_compStart_list (loop _ rfl) (T.self _ 0 _ _ _ st1 (loop _ rfl))
def zmy(I:Inv X pins σ H s)(RX:∀x∈scope.names,x.2=.free->X.env.kindOf x.1=some .cell\/X.env.kindOf x.1=some .free) :
  ∃cl,closureFor scope X.env=pure cl/\(∀x c,cl.lookup x=some c->X.env.cells.lookup x=some c)/\∀x,(x,NameKind.free)∈scope.names->∃c,cl.lookup x=some c :=
 zm0 λx hx hk=>I.ok.has x.1 (RX x hx hk)
def Inv.xG(I:Inv X pins σ H s)(f:qM X pins H C)(sb:Heap.SameBut C s.heap h'):Inv X pins σ H { s with heap:=h' } :=
 I.turned (t':=s.toks) (λb o hb e=>sb.extBut b o hb e) f.1 f.2.1 f.2.2.2.1 f.2.2.2.2.1 f.2.2.2.2.2
def QF(hi:PI X tg iter wi)(S:fU scope)(RX:∀x∈scope.names,x.2=.free->X.env.kindOf x.1=some .cell\/X.env.kindOf x.1=some .free)(uR:lA X scope capt N)(hc:X.calm=true)
  (hg:∀cl C fp s H,PG 0xf tg g) (ht:∀cl C fp s H,Y9 0xf ifs tt) (he:∀cl C fp s H,PE 0xf elt te)
  (hs:∀x,foldedSetIterable iter X.env x=pure x:=by intro _;rfl):PE X 0x14 (HF capt wi g tt te):=by
 show 8;obtain⟨cl,uQ,h1,h2⟩:=zmy I RX;rw[eval_ListComp];refine wpAny_comprehension_free (use:=none) rfl hs uQ S.kind S.names (cO (hi pins s σ H _ I h) λv s1 q1=>cO q1 λitv s2 q2=>?_);obtain⟨it,fp,tn,J,H2,e,I2,T,st2,f2,q⟩:=q2;subst e;refine zmw (RR:=λacc C=>compPost 0x7 X.A X.xe none (EP X pins σ Q) acc C) I2 T st2 f2 S h1 h2 uR hc hg ht he q ?_;intro D C H' s' m hn I' f' q';exact⟨m,hn,λh'' sb=>⟨.ref D,H',I'.xG f' sb,rfl,q'⟩⟩
def zsn(hN:X.N.Nodup)(hy:X.N[i]? = some y)(hx:Loc X.env.scope y)(hsw:swapsWith 0x14 (some (.Name y py)) VR.line X.env=pure true) 
  (hi:PI X tg iter wi) (S:fU scope) (RX:∀x∈scope.names,x.2=.free->X.env.kindOf x.1=some .cell\/X.env.kindOf x.1=some .free) (uR:lA X scope capt N) (hc:X.calm=true)
  (hg:∀cl C fp s H,PG 0xf tg g) (ht:∀cl C fp s H,Y9 0xf ifs tt) (he:∀cl C fp s H,PE 0xf elt te)
  (hs:∀x,foldedSetIterable iter X.env x=pure x:=by intro _;rfl) (hf:X.fn y=true\/X.env.scope.names.lookup y=some .local:=by first | exact .inl rfl | exact .inr rfl | assumption) :
  PS X (.Assign [.Name y py] 0x14 VR) (VN (HF capt wi g tt te) (CN i)):=by
 intro pins s σ H D I h;obtain⟨cl,uQ,h1,h2⟩:=zmy I RX;rw[exec_Assign_Name_used _ _ _ _ hsw];refine ae6 (wpAny_standAt (ae6 ?_));show wpAny _ X.A (do let _ <-comprehension 0x14 scope X.env _ (newList []) false (eval iter X.env) (some (assign (.Name y py) X.env))) _ _ s;refine ae6 (afk (wpAny_comprehension_free (use:=some (assign (.Name y py) X.env)) (Q:=λ_ s'=>SP X pins D .next s') rfl hs uQ S.kind S.names
  (cO (hi pins s σ H _ I h) λv s1 q1=>cO q1 λitv s2 q2=>?_)) (λ_ s' hq=>ae9 (ae9 hq)) λ_ _ e=>e)
 obtain⟨it,fp,tn,J,H2,e,I2,T,st2,f2,q⟩:=q2;subst e;refine zmw (Q:=λx H1=>CN i x σ H1 D.nx) (RR:=λacc C=>compPost 0x7 X.A X.xe (some (assign (.Name y py) X.env)) (λ_ s'=>SP X pins D .next s') acc C) I2 T st2 f2 S h1 h2 uR hc hg ht he q ?_;intro D' C H' s' m hn I' f' q';show wpAny _ X.A (assign (.Name y py) X.env (.ref D')) _ _ _;refine wpAny_assign_Name (zo5 I' hN hy hx (v:=.ref D') rfl (λs'' I'' zz=>?_) hf);obtain⟨a,sb,ha⟩:=zz;have NZ:C≠a:=by
  rcases ha with e | e
  ·rw[e];exact f'.2.1
  ·exact afi (f'.2.2.2.2.1 _ _ e)
 obtain⟨o,es,ep,ho,r⟩:=hn;exact⟨m,⟨o,es,ep,sb.extBut C o NZ ho,r⟩,λh'' sb'=>⟨_,H',I''.xG f' sb',q'⟩⟩
end
end L2
namespace M
open PySem PySem.Spec L2
inductive D where
 | non | bl (b:Bool) | int (i:Int) | str (cs:List Nat) | tup (xs:List D) | loc (n:Nat)
instance:Inhabited D:=⟨.non⟩
structure fQ where
 qual:Str
 params:Arguments
 body:Expr
 scope:Scope
 oW:List Str
inductive MO where
 | lst (xs:List D) | frz (xs:List D) | dic (kvs:List (List Key×D)) | dkc (kvs:List (Key×D))
 
 | dkf (kvs:List (Key×D))
 
 | dtf (kvs:List (List Key×D))
 
 | ins (c:Str) (fs:List (Str×D))
 
 | tab (x:Str)
 
 | clo (j:Nat) (l:fQ) (ds:List D)
 
 | exc (c:String) (d:D)
 
 | hid
noncomputable abbrev ak:=List MO
noncomputable abbrev aK:=List (Option D)
structure Xc where
 cls:String
 fld:D
inductive R (α:Type) where
 | ok (a:α) (st:ak) | err (x:Xc) (st:ak) | bad
def eY{α:Sort u}{a b:α}(h:a=b):a=b:=h
noncomputable def R.bind{α β:Type}(r:R α)(f:α->ak->R β):R β:=match r with
 | .ok a st=>f a st
 | .err x st=>.err x st
 | .bad=>.bad
@[simp] def R.aB{α β:Type}(a:α)(st:ak)(f:α->ak->R β):(R.ok a st).bind f=f a st:=eY rfl
@[simp] def R.sO{α β:Type}(x:Xc)(st:ak)(f:α->ak->R β):(R.err x st:R α).bind f=.err x st:=eY rfl
@[simp] def R.sS{α β:Type}(f:α->ak->R β):(R.bad:R α).bind f=.bad:=eY rfl
noncomputable abbrev strOf(cs:List Nat):Str:=⟨cs.toArray⟩
instance aey {K:PySem.W.Frag} {H:Hp} {a:Addr} {xs:List V}:CoeTail (H a=some (.tup xs)) (oJ K H a xs):=⟨oJ.of⟩
noncomputable def E_:List D->Bool
 | []=>false
 | .int _::r=>E_ r
 | .str _::r=>E_ r
 | _::_=>true
noncomputable def GK:List D->Bool
 | []=>true
 | .str _::r=>GK r
 | _::_=>false
noncomputable def BZ(ds:List D):Bool:=GK ds || E_ ds
def zE(K:PySem.W.Frag)(H:Hp)(a:Addr)(xs:List V)(ds:List D):Prop :=
 H a=some (.tup xs)\/(BZ ds=true/\∃(o:Obj) (its:Array Value) (n:Nat),K.lookup a=some o/\o.cls=.type "tuple"/\o.data=.seq its n/\its.size<=sizeLine/\Vals xs its.toList)
def zE.rF(h:zE K H a xs ds):oJ K H a xs:=by
 rcases h with h | ⟨_,h⟩
 ·exact oJ.of h
 ·exact .inr h
mutual
def aq(K:PySem.W.Frag)(μ:List Addr)(H:Hp):D->V->Prop
 | .non,v=>v=.non
 | .bl b,v=>v=.bl b
 | .int i,v=>v=.int i
 | .str cs,v=>v=.str (strOf cs)
 | .tup ds,v=>∃a xs,v=.ref a/\zE K H a xs ds/\ao K μ H ds xs
 | .loc n,v=>∃a,μ[n]? = some a/\v=.ref a
def ao(K:PySem.W.Frag)(μ:List Addr)(H:Hp):List D->List V->Prop
 | [],vs=>vs=[]
 | d::ds,vs=>∃v r,vs=v::r/\aq K μ H d v/\ao K μ H ds r
end
structure Ext(H H':Hp):Prop where
 tup:∀b xs,H b=some (.tup xs)->H' b=some (.tup xs)
 frz:∀b o u,H b=some (.frz o u)->H' b=some (.frz o u)
def Ext.refl(H:Hp):Ext H H:=⟨λ_ _ h=>h,λ_ _ _ h=>h⟩
def Ext.trans(a:Ext H H1)(b:Ext H1 H2):Ext H H2:=⟨λc xs h=>b.tup c xs (a.tup c xs h),λc o u h=>b.frz c o u (a.frz c o u h)⟩
def Ext.rF(e:Ext H H')(h:oJ K H a xs):oJ K H' a xs:=by
 rcases h with (h | ⟨o,h⟩) | h
 ·exact .inl (.inl (e.tup _ _ h))
 ·exact .inl (.inr ⟨o,e.frz _ _ _ h⟩)
 ·exact .inr h
def Ext.acB(e:Ext H H')(h:zE K H a xs ds):zE K H' a xs ds:=by
 rcases h with h | h
 ·exact .inl (e.tup _ _ h)
 ·exact .inr h
def Ext.new(h:H p=none):Ext H (upd H p o) :=
 ⟨λb xs q=>by rw[iK (z7 q h)];exact q,λb o' u q=>by rw[iK (z7 q h)];exact q⟩
structure a_(μ:List Addr)(H:Hp)(μ':List Addr)(H':Hp):Prop where
 pre:∃ν,μ'=μ++ν
 ext:Ext H H'
def a_.refl(μ:List Addr)(H:Hp):a_ μ H μ H:=⟨⟨[],by simp⟩,.refl H⟩
def a_.trans(a:a_ μ H μ1 H1)(b:a_ μ1 H1 μ2 H2):a_ μ H μ2 H2:=by
 obtain⟨ν1,rfl⟩:=a.pre;obtain⟨ν2,rfl⟩:=b.pre;exact⟨⟨ν1++ν2,by simp⟩,a.ext.trans b.ext⟩
def a_.get{μ μ':List Addr}{H H':Hp}(g:a_ μ H μ' H'){n:Nat}{a:Addr}(h:μ[n]? = some a):μ'[n]? = some a:=by
 obtain⟨ν,rfl⟩:=g.pre;rw[gP (gf.mp h).1];exact h
mutual
theorem aq.mono{K:PySem.W.Frag}{μ μ':List Addr}{H H':Hp}(g:a_ μ H μ' H'):∀(d:D) {v:V},aq K μ H d v->aq K μ' H' d v
 | .non,_,h=>by simpa[aq] using h
 | .bl _,_,h=>by simpa[aq] using h
 | .int _,_,h=>by simpa[aq] using h
 | .str _,_,h=>by simpa[aq] using h
 | .tup ds,_,h=>by
  rw[aq]at h ⊢;obtain⟨a,xs,rfl,h1,h2⟩:=h;exact⟨a,xs,rfl,g.ext.acB h1,ao.mono g ds h2⟩
 | .loc n,_,h=>by
  rw[aq]at h ⊢;obtain⟨a,h1,rfl⟩:=h;exact⟨a,g.get h1,rfl⟩
theorem ao.mono(g:a_ μ H μ' H'):∀(ds:List D) {vs:List V},ao K μ H ds vs->ao K μ' H' ds vs
 | [],_,h=>by simpa[ao] using h
 | d::ds,_,h=>by
  rw[ao]at h ⊢;obtain⟨v,r,rfl,h1,h2⟩:=h;exact⟨v,r,rfl,aq.mono g d h1,ao.mono g ds h2⟩
end
section
variable  {K:PySem.W.Frag}{μ:List Addr}{H:Hp}
theorem ao.length:∀{ds:List D} {vs:List V},ao K μ H ds vs->ds.length=vs.length
 | [],_,h=>by rw[ao]at h;subst h;rfl
 | d::ds,_,h=>by
  rw[ao]at h;obtain⟨v,r,rfl,_,h2⟩:=h;rw[gC,gC,ao.length h2]
theorem ao.get:∀{ds:List D} {vs:List V} {i:Nat} {d:D},ao K μ H ds vs->ds[i]? = some d->∃v,vs[i]? = some v/\aq K μ H d v
 | [],_,_,_,_,e=>by simp at e
 | d::ds,_,0,_,h,e=>by
  rw[ao]at h;obtain⟨v,r,rfl,h1,_⟩:=h;simp at e;subst e;exact⟨v,rfl,h1⟩
 | d::ds,_,i+1,x,h,e=>by
  rw[ao]at h;obtain⟨v,r,rfl,_,h2⟩:=h;obtain⟨u,h3,h4⟩:=ao.get (i:=i) h2 (by simpa using e);exact⟨u,by simpa using h3,h4⟩
theorem ao.append:∀{ds es:List D} {vs ws:List V},ao K μ H ds vs->ao K μ H es ws->ao K μ H (ds++es) (vs++ws)
 | [],_,_,_,h,k=>by rw[ao]at h;subst h;exact k
 | d::ds,es,_,ws,h,k=>by
  rw[ao]at h;obtain⟨v,r,rfl,h1,h2⟩:=h;show ao K μ H (d::(ds++es)) (v::(r++ws));rw[ao];exact⟨v,r++ws,rfl,h1,ao.append h2 k⟩
def ao.nil:ao K μ H [] []:=by rw[ao]
def ao.cons(h:aq K μ H d v)(k:ao K μ H ds vs):ao K μ H (d::ds) (v::vs):=by rw[ao];exact⟨v,vs,rfl,h,k⟩
theorem ao.take:∀{ds:List D} {vs:List V} (n:Nat),ao K μ H ds vs->ao K μ H (ds.take n) (vs.take n)
 | _,_,0,_=>by simp[ao]
 | [],_,n+1,h=>by rw[ao]at h;subst h;simp[ao]
 | d::ds,_,n+1,h=>by
  rw[ao]at h;obtain⟨v,r,rfl,h1,h2⟩:=h;exact ao.cons h1 (ao.take n h2)
theorem ao.drop:∀{ds:List D} {vs:List V} (n:Nat),ao K μ H ds vs->ao K μ H (ds.drop n) (vs.drop n)
 | _,_,0,h=>h
 | [],_,n+1,h=>by rw[ao]at h;subst h;simp[ao]
 | d::ds,_,n+1,h=>by
  rw[ao]at h;obtain⟨v,r,rfl,h1,h2⟩:=h;exact ao.drop n h2
theorem ao.set(hd:aq K μ H d v):∀{ds:List D} {vs:List V} (i:Nat),ao K μ H ds vs->ao K μ H (ds.set i d) (vs.set i v)
 | [],_,_,h=>by rw[ao]at h;subst h;simp[ao]
 | x::ds,_,0,h=>by
  rw[ao]at h;obtain⟨w,r,rfl,h1,h2⟩:=h;exact ao.cons hd h2
 | x::ds,_,i+1,h=>by
  rw[ao]at h;obtain⟨w,r,rfl,h1,h2⟩:=h;exact ao.cons h1 (ao.set hd i h2)
def ao.reverse{ds:List D}{vs:List V}(h:ao K μ H ds vs):ao K μ H ds.reverse vs.reverse:=by
 induction ds generalizing vs with
 | nil=>rw[ao]at h;subst h;simp[ao]
 | cons d ds ih =>
  rw[ao]at h;obtain⟨v,r,rfl,h1,h2⟩:=h;rw[mV,mV];exact (ih h2).append (ao.cons h1 ao.nil)
def aq.aN:aq K μ H (.int i) v↔v=.int i:=by rw[aq]
def aq.bx:aq K μ H (.bl b) v↔v=.bl b:=by rw[aq]
def aq.bJ:aq K μ H .non v↔v=.non:=by rw[aq]
def aq.aP:aq K μ H (.str cs) v↔v=.str (strOf cs):=by rw[aq]
def aq.aQ:aq K μ H (.tup ds) v ↔ ∃a xs,v=.ref a/\zE K H a xs ds/\ao K μ H ds xs:=by rw[aq]
def aq.aL:aq K μ H (.loc n) v ↔ ∃a,μ[n]? = some a/\v=.ref a:=by rw[aq]
end
def aH{κ:Type}(K:PySem.W.Frag)(μ:List Addr)(H:Hp):List (κ×D)->List (κ×V)->Prop
 | [],vs=>vs=[]
 | (k,d)::ds,vs=>∃v r,vs=(k,v)::r/\aq K μ H d v/\aH K μ H ds r
theorem aH.mono(g:a_ μ H μ' H'):∀{ds:List (κ×D)} {vs:List (κ×V)},aH K μ H ds vs->aH K μ' H' ds vs
 | [],_,h=>h
 | (k,d)::ds,_,⟨v,r,e,h1,h2⟩=>⟨v,r,e,h1.mono g d,aH.mono g h2⟩
def yD(K:PySem.W.Frag)(H:Hp)(a:Addr)(xs:List V):Prop :=
 (∃o,H a=some (.frz o (.lst xs)))\/∃(o:Obj) (its:Array Value) (n:Nat),K.lookup a=some o/\o.cls=.type "list"/\o.dict=none/\o.data=.seq its n/\its.size<=sizeLine/\Vals xs its.toList
def yD.sqL(h:yD K H a xs):oA K H a xs:=by
 rcases h with h | h
 ·exact .inl (.inr h)
 ·exact .inr h
def yD.ext(e:Ext H H')(h:yD K H a xs):yD K H' a xs:=by
 rcases h with⟨o,h⟩ | h
 ·exact .inl ⟨o,e.frz _ _ _ h⟩
 ·exact .inr h
noncomputable def MO.mut:MO->Bool
 | .frz _=>false
 | .clo _ _ _=>false
 | .hid=>false
 | .dkf _=>false
 | .dtf _=>false
 | .exc _ _=>false
 | _=>true
def sU(H:Hp)(c:Addr)(q:Str):Prop:=∃oc vs t,H c=some (.frz oc (.own 0))/\oc.data=.fields vs/\vs[1]? = some (.str q t)
def fj(H:Hp):List (Str×Addr)->List V->Prop
 | [],vs=>vs=[]
 | (_,c)::cl,vs=>∃v r o u,vs=v::r/\H c=some (.frz o (.own 0))/\o.data=.cell (some u)/\RelV v u/\fj H cl r
def sU.ext(e:Ext H H')(h:sU H c q):sU H' c q :=
 let ⟨oc,vs,t,h1,h2⟩:=h;⟨oc,vs,t,e.frz _ _ _ h1,h2⟩
theorem fj.ext(e:Ext H H'):∀{cl:List (Str×Addr)} {vs:List V},fj H cl vs->fj H' cl vs
 | [],_,h=>h
 | (_,c)::cl,_,⟨v,r,o,u,h1,h2,h3,h4,h5⟩=>⟨v,r,o,u,h1,e.frz _ _ _ h2,h3,h4,fj.ext e h5⟩
noncomputable def rO(x:Str):Str:=x ++ ".<locals>." ++ "<lambda>"
def fZ(K:PySem.W.Frag)(μ:List Addr)(H:Hp)(a:Addr):MO->Prop
 | .lst ds=>∃xs,H a=some (.lst xs)/\ao K μ H ds xs
 | .frz ds=>∃xs,yD K H a xs/\ao K μ H ds xs
 | .dic kvs=>∃ws,H a=some (.dT ws)/\aH K μ H kvs ws
 | .dkc kvs=>∃ws,H a=some (.dK ws)/\aH K μ H kvs ws
 | .dkf kvs=>∃ws o,H a=some (.frz o (.dK ws))/\aH K μ H kvs ws
 | .dtf kvs=>∃ws o,H a=some (.frz o (.dT ws))/\aH K μ H kvs ws
 | .ins c fs=>∃C dx ws,PySem.W.nsIn K mainGlobals c=some #[9,C]/\H a=some (.ins C dx ws)/\aH K μ H fs ws
 | .tab x=>(∃(fa:Addr) (o:Obj) (fd:FuncData) (c:Addr),PySem.W.nsIn K mainGlobals x=some #[9,fa]/\K.lookup fa=some o/\o.data=.func fd/\fd.code=.ref c/\PySem.W.codeHdIn K c a=true) /\
   ∃ps:Array Value,H a=some (.tbl ps)/\TriplesOk ps.toList/\∀pos cv,codeAmong pos ps.toList=some cv->∃c',cv=.ref c'/\sU H c' (rO x)
 | .clo _ l ds=>∃(cl:List (Str×Addr)) (pm:Value) (c':Addr) (sG:Value) (vs:List V),H a=some (.frz (PySem.W.kla_obj "<lambda>" l.qual l.params l.body l.scope cl pm c' sG) (.own 0))/\sU H c' l.qual /\
   cl.map (·.1)=l.oW/\(cl.map (·.2)).Nodup/\fj H cl vs/\ao K μ H ds vs
 | .exc c d=>∃oe C dx od v fs,H a=some (.frz oe (.own 0))/\oe.cls=.ref C/\oe.dict=some dx/\oe.data=.fields fs/\H dx=some (.frz od (.xd [("at",v)]))/\PySem.W.nsIn K mainGlobals (c:Str)=some #[9,C]/\aq K μ H d v
 | .hid=>True
structure aU(K:PySem.W.Frag)(μ:List Addr)(H:Hp)(st:ak):Prop where
 len:μ.length=st.length
 at_:∀(n:Nat) (o:MO),st[n]? = some o->∃a,μ[n]? = some a/\fZ K μ H a o
 uniq:∀(i j:Nat) (a:Addr) (oi oj:MO),st[i]? = some oi->st[j]? = some oj->oi.mut=true->oj.mut=true->μ[i]? = some a->μ[j]? = some a->i=j
structure dU(K:PySem.W.Frag)(μ:List Addr)(H:Hp)(env:aK)(σ:St):Prop where
 len:env.length=σ.length
 at_:∀(i:Nat) (d:D),env[i]? = some (some d)->∃v,σ[i]? = some (some v)/\aq K μ H d v
def dU.mono(g:a_ μ H μ' H')(h:dU K μ H env σ):dU K μ' H' env σ :=
 ⟨h.len,λi d e=>let ⟨v,h1,h2⟩:=h.at_ i d e;⟨v,h1,h2.mono g d⟩⟩
def dU.set(h:dU K μ H env σ)(r:aq K μ H d v):dU K μ H (env.set i (some d)) (σ.set i (some v)):=by
 refine⟨by simp[h.len],λj e hj=>?_⟩;by_cases Yw:i=j
 ·subst Yw;have hl:i<env.length:=by
   have:=(gf.mp hj).1;simpa using this
  rw[k_ hl]at hj;cases hj;exact⟨v,by rw[k_ (by rw[<-h.len];exact hl)],r⟩
 ·rw[gU Yw]at hj;rw[gU Yw];exact h.at_ j e hj
def fZ.some_of(h:fZ K μ H a o)(hm:o.mut=true):∃u,H a=some u:=by
 cases o with
 | lst ds=>obtain⟨xs,h1,_⟩:=h;exact⟨_,h1⟩
 | frz ds=>cases hm
 | dic kvs=>obtain⟨xs,h1,_⟩:=h;exact⟨_,h1⟩
 | dkc kvs=>obtain⟨xs,h1,_⟩:=h;exact⟨_,h1⟩
 | dkf kvs=>cases hm
 | dtf kvs=>cases hm
 | ins c fs=>obtain⟨_,_,_,_,h1,_⟩:=h;exact⟨_,h1⟩
 | tab x=>obtain⟨_,_,h1,_⟩:=h;exact⟨_,h1⟩
 | clo j l ds=>cases hm
 | exc c d=>cases hm
 | hid=>cases hm
def fZ.keep(g:a_ μ H μ' H')(hk:o.mut=true->∀u,H a=some u->H' a=some u)(h:fZ K μ H a o):fZ K μ' H' a o:=by
 cases o with
 | lst ds=>obtain⟨xs,h1,h2⟩:=h;exact⟨xs,hk rfl _ h1,h2.mono g ds⟩
 | frz ds=>obtain⟨xs,h1,h2⟩:=h;exact⟨xs,h1.ext g.ext,h2.mono g ds⟩
 | dic kvs=>obtain⟨ws,h1,h2⟩:=h;exact⟨ws,hk rfl _ h1,h2.mono g⟩
 | dkc kvs=>obtain⟨ws,h1,h2⟩:=h;exact⟨ws,hk rfl _ h1,h2.mono g⟩
 | dkf kvs=>obtain⟨ws,o,h1,h2⟩:=h;exact⟨ws,o,g.ext.frz _ _ _ h1,h2.mono g⟩
 | dtf kvs=>obtain⟨ws,o,h1,h2⟩:=h;exact⟨ws,o,g.ext.frz _ _ _ h1,h2.mono g⟩
 | exc c d=>obtain⟨oe,C,dx,od,v,fs,h1,h2,h3,h4,h5,h6,h7⟩:=h;exact⟨oe,C,dx,od,v,fs,g.ext.frz _ _ _ h1,h2,h3,h4,g.ext.frz _ _ _ h5,h6,h7.mono g d⟩
 | ins c fs=>obtain⟨C,dx,ws,h0,h1,h2⟩:=h;exact⟨C,dx,ws,h0,hk rfl _ h1,h2.mono g⟩
 | tab x=>obtain⟨h0,ps,h1,h2,h3⟩:=h;exact⟨h0,ps,hk rfl _ h1,h2,λpos cv e=>let ⟨c',e1,e2⟩:=h3 pos cv e;⟨c',e1,e2.ext g.ext⟩⟩
 | clo j l ds=>obtain⟨cl,pm,c',sG,vs,h1,h2,h3,h4,h5,h6⟩:=h;exact⟨cl,pm,c',sG,vs,g.ext.frz _ _ _ h1,h2.ext g.ext,h3,h4,h5.ext g.ext,h6.mono g ds⟩
 | hid=>trivial
section
variable  {K:PySem.W.Frag}{μ:List Addr}{H:Hp}{st:ak}{p a:Addr}{xs:List V}{n:Nat}{mo Ul:MO}{o o':HO}
def aU.lay(h:aU K μ H st)(hp:H p=none):aU K μ (upd H p o) st :=
 ⟨h.len,λn mo e=>let ⟨a,h1,h2⟩:=h.at_ n mo e;⟨a,h1,h2.keep ⟨⟨[],by simp⟩,.new hp⟩ λ_ u q=>by rw[iK (z7 q hp)];exact q⟩,h.uniq⟩
def a_.lay(hp:H p=none):a_ μ H μ (upd H p o):=⟨⟨[],by simp⟩,.new hp⟩
def a_.new(hp:H p=none):a_ μ H (μ++[p]) (upd H p o):=⟨⟨[p],rfl⟩,.new hp⟩
def aU.new(h:aU K μ H st)(hp:H p=none)(hn:fZ K (μ++[p]) (upd H p o) p mo):aU K (μ++[p]) (upd H p o) (st++[mo]):=by
 refine⟨by simp[h.len],λn mo1 e=>?_,λi j b oi oj ei ej mi mj hi hj=>?_⟩
 ·by_cases hl:n<st.length
  ·rw[gP hl]at e;obtain⟨b,h1,h2⟩:=h.at_ n mo1 e;exact⟨b,by rw[gP (by rw[h.len];exact hl)];exact h1,h2.keep (a_.new hp) λ_ u q=>by rw[iK (z7 q hp)];exact q⟩
  ·have K8:=(gf.mp e).1;rw[gQ,nu]at K8;have e2:n=st.length:=by omega
   subst e2;rw[kj (gb _)]at e;simp at e;subst e;exact⟨p,by rw[<-h.len];simp,hn⟩
 ·have key:∀(k:Nat) (ok:MO),(st++[mo])[k]? = some ok->ok.mut=true->(μ++[p])[k]? = some b->(k<st.length/\st[k]? = some ok/\μ[k]? = some b/\b≠p)\/(k=st.length/\b=p):=λk ok ek mk hk=>by
   by_cases hl:k<st.length
   ·rw[gP hl]at ek;rw[gP (by rw[h.len];exact hl)]at hk;obtain⟨c,h1,h2⟩:=h.at_ k ok ek;rw[hk]at h1;cases h1;obtain⟨u,hu⟩:=h2.some_of mk;exact .inl ⟨hl,ek,hk,z7 hu hp⟩
   ·have K8:=(gf.mp ek).1;rw[gQ,nu]at K8;have e2:k=st.length:=by omega
    subst e2;rw[<-h.len]at hk;simp at hk;exact .inr ⟨rfl,hk.symm⟩
  rcases key i oi ei mi hi with⟨_,a1,a2,a3⟩ | ⟨a1,a2⟩
  ·rcases key j oj ej mj hj with⟨_,b1,b2,b3⟩ | ⟨b1,b2⟩
   ·exact h.uniq i j b oi oj a1 b1 mi mj a2 b2
   ·exact absurd b2 a3
  ·rcases key j oj ej mj hj with⟨_,b1,b2,b3⟩ | ⟨b1,b2⟩
   ·exact absurd a2 b3
   ·rw[a1,b1]
def Ext.mut(h:H a=some o)(ht:∀ys,o≠.tup ys)(hf:∀w u,o≠.frz w u):Ext H (upd H a o') :=
 ⟨λb ys q=>by rw[iK (λe=>by subst e;rw[h]at q;exact ht _ (afa q))];exact q,
  λb w u q=>by rw[iK (λe=>by subst e;rw[h]at q;exact hf _ _ (afa q))];exact q⟩
def aU.put(h:aU K μ H st)(hn:st[n]? = some mo)(hm:mo.mut=true)(N6:Ul.mut=true)(ha:μ[n]? = some a)(g:Ext H (upd H a o'))(new:fZ K μ (upd H a o') a Ul):aU K μ (upd H a o') (st.set n Ul):=by
 have hl:=(gf.mp hn).1;refine⟨by simp[h.len],λk ok e=>?_,λi j b oi oj ei ej mi mj hi hj=>?_⟩
 ·by_cases hk:n=k
  ·subst hk;rw[k_ hl]at e;cases e;exact⟨a,ha,new⟩
  ·rw[gU hk]at e;obtain⟨b,h1,h2⟩:=h.at_ k ok e;refine⟨b,h1,h2.keep ⟨⟨[],by simp⟩,g⟩ λhmk u q=>?_⟩;rw[iK (λe2=>?_)]
   ·exact q
   ·subst e2;exact hk (h.uniq n k b mo ok hn e hm hmk ha h1)
 ·have key:∀(k:Nat) (ok:MO),(st.set n Ul)[k]? = some ok->ok.mut=true->∃ok',st[k]? = some ok'/\ok'.mut=true:=λk ok ek mk=>by
   by_cases hk:n=k
   ·subst hk;exact⟨mo,hn,hm⟩
   ·rw[gU hk]at ek;exact⟨ok,ek,mk⟩
  obtain⟨oi',ei',mi'⟩:=key i oi ei mi;obtain⟨oj',ej',mj'⟩:=key j oj ej mj;exact h.uniq i j b oi' oj' ei' ej' mi' mj' hi hj
end
def ExcAt(X:Cx)(μ:List Addr)(H:Hp)(x:Xc)(e:Value)(s:Shared):Prop :=
 ∃a C dx lo fl v,e=.ref a/\X.aeX.heap.objs.size<=lo/\Xo lo a C dx fl H s.heap/\H dx=some (.xd [("at",v)])/\PySem.W.nsIn X.K mainGlobals (x.cls:Str)=some #[9,C]/\aq X.K μ H x.fld v
def v5(X:Cx)(μ:List Addr)(H:Hp)(x:Xc)(st:ak):Prop :=
 ∀(pins:List 0x6) (σ':L2.St) (H':Hp) (μ':List Addr) (e:Value) (s':Shared),a_ μ H μ' H'->aU X.K μ' H' st->Inv X pins σ' H' s'->ExcAt X μ' H' x e s'->X.xe e s'
def v5.mono(g:a_ μ H μ1 H1)(h:v5 X μ H x st):v5 X μ1 H1 x st :=
 λpins σ' H' μ' e s' g'=>h pins σ' H' μ' e s' (g.trans g')
noncomputable abbrev Rel(α β:Type):=List Addr->Hp->α->β->Prop
def bR{α β:Type}(X:Cx)(μ:List Addr)(H:Hp)(rel:Rel α β)(Q:β->Hp->Prop)(r:R α):Prop:=match r with
 | .ok a st=>∀(b:β) (H':Hp) (μ':List Addr),a_ μ H μ' H'->aU X.K μ' H' st->rel μ' H' a b->Q b H'
 | .err x st=>v5 X μ H x st
 | .bad=>False
section
variable  {α β γ δ:Type}{X:Cx}{μ μ1:List Addr}{H H1:Hp}{rel:Rel α β}{P0:Rel γ δ}{Q Q':β->Hp->Prop}{r:R α}
def bR.mono(g:a_ μ H μ1 H1)(h:bR X μ H rel Q r):bR X μ1 H1 rel Q r:=by
 cases r with
 | ok a st=>exact λb H' μ' g'=>h b H' μ' (g.trans g')
 | err x st=>exact v5.mono g h
 | bad=>exact h
def bR.imp(h:bR X μ H rel Q r)(k:∀b H',Q b H'->Q' b H'):bR X μ H rel Q' r:=by
 cases r with
 | ok a st=>exact λb H' μ' g' h1 h2=>k b H' (h b H' μ' g' h1 h2)
 | err x st=>exact h
 | bad=>exact h
def Then(X:Cx)(μ:List Addr)(H:Hp)(rel:Rel α β)(P0:Rel γ δ)(Q2:δ->Hp->Prop)(f:α->ak->R γ):β->Hp->Prop :=
 λb H1=>∃μ1 st1 a,a_ μ H μ1 H1/\aU X.K μ1 H1 st1/\rel μ1 H1 a b/\bR X μ1 H1 P0 Q2 (f a st1)
def bR.bind(h:bR X μ H P0 Q2 (r.bind f)):bR X μ H rel (Then X μ H rel P0 Q2 f) r:=by
 cases r with
 | ok a st=>exact λb H' μ' g h1 h2=>⟨μ',st,a,g,h1,h2,bR.mono g h⟩
 | err x st=>exact h
 | bad=>exact h
def bR.ret(h:bR X μ H rel Q (.ok a st))(hs:aU X.K μ H st)(hr:rel μ H a b):Q b H:=h b H μ (.refl _ _) hs hr
end
noncomputable abbrev lN(X:Cx):Rel D V:=fun μ H d v=>aq X.K μ H d v
noncomputable abbrev ac5(X:Cx):Rel (List D) (List V):=fun μ H d v=>ao X.K μ H d v
noncomputable abbrev Ac:Rel Bool Bool:=λ_ _ a b=>a=b
noncomputable abbrev ac2:Rel (Option Int) (Option Int):=λ_ _ a b=>a=b
noncomputable abbrev ME:=aK->ak->R D
noncomputable abbrev MA:=aK->ak->R (List D)
noncomputable abbrev MT:=aK->ak->R Bool
noncomputable abbrev MP:=aK->ak->R (Option Int)
noncomputable def tM(X:Cx)(m:ME):TE:=fun σ H Q=>∃μ env st,dU X.K μ H env σ/\aU X.K μ H st/\bR X μ H (lN X) Q (m env st)
noncomputable def tMA(X:Cx)(m:MA):TA:=fun σ H Q=>∃μ env st,dU X.K μ H env σ/\aU X.K μ H st/\bR X μ H (ac5 X) Q (m env st)
noncomputable def tMT(X:Cx)(m:MT):TT:=fun σ H Q=>∃μ env st,dU X.K μ H env σ/\aU X.K μ H st/\bR X μ H Ac Q (m env st)
noncomputable def tMP(X:Cx)(m:MP):TO:=fun σ H Q=>∃μ env st,dU X.K μ H env σ/\aU X.K μ H st/\bR X μ H ac2 Q (m env st)
def JE(X:Cx)(e:Expr)(m:ME):Prop:=PE X e (tM X m)
def JT(X:Cx)(e:Expr)(m:MT):Prop:=PT X e (tMT X m)
def JA(X:Cx)(es:List Expr)(m:MA):Prop:=PA X es (tMA X m)
def JP(X:Cx)(e:Option Expr)(m:MP):Prop:=PO X e (tMP X m)
section
variable  {X:Cx}{e a b c:Expr}{es:List Expr}{t:TE}{ma mb mc:ME}{mA:MA}{pos:Pos}
def JE.of(h:PE X e t)(k:∀σ H Q,tM X m σ H Q->t σ H Q):JE X e m:=λpins s σ H Q I q=>h pins s σ H Q I (k σ H Q q)
def JT.of{t:TT}{m:MT}(h:PT X e t)(k:∀σ H Q,tMT X m σ H Q->t σ H Q):JT X e m:=λpins s σ H Q I q=>h pins s σ H Q I (k σ H Q q)
def JA.of{t:TA}{m:MA}(h:PA X es t)(k:∀σ H Q,tMA X m σ H Q->t σ H Q):JA X es m:=λpos pins s σ H Q I q=>h pos pins s σ H Q I (k σ H Q q)
def JP.of{o:Option Expr}{t:TO}{m:MP}(h:PO X o t)(k:∀σ H Q,tMP X m σ H Q->t σ H Q):JP X o m:=λpins s σ H Q I q=>h pins s σ H Q I (k σ H Q q)
noncomputable def vr(i:Nat):ME:=λenv st=>match env[i]? with | some (some d)=>.ok d st | _=>.bad
noncomputable def ct(d:D):ME:=λ_ st=>.ok d st
def G3(i:Nat){pos:Pos}(hN:X.N[i]? = some x:=by rfl)(hv:Vis X.env.scope x:=by first | exact Or.inl rfl | exact Or.inr (Or.inl rfl) | exact Or.inr (Or.inr rfl))(hd:0xc=false:=by decide) 
  (ym:(x==("__classdict__":Str))=false:=by decide):JE X (.Name x pos) (vr i):=JE.of (Jm hN hv hd ym) fun σ H Q zz=>by
 obtain⟨μ,env,st,he,hs,hp⟩:=zz;unfold vr at hp
 split at hp
 ·rename_i d e;obtain⟨v,h1,h2⟩:=he.at_ i d e;exact⟨v,h1,hp.ret hs h2⟩
 ·exact hp.elim
def XJ{i j pos}:JE X (.Constant (.int i) j pos) #[4,i]:=by
 refine JE.of Wy fun σ H Q zz=>?_;obtain⟨μ,env,st,he,hs,hp⟩:=zz;exact hp.ret hs (aq.aN.mpr rfl)
def abw{b j pos}:JE X (.Constant (.bool b) j pos) (ct (.bl b)):=by
 refine JE.of abb fun σ H Q zz=>?_;obtain⟨μ,env,st,he,hs,hp⟩:=zz;exact hp.ret hs (aq.bx.mpr rfl)
def XC{j pos}:JE X (.Constant .none j pos) (ct .non):=by
 refine JE.of Wv fun σ H Q zz=>?_;obtain⟨μ,env,st,he,hs,hp⟩:=zz;exact hp.ret hs (aq.bJ.mpr rfl)
def Xx{j pos}(cs:List Nat)(h:x=strOf cs:=by decide +kernel):JE X (.Constant (.str x) j pos) #[1,cs]:=by
 refine JE.of Ws fun σ H Q zz=>?_;obtain⟨μ,env,st,he,hs,hp⟩:=zz;exact hp.ret hs (aq.aP.mpr (by rw[h]))
noncomputable def aF(g:D->D->ak->R D)(a b:ME):ME:=λenv st=>(a env st).bind λx st1=>(b env st1).bind λy st2=>g x y st2
noncomputable def zT(g:D->ak->R D)(a:ME):ME:=λenv st=>(a env st).bind λx st1=>g x st1
noncomputable def rM(X:Cx)(g:D->D->ak->R D):R2:=λx y H Q=>∃μ st dx dy,aU X.K μ H st/\aq X.K μ H dx x/\aq X.K μ H dy y/\bR X μ H (lN X) Q (g dx dy st)
def rM1(X:Cx)(g:D->ak->R D):V->Hp->VK->Prop:=λx H Q=>∃μ st dx,aU X.K μ H st/\aq X.K μ H dx x/\bR X μ H (lN X) Q (g dx st)
def NT(X:Cx)(g:List D->ak->R D):List V->Hp->VK->Prop:=λxs H Q=>∃μ st ds,aU X.K μ H st/\ao X.K μ H ds xs/\bR X μ H (lN X) Q (g ds st)
def G_(X:Cx)(g:D->List D->ak->R D):V->List V->Hp->VK->Prop:=λx xs H Q=>∃μ st d ds,aU X.K μ H st/\aq X.K μ H d x/\ao X.K μ H ds xs/\bR X μ H (lN X) Q (g d ds st)
def eQ.weak(h:eQ X f r)(k:∀x y H Q,r' x y H Q->r x y H Q):eQ X f r':=λpins s σ H x y v u Q I rx ry q=>h pins s σ H x y v u Q I rx ry (k x y H Q q)
def TQ.weak(h:TQ X f r)(k:∀x H Q,r' x H Q->r x H Q):TQ X f r':=λpins s σ H x v Q I rx q=>h pins s σ H x v Q I rx (k x H Q q)
def cL.weak(h:cL X f r)(k:∀x H Q,r' x H Q->r x H Q):cL X f r':=λpins s σ H x v Q I rx q=>h pins s σ H x v Q I rx (k x H Q q)
def sX.weak{id:String}{r r':V->List V->Hp->VK->Prop}(h:sX X id r)(k:∀x xs H Q,r' x xs H Q->r x xs H Q):sX X id r':=λpins s σ H x xs v us Q I rx rs q=>h pins s σ H x xs v us Q I rx rs (k x xs H Q q)
def Dm.weak(h:Dm X r)(k:∀x y H Q,r' x y H Q->r x y H Q):Dm X r':=λva sl pins s σ H x y v u Q I rx ry q=>h va sl pins s σ H x y v u Q I rx ry (k x y H Q q)
def zF.weak(h:zF X r)(k:∀x l u H Q,r' x l u H Q->r x l u H Q):zF X r':=λpins s σ H x v vl vu lo hi sl Q I rx hs pl pu q=>h pins s σ H x v vl vu lo hi sl Q I rx hs pl pu (k x lo hi H Q q)
def xj.weak{t t':Nf}(h:xj X t)(k:∀o i v H Q,t' o i v H Q->t o i v H Q):xj X t':=λpins s σ H o i v ov iv u Q I ro ri rv q=>h pins s σ H o i v ov iv u Q I ro ri rv (k o i v H Q q)
def ztv(h:tM X (aF g ma mb) σ H Q):tM X ma σ H λx H1=>tM X mb σ H1 λy H2=>rM X g x y H2 Q:=by
 obtain⟨μ,env,st,he,hs,hp⟩:=h;refine⟨μ,env,st,he,hs,hp.bind.imp ?_⟩;show 4;refine⟨μ1,env,st1,he.mono g1,bG,aR.bind.imp ?_⟩;rintro y H2 ⟨μ2,st2,d2,g2,iJ,hy,dX⟩;exact⟨μ2,st2,d,d2,iJ,hx.mono g2 _,hy,dX⟩
def Ur(ho:eQ X (binaryOp op) (rM X g))(ha:JE X a ma)(hb:JE X b mb):JE X (.BinOp a op b pos) (aF g ma mb) :=
 JE.of (aa8 ho ha hb) fun σ H Q h=>ztv h
def XR(ho:eQ X (compareOp op) (rM X g))(ha:JE X a ma)(hb:JE X b mb)(hm:behindInMarks op b=false):JE X (.Compare a [op] [b] pos) (aF g ma mb) :=
 JE.of (QG ho ha hb hm) fun σ H Q h=>ztv h
def abq(ho:TQ X (unaryOp op) (rM1 X g))(ha:JE X a ma):JE X (.UnaryOp op a pos) (zT g ma):=by
 refine JE.of (aa6 ho ha) fun σ H Q zz=>?_;obtain⟨μ,env,st,he,hs,hp⟩:=zz;refine⟨μ,env,st,he,hs,hp.bind.imp λx H1 zz=>?_⟩;obtain⟨μ1,st1,d,g1,bG,hx,aR⟩:=zz;exact⟨μ1,st1,d,bG,hx,aR⟩
noncomputable def d7(a:ME):MT:=λenv st=>(a env st).bind λx st1=>match x with | .bl b=>.ok b st1 | _=>.bad
def Xn(ho:eQ X (compareOp op) (rM X g))(ha:JE X a ma)(hb:JE X b mb)(hm:behindInMarks op b=false):JT X (.Compare a [op] [b] pos) (d7 (aF g ma mb)):=by
 refine JT.of (Qi ho ha hb hm) fun σ H Q zz=>?_;obtain⟨μ,env,st,he,hs,hp⟩:=zz;refine ztv ⟨μ,env,st,he,hs,hp.bind.imp ?_⟩;show 4;cases d with
 | bl b=>exact⟨b,aq.bx.mp hx,aR.ret bG rfl⟩
 | _=>exact aR.elim
noncomputable def jG:D->ak->Option Bool
 | .non,_=>some false
 | .bl b,_=>some b
 | .int i,_=>some (i != 0)
 | .str cs,_=>if cs.length<=1000000 then some (!cs.isEmpty) else none
 | .tup ds,_=>some (!ds.isEmpty)
 | .loc n,st=>match st[n]? with
  | some (.lst ds)=>some (!ds.isEmpty)
  | some (.frz ds)=>some (!ds.isEmpty)
  | _=>none
noncomputable def jP(a:ME):MT:=λenv st=>(a env st).bind λx st1=>match jG x st1 with | some b=>.ok b st1 | none=>.bad
def yI(h:n<=1000000):n<=sizeLine:=kh h 0x5
def aU.lst{K:PySem.W.Frag}{μ:List Addr}{H:Hp}{st:ak}{n:Nat}{ds:List D}(h:aU K μ H st)(e:st[n]? = some (.lst ds)):∃p xs,μ[n]? = some p/\H p=some (.lst xs)/\ao K μ H ds xs:=by
 obtain⟨p,h1,xs,h2,h3⟩:=h.at_ n _ e;exact⟨p,xs,h1,h2,h3⟩
noncomputable def aA(st:ak)(n:Nat):Option (List D):=match st[n]? with
 | some (.lst ds)=>some ds
 | some (.frz ds)=>some ds
 | _=>none
def aU.items{K:PySem.W.Frag}{μ:List Addr}{H:Hp}{st:ak}{n:Nat}{ds:List D}(h:aU K μ H st)(e:aA st n=some ds):∃p xs,μ[n]? = some p/\oA K H p xs/\ao K μ H ds xs:=by
 unfold aA at e
 split at e
 ·rename_i es q;cases e;obtain⟨p,xs,h1,h2,h3⟩:=h.lst q;exact⟨p,xs,h1,oA.of h2,h3⟩
 ·rename_i es q;cases e;obtain⟨p,h1,xs,h2,h3⟩:=h.at_ n _ q;exact⟨p,xs,h1,h2.sqL,h3⟩
 ·cases e
def ao.isEmpty(h:ao K μ H ds xs):ds.isEmpty=xs.isEmpty:=by
 have:=h.length;cases ds<;>cases xs<;>simp_all
def O9{d:D}{st:ak}{b:Bool}{μ:List Addr}{H:Hp}{v:V}(h:jG d st=some b)(hs:aU X.K μ H st)(hv:aq X.K μ H d v):Y7 X.K v H b:=by
 cases d with
 | non=>rw[aq.bJ]at hv;subst hv;cases h;rfl
 | bl c=>rw[aq.bx]at hv;subst hv;cases h;rfl
 | int i=>rw[aq.aN]at hv;subst hv;cases h;rfl
 | str cs =>
  rw[aq.aP]at hv;subst hv;simp only[jG]at h
  split at h
  ·rename_i hl;cases h;have e:(strOf cs).length=cs.length:=by simp[Str.length,strOf]
   refine⟨by rw[e];exact yI hl,?_⟩;rw[e];cases cs<;>simp;omega
  ·cases h
 | tup ds =>
  rw[aq.aQ]at hv;obtain⟨a,xs,rfl,h1,h2⟩:=hv;cases h;exact .inr (.inl ⟨xs,h1.rF,by rw[h2.isEmpty]⟩)
 | loc n =>
  rw[aq.aL]at hv;obtain⟨a,h1,rfl⟩:=hv;have key:∃ds,aA st n=some ds/\b=!ds.isEmpty:=by
   unfold aA;simp only[jG]at h
   split at h
   ·rename_i q;cases h;exact⟨_,rfl,rfl⟩
   ·rename_i q;cases h;exact⟨_,rfl,rfl⟩
   ·cases h
  obtain⟨ds,q,rfl⟩:=key;obtain⟨p,xs,h3,h4,h5⟩:=hs.items q;rw[h1]at h3;cases h3;exact .inl ⟨xs,h4,by rw[h5.isEmpty]⟩
def Kf(ha:JE X a ma)(he:∀whole,isTrue a X.env whole=(do let v <-whole;standAt a.pos;holding [v] (truthy v)):=by intro _;rfl):JT X a (jP ma):=by
 refine JT.of (Ja ha he) fun σ H Q zz=>?_;show 1;show 5;show 4;cases e:jG d st1 with
 | none=>simp only[e]at aR;exact aR.elim
 | some b=>simp only[e]at aR;exact⟨b,O9 e bG hx,aR.ret bG rfl⟩
def JW(X:Cx)(e:Expr)(m:MT):Prop:=PW X e (tMT X m)
def JW.jt(h:JW X e m):JT X e m:=PW.pt h
def JW.of{t:TT}{m:MT}(h:PW X e t)(k:∀σ H Q,tMT X m σ H Q->t σ H Q):JW X e m:=λw pins s σ H Q I q=>h w pins s σ H Q I (k σ H Q q)
noncomputable def lr(a b:MT):MT:=λenv st=>(a env st).bind λx st1=>if x then b env st1 else .ok false st1
noncomputable def Ex(a b:MT):MT:=λenv st=>(a env st).bind λx st1=>if x then .ok true st1 else b env st1
noncomputable def tW(a:MT):MT:=λenv st=>(a env st).bind λx st1=>.ok (!x) st1
variable  {ta tb tc:MT}{rest:List Expr}
def Ri(ha:JT X a ta):JW X (.BoolOp .And [a] pos) ta:=Qe ha
def Xl(ha:JT X a ta):JW X (.BoolOp .Or [a] pos) ta:=Wb ha
def Ke(ha:JT X a ta)(hb:JW X (.BoolOp .And (b::rest) pos) tb):JW X (.BoolOp .And (a::b::rest) pos) (lr ta tb):=by
 refine JW.of (Wc ha hb) fun σ H Q zz=>?_;show 1;show 5;rintro x H1 ⟨μ1,st1,d,g1,bG,rfl,aR⟩;cases d with
 | true=>exact yW ⟨μ1,env,st1,hE.mono g1,bG,aR⟩
 | false=>exact yX (aR.ret bG rfl)
def Uq(ha:JT X a ta)(hb:JW X (.BoolOp .Or (b::rest) pos) tb):JW X (.BoolOp .Or (a::b::rest) pos) (Ex ta tb):=by
 refine JW.of (aa0 ha hb) fun σ H Q zz=>?_;show 1;show 5;rintro x H1 ⟨μ1,st1,d,g1,bG,rfl,aR⟩;cases d with
 | true=>exact yW (aR.ret bG rfl)
 | false=>exact yX ⟨μ1,env,st1,hE.mono g1,bG,aR⟩
def Xm(ha:JT X a ta):JT X (.UnaryOp .Not a pos) (tW ta):=by
 refine JT.of (Wd ha) fun σ H Q zz=>?_;show 1;show 5;rintro x H1 ⟨μ1,st1,d,g1,bG,rfl,aR⟩;exact aR.ret bG rfl
noncomputable def uU(a b:ME):ME:=λenv st=>(a env st).bind λx st1=>match x with | .bl true=>b env st1 | .bl false=>.ok (.bl false) st1 | _=>.bad
noncomputable def orV(a b:ME):ME:=λenv st=>(a env st).bind λx st1=>match x with | .bl true=>.ok (.bl true) st1 | .bl false=>b env st1 | _=>.bad
noncomputable def JK(a:ME):ME:=λenv st=>(a env st).bind λx st1=>match x with | .bl c=>.ok (.bl (!c)) st1 | _=>.bad
def Xy{op}(h:JE X a m):JE X (.BoolOp op [a] pos) m:=Wt h
def XS(ha:JE X a ma)(hb:JE X (.BoolOp .And (b::rest) pos) mb):JE X (.BoolOp .And (a::b::rest) pos) (uU ma mb):=by
 refine JE.of (WK ha hb) fun σ H Q zz=>?_;show 1;show 5;show 4;cases d with
 | bl c =>
  refine⟨c,aq.bx.mp hx,?_⟩;cases c with
  | true=>exact yW ⟨μ1,env,st1,hE.mono g1,bG,aR⟩
  | false=>exact yX (aR.ret bG (aq.bx.mpr rfl))
 | _=>exact aR.elim
def abr(ha:JE X a ma)(hb:JE X (.BoolOp .Or (b::rest) pos) mb):JE X (.BoolOp .Or (a::b::rest) pos) (orV ma mb):=by
 refine JE.of (aa7 ha hb) fun σ H Q zz=>?_;show 1;show 5;show 4;cases d with
 | bl c =>
  refine⟨c,aq.bx.mp hx,?_⟩;cases c with
  | true=>exact yW (aR.ret bG (aq.bx.mpr rfl))
  | false=>exact yX ⟨μ1,env,st1,hE.mono g1,bG,aR⟩
 | _=>exact aR.elim
def Xz(ha:JE X a ma):JE X (.UnaryOp .Not a pos) (JK ma):=by
 refine JE.of (Wu ha) fun σ H Q zz=>?_;show 1;show 5;show 4;cases d with
 | bl c=>exact⟨c,aq.bx.mp hx,aR.ret bG (aq.bx.mpr rfl)⟩
 | _=>exact aR.elim
noncomputable def Hd(c:MT)(a b:ME):ME:=λenv st=>(c env st).bind λx st1=>if x then a env st1 else b env st1
def abu(hc:JT X c tc)(ha:JE X a ma)(hb:JE X b mb):JE X (.IfExp c a b pos) (Hd tc ma mb):=by
 refine JE.of (Jp hc ha hb) fun σ H Q zz=>?_;show 1;show 5;rintro x H1 ⟨μ1,st1,d,g1,bG,rfl,aR⟩;cases d with
 | true=>exact yW ⟨μ1,env,st1,hE.mono g1,bG,aR⟩
 | false=>exact yX ⟨μ1,env,st1,hE.mono g1,bG,aR⟩
noncomputable def au:MA:=λ_ st=>.ok [] st
noncomputable def aj(a:ME)(r:MA):MA:=λenv st=>(a env st).bind λx st1=>(r env st1).bind λxs st2=>.ok (x::xs) st2
def Zh:JA X [] au:=by
 refine JA.of Ag fun σ H Q zz=>?_;show 1;exact hp.ret hs ao.nil
def Vh{e:Expr}{es:List Expr}{m:ME}{mA:MA}(h:JE X e m)(hr:JA X es mA)(hs:starEach (e::es) X.env=0xb::starEach es X.env:=by rfl):JA X (e::es) (aj m mA):=by
 refine JA.of (zmo h hr hs) fun σ H Q zz=>?_;show 1;show 5;show 4;refine⟨μ1,env,st1,hE.mono g1,bG,aR.bind.imp ?_⟩;rintro xs H2 ⟨μ2,st2,ds,g2,iJ,j4,dX⟩;exact dX.ret iJ (ao.cons (hx.mono g2 _) j4)
noncomputable def fW(m:MA):ME:=λenv st=>(m env st).bind λds st1=>if ds.length<=1000000 then .ok (.tup ds) st1 else .bad
noncomputable def d_(m:MA):ME:=λenv st=>(m env st).bind λds st1=>if ds.length<=1000000 then .ok (.loc st1.length) (st1++[.lst ds]) else .bad
def Xw{x1}(h:JA X es mA):JE X (.Tuple es x1 pos) (fW mA):=by
 refine JE.of (Wr h) fun σ H Q zz=>?_;show 1;show 5;rintro xs H1 ⟨μ1,st1,ds,g1,bG,j4,aR⟩;dsimp only at aR
 split at aR
 ·rename_i hl;refine⟨by rw[<-j4.length];exact yI hl,λp hn=>?_⟩;exact aR _ _ μ1 (a_.lay hn) (bG.lay hn) (aq.aQ.mpr ⟨p,xs,rfl,.inl qT,j4.mono (a_.lay hn) _⟩)
 ·exact aR.elim
def bR.newList(h:bR X μ H (lN X) Q (.ok 0x3 (st++[.lst ds])))(hs:aU X.K μ H st)(hx:ao X.K μ H ds xs)(hn:H p=none) :
  Q (.ref p) (upd H p (.lst xs)):=by
 have g:a_ μ H (μ++[p]) (upd H p (.lst xs)):=a_.new hn;refine h _ _ (μ++[p]) g (hs.new hn ⟨xs,qT,hx.mono g _⟩) (aq.aL.mpr ⟨p,?_,rfl⟩);rw[<-hs.len];simp
def XD(h:JA X es mA):JE X (.List es pos) (d_ mA):=by
 refine JE.of (Ww h) fun σ H Q zz=>?_;show 1;show 5;rintro xs H1 ⟨μ1,st1,ds,g1,bG,j4,aR⟩;dsimp only at aR
 split at aR
 ·rename_i hl;exact⟨by rw[<-j4.length];exact yI hl,λp hn=>aR.newList bG j4 hn⟩
 ·exact aR.elim
end
section
variable  {X:Cx}{e a b c:Expr}{es:List Expr}{t:TE}{ma mb mc:ME}{mA:MA}{pos:Pos}
def zf2(cs:List Nat):(strOf cs).length=cs.length:=by simp[Str.length,strOf]
def Eb(a b:List Nat):strOf a++strOf b=strOf (a++b):=by
 show Str.append _ _=_;simp[Str.append,strOf]
def zpj{a b:List Nat}:strOf a=strOf b↔a=b:=by
 constructor
 ·intro h;have:=congrArg (λs:Str=>s.cps.toList) h;simpa[strOf] using this
 ·intro h;rw[h]
noncomputable def bj:D->D->ak->R D
 | .int i,.int j,st=>.ok (.int (i+j)) st
 | .str a,.str b,st=>if a.length+b.length<=1000000 then .ok (.str (a++b)) st else .bad
 | .tup a,.tup b,st=>if a.length+b.length<=1000000 then .ok (.tup (a++b)) st else .bad
 | .loc m,.loc n,st=>match st[m]?,st[n]? with
  | some (.lst a),some (.lst b)=>if a.length+b.length<=1000000 then .ok 0x3 (st++[.lst (a++b)]) else .bad
  | _,_=>.bad
 | _,_,_=>.bad
def BW:eQ X (binaryOp .Add) (rM X bj):=by
 refine eQ.weak (eQ.or WT (eQ.or zt5 (eQ.or QV (eQ.or JC WR)))) ?_;show 26;cases dx with
 | int i =>
  cases dy with
  | int j =>
   rw[aq.aN]at hx hy;subst hx hy;exact .inl ⟨i,j,rfl,rfl,hp.ret hs (aq.aN.mpr rfl)⟩
  | _=>exact hp.elim
 | str i =>
  cases dy with
  | str j =>
   rw[aq.aP]at hx hy;subst hx hy;simp only[bj]at hp
   split at hp
   ·rename_i hl;refine .inr (.inl ⟨_,_,rfl,rfl,?_,?_⟩)
    ·rw[zf2,zf2];exact yI hl
    ·rw[Eb];exact hp.ret hs (aq.aP.mpr rfl)
   ·exact hp.elim
  | _=>exact hp.elim
 | tup i =>
  cases dy with
  | tup j =>
   rw[aq.aQ]at hx hy;obtain⟨p,xs,rfl,h1,h2⟩:=hx;obtain⟨q,ys,rfl,h3,h4⟩:=hy;simp only[bj]at hp
   split at hp
   ·rename_i hl;by_cases hx0:xs=[]
    ·subst hx0;have hi:i=[]:=by have:=h2.length;simpa using this
     subst hi;exact .inr (.inr (.inr (.inl ⟨p,q,ys,rfl,rfl,h1.rF,h3.rF,hp.ret hs (aq.aQ.mpr ⟨q,ys,rfl,h3,h4⟩)⟩)))
    ·refine .inr (.inr (.inl ⟨p,q,xs,ys,rfl,rfl,h1.rF,h3.rF,hx0,by rw[<-h2.length,<-h4.length];exact yI hl,λhy0=>?_,λ_ r hr=>?_⟩))
     ·subst hy0;have hj:j=[]:=by have:=h4.length;simpa using this
      subst hj;exact hp.ret hs (aq.aQ.mpr ⟨p,xs,rfl,by rw[gw];exact h1,by rw[gw];exact h2⟩)
     ·exact hp _ _ μ (a_.lay hr) (hs.lay hr) (aq.aQ.mpr ⟨r,_,rfl,.inl qT,(h2.append h4).mono (a_.lay hr) _⟩)
   ·exact hp.elim
  | _=>exact hp.elim
 | loc m =>
  cases dy with
  | loc n =>
   rw[aq.aL]at hx hy;obtain⟨p,h1,rfl⟩:=hx;obtain⟨q,h2,rfl⟩:=hy;simp only[bj]at hp
   split at hp
   ·rename_i da db e1 e2
    split at hp
    ·rename_i hl;obtain⟨p',xs,h3,h4,h5⟩:=hs.lst e1;obtain⟨q',ys,h6,h7,h8⟩:=hs.lst e2;rw[h1]at h3;cases h3;rw[h2]at h6;cases h6;exact .inr (.inr (.inr (.inr ⟨p,q,xs,ys,rfl,rfl,h4,h7,by rw[<-h5.length,<-h8.length];exact yI hl,λr hr=>hp.newList hs (h5.append h8) hr⟩)))
    ·exact hp.elim
   ·exact hp.elim
  | _=>exact hp.elim
 | _=>exact hp.elim
noncomputable def rT(C:Int->Int->Prop)[∀i j,Decidable (C i j)](g:Int->Int->D):D->D->ak->R D
 | .int i,.int j,st=>if C i j then .ok (g i j) st else .bad
 | _,_,_=>.bad
def Zu[∀i j,Decidable (C i j)](h:eQ X f (rI C gv))(hg:∀i j μ H,aq X.K μ H (g i j) (gv i j)):eQ X f (rM X (rT C g)):=by
 refine eQ.weak h ?_;show 26;cases dx with
 | int i =>
  cases dy with
  | int j =>
   rw[aq.aN]at hx hy;subst hx hy;simp only[rT]at hp
   split at hp
   ·rename_i hc;exact⟨i,j,rfl,rfl,hc,hp.ret hs (hg i j μ H)⟩
   ·exact hp.elim
  | _=>exact hp.elim
 | _=>exact hp.elim
def eQ.top(h:eQ X f (V_ gv)):eQ X f (rI (λ_ _=>True) gv):=by
 refine eQ.weak h λx y H Q zz=>?_;obtain⟨i,j,a,b,_,q⟩:=zz;exact⟨i,j,a,b,q⟩
noncomputable def rE:D->D->ak->R D:=rT (λ_ _=>True) λi j=>.int (i - j)
def QQ:eQ X (binaryOp .Sub) (rM X rE):=Zu (eQ.top WL) λi j μ H=>aq.aN.mpr rfl
noncomputable def jk:D->D->ak->R D:=rT (λi j=>(-(2 ^ 64)<i/\i<2 ^ 64)\/(-(2 ^ 64)<j/\j<2 ^ 64)) λi j=>.int (i*j)
def QS:eQ X (binaryOp .Mult) (rM X jk):=Zu (eQ.weak WM λx y H Q h=>h) λi j μ H=>aq.aN.mpr rfl
noncomputable def ql:D->D->ak->R D:=rT (λ_ j=>0<j/\j<2 ^ 64) λi j=>.int (i / j)
def Jz:eQ X (binaryOp .FloorDiv) (rM X ql):=Zu Jy λi j μ H=>aq.aN.mpr rfl
noncomputable def jJ:D->D->ak->R D:=rT (λ_ j=>0<j) λi j=>.int (i % j)
def QT:eQ X (binaryOp .Mod) (rM X jJ):=Zu WN λi j μ H=>aq.aN.mpr rfl
noncomputable def ltV:D->D->ak->R D:=rT (λ_ _=>True) λi j=>.bl (decide (i<j))
def Jw:eQ X (compareOp .Lt) (rM X ltV):=Zu (eQ.top abd) λi j μ H=>aq.bx.mpr rfl
noncomputable def CK:D->D->ak->R D:=rT (λ_ _=>True) λi j=>.bl (decide (j<i))
def Jx:eQ X (compareOp .Gt) (rM X CK):=Zu (eQ.top abe) λi j μ H=>aq.bx.mpr rfl
noncomputable def W6:D->ak->R D
 | .int i,st=>.ok (.int (-i)) st
 | _,_=>.bad
def O5:TQ X (unaryOp .USub) (rM1 X W6):=by
 refine TQ.weak VF ?_;rintro x H Q ⟨μ,st,dx,hs,hx,hp⟩;cases dx with
 | int i=>rw[aq.aN]at hx;subst hx;exact⟨i,rfl,hp.ret hs (aq.aN.mpr rfl)⟩
 | _=>exact hp.elim
noncomputable def bN:D->D->ak->R D
 | .non,.non,st=>.ok (.bl true) st
 | _,.non,st=>.ok (.bl false) st
 | _,_,_=>.bad
noncomputable def yQ:D->D->ak->R D
 | .non,.non,st=>.ok (.bl false) st
 | _,.non,st=>.ok (.bl true) st
 | _,_,_=>.bad
def aq.xx(h:aq K μ H d v):decide (v=.non)=(match d with | .non=>true | _=>false):=by
 cases d with
 | non=>rw[aq.bJ]at h;subst h;rfl
 | bl b=>rw[aq.bx]at h;subst h;rfl
 | int b=>rw[aq.aN]at h;subst h;rfl
 | str b=>rw[aq.aP]at h;subst h;rfl
 | tup b=>rw[aq.aQ]at h;obtain⟨_,_,rfl,_⟩:=h;rfl
 | loc b=>rw[aq.aL]at h;obtain⟨_,_,rfl⟩:=h;rfl
def zmf:eQ X (compareOp .Is) (rM X bN):=by
 refine eQ.weak WQ ?_;show 26;cases dy with
 | non =>
  rw[aq.bJ]at hy;refine⟨hy,?_⟩;rw[hx.xx];cases dx<;>exact hp.ret hs (aq.bx.mpr rfl)
 | _=>cases dx<;>exact hp.elim
def zjy:eQ X (compareOp .IsNot) (rM X yQ):=by
 refine eQ.weak QR ?_;show 26;cases dy with
 | non =>
  rw[aq.bJ]at hy;refine⟨hy,?_⟩;rw[hx.xx];cases dx<;>exact hp.ret hs (aq.bx.mpr rfl)
 | _=>cases dx<;>exact hp.elim
noncomputable def aX:D->D->ak->R D
 | .loc n,.int i,st=>match (aA st n).bind λds=>qJ ds i with | some d=>.ok d st | none=>.bad
 | .tup ds,.int i,st=>match qJ ds i with | some d=>.ok d st | none=>.bad
 | .str cs,.int i,st=>if cs.length<=1000000 then (match qJ cs i with | some c=>.ok (.str [c]) st | none=>.bad) else .bad
 | _,_,_=>.bad
def ao.qJ(h:ao K μ H ds xs)(e:L2.qJ ds i=some d):∃v,L2.qJ xs i=some v/\aq K μ H d v:=by
 unfold L2.qJ at e ⊢;rw[<-h.length];cases q:Cw ds.length i with
 | none=>rw[q]at e;cases e
 | some j =>
  rw[q]at e;exact h.get (by simpa using e)
def adN:Dm X (rM X aX):=by
 refine Dm.weak X_ ?_;show 26;cases dy with
 | int i =>
  rw[aq.aN]at hy;subst hy;cases dx with
  | loc n =>
   rw[aq.aL]at hx;obtain⟨p,h1,rfl⟩:=hx;simp only[aX]at hp;cases e:aA st n with
   | none=>rw[e]at hp;exact hp.elim
   | some ds =>
    rw[e]at hp;cases e2:L2.qJ ds i with
    | none=>simp only[mW,e2]at hp;exact hp.elim
    | some d =>
     simp only[mW,e2]at hp;obtain⟨p',xs,h3,h4,h5⟩:=hs.items e;rw[h1]at h3;cases h3;obtain⟨v,h6,h7⟩:=h5.qJ e2;exact .inl ⟨p,xs,i,v,rfl,rfl,h4,h6,hp.ret hs h7⟩
  | tup ds =>
   rw[aq.aQ]at hx;obtain⟨p,xs,rfl,h1,h2⟩:=hx;simp only[aX]at hp;cases e2:L2.qJ ds i with
   | none=>simp only[e2]at hp;exact hp.elim
   | some d =>
    simp only[e2]at hp;obtain⟨v,h6,h7⟩:=h2.qJ e2;exact .inr (.inl ⟨p,xs,i,v,rfl,rfl,h1.rF,h6,hp.ret hs h7⟩)
  | str cs =>
   rw[aq.aP]at hx;subst hx;simp only[aX]at hp
   split at hp
   ·rename_i hl;cases e2:L2.qJ cs i with
    | none=>simp only[e2]at hp;exact hp.elim
    | some c =>
     simp only[e2]at hp;exact .inr (.inr ⟨_,i,c,rfl,rfl,by rw[zf2];exact yI hl,by simpa[strOf] using e2,hp.ret hs (aq.aP.mpr rfl)⟩)
   ·exact hp.elim
  | _=>exact hp.elim
 | _=>cases dx<;>exact hp.elim
def abt(ha:JE X a ma)(hb:JE X b mb)(hs:Dl b:=by exact λ_ _=>rfl):JE X (.Subscript a b pos) (aF aX ma mb) :=
 JE.of (aa9 adN ha hb hs) fun σ H Q h=>ztv h
end
section
variable  {X:Cx}{e a b c:Expr}{es:List Expr}{t:TE}{ma mb mc:ME}{mA:MA}{pos p2:Pos}
noncomputable def cut{α:Type}(xs:List α)(lo hi:Option Int):List α:=(xs.drop (HT.dh xs.length 0 lo)).take (HT.dh xs.length xs.length hi - HT.dh xs.length 0 lo)
def ao.cut{K:PySem.W.Frag}{μ:List Addr}{H:Hp}{ds:List D}{xs:List V}(h:ao K μ H ds xs)(lo hi:Option Int):ao K μ H (M.cut ds lo hi) (zx xs lo hi):=by
 unfold M.cut zx;rw[<-h.length];exact (h.drop _).take _
def Gk{α:Type}{xs:List α}{lo hi:Option Int}(h:HT.dh xs.length 0 lo=0/\HT.dh xs.length xs.length hi=xs.length):cut xs lo hi=xs:=by
 unfold cut;rw[h.1,h.2];simp
def Eh(i j:Nat):sliceRange (i:Int) (j:Int) 1=(List.range (j - i)).map λk=>i+k:=by
 unfold sliceRange;simp only[show (1:Int) > 0 by decide,if_true];have e:(if (i:Int)<(j:Int) then ((j:Int) - (i:Int)+1 - 1) / 1 else 0).toNat=j - i:=by
  split
  ·rw[Int.ediv_one];omega
  ·omega
 rw[e];refine kI λk _=>?_;omega
def Py(lo hi:Option Int)(n:Nat):Builtin.Str.strSliceIndices lo hi 1 n=(List.range (HT.dh n n hi - HT.dh n 0 lo)).map λk=>HT.dh n 0 lo+k:=by
 rw[<-Eh];unfold Builtin.Str.strSliceIndices;simp only[show (1:Int) > 0 by decide,if_true];congr 1
 ·cases lo with
  | none=>rfl
  | some v =>
   show max 0 (min (if v<0 then v+(n:Int) else v) (n:Int))=((if v<0 then (v+(n:Int)).toNat else min v.toNat n:Nat):Int)
   split<;>omega
 ·cases hi with
  | none=>rfl
  | some v =>
   show max 0 (min (if v<0 then v+(n:Int) else v) (n:Int))=((if v<0 then (v+(n:Int)).toNat else min v.toNat n:Nat):Int)
   split<;>omega
def Ji(cs:List Nat)(i k:Nat):((List.range k).map λm=>i+m).filterMap (λm=>cs[m]?)=(cs.drop i).take k:=by
 induction k generalizing i with
 | zero=>simp
 | succ k ih =>
  rw[List.range_succ_eq_map,gq,pF,gJ];have e:((λm=>i+m)∘Nat.succ)=λm=>(i+1)+m:=by funext m;simp;omega
  rw[e,ih (i+1)];cases q:cs[i]? with
  | none =>
   have hl:cs.length<=i:=List.getElem?_eq_none_iff.mp q;simp[q,nF hl,nF (Nat.le_succ_of_le hl)]
  | some c =>
   have hl:=(gf.mp q).1;have hc:=(gf.mp q).2;simp[q,mQ hl,hc]
def Ef(cs:List Nat)(lo hi:Option Int):Txt.slice (strOf cs) lo hi=strOf (cut cs lo hi):=by
 have e:(strOf cs).length=cs.length:=by simp[Str.length,strOf]
 unfold Txt.slice;rw[e,Py];have hj:HT.dh cs.length cs.length hi<=cs.length:=HT.Ib _ _ (gb _) hi;have q:((List.range (HT.dh cs.length cs.length hi - HT.dh cs.length 0 lo)).map λk=>HT.dh cs.length 0 lo+k).filterMap (λm=>(strOf cs).cps[m]?)=cut cs lo hi:=by
  have:(λ(m:Nat)=>(strOf cs).cps[m]?)=λ(m:Nat)=>cs[m]?:=by funext m;simp[strOf]
  rw[this,Ji];rfl
 split
 ·rename_i h;rw[gM]at h;have h2:HT.dh cs.length cs.length hi - HT.dh cs.length 0 lo=cs.length:=by simpa using h.2
  have h3:cut cs lo hi=cs:=by
   unfold cut;rw[h2];by_cases hz:cs.length=0
   ·have:cs=[]:=nZ.mp hz;subst this;simp
   ·have:HT.dh cs.length 0 lo=0:=by omega
    rw[this];simp
  rw[h3]
 ·rw[q]
noncomputable def xQ:D->Option Int->Option Int->ak->R D
 | .loc n,lo,hi,st=>match aA st n with | some ds=>.ok 0x3 (st++[.lst (cut ds lo hi)]) | none=>.bad
 | .tup ds,lo,hi,st=>.ok (.tup (cut ds lo hi)) st
 | .str cs,lo,hi,st=>if cs.length<=1000000 then .ok (.str (cut cs lo hi)) st else .bad
 | _,_,_,_=>.bad
def rMS(X:Cx)(g:D->Option Int->Option Int->ak->R D):V->Option Int->Option Int->Hp->VK->Prop:=λx lo hi H Q=>∃μ st dx,aU X.K μ H st/\aq X.K μ H dx x/\bR X μ H (lN X) Q (g dx lo hi st)
def adn:V->Option Int->Option Int->Hp->VK->Prop:=λx lo hi H Q=>∃cs,x=.str (strOf cs)/\cs.length<=sizeLine/\Q (.str (strOf (cut cs lo hi))) H
def V1:zF X adn:=by
 intro pins s σ H x v vl vu lo hi sl Q I rx hs pl pu h;obtain⟨cs,rfl,hz,q⟩:=h;show 28;obtain⟨l,el,ml⟩:∃l:Option (Int×Tok),vl=partValue l/\l.map (·.1)=lo:=by
  cases pl with
  | none=>exact⟨none,rfl,rfl⟩
  | int i u=>exact⟨some (i,u),rfl,rfl⟩
 obtain⟨u,eu,mu⟩:∃l:Option (Int×Tok),vu=partValue l/\l.map (·.1)=hi:=by
  cases pu with
  | none=>exact⟨none,rfl,rfl⟩
  | int i u=>exact⟨some (i,u),rfl,rfl⟩
 subst el eu;have oN:s.heap.IsSlice sl l u none:=hs;refine⟨"str",_,F.slot_str_getitem.lookup,afH _ _ _,wpAny_getItem_str_slice (l:=l) (u:=u) (st:=none) oN rfl ?_⟩;have e:Txt.slice (strOf cs) lo hi=strOf (cut cs lo hi):=Ef cs lo hi;unfold Txt.slice at e;unfold sliceMade slicePicked;rw[ml,mu]
 split
 ·rename_i h;have h':((1:Int)==1 && (Builtin.Str.strSliceIndices lo hi 1 (strOf cs).length).length==(strOf cs).length)=true:=h;rw[ae7 h']at e;exact⟨.str (strOf cs),H,I,⟨t,rfl⟩,by rw[<-e]at q;exact q⟩
 ·rename_i h;have h':¬ ((1:Int)==1 && (Builtin.Str.strSliceIndices lo hi 1 (strOf cs).length).length==(strOf cs).length)=true:=h;rw[ae8 h']at e;have e':({ cps:=((Builtin.Str.strSliceIndices lo hi ((Option.map (·.1) (none:Option (Int×Tok))).getD 1) (strOf cs).length).filterMap λx=>(strOf cs).cps[x]?).toArray }:Str)=strOf (cut cs lo hi):=e;rw[e'];refine⟨?_,.str (strOf (cut cs lo hi)),H,I.tok _,⟨_,rfl⟩,q⟩;have:(strOf (cut cs lo hi)).length=(cut cs lo hi).length:=by simp[Str.length,strOf]
  rw[this];refine kh ?_ hz;unfold cut;rw[kJ,mO];omega
def acT:zF X (rMS X xQ):=by
 refine zF.weak (zF.or Pk (zF.or V0 (zF.or Pj V1))) ?_;rintro x lo hi H Q ⟨μ,st,dx,hs,hx,hp⟩;cases dx with
 | loc n =>
  rw[aq.aL]at hx;obtain⟨p,h1,rfl⟩:=hx;simp only[xQ]at hp;cases e:aA st n with
  | none=>rw[e]at hp;exact hp.elim
  | some ds =>
   rw[e]at hp;obtain⟨p',xs,h3,h4,h5⟩:=hs.items e;rw[h1]at h3;cases h3;exact .inl ⟨p,xs,rfl,h4,λq hq=>hp.newList hs (h5.cut lo hi) hq⟩
 | tup ds =>
  rw[aq.aQ]at hx;obtain⟨p,xs,rfl,h1,h2⟩:=hx;by_cases hw:HT.dh xs.length 0 lo=0/\HT.dh xs.length xs.length hi=xs.length
  ·refine .inr (.inr (.inl ⟨p,xs,rfl,h1.rF,hw,hp.ret hs ?_⟩));rw[<-h2.length]at hw;rw[Gk hw];exact aq.aQ.mpr ⟨p,xs,rfl,h1,h2⟩
  ·exact .inr (.inl ⟨p,xs,rfl,h1.rF,hw,λq hq=>hp _ _ μ (a_.lay hq) (hs.lay hq) (aq.aQ.mpr ⟨q,_,rfl,.inl qT,(h2.cut lo hi).mono (a_.lay hq) _⟩)⟩)
 | str cs =>
  rw[aq.aP]at hx;subst hx;simp only[xQ]at hp
  split at hp
  ·rename_i hl;exact .inr (.inr (.inr ⟨cs,rfl,yI hl,hp.ret hs (aq.aP.mpr rfl)⟩))
  ·exact hp.elim
 | _=>exact hp.elim
noncomputable def noP:MP:=λ_ st=>.ok none st
noncomputable def Hc(m:ME):MP:=λenv st=>(m env st).bind λx st1=>match x with | .int i=>.ok (some i) st1 | _=>.bad
def Rm:JP X none noP:=by
 refine JP.of Qo fun σ H Q zz=>?_;show 1;exact hp.ret hs rfl
def Rk(h:JE X e m):JP X (some e) (Hc m):=by
 refine JP.of (Qn h) fun σ H Q zz=>?_;show 1;show 5;show 4;cases d with
 | int i=>exact⟨i,aq.aN.mp hx,aR.ret bG rfl⟩
 | _=>exact aR.elim
noncomputable def G8(a:ME)(l h:MP):ME:=λenv st=>(a env st).bind λx st1=>(l env st1).bind λlo st2=>(h env st2).bind λhi ie=>xQ x lo hi ie
def Ku(he:JE X e ma)(hl:JP X lo ml)(hu:JP X hi mh):JE X (.Subscript e (.Slice lo hi none p2) pos) (G8 ma ml mh):=by
 refine JE.of (Jo acT he hl hu) fun σ H Q zz=>?_;show 1;show 5;show 4;refine⟨μ1,env,st1,hE.mono g1,bG,aR.bind.imp ?_⟩;rintro l H2 ⟨μ2,st2,l',g2,iJ,rfl,dX⟩;refine⟨μ2,env,st2,(hE.mono g1).mono g2,iJ,dX.bind.imp ?_⟩;rintro u H3 ⟨μ3,ie,u',g3,yZ,rfl,zV⟩;exact⟨μ3,ie,d,yZ,hx.mono (g2.trans g3) _,zV⟩
noncomputable def bD(g:List D->ak->R D)(mA:MA):ME:=λenv st=>(mA env st).bind λds st1=>g ds st1
def zrg(h:tM X (bD g mA) σ H Q):tMA X mA σ H λvs H1=>NT X g vs H1 Q:=by
 obtain⟨μ,env,st,hE,hs,hp⟩:=h;show 5;rintro xs H1 ⟨μ1,st1,ds,g1,bG,hx,aR⟩;exact⟨μ1,st1,ds,bG,hx,aR⟩
def KC{x:Str}{p:Pos}{id:String}{g:List D->ak->R D}(hc:cL X (.builtin id) (NT X g))(hg:Gl X x)(hm:X.mg x=none)(hv:bootBuiltins x=some (.builtin id))(ha:JA X (e::es) mA)(hn:x ≠ "__name__":=by decide)(rY:0xc=false:=by decide)
  (he:starEach (e::es) X.env=0xb::starEach es X.env:=by rfl) (oO:#[10,pos,es].any (·.1)=false:=by rfl):JE X 0x13 (bD g mA) :=
 JE.of (ztc hc hg hm hv ha hn rY he oO) fun σ H Q h=>zrg h
def Fp{p:Pos}(hc:cL X (.type T) (NT X g))(hg:Gl X x)(hm:X.mg x=none)(hv:bootBuiltins x=some (.type T))(ha:JA X (e::es) mA)(hn:x ≠ "__name__":=by decide)(rY:0xc=false:=by decide) 
  (he:starEach (e::es) X.env=0xb::starEach es X.env:=by rfl) (oO:#[10,pos,es].any (·.1)=false:=by rfl):JE X 0x13 (bD g mA) :=
 JE.of (Ew hc hg hm hv ha hn rY he oO) fun σ H Q h=>zrg h
end
inductive Out where
 | nx (env:aK) | rt (d:D) | bk (env:aK) | cn (env:aK)
noncomputable abbrev MS:=aK->ak->R Out
def cJ(X:Cx)(μ:List Addr)(H:Hp)(E:Ends)(r:R Out):Prop:=match r with
 | .ok (.nx env) st=>∀(σ':L2.St) (H':Hp) (μ':List Addr),a_ μ H μ' H'->aU X.K μ' H' st->dU X.K μ' H' env σ'->E.nx σ' H'
 | .ok (.rt d) st=>∀(v:V) (H':Hp) (μ':List Addr),a_ μ H μ' H'->aU X.K μ' H' st->aq X.K μ' H' d v->E.rt v H'
 | .ok (.bk env) st=>∀(σ':L2.St) (H':Hp) (μ':List Addr),a_ μ H μ' H'->aU X.K μ' H' st->dU X.K μ' H' env σ'->E.bk σ' H'
 | .ok (.cn env) st=>∀(σ':L2.St) (H':Hp) (μ':List Addr),a_ μ H μ' H'->aU X.K μ' H' st->dU X.K μ' H' env σ'->E.ct σ' H'
 | .err x st=>v5 X μ H x st
 | .bad=>False
noncomputable def VH(X:Cx)(m:MS):TS:=λE σ H=>∃μ env st,dU X.K μ H env σ/\aU X.K μ H st/\cJ X μ H E (m env st)
def JS(X:Cx)(s:Stmt)(m:MS):Prop:=PS X s (VH X m)
def zM(X:Cx)(s:List Stmt)(m:MS):Prop:=zJ X s (VH X m)
section
variable  {X:Cx}{e a b c:Expr}{es:List Expr}{t:TE}{ma mb mc:ME}{mA:MA}{pos p2:Pos}{s:Stmt}{ss:List Stmt}{m m1 m2:MS}{μ μ1:List Addr}{H H1:Hp}{E E':Ends}{r:R Out}
def cJ.mono(g:a_ μ H μ1 H1)(h:cJ X μ H E r):cJ X μ1 H1 E r:=by
 match r,h with
 | .ok (.nx _) _,h=>exact fun σ' H' μ' g'=>h σ' H' μ' (g.trans g')
 | .ok (.rt _) _,h=>exact fun σ' H' μ' g'=>h σ' H' μ' (g.trans g')
 | .ok (.bk _) _,h=>exact fun σ' H' μ' g'=>h σ' H' μ' (g.trans g')
 | .ok (.cn _) _,h=>exact fun σ' H' μ' g'=>h σ' H' μ' (g.trans g')
 | .err _ _,h=>exact v5.mono g h
 | .bad,h=>exact h
def JS.of{t:TS}(h:PS X s t)(k:∀E σ H,VH X m E σ H->t E σ H):JS X s m:=λpins s σ H D I q=>h pins s σ H D I (k D σ H q)
def zM.of{t:TS}(h:zJ X ss t)(k:∀E σ H,VH X m E σ H->t E σ H):zM X ss m:=λpins s σ H D I q=>h pins s σ H D I (k D σ H q)
def cJ.nx{env:aK}{st:ak}{σ:L2.St}(h:cJ X μ H E (.ok (.nx env) st))(hs:aU X.K μ H st)(hE:dU X.K μ H env σ):E.nx σ H:=h σ H μ (.refl _ _) hs hE
noncomputable def bI:MS:=λenv st=>.ok (.nx env) st
noncomputable def aC(a b:MS):MS:=λenv st=>(a env st).bind λo st1=>match o with | .nx env1=>b env1 st1 | o=>.ok o st1
noncomputable def retS(m:ME):MS:=λenv st=>(m env st).bind λd st1=>.ok (.rt d) st1
noncomputable def dO(m:ME):MS:=λenv st=>(m env st).bind λ_ st1=>.ok (.nx env) st1
noncomputable def fJ(c:MT)(a b:MS):MS:=λenv st=>(c env st).bind λx st1=>if x then a env st1 else b env st1
noncomputable def ab5:MS:=λenv st=>.ok (.bk env) st
def Kh:zM X [] bI:=by
 refine zM.of Qk λE σ H zz=>?_;show 1;exact hp.nx hs hE
def Km:JS X (.Break pos) ab5:=by
 refine JS.of Jd λE σ H zz=>?_;show 1;exact hp σ H μ (.refl _ _) hs hE
def G4(h:JS X s m):zM X [s] m:=Qj h
def cJ.seq(h:cJ X μ H E (r.bind λo st1=>match o with | .nx env1=>m2 env1 st1 | o=>.ok o st1)):cJ X μ H { E with nx:=VH X m2 E } r:=by
 match r,h with
 | .ok (.nx env1) st1,h=>exact fun σ' H' μ' g hs hE=>⟨μ',env1,st1,hE,hs,cJ.mono g h⟩
 | .ok (.rt _) _,h=>exact h
 | .ok (.bk _) _,h=>exact h
 | .ok (.cn _) _,h=>exact h
 | .err _ _,h=>exact h
 | .bad,h=>exact h
def jD(h1:JS X s m1)(h2:zM X ss m2):zM X (s::ss) (aC m1 m2):=by
 refine zM.of (Jb h1 h2) λE σ H zz=>?_;show 1;exact⟨μ,env,st,hE,hs,cJ.seq hp⟩
def cJ.val{α β:Type}{rel:Rel α β}{r:R α}{f:α->ak->R Out}(h:cJ X μ H E (r.bind f)):bR X μ H rel (λb H1=>∃μ1 st1 a,a_ μ H μ1 H1/\aU X.K μ1 H1 st1/\rel μ1 H1 a b/\cJ X μ1 H1 E (f a st1)) r:=by
 cases r with
 | ok a st=>exact λb H' μ' g h1 h2=>⟨μ',st,a,g,h1,h2,cJ.mono g h⟩
 | err x st=>exact h
 | bad=>exact h
def Zk(h:JE X e ma):JS X (.Return (some e) pos) (retS ma):=by
 refine JS.of (Wg h) λE σ H zz=>?_;show 1;show 30;rintro v H1 ⟨μ1,st1,d,g1,bG,hv,aR⟩;exact aR v H1 μ1 (.refl _ _) bG hv
def zue(h:JE X e ma)(hs:swapsWith e none pos.line X.env=pure false:=by rfl):JS X (.Expr e pos) (dO ma):=by
 refine JS.of (Ql h hs) λE σ H zz=>?_;show 1;show 30;rintro v H1 ⟨μ1,st1,d,g1,bG,hv,aR⟩;exact aR.nx bG (hE.mono g1)
def Kl{sa sb:List Stmt}{tc:MT}(hc:JT X c tc)(ha:zM X sa m1)(hb:zM X sb m2):JS X (.If c sa sb pos) (fJ tc m1 m2):=by
 refine JS.of (aa2 hc ha hb) λE σ H zz=>?_;show 1;show 30;rintro v H1 ⟨μ1,st1,d,g1,bG,rfl,aR⟩;cases d with
 | true=>exact yW ⟨μ1,env,st1,hE.mono g1,bG,aR⟩
 | false=>exact yX ⟨μ1,env,st1,hE.mono g1,bG,aR⟩
noncomputable abbrev MG:=D->aK->ak->R aK
noncomputable abbrev Od:=List D->aK->ak->R aK
noncomputable abbrev aaO(X:Cx):Rel aK L2.St:=fun μ H env σ=>dU X.K μ H env σ
noncomputable def tMG(X:Cx)(m:MG):TG:=λv σ H Q=>∃μ env st d,dU X.K μ H env σ/\aU X.K μ H st/\aq X.K μ H d v/\bR X μ H (aaO X) Q (m d env st)
noncomputable def aaC(X:Cx)(m:Od):U_:=λvs σ H Q=>∃μ env st ds,dU X.K μ H env σ/\aU X.K μ H st/\ao X.K μ H ds vs/\bR X μ H (aaO X) Q (m ds env st)
def JG(X:Cx)(t:Expr)(m:MG):Prop:=PG X t (tMG X m)
def Va(X:Cx)(ts:List Expr)(m:Od):Prop:=PGs X ts (aaC X m)
def JG.of{g:TG}{m:MG}(h:PG X e g)(k:∀v σ H Q,tMG X m v σ H Q->g v σ H Q):JG X e m:=λpins s σ H v u Q I r q=>h pins s σ H v u Q I r (k v σ H Q q)
def Va.of{g:U_}{m:Od}(h:PGs X es g)(k:∀v σ H Q,aaC X m v σ H Q->g v σ H Q):Va X es m:=λpins s σ H v u Q I r q=>h pins s σ H v u Q I r (k v σ H Q q)
noncomputable def aM(i:Nat):MG:=λd env st=>.ok (env.set i (some d)) st
def Rr(i:Nat)(hN:X.N.Nodup)(hi:X.N[i]? = some x:=by rfl)(hx:Loc X.env.scope x:=by first | exact Or.inl rfl | exact Or.inr rfl)(hf:X.fn x=true\/X.env.scope.names.lookup x=some .local:=by first | exact .inl rfl | exact .inr rfl | assumption):JG X (.Name x pos) (aM i):=by
 refine JG.of (Qx hN hi hx hf) λv σ H Q zz=>?_;obtain⟨μ,env,st,d,hE,hs,hv,hp⟩:=zz;exact hp.ret hs (hE.set hv)
noncomputable def rJ:Od:=λds env st=>match ds with | []=>.ok env st | _=>.bad
noncomputable def cU(g:MG)(r:Od):Od:=λds env st=>match ds with | d::ds=>(g d env st).bind λenv1 st1=>r ds env1 st1 | _=>.bad
def Rq:Va X [] rJ:=Va.of Qw λvs σ H Q zz=>by
 obtain⟨μ,env,st,ds,hE,hs,hv,hp⟩:=zz;cases ds with
 | nil=>rw[ao]at hv;exact⟨hv,hp.ret hs hE⟩
 | cons _ _=>exact hp.elim
def Ks(h1:JG X e g)(h2:Va X es gs)(hs:(assignEach (e::es) X.env).map (·.2)=assign e X.env::(assignEach es X.env).map (·.2):=by rfl):Va X (e::es) (cU g gs) :=
 Va.of (Jl h1 h2 hs) λvs σ H Q zz=>by
 obtain⟨μ,env,st,ds,hE,hs,hv,hp⟩:=zz;cases ds with
 | nil=>exact hp.elim
 | cons d ds =>
  rw[ao]at hv;obtain⟨v,r,rfl,h3,h4⟩:=hv;refine⟨v,r,rfl,μ,env,st,d,hE,hs,h3,(bR.bind hp).imp ?_⟩;rintro σ1 H1 ⟨μ1,st1,env1,g1,bG,hE1,aR⟩;exact⟨μ1,env1,st1,ds,hE1,bG,h4.mono g1 _,aR⟩
noncomputable def qz(n:Nat)(g:Od):MG:=λd env st=>match d with | .tup ds=>if ds.length=n then g ds env st else .bad | _=>.bad
def Xu{gs:Od}{k:Nat}(n:Nat)(hc:X.calm=true)(h:Va X es gs)(hn:(assignEach es X.env).length=n:=by rfl)(Fy:(assignEach es X.env).findIdx? (·.1)=none:=by rfl):JG X (.Tuple es k pos) (qz n gs) :=
 JG.of (Wo hc h hn Fy) λv σ H Q zz=>by
 obtain⟨μ,env,st,d,hE,hs,hv,hp⟩:=zz;cases d with
 | tup ds =>
  rw[aq.aQ]at hv;obtain⟨p,xs,rfl,h1,h2⟩:=hv;simp only[qz]at hp
  split at hp
  ·rename_i hl;exact⟨p,xs,rfl,h1.rF,by rw[<-h2.length];exact hl,μ,env,st,ds,hE,hs,h2,hp⟩
  ·exact hp.elim
 | _=>exact hp.elim
noncomputable def yN:D->D->D->ak->R Unit
 | .loc n,.int i,d,st=>match st[n]? with
  | some (.lst ds)=>(match Cw ds.length i with | some j=>.ok () (st.set n (.lst (ds.set j d))) | none=>.bad)
  | _=>.bad
 | _,_,_,_=>.bad
noncomputable abbrev ac1:Rel Unit Unit:=λ_ _ _ _=>True
noncomputable def BJ(X:Cx)(g:D->D->D->ak->R Unit):Nf:=λo i v H Q=>∃μ st d1 d2 d3,aU X.K μ H st/\aq X.K μ H d1 o/\aq X.K μ H d2 i/\aq X.K μ H d3 v/\bR X μ H ac1 (λ_=>Q) (g d1 d2 d3 st)
def vp(hs:aU X.K μ H st)(e:st[n]? = some (.lst ds))(hp:μ[n]? = some p)(hx:H p=some (.lst xs))(hy:ao X.K μ H ds' ys) :
  a_ μ H μ (upd H p (.lst ys))/\aU X.K μ (upd H p (.lst ys)) (st.set n (.lst ds')):=by
 have g:Ext H (upd H p (.lst ys)):=Ext.mut hx (λ_ z=>nomatch z) (λ_ _ z=>nomatch z);have g':a_ μ H μ (upd H p (.lst ys)):=⟨⟨[],by simp⟩,g⟩;exact⟨g',hs.put e rfl rfl hp g ⟨ys,qT,hy.mono g' _⟩⟩
def aaJ:xj X (BJ X yN):=by
 refine xj.weak set_list ?_;rintro o i v H Q ⟨μ,st,d1,d2,d3,hs,h1,h2,h3,hp⟩;cases d1 with
 | loc n =>
  cases d2 with
  | int k =>
   rw[aq.aL]at h1;rw[aq.aN]at h2;obtain⟨p,hn,rfl⟩:=h1;subst h2;simp only[yN]at hp;cases e:st[n]? with
   | none=>rw[e]at hp;exact hp.elim
   | some mo =>
    cases mo with
    | lst ds =>
     rw[e]at hp;simp only at hp;obtain⟨p',xs,q1,q2,q3⟩:=hs.lst e;rw[hn]at q1;cases q1;cases e2:Cw ds.length k with
     | none=>rw[e2]at hp;exact hp.elim
     | some j =>
      rw[e2]at hp;obtain⟨g,oN⟩:=vp hs e hn q2 (ao.set h3 j q3);exact⟨p,xs,k,j,rfl,rfl,q2,by rw[<-q3.length];exact e2,hp () _ μ g oN trivial⟩
    | _=>rw[e]at hp;exact hp.elim
  | _=>exact hp.elim
 | _=>exact hp.elim
noncomputable def tU(g:D->D->D->ak->R Unit)(o i:ME):MG:=λd env st=>(o env st).bind λx st1=>(i env st1).bind λy st2=>(g x y d st2).bind λ_ ie=>.ok env ie
def Xv(adS:xj X (BJ X g))(ho:JE X o mo)(hi:JE X i mi) 
  (ha:∀v,assign (.Subscript o i pos) X.env v=(do
   let ov <-holding [v] (eval o X.env)
   let iv <-holding [v,ov] (eval i X.env)
   standAt pos
   holding [v,ov,iv] (setItem ov iv v)
   release [v,ov,iv] []):=by intro _;rfl):JG X (.Subscript o i pos) (tU g mo mi):=by
 refine JG.of (Wq ho hi adS ha) λv σ H Q zz=>?_;obtain⟨μ,env,st,d,hE,hs,hv,hp⟩:=zz;show 3;rintro x H1 ⟨μ1,st1,dx,g1,bG,hx,aR⟩;refine⟨μ1,env,st1,hE.mono g1,bG,(bR.bind aR).imp ?_⟩;rintro y H2 ⟨μ2,st2,dy,g2,iJ,hy,dX⟩;refine⟨μ2,st2,dx,dy,d,iJ,hx.mono g2 _,hy,(hv.mono g1 _).mono g2 _,(bR.bind dX).imp ?_⟩;rintro _ H3 ⟨μ3,ie,_,g3,yZ,_,zV⟩;exact zV.ret yZ (((hE.mono g1).mono g2).mono g3)
noncomputable def jy(m:ME)(g:MG):MS:=λenv st=>(m env st).bind λd st1=>(g d env st1).bind λenv1 st2=>.ok (.nx env1) st2
def Ko{tg:Expr}{g:MG}(he:JE X e ma)(hg:JG X tg g)(hs:swapsWithSole [tg] e pos.line X.env=pure false:=by rfl)(hw:swappedStores [tg] e X.env=pure none:=by rfl)(h1:(assignEach [tg] X.env).map (·.2)=[assign tg X.env]:=by rfl):JS X (.Assign [tg] e pos) (jy ma g):=by
 refine JS.of (Wj he hg hs hw h1) λE σ H zz=>?_;show 1;show 30;show 4;refine⟨μ1,env,st1,d,hE.mono g1,bG,hx,aR.val.imp ?_⟩;rintro σ2 H2 ⟨μ2,st2,bw,g2,iJ,UL,dX⟩;exact dX.nx iJ UL
noncomputable def aJ(i:Nat)(m:ME):MS:=jy m (aM i)
def Vc(i:Nat){x:Str}{pos':Pos}(he:JE X e ma)(hN:X.N.Nodup)(hi:X.N[i]? = some x:=by rfl)(hx:Loc X.env.scope x:=by first | exact Or.inl rfl | exact Or.inr rfl)(hs:swapsWith e (some (.Name x pos')) pos.line X.env=pure false:=by rfl)
  (hf:X.fn x=true\/X.env.scope.names.lookup x=some .local:=by first | exact .inl rfl | exact .inr rfl | assumption):JS X (.Assign [.Name x pos'] e pos) (aJ i ma):=by
 refine JS.of (Wf hN hi hx he hs hf) λE σ H zz=>?_;show 1;show 30;show 4;exact aR.nx bG ((hE.mono g1).set hx)
end
noncomputable def bA(c:MT)(b:MS):Nat->MS
 | 0,_,_=>.bad
 | n+1,env,st=>(c env st).bind λx st1=>if x then (b env st1).bind λo st2=>(match o with
   | .nx bw=>bA c b n bw st2
   | .cn bw=>bA c b n bw st2
   | .bk bw=>.ok (.nx bw) st2
   | .rt d=>.ok (.rt d) st2) else .ok (.nx env) st1
section
variable  {X:Cx}{e a b c:Expr}{es:List Expr}{t:TE}{ma mb mc:ME}{mA:MA}{pos p2:Pos}{s:Stmt}{ss body:List Stmt}{m m1 m2 mb:MS}{μ μ1:List Addr}{H H1:Hp}{E E':Ends}{r:R Out}{tc:MT}
theorem cJ.loop{nxt:aK->ak->R Out}{N:L2.St->Hp->Prop}
  (h:cJ X μ H E (r.bind λo st2=>(match o with
   | .nx bw=>nxt bw st2
   | .cn bw=>nxt bw st2
   | .bk bw=>.ok (.nx bw) st2
   | .rt d=>.ok (.rt d) st2)))
  (hN:∀bw st2 σ' H' μ',a_ μ H μ' H'->aU X.K μ' H' st2->dU X.K μ' H' bw σ'->cJ X μ' H' E (nxt bw st2)->N σ' H') :
  cJ X μ H { E with nx:=N,ct:=N,bk:=E.nx } r:=by
 match r,h with
 | .ok (.nx env1) st1,h=>exact fun σ' H' μ' g hs hE=>hN env1 st1 σ' H' μ' g hs hE (cJ.mono g h)
 | .ok (.cn env1) st1,h=>exact fun σ' H' μ' g hs hE=>hN env1 st1 σ' H' μ' g hs hE (cJ.mono g h)
 | .ok (.rt _) _,h=>exact h
 | .ok (.bk _) _,h=>exact h
 | .err _ _,h=>exact h
 | .bad,h=>exact h
def Kg(n:Nat)(hc:JT X c tc)(hb:zM X body mb)(hp:PassesOwn 0x7 X.A X.env X.xe):JS X (.While c body [] pos) (bA tc mb n):=by
 refine JS.of (Jc hp hc hb) λE σ H h=>?_;refine⟨λk σ H=>VH X (bA tc mb k) E σ H,⟨n,h⟩,?_⟩;rintro k σ H ⟨μ,env,st,hE,hs,hp⟩;cases k with
 | zero=>exact hp.elim
 | succ k =>
  refine⟨μ,env,st,hE,hs,(cJ.val hp).imp ?_⟩;rintro v H1 ⟨μ1,st1,d,g1,bG,rfl,aR⟩;cases d with
  | false=>exact yX (aR.nx bG (hE.mono g1))
  | true =>
   refine yW ⟨fun σ' H'=>VH X (bA tc mb k) E σ' H',fun σ' H' q=>⟨k,nY _,q⟩,μ1,env,st1,hE.mono g1,bG,?_⟩;exact cJ.loop (nxt:=bA tc mb k) aR λbw st2 σ' H' μ' g iJ UL q=>⟨μ',bw,st2,UL,iJ,q⟩
noncomputable abbrev Src:=List D×List (Nat×MO)
noncomputable abbrev MI:=aK->ak->R Src
def uO(gs:List (Nat×MO))(st:ak):Prop:=∀g∈gs,st[g.1]? = some g.2
@[simp] def acs(st:ak):uO [] st:=λ_ h=>nomatch h
@[simp] def abh(g:Nat×MO)(gs:List (Nat×MO))(st:ak):uO (g::gs) st↔st[g.1]? = some g.2/\uO gs st:=by simp[uO]
def oE(X:Cx)(μ:List Addr)(H:Hp)(J:It)(s:Src):Prop:=∀(H':Hp) (μ':List Addr) (st':ak),a_ μ H μ' H'->aU X.K μ' H' st'->uO s.2 st' ->
 (∀(i:Nat) (d:D),s.1[i]? = some d->J.go i H'/\∀x Dn,J.yld i H' x Dn->a_ μ' H' μ' Dn/\aU X.K μ' Dn st'/\aq X.K μ' Dn d x)/\J.stop s.1.length H'
noncomputable abbrev ac4(X:Cx):Rel Src It:=fun μ H s J=>oE X μ H J s
noncomputable def tMI(X:Cx)(m:MI):TI:=fun σ H Q=>∃μ env st,dU X.K μ H env σ/\aU X.K μ H st/\bR X μ H (ac4 X) (λJ H'=>Q J H') (m env st)
def JI(X:Cx)(tg iter:Expr)(m:MI):Prop:=PI X tg iter (tMI X m)
def JI.of{tg iter:Expr}{wi:TI}{m:MI}(h:PI X tg iter wi)(k:∀σ H Q,tMI X m σ H Q->wi σ H Q):JI X tg iter m:=λpins s σ H R I q=>h pins s σ H R I (k σ H R q)
open Classical in
noncomputable def bY(g:MG)(b:MS)(gs:List (Nat×MO)):List D->MS
 | [],env,st=>if uO gs st then .ok (.nx env) st else .bad
 | d::r,env,st=>if uO gs st then (g d env st).bind λenv1 st1=>(b env1 st1).bind λo st2=>(match o with
   | .nx bw=>bY g b gs r bw st2
   | .cn bw=>bY g b gs r bw st2
   | .bk bw=>.ok (.nx bw) st2
   | .rt d=>.ok (.rt d) st2) else .bad
noncomputable def iH(mi:MI)(g:MG)(b:MS):MS:=λenv st=>(mi env st).bind λs st1=>bY g b s.2 s.1 env st1
def Al(hi:JI X tg iter mi)(hg:JG X tg g)(hb:zM X body mb)(hp:PassesOwn 0x7 X.A X.env X.xe)(hc:X.calm=true) 
  (hs:∀x,foldedSetIterable iter X.env x=pure x:=by intro _;rfl):JS X (.For tg iter body [] pos) (iH mi g mb):=by
 refine JS.of (Wh hp hc hi hg hb hs) λE σ H zz=>?_;show 1;refine⟨μ,env,st,hE,hs,(cJ.val hp).imp ?_⟩;rintro J H1 ⟨μ1,st1,s,g1,bG,hJ,aR⟩;refine⟨λi k σ H=>∃μ2 bw st2,a_ μ1 H1 μ2 H/\dU X.K μ2 H bw σ/\aU X.K μ2 H st2/\cJ X μ2 H E (bY g mb s.2 (s.1.drop i) bw st2)/\i<=s.1.length/\k=s.1.length - i,
  ⟨_,μ1,env,st1,.refl _ _,hE.mono g1,bG,by simpa using aR,mL _,rfl⟩,?_⟩
 rintro i k σ2 H2 ⟨μ2,bw,st2,g2,UL,iJ,dX,hi,rfl⟩;by_cases wk:i<s.1.length
 ·have e1:s.1.drop i=s.1[i]::s.1.drop (i+1):=mQ wk;rw[e1,bY]at dX;by_cases ok:uO s.2 st2
  ·rw[ae7 ok]at dX;obtain⟨q1,q2⟩:=(hJ H2 μ2 st2 g2 iJ ok).1 i s.1[i] (gK wk);refine .inr ⟨q1,fun σ' H'=>∃μ3 yp ie,a_ μ1 H1 μ3 H'/\dU X.K μ3 H' yp σ'/\aU X.K μ3 H' ie/\cJ X μ3 H' E (bY g mb s.2 (s.1.drop (i+1)) yp ie),?_,?_⟩
   ·rintro σ' H' ⟨μ3,yp,ie,g3,hE3,yZ,zV⟩;exact⟨s.1.length - (i+1),by omega,μ3,yp,ie,g3,hE3,yZ,zV,by omega,rfl⟩
   ·intro x H3 hx;obtain⟨g3,yZ,hd⟩:=q2 x H3 hx;refine⟨μ2,bw,st2,s.1[i],UL.mono g3,yZ,hd,(cJ.val (cJ.mono g3 dX)).imp ?_⟩;rintro σ4 H4 ⟨μ4,st4,abQ,g4,hs4,hE4,hp4⟩;refine⟨μ4,abQ,st4,hE4,hs4,?_⟩;exact cJ.loop (nxt:=bY g mb s.2 (s.1.drop (i+1))) hp4 λaee NQ σ' H' μ' g5 hs5 hE5 q=>⟨μ',aee,NQ,((g2.trans g3).trans g4).trans g5,hE5,hs5,q⟩
  ·rw[ae8 ok]at dX;exact dX.elim
 ·have e1:s.1.drop i=[]:=nF 0x0;rw[e1,bY]at dX;have e2:i=s.1.length:=by omega
  by_cases ok:uO s.2 st2
  ·rw[ae7 ok]at dX;refine .inl ⟨by rw[e2];exact (hJ H2 μ2 st2 g2 iJ ok).2,dX.nx iJ UL⟩
  ·rw[ae8 ok]at dX;exact dX.elim
noncomputable def fB(m:ME):MI:=λenv st=>(m env st).bind λd st1=>match d with
 | .loc n=>(match st1[n]? with
  | some (.lst ds)=>.ok (ds,[(n,.lst ds)]) st1
  | some (.frz ds)=>.ok (ds,[(n,.frz ds)]) st1
  | _=>.bad)
 | .tup ds=>.ok (ds,[]) st1
 | _=>.bad
def PI.or(h1:PI X tg l w1)(h2:PI X tg l w2):PI X tg l (fun σ H R=>w1 σ H R\/w2 σ H R):=λpins s σ H R I h=>h.elim (h1 pins s σ H R I) (h2 pins s σ H R I)
def Cy{st:ak}(ho:o=.lst ds\/o=.frz ds)(hp:μ[n]? = some p):oE X μ H (Itl X.K p) (ds,[(n,o)]):=by
 intro H' μ' st' g hs ok;have e:st'[n]? = some o:=(ok (n,o) 0x1);have e2:aA st' n=some ds:=by
  unfold aA;rcases ho with rfl | rfl<;>rw[e]
 obtain⟨p',xs,q1,q2,q3⟩:=hs.items e2;rw[g.get hp]at q1;cases q1;refine⟨λi d hd=>?_,xs,q2,Nat.le_of_eq q3.length.symm⟩;obtain⟨v,h1,h2⟩:=q3.get hd;refine⟨⟨xs,v,q2,h1⟩,?_⟩;rintro x Dn ⟨rfl,hx⟩;have:=hx xs q2;rw[h1]at this;cases this;exact⟨.refl _ _,hs,h2⟩
def RB(hq:oJ X.K H p xs)(hd:ao X.K μ H ds xs):oE X μ H (Itt X.K p) (ds,[]):=by
 intro H' μ' st' g hs ok;have Fz:=g.ext.rF hq;have zf:=hd.mono g ds;refine⟨λi d e=>?_,xs,Fz,Nat.le_of_eq hd.length.symm⟩;obtain⟨v,h1,h2⟩:=zf.get e;refine⟨⟨xs,v,Fz,h1⟩,?_⟩;rintro x Dn ⟨rfl,hx⟩;have:=hx xs Fz;rw[h1]at this;cases this;exact⟨.refl _ _,hs,h2⟩
def Xq(h:JE X l ma):JI X tg l (fB ma):=by
 refine JI.of (PI.or (Qu h) (Wk h)) fun σ H R hh=>?_

 obtain⟨μ,env,st,hE,hs,hp⟩:=hh;unfold fB at hp;cases hr:ma env st with
 | bad=>rw[hr]at hp;exact hp.elim
 | err x st1 =>
  rw[hr]at hp;refine .inl ⟨μ,env,st,hE,hs,?_⟩;rw[hr];exact hp
 | ok d st1 =>
  rw[hr,M.R.aB]at hp;cases d with
  | loc n =>
   simp only at hp;refine .inl ⟨μ,env,st,hE,hs,?_⟩;rw[hr];intro v H1 μ1 g1 bG hv;obtain⟨p,q1,rfl⟩:=aq.aL.mp hv;cases e:st1[n]? with
   | none=>rw[e]at hp;exact hp.elim
   | some mo =>
    cases mo with
    | lst ds =>
     rw[e]at hp;obtain⟨p',xs,r1,r2,r3⟩:=bG.lst e;show 7;exact⟨p,rfl,⟨xs,oA.of r2⟩,hp _ _ _ g1 bG (Cy (st:=st1) (.inl rfl) q1)⟩
    | frz ds =>
     rw[e]at hp;obtain⟨p',r1,xs,r2,r3⟩:=bG.at_ n _ e;show 7;exact⟨p,rfl,⟨xs,r2.sqL⟩,hp _ _ _ g1 bG (Cy (st:=st1) (.inr rfl) q1)⟩
    | _=>rw[e]at hp;exact hp.elim
  | tup ds =>
   refine .inr ⟨μ,env,st,hE,hs,?_⟩;rw[hr];intro v H1 μ1 g1 bG hv;obtain⟨p,xs,rfl,q1,q2⟩:=aq.aQ.mp hv;exact⟨p,rfl,⟨xs,q1.rF⟩,hp _ _ _ g1 bG (RB q1.rF q2)⟩
  | _=>exact hp.elim
noncomputable def qx(lo:Int)(n:Nat):List D:=(List.range n).map λ(k:Nat)=>.int (lo+k)
noncomputable def jW(mA:MA):MI:=λenv st=>(mA env st).bind λds st1=>match ds with
 | [.int j]=>if -(2 ^ 62)<=j/\j<2 ^ 62 then .ok (qx 0 j.toNat,[]) st1 else .bad
 | _=>.bad
def RG(lo:Int)(n:Nat):oE X μ H (Itr lo n) (qx lo n,[]):=by
 intro H' μ' st' g hs ok;refine⟨λi d e=>?_,by show n<=_;simp[qx]⟩;have hi:i<n:=by have:=(gf.mp e).1;simpa[qx] using this
 simp[qx,hi]at e;subst e;refine⟨hi,?_⟩;rintro x Dn ⟨rfl,rfl⟩;exact⟨.refl _ _,hs,aq.aN.mpr rfl⟩
def ao.one(h:ao K μ H [d] vs):∃v,vs=[v]/\aq K μ H d v:=by
 rw[ao]at h;obtain⟨v,r,rfl,q1,q2⟩:=h;rw[ao]at q2;subst q2;exact⟨v,rfl,q1⟩
def ao.two(h:ao K μ H [d1,d2] vs):∃v w,vs=[v,w]/\aq K μ H d1 v/\aq K μ H d2 w:=by
 rw[ao]at h;obtain⟨v,r,rfl,q1,q2⟩:=h;obtain⟨w,rfl,q3⟩:=ao.one q2;exact⟨v,w,rfl,q1,q3⟩
def Fo(ha:JA X [a] mA)(hg:Gl X "range")(hm:X.mg "range" = none)(hs:starEach [a] X.env=[(false,eval a X.env)]:=by rfl):JI X tg (.Call (.Name "range" p) [a] [] pos) (jW mA):=by
 refine JI.of (Eu hg hm ha hs) fun σ H R zz=>?_;show 16
 split at aR
 ·split at aR
  ·rename_i hc;obtain⟨v,rfl,q1⟩:=ao.one hv;rw[aq.aN]at q1;subst q1;exact⟨_,rfl,hc.1,hc.2,aR _ _ _ (.refl _ _) bG (RG 0 _)⟩
  ·exact aR.elim
 ·exact aR.elim
end
noncomputable abbrev FD:=List D->ak->R D
def zH(K:PySem.W.Frag)(μ:List Addr)(H:Hp)(Q:VK)(r:R D):Prop:=match r with
 | .ok d st=>∀(v:V) (H':Hp) (μ':List Addr),a_ μ H μ' H'->aU K μ' H' st->aq K μ' H' d v->Q v H'
 | _=>False
noncomputable def v9(K:PySem.W.Frag)(n:Nat)(fd:FD):Sp:=λvs H Q _=>vs.length=n/\∃μ ds st,ao K μ H ds vs/\aU K μ H st/\zH K μ H Q (fd ds st)
noncomputable def startM(n:Nat)(ds:List D):aK:=ds.map some++List.replicate (n - ds.length) none
noncomputable def bB(n:Nat)(m:MS):FD:=λds st=>(m (startM n ds) st).bind λo st1=>match o with
 | .rt d=>.ok d st1
 | .nx _=>.ok .non st1
 | _=>.bad
def ao.start(N:List Str)(h:ao K μ H ds vs):dU K μ H (startM N.length ds) (L2.start N vs):=by
 unfold startM L2.start;refine⟨by simp[h.length],λi d e=>?_⟩;rw[<-h.length];by_cases hi:i<ds.length
 ·rw[gP (by simpa using hi)]at e;rw[gP (by rw[gj,<-h.length];exact hi)];rw[gO]at e ⊢;cases q:ds[i]? with
  | none=>rw[q]at e;cases e
  | some d' =>
   rw[q]at e;cases e;obtain⟨v,q1,q2⟩:=h.get q;exact⟨v,by rw[q1];rfl,q2⟩
 ·rw[kj (by simpa using hi)]at e;rw[List.getElem?_replicate]at e
  split at e<;>cases e
section
variable  {P:Program}{w:World}{K:PySem.W.Frag}{mg:Str->Option Value}{base:Heap}
def zm(F:Dp K x qual st f fd)(S:dm N ps (aD st)) 
  (lV:∀(cdv:Value) (A:Around) (outer:List Env) (s:Shared) (H:Hp),cT k (A.deeper (PyProof.Rows.envOfC qual (aD st) s.heap.objs.size f cdv)) ->
   zM (vX qP P w K mg base N qual (aD st) f cdv A outer s H E0).JF (bh st) m):cH P w K mg base qP (k+1) f fd ps (v9 K ps.length (bB N.length m)):=by
 refine F.ok S (λvs H Q E h=>h.1) (λcdv A outer s H vs Q E hr h=>?_);obtain⟨hl,μ,ds,Uc,hv,hs,hp⟩:=h;refine⟨_,lV cdv A outer s H hr,μ,startM N.length ds,Uc,ao.start N hv,hs,?_⟩;unfold bB at hp;cases hr:m (startM N.length ds) Uc with
 | bad=>rw[hr]at hp;exact hp.elim
 | err x st1=>rw[hr]at hp;exact hp.elim
 | ok o st1 =>
  rw[hr]at hp;cases o with
  | rt d=>exact hp
  | nx env=>exact fun σ' H' μ' g oN _=>hp .non H' μ' g oN (aq.bJ.mpr rfl)
  | bk env=>exact hp.elim
  | cn env=>exact hp.elim
end
section
variable  {X:Cx}{e:Expr}{es:List Expr}{mA:MA}{pos p:Pos}{x:Str}{k:Nat}{f:Addr}{fd:FuncData}{ps:List Str}{F:FD}{lX:List V}{ds:List Value}{dd:List D}
noncomputable def R.sure{α:Type}(r:R α):R α:=match r with
 | .ok a st=>.ok a st
 | _=>.bad
@[simp] def R.acg(a:α)(st:ak):(R.ok a st).sure=.ok a st:=eY rfl
noncomputable def az(F:FD)(dd:List D)(mA:MA):ME:=λenv st=>(mA env st).bind λas st1=>(F (as++dd) st1).sure
def Rw(G:cH X.prog X.w X.K X.mg X.base qP k f fd ps (v9 X.K ps.length F))(hr:cT k X.A)(hm:X.mg x=some (.ref f))(hk:PySem.W.keepIn X.K (.ref f)=true)(hb:Binds X.K fd ps ds)(hd:Vals lX ds)
  (hdd:∀μ H,ao X.K μ H dd lX) (ha:JA X (e::es) mA) (hlen:(e::es).length+lX.length=ps.length:=by rfl) (hg:Gl X x:=by rfl) (rY:0xc=false:=by decide) (he:starEach (e::es) X.env=0xb::starEach es X.env:=by rfl) (oO:#[10,pos,es].any (·.1)=false:=by rfl)
  (hA:∀env st as st1,mA env st=.ok as st1->as.length=(e::es).length:=by intros;rfl) :
  JE X 0x13 (az F dd mA):=by
 refine JE.of (QH G hr hg hm hk hb hd BL ha rY he oO) fun σ H Q zz=>?_;show 1;refine⟨μ,env,st,hE,hs,?_⟩;cases hr:mA env st with
 | bad=>unfold az at hp;rw[hr]at hp;exact hp
 | err y st1=>unfold az at hp;rw[hr]at hp;exact hp
 | ok as st1 =>
  unfold az at hp;rw[hr]at hp;intro vs H1 μ1 g1 bG hv;have Ar:ao X.K μ1 H1 (as++dd) (vs++lX):=hv.append (hdd μ1 H1);refine⟨?_,μ1,as++dd,st1,Ar,bG,?_⟩
  ·rw[gQ,<-hv.length,hA env st as st1 hr];exact hlen
  ·have dX:=bR.mono g1 (show bR X μ H (lN X) Q (F (as++dd) st1).sure from hp);cases hF:F (as++dd) st1 with
   | ok d st2=>rw[hF]at dX;exact dX
   | err y st2=>rw[hF]at dX;exact dX.elim
   | bad=>rw[hF]at dX;exact dX.elim
end
mutual
def under(n:Nat):D->Prop
 | .loc k=>k<n
 | .tup ds=>b_ n ds
 | _=>True
def b_(n:Nat):List D->Prop
 | []=>True
 | d::ds=>under n d/\b_ n ds
end
@[simp] def Z8(n:Nat):under n .non=True:=by simp[under]
@[simp] def aas(n:Nat)(b:Bool):under n (.bl b)=True:=by simp[under]
@[simp] def Z9(n:Nat)(i:Int):under n (.int i)=True:=by simp[under]
@[simp] def Z7(n:Nat)(c:List Nat):under n (.str c)=True:=by simp[under]
@[simp] def zqe(n:Nat)(ds:List D):under n (.tup ds)=b_ n ds:=by simp[under]
@[simp] def zo9(n k:Nat):under n (.loc k)=(k<n):=by simp[under]
@[simp] def VD(n:Nat):b_ n []=True:=by simp[b_]
@[simp] def zjn(n:Nat)(d:D)(ds:List D):b_ n (d::ds)=(under n d/\b_ n ds):=by simp[b_]
def qy(n:Nat):MO->Prop
 | .lst ds=>b_ n ds
 | .frz ds=>b_ n ds
 | .dic kvs=>∀p∈kvs,under n p.2
 | .dkc kvs=>∀p∈kvs,under n p.2
 | .dkf kvs=>∀p∈kvs,under n p.2
 | .dtf kvs=>∀p∈kvs,under n p.2
 | .exc _ d=>under n d
 | .ins _ fs=>∀p∈fs,under n p.2
 | .tab _=>True
 | .clo _ _ ds=>b_ n ds
 | .hid=>True
mutual
theorem aq.under:∀(d:D) {v:V},aq K μ H d v->M.under μ.length d
 | .non,_,_=>by simp
 | .bl _,_,_=>by simp
 | .int _,_,_=>by simp
 | .str _,_,_=>by simp
 | .tup ds,_,h=>by
  obtain⟨a,xs,_,_,h2⟩:=aq.aQ.mp h;rw[zqe];exact ao.b_ ds h2
 | .loc n,_,h=>by
  obtain⟨a,h1,_⟩:=aq.aL.mp h;rw[zo9];exact (gf.mp h1).1
theorem ao.b_:∀(ds:List D) {vs:List V},ao K μ H ds vs->M.b_ μ.length ds
 | [],_,_=>by simp
 | d::ds,_,h=>by
  rw[ao]at h;obtain⟨v,r,_,h1,h2⟩:=h;rw[zjn];exact⟨aq.under d h1,ao.b_ ds h2⟩
end
mutual
theorem aq.down:∀(d:D) {v:V},aq K (μ++ν) H d v->M.under μ.length d->aq K μ H d v
 | .non,_,h,_=>by simpa[aq] using h
 | .bl _,_,h,_=>by simpa[aq] using h
 | .int _,_,h,_=>by simpa[aq] using h
 | .str _,_,h,_=>by simpa[aq] using h
 | .tup ds,_,h,u=>by
  obtain⟨a,xs,e,h1,h2⟩:=aq.aQ.mp h;rw[zqe]at u;exact aq.aQ.mpr ⟨a,xs,e,h1,ao.down ds h2 u⟩
 | .loc n,_,h,u=>by
  obtain⟨a,h1,e⟩:=aq.aL.mp h;rw[zo9]at u;rw[gP u]at h1;exact aq.aL.mpr ⟨a,h1,e⟩
theorem ao.down:∀(ds:List D) {vs:List V},ao K (μ++ν) H ds vs->M.b_ μ.length ds->ao K μ H ds vs
 | [],_,h,_=>by simpa[ao] using h
 | d::ds,_,h,u=>by
  rw[ao]at h ⊢;obtain⟨v,r,e,h1,h2⟩:=h;rw[zjn]at u;exact⟨v,r,e,aq.down d h1 u.1,ao.down ds h2 u.2⟩
end
theorem aH.under:∀{ds:List (κ×D)} {vs:List (κ×V)},aH K μ H ds vs->∀p∈ds,M.under μ.length p.2
 | [],_,_,_,hp=>nomatch hp
 | (k,d)::ds,_,⟨v,r,e,h1,h2⟩,p,hp=>by
  rcases gm.mp hp with rfl | hp
  ·exact aq.under d h1
  ·exact aH.under h2 p hp
theorem aH.down:∀{ds:List (κ×D)} {vs:List (κ×V)},aH K (μ++ν) H ds vs->(∀p∈ds,M.under μ.length p.2)->aH K μ H ds vs
 | [],_,h,_=>h
 | (k,d)::ds,_,⟨v,r,e,h1,h2⟩,u=>⟨v,r,e,aq.down d h1 (u (k,d) 0x1),aH.down h2 λp hp=>u p (kW _ hp)⟩
def fZ.under(h:fZ K μ H a o):qy μ.length o:=by
 cases o with
 | lst ds=>obtain⟨xs,_,h2⟩:=h;exact ao.b_ ds h2
 | frz ds=>obtain⟨xs,_,h2⟩:=h;exact ao.b_ ds h2
 | dic ds=>obtain⟨xs,_,h2⟩:=h;exact h2.under
 | dkc ds=>obtain⟨xs,_,h2⟩:=h;exact h2.under
 | dkf ds=>obtain⟨xs,_,_,h2⟩:=h;exact h2.under
 | dtf ds=>obtain⟨xs,_,_,h2⟩:=h;exact h2.under
 | exc c d=>obtain⟨_,_,_,_,_,_,_,_,_,_,_,_,h7⟩:=h;exact aq.under d h7
 | ins c ds=>obtain⟨_,_,xs,_,_,h2⟩:=h;exact h2.under
 | tab x=>trivial
 | clo j l ds=>obtain⟨_,_,_,_,xs,_,_,_,_,_,h2⟩:=h;exact ao.b_ ds h2
 | hid=>trivial
def fZ.down(h:fZ K (μ++ν) H a o)(u:qy μ.length o):fZ K μ H a o:=by
 cases o with
 | lst ds=>obtain⟨xs,h1,h2⟩:=h;exact⟨xs,h1,ao.down ds h2 u⟩
 | frz ds=>obtain⟨xs,h1,h2⟩:=h;exact⟨xs,h1,ao.down ds h2 u⟩
 | dic ds=>obtain⟨xs,h1,h2⟩:=h;exact⟨xs,h1,h2.down u⟩
 | dkc ds=>obtain⟨xs,h1,h2⟩:=h;exact⟨xs,h1,h2.down u⟩
 | dkf ds=>obtain⟨xs,o,h1,h2⟩:=h;exact⟨xs,o,h1,h2.down u⟩
 | dtf ds=>obtain⟨xs,o,h1,h2⟩:=h;exact⟨xs,o,h1,h2.down u⟩
 | exc c d=>obtain⟨oe,C,dx,od,v,fs,h1,h2,h3,h4,h5,h6,h7⟩:=h;exact⟨oe,C,dx,od,v,fs,h1,h2,h3,h4,h5,h6,aq.down d h7 u⟩
 | ins c ds=>obtain⟨C,dx,xs,h0,h1,h2⟩:=h;exact⟨C,dx,xs,h0,h1,h2.down u⟩
 | tab x=>exact h
 | clo j l ds=>obtain⟨cl,pm,c',sG,vs,h1,h2,h3,h4,h5,h6⟩:=h;exact⟨cl,pm,c',sG,vs,h1,h2,h3,h4,h5,ao.down ds h6 u⟩
 | hid=>trivial
def fZ.up(ν:List Addr)(h:fZ K μ H a o):fZ K (μ++ν) H a o:=h.keep ⟨⟨ν,rfl⟩,.refl H⟩ λ_ _ q=>q
def zi5{α:Type}{l l':List α}(h:l'.take l.length=l){n:Nat}{o:α}(e:l[n]? = some o):l'[n]? = some o:=by
 have hl:=(gf.mp e).1;rw[<-h,pR]at e;rw[ae7 hl]at e;exact e
def aU.back{K:PySem.W.Frag}{μ ν:List Addr}{H H':Hp}{st st':ak}(h0:aU K μ H st)(h:aU K (μ++ν) H' st')(ht:st'.take st.length=st):aU K μ H' st:=by
 refine⟨h0.len,λn o e=>?_,λi j a oi oj ei ej mi mj hi hj=>?_⟩
 ·obtain⟨a,h1,h2⟩:=h.at_ n o (zi5 ht e);obtain⟨a0,h3,h4⟩:=h0.at_ n o e;have hn:n<μ.length:=by rw[h0.len];exact (gf.mp e).1
  rw[gP hn]at h1;exact⟨a,h1,h2.down h4.under⟩
 ·have up:∀k,μ[k]? = some a->(μ++ν)[k]? = some a:=λk hk=>by rw[gP (gf.mp hk).1];exact hk
  exact h.uniq i j a oi oj (zi5 ht ei) (zi5 ht ej) mi mj (up i hi) (up j hj)
def aU.ab6{K:PySem.W.Frag}{μ ν:List Addr}{H H':Hp}{st st':ak}{k:Nat}{o:MO}{a:Addr}(h0:aU K μ H st)(h:aU K (μ++ν) H' st')(ht:st'.take st.length=st)(hk:st.length<=k)(e:st'[k]? = some o)(u:qy st.length o)(ha:(μ++ν)[k]? = some a) :
  aU K (μ++[a]) H' (st++[o]):=by
 have hb:=h0.back h ht;obtain⟨a',q1,q2⟩:=h.at_ k o e;rw[ha]at q1;cases q1;have key:∀(n:Nat) (on:MO) (c:Addr),(st++[o])[n]? = some on->(μ++[a])[n]? = some c->(n<st.length/\st[n]? = some on/\μ[n]? = some c)\/(n=st.length/\on=o/\c=a):=λn on c e1 e2=>by
  by_cases hn:n<st.length
  ·rw[gP hn]at e1;rw[gP (by rw[h0.len];exact hn)]at e2;exact .inl ⟨hn,e1,e2⟩
  ·have hl:=(gf.mp e1).1;rw[gQ,nu]at hl;have en:n=st.length:=by omega
   subst en;rw[kj (gb _)]at e1;rw[<-h0.len,kj (gb _)]at e2;simp at e1 e2;exact .inr ⟨rfl,e1.symm,e2.symm⟩
 refine⟨by simp[h0.len],λn on e1=>?_,λi j c oi oj ei ej mi mj hi hj=>?_⟩
 ·have hn:n<(μ++[a]).length:=by
   have:=(gf.mp e1).1;simpa[h0.len] using this
  obtain⟨c,hc⟩:∃c,(μ++[a])[n]? = some c:=⟨_,gK hn⟩;rcases key n on c e1 hc with⟨h1,h2,h3⟩ | ⟨h1,rfl,rfl⟩
  ·obtain⟨c',h4,h5⟩:=hb.at_ n on h2;rw[h3]at h4;cases h4;exact⟨c,hc,h5.up _⟩
  ·exact⟨c,hc,(q2.down (by rw[h0.len];exact u)).up _⟩
 ·have up:∀k,μ[k]? = some c->(μ++ν)[k]? = some c:=λk hk=>by rw[gP (gf.mp hk).1];exact hk
  rcases key i oi c ei hi with⟨h1,h2,h3⟩ | ⟨h1,rfl,rfl⟩
  ·rcases key j oj c ej hj with⟨g1,g2,g3⟩ | ⟨g1,rfl,rfl⟩
   ·exact hb.uniq i j c oi oj h2 g2 mi mj h3 g3
   ·have:=h.uniq i k c oi oj (zi5 ht h2) e mi mj (up i h3) ha;omega
  ·rcases key j oj c ej hj with⟨g1,g2,g3⟩ | ⟨g1,_,_⟩
   ·have:=h.uniq j k c oj oi (zi5 ht g2) e mj mi (up j g3) ha;omega
   ·rw[h1,g1]
open Classical in
noncomputable def gc(st:ak)(r:R D):R D:=match r with
 | .ok d st'=>if st'.take st.length=st/\under st.length d then .ok d st else (match d with
  | .loc k=>(match st'[k]? with
   | some o=>if st'.take st.length=st/\st.length<=k/\qy st.length o then .ok 0x3 (st++[o]) else .ok d st'
   | none=>.ok d st')
  | d=>.ok d st')
 | r=>r
noncomputable def bC(F:FD):FD:=λds st=>gc st (F ds st)
def zs0(hs:aU K μ H st)(h:zH K μ H Q (gc st r)):zH K μ H Q r:=by
 cases r with
 | bad=>exact h
 | err x st'=>exact h
 | ok d st' =>
  unfold gc at h;dsimp only at h;by_cases c1:st'.take st.length=st/\under st.length d
  ·rw[ae7 c1]at h;intro v H' μ' g oN hv;obtain⟨ν,rfl⟩:=g.pre;exact h v H' μ ⟨⟨[],by simp⟩,g.ext⟩ (hs.back oN c1.1) (aq.down d hv (by rw[hs.len];exact c1.2))
  ·rw[ae8 c1]at h;cases d with
   | loc k =>
    dsimp only at h;cases e:st'[k]? with
    | none=>rw[e]at h;exact h
    | some o =>
     rw[e]at h;dsimp only at h;by_cases c2:st'.take st.length=st/\st.length<=k/\qy st.length o
     ·rw[ae7 c2]at h;intro v H' μ' g oN hv;obtain⟨ν,rfl⟩:=g.pre;obtain⟨a,h1,rfl⟩:=aq.aL.mp hv;refine h _ H' (μ++[a]) ⟨⟨[a],rfl⟩,g.ext⟩ (hs.ab6 oN c2.1 c2.2.1 e c2.2.2 h1) (aq.aL.mpr ⟨a,?_,rfl⟩);rw[<-hs.len];simp
     ·rw[ae8 c2]at h;exact h
   | _=>exact h
def ud(h:v9 K n (bC F) vs H Q E):v9 K n F vs H Q E:=by
 obtain⟨hl,μ,ds,st,h1,h2,h3⟩:=h;exact⟨hl,μ,ds,st,h1,h2,zs0 h2 h3⟩
def qU(h:under st.length d):gc st (.ok d (st++g))=.ok d st:=by
 unfold gc;dsimp only;rw[ae7 ⟨by simp,h⟩]
def ztl(h:qy st.length o):gc st (.ok (.loc (st.length+g.length)) (st++g++o::g'))=.ok 0x3 (st++[o]):=by
 unfold gc;dsimp only;rw[ae8 0x1];have e:(st++g++o::g')[st.length+g.length]? = some o:=by
  rw[kj 0x1];simp
 rw[e];dsimp only;rw[ae7 ⟨by simp,by omega,h⟩]
section
variable  {X:Cx}{e a b c:Expr}{es:List Expr}{ma mb mc:ME}{mA:MA}{pos p2 p:Pos}
noncomputable def wU:List D->ak->R D
 | [.str cs],st=>if cs.length<=1000000 then .ok (.int cs.length) st else .bad
 | [.tup ds],st=>.ok (.int ds.length) st
 | [.loc n],st=>match aA st n with | some ds=>.ok (.int ds.length) st | none=>.bad
 | _,_=>.bad
def zor:cL X (.builtin "len") (NT X wU):=by
 refine cL.weak (cL.or znt zod) ?_;rintro xs H Q ⟨μ,st,ds,hs,hv,hp⟩;unfold wU at hp
 split at hp
 ·rename_i cs
  split at hp
  ·rename_i hl;obtain⟨v,rfl,q⟩:=ao.one hv;rw[aq.aP]at q;subst q;exact .inl ⟨_,rfl,by rw[zf2];exact yI hl,by rw[zf2];exact hp.ret hs (aq.aN.mpr rfl)⟩
  ·exact hp.elim
 ·obtain⟨v,rfl,q⟩:=ao.one hv;obtain⟨p,ys,rfl,q1,q2⟩:=aq.aQ.mp q;exact .inr ⟨p,ys,rfl,.inr q1.rF,by rw[<-q2.length];exact hp.ret hs (aq.aN.mpr rfl)⟩
 ·rename_i n;cases e:aA st n with
  | none=>rw[e]at hp;exact hp.elim
  | some ds =>
   rw[e]at hp;show 13;obtain⟨p',ys,r1,r2,r3⟩:=hs.items e;show 7;exact .inr ⟨p,ys,rfl,.inl r2,by rw[<-r3.length];exact hp.ret hs (aq.aN.mpr rfl)⟩
 ·exact hp.elim
noncomputable def Fw:List D->ak->R D
 | [.int i],st=>.ok (.int i) st
 | [.bl k],st=>.ok (.int (if k then 1 else 0)) st
 | _,_=>.bad
def Gu:cL X (.type "int") (NT X Fw):=by
 refine cL.weak Gv ?_;rintro xs H Q ⟨μ,st,ds,hs,hv,hp⟩;unfold Fw at hp
 split at hp
 ·obtain⟨v,rfl,q⟩:=ao.one hv;rw[aq.aN]at q;subst q;exact .inl ⟨_,rfl,hp.ret hs (aq.aN.mpr rfl)⟩
 ·obtain⟨v,rfl,q⟩:=ao.one hv;rw[aq.bx]at q;subst q;exact .inr ⟨_,rfl,hp.ret hs (aq.aN.mpr rfl)⟩
 ·exact hp.elim
noncomputable def qi:List D->ak->R D
 | [.tup ds],st=>.ok 0x3 (st++[.lst ds])
 | [.loc n],st=>match aA st n with | some ds=>.ok 0x3 (st++[.lst ds]) | none=>.bad
 | _,_=>.bad
def zr9:cL X (.type "list") (NT X qi):=by
 refine cL.weak zn0 ?_;rintro xs H Q ⟨μ,st,ds,hs,hv,hp⟩;unfold qi at hp
 split at hp
 ·obtain⟨v,rfl,q⟩:=ao.one hv;obtain⟨p,ys,rfl,q1,q2⟩:=aq.aQ.mp q;exact⟨p,ys,rfl,.inr q1.rF,λl hl=>hp.newList hs q2 hl⟩
 ·rename_i n;cases e:aA st n with
  | none=>rw[e]at hp;exact hp.elim
  | some ds =>
   rw[e]at hp;show 13;obtain⟨p',ys,r1,r2,r3⟩:=hs.items e;show 7;exact⟨p,ys,rfl,.inl r2,λl hl=>hp.newList hs r3 hl⟩
 ·exact hp.elim
noncomputable def Z_:D->ak->Option String
 | .non,_=>some "NoneType"
 | .bl _,_=>some "bool"
 | .int _,_=>some "int"
 | .str _,_=>some "str"
 | .tup _,_=>some "tuple"
 | .loc n,st=>match st[n]? with
  | some (.lst _)=>some "list"
  | some (.frz _)=>some "list"
  | some (.dic _)=>some "dict"
  | some (.dkc _)=>some "dict"
  | _=>none
def KY{pins:List 0x6}{σ:L2.St}{μ:List Addr}{H:Hp}{s:Shared}{A:Around}{E:Value->Shared->Prop}{Q:Value->Shared->Prop}{cv:Value}{k:Bool}{d:D}{st:ak}{x:V}{u:Value}{T:String}
  (I:Inv X pins σ H s) (hs:aU X.K μ H st) (hd:aq X.K μ H d x) (rx:RelV x u) (ht:Z_ d st=some T) (e:PySem.W.kitOne X.K (.type T) cv=some k) (h:∀tk,Q (.bool k) { s with toks:=tk }) :
  wpAny 0x7 A (call (.builtin "isinstance") [u,cv]) Q E s:=by
 cases d with
 | non=>rw[aq.bJ]at hd;subst hd;cases ht;exact ZC I rx (.non) e h
 | bl y=>rw[aq.bx]at hd;subst hd;cases ht;exact ZC I rx (.bl y) e h
 | int y=>rw[aq.aN]at hd;subst hd;cases ht;exact ZC I rx (.int y) e h
 | str y=>rw[aq.aP]at hd;subst hd;cases ht;exact ZC I rx (.str _) e h
 | tup ds =>
  obtain⟨a,xs,rfl,q1,q2⟩:=aq.aQ.mp hd;cases ht;obtain⟨its,_,p,_⟩:=I.tuple (q1.rF);obtain⟨o,h1,h2,_⟩:=p;show 25;exact afe PySem.W.kitx_tuple I.qR ⟨o,h1,h2⟩ e (λz=>nomatch z) h
 | loc n =>
  obtain⟨a,q1,rfl⟩:=aq.aL.mp hd;simp only[Z_]at ht;have lst:∀ds,aA st n=some ds->PySem.W.kitOne X.K (.type "list") cv=some k->wpAny 0x7 A (call (.builtin "isinstance") [u,cv]) Q E s:=λds e1 e2=>by
   obtain⟨p',ys,r1,r2,r3⟩:=hs.items e1;show 7;obtain⟨its,_,p,_⟩:=I.list r2;show 25;exact afe PySem.W.kitx_list I.qR p.isList.typeIs e2 (λz=>nomatch z) h
  cases e1:st[n]? with
  | none=>rw[e1]at ht;cases ht
  | some mo =>
   rw[e1]at ht;cases mo with
   | lst ds=>cases ht;exact lst ds (by unfold aA;rw[e1]) e
   | frz ds=>cases ht;exact lst ds (by unfold aA;rw[e1]) e
   | dic kvs =>
    cases ht;obtain⟨p',r1,ws,r2,_⟩:=hs.at_ n _ e1;show 7;exact ZC I rx (.dT r2) e h
   | dkc kvs =>
    cases ht;obtain⟨p',r1,ws,r2,_⟩:=hs.at_ n _ e1;show 7;exact ZC I rx (.dK r2) e h
   | _=>cases ht
noncomputable def lq(t T:String):Bool:=t==T || (t == "bool" && T == "int")
noncomputable def yj(T:String):D->ak->R D:=λd st=>match Z_ d st with | some t=>.ok (.bl (lq t T)) st | none=>.bad
noncomputable def Hx:List String:=["NoneType","bool","int","str","tuple","list","dict"]
def O6{d:D}{st:ak}{t:String}(h:Z_ d st=some t):t∈Hx:=by
 cases d with
 | loc n =>
  simp only[Z_]at h
  split at h<;>cases h<;>decide
 | _=>cases h;decide
def rIs(X:Cx)(T:String):List V->Hp->VK->Prop:=λxs H Q=>∃μ st d x,xs=[x,.ty T]/\aU X.K μ H st/\aq X.K μ H d x/\bR X μ H (lN X) Q (yj T d st)
def MF{T:String}(hT:∀t∈Hx,PySem.W.kitOne X.K (.type t) (.type T)=some (lq t T)):cL X (.builtin "isinstance") (rIs X T):=by
 rintro pins s σ H xs us Q I hr ⟨μ,st,d,x,rfl,hs,hd,hp⟩;obtain⟨u,w',rfl,r1,r2⟩:=vals2 hr;cases (show w'=Value.type T from r2);unfold yj at hp;cases e:Z_ d st with
 | none=>rw[e]at hp;exact hp.elim
 | some t =>
  rw[e]at hp;exact KY I hs hd r1 e (hT t (O6 e)) λtk=>⟨.bl (lq t T),H,I.tok tk,rfl,hp.ret hs (aq.bx.mpr rfl)⟩
def Rc{K:PySem.W.Frag}:∀t∈Hx,PySem.W.kitOne K (.type t) (.type "str")=some (lq t "str"):=by
 intro t ht;simp only[Hx,gm,km,afv]at ht;rcases ht with rfl | rfl | rfl | rfl | rfl | rfl | rfl<;>rfl
def XH{T:String}{xT:Str}(hT:∀t∈Hx,PySem.W.kitOne X.K (.type t) (.type T)=some (lq t T))(h:JE X e ma)(hg:Gl X "isinstance")(hm:X.mg "isinstance" = none)(hgT:Gl X xT)(hmT:X.mg xT=none)
  (hv:bootBuiltins xT=some (.type T)) (hb:bootBuiltins "isinstance" = some (.builtin "isinstance")) (hnT:xT ≠ "__name__":=by decide) (hdT:(xT==("__debug__":Str))=false:=by decide)
  (bG:starEach [e,.Name xT p2] X.env=[0xb,(false,eval (.Name xT p2) X.env)]:=by rfl) (iJ:starEach [.Name xT p2] X.env=[(false,eval (.Name xT p2) X.env)]:=by rfl) (oO:#[10,pos,[.Name xT p2]].any (·.1)=false:=by rfl) :
  JE X (.Call (.Name "isinstance" p) [e,.Name xT p2] [] pos) (zT (yj T) ma):=by
 refine JE.of (ztc (MF hT) hg hm hb (zmo h (zmo (QJ (v:=.ty T) hgT hmT hv rfl hnT hdT) Ag iJ) bG) 0x5 0x5 bG oO) fun σ H Q zz=>?_;show 1;show 3;show 4;exact⟨μ1,st1,d,x,rfl,bG,hx,aR⟩
end
end M
namespace M
open PySem PySem.Spec PySem.SeqAt L2
mutual
noncomputable def jm:D->D->Bool
 | .non,.non=>true
 | .bl a,.bl b=>a==b
 | .bl a,.int b=>(if a then 1 else 0)==b
 | .int a,.bl b=>a==(if b then 1 else 0)
 | .int a,.int b=>a==b
 | .str a,.str b=>a==b
 | .tup a,.tup b=>j6 a b
 | _,_=>false
noncomputable def j6:List D->List D->Bool
 | [],[]=>true
 | a::as,b::bs=>jm a b && j6 as bs
 | _,_=>false
end
mutual
noncomputable def flat:D->Bool
 | .loc _=>false
 | .tup ds=>dF ds
 | _=>true
noncomputable def dF:List D->Bool
 | []=>true
 | d::ds=>flat d && dF ds
end
mutual
noncomputable def dep:D->Nat
 | .tup ds=>deps ds+1
 | _=>0
noncomputable def deps:List D->Nat
 | []=>0
 | d::ds=>max (dep d) (deps ds)
end
mutual
noncomputable def dJ:D->D->Nat
 | .tup a,.tup b=>iV a b+1
 | _,_=>0
noncomputable def iV:List D->List D->Nat
 | a::as,b::bs=>max (dJ a b) (iV as bs)
 | _,_=>0
end
@[simp] def zsx(a b:List D):dJ (.tup a) (.tup b)=iV a b+1:=by simp[dJ]
@[simp] def abZ(d:D):dJ .non d=0:=by simp[dJ]
@[simp] def acA(b:Bool)(d:D):dJ (.bl b) d=0:=by simp[dJ]
@[simp] def Mw(b:Int)(d:D):dJ (.int b) d=0:=by simp[dJ]
@[simp] def Mv(b:List Nat)(d:D):dJ (.str b) d=0:=by simp[dJ]
@[simp] def ab0(b:Nat)(d:D):dJ (.loc b) d=0:=by simp[dJ]
@[simp] def aap(d:D):dJ d .non=0:=by cases d<;>simp[dJ]
@[simp] def ab1(b:Bool)(d:D):dJ d (.bl b)=0:=by cases d<;>simp[dJ]
@[simp] def aaq(b:Int)(d:D):dJ d (.int b)=0:=by cases d<;>simp[dJ]
@[simp] def aao(b:List Nat)(d:D):dJ d (.str b)=0:=by cases d<;>simp[dJ]
@[simp] def aan(bs:List D):iV [] bs=0:=by simp[iV]
@[simp] def Y4(as:List D):iV as []=0:=by cases as<;>simp[iV]
@[simp] def zlq(a b:D)(as bs:List D):iV (a::as) (b::bs)=max (dJ a b) (iV as bs):=by simp[iV]
@[simp] def abP:flat .non=true:=by simp[flat]
@[simp] def acw(b:Bool):flat (.bl b)=true:=by simp[flat]
@[simp] def Ls(b:Int):flat (.int b)=true:=by simp[flat]
@[simp] def Lr(b:List Nat):flat (.str b)=true:=by simp[flat]
@[simp] def Lq(b:List D):flat (.tup b)=dF b:=by simp[flat]
@[simp] def aam:dF []=true:=by simp[dF]
@[simp] def zgj(d:D)(ds:List D):dF (d::ds)=(flat d && dF ds):=by simp[dF]
@[simp] def acy:dep .non=0:=by simp[dep]
@[simp] def ael(b:Bool):dep (.bl b)=0:=by simp[dep]
@[simp] def acz(b:Int):dep (.int b)=0:=by simp[dep]
@[simp] def acx(b:List Nat):dep (.str b)=0:=by simp[dep]
@[simp] def Sh(b:List D):dep (.tup b)=deps b+1:=by simp[dep]
@[simp] def abT:deps []=0:=by simp[deps]
@[simp] def Gh(d:D)(ds:List D):deps (d::ds)=max (dep d) (deps ds):=by simp[deps]
mutual
theorem zr3:∀(a b:D),dJ a b<=dep a
 | .tup a,.tup b=>by rw[zsx,Sh];exact Nat.succ_le_succ (ztr a b)
 | .tup a,.non=>by simp
 | .tup a,.bl _=>by simp
 | .tup a,.int _=>by simp
 | .tup a,.str _=>by simp
 | .tup a,.loc _=>by simp[dJ]
 | .non,_=>by simp
 | .bl _,_=>by simp
 | .int _,_=>by simp
 | .str _,_=>by simp
 | .loc _,_=>by simp
theorem ztr:∀(a b:List D),iV a b<=deps a
 | [],b=>by simp
 | a::as,[]=>by simp
 | a::as,b::bs=>by
  rw[zlq,Gh];have h1:=zr3 a b;have h2:=ztr as bs;omega
end
noncomputable def eqJ(as bs:List D)(j:Nat):Bool:=match as[j]?,bs[j]? with | some a,some b=>jm a b | _,_=>true
theorem zkr:∀(as bs:List D),j6 as bs=((List.range (min as.length bs.length)).all (eqJ as bs) && as.length==bs.length)
 | [],[]=>by simp[j6]
 | [],b::bs=>by simp[j6]
 | a::as,[]=>by simp[j6]
 | a::as,b::bs=>by
  rw[j6,zkr as bs];have e1:min (a::as).length (b::bs).length=min as.length bs.length+1:=by simp
  rw[e1,List.range_succ_eq_map,List.all_cons,List.all_map];have e2:((a::as).length==(b::bs).length)=(as.length==bs.length):=by
   rw[mD];simp
  rw[e2];have e3:eqJ (a::as) (b::bs) 0=jm a b:=rfl;rw[e3,Bool.and_assoc]
  rfl
mutual
theorem zoe:∀(d:D),flat d=true->jm d d=true
 | .non,_=>by simp[jm]
 | .bl _,_=>by simp[jm]
 | .int _,_=>by simp[jm]
 | .str _,_=>by simp[jm]
 | .tup ds,h=>by rw[jm];exact zo4 ds (by simpa using h)
 | .loc _,h=>by simp[flat]at h
theorem zo4:∀(ds:List D),dF ds=true->j6 ds ds=true
 | [],_=>by simp[j6]
 | d::ds,h=>by
  rw[zgj,gM]at h;rw[j6,zoe d h.1,zo4 ds h.2];rfl
end
section
variable  {X:Cx}{pins:List 0x6}{σ:L2.St}{μ:List Addr}{H:Hp}{s:Shared}
mutual
theorem znh(I:Inv X pins σ H s):∀(d1 d2:D) {v:V},flat d1=true->flat d2=true->aq X.K μ H d1 v->aq X.K μ H d2 v->d1=d2
 | .non,d2,_,_,f2,h1,h2=>by
  rw[aq.bJ]at h1;subst h1;cases d2 with
  | non=>rfl
  | bl _=>rw[aq.bx]at h2;cases h2
  | int _=>rw[aq.aN]at h2;cases h2
  | str _=>rw[aq.aP]at h2;cases h2
  | tup _=>obtain⟨_,_,q,_⟩:=aq.aQ.mp h2;cases q
  | loc _=>simp[flat]at f2
 | .bl b,d2,_,_,f2,h1,h2=>by
  rw[aq.bx]at h1;subst h1;cases d2 with
  | bl _=>rw[aq.bx]at h2;cases h2;rfl
  | non=>rw[aq.bJ]at h2;cases h2
  | int _=>rw[aq.aN]at h2;cases h2
  | str _=>rw[aq.aP]at h2;cases h2
  | tup _=>obtain⟨_,_,q,_⟩:=aq.aQ.mp h2;cases q
  | loc _=>simp[flat]at f2
 | .int b,d2,_,_,f2,h1,h2=>by
  rw[aq.aN]at h1;subst h1;cases d2 with
  | int _=>rw[aq.aN]at h2;cases h2;rfl
  | non=>rw[aq.bJ]at h2;cases h2
  | bl _=>rw[aq.bx]at h2;cases h2
  | str _=>rw[aq.aP]at h2;cases h2
  | tup _=>obtain⟨_,_,q,_⟩:=aq.aQ.mp h2;cases q
  | loc _=>simp[flat]at f2
 | .str b,d2,_,_,f2,h1,h2=>by
  rw[aq.aP]at h1;subst h1;cases d2 with
  | str _=>rw[aq.aP]at h2;injection h2 with h3;rw[zpj.mp h3]
  | non=>rw[aq.bJ]at h2;cases h2
  | bl _=>rw[aq.bx]at h2;cases h2
  | int _=>rw[aq.aN]at h2;cases h2
  | tup _=>obtain⟨_,_,q,_⟩:=aq.aQ.mp h2;cases q
  | loc _=>simp[flat]at f2
 | .tup as,d2,_,f1,f2,h1,h2=>by
  obtain⟨a,xs,rfl,q1,q2⟩:=aq.aQ.mp h1;cases d2 with
  | tup bs =>
   obtain⟨b,ys,e,r1,r2⟩:=aq.aQ.mp h2;cases e;rw[I.tD (r1.rF) (q1.rF)]at r2;rw[zpb I as bs (by simpa using f1) (by simpa using f2) q2 r2]
  | non=>rw[aq.bJ]at h2;cases h2
  | bl _=>rw[aq.bx]at h2;cases h2
  | int _=>rw[aq.aN]at h2;cases h2
  | str _=>rw[aq.aP]at h2;cases h2
  | loc _=>simp[flat]at f2
 | .loc _,_,_,f1,_,_,_=>by simp[flat]at f1
theorem zpb(I:Inv X pins σ H s):∀(as bs:List D) {vs:List V},dF as=true->dF bs=true->ao X.K μ H as vs->ao X.K μ H bs vs->as=bs
 | [],bs,_,_,_,h1,h2=>by
  rw[ao]at h1;subst h1;cases bs with
  | nil=>rfl
  | cons _ _=>rw[ao]at h2;obtain⟨_,_,q,_⟩:=h2;cases q
 | a::as,bs,_,f1,f2,h1,h2=>by
  rw[ao]at h1;obtain⟨v,r,rfl,q1,q2⟩:=h1;cases bs with
  | nil=>rw[ao]at h2;cases h2
  | cons b bs =>
   rw[ao]at h2;obtain⟨v',r',e,r1,r2⟩:=h2;cases e;rw[zgj,gM]at f1 f2;rw[znh I a b f1.1 f2.1 q1 r1,zpb I as bs f1.2 f2.2 q2 r2]
end
mutual
theorem Lz(I:Inv X pins σ H s):∀(d1 d2:D) {A:Around} {x y:V} {u w:Value},flat d1=true->flat d2=true->A.units+dJ d1 d2<cLine->aq X.K μ H d1 x->aq X.K μ H d2 y->RelV x u->RelV y w ->
  EqAt A s u w (jm d1 d2)/\RcAt A s u w (jm d1 d2)/\RcNeAt A s u w (!jm d1 d2)
 | d1,d2,A,x,y,u,w,f1,f2,hu,h1,h2,r1,r2=>by
  cases d1 with
  | loc _=>simp[flat]at f1
  | non =>
   rw[aq.bJ]at h1;subst h1;cases (show u=Value.none from r1);cases d2 with
   | loc _=>simp[flat]at f2
   | non=>rw[aq.bJ]at h2;subst h2;cases (show w=Value.none from r2);exact⟨EqAt.same _,RcAt.none_none,RcNeAt.none_none⟩
   | bl b=>rw[aq.bx]at h2;subst h2;cases (show w=Value.bool b from r2);exact⟨EqAt.none_bool b,RcAt.none_bool b,RcNeAt.none_bool b⟩
   | int b=>rw[aq.aN]at h2;show 22;exact⟨EqAt.none_int b t,RcAt.none_int b t,RcNeAt.none_int b t⟩
   | str b=>rw[aq.aP]at h2;show 22;exact⟨EqAt.none_str _ t,RcAt.none_str _ t,RcNeAt.none_str _ t⟩
   | tup bs =>
    show 12;exact⟨EqAt.none_tuple p 0x0,RcAt.none_tuple p 0x0,RcNeAt.none_tuple p 0x0⟩
  | bl a =>
   rw[aq.bx]at h1;subst h1;cases (show u=Value.bool a from r1);cases d2 with
   | loc _=>simp[flat]at f2
   | non=>rw[aq.bJ]at h2;subst h2;cases (show w=Value.none from r2);exact⟨EqAt.bool_none a,RcAt.bool_none a,RcNeAt.bool_none a⟩
   | bl b=>rw[aq.bx]at h2;subst h2;cases (show w=Value.bool b from r2);simp only[jm];exact⟨EqAt.bool_bool a b,RcAt.bool_bool a b,RcNeAt.bool_bool a b⟩
   | int b=>rw[aq.aN]at h2;show 22;simp only[jm];exact⟨EqAt.bool_int a b t,RcAt.bool_int a b t,RcNeAt.bool_int a b t⟩
   | str b=>rw[aq.aP]at h2;show 22;exact⟨EqAt.bool_str a _ t,RcAt.bool_str a _ t,RcNeAt.bool_str a _ t⟩
   | tup bs =>
    show 12;exact⟨EqAt.bool_tuple a p 0x0,RcAt.bool_tuple a p 0x0,RcNeAt.bool_tuple a p 0x0⟩
  | int a =>
   rw[aq.aN]at h1;subst h1;obtain⟨ta,rfl⟩:=r1;cases d2 with
   | loc _=>simp[flat]at f2
   | non=>rw[aq.bJ]at h2;subst h2;cases (show w=Value.none from r2);exact⟨EqAt.int_none a ta,RcAt.int_none a ta,RcNeAt.int_none a ta⟩
   | bl b=>rw[aq.bx]at h2;subst h2;cases (show w=Value.bool b from r2);simp only[jm];exact⟨EqAt.int_bool a ta b,RcAt.int_bool a ta b,RcNeAt.int_bool a ta b⟩
   | int b=>rw[aq.aN]at h2;show 22;simp only[jm];exact⟨EqAt.int_int a ta b t,RcAt.int_int a ta b t,RcNeAt.int_int a ta b t⟩
   | str b=>rw[aq.aP]at h2;show 22;exact⟨EqAt.int_str a ta _ t,RcAt.int_str a ta _ t,RcNeAt.int_str a ta _ t⟩
   | tup bs =>
    show 12;exact⟨EqAt.int_tuple a ta p 0x0,RcAt.int_tuple a ta p 0x0,RcNeAt.int_tuple a ta p 0x0⟩
  | str a =>
   rw[aq.aP]at h1;subst h1;obtain⟨ta,rfl⟩:=r1;cases d2 with
   | loc _=>simp[flat]at f2
   | non=>rw[aq.bJ]at h2;subst h2;cases (show w=Value.none from r2);exact⟨EqAt.str_none _ ta,RcAt.str_none _ ta,RcNeAt.str_none _ ta⟩
   | bl b=>rw[aq.bx]at h2;subst h2;cases (show w=Value.bool b from r2);exact⟨EqAt.str_bool _ ta b,RcAt.str_bool _ ta b,RcNeAt.str_bool _ ta b⟩
   | int b=>rw[aq.aN]at h2;show 22;exact⟨EqAt.str_int _ ta b t,RcAt.str_int _ ta b t,RcNeAt.str_int _ ta b t⟩
   | str b =>
    rw[aq.aP]at h2;show 22;have e:(strOf a==strOf b)=jm (.str a) (.str b):=by
     rw[jm,mD,beq_iff_eq,beq_iff_eq];exact zpj
    rw[<-e];exact⟨EqAt.str_str _ ta _ t,RcAt.str_str _ ta _ t,RcNeAt.str_str _ ta _ t⟩
   | tup bs =>
    show 12;exact⟨EqAt.str_tuple _ ta p 0x0,RcAt.str_tuple _ ta p 0x0,RcNeAt.str_tuple _ ta p 0x0⟩
  | tup as =>
   have h1':=h1;have h2':=h2;obtain⟨a,xs,rfl,q1,q2⟩:=aq.aQ.mp h1;cases (show u=Value.ref a from r1);obtain⟨its,ra,p,_⟩:=I.tuple (q1.rF);cases d2 with
   | loc _=>simp[flat]at f2
   | non=>rw[aq.bJ]at h2;subst h2;cases (show w=Value.none from r2);exact⟨EqAt.tuple_none p 0x0,RcAt.tuple_none p 0x0,RcNeAt.tuple_none p 0x0⟩
   | bl b=>rw[aq.bx]at h2;subst h2;cases (show w=Value.bool b from r2);exact⟨EqAt.tuple_bool b p 0x0,RcAt.tuple_bool b p 0x0,RcNeAt.tuple_bool b p 0x0⟩
   | int b=>rw[aq.aN]at h2;show 22;exact⟨EqAt.tuple_int b t p 0x0,RcAt.tuple_int b t p 0x0,RcNeAt.tuple_int b t p 0x0⟩
   | str b=>rw[aq.aP]at h2;show 22;exact⟨EqAt.tuple_str _ t p 0x0,RcAt.tuple_str _ t p 0x0,RcNeAt.tuple_str _ t p 0x0⟩
   | tup bs =>
    obtain⟨b,ys,rfl,g1,g2⟩:=aq.aQ.mp h2;cases (show w=Value.ref b from r2);obtain⟨rR,rb,p2,_⟩:=I.tuple (g1.rF);rw[zsx]at hu;rw[Lq]at f1 f2;have items:=Az I as bs (A:=A.in1) f1 f2 (by show A.units+1+iV as bs<cLine;omega) q2 g2 ra rb;have la:as.length=its.toArray.size:=by rw[gG,q2.length,ra.length]
    have lb:bs.length=rR.toArray.size:=by rw[gG,g2.length,rb.length]
    have e:((List.range (min its.toArray.size rR.toArray.size)).all (eqJ as bs) && its.toArray.size==rR.toArray.size)=jm (.tup as) (.tup bs):=by
     rw[jm,zkr,la,lb]
    have rc:RcAt A s (.ref a) (.ref b) (jm (.tup as) (.tup bs)):=by
     rw[<-e];exact RcAt.tuples p p2 0x0 λj j1 j2=>items j (by simpa using j1) (by simpa using j2)
    have ne:RcNeAt A s (.ref a) (.ref b) (!jm (.tup as) (.tup bs)):=by
     rw[<-e];exact RcNeAt.tuples p p2 0x0 λj j1 j2=>items j (by simpa using j1) (by simpa using j2)
    refine⟨?_,rc,ne⟩;by_cases hab:a=b
    ·subst hab;have:(D.tup as)=.tup bs:=znh I _ _ (by simpa using f1) (by simpa using f2) h1' h2';rw[<-this,zoe _ (by simpa using f1)];exact EqAt.same _
    ·exact EqAt.of_refs hab rc
theorem Az(I:Inv X pins σ H s):∀(as bs:List D) {A:Around} {xs ys:List V} {us ws:List Value},dF as=true->dF bs=true->A.units+iV as bs<cLine->ao X.K μ H as xs->ao X.K μ H bs ys->Vals xs us->Vals ys ws ->
  ∀(j:Nat) (h1:j<us.length) (h2:j<ws.length),EqAt A s us[j] ws[j] (eqJ as bs j)
 | [],bs,A,xs,ys,us,ws,_,_,_,h1,_,r1,_,j,j1,_=>by
  rw[ao]at h1;subst h1;cases r1;simp at j1
 | a::as,[],A,xs,ys,us,ws,_,_,_,_,h2,_,r2,j,_,j2=>by
  rw[ao]at h2;subst h2;cases r2;simp at j2
 | a::as,b::bs,A,xs,ys,us,ws,f1,f2,hu,h1,h2,r1,r2,j,j1,j2=>by
  rw[ao]at h1 h2;obtain⟨v,r,rfl,q1,q2⟩:=h1;obtain⟨v',r',rfl,g1,g2⟩:=h2;cases r1 with
  | cons r1 t1 =>
  cases r2 with
  | cons r2 t2 =>
  rw[zgj,gM]at f1 f2;rw[zlq]at hu;cases j with
  | zero=>exact (Lz I a b f1.1 f2.1 0x0 q1 g1 r1 r2).1
  | succ j=>exact Az I as bs f1.2 f2.2 0x0 q2 g2 t1 t2 j (by simpa using j1) (by simpa using j2)
end
end
noncomputable def j5(L:Nat):D->D->ak->Option Bool
 | .loc m,.loc n,st=>match aA st m,aA st n with
  | some a,some b=>if dF a=true/\dF b=true/\iV a b+1<L then some (j6 a b) else none
  | _,_=>none
 | .loc m,.non,st=>(aA st m).map λ_=>false
 | .loc m,.tup b,st=>if 0<L then (aA st m).map λ_=>false else none
 | .non,.loc n,st=>(aA st n).map λ_=>false
 | .tup a,.loc n,st=>if 0<L then (aA st n).map λ_=>false else none
 | d1,d2,_=>if flat d1=true/\flat d2=true/\dJ d1 d2<L then some (jm d1 d2) else none
section
variable  {X:Cx}{pins:List 0x6}{σ:L2.St}{μ:List Addr}{H:Hp}{s:Shared}{L:Nat}
def Ge(I:Inv X pins σ H s)(f1:dF as=true)(f2:dF bs=true)(hu:A.units+1+iV as bs<cLine)(h1:ao X.K μ H as xs)(h2:ao X.K μ H bs ys) 
  (q1:oA X.K H a xs) (q2:oA X.K H b ys):RcAt A s (.ref a) (.ref b) (j6 as bs)/\RcNeAt A s (.ref a) (.ref b) (!j6 as bs):=by
 obtain⟨its,ra,p,_⟩:=I.list q1;obtain⟨rR,rb,p2,_⟩:=I.list q2;have la:as.length=its.toArray.size:=by rw[gG,h1.length,ra.length]
 have lb:bs.length=rR.toArray.size:=by rw[gG,h2.length,rb.length]
 by_cases hl:its.toArray.size=rR.toArray.size
 ·have items:=Az I as bs (A:=A.in1) f1 f2 hu h1 h2 ra rb;have e:((List.range its.toArray.size).all (eqJ as bs))=j6 as bs:=by
   rw[zkr,la,lb,<-hl,Nat.min_self];simp
  rw[<-e];exact⟨RcAt.lists p.isList p2.isList hl 0x0 λj j1 j2=>items j (by simpa using j1) (by simpa using j2),RcNeAt.lists p.isList p2.isList hl 0x0 λj j1 j2=>items j (by simpa using j1) (by simpa using j2)⟩
 ·have e:j6 as bs=false:=by
   rw[zkr,la,lb,pU];exact .inr (by simpa using hl)
  have hl':(its.toArray.size != rR.toArray.size)=true:=by simpa using hl
  rw[e];exact⟨RcAt.lists_lengths p.isList p2.isList hl' 0x0,RcNeAt.lists_lengths p.isList p2.isList hl' 0x0⟩
def LK(I:Inv X pins σ H s)(hs:aU X.K μ H st)(e:j5 L d1 d2 st=some k)(hu:A.units+L<cLine)(h1:aq X.K μ H d1 x)(h2:aq X.K μ H d2 y)(r1:RelV x u)(r2:RelV y w) :
  RcAt A s u w k/\RcNeAt A s u w (!k):=by
 have plain:∀{d1 d2:D},aq X.K μ H d1 x->aq X.K μ H d2 y->(if flat d1=true/\flat d2=true/\dJ d1 d2<L then some (jm d1 d2) else none)=some k->RcAt A s u w k/\RcNeAt A s u w (!k):=λ{d1 d2} h1 h2 e=>by
  split at e
  ·rename_i c;cases e;exact (Lz I d1 d2 c.1 c.2.1 0x0 h1 h2 r1 r2).2
  ·cases e
 have list:∀{n:Nat} {v:V} {z:Value} {ds:List D},aq X.K μ H (.loc n) v->RelV v z->aA st n=some ds->∃p its,z=.ref p/\s.heap.IsList p its:=λ{n v z ds} h r q=>by
  obtain⟨p,q1,rfl⟩:=aq.aL.mp h;obtain⟨p',xs,g1,g2,g3⟩:=hs.items q;rw[q1]at g1;cases g1;cases (show z=Value.ref p from r);obtain⟨its,_,pl,_⟩:=I.list g2;exact⟨p,_,rfl,pl.isList⟩
 have tuple:∀{bs:List D} {v:V} {z:Value},aq X.K μ H (.tup bs) v->RelV v z->∃p its,z=.ref p/\s.heap.IsTuple p its:=λ{bs v z} h r=>by
  obtain⟨p,xs,rfl,q1,_⟩:=aq.aQ.mp h;cases (show z=Value.ref p from r);obtain⟨its,_,pl,_⟩:=I.tuple (q1.rF);exact⟨p,_,rfl,pl⟩
 match d1,d2,e,h1,h2 with
 | .loc m,.loc n,e,h1,h2 =>
  simp only[j5]at e;cases e1:aA st m with
  | none=>rw[e1]at e;cases e
  | some as =>
   cases e2:aA st n with
   | none=>rw[e1,e2]at e;cases e
   | some bs =>
    rw[e1,e2]at e;dsimp only at e
    split at e
    ·rename_i c;cases e;obtain⟨p,q1,rfl⟩:=aq.aL.mp h1;obtain⟨p',xs,g1,g2,g3⟩:=hs.items e1;rw[q1]at g1;cases g1;obtain⟨q,q2,rfl⟩:=aq.aL.mp h2;obtain⟨q',ys,k1,k2,k3⟩:=hs.items e2;rw[q2]at k1;cases k1;cases (show u=Value.ref p from r1);cases (show w=Value.ref q from r2);exact Ge I c.1 c.2.1 0x0 g3 k3 g2 k2
    ·cases e
 | .loc m,.non,e,h1,h2 =>
  simp only[j5]at e;cases e1:aA st m with
  | none=>rw[e1]at e;cases e
  | some as =>
   rw[e1]at e;cases e;obtain⟨p,its,rfl,pl⟩:=list h1 r1 e1;rw[aq.bJ]at h2;subst h2;cases (show w=Value.none from r2);exact⟨RcAt.list_none pl 0x0,RcNeAt.list_none pl 0x0⟩
 | .non,.loc n,e,h1,h2 =>
  simp only[j5]at e;cases e1:aA st n with
  | none=>rw[e1]at e;cases e
  | some as =>
   rw[e1]at e;cases e;obtain⟨p,its,rfl,pl⟩:=list h2 r2 e1;rw[aq.bJ]at h1;subst h1;cases (show u=Value.none from r1);exact⟨RcAt.none_list pl 0x0,RcNeAt.none_list pl 0x0⟩
 | .loc m,.tup bs,e,h1,h2 =>
  simp only[j5]at e
  split at e
  ·cases e1:aA st m with
   | none=>rw[e1]at e;cases e
   | some as =>
    rw[e1]at e;cases e;obtain⟨p,its,rfl,pl⟩:=list h1 r1 e1;obtain⟨q,rR,rfl,pt⟩:=tuple h2 r2;exact⟨RcAt.list_tuple pl pt 0x0,RcNeAt.list_tuple pl pt 0x0⟩
  ·cases e
 | .tup as,.loc n,e,h1,h2 =>
  simp only[j5]at e
  split at e
  ·cases e1:aA st n with
   | none=>rw[e1]at e;cases e
   | some as =>
    rw[e1]at e;cases e;obtain⟨p,its,rfl,pl⟩:=list h2 r2 e1;obtain⟨q,rR,rfl,pt⟩:=tuple h1 r1;exact⟨RcAt.tuple_list pt pl 0x0,RcNeAt.tuple_list pt pl 0x0⟩
  ·cases e
 | .non,.non,e,h1,h2=>exact plain h1 h2 0x11
 | .non,.bl _,e,h1,h2=>exact plain h1 h2 0x11
 | .non,.int _,e,h1,h2=>exact plain h1 h2 0x11
 | .non,.str _,e,h1,h2=>exact plain h1 h2 0x11
 | .non,.tup _,e,h1,h2=>exact plain h1 h2 0x11
 | .bl _,d2,e,h1,h2=>exact plain h1 h2 0x11
 | .int _,d2,e,h1,h2=>exact plain h1 h2 0x11
 | .str _,d2,e,h1,h2=>exact plain h1 h2 0x11
 | .tup _,.non,e,h1,h2=>exact plain h1 h2 0x11
 | .tup _,.bl _,e,h1,h2=>exact plain h1 h2 0x11
 | .tup _,.int _,e,h1,h2=>exact plain h1 h2 0x11
 | .tup _,.str _,e,h1,h2=>exact plain h1 h2 0x11
 | .tup _,.tup _,e,h1,h2=>exact plain h1 h2 0x11
 | .loc _,.bl _,e,h1,h2=>simp[j5,flat]at e
 | .loc _,.int _,e,h1,h2=>simp[j5,flat]at e
 | .loc _,.str _,e,h1,h2=>simp[j5,flat]at e
noncomputable def ig(L:Nat):D->D->ak->R D:=λd1 d2 st=>match j5 L d1 d2 st with | some k=>.ok (.bl k) st | none=>.bad
noncomputable def yR(L:Nat):D->D->ak->R D:=λd1 d2 st=>match j5 L d1 d2 st with | some k=>.ok (.bl (!k)) st | none=>.bad
def JB(hu:X.A.units+L<cLine):eQ X (compareOp .Eq) (rM X (ig L)):=by
 rintro pins s σ H x y v u Q I rx ry ⟨μ,st,dx,dy,hs,hx,hy,hp⟩;unfold ig at hp;cases e:j5 L dx dy st with
 | none=>rw[e]at hp;exact hp.elim
 | some k =>
  rw[e]at hp;exact (LK I hs e hu hx hy rx ry).1 X.prog X.w X.xe _ ⟨.bl k,H,I,rfl,hp.ret hs (aq.bx.mpr rfl)⟩
def Jv(hu:X.A.units+L<cLine):eQ X (compareOp .NotEq) (rM X (yR L)):=by
 rintro pins s σ H x y v u Q I rx ry ⟨μ,st,dx,dy,hs,hx,hy,hp⟩;unfold yR at hp;cases e:j5 L dx dy st with
 | none=>rw[e]at hp;exact hp.elim
 | some k =>
  rw[e]at hp;exact (LK I hs e hu hx hy rx ry).2 X.prog X.w X.xe _ ⟨.bl (!k),H,I,rfl,hp.ret hs (aq.bx.mpr rfl)⟩
end
end M
namespace M
open PySem PySem.Spec L2
noncomputable def cX(T:String)(d:D)(st:ak):Bool:=match d with
 | .str _=>T == "str"
 | .loc n=>(match st[n]? with
  | some (.lst _)=>T == "list"
  | some (.frz _)=>T == "list"
  | some (.dic _)=>T == "dict"
  | some (.dkc _)=>T == "dict"
  | _=>false)
 | _=>false
section
variable  {X:Cx}{e a b c o:Expr}{es:List Expr}{ma mb mc mo:ME}{mA:MA}{pos p2 p apos dH:Pos}{T id:String}{name:Str}{g:D->List D->ak->R D}
def CG(h:cX T d st=true)(hs:aU X.K μ H st)(hv:aq X.K μ H d v):tyV X.K T v H:=by
 cases d with
 | str cs=>rw[aq.aP]at hv;subst hv;exact eq_of_beq h
 | loc n =>
  obtain⟨p,q1,rfl⟩:=aq.aL.mp hv;simp only[cX]at h;cases e:st[n]? with
  | none=>rw[e]at h;cases h
  | some o =>
   rw[e]at h;obtain⟨p',r1,r2⟩:=hs.at_ n o e;show 7;cases o with
   | lst ds=>obtain⟨xs,r3,_⟩:=r2;exact .inl ⟨eq_of_beq h,xs,oA.of r3⟩
   | frz ds=>obtain⟨xs,r3,_⟩:=r2;exact .inl ⟨eq_of_beq h,xs,r3.sqL⟩
   | dic ds=>obtain⟨xs,r3,_⟩:=r2;exact .inr (.inr (.inl ⟨eq_of_beq h,.inr ⟨xs,r3⟩⟩))
   | dkc ds=>obtain⟨xs,r3,_⟩:=r2;exact .inr (.inr (.inl ⟨eq_of_beq h,.inl ⟨xs,r3⟩⟩))
   | _=>cases h
 | _=>simp[cX]at h
noncomputable def cI(T:String)(g:D->List D->ak->R D)(mo:ME)(mA:MA):ME:=λenv st=>(mo env st).bind λx st1=>if cX T x st1=true then (mA env st1).bind λxs st2=>g x xs st2 else .bad
noncomputable def fc(T:String)(g:D->List D->ak->R D)(mo:ME):ME:=λenv st=>(mo env st).bind λx st1=>if cX T x st1=true then g x [] st1 else .bad
def Oj(pa:PlainAttrs T)(slot:Slot T name id)(Yn:typeOf (.builtin id)=pure (.type "method_descriptor"))(hm:sX X id (G_ X g))(ho:JE X o mo)(ha:JA X (e::es) mA)
  (rZ:attributeBase o name X.env (eval o X.env)=eval o X.env:=by rfl)
  (y_:((backTo dH (starEach (e::es) X.env)).all (λx=>!x.1) && (backToKw dH (keywordEach [] X.env)).all (λx=>x.1.isSome)
   && decide ((e::es).length+([]:List Keyword).length+(if ([]:List Keyword).isEmpty then 0 else 1)<30))=true:=by rfl)
  (hline:(apos.endLine==dH.line)=true:=by rfl) (hs:starEach (e::es) X.env=0xb::starEach es X.env:=by rfl) (vJ:#[10,dH,es].any (·.1)=false:=by rfl):JE X (.Call (.Attribute o name apos) (e::es) [] dH) (cI T g mo mA):=by
 refine JE.of (aa_ pa slot Yn hm ho ha rZ y_ hline hs vJ) fun σ H Q zz=>?_;show 1;show 3;show 4;dsimp only at aR
 split at aR
 ·rename_i hT;refine⟨CG hT bG hx,μ1,env,st1,hE.mono g1,bG,(bR.bind aR).imp ?_⟩;rintro xs H2 ⟨μ2,st2,ds,g2,iJ,j4,dX⟩;exact⟨μ2,st2,d,ds,iJ,hx.mono g2 _,j4,dX⟩
 ·exact aR.elim
def zol(pa:PlainAttrs T)(slot:Slot T name id)(Yn:typeOf (.builtin id)=pure (.type "method_descriptor"))(hm:sX X id (G_ X g))(ho:JE X o mo)
  (rZ:attributeBase o name X.env (eval o X.env)=eval o X.env:=by rfl) (hline:(apos.endLine==dH.line)=true:=by rfl):JE X (.Call (.Attribute o name apos) [] [] dH) (fc T g mo):=by
 refine JE.of (WD pa slot Yn hm ho rZ hline) fun σ H Q zz=>?_;show 1;show 3;show 4;dsimp only at aR
 split at aR
 ·rename_i hT;exact⟨CG hT bG hx,μ1,st1,d,[],bG,hx,ao.nil,aR⟩
 ·exact aR.elim
noncomputable def aW:D->List D->ak->R D
 | .loc n,[d],st=>match st[n]? with
  | some (.lst ds)=>if ds.length<1000000 then .ok .non (st.set n (.lst (ds++[d]))) else .bad
  | _=>.bad
 | _,_,_=>.bad
def Vw{μ:List Addr}{H:Hp}{st:ak}{n:Nat}{ds ds':List D}{p:Addr}{xs ys:List V}{Q:VK}(hp:bR X μ H (lN X) Q (.ok .non (st.set n (.lst ds'))))(hs:aU X.K μ H st)(e:st[n]? = some (.lst ds))(hq:μ[n]? = some p)(hx:H p=some (.lst xs))(hy:ao X.K μ H ds' ys) :
  Q .non (upd H p (.lst ys)):=by
 obtain⟨g,oN⟩:=vp hs e hq hx hy;exact hp _ _ μ g oN (aq.bJ.mpr rfl)
def zsl:sX X "list.append" (G_ X aW):=by
 refine sX.weak zpm ?_;show 20;unfold aW at hp
 split at hp
 ·rename_i n d' ;cases e:st[n]? with
  | none=>rw[e]at hp;exact hp.elim
  | some mo =>
   cases mo with
   | lst l =>
    rw[e]at hp;dsimp only at hp
    split at hp
    ·rename_i hl;show 19;obtain⟨y,rfl,q2⟩:=ao.one j4;obtain⟨p',ys,r1,r2,r3⟩:=hs.lst e;show 7;refine⟨p,ys,y,rfl,rfl,r2,by rw[<-r3.length];exact gR hl 0x5,Vw hp hs e q1 r2 (r3.append (ao.cons q2 ao.nil))⟩
    ·exact hp.elim
   | _=>rw[e]at hp;exact hp.elim
 ·exact hp.elim
end
section
variable  {X:Cx}{e a b c l:Expr}{es:List Expr}{ma mb mc:ME}{mA:MA}{pos p2 p xO:Pos}{μ:List Addr}{H:Hp}
noncomputable def rN(st:ak)(n:Nat):Option (List D×MO):=match st[n]? with
 | some (.lst ds)=>some (ds,.lst ds)
 | some (.frz ds)=>some (ds,.frz ds)
 | _=>none
def zmc(h:rN st n=some (ds,o)):aA st n=some ds/\st[n]? = some o/\(o=.lst ds\/o=.frz ds):=by
 unfold rN at h;unfold aA
 split at h
 ·rename_i q;cases h;rw[q];exact⟨rfl,rfl,.inl rfl⟩
 ·rename_i q;cases h;rw[q];exact⟨rfl,rfl,.inr rfl⟩
 ·cases h
def zm6{K:PySem.W.Frag}{st':ak}{n:Nat}{ds:List D}{o:MO}{μ':List Addr}{H':Hp}(ho:o=.lst ds\/o=.frz ds)(hs:aU K μ' H' st')(e:st'[n]? = some o):∃p xs,μ'[n]? = some p/\oA K H' p xs/\ao K μ' H' ds xs:=by
 refine hs.items ?_;unfold aA;rcases ho with rfl | rfl<;>rw[e]
noncomputable def cN:Nat->List D->List D
 | _,[]=>[]
 | k,d::ds=>.tup [.int k,d]::cN (k+1) ds
theorem ZG:∀(ds:List D) (k i:Nat),(cN k ds)[i]? = (ds[i]?).map λd=>.tup [.int ((k+i:Nat):Int),d]
 | [],k,i=>by simp[cN]
 | d::ds,k,0=>by simp[cN]
 | d::ds,k,i+1=>by
  have:=ZG ds (k+1) i;simp only[cN,mX];rw[this,show k+1+i=k+(i+1) by omega]
theorem Vo:∀(ds:List D) (k:Nat),(cN k ds).length=ds.length
 | [],_=>rfl
 | _::ds,k=>by simp[cN,Vo ds (k+1)]
noncomputable def sE(mA:MA):MI:=λenv st=>(mA env st).bind λds st1=>match ds with
 | [.loc n]=>(match rN st1 n with | some (xs,o)=>.ok (cN 0 xs,[(n,o)]) st1 | none=>.bad)
 | _=>.bad
def RJ{n:Nat}{ds:List D}{q:Addr}{o:MO}(ho:o=.lst ds\/o=.frz ds)(hp:μ[n]? = some q):oE X μ H (Ite X.K q) (cN 0 ds,[(n,o)]):=by
 intro H' μ' st' g hs ok;have e:st'[n]? = some o:=(ok (n,o) 0x1);obtain⟨p',xs,q1,q2,q3⟩:=zm6 ho hs e;rw[g.get hp]at q1;cases q1;refine⟨λi d hd=>?_,xs,q2,by rw[<-q3.length];show ds.length<=(cN 0 ds).length;rw[Vo];exact gb _⟩;have zf:(cN 0 ds)[i]? = some d:=hd;rw[ZG]at zf;cases e2:ds[i]? with
 | none=>rw[e2]at zf;cases zf
 | some d0 =>
  rw[e2]at zf;cases zf;obtain⟨v,h1,h2⟩:=q3.get e2;refine⟨⟨xs,v,q2,h1⟩,?_⟩;rintro x Dn ⟨pp,y,hn,rfl,rfl,hy⟩;have:=hy xs q2;rw[h1]at this;cases this;refine⟨a_.lay hn,hs.lay hn,aq.aQ.mpr ⟨pp,_,rfl,.inl qT,?_⟩⟩;exact (ao.cons (aq.aN.mpr 0x1) (ao.cons h2 ao.nil)).mono (a_.lay hn) _
def Rp(ha:JA X [a] mA)(hg:Gl X "enumerate")(hm:X.mg "enumerate" = none)(hs:starEach [a] X.env=[(false,eval a X.env)]:=by rfl):JI X (.Tuple elts x1 xO) (.Call (.Name "enumerate" p) [a] [] pos) (sE mA):=by
 refine JI.of (Qv hg hm ha hs) fun σ H R zz=>?_;show 16
 split at aR
 ·rename_i n;cases e:rN st1 n with
  | none=>rw[e]at aR;exact aR.elim
  | some y =>
   show 29;cases r1;exact⟨q,rfl,⟨zs,r2⟩,aR _ _ _ (.refl _ _) bG (RJ k3 q2)⟩
 ·exact aR.elim
noncomputable def Ik(mA:MA):MI:=λenv st=>(mA env st).bind λds st1=>match ds with
 | [.loc n]=>(match rN st1 n with | some (xs,o)=>.ok (xs.reverse,[(n,o)]) st1 | none=>.bad)
 | _=>.bad
def Rz{n:Nat}{ds:List D}{q:Addr}{o:MO}(ho:o=.lst ds\/o=.frz ds)(hp:μ[n]? = some q):oE X μ H (Itv X.K q ds.length) (ds.reverse,[(n,o)]):=by
 intro H' μ' st' g hs ok;have e:st'[n]? = some o:=(ok (n,o) 0x1);obtain⟨p',xs,q1,q2,q3⟩:=zm6 ho hs e;rw[g.get hp]at q1;cases q1;refine⟨λi d hd=>?_,⟨xs,q2,q3.length.symm⟩,by simp⟩;have zf:ds.reverse[i]? = some d:=hd;have hi:i<ds.length:=by have:=(gf.mp zf).1;simpa using this
 rw[pK hi]at zf;obtain⟨v,h1,h2⟩:=q3.get zf;refine⟨⟨xs,v,q2,q3.length.symm,hi,h1⟩,?_⟩;rintro x Dn ⟨rfl,hy⟩;have:=hy xs q2;rw[h1]at this;cases this;exact⟨.refl _ _,hs,h2⟩
def Xr{tg:Expr}(ha:JA X [a] mA)(hg:Gl X "reversed")(hm:X.mg "reversed" = none)(hs:starEach [a] X.env=[(false,eval a X.env)]:=by rfl):JI X tg (.Call (.Name "reversed" p) [a] [] pos) (Ik mA):=by
 refine JI.of (Wn hg hm ha hs) fun σ H R zz=>?_;show 16
 split at aR
 ·rename_i n;cases e:rN st1 n with
  | none=>rw[e]at aR;exact aR.elim
  | some y =>
   show 29;cases r1;exact⟨q,zs,rfl,r2,by rw[<-r3.length];exact aR _ _ _ (.refl _ _) bG (Rz k3 q2)⟩
 ·exact aR.elim
end
def ji{α β:Type}(K:PySem.W.Frag)(μ:List Addr)(H:Hp)(rel:Rel α β)(Q:β->Hp->Prop)(r:R α):Prop:=match r with
 | .ok a st=>∀(b:β) (H':Hp) (μ':List Addr),a_ μ H μ' H'->aU K μ' H' st->rel μ' H' a b->Q b H'
 | _=>False
def tK{α β:Type}(K:PySem.W.Frag)(rel:Rel α β)(m:aK->ak->R α):L2.St->Hp->(β->Hp->Prop)->Prop:=fun σ H Q=>∃μ env st,dU K μ H env σ/\aU K μ H st/\ji K μ H rel Q (m env st)
noncomputable def tKG(K:PySem.W.Frag)(m:MG):TG:=λv σ H Q=>∃μ env st d,dU K μ H env σ/\aU K μ H st/\aq K μ H d v/\ji K μ H (fun μ H env σ=>dU K μ H env σ) Q (m d env st)
def ji.post{α β:Type}{X:Cx}{μ:List Addr}{H:Hp}{rel:Rel α β}{Q:β->Hp->Prop}{r:R α}(h:ji X.K μ H rel Q r):bR X μ H rel Q r:=by
 cases r with
 | ok a st=>exact h
 | err x st=>exact h.elim
 | bad=>exact h.elim
def ji.mono{α β:Type}{K:PySem.W.Frag}{μ μ1:List Addr}{H H1:Hp}{rel:Rel α β}{Q:β->Hp->Prop}{r:R α}(g:a_ μ H μ1 H1)(h:ji K μ H rel Q r):ji K μ1 H1 rel Q r:=by
 cases r with
 | ok a st=>exact λb H' μ' g'=>h b H' μ' (g.trans g')
 | err x st=>exact h.elim
 | bad=>exact h.elim
noncomputable def oh(capt:List (Option Nat))(env:aK):aK:=capt.map λo=>o.bind λj=>(env[j]?).join
open Classical in
noncomputable def fM(g:MG)(t:MT)(e:ME)(gs:List (Nat×MO))(n:Nat):List D->aK->ak->R D
 | [],_,st=>if uO gs st then .ok (.loc n) st else .bad
 | d::r,env,st=>if uO gs st then (g d env st).bind λenv1 st1=>(t env1 st1).bind λok st2=>if ok then (e env1 st2).bind λy ie=>(match ie[n]? with
   | some (.lst xs)=>if xs.length<1000000 then fM g t e gs n r env1 (ie.set n (.lst (xs++[y]))) else .bad
   | _=>.bad) else fM g t e gs n r env1 st2 else .bad
noncomputable def dG(capt:List (Option Nat))(mi:MI)(g:MG)(t:MT)(e:ME):ME:=λenv st=>(mi env st).bind λs st1=>(fM g t e s.2 st1.length s.1 (oh capt env) (st1++[.lst []])).sure
noncomputable def lC:MT:=λ_ st=>.ok true st
section
variable  {X:Cx}{elt tg iter c:Expr}{ifs:List Expr}{scope:Scope}{pos:Pos}{N:List Str}{capt:List (Option Nat)}{mi:MI}{g:MG}{t:MT}{me:ME}
def dU.taken{K:PySem.W.Frag}{μ:List Addr}{H:Hp}{env:aK}{σ:L2.St}(cp:List (Option Nat))(h:dU K μ H env σ):dU K μ H (oh cp env) (jx cp σ):=by
 refine⟨by simp[oh,jx],λi d e=>?_⟩;unfold oh at e;unfold jx;rw[gO]at e ⊢;cases q:cp[i]? with
 | none=>rw[q]at e;cases e
 | some o =>
  rw[q]at e;cases o with
  | none=>cases e
  | some j =>
   have e':(env[j]?).join=some d:=by simpa using e
   have e2:env[j]? = some (some d):=by
    cases z:env[j]? with
    | none=>rw[z]at e';cases e'
    | some y=>rw[z]at e';cases e';rfl
   obtain⟨v,h1,h2⟩:=h.at_ j d e2;exact⟨v,by simp[h1],h2⟩
def ji.val{α β γ:Type}{K:PySem.W.Frag}{μ:List Addr}{H:Hp}{rel:Rel α β}{r:R α}{f:α->ak->R γ}{G:List Addr->Hp->R γ->Prop}(hG:∀μ μ1 H H1 r,a_ μ H μ1 H1->G μ H r->G μ1 H1 r)(hb:∀μ H,¬ G μ H .bad)(he:∀μ H x st,¬ G μ H (.err x st))
  (h:G μ H (r.bind f)):ji K μ H rel (λb H1=>∃μ1 st1 a,a_ μ H μ1 H1/\aU K μ1 H1 st1/\rel μ1 H1 a b/\G μ1 H1 (f a st1)) r:=by
 cases r with
 | ok a st=>exact λb H' μ' g h1 h2=>⟨μ',st,a,g,h1,h2,hG _ _ _ _ _ g h⟩
 | err x st=>exact (he _ _ _ _ h).elim
 | bad=>exact (hb _ _ h).elim
def zN(X:Cx)(Q:VK):List Addr->Hp->R D->Prop:=fun μ H r=>ji X.K μ H (lN X) Q r
def zty{σ:L2.St}{H:Hp}{Q:VK}(h:tM X (dG capt mi g t me) σ H Q):HF capt (tMI X mi) (tKG X.K g) (tK X.K Ac t) (tK X.K (lN X) me) σ H Q:=by
 obtain⟨μ,env,st,hE,hs,hp⟩:=h;show 3;rintro J H1 ⟨μ1,st1,s,g1,bG,hJ,aR⟩;dsimp only at aR;have dX:zN X Q μ1 H1 (fM g t me s.2 st1.length s.1 (oh capt env) (st1++[.lst []])):=by
  cases hr:fM g t me s.2 st1.length s.1 (oh capt env) (st1++[.lst []]) with
  | ok d st2=>rw[hr]at aR;exact aR
  | err y st2=>rw[hr]at aR;exact aR.elim
  | bad=>rw[hr]at aR;exact aR.elim
 have mG:∀μ μ1 H H1 r,a_ μ H μ1 H1->zN X Q μ H r->zN X Q μ1 H1 r:=fun μ μ1 H H1 r g h=>ji.mono g h;have nb:∀μ H,¬ zN X Q μ H .bad:=fun μ H h=>h;have ne:∀μ H x st,¬ zN X Q μ H (.err x st):=fun μ H x st h=>h;intro D hD;have gD:a_ μ1 H1 (μ1++[D]) (upd H1 D (.lst [])):=a_.new hD;have sD:aU X.K (μ1++[D]) (upd H1 D (.lst [])) (st1++[.lst []]):=bG.new hD ⟨[],qT,ao.nil⟩;have nD:(μ1++[D])[st1.length]? = some D:=by rw[<-bG.len];simp
 refine⟨λi k σ' H'=>∃μ2 bw st2,a_ (μ1++[D]) (upd H1 D (.lst [])) μ2 H'/\dU X.K μ2 H' bw σ'/\aU X.K μ2 H' st2/\zN X Q μ2 H' (fM g t me s.2 st1.length (s.1.drop i) bw st2)/\i<=s.1.length/\k=s.1.length - i,
  ⟨_,μ1++[D],oh capt env,_,.refl _ _,(hE.mono (g1.trans gD)).taken capt,sD,by simpa using mG _ _ _ _ _ gD dX,mL _,rfl⟩,?_⟩
 rintro i k σ2 H2 ⟨μ2,bw,st2,g2,UL,iJ,zV,hi,rfl⟩;have atD:μ2[st1.length]? = some D:=g2.get nD;by_cases wk:i<s.1.length
 ·have e1:s.1.drop i=s.1[i]::s.1.drop (i+1):=mQ wk;rw[e1,fM]at zV;by_cases ok:uO s.2 st2
  ·rw[ae7 ok]at zV;obtain⟨q1,q2⟩:=(hJ H2 μ2 st2 (gD.trans g2) iJ ok).1 i s.1[i] (gK wk);refine .inr ⟨q1,fun σ' H'=>∃μ3 yp ie,a_ (μ1++[D]) (upd H1 D (.lst [])) μ3 H'/\dU X.K μ3 H' yp σ'/\aU X.K μ3 H' ie/\zN X Q μ3 H' (fM g t me s.2 st1.length (s.1.drop (i+1)) yp ie),?_,?_⟩
   ·rintro σ' H' ⟨μ3,yp,ie,g3,hE3,yZ,hp4⟩;exact⟨s.1.length - (i+1),by omega,μ3,yp,ie,g3,hE3,yZ,hp4,by omega,rfl⟩
   ·intro x H3 hx;obtain⟨g3,yZ,hd⟩:=q2 x H3 hx;refine⟨μ2,bw,st2,s.1[i],UL.mono g3,yZ,hd,?_⟩;have w1:=ji.val (K:=X.K) (rel:=fun μ H env σ=>dU X.K μ H env σ) mG nb ne (mG _ _ _ _ _ g3 zV);cases hr1:g s.1[i] bw st2 with
    | bad=>rw[hr1]at w1;exact w1
    | err y z=>rw[hr1]at w1;exact w1
    | ok abQ st4 =>
     rw[hr1]at w1;intro σ4 H4 μ4 g4 hs4 hE4;obtain⟨aeK,aaI,uh,g4',adT,R0,hp4⟩:=w1 σ4 H4 μ4 g4 hs4 hE4;refine⟨aeK,uh,aaI,R0,adT,?_⟩;have w2:=ji.val (K:=X.K) (rel:=Ac) mG nb ne hp4;cases Yr:t uh aaI with
     | bad=>rw[Yr]at w2;exact w2
     | err y z=>rw[Yr]at w2;exact w2
     | ok b5 NQ =>
      rw[Yr]at w2;intro b H5 μ5 g5 hs5 hb5;obtain⟨acf,Ph,b5',g5',abF,ad_,hp5⟩:=w2 b H5 μ5 g5 hs5 hb5;subst ad_;have gg:a_ (μ1++[D]) (upd H1 D (.lst [])) acf H5:=((g2.trans g3).trans g4').trans g5';cases b5' with
      | false=>exact yX ⟨acf,uh,Ph,gg,R0.mono g5',abF,by simpa using hp5⟩
      | true =>
       refine yW ⟨acf,uh,Ph,R0.mono g5',abF,?_⟩;have adX:zN X Q acf H5 ((me uh Ph).bind λy ie=>(match ie[st1.length]? with
        | some (.lst xs)=>if xs.length<1000000 then fM g t me s.2 st1.length (s.1.drop (i+1)) uh (ie.set st1.length (.lst (xs++[y]))) else .bad
        | _=>.bad)):=by simpa using hp5
       have w3:=ji.val (K:=X.K) (rel:=lN X) mG nb ne adX;cases Yq:me uh Ph with
       | bad=>rw[Yq]at w3;exact w3
       | err y z=>rw[Yq]at w3;exact w3
       | ok y6 st6 =>
        rw[Yq]at w3;intro v H6 μ6 g6 hs6 hv6;obtain⟨aew,acS,y6',g6',abE,adR,RQ⟩:=w3 v H6 μ6 g6 hs6 hv6;have gg6:=gg.trans g6';have ab7:aew[st1.length]? = some D:=gg6.get nD;cases e6:acS[st1.length]? with
        | none=>rw[e6]at RQ;exact RQ.elim
        | some mo =>
         cases mo with
         | lst xs =>
          rw[e6]at RQ;dsimp only at RQ
          split at RQ
          ·rename_i hl;obtain⟨p',ys,r1,r2,r3⟩:=abE.lst e6;rw[ab7]at r1;cases r1;obtain⟨g7,hs7⟩:=vp abE e6 ab7 r2 (r3.append (ao.cons adR ao.nil));refine⟨ys,r2,by rw[<-r3.length];exact gR hl 0x5,aew,uh,_,gg6.trans g7,((R0.mono g5').mono g6').mono g7,hs7,mG _ _ _ _ _ g7 RQ⟩
          ·exact RQ.elim
         | _=>rw[e6]at RQ;exact RQ.elim
  ·rw[ae8 ok]at zV;exact zV.elim
 ·have e1:s.1.drop i=[]:=nF 0x0;rw[e1,fM]at zV;have e2:i=s.1.length:=by omega
  by_cases ok:uO s.2 st2
  ·rw[ae7 ok]at zV;refine .inl ⟨by rw[e2];exact (hJ H2 μ2 st2 (gD.trans g2) iJ ok).2,?_⟩;exact zV _ H2 μ2 (.refl _ _) iJ (aq.aL.mpr ⟨D,atD,rfl⟩)
  ·rw[ae8 ok]at zV;exact zV.elim
def Uj{X':Cx}{e:Expr}{m:ME}(h:JE X' e m):PE X' e (tK X'.K (lN X') m):=by
 refine λpins s σ H Q I zz=>?_;obtain⟨μ,env,st,a,b,c⟩:=zz;exact h pins s σ H Q I ⟨μ,env,st,a,b,c.post⟩
def Ui{X':Cx}{e:Expr}{m:MG}(h:JG X' e m):PG X' e (tKG X'.K m):=by
 refine λpins s σ H v u Q I r zz=>?_;obtain⟨μ,env,st,d,a,b,b2,c⟩:=zz;exact h pins s σ H v u Q I r ⟨μ,env,st,d,a,b,b2,c.post⟩
def aa1{X':Cx}{e:Expr}{m:MT}(h:JT X' e m):PT X' e (tK X'.K Ac m):=by
 refine λpins s σ H Q I zz=>?_;obtain⟨μ,env,st,a,b,c⟩:=zz;exact h pins s σ H Q I ⟨μ,env,st,a,b,c.post⟩
def JTs(X:Cx)(ifs:List Expr)(m:MT):Prop:=Y9 X ifs (tK X.K Ac m)
def Ho:JTs X' [] lC:=by
 refine λpins s σ H Q I zz=>?_;obtain⟨μ,env,st,a,b,c⟩:=zz;exact Qh pins s σ H Q I (c true H μ (.refl _ _) b rfl)
def Rj{X':Cx}{m:MT}(h:JT X' c m):JTs X' [c] m:=Qg (aa1 h)
def Bc(sc sc0:Scope):Prop:=∀x∈sc.names,x.2=.free->sc0.names.lookup x.1=some .cell\/sc0.names.lookup x.1=some .free
instance (sc sc0:Scope):Decidable (Bc sc sc0):=inferInstanceAs (Decidable (∀x∈sc.names,x.2=.free->sc0.names.lookup x.1=some .cell\/sc0.names.lookup x.1=some .free))
def T4(hi:JI X tg iter mi)(S:fU scope)(RX:Bc scope sc0)(uR:lA X scope capt N)(hc:X.calm=true) 
  (hg:∀cl C fp s H,JG 0xf tg g) (ht:∀cl C fp s H,JTs 0xf ifs t) (he:∀cl C fp s H,JE 0xf elt me)
  (h0:X.env.scope=sc0:=by rfl) (hs:∀x,foldedSetIterable iter X.env x=pure x:=by intro _;rfl):JE X 0x14 (dG capt mi g t me) :=
 JE.of (QF (g:=tKG X.K g) (tt:=tK X.K Ac t) (te:=tK X.K (lN X) me) hi S (by subst h0;exact RX) uR hc (λcl C fp s H=>Ui (hg cl C fp s H)) ht (λcl C fp s H=>Uj (he cl C fp s H)) hs) fun σ H Q h=>zty h
def zia(i:Nat)(hi:JI X tg iter mi)(S:fU scope)(RX:Bc scope sc0)(uR:lA X scope capt N)(hc:X.calm=true) 
  (hg:∀cl C fp s H,JG 0xf tg g) (ht:∀cl C fp s H,JTs 0xf ifs t) (he:∀cl C fp s H,JE 0xf elt me)
  (hN:X.N.Nodup) (hy:X.N[i]? = some y:=by rfl) (hx:Loc X.env.scope y:=by first | exact Or.inl rfl | exact Or.inr rfl) (hsw:swapsWith 0x14 (some (.Name y py)) VR.line X.env=pure true:=by rfl)
  (h0:X.env.scope=sc0:=by rfl) (hs:∀x,foldedSetIterable iter X.env x=pure x:=by intro _;rfl) (hf:X.fn y=true\/X.env.scope.names.lookup y=some .local:=by first | exact .inl rfl | exact .inr rfl | assumption) :
  JS X (.Assign [.Name y py] 0x14 VR) (aJ i (dG capt mi g t me)):=by
 refine JS.of (zsn (g:=tKG X.K g) (tt:=tK X.K Ac t) (te:=tK X.K (lN X) me) hN hy hx hsw hi S (by subst h0;exact RX) uR hc (λcl C fp s H=>Ui (hg cl C fp s H)) ht (λcl C fp s H=>Uj (he cl C fp s H)) hs hf) λE σ H zz=>?_;show 1;refine zty ⟨μ,env,st,hE,hs,(cJ.val hp).imp ?_⟩;show 4;exact aR.nx bG ((hE.mono g1).set hx)
end
def zi6:∀(env:aK) (st:ak) (as:List D) (st1:ak),au env st=.ok as st1->as.length=([]:List Expr).length:=by
 intro env st as st1 h;cases h;rfl
def Nq{e:Expr}{es:List Expr}{a:ME}{r:MA}(h:∀(env:aK) (st:ak) (as:List D) (st1:ak),r env st=.ok as st1->as.length=es.length) :
  ∀(env:aK) (st:ak) (as:List D) (st1:ak),aj a r env st=.ok as st1->as.length=(e::es).length:=by
 intro env st as st1 q;unfold aj at q;cases h1:a env st with
 | bad=>rw[h1]at q;cases q
 | err x s=>rw[h1]at q;cases q
 | ok x s =>
  rw[h1,R.aB]at q;cases h2:r env s with
  | bad=>rw[h2]at q;cases q
  | err x s=>rw[h2]at q;cases q
  | ok xs s2 =>
   rw[h2,R.aB]at q;cases q;rw[gC,gC,h env s xs _ h2]
noncomputable def fuel:Nat:=1000000
end M
namespace M
open L2
def fu(h:under st.length d):gc st (.ok d st)=.ok d st:=by
 have:=qU (st:=st) (g:=[]) h;simpa using this
def Vf(h:qy st.length o):gc st (.ok 0x3 (st++[o]))=.ok 0x3 (st++[o]):=by
 have:=ztl (st:=st) (g:=[]) (g':=[]) h;simpa using this
def zq5(h:aA st n=some ds):aA (st++l) n=some ds:=by
 unfold aA at h ⊢;cases e:st[n]? with
 | none=>rw[e]at h;cases h
 | some o =>
  rw[gP (gf.mp e).1,e];rw[e]at h;exact h
def dC{st l:ak}{n:Nat}{o:MO}(h:st[n]? = some o):(st++l)[n]? = some o:=by rw[gP (gf.mp h).1];exact h
@[simp] def Le{st l:ak}:(st++l)[st.length]? = l[0]?:=by rw[kj (gb _)];simp
@[simp] def HW{st l:ak}{o:MO}:(st++l).set st.length o=st++l.set 0 o:=by rw[List.set_append_right _ _ (gb _)];simp
def Ou(xs:List α)(k:Nat):qJ xs (k:Int)=xs[k]?:=by
 unfold qJ Cw;rw[ae7 0x0];by_cases h:k<xs.length
 ·rw[ae7 0x0];simp
 ·rw[ae8 0x0];simp;omega
def Gb(I:List D->aK->ak->Prop)(h0:I [] env st) 
  (step:∀pre d post env st,items=pre++d::post->I pre env st->uO gs st/\∃env1 st1,g d env st=.ok env1 st1/\∃bw st2,(b env1 st1=.ok (.nx bw) st2\/b env1 st1=.ok (.cn bw) st2)/\I (pre++[d]) bw st2)
  (Yy:∀env st,I items env st->uO gs st):∃cC st',bY g b gs items env st=.ok (.nx cC) st'/\I items cC st':=by
 have key:∀(post pre:List D) (env:aK) (st:ak),items=pre++post->I pre env st->∃cC st',bY g b gs post env st=.ok (.nx cC) st'/\I items cC st':=by
  intro post
  induction post with
  | nil =>
   intro pre env st e hI;have:items=pre:=by simpa using e
   subst this;exact⟨env,st,by rw[bY,ae7 (Yy env st hI)],hI⟩
  | cons d post ih =>
   intro pre env st e hI;obtain⟨ok,env1,st1,h1,bw,st2,h2,hI2⟩:=step pre d post env st e hI;obtain⟨cC,st',h3,h4⟩:=ih (pre++[d]) bw st2 (by simp[e]) hI2;refine⟨cC,st',?_,h4⟩;rw[bY,ae7 ok,h1,R.aB];rcases h2 with h2 | h2<;>(rw[h2,R.aB];exact h3)
 exact key items [] env st rfl h0
def zir{capt:List (Option Nat)}{mi:MI}{g:MG}{t:MT}{e:ME}{env:aK}{st st1:ak}{items:List D}{gs:List (Nat×MO)}(p:D->Bool)(f:D->D)(Pe:aK->Prop)
  (hi:mi env st=.ok (items,gs) st1) (h0:Pe (oh capt env)) (hl:items.length<=1000000) (hg:∀ys,uO gs (st1++[.lst ys]))
  (step:∀d∈items,∀cC ys,Pe cC->∃env1,Pe env1/\g d cC (st1++[.lst ys])=.ok env1 (st1++[.lst ys])/\t env1 (st1++[.lst ys])=.ok (p d) (st1++[.lst ys]) /\
   (p d=true->e env1 (st1++[.lst ys])=.ok (f d) (st1++[.lst ys]))) :
  dG capt mi g t e env st=.ok (.loc st1.length) (st1++[.lst ((items.filter p).map f)]):=by
 have key:∀(post:List D) (cC:aK) (ys:List D),(∀d∈post,d∈items)->Pe cC->ys.length+post.length<=1000000 ->
   fM g t e gs st1.length post cC (st1++[.lst ys])=.ok (.loc st1.length) (st1++[.lst (ys++(post.filter p).map f)]):=by
  intro post
  induction post with
  | nil=>intro cC ys _ _ _;rw[fM,ae7 (hg ys)];simp
  | cons d post ih =>
   intro cC ys hm hP hn;obtain⟨env1,hP1,h1,h2,h3⟩:=step d (hm d 0x1) cC ys hP;have N6:∀d∈post,d∈items:=λd hd=>hm d (kW _ hd);rw[gC]at hn;rw[fM,ae7 (hg ys),h1,R.aB,h2,R.aB];cases hp:p d with
   | false =>
    rw[ae8 0x1,ih env1 ys N6 hP1 0x0];simp[hp]
   | true =>
    rw[ae7 rfl,h3 hp,R.aB];simp only[Le,n_];rw[ae7 0x0,HW,List.set_cons_zero,ih env1 (ys++[f d]) N6 hP1 0x9];simp[hp]
 unfold dG;rw[hi,R.aB,key items (oh capt env) [] (λd hd=>hd) h0 (by simpa using hl)];simp
def Ox(f:D->D)(Pe:aK->Prop) 
  (hi:mi env st=.ok (items,gs) st1) (h0:Pe (oh capt env)) (hl:items.length<=1000000) (hg:∀ys,uO gs (st1++[.lst ys]))
  (step:∀d∈items,∀cC ys,Pe cC->∃env1,Pe env1/\g d cC (st1++[.lst ys])=.ok env1 (st1++[.lst ys])/\e env1 (st1++[.lst ys])=.ok (f d) (st1++[.lst ys])) :
  dG capt mi g lC e env st=.ok (.loc st1.length) (st1++[.lst (items.map f)]):=by
 have:=zir (capt:=capt) (mi:=mi) (g:=g) (t:=lC) (e:=e) (env:=env) (st:=st) (λ_=>true) f Pe hi h0 hl hg λd hd cC ys hP=>by
  obtain⟨env1,a,b,c⟩:=step d hd cC ys hP;exact⟨env1,a,b,rfl,λ_=>c⟩
 have e2:items.filter (λ_=>true)=items:=List.filter_eq_self.mpr 0x1;rw[e2]at this;exact this
section
variable  (env:aK)(st:ak)(a b:ME)(x y:D)(mA:MA)(tc ta tb:MT)(m1 m2:MS)
@[simp] def El(i:Nat):vr i env st=match env[i]? with | some (some d)=>.ok d st | _=>.bad:=eY rfl
@[simp] def aaT(d:D):ct d env st=.ok d st:=eY rfl
@[simp] def aeE(g:D->D->ak->R D):aF g a b env st=(a env st).bind λx st1=>(b env st1).bind λy st2=>g x y st2:=eY rfl
@[simp] def aeF(g:D->ak->R D):zT g a env st=(a env st).bind λx st1=>g x st1:=eY rfl
@[simp] def aeA :d7 a env st=(a env st).bind λx st1=>match x with | .bl b=>.ok b st1 | _=>.bad:=eY rfl
@[simp] def aez :jP a env st=(a env st).bind λx st1=>match jG x st1 with | some b=>.ok b st1 | none=>.bad:=eY rfl
@[simp] def adk :lr ta tb env st=(ta env st).bind λx st1=>if x then tb env st1 else .ok false st1:=eY rfl
@[simp] def aeD :Ex ta tb env st=(ta env st).bind λx st1=>if x then .ok true st1 else tb env st1:=eY rfl
@[simp] def adb :tW ta env st=(ta env st).bind λx st1=>.ok (!x) st1:=eY rfl
@[simp] def adi :uU a b env st=(a env st).bind λx st1=>match x with | .bl true=>b env st1 | .bl false=>.ok (.bl false) st1 | _=>.bad:=eY rfl
@[simp] def aeC :orV a b env st=(a env st).bind λx st1=>match x with | .bl true=>.ok (.bl true) st1 | .bl false=>b env st1 | _=>.bad:=eY rfl
@[simp] def ada :JK a env st=(a env st).bind λx st1=>match x with | .bl c=>.ok (.bl (!c)) st1 | _=>.bad:=eY rfl
@[simp] def aeH :Hd tc a b env st=(tc env st).bind λx st1=>if x then a env st1 else b env st1:=eY rfl
@[simp] def V9 :au env st=.ok [] st:=eY rfl
@[simp] def Qa :aj a mA env st=(a env st).bind λx st1=>(mA env st1).bind λxs st2=>.ok (x::xs) st2:=eY rfl
@[simp] def ac7 :fW mA env st=(mA env st).bind λds st1=>if ds.length<=1000000 then .ok (.tup ds) st1 else .bad:=eY rfl
@[simp] def adf :d_ mA env st=(mA env st).bind λds st1=>if ds.length<=1000000 then .ok (.loc st1.length) (st1++[.lst ds]) else .bad:=eY rfl
@[simp] def aeB(l h:MP):G8 a l h env st=(a env st).bind λx st1=>(l env st1).bind λlo st2=>(h env st2).bind λhi ie=>xQ x lo hi ie:=eY rfl
@[simp] def acr(g:List D->ak->R D):bD g mA env st=(mA env st).bind λds st1=>g ds st1:=eY rfl
@[simp] def ach :bI env st=.ok (.nx env) st:=eY rfl
@[simp] def Iu :aC m1 m2 env st=(m1 env st).bind λo st1=>match o with | .nx env1=>m2 env1 st1 | o=>.ok o st1:=eY rfl
@[simp] def ac_ :retS a env st=(a env st).bind λd st1=>.ok (.rt d) st1:=eY rfl
@[simp] def acn :dO a env st=(a env st).bind λ_ st1=>.ok (.nx env) st1:=eY rfl
@[simp] def aeG :fJ tc m1 m2 env st=(tc env st).bind λx st1=>if x then m1 env st1 else m2 env st1:=eY rfl
@[simp] def zr2(i:Nat):aM i x env st=.ok (env.set i (some x)) st:=eY rfl
@[simp] def adh(g:MG):jy a g env st=(a env st).bind λd st1=>(g d env st1).bind λenv1 st2=>.ok (.nx env1) st2:=eY rfl
@[simp] def V8(i:Nat):aJ i a env st=(a env st).bind λd st1=>.ok (.nx (env.set i (some d))) st1:=eY rfl
@[simp] def ade :rJ [] env st=.ok env st:=eY rfl
@[simp] def acp(g:MG)(r:Od)(d:D)(ds:List D):cU g r (d::ds) env st=(g d env st).bind λenv1 st1=>r ds env1 st1:=eY rfl
@[simp] def ac6(n:Nat)(g:Od)(ds:List D):qz n g (.tup ds) env st=if ds.length=n then g ds env st else .bad:=eY rfl
@[simp] def ac8(g:D->D->D->ak->R Unit)(d:D):tU g a b d env st=(a env st).bind λx st1=>(b env st1).bind λy st2=>(g x y d st2).bind λ_ ie=>.ok env ie:=eY rfl
@[simp] def acq(F:FD)(dd:List D):az F dd mA env st=(mA env st).bind λas st1=>(F (as++dd) st1).sure:=eY rfl
@[simp] def ack(T:String)(g:D->List D->ak->R D):cI T g a mA env st=(a env st).bind λx st1=>if cX T x st1=true then (mA env st1).bind λxs st2=>g x xs st2 else .bad:=eY rfl
@[simp] def aaP(T:String)(g:D->List D->ak->R D):fc T g a env st=(a env st).bind λx st1=>if cX T x st1=true then g x [] st1 else .bad:=eY rfl
@[simp] def xR(mi:MI)(g:MG):iH mi g m1 env st=(mi env st).bind λs st1=>bY g m1 s.2 s.1 env st1:=eY rfl
@[simp] theorem ztp :fB a env st=(a env st).bind λd st1=>match d with
 | .loc n=>(match st1[n]? with
  | some (.lst ds)=>.ok (ds,[(n,.lst ds)]) st1
  | some (.frz ds)=>.ok (ds,[(n,.frz ds)]) st1
  | _=>.bad)
 | .tup ds=>.ok (ds,[]) st1
 | _=>.bad:=eY rfl
@[simp] theorem Em :jW mA env st=(mA env st).bind λds st1=>match ds with
 | [.int j]=>if -(2 ^ 62)<=j/\j<2 ^ 62 then .ok (qx 0 j.toNat,[]) st1 else .bad
 | _=>.bad:=eY rfl
@[simp] theorem aco :sE mA env st=(mA env st).bind λds st1=>match ds with
 | [.loc n]=>(match rN st1 n with | some (xs,o)=>.ok (cN 0 xs,[(n,o)]) st1 | none=>.bad)
 | _=>.bad:=eY rfl
@[simp] theorem ac9 :Ik mA env st=(mA env st).bind λds st1=>match ds with
 | [.loc n]=>(match rN st1 n with | some (xs,o)=>.ok (xs.reverse,[(n,o)]) st1 | none=>.bad)
 | _=>.bad:=eY rfl
@[simp] def Ep(i j:Int):bj (.int i) (.int j) st=.ok (.int (i+j)) st:=eY rfl
@[simp] def zke(i j:Int):rE (.int i) (.int j) st=.ok (.int (i - j)) st:=by simp[rE,rT]
def Ot(i j:Int)(h:(-(2 ^ 64)<i/\i<2 ^ 64)\/(-(2 ^ 64)<j/\j<2 ^ 64)):jk (.int i) (.int j) st=.ok (.int (i*j)) st:=by
 unfold jk rT;dsimp only;rw[ae7 h]
def zf3(i j:Int)(h:0<j/\j<2 ^ 64):ql (.int i) (.int j) st=.ok (.int (i / j)) st:=by
 unfold ql rT;dsimp only;rw[ae7 h]
def zh0(i j:Int)(h:0<j):jJ (.int i) (.int j) st=.ok (.int (i % j)) st:=by
 unfold jJ rT;dsimp only;rw[ae7 h]
@[simp] def Iw(i j:Int):ltV (.int i) (.int j) st=.ok (.bl (decide (i<j))) st:=by simp[ltV,rT]
@[simp] def zno(i j:Int):CK (.int i) (.int j) st=.ok (.bl (decide (j<i))) st:=by simp[CK,rT]
@[simp] def aaS(L:Nat)(i j:Int):ig (L+1) (.int i) (.int j) st=.ok (.bl (decide (i=j))) st:=by
 have e:(i==j)=decide (i=j):=by rw[mD];simp
 simp only[ig,j5,jm,e,Ls,Mw];rw[ae7 ⟨trivial,trivial,Nat.succ_pos L⟩]
@[simp] def IK(L:Nat)(i j:List Nat):ig (L+1) (.str i) (.str j) st=.ok (.bl (decide (i=j))) st:=by
 have e:(i==j)=decide (i=j):=by rw[mD];simp
 simp only[ig,j5,jm,e,Lr,Mv];rw[ae7 ⟨trivial,trivial,Nat.succ_pos L⟩]
def LC(L:Nat)(d:D)(st:ak)(hf:flat d=true)(hd:dep d+dep d<L):j5 L d d st=some true:=by
 have e:=zoe d hf;have c:flat d=true/\flat d=true/\dJ d d<L:=⟨hf,hf,by have:=zr3 d d;omega⟩;cases d with
 | loc n=>simp[flat]at hf
 | non=>exact (ae7 c).trans (congrArg some e)
 | bl b=>exact (ae7 c).trans (congrArg some e)
 | int i=>exact (ae7 c).trans (congrArg some e)
 | str s=>exact (ae7 c).trans (congrArg some e)
 | tup ds=>exact (ae7 c).trans (congrArg some e)
def Eo(L:Nat)(d:D)(hf:flat d=true)(hd:dep d+dep d<L):ig L d d st=.ok (.bl true) st:=by
 have:j5 L d d st=some true:=LC L d st hf hd;unfold ig;rw[this]
def v8(n:Nat)(i:Int)(ds:List D)(d:D)(h:aA st n=some ds)(hi:qJ ds i=some d):aX (.loc n) (.int i) st=.ok d st:=by
 simp[aX,h,hi]
def Bf(i:Int)(ds:List D)(d:D)(hi:qJ ds i=some d):aX (.tup ds) (.int i) st=.ok d st:=by
 simp[aX,hi]
@[simp] def aaR(T:String)(i:List Nat):yj T (.str i) st=.ok (.bl (lq "str" T)) st:=eY rfl
@[simp] def aaQ(T:String)(i:List D):yj T (.tup i) st=.ok (.bl (lq "tuple" T)) st:=eY rfl
end
end M
namespace L2
open PySem PySem.Spec PyProof.Rows
section
variable  {κ:Type}[DecidableEq κ]
noncomputable def i_(kvs:List (κ×V))(k:κ):Option V:=(kvs.find? λkv=>decide (kv.1=k)).map (·.2)
noncomputable def putK(kvs:List (κ×V))(k:κ)(v:V):List (κ×V) :=
 if (kvs.any λkv=>decide (kv.1=k))=true then kvs.map (λkv=>if kv.1=k then (kv.1,v) else kv) else kvs++[(k,v)]
def ziq{p:κ×V}{r:List (κ×V)}{k:κ}(e:p.1=k):i_ (p::r) k=some p.2:=by simp[i_,m7,e]
def zjf{p:κ×V}{r:List (κ×V)}{k:κ}(e:¬ p.1=k):i_ (p::r) k=i_ r k:=by simp[i_,m7,e]
theorem znf(k:κ):∀kvs:List (κ×V),(kvs.any λkv=>decide (kv.1=k))=(i_ kvs k).isSome
 | []=>rfl
 | p::r=>by
  rw[mR];by_cases e:p.1=k
  ·simp only[ziq e,afb e,Bool.true_or,Option.isSome_some]
  ·rw[zjf e,ae_ e,Bool.false_or];exact znf k r
def zg0(kvs:List (κ×V))(k:κ)(v:V):(putK kvs k v).length<=kvs.length+1:=by
 unfold putK
 split
 ·rw[gj];omega
 ·rw[gQ,gC,mY];omega
def I_{kvs:List (κ×V)}{k:κ}(v:V)(h:i_ kvs k=none):putK kvs k v=kvs++[(k,v)]:=by
 unfold putK;rw[znf,h];exact ae8 0x5
def lu.t6(r:lu o u):o.isSome=u.isSome:=by
 cases o with
 | none=>cases u with
  | none=>rfl
  | some _=>exact (show False from r).elim
 | some _=>cases u with
  | none=>exact (show False from r).elim
  | some _=>rfl
def lu.getD(r:lu o u)(rd:RelV d d'):RelV (o.getD d) (u.getD d'):=by
 cases o with
 | none=>cases u with
  | none=>exact rd
  | some _=>exact (show False from r).elim
 | some _=>cases u with
  | none=>exact (show False from r).elim
  | some _=>exact r
def KV.val{kvs:List (κ×V)}{vs:List (κ×Value)}(r:KV kvs vs)(k:κ):lu (i_ kvs k) (valueAt vs k):=by
 unfold KV at r
 induction r with
 | nil=>exact True.intro
 | @cons p q ps qs h t ih =>
  obtain⟨h1,h2⟩:=h;by_cases e:p.1=k
  ·have e':q.1=k:=h1.symm.trans e;have b:valueAt (q::qs) k=some q.2:=by simp[valueAt,m7,e']
   rw[ziq e,b];exact h2
  ·have e':¬ q.1=k:=λz=>e (h1.trans z);have b:valueAt (q::qs) k=valueAt qs k:=by simp[valueAt,m7,e']
   rw[zjf e,b];exact ih
def KV.any(r:KV kvs vs)(k:κ):(kvs.any λkv=>decide (kv.1=k))=vs.any λkv=>decide (kv.1=k):=by
 unfold KV at r
 induction r with
 | nil=>rfl
 | cons h t ih=>rw[mR,mR,ih,h.1]
def KV.repl(r:KV kvs vs)(k:κ)(ry:RelV y u) :
  KV (kvs.map λkv=>if kv.1=k then (kv.1,y) else kv) (vs.map λkv=>if kv.1=k then (kv.1,u) else kv):=by
 unfold KV at r ⊢
 induction r with
 | nil=>exact .nil
 | @cons p q ps qs h t ih =>
  rw[gq,gq];refine .cons ?_ ih;obtain⟨h1,h2⟩:=h;by_cases e:p.1=k
  ·rw[ae7 e,ae7 (h1.symm.trans e)];exact⟨h1,ry⟩
  ·rw[ae8 e,ae8 (λz=>e (h1.trans z))];exact⟨h1,h2⟩
def KV.put(r:KV kvs vs)(k:κ)(ry:RelV y u):KV (putK kvs k y) (stored vs k u):=by
 unfold putK stored;rw[r.any k];by_cases e:(vs.any λkv=>decide (kv.1=k))=true
 ·rw[ae7 e,ae7 e];exact r.repl k ry
 ·rw[ae8 e,ae8 e];exact Paired.snoc r ⟨rfl,ry⟩
def KV.length(r:KV kvs vs):kvs.length=vs.length:=afr r
end
def vI(r:RelV (kV k) u):(bK P w).is k u=true:=by
 cases k with
 | inl i=>obtain⟨t,e⟩:=(show ∃t,u=Value.int i t from r);subst e;exact zql P w i t
 | inr x=>obtain⟨t,e⟩:=(show ∃t,u=Value.str x t from r);subst e;exact zqx P w x t
theorem zpg:∀{ks:List Key} {us:List Value},Vals (ks.map kV) us->ItemsAre (bK P w) ks us
 | [],_,r=>by rw[mC]at r;cases r;exact .nil
 | k::ks,_,r=>by
  rw[gq]at r;cases r with
  | cons h t=>exact .cons (vI h) (zpg t)
abbrev KT(H:Hp):List (List Key×V)->List (List Key×Addr×Value)->Prop:=Paired λp q=>p.1=q.1/\H q.2.1=some (.tup (p.1.map kV))/\RelV p.2 q.2.2
def KT.val{H:Hp}{kvs:List (List Key×V)}{xs:List (List Key×Addr×Value)}(r:KT H kvs xs)(k:List Key):lu (i_ kvs k) ((atKey xs k).map (·.2)):=by
 induction r with
 | nil=>exact True.intro
 | @cons p q ps qs h t ih =>
  obtain⟨h1,_,h2⟩:=h;by_cases e:p.1=k
  ·have e':q.1=k:=h1.symm.trans e;have b:atKey (q::qs) k=some q.2:=by simp[atKey,m7,e']
   rw[ziq e,b];exact h2
  ·have e':¬ q.1=k:=λz=>e (h1.trans z);have b:atKey (q::qs) k=atKey qs k:=by simp[atKey,m7,e']
   rw[zjf e,b];exact ih
def KT.repl(r:KT H kvs xs)(k:List Key)(ry:RelV y u) :
  KT H (kvs.map λkv=>if kv.1=k then (kv.1,y) else kv) (xs.map (putAt k u)):=by
 induction r with
 | nil=>exact .nil
 | @cons p q ps qs h t ih =>
  rw[gq,gq];refine .cons ?_ ih;obtain⟨h1,h2,h3⟩:=h;unfold putAt;by_cases e:p.1=k
  ·rw[ae7 e,ae7 (h1.symm.trans e)];exact⟨h1,h2,ry⟩
  ·rw[ae8 e,ae8 (λz=>e (h1.trans z))];exact⟨h1,h2,h3⟩
def KT.put(r:KT H kvs xs)(k:List Key)(hb:H b=some (.tup (k.map kV)))(ry:RelV y u) :
  KT H (putK kvs k y) (storedH xs k b u):=by
 have e:(kvs.any λkv=>decide (kv.1=k))=(atKey xs k).isSome:=by
  rw[znf,(r.val k).t6,Option.isSome_map]
 unfold putK storedH;rw[e];by_cases q:(atKey xs k).isSome=true
 ·rw[ae7 q,ae7 q];exact r.repl k ry
 ·rw[ae8 q,ae8 q];exact Paired.snoc r ⟨rfl,hb,ry⟩
def KT.keeps(r:KT H kvs xs)(ht:∀b ys,H b=some (.tup ys)->H' b=some (.tup ys)):KT H' kvs xs :=
 Paired.Xb r λ_ _ z=>⟨z.1,ht _ _ z.2.1,z.2.2⟩
section
variable  {P:Program}{w:World}{H:Hp}{h:Heap}{a:Addr}
def Uh(ok:lz P w H h)(e:Rd H a u):cA P w H h a u:=e.ok ok
def um(ok:lz P w H h)(e:Rd H a (.dK kvs)):kvs.length<=sizeLine/\(a==sysModules)=false/\∃vs,KV kvs vs/\h.DictOf (bK P w) a vs :=
 show cA P w H h a (.dK kvs) from Uh ok e
def U4(ok:lz P w H h)(e:H a=some (.dK kvs)):kvs.length<=sizeLine/\(a==sysModules)=false/\∃vs,KV kvs vs/\h.DictOf (bK P w) a vs:=um ok (.inl e)
def Vd(ok:lz P w H h)(e:H a=some (.tup (ks.map kV))):(tupleKind (bK P w)).is h ks a:=by
 obtain⟨_,its,r,o,h1,h2,n,h3⟩:=(show cA P w H h a (.tup (ks.map kV)) from ok a _ e);exact⟨o,its.toArray,n,h1,h2,h3,by simpa using zpg r⟩
def xF(ok:lz P w H h)(e:Rd H a (.dT kvs)):kvs.length<=sizeLine/\(a==sysModules)=false /\
  ∃xs,KT H kvs xs/\h.DictOfH (tupleKind (bK P w)) a xs:=by
 obtain⟨z,y,xs,r,o,es,ep,h1,h2,h3,h4,h5⟩:=(show cA P w H h a (.dT kvs) from Uh ok e);refine⟨z,y,xs,r,o,es,ep,h1,h2,h3,h4,λx hx=>?_,h5⟩;have all:∀{l:List (List Key×V)} {m:List (List Key×Addr×Value)},KT H l m->∀x∈m,(tupleKind (bK P w)).is h x.1 x.2.1:=by
  intro l m q
  induction q with
  | nil=>intro x hx;exact nomatch hx
  | @cons p q ps qs hq t ih =>
   intro x hx;rcases gm.mp hx with e | hx
   ·subst e;exact Vd ok (by rw[<-hq.1];exact hq.2.1)
   ·exact ih x hx
 exact all r x hx
def U3(ok:lz P w H h)(e:H a=some (.dT kvs)):kvs.length<=sizeLine/\(a==sysModules)=false /\
  ∃xs,KT H kvs xs/\h.DictOfH (tupleKind (bK P w)) a xs:=xF ok (.inl e)
end
def qO(H:Hp)(a:Addr)(y:V)(r:Option V):Prop :=
 (∃kvs k,Rd H a (.dK kvs)/\y=kV k/\r=i_ kvs k)\/∃kvs k b,Rd H a (.dT kvs)/\y=.ref b/\H b=some (.tup (k.map kV))/\r=i_ kvs k
def Bd(H:Hp)(a:Addr)(y v:V)(H':Hp):Prop :=
 (∃kvs k,H a=some (.dK kvs)/\y=kV k/\kvs.length<sizeLine/\H'=upd H a (.dK (putK kvs k v))) \/
 ∃kvs k b,H a=some (.dT kvs)/\y=.ref b/\H b=some (.tup (k.map kV))/\kvs.length<sizeLine/\H'=upd H a (.dT (putK kvs k v))
def qO.k{H:Hp}{a:Addr}{kvs:List (Key×V)}{k:Key}(e:H a=some (.dK kvs)):qO H a (kV k) (i_ kvs k):=.inl ⟨kvs,k,.inl e,rfl,rfl⟩
def qO.t{H:Hp}{a b:Addr}{kvs:List (List Key×V)}{k:List Key}(e:H a=some (.dT kvs))(eb:H b=some (.tup (k.map kV))):qO H a (.ref b) (i_ kvs k):=.inr ⟨kvs,k,b,.inl e,rfl,eb,rfl⟩
def Bd.k{H:Hp}{a:Addr}{kvs:List (Key×V)}{k:Key}{v:V}(e:H a=some (.dK kvs))(hl:kvs.length<sizeLine):Bd H a (kV k) v (upd H a (.dK (putK kvs k v))):=.inl ⟨kvs,k,e,rfl,hl,rfl⟩
def Bd.t{H:Hp}{a b:Addr}{kvs:List (List Key×V)}{k:List Key}{v:V}(e:H a=some (.dT kvs))(eb:H b=some (.tup (k.map kV)))(hl:kvs.length<sizeLine) :
  Bd H a (.ref b) v (upd H a (.dT (putK kvs k v))):=.inr ⟨kvs,k,b,e,rfl,eb,hl,rfl⟩
section
variable  {X:Cx}{pins:List 0x6}{σ:St}{H:Hp}{s:Shared}{a:Addr}{y v:V}{u r:Value}{o:Option V}{A:Around}{E:Value->Shared->Prop}
def Inv.big(I:Inv X pins σ H s):sysModules<s.heap.objs.size:=by
 have h:mainGlobals<s.heap.objs.size:=(I.mod.glob.keeps I.bk).lt;exact Nat.lt_trans 0x5 h
def Gj(hu:A.units+1<cLine)(I:Inv X pins σ H s)(g:qO H a y (some v))(ry:RelV y u)(h:∀w' s',Inv X pins σ H s'->RelV v w'->Q w' s') :
  wpAny 0x7 A (getItem (.ref a) u) Q E s:=by
 rcases g with⟨kvs,k,e,ey,l⟩ | ⟨kvs,k,b,e,ey,eb,l⟩
 ·subst ey;obtain⟨z,hd,vs,rel,dd⟩:=um I.bQ e;obtain⟨w',hw,z_⟩:=lu.some_of (v:=v) (o:=valueAt vs k) (by rw[l];exact rel.val k);exact wpAny_getItem_of (vI ry) dd.mapOf hw (h w' _ (I.tok _) z_)
 ·subst ey;show 23;obtain⟨w',hw,z_⟩:=lu.some_of (v:=v) (o:=(atKey xs k).map (·.2)) (by rw[l];exact rel.val k);obtain⟨p,hp,dX⟩:=nA.mp hw;refine wpAny_getItem_heap (afs hu) (Vd I.bQ eb) dd hp ?_;rw[dX];exact h w' _ (I.tok _) z_
def Sq(hu:A.units+1<cLine)(I:Inv X pins σ H s)(g:qO H a y o)(ry:RelV y u)(h:∀s',Inv X pins σ H s'->Q (.bool (!o.isSome)) s') :
  wpAny 0x7 A (compareOp .NotIn u (.ref a)) Q E s:=by
 rcases g with⟨kvs,k,e,ey,l⟩ | ⟨kvs,k,b,e,ey,eb,l⟩
 ·subst ey;obtain⟨z,hd,vs,rel,dd⟩:=um I.bQ e;refine wpAny_notIn_of (vI ry) hd dd.mapOf ?_;rw[<-(rel.val k).t6,<-l];exact h _ (I.tok _)
 ·subst ey;show 23;refine wpAny_notIn_heap (afs hu) (Vd I.bQ eb) hd dd ?_;have q:=(rel.val k).t6;rw[Option.isSome_map]at q;rw[<-q,<-l];exact h _ (I.tok _)
def zpp(I:Inv X pins σ H s)(mu:Mut (H a))(hs:Heap.SameBut a s.heap h')(he:∃q,h'.get? a=some q)(new:cA X.prog X.w (upd H a ob) h' a ob) :
  Inv X pins σ (upd H a ob) { s with heap:=h',toks:=t' } :=
 I.write (x:=a) (e:=a) mu (.inl rfl) (λb q hb z=>(hs.2 b hb).trans z) he new
def A_(z:kvs.length<=sizeLine)(hd:(a==sysModules)=false)(rel:KV kvs vs)(dd:h'.DictOf (bK P w) a vs) :
  cA P w H' h' a (.dK kvs):=⟨z,hd,vs,rel,dd⟩
def zo2(hu:A.units+1<cLine)(I:Inv X pins σ H s)(g:Bd H a y v H')(ry:RelV y u)(rv:RelV v r)(h:∀s',Inv X pins σ H' s'->Q () s') :
  wpAny 0x7 A (setItem (.ref a) u r) Q E s:=by
 rcases g with⟨kvs,k,e,ey,l,eH⟩ | ⟨kvs,k,b,e,ey,eb,l,eH⟩
 ·subst ey eH;obtain⟨z,hd,vs,rel,dd⟩:=U4 I.bQ e;have hz:vs.length<=sizeLine:=by rw[<-rel.length];exact z
  have hl:(putK kvs k v).length<=sizeLine:=by have:=zg0 kvs k v;omega
  refine wpAny_setItem_pairs (hsz:=hz) (vI ry) dd λh' Mj hs=>h _ ?_;have he:∃q,h'.get? a=some q:=let ⟨q,_,_,hq,_⟩:=Mj;⟨q,hq⟩;exact zpp I (by rw[e];exact True.intro) hs he (A_ hl hd (rel.put k rv) Mj)
 ·subst ey eH;cases (show u=Value.ref b from ry);obtain⟨z,hd,xs,rel,dd⟩:=U3 I.bQ e;have hz:xs.length<=sizeLine:=by rw[<-afr rel];exact z
  have hl:(putK kvs k v).length<=sizeLine:=by have:=zg0 kvs k v;omega
  refine wpAny_setItem_heap (hsz:=hz) (afs hu) (Vd I.bQ eb) dd λh' Mj hs=>h _ ?_;obtain⟨q,es,ep,hq,h2,h3,h4,_,h5⟩:=Mj;refine zpp I (by rw[e];exact True.intro) hs ⟨q,hq⟩ ⟨hl,hd,_,(rel.put k eb rv).keeps λc ys ec=>?_,q,es,ep,hq,h2,h3,h4,h5⟩;rw[iK (vy ec e (λz=>nomatch z))];exact ec
end
section
variable  {X:Cx}{pins:List 0x6}{σ:St}{H:Hp}{s:Shared}{a:Addr}{kvs:List (Key×V)}{k:Key}{u:Value}{A:Around}{E:Value->Shared->Prop}
def abV(I:Inv X pins σ H s)(e:Rd H a (.dK kvs))(h:∀t s',Inv X pins σ H s'->Q (.int kvs.length t) s'):wpAny 0x7 A (call (.builtin "len") [.ref a]) Q E s:=by
 obtain⟨z,hd,vs,rel,dd⟩:=um I.bQ e;refine call_len_dict hd dd (by rw[<-rel.length];rw[afK]at z;omega) ?_;rw[<-rel.length];exact h _ _ (I.tok _)
end
def Y_(i:Expr):Prop:=∀ov iv,subscripted i false ov iv=operate [ov,iv] (getItem ov iv)
def Pb{prog:Program}{w:World}{A:Around}{E:Value->Shared->Prop}{s:Shared}{env:Env}{value slice:Expr}{pos:Pos}{T id:String}{Q:Value->Shared->Prop}
  (hl:typeLookup (.type T) "__getitem__" = pure (some (.builtin id))) (hs:Y_ slice)
  (h:wpAny 0xa A (eval value env) (λo aeW=>wpAny 0xa A (eval slice env) (λi aeV=>aeV.TypeIs o T/\wpAny 0xa A (getItem o i) Q E aeV) E aeW) E s) :
  wpAny 0xa A (eval (.Subscript value slice pos) env) Q E s:=by
 refine Subscript_ (afk h (λo aeW ae4=>afk ae4 (λi aeV ae3=>?_) λ_ _ x=>x) λ_ _ x=>x);obtain⟨hT,ae3⟩:=ae3;unfold subscriptTail;refine ae6 ?_;rw[getitemInPython_of_ne hT.not_modules];refine ae6 (afI hT hl ?_);have fin:wpAny 0xa A (subscripted slice false o i) (λr aeU=>wpAny 0xa A (letTemporaryGo value o r >>= λ_=>pure r) Q E aeU) E aeV:=by
  rw[hs o i];exact wpAny_operating (afk ae3 (λr aeU ae2=>ae6 (wpAny_letTemporaryGo (ae9 ae2))) λ_ _ x=>x)
 first
  | exact ae9 (ae6 fin)
  | exact ae6 (ae9 (ae6 fin))
  | exact ae6 fin
def zqm(I:Inv X pins σ H s)(g:qO H a y o):s.TypeIs (.ref a) "dict":=by
 rcases g with⟨kvs,k,e,_,_⟩ | ⟨kvs,k,b,e,_,_,_⟩
 ·obtain⟨_,_,vs,_,dd⟩:=um I.bQ e;exact dd.typeIs
 ·obtain⟨_,_,xs,_,dd⟩:=xF I.bQ e;exact dd.typeIs
noncomputable def aaF(td ty:TE):TE:=fun σ H Q=>td σ H λx H1=>ty σ H1 λy H2=>∃a v,x=.ref a/\qO H2 a y (some v)/\Q v H2
section
variable  {X:Cx}{o i e value:Expr}{pos pos' xO:Pos}{td ty tv:TE}
def QD(hu:X.A.units+1<cLine)(ho:PE X o td)(hi:PE X i ty)(hs:Y_ i):PE X (.Subscript o i pos) (aaF td ty):=by
 show 8;refine Pb PySem.F.slot_dict_getitem.lookup hs (cO (ho pins s σ H _ I h) λu s1 zz=>?_);obtain⟨x,H1,I1,rx,q1⟩:=zz;refine cO (hi pins s1 σ H1 _ I1 q1) λiv s2 zz=>?_;obtain⟨y,H2,I2,ry,a,v,ex,g,q2⟩:=zz;subst ex;obtain rfl:u=Value.ref a:=rx;exact⟨zqm I2 g,Gj hu I2 g ry λw' s3 I3 z_=>⟨v,H2,I3,z_,q2⟩⟩
end
def ztb(h:Heap)(hb:sysModules<h.objs.size):cA P w H (h.push { cls:=.type "dict",data:=.dict #[] }) h.objs.size (.dK []) :=
 ⟨mL _,beq_eq_false_iff_ne.mpr (afi (gY hb)),[],.nil,Heap.DictOf.new h⟩
def L_(h:Heap)(hb:sysModules<h.objs.size):cA P w H (h.push { cls:=.type "dict",data:=.dict #[] }) h.objs.size (.dT []) :=
 ⟨mL _,beq_eq_false_iff_ne.mpr (afi (gY hb)),[],.nil,_,#[],0,g_ _ rfl,⟨rfl,rfl,rfl⟩,rfl,rfl,List.nodup_nil⟩
noncomputable def VL:TE:=λ_ H Q=>∀p,H p=none->Q (.ref p) (upd H p (.dK []))
noncomputable def VJ:TE:=λ_ H Q=>∀p,H p=none->Q (.ref p) (upd H p (.dT []))
section
variable  {X:Cx}{pos:Pos}
def Jr:PE X (.Dict [] [] pos) VL:=λpins s σ H Q I h =>
 wpAny_Dict_empty ⟨.ref s.heap.objs.size,_,I.laid (a:=s.heap.objs.size) (o:=.dK []) (t':=s.toks) (λ_ _ q=>gF _ q) (gb _) (ztb s.heap I.big),rfl,h _ (I.bQ.fresh (gb _))⟩
def Jq:PE X (.Dict [] [] pos) VJ:=λpins s σ H Q I h =>
 wpAny_Dict_empty ⟨.ref s.heap.objs.size,_,I.laid (a:=s.heap.objs.size) (o:=.dT []) (t':=s.toks) (λ_ _ q=>gF _ q) (gb _) (L_ s.heap I.big),rfl,h _ (I.bQ.fresh (gb _))⟩
end
def xP:List (TE×TE)->St->Hp->(List (V×V)->Hp->Prop)->Prop
 | [],_,H,Q=>Q [] H
 | (tk,tv)::r,σ,H,Q=>tk σ H λx H1=>tv σ H1 λy H2=>xP r σ H2 λps H3=>Q ((x,y)::ps) H3
abbrev VV:List (V×V)->List (Value×Value)->Prop:=Paired λp q=>RelV p.1 q.1/\RelV p.2 q.2
def PPs(X:Cx)(pos:Pos)(keys:List (Option Expr))(values:List Expr)(z8:List (TE×TE)):Prop :=
 ∀(pins:List 0x6) (s:Shared) (σ:St) (H:Hp) (Q:List (V×V)->Hp->Prop),Inv X pins σ H s->xP z8 σ H Q ->
  wpAny 0x7 X.A (evalPairs (pairTrees keys values X.env pos)) (λvs s'=>∃ps H',Inv X pins σ H' s'/\VV ps vs/\Q ps H') X.xe s
def Qm{X:Cx}{pos:Pos}:PPs X pos [] [] []:=λpins s σ H Q I h=>pairTrees_nil_walk ⟨[],H,I,.nil,h⟩
def Je{X:Cx}{pos:Pos}{k v:Expr}{ks:List (Option Expr)}{vs:List Expr}{tk tv:TE}{z8:List (TE×TE)}(hk:PE X k tk)(hv:PE X v tv)(hr:PPs X pos ks vs z8) :
  PPs X pos (some k::ks) (v::vs) ((tk,tv)::z8):=λpins s σ H Q I h =>
 pairTrees_cons_walk (cO (hk pins s σ H _ I h) λu s1 ⟨x,H1,I1,rx,q1⟩=>cO (hv pins s1 σ H1 _ I1 q1) λw2 s2 ⟨y,H2,I2,ry,q2⟩ =>
  cO (hr pins s2 σ H2 _ I2 q2) λws s3 ⟨ps,H3,I3,rel,q3⟩=>⟨(x,y)::ps,H3,I3,.cons ⟨rx,ry⟩ rel,q3⟩)
noncomputable def jZ(kvs more:List (Key×V)):List (Key×V):=more.foldl (λacc kv=>putK acc kv.1 kv.2) kvs
def KV.merge:∀{more:List (Key×V)} {rs:List (Key×Value)} {kvs:List (Key×V)} {vs:List (Key×Value)},KV more rs->KV kvs vs->KV (jZ kvs more) (merged vs rs):=by
 intro more rs kvs vs r;unfold KV at r
 induction r generalizing kvs vs with
 | nil=>intro q;exact q
 | @cons p q ps qs h t ih =>
  intro r0;have e:KV (putK kvs p.1 p.2) (stored vs q.1 q.2):=by
   have:=r0.put p.1 h.2;rw[<-h.1];exact this
  exact ih e
theorem zg4:∀(more kvs:List (Key×V)),(jZ kvs more).length<=kvs.length+more.length
 | [],kvs=>by show kvs.length<=kvs.length+0;omega
 | p::r,kvs=>by
  have h1:=zg4 r (putK kvs p.1 p.2);have h2:=zg0 kvs p.1 p.2;show (jZ (putK kvs p.1 p.2) r).length<=_;rw[gC];omega
theorem zl8{P:Program}{w:World}:∀{kvs:List (Key×V)} {ws:List (Value×Value)},VV (kvs.map λkv=>(kV kv.1,kv.2)) ws->∃rs,Carries (bK P w) ws rs/\KV kvs rs
 | [],_,r=>by rw[mC]at r;cases r;exact⟨[],True.intro,.nil⟩
 | p::kvs,_,r=>by
  rw[gq]at r;cases r with
  | @cons a b as bs h t =>
   obtain⟨rs,c,q⟩:=zl8 (P:=P) (w:=w) t;obtain⟨b1,b2⟩:=b;exact⟨(p.1,b2)::rs,⟨vI h.1,rfl,c⟩,.cons ⟨rfl,h.2⟩ q⟩
noncomputable def aaE(z8:List (TE×TE)):TE:=fun σ H Q=>∀p,H p=none->xP z8 σ (upd H p (.dK [])) λps H2=>H2 p=some (.dK [])/\∃kvs:List (Key×V),ps=kvs.map (λkv=>(kV kv.1,kv.2))/\kvs.length<=15/\Q (.ref p) (upd H2 p (.dK (jZ [] kvs)))
def QC{X:Cx}{pos:Pos}{keys:List (Option Expr)}{values:List Expr}{z8:List (TE×TE)}(h:PPs X pos keys values z8)(uT:keys.all (·.isSome)=true)(hl:keys.length=values.length)(h0:keys≠[])
  (h15:keys.length<=15):PE X (.Dict keys values pos) (aaE z8):=by
 intro pins s σ H Q I q;have hn:=I.bQ.fresh (gb s.heap.objs.size);have I1:=I.laid (a:=s.heap.objs.size) (o:=.dK []) (h':=s.heap.push { cls:=.type "dict",data:=.dict #[] }) (t':=s.toks) (λ_ _ q=>gF _ q) (gb _) (ztb s.heap I.big);refine wpAny_Dict_walk (knd:=bK X.prog X.w) uT hl h0 h15 (cO (h pins _ σ _ _ I1 (q _ hn)) λws s2 zz=>?_);obtain⟨ps,H2,I2,rel,e,kvs,ep,lk,q2⟩:=zz;subst ep;obtain⟨rs,c,rk⟩:=zl8 (P:=X.prog) (w:=X.w) rel;obtain⟨z,hd,NK,r0,dd⟩:=U4 I2.bQ e;cases r0;refine⟨rs,c,dd,λh' Mj hs=>⟨.ref s.heap.objs.size,_,?_,rfl,q2⟩⟩;have hz:(jZ [] kvs).length<=sizeLine:=by
  have h1:=zg4 kvs [];rw[mY]at h1;rw[afK];omega
 have he:∃q,h'.get? s.heap.objs.size=some q:=let ⟨q,_,_,hq,_⟩:=Mj;⟨q,hq⟩;exact zpp I2 (by rw[e];exact True.intro) hs he (A_ hz hd (rk.merge .nil) Mj)
structure M1(X:Cx)(o:Expr)(m:Str)(apos:Pos)(e:Expr)(dH:Pos):Prop where
 base:attributeBase o m X.env (eval o X.env)=eval o X.env
 few:(#[10,dH,[e]].all (λx=>!x.1) && (backToKw dH (keywordEach [] X.env)).all (λx=>x.1.isSome)
  && decide (([e]:List Expr).length+([]:List Keyword).length+(if ([]:List Keyword).isEmpty then 0 else 1)<30))=true
 line:(apos.endLine==dH.line)=true
 trees:backTo dH (starEach [e] X.env)=[0xb]
structure M2(X:Cx)(o:Expr)(m:Str)(apos:Pos)(e f:Expr)(dH:Pos):Prop where
 base:attributeBase o m X.env (eval o X.env)=eval o X.env
 few:(#[10,dH,[e,f]].all (λx=>!x.1) && (backToKw dH (keywordEach [] X.env)).all (λx=>x.1.isSome)
  && decide (([e,f]:List Expr).length+([]:List Keyword).length+(if ([]:List Keyword).isEmpty then 0 else 1)<30))=true
 line:(apos.endLine==dH.line)=true
 trees:backTo dH (starEach [e,f] X.env)=[0xb,(false,eval f X.env)]
section
variable  {X:Cx}{pins:List 0x6}{σ:St}{H:Hp}{s:Shared}{a:Addr}{y d:V}{u r:Value}{o:Option V}{A:Around}{E:Value->Shared->Prop}
def YX(hu:A.units+1<cLine)(I:Inv X pins σ H s)(g:qO H a y o)(ry:RelV y u)(h:∀w' s',Inv X pins σ H s'->RelV (o.getD .non) w'->Q w' s') :
  wpAny 0x7 A (call (.builtin "dict.get") [.ref a,u]) Q E s:=by
 rcases g with⟨kvs,k,e,ey,l⟩ | ⟨kvs,k,b,e,ey,eb,l⟩
 ·subst ey;obtain⟨z,hd,vs,rel,dd⟩:=um I.bQ e;refine afP afj dd.typeIs afB (PySem.F.args_dict_get_2 _ _) (meets_dict_get (bK X.prog X.w) a (vI ry) hd) ⟨_,dd.mapOf,h _ _ (I.tok _) ?_⟩;rw[l];exact (rel.val k).getD rfl
 ·subst ey;show 23;refine afP afj dd.typeIs afB (PySem.F.args_dict_get_2 _ _) (meetsH_dict_get (tupleKind (bK X.prog X.w)) a b hd) ⟨afs hu,k,xs,Vd I.bQ eb,dd,h _ _ (I.tok _) ?_⟩;rw[l];exact (rel.val k).getD rfl
def YW(hu:A.units+1<cLine)(I:Inv X pins σ H s)(g:qO H a y o)(ry:RelV y u)(rd:RelV d r)(h:∀w' s',Inv X pins σ H s'->RelV (o.getD d) w'->Q w' s') :
  wpAny 0x7 A (call (.builtin "dict.get") [.ref a,u,r]) Q E s:=by
 rcases g with⟨kvs,k,e,ey,l⟩ | ⟨kvs,k,b,e,ey,eb,l⟩
 ·subst ey;obtain⟨z,hd,vs,rel,dd⟩:=um I.bQ e;refine afP afj dd.typeIs afB (PySem.F.args_dict_get_3 _ _ _) (meets_dict_get_default (bK X.prog X.w) a (vI ry) hd r) ⟨_,dd.mapOf,h _ _ (I.tok _) ?_⟩;rw[l];exact (rel.val k).getD rd
 ·subst ey;show 23;refine afP afj dd.typeIs afB (PySem.F.args_dict_get_3 _ _ _) (meetsH_dict_get_default (tupleKind (bK X.prog X.w)) a b hd r) ⟨afs hu,k,xs,Vd I.bQ eb,dd,h _ _ (I.tok _) ?_⟩;rw[l];exact (rel.val k).getD rd
end
section
variable  {X:Cx}{o e f:Expr}{apos dH:Pos}{td ty tx:TE}
end
section
variable  {X:Cx}{pins:List 0x6}{σ:St}{H:Hp}{s:Shared}{a:Addr}{kvs:List (Key×V)}{A:Around}{E:Value->Shared->Prop}
def Mm{Q:Value->Shared->Prop}(I:Inv X pins σ H s)(e:Rd H a (.dK kvs))(h:∀p s',H p=none->Inv X pins σ (upd H p (.dK kvs)) s'->Q (.ref p) s'):wpAny 0x7 A (call (.type "dict") [.ref a]) Q E s:=by
 obtain⟨z,hd,vs,rel,dd⟩:=um I.bQ e;refine kt_call_dict hd dd (by rw[<-rel.length];exact z) λh' Mj hs=>?_;refine h _ _ (I.bQ.fresh (gb _)) (I.laid (a:=s.heap.objs.size) (o:=.dK kvs) (t':=s.toks) (λb q hq=>?_) (gb _) (A_ z (beq_eq_false_iff_ne.mpr (afi (gY I.big))) rel Mj));exact (hs.2 b (gY (gr hq))).trans (gF _ hq)
end
section
variable  {X:Cx}{pins:List 0x6}{σ:St}{H:Hp}{s:Shared}{a:Addr}{y:V}{u:Value}{A:Around}{E:Value->Shared->Prop}
end
def zgb{prog:Program}{w:World}{κ:Type}[DecidableEq κ]{knd:HeapKind prog w κ}{A:Around}{E:Value->Shared->Prop}{s:Shared}{d a:Addr}{xs:List (κ×Addr×Value)}{k:κ}{dflt:Value}{Q:Value->Shared->Prop}
  (hr:knd.room A) (hk:knd.is s.heap k a) (hd:s.heap.DictOfH knd d xs) (hz:xs.length<=sizeLine)
  (h1:∀p,atKey xs k=some p->Q p.2 { s with toks:=s.toks+knd.draws k })
  (h2:atKey xs k=none->∀h':Heap,h'.DictOfH knd d (xs++[(k,a,dflt)])->Heap.SameBut d s.heap h'->Q dflt { s with heap:=h',toks:=s.toks+knd.draws k }) :
  wpAny 0xa A (dictSetDefault d (.ref a) dflt) Q E s:=by
 obtain⟨o,es,ep,ho,hx,hdt,hes,his,zW⟩:=hd;unfold dictSetDefault;refine afC (ae6 (knd.pyHash hr hk (ae6 ?_)));refine wpAny_dictFind_heap (s:={ s with toks:=s.toks+knd.draws k }) (o:=o) (es:=es) (ep:=ep) (xs:=xs) hr hk ho hdt hes his zW (λhno=>?_) (λj p hj=>?_)
 ·have hn:atKey xs k=none:=by
   unfold atKey;rw[Option.map_eq_none_iff,List.find?_eq_none];intro x hx' hxk;obtain⟨j,hj,e⟩:=nG.mp hx';refine hno j x.2 ?_;rw[gK hj,e];have:=afh hxk;rw[<-this]
  refine ae6 (wpAny_rule (ae6 (wpAny_updateDictKeys (s:={ s with toks:=s.toks+knd.draws k }) ho hdt (ae9 ?_) ?_ ?_)))
  ·obtain⟨cls,dct,dat,sl⟩:=o;obtain rfl:dat=Data.dict es ep:=hdt;have hsb:Heap.SameBut d s.heap (s.heap.update d (Obj.mapDictKeys λx=>x.push { hash:=knd.hash k,key:=.ref a,val:=dflt })):=afM _ _ _;refine h2 hn _ ⟨_,es.push { hash:=knd.hash k,key:=.ref a,val:=dflt },ep+1,pI _ ho rfl,hx,rfl,?_,?_,?_⟩ hsb
   ·rw[Array.toList_push,hes,mU];rfl
   ·intro x hx';rcases mz.mp hx' with q | q
    ·exact knd.keeps (his x q) ho rfl hsb
    ·obtain rfl:x=(k,a,dflt):=by simpa using q
     exact knd.keeps hk ho rfl hsb
   ·rw[mU];refine ph.mpr ⟨zW,by simp,?_⟩;rintro y hy z hz' rfl;have hz2:y=k:=by simpa using hz'
    subst hz2;obtain⟨x,Yl,rfl⟩:=gh.mp hy;obtain⟨j,hj,e⟩:=nG.mp Yl;exact hno j x.2 (by rw[gK hj,e])
  ·have:es.size=xs.length:=by rw[<-nW,hes,gj]
   omega
  ·rw[Array.size_push];omega
 ·refine ae6 (wpAny_dictEntries (s:={ s with toks:=s.toks+knd.draws k }) ho hdt ?_);have e1:es[j]? = some (entryOfKey knd (k,p)):=by
   rw[<-Array.getElem?_toList,hes,gO,hj];rfl
  rw[e1];refine ae6 (wpAny_rule (ae9 ?_));exact h1 p (atKey_of_get zW hj)
def zhm{prog:Program}{w:World}{κ:Type}[DecidableEq κ](knd:HeapKind prog w κ)(d b:Addr)(v:Value)(hd:(d==sysModules)=false) :
  MeetsIn prog w (Builtin.«dict.setdefault» { pos:=[.ref d,.ref b,v] }) λA R s=>knd.room A.in1/\∃k xs,knd.is s.heap k b/\s.heap.DictOfH knd d xs/\xs.length<=sizeLine /\
   (∀p,atKey xs k=some p->R (.ok (.ret p.2)) { s with toks:=s.toks+knd.draws k }) /\
   (atKey xs k=none->∀h':Heap,h'.DictOfH knd d (xs++[(k,b,v)])->Heap.SameBut d s.heap h'->R (.ok (.ret v)) { s with heap:=h',toks:=s.toks+knd.draws k }):=by
 rintro A R s ⟨hr,k,xs,hk,dd,hz,h1,h2⟩;unfold Builtin.«dict.setdefault»;refine ae6 ?_;unfold Builtin.Dict.keyAndDefault;refine ae6 ?_;unfold Builtin.Dict.notOrdered;rw[ae7 0x5];refine ae6 (wpAny_typeOf dd.typeIs ?_);rw[ae8 0x5];refine ae9 (ae6 ?_);refine ae9 (ae6 ?_);refine ae6 (ae9 (ae6 ?_));refine ae9 (ae9 ?_);refine ae6 (ae9 (ae9 ?_));dsimp only;rw[ae8 (by rw[hd];decide)];refine ae6 (zgb hr hk dd hz (λp e=>ae9 (h1 p e)) λe h' q1 q2=>ae9 (h2 e h' q1 q2))
section
variable  {X:Cx}{pins:List 0x6}{σ:St}{H:Hp}{s:Shared}{a b:Addr}{v:V}{u r:Value}{A:Around}{E:Value->Shared->Prop}{kvs:List (List Key×V)}{k:List Key}
def Ml(hu:A.units+1<cLine)(I:Inv X pins σ H s)(e:H a=some (.dT kvs))(eb:H b=some (.tup (k.map kV)))(rv:RelV v r)(hl:kvs.length<sizeLine) 
  (h1:∀x w' s',i_ kvs k=some x->RelV x w'->Inv X pins σ H s'->Q w' s')
  (h2:i_ kvs k=none->∀s',Inv X pins σ (upd H a (.dT (kvs++[(k,v)]))) s'->Q r s') :
  wpAny 0x7 A (call (.builtin "dict.setdefault") [.ref a,.ref b,r]) Q E s:=by
 obtain⟨z,hd,xs,rel,dd⟩:=U3 I.bQ e;have hz:xs.length<=sizeLine:=by rw[<-afr rel];exact z
 refine afP PySem.F.slot_dict_setdefault dd.typeIs PySem.F.entry_dict_setdefault (PySem.F.args_dict_setdefault_3 _ _ _) (zhm (tupleKind (bK X.prog X.w)) a b r hd) ⟨afs hu,k,xs,Vd I.bQ eb,dd,hz,λp ep=>?_,λen h' Mj hs=>?_⟩
 ·have q:=rel.val k;rw[ep]at q;cases q2:i_ kvs k with
  | none=>rw[q2]at q;exact q.elim
  | some x=>rw[q2]at q;exact h1 x _ _ q2 q (I.tok _)
 ·have q:=rel.val k;rw[en]at q;have q2:i_ kvs k=none:=by
   cases q2:i_ kvs k with
   | none=>rfl
   | some x=>rw[q2]at q;exact q.elim
  refine h2 q2 _ ?_;obtain⟨ob,es,ep,hq,h2,h3,h4,_,h5⟩:=Mj;have Fy:storedH xs k b r=xs++[(k,b,r)]:=by unfold storedH;rw[en];rfl
  have hp:=rel.put k eb rv;rw[I_ v q2,Fy]at hp;refine zpp I (by rw[e];exact True.intro) hs ⟨ob,hq⟩ ⟨by rw[gQ];exact hl,hd,_,hp.keeps λc ys ec=>?_,ob,es,ep,hq,h2,h3,h4,h5⟩;rw[iK (vy ec e (λz=>nomatch z))];exact ec
end
end L2
namespace M
open PySem PySem.Spec L2
noncomputable def keyOf:D->Option Key
 | .int i=>some (.inl i)
 | .str cs=>some (.inr (strOf cs))
 | _=>none
noncomputable def lO:List D->Option (List Key)
 | []=>some []
 | d::ds=>(keyOf d).bind λk=>(lO ds).map λks=>k::ks
noncomputable def keysOf(ds:List D):Option (List Key):=if GK ds=true then none else lO ds
noncomputable def jc(kvs:List (List Key×D))(k:List Key):Option D:=(kvs.find? λkv=>decide (kv.1=k)).map (·.2)
@[simp] def zp5(i:Int):keyOf (.int i)=some (.inl i):=eY rfl
@[simp] def aad(cs:List Nat):keyOf (.str cs)=some (.inr (strOf cs)):=eY rfl
@[simp] def Ff:lO []=some []:=eY rfl
@[simp] def ab_(i:Int)(r:List D):GK (.int i::r)=false:=eY rfl
@[simp] def zls(d:D)(ds:List D):lO (d::ds)=(keyOf d).bind λk=>(lO ds).map λks=>k::ks:=eY rfl
@[simp] def Uo(d:D)(ds:List D):keysOf (d::ds)=if GK (d::ds)=true then none else (keyOf d).bind λk=>(lO ds).map λks=>k::ks:=eY rfl
@[simp] def Hw(k:List Key):jc [] k=none:=eY rfl
def ZF(p:List Key×D)(r:List (List Key×D))(k:List Key):jc (p::r) k=if p.1=k then some p.2 else jc r k:=by
 unfold jc;rw[m7];by_cases h:p.1=k
 ·simp[h]
 ·simp[h]
def zop(kvs:List (List Key×D))(k j:List Key)(y:D)(h:jc kvs k=none):jc (kvs++[(k,y)]) j=if k=j then some y else jc kvs j:=by
 induction kvs with
 | nil=>rw[m8,ZF]
 | cons p r ih =>
  rw[ZF]at h
  split at h
  ·cases h
  ·rename_i hn;rw[nH,ZF,ZF,ih h];by_cases e:p.1=j
   ·rw[ae7 e,ae7 e,ae8 (λz=>hn (e.trans z.symm))]
   ·rw[ae8 e,ae8 e]
theorem ao.Um{K:PySem.W.Frag}{μ:List Addr}{H:Hp}:∀{ds:List D} {xs:List V} {ks:List Key},ao K μ H ds xs->lO ds=some ks->xs=ks.map kV
 | [],xs,ks,h,e=>by
  rw[ao]at h;rw[Ff]at e;cases e;exact h
 | d::ds,xs,ks,h,e=>by
  rw[ao]at h;obtain⟨v,r,rfl,h1,h2⟩:=h;rw[zls]at e;cases e1:keyOf d with
  | none=>rw[e1]at e;cases e
  | some k1 =>
   rw[e1]at e;cases e2:lO ds with
   | none=>rw[e2]at e;cases e
   | some ks2 =>
    rw[e2]at e;cases e;rw[ao.Um h2 e2];have:v=kV k1:=by
     cases d with
     | int i=>rw[aq.aN]at h1;cases e1;exact h1
     | str cs=>rw[aq.aP]at h1;cases e1;exact h1
     | _=>cases e1
    rw[this];rfl
theorem zlp:∀{ds:List D} {ks:List Key},lO ds=some ks->E_ ds=false
 | [],_,_=>rfl
 | d::ds,ks,e=>by
  rw[zls]at e;cases e1:keyOf d with
  | none=>rw[e1]at e;cases e
  | some k1 =>
   rw[e1]at e;cases e2:lO ds with
   | none=>rw[e2]at e;cases e
   | some ks2 =>
    have ih:=zlp e2;cases d with
    | int i=>rw[E_];exact ih
    | str cs=>rw[E_];exact ih
    | _=>cases e1
def znl{ds:List D}{ks:List Key}(h:keysOf ds=some ks):GK ds=false/\lO ds=some ks:=by
 unfold keysOf at h
 split at h
 ·cases h
 ·rename_i n;exact⟨by simpa using n,h⟩
def ao.keys(h:ao K μ H ds xs)(e:keysOf ds=some ks):xs=ks.map kV:=h.Um (znl e).2
def zok{ds:List D}{ks:List Key}(e:keysOf ds=some ks):BZ ds=false:=by
 unfold BZ;rw[(znl e).1,zlp (znl e).2];rfl
def zE.made(h:zE K H a xs ds)(e:keysOf ds=some ks):H a=some (.tup xs):=by
 rcases h with h | ⟨h,_⟩
 ·exact h
 ·rw[zok e]at h;cases h
theorem aH.val:∀{kvs:List (List Key×D)} {ws:List (List Key×V)},aH K μ H kvs ws ->
  (jc kvs k=none/\i_ ws k=none)\/∃d v,jc kvs k=some d/\i_ ws k=some v/\aq K μ H d v
 | [],ws,h=>.inl ⟨rfl,by rw[aH]at h;rw[h];rfl⟩
 | (j,d)::r,ws,h=>by
  obtain⟨v,r',rfl,h1,h2⟩:=h;rw[ZF];by_cases e:j=k
  ·rw[ae7 e];exact .inr ⟨d,v,rfl,ziq (p:=(j,v)) e,h1⟩
  ·rw[ae8 e,zjf (p:=(j,v)) e];exact aH.val h2
theorem aH.snoc:∀{kvs:List (List Key×D)} {ws:List (List Key×V)},aH K μ H kvs ws->aq K μ H d v->aH K μ H (kvs++[(k,d)]) (ws++[(k,v)])
 | [],ws,h,hv=>by rw[aH]at h;subst h;exact⟨v,[],rfl,hv,rfl⟩
 | (j,d')::r,ws,h,hv=>by
  obtain⟨v',r',rfl,h1,h2⟩:=h;exact⟨v',r'++[(k,v)],rfl,h1,aH.snoc h2 hv⟩
theorem aH.len:∀{kvs:List (κ×D)} {ws:List (κ×V)},aH K μ H kvs ws->kvs.length=ws.length
 | [],ws,h=>by rw[aH]at h;rw[h];rfl
 | (j,d)::r,ws,h=>by
  obtain⟨v,r',rfl,h1,h2⟩:=h;rw[gC,gC,aH.len h2]
def aU.dic{K:PySem.W.Frag}{μ:List Addr}{H:Hp}{st:ak}{n:Nat}{kvs:List (List Key×D)}(h:aU K μ H st)(e:st[n]? = some (.dic kvs)):∃p ws,μ[n]? = some p/\H p=some (.dT ws)/\aH K μ H kvs ws:=by
 obtain⟨p,h1,xs,h2,h3⟩:=h.at_ n _ e;exact⟨p,xs,h1,h2,h3⟩
section
variable  {X:Cx}{e a b c o:Expr}{es:List Expr}{ma mb mc mo:ME}{mA:MA}{pos p2 p apos dH:Pos}
noncomputable def Sg:ME:=λ_ st=>.ok 0x3 (st++[.dic []])
def Rt:JE X (.Dict [] [] pos) Sg:=by
 refine JE.of Jq fun σ H Q zz=>?_;show 1;refine λp hn=>?_;have hr:fZ X.K (μ++[p]) (upd H p (.dT [])) p (.dic []):=⟨[],qT,rfl⟩;exact hp _ _ (μ++[p]) (a_.new hn) (hs.new hn hr) (aq.aL.mpr ⟨p,by rw[<-hs.len];simp,rfl⟩)
noncomputable def FT:D->List D->ak->R D
 | .loc n,[.tup ks],st=>match st[n]?,keysOf ks with
  | some (.dic kvs),some k=>.ok ((jc kvs k).getD .non) st
  | _,_=>.bad
 | _,_,_=>.bad
def Q9(hu:X.A.units+1<cLine):sX X "dict.get" (G_ X FT):=by
 rintro pins s σ H x xs v us Q I rx Ei ⟨μ,st,d,ds,hs,hx,j4,hp⟩;unfold FT at hp
 split at hp
 ·rename_i n ks
  split at hp
  ·rename_i kvs k e1 e2;show 19;obtain⟨y,rfl,q2⟩:=ao.one j4;obtain⟨b,ys,rfl,q3,q4⟩:=aq.aQ.mp q2;show 18;cases Ei with
   | cons ry rr =>
    cases rr;obtain rfl:v=Value.ref p:=rx;refine YX hu I (qO.t r2 q3) ry λw' s' I' z_=>⟨_,H,I',z_,?_⟩;rcases r3.val (k:=k) with⟨z1,z2⟩ | ⟨d',v',z1,z2,z3⟩
    ·rw[z1]at hp;rw[z2];exact hp.ret hs (aq.bJ.mpr rfl)
    ·rw[z1]at hp;rw[z2];exact hp.ret hs z3
  ·exact hp.elim
 ·exact hp.elim
noncomputable def oG:D->List D->ak->R D
 | .loc n,[.tup ks,d],st=>match st[n]?,keysOf ks with
  | some (.dic kvs),some k=>if kvs.length<1000000 then (match jc kvs k with
   | some d'=>.ok d' st
   | none=>.ok d (st.set n (.dic (kvs++[(k,d)])))) else .bad
  | _,_=>.bad
 | _,_,_=>.bad
def zrr(hu:X.A.units+1<cLine):sX X "dict.setdefault" (G_ X oG):=by
 rintro pins s σ H x xs v us Q I rx Ei ⟨μ,st,d,ds,hs,hx,j4,hp⟩;unfold oG at hp
 split at hp
 ·rename_i n ks d1
  split at hp
  ·rename_i kvs k e1 e2
   split at hp
   ·rename_i hl;show 19;obtain⟨y,z,rfl,q2,q5⟩:=ao.two j4;obtain⟨b,ys,rfl,q3,q4⟩:=aq.aQ.mp q2;show 18;cases Ei with
    | cons ry rr =>
     cases rr with
     | cons rz rr =>
      cases rr;obtain rfl:v=Value.ref p:=rx;rename_i uy uz;obtain rfl:uy=Value.ref b:=ry;refine Ml hu I r2 q3 rz (by rw[<-r3.len];exact gR hl 0x5) (λx' w' s' ex z_ I'=>⟨_,H,I',z_,?_⟩) λen s' I'=>⟨_,_,I',rz,?_⟩
      ·rcases r3.val (k:=k) with⟨z1,z2⟩ | ⟨d',v',z1,z2,z3⟩
       ·rw[z2]at ex;cases ex
       ·rw[z1]at hp;rw[z2]at ex;cases ex;exact hp.ret hs z3
      ·rcases r3.val (k:=k) with⟨z1,z2⟩ | ⟨d',v',z1,z2,z3⟩
       ·rw[z1]at hp;have g:Ext H (upd H p (.dT (ws++[(k,z)]))):=Ext.mut r2 (λ_ z=>nomatch z) (λ_ _ z=>nomatch z);have g':a_ μ H μ (upd H p (.dT (ws++[(k,z)]))):=⟨⟨[],by simp⟩,g⟩;exact hp _ _ μ g' (hs.put e1 rfl rfl q1 g ⟨_,qT,(r3.snoc q5).mono g'⟩) (q5.mono g' _)
       ·rw[z2]at en;cases en
   ·exact hp.elim
  ·exact hp.elim
 ·exact hp.elim
end
end M
namespace L2
open PySem PySem.Spec PyProof.Rows
noncomputable def Its(x:Str):It:=⟨λi _=>i<x.cps.size,λi H y H'=>H'=H/\∃c,x.cps[i]? = some c/\y=.str ⟨#[c]⟩,λi _=>x.cps.size<=i⟩
def Hz{P:Program}{w:World}{K:PySem.W.Frag}{tg:Expr}(it:Addr)(x:Str)(t:Tok):Turn P w K tg (Its x) [it] it (λi h=>h.IsStrIter it "str_ascii_iterator" x t i) where
 mem:=by simp
 obj:=λi h st b hb=>by
  have e:b=it:=by simpa using hb
  show 15
 keep:=λi h h' st k=>by
  obtain⟨o,e,c,d⟩:=st;exact⟨o,k it 0x1 o e,c,d⟩
 item:=by
  show 2;show 6;have hi:i<x.cps.size:=hg;refine wpAny_pyNext_ascii_item st (pW hi) λh' st' sb=>?_;have I1:Inv X pins σ H { s with heap:=h',toks:=s.toks+1 }:=I.turned (λb o hb e=>(sb.2 b hb).trans e) f0 f1 f3 f4 f5;obtain⟨o,e,c,d⟩:=id st';exact⟨_,rfl,ug (s:={ s with heap:=h',toks:=s.toks+1 }) e c d 0x5 ⟨.str ⟨#[x.cps[i]]⟩,H,I1,⟨_,rfl⟩,⟨rfl,_,pW hi,rfl⟩,st',λb hb=>(hf b hb).1⟩⟩
 done:=by
  show 2;show 6;have hi:x.cps.size<=i:=hg;exact wpAny_pyNext_ascii_end (I.ok.hd hc) st (Array.getElem?_eq_none hi) λh' eb=>⟨rfl,I.turned (t':=s.toks) (λb o hb e=>eb b o hb e) f0 f1 f3 f4 f5⟩
 self:=λ_ _ _ _ _ st h=>wpAny_pyIter_striter_ascii st h
noncomputable def adP(tl:TE):TI:=fun σ H R=>tl σ H λy H1=>∃x,y=.str x/\strIterType x = "str_ascii_iterator"/\R (Its x) H1
def Wm{X:Cx}{tg l:Expr}{tl:TE}(hl:PE X l tl):PI X tg l (adP tl):=by
 intro pins s σ H R I h;refine cO (hl pins s σ H _ I h) λv s1 zz=>?_;obtain⟨y,H1,I1,r1,q1⟩:=zz;obtain⟨x,e,ha,q⟩:=q1;subst e;obtain⟨t,rfl⟩:=r1;refine wpAny_pyIter_strU ?_;rw[ha];refine⟨s1.heap.objs.size,[s1.heap.objs.size],_,_,H1,rfl,I1.kept (t':=s1.toks) λb o e=>gF _ e,Hz _ x t,⟨_,g_ _ rfl,rfl,rfl⟩,λb hb=>?_,q⟩;have e:b=s1.heap.objs.size:=by simpa using hb
 subst e;show 24
end L2
namespace M
open PySem PySem.Spec L2
section
variable  {X:Cx}{tg l:Expr}{ml:ME}{μ:List Addr}{H:Hp}
noncomputable def yM(m:ME):MI:=λenv st=>(m env st).bind λd st1=>match d with
 | .str cs=>if cs.all (λc=>decide (c<128))=true then .ok (cs.map λc=>D.str [c],[]) st1 else .bad
 | _=>.bad
def RC(cs:List Nat):oE X μ H (Its (strOf cs)) (cs.map λc=>D.str [c],[]):=by
 intro H' μ' st' g hs ok;refine⟨λi d e=>?_,by show (strOf cs).cps.size<=_;simp⟩;rw[gO]at e;obtain⟨c,e1,rfl⟩:=nA.mp e;refine⟨by show i<(strOf cs).cps.size;simpa using (gf.mp e1).1,?_⟩;rintro x Dn ⟨rfl,c',hc,rfl⟩;have:c'=c:=by
  have h2:cs[i]? = some c':=by simpa using hc
  rw[e1]at h2;exact (afa h2).symm
 subst this;exact⟨.refl _ _,hs,aq.aP.mpr rfl⟩
def Xp(hl:JE X l ml):JI X tg l (yM ml):=by
 refine JI.of (Wm hl) fun σ H R zz=>?_;show 1;show 3;rintro v H1 ⟨μ1,st1,d,g1,bG,hv,aR⟩;dsimp only at aR
 split at aR
 ·rename_i cs
  split at aR
  ·rename_i hc;obtain rfl:=aq.aP.mp hv;refine⟨strOf cs,rfl,?_,aR _ _ _ (.refl _ _) bG (RC cs)⟩;unfold strIterType;rw[ae7];show (cs.toArray.all _)=true;rw[List.all_toArray];exact hc
  ·exact aR.elim
 ·exact aR.elim
end
end M
namespace L2
open PySem PySem.Spec PyProof.Rows
def Inv.but(I:Inv X pins σ H s)(k:∀b o,b≠X.env.locals->s.heap.get? b=some o->h'.get? b=some o) 
  (ns:∀m,s.heap.Ns X.env.locals m->h'.Ns X.env.locals m):Inv X pins σ H { s with heap:=h',toks:=t' }:=by
 have neL:∀b u,H b=some u->b≠X.env.locals:=λb u e z=>by rw[z,I.free]at e;cases e
 refine I.step (g':=s.gens) (d':=s.drawn) (ch:=[]) (λ_ z=>nomatch z) (λb o hL _ _ e _=>k b o hL e) (λb o hL _ _ e _=>⟨o.slots,k b o hL e⟩) (λ_ _ _ _ n=>n) (λb o _ e=>?_) (λ_ _ e=>e) (λ_ _ _ e=>e) (λb ps e=>⟨#[],by rw[e];simp⟩) ns (λb u e=>?_) I.bare
 ·by_cases hb:b=X.env.locals
  ·subst hb;obtain⟨m,hm,_⟩:=I.loc;obtain⟨o',_,_,q,_⟩:=ns m hm;exact⟨o',q⟩
  ·exact⟨o,k b o hb e⟩
 ·refine (I.bQ b u e).uN (λc v hc q=>k c v ?_ q) (λc q=>q) λc xs q=>q;rcases hc with z | z
  ·rw[z];exact neL b u e
  ·exact neL c _ z
def Gr(hc:X.A.handled=none):cL X (.builtin "sum") (λxs H Q=>∃(p:Addr) (ns:List Int),xs=[.ref p]/\oA X.K H p (ns.map V.int)/\Q (.int ns.sum) H):=by
 rintro pins s σ H xs us Q I hr ⟨p,ns,rfl,hq,h⟩;cases hr with
 | cons r1 r2 =>
  cases r2;cases r1;obtain⟨its,rv,pl,hz⟩:=I.list hq;have hi:IntsAre its ns:=by
   have key:∀(ns:List Int) (its:List Value),Vals (ns.map V.int) its->IntsAre its ns:=by
    intro ns
    induction ns with
    | nil=>intro its h;cases h;exact .nil
    | cons n ns ih =>
     intro its h;cases h with
     | cons r1 r2 =>
      obtain⟨t,rfl⟩:=r1;exact .cons n t (ih _ r2)
   exact key ns its rv
  obtain⟨m,hm,_⟩:=id I.loc;obtain⟨o,ho,_⟩:=id pl.isList;have lU:p≠X.env.locals:=λz=>by
   obtain⟨o',es,ep,q1,q2,_⟩:=hm;obtain⟨o2,w1,w2,w3⟩:=id pl.isList;rw[z,q1]at w1;cases w1;rw[q2]at w3;obtain⟨_,w4⟩:=w3;cases w4
  refine LSm.sum_ints (Att.Lk hm) (Att.zqv lU ho) hc pl.isList hi λh' tk t' F' N'=>⟨.int ns.sum,H,I.but (λb ob hb e=>?_) (λm' N6=>?_),⟨t',rfl⟩,h⟩
  ·by_cases hbp:b=p
   ·subst hbp;rw[ho]at e;cases e;exact N'.get (List.Mem.head _)
   ·exact N'.get (List.Mem.tail _ (Att.zlz.mpr ⟨hb,hbp,e⟩))
  ·have:m'=m:=by
    obtain⟨o1,es1,ep1,q1,q2,_,q3⟩:=hm;obtain⟨o2,es2,ep2,w1,w2,_,w3⟩:=N6;rw[q1]at w1;cases w1;rw[q2]at w2;cases w2;funext x;rw[<-q3 x,<-w3 x]
   subst this;exact F'.ns
end L2
namespace M
open PySem PySem.Spec L2
noncomputable def intsOf:List D->Option (List Int)
 | []=>some []
 | .int i::r=>(intsOf r).map (i :: ·)
 | _::_=>none
theorem zla:∀{ds:List D} {xs:List V} {ns:List Int},intsOf ds=some ns->ao K μ H ds xs->xs=ns.map V.int
 | [],_,_,e,h=>by cases e;rw[ao]at h;exact h
 | d::ds,_,ns,e,h=>by
  rw[ao]at h;obtain⟨v,t,rfl,h1,h2⟩:=h;cases d with
  | int i =>
   simp only[intsOf]at e;cases q:intsOf ds with
   | none=>rw[q]at e;cases e
   | some bs' =>
    rw[q]at e;cases e;rw[aq.aN]at h1;subst h1;rw[zla q h2];rfl
  | _=>simp[intsOf]at e
noncomputable def HJ:List D->ak->R D
 | [.loc n],st=>match (aA st n).bind intsOf with | some ns=>.ok (.int ns.sum) st | none=>.bad
 | _,_=>.bad
def Gp(hc:X.A.handled=none):cL X (.builtin "sum") (NT X HJ):=by
 refine cL.weak (Gr hc) ?_;rintro xs H Q ⟨μ,st,ds,hs,hv,hp⟩;unfold HJ at hp
 split at hp
 ·rename_i n;cases e:aA st n with
  | none=>rw[e]at hp;exact hp.elim
  | some l =>
   rw[e]at hp;cases e2:intsOf l with
   | none=>simp only[mW,e2]at hp;exact hp.elim
   | some ns =>
    simp only[mW,e2]at hp;show 13;obtain⟨p',ys,r1,r2,r3⟩:=hs.items e;show 7;rw[zla e2 r3]at r2;exact⟨p,ns,rfl,r2,hp.ret hs (aq.aN.mpr rfl)⟩
 ·exact hp.elim
end M
namespace M
open L2
def Mp(xs:List α)(c:Nat)(h:c<=xs.length):cut xs none (some (c:Int))=xs.take c:=by
 unfold cut;rw[HT.zng,HT.Bu,Nat.min_eq_left h];simp
def ztq(xs:List α)(c:Nat):cut xs (some (c:Int)) none=xs.drop c:=by
 unfold cut;rw[HT.zng,HT.Bu];by_cases h:c<=xs.length
 ·rw[Nat.min_eq_left h,pX 0x1]
 ·rw[Nat.min_eq_right 0x0,nF (gb _),nF 0x0];simp
def zik(lo:Int)(n:Nat):(qx lo n).length=n:=by simp[qx]
section
variable  (st:ak)
def zti(cs:List Nat)(lo hi:Option Int)(h:cs.length<=1000000):xQ (.str cs) lo hi st=.ok (.str (cut cs lo hi)) st:=by simp[xQ,h]
def zgl(cs:List Nat)(h:cs.length<=1000000):wU [.str cs] st=.ok (.int cs.length) st:=by simp[wU,h]
@[simp] def adg(env:aK):Sg env st=.ok 0x3 (st++[.dic []]):=eY rfl
@[simp] theorem V7(a:ME)(env:aK):yM a env st=(a env st).bind λd st1=>match d with
 | .str cs=>if cs.all (λc=>decide (c<128))=true then .ok (cs.map λc=>D.str [c],[]) st1 else .bad
 | _=>.bad:=eY rfl
end
end M
namespace M
open PySem PySem.Spec L2
section
variable  {X:Cx}
noncomputable def Fx(neg:Bool):D->D->ak->R D
 | .tup ks,.loc n,st=>match st[n]?,keysOf ks with
  | some (.dic kvs),some k=>.ok (.bl (if neg then !(jc kvs k).isSome else (jc kvs k).isSome)) st
  | _,_=>.bad
 | _,_,_=>.bad
def K4(h:rM X (Fx neg) x y H Q):∃p o,y=.ref p/\qO H p x o/\Q (.bl (if neg then !o.isSome else o.isSome)) H:=by
 obtain⟨μ,st,dx,dy,hs,hx,hy,hp⟩:=h;unfold Fx at hp
 split at hp
 ·rename_i ks n
  split at hp
  ·rename_i kvs k e1 e2;obtain⟨p,q1,rfl⟩:=aq.aL.mp hy;obtain⟨b,ys,rfl,q3,q4⟩:=aq.aQ.mp hx;show 18;refine⟨p,_,rfl,qO.t r2 q3,?_⟩;rcases r3.val (k:=k) with⟨z1,z2⟩ | ⟨d',v',z1,z2,z3⟩
   ·rw[z1]at hp;rw[z2];exact hp.ret hs (aq.bx.mpr rfl)
   ·rw[z1]at hp;rw[z2];exact hp.ret hs (aq.bx.mpr rfl)
  ·exact hp.elim
 ·exact hp.elim
def zm7(hu:X.A.units+1<cLine):eQ X (compareOp .NotIn) (rM X (Fx true)):=by
 show 10;obtain⟨p,o,rfl,g,q⟩:=K4 h;obtain rfl:u=Value.ref p:=ry;exact Sq hu I g rx λs' I'=>⟨.bl (!o.isSome),H,I',rfl,q⟩
noncomputable def Qf(kvs:List (List Key×D))(k:List Key)(d:D):List (List Key×D) :=
 if (kvs.any λkv=>decide (kv.1=k))=true then kvs.map (λkv=>if kv.1=k then (kv.1,d) else kv) else kvs++[(k,d)]
theorem aH.any:∀{kvs:List (List Key×D)} {ws:List (List Key×V)},aH K μ H kvs ws->(kvs.any λkv=>decide (kv.1=k))=(ws.any λkv=>decide (kv.1=k))
 | [],ws,h=>by rw[aH]at h;rw[h];rfl
 | (j,d)::r,ws,h=>by
  obtain⟨v,r',rfl,h1,h2⟩:=h;rw[mR,mR,aH.any h2]
theorem aH.repl(hv:aq K μ H d v):∀{kvs:List (List Key×D)} {ws:List (List Key×V)},aH K μ H kvs ws->aH K μ H (kvs.map λkv=>if kv.1=k then (kv.1,d) else kv) (ws.map λkv=>if kv.1=k then (kv.1,v) else kv)
 | [],ws,h=>by rw[aH]at h;subst h;exact rfl
 | (j,d')::r,ws,h=>by
  obtain⟨v',r',rfl,h1,h2⟩:=h;rw[gq,gq];by_cases e:j=k
  ·rw[ae7 e,ae7 e];exact⟨v,_,rfl,hv,aH.repl hv h2⟩
  ·rw[ae8 e,ae8 e];exact⟨v',_,rfl,h1,aH.repl hv h2⟩
def aH.put(h:aH K μ H kvs ws)(hv:aq K μ H d v):aH K μ H (Qf kvs k d) (putK ws k v):=by
 unfold Qf putK;rw[h.any]
 split
 ·exact aH.repl hv h
 ·exact h.snoc hv
noncomputable def yO:D->D->D->ak->R Unit
 | .loc n,.tup ks,d,st=>match st[n]?,keysOf ks with
  | some (.dic kvs),some k=>if kvs.length<1000000 then .ok () (st.set n (.dic (Qf kvs k d))) else .bad
  | _,_=>.bad
 | _,_,_,_=>.bad
def V2(hu:X.A.units+1<cLine):xj X (BJ X yO):=by
 rintro pins s σ H o i v ov iv u Q I ro ri rv ⟨μ,st,d1,d2,d3,hs,h1,h2,h3,hp⟩;unfold yO at hp
 split at hp
 ·rename_i n ks d
  split at hp
  ·rename_i kvs k e1 e2
   split at hp
   ·rename_i hl;obtain⟨p,q1,rfl⟩:=aq.aL.mp h1;obtain⟨b,ys,rfl,q3,q4⟩:=aq.aQ.mp h2;show 18;obtain rfl:ov=Value.ref p:=ro;refine zo2 hu I (Bd.t r2 q3 (by rw[<-r3.len];exact gR hl 0x5)) ri rv λs' I'=>⟨_,I',?_⟩;have g:Ext H (upd H p (.dT (putK ws k v))):=Ext.mut r2 (λ_ z=>nomatch z) (λ_ _ z=>nomatch z);have g':a_ μ H μ (upd H p (.dT (putK ws k v))):=⟨⟨[],by simp⟩,g⟩;exact hp () _ μ g' (hs.put e1 rfl rfl q1 g ⟨_,qT,(r3.put h3).mono g'⟩) trivial
   ·exact hp.elim
  ·exact hp.elim
 ·exact hp.elim
noncomputable def rH:D->List D->ak->R D
 | .loc n,[],st=>match st[n]? with
  | some (.lst ds)=>(match ds[ds.length - 1]? with | some d=>.ok d (st.set n (.lst ds.dropLast)) | none=>.bad)
  | _=>.bad
 | _,_,_=>.bad
theorem ao.dropLast{K:PySem.W.Frag}{μ:List Addr}{H:Hp}:∀{ds:List D} {xs:List V},ao K μ H ds xs->ao K μ H ds.dropLast xs.dropLast
 | [],xs,h=>by rw[ao]at h;subst h;exact ao.nil
 | [d],xs,h=>by obtain⟨v,rfl,_⟩:=ao.one h;exact ao.nil
 | d::e::ds,xs,h=>by
  rw[ao]at h;obtain⟨v,r,rfl,h1,h2⟩:=h;obtain⟨w,r',rfl,h3,h4⟩:=(by rw[ao]at h2;exact h2:∃v r',r=v::r'/\aq K μ H e v/\ao K μ H ds r');rw[List.dropLast_cons_cons,List.dropLast_cons_cons];exact ao.cons h1 (ao.dropLast h2)
def Q8:sX X "list.pop" (G_ X rH):=by
 refine sX.weak W_ ?_;show 20;unfold rH at hp
 split at hp
 ·rename_i n;cases e:st[n]? with
  | none=>rw[e]at hp;exact hp.elim
  | some mo =>
   cases mo with
   | lst l =>
    rw[e]at hp;dsimp only at hp;cases e2:l[l.length - 1]? with
    | none=>rw[e2]at hp;exact hp.elim
    | some d =>
     rw[e2]at hp;show 19;rw[ao]at j4;obtain⟨p',ys,r1,r2,r3⟩:=hs.lst e;show 7;obtain⟨v,z1,z2⟩:=r3.get e2;obtain⟨g,oN⟩:=vp hs e q1 r2 r3.dropLast;exact⟨p,ys,v,rfl,j4,r2,by rw[<-r3.length];exact z1,hp _ _ μ g oN (z2.mono g _)⟩
   | _=>rw[e]at hp;exact hp.elim
 ·exact hp.elim
end
end M
namespace L2
open PySem PySem.Spec PyProof.Rows
theorem zte:∀(ys:List Str) (its:List Value),Vals (ys.map V.str) its->StrsAre its ys
 | [],_,h=>by cases h;exact .nil
 | y::ys,_,h=>by
  cases h with
  | cons r1 r2 =>
   obtain⟨t,rfl⟩:=r1;exact .cons y t (zte ys _ r2)
def J0:sX X "str.join" (λx xs H Q=>∃(z:Str) (p:Addr) (ys:List Str),x=.str z/\xs=[.ref p]/\oA X.K H p (ys.map V.str)/\(ys.map λy=>y.length).sum+ys.length*z.length<=16777216/\Q (.str (Txt.join z ys)) H):=by
 rintro pins s σ H x xs v us Q I rx Ei ⟨z,p,ys,rfl,rfl,hq,hz,h⟩;show 28;cases Ei with
 | cons r1 r2 =>
  cases r2;cases r1;obtain⟨its,rv,pl,_⟩:=I.list hq;exact join_list pl.isList (zte ys its rv) hz λt' k=>⟨.str (Txt.join z ys),H,I.kept (t':=k) λb u h=>h,⟨t',rfl⟩,h⟩
end L2
namespace M
open PySem PySem.Spec L2
section
variable  {X:Cx}
noncomputable def iC:List D->Option (List (List Nat))
 | []=>some []
 | .str cs::r=>(iC r).map (cs :: ·)
 | _::_=>none
theorem zpy:∀{ds:List D} {xs:List V} {ts:List (List Nat)},iC ds=some ts->ao K μ H ds xs->xs=(ts.map strOf).map V.str
 | [],_,_,e,h=>by cases e;rw[ao]at h;exact h
 | d::ds,_,ts,e,h=>by
  rw[ao]at h;obtain⟨v,t,rfl,h1,h2⟩:=h;cases d with
  | str cs =>
   simp only[iC]at e;cases q:iC ds with
   | none=>rw[q]at e;cases e
   | some ts' =>
    rw[q]at e;cases e;rw[aq.aP]at h1;subst h1;rw[zpy q h2];rfl
  | _=>simp[iC]at e
noncomputable def joinM(sep:List Nat)(ts:List (List Nat)):List Nat:=(Txt.join (strOf sep) (ts.map strOf)).cps.toList
noncomputable def rP:D->List D->ak->R D
 | .str sep,[.loc n],st=>match (aA st n).bind iC with
  | some ts=>if (ts.map List.length).sum+ts.length*sep.length<=1000000 then .ok (.str (joinM sep ts)) st else .bad
  | none=>.bad
 | _,_,_=>.bad
def zrl:sX X "str.join" (G_ X rP):=by
 refine sX.weak J0 ?_;show 20;unfold rP at hp
 split at hp
 ·rename_i sep n;cases e:aA st n with
  | none=>rw[e]at hp;exact hp.elim
  | some l =>
   rw[e]at hp;cases e2:iC l with
   | none=>simp only[mW,e2]at hp;exact hp.elim
   | some ts =>
    simp only[mW,e2]at hp
    split at hp
    ·rename_i hl;obtain⟨v,rfl,q⟩:=ao.one j4;obtain⟨p,q1,rfl⟩:=aq.aL.mp q;obtain⟨p',ys,r1,r2,r3⟩:=hs.items e;show 7;rw[zpy e2 r3]at r2;obtain rfl:=aq.aP.mp hx;refine⟨_,p,ts.map strOf,rfl,rfl,r2,?_,hp.ret hs (aq.aP.mpr rfl)⟩;rw[gJ,gj];have e3:(ts.map ((λy:Str=>y.length)∘strOf))=ts.map List.length:=kI λt _=>by
      show (strOf t).cps.size=t.length;simp
     rw[e3];have e4:(strOf sep).length=sep.length:=by show (strOf sep).cps.size=sep.length;simp
     rw[e4];omega
    ·exact hp.elim
 ·exact hp.elim
end
noncomputable def qj(sep:List Nat):List (List Nat)->List Nat
 | []=>[]
 | [t]=>t
 | t::u::r=>t++sep++qj sep (u::r)
theorem zjx(sep:Str):∀(ts:List Str),(sep.join ts).cps.toList=qj sep.cps.toList (ts.map λt=>t.cps.toList)
 | []=>by rw[PyProof.Rows.join_nil];rfl
 | [t]=>by rw[PyProof.Rows.join_one];rfl
 | t::u::r=>by
  have ih:=zjx sep (u::r);rw[gq]at ih;rw[PyProof.Rows.join_cons_cons,gq,gq,qj,<-ih];show (t.cps++sep.cps++(sep.join (u::r)).cps).toList=_;simp
def Kp(sep:List Nat)(ts:List (List Nat)):joinM sep ts=qj sep ts:=by
 unfold joinM;rw[show Txt.join (strOf sep) (ts.map strOf)=(strOf sep).join (ts.map strOf) from StrLaws.glued_eq_join _ _,zjx,gJ];have:(λt:Str=>t.cps.toList)∘strOf=id:=by funext t;simp
 rw[this,List.map_id]
end M
namespace L2
open PySem PySem.Spec PyProof.Rows
end L2
namespace M
open PySem PySem.Spec L2
section
variable  {X:Cx}{a b c:Expr}{ma mb mc:ME}{pos:Pos}
end
section
variable  {X:Cx}{pos:Pos}{x:Str}
def ztm(hg:Gl X x)(hm:X.mg x=some u)(r:RelV v u)(hv:∀μ H,aq X.K μ H d v)(hd:0xc=false:=by decide):JE X (.Name x pos) (ct d):=by
 refine JE.of (QB hg hm r hd) fun σ H Q zz=>?_;show 1;exact hp.ret hs (hv μ H)
def Ky(cs:List Nat)(h:∃t,X.mg x=some (.str y t))(hy:y=strOf cs:=by rfl)(hg:Gl X x:=by rfl)(hd:0xc=false:=by decide):JE X (.Name x pos) #[1,cs]:=by
 obtain⟨t,h⟩:=h;exact ztm (v:=.str y) hg h ⟨t,rfl⟩ (λ_ _=>aq.aP.mpr (by rw[hy])) hd
end
end M
namespace M
open L2
section
variable  (st:ak)
def Iz(sep:List Nat)(n:Nat)(ts:List (List Nat))(h:aA st n=some (ts.map D.str))(hl:(ts.map List.length).sum+ts.length*sep.length<=1000000):rP (.str sep) [.loc n] st=.ok (.str (qj sep ts)) st:=by
 have e:iC (ts.map D.str)=some ts:=by
  clear h hl
  induction ts with
  | nil=>rfl
  | cons t ts ih=>simp[iC,ih]
 simp only[rP,h,mW,e];rw[ae7 hl,Kp]
end
def Mq(xs:List α):cut xs none (some (-1))=xs.dropLast:=by
 unfold cut;rw[HT.zng];have:HT.dh xs.length xs.length (some (-1))=xs.length - 1:=by
  unfold HT.dh;dsimp only;rw[ae7 0x0];omega
 rw[this];simp[List.dropLast_eq_take]
def zZ(I:Nat->aK->ak->Prop)(h0:I 0 env st) 
  (step:∀i d env st,items[i]? = some d->I i env st->uO gs st/\∃env1 st1,g d env st=.ok env1 st1/\∃bw st2,(b env1 st1=.ok (.nx bw) st2\/b env1 st1=.ok (.cn bw) st2)/\I (i+1) bw st2)
  (Yy:∀env st,I items.length env st->uO gs st):∃cC st',bY g b gs items env st=.ok (.nx cC) st'/\I items.length cC st':=by
 refine Gb (λpre env st=>I pre.length env st) h0 (λpre d post env st e hI=>?_) Yy;have:=step pre.length d env st (by rw[e];simp) hI;simpa using this
def zky(h:(qx lo n)[i]? = some d):i<n/\d=.int (lo+(i:Nat)):=by
 have h2:i<n:=by
  have:=(gf.mp h).1;rwa[zik]at this
 unfold qx at h;rw[gO,List.getElem?_range h2]at h;exact⟨h2,(afa h).symm⟩
def zkn{xs:List D}{i:Nat}{d:D}(h:(cN 0 xs)[i]? = some d):∃x,xs[i]? = some x/\d=.tup [.int i,x]:=by
 rw[ZG]at h;cases e:xs[i]? with
 | none=>rw[e]at h;cases h
 | some x =>
  rw[e]at h;simp at h;exact⟨x,rfl,h.symm⟩
def Hn{α:Type}{f:α->D}{xs:List α}{i:Nat}{d:D}(h:(xs.map f)[i]? = some d):∃x,xs[i]? = some x/\d=f x:=by
 rw[gO]at h;cases e:xs[i]? with
 | none=>rw[e]at h;cases h
 | some x=>rw[e]at h;exact⟨x,rfl,(afa h).symm⟩
noncomputable def tX:D->D->ak->R D
 | .str cs,.bl b,st=>if cs.length<=1000000 then .ok (.str (if b then cs else [])) st else .bad
 | _,_,_=>.bad
theorem zgv:∀(n:Nat) (env:aK) (st:ak),bA c b n env st≠.bad->bA c b (n+1) env st=bA c b n env st
 | 0,env,st,h=>absurd (by rw[bA]) h
 | n+1,env,st,h=>by
  rw[bA]at h;rw[bA,bA];cases e:c env st with
  | bad=>rfl
  | err x s=>rfl
  | ok x st1 =>
   rw[e,R.aB]at h;rw[R.aB,R.aB];cases x with
   | false=>rfl
   | true =>
    rw[ae7 rfl]at h ⊢;rw[ae7 rfl];cases e2:b env st1 with
    | bad=>rfl
    | err x s=>rfl
    | ok o st2 =>
     rw[e2,R.aB]at h;rw[R.aB,R.aB];cases o with
     | nx bw=>exact zgv n bw st2 h
     | cn bw=>exact zgv n bw st2 h
     | bk bw=>rfl
     | rt d=>rfl
theorem zh7(h:bA c b n env st≠.bad):∀k,bA c b (n+k) env st=bA c b n env st
 | 0=>rfl
 | k+1=>by
  have:=zh7 h k;rw[<-Nat.add_assoc,zgv (n+k) env st (by rw[this];exact h),this]
open Classical in
noncomputable def bf(c:MT)(b:MS):MS:=λenv st=>if h:∃n,bA c b n env st≠.bad then bA c b (Classical.choose h) env st else .bad
def Vp(h:bA c b n env st≠.bad):bf c b env st=bA c b n env st:=by
 have hx:∃n,bA c b n env st≠.bad:=⟨n,h⟩;unfold bf;rw[dif_pos hx];have h2:=Classical.choose_spec hx;generalize Classical.choose hx=m at h2 ⊢;by_cases hmn:m<=n
 ·obtain⟨k,rfl⟩:=Nat.le.dest hmn;exact (zh7 h2 k).symm
 ·obtain⟨k,rfl⟩:=Nat.le.dest (show n<=m by omega);exact zh7 h k
def Dz:bf c b env st=.bad\/∃n,bf c b env st=bA c b n env st:=by
 unfold bf
 split
 ·exact .inr ⟨_,rfl⟩
 ·exact .inl rfl
theorem xm(c:MT)(b:MS)(env:aK)(st:ak):bf c b env st=(c env st).bind λx st1=>if x then (b env st1).bind λo st2=>(match o with
   | .nx bw=>bf c b bw st2
   | .cn bw=>bf c b bw st2
   | .bk bw=>.ok (.nx bw) st2
   | .rt d=>.ok (.rt d) st2) else .ok (.nx env) st1:=by
 have one:∀n,bA c b (n+1) env st=(c env st).bind λx st1=>if x then (b env st1).bind λo st2=>(match o with
   | .nx bw=>bA c b n bw st2
   | .cn bw=>bA c b n bw st2
   | .bk bw=>.ok (.nx bw) st2
   | .rt d=>.ok (.rt d) st2) else .ok (.nx env) st1:=λn=>by rw[bA]<;>rfl
 have bd:(∀n,bA c b (n+1) env st=.bad)->bf c b env st=.bad:=λh=>by
  unfold bf;rw[dif_neg];rintro ⟨n,hn⟩;cases n with
  | zero=>exact hn (by rw[bA])
  | succ n=>exact hn (h n)
 have go:∀(bw:aK) (st2:ak),(∀n,bA c b (n+1) env st=bA c b n bw st2)->bf c b env st=bf c b bw st2:=λbw st2 h=>by
  by_cases hx:∃n,bA c b n bw st2≠.bad
  ·obtain⟨n,hn⟩:=hx;rw[Vp hn,<-h n,Vp (n:=n+1) (by rw[h n];exact hn)]
  ·have e2:bf c b bw st2=.bad:=by unfold bf;rw[dif_neg hx]
   rw[e2];refine bd λn=>?_;rw[h n];by_cases q:bA c b n bw st2=.bad
   ·exact q
   ·exact absurd ⟨n,q⟩ hx
 cases e:c env st with
 | bad=>rw[R.sS];exact bd λn=>by rw[one n,e,R.sS]
 | err x s =>
  rw[R.sO];have:bA c b 1 env st=.err x s:=by rw[one 0,e,R.sO]
  rw[Vp (n:=1) (by rw[this];exact λz=>nomatch z),this]
 | ok x st1 =>
  rw[R.aB];cases x with
  | false =>
   have:bA c b 1 env st=.ok (.nx env) st1:=by rw[one 0,e,R.aB];rfl
   rw[Vp (n:=1) (by rw[this];exact λz=>nomatch z),this];rfl
  | true =>
   rw[ae7 rfl];cases e2:b env st1 with
   | bad=>rw[R.sS];exact bd λn=>by rw[one n,e,R.aB,ae7 rfl,e2,R.sS]
   | err x s =>
    rw[R.sO];have:bA c b 1 env st=.err x s:=by rw[one 0,e,R.aB,ae7 rfl,e2,R.sO]
    rw[Vp (n:=1) (by rw[this];exact λz=>nomatch z),this]
   | ok o st2 =>
    rw[R.aB];cases o with
    | nx bw=>exact go bw st2 λn=>by rw[one n,e,R.aB,ae7 rfl,e2,R.aB]
    | cn bw=>exact go bw st2 λn=>by rw[one n,e,R.aB,ae7 rfl,e2,R.aB]
    | bk bw =>
     have:bA c b 1 env st=.ok (.nx bw) st2:=by rw[one 0,e,R.aB,ae7 rfl,e2,R.aB]
     rw[Vp (n:=1) (by rw[this];exact λz=>nomatch z),this]
    | rt d =>
     have:bA c b 1 env st=.ok (.rt d) st2:=by rw[one 0,e,R.aB,ae7 rfl,e2,R.aB]
     rw[Vp (n:=1) (by rw[this];exact λz=>nomatch z),this]
noncomputable def PK(c:Nat)(cs:List Nat):List Nat:=(cs.reverse.dropWhile (λx=>decide (x=c))).reverse
def Ue(c:Nat):PK c []=[]:=rfl
end M
namespace L2
open PySem PySem.Spec PyProof.Rows
section
variable  {X:Cx}{a b:Expr}{rest:List Expr}{pos:Pos}{ta tb:TE}
end
end L2
namespace M
open PySem PySem.Spec L2
section
variable  {X:Cx}{a b c:Expr}{ma mb mc:ME}{pos:Pos}{rest:List Expr}
def Fj{body:List Stmt}{tc:MT}{mb:MS}(hc:JT X c tc)(hb:zM X body mb)(hp:PassesOwn 0x7 X.A X.env X.xe):JS X (.While c body [] pos) (bf tc mb):=by
 rintro pins s σ H D I ⟨μ,env,st,hE,hs,q⟩;rcases Dz (c:=tc) (b:=mb) (env:=env) (st:=st) with e | ⟨n,e⟩
 ·rw[e]at q;exact q.elim
 ·rw[e]at q;exact Kg n hc hb hp pins s σ H D I ⟨μ,env,st,hE,hs,q⟩
end
end M
namespace L2
open PySem PySem.Spec PyProof.Rows PySem.Builtin PySem.Builtin.Str
def zm5(c:Bool)(b:Str)(u:Tok):Gives (Builtin.«int.__rmul__» ⟨[.bool c,.str b u],[]⟩) (.val (Value.notImplemented)) :=
 .of_wp λM A E s Q h=>by obtain⟨hp,g,d,tk,os⟩:=s;wp_walk;exact⟨_,rfl,h⟩
def zog(x:Str)(t:Tok):Gives («str.__mul__» ⟨[.str x t,.bool true],[]⟩) (.val (.str x t)):=.rule (.of_eq rfl)
def zly(x:Str)(t:Tok):Gives («str.__mul__» ⟨[.str x t,.bool false],[]⟩) (.str Str.empty):=.rule (.of_eq rfl)
def zqp{X:Cx}:eQ X (binaryOp .Mult) (λx y H Q=>∃(z:Str) (b:Bool),x=.str z/\y=.bl b/\z.length<=sizeLine/\Q (.str (if b=true then z else Str.empty)) H):=by
 show 10;obtain⟨z,b,rfl,rfl,hz,q⟩:=h;show 28;cases ry;refine wpAny_binaryOp_repeat (T:="str") (U:="bool") 0x5 (λs'=>afH s' z t) (λs'=>PyProof.Rows.typeIs_bool' s' b) noFill_str_mul F.fills_bool_mul F.slot_bool_rmul repeat_str F.slot_bool_index.lookup
  (call_gives F.slot_bool_rmul (PyProof.Rows.typeIs_bool' s b) F.entry_int_rmul (F.args_int_rmul_2 _ _) (zm5 b z t) ⟨rfl,?_⟩)
 cases b with
 | true=>exact call_gives F.slot_str_mul (afH s z t) F.entry_str_mul (F.args_str_mul_2 _ _) (zog z t) ⟨.str z,H,I,⟨t,rfl⟩,q⟩
 | false=>exact call_gives F.slot_str_mul (afH s z t) F.entry_str_mul (F.args_str_mul_2 _ _) (zly z t) ⟨by decide,.str Str.empty,H,I.tok _,⟨_,rfl⟩,q⟩
end L2
namespace M
open PySem PySem.Spec L2
def Ey{X:Cx}:eQ X (binaryOp .Mult) (rM X tX):=by
 refine eQ.weak zqp ?_;show 26;unfold tX at hp
 split at hp
 ·rename_i cs b
  split at hp
  ·rename_i hl;obtain rfl:=aq.aP.mp hx;obtain rfl:=aq.bx.mp hy;refine⟨_,b,rfl,rfl,?_,?_⟩
   ·have e:(strOf cs).length=cs.length:=by simp[Str.length,strOf]
    rw[e];exact yI hl
   ·refine hp.ret hs (aq.aP.mpr ?_);cases b<;>rfl
  ·exact hp.elim
 ·exact hp.elim
structure Zd(K:PySem.W.Frag)(x qual:Str)(st:Stmt)(f:Addr)(fd:FuncData):Prop where
 ex:∃(oc:Value) (od:Option Addr) (dV kV doc pm:Value) (an:Option Addr) (cdv ct:Value) (ue:Array (Option Value)),
  fd=PySem.W.fnOf x qual (bZ st) (bh st) (aD st) dV kV doc pm an cdv ct/\K.lookup f=some ⟨oc,od,.func fd,ue⟩/\PySem.W.codeIn K cdv qual=true
 kp:PySem.W.keepIn K (.ref f)=true
section
variable  {P:Program}{w:World}{K:PySem.W.Frag}{mg:Str->Option Value}{base:Heap}
def YJ(F:Zd K x qual st f fd)(S:dm N ps (aD st)) 
  (lV:∀(cdv:Value) (A:Around) (outer:List Env) (s:Shared) (H:Hp),cT k (A.deeper (PyProof.Rows.envOfC qual (aD st) s.heap.objs.size f cdv)) ->
   zM (vX qP P w K mg base N qual (aD st) f cdv A outer s H E0).JF (bh st) m):cH P w K mg base qP (k+1) f fd ps (v9 K ps.length (bB N.length m)):=by
 obtain⟨oc,od,dV,kV,doc,pm,an,cdv,ct,ue,rfl,lk,ym⟩:=F.ex;refine Lp lk ym S (λvs H Q E h=>h.1) λA outer s H vs Q E hr h=>?_;obtain⟨hl,μ,ds,Uc,hv,hs,hp⟩:=h;have hb:=lV cdv A outer s H hr;refine⟨_,zJ.JF hb,μ,startM N.length ds,Uc,ao.start N hv,hs,?_⟩;unfold bB at hp;cases hr:m (startM N.length ds) Uc with
 | bad=>rw[hr]at hp;exact hp.elim
 | err x st1=>rw[hr]at hp;exact hp.elim
 | ok o st1 =>
  rw[hr]at hp;cases o with
  | rt d=>exact hp
  | nx env=>exact fun σ' H' μ' g oN _=>hp .non H' μ' g oN (aq.bJ.mpr rfl)
  | bk env=>exact hp.elim
  | cn env=>exact hp.elim
def R3{x qual:Str}{st:Stmt}{f:Addr}{oc:Value}{od an:Option Addr}{ue:Array (Option Value)}{dV kV doc pm cdv ct:Value}(l:K.lookup f=some ⟨oc,od,.func #[14,dV],ue⟩)
  (c:PySem.W.codeIn K cdv qual=true) (k:PySem.W.keepIn K (.ref f)=true):Zd K x qual st f #[14,dV]:=⟨⟨oc,od,dV,kV,doc,pm,an,cdv,ct,ue,rfl,l,c⟩,k⟩
def Y5{x qual:Str}{st:Stmt}{ps:List Str}{T:Addr}{oc:Value}{od:Option Addr}{d:Value}{n:Nat}{ue:Array (Option Value)}{kV doc pm cdv ct:Value}{an:Option Addr}(l:K.lookup T=some ⟨oc,od,.seq #[d] n,ue⟩)
  (h:∀us:List Value,us.length=ps.length->∃k:Option (Array Value)->Sem (List (Str×Value)),bindArgs #[14,(.ref T)] ⟨us,[]⟩=seqItems? (.ref T) >>= k/\k (some #[d])=pure (ps.zip us)) :
  Binds K #[14,(.ref T)] ps []:=λs us hK hl=>by
 rw[gw]at hl ⊢;obtain⟨k,h1,h2⟩:=h us hl;exact BindsTo.of_defaults (T:=T) rfl (hK _ _ l) rfl h1 h2
def Tj{x qual:Str}{st:Stmt}{ps:List Str}{T:Addr}{oc:Value}{od:Option Addr}{d:Value}{n:Nat}{ue:Array (Option Value)}{kV doc pm cdv ct:Value}{an:Option Addr}(l:K.lookup T=some ⟨oc,od,.seq #[d] n,ue⟩)
  (h:∀us:List Value,us.length+1=ps.length->∃k:Option (Array Value)->Sem (List (Str×Value)),bindArgs #[14,(.ref T)] ⟨us,[]⟩=seqItems? (.ref T) >>= k/\k (some #[d])=pure (ps.zip (us++[d]))) :
  Binds K #[14,(.ref T)] ps [d]:=λs us hK hl=>by
 obtain⟨k,h1,h2⟩:=h us (by simpa using hl);exact BindsTo.of_defaults (T:=T) rfl (hK _ _ l) rfl h1 h2
end
section
variable  {X:Cx}{e:Expr}{es:List Expr}{mA:MA}{pos p:Pos}{x:Str}{k:Nat}{f:Addr}{fd:FuncData}{ps:List Str}{F:FD}{i:Int}
end
def huL(L:Nat){A:Around}{k:Nat}(hr:cT k A)(h:L<=16*k+200):A.units+L<cLine:=by have:=hr.un;omega
end M
namespace M
inductive Tr where
 | lf (s:List Nat) | jn (l r:Tr)
namespace Tr
noncomputable def wV:Tr->Bool
 | .jn (.lf s) _=>s==[83]
 | _=>false
noncomputable def val:Tr->Bool
 | .lf _=>true
 | .jn l r=>val r && (match l with
  | .lf s=>s==[83] || s==[75]
  | .jn _ _=>wV l && val l)
noncomputable def lv:Tr->Nat
 | .lf _=>1
 | .jn l r=>lv l+lv r
noncomputable def dp:Tr->Nat
 | .lf _=>0
 | .jn l r=>max (dp l) (dp r)+1
def Vq(s:List Nat)(r:Tr):val (.jn (.lf s) r)=(val r && (s==[83] || s==[75])):=by rw[val]
def Vk(a b r:Tr):val (.jn (.jn a b) r)=(val r && (wV (.jn a b) && val (.jn a b))):=by rw[val]
def Ov{l r:Tr}(h:val 0x2=true):val l=true/\val r=true:=by
 cases l with
 | lf s=>rw[Vq,gM]at h;exact⟨rfl,h.1⟩
 | jn a b=>rw[Vk,gM,gM]at h;exact⟨h.2.2,h.1⟩
def zkb(t:Tr):dp t<lv t:=by
 induction t with
 | lf s=>simp[dp,lv]
 | jn l r h1 h2=>rw[dp,lv];omega
noncomputable def fX:Tr->Tr->Option Tr
 | .jn (.lf s) b,_=>if s=[75] then some b else none
 | .jn (.jn _ u) v,r=>some (.jn (.jn u r) (.jn v r))
 | .lf _,_=>none
noncomputable def step:Tr->Option Tr
 | .lf _=>none
 | .jn l r=>if val l=false then (step l).map (λx=>.jn x r) else if val r=false then (step r).map (λx=>.jn l x) else if val 0x2=true then none else fX l r
def zlk{t:Tr}(h:val t=true):step t=none:=by
 cases t with
 | lf s=>rw[step]
 | jn l r =>
  obtain⟨h1,h2⟩:=Ov h;rw[step,ae8 (by simp[h1]),ae8 (by simp[h2]),ae7 h]
def zh3{l r:Tr}(h:val l=false):step 0x2=(step l).map (λx=>.jn x r):=by rw[step,ae7 h]
def zf0{l r:Tr}(h1:val l=true)(h:val r=false):step 0x2=(step r).map (λx=>.jn l x):=by rw[step,ae8 (by simp[h1]),ae7 h]
def zgi{l r:Tr}(h1:val l=true)(h2:val r=true)(h:val 0x2=false):step 0x2=fX l r:=by rw[step,ae8 (by simp[h1]),ae8 (by simp[h2]),ae8 (by simp[h])]
noncomputable def run:Nat->Tr->Tr×Nat
 | 0,t=>(t,0)
 | n+1,t=>match step t with
  | none=>(t,0)
  | some u=>((run n u).1,(run n u).2+1)
theorem Vi{t:Tr}(h:step t=none):∀n,run n t=(t,0)
 | 0=>rfl
 | n+1=>by rw[run,h]
def zk6{t u:Tr}(h:step t=some u)(n:Nat):run (n+1) t=((run n u).1,(run n u).2+1):=by rw[run,h]
def PJ(a b:Nat):∀t,run (a+b) t=((run b (run a t).1).1,(run a t).2+(run b (run a t).1).2):=by
 induction a with
 | zero=>intro t;simp[run]
 | succ a ih =>
  intro t;rw[pL];cases h:step t with
  | none=>rw[Vi h,Vi h,Vi h];rfl
  | some u =>
   rw[zk6 h,zk6 h,ih u];simp only;rw[pL]
inductive Fr where
 | fl (r:Tr) | fr (l:Tr)
noncomputable def fill:Fr->Tr->Tr
 | .fl r,t=>.jn t r
 | .fr l,t=>.jn l t
noncomputable def cW(fs:List Fr)(t:Tr):Tr:=fs.foldr fill t
def good(fs:List Fr):Prop:=∀f∈fs,∀l,f=.fr l->val l=true
def zhv(fs:List Fr)(f:Fr)(t:Tr):cW (fs++[f]) t=cW fs (fill f t):=by simp[cW]
def zp2(fs:List Fr)(f:Fr)(t:Tr):cW (f::fs) t=fill f (cW fs t):=rfl
def Lx{f:Fr}{t:Tr}(h:val t=false):val (fill f t)=false:=by
 cases hv:val (fill f t) with
 | false=>rfl
 | true =>
  cases f with
  | fl r=>rw[(Ov hv).1]at h;exact h
  | fr l=>rw[(Ov hv).2]at h;exact h
def Jf{fs:List Fr}{t:Tr}(h:val t=false):val (cW fs t)=false:=by
 induction fs with
 | nil=>exact h
 | cons f fs ih=>exact Lx ih
def Ec{fs:List Fr}{t:Tr}(hg:good fs)(h:val t=false):step (cW fs t)=(step t).map (cW fs):=by
 induction fs with
 | nil=>show step t=_;cases step t<;>rfl
 | cons f fs ih =>
  have ih:=ih λf hf=>hg f (kW _ hf);have hv:=Jf (fs:=fs) h;rw[zp2];cases f with
  | fl r =>
   show step (.jn (cW fs t) r)=_;rw[zh3 hv,ih];cases step t<;>rfl
  | fr l =>
   show step (.jn l (cW fs t))=_;rw[zf0 (hg (.fr l) 0x1 l rfl) hv,ih];cases step t<;>rfl
def Qp(fs:List Fr)(t:Tr):fs.length+dp t<=dp (cW fs t):=by
 induction fs with
 | nil=>simp[cW]
 | cons f fs ih =>
  rw[zp2,gC];cases f with
  | fl r=>show _<=dp (.jn (cW fs t) r);rw[dp];omega
  | fr l=>show _<=dp (.jn l (cW fs t));rw[dp];omega
def Ip{l r u:Tr}(h:fX l r=some u):dp u<=dp 0x2+1:=by
 cases l with
 | lf s=>rw[fX]at h;cases h
 | jn a b =>
  cases a with
  | lf s =>
   rw[fX]at h
   split at h
   ·cases h;rw[dp,dp];omega
   ·cases h
  | jn a c =>
   rw[fX]at h;cases h;simp only[dp];omega
theorem zr8:∀{t u:Tr},step t=some u->dp u<=dp t+1
 | .lf _,_,h=>by rw[step]at h;cases h
 | .jn l r,u,h=>by
  rw[step]at h
  split at h
  ·cases e:step l with
   | none=>rw[e]at h;cases h
   | some x =>
    rw[e]at h;cases h;have:=zr8 e;rw[dp,dp];omega
  ·split at h
   ·cases e:step r with
    | none=>rw[e]at h;cases h
    | some x =>
     rw[e]at h;cases h;have:=zr8 e;rw[dp,dp];omega
   ·split at h
    ·cases h
    ·exact Ip h
def sk:Tr->Prop
 | .lf s=>s=[83]\/s=[75]
 | .jn l r=>sk l/\sk r
end Tr
open Tr
noncomputable def enc:Tr->D
 | .lf s=>.str s
 | .jn l r=>.tup [enc l,enc r,.int (lv 0x2:Nat),.bl (val 0x2)]
def zis(t:Tr):flat (enc t)=true:=by
 induction t with
 | lf s=>simp[enc]
 | jn l r h1 h2=>simp[enc,h1,h2]
def R8(t:Tr):dep (enc t)=dp t:=by
 induction t with
 | lf s=>simp[enc,dp]
 | jn l r h1 h2=>simp[enc,dp,h1,h2]
def jE(n:Nat)(t:Tr):under n (enc t):=by
 induction t with
 | lf s=>simp[enc]
 | jn l r h1 h2=>simp[enc,h1,h2]
def T7(L:Nat)(t:Tr)(s:List Nat)(st:ak):ig (L+1) (enc t) (.str s) st=.ok (.bl (match t with | .lf c=>decide (c=s) | .jn _ _=>false)) st:=by
 cases t with
 | lf c=>exact IK st L c s
 | jn l r =>
  have hf:=zis 0x2;unfold ig;have:j5 (L+1) (enc 0x2) (.str s) st=some false:=by
   rw[enc]at hf ⊢;simp only[j5];rw[ae7 ⟨hf,by simp,by simp⟩];simp[jm]
  rw[this]
def ztt(t:Tr)(st:ak):yj "str" (enc t) st=.ok (.bl (match t with | .lf _=>true | .jn _ _=>false)) st:=by
 cases t with
 | lf s=>rw[enc];simp[lq]
 | jn l r=>rw[enc];simp[lq]
def LR(t:Tr)(st:ak):bN (enc t) .non st=.ok (.bl false) st:=by
 cases t with
 | lf s=>rfl
 | jn l r=>rfl
end M
namespace M
open PySem PySem.Spec L2 PyProof.Rows
end M
namespace M
open L2
noncomputable def dM:D->List D->ak->R D
 | .loc n,[],st=>match st[n]? with
  | some (.lst a)=>.ok .non (st.set n (.lst a.reverse))
  | _=>.bad
 | _,_,_=>.bad
end M
namespace M
open PySem PySem.Spec L2
section
variable  {X:Cx}
def zqh:sX X "list.reverse" (G_ X dM):=by
 refine sX.weak zsz ?_;show 20;unfold dM at hp
 split at hp
 ·rename_i n
  split at hp
  ·rename_i a e1;show 19;rw[ao]at j4;obtain⟨p',ys,r1,r2,r3⟩:=hs.lst e1;show 7;obtain⟨g,oN⟩:=vp hs e1 q1 r2 r3.reverse;exact⟨p,ys,rfl,j4,r2,hp _ _ μ g oN (aq.bJ.mpr rfl)⟩
  ·exact hp.elim
 ·exact hp.elim
def cH.never{P:Program}{w:World}{K:PySem.W.Frag}{mg:Str->Option Value}{base:Heap}{k n:Nat}{f:Addr}{fd:FuncData}{ps:List Str}(h:n=ps.length:=by rfl):cH P w K mg base qP k f fd ps (v9 K n λ_ _=>.bad) :=
 ⟨λvs H Q E q=>q.1.trans h,λA outer s H args us vs Q E hr he hb hv hs=>by
  obtain⟨_,_,_,_,_,_,hp⟩:=hs;exact hp.elim⟩
end
section
variable  {X:Cx}{pos p:Pos}{x:Str}{k:Nat}{f:Addr}{fd:FuncData}{F:FD}
def KD(G:cH X.prog X.w X.K X.mg X.base qP k f fd [] (v9 X.K 0 F))(hr:cT k X.A)(hm:X.mg x=some (.ref f))(hk:PySem.W.keepIn X.K (.ref f)=true)(hb:Binds X.K fd [] [])(hg:Gl X x:=by rfl)(rY:0xc=false:=by decide) :
  JE X (.Call (.Name x p) [] [] pos) (az F [] au):=by
 refine JE.of (Js G hr hg hm hk hb .nil BL rY) fun σ H Q zz=>?_;show 1;refine⟨rfl,μ,[],st,ao.nil,hs,?_⟩;have dX:bR X μ H (lN X) Q (F ([]++[]) st).sure:=hp;rw[gw]at dX;cases hF:F [] st with
 | ok d st2=>rw[hF]at dX;exact dX
 | err y st2=>rw[hF]at dX;exact dX.elim
 | bad=>rw[hF]at dX;exact dX.elim
end
end M
namespace L2
open PySem PySem.Spec PyProof.Rows
noncomputable def eO(L:List 0x6)(H:Hp):Hp:=λb=>match L.lookup b with | some o=>some (.frz o (.own 0)) | none=>H b
noncomputable def dY(L:List 0x6)(H:Hp):Hp:=λb=>match L.lookup b with | some _=>none | none=>H b
def zl4(h:L.lookup b=some o):eO L H b=some (.frz o (.own 0)):=by unfold eO;rw[h]
def xJ(h:L.lookup b=none):eO L H b=H b:=by unfold eO;rw[h]
def zmi(h:L.lookup b=some o):dY L H b=none:=by unfold dY;rw[h]
def Dt(h:L.lookup b=none):dY L H b=H b:=by unfold dY;rw[h]
def GP(h:eO L H b=some u):(∃o,L.lookup b=some o/\u=.frz o (.own 0))\/(L.lookup b=none/\H b=some u):=by
 unfold eO at h;cases e:L.lookup b with
 | some o=>rw[e]at h;cases h;exact .inl ⟨o,rfl,rfl⟩
 | none=>rw[e]at h;exact .inr ⟨rfl,h⟩
def Gi(h:dY L H b=some u):L.lookup b=none/\H b=some u:=by
 unfold dY at h;cases e:L.lookup b with
 | some o=>rw[e]at h;cases h
 | none=>rw[e]at h;exact⟨rfl,h⟩
section
variable  {P:Program}{w:World}{H H':Hp}{h h':Heap}{L:List 0x6}
def lz.eO(x:lz P w H h)(n:∀b o,L.lookup b=some o->H b=none)(k:∀b o,L.lookup b=some o->h.get? b=some o):lz P w (eO L H) h:=λa u e=>by
 have up:∀b v,H b=some v->L2.eO L H b=some v:=λb v q=>by
  cases z:L.lookup b with
  | some o=>rw[n b o z]at q;cases q
  | none=>rw[xJ z];exact q
 rcases GP e with⟨o,e1,rfl⟩ | ⟨e1,e2⟩
 ·exact⟨k a o e1,o,k a o e1⟩
 ·exact (x a u e2).uN (λ_ _ _ q=>q) (λb q=>up b _ q) λb xs q=>up b _ q
def lz.dY(x:lz P w H h)(n:∀b o,L.lookup b=some o->∃o',H b=some (.frz o' (.own 0))):lz P w (dY L H) h:=λa u e=>by
 have up:∀b v,H b=some v->(∀o',v≠.frz o' (.own 0))->L2.dY L H b=some v:=λb v q z=>by
  cases y:L.lookup b with
  | some o =>
   obtain⟨o',e'⟩:=n b o y;rw[e']at q;exact absurd (afa q).symm (z o')
  | none=>rw[Dt y];exact q
 obtain⟨_,e2⟩:=Gi e;exact (x a u e2).uN (λ_ _ _ q=>q) (λb q=>up b _ q λ_ z=>nomatch z) λb xs q=>up b _ q λ_ z=>nomatch z
end
section
variable  {X:Cx}{k:Nat}{f:Addr}{fd:FuncData}{ps:List Str}{sp:Sp}{lX:List V}{ds:List Value}{pins:List 0x6}{σ:St}{H:Hp}{s:Shared}{Q:VK}{us:List Value}{vs:List V}
def PB(F:cH X.prog X.w X.K X.mg X.base qP k f fd ps sp)(hr:cT k X.A)(hb:Binds X.K fd ps ds)(hd:Vals lX ds)(I:Inv X pins σ H s) 
  (hL:∀b o,L.lookup b=some o->s.heap.get? b=some o/\∃x,X.env.cells.lookup x=some b/\X.fn x=true)
  (r:Vals vs us) (h:sp (vs++lX) (eO L H) (λv H'=>Q v (dY L H')) E0):wpAny 0x7 X.A (call (.ref f) us) (EP X pins σ Q) X.xe s:=by
 have r2:Vals (vs++lX) (us++ds):=r.append hd;have hl:(us++ds).length=ps.length:=by rw[<-r2.length];exact F.len _ _ _ _ h
 have nL:∀b o,L.lookup b=some o->H b=none:=λb o e=>let ⟨_,x,hx,_⟩:=hL b o e;I.jL x b hx;have e0:=I.R6;have e1:yE X.prog X.w X.K X.mg X.base X.A X.stack s (eO L H):=by
  refine⟨e0.frames,e0.mod,λb o e=>⟨(e0.bs b o e).1,?_⟩,e0.Gz,e0.oU,λb oR=>?_,I.bQ.eO nL λb o e=>(hL b o e).1,e0.bare⟩
  ·cases z:L.lookup b with
   | none=>rw[xJ z];exact (e0.bs b o e).2
   | some o' =>
    obtain⟨_,x,hx,hf⟩:=hL b o' z;have h1:=I.ok.U8 x b hf hx;exact absurd (gR (gr e) (kh I.ok.Gz h1)) (mJ _)
  ·cases z:L.lookup b with
   | none=>rw[xJ z];exact e0.Li b oR
   | some o' =>
    obtain⟨_,x,hx,hf⟩:=hL b o' z;rcases gm.mp (I.vh b oR) with q | q
    ·exact absurd q (I.U7 x b hx)
    ·have h1:=I.ok.U8 x b hf hx;obtain⟨_,o2,K7,_⟩:=I.ok.oU.mem q;exact absurd (gR (gr K7) h1) (mJ _)
 refine wpAny_call (afO (F.run X.A X.stack s (eO L H) ⟨us,[]⟩ (us++ds) (vs++lX) _ E0 hr e1 (hb s us I.qR hl) r2 h) λr s' hq=>?_);cases r with
 | error e=>exact False.elim hq
 | ok fl =>
  cases fl with
  | ret u =>
   obtain⟨v,H',os,bare,un,bQ,rv,q⟩:=hq;obtain⟨hh,g,d,t,os'⟩:=s';obtain rfl:os'=s.os:=os;have kept:∀b o,L.lookup b=some o->H' b=some (.frz o (.own 0)):=λb o e=>un.t7 b o (.own 0) (zl4 e);have un':Un (CQ X.stack) [] H (dY L H') s.heap hh:=by
    refine⟨λb o e n hb hx=>?_,λb o e n hb hx=>?_,λb o e n hx=>?_,un.there,λb xs e=>?_,λb o u e=>?_,λb ps e=>?_⟩
    ·cases z:L.lookup b with
     | none=>exact un.keep b o e (by rw[xJ z];exact n) hb hx
     | some o' =>
      have e2:=(hL b o' z).1;rw[e]at e2;cases e2;exact (bQ b _ (kept b o z)).1
    ·cases z:L.lookup b with
     | none=>exact un.slot b o e (by rw[xJ z];exact n) hb hx
     | some o' =>
      have e2:=(hL b o' z).1;rw[e]at e2;cases e2;exact⟨o.slots,(bQ b _ (kept b o z)).1⟩
    ·cases z:L.lookup b with
     | none=>rw[Dt z];exact un.free b o e (by rw[xJ z];exact n) hx
     | some o'=>exact zmi z
    ·have z:L.lookup b=none:=by
      cases z:L.lookup b with
      | none=>rfl
      | some o'=>rw[nL b o' z]at e;cases e
     rw[Dt z];exact un.u9 b xs (by rw[xJ z];exact e)
    ·have z:L.lookup b=none:=by
      cases z:L.lookup b with
      | none=>rfl
      | some o'=>rw[nL b o' z]at e;cases e
     rw[Dt z];exact un.t7 b o u (by rw[xJ z];exact e)
    ·have z:L.lookup b=none:=by
      cases z:L.lookup b with
      | none=>rfl
      | some o'=>rw[nL b o' z]at e;cases e
     rw[Dt z];exact un.uM b ps (by rw[xJ z];exact e)
   exact⟨v,dY L H',I.call (h':=hh) (g':=g) (d':=d) (t':=t) (ch:=[]) un' (bQ.dY λb o e=>⟨o,kept b o e⟩) bare (λb z=>absurd z 0x1),rv,q⟩
  | next=>exact False.elim hq
  | brk=>exact False.elim hq
  | cont=>exact False.elim hq
end
def BMain(mg:Str->Option Value)(base:Heap):Prop :=
 ∃bm o,mg "__builtins__" = some (.ref bm)/\bm≠builtinsNs/\bm≠mainGlobals/\base.get? bm=some o/\o.cls=.type "module"/\o.dict=some builtinsNs/\o.data=.plain
def acb(H:Hp)(P:Addr)(q:Str):Prop:=∃ps:Array Value,H P=some (.tbl ps)/\TriplesOk ps.toList/\∀pos cv,codeAmong pos ps.toList=some cv->∃c',cv=.ref c'/\M.sU H c' q
structure vZ(H H':Hp)(P f c':Addr)(q:Str)(ob:Obj):Prop where
 new:H' f=some (.frz ob (.own 0))
 nf:H f=none
 code:M.sU H' c' q
 tab:acb H' P q
 same:∀b u,b≠P->H b=some u->H' b=some u
noncomputable def acM(P:Addr)(q:Str)(params:Arguments)(body:Expr)(scope:Scope)(clos:List (Str×Addr)):TE:=fun σ H Q=>acb H P q /\
 ∀f c' pm sG H',vZ H H' P f c' q (PySem.W.kla_obj "<lambda>" q params body scope clos pm c' sG)->Q (.ref f) H'
def zmn(ht:TriplesOk l)(hn:codeAmong pos l=none)(h:codeAmong pos' (l++[rawInt pos.line,rawInt pos.col,c])=some cv):codeAmong pos' l=some cv\/cv=c:=by
 clear hn
 fun_induction TriplesOk l with
 | case1 =>
  simp only[m8,codeAmong,rawInt]at h
  split at h
  ·cases h;exact .inr rfl
  ·cases h
 | case2 a t b u x rest ih =>
  simp only[nH,codeAmong]at h ⊢
  split at h
  ·rename_i hc;rw[ae7 hc];exact .inl h
  ·rename_i hc;rw[ae8 hc];exact ih ht h
 | case3 l h1 h2=>exact ht.elim
section
variable  {X:Cx}{P c:Addr}{q:Str}{params:Arguments}{body:Expr}{scope:Scope}{clos:List (Str×Addr)}{pos:Pos}
def Wx(hB:BMain X.mg X.base)(hc:X.env.code=.ref c)(hh:PySem.W.codeHdIn X.K c P=true)(hq:X.env.qual ++ "<lambda>" = q)(uQ:closureFor scope X.env=pure clos)(Yz:defaultsOf params X.env=([],[]):=by rfl) :
  PE X (.Lambda params body scope pos) (acM P q params body scope clos):=by
 rintro pins s σ H Q I ⟨⟨ps,hP,ht,Av⟩,h⟩;refine PySem.W.kla_eval Yz ?_;rw[hq];have oP:s.heap.get? P=some (PySem.W.tabObj ps):=I.bQ P _ hP;have hg:s.heap.Ns mainGlobals X.mg:=I.mod.glob.keeps I.bk;have CH:PySem.W.CodeHd s.heap c P:=PySem.W.codeHd_of_K I.qR hh;have hgP:mainGlobals≠P:=λz=>by
  obtain⟨o,es,ep,e,d,_⟩:=hg;rw[z,oP]at e;cases e;cases d
 have hb:s.heap.BuiltinsAt X.mg P:=by
  obtain⟨bm,o,b1,b2,b3,b4,b5,b6,b7⟩:=hB;have e:=I.bk bm o b4;refine⟨bm,o,b1,b2,b3,λz=>?_,e,b5,b6,b7⟩;rw[z,oP]at e;cases e;cases b7
 have hLP:X.env.locals≠P:=λz=>by have:=I.free;rw[z,hP]at this;cases this
 cases YD:codeAmong pos ps.toList with
 | none =>
  refine PySem.W.kla_makeFunction (mg:=X.mg) uQ I.ok.glob hg hc CH oP ht YD hgP hb λc' sG h' tk hx hge wk adV htb=>?_;obtain⟨c2,oc,vs,t,e2,hoc,hd,hv⟩:=adV;cases e2;have hsz:s.heap.objs.size<=h'.objs.size:=kh hge (Nat.le_of_lt wk);have nc:H c'=none:=I.bQ.fresh hge;have nf:H h'.objs.size=none:=I.bQ.fresh hsz;have cf:c'≠h'.objs.size:=gY wk;have cP:c'≠P:=λz=>by rw[z,hP]at nc;cases nc
  have fP:h'.objs.size≠P:=λz=>by rw[z,hP]at nf;cases nf
  let ob:Obj:=PySem.W.kla_obj "<lambda>" q params body scope clos ((X.mg "__name__").getD .none) c' sG
  let ps':Array Value:=ps++#[rawInt pos.line,rawInt pos.col,.ref c']
  let H1:Hp:=upd H P (.tbl ps')
  let H2:Hp:=upd H1 c' (.frz oc (.own 0))
  let H':Hp:=upd H2 h'.objs.size (.frz ob (.own 0))
  have s1:∀b u,b≠P->H b=some u->H' b=some u:=λb u RZ e=>by
   have n1:b≠h'.objs.size:=z7 e nf;have n2:b≠c':=z7 e nc;show upd H2 h'.objs.size _ b=_;rw[iK n1];show upd H1 c' _ b=_;rw[iK n2];show upd H P _ b=_;rw[iK RZ];exact e
  have atP:H' P=some (.tbl ps'):=by
   show upd H2 h'.objs.size _ P=_;rw[iK (afi fP)];show upd H1 c' _ P=_;rw[iK (afi cP)];exact qT
  have atc:H' c'=some (.frz oc (.own 0)):=by
   show upd H2 h'.objs.size _ c'=_;rw[iK cf];exact qT
  have atf:H' h'.objs.size=some (.frz ob (.own 0)):=qT;have back:∀b u,H' b=some u->b=h'.objs.size\/b=c'\/b=P\/(b≠P/\H b=some u):=λb u e=>by
   by_cases n1:b=h'.objs.size
   ·exact .inl n1
   by_cases n2:b=c'
   ·exact .inr (.inl n2)
   by_cases n3:b=P
   ·exact .inr (.inr (.inl n3))
   ·refine .inr (.inr (.inr ⟨n3,?_⟩));have e:upd H2 h'.objs.size _ b=some u:=e;rw[iK n1]at e;have e:upd H1 c' _ b=some u:=e;rw[iK n2]at e;have e:upd H P _ b=some u:=e;rw[iK n3]at e;exact e
  have kp:∀b o,b≠P->s.heap.get? b=some o->(h'.push ob).get? b=some o:=λb o RZ e=>gF _ (hx b o RZ e);have ext:M.Ext H H':=⟨λb xs e=>s1 b _ (λz=>by rw[z,hP]at e;cases e) e,λb o u e=>s1 b _ (λz=>by rw[z,hP]at e;cases e) e⟩;have new:vZ H H' P h'.objs.size c' q ob:=by
   refine⟨atf,nf,⟨oc,vs,t,atc,hd,hv⟩,⟨ps',atP,?_,λpos' cv e=>?_⟩,s1⟩
   ·show TriplesOk (ps++#[rawInt pos.line,rawInt pos.col,Value.ref c']).toList;rw[Array.toList_append];exact TriplesOk_snoc _ _ _ _ ht
   ·have e':codeAmong pos' (ps.toList++[rawInt pos.line,rawInt pos.col,Value.ref c'])=some cv:=by
     rw[<-Array.toList_append];exact e
    rcases zmn ht YD e' with e1 | e1
    ·obtain⟨c2,q1,q2⟩:=Av pos' cv e1;exact⟨c2,q1,q2.ext ext⟩
    ·exact⟨c',e1,⟨oc,vs,t,atc,hd,hv⟩⟩
  refine⟨.ref h'.objs.size,H',?_,rfl,h _ _ _ _ _ new⟩;have nP:∀b,H b=none->b≠P:=λb n z=>by rw[z,hP]at n;cases n
  refine I.step (g':=s.gens) (d':=s.drawn) (ch:=[]) (λ_ z=>nomatch z) (λb o _ _ _ e n=>kp b o (nP b n) e) (λb o _ _ _ e n=>⟨o.slots,kp b o (nP b n) e⟩) (λb o _ e n=>?_) (λb o _ e=>?_)
   (λb xs e=>ext.tup b xs e) (λb o u e=>ext.frz b o u e) (λb ps2 e=>?_) (λm hm=>(hm.extBut hx hLP).push _) (λb u e=>?_) I.bare
  ·cases z:H' b with
   | none=>rfl
   | some u =>
    have lt:=gr e;rcases back b u z with z1 | z1 | z1 | ⟨_,z1⟩
    ·rw[z1]at lt;exact absurd (gR lt hsz) (mJ _)
    ·rw[z1]at lt;exact absurd (gR lt hge) (mJ _)
    ·exact absurd z1 (nP b n)
    ·rw[n]at z1;cases z1
  ·by_cases RZ:b=P
   ·subst RZ;exact⟨_,gF _ htb⟩
   ·exact⟨o,kp b o RZ e⟩
  ·by_cases RZ:b=P
   ·subst RZ;rw[hP]at e;cases e;exact⟨_,atP⟩
   ·exact⟨#[],by rw[s1 b _ RZ e];simp⟩
  ·rcases back b u e with z1 | z1 | z1 | ⟨z0,z1⟩
   ·subst z1;rw[atf]at e;cases e;exact⟨g_ _ rfl,ob,g_ _ rfl⟩
   ·subst z1;rw[atc]at e;cases e;exact⟨gF _ hoc,oc,gF _ hoc⟩
   ·subst z1;rw[atP]at e;cases e;exact gF _ htb
   ·have JH:∀b2 u2,H b2=some u2->(∀ps2,u2≠.tbl ps2)->H' b2=some u2:=λb2 u2 q z=>s1 b2 u2 (λy=>by rw[y,hP]at q;exact z _ (afa q).symm) q;refine (I.bQ b u z1).uN (λc2 v hc q=>kp c2 v ?_ q) (λc2 q=>JH c2 _ q λ_ z=>nomatch z) λc2 xs q=>JH c2 _ q λ_ z=>nomatch z;rcases hc with y | y
    ·rw[y];exact z0
    ·exact λy2=>by rw[y2,hP]at y;cases y
 | some cv =>
  obtain⟨c',rfl,zg⟩:=Av pos cv YD;refine PySem.W.kla_makeFunctionHit (mg:=X.mg) uQ I.ok.glob hg hc CH oP ht YD hb λsG h' tk hk hsz=>?_;have nf:H h'.objs.size=none:=I.bQ.fresh hsz
  let ob:Obj:=PySem.W.kla_obj "<lambda>" q params body scope clos ((X.mg "__name__").getD .none) c' sG
  have kp:∀b o,s.heap.get? b=some o->(h'.push ob).get? b=some o:=λb o e=>gF _ (hk b o e);have s1:∀b u,H b=some u->upd H h'.objs.size (.frz ob (.own 0)) b=some u:=λb u e=>by rw[iK (z7 e nf)];exact e
  have ext:M.Ext H (upd H h'.objs.size (.frz ob (.own 0))):=⟨λb xs e=>s1 b _ e,λb o u e=>s1 b _ e⟩;refine⟨.ref h'.objs.size,upd H h'.objs.size (.frz ob (.own 0)),I.laid (t':=tk) kp (by exact hsz) ⟨g_ _ rfl,ob,g_ _ rfl⟩,rfl,h _ c' _ _ _ ⟨qT,nf,zg.ext ext,⟨ps,s1 _ _ hP,ht,λpos' cv e=>?_⟩,λb u _ e=>s1 b u e⟩⟩;obtain⟨c2,q1,q2⟩:=Av pos' cv e;exact⟨c2,q1,q2.ext ext⟩
end
def zmb{cl:List (Str×Addr)}(nd:(cl.map (·.2)).Nodup){x y:Str}{c:Addr}(h1:cl.lookup x=some c)(h2:cl.lookup y=some c):x=y:=by
 induction cl with
 | nil=>cases h1
 | cons p cl ih =>
  obtain⟨z,d⟩:=p;rw[gq,mH]at nd;have mem:∀w,cl.lookup w=some c->c∈cl.map (·.2):=λw e=>gh.mpr ⟨(w,c),afd e,rfl⟩;rw[kE]at h1 h2;by_cases e1:(x==z)=true
  ·simp only[e1]at h1;cases h1;by_cases e2:(y==z)=true
   ·rw[eq_of_beq e1,eq_of_beq e2]
   ·simp only[show (y==z)=false by simpa using e2]at h2;exact absurd (mem y h2) nd.1
  ·simp only[show (x==z)=false by simpa using e1]at h1;by_cases e2:(y==z)=true
   ·simp only[e2]at h2;cases h2;exact absurd (mem x h1) nd.1
   ·simp only[show (y==z)=false by simpa using e2]at h2;exact ih nd.2 h1 h2
def Fb{β:Type}{cl:List (Str×β)}{x:Str}(h:x∈cl.map (·.1)):∃c,cl.lookup x=some c:=by
 induction cl with
 | nil=>cases h
 | cons p cl ih =>
  rw[kE];by_cases e:(x==p.1)=true
  ·simp only[e];exact⟨_,rfl⟩
  ·simp only[show (x==p.1)=false by simpa using e];refine ih ?_;rcases gm.mp h with z | z
   ·rw[z]at e;simp at e
   ·exact z
def lookup_mem{β:Type}{l:List (Str×β)}{x:Str}{u:β}(nd:(l.map (·.1)).Nodup)(h:(x,u)∈l):l.lookup x=some u:=by
 induction l with
 | nil=>cases h
 | cons p l ih =>
  rw[gq,mH]at nd;rw[kE];rcases gm.mp h with z | z
  ·subst z;simp
  ·have:(x==p.1)=false:=by
    have hx:x∈l.map (·.1):=gh.mpr ⟨(x,u),z,rfl⟩;have:x≠p.1:=λy=>nd.1 (y ▸ hx);simpa using this
   simp only[this];exact ih nd.2 z
theorem zmp:∀{cl:List (Str×Addr)} {vs:List V},M.fj H cl vs->(cl.map (·.2)).Nodup->∃L:List 0x6,(∀b o,L.lookup b=some o->H b=some (.frz o (.own 0))/\∃u,o.data=.cell (some u)) /\
  (∀(i:Nat) (x:Str) (c:Addr),cl[i]? = some (x,c)->∃v o u,vs[i]? = some v/\L.lookup c=some o/\o.data=.cell (some u)/\RelV v u)/\vs.length=cl.length
 | [],vs,h,_=>by
  have h:vs=[]:=h;subst h;exact⟨[],λb o e=>by simp at e,λi x c e=>by simp at e,rfl⟩
 | (x,c)::cl,_,⟨v,r,o,u,rfl,h2,h3,h4,h5⟩,nd=>by
  rw[gq,mH]at nd;obtain⟨L,Hi,hL2,hlen⟩:=zmp h5 nd.2;refine⟨(c,o)::L,λb o' e=>?_,λi y d e=>?_,by simp[hlen]⟩
  ·rw[kE]at e;by_cases hb:(b==c)=true
   ·simp only[hb]at e;cases e;rw[eq_of_beq hb];exact⟨h2,u,h3⟩
   ·simp only[show (b==c)=false by simpa using hb]at e;exact Hi b o' e
  ·cases i with
   | zero =>
    simp at e;obtain⟨rfl,rfl⟩:=e;exact⟨v,o,u,rfl,by rw[kE];simp,h3,h4⟩
   | succ i =>
    have e:cl[i]? = some (y,d):=by simpa using e
    obtain⟨v',o',u',q1,q2,q3,q4⟩:=hL2 i y d e;have hd:(d==c)=false:=by
     have:d∈cl.map (·.2):=gh.mpr ⟨(y,d),gZ e,rfl⟩;have:d≠c:=λz=>nd.1 (z ▸ this);simpa using this
    exact⟨v',o',u',by simpa using q1,by rw[kE];simp only[hd];exact q2,q3,q4⟩
structure zK(cn ps:List Str)(sc:Scope):Prop where
 kind:sc.kind=.function
 co:sc.isCoroutine=false
 gen:sc.isGenerator=false
 nd:(cn++ps).Nodup
 free:∀y∈sc.names,y.2=.free->y.1∈cn
 JM:∀y∈sc.names,y.2≠.cell
 Yd:∀x∈cn,sc.names.lookup x=some .free
 par:∀x∈ps,sc.names.lookup x=some .local
noncomputable def Cj(P:Program)(w:World)(K:PySem.W.Frag)(mg:Str->Option Value)(base:Heap)(N:List Str)(qual:Str)(scope:Scope)(f:Addr)(cd:Value)(cl:List (Str×Addr))(A:Around)(outer:List Env)(s:Shared)(H:Hp):Cx where
 prog:=P
 w:=w
 K:=K
 mg:=mg
 base:=base
 A:=A.deeper (PySem.W.envX qual scope s.heap.objs.size f cd cl)
 N:=N
 aeX:=s
 ae5:=H
 env:=PySem.W.envX qual scope s.heap.objs.size f cd cl
 outer:=outer
 stack:=PySem.W.envX qual scope s.heap.objs.size f cd cl::outer
 ex:=[]
 calm:=true
 fn:=λ_=>false
 pn:=[]
 xe:=λ_ _=>False
section
variable  {P:Program}{w:World}{K:PySem.W.Frag}{mg:Str->Option Value}{base:Heap}{A:Around}{outer:List Env}{s:Shared}{H:Hp}{qual:Str}{params:Arguments}{body:Expr}{scope:Scope}{cl:List (Str×Addr)}{pm sG:Value}{c' f:Addr}{k:Nat}
 {cn ps:List Str} {us:List Value} {vs NK:List V} {Q:VK} {t:TE}
def Ra(e0:yE P w K mg base A outer s H)(hr:cT (k+1) A)(S:zK cn ps scope)(hf:H f=some (.frz (PySem.W.kla_obj "<lambda>" qual params body scope cl pm c' sG) (.own 0)))(zg:M.sU H c' qual)
  (Uz:cl.map (·.1)=cn) (zW:(cl.map (·.2)).Nodup) (yl:M.fj H cl NK) (hb:bindArgs (PySem.W.kla_fn "<lambda>" qual params body scope cl pm (.ref c') sG) ⟨us,[]⟩=pure (ps.zip us)) (hl:us.length=ps.length) (r:Vals vs us)
  (lV:∀L:List 0x6,(∀b o,L.lookup b=some o->H b=some (.frz o (.own 0))/\∃u,o.data=.cell (some u))->∃t,PE (Cj P w K mg base (cn++ps) qual scope f (.ref c') cl A outer s (dY L H)) body t/\t ((NK++vs).map some) (dY L H) λv H'=>(∀b o,L.lookup b=some o->H' b=none)->Q v (eO L H')) :
  codeAny (model P w) A (.call (.ref f) ⟨us,[]⟩) (CR qP outer P w H s Q E0) s:=by
 obtain⟨L,Hi,hL2,Uw⟩:=zmp yl zW;obtain⟨t,hPE,ht⟩:=lV L Hi;have of:=(e0.bQ f _ hf).1;obtain⟨oc,cvs,ct,hc1,YF,hc3⟩:=zg;have occ:=(e0.bQ c' _ hc1).1;have lim:s.heap.NoLimit:=e0.mod.nolimit.keeps λb o e=>(e0.bs b o e).1;have cellIn:∀x c,cl.lookup x=some c->∃i,cl[i]? = some (x,c):=λx c e=>by
  obtain⟨i,hi,e2⟩:=List.getElem_of_mem (afd e);exact⟨i,by rw[gK hi,e2]⟩
 have abY:∀x c,cl.lookup x=some c->∃o,L.lookup c=some o:=λx c e=>by
  obtain⟨i,hi⟩:=cellIn x c e;obtain⟨_,o,_,_,q,_⟩:=hL2 i x c hi;exact⟨o,q⟩
 have abH:lz P w (dY L H) s.heap:=e0.bQ.dY λb o e=>⟨o,(Hi b o e).1⟩;refine PySem.W.kla_callFunE hr.depth of rfl S.co S.gen rfl ⟨c',oc,cvs,ct,rfl,occ,YF,hc3⟩ ?_;rw[hb];have ad2:∀x∈ps.zip us,scope.names.lookup x.1=some .local:=λ⟨n,v⟩ hy=>S.par n (nJ hy).1;refine ae9 (wpAny_newFunctionEnv S.JM ad2 (λae4 FJ hsb=>⟨lim.fresh _ hsb,?_⟩) S.kind);have acv:∀b o,s.heap.get? b=some o->ae4.get? b=some o:=λb o e=>hsb.extBut b o (gY (gr e)) (gF _ e);show codeAny _ _ (.expr body (PySem.W.envX qual scope s.heap.objs.size f (.ref c') cl)) _ _;have Q0:∀b:Addr,b∉(Cj P w K mg base (cn++ps) qual scope f (.ref c') cl A outer s (dY L H)).ex:=λb z=>absurd (show b∈([]:List Addr) from z) 0x1;have zu:∀b,H b=none->dY L H b=none:=λb n=>by
  cases z:L.lookup b with
  | some o=>exact zmi z
  | none=>rw[Dt z];exact n
 have I:Inv (Cj P w K mg base (cn++ps) qual scope f (.ref c') cl A outer s (dY L H)) [] ((NK++vs).map some) (dY L H) { s with heap:=ae4,toks:=s.toks+(ps.zip us).length }:=by
  refine⟨⟨e0.mod,S.kind,rfl,rfl,gb _,λy z c h1 h2=>zmb zW h1 h2,λy hy=>?_,λy c z _=>(by cases z),λ_=>hr.hd,Around.frames_deeper e0.frames,.inr ⟨rfl,rfl⟩,λb z=>absurd z (Q0 b),λb o e=>⟨(e0.bs b o e).1,zu b (e0.bs b o e).2⟩,e0.Gz,λb _ _=>Q0 b,λb z=>absurd z (Q0 b),e0.oU,λb oR=>zu b (e0.Li b oR)⟩,
   rfl,e0.bare,Un.kept acv,⟨_,FJ,λi y v h1 h2 h3=>?_⟩,λy c h=>?_,abH.fresh (gb _),λy c h=>?_,λp hp=>absurd (show p∈([]:List 0x6) from hp) 0x1,abH.kept acv,?_⟩
  ·have hy:scope.names.lookup y=some .cell\/scope.names.lookup y=some .free:=hy;rcases hy with hy | hy
   ·exact absurd rfl (S.JM _ (afd hy))
   ·have hm:=S.free _ (afd hy) rfl;rw[<-Uz]at hm;obtain⟨p,hp,rfl⟩:=gh.mp hm;exact Fb (gh.mpr ⟨p,hp,rfl⟩)
  ·have ndc:(cl.map (·.1)).Nodup:=by rw[Uz];exact (ph.mp S.nd).1
   have ndp:ps.Nodup:=(ph.mp S.nd).2.1;have uQ:cn.length=cl.length:=by rw[<-Uz,gj]
   have h2:(NK++vs)[i]? = some v:=by
    rw[gO]at h2;cases q:(NK++vs)[i]? with
    | none=>rw[q]at h2;cases h2
    | some v'=>rw[q]at h2;cases h2;rfl
   have h1:(cn++ps)[i]? = some y:=h1;by_cases hi:i<cn.length
   ·rw[gP hi]at h1;rw[gP (by rw[Uw,<-uQ];exact hi)]at h2;have hci:i<cl.length:=by omega
    have ec:cl[i]? = some (y,(cl[i]).2):=by
     rw[gK hci];have:(cl.map (·.1))[i]? = some y:=by rw[Uz];exact h1
     rw[gO,gK hci]at this;have e:cl[i].1=y:=afa this;rw[<-e]
    obtain⟨v',o,u,q1,q2,q3,q4⟩:=hL2 i y _ ec;rw[h2]at q1;cases q1;refine⟨u,q4,.inr ⟨.inr (S.Yd y (gZ h1)),_,lookup_mem ndc (gZ ec),o,acv _ _ (e0.bQ _ _ (Hi _ o q2).1).1,q3⟩⟩
   ·rw[kj 0x0]at h1;rw[kj 0x0]at h2;have Yw:i - NK.length=i - cn.length:=by omega
    rw[Yw]at h2;obtain⟨u,hu,rv⟩:=r.get h2;refine⟨u,rv,.inl ⟨S.par y (gZ h1),?_⟩⟩;have hm:(y,u)∈(ps.zip us).reverse:=by
     rw[List.mem_reverse];refine gZ (i:=i - cn.length) ?_;rw[pZ];exact⟨h1,hu⟩
    refine lookup_mem ?_ hm;rw[pq,List.map_fst_zip 0x0];exact List.pairwise_reverse.mpr (ndp.imp λh=>afi h)
  ·obtain⟨i,hi⟩:=cellIn y c h;obtain⟨v,o,u,_,q2,q3,_⟩:=hL2 i y c hi;exact⟨some u,o,acv _ _ (e0.bQ c _ (Hi c o q2).1).1,q3⟩
  ·obtain⟨o,q⟩:=abY y c h;exact zmi q
  ·show ((NK++vs).map some).length=(cn++ps).length;rw[gj,gQ,gQ,Uw,<-Uz,gj,r.length,hl]
 refine PySem.W.kla_codeExpr (afk (hPE [] _ _ _ _ I ht) (λv s' h=>?_) λe s' h=>h.elim);obtain⟨x,H',J,rx,q⟩:=h;obtain⟨hh,g,d,tk,os'⟩:=s';have jb:Un (CQ outer) [] (dY L H) H' s.heap hh:=J.base;have kc:∀b o,L.lookup b=some o->hh.get? b=some o/\H' b=none:=λb o e=>by
  have e1:=(e0.bQ b _ (Hi b o e).1).1;have nfr:b∉CQ outer:=λz=>by have:=e0.Li b z;rw[(Hi b o e).1]at this;cases this
  exact⟨jb.keep b o e1 (zmi e) nfr 0x1,jb.free b o e1 (zmi e) 0x1⟩
 refine⟨x,eO L H',J.os,J.bare,⟨λb o e n oR hx=>?_,λb o e n oR hx=>?_,λb o e n hx=>?_,jb.there,λb xs e=>?_,λb o u e=>?_,λb ps e=>?_⟩,J.bQ.eO (λb o e=>(kc b o e).2) (λb o e=>(kc b o e).1),rx,q λb o e=>(kc b o e).2⟩
 ·exact jb.keep b o e (zu b n) oR hx
 ·exact jb.slot b o e (zu b n) oR hx
 ·have z:L.lookup b=none:=by
   cases z:L.lookup b with
   | none=>rfl
   | some o'=>rw[(Hi b o' z).1]at n;cases n
  rw[xJ z];exact jb.free b o e (zu b n) hx
 ·have z:L.lookup b=none:=by
   cases z:L.lookup b with
   | none=>rfl
   | some o'=>rw[(Hi b o' z).1]at e;cases e
  rw[xJ z];exact jb.u9 b xs (by rw[Dt z];exact e)
 ·cases z:L.lookup b with
  | some o' =>
   rw[(Hi b o' z).1]at e;cases e;exact zl4 z
  | none=>rw[xJ z];exact jb.t7 b o u (by rw[Dt z];exact e)
 ·have z:L.lookup b=none:=by
   cases z:L.lookup b with
   | none=>rfl
   | some o'=>rw[(Hi b o' z).1]at e;cases e
  rw[xJ z];exact jb.uM b ps (by rw[Dt z];exact e)
end
end L2
namespace M
open PySem PySem.Spec L2
mutual
theorem aq.cG(e:∀b xs,H b=some (.tup xs)->H' b=some (.tup xs)):∀(d:D) {v:V},aq K μ H d v->aq K μ H' d v
 | .non,_,h=>by simpa[aq] using h
 | .bl _,_,h=>by simpa[aq] using h
 | .int _,_,h=>by simpa[aq] using h
 | .str _,_,h=>by simpa[aq] using h
 | .tup ds,_,h=>by
  rw[aq]at h ⊢;obtain⟨a,xs,rfl,h1,h2⟩:=h;exact⟨a,xs,rfl,h1.elim (λz=>.inl (e _ _ z)) .inr,ao.cG e ds h2⟩
 | .loc n,_,h=>by
  rw[aq]at h ⊢;exact h
theorem ao.cG(e:∀b xs,H b=some (.tup xs)->H' b=some (.tup xs)):∀(ds:List D) {vs:List V},ao K μ H ds vs->ao K μ H' ds vs
 | [],_,h=>by simpa[ao] using h
 | d::ds,_,h=>by
  rw[ao]at h ⊢;obtain⟨v,r,rfl,h1,h2⟩:=h;exact⟨v,r,rfl,aq.cG e d h1,ao.cG e ds h2⟩
end
theorem aH.cG(e:∀b xs,H b=some (.tup xs)->H' b=some (.tup xs)):∀{ds:List (κ×D)} {vs:List (κ×V)},aH K μ H ds vs->aH K μ H' ds vs
 | [],_,h=>h
 | (k,d)::ds,_,⟨v,r,e1,h1,h2⟩=>⟨v,r,e1,h1.cG e d,aH.cG e h2⟩
noncomputable def MO.eF:MO->Bool
 | .clo _ _ _=>true
 | _=>false
def sV(L:List 0x6)(H:Hp):Prop:=∀b o,L.lookup b=some o->H b=some (.frz o (.own 0))/\∃u,o.data=.cell (some u)
def sV.del(h:sV L H)(e:H b=some u)(n:∀o,u=.frz o (.own 0)->∀v,o.data≠.cell v):dY L H b=some u:=by
 cases z:L.lookup b with
 | none=>rw[Dt z];exact e
 | some o =>
  obtain⟨e1,v,hv⟩:=h b o z;rw[e]at e1;exact absurd hv (n o (afa e1) _)
def fZ.del(hL:sV L H)(hc:o.eF=false)(h:fZ K μ H a o):fZ K μ (dY L H) a o:=by
 have ht:∀b xs,H b=some (.tup xs)->dY L H b=some (.tup xs):=λb xs e=>hL.del e λ_ z=>nomatch z;cases o with
 | lst ds=>obtain⟨xs,h1,h2⟩:=h;exact⟨xs,hL.del h1 (λ_ z=>nomatch z),h2.cG ht⟩
 | frz ds =>
  obtain⟨xs,h1,h2⟩:=h;refine⟨xs,?_,h2.cG ht⟩;rcases h1 with⟨o,h1⟩ | h1
  ·exact .inl ⟨o,hL.del h1 λ_ z=>(by cases z)⟩
  ·exact .inr h1
 | dic kvs=>obtain⟨ws,h1,h2⟩:=h;exact⟨ws,hL.del h1 (λ_ z=>nomatch z),h2.cG ht⟩
 | dkc kvs=>obtain⟨ws,h1,h2⟩:=h;exact⟨ws,hL.del h1 (λ_ z=>nomatch z),h2.cG ht⟩
 | dkf kvs=>obtain⟨ws,o,h1,h2⟩:=h;exact⟨ws,o,hL.del h1 (λ_ z=>(by cases z)),h2.cG ht⟩
 | dtf kvs=>obtain⟨ws,o,h1,h2⟩:=h;exact⟨ws,o,hL.del h1 (λ_ z=>(by cases z)),h2.cG ht⟩
 | exc c d=>obtain⟨oe,C,dx,od,v,fs,h1,h2,h3,h4,h5,h6,h7⟩:=h;exact⟨oe,C,dx,od,v,fs,hL.del h1 (λo z w q=>(by cases z;rw[h4]at q;cases q)),h2,h3,h4,hL.del h5 (λ_ z=>(by cases z)),h6,h7.cG ht d⟩
 | ins c fs=>obtain⟨C,dx,ws,h0,h1,h2⟩:=h;exact⟨C,dx,ws,h0,hL.del h1 (λ_ z=>nomatch z),h2.cG ht⟩
 | tab x =>
  obtain⟨h0,ps,h1,h2,h3⟩:=h;refine⟨h0,ps,hL.del h1 (λ_ z=>nomatch z),h2,λpos cv e=>?_⟩;obtain⟨c',e1,oc,vs,t,e2,e3,e4⟩:=h3 pos cv e;exact⟨c',e1,oc,vs,t,hL.del e2 (λo z v=>by cases z;rw[e3];exact λy=>nomatch y),e3,e4⟩
 | clo j l ds=>cases hc
 | hid=>trivial
noncomputable def cD(st:ak):ak:=st.map λo=>if o.eF then .hid else o
def zkf(st:ak):(cD st).length=st.length:=by simp[cD]
def zkq{st:ak}{n:Nat}{o:MO}(h:(cD st)[n]? = some o):∃o',st[n]? = some o'/\((o'.eF=true/\o=.hid)\/(o'.eF=false/\o=o')):=by
 unfold cD at h;rw[gO]at h;cases e:st[n]? with
 | none=>rw[e]at h;cases h
 | some o' =>
  rw[e]at h;refine⟨o',rfl,?_⟩;have h:(if o'.eF=true then MO.hid else o')=o:=afa h;by_cases hc:o'.eF=true
  ·rw[ae7 hc]at h;exact .inl ⟨hc,h.symm⟩
  ·rw[ae8 hc]at h;exact .inr ⟨by simpa using hc,h.symm⟩
def zrk{st:ak}{n:Nat}{o:MO}(h:st[n]? = some o):(cD st)[n]? = some (if o.eF then .hid else o):=by
 unfold cD;rw[gO,h];rfl
def aU.hide{K:PySem.W.Frag}{μ:List Addr}{H:Hp}{st:ak}{L:List 0x6}(hL:sV L H)(h:aU K μ H st):aU K μ (dY L H) (cD st):=by
 refine⟨by rw[h.len,zkf],λn o e=>?_,λi j a oi oj ei ej mi mj hi hj=>?_⟩
 ·obtain⟨o',e1,e2⟩:=zkq e;obtain⟨a,h1,h2⟩:=h.at_ n o' e1;rcases e2 with⟨c,rfl⟩ | ⟨c,rfl⟩
  ·exact⟨a,h1,trivial⟩
  ·exact⟨a,h1,h2.del hL c⟩
 ·obtain⟨oi',e1,e2⟩:=zkq ei;obtain⟨oj',e3,e4⟩:=zkq ej;rcases e2 with⟨_,rfl⟩ | ⟨_,rfl⟩
  ·cases mi
  ·rcases e4 with⟨_,rfl⟩ | ⟨_,rfl⟩
   ·cases mj
   ·exact h.uniq i j a oi oj e1 e3 mi mj hi hj
def aU.VB{K:PySem.W.Frag}{μ:List Addr}{H H':Hp}{st:ak}{L:List 0x6}(h0:aU K μ H st)(h:aU K μ H' (cD st))(hn:∀b o,L.lookup b=some o->H' b=none)(ext:Ext H (eO L H')):aU K μ (eO L H') st:=by
 have up:∀b u,H' b=some u->eO L H' b=some u:=λb u e=>by
  cases z:L.lookup b with
  | none=>rw[xJ z];exact e
  | some o=>rw[hn b o z]at e;cases e
 refine⟨h0.len,λn o e=>?_,h0.uniq⟩;by_cases hc:o.eF=true
 ·obtain⟨a,h1,h2⟩:=h0.at_ n o e;refine⟨a,h1,h2.keep ⟨⟨[],by simp⟩,ext⟩ λhm=>?_⟩;cases o<;>simp[MO.eF,MO.mut]at hc hm
 ·have e2:=zrk e;rw[ae8 hc]at e2;obtain⟨a,h1,h2⟩:=h.at_ n o e2;exact⟨a,h1,h2.keep ⟨⟨[],by simp⟩,⟨λb xs q=>up b _ q,λb o u q=>up b _ q⟩⟩ λ_ u q=>up a u q⟩
structure zL(P:Program)(w:World)(K:PySem.W.Frag)(mg:Str->Option Value)(base:Heap)(k:Nat)(l:fQ)(ps:List Str)(m:ME):Prop where
 sc:zK l.oW ps l.scope
 bind:∀cl pm c' sG (us:List Value),us.length=ps.length->bindArgs (PySem.W.kla_fn "<lambda>" l.qual l.params l.body l.scope cl pm (.ref c') sG) ⟨us,[]⟩=pure (ps.zip us)
 body:∀(f:Addr) (cd:Value) (cl:List (Str×Addr)) (A:Around) (outer:List Env) (s:Shared) (H:Hp),cT k (A.deeper (PySem.W.envX l.qual l.scope s.heap.objs.size f cd cl)) ->
  JE (Cj P w K mg base (l.oW++ps) l.qual l.scope f cd cl A outer s H) l.body m
open Classical in
noncomputable def Dg(Λ:Nat->fQ)(G:Nat->FD)(n:Nat)(as:List D)(st:ak):R D:=match st[n]? with
 | some (.clo j l ds)=>if l=Λ j then (match gc (cD st) (G j (ds++as) (cD st)) with
  | .ok d st2=>if st2=cD st/\under st.length d then .ok d st else .bad
  | _=>.bad) else .bad
 | _=>.bad
noncomputable def vC(n:Nat)(m:ME):FD:=λds st=>if ds.length=n then m (ds.map some) st else .bad
def Ng(P:Program)(w:World)(K:PySem.W.Frag)(mg:Str->Option Value)(base:Heap)(k:Nat)(Λ:Nat->fQ)(G:Nat->FD):Prop :=
 ∀j,(∀ds st,G j ds st=.bad)\/∃ps m,zL P w K mg base k (Λ j) ps m/\G j=vC ((Λ j).oW.length+ps.length) m
theorem fj.len:∀{cl:List (Str×Addr)} {vs:List V},fj H cl vs->vs.length=cl.length
 | [],_,h=>by have h:_=[]:=h;subst h;rfl
 | (_,c)::cl,_,⟨v,r,o,u,h1,_,_,_,h5⟩=>by subst h1;simp[fj.len h5]
def sV.back(hL:sV L H)(e:Ext (dY L H) H')(hn:∀b o,L.lookup b=some o->H' b=none):Ext H (eO L H'):=by
 have up:∀b u,H' b=some u->eO L H' b=some u:=λb u e=>by
  cases z:L.lookup b with
  | none=>rw[xJ z];exact e
  | some o=>rw[hn b o z]at e;cases e
 refine⟨λb xs q=>up b _ (e.tup b xs (hL.del q λ_ z=>nomatch z)),λb o u q=>?_⟩;cases z:L.lookup b with
 | none=>exact up b _ (e.frz b o u (by rw[Dt z];exact q))
 | some o' =>
  have q2:=(hL b o' z).1;rw[q]at q2;cases q2;exact zl4 z
noncomputable def callC(Λ:Nat->fQ)(G:Nat->FD)(i:Nat)(mA:MA):ME:=λenv st=>match env[i]? with
 | some (some (.loc n))=>(match st[n]? with
  | some (.clo _ _ _)=>(mA env st).bind λas st1=>Dg Λ G n as st1
  | _=>.bad)
 | _=>.bad
section
variable  {X:Cx}{e:Expr}{es:List Expr}{mA:MA}{pos p:Pos}{x:Str}{k:Nat}{Λ:Nat->fQ}{G:Nat->FD}
def zro(hΛ:Ng X.prog X.w X.K X.mg X.base k Λ G)(hr:cT (k+1) X.A)(i:Nat)(ha:JA X (e::es) mA)(hN:X.N[i]? = some x:=by rfl)(hv:Vis X.env.scope x:=by first | exact Or.inl rfl | exact Or.inr (Or.inl rfl) | exact Or.inr (Or.inr rfl))
  (hd:0xc=false:=by decide) (ym:(x==("__classdict__":Str))=false:=by decide) (he:starEach (e::es) X.env=0xb::starEach es X.env:=by rfl) (oO:#[10,pos,es].any (·.1)=false:=by rfl) :
  JE X 0x13 (callC Λ G i mA):=by
 rintro pins s σ H Q I ⟨μ,env,st,hE,hs,hp⟩;unfold callC at hp
 split at hp
 case h_2=>exact hp.elim
 rename_i n hi
 split at hp
 case h_2=>exact hp.elim
 rename_i j0 l0 ds0 hn;obtain⟨v,h1,h2⟩:=hE.at_ i _ hi;obtain⟨a,q1,rfl⟩:=aq.aL.mp h2;obtain⟨a',r1,r2⟩:=hs.at_ n _ hn;show 7;obtain⟨cl0,pm0,c0,aeR,aeL,w1,_⟩:=r2;refine afl (cO (Jm hN hv hd ym pins s σ H (λv' H'=>v'=.ref a/\H'=H) I ⟨.ref a,h1,rfl,rfl⟩) λu s0 zz=>?_);obtain⟨v',H',I0,r0,ev,eH⟩:=zz;subst ev eH;cases (show u=Value.ref a from r0);have fnAt:∀(s:Shared) (H:Hp) (o:Obj),Inv X pins σ H s->(∃q ps b sc cl pm c' sG,o=PySem.W.kla_obj "<lambda>" q ps b sc cl pm c' sG)->H a=some (.frz o (.own 0))->PySem.W.FnAt a s.heap:=by
  rintro s H o I ⟨q,ps,b,sc,cl,pm,c',sG,rfl⟩ h;exact⟨_,_,_,_,(I.bQ a _ h).1⟩
 refine PySem.W.callWith_F (fnAt s0 H' _ I0 ⟨_,_,_,_,_,_,_,_,rfl⟩ w1) (cO (ha pos pins s0 σ H' _ I0 ⟨μ,env,st,hE,hs,bR.bind hp⟩) λus s1 zz=>?_) he oO;obtain⟨vs,H1,I1,r,μ1,st1,as,g1,bG,Ym,aR⟩:=zz;have g2:=g1.get q1;unfold Dg at aR;dsimp only at aR
 split at aR
 case h_2=>exact aR.elim
 rename_i j l ds hn1
 split at aR
 case isFalse=>exact aR.elim
 rename_i hl;subst hl;obtain⟨a',r1,cl,pm,c',sG,NK,hf,zg,Uz,zW,yl,yG⟩:=bG.at_ n _ hn1;rw[g2]at r1;cases r1;refine⟨fnAt s1 H1 _ I1 ⟨_,_,_,_,_,_,_,_,rfl⟩ hf,?_⟩;rcases hΛ j with ad9 | ⟨ps,m,LO,hG⟩
 ·rw[ad9]at aR;exact aR.elim
 have hlen:(ds++as).length=(Λ j).oW.length+ps.length:=by
  refine afG λh=>?_;rw[hG]at aR;unfold vC at aR;rw[ae8 h]at aR;exact aR.elim
 have e1:ds.length=(Λ j).oW.length:=by rw[yG.length,yl.len,<-Uz,gj]
 have hul:us.length=ps.length:=by
  rw[<-r.length,<-Ym.length];rw[gQ]at hlen;omega
 refine wpAny_call (afO (Ra (k:=k) (Q:=Q) (vs:=vs) I1.R6 hr LO.sc hf zg Uz zW yl (LO.bind cl pm c' sG us hul) hul r ?_) λr s' hq=>?_)
 ·intro L hL;have hL:sV L H1:=hL;refine⟨_,LO.body a (.ref c') cl X.A X.stack s1 (dY L H1) (hr.deeper _),μ1,(ds++as).map some,cD st1,?_,bG.hide hL,?_⟩
  ·have hv2:ao X.K μ1 (dY L H1) (ds++as) (NK++vs):=(yG.append Ym).cG (λb xs q=>hL.del q λ_ z=>nomatch z) _;refine⟨by rw[gj,gj,hv2.length],λi d e=>?_⟩;rw[gO]at e ⊢;cases q:(ds++as)[i]? with
   | none=>rw[q]at e;cases e
   | some d' =>
    rw[q]at e;cases e;obtain⟨v,q1,q2⟩:=hv2.get q;exact⟨v,by rw[q1];rfl,q2⟩
  ·have key:zH X.K μ1 (dY L H1) (λv H'=>(∀b o,L.lookup b=some o->H' b=none)->Q v (eO L H')) (G j (ds++as) (cD st1)):=by
    refine zs0 (bG.hide hL) ?_
    split at aR
    case h_2=>exact aR.elim
    rename_i d st2 RV
    split at aR
    case isFalse=>exact aR.elim
    rename_i hc;rw[RV];intro v H' μ' g oN Ar hn';obtain⟨rfl,_⟩:=hc;obtain⟨ν,rfl⟩:=g.pre;have hν:ν=[]:=by
     have:=oN.len;rw[gQ,bG.len,zkf]at this;exact List.eq_nil_of_length_eq_zero 0x0
    subst hν;rw[gw]at oN Ar;have ext:=hL.back g.ext hn';refine aR v (eO L H') μ1 ⟨⟨[],by simp⟩,ext⟩ (bG.VB oN hn' ext) (Ar.cG (λb xs q=>?_) d);cases z:L.lookup b with
    | none=>rw[xJ z];exact q
    | some o=>rw[hn' b o z]at q;cases q
   rw[hG]at key;unfold vC at key;rw[ae7 hlen]at key;cases hm:m ((ds++as).map some) (cD st1) with
   | bad=>rw[hm]at key;exact key.elim
   | err y st2=>rw[hm]at key;exact key.elim
   | ok d st2=>rw[hm]at key;exact key
 ·cases r with
  | error e=>exact False.elim hq
  | ok fl =>
   cases fl with
   | ret u=>exact I1.after hq
   | next=>exact False.elim hq
   | brk=>exact False.elim hq
   | cont=>exact False.elim hq
end
inductive LA where
 | v (d:D) | l (j:Nat) (cap:List Nat)
noncomputable abbrev ML:=aK->ak->R (List LA)
noncomputable def jw(X:Cx)(l:fQ):List (Str×Addr):=l.oW.map λx=>(x,(X.env.cells.lookup x).getD 0)
structure qL(X:Cx)(l:fQ)(cap:List Nat):Prop where
 nd:l.oW.Nodup
 cell:∀x∈l.oW,X.env.kindOf x=some .cell
 ix:cap.map (λi=>X.N[i]?)=l.oW.map some
def Dk(X:Cx)(Λ:Nat->fQ)(μ:List Addr)(H:Hp):LA->V->Prop
 | .v d,v=>aq X.K μ H d v
 | .l j cap,v=>qL X (Λ j) cap/\∃f pm c' sG,v=.ref f/\H f=some (.frz (PySem.W.kla_obj "<lambda>" (Λ j).qual (Λ j).params (Λ j).body (Λ j).scope (jw X (Λ j)) pm c' sG) (.own 0))/\sU H c' (Λ j).qual
def iW(X:Cx)(Λ:Nat->fQ)(μ:List Addr)(H:Hp):List LA->List V->Prop
 | [],vs=>vs=[]
 | a::r,vs=>∃v t,vs=v::t/\Dk X Λ μ H a v/\iW X Λ μ H r t
noncomputable abbrev ac3(X:Cx)(Λ:Nat->fQ):Rel (List LA) (List V):=fun μ H d v=>iW X Λ μ H d v
section
variable  {X:Cx}{Λ:Nat->fQ}{μ μ':List Addr}{H H':Hp}
theorem Dk.mono(g:a_ μ H μ' H'):∀{a:LA} {v:V},Dk X Λ μ H a v->Dk X Λ μ' H' a v
 | .v d,_,h=>aq.mono g d h
 | .l j cap,_,⟨h0,f,pm,c',sG,h1,h2,h3⟩=>⟨h0,f,pm,c',sG,h1,g.ext.frz _ _ _ h2,h3.ext g.ext⟩
theorem iW.mono(g:a_ μ H μ' H'):∀{a:List LA} {v:List V},iW X Λ μ H a v->iW X Λ μ' H' a v
 | [],_,h=>h
 | a::r,_,⟨v,t,e,h1,h2⟩=>⟨v,t,e,h1.mono g,iW.mono g h2⟩
theorem iW.length:∀{a:List LA} {v:List V},iW X Λ μ H a v->a.length=v.length
 | [],_,h=>by have h:_=[]:=h;subst h;rfl
 | a::r,_,⟨v,t,e,h1,h2⟩=>by subst e;simp[iW.length h2]
end
noncomputable def tML(X:Cx)(Λ:Nat->fQ)(m:ML):TA:=fun σ H Q=>∃μ env st,dU X.K μ H env σ/\aU X.K μ H st/\bR X μ H (ac3 X Λ) Q (m env st)
def JL(X:Cx)(Λ:Nat->fQ)(es:List Expr)(m:ML):Prop:=PA X es (tML X Λ m)
noncomputable def xZ:ML:=λ_ st=>.ok [] st
noncomputable def qm(a:ME)(r:ML):ML:=λenv st=>(a env st).bind λx st1=>(r env st1).bind λxs st2=>.ok (.v x::xs) st2
noncomputable def oM(j:Nat)(cap:List Nat)(k:Nat)(x:Str)(r:ML):ML:=λenv st=>match st[k]? with
 | some (.tab y)=>if y=x then (r env st).bind λxs st2=>.ok (.l j cap::xs) st2 else .bad
 | _=>.bad
def aca(X:Cx)(x:Str):Prop:=X.env.qual=x ++ ".<locals>."/\∃(c fa:Addr) (o:Obj) (fd:FuncData),X.env.code=.ref c/\PySem.W.nsIn X.K mainGlobals x=some #[9,fa]/\X.K.lookup fa=some o/\o.data=.func fd/\fd.code=.ref c
section
variable  {X:Cx}{Λ:Nat->fQ}{μ:List Addr}{H H':Hp}{st:ak}{e:Expr}{es:List Expr}{ma:ME}{m:ML}
def Kq:JL X Λ [] xZ:=by
 refine λpos pins s σ H Q I zz=>?_;show 1;exact Ag pos pins s σ H Q I (hp.ret hs rfl)
def Cr(h:JE X e ma)(hr:JL X Λ es m)(hs:starEach (e::es) X.env=0xb::starEach es X.env:=by rfl):JL X Λ (e::es) (qm ma m):=by
 rintro pos pins s σ H Q I ⟨μ,env,st,hE,hs0,hp⟩;refine zmo h hr hs pos pins s σ H Q I ⟨μ,env,st,hE,hs0,hp.bind.imp ?_⟩;show 4;refine⟨μ1,env,st1,hE.mono g1,bG,aR.bind.imp ?_⟩;rintro xs H2 ⟨μ2,st2,ds,g2,iJ,j4,dX⟩;exact dX.ret iJ ⟨x,xs,rfl,hx.mono g2 _,j4⟩
def _root_.L2.vZ.ext(n:vZ H H' P f c' q ob)(hP:H P=some (.tbl ps)):Ext H H' :=
 ⟨λb xs e=>n.same b _ (λz=>by rw[z,hP]at e;cases e) e,λb o u e=>n.same b _ (λz=>by rw[z,hP]at e;cases e) e⟩
def aU.lam{P f c':Addr}{x:Str}{ob:Obj}{k:Nat}(hs:aU X.K μ H st)(hk:st[k]? = some (.tab x))(ha:μ[k]? = some P)(n:vZ H H' P f c' (rO x) ob):aU X.K μ H' st:=by
 obtain⟨a,h1,h2⟩:=hs.at_ k _ hk;rw[ha]at h1;cases h1;obtain⟨Fy,ps,hP,_⟩:=h2;have ext:=n.ext hP;refine⟨hs.len,λi o e=>?_,hs.uniq⟩;obtain⟨b,q1,q2⟩:=hs.at_ i o e;refine⟨b,q1,?_⟩;by_cases hm:o.mut=true
 ·by_cases hb:b=P
  ·subst hb;have hik:=hs.uniq i k b o (.tab x) e hk hm rfl q1 ha;subst hik;rw[hk]at e;cases e;exact⟨Fy,n.tab⟩
  ·exact q2.keep ⟨⟨[],by simp⟩,ext⟩ λ_ u q=>n.same b u hb q
 ·exact q2.keep ⟨⟨[],by simp⟩,ext⟩ λz=>absurd z hm
def yh{x:Str}{j k:Nat}{cap:List Nat}{params:Arguments}{body:Expr}{scope:Scope}{pos:Pos}(hB:BMain X.mg X.base)(hT:aca X x)(hat:qL X (Λ j) cap)(hq:(Λ j).qual=rO x)(hp:(Λ j).params=params)(hb:(Λ j).body=body)(hsc:(Λ j).scope=scope)
  (uQ:closureFor scope X.env=pure (jw X (Λ j))) (hr:JL X Λ es m) (Yz:defaultsOf params X.env=([],[]):=by rfl) (hs:starEach (.Lambda params body scope pos::es) X.env=(false,eval (.Lambda params body scope pos) X.env)::starEach es X.env:=by rfl) :
  JL X Λ (.Lambda params body scope pos::es) (oM j cap k x m):=by
 subst hp hb hsc;rintro adt pins s σ H Q I ⟨μ,env,st,hE,hs0,hp⟩;unfold oM at hp
 split at hp
 case h_2=>exact hp.elim
 rename_i y hk
 split at hp
 case isFalse=>exact hp.elim
 rename_i hy;subst hy;obtain⟨P,h1,h2⟩:=hs0.at_ k _ hk;obtain⟨⟨fa',o',fd',c',w1,w2,w3,w4,w5⟩,ps,w6,w7,w8⟩:=h2;obtain⟨abG,c,fa,o,fd,t1,t2,t3,t4,t5⟩:=hT;rw[t2]at w1;cases w1;rw[t3]at w2;cases w2;rw[t4]at w3;cases w3;rw[t5]at w4;cases w4;refine zmo (Wx (P:=P) (c:=c') (q:=rO y) (clos:=jw X (Λ j)) hB t1 w5 (by rw[abG];rfl) uQ Yz) hr hs adt pins s σ H Q I ⟨⟨ps,w6,w7,w8⟩,λf c' pm sG H' n=>?_⟩;have g:a_ μ H μ H':=⟨⟨[],by simp⟩,n.ext w6⟩;refine⟨μ,env,st,hE.mono g,hs0.lam hk h1 n,(bR.mono g hp).bind.imp ?_⟩;rintro xs H2 ⟨μ2,st2,ds,g2,iJ,j4,dX⟩;refine dX.ret iJ ⟨.ref f,xs,rfl,⟨hat,f,pm,c',sG,rfl,?_,?_⟩,j4⟩
 ·rw[hq];exact g2.ext.frz _ _ _ n.new
 ·rw[hq];exact n.code.ext g2.ext
end
noncomputable def cellAt(h:Heap)(c:Addr):Option Obj:=match h.get? c with
 | some o=>(match o.data with | .cell (some _)=>some o | _=>none)
 | none=>none
def zj0(e:cellAt h c=some o):h.get? c=some o/\∃u,o.data=.cell (some u):=by
 unfold cellAt at e
 split at e
 ·rename_i o' h1
  split at e
  ·rename_i u h2;cases e;exact⟨h1,u,h2⟩
  ·cases e
 ·cases e
def Gm(h1:h.get? c=some o)(h2:o.data=.cell (some u)):cellAt h c=some o:=by
 unfold cellAt;rw[h1];dsimp only;rw[h2]
noncomputable def lZ(cl:List (Str×Addr))(h:Heap):List Str->List 0x6
 | []=>[]
 | x::r=>match cl.lookup x with
  | some c=>(match cellAt h c with | some o=>(c,o)::lZ cl h r | none=>lZ cl h r)
  | none=>lZ cl h r
theorem zhz:∀{xs:List Str},(lZ cl h xs).lookup b=some o->cellAt h b=some o/\∃x,cl.lookup x=some b
 | [],e=>by cases e
 | x::r,e=>by
  unfold lZ at e
  split at e
  ·rename_i c hc
   split at e
   ·rename_i o' ho;rw[kE]at e;by_cases hb:(b==c)=true
    ·simp only[hb]at e;cases e;obtain rfl:=eq_of_beq hb;exact⟨ho,x,hc⟩
    ·simp only[show (b==c)=false by simpa using hb]at e;exact zhz e
   ·exact zhz e
  ·exact zhz e
theorem zmj(hx:cl.lookup x=some b)(ho:cellAt h b=some o):∀{xs:List Str},x∈xs->(lZ cl h xs).lookup b=some o
 | [],e=>by cases e
 | y::r,e=>by
  unfold lZ;by_cases hy:x=y
  ·subst hy;rw[hx];dsimp only;rw[ho];dsimp only;rw[kE];simp
  ·have e:=zmj hx ho (xs:=r) (by simpa[hy] using e)
   split
   ·rename_i c hc
    split
    ·rename_i o' N5;rw[kE];by_cases hb:(b==c)=true
     ·simp only[hb];obtain rfl:=eq_of_beq hb;rw[ho]at N5;exact N5.symm
     ·simp only[show (b==c)=false by simpa using hb];exact e
    ·exact e
   ·exact e
noncomputable def zB:List Nat->aK->Option (List D)
 | [],_=>some []
 | i::r,env=>match env[i]? with
  | some (some d)=>(match zB r env with | some ds=>some (d::ds) | none=>none)
  | _=>none
noncomputable def jX(Λ:Nat->fQ)(env:aK):Nat->List LA->Option (List D×List MO)
 | _,[]=>some ([],[])
 | n,.v d::r=>(match jX Λ env n r with | some (ds,os)=>some (d::ds,os) | none=>none)
 | n,.l j cap::r=>(match zB cap env with
  | some cs=>(match jX Λ env (n+1) r with | some (ds,os)=>some (.loc n::ds,.clo j (Λ j) cs::os) | none=>none)
  | none=>none)
def bF(st:ak):Prop:=∀o∈st,o.eF=false
open Classical in
noncomputable def ou(Λ:Nat->fQ)(F:FD)(dd:List D)(m:ML):ME:=λenv st=>(m env st).bind λas st1=>if bF st1 then (match jX Λ env st1.length as with
 | some (ds,os)=>(match gc st1 (F (ds++dd) (st1++os)) with
  | .ok d st2=>if bF st2 then .ok d st2 else .bad
  | _=>.bad)
 | none=>.bad) else .bad
def aU.snoc(h:aU K μ H st)(hm:o.mut=false)(ho:fZ K (μ++[a]) H a o):aU K (μ++[a]) H (st++[o]):=by
 have key:∀(n:Nat) (on:MO) (c:Addr),(st++[o])[n]? = some on->on.mut=true->(μ++[a])[n]? = some c->st[n]? = some on/\μ[n]? = some c:=λn on c e1 hmn e2=>by
  by_cases hn:n<st.length
  ·rw[gP hn]at e1;rw[gP (by rw[h.len];exact hn)]at e2;exact⟨e1,e2⟩
  ·rw[kj 0x0]at e1;have:=gZ e1;simp at this;subst this;rw[hm]at hmn;cases hmn
 refine⟨by simp[h.len],λn on e1=>?_,λi j c oi oj ei ej mi mj hi hj=>?_⟩
 ·by_cases hn:n<st.length
  ·rw[gP hn]at e1;obtain⟨b,q1,q2⟩:=h.at_ n on e1;exact⟨b,by rw[gP (by rw[h.len];exact hn)];exact q1,q2.up _⟩
  ·have hl:=(gf.mp e1).1;rw[gQ,nu]at hl;have en:n=st.length:=by omega
   subst en;rw[kj (gb _)]at e1;simp at e1;subst e1;exact⟨a,by rw[<-h.len];simp,ho⟩
 ·obtain⟨a1,a2⟩:=key i oi c ei mi hi;obtain⟨b1,b2⟩:=key j oj c ej mj hj;exact h.uniq i j c oi oj a1 b1 mi mj a2 b2
def aU.del(hL:sV L H)(hc:bF st)(h:aU K μ H st):aU K μ (dY L H) st :=
 ⟨h.len,λn o e=>let ⟨a,h1,h2⟩:=h.at_ n o e;⟨a,h1,h2.del hL (hc o (gZ e))⟩,h.uniq⟩
section
variable  {X:Cx}{Λ:Nat->fQ}{H:Hp}{env:aK}
theorem zne(zW:∀l cap,qL X l cap->((jw X l).map (·.2)).Nodup):∀{as:List LA} {vs:List V} {μ:List Addr} {st:ak} {n:Nat} {ds:List D} {os:List MO},(∀l cap,qL X l cap->∀cs,zB cap env=some cs->∃vs,fj H (jw X l) vs/\ao X.K μ H cs vs)->jX Λ env n as=some (ds,os)->iW X Λ μ H as vs->aU X.K μ H st->n=st.length ->
  ∃ν,aU X.K (μ++ν) H (st++os)/\ao X.K (μ++ν) H ds vs
 | [],vs,μ,st,n,ds,os,hc,e,h,hs,hn=>by
  cases e;have h:vs=[]:=h;subst h;exact⟨[],by simpa using hs,ao.nil⟩
 | .v d::r,_,μ,st,n,ds,os,hc,e,⟨v,t,rfl,h1,h2⟩,hs,hn=>by
  unfold jX at e
  split at e
  ·rename_i ds' os' e';cases e;obtain⟨ν,q1,q2⟩:=zne zW hc e' h2 hs hn;exact⟨ν,q1,ao.cons (aq.mono ⟨⟨ν,rfl⟩,.refl H⟩ d h1) q2⟩
  ·cases e
 | .l j cap::r,_,μ,st,n,ds,os,hc,e,⟨v,t,rfl,hla,h2⟩,hs,hn=>by
  obtain⟨h0,f,pm,c',sG,rfl,h3,h4⟩:=hla;unfold jX at e
  split at e
  ·rename_i cs ec
   split at e
   ·rename_i ds' os' e';cases e;obtain⟨vs,q1,q2⟩:=hc _ cap h0 cs ec;have g:a_ μ H (μ++[f]) H:=⟨⟨[f],rfl⟩,.refl H⟩;have bG:aU X.K (μ++[f]) H (st++[.clo j (Λ j) cs]):=hs.snoc rfl ⟨jw X (Λ j),pm,c',sG,vs,h3,h4,by simp[jw,Function.comp_def],zW _ cap h0,q1,q2.mono g _⟩;obtain⟨ν,r1,r2⟩:=zne zW (μ:=μ++[f]) (λl cap hl cs ec=>let ⟨vs,a1,a2⟩:=hc l cap hl cs ec;⟨vs,a1,a2.mono g _⟩) e' (h2.mono g) bG (by simp[hn]);refine⟨f::ν,by simpa using r1,ao.cons (aq.aL.mpr ⟨f,?_,rfl⟩) (by simpa using r2)⟩;rw[hn,<-hs.len];simp
   ·cases e
  ·cases e
end
section
variable  {X:Cx}{Λ:Nat->fQ}{e:Expr}{es:List Expr}{m:ML}{pos p:Pos}{x:Str}{k:Nat}{f:Addr}{fd:FuncData}{ps:List Str}{F:FD}{lX:List V}{ds:List Value}{dd:List D}
def SQ(I:Inv X pins σ H s)(h:qL X l cap):((jw X l).map (·.2)).Nodup:=by
 unfold jw;rw[gJ];have key:∀xs:List Str,xs.Nodup->(∀x∈xs,X.env.kindOf x=some .cell)->(xs.map ((λp:Str×Addr=>p.2)∘λx=>(x,(X.env.cells.lookup x).getD 0))).Nodup:=by
  intro xs
  induction xs with
  | nil=>intros;simp
  | cons x xs ih =>
   intro nd hc;rw[mH]at nd;rw[gq,mH];refine⟨λhm=>?_,ih nd.2 λy hy=>hc y (by simp[hy])⟩;obtain⟨y,hy,e⟩:=gh.mp hm;obtain⟨c,h1⟩:=I.ok.has x (.inl (hc x 0x1));obtain⟨c2,h2⟩:=I.ok.has y (.inl (hc y (by simp[hy])));simp only[Function.comp,h1,h2,Option.getD_some]at e;subst e;have:=I.ok.inj x y _ h1 h2;subst this;exact nd.1 hy
 exact key _ h.nd h.cell
def Mu(I:Inv X pins σ H s)(hE:dU X.K μ H2 env σ)(hc:∀x b o,X.env.cells.lookup x=some b->cellAt s.heap b=some o->H2 b=some (.frz o (.own 0)))(h:qL X l cap)(e:zB cap env=some cs) :
  ∃vs,fj H2 (jw X l) vs/\ao X.K μ H2 cs vs:=by
 obtain⟨mm,FJ,hl⟩:=I.loc;have key:∀(xs:List Str) (cap:List Nat) (cs:List D),(∀x∈xs,X.env.kindOf x=some .cell)->cap.map (λi=>X.N[i]?)=xs.map some->zB cap env=some cs->∃vs,fj H2 (xs.map λx=>(x,(X.env.cells.lookup x).getD 0)) vs/\ao X.K μ H2 cs vs:=by
  intro xs
  induction xs with
  | nil =>
   intro cap cs _ hx e;cases cap with
   | nil=>cases e;exact⟨[],rfl,ao.nil⟩
   | cons i cap=>cases hx
  | cons x xs ih =>
   intro cap cs hk hx e;cases cap with
   | nil=>cases hx
   | cons i cap =>
    rw[gq,gq]at hx;obtain⟨hx1,RL⟩:=List.cons.inj hx;unfold zB at e
    split at e
    ·rename_i d ed
     split at e
     ·rename_i cs' ec;cases e;obtain⟨vs,a1,a2⟩:=ih cap cs' (λy hy=>hk y (by simp[hy])) RL ec;obtain⟨v,b1,b2⟩:=hE.at_ i d ed;have hkx:=hk x 0x1;obtain⟨u,r,lk⟩:=hl i x v hx1 b1 (.inr (.inl hkx));rcases lk with⟨z,_⟩ | ⟨_,c,YC,o,ho,hd⟩
      ·rw[hkx]at z;cases z
      ·refine⟨v::vs,⟨v,vs,o,u,rfl,?_,hd,r,a1⟩,ao.cons b2 a2⟩;have:((X.env.cells.lookup x).getD 0)=c:=by rw[YC];rfl
       rw[this];exact hc x c o YC (Gm ho hd)
     ·cases e
    ·cases e
 exact key l.oW cap cs h.cell h.ix e
def Fq(G:cH X.prog X.w X.K X.mg X.base qP k f fd ps (v9 X.K ps.length F))(hr:cT k X.A)(hm:X.mg x=some (.ref f))(hk:PySem.W.keepIn X.K (.ref f)=true)(hb:Binds X.K fd ps ds)(hd:Vals lX ds)
  (hdd:∀μ H,ao X.K μ H dd lX) (ha:JL X Λ (e::es) m) (Yx:∀x,X.fn x=true) (hlen:(e::es).length+lX.length=ps.length:=by rfl) (hg:Gl X x:=by rfl) (rY:0xc=false:=by decide) (he:starEach (e::es) X.env=0xb::starEach es X.env:=by rfl) (oO:#[10,pos,es].any (·.1)=false:=by rfl)
  (hA:∀env st as st1,m env st=.ok as st1->as.length=(e::es).length) :
  JE X 0x13 (ou Λ F dd m):=by
 rintro pins s σ H Q I ⟨μ,env,st,hE,hs,hp⟩;refine afl (zm8 I hg hm ?_ rY);unfold ou at hp;cases hmr:m env st with
 | bad=>rw[hmr]at hp;exact hp.elim
 | err y st1 =>
  rw[hmr]at hp;refine afx (h₀:=X.base) I.ok.mod.Xg hk (cO (ha pos pins s σ H (λ_ _=>False) I ⟨μ,env,st,hE,hs,by rw[hmr];exact hp⟩) λus s1 zz=>?_) he oO;obtain⟨vs,H1,I1,r,q⟩:=zz;exact q.elim
 | ok as st1 =>
 have hal:=hA env st as st1 hmr;rw[hmr,R.aB]at hp
 split at hp
 case isFalse=>exact hp.elim
 rename_i hnc
 split at hp
 case h_2=>exact hp.elim
 rename_i as' os adW
 split at hp
 case h_2=>exact hp.elim
 rename_i d st2 RV
 split at hp
 case isFalse=>exact hp.elim
 rename_i adZ;refine afx (h₀:=X.base) I.ok.mod.Xg hk (cO (ha pos pins s σ H (λvs H1=>∃μ1,a_ μ H μ1 H1/\aU X.K μ1 H1 st1/\iW X Λ μ1 H1 as vs) I ⟨μ,env,st,hE,hs,?_⟩) λus s1 ⟨vs,H1,I1,r,μ1,g1,bG,Ym⟩=>⟨I1.qR,?_⟩) he oO
 ·rw[hmr];exact λvs H1 μ1 g1 bG Ym=>⟨μ1,g1,bG,Ym⟩
 ·let L:=lZ X.env.cells s1.heap (X.env.cells.map (·.1))
  have lin:∀b o,L.lookup b=some o->cellAt s1.heap b=some o/\∃x,X.env.cells.lookup x=some b:=λb o e=>zhz e;have nL:∀b o,L.lookup b=some o->H1 b=none:=λb o e=>let ⟨_,x,hx⟩:=lin b o e;I1.jL x b hx;have Ju:∀b u,H1 b=some u->L.lookup b=none:=λb u e=>by
   cases z:L.lookup b with
   | none=>rfl
   | some o=>rw[nL b o z]at e;cases e
  have YK:Ext H1 (eO L H1):=⟨λb xs e=>by rw[xJ (Ju b _ e)];exact e,λb o u e=>by rw[xJ (Ju b _ e)];exact e⟩;have gA:a_ μ1 H1 μ1 (eO L H1):=⟨⟨[],by simp⟩,YK⟩;have hsA:aU X.K μ1 (eO L H1) st1:=⟨bG.len,λn o e=>let ⟨a,h1,h2⟩:=bG.at_ n o e;⟨a,h1,h2.keep gA λ_ u q=>by rw[xJ (Ju a u q)];exact q⟩,bG.uniq⟩;have hcA:∀x b o,X.env.cells.lookup x=some b->cellAt s1.heap b=some o->eO L H1 b=some (.frz o (.own 0)):=λx b o hx ho =>
   zl4 (zmj hx ho (gh.mpr ⟨(x,b),afd hx,rfl⟩))
  obtain⟨ν,hsN,hvN⟩:=zne (Λ:=Λ) (H:=eO L H1) (env:=env) (λl cap h=>SQ I1 h) (λl cap h cs ec=>Mu I1 ((hE.mono g1).mono gA) hcA h ec) adW (Ym.mono gA) hsA rfl;refine PB (L:=L) G hr hb hd I1 (λb o e=>?_) r ⟨?_,μ1++ν,as'++dd,st1++os,hvN.append (hdd _ _),hsN,?_⟩
  ·obtain⟨h1,x,h2⟩:=lin b o e;exact⟨(zj0 h1).1,x,h2,Yx x⟩
  ·rw[gQ,<-Ym.length,hal];exact hlen
  ·have key:zH X.K μ1 (eO L H1) (λv H'=>Q v (dY L H')) (F (as'++dd) (st1++os)):=by
    refine zs0 hsA ?_;rw[RV];intro v H' μ' g oN Ar;have hL:sV L H':=λb o e=>⟨g.ext.frz b o _ (zl4 e),(zj0 (lin b o e).1).2⟩;have ext:Ext H1 (dY L H'):=⟨λb xs e=>by rw[Dt (Ju b _ e)];exact g.ext.tup b xs (YK.tup b xs e),λb o u e=>by rw[Dt (Ju b _ e)];exact g.ext.frz b o u (YK.frz b o u e)⟩;exact hp v (dY L H') μ' ⟨g1.trans ⟨g.pre,ext⟩ |>.pre,(g1.trans ⟨g.pre,ext⟩).ext⟩ (oN.del hL adZ) (Ar.cG (λb xs q=>hL.del q λ_ z=>nomatch z) d)
   have gN:a_ μ1 (eO L H1) (μ1++ν) (eO L H1):=⟨⟨ν,rfl⟩,.refl _⟩;cases hF:F (as'++dd) (st1++os) with
   | bad=>rw[hF]at key;exact key.elim
   | err y ie=>rw[hF]at key;exact key.elim
   | ok d3 ie =>
    rw[hF]at key;exact λv H' μ' g oN Ar=>key v H' μ' (gN.trans g) oN Ar
end
end M
namespace M
open PySem PySem.Spec L2 PyProof.Rows
structure Nb(K:PySem.W.Frag)(x:Str)(P:Addr):Prop where
 code:∃(fa:Addr) (o:Obj) (fd:FuncData) (c:Addr),PySem.W.nsIn K mainGlobals x=some #[9,fa]/\K.lookup fa=some o/\o.data=.func fd/\fd.code=.ref c/\PySem.W.codeHdIn K c P=true
 out:K.lookup P=none
def Fe{P:Program}{w:World}{K:PySem.W.Frag}{mg mb:Str->Option Value}{k:Nat}{fa a:Addr}{fd:FuncData}{x:Str}{sp:Sp}{aeW:Shared}{vs:List Value}{ns:List Int}{ts:List (Str×Addr)}
  (KX:K.In aeW.heap) (FJ:aeW.heap.Ns mainGlobals mg) (hb:aeW.heap.Ns builtinsNs mb) (hbb:∀x:Str,x ≠ "__name__"->mb x=bootBuiltins x) (ad3:aeW.heap.NoLimit) (hg:aeW.gens=#[])
  (hbm:∃bm ob,mg "__builtins__" = some (.ref bm)/\bm≠builtinsNs/\aeW.heap.get? bm=some ob/\ob.cls=.type "module"/\ob.dict=some builtinsNs/\ob.data=.plain)
  (ht:∀p∈ts,aeW.heap.get? p.2=some (PySem.W.tabObj #[])) (hk:∀p∈ts,Nb K p.1 p.2)
  (ha:aeW.heap.get? a=some { cls:=.type "list",data:=.seq vs.toArray }) (hi:IntsAre vs ns) (hl:ns.length<=sizeLine) (hr:cT k callerA)
  (F:∀base:Heap,K.In base->base.Ns mainGlobals mg->BMain mg base->cH P w K mg base qP k fa fd [x] sp) (abK:∀(s:Shared) (u:Value),BindsTo s fd ⟨[u],[]⟩ [(x,u)])
  (hsp:∀H:Hp,yD K H a (ns.map V.int)->(∀p∈ts,H p.2=some (.tbl #[]))->sp [.ref a] H (λv _=>v=.bl true) λ_ _ _=>False) :
  codeAny (model P w) callerA (.call (.ref fa) ⟨[.ref a],[]⟩) (λr s'=>r=.ok (.ret (.bool true))/\OldK aeW.heap s'.heap/\s'.os=aeW.os/\AllBare s'.gens) aeW:=by
 have rv:=zp7 hi;have wU:=hi.length;have core:∀H:Hp,yD K H a (ns.map V.int)->(∀p∈ts,H p.2=some (.tbl #[]))->lz P w H aeW.heap->(∀b u,H b=some u->(b=a/\K.lookup a=none/\∃o xs,u=.frz o (.lst xs))\/(∃p∈ts,b=p.2/\u=.tbl #[])) ->
   codeAny (model P w) callerA (.call (.ref fa) ⟨[.ref a],[]⟩) (λr s'=>r=.ok (.ret (.bool true))/\OldK aeW.heap s'.heap/\s'.os=aeW.os/\AllBare s'.gens) aeW:=by
  intro H hS hT bQ hA;have yx:∀{b:Addr} {o:Obj},aeW.heap.get? b=some o->H b=none->(wX aeW.heap H).get? b=some o:=λe n=>K9 e n;have noH:∀{b:Addr} {o:Obj},aeW.heap.get? b=some o->o.cls≠.type "list"->(∀vs,o.data≠.fields vs)->H b=none:=λ{b o} e d1 d2=>by
   cases q:H b with
   | none=>rfl
   | some u =>
    rcases hA b u q with⟨rfl,_⟩ | ⟨p,hp,rfl,_⟩
    ·rw[ha]at e;cases e;exact absurd rfl d1
    ·rw[ht p hp]at e;cases e;exact absurd rfl (d2 _)
  have Q0:∀{b:Addr} {o:Obj} {es:Array DictEntry} {ep:Nat},aeW.heap.get? b=some o->o.data=.dict es ep->H b=none:=λ{b o es ep} e d=>by
   cases q:H b with
   | none=>rfl
   | some u =>
    rcases hA b u q with⟨rfl,_⟩ | ⟨p,hp,rfl,_⟩
    ·rw[ha]at e;cases e;have d':Data.seq vs.toArray _=Data.dict es ep:=d;cases d'
    ·rw[ht p hp]at e;cases e;have d':Data.fields #[]=Data.dict es ep:=d;cases d'
  have nsK:∀{b:Addr} {m:Str->Option Value},aeW.heap.Ns b m->(wX aeW.heap H).Ns b m:=λ{b m} ⟨o,es,ep,e,d,r⟩=>⟨o,es,ep,yx e (Q0 e d),d,r⟩;have hKb:K.In (wX aeW.heap H):=λb o e=>yx (KX b o e) (by
   cases q:H b with
   | none=>rfl
   | some u =>
    rcases hA b u q with⟨rfl,z,_⟩ | ⟨p,hp,rfl,_⟩
    ·rw[z]at e;cases e
    ·rw[(hk p hp).out]at e;cases e)
  have hM:Mod K mg (wX aeW.heap H):=⟨hKb,nsK FJ,⟨mb,nsK hb,hbb⟩,let ⟨mc,h1,h2⟩:=ad3;⟨mc,nsK h1,h2⟩⟩;have e0:yE P w K mg (wX aeW.heap H) callerA [] aeW H:=⟨rfl,hM,λb o e=>QW e,Nat.le_of_eq (FP _ _),trivial,λb hb=>absurd (show b∈([]:List Addr) from hb) 0x1,bQ,.of_eq hg⟩;have hBM:BMain mg (wX aeW.heap H):=by
   obtain⟨bm,ob,b1,b2,b3,b4,b5,b6⟩:=hbm;refine⟨bm,ob,b1,b2,λz=>?_,yx b3 (noH b3 (by rw[b4];simp) λvs z=>by rw[b6]at z;cases z),b4,b5,b6⟩;obtain⟨o,es,ep,e,d,_⟩:=FJ;rw[<-z,b3]at e;cases e;rw[b6]at d;cases d
  refine afO ((F _ hKb (nsK FJ) hBM).run callerA [] aeW H ⟨[.ref a],[]⟩ [.ref a] [.ref a] _ _ hr e0 (abK aeW (.ref a)) (.cons rfl .nil) (hsp H hS hT)) λr s' h=>?_;cases r with
  | error e=>exact False.elim h
  | ok fl =>
   cases fl with
   | next=>exact False.elim h
   | brk=>exact False.elim h
   | cont=>exact False.elim h
   | ret u =>
    obtain⟨v,H',os,bare,un,abI,r',q⟩:=h;have q':v=.bl true:=q;subst q';obtain rfl:u=Value.bool true:=r';refine⟨rfl,⟨λb o e=>?_,λb o e=>un.there b o e 0x1⟩,os,bare⟩;cases q:H b with
    | none=>exact .inl (un.keep b o e q (by intro z;exact absurd (show b∈([]:List Addr) from z) 0x1) 0x1)
    | some u =>
     rcases hA b u q with⟨rfl,_,ob,xs,rfl⟩ | ⟨p,hp,rfl,rfl⟩
     ·have z2:=un.t7 _ ob _ q;obtain⟨e1,_⟩:=bQ _ _ q;obtain⟨e2,_⟩:=abI _ _ z2;rw[e]at e1;cases e1;exact .inl e2
     ·obtain⟨more,z2⟩:=un.uM p.2 #[] q;have e2:s'.heap.get? p.2=some (PySem.W.tabObj (#[]++more)):=abI _ _ z2;obtain⟨_,_,_,c,_,_,_,_,ym⟩:=(hk p hp).code;have hTA:=(PySem.W.codeHd_of_K KX ym).tab (ht p hp);rw[ht p hp]at e;cases e;exact .inr (.inl ⟨hTA.isCodeTable,rfl,#[],more,rfl,e2⟩)
 have nt:∀p∈ts,p.2≠a:=λp hp z=>by
  have:=ht p hp;rw[z,ha]at this;cases this
 cases hka:K.lookup a with
 | some o =>
  have e:=KX a o hka;rw[ha]at e;cases e
  let H:Hp:=λb=>if (ts.map (·.2)).contains b=true then some (.tbl #[]) else none
  have hin:∀p∈ts,H p.2=some (.tbl #[]):=λp hp=>ae7 (by simp;exact⟨p.1,hp⟩);refine core H (.inr ⟨_,vs.toArray,_,hka,rfl,rfl,rfl,by rw[gG,wU];exact hl,by simpa using rv⟩) hin (λb u z=>?_) λb u z=>?_
  ·by_cases hb:(ts.map (·.2)).contains b=true
   ·have z:(if (ts.map (·.2)).contains b=true then some (HO.tbl #[]) else none)=some u:=z;rw[ae7 hb]at z;cases z;obtain⟨p,hp,rfl⟩:=gh.mp (p_.mp hb);exact ht p hp
   ·have z:(if (ts.map (·.2)).contains b=true then some (HO.tbl #[]) else none)=some u:=z;rw[ae8 hb]at z;cases z
  ·by_cases hb:(ts.map (·.2)).contains b=true
   ·have z:(if (ts.map (·.2)).contains b=true then some (HO.tbl #[]) else none)=some u:=z;rw[ae7 hb]at z;cases z;obtain⟨p,hp,rfl⟩:=gh.mp (p_.mp hb);exact .inr ⟨p,hp,rfl,rfl⟩
   ·have z:(if (ts.map (·.2)).contains b=true then some (HO.tbl #[]) else none)=some u:=z;rw[ae8 hb]at z;cases z
 | none =>
  let H:Hp:=λb=>if b=a then some (.frz { cls:=.type "list",data:=.seq vs.toArray } (.lst (ns.map V.int))) else if (ts.map (·.2)).contains b=true then some (.tbl #[]) else none
  have hin:∀p∈ts,H p.2=some (.tbl #[]):=λp hp=>(ae8 (nt p hp)).trans (ae7 (by simp;exact⟨p.1,hp⟩));have hat:H a=some (.frz { cls:=.type "list",data:=.seq vs.toArray } (.lst (ns.map V.int))):=ae7 rfl;have UJ:∀b u,H b=some u->(b=a/\u=.frz { cls:=.type "list",data:=.seq vs.toArray } (.lst (ns.map V.int)))\/∃p∈ts,b=p.2/\u=.tbl #[]:=λb u z=>by
   by_cases hba:b=a
   ·subst hba;rw[hat]at z;cases z;exact .inl ⟨rfl,rfl⟩
   ·have z:(if b=a then some (HO.frz { cls:=.type "list",data:=.seq vs.toArray } (.lst (ns.map V.int))) else if (ts.map (·.2)).contains b=true then some (HO.tbl #[]) else none)=some u:=z;rw[ae8 hba]at z;by_cases hb:(ts.map (·.2)).contains b=true
    ·rw[ae7 hb]at z;cases z;obtain⟨p,hp,rfl⟩:=gh.mp (p_.mp hb);exact .inr ⟨p,hp,rfl,rfl⟩
    ·rw[ae8 hb]at z;cases z
  refine core H (.inl ⟨_,hat⟩) hin (λb u z=>?_) λb u z=>?_
  ·rcases UJ b u z with⟨rfl,rfl⟩ | ⟨p,hp,rfl,rfl⟩
   ·exact⟨ha,by rw[gj];exact hl,vs,_,rv,ha⟩
   ·exact ht p hp
  ·rcases UJ b u z with⟨rfl,rfl⟩ | h
   ·exact .inl ⟨rfl,hka,_,_,rfl⟩
   ·exact .inr h
def zqr{K:PySem.W.Frag}{H:Hp}{a:Addr}{ns:List Int}{ts:List (Str×Addr)}(zW:(ts.map (·.2)).Nodup)(hS:yD K H a (ns.map V.int))(hT:∀p∈ts,H p.2=some (.tbl #[]))(hk:∀p∈ts,Nb K p.1 p.2) :
  aU K (a::ts.map (·.2)) H (.frz (ns.map D.int)::ts.map λp=>.tab p.1):=by
 have hv:∀(μ:List Addr) (l:List Int),ao K μ H (l.map D.int) (l.map V.int):=fun μ l=>by
  induction l with
  | nil=>exact ao.nil
  | cons i l ih=>exact ao.cons (aq.aN.mpr rfl) ih
 refine⟨by simp,λn o e=>?_,λi j b oi oj ei ej mi mj hi hj=>?_⟩
 ·match n,e with
  | 0,e =>
   simp at e;subst e;exact⟨a,rfl,_,hS,hv _ ns⟩
  | n+1,e =>
   rw[mX,gO]at e;cases q:ts[n]? with
   | none=>rw[q]at e;cases e
   | some p =>
    rw[q]at e;cases e;have hp:=gZ q;refine⟨p.2,by rw[mX,gO,q];rfl,(hk p hp).code,#[],hT p hp,trivial,λpos cv z=>by cases z⟩
 ·match i,j,ei,ej,hi,hj with
  | 0,_,ei,_,_,_=>simp at ei;subst ei;cases mi
  | _+1,0,_,ej,_,_=>simp at ej;subst ej;cases mj
  | i+1,j+1,_,_,hi,hj =>
   rw[mX]at hi hj;have h1:=(gf.mp hi).1;rw[(nQ h1 zW).mp (hi.trans hj.symm)]
def holds_ofT(ts:List (Str×Addr)){l:PySem.W.OpenLaw}{k:Nat}{q:Program}{loose:List Str}{XP:(Str->Option Value)->Heap->Prop}{YP:World->Heap->Prop}{d:DefRec}{K:Params->PySem.W.Frag}{F:FD}{x:Str}
  (hn:l.most=some 63) (hdf:d.params.defaults=[]) (hr:cT k callerA) (zW:(ts.map (·.2)).Nodup)
  (hY:∀(w:World) (h:Heap),YP w h->(K w.params).In h/\∀P∈ts.map (·.2),h.get? P=some (PySem.W.tabObj #[]))
  (G:∀(w:World) (mg:Str->Option Value) (fa:Addr) (h:Heap),(K w.params).In h->h.Ns mainGlobals mg->mg d.name=some (.ref fa) ->
   ∃fd:FuncData,(∀(s:Shared) (u:Value),BindsTo s fd ⟨[u],[]⟩ [(x,u)])/\(∀p∈ts,Nb (K w.params) p.1 p.2)/\∀base:Heap,(K w.params).In base->base.Ns mainGlobals mg->BMain mg base->cH l.prog w (K w.params) mg base qP k fa fd [x] (v9 (K w.params) 1 F))
  (hF:∀ns:List Int,ns.length<=63->∃st,F [.loc 0] (.frz (ns.map D.int)::ts.map λp=>.tab p.1)=.ok (.bl true) st) :
  PySem.W.WalkO q loose XP YP l.row.toRowW d [] (λf vs=>PySem.call f vs):=by
 refine Att.zqk hn hdf λw aeX aeW mg mb fa o pm cd doc a vs ns G0 Y ho hd ym hmg Yt hints hlen hg=>?_;obtain⟨KX,hT⟩:=hY w _ Y;obtain⟨fd,hb,hk,hF'⟩:=G w mg fa _ KX G0.T.g hmg;refine Fe (ts:=ts) KX G0.T.g G0.T.b G0.T.builtins G0.T.nolimit hg G0.T.bmain (λp hp=>hT p.2 (gh.mpr ⟨p,hp,rfl⟩)) hk Yt hints (kh hlen 0x5) hr hF' hb λH hS hTb=>?_;obtain⟨st,e⟩:=hF ns hlen;refine⟨rfl,a::ts.map (·.2),[.loc 0],_,ao.cons (aq.aL.mpr ⟨a,rfl,rfl⟩) ao.nil,zqr zW hS hTb hk,?_⟩;rw[e];exact λv H' μ' _ _ hv=>aq.bx.mp hv
structure Bb(K:PySem.W.Frag)(x:Str)(st:Stmt)(f:Addr)(fd:FuncData):Prop where
 ex:∃(oc:Value) (od:Option Addr) (dV kV doc pm:Value) (an:Option Addr) (c:Addr) (ct:Value) (ue:Array (Option Value)),
  fd=PySem.W.fnOf x x (bZ st) (bh st) (aD st) dV kV doc pm an (.ref c) ct/\K.lookup f=some ⟨oc,od,.func fd,ue⟩/\PySem.W.codeIn K (.ref c) x=true
 ns:PySem.W.nsIn K mainGlobals x=some #[9,f]
 kp:PySem.W.keepIn K (.ref f)=true
def Ln{P:Program}{w:World}{K:PySem.W.Frag}{mg:Str->Option Value}{base:Heap}{x:Str}{st:Stmt}{f:Addr}{fd:FuncData}{N ps:List Str}{k:Nat}{m:MS}(F:Bb K x st f fd)(S:dm N ps (aD st))
  (lV:∀(cdv:Value) (A:Around) (outer:List Env) (s:Shared) (H:Hp),cT k (A.deeper (PyProof.Rows.envOfC x (aD st) s.heap.objs.size f cdv)) ->
   aca (vX qP P w K mg base N x (aD st) f cdv A outer s H E0).JF x->zM (vX qP P w K mg base N x (aD st) f cdv A outer s H E0).JF (bh st) m):cH P w K mg base qP (k+1) f fd ps (v9 K ps.length (bB N.length m)):=by
 obtain⟨oc,od,dV,kV,doc,pm,an,c,ct,ue,rfl,lk,ym⟩:=F.ex;refine Lp lk ym S (λvs H Q E h=>h.1) λA outer s H vs Q E hr h=>?_;obtain⟨hl,μ,ds,Uc,hv,hs,hp⟩:=h;have hb:=lV (.ref c) A outer s H hr ⟨rfl,c,f,_,_,rfl,F.ns,lk,rfl,rfl⟩;refine⟨_,zJ.JF hb,μ,startM N.length ds,Uc,ao.start N hv,hs,?_⟩;unfold bB at hp;cases hr:m (startM N.length ds) Uc with
 | bad=>rw[hr]at hp;exact hp.elim
 | err x st1=>rw[hr]at hp;exact hp.elim
 | ok o st1 =>
  rw[hr]at hp;cases o with
  | rt d=>exact hp
  | nx env=>exact fun σ' H' μ' g oN _=>hp .non H' μ' g oN (aq.bJ.mpr rfl)
  | bk env=>exact hp.elim
  | cn env=>exact hp.elim
def CP{K:PySem.W.Frag}{x:Str}{st:Stmt}{f:Addr}{oc:Value}{od an:Option Addr}{ue:Array (Option Value)}{dV kV doc pm ct:Value}{c:Addr}(n:PySem.W.nsIn K mainGlobals x=some #[9,f])(l:K.lookup f=some ⟨oc,od,.func (PySem.W.fnOf x x (bZ st) (bh st) (aD st) dV kV doc pm an (.ref c) ct),ue⟩)
  (h:PySem.W.codeIn K (.ref c) x=true) (k:PySem.W.keepIn K (.ref f)=true):Bb K x st f (PySem.W.fnOf x x (bZ st) (bh st) (aD st) dV kV doc pm an (.ref c) ct):=⟨⟨oc,od,dV,kV,doc,pm,an,c,ct,ue,rfl,l,h⟩,n,k⟩
def Bb.aau{K:PySem.W.Frag}{x:Str}{f P:Addr}{oc:Value}{od an:Option Addr}{ue:Array (Option Value)}{name qual:Str}{params:Arguments}{body:List Stmt}{scope:Scope}{dV kV doc pm ct:Value}{c:Addr}(n:PySem.W.nsIn K mainGlobals x=some #[9,f])(l:K.lookup f=some ⟨oc,od,.func (PySem.W.fnOf name qual params body scope dV kV doc pm an (.ref c) ct),ue⟩)
  (h:PySem.W.codeHdIn K c P=true) (o:K.lookup P=none):Nb K x P:=⟨⟨f,_,_,c,n,l,rfl,rfl,h⟩,o⟩
def zun:∀(env:aK) (st:ak) (as:List LA) (st1:ak),xZ env st=.ok as st1->as.length=([]:List Expr).length:=by
 intro env st as st1 h;cases h;rfl
def zpq{e:Expr}{es:List Expr}{a:ME}{r:ML}(h:∀(env:aK) (st:ak) (as:List LA) (st1:ak),r env st=.ok as st1->as.length=es.length) :
  ∀(env:aK) (st:ak) (as:List LA) (st1:ak),qm a r env st=.ok as st1->as.length=(e::es).length:=by
 intro env st as st1 q;unfold qm at q;cases h1:a env st with
 | bad=>rw[h1]at q;cases q
 | err x s=>rw[h1]at q;cases q
 | ok x s =>
  rw[h1,R.aB]at q;cases h2:r env s with
  | bad=>rw[h2]at q;cases q
  | err x s=>rw[h2]at q;cases q
  | ok xs s2 =>
   rw[h2,R.aB]at q;cases q;rw[gC,gC,h env s xs _ h2]
def zk8{e:Expr}{es:List Expr}{j k:Nat}{cap:List Nat}{x:Str}{r:ML}(h:∀(env:aK) (st:ak) (as:List LA) (st1:ak),r env st=.ok as st1->as.length=es.length) :
  ∀(env:aK) (st:ak) (as:List LA) (st1:ak),oM j cap k x r env st=.ok as st1->as.length=(e::es).length:=by
 intro env st as st1 q;unfold oM at q
 split at q
 ·split at q
  ·cases h2:r env st with
   | bad=>rw[h2]at q;cases q
   | err x s=>rw[h2]at q;cases q
   | ok xs s2 =>
    rw[h2,R.aB]at q;cases q;rw[gC,gC,h env st xs _ h2]
  ·cases q
 ·cases q
end M
namespace M
open PySem PySem.Spec L2
noncomputable def Di:Expr->Nat->Expr
 | .Call _ as _ _,i=>as.getD i (.Constant .none 0 ⟨0,0,0,0⟩)
 | e,_=>e
noncomputable def xM:Stmt->Expr
 | .Return (some e) _=>e
 | .Assign _ e _=>e
 | _=>.Constant .none 0 ⟨0,0,0,0⟩
noncomputable def Uk:fQ:=⟨"",⟨[],[],none,[],[],none,[]⟩,.Constant .none 0 ⟨0,0,0,0⟩,aD (.Pass ⟨0,0,0,0⟩),[]⟩
noncomputable def Ci(x:Str)(oW:List Str):Expr->fQ
 | .Lambda ps b sc _=>⟨rO x,ps,b,sc,oW⟩
 | _=>Uk
def zkv(h0:X.env.scope=sc0)(nd:l.oW.Nodup)(hc:∀x∈l.oW,sc0.names.lookup x=some .cell)(ix:cap.map (λi=>X.N[i]?)=l.oW.map some):qL X l cap :=
 ⟨nd,λx hx=>by subst h0;exact hc x hx,ix⟩
end M
namespace M
open L2
def Ld{s:ak}{n:Nat}{o:MO}(h:s[n]? = some o)(hc:o.eF=false):(cD s)[n]? = some o:=by
 rw[zrk h,hc];rfl
def Qc(h:s[c]? = some (.clo j (Λ j) ds))(hG:G j (ds++as) (cD s)=.ok d (cD s))(hu:under s.length d):Dg Λ G c as s=.ok d s:=by
 unfold Dg;rw[h];dsimp only;rw[ae7 rfl,hG,fu (by rw[zkf];exact hu)];dsimp only;rw[ae7 ⟨rfl,hu⟩]
def By(hi:env[i]? = some (some (.loc n)))(h0:st[n]? = some (.clo j (Λ j) ds))(hA:mA env st=.ok as st1)(h:st1[n]? = some (.clo j (Λ j) ds))(hG:G j (ds++as) (cD st1)=.ok d (cD st1))(hu:under st1.length d) :
  callC Λ G i mA env st=.ok d st1:=by
 unfold callC;rw[hi];dsimp only;rw[h0];dsimp only;rw[hA,R.aB];exact Qc h hG hu
def zr4(hm:m env st=.ok as st1)(hn:bF st1)(hp:jX Λ env st1.length as=some (ds,os))(hF:gc st1 (F (ds++dd) (st1++os))=.ok d st2)(hn2:bF st2) :
  ou Λ F dd m env st=.ok d st2:=by
 unfold ou;rw[hm,R.aB,ae7 hn,hp];dsimp only;rw[hF];dsimp only;rw[ae7 hn2]
@[simp] def aac:bF []:=λ_ h=>nomatch h
@[simp] def W5(o:MO)(st:ak):bF (o::st)↔o.eF=false/\bF st:=by simp[bF]
@[simp] def zfx(a b:ak):bF (a++b)↔bF a/\bF b:=by
 simp only[bF,mz];exact⟨λh=>⟨λo ho=>h o (.inl ho),λo ho=>h o (.inr ho)⟩,λh o ho=>ho.elim (h.1 o) (h.2 o)⟩
@[simp] def aaf(l:List D):(MO.lst l).eF=false:=rfl
@[simp] def aag(l:List D):(MO.frz l).eF=false:=rfl
@[simp] def aae(x:PySem.Str):(MO.tab x).eF=false:=rfl
@[simp] def aal(l:List (List Key×D)):(MO.dic l).eF=false:=rfl
@[simp] def aak(l:List (Key×D)):(MO.dkc l).eF=false:=rfl
@[simp] def aaj(l:List (Key×D)):(MO.dkf l).eF=false:=rfl
@[simp] def aah(c:String)(d:D):(MO.exc c d).eF=false:=rfl
@[simp] def aai(l:List (List Key×D)):(MO.dtf l).eF=false:=rfl
end M
namespace M
open PySem PySem.Spec L2
section
variable  {X:Cx}{elt tg iter c:Expr}{ifs:List Expr}{scope:Scope}{pos:Pos}{N:List Str}{capt:List (Option Nat)}{mi:MI}{g:MG}{t:MT}{me:ME}
end
end M
namespace L2
open PySem PySem.Spec PyProof.Rows
noncomputable def Zc(x:Str):It :=
 ⟨λi _=>i<x.cps.size,
  λi H y H'=>∃p c,H p=none/\y=.ref p/\x.cps[i]? = some c/\H'=upd H p (.tup [.int i,.str ⟨#[c]⟩]),
  λi _=>x.cps.size<=i⟩
def zsi{P:Program}{w:World}{K:PySem.W.Frag}{elts:List Expr}{x1:Nat}{pos:Pos}(x:Str)(t:Tok)(e it:Addr)(lU:e≠it) :
  Turn P w K (.Tuple elts x1 pos) (Zc x) [e,it] e (λi h=>i<=x.cps.size/\∃old,IsEnum h e it (i:Int) old/\h.IsStrIter it "str_ascii_iterator" x t i) where
 mem:=by simp
 obj:=λi h st b hb=>by
  obtain⟨_,old,h1,h2⟩:=st;rcases gm.mp hb with rfl | hb
  ·exact⟨_,h1,λv z=>by cases z⟩
  ·have e:b=it:=by simpa using hb
   subst e;obtain⟨o,q,c,d⟩:=h2;exact⟨o,q,λv z=>by rw[d]at z;cases z⟩
 keep:=λi h h' st k=>by
  obtain⟨h0,old,h1,h2⟩:=st;refine⟨h0,old,k e 0x1 _ h1,?_⟩;obtain⟨o,q,c,d⟩:=h2;exact⟨o,k it 0x1 o q,c,d⟩
 item:=by
  show 2;obtain⟨_,old,h1,h2⟩:=st;have hi:i<x.cps.size:=hg;have D:=Draws.strAscii (prog:=X.prog) (w:=X.w) (A:=X.A.in1) (I.ok.hd hc) it x t;refine wpAny_pyNext_enum_itemD D h1 h2 hi lU (by simpa using lU) λu ae4 tk hPu N8 hit ht hsz hk=>?_;refine⟨_,rfl,wpAny_letOwnedTupleGo_enum N8 λae3 ad6 K6=>?_⟩;replace K6:Heap.SameBut e ae4 ae3:=K6;have wk:e<s.heap.objs.size:=gr h1;have Yc:it<s.heap.objs.size:=by obtain⟨o,q,_⟩:=h2;exact gr q
  have ht2:ae3.get? s.heap.objs.size=some { cls:=.type "tuple",data:=.seq #[.int i tk,u] }:=by rw[K6.2 _ (mK wk)];exact ht
  have kk:∀b ob,b∉[e,it]->s.heap.get? b=some ob->ae3.get? b=some ob:=λb ob hb q=>by
   have b1:b≠e:=λz=>hb (by simp[z]);have b2:b≠it:=λz=>hb (by simp[z]);exact K6.extBut b ob b1 (hk b ob b1 b2 q)
  obtain⟨c,t2,YC,rfl⟩:=hPu;refine⟨.ref s.heap.objs.size,upd H s.heap.objs.size (.tup [.int i,.str ⟨#[c]⟩]),I.Bj hf kk (gb _) ?_,rfl,⟨_,c,I.bQ.fresh (gb _),rfl,YC,rfl⟩,?_,λb hb=>?_⟩
  ·refine⟨by show 2<=sizeLine;decide,[.int i tk,.str ⟨#[c]⟩ t2],.cons ⟨_,rfl⟩ (.cons ⟨_,rfl⟩ .nil),?_⟩;exact⟨_,ht2,rfl,_,rfl⟩
  ·refine⟨hi,.str ⟨#[c]⟩ t2,?_,?_⟩
   ·have:(i:Int)+1=((i+1:Nat):Int):=by omega
    rw[<-this];exact ad6
   ·obtain⟨o,q,c,d⟩:=hit;exact⟨o,K6.extBut it o (afi lU) q,c,d⟩
  ·rw[iK]
   ·exact (hf b hb).1
   ·intro z;subst z;rcases gm.mp hb with z | z
    ·exact mK wk z
    ·exact mK Yc (by simpa using z)
 done:=by
  show 2;obtain⟨h0,old,h1,h2⟩:=st;have hi:x.cps.size<=i:=hg;have hii:i=x.cps.size:=by omega
  subst hii;have D:=Draws.strAscii (prog:=X.prog) (w:=X.w) (A:=X.A.in1) (I.ok.hd hc) it x t;exact wpAny_pyNext_enum_endD D h1 h2 λh' eb=>⟨rfl,I.turns (t':=s.toks) (ch:=[e,it]) hf λb o hb q=>eb b o (λz=>hb (by simp[z])) q⟩
 self:=λ_ _ _ _ _ st h=>by
  obtain⟨_,old,h1,h2⟩:=st;exact wpAny_pyIter_enum h1 h
noncomputable def Yj(ta:TA):TI:=fun σ H R=>ta σ H λvs H1=>∃x,vs=[.str x]/\strIterType x = "str_ascii_iterator"/\R (Zc x) H1
def Jk{X:Cx}{elts:List Expr}{x1:Nat}{xO:Pos}{a:Expr}{ta:TA}{p pos:Pos}(hg:Gl X "enumerate")(hm:X.mg "enumerate" = none)(ha:PA X [a] ta)(hs:starEach [a] X.env=[(false,eval a X.env)]:=by rfl) :
  PI X (.Tuple elts x1 xO) (.Call (.Name "enumerate" p) [a] [] pos) (Yj ta):=by
 intro pins s σ H R I h;refine Call_ (Oi I hg hm zo3 (afg 0x17 hs rfl));obtain⟨vs,H1,I1,r1,q1⟩:=zz;obtain⟨x,e,hq,q⟩:=q1;subst e;cases r1 with
 | cons r rr =>
  cases rr;obtain⟨t,rfl⟩:=r;refine call_enumerate_str λh' he hit hsz hk=>?_;rw[hq]at hit;refine wpAny_pyIter_enum he ?_;have I2:Inv X pins σ H1 { s1 with heap:=h' }:=I1.kept (t':=s1.toks) hk;refine⟨s1.heap.objs.size+1,[s1.heap.objs.size+1,s1.heap.objs.size],_,_,H1,rfl,I2,zsi x t _ _ (mK (nY _)),⟨mL _,.none,he,hit⟩,λb hb=>?_,q⟩;have oR:s1.heap.objs.size<=b:=by
   rcases gm.mp hb with z | z
   ·rw[z];exact Nat.le_succ _
   ·have:b=s1.heap.objs.size:=by simpa using z
    rw[this];exact gb _
  exact I1.vN oR (I1.bQ.fresh oR)
end L2
namespace M
open PySem PySem.Spec L2
section
variable  {X:Cx}{a:Expr}{mA:MA}{μ:List Addr}{H:Hp}{p pos xO:Pos}
noncomputable def vU(mA:MA):MI:=λenv st=>(mA env st).bind λds st1=>match ds with
 | [.str cs]=>if cs.all (λc=>decide (c<128))=true then .ok (cN 0 (cs.map λc=>D.str [c]),[]) st1 else .bad
 | _=>.bad
@[simp] theorem IV(env:aK)(st:ak):vU mA env st=(mA env st).bind λds st1=>match ds with
 | [.str cs]=>if cs.all (λc=>decide (c<128))=true then .ok (cN 0 (cs.map λc=>D.str [c]),[]) st1 else .bad
 | _=>.bad:=eY rfl
def KR(cs:List Nat):oE X μ H (Zc (strOf cs)) (cN 0 (cs.map λc=>D.str [c]),[]):=by
 intro H' μ' st' g hs ok;refine⟨λi d e=>?_,by show (strOf cs).cps.size<=_;rw[Vo];simp⟩;obtain⟨y,e1,rfl⟩:=zkn e;rw[gO]at e1;obtain⟨c,e2,rfl⟩:=nA.mp e1;refine⟨by show i<(strOf cs).cps.size;simpa using (gf.mp e2).1,?_⟩;rintro x Dn ⟨pp,c',hn,rfl,hc,rfl⟩;have:c'=c:=by
  have h2:cs[i]? = some c':=by simpa using hc
  rw[e2]at h2;exact (afa h2).symm
 subst this;refine⟨a_.lay hn,hs.lay hn,aq.aQ.mpr ⟨pp,_,rfl,.inl qT,?_⟩⟩;exact ao.cons (aq.aN.mpr rfl) (ao.cons (aq.aP.mpr rfl) ao.nil)
def Kr{elts:List Expr}{x1:Nat}(ha:JA X [a] mA)(hg:Gl X "enumerate")(hm:X.mg "enumerate" = none)(hs:starEach [a] X.env=[(false,eval a X.env)]:=by rfl):JI X (.Tuple elts x1 xO) (.Call (.Name "enumerate" p) [a] [] pos) (vU mA):=by
 refine JI.of (Jk hg hm ha hs) fun σ H R zz=>?_;show 16
 split at aR
 ·rename_i cs
  split at aR
  ·rename_i hc;obtain⟨v,rfl,q1⟩:=ao.one hv;obtain rfl:=aq.aP.mp q1;refine⟨strOf cs,rfl,?_,aR _ _ _ (.refl _ _) bG (KR cs)⟩;unfold strIterType;rw[ae7];show (cs.toArray.all _)=true;rw[List.all_toArray];exact hc
  ·exact aR.elim
 ·exact aR.elim
end
end M
namespace M
open PySem PySem.Spec PySem.SeqAt L2
def aq.kt{K:PySem.W.Frag}{a:Addr}{od:Option Addr}{its:Array Value}{n:Nat}{sl:Array (Option Value)}{ds:List D}(xs:List V)(l:K.lookup a=some ⟨.type "tuple",od,.seq its n,sl⟩)(hs:its.size<=sizeLine)(hv:Vals xs its.toList)(nk:BZ ds=true)
  (hr:∀μ H,ao K μ H ds xs):∀μ H,aq K μ H (.tup ds) (.ref a):=fun μ H=>aq.aQ.mpr ⟨a,xs,rfl,.inr ⟨nk,_,its,n,l,rfl,rfl,hs,hv⟩,hr μ H⟩
def ao.n{K:PySem.W.Frag}:∀μ H,ao K μ H [] []:=λ_ _=>ao.nil
def ao.c{K:PySem.W.Frag}{d:D}{ds:List D}{v:V}{vs:List V}(h:∀μ H,aq K μ H d v)(k:∀μ H,ao K μ H ds vs):∀μ H,ao K μ H (d::ds) (v::vs):=fun μ H=>ao.cons (h μ H) (k μ H)
def aq.ks{K:PySem.W.Frag}{cs:List Nat}{y:Str}(hy:y=strOf cs):∀μ H,aq K μ H (.str cs) (.str y):=λ_ _=>aq.aP.mpr (by rw[hy])
def aq.ki{K:PySem.W.Frag}{i:Int}:∀μ H,aq K μ H (.int i) (.int i):=λ_ _=>aq.aN.mpr rfl
def aq.kb{K:PySem.W.Frag}{b:Bool}:∀μ H,aq K μ H (.bl b) (.bl b):=λ_ _=>aq.bx.mpr rfl
section
variable  {X:Cx}{pos:Pos}{x:Str}{L:Nat}
def Kw{d:D}(h:∃a,X.mg x=some (.ref a)/\∀μ H,aq X.K μ H d (.ref a))(hg:Gl X x:=by rfl)(hd:0xc=false:=by decide):JE X (.Name x pos) (ct d):=by
 obtain⟨a,h,hv⟩:=h;exact ztm (v:=.ref a) hg h rfl hv hd
noncomputable def wW(L:Nat)(neg:Bool):D->D->ak->R D
 | d,.loc n,st=>match aA st n with
  | some ds=>if flat d=true/\dF ds=true/\(ds.all λe=>decide (dJ e d<L))=true then .ok (.bl (if neg then !(ds.any λe=>jm e d) else ds.any λe=>jm e d)) st else .bad
  | none=>.bad
 | _,_,_=>.bad
def Im{a b:V}{w:Value}(h:RelV a w)(k:RelV b w):a=b:=by
 cases a<;>cases b<;>simp only[RelV]at h k<;>first
  | rfl
  | (subst h;cases k;done)
  | (subst h;injection k with k;subst k;rfl)
  | (obtain⟨_,rfl⟩:=h;cases k;done)
  | (obtain⟨_,rfl⟩:=k;cases h;done)
  | (obtain⟨_,rfl⟩:=h;obtain⟨_,k⟩:=k;injection k with k;subst k;rfl)
  | (obtain⟨_,rfl⟩:=h;obtain⟨_,k⟩:=k;cases k;done)
open Classical in
def K3(hu:X.A.units+L<cLine){pins:List 0x6}{s:Shared}{σ:L2.St}{H:Hp}{x y:V}{v u:Value}{Q:VK}{neg:Bool}(I:Inv X pins σ H s)(rx:RelV x v)(ry:RelV y u)(h:rM X (wW L neg) x y H Q) :
  ∃(p:Addr) (its:List Value) (f:Value->Bool),u=.ref p/\s.heap.IsList p its.toArray/\(∀w∈its,EqAt X.A.in1 s w v (f w))/\Q (.bl (if neg then !its.any f else its.any f)) H:=by
 obtain⟨μ,st,dx,dy,hs,hx,hy,hp⟩:=h;unfold wW at hp
 split at hp
 ·rename_i n
  split at hp
  ·rename_i ds e
   split at hp
   ·rename_i c;obtain⟨c1,c2,c3⟩:=c;obtain⟨p,q1,rfl⟩:=aq.aL.mp hy;obtain⟨p',xs,r1,r2,r3⟩:=hs.items e;show 7;obtain rfl:u=Value.ref p:=ry;obtain⟨its,ra,pl,_⟩:=I.list r2
    let f:Value->Bool:=λw=>decide (∃d z,flat d=true/\aq X.K μ H d z/\RelV z w/\jm d dx=true)
    have key:∀(ds:List D) (xs:List V) (its:List Value),ao X.K μ H ds xs->Vals xs its->dF ds=true->(ds.all λe=>decide (dJ e dx<L))=true ->
      (∀w∈its,EqAt X.A.in1 s w v (f w))/\its.any f=ds.any λe=>jm e dx:=by
     intro ds
     induction ds with
     | nil =>
      intro xs its h1 h2 _ _;rw[ao]at h1;subst h1;cases h2;exact⟨λw hw=>(nomatch hw),rfl⟩
     | cons d ds ih =>
      intro xs its h1 h2 h3 h4;rw[ao]at h1;obtain⟨z,r,rfl,g1,g2⟩:=h1;cases h2 with
      | cons rz rr =>
       rw[zgj,gM]at h3;rw[List.all_cons,gM]at h4;obtain⟨i1,i2⟩:=ih _ _ g2 rr h3.2 h4.2;have fe:∀{w:Value},RelV z w->f w=jm d dx:=λ{w} hw=>by
        cases q:jm d dx with
        | true=>exact afb ⟨d,z,h3.1,g1,hw,q⟩
        | false =>
         refine ae_ ?_;rintro ⟨d',z',k1,k2,k3,k4⟩;have ez:z'=z:=Im k3 hw;subst ez;rw[znh I d' d k1 h3.1 k2 g1]at k4;rw[k4]at q;cases q
       refine⟨λw hw=>?_,?_⟩
       ·rcases gm.mp hw with rfl | hw
        ·rw[fe rz];exact (Lz I d dx h3.1 c1 (by have:=afh h4.1;show X.A.units+1+_<_;omega) g1 hx rz rx).1
        ·exact i1 w hw
       ·rw[mR,mR,fe rz,i2]
    obtain⟨k1,k2⟩:=key ds xs its r3 ra c2 c3;refine⟨p,its,f,rfl,pl.isList,k1,?_⟩;rw[k2];exact hp.ret hs (aq.bx.mpr rfl)
   ·exact hp.elim
  ·exact hp.elim
 ·exact hp.elim
def BV(hu:X.A.units+L<cLine):eQ X (compareOp .In) (rM X (wW L false)):=by
 show 10;obtain⟨p,its,f,rfl,pl,k1,q⟩:=K3 hu I rx ry h;refine SeqAt.in_listAt f pl (λw hw=>k1 w (by simpa using hw)) ⟨.bl _,H,I,rfl,?_⟩;rw[show its.toArray.any f=its.any f by simp];exact q
end
end M
namespace M
open PySem PySem.Spec L2
section
variable  {prog:Program}{w:World}{A:Around}{E:Value->Shared->Prop}{s:Shared}
end
section
variable  {X:Cx}{es:List Expr}{pos:Pos}
end
end M
namespace M
namespace Tr
noncomputable def fV:Nat->Tr->Option Tr
 | 0,t=>some t
 | n+1,t=>(step t).bind (fV n)
def xn{n:Nat}{t u:Tr}(h:step t=some u):fV (n+1) t=fV n u:=by rw[fV,h];rfl
theorem G5:∀{a b:Nat} {t u:Tr},fV a t=some u->fV (a+b) t=fV b u
 | 0,b,t,u,h=>by rw[fV]at h;cases h;rw[mZ]
 | a+1,b,t,u,h=>by
  cases e:step t with
  | none=>rw[fV,e]at h;cases h
  | some x =>
   rw[xn e]at h;rw[pL,xn e];exact G5 h
def zr1{t u:Tr}(h:step t=some u):val t=false:=by
 cases e:val t with
 | false=>rfl
 | true=>rw[zlk e]at h;cases h
theorem Zw{r:Tr}:∀{n:Nat} {l l':Tr},fV n l=some l'->fV n 0x2=some (.jn l' r)
 | 0,l,l',h=>by rw[fV]at h ⊢;cases h;rfl
 | n+1,l,l',h=>by
  cases e:step l with
  | none=>rw[fV,e]at h;cases h
  | some x =>
   rw[xn e]at h;rw[xn (u:=.jn x r) (by rw[zh3 (zr1 e),e];rfl)];exact Zw h
theorem zlh{l:Tr}(hl:val l=true):∀{n:Nat} {r r':Tr},fV n r=some r'->fV n 0x2=some (.jn l r')
 | 0,l,l',h=>by rw[fV]at h ⊢;cases h;rfl
 | n+1,r,r',h=>by
  cases e:step r with
  | none=>rw[fV,e]at h;cases h
  | some x =>
   rw[xn e]at h;rw[xn (u:=.jn l x) (by rw[zf0 hl (zr1 e),e];rfl)];exact zlh hl h
theorem zpl:∀{n:Nat} {t u:Tr},fV n t=some u->run n t=(u,n)
 | 0,t,u,h=>by rw[fV]at h;cases h;rfl
 | n+1,t,u,h=>by
  cases e:step t with
  | none=>rw[fV,e]at h;cases h
  | some x =>
   rw[xn e]at h;rw[zk6 e,zpl h]
def Pz{n m:Nat}{t v:Tr}(h:fV n t=some v)(hv:val v=true)(hm:n<=m):run m t=(v,n):=by
 obtain⟨k,rfl⟩:=Nat.exists_eq_add_of_le hm;rw[PJ,zpl h,Vi (zlk hv)];rfl
def Ev(t:Tr)(n:Nat)(v:Tr):Prop:=fV n t=some v/\val v=true
def Ev.v{v:Tr}(h:Tr.val v=true):Ev v 0 v:=⟨rfl,h⟩
def Ev.to{t v:Tr}{n m:Nat}(h:Ev t n v)(e:n=m):Ev t m v:=e ▸ h
def Ev.run{t v:Tr}{n m:Nat}(h:Ev t n v)(hm:n<=m):Tr.run m t=(v,n):=Pz h.1 h.2 hm
def Ev.both{l r a b:Tr}{n m:Nat}(h:Ev l n a)(k:Ev r m b):fV (n+m) 0x2=some (.jn a b):=by
 rw[G5 (Zw h.1)];exact zlh h.2 k.1
def Ev.jv{l r a b:Tr}{n m:Nat}(h:Ev l n a)(k:Ev r m b)(hv:Tr.val (.jn a b)=true):Ev 0x2 (n+m) (.jn a b):=⟨h.both k,hv⟩
def Ev.red{l r a b u v:Tr}{n m k:Nat}(h:Ev l n a)(h2:Ev r m b)(hn:Tr.val (.jn a b)=false)(hr:fX a b=some u)(h3:Ev u k v):Ev 0x2 (n+m+1+k) v:=by
 refine⟨?_,h3.2⟩;rw[Nat.add_assoc (n+m),G5 (h.both h2),Nat.add_comm 1 k,xn (u:=u) (by rw[zgi h.2 h2.2 hn,hr])];exact h3.1
noncomputable abbrev tS:Tr:=.lf [83]
noncomputable abbrev tK:Tr:=.lf [75]
noncomputable abbrev tI:Tr:=.jn (.jn tS tK) tK
def eU(v:Tr):val (.jn tK v)=val v:=by rw[Vq];simp
def Ht(v:Tr):val (.jn tS v)=val v:=by rw[Vq];simp
def TY(u v:Tr):val (.jn (.jn tS u) v)=(val v && val u):=by rw[Vk,Ht];simp[wV]
def Vz(u v:Tr):val (.jn (.jn tK u) v)=false:=by rw[Vk];simp[wV]
def Zq(u v w:Tr):val (.jn (.jn (.jn tS u) v) w)=false:=by rw[Vk];simp[wV]
def Hu:val tI=true:=by decide
def Ev.K{l r v w:Tr}{n m:Nat}(h:Ev l n (.jn tK v))(h2:Ev r m w):Ev 0x2 (n+m+1) v:=by
 have hv:val v=true:=by rw[<-eU];exact h.2
 exact (h.red h2 (Vz _ _) (by rw[fX,ae7 rfl]) (Ev.v hv)).to 0x0
def Ev.S{l r u v w x:Tr}{n m k:Nat}(h:Ev l n (.jn (.jn tS u) v))(h2:Ev r m w)(h3:Ev (.jn (.jn u w) (.jn v w)) k x):Ev 0x2 (n+m+1+k) x :=
 h.red h2 (Zq _ _ _) rfl h3
def Ev.I{r w:Tr}{m:Nat}(h:Ev r m w):Ev (.jn tI r) (m+2) w:=by
 have hK:Ev tK 0 tK:=Ev.v rfl;have hw:Ev w 0 w:=Ev.v h.2;have h1:Ev (.jn tK w) 0 (.jn tK w):=Ev.v (by rw[eU];exact h.2);exact ((Ev.v Hu).S h (h1.K h1)).to 0x0
def Ev.det{t v w:Tr}{n m:Nat}(h:Ev t n v)(k:Ev t m w):n=m/\v=w:=by
 have a:=h.run (Nat.le_add_right n m);have b:=k.run (Nat.le_add_left m n);rw[a]at b;exact⟨congrArg Prod.snd b,congrArg Prod.fst b⟩
end Tr
end M
namespace M
namespace Tr
def Ev.comp{l r a b v:Tr}{n m k:Nat}(h:Ev l n a)(h2:Ev r m b)(h3:Ev (.jn a b) k v):Ev 0x2 (n+m+k) v:=by
 refine⟨?_,h3.2⟩;rw[G5 (h.both h2)];exact h3.1
inductive dw (p:Tr):List Tr->Nat->Tr->Prop
 | nil (h:val p=true):dw p [] 0 p
 | snoc (ts:List Tr) (t w v:Tr) (n m:Nat) (h:dw p ts n w) (ht:val t=true) (k:Ev (.jn w t) m v):dw p (ts++[t]) (n+m) v
noncomputable def apps(p:Tr)(ts:List Tr):Tr:=ts.foldl (λw t=>.jn w t) p
def Be(p:Tr)(ts:List Tr)(t:Tr):apps p (ts++[t])=.jn (apps p ts) t:=by simp[apps]
def dw.apps{p v:Tr}{ts:List Tr}{n:Nat}(h:dw p ts n v):Ev (Tr.apps p ts) n v:=by
 induction h with
 | nil h=>exact Ev.v h
 | snoc ts t w v n m h ht k ih =>
  rw[Be];exact (ih.comp (Ev.v ht) k).to 0x0
noncomputable def hold(ts:List Tr):Tr:=ts.foldl (λw t=>.jn (.jn tS w) (.jn tK t)) tI
def Vn(ts:List Tr)(t:Tr):hold (ts++[t])=.jn (.jn tS (hold ts)) (.jn tK t):=by simp[hold]
theorem zsw:∀(ts:List Tr) (w:Tr),val w=true->(∀t∈ts,val t=true)->val (ts.foldl (λw t=>.jn (.jn tS w) (.jn tK t)) w)=true
 | [],w,h,_=>h
 | t::ts,w,h,k=>zsw ts _ (by rw[TY,eU,h,k t 0x1];rfl) λx hx=>k x (by simp[hx])
def Dv{ts:List Tr}(h:∀t∈ts,val t=true):val (hold ts)=true:=zsw ts tI Hu h
def zp9{p v:Tr}{ts:List Tr}{n:Nat}(hp:Tr.val p=true)(h:dw p ts n v):val (hold ts)=true/\Ev (.jn (hold ts) p) (n+2+2*ts.length) v:=by
 induction h with
 | nil h=>exact⟨Hu,Ev.I (Ev.v h)⟩
 | snoc ts t w v n m h ht k ih =>
  obtain⟨i1,i2⟩:=ih;have hv:val (hold (ts++[t]))=true:=by rw[Vn,TY,eU,ht,i1];rfl
  refine⟨hv,?_⟩;have e1:Ev (.jn (.jn tK t) p) 1 t:=((Ev.v (v:=.jn tK t) (by rw[eU];exact ht)).K (Ev.v hp)).to 0x0;have e2:=(Ev.v hv);rw[Vn]at e2 ⊢;refine (e2.S (Ev.v hp) (i2.comp e1 k)).to ?_;rw[gQ,nu];omega
noncomputable def di:Nat->Tr->Tr
 | 0,v=>v
 | n+1,v=>.jn tK (di n v)
theorem zje{v:Tr}(h:val v=true):∀n,val (di n v)=true
 | 0=>h
 | n+1=>by rw[di,eU];exact zje h n
noncomputable def wg:Nat->Tr
 | 0=>tI
 | 1=>tK
 | m+2=>.jn (.jn tS (.jn tK tK)) (wg (m+1))
noncomputable def Es:Nat->Nat
 | 0=>2
 | 1=>0
 | m+2=>2+Es (m+1)
theorem zpe:∀m,val (wg m)=true
 | 0=>rfl
 | 1=>rfl
 | m+2=>by rw[wg,TY,zpe (m+1)];rfl
theorem Nh{a:Tr}(h:val a=true):∀m,Ev (.jn (wg m) a) (Es m) (di m a)
 | 0=>Ev.I (Ev.v h)
 | 1=>Ev.v (by rw[show (.jn (wg 1) a:Tr)=.jn tK a from rfl,eU];exact h)
 | m+2=>by
  have hv:=zpe (m+2);have ih:=Nh h (m+1);have e1:Ev (.jn (.jn tK tK) a) 1 tK:=((Ev.v (v:=.jn tK tK) rfl).K (Ev.v h)).to 0x0;rw[wg]at hv ⊢;exact ((Ev.v hv).S (Ev.v h) (e1.jv ih (by rw[eU];exact zje h _))).to (by rw[Es];omega)
noncomputable def bL(k many:Nat):Tr:=di k (wg (many - 1 - k))
def Nr(k many:Nat):val (bL k many)=true:=zje (zpe _) _
def zm3{w:Tr}(hw:val w=true):∀(ts:List Tr) (j:Nat),(∀t∈ts,val t=true)->dw (di (ts.length+j) w) ts ts.length (di j w):=by
 intro ts
 induction hn:ts.length generalizing ts with
 | zero =>
  intro j h;have:ts=[]:=nZ.mp hn;subst this;rw[mZ];exact .nil (zje hw _)
 | succ n ih =>
  intro j h;obtain⟨us,t,rfl⟩:∃us t,ts=us++[t]:=by
   rcases List.eq_nil_or_concat ts with rfl | ⟨us,t,rfl⟩
   ·cases hn
   ·exact⟨us,t,by rw[List.concat_eq_append]⟩
  have hl:us.length=n:=by simpa using hn
  have h1:=ih us hl (j+1) λx hx=>h x (by simp[hx]);rw[show n+1+j=n+(j+1) by omega];refine .snoc _ _ _ _ _ 1 h1 (h t 0x1) ?_;exact ((Ev.v (v:=.jn tK (di j w)) (by rw[eU];exact zje hw _)).K (Ev.v (h t 0x1))).to 0x0
def dw.trans{p w v:Tr}{ts us:List Tr}{n m:Nat}(h:dw p ts n w)(k:dw w us m v):dw p (ts++us) (n+m) v:=by
 induction k with
 | nil hw=>simpa using h
 | snoc us t x v m k hk ht e ih =>
  rw[<-gW,<-Nat.add_assoc];exact .snoc _ _ _ _ _ _ ih ht e
def znc{ts:List Tr}{k:Nat}{t:Tr}(hv:∀x∈ts,val x=true)(hk:ts[k]? = some t):dw (bL k ts.length) ts (k+Es (ts.length - 1 - k)+(ts.length - 1 - k)) t:=by
 have hl:=(gf.mp hk).1;have ht:val t=true:=hv t (gZ hk);have e:ts=ts.take k++[t]++ts.drop (k+1):=by
  rw[gW];have h1:ts.drop k=t::ts.drop (k+1):=by
   rw[mQ hl];rw[gK hl]at hk;cases hk;rfl
  rw[List.singleton_append,<-h1,List.take_append_drop]
 have l1:(ts.take k).length=k:=by rw[kJ];omega
 have l2:(ts.drop (k+1)).length=ts.length - 1 - k:=by rw[mO];omega
 have a1:=zm3 (zpe (ts.length - 1 - k)) (ts.take k) 0 λx hx=>hv x (m_ hx);have a2:=zm3 ht (ts.drop (k+1)) 0 λx hx=>hv x (nj hx);rw[l1,nq]at a1;rw[l2,nq]at a2;have a3:dw (bL k ts.length) (ts.take k++[t]) (k+Es (ts.length - 1 - k)) (di (ts.length - 1 - k) t):=.snoc _ _ _ _ _ _ a1 ht (Nh ht _);have:=a3.trans a2;rw[<-e]at this;exact this
theorem Jg:∀m,Es m<=2*m+2
 | 0=>by decide
 | 1=>by decide
 | m+2=>by have:=Jg (m+1);rw[Es];omega
theorem zoz(v:Tr):∀n,dp (di n v)=dp v+n
 | 0=>rfl
 | n+1=>by
  rw[di,dp,zoz v n];have:dp tK=0:=rfl;omega
theorem yr:∀m,dp (wg m)<=m+2
 | 0=>by decide
 | 1=>by decide
 | m+2=>by
  have:=yr (m+1);rw[wg,dp];have e:dp (.jn tS (.jn tK tK))=2:=rfl;rw[e];omega
end Tr
end M
namespace M
open Tr
open Classical in
theorem zpk:∀(t u:Tr),jm (enc t) (enc u)=decide (t=u)
 | .lf a,.lf b=>by
  rw[enc,enc,jm,mD];simp
 | .lf a,.jn l r=>by rw[enc,enc];simp[jm]
 | .jn l r,.lf a=>by rw[enc,enc];simp[jm]
 | .jn l r,.jn l' r'=>by
  have h1:=zpk l l';have h2:=zpk r r';rw[enc,enc,jm,j6,j6,h1,h2];by_cases e1:l=l'
  ·by_cases e2:r=r'
   ·subst e1 e2;simp[jm,j6]
   ·have:(Tr.jn l r=.jn l' r')=False:=by simp[e2]
    simp[e2]
  ·simp[e1]
open Classical in
def zos(t u:Tr)(st:ak)(h:dp t<800):ig 800 (enc t) (enc u) st=.ok (.bl (decide (t=u))) st:=by
 have hc:=zr3 (enc t) (enc u);rw[R8]at hc;have hr:j5 800 (enc t) (enc u) st=some (decide (t=u)):=by
  have h1:=zis t;have h2:=zis u;have h3:=zpk t u;rw[<-h3];have h4:dJ (enc t) (enc u)<800:=by omega
  cases t<;>cases u<;>(rw[enc,enc]at *;simp only[j5];rw[ae7 ⟨h1,h2,h4⟩])
 unfold ig;rw[hr]
end M
namespace M
open L2
end M
namespace M
open PySem PySem.Spec L2
section
variable  {X:Cx}
end
end M
namespace M
open L2
noncomputable def valN(kvs:List (Key×D))(k:Key):Option D:=(kvs.find? λkv=>decide (kv.1=k)).map (·.2)
def ZD(p:Key×D)(r:List (Key×D))(k:Key):valN (p::r) k=if p.1=k then some p.2 else valN r k:=by
 unfold valN;rw[m7];by_cases h:p.1=k
 ·simp[h]
 ·simp[h]
noncomputable def putN(kvs:List (Key×D))(k:Key)(d:D):List (Key×D) :=
 if (kvs.any λkv=>decide (kv.1=k))=true then kvs.map (λkv=>if kv.1=k then (kv.1,d) else kv) else kvs++[(k,d)]
noncomputable def jY(kvs more:List (Key×D)):List (Key×D):=more.foldl (λacc kv=>putN acc kv.1 kv.2) kvs
noncomputable def dkE:ME:=λ_ st=>.ok 0x3 (st++[.dkc []])
noncomputable def zj:D->List D->ak->R D
 | .loc n,[k,d],st=>match st[n]?,keyOf k with
  | some (.dkc kvs),some kk=>.ok ((valN kvs kk).getD d) st
  | _,_=>.bad
 | _,_,_=>.bad
noncomputable def lK:D->D->D->ak->R Unit
 | .loc n,k,d,st=>match st[n]?,keyOf k with
  | some (.dkc kvs),some kk=>if kvs.length<1000000 then .ok () (st.set n (.dkc (putN kvs kk d))) else .bad
  | _,_=>.bad
 | _,_,_,_=>.bad
noncomputable abbrev TV:=aK->ak->R (List (D×D))
noncomputable def iR:TV:=λ_ st=>.ok [] st
noncomputable def cR(a b:ME)(r:TV):TV:=λenv st=>(a env st).bind λx st1=>(b env st1).bind λy st2=>(r env st2).bind λps ie=>.ok ((x,y)::ps) ie
noncomputable def vD:List (D×D)->Option (List (Key×D))
 | []=>some []
 | (k,d)::r=>match keyOf k,vD r with | some kk,some l=>some ((kk,d)::l) | _,_=>none
noncomputable def fY(m:TV):ME:=λenv st=>(m env (st++[.dkc []])).bind λps st1=>match vD ps,st1[st.length]? with
 | some kvs,some (.dkc [])=>if kvs.length<=15 then .ok 0x3 (st1.set st.length (.dkc (jY [] kvs))) else .bad
 | _,_=>.bad
@[simp] def P_(env:aK)(st:ak):iR env st=.ok [] st:=eY rfl
@[simp] def ztk(a b:ME)(r:TV)(env:aK)(st:ak):cR a b r env st=(a env st).bind λx st1=>(b env st1).bind λy st2=>(r env st2).bind λps ie=>.ok ((x,y)::ps) ie:=eY rfl
end M
namespace M
open PySem PySem.Spec L2
section
variable  {X:Cx}{K:PySem.W.Frag}{μ:List Addr}{H:Hp}
theorem aH.valN:∀{kvs:List (Key×D)} {ws:List (Key×V)},aH K μ H kvs ws ->
  (M.valN kvs k=none/\i_ ws k=none)\/∃d v,M.valN kvs k=some d/\i_ ws k=some v/\aq K μ H d v
 | [],ws,h=>.inl ⟨rfl,by rw[aH]at h;rw[h];rfl⟩
 | (j,d)::r,ws,h=>by
  obtain⟨v,r',rfl,h1,h2⟩:=h;rw[ZD];by_cases e:j=k
  ·rw[ae7 e];exact .inr ⟨d,v,rfl,ziq (p:=(j,v)) e,h1⟩
  ·rw[ae8 e,zjf (p:=(j,v)) e];exact aH.valN h2
theorem aH.ab8:∀{kvs:List (Key×D)} {ws:List (Key×V)},aH K μ H kvs ws->(kvs.any λkv=>decide (kv.1=k))=(ws.any λkv=>decide (kv.1=k))
 | [],ws,h=>by rw[aH]at h;rw[h];rfl
 | (j,d)::r,ws,h=>by
  obtain⟨v,r',rfl,h1,h2⟩:=h;rw[mR,mR,aH.ab8 h2]
theorem aH.Il(hv:aq K μ H d v):∀{kvs:List (Key×D)} {ws:List (Key×V)},aH K μ H kvs ws->aH K μ H (kvs.map λkv=>if kv.1=k then (kv.1,d) else kv) (ws.map λkv=>if kv.1=k then (kv.1,v) else kv)
 | [],ws,h=>by rw[aH]at h;subst h;exact rfl
 | (j,d')::r,ws,h=>by
  obtain⟨v',r',rfl,h1,h2⟩:=h;rw[gq,gq];by_cases e:j=k
  ·rw[ae7 e,ae7 e];exact⟨v,_,rfl,hv,aH.Il hv h2⟩
  ·rw[ae8 e,ae8 e];exact⟨v',_,rfl,h1,aH.Il hv h2⟩
theorem aH.Ud:∀{kvs:List (Key×D)} {ws:List (Key×V)},aH K μ H kvs ws->aq K μ H d v->aH K μ H (kvs++[(k,d)]) (ws++[(k,v)])
 | [],ws,h,hv=>by rw[aH]at h;subst h;exact⟨v,[],rfl,hv,rfl⟩
 | (j,d')::r,ws,h,hv=>by
  obtain⟨v',r',rfl,h1,h2⟩:=h;exact⟨v',r'++[(k,v)],rfl,h1,aH.Ud h2 hv⟩
def aH.putN(h:aH K μ H kvs ws)(hv:aq K μ H d v):aH K μ H (M.putN kvs k d) (putK ws k v):=by
 unfold M.putN putK;rw[h.ab8]
 split
 ·exact aH.Il hv h
 ·exact h.Ud hv
theorem aH.jY:∀{more:List (Key×D)} {ms:List (Key×V)} {kvs:List (Key×D)} {ws:List (Key×V)},aH K μ H more ms->aH K μ H kvs ws->aH K μ H (M.jY kvs more) (jZ ws ms)
 | [],ms,kvs,ws,h,k=>by rw[aH]at h;subst h;exact k
 | (j,d)::r,ms,kvs,ws,h,k=>by
  obtain⟨v,r',rfl,h1,h2⟩:=h;show aH K μ H (M.jY (M.putN kvs j d) r) (jZ (putK ws j v) r');exact aH.jY h2 (k.putN h1)
def aU.dkc{st:ak}{n:Nat}{kvs:List (Key×D)}(h:aU K μ H st)(e:st[n]? = some (.dkc kvs)):∃p ws,μ[n]? = some p/\H p=some (.dK ws)/\aH K μ H kvs ws:=by
 obtain⟨p,h1,xs,h2,h3⟩:=h.at_ n _ e;exact⟨p,xs,h1,h2,h3⟩
def aq.key(h:aq K μ H d v)(e:keyOf d=some k):v=kV k:=by
 cases d with
 | int i=>rw[aq.aN]at h;cases e;exact h
 | str cs=>rw[aq.aP]at h;cases e;exact h
 | _=>cases e
end
section
variable  {X:Cx}{a b o i:Expr}{ma mb:ME}{pos:Pos}
def Kz:JE X (.Dict [] [] pos) dkE:=by
 refine JE.of Jr fun σ H Q zz=>?_;show 1;refine λp hn=>?_;have hr:fZ X.K (μ++[p]) (upd H p (.dK [])) p (.dkc []):=⟨[],qT,rfl⟩;exact hp _ _ (μ++[p]) (a_.new hn) (hs.new hn hr) (aq.aL.mpr ⟨p,by rw[<-hs.len];simp,rfl⟩)
def zr5(hu:X.A.units+1<cLine):sX X "dict.get" (G_ X zj):=by
 rintro pins s σ H x xs v us Q I rx Ei ⟨μ,st,d,ds,hs,hx,j4,hp⟩;unfold zj at hp
 split at hp
 ·rename_i n k dd
  split at hp
  ·rename_i kvs kk e1 e2;show 19;obtain⟨y,z,rfl,q2,q5⟩:=ao.two j4;obtain rfl:=q2.key e2;obtain⟨p',ws,r1,r2,r3⟩:=hs.dkc e1;show 7;cases Ei with
   | cons ry rr =>
    cases rr with
    | cons rz rr =>
     cases rr;obtain rfl:v=Value.ref p:=rx;refine YW hu I (qO.k r2) ry rz λw' s' I' z_=>⟨_,H,I',z_,?_⟩;rcases r3.valN (k:=kk) with⟨z1,z2⟩ | ⟨d',v',z1,z2,z3⟩
     ·rw[z1]at hp;rw[z2];exact hp.ret hs q5
     ·rw[z1]at hp;rw[z2];exact hp.ret hs z3
  ·exact hp.elim
 ·exact hp.elim
def aaK(hu:X.A.units+1<cLine):xj X (BJ X lK):=by
 rintro pins s σ H o i v ov iv u Q I ro ri rv ⟨μ,st,d1,d2,d3,hs,h1,h2,h3,hp⟩;unfold lK at hp
 split at hp
 ·rename_i n k d
  split at hp
  ·rename_i kvs kk e1 e2
   split at hp
   ·rename_i hl;obtain⟨p,q1,rfl⟩:=aq.aL.mp h1;obtain rfl:=h2.key e2;obtain⟨p',ws,r1,r2,r3⟩:=hs.dkc e1;show 7;obtain rfl:ov=Value.ref p:=ro;refine zo2 hu I (Bd.k r2 (by rw[<-r3.len];exact gR hl 0x5)) ri rv λs' I'=>⟨_,I',?_⟩;have g:Ext H (upd H p (.dK (putK ws kk v))):=Ext.mut r2 (λ_ z=>nomatch z) (λ_ _ z=>nomatch z);have g':a_ μ H μ (upd H p (.dK (putK ws kk v))):=⟨⟨[],by simp⟩,g⟩;exact hp () _ μ g' (hs.put e1 rfl rfl q1 g ⟨_,qT,(r3.putN h3).mono g'⟩) trivial
   ·exact hp.elim
  ·exact hp.elim
 ·exact hp.elim
def zG(K:PySem.W.Frag)(μ:List Addr)(H:Hp):List (D×D)->List (V×V)->Prop
 | [],vs=>vs=[]
 | (k,d)::r,vs=>∃u v s,vs=(u,v)::s/\aq K μ H k u/\aq K μ H d v/\zG K μ H r s
theorem zG.keys{K:PySem.W.Frag}{μ:List Addr}{H:Hp}:∀{ps:List (D×D)} {vs:List (V×V)} {kvs:List (Key×D)},zG K μ H ps vs->vD ps=some kvs->∃ws:List (Key×V),vs=ws.map (λkv=>(kV kv.1,kv.2))/\aH K μ H kvs ws
 | [],vs,kvs,h,e=>by cases e;cases h;exact⟨[],rfl,rfl⟩
 | (k,d)::r,vs,kvs,h,e=>by
  obtain⟨u,v,s,rfl,h1,h2,h3⟩:=h;unfold vD at e
  split at e
  ·rename_i kk l e1 e2;cases e;obtain⟨ws,rfl,q⟩:=zG.keys h3 e2;obtain rfl:=h1.key e1;exact⟨(kk,v)::ws,rfl,v,ws,rfl,h2,q⟩
  ·cases e
noncomputable abbrev Ug(X:Cx):Rel (List (D×D)) (List (V×V)):=fun μ H d v=>zG X.K μ H d v
def JPs(X:Cx)(pos:Pos)(keys:List (Option Expr))(values:List Expr)(m:TV):Prop :=
 ∃z8,PPs X pos keys values z8/\∀(σ:L2.St) (H:Hp) (Q:List (V×V)->Hp->Prop) (μ:List Addr) (env:aK) (st:ak),dU X.K μ H env σ->aU X.K μ H st->bR X μ H (Ug X) Q (m env st)->xP z8 σ H Q
def Cp:JPs X pos [] [] iR:=⟨[],Qm,fun σ H Q μ env st hE hs hp=>hp.ret hs rfl⟩
def zof{k v:Expr}{ks:List (Option Expr)}{vs:List Expr}{mk mv:ME}{r:TV}(hk:JE X k mk)(hv:JE X v mv)(hr:JPs X pos ks vs r):JPs X pos (some k::ks) (v::vs) (cR mk mv r):=by
 obtain⟨z8,hp,hq⟩:=hr;refine⟨(tM X mk,tM X mv)::z8,Je hk hv hp,fun σ H Q μ env st hE hs h=>?_⟩;refine⟨μ,env,st,hE,hs,(bR.bind h).imp ?_⟩;rintro x H1 ⟨μ1,st1,d1,g1,bG,h1,p1⟩;refine⟨μ1,env,st1,hE.mono g1,bG,(bR.bind p1).imp ?_⟩;rintro y H2 ⟨μ2,st2,d2,g2,iJ,h2,p2⟩;refine hq σ H2 _ μ2 env st2 ((hE.mono g1).mono g2) iJ ((bR.bind p2).imp ?_);rintro ps H3 ⟨μ3,ie,d3,g3,yZ,h3,p3⟩;exact p3.ret yZ ⟨x,y,ps,rfl,(h1.mono g2 _).mono g3 _,h2.mono g3 _,h3⟩
def Cu{keys:List (Option Expr)}{values:List Expr}{m:TV}(h:JPs X pos keys values m)(uT:keys.all (·.isSome)=true:=by rfl)(hl:keys.length=values.length:=by rfl)(h0:keys≠[]:=by exact λz=>nomatch z)(h15:keys.length<=15:=by decide):JE X (.Dict keys values pos) (fY m):=by
 obtain⟨z8,hp,hq⟩:=h;refine JE.of (QC hp uT hl h0 h15) fun σ H Q zz=>?_;obtain⟨μ,env,st,hE,hs,hP⟩:=zz;refine λp hn=>?_;have hr:fZ X.K (μ++[p]) (upd H p (.dK [])) p (.dkc []):=⟨[],qT,rfl⟩;have bG:=hs.new hn hr;have g0:a_ μ H (μ++[p]) (upd H p (.dK [])):=a_.new hn;refine hq σ _ _ (μ++[p]) env (st++[.dkc []]) (hE.mono g0) bG ?_;have hP1:=bR.mono g0 hP;refine (bR.bind (rel:=Ug X) hP1).imp ?_;rintro ps H2 ⟨μ2,st2,d2,g2,iJ,h2,p2⟩;dsimp only at p2
 split at p2
 ·rename_i kvs e1 e2
  split at p2
  ·rename_i ad4;have hmu:(μ++[p])[st.length]? = some p:=by rw[<-hs.len];simp
   have hm2:=g2.get hmu;obtain⟨p',ws0,r1,r2,r3⟩:=iJ.dkc e2;rw[hm2]at r1;cases r1;rw[aH]at r3;subst r3;obtain⟨ws,rfl,q⟩:=h2.keys e1;refine⟨r2,ws,rfl,by rw[<-q.len];exact ad4,?_⟩;have g:Ext H2 (upd H2 p (.dK (jZ [] ws))):=Ext.mut r2 (λ_ z=>nomatch z) (λ_ _ z=>nomatch z);have g':a_ μ2 H2 μ2 (upd H2 p (.dK (jZ [] ws))):=⟨⟨[],by simp⟩,g⟩;exact p2 _ _ μ2 g' (iJ.put e2 rfl rfl hm2 g ⟨_,qT,(q.jY (show aH X.K μ2 H2 [] [] from rfl)).mono g'⟩) (aq.aL.mpr ⟨p,hm2,rfl⟩)
  ·exact p2.elim
 ·exact p2.elim
end
end M
namespace M
open PySem PySem.Spec PySem.SeqAt L2
end M
namespace L2
open PySem PySem.Spec PyProof.Rows
def Rf(h:(bK P w).is k u=true):RelV (kV k) u:=by
 rw[zth]at h;rcases Nx h with⟨i,t,rfl,rfl⟩ | ⟨x,t,rfl,rfl⟩
 ·exact⟨t,rfl⟩
 ·exact⟨t,rfl⟩
theorem zt4:∀{aeZ:List α} {aeY:List β},Paired F aeZ aeY->∀(i:Nat) (a:α) (b:β),aeZ[i]? = some a->aeY[i]? = some b->F a b
 | _,_,.nil,i,a,b,h,_=>by simp at h
 | _,_,.cons r t,0,a,b,h1,h2=>by simp at h1 h2;subst h1;subst h2;exact r
 | _,_,.cons r t,i+1,a,b,h1,h2=>zt4 t i a b (by simpa using h1) (by simpa using h2)
noncomputable def Itk(d:Addr)(o:Obj)(kvs:List (Key×V)):It :=
 ⟨λi H=>i<kvs.length/\H d=some (.frz o (.dK kvs)),λi H y H'=>H'=H/\∃p,kvs[i]? = some p/\y=kV p.1,λi H=>kvs.length<=i/\H d=some (.frz o (.dK kvs))⟩
def CW(I:Inv X pins σ H s)(ho:o.data=.dict es ep)(e:H d=some (.frz o (.dK kvs))) :
  (d==sysModules)=false/\∃vs,KV kvs vs/\s.heap.DictAt (bK X.prog X.w) d vs ep:=by
 obtain⟨h1,z,hd,vs,rel,o',es',ep',h2,h3,h4,h5⟩:=(show cA X.prog X.w H s.heap d (.frz o (.dK kvs)) from I.bQ d _ e);rw[h1]at h2;cases h2;rw[ho]at h4;cases h4;exact⟨hd,vs,rel,o,es,h1,h3,ho,h5⟩
def O7{P:Program}{w:World}{K:PySem.W.Frag}{tg:Expr}(it d:Addr)(o:Obj)(es:Array DictEntry)(ep:Nat)(ho:o.data=.dict es ep)(kvs:List (Key×V)):Turn P w K tg (Itk d o kvs) [it] it (λi h=>h.IsKeyIter it d i kvs.length ep) where
 mem:=by simp
 obj:=λi h st b hb=>by
  have e:b=it:=by simpa using hb
  show 15
 keep:=λi h h' st k=>by
  obtain⟨o,e,c,d⟩:=st;exact⟨o,k it 0x1 o e,c,d⟩
 item:=by
  show 2;show 6;obtain⟨hi,e⟩:=hg;obtain⟨hd,vs,rel,da⟩:=CW I ho e;have hl:kvs.length=vs.length:=afr rel;obtain⟨q,hq⟩:∃q,vs[i]? = some q:=⟨_,gK 0x0⟩;obtain⟨p,hp⟩:∃p,kvs[i]? = some p:=⟨_,gK hi⟩;have hk:p.1=q.1:=(zt4 rel i p q hp hq).1;rw[hl]at st;refine wpAny_pyNext_dict_item (k:=q.1) (v:=q.2) st da hq λkey h' ik st' sb=>?_;show 9;obtain⟨o1,e1,c1,d1⟩:=id st';rw[<-hl]at st';exact⟨_,rfl,ug (s:={ s with heap:=h' }) e1 c1 d1 0x5 ⟨kV p.1,H,I1,by rw[hk];exact Rf ik,⟨rfl,p,hp,rfl⟩,st',λb hb=>(hf b hb).1⟩⟩
 done:=by
  show 2;show 6;obtain⟨hi,e⟩:=hg;obtain⟨hd,vs,rel,da⟩:=CW I ho e;have hl:kvs.length=vs.length:=afr rel;rw[hl]at st;exact wpAny_pyNext_dict_end (I.ok.hd hc) st da (List.getElem?_eq_none 0x0) λh' eb=>⟨rfl,I.turned (t':=s.toks) (λb o hb e=>eb b o hb e) f0 f1 f3 f4 f5⟩
 self:=λ_ _ _ _ _ st h=>wpAny_pyIter_keyiter st h
noncomputable def iDk(tl:TE):TI:=fun σ H R=>tl σ H λy H1=>∃a kvs,y=.ref a/\((∃o,H1 a=some (.frz o (.dK kvs))/\R (Itk a o kvs) H1)\/(H1 a=some (.dK kvs)/\∀o,R (Itk a o kvs) (upd H1 a (.frz o (.dK kvs)))))
def aa5{X:Cx}{tg l:Expr}{tl:TE}(hl:PE X l tl):PI X tg l (iDk tl):=by
 intro pins s σ H R I h;refine cO (hl pins s σ H _ I h) λv s1 zz=>?_;obtain⟨y,H1,I1,r1,q1⟩:=zz;obtain⟨a,kvs,rfl,q⟩:=q1;cases (show v=Value.ref a from r1);have key:∀(H2:Hp) (o:Obj),Inv X pins σ H2 s1->H2 a=some (.frz o (.dK kvs))->R (Itk a o kvs) H2->wpAny 0x7 X.A (pyIter (.ref a)) (PIE X pins σ tg R) X.xe s1:=λH2 o I2 e2 r2=>by
  obtain⟨h1,z,hd,vs,rel,o',es,ep,h2,h3,h4,h5⟩:=(show cA X.prog X.w H2 s1.heap a (.frz o (.dK kvs)) from I2.bQ a _ e2);rw[h1]at h2;cases h2;have hl:kvs.length=vs.length:=afr rel;refine wpAny_pyIter_dict (knd:=bK X.prog X.w) (kvs:=vs) (ep:=ep) hd ⟨o,es,h1,h3,h4,h5⟩ ?_;refine⟨s1.heap.objs.size,[s1.heap.objs.size],_,_,H2,rfl,I2.kept (t':=s1.toks) λb u e=>gF _ e,O7 _ a o es ep h4 kvs,⟨_,g_ _ rfl,rfl,by rw[hl];rfl⟩,λb hb=>?_,r2⟩;have e:b=s1.heap.objs.size:=by simpa using hb
  subst e;exact I2.vN (gb _) (I2.bQ.fresh (gb _))
 rcases q with⟨o,e,r⟩ | ⟨e,r⟩
 ·exact key H1 o I1 e r
 ·obtain⟨z,hd,vs,rel,o,es,ep,h2,h3⟩:=(show cA X.prog X.w H1 s1.heap a (.dK kvs) from I1.bQ a _ e);have new:cA X.prog X.w (upd H1 a (.frz o (.dK kvs))) s1.heap a (.frz o (.dK kvs)):=⟨h2,z,hd,vs,rel,o,es,ep,h2,h3⟩;exact key (upd H1 a (.frz o (.dK kvs))) o (I1.write (x:=a) (e:=a) (t':=s1.toks) (h':=s1.heap) (by rw[e];trivial) (.inl rfl) (λb u _ z=>z) ⟨o,h2⟩ new) qT (r o)
end L2
namespace M
open PySem PySem.Spec L2
noncomputable def yg:Key->D
 | .inl i=>.int i
 | .inr x=>.str x.cps.toList
noncomputable def U5(m:ME):MI:=λenv st=>(m env st).bind λd st1=>match d with
 | .loc n=>(match st1[n]? with
  | some (.dkc kvs)=>.ok (kvs.map (λp=>yg p.1),[]) (st1.set n (.dkf kvs))
  | some (.dkf kvs)=>.ok (kvs.map (λp=>yg p.1),[]) st1
  | _=>.bad)
 | _=>.bad
noncomputable def wj:D->D->ak->R D
 | .loc n,k,st=>match st[n]?,keyOf k with
  | some (.dkc kvs),some kk=>(match valN kvs kk with | some d=>.ok d st | none=>.bad)
  | some (.dkf kvs),some kk=>(match valN kvs kk with | some d=>.ok d st | none=>.bad)
  | _,_=>.bad
 | _,_,_=>.bad
section
variable  {X:Cx}{tg l a b:Expr}{ml ma mb:ME}{μ:List Addr}{H:Hp}{K:PySem.W.Frag}{st:ak}{pos:Pos}
def aq.yg(k:Key):aq K μ H (M.yg k) (kV k):=by
 cases k with
 | inl i=>exact aq.aN.mpr rfl
 | inr x=>exact aq.aP.mpr (by show V.str x=V.str (strOf x.cps.toList);simp[strOf])
theorem aH.Up:∀{kvs:List (Key×D)} {ws:List (Key×V)},aH K μ H kvs ws->kvs.length=ws.length/\∀(i:Nat) (p:Key×D) (q:Key×V),kvs[i]? = some p->ws[i]? = some q->p.1=q.1
 | [],_,h=>by cases h;exact⟨rfl,λi p q h1=>by simp at h1⟩
 | (k,d)::r,_,⟨v,s,rfl,h1,h2⟩=>by
  obtain⟨l,hk⟩:=aH.Up h2;refine⟨by simp[l],λi p q e1 e2=>?_⟩;cases i with
  | zero=>simp at e1 e2;subst e1;subst e2;rfl
  | succ i=>exact hk i p q (by simpa using e1) (by simpa using e2)
def Cz{a:Addr}{o:Obj}{kvs:List (Key×D)}{ws:List (Key×V)}(e:H a=some (.frz o (.dK ws)))(h:aH X.K μ H kvs ws):oE X μ H (Itk a o ws) (kvs.map (λp=>M.yg p.1),[]):=by
 intro H' μ' st' g hs ok;obtain⟨hl,hk⟩:=h.Up;have e':=g.ext.frz _ _ _ e;refine⟨λi d ed=>?_,⟨by simp[hl],e'⟩⟩;rw[gO]at ed;obtain⟨p,e1,rfl⟩:=nA.mp ed;have hi:=(gf.mp e1).1;refine⟨⟨by omega,e'⟩,?_⟩;rintro x Dn ⟨rfl,q,hq,rfl⟩;refine⟨.refl _ _,hs,?_⟩;rw[hk i p q e1 hq];exact aq.yg _
def aU.iy{n:Nat}{mo Ul:MO}{a:Addr}{o':HO}(h:aU K μ H st)(hn:st[n]? = some mo)(hm:mo.mut=true)(ha:μ[n]? = some a)(g:Ext H (upd H a o'))(new:fZ K μ (upd H a o') a Ul):aU K μ (upd H a o') (st.set n Ul):=by
 have hl:=(gf.mp hn).1;refine⟨by simp[h.len],λk ok e=>?_,λi j b oi oj ei ej mi mj hi hj=>?_⟩
 ·by_cases hk:n=k
  ·subst hk;rw[k_ hl]at e;cases e;exact⟨a,ha,new⟩
  ·rw[gU hk]at e;obtain⟨b,h1,h2⟩:=h.at_ k ok e;refine⟨b,h1,h2.keep ⟨⟨[],by simp⟩,g⟩ λhmk u q=>?_⟩;rw[iK (λe2=>?_)]
   ·exact q
   ·subst e2;exact hk (h.uniq n k b mo ok hn e hm hmk ha h1)
 ·have key:∀(k:Nat) (ok:MO),(st.set n Ul)[k]? = some ok->ok.mut=true->∃ok',st[k]? = some ok'/\ok'.mut=true:=λk ok ek mk=>by
   by_cases hk:n=k
   ·subst hk;exact⟨mo,hn,hm⟩
   ·rw[gU hk]at ek;exact⟨ok,ek,mk⟩
  obtain⟨oi',ei',mi'⟩:=key i oi ei mi;obtain⟨oj',ej',mj'⟩:=key j oj ej mj;exact h.uniq i j b oi' oj' ei' ej' mi' mj' hi hj
def abp(hl:JE X l ml):JI X tg l (U5 ml):=by
 refine JI.of (aa5 hl) fun σ H R zz=>?_;show 1;show 3;rintro v H1 ⟨μ1,st1,d,g1,bG,hv,aR⟩;dsimp only at aR
 split at aR
 ·rename_i n;obtain⟨a,q1,rfl⟩:=aq.aL.mp hv
  split at aR
  ·rename_i kvs e1;obtain⟨a',ws,r1,r2,r3⟩:=bG.dkc e1;show 7;refine⟨a,ws,rfl,.inr ⟨r2,λo=>?_⟩⟩;have g:Ext H1 (upd H1 a (.frz o (.dK ws))):=Ext.mut r2 (λ_ z=>nomatch z) (λ_ _ z=>nomatch z);have g':a_ μ1 H1 μ1 (upd H1 a (.frz o (.dK ws))):=⟨⟨[],by simp⟩,g⟩;exact aR _ _ μ1 g' (bG.iy e1 rfl q1 g ⟨ws,o,qT,r3.mono g'⟩) (Cz qT (r3.mono g'))
  ·rename_i kvs e1;obtain⟨a',r1,ws,o,r2,r3⟩:=bG.at_ n _ e1;show 7;exact⟨a,ws,rfl,.inl ⟨o,r2,aR _ _ _ (.refl _ _) bG (Cz r2 r3)⟩⟩
  ·exact aR.elim
 ·exact aR.elim
def XF(hu:X.A.units+1<cLine)(ha:JE X a ma)(hb:JE X b mb)(hs:Y_ b:=by exact λ_ _=>rfl):JE X (.Subscript a b pos) (aF wj ma mb):=by
 refine JE.of (QD hu ha hb hs) fun σ H Q h=>?_;obtain⟨μ,env,st,hE,hs,hp⟩:=ztv h;refine⟨μ,env,st,hE,hs,hp.imp ?_⟩;rintro x H1 ⟨μ1,env1,st1,hE1,bG,aR⟩;refine⟨μ1,env1,st1,hE1,bG,aR.imp ?_⟩;rintro y H2 ⟨μ2,st2,dx,dy,iJ,hx,hy,dX⟩;unfold wj at dX
 split at dX
 ·rename_i n k
  split at dX
  ·rename_i kvs kk e1 e2;show 19;obtain rfl:=hy.key e2;obtain⟨p',ws,r1,r2,r3⟩:=iJ.dkc e1;show 7;rcases r3.valN (k:=kk) with⟨z1,z2⟩ | ⟨d',v',z1,z2,z3⟩
   ·rw[z1]at dX;exact dX.elim
   ·rw[z1]at dX;exact⟨p,v',rfl,by rw[<-z2];exact qO.k r2,dX.ret iJ z3⟩
  ·rename_i kvs kk e1 e2;show 19;obtain rfl:=hy.key e2;obtain⟨p',r1,ws,o,r2,r3⟩:=iJ.at_ _ _ e1;show 7;rcases r3.valN (k:=kk) with⟨z1,z2⟩ | ⟨d',v',z1,z2,z3⟩
   ·rw[z1]at dX;exact dX.elim
   ·rw[z1]at dX;exact⟨p,v',rfl,.inl ⟨ws,kk,.inr ⟨o,r2⟩,rfl,z2.symm⟩,dX.ret iJ z3⟩
  ·exact dX.elim
 ·exact dX.elim
end
end M
namespace L2
open PySem PySem.Spec PyProof.Rows
end L2
namespace M
open PySem PySem.Spec L2
noncomputable def adK(tb:List (List Nat×D)):List (Key×D):=tb.map λp=>(Sum.inr (strOf p.1),p.2)
structure aeJ(w:World)(K:PySem.W.Frag)(a:Addr)(tb:List (List Nat×D)):Prop where
 low:(a==sysModules)=false
 at_:∀P:Program,∃(kvs:List (Key×V)) (vs:List (Key×Value)) (ep:Nat),(∀μ H,aH K μ H (adK tb) kvs)/\KV kvs vs/\∀h:Heap,K.In h->h.DictAt (bK P w) a vs ep
inductive Rws (K:PySem.W.Frag) (w:World):List DictEntry->List (List Nat×D)->Prop
 | nil:Rws K w [] []
 | i {h:Int} {x:Str} {t u:Tok} {cs:List Nat} {n:Int} {es:List DictEntry} {tb:List (List Nat×D)} (hx:x=strOf cs) (hh:h=abn w (.inr x)) (r:Rws K w es tb):Rws K w (⟨h,.str x t,.int n u⟩::es) ((cs,.int n)::tb)
section
variable  {X:Cx}{tg b:Expr}{mb:ME}{pos pos':Pos}{x:Str}{tb:List (List Nat×D)}
end
end M
namespace M
open PySem PySem.Spec PySem.SeqAt L2
noncomputable def uo:List D->ak->R D
 | [.loc n],st=>match st[n]? with | some (.dkc kvs)=>.ok 0x3 (st++[.dkc kvs]) | _=>.bad
 | _,_=>.bad
section
variable  {X:Cx}{L:Nat}
def zt8:cL X (.type "dict") (NT X uo):=by
 rintro pins s σ H xs us Q I rv ⟨μ,st,ds,hs,hv,hp⟩;unfold uo at hp
 split at hp
 ·rename_i n
  split at hp
  ·rename_i kvs e;show 13;obtain⟨u,rfl,ru⟩:=rv.one;cases ru;obtain⟨p',ws,r1,r2,r3⟩:=hs.dkc e;show 7;refine Mm I (.inl r2) λl s' hn I'=>⟨.ref l,_,I',rfl,?_⟩;have g:=a_.new (μ:=μ) (o:=.dK ws) hn;have hr:fZ X.K (μ++[l]) (upd H l (.dK ws)) l (.dkc kvs):=⟨ws,qT,r3.mono g⟩;exact hp _ _ (μ++[l]) g (hs.new hn hr) (aq.aL.mpr ⟨l,by rw[<-hs.len];simp,rfl⟩)
  ·exact hp.elim
 ·exact hp.elim
end
end M
namespace M
open PySem PySem.Spec L2
section
variable  {X:Cx}{b:Expr}{mb:ME}{x:Str}{tb:List (List Nat×D)}{dH apos pos':Pos}
end
end M
namespace L2
open PySem PySem.Spec PyProof.Rows
section
variable  {prog:Program}{w:World}{A:Around}{E:Value->Shared->Prop}{s:Shared}{d:Addr}{o:Obj}{es:Array DictEntry}{ep:Nat}
def zmh(hd:(d==sysModules)=false):MeetsIn prog w (Builtin.«dict.__len__» ⟨[.ref d],[]⟩) (λ_ R s=>∃o es ep,s.heap.get? d=some o/\o.data=.dict es ep/\R (.ok (.ret (.int es.size s.toks))) { s with toks:=s.toks+1 }) :=
 .of_wp λA R s zz=>by
  obtain⟨o,es,ep,ho,YB,h⟩:=zz;show wpAny _ _ (dictSize d >>= _) _ _ s;unfold dictSize;refine ae6 (ae6 (wpAny_dictEntries ho YB (ae9 ?_)));show wpAny _ _ (Builtin.Dict.pendingCount d >>= _) _ _ s;refine ae6 (wpAny_pendingCount_other hd ?_);refine wpAny_ret_mkInt ?_;simpa using h
def Q_(hd:(d==sysModules)=false)(ho:s.heap.get? d=some o)(hx:o.ExactDict)(YB:o.data=.dict es ep)(aeQ:(es.size:Int)<2 ^ 63) 
  (h:Q (.int es.size (s.toks+1)) { s with toks:=s.toks+1+1 }):wpAny 0xa A (call (.builtin "len") [.ref d]) Q E s:=by
 have hT:s.TypeIs (.ref d) "dict":=⟨o,ho,hx.1⟩;refine Calls.call_function_entry PySem.kind_len PySem.plain_len PySem.entry_len (PySem.args_len1 _) ?_;unfold Builtin.«len»;refine ae6 (m:=oneArg "len" _) (ae9 ?_);refine ae6 (m:=callSpecial? (.ref d) (Str.ofString "__len__")) (afq (name:=Str.ofString "__len__") hT F.slot_dict_len
  (afP F.slot_dict_len hT F.entry_dict_len (F.args_dict_len_1 _) (zmh hd) ⟨o,es,ep,ho,YB,?_⟩))
 show wpAny _ _ _ _ _ { s with toks:=s.toks+1 };refine ae6 (afC (ae9 ?_));refine ae6 (wpAny_letGo ?_);show wpAny _ _ (if (es.size:Int)<0 then _ else _) _ _ _;rw[ae8 0x0];show wpAny _ _ (if (es.size:Int) ≥ 2 ^ 63 then _ else _) _ _ _;rw[ae8 0x0];exact ae6 (wpAny_mkInt (ae9 ⟨_,rfl,h⟩))
end
end L2
namespace M
open PySem PySem.Spec L2
section
variable  {K:PySem.W.Frag}{μ ν:List Addr}{H H':Hp}{st st':ak}
end
noncomputable def xq(f:Str)(d:D):List (Str×D)->List (Str×D)
 | []=>[(f,d)]
 | (g,x)::r=>if g=f then (g,d)::r else (g,x)::xq f d r
noncomputable def cF(c f:Str)(m:ME):ME:=λenv st=>(m env st).bind λd st1=>match d with
 | .loc n=>(match st1[n]? with
  | some (.ins c' fs)=>if c'=c then (match fs.lookup f with | some x=>.ok x st1 | none=>.bad) else .bad
  | _=>.bad)
 | _=>.bad
noncomputable def cM(c f:Str)(mo mv:ME):MS:=λenv st=>(mv env st).bind λd st1=>(mo env st1).bind λx st2=>match x with
 | .loc n=>(match st2[n]? with
  | some (.ins c' fs)=>if c'=c/\fs.length<1000 then .ok (.nx env) (st2.set n (.ins c (xq f d fs))) else .bad
  | _=>.bad)
 | _=>.bad
noncomputable def jK(c:Str)(F:FD)(mA:MA):ME:=λenv st=>(mA env st).bind λas st1=>((F (.loc st1.length::as) (st1++[.ins c []])).sure).bind λd st2=>match d with
 | .non=>.ok (.loc st1.length) st2
 | _=>.bad
noncomputable def Ca(c m:Str)(F:FD)(mo:ME)(mA:MA):ME:=λenv st=>(mo env st).bind λx st1=>match x with
 | .loc n=>(match st1[n]? with
  | some (.ins c' fs)=>if c'=c/\fs.lookup m=none then (mA env st1).bind λas st2=>(match st2[n]? with
   | some (.ins _ _)=>(F (.loc n::as) st2).sure
   | _=>.bad) else .bad
  | _=>.bad)
 | _=>.bad
noncomputable def dj:List D->ak->R D
 | [.loc n],st=>(match st[n]? with
  | some (.dic kvs)=>.ok (.int kvs.length) st
  | some (.dkc kvs)=>.ok (.int kvs.length) st
  | _=>wU [.loc n] st)
 | ds,st=>wU ds st
section
variable  {X:Cx}{K:PySem.W.Frag}{μ:List Addr}{H:Hp}{e o a b value:Expr}{es:List Expr}{me mo mv ma mb:ME}{mA:MA}{pos pos' apos p:Pos}{c f m x:Str}{C g:Addr}{F:FD}{fd:FuncData}{ps:List Str}{k:Nat}
theorem aH.look:∀{fs:List (Str×D)} {ws:List (Str×V)},aH K μ H fs ws->(fs.lookup f=none/\ws.lookup f=none)\/∃d v,fs.lookup f=some d/\ws.lookup f=some v/\aq K μ H d v
 | [],ws,h=>by rw[aH]at h;subst h;exact .inl ⟨rfl,rfl⟩
 | (j,d)::r,ws,h=>by
  obtain⟨v,r',rfl,h1,h2⟩:=h;by_cases q:f=j
  ·subst q;exact .inr ⟨d,v,by simp[List.lookup],by simp[List.lookup],h1⟩
  ·have q':(f==j)=false:=by simpa using q
   simp only[List.lookup,q'];exact aH.look h2
theorem aH.iy(hv:aq K μ H d v):∀{fs:List (Str×D)} {ws:List (Str×V)},aH K μ H fs ws->aH K μ H (xq f d fs) (L2.iy f v ws)
 | [],ws,h=>by rw[aH]at h;subst h;exact⟨v,[],rfl,hv,rfl⟩
 | (j,d')::r,ws,h=>by
  obtain⟨v',r',rfl,h1,h2⟩:=h;unfold xq L2.iy;by_cases q:j=f
  ·rw[ae7 q,ae7 q];exact⟨v,r',rfl,hv,h2⟩
  ·rw[ae8 q,ae8 q];exact⟨v',_,rfl,h1,aH.iy hv h2⟩
def XM(h0:PySem.W.nsIn X.K mainGlobals c=some #[9,C])(hc:Dr X.K C)(hn:iY X.K C f)(he:JE X e me)(hb:attributeBase e f X.env (eval e X.env)=eval e X.env:=by rfl):JE X (.Attribute e f pos) (cF c f me):=by
 refine JE.of (Wz he hb) fun σ H Q zz=>?_;show 1;show 3;rintro v H1 ⟨μ1,st1,d,g1,bG,hx,aR⟩;dsimp only at aR
 split at aR
 ·rename_i n
  split at aR
  ·rename_i c' fs e1
   split at aR
   ·rename_i ec;subst ec;show 19;obtain⟨p',r1,C',dx,ws,r2,r3,r4⟩:=bG.at_ n _ e1;show 7;rw[h0]at r2;cases r2;rcases r4.look (f:=f) with⟨z1,z2⟩ | ⟨d',v',z1,z2,z3⟩
    ·rw[z1]at aR;exact aR.elim
    ·rw[z1]at aR;exact⟨p,C,dx,ws,v',rfl,r3,hc,hn,z2,aR.ret bG z3⟩
   ·exact aR.elim
  ·exact aR.elim
 ·exact aR.elim
def Am(h0:PySem.W.nsIn X.K mainGlobals c=some #[9,C])(hc:Dr X.K C)(hn:iY X.K C f)(ho:JE X o mo)(hv:JE X value mv)(hs:swapsWith value (some (.Attribute o f pos')) pos.line X.env=pure false:=by rfl) :
  JS X (.Assign [.Attribute o f pos'] value pos) (cM c f mo mv):=by
 refine JS.of (Wi ho hv hs) λE σ H zz=>?_;show 1;show 30;rintro y H1 ⟨μ1,st1,d,g1,bG,hy,aR⟩;refine⟨μ1,env,st1,hE.mono g1,bG,aR.val.imp ?_⟩;rintro z H2 ⟨μ2,st2,d2,g2,iJ,hz,dX⟩
 try dsimp only at dX
 split at dX
 ·rename_i n
  split at dX
  ·rename_i c' fs e1
   split at dX
   ·rename_i ec;obtain⟨ec,hl⟩:=ec;subst ec;obtain⟨p,q1,rfl⟩:=aq.aL.mp hz;obtain⟨p',r1,C',dx,ws,r2,r3,r4⟩:=iJ.at_ n _ e1;show 7;rw[h0]at r2;cases r2;have hll:ws.length<1000:=by rw[<-r4.len];exact hl
    have gg:Ext H2 (upd H2 p (.ins C dx (L2.iy f y ws))):=Ext.mut r3 (λ_ z=>nomatch z) (λ_ _ z=>nomatch z);have g':a_ μ2 H2 μ2 (upd H2 p (.ins C dx (L2.iy f y ws))):=⟨⟨[],by simp⟩,gg⟩;refine⟨p,C,dx,ws,rfl,r3,hc,hn,hll,dX σ _ μ2 g' (iJ.put e1 rfl rfl q1 gg ⟨C,dx,_,h0,qT,(r4.iy (hy.mono g2 _)).mono g'⟩) (((hE.mono g1).mono g2).mono g')⟩
   ·exact dX.elim
  ·exact dX.elim
 ·exact dX.elim
def zug(h0:PySem.W.nsIn X.K mainGlobals c=some #[9,C])(MK:Mk X.K C g)(G:cH X.prog X.w X.K X.mg X.base qP k g fd ps (v9 X.K ps.length F))(hr:cT (k+1) X.A)(hm:X.mg c=some (.ref C))(hb:Binds X.K fd ps [])(ha:JA X (e::es) mA)
  (hlen:(e::es).length+1=ps.length:=by rfl) (hg:Gl X c:=by rfl) (rY:(c==("__debug__":Str))=false:=by decide) (he:starEach (e::es) X.env=0xb::starEach es X.env:=by rfl) (oO:#[10,pos,es].any (·.1)=false:=by rfl)
  (hA:∀env st as st1,mA env st=.ok as st1->as.length=(e::es).length:=by intros;rfl):JE X (.Call (.Name c p) (e::es) [] pos) (jK c F mA):=by
 refine JE.of (Qz MK G hr hg hm hb .nil BL ha rY he oO) fun σ H Q zz=>?_;show 1;refine⟨μ,env,st,hE,hs,?_⟩;cases hq:mA env st with
 | bad=>unfold jK at hp;rw[hq]at hp;exact hp
 | err y st1=>unfold jK at hp;rw[hq]at hp;exact hp
 | ok as st1 =>
  unfold jK at hp;rw[hq]at hp;intro vs H1 μ1 g1 bG hv x dx hx hdx lU;have RT:upd H1 dx (.own x) x=none:=by rw[iK (afi lU)];exact hx
  have ext1:Ext H1 (upd H1 dx (.own x)):=Ext.new hdx;have gd:a_ μ1 H1 μ1 (upd H1 dx (.own x)):=⟨⟨[],by simp⟩,ext1⟩;have iJ:aU X.K μ1 (upd H1 dx (.own x)) st1:=bG.lay hdx;have Yq:fZ X.K (μ1++[x]) (upd (upd H1 dx (.own x)) x (.ins C dx [])) x (.ins c []):=⟨C,dx,[],h0,qT,rfl⟩;have yZ:=iJ.new RT Yq;have gn:a_ μ1 (upd H1 dx (.own x)) (μ1++[x]) (upd (upd H1 dx (.own x)) x (.ins C dx [])):=a_.new RT;have hv3:ao X.K (μ1++[x]) (upd (upd H1 dx (.own x)) x (.ins C dx [])) (.loc st1.length::as) (.ref x::vs):=ao.cons (aq.aL.mpr ⟨x,by rw[<-bG.len];simp,rfl⟩) ((hv.mono gd _).mono gn _);have K8:(V.ref x::(vs++[])).length=ps.length:=by
   have:=hA env st as st1 hq;have:=hv.length;simp only[gw,gC]at *;omega
  rw[gw]at K8 ⊢;refine⟨K8,μ1++[x],.loc st1.length::as,st1++[.ins c []],hv3,yZ,?_⟩;cases hF:F (.loc st1.length::as) (st1++[.ins c []]) with
  | bad=>rw[R.aB,hF]at hp;exact hp.elim
  | err y st2=>rw[R.aB,hF]at hp;exact hp.elim
  | ok d st2 =>
   rw[R.aB,hF]at hp;intro v H' μ' g' oN hvd;have aea:a_ μ H μ' H':=(g1.trans gd).trans (gn.trans g');cases d with
   | non =>
    refine⟨aq.bJ.mp hvd,hp (.ref x) H' μ' aea oN (aq.aL.mpr ⟨x,g'.get (by rw[<-bG.len];simp),rfl⟩)⟩
   | _=>exact hp.elim
def Kv{pl:Sem Bool}(h0:PySem.W.nsIn X.K mainGlobals c=some #[9,C])(hc:Dr X.K C)(hm:Meth X.K C m g)(G:cH X.prog X.w X.K X.mg X.base qP k g fd ps (v9 X.K ps.length F))(hr:cT k X.A)(hb:Binds X.K fd ps [])(ho:JE X o mo)(ha:JA X (e::es) mA)
  (hlen:(e::es).length+1=ps.length:=by rfl) (Fy:starEach (e::es) X.env=0xb::starEach es X.env:=by rfl) (oO:#[10,pos,es].any (·.1)=false:=by rfl)
  (ht:eval (.Call (.Attribute o m apos) (e::es) [] pos) X.env=(do
   let ov <-eval o X.env
   standAt apos.atName
   let (f,first) <-holding [ov] (getMethod ov m pl)
   callWith pos f first (backTo pos (starEach (e::es) X.env)) (backToKw pos (keywordEach [] X.env))):=by rfl)
  (hA:∀env st as st1,mA env st=.ok as st1->as.length=(e::es).length:=by intros;rfl):JE X (.Call (.Attribute o m apos) (e::es) [] pos) (Ca c m F mo mA):=by
 refine JE.of (Qy ho hc hm G hr hb .nil BL ha Fy oO ht) fun σ H Q zz=>?_;show 1;show 3;rintro v H1 ⟨μ1,st1,d,g1,bG,hx,aR⟩;dsimp only at aR
 split at aR
 ·rename_i n
  split at aR
  ·rename_i c' fs e1
   split at aR
   ·rename_i ec;obtain⟨ec,hl⟩:=ec;subst ec;show 19;obtain⟨p',r1,C',dx,ws,r2,r3,r4⟩:=bG.at_ n _ e1;show 7;rw[h0]at r2;cases r2;have K8:ws.lookup m=none:=by
     rcases r4.look (f:=m) with⟨_,z2⟩ | ⟨d',v',z1,_,_⟩
     ·exact z2
     ·rw[hl]at z1;cases z1
    refine⟨p,dx,ws,rfl,r3,K8,μ1,env,st1,hE.mono g1,bG,?_⟩;cases hq:mA env st1 with
    | bad=>rw[hq]at aR;exact aR
    | err y st2=>rw[hq]at aR;exact aR
    | ok as st2 =>
     rw[hq,R.aB]at aR;intro vs H2 μ2 g2 iJ hv
     split at aR
     ·rename_i c2 fs2 e2;have hv3:ao X.K μ2 H2 (.loc n::as) (.ref p::vs):=ao.cons (aq.aL.mpr ⟨p,g2.get q1,rfl⟩) hv;have hll:(V.ref p::(vs++[])).length=ps.length:=by
       have:=hA env st1 as st2 hq;have:=hv.length;simp only[gw,gC]at *;omega
      rw[gw]at hll ⊢;refine⟨hll,μ2,.loc n::as,st2,hv3,iJ,?_⟩;cases hF:F (.loc n::as) st2 with
      | bad=>rw[hF]at aR;exact aR.elim
      | err y ie=>rw[hF]at aR;exact aR.elim
      | ok d ie =>
       rw[hF]at aR;intro v H' μ' g' oN hvd;exact aR v H' μ' (g2.trans g') oN hvd
     ·exact aR.elim
   ·exact aR.elim
  ·exact aR.elim
 ·exact aR.elim
def Gs:cL X (.builtin "len") (NT X dj):=by
 rintro pins s σ H xs us Q I rv ⟨μ,st,ds,hs,hv,hp⟩;unfold dj at hp
 split at hp
 ·rename_i n
  split at hp
  ·rename_i kvs e1;show 13;obtain⟨u,rfl,ru⟩:=rv.one;cases ru;obtain⟨p',ws,r1,r2,r3⟩:=hs.dic e1;show 7;obtain⟨z,y,xs,r,o,es,ep,h1,h2,h3,h4,h5⟩:=(show cA X.prog X.w H s.heap p (.dT ws) from I.bQ p _ r2);have hl:es.size=kvs.length:=by
    rw[r3.len,afr r,<-nW,h4,gj]
   refine Q_ y h1 h2 h3 (by rw[hl,r3.len];rw[afK]at z;omega) ?_;rw[hl];exact⟨.int kvs.length,H,I.tok _,⟨_,rfl⟩,hp.ret hs (aq.aN.mpr rfl)⟩
  ·rename_i kvs e1;show 13;obtain⟨u,rfl,ru⟩:=rv.one;cases ru;obtain⟨p',ws,r1,r2,r3⟩:=hs.dkc e1;show 7;refine abV I (.inl r2) λt s' I'=>?_;rw[<-r3.len];exact⟨.int kvs.length,H,I',⟨_,rfl⟩,hp.ret hs (aq.aN.mpr rfl)⟩
  ·exact zor pins s σ H xs us Q I rv ⟨μ,st,_,hs,hv,hp⟩
 ·exact zor pins s σ H xs us Q I rv ⟨μ,st,_,hs,hv,hp⟩
end
end M
namespace M
open PySem
noncomputable def yu:Stmt->List Stmt
 | .ClassDef _ _ _ body _ _ _ _ _ _ _=>body
 | _=>[]
end M
namespace L2
open PySem PySem.Spec PyProof.Rows
def Gq(hc:X.A.handled=none):cL X (.builtin "sum") (λxs H Q=>∃(p:Addr) (ns:List Int),xs=[.ref p]/\oJ X.K H p (ns.map V.int)/\Q (.int ns.sum) H):=by
 rintro pins s σ H xs us Q I hr ⟨p,ns,rfl,hq,h⟩;cases hr with
 | cons r1 r2 =>
  cases r2;cases r1;obtain⟨its,rv,pl,hz⟩:=I.tuple hq;have hi:IntsAre its ns:=by
   have key:∀(ns:List Int) (its:List Value),Vals (ns.map V.int) its->IntsAre its ns:=by
    intro ns
    induction ns with
    | nil=>intro its h;cases h;exact .nil
    | cons n ns ih =>
     intro its h;cases h with
     | cons r1 r2 =>
      obtain⟨t,rfl⟩:=r1;exact .cons n t (ih _ r2)
   exact key ns its rv
  obtain⟨m,hm,_⟩:=id I.loc;have hl:s.heap.IsTuple p its.toArray:=pl;obtain⟨xs,hx⟩:=hi.allInts.items;have hn:numsOf its.toArray.toList=ns:=by rw[show its.toArray.toList=its from rfl,hi.numsOf]
  rw[hx]at hl hn;rw[nums_intItems]at hn;refine PySem.W.ktm_sumG hc hl λh' tk t' hk=>?_;rw[preSum_eq,pX 0x1,hn];refine⟨.int ns.sum,H,I.but (λb ob hb e=>hk b ob e) (λm' N6=>?_),⟨t',rfl⟩,h⟩;exact ((Att.Lk N6).keeps hk).ns
end L2
namespace M
open PySem PySem.Spec L2
noncomputable def wJ:List D->ak->R D
 | [.tup ds],st=>match intsOf ds with | some ns=>.ok (.int ns.sum) st | none=>.bad
 | ds,st=>HJ ds st
def Gn(hc:X.A.handled=none):cL X (.builtin "sum") (NT X wJ):=by
 rintro pins s σ H xs us Q I rv ⟨μ,st,ds,hs,hv,hp⟩;unfold wJ at hp
 split at hp
 ·rename_i l;cases e2:intsOf l with
  | none=>simp only[e2]at hp;exact hp.elim
  | some ns =>
   simp only[e2]at hp;obtain⟨v,rfl,q⟩:=ao.one hv;obtain⟨p,ys,rfl,r2,r3⟩:=aq.aQ.mp q;rw[zla e2 r3]at r2;exact Gq hc _ _ _ _ _ _ _ I rv ⟨p,ns,rfl,r2.rF,hp.ret hs (aq.aN.mpr rfl)⟩
 ·exact Gp hc _ _ _ _ _ _ _ I rv ⟨μ,st,_,hs,hv,hp⟩
end M
namespace L2
open PySem PySem.Spec PyProof.Rows
section
variable  {P:Program}{w:World}{A:Around}{E:Value->Shared->Prop}{s:Shared}{d it:Addr}{od:Obj}{es:Array DictEntry}{i ep:Nat}
end
end L2
namespace M
open PySem PySem.Spec L2
section
variable  {X:Cx}{tg l a b:Expr}{ml ma mb:ME}{μ:List Addr}{H:Hp}{K:PySem.W.Frag}{st:ak}{pos:Pos}
end
def UW{N P:List Str}{sc:Scope}(h1:sc.kind=.function:=by rfl)(h2:sc.isCoroutine=false:=by rfl)(h3:sc.isGenerator=false:=by rfl)(h4:N.Nodup:=by decide +kernel)(h5:N.take P.length=P:=by rfl)(h6:∀x∈P,sc.names.lookup x=some .local\/sc.names.lookup x=some .cell:=by decide +kernel)(h7:∀y∈sc.names,y.2≠.free:=by decide +kernel):dm N P sc:=⟨h1,h2,h3,h4,h5,h6,h7⟩
section
variable  {X:Cx}
def abv{k k':Nat}{f:Addr}{fd:FuncData}{ps:List Str}{F:FD}{x:Str}{e:Expr}{es:List Expr}{mA:MA}{p pos:Pos}(G:cH X.prog X.w X.K X.mg X.base qP k f fd ps (v9 X.K ps.length F))(hr:cT k' X.A)(hm:X.mg x=some (.ref f))(hk:PySem.W.keepIn X.K (.ref f)=true)(hb:Binds X.K fd ps [])(ha:JA X (e::es) mA)
  (hA:∀env st as st1,mA env st=.ok as st1->as.length=(e::es).length) (Yv:k<=k':=by decide) (hlen:(e::es).length+([]:List V).length=ps.length:=by rfl) (hg:Gl X x:=by rfl) (rY:0xc=false:=by decide) (he:starEach (e::es) X.env=0xb::starEach es X.env:=by rfl) (oO:#[10,pos,es].any (·.1)=false:=by rfl) :
  JE X 0x13 (az F [] mA):=Rw (G.mono Yv) hr hm hk hb .nil (λ_ _=>ao.nil) ha hlen hg rY he oO hA
def An{o e:Expr}{mo:ME}{mA:MA}{apos dH:Pos}(ho:JE X o mo)(ha:JA X [e] mA)(rZ:attributeBase o "append" X.env (eval o X.env)=eval o X.env:=by rfl)
  (y_:(#[10,dH,[e]].all (λx=>!x.1) && (backToKw dH (keywordEach [] X.env)).all (λx=>x.1.isSome)
   && decide ([e].length+([]:List Keyword).length+(if ([]:List Keyword).isEmpty then 0 else 1)<30))=true:=by rfl)
  (hline:(apos.endLine==dH.line)=true:=by rfl) (hs:starEach [e] X.env=0xb::starEach [] X.env:=by rfl) (vJ:#[10,dH,[]].any (·.1)=false:=by rfl):JE X (.Call (.Attribute o "append" apos) [e] [] dH) (cI "list" aW mo mA) :=
 Oj afy PySem.F.slot_list_append PySem.F.type_list_append zsl ho ha rZ y_ hline hs vJ
end
end M
namespace L2
open PySem PySem.Spec PyProof.Rows
namespace Rv
def owner:Manifest.owners.lookup (String.ofList ['d','e','s','r','e','v','e','r'].reverse)=some Manifest.sig_reversed:=by kernel_rfl
def Ed:Slot "reversed" "__init__" "object.__init__" :=
 .of (owner:="object") (n:="__init__") (by rw[afJ,afu];kernel_rfl) 0x8 0x8 0x8
  (by first | exact .inl 0x8 | exact .inr 0x8) (by rw[afQ];kernel_rfl)
def slot_next:Slot "reversed" "__next__" "reversed.__next__" :=
 .of (owner:="reversed") (n:="__next__") (by rw[afJ,afu];kernel_rfl) 0x8 0x8 0x8
  (by first | exact .inl 0x8 | exact .inr 0x8) (by rw[afQ];kernel_rfl)
def zpv:Slot "reversed" "__iter__" "reversed.__iter__" :=
 .of (owner:="reversed") (n:="__iter__") (by rw[afJ,afu];kernel_rfl) 0x8 0x8 0x8
  (by first | exact .inl 0x8 | exact .inr 0x8) (by rw[afQ];kernel_rfl)
def entry_next:entryFor table "reversed.__next__" = some Builtin.«reversed.__next__»:=entryFor_of_tree (by kernel_rfl)
def ztd:entryFor table "reversed.__iter__" = some Builtin.«dict_keyiterator.__iter__» :=
 entryFor_alias (id':="dict_keyiterator.__iter__") (by kernel_rfl) (by first | rfl | decide +kernel | (unfold String.splitOn;simp +decide [String.splitOnAux])) 0x8 (by kernel_rfl)
def args_next(a:Value):argsOk "reversed.__next__" ⟨[a],[]⟩:=by
 unfold argsOk;rw[signature?_of (id:="reversed.__next__") (n:=['_','_','t','x','e','n','_','_']) (o:=['d','e','s','r','e','v','e','r']) (by kernel_rfl) owner];kernel_rfl
def GF(a:Value):argsOk "reversed.__iter__" ⟨[a],[]⟩:=by
 unfold argsOk;rw[signature?_of (id:="reversed.__iter__") (n:=['_','_','r','e','t','i','_','_']) (o:=['d','e','s','r','e','v','e','r']) (by kernel_rfl) owner];kernel_rfl
def called:TypeCalled "reversed" "reversed.__new__" "object.__init__" :=
 ⟨by decide +kernel,by decide +kernel,⟨_,_,F.mro_reversed⟩,F.made_reversed,by decide +kernel,by rw[afQ];kernel_rfl,Ed⟩
def Ea:typeLookup (.type "str") "__reversed__" = pure none:=by rw[afJ,afu];kernel_rfl
def DX:typeLookup (.type "tuple") "__reversed__" = pure none:=by rw[afJ,afu];kernel_rfl
def ztz:isSubtype (.type "tuple") (.type "dict")=pure false:=by rw[afQ];kernel_rfl
noncomputable def ob(q:Value)(i:Int):Obj:={ cls:=.type "reversed",data:=.fields #[q,rawInt i] }
def At(h:Heap)(a:Addr)(q:Value)(i:Int):Prop:=∃o,h.get? a=some o/\o.cls=.type "reversed"/\o.data=.fields #[q,rawInt i]
def At.typeIs{s:Shared}{a:Addr}{q:Value}{i:Int}(x:At s.heap a q i):s.TypeIs (.ref a) "reversed":=let ⟨o,ho,hc,_⟩:=x;⟨o,ho,hc⟩
section
variable  {prog:Program}{w:World}{A:Around}{E:Value->Shared->Prop}{s:Shared}
def Q7(x:Str)(t:Tok)(hx:x.length<=sizeLine):MeetsIn prog w (Builtin.«reversed.__new__» ⟨[.type "reversed",.str x t],[]⟩)
  (λA R s=>R (.ok (.ret (.ref s.heap.objs.size))) { s with toks:=s.toks+2,heap:=s.heap.push (ob (.str x t) ((x.length:Int) - 1)) }) :=
 .of_wp λA R s h=>by
  have hn:=iz;unfold Builtin.«reversed.__new__»;refine ae6 (afp (newClass_reversed _) ?_)
  try dsimp only
  refine ae6 (afp (a:=()) (by first | rfl | kernel_rfl) ?_);refine ae6 (afp (a:=()) (by first | rfl | kernel_rfl) ?_)
  try dsimp only
  refine ae6 (afI (T:="str") (afH s x t) Ea ?_)
  try dsimp only
  refine ae6 (ae9 ?_);rw[ae8 0x5];refine ae6 (P.len_str 0x0 ?_);refine ae6 (afp (a:=some (x.length:Int)) rfl ?_);show wpAny _ _ (newObj (.type "reversed") (.fields #[.str x t,rawInt ((x.length:Int) - 1)]) >>= _) _ _ _;refine ae6 (afo ?_ (by size_fits));exact ae9 ⟨_,rfl,h⟩
def Q6(a:Addr)(items:Array Value):MeetsIn prog w (Builtin.«reversed.__new__» ⟨[.type "reversed",.ref a],[]⟩)
  (λA R s=>IsTup s.heap a items/\items.size<=sizeLine/\R (.ok (.ret (.ref s.heap.objs.size))) { s with toks:=s.toks+2,heap:=s.heap.push (ob (.ref a) ((items.size:Int) - 1)) }) :=
 .of_wp λA R s zz=>by
  obtain⟨ht,hx,h⟩:=zz;have hn:=iz;unfold Builtin.«reversed.__new__»;refine ae6 (afp (newClass_reversed _) ?_)
  try dsimp only
  refine ae6 (afp (a:=()) (by first | rfl | kernel_rfl) ?_);refine ae6 (afp (a:=()) (by first | rfl | kernel_rfl) ?_)
  try dsimp only
  refine ae6 (afI (T:="tuple") ht.typeIs DX ?_)
  try dsimp only
  refine ae6 ?_;show wpAny _ _ (isInstance (.ref a) (.type "dict") >>= _) _ _ _;refine ae6 (wpAny_isInstance ht.typeIs ztz ?_);show wpAny _ _ (specialOf (.ref a) "__getitem__" >>= _) _ _ _;refine ae6 (afI ht.typeIs slot_tuple_getitem.lookup ?_);refine ae9 ?_;rw[ae8 0x5];refine ae6 (len_tuple ht 0x0 ?_);refine ae6 (afp (a:=some (items.size:Int)) rfl ?_);show wpAny _ _ (newObj (.type "reversed") (.fields #[.ref a,rawInt ((items.size:Int) - 1)]) >>= _) _ _ _;refine ae6 (afo ?_ (by size_fits));exact ae9 ⟨_,rfl,h⟩
def Mz{x:Str}{t:Tok}{Q:Value->Shared->Prop}(hx:x.length<=sizeLine)(h:Q (.ref s.heap.objs.size) { s with toks:=s.toks+2,heap:=s.heap.push (ob (.str x t) ((x.length:Int) - 1)) }) :
  wpAny 0xa A (call (.type "reversed") [.str x t]) Q E s :=
 callType_newIn called 0x5 (F.typeCall_reversed_1 _) (F.newCall_reversed_1 _) (λobj=>F.args_object_init_2 obj _) F.entry_reversed_new (Q7 x t hx) ⟨⟨_,g_ _ rfl,rfl⟩,h⟩
def My{a:Addr}{items:Array Value}{Q:Value->Shared->Prop}(ht:IsTup s.heap a items)(hx:items.size<=sizeLine)(h:Q (.ref s.heap.objs.size) { s with toks:=s.toks+2,heap:=s.heap.push (ob (.ref a) ((items.size:Int) - 1)) }) :
  wpAny 0xa A (call (.type "reversed") [.ref a]) Q E s :=
 callType_newIn called 0x5 (F.typeCall_reversed_1 _) (F.newCall_reversed_1 _) (λobj=>F.args_object_init_2 obj _) F.entry_reversed_new (Q6 a items) ⟨ht,hx,⟨_,g_ _ rfl,rfl⟩,h⟩
def next_item{it:Addr}{q u:Value}{T gid:String}{i:Nat}{k:Tok}{Q:Option Value->Shared->Prop}(hit:At s.heap it q (i:Int))(hT:s.TypeIs q T)(sl:Slot T "__getitem__" gid)
  (get:∀(A':Around) (Q':Value->Shared->Prop) (E':Value->Shared->Prop),Q' u { s with toks:=s.toks+1+k }->wpAny 0xa A' (getItem q (.int i s.toks)) Q' E' { s with toks:=s.toks+1 })
  (hQ:∀h',At h' it q ((i:Int) - 1)->Heap.SameBut it s.heap h'->Q (some u) { s with toks:=s.toks+1+k,heap:=h' }):wpAny 0xa A (pyNext (.ref it)) Q E s:=by
 show 17
 try dsimp only
 refine ae6 (afE ho hd (x:=q) rfl ?_);refine ae6 (afE ho hd (x:=rawInt (i:Int)) rfl ?_);show wpAny _ _ (if (i:Int)<0 then _ else _) _ _ s;rw[ae8 0x0];refine ae6 (afI hT sl.lookup ?_);rw[ae8 0x1];refine ae6 (wpAny_mkInt ?_);refine ae6 (wpAny_attempt (get _ _ _ ?_));dsimp only;refine ae6 (afE (s:={ s with toks:=s.toks+1+k }) ho hd (x:=rawInt (i:Int)) rfl ?_);show wpAny _ _ (setField (.ref it) 1 (rawInt ((i:Int) - 1)) >>= _) _ _ _;refine ae6 (wpAny_setField (s:={ s with toks:=s.toks+1+k }) ho hd 0x1 ?_);refine ae9 ⟨_,rfl,ae9 (hQ _ ?_ (afM ..))⟩;exact⟨_,pI _ ho (Obj.isFreed_of_fields (Obj.data_mapFields hd _)),(Obj.cls_mapFields ..).trans hc,by rw[Obj.data_mapFields hd];simp⟩
def next_end{it:Addr}{q:Value}{Q:Option Value->Shared->Prop}(hh:A.handled=none)(hit:At s.heap it q (-1))(hQ:∀h',Heap.ExtBut it s.heap h'->Q none { s with heap:=h' }):wpAny 0xa A (pyNext (.ref it)) Q E s:=by
 show 17
 try dsimp only
 refine ae6 (afE ho hd (x:=q) rfl ?_);refine ae6 (afE ho hd (x:=rawInt (-1)) rfl ?_);show wpAny _ _ (if (-1:Int)<0 then _ else _) _ _ s;rw[ae7 0x5];refine ae6 (wpAny_rule ?_);refine ae6 ?_;show wpAny _ _ (setField (.ref it) 1 (rawInt (-1)) >>= _) _ _ _;refine ae6 (wpAny_setField ho hd 0x1 ?_);have hd1:=Obj.data_mapFields hd (λvs=>vs.set! 1 (rawInt (-1)));have ho1:=pI (λo=>o.mapFields λvs=>vs.set! 1 (rawInt (-1))) ho (Obj.isFreed_of_fields hd1);refine wpAny_setField ho1 hd1 0x1 ?_;refine ae6 ?_;unfold Builtin.SmallTypes.stopIteration newExc newTuple raiseNew
 wp_walk
 refine afp isSubtype_stop ?_;rw[ae7 rfl];refine ae9 (hQ _ λb o hb e=>gF _ (gF _ ?_));exact (afM ..).extBut b o hb ((afM ..).extBut b o hb e)
def zh6{it:Addr}{q:Value}{i:Int}{Q:Value->Shared->Prop}(hit:At s.heap it q i)(h:Q (.ref it) s):wpAny 0xa A (pyIter (.ref it)) Q E s:=by
 refine wpAny_pyIter_slot hit.typeIs zpv (afF zpv hit.typeIs ztd ?_ (GF _));show wpAny _ _ (ret (.ref it)) _ _ s;exact ae9 ⟨_,rfl,"reversed",_,hit.typeIs,slot_next.lookup,h⟩
end
end Rv
end L2
namespace L2
open PySem PySem.Spec PyProof.Rows
noncomputable def Zb(x:Str):It :=
 ⟨λi _=>i<x.cps.size,λi H y H'=>H'=H/\∃c,x.cps[x.cps.size - 1 - i]? = some c/\y=.str ⟨#[c]⟩,λi _=>i=x.cps.size⟩
def DQ{P:Program}{w:World}{K:PySem.W.Frag}{tg:Expr}(x:Str)(t:Tok)(hx:x.cps.size<=sizeLine)(it:Addr):Turn P w K tg (Zb x) [it] it (λi h=>Rv.At h it (.str x t) ((x.cps.size:Int) - 1 - (i:Nat))) where
 mem:=h_.mpr rfl
 obj:=λi h st b hb=>by
  obtain rfl:=h_.mp hb;obtain⟨o,e,_,d⟩:=st;exact⟨o,e,λv z=>by rw[d]at z;cases z⟩
 keep:=λi h h' ⟨o,e,r⟩ k=>⟨o,k it (h_.mpr rfl) o e,r⟩
 item:=by
  show 2;have hi:i<x.cps.size:=hg;have hl:=iz;obtain⟨f0,f1,f2,f3,f4,f5⟩:=hf it (h_.mpr rfl);rw[show (x.cps.size:Int) - 1 - (i:Nat)=((x.cps.size - 1 - i:Nat):Int) by omega]at st;obtain⟨c,YC⟩:∃c,x.cps[x.cps.size - 1 - i]? = some c:=⟨_,pW 0x0⟩;refine Rv.next_item (k:=1) (u:=.str ⟨#[c]⟩ (s.toks+1)) (T:="str") st (afH s x t) PySem.F.slot_str_getitem (λA' Q' E' q=>P.getItem_str (c:=c) ?_ ?_ q) λh' st' sb=>?_
  ·have h1:¬ (((x.cps.size - 1 - i:Nat):Int) < -(2 ^ 63:Int)):=by omega
   have h2:¬ (((x.cps.size - 1 - i:Nat):Int) ≥ 2 ^ 63):=by omega
   rw[ae_ h1,ae_ h2];rfl
  ·have e:seqIndex? ((x.cps.size - 1 - i:Nat):Int) x.length=some (x.cps.size - 1 - i):=by
    unfold seqIndex?;have:x.length=x.cps.size:=rfl;simp only[this]
    split
    ·omega
    ·simp;omega
   rw[e];exact YC
  ·have I1:Inv X pins σ H { s with toks:=s.toks+1+1,heap:=h' }:=I.turned (t':=s.toks+1+1) (λb o hb e=>(sb.2 b hb).trans e) f0 f1 f3 f4 f5;obtain⟨o,e,c',d⟩:=id st';refine⟨_,rfl,ug (s:={ s with toks:=s.toks+1+1,heap:=h' }) e c' d 0x5 ⟨.str ⟨#[c]⟩,H,I1,⟨_,rfl⟩,⟨rfl,c,YC,rfl⟩,?_,λb hb=>(hf b hb).1⟩⟩;rw[show (x.cps.size:Int) - 1 - ((i+1:Nat))=((x.cps.size - 1 - i:Nat):Int) - 1 by omega];exact st'
 done:=by
  show 2;obtain rfl:i=x.cps.size:=hg;obtain⟨f0,f1,f2,f3,f4,f5⟩:=hf it (h_.mpr rfl);rw[show (x.cps.size:Int) - 1 - (x.cps.size:Nat)=-1 by omega]at st;exact Rv.next_end (I.ok.hd hc) st λh' eb=>⟨rfl,I.turned (t':=s.toks) (λb o hb e=>eb b o hb e) f0 f1 f3 f4 f5⟩
 self:=λ_ _ _ _ _ st h=>Rv.zh6 st h
noncomputable def abA(ta:TA):TI:=fun σ H R=>ta σ H λvs H1=>∃x,vs=[.str x]/\x.cps.size<=sizeLine/\R (Zb x) H1
def Qt{X:Cx}{tg a:Expr}{ta:TA}{p pos:Pos}(hg:Gl X "reversed")(hm:X.mg "reversed" = none)(ha:PA X [a] ta)(hs:starEach [a] X.env=[(false,eval a X.env)]:=by rfl) :
  PI X tg (.Call (.Name "reversed" p) [a] [] pos) (abA ta):=by
 show 14;obtain⟨x,rfl,hx,q⟩:=q1;obtain⟨u,rfl,t,rfl⟩:=vals1 r1;refine Rv.Mz hx ?_;have st:Rv.At (s1.heap.push (Rv.ob (.str x t) ((x.length:Int) - 1))) s1.heap.objs.size (.str x t) ((x.cps.size:Int) - 1 - ((0:Nat):Int)):=by
  refine⟨_,g_ _ rfl,rfl,?_⟩;rw[show (x.cps.size:Int) - 1 - ((0:Nat):Int)=(x.length:Int) - 1 by have:x.length=x.cps.size:=rfl;omega];rfl
 refine Rv.zh6 st ?_;refine⟨s1.heap.objs.size,[s1.heap.objs.size],_,_,H1,rfl,I1.kept (t':=s1.toks+2) λb o e=>gF _ e,DQ x t hx _,st,λb hb=>?_,q⟩;obtain rfl:=h_.mp hb;show 24
noncomputable def Za(K:PySem.W.Frag)(a:Addr)(n:Nat):It :=
 ⟨λi H=>∃xs x,oJ K H a xs/\xs.length=n/\i<n/\xs[n - 1 - i]? = some x,λi H x H'=>H'=H/\∀xs,oJ K H a xs->xs[n - 1 - i]? = some x,λi H=>(∃xs,oJ K H a xs/\xs.length=n)/\i=n⟩
def DP{P:Program}{w:World}{K:PySem.W.Frag}{tg:Expr}(a it:Addr)(n:Nat):Turn P w K tg (Za K a n) [it] it (λi h=>Rv.At h it (.ref a) ((n:Int) - 1 - (i:Nat))) where
 mem:=h_.mpr rfl
 obj:=λi h st b hb=>by
  obtain rfl:=h_.mp hb;obtain⟨o,e,_,d⟩:=st;exact⟨o,e,λv z=>by rw[d]at z;cases z⟩
 keep:=λi h h' ⟨o,e,r⟩ k=>⟨o,k it (h_.mpr rfl) o e,r⟩
 item:=by
  show 2;obtain⟨xs,x,hq,hn,hi,hx⟩:=hg;obtain⟨its,rv,p,hz⟩:=I.tuple hq;obtain⟨u,hu,ru⟩:=rv.get hx;have hl:=iz;have hlen:=rv.length;obtain⟨f0,f1,f2,f3,f4,f5⟩:=hf it (h_.mpr rfl);rw[show (n:Int) - 1 - (i:Nat)=((n - 1 - i:Nat):Int) by omega]at st;refine Rv.next_item (k:=0) (u:=u) (T:="tuple") st p.typeIs slot_tuple_getitem (λA' Q' E' q=>getItem_tuple (s:={ s with toks:=s.toks+1 }) p 0x0 0x0 (j:=n - 1 - i) ?_ (by simpa using hu) q) λh' st' sb=>?_
  ·unfold seqIndex?
   split
   ·omega
   ·simp;omega
  ·have I1:Inv X pins σ H { s with toks:=s.toks+1+0,heap:=h' }:=I.turned (t':=s.toks+1+0) (λb o hb e=>(sb.2 b hb).trans e) f0 f1 f3 f4 f5;obtain⟨o,e,c',d⟩:=id st';refine⟨u,rfl,ug (s:={ s with toks:=s.toks+1+0,heap:=h' }) e c' d 0x5 ⟨x,H,I1,ru,⟨rfl,λys hy=>by rw[I.tD hy hq];exact hx⟩,?_,λb hb=>(hf b hb).1⟩⟩;rw[show (n:Int) - 1 - ((i+1:Nat))=((n - 1 - i:Nat):Int) - 1 by omega];exact st'
 done:=by
  show 2;obtain⟨_,rfl⟩:=hg;obtain⟨f0,f1,f2,f3,f4,f5⟩:=hf it (h_.mpr rfl);rw[show (i:Int) - 1 - (i:Nat)=-1 by omega]at st;exact Rv.next_end (I.ok.hd hc) st λh' eb=>⟨rfl,I.turned (t':=s.toks) (λb o hb e=>eb b o hb e) f0 f1 f3 f4 f5⟩
 self:=λ_ _ _ _ _ st h=>Rv.zh6 st h
noncomputable def abz(K:PySem.W.Frag)(ta:TA):TI:=fun σ H R=>ta σ H λvs H1=>∃a xs,vs=[.ref a]/\oJ K H1 a xs/\R (Za K a xs.length) H1
def Qs{X:Cx}{tg a:Expr}{ta:TA}{p pos:Pos}(hg:Gl X "reversed")(hm:X.mg "reversed" = none)(ha:PA X [a] ta)(hs:starEach [a] X.env=[(false,eval a X.env)]:=by rfl) :
  PI X tg (.Call (.Name "reversed" p) [a] [] pos) (abz X.K ta):=by
 show 14;obtain⟨l,xs,rfl,hq,q⟩:=q1;obtain⟨u,rfl,rx⟩:=vals1 r1;cases rx;obtain⟨its,rv,pl,hz⟩:=I1.tuple hq;have hlen:=rv.length;refine Rv.My pl (by simp only[gG];omega) ?_;have st:Rv.At (s1.heap.push (Rv.ob (.ref l) ((its.toArray.size:Int) - 1))) s1.heap.objs.size (.ref l) ((xs.length:Int) - 1 - ((0:Nat):Int)):=by
  refine⟨_,g_ _ rfl,rfl,?_⟩;rw[show (xs.length:Int) - 1 - ((0:Nat):Int)=(its.toArray.size:Int) - 1 by rw[gG];omega];rfl
 refine Rv.zh6 st ?_;refine⟨s1.heap.objs.size,[s1.heap.objs.size],_,_,H1,rfl,I1.kept (t':=s1.toks+2) λb o e=>gF _ e,DP l _ xs.length,st,λb hb=>?_,q⟩;obtain rfl:=h_.mp hb;show 24
end L2
namespace M
open PySem PySem.Spec L2
section
variable  {X:Cx}{a:Expr}{mA:MA}{μ:List Addr}{H:Hp}{p pos:Pos}
noncomputable def Bx(mA:MA):MI:=λenv st=>(mA env st).bind λds st1=>match ds with
 | [.str cs]=>if cs.length<=1000000 then .ok (cs.reverse.map λc=>D.str [c],[]) st1 else .bad
 | _=>.bad
noncomputable def Ii(mA:MA):MI:=λenv st=>(mA env st).bind λds st1=>match ds with
 | [.tup xs]=>.ok (xs.reverse,[]) st1
 | _=>.bad
@[simp] theorem acj(env:aK)(st:ak):Bx mA env st=(mA env st).bind λds st1=>match ds with
 | [.str cs]=>if cs.length<=1000000 then .ok (cs.reverse.map λc=>D.str [c],[]) st1 else .bad
 | _=>.bad:=eY rfl
@[simp] theorem aci(env:aK)(st:ak):Ii mA env st=(mA env st).bind λds st1=>match ds with
 | [.tup xs]=>.ok (xs.reverse,[]) st1
 | _=>.bad:=eY rfl
def KQ(cs:List Nat):oE X μ H (Zb (strOf cs)) (cs.reverse.map λc=>D.str [c],[]):=by
 intro H' μ' st' g hs ok;have hz:(strOf cs).cps.size=cs.length:=by simp
 refine⟨λi d e=>?_,by show _=(strOf cs).cps.size;rw[hz];simp⟩;have e:(cs.reverse.map λc=>D.str [c])[i]? = some d:=e;rw[gO]at e;obtain⟨c,e2,rfl⟩:=nA.mp e;have hi:i<cs.length:=by have:=(gf.mp e2).1;simpa using this
 rw[pK hi]at e2;refine⟨by show i<(strOf cs).cps.size;omega,?_⟩;rintro x Dn ⟨rfl,c',hc,rfl⟩;rw[hz]at hc;have h2:cs[cs.length - 1 - i]? = some c':=by simpa using hc
 rw[e2]at h2;cases h2;exact⟨.refl _ _,hs,aq.aP.mpr rfl⟩
def Ro{tg:Expr}(ha:JA X [a] mA)(hg:Gl X "reversed")(hm:X.mg "reversed" = none)(hs:starEach [a] X.env=[(false,eval a X.env)]:=by rfl):JI X tg (.Call (.Name "reversed" p) [a] [] pos) (Bx mA):=by
 refine JI.of (Qt hg hm ha hs) fun σ H R zz=>?_;show 16
 split at aR
 ·rename_i cs
  split at aR
  ·rename_i hc;obtain⟨v,rfl,q1⟩:=ao.one hv;obtain rfl:=aq.aP.mp q1;refine⟨strOf cs,rfl,?_,aR _ _ _ (.refl _ _) bG (KQ cs)⟩;show cs.toArray.size<=sizeLine;rw[afK];simp;omega
  ·exact aR.elim
 ·exact aR.elim
def KN{ds:List D}{q:Addr}{xs:List V}(hq:oJ X.K H q xs)(hd:ao X.K μ H ds xs):oE X μ H (Za X.K q ds.length) (ds.reverse,[]):=by
 intro H' μ' st' g hs ok;have Fz:=g.ext.rF hq;have zf:=hd.mono g ds;refine⟨λi d e=>?_,⟨xs,Fz,hd.length.symm⟩,by simp⟩;have e:ds.reverse[i]? = some d:=e;have hi:i<ds.length:=by have:=(gf.mp e).1;simpa using this
 rw[pK hi]at e;obtain⟨v,h1,h2⟩:=zf.get e;refine⟨⟨xs,v,Fz,hd.length.symm,hi,h1⟩,?_⟩;rintro x Dn ⟨rfl,hx⟩;have:=hx xs Fz;rw[h1]at this;cases this;exact⟨.refl _ _,hs,h2⟩
def Rn{tg:Expr}(ha:JA X [a] mA)(hg:Gl X "reversed")(hm:X.mg "reversed" = none)(hs:starEach [a] X.env=[(false,eval a X.env)]:=by rfl):JI X tg (.Call (.Name "reversed" p) [a] [] pos) (Ii mA):=by
 refine JI.of (Qs hg hm ha hs) fun σ H R zz=>?_;show 16
 split at aR
 ·rename_i xs;obtain⟨v,rfl,q1⟩:=ao.one hv;obtain⟨b,ys,rfl,q2,q3⟩:=aq.aQ.mp q1;exact⟨b,ys,rfl,q2.rF,by rw[<-q3.length];exact aR _ _ _ (.refl _ _) bG (KN q2.rF q3)⟩
 ·exact aR.elim
end
end M
namespace L2
open PySem PySem.Spec PyProof.Rows
section
variable  {X:Cx}
def zrc:sX X "str.isalpha" (λx xs H Q=>∃z:Str,x=.str z/\xs=[]/\Q (.bl (Txt.isalpha z)) H):=by
 rintro pins s σ H x xs v us Q I rx Ei ⟨z,rfl,rfl,h⟩;show 28;cases Ei;exact SC.isalpha ⟨.bl (Txt.isalpha z),H,I,rfl,h⟩
def zt3:sX X "str.index" (λx xs H Q=>∃(z:Str) (y:Str) (i:Nat) (r:List Nat),x=.str z/\xs=[.str y]/\Builtin.Str.occurrences z y 0 z.length 1=i::r/\Q (.int i) H):=by
 rintro pins s σ H x xs v us Q I rx Ei ⟨z,y,i,r,rfl,rfl,ho,h⟩;show 28;obtain⟨u,rfl,t',rfl⟩:=vals1 Ei;exact SC.index ho ⟨.int i,H,I.tok _,⟨_,rfl⟩,h⟩
def zrv:sX X "list.index" (λx xs H Q=>∃(a:Addr) (ns:List Int) (k:Int) (j:Nat),x=.ref a/\xs=[.int k]/\oA X.K H a (ns.map V.int)/\ns.findIdx? (λz=>decide (z=k))=some j/\Q (.int j) H):=by
 rintro pins s σ H x xs v us Q I rx Ei ⟨a,ns,k,j,rfl,rfl,hq,hj,h⟩;cases rx;obtain⟨u,rfl,t,rfl⟩:=vals1 Ei;obtain⟨its,rv,⟨⟨c0,d0,dt,sl⟩,n,e,hc,hd,hs⟩,hz⟩:=I.list hq;replace hc:c0=.type "list":=hc;replace hd:d0=none:=hd;replace hs:dt=.seq its.toArray n:=hs;subst hc hd hs;have hl:=iz;have hlen:=rv.length;rw[gj]at hlen hz;have at_:∀(m:Nat) (hm:m<its.length),∃t',its[m]=.int (ns[m]'0x0) t':=λm hm=>by
  obtain⟨u,hu,ru⟩:=rv.get (i:=m) (x:=.int (ns[m]'0x0)) (by rw[gO,gK 0x0];rfl);rw[gK hm]at hu;cases hu;exact ru
 obtain⟨hj1,hj2,hj3⟩:=qb.mp hj
 let f:Value->Bool:=PyProof.Rows.isInt k
 have fe:∀(m:Nat) (hm:m<its.length),f its[m]=decide (ns[m]'0x0=k):=λm hm=>by
  obtain⟨t',e'⟩:=at_ m hm;rw[e'];show PyProof.Rows.isInt k _=_;unfold PyProof.Rows.isInt;rw[mD];simp
 refine call_meets PySem.F.slot_list_index ⟨_,e,rfl⟩ PySem.F.entry_list_index (PySem.F.args_list_index_2 _ _)
  (PySem.SeqAt.list_indexAt a its.toArray n none sl (.int k t) f j 0x9 0x0 ?_ λm hm wk=>?_) ⟨e,λy hy=>?_,⟨.int j,H,I.tok _,⟨_,rfl⟩,h⟩⟩
 ·simp only[List.getElem_toArray];rw[fe j 0x0];exact hj2
 ·simp only[List.getElem_toArray];rw[fe m (by simpa using hm)];have:=hj3 m wk;simpa using this
 ·have Yk:y∈its:=by simpa using hy
  obtain⟨m,hm,rfl⟩:=nG.mp Yk;obtain⟨t',e'⟩:=at_ m hm;rw[e'];exact (PySem.MeetsSeq.EqGives.int _ k t' t).at _ _
end
end L2
namespace M
open PySem PySem.Spec L2
section
variable  {X:Cx}
noncomputable def t_(cs:List Nat):Bool:=!cs.isEmpty && cs.all PySem.Unicode.isAlpha
noncomputable def lQ:D->List D->ak->R D
 | .str cs,[],st=>.ok (.bl (t_ cs)) st
 | _,_,_=>.bad
def zre:sX X "str.isalpha" (G_ X lQ):=by
 refine sX.weak zrc ?_;show 20;unfold lQ at hp
 split at hp
 ·rename_i cs;obtain rfl:=aq.aP.mp hx;cases j4;refine⟨strOf cs,rfl,rfl,?_⟩;have e:Txt.isalpha (strOf cs)=t_ cs:=by
   unfold Txt.isalpha t_;cases cs<;>simp[Str.length,strOf]
  rw[e];exact hp.ret hs (aq.bx.mpr rfl)
 ·exact hp.elim
noncomputable def rG:D->List D->ak->R D
 | .str cs,[.str [c]],st=>match cs.findIdx? (λz=>decide (z=c)) with
  | some j=>.ok (.int j) st
  | none=>.bad
 | _,_,_=>.bad
theorem QX(cs:List Nat)(c:Nat):match cs.findIdx? (λz=>decide (z=c)) with
  | some j=>∃r,Builtin.Str.occurrences (strOf cs) (strOf [c]) 0 (strOf cs).length 1=j::r
  | none=>Builtin.Str.occurrences (strOf cs) (strOf [c]) 0 (strOf cs).length 1=[]:=by
 have key:∀i,PySem.StrLaws.At (strOf cs) (strOf [c]) (strOf cs).length i↔cs[i]? = some c:=λi=>by
  have:=PySem.StrLaws.subAt_one (strOf cs) c i;rw[show (strOf cs).cps.toList=cs by simp]at this;exact this
 rcases PySem.StrLaws.occ_head (strOf cs) (strOf [c]) 1 (gb _) with⟨e,h⟩ | ⟨i,r,e,h1,h2⟩
 ·cases hj:cs.findIdx? (λz=>decide (z=c)) with
  | none=>exact e
  | some j =>
   obtain⟨q1,q2,_⟩:=qb.mp hj;exact absurd ((key j).mpr (by rw[gK q1];simpa using q2)) (h j)
 ·rw[key]at h1;obtain⟨hi,h1⟩:=gf.mp h1;have:cs.findIdx? (λz=>decide (z=c))=some i:=by
   rw[qb];refine⟨hi,by simpa using h1,λk hk=>?_⟩;have:=h2 k hk;rw[key,gK 0x0]at this;simpa using this
  rw[this];exact⟨r,e⟩
def zsq:sX X "str.index" (G_ X rG):=by
 refine sX.weak zt3 ?_;show 20;unfold rG at hp
 split at hp
 ·rename_i cs c;obtain rfl:=aq.aP.mp hx;obtain⟨v,rfl,q⟩:=ao.one j4;obtain rfl:=aq.aP.mp q;have h:=QX cs c;cases e:cs.findIdx? (λz=>decide (z=c)) with
  | none=>rw[e]at hp;exact hp.elim
  | some j =>
   rw[e]at hp h;obtain⟨r,h⟩:=h;exact⟨_,_,j,r,rfl,rfl,h,hp.ret hs (aq.aN.mpr rfl)⟩
 ·exact hp.elim
noncomputable def oH:D->List D->ak->R D
 | .loc n,[.int k],st=>match aA st n with
  | some l=>(match intsOf l with
   | some ns=>(match ns.findIdx? (λz=>decide (z=k)) with
    | some j=>.ok (.int j) st
    | none=>.bad)
   | none=>.bad)
  | none=>.bad
 | _,_,_=>.bad
def zt1:sX X "list.index" (G_ X oH):=by
 refine sX.weak zrv ?_;show 20;unfold oH at hp
 split at hp
 ·rename_i n k;obtain⟨a,q1,rfl⟩:=aq.aL.mp hx;obtain⟨v,rfl,q⟩:=ao.one j4;obtain rfl:=aq.aN.mp q;cases e1:aA st n with
  | none=>rw[e1]at hp;exact hp.elim
  | some l =>
   rw[e1]at hp;dsimp only at hp;cases e2:intsOf l with
   | none=>rw[e2]at hp;exact hp.elim
   | some ns =>
    rw[e2]at hp;dsimp only at hp;cases e3:ns.findIdx? (λz=>decide (z=k)) with
    | none=>rw[e3]at hp;exact hp.elim
    | some j =>
     rw[e3]at hp;obtain⟨p',ys,r1,r2,r3⟩:=hs.items e1;show 7;rw[zla e2 r3]at r2;exact⟨a,ns,k,j,rfl,rfl,r2,e3,hp.ret hs (aq.aN.mpr rfl)⟩
 ·exact hp.elim
end
noncomputable def abN{α:Type}:List (Str×α)->Nat->List Str
 | (x,_)::l,n+1=>x::abN l n
 | _,_=>[]
noncomputable def Ae(st:Stmt)(a:Nat):List Str:=abN (aD st).names a
abbrev Row:Type:=Str×Stmt×Nat
def Fn(K:PySem.W.Frag)(mg:Str->Option Value)(p:Row):Prop:=∃f fd,Dp K p.1 p.1 p.2.1 f fd/\mg p.1=some (.ref f)/\Binds K fd (Ae p.2.1 p.2.2) []
inductive Us (K:PySem.W.Frag):List Row->Prop
 | nil:Us K []
 | cons {n:Str} {st:Stmt} {a:Nat} {l:List Row} {f:Addr} {fd:FuncData} (h:PySem.W.nsIn K mainGlobals n=some #[9,f]) (F:Dp K n n st f fd)
  (b:∀(kV doc pm:Value) (an:Option Addr) (cdv ct:Value) (us:List Value),us.length=(Ae st a).length->bindArgs (PySem.W.fnOf n n (bZ st) (bh st) (aD st) .none kV doc pm an cdv ct) ⟨us,[]⟩=pure ((Ae st a).zip us)) (r:Us K l):Us K ((n,st,a)::l)
def Us.all{K:PySem.W.Frag}{h:Heap}{mg:Str->Option Value}(X:K.In h)(G:h.Ns mainGlobals mg){l:List Row}(u:Us K l):∀p∈l,Fn K mg p:=by
 induction u with
 | nil=>intro p hp;cases hp
 | cons a F b r ih =>
  intro p hp;rcases gm.mp hp with rfl | hp
  ·exact⟨_,_,F,afc X G a,F.binds b⟩
  ·exact ih p hp
inductive Zs (K:PySem.W.Frag):List Str->Prop
 | nil:Zs K []
 | cons {n:Str} {l:List Str} (h:PySem.W.nsIn K mainGlobals n=some none) (r:Zs K l):Zs K (n::l)
def Zs.all{K:PySem.W.Frag}{h:Heap}{mg:Str->Option Value}(X:K.In h)(G:h.Ns mainGlobals mg){l:List Str}(u:Zs K l):∀x∈l,mg x=none:=by
 induction u with
 | nil=>intro p hp;cases hp
 | cons a r ih =>
  intro p hp;rcases gm.mp hp with rfl | hp
  ·exact PySem.W.mg_none_of X G a
  ·exact ih p hp
inductive As (K:PySem.W.Frag) (C:Addr):List Str->Prop
 | nil:As K C []
 | cons {n:Str} {l:List Str} (h:PySem.W.findIn K (.ref C) n=some none) (r:As K C l):As K C (n::l)
def As.all{K:PySem.W.Frag}{C:Addr}{l:List Str}(u:As K C l):∀x∈l,iY K C x:=by
 induction u with
 | nil=>intro p hp;cases hp
 | cons a r ih =>
  intro p hp;rcases gm.mp hp with rfl | hp
  ·exact a
  ·exact ih p hp
def nth{K:PySem.W.Frag}{mg:Str->Option Value}{l:List Row}(i:Nat){p:Row}(h:∀p∈l,Fn K mg p)(e:l[i]? = some p:=by rfl):Fn K mg p:=h p (gZ e)
def Cl(F:FD)(n:Str)(k a:Nat)(P:Program)(w:World)(K:PySem.W.Frag)(mg:Str->Option Value)(base:Heap):Prop :=
 ∃f fd ps,ps.length=a/\mg n=some (.ref f)/\PySem.W.keepIn K (.ref f)=true/\Binds K fd ps []/\cH P w K mg base qP k f fd ps (v9 K ps.length F)
section
variable  {P:Program}{w:World}{K:PySem.W.Frag}{mg:Str->Option Value}{base:Heap}
def dN{l:List Row}{n:Str}{st:Stmt}{a k:Nat}{N:List Str}{m:MS}(i:Nat)(h:∀p∈l,Fn K mg p)(e:l[i]? = some (n,st,a):=by exact rfl)(hN:Ae st N.length=N:=by exact rfl)
  (hb:∀f cdv A outer s H,cT k (A.deeper (PyProof.Rows.envOfC n (aD st) s.heap.objs.size f cdv))->N.Nodup->zM (vX qP P w K mg base N n (aD st) f cdv A outer s H E0).JF (bh st) m)
  (S:dm N (Ae st a) (aD st):=by exact UW) (hp:(Ae st a).length=a:=by exact rfl):Cl (bC (bB N.length m)) n (k+1) a P w K mg base:=by
 obtain⟨f,fd,F,hm,hbd⟩:=h _ (gZ e);have q:=zm F S (λcdv A outer s H hr=>hb f cdv A outer s H hr S.nd);exact⟨f,fd,_,hp,hm,F.kp,hbd,cH.imp q λvs H Q E h=>ud h⟩
def Cl.never{n:Str}{st:Stmt}{a k:Nat}(h:Fn K mg (n,st,a))(hp:(Ae st a).length=a:=by rfl):Cl (λ_ _=>.bad) n k a P w K mg base:=by
 obtain⟨f,fd,F,hm,hbd⟩:=h;exact⟨f,fd,_,hp,hm,F.kp,hbd,cH.never⟩
end
section
variable  {X:Cx}{P:Program}{w:World}{K:PySem.W.Frag}{mg:Str->Option Value}{base:Heap}
def JZ(X:Cx)(es:List Expr)(mA:MA):Prop:=JA X es mA/\∀(env:aK) (st:ak) (as:List D) (st1:ak),mA env st=.ok as st1->as.length=es.length
def Rh:JZ X [] au:=⟨Zh,zi6⟩
def Ak{e:Expr}{es:List Expr}{m:ME}{mA:MA}(h:JE X e m)(r:JZ X es mA)(hs:starEach (e::es) X.env=0xb::starEach es X.env:=by rfl):JZ X (e::es) (aj m mA):=⟨Vh h r.1 hs,Nq r.2⟩
def rQ{F:FD}{n x:Str}{k k' a:Nat}{e:Expr}{es:List Expr}{mA:MA}{p pos:Pos}(G:Cl F n k a P w K mg base)(hr:cT k' X.A)(ha:JZ X (e::es) mA)
  (hX:X.prog=P/\X.w=w/\X.K=K/\X.mg=mg/\X.base=base:=by exact⟨rfl,rfl,rfl,rfl,rfl⟩) (hn:n=x:=by rfl) (Yv:k<=k':=by first | decide | omega) (hlen:(e::es).length=a:=by rfl) (hg:Gl X x:=by rfl) (rY:0xc=false:=by decide)
  (he:starEach (e::es) X.env=0xb::starEach es X.env:=by rfl) (oO:#[10,pos,es].any (·.1)=false:=by rfl):JE X 0x13 (az F [] mA):=by
 obtain⟨rfl,rfl,rfl,rfl,rfl⟩:=hX;subst hn;obtain⟨f,fd,ps,hl,hm,hk,hb,g⟩:=G;exact abv g hr hm hk hb ha.1 ha.2 Yv (hlen.trans hl.symm) hg rY he oO
def Ut{F:FD}{n x:Str}{k k' a:Nat}{Λ:Nat->fQ}{e:Expr}{es:List Expr}{m:ML}{p pos:Pos}(G:Cl F n k a P w K mg base)(hr:cT k' X.A)(ha:JL X Λ (e::es) m)(Yx:∀x,X.fn x=true)(hA:∀env st as st1,m env st=.ok as st1->as.length=(e::es).length)
  (hX:X.prog=P/\X.w=w/\X.K=K/\X.mg=mg/\X.base=base:=by exact⟨rfl,rfl,rfl,rfl,rfl⟩) (hn:n=x:=by rfl) (Yv:k<=k':=by first | decide | omega) (hlen:(e::es).length=a:=by rfl) (hg:Gl X x:=by rfl) (rY:0xc=false:=by decide)
  (he:starEach (e::es) X.env=0xb::starEach es X.env:=by rfl) (oO:#[10,pos,es].any (·.1)=false:=by rfl):JE X 0x13 (ou Λ F [] m):=by
 obtain⟨rfl,rfl,rfl,rfl,rfl⟩:=hX;subst hn;obtain⟨f,fd,ps,hl,hm,hk,hb,g⟩:=G;exact Fq (g.mono Yv) hr hm hk hb .nil (λ_ _=>ao.nil) ha Yx (hlen.trans hl.symm) hg rY he oO hA
def XQ{F:FD}{n x:Str}{k k':Nat}{p pos:Pos}(G:Cl F n k 0 P w K mg base)(hr:cT k' X.A)
  (hX:X.prog=P/\X.w=w/\X.K=K/\X.mg=mg/\X.base=base:=by exact⟨rfl,rfl,rfl,rfl,rfl⟩) (hn:n=x:=by rfl) (Yv:k<=k':=by first | decide | omega) (hg:Gl X x:=by rfl) (rY:0xc=false:=by decide):JE X (.Call (.Name x p) [] [] pos) (az F [] au):=by
 obtain⟨rfl,rfl,rfl,rfl,rfl⟩:=hX;subst hn;obtain⟨f,fd,ps,hl,hm,hk,hb,g⟩:=G;obtain rfl:=List.eq_nil_of_length_eq_zero hl;exact KD (g.mono Yv) hr hm hk hb hg rY
end
end M
set_option maxHeartbeats 0
namespace Law
open PySem PySem.Spec L2 M
noncomputable def top(i:Nat):Stmt:=PySem.Challenge.pw_oneofall_k76_no_image_between.main.body.getD i (.Pass ⟨0,0,0,0⟩)
noncomputable abbrev T_:Stmt:=top 6
noncomputable abbrev Dy:Stmt:=top 11
noncomputable abbrev Dw:Stmt:=top 18
noncomputable abbrev ze3:Stmt:=(yu (top 57)).getD 0 (.Pass ⟨0,0,0,0⟩)
noncomputable abbrev Z6:Stmt:=(yu (top 57)).getD 1 (.Pass ⟨0,0,0,0⟩)
noncomputable abbrev zcm:Stmt:=(yu (top 69)).getD 0 (.Pass ⟨0,0,0,0⟩)
noncomputable abbrev Ve:Stmt:=top 92
noncomputable abbrev l_0:fQ:=Ci "put_in" ["puts"] (Di (xM ((bh Dy).getD 0 (.Pass ⟨0,0,0,0⟩))) 1)
noncomputable abbrev l_1:fQ:=Ci "put_in" [] (Di (xM ((bh Dy).getD 0 (.Pass ⟨0,0,0,0⟩))) 2)
noncomputable abbrev l_2:fQ:=Ci "out_and_cost" ["name"] (Di (xM ((bh Dw).getD 0 (.Pass ⟨0,0,0,0⟩))) 1)
noncomputable abbrev l_3:fQ:=Ci "out_and_cost" ["name"] (Di (xM ((bh Dw).getD 0 (.Pass ⟨0,0,0,0⟩))) 2)
noncomputable def lB:Nat->fQ
 | 0=>l_0
 | 1=>l_1
 | 2=>l_2
 | 3=>l_3
 | _=>Uk
noncomputable def tabs:List (Str×Addr):=[("out_and_cost",124),("put_in",75)]
noncomputable def zoh:MS :=
  (retS (orV (zT (yj "str") (vr 0)) #[2,0,3]))
noncomputable def Bg:FD:=bC (bB 1 zoh)
noncomputable def zjz:MS :=
  (aC (fJ (tW (jP #[7,Bg,(vr 1)])) (retS (ct (.bl false))) bI)
  (aC (fJ (jP (zT (yj "str") (vr 0))) (retS (orV (aF (ig 800) (vr 0) #[1,[83]]) (aF (ig 800) (vr 0) #[1,[75]]))) bI)
  (retS (uU (aF (ig 800) #[2,0,0] #[1,[83]]) #[2,0,3]))))
noncomputable def ze8:FD:=bC (bB 2 zjz)
noncomputable def zmd:MS :=
  (aC (fJ (jP (zT (yj "str") (vr 0))) (retS #[4,1]) bI)
  (retS #[2,0,2]))
noncomputable def zej:FD:=bC (bB 1 zmd)
noncomputable def GC:MS :=
  (retS (fW (aj (vr 0) (aj (vr 1) #[5,(aF bj #[7,zej,(vr 0)] #[7,zej,(vr 1)]),(az ze8 [] #[3,0,(vr 1)])]))))
noncomputable def sY:FD:=bC (bB 2 GC)
noncomputable def zlx:MS :=
  (aC (fJ (d7 (aF bN #[2,0,0] (ct .non))) (retS (az sY [] #[3,1,#[2,0,1]])) bI)
  (retS (az sY [] #[5,#[2,0,0],(vr 1)])))
noncomputable def ZL:FD:=bC (bB 2 zlx)
noncomputable def zj2:MS :=
  (aC (fJ (d7 (aF (ig 800) #[2,0,0] #[1,[75]])) (retS #[2,0,1]) bI)
  (retS (az sY [] #[5,(az sY [] (aj #[8,aX,#[2,0,0]] #[6,1])),(az sY [] (aj #[2,0,1] #[6,1]))])))
noncomputable def ze9:FD:=bC (bB 2 zj2)
noncomputable def zc3:MS :=
  (aC (aJ 2 (vr 0))
  (aC (aJ 3 (d_ au))
  (aC (aJ 4 #[4,0])
  (aC (bf (lr (d7 (aF ltV (vr 4) (vr 1))) (Ex (jP (vr 3)) (tW (jP #[7,Bg,(vr 2)])))) (fJ (jP #[7,Bg,(vr 2)]) (aJ 2 (az ZL [] #[5,(fc "list" rH (vr 3)),(vr 2)])) (fJ (tW (jP #[7,Bg,#[2,2,0]])) (aC #[13,3,(fW #[5,(ct .non),#[2,2,1]])]
  (aJ 2 #[2,2,0])) (fJ (tW (jP #[7,Bg,#[2,2,1]])) (aC #[13,3,(fW #[5,#[2,2,0],(ct .non)])]
  (aJ 2 #[2,2,1])) (fJ (jP (zT (yj "str") #[2,2,0])) ab5 (aC (aJ 2 (az ze9 [] #[5,#[2,2,0],#[2,2,1]]))
  (aJ 4 #[8,bj,(vr 4)])))))))
  (aC (bf (jP (vr 3)) (aJ 2 (az ZL [] #[5,(fc "list" rH (vr 3)),(vr 2)])))
  (retS (fW (aj (Hd (jP #[7,Bg,(vr 2)]) #[1,[118,97,108,117,101]] #[1,[111,110]]) #[3,2,(vr 4)]))))))))
noncomputable def Z5:FD:=bC (bB 5 zc3)
noncomputable def zgf:MS :=
  (aC (fJ (d7 (aF (ig 800) (vr 1) (vr 0))) (retS (fW #[5,(ct (.tup [.tup [.str [83],.str [75],.int 2,.bl true],.str [75],.int 3,.bl true])),#[4,2]])) bI)
  (retS (ct .non)))
noncomputable def zct:FD:=bC (bB 2 zgf)
noncomputable def zfn:MS :=
  (aC (fJ #[12,0] (retS (fW #[5,(az sY [] (aj #[1,[75]] #[6,1])),#[4,1]])) bI)
  (retS (vr 0)))
noncomputable def Z3:FD:=bC (bB 2 zfn)
noncomputable def zfl:MS :=
  (aC (fJ (lr #[12,2] (lr #[12,3] (jP #[7,Bg,(vr 1)]))) (retS (ct .non)) bI)
  (aC (fJ (lr #[12,2] (d7 (aF (ig 800) #[2,1,1] (vr 0)))) (retS (fW #[5,#[2,1,0],#[4,0]])) bI)
  (aC (aJ 4 (az Z3 [] #[3,2,#[2,1,0]]))
  (aC (aJ 5 (az Z3 [] #[3,3,#[2,1,1]]))
  (retS (fW #[5,(az sY [] (aj (az sY [] (aj #[1,[83]] (aj #[2,4,0] au))) (aj #[2,5,0] au))),(aF bj (aF bj #[4,1] #[2,4,1]) #[2,5,1])]))))))
noncomputable def zcf:FD:=bC (bB 6 zfl)
noncomputable def e_0:ME :=
  (cI "dict" zj (vr 0) #[3,1,(vr 1)])
noncomputable def e_1:ME :=
  (az sY [] #[3,1,(vr 2)])
noncomputable def e_2:ME :=
  (az zct [] #[3,0,(vr 1)])
noncomputable def e_3:ME :=
  (az zcf [] (aj (vr 0) (aj (vr 1) #[3,2,(vr 3)])))
noncomputable def GL:Nat->FD
 | 0=>vC 2 e_0
 | 1=>vC 3 e_1
 | 2=>vC 2 e_2
 | 3=>vC 4 e_3
 | _=>λ_ _=>.bad
noncomputable def zmx:MS :=
  (aC (aJ 3 (d_ au))
  (aC (aJ 4 (d_ #[6,0]))
  (aC (bf (jP (vr 4)) (aC (aJ 5 (fc "list" rH (vr 4)))
  (aC #[13,3,(vr 5)]
  (fJ (tW (jP (zT (yj "str") (vr 5)))) (aC #[13,4,#[2,5,0]]
  #[13,4,#[2,5,1]]) bI))))
  (aC (aJ 6 (d_ au))
  (aC (iH (Ik #[6,3]) (aM 5) (fJ (jP (zT (yj "str") (vr 5))) #[13,6,(callC lB GL 1 #[6,5])] (aC (aJ 7 (fc "list" rH (vr 6)))
  (aC (aJ 8 (fc "list" rH (vr 6)))
  #[13,6,(callC lB GL 2 (aj (vr 5) #[3,8,(vr 7)]))]))))
  (retS #[2,6,0]))))))
noncomputable def Nt:FD:=bC (bB 9 zmx)
noncomputable def zek:MS :=
  (retS (ou lB Nt [] (qm (vr 0) (oM 0 [1] 2 "put_in" (oM 1 [] 2 "put_in" xZ)))))
noncomputable def G7:FD:=bC (bB 2 zek)
noncomputable def zb5:MS :=
  (aC (aJ 2 (ou lB Nt [] (qm (vr 1) (oM 2 [0] 1 "out_and_cost" (oM 3 [0] 1 "out_and_cost" xZ)))))
  (retS (az Z3 [] #[3,2,(vr 1)])))
noncomputable def Vv:FD:=bC (bB 3 zb5)
noncomputable def zlr:MS :=
  (retS (aF aX (az Vv [] #[3,0,(vr 1)]) #[4,0]))
noncomputable def zdf:FD:=bC (bB 2 zlr)
noncomputable def zii:MS :=
  (retS #[8,aX,(az Vv [] #[3,0,(vr 1)])])
noncomputable def zee:FD:=bC (bB 2 zii)
noncomputable def zds:MS :=
  (aC (aJ 2 (vr 1))
  (aC (aJ 3 (d_ au))
  (aC (iH (Ii #[6,0]) (aM 4) (aC (aJ 5 (az Vv [] #[3,4,(vr 2)]))
  (aC (aJ 2 #[2,5,0])
  #[13,3,#[2,5,1]])))
  (aC (dO (fc "list" dM (vr 3)))
  (retS (fW #[3,2,(vr 3)]))))))
noncomputable def za5:FD:=bC (bB 6 zds)
noncomputable def zjp:MS :=
  (retS (aF aX (az za5 [] #[3,0,(vr 1)]) #[4,0]))
noncomputable def Oz:FD:=bC (bB 2 zjp)
noncomputable def zgo:MS :=
  (retS #[8,aX,(az za5 [] #[3,0,(vr 1)])])
noncomputable def Ny:FD:=bC (bB 2 zgo)
noncomputable def zl3:MS :=
  (aC (aJ 2 (vr 0))
  (aC (iH (fB (vr 1)) (aM 3) (aJ 2 (az sY [] #[3,2,(vr 3)])))
  (retS (vr 2))))
noncomputable def Nv:FD:=bC (bB 4 zl3)
noncomputable def zj8:MS :=
  (aC (aJ 2 (vr 1))
  (aC (iH (jW #[6,0]) (aM 3) (aJ 2 (az sY [] #[5,#[1,[75]],(vr 2)])))
  (retS (vr 2))))
noncomputable def OD:FD:=bC (bB 4 zj8)
noncomputable def zsr:MS :=
  (retS (az OD [] #[3,0,(az zdf [] #[5,#[1,[120]],(az OD [] (aj (aF rE #[8,rE,(vr 1)] (vr 0)) (aj #[1,[120]] au)))])]))
noncomputable def Oo:FD:=bC (bB 2 zsr)
noncomputable def zhf:MS :=
  (retS (aF bj #[8,rE,(vr 1)] (az zee [] #[5,#[1,[120]],(az OD [] (aj (aF rE #[8,rE,(vr 1)] (vr 0)) (aj #[1,[120]] au)))])))
noncomputable def ZV:FD:=bC (bB 2 zhf)
noncomputable def zrt:MS :=
  (aC (fJ (jP #[7,Bg,(vr 0)]) (retS (az sY [] #[5,#[1,[75]],(vr 0)])) bI)
  (retS (az zdf [] #[5,#[1,[112]],(vr 0)])))
noncomputable def zkl:FD:=bC (bB 1 zrt)
noncomputable def zlu:MS :=
  (aC (aJ 1 (ct (.tup [.tup [.str [83],.str [75],.int 2,.bl true],.str [75],.int 3,.bl true])))
  (aC (iH (fB (vr 0)) (aM 2) (aJ 1 (az sY [] #[5,(az sY [] (aj #[1,[83]] #[6,1])),#[7,zkl,(vr 2)]])))
  (retS (vr 1))))
noncomputable def Nu:FD:=bC (bB 3 zlu)
noncomputable def zhe:MS :=
  (retS (az OD [] #[5,#[4,1],#[7,Nu,(d_ #[3,0,(vr 1)])]]))
noncomputable def Vu:FD:=bC (bB 2 zhe)
noncomputable def zj5:MS :=
  (aC (aJ 1 #[1,[75]])
  (aC (iH (Ik #[6,0]) (aM 2) (aJ 1 (az Vu [] #[3,2,(vr 1)])))
  (retS (vr 1))))
noncomputable def ZS:FD:=bC (bB 3 zj5)
noncomputable def zuh:MS :=
  (retS #[7,Nu,(d_ (aj (vr 0) #[3,1,(vr 2)]))])
noncomputable def Zx:FD:=bC (bB 3 zuh)
noncomputable def zl2:MS :=
  (retS #[7,Nu,(d_ (aj (vr 0) (aj (vr 1) #[3,2,(vr 3)])))])
noncomputable def zga:FD:=bC (bB 4 zl2)
noncomputable def zfk:MS :=
  (retS (aF bj #[4,2] (aF jk #[4,2] (vr 0))))
noncomputable def OJ:FD:=bC (bB 1 zfk)
noncomputable def zes:MS :=
  (retS (uU (JK (zT (yj "str") (vr 1))) (aF (ig 800) #[2,1,0] (vr 0))))
noncomputable def O1:FD:=bC (bB 2 zes)
noncomputable def zeg:MS :=
  (retS (uU (JK (zT (yj "str") (vr 0))) (uU (az O1 [] #[5,#[1,[83]],#[2,0,0]]) (az O1 [] #[5,#[1,[75]],#[2,0,1]]))))
noncomputable def zbt:FD:=bC (bB 1 zeg)
noncomputable def zss:MS :=
  (aC (aJ 2 (d_ au))
  (aC (aJ 3 (vr 0))
  (aC (bf (d7 (aF ltV (bD dj #[6,2]) (vr 1))) (aC (fJ (tW (jP #[7,zbt,(vr 3)])) (retS (ct .non)) bI)
  (aC #[13,2,#[8,aX,#[2,3,1]]]
  (aJ 3 #[8,aX,#[2,3,0]]))))
  (aC (fJ (Ex (d7 (aF (yR 800) (vr 3) (ct (.tup [.tup [.str [83],.str [75],.int 2,.bl true],.str [75],.int 3,.bl true])))) (tW (jP #[7,Bg,(vr 0)]))) (retS (ct .non)) bI)
  (aC (dO (fc "list" dM (vr 2)))
  (retS (vr 2)))))))
noncomputable def Om:FD:=bC (bB 4 zss)
noncomputable def zhg:MS :=
  (aC (aJ 1 (d_ au))
  (aC (aJ 2 (vr 0))
  (aC (bf (d7 (aF (yR 800) (vr 2) #[1,[75]])) (aC (aJ 3 (Hd (jP (az O1 [] #[5,#[1,[75]],(vr 2)])) (az Om [] #[5,#[2,2,1],#[4,2]]) (ct .non)))
  (aC (fJ #[12,3] (retS (ct .non)) bI)
  (aC #[13,1,#[2,3,0]]
  (aJ 2 #[2,3,1])))))
  (retS (vr 1)))))
noncomputable def zdd:FD:=bC (bB 4 zhg)
noncomputable def zm1:MS :=
  (aC (aJ 2 #[4,0])
  (aC (aJ 3 (vr 0))
  (aC (bf (jP (az O1 [] #[5,#[1,[75]],(vr 3)])) (aC (aJ 2 #[8,bj,(vr 2)])
  (aJ 3 #[2,3,1])))
  (aC (fJ (lr (d7 (aF ltV (vr 2) (vr 1))) (d7 (aF (ig 800) (vr 0) (az Oo [] #[3,2,(vr 1)])))) (retS (vr 2)) bI)
  (retS (ct .non))))))
noncomputable def T9:FD:=bC (bB 4 zm1)
noncomputable def zf9:MS :=
  (aC (aJ 1 Sg)
  (aC (iH (fB (vr 0)) (aM 2) (dO (cI "dict" oG (vr 1) #[5,(fW (aj #[2,2,0] (aj #[2,2,1] au))),(vr 2)])))
  (retS (vr 1))))
noncomputable def zcy:FD:=bC (bB 3 zf9)
noncomputable def zhb:MS :=
  (retS (Hd (jP (fc "str" lQ (vr 0))) (aF bj #[1,[100]] (vr 0)) #[1,[100]]))
noncomputable def ZW:FD:=bC (bB 1 zhb)
noncomputable def zin:MS :=
  (retS (az Nv [] #[5,#[1,[115]],(aF bj (dG [none] (yM (vr 0)) (aM 0) lC #[7,ZW,(vr 0)]) (bD qi (aj (ct (.tup [.str [110],.str [102],.str [108],.str [114]])) au)))]))
noncomputable def zc9:FD:=bC (bB 1 zin)
noncomputable def zjc:MS :=
  (retS (az Oz [] #[5,(ct (.tup [.str [108],.str [115],.str [114],.str [102]])),#[7,zc9,(vr 0)]]))
noncomputable def zd4:FD:=bC (bB 1 zjc)
noncomputable def zme:MS :=
  (aC (aJ 3 (fY (cR #[1,[110]] (vr 1) iR)))
  (aC (iH (U5 (vr 2)) (aM 4) (jy (aF wj (vr 2) (vr 4)) (tU lK (vr 3) #[7,ZW,(vr 4)])))
  (retS (az G7 [] #[3,0,(vr 3)]))))
noncomputable def zgh:FD:=bC (bB 5 zme)
noncomputable def ziy:MS :=
  (retS (aF bj (aF bj #[7,OJ,#[4,2]] #[7,OJ,#[4,3]]) (bD wJ (aj (az Ny [] #[5,(ct (.tup [.str [108],.str [115],.str [114],.str [102]])),#[7,zc9,(vr 0)]]) au))))
noncomputable def zd9:FD:=bC (bB 1 ziy)
noncomputable def zig:MS :=
  (retS (az zga [] (aj #[1,[110]] (aj #[1,[108]] #[5,#[1,[119]],#[1,[114]]]))))
noncomputable def zda:FD:=bC (bB 0 zig)
noncomputable def zib:MS :=
  (retS (az G7 [] #[5,(az Oz [] (aj (ct (.tup [.str [110],.str [102],.str [108],.str [114]])) (aj (az zda [] au) au))),(fY (cR #[1,[119]] (vr 0) iR))]))
noncomputable def zc1:FD:=bC (bB 1 zib)
noncomputable def zi9:MS :=
  (retS (bD wJ (aj (az Ny [] #[5,(ct (.tup [.str [110],.str [102],.str [108],.str [114]])),(az zda [] au)]) au)))
noncomputable def zd2:FD:=bC (bB 0 zi9)
noncomputable def zhc:MS :=
  (aC (aJ 1 (Hd (d7 (aF (ig 800) (vr 0) #[1,[108]])) (fW #[5,#[1,[108]],#[1,[114]]]) (fW #[5,#[1,[114]],#[1,[108]]])))
  (retS (az Nv [] #[5,#[2,1,0],(d_ (aj #[1,[98,97,114,101]] (aj #[1,[102,117,108,108]] (aj (az sY [] (aj (az sY [] (aj #[1,[103]] (aj #[1,[102]] au))) (aj #[1,[102]] au))) (aj #[2,1,1] au)))))])))
noncomputable def zck:FD:=bC (bB 2 zhc)
noncomputable def zgn:MS :=
  (aC (aJ 1 (az Vu [] #[5,#[1,[119]],#[1,[120]]]))
  (aC (fJ (d7 (aF (ig 800) (vr 0) #[1,[108]])) (retS (az sY [] #[5,#[1,[121]],(az Zx [] (aj #[1,[116]] (aj #[1,[97]] #[6,1])))])) bI)
  (retS (az sY [] #[5,#[1,[121]],(az Zx [] (aj (vr 1) (aj #[1,[97]] (aj #[1,[116]] au))))]))))
noncomputable def zcs:FD:=bC (bB 2 zgn)
noncomputable def ZX:MS :=
  (aC (aJ 3 #[7,zcs,(vr 1)])
  (aC (aJ 4 (az G7 [] #[5,(az Oz [] (aj (ct (.tup [.str [121],.str [120]])) #[6,3])),(fY (cR #[1,[97]] (aF wj (vr 2) #[1,[95]]) (cR #[1,[116]] #[1,[75]] iR)))]))
  (aC (aJ 5 (az Oz [] #[5,(ct (.tup [.str [97],.str [116],.str [121],.str [120]])),(vr 3)]))
  (aC (cM "Move" "plan" (vr 0) (az Oz [] #[5,(ct (.tup [.str [110],.str [102],.str [108],.str [114]])),#[7,zck,(vr 1)]]))
  (aC (cM "Move" "written" (vr 0) dkE)
  (aC (iH (U5 (vr 2)) (aM 6) (aC (aJ 7 (fY (cR #[1,[119]] (aF wj (vr 2) (vr 6)) iR)))
  (jy (fY (cR #[1,[98,97,114,101]] (az G7 [] #[3,4,(vr 7)]) (cR #[1,[102,117,108,108]] (az G7 [] #[3,5,(vr 7)]) iR))) (tU lK (cF "Move" "written" (vr 0)) (vr 6)))))
  (aC (aJ 8 #[8,bj,(bD wJ (aj (az Ny [] #[5,(ct (.tup [.str [110],.str [102],.str [108],.str [114]])),#[7,zck,(vr 1)]]) au))])
  (aC (cM "Move" "bare_cost" (vr 0) (aF bj (vr 8) (bD wJ (aj (az Ny [] #[5,(ct (.tup [.str [121],.str [120]])),(vr 3)]) au))))
  (cM "Move" "full_cost" (vr 0) (aF bj (aF bj (vr 8) #[7,OJ,#[4,2]]) (bD wJ (aj (az Ny [] #[5,(ct (.tup [.str [97],.str [116],.str [121],.str [120]])),(vr 3)]) au))))))))))))
noncomputable def Vt:FD:=bC (bB 9 ZX)
noncomputable def zdc:MS :=
  (aC (aJ 3 (bD uo (aj (aF wj (cF "Move" "written" (vr 0)) (vr 1)) au)))
  (aC (jy (vr 2) (tU lK (vr 3) #[1,[103]]))
  (retS (az G7 [] #[5,(cF "Move" "plan" (vr 0)),(vr 3)]))))
noncomputable def ze1:FD:=bC (bB 4 zdc)
noncomputable def zfu:MS :=
  (retS (az Nv [] #[5,#[1,[118]],(d_ (aj #[1,[101]] (aj #[1,[102]] au)))]))
noncomputable def zb4:FD:=bC (bB 0 zfu)
noncomputable def zic:MS :=
  (retS (az G7 [] #[5,(az Oz [] (aj (ct (.tup [.str [102],.str [118]])) (aj (az zb4 [] au) au))),(fY (cR #[1,[101]] (vr 0) iR))]))
noncomputable def zd8:FD:=bC (bB 1 zic)
noncomputable def zfi:MS :=
  (retS #[7,Nu,(d_ #[3,0,(vr 1)])])
noncomputable def zch:FD:=bC (bB 2 zfi)
noncomputable def zrb:MS :=
  (retS (aF ql (vr 0) #[4,2]))
noncomputable def zfd:FD:=bC (bB 1 zrb)
noncomputable def zft(Vb:FD):MS :=
  (aC (fJ (d7 #[8,(ig 800),(bD dj #[6,0])]) (retS #[2,0,0]) bI)
  (aC (aJ 1 #[7,zfd,(bD dj #[6,0])])
  (retS #[7,Nu,(d_ #[5,(az Vb [] (aj (G8 (vr 0) noP (Hc (vr 1))) au)),(az Vb [] (aj (G8 (vr 0) (Hc (vr 1)) noP) au))])])))
noncomputable def Vs:Nat->FD
 | 0=>λ_ _=>.bad
 | n+1=>bC (bB 2 (zft (Vs n)))
noncomputable def zjb:MS :=
  (aC (aJ 2 (d_ au))
  (aC (aJ 3 #[4,0])
  (aC (aJ 4 (vr 1))
  (aC (bf (d7 #[8,CK,(vr 4)]) (aC (aJ 5 #[7,zfd,(vr 4)])
  (aC (aJ 6 (Hd (d7 (aF ltV (vr 0) (aF bj (vr 3) (vr 5)))) #[4,0] #[4,1]))
  (aC #[13,2,(vr 6)]
  (aC (aJ 3 (aF bj (vr 3) (aF jk (vr 5) (vr 6))))
  (aJ 4 (Hd (d7 (aF (ig 800) (vr 6) #[4,0])) (vr 5) (aF rE (vr 4) (vr 5)))))))))
  (retS (vr 2))))))
noncomputable def Z4:FD:=bC (bB 7 zjb)
noncomputable def zt2:MS :=
  (retS #[7,Nu,(dG [none] (fB (az Z4 [] #[3,0,(vr 1)])) (aM 0) lC (az Oo [] #[3,0,#[4,2]]))])
noncomputable def zf6:FD:=bC (bB 2 zt2)
noncomputable def zn5:MS :=
  (aC (aJ 2 (az Z4 [] #[3,0,(vr 1)]))
  (aC (aJ 3 (dG [none] (fB (vr 2)) (aM 0) lC (aF bj #[7,OJ,#[4,2]] (az ZV [] #[3,0,#[4,2]]))))
  (retS (aF bj (aF bj #[7,OJ,(bD dj #[6,2])] (bD wJ #[6,3])) (aF aX (az Ny [] #[5,(ct (.tup [.str [102],.str [118]])),(az zb4 [] au)]) #[4,0])))))
noncomputable def zfs:FD:=bC (bB 4 zn5)
noncomputable def ziw:MS :=
  (aC (aJ 4 (bD uo #[6,2]))
  (aC (iH (yM 0x12) (aM 5) (aC (aJ 6 (cI "dict" FT (cF "Book" "by_key" (vr 0)) (aj (fW #[3,1,(vr 5)]) au)))
  (fJ (d7 (aF yQ (vr 6) (ct .non))) (jy (Ca "Move" "deed" ze1 (aF wj (cF "Book" "moves" (vr 0)) #[2,6,3]) #[5,#[2,6,2],(aF wj (vr 3) #[2,6,4])]) (tU lK (vr 4) (vr 5))) bI)))
  (retS (vr 4))))
noncomputable def zdz:FD:=bC (bB 7 ziw)
noncomputable def zj7:MS :=
  (aC (aJ 1 (bD dj (aj (cF "Book" "states" (vr 0)) au)))
  (aC (aJ 2 #[7,zd4,0x12])
  (aC (aJ 3 dkE)
  (aC (iH (yM 0x12) (aM 4) (jy #[7,zc1,(aF wj (cF "Book" "sign_trees" (vr 0)) (vr 4))] (tU lK (vr 3) (vr 4))))
  (aC (aJ 5 dkE)
  (aC (iH (sE (aj (cF "Book" "states" (vr 0)) au)) (qz 2 (cU (aM 6) (cU (aM 7) rJ))) (jy (az zf6 [] #[3,6,(vr 1)]) (tU lK (vr 5) (vr 7))))
  (aC (aJ 8 (d_ au))
  (aC (iH (sE (aj (cF "Book" "states" (vr 0)) au)) (qz 2 (cU (aM 6) (cU (aM 7) rJ))) #[13,8,(az zgh [] (aj (vr 2) #[5,(az Oo [] #[3,6,(vr 1)]),(az zdz [] (aj (vr 0) (aj (vr 7) #[3,3,(vr 5)])))]))])
  (retS (vr 8))))))))))
noncomputable def zfe:FD:=bC (bB 9 zj7)
noncomputable def zeh:MS :=
  (aC (aJ 1 dkE)
  (aC (iH (vU #[6,0]) (qz 2 (cU (aM 2) (cU (aM 3) rJ))) (jy (az Oo [] #[3,2,(bD dj #[6,0])]) (tU lK (vr 1) (vr 3))))
  (retS (vr 1))))
noncomputable def zbs:FD:=bC (bB 4 zeh)
noncomputable def zde:MS :=
  (aC (cM "Book" "rules" (vr 0) (bD qi #[6,1]))
  (aC (cM "Book" "signs" (vr 0) (vr 2))
  (aC (cM "Book" "states" (vr 0) (bD qi #[6,3]))
  (aC (cM "Book" "letters" (vr 0) (aF bj #[1,[95]] (vr 2)))
  (aC (cM "Book" "by_key" (vr 0) #[7,zcy,(vr 1)])
  (aC (cM "Book" "sign_trees" (vr 0) #[7,zbs,0x12])
  (aC (cM "Book" "moves" (vr 0) (fY (cR #[1,[108]] (jK "Move" Vt #[5,#[1,[108]],(cF "Book" "sign_trees" (vr 0))]) (cR #[1,[114]] (jK "Move" Vt #[5,#[1,[114]],(cF "Book" "sign_trees" (vr 0))]) iR))))
  (aC (cM "Book" "start_cost" (vr 0) #[7,zd9,0x12])
  (aC (aJ 4 #[7,zfe,(vr 0)])
  (aC (aJ 5 #[7,(Vs 10),(dG [none] (fB (vr 4)) (aM 0) lC (az zd8 [] #[6,0]))])
  (cM "Book" "state_trees" (vr 0) (dG [some 5,none] (fB (vr 4)) (aM 1) lC (az zch [] #[3,1,(vr 0)])))))))))))))
noncomputable def zep:FD:=bC (bB 6 zde)
noncomputable def zld:MS :=
  (retS (aF aX (cF "Book" "state_trees" (vr 0)) (cI "list" oH (cF "Book" "states" (vr 0)) #[6,1])))
noncomputable def zdv:FD:=bC (bB 2 zld)
noncomputable def zoj:MS :=
  (aC (aJ 2 #[7,ZS,(dG [some 0,none] (Bx (aj #[2,1,1] au)) (aM 1) lC (aF wj (cF "Book" "sign_trees" (vr 0)) (vr 1)))])
  (aC (aJ 3 #[7,ZS,(dG [some 0,none] (yM #[2,1,3]) (aM 1) lC (aF wj (cF "Book" "sign_trees" (vr 0)) (vr 1)))])
  (retS (fW (aj (vr 2) #[5,(aF wj (cF "Book" "sign_trees" (vr 0)) #[2,1,2]),(vr 3)])))))
noncomputable def zfr:FD:=bC (bB 4 zoj)
noncomputable def zk5:MS :=
  (aC (aJ 2 (az zfr [] #[3,0,(vr 1)]))
  (retS (az sY [] #[5,(az zdv [] #[3,0,#[2,1,0]]),(az Zx [] (aj #[2,2,0] (aj #[2,2,1] (aj #[2,2,2] au))))])))
noncomputable def zd0:FD:=bC (bB 3 zk5)
noncomputable def zg3:MS :=
  (aC (aJ 2 (aF bj (cF "Book" "start_cost" (vr 0)) (az ZV [] #[5,(cI "str" rG 0x12 (aj #[2,1,2] au)),(bD dj (aj 0x12 au))])))
  (aC (aJ 3 (cI "dict" FT (cF "Book" "by_key" (vr 0)) (aj (fW #[5,#[2,1,0],#[2,1,2]]) au)))
  (aC (fJ #[12,3] (retS (aF bj (vr 2) (az zd2 [] au))) bI)
  (aC (aJ 4 (aF wj (cF "Book" "moves" (vr 0)) #[2,3,3]))
  (aC (aJ 5 (Hd (d7 (aF (ig 800) #[2,3,3] #[1,[108]])) #[2,1,1] #[2,1,3]))
  (aC (aJ 6 (Hd (d7 (aF (ig 800) (vr 5) #[1,[]])) (cF "Move" "bare_cost" (vr 4)) (cF "Move" "full_cost" (vr 4))))
  (retS (aF bj (aF bj (vr 2) (vr 6)) (az zfs [] #[5,(cI "list" oH (cF "Book" "states" (vr 0)) (aj #[2,3,4] au)),(bD dj (aj (cF "Book" "states" (vr 0)) au))])))))))))
noncomputable def zet:FD:=bC (bB 7 zg3)
noncomputable def zkj:MS :=
  (aC (aJ 2 #[7,zdd,(vr 1)])
  (aC (fJ #[12,2] (retS (ct .non)) bI)
  (aC (aJ 3 (dG [some 0,none] (fB (vr 2)) (aM 1) lC (az T9 [] #[3,1,(bD dj (aj 0x12 au))])))
  (aC (fJ (d7 (aF (wW 800 false) (ct .non) (vr 3))) (retS (ct .non)) bI)
  (retS (dG [some 0,none] (fB (vr 3)) (aM 1) lC (aF aX 0x12 (vr 1))))))))
noncomputable def zcv:FD:=bC (bB 4 zkj)
noncomputable def zfw:MS :=
  (aC (fJ (Ex #[12,1] #[12,2]) (retS (ct .non)) bI)
  (aC (aJ 3 (az zcv [] #[3,0,#[2,2,0]]))
  (aC (aJ 4 (az T9 [] #[5,#[2,2,1],(bD dj (aj 0x12 au))]))
  (aC (aJ 5 (az zcv [] #[3,0,#[2,2,2]]))
  (aC (fJ (Ex #[12,3] (Ex #[12,4] #[12,5])) (retS (ct .non)) bI)
  (aC (dO (fc "list" dM (vr 3)))
  (retS (fW (aj (aF aX (cF "Book" "states" (vr 0)) (vr 1)) (aj (cI "str" rP #[1,[]] #[6,3]) #[5,(aF aX 0x12 (vr 4)),(cI "str" rP #[1,[]] #[6,5])]))))))))))
noncomputable def ZZ:FD:=bC (bB 6 zfw)
noncomputable def zed:MS :=
  (aC (fJ (jP (zT (yj "str") (vr 1))) (retS (ct .non)) bI)
  (aC (iH (sE (aj (cF "Book" "state_trees" (vr 0)) au)) (qz 2 (cU (aM 2) (cU (aM 3) rJ))) (fJ (d7 (aF (ig 800) (vr 3) #[2,1,0])) (retS (az ZZ [] (aj (vr 0) #[3,2,(az Om [] #[5,#[2,1,1],#[4,3]])]))) bI))
  (retS (ct .non))))
noncomputable def Nz:FD:=bC (bB 4 zed)
noncomputable def zoc:MS :=
  (aC (aJ 2 (az Om [] #[3,1,#[4,4]]))
  (aC (fJ #[12,2] (retS (ct .non)) bI)
  (retS (az ZZ [] (aj (vr 0) #[5,(az T9 [] (aj #[2,2,0] (aj (bD dj (aj (cF "Book" "states" (vr 0)) au)) au))),(G8 (vr 2) (Hc #[4,1]) noP)])))))
noncomputable def ZQ:FD:=bC (bB 3 zoc)
noncomputable def zrm:MS :=
  (aC (fJ (d7 (aF ltV (vr 1) (bD dj #[6,0]))) (retS (aF aX (vr 0) (vr 1))) bI)
  (retS (aF bj (aF jk #[4,7919] (vr 1)) #[4,13])))
noncomputable def T5:FD:=bC (bB 2 zrm)
noncomputable def zo7:MS :=
  (aC (aJ 2 (aF jJ (aF bj (aF bj (aF jk (aF jJ (vr 0) #[4,2147483647]) #[4,48271]) (aF jk (vr 1) #[4,69621])) #[4,11]) #[4,2147483629]))
  (aC (aJ 2 (aF jJ (aF bj (aF jk (vr 2) (vr 2)) #[4,7]) #[4,998244353]))
  (retS (aF jJ (aF bj (aF jk (vr 2) (vr 2)) (vr 1)) #[4,1000000007]))))
noncomputable def zhx:FD:=bC (bB 3 zo7)
noncomputable def znk:MS :=
  (aC (fJ (jP #[2,0,0]) (aC (aJ 2 (aF jJ #[2,0,1] (vr 1)))
  (aC (jy (aF ql #[2,0,1] (vr 1)) (tU yN (vr 0) #[4,1]))
  (retS (vr 2)))) bI)
  (aC (jy #[8,bj,#[2,0,2]] (tU yN (vr 0) #[4,2]))
  (retS (aF jJ (aF ql (az zhx [] #[5,#[2,0,1],#[2,0,2]]) #[4,7]) (vr 1)))))
noncomputable def uY:FD:=bC (bB 3 znk)
noncomputable def zlw:MS :=
  (aC (aJ 3 (d_ au))
  (aC (iH (jW #[6,2]) (aM 4) (aC (aJ 5 (az uY [] #[3,0,(vr 1)]))
  (aC (bf (d7 (aF (wW 800 false) (vr 5) (vr 3))) (aJ 5 (aF jJ #[8,bj,(vr 5)] (vr 1))))
  #[13,3,(vr 5)])))
  (retS (vr 3))))
noncomputable def zer:FD:=bC (bB 6 zlw)
noncomputable def zpn:MS :=
  (aC (aJ 4 (d_ au))
  (aC (aJ 5 Sg)
  (aC (iH (jW #[6,3]) (aM 6) (aC (aJ 7 (aF aX (vr 2) (az uY [] #[3,0,(bD dj #[6,2])])))
  (aC (aJ 8 (aF aX (aF bj #[1,[95]] (vr 1)) (az uY [] #[3,0,#[8,bj,(bD dj #[6,1])]])))
  (aC (aJ 9 (aF aX (aF bj #[1,[95]] (vr 1)) (az uY [] #[3,0,#[8,bj,(bD dj #[6,1])]])))
  (aC (aJ 10 (aF aX #[1,[108,114]] (az uY [] #[3,0,#[4,2]])))
  (aC (aJ 11 (aF aX (vr 2) (az uY [] #[3,0,(bD dj #[6,2])])))
  (fJ (d7 (aF (Fx true) (fW #[3,7,(vr 8)]) (vr 5))) (aC (jy (ct (.bl true)) (tU yO (vr 5) (fW #[3,7,(vr 8)])))
  #[13,4,(fW (aj (vr 7) (aj (vr 8) (aj (vr 9) #[3,10,(vr 11)]))))]) bI)))))))
  (retS (vr 4)))))
noncomputable def zh2:FD:=bC (bB 12 zpn)
noncomputable def zui:MS :=
  (aC (aJ 2 (az zer [] (aj (vr 0) #[5,#[4,5001],(aF bj #[4,1] (az uY [] #[3,0,(vr 1)]))])))
  (aC (aJ 3 (az zer [] (aj (vr 0) #[5,#[4,26],(az uY [] #[3,0,(aF aX (d_ (aj #[4,3] (aj #[4,9] au))) (bD Fw (aj (aF ltV (bD dj #[6,2]) #[4,3]) au)))])])))
  (aC (aJ 4 (cI "str" rP #[1,[]] (aj (dG [none] (fB (vr 3)) (aM 0) lC (aF aX #[1,[97,98,99,100,101,102,103,104,105,106,107,108,109,110,111,112,113,114,115,116,117,118,119,120,121,122]] (vr 0))) au)))
  (retS (fW (aj (az zh2 [] (aj (vr 0) (aj (vr 4) #[3,2,(aF bj #[4,1] (az uY [] #[5,(vr 0),#[4,12]]))]))) #[3,4,(vr 2)]))))))
noncomputable def zk1:FD:=bC (bB 5 zui)
noncomputable def zuk:MS :=
  (aC (aJ 3 #[1,[]])
  (aC (iH (jW (aj (az uY [] #[3,0,#[8,bj,(vr 2)]]) au)) (aM 4) (aJ 3 (aF bj (vr 3) (aF aX (aF bj #[1,[95]] (vr 1)) (az uY [] #[3,0,#[8,bj,(bD dj #[6,1])]])))))
  (retS (vr 3))))
noncomputable def ziz:FD:=bC (bB 5 zuk)
noncomputable def zpo:MS :=
  (aC (aJ 5 (aF aX (vr 3) (az uY [] #[3,0,(bD dj #[6,3])])))
  (aC (aJ 6 (aF aX (aF bj #[1,[95]] (vr 2)) (az uY [] #[3,0,#[8,bj,(bD dj #[6,2])]])))
  (aC (fJ (lr (d7 (aF (yR 800) (vr 1) (d_ au))) (d7 (aF CK (az uY [] #[3,0,#[4,4]]) #[4,0]))) (aC (aJ 7 (aF aX (vr 1) (az uY [] #[3,0,(bD dj #[6,1])])))
  (aC (aJ 5 #[2,7,0])
  (aJ 6 #[2,7,1]))) bI)
  (aC (aJ 8 (az ziz [] (aj (vr 0) #[3,2,(vr 4)])))
  (retS (fW (aj (vr 5) (aj (vr 8) #[3,6,(az ziz [] (aj (vr 0) #[5,(vr 2),(vr 4)]))]))))))))
noncomputable def zh4:FD:=bC (bB 9 zpo)
noncomputable def zs9:MS :=
  (aC (iH (fB (vr 0)) (aM 2) (fJ (lr (d7 (aF (ig 800) #[2,2,0] #[2,1,0])) (d7 (aF (ig 800) #[2,2,1] #[2,1,2]))) (aC (fJ (d7 (aF (ig 800) #[2,2,3] #[1,[114]])) (aC (aJ 3 (aF bj #[2,1,3] (aF tX #[1,[95]] (aF (ig 800) #[2,1,3] #[1,[]]))))
  (retS (fW (aj #[2,2,4] (aj (aF bj #[2,1,1] #[2,2,2]) #[5,#[2,3,0],(G8 (vr 3) (Hc #[4,1]) noP)]))))) bI)
  (aC (aJ 3 (aF bj (aF tX #[1,[95]] (aF (ig 800) #[2,1,1] #[1,[]])) #[2,1,1]))
  (retS (fW (aj #[2,2,4] (aj (G8 (vr 3) noP (Hc (zT W6 #[4,1]))) #[5,(aF aX (vr 3) (zT W6 #[4,1])),(aF bj #[2,2,2] #[2,1,3])])))))) bI))
  (retS (ct .non)))
noncomputable def zlf:FD:=bC (bB 4 zs9)
noncomputable def zq3:MS :=
  (aC (jy (az Z5 [] #[3,1,(vr 2)]) (qz 3 (cU (aM 3) (cU (aM 4) (cU (aM 5) rJ)))))
  (aC (fJ (Ex (d7 (aF (yR 800) (vr 3) #[1,[111,110]])) (d7 (aF (yR 800) (vr 5) (vr 2)))) (retS (ct (.bl false))) bI)
  (retS (uU (aF bN (az Nz [] #[3,0,(vr 4)]) (ct .non)) (aF bN (az ZQ [] #[3,0,(vr 4)]) (ct .non))))))
noncomputable def zff:FD:=bC (bB 6 zq3)
noncomputable def zpx:MS :=
  (aC (aJ 1 (d_ (aj #[8,(ig 800),(aF jJ (az T5 [] #[3,0,#[4,0]]) #[4,2])] #[5,(az T5 [] #[3,0,#[4,1]]),#[4,0]])))
  (aC (jy (az zk1 [] #[3,1,#[4,2]]) (qz 3 (cU (aM 2) (cU (aM 3) (cU (aM 4) rJ)))))
  (aC (aJ 5 (jK "Book" zep (aj (bD qi #[6,2]) #[3,3,(bD qi #[6,4])])))
  (aC (aJ 6 (az zh4 [] (aj (vr 1) (aj (vr 2) (aj (vr 3) #[3,4,#[4,3]])))))
  (aC (aJ 7 (az zet [] #[3,5,(vr 6)]))
  (aC (aJ 8 (az zd0 [] #[3,5,(vr 6)]))
  (aC (fJ (Ex (d7 (aF (yR 800) (az Nz [] #[3,5,(vr 8)]) (vr 6))) (Ex (d7 #[8,ltV,(vr 7)]) (d7 (aF CK (vr 7) (aF bj (aF bj #[4,2000] (aF jk #[4,20] (bD dj #[6,4]))) (aF jk #[4,200] (bD dj #[6,3]))))))) (retS (ct (.bl false))) bI)
  (aC (aJ 9 (dG [some 7,none] (fB (G8 (vr 0) (Hc #[4,2]) (Hc #[4,5]))) (aM 1) (d7 #[8,CK,(vr 0)]) (aF bj #[4,1] (aF jJ (vr 1) #[8,rE,(vr 0)]))))
  (aC (fJ (d7 #[8,CK,(vr 7)]) (aJ 9 (aF bj (vr 9) (d_ (aj (aF aX (d_ #[5,#[4,1],#[8,rE,(vr 7)]]) (aF jJ (aF ql (az T5 [] #[3,0,#[4,0]]) #[4,2]) #[4,2])) au)))) bI)
  (aC (iH (fB (vr 9)) (aM 10) (fJ (tW (jP (az zff [] (aj (vr 5) #[3,8,(vr 10)])))) (retS (ct (.bl false))) bI))
  (aC (aJ 11 (az zlf [] #[3,2,(vr 6)]))
  (aC (aJ 12 #[8,aX,(az Z5 [] #[3,8,(vr 7)])])
  (aC (fJ #[12,11] (retS (uU (aF (ig 800) (az ZQ [] #[3,5,(vr 12)]) (vr 6)) (aF bN (az Nz [] #[3,5,(vr 12)]) (ct .non)))) bI)
  (retS (uU (aF (ig 800) (az Nz [] #[3,5,(vr 12)]) (vr 11)) (aF bN (az ZQ [] #[3,5,(vr 12)]) (ct .non)))))))))))))))))
noncomputable def zl9:FD:=bC (bB 13 zpx)
noncomputable def acE:List M.Row:=[("joint",top 2,2),("is_done",top 3,2),("leaves",top 4,1),("is_value",top 5,1),("joined",top 7,2),("changed",top 8,2),("folded",top 9,3),("taken_out",top 12,2),("out_cost",top 13,2),("made_of",top 14,2),("made_costs",top 15,2),("handed",top 16,2),("made_and_costs",top 17,2),("leaf_taken",top 19,2),("joint_taken",top 20,4),("or_constant",top 21,2),("pick",top 24,2),("pick_cost",top 25,2),("unasked",top 26,2),("list_of",top 27,1),("list_with",top 28,2),("pack",top 29,3),("end_of",top 30,4),("holder",top 31,1),("kept",top 32,1)]
noncomputable def acD:List M.Row:=[("holder_cost",top 33,1),("held",top 34,2),("has_held_form",top 35,1),("has_in_front",top 36,2),("things_of",top 37,1),("picked",top 38,2),("rule_table",top 40,1),("row_term",top 47,1),("deed_name",top 48,1),("row_plan",top 49,1),("row_of",top 50,3),("row_cost",top 51,1),("end_term",top 52,0),("end_deed",top 53,1),("end_cost",top 54,0),("side_term",top 55,1),("image_term",top 56,1),("entry_term",top 60,0),("entry_of",top 61,1),("tree_of_row",top 62,2),("table_of",top 63,1),("half_of",top 64,1),("turns_to",top 65,2),("way_to",top 66,2),("way_cost",top 67,2)]
noncomputable def acC:List M.Row:=[("sign_trees_of",top 70,1),("rows_of",top 71,1),("deeds_of",top 72,4),("state_tree",top 73,2),("tape_image",top 74,2),("parts_of",top 75,2),("tape_cost",top 76,2),("image_told",top 77,2),("end_told",top 78,2),("stand_told",top 79,3),("signs_told",top 80,2),("_law_cell",top 82,2),("_law_mixed",top 83,2),("_law_draw",top 84,2),("_law_unlike",top 85,3),("_law_rules",top 86,4),("_law_book",top 87,2),("_law_side",top 88,3),("_law_stand",top 89,5),("_law_next",top 90,2),("_law_between",top 91,3)]
noncomputable def tbl:List M.Row:=acE++acD++acC
noncomputable def zs:List Str:=["dict","enumerate","int","isinstance","len","list","range","reversed","str","sum"]
noncomputable def JQ:List Str:=["bare_cost","full_cost","plan","written"]
noncomputable def JR:List Str:=["by_key","letters","moves","rules","sign_trees","signs","start_cost","state_trees","states"]
def zoy{us:List Value}{n:Nat}(h:us.length=n+1):∃a v,us=a::v/\v.length=n:=by
 cases us with
 | nil=>cases h
 | cons a v=>exact⟨a,v,rfl,by simpa using h⟩
def us1{us:List Value}(h:us.length=1):∃a,us=[a]:=mq.mp h
def us2{us:List Value}(h:us.length=2):∃a0 a1,us=[a0,a1]:=by
 obtain⟨a0,v,e,h⟩:=zoy h;obtain⟨a1,e2⟩:=us1 h;exact⟨a0,a1,by rw[e,e2]⟩
def us3{us:List Value}(h:us.length=3):∃a0 a1 a2,us=[a0,a1,a2]:=by
 obtain⟨a0,v,e,h⟩:=zoy h;obtain⟨a1,a2,e2⟩:=us2 h;exact⟨a0,a1,a2,by rw[e,e2]⟩
def us4{us:List Value}(h:us.length=4):∃a0 a1 a2 a3,us=[a0,a1,a2,a3]:=by
 obtain⟨a0,v,e,h⟩:=zoy h;obtain⟨a1,a2,a3,e2⟩:=us3 h;exact⟨a0,a1,a2,a3,by rw[e,e2]⟩
def us5{us:List Value}(h:us.length=5):∃a0 a1 a2 a3 a4,us=[a0,a1,a2,a3,a4]:=by
 obtain⟨a0,v,e,h⟩:=zoy h;obtain⟨a1,a2,a3,a4,e2⟩:=us4 h;exact⟨a0,a1,a2,a3,a4,by rw[e,e2]⟩
set_option genInjectivity false in
structure Adr where
 j7:Addr
 iI:FuncData
 qK:Addr
 qI:FuncData
 fO:Addr
 fL:FuncData
 jz:Addr
 jq:FuncData
 jA:Addr
 jr:FuncData
 jB:Addr
 ju:FuncData
 yC:Addr
 yt:FuncData
 t8:Addr
 vY:Addr
structure Txt(P:Program)(w:World)(K:PySem.W.Frag)(mg:Str->Option Value)(base:Heap)(A:Adr):Prop where
 hB:BMain mg base
 tb:∀p∈tbl,Fn K mg p
 z:∀x∈zs,mg x=none
 abi:∀f∈JQ,iY K A.t8 f
 JV:∀f∈JR,iY K A.vY f
 sy:Zd K "tree_run" "tree_run" T_ A.j7 A.iI
 yc:mg "tree_run" = some (.ref A.j7)
 zc3:Binds K A.iI ["tree","most"] []
 Oa:∃t,Binds K A.iI ["tree","most"] [.int 1000 t]
 vQ:Bb K "put_in" Dy A.qK A.qI
 Ah:mg "put_in" = some (.ref A.qK)
 zek:Binds K A.qI ["term","puts"] []
 jM:Bb K "out_and_cost" Dw A.fO A.fL
 tZ:mg "out_and_cost" = some (.ref A.fO)
 zb5:Binds K A.fL ["name","term"] []
 wY:Dp K "__init__" "Move.__init__" ze3 A.jz A.jq
 o_:Mk K A.t8 A.jz
 ZX:Binds K A.jq ["self","move","sign_trees"] []
 wZ:Dp K "deed" "Move.deed" Z6 A.jA A.jr
 wO:Meth K A.t8 "deed" A.jA
 zdc:Binds K A.jr ["self","sign","way"] []
 xg:Dp K "__init__" "Book.__init__" zcm A.jB A.ju
 wQ:Mk K A.vY A.jB
 zde:Binds K A.ju ["self","rules","signs","states"] []
 R4:Dp K "law" "law" Ve A.yC A.yt
 acu:mg "law" = some (.ref A.yC)
 zpx:Binds K A.yt ["_law_script"] []
 sI:PySem.W.nsIn K mainGlobals "Move" = some #[9,A.t8]
 Dc:mg "Move" = some (.ref A.t8)
 Df:Dr K A.t8
 sJ:PySem.W.nsIn K mainGlobals "Book" = some #[9,A.vY]
 SN:mg "Book" = some (.ref A.vY)
 yw:Dr K A.vY
 xN:∃t,mg "BLANK" = some (.str "_" t)
 lE:∃t,mg "NO_THINGS" = some (.str "K" t)
 jU:∃a,mg "BARE_NAMES" = some (.ref a)/\∀μ H,aq K μ H (.tup [.str [121],.str [120]]) (.ref a)
 jT:∃a,mg "DEED_NAMES" = some (.ref a)/\∀μ H,aq K μ H (.tup [.str [110],.str [102],.str [108],.str [114]]) (.ref a)
 jj:∃a,mg "ENTRY_NAMES" = some (.ref a)/\∀μ H,aq K μ H (.tup [.str [102],.str [118]]) (.ref a)
 jR:∃a,mg "FULL_NAMES" = some (.ref a)/\∀μ H,aq K μ H (.tup [.str [97],.str [116],.str [121],.str [120]]) (.ref a)
 qw:∃a,mg "IDENTITY" = some (.ref a)/\∀μ H,aq K μ H (.tup [.tup [.str [83],.str [75],.int 2,.bl true],.str [75],.int 3,.bl true]) (.ref a)
 lD:∃a,mg "ROW_NAMES" = some (.ref a)/\∀μ H,aq K μ H (.tup [.str [108],.str [115],.str [114],.str [102]]) (.ref a)
def zhh:dm ["tree","most","here","above","steps"] ["tree","most"] (aD T_):=UW
def zjo:dm ["term","puts"] ["term","puts"] (aD Dy):=UW
def zei:dm ["name","term","taken"] ["name","term"] (aD Dw):=UW
def zf4:dm ["self","move","sign_trees","term","bare","full","sign","puts","start"] ["self","move","sign_trees"] (aD ze3):=UW
def zgg:dm ["self","sign","way","puts"] ["self","sign","way"] (aD Z6):=UW
def zgc:dm ["self","rules","signs","states","rows","table"] ["self","rules","signs","states"] (aD zcm):=UW
def zsa:dm ["_law_script","_law_draws","_law_rules_here","_law_signs","_law_states","_law_book_here","_law_stand_here","_law_cost","_law_image","_law_moments","_law_moment","_law_due","_law_tree"] ["_law_script"] (aD Ve):=UW
section
variable  {P:Program}{w:World}{K:PySem.W.Frag}{mg:Str->Option Value}{base:Heap}{Ad:Adr}(T:Txt P w K mg base Ad)
abbrev Ck(_:Txt P w K mg base Ad)(F:FD)(n:Str)(k a:Nat):Prop:=Cl F n k a P w K mg base
include T
set_option hygiene false in
local macro_rules | `(tactic| trivial)=>`(tactic| repeat' first | eq_refl | (with_reducible (first | refine' G3 _ ?_ ?_ ?_ ?_ | refine' Ak ?_ ?_ ?_ | exact Rh | exact XJ)) | exact Or.inl rfl | exact Or.inr rfl | exact Or.inr (Or.inl rfl) | exact Or.inr (Or.inr rfl) | exact nd | ((with_reducible refine' rQ ?G ?H ?_ ?_ ?_ ?_ ?_ ?_ ?_ ?_ ?_);(case G=>with_reducible assumption);(case H=>exact hr)) | (with_reducible (first | refine' Vh ?_ ?_ ?_ | exact Zh | refine' G4 ?_ | refine' jD ?_ ?_ | refine' Zk ?_ | refine' Vc _ ?_ ?_ ?_ ?_ ?_ ?_ | exact Kh | refine' Kl ?_ ?_ ?_ | refine' abt ?_ ?_ ?_ | refine' Xx _ ?_ | refine' Xw ?_ | refine' XD ?_ | refine' Kf ?_ ?_ | refine' zue ?_ ?_ | refine' An ?_ ?_ ?_ ?_ ?_ ?_ ?_ | refine' XF ?_ ?_ ?_ ?_ | refine' Al ?_ ?_ ?_ ?_ ?_ ?_ | refine' Rr _ ?_ ?_ ?_ ?_ | refine' Ke ?_ ?_ | refine' Ri ?_ | refine' Uq ?_ ?_ | refine' Xl ?_ | refine' Xm ?_ | refine' Ko ?_ ?_ ?_ ?_ ?_ | refine' Fj ?_ ?_ ?_ | exact Km | exact abw | exact XC | refine' Xu _ ?_ ?_ ?_ ?_ | refine' Ks ?_ ?_ ?_ | exact Rq | refine' Xq ?_ | refine' Xp ?_ | refine' abp ?_ | refine' Fo ?_ ?_ ?_ ?_ | refine' Rp ?_ ?_ ?_ ?_ | refine' Kr ?_ ?_ ?_ ?_ | refine' Xr ?_ ?_ ?_ ?_ | refine' Ro ?_ ?_ ?_ ?_ | refine' Rn ?_ ?_ ?_ ?_ | refine' Xy ?_ | refine' XS ?_ ?_ | refine' abr ?_ ?_ | refine' abu ?_ ?_ ?_ | refine' Ku ?_ ?_ ?_ | exact Rm | refine' Rk ?_ | refine' Cu ?_ ?_ ?_ ?_ ?_ | refine' zof ?_ ?_ ?_ | exact Cp | exact Rt | exact Kz | refine' Rj ?_ | exact Ho | refine' Xz ?_)) | ((with_reducible refine' Ur ?_ ?_ ?_);(with_reducible first | exact BW | exact QT | exact QS | exact QQ | exact Jz | exact Ey)) | ((with_reducible refine' Xn ?_ ?_ ?_ ?_);(with_reducible first | refine' JB ?_ | refine' Jv ?_ | exact Jw | exact Jx | exact zmf | exact zjy | refine' BV ?_ | refine' zm7 ?_)) | ((with_reducible refine' XR ?_ ?_ ?_ ?_);(with_reducible first | refine' JB ?_ | refine' Jv ?_ | exact Jw | exact Jx | exact zmf | exact zjy | refine' BV ?_ | refine' zm7 ?_)) | ((with_reducible refine' XQ ?G ?H ?_ ?_ ?_ ?_ ?_);(case G=>with_reducible assumption);(case H=>exact hr)) | ((with_reducible refine' KC ?G ?_ ?_ ?_ ?_ ?_ ?_ ?_ ?_);(case G=>first | (with_reducible exact Gs) | exact Gn hr.hd)) | ((with_reducible refine' Fp ?G ?_ ?_ ?_ ?_ ?_ ?_ ?_ ?_);(case G=>with_reducible first | exact zt8 | exact Gu | exact zr9)) | ((with_reducible refine' abq ?_ ?_);(with_reducible first | exact O5)) | ((with_reducible refine' Xv ?_ ?_ ?_ ?_);(with_reducible first | refine' V2 ?_ | refine' aaK ?_ | exact aaJ)) | ((with_reducible refine' XM ?G ?_ ?_ ?_ ?_);(case G=>first | exact T.sJ | exact T.sI)) | ((with_reducible refine' Am ?G ?_ ?_ ?_ ?_ ?_);(case G=>first | exact T.sJ | exact T.sI)) | ((with_reducible refine' XH ?_ ?_ ?_ ?_ ?_ ?_ ?_ ?_ ?_ ?_ ?_ ?_ ?_);(with_reducible first | exact Rc)) | (with_reducible refine JW.jt (Ke ?_ ?_)) | (with_reducible refine JW.jt (Uq ?_ ?_)) | (with_reducible refine' Oj afz afj PySem.F.type_dict_get (zr5 ?_) ?_ ?_ ?_ ?_ ?_ ?_ ?_) | (with_reducible refine' Oj afz afj PySem.F.type_dict_get (Q9 ?_) ?_ ?_ ?_ ?_ ?_ ?_ ?_) | (with_reducible refine' Oj afz PySem.F.slot_dict_setdefault PySem.F.type_dict_setdefault (zrr ?_) ?_ ?_ ?_ ?_ ?_ ?_ ?_) | (with_reducible refine' Oj afy PySem.F.slot_list_index PySem.F.type_list_index zt1 ?_ ?_ ?_ ?_ ?_ ?_ ?_) | (with_reducible refine' Oj afA PySem.F.slot_str_index PySem.F.type_str_index zsq ?_ ?_ ?_ ?_ ?_ ?_ ?_) | (with_reducible refine' Oj afA PySem.F.slot_str_join PySem.F.type_str_join zrl ?_ ?_ ?_ ?_ ?_ ?_ ?_) | (with_reducible refine' zol afy PySem.F.slot_list_pop PySem.F.type_list_pop Q8 ?_ ?_ ?_) | (with_reducible refine' zol afy PySem.F.slot_list_reverse PySem.F.type_list_reverse zqh ?_ ?_ ?_) | (with_reducible refine' zol afA PySem.F.slot_str_isalpha PySem.F.type_str_isalpha zre ?_ ?_ ?_) | ((with_reducible refine' Ky _ ?G ?_ ?_ ?_);(case G=>first | exact T.xN | exact T.lE)) | ((with_reducible refine' Kw ?G ?_ ?_);(case G=>first | exact T.jU | exact T.jT | exact T.jj | exact T.jR | exact T.qw | exact T.lD)) | decide +kernel | exact hr | exact λ_ _=>rfl | (intro _;rfl) | exact PassesOwn.never | exact adF _ | (show List.Nodup [_];decide +kernel) | (show List.Nodup [_,_];decide +kernel) | exact Uu hr | exact huL 800 hr 0x0 | exact T.z _ 0x8 | exact hr.hd | exact⟨rfl,rfl,rfl,rfl,rfl⟩ | exact List.cons_ne_nil _ _ | exact T.yw | exact T.Df | exact T.JV _ 0x8 | exact T.abi _ 0x8 | omega | refine G4 ?_ | refine jD ?_ ?_ | refine Zk ?_ | intro _ _ _ _ _ _ hr nd)
def zc2:Ck T Bg "is_value" 41 1:=dN (N:=[_]) 3 T.tb (hb:=by trivial)
def zqo:Ck T ze8 "is_done" 42 2:=dN (N:=[_,_]) 1 T.tb (hb:=by have:=zc2 T;trivial)
def zsy:Ck T zej "leaves" 41 1:=dN (N:=[_]) 2 T.tb (hb:=by trivial)
def G6:Ck T sY "joint" 43 2:=dN (N:=[_,_]) 0 T.tb (hb:=by have:=zsy T;have:=zqo T;trivial)
def zuc:Ck T ZL "joined" 44 2:=dN (N:=[_,_]) 4 T.tb (hb:=by have:=G6 T;trivial)
def zqq:Ck T ze9 "changed" 44 2:=dN (N:=[_,_]) 5 T.tb (hb:=by have:=G6 T;trivial)
def zlt:cH P w K mg base qP 45 Ad.j7 Ad.iI ["tree","most"] (v9 K 2 Z5):=by
 have nd:=zhh.nd;refine cH.imp (YJ (m:=zc3) T.sy zhh λcdv A outer s H hr=>?_) λvs H Q E h=>ud h;exact (by have:=zc2 T;have:=zuc T;have:=zqq T;trivial)
def zh8:Ck T Z5 "tree_run" 45 2:=⟨_,_,_,rfl,T.yc,T.sy.kp,T.zc3,zlt T⟩
def zk4:Ck T zct "leaf_taken" 41 2:=dN (N:=[_,_]) 13 T.tb (hb:=by trivial)
def zfo:Ck T Z3 "or_constant" 44 2:=dN (N:=[_,_]) 15 T.tb (hb:=by have:=G6 T;trivial)
def zjk:Ck T zcf "joint_taken" 45 4:=dN (N:=[_,_,_,_,_,_]) 14 T.tb (hb:=by have:=zc2 T;have:=zfo T;have:=G6 T;trivial)
def Kd:zL P w K mg base 45 (lB 0) ["leaf"] e_0 :=
 let _:=T;⟨⟨rfl,rfl,rfl,by decide +kernel,by decide +kernel,by decide +kernel,by decide +kernel,by decide +kernel⟩,λ_ _ _ _ us hl=>by obtain⟨_,rfl⟩:=us1 hl;exact rfl,λf cd cl A outer s H hr=>(Oj afz afj PySem.F.type_dict_get (zr5 (Uu hr)) (G3 0) (Vh (G3 1) (Vh (G3 1) Zh)))⟩
def Kc:zL P w K mg base 45 (lB 1) ["part","left","right"] e_1 :=
 ⟨⟨rfl,rfl,rfl,by decide +kernel,by decide +kernel,by decide +kernel,by decide +kernel,by decide +kernel⟩,λ_ _ _ _ us hl=>by obtain⟨_,_,_,rfl⟩:=us3 hl;exact rfl,λf cd cl A outer s H hr=>(rQ (G6 T) hr (Ak (G3 1) (Ak (G3 2) Rh)))⟩
def Ka:zL P w K mg base 45 (lB 2) ["leaf"] e_2 :=
 ⟨⟨rfl,rfl,rfl,by decide +kernel,by decide +kernel,by decide +kernel,by decide +kernel,by decide +kernel⟩,λ_ _ _ _ us hl=>by obtain⟨_,rfl⟩:=us1 hl;exact rfl,λf cd cl A outer s H hr=>(rQ (zk4 T) hr (Ak (G3 0) (Ak (G3 1) Rh)))⟩
def J_:zL P w K mg base 45 (lB 3) ["part","left","right"] e_3 :=
 ⟨⟨rfl,rfl,rfl,by decide +kernel,by decide +kernel,by decide +kernel,by decide +kernel,by decide +kernel⟩,λ_ _ _ _ us hl=>by obtain⟨_,_,_,rfl⟩:=us3 hl;exact rfl,λf cd cl A outer s H hr=>(rQ (zjk T) hr (Ak (G3 0) (Ak (G3 1) (Ak (G3 2) (Ak (G3 3) Rh)))))⟩
theorem Cg:Ng P w K mg base 45 lB GL
 | 0=>.inr ⟨["leaf"],_,Kd T,rfl⟩
 | 1=>.inr ⟨["part","left","right"],_,Kc T,rfl⟩
 | 2=>.inr ⟨["leaf"],_,Ka T,rfl⟩
 | 3=>.inr ⟨["part","left","right"],_,J_ T,rfl⟩
 | _+4=>.inl λ_ _=>rfl
def zl0:Ck T Nt "folded" 47 3:=dN (N:=[_,_,_,_,_,_,_,_,_]) 6 T.tb (hb:=by intro _ _ _ _ _ _ hr nd;exact (jD 0x4 (jD 0x4 (jD 0x4 (jD 0x4 (jD (Al 0x4 0x4 (G4 (Kl 0x4 (G4 (zue (An 0x4 (Vh (zro (Cg T) (hr.mono 0x5) 1 0x4) Zh)))) (jD 0x4 (jD 0x4 (G4 (zue (An 0x4 (Vh (zro (Cg T) (hr.mono 0x5) 2 0x4) Zh)))))))) PassesOwn.never rfl) 0x4))))))
def zqi:cH P w K mg base qP 48 Ad.qK Ad.qI ["term","puts"] (v9 K 2 G7):=by
 have nd:=zjo.nd;refine cH.imp (Ln (m:=zek) T.vQ zjo λcdv A outer s H hr hT=>?_) λvs H Q E h=>ud h;exact (by exact (G4 (Zk (Ut (zl0 T) hr (Cr 0x4 (yh (Λ:=lB) (x:="put_in") (j:=0) (k:=2) (cap:=[1]) T.hB hT (zkv (sc0:=aD Dy) rfl 0x8 0x8 rfl) rfl rfl rfl rfl rfl (yh (Λ:=lB) (x:="put_in") (j:=1) (k:=2) (cap:=[]) T.hB hT (zkv (sc0:=aD Dy) rfl 0x8 0x8 rfl) rfl rfl rfl rfl rfl Kq))) (λ_=>rfl) (zpq (zk8 (zk8 zun)))))))
def zeo:Ck T G7 "put_in" 48 2:=⟨_,_,_,rfl,T.Ah,T.vQ.kp,T.zek,zqi T⟩
def zhs:cH P w K mg base qP 48 Ad.fO Ad.fL ["name","term"] (v9 K 2 Vv):=by
 have nd:=zei.nd;refine cH.imp (Ln (m:=zb5) T.jM zei λcdv A outer s H hr hT=>?_) λvs H Q E h=>ud h;exact (by have:=zfo T;exact (jD (Vc 2 (Ut (zl0 T) hr (Cr 0x4 (yh (Λ:=lB) (x:="out_and_cost") (j:=2) (k:=1) (cap:=[0]) T.hB hT (zkv (sc0:=aD Dw) rfl 0x8 0x8 rfl) rfl rfl rfl rfl rfl (yh (Λ:=lB) (x:="out_and_cost") (j:=3) (k:=1) (cap:=[0]) T.hB hT (zkv (sc0:=aD Dw) rfl 0x8 0x8 rfl) rfl rfl rfl rfl rfl Kq))) (λ_=>rfl) (zpq (zk8 (zk8 zun)))) nd) 0x4))
def zc6:Ck T Vv "out_and_cost" 48 2:=⟨_,_,_,rfl,T.tZ,T.jM.kp,T.zb5,zhs T⟩
def zg8:Ck T zdf "taken_out" 49 2:=dN (N:=[_,_]) 7 T.tb (hb:=by have:=zc6 T;trivial)
def zn1:Ck T zee "out_cost" 49 2:=dN (N:=[_,_]) 8 T.tb (hb:=by have:=zc6 T;trivial)
def zdp:Ck T za5 "made_and_costs" 49 2:=dN (N:=[_,_,_,_,_,_]) 12 T.tb (hb:=by have:=zc6 T;trivial)
def zfb:Ck T Oz "made_of" 50 2:=dN (N:=[_,_]) 9 T.tb (hb:=by have:=zdp T;trivial)
def zcq:Ck T Ny "made_costs" 50 2:=dN (N:=[_,_]) 10 T.tb (hb:=by have:=zdp T;trivial)
def zfy:Ck T Nv "handed" 44 2:=dN (N:=[_,_,_,_]) 11 T.tb (hb:=by have:=G6 T;trivial)
def zgx:Ck T OD "unasked" 44 2:=dN (N:=[_,_,_,_]) 18 T.tb (hb:=by have:=G6 T;trivial)
def zko:Ck T Oo "pick" 50 2:=dN (N:=[_,_]) 16 T.tb (hb:=by have:=zgx T;have:=zg8 T;trivial)
def zhl:Ck T ZV "pick_cost" 50 2:=dN (N:=[_,_]) 17 T.tb (hb:=by have:=zn1 T;have:=zgx T;trivial)
def MJ:Ck T zkl "kept" 50 1:=dN (N:=[_]) 24 T.tb (hb:=by have:=zc2 T;have:=G6 T;have:=zg8 T;trivial)
def Vr:Ck T Nu "holder" 51 1:=dN (N:=[_,_,_]) 23 T.tb (hb:=by have:=G6 T;have:=MJ T;trivial)
def zg9:Ck T Vu "list_with" 52 2:=dN (N:=[_,_]) 20 T.tb (hb:=by have:=zgx T;have:=Vr T;trivial)
def zgu:Ck T ZS "list_of" 53 1:=dN (N:=[_,_,_]) 19 T.tb (hb:=by have:=zg9 T;trivial)
def ztf:Ck T Zx "pack" 52 3:=dN (N:=[_,_,_]) 21 T.tb (hb:=by have:=Vr T;trivial)
def zst:Ck T zga "end_of" 52 4:=dN (N:=[_,_,_,_]) 22 T.tb (hb:=by have:=Vr T;trivial)
def zdl:Ck T OJ "holder_cost" 41 1:=dN (N:=[_]) 25 T.tb (hb:=by trivial)
def zc5:Ck T O1 "has_in_front" 41 2:=dN (N:=[_,_]) 28 T.tb (hb:=by trivial)
def zhq:Ck T zbt "has_held_form" 42 1:=dN (N:=[_]) 27 T.tb (hb:=by have:=zc5 T;trivial)
def znd:Ck T Om "held" 43 2:=dN (N:=[_,_,_,_]) 26 T.tb (hb:=by have:=zhq T;have:=zc2 T;trivial)
def zmu:Ck T zdd "things_of" 44 1:=dN (N:=[_,_,_,_]) 29 T.tb (hb:=by have:=zc5 T;have:=znd T;trivial)
def zie:Ck T T9 "picked" 51 2:=dN (N:=[_,_,_,_]) 30 T.tb (hb:=by have:=zc5 T;have:=zko T;trivial)
def zlj:Ck T zcy "rule_table" 41 1:=dN (N:=[_,_,_]) 31 T.tb (hb:=by trivial)
def zhi:Ck T ZW "deed_name" 41 1:=dN (N:=[_]) 33 T.tb (hb:=by trivial)
def zio:Ck T zc9 "row_term" 45 1:=dN (N:=[_]) 32 T.tb (hb:=by intro _ _ _ _ _ _ hr nd;have:=zfy T;have:=zhi T;exact (G4 (Zk (rQ (zfy T) hr (Ak 0x4 (Ak (Ur BW (T4 (N:=["sign"]) (capt:=[none]) (sc0:=aD (top 47)) 0x4 ⟨rfl,by decide +kernel,by decide +kernel⟩ 0x8 trivial rfl 0xd (λcl C fp s H=>Ho) 0xd) 0x4) Rh))))))
def znv:Ck T zd4 "row_plan" 51 1:=dN (N:=[_]) 34 T.tb (hb:=by have:=zfb T;have:=zio T;trivial)
def zrh:Ck T zgh "row_of" 49 3:=dN (N:=[_,_,_,_,_]) 35 T.tb (hb:=by have:=zhi T;have:=zeo T;trivial)
def zn8:Ck T zd9 "row_cost" 51 1:=dN (N:=[_]) 36 T.tb (hb:=by have:=zdl T;have:=zcq T;have:=zio T;trivial)
def zi1:Ck T zda "end_term" 53 0:=dN (N:=[]) 37 T.tb (hb:=by have:=zst T;trivial)
def zom:Ck T zc1 "end_deed" 54 1:=dN (N:=[_]) 38 T.tb (hb:=by have:=zeo T;have:=zfb T;have:=zi1 T;trivial)
def zny:Ck T zd2 "end_cost" 54 0:=dN (N:=[]) 39 T.tb (hb:=by have:=zcq T;have:=zi1 T;trivial)
def zmg:Ck T zck "side_term" 45 1:=dN (N:=[_,_]) 40 T.tb (hb:=by have:=zfy T;have:=G6 T;trivial)
def zln:Ck T zcs "image_term" 53 1:=dN (N:=[_,_]) 41 T.tb (hb:=by have:=zg9 T;have:=G6 T;have:=ztf T;trivial)
def zgp:cH P w K mg base qP 54 Ad.jz Ad.jq ["self","move","sign_trees"] (v9 K 3 Vt):=by
 have nd:=zf4.nd;refine cH.imp (zm (m:=ZX) T.wY zf4 λcdv A outer s H hr=>?_) λvs H Q E h=>ud h;exact (by have:=zln T;have:=zeo T;have:=zfb T;have:=zmg T;have:=zcq T;have:=zdl T;trivial)
def zkm:cH P w K mg base qP 49 Ad.jA Ad.jr ["self","sign","way"] (v9 K 3 ze1):=by
 have nd:=zgg.nd;refine cH.imp (zm (m:=zdc) T.wZ zgg λcdv A outer s H hr=>?_) λvs H Q E h=>ud h;exact (by have:=zeo T;trivial)
def zfv:Ck T zb4 "entry_term" 45 0:=dN (N:=[]) 42 T.tb (hb:=by have:=zfy T;trivial)
def znx:Ck T zd8 "entry_of" 51 1:=dN (N:=[_]) 43 T.tb (hb:=by have:=zeo T;have:=zfb T;have:=zfv T;trivial)
def zji:Ck T zch "tree_of_row" 52 2:=dN (N:=[_,_]) 44 T.tb (hb:=by have:=Vr T;trivial)
def zj4:Ck T zfd "half_of" 41 1:=dN (N:=[_]) 46 T.tb (hb:=by trivial)
theorem zfp:∀n:Nat,Ck T (Vs n) "table_of" (52+n) 1
 | 0=>Cl.never (nth 45 T.tb)
 | n+1=>by
  have IH:=zfp n;exact dN (N:=[_,_]) (k:=52+n) 45 T.tb (hb:=λ_ _ _ _ _ _ hr nd=>by have:=zj4 T;have:=Vr T;trivial)
def zi3:Ck T Z4 "turns_to" 42 2:=dN (N:=[_,_,_,_,_,_,_]) 47 T.tb (hb:=by have:=zj4 T;trivial)
def zrx:Ck T zf6 "way_to" 52 2:=dN (N:=[_,_]) 48 T.tb (hb:=by intro _ _ _ _ _ _ hr nd;have:=Vr T;have:=zi3 T;have:=zko T;exact (G4 (Zk (rQ (Vr T) hr (Ak (T4 (N:=["turn"]) (capt:=[none]) (sc0:=aD (top 66)) 0x4 ⟨rfl,by decide +kernel,by decide +kernel⟩ 0x8 trivial rfl 0xd (λcl C fp s H=>Ho) 0xd) Rh)))))
def zn9:Ck T zfs "way_cost" 51 2:=dN (N:=[_,_,_,_]) 49 T.tb (hb:=by intro _ _ _ _ _ _ hr nd;have:=zi3 T;have:=zdl T;have:=zhl T;have:=zcq T;have:=zfv T;exact (jD 0x4 (jD (zia 3 (N:=["turn"]) (capt:=[none]) (sc0:=aD (top 67)) 0x4 ⟨rfl,by decide +kernel,by decide +kernel⟩ 0x8 trivial rfl 0xd (λcl C fp s H=>Ho) 0xd nd) 0x4)))
def znw:Ck T zdz "deeds_of" 50 4:=dN (N:=[_,_,_,_,_,_,_]) 52 T.tb (hb:=by intro _ _ _ _ _ _ hr nd;exact (jD 0x4 (jD (Al 0x4 0x4 (jD 0x4 (G4 (Kl 0x4 (G4 (Ko (Kv T.sI T.Df T.wO ((zkm T).mono 0x5) hr T.zdc 0x4 0x4 rfl rfl rfl rfl (Nq (Nq zi6))) 0x4)) Kh))) PassesOwn.never rfl) 0x4)))
def zra:Ck T zfe "rows_of" 55 1:=dN (N:=[_,_,_,_,_,_,_,_,_]) 51 T.tb (hb:=by have:=znv T;have:=zom T;have:=zrx T;have:=zrh T;have:=zko T;have:=znw T;trivial)
def zhp:Ck T zbs "sign_trees_of" 51 1:=dN (N:=[_,_,_,_]) 50 T.tb (hb:=by have:=zko T;trivial)
def zkx:cH P w K mg base qP 63 Ad.jB Ad.ju ["self","rules","signs","states"] (v9 K 4 zep):=by
 have nd:=zgc.nd;refine cH.imp (zm (m:=zde) T.xg zgc λcdv A outer s H hr=>?_) λvs H Q E h=>ud h;exact (by have:=zlj T;have:=zhp T;have:=zn8 T;have:=zra T;have:=zfp T 10;have:=znx T;have:=zji T;exact (jD 0x4 (jD 0x4 (jD 0x4 (jD 0x4 (jD 0x4 (jD 0x4 (jD (Am T.sJ T.yw (T.JV _ 0x8) 0x4 (Cu (zof 0x4 (zug T.sI T.o_ ((zgp T).mono 0x5) hr T.Dc T.ZX 0x4 rfl rfl 0x5 rfl rfl (Nq (Nq zi6))) (zof 0x4 (zug T.sI T.o_ ((zgp T).mono 0x5) hr T.Dc T.ZX 0x4 rfl rfl 0x5 rfl rfl (Nq (Nq zi6))) Cp)))) (jD 0x4 (jD 0x4 (jD (Vc 5 (rQ (zfp T 10) hr (Ak (T4 (N:=["row"]) (capt:=[none]) (sc0:=aD zcm) 0x4 ⟨rfl,by decide +kernel,by decide +kernel⟩ 0x8 trivial rfl 0xd (λcl C fp s H=>Ho) 0xd) Rh)) nd) (G4 (Am T.sJ T.yw (T.JV _ 0x8) 0x4 (T4 (N:=["table","row"]) (capt:=[some 5,none]) (sc0:=aD zcm) 0x4 ⟨rfl,by decide +kernel,by decide +kernel⟩ 0x8 ⟨⟨rfl,by first | exact Or.inl rfl | exact Or.inr rfl,rfl⟩,trivial⟩ rfl 0xd (λcl C fp s H=>Ho) 0xd))))))))))))))
def zk7:Ck T zdv "state_tree" 41 2:=dN (N:=[_,_]) 53 T.tb (hb:=by trivial)
def zns:Ck T zfr "parts_of" 54 2:=dN (N:=[_,_,_,_]) 55 T.tb (hb:=by intro _ _ _ _ _ _ hr nd;have:=zgu T;exact (jD #[17,2] (jD #[17,3] 0x4)))
def zll:Ck T zd0 "tape_image" 55 2:=dN (N:=[_,_,_]) 54 T.tb (hb:=by have:=zns T;have:=G6 T;have:=zk7 T;have:=ztf T;trivial)
def zl5:Ck T zet "tape_cost" 55 2:=dN (N:=[_,_,_,_,_,_,_]) 56 T.tb (hb:=by have:=zhl T;have:=zny T;have:=zn9 T;trivial)
def zkz:Ck T zcv "signs_told" 52 2:=dN (N:=[_,_,_,_]) 60 T.tb (hb:=by intro _ _ _ _ _ _ hr nd;have:=zmu T;have:=zie T;exact (jD 0x4 (jD 0x4 (jD (zia 3 (N:=["book","thing"]) (capt:=[some 0,none]) (sc0:=aD (top 80)) 0x4 ⟨rfl,by decide +kernel,by decide +kernel⟩ 0x8 ⟨⟨rfl,by first | exact Or.inl rfl | exact Or.inr rfl,rfl⟩,trivial⟩ rfl 0xd (λcl C fp s H=>Ho) 0xd nd) (jD 0x4 (G4 (Zk (T4 (N:=["book","place"]) (capt:=[some 0,none]) (sc0:=aD (top 80)) 0x4 ⟨rfl,by decide +kernel,by decide +kernel⟩ 0x8 ⟨⟨rfl,by first | exact Or.inl rfl | exact Or.inr rfl,rfl⟩,trivial⟩ rfl 0xd (λcl C fp s H=>Ho) 0xd))))))))
def zge:Ck T ZZ "stand_told" 53 3:=dN (N:=[_,_,_,_,_,_]) 59 T.tb (hb:=by have:=zkz T;have:=zie T;trivial)
def zf7:Ck T Nz "image_told" 54 2:=dN (N:=[_,_,_,_]) 57 T.tb (hb:=by have:=zge T;have:=znd T;trivial)
def zif:Ck T ZQ "end_told" 54 2:=dN (N:=[_,_,_]) 58 T.tb (hb:=by have:=znd T;have:=zge T;have:=zie T;trivial)
def M4:Ck T T5 "_law_cell" 41 2:=dN (N:=[_,_]) 61 T.tb (hb:=by trivial)
def Gy:Ck T zhx "_law_mixed" 41 2:=dN (N:=[_,_,_]) 62 T.tb (hb:=by trivial)
def zid:Ck T uY "_law_draw" 42 2:=dN (N:=[_,_,_]) 63 T.tb (hb:=by have:=Gy T;trivial)
def zuf:Ck T zer "_law_unlike" 43 3:=dN (N:=[_,_,_,_,_,_]) 64 T.tb (hb:=by have:=zid T;trivial)
def Gx:Ck T zh2 "_law_rules" 43 4:=dN (N:=[_,_,_,_,_,_,_,_,_,_,_,_]) 65 T.tb (hb:=by have:=zid T;trivial)
def M5:Ck T zk1 "_law_book" 44 2:=dN (N:=[_,_,_,_,_]) 66 T.tb (hb:=by intro _ _ _ _ _ _ hr nd;have:=zuf T;have:=zid T;have:=Gx T;exact (jD 0x4 (jD 0x4 (jD (Vc 4 (Oj afA PySem.F.slot_str_join PySem.F.type_str_join zrl 0x4 (Vh (T4 (N:=["_law_k"]) (capt:=[none]) (sc0:=aD (top 87)) 0x4 ⟨rfl,by decide +kernel,by decide +kernel⟩ 0x8 trivial rfl 0xd (λcl C fp s H=>Ho) 0xd) Zh)) nd) 0x4))))
def MN:Ck T ziz "_law_side" 43 3:=dN (N:=[_,_,_,_,_]) 67 T.tb (hb:=by have:=zid T;trivial)
def Gw:Ck T zh4 "_law_stand" 44 5:=dN (N:=[_,_,_,_,_,_,_,_,_]) 68 T.tb (hb:=by have:=zid T;have:=MN T;trivial)
def M3:Ck T zlf "_law_next" 41 2:=dN (N:=[_,_,_,_]) 69 T.tb (hb:=by trivial)
def zqj:Ck T zff "_law_between" 55 3:=dN (N:=[_,_,_,_,_,_]) 70 T.tb (hb:=by have:=zh8 T;have:=zf7 T;have:=zif T;trivial)
def JD:cH P w K mg base qP 65 Ad.yC Ad.yt ["_law_script"] (v9 K 1 zl9):=by
 have nd:=zsa.nd;refine cH.imp (zm (m:=zpx) T.R4 zsa λcdv A outer s H hr=>?_) λvs H Q E h=>ud h;exact (by have:=M4 T;have:=M5 T;have:=Gw T;have:=zl5 T;have:=zll T;have:=zf7 T;have:=zqj T;have:=M3 T;have:=zh8 T;have:=zif T;exact (jD 0x4 (jD 0x4 (jD (Vc 5 (zug T.sJ T.wQ ((zkx T).mono 0x5) hr T.SN T.zde 0x4 rfl rfl 0x5 rfl rfl (Nq (Nq (Nq zi6)))) nd) (jD 0x4 (jD 0x4 (jD 0x4 (jD 0x4 (jD (zia 9 (N:=["_law_cost","_law_cell_here"]) (capt:=[some 7,none]) (sc0:=aD Ve) 0x4 ⟨rfl,by decide +kernel,by decide +kernel⟩ 0x8 ⟨⟨rfl,by first | exact Or.inl rfl | exact Or.inr rfl,rfl⟩,trivial⟩ rfl 0xd 0xd 0xd nd) 0x4)))))))))
end
def all_mk{l:PySem.W.OpenLaw}{w:World}{K:PySem.W.Frag}{h:Heap}{mg:Str->Option Value}{fa f4 f8 f15 f45 f46 f55 f77:Addr}(X:K.In h)(G:h.Ns mainGlobals mg)(hfa:mg "law" = some (.ref fa))
  {od4 an4:Option Addr} {sl4:Array (Option Value)} {oc4 kV4 dc4 pm4 cd4 ct4:Value}
  {od8 an8:Option Addr} {sl8:Array (Option Value)} {oc8 kV8 dc8 pm8 ct8:Value}
  {adz ab9:Option Addr} {acW:Array (Option Value)} {adC abo abU aa3 abW:Value}
  {ady aes:Option Addr} {acV:Array (Option Value)} {adB adM aen adv ab3 aep:Value}
  {adx aer:Option Addr} {acU:Array (Option Value)} {adA adL aem adu ab2 aeo:Value}
  {jC:Addr} (CZ:PySem.W.nsIn K mainGlobals "Move" = some #[9,jC]) (Sw:PySem.W.plainGet K jC Str.empty=true) (Tc:PySem.W.hasDictIn K jC=true) (SJ:PySem.W.plainOver K jC=true) (Ss:PySem.W.findIn K (.ref jC) "__setattr__" = some (some (.builtin "object.__setattr__"))) (SX:PySem.W.makesIn K jC=true) (Te:PySem.W.keepIn K (.ref jC)=true)
  {j9:Addr} (C_:PySem.W.nsIn K mainGlobals "Book" = some #[9,j9]) (Sx:PySem.W.plainGet K j9 Str.empty=true) (Td:PySem.W.hasDictIn K j9=true) (SM:PySem.W.plainOver K j9=true) (Sv:PySem.W.findIn K (.ref j9) "__setattr__" = some (some (.builtin "object.__setattr__"))) (S_:PySem.W.makesIn K j9=true) (Tf:PySem.W.keepIn K (.ref j9)=true)
  {dT4:Addr} {aej:Value} {aei:Option Addr} {dn4:Nat} {aeg:Tok} {aeh:Array (Option Value)}
  (a4:PySem.W.nsIn K mainGlobals "tree_run" = some #[9,f4]) (l4:K.lookup f4=some ⟨oc4,od4,.func (PySem.W.fnOf "tree_run" "tree_run" (bZ T_) (bh T_) (aD T_) (.ref dT4) kV4 dc4 pm4 an4 cd4 ct4),sl4⟩) (c4:PySem.W.codeIn K cd4 "tree_run" = true) (k4:PySem.W.keepIn K (.ref f4)=true) (ld4:K.lookup dT4=some ⟨aej,aei,.seq #[.int 1000 aeg] dn4,aeh⟩)
  {q8:Addr}
  (a8:PySem.W.nsIn K mainGlobals "put_in" = some #[9,f8]) (l8:K.lookup f8=some ⟨oc8,od8,.func (PySem.W.fnOf "put_in" "put_in" (bZ Dy) (bh Dy) (aD Dy) .none kV8 dc8 pm8 an8 (.ref q8) ct8),sl8⟩) (c8:PySem.W.codeIn K (.ref q8) "put_in" = true) (k8:PySem.W.keepIn K (.ref f8)=true) (h8:PySem.W.codeHdIn K q8 75=true) (n8:K.lookup 75=none)
  {q15:Addr}
  (a15:PySem.W.nsIn K mainGlobals "out_and_cost" = some #[9,f15]) (l15:K.lookup f15=some ⟨adC,adz,.func (PySem.W.fnOf "out_and_cost" "out_and_cost" (bZ Dw) (bh Dw) (aD Dw) .none abo abU aa3 ab9 (.ref q15) abW),acW⟩) (c15:PySem.W.codeIn K (.ref q15) "out_and_cost" = true) (k15:PySem.W.keepIn K (.ref f15)=true) (h15:PySem.W.codeHdIn K q15 124=true) (n15:K.lookup 124=none)
  (a45:PySem.W.findIn K (.ref jC) "__init__" = some #[9,f45]) (i45:PySem.W.isFn K (.ref f45)=true) {d45:FuncData} (F45:Dp K "__init__" "Move.__init__" ze3 f45 d45)
  (a46:PySem.W.findIn K (.ref jC) "deed" = some #[9,f46]) (i46:PySem.W.isFn K (.ref f46)=true) (l46:K.lookup f46=some ⟨adB,ady,.func (PySem.W.fnOf "deed" "Move.deed" (bZ Z6) (bh Z6) (aD Z6) .none adM aen adv aes ab3 aep),acV⟩) (c46:PySem.W.codeIn K ab3 "Move.deed" = true) (k46:PySem.W.keepIn K (.ref f46)=true)
  (a55:PySem.W.findIn K (.ref j9) "__init__" = some #[9,f55]) (i55:PySem.W.isFn K (.ref f55)=true) {d55:FuncData} (F55:Dp K "__init__" "Book.__init__" zcm f55 d55)
  (a77:PySem.W.nsIn K mainGlobals "law" = some #[9,f77]) (l77:K.lookup f77=some ⟨adA,adx,.func (PySem.W.fnOf "law" "law" (bZ Ve) (bh Ve) (aD Ve) .none adL aem adu aer ab2 aeo),acU⟩) (c77:PySem.W.codeIn K ab2 "law" = true) (k77:PySem.W.keepIn K (.ref f77)=true)
  {O_:Tok} (xN:PySem.W.nsIn K mainGlobals "BLANK" = some (some (.str "_" O_)))
  {yL:Tok} (lE:PySem.W.nsIn K mainGlobals "NO_THINGS" = some (some (.str "K" yL)))
  {lJ:Addr} {uD:Option Addr} {uG:Nat} {uA:Array (Option Value)} {rC:Tok} {rB:Tok}
  (jU:PySem.W.nsIn K mainGlobals "BARE_NAMES" = some #[9,lJ])
  (uv:K.lookup lJ=some ⟨.type "tuple",uD,.seq #[.str "y" rC,.str "x" rB] uG,uA⟩)
  {lH:Addr} {uC:Option Addr} {uF:Nat} {ux:Array (Option Value)} {rA:Tok} {rn:Tok} {rm:Tok} {q_:Tok}
  (jT:PySem.W.nsIn K mainGlobals "DEED_NAMES" = some #[9,lH])
  (ur:K.lookup lH=some ⟨.type "tuple",uC,.seq #[.str "n" rA,.str "f" rn,.str "l" rm,.str "r" q_] uF,ux⟩)
  {j_:Addr} {tG:Option Addr} {tH:Nat} {tE:Array (Option Value)} {qD:Tok} {qC:Tok}
  (jj:PySem.W.nsIn K mainGlobals "ENTRY_NAMES" = some #[9,j_])
  (tu:K.lookup j_=some ⟨.type "tuple",tG,.seq #[.str "f" qD,.str "v" qC] tH,tE⟩)
  {lG:Addr} {uB:Option Addr} {uE:Nat} {uw:Array (Option Value)} {q9:Tok} {qZ:Tok} {qY:Tok} {qX:Tok}
  (jR:PySem.W.nsIn K mainGlobals "FULL_NAMES" = some #[9,lG])
  (uq:K.lookup lG=some ⟨.type "tuple",uB,.seq #[.str "a" q9,.str "t" qZ,.str "y" qY,.str "x" qX] uE,uw⟩)
  {rD:Addr} {wG:Option Addr} {wI:Nat} {wD:Array (Option Value)} {jV:Addr} {wF:Option Addr} {wH:Nat} {wC:Array (Option Value)} {uJ:Tok} {uI:Tok} {uH:Tok} {uL:Tok} {uK:Tok}
  (qw:PySem.W.nsIn K mainGlobals "IDENTITY" = some #[9,rD])
  (wB:K.lookup rD=some ⟨.type "tuple",wG,.seq #[.ref jV,.str "K" uL,.int 3 uK,.bool true] wI,wD⟩)
  (wA:K.lookup jV=some ⟨.type "tuple",wF,.seq #[.str "S" uJ,.str "K" uI,.int 2 uH,.bool true] wH,wC⟩)
  {o9:Addr} {vd:Option Addr} {vf:Nat} {u_:Array (Option Value)} {tR:Tok} {tQ:Tok} {tO:Tok} {tL:Tok}
  (lD:PySem.W.nsIn K mainGlobals "ROW_NAMES" = some #[9,o9])
  (u0:K.lookup o9=some ⟨.type "tuple",vd,.seq #[.str "l" tR,.str "s" tQ,.str "r" tO,.str "f" tL] vf,u_⟩)
  (U:Us K tbl) (Z:Zs K zs) (acd:As K jC JQ) (ace:As K j9 JR)
  :∃fd:FuncData,(∀(s:Shared) (v:Value),BindsTo s fd ⟨[v],[]⟩ [("_law_script",v)])/\(∀p∈tabs,Nb K p.1 p.2)/\∀base:Heap,K.In base->base.Ns mainGlobals mg->BMain mg base->cH l.prog w K mg base qP 65 fa fd ["_law_script"] (v9 K 1 zl9):=by
 have e:=hfa.symm.trans (afc X G a77);cases e;have F4:=R3 (st:=T_) l4 c4 k4;have F8:=CP (st:=Dy) a8 l8 c8 k8;have F15:=CP (st:=Dw) a15 l15 c15 k15;have F46:=fun_mk (st:=Z6) l46 c46 k46;have F77:=fun_mk (st:=Ve) l77 c77 k77;have b4:=Y5 (x:="tree_run") (qual:="tree_run") (st:=T_) (ps:=["tree","most"]) (kV:=kV4) (doc:=dc4) (pm:=pm4) (cdv:=cd4) (ct:=ct4) (an:=an4) ld4 λus hl=>by obtain⟨_,_,rfl⟩:=us2 hl;exact⟨_,rfl,rfl⟩
 have bd4:=Tj (x:="tree_run") (qual:="tree_run") (st:=T_) (ps:=["tree","most"]) (kV:=kV4) (doc:=dc4) (pm:=pm4) (cdv:=cd4) (ct:=ct4) (an:=an4) ld4 λus hl=>by obtain⟨_,rfl⟩:=us1 (Nat.succ.inj hl);exact⟨_,rfl,rfl⟩
 have b8:Binds K (PySem.W.fnOf "put_in" "put_in" (bZ Dy) (bh Dy) (aD Dy) .none kV8 dc8 pm8 an8 (.ref q8) ct8) ["term","puts"] []:=Binds.all λus hl=>by obtain⟨_,_,rfl⟩:=us2 hl;exact rfl
 have b15:Binds K (PySem.W.fnOf "out_and_cost" "out_and_cost" (bZ Dw) (bh Dw) (aD Dw) .none abo abU aa3 ab9 (.ref q15) abW) ["name","term"] []:=Binds.all λus hl=>by obtain⟨_,_,rfl⟩:=us2 hl;exact rfl
 have b45:=F45.binds (ps:=["self","move","sign_trees"]) λ_ _ _ _ _ _ us hl=>by obtain⟨_,_,_,rfl⟩:=us3 hl;exact rfl
 have b46:=F46.binds (ps:=["self","sign","way"]) λ_ _ _ _ _ _ us hl=>by obtain⟨_,_,_,rfl⟩:=us3 hl;exact rfl
 have b55:=F55.binds (ps:=["self","rules","signs","states"]) λ_ _ _ _ _ _ us hl=>by obtain⟨_,_,_,_,rfl⟩:=us4 hl;exact rfl
 have b77:=F77.binds (ps:=["_law_script"]) λ_ _ _ _ _ _ us hl=>by obtain⟨_,rfl⟩:=us1 hl;exact rfl
 exact⟨_,λs v=>.of_eq rfl,List.forall_mem_cons.mpr ⟨Bb.aau a15 l15 h15 n15,List.forall_mem_cons.mpr ⟨Bb.aau a8 l8 h8 n8,List.forall_mem_nil _⟩⟩,λbase _ _ hB=>JD (Ad:=⟨_,_,_,_,_,_,_,_,_,_,_,_,_,_,_,_⟩) ⟨hB,U.all X G,Z.all X G,acd.all,ace.all,F4,afc X G a4,b4,⟨_,bd4⟩,F8,afc X G a8,b8,F15,afc X G a15,b15,F45,⟨SX,a45,i45,Te⟩,b45,F46,⟨a46,i46,k46⟩,b46,F55,⟨S_,a55,i55,Tf⟩,b55,F77,afc X G a77,b77,CZ,afc X G CZ,⟨Sw,Tc,SJ,Ss⟩,C_,afc X G C_,⟨Sx,Td,SM,Sv⟩,⟨_,afc X G xN⟩,⟨_,afc X G lE⟩,⟨_,afc X G jU,(aq.kt [.str "y",.str "x"] uv (yI (n:=2) 0x5) #[15,.nil] rfl #[16,ao.n])⟩,⟨_,afc X G jT,(aq.kt [.str "n",.str "f",.str "l",.str "r"] ur (yI (n:=4) 0x5) #[15,(.cons ⟨_,rfl⟩ (.cons ⟨_,rfl⟩ .nil))] rfl #[16,(ao.c (aq.ks rfl) (ao.c (aq.ks rfl) ao.n))])⟩,⟨_,afc X G jj,(aq.kt [.str "f",.str "v"] tu (yI (n:=2) 0x5) #[15,.nil] rfl #[16,ao.n])⟩,⟨_,afc X G jR,(aq.kt [.str "a",.str "t",.str "y",.str "x"] uq (yI (n:=4) 0x5) #[15,(.cons ⟨_,rfl⟩ (.cons ⟨_,rfl⟩ .nil))] rfl #[16,(ao.c (aq.ks rfl) (ao.c (aq.ks rfl) ao.n))])⟩,⟨_,afc X G qw,(aq.kt [.ref jV,.str "K",.int 3,.bl true] wB (yI (n:=4) 0x5) (.cons rfl #[15,(.cons rfl .nil)]) rfl (ao.c (aq.kt [.str "S",.str "K",.int 2,.bl true] wA (yI (n:=4) 0x5) #[15,(.cons ⟨_,rfl⟩ (.cons rfl .nil))] rfl #[16,(ao.c aq.ki (ao.c aq.kb ao.n))]) (ao.c (aq.ks rfl) (ao.c aq.ki (ao.c aq.kb ao.n)))))⟩,⟨_,afc X G lD,(aq.kt [.str "l",.str "s",.str "r",.str "f"] u0 (yI (n:=4) 0x5) #[15,(.cons ⟨_,rfl⟩ (.cons ⟨_,rfl⟩ .nil))] rfl #[16,(ao.c (aq.ks rfl) (ao.c (aq.ks rfl) ao.n))])⟩⟩⟩
end Law
set_option maxHeartbeats 0
noncomputable section
namespace Law
open L2 M Tr
def uc{m1 m2:MS}{env env1:aK}{st st1:ak}(h:m1 env st=.ok (.nx env1) st1):aC m1 m2 env st=m2 env1 st1:=by rw[Iu,h];rfl
def GX{i:Nat}{e:ME}{env:aK}{st st1:ak}{d:D}(h:e env st=.ok d st1):aJ i e env st=.ok (.nx (env.set i (some d))) st1:=by
 rw[V8,h];rfl
def oF{c f:PySem.Str}{m:ME}{env:aK}{st:ak}{n:Nat}{fs:List (PySem.Str×D)}{x:D}(hm:m env st=.ok (.loc n) st)(h:st[n]? = some (.ins c fs))(hx:fs.lookup f=some x):cF c f m env st=.ok x st:=by
 unfold cF;rw[hm,R.aB];dsimp only;rw[h];dsimp only;rw[ae7 rfl,hx]
def zle{c f:PySem.Str}{mo mv:ME}{env:aK}{st st1:ak}{n:Nat}{fs:List (PySem.Str×D)}{d:D}(hv:mv env st=.ok d st1)(hm:mo env st1=.ok (.loc n) st1)(h:st1[n]? = some (.ins c fs))(hl:fs.length<1000):cM c f mo mv env st=.ok (.nx env) (st1.set n (.ins c (xq f d fs))):=by
 unfold cM;rw[hv,R.aB,hm,R.aB];dsimp only;rw[h];dsimp only;rw[ae7 ⟨rfl,hl⟩]
def bU{F:FD}{mA:MA}{env:aK}{st st1 st2:ak}{as:List D}{d:D}(hF:F as st1=.ok d st2)(ha:mA env st=.ok as st1):az F [] mA env st=.ok d st2:=by simp[ha,hF]
def sW{f:List D->ak->R D}{mA:MA}{env:aK}{st st1 st2:ak}{as:List D}{d:D}(hF:f as st1=.ok d st2)(ha:mA env st=.ok as st1):bD f mA env st=.ok d st2:=by simp[ha,hF]
def aY{e:ME}{mA:MA}{env:aK}{st st1 st2:ak}{as:List D}{d:D}(h:e env st=.ok d st1)(ha:mA env st1=.ok as st2):aj e mA env st=.ok (d::as) st2:=by simp[ha,h]
def aO{g:D->D->ak->R D}{a b:ME}{env:aK}{st st1 st2 ie:ak}{x y d:D}(ha:a env st=.ok x st1)(hb:b env st1=.ok y st2)(hg:g x y st2=.ok d ie):aF g a b env st=.ok d ie:=by simp[ha,hb,hg]
def cB{i:Nat}{e:ME}{m2:MS}{env:aK}{st st1:ak}{d:D}{r:R Out}(h:e env st=.ok d st1)(k:m2 (env.set i (some d)) st1=r):aC (aJ i e) m2 env st=r:=by rw[uc (GX h)];exact k
def sZ{t:MT}{a m2:MS}{env:aK}{st st1:ak}{r:R Out}(h:t env st=.ok false st1)(k:m2 env st1=r):aC (fJ t a bI) m2 env st=r:=by simp[h,k]
def xW{e:ME}{G:MG}{m2:MS}{env env1:aK}{st st1 st2:ak}{d:D}{r:R Out}(h:e env st=.ok d st1)(hg:G d env st1=.ok env1 st2)(k:m2 env1 st2=r):aC (jy e G) m2 env st=r:=by simp[h,hg,k]
def Og{a b:MT}{env:aK}{st st1 st2:ak}{c:Bool}(h:a env st=.ok false st1)(k:b env st1=.ok c st2):Ex a b env st=.ok c st2:=by simp[h,k]
def yF{a:MT}{env:aK}{st st1:ak}{c:Bool}(h:a env st=.ok c st1):tW a env st=.ok (!c) st1:=by simp[h]
def qu{a:ME}{env:aK}{st st1:ak}{x:D}{c:Bool}(h:a env st=.ok x st1)(k:jG x st1=some c):jP a env st=.ok c st1:=by simp[h,k]
def zO{g:D->ak->R D}{a:ME}{env:aK}{st st1 st2:ak}{x d:D}(ha:a env st=.ok x st1)(hg:g x st1=.ok d st2):zT g a env st=.ok d st2:=by simp[ha,hg]
def Zn{a b:ME}{env:aK}{st st1 st2:ak}{d:D}(h:a env st=.ok (.bl true) st1)(k:b env st1=.ok d st2):uU a b env st=.ok d st2:=by simp[h,k]
def eZ{e:ME}{env:aK}{st st1:ak}{d:D}(h:e env st=.ok d st1):retS e env st=.ok (.rt d) st1:=by simp[h]
def wz{mA:MA}{env:aK}{st st1:ak}{ds:List D}(h:mA env st=.ok ds st1)(hl:ds.length<=1000000:=by simp):fW mA env st=.ok (.tup ds) st1:=by simp[h,hl]
def dW{a:ME}{env:aK}{st st1:ak}{c:Bool}(h:a env st=.ok (.bl c) st1):d7 a env st=.ok c st1:=by simp[h]
def aZ{x:R Out}{f:Out->ak->R D}{st st1:ak}{d:D}{r:R D}(h:x=.ok (.rt d) st1)(hf:f (.rt d) st1=.ok d st1)(k:gc st (.ok d st1)=r):gc st (x.bind f)=r:=by rw[h,R.aB,hf];exact k
def uZ{T:String}{f:D->List D->ak->R D}{mo:ME}{mA:MA}{env:aK}{st st1 st2 ie:ak}{x d:D}{as:List D}(h:mo env st=.ok x st1)(ht:cX T x st1=true)(ha:mA env st1=.ok as st2)(hf:f x as st2=.ok d ie):cI T f mo mA env st=.ok d ie:=by simp[h,ht,ha,hf]
def Hl{c f:PySem.Str}{mo mv:ME}{m2:MS}{env:aK}{st st1 st2:ak}{n:Nat}{fs:List (PySem.Str×D)}{d:D}{r:R Out}(hv:mv env st=.ok d st1)(hm:mo env st1=.ok (.loc n) st1)(h:st1[n]? = some (.ins c fs))(e:st1.set n (.ins c (xq f d fs))=st2)(k:m2 env st2=r)(hl:fs.length<1000:=by simp):aC (cM c f mo mv) m2 env st=r:=by rw[uc (zle hv hm h hl),e];exact k
def GZ{mi:MI}{g:MG}{b m2:MS}{env env1:aK}{st st1 st2:ak}{s:List D}{gs:List (Nat×MO)}{r:R Out}(hi:mi env st=.ok (s,gs) st1)(h:bY g b gs s env st1=.ok (.nx env1) st2)(k:m2 env1 st2=r):aC (iH mi g b) m2 env st=r:=by rw[uc (by rw[xR,hi,R.aB];exact h)];exact k
def yz{e:ME}{G:MG}{env env1:aK}{st st1 st2:ak}{d:D}(h:e env st=.ok d st1)(hg:G d env st1=.ok env1 st2):jy e G env st=.ok (.nx env1) st2:=by simp[h,hg]
def Zt{g:D->D->D->ak->R Unit}{a b:ME}{d x y:D}{env:aK}{st st1 st2 ie:ak}(ha:a env st=.ok x st1)(hb:b env st1=.ok y st2)(hg:g x y d st2=.ok () ie):tU g a b d env st=.ok env ie:=by simp[ha,hb,hg]
def yJ{e:ME}{env:aK}{st st1:ak}{d:D}(h:e env st=.ok d st1):dO e env st=.ok (.nx env) st1:=by simp[h]
def UT{x:R Out}{f:Out->ak->R D}{env:aK}{st st1:ak}{r:R D}(h:x=.ok (.nx env) st1)(hf:f (.nx env) st1=.ok .non st1)(k:gc st (.ok .non st1)=r):gc st (x.bind f)=r:=by rw[h,R.aB,hf];exact k
def add_int{i j k:Int}{st:ak}(h:i+j=k):bj (.int i) (.int j) st=.ok (.int k) st:=by subst h;rfl
def add_str{a b:List Nat}{st:ak}(h:a.length+b.length<=1000000):bj (.str a) (.str b) st=.ok (.str (a++b)) st:=ae7 h
def Nk{a b c:Nat}{st:ak}(h:a+b=c):bj (.int a) (.int b) st=.ok (.int c) st:=add_int 0x0
def Ol{t:MT}{a:MS}{env:aK}{st st1:ak}(h:t env st=.ok false st1):fJ t a bI env st=.ok (.nx env) st1:=by simp[h]
def qQ{t:MT}{a b:MS}{env:aK}{st st1:ak}{r:R Out}(h:t env st=.ok true st1)(k:a env st1=r):fJ t a b env st=r:=by simp[h,k]
def J2{c m:PySem.Str}{F:FD}{mo:ME}{mA:MA}{env:aK}{st st1 st2:ak}{n:Nat}{fs fs2:List (PySem.Str×D)}{as:List D}{d:D}(h:mo env st=.ok (.loc n) st)(ho:st[n]? = some (.ins c fs))(ha:mA env st=.ok as st1)(K7:st1[n]? = some (.ins c fs2))(hF:F (.loc n::as) st1=.ok d st2)(hm:fs.lookup m=none:=by rfl):Ca c m F mo mA env st=.ok d st2:=by
 unfold Ca;rw[h,R.aB];dsimp only;rw[ho];dsimp only;rw[ae7 ⟨rfl,hm⟩,ha,R.aB,K7];dsimp only;rw[hF];rfl
def f9{i:Int}{ds:List D}{d:D}{st:ak}(hi:qJ ds i=some d:=by rfl):aX (.tup ds) (.int i) st=.ok d st:=Bf st i ds d hi
def zso{e:ME}{env:aK}{st:ak}{cs:List Nat}(h:e env st=.ok (.str cs) st)(ha:cs.all (λc=>decide (c<128))=true):yM e env st=.ok (cs.map λc=>D.str [c],[]) st:=by
 rw[V7,h,R.aB];dsimp only;rw[ae7 ha]
def oX{st:ak}{n k:Nat}{g:ak}{o:MO}(h:g[k]? = some o)(e:n=st.length+k:=by rfl):(st++g)[n]? = some o:=by subst e;rw[kj 0x0,show st.length+k - st.length=k by omega];exact h
def Ij{e:ME}{env:aK}{st:ak}{cs:List Nat}(h:e env st=.ok (.str cs.reverse) st)(hl:cs.length<=1000000):Bx (aj e au) env st=.ok (cs.map λc=>D.str [c],[]) st:=by simp[h,hl]
def T3{t:MT}{a b:ME}{env:aK}{st st1:ak}{c:Bool}{r:R D}(h:t env st=.ok c st1)(k:(bif c then a env st1 else b env st1)=r):Hd t a b env st=r:=by cases c<;>simpa[h] using k
def eq_str{a b:List Nat}{st:ak}:M.ig 800 (.str a) (.str b) st=.ok (.bl (decide (a=b))) st:=by simp
def v7{m1 m2:MS}{env:aK}{st st1:ak}{d:D}(h:m1 env st=.ok (.rt d) st1):aC m1 m2 env st=.ok (.rt d) st1:=by rw[Iu,h];rfl
def Dj{a b:MT}{env:aK}{st st1 st2:ak}{c:Bool}(h:a env st=.ok true st1)(k:b env st1=.ok c st2):lr a b env st=.ok c st2:=by simp[h,k]
def Tw{a b:MT}{env:aK}{st st1:ak}(h:a env st=.ok false st1):lr a b env st=.ok false st1:=by simp[h]
def HR{a:ME}{l h:MP}{env:aK}{st:ak}{x d:D}{lo hi:Option Int}(ha:a env st=.ok x st)(hl:l env st=.ok lo st)(hh:h env st=.ok hi st)(k:xQ x lo hi st=.ok d st):G8 a l h env st=.ok d st:=by simp[ha,hl,hh,k]
def eq_int{i j:Int}{st:ak}:M.ig 800 (.int i) (.int j) st=.ok (.bl (decide (i=j))) st:=by simp
def Zo{i:Int}{st:ak}:M.ig 800 (.int i) (.int i) st=.ok (.bl true) st:=by simp
def zkg{i:List Nat}{st:ak}:M.ig 800 (.str i) (.str i) st=.ok (.bl true) st:=by simp
def vy{L:Nat}{x y:D}{st:ak}{k:Bool}(h:M.ig L x y st=.ok (.bl k) st):M.yR L x y st=.ok (.bl (!k)) st:=by
 unfold M.ig at h;unfold M.yR;cases e:j5 L x y st with
 | none=>rw[e]at h;cases h
 | some j =>
  rw[e]at h;injection h with h _;injection h with h;subst h;rfl
def Vj{T:String}{f:D->List D->ak->R D}{mo:ME}{env:aK}{st st1 st2:ak}{x d:D}(h:mo env st=.ok x st1)(ht:cX T x st1=true)(hf:f x [] st1=.ok d st2):fc T f mo env st=.ok d st2:=by simp[h,ht,hf]
def BX{a:ME}{env:aK}{st st1:ak}{c:Bool}(h:a env st=.ok (.bl c) st1):JK a env st=.ok (.bl (!c)) st1:=by simp[h]
def uX(l r:Tr)(s:ak):aX (enc 0x2) (.int 0) s=.ok (enc l) s:=by rw[enc];exact f9
def xH(l r:Tr)(s:ak):aX (enc 0x2) (.int 1) s=.ok (enc r) s:=by rw[enc];exact f9
def Hk(l r:Tr)(s:ak):yj "str" (enc 0x2) s=.ok (.bl false) s:=by rw[enc];rfl
def wu{n:Nat}{o:MO}{st:ak}(h:st[n]? = some o):uO [(n,o)] st:=by simp[uO,h]
def zpu{a:ME}{l h:MP}{env:aK}{st st1:ak}{x d:D}{lo hi:Option Int}(ha:a env st=.ok x st)(hl:l env st=.ok lo st)(hh:h env st=.ok hi st)(k:xQ x lo hi st=.ok d st1):G8 a l h env st=.ok d st1:=by simp[ha,hl,hh,k]
def lR{t:MT}{a b:MS}{env:aK}{st st1:ak}{r:R Out}(h:t env st=.ok false st1)(k:b env st1=r):fJ t a b env st=r:=by simp[h,k]
def zks{a b:MT}{env:aK}{st:ak}{c d:Bool}(h:a env st=.ok c st)(k:b env st=.ok d st):lr a b env st=.ok (c && d) st:=by cases c<;>simp[h,k]
def QM{a b:MT}{env:aK}{st:ak}{c d:Bool}(h:a env st=.ok c st)(k:b env st=.ok d st):Ex a b env st=.ok (c || d) st:=by cases c<;>simp[h,k]
def BP{a b:ME}{env:aK}{st:ak}{c d:Bool}(h:a env st=.ok (.bl c) st)(k:b env st=.ok (.bl d) st):orV a b env st=.ok (.bl (c || d)) st:=by cases c<;>simp[h,k]
def M9{a b:ME}{env:aK}{st:ak}{c d:Bool}(h:a env st=.ok (.bl c) st)(k:b env st=.ok (.bl d) st):uU a b env st=.ok (.bl (c && d)) st:=by cases c<;>simp[h,k]
def J7{i j:Nat}{st:ak}:ltV (.int i) (.int j) st=.ok (.bl (decide (i<j))) st:=by simp
def zs7{e:ME}{n:Nat}{as:List D}{st:ak}{d:D}(h:e (startM n as) st=.ok d st)(hu:under st.length d):bC (bB n (retS e)) as st=.ok d st:=aZ (eZ h) rfl (fu hu)
def zr0{st g:ak}{n k:Nat}{ds:List D}{d:D}(h:g[k]? = some (.lst ds))(hl:ds.length<1000000)(e:n=st.length+k:=by rfl):aW (.loc n) [d] (st++g)=.ok .non (st++g.set k (.lst (ds++[d]))):=by
 have q:=oX (st:=st) h e;unfold aW;simp only[q];rw[ae7 hl,e,List.set_append_right _ _ 0x0,show st.length+k - st.length=k by omega]
def Af{st g:ak}{n k:Nat}{ds:List D}{d:D}(h:g[k]? = some (.lst (ds++[d])))(e:n=st.length+k:=by rfl):rH (.loc n) [] (st++g)=.ok d (st++g.set k (.lst ds)):=by
 have q:=oX (st:=st) h e;unfold rH;simp only[q];simp[e]
def lty{st g:ak}{n k:Nat}{ds:List D}(h:g[k]? = some (.lst ds))(e:n=st.length+k:=by rfl):cX "list" (.loc n) (st++g)=true:=by
 have q:=oX (st:=st) h e;simp[cX,q]
def Yb(l r:Tr)(s:ak):aX (enc 0x2) (.int 2) s=.ok (.int (lv 0x2:Nat)) s:=by rw[enc];exact f9
def KH(l r:Tr)(s:ak):aX (enc 0x2) (.int 3) s=.ok (.bl (val 0x2)) s:=by rw[enc];exact f9
def zk0{env:aK}{st:ak}:d_ au env st=.ok 0x3 (st++[.lst []]):=by simp
def Zy{mA:MA}{env:aK}{st st1:ak}{ds:List D}(h:mA env st=.ok ds st1)(hl:ds.length<=1000000:=by simp):d_ mA env st=.ok (.loc st1.length) (st1++[.lst ds]):=by simp[h,hl]
def Ye(s:List Nat)(st:ak):yj "str" (enc (.lf s)) st=.ok (.bl true) st:=rfl
def PX{e:ME}{env:aK}{st:ak}{n:Nat}{ds:List D}(h:e env st=.ok (.loc n) st)(hs:st[n]? = some (.lst ds)):Ik (aj e au) env st=.ok (ds.reverse,[(n,.lst ds)]) st:=by simp[h,rN,hs]
def zob{m:ME}{env:aK}{st st1:ak}{n:Nat}{ds:List D}(hm:m env st=.ok (.loc n) st1)(h:st1[n]? = some (.lst ds)):fB m env st=.ok (ds,[(n,.lst ds)]) st1:=by
 rw[ztp,hm];simp only[R.aB,h]
def zdm(t:Tr)(st:ak):Bg [enc t] st=.ok (.bl (val t)) st:=by
 cases t with
 | lf s=>exact zs7 (e:=orV _ _) (by simp[startM,enc,lq,val]) 0x1
 | jn l r=>exact zs7 (BP (zO rfl (Hk _ _ _)) #[0,(KH _ _ _)]) 0x1
def zpt(t:Tr)(st:ak):zej [enc t] st=.ok (.int (lv t:Nat)) st:=by
 unfold zej bC bB zmd;cases t with
 | lf s=>exact aZ (d:=.int 1) (v7 (qQ (qu (zO rfl rfl) rfl) (eZ rfl))) rfl (fu 0x1)
 | jn l r=>exact aZ (sZ (qu (zO rfl (Hk _ _ _)) rfl) (eZ #[0,(Yb _ _ _)])) rfl (fu 0x1)
def bqd(s t:List Nat):(s==t)=decide (s=t):=by rw[mD];simp
def zsc(l r:Tr)(st:ak):ze8 [enc l,enc r] st=.ok (.bl (val 0x2)) st:=by
 unfold ze8 bC bB zjz;have hv:=zdm r st;cases hr:val r with
 | false =>
  rw[hr]at hv;have e:val 0x2=false:=by
   cases q:val 0x2 with
   | false=>rfl
   | true=>rw[(Ov q).2]at hr;cases hr
  rw[e];exact aZ (v7 (qQ (yF (qu (bU hv rfl) rfl)) (eZ rfl))) rfl (fu 0x1)
 | true =>
  rw[hr]at hv;cases l with
  | lf s =>
   rw[Vq,hr,Bool.true_and,bqd,bqd];have e1:=T7 799 (.lf s) [83] st;have e2:=T7 799 (.lf s) [75] st;exact aZ (sZ (yF (qu (bU hv rfl) rfl)) (v7 (qQ (qu (zO rfl rfl) rfl) (eZ (BP #[0,e1] #[0,e2]))))) rfl (fu 0x1)
  | jn a b =>
   have e1:M.ig 800 (enc a) (.str [83]) st=.ok (.bl (wV (.jn a b))) st:=by
    cases a with
    | lf s=>rw[show wV (.jn (.lf s) b)=decide (s=[83]) from bqd _ _];exact T7 799 (.lf s) [83] st
    | jn c d=>exact T7 799 (.jn c d) [83] st
   rw[Vk,hr,Bool.true_and];exact aZ (sZ (yF (qu (bU hv rfl) rfl)) (sZ (qu (zO rfl (Hk _ _ _)) rfl) (eZ (M9 (aO #[0,(uX _ _ _)] rfl e1) #[0,(KH _ _ _)])))) rfl (fu 0x1)
def xK(l r:Tr)(st:ak):sY [enc l,enc r] st=.ok (enc 0x2) st:=by
 have e:enc 0x2=.tup [enc l,enc r,.int ((lv l:Nat)+(lv r:Nat)),.bl (val 0x2)]:=by rw[enc,lv];simp
 have hu:=jE st.length 0x2;rw[e]at hu ⊢;exact zs7 (wz (aY rfl (aY rfl (aY (aO (bU (zpt l st) rfl) (bU (zpt r st) rfl) rfl) (aY (bU (zsc l r st) rfl) rfl))))) hu
def zr:Fr->D
 | .fl r=>.tup [.non,enc r]
 | .fr l=>.tup [enc l,.non]
def Fl(f:Fr)(t:Tr)(st:ak):ZL [zr f,enc t] st=.ok (enc (fill f t)) st:=by
 unfold ZL bC bB zlx;cases f with
 | fl r=>exact aZ (v7 (qQ (dW (aO #[0,f9] rfl rfl)) (eZ (bU (xK t r st) #[11,#[0,f9]])))) rfl (fu (jE st.length _))
 | fr l=>exact aZ (sZ (dW (aO #[0,f9] rfl (LR l st))) (eZ (bU (xK l t st) (aY #[0,f9] rfl)))) rfl (fu (jE st.length _))
def zub(l r u:Tr)(st:ak)(h:fX l r=some u):ze9 [enc l,enc r] st=.ok (enc u) st:=by
 unfold ze9 bC bB zj2;have hu:=jE st.length u;cases l with
 | lf s=>rw[fX]at h;cases h
 | jn a b =>
  have e1:=T7 799 a [75] st;cases a with
  | lf s =>
   rw[fX]at h
   split at h
   ·rename_i hs;subst hs;cases h;exact aZ (v7 (qQ (dW (aO #[0,(uX _ _ _)] rfl e1)) (eZ #[0,(xH _ _ _)]))) rfl (fu hu)
   ·cases h
  | jn a c =>
   rw[fX]at h;cases h;exact aZ (sZ (dW (aO #[0,(uX _ _ _)] rfl e1)) (eZ (bU (xK (.jn c r) (.jn b r) st) (aY (bU (xK c r st) (aY (aO #[0,(uX _ _ _)] rfl (xH _ _ _)) rfl)) (aY (bU (xK b r st) (aY #[0,(xH _ _ _)] rfl)) rfl))))) rfl (fu hu)
def Io{l r:Tr}(hl:val l=true)(hr:val r=true)(h:val 0x2=false):(∃s,l=.lf s)\/∃u,fX l r=some u:=by
 cases l with
 | lf s=>exact .inl ⟨s,rfl⟩
 | jn a b =>
  refine .inr ?_;cases a with
  | jn a c=>exact⟨_,rfl⟩
  | lf s =>
   rw[Vq,gM,p6]at hl;rcases hl.2 with e | e
   ·have:val (.jn (.jn (.lf s) b) r)=true:=by rw[Vk,hr,Vq,hl.1];simp[wV,eq_of_beq e]
    rw[this]at h;cases h
   ·exact⟨b,by rw[fX,ae7 (eq_of_beq e)]⟩
def O8(st:ak)(ds:List D):jG 0x3 (st++[.lst ds])=some (!ds.isEmpty):=by
 simp[jG]
def zjt(t:Tr)(n:Nat)(st:ak)(h:dp t+n<=900000) :
  Z5 [enc t,.int n] st=.ok (.tup [.str (if val (run n t).1=true then [118,97,108,117,101] else [111,110]),enc (run n t).1,.int ((run n t).2:Nat)]) st:=by
 unfold Z5 bC bB zc3;generalize hC:(lr (d7 (aF ltV (vr 4) (vr 1))) _:MT)=C;generalize hB:(fJ (jP #[7,Bg,(vr 2)]) (aJ 2 _) _:MS)=B;generalize hP:(aJ 2 (az ZL [] #[5,(fc "list" rH (vr 3)),(vr 2)]):MS)=P
 let E:Tr->Nat->aK:=λx k=>[some (enc t),some (.int n),some (enc x),some 0x3,some (.int k)]
 let S:List Fr->ak:=λfs=>st++[.lst (fs.map zr)]
 have ht:∀fs:List Fr,jG 0x3 (S fs)=some (!fs.isEmpty):=λfs=>by
  have:=O8 st (fs.map zr);rwa[List.isEmpty_map]at this
 have vt:∀{x:Tr} {b:Bool} {Z:ak} {m:ME} {env:aK},m env Z=.ok (enc x) Z->val x=b->jP #[7,Bg,m] env Z=.ok b Z:=λ{x b Z m env} hm e=>by
  have:=zdm x Z;rw[e]at this;exact qu (bU this (aY hm rfl)) rfl
 have fC:∀(x:Tr) (fs:List Fr) (k:Nat),C (E x k) (S fs)=.ok (decide (k<n) && (!fs.isEmpty || !val x)) (S fs):=λx fs k=>by
  rw[<-hC];exact zks (dW #[0,J7]) (QM (qu rfl (ht fs)) (yF (vt rfl rfl)))
 have hp:∀gs f,rH 0x3 [] (S (gs++[f]))=.ok (zr f) (S gs):=λgs f=>Af (k:=0) 0x1;have isl:∀fs,cX "list" 0x3 (S fs)=true:=λfs=>lty (k:=0) rfl;have pj:∀(x:Tr) (gs:List Fr) (f:Fr) (k:Nat),P (E x k) (S (gs++[f]))=.ok (.nx (E (fill f x) k)) (S gs):=λx gs f k=>by
  rw[<-hP];exact GX (bU (Fl f x (S gs)) (aY (Vj rfl (isl _) (hp gs f)) rfl))
 have fB1:∀(x:Tr) (gs:List Fr) (f:Fr) (k:Nat),val x=true->B (E x k) (S (gs++[f]))=.ok (.nx (E (fill f x) k)) (S gs):=λx gs f k hx=>by
  rw[<-hB];exact qQ (vt rfl hx) ((congrArg (λm:MS=>m _ _) hP).trans (pj x gs f k))
 have app:∀(fs:List Fr) (f:Fr),fs.length<1000000->aW 0x3 [zr f] (S fs)=.ok .non (S (fs++[f])):=λfs f hl=>by
  have:=zr0 (st:=st) (g:=[.lst (fs.map zr)]) (k:=0) (d:=zr f) rfl (by rwa[gj]);show _=R.ok _ (st++[.lst ((fs++[f]).map zr)]);rw[mU];exact this
 have fB2:∀(l r:Tr) (fs:List Fr) (k:Nat),fs.length<1000000->val 0x2=false->val l=false->B (E 0x2 k) (S fs)=.ok (.nx (E l k)) (S (fs++[.fl r])):=λl r fs k hfl hv hl=>by
  rw[<-hB];exact lR (vt rfl hv) (qQ (yF (vt #[0,(uX _ _ _)] hl)) ((uc (yJ (uZ rfl (isl _) (aY (wz #[11,#[0,(xH _ _ _)]]) rfl) (app fs (.fl r) hfl)))).trans (GX #[0,(uX _ _ _)])))
 have fB3:∀(l r:Tr) (fs:List Fr) (k:Nat),fs.length<1000000->val 0x2=false->val l=true->val r=false->B (E 0x2 k) (S fs)=.ok (.nx (E r k)) (S (fs++[.fr l])):=λl r fs k hfl hv hl hr=>by
  rw[<-hB];exact lR (vt rfl hv) (lR (yF (vt #[0,(uX _ _ _)] hl)) (qQ (yF (vt #[0,(xH _ _ _)] hr)) ((uc (yJ (uZ rfl (isl _) (aY (wz (aY #[0,(uX _ _ _)] rfl)) rfl) (app fs (.fr l) hfl)))).trans (GX #[0,(xH _ _ _)]))))
 have fB4:∀(s:List Nat) (r:Tr) (fs:List Fr) (k:Nat),val (.jn (.lf s) r)=false->val r=true->B (E (.jn (.lf s) r) k) (S fs)=.ok (.bk (E (.jn (.lf s) r) k)) (S fs):=λs r fs k hv hr=>by
  rw[<-hB];exact lR (vt rfl hv) (lR (yF (vt (b:=true) #[0,(uX _ _ _)] rfl)) (lR (yF (vt #[0,(xH _ _ _)] hr)) (qQ (qu (zO #[0,(uX _ _ _)] rfl) rfl) rfl)))
 have fB5:∀(l r u:Tr) (fs:List Fr) (k:Nat),val 0x2=false->val l=true->val r=true->fX l r=some u->B (E 0x2 k) (S fs)=.ok (.nx (E u (k+1))) (S fs):=λl r u fs k hv hl hr hx=>by
  have i1:yj "str" (enc l) (S fs)=.ok (.bl false) (S fs):=by
   cases l with
   | lf s=>rw[fX]at hx;cases hx
   | jn _ _=>exact Hk _ _ _
  rw[<-hB];exact lR (vt rfl hv) (lR (yF (vt #[0,(uX _ _ _)] hl)) (lR (yF (vt #[0,(xH _ _ _)] hr)) (lR (qu (zO #[0,(uX _ _ _)] i1) rfl) (cB (bU (zub l r u (S fs) hx) (aY #[0,(uX _ _ _)] (aY #[0,(xH _ _ _)] rfl))) (GX #[0,(add_int 0x0)])))))

 have W:∀(m:Nat) (x:Tr) (fs:List Fr) (k:Nat),k+m=n->good fs->dp (cW fs x)+m<=900000 ->
   ∃x' yH,bf C B (E x k) (S fs)=.ok (.nx (E x' (k+(run m (cW fs x)).2))) (S yH)/\cW yH x'=(run m (cW fs x)).1:=by
  intro m
  induction m with
  | zero =>
   intro x fs k hk hg hd;refine⟨x,fs,?_,rfl⟩;rw[xm,fC,show decide (k<n)=false from ae_ 0x0];simp[run]
  | succ m ih =>
   have hN:∀(x:Tr) (fs:List Fr) (k:Nat),val x=false->k+(m+1)=n->good fs->dp (cW fs x)+(m+1)<=900000 ->
     ∃x' yH,bf C B (E x k) (S fs)=.ok (.nx (E x' (k+(run (m+1) (cW fs x)).2))) (S yH)/\cW yH x'=(run (m+1) (cW fs x)).1:=by
    intro x
    induction x with
    | lf s=>intro fs k hv;simp[val]at hv
    | jn l r ihl ihr =>
     intro fs k hv hk hg hd;have hfl:fs.length<1000000:=by have:=Qp fs 0x2;omega
     have hc:C (E 0x2 k) (S fs)=.ok true (S fs):=by
      rw[fC,hv,show decide (k<n)=true from afb 0x0];simp
     rw[xm,hc,R.aB,ae7 rfl];cases hl:val l with
     | false =>
      rw[fB2 l r fs k hfl hv hl,R.aB];have e:cW (fs++[.fl r]) l=cW fs 0x2:=zhv fs (.fl r) l;have:=ihl (fs++[.fl r]) k hl hk (λf hf l' e'=>by
       rcases mz.mp hf with hf | hf
       ·exact hg f hf l' e'
       ·obtain rfl:f=.fl r:=by simpa using hf
        cases e') (by rw[e];exact hd)
      rw[e]at this;exact this
     | true =>
      cases hr:val r with
      | false =>
       rw[fB3 l r fs k hfl hv hl hr,R.aB];have e:cW (fs++[.fr l]) r=cW fs 0x2:=zhv fs (.fr l) r;have:=ihr (fs++[.fr l]) k hr hk (λf hf l' e'=>by
        rcases mz.mp hf with hf | hf
        ·exact hg f hf l' e'
        ·obtain rfl:f=.fr l:=by simpa using hf
         cases e';exact hl) (by rw[e];exact hd)
       rw[e]at this;exact this
      | true =>
       have hs:=Ec (fs:=fs) hg hv;rw[zgi hl hr hv]at hs;rcases Io hl hr hv with⟨s,rfl⟩ | ⟨u,hu⟩
       ·rw[fX]at hs;rw[fB4 s r fs k hv hr,R.aB,Vi hs];exact⟨_,fs,rfl,rfl⟩
       ·rw[hu]at hs;have hs:step (cW fs 0x2)=some (cW fs u):=hs;rw[fB5 l r u fs k hv hl hr hu,R.aB,zk6 hs];have hd2:=zr8 hs;obtain⟨x',yH,h1,h2⟩:=ih u fs (k+1) 0x0 hg 0x0;refine⟨x',yH,?_,h2⟩;dsimp only;rw[show k+((run m (cW fs u)).2+1)=k+1+(run m (cW fs u)).2 by omega];exact h1
   have hV:∀(q:Nat) (x:Tr) (fs:List Fr) (k:Nat),fs.length<=q->k+(m+1)=n->good fs->dp (cW fs x)+(m+1)<=900000 ->
     ∃x' yH,bf C B (E x k) (S fs)=.ok (.nx (E x' (k+(run (m+1) (cW fs x)).2))) (S yH)/\cW yH x'=(run (m+1) (cW fs x)).1:=by
    intro q
    induction q with
    | zero =>
     intro x fs k hq hk hg hd;obtain rfl:fs=[]:=nZ.mp 0x0;cases hv:val x with
     | false=>exact hN x [] k hv hk hg hd
     | true =>
      refine⟨x,[],?_,?_⟩
      ·rw[xm,fC,hv,Vi (zlk (show val (cW [] x)=true from hv))];simp
      ·rw[Vi (zlk (show val (cW [] x)=true from hv))]
    | succ q ihq =>
     intro x fs k hq hk hg hd;cases hv:val x with
     | false=>exact hN x fs k hv hk hg hd
     | true =>
      by_cases hf:fs=[]
      ·subst hf;exact ihq x [] k 0x1 hk hg hd
      ·obtain⟨gs,f,rfl⟩:∃gs f,fs=gs++[f]:=⟨fs.dropLast,fs.getLast hf,(qd hf).symm⟩;have hc:C (E x k) (S (gs++[f]))=.ok true (S (gs++[f])):=by
        rw[fC,show decide (k<n)=true from afb 0x0];simp
       rw[xm,hc,R.aB,ae7 rfl,fB1 x gs f k hv,R.aB];have e:cW (gs++[f]) x=cW gs (fill f x):=zhv gs f x;rw[e]at hd ⊢;exact ihq (fill f x) gs k (by simp at hq;omega) hk (λf' hf'=>hg f' (pO _ hf')) hd
   intro x fs k hk hg hd;exact hV fs.length x fs k (gb _) hk hg hd

 have V:∀(q:Nat) (x:Tr) (fs:List Fr) (k:Nat),fs.length<=q->bf (jP (vr 3)) P (E x k) (S fs)=.ok (.nx (E (cW fs x) k)) (S []):=by
  intro q
  induction q with
  | zero =>
   intro x fs k hq;obtain rfl:fs=[]:=nZ.mp 0x0;rw[xm,show jP (vr 3) (E x k) (S [])=.ok false (S []) from qu rfl (ht [])];rfl
  | succ q ihq =>
   intro x fs k hq;by_cases hf:fs=[]
   ·subst hf;exact ihq x [] k 0x1
   ·obtain⟨gs,f,rfl⟩:∃gs f,fs=gs++[f]:=⟨fs.dropLast,fs.getLast hf,(qd hf).symm⟩;have ht:=ht (gs++[f]);rw[show (gs++[f]).isEmpty=false by simp]at ht;rw[xm,show jP (vr 3) (E x k) (S (gs++[f]))=.ok true (S (gs++[f])) from qu rfl ht,R.aB,ae7 rfl,pj,R.aB,zhv];exact ihq (fill f x) gs k (by simp at hq;omega)
 obtain⟨x',yH,h1,h2⟩:=W n t [] 0 0x0 (λf hf=>absurd hf (km)) (by show dp t+n<=_;exact h);rw[show cW [] t=t from rfl,mZ]at h1;rw[show cW [] t=t from rfl]at h2;have h3:=V yH.length x' yH (run n t).2 (gb _);rw[h2]at h3;have hu:=jE st.length (run n t).1;refine aZ (st1:=S []) (cB rfl (cB (zk0) (cB rfl ((uc h1).trans ((uc h3).trans (eZ (wz (aY (T3 (vt rfl rfl) ?_) rfl)))))))) rfl (qU (by simp[hu]));cases val (run n t).1<;>rfl
end Law
set_option maxHeartbeats 0
namespace M
def zmz{g:MG}{b:MS}{gs:List (Nat×MO)}{d:D}{r:List D}{env env1 bw:aK}{st st1 st2:ak}(ho:uO gs st)(hg:g d env st=.ok env1 st1)(hb:b env1 st1=.ok (.nx bw) st2) :
  bY g b gs (d::r) env st=bY g b gs r bw st2:=by
 rw[bY,ae7 ho,hg,R.aB,hb,R.aB]
def Ga{g:MG}{b:MS}{gs:List (Nat×MO)}{env:aK}{st:ak}(ho:uO gs st):bY g b gs [] env st=.ok (.nx env) st:=by
 rw[bY,ae7 ho]
namespace Tr
def oK:Tr->List Tr
 | .lf s=>[.lf s]
 | .jn l r=>.jn l r::(oK r++oK l)
def zU:Tr->Nat
 | .lf _=>1
 | .jn l r=>zU l+zU r+1
def W8(t:Tr):zU t+1=2*lv t:=by
 induction t with
 | lf s=>rfl
 | jn l r h1 h2=>rw[zU,lv];omega
def Ha(W:List Tr):Nat:=(W.map zU).sum
def wL(W:List Tr):List Tr:=(W.reverse.map oK).flatten
def zn6(W:List Tr)(t:Tr):Ha (W++[t])=Ha W+zU t:=by simp[Ha]
def zkt(W:List Tr)(t:Tr):wL (W++[t])=oK t++wL W:=by simp[wL]
def zs1(t:Tr):0<zU t:=by cases t<;>simp[zU]
def B_(W:List Tr):W.length<=Ha W:=by
 induction W with
 | nil=>simp[Ha]
 | cons y W ih=>have:=zs1 y;simp[Ha]at ih ⊢;omega
end Tr
end M
namespace Law
open L2 M Tr
def zpc(f:Tr->D)(P:Tr->Prop)(a b j1 j2:Nat)(da db:List D)(t:Tr)(st:ak)
  (ha:st[a]? = some (.clo j1 (lB j1) da)) (hb:st[b]? = some (.clo j2 (lB j2) db)) (hsz:lv t<=400000)
  (hf:∀(u:Tr) (n:Nat),under n (f u)) (hP:P t) (hPP:∀l r,P 0x2->P l/\P r)
  (h1:∀(s:List Nat) (g:ak),P (.lf s)->GL j1 (da++[enc (.lf s)]) (cD (st++g))=.ok (f (.lf s)) (cD (st++g)))
  (h2:∀(l r:Tr) (g:ak),P 0x2->GL j2 (db++[enc 0x2,f l,f r]) (cD (st++g))=.ok (f 0x2) (cD (st++g))) :
  Nt [enc t,.loc a,.loc b] st=.ok (f t) st:=by
 have hN:zU t<=800000:=by have:=W8 t;omega
 unfold Nt bC bB zmx;generalize hB1:(aC (aJ 5 (fc "list" rH (vr 4))) _:MS)=B1;generalize YH:(fJ (jP (zT (yj "str") (vr 5))) _ _:MS)=B2
 let E:Option D->aK:=λa5=>[some (enc t),some (.loc a),some (.loc b),some 0x3,some (.loc (st.length+1)),a5,none,none,none]
 let S:List Tr->List Tr->ak:=λO W=>st++[.lst (O.map enc),.lst (W.map enc)]

 have ap:∀(O W:List Tr) (x:Tr),O.length<1000000->aW 0x3 [enc x] (S O W)=.ok .non (S (O++[x]) W):=λO W x h=>by
  have:=zr0 (st:=st) (g:=[.lst (O.map enc),.lst (W.map enc)]) (k:=0) (d:=enc x) rfl (by rwa[gj]);show _=R.ok _ (st++[.lst ((O++[x]).map enc),.lst (W.map enc)]);rw[mU];exact this
 have ap2:∀(O W:List Tr) (x:Tr),W.length<1000000->aW (.loc (st.length+1)) [enc x] (S O W)=.ok .non (S O (W++[x])):=λO W x h=>by
  have:=zr0 (st:=st) (g:=[.lst (O.map enc),.lst (W.map enc)]) (k:=1) (d:=enc x) rfl (by rwa[gj]);show _=R.ok _ (st++[.lst (O.map enc),.lst ((W++[x]).map enc)]);rw[mU];exact this
 have pp:∀(O W:List Tr) (x:Tr),rH (.loc (st.length+1)) [] (S O (W++[x]))=.ok (enc x) (S O W):=λO W x=>Af (k:=1) 0x1;have ty0:∀O W,cX "list" 0x3 (S O W)=true:=λO W=>lty (k:=0) rfl;have ty1:∀O W,cX "list" (.loc (st.length+1)) (S O W)=true:=λO W=>lty (k:=1) rfl;have cn:∀O a5,bf (jP (vr 4)) B1 (E a5) (S O [])=.ok (.nx (E a5)) (S O []):=λO a5=>by
  rw[xm,show jP (vr 4) (E a5) (S O [])=.ok false (S O []) from qu rfl (by simp[jG,S])];rfl
 have abm:∀(k:Nat) (O W:List Tr) (a5:Option D),Ha W<=k->O.length+Ha W<=800000->∃Hj,bf (jP (vr 4)) B1 (E a5) (S O W)=.ok (.nx (E Hj)) (S (O++wL W) []):=by
  intro k
  induction k with
  | zero =>
   intro O W a5 hk _;have hw:=B_ W;cases W with
   | nil=>exact⟨a5,by rw[show wL []=[] from rfl,gw];exact cn O a5⟩
   | cons x W=>simp at hw;omega
  | succ k ih =>
   intro O W a5 hk hO;rcases List.eq_nil_or_concat W with rfl | ⟨W,x,rfl⟩
   ·exact⟨a5,by rw[show wL []=[] from rfl,gw];exact cn O a5⟩
   ·rw[List.concat_eq_append]at *;rw[zn6]at hk hO;have hx:=zs1 x;have hl:=B_ W;rw[xm,show jP (vr 4) (E a5) (S O (W++[x]))=.ok true (S O (W++[x])) from qu rfl (by simp[jG,S]),R.aB,ae7 rfl,zkt];cases x with
    | lf s =>
     obtain⟨Hj,e⟩:=ih (O++[.lf s]) W (some (enc (.lf s))) (by simp[zU]at hk;omega) (by simp[zU]at hO ⊢;omega);refine⟨Hj,?_⟩;rw[show B1 (E a5) (S O (W++[.lf s]))=.ok (.nx (E (some (enc (.lf s))))) (S (O++[.lf s]) W) by
      rw[<-hB1];exact cB (Vj rfl (ty1 _ _) (pp O W _)) ((uc (yJ (uZ rfl (ty0 _ _) (aY rfl rfl) (ap O W (.lf s) 0x0)))).trans (Ol (yF (c:=true) (qu (zO rfl (Ye _ _)) rfl)))),R.aB]
     rw[oK,<-gW];exact e
    | jn l r =>
     have ew:Ha ((W++[l])++[r])=Ha W+zU l+zU r:=by rw[zn6,zn6]
     have hl1:=zs1 l;rw[zU]at hk hO;obtain⟨Hj,e⟩:=ih (O++[.jn l r]) ((W++[l])++[r]) (some (enc 0x2)) (by rw[ew];omega) (by rw[ew,gQ,nu];omega);refine⟨Hj,?_⟩;rw[show B1 (E a5) (S O (W++[.jn l r]))=.ok (.nx (E (some (enc 0x2)))) (S (O++[.jn l r]) ((W++[l])++[r])) by
      rw[<-hB1];exact cB (Vj rfl (ty1 _ _) (pp O W _)) ((uc (yJ (uZ rfl (ty0 _ _) (aY rfl rfl) (ap O W 0x2 0x0)))).trans (qQ (yF (qu (zO rfl (Hk _ _ _)) rfl)) ((uc (yJ (uZ rfl (ty1 _ _) (aY #[0,(uX _ _ _)] rfl) (ap2 _ W l 0x0)))).trans (yJ (uZ rfl (ty1 _ _) (aY #[0,(xH _ _ _)] rfl) (ap2 _ (W++[l]) r 0x9)))))),R.aB]
     rw[zkt,zkt]at e;rw[show O++(oK 0x2++wL W)=O++[.jn l r]++(oK r++(oK l++wL W)) by simp[oK]];exact e
 obtain⟨a5,e1⟩:=abm (Ha [t]) [] [t] none (gb _) (by simp[Ha];omega);have eo:wL [t]=oK t:=by simp[wL]
 rw[m8,eo]at e1

 let O:=(oK t).map enc
 let E2:Option D->Option D->Option D->aK:=λa5 a7 a8=>[some (enc t),some (.loc a),some (.loc b),some 0x3,some (.loc (st.length+1)),a5,some (.loc (st.length+2)),a7,a8]
 let S2:List D->ak:=λT=>st++[.lst O,.lst [],.lst T]
 have ty2:∀T,cX "list" (.loc (st.length+2)) (S2 T)=true:=λT=>lty (k:=2) rfl;have ap3:∀(T:List D) (d:D),T.length<1000000->aW (.loc (st.length+2)) [d] (S2 T)=.ok .non (S2 (T++[d])):=λT d h=>zr0 (k:=2) rfl h;have pp3:∀(T:List D) (d:D),rH (.loc (st.length+2)) [] (S2 (T++[d]))=.ok d (S2 T):=λT d=>Af (k:=2) rfl;have okS:∀T,uO [(st.length,.lst O)] (S2 T):=λT=>wu (oX (k:=0) rfl);have abl:∀(u:Tr),P u->∀(rest T:List D) (a5 a7 a8:Option D),T.length+zU u<=900000 ->
   ∃Hj a7' a8',bY (aM 5) B2 [(st.length,.lst O)] ((oK u).reverse.map enc++rest) (E2 a5 a7 a8) (S2 T)=bY (aM 5) B2 [(st.length,.lst O)] rest (E2 Hj a7' a8') (S2 (T++[f u])):=by
  intro u
  induction u with
  | lf s =>
   intro hp rest T a5 a7 a8 hT;refine⟨some (enc (.lf s)),a7,a8,zmz (env1:=E2 (some (enc (.lf s))) a7 a8) (st1:=S2 T) (okS T) rfl ?_⟩;rw[<-YH];exact qQ (qu (zO rfl rfl) rfl) (yJ (uZ rfl (ty2 T) (aY (By (Λ:=lB) (G:=GL) (n:=a) rfl (dC ha) (aY rfl rfl) (dC ha) (h1 s _ hp) (hf _ _)) rfl) (ap3 T _ 0x0)))
  | jn l r ihl ihr =>
   intro hp rest T a5 a7 a8 hT;obtain⟨pl,pr⟩:=hPP l r hp;rw[zU]at hT;rw[oK,mV,List.reverse_append,mU,mU,gW,gW];obtain⟨b5,b7,b8,q1⟩:=ihl pl ((oK r).reverse.map enc++([Tr.jn l r].map enc++rest)) T a5 a7 a8 0x0;obtain⟨c5,c7,c8,q2⟩:=ihr pr ([Tr.jn l r].map enc++rest) (T++[f l]) b5 b7 b8 0x9;rw[q1,q2];refine⟨some (enc 0x2),some (f r),some (f l),zmz (env1:=E2 (some (enc 0x2)) c7 c8) (st1:=S2 (T++[f l]++[f r])) (okS _) rfl ?_⟩;rw[<-YH];exact lR (qu (zO rfl (Hk _ _ _)) rfl) (cB (Vj rfl (ty2 _) (pp3 _ _)) (cB (Vj rfl (ty2 _) (pp3 _ _)) (yJ (uZ rfl (ty2 T) (aY (By (Λ:=lB) (G:=GL) (n:=b) rfl (dC hb) (aY rfl (aY rfl (aY rfl rfl))) (dC hb) (h2 l r _ hp) (hf _ _)) rfl) (ap3 T _ 0x0)))))
 obtain⟨b5,b7,b8,e2⟩:=abl t hP [] [] a5 none none 0x9;rw[gw,m8,Ga (okS _),pq]at e2;refine aZ (st1:=S2 [f t]) (cB zk0 (cB (Zy (aY rfl rfl)) ?_)) rfl (qU (hf t st.length));have l1:(st++[MO.lst []]).length=st.length+1:=by simp
 have l2:(S (oK t) []).length=st.length+2:=by simp[S]
 rw[l1,gW];refine (uc e1).trans (cB zk0 ?_);rw[l2,show S (oK t) []++[.lst []]=S2 [] by simp[S,S2,O]];exact GZ (PX rfl (oX (k:=0) rfl)) e2 (eZ #[0,(v8 _ _ _ [f t] _ (by unfold aA;rw[oX (k:=2) rfl]) rfl)])
end Law
namespace M
namespace Tr
def BR(o:Option (Tr×Nat))(p:Tr):Tr×Nat:=match o with | some x=>x | none=>(.jn tK p,1)
def iG(x:List Nat):Tr->Bool
 | .lf s=>decide (s=x)
 | .jn _ _=>false
def outF(x:List Nat):Tr->Option (Tr×Nat)
 | .lf s=>if s=x then some (tI,2) else none
 | .jn l r=>if (outF x l).isNone && (outF x r).isNone && val 0x2 then none
  else if (outF x l).isNone && iG x r then some (l,0)
  else some (.jn (.jn tS (BR (outF x l) l).1) (BR (outF x r) r).1,1+(BR (outF x l) l).2+(BR (outF x r) r).2)
def out(x:List Nat)(t:Tr):Tr×Nat:=BR (outF x t) t
end Tr
open Tr
def oV:Option (Tr×Nat)->D
 | none=>.non
 | some (t,n)=>.tup [enc t,.int n]
def ZP(n:Nat)(o:Option (Tr×Nat)):under n (oV o):=by
 cases o with
 | none=>simp[oV]
 | some p=>simp[oV,jE]
def encC(p:Tr×Nat):D:=.tup [enc p.1,.int p.2]
def zgz(o:Option (Tr×Nat))(st:ak):bN (oV o) .non st=.ok (.bl o.isNone) st:=by
 cases o with
 | none=>rfl
 | some p=>rfl
def En(x:List Nat)(t:Tr)(st:ak):ig 800 (enc t) (.str x) st=.ok (.bl (iG x t)) st:=by
 have:=T7 799 t x st;cases t with
 | lf s=>exact this
 | jn l r=>exact this
end M
namespace Law
open L2 M Tr
def zml(x s:List Nat)(st:ak):zct [.str x,.str s] st=.ok (oV (outF x (.lf s))) st:=by
 have hu:=ZP st.length (outF x (.lf s));unfold zct bC bB zgf;rw[outF]at hu ⊢;by_cases h:s=x
 ·rw[ae7 h]at hu ⊢;subst h;exact aZ (v7 (qQ (dW #[0,zkg]) (eZ (wz #[11,rfl])))) rfl (fu hu)
 ·rw[ae8 h]at hu ⊢;exact aZ (sZ (dW #[0,(by rw[eq_str,ae_ h])]) (eZ rfl)) rfl (fu hu)
def zdy(o:Option (Tr×Nat))(p:Tr)(st:ak):Z3 [oV o,enc p] st=.ok (encC (BR o p)) st:=by
 unfold Z3 bC bB zfn;cases o with
 | none=>exact aZ (v7 (qQ (dW #[0,rfl]) (eZ (wz (aY (bU (xK tK p st) rfl) (aY rfl rfl)))))) rfl (fu (ZP st.length (some (.jn tK p,1))))
 | some q=>exact aZ (sZ (dW #[0,rfl]) (eZ rfl)) rfl (fu (ZP st.length (some q)))
def zlb(x:List Nat)(l r:Tr)(st:ak):zcf [.str x,enc 0x2,oV (outF x l),oV (outF x r)] st=.ok (oV (outF x 0x2)) st:=by
 have hu:=ZP st.length (outF x 0x2);unfold zcf bC bB zfl;have t1:lr #[12,2] (lr #[12,3] (jP #[7,Bg,(vr 1)])) (startM 6 [.str x,enc 0x2,oV (outF x l),oV (outF x r)]) st=.ok ((outF x l).isNone && (outF x r).isNone && val 0x2) st:=by
  rw[Bool.and_assoc];exact zks (dW #[0,(zgz _ _)]) (zks (dW #[0,(zgz _ _)]) (qu (bU (zdm _ _) rfl) rfl))
 have t2:lr #[12,2] (d7 (aF (M.ig 800) #[2,1,1] (vr 0))) (startM 6 [.str x,enc 0x2,oV (outF x l),oV (outF x r)]) st=.ok ((outF x l).isNone && iG x r) st:=zks (dW #[0,(zgz _ _)]) (dW (aO #[0,(xH _ _ _)] rfl (En _ _ _)));rw[outF]at hu ⊢;by_cases c1:((outF x l).isNone && (outF x r).isNone && val 0x2)=true
 ·rw[ae7 c1]at hu ⊢;rw[c1]at t1;exact aZ (v7 (qQ t1 (eZ rfl))) rfl (fu hu)
 ·rw[ae8 c1]at hu ⊢;rw[Bool.not_eq_true]at c1;rw[c1]at t1;by_cases c2:((outF x l).isNone && iG x r)=true
  ·rw[ae7 c2]at hu ⊢;rw[c2]at t2;exact aZ (sZ t1 (v7 (qQ t2 (eZ (wz (aY #[0,(uX _ _ _)] (aY rfl rfl))))))) rfl (fu hu)
  ·rw[ae8 c2]at hu ⊢;rw[Bool.not_eq_true]at c2;rw[c2]at t2;exact aZ (sZ t1 (sZ t2 (cB (bU (zdy (outF x l) l st) #[11,#[0,(uX _ _ _)]]) (cB (bU (zdy (outF x r) r st) #[11,#[0,(xH _ _ _)]]) (eZ (wz (aY (bU (xK (.jn tS (BR (outF x l) l).1) (BR (outF x r) r).1 st) (aY (bU (xK tS (BR (outF x l) l).1 st) #[11,#[0,f9]]) (aY #[0,f9] rfl))) (aY (aO (aO rfl #[0,f9] (add_int rfl)) #[0,f9] (add_int 0x1)) rfl)))))))) rfl (fu hu)
def zdh(x:List Nat)(t:Tr)(st:ak)(ht:st[1]? = some (.tab "out_and_cost"))(hc:bF st)(hl:lv t<=400000):Vv [.str x,enc t] st=.ok (encC (out x t)) st:=by
 have f1:Nt [enc t,.loc st.length,.loc (st.length+1)] (st++[.clo 2 (lB 2) [.str x],.clo 3 (lB 3) [.str x]])=.ok (oV (outF x t)) (st++[.clo 2 (lB 2) [.str x],.clo 3 (lB 3) [.str x]]):=by
  refine zpc (λu=>oV (outF x u)) (λ_=>True) st.length (st.length+1) 2 3 [.str x] [.str x] t _ 0x1 0x1 hl (λu n=>ZP n _) trivial (λ_ _ _=>⟨trivial,trivial⟩) ?_ ?_
  ·intro s g _;have h:=zml x s (cD (st++[.clo 2 (lB 2) [.str x],.clo 3 (lB 3) [.str x]]++g));exists cD (st++[.clo 2 (lB 2) [.str x],.clo 3 (lB 3) [.str x]]++g),Z;rw[show enc (.lf s)=.str s from rfl];simp[GL,vC,e_2,h]
  ·intro l r g _;have h:=zlb x l r (cD (st++[.clo 2 (lB 2) [.str x],.clo 3 (lB 3) [.str x]]++g));exists cD (st++[.clo 2 (lB 2) [.str x],.clo 3 (lB 3) [.str x]]++g),Z,enc 0x2,J;simp[GL,vC,e_3,h]
 have o1:=zdy (outF x t) t st;have hu:under st.length (encC (out x t)):=by simp[encC,jE]
 have c1:=zr4 (Λ:=lB) (F:=Nt) (dd:=[]) (m:=qm (vr 1) (oM 2 [0] 1 "out_and_cost" (oM 3 [0] 1 "out_and_cost" xZ))) (env:=[some (.str x),some (enc t),none]) (st:=st) (st1:=st) (st2:=st) (as:=[.v (enc t),.l 2 [0],.l 3 [0]]) (ds:=[enc t,.loc st.length,.loc (st.length+1)]) (os:=[.clo 2 (lB 2) [.str x],.clo 3 (lB 3) [.str x]]) (d:=oV (outF x t))
  (by simp[qm,oM,xZ,ht]) hc (by simp[jX,zB]) (by rw[gw,f1];exact qU (ZP _ _)) hc
 exact aZ (cB c1 (eZ (bU o1 rfl))) rfl (fu hu)
def znn(x:List Nat)(t:Tr)(st:ak)(ht:st[1]? = some (.tab "out_and_cost"))(hc:bF st)(hl:lv t<=400000):zdf [.str x,enc t] st=.ok (enc (out x t).1) st :=
 zs7 (aO (bU (zdh x t st ht hc hl) rfl) rfl f9) (jE st.length _)
end Law
set_option maxHeartbeats 0
namespace M
namespace Tr
def stands(x:List Nat):Tr->Bool
 | .lf s=>decide (s=x)
 | .jn l r=>stands x l || stands x r
def zqu{x:List Nat}{t:Tr}(h:iG x t=true):stands x t=true:=by
 cases t with
 | lf s=>exact h
 | jn l r=>cases h
def ziu{x:List Nat}{t:Tr}:iG x t=true↔t=.lf x:=by
 cases t with
 | lf s=>simp[iG]
 | jn l r=>simp[iG]
theorem Vl(x:List Nat):∀t,(outF x t).isNone=(val t && !stands x t)
 | .lf s=>by
  rw[outF,stands,show val (.lf s)=true from rfl];by_cases h:s=x
  ·rw[ae7 h];simp[h]
  ·rw[ae8 h];simp[h]
 | .jn l r=>by
  have h1:=Vl x l;have h2:=Vl x r;rw[outF,stands];by_cases c:((outF x l).isNone && (outF x r).isNone && val 0x2)=true
  ·rw[ae7 c];simp only[gM]at c;rw[h1,h2]at c;simp only[gM,nU]at c;rw[c.2,c.1.1.2,c.1.2.2];rfl
  ·rw[ae8 c];have e:(if ((outF x l).isNone && iG x r)=true then some (l,0) else some (.jn (.jn tS (BR (outF x l) l).1) (BR (outF x r) r).1,1+(BR (outF x l) l).2+(BR (outF x r) r).2)).isNone=false:=by split<;>rfl
   rw[e]
   symm
   rw[pU];by_cases hv:val 0x2=true
   ·right;obtain⟨v1,v2⟩:=Ov hv;rw[h1,h2,hv,v1,v2]at c;cases s1:stands x l<;>cases s2:stands x r<;>rw[s1,s2]at c<;>first | rfl | exact absurd rfl c
   ·left;simpa using hv
def znq(x:List Nat){t:Tr}(h:iG x t=true):out x t=(tI,2):=by
 rw[ziu]at h;subst h;rw[out,outF,ae7 rfl];rfl
def Vm(x:List Nat){t:Tr}(h:(val t && !stands x t)=true):out x t=(.jn tK t,1):=by
 rw[<-Vl]at h;rw[out,Option.isNone_iff_eq_none.mp h];rfl
def zgk(x:List Nat){l r:Tr}(h:(val l && !stands x l)=true)(hr:iG x r=true):out x 0x2=(l,0):=by
 rw[<-Vl]at h;have h2:(outF x r).isNone=false:=by
  rw[Vl,zqu hr];simp
 rw[out,outF,h,h2,hr];rfl
def zi4(x:List Nat){l r:Tr}(h1:(val 0x2 && !stands x 0x2)=false)(h2:((val l && !stands x l) && iG x r)=false):out x 0x2=(.jn (.jn tS (out x l).1) (out x r).1,1+(out x l).2+(out x r).2):=by
 have e1:((outF x l).isNone && (outF x r).isNone && val 0x2)=false:=by
  rw[<-Vl]at h1;cases c:((outF x l).isNone && (outF x r).isNone && val 0x2) with
  | false=>rfl
  | true =>
   rw[outF,ae7 c]at h1;cases h1
 rw[<-Vl]at h2;rw[out,outF,ae8 (by rw[e1];simp),ae8 (by rw[h2];simp)]
 rfl
theorem zR(x:List Nat):∀t,val (out x t).1=true
 | .lf s=>by
  by_cases h:iG x (.lf s)=true
  ·rw[znq x h];rfl
  ·have:stands x (.lf s)=false:=(show iG x (.lf s)=false by simpa using h);rw[Vm x (by rw[this];rfl)];rfl
 | .jn l r=>by
  by_cases h1:(val 0x2 && !stands x 0x2)=true
  ·rw[Vm x h1,eU];simp only[gM]at h1;exact h1.1
  ·by_cases h2:((val l && !stands x l) && iG x r)=true
   ·have h2':=h2;simp only[gM]at h2;rw[zgk x (by simp only[gM];exact h2.1) h2.2];exact h2.1.1
   ·rw[zi4 x (by simpa using h1) (by simpa using h2),TY,zR x l,zR x r];rfl
end Tr
end M
namespace M
namespace Tr
theorem zqb:∀m,outF [120] (di m (.lf [120]))=some (wg m,Es m)
 | 0=>by rw[di,outF,ae7 rfl];rfl
 | 1=>by rw[di,di,outF,outF,outF,ae7 rfl,ae8 0x5];rfl
 | m+2=>by
  have ih:=zqb (m+1);rw[di,outF,ih];have h0:outF [120] tK=none:=by rw[outF,ae8 0x5]
  have h1:iG [120] (di (m+1) (.lf [120]))=false:=rfl;rw[h0,h1];simp[BR,wg,Es]
def zs5(m:Nat):out [120] (di m (.lf [120]))=(wg m,Es m):=by unfold out;rw[zqb];rfl
theorem zqa(v:Tr):∀n,lv (di n v)=lv v+n
 | 0=>rfl
 | n+1=>by rw[di,lv,zqa v n,show lv tK=1 from rfl];omega
end Tr
end M
namespace Law
open L2 M Tr
def zf8(n:Nat)(v:Tr)(st:ak)(hn:n<=1000000):OD [.int n,enc v] st=.ok (enc (di n v)) st:=by
 unfold OD bC bB zj8;generalize hB:(aJ 2 (az sY [] _):MS)=B;obtain⟨cC,st',h1,a3,rfl,rfl⟩:=zZ (g:=aM 3) (b:=B) (gs:=[]) (items:=qx 0 n)
  (λi env s=>∃(a3:Option D),env=[some (.int n),some (enc v),some (enc (di i v)),a3]/\s=st)
  (env:=[some (.int n),some (enc v),some (enc v),none]) (st:=st) ⟨none,rfl,rfl⟩ (by
   rintro i d env s hi ⟨a3,rfl,rfl⟩;obtain⟨hi',rfl⟩:=zky hi;have j1:sY [.str [75],enc (di i v)] s=.ok (enc (di (i+1) v)) s:=xK tK _ s;refine⟨by simp,_,_,rfl,[some (.int n),some (enc v),some (enc (di (i+1) v)),some (.int (0+(i:Int)))],s,.inl ?_,_,rfl,rfl⟩;rw[<-hB];exists enc (di (i+1) v),W,enc (di i v),W1,enc v,V;simp[j1]) (λ_ _ _=>by simp)
 rw[zik]at h1;have hu:=jE st'.length (di n v);have hr1:-4611686018427387904<=(n:Int):=by omega
 have Yr:(n:Int)<4611686018427387904:=by omega
 rw[show startM 4 [D.int n,enc v]=[some (.int n),some (enc v),none,none] from rfl];exists enc (di n v),W,enc v,V;simp[hr1,Yr,h1];exact fu hu
def zph(k many:Nat)(st:ak)(ht:st[1]? = some (.tab "out_and_cost"))(hc:bF st)(hk:k<many)(hm:many<=300000):Oo [.int k,.int many] st=.ok (enc (bL k many)) st:=by
 have u1:OD [.int ((many - 1 - k:Nat):Int),.str [120]] st=.ok (enc (di (many - 1 - k) (.lf [120]))) st:=zf8 (many - 1 - k) (.lf [120]) st 0x0;have t1:=znn [120] (di (many - 1 - k) (.lf [120])) st ht hc (by rw[zqa,show lv (.lf [120])=1 from rfl];omega);rw[zs5]at t1;have u2:=zf8 k (wg (many - 1 - k)) st 0x0;have hu:=jE st.length (bL k many);have e1:(many:Int) - 1 - (k:Int)=((many - 1 - k:Nat):Int):=by omega
 unfold Oo bC bB zsr;unfold bL at hu ⊢;exists many - 1 - k,m,enc (di k (wg m)),W,enc (di m (.lf [120])),W1;exists enc (wg m),W2;simp[startM,e1,u1,t1,u2];exact fu hu
end Law
namespace M
namespace Tr
def aef:enc tI=.tup [.tup [.str [83],.str [75],.int 2,.bl true],.str [75],.int 3,.bl true]:=by rfl
def jg:List Tr->Tr
 | []=>tK
 | t::ts=>.jn tK (hold [t,jg ts])
theorem zo8:∀{ts:List Tr},(∀t∈ts,val t=true)->val (jg ts)=true
 | [],_=>rfl
 | t::ts,h=>by
  have ih:=zo8 (ts:=ts) λx hx=>h x (by simp[hx]);rw[jg,eU];exact Dv (by simp[h t 0x1,ih])
end Tr
end M
namespace Law
open L2 M Tr
def Rg(t:Tr)(st:ak)(h:val t=true):zkl [enc t] st=.ok (enc (.jn tK t)) st:=by
 have h1:=zdm t st;have h2:sY [.str [75],enc t] st=.ok (enc (.jn tK t)) st:=xK tK t st;have hu:=jE st.length (.jn tK t);rw[h]at h1;unfold zkl bC bB zrt;exists enc (.jn tK t),W;simp[startM,h1,h2,fu,hu,jG]
def zoq(ts:List Tr)(n:Nat)(st:ak)(h:st[n]? = some (.lst (ts.map enc)))(hv:∀t∈ts,val t=true):Nu [.loc n] st=.ok (enc (hold ts)) st:=by
 unfold Nu bC bB zlu;rw[<-aef];generalize hB:(aJ 1 (az sY [] _):MS)=B;obtain⟨cC,st',h1,a2,rfl,rfl⟩:=zZ (g:=aM 2) (b:=B) (gs:=[(n,.lst (ts.map enc))]) (items:=ts.map enc)
  (λi env s=>∃(a2:Option D),env=[some (.loc n),some (enc (hold (ts.take i))),a2]/\s=st)
  (env:=[some (.loc n),some (enc tI),none]) (st:=st) ⟨none,rfl,rfl⟩ (by
   rintro i d env s hi ⟨a2,rfl,rfl⟩;obtain⟨t,ht,rfl⟩:=Hn hi;have e:=Vn (ts.take i) t;have e2:ts.take (i+1)=ts.take i++[t]:=by rw[kO,ht];rfl
   have j1:sY [.str [83],enc (hold (ts.take i))] s=.ok (enc (.jn tS (hold (ts.take i)))) s:=xK tS _ s;have j2:=xK (.jn tS (hold (ts.take i))) (.jn tK t) s;have k1:=Rg t s (hv t (gZ ht));refine⟨by simp[h],_,_,rfl,[some (.loc n),some (enc (hold (ts.take (i+1)))),some (enc t)],s,.inl ?_,_,rfl,rfl⟩;rw[<-hB,e2,e];exists enc (.jn (.jn tS (hold (ts.take i))) (.jn tK t)),W,enc (.jn tS (hold (ts.take i))),W1,enc (.jn tK t),W2;simp[j1,j2,k1]) (λ_ _ zz=>by obtain⟨_,_,q⟩:=zz;subst q;simp[h])
 rw[gj,my]at h1;have hu:=jE st'.length (hold ts);rw[show startM 3 [D.loc n]=[some (.loc n),none,none] from rfl];exists enc tI,W;simp[h,h1,fu,hu]
def rW(ts:List Tr)(ds:List D)(e:ds=ts.map enc)(st:ak)(hv:∀t∈ts,val t=true):Nu [.loc st.length] (st++[.lst ds])=.ok (enc (hold ts)) (st++[.lst ds]):=by
 subst e;exact zoq ts st.length _ 0x1 hv
def zrq(a b c:Tr)(st:ak)(ha:val a=true)(hb:val b=true)(hc:val c=true):Zx [enc a,enc b,enc c] st=.ok (enc (hold [a,b,c])) st:=by
 have h1:=rW [a,b,c] [enc a,enc b,enc c] rfl st (by simp[ha,hb,hc]);have hu:=jE st.length (hold [a,b,c]);unfold Zx bC bB zuh;exists enc (hold [a,b,c]),W;simp[startM,h1];exact qU hu
def Gg(a b c d:Tr)(st:ak)(ha:val a=true)(hb:val b=true)(hc:val c=true)(hd:val d=true):zga [enc a,enc b,enc c,enc d] st=.ok (enc (hold [a,b,c,d])) st:=by
 have h1:=rW [a,b,c,d] [enc a,enc b,enc c,enc d] rfl st (by simp[ha,hb,hc,hd]);have hu:=jE st.length (hold [a,b,c,d]);unfold zga bC bB zl2;exists enc (hold [a,b,c,d]),W;simp[startM,h1];exact qU hu
def zjd(a b:Tr)(st:ak)(ha:val a=true)(hb:val b=true):Vu [enc a,enc b] st=.ok (enc (.jn tK (hold [a,b]))) st:=by
 have h1:=rW [a,b] [enc a,enc b] rfl st (by simp[ha,hb]);have h2:∀s,OD [.int 1,enc (hold [a,b])] s=.ok (enc (.jn tK (hold [a,b]))) s:=λs=>zf8 1 (hold [a,b]) s 0x5;have hu:=jE st.length (.jn tK (hold [a,b]));unfold Vu bC bB zhe;exists enc (.jn tK (hold [a,b])),W,enc (hold [a,b]),W1;simp[startM,h1,h2];exact qU hu
def Bw{α:Type}{l:List α}{i:Nat}{x:α}(h:l.reverse[i]? = some x):i<l.length/\l.drop (l.length - (i+1))=x::l.drop (l.length - i):=by
 have hi:i<l.length:=by have:=(gf.mp h).1;simpa using this
 refine⟨hi,?_⟩;rw[pK hi]at h;have hl:l.length - (i+1)<l.length:=by omega
 rw[mQ hl,show l.length - (i+1)+1=l.length - i by omega];have e:l.length - 1 - i=l.length - (i+1):=by omega
 rw[e,gK hl]at h;cases h;rfl
def zr6(ts:List Tr)(n:Nat)(st:ak)(h:st[n]? = some (.lst (ts.map enc)))(hv:∀t∈ts,val t=true):ZS [.loc n] st=.ok (enc (jg ts)) st:=by
 unfold ZS bC bB zj5;generalize hB:(aJ 1 (az Vu [] _):MS)=B;have hS:(.str [75]:D)=enc tK:=rfl;obtain⟨cC,st',h1,a2,rfl,rfl⟩:=zZ (g:=aM 2) (b:=B) (gs:=[(n,.lst (ts.map enc))]) (items:=(ts.map enc).reverse)
  (λi env s=>∃(a2:Option D),env=[some (.loc n),some (enc (jg (ts.drop (ts.length - i)))),a2]/\s=st)
  (env:=[some (.loc n),some (.str [75]),none]) (st:=st) ⟨none,by simp[jg,hS],rfl⟩ (by
   rintro i d env s hi ⟨a2,rfl,rfl⟩;rw[<-pq]at hi;obtain⟨t,ht,rfl⟩:=Hn hi;obtain⟨hl,e⟩:=Bw ht;have hm:t∈ts:=by have:=gZ ht;simpa using this
   have hd:∀x∈ts.drop (ts.length - i),val x=true:=λx hx=>hv x (nj hx);have k1:=zjd t (jg (ts.drop (ts.length - i))) s (hv t hm) (zo8 hd);refine⟨by simp[h],_,_,rfl,[some (.loc n),some (enc (jg (ts.drop (ts.length - (i+1))))),some (enc t)],s,.inl ?_,_,rfl,rfl⟩;rw[<-hB,e,jg];exists enc (.jn tK (hold [t,jg (ts.drop (ts.length - i))])),W,enc (jg (ts.drop (ts.length - i))),W1;simp[k1]) (λ_ _ zz=>by obtain⟨_,_,q⟩:=zz;subst q;simp[h])
 rw[pJ,gj,Nat.sub_self,List.drop_zero]at h1;have hu:=jE st'.length (jg ts);have lg:rN st' n=some (ts.map enc,.lst (ts.map enc)):=by simp[rN,h]
 rw[show startM 3 [D.loc n]=[some (.loc n),none,none] from rfl];exists ts.map enc,X;simp[lg,h1,fu,hu]
end Law
set_option maxHeartbeats 0
namespace M
namespace Tr
def sb(f:List Nat->Option Tr):Tr->Tr
 | .lf s=>(f s).getD (.lf s)
 | .jn l r=>.jn (sb f l) (sb f r)
structure Sub(f:List Nat->Option Tr):Prop where
 v:∀s t,f s=some t->val t=true
 S:f [83]=none
 K:f [75]=none
def yP{f:List Nat->Option Tr}{s:List Nat}(h:f s=none):sb f (.lf s)=.lf s:=by rw[sb,h];rfl
def Px{f:List Nat->Option Tr}(h:Sub f):sb f tS=tS:=yP h.S
def V3{f:List Nat->Option Tr}(h:Sub f):sb f tK=tK:=yP h.K
def acY{f:List Nat->Option Tr}(h:Sub f):sb f tI=tI:=by
 show Tr.jn (.jn (sb f tS) (sb f tK)) (sb f tK)=_;rw[Px h,V3 h]
theorem zP{f:List Nat->Option Tr}(h:Sub f):∀{t:Tr},val t=true->val (sb f t)=true
 | .lf s,_=>by
  rw[sb];cases e:f s with
  | none=>rfl
  | some t=>exact h.v s t e
 | .jn l r,hv=>by
  obtain⟨v1,v2⟩:=Ov hv;have i2:=zP h v2;cases l with
  | lf s =>
   rw[Vq,gM,p6]at hv;have hs:s=[83]\/s=[75]:=hv.2.imp (λe=>eq_of_beq e) (λe=>eq_of_beq e);rcases hs with rfl | rfl
   ·rw[sb,yP h.S,Ht];exact i2
   ·rw[sb,yP h.K,eU];exact i2
  | jn a b =>
   rw[Vk,gM,gM]at hv;obtain⟨_,hj,_⟩:=hv;cases a with
   | jn c d=>simp[wV]at hj
   | lf s =>
    have hs:s=[83]:=by simpa[wV] using hj
    subst hs;have i1:=zP h v1;have e1:sb f (.jn (.lf [83]) b)=.jn tS (sb f b):=by rw[sb,yP h.S]
    rw[e1,Ht]at i1;rw[sb,e1,TY,i2,i1];rfl
theorem zmr{f g:List Nat->Option Tr}{x:List Nat}(N7:∀s,s≠x->f s=g s):∀{t:Tr},stands x t=false->sb f t=sb g t
 | .lf s,h=>by
  have:s≠x:=by simpa[stands] using h
  rw[sb,sb,N7 s this]
 | .jn l r,h=>by
  rw[stands,Bool.or_eq_false_iff]at h;rw[sb,sb,zmr N7 h.1,zmr N7 h.2]
theorem Ev.inv:∀{n:Nat} {l r v:Tr},Ev 0x2 n v->∃n1 n2 n3 a b,Ev l n1 a/\Ev r n2 b/\Ev (.jn a b) n3 v/\n=n1+n2+n3
 | 0,l,r,v,h=>by
  obtain⟨h1,h2⟩:=h;rw[fV]at h1;cases h1;obtain⟨v1,v2⟩:=Ov h2;exact⟨0,0,0,l,r,Ev.v v1,Ev.v v2,Ev.v h2,rfl⟩
 | n+1,l,r,v,h=>by
  cases vl:val l with
  | false =>
   obtain⟨h1,h2⟩:=h;have e:=zh3 (r:=r) vl;cases sl:step l with
   | none=>rw[fV,e,sl]at h1;cases h1
   | some l' =>
    rw[sl]at e;rw[xn (u:=.jn l' r) e]at h1;obtain⟨n1,n2,n3,a,b,q1,q2,q3,q4⟩:=Ev.inv (n:=n) ⟨h1,h2⟩;exact⟨n1+1,n2,n3,a,b,⟨by rw[xn sl];exact q1.1,q1.2⟩,q2,q3,by omega⟩
  | true =>
   cases vr:val r with
   | false =>
    obtain⟨h1,h2⟩:=h;have e:=zf0 vl vr;cases sr:step r with
    | none=>rw[fV,e,sr]at h1;cases h1
    | some r' =>
     rw[sr]at e;rw[xn (u:=.jn l r') e]at h1;obtain⟨n1,n2,n3,a,b,q1,q2,q3,q4⟩:=Ev.inv (n:=n) ⟨h1,h2⟩;have:n1=0/\l=a:=Ev.det (Ev.v vl) q1 |>.imp (λz=>z.symm) id;exact⟨n1,n2+1,n3,a,b,q1,⟨by rw[xn sr];exact q2.1,q2.2⟩,q3,by omega⟩
   | true=>exact⟨0,0,n+1,l,r,Ev.v vl,Ev.v vr,h,by omega⟩
def Ev.adw{u v w x:Tr}{n:Nat}(hv:val (.jn (.jn tS u) v)=true)(hw:val w=true)(h:Ev (.jn (.jn (.jn tS u) v) w) n x):∃k,n=k+1/\Ev (.jn (.jn u w) (.jn v w)) k x:=by
 have e:step (.jn (.jn (.jn tS u) v) w)=some (.jn (.jn u w) (.jn v w)):=by rw[zgi hv hw (Zq u v w)];rfl
 cases n with
 | zero =>
  obtain⟨h1,h2⟩:=h;rw[fV]at h1;cases h1;rw[Zq]at h2;cases h2
 | succ n =>
  obtain⟨h1,h2⟩:=h;rw[xn e]at h1;exact⟨n,rfl,h1,h2⟩
def sim{f g:List Nat->Option Tr}{x:List Nat}{V:Tr}(hg:Sub g)(hf:Sub f)(hx:f x=some V)(N7:∀s,s≠x->f s=g s)(hV:val V=true):∀(t:Tr) (n:Nat) (v:Tr),
  Ev (.jn (sb g (out x t).1) V) n v ↔ ∃k,n=k+(out x t).2/\Ev (sb f t) k v:=by
 have hVe:Ev V 0 V:=Ev.v hV;have cst:∀(t:Tr),(val t && !stands x t)=true->∀n v,Ev (.jn (sb g (.jn tK t)) V) n v ↔ ∃k,n=k+1/\Ev (sb f t) k v:=by
  intro t ht n v;simp only[gM,nU]at ht;have e1:sb f t=sb g t:=zmr N7 ht.2;have v1:=zP hg ht.1;have e2:sb g (.jn tK t)=.jn tK (sb g t):=by rw[sb,V3 hg]
  have base:Ev (.jn (sb g (.jn tK t)) V) 1 (sb g t):=by
   rw[e2];exact ((Ev.v (v:=.jn tK (sb g t)) (by rw[eU];exact v1)).K hVe).to 0x0
  rw[e1];constructor
  ·intro h;obtain⟨q1,q2⟩:=base.det h;subst q1 q2;exact⟨0,rfl,Ev.v v1⟩
  ·rintro ⟨k,rfl,h⟩;obtain⟨q1,q2⟩:=(Ev.v v1).det h;subst q1 q2;exact base
 intro t
 induction t with
 | lf s =>
  intro n v;by_cases h0:iG x (.lf s)=true
  ·rw[znq x h0];rw[ziu]at h0;cases h0;have e1:sb f (.lf x)=V:=by rw[sb,hx];rfl
   rw[e1,show sb g (tI,2).1=tI from acY hg];have base:Ev (.jn tI V) 2 V:=Ev.I hVe;constructor
   ·intro h;obtain⟨q1,q2⟩:=base.det h;subst q1 q2;exact⟨0,rfl,hVe⟩
   ·rintro ⟨k,rfl,h⟩;obtain⟨q1,q2⟩:=hVe.det h;subst q1 q2;exact base
  ·have hs:stands x (.lf s)=false:=(show iG x (.lf s)=false by simpa using h0);have hc:(val (.lf s) && !stands x (.lf s))=true:=by rw[hs];rfl
   rw[Vm x hc];exact cst _ hc n v
 | jn l r ihl ihr =>
  intro n v;by_cases h1:(val 0x2 && !stands x 0x2)=true
  ·rw[Vm x h1];exact cst _ h1 n v
  ·by_cases h2:((val l && !stands x l) && iG x r)=true
   ·simp only[gM,nU]at h2;rw[zgk x (by simp only[gM,nU];exact h2.1) h2.2];obtain⟨⟨_,hs⟩,hr⟩:=h2;rw[ziu]at hr;subst hr;have e1:sb f (.jn l (.lf x))=.jn (sb g l) V:=by rw[sb,zmr N7 hs,show sb f (.lf x)=V by rw[sb,hx];rfl]
    rw[e1];exact⟨λh=>⟨n,rfl,h⟩,λzz=>by obtain⟨k,e,h⟩:=zz;subst e;exact h⟩
   ·rw[zi4 x (by simpa using h1) (by simpa using h2)];have e1:sb g (.jn (.jn tS (out x l).1) (out x r).1)=.jn (.jn tS (sb g (out x l).1)) (sb g (out x r).1):=by rw[sb,sb,Px hg]
    have vA:=zP hg (zR x l);have vB:=zP hg (zR x r);have vS:val (.jn (.jn tS (sb g (out x l).1)) (sb g (out x r).1))=true:=by rw[TY,vA,vB];rfl
    rw[show (Tr.jn (.jn tS (out x l).1) (out x r).1,1+(out x l).2+(out x r).2).1=Tr.jn (.jn tS (out x l).1) (out x r).1 from rfl,e1];show _ ↔ ∃k,n=k+(1+(out x l).2+(out x r).2)/\Ev (.jn (sb f l) (sb f r)) k v;constructor
    ·intro h;obtain⟨k,rfl,h'⟩:=Ev.adw vS hV h;obtain⟨n1,n2,n3,a,b,q1,q2,q3,rfl⟩:=h'.inv;obtain⟨k1,rfl,p1⟩:=(ihl n1 a).mp q1;obtain⟨k2,rfl,p2⟩:=(ihr n2 b).mp q2;exact⟨k1+k2+n3,by omega,p1.comp p2 q3⟩
    ·rintro ⟨k,rfl,h⟩;obtain⟨n1,n2,n3,a,b,q1,q2,q3,rfl⟩:=h.inv;have p1:=(ihl (n1+(out x l).2) a).mpr ⟨n1,rfl,q1⟩;have p2:=(ihr (n2+(out x r).2) b).mpr ⟨n2,rfl,q2⟩;exact ((Ev.v vS).S hVe (p1.comp p2 q3)).to 0x0
end Tr
end M
namespace M
open Tr
def aV(σ:List (List Nat×Tr)):List (L2.Key×D):=σ.map λp=>(.inr (strOf p.1),enc p.2)
def look(σ:List (List Nat×Tr))(s:List Nat):Option Tr:=(σ.find? λp=>decide (p.1=s)).map (·.2)
def Np{a b:List Nat}:(strOf a=strOf b)↔a=b:=by
 constructor
 ·intro h;injection h with h;simpa using congrArg Array.toList h
 ·intro h;rw[h]
def Ow(p:List Nat×Tr)(r:List (List Nat×Tr))(s:List Nat):look (p::r) s=if p.1=s then some p.2 else look r s:=by
 unfold look;rw[m7];by_cases h:p.1=s<;>simp[h]
theorem zlm(s:List Nat):∀σ:List (List Nat×Tr),valN (aV σ) (.inr (strOf s))=(look σ s).map enc
 | []=>rfl
 | p::r=>by
  rw[show aV (p::r)=(.inr (strOf p.1),enc p.2)::aV r from rfl,ZD,Ow,zlm s r];by_cases h:p.1=s
  ·rw[ae7 (by rw[h]),ae7 h];rfl
  ·rw[ae8 (λz=>h (Np.mp (afw z))),ae8 h]
def yV(s:List Nat):keyOf (.str s)=some (.inr (strOf s)):=rfl
end M
namespace Law
open L2 M Tr
def R1(σ:List (List Nat×Tr))(n:Nat)(s:List Nat)(st:ak)(h:st[n]? = some (.dkc (aV σ))):zj (.loc n) [.str s,.str s] st=.ok (enc (sb (look σ) (.lf s))) st:=by
 unfold zj;simp only[h,yV,zlm];rw[sb];cases look σ s<;>rfl
def zhw(σ:List (List Nat×Tr))(t:Tr)(n:Nat)(st:ak)(h:st[n]? = some (.dkc (aV σ)))(ht:st[2]? = some (.tab "put_in"))(hc:bF st)(hl:lv t<=400000):G7 [enc t,.loc n] st=.ok (enc (sb (look σ) t)) st:=by
 let os:ak:=[.clo 0 (lB 0) [.loc n],.clo 1 (lB 1) []]
 have f1:Nt [enc t,.loc st.length,.loc (st.length+1)] (st++os)=.ok (enc (sb (look σ) t)) (st++os):=by
  refine zpc (λu=>enc (sb (look σ) u)) (λ_=>True) st.length (st.length+1) 0 1 [.loc n] [] t _ (by simp[os]) (by simp[os]) hl (λu n=>jE n _) trivial (λ_ _ _=>⟨trivial,trivial⟩) ?_ ?_
  ·intro s g _;have hh:(cD (st++os++g))[n]? = some (.dkc (aV σ)):=Ld (dC (dC h)) rfl;have hg:=R1 σ n s _ hh;have it:cX "dict" (.loc n) (cD (st++os++g))=true:=by unfold cX;simp only[hh];rfl
   exists cD (st++os++g),Z;rw[show enc (.lf s)=.str s from rfl];exists enc (sb (look σ) (.lf s)),W;simp[GL,vC,e_0,it,hg]
  ·intro l r g _;have j1:=xK (sb (look σ) l) (sb (look σ) r) (cD (st++os++g));rw[show sb (look σ) 0x2=.jn (sb (look σ) l) (sb (look σ) r) from rfl];exists cD (st++os++g),Z,enc (.jn (sb (look σ) l) (sb (look σ) r)),W,enc 0x2,J;exists enc (sb (look σ) l),L,enc (sb (look σ) r),R';simp[GL,vC,e_1,j1]
 have hu:=jE st.length (sb (look σ) t);have c1:=zr4 (Λ:=lB) (F:=Nt) (dd:=[]) (m:=qm (vr 0) (oM 0 [1] 2 "put_in" (oM 1 [] 2 "put_in" xZ))) (env:=[some (enc t),some (.loc n)]) (st:=st) (st1:=st) (st2:=st) (as:=[.v (enc t),.l 0 [1],.l 1 []]) (ds:=[enc t,.loc st.length,.loc (st.length+1)]) (os:=os) (d:=enc (sb (look σ) t))
  (by simp[qm,oM,xZ,ht]) hc (by simp[jX,zB,os]) (by rw[gw,f1];exact qU hu) hc
 unfold G7 bC bB zek;rw[show startM 2 [enc t,D.loc n]=[some (enc t),some (.loc n)] from rfl];generalize ou lB Nt [] (qm (vr 0) (oM 0 [1] 2 "put_in" (oM 1 [] 2 "put_in" xZ)))=CL at c1 ⊢;exists enc (sb (look σ) t),W,enc t,X;simp[c1];exact fu hu
end Law
namespace M
namespace Tr
def bV(t:Tr):List (List Nat)->Tr
 | []=>t
 | x::xs=>(out x (bV t xs)).1
def du(t:Tr):List (List Nat)->List Nat
 | []=>[]
 | x::xs=>(out x (bV t xs)).2::du t xs
theorem zot(t:Tr):∀xs:List (List Nat),(du t xs).length=xs.length
 | []=>rfl
 | x::xs=>by rw[du,gC,zot t xs,gC]
structure Puts(xs:List (List Nat))(vs:List Tr):Prop where
 len:vs.length=xs.length
 nd:xs.Nodup
 v:∀v∈vs,val v=true
 S:[83]∉xs
 K:[75]∉xs
def zp1{σ:List (List Nat×Tr)}{s:List Nat}(h:∀p∈σ,p.1≠s):look σ s=none:=by
 induction σ with
 | nil=>rfl
 | cons p r ih=>rw[Ow,ae8 (h p 0x1),ih λq hq=>h q (by simp[hq])]
def zix{σ:List (List Nat×Tr)}{s:List Nat}{v:Tr}(h:look σ s=some v):(s,v)∈σ:=by
 induction σ with
 | nil=>cases h
 | cons p r ih =>
  rw[Ow]at h
  split at h
  ·rename_i e;cases h;obtain⟨a,b⟩:=p;cases e;simp
  ·exact kW _ (ih h)
def zpf(σ:List (List Nat×Tr))(x s:List Nat)(v:Tr)(h:∀p∈σ,p.1≠x):look (σ++[(x,v)]) s=if x=s then some v else look σ s:=by
 induction σ with
 | nil=>rw[m8,Ow]
 | cons p r ih =>
  rw[nH,Ow,Ow,ih λq hq=>h q (by simp[hq])];by_cases e:p.1=s
  ·rw[ae7 e,ae7 e,ae8 (λz=>h p 0x1 (e.trans z.symm))]
  ·rw[ae8 e,ae8 e]
section
variable  {xs:List (List Nat)}{vs:List Tr}
def Puts.sub(h:Puts xs vs)(j:Nat):Sub (look ((xs.zip vs).take j)):=by
 have mem:∀s v,look ((xs.zip vs).take j) s=some v->s∈xs/\v∈vs:=λs v e=>by
  have:=m_ (zix e);exact⟨(nJ this).1,(nJ this).2⟩
 refine⟨λs v e=>h.v v (mem s v e).2,?_,?_⟩
 ·cases e:look ((xs.zip vs).take j) [83] with
  | none=>rfl
  | some v=>exact absurd (mem _ _ e).1 h.S
 ·cases e:look ((xs.zip vs).take j) [75] with
  | none=>rfl
  | some v=>exact absurd (mem _ _ e).1 h.K
def Puts.next(h:Puts xs vs){j:Nat}{x:List Nat}{v:Tr}(hx:xs[j]? = some x)(hv:vs[j]? = some v):(xs.zip vs).take (j+1)=(xs.zip vs).take j++[(x,v)]/\∀p∈(xs.zip vs).take j,p.1≠x:=by
 have hz:(xs.zip vs)[j]? = some (x,v):=by rw[pZ];exact⟨hx,hv⟩
 refine⟨by rw[kO,hz];rfl,λp hp e=>?_⟩;obtain⟨i,hi,q⟩:=nG.mp hp;rw[kJ]at hi;have q2:(xs.zip vs)[i]? = some p:=by rw[pM]at q;rw[<-q];exact gK 0x0
 obtain⟨a,b⟩:=p;rw[pZ]at q2;have Yw:xs[i]? = xs[j]?:=by rw[q2.1,hx];exact congrArg some e
 have Hf:=(gf.mp q2.1).1;have:=(nQ Hf h.nd).mp Yw;omega
def zt0{t:Tr}{j:Nat}{x:List Nat}(hx:xs[j]? = some x):bV t (xs.drop j)=(out x (bV t (xs.drop (j+1)))).1:=by
 have hl:=(gf.mp hx).1;rw[mQ hl];rw[gK hl]at hx;cases hx;rfl
def Puts.sim(h:Puts xs vs)(t:Tr){j:Nat}{x:List Nat}{V:Tr}(hx:xs[j]? = some x)(hV:vs[j]? = some V)(n:Nat)(v:Tr) :
  Ev (.jn (sb (look ((xs.zip vs).take j)) (bV t (xs.drop j))) V) n v ↔ ∃k,n=k+(out x (bV t (xs.drop (j+1)))).2/\Ev (sb (look ((xs.zip vs).take (j+1))) (bV t (xs.drop (j+1)))) k v:=by
 obtain⟨e1,e2⟩:=h.next hx hV;rw[zt0 hx];refine Tr.sim (h.sub j) (h.sub (j+1)) ?_ (λs hs=>?_) (h.v V (gZ hV)) _ n v
 ·rw[e1,zpf _ _ _ _ e2,ae7 rfl]
 ·rw[e1,zpf _ _ _ _ e2,ae8 (λz=>hs z.symm)]
theorem zsj(t:Tr):∀(xs:List (List Nat)) (j:Nat) (x:List Nat),xs[j]? = some x->(du t xs)[j]? = some (out x (bV t (xs.drop (j+1)))).2
 | [],j,x,h=>by simp at h
 | y::ys,0,x,h=>by simp at h;subst h;simp[du]
 | y::ys,j+1,x,h=>by
  have:=zsj t ys j x (by simpa using h);simpa[du] using this
theorem Puts.few(h:Puts xs vs)(t:Tr):∀j,j<xs.length->Ev (apps (bV t xs) (vs.take j)) ((du t xs).take j).sum (sb (look ((xs.zip vs).take j)) (bV t (xs.drop j)))
 | 0,hj=>by
  rw[List.take_zero,List.take_zero,List.take_zero,List.drop_zero];have e:sb (look []) (bV t xs)=bV t xs:=by
   have:∀u,sb (look []) u=u:=by
    intro u
    induction u with
    | lf s=>rfl
    | jn l r h1 h2=>rw[sb,h1,h2]
   exact this _
  rw[e];obtain⟨x,ys,rfl⟩:∃x ys,xs=x::ys:=by
   cases xs with
   | nil=>simp at hj
   | cons x ys=>exact⟨x,ys,rfl⟩
  exact Ev.v (zR x _)
 | j+1,hj=>by
  have ih:=Puts.few h t j 0x0;obtain⟨x,hx⟩:∃x,xs[j]? = some x:=⟨_,gK 0x0⟩;obtain⟨V,hV⟩:∃V,vs[j]? = some V:=⟨_,gK (by rw[h.len];omega)⟩;obtain⟨y,hy⟩:∃y,xs[j+1]? = some y:=⟨_,gK hj⟩;have vW:val (sb (look ((xs.zip vs).take (j+1))) (bV t (xs.drop (j+1))))=true:=by
   refine zP (h.sub (j+1)) ?_;rw[zt0 hy];exact zR y _
  have e:=(h.sim t hx hV _ _).mpr ⟨0,rfl,Ev.v vW⟩;have et:vs.take (j+1)=vs.take j++[V]:=by rw[kO,hV];rfl
  have ec:((du t xs).take (j+1)).sum=((du t xs).take j).sum+(out x (bV t (xs.drop (j+1)))).2:=by
   rw[kO,zsj t xs j x hx];simp
  rw[et,Be,ec];exact (ih.comp (Ev.v (h.v V (gZ hV))) e).to 0x0
def Puts.all(h:Puts xs vs)(hn:0<xs.length)(t:Tr)(n:Nat)(v:Tr):Ev (apps (bV t xs) vs) n v ↔ ∃k,n=k+(du t xs).sum/\Ev (sb (look (xs.zip vs)) t) k v:=by
 obtain⟨x,hx⟩:∃x,xs[xs.length - 1]? = some x:=⟨_,gK 0x0⟩;obtain⟨V,hV⟩:∃V,vs[xs.length - 1]? = some V:=⟨_,gK (by rw[h.len];omega)⟩;have f:=h.few t (xs.length - 1) 0x0;have s:=h.sim t hx hV;have vV:=h.v V (gZ hV);have e1:xs.length - 1+1=xs.length:=by omega
 have ed:bV t (xs.drop (xs.length - 1+1))=t:=by rw[e1,List.drop_length];rfl
 have ez:(xs.zip vs).take (xs.length - 1+1)=xs.zip vs:=by rw[e1];exact pX (by rw[List.length_zip];omega)
 have ev:vs=vs.take (xs.length - 1)++[V]:=by
  have:vs.take (xs.length - 1+1)=vs.take (xs.length - 1)++[V]:=by rw[kO,hV];rfl
  rw[<-this,e1,<-h.len,my]
 have ec:(du t xs).sum=((du t xs).take (xs.length - 1)).sum+(out x t).2:=by
  have h1:=zsj t xs _ x hx;rw[ed]at h1;have h2:(du t xs).take (xs.length - 1+1)=(du t xs).take (xs.length - 1)++[(out x t).2]:=by rw[kO,h1];rfl
  rw[e1,<-zot t xs,my]at h2;rw[<-zot t xs]
  calc (du t xs).sum=((du t xs).take ((du t xs).length - 1)++[(out x t).2]).sum:=by rw[<-h2]
   _=_:=by simp
 rw[ed,ez]at s;have ea:apps (bV t xs) vs=.jn (apps (bV t xs) (vs.take (xs.length - 1))) V:=by
  conv=>lhs;rw[ev]
  rw[Be]
 rw[ea,ec];constructor
 ·intro q;obtain⟨n1,n2,n3,a,b,q1,q2,q3,rfl⟩:=q.inv;obtain⟨d1,d2⟩:=f.det q1;obtain⟨d3,d4⟩:=(Ev.v vV).det q2;subst d1 d2 d3 d4;obtain⟨k,rfl,hk⟩:=(s n3 v).mp q3;exact⟨k,by omega,hk⟩
 ·rintro ⟨k,rfl,hk⟩;exact (f.comp (Ev.v vV) ((s _ v).mpr ⟨k,rfl,hk⟩)).to 0x0
end
end Tr
end M
set_option maxHeartbeats 0
namespace M
namespace Tr
def Rdy:Tr->Prop
 | .lf _=>True
 | .jn a b=>val a=true/\val b=true
theorem Rdy.WW:∀{t:Tr},val t=true->Rdy t
 | .lf _,_=>trivial
 | .jn _ _,h=>Ov h
theorem zou:∀{j i:Nat} {t u:Tr},fV (j+i) t=some u->∃w,fV j t=some w/\fV i w=some u
 | 0,i,t,u,h=>⟨t,rfl,by rwa[mZ]at h⟩
 | j+1,i,t,u,h=>by
  rw[pL,fV]at h;cases e:step t with
  | none=>rw[e]at h;cases h
  | some x =>
   rw[e]at h;obtain⟨w,p,q⟩:=zou (j:=j) h;exact⟨w,by rw[xn e];exact p,q⟩
def Im3(t:Tr):Prop:=∃l a b c,t=.jn l (hold [a,b,c])/\val l=true/\val (hold [a,b,c])=true
def Im3.v{l r:Tr}(h:Im3 0x2):val l=true/\val r=true:=by
 obtain⟨l',a,b,c,e,h1,h2⟩:=h;injection e with e1 e2;rw[e1,e2];exact⟨h1,h2⟩
def N3(V:Tr):Prop:=∀a b c,V≠hold [a,b,c]
def N3.im{V:Tr}(h:N3 V)(l:Tr):¬ Im3 (.jn l V):=λzz=>by
 obtain⟨_,a,b,c,e,_⟩:=zz;injection e with _ e;exact h a b c e
def SR(t:Tr)(n:Nat):Prop:=∀m w,m<n->fV m t=some w->¬ Im3 w
def SR.z(t:Tr):SR t 0:=λm _ h=>absurd h (Nat.not_lt_zero m)
def SR.one{t:Tr}(h:¬ Im3 t):SR t 1:=λm w hm e=>by
 obtain rfl:m=0:=by omega
 cases e;exact h
def SR.then{t u:Tr}{n m:Nat}(h:fV n t=some u)(a:SR t n)(b:SR u m):SR t (n+m):=λj w hj e=>by
 by_cases q:j<n
 ·exact a j w q e
 ·obtain⟨i,rfl⟩:∃i,j=n+i:=⟨j - n,by omega⟩;rw[G5 h]at e;exact b i w 0x0 e
def SR.tail{t u:Tr}{n m:Nat}(h:fV n t=some u)(b:SR t (n+m)):SR u m:=λj w hj e=>b (n+j) w 0x0 (by rw[G5 h];exact e)
def z9{t v w:Tr}{n m:Nat}(h:fV n t=some v)(hm:m<n)(e:fV m t=some w):val w=false:=by
 obtain⟨k,rfl⟩:∃k,n=m+(k+1):=⟨n - m - 1,by omega⟩;rw[G5 e,fV]at h;cases q:step w with
 | none=>rw[q]at h;cases h
 | some x=>exact zr1 q
def SR.left{t:Tr}{n:Nat}(f:Tr->Tr)(r:Tr){w:Tr}(h:fV n t=some w)(hf:∀j x,fV j t=some x->fV j (.jn (f t) r)=some (.jn (f x) r))(hv:∀x,val x=false->val (f x)=false):SR (.jn (f t) r) n:=λj y hj e=>by
 obtain⟨x,p,_⟩:=zou (j:=j) (i:=n - j) (by rw[show j+(n - j)=n by omega];exact h);rw[hf j x p]at e;cases e;intro im;have:=hv x (z9 h hj p);rw[im.v.1]at this;cases this
def SR.both{l r a b:Tr}{n m:Nat}(h:Ev l n a)(k:Ev r m b):SR 0x2 (n+m):=by
 refine SR.then (Zw h.1) (SR.left id r h.1 (λ_ _ q=>Zw q) λ_ q=>q) (λj w hj e=>?_);obtain⟨x,p,_⟩:=zou (j:=j) (i:=m - j) (by rw[show j+(m - j)=m by omega];exact k.1);rw[zlh h.2 p]at e;cases e;intro im;have:=z9 k.1 hj p;rw[im.v.2]at this;cases this
def Ze(t:Tr)(n:Nat)(u:Tr):Prop:=fV n t=some u/\Rdy u
def je(t:Tr)(n:Nat)(u:Tr):Prop:=Ze t n u/\SR t n
def Ev.r{t v:Tr}(h:Ev t 0 v):je t 0 v:=⟨⟨h.1,.WW h.2⟩,.z _⟩
def je.to{t v:Tr}{n m:Nat}(h:je t n v)(e:n=m):je t m v:=e ▸ h
def je.then{t u v:Tr}{n m:Nat}(h:fV n t=some u)(s:SR t n)(k:je u m v):je t (n+m) v:=⟨⟨by rw[G5 h];exact k.1.1,k.1.2⟩,s.then h k.2⟩
theorem Ze.inv:∀{n:Nat} {l r u:Tr},Ze 0x2 n u->∃n1 n2 n3 a b,Ev l n1 a/\Ev r n2 b/\Ze (.jn a b) n3 u/\n=n1+n2+n3
 | 0,l,r,u,h=>by
  obtain⟨h1,h2⟩:=h;rw[fV]at h1;cases h1;exact⟨0,0,0,l,r,Ev.v h2.1,Ev.v h2.2,⟨rfl,h2⟩,rfl⟩
 | n+1,l,r,u,h=>by
  cases vl:val l with
  | false =>
   obtain⟨h1,h2⟩:=h;have e:=zh3 (r:=r) vl;cases sl:step l with
   | none=>rw[fV,e,sl]at h1;cases h1
   | some l' =>
    rw[sl]at e;rw[xn (u:=.jn l' r) e]at h1;obtain⟨n1,n2,n3,a,b,q1,q2,q3,q4⟩:=Ze.inv (n:=n) ⟨h1,h2⟩;exact⟨n1+1,n2,n3,a,b,⟨by rw[xn sl];exact q1.1,q1.2⟩,q2,q3,by omega⟩
  | true =>
   cases vr:val r with
   | false =>
    obtain⟨h1,h2⟩:=h;have e:=zf0 vl vr;cases sr:step r with
    | none=>rw[fV,e,sr]at h1;cases h1
    | some r' =>
     rw[sr]at e;rw[xn (u:=.jn l r') e]at h1;obtain⟨n1,n2,n3,a,b,q1,q2,q3,q4⟩:=Ze.inv (n:=n) ⟨h1,h2⟩;have:n1=0/\l=a:=Ev.det (Ev.v vl) q1 |>.imp (λz=>z.symm) id;exact⟨n1,n2+1,n3,a,b,q1,⟨by rw[xn sr];exact q2.1,q2.2⟩,q3,by omega⟩
   | true=>exact⟨0,0,n+1,l,r,Ev.v vl,Ev.v vr,h,by omega⟩
def je.inv{n:Nat}{l r u:Tr}(h:je 0x2 n u):∃n1 n2 n3 a b,Ev l n1 a/\Ev r n2 b/\je (.jn a b) n3 u/\n=n1+n2+n3:=by
 obtain⟨n1,n2,n3,a,b,q1,q2,q3,rfl⟩:=Ze.inv h.1;exact⟨n1,n2,n3,a,b,q1,q2,⟨q3,h.2.tail (q1.both q2)⟩,rfl⟩
def je.comp{l r a b u:Tr}{n m k:Nat}(h:Ev l n a)(h2:Ev r m b)(h3:je (.jn a b) k u):je 0x2 (n+m+k) u:=.then (h.both h2) (.both h h2) h3
def acX{f g:List Nat->Option Tr}{x:List Nat}{V:Tr}(hg:Sub g)(hf:Sub f)(hx:f x=some V)(N7:∀s,s≠x->f s=g s)(hV:val V=true)(n3:N3 V)(l r:Tr)(hs:stands x 0x2=true){k:Nat}{u:Tr}(h:je (sb f 0x2) k u) :
  je (.jn (sb g (out x 0x2).1) V) (k+(out x 0x2).2) u:=by
 by_cases h2:((val l && !stands x l) && iG x r)=true
 ·simp only[gM,nU]at h2;rw[zgk x (by simp only[gM,nU];exact h2.1) h2.2];obtain⟨⟨_,hl⟩,hr⟩:=h2;rw[ziu]at hr;subst hr;have e1:sb f (.jn l (.lf x))=.jn (sb g l) V:=by rw[sb,zmr N7 hl,show sb f (.lf x)=V by rw[sb,hx];rfl]
  rw[e1]at h;exact h
 ·rw[zi4 x (by rw[hs];simp) (by simpa using h2)];have e1:sb g (.jn (.jn tS (out x l).1) (out x r).1)=.jn (.jn tS (sb g (out x l).1)) (sb g (out x r).1):=by rw[sb,sb,Px hg]
  have vS:val (.jn (.jn tS (sb g (out x l).1)) (sb g (out x r).1))=true:=by rw[TY,zP hg (zR x l),zP hg (zR x r)];rfl
  show je (.jn (sb g (.jn (.jn tS (out x l).1) (out x r).1)) V) (k+(1+(out x l).2+(out x r).2)) u;rw[e1];obtain⟨n1,n2,n3',a,b,q1,q2,q3,rfl⟩:=je.inv h;have p1:=(sim hg hf hx N7 hV l (n1+(out x l).2) a).mpr ⟨n1,rfl,q1⟩;have p2:=(sim hg hf hx N7 hV r (n2+(out x r).2) b).mpr ⟨n2,rfl,q2⟩;have st1:fV 1 (.jn (.jn (.jn tS (sb g (out x l).1)) (sb g (out x r).1)) V)=some (.jn (.jn (sb g (out x l).1) V) (.jn (sb g (out x r).1) V)):=by
   rw[xn (u:=.jn (.jn (sb g (out x l).1) V) (.jn (sb g (out x r).1) V)) (by rw[zgi vS hV (Zq _ _ _)];rfl)];rfl
  exact (je.then st1 (.one (n3.im _)) (je.comp p1 p2 q3)).to 0x0
def iM(ρ:List Nat->Option Tr)(x:List Nat)(v:Tr):List Nat->Option Tr:=λs=>if s=x then some v else ρ s
def tB(ρ:List Nat->Option Tr):List (List Nat)->List Tr->List Nat->Option Tr
 | x::xs,v::vs=>tB (iM ρ x v) xs vs
 | _,_=>ρ
def jO(x:List Nat):Prop:=x≠[83]/\x≠[75]
def Sub.upd{ρ:List Nat->Option Tr}(h:Sub ρ){x:List Nat}{v:Tr}(hx:jO x)(hv:val v=true):Sub (iM ρ x v):=by
 refine⟨λs t e=>?_,?_,?_⟩
 ·unfold iM at e
  split at e
  ·cases e;exact hv
  ·exact h.v s t e
 ·unfold iM;rw[ae8 (afi hx.1)];exact h.S
 ·unfold iM;rw[ae8 (afi hx.2)];exact h.K
def znj{n:Nat}{p w:Tr}(h:fV n p=some w):∀vs:List Tr,fV n (apps p vs)=some (apps w vs):=by
 intro vs
 induction vs generalizing p w with
 | nil=>exact h
 | cons v vs ih=>exact ih (Zw h)
def Hs{w:Tr}(h:val w=false):∀vs:List Tr,val (apps w vs)=false:=λvs=>by
 induction vs generalizing w with
 | nil=>exact h
 | cons v vs ih =>
  refine ih (w:=.jn w v) ?_;cases e:val (.jn w v) with
  | false=>rfl
  | true=>rw[(Ov e).1]at h;cases h
def SR.apps{n:Nat}{p w:Tr}(h:fV n p=some w)(vs:List Tr)(hv:vs≠[]):SR (apps p vs) n:=by
 obtain⟨us,x,rfl⟩:∃us x,vs=us++[x]:=⟨vs.dropLast,vs.getLast hv,(qd hv).symm⟩;rw[Be];exact SR.left (λp=>Tr.apps p us) x h (λ_ _ q=>Zw (znj q us)) λ_ q=>Hs q us
def Pn{ρ:List Nat->Option Tr}(h:Sub ρ){x:List Nat}{V:Tr}(hx:jO x)(hV:val V=true)(n3:N3 V)(l r:Tr)(hs:stands x 0x2=true){k:Nat}{u:Tr}(e:je (sb (iM ρ x V) 0x2) k u):je (.jn (sb ρ (out x 0x2).1) V) (k+(out x 0x2).2) u :=
 acX h (h.upd hx hV) (by unfold iM;rw[ae7 rfl]) (λs hs=>by unfold iM;rw[ae8 hs]) hV n3 l r hs e
def xV{ρ:List Nat->Option Tr}(h:Sub ρ){x y:List Nat}{V:Tr}(hx:jO x)(hV:val V=true)(t:Tr)(ys:List (List Nat)) :
  Ev (.jn (sb ρ (bV t (x::y::ys))) V) (out x (bV t (y::ys))).2 (sb (iM ρ x V) (bV t (y::ys))):=by
 have vW:val (sb (iM ρ x V) (bV t (y::ys)))=true:=zP (h.upd hx hV) (zR y _);have:=(sim h (h.upd hx hV) (by unfold iM;rw[ae7 rfl]) (λs hs=>by unfold iM;rw[ae8 hs]) hV (bV t (y::ys)) _ _).mpr ⟨0,rfl,Ev.v vW⟩;rw[mZ]at this;exact this
theorem hands(l r:Tr):∀(xs:List (List Nat)) (vs:List Tr) (ρ:List Nat->Option Tr) (x:List Nat) (v:Tr),Sub ρ->(∀y∈xs,jO y)->jO x->(∀y∈vs,val y=true)->val v=true->N3 v->stands x 0x2=true->vs.length=xs.length->∀{k:Nat} {u:Tr},je (sb (tB ρ (xs++[x]) (vs++[v])) 0x2) k u ->
  je (apps (sb ρ (bV 0x2 (xs++[x]))) (vs++[v])) (k+(du 0x2 (xs++[x])).sum) u
 | [],[],ρ,x,v,h,_,hx,_,hv,n3,hs,_,k,u,e=>by
  have:=Pn h hx hv n3 l r hs e;exact this.to (by simp[du,bV])
 | y::ys,w::vs,ρ,x,v,h,hy,hx,hw,hv,n3,hs,hl,k,u,e=>by
  obtain⟨z,zs,ez⟩:∃z zs,ys++[x]=z::zs:=by cases ys<;>exact⟨_,_,rfl⟩
  have o:=xV h (hy y 0x1) (hw w 0x1) 0x2 zs (y:=z);have ih:=hands l r ys vs (iM ρ y w) x v (h.upd (hy y 0x1) (hw w 0x1)) (λq hq=>hy q (by simp[hq])) hx (λq hq=>hw q (by simp[hq])) hv n3 hs (by simpa using hl) e;rw[nH,nH,ez];rw[ez]at ih;have lU:vs++[v]≠[]:=by simp
  exact (je.then (znj (p:=.jn (sb ρ (bV 0x2 (y::z::zs))) w) o.1 _) (.apps (p:=.jn (sb ρ (bV 0x2 (y::z::zs))) w) o.1 _ lU) ih).to (by rw[show du 0x2 (y::z::zs)=(out y (bV 0x2 (z::zs))).2::du 0x2 (z::zs) from rfl,p7];omega)
 | [],_::_,_,_,_,_,_,_,_,_,_,_,hl,_,_,_=>by simp at hl
 | _::_,[],_,_,_,_,_,_,_,_,_,_,hl,_,_,_=>by simp at hl
def zs6{p w:Tr}{ts:List Tr}{t:Tr}{n:Nat}(hp:val p=true)(h:dw p ts n w)(ht:val t=true):∃x,fV 1 (.jn (hold (ts++[t])) p)=some x/\fV (n+2+2*ts.length+1) x=some (.jn w t)/\SR x (n+2+2*ts.length+1):=by
 obtain⟨v1,e1⟩:=zp9 hp h;have hv:val (hold (ts++[t]))=true:=by rw[Vn,TY,eU,ht,v1];rfl
 have k1:Ev (.jn (.jn tK t) p) 1 t:=((Ev.v (v:=.jn tK t) (by rw[eU];exact ht)).K (Ev.v hp)).to 0x0;rw[Vn]at hv ⊢;exact⟨.jn (.jn (hold ts) p) (.jn (.jn tK t) p),by rw[xn (u:=.jn (.jn (hold ts) p) (.jn (.jn tK t) p)) (by rw[zgi hv hp (Zq _ _ _)];rfl)];rfl,e1.both k1,.both e1 k1⟩
def Dq(t:Tr)(n:Nat)(u:Tr):Prop:=fV n t=some u/\∀m w,0<m->m<n->fV m t=some w->¬ Im3 w
def Dq.mk'{t x u:Tr}{n:Nat}(h:fV 1 t=some x)(k:je x n u):Dq t (1+n) u:=⟨by rw[G5 h];exact k.1.1,λm w h0 hm e=>by
 obtain⟨i,rfl⟩:∃i,m=1+i:=⟨m - 1,by omega⟩;rw[G5 h]at e;exact k.2 i w 0x0 e⟩
def Dq.to{t v:Tr}{n m:Nat}(h:Dq t n v)(e:n=m):Dq t m v:=e ▸ h
def abk(x:Tr):N3 (.jn tK x):=λa b c e=>by
 injection e with e _;cases e
def abj:N3 tK:=λa b c e=>by cases e
def adI(x y:Tr):N3 (hold [x,y]):=λa b c e=>by
 injection e with e _;injection e with _ e;injection e with e _;injection e with _ e;injection e with _ e;cases e
end Tr
end M
namespace M
namespace Tr
abbrev dZ:List (List Nat):=[[108],[115],[114],[102]]
abbrev cu:List (List Nat):=[[110],[102],[108],[114]]
abbrev iZ:List (List Nat):=[[121],[120]]
abbrev qt:List (List Nat):=[[97],[116],[121],[120]]
abbrev qN:List (List Nat):=[[102],[118]]
def dn(c:Nat):List Nat:=if c=95 then [100] else [100,c]
def cz(ls:List Nat):Tr:=apps (.lf [115]) ((ls.map λc=>.lf (dn c))++cu.map .lf)
def eV:Tr:=hold [.lf [110],.lf [108],.lf [119],.lf [114]]
def cQ(m:Bool):Tr:=apps (.lf (if m then [108] else [114])) [.lf [98,97,114,101],.lf [102,117,108,108],.jn (.jn (.lf [103]) (.lf [102])) (.lf [102]),.lf (if m then [114] else [108])]
def eG:Tr:=.jn tK (hold [.lf [119],.lf [120]])
def bu(m:Bool):Tr:=.jn (.lf [121]) (if m then hold [.lf [116],.lf [97],eG] else hold [eG,.lf [97],.lf [116]])
def dR:Tr:=apps (.lf [118]) [.lf [101],.lf [102]]
def M8(p:Tr)(a b:List Tr):apps p (a++b)=apps (apps p a) b:=by simp[apps]
def Pu(f:List Nat->Option Tr)(p:Tr)(ts:List Tr):sb f (apps p ts)=apps (sb f p) (ts.map (sb f)):=by
 induction ts generalizing p with
 | nil=>rfl
 | cons t ts ih=>exact ih (.jn p t)
theorem HY{f:List Nat->Option Tr}(h:Sub f):∀{t:Tr},sk t->sb f t=t
 | .lf s,hs=>by
  rcases (show s=[83]\/s=[75] from hs) with rfl | rfl
  ·exact Px h
  ·exact V3 h
 | .jn l r,hs=>by rw[sb,HY h hs.1,HY h hs.2]
def sH(f g:List Nat->Option Tr):List Nat->Option Tr:=λs=>match f s with | some v=>some v | none=>g s
theorem H_{f g:List Nat->Option Tr}(hg:Sub g)(hf:∀s v,f s=some v->sk v):∀t:Tr,sb g (sb f t)=sb (sH f g) t
 | .lf s=>by
  unfold sH;rw[sb,sb];cases e:f s with
  | none=>rfl
  | some v=>exact HY hg (hf s v e)
 | .jn l r=>by rw[sb,sb,sb,H_ hg hf l,H_ hg hf r]
def Sub.sH{f g:List Nat->Option Tr}(hf:Sub f)(hg:Sub g):Sub (Tr.sH f g):=by
 refine⟨λs t e=>?_,?_,?_⟩
 ·unfold Tr.sH at e;cases q:f s with
  | none=>rw[q]at e;exact hg.v s t e
  | some v=>rw[q]at e;cases e;exact hf.v s _ q
 ·unfold Tr.sH;rw[hf.S];exact hg.S
 ·unfold Tr.sH;rw[hf.K];exact hg.K
def Hr{σ:List (List Nat×Tr)}(h:∀p∈σ,jO p.1/\val p.2=true):Sub (look σ):=by
 refine⟨λs t e=>(h _ (zix e)).2,?_,?_⟩
 ·exact zp1 λp hp=>(h p hp).1.1
 ·exact zp1 λp hp=>(h p hp).1.2
def PQ(ls:List Nat)(num:Tr)(fG:Nat->Tr):Tr:=sb (look 0x15) (bV (cz ls) dZ)
def jo(w:Tr):Tr:=sb (look [([119],w)]) (bV eV cu)
def fK(m:Bool)(bl w:Tr):Tr:=sb (look [([119],w)]) (sb (look [([97],bl),([116],tK)]) (bV (bu m) iZ))
def jh(m:Bool)(w:Tr):Tr:=sb (look [([119],w)]) (bV (bu m) qt)
def rK(m:Bool)(bl w way:Tr):Tr:=sb (look [([98,97,114,101],fK m bl w),([102,117,108,108],jh m w),([103],way)]) (bV (cQ m) cu)
def jN(row:Tr):Tr:=sb (look [([101],row)]) (bV dR qN)
def cV:Nat->List Tr->Tr
 | 0,_=>tK
 | n+1,es=>if es.length=1 then es.headD tK else hold [cV n 0xe,cV n 0x10]
def bO:Nat->Nat->Nat->List Nat
 | 0,_,_=>[]
 | n+1,k,left=>if left<=1 then [] else if k<left / 2 then 0::bO n k (left / 2) else 1::bO n (k - left / 2) (left - left / 2)
def jF(ts:List Nat):Tr:=hold (ts.map λt=>bL t 2)
def cg(k many:Nat):Nat:=many - 1+Es (many - 1 - k)
def oZ(ts:List Nat):Nat:=(ts.map λt=>6+cg t 2).sum
theorem T6:∀(n:Nat) (es:List Tr),(∀e∈es,val e=true)->val (cV n es)=true
 | 0,_,_=>rfl
 | n+1,es,h=>by
  rw[cV]
  split
  ·rename_i h1;obtain⟨e,rfl⟩:=mq.mp h1;exact h e 0x1
  ·refine Dv λt ht=>?_;simp only[gm,km,afv]at ht;rcases ht with rfl | rfl
   ·exact T6 n _ λe he=>h e (m_ he)
   ·exact T6 n _ λe he=>h e (nj he)
def GR:∀(n:Nat) (es:List Tr) (k:Nat) (e:Tr),(∀e∈es,val e=true)->es.length<=2 ^ n->es[k]? = some e->dw (cV (n+1) es) ((bO (n+1) k es.length).map λt=>bL t 2) (oZ (bO (n+1) k es.length)) e:=by
 intro n
 induction n with
 | zero =>
  intro es k e h hl hk;have h0:=(gf.mp hk).1;have h1:es.length=1:=by simp at hl;omega
  obtain⟨x,rfl⟩:=mq.mp h1;have:k=0:=by simp at h0;exact h0
  subst this;simp at hk;subst hk;exact .nil (h x 0x1)
 | succ n ih =>
  intro es k e h hl hk;have h0:=(gf.mp hk).1;by_cases h1:es.length=1
  ·obtain⟨x,rfl⟩:=mq.mp h1;have:k=0:=by simp at h0;exact h0
   subst this;simp at hk;subst hk;exact .nil (h x 0x1)
  ·have hp:2 ^ (n+1)=2 ^ n+2 ^ n:=by rw[p8];omega
   have e1:cV (n+1+1) es=hold [cV (n+1) 0xe,cV (n+1) 0x10]:=by rw[cV,ae8 h1]
   have l1:0xe.length=es.length / 2:=by rw[kJ];omega
   have l2:0x10.length=es.length - es.length / 2:=by rw[mO]
   have v1:=T6 (n+1) _ λe he=>h e (m_ (i:=es.length / 2) he);have v2:=T6 (n+1) _ λe he=>h e (nj (i:=es.length / 2) he);have one:∀(t:Nat) (T:Tr),[cV (n+1) 0xe,cV (n+1) 0x10][t]? = some T->dw (cV (n+1+1) es) [bL t 2] (6+cg t 2) T:=λt T hT=>by
    rw[e1];have ht:=(gf.mp hT).1;have a:=znc (ts:=[cV (n+1) 0xe,cV (n+1) 0x10]) (λx hx=>by
     simp only[gm,km,afv]at hx;rcases hx with rfl | rfl
     ·exact v1
     ·exact v2) hT
    obtain⟨q1,q2⟩:=zp9 (Nr t 2) a;have:=dw.snoc [] (bL t 2) _ T 0 _ (.nil q1) (Nr t 2) q2;simp only[m8,gC,mY]at this ht;have ec:0+(t+Es (0+1+1 - 1 - t)+(0+1+1 - 1 - t)+2+2*(0+1+1))=6+cg t 2:=by unfold cg;simp only[show 0+1+1 - 1 - t=2 - 1 - t by omega];omega
    rw[ec]at this;exact this
   have hh:¬ es.length<=1:=by omega
   by_cases FN:k<es.length / 2
   ·have et:bO (n+1+1) k es.length=0::bO (n+1) k (es.length / 2):=by rw[bO,ae8 hh,ae7 FN]
    have r:=ih 0xe k e (λe he=>h e (m_ he)) 0x0 (by rw[pR,ae7 FN];exact hk);rw[l1]at r;have:=(one 0 _ rfl).trans r;rw[et];exact this
   ·have et:bO (n+1+1) k es.length=1::bO (n+1) (k - es.length / 2) (es.length - es.length / 2):=by rw[bO,ae8 hh,ae8 FN]
    have r:=ih 0x10 (k - es.length / 2) e (λe he=>h e (nj he)) 0x0 (by rw[List.getElem?_drop,show es.length / 2+(k - es.length / 2)=k by omega];exact hk);rw[l2]at r;have:=(one 1 _ rfl).trans r;rw[et];exact this
def zn4{row:Tr}(h:val row=true):val (jN row)=true:=by
 unfold jN;exact zP (Hr (by simp[jO,h])) (zR _ _)
def YL{row T:Tr}(h:val row=true)(hT:val T=true):Ev (.jn (jN row) T) ((du dR qN).headD 0) (hold [row,T]):=by
 have s:Sub (look [([101],row)]):=Hr (by simp[jO,h]);have:=xV s (x:=[102]) (y:=[118]) (by simp[jO]) hT dR [];have e:sb (iM (look [([101],row)]) [102] T) (bV dR [[118]])=hold [row,T]:=by rfl
 rw[e]at this;exact this
def Vx{n k:Nat}{rows:List Tr}{row:Tr}(hv:∀r∈rows,val r=true)(hl:rows.length<=2 ^ n)(hk:rows[k]? = some row) :
  Ev (.jn (.jn (jF (bO (n+1) k rows.length)) (cV (n+1) (rows.map jN))) (cV (n+1) (rows.map jN)))
   (2+2*(bO (n+1) k rows.length).length+oZ (bO (n+1) k rows.length)+(du dR qN).headD 0) (hold [row,cV (n+1) (rows.map jN)]):=by
 have he:∀e∈rows.map jN,val e=true:=λe h=>by
  obtain⟨r,hr,rfl⟩:=gh.mp h;exact zn4 (hv r hr)
 have vT:=T6 (n+1) _ he;have vr:val row=true:=hv row (gZ hk);have a:=GR n (rows.map jN) k (jN row) he (by simpa using hl) (by rw[gO,hk];rfl);rw[gj]at a;obtain⟨q1,q2⟩:=zp9 vT a;rw[gj]at q2;have:=q2.comp (Ev.v vT) (YL vr vT);exact this.to 0x0
end Tr
end M
namespace M
namespace Tr
def Ej{ρ:List Nat->Option Tr}(hρ:Sub ρ){t L s R T u:Tr}{k:Nat}(vL:val L=true)(vs:val s=true)(vR:val R=true)(vT:val T=true)(nT:N3 T){l r:Tr}(et:t=.jn l r)(hf:stands [102] t=true)(h:je (sb (tB ρ dZ [L,s,R,T]) t) k u) :
  Dq (.jn (hold [sb ρ (bV t dZ),T]) (hold [L,s,R])) (6+8+(du t dZ).sum+k) u:=by
 have s1:=hρ.upd (x:=[108]) (by simp[jO]) vL;have s2:=s1.upd (x:=[115]) (by simp[jO]) vs;have s3:=s2.upd (x:=[114]) (by simp[jO]) vR;have e1:=xV hρ (x:=[108]) (y:=[115]) (by simp[jO]) vL t [[114],[102]];have e2:=xV s1 (x:=[115]) (y:=[114]) (by simp[jO]) vs t [[102]];have e3:=xV s2 (x:=[114]) (y:=[102]) (by simp[jO]) vR t [];have e4:je (.jn (sb (iM (iM (iM ρ [108] L) [115] s) [114] R) (out [102] t).1) T) (k+(out [102] t).2) u:=by subst et;exact Pn s3 (x:=[102]) (by simp[jO]) vT nT l r hf h
 have Vy:val (sb ρ (bV t dZ))=true:=zP hρ (zR _ _);have vP:val (hold [L,s,R])=true:=Dv (by simp[vL,vs,vR]);have a2:dw (sb ρ (bV t dZ)) [L,s] _ _:=dw.snoc [L] s _ _ _ _ (dw.snoc [] L _ _ 0 _ (.nil Vy) vL e1) vs e2;obtain⟨y,y1,y2,_⟩:=zs6 Vy a2 vR;have h1:=(G5 y1).trans y2;have ev:Ev (.jn (hold [L,s,R]) (sb ρ (bV t dZ))) _ _:=⟨(G5 h1).trans e3.1,e3.2⟩;have a1:dw (hold [L,s,R]) [sb ρ (bV t dZ)] _ _:=dw.snoc [] (sb ρ (bV t dZ)) _ _ 0 _ (.nil vP) Vy ev;obtain⟨z,z1,z2,z3⟩:=zs6 vP a1 vT;refine (Dq.mk' z1 (je.then z2 z3 e4)).to ?_;have es:(du t dZ).sum=(out [108] (bV t [[115],[114],[102]])).2+((out [115] (bV t [[114],[102]])).2+((out [114] (bV t [[102]])).2+((out [102] t).2+0))):=rfl;rw[es];simp only[gC,mY];omega
def zum{deeds rest:List Tr}{d u:Tr}{i k:Nat}(hv:∀x∈deeds,val x=true)(hd:deeds[i]? = some d)(hr:rest≠[])(h:je (apps d rest) k u):je (apps (bL i deeds.length) (deeds++rest)) (cg i deeds.length+k) u:=by
 have a:=(znc hv hd).apps;rw[M8];have hl:=(gf.mp hd).1;exact (je.then (znj a.1 rest) (.apps a.1 rest hr) h).to (by unfold cg;omega)
def zq:Nat:=(du eV cu).sum
def iQ(m:Bool):Nat:=(du (cQ m) cu).sum+1
def qp(m:Bool):Nat:=(du (bu m) iZ).sum
def lW(m:Bool):Nat:=6+(du (bu m) qt).sum
def Gf{w num T L R:Tr}(vw:val w=true)(vn:val num=true)(vT:val T=true)(vL:val L=true)(vR:val R=true)(nR:N3 R):je (apps (jo w) [num,T,L,R]) zq (hold [num,L,w,R]):=by
 have s:Sub (look [([119],w)]):=Hr (by simp[jO,vw]);have e:sb (tB (look [([119],w)]) cu [num,T,L,R]) eV=hold [num,L,w,R]:=rfl;have:=hands _ _ [[110],[102],[108]] [num,T,L] _ [114] R s (by simp[jO]) (by simp[jO]) (by simp[vn,vT,vL]) vR nR rfl rfl (k:=0) (u:=hold [num,L,w,R]) (by show je (sb (tB (look [([119],w)]) cu [num,T,L,R]) eV) _ _;rw[e];exact (Ev.v (Dv (by simp[vn,vL,vw,vR]))).r);exact this.to (by show 0+(du eV cu).sum=_;unfold zq;omega)
def wM(m:Bool)(t a w x:Tr):Tr:=if m then hold [t,a,.jn tK (hold [w,x])] else hold [.jn tK (hold [w,x]),a,t]
def ztw{m:Bool}{t a w x:Tr}(vt:val t=true)(va:val a=true)(vw:val w=true)(vx:val x=true):val (wM m t a w x)=true:=by
 have g:val (.jn tK (hold [w,x]))=true:=by rw[eU];exact Dv (by simp[vw,vx])
 unfold wM
 split
 ·exact Dv (by simp[vt,va,g])
 ·exact Dv (by simp[vt,va,g])
def Dh(bl w:Tr):List Nat->Option Tr:=sH (look [([97],bl),([116],tK)]) (look [([119],w)])
def ztx{m:Bool}{bl w:Tr}(vw:val w=true)(G9:sk bl):fK m bl w=sb (Dh bl w) (bV (bu m) iZ):=by
 unfold fK Dh;refine H_ (Hr (by simp[jO,vw])) (λs v e=>?_) _;have:=zix e;simp only[gm,km,afv,Prod.mk.injEq]at this;rcases this with⟨_,rfl⟩ | ⟨_,rfl⟩
 ·exact G9
 ·exact .inr rfl
def zs4{bl w:Tr}(vb:val bl=true)(vw:val w=true):Sub (Dh bl w) :=
 (Hr (σ:=[([97],bl),([116],tK)]) (by simp[jO,vb];rfl)).sH (Hr (σ:=[([119],w)]) (by simp[jO,vw]))
def zkc{m:Bool}{bl w:Tr}(vb:val bl=true)(vw:val w=true)(s:sk bl):val (fK m bl w)=true:=by
 rw[ztx vw s];exact zP (zs4 vb vw) (zR _ _)
def zkd{m:Bool}{w:Tr}(vw:val w=true):val (jh m w)=true:=zP (Hr (by simp[jO,vw])) (zR _ _)
section
variable  {m:Bool}{bl w way num T S O st:Tr}{cw:Nat}
def zsb(vb:val bl=true)(vw:val w=true)(G9:sk bl)(vg:val way=true):Sub (look [([98,97,114,101],fK m bl w),([102,117,108,108],jh m w),([103],way)]) :=
 Hr (by simp[jO,zkc vb vw G9,zkd vw,vg])
def Bt(X:Tr){k:Nat}{u:Tr}(vb:val bl=true)(vw:val w=true)(G9:sk bl)(vg:val way=true)(vn:val num=true)(vT:val T=true)(vS:val S=true)(vO:val O=true)(nS:N3 S)(nO:N3 O)
  (h:je (.jn (.jn (.jn (.jn S (fK m bl w)) (jh m w)) (.jn (.jn way T) T)) O) k u) :
  je (apps (rK m bl w way) [num,T,if m then S else O,if m then O else S]) (k+(du (cQ m) cu).sum) u:=by
 have e:sb (tB (look [([98,97,114,101],fK m bl w),([102,117,108,108],jh m w),([103],way)]) cu [num,T,if m then S else O,if m then O else S]) (cQ m)=.jn (.jn (.jn (.jn S (fK m bl w)) (jh m w)) (.jn (.jn way T) T)) O:=by
  cases m<;>rfl
 exact hands _ _ [[110],[102],[108]] [num,T,if m then S else O] _ [114] (if m then O else S) (zsb vb vw G9 vg) (by simp[jO]) (by simp[jO]) (by cases m<;>simp[vn,vT,vS,vO]) (by cases m<;>simp[vS,vO]) (by cases m<;>simp[nS,nO]) (by cases m<;>rfl) rfl (by
  show je (sb (tB _ cu [num,T,if m then S else O,if m then O else S]) (cQ m)) _ _;rw[e];exact h)
def zts(vb:val bl=true)(vw:val w=true)(G9:sk bl)(vg:val way=true)(vn:val num=true)(vT:val T=true)(vO:val O=true)(nO:N3 O)(hw:Ev (.jn (.jn way T) T) cw st) :
  je (apps (rK m bl w way) [num,T,if m then tK else O,if m then O else tK]) (iQ m+qp m+cw) (.jn st (wM m tK bl w O)):=by
 have vB:=zkc (m:=m) vb vw G9;have vF:=zkd (m:=m) vw;have A:Ev (.jn (.jn tK (fK m bl w)) (jh m w)) 1 (fK m bl w):=((Ev.v (v:=.jn tK (fK m bl w)) (by rw[eU];exact vB)).K (Ev.v vF)).to 0x0;have s0:=zs4 vb vw;have s1:=s0.upd (x:=[121]) (by simp[jO]) hw.2;have e1:=xV s0 (x:=[121]) (y:=[120]) (by simp[jO]) hw.2 (bu m) [];rw[show bV (bu m) [[121],[120]]=bV (bu m) iZ from rfl,<-ztx (m:=m) vw G9]at e1;have et:sb (iM (iM (Dh bl w) [121] st) [120] O) (bu m)=.jn st (wM m tK bl w O):=by cases m<;>rfl
 have r:Rdy (.jn st (wM m tK bl w O)):=⟨hw.2,ztw rfl vb vw vO⟩;have e2:=Pn s1 (x:=[120]) (by simp[jO]) vO nO _ _ (show stands [120] (bu m)=true by cases m<;>rfl) (k:=0) (u:=.jn st (wM m tK bl w O)) (by show je (sb _ (bu m)) _ _;rw[et];exact⟨⟨rfl,r⟩,.z _⟩);change je _ (0+(out [120] (bu m)).2) _ at e2;have X:=A.comp hw e1;have:=Bt (m:=m) (O:=O) (num:=num) tK vb vw G9 vg vn vT rfl vO abj nO (je.comp X (Ev.v vO) e2);refine this.to ?_;have es:qp m=(out [121] (bV (bu m) [[120]])).2+((out [120] (bu m)).2+0):=rfl;rw[es];unfold iQ;omega
def zs3{a t:Tr}(vb:val bl=true)(vw:val w=true)(G9:sk bl)(vg:val way=true)(vn:val num=true)(vT:val T=true)(vO:val O=true)(va:val a=true)(vt:val t=true)(nO:N3 O)(hw:Ev (.jn (.jn way T) T) cw st) :
  je (apps (rK m bl w way) [num,T,if m then .jn tK (hold [a,t]) else O,if m then O else .jn tK (hold [a,t])]) (iQ m+lW m+cw) (.jn st (wM m t a w O)):=by
 have vB:=zkc (m:=m) vb vw G9;have vF:=zkd (m:=m) vw;have vH:val (hold [a,t])=true:=Dv (by simp[va,vt]);have vS:val (.jn tK (hold [a,t]))=true:=by rw[eU];exact vH
 have A1:Ev (.jn (.jn tK (hold [a,t])) (fK m bl w)) 1 (hold [a,t]):=((Ev.v vS).K (Ev.v vB)).to 0x0;have s0:Sub (look [([119],w)]):=Hr (by simp[jO,vw]);have s1:=s0.upd (x:=[97]) (by simp[jO]) va;have s2:=s1.upd (x:=[116]) (by simp[jO]) vt;have s3:=s2.upd (x:=[121]) (by simp[jO]) hw.2;have e1:=xV s0 (x:=[97]) (y:=[116]) (by simp[jO]) va (bu m) [[121],[120]];have e2:=xV s1 (x:=[116]) (y:=[121]) (by simp[jO]) vt (bu m) [[120]];have e3:=xV s2 (x:=[121]) (y:=[120]) (by simp[jO]) hw.2 (bu m) [];have et:sb (iM (iM (iM (iM (look [([119],w)]) [97] a) [116] t) [121] st) [120] O) (bu m)=.jn st (wM m t a w O):=by cases m<;>rfl
 have r:Rdy (.jn st (wM m t a w O)):=⟨hw.2,ztw vt va vw vO⟩;have e4:=Pn s3 (x:=[120]) (by simp[jO]) vO nO _ _ (show stands [120] (bu m)=true by cases m<;>rfl) (k:=0) (u:=.jn st (wM m t a w O)) (by show je (sb _ (bu m)) _ _;rw[et];exact⟨⟨rfl,r⟩,.z _⟩);change je _ (0+(out [120] (bu m)).2) _ at e4;have a2:dw (jh m w) [a,t] _ _:=dw.snoc [a] t _ _ _ _ (dw.snoc [] a _ _ 0 _ (.nil vF) va e1) vt e2;obtain⟨_,q⟩:=zp9 vF a2;have A:=A1.comp (Ev.v vF) q;have X:=A.comp hw e3;have:=Bt (m:=m) (O:=O) (num:=num) (.jn tK (hold [a,t])) vb vw G9 vg vn vT vS vO (abk _) nO (je.comp X (Ev.v vO) e4);refine this.to ?_;have es:lW m=6+((out [97] (bV (bu m) [[116],[121],[120]])).2+((out [116] (bV (bu m) [[121],[120]])).2+((out [121] (bV (bu m) [[120]])).2+((out [120] (bu m)).2+0)))):=rfl;rw[es];unfold iQ;simp only[gC,mY];omega
end
def V5{ls:List Nat}(hn:ls.Nodup)(h0:0∉ls)(num:Tr)(fG:Nat->Tr)(L s R T:Tr) :
  sb (tB (look 0x15) dZ [L,s,R,T]) (cz ls)=apps s (ls.map fG++[num,T,L,R]):=by
 have hd:∀c,∀x,dn c=[x]->x=100:=λc x e=>by
  unfold dn at e
  split at e<;>simp at e
  exact e.symm
 have aek:∀a b,dn a=dn b->a∈ls->b∈ls->a=b:=λa b e _ _=>by
  unfold dn at e
  split at e<;>split at e<;>simp_all
 have lk:∀(l:List Nat) (c:Nat),c∈l->(∀x∈l,x∈ls)->look (l.map λc=>(dn c,fG c)) (dn c)=some (fG c):=by
  intro l
  induction l with
  | nil=>intro c hc;cases hc
  | cons x l ih =>
   intro c hc hs;rw[gq,Ow];by_cases e:dn x=dn c
   ·rw[ae7 e,aek x c e (hs x 0x1) (hs c hc)]
   ·rw[ae8 e];refine ih c ?_ λy hy=>hs y (by simp[hy]);rcases gm.mp hc with rfl | h
    ·exact absurd rfl e
    ·exact h
 generalize hρ:look 0x15=ρ;have hu:∀q,tB ρ dZ [L,s,R,T] q=if q=[102] then some T else if q=[114] then some R else if q=[115] then some s else if q=[108] then some L else ρ q:=λq=>rfl;have ne:∀c x,x≠100->dn c≠[x]:=λc x hx e=>hx (hd c x e);have sdn:∀c∈ls,sb (tB ρ dZ [L,s,R,T]) (.lf (dn c))=fG c:=λc hc=>by
  rw[sb,hu,ae8 (ne c _ 0x5),ae8 (ne c _ 0x5),ae8 (ne c _ 0x5),ae8 (ne c _ 0x5),<-hρ,Ow,ae8 (λe=>ne c 110 0x5 e.symm),lk ls c hc λx hx=>hx];rfl
 have sn:sb (tB ρ dZ [L,s,R,T]) (.lf [110])=num:=by rw[sb,hu,<-hρ];rfl
 unfold cz;rw[Pu,mU,gJ];have e1:ls.map (sb (tB ρ dZ [L,s,R,T])∘λc=>.lf (dn c))=ls.map fG:=kI λc hc=>sdn c hc;rw[e1];have e2:(cu.map Tr.lf).map (sb (tB ρ dZ [L,s,R,T]))=[num,T,L,R]:=by
  show [sb _ (.lf [110]),sb _ (.lf [102]),sb _ (.lf [108]),sb _ (.lf [114])]=_;rw[sn];rfl
 rw[e2];rfl
end Tr
end M
set_option maxHeartbeats 0
namespace M
namespace Tr
structure Ru where
 s:Nat
 x:Nat
 w:Nat
 m:Bool
 g:Nat
structure Bk where
 ls:List Nat
 ss:List Nat
 rs:List Ru
def Gd(B:Bk)(s x:Nat):Option Ru:=B.rs.find? λr=>decide (r.s=s) && decide (r.x=x)
def bW(l:List Nat)(c:Nat):Nat:=l.findIdx λz=>decide (z=c)
def dq(B:Bk)(c:Nat):Tr:=bL (bW B.ls c) B.ls.length
def xr(B:Bk)(s:Nat):Tr:=bL (bW B.ss s) B.ss.length
def jd(B:Bk)(s:Nat):List Nat:=bO 13 (bW B.ss s) B.ss.length
def cj(B:Bk)(s c:Nat):Tr:=match Gd B s c with
 | none=>jo (dq B c)
 | some r=>rK r.m (dq B 95) (dq B r.w) (jF (jd B r.g))
def iw(B:Bk)(s:Nat):Tr:=PQ B.ls (xr B s) (cj B s)
def jH(B:Bk):Tr:=cV 13 ((B.ss.map (iw B)).map jN)
def iu(B:Bk)(s:Nat):Tr:=hold [iw B s,jH B]
def uf:List Tr->Tr
 | []=>tK
 | t::ts=>.jn tK (hold [t,uf ts])
def iB(B:Bk)(cs:List Nat):Tr:=uf (cs.map (dq B))
structure Sd where
 s:Nat
 a:List Nat
 c:Nat
 b:List Nat
def iT(B:Bk)(z:Sd):Tr:=.jn (iu B z.s) (hold [iB B z.a,dq B z.c,iB B z.b])
def R7(B:Bk)(z:Sd):Tr:=hold [xr B z.s,iB B z.a,dq B z.c,iB B z.b]
def Aw(r:Ru)(z:Sd):Sd:=if r.m=true then ⟨r.g,z.a.tail,z.a.headD 95,r.w::z.b⟩ else ⟨r.g,r.w::z.a,z.b.headD 95,z.b.tail⟩
def WX(B:Bk)(z:Sd):Option Sd:=(Gd B z.s z.c).map λr=>Aw r z
def yK(B:Bk)(s:Nat):Nat:=2+2*(jd B s).length+oZ (jd B s)+(du dR qN).headD 0
def qF(ls:List Nat):Nat:=6+8+(du (cz ls) dZ).sum
def bM(B:Bk)(z:Sd):Nat:=qF B.ls+cg (bW B.ls z.c) B.ls.length+(match Gd B z.s z.c with
 | none=>zq
 | some r=>iQ r.m+(if (if r.m=true then z.a else z.b)=[] then qp r.m else lW r.m)+yK B r.g)
structure Oc(B:Bk):Prop where
 nl:B.ls.Nodup
 ns:B.ss.Nodup
 bl:95∈B.ls
 z:0∉B.ls
 many:B.ss.length<=4096
 ru:∀r∈B.rs,r.g∈B.ss/\r.w∈B.ls
def Du{l:List Nat}{c:Nat}(h:c∈l):l[bW l c]? = some c:=by
 have hl:bW l c<l.length:=List.findIdx_lt_length_of_exists ⟨c,h,by simp⟩;have:=List.findIdx_getElem (p:=λz=>decide (z=c)) (xs:=l) (w:=hl);rw[gK hl];exact congrArg some (afh this)
theorem HS:∀m,sk (wg m)
 | 0=>⟨⟨.inl rfl,.inr rfl⟩,.inr rfl⟩
 | 1=>.inr rfl
 | m+2=>⟨⟨.inl rfl,.inr rfl,.inr rfl⟩,HS (m+1)⟩
theorem Bq{v:Tr}(h:sk v):∀n,sk (di n v)
 | 0=>h
 | n+1=>⟨.inr rfl,Bq h n⟩
def zn7(k m:Nat):sk (bL k m):=Bq (HS _) _
theorem Bh:∀{ts:List Tr},(∀t∈ts,val t=true)->val (uf ts)=true
 | [],_=>rfl
 | t::ts,h=>by
  have ih:=Bh (ts:=ts) λx hx=>h x (by simp[hx]);rw[uf,eU];exact Dv (by simp[h t 0x1,ih])
section
variable  {B:Bk}
def zQ(c:Nat):val (dq B c)=true:=Nr _ _
def Ds(cs:List Nat):val (iB B cs)=true:=Bh λt ht=>by
 obtain⟨c,_,rfl⟩:=gh.mp ht;exact zQ c
def znr(ts:List Nat):val (jF ts)=true:=Dv λt ht=>by
 obtain⟨c,_,rfl⟩:=gh.mp ht;exact Nr _ _
def zpa(s c:Nat):val (cj B s c)=true:=by
 unfold cj
 split
 ·exact zP (Hr (by simp[jO,zQ])) (zR _ _)
 ·exact zP (zsb (zQ _) (zQ _) (zn7 _ _) (znr _)) (zR _ _)
def Bv(s:Nat):Sub (look (([110],xr B s)::B.ls.map λc=>(dn c,cj B s c))):=by
 refine Hr λp hp=>?_;rcases gm.mp hp with rfl | hp
 ·exact⟨by simp[jO],Nr _ _⟩
 ·obtain⟨c,_,rfl⟩:=gh.mp hp;refine⟨?_,zpa _ _⟩;show jO (dn c);unfold dn
  split<;>simp[jO]
def zkw(s:Nat):val (iw B s)=true:=zP (Bv s) (zR _ _)
def Zz:val (jH B)=true:=T6 13 _ λe he=>by
 obtain⟨r,hr,rfl⟩:=gh.mp he;obtain⟨s,_,rfl⟩:=gh.mp hr;exact zn4 (zkw s)
def O4(s:Nat):val (iu B s)=true:=Dv (by simp[zkw,Zz])
def O2(h:Oc B){g:Nat}(hg:g∈B.ss):Ev (.jn (.jn (jF (jd B g)) (jH B)) (jH B)) (yK B g) (iu B g):=by
 have:=Vx (n:=12) (k:=bW B.ss g) (rows:=B.ss.map (iw B)) (row:=iw B g) (λr hr=>by
  obtain⟨s,_,rfl⟩:=gh.mp hr;exact zkw s) (by rw[gj];exact h.many) (by rw[gO,Du hg];rfl)
 rw[gj]at this;exact this
def JX(cs:List Nat):N3 (iB B cs):=by
 cases cs with
 | nil=>exact abj
 | cons c cs=>exact abk _
def W9:N3 (jH B):=by
 unfold jH;generalize B.ss.map (iw B)=rs;rw[cV]
 split
 ·rename_i h1;rw[gj]at h1;obtain⟨e,rfl⟩:=mq.mp h1;intro a b c q;injection (show Tr.jn _ tK=hold [a,b,c] from q) with _ q;cases q
 ·exact adI _ _
def VP(ls:List Nat):stands [102] (cz ls)=true:=by
 unfold cz cu;rw[show ∀A:List Tr,A++[[110],[102],[108],[114]].map Tr.lf=A++[.lf [110]]++[.lf [102]]++[.lf [108]]++[.lf [114]] from λA=>by simp,Be,Be,Be,Be];simp[stands]
theorem HN(h:Oc B)(z:Sd)(hc:z.c∈B.ls):match WX B z with
  | some z'=>Dq (iT B z) (bM B z) (iT B z')
  | none=>Dq (iT B z) (bM B z) (R7 B z):=by
 have key:∀{k:Nat} {u:Tr},je (apps (cj B z.s z.c) [xr B z.s,jH B,iB B z.a,iB B z.b]) k u->Dq (iT B z) (qF B.ls+cg (bW B.ls z.c) B.ls.length+k) u:=λ{k u} e=>by
  have hd:((B.ls.map (cj B z.s))[bW B.ls z.c]?)=some (cj B z.s z.c):=by rw[gO,Du hc];rfl
  have d:=zum (deeds:=B.ls.map (cj B z.s)) (λx hx=>by
   obtain⟨c,_,rfl⟩:=gh.mp hx;exact zpa _ _) hd 0x1 e
  rw[gj]at d;have r:=Ej (Bv (B:=B) z.s) (t:=cz B.ls) (L:=iB B z.a) (s:=dq B z.c) (R:=iB B z.b) (T:=jH B) (Ds _) (zQ _) (Ds _) Zz W9 (Be _ _ _ |> λq=>by unfold cz;exact (congrArg _ (show _=(B.ls.map (λc=>Tr.lf (dn c))++[.lf [110],.lf [102],.lf [108]])++[.lf [114]] by simp[cu])).trans q) (VP _) (k:=cg (bW B.ls z.c) B.ls.length+k) (u:=u) (by
   rw[V5 h.nl h.z];exact d)
  exact r.to (by unfold qF;omega)
 unfold WX;cases hf:Gd B z.s z.c with
 | none =>
  have e:=Gf (w:=dq B z.c) (num:=xr B z.s) (T:=jH B) (L:=iB B z.a) (R:=iB B z.b) (zQ _) (Nr _ _) Zz (Ds _) (Ds _) (JX _);have hd:cj B z.s z.c=jo (dq B z.c):=by unfold cj;rw[hf]
  rw[<-hd]at e;have:=key e;have vK:bM B z=qF B.ls+cg (bW B.ls z.c) B.ls.length+zq:=by unfold bM;rw[hf]
  rw[vK];exact this
 | some r =>
  have hr:=h.ru r (pA hf);have hd:cj B z.s z.c=rK r.m (dq B 95) (dq B r.w) (jF (jd B r.g)):=by unfold cj;rw[hf]
  have vK:bM B z=qF B.ls+cg (bW B.ls z.c) B.ls.length+(iQ r.m+(if (if r.m=true then z.a else z.b)=[] then qp r.m else lW r.m)+yK B r.g):=by unfold bM;rw[hf]
  show Dq (iT B z) (bM B z) (iT B (Aw r z));rw[vK];refine key ?_;rw[hd];have hw:=O2 h hr.1;have bb:=λ(O:List Nat)=>zts (m:=r.m) (bl:=dq B 95) (w:=dq B r.w) (way:=jF (jd B r.g)) (num:=xr B z.s) (T:=jH B) (O:=iB B O) (zQ _) (zQ _) (zn7 _ _) (znr _) (Nr _ _) Zz (Ds _) (JX _) hw;have ff:=λ(a:Nat) (t O:List Nat)=>zs3 (m:=r.m) (bl:=dq B 95) (w:=dq B r.w) (way:=jF (jd B r.g)) (num:=xr B z.s) (T:=jH B) (O:=iB B O) (a:=dq B a) (t:=iB B t) (zQ _) (zQ _) (zn7 _ _) (znr _) (Nr _ _) Zz (Ds _) (zQ _) (Ds _) (JX _) hw;obtain⟨s0,a0,c0,b0⟩:=z;cases hm:r.m with
  | true =>
   rw[hm]at bb ff;cases a0 with
   | nil =>
    have:=bb b0;unfold Aw;rw[ae7 hm];exact this
   | cons a t =>
    have:=ff a t b0;unfold Aw;rw[ae7 hm];exact this
  | false =>
   rw[hm]at bb ff;have N6:¬ r.m=true:=by rw[hm];decide
   cases b0 with
   | nil =>
    have:=bb a0;unfold Aw;rw[ae8 N6];exact this
   | cons a t =>
    have:=ff a t a0;unfold Aw;rw[ae8 N6];exact this
def Yi(z:Sd):val (iT B z)=false:=by
 show val (.jn (.jn (.jn tS _) _) _)=false;exact Zq _ _ _
end
end Tr
end M
namespace M
namespace Tr
def vo(ns:List (List Nat)):Tr:=apps (.lf [115]) (ns.map .lf++cu.map .lf)
def PN(ls:List Nat):cz ls=vo (ls.map dn):=by unfold cz vo;rw[gJ];rfl
def YT(c:Nat):∃t,dn c=100::t:=by unfold dn;split<;>exact⟨_,rfl⟩
def ac0:∀(ns:List (List Nat)),(∀n∈ns,∃t,n=100::t)->ns.length<=9->(du (vo ns) dZ).sum=46+6*ns.length/\dp (bV (vo ns) dZ)=19+3*ns.length/\lv (bV (vo ns) dZ)=48+7*ns.length:=by
 intro ns h hl;have un:∀(k:Nat) (l:List (List Nat)),(∀n∈l,∃t,n=100::t)->l.length=k->∃ts:List (List Nat),ts.length=k/\l=ts.map (100 :: ·):=by
  intro k
  induction k with
  | zero=>intro l _ e;exact⟨[],rfl,nZ.mp e⟩
  | succ k ih =>
   intro l h e;cases l with
   | nil=>cases e
   | cons a l =>
    obtain⟨t,rfl⟩:=h a 0x1;obtain⟨ts,h1,h2⟩:=ih l (λn hn=>h n (by simp[hn])) (by simpa using e);exact⟨t::ts,by simp[h1],by simp[h2]⟩
 obtain⟨ts,h1,h2⟩:=un ns.length ns h rfl;rw[h2,gj];rw[<-h1]at hl;clear h h1 h2 un
 match ts,hl with
 | [],_=>exact⟨by kernel_rfl,by kernel_rfl,by kernel_rfl⟩
 | [_],_=>exact⟨by kernel_rfl,by kernel_rfl,by kernel_rfl⟩
 | [_,_],_=>exact⟨by kernel_rfl,by kernel_rfl,by kernel_rfl⟩
 | [_,_,_],_=>exact⟨by kernel_rfl,by kernel_rfl,by kernel_rfl⟩
 | [_,_,_,_],_=>exact⟨by kernel_rfl,by kernel_rfl,by kernel_rfl⟩
 | [_,_,_,_,_],_=>exact⟨by kernel_rfl,by kernel_rfl,by kernel_rfl⟩
 | [_,_,_,_,_,_],_=>exact⟨by kernel_rfl,by kernel_rfl,by kernel_rfl⟩
 | [_,_,_,_,_,_,_],_=>exact⟨by kernel_rfl,by kernel_rfl,by kernel_rfl⟩
 | [_,_,_,_,_,_,_,_],_=>exact⟨by kernel_rfl,by kernel_rfl,by kernel_rfl⟩
 | [_,_,_,_,_,_,_,_,_],_=>exact⟨by kernel_rfl,by kernel_rfl,by kernel_rfl⟩
 | _::_::_::_::_::_::_::_::_::_::_,h=>simp at h
def V6(ls:List Nat)(h:ls.length<=9):(du (cz ls) dZ).sum=46+6*ls.length/\dp (bV (cz ls) dZ)=19+3*ls.length/\lv (bV (cz ls) dZ)=48+7*ls.length:=by
 have:=ac0 (ls.map dn) (λn hn=>by
  obtain⟨c,_,rfl⟩:=gh.mp hn;exact YT c) (by simpa using h)
 rw[<-PN,gj]at this;exact this
theorem Zv:∀(n k left:Nat),(bO n k left).length<=n/\∀t∈bO n k left,t<=1
 | 0,_,_=>⟨gb _,by simp[bO]⟩
 | n+1,k,left=>by
  rw[bO]
  split
  ·simp
  ·split
   ·obtain⟨h1,h2⟩:=Zv n k (left / 2);exact⟨by simp;exact h1,λt ht=>(gm.mp ht).elim (λe=>by omega) (h2 t)⟩
   ·obtain⟨h1,h2⟩:=Zv n (k - left / 2) (left - left / 2);exact⟨by simp;exact h1,λt ht=>(gm.mp ht).elim (λe=>by omega) (h2 t)⟩
theorem zsp:∀(ts:List Nat),(∀t∈ts,t<=1)->oZ ts<=9*ts.length
 | [],_=>by simp[oZ]
 | t::ts,h=>by
  have ih:=zsp ts λx hx=>h x (by simp[hx]);have e:oZ (t::ts)=6+cg t 2+oZ ts:=by simp[oZ]
  have h1:=h t 0x1;have h2:cg t 2<=3:=by
   rcases (by omega:t=0\/t=1) with rfl | rfl<;>decide
  rw[e,gC];omega
def Jj(k m:Nat):cg k m<=3*m+2:=by
 unfold cg;have:=Jg (m - 1 - k);omega
def Hm{l:List Nat}{c:Nat}(h:c∈l):bW l c<l.length:=List.findIdx_lt_length_of_exists ⟨c,h,by simp⟩
def zto(B:Bk)(z:Sd)(hl:B.ls.length<=9):1<=bM B z/\bM B z<=600:=by
 have h1:=(V6 B.ls hl).1;have h2:=Jj (bW B.ls z.c) B.ls.length;have e1:zq=45:=by kernel_rfl
 cases hf:Gd B z.s z.c with
 | none =>
  have vK:bM B z=qF B.ls+cg (bW B.ls z.c) B.ls.length+zq:=by unfold bM;rw[hf]
  rw[vK];unfold qF;omega
 | some r =>
  have vK:bM B z=qF B.ls+cg (bW B.ls z.c) B.ls.length+(iQ r.m+(if (if r.m=true then z.a else z.b)=[] then qp r.m else lW r.m)+yK B r.g):=by unfold bM;rw[hf]
  obtain⟨t1,t2⟩:=Zv 13 (bW B.ss r.g) B.ss.length;have t3:=zsp _ t2;have hw:yK B r.g<=2+2*13+9*13+2:=by
   unfold yK jd;have:(du dR qN).headD 0=2:=by kernel_rfl
   rw[this];omega
  have s1:iQ r.m<=47:=by cases r.m<;>decide +kernel
  have s2:qp r.m<=22:=by cases r.m<;>decide +kernel
  have s3:lW r.m<=56:=by cases r.m<;>decide +kernel
  have hi:(if (if r.m=true then z.a else z.b)=[] then qp r.m else lW r.m)<=56:=by
   by_cases q:(if r.m=true then z.a else z.b)=[]
   ·rw[ae7 q];omega
   ·rw[ae8 q];omega
  rw[vK];unfold qF;omega
def zp0(ts:List Tr)(b:Nat)(h:∀t∈ts,dp t<=b):dp (hold ts)<=2*ts.length+b+2:=by
 have key:∀(ts:List Tr) (w:Tr) (c:Nat),(∀t∈ts,dp t<=b)->dp w<=c->b+2<=c->dp (ts.foldl (λw t=>.jn (.jn tS w) (.jn tK t)) w)<=2*ts.length+c:=by
  intro ts
  induction ts with
  | nil=>intro w c _ hw _;simpa using hw
  | cons t ts ih =>
   intro w c h hw hc;have ht:=h t 0x1;have e:dp (.jn (.jn tS w) (.jn tK t))<=c+2:=by
    have a0:dp tS=0:=rfl;have a1:dp tK=0:=rfl;simp only[dp,a0,a1];omega
   have:=ih (.jn (.jn tS w) (.jn tK t)) (c+2) (λx hx=>h x (by simp[hx])) e 0x0;simp only[List.foldl_cons,gC];omega
 have e:dp tI=2:=rfl;have:=key ts tI (b+2) h (by rw[e];omega) (gb _);unfold hold;omega
theorem ztu:∀(n:Nat) (es:List Tr) (b:Nat),(∀e∈es,dp e<=b)->dp (cV n es)<=6*n+b
 | 0,_,b,_=>by
  have:dp tK=0:=rfl;rw[cV,this];omega
 | n+1,es,b,h=>by
  rw[cV]
  split
  ·rename_i h1;obtain⟨e,rfl⟩:=mq.mp h1;have:=h e 0x1;simp;omega
  ·have:=zp0 [cV n 0xe,cV n 0x10] (6*n+b) (λt ht=>by
    simp only[gm,km,afv]at ht;rcases ht with rfl | rfl
    ·exact ztu n _ b λe he=>h e (m_ he)
    ·exact ztu n _ b λe he=>h e (nj he))
   simp only[gC,mY]at this;omega
theorem Mh(b:Nat):∀(ts:List Tr),(∀t∈ts,dp t<=b)->dp (uf ts)<=3*ts.length+b+5
 | [],_=>by
  have:dp tK=0:=rfl;rw[uf,this];omega
 | t::ts,h=>by
  have ih:=Mh b ts λx hx=>h x (by simp[hx]);have ht:=h t 0x1;have a0:dp tS=0:=rfl;have a1:dp tK=0:=rfl;have a2:dp tI=2:=rfl;have e:dp (uf (t::ts))=dp (.jn tK (.jn (.jn tS (.jn (.jn tS tI) (.jn tK t))) (.jn tK (uf ts)))):=rfl;rw[e];simp only[dp,a0,a1,a2,gC];omega
def Vg{σ:List (List Nat×Tr)}{b:Nat}(h:∀p∈σ,dp p.2<=b):∀s v,look σ s=some v->dp v<=b:=λs v e=>h _ (zix e)
theorem Oh{f:List Nat->Option Tr}{b:Nat}(h:∀s v,f s=some v->dp v<=b):∀t,dp (sb f t)<=dp t+b
 | .lf s=>by
  rw[sb];cases e:f s with
  | none=>exact mL _
  | some v=>have:=h s v e;show dp v<=_;omega
 | .jn l r=>by
  have:=Oh h l;have:=Oh h r;rw[sb,dp,dp];omega
section
variable  {B:Bk}
def zri(hl:B.ls.length<=9){c:Nat}(h:c∈B.ls):dp (dq B c)<=11:=by
 have h1:=zoz (wg (B.ls.length - 1 - bW B.ls c)) (bW B.ls c);have h2:=yr (B.ls.length - 1 - bW B.ls c);have h3:=Hm h;unfold dq bL;omega
def Mi(h:Oc B)(hl:B.ls.length<=9)(s:Nat){c:Nat}(hc:c∈B.ls):dp (cj B s c)<=75:=by
 unfold cj;cases hf:Gd B s c with
 | none =>
  dsimp only;have:=Oh (f:=look [([119],dq B c)]) (b:=11) (Vg (by simp[zri hl hc])) (bV eV cu);have e:dp (bV eV cu)=22:=by kernel_rfl
  unfold jo;omega
 | some r =>
  dsimp only;have hr:=h.ru r (pA hf);have w1:=zri hl hr.2;have w2:=zri hl h.bl;have a0:dp tK=0:=rfl;have b1:dp (fK r.m (dq B 95) (dq B r.w))<=52:=by
   have q1:=Oh (f:=look [([97],dq B 95),([116],tK)]) (b:=11) (Vg (by simp[w2,a0])) (bV (bu r.m) iZ);have q2:=Oh (f:=look [([119],dq B r.w)]) (b:=11) (Vg (by simp[w1])) (sb (look [([97],dq B 95),([116],tK)]) (bV (bu r.m) iZ));have e:dp (bV (bu r.m) iZ)<=30:=by cases r.m<;>decide +kernel
   unfold fK;omega
  have b2:dp (jh r.m (dq B r.w))<=52:=by
   have q2:=Oh (f:=look [([119],dq B r.w)]) (b:=11) (Vg (by simp[w1])) (bV (bu r.m) qt);have e:dp (bV (bu r.m) qt)<=30:=by cases r.m<;>decide +kernel
   unfold jh;omega
  have b3:dp (jF (jd B r.g))<=32:=by
   obtain⟨t1,t2⟩:=Zv 13 (bW B.ss r.g) B.ss.length;have:=zp0 ((jd B r.g).map λt=>bL t 2) 4 (λt ht=>by
    obtain⟨k,hk,rfl⟩:=gh.mp ht;have:=t2 k hk;rcases (by omega:k=0\/k=1) with rfl | rfl<;>decide)
   rw[gj]at this;unfold jF;have t1':(jd B r.g).length<=13:=t1;omega
  have q:=Oh (f:=look [([98,97,114,101],fK r.m (dq B 95) (dq B r.w)),([102,117,108,108],jh r.m (dq B r.w)),([103],jF (jd B r.g))]) (b:=52) (Vg 0x9) (bV (cQ r.m) cu);have e:dp (bV (cQ r.m) cu)<=18:=by cases r.m<;>decide +kernel
  unfold rK;omega
def YQ{s:Nat}(h:s∈B.ss):dp (xr B s)<=B.ss.length+2:=by
 have h1:=zoz (wg (B.ss.length - 1 - bW B.ss s)) (bW B.ss s);have h2:=yr (B.ss.length - 1 - bW B.ss s);have h3:=Hm h;unfold xr bL;omega
def CT(h:Oc B)(hl:B.ls.length<=9){s:Nat}(hs:s∈B.ss):dp (iw B s)<=B.ss.length+121:=by
 have q:=Oh (f:=look (([110],xr B s)::B.ls.map λc=>(dn c,cj B s c))) (b:=B.ss.length+75) (Vg λp hp=>by
  rcases gm.mp hp with rfl | hp
  ·have:=YQ hs;show dp (xr B s)<=_;omega
  ·obtain⟨c,hc,rfl⟩:=gh.mp hp;have:=Mi h hl s hc;show dp (cj B s c)<=_;omega) (bV (cz B.ls) dZ)
 have e:=(V6 B.ls hl).2.1;unfold iw PQ;omega
def R9(h:Oc B)(hl:B.ls.length<=9):dp (jH B)<=B.ss.length+207:=by
 have:=ztu 13 ((B.ss.map (iw B)).map jN) (B.ss.length+129) (λe he=>by
  obtain⟨r,hr,rfl⟩:=gh.mp he;obtain⟨s,hs,rfl⟩:=gh.mp hr;have q:=Oh (f:=look [([101],iw B s)]) (b:=B.ss.length+121) (Vg (by simp[CT h hl hs])) (bV dR qN);have e:dp (bV dR qN)=8:=by kernel_rfl
  unfold jN;omega)
 unfold jH;omega
def yq(h:Oc B)(hl:B.ls.length<=9){s:Nat}(hs:s∈B.ss):dp (iu B s)<=B.ss.length+213:=by
 have:=zp0 [iw B s,jH B] (B.ss.length+207) (λt ht=>by
  simp only[gm,km,afv]at ht;rcases ht with rfl | rfl
  ·have:=CT h hl hs;omega
  ·exact R9 h hl)
 simp only[gC,mY]at this;unfold iu;omega
def Mf(hl:B.ls.length<=9){cs:List Nat}(hc:∀c∈cs,c∈B.ls):dp (iB B cs)<=3*cs.length+16:=by
 have:=Mh 11 (cs.map (dq B)) (λt ht=>by
  obtain⟨c,h,rfl⟩:=gh.mp ht;exact zri hl (hc c h))
 rw[gj]at this;unfold iB;omega
structure GQ(B:Bk)(z:Sd):Prop where
 s:z.s∈B.ss
 c:z.c∈B.ls
 a:∀c∈z.a,c∈B.ls
 b:∀c∈z.b,c∈B.ls
def abR(h:Oc B)(hl:B.ls.length<=9){z:Sd}(hz:GQ B z)(b:Nat)(ha:z.a.length<=b)(hb:z.b.length<=b):dp (hold [iB B z.a,dq B z.c,iB B z.b])<=3*b+24:=by
 have:=zp0 [iB B z.a,dq B z.c,iB B z.b] (3*b+16) (λt ht=>by
  simp only[gm,km,afv]at ht;rcases ht with rfl | rfl | rfl
  ·have:=Mf hl hz.a;omega
  ·have:=zri hl hz.c;omega
  ·have:=Mf hl hz.b;omega)
 simp only[gC,mY]at this;omega
def R_(h:Oc B)(hl:B.ls.length<=9){z:Sd}(hz:GQ B z)(b:Nat)(ha:z.a.length<=b)(hb:z.b.length<=b):dp (iT B z)<=B.ss.length+3*b+214:=by
 have h1:=abR h hl hz b ha hb;have h2:=yq h hl hz.s;show dp (.jn (iu B z.s) (hold [iB B z.a,dq B z.c,iB B z.b]))<=_;rw[dp];omega
def GQ.go(h:Oc B){z:Sd}(hz:GQ B z){r:Ru}(hr:r∈B.rs):GQ B (Aw r z):=by
 have hd:∀(l:List Nat),(∀c∈l,c∈B.ls)->l.headD 95∈B.ls:=λl hl=>by
  cases l with
  | nil=>exact h.bl
  | cons a l=>exact hl a 0x1
 have hc:∀(l:List Nat),(∀c∈l,c∈B.ls)->∀c∈r.w::l,c∈B.ls:=λl hl c hx=>by
  rcases gm.mp hx with rfl | hx
  ·exact (h.ru r hr).2
  ·exact hl c hx
 unfold Aw
 split
 ·exact⟨(h.ru r hr).1,hd _ hz.a,λc hx=>hz.a c (List.mem_of_mem_tail hx),hc _ hz.b⟩
 ·exact⟨(h.ru r hr).1,hd _ hz.b,hc _ hz.a,λc hx=>hz.b c (List.mem_of_mem_tail hx)⟩
end
end Tr
end M
set_option maxHeartbeats 0
namespace M
namespace Tr
theorem Ai(x:List Nat):∀t,lv (out x t).1+1<=4*lv t
 | .lf s=>by
  by_cases h:iG x (.lf s)=true
  ·rw[znq x h];show 3+1<=4*1;decide
  ·have e:stands x (.lf s)=false:=(show iG x (.lf s)=false by simpa using h);rw[Vm x (by rw[e];rfl)];show 2+1<=4*1;decide
 | .jn l r=>by
  have i1:=Ai x l;have i2:=Ai x r;by_cases h1:(val 0x2 && !stands x 0x2)=true
  ·rw[Vm x h1];have:=zkb l;have:=zkb r;simp only[lv];omega
  ·by_cases h2:((val l && !stands x l) && iG x r)=true
   ·simp only[gM]at h2;rw[zgk x (by simp only[gM];exact h2.1) h2.2];have:=zkb r;have:=zkb l;simp only[lv];omega
   ·rw[zi4 x (by simpa using h1) (by simpa using h2)];simp only[lv];omega
theorem yd(t:Tr):∀xs:List (List Nat),lv (bV t xs)<=4 ^ xs.length*lv t
 | []=>by simp[bV]
 | x::xs=>by
  have ih:=yd t xs;have:=Ai x (bV t xs);rw[bV,gC,p8,Nat.mul_assoc,Nat.mul_comm 4,<-Nat.mul_assoc];omega
end Tr
end M
namespace Law
open L2 M Tr
def aG(cs:List Nat):List D:=cs.map λ(c:Nat)=>D.int (c:Int)
def Ce(xs:List (List Nat))(t:Tr)(st:ak)(ht:st[1]? = some (.tab "out_and_cost"))(hc:bF st)(hl:xs.length<=4)(hv:lv t<=100) :
  za5 [.tup (xs.map D.str),enc t] st=.ok (.tup [enc (bV t xs),.loc st.length]) (st++[.lst (aG (du t xs))]):=by
 unfold za5 bC bB zds;generalize hB:(aC (aJ 5 (az Vv [] _)) _:MS)=B;obtain⟨cC,st',h1,a4,a5,rfl,rfl⟩:=zZ (g:=aM 4) (b:=B) (gs:=[]) (items:=(xs.map D.str).reverse)
  (λi env s=>∃(a4 a5:Option D),env=[some (.tup (xs.map D.str)),some (enc t),some (enc (bV t (xs.drop (xs.length - i)))),some 0x3,a4,a5]/\s=st++[.lst (aG (du t (xs.drop (xs.length - i))).reverse)])
  (env:=[some (.tup (xs.map D.str)),some (enc t),some (enc t),some 0x3,none,none]) (st:=st++[.lst []]) ⟨none,none,by simp[bV],by simp[du,aG]⟩ (by
   rintro i d env s hi ⟨a4,a5,rfl,rfl⟩;rw[<-pq]at hi;obtain⟨x,hx,rfl⟩:=Hn hi;obtain⟨Hf,e⟩:=Bw hx;generalize hys:xs.drop (xs.length - i)=ys at *;have hyl:ys.length<=4:=by rw[<-hys,mO];omega
   have hlv:lv (bV t ys)<=400000:=by
    have h1:=yd t ys;have h2:4 ^ ys.length<=4 ^ 4:=Nat.pow_le_pow_right 0x5 hyl;have h3:4 ^ ys.length*lv t<=4 ^ 4*100:=Nat.mul_le_mul h2 hv;omega
   have uQ:(aG (du t ys).reverse).length<1000000:=by simp[aG,zot];omega
   let S1:ak:=st++[.lst (aG (du t ys).reverse)]
   have o1:=zdh x (bV t ys) S1 (dC ht) (by simp[S1,hc]) hlv;have x0:aX (encC (out x (bV t ys))) (.int 0) S1=.ok (enc (out x (bV t ys)).1) S1:=by rw[encC];exact Bf S1 0 _ _ rfl
   have x1:aX (encC (out x (bV t ys))) (.int 1) S1=.ok (.int ((out x (bV t ys)).2:Nat)) S1:=by rw[encC];exact Bf S1 1 _ _ rfl
   have ap:aW 0x3 [.int ((out x (bV t ys)).2:Nat)] S1=.ok .non (st++[.lst (aG (du t (x::ys)).reverse)]):=by
    have e3:aG (du t (x::ys)).reverse=aG (du t ys).reverse++[.int ((out x (bV t ys)).2:Nat)]:=by simp[aG,du]
    rw[e3];show aW 0x3 [_] (st++[.lst (aG (du t ys).reverse)])=_;generalize aG (du t ys).reverse=Y at uQ ⊢;simp[aW,uQ]
   have it:cX "list" 0x3 S1=true:=by simp[cX,S1]
   refine⟨by simp,_,_,rfl,[some (.tup (xs.map D.str)),some (enc t),some (enc (bV t (xs.drop (xs.length - (i+1))))),some 0x3,some (.str x),some (encC (out x (bV t ys)))],st++[.lst (aG (du t (xs.drop (xs.length - (i+1)))).reverse)],.inl ?_,_,_,rfl,rfl⟩;rw[<-hB,e,show bV t (x::ys)=(out x (bV t ys)).1 from rfl];show _=R.ok _ (st++[.lst (aG (du t (x::ys)).reverse)]);change (aC _ _:MS) [some (.tup (xs.map D.str)),some (enc t),some (enc (bV t ys)),some 0x3,some (.str x),a5] S1=_;generalize (st++[.lst (aG (du t (x::ys)).reverse)]:ak)=S2 at *;exists S1,Z1,encC (out x (bV t ys)),W1,enc (out x (bV t ys)).1,W2;exists enc (bV t ys),W3;generalize (((out x (bV t ys)).2:Nat):Int)=c1 at *;simp[o1,x0,x1,it,ap]) (λ_ _ _=>by simp)
 rw[pJ,gj,Nat.sub_self,List.drop_zero]at h1;have rv:dM 0x3 [] (st++[.lst (aG (du t xs).reverse)])=.ok .non (st++[.lst (aG (du t xs))]):=by
  have e:(aG (du t xs).reverse).reverse=aG (du t xs):=by simp[aG]
  rw[<-e];generalize aG (du t xs).reverse=Y;simp[dM]
 have it:cX "list" 0x3 (st++[.lst (aG (du t xs).reverse)])=true:=by simp[cX]
 have l0:∀env,d_ au env st=.ok 0x3 (st++[.lst []]):=λenv=>by simp
 have fin:gc st (.ok (.tup [enc (bV t xs),.loc st.length]) (st++[.lst (aG (du t xs))]))=.ok (.tup [enc (bV t xs),.loc st.length]) (st++[.lst (aG (du t xs))]):=by
  unfold gc;dsimp only;rw[ae8];rintro ⟨_,h⟩;simp at h
 rw[show startM 6 [D.tup (xs.map D.str),enc t]=[some (.tup (xs.map D.str)),some (enc t),none,none,none,none] from rfl];generalize hZ2:(st++[.lst (aG (du t xs))]:ak)=Z2 at *;generalize hZ1:(st++[.lst (aG (du t xs).reverse)]:ak)=Z1 at *;generalize hZ0:(st++[.lst []]:ak)=Z0 at *;generalize hL:d_ au=L at *;exists enc (bV t xs),W,enc t,T,xs.map D.str,X;simp[l0,h1,it,rv];exact fin
def ZM(xs:List (List Nat))(t:Tr)(st:ak)(ht:st[1]? = some (.tab "out_and_cost"))(hc:bF st)(hl:xs.length<=4)(hv:lv t<=100) :
  Oz [.tup (xs.map D.str),enc t] st=.ok (enc (bV t xs)) st:=by
 have m:=Ce xs t st ht hc hl hv;have x0:∀s,aX (.tup [enc (bV t xs),.loc st.length]) (.int 0) s=.ok (enc (bV t xs)) s:=λs=>Bf s 0 _ _ rfl;have hu:=jE st.length (bV t xs);unfold Oz bC bB zjp;exists enc (bV t xs),W,enc t,T;simp[startM,m,x0];exact qU hu
def zha(xs:List (List Nat))(t:Tr)(st:ak)(ht:st[1]? = some (.tab "out_and_cost"))(hc:bF st)(hl:xs.length<=4)(hv:lv t<=100) :
  Ny [.tup (xs.map D.str),enc t] st=.ok 0x3 (st++[.lst (aG (du t xs))]):=by
 have m:=Ce xs t st ht hc hl hv;have x0:∀s,aX (.tup [enc (bV t xs),.loc st.length]) (.int 1) s=.ok 0x3 s:=λs=>Bf s 1 _ _ rfl;have hu:b_ st.length (aG (du t xs)):=by
  unfold aG;generalize du t xs=cs
  induction cs with
  | nil=>simp
  | cons c cs ih=>simp[ih]
 unfold Ny bC bB zgo;exists enc (bV t xs),W,aG (du t xs),Y,enc t,T;simp[startM,m,x0];exact Vf hu
def zhy(t:Tr)(ts:List Tr)(n:Nat)(st:ak)(h:st[n]? = some (.lst (ts.map enc))):Nv [enc t,.loc n] st=.ok (enc (apps t ts)) st:=by
 unfold Nv bC bB zl3;generalize hB:(aJ 2 (az sY [] _):MS)=B;obtain⟨cC,st',h1,a3,rfl,rfl⟩:=zZ (g:=aM 3) (b:=B) (gs:=[(n,.lst (ts.map enc))]) (items:=ts.map enc)
  (λi env s=>∃(a3:Option D),env=[some (enc t),some (.loc n),some (enc (apps t (ts.take i))),a3]/\s=st)
  (env:=[some (enc t),some (.loc n),some (enc t),none]) (st:=st) ⟨none,rfl,rfl⟩ (by
   rintro i d env s hi ⟨a3,rfl,rfl⟩;obtain⟨x,hx,rfl⟩:=Hn hi;have e:=Be t (ts.take i) x;have e2:ts.take (i+1)=ts.take i++[x]:=by rw[kO,hx];rfl
   have j1:=xK (apps t (ts.take i)) x s;refine⟨by simp[h],_,_,rfl,[some (enc t),some (.loc n),some (enc (apps t (ts.take (i+1)))),some (enc x)],s,.inl ?_,_,rfl,rfl⟩;rw[<-hB,e2,e];exists enc (.jn (apps t (ts.take i)) x),W,enc (apps t (ts.take i)),W1;simp[j1]) (λ_ _ zz=>by obtain⟨_,_,q⟩:=zz;subst q;simp[h])
 rw[gj,my]at h1;have hu:=jE st'.length (apps t ts);rw[show startM 4 [enc t,D.loc n]=[some (enc t),some (.loc n),none,none] from rfl];exists enc (apps t ts),W,enc t,X;simp[h,h1];exact fu hu
end Law
set_option maxHeartbeats 0
namespace Law
open L2 M Tr
structure Bs(st:ak):Prop where
 t1:st[1]? = some (.tab "out_and_cost")
 t2:st[2]? = some (.tab "put_in")
 c:bF st
def Bs.app{st:ak}(h:Bs st){g:ak}(hg:bF g):Bs (st++g):=⟨dC h.t1,dC h.t2,by simp[h.c,hg]⟩
def zb2(n:Nat)(st:ak)(h:n<=1000):OJ [.int n] st=.ok (.int ((2+2*n:Nat):Int)) st:=by
 have m2:jk (.int 2) (.int n) st=.ok (.int (2*(n:Int))) st:=Ot st 2 n 0x0;unfold OJ bC bB zfk;simp[startM,m2,bj,fu]
def zq7(x:List Nat)(t:Tr)(st:ak)(h:Bs st)(hl:lv t<=400000):zee [.str x,enc t] st=.ok (.int ((out x t).2:Nat)) st:=by
 have o:=zdh x t st h.t1 h.c hl;have x1:aX (encC (out x t)) (.int 1) st=.ok (.int ((out x t).2:Nat)) st:=by rw[encC];exact Bf st 1 _ _ rfl
 unfold zee bC bB zii;exists encC (out x t),W,enc t,T;simp[startM,o,x1,fu]
def zjh(k many:Nat)(st:ak)(h:Bs st)(hk:k<many)(hm:many<=100000):ZV [.int k,.int many] st=.ok (.int (cg k many:Nat)) st:=by
 have u:=zf8 (many - 1 - k) (.lf [120]) st 0x0;have o:=zq7 [120] (di (many - 1 - k) (.lf [120])) st h (by rw[zqa];show 1+_<=_;omega);rw[zs5]at o;have e1:(many:Int) - 1 - (k:Int)=((many - 1 - k:Nat):Int):=by omega
 have e2:(many:Int) - 1+((Es (many - 1 - k):Nat):Int)=((cg k many:Nat):Int):=by unfold cg;omega
 rw[show enc (.lf [120])=.str [120] from rfl]at u;unfold ZV bC bB zhf;exists enc (di (many - 1 - k) (.lf [120])),W;dsimp only at o;simp[startM,e1,u,o,e2,fu]
def zjm(st:ak):zda [] st=.ok (enc eV) st:=by
 have e:=Gg (.lf [110]) (.lf [108]) (.lf [119]) (.lf [114]) st rfl rfl rfl rfl;have hu:=jE st.length eV;unfold zda bC bB zig;rw[show enc (.lf [110])=.str [110] from rfl,show enc (.lf [108])=.str [108] from rfl,show enc (.lf [119])=.str [119] from rfl,show enc (.lf [114])=.str [114] from rfl]at e;change _=R.ok (enc eV) st at e;exists enc eV,W;simp[startM,e,fu hu]
theorem zgt:∀cs:List Nat,intsOf (aG cs)=some (cs.map λ(c:Nat)=>(c:Int))
 | []=>rfl
 | c::cs=>by
  show intsOf (.int (c:Int)::aG cs)=_;rw[intsOf,zgt cs];rfl
theorem zt6:∀cs:List Nat,(cs.map λ(c:Nat)=>(c:Int)).sum=(cs.sum:Int)
 | []=>rfl
 | c::cs=>by
  rw[gq,p7,zt6 cs,p7];omega
def sum_ints(cs:List Nat)(n:Nat)(st:ak)(h:st[n]? = some (.lst (aG cs))):wJ [.loc n] st=.ok (.int cs.sum) st:=by
 have e:aA st n=some (aG cs):=by unfold aA;rw[h]
 show HJ [.loc n] st=_;unfold HJ;dsimp only;rw[e,mW,zgt];dsimp only;rw[zt6]
def zi7(xs:List (List Nat))(t:Tr)(st:ak)(h:Bs st)(hl:xs.length<=4)(hv:lv t<=100) :
  Ny [.tup (xs.map D.str),enc t] st=.ok 0x3 (st++[.lst (aG (du t xs))])/\wJ [.loc st.length] (st++[.lst (aG (du t xs))])=.ok (.int ((du t xs).sum:Nat)) (st++[.lst (aG (du t xs))]) :=
 ⟨zha xs t st h.t1 h.c hl hv,sum_ints _ _ _ 0x1⟩
def zqs(st:ak)(h:Bs st):zd2 [] st=.ok (.int zq) st:=by
 obtain⟨m1,m2⟩:=zi7 cu eV st h 0x5 0x5;have et:=zjm st;change _=R.ok (D.int zq) _ at m2;unfold zd2 bC bB zi9;simp only[gq,mC]at m1;exists enc eV,W,aG (du eV cu),Y;simp[startM,et,m1,m2];exact qU 0x1
def xU(σ:List (List Nat×Tr))(t:Tr)(st:ak)(h:Bs st)(hl:lv t<=400000):G7 [enc t,.loc st.length] (st++[.dkc (aV σ)])=.ok (enc (sb (look σ) t)) (st++[.dkc (aV σ)]) :=
 zhw σ t st.length (st++[.dkc (aV σ)]) 0x1 (dC h.t2) (by simp[h.c]) hl
def CV(x:List Nat)(e:ME)(v:Tr)(env:aK)(st:ak)(h:∀s,e env (st++s)=.ok (enc v) (st++s)):fY (cR #[1,x] e iR) env st=.ok 0x3 (st++[.dkc (aV [(x,v)])]):=by
 have h0:=h [.dkc []];unfold fY;simp[h0,vD,yV,jY,putN,aV]
def zqz(w:Tr)(st:ak)(h:Bs st):zc1 [enc w] st=.ok (enc (jo w)) st:=by
 have et:=zjm st;have mo:=ZM cu eV st h.t1 h.c 0x5 0x5;have pi:=xU [([119],w)] (bV eV cu) st h (by have:=yd eV cu;have e:lv eV=15:=rfl;simp at this;omega);have ds:=CV [119] (vr 0) w [some (enc w)] st (λs=>by simp);change _=R.ok (enc (jo w)) _ at pi;have hu:=jE st.length (jo w);simp only[gq,mC]at mo;unfold zc1 bC bB zib;exists fY (cR #[1,[119]] (vr 0) iR),DE,enc (jo w),W1,enc w,W0;exists enc (bV eV cu),W2,enc eV,W3,aV _,KV;simp[startM,et,mo,ds,pi];exact qU hu
abbrev Hb(m:Bool):List Nat:=if m=true then [108] else [114]
def zih(m:Bool)(st:ak):zck [.str (Hb m)] st=.ok (enc (cQ m)) st:=by
 have j1:=λs=>xK (.lf [103]) (.lf [102]) s;have j2:=λs=>xK (.jn (.lf [103]) (.lf [102])) (.lf [102]) s;rw[show enc (.lf [103])=.str [103] from rfl,show enc (.lf [102])=.str [102] from rfl]at j1;rw[show enc (.lf [102])=.str [102] from rfl]at j2;have hu:=jE st.length (cQ m);unfold zck bC bB zhc;cases m with
 | true =>
  have hd:=zhy (.lf [108]) [.lf [98,97,114,101],.lf [102,117,108,108],.jn (.jn (.lf [103]) (.lf [102])) (.lf [102]),.lf [114]] st.length (st++[.lst [.str [98,97,114,101],.str [102,117,108,108],enc (.jn (.jn (.lf [103]) (.lf [102])) (.lf [102])),.str [114]]]) (by simp;exact⟨rfl,rfl,rfl⟩);change Nv [.str [108],.loc st.length] _=R.ok (enc (cQ true)) _ at hd;exists enc (cQ true),W,enc (.jn (.jn (.lf [103]) (.lf [102])) (.lf [102])),W2,enc (.jn (.lf [103]) (.lf [102])),W3;have x0:∀s,aX (.tup [.str [108],.str [114]]) (.int 0) s=.ok (.str [108]) s:=λs=>Bf s 0 _ _ rfl;have x1:∀s,aX (.tup [.str [108],.str [114]]) (.int 1) s=.ok (.str [114]) s:=λs=>Bf s 1 _ _ rfl;simp[startM,x0,x1,j1,j2,hd];exact qU hu
 | false =>
  have hd:=zhy (.lf [114]) [.lf [98,97,114,101],.lf [102,117,108,108],.jn (.jn (.lf [103]) (.lf [102])) (.lf [102]),.lf [108]] st.length (st++[.lst [.str [98,97,114,101],.str [102,117,108,108],enc (.jn (.jn (.lf [103]) (.lf [102])) (.lf [102])),.str [108]]]) (by simp;exact⟨rfl,rfl,rfl⟩);change Nv [.str [114],.loc st.length] _=R.ok (enc (cQ false)) _ at hd;exists enc (cQ false),W,enc (.jn (.jn (.lf [103]) (.lf [102])) (.lf [102])),W2,enc (.jn (.lf [103]) (.lf [102])),W3;have x0:∀s,aX (.tup [.str [114],.str [108]]) (.int 0) s=.ok (.str [114]) s:=λs=>Bf s 0 _ _ rfl;have x1:∀s,aX (.tup [.str [114],.str [108]]) (.int 1) s=.ok (.str [108]) s:=λs=>Bf s 1 _ _ rfl;simp[startM,x0,x1,j1,j2,hd];exact qU hu
def zmt(m:Bool)(st:ak):zcs [.str (Hb m)] st=.ok (enc (bu m)) st:=by
 have lw:=zjd (.lf [119]) (.lf [120]) st rfl rfl;change Vu [.str [119],.str [120]] st=R.ok (enc eG) st at lw;have vg:val eG=true:=rfl;have p1:=zrq (.lf [116]) (.lf [97]) eG st rfl rfl vg;have p2:=zrq eG (.lf [97]) (.lf [116]) st vg rfl rfl;rw[show enc (.lf [116])=.str [116] from rfl,show enc (.lf [97])=.str [97] from rfl]at p1 p2;have j1:=xK (.lf [121]) (hold [.lf [116],.lf [97],eG]) st;have j2:=xK (.lf [121]) (hold [eG,.lf [97],.lf [116]]) st;rw[show enc (.lf [121])=.str [121] from rfl]at j1 j2;have hu:=jE st.length (bu m);unfold zcs bC bB zgn;cases m with
 | true =>
  change _=R.ok (enc (bu true)) st at j1;exists enc (bu true),W,enc (hold [.lf [116],.lf [97],eG]),W1,enc eG,W2;simp[startM,lw,p1,j1,fu hu]
 | false =>
  change _=R.ok (enc (bu false)) st at j2;exists enc (bu false),W,enc (hold [eG,.lf [97],.lf [116]]),W1,enc eG,W2;simp[startM,lw,p2,j2,fu hu]
def zhk(st:ak):zb4 [] st=.ok (enc dR) st:=by
 have hd:=zhy (.lf [118]) [.lf [101],.lf [102]] st.length (st++[.lst [.str [101],.str [102]]]) (by simp;exact⟨rfl,rfl⟩);change Nv [.str [118],.loc st.length] _=R.ok (enc dR) _ at hd;have hu:=jE st.length dR;unfold zb4 bC bB zfu;exists enc dR,W;simp[startM,hd];exact qU hu
def zq6(row:Tr)(st:ak)(h:Bs st):zd8 [enc row] st=.ok (enc (jN row)) st:=by
 have et:=zhk st;have mo:=ZM qN dR st h.t1 h.c 0x5 0x5;have pi:=xU [([101],row)] (bV dR qN) st h (by have:=yd dR qN;have e:lv dR=3:=rfl;simp at this;omega);have ds:=CV [101] (vr 0) row [some (enc row)] st (λs=>by simp);change _=R.ok (enc (jN row)) _ at pi;have hu:=jE st.length (jN row);simp only[gq,mC]at mo;unfold zd8 bC bB zic;exists fY (cR #[1,[101]] (vr 0) iR),DE,enc (jN row),W1,enc row,W0;exists enc (bV dR qN),W2,enc dR,W3,aV _,KV;simp[startM,et,mo,ds,pi];exact qU hu
def zli(row tab:Tr)(st:ak)(h1:val row=true)(h2:val tab=true):zch [enc row,enc tab] st=.ok (enc (hold [row,tab])) st:=by
 have hd:=rW [row,tab] [enc row,enc tab] rfl st (by simp[h1,h2]);have hu:=jE st.length (hold [row,tab]);unfold zch bC bB zfi;exists enc (hold [row,tab]),W,enc row,W1,enc tab,W2;simp[startM,hd];exact qU hu
def Let(c:Nat):Prop:=c=95\/97<=c/\c<=122
def GJ:∀c,97<=c->c<=122->t_ [c]=true:=by
 have key:∀k:Fin 26,t_ [97+k.val]=true:=by decide +kernel
 intro c h1 h2;have:=key ⟨c - 97,by omega⟩;rwa[show 97+(c - 97)=c by omega]at this
def ziv(c:Nat)(st:ak)(h:Let c):ZW [.str [c]] st=.ok (.str (dn c)) st:=by
 unfold ZW bC bB zhb;rcases h with rfl | ⟨h1,h2⟩
 ·have a:t_ [95]=false:=by decide +kernel
  have hd:dn 95=[100]:=rfl;rw[hd];simp[startM,lQ,a,cX,jG,fu]
 ·have a:=GJ c h1 h2;have hd:dn c=[100,c]:=by unfold dn;rw[ae8 0x0]
  rw[hd];simp[startM,lQ,a,cX,jG,bj,fu]
def dnD:D->D
 | .str [c]=>.str (dn c)
 | d=>d
def ye{ls:List Nat}(h:∀c∈ls,Let c):ls.all (λc=>decide (c<128))=true:=List.all_eq_true.mpr λc hc=>by
 have:=h c hc;unfold Let at this;simp;omega
def zj6(ls:List Nat)(st:ak)(h:∀c∈ls,Let c)(hl:ls.length<=1000):zc9 [.str ls] st=.ok (enc (cz ls)) st:=by
 have ha:∀x∈ls,x<128:=λx hx=>by have:=h x hx;unfold Let at this;omega
 have cc:=Ox (capt:=[none]) (mi:=yM (vr 0)) (g:=aM 0) (e:=az ZW [] #[6,0]) (env:=[some (.str ls)]) (st:=st) (st1:=st) (items:=ls.map λc=>D.str [c]) (gs:=[]) dnD (λenv=>env.length=1) (by simp;exact ha) rfl 0x9 (λys=>by simp) (λd hd cC ys hP=>by
  obtain⟨c,hc,rfl⟩:=gh.mp hd;obtain⟨x,rfl⟩:=mq.mp hP;have:=ziv c (st++[.lst ys]) (h c hc);exact⟨[some (.str [c])],rfl,by simp,by simp[dnD,this]⟩)
 rw[show (ls.map λc=>D.str [c]).map dnD=ls.map λc=>D.str (dn c) by rw[gJ];rfl]at cc;have hd:=zhy (.lf [115]) ((ls.map λc=>.lf (dn c))++cu.map .lf) (st.length+2) (st++[.lst (ls.map λc=>D.str (dn c)),.lst [.str [110],.str [102],.str [108],.str [114]],.lst ((ls.map λc=>D.str (dn c))++[.str [110],.str [102],.str [108],.str [114]])]) (by
  simp;rfl)
 change Nv [.str [115],.loc (st.length+2)] _=R.ok (enc (cz ls)) _ at hd;have hu:=jE st.length (cz ls);have hlen:(ls.map λc=>D.str (dn c)).length<=1000:=by simpa using hl
 unfold zc9 bC bB zin;generalize hCE:dG _ _ _ _ _=CE at *;exists (ls.map λc=>D.str (dn c)),X,enc (cz ls),W;have ad:bj 0x3 (.loc (st.length+1)) (st++[.lst X,.lst [.str [110],.str [102],.str [108],.str [114]]])=.ok (.loc (st.length+2)) (st++[.lst X,.lst [.str [110],.str [102],.str [108],.str [114]],.lst (X++[.str [110],.str [102],.str [108],.str [114]])]):=by
  have h4:X.length+4<=1000000:=by omega
  simp[bj,h4]
 simp[startM,cc,qi,ad,hd];exact qU hu
def zua(ls:List Nat):lv (cz ls)=ls.length+5:=by
 have key:∀(ts:List Tr) (p:Tr),(∀t∈ts,lv t=1)->lv (apps p ts)=lv p+ts.length:=by
  intro ts
  induction ts with
  | nil=>intro p _;rfl
  | cons t ts ih =>
   intro p h;have:=ih (.jn p t) λx hx=>h x (by simp[hx]);have h1:=h t 0x1;show lv (apps (.jn p t) ts)=_;rw[this,lv,h1,gC];omega
 unfold cz;rw[key]
 ·simp[lv];omega
 ·intro t ht;rcases mz.mp ht with ht | ht
  ·obtain⟨c,_,rfl⟩:=gh.mp ht;rfl
  ·obtain⟨c,_,rfl⟩:=gh.mp ht;rfl
def zq2(ls:List Nat)(st:ak)(hb:Bs st)(h:∀c∈ls,Let c)(hl:ls.length<=9):zd4 [.str ls] st=.ok (enc (bV (cz ls) dZ)) st:=by
 have rt:=zj6 ls st h 0x0;have mo:=ZM dZ (cz ls) st hb.t1 hb.c 0x5 (by rw[zua];omega);have hu:=jE st.length (bV (cz ls) dZ);simp only[gq,mC]at mo;unfold zd4 bC bB zjc;exists enc (bV (cz ls) dZ),W,enc (cz ls),W1;simp[startM,rt,mo,fu hu]
def zq4(ls:List Nat)(st:ak)(hb:Bs st)(h:∀c∈ls,Let c)(hl:ls.length<=9):zd9 [.str ls] st=.ok (.int (qF ls:Nat)) st:=by
 have rt:=zj6 ls st h 0x0;obtain⟨m1,m2⟩:=zi7 dZ (cz ls) st hb 0x5 (by rw[zua];omega);have c1:=zb2 2 st 0x0;have c2:=zb2 3 st 0x0;simp only[gq,mC]at m1;unfold zd9 bC bB ziy qF;rw[show ((2:Nat):Int)=2 from rfl,show ((2+2*2:Nat):Int)=6 from rfl]at c1;rw[show ((3:Nat):Int)=3 from rfl,show ((2+2*3:Nat):Int)=8 from rfl]at c2;exists aG (du (cz ls) dZ),Y,enc (cz ls),W1,(du (cz ls) dZ).sum,S;simp[startM,rt,m1,m2,c1,c2];exact qU 0x1
end Law
set_option maxHeartbeats 0
namespace M
def Hq{st:ak}{n:Nat}{ds:List D}(h:aA st n=some ds):dj [.loc n] st=.ok (.int ds.length) st:=by
 unfold aA at h;unfold dj;cases e:st[n]? with
 | none=>rw[e]at h;cases h
 | some o =>
  rw[e]at h;cases o<;>first | (cases h;done) | (dsimp only;unfold wU;simp[aA,e]at h ⊢;exact h ▸ rfl)
def yo{st st':ak}{d:D}{n:Nat}(hn:n<st.length)(lU:st'[n]?≠st[n]?):gc st (.ok d st')=.ok d st':=by
 have h:st'.take st.length≠st:=λe=>lU (by
  conv=>rhs;rw[<-e]
  rw[pR,ae7 hn])
 unfold gc;dsimp only;rw[ae8 (λq=>h q.1)];cases d with
 | loc k =>
  dsimp only;cases st'[k]? with
  | none=>rfl
  | some o=>dsimp only;rw[ae8 (λq=>h q.1)]
 | _=>rfl
def Oq(a:ak)(x y:MO)(n:Nat)(h:n=a.length):(a++[x]).set n y=a++[y]:=by subst h;simp
def ZK(a b:ak)(n:Nat)(y:MO)(h:n<a.length):(a++b).set n y=a.set n y++b:=by
 rw[pB,ae7 h]
def T8{st:ak}(h:bF st){n:Nat}{o:MO}(ho:o.eF=false):bF (st.set n o):=λq hq=>by
 rcases List.mem_or_eq_of_mem_set hq with hq | rfl
 ·exact h q hq
 ·exact ho
namespace Tr
def Zm{ls:List Nat}{f:Nat->Tr}{c:Nat}(h:c∈ls):look (ls.map λc=>([c],f c)) [c]=some (f c):=by
 induction ls with
 | nil=>cases h
 | cons x l ih =>
  rw[gq,Ow];by_cases e:x=c
  ·rw[ae7 (by rw[e]),e]
  ·rw[ae8 (λz=>e (by simpa using z))];exact ih ((gm.mp h).resolve_left (afi e))
def YS{a b:Nat}(h:dn a=dn b):a=b:=by
 unfold dn at h
 split at h<;>split at h<;>simp_all
def abS(c x:Nat)(hx:x≠100):dn c≠[x]:=λe=>by
 unfold dn at e
 split at e<;>simp at e
 exact hx e.symm
end Tr
end M
namespace Law
open L2 M Tr
def zo1(σ:List (List Nat×Tr))(n:Nat)(s:List Nat)(v:Tr)(st:ak)(h:st[n]? = some (.dkc (aV σ)))(hl:σ.length<=10000)(hs:∀p∈σ,p.1≠s):lK (.loc n) (.str s) (enc v) st=.ok () (st.set n (.dkc (aV (σ++[(s,v)])))):=by
 unfold lK;simp only[h,yV];rw[ae7 (by simp[aV];omega)];congr 3;unfold putN;rw[ae8]
 ·simp[aV]
 ·simp only[aV,List.any_map,pC,Function.comp,afm,not_exists,not_and];intro p hp e;exact hs p hp (Np.mp (afw e))
def Zg(σ:List (List Nat×Tr))(n:Nat)(s:List Nat)(v:Tr)(st:ak)(h:st[n]? = some (.dkc (aV σ))\/st[n]? = some (.dkf (aV σ)))(hv:look σ s=some v):wj (.loc n) (.str s) st=.ok (enc v) st:=by
 have e:valN (aV σ) (.inr (strOf s))=some (enc v):=by rw[zlm,hv];rfl
 unfold wj;rcases h with h | h<;>simp only[h,yV,e]
def zsf(ls:List Nat)(f:Nat->Tr):(aV (ls.map λc=>([c],f c))).map (λp=>yg p.1)=ls.map λc=>D.str [c]:=by
 unfold aV;rw[gJ,gJ];exact kI λc _=>by simp[yg]
def Ek(ls:List Nat)(hn:ls.Nodup)(h:∀c∈ls,Let c)(hl:ls.length<=9)(qG num:Tr)(fG:Nat->Tr)(n:Nat)(st:ak)(hb:Bs st)(hd:st[n]? = some (.dkc (aV (ls.map λc=>([c],fG c)))))(hv:lv qG<=400000) :
  zgh [enc qG,enc num,.loc n] st=.ok (enc (sb (look 0x15) qG)) (st.set n (.dkf (aV (ls.map λc=>([c],fG c))))++[.dkc (aV 0x15)]):=by
 have Uv:=(gf.mp hd).1;have ds:=CV [110] (vr 1) num [some (enc qG),some (enc num),some (.loc n),none,none] st (λs=>by simp);generalize hσ:(ls.map λc=>([c],fG c))=σL at *
 let Z:Nat->ak:=λi=>st.set n (.dkf (aV σL))++[.dkc (aV (([110],num)::(ls.take i).map λc=>(dn c,fG c)))]
 unfold zgh bC bB zme;generalize hB:(jy (aF wj (vr 2) (vr 4)) _:MS)=B;obtain⟨cC,st',h1,a4,rfl,rfl⟩:=zZ (g:=aM 4) (b:=B) (gs:=[]) (items:=ls.map λc=>D.str [c])
  (λi env s=>∃(a4:Option D),env=[some (enc qG),some (enc num),some (.loc n),some 0x3,a4]/\s=Z i)
  (env:=[some (enc qG),some (enc num),some (.loc n),some 0x3,none]) (st:=Z 0) ⟨none,rfl,rfl⟩ (by
   rintro i d env s hi ⟨a4,rfl,rfl⟩;obtain⟨c,hc,rfl⟩:=Hn hi;have Hg:=gZ hc;have zl:(st.set n (.dkf (aV σL))).length=st.length:=by simp
   have zn:(Z i)[n]? = some (.dkf (aV σL)):=by
    show (st.set n _++_)[n]? = _;rw[gP (by rw[zl];exact Uv)];simp[Uv]
   have zp:(Z i)[st.length]? = some (.dkc (aV (([110],num)::(ls.take i).map λc=>(dn c,fG c)))):=by
    show (st.set n _++_)[_]? = _;rw[kj (by rw[zl];exact gb _),zl];simp
   have dnm:=ziv c (Z i) (h c Hg);have ix:=Zg σL n [c] (fG c) (Z i) (.inr zn) (by rw[<-hσ];exact Zm Hg);have sk:=zo1 (([110],num)::(ls.take i).map λc=>(dn c,fG c)) st.length (dn c) (fG c) (Z i) zp 0x9 (λp hp=>by
    rcases gm.mp hp with rfl | hp
    ·exact λe=>abS c 110 0x5 e.symm
    ·obtain⟨x,hx,rfl⟩:=gh.mp hp;intro e;have:x=c:=YS e;subst this;obtain⟨j,hj,q⟩:=nG.mp hx;rw[kJ]at hj;rw[pM]at q;have:ls[j]? = ls[i]?:=by rw[hc,<-q];exact gK 0x0
     have:=(nQ 0x0 hn).mp this;omega)
   have e2:(Z i).set st.length (.dkc (aV ((([110],num)::(ls.take i).map λc=>(dn c,fG c))++[(dn c,fG c)])))=Z (i+1):=by
    show (st.set n _++_).set _ _=st.set n _++_;rw[Oq _ _ _ _ zl.symm,kO,hc];simp
   rw[e2]at sk;refine⟨by simp,_,_,rfl,[some (enc qG),some (enc num),some (.loc n),some 0x3,some (.str [c])],Z (i+1),.inl ?_,_,rfl,rfl⟩;rw[<-hB];exists Z i,Zi,Z (i+1),Zj,enc (fG c),W;exists enc qG,W1,enc num,W2;simp[ix,dnm,sk]) (λ_ _ _=>by simp)
 rw[gj]at h1;have ez:Z ls.length=st.set n (.dkf (aV σL))++[.dkc (aV 0x15)]:=by show _++_=_;rw[my]
 have e0:(st++[.dkc (aV [([110],num)])]:ak).set n (.dkf (aV σL))=Z 0:=by
  show _=st.set n _++_;rw[ZK _ _ _ _ Uv];simp
 have dk:U5 (vr 2) [some (enc qG),some (enc num),some (.loc n),some 0x3,none] (st++[.dkc (aV [([110],num)])])=.ok (ls.map λc=>D.str [c],[]) (Z 0):=by
  unfold U5;have:(st++[.dkc (aV [([110],num)])]:ak)[n]? = some (.dkc (aV σL)):=dC hd;have kk:=zsf ls fG;rw[hσ]at kk;simp only[El,mX,n_,R.aB,this,e0,kk]
 have zl:(st.set n (.dkf (aV σL))).length=st.length:=by simp
 have pi:=zhw 0x15 qG st.length (Z ls.length) (by rw[ez,kj (by rw[zl];exact gb _),zl];simp) (by
  rw[ez];refine dC ?_;rw[gU (λe=>by subst e;rw[hb.t2]at hd;cases hd)];exact hb.t2) (by
  rw[ez];have:=T8 hb.c (n:=n) (o:=.dkf (aV σL)) rfl;simp[this]) hv
 rw[<-ez];have hz:(Z ls.length)[n]?≠st[n]?:=by
  rw[ez,gP (by rw[zl];exact Uv),hd];simp[Uv]
 have g:=yo (st:=st) (st':=Z ls.length) (d:=enc (sb (look 0x15) qG)) Uv hz;rw[show startM 5 [enc qG,enc num,D.loc n]=[some (enc qG),some (enc num),some (.loc n),none,none] from rfl];generalize hDE:fY (cR #[1,[110]] (vr 1) iR)=DE at *;generalize hDK:U5 (vr 2)=DK at *;exists Z ls.length,Zl,Z 0,Z0,aV [([110],num)],K1;generalize enc (sb (look 0x15) qG)=W3 at *;exists enc qG,W1,enc num,W2,(ls.map λc=>D.str [c]),X;simp[ds,dk,h1,pi];exact g
end Law
set_option maxHeartbeats 0
namespace Law
open L2 M Tr
def zta(n:Nat)(st:ak):zfd [.int n] st=.ok (.int ((n / 2:Nat):Int)) st :=
 zs7 #[0,(by rw[zf3 st n 2 0x0];congr 2)] 0x1
def zqc(a:List Nat)(x:Nat):aG (a++[x])=aG a++[.int x]:=by simp[aG]
def Nm(a:List Nat):(aG a).length=a.length:=by simp[aG]
def zjv(k many:Nat)(st:ak)(hk:k<many)(hm:many<=4096):Z4 [.int k,.int many] st=.ok 0x3 (st++[.lst (aG (bO 13 k many))]):=by
 unfold Z4 bC bB zjb;generalize hC:(d7 #[8,CK,(vr 4)]:MT)=C;generalize hB:(aC (aJ 5 _) _:MS)=B
 let E:Nat->Nat->Option D->Option D->aK:=λfirst left a5 a6=>[some (.int k),some (.int many),some 0x3,some (.int (first:Nat)),some (.int (left:Nat)),a5,a6]
 let S:List Nat->ak:=λdone=>st++[.lst (aG done)]
 have stop:∀(first left:Nat) (done:List Nat) (a5 a6:Option D),left<=1->bf C B (E first left a5 a6) (S done)=.ok (.nx (E first left a5 a6)) (S done):=λfirst left done a5 a6 hl=>by
  rw[xm,show C (E first left a5 a6) (S done)=.ok false (S done) by rw[<-hC];exact dW #[0,(by rw[zno,ae_ 0x0])]];rfl
 have go:∀(first left:Nat) (done:List Nat) (a5 a6:Option D),2<=left->left<=4096->first<=4096->done.length<=1000 ->
   ∃Hj a6',bf C B (E first left a5 a6) (S done)=if k<first+left / 2 then bf C B (E first (left / 2) Hj a6') (S (done++[0])) else bf C B (E (first+left / 2) (left - left / 2) Hj a6') (S (done++[1])):=λfirst left done a5 a6 hl K8 hf hd=>by
  have ap:∀x:Nat,aW 0x3 [.int (x:Nat)] (S done)=.ok .non (S (done++[x])):=λx=>by
   have:=zr0 (st:=st) (g:=[.lst (aG done)]) (k:=0) (d:=.int x) rfl (by rw[Nm];omega);show _=R.ok _ (st++[.lst (aG (done++[x]))]);rw[zqc];exact this
  have mu:∀(j:Int) s,j<=1->0<=j->jk (.int ((left / 2:Nat):Int)) (.int j) s=.ok (.int ((left / 2:Nat)*j)) s:=λj s h1 h0=>Ot s ((left / 2:Nat):Int) j 0x0;have lt:ltV (.int k) (.int ((first+left / 2:Nat):Int)) (S done)=.ok (.bl (decide (k<first+left / 2))) (S done):=J7;refine⟨some (.int ((left / 2:Nat):Int)),some (.int (if k<first+left / 2 then 0 else 1)),?_⟩;rw[xm,show C (E first left a5 a6) (S done)=.ok true (S done) by rw[<-hC];exact dW #[0,(by rw[zno,afb 0x0])],R.aB,ae7 rfl];by_cases hc:k<first+left / 2
  ·rw[afb hc]at lt;rw[ae7 hc,ae7 hc,show B (E first left a5 a6) (S done)=.ok (.nx (E first (left / 2) (some (.int ((left / 2:Nat):Int))) (some (.int 0)))) (S (done++[0])) by
    rw[<-hB];exact cB (bU (zta left _) rfl) (cB (T3 (dW (aO rfl #[0,(Nk rfl)] lt)) rfl) ((uc (yJ (uZ rfl (lty (k:=0) rfl) (aY rfl rfl) (ap 0)))).trans (cB (aO rfl #[0,(mu 0 _ 0x0 0x0)] (add_int 0x0)) (GX (T3 (dW #[0,Zo]) rfl))))),R.aB]
  ·rw[ae_ hc]at lt;rw[ae8 hc,ae8 hc,show B (E first left a5 a6) (S done)=.ok (.nx (E (first+left / 2) (left - left / 2) (some (.int ((left / 2:Nat):Int))) (some (.int 1)))) (S (done++[1])) by
    rw[<-hB];exact cB (bU (zta left _) rfl) (cB (T3 (dW (aO rfl #[0,(Nk rfl)] lt)) rfl) ((uc (yJ (uZ rfl (lty (k:=0) rfl) (aY rfl rfl) (ap 1)))).trans (cB (aO rfl #[0,(mu 1 _ 0x0 0x0)] (add_int 0x0)) (GX (T3 (dW #[0,eq_int]) #[0,(by rw[zke];congr 2;omega)]))))),R.aB]
 have loop:∀(f first left:Nat) (done:List Nat) (a5 a6:Option D),first<=k->k<first+left->left<=2 ^ f->done.length+f<=100->f<=12 ->
   ∃(fi le:Nat) (Hj a6':Option D),bf C B (E first left a5 a6) (S done)=.ok (.nx (E fi le Hj a6')) (S (done++bO (f+1) (k - first) left)):=by
  intro f
  induction f with
  | zero =>
   intro first left done a5 a6 h1 h2 h3 _ _;have hl:left<=1:=by simpa using h3
   refine⟨first,left,a5,a6,?_⟩;rw[stop first left done a5 a6 hl,bO,ae7 hl,gw]
  | succ f ih =>
   intro first left done a5 a6 h1 h2 h3 hd hf;have hp:2 ^ (f+1)=2 ^ f+2 ^ f:=by rw[p8];omega
   have dX:2 ^ f<=2 ^ 11:=Nat.pow_le_pow_right 0x5 0x0;by_cases hl:left<=1
   ·refine⟨first,left,a5,a6,?_⟩;rw[stop first left done a5 a6 hl,bO,ae7 hl,gw]
   ·obtain⟨b5,b6,e⟩:=go first left done a5 a6 0x0 0x0 0x0 0x0;rw[bO,ae8 hl,e];by_cases hc:k<first+left / 2
    ·rw[ae7 hc,ae7 0x0];obtain⟨fi,le,c5,c6,e2⟩:=ih first (left / 2) (done++[0]) b5 b6 h1 hc 0x0 0x9 0x0;exact⟨fi,le,c5,c6,by rw[e2,gW];rfl⟩
    ·rw[ae8 hc,ae8 0x0];obtain⟨fi,le,c5,c6,e2⟩:=ih (first+left / 2) (left - left / 2) (done++[1]) b5 b6 0x0 0x0 0x0 0x9 0x0;exact⟨fi,le,c5,c6,by rw[e2,gW,show k - (first+left / 2)=k - first - left / 2 by omega];rfl⟩
 obtain⟨fi,le,a5,a6,h1⟩:=loop 12 0 many [] none none 0x0 0x0 0x0 0x1 0x0;rw[m8,Nat.sub_zero]at h1;have g:=Vf (st:=st) (o:=.lst (aG (bO 13 k many))) (by
  show b_ st.length (aG _);generalize bO 13 k many=cs
  induction cs with
  | nil=>simp[aG]
  | cons c cs ih=>simpa[aG] using ih)
 exact aZ (cB zk0 (cB rfl (cB rfl ((uc h1).trans (eZ rfl))))) rfl g
def pkD:D->D
 | .int i=>enc (bL i.toNat 2)
 | d=>d
def pcD:D->D
 | .int i=>.int ((6+cg i.toNat 2:Nat):Int)
 | d=>d
def Qq(ts:List Nat):(aG ts).map pkD=(ts.map λt=>bL t 2).map enc:=by
 unfold aG;rw[gJ,gJ];exact kI λt _=>by simp[pkD]
def DG(k many:Nat)(st:ak)(hb:Bs st)(hk:k<many)(hm:many<=4096):zf6 [.int k,.int many] st=.ok (enc (jF (bO 13 k many))) st:=by
 have tt:=zjv k many st hk hm;obtain⟨tl,t1⟩:=Zv 13 k many;exists bO 13 k many,ts;have K_:Bs (st++[.lst (aG ts)]):=hb.app 0x1;have cc:=Ox (capt:=[none]) (mi:=fB (az Z4 [] #[3,0,(vr 1)])) (g:=aM 0) (e:=az Oo [] #[3,0,#[4,2]]) (env:=[some (.int k),some (.int many)]) pkD (λenv=>env.length=1) (zob (bU tt rfl) (oX (k:=0) rfl)) rfl (by rw[Nm];omega) (λys=>wu (dC (oX (k:=0) rfl))) (λd hd cC ys hP=>by
  obtain⟨t,ht,rfl⟩:=gh.mp hd;obtain⟨x,rfl⟩:=mq.mp hP;have h2:=t1 t ht;refine⟨[some (.int t)],rfl,rfl,?_⟩;rw[show pkD (.int t)=enc (bL t 2) by simp[pkD]];exact bU (zph t 2 _ (dC K_.t1) (by simp[hb.c]) 0x0 0x0) rfl)
 rw[Qq]at cc;have hd:=zoq (ts.map λt=>bL t 2) (st++[.lst (aG ts)]:ak).length (st++[.lst (aG ts)]++[.lst ((ts.map λt=>bL t 2).map enc)]) 0x1 (λt ht=>by
  obtain⟨x,_,rfl⟩:=gh.mp ht;exact Nr _ _)
 exact aZ (eZ (bU hd (aY cc rfl))) rfl (by rw[gW];exact qU (jE st.length (jF ts)))
def QK(ts:List Nat):(aG ts).map pcD=aG (ts.map λt=>6+cg t 2):=by
 unfold aG;rw[gJ,gJ];exact kI λt _=>by simp[pcD]
def zqt(k many:Nat)(st:ak)(hb:Bs st)(hk:k<many)(hm:many<=4096):zfs [.int k,.int many] st=.ok (.int ((2+2*(bO 13 k many).length+oZ (bO 13 k many)+(du dR qN).headD 0:Nat):Int)) st:=by
 have tt:=zjv k many st hk hm;obtain⟨tl,t1⟩:=Zv 13 k many;exists bO 13 k many,ts;have K_:Bs (st++[.lst (aG ts)]):=hb.app 0x1;have cc:=Ox (capt:=[none]) (mi:=fB (vr 2)) (g:=aM 0) (e:=aF bj #[7,OJ,#[4,2]] (az ZV [] #[3,0,#[4,2]])) (env:=[some (.int k),some (.int many),some 0x3,none]) pcD (λenv=>env.length=1) (zob rfl (oX (st:=st) (g:=[.lst (aG ts)]) (k:=0) rfl)) rfl (by rw[Nm];omega) (λys=>wu (dC (oX (k:=0) rfl))) (λd hd cC ys hP=>by
  obtain⟨t,ht,rfl⟩:=gh.mp hd;obtain⟨x,rfl⟩:=mq.mp hP;have h2:=t1 t ht;refine⟨[some (.int t)],rfl,rfl,?_⟩;rw[show pcD (.int t)=.int ((6+cg t 2:Nat):Int) by simp[pcD]];exact aO (bU (zb2 2 _ 0x0) rfl) (bU (zjh t 2 _ (K_.app 0x1) 0x0 0x0) rfl) (Nk rfl))
 rw[QK]at cc;have l1:dj [.loc st.length] 0x19=.ok (.int ts.length) 0x19:=by
  have:=Hq (st:=st++[.lst (aG ts)]++[.lst (aG (ts.map λt=>6+cg t 2))]) (n:=st.length) (ds:=aG ts) (by simp[aA]);rwa[Nm]at this
 have hc:=zb2 ts.length 0x19 0x0;have sm:=sum_ints (ts.map λt=>6+cg t 2) (st.length+1) 0x19 0x1;change _=R.ok (D.int (oZ ts:Nat)) _ at sm;have hb3:Bs 0x19:=K_.app 0x1;have et:=zhk 0x19;have mc:=zha qN dR _ hb3.t1 hb3.c 0x5 0x5;have em:aG (du dR qN)=[.int 2,.int 6]:=by kernel_rfl
 rw[em]at mc;rw[show (du dR qN).headD 0=2 by kernel_rfl];have ix:=v8 (st++[MO.lst (aG ts)]++[MO.lst (aG (ts.map λt=>6+cg t 2))]++[MO.lst [.int 2,.int 6]]) (st++[MO.lst (aG ts)]++[MO.lst (aG (ts.map λt=>6+cg t 2))]).length 0 [.int 2,.int 6] (.int 2) (by simp[aA]) rfl;refine aZ (st1:=st++[MO.lst (aG ts)]++[MO.lst (aG (ts.map λt=>6+cg t 2))]++[MO.lst [.int 2,.int 6]]) (cB (bU tt rfl) (cB cc (eZ (aO (aO (bU hc (aY (sW l1 rfl) rfl)) (sW sm ?_) (Nk rfl)) (aO (bU mc #[11,(bU et rfl)]) rfl ix) (Nk rfl))))) rfl (by rw[gW,gW];exact qU 0x1);rw[show (st++[MO.lst (aG ts)]).length=st.length+1 by simp];rfl
def DY:∀(f:Nat) (es:List Tr) (n:Nat) (st:ak),0<es.length->es.length<=2 ^ f->f<=9->aA st n=some (es.map enc)->(∀e∈es,val e=true)->Vs (f+1) [.loc n] st=.ok (enc (cV (f+1) es)) st:=by
 intro f
 induction f with
 | zero =>
  intro es n st h0 h1 _ hi hv;have hl:es.length=1:=by simp at h1;omega
  obtain⟨e,rfl⟩:=mq.mp hl;have l1:=Hq hi;have ix:aX (.loc n) (.int 0) st=.ok (enc e) st:=v8 _ _ _ _ _ hi rfl;have hu:=jE st.length e;rw[show cV (0+1) [e]=e from rfl];exact aZ (v7 (qQ (dW (aO (sW l1 rfl) rfl Zo)) (eZ #[0,ix]))) rfl (fu hu)
 | succ f ih =>
  intro es n st h0 h1 hf hi hv;have hp:2 ^ (f+1)=2 ^ f+2 ^ f:=by rw[p8];omega
  have l1:=Hq hi;rw[gj]at l1;by_cases hl:es.length=1
  ·obtain⟨e,rfl⟩:=mq.mp hl;have ix:aX (.loc n) (.int 0) st=.ok (enc e) st:=v8 _ _ _ _ _ hi rfl;have hu:=jE st.length e;rw[show cV (f+1+1) [e]=e from rfl];exact aZ (v7 (qQ (dW (aO (sW l1 rfl) rfl Zo)) (eZ #[0,ix]))) rfl (fu hu)
  ·have c1:¬ (es.length:Int)=1:=by omega
   have hh:=zta es.length st;have e1:cV (f+1+1) es=hold [cV (f+1) 0xe,cV (f+1) 0x10]:=by rw[cV,ae8 hl]
   have l2:0xe.length=es.length / 2:=by rw[kJ];omega
   have l3:0x10.length=es.length - es.length / 2:=mO;have s1:xQ (.loc n) none (some ((es.length / 2:Nat):Int)) st=.ok 0x3 (st++[.lst (0xe.map enc)]):=by
    have:=Mp (es.map enc) (es.length / 2) (by rw[gj];omega);unfold xQ;simp only[hi,this,<-List.map_take]
   have r1:=ih 0xe st.length (st++[.lst (0xe.map enc)]) 0x0 0x0 0x0 (by simp[aA]) (λe he=>hv e (m_ he));have hi2:aA (st++[.lst (0xe.map enc)]) n=some (es.map enc):=zq5 hi;have s2:xQ (.loc n) (some ((es.length / 2:Nat):Int)) none (st++[.lst (0xe.map enc)])=.ok (.loc (st.length+1)) (st++[.lst (0xe.map enc)]++[.lst (0x10.map enc)]):=by
    have:=ztq (es.map enc) (es.length / 2);unfold xQ;simp only[hi2,this,<-List.map_drop];simp
   have r2:=ih 0x10 (st.length+1) (st++[.lst (0xe.map enc)]++[.lst (0x10.map enc)]) 0x0 0x0 0x0 (by simp[aA]) (λe he=>hv e (nj he));have v1:=T6 (f+1) _ λe he=>hv e (m_ (i:=es.length / 2) he);have v2:=T6 (f+1) _ λe he=>hv e (nj (i:=es.length / 2) he);have hd:=rW [cV (f+1) 0xe,cV (f+1) 0x10] [enc (cV (f+1) 0xe),enc (cV (f+1) 0x10)] rfl (st++[.lst (0xe.map enc)]++[.lst (0x10.map enc)]) (by simp[v1,v2]);rw[<-e1]at hd;have hu:=jE st.length (cV (f+1+1) es);have ef:Vs (f+1+1)=bC (bB 2 (zft (Vs (f+1)))):=rfl;rw[ef];unfold bC bB zft;refine aZ (sZ (dW (aO (sW l1 rfl) rfl (by rw[eq_int,ae_ c1]))) (cB (bU hh (aY (sW l1 rfl) rfl)) (eZ (bU hd (aY (Zy (aY (bU r1 (aY (zpu rfl rfl rfl s1) rfl)) (aY (bU r2 (aY (zpu rfl rfl rfl s2) rfl)) rfl))) rfl))))) rfl (by rw[gW,gW];exact qU hu)
def ZJ(n:Nat)(es:List Tr):cV (n+1) es=if es.length=1 then es.headD Tr.tK else hold [cV n 0xe,cV n 0x10]:=rfl
def D_:∀(f n:Nat) (es:List Tr),0<es.length->es.length<=2 ^ f->f<=n->cV (n+1) es=cV (f+1) es:=by
 intro f
 induction f with
 | zero =>
  intro n es h0 h1 _;have hl:es.length=1:=by simp at h1;omega
  rw[ZJ n,ZJ 0,ae7 hl,ae7 hl]
 | succ f ih =>
  intro n es h0 h1 hn;have hp:2 ^ (f+1)=2 ^ f+2 ^ f:=by rw[p8];omega
  obtain⟨m,rfl⟩:∃m,n=m+1:=⟨n - 1,by omega⟩;by_cases hl:es.length=1
  ·rw[ZJ (m+1),ZJ (f+1),ae7 hl,ae7 hl]
  ·rw[ZJ (m+1),ZJ (f+1),ae8 hl,ae8 hl];rw[ih m 0xe (by rw[kJ];omega) (by rw[kJ];omega) 0x0,ih m 0x10 (by rw[mO];omega) (by rw[mO];omega) 0x0]
def zqg(es:List Tr)(n:Nat)(st:ak)(h0:0<es.length)(h1:es.length<=512)(hi:aA st n=some (es.map enc))(hv:∀e∈es,val e=true):Vs 10 [.loc n] st=.ok (enc (cV 13 es)) st:=by
 rw[D_ 9 12 es h0 0x0 0x0];exact DY 9 es n st h0 0x0 0x0 hi hv
end Law
set_option maxHeartbeats 0
namespace Law
open L2 M
structure fH where
 st:Int
 c:Nat
 w:Nat
 m:Nat
 g:Int
def fH.d(r:fH):D:=.tup [.int r.st,.str [r.c],.str [r.w],.str [r.m],.int r.g]
def zon(n:Nat)(rs:List fH):b_ n (rs.map fH.d):=by
 induction rs with
 | nil=>simp
 | cons r rs ih=>simp[ih,fH.d]
def zrf(rs:List fH):dF (rs.map fH.d)=true:=by
 induction rs with
 | nil=>simp
 | cons r rs ih=>simp[ih,fH.d]
def zul(rs:List fH):deps (rs.map fH.d)<=1:=by
 induction rs with
 | nil=>simp
 | cons r rs ih=>simp[fH.d];omega
def zm4(s:Int)(c:Nat):keysOf [.int s,.str [c]]=some [.inl s,.inr (strOf [c])]:=rfl
def qH(r:fH):List Key:=[.inl r.st,.inr (strOf [r.c])]
def zsh(r:fH)(s:Int)(c:Nat):qH r=[.inl s,.inr (strOf [c])]↔r.st=s/\r.c=c:=by
 unfold qH;constructor
 ·intro h;injection h with h1 h2;injection h2 with h2 h3;injection h1 with h1;injection h2 with h2;injection h2 with h2;refine⟨h1,?_⟩;have:=congrArg Array.toList h2;simpa using this
 ·rintro ⟨rfl,rfl⟩;rfl
def tab:List (List Key×D)->List fH->List (List Key×D)
 | kvs,[]=>kvs
 | kvs,r::rs=>tab (match jc kvs (qH r) with | some _=>kvs | none=>kvs++[(qH r,r.d)]) rs
theorem Bm(s:Int)(c:Nat):∀(rs:List fH) (kvs:List (List Key×D)),jc (tab kvs rs) [.inl s,.inr (strOf [c])]=match jc kvs [.inl s,.inr (strOf [c])] with | some d=>some d | none=>(rs.find? λr=>decide (r.st=s/\r.c=c)).map fH.d
 | [],kvs=>by rw[tab];cases jc kvs [.inl s,.inr (strOf [c])]<;>rfl
 | r::rs,kvs=>by
  rw[tab,Bm s c rs,m7];by_cases h:r.st=s/\r.c=c
  ·have hk:=(zsh r s c).mpr h;rw[hk];cases e:jc kvs [.inl s,.inr (strOf [c])] with
   | some d=>simp only[e]
   | none =>
    dsimp only;rw[zop _ _ _ _ e,ae7 rfl];simp[h]
  ·have hk:¬ qH r=[.inl s,.inr (strOf [c])]:=λz=>h ((zsh r s c).mp z);have hd:decide (r.st=s/\r.c=c)=false:=ae_ h;rw[hd];cases e:jc kvs (qH r) with
   | some d=>rfl
   | none =>
    dsimp only;rw[zop _ _ _ _ e,ae8 hk]
theorem Bo{p:List Key×D}:∀{rs:List fH} {kvs:List (List Key×D)},p∈tab kvs rs->p∈kvs\/∃r∈rs,p.2=r.d
 | [],kvs,h=>by rw[tab]at h;exact .inl h
 | r::rs,kvs,h=>by
  rw[tab]at h;rcases Bo h with h | ⟨q,hq,e⟩
  ·cases e:jc kvs (qH r) with
   | some d=>rw[e]at h;exact .inl h
   | none =>
    rw[e]at h;rcases mz.mp h with h | h
    ·exact .inl h
    ·obtain rfl:p=(qH r,r.d):=by simpa using h
     exact .inr ⟨r,by simp,rfl⟩
  ·exact .inr ⟨q,kW _ hq,e⟩
def HD(rs:List fH)(n:Nat)(st:ak)(h:st[n]? = some (.lst (rs.map fH.d)))(hl:rs.length<=1000):zcy [.loc n] st=.ok 0x3 (st++[.dic (tab [] rs)]):=by
 unfold zcy bC bB zf9;generalize hb:(dO (cI "dict" oG (vr 1) _):MS)=body;have key:∀(l:List fH) (kvs:List (List Key×D)) (a2:Option D),kvs.length+l.length<=1000->∃U9,bY (aM 2) body [(n,.lst (rs.map fH.d))] (l.map fH.d) [some (.loc n),some 0x3,a2] (st++[.dic kvs])=.ok (.nx [some (.loc n),some 0x3,U9]) (st++[.dic (tab kvs l)]):=by
  intro l
  induction l with
  | nil=>intro kvs a2 _;exact⟨a2,by rw[mC,bY,ae7 (by simp[dC h]),tab]⟩
  | cons r l ih =>
   intro kvs a2 hk;rw[gC]at hk;have zX:kvs.length<1000000:=by omega
   have ks:keysOf [.int r.st,.str [r.c]]=some (qH r):=rfl;rw[gq,bY,ae7 (by simp[dC h]),zr2,R.aB,tab];rw[show List.set [some (D.loc n),some (D.loc st.length),a2] 2 (some r.d)=[some (.loc n),some 0x3,some r.d] from rfl];cases e:jc kvs (qH r) with
   | some d =>
    obtain⟨U9,h2⟩:=ih kvs (some r.d) 0x0;refine⟨U9,?_⟩;have lU:body [some (.loc n),some 0x3,some r.d] (st++[.dic kvs])=.ok (.nx [some (.loc n),some 0x3,some r.d]) (st++[.dic kvs]):=by
     rw[<-hb];simp only[qH]at e;simp[cX,fH.d,aX,qJ,Cw,oG,zX,e]
    rw[lU,R.aB];exact h2
   | none =>
    obtain⟨U9,h2⟩:=ih (kvs++[(qH r,r.d)]) (some r.d) 0x9;refine⟨U9,?_⟩;have lU:body [some (.loc n),some 0x3,some r.d] (st++[.dic kvs])=.ok (.nx [some (.loc n),some 0x3,some r.d]) (st++[.dic (kvs++[(qH r,r.d)])]):=by
     rw[<-hb];simp only[qH]at e;simp[cX,fH.d,aX,qJ,Cw,oG,zX,e,qH]
    rw[lU,R.aB];exact h2
 obtain⟨a2,k1⟩:=key rs [] none (by simpa using hl);rw[show startM 3 [D.loc n]=[some (.loc n),none,none] from rfl];simp[dC h,k1];refine Vf (o:=.dic (tab [] rs)) (λp hp=>?_);rcases Bo hp with hp | ⟨r,_,e⟩
 ·exact absurd hp (km)
 ·rw[e];simp[fH.d]
end Law
namespace Law
open L2 M Tr
def eN(r:Ru):fH:=⟨(r.s:Nat),r.x,r.w,if r.m=true then 108 else 114,(r.g:Nat)⟩
def fD(r:Ru):D:=(eN r).d
def Oe(r:Ru):fD r=.tup [.int r.s,.str [r.x],.str [r.w],.str (Hb r.m),.int r.g]:=by
 unfold fD eN fH.d Hb;cases r.m<;>rfl
def zku(rs:List Ru):(rs.map eN).map fH.d=rs.map fD:=by rw[gJ];rfl
def Cm(B:Bk)(n s c:Nat)(st:ak)(h:st[n]? = some (.dic (tab [] (B.rs.map eN)))):FT (.loc n) [.tup [.int s,.str [c]]] st=.ok (match Gd B s c with | some r=>fD r | none=>.non) st:=by
 have e:=Bm (s:Nat) c (B.rs.map eN) [];rw[Hw]at e;dsimp only at e;rw[List.find?_map]at e;have e2:(λr=>decide ((eN r).st=(s:Int)/\(eN r).c=c))=λr:Ru=>decide (r.s=s) && decide (r.x=c):=by
  funext r;rw[mD];constructor
  ·intro q;obtain⟨a,b⟩:=afh q;have a':(r.s:Int)=s:=a;have b':r.x=c:=b;rw[gM];exact⟨afb 0x0,afb b'⟩
  ·intro q;rw[gM]at q;have a:=afh q.1;exact afb ⟨by show (r.s:Int)=s;omega,afh q.2⟩
 have e3:B.rs.find? ((λr=>decide (r.st=(s:Int)/\r.c=c))∘eN)=Gd B s c:=by
  unfold Gd;rw[<-e2];rfl
 rw[e3]at e;unfold FT;have ks:=zm4 (s:Nat) c;simp only[h,ks,e];cases Gd B s c<;>rfl
def wK(ls:List Nat):List (List Nat×Tr):=ls.map λc=>([c],bL (bW ls c) ls.length)
def Zr{ls:List Nat}(hn:ls.Nodup){i c:Nat}(h:ls[i]? = some c):bW ls c=i:=by
 have hm:=gZ h;have h2:=Du hm;exact (nQ (Hm hm) hn).mp (by rw[h2,h])
def zlo(ls:List Nat)(hn:ls.Nodup)(h:∀c∈ls,Let c)(hl:ls.length<=1000)(st:ak)(hb:Bs st):zbs [.str ls] st=.ok 0x3 (st++[.dkc (aV (wK ls))]):=by
 have ha:=ye h;unfold zbs bC bB zeh;generalize hB:(jy (az Oo [] _) _:MS)=B
 let Z:Nat->ak:=λi=>st++[.dkc (aV ((ls.take i).map λc=>([c],bL (bW ls c) ls.length)))]
 obtain⟨cC,st',h1,a2,a3,rfl,rfl⟩:=zZ (g:=qz 2 (cU (aM 2) (cU (aM 3) rJ))) (b:=B) (gs:=[]) (items:=cN 0 (ls.map λc=>D.str [c]))
  (λi env s=>∃(a2 a3:Option D),env=[some (.str ls),some 0x3,a2,a3]/\s=Z i)
  (env:=[some (.str ls),some 0x3,none,none]) (st:=Z 0) ⟨none,none,rfl,rfl⟩ (by
   rintro i d env s hi ⟨a2,a3,rfl,rfl⟩;obtain⟨y,hy,rfl⟩:=zkn hi;obtain⟨c,hc,rfl⟩:=Hn hy;have Hf:=(gf.mp hc).1;have ei:=Zr hn hc;have K_:Bs (Z i):=hb.app 0x1;have pk:=zph i ls.length (Z i) K_.t1 K_.c Hf 0x0;have le:dj [.str ls] (Z i)=.ok (.int ls.length) (Z i):=by
    show wU [.str ls] (Z i)=_;exact zgl _ ls 0x0
   have sk:=zo1 ((ls.take i).map λc=>([c],bL (bW ls c) ls.length)) st.length [c] (bL i ls.length) (Z i) (by simp[Z]) 0x9 (λp hp=>by
    obtain⟨x,hx,rfl⟩:=gh.mp hp;intro e;have:x=c:=by simpa using e
    subst this;obtain⟨j,hj,q⟩:=nG.mp hx;rw[kJ]at hj;rw[pM]at q;have:ls[j]? = ls[i]?:=by rw[hc,<-q];exact gK 0x0
    have:=(nQ 0x0 hn).mp this;omega)
   have e2:(Z i).set st.length (.dkc (aV (((ls.take i).map λc=>([c],bL (bW ls c) ls.length))++[([c],bL i ls.length)])))=Z (i+1):=by
    show (st++_).set _ _=st++_;rw[Oq _ _ _ _ rfl,kO,hc];simp[ei]
   rw[e2]at sk;refine⟨by simp,[some (.str ls),some 0x3,some (.int i),some (.str [c])],Z i,?_,[some (.str ls),some 0x3,some (.int i),some (.str [c])],Z (i+1),.inl ?_,_,_,rfl,rfl⟩
   ·generalize Z i=Zi;simp
   ·rw[<-hB];exists Z i,Zi,Z (i+1),Zj,enc (bL i ls.length),W;simp[le,pk,sk]) (λ_ _ _=>by simp)
 rw[Vo,gj]at h1;have ez:Z ls.length=st++[.dkc (aV (wK ls))]:=by show _++_=_;rw[my];rfl
 rw[ez]at h1;have g:=Vf (st:=st) (o:=.dkc (aV (wK ls))) (λp hp=>by
  unfold aV at hp;obtain⟨q,_,rfl⟩:=gh.mp hp;exact jE _ _)
 have e0:Z 0=st++[.dkc []]:=rfl;rw[e0]at h1;have en:vU #[6,0] [some (.str ls),some 0x3,none,none] (st++[.dkc []])=.ok (cN 0 (ls.map λc=>D.str [c]),[]) (st++[.dkc []]):=by
  rw[IV];simp only[Qa,V9,El,n_,R.aB];rw[ae7 ha]
 rw[show startM 4 [D.str ls]=[some (.str ls),none,none,none] from rfl];exists aV (wK ls),Y,vU #[6,0],EI,cN 0 (ls.map λc=>D.str [c]),X;simp[dkE,en,h1];exact g
end Law
set_option maxHeartbeats 0
namespace Law
open L2 M Tr
abbrev vm(ls:List Nat)(c:Nat):Tr:=bL (bW ls c) ls.length
abbrev M6:List Nat:=[98,97,114,101]
abbrev Lh:List Nat:=[102,117,108,108]
def Ua(m:Bool)(ls:List Nat)(c:Nat):MO:=.dkc (aV [(M6,fK m (vm ls 95) (vm ls c)),(Lh,jh m (vm ls c))])
def mvF(m:Bool)(w:Nat):List (PySem.Str×D):=[("plan",enc (bV (cQ m) cu)),("written",.loc w),("bare_cost",.int ((iQ m+qp m:Nat):Int)),("full_cost",.int ((iQ m+lW m:Nat):Int))]
def dz(st:ak)(n:Nat)(m:Bool)(ls:List Nat):Prop :=
 ∃w W,st[n]? = some (.ins "Move" (mvF m w))/\st[w]? = some (.dkc W)/\∀c∈ls,∃q,valN W (.inr (strOf [c]))=some (.loc q)/\st[q]? = some (Ua m ls c)
def Keeps(st st':ak)(ex:List Nat):Prop:=∀j o,j∉ex->st[j]? = some o->st'[j]? = some o
def Keeps.app(st g:ak):Keeps st (st++g) []:=λ_ _ _ h=>dC h
def dz.mono{st st':ak}{n:Nat}{m:Bool}{ls:List Nat}(h:dz st n m ls)(k:Keeps st st' []):dz st' n m ls:=by
 obtain⟨w,W,h1,h2,h3⟩:=h;refine⟨w,W,k _ _ 0x1 h1,k _ _ 0x1 h2,λc hc=>?_⟩;obtain⟨q,q1,q2⟩:=h3 c hc;exact⟨q,q1,k _ _ 0x1 q2⟩
def Bs.keeps{st st':ak}(h:Bs st){ex:List Nat}(k:Keeps st st' ex)(h1:1∉ex)(h2:2∉ex)(c:bF st'):Bs st':=⟨k _ _ h1 h.t1,k _ _ h2 h.t2,c⟩
def U6(x y:List Nat)(hxy:x≠y)(e1 e2:ME)(v w:Tr)(env:aK)(st:ak)(h1:e1 env (st++[.dkc []])=.ok (enc v) (st++[.dkc []]))(h2:e2 env (st++[.dkc []])=.ok (enc w) (st++[.dkc []])) :
  fY (cR #[1,x] e1 (cR #[1,y] e2 iR)) env st=.ok 0x3 (st++[.dkc (aV [(x,v),(y,w)])]):=by
 have lU:¬ strOf x=strOf y:=λe=>hxy (Np.mp e);unfold fY;simp[h1,h2,vD,yV,jY,putN,aV,lU]
def aaM(kvs:List (Key×D))(n:Nat)(s:List Nat)(d:D)(st:ak)(h:st[n]? = some (.dkc kvs))(hl:kvs.length<=10000)(hs:∀p∈kvs,p.1≠.inr (strOf s)):lK (.loc n) (.str s) d st=.ok () (st.set n (.dkc (kvs++[(.inr (strOf s),d)]))):=by
 unfold lK;simp only[h,yV];rw[ae7 0x0];congr 3;unfold putN;rw[ae8];simp only[pC,afm,not_exists,not_and];exact hs
def Hv(ls:List Nat)(f:Nat->D){c:Nat}(h:c∈ls):valN (ls.map λc=>(Sum.inr (strOf [c]),f c)) (.inr (strOf [c]))=some (f c):=by
 induction ls with
 | nil=>cases h
 | cons x l ih =>
  rw[gq,ZD];by_cases e:x=c
  ·rw[ae7 (by rw[e]),e]
  ·rw[ae8 (λz=>e (by have:=Np.mp (afw z);simpa using this))];exact ih ((gm.mp h).resolve_left (afi e))
def zn2{ls:List Nat}(hn:ls.Nodup){i c x:Nat}(hc:ls[i]? = some c)(hx:x∈ls.take i):x≠c:=by
 intro e;subst e;obtain⟨j,hj,q⟩:=nG.mp hx;rw[kJ]at hj;rw[pM]at q;have:ls[j]? = ls[i]?:=by rw[hc,<-q];exact gK 0x0
 have:=(nQ 0x0 hn).mp this;omega
def J5(m:Bool):lv (bu m)<=100/\lv (bV (bu m) iZ)<=1000/\lv (bV (bu m) qt)<=1000/\lv (cQ m)<=100/\lv (bV (cQ m) cu)<=1000:=by cases m<;>decide +kernel
theorem J6{f:List Nat->Option Tr}{b:Nat}(hb:1<=b)(h:∀s v,f s=some v->lv v<=b):∀t,lv (sb f t)<=lv t*b
 | .lf s=>by
  rw[sb];cases e:f s with
  | none=>show 1<=1*b;omega
  | some v=>have:=h s v e;show lv v<=1*b;omega
 | .jn l r=>by
  have:=J6 hb h l;have:=J6 hb h r;rw[sb,lv,lv,Nat.add_mul];omega
theorem zox:∀m,lv (wg m)<=3*m+3
 | 0=>by decide
 | 1=>by decide
 | m+2=>by
  have:=zox (m+1);rw[wg,lv];have:lv (.jn tS (.jn tK tK))=3:=rfl;omega
def Xd(ls:List Nat)(hl:ls.length<=9)(c:Nat):lv (vm ls c)<=60:=by
 have h1:=zqa (wg (ls.length - 1 - bW ls c)) (bW ls c);have h2:=zox (ls.length - 1 - bW ls c);have h3:bW ls c<=ls.length:=List.findIdx_le_length;show lv (di _ _)<=_;omega
end Law
set_option maxHeartbeats 0
namespace Law
open L2 M Tr
def set_same{st:ak}{n:Nat}{o:MO}(h:st[n]? = some o):st.set n o=st:=by
 apply List.ext_getElem?;intro i;by_cases e:n=i
 ·subst e;rw[h];have:=(gf.mp h).1;simp[this]
 ·rw[gU e]
def gL(m:Bool)(ls:List Nat)(c:Nat):List MO:=[.dkc (aV [([119],vm ls c)]),Ua m ls c]
def vM(m:Bool)(ls:List Nat)(i:Nat):List MO:=((ls.take i).map (gL m ls)).flatten
def Lf(m:Bool)(ls:List Nat):∀i,i<=ls.length->(vM m ls i).length=2*i:=λi hi=>by
 unfold vM;have key:∀l:List Nat,((l.map (gL m ls)).flatten).length=2*l.length:=λl=>by
  induction l with
  | nil=>rfl
  | cons c l ih=>rw[gq,List.flatten_cons,gQ,ih];simp[gL];omega
 rw[key,kJ];omega
def FW(m:Bool){ls:List Nat}{i c:Nat}(h:ls[i]? = some c):vM m ls (i+1)=vM m ls i++gL m ls c:=by
 unfold vM;rw[kO,h];simp
def Lg(m:Bool)(ls:List Nat)(i:Nat):bF (vM m ls i):=by
 unfold vM;generalize ls.take i=l
 induction l with
 | nil=>simp
 | cons c l ih=>rw[gq,List.flatten_cons];simp[ih,gL,Ua]
def NB(p:Nat)(ls:List Nat)(i:Nat):List (Key×D):=(ls.take i).map λc=>(Sum.inr (strOf [c]),D.loc (p+2*bW ls c))
def zil(m:Bool)(ls:List Nat)(hn:ls.Nodup)(hL:∀c∈ls,Let c)(hl:ls.length<=9)(h95:95∈ls)(sf nt:Nat)(st:ak)(hb:Bs st)(h1:st[sf]? = some (.ins "Move" []))
  (h2:st[nt]? = some (.dkc (aV (wK ls)))\/st[nt]? = some (.dkf (aV (wK ls)))) :
  ∃st',Vt [.loc sf,.str (Hb m),.loc nt] st=.ok .non st'/\Keeps st st' [sf,nt]/\st'[nt]? = some (.dkf (aV (wK ls)))/\dz st' sf m ls/\bF st'/\st.length<=st'.length:=by
 obtain⟨l1,l2,l3,l4,l5⟩:=J5 m;have RM:=(gf.mp h1).1;have hnt:nt<st.length:=by rcases h2 with h2 | h2<;>exact (gf.mp h2).1
 have lU:sf≠nt:=λe=>by subst e;rw[h1]at h2;simp at h2
 let A:MO:=.dkc (aV [([97],vm ls 95),([116],tK)])
 let M7:Tr:=sb (look [([97],vm ls 95),([116],tK)]) (bV (bu m) iZ)
 let p1:(PySem.Str×D):=("plan",enc (bV (cQ m) cu))
 let p2:(PySem.Str×D):=("written",.loc (st.length+1))
 let Aq:MO:=.ins "Move" [p1,p2]
 let Yg:MO:=.ins "Move" [p1,p2,("bare_cost",.int ((iQ m+qp m:Nat):Int))]
 let KZ:MO:=.ins "Move" (mvF m (st.length+1))
 have b1:Bs (st++[A]):=hb.app (by simp[A])
 let E3:Option D->Option D->aK:=λa6 a7=>[some (.loc sf),some (.str (Hb m)),some (.loc nt),some (enc (bu m)),some (enc M7),some (enc (bV (bu m) qt)),a6,a7,none]
 have zA:∀x:MO,(st.set sf x).length=st.length:=λx=>by simp
 let S0:ak:=(st.set sf Aq).set nt (.dkf (aV (wK ls)))
 have z0:S0.length=st.length:=by simp[S0]
 let T:Nat->ak:=λi=>S0++A::.dkc (NB (st.length+3) ls i)::vM m ls i
 have dk:U5 (vr 2) (E3 none none) (st.set sf Aq++[A,.dkc []])=.ok (ls.map λc=>D.str [c],[]) (T 0):=by
  have kk:=zsf ls (vm ls);change (aV (wK ls)).map (λp=>yg p.1)=_ at kk;have e0:(st.set sf Aq++[A,.dkc []]:ak).set nt (.dkf (aV (wK ls)))=T 0:=by
   rw[ZK _ _ _ _ (by rw[zA];exact hnt)];rfl
  have gn:∀o,st[nt]? = some o->(st.set sf Aq++[A,.dkc []]:ak)[nt]? = some o:=λo ho=>by
   rw[gP (by rw[zA];exact hnt),gU lU];exact ho
  unfold U5;simp only[E3,El,mX,n_,R.aB];rcases h2 with h2 | h2
  ·simp only[gn _ h2,e0,kk]
  ·have e1:(st.set sf Aq++[A,.dkc []]:ak)=T 0:=by rw[<-e0,set_same (gn _ h2)]
   simp only[gn _ h2,kk];rw[e1]
 have tsf:∀i,(T i)[sf]? = some Aq:=λi=>by
  rw[gP (by rw[z0];exact RM),gU (afi lU)];simp[RM]
 have tnt:∀i,(T i)[nt]? = some (.dkf (aV (wK ls))):=λi=>by
  rw[gP (by rw[z0];exact hnt)];simp[S0,hnt]
 have tw:∀i,(T i)[st.length+1]? = some (.dkc (NB (st.length+3) ls i)):=λi=>by
  rw[kj (by rw[z0];omega),z0,show st.length+1 - st.length=1 by omega];rfl
 have n1:sf≠1:=λe=>by rw[e,hb.t1]at h1;cases h1
 have n2:sf≠2:=λe=>by rw[e,hb.t2]at h1;cases h1
 have n3:nt≠1:=λe=>by rw[e,hb.t1]at h2;simp at h2
 have n4:nt≠2:=λe=>by rw[e,hb.t2]at h2;simp at h2
 have bS:Bs S0:=⟨by rw[gU n3,gU n1];exact hb.t1,by rw[gU n4,gU n2];exact hb.t2,T8 (T8 hb.c rfl) rfl⟩;have bT:∀i,Bs (T i):=λi=>bS.app (by simp[Lg,A]);have tl:∀i,i<=ls.length->(T i).length=st.length+2+2*i:=λi hi=>by
  have:=Lf m ls i hi;simp only[T,gQ,gC,this,z0];omega
 have lb:lv M7<=400000:=by
  have:=J6 (f:=look [([97],vm ls 95),([116],tK)]) (b:=60) 0x0 (λs v e=>by
   have:=zix e;simp only[gm,km,afv,Prod.mk.injEq]at this;rcases this with⟨_,rfl⟩ | ⟨_,rfl⟩
   ·exact Xd ls hl 95
   ·decide) (bV (bu m) iZ)
  have h6:lv (bV (bu m) iZ)*60<=1000*60:=Nat.mul_le_mul_right 60 l2;show lv (sb _ _)<=_;omega
 unfold Vt bC bB ZX;generalize hB:(aC (aJ 7 _) _:MS)=B;obtain⟨cC,st',hh,a6,a7,rfl,rfl⟩:=zZ (g:=aM 6) (b:=B) (gs:=[]) (items:=ls.map λc=>D.str [c]) (λi env s=>∃(a6 a7:Option D),env=E3 a6 a7/\s=T i)
  (env:=E3 none none) (st:=T 0) ⟨none,none,rfl,rfl⟩ (by
   rintro i d env s hi ⟨a6,a7,rfl,rfl⟩;obtain⟨c,hc,rfl⟩:=Hn hi;have Hf:=(gf.mp hc).1;have ei:=Zr hn hc
   let P:ak:=T i++[.dkc (aV [([119],vm ls c)])]
   have pl:P.length=st.length+3+2*i:=by simp[P,tl i 0x0];omega
   have bP:Bs (P++[.dkc []]):=((bT i).app 0x1).app 0x1;have gp:(P++[.dkc []])[(T i).length]? = some (.dkc (aV [([119],vm ls c)])):=by simp[P]
   have sk:=aaM (NB (st.length+3) ls i) (st.length+1) [c] (.loc P.length) (P++[Ua m ls c]) (dC (dC (tw i))) (by simp[NB];omega) (λp hp=>by
    obtain⟨x,hx,rfl⟩:=gh.mp hp;intro e;have:x=c:=by have:=Np.mp (afw e);simpa using this
    exact zn2 hn hc hx this)
   have e2:(P++[Ua m ls c]).set (st.length+1) (.dkc (NB (st.length+3) ls i++[(.inr (strOf [c]),.loc P.length)]))=T (i+1):=by
    have ew:NB (st.length+3) ls (i+1)=NB (st.length+3) ls i++[(.inr (strOf [c]),.loc P.length)]:=by
     unfold NB;rw[kO,hc,pl];simp[ei]
    show (S0++A::_::vM m ls i++[_]++[_]).set _ _=S0++A::_::vM m ls (i+1);rw[FW m hc,ew];simp only[gW,nH,m8,gL];rw[pB,ae8 (by rw[z0];omega),z0,show st.length+1 - st.length=1 by omega]
    rfl
   rw[e2]at sk;refine⟨by simp,E3 (some (.str [c])) a7,T i,rfl,E3 (some (.str [c])) (some (.loc (T i).length)),T (i+1),.inl ?_,_,_,rfl,rfl⟩;rw[<-hB];exact cB (CV _ _ (vm ls c) _ _ λs=>aO rfl rfl (Zg (wK ls) nt [c] _ _ (.inr (dC (tnt i))) (Zm (gZ hc))))
    (yz (U6 _ _ 0x5 _ _ (fK m (vm ls 95) (vm ls c)) (jh m (vm ls c)) _ P (bU (zhw _ M7 _ _ gp bP.t2 bP.c lb) rfl) (bU (zhw _ (bV (bu m) qt) _ _ gp bP.t2 bP.c 0x0) rfl))
     (Zt (oF rfl (dC (dC (tsf i))) rfl) rfl sk))) (λ_ _ _=>by simp)
 rw[gj]at hh
 let C1:MO:=.lst (aG (du (cQ m) cu))
 let C2:MO:=.lst (aG (du (bu m) iZ))
 let C3:MO:=.lst (aG (du (bu m) qt))
 have bC1:Bs (T ls.length++[C1]):=(bT _).app (by simp[C1]);obtain⟨m1,m2⟩:=zi7 cu (cQ m) (T ls.length) (bT _) 0x5 l4;obtain⟨m3,m4⟩:=zi7 iZ (bu m) (T ls.length++[C1]) bC1 0x5 l1;have yZ:sf<(T ls.length++[C1]++[C2]).length:=by rw[gQ,gQ,tl _ (gb _)];omega
 have bC2:Bs ((T ls.length++[C1]++[C2]).set sf Yg):=by
  have b:=bC1.app (g:=[C2]) (by simp[C2]);exact⟨by rw[gU n1];exact b.t1,by rw[gU n2];exact b.t2,T8 b.c rfl⟩
 obtain⟨m5,m6⟩:=zi7 qt (bu m) _ bC2 0x5 l1
 let stE:ak:=(((T ls.length++[C1]++[C2]).set sf Yg)++[C3]).set sf KZ
 have hsE:sf<(((T ls.length++[C1]++[C2]).set sf Yg)++[C3]).length:=by
  rw[gQ,nM];omega
 have esf:stE[sf]? = some KZ:=k_ hsE;have eo:∀j o,j≠sf->(T ls.length)[j]? = some o->stE[j]? = some o:=λj o hj ho=>by
  show ((_:ak).set sf KZ)[j]? = _;rw[gU (afi hj)];refine dC ?_;rw[gU (afi hj)];exact dC (dC ho)
 have Fy:∀j,j<st.length->(T ls.length)[j]? = S0[j]?:=λj hj=>by rw[gP (by rw[z0];exact hj)]
 have cE:bF stE:=T8 ((zfx _ _).mpr ⟨bC2.c,by simp[C3]⟩) rfl;have RV:=yo (st:=st) (st':=stE) (d:=.non) RM (by rw[esf,h1];simp[KZ,mvF]);refine⟨stE,?_,λj o hj ho=>?_,?_,⟨st.length+1,NB (st.length+3) ls ls.length,esf,?_,λc hc=>?_⟩,cE,?_⟩
 ·have e5:(st.set sf (.ins "Move" [p1])++[A]++[.dkc []]:ak).set sf (.ins "Move" [p1,("written",.loc (st.set sf (.ins "Move" [p1])++[A]).length)])=st.set sf Aq++[A,.dkc []]:=by
   rw[gW,ZK _ _ _ _ (by rw[zA];exact RM),List.set_set,gQ,zA];rfl
  refine UT (cB (bU (zmt m st) rfl) (cB (bU (xU _ (bV (bu m) iZ) st hb 0x0) (aY (bU (ZM iZ (bu m) st hb.t1 hb.c 0x5 l1) rfl) (aY (U6 _ _ 0x5 _ _ (vm ls 95) tK _ _ #[0,(Zg (wK ls) nt [95] _ _ (by rcases h2 with h2 | h2;exact .inl (dC h2);exact .inr (dC h2)) (Zm h95))] rfl) rfl)))
   (cB (bU (ZM qt (bu m) (st++[A]) b1.t1 b1.c 0x5 l1) rfl)
   (Hl (bU (ZM cu (cQ m) (st++[A]) b1.t1 b1.c 0x5 l4) #[11,(bU (zih m _) rfl)]) rfl (dC h1) (ZK _ _ _ _ RM)
   (Hl (fs:=[p1]) rfl rfl (by rw[gW,gP (by rw[zA];exact RM)];simp[RM];rfl) e5
   (GZ dk hh (cB (aO (sW m2 (aY (bU m1 #[11,(bU (zih m _) rfl)]) rfl)) rfl (add_int (k:=((iQ m:Nat):Int)) (by unfold iQ;omega)))
   (Hl (aO rfl (sW m4 (aY (bU m3 rfl) rfl)) (Nk rfl)) rfl (dC (dC (tsf _))) rfl
   (zle (aO (aO rfl (bU (zb2 2 _ 0x0) rfl) (add_int rfl)) (sW m6 (aY (bU m5 rfl) rfl)) (add_int (k:=((iQ m+lW m:Nat):Int)) (by unfold lW;omega))) rfl (dC (k_ yZ)) 0x1))))))))) rfl RV
 ·simp only[gm,km,afv,not_or]at hj;have hjl:=(gf.mp ho).1;refine eo j o hj.1 ?_;rw[Fy j hjl,gU (afi hj.2),gU (afi hj.1)];exact ho
 ·exact eo nt _ (afi lU) (tnt _)
 ·exact eo _ _ 0x0 (tw _)
 ·refine⟨st.length+3+2*bW ls c,?_,?_⟩
  ·unfold NB;rw[my];exact Hv ls (λc=>D.loc (st.length+3+2*bW ls c)) hc
  ·refine eo _ _ 0x0 ?_;have hi:=Du hc;have Hf:=Hm hc;generalize bW ls c=i at hi Hf ⊢;rw[kj (by rw[z0];omega),z0,show st.length+3+2*i - st.length=(2*i+1)+2 by omega,mX,mX];unfold vM;rw[my];have key:∀(l:List Nat) (i:Nat),l[i]? = some c->((l.map (gL m ls)).flatten)[2*i+1]? = some (Ua m ls c):=by
    intro l
    induction l with
    | nil=>intro i h;simp at h
    | cons x l ih =>
     intro i h;rw[gq,List.flatten_cons];cases i with
     | zero =>
      obtain rfl:x=c:=by simpa using h
      rfl
     | succ i =>
      rw[kj (by simp[gL];omega)];have:=ih i (by simpa using h);rw[show 2*(i+1)+1 - (gL m ls x).length=2*i+1 by simp[gL];omega];exact this
   exact key ls i hi
 ·show st.length<=((_:ak).set sf KZ).length;rw[nM,gQ,nM,gQ,gQ,tl _ (gb _)];omega
end Law
set_option maxHeartbeats 0
namespace Law
open L2 M Tr
def KJ{kvs:List (Key×D)}{n:Nat}{s:List Nat}{d:D}{st:ak}(h:st[n]? = some (.dkc kvs))(hv:valN kvs (.inr (strOf s))=some d):wj (.loc n) (.str s) st=.ok d st:=by
 unfold wj;simp only[h,yV,hv]
def abx{kvs:List (Key×D)}{n:Nat}{i:Int}{d:D}{st:ak}(h:st[n]? = some (.dkc kvs))(hv:valN kvs (.inl i)=some d):wj (.loc n) (.int i) st=.ok d st:=by
 unfold wj;simp only[h,zp5,hv]
def zni(m:Bool)(ls:List Nat)(n:Nat)(st:ak)(hb:Bs st)(h:dz st n m ls)(c:Nat)(hc:c∈ls)(way:Tr):ze1 [.loc n,.str [c],enc way] st=.ok (enc (rK m (vm ls 95) (vm ls c) way)) st:=by
 obtain⟨w,W,h1,h2,h3⟩:=h;obtain⟨q,q1,q2⟩:=h3 c hc
 let σ:List (List Nat×Tr):=[(M6,fK m (vm ls 95) (vm ls c)),(Lh,jh m (vm ls c))]
 have dc:uo [.loc q] st=.ok 0x3 (st++[.dkc (aV σ)]):=by
  unfold uo;simp only[q2,Ua];rfl
 have sk:=zo1 σ st.length [103] way (st++[.dkc (aV σ)]) 0x1 (by simp[σ]) (by simp[σ,M6,Lh]);rw[Oq _ _ _ _ rfl]at sk;exact aZ (cB (sW dc (aY (aO (oF rfl h1 rfl) rfl (KJ h2 q1)) rfl)) (xW rfl (Zt rfl rfl sk) (eZ (bU (xU _ (bV (cQ m) cu) st hb (by have:=(J5 m).2.2.2.2;omega)) (aY (oF rfl (dC h1) rfl) rfl))))) rfl (qU (jE _ _))
def HX(ls:List Nat)(f:Nat->Tr)(n c:Nat)(v:Tr)(st:ak)(h:st[n]? = some (.dkc (aV (ls.map λc=>([c],f c)))))(hc:c∈ls)(hl:ls.length<=1000):lK (.loc n) (.str [c]) (enc v) st=.ok () (st.set n (.dkc (aV (ls.map λx=>([x],if x=c then v else f x))))):=by
 unfold lK;simp only[h,yV];rw[ae7 (by simp[aV];omega)];congr 3;unfold putN;rw[ae7]
 ·unfold aV;rw[gJ,gJ,gJ];refine kI λx _=>?_;simp only[Function.comp];by_cases e:x=c
  ·rw[ae7 (by rw[e]),ae7 e]
  ·rw[ae8 (λz=>e (by have:=Np.mp (afw z);simpa using this)),ae8 e]
 ·simp only[aV,pC,afm];exact⟨(.inr (strOf [c]),enc (f c)),by
   rw[gJ];exact gh.mpr ⟨c,hc,rfl⟩,rfl⟩
def DN(ss:List Nat)(f:Nat->D){s:Nat}(h:s∈ss):valN (ss.map λ(s:Nat)=>(Sum.inl (s:Int),f s)) (.inl (s:Int))=some (f s):=by
 induction ss with
 | nil=>cases h
 | cons x l ih =>
  rw[gq,ZD];by_cases e:x=s
  ·rw[ae7 (by rw[e]),e]
  ·rw[ae8 (λz=>e (by have:=Sum.inl.inj z;omega))];exact ih ((gm.mp h).resolve_left (afi e))
structure TX(st:ak)(b:Nat)(B:Bk)(fs:List (PySem.Str×D))(ns nk nt nm ml mr:Nat):Prop where
 o:st[b]? = some (.ins "Book" fs)
 f1:fs.lookup ("letters":PySem.Str)=some (D.str B.ls)
 f2:fs.lookup ("states":PySem.Str)=some (D.loc ns)
 f3:fs.lookup ("by_key":PySem.Str)=some (D.loc nk)
 f4:fs.lookup ("sign_trees":PySem.Str)=some (D.loc nt)
 f5:fs.lookup ("moves":PySem.Str)=some (D.loc nm)
 f6:fs.lookup ("start_cost":PySem.Str)=some (D.int (qF B.ls:Nat))
 s:st[ns]? = some (.lst (B.ss.map λs=>D.int (s:Nat)))
 k:st[nk]? = some (.dic (tab [] (B.rs.map eN)))
 t:st[nt]? = some (.dkf (aV (wK B.ls)))
 m:st[nm]? = some (.dkc [(.inr (strOf [108]),.loc ml),(.inr (strOf [114]),.loc mr)])
 l:dz st ml true B.ls
 r:dz st mr false B.ls
def TX.mono{st st':ak}{b:Nat}{B:Bk}{fs:List (PySem.Str×D)}{ns nk nt nm ml mr:Nat}(h:TX st b B fs ns nk nt nm ml mr)(k:Keeps st st' []):TX st' b B fs ns nk nt nm ml mr :=
 ⟨k _ _ 0x1 h.o,h.f1,h.f2,h.f3,h.f4,h.f5,h.f6,k _ _ 0x1 h.s,k _ _ 0x1 h.k,k _ _ 0x1 h.t,k _ _ 0x1 h.m,h.l.mono k,h.r.mono k⟩
def TX.mv{st:ak}{b:Nat}{B:Bk}{fs:List (PySem.Str×D)}{ns nk nt nm ml mr:Nat}(h:TX st b B fs ns nk nt nm ml mr)(m:Bool):∃mo,dz st mo m B.ls/\wj (.loc nm) (.str (Hb m)) st=.ok (.loc mo) st:=by
 cases m with
 | true=>exact⟨ml,h.l,KJ h.m rfl⟩
 | false=>exact⟨mr,h.r,KJ h.m (by
  have ne:¬ strOf [108]=strOf (Hb false):=λe=>by have:=Np.mp e;simp[Hb]at this
  rw[ZD,ae8 (λe=>ne (afw e)),ZD];exact ae7 rfl)⟩
structure zY(B:Bk):Prop where
 ok:Oc B
 wR:∀c∈B.ls,Let c
 few:B.ls.length<=9
 x:∀r∈B.rs,r.x∈B.ls
 ss:B.ss.length<=512
 s0:0<B.ss.length
 rs:B.rs.length<=1000
def aar(B:Bk):List (Key×D):=B.ss.map λ(s:Nat)=>(Sum.inl (s:Int),enc (jF (jd B s)))
def zrd(B:Bk)(hB:zY B)(b:Nat)(fs:List (PySem.Str×D))(ns nk nt nm ml mr s ne nw:Nat)(st:ak)(hb:Bs st)(hk:TX st b B fs ns nk nt nm ml mr)
  (he:st[ne]? = some (.dkc (aV (B.ls.map λc=>([c],jo (dq B c)))))) (hw:st[nw]? = some (.dkc (aar B))) :
  zdz [.loc b,.int s,.loc ne,.loc nw] st=.ok 0x3 (st++[.dkc (aV (B.ls.map λc=>([c],cj B s c)))]):=by
 have dc:uo [.loc ne] st=.ok 0x3 (st++[.dkc (aV (B.ls.map λc=>([c],jo (dq B c))))]):=by
  unfold uo;simp only[he]
 have ha:=ye hB.wR
 let mx:Nat->Nat->Tr:=λi c=>if bW B.ls c<i then cj B s c else jo (dq B c)
 let Z:Nat->ak:=λi=>st++[.dkc (aV (B.ls.map λc=>([c],mx i c)))]
 have z0:st++[.dkc (aV (B.ls.map λc=>([c],jo (dq B c))))]=Z 0:=by
  show _=st++[MO.dkc (aV (B.ls.map λc=>([c],mx 0 c)))];have:(λc=>([c],jo (dq B c)))=λc=>([c],mx 0 c):=by funext c;simp[mx]
  rw[this]
 rw[z0]at dc;have zn:Z B.ls.length=st++[.dkc (aV (B.ls.map λc=>([c],cj B s c)))]:=by
  show st++[MO.dkc (aV (B.ls.map λc=>([c],mx B.ls.length c)))]=_;have:(B.ls.map λc=>([c],mx B.ls.length c))=B.ls.map λc=>([c],cj B s c):=kI λc hc=>by simp[mx,Hm hc]
  rw[this]
 have kz:∀i,Keeps st (Z i) []:=λi=>Keeps.app st _;have bz:∀i,Bs (Z i):=λi=>hb.app 0x1
 let E:Option D->Option D->aK:=λa5 a6=>[some (.loc b),some (.int s),some (.loc ne),some (.loc nw),some 0x3,a5,a6]
 unfold zdz bC bB ziw;generalize La:(aC (aJ 6 _) _:MS)=BD;obtain⟨cC,st',hh,a5,a6,rfl,rfl⟩:=zZ (g:=aM 5) (b:=BD) (gs:=[]) (items:=B.ls.map λc=>D.str [c]) (λi env s=>∃(a5 a6:Option D),env=E a5 a6/\s=Z i)
  (env:=E none none) (st:=Z 0) ⟨none,none,rfl,rfl⟩ (by
   rintro i d env s' hi ⟨a5,a6,rfl,rfl⟩;obtain⟨c,hc,rfl⟩:=Hn hi;have Hf:=(gf.mp hc).1;have Hg:=gZ hc;have ei:=Zr hB.ok.nl hc;have hz:=hk.mono (kz i);have gk:=Cm B nk s c (Z i) hz.k;have ty:cX "dict" (.loc nk) (Z i)=true:=by simp[cX,hz.k]
   have mxs:(B.ls.map λx=>([x],if x=c then cj B s c else mx i x))=B.ls.map λx=>([x],mx (i+1) x):=kI λx hx=>by
    by_cases e:x=c
    ·subst e;simp[mx,ei]
    ·have:bW B.ls x≠i:=λq=>e (by
      have h1:=Du hx;rw[q,hc]at h1;exact (afa h1).symm)
     rw[ae8 e];show ([x],mx i x)=([x],mx (i+1) x);have:(bW B.ls x<i)=(bW B.ls x<i+1):=by rw[eq_iff_iff];omega
     simp only[mx,this]
   cases hf:Gd B s c with
   | none =>
    rw[hf]at gk;dsimp only at gk;have same:Z i=Z (i+1):=by
     show st++[MO.dkc (aV (B.ls.map λc=>([c],mx i c)))]=st++[MO.dkc (aV (B.ls.map λc=>([c],mx (i+1) c)))];rw[<-mxs];have:(B.ls.map λx=>([x],if x=c then cj B s c else mx i x))=B.ls.map λx=>([x],mx i x):=kI λx hx=>by
      by_cases e:x=c
      ·subst e;rw[ae7 rfl];have hd:cj B s x=jo (dq B x):=by unfold cj;rw[hf]
       simp[mx,ei,hd]
      ·rw[ae8 e]
     rw[this]
    refine⟨by simp,E (some (.str [c])) a6,Z i,rfl,E (some (.str [c])) (some .non),Z (i+1),.inl ?_,_,_,rfl,rfl⟩;rw[<-La,<-same];exact cB (uZ (oF rfl hz.o hz.f3) ty (aY (wz rfl) rfl) gk) (Ol (dW #[0,rfl]))
   | some r =>
    rw[hf]at gk;dsimp only at gk;have hr:=hB.ok.ru r (pA hf);have hd:cj B s c=rK r.m (dq B 95) (dq B r.w) (jF (jd B r.g)):=by unfold cj;rw[hf]
    obtain⟨mo,hmo,ixm⟩:=hz.mv r.m;have ad0:=hmo;obtain⟨w,W,o1,_,_⟩:=ad0;have md:=zni r.m B.ls mo (Z i) (bz i) hmo r.w hr.2 (jF (jd B r.g));rw[show rK r.m (vm B.ls 95) (vm B.ls r.w) (jF (jd B r.g))=cj B s c from hd.symm]at md;rw[Oe]at gk;have sk:=HX B.ls (mx i) st.length c (cj B s c) (Z i) (by simp[Z]) Hg (by have:=hB.few;omega);rw[mxs]at sk;rw[show (Z i).set st.length _=Z (i+1) from Oq _ _ _ _ rfl]at sk;refine⟨by simp,E (some (.str [c])) a6,Z i,rfl,E (some (.str [c])) (some (fD r)),Z (i+1),.inl ?_,_,_,rfl,rfl⟩;rw[<-La,Oe];exact cB (uZ (oF rfl hz.o hz.f3) ty (aY (wz rfl) rfl) gk) (qQ (dW #[0,rfl])
     (yz (J2 (aO (oF rfl hz.o hz.f5) #[0,f9] ixm) o1 (aY #[0,f9] (aY (aO rfl #[0,f9] (abx (kz i _ _ 0x1 hw) (DN B.ss (λs=>enc (jF (jd B s))) hr.1))) rfl)) o1 md) (Zt rfl rfl sk)))) (λ_ _ _=>by simp)
 rw[gj]at hh;have g:=Vf (st:=st) (o:=.dkc (aV (B.ls.map λc=>([c],cj B s c)))) (λp hp=>by
  unfold aV at hp;obtain⟨q,_,rfl⟩:=gh.mp hp;exact jE _ _)
 rw[<-zn]at g ⊢;exact aZ (cB (sW dc rfl) (GZ (zso (oF rfl (hk.mono (kz 0)).o hk.f1) ha) hh (eZ rfl))) rfl g
end Law
set_option maxHeartbeats 0
namespace Law
open L2 M Tr
def aaL(kvs:List (Key×D))(n:Nat)(i:Int)(d:D)(st:ak)(h:st[n]? = some (.dkc kvs))(hl:kvs.length<=10000)(hs:∀p∈kvs,p.1≠.inl i):lK (.loc n) (.int i) d st=.ok () (st.set n (.dkc (kvs++[(.inl i,d)]))):=by
 unfold lK;simp only[h,zp5];rw[ae7 0x0];congr 3;unfold putN;rw[ae8];simp only[pC,afm,not_exists,not_and];exact hs
def zo0(ss:List Nat)(n:Nat)(st:ak)(m:ME)(env:aK)(hm:m env st=.ok (.loc n) st)(h:st[n]? = some (.lst (ss.map λs=>D.int (s:Nat)))) :
  sE (aj m au) env st=.ok (cN 0 (ss.map λs=>D.int (s:Nat)),[(n,.lst (ss.map λs=>D.int (s:Nat)))]) st:=by
 exists (ss.map λs=>D.int (s:Nat)),X;simp[hm,rN,h]
def Tt(st:ak)(A B:MO)(ds:List D)(G:ak)(d:D)(h:ds.length<1000):aW (.loc (st.length+2)) [d] (st++A::B::.lst ds::G)=.ok .non (st++A::B::.lst (ds++[d])::G):=by
 have e:(st++A::B::.lst ds::G)[st.length+2]? = some (.lst ds):=oX (k:=2) rfl;have e2:(st++A::B::.lst ds::G).set (st.length+2) (.lst (ds++[d]))=st++A::B::.lst (ds++[d])::G:=by
  rw[pB,ae8 0x0,show st.length+2 - st.length=2 by omega];rfl
 unfold aW;dsimp only;rw[e];dsimp only;rw[ae7 0x0,e2]
def ztj(B:Bk)(hB:zY B)(b:Nat)(fs:List (PySem.Str×D))(ns nk nt nm ml mr:Nat)(st:ak)(hb:Bs st)(hk:TX st b B fs ns nk nt nm ml mr) :
  zfe [.loc b] st=.ok 0x3 (st++[.lst ((B.ss.map (iw B)).map enc)]):=by
 have hss:=hB.ss;have y_:=hB.few;have ha:=ye hB.wR
 let EN:MO:=.dkc (aV (B.ls.map λc=>([c],jo (dq B c))))
 let WY:MO:=.dkc (aar B)
 let PL:D:=enc (bV (cz B.ls) dZ)
 unfold zfe bC bB zj7;generalize hB1:(jy (az zc1 _ _) _:MS)=B1;generalize YH:(jy (az zf6 _ _) _:MS)=B2;generalize hB3:(dO _:MS)=B3
 let E:Option D->Option D->Option D->Option D->Option D->aK:=λa4 a5 a6 a7 a8=>[some (.loc b),some (.int (B.ss.length:Nat)),some PL,some 0x3,a4,a5,a6,a7,a8]

 let Z:Nat->ak:=λi=>st++[.dkc (aV ((B.ls.take i).map λc=>([c],jo (dq B c))))]
 have hz:=λi=>hk.mono (Keeps.app st [.dkc (aV ((B.ls.take i).map λc=>([c],jo (dq B c))))]);obtain⟨cC,st',h1,a4,rfl,rfl⟩:=zZ (g:=aM 4) (b:=B1) (gs:=[]) (items:=B.ls.map λc=>D.str [c]) (λi env s=>∃(a4:Option D),env=E a4 none none none none/\s=Z i)
  (env:=E none none none none none) (st:=Z 0) ⟨none,rfl,rfl⟩ (by
   rintro i d env s hi ⟨a4,rfl,rfl⟩;obtain⟨c,hc,rfl⟩:=Hn hi;have sk:=zo1 ((B.ls.take i).map λc=>([c],jo (dq B c))) st.length [c] (jo (dq B c)) (Z i) (by simp[Z]) 0x9 (λp hp=>by
    obtain⟨x,hx,rfl⟩:=gh.mp hp;intro e;exact zn2 hB.ok.nl hc hx (by simpa using e))
   have es:(Z i).set st.length (.dkc (aV (((B.ls.take i).map λc=>([c],jo (dq B c)))++[([c],jo (dq B c))])))=Z (i+1):=by
    show (st++_).set _ _=st++_;rw[Oq _ _ _ _ rfl,kO,hc];simp
   rw[es]at sk;refine⟨by simp,E (some (.str [c])) none none none none,Z i,rfl,_,Z (i+1),.inl ?_,some (.str [c]),rfl,rfl⟩;rw[<-hB1];exact yz (bU (zqz (dq B c) (Z i) (hb.app 0x1)) (aY (aO (oF rfl (hz i).o hk.f4) rfl (Zg (wK B.ls) nt [c] _ (Z i) (.inr (hz i).t) (Zm (gZ hc)))) rfl)) (Zt rfl rfl sk)) (λ_ _ _=>by simp)
 rw[gj]at h1;rw[show Z B.ls.length=st++[EN] by show st++_=_;rw[my]]at h1

 have K_:Bs (st++[EN]):=hb.app (by simp[EN]);have zX:=hk.mono (Keeps.app st [EN]);have l1:(st++[EN]).length=st.length+1:=by simp
 let wy:Nat->Key×D:=λ(s:Nat)=>(Sum.inl (s:Int),enc (jF (jd B s)))
 let Y:Nat->ak:=λi=>st++[EN]++[.dkc ((B.ss.take i).map wy)]
 have hy:=λi=>zX.mono (Keeps.app (st++[EN]) [.dkc ((B.ss.take i).map wy)]);obtain⟨cC,st',h2,a6,a7,rfl,rfl⟩:=zZ (g:=qz 2 (cU (aM 6) (cU (aM 7) rJ))) (b:=B2) (gs:=[(ns,.lst (B.ss.map λs=>D.int (s:Nat)))]) (items:=cN 0 (B.ss.map λs=>D.int (s:Nat))) (λi env s=>∃(a6 a7:Option D),env=E a4 (some (.loc (st++[EN]).length)) a6 a7 none/\s=Y i)
  (env:=E a4 (some (.loc (st++[EN]).length)) none none none) (st:=Y 0) ⟨none,none,rfl,rfl⟩ (by
   rintro i d env s' hi ⟨a6,a7,rfl,rfl⟩;obtain⟨y,Yk,rfl⟩:=zkn hi;obtain⟨s,hs,rfl⟩:=Hn Yk;have Hf:=(gf.mp hs).1;have wt:=DG i B.ss.length (Y i) (K_.app 0x1) Hf 0x0;rw[show bO 13 i B.ss.length=jd B s by unfold jd;rw[Zr hB.ok.ns hs]]at wt;have sk:=aaL ((B.ss.take i).map wy) (st++[EN]).length (s:Nat) (enc (jF (jd B s))) (Y i) (by simp[Y]) 0x9 (λp hp=>by
    obtain⟨x,hx,rfl⟩:=gh.mp hp;intro e;have:=Sum.inl.inj e;exact zn2 hB.ok.ns hs hx 0x0)
   rw[show (Y i).set (st++[EN]).length (.dkc ((B.ss.take i).map wy++[(.inl (s:Nat),enc (jF (jd B s)))]))=Y (i+1) by
    show (st++[EN]++_).set _ _=st++[EN]++_;rw[Oq _ _ _ _ rfl,kO,hs];simp[wy]]at sk
   refine⟨wu (hy i).s,E a4 (some (.loc (st++[EN]).length)) (some (.int i)) (some (.int s)) none,Y i,rfl,_,Y (i+1),.inl ?_,some (.int i),some (.int s),rfl,rfl⟩;rw[<-YH];exact yz (bU wt rfl) (Zt rfl rfl sk)) (λ_ _ h=>by obtain⟨_,_,_,rfl⟩:=h;exact wu (hy _).s)
 rw[Vo,gj]at h2;rw[show Y B.ss.length=st++[EN]++[WY] by show st++[EN]++_=_;rw[my];rfl]at h2

 let E5:Option D->Option D->aK:=λa6 a7=>E a4 (some (.loc (st++[EN]).length)) a6 a7 (some (.loc (st++[EN]++[WY]).length))
 let S:Nat->ak->ak:=λi G=>st++EN::WY::.lst (((B.ss.take i).map (iw B)).map enc)::G
 have hS:=λi G=>hk.mono (Keeps.app st (EN::WY::.lst (((B.ss.take i).map (iw B)).map enc)::G));have l2:(st++[EN]++[WY]).length=st.length+2:=by simp
 obtain⟨cC,st',h3,a6',a7',G,hG,rfl,rfl⟩:=zZ (g:=qz 2 (cU (aM 6) (cU (aM 7) rJ))) (b:=B3) (gs:=[(ns,.lst (B.ss.map λs=>D.int (s:Nat)))]) (items:=cN 0 (B.ss.map λs=>D.int (s:Nat))) (λi env s=>∃(a6 a7:Option D) (G:ak),bF G/\env=E5 a6 a7/\s=S i G)
  (env:=E5 a6 a7) (st:=S 0 []) ⟨a6,a7,[],by simp,rfl,rfl⟩ (by
   rintro i d env s' hi ⟨a6,a7,G,hG,rfl,rfl⟩;obtain⟨y,Yk,rfl⟩:=zkn hi;obtain⟨s,hs,rfl⟩:=Hn Yk;have Hf:=(gf.mp hs).1;have bz:Bs (S i G):=hb.app (by simp[EN,WY,hG]);have pk:=zph i B.ss.length (S i G) bz.t1 bz.c Hf 0x0;rw[show bL i B.ss.length=xr B s by unfold xr;rw[Zr hB.ok.ns hs]]at pk
   let DK:ak:=[.dkc (aV (B.ls.map λc=>([c],cj B s c)))]
   have ro:=Ek B.ls hB.ok.nl hB.wR hB.few (bV (cz B.ls) dZ) (xr B s) (cj B s) (S i G).length (S i G++DK) (bz.app (by simp[DK])) (by simp[DK]) (by rw[(V6 B.ls hB.few).2.2];omega);rw[Oq _ _ _ _ rfl]at ro
   let G':ak:=G++[.dkf (aV (B.ls.map λc=>([c],cj B s c)))]++[.dkc (aV (([110],xr B s)::B.ls.map λc=>(dn c,cj B s c)))]
   rw[show S i G++[.dkf (aV (B.ls.map λc=>([c],cj B s c)))]++[.dkc (aV (([110],xr B s)::B.ls.map λc=>(dn c,cj B s c)))]=S i G' by
    show st++EN::WY::_::G++_++_=st++EN::WY::_::G';simp only[G',gW,nH]]at ro
   have ap:=Tt st EN WY (((B.ss.take i).map (iw B)).map enc) G' (enc (iw B s)) 0x9;rw[show st++EN::WY::.lst (((B.ss.take i).map (iw B)).map enc++[enc (iw B s)])::G'=S (i+1) G' by
    show _=st++EN::WY::.lst (((B.ss.take (i+1)).map (iw B)).map enc)::G';rw[kO,hs];simp,<-l2]at ap
   refine⟨wu (hS i G).s,E5 (some (.int i)) (some (.int s)),S i G,rfl,_,S (i+1) G',.inl ?_,some (.int i),some (.int s),G',by simp[G',hG],rfl,rfl⟩;rw[<-hB3];exact yJ (uZ rfl (by simp[cX,S]) (aY (bU ro (aY rfl (aY (bU pk rfl) (aY (bU (zrd B hB b fs ns nk nt nm ml mr s st.length _ (S i G) bz (hS i G) (oX (k:=0) rfl) (oX (k:=1) rfl l1)) rfl) rfl)))) rfl) ap)) (λ_ _ h=>by obtain⟨_,_,G,_,_,rfl⟩:=h;exact wu (hS _ G).s)
 rw[Vo,gj]at h3;have ln:=Hq (st:=st) (n:=ns) (ds:=B.ss.map λs=>D.int (s:Nat)) (by unfold aA;rw[hk.s]);rw[gj]at ln;have g:=ztl (st:=st) (g:=[EN,WY]) (g':=G) (o:=.lst ((B.ss.map (iw B)).map enc)) (by
  show b_ _ _;generalize B.ss.map (iw B)=ts
  induction ts with
  | nil=>simp
  | cons t ts ih=>simp[ih,jE])
 have eS:S B.ss.length G=st++[EN,WY]++.lst ((B.ss.map (iw B)).map enc)::G:=by
  show st++EN::WY::.lst (((B.ss.take B.ss.length).map (iw B)).map enc)::G=_;rw[my];simp
 rw[<-eS,show st.length+[EN,WY].length=(st++[EN]++[WY]).length from l2.symm]at g;have e3:st++[EN]++[WY]++[.lst []]=S 0 []:=by show _=st++EN::WY::.lst []::[];simp
 exact aZ (cB (sW ln (aY (oF rfl hk.o hk.f2) rfl)) (cB (bU (zq2 B.ls st hb hB.wR hB.few) (aY (oF rfl hk.o hk.f1) rfl)) (cB rfl (GZ (zso (oF rfl (hz 0).o hk.f1) ha) h1 (cB rfl
  (GZ (zo0 B.ss ns (Y 0) _ _ (oF rfl (hy 0).o hk.f2) (hy 0).s) h2 (cB (st1:=S 0 []) (by rw[<-e3];rfl) (GZ (zo0 B.ss ns (S 0 []) _ _ (oF rfl (hS _ _).o hk.f2) (hS _ _).s) h3 (eZ rfl))))))))) rfl g
end Law
set_option maxHeartbeats 0
namespace Law
open L2 M Tr
def Keeps.trans{a b c:ak}{ex:List Nat}(h:Keeps a b ex)(k:Keeps b c ex):Keeps a c ex:=λj o hj ho=>k j o hj (h j o hj ho)
def Keeps.more{a b:ak}{ex:List Nat}(h:Keeps a b []):Keeps a b ex:=λj o _ ho=>h j o 0x1 ho
def Keeps.set(a:ak)(n:Nat)(o:MO):Keeps a (a.set n o) [n]:=λj x hj hx=>by
 rw[gU (λe=>hj (by simp[e]))];exact hx
def Keeps.refl(a:ak)(ex:List Nat):Keeps a a ex:=λ_ _ _ h=>h
def su{c:PySem.Str}{X X1:ak}{sf:Nat}{fs:List (PySem.Str×D)}(yH:List (PySem.Str×D))(h:X1[sf]? = some (.ins c fs))(k:Keeps X X1 [sf])(hc:bF X1) :
  ∃X2,X1.set sf (.ins c yH)=X2/\X2[sf]? = some (.ins c yH)/\Keeps X X2 [sf]/\Keeps X1 X2 [sf]/\X2.length=X1.length/\bF X2 :=
 ⟨_,rfl,k_ (gf.mp h).1,k.trans (Keeps.set _ _ _),Keeps.set _ _ _,nM,T8 hc rfl⟩
def Cd{c:PySem.Str}{F:FD}{mA:MA}{env:aK}{X X1:ak}{as:List D}(ha:mA env X=.ok as X)(hf:F (.loc X.length::as) (X++[.ins c []])=.ok .non X1):jK c F mA env X=.ok (.loc X.length) X1:=by
 unfold jK;rw[ha,R.aB,hf];rfl
def dz.keeps{st st':ak}{n p:Nat}{m:Bool}{ls:List Nat}{o:MO}(h:dz st n m ls)(k:Keeps st st' [p])(ho:st[p]? = some o)(hb:95∈ls)(h1:∀fs,o≠.ins "Move" fs)(h2:∀W,o=.dkc W->W=[]):dz st' n m ls:=by
 obtain⟨w,W,q1,q2,q3⟩:=h;have kk:∀j x,st[j]? = some x->x≠o->st'[j]? = some x:=λj x hj hx=>k _ _ (λhm=>by obtain rfl:=h_.mp hm;rw[ho]at hj;cases hj;exact hx rfl) hj;refine⟨w,W,kk _ _ q1 (λe=>h1 _ e.symm),kk _ _ q2 (λe=>?_),λc hc=>?_⟩
 ·obtain⟨q,z,_⟩:=q3 95 hb;rw[h2 _ e.symm]at z;cases z
 ·obtain⟨q,z1,z2⟩:=q3 c hc;exact⟨q,z1,kk _ _ z2 (λe=>by have:=h2 _ e.symm;simp[aV]at this)⟩
def dz.book{st st':ak}{n sf:Nat}{m:Bool}{ls:List Nat}{fs:List (PySem.Str×D)}(h:dz st n m ls)(k:Keeps st st' [sf])(ho:st[sf]? = some (.ins "Book" fs))(hb:95∈ls):dz st' n m ls :=
 h.keeps k ho hb (λ_ e=>by injection e with e _;exact absurd e 0x8) (λ_ e=>by cases e)
def J1(B:Bk)(hB:zY B)(nt:Nat)(fe:ME)(env:aK)(X:ak)(hb:Bs X)(hfe:∀Z,Keeps X Z [nt]->fe env Z=.ok (.loc nt) Z)(ht:X[nt]? = some (.dkc (aV (wK B.ls)))) :
  ∃X1 ml mr,fY (cR #[1,[108]] (jK "Move" Vt #[5,#[1,[108]],fe]) (cR #[1,[114]] (jK "Move" Vt #[5,#[1,[114]],fe]) iR)) env X=.ok (.loc X.length) X1 /\
   Keeps X X1 [nt]/\X1[nt]? = some (.dkf (aV (wK B.ls)))/\X1[X.length]? = some (.dkc [(.inr (strOf [108]),.loc ml),(.inr (strOf [114]),.loc mr)])/\dz X1 ml true B.ls/\dz X1 mr false B.ls/\bF X1/\X.length<X1.length:=by
 have hnt:=(gf.mp ht).1
 let Y0:ak:=X++[.dkc []]
 have y0l:Y0.length=X.length+1:=by simp[Y0]
 have b0:Bs (Y0++[.ins "Move" []]):=(hb.app 0x1).app (by simp;rfl);obtain⟨Y1,i1,k1,t1,m1,c1,l1⟩:=zil true B.ls hB.ok.nl hB.wR hB.few hB.ok.bl Y0.length nt (Y0++[.ins "Move" []]) b0 0x1 (.inl (dC (dC ht)));have kX1:Keeps X Y1 [nt]:=λj o hj h=>k1 j o (by
  have:=(gf.mp h).1;simp only[gm,km,afv,not_or]at hj ⊢;exact⟨by omega,hj⟩) (dC (dC h))
 have e1:=Cd (c:="Move") (mA:=aj #[1,[108]] (aj fe au)) (env:=env) #[11,(hfe Y0 (Keeps.app X _).more)] i1;have p0:Y1[X.length]? = some (.dkc []):=k1 _ _ (by
  simp only[gm,km,afv,not_or];exact⟨by omega,by omega⟩) (dC (by simp[Y0]))
 have y1l:X.length+1<Y1.length:=by
  have:(Y0++[.ins "Move" []]:ak).length=X.length+2:=(by simp[Y0]);omega
 have n1:nt≠1:=λe=>by rw[e,hb.t1]at ht;cases ht
 have n2:nt≠2:=λe=>by rw[e,hb.t2]at ht;cases ht
 have bY1:Bs Y1:=⟨kX1 _ _ (by simpa using afi n1) hb.t1,kX1 _ _ (by simpa using afi n2) hb.t2,c1⟩;obtain⟨Y2,i2,k2,t2,m2,c2,l2⟩:=zil false B.ls hB.ok.nl hB.wR hB.few hB.ok.bl Y1.length nt (Y1++[.ins "Move" []]) (bY1.app (by simp;rfl)) 0x1 (.inr (dC t1));have e2:=Cd (c:="Move") (mA:=aj #[1,[114]] (aj fe au)) (env:=env) #[11,(hfe Y1 kX1)] i2;have k12:Keeps Y1 Y2 []:=λj o _ h=>by
  by_cases e:j=nt
  ·subst e;rw[t1]at h;cases h;exact t2
  ·refine k2 j o ?_ (dC h);have:=(gf.mp h).1;simp only[gm,km,afv,not_or];exact⟨by omega,e⟩
 have p1:Y2[X.length]? = some (.dkc []):=k12 _ _ 0x1 p0;have RL:=(gf.mp p1).1
 let KV:MO:=.dkc [(.inr (strOf [108]),.loc Y0.length),(.inr (strOf [114]),.loc Y1.length)]
 have ks:=Keeps.set Y2 X.length KV;refine⟨Y2.set X.length KV,Y0.length,Y1.length,?_,?_,?_,k_ RL,?_,?_,T8 c2 rfl,by rw[nM];exact RL⟩
 ·have RT:¬ strOf [108]=strOf [114]:=λe=>by have:=Np.mp e;simp at this
  unfold fY;change ((cR _ _ _:TV) env Y0).bind _=_;rw[ztk,aaT,R.aB,e1,R.aB,ztk,aaT,R.aB,e2];simp only[P_,R.aB];rw[show vD [(D.str [108],D.loc Y0.length),(D.str [114],D.loc Y1.length)]=some [(.inr (strOf [108]),.loc Y0.length),(.inr (strOf [114]),.loc Y1.length)] from rfl,p1];simp[jY,putN,RT,KV]
 ·exact λj o hj h=>by
   have:=(gf.mp h).1;rw[gU 0x0];exact k12 _ _ 0x1 (kX1 j o hj h)
 ·rw[gU 0x0];exact t2
 ·exact m1.keeps (k12.more.trans ks) p0 hB.ok.bl (λ_=>by simp) (λW e=>by cases e;rfl)
 ·exact m2.keeps ks p1 hB.ok.bl (λ_=>by simp) (λW e=>by cases e;rfl)
theorem zo6:∀{t u:Tr},enc t=enc u->t=u
 | .lf s,.lf t,h=>by
  rw[enc,enc]at h;injection h with h;rw[h]
 | .lf s,.jn l r,h=>by rw[enc,enc]at h;cases h
 | .jn l r,.lf s,h=>by rw[enc,enc]at h;cases h
 | .jn l r,.jn l' r',h=>by
  rw[enc,enc]at h;injection h with h;injection h with h1 h2;injection h2 with h2 h3;rw[zo6 h1,zo6 h2]
open Classical in
noncomputable def yU(f:Tr->Tr):D->D:=λd=>if h:∃t,enc t=d then enc (f h.choose) else d
def zk3(f:Tr->Tr)(t:Tr):yU f (enc t)=enc (f t):=by
 have hx:∃u,enc u=enc t:=⟨t,rfl⟩;unfold yU;rw[dif_pos hx,zo6 hx.choose_spec]
def zpw(f:Tr->Tr)(ts:List Tr):(ts.map enc).map (yU f)=(ts.map f).map enc:=by
 rw[gJ,gJ];exact kI λt _=>zk3 f t
structure jf(st:ak)(b:Nat)(B:Bk):Prop where
 ex:∃fs ns nk nt nm ml mr nr xu,TX st b B fs ns nk nt nm ml mr/\fs.lookup ("state_trees":PySem.Str)=some (D.loc xu)/\st[xu]? = some (.lst ((B.ss.map (iu B)).map enc)) /\
  fs.lookup ("rules":PySem.Str)=some (D.loc nr)/\st[nr]? = some (.lst (B.rs.map fD))/\fs.lookup ("signs":PySem.Str)=some (D.str B.ls.tail)
def jf.mono{st st':ak}{b:Nat}{B:Bk}(h:jf st b B)(k:Keeps st st' []):jf st' b B:=by
 obtain⟨fs,ns,nk,nt,nm,ml,mr,nr,xu,h1,h2,h3,h4,h5,h6⟩:=h.ex;exact⟨fs,ns,nk,nt,nm,ml,mr,nr,xu,h1.mono k,h2,k _ _ 0x1 h3,h4,k _ _ 0x1 h5,h6⟩
def zkp{st:ak}{n:Nat}{ds:List D}(h:st[n]? = some (.lst ds)):qi [.loc n] st=.ok 0x3 (st++[.lst ds]):=by
 have:aA st n=some ds:=by unfold aA;rw[h]
 unfold qi;simp only[this]
def znz(B:Bk)(hB:zY B)(signs:List Nat)(hs:B.ls=95::signs)(sf nr QZ:Nat)(st:ak)(hb:Bs st)(h1:st[sf]? = some (.ins "Book" []))(h2:st[nr]? = some (.lst (B.rs.map fD)))(h3:st[QZ]? = some (.lst (B.ss.map λs=>D.int (s:Nat)))) :
  ∃st',zep [.loc sf,.loc nr,.str signs,.loc QZ] st=.ok .non st'/\Keeps st st' [sf]/\jf st' sf B/\bF st':=by
 have RM:=(gf.mp h1).1;have hnr:nr≠sf:=λe=>by subst e;rw[h1]at h2;cases h2
 have FJ:QZ≠sf:=λe=>by subst e;rw[h1]at h3;cases h3
 have n1:(1:Nat)∉[sf]:=by simp;exact λe=>by rw[<-e,hb.t1]at h1;cases h1
 have n2:(2:Nat)∉[sf]:=by simp;exact λe=>by rw[<-e,hb.t2]at h1;cases h1
 have big:∀j,st.length<=j->j∉[sf]:=λj hj=>by simp;omega
 let r1:PySem.Str×D:=("rules",.loc st.length)
 let r2:PySem.Str×D:=("signs",.str signs)
 let r4:PySem.Str×D:=("letters",.str B.ls)
 let r8:PySem.Str×D:=("start_cost",.int (qF B.ls:Nat))
 obtain⟨X1,u1,o1,k1,q1,l1,c1⟩:=su [r1] (dC h1) (Keeps.app st [.lst (B.rs.map fD)]).more (by simp[hb.c]);have x1:X1[st.length]? = some (.lst (B.rs.map fD)):=q1 _ _ (big _ (gb _)) 0x1;obtain⟨X2,u2,o2,k2,q2,l2,c2⟩:=su [r1,r2] o1 (Keeps.refl _ _) c1;have h3':=k2 _ _ (by simpa using FJ) (k1 _ _ (by simpa using FJ) h3)
 let r3:PySem.Str×D:=("states",.loc X2.length)
 have m2:X2.length=st.length+1:=by rw[l2,l1];simp
 obtain⟨X3,u3,o3,k3,q3,l3,c3⟩:=su [r1,r2,r3] (dC o2) (Keeps.app X2 [.lst (B.ss.map λs=>D.int (s:Nat))]).more (by simp[c2]);have x3:X3[X2.length]? = some (.lst (B.ss.map λs=>D.int (s:Nat))):=q3 _ _ (big _ 0x0) 0x1;obtain⟨X4,u4,o4,k4,q4,l4,c4⟩:=su [r1,r2,r3,r4] o3 (Keeps.refl _ _) c3;have kk4:Keeps st X4 [sf]:=((k1.trans k2).trans k3).trans k4;have h2':=kk4 _ _ (by simpa using hnr) h2
 let r5:PySem.Str×D:=("by_key",.loc X4.length)
 have m4:X4.length=st.length+2:=by rw[l4,l3];simp[m2]
 obtain⟨X5,u5,o5,k5,q5,l5,c5⟩:=su [r1,r2,r3,r4,r5] (dC o4) (Keeps.app X4 [.dic (tab [] (B.rs.map eN))]).more (by simp[c4]);have x5:X5[X4.length]? = some (.dic (tab [] (B.rs.map eN))):=q5 _ _ (big _ 0x0) 0x1;have kk5:Keeps st X5 [sf]:=kk4.trans k5
 let r6:PySem.Str×D:=("sign_trees",.loc X5.length)
 have m5:X5.length=st.length+3:=by rw[l5];simp[m4]
 obtain⟨X6,u6,o6,k6,q6,l6,c6⟩:=su [r1,r2,r3,r4,r5,r6] (dC o5) (Keeps.app X5 [.dkc (aV (wK B.ls))]).more (by simp[c5]);have x6:X6[X5.length]? = some (.dkc (aV (wK B.ls))):=q6 _ _ (big _ 0x0) 0x1;have kk6:Keeps st X6 [sf]:=kk5.trans k6;have m6:X6.length=st.length+4:=by rw[l6];simp[m5]

 obtain⟨Y,ml,mr,hY,kY,tY,pY,mlY,mrY,cY,lY⟩:=J1 B hB X5.length (cF "Book" "sign_trees" (vr 0)) [some (.loc sf),some (.loc nr),some (.str signs),some (.loc QZ),none,none] X6 (hb.keeps kk6 n1 n2 c6) (λZ kZ=>oF rfl (kZ _ _ 0x9 o6) rfl) x6;have oY:=kY sf _ 0x9 o6
 let r7:PySem.Str×D:=("moves",.loc X6.length)
 obtain⟨X7,u7,o7,k7,q7,l7,c7⟩:=su [r1,r2,r3,r4,r5,r6,r7] oY (Keeps.refl _ _) cY;have kk7:Keeps st X7 [sf]:=λj o hj h=>q7 _ _ hj (kY _ _ (by
  have:=(gf.mp h).1;simp;omega) (kk6 _ _ hj h))
 have b7:Bs X7:=hb.keeps kk7 n1 n2 c7;obtain⟨X8,u8,o8,k8,q8,l8,c8⟩:=su [r1,r2,r3,r4,r5,r6,r7,r8] o7 (Keeps.refl _ _) c7;have k68:∀j o,st.length<=j->j≠X5.length->X6[j]? = some o->X8[j]? = some o:=λj o hj hn h=>k8 _ _ (big j hj) (q7 _ _ (big j hj) (kY _ _ (by simp;exact hn) h));have x8s:=k68 _ _ 0x0 0x0 (k6 _ _ (big _ 0x0) (k5 _ _ (big _ 0x0) (k4 _ _ (big _ 0x0) x3)));have x8k:=k68 _ _ 0x0 0x0 (k6 _ _ (big _ 0x0) x5);have x8r:=k68 _ _ (gb _) 0x0 (k6 _ _ (big _ 0x0) (k5 _ _ (big _ 0x0) (k4 _ _ (big _ 0x0) (k3 _ _ (big _ 0x0) (k2 _ _ (big _ 0x0) x1)))));have b8:Bs X8:=hb.keeps (kk7.trans k8) n1 n2 c8;have hbl:=hB.ok.bl;have k0:∀(r:List (PySem.Str×D)) (Z:ak),Z[sf]? = some (.ins "Book" (r1::r2::r3::r4::r5::r6::r7::r8::r))->Keeps X8 Z [sf]->TX Z sf B (r1::r2::r3::r4::r5::r6::r7::r8::r) X2.length X4.length X5.length X6.length ml mr:=λfs Z hZ kZ =>
  ⟨hZ,rfl,rfl,rfl,rfl,rfl,rfl,kZ _ _ (big _ 0x0) x8s,kZ _ _ (big _ 0x0) x8k,kZ _ _ (big _ 0x0) (k8 _ _ (big _ 0x0) (q7 _ _ (big _ 0x0) tY)),kZ _ _ (big _ 0x0) (k8 _ _ (big _ 0x0) (q7 _ _ (big _ 0x0) pY)),
   ((mlY.book q7 oY hbl).book k8 o7 hbl).book kZ o8 hbl,((mrY.book q7 oY hbl).book k8 o7 hbl).book kZ o8 hbl⟩
 have ro:=ztj B hB sf _ _ _ _ _ _ _ X8 b8 (k0 [] X8 o8 (Keeps.refl _ _))
 let RW:List Tr:=B.ss.map (iw B)
 let X9:ak:=X8++[.lst (RW.map enc)]
 have b9:Bs X9:=b8.app 0x1;have vR:∀t∈RW,val t=true:=λt ht=>by
  obtain⟨x,_,rfl⟩:=gh.mp ht;exact zkw x
 have g9:∀g:ak,(X9++g)[X8.length]? = some (.lst (RW.map enc)):=λg=>dC (by simp[X9]);have aaN:∀(e:aK) (g:ak),e[4]? = some (some (.loc X8.length))->fB (vr 4) e (X9++g)=.ok (RW.map enc,[(X8.length,.lst (RW.map enc))]) (X9++g):=λe g he=>by
  rw[ztp,El,he];simp only[R.aB,g9]
 have rl:RW.length=B.ss.length:=by simp[RW]
 have hss:=hB.ss;have to:=zqg (RW.map jN) X9.length (X9++[.lst ((RW.map jN).map enc)]) (by rw[gj,rl];exact hB.s0) (by rw[gj,rl];exact hss) (by simp[aA]) (λe he=>by
  obtain⟨t,ht,rfl⟩:=gh.mp he;exact zn4 (vR t ht))
 let TJ:ak:=X9++[.lst ((RW.map jN).map enc)]
 have est:(RW.map (λt=>hold [t,jH B])).map enc=(B.ss.map (iu B)).map enc:=by
  show ((B.ss.map (iw B)).map _).map _=_;rw[gJ (l:=B.ss)];rfl
 have c10:bF (TJ++[.lst ((B.ss.map (iu B)).map enc)]):=by
  have:=b9.c;simp[TJ,this]
 obtain⟨X11,u11,o11,k11,q11,l11,c11⟩:=su [r1,r2,r3,r4,r5,r6,r7,r8,("state_trees",.loc TJ.length)] (dC (dC (dC o8))) (Keeps.app TJ [.lst ((B.ss.map (iu B)).map enc)]).more c10;have k8b:Keeps X8 X11 [sf]:=((Keeps.app X8 _).trans (Keeps.app X9 _)).more.trans k11;have x10:st.length<=TJ.length:=by simp[TJ,X9,l8,l7];omega
 have RV:=yo (st:=st) (st':=X11) (d:=.non) RM (by rw[o11,h1];simp);refine⟨X11,?_,(kk7.trans k8).trans k8b,⟨_,_,_,_,_,_,_,st.length,TJ.length,k0 [_] X11 o11 k8b,rfl,q11 _ _ (big _ x10) (oX (k:=0) rfl),rfl,k8b _ _ (big _ (gb _)) x8r,by rw[hs];rfl⟩,c11⟩;refine UT (Hl (sW (zkp h2) rfl) rfl (dC h1) u1 (Hl rfl rfl o1 u2 (Hl (sW (zkp h3') rfl) rfl (dC o2) u3
  (Hl (d:=.str B.ls) #[0,?_] rfl o3 u4
  (Hl (bU (HD (B.rs.map eN) nr X4 (by rw[zku];exact h2') (by rw[gj];exact hB.rs)) rfl) rfl (dC o4) u5
  (Hl (bU (zlo B.ls hB.ok.nl hB.wR (by have:=hB.few;omega) X5 (hb.keeps kk5 n1 n2 c5)) (aY (oF rfl o5 rfl) rfl)) rfl (dC o5) u6
  (Hl hY rfl oY u7 (Hl (bU (zq4 B.ls X7 b7 hB.wR hB.few) (aY (oF rfl o7 rfl) rfl)) rfl o7 u8
  (cB (bU ro rfl) (cB (bU to (aY ?_ rfl)) (zle (d:=.loc TJ.length) (st1:=TJ++[.lst ((B.ss.map (iu B)).map enc)]) ?_ rfl (dC (dC (dC o8))) 0x1))))))))))) rfl ?_
 ·have hf:=hB.few;rw[hs]at hf ⊢;have:1+signs.length<=1000000:=by simp at hf;omega
  exact add_str this
 ·rw[<-zpw];exact Ox (yU jN) (λenv=>env.length=1) (by have:=aaN [none,none,none,none,some (.loc X8.length)] [] rfl;rwa[gw]at this) rfl 0x9 (λys=>wu (g9 _)) (λd hd cC ys hP=>by
   obtain⟨t,ht,rfl⟩:=gh.mp hd;obtain⟨x,rfl⟩:=mq.mp hP;refine⟨[some (enc t)],rfl,rfl,?_⟩;rw[zk3];exact bU (zq6 t _ (b9.app 0x1)) rfl)
 ·rw[<-est,<-zpw λt=>hold [t,jH B]];exact Ox (yU λt=>hold [t,jH B]) (λenv=>∃x,env=[some (enc (jH B)),x]) (aaN _ _ rfl) ⟨_,rfl⟩ 0x9 (λys=>wu (dC (g9 _))) (λd hd cC ys hP=>by
   obtain⟨t,ht,rfl⟩:=gh.mp hd;obtain⟨x,rfl⟩:=hP;refine⟨[some (enc (jH B)),some (enc t)],⟨_,rfl⟩,rfl,?_⟩;rw[zk3];exact bU (zli t (jH B) _ (vR t ht) Zz) rfl)
 ·subst u11;exact RV
end Law
set_option maxHeartbeats 0
namespace Law
open L2 M Tr
theorem J9:∀ts:List Tr,uf ts=jg ts
 | []=>rfl
 | t::ts=>by rw[uf,jg,J9 ts]
def lM(z:Sd):D:=.tup [.int z.s,.str z.a.reverse,.str [z.c],.str z.b]
def sgD(B:Bk):D->D
 | .str [c]=>enc (dq B c)
 | d=>d
def Pq(B:Bk)(cs:List Nat):(cs.map λc=>D.str [c]).map (sgD B)=(cs.map (dq B)).map enc:=by rw[gJ,gJ];rfl
def K5(ss:List Nat)(s:Nat)(h:s∈ss):(ss.map λ(s:Nat)=>(s:Int)).findIdx? (λz=>decide (z=(s:Int)))=some (bW ss s):=by
 rw[List.findIdx?_map];have e:((λz=>decide (z=(s:Int)))∘λ(s:Nat)=>(s:Int))=λz:Nat=>decide (z=s):=by
  funext z;rw[mD];simp only[Function.comp,afm];omega
 rw[e,List.findIdx?_eq_some_of_exists ⟨s,h,by simp⟩]
 rfl
def Fv(ss:List Nat):intsOf (ss.map λs=>D.int (s:Nat))=some (ss.map λ(s:Nat)=>(s:Int)):=zgt ss
section
variable  {B:Bk}{b:Nat}{st:ak}
def zki(hk:jf st b B){s:Nat}(hs:s∈B.ss):∃ns,(∀m env,m env st=.ok (.loc b) st->cF "Book" "states" m env st=.ok (.loc ns) st)/\cX "list" (.loc ns) st=true/\oH (.loc ns) [.int s] st=.ok (.int (bW B.ss s:Nat)) st/\dj [.loc ns] st=.ok (.int (B.ss.length:Nat)) st:=by
 obtain⟨fs,ns,nk,nt,nm,ml,mr,nr,xu,h1,h2,h3,_⟩:=hk.ex;have it:aA st ns=some (B.ss.map λs=>D.int (s:Nat)):=by unfold aA;rw[h1.s]
 refine⟨ns,λm env hm=>oF hm h1.o h1.f2,by simp[cX,h1.s],?_,?_⟩
 ·unfold oH;simp only[it,Fv,K5 B.ss s hs]
 ·have:=Hq it;rwa[gj]at this
def zl7(hk:jf st b B){s:Nat}(hs:s∈B.ss):zdv [.loc b,.int s] st=.ok (enc (iu B s)) st:=by
 obtain⟨ns,f1,ty,li,_⟩:=zki hk hs;obtain⟨fs,_,nk,nt,nm,ml,mr,nr,xu,h1,h2,h3,_⟩:=hk.ex;have ix:aX (.loc xu) (.int (bW B.ss s:Nat)) st=.ok (enc (iu B s)) st:=by
  refine v8 _ _ _ ((B.ss.map (iu B)).map enc) _ (by unfold aA;rw[h3]) ?_;have g:((B.ss.map (iu B)).map enc)[bW B.ss s]? = some (enc (iu B s)):=by rw[gO,gO,Du hs];rfl
  exact Tp g
 exact aZ (eZ (aO (oF rfl h1.o h2) (uZ (f1 _ _ rfl) ty rfl li) ix)) rfl (fu (jE _ _))
def zl1(hB:zY B)(hb:Bs st)(hk:jf st b B)(mi:MI)(env:aK)(cs:List Nat)(h0:env[0]? = some (some (.loc b)))(hi:mi env st=.ok (cs.map λc=>D.str [c],[]) st)(hc:∀c∈cs,c∈B.ls)(hl:cs.length<=1000) :
  dG [some 0,none] mi (aM 1) lC (aF wj (cF "Book" "sign_trees" (vr 0)) (vr 1)) env st=.ok 0x3 (st++[.lst ((cs.map (dq B)).map enc)]):=by
 obtain⟨fs,ns,nk,nt,nm,ml,mr,nr,xu,h1,_⟩:=hk.ex;rw[<-Pq];exact Ox (sgD B) (λenv=>∃x,env=[some (.loc b),x]) hi ⟨none,by simp[oh,h0]⟩ 0x9 (λys=>by simp) (λd hd cC ys hP=>by
  obtain⟨c,Hg,rfl⟩:=gh.mp hd;obtain⟨x,rfl⟩:=hP;have hz:=h1.mono (Keeps.app st [.lst ys]);exact⟨[some (.loc b),some (.str [c])],⟨_,rfl⟩,rfl,aO (oF rfl hz.o hz.f4) rfl (Zg (wK B.ls) nt [c] (dq B c) _ (.inr hz.t) (Zm (hc c Hg)))⟩)
def zp4(cs:List Nat)(st:ak)(n:Nat)(h:st[n]? = some (.lst ((cs.map (dq B)).map enc))):ZS [.loc n] st=.ok (enc (iB B cs)) st:=by
 have:=zr6 (cs.map (dq B)) n st h (λt ht=>by
  obtain⟨c,_,rfl⟩:=gh.mp ht;exact zQ c)
 rw[<-J9]at this;exact this
def Jt(hB:zY B)(hb:Bs st)(hk:jf st b B)(z:Sd)(hz:GQ B z)(ha:z.a.length<=1000)(oR:z.b.length<=1000):zfr [.loc b,lM z] st=.ok (.tup [enc (iB B z.a),enc (dq B z.c),enc (iB B z.b)]) st:=by
 obtain⟨fs,ns,nk,nt,nm,ml,mr,nr,xu,h1,_⟩:=hk.ex
 let Z1:ak:=st++[.lst ((z.a.map (dq B)).map enc)]
 have zX:=hk.mono (Keeps.app st [.lst ((z.a.map (dq B)).map enc)]);have K_:Bs Z1:=hb.app 0x1;have al:z.b.all (λc=>decide (c<128))=true:=ye λx hx=>hB.wR x (hz.b x hx);have FN:=h1.mono ((Keeps.app st _).trans (Keeps.app Z1 [.lst ((z.b.map (dq B)).map enc)]));refine aZ (cB (bU (zp4 (B:=B) z.a Z1 st.length (by simp[Z1])) (aY (zl1 hB hb hk _ _ z.a rfl (Ij #[0,f9] 0x0) hz.a ha) rfl)) (cB (bU (zp4 (B:=B) z.b (Z1++[.lst ((z.b.map (dq B)).map enc)]) Z1.length 0x1) (aY (zl1 hB K_ zX _ _ z.b rfl (zso #[0,f9] al) hz.b oR) rfl)) (eZ (wz #[11,(aO (oF rfl FN.o FN.f4) #[0,f9] (Zg (wK B.ls) nt [z.c] (dq B z.c) _ (.inr FN.t) (Zm hz.c)))])))) rfl ?_;rw[gW];exact qU (by simp[jE])
def zm2(hB:zY B)(hb:Bs st)(hk:jf st b B)(z:Sd)(hz:GQ B z)(ha:z.a.length<=1000)(oR:z.b.length<=1000):zd0 [.loc b,lM z] st=.ok (enc (iT B z)) st:=by
 exact aZ (cB (bU (Jt hB hb hk z hz ha oR) rfl) (eZ (bU (xK (iu B z.s) (hold [iB B z.a,dq B z.c,iB B z.b]) st) (aY (bU (zl7 hk hz.s) #[11,#[0,f9]]) (aY (bU (zrq (iB B z.a) (dq B z.c) (iB B z.b) st (Ds _) (zQ _) (Ds _)) (aY #[0,f9] (aY #[0,f9] (aY #[0,f9] rfl)))) rfl))))) rfl (fu (jE _ (iT B z)))
end
end Law
namespace M
namespace Tr
def dD(c:List Nat):Tr->Bool
 | .jn (.lf s) _=>decide (s=c)
 | _=>false
def cntK:Tr->Nat
 | .jn (.lf s) r=>if s=[75] then cntK r+1 else 0
 | _=>0
def ZR(c s:List Nat)(r:Tr):dD c (.jn (.lf s) r)=decide (s=c):=by rw[dD]
def zdw(c:List Nat)(a b r:Tr):dD c (.jn (.jn a b) r)=false:=by rw[dD];intro s r' h;cases h
def zem(c s:List Nat):dD c (.lf s)=false:=by rw[dD];intro s r' h;cases h
def zl6{t:Tr}(h:dD [75] t=false):cntK t=0:=by
 cases t with
 | lf s=>rw[cntK];intro s r h;cases h
 | jn l r =>
  cases l with
  | lf s=>rw[ZR]at h;rw[cntK,ae8 (by simpa using h)]
  | jn a b=>rw[cntK];intro s r h;cases h
def Mt(r:Tr):cntK (.jn tK r)=cntK r+1:=by rw[cntK,ae7 rfl]
theorem zp6(v:Tr):∀n,cntK (di n v)=n+cntK v
 | 0=>by simp[di]
 | n+1=>by rw[di,Mt,zp6 v n];omega
def Ms(m:Nat):cntK (wg m)=0:=by
 match m with
 | 0=>exact zl6 rfl
 | 1=>exact zl6 rfl
 | m+2=>exact zl6 rfl
def zew(k many:Nat):cntK (bL k many)=k:=by rw[bL,zp6,Ms];omega
def Mg(k many:Nat)(h:k<many):dp (bL k many)<=many+2:=by
 rw[bL,zoz];have:=yr (many - 1 - k);omega
end Tr
end M
namespace Law
open L2 M Tr
def zbn(c:List Nat)(t:Tr)(st:ak):O1 [.str c,enc t] st=.ok (.bl (dD c t)) st:=by
 unfold O1 bC bB zes;cases t with
 | lf s=>rw[zem,show enc (.lf s)=.str s from rfl];simp[startM,lq,fu]
 | jn l r =>
  have is1:=ztt 0x2;have x0:aX (enc 0x2) (.int 0) st=.ok (enc l) st:=by rw[enc];exact Bf st 0 _ _ rfl
  have q1:ig 800 (enc l) (.str c) st=.ok (.bl (dD c 0x2)) st:=by
   have:=T7 799 l c st;cases l with
   | lf s=>rw[this,ZR]
   | jn a b=>rw[this,zdw]
  exists enc 0x2,J,enc l,L;simp[startM,is1,x0,q1,fu]
open Classical in
noncomputable def uW(t:Tr)(many:Nat):D:=if cntK t<many/\t=bL (cntK t) many then .int (cntK t:Nat) else .non
open Classical in
def Et(t:Tr)(many:Nat)(st:ak)(ht:st[1]? = some (.tab "out_and_cost"))(hc:bF st)(hm:many<=300000)(hd:dp t<800):T9 [enc t,.int many] st=.ok (uW t many) st:=by
 unfold T9 bC bB zm1;generalize hC:(jP (az O1 [] #[5,#[1,[75]],(vr 3)]):MT)=C;generalize hB:(aC (aJ 2 #[8,bj,(vr 2)]) _:MS)=B
 let E:Nat->Tr->aK:=λk r=>[some (enc t),some (.int many),some (.int k),some (enc r)]
 have loop:∀(r:Tr) (k:Nat),∃r',bf C B (E k r) st=.ok (.nx (E (k+cntK r) r')) st:=by
  intro r
  induction r with
  | lf s =>
   intro k;have c1:C (E k (.lf s)) st=.ok false st:=by
    have h:=zbn [75] (.lf s) st;rw[zem]at h;rw[<-hC];simp only[E];exists enc (.lf s),L;simp[h,jG]
   exact⟨.lf s,by rw[xm,c1,zl6 (zem _ _)];simp⟩
  | jn l r _ ih =>
   intro k;have h:=zbn [75] 0x2 st;by_cases hf:dD [75] 0x2=true
   ·rw[hf]at h;have el:l=Tr.tK:=by
     cases l with
     | lf s=>rw[ZR]at hf;rw[afh hf]
     | jn a b=>rw[zdw]at hf;cases hf
    subst el;have x1:aX (enc (.jn tK r)) (.int 1) st=.ok (enc r) st:=by rw[enc];exact Bf st 1 _ _ rfl
    have c1:C (E k (.jn tK r)) st=.ok true st:=by
     rw[<-hC];simp only[E];exists enc (.jn tK r),L;simp[h,jG]
    have b1:B (E k (.jn tK r)) st=.ok (.nx (E (k+1) r)) st:=by
     rw[<-hB];simp only[E];exists enc (.jn tK r),L;simp[x1]
    obtain⟨r',e⟩:=ih (k+1);refine⟨r',?_⟩;rw[xm,c1,R.aB,ae7 rfl,b1,R.aB];dsimp only;rw[e,Mt,show k+1+cntK r=k+(cntK r+1) by omega]
   ·have hf':dD [75] 0x2=false:=by simpa using hf
    rw[hf']at h;have c1:C (E k 0x2) st=.ok false st:=by
     rw[<-hC];simp only[E];exists enc 0x2,L;simp[h,jG]
    exact⟨.jn l r,by rw[xm,c1,zl6 hf'];simp⟩
 obtain⟨r',e⟩:=loop t 0;rw[mZ]at e;simp only[E]at e;rw[show startM 4 [enc t,D.int many]=[some (enc t),some (.int many),none,none] from rfl];unfold uW;by_cases h1:cntK t<many
 ·have p1:=zph (cntK t) many st ht hc h1 hm;have q1:=zos t (bL (cntK t) many) st hd;have h1':(cntK t:Int)<(many:Int):=by omega
  by_cases h2:t=bL (cntK t) many
  ·rw[ae7 ⟨h1,h2⟩];rw[afb h2]at q1;exists enc (bL (cntK t) many),W;show 21;simp[e,h1',p1,q1,fu]
  ·rw[ae8 (λh=>h2 h.2)];rw[ae_ h2]at q1;exists enc (bL (cntK t) many),W;show 21;simp[e,h1',p1,q1,fu]
 ·rw[ae8 (λh=>h1 h.1)];have h1':¬ (cntK t:Int)<(many:Int):=by omega
  show 21;simp[e,h1',fu]
def FZ(c:List Nat)(r:Tr)(st:ak):O1 [.str c,enc (.jn (.lf c) r)] st=.ok (.bl true) st:=by
 have:=zbn c (.jn (.lf c) r) st;rwa[ZR,afb rfl]at this
def zmv(n:Nat)(ts:List Tr):b_ n (ts.map enc):=by
 induction ts with
 | nil=>simp
 | cons t ts ih=>simp[ih,jE]
end Law
namespace M
namespace Tr
def iU(t:Tr):Option (Tr×Tr):=match t with
 | .jn (.jn (.lf s) u) (.jn (.lf k) a)=>if s=[83]/\k=[75] then some (a,u) else none
 | _=>none
def znb{t a u:Tr}(h:iU t=some (a,u)):t=.jn (.jn tS u) (.jn tK a):=by
 unfold iU at h
 split at h
 ·split at h
  ·rename_i c;obtain⟨rfl,rfl⟩:=c;cases h;rfl
  ·cases h
 ·cases h
def tV:Nat->Tr->Option (List Tr×Tr)
 | 0,t=>some ([],t)
 | k+1,t=>match iU t with
  | none=>none
  | some (a,u)=>match tV k u with
   | none=>none
   | some (ws,c)=>some (a::ws,c)
theorem zp3:∀{k:Nat} {t c:Tr} {ws:List Tr},tV k t=some (ws,c)->ws.length=k/\(c=tI->t=hold ws.reverse)
 | 0,t,c,ws,h=>by
  cases h;exact⟨rfl,λe=>e⟩
 | k+1,t,c,ws,h=>by
  rw[tV]at h;cases e:iU t with
  | none=>rw[e]at h;cases h
  | some p =>
   obtain⟨a,u⟩:=p;rw[e]at h;dsimp only at h;cases q:tV k u with
   | none=>rw[q]at h;cases h
   | some x =>
    rw[q]at h;cases h;obtain⟨i1,i2⟩:=zp3 q;exact⟨congrArg (· + 1) i1,λe2=>by rw[znb e,i2 e2,mV,Vn]⟩
theorem zpd:∀ts:List Tr,tV ts.length (hold ts.reverse)=some (ts,tI)
 | []=>rfl
 | t::ts=>by
  rw[mV,Vn,gC,tV,show iU (.jn (.jn tS (hold ts.reverse)) (.jn tK t))=some (t,hold ts.reverse) by simp[iU]];dsimp only;rw[zpd ts]
end Tr
end M
namespace Law
open L2 M Tr
def Tv{a b:ME}{env:aK}{st st1:ak}(h:a env st=.ok (.bl false) st1):uU a b env st=.ok (.bl false) st1:=by simp[h]
def QL{a b:MT}{env:aK}{st st1:ak}(h:a env st=.ok true st1):Ex a b env st=.ok true st1:=by simp[h]
def zq0(t:Tr)(st:ak):zbt [enc t] st=.ok (.bl (iU t).isSome) st:=by
 cases t with
 | lf s =>
  unfold zbt bC bB zeg;rw[show enc (.lf s)=.str s from rfl];simp[startM,lq,iU,fu]
 | jn l r =>
  have e:(iU 0x2).isSome=(dD [83] l && dD [75] r):=by
   cases l with
   | lf s=>rw[zem];simp[iU]
   | jn c d =>
    cases c with
    | jn c1 c2=>rw[zdw];simp[iU]
    | lf s =>
     cases r with
     | lf k=>rw[zem];simp[iU]
     | jn p q =>
      cases p with
      | jn p1 p2=>rw[zdw];simp[iU]
      | lf k =>
       rw[ZR,ZR];simp only[iU];by_cases h1:s=[83]<;>by_cases h2:k=[75]<;>simp[h1,h2]
  have f1:=zbn [83] l st;have f2:=zbn [75] r st;rw[e];cases h:dD [83] l with
  | false =>
   rw[h]at f1;exact aZ (eZ (Zn (BX (zO rfl (Hk _ _ _))) (Tv (bU f1 #[11,#[0,(uX _ _ _)]])))) rfl (fu 0x1)
  | true =>
   rw[h]at f1;exact aZ (eZ (Zn (BX (zO rfl (Hk _ _ _))) (Zn (bU f1 #[11,#[0,(uX _ _ _)]]) (bU f2 #[11,#[0,(xH _ _ _)]])))) rfl (fu 0x1)
open Classical in
def R5(t u:Tr)(st:ak)(hc:dJ (enc t) (enc u)<800):j5 800 (enc t) (enc u) st=some (decide (t=u)):=by
 have h1:=zis t;have h2:=zis u;rw[<-zpk t u];cases t<;>cases u<;>(rw[enc,enc]at *;simp only[j5];rw[ae7 ⟨h1,h2,hc⟩])
open Classical in
def LQ(t:Tr)(st:ak):∃k,M.yR 800 (enc t) (enc tI) st=.ok (.bl k) st/\(k=false↔t=tI) :=
 ⟨!decide (t=tI),by
  unfold M.yR;rw[R5 t tI st (by
   cases t with
   | lf s=>simp[enc]
   | jn l r=>cases l<;>simp[enc])],by simp⟩
def zoo(t:Tr)(n:Nat)(st:ak)(hl:n<=100) :
  (∀ws,tV n t=some (ws,tI)->val t=true->Om [enc t,.int n] st=.ok 0x3 (st++[.lst (ws.reverse.map enc)]))/\((∀ws,tV n t=some (ws,tI)->val t=false)->Om [enc t,.int n] st=.ok .non st):=by
 unfold Om bC bB zss;generalize hC:(d7 (aF ltV _ _):MT)=C;generalize hW:(aC (fJ (tW _) _ _) _:MS)=W
 let E:Tr->aK:=λr=>[some (enc t),some (.int n),some 0x3,some (enc r)]
 let Z:List Tr->ak:=λvs=>st++[.lst (vs.map enc)]
 have cv:∀r vs,C (E r) (Z vs)=.ok (decide (vs.length<n)) (Z vs):=λr vs=>by
  have le:=Hq (st:=Z vs) (n:=st.length) (ds:=vs.map enc) (by simp[aA,Z]);rw[gj]at le;rw[<-hC];refine dW (aO (sW le rfl) rfl ?_);simp
 have lp:∀(k:Nat) (r:Tr) (vs:List Tr),vs.length+k=n->(∀ws c,tV k r=some (ws,c)->bf C W (E r) (Z vs)=.ok (.nx (E c)) (Z (vs++ws)))/\(tV k r=none->∃NP,bf C W (E r) (Z vs)=.ok (.rt .non) (Z NP)):=by
  intro k
  induction k with
  | zero =>
   intro r vs h;refine⟨λws c e=>?_,λe=>by cases e⟩;cases e;rw[xm,cv,R.aB,ae_ 0x0,gw]
   rfl
  | succ k ih =>
   intro r vs h;have hf:=zq0 r (Z vs);rw[xm,cv,R.aB,afb 0x0,ae7 rfl,tV];cases e:iU r with
   | none =>
    rw[e]at hf;refine⟨λws c q=>by (cases q),λ_=>⟨vs,?_⟩⟩;rw[show W (E r) (Z vs)=.ok (.rt .non) (Z vs) by rw[<-hW];exact v7 (qQ (yF (qu (bU hf rfl) rfl)) (eZ rfl))];rfl
   | some p =>
    obtain⟨a,u⟩:=p;rw[e]at hf;have ap:aW 0x3 [enc a] (Z vs)=.ok .non (Z (vs++[a])):=by
     have g:(Z vs)[st.length]? = some (.lst (vs.map enc)):=by simp[Z]
     unfold aW;simp only[g];rw[ae7 0x9];simp[Z]
    have w:W (E r) (Z vs)=.ok (.nx (E u)) (Z (vs++[a])):=by
     have er:=znb e;subst er;rw[<-hW];exact sZ (yF (qu (bU hf rfl) rfl)) ((uc (yJ (uZ rfl (by simp[cX,Z]) (aY (aO #[0,(xH _ _ _)] rfl (xH _ _ _)) rfl) ap))).trans (GX (aO #[0,(uX _ _ _)] rfl (xH _ _ _))))
    rw[w,R.aB];obtain⟨i1,i2⟩:=ih u (vs++[a]) 0x9;dsimp only;cases q:tV k u with
    | none=>exact⟨λws c q=>by (cases q),λ_=>i2 q⟩
    | some x =>
     refine⟨λws c q2=>?_,λq2=>by cases q2⟩;cases q2;have:=i1 _ _ q;rw[gW]at this;exact this
 obtain⟨l1,l2⟩:=lp n t [] 0x1;have iv:=λS=>zdm t S;refine⟨λws h hv=>?_,λh=>?_⟩
 ·have l0:=l1 ws tI h;rw[m8]at l0;have iv:=iv (Z ws);rw[hv]at iv;obtain⟨k,ne,hk⟩:=LQ tI (Z ws);rw[hk.mpr rfl]at ne;have rv:dM 0x3 [] (Z ws)=.ok .non (Z ws.reverse):=by
   have g:(Z ws)[st.length]? = some (.lst (ws.map enc)):=by simp[Z]
   unfold dM;simp only[g];simp[Z]
  exact aZ (cB rfl (cB rfl ((uc l0).trans (sZ (Og (dW #[0,ne]) (yF (qu (bU iv rfl) rfl))) ((uc (yJ (Vj rfl (by simp[cX,Z]) rv))).trans (eZ rfl)))))) rfl (Vf (zmv _ ws.reverse))
 ·cases q:tV n t with
  | none =>
   obtain⟨NP,l0⟩:=l2 q;exact aZ (cB rfl (cB rfl (v7 l0))) rfl (qU 0x1)
  | some x =>
   obtain⟨ws,c⟩:=x;have l0:=l1 ws c q;rw[m8]at l0;obtain⟨k,ne,hk⟩:=LQ c (Z ws);refine aZ (st1:=Z ws) (cB rfl (cB rfl ((uc l0).trans (v7 (qQ ?_ (eZ rfl)))))) rfl (qU 0x1);cases k with
   | true=>exact QL (dW #[0,ne])
   | false =>
    have e:=hk.mp rfl;subst e;have iv:=iv (Z ws);rw[h ws q]at iv;exact Og (dW #[0,ne]) (yF (qu (bU iv rfl) rfl))
def zk9(ts:List Tr)(st:ak)(hv:∀t∈ts,val t=true)(hl:ts.length<=100):Om [enc (hold ts),.int ts.length] st=.ok 0x3 (st++[.lst (ts.map enc)]):=by
 have q:=zpd ts.reverse;rw[List.reverse_reverse,pJ]at q;have:=(zoo (hold ts) ts.length st hl).1 _ q (Dv hv);rwa[List.reverse_reverse]at this
def W7(l r:Tr)(s:List Nat)(st:ak):M.yR 800 (enc 0x2) (.str s) st=.ok (.bl true) st:=vy (T7 799 0x2 s st)
def zqw(ts:List Tr)(st:ak)(hv:∀t∈ts,val t=true)(hl:ts.length<=900):zdd [enc (uf ts)] st=.ok 0x3 (st++[.lst (ts.map enc)]):=by
 unfold zdd bC bB zhg;generalize hC:(d7 (aF (M.yR 800) _ _):MT)=C;generalize hW:(aC (aJ 3 (Hd _ _ _)) _:MS)=W
 let E:Tr->Option D->aK:=λt a=>[some (enc (uf ts)),some 0x3,some (enc t),a]
 let Z:List Tr->ak->ak:=λvs G=>st++.lst (vs.map enc)::G
 have vl:∀us:List Tr,(∀t∈us,val t=true)->val (uf us)=true:=λus h=>by
  induction us with
  | nil=>rfl
  | cons t us ih=>rw[uf,eU,Dv];intro x hx;simp at hx;rcases hx with rfl | rfl;exact h _ 0x1;exact ih λy hy=>h y (by simp[hy])
 have lp:∀(us vs:List Tr) (a:Option D) (G:ak),(∀t∈us,val t=true)->us.length+vs.length<=900->∃a' G',bf C W (E (uf us) a) (Z vs G)=.ok (.nx (E tK a')) (Z (vs++us) G'):=by
  intro us
  induction us with
  | nil =>
   intro vs a G _ _;refine⟨a,G,?_⟩;rw[xm,show C (E (uf []) a) (Z vs G)=.ok false (Z vs G) by rw[<-hC];exact dW #[0,(by rw[uf];rfl)],R.aB,gw]
   rfl
  | cons t us ih =>
   intro vs a G hu hn;have hus:∀x∈us,val x=true:=λx hx=>hu x (by simp[hx]);simp only[gC]at hn
   let H:MO:=.lst ([t,uf us].map enc)
   let m:Nat:=(Z vs G).length
   have hh:=zk9 [t,uf us] (Z vs G) (λx hx=>by simp at hx;rcases hx with rfl | rfl;exact hu _ 0x1;exact vl us hus) 0x1;have g:(Z vs (G++[H]))[st.length]? = some (.lst (vs.map enc)):=oX (k:=0) rfl;have ez:∀vs,Z vs G++[H]=Z vs (G++[H]):=λvs=>by simp[Z]
   rw[show Z vs G++[.lst ([t,uf us].map enc)]=Z vs (G++[H]) from ez vs]at hh;have im:∀NP,NP.length=NP.length->aA (Z NP (G++[H])) m=some [enc t,enc (uf us)]:=λNP _=>by
    have:(Z NP (G++[H]))[m]? = some H:=by
     rw[<-ez NP,show m=(Z NP G).length by simp[m,Z]];simp
    unfold aA;rw[this];rfl
   have ap:aW 0x3 [enc t] (Z vs (G++[H]))=.ok .non (Z (vs++[t]) (G++[H])):=by
    unfold aW;simp only[g];rw[ae7 0x9];simp[Z]
   have w:W (E (uf (t::us)) a) (Z vs G)=.ok (.nx (E (uf us) (some (.loc m)))) (Z (vs++[t]) (G++[H])):=by
    rw[uf,<-hW];exact cB (T3 (qu (bU (FZ [75] _ _) rfl) rfl) (bU hh (aY #[0,(xH _ _ _)] rfl))) (sZ (dW #[0,rfl]) ((uc (yJ (uZ rfl (by simp[cX,g]) (aY #[0,(v8 _ _ _ _ _ (im vs rfl) rfl)] rfl) ap))).trans (GX #[0,(v8 _ _ _ _ _ (im (vs++[t]) rfl) rfl)])))
   obtain⟨a',G',h⟩:=ih (vs++[t]) (some (.loc m)) (G++[H]) hus 0x9;refine⟨a',G',?_⟩;rw[xm,show C (E (uf (t::us)) a) (Z vs G)=.ok true (Z vs G) by rw[<-hC];exact dW #[0,(by rw[uf];exact W7 _ _ _ _)],R.aB,ae7 rfl,w,R.aB];rw[gW]at h;exact h
 obtain⟨a',G',h⟩:=lp ts [] none [] hv 0x9;have gg:=ztl (st:=st) (g:=[]) (g':=G') (o:=.lst (ts.map enc)) (zmv _ ts);rw[gw]at gg;exact aZ (cB rfl (cB rfl ((uc h).trans (eZ rfl)))) rfl gg
end Law
set_option maxHeartbeats 0
namespace Law
open L2 M Tr
section
variable  {B:Bk}{b:Nat}{st:ak}
def zoa(hB:zY B)(hb:Bs st)(hk:jf st b B)(z:Sd)(hz:GQ B z)(ha:z.a.length<=1000)(oR:z.b.length<=1000):zet [.loc b,lM z] st=.ok (.int (bM B z:Nat)) st:=by
 have hl:=hB.few;obtain⟨fs,ns,nk,nt,nm,ml,mr,nr,xu,h1,_⟩:=hk.ex;have si:rG (.str B.ls) [.str [z.c]] st=.ok (.int (bW B.ls z.c:Nat)) st:=by
  unfold rG;dsimp only;rw[List.findIdx?_eq_some_of_exists ⟨z.c,hz.c,by simp⟩]
  rfl
 have le:dj [.str B.ls] st=.ok (.int (B.ls.length:Nat)) st:=zgl _ B.ls 0x0;have pc:=zjh (bW B.ls z.c) B.ls.length st hb (Hm hz.c) 0x0;have gk:=Cm B nk z.s z.c st h1.k;have ty:cX "dict" (.loc nk) st=true:=by simp[cX,h1.k]
 let P:Nat:=qF B.ls+cg (bW B.ls z.c) B.ls.length
 have body:zg3 (startM 7 [.loc b,lM z]) st=.ok (.rt (.int (bM B z:Nat))) st:=by
  refine cB (aO (oF rfl h1.o h1.f6) (bU pc (aY (uZ (oF rfl h1.o h1.f1) rfl (aY #[0,f9] rfl) si) (aY (sW le (aY (oF rfl h1.o h1.f1) rfl)) rfl))) (Nk (c:=P) rfl)) (cB (uZ (oF rfl h1.o h1.f3) ty (aY (wz (aY #[0,f9] (aY #[0,f9] rfl))) rfl) gk) ?_);cases hf:Gd B z.s z.c with
  | none =>
   refine (v7 (qQ (dW #[0,rfl]) (eZ (aO rfl (bU (zqs st hb) rfl) (Nk (c:=bM B z) ?_)))));unfold bM;rw[hf]
  | some r =>
   have hr:=hB.ok.ru r (pA hf);obtain⟨mo,⟨w,W,o1,_,_⟩,ixm⟩:=h1.mv r.m;obtain⟨ns',g2,ty2,li,lw⟩:=zki hk hr.1;have wc:=zqt (bW B.ss r.g) B.ss.length st hb (Hm hr.1) (by have:=hB.ss;omega)
   let SDE:List Nat:=if r.m=true then z.a.reverse else z.b
   let MV:Nat:=iQ r.m+(if (if r.m=true then z.a else z.b)=[] then qp r.m else lW r.m)
   have hq:decide (SDE=[])=decide ((if r.m=true then z.a else z.b)=[]):=by simp only[SDE];by_cases h:r.m=true<;>simp[h]
   dsimp only;rw[Oe];refine sZ (dW #[0,rfl]) (cB (aO (oF rfl h1.o h1.f5) #[0,f9] ixm) (cB (d:=.str SDE) (st1:=st) (T3 (dW (aO #[0,f9] rfl eq_str)) ?_) (cB (d:=.int MV) (st1:=st) (T3 (dW #[0,eq_str]) ?_)
    (eZ (aO #[0,(Nk rfl)] (bU wc (aY (uZ (g2 _ _ rfl) ty2 (aY #[0,f9] rfl) li) (aY (sW lw (aY (g2 _ _ rfl) rfl)) rfl))) (Nk ?_))))))
   ·simp only[SDE];cases r.m<;>rfl
   ·rw[hq];by_cases e:(if r.m=true then z.a else z.b)=[]
    ·rw[afb e];simp only[MV];rw[ae7 e];exact oF rfl o1 rfl
    ·rw[ae_ e];simp only[MV];rw[ae8 e];exact oF rfl o1 rfl
   ·unfold bM;rw[hf];show P+MV+yK B r.g=P+(MV+yK B r.g);omega
 exact aZ body rfl (fu 0x1)
end
open Classical in
noncomputable def liftT(g:Tr->D):D->D:=λd=>if h:∃t,enc t=d then g h.choose else d
def zov(g:Tr->D)(t:Tr):liftT g (enc t)=g t:=by
 have hx:∃u,enc u=enc t:=⟨t,rfl⟩;unfold liftT;rw[dif_pos hx,zo6 hx.choose_spec]
def zg1{k n:Nat}(h:k<n)(st:ak)(hb:Bs st)(hn:n<=700):T9 [enc (bL k n),.int n] st=.ok (.int k) st:=by
 have e:uW (bL k n) n=.int k:=by
  unfold uW;rw[zew,ae7 ⟨h,rfl⟩]
 have:=Et (bL k n) n st hb.t1 hb.c 0x0 (by have:=Mg k n h;omega);rwa[e]at this
def RK(xs:List Nat)(n:Nat)(st:ak)(h:aA st n=some (aG xs)):wW 800 false .non (.loc n) st=.ok (.bl false) st:=by
 have f1:dF (aG xs)=true:=by
  clear h;unfold aG
  induction xs with
  | nil=>rfl
  | cons c cs ih=>simpa using ih
 have f2:((aG xs).all λe=>decide (dJ e .non<800))=true:=by
  unfold aG;rw[List.all_map,List.all_eq_true];intro c _;simp[dJ]
 have f3:((aG xs).any λe=>jm e .non)=false:=by
  unfold aG;rw[List.any_map,List.any_eq_false];intro c _;simp[jm]
 unfold wW;simp only[h,f1,f2,f3];rw[ae7 ⟨by simp,trivial,trivial⟩];rfl
def zsg{m:ME}{env:aK}{st:ak}{n:Nat}{ds:List D}(hm:m env st=.ok (.loc n) st)(h:st[n]? = some (.lst ds)):fB m env st=.ok (ds,[(n,.lst ds)]) st:=by
 rw[ztp,hm];simp only[R.aB,h]
def len_str(cs:List Nat)(s:ak)(h:cs.length<=1000000):dj [.str cs] s=.ok (.int cs.length) s:=zgl _ cs h
def ltD(ls:List Nat):D->D
 | .int i=>.str [ls.getD i.toNat 0]
 | d=>d
section
variable  {B:Bk}{b:Nat}{st:ak}
def zhd(hB:zY B)(hb:Bs st)(hk:jf st b B)(cs:List Nat)(hc:∀c∈cs,c∈B.ls)(hl:cs.length<=900):zcv [.loc b,enc (iB B cs)] st=.ok 0x3 (st++[.lst (cs.map λc=>D.str [c])]):=by
 obtain⟨fs,ns,nk,nt,nm,ml,mr,nr,xu,h1,_⟩:=hk.ex;have y_:=hB.few
 let L1:MO:=.lst ((cs.map (dq B)).map enc)
 let L2:MO:=.lst (aG (cs.map (bW B.ls)))
 let L3:MO:=.lst (cs.map λc=>D.str [c])
 have th:=zqw (cs.map (dq B)) st (λt ht=>by
  obtain⟨c,_,rfl⟩:=gh.mp ht;exact zQ c) (by simpa using hl)
 have c1:dG [some 0,none] (fB (vr 2)) (aM 1) lC (az T9 [] #[3,1,(bD dj (aj 0x12 au))]) [some (.loc b),some (enc (iB B cs)),some 0x3,none] (st++[L1])=.ok (.loc (st++[L1]).length) (st++[L1]++[L2]):=by
  have e2:((cs.map (dq B)).map enc).map (liftT λt=>.int (cntK t:Nat))=aG (cs.map (bW B.ls)):=by
   unfold aG;rw[gJ,gJ,gJ];refine kI λc _=>?_;simp only[Function.comp,zov];unfold dq;rw[zew]
  show _=R.ok _ (st++[L1]++[.lst (aG (cs.map (bW B.ls)))]);rw[<-e2];exact Ox (liftT λt=>.int (cntK t:Nat)) (λenv=>∃x,env=[some (.loc b),x]) (zsg rfl (oX (k:=0) rfl)) ⟨_,rfl⟩ 0x9 (λys=>wu (dC (oX (k:=0) rfl))) (λd hd cC ys hP=>by
   obtain⟨t,ht,rfl⟩:=gh.mp hd;obtain⟨c,Hg,rfl⟩:=gh.mp ht;obtain⟨x,rfl⟩:=hP;have hz:=h1.mono ((Keeps.app st [L1]).trans (Keeps.app (st++[L1]) [.lst ys]));have bz:Bs (st++[L1]++[.lst ys]):=(hb.app (by simp[L1])).app 0x1;refine⟨[some (.loc b),some (enc (dq B c))],⟨_,rfl⟩,rfl,?_⟩;rw[zov];unfold dq;rw[zew];exact bU (zg1 (Hm (hc c Hg)) _ bz 0x0) #[11,(sW (len_str B.ls _ 0x0) (aY (oF rfl hz.o hz.f1) rfl))])
 have c2:dG [some 0,none] (fB (vr 3)) (aM 1) lC (aF aX 0x12 (vr 1)) [some (.loc b),some (enc (iB B cs)),some 0x3,some (.loc (st++[L1]).length)] (st++[L1]++[L2])=.ok (.loc (st++[L1]++[L2]).length) (st++[L1]++[L2]++[L3]):=by
  have e3:(aG (cs.map (bW B.ls))).map (ltD B.ls)=cs.map λc=>D.str [c]:=by
   unfold aG;rw[gJ,gJ];refine kI λc Hg=>?_;show D.str [B.ls.getD _ 0]=_;rw[pH,qe,Du (hc c Hg)];rfl
  show _=R.ok _ (st++[L1]++[L2]++[.lst (cs.map λc=>D.str [c])]);rw[<-e3];exact Ox (ltD B.ls) (λenv=>∃x,env=[some (.loc b),x]) (zsg rfl (oX (k:=0) rfl)) ⟨_,rfl⟩ (by simp[aG];omega) (λys=>wu (dC (oX (k:=0) rfl))) (λd hd cC ys hP=>by
   unfold aG at hd;obtain⟨i,hi,rfl⟩:=gh.mp hd;obtain⟨c,Hg,rfl⟩:=gh.mp hi;obtain⟨x,rfl⟩:=hP;have hz:=h1.mono (((Keeps.app st [L1]).trans (Keeps.app (st++[L1]) [L2])).trans (Keeps.app (st++[L1]++[L2]) [.lst ys]));refine⟨[some (.loc b),some (.int (bW B.ls c:Nat))],⟨_,rfl⟩,rfl,aO (oF rfl hz.o hz.f1) rfl ?_⟩;show _=R.ok (D.str [B.ls.getD _ 0]) _;unfold aX;dsimp only;rw[ae7 0x0,Ou,pH,qe,Du (hc c Hg)];rfl)
 have gg:=ztl (st:=st) (g:=[L1,L2]) (g':=[]) (o:=L3) (by
  show b_ _ _;clear hl hc th c1 c2
  induction cs with
  | nil=>simp
  | cons c cs ih=>simpa using ih)
 have es:st++[L1]++[L2]++[L3]=st++[L1,L2]++L3::[]:=by simp
 have el:(st++[L1]++[L2]).length=st.length+[L1,L2].length:=by simp
 rw[<-es,<-el]at gg;exact aZ (cB (bU th rfl) (sZ (dW #[0,rfl]) (cB c1 (sZ (dW #[0,(RK _ _ _ (by unfold aA;rw[oX (k:=0) rfl]))]) (eZ c2))))) rfl gg
end
theorem zqf:∀cs:List Nat,qj [] (cs.map λc=>[c])=cs
 | []=>rfl
 | [c]=>rfl
 | c::d::r=>by
  have:=zqf (d::r);show [c]++[]++qj [] (([d])::r.map λc=>[c])=_;rw[show ([d]::r.map λc=>[c])=(d::r).map λc=>[c] from rfl,this];rfl
def Cq{st:ak}{n:Nat}{cs:List Nat}(h:st[n]? = some (.lst (cs.map λc=>D.str [c])))(hl:cs.length<=1000):rP (.str []) [.loc n] st=.ok (.str cs) st:=by
 have:=Iz (st:=st) [] n (cs.map λc=>[c]) (by unfold aA;rw[h,gJ];rfl) (by
  rw[gJ];have:((cs.map (List.length∘λc=>[c])).sum)=cs.length:=by
   clear h hl
   induction cs with
   | nil=>rfl
   | cons c cs ih=>rw[gq,p7,ih,gC];show 1+_=_;omega
  rw[this];simp;omega)
 rwa[zqf]at this
section
variable  {B:Bk}{b:Nat}{st:ak}
def zg7(hB:zY B)(hb:Bs st)(hk:jf st b B)(z:Sd)(hz:GQ B z)(ha:z.a.length<=900)(oR:z.b.length<=900)(p:Nat)(hp:st[p]? = some (.lst [enc (iB B z.a),enc (dq B z.c),enc (iB B z.b)])) :
  ZZ [.loc b,.int (bW B.ss z.s:Nat),.loc p] st=.ok (lM z) st:=by
 have y_:=hB.few
 let A:MO:=.lst (z.a.map λc=>D.str [c])
 let R:MO:=.lst (z.b.map λc=>D.str [c])
 let A':MO:=.lst (z.a.reverse.map λc=>D.str [c])
 have kA:=Keeps.app st [A];have kR:=(Keeps.app st [A]).trans (Keeps.app (st++[A]) [R]);have k3:=(Keeps.app st [A']).trans (Keeps.app (st++[A']) [R]);obtain⟨fs,ns,nk,nt,nm,ml,mr,nr,xu,h1,_⟩:=hk.ex;have hA:=h1.mono kA;have h3:=h1.mono k3;have s1:=zhd hB hb hk z.a hz.a ha;have s2:=zhd hB (hb.app (g:=[A]) (by simp[A])) (hk.mono kA) z.b hz.b oR;have pk:=zg1 (Hm hz.c) (st++[A]) (hb.app (by simp[A])) 0x0;have ix:∀{g:ak} (k:Int) (d:D),qJ [enc (iB B z.a),enc (dq B z.c),enc (iB B z.b)] k=some d->aX (.loc p) (.int k) (st++g)=.ok d (st++g):=λk d h=>v8 _ _ _ _ _ (by unfold aA;rw[dC hp]) h;have rv:dM 0x3 [] (st++[A]++[R])=.ok .non (st++[A']++[R]):=by
  have g:(st++[A]++[R])[st.length]? = some A:=dC (oX (k:=0) rfl);unfold dM;simp only[g,A];rw[ZK _ _ _ _ 0x1,Oq _ _ _ _ rfl,<-pq]
 have i0:aX (.loc p) (.int 0) st=.ok (enc (iB B z.a)) st:=v8 _ _ _ _ _ (by unfold aA;rw[hp]) rfl;have ie:aX (.loc ns) (.int (bW B.ss z.s:Nat)) (st++[A']++[R])=.ok (.int z.s) (st++[A']++[R]):=by
  refine v8 _ _ _ (B.ss.map λs=>D.int (s:Nat)) _ (by unfold aA;rw[h3.s]) ?_;rw[Ou,gO,Du hz.s];rfl
 have lt3:aX (.str B.ls) (.int (bW B.ls z.c:Nat)) (st++[A']++[R])=.ok (.str [z.c]) (st++[A']++[R]):=by
  unfold aX;dsimp only;rw[ae7 0x0,Ou,Du hz.c]
 refine aZ (sZ (Og (dW #[0,rfl]) (dW #[0,rfl])) (cB (bU s1 #[11,#[0,i0]])
  (cB (bU pk (aY #[0,(ix 1 _ rfl)] (aY (sW (len_str B.ls _ 0x0) (aY (oF rfl hA.o hA.f1) rfl)) rfl)))
  (cB (bU s2 #[11,#[0,(ix 2 _ rfl)]])
  (sZ (Og (dW #[0,rfl]) (Og (dW #[0,rfl]) (dW #[0,rfl])))
  ((uc (yJ (Vj rfl (by simp[cX,A]) rv))).trans
  (eZ (wz (aY (aO (oF rfl h3.o h3.f2) rfl ie) (aY (uZ rfl rfl rfl (Cq (dC (oX (k:=0) rfl)) 0x9)) (aY (aO (oF rfl h3.o h3.f1) rfl lt3) (aY (uZ rfl rfl rfl (Cq (oX (k:=0) rfl 0x1) 0x0)) rfl)))))))))))) rfl ?_
 rw[gW];exact qU 0x1
def zq1(hB:zY B)(hb:Bs st)(hk:jf st b B)(z:Sd)(hz:GQ B z)(ha:z.a.length<=900)(oR:z.b.length<=900)(hss:B.ss.length<=512):ZQ [.loc b,enc (R7 B z)] st=.ok (lM z) st:=by
 let H:MO:=.lst ([xr B z.s,iB B z.a,dq B z.c,iB B z.b].map enc)
 let P:MO:=.lst ([iB B z.a,dq B z.c,iB B z.b].map enc)
 have hh:=zk9 [xr B z.s,iB B z.a,dq B z.c,iB B z.b] st (λt ht=>by
  simp only[gm,km,afv]at ht;rcases ht with rfl | rfl | rfl | rfl
  ·exact Nr _ _
  ·exact Ds _
  ·exact zQ _
  ·exact Ds _) 0x1
 obtain⟨ns,f1,_,_,le⟩:=zki (hk.mono (Keeps.app st [H])) hz.s;have bH:Bs (st++[H]):=hb.app (by simp[H]);have pk:=zg1 (Hm hz.s) (st++[H]) bH 0x0;have gH:(st++[H])[st.length]? = some H:=oX (k:=0) rfl;have sl:xQ 0x3 (some 1) none (st++[H])=.ok (.loc (st++[H]).length) (st++[H]++[P]):=by
  unfold xQ;simp only[aA,gH]
  rfl
 have so:=zg7 hB (bH.app (g:=[P]) (by simp[P])) (hk.mono ((Keeps.app st [H]).trans (Keeps.app (st++[H]) [P]))) z hz ha oR (st++[H]).length (oX (k:=0) rfl);refine aZ (cB (bU hh rfl) (sZ (dW #[0,rfl]) (eZ (bU so (aY rfl (aY (bU pk (aY #[0,(v8 _ _ _ _ _ (by unfold aA;rw[gH]) rfl)] (aY (sW le (aY (f1 _ _ rfl) rfl)) rfl))) (aY (zpu rfl rfl rfl sl) rfl))))))) rfl ?_;rw[gW];exact qU (by simp[lM])
end
end Law
set_option maxHeartbeats 0
namespace M
def Ay{st st':ak}{d:D}(hl:st'.length=st.length)(hd:under st.length d):gc st (.ok d st')=.ok d st':=by
 have e:st'.take st.length=st':=by rw[<-hl];exact my
 unfold gc;dsimp only;by_cases h:st'=st
 ·subst h;rw[ae7 ⟨my,hd⟩]
 ·rw[e,ae8 (λq=>h q.1)];cases d with
  | loc k =>
   dsimp only;cases st'[k]? with
   | none=>rfl
   | some o=>dsimp only;rw[ae8 (λq=>h q.1)]
  | _=>rfl
theorem zsk:∀(n:Nat) (xs:List Nat),(∀r,r<n->r∈xs)->n<=xs.length
 | 0,_,_=>mL _
 | n+1,xs,h=>by
  have hm:=h n 0x0;have:=zsk n (xs.erase n) λr hr=>(List.mem_erase_of_ne 0x0).mpr (h r 0x0);rw[List.length_erase_of_mem hm]at this;have:0<xs.length:=List.length_pos_of_mem hm;omega
def Lj{xs:List Nat}{n:Nat}(h:xs.length<n):∃r,r<n/\r∉xs:=by
 apply afG;intro hn;have:=zsk n xs λr hr=>afG λq=>hn ⟨r,hr,q⟩;omega
end M
namespace Law
open L2 M Tr
def zy(ns:List Int)(k:Nat):Int:=if k<ns.length then ns.getD k 0 else 7919*k+13
def De(ns:List Int)(n k:Nat)(st:ak)(h:aA st n=some (ns.map D.int))(hk:k<=10000):T5 [.loc n,.int k] st=.ok (.int (zy ns k)) st:=by
 have le:=Hq h;rw[gj]at le;have mu:jk (.int 7919) (.int k) st=.ok (.int (7919*(k:Int))) st:=Ot st 7919 k 0x0;unfold T5 bC bB zrm zy;by_cases hl:k<ns.length
 ·have c:(k:Int)<(ns.length:Nat):=by omega
  have ix:aX (.loc n) (.int k) st=.ok (.int (ns.getD k 0)) st:=by
   refine v8 _ _ _ _ _ h ?_;rw[Ou,gO,qe];rw[gK hl];rfl
  rw[ae7 hl];exists ns.getD k 0,v,(ns.length:Int),L;simp[startM,le,c,ix,fu]
 ·have c:¬ (k:Int)<(ns.length:Nat):=by omega
  rw[ae8 hl];exists (ns.length:Int),L;simp[startM,le,c,mu,fu]
def uP(c k:Int):Int:=(c % 2147483647*48271+k*69621+11) % 2147483629
def wN(c k:Int):Int:=(uP c k*uP c k+7) % 998244353
def yS(c k:Int):Int:=(wN c k*wN c k+k) % 1000000007
def Xa(c k:Int)(st:ak):zhx [.int c,.int k] st=.ok (.int (yS c k)) st:=by
 unfold zhx bC bB zo7 yS;have e1:(c % 2147483647*48271+k*69621+11) % 2147483629=uP c k:=rfl;have e2:(uP c k*uP c k+7) % 998244353=wN c k:=rfl;have b1:0<=uP c k/\uP c k<2147483629:=by unfold uP;omega
 have b2:0<=wN c k/\wN c k<998244353:=by unfold wN;omega
 have m1:∀s,jk (.int (c % 2147483647)) (.int 48271) s=.ok (.int (c % 2147483647*48271)) s:=λs=>Ot s _ _ 0x0;have m2:∀s,jk (.int k) (.int 69621) s=.ok (.int (k*69621)) s:=λs=>Ot s _ _ 0x0;have m3:∀s,jk (.int (uP c k)) (.int (uP c k)) s=.ok (.int (uP c k*uP c k)) s:=λs=>Ot s _ _ 0x0;have m4:∀s,jk (.int (wN c k)) (.int (wN c k)) s=.ok (.int (wN c k*wN c k)) s:=λs=>Ot s _ _ 0x0;simp[startM,zh0,m1,m2,e1,m3,e2,m4,fu]
def jQ(f:Bool)(v n:Int):MO:=.lst [.bl f,.int v,.int n]
def DS(st:ak)(p:Nat)(g st':ak):Prop:=∃f v n,st'=st.set p (jQ f v n)++g
def j8(st:ak)(p:Nat):Prop:=∃f v n,st[p]? = some (jQ f v n)
def j8.lt{st:ak}{p:Nat}(h:j8 st p):p<st.length:=by
 obtain⟨f,v,n,h⟩:=h;exact (gf.mp h).1
def j8.app{st:ak}{p:Nat}(h:j8 st p)(g:ak):j8 (st++g) p:=by
 obtain⟨f,v,n,h⟩:=h;exact⟨f,v,n,dC h⟩
def DS.at_{st g st':ak}{p:Nat}(h:DS st p g st')(hp:p<st.length):j8 st' p:=by
 obtain⟨f,v,n,rfl⟩:=h;exact⟨f,v,n,dC (k_ hp)⟩
def DS.keeps{st g st':ak}{p:Nat}(h:DS st p g st'):Keeps st st' [p]:=by
 obtain⟨f,v,n,rfl⟩:=h;exact (Keeps.set st p _).trans (Keeps.app _ g).more
def DS.refl{st:ak}{p:Nat}(h:j8 st p):DS st p [] st:=by
 obtain⟨f,v,n,h⟩:=h;exact⟨f,v,n,by rw[set_same h,gw]⟩
def DS.trans{a b c g k:ak}{p:Nat}(h:DS a p g b)(h2:DS b p k c)(hp:p<a.length):DS a p (g++k) c:=by
 obtain⟨f,v,n,rfl⟩:=h;obtain⟨f2,v2,n2,rfl⟩:=h2;refine⟨f2,v2,n2,?_⟩;rw[ZK _ _ _ _ (by simpa using hp),List.set_set,gW]
def DS.len{st g st':ak}{p:Nat}(h:DS st p g st'):st'.length=st.length+g.length:=by
 obtain⟨f,v,n,rfl⟩:=h;simp
def DS.clo{st g st':ak}{p:Nat}(h:DS st p g st')(hc:bF st)(hg:bF g):bF st':=by
 obtain⟨f,v,n,rfl⟩:=h;exact (zfx _ _).mpr ⟨T8 hc rfl,hg⟩
def DS.last{st st':ak}{g:ak}{p i:Nat}{o:MO}(h:DS st p g st')(hg:g[i]? = some o):st'[st.length+i]? = some o:=by
 obtain⟨f,v,n,rfl⟩:=h;rw[kj 0x1];simpa using hg
def Nj(p m:Nat)(st:ak)(h:j8 st p)(hm:0<m)(hm2:m<=1000000):∃k st',k<m/\uY [.loc p,.int m] st=.ok (.int k) st'/\DS st p [] st':=by
 have hp:=h.lt;obtain⟨f,v,n,h⟩:=h;have it:aA st p=some [.bl f,.int v,.int n]:=by unfold aA;rw[h];rfl
 have x0:aX (.loc p) (.int 0) st=.ok (.bl f) st:=v8 _ _ _ _ _ it rfl;have x1:aX (.loc p) (.int 1) st=.ok (.int v) st:=v8 _ _ _ _ _ it rfl;have x2:aX (.loc p) (.int 2) st=.ok (.int n) st:=v8 _ _ _ _ _ it rfl;have mo:∀(i:Int) s,jJ (.int i) (.int m) s=.ok (.int (i % m)) s:=λi s=>zh0 s i m 0x0;cases f with
 | true =>
  have fd:∀s,ql (.int v) (.int m) s=.ok (.int (v / m)) s:=λs=>zf3 s v m 0x0;obtain⟨k,hk⟩:=Int.eq_ofNat_of_zero_le (pN v (show (m:Int)≠0 by omega));have hkm:k<m:=by have:=qg v (show (0:Int)<m by omega);omega
  refine⟨k,st.set p (jQ true (v / m) n),hkm,?_,⟨_,_,_,by rw[gw]⟩⟩;have sv:yN (.loc p) (.int 1) (.int (v / m)) st=.ok () (st.set p (jQ true (v / m) n)):=by
   unfold yN;simp only[h,jQ]
   rfl
  have g:=Ay (st:=st) (st':=st.set p (jQ true (v / m) n)) (d:=.int k) 0x1 0x1;unfold uY bC bB znk;exists st.set p (jQ true (v / m) n),Z;simp[startM,x0,jG,x1,mo,hk,fd,sv];exact g
 | false =>
  obtain⟨k,hk⟩:=Int.eq_ofNat_of_zero_le (pN (yS v (n+1) / 7) (show (m:Int)≠0 by omega));have hkm:k<m:=by have:=qg (yS v (n+1) / 7) (show (0:Int)<m by omega);omega
  refine⟨k,st.set p (jQ false v (n+1)),hkm,?_,⟨_,_,_,by rw[gw]⟩⟩;have sv:yN (.loc p) (.int 2) (.int (n+1)) st=.ok () (st.set p (jQ false v (n+1))):=by
   unfold yN;simp only[h,jQ]
   rfl
  have it2:aA (st.set p (jQ false v (n+1))) p=some [.bl false,.int v,.int (n+1)]:=by unfold aA;rw[k_ hp];rfl
  have y1:aX (.loc p) (.int 1) (st.set p (jQ false v (n+1)))=.ok (.int v) (st.set p (jQ false v (n+1))):=v8 _ _ _ _ _ it2 rfl;have y2:aX (.loc p) (.int 2) (st.set p (jQ false v (n+1)))=.ok (.int (n+1)) (st.set p (jQ false v (n+1))):=v8 _ _ _ _ _ it2 rfl;have mx:=Xa v (n+1) (st.set p (jQ false v (n+1)));have fd:∀s,ql (.int (yS v (n+1))) (.int 7) s=.ok (.int (yS v (n+1) / 7)) s:=λs=>zf3 s _ 7 0x0;have g:=Ay (st:=st) (st':=st.set p (jQ false v (n+1))) (d:=.int k) 0x1 0x1;unfold uY bC bB znk;exists st.set p (jQ false v (n+1)),Z,yS v (n+1) / 7,q,yS v (n+1),q2;simp[startM,x0,jG,x2,sv,y1,y2,mx,fd,mo,hk];exact g
def zh5{mA:MA}{env:aK}{st st1:ak}(n:Nat)(h:mA env st=.ok [.int n] st1)(hn:n<=1000000):jW mA env st=.ok (qx 0 n,[]) st1:=by
 rw[Em,h,R.aB];dsimp only;rw[ae7 ⟨by omega,by omega⟩,pH]
def Ax{st:ak}{p:Nat}{o:MO}(hp:p<st.length)(g:ak){d:D}(hd:st.set p o=st->gc st (.ok d (st++g))=.ok d (st++g)):gc st (.ok d (st.set p o++g))=.ok d (st.set p o++g):=by
 by_cases e:st.set p o=st
 ·rw[e];exact hd e
 ·refine yo hp (λq=>e ?_);rw[gP (by simpa using hp),k_ hp]at q;exact set_same q.symm
def zq8(n:Nat)(xs:List Nat):b_ n (aG xs):=by
 unfold aG
 induction xs with
 | nil=>simp
 | cons c cs ih=>simpa using ih
def Yh(xs:List Nat)(neg:Bool)(x n:Nat)(st:ak)(h:aA st n=some (aG xs)):wW 800 neg (.int x) (.loc n) st=.ok (.bl (if neg=true then !decide (x∈xs) else decide (x∈xs))) st:=by
 have f1:dF (aG xs)=true:=by
  clear h;unfold aG
  induction xs with
  | nil=>rfl
  | cons c cs ih=>simpa using ih
 have f2:((aG xs).all λe=>decide (dJ e (.int x)<800))=true:=by
  unfold aG;rw[List.all_map,List.all_eq_true];intro c _;simp[dJ]
 have f3:((aG xs).any λe=>jm e (.int x))=decide (x∈xs):=by
  unfold aG;rw[List.any_map,mD];simp[jm];exact⟨λ⟨y,hy,e⟩=>(by omega:y=x) ▸ hy,
   λhx=>⟨x,hx,rfl⟩⟩
 unfold wW;simp only[h,f1,f2,f3];rw[ae7 ⟨by simp,trivial,trivial⟩]
def zow(p size many:Nat)(st:ak)(h:j8 st p)(hm:many<=size)(hs:0<size)(iJ:size<=100000)(hm2:many<=1000) :
  ∃(xs:List Nat) (st':ak),xs.length=many/\xs.Nodup/\(∀x∈xs,x<size)/\zer [.loc p,.int size,.int many] st=.ok 0x3 st'/\DS st p [.lst (aG xs)] st':=by
 have hp:=h.lt;have mo:∀(i:Int) s,jJ (.int i) (.int size) s=.ok (.int (i % size)) s:=λi s=>zh0 s i size 0x0;unfold zer bC bB zlw;generalize hC:(d7 (aF (wW 800 false) (vr 5) (vr 3)):MT)=C;generalize hb:(aJ 5 (aF jJ #[8,bj,(vr 5)] (vr 1)):MS)=bd;generalize hB:(aC (aJ 5 _) _:MS)=B
 let E:Option D->Option D->aK:=λa4 a5=>[some (.loc p),some (.int size),some (.int many),some 0x3,a4,a5]
 have cv:∀(xs:List Nat) (Z:ak) (a4:Option D) (x:Nat),aA Z st.length=some (aG xs)->C (E a4 (some (.int (x:Nat)))) Z=.ok (decide (x∈xs)) Z:=λxs Z a4 x hZ=>by
  have il:=Yh xs false x st.length Z hZ;rw[ae8 0x5]at il;rw[<-hC];exact dW #[0,il]
 have bv:∀(Z:ak) (a4:Option D) (x:Nat),bd (E a4 (some (.int (x:Nat)))) Z=.ok (.nx (E a4 (some (.int (((x+1) % size:Nat):Int))))) Z:=λZ a4 x=>by
  have m1:jJ (.int ((x:Nat)+1:Int)) (.int size) Z=.ok (.int (((x+1) % size:Nat):Int)) Z:=by
   rw[mo];congr 2
  rw[<-hb];exact GX (aO #[0,(add_int rfl)] rfl m1)
 have wh:∀(xs:List Nat) (Z:ak) (a4:Option D),aA Z st.length=some (aG xs)->∀(j x:Nat),x<size->(x+j) % size∉xs->∃y,y<size/\y∉xs/\bf C bd (E a4 (some (.int x))) Z=.ok (.nx (E a4 (some (.int y)))) Z:=by
  intro xs Z a4 hZ j
  induction j with
  | zero =>
   intro x hx hf;rw[nq,Nat.mod_eq_of_lt hx]at hf;refine⟨x,hx,hf,?_⟩;rw[xm,cv xs Z a4 x hZ,R.aB,ae_ hf]
   rfl
  | succ j ih =>
   intro x hx hf;by_cases Yl:x∈xs
   ·obtain⟨y,y1,y2,y3⟩:=ih ((x+1) % size) (Nat.mod_lt _ hs) (by
     rw[show ((x+1) % size+j) % size=(x+(j+1)) % size by rw[Nat.mod_add_mod];congr 1;omega];exact hf)
    refine⟨y,y1,y2,?_⟩;rw[xm,cv xs Z a4 x hZ,R.aB,afb Yl,ae7 rfl,bv,R.aB];exact y3
   ·refine⟨x,hx,Yl,?_⟩;rw[xm,cv xs Z a4 x hZ,R.aB,ae_ Yl]
    rfl
 obtain⟨cC,st',hh,a4,a5,xs,hxl,hxn,j4,rfl,⟨f,v,n,rfl⟩⟩:=zZ (g:=aM 4) (b:=B) (gs:=[]) (items:=qx 0 many) (λi env s=>∃(a4 a5:Option D) (xs:List Nat),xs.length=i/\xs.Nodup/\(∀x∈xs,x<size)/\env=E a4 a5/\DS st p [.lst (aG xs)] s)
  (env:=E none none) (st:=st++[.lst []]) ⟨none,none,[],rfl,by simp,by simp,rfl,by
   obtain⟨f,v,n,q⟩:=h;exact⟨f,v,n,by rw[set_same q];rfl⟩⟩ (by
   rintro i d env s hi ⟨a4,a5,xs,hxl,hxn,j4,rfl,yG⟩;obtain⟨hi',rfl⟩:=zky hi;obtain⟨k,s1,hk,dr,ds1⟩:=Nj p size s (yG.at_ hp) hs 0x0;have ds2:=yG.trans ds1 hp;rw[gw]at ds2;have i2:aA s1 st.length=some (aG xs):=by
    have:=ds2.last (i:=0) rfl;unfold aA;rw[nq]at this;rw[this]
   obtain⟨r,hr,hrx⟩:=Lj (xs:=xs) (n:=size) 0x0;obtain⟨y,y1,y2,y3⟩:=wh xs s1 (some (.int (0+(i:Nat)))) i2 ((r+size - k) % size) k hk (by
    rw[Nat.add_mod_mod,show k+(r+size - k)=r+size by omega,Nat.add_mod_right,Nat.mod_eq_of_lt hr];exact hrx)
   have ap:aW 0x3 [.int y] s1=.ok .non (s1.set st.length (.lst (aG (xs++[y])))):=by
    have g:=ds2.last (i:=0) rfl;rw[nq]at g;unfold aW;dsimp only;rw[g];dsimp only;rw[ae7 (by rw[Nm];omega),zqc]
   have ty:cX "list" 0x3 s1=true:=by
    have g:=ds2.last (i:=0) rfl;rw[nq]at g;simp[cX,g]
   have ds3:DS st p [.lst (aG (xs++[y]))] (s1.set st.length (.lst (aG (xs++[y])))):=by
    obtain⟨f,v,n,rfl⟩:=ds2;exact⟨f,v,n,Oq _ _ _ _ 0x1⟩
   refine⟨by simp,E (some (.int (0+(i:Nat)))) a5,s,rfl,E (some (.int (0+(i:Nat)))) (some (.int y)),s1.set st.length (.lst (aG (xs++[y]))),.inl ?_,_,_,xs++[y],by simp[hxl],?_,?_,rfl,ds3⟩
   ·rw[<-hB];exact cB (bU dr rfl) ((uc y3).trans (yJ (uZ rfl ty rfl ap)))
   ·rw[ph];refine⟨hxn,by simp,λa ha b hb=>?_⟩;obtain rfl:=h_.mp hb;exact λe=>y2 (e ▸ ha)
   ·intro x hx;rcases mz.mp hx with hx | hx
    ·exact j4 x hx
    ·obtain rfl:=h_.mp hx;exact y1) (λ_ _ _=>by simp)
 rw[zik]at hxl;refine⟨xs,st.set p (jQ f v n)++[.lst (aG xs)],hxl,hxn,j4,?_,⟨f,v,n,rfl⟩⟩;have g:=Ax (o:=jQ f v n) hp [.lst (aG xs)] (d:=.loc st.length) (λ_=>Vf (o:=.lst (aG xs)) (zq8 _ _));exact aZ (cB rfl (GZ (zh5 many rfl 0x0) hh (eZ rfl))) rfl g
end Law
set_option maxHeartbeats 0
namespace Law
open L2 M Tr
def Ao(ls:List Nat)(k:Nat)(s:ak)(hk:k<ls.length)(hl:ls.length<=1000):∃c∈ls,aX (.str ls) (.int k) s=.ok (.str [c]) s:=by
 refine⟨ls[k],pD hk,?_⟩;unfold aX;dsimp only;rw[ae7 0x0,Ou,gK hk]
def Ry(ss:List Nat)(n k:Nat)(s:ak)(h:s[n]? = some (.lst (aG ss)))(hk:k<ss.length):∃x∈ss,aX (.loc n) (.int k) s=.ok (.int x) s:=by
 refine⟨ss[k],pD hk,v8 _ _ _ (aG ss) _ (by unfold aA;rw[h]) ?_⟩;rw[Ou];unfold aG;rw[gO,gK hk];rfl
section
variable  {env:aK}{p i:Nat}{s:ak}
def zij(h0:env[0]? = some (some (.loc p)))(n:Nat)(hi:env[i]? = some (some (.loc n)))(ss:List Nat)(hn:s[n]? = some (.lst (aG ss)))(lU:n≠p)(hd:j8 s p)(h1:0<ss.length)(h2:ss.length<=1000) :
  ∃x∈ss,∃s',aF aX (vr i) (az uY [] #[3,0,(bD dj #[6,i])]) env s=.ok (.int x) s'/\DS s p [] s':=by
 have le:=Hq (st:=s) (n:=n) (ds:=aG ss) (by unfold aA;rw[hn]);rw[Nm]at le;obtain⟨k,s',hk,dr,ds⟩:=Nj p ss.length s hd h1 0x0;obtain⟨x,hx,ix⟩:=Ry ss n k s' (ds.keeps _ _ (by simpa using lU) hn) hk;refine⟨x,hx,s',?_,ds⟩;simp[h0,hi,le,dr,ix]
def zh1(h0:env[0]? = some (some (.loc p)))(signs:List Nat)(hi:env[i]? = some (some (.str signs)))(hd:j8 s p)(h2:signs.length<=900) :
  ∃c∈95::signs,∃s',aF aX (aF bj #[1,[95]] (vr i)) (az uY [] #[3,0,#[8,bj,(bD dj #[6,i])]]) env s=.ok (.str [c]) s'/\DS s p [] s':=by
 have le:dj [.str signs] s=.ok (.int signs.length) s:=zgl _ signs 0x0;obtain⟨k,s',hk,dr,ds⟩:=Nj p (signs.length+1) s hd 0x0 0x0;obtain⟨c,hc,ix⟩:=Ao (95::signs) k s' (by simpa using hk) 0x9;refine⟨c,hc,s',?_,ds⟩;have ad:bj (.str [95]) (.str signs) s=.ok (.str (95::signs)) s:=by
  have:1+signs.length<=1000000:=by omega
  simp[bj,this]
 have e:(signs.length:Int)+1=((signs.length+1:Nat):Int):=by omega
 generalize ((signs.length+1:Nat):Int)=q at *;exists (signs.length:Int),q2;simp[h0,hi,ad,le,e,dr,ix]
end
def yf(rs:List Ru):List (List Key×D):=rs.map λr=>([.inl (r.s:Int),.inr (strOf [r.x])],D.bl true)
def Rb(rs:List Ru)(s x:Nat):(jc (yf rs) [.inl (s:Int),.inr (strOf [x])]).isSome=decide (∃r∈rs,r.s=s/\r.x=x):=by
 rw[mD,afm];unfold yf
 induction rs with
 | nil=>simp
 | cons r rs ih =>
  rw[gq,ZF];by_cases e:r.s=s/\r.x=x
  ·rw[ae7 (by rw[e.1,e.2])];simp only[Option.isSome_some,true_iff];exact⟨r,by simp,e⟩
  ·rw[ae8 (λz=>e (by
    injection z with z1 z2;injection z2 with z2 _;have h1:=Sum.inl.inj z1;have h2:=Np.mp (afw z2);exact⟨by omega,by simpa using h2⟩)),ih]
   constructor
   ·rintro ⟨q,hq,h⟩;exact⟨q,by simp[hq],h⟩
   ·rintro ⟨q,hq,h⟩;rcases gm.mp hq with rfl | hq
    ·exact absurd h e
    ·exact⟨q,hq,h⟩
def Ig(p ns many:Nat)(signs ss:List Nat)(st:ak)(h:j8 st p)(hn:st[ns]? = some (.lst (aG ss)))(lU:ns≠p)(h1:0<ss.length)(h2:ss.length<=1000)(h3:signs.length<=900)(hm:many<=1000) :
  ∃(rs:List Ru) (g st':ak),rs.length<=many/\(rs.map λr=>(r.s,r.x)).Nodup/\(∀r∈rs,r.s∈ss/\r.x∈95::signs/\r.w∈95::signs/\r.g∈ss)/\bF g/\zh2 [.loc p,.str signs,.loc ns,.int many] st=.ok 0x3 st'/\DS st p (.lst (rs.map fD)::g) st':=by
 have hp:=h.lt;have hnl:=(gf.mp hn).1;unfold zh2 bC bB zpn;generalize hB:(aC (aJ 7 _) _:MS)=B
 let E:Option D->Option D->Option D->Option D->Option D->Option D->aK:=λa6 a7 a8 a9 Ob M_=>[some (.loc p),some (.str signs),some (.loc ns),some (.int many),some 0x3,some (.loc (st.length+1)),a6,a7,a8,a9,Ob,M_]
 obtain⟨cC,st',hh,a6,a7,a8,a9,Ob,M_,rs,q1,q2,q3,rfl,⟨f,v,n,rfl⟩⟩:=zZ (g:=aM 6) (b:=B) (gs:=[]) (items:=qx 0 many) (λi env s=>∃(a6 a7 a8 a9 Ob M_:Option D) (rs:List Ru),rs.length<=i/\(rs.map λr=>(r.s,r.x)).Nodup/\(∀r∈rs,r.s∈ss/\r.x∈95::signs/\r.w∈95::signs/\r.g∈ss)/\env=E a6 a7 a8 a9 Ob M_/\DS st p [.lst (rs.map fD),.dic (yf rs)] s)
  (env:=E none none none none none none) (st:=st++[.lst []]++[.dic []]) ⟨none,none,none,none,none,none,[],by simp,by simp,by simp,rfl,by
   obtain⟨f,v,n,q⟩:=h;exact⟨f,v,n,by rw[set_same q,gW];rfl⟩⟩ (by
   rintro i d env s hi ⟨a6,a7,a8,a9,Ob,M_,rs,q1,q2,q3,rfl,yG⟩;obtain⟨hi',rfl⟩:=zky hi;generalize hI:D.int (0+(i:Nat))=iD;have Uv:s[ns]? = some (.lst (aG ss)):=yG.keeps _ _ (by simpa using lU) hn;obtain⟨x1,hx1,s1,e1,d1⟩:=zij (env:=E (some iD) a7 a8 a9 Ob M_) (i:=2) (s:=s) (p:=p) rfl ns rfl ss Uv lU (yG.at_ hp) h1 h2;have D1:=yG.trans d1 hp;rw[gw]at D1;obtain⟨x2,RL,s2,e2,d2⟩:=zh1 (env:=E (some iD) (some (.int x1)) a8 a9 Ob M_) (i:=1) (s:=s1) (p:=p) rfl signs rfl (D1.at_ hp) h3;have D2:=D1.trans d2 hp;rw[gw]at D2;obtain⟨x3,hx3,s3,e3,d3⟩:=zh1 (env:=E (some iD) (some (.int x1)) (some (.str [x2])) a9 Ob M_) (i:=1) (s:=s2) (p:=p) rfl signs rfl (D2.at_ hp) h3;have D3:=D2.trans d3 hp;rw[gw]at D3;obtain⟨k4,s4,hk4,e4,d4⟩:=Nj p 2 s3 (D3.at_ hp) 0x0 0x0;have D4:=D3.trans d4 hp;rw[gw]at D4
   let mb:Bool:=decide (k4=0)
   have ix4:aX (.str [108,114]) (.int k4) s4=.ok (.str (Hb mb)) s4:=by
    rcases (by omega:k4=0\/k4=1) with rfl | rfl<;>rfl
   have hn4:s4[ns]? = some (.lst (aG ss)):=D4.keeps _ _ (by simpa using lU) hn;obtain⟨x5,hx5,s5,e5,d5⟩:=zij (env:=E (some iD) (some (.int x1)) (some (.str [x2])) (some (.str [x3])) (some (.str (Hb mb))) M_) (i:=2) (s:=s4) (p:=p) rfl ns rfl ss hn4 lU (D4.at_ hp) h1 h2;have D5:=D4.trans d5 hp;rw[gw]at D5;have g0:=D5.last (i:=0) rfl;have g1:=D5.last (i:=1) rfl;rw[nq]at g0
   let r:Ru:=⟨x1,x2,x3,mb,x5⟩
   let EF:aK:=E (some iD) (some (.int x1)) (some (.str [x2])) (some (.str [x3])) (some (.str (Hb mb))) (some (.int x5))
   have kk:=zm4 (x1:Nat) x2;have ind:Fx true (.tup [.int x1,.str [x2]]) (.loc (st.length+1)) s5=.ok (.bl (!decide (∃r∈rs,r.s=x1/\r.x=x2))) s5:=by
    unfold Fx;simp only[g1,kk];rw[ae7 trivial,Rb]
   by_cases hex:∃r∈rs,r.s=x1/\r.x=x2
   ·rw[afb hex]at ind;refine⟨by simp,E (some iD) a7 a8 a9 Ob M_,s,rfl,EF,s5,.inl ?_,_,_,_,_,_,_,rs,by omega,q2,q3,rfl,D5⟩;rw[<-hB];exact cB e1 (cB e2 (cB e3 (cB (aO rfl (bU e4 rfl) ix4) (cB e5 (Ol (dW (aO (wz rfl) rfl ind)))))))
   ·rw[ae_ hex]at ind;have sd:yO (.loc (st.length+1)) (.tup [.int x1,.str [x2]]) (.bl true) s5=.ok () 0x18:=by
     unfold yO;simp only[g1,kk];rw[ae7 (by simp[yf];omega)];congr 3;unfold Qf;rw[ae8]
     ·simp[yf,r]
     ·simp only[yf,pC,afm,not_exists,not_and];intro q hq e;obtain⟨r',RN,rfl⟩:=gh.mp hq;injection e with z1 z2;injection z2 with z2 _;have w1:=Sum.inl.inj z1;have w2:=Np.mp (afw z2);exact hex ⟨r',RN,by omega,by simpa using w2⟩
    have D6:DS st p [.lst (rs.map fD),.dic (yf (rs++[r]))] 0x18:=by
     obtain⟨f,v,n,rfl⟩:=D5;refine⟨f,v,n,?_⟩;rw[pB,ae8 0x1];simp
    have h6:0x18[st.length]? = some (.lst (rs.map fD)):=D6.last (i:=0) rfl;have ap:aW 0x3 [fD r] 0x18=.ok .non (0x18.set st.length (.lst ((rs++[r]).map fD))):=by
     unfold aW;simp only[h6];rw[ae7 0x9];simp
    rw[Oe r]at ap;have ty:cX "list" 0x3 0x18=true:=by
     simp only[cX,h6]
     rfl
    have D7:DS st p [.lst ((rs++[r]).map fD),.dic (yf (rs++[r]))] (0x18.set st.length (.lst ((rs++[r]).map fD))):=by
     obtain⟨f,v,n,e⟩:=D6;refine⟨f,v,n,?_⟩;rw[e,pB,ae8 0x1];simp
    refine⟨by simp,E (some iD) a7 a8 a9 Ob M_,s,rfl,EF,0x18.set st.length (.lst ((rs++[r]).map fD)),.inl ?_,_,_,_,_,_,_,rs++[r],by simp;omega,?_,?_,rfl,D7⟩
    ·rw[<-hB];exact cB e1 (cB e2 (cB e3 (cB (aO rfl (bU e4 rfl) ix4) (cB e5 (qQ (dW (aO (wz rfl) rfl ind)) (xW rfl (Zt rfl (wz rfl) sd) (yJ (uZ rfl ty (aY (wz rfl) rfl) ap))))))))
    ·rw[mU,ph];refine⟨q2,by simp,λa ha c hc=>?_⟩;obtain⟨r',RN,rfl⟩:=gh.mp ha;simp only[gq,mC,h_]at hc;subst hc;intro e;injection e with w1 w2;exact hex ⟨r',RN,w1,w2⟩
    ·intro r' RN;rcases mz.mp RN with RN | RN
     ·exact q3 r' RN
     ·obtain rfl:=h_.mp RN;exact⟨hx1,RL,hx3,hx5⟩) (λ_ _ _=>by simp)
 rw[zik]at q1;have un:b_ st.length (rs.map fD):=by
  have:=zon st.length (rs.map eN);rwa[zku]at this
 by_cases es:st.set p (jQ f v n)=st
 ·refine⟨rs,[],st++[.lst (rs.map fD)],q1,q2,q3,by simp,?_,⟨f,v,n,by rw[es]⟩⟩;refine aZ (cB rfl (cB (d:=.loc (st.length+1)) 0x1 (GZ (zh5 many rfl 0x0) hh (eZ rfl)))) rfl ?_;rw[es];have gn:=ztl (st:=st) (g:=[]) (g':=[.dic (yf rs)]) (o:=.lst (rs.map fD)) un;rw[gw]at gn;exact gn
 ·refine⟨rs,[.dic (yf rs)],st.set p (jQ f v n)++[.lst (rs.map fD),.dic (yf rs)],q1,q2,q3,by simp,?_,⟨f,v,n,rfl⟩⟩;exact aZ (cB rfl (cB (d:=.loc (st.length+1)) 0x1 (GZ (zh5 many rfl 0x0) hh (eZ rfl)))) rfl (Ax (o:=jQ f v n) hp _ (d:=.loc st.length) (λe=>absurd e es))
end Law
set_option maxHeartbeats 0
namespace Law
open L2 M Tr
def Br(p most:Nat)(signs:List Nat)(st:ak)(h:j8 st p)(h3:signs.length<=900)(hm:most<=1000) :
  ∃(cs:List Nat) (st':ak),cs.length<=most/\(∀c∈cs,c∈95::signs)/\ziz [.loc p,.str signs,.int most] st=.ok (.str cs) st'/\DS st p [] st':=by
 have hp:=h.lt;obtain⟨m,s0,hmk,dr,d0⟩:=Nj p (most+1) st h 0x0 0x0;unfold ziz bC bB zuk;generalize hB:(aJ 3 (aF bj (vr 3) _):MS)=B
 let E:D->Option D->aK:=λd3 a4=>[some (.loc p),some (.str signs),some (.int most),some d3,a4]
 obtain⟨cC,st',hh,a4,cs,q1,q2,rfl,q3⟩:=zZ (g:=aM 4) (b:=B) (gs:=[]) (items:=qx 0 m) (λi env s=>∃(a4:Option D) (cs:List Nat),cs.length=i/\(∀c∈cs,c∈95::signs)/\env=E (.str cs) a4/\DS st p [] s)
  (env:=E (.str []) none) (st:=s0) ⟨none,[],rfl,by simp,rfl,d0⟩ (by
   rintro i d env s hi ⟨a4,cs,q1,q2,rfl,yG⟩;obtain⟨hi',rfl⟩:=zky hi;generalize hI:D.int (0+(i:Nat))=iD;obtain⟨c,hc,s1,e1,d1⟩:=zh1 (env:=E (.str cs) (some iD)) (i:=1) (s:=s) (p:=p) rfl signs rfl (yG.at_ hp) h3;have D1:=yG.trans d1 hp;refine⟨by simp,E (.str cs) (some iD),s,rfl,E (.str (cs++[c])) (some iD),s1,.inl ?_,_,cs++[c],by simp[q1],?_,rfl,D1⟩
   ·rw[<-hB];exact GX (aO rfl e1 (add_str 0x9))
   ·intro x hx;rcases mz.mp hx with hx | hx
    ·exact q2 x hx
    ·obtain rfl:=h_.mp hx;exact hc) (λ_ _ _=>by simp)
 rw[zik]at q1;refine⟨cs,st',by omega,q2,?_,q3⟩;exact aZ (cB rfl (GZ (zh5 m (aY (bU dr #[11,#[0,(add_int 0x0)]]) rfl) 0x0) hh (eZ rfl))) rfl (Ay (by rw[q3.len];rfl) 0x1)
def Iv(n:Nat)(ds:List D)(st:ak)(h:st[n]? = some (.lst ds))(hf:dF ds=true)(hd:deps ds<=100):M.yR 800 (.loc n) 0x3 (st++[.lst []])=.ok (.bl (!ds.isEmpty)) (st++[.lst []]):=by
 have h1:aA (st++[.lst []]) n=some ds:=by unfold aA;rw[dC h]
 have h2:aA (st++[.lst []]) st.length=some []:=by simp[aA]
 have e:j5 800 (.loc n) 0x3 (st++[.lst []])=some ds.isEmpty:=by
  simp only[j5,h1,h2];rw[ae7 ⟨hf,by simp,by simp⟩];cases ds<;>simp[j6]
 unfold M.yR;rw[e]
def ztn(rs:List Ru):dF (rs.map fD)=true/\deps (rs.map fD)<=100:=by
 have h1:=zrf (rs.map eN);have h2:=zul (rs.map eN);rw[zku]at h1 h2;exact⟨h1,by omega⟩
def HQ(p nr ns most:Nat)(signs ss:List Nat)(rs:List Ru)(st:ak)(h:j8 st p)(hr:st[nr]? = some (.lst (rs.map fD)))(hnr:nr≠p)(hn:st[ns]? = some (.lst (aG ss)))(lU:ns≠p)(h1:0<ss.length)(h2:ss.length<=1000)(h3:signs.length<=900)(hm:most<=900)(hrl:rs.length<=1000)
  (hrs:∀r∈rs,r.s∈ss/\r.x∈95::signs) :
  ∃(z:Sd) (g st':ak),z.s∈ss/\z.c∈95::signs/\(∀c∈z.a,c∈95::signs)/\(∀c∈z.b,c∈95::signs)/\z.a.length<=most/\z.b.length<=most/\bF g/\zh4 [.loc p,.loc nr,.str signs,.loc ns,.int most] st=.ok (lM z) st'/\DS st p g st':=by
 have hp:=h.lt
 let E:Option D->Option D->Option D->Option D->aK:=λa5 a6 a7 a8=>[some (.loc p),some (.loc nr),some (.str signs),some (.loc ns),some (.int most),a5,a6,a7,a8]
 obtain⟨x1,hx1,s1,e1,D1⟩:=zij (env:=E none none none none) (i:=3) (s:=st) (p:=p) rfl ns rfl ss hn lU h h1 h2;obtain⟨x2,RL,s2,e2,d2⟩:=zh1 (env:=E (some (.int x1)) none none none) (i:=2) (s:=s1) (p:=p) rfl signs rfl (D1.at_ hp) h3;have D2:=D1.trans d2 hp;rw[gw]at D2;have Yr:s2[nr]? = some (.lst (rs.map fD)):=D2.keeps _ _ (by simpa using hnr) hr;have l2:s2.length=st.length:=D2.len;have ne:=Iv nr (rs.map fD) s2 Yr (ztn rs).1 (ztn rs).2;have D2':DS st p [.lst []] (s2++[.lst []]):=by
  obtain⟨f,v,n,e⟩:=D2;exact⟨f,v,n,by rw[e,gw]⟩
 have l3:s2.length=(s2:ak).length:=rfl

 have mid:∃(xs xc:Nat) (a7:Option D) (s3:ak),xs∈ss/\xc∈95::signs/\DS st p [.lst []] s3/\fJ (lr (d7 (aF (M.yR 800) (vr 1) (d_ au))) (d7 (aF CK (az uY [] #[3,0,#[4,4]]) #[4,0]))) (aC (aJ 7 (aF aX (vr 1) (az uY [] #[3,0,(bD dj #[6,1])])))
   (aC (aJ 5 #[2,7,0]) (aJ 6 #[2,7,1]))) bI (E (some (.int x1)) (some (.str [x2])) none none) s2=.ok (.nx (E (some (.int xs)) (some (.str [xc])) a7 none)) s3:=by
  cases Yp:rs with
  | nil =>
   rw[Yp]at ne;refine⟨x1,x2,none,s2++[.lst []],hx1,RL,D2',?_⟩;simp only[E];rw[show (List.map fD []).isEmpty=true from rfl]at ne;simp[ne]
  | cons r0 rs0 =>
   rw[Yp]at ne;rw[show (List.map fD (r0::rs0)).isEmpty=false from rfl]at ne;have hl0:0<rs.length:=by rw[Yp];simp
   obtain⟨k,s3,hk,e3,d3⟩:=Nj p 4 (s2++[.lst []]) (D2'.at_ hp) 0x0 0x0;rw[show ((4:Nat):Int)=4 from rfl]at e3;have D3:=D2'.trans d3 hp;rw[gw]at D3;by_cases Ux:k=0
   ·subst Ux;refine⟨x1,x2,none,s3,hx1,RL,D3,?_⟩;simp only[E];simp[ne,e3]
   ·have Yq:s3[nr]? = some (.lst (rs.map fD)):=D3.keeps _ _ (by simpa using hnr) hr;have it3:aA s3 nr=some (rs.map fD):=by unfold aA;rw[Yq]
    have le:=Hq it3;rw[gj]at le;obtain⟨j,s4,hj,e4,d4⟩:=Nj p rs.length s3 (D3.at_ hp) hl0 0x0;have D4:=D3.trans d4 hp;rw[gw]at D4;have hr4:s4[nr]? = some (.lst (rs.map fD)):=D4.keeps _ _ (by simpa using hnr) hr;have ix:aX (.loc nr) (.int j) s4=.ok (fD rs[j]) s4:=by
     refine v8 _ _ _ (rs.map fD) _ (by unfold aA;rw[hr4]) ?_;rw[Ou,gO,gK hj];rfl
    have y0:∀s',aX (fD rs[j]) (.int 0) s'=.ok (.int (rs[j].s:Nat)) s':=λs'=>by rw[Oe];exact Bf s' 0 _ _ rfl
    have y1:∀s',aX (fD rs[j]) (.int 1) s'=.ok (.str [rs[j].x]) s':=λs'=>by rw[Oe];exact Bf s' 1 _ _ rfl
    have hm:=hrs rs[j] (pD hj);refine⟨rs[j].s,rs[j].x,some (fD rs[j]),s4,hm.1,hm.2,D4,?_⟩;have ck:(k:Int) > 0:=by omega
    simp only[E];exists fD rs[j],RD;generalize ((rs[j].s:Nat):Int)=Q1 at *;exists (rs.length:Int),Q2,(k:Int),Q3;simp[ne,e3,ck,le,e4,ix,y0,y1]
 obtain⟨xs,xc,a7,s3,m1,m2,D3,t3⟩:=mid;obtain⟨la,s4,la1,la2,e4,d4⟩:=Br p most signs s3 (D3.at_ hp) h3 0x0;have D4:=D3.trans d4 hp;rw[gw]at D4;obtain⟨rb,s5,rb1,rb2,e5,d5⟩:=Br p most signs s4 (D4.at_ hp) h3 0x0;have D5:=D4.trans d5 hp;rw[gw]at D5
 let z:Sd:=⟨xs,la.reverse,xc,rb⟩
 have ez:lM z=.tup [.int xs,.str la,.str [xc],.str rb]:=by simp[lM,z]
 have body:zpo (E none none none none) st=.ok (.rt (lM z)) s5:=by
  refine cB e1 (cB e2 ((uc t3).trans (cB (bU e4 rfl) ?_)));rw[ez];exact eZ (wz (aY rfl (aY rfl #[11,(bU e5 rfl)])))
 have adU:∃g st',bF g/\gc st (.ok (lM z) s5)=.ok (lM z) st'/\DS st p g st':=by
  obtain⟨f,v,n,e⟩:=D5;by_cases es:st.set p (jQ f v n)=st
  ·refine⟨[],st,by simp,?_,⟨f,v,n,by rw[es,gw]⟩⟩;rw[e,es];exact qU (by simp[lM])
  ·refine⟨[.lst []],s5,by simp,?_,⟨f,v,n,e⟩⟩;rw[e];exact Ax (o:=jQ f v n) hp _ (d:=lM z) (λq=>absurd q es)
 obtain⟨g,st',hg,RV,hD⟩:=adU;refine⟨z,g,st',m1,m2,λc hc=>la2 c (by simpa[z] using hc),rb2,by simpa[z] using la1,rb1,hg,?_,hD⟩;unfold zh4 bC bB;rw[show startM 9 [D.loc p,.loc nr,.str signs,.loc ns,.int most]=E none none none none from rfl,body];exact RV
end Law
set_option maxHeartbeats 0
namespace Law
open L2 M Tr
def Tq{α:Type}(l:List α)(x:α):qJ (l++[x]) (-1)=some x:=by
 unfold qJ Cw;rw[ae8 0x0,ae7 0x9];have:((-1:Int)+((l++[x]).length:Nat)).toNat=l.length:=by simp;omega
 rw[this];simp
def GD(a:List Nat)(c:Nat):qJ ((c::a).reverse) (-1)=some c:=by rw[mV];exact Tq _ _
def YZ{α:Type}(xs:List α):cut xs none (some (-1))=xs.dropLast:=Mq xs
def Q5(B:Bk)(nr:Nat)(z:Sd)(st:ak)(hr:st[nr]? = some (.lst (B.rs.map fD)))(ha:z.a.length<=1000)(hb:z.b.length<=1000) :
  zlf [.loc nr,lM z] st=.ok (match WX B z with | some z'=>lM z' | none=>.non) st:=by
 unfold zlf bC bB zs9;generalize La:(fJ (lr _ _) _ _:MS)=BD
 let E:Option D->Option D->aK:=λa2 a3=>[some (.loc nr),some (lM z),a2,a3]

 have no:∀(r:Ru) (a3:Option D),¬ (r.s=z.s/\r.x=z.c)->BD (E (some (fD r)) a3) st=.ok (.nx (E (some (fD r)) a3)) st:=λr a3 hn=>by
  rw[<-La,Oe];by_cases h1:r.s=z.s
  ·refine Ol (Dj (dW (aO #[0,f9] #[0,f9] (by rw[h1];exact Zo))) (dW (aO #[0,f9] #[0,f9] ?_)));rw[eq_str,ae_ (λe=>hn ⟨h1,by simpa using e⟩)]
  ·refine Ol (Tw (dW (aO #[0,f9] #[0,f9] ?_)));rw[eq_int,ae_ 0x0]
 have yes:∀(r:Ru) (a3:Option D),r.s=z.s/\r.x=z.c->BD (E (some (fD r)) a3) st=.ok (.rt (lM (Aw r z))) st:=λr a3 hy=>by
  rw[<-La,Oe,hy.1,hy.2];refine qQ (Dj (dW (aO #[0,f9] #[0,f9] Zo)) (dW (aO #[0,f9] #[0,f9] zkg))) ?_;obtain⟨zs,za,zc,zb⟩:=z;cases hm:r.m with
  | false =>
   rw[show lM (Aw r ⟨zs,za,zc,zb⟩)=.tup [.int r.g,.str (za.reverse++[r.w]),.str [zb.headD 95],.str zb.tail] by simp[Aw,hm,lM]];obtain⟨U,Y,m1,aa,ii,cc⟩:∃U Y,tX (.str [95]) (.bl (decide (zb=[]))) st=.ok (.str U) st/\bj (.str zb) (.str U) st=.ok (.str Y) st/\aX (.str Y) (.int 0) st=.ok (.str [zb.headD 95]) st/\xQ (.str Y) (some 1) none st=.ok (.str zb.tail) st:=by
    cases zb with
    | nil=>exact⟨[95],[95],rfl,rfl,rfl,rfl⟩
    | cons c t =>
     have hl:(c::t).length<=1000000:=by dsimp only at hb;omega
     refine⟨[],c::t,rfl,?_,?_,?_⟩
     ·rw[add_str (by simpa using hl),gw]
     ·unfold aX;dsimp only;rw[ae7 hl,show (0:Int)=((0:Nat):Int) from rfl,Ou];rfl
     ·rw[zti _ _ _ _ hl,show (1:Int)=((1:Nat):Int) from rfl,ztq];rfl
   exact v7 (qQ (dW (aO #[0,f9] rfl zkg)) (cB (aO #[0,f9] (aO rfl (aO #[0,f9] rfl eq_str) m1) aa) (eZ (wz (aY #[0,f9] (aY (aO #[0,f9] #[0,f9] (add_str (by simp;dsimp only at ha;omega))) (aY #[0,ii] (aY (HR rfl rfl rfl cc) rfl))))))))
  | true =>
   rw[show lM (Aw r ⟨zs,za,zc,zb⟩)=.tup [.int r.g,.str za.tail.reverse,.str [za.headD 95],.str (r.w::zb)] by simp[Aw,hm,lM]];obtain⟨U,Y,m1,aa,ii,cc⟩:∃U Y,tX (.str [95]) (.bl (decide (za.reverse=[]))) st=.ok (.str U) st/\bj (.str U) (.str za.reverse) st=.ok (.str Y) st/\aX (.str Y) (.int (-1)) st=.ok (.str [za.headD 95]) st/\xQ (.str Y) none (some (-1)) st=.ok (.str za.tail.reverse) st:=by
    cases za with
    | nil=>exact⟨[95],[95],rfl,rfl,rfl,rfl⟩
    | cons c t =>
     have hl:(c::t).reverse.length<=1000000:=by simp at ha ⊢;omega
     refine⟨[],(c::t).reverse,by rw[ae_ 0x1];rfl,?_,?_,?_⟩
     ·rw[add_str (by simpa using hl),m8]
     ·unfold aX;dsimp only;rw[ae7 hl,GD];rfl
     ·rw[zti _ _ _ _ hl,YZ];simp
   exact (uc (Ol (dW (aO #[0,f9] rfl eq_str)))).trans (cB (aO (aO rfl (aO #[0,f9] rfl eq_str) m1) #[0,f9] aa) (eZ (wz (aY #[0,f9] (aY (HR rfl rfl rfl cc) (aY #[0,ii] (aY (aO #[0,f9] #[0,f9] (add_str (a:=[r.w]) (b:=zb) (by simp;dsimp only at hb;omega))) rfl)))))))
 have key:∀(rs:List Ru) (a2 a3:Option D),(∃U9,bY (aM 2) BD [(nr,.lst (B.rs.map fD))] (rs.map fD) (E a2 a3) st=.ok (.nx (E U9 a3)) st/\(rs.find? λr=>decide (r.s=z.s) && decide (r.x=z.c))=none)\/∃r,bY (aM 2) BD [(nr,.lst (B.rs.map fD))] (rs.map fD) (E a2 a3) st=.ok (.rt (lM (Aw r z))) st/\(rs.find? λr=>decide (r.s=z.s) && decide (r.x=z.c))=some r:=by
  intro rs
  induction rs with
  | nil=>intro a2 a3;exact .inl ⟨a2,by rw[mC,bY,ae7 (wu hr)],rfl⟩
  | cons r rs ih =>
   intro a2 a3;by_cases hy:r.s=z.s/\r.x=z.c
   ·refine .inr ⟨r,?_,by rw[m7];simp[hy.1,hy.2]⟩;rw[gq,bY,ae7 (wu hr),zr2,R.aB];change (BD (E (some (fD r)) a3) st).bind _=_;rw[yes r a3 hy,R.aB]
   ·have hd:(decide (r.s=z.s) && decide (r.x=z.c))=false:=by
     rw[pU];by_cases q:r.s=z.s
     ·exact .inr (ae_ λe=>hy ⟨q,e⟩)
     ·exact .inl (ae_ q)
    rw[gq,bY,ae7 (wu hr),zr2,R.aB,m7,hd];change ((∃U9,(BD (E (some (fD r)) a3) st).bind _=_/\_)\/∃r',(BD (E (some (fD r)) a3) st).bind _=_/\_);rw[no r a3 hy,R.aB];exact ih (some (fD r)) a3
 have si:fB (vr 0) (E none none) st=.ok (B.rs.map fD,[(nr,.lst (B.rs.map fD))]) st:=by
  rw[ztp];simp only[E,El,n_,R.aB,hr]
 unfold WX Gd;rcases key B.rs none none with⟨a2,h1,h2⟩ | ⟨r,h1,h2⟩
 ·rw[h2];exact aZ (GZ si h1 (eZ rfl)) rfl (fu 0x1)
 ·rw[h2];exact aZ (v7 (by rw[xR];exact (congrArg (R.bind · _) si).trans h1)) rfl (fu (by simp[lM]))
end Law
namespace M
namespace Tr
theorem zja{x y:List Nat}(h:y≠x):∀t,stands y t=true->stands y (out x t).1=true
 | .lf s,e=>by
  have es:s=y:=afh e;have:outF x (.lf s)=none:=by rw[outF,ae8 (by rw[es];exact h)]
  rw[out,this];show (_ || stands y (.lf s))=true;rw[e,Bool.or_true]
 | .jn l r,e=>by
  by_cases h1:(val 0x2 && !stands x 0x2)=true
  ·rw[Vm x h1];show (_ || stands y 0x2)=true;rw[e,Bool.or_true]
  ·by_cases h2:((val l && !stands x l) && iG x r)=true
   ·rw[gM]at h2;rw[zgk x h2.1 h2.2];rw[stands,p6]at e;rcases e with e | e
    ·exact e
    ·rw[ziu.mp h2.2]at e;exact absurd (afh e).symm h
   ·rw[zi4 x (by simpa using h1) (by simpa using h2)];rw[stands,p6]at e;show ((_ || stands y (out x l).1) || stands y (out x r).1)=true;rcases e with e | e
    ·rw[zja h l e];simp
    ·rw[zja h r e];simp
theorem zm9{y:List Nat}{t:Tr}:∀xs:List (List Nat),(∀x∈xs,y≠x)->stands y t=true->stands y (bV t xs)=true
 | [],_,e=>e
 | x::xs,h,e=>by
  rw[bV];exact zja (h x 0x1) _ (zm9 xs (λz hz=>h z (by simp[hz])) e)
theorem Ia{f g:List Nat->Option Tr}{y:List Nat}:∀t,stands y t=true->sb f t=sb g t->sb f (.lf y)=sb g (.lf y)
 | .lf s,e,q=>by rw[<-afh e];exact q
 | .jn l r,e,q=>by
  rw[sb,sb]at q;injection q with q1 q2;rw[stands,p6]at e;rcases e with e | e
  ·exact Ia l e q1
  ·exact Ia r e q2
def Ih{ls:List Nat}{n n':Tr}{d d':Nat->Tr}(h:PQ ls n d=PQ ls n' d'):n=n':=by
 have s:stands [110] (cz ls)=true:=by
  unfold cz cu;rw[show ∀A:List Tr,A++[[110],[102],[108],[114]].map Tr.lf=A++[.lf [110]]++[.lf [102]]++[.lf [108]]++[.lf [114]] from λA=>by simp,Be,Be,Be,Be];simp[stands]
 have:=Ia _ (zm9 dZ 0x5 s) h;simpa[sb,look] using this
end Tr
end M
namespace Law
open L2 M Tr
def Pg{B:Bk}{s s':Nat}(hs:s∈B.ss)(oN:s'∈B.ss)(h:iu B s=iu B s'):s=s':=by
 unfold iu hold at h;simp only[List.foldl]at h;injection h with h _;injection h with _ h;injection h with _ h;injection h with _ h;have:=Ih h;unfold xr at this;have e:=congrArg cntK this;rw[zew,zew]at e;have q:=Du hs;rw[e,Du oN]at q;exact (afa q).symm
def zg6{B:Bk}{b:Nat}{st:ak}(hB:zY B)(hb:Bs st)(hk:jf st b B)(z:Sd)(hz:GQ B z)(ha:z.a.length<=900)(oR:z.b.length<=900):Nz [.loc b,enc (iT B z)] st=.ok (lM z) st:=by
 have hss:=hB.ss
 let H:MO:=.lst ([iB B z.a,dq B z.c,iB B z.b].map enc)
 obtain⟨fs,ns,nk,nt,nm,ml,mr,nr,xu,h1,h2,h3,_⟩:=hk.ex;have hh:=zk9 [iB B z.a,dq B z.c,iB B z.b] st (λt ht=>by
  simp only[gm,km,afv]at ht;rcases ht with rfl | rfl | rfl
  ·exact Ds _
  ·exact zQ _
  ·exact Ds _) 0x1
 have so:=zg7 hB (hb.app (g:=[H]) (by simp[H])) (hk.mono (Keeps.app st [H])) z hz ha oR st.length (oX (k:=0) rfl);unfold Nz bC bB zed;generalize La:(fJ (d7 _) (retS _) bI:MS)=BD
 let E:Option D->Option D->aK:=λa2 a3=>[some (.loc b),some (enc (iT B z)),a2,a3]
 let L:List D:=(B.ss.map (iu B)).map enc
 have lL:L.length=B.ss.length:=by simp[L]
 have hi:=Hm hz.s;have key:∀d k,k+d=bW B.ss z.s->∀a2 a3,bY (qz 2 (cU (aM 2) (cU (aM 3) rJ))) BD [(xu,.lst L)] ((cN 0 L).drop k) (E a2 a3) st=.ok (.rt (lM z)) (st++[H]):=by
  intro d
  induction d with
  | zero =>
   intro k Ux a2 a3;rw[nq]at Ux;have g:(cN 0 L)[k]? = some (.tup [.int k,enc (iu B z.s)]):=by
    rw[ZG];simp only[L,Ux,gO,Du hz.s];simp
   obtain⟨zX,FN⟩:=gf.mp g;rw[mQ zX,FN,bY,ae7 (wu h3)];have eq:M.ig 800 (enc (iu B z.s)) (enc (iu B z.s)) st=.ok (.bl true) st:=by have:=zos (iu B z.s) (iu B z.s) st (by have:=yq hB.ok hB.few hz.s;omega);simpa using this
   have w:BD (E (some (.int k)) (some (enc (iu B z.s)))) st=.ok (.rt (lM z)) (st++[H]):=by
    rw[<-La,Ux];exact qQ (dW (aO rfl #[0,(uX _ _ _)] eq)) (eZ (bU so (aY rfl (aY rfl (aY (bU hh (aY #[0,(xH _ _ _)] rfl)) rfl)))))
   show (BD (E (some (.int k)) (some (enc (iu B z.s)))) st).bind _=_;rw[w];rfl
  | succ d ih =>
   intro k Ux a2 a3;have hkl:k<B.ss.length:=by omega
   have g:(cN 0 L)[k]? = some (.tup [.int k,enc (iu B B.ss[k])]):=by
    rw[ZG];simp only[L,gO,gK hkl];simp
   obtain⟨zX,FN⟩:=gf.mp g;rw[mQ zX,FN,bY,ae7 (wu h3)];have hm:=pD hkl;have ne:iu B B.ss[k]≠iu B z.s:=λe=>by
    have:=Pg hm hz.s e;have q:=Zr hB.ok.ns (gK hkl);rw[this]at q;omega
   have eq:M.ig 800 (enc (iu B B.ss[k])) (enc (iu B z.s)) st=.ok (.bl false) st:=by have:=zos (iu B B.ss[k]) (iu B z.s) st (by have:=yq hB.ok hB.few hm;omega);simpa[ne] using this
   have w:BD 0x16 st=.ok (.nx 0x16) st:=by
    rw[<-La];exact Ol (dW (aO rfl #[0,(uX _ _ _)] eq))
   show (BD 0x16 st).bind _=_;rw[w];exact ih (k+1) 0x0 _ _
 have en:sE (aj (cF "Book" "state_trees" (vr 0)) au) (E none none) st=.ok (cN 0 L,[(xu,.lst L)]) st:=by
  have f:=oF (f:="state_trees") (m:=vr 0) (env:=E none none) rfl h1.o h2;simp[f,rN,h3,L]
 exact aZ (sZ (qu (zO rfl (Hk _ _ _)) rfl) (v7 (by rw[xR];exact (congrArg (λx=>R.bind x _) en).trans (key (bW B.ss z.s) 0 (mZ _) none none)))) rfl (qU (by simp[lM]))
end Law
set_option maxHeartbeats 0
namespace Law
open L2 M Tr
def adE{t:Tr}{st:ak}(h:∀a b c,t=hold [a,b,c]->val t=false):Om [enc t,.int 3] st=.ok .non st :=
 (zoo t 3 st 0x0).2 λws q=>by
  obtain⟨q1,q2⟩:=zp3 q;obtain⟨a,b,c,rfl⟩:∃a b c,ws=[a,b,c]:=by
   match ws,q1 with
   | [a,b,c],_=>exact⟨a,b,c,rfl⟩
  exact h _ _ _ (q2 rfl)
section
variable  {B:Bk}{b:Nat}{st:ak}
def zrp(i:Int):ZZ [.loc b,.int i,.non] st=.ok .non st:=by
 unfold ZZ bC bB zfw;exact aZ (v7 (qQ (Og (dW #[0,rfl]) (dW #[0,rfl])) (eZ rfl))) rfl (fu 0x1)
def end_none{t:Tr}(h:val t=false):ZQ [.loc b,enc t] st=.ok .non st :=
 aZ (cB (bU ((zoo t 4 st 0x0).2 λ_ _=>h) rfl) (v7 (qQ (dW #[0,rfl]) (eZ rfl)))) rfl (fu 0x1)
def zmq(hB:zY B)(hk:jf st b B)(l r:Tr)(h:∀s∈B.ss,l=iu B s->∀x y z,r=hold [x,y,z]->val r=false):Nz [.loc b,enc 0x2] st=.ok .non st:=by
 have hss:=hB.ss;obtain⟨fs,ns,nk,nt,nm,ml,mr,nr,xu,h1,h2,h3,_⟩:=hk.ex;unfold Nz bC bB zed;generalize La:(fJ (d7 _) (retS _) bI:MS)=BD
 let E:Option D->Option D->aK:=λa2 a3=>[some (.loc b),some (enc 0x2),a2,a3]
 let L:List D:=(B.ss.map (iu B)).map enc
 have lL:L.length=B.ss.length:=by simp[L]
 have key:∀d k,k+d=B.ss.length->∀a2 a3,∃o,bY (qz 2 (cU (aM 2) (cU (aM 3) rJ))) BD [(xu,.lst L)] ((cN 0 L).drop k) (E a2 a3) st=.ok o st/\(o=.rt .non\/∃a2 a3,o=.nx (E a2 a3)):=by
  intro d
  induction d with
  | zero =>
   intro k Ux a2 a3;refine⟨_,?_,.inr ⟨a2,a3,rfl⟩⟩;rw[nF (by rw[Vo,lL];omega),bY,ae7 (wu h3)]
  | succ d ih =>
   intro k Ux a2 a3;have hkl:k<B.ss.length:=by omega
   have g:(cN 0 L)[k]? = some (.tup [.int k,enc (iu B B.ss[k])]):=by
    rw[ZG];simp only[L,gO,gK hkl];simp
   obtain⟨zX,FN⟩:=gf.mp g;rw[mQ zX,FN,bY,ae7 (wu h3)];have hm:=pD hkl;have eq:=zos (iu B B.ss[k]) l st (by have:=yq hB.ok hB.few hm;omega);by_cases e:iu B B.ss[k]=l
   ·have eq:M.ig 800 (enc (iu B B.ss[k])) (enc l) st=.ok (.bl true) st:=by simpa[e] using eq
    refine⟨.rt .non,?_,.inl rfl⟩;have w:BD 0x16 st=.ok (.rt .non) st:=by
     rw[<-La];exact qQ (dW (aO rfl #[0,(uX _ _ _)] eq)) (eZ (bU (zrp _) (aY rfl (aY rfl (aY (bU (adE (h _ hm e.symm)) (aY #[0,(xH _ _ _)] rfl)) rfl)))))
    show (BD 0x16 st).bind _=_;rw[w];rfl
   ·have eq:M.ig 800 (enc (iu B B.ss[k])) (enc l) st=.ok (.bl false) st:=by simpa[e] using eq
    have w:BD 0x16 st=.ok (.nx 0x16) st:=by
     rw[<-La];exact Ol (dW (aO rfl #[0,(uX _ _ _)] eq))
    obtain⟨o,i1,i2⟩:=ih (k+1) 0x0 (some (.int k)) (some (enc (iu B B.ss[k])));refine⟨o,?_,i2⟩;show (BD 0x16 st).bind _=_;rw[w];exact i1
 have en:sE (aj (cF "Book" "state_trees" (vr 0)) au) (E none none) st=.ok (cN 0 L,[(xu,.lst L)]) st:=by
  have f:=oF (f:="state_trees") (m:=vr 0) (env:=E none none) rfl h1.o h2;simp[f,rN,h3,L]
 obtain⟨o,k1,k2⟩:=key B.ss.length 0 (mZ _) none none;have fr:∀{g:MG} {m:MS},g=(qz 2 (cU (aM 2) (cU (aM 3) rJ)))->m=BD->iH (sE (aj (cF "Book" "state_trees" (vr 0)) au)) g m (E none none) st=.ok o st:=λ{g m} e1 e2=>by
  subst e1 e2;rw[xR,en,R.aB];exact k1
 rcases k2 with rfl | ⟨a2,a3,rfl⟩
 ·exact aZ (sZ (qu (zO rfl (Hk _ _ _)) rfl) (v7 (fr rfl rfl))) rfl (fu 0x1)
 ·exact aZ (sZ (qu (zO rfl (Hk _ _ _)) rfl) ((uc (fr rfl rfl)).trans (eZ rfl))) rfl (fu 0x1)
def ztg(hB:zY B)(hk:jf st b B)(z:Sd)(hd:dp (iT B z)<=1000){u:Tr}(hi:Dq (iT B z) (bM B z) u)(m:Nat)(h0:0<m)(hm:m<bM B z):zff [.loc b,enc (iT B z),.int m] st=.ok (.bl true) st:=by
 have cl:=zto B z hB.few;obtain⟨w,p,q⟩:=zou (j:=m) (i:=bM B z - m) (by rw[show m+(bM B z - m)=bM B z by omega];exact hi.1);have nv:=z9 hi.1 hm p;have ni:=hi.2 m w h0 hm p;have tr:=zjt (iT B z) m st 0x0;rw[zpl p]at tr;obtain⟨l,r,rfl⟩:∃l r,w=.jn l r:=by
  cases w with
  | lf s=>cases nv
  | jn l r=>exact⟨l,r,rfl⟩
 have im:=zmq hB hk l r λs _ e x y y' e2=>by
  cases v:val r with
  | false=>rfl
  | true=>exact absurd ⟨l,x,y,y',by rw[e2],by rw[e];exact O4 s,by rw[<-e2];exact v⟩ ni
 have en:=end_none (b:=b) (st:=st) nv;have vn:(if val (Tr.jn l r)=true then ([118,97,108,117,101]:List Nat) else [111,110])=[111,110]:=ae8 (by rw[nv];simp);rw[vn]at tr;exact aZ (xW (bU tr rfl) rfl (sZ (Og (dW #[0,(vy zkg)]) (dW #[0,(vy Zo)])) (eZ (Zn (aO (bU im rfl) rfl rfl) (aO (bU en rfl) rfl rfl))))) rfl (fu 0x1)
end
end Law
set_option maxHeartbeats 0
namespace Law
open L2 M Tr
abbrev TF:List Nat:=[97,98,99,100,101,102,103,104,105,106,107,108,109,110,111,112,113,114,115,116,117,118,119,120,121,122]
theorem zpr:∀cs:List Nat,qj [] (cs.map λc=>[c])=cs
 | []=>rfl
 | [c]=>rfl
 | c::d::r=>by
  have:=zpr (d::r);show [c]++[]++qj [] (([d])::r.map λc=>[c])=_;rw[show ([d]::r.map λc=>[c])=(d::r).map λc=>[c] from rfl,this];rfl
def abD:D->D
 | .int i=>.str [97+i.toNat]
 | d=>d
def zs8(xs:List Nat)(i:Nat)(n:Nat)(env:aK)(st:ak)(hi:env[i]? = some (some (.loc n)))(hn:st[n]? = some (.lst (aG xs)))(hx:∀x∈xs,x<26)(hl:xs.length<=900) :
  cI "str" rP #[1,[]] (aj (dG [none] (fB (vr i)) (aM 0) lC (aF aX #[1,TF] (vr 0))) au) env st=.ok (.str (xs.map (97 + ·))) (st++[.lst ((xs.map λx=>[97+x]).map D.str)]):=by
 have cc:=Ox (capt:=[none]) (mi:=fB (vr i)) (g:=aM 0) (e:=aF aX #[1,TF] (vr 0)) (env:=env) (st:=st) (st1:=st) (items:=aG xs) (gs:=[(n,.lst (aG xs))]) abD (λenv=>env.length=1) (by
   rw[ztp,El,hi];simp only[R.aB,hn]) rfl (by rw[Nm];omega) (λys=>wu (dC hn)) (λd hd cC ys hP=>by
  obtain⟨x,Yl,rfl⟩:=gh.mp hd;obtain⟨y,rfl⟩:=mq.mp hP;refine⟨[some (.int x)],rfl,rfl,?_⟩;have h26:=hx x Yl;have ix:aX (.str TF) (.int x) (st++[.lst ys])=.ok (.str [97+x]) (st++[.lst ys]):=by
   unfold aX;dsimp only;rw[ae7 0x5,Ou];have key:∀k:Fin 26,TF[k.val]? = some (97+k.val):=by decide
   rw[key ⟨x,h26⟩]
  rw[show abD (.int x)=.str [97+x] by simp[abD]];exists (st++[.lst ys]:ak),Z;simp[ix])
 have em:(aG xs).map abD=(xs.map λx=>[97+x]).map D.str:=by
  unfold aG;rw[gJ,gJ];exact kI λx _=>by simp[abD]
 rw[em]at cc;have sm:∀ys:List Nat,((ys.map λx=>[97+x]).map List.length).sum=ys.length:=λys=>by
  induction ys with
  | nil=>rfl
  | cons y ys ih=>rw[gq,gq,p7,ih];simp;omega
 have jn:=Iz (st:=st++[.lst ((xs.map λx=>[97+x]).map D.str)]) [] st.length (xs.map λx=>[97+x]) (by simp[aA]) (by rw[sm];simp;omega);have ej:qj [] (xs.map λx=>[97+x])=xs.map (97 + ·):=by
  have:=zpr (xs.map (97 + ·));rw[gJ]at this;exact this
 rw[ej]at jn;exists (xs.map λx=>[97+x]).map D.str,Y,dG _ _ _ _ _,CE;simp[cc,cX,jn]
structure DrB(rs:List Ru)(signs ss:List Nat):Prop where
 r1:rs.length<=12
 r2:(rs.map λr=>(r.s,r.x)).Nodup
 r3:∀r∈rs,r.s∈ss/\r.x∈95::signs/\r.w∈95::signs/\r.g∈ss
 s1:signs.length<=8
 s2:signs.Nodup
 s3:∀c∈signs,97<=c/\c<=122
 n1:0<ss.length
 n2:ss.length<=4
 n3:ss.Nodup
def ad1(k:Nat)(s:ak):bj (.int 1) (.int k) s=.ok (.int ((1+k:Nat):Int)) s:=by rw[Ep];congr 2
def lt_int{i j:Int}{c:Bool}{st:ak}(h:decide (i<j)=c):ltV (.int i) (.int j) st=.ok (.bl c) st:=by subst h;simp
def Ti(mo p:Nat)(h1:0<mo)(h4:mo<=4)(st:ak)(h:j8 st p) :
  ∃(rs:List Ru) (signs ss:List Nat) (nr ns:Nat) (g st':ak),DrB rs signs ss/\bF g/\st.length<=nr/\st.length<=ns/\st'[nr]? = some (.lst (rs.map fD))/\st'[ns]? = some (.lst (aG ss))/\zk1 [.loc p,.int mo] st=.ok (.tup [.loc nr,.str signs,.loc ns]) st'/\DS st p g st':=by
 have hp:=h.lt
 let E:Option D->Option D->Option D->aK:=λa2 a3 a4=>[some (.loc p),some (.int mo),a2,a3,a4]

 obtain⟨k1,s1,zX,e1,D1⟩:=Nj p mo st h h1 0x0;have l1:s1.length=st.length:=D1.len;obtain⟨ss,s2,q1,q2,q3,e2,d2⟩:=zow p 5001 (1+k1) s1 (D1.at_ hp) 0x0 0x0 0x0 0x0;have D2:=D1.trans d2 hp;rw[m8]at D2;rw[l1]at e2;have n2:s2[st.length]? = some (.lst (aG ss)):=D2.last (i:=0) rfl

 let s3:ak:=s2++[.lst [.int 3,.int 9]]
 have D3:DS st p [.lst (aG ss),.lst [.int 3,.int 9]] s3:=by
  obtain⟨f,v,n,e⟩:=D2;exact⟨f,v,n,by simp[s3,e]⟩
 have le:dj [.loc st.length] s3=.ok (.int ss.length) s3:=by
  have:=Hq (st:=s3) (n:=st.length) (ds:=aG ss) (by unfold aA;rw[dC n2]);rwa[Nm]at this
 let ms:Nat:=if ss.length<3 then 9 else 3
 have hms:0<ms/\ms<=9:=by simp only[ms];split<;>omega
 have it:aA s3 s2.length=some [.int 3,.int 9]:=by simp[aA,s3]
 have ms3:aF aX (d_ #[5,#[4,3],#[4,9]]) (bD Fw (aj (aF ltV (bD dj #[6,2]) #[4,3]) au)) (E (some 0x3) none none) s2=.ok (.int ms) s3:=by
  by_cases hc:ss.length<3
  ·simp only[ms,hc,ae7];exact aO (Zy rfl) (sW (show Fw [.bl true] s3=.ok (.int 1) s3 from rfl) (aY (aO (sW le rfl) rfl (lt_int (afb 0x0))) rfl)) (v8 _ _ _ _ _ it rfl)
  ·simp only[ms,hc,ae8,not_false_eq_true];exact aO (Zy rfl) (sW (show Fw [.bl false] s3=.ok (.int 0) s3 from rfl) (aY (aO (sW le rfl) rfl (lt_int (ae_ 0x0))) rfl)) (v8 _ _ _ _ _ it rfl)

 obtain⟨k5,s5,hk5,e5,d5⟩:=Nj p ms s3 (D3.at_ hp) 0x0 0x0;have D5:=D3.trans d5 hp;rw[gw]at D5;have l5:s5.length=st.length+2:=D5.len;obtain⟨xs,s6,r1,r2,r3,e6,d6⟩:=zow p 26 k5 s5 (D5.at_ hp) 0x0 0x0 0x0 0x0;have D6:=D5.trans d6 hp;rw[l5]at e6;have n6:s6[st.length+2]? = some (.lst (aG xs)):=D6.last (i:=2) rfl;have jl:=zs8 xs 3 (st.length+2) (E (some 0x3) (some (.loc (st.length+2))) none) s6 rfl n6 r3 0x0
 let signs:List Nat:=xs.map (97 + ·)
 let s7:ak:=s6++[.lst ((xs.map λx=>[97+x]).map D.str)]
 have D7:DS st p ([.lst (aG ss),.lst [.int 3,.int 9],.lst (aG xs)]++[.lst ((xs.map λx=>[97+x]).map D.str)]) s7:=by
  obtain⟨f,v,n,e⟩:=D6;exact⟨f,v,n,by show s6++_=_;rw[e,gW];rfl⟩

 obtain⟨k8,s8,hk8,e8,d8⟩:=Nj p 12 s7 (D7.at_ hp) 0x0 0x0;rw[show ((12:Nat):Int)=12 from rfl]at e8;have D8:=D7.trans d8 hp;rw[gw]at D8;have n8:s8[st.length]? = some (.lst (aG ss)):=D8.last (i:=0) rfl;have sl:signs.length=xs.length:=by simp[signs]
 obtain⟨rs,g9,s9,u1,u2,u3,u4,e9,d9⟩:=Ig p st.length (1+k8) signs ss s8 (D8.at_ hp) n8 0x0 0x0 0x0 0x0 0x0;have D9:=D8.trans d9 hp;have l8:s8.length=st.length+4:=D8.len;rw[l8]at e9;have body:zui (E none none none) st=.ok (.rt (.tup [.loc (st.length+4),.str signs,.loc st.length])) s9:=by
  refine cB (bU e2 (aY rfl (aY rfl (aY (aO rfl (bU e1 rfl) (ad1 _ _)) rfl)))) ?_;refine cB (bU e6 (aY rfl (aY rfl (aY (bU e5 #[11,ms3]) rfl)))) ?_;refine cB jl ?_;exact eZ (wz (aY (bU e9 (aY rfl (aY rfl #[11,(aO rfl (bU e8 rfl) (ad1 _ _))]))) rfl))
 have n9:s9[st.length+4]? = some (.lst (rs.map fD)):=by rw[<-l8];exact d9.last (i:=0) rfl
 have m9:s9[st.length]? = some (.lst (aG ss)):=D9.last (i:=0) rfl;refine⟨rs,signs,ss,st.length+4,st.length,_,s9,⟨by omega,u2,u3,by omega,?_,?_,by omega,by omega,q2⟩,?_,by omega,by omega,n9,m9,?_,D9⟩
 ·show (xs.map (97 + ·)).Nodup;exact List.Pairwise.map _ (λa b hab e=>hab 0x0) r2
 ·intro c hc;obtain⟨x,hx,rfl⟩:=gh.mp hc;have:=r3 x hx;show 97<=97+x/\97+x<=122;omega
 ·simp[u4]
 ·unfold zk1 bC bB;rw[show startM 5 [D.loc p,.int mo]=E none none none from rfl,body];show gc st (.ok _ s9)=_;unfold gc;dsimp only;rw[ae8 (λq=>by have:=q.2;simp at this)]
def Aj{α:Type}{f:Bool}{v n:Int}(xs:List α)(g:α->D)(hg:∀x b,g x≠.bl b):(MO.lst (xs.map g))≠jQ f v n:=by
 cases xs with
 | nil=>simp[jQ]
 | cons x xs =>
  intro e;unfold jQ at e;injection e with e;rw[gq]at e;injection e with e _;exact hg _ _ e
def V4(r:Ru)(b:Bool):fD r≠.bl b:=by rw[Oe];simp
def YM(t:Tr)(b:Bool):enc t≠.bl b:=by cases t<;>simp[enc]
def jf.dr{st st':ak}{b p:Nat}{B:Bk}(h:jf st b B)(k:Keeps st st' [p])(hp:j8 st p):jf st' b B:=by
 obtain⟨f,v,n,hp⟩:=hp;have ne:∀j o,st[j]? = some o->o≠jQ f v n->st'[j]? = some o:=λj o hj hn=>k j o (λhm=>by
  obtain rfl:=h_.mp hm;rw[hp]at hj;cases hj;exact hn rfl) hj
 have mv:∀q m,dz st q m B.ls->dz st' q m B.ls:=λq m hm=>by
  obtain⟨w,W,h1,h2,h3⟩:=hm;refine⟨w,W,ne _ _ h1 (by simp[jQ]),ne _ _ h2 (by simp[jQ]),λc hc=>?_⟩;obtain⟨q,q1,q2⟩:=h3 c hc;exact⟨q,q1,ne _ _ q2 (by simp[jQ,Ua])⟩
 obtain⟨fs,ns,nk,nt,nm,ml,mr,nr,xu,h1,h2,h3,h4,h5,h6⟩:=h.ex;refine⟨fs,ns,nk,nt,nm,ml,mr,nr,xu,⟨ne _ _ h1.o (by simp[jQ]),h1.f1,h1.f2,h1.f3,h1.f4,h1.f5,h1.f6,ne _ _ h1.s (Aj _ _ 0x1),ne _ _ h1.k (by simp[jQ]),ne _ _ h1.t (by simp[jQ]),ne _ _ h1.m (by simp[jQ]),mv _ _ h1.l,mv _ _ h1.r⟩,h2,ne _ _ h3 (Aj _ _ YM),h4,ne _ _ h5 (Aj _ _ V4),h6⟩
def J3{c:PySem.Str}{F:FD}{mA:MA}{env:aK}{X X' X1:ak}{as:List D}(ha:mA env X=.ok as X')(hf:F (.loc X'.length::as) (X'++[.ins c []])=.ok .non X1):jK c F mA env X=.ok (.loc X'.length) X1:=by
 unfold jK;rw[ha,R.aB,hf];rfl
def Ma(ns:List Int)(k:Nat)(mx:ME)(q:Int)(env:aK)(st:ak)(h0:env[0]? = some (some (.loc 0)))(hx:mx env st=.ok (.int q) st)(hi:aA st 0=some (ns.map D.int))(hk:k<=10000) :
  d_ (aj #[8,(M.ig 800),mx] #[5,(az T5 [] #[3,0,#[4,k]]),#[4,0]]) env st=.ok 0x3 (st++[jQ (decide (q=1)) (zy ns k) 0]):=by
 have ce:=De ns 0 k st hi hk;unfold jQ;exists (k:Int),K;simp[h0,hx,ce]
def abL{x:R Out}{f:Out->ak->R D}{S X:ak}{c:Bool}(h:x=.ok (.rt (.bl c)) X)(hf:f (.rt (.bl c)) X=.ok (.bl c) X):∃st,gc S (x.bind f)=.ok (.bl c) st:=by
 rw[h,R.aB,hf];unfold gc;dsimp only
 split
 ·exact⟨_,rfl⟩
 ·exact⟨_,rfl⟩
def moD(c:Int):D->D
 | .int i=>.int (1+i % c)
 | d=>d
theorem zlv{B:Bk}{b:Nat}{st:ak}(hB:zY B)(hk:jf st b B)(z:Sd)(hd:dp (iT B z)<=1000){u:Tr}(hi:Dq (iT B z) (bM B z) u)(n:Nat)(gs:List (Nat×MO))(hg:uO gs st)(e0:List (Option D))(e1:List (Option D)){BD:MS}
  (YH:∀(m:Nat),0<m->m<bM B z->BD (e0++some (.int m)::e1) st=.ok (.nx (e0++some (.int m)::e1)) st):∀(ms:List Nat) (a:Option D),(∀m∈ms,0<m/\m<bM B z)->∃a',bY (aM e0.length) BD gs (aG ms) (e0++a::e1) st=.ok (.nx (e0++a'::e1)) st
 | [],a,_=>⟨a,by rw[show aG []=[] from rfl,bY,ae7 hg]⟩
 | m::ms,a,h=>by
  obtain⟨a',q⟩:=zlv hB hk z hd hi n gs hg e0 e1 YH ms (some (.int m)) λx hx=>h x (by simp[hx]);refine⟨a',?_⟩;rw[show aG (m::ms)=.int m::aG ms from rfl,bY,ae7 hg,show aM e0.length (.int m) (e0++a::e1) st=.ok (e0++some (.int m)::e1) st by simp[aM],R.aB,YH m (h m 0x1).1 (h m 0x1).2,R.aB];exact q
def law_true(ns:List Int)(FJ:ns.length<=63):∃st,zl9 [.loc 0] [.frz (ns.map D.int),.tab "out_and_cost",.tab "put_in"]=.ok (.bl true) st:=by
 generalize hS0:([.frz (ns.map D.int),.tab "out_and_cost",.tab "put_in"]:ak)=S0;have it0:aA S0 0=some (ns.map D.int):=by subst hS0;rfl
 have f0:S0[0]? = some (.frz (ns.map D.int)):=by subst hS0;rfl
 have hb0:Bs S0:=by subst hS0;exact⟨rfl,rfl,by intro o ho;simp at ho;rcases ho with rfl | rfl | rfl<;>rfl⟩
 have hl0:S0.length=3:=by subst hS0;rfl
 clear hS0
 let h:Int:=zy ns 0
 have ce:∀S:ak,S[0]? = some (.frz (ns.map D.int))->T5 [.loc 0,.int 0] S=.ok (.int h) S:=λS hS=>De ns 0 0 S (by unfold aA;rw[hS]) 0x0;have mo:∀(i j:Int) s,0<j->jJ (.int i) (.int j) s=.ok (.int (i % j)) s:=λi j s hj=>zh0 s i j hj

 let S1:ak:=S0++[jQ (decide (h % 2=1)) (zy ns 1) 0]
 have hd1:j8 S1 3:=⟨_,_,_,by rw[<-hl0];simp[S1];rfl⟩;have c1:bF S1:=(zfx _ _).mpr ⟨hb0.c,by simp[jQ]⟩;have k1:Keeps S0 S1 []:=Keeps.app _ _;have l1:S1.length=4:=by simp[S1,hl0]

 obtain⟨rs,signs,ss,nr,QZ,g2,S2,dB,cg2,hnr,aeP,r2,n2,e2,D2⟩:=Ti 2 3 0x0 0x0 S1 hd1;have c2:bF S2:=D2.clo c1 cg2;have k2:=D2.keeps;have hd2:j8 S2 3:=D2.at_ 0x0;have K8:4<=S2.length:=by rw[D2.len];omega
 let B:Bk:=⟨95::signs,ss,rs⟩
 have n95:95∉signs:=λq=>by have:=dB.s3 95 q;omega
 have hB:zY B:={
  ok:={
   nl:=mH.mpr ⟨n95,dB.s2⟩
   ns:=dB.n3
   bl:=pG ..
   z:=λq=>by
    rcases gm.mp q with q | q
    ·omega
    ·have:=dB.s3 0 q;omega
   many:=kh dB.n2 0x0
   ru:=λr hr=>⟨(dB.r3 r hr).2.2.2,(dB.r3 r hr).2.2.1⟩ }
  wR:=λc hc=>by
   rcases gm.mp hc with q | q
   ·exact .inl q
   ·exact .inr (dB.s3 c q)
  few:=by have:=dB.s1;show (95::signs).length<=9;simp;omega
  x:=λr hr=>(dB.r3 r hr).2.1
  ss:=kh dB.n2 0x0
  s0:=dB.n1
  rs:=kh dB.r1 0x0 }
 let b:Nat:=S2.length+2
 let S4:ak:=S2++[.lst (rs.map fD),.lst (aG ss)]
 let Y8:ak:=S4++[.ins "Book" []]
 have l4:S4.length=b:=by simp[S4,b]
 have k4:Keeps S2 Y8 []:=(Keeps.app _ _).trans (Keeps.app _ _);have c4:bF Y8:=(zfx _ _).mpr ⟨(zfx _ _).mpr ⟨c2,by simp⟩,by intro o ho;obtain rfl:=h_.mp ho;rfl⟩;have k04:Keeps S0 Y8 [3]:=((k1.more).trans k2).trans k4.more;have hb4:Bs Y8:=hb0.keeps k04 0x1 0x1 c4;obtain⟨S5,e5,k5,bk5,c5⟩:=znz B hB signs rfl b S2.length (S2.length+1) Y8 hb4 (by rw[<-l4];simp[Y8]) (dC (by simp[S4];rfl)) (dC (by simp[S4];rfl));have wk:∀j o,S2[j]? = some o->S5[j]? = some o:=λj o hj=>k5 _ _ (λhm=>by
  have:=h_.mp hm;have:=(gf.mp hj).1;omega) (k4 _ _ 0x1 hj)
 have hd5:j8 S5 3:=by
  obtain⟨f,v,n,q⟩:=hd2;exact⟨f,v,n,wk _ _ q⟩

 obtain⟨z,g6,S6,z1,z2,z3,z4,z5,z6,cg6,e6,D6⟩:=HQ 3 nr QZ 3 signs ss rs S5 hd5 (wk _ _ r2) 0x0 (wk _ _ n2) 0x0 dB.n1 (by have:=dB.n2;omega) (by have:=dB.s1;omega) 0x0 (by have:=dB.r1;omega) (λr hr=>⟨(dB.r3 r hr).1,(dB.r3 r hr).2.1⟩);have k6:=D6.keeps;have c6:bF S6:=D6.clo c5 cg6;have bk6:jf S6 b B:=bk5.dr k6 hd5;have k46:Keeps Y8 S6 [3,b]:=λj o hj ho=>k6 _ _ (λq=>hj (by simp at q;simp[q])) (k5 _ _ (λq=>hj (by simp at q;simp[q])) ho);have hb2:(0:Nat)≠b/\(1:Nat)≠b/\(2:Nat)≠b:=by simp only[b];omega
 have hb6:Bs S6:=hb4.keeps k46 (by simp;exact hb2.2.1) (by simp;exact hb2.2.2) c6;have f6:S6[0]? = some (.frz (ns.map D.int)):=k46 _ _ (by simp[hb2.1]) (k04 _ _ 0x1 f0);have hz:GQ B z:=⟨z1,z2,z3,z4⟩;have r6:S6[nr]? = some (.lst (B.rs.map fD)):=k6 _ _ 0x9 (wk _ _ r2);have n6:S6[QZ]? = some (.lst (aG ss)):=k6 _ _ 0x9 (wk _ _ n2);have hss:=dB.n2;have cst:=zoa hB hb6 bk6 z hz 0x0 0x0;have im:=zm2 hB hb6 bk6 z hz 0x0 0x0;have it:=zg6 hB hb6 bk6 z hz 0x0 0x0;have cl:=zto B z hB.few;have c2':2<=bM B z:=by unfold bM qF;omega
 have fz:∀(y:Sd) (S:ak),M.ig 800 (lM y) (lM y) S=.ok (.bl true) S:=λy S=>Eo (st:=S) 800 (lM y) (by simp[lM]) (by simp[lM]);have le:=Hq (st:=S6) (n:=QZ) (ds:=aG ss) (by unfold aA;rw[n6]);rw[Nm]at le;have le2:dj [.str signs] S6=.ok (.int signs.length) S6:=zgl _ signs (by have:=dB.s1;omega);have m1:jk (.int 20) (.int ss.length) S6=.ok (.int (20*(ss.length:Nat))) S6:=Ot S6 20 _ 0x0;have m2:jk (.int 200) (.int signs.length) S6=.ok (.int (200*(signs.length:Nat))) S6:=Ot S6 200 _ 0x0;have g1:ltV (.int (bM B z:Nat)) (.int 1) S6=.ok (.bl false) S6:=by rw[Iw,ae_ 0x0]
 have g2:CK (.int (bM B z:Nat)) (.int (2000+20*(ss.length:Nat)+200*(signs.length:Nat))) S6=.ok (.bl false) S6:=by
  simp;omega
 have dI:=R_ hB.ok hB.few hz 3 0x0 0x0;have hs:=hB.ss;have hdI:dp (iT B z)<=1000:=by omega

 let cs:List Int:=cut ns (some 2) (some 5)
 let ca:Nat:=bM B z - 1
 have YD:((bM B z:Nat):Int) - 1=(ca:Nat):=by simp only[ca];omega
 let C7:MO:=.lst (cs.map D.int)
 let ms:List Nat:=cs.map λc=>1+(c % (ca:Int)).toNat
 have hms:∀m∈ms,0<m/\m<bM B z:=λm hm=>by
  obtain⟨c,_,rfl⟩:=gh.mp hm;have q1:=pN c (b:=(ca:Int)) (by simp only[ca];omega);have q2:=qg c (b:=(ca:Int)) (by simp only[ca];omega);simp only[ca]at q1 q2 ⊢;omega
 have em:(cs.map D.int).map (moD (ca:Int))=aG ms:=by
  unfold aG;rw[gJ,gJ];refine kI λc _=>?_;have q1:=pN c (b:=(ca:Int)) (by simp only[ca];omega);show D.int (1+c % (ca:Int))=D.int ((1+(c % (ca:Int)).toNat:Nat):Int);congr 1;omega
 have ad7:cut (ns.map D.int) (some 2) (some 5)=cs.map D.int:=by
  unfold cs cut;rw[gj];simp only[List.map_drop,List.map_take]
 have cl0:cs.length<=63:=by
  unfold cs cut;simp;omega
 let S7:ak:=S6++[C7]
 have sl:xQ (.loc 0) (some 2) (some 5) S6=.ok (.loc S6.length) S7:=by
  unfold xQ;simp only[aA,f6];rw[ad7]
 have cm:∀(e1 e2 e3 e4 e5 e6:Option D) (er:aK),dG [some 7,none] (fB (G8 (vr 0) (Hc #[4,2]) (Hc #[4,5]))) (aM 1) (d7 #[8,CK,(vr 0)]) (aF bj #[4,1] (aF jJ (vr 1) #[8,rE,(vr 0)])) (some (.loc 0)::e1::e2::e3::e4::e5::e6::some (.int (bM B z:Nat))::er) S6=.ok (.loc S7.length) (S7++[.lst (aG ms)]):=λe1 e2 e3 e4 e5 e6 er=>by
  have:=zir (capt:=[some 7,none]) (mi:=fB (G8 (vr 0) (Hc #[4,2]) (Hc #[4,5]))) (g:=aM 1) (t:=d7 #[8,CK,(vr 0)]) (e:=aF bj #[4,1] (aF jJ (vr 1) #[8,rE,(vr 0)])) (env:=some (.loc 0)::e1::e2::e3::e4::e5::e6::some (.int (bM B z:Nat))::er) (λ_=>true) (moD (ca:Int)) (λenv=>∃x,env=[some (.int (bM B z:Nat)),x]) (zob (zpu rfl rfl rfl sl) (oX (k:=0) rfl)) ⟨_,rfl⟩ 0x9 (λys=>wu (dC (oX (k:=0) rfl))) (λd hd cC ys hP=>by
   obtain⟨i,_,rfl⟩:=gh.mp hd;obtain⟨x,rfl⟩:=hP;exact⟨[some (.int (bM B z:Nat)),some (.int i)],⟨_,rfl⟩,rfl,dW #[0,0x9],λ_=>aO rfl (aO rfl #[0,(zke _ _ _)] (mo _ _ _ 0x0)) (add_int (by rw[YD]))⟩)
  rw[List.filter_eq_self.mpr 0x1,em]at this;exact this
 let S8:ak:=S7++[.lst (aG ms)]
 let S9:ak:=S8++[.lst [.int 1,.int ca]]
 obtain⟨v,hv,hix⟩:∃v:Nat,(0<v/\v<bM B z)/\qJ [D.int 1,.int ca] (h / 2 % 2)=some (.int v):=by
  rcases Int.emod_two_eq (h / 2) with q | q
  ·exact⟨1,by omega,by rw[q];rfl⟩
  ·exact⟨ca,by simp only[ca];omega,by rw[q];rfl⟩
 have ix9:aX (.loc S8.length) (.int (h / 2 % 2)) S9=.ok (.int v) S9:=v8 _ _ _ _ _ (by unfold aA;rw[oX (k:=0) rfl]) hix
 let SA:ak:=S9++[.lst [.int v]]
 let SB:ak:=SA++[.lst (aG (ms++[v]))]
 have k78:Keeps S6 S8 []:=(Keeps.app _ _).trans (Keeps.app _ _);have kA:Keeps S6 SA []:=(k78.trans (Keeps.app _ _)).trans (Keeps.app _ _);have kB:Keeps S6 SB []:=kA.trans (Keeps.app _ _);have hbB:Bs SB:=((((hb6.app (g:=[C7]) (by simp[C7])).app (g:=[.lst (aG ms)]) 0x1).app (g:=[.lst [.int 1,.int ca]]) 0x1).app (g:=[.lst [.int v]]) 0x1).app 0x1;have bkB:jf SB b B:=bk6.mono kB;have g8:SA[S7.length]? = some (.lst (aG ms)):=dC (dC (oX (k:=0) rfl));have g9:SA[S9.length]? = some (.lst [.int v]):=oX (k:=0) rfl;have ad:bj (.loc S7.length) (.loc S9.length) SA=.ok (.loc SA.length) SB:=by
  unfold bj;simp only[g8,g9];rw[ae7 (by rw[Nm];simp[ms];omega)];simp[SB,aG]
 have gB:SB[SA.length]? = some (.lst (aG (ms++[v]))):=oX (k:=0) rfl;have si:=HN hB.ok z hz.c;obtain⟨u,hu⟩:∃u,Dq (iT B z) (bM B z) u:=by
  cases e:WX B z with
  | none=>rw[e]at si;exact⟨_,si⟩
  | some y=>rw[e]at si;exact⟨_,si⟩
 have tr:=zjt (iT B z) (bM B z) SB 0x0;have nx:=Q5 B nr z SB (kB _ _ 0x1 r6) 0x0 0x0;obtain⟨a',hm⟩:=zlv hB bkB z hdI hu 0 [(SA.length,.lst (aG (ms++[v])))] (wu gB) [some (.loc 0),some (.loc 3),some (.loc nr),some (.str signs),some (.loc QZ),some (.loc b),some (lM z),some (.int (bM B z:Nat)),some (enc (iT B z)),some (.loc SA.length)] [none,none] (BD:=fJ (tW (jP (az zff [] (aj (vr 5) #[3,8,(vr 10)])))) (retS (ct (.bl false))) bI) (λm p q=>Ol (yF (qu (bU (ztg hB bkB z hdI hu m p q) rfl) rfl))) (ms++[v]) none (λm q=>by
  rcases mz.mp q with q | q
  ·exact hms m q
  ·rw[h_.mp q];exact hv)
 have dv:∀(i j:Int) s,0<j/\j<2 ^ 64->ql (.int i) (.int j) s=.ok (.int (i / j)) s:=λi j s hj=>zf3 s i j hj;have g3:∀S,CK (.int (bM B z:Nat)) (.int 1) S=.ok (.bl true) S:=λS=>by rw[zno,afb 0x0]
 have sb1:∀S,rE (.int (bM B z:Nat)) (.int 1) S=.ok (.int ca) S:=λS=>by rw[zke,YD]
 unfold zl9 bC bB zpx;refine abL (X:=SB) (cB (Ma ns 1 _ (h % 2) _ S0 rfl (aO (bU (ce S0 f0) rfl) rfl (mo _ _ _ 0x0)) it0 0x0) ?_) rfl;rw[hl0];refine xW (bU e2 rfl) rfl (cB (J3 (X':=S4) (aY (sW (zkp r2) rfl) (aY rfl (aY (sW (zkp (dC n2)) rfl) (by simp[S4];rfl)))) (by rw[l4,gQ];exact e5)) ?_);rw[l4];refine cB (bU e6 rfl) (cB (bU cst rfl) (cB (bU im rfl) (sZ (Og (dW (aO (bU it rfl) rfl (vy (fz z _)))) (Og (dW #[0,g1]) (dW (aO rfl (aO (aO rfl (aO rfl (sW le rfl) m1) rfl) (aO rfl (sW le2 rfl) m2) rfl) g2)))) (cB (cm _ _ _ _ _ _ _) ?_))));refine (uc (qQ (dW #[0,(g3 _)]) (GX (aO rfl (Zy (aY (aO (Zy #[11,#[0,(sb1 _)]]) (aO (aO (bU (ce S9 (dC (k78 _ _ 0x1 f6))) rfl) rfl (dv _ _ _ 0x0)) rfl (mo _ _ _ 0x0)) ix9) rfl)) ad)))).trans ?_;refine GZ (zsg rfl gB) hm (cB (bU nx rfl) (cB (aO (bU tr rfl) rfl f9) ?_));rw[zpl hu.1];cases e:WX B z with
 | some y =>
  rw[e]at si;have eu:u=iT B y:=afa (hu.1.symm.trans si.1);subst eu;have oy:GQ B y/\y.a.length<=200/\y.b.length<=200:=by
   unfold WX at e;obtain⟨r,hf,rfl⟩:=nA.mp e;refine⟨hz.go hB.ok (pA hf),?_⟩;unfold Aw
   split
   ·exact⟨by simp;omega,by simp;omega⟩
   ·exact⟨by simp;omega,by simp;omega⟩
  have it2:=zg6 hB hbB bkB y oy.1 0x0 0x0;exact sZ (dW #[0,rfl]) (eZ (Zn (aO (bU it2 rfl) rfl (fz y _)) (aO (bU (end_none (Yi y)) rfl) rfl rfl)))
 | none =>
  rw[e]at si;have eu:u=R7 B z:=afa (hu.1.symm.trans si.1);subst eu;have et:=zq1 hB hbB bkB z hz 0x0 0x0 hs;have ino:Nz [.loc b,enc (R7 B z)] SB=.ok .non SB:=zmq hB bkB (.jn tS (hold [xr B z.s,iB B z.a,dq B z.c])) (.jn tK (iB B z.b)) λs _ q=>by
   injection q with q _;cases q
  exact v7 (qQ (dW #[0,rfl]) (eZ (Zn (aO (bU et rfl) rfl (fz z _)) (aO (bU ino rfl) rfl rfl))))
end Law
open PySem PySem.W PyProof.Rows
namespace PySem.W.Fast
def tw622550196153012409:=()
def tw12538822695774773701:=()
def tw13219355549655148589:=()
def tw2041421472258523530:=()
def tw17404703330073860250:=()
def tw6853520418593428513:=()
def tw6438446367659216348:=()
def tw1917198231238667400:=()
def tw11586884489454384206:=()
def tw10222642316920499265:=()
def tw1630831719380270027:=()
def tw8184724981912695535:=()
def tw5029202899967816713:=()
def tw14075732100074023771:=()
def tw11993585540066210374:=()
def tw8737720742431992426:=()
def tw17341716363251516138:=()
def tw12614450102148323981:=()
def tw12401010104249655594:=()
def tw1933268178635232801:=()
def tw2608853013417283421:=()
def tw18001771728052840578:=()
def tw13047249689297900925:=()
def tw17240069266780697955:=()
def tw17165792818873709583:=()
def tw5086541192486662350:=()
def tw6230362882595012690:=()
def tw9860757085762773611:=()
def tw9753892466631723900:=()
def tw18211567508675370723:=()
def tw5440902946651360927:=()
def tw5544492246948313505:=()
def tw2459112802027703666:=()
def tw9383057836145087230:=()
def tw17374845485030828434:=()
def tw17752103988781940585:=()
def tw13827554821973528651:=()
def tw10722083779666497167:=()
def tw7935103670168777206:=()
def tw3320683497229695395:=()
def tw13376983614364527290:=()
def tw1235707128962267762:=()
def tw205107198029448866:=()
def tw14949585050044356704:=()
def tw15048035642170497904:=()
def tw13021141925480176518:=()
def tw9331721393404206669:=()
def tw14357650287025075060:=()
def tw14037090999476072279:=()
def tw9709393768975461649:=()
def tw9044282529378294102:=()
def tw15628524025563089214:=()
def tw7569501216035004037:=()
def tw7132486009504016460:=()
def tw886809672266202300:=()
def tw5166088897635626776:=()
def tw6301386380381748762:=()
def tw6349337115881700419:=()
def tw14631990265950256816:=()
def tw18233325383394286908:=()
def tw2597037595754324445:=()
def tw5279388647982703585:=()
def tw16180405668906065064:=()
def tw7221954716848234393:=()
def tw7650147869515314584:=()
def tw12217666707093886263:=()
def tw16988031831494231687:=()
def tw606662638638205847:=()
def tw5407955673004562127:=()
def tw8167153807601862211:=()
def tw12798290918433251040:=()
def tw13191527282121226882:=()
def tw14655628032957865963:=()
def tw2261291730666089742:=()
def tw16654862795531733975:=()
def tw2754271725847026361:=()
def tw13910066632626337927:=()
def tw9669917196044115890:=()
def tw5502613870492517396:=()
def tw13144112500638821107:=()
def tw17153310590533459149:=()
def tw13592308319548905358:=()
def tw2628554814334263984:=()
def tw2193228994739983709:=()
def tw3088030846213380259:=()
def tw2254019775743900223:=()
def tw153216443568418469:=()
def tw906850309676474782:=()
def tw8642113012702730065:=()
def tw7645951801317703171:=()
def tw2361069629848938980:=()
def tw14553845791288449118:=()
def tw4983716337639788378:=()
def tw915810230318902015:=()
def tw15324101181203727865:=()
def tw5683423914389000531:=()
def tw12882212885867982121:=()
def tw2042410086073443191:=()
def tw4909232687172541333:=()
def tw3447553080779963318:=()
def tw9093706864819424074:=()
def tw12158008338774402198:=()
def tw3283908652529705165:=()
def tw4640536207405947105:=()
def tw9708594748633186756:=()
def tw8331919475721483881:=()
def tw8360852526141791294:=()
def tw13252367380291008518:=()
def tw11152629722376559145:=()
def tw2214988049679028925:=()
def tw6731180346017328468:=()
def tw13251195188297497296:=()
def tw16006856527568134351:=()
def tw7094112375675475502:=()
def tw4601148028509909890:=()
def tw12717741123295450103:=()
def tw14755670305788996732:=()
def tw15614101223407120373:=()
def tw6549395506884270806:=()
def tw9921642268312242468:=()
def tw6770855334330710147:=()
def tw12308130461089867268:=()
def tw11055859812984427856:=()
def tw13994089241905684794:=()
def tw12937038902456670639:=()
def tw2653611847810785079:=()
def tw15827860084124094263:=()
def tw3352585391430744793:=()
def tw5749252954002305098:=()
def tw10525294792356209789:=()
def tw17715882020403113205:=()
def tw17388887458004961238:=()
def tw16059006063618353130:=()
def tw5874632837536607830:=()
def tw14233376257635794473:=()
def tw10884747985519281377:=()
def tw13981796957874502749:=()
def tw5968032093749183878:=()
def tw17598003196674540419:=()
def tw10627855641095022768:=()
def tw13641196710700436220:=()
def tw3898579978601985411:=()
def tw12530930910380988091:=()
def tw13292185995988442942:=()
def tw13219267764567574355:=()
def tw16156258455058606728:=()
def tw9832839143173706399:=()
def tw1135858876196472039:=()
def tw4326912164512607633:=()
def tw16436337358045707048:=()
def tw17429182872009665824:=()
def tw7151896116007291925:=()
def tw3059124502748922173:=()
def tw9965370666938860681:=()
def tw6204859524717447120:=()
def tw5250693739012443609:=()
def tw5149762698680384798:=()
def tw6932116500613640302:=()
def tw8040364003003998255:=()
def tw4759946612738584984:=()
def tw17346994529182442560:=()
def tw5200606479916193782:=()
def tw4165067420636839942:=()
def tw16412208395984788994:=()
def tw14355449780753300866:=()
def tw460484091457892856:=()
def tw611467767396145319:=()
def tw1635625767952993979:=()
def tw17296281663281992126:=()
def tw1152339150800056293:=()
def tw3131931020365170314:=()
def tw4160653474343159621:=()
def tw8968620715406716718:=()
def tw1996706975276510111:=()
def tw5987198185859740073:=()
def tw7177303553996016068:=()
def tw4689097569992190585:=()
def tw10483170160869075134:=()
def tw13098389239250356126:=()
def tw12539674552953063038:=()
def tw7204543531204815244:=()
def tw4555971217087315108:=()
def tw14075935856651546863:=()
def tw16466682189750223837:=()
def tw2352940448341338264:=()
def tw5840326033593192250:=()
def tw5162160447295941455:=()
def tw15063875052676995868:=()
def tw7521341172717173877:=()
def tw1318331549799306628:=()
def tw13245335076469783806:=()
def tw481046338686857197:=()
def tw7055725527024561706:=()
def tw18241436598237614756:=()
def tw2854639982828718526:=()
def tw9453079485716141404:=()
def tw127734222496251532:=()
def tw13434058612004165277:=()
def tw5435975027618431559:=()
def tw11524396027694538890:=()
def tw6608615833346627855:=()
def tw4704255417686013738:=()
def tw4252051696412905010:=()
def tw16155083893402242978:=()
def tw11473671025350710610:=()
def tw7145114580365202507:=()
def tw12925965623299531646:=()
def tw18217298607848734630:=()
def tw13680931418152326550:=()
def tw2291192956128766262:=()
def tw8179868983424607000:=()
def tw5488996165077757575:=()
def tw2321549077852090787:=()
def tw17753580920432293007:=()
def tw14655623352161800392:=()
def tw8113174700746525407:=()
def tw7198496559571948131:=()
def tw9453948925448089297:=()
def tw7836357367777488163:=()
def tw5462428191503089626:=()
def tw15260855001348906874:=()
def tw15137715306408892950:=()
def tw14281969828737894005:=()
def tw10601173265878561272:=()
def tw10171116489349965474:=()
def tw184658188319263370:=()
def tw18318768121290712388:=()
def tw16693527690117842952:=()
def tw15734876814616188731:=()
def tw14553278071380183236:=()
def tw14047177229604204167:=()
def tw915721146043602803:=()
def tw8353541388496428574:=()
def tw7431790903686611663:=()
def tw7067071191113287918:=()
def tw6864953458343455311:=()
def tw5797549782843015744:=()
def tw461582109450753343:=()
def tw3009409020770085173:=()
def tw13750922694538963967:=()
def tw12109105258740676677:=()
def tw14312307704905358082:=()
def tw5644592280068466255:=()
def tw5617635672605124102:=()
def tw4345156780972551841:=()
def tw18271084164718000357:=()
def tw14070070688728523009:=()
def tw10901388831225446220:=()
def tw259309616678211539:=()
def tw11677909031344032679:=()
def tw10255798890142182679:=()
def tw10177318743237536494:=()
def tw9699380641308207735:=()
def tw8787838108136598733:=()
def tw773632128475851513:=()
def tw1731398661873040105:=()
def tw16320459612584168486:=()
def tw14606351243980704442:=()
def tw3034656125108795659:=()
def tw12014259792687256840:=()
def tw793980553743901127:=()
def tw2469305779112338368:=()
def tw14051855823504851420:=()
def tw11110457484607017576:=()
def tw13948050264419730659:=()
def tw11784767345887319960:=()
def tw18090142696210299684:=()
def tw18277672505015461217:=()
def tw4130106279093381614:=()
def tw16762148867661677650:=()
def tw802438733898686383:=()
def tw5190325377561563025:=()
def tw4863207774725975124:=()
def tw3885109966880148397:=()
def tw13215514781028555844:=()
def tw8942118937271350379:=()
def tw15060238746983561292:=()
def tw14938117463971879791:=()
def tw10105763060562614922:=()
def tw12105838698255673660:=()
def tw2412691926357892154:=()
def tw4729942828590833234:=()
def tw3058607989164808794:=()
def tw13811379458713056483:=()
def tw11046812910000156771:=()
def tw9080275784954636208:=()
def tw1879219409025794430:=()
def tw7549428583065032260:=()
def tw17958922228580222365:=()
def tw7330341502518030279:=()
def tw17023813505527360495:=()
def tw16841845190735983797:=()
def tw9899133665245433714:=()
def tw3314027810418172826:=()
def tw13892962569241571131:=()
def tw6061050521043018561:=()
def tw6861876172709145797:=()
def tw4798914255897382921:=()
def tw14625493229770072355:=()
def tw2611656638623287128:=()
def tw14829975634454020133:=()
def tw8908519461683034258:=()
def tw6905765083233426644:=()
def tw13138139620540778679:=()
end PySem.W.Fast
set_option maxRecDepth 100000 in
set_option maxHeartbeats 0 in
theorem PySem.Challenge.cw_oneofall_k76_no_image_between_holds : PySem.Challenge.rw_oneofall_k76_no_image_between.Holds := by
 w_on;o_law;k_head;(case hw=>w_witness2)
 k_fill
 refine M.holds_ofT Law.tabs (F:=Law.zl9) (k:=65) (x:="_law_script") rfl rfl ⟨rfl,by decide,by decide⟩ (by decide) (fun w h Y=>⟨PySem.W.km_in_of Y,fun P hP=>PySem.W.km_tabs_of Y P ((show ∀Q∈Law.tabs.map (·.2),Q∈([75,124]:List Addr) from by decide) P hP)⟩) ?F Law.law_true
 case F =>
  intro w mg fa h KX G hmg
  refine' Law.all_mk KX G hmg ?_ ?_ ?_ ?_ ?_ ?_ ?_ ?_ ?_ ?_ ?_ ?_ ?_ ?_ ?_ ?_ ?_ ?_ ?_ ?_ ?_ ?_ ?_ ?_ ?_ ?_ ?_ ?_ ?_ ?_ ?_ ?_ ?_ ?_ ?_ ?_ ?_ ?_ ?_ ?_ ?_ ?_ ?_ ?_ ?_ ?_ ?_ ?_ ?_ ?_ ?_ ?_ ?_ ?_ ?_ ?_ ?_ ?_ ?_ ?_ ?_ ?U ?Z ?N0 ?N1
  (case U=>(repeat refine' M.Us.cons (by k_is) (L2.fun_mk (by k_is) (by k_is) (by k_is)) (by intro _ _ _ _ _ _ us hl;first | (cases List.eq_nil_of_length_eq_zero hl;rfl) | (obtain⟨_,rfl⟩:=Law.us1 hl;rfl) | (obtain⟨_,_,rfl⟩:=Law.us2 hl;rfl) | (obtain⟨_,_,_,rfl⟩:=Law.us3 hl;rfl) | (obtain⟨_,_,_,_,rfl⟩:=Law.us4 hl;rfl) | (obtain⟨_,_,_,_,_,rfl⟩:=Law.us5 hl;rfl)) ?_);exact M.Us.nil)
  (case Z=>(repeat refine' M.Zs.cons (by k_is) ?_);exact M.Zs.nil)
  all_goals try first | k_is | kernel_rfl | (refine' L2.fun_mk ?l ?c ?k;(case l=>k_is);(case c=>k_is);(case k=>k_is))
  (case N0=>(repeat refine' M.As.cons (by k_is) ?_);exact M.As.nil)
  (case N1=>(repeat refine' M.As.cons (by k_is) ?_);exact M.As.nil)
