import PyProof.Rows.All
import Wide.All
import OpenK.AllK
import Wide.FinOn
import Lean
import PyProof.EqAt
import PyProof.EqKinds
import PyProof.TupleCall
import PyProof.DictWalks
import KE.KEqDict
import KE.KIntText
import PyProof.CallStr
import PyProof.DictTruth
import KE.KTupSum
import KE.KRevIter
import PyProof.EnumMake
import PyProof.Rows.Range3
import PyProof.StrLawsFirst
import KE.KFind
import PySem.Challenge.RW_oneofall_k92_whole_tapes_in_trees
set_option Elab.async false
set_option linter.all false
set_option maxRecDepth 100000
set_option hygiene false
local macro_rules|`(#[1,$y,$z])=>`(aF aV (vr $y) (ct (.int $z)))|`(0x0)=>`((by omega))|`(0x2)=>`(.loc st.length)|`(#[0,$y])=>`(aM rfl rfl $y)|`(#[3,$y,$z])=>`(aj (vr $y) (aj $z au))|`(#[4,$y,$z])=>`(aj $y (aj $z au))|`(0x7)=>`(model X.prog X.w)|`(#[11,$y,$z])=>`(aF $y $z (ct (.int 1)))|`(0x1)=>`((by simp))|`(0x4)=>`((by trivial))
local macro_rules|`(0x8)=>`((by decide +kernel))|`(#[2,$y])=>`(ct (.str $y))|`(#[23,$y])=>`(PySem.W.fnOf x qual (bZ st) (a_ st) (aD st) $y kV doc pm an cdv ct)|`(#[25,$y,$z])=>`(aF $y $z (ct (.int 0)))|`(0x5)=>`((by decide))|`(#[13,$y,$z])=>`(backTo $y (starEach $z X.env))|`(#[26,$y])=>`(.cons ⟨_,rfl⟩ (.cons ⟨_,rfl⟩ $y))|`(#[24,$y,$z])=>`(aF $y (vr 2) (ct $z))|`(#[8,$y,$z])=>`(az $y [] (aj $z au))|`(#[17,$y,$z])=>`(dq (aM $y rfl $z))
local macro_rules|`(#[20,$y,$z])=>`(dM (aF $y (vr $z) (ct .non)))|`(0x11)=>`(es.take (es.length / 2))|`(#[27,$y,$z])=>`(aW (aM $y rfl $z) rfl)|`(0x9)=>`((by simp;omega))|`(0xf)=>`((x==("__debug__":Str)))|`(0x6)=>`((Addr×Obj))|`(0xd)=>`((false,eval e X.env))|`(#[18,$y,$z])=>`(dF (cz "list" aR (vr $y) (aj $z au)))|`(#[5,$y])=>`(ct (.int $y))|`(#[7,$y])=>`(aj (vr $y) au)
local macro_rules|`(#[29,$y])=>`(ao.c (aq.ks rfl) (ao.c (aq.ks rfl) $y))|`(0x1f)=>`(.ListComp elt [⟨tg,iter,ifs,0⟩] scope pos)|`(0x2f)=>`((((cW items.size 0 lo:Nat):Int)==0 && (1:Int)==1 && (cW items.size items.size hi - cW items.size 0 lo)==items.size))|`(#[12,$y])=>`(aW rfl (aW $y rfl))|`(0x13)=>`(dm X N scope cl C fp s H)|`(0x1a)=>`((.Call (.Name x p) (e::es) [] pos))|`(0x12)=>`((λcl C fp s H=>0x4))|`(0x14)=>`(es.drop (es.length / 2))|`(0x3)=>`(.jn l r)|`(0x21)=>`((cO (ha pos pins s σ H _ I h) λus s1 zz=>?_))
local macro_rules|`(0xb)=>`(model prog w)|`(#[19,$y,$z])=>`(bh $y (aj $z au))|`(0x22)=>`(s5.set (st.length+1) (.dic (yo (rs++[r]))))|`(0x20)=>`((([110],num)::ls.map λc=>(dn c,fM c)))|`(0x18)=>`((by simpa only[jU] using e))|`(0x28)=>`((st++[.lst (aH ts)]++[.lst (aH (ts.map λt=>6+cg t 2))]))|`(#[9,$y])=>`(some (.ref $y))|`(0x29)=>`(.tup [.str [110],.str [102],.str [108],.str [114]])|`(0x2c)=>`((if (if r.m=true then z.a else z.b)=[] then qw r.m else oH r.m))|`(#[6,$y])=>`(aW $y rfl)
local macro_rules|`(0x30)=>`(.tup [.tup [.str [83],.str [75],.int 2,.bl true],.str [75],.int 3,.bl true])|`(0x27)=>`((cO (ha pins s σ H _ I h) λv s1 zz=>?_))|`(0x16)=>`((s.heap.objs.size+1))|`(#[22,$y])=>`(fu $y (retS (ct .non)) bB)|`(0x1d)=>`(.jn (.lf [103]) (.lf [102]))|`(0x19)=>`(cH "Book" "letters" (vr 0))|`(#[34,$y])=>`(T4 $y (qu (zgz T) hr (zB (T6 (N:=["book","sign"]) (capt:=[some 0,none]) (sc0:=aD (top 79)) 0x4 ⟨rfl,by decide +kernel,by decide +kernel⟩ 0x8 ⟨⟨rfl,by first | exact Or.inl rfl | exact Or.inr rfl,rfl⟩,trivial⟩ rfl 0x12 (λcl C fp s H=>Hw) 0x12) Od)) nd)|`(0x1e)=>`((B.ss.map λs=>D.int (s:Nat)))|`(#[21,$y])=>`(az $y [] #[3,0,(vr 1)])|`(#[14,$y])=>`(.frz $y (.own 0))
local macro_rules|`(0xe)=>`(Option Value)|`(0x31)=>`((if (ts.map (·.2)).contains b=true then some (HO.tbl #[]) else none))|`(0x2d)=>`(((outF x l).isNone && (outF x r).isNone && val 0x3))|`(0x1b)=>`(.ref s.heap.objs.size)|`(0x34)=>`(((items.toList.drop (cW items.size 0 lo)).take (cW items.size items.size hi - cW items.size 0 lo)))|`(#[10,$y])=>`(some (.int $y))|`(0xc)=>`((st.length+1))|`(#[31,$y])=>`(wg qy P w K mg base N $y (aD st) f cdv A outer s H E0)|`(0x23)=>`((kvs.any λkv=>decide (kv.1=k)))|`(0x24)=>`(cH "Book" "sign_trees" (vr 0))
local macro_rules|`(#[32,$y])=>`(wg CX P w K mg base N qual scope f $y A outer s H E)|`(0x17)=>`((λ_ z=>nomatch z))|`(0x35)=>`((λr s'=>r=.ok (.ret (.bool true))/\OldK afb.heap s'.heap/\s'.os=afb.os/\AllBare s'.gens))|`(#[33,$y])=>`(A.deeper (PyProof.Rows.envOfC $y (aD st) s.heap.objs.size f cdv))|`(#[15,$y,$z])=>`(upd H $y (.lst $z))|`(0x10)=>`(dq #[0,rfl])|`(0xa)=>`(strOf cs)|`(#[28,$y])=>`(backToKw $y (keywordEach [] X.env))|`(0x1c)=>`((false,eval a X.env))|`(#[30,$y])=>`(envOfC qual scope s.heap.objs.size f $y)
local macro_rules|`(0x36)=>`((s.heap.push { cls:=.type "range",data:=.fields #[.int lo t,.int hi u,.int 1 v] }))|`(0x2e)=>`((if ([]:List Keyword).isEmpty then 0 else 1))|`(0x32)=>`(A.under (.builtin "type.__call__" ⟨.ref C::us,kw⟩))|`(0x33)=>`((st++[.clo 2 (iR 2) [.str x],.clo 3 (iR 3) [.str x]]++g))|`(#[16,$y,$z])=>`(retS (az $y [] $z))|`(0x25)=>`(cH "Book" "states" (vr 0))|`(0x26)=>`((st++[.lst (aH (dH t xs))]))|`(0x2a)=>`(aY (B.ls.map λc=>([c],cu B s c)))|`(0x15)=>`((qN (k:=0) rfl))|`(0x2b)=>`(.Call (.Name "reversed" p) [a] [] pos)
set_option hygiene false
local macro_rules|`(tactic|exists $a,$b:ident)=>`(tactic|generalize $a=$b at *)|`(tactic|exists $a,$b:ident,$c,$d:ident)=>`(tactic|(exists $a,$b;exists $c,$d))|`(tactic|exists $a,$b:ident,$c,$d:ident,$e,$f:ident)=>`(tactic|(exists $a,$b;exists $c,$d;exists $e,$f))
local macro_rules|`(tactic|show 1)=>`(tactic|(obtain⟨μ,env,st,hE,hs,hp⟩:=zz))|`(tactic|show 2)=>`(tactic|(intro X hP hw hK hc i pins s σ H E I hf st hg;subst hP hw hK))|`(tactic|show 3)=>`(tactic|(refine⟨μ,env,st,hE,hs,(bR.bind hp).imp ?_⟩))|`(tactic|show 4)=>`(tactic|(refine⟨μ,env,st,hE,hs,hp.bind.imp ?_⟩;rintro x H1 ⟨μ1,st1,d,g1,bJ,hx,aQ⟩))|`(tactic|show 5)=>`(tactic|(obtain⟨f0,f1,f2,f3,f4,f5⟩:=hf it 0x1))|`(tactic|show 6)=>`(tactic|(intro pins s σ H Q I h))|`(tactic|show 7)=>`(tactic|(rw[q1]at r1;cases r1))|`(tactic|show 8)=>`(tactic|(obtain⟨x,H1,I1,r1,q1⟩:=zz))|`(tactic|show 9)=>`(tactic|(have I1:Inv X pins σ H { s with heap:=h' }:=I.turned (t':=s.toks) (λb o hb e=>(sb.2 b hb).trans e) f0 f1 f3 f4 f5))|`(tactic|show 10)=>`(tactic|(intro pins s σ H x y v u Q I rx ry h))
local macro_rules|`(tactic|show 11)=>`(tactic|(obtain⟨b,ys,rfl,q1,q2⟩:=aq.aU.mp h2;cases (show w=Value.ref b from r2);obtain⟨its,_,p,_⟩:=I.tuple (q1.rC)))|`(tactic|show 12)=>`(tactic|(obtain⟨v,rfl,q⟩:=ao.one hv;obtain⟨p,q1,rfl⟩:=aq.aL.mp q))|`(tactic|show 13)=>`(tactic|(intro pins s σ H R I h;refine Call_ (Ou I hg hm zn9 (afw 0x21 hs rfl));obtain⟨vs,H1,I1,r1,q1⟩:=zz))|`(tactic|show 14)=>`(tactic|(subst e;obtain⟨o,e,c,d⟩:=st;exact⟨o,e,λv z=>by rw[d]at z;cases z⟩))|`(tactic|show 15)=>`(tactic|(obtain⟨o,ho,hc,hd⟩:=id hit;unfold pyNext;refine afm (wpAny_attempt (afG (name:=Str.ofString "__next__") hit.typeIs slot_next (afV slot_next hit.typeIs entry_next ?_ (args_next _))));unfold Builtin.«reversed.__next__»;refine afm (afF (a:=(Value.ref it,[])) rfl ?_)))

abbrev gb:=@Nat.le_refl
abbrev gf:=@List.getElem?_eq_some_iff
abbrev gh:=@List.mem_map
abbrev gj:=@List.mem_cons
abbrev gm:=@List.length_map
abbrev gq:=@List.map_cons
abbrev gr:=@List.append_nil
abbrev gw:=@PySem.Heap.lt_size
abbrev g8:=@List.length_cons
abbrev gB:=@List.getElem?_eq_getElem
abbrev gC:=@PySem.Heap.get?_push_of_some
abbrev gF:=@List.size_toArray
abbrev gG:=@Bool.and_eq_true
abbrev gJ:=@List.map_map
abbrev gK:=@List.getElem?_map
abbrev gM:=@List.getElem?_append_left
abbrev gO:=@List.length_append
abbrev gP:=@List.append_assoc
abbrev gQ:=@Nat.lt_of_lt_of_le
abbrev gR:=@List.getElem?_set_ne
abbrev gU:=@List.mem_of_getElem?
abbrev gW:=@Nat.ne_of_lt
abbrev gY:=@List.mem_singleton
abbrev gZ:=@PySem.Heap.get?_push_size
abbrev g_:=@Nat.le_trans
abbrev h_:=@List.getElem?_append_right
abbrev kh:=@List.not_mem_nil
abbrev kj:=@List.lookup_cons
abbrev km:=@List.length_take
abbrev kE:=@List.map_congr_left
abbrev kI:=@List.nil_append
abbrev kJ:=@List.take_add_one
abbrev kO:=@List.take_length
abbrev kW:=@List.mem_cons_of_mem
abbrev k_:=@List.getElem?_set_self
abbrev mq:=@List.find?_cons
abbrev my:=@List.length_eq_one_iff
abbrev mz:=@List.mem_append
abbrev m7:=@List.map_nil
abbrev m8:=@Bool.eq_iff_iff
abbrev mC:=@List.map_append
abbrev mD:=@List.mem_append_right
abbrev mF:=@List.nodup_cons
abbrev mH:=@Nat.lt_irrefl
abbrev mJ:=@Nat.ne_of_gt
abbrev mK:=@Nat.zero_le
abbrev mL:=@List.length_drop
abbrev mO:=@Option.map_eq_some_iff
abbrev mQ:=@List.getElem?_cons_succ
abbrev mR:=@List.any_cons
abbrev mU:=@List.length_nil
abbrev mV:=@List.reverse_cons
abbrev mW:=@Option.bind_some
abbrev mX:=@List.drop_eq_getElem_cons
abbrev mY:=@List.mem_of_mem_take
abbrev mZ:=@List.mem_of_mem_drop
abbrev m_:=@Nat.add_zero
abbrev ni:=@List.length_singleton
abbrev nj:=@List.mem_iff_getElem
abbrev nq:=@List.of_mem_zip
abbrev nu:=@List.length_set
abbrev nA:=@List.drop_eq_nil_of_le
abbrev nF:=@List.cons_append
abbrev nG:=@List.getElem?_inj
abbrev nH:=@Nat.zero_add
abbrev nJ:=@Bool.not_eq_true'
abbrev nM:=@List.mem_of_find?_eq_some
abbrev nO:=@Array.length_toList
abbrev nQ:=@Nat.lt_succ_self
abbrev nR:=@List.length_eq_zero_iff
abbrev nT:=@List.getElem?_cons_zero
abbrev nU:=@List.nodup_append
abbrev nW:=@List.map_reverse
abbrev nY:=@Bool.or_eq_true
abbrev nZ:=@List.sum_cons
abbrev n_:=@Nat.pow_succ
abbrev ph:=@List.set_append
abbrev pq:=@List.any_eq_true
abbrev p6:=@List.filterMap_cons
abbrev p7:=@List.mem_cons_self
abbrev p8:=@Int.toNat_natCast
abbrev pA:=@PySem.Heap.get?_update_self
abbrev pB:=@List.getElem?_reverse
abbrev pC:=@Nat.add_assoc
abbrev pD:=@List.getElem_take
abbrev pF:=@List.getElem_mem
abbrev pG:=@List.mem_append_left
abbrev pH:=@Bool.false_ne_true
abbrev pI:=@List.mem_filterMap
abbrev pJ:=@List.length_reverse
abbrev pK:=@List.getElem?_take
abbrev pL:=@Bool.and_eq_false_iff
abbrev pM:=@Array.getElem?_eq_getElem
abbrev pN:=@List.take_of_length_le
abbrev pO:=@Nat.add_right_comm
abbrev pP:=@List.getElem?_zip_eq_some
abbrev pQ:=@List.contains_iff_mem
abbrev pR:=@List.findIdx?_eq_some_iff_getElem
abbrev pU:=@List.forall_mem_cons
abbrev pW:=@List.getD_eq_getElem?_getD
abbrev afm:=@PySem.wpAny_bind
abbrev afn:=@if_pos
abbrev afo:=@if_neg
abbrev afp:=@PySem.wpAny_pure
abbrev afq:=@decide_eq_false
abbrev afr:=@Option.some.inj
abbrev afs:=@decide_eq_true
abbrev aft:=@PySem.W.mg_of
abbrev afu:=@PySem.mem_of_lookup
abbrev afv:=@PySem.W.kia_one
abbrev afw:=@PyProof.Rows.callWith_type1
abbrev afx:=@of_decide_eq_true
abbrev afy:=@Ne.symm
abbrev afz:=@PySem.F.slot_dict_get
abbrev afA:=@PySem.wpAny_mono
abbrev afB:=@PySem.wpAny_Call_Name_kw
abbrev afC:=@decide_eq_true_eq
abbrev afD:=@PyProof.Rows.slot_tuple_getitem
abbrev afE:=@PySem.wpAny_newObj_type
abbrev afF:=@PySem.wpAny_of_eq
abbrev afG:=@PySem.wpAny_callSpecial?_slot
abbrev afH:=@PySem.Paired.length
abbrev afI:=@or_false
abbrev afJ:=@PySem.tupleKind_room_in1
abbrev afK:=@PySem.wpAny_passesOwn
abbrev afL:=@PySem.builtinLookup_eq_fast
abbrev afM:=@Sum.inr.inj
abbrev afN:=@PySem.W.callWith_K
abbrev afO:=@PySem.F.plainAttrs_list
abbrev afP:=@PySem.F.plainAttrs_dict
abbrev afQ:=@PySem.F.plainAttrs_str
abbrev afR:=@PySem.F.entry_dict_get
abbrev afS:=@PySem.wpAny_holding
abbrev afT:=@PySem.wpAny_truthy_bool
abbrev afU:=@PySem.wpAny_field
abbrev afV:=@PySem.wpAny_call_entry
abbrev afW:=@Classical.byContradiction
abbrev afX:=@PySem.typeIs_str
abbrev afY:=@PySem.wpAny_specialOf
abbrev afZ:=@PySem.typeLookup_type
abbrev af0:=@PySem.sizeLine_eq
abbrev af1:=@PySem.F.args_tuple_add_2
abbrev af2:=@PySem.Heap.SameBut.update
abbrev af3:=@PySem.F.entry_tuple_add
abbrev af4:=@PySem.codeAny_mono
abbrev af5:=@PySem.call_meetsIn
abbrev af6:=@PySem.isSubtype_type
abbrev af7:=@PySem.F.slot_tuple_add
namespace L2
open PySem PySem.Spec PyProof.Rows
noncomputable abbrev Key:=Sum Int Str
noncomputable def vN:Key->Value->Bool
 | .inl k,v=>Value.isInt k v
 | .inr x,v=>Value.isStrOf x v
noncomputable def abr(w:World):Key->Int
 | .inl k=>hashInt k
 | .inr x=>hashStr w x
theorem NT:∀{k:Key} {v:Value},vN k v=true->(∃i t,k=Sum.inl i/\v=Value.int i t)\/(∃x t,k=Sum.inr x/\v=Value.str x t)
 | .inl i,v,h=>by
  obtain⟨t,e⟩:=Value.isInt_shape (k:=i) (v:=v) h;exact .inl ⟨i,t,rfl,e⟩
 | .inr x,v,h=>by
  obtain⟨t,e⟩:=Value.isStrOf_shape (x:=x) (v:=v) h;exact .inr ⟨x,t,rfl,e⟩
def Ga(i:Int)(t:Tok):vN (.inl i) (.int i t)=true:=by simp[vN,Value.isInt]
def FZ(x:Str)(t:Tok):vN (.inr x) (.str x t)=true:=by simp[vN,Value.isStrOf]
def Xx(a b:Int):decide ((Sum.inl a:Key)=Sum.inl b)=(a==b):=by
 by_cases e:a=b
 ·subst e;simp
 ·have h:¬ (Sum.inl a:Key)=Sum.inl b:=λq=>e (Sum.inl.inj q);rw[afq h];exact (beq_eq_false_iff_ne.mpr e).symm
def Xu(a b:Str):decide ((Sum.inr a:Key)=Sum.inr b)=decide (a=b):=by
 by_cases e:a=b
 ·subst e;simp
 ·have h:¬ (Sum.inr a:Key)=Sum.inr b:=λq=>e (afM q);rw[afq h,afq e]
def Xw(a:Int)(b:Str):decide ((Sum.inl a:Key)=Sum.inr b)=false:=afq (λq=>nomatch q)
def Xv(a:Str)(b:Int):decide ((Sum.inr a:Key)=Sum.inl b)=false:=afq (λq=>nomatch q)
noncomputable def bL(prog:Program)(w:World):PySem.KeyKind prog w Key where
 is:=vN
 hash:=abr w
 inj:=λv a b ha hb=>by
  rcases NT ha with⟨i,t,rfl,rfl⟩ | ⟨x,t,rfl,rfl⟩
  ·rcases NT hb with⟨j,u,rfl,e⟩ | ⟨y,u,rfl,e⟩
   ·injection e with e1 _;rw[e1]
   ·exact nomatch e
  ·rcases NT hb with⟨j,u,rfl,e⟩ | ⟨y,u,rfl,e⟩
   ·exact nomatch e
   ·injection e with e1 _;rw[e1]
 byValue:=λk v h=>by
  rcases NT h with⟨i,t,rfl,rfl⟩ | ⟨x,t,rfl,rfl⟩<;>rfl
 pyHash:=λhv h=>by
  rcases NT hv with⟨i,t,rfl,rfl⟩ | ⟨x,t,rfl,rfl⟩
  ·exact wpAny_pyHash_int h
  ·exact wpAny_pyHash_str h
 eqBool:=λhu hv h=>by
  rcases NT hu with⟨i,t,rfl,rfl⟩ | ⟨x,t,rfl,rfl⟩
  ·rcases NT hv with⟨j,u,rfl,rfl⟩ | ⟨y,u,rfl,rfl⟩
   ·rw[Xx]at h;exact wpAny_eqBool_int h
   ·rw[Xw]at h;exact SeqAt.EqAt.int_str i t y u _ _ _ _ h
  ·rcases NT hv with⟨j,u,rfl,rfl⟩ | ⟨y,u,rfl,rfl⟩
   ·rw[Xv]at h;exact SeqAt.EqAt.str_int x t j u _ _ _ _ h
   ·rw[Xu]at h;exact wpAny_eqBool_str h
 «strs»:=λk x t v h=>by
  rcases NT h with⟨i,u,rfl,e⟩ | ⟨y,u,rfl,e⟩
  ·exact nomatch e
  ·injection e with e1 _;subst e1;cases v<;>rfl
def zsy(prog:Program)(w:World)(k:Key)(v:Value):(bL prog w).is k v=vN k v:=rfl
def zrf(prog:Program)(w:World)(i:Int)(t:Tok):(bL prog w).is (.inl i) (.int i t)=true:=Ga i t
def zrd(prog:Program)(w:World)(x:Str)(t:Tok):(bL prog w).is (.inr x) (.str x t)=true:=FZ x t
inductive V where
 | non | bl (b:Bool) | int (i:Int) | str (x:Str) | byt (b:Array UInt8) | flt (b:UInt64) | ref (a:Addr) | ty (n:String)
 deriving DecidableEq
def RelV:V->Value->Prop
 | .non,u=>u=Value.none
 | .bl b,u=>u=Value.bool b
 | .int i,u=>∃t,u=Value.int i t
 | .str x,u=>∃t,u=Value.str x t
 | .byt b,u=>∃t,u=Value.bytes b t
 | .flt b,u=>∃t,u=Value.float b t
 | .ref a,u=>u=Value.ref a
 | .ty n,u=>u=Value.type n
abbrev Vals:List V->List Value->Prop:=Paired RelV
def Vals.length{xs:List V}{us:List Value}(r:Vals xs us):xs.length=us.length:=afH r
theorem Vals.get:∀{xs:List V} {us:List Value} {i:Nat} {x:V},Vals xs us->xs[i]? = some x->∃u,us[i]? = some u/\RelV x u
 | _,_,_,_,.nil,e=>by simp at e
 | _,_,0,_,.cons r _,e=>by simp at e;subst e;exact⟨_,rfl,r⟩
 | _,_,i+1,x,.cons _ t,e=>by
  obtain⟨u,h1,h2⟩:=Vals.get (i:=i) (x:=x) t (by simpa using e);exact⟨u,by simpa using h1,h2⟩
theorem Vals.set{x:V}{u:Value}(r:RelV x u):∀{xs:List V} {us:List Value} (i:Nat),Vals xs us->Vals (xs.set i x) (us.set i u)
 | _,_,_,.nil=>.nil
 | _,_,0,.cons _ t=>.cons r t
 | _,_,i+1,.cons q t=>.cons q (Vals.set r i t)
theorem Vals.append:∀{xs ys:List V} {us ws:List Value},Vals xs us->Vals ys ws->Vals (xs++ys) (us++ws)
 | _,_,_,_,.nil,s=>s
 | _,_,_,_,.cons r t,s=>.cons r (Vals.append t s)
theorem Vals.take:∀{xs:List V} {us:List Value} (n:Nat),Vals xs us->Vals (xs.take n) (us.take n)
 | _,_,0,_=>.nil
 | _,_,_+1,.nil=>.nil
 | _,_,n+1,.cons r t=>.cons r (Vals.take n t)
theorem Vals.drop:∀{xs:List V} {us:List Value} (n:Nat),Vals xs us->Vals (xs.drop n) (us.drop n)
 | _,_,0,r=>r
 | _,_,_+1,.nil=>.nil
 | _,_,n+1,.cons _ t=>Vals.drop n t
def lE:Option V->Option Value->Prop
 | some v,some u=>RelV v u
 | none,none=>True
 | _,_=>False
def KV{κ:Type}:List (κ×V)->List (κ×Value)->Prop:=Paired λ(p:κ×V) (q:κ×Value)=>p.1=q.1/\RelV p.2 q.2
noncomputable def kV:Key->V
 | .inl i=>.int i
 | .inr x=>.str x
inductive HO where
 
 | lst (xs:List V)
 
 | tup (xs:List V)
 
 | dK (kvs:List (Key×V)) | dT (kvs:List (List Key×V))
 
 | set (S:Int->Bool) (n:Nat)
 
 | ins (C dx:Addr) (fs:List (Str×V))
 
 | own (x:Addr)
 
 | xd (fs:List (Str×V))
 
 | met (f x:Addr)
 
 | rng (lo hi:Int)
 
 | frz (o:Obj) (u:HO)
 
 | tbl (ps:Array Value)
 
 | ext (φ:Heap->Prop)
noncomputable abbrev Hp:=Addr->Option HO
noncomputable def upd(H:Hp)(a:Addr)(o:HO):Hp:=λb=>if b=a then some o else H b
def qQ:upd H a o a=some o:=by unfold upd;rw[afn rfl]
def iT(h:b≠a):upd H a o b=H b:=by unfold upd;rw[afo h]
def ue{H:Hp}{a b:Addr}{o u:HO}(h:H a=some o)(h':H b=some u)(d:o≠u):a≠b:=by
 intro e;subst e;rw[h]at h';exact d (afr h')
def Af{H:Hp}{a b:Addr}{o:HO}(h:H a=some o)(h':H b=none):a≠b:=by
 intro e;subst e;rw[h]at h';cases h'
section
variable  (P:Program)(w:World)
def cB(H:Hp)(h:Heap)(a:Addr):HO->Prop
 | .lst xs=>xs.length<=sizeLine/\∃(its:List Value) (n:Nat),Vals xs its/\h.get? a=some { cls:=.type "list",data:=.seq its.toArray n }
 | .tup xs=>xs.length<=sizeLine/\∃its:List Value,Vals xs its/\IsTup h a its.toArray
 | .dK kvs=>kvs.length<=sizeLine/\(a==sysModules)=false/\∃vs,KV kvs vs/\h.DictOf (bL P w) a vs
 | .dT kvs=>kvs.length<=sizeLine/\(a==sysModules)=false/\∃xs:List (List Key×Addr×Value),
   Paired (λ(p:List Key×V) (q:List Key×Addr×Value)=>p.1=q.1/\H q.2.1=some (.tup (p.1.map kV))/\RelV p.2 q.2.2) kvs xs /\
   ∃o es ep,h.get? a=some o/\o.ExactDict/\o.data=.dict es ep/\es.toList=xs.map (entryOfKey (tupleKind (bL P w)))/\(xs.map (·.1)).Nodup
 | .set S n=>h.SetOf (intKind P w) a S n
 | .ins C dx fs=>H dx=some (.own a)/\fs.length<=1000/\dx≠a/\h.get? a=some (PySem.W.instObj C dx) /\
   ∃mA,h.Ns1 dx mA/\(∀f,lE (fs.lookup f) (mA f))/\PySem.Within mA (fs.map (·.1))
 | .own _=>∃o,h.get? a=some o
 | .xd fs=>∃mA,h.Ns1 a mA/\∀f,lE (fs.lookup f) (mA f)
 | .rng lo hi=>∃t u v,h.get? a=some { cls:=.type "range",data:=.fields #[.int lo t,.int hi u,.int 1 v] }
 | .frz o u=>h.get? a=some o/\cB H h a u
 | .tbl ps=>h.get? a=some { cls:=.none,data:=.fields ps }
 | .met f x=>h.get? a=some (PySem.W.methodObj (.ref f) (.ref x))
 | .ext φ=>φ h/\(∃o,h.get? a=some o)/\∀h1 h2:Heap,φ h1->(∀o,h1.get? a=some o->h2.get? a=some o)->φ h2
def lF(H:Hp)(h:Heap):Prop:=∀a o,H a=some o->cB P w H h a o
end
section
variable  {P:Program}{w:World}{H H':Hp}{h h':Heap}{a:Addr}{o:HO}
def cB.lt(x:cB P w H h a o):a<h.objs.size:=by
 cases o with
 | lst xs=>obtain⟨_,_,_,_,e⟩:=x;exact gw e
 | tup xs=>obtain⟨_,_,_,p⟩:=x;exact p.lt
 | dK kvs=>obtain⟨_,_,_,_,o,_,_,e,_⟩:=x;exact gw e
 | dT kvs=>obtain⟨_,_,_,_,o,_,_,e,_⟩:=x;exact gw e
 | set S n=>obtain⟨o,_,_,_,e,_⟩:=x;exact gw e
 | ins C dx fs=>obtain⟨_,_,_,e,_⟩:=x;exact gw e
 | own y=>obtain⟨_,e⟩:=x;exact gw e
 | xd fs=>obtain⟨_,⟨_,_,_,e,_⟩,_⟩:=x;exact gw e
 | rng lo hi=>obtain⟨_,_,_,e⟩:=x;exact gw e
 | frz ob u=>obtain⟨e,_⟩:=x;exact gw e
 | tbl ps=>exact gw (show h.get? a=some _ from x)
 | met f y=>exact gw (show h.get? a=some _ from x)
 | ext φ=>obtain⟨_,⟨_,e⟩,_⟩:=x;exact gw e
theorem Paired.Xl:∀{afe:List α} {afd:List β},Paired F afe afd->(∀a b,F a b->G a b)->Paired G afe afd
 | _,_,.nil,_=>.nil
 | _,_,.cons r t,f=>.cons (f _ _ r) (Paired.Xl t f)
def cB.uO(x:cB P w H h a o)(k:∀b u,(b=a\/H b=some (.own a))->h.get? b=some u->h'.get? b=some u)
  (ho:∀b,H b=some (.own a)->H' b=some (.own a)) (ht:∀b xs,H b=some (.tup xs)->H' b=some (.tup xs)):cB P w H' h' a o:=by
 induction o with
 | lst xs=>obtain⟨z,its,n,r,e⟩:=x;exact⟨z,its,n,r,k _ _ (.inl rfl) e⟩
 | tup xs=>obtain⟨z,its,r,ob,e,c⟩:=x;exact⟨z,its,r,ob,k _ _ (.inl rfl) e,c⟩
 | dK kvs=>obtain⟨z,y,vs,r,ob,es,ep,e,c⟩:=x;exact⟨z,y,vs,r,ob,es,ep,k _ _ (.inl rfl) e,c⟩
 | dT kvs =>
  obtain⟨z,y,xs,r,ob,es,ep,e,c⟩:=x;exact⟨z,y,xs,Paired.Xl r λp q z=>⟨z.1,ht _ _ z.2.1,z.2.2⟩,ob,es,ep,k _ _ (.inl rfl) e,c⟩
 | set S n=>obtain⟨ob,es,ep,t,e,c⟩:=x;exact⟨ob,es,ep,t,k _ _ (.inl rfl) e,c⟩
 | ins C dx fs =>
  obtain⟨d,z,ne,e,mA,⟨od,es,ep,e2,c⟩,r⟩:=x;exact⟨ho _ d,z,ne,k _ _ (.inl rfl) e,mA,⟨od,es,ep,k _ _ (.inr d) e2,c⟩,r⟩
 | own y=>obtain⟨ob,e⟩:=x;exact⟨ob,k _ _ (.inl rfl) e⟩
 | xd fs=>obtain⟨mA,⟨od,es,ep,e,c⟩,r⟩:=x;exact⟨mA,⟨od,es,ep,k _ _ (.inl rfl) e,c⟩,r⟩
 | rng lo hi=>obtain⟨t,u,v,e⟩:=x;exact⟨t,u,v,k _ _ (.inl rfl) e⟩
 | frz ob u ih=>obtain⟨e,q⟩:=x;exact⟨k _ _ (.inl rfl) e,ih q⟩
 | tbl ps =>
  have e:h.get? a=some { cls:=.none,data:=.fields ps }:=x;show h'.get? a=some { cls:=.none,data:=.fields ps };exact k a _ (.inl rfl) e
 | met f y =>
  have e:h.get? a=some (PySem.W.methodObj (.ref f) (.ref y)):=x;show h'.get? a=some (PySem.W.methodObj (.ref f) (.ref y));exact k a _ (.inl rfl) e
 | ext φ=>obtain⟨p,⟨o,e⟩,st⟩:=x;exact⟨st _ _ p λo q=>k _ _ (.inl rfl) q,⟨o,k _ _ (.inl rfl) e⟩,st⟩
def lF.lt(x:lF P w H h)(e:H a=some o):a<h.objs.size:=(x a o e).lt
def lF.fresh(x:lF P w H h)(e:h.objs.size<=a):H a=none:=by
 cases q:H a with
 | none=>rfl
 | some u=>exact absurd (gQ (x.lt q) e) (mH _)
def lF.kept(x:lF P w H h)(k:∀b u,h.get? b=some u->h'.get? b=some u):lF P w H h':=λa o e =>
 (x a o e).uO (λb u _ q=>k b u q) (λ_ q=>q) λ_ _ q=>q
def lF.laid(x:lF P w H h)(k:∀b u,h.get? b=some u->h'.get? b=some u)(hp:h.objs.size<=a)(new:cB P w (upd H a o) h' a o):lF P w (upd H a o) h':=λb u e=>by
 have hn:=x.fresh hp;by_cases hb:b=a
 ·subst hb;rw[qQ]at e;cases e;exact new
 ·rw[iT hb]at e;exact (x b u e).uO (λc v _ q=>k c v q) (λc q=>by rw[iT (Af q hn)];exact q) λc xs q=>by rw[iT (Af q hn)];exact q
end
def Rd(H:Hp)(a:Addr)(u:HO):Prop:=H a=some u\/∃o,H a=some (.frz o u)
def Rd.ok(r:Rd H a u)(x:lF P w H h):cB P w H h a u:=by
 rcases r with r | ⟨o,r⟩
 ·exact x a u r
 ·obtain⟨_,q⟩:=x a _ r;exact q
def Mut:Option HO->Prop
 | some (.lst _)=>True
 | some (.dK _)=>True
 | some (.dT _)=>True
 | some (.set _ _)=>True
 | some (.ins _ _ _)=>True
 | some (.ext _)=>True
 | _=>False
section
variable  {P:Program}{w:World}{H:Hp}{h h':Heap}{x e:Addr}{o':HO}
def lF.write(ok:lF P w H h)(mu:Mut (H x))(he:e=x\/H e=some (.own x))(k:∀b u,b≠e->h.get? b=some u->h'.get? b=some u)(Oi:∃u,h'.get? e=some u)
  (new:cB P w (upd H x o') h' x o'):lF P w (upd H x o') h':=λb u q=>by
 have J0:∀c y,H c=some (.own y)->c≠x:=λc y r z=>by subst z;rw[r]at mu;exact mu
 have adR:∀c xs,H c=some (.tup xs)->c≠x:=λc xs r z=>by subst z;rw[r]at mu;exact mu
 by_cases hb:b=x
 ·subst hb;rw[qQ]at q;cases q;exact new
 ·rw[iT hb]at q;by_cases Y4:b=e
  ·have q':H b=some (.own x):=by
    rcases he with z | z
    ·exact absurd (Y4.trans z) hb
    ·rw[Y4];exact z
   rw[q]at q';cases q';obtain⟨v,hv⟩:=Oi;exact⟨v,by rw[Y4];exact hv⟩
  ·refine (ok b u q).uO (λc v hc r=>k c v ?_ r) (λc r=>by rw[iT (J0 c b r)];exact r) λc xs r=>by rw[iT (adR c xs r)];exact r
   rcases hc with rfl | hc
   ·exact Y4
   ·rintro rfl;rcases he with z | z
    ·exact J0 c b hc z
    ·rw[hc]at z;cases z;exact hb rfl
end
structure Un(fs ex:List Addr)(H H':Hp)(h h':Heap):Prop where
 keep:∀b o,h.get? b=some o->H b=none->b∉fs->b∉ex->h'.get? b=some o
 slot:∀b o,h.get? b=some o->H b=none->b∈fs->b∉ex->∃sl,h'.get? b=some { o with slots:=sl }
 free:∀b o,h.get? b=some o->H b=none->b∉ex->H' b=none
 there:∀b o,h.get? b=some o->b∉ex->∃o',h'.get? b=some o'
 vm:∀b xs,H b=some (.tup xs)->H' b=some (.tup xs)
 t7:∀b o u,H b=some (.frz o u)->H' b=some (.frz o u)
 uN:∀b ps,H b=some (.tbl ps)->∃more,H' b=some (.tbl (ps++more))
section
variable  {fs yU ex ex':List Addr}{H H1 H2:Hp}{h h1 h2 h':Heap}{a x e:Addr}{o:HO}
def Un.any(u:Un fs ex H H1 h h1){b:Addr}{ob:Obj}(q:h.get? b=some ob)(n:H b=none)(hx:b∉ex):∃sl,h1.get? b=some { ob with slots:=sl }:=by
 by_cases hb:b∈fs
 ·exact u.slot b ob q n hb hx
 ·exact⟨ob.slots,u.keep b ob q n hb hx⟩
def Un.kept(k:∀b u,h.get? b=some u->h'.get? b=some u):Un fs ex H H h h' :=
 ⟨λb ob q _ _ _=>k b ob q,λb ob q _ _ _=>⟨ob.slots,k b ob q⟩,λ_ _ _ n _=>n,λb ob q _=>⟨ob,k b ob q⟩,λ_ _ q=>q,λ_ _ _ q=>q,λ_ ps q=>⟨#[],by rw[q];simp⟩⟩
def Un.refl:Un fs ex H H h h:=Un.kept λ_ _ q=>q
def Un.laid(k:∀b u,h.get? b=some u->h'.get? b=some u)(hp:h.objs.size<=a)(hn:H a=none):Un fs ex H (upd H a o) h h' where
 keep:=λb u q _ _ _=>k b u q
 slot:=λb u q _ _ _=>⟨u.slots,k b u q⟩
 free:=λb u q n _=>by rw[iT (gW (gQ (gw q) hp))];exact n
 there:=λb u q _=>⟨u,k b u q⟩
 vm:=λb xs q=>by rw[iT (Af q hn)];exact q
 t7:=λb u xs q=>by rw[iT (Af q hn)];exact q
 uN:=λb ps q=>⟨#[],by rw[iT (Af q hn),q];simp⟩
def Un.write(mu:Mut (H x))(he:e=x\/H e=some (.own x))(k:∀b u,b≠e->h.get? b=some u->h'.get? b=some u)(Oi:∃u,h'.get? e=some u):Un fs ex H (upd H x o) h h':=by
 have hx:∀b,H b=none->b≠x:=λb n z=>by subst z;rw[n]at mu;exact mu
 have hb:∀b,H b=none->b≠e:=λb n z=>by
  subst z;rcases he with r | r
  ·exact hx b n r
  ·rw[n]at r;cases r
 have hm:∀b u,H b=some u->¬ Mut (some u)->b≠x:=λb u q nm z=>by subst z;rw[q]at mu;exact nm mu
 refine⟨λb u q n _ _=>k b u (hb b n) q,λb u q n _ _=>⟨u.slots,k b u (hb b n) q⟩,λb u q n _=>by rw[iT (hx b n)];exact n,λb u q _=>?_,
  λb xs q=>by rw[iT (hm b _ q λz=>z)];exact q,λb u xs q=>by rw[iT (hm b _ q λz=>z)];exact q,λb ps q=>⟨#[],by rw[iT (hm b _ q λz=>z),q];simp⟩⟩
 by_cases Y4:b=e
 ·subst Y4;exact Oi
 ·exact⟨u,k b u Y4 q⟩
end
noncomputable def trk(h:Heap)(H:Hp):List Addr:=(List.range h.objs.size).filter λa=>(H a).isSome
noncomputable def xm(h:Heap)(H:Hp):Heap:=PySem.W.hideAll h (trk h H)
def Gq(h:Heap)(H:Hp):(xm h H).objs.size=h.objs.size:=PySem.W.hideAll_size _ _
def Lh(e:h.get? b=some o)(n:H b=none):(xm h H).get? b=some o :=
 PySem.W.hideAll_get _ e λhm=>by
  have q:(H b).isSome=true:=(List.mem_filter.mp hm).2;rw[n]at q;simp at q
def QW(e:(xm h H).get? b=some o):h.get? b=some o/\H b=none:=by
 have e':h.get? b=some o:=PySem.W.of_hideAll (trk h H) e;refine⟨e',?_⟩;cases q:H b with
 | none=>rfl
 | some x =>
  have hm:b∈trk h H:=List.mem_filter.mpr ⟨List.mem_range.mpr (gw e'),by simp[q]⟩;have z:(xm h H).get? b=none:=PySem.W.hideAll_none (trk h H) hm;rw[z]at e;cases e
noncomputable def Tv(g h:Heap)(L:Addr):List 0x6:=(List.range h.objs.size).filterMap λa=>if a=L\/(g.get? a).isSome=true then none else (h.get? a).map λo=>(a,o)
noncomputable def rest(g h:Heap)(L d:Addr):List 0x6:=(Tv g h L).filter λp=>decide (p.1≠d)
structure Mod(K:PySem.W.Frag)(mg:Str->Option Value)(base:Heap):Prop where
 Xr:K.In base
 glob:base.Ns mainGlobals mg
 blt:∃mb,base.Ns builtinsNs mb/\∀x:Str,x ≠ "__name__"->mb x=bootBuiltins x
 nolimit:base.NoLimit
structure Cx where
 prog:Program
 w:World
 K:PySem.W.Frag
 mg:Str->Option Value
 base:Heap
 A:Around
 N:List Str
 afc:Shared
 afl:Hp
 env:Env
 outer:List Env
 stack:List Env
 ex:List Addr
 fn:Str->Bool
 calm:Bool
 pn:List 0x6
 xe:Value->Shared->Prop
noncomputable def Df(l:List Env):List Addr:=l.filterMap (·.frame)
noncomputable abbrev Cx.fs(X:Cx):List Addr:=Df X.outer
def Vis(sc:Scope)(x:Str):Prop:=sc.names.lookup x=some .local\/sc.names.lookup x=some .cell\/sc.names.lookup x=some .free
def Loc(sc:Scope)(x:Str):Prop:=sc.names.lookup x=some .local\/sc.names.lookup x=some .cell
def Look(env:Env)(h:Heap)(m:Str->Option Value)(x:Str)(u:Value):Prop :=
 (env.kindOf x=some .local/\m x=some u)\/((env.kindOf x=some .cell\/env.kindOf x=some .free)/\∃c,env.cells.lookup x=some c/\h.IsCell c (some u))
structure Cx.Ok(X:Cx):Prop where
 mod:Mod X.K X.mg X.base
 kind:X.env.scope.kind=.function
 glob:X.env.globals=mainGlobals
 blt:X.env.builtins=builtinsNs
 above:X.afc.heap.objs.size<=X.env.locals
 inj:∀x y c,X.env.cells.lookup x=some c->X.env.cells.lookup y=some c->x=y
 has:∀x,(X.env.kindOf x=some .cell\/X.env.kindOf x=some .free)->∃c,X.env.cells.lookup x=some c
 Vb:∀x c,X.fn x=true->X.env.cells.lookup x=some c->X.afc.heap.objs.size<=c
 hd:X.calm=true->X.A.handled=none
 frames:X.A.frames=some X.stack
 stk:X.stack=X.outer\/(X.stack=X.env::X.outer/\X.env.frame=some X.env.locals)
 exf:∀b∈X.ex,b≠X.env.locals/\∀x c,X.env.cells.lookup x=some c->c≠b
 bs:∀b o,X.base.get? b=some o->X.afc.heap.get? b=some o/\X.afl b=none
 G7:X.base.objs.size<=X.afc.heap.objs.size
 FJ:∀b o,X.base.get? b=some o->b∉X.ex
 LR:∀b∈X.ex,b∉X.fs
 qe:X.afc.heap.FunFrames X.base X.outer
 Lr:∀b∈X.fs,X.afl b=none
structure Inv(X:Cx)(pins:List 0x6)(σ:List (Option V))(H:Hp)(s:Shared):Prop where
 ok:X.Ok
 os:s.os=X.afc.os
 bare:AllBare s.gens
 base:Un X.fs X.ex X.afl H X.afc.heap s.heap
 loc:∃m,s.heap.Ns X.env.locals m/\∀(i:Nat) (x:Str) (v:V),X.N[i]? = some x->σ[i]? = some (some v)->Vis X.env.scope x->∃u,RelV v u/\Look X.env s.heap m x u
 cell:∀x c,X.env.cells.lookup x=some c->∃v,s.heap.IsCell c v
 free:H X.env.locals=none
 jP:∀x c,X.env.cells.lookup x=some c->H c=none
 pin:∀p∈X.pn++pins,s.heap.get? p.1=some p.2/\H p.1=none/\p.1≠X.env.locals/\p.1∉X.fs/\∀v,p.2.data≠.cell v
 bO:lF X.prog X.w H s.heap
 len:σ.length=X.N.length
section
variable  {X:Cx}{pins:List 0x6}{σ:List (Option V)}{H H':Hp}{s:Shared}{h':Heap}
def Cx.Ok.adU(ok:X.Ok)(e:X.base.get? b=some o):b∉X.fs:=λhb=>by
 have:=(ok.qe.mem hb).1;rw[e]at this;cases this
def Inv.bs(I:Inv X pins σ H s):∀b o,X.base.get? b=some o->s.heap.get? b=some o/\H b=none:=λb o e =>
 ⟨I.base.keep b o (I.ok.bs b o e).1 (I.ok.bs b o e).2 (I.ok.adU e) (I.ok.FJ b o e),I.base.free b o (I.ok.bs b o e).1 (I.ok.bs b o e).2 (I.ok.FJ b o e)⟩
def Inv.bk(I:Inv X pins σ H s):∀b o,X.base.get? b=some o->s.heap.get? b=some o:=λb o e=>(I.bs b o e).1
def Inv.mod(I:Inv X pins σ H s):Mod X.K X.mg X.base:=I.ok.mod
def Inv.qO(I:Inv X pins σ H s):X.K.In s.heap:=I.ok.mod.Xr.keeps I.bk
def Inv.lt(I:Inv X pins σ H s):X.env.locals<s.heap.objs.size:=let ⟨_,hn,_⟩:=I.loc;hn.lt
def Inv.sz(I:Inv X pins σ H s):X.afc.heap.objs.size<=s.heap.objs.size:=g_ I.ok.above (Nat.le_of_lt I.lt)
def Inv.adT(I:Inv X pins σ H s)(h:s.heap.objs.size<=a):a∉X.fs:=λhb=>by
 obtain⟨_,o,ho,_⟩:=I.ok.qe.mem hb;exact absurd (gQ (gw ho) (g_ I.sz h)) (mH _)
def Inv.Va(I:Inv X pins σ H s):∀x c,X.env.cells.lookup x=some c->c≠X.env.locals:=λx c e z=>by
 obtain⟨v,o,ho,hd⟩:=I.cell x c e;obtain⟨m,⟨o',es,ep,Og,zG,_⟩,_⟩:=I.loc;rw[z,Og]at ho;cases ho;rw[zG]at hd;cases hd
def Inv.qe(I:Inv X pins σ H s):s.heap.FunFrames X.base X.outer:=by
 have all:∀(l:List Env),(∀b∈Df l,b∈X.fs)->X.afc.heap.FunFrames X.base l->s.heap.FunFrames X.base l:=by
  intro l
  induction l with
  | nil=>intro _ _;trivial
  | cons env r ih =>
   intro hs hl;obtain⟨hk,⟨L,o,hf,hn,ho,hd⟩,hr⟩:=hl;have hL:L∈X.fs:=hs L (by unfold Df;rw[p6,hf];exact p7);obtain⟨sl,e⟩:=I.base.slot L o ho (I.ok.Lr L hL) hL λz=>I.ok.LR L z hL;exact⟨hk,⟨L,_,hf,hn,e,hd⟩,ih (λb hb=>hs b (by unfold Df;rw[p6,hf];exact kW _ hb)) hr⟩
 exact all X.outer (λ_ hb=>hb) I.ok.qe
def Inv.stack(I:Inv X pins σ H s):s.heap.FunFrames X.base X.stack:=by
 rcases I.ok.stk with e | ⟨e,hf⟩
 ·rw[e];exact I.qe
 ·rw[e];obtain⟨m,hn,_⟩:=I.loc;refine .cons (by rw[I.ok.kind];decide) hf hn ?_ I.qe;exact Heap.get?_none_of_le (g_ I.ok.G7 I.ok.above)
def Inv.vy(I:Inv X pins σ H s):∀b∈Df X.stack,b∈X.env.locals::X.fs:=λb hb=>by
 rcases I.ok.stk with e | ⟨e,hf⟩
 ·rw[e]at hb;exact kW _ hb
 ·rw[e]at hb;unfold Df at hb;rw[p6,hf]at hb;exact hb
def Inv.BL(I:Inv X pins σ H s):∀b∈Df X.stack,H b=none:=λb hb=>by
 rcases gj.mp (I.vy b hb) with e | hb
 ·rw[e];exact I.free
 ·obtain⟨_,o,ho,_⟩:=I.ok.qe.mem hb;exact I.base.free b o ho (I.ok.Lr b hb) λz=>I.ok.LR b z hb
def Inv.step{g':Array GenState}{t':Nat}{d':Drawn}{ch:List Addr}(I:Inv X pins σ H s)
  (Hr:∀b∈ch,(b∈X.ex\/X.afc.heap.objs.size<=b)/\b≠X.env.locals/\(∀x c,X.env.cells.lookup x=some c->c≠b)/\∀p∈X.pn++pins,p.1≠b)
  (keep:∀b o,b≠X.env.locals->b∉X.fs->b∉ch->s.heap.get? b=some o->H b=none->h'.get? b=some o)
  (slot:∀b o,b≠X.env.locals->b∈X.fs->b∉ch->s.heap.get? b=some o->H b=none->∃sl,h'.get? b=some { o with slots:=sl }) (free:∀b o,b∉ch->s.heap.get? b=some o->H b=none->H' b=none)
  (there:∀b o,b∉ch->s.heap.get? b=some o->∃o',h'.get? b=some o')
  (vm:∀b xs,H b=some (.tup xs)->H' b=some (.tup xs)) (t7:∀b o u,H b=some (.frz o u)->H' b=some (.frz o u)) (uN:∀b ps,H b=some (.tbl ps)->∃more,H' b=some (.tbl (ps++more)))
  (ns:∀m,s.heap.Ns X.env.locals m->h'.Ns X.env.locals m) (bO:lF X.prog X.w H' h') (hg:AllBare g') :
  Inv X pins σ H' { s with heap:=h',gens:=g',drawn:=d',toks:=t' }:=by
 have neL:∀b o,X.afc.heap.get? b=some o->b≠X.env.locals:=λb o e=>gW (gQ (gw e) I.ok.above);have Oc:∀b o,X.afc.heap.get? b=some o->b∉X.ex->b∉ch:=λb o e hx hb=>by
  rcases (Hr b hb).1 with z | z
  ·exact hx z
  ·exact absurd (gQ (gw e) z) (mH _)
 have cellK:∀x c,X.env.cells.lookup x=some c->∀v,s.heap.IsCell c v->h'.IsCell c v:=λx c e v zz=>by
  obtain⟨o,ho,hd⟩:=zz;have J3:c∉ch:=λz=>(Hr c z).2.2.1 x c e rfl;by_cases hc:c∈X.fs
  ·obtain⟨sl,q⟩:=slot c o (I.Va x c e) hc J3 ho (I.jP x c e);exact⟨_,q,hd⟩
  ·exact⟨o,keep c o (I.Va x c e) hc J3 ho (I.jP x c e),hd⟩
 refine⟨I.ok,I.os,hg,⟨λb o e n hb hx=>?_,λb o e n hb hx=>?_,λb o e n hx=>?_,λb o e hx=>?_,λb xs e=>vm b xs (I.base.vm b xs e),λb o xs e=>t7 b o xs (I.base.t7 b o xs e),λb ps e=>?_⟩,?_,λx c e=>?_,?_,λx c e=>?_,λp hp=>?_,bO,I.len⟩
 ·exact keep b o (neL b o e) hb (Oc b o e hx) (I.base.keep b o e n hb hx) (I.base.free b o e n hx)
 ·obtain⟨sl,e1⟩:=I.base.slot b o e n hb hx;obtain⟨sl',e2⟩:=slot b _ (neL b o e) hb (Oc b o e hx) e1 (I.base.free b o e n hx);exact⟨sl',e2⟩
 ·obtain⟨o',e1⟩:=I.base.there b o e hx;exact free b o' (Oc b o e hx) e1 (I.base.free b o e n hx)
 ·obtain⟨o',e1⟩:=I.base.there b o e hx;exact there b o' (Oc b o e hx) e1
 ·obtain⟨m1,e1⟩:=I.base.uN b ps e;obtain⟨m2,e2⟩:=uN b _ e1;exact⟨m1++m2,by rw[e2,Array.append_assoc]⟩
 ·obtain⟨m,hn,hl⟩:=I.loc;refine⟨m,ns m hn,λi x v e1 e2 e3=>?_⟩;obtain⟨u,r,l⟩:=hl i x v e1 e2 e3;refine⟨u,r,?_⟩;rcases l with l | ⟨k,c,e,z⟩
  ·exact .inl l
  ·exact .inr ⟨k,c,e,cellK x c e _ z⟩
 ·obtain⟨v,z⟩:=I.cell x c e;exact⟨v,cellK x c e v z⟩
 ·obtain⟨m,⟨o,_,_,ho,_⟩,_⟩:=I.loc;exact free _ o (λz=>(Hr _ z).2.1 rfl) ho I.free
 ·obtain⟨v,o,ho,hd⟩:=I.cell x c e;exact free c o (λz=>(Hr c z).2.2.1 x c e rfl) ho (I.jP x c e)
 ·obtain⟨e,n,ne,nf,d⟩:=I.pin p hp;have J3:p.1∉ch:=λz=>(Hr p.1 z).2.2.2 p hp rfl;exact⟨keep p.1 p.2 ne nf J3 e n,free p.1 p.2 J3 e n,ne,nf,d⟩
def Inv.un{t':Nat}(I:Inv X pins σ H s)(u:Un X.fs [] H H' s.heap h')(bO:lF X.prog X.w H' h'):Inv X pins σ H' { s with heap:=h',toks:=t' }:=by
 obtain⟨m,⟨o,es,ep,ho,r⟩,_⟩:=id I.loc;obtain⟨sl,hL⟩:=u.any ho I.free 0x1;exact I.step (g':=s.gens) (d':=s.drawn) (ch:=[]) 0x17 (λb o _ hb _ e n=>u.keep b o e n hb 0x1) (λb o _ hb _ e n=>u.slot b o e n hb 0x1) (λb o _ e n=>u.free b o e n 0x1) (λb o _ e=>u.there b o e 0x1) u.vm u.t7 u.uN (λm' hm=>by
  obtain⟨o',es',ep',Og,r'⟩:=hm;rw[ho]at Og;cases Og;exact⟨_,es',ep',hL,r'⟩) bO I.bare
def Inv.call{g':Array GenState}{t':Nat}{d':Drawn}{ch:List Addr}(I:Inv X pins σ H s)(u:Un (Df X.stack) ch H H' s.heap h')(bO:lF X.prog X.w H' h')(hg:AllBare g')
  (Hr:∀b∈ch,(b∈X.ex\/X.afc.heap.objs.size<=b)/\b≠X.env.locals/\(∀x c,X.env.cells.lookup x=some c->c≠b)/\∀p∈X.pn++pins,p.1≠b) :
  Inv X pins σ H' { s with heap:=h',gens:=g',drawn:=d',toks:=t' }:=by
 obtain⟨m,⟨o,es,ep,ho,r⟩,_⟩:=id I.loc;obtain⟨sl,hL⟩:=u.any ho I.free λz=>(Hr _ z).2.1 rfl;exact I.step (ch:=ch) Hr (λb o hL hb hc e n=>u.keep b o e n (λz=>(gj.mp (I.vy b z)).elim hL hb) hc) (λb o _ _ hc e n=>u.any e n hc) (λb o hc e n=>u.free b o e n hc) (λb o hc e=>u.there b o e hc) u.vm u.t7 u.uN (λm' hm=>by
  obtain⟨o',es',ep',Og,r'⟩:=hm;rw[ho]at Og;cases Og;exact⟨_,es',ep',hL,r'⟩) bO hg
def Inv.turned{t':Nat}{it:Addr}(I:Inv X pins σ H s)(k:∀b o,b≠it->s.heap.get? b=some o->h'.get? b=some o)(hn:H it=none)(hL:it≠X.env.locals)
  (h1:it∈X.ex\/X.afc.heap.objs.size<=it) (h2:∀x c,X.env.cells.lookup x=some c->c≠it) (h3:∀p∈X.pn++pins,p.1≠it):Inv X pins σ H { s with heap:=h',toks:=t' }:=by
 have nit:∀b u,H b=some u->b≠it:=λb u e z=>by rw[z,hn]at e;cases e
 refine I.step (g':=s.gens) (d':=s.drawn) (ch:=[it]) (λb hb=>?_) (λb o _ _ hc e _=>k b o (λz=>hc (by simp[z])) e) (λb o _ _ hc e _=>⟨o.slots,k b o (λz=>hc (by simp[z])) e⟩) (λ_ _ _ _ n=>n)
  (λb o hc e=>⟨o,k b o (λz=>hc (by simp[z])) e⟩) (λ_ _ e=>e) (λ_ _ _ e=>e) (λb ps e=>⟨#[],by rw[e];simp⟩) (λm hm=>?_) (λb u e=>?_) I.bare
 ·have e:b=it:=by simpa using hb
  subst e;exact⟨h1,hL,h2,h3⟩
 ·obtain⟨o,es,ep,ho,r⟩:=hm;exact⟨o,es,ep,k _ o (afy hL) ho,r⟩
 ·refine (I.bO b u e).uO (λc v hc q=>k c v ?_ q) (λ_ q=>q) λ_ _ q=>q;rcases hc with z | z
  ·rw[z];exact nit b u e
  ·exact nit c _ z
def Inv.tok(I:Inv X pins σ H s)(t:Nat):Inv X pins σ H { s with toks:=t }:=I.un (h':=s.heap) (t':=t) Un.refl I.bO
def Inv.kept(I:Inv X pins σ H s)(k:∀b u,s.heap.get? b=some u->h'.get? b=some u):Inv X pins σ H { s with heap:=h',toks:=t' }:=I.un (Un.kept k) (I.bO.kept k)
def Inv.laid(I:Inv X pins σ H s)(k:∀b u,s.heap.get? b=some u->h'.get? b=some u)(hp:s.heap.objs.size<=a)(new:cB X.prog X.w (upd H a o) h' a o) :
  Inv X pins σ (upd H a o) { s with heap:=h',toks:=t' }:=I.un (Un.laid k hp (I.bO.fresh hp)) (I.bO.laid k hp new)
def Inv.write(I:Inv X pins σ H s)(mu:Mut (H x))(he:e=x\/H e=some (.own x))(k:∀b u,b≠e->s.heap.get? b=some u->h'.get? b=some u)(Oi:∃u,h'.get? e=some u) 
  (new:cB X.prog X.w (upd H x o) h' x o):Inv X pins σ (upd H x o) { s with heap:=h',toks:=t' }:=I.un (Un.write mu he k Oi) (I.bO.write mu he k Oi new)
def Inv.Cj(I:Inv X pins σ H s)(h:∀p∈aa9,s.heap.get? p.1=some p.2/\H p.1=none/\p.1≠X.env.locals/\p.1∉X.fs/\∀v,p.2.data≠.cell v):Inv X aa9 σ H s :=
 ⟨I.ok,I.os,I.bare,I.base,I.loc,I.cell,I.free,I.jP,λp hp=>(mz.mp hp).elim (λz=>I.pin p (pG _ z)) (h p),I.bO,I.len⟩
def zvb{N:List Str}(hN:N.Nodup){i j:Nat}{x:Str}(a:N[i]? = some x)(b:N[j]? = some x):i=j:=by
 obtain⟨h1,e1⟩:=gf.mp a;obtain⟨h2,e2⟩:=gf.mp b;exact (List.getElem_inj hN).mp (e1.trans e2.symm)
def zqs{M:Model}{A:Around}{E:Value->Shared->Prop}{i:Nat}{x:Str}{v:V}{u:Value}{Q:Unit->Shared->Prop}(I:Inv X pins σ H s)(hN:X.N.Nodup)(hi:X.N[i]? = some x)(hx:Loc X.env.scope x)(r:RelV v u)
  (h:∀s',Inv X pins (σ.set i (some v)) H s'->(∃a,Heap.SameBut a s.heap s'.heap/\(a=X.env.locals\/X.env.cells.lookup x=some a))->Q () s') (hf:X.fn x=true\/X.env.scope.names.lookup x=some .local:=by first | exact .inl rfl | exact .inr rfl | assumption):wpAny M A (storeName X.env x u) Q E s:=by
 obtain⟨m,hn,hl⟩:=id I.loc;have aej:(X.env.scope.kind == .class || (X.env.scope.kind == .module && X.env.locals != X.env.globals))=false:=by rw[I.ok.kind];rfl
 have aeY:i<σ.length:=by rw[I.len];exact (gf.mp hi).1
 have Va:=I.Va;have tracked:∀{a:Addr} {h':Heap},(∃o,s.heap.get? a=some o/\H a=none)->Heap.SameBut a s.heap h'->lF X.prog X.w H h':=λ{a h'} ha hs b ob e=>by
  obtain⟨_,_,UL⟩:=ha;refine (I.bO b ob e).uO (λc w' hc q=>(hs.2 c ?_).trans q) (λ_ q=>q) λ_ _ q=>q;rintro rfl;rcases hc with rfl | hc
  ·rw[UL]at e;cases e
  ·rw[UL]at hc;cases hc
 rcases hx with hk | hk
 ·refine wpAny_storeName_local hk hn (λh' hn' hs=>?_) aej;obtain⟨oL,_,_,hoL,_⟩:=id hn;refine h _ ⟨I.ok,I.os,I.bare,⟨λb o e n hb hx=>?_,λb o e n hb hx=>?_,I.base.free,λb o e hx=>?_,I.base.vm,I.base.t7,I.base.uN⟩,⟨_,hn',λj y v' e1 e2 e3=>?_⟩,λy c e=>?_,I.free,I.jP,λp hp=>?_,tracked ⟨oL,hoL,I.free⟩ hs,by simpa using I.len⟩ ⟨_,hs,.inl rfl⟩
  ·exact (hs.2 b (gW (gQ (gw e) I.ok.above))).trans (I.base.keep b o e n hb hx)
  ·obtain⟨sl,e1⟩:=I.base.slot b o e n hb hx;exact⟨sl,(hs.2 b (gW (gQ (gw e) I.ok.above))).trans e1⟩
  ·obtain⟨o',e1⟩:=I.base.there b o e hx;exact⟨o',(hs.2 b (gW (gQ (gw e) I.ok.above))).trans e1⟩
  ·by_cases hj:j=i
   ·subst hj;rw[hi]at e1;cases e1;rw[k_ aeY]at e2;cases e2;exact⟨u,r,.inl ⟨hk,by simp⟩⟩
   ·rw[gR (afy hj)]at e2;obtain⟨u',r',q⟩:=hl j y v' e1 e2 e3;refine⟨u',r',?_⟩;rcases q with⟨k,e⟩ | ⟨k,c,e,z⟩
    ·refine .inl ⟨k,?_⟩;have:y≠x:=λe=>hj (zvb hN e1 (e ▸ hi));simp[this,e]
    ·exact .inr ⟨k,c,e,z.sameBut hs (Va y c e)⟩
  ·obtain⟨w',z⟩:=I.cell y c e;exact⟨w',z.sameBut hs (Va y c e)⟩
  ·obtain⟨e,n,ne,nf,d⟩:=I.pin p hp;exact⟨(hs.2 p.1 ne).trans e,n,ne,nf,d⟩
 ·have YQ:X.fn x=true:=by
   rcases hf with z | z
   ·exact z
   ·rw[z]at hk;cases hk
  obtain⟨c,hc⟩:=I.ok.has x (.inl hk);obtain⟨w',z⟩:=I.cell x c hc;refine wpAny_storeName_cell I.ok.kind hk hc z (λh' hc' hs=>?_);obtain⟨oc,hoc,aeb⟩:=id z;refine h { s with heap:=h' } ⟨I.ok,I.os,I.bare,⟨λb o e n hb hx=>?_,λb o e n hb hx=>?_,I.base.free,λb o e hx=>?_,I.base.vm,I.base.t7,I.base.uN⟩,⟨m,hn.sameBut hs (afy (Va x c hc)),λj y v' e1 e2 e3=>?_⟩,λy c' e=>?_,I.free,I.jP,λp hp=>?_,tracked ⟨oc,hoc,I.jP x c hc⟩ hs,by simpa using I.len⟩ ⟨c,hs,.inr hc⟩
  ·exact (hs.2 b (gW (gQ (gw e) (I.ok.Vb x c YQ hc)))).trans (I.base.keep b o e n hb hx)
  ·obtain⟨sl,e1⟩:=I.base.slot b o e n hb hx;exact⟨sl,(hs.2 b (gW (gQ (gw e) (I.ok.Vb x c YQ hc)))).trans e1⟩
  ·obtain⟨o',e1⟩:=I.base.there b o e hx;exact⟨o',(hs.2 b (gW (gQ (gw e) (I.ok.Vb x c YQ hc)))).trans e1⟩
  ·by_cases hj:j=i
   ·subst hj;rw[hi]at e1;cases e1;rw[k_ aeY]at e2;cases e2;exact⟨u,r,.inr ⟨.inl hk,c,hc,hc'⟩⟩
   ·rw[gR (afy hj)]at e2;obtain⟨u',r',q⟩:=hl j y v' e1 e2 e3;refine⟨u',r',?_⟩;rcases q with q | ⟨k,c',e,z'⟩
    ·exact .inl q
    ·refine .inr ⟨k,c',e,z'.sameBut hs ?_⟩;rintro rfl;exact hj (zvb hN e1 (I.ok.inj _ _ _ e hc ▸ hi))
  ·by_cases hcc:c'=c
   ·subst hcc;exact⟨_,hc'⟩
   ·obtain⟨w2,z2⟩:=I.cell y c' e;exact⟨w2,z2.sameBut hs hcc⟩
  ·obtain⟨e,n,ne,nf,d⟩:=I.pin p hp;refine⟨(hs.2 p.1 ?_).trans e,n,ne,nf,d⟩;intro q;rw[q,hoc]at e;have q':oc=p.2:=afr e;exact d w' (by rw[<-q'];exact aeb)
def zst(I:Inv X pins σ H s)(hN:X.N.Nodup)(hi:X.N[i]? = some x)(hx:Loc X.env.scope x)(r:RelV v u) 
  (h:∀s',Inv X pins (σ.set i (some v)) H s'->Q () s') (hf:X.fn x=true\/X.env.scope.names.lookup x=some .local:=by first | exact .inl rfl | exact .inr rfl | assumption):wpAny M A (storeName X.env x u) Q E s :=
 zqs I hN hi hx r (λs' I' _=>h s' I') hf
def Inv.acd(I:Inv X pins σ H s)(ho:s'.os=s.os)(u:Un (Df X.stack) ch H H' s.heap s'.heap)(bO:lF X.prog X.w H' s'.heap)(hg:AllBare s'.gens) 
  (Hr:∀b∈ch,(b∈X.ex\/X.afc.heap.objs.size<=b)/\b≠X.env.locals/\(∀x c,X.env.cells.lookup x=some c->c≠b)/\∀p∈X.pn++pins,p.1≠b):Inv X pins σ H' s':=by
 obtain⟨h',g',d',t',o'⟩:=s';have e:o'=s.os:=ho;subst e;exact I.call (g':=g') (t':=t') (d':=d') u bO hg Hr
end
noncomputable abbrev XK:=Value->Option Addr->Hp->Prop
noncomputable abbrev St:=List (Option V)
noncomputable abbrev VK:=V->Hp->Prop
noncomputable abbrev TE:=St->Hp->VK->Prop
noncomputable abbrev TT:=St->Hp->(Bool->Hp->Prop)->Prop
noncomputable abbrev TA:=St->Hp->(List V->Hp->Prop)->Prop
structure Ends where
 nx:St->Hp->Prop
 rt:VK
 bk:St->Hp->Prop:=λ_ _=>False
 ct:St->Hp->Prop:=λ_ _=>False
noncomputable abbrev TS:=Ends->St->Hp->Prop
def EP(X:Cx)(pins:List 0x6)(σ:St)(Q:VK)(u:Value)(s':Shared):Prop:=∃v H',Inv X pins σ H' s'/\RelV v u/\Q v H'
def TP(X:Cx)(pins:List 0x6)(σ:St)(Q:Bool->Hp->Prop)(b:Bool)(s':Shared):Prop:=∃H',Inv X pins σ H' s'/\Q b H'
def AP(X:Cx)(pins:List 0x6)(σ:St)(Q:List V->Hp->Prop)(us:List Value)(s':Shared):Prop:=∃vs H',Inv X pins σ H' s'/\Vals vs us/\Q vs H'
def SP(X:Cx)(pins:List 0x6)(D:Ends)(f:Flow)(s':Shared):Prop :=
 match f with
 | .next=>∃σ' H',Inv X pins σ' H' s'/\D.nx σ' H'
 | .brk=>∃σ' H',Inv X pins σ' H' s'/\D.bk σ' H'
 | .cont=>∃σ' H',Inv X pins σ' H' s'/\D.ct σ' H'
 | .ret u=>∃v σ' H',Inv X pins σ' H' s'/\RelV v u/\D.rt v H'
def PE(X:Cx)(e:Expr)(t:TE):Prop :=
 ∀(pins:List 0x6) (s:Shared) (σ:St) (H:Hp) (Q:VK),Inv X pins σ H s->t σ H Q->wpAny 0x7 X.A (eval e X.env) (EP X pins σ Q) X.xe s
def PT(X:Cx)(e:Expr)(t:TT):Prop :=
 ∀(pins:List 0x6) (s:Shared) (σ:St) (H:Hp) (Q:Bool->Hp->Prop),Inv X pins σ H s->t σ H Q->wpAny 0x7 X.A (isTrue e X.env (eval e X.env)) (TP X pins σ Q) X.xe s
def PW(X:Cx)(e:Expr)(t:TT):Prop :=
 ∀(whole:Sem Value) (pins:List 0x6) (s:Shared) (σ:St) (H:Hp) (Q:Bool->Hp->Prop),Inv X pins σ H s->t σ H Q->wpAny 0x7 X.A (isTrue e X.env whole) (TP X pins σ Q) X.xe s
def PW.pt(h:PW X e t):PT X e t:=h _
def PA(X:Cx)(es:List Expr)(t:TA):Prop :=
 ∀(pos:Pos) (pins:List 0x6) (s:Shared) (σ:St) (H:Hp) (Q:List V->Hp->Prop),Inv X pins σ H s->t σ H Q->wpAny 0x7 X.A (spliced #[13,pos,es]) (AP X pins σ Q) X.xe s
def PS(X:Cx)(st:Stmt)(t:TS):Prop :=
 ∀(pins:List 0x6) (s:Shared) (σ:St) (H:Hp) (D:Ends),Inv X pins σ H s->t D σ H->wpAny 0x7 X.A (exec st X.env) (SP X pins D) X.xe s
def zW(X:Cx)(st:List Stmt)(t:TS):Prop :=
 ∀(pins:List 0x6) (s:Shared) (σ:St) (H:Hp) (D:Ends),Inv X pins σ H s->t D σ H->wpAny 0x7 X.A (execs st X.env) (SP X pins D) X.xe s
def cO{α:Type}{t:Sem α}{Q Q':α->Shared->Prop}{M:Model}{A:Around}{E:Value->Shared->Prop}{s:Shared}(h:wpAny M A t Q E s)(hQ:∀a s,Q a s->Q' a s):wpAny M A t Q' E s:=afA h hQ λ_ _ x=>x
section
variable  {X:Cx}
noncomputable def acP(i:Nat):TE:=fun σ H Q=>∃v,σ[i]? = some (some v)/\Q v H
noncomputable def tC(v:V):TE:=λ_ H Q=>Q v H
def Jt(hN:X.N[i]? = some x)(hv:Vis X.env.scope x)(hd:0xf=false:=by decide)(yw:(x==("__classdict__":Str))=false:=by decide):PE X (.Name x pos) (acP i):=by
 show 6;obtain⟨v,e,h⟩:=h;obtain⟨m,hn,hl⟩:=I.loc;obtain⟨u,r,l⟩:=hl i x v hN e hv;have fin:EP X pins σ Q u s:=⟨v,H,I,r,h⟩;rcases l with⟨hk,hm⟩ | ⟨hk,c,hc,UW⟩
 ·exact wpAny_Name (wpAny_loadName_local I.ok.kind hk hn hm fin) hd
 ·rcases hk with hk | hk
  ·exact wpAny_Name (wpAny_loadName_cell I.ok.kind hk hc UW fin) hd
  ·exact wpAny_Name (wpAny_loadName_free I.ok.kind hk hc UW fin yw) hd
def WW{i j pos}:PE X (.Constant (.int i) j pos) (tC (.int i)):=λ_ _ _ H _ I h=>wpAny_Constant_int ⟨.int i,H,I.tok _,⟨_,rfl⟩,h⟩
def abh{b j pos}:PE X (.Constant (.bool b) j pos) (tC (.bl b)):=λ_ _ _ H _ I h=>Constant_bool ⟨.bl b,H,I,rfl,h⟩
def WQ{j pos}:PE X (.Constant .none j pos) (tC .non):=λ_ _ _ H _ I h=>Constant_none ⟨.non,H,I,rfl,h⟩
def WK{x j pos}:PE X (.Constant (.str x) j pos) (tC (.str x)):=λ_ _ _ H _ I h=>Calls.Constant_str ⟨.str x,H,I.tok _,⟨_,rfl⟩,h⟩
def Gl(X:Cx)(x:Str):Prop:=X.env.kindOf x=some .globalImplicit
def znl(I:Inv X pins σ H s)(hg:Gl X x)(hm:X.mg x=some u)(h:Q u s) 
  (hd:0xf=false:=by decide):wpAny 0x7 X.A (eval (.Name x pos) X.env) Q E s :=
 Calls.Name_function_global I.ok.kind hg (Calls.loadGlobal_global (by rw[I.ok.glob];exact I.mod.glob.keeps I.bk) hm h) hd
def Ou(I:Inv X pins σ H s)(hg:Gl X x)(hm:X.mg x=none)(hv:bootBuiltins x=some u)(h:Q u s) 
  (hn:x ≠ "__name__":=by decide) (hd:0xf=false:=by decide):wpAny 0x7 X.A (eval (.Name x pos) X.env) Q E s:=by
 obtain⟨mb,h1,h2⟩:=I.mod.blt;exact Calls.Name_function_global I.ok.kind hg (Calls.loadGlobal_builtin (by rw[I.ok.glob];exact I.mod.glob.keeps I.bk) hm (by rw[I.ok.blt];exact h1.keeps I.bk) ((h2 x hn).trans hv) h) hd
def QC(hg:Gl X x)(hm:X.mg x=some u)(r:RelV v u)(hd:0xf=false:=by decide):PE X (.Name x pos) (tC v) :=
 λ_ _ _ H _ I h=>znl I hg hm ⟨v,H,I,r,h⟩ hd
def QK{x:Str}{v:V}{u:Value}{pos:Pos}(hg:Gl X x)(hm:X.mg x=none)(hv:bootBuiltins x=some u)(r:RelV v u)(hn:x ≠ "__name__":=by decide)(hd:0xf=false:=by decide):PE X (.Name x pos) (tC v) :=
 λ_ _ _ H _ I h=>Ou I hg hm hv ⟨v,H,I,r,h⟩ hn hd
variable  {a b:Expr}{ta tb:TE}{pos:Pos}
variable  {tA tB':TT}{rest:List Expr}
noncomputable def ac2(t u:TT):TT:=fun σ H Q=>t σ H λc H1=>if c=true then u σ H1 Q else Q false H1
noncomputable def tOr(t u:TT):TT:=fun σ H Q=>t σ H λc H1=>if c=true then Q true H1 else u σ H1 Q
noncomputable def acV(t:TT):TT:=fun σ H Q=>t σ H λc H1=>Q (!c) H1
def Qf(ha:PT X a tA):PW X (.BoolOp .And [a] pos) tA:=by
 intro wh pins s σ H Q I h;refine isTrue_and (cO (ha pins s σ H Q I h) λc s1 e=>?_);cases c with
 | true=>exact isTrue_and_nil e
 | false=>exact e
def Wk(ha:PT X a tA):PW X (.BoolOp .Or [a] pos) tA:=by
 intro wh pins s σ H Q I h;refine isTrue_or (cO (ha pins s σ H Q I h) λc s1 e=>?_);cases c with
 | false=>exact isTrue_or_nil e
 | true=>exact e
def Wm(ha:PT X a tA)(hb:PW X (.BoolOp .And (b::rest) pos) tB'):PW X (.BoolOp .And (a::b::rest) pos) (ac2 tA tB'):=by
 intro wh pins s σ H Q I h;refine isTrue_and (cO (ha pins s σ H _ I h) λc s1 zz=>?_);obtain⟨H1,I1,q1⟩:=zz;cases c with
 | true=>exact hb wh pins s1 σ H1 Q I1 q1
 | false=>exact⟨H1,I1,q1⟩
def aa6(ha:PT X a tA)(hb:PW X (.BoolOp .Or (b::rest) pos) tB'):PW X (.BoolOp .Or (a::b::rest) pos) (tOr tA tB'):=by
 intro wh pins s σ H Q I h;refine isTrue_or (cO (ha pins s σ H _ I h) λc s1 zz=>?_);obtain⟨H1,I1,q1⟩:=zz;cases c with
 | true=>exact⟨H1,I1,q1⟩
 | false=>exact hb wh pins s1 σ H1 Q I1 q1
def Wn(ha:PT X a tA):PT X (.UnaryOp .Not a pos) (acV tA):=by
 show 6;exact isTrue_not (ha pins s σ H (λc H1=>Q (!c) H1) I h)
noncomputable def aaL(ta tb:TE):TE:=fun σ H Q=>ta σ H λx H1=>∃c,x=.bl c/\if c=true then tb σ H1 Q else Q (.bl false) H1
noncomputable def acT(ta tb:TE):TE:=fun σ H Q=>ta σ H λx H1=>∃c,x=.bl c/\if c=true then Q (.bl true) H1 else tb σ H1 Q
noncomputable def aaB(ta:TE):TE:=fun σ H Q=>ta σ H λx H1=>∃c,x=.bl c/\Q (.bl (!c)) H1
def WM{op}(h:PE X a t):PE X (.BoolOp op [a] pos) t:=λpins s σ H Q I hw=>BoolOp_one (h pins s σ H Q I hw)
def W5(ha:PE X a ta)(hb:PE X (.BoolOp .And (b::rest) pos) tb):PE X (.BoolOp .And (a::b::rest) pos) (aaL ta tb):=by
 show 6;refine BoolOp_and 0x27;show 8;obtain⟨c,rfl,q1⟩:=q1;cases r1;refine afT ?_;cases c with
 | true=>exact hb pins s1 σ H1 Q I1 q1
 | false=>exact⟨.bl false,H1,I1,rfl,q1⟩
def abd(ha:PE X a ta)(hb:PE X (.BoolOp .Or (b::rest) pos) tb):PE X (.BoolOp .Or (a::b::rest) pos) (acT ta tb):=by
 show 6;refine BoolOp_or 0x27;show 8;obtain⟨c,rfl,q1⟩:=q1;cases r1;refine afT ?_;cases c with
 | false=>exact hb pins s1 σ H1 Q I1 q1
 | true=>exact⟨.bl true,H1,I1,rfl,q1⟩
def WN(ha:PE X a ta):PE X (.UnaryOp .Not a pos) (aaB ta):=by
 show 6;refine UnaryOp_ 0x27;show 8;obtain⟨c,rfl,q1⟩:=q1;cases r1;exact not_of (afT ⟨.bl (!c),H1,I1,rfl,q1⟩)
noncomputable def tIf(t:TT)(ta tb:TE):TE:=fun σ H Q=>t σ H λc H1=>if c=true then ta σ H1 Q else tb σ H1 Q
def Jv{c:Expr}(hc:PT X c tA)(ha:PE X a ta)(hb:PE X b tb):PE X (.IfExp c a b pos) (tIf tA ta tb):=by
 show 6;refine wpAny_IfExp (cO (hc pins s σ H _ I h) λd s1 zz=>?_);obtain⟨H1,I1,q1⟩:=zz;cases d with
 | true=>exact ha pins s1 σ H1 Q I1 q1
 | false=>exact hb pins s1 σ H1 Q I1 q1
end
def oN(K:PySem.W.Frag)(H:Hp)(a:Addr)(xs:List V):Prop :=
 Rd H a (.lst xs) \/
  ∃(o:Obj) (its:Array Value) (n:Nat),K.lookup a=some o/\o.cls=.type "list"/\o.dict=none/\o.data=.seq its n/\its.size<=sizeLine/\Vals xs its.toList
def oV(K:PySem.W.Frag)(H:Hp)(a:Addr)(xs:List V):Prop :=
 Rd H a (.tup xs) \/
  ∃(o:Obj) (its:Array Value) (n:Nat),K.lookup a=some o/\o.cls=.type "tuple"/\o.data=.seq its n/\its.size<=sizeLine/\Vals xs its.toList
noncomputable def aeJ:Value->Option V
 | .none=>some .non
 | .bool b=>some (.bl b)
 | .int i _=>some (.int i)
 | .str x _=>some (.str x)
 | .bytes b _=>some (.byt b)
 | .float b _=>some (.flt b)
 | .ref a=>some (.ref a)
 | .type n=>some (.ty n)
 | _=>none
def RelV.abs(r:RelV x u):aeJ u=some x:=by
 cases x with
 | non=>cases r;rfl
 | bl _=>cases r;rfl
 | int _=>obtain⟨t,rfl⟩:=r;rfl
 | str _=>obtain⟨t,rfl⟩:=r;rfl
 | byt _=>obtain⟨t,rfl⟩:=r;rfl
 | flt _=>obtain⟨t,rfl⟩:=r;rfl
 | ref _=>cases r;rfl
 | ty _=>cases r;rfl
def RelV.inj{x y:V}{u:Value}(r:RelV x u)(q:RelV y u):x=y:=afr (r.abs.symm.trans q.abs)
theorem Vals.inj:∀{xs ys:List V} {us:List Value},Vals xs us->Vals ys us->xs=ys
 | _,_,_,.nil,.nil=>rfl
 | _,_,_,.cons r t,.cons r' t'=>by rw[r.inj r',Vals.inj t t']
section
variable  {X:Cx}{pins:List 0x6}{σ:St}{H:Hp}{s:Shared}{a:Addr}{xs ys:List V}
def oN.of{K:PySem.W.Frag}(h:H a=some (.lst xs)):oN K H a xs:=.inl (.inl h)
def oV.of{K:PySem.W.Frag}(h:H a=some (.tup xs)):oV K H a xs:=.inl (.inl h)
def Inv.list(I:Inv X pins σ H s)(h:oN X.K H a xs):∃its:List Value,Vals xs its/\PlainL s.heap a its.toArray/\xs.length<=sizeLine:=by
 rcases h with h | ⟨o,its,n,hk,hc,hd,hs,hz,r⟩
 ·obtain⟨z,its,n,r,e⟩:=h.ok I.bO;exact⟨its,r,⟨_,n,e,rfl,rfl,rfl⟩,z⟩
 ·refine⟨its.toList,r,⟨o,n,I.qO a o hk,hc,hd,by simpa using hs⟩,?_⟩;have e:=r.length;simp only[nO]at e;omega
def Inv.tuple(I:Inv X pins σ H s)(h:oV X.K H a xs):∃its:List Value,Vals xs its/\IsTup s.heap a its.toArray/\xs.length<=sizeLine:=by
 rcases h with h | ⟨o,its,n,hk,hc,hs,hz,r⟩
 ·obtain⟨z,its,r,p⟩:=h.ok I.bO;exact⟨its,r,p,z⟩
 ·refine⟨its.toList,r,⟨o,I.qO a o hk,hc,n,by simpa using hs⟩,?_⟩;have e:=r.length;simp only[nO]at e;omega
def Inv.vK(I:Inv X pins σ H s)(h:oN X.K H a xs)(h':oN X.K H a ys):xs=ys:=by
 obtain⟨its,r,⟨o,n,e,_,_,d⟩,_⟩:=I.list h;obtain⟨its',r',⟨o',n',e',_,_,d'⟩,_⟩:=I.list h';rw[e]at e';cases e';rw[d]at d';injection d' with d1 _;have:its=its':=by simpa using congrArg Array.toList d1
 subst this;exact r.inj r'
def Inv.tD(I:Inv X pins σ H s)(h:oV X.K H a xs)(h':oV X.K H a ys):xs=ys:=by
 obtain⟨its,r,⟨o,e,_,n,d⟩,_⟩:=I.tuple h;obtain⟨its',r',⟨o',e',_,n',d'⟩,_⟩:=I.tuple h';rw[e]at e';cases e';rw[d]at d';injection d' with d1 _;have:its=its':=by simpa using congrArg Array.toList d1
 subst this;exact r.inj r'
end
noncomputable abbrev Cx.wish(X:Cx)(E:Value->Shared->Prop):Cx:={ X with xe:=E }
noncomputable abbrev Cx.JX(X:Cx):Cx:=X.wish λ_ _=>False
def Cx.Ok.wish{X:Cx}(ok:X.Ok)(E:Value->Shared->Prop):(X.wish E).Ok :=
 ⟨ok.mod,ok.kind,ok.glob,ok.blt,ok.above,ok.inj,ok.has,ok.Vb,ok.hd,ok.frames,ok.stk,ok.exf,ok.bs,ok.G7,ok.FJ,ok.LR,ok.qe,ok.Lr⟩
def Cx.Ok.lN{X:Cx}{E:Value->Shared->Prop}(ok:(X.wish E).Ok):X.Ok :=
 ⟨ok.mod,ok.kind,ok.glob,ok.blt,ok.above,ok.inj,ok.has,ok.Vb,ok.hd,ok.frames,ok.stk,ok.exf,ok.bs,ok.G7,ok.FJ,ok.LR,ok.qe,ok.Lr⟩
section
variable  {X:Cx}{pins:List 0x6}{σ:St}{H:Hp}{s:Shared}{E:Value->Shared->Prop}
def Inv.wish(I:Inv X pins σ H s)(E:Value->Shared->Prop):Inv (X.wish E) pins σ H s:=⟨I.ok.wish E,I.os,I.bare,I.base,I.loc,I.cell,I.free,I.jP,I.pin,I.bO,I.len⟩
def Inv.lN(I:Inv (X.wish E) pins σ H s):Inv X pins σ H s:=⟨I.ok.lN,I.os,I.bare,I.base,I.loc,I.cell,I.free,I.jP,I.pin,I.bO,I.len⟩
def SP.lN(h:SP (X.wish E) pins D f s'):SP X pins D f s':=by
 cases f with
 | next=>obtain⟨σ',H',I,q⟩:=h;exact⟨σ',H',I.lN,q⟩
 | brk=>obtain⟨σ',H',I,q⟩:=h;exact⟨σ',H',I.lN,q⟩
 | cont=>obtain⟨σ',H',I,q⟩:=h;exact⟨σ',H',I.lN,q⟩
 | ret u=>obtain⟨v,σ',H',I,r,q⟩:=h;exact⟨v,σ',H',I.lN,r,q⟩
def zW.JX{st:List Stmt}{t:TS}(h:zW X.JX st t):zW X st t:=λpins s σ H D I hw =>
 afA (h pins s σ H D (I.wish _) hw) (λ_ _ q=>q.lN) λ_ _ z=>False.elim z
end
section
variable  {X:Cx}{st:Stmt}{rest:List Stmt}{t u:TS}{e:Expr}{te:TE}{pos:Pos}
noncomputable def aaD:TS:=λD σ H=>D.nx σ H
noncomputable def acR(t u:TS):TS:=λD σ H=>t { D with nx:=u D } σ H
def Qk:zW X [] aaD:=λ_ _ σ H _ I h=>wpAny_execs_nil ⟨σ,H,I,h⟩
def Jh(h1:PS X st t)(h2:zW X rest u):zW X (st::rest) (acR t u):=by
 intro pins s σ H D I h;refine wpAny_execs_cons (cO (h1 pins s σ H { D with nx:=u D } I h) λf s1 q=>?_);cases f with
 | next =>
  obtain⟨σ',H',I',q⟩:=q;exact h2 pins s1 σ' H' D I' q
 | ret v=>exact q
 | brk=>exact q
 | cont=>exact q
def Qj(h1:PS X st t):zW X [st] t:=by
 intro pins s σ H D I h;refine wpAny_execs_cons (cO (h1 pins s σ H D I h) λf s1 q=>?_);cases f with
 | next=>exact wpAny_execs_nil q
 | ret v=>exact q
 | brk=>exact q
 | cont=>exact q
noncomputable def V5:TS:=λD σ H=>D.bk σ H
def Jj:PS X (.Break pos) V5:=λ_ _ σ H _ I h=>wpAny_Break ⟨σ,H,I,h⟩
def Inv.quiet(I:Inv X pins σ H s):interactive X.env=false:=by simp[interactive,I.ok.kind]
noncomputable def aaH(te:TE):TS:=λD σ H=>te σ H λ_ H1=>D.nx σ H1
def Ql(he:PE X e te)(hs:swapsWith e none pos.line X.env=pure false:=by rfl):PS X (.Expr e pos) (aaH te):=by
 intro pins s σ H D I h;refine wpAny_Expr_any (cO (he pins s σ H _ I h) λv s1 zz=>?_) I.quiet hs;show 8;exact⟨σ,H1,I1,q1⟩
noncomputable def acS(te:TE):TS:=λD σ H=>te σ H D.rt
def Wq(he:PE X e te):PS X (.Return (some e) pos) (acS te):=by
 intro pins s σ H D I h;refine wpAny_Return_some (cO (he pins s σ H _ I h) λv s1 zz=>?_);show 8;exact⟨x,σ,H1,I1,r1,q1⟩
noncomputable def acY(c:TT)(t u:TS):TS:=λD σ H=>c σ H λb H1=>if b=true then t D σ H1 else u D σ H1
def aa7{c:Expr}{a b:List Stmt}{tc:TT}(hc:PT X c tc)(ha:zW X a t)(hb:zW X b u):PS X (.If c a b pos) (acY tc t u):=by
 intro pins s σ H D I h;refine wpAny_If (cO (hc pins s σ H _ I h) λd s1 zz=>?_);obtain⟨H1,I1,q1⟩:=zz;cases d with
 | true=>exact ha pins s1 σ H1 D I1 q1
 | false=>exact hb pins s1 σ H1 D I1 q1
end
noncomputable abbrev TG:=V->St->Hp->(St->Hp->Prop)->Prop
noncomputable abbrev Vd:=List V->St->Hp->(St->Hp->Prop)->Prop
def PG(X:Cx)(target:Expr)(t:TG):Prop :=
 ∀(pins:List 0x6) (s:Shared) (σ:St) (H:Hp) (v:V) (u:Value) (Q:St->Hp->Prop),Inv X pins σ H s->RelV v u->t v σ H Q ->
  wpAny 0x7 X.A (assign target X.env u) (λ_ s'=>∃σ' H',Inv X pins σ' H' s'/\Q σ' H') X.xe s
def PGs(X:Cx)(ts:List Expr)(t:Vd):Prop :=
 ∀(pins:List 0x6) (s:Shared) (σ:St) (H:Hp) (vs:List V) (us:List Value) (Q:St->Hp->Prop),Inv X pins σ H s->Vals vs us->t vs σ H Q ->
  wpAny 0x7 X.A (assignInOrder ((assignEach ts X.env).map (·.2)) us) (λ_ s'=>∃σ' H',Inv X pins σ' H' s'/\Q σ' H') X.xe s
noncomputable abbrev Np:=V->V->V->Hp->(Hp->Prop)->Prop
def xx(X:Cx)(t:Np):Prop :=
 ∀(pins:List 0x6) (s:Shared) (σ:St) (H:Hp) (o i v:V) (ov iv u:Value) (Q:Hp->Prop),Inv X pins σ H s->RelV o ov->RelV i iv->RelV v u->t o i v H Q ->
  wpAny 0x7 X.A (setItem ov iv u) (λ_ s'=>∃H',Inv X pins σ H' s'/\Q H') X.xe s
section
variable  {X:Cx}{pos:Pos}
noncomputable def De(i:Nat):TG:=λv σ H Q=>Q (σ.set i (some v)) H
def Qy(hN:X.N.Nodup)(hi:X.N[i]? = some x)(hx:Loc X.env.scope x)(hf:X.fn x=true\/X.env.scope.names.lookup x=some .local:=by first | exact .inl rfl | exact .inr rfl | assumption):PG X (.Name x pos) (De i):=by
 intro pins s σ H v u Q I r h;exact wpAny_assign_Name (zst I hN hi hx r (λs' I'=>⟨_,H,I',h⟩) hf)
noncomputable def aeq:Vd:=λvs σ H Q=>vs=[]/\Q σ H
noncomputable def abQ(t:TG)(u:Vd):Vd:=λvs σ H Q=>∃v r,vs=v::r/\t v σ H fun σ' H'=>u r σ' H' Q
def Qx:PGs X [] aeq:=by
 intro pins s σ H vs us Q I r h;obtain⟨e,h⟩:=h;subst e;cases r;exact assignInOrder_nil ⟨σ,H,I,h⟩
def Js{e:Expr}{es:List Expr}{t:TG}{u:Vd}(h1:PG X e t)(h2:PGs X es u)
  (hs:(assignEach (e::es) X.env).map (·.2)=assign e X.env::(assignEach es X.env).map (·.2):=by rfl):PGs X (e::es) (abQ t u):=by
 intro pins s σ H vs us Q I r h;obtain⟨v,vr,e1,h⟩:=h;subst e1;cases r with
 | cons r rr =>
  rw[hs];refine assignInOrder_cons (cO (h1 pins s σ H _ _ _ I r h) λ_ s1 zz=>?_);obtain⟨σ1,H1,I1,q1⟩:=zz;exact h2 pins s1 σ1 H1 _ _ Q I1 rr q1
noncomputable def aeo(K:PySem.W.Frag)(n:Nat)(t:Vd):TG:=λv σ H Q=>∃a xs,v=.ref a/\oV K H a xs/\xs.length=n/\t xs σ H Q
def Wy(hc:X.calm=true)(h:PGs X es t) 
  (hn:(assignEach es X.env).length=n:=by rfl) (Gk:(assignEach es X.env).findIdx? (·.1)=none:=by rfl):PG X (.Tuple es k pos) (aeo X.K n t):=by
 intro pins s σ H v u Q I r hw;obtain⟨a,xs,e1,hq,hl,hw⟩:=hw;subst e1;cases r;obtain⟨its,rv,ht,hz⟩:=I.tuple hq;refine assign_Tuple_tuple (I.ok.hd hc) ht (by simp[hn,<-hl,rv.length]) Gk λh' hx=>?_;have I1:Inv X pins σ H { s with heap:=h' }:=I.kept (t':=s.toks) λb o e=>hx b o (gW (gw e)) e;exact h pins _ σ H xs _ Q I1 (by simpa using rv) hw
noncomputable def aep(to ti:TE)(t:Np):TG:=λv σ H Q=>to σ H λo H1=>ti σ H1 λi H2=>t o i v H2 λH3=>Q σ H3
def Wz{o i:Expr}{to ti:TE}{t:Np}(ho:PE X o to)(hi:PE X i ti)(hs:xx X t)
  (ha:∀v,assign (.Subscript o i pos) X.env v=(do
   let ov <-holding [v] (eval o X.env)
   let iv <-holding [v,ov] (eval i X.env)
   standAt pos
   holding [v,ov,iv] (setItem ov iv v)
   release [v,ov,iv] []):=by intro _;rfl):PG X (.Subscript o i pos) (aep to ti t):=by
 intro pins s σ H v u Q I r h;rw[ha];refine afm (afS (cO (ho pins s σ H _ I h) λov s1 zz=>?_));show 8;refine afm (afS (cO (hi pins s1 σ H1 _ I1 q1) λiv s2 zz=>?_));obtain⟨y,H2,I2,r2,q2⟩:=zz;refine afm (wpAny_standAt (afm (afS (cO (hs pins s2 σ H2 x y v ov iv u _ I2 r1 r2 r q2) λ_ s3 zz=>?_))));obtain⟨H3,I3,q3⟩:=zz;exact wpAny_release ⟨σ,H3,I3,q3⟩
noncomputable def V6(te:TE)(g:TG):TS:=λD σ H=>te σ H λx H1=>g x σ H1 D.nx
def Wt{tg e:Expr}{te:TE}{g:TG}(he:PE X e te)(hg:PG X tg g)(hs:swapsWithSole [tg] e pos.line X.env=pure false:=by rfl)(hw:swappedStores [tg] e X.env=pure none:=by rfl)
  (h1:(assignEach [tg] X.env).map (·.2)=[assign tg X.env]:=by rfl):PS X (.Assign [tg] e pos) (V6 te g):=by
 intro pins s σ H D I h;refine wpAny_Assign_stores (cO (he pins s σ H _ I h) λv s1 zz=>?_) hs hw;show 8;rw[h1];exact cO (hg pins s1 σ H1 x v _ I1 r1 q1) λ_ s2 q=>q
def Wo{i:Nat}{x:Str}{e:Expr}{te:TE}{pos':Pos}(hN:X.N.Nodup)(hi:X.N[i]? = some x)(hx:Loc X.env.scope x)(he:PE X e te)(hs:swapsWith e (some (.Name x pos')) pos.line X.env=pure false:=by rfl)(hf:X.fn x=true\/X.env.scope.names.lookup x=some .local:=by first | exact .inl rfl | exact .inr rfl | assumption) :
  PS X (.Assign [.Name x pos'] e pos) (V6 te (De i)):=by
 intro pins s σ H D I h;refine wpAny_Assign_Name (cO (he pins s σ H _ I h) λv s1 zz=>?_) hs;obtain⟨y,H1,I1,r1,q1⟩:=zz;exact zst I1 hN hi hx r1 (λs2 I2=>⟨_,H1,I2,q1⟩) hf
end
section
variable  {X:Cx}{pos:Pos}
noncomputable def V1(c:TT)(tb:TS):TS:=λD σ H=>∃W:Nat->St->Hp->Prop,(∃m,W m σ H)/\∀m σ H,W m σ H ->
 c σ H λb H1=>if b=true then ∃N:St->Hp->Prop,(∀σ' H',N σ' H'->∃m',m'<m/\W m' σ' H')/\tb { D with nx:=N,ct:=N,bk:=D.nx } σ H1 else D.nx σ H1
def Ji{c:Expr}{body:List Stmt}{tc:TT}{tb:TS}(hp:PassesOwn 0x7 X.A X.env X.xe)(hc:PT X c tc)(hb:zW X body tb):PS X (.While c body [] pos) (V1 tc tb):=by
 intro pins s σ H D I h;obtain⟨W,⟨m0,w0⟩,turn⟩:=h;refine wpAny_While (codeAny_whileLoop (λn s'=>∃σ' H',Inv X pins σ' H' s'/\W n σ' H') ?_ m0 ⟨σ,H,I,w0⟩);rintro n s1 ⟨σ1,H1,I1,w1⟩;refine afK hp (cO (hc pins s1 σ1 H1 _ I1 (turn n σ1 H1 w1)) λb s2 zz=>?_);obtain⟨H2,I2,q2⟩:=zz;cases b with
 | true =>
  obtain⟨N,hN,q2⟩:=q2;rw[afn rfl];refine afK hp (cO (hb pins s2 σ1 H2 _ I2 q2) λf s3 q3=>?_);cases f with
  | next =>
   obtain⟨σ3,H3,I3,n3⟩:=q3;obtain⟨m',hm,w3⟩:=hN σ3 H3 n3;exact⟨m',hm,σ3,H3,I3,w3⟩
  | cont =>
   obtain⟨σ3,H3,I3,n3⟩:=q3;obtain⟨m',hm,w3⟩:=hN σ3 H3 n3;exact⟨m',hm,σ3,H3,I3,w3⟩
  | brk=>exact q3
  | ret v=>exact q3
 | false =>
  rw[afo pH];exact wpAny_execs_nil ⟨σ1,H2,I2,q2⟩
end
structure It where
 go:Nat->Hp->Prop
 yld:Nat->Hp->V->Hp->Prop
 stop:Nat->Hp->Prop
def qK(X:Cx)(pins:List 0x6)(H:Hp)(b:Addr):Prop :=
 H b=none/\b≠X.env.locals/\b∉X.fs/\(b∈X.ex\/X.afc.heap.objs.size<=b)/\(∀x c,X.env.cells.lookup x=some c->c≠b)/\∀p∈X.pn++pins,p.1≠b
def Inv.v5(I:Inv X pins σ H s)(hb:s.heap.objs.size<=b)(hn:H' b=none):qK X pins H' b:=by
 refine⟨hn,mJ (gQ I.lt hb),I.adT hb,.inr (g_ I.sz hb),λx c e z=>?_,λp hp z=>?_⟩
 ·obtain⟨v,q⟩:=I.cell x c e;exact absurd (gQ q.lt (by rw[z];exact hb)) (mH _)
 ·exact absurd (gQ (gw (I.pin p hp).1) (by rw[z];exact hb)) (mH _)
structure Turn(P:Program)(w:World)(K:PySem.W.Frag)(tg:Expr)(J:It)(fp:List Addr)(it:Addr)(tn:Nat->Heap->Prop):Prop where
 mem:it∈fp
 obj:∀i h,tn i h->∀b∈fp,∃o,h.get? b=some o/\∀v,o.data≠.cell v
 keep:∀i h h',tn i h->(∀b∈fp,∀o,h.get? b=some o->h'.get? b=some o)->tn i h'
 item:∀(X:Cx),X.prog=P->X.w=w->X.K=K->X.calm=true->∀(i:Nat) (pins:List 0x6) (s:Shared) (σ:St) (H:Hp) (E:Value->Shared->Prop),Inv X pins σ H s->(∀b∈fp,qK X pins H b)->tn i s.heap->J.go i H ->
  wpAny (model P w) X.A (pyNext (.ref it)) (λr s1=>∃u,r=some u /\
   wpAny (model P w) X.A (letOwnedTupleGo tg (.ref it) u) (λ_ s2=>∃x H',Inv X pins σ H' s2/\RelV x u/\J.yld i H x H'/\tn (i+1) s2.heap/\∀b∈fp,H' b=none) E s1) E s
 done:∀(X:Cx),X.prog=P->X.w=w->X.K=K->X.calm=true->∀(i:Nat) (pins:List 0x6) (s:Shared) (σ:St) (H:Hp) (E:Value->Shared->Prop),Inv X pins σ H s->(∀b∈fp,qK X pins H b)->tn i s.heap->J.stop i H ->
  wpAny (model P w) X.A (pyNext (.ref it)) (λr s1=>r=none/\Inv X pins σ H s1) E s
 self:∀(A:Around) (i:Nat) (s:Shared) (Q:Value->Shared->Prop) (E:Value->Shared->Prop),tn i s.heap->Q (.ref it) s->wpAny (model P w) A (pyIter (.ref it)) Q E s
noncomputable abbrev TI:=St->Hp->(It->Hp->Prop)->Prop
def PIE(X:Cx)(pins:List 0x6)(σ:St)(tg:Expr)(R:It->Hp->Prop)(itv:Value)(s2:Shared):Prop :=
 ∃(it:Addr) (fp:List Addr) (tn:Nat->Heap->Prop) (J:It) (H':Hp),itv=.ref it/\Inv X pins σ H' s2/\Turn X.prog X.w X.K tg J fp it tn/\tn 0 s2.heap/\(∀b∈fp,qK X pins H' b)/\R J H'
def PI(X:Cx)(tg iter:Expr)(wi:TI):Prop :=
 ∀(pins:List 0x6) (s:Shared) (σ:St) (H:Hp) (R:It->Hp->Prop),Inv X pins σ H s->wi σ H R ->
  wpAny 0x7 X.A (eval iter X.env) (λv s1=>wpAny 0x7 X.A (pyIter v) (PIE X pins σ tg R) X.xe s1) X.xe s
def ug(ho:s.heap.get? it=some o)(hc:o.cls=.type n)(hd:o.data=.fields vs) 
  (hn:["enumerate","zip","dict_itemiterator","dict_reverseitemiterator","odict_iterator","itertools.zip_longest","itertools.pairwise"].contains n=false) (hQ:Q () s):wpAny M A (letOwnedTupleGo tg (.ref it) u) Q E s:=by
 unfold letOwnedTupleGo;cases tg<;>first
  | exact afp hQ
  | (cases u<;>first
    | exact afp hQ
    | (refine afm (wpAny_load ho ?_)
       rw[hc,hd];show wpAny M A (if (["enumerate","zip","dict_itemiterator","dict_reverseitemiterator","odict_iterator","itertools.zip_longest","itertools.pairwise"].contains n && vs[0]? == some (rawInt _))=true then _ else _) Q E s;rw[afo (by intro h;rw[hn,Bool.false_and]at h;cases h)];exact afp hQ))
noncomputable def Itl(K:PySem.W.Frag)(a:Addr):It :=
 ⟨λi H=>∃xs x,oN K H a xs/\xs[i]? = some x,λi H x H'=>H'=H/\∀xs,oN K H a xs->xs[i]? = some x,λi H=>∃xs,oN K H a xs/\xs.length<=i⟩
noncomputable def Itt(K:PySem.W.Frag)(a:Addr):It :=
 ⟨λi H=>∃xs x,oV K H a xs/\xs[i]? = some x,λi H x H'=>H'=H/\∀xs,oV K H a xs->xs[i]? = some x,λi H=>∃xs,oV K H a xs/\xs.length<=i⟩
noncomputable def Itr(lo:Int)(n:Nat):It:=⟨λi _=>i<n,λi H x H'=>H'=H/\x=.int (lo+i),λi _=>n<=i⟩
def Em{P:Program}{w:World}{K:PySem.W.Frag}{tg:Expr}(a it:Addr):Turn P w K tg (Itl K a) [it] it (λi h=>h.IsListIter it a i) where
 mem:=by simp
 obj:=λi h st b hb=>by
  have e:b=it:=by simpa using hb
  show 14
 keep:=λi h h' st k=>st.at λo e=>k it 0x1 o e
 item:=by
  show 2;obtain⟨xs,x,hq,hx⟩:=hg;obtain⟨its,rv,p,hz⟩:=I.list hq;obtain⟨u,hu,ru⟩:=rv.get hx;show 5;refine wpAny_pyNext_list_item st p.isList (x:=u) (by simpa using hu) λh' st' sb=>?_;show 9;obtain⟨o,e,c,d⟩:=id st';exact⟨u,rfl,ug (s:={ s with heap:=h' }) e c d 0x5 ⟨x,H,I1,ru,⟨rfl,λys hy=>by rw[I.vK hy hq];exact hx⟩,st',λb hb=>(hf b hb).1⟩⟩
 done:=by
  show 2;obtain⟨xs,hq,hx⟩:=hg;obtain⟨its,rv,p,hz⟩:=I.list hq;show 5;have hl:=rv.length;exact wpAny_pyNext_list_end (I.ok.hd hc) st p.isList 0x9 λh' eb=>⟨rfl,I.turned (t':=s.toks) (λb o hb e=>eb b o hb e) f0 f1 f3 f4 f5⟩
 self:=λ_ _ _ _ _ st h=>wpAny_pyIter_listiter st h
def zt7{P:Program}{w:World}{K:PySem.W.Frag}{tg:Expr}(a it:Addr):Turn P w K tg (Itt K a) [it] it (λi h=>h.IsTupleIter it a i) where
 mem:=by simp
 obj:=λi h st b hb=>by
  have e:b=it:=by simpa using hb
  show 14
 keep:=λi h h' st k=>st.at λo e=>k it 0x1 o e
 item:=by
  show 2;obtain⟨xs,x,hq,hx⟩:=hg;obtain⟨its,rv,p,hz⟩:=I.tuple hq;obtain⟨u,hu,ru⟩:=rv.get hx;show 5;refine wpAny_pyNext_tuple_item st (show s.heap.IsTuple a its.toArray from p) (x:=u) (by simpa using hu) λh' st' sb=>?_;show 9;obtain⟨o,e,c,d⟩:=id st';exact⟨u,rfl,ug (s:={ s with heap:=h' }) e c d 0x5 ⟨x,H,I1,ru,⟨rfl,λys hy=>by rw[I.tD hy hq];exact hx⟩,st',λb hb=>(hf b hb).1⟩⟩
 done:=by
  show 2;obtain⟨xs,hq,hx⟩:=hg;obtain⟨its,rv,p,hz⟩:=I.tuple hq;show 5;have hl:=rv.length;exact wpAny_pyNext_tuple_end (I.ok.hd hc) st (show s.heap.IsTuple a its.toArray from p) 0x9 λh' eb=>⟨rfl,I.turned (t':=s.toks) (λb o hb e=>eb b o hb e) f0 f1 f3 f4 f5⟩
 self:=λ_ _ _ _ _ st h=>wpAny_pyIter_tupleiter st h
def zsi{P:Program}{w:World}{K:PySem.W.Frag}{tg:Expr}(it:Addr)(lo:Int)(n:Nat):Turn P w K tg (Itr lo n) [it] it (λi h=>IsRangeIter h it (lo+(i:Nat)*1) ((n:Int) - (i:Nat)) 1) where
 mem:=by simp
 obj:=λi h st b hb=>by
  have e:b=it:=by simpa using hb
  subst e;exact⟨_,st,λv z=>by
   have z':Data.fields _=Data.cell v:=z;cases z'⟩
 keep:=λi h h' st k=>k it 0x1 _ st
 item:=by
  show 2;show 5;have W:=Walks.range (prog:=X.prog) (w:=X.w) (I.ok.hd hc) it lo 1 n;refine W.item i s _ _ hg st λv h' tk hv st' kk=>?_;obtain⟨t,rfl⟩:=hv;have I1:Inv X pins σ H { s with heap:=h',toks:=tk }:=I.turned (λb o hb e=>kk b o (by simpa using hb) e) f0 f1 f3 f4 f5;refine⟨_,rfl,ug (s:={ s with heap:=h',toks:=tk }) (n:="range_iterator") st' rfl rfl 0x5 ⟨.int (lo+i),H,I1,⟨t,?_⟩,⟨rfl,rfl⟩,st',λb hb=>(hf b hb).1⟩⟩;rw[Int.mul_one]
 done:=by
  show 2;show 5;exact wpAny_pyNext_range_end (I.ok.hd hc) st (by have:n<=i:=hg;omega) λh' eb=>⟨rfl,I.turned (t':=s.toks) (λb o hb e=>eb b o hb e) f0 f1 f3 f4 f5⟩
 self:=λ_ _ _ _ _ st h=>wpAny_pyIter_rangeiter st h
section
variable  {X:Cx}{tg:Expr}
noncomputable def abG(K:PySem.W.Frag)(tl:TE):TI:=fun σ H R=>tl σ H λx H1=>∃a,x=.ref a/\(∃xs,oN K H1 a xs)/\R (Itl K a) H1
noncomputable def ad2(K:PySem.W.Frag)(tl:TE):TI:=fun σ H R=>tl σ H λx H1=>∃a,x=.ref a/\(∃xs,oV K H1 a xs)/\R (Itt K a) H1
def Qv{l:Expr}{tl:TE}(hl:PE X l tl):PI X tg l (abG X.K tl):=by
 intro pins s σ H R I h;refine cO (hl pins s σ H _ I h) λv s1 zz=>?_;show 8;obtain⟨a,e,⟨xs,hq⟩,q⟩:=q1;subst e;cases r1;obtain⟨its,rv,p,hz⟩:=I1.list hq;refine wpAny_pyIter_list p.isList ?_;refine⟨s1.heap.objs.size,[s1.heap.objs.size],_,_,H1,rfl,I1.kept (t':=s1.toks) λb o e=>gC _ e,Em a _,⟨_,gZ _ rfl,rfl,rfl⟩,λb hb=>?_,q⟩;have e:b=s1.heap.objs.size:=by simpa using hb
 subst e;exact I1.v5 (gb _) (I1.bO.fresh (gb _))
def Wv{l:Expr}{tl:TE}(hl:PE X l tl):PI X tg l (ad2 X.K tl):=by
 intro pins s σ H R I h;refine cO (hl pins s σ H _ I h) λv s1 zz=>?_;show 8;obtain⟨a,e,⟨xs,hq⟩,q⟩:=q1;subst e;cases r1;obtain⟨its,rv,p,hz⟩:=I1.tuple hq;refine wpAny_pyIter_tuple (show s1.heap.IsTuple a its.toArray from p) ?_;refine⟨s1.heap.objs.size,[s1.heap.objs.size],_,_,H1,rfl,I1.kept (t':=s1.toks) λb o e=>gC _ e,zt7 a _,⟨_,gZ _ rfl,rfl,rfl⟩,λb hb=>?_,q⟩;have e:b=s1.heap.objs.size:=by simpa using hb
 subst e;exact I1.v5 (gb _) (I1.bO.fresh (gb _))
def IW{pins:List 0x6}{σ:St}{H:Hp}{s:Shared}{R:It->Hp->Prop}{E:Value->Shared->Prop}{lo hi:Int}{t u v:Tok}{tk:Nat}(I:Inv X pins σ H s)(h1:-(2 ^ 62)<=lo)(h2:lo<2 ^ 62)(h3:-(2 ^ 62)<=hi)(h4:hi<2 ^ 62)
  (q:R (Itr lo (hi - lo).toNat) H):wpAny 0x7 X.A (pyIter 0x1b) (PIE X pins σ tg R) E { s with heap:=s.heap.push { cls:=.type "range",data:=.fields #[.int lo t,.int hi u,.int 1 v] },toks:=tk }:=by
 refine wpAny_pyIter_range (IsRange.new ..) (small_one h1 h2 h3 h4) ?_;have I1:Inv X pins σ H { s with heap:=s.heap.push { cls:=.type "range",data:=.fields #[.int lo t,.int hi u,.int 1 v] },toks:=tk }:=I.kept λb o e=>gC _ e;refine⟨0x36.objs.size,[0x36.objs.size],_,_,H,rfl,
  I1.kept (t':=tk) λb o e=>gC _ e,zsi _ lo (hi - lo).toNat,?_,λb hb=>?_,q⟩
 ·have e1:lo+((0:Nat):Int)*1=lo:=by simp
  have e2:(((hi - lo).toNat:Nat):Int) - ((0:Nat):Int)=Builtin.Range.rangeSize lo hi 1:=by rw[rangeSize_one];split<;>omega
  show IsRangeIter _ _ (lo+((0:Nat):Int)*1) ((((hi - lo).toNat:Nat):Int) - ((0:Nat):Int)) 1;rw[e1,e2];exact gZ _ rfl
 ·have e:b=0x36.objs.size:=by simpa using hb
  subst e;exact I1.v5 (gb _) (I1.bO.fresh (gb _))
noncomputable def abC(ta:TA):TI:=fun σ H R=>ta σ H λvs H1=>∃j:Int,vs=[.int j]/\-(2 ^ 62)<=j/\j<2 ^ 62/\R (Itr 0 j.toNat) H1
def Fw{a:Expr}{ta:TA}{p pos:Pos}(hg:Gl X "range")(hm:X.mg "range" = none)(ha:PA X [a] ta)(hs:starEach [a] X.env=[0x1c]:=by rfl):PI X tg (.Call (.Name "range" p) [a] [] pos) (abC ta):=by
 intro pins s σ H R I h;refine Call_ (Ou I hg hm boot_range (afw 0x21 hs rfl));obtain⟨vs,H1,I1,r1,q1⟩:=zz;obtain⟨j,e,q1,q2,q⟩:=q1;subst e;cases r1 with
 | cons r rr =>
  cases rr;obtain⟨t,rfl⟩:=r;exact call_range_1 (IW I1 0x0 0x0 q1 q2 (by simpa using q))
noncomputable def acZ(wi:TI)(g:TG)(tb:TS):TS:=λD σ H=>wi σ H λJ H1=>∃W:Nat->Nat->St->Hp->Prop,(∃m,W 0 m σ H1)/\∀i m σ H,W i m σ H ->
 (J.stop i H/\D.nx σ H)\/(J.go i H/\∃N:St->Hp->Prop,(∀σ' H',N σ' H'->∃m',m'<m/\W (i+1) m' σ' H')/\∀x H',J.yld i H x H'->g x σ H' fun σ2 H2=>tb { D with nx:=N,ct:=N,bk:=D.nx } σ2 H2)
noncomputable def vI(fp:List Addr)(h:Heap):List 0x6:=fp.filterMap λb=>(h.get? b).map λo=>(b,o)
def zf2(hb:b∈fp)(e:h.get? b=some o):(b,o)∈vI fp h:=pI.mpr ⟨b,hb,by rw[e];rfl⟩
def Fz(hp:p∈vI fp h):p.1∈fp/\h.get? p.1=some p.2:=by
 obtain⟨b,hb,e⟩:=pI.mp hp;cases q:h.get? b with
 | none=>rw[q]at e;cases e
 | some o =>
  rw[q]at e;have e':(b,o)=p:=afr e;subst e';exact⟨hb,q⟩
def Inv.pinned(I:Inv X pins σ H s)(hf:∀b∈fp,qK X pins H b)(ho:∀b∈fp,∃o,s.heap.get? b=some o/\∀v,o.data≠.cell v):Inv X (pins++vI fp s.heap) σ H s :=
 I.Cj λp hp=>(mz.mp hp).elim (λz=>I.pin p (mD _ z)) λz=>by
  obtain⟨hb,e⟩:=Fz z;obtain⟨f0,f1,f2,_⟩:=hf p.1 hb;obtain⟨o,e',d⟩:=ho p.1 hb;rw[e]at e';cases e';exact⟨e,f0,f1,f2,d⟩
def Inv.qR(I:Inv X (pins++pl) σ H s):Inv X pins σ H s:=I.Cj λp hp=>I.pin p (mD _ (pG _ hp))
def Wr{iter:Expr}{body:List Stmt}{wi:TI}{g:TG}{tb:TS}{pos:Pos}(hp:PassesOwn 0x7 X.A X.env X.xe)(hc:X.calm=true)(hi:PI X tg iter wi)(hg:PG X tg g)(hb:zW X body tb)
  (hs:∀x,foldedSetIterable iter X.env x=pure x:=by intro _;rfl):PS X (.For tg iter body [] pos) (acZ wi g tb):=by
 intro pins s σ H D I h;refine wpAny_For (cO (hi pins s σ H _ I h) λv s1 h1=>cO h1 λitv s2 h2=>?_) hs;obtain⟨it,fp,tn,J,H2,e,I2,T,st2,f2,W,⟨m0,w0⟩,turn⟩:=h2;subst e

 have stat:∀{H':Hp},(∀b∈fp,H' b=none)->∀b∈fp,qK X pins H' b:=λhn b hb=>⟨hn b hb,(f2 b hb).2⟩;refine codeAny_forLoop_any (λn s'=>∃i σ' H',Inv X pins σ' H' s'/\tn i s'.heap/\(∀b∈fp,H' b=none)/\W i n σ' H') ?_ m0 ⟨0,σ,H2,I2,st2,λb hb=>(f2 b hb).1,w0⟩;rintro n s3 ⟨i,σ3,H3,I3,iu,fr3,w3⟩;rcases turn i n σ3 H3 w3 with⟨stop,qn⟩ | ⟨go,N,hN,step⟩
 ·refine afK hp (cO (T.done X rfl rfl rfl hc i pins s3 σ3 H3 X.xe I3 (stat fr3) iu stop) λr s4 zz=>?_);obtain⟨hr,I4⟩:=zz;subst hr;exact wpAny_execs_nil ⟨σ3,H3,I4,qn⟩
 ·refine afK hp (cO (T.item X rfl rfl rfl hc i pins s3 σ3 H3 X.xe I3 (stat fr3) iu go) λr s4 zz=>?_);obtain⟨u,hr,h4⟩:=zz;subst hr;refine afK hp (cO h4 λ_ s5 zz=>?_);obtain⟨x,H5,I5,r5,y5,N8,fr5⟩:=zz;have I5':=I5.pinned (stat fr5) (T.obj _ _ N8);refine afK hp (cO (hg _ s5 σ3 H5 x u _ I5' r5 (step x H5 y5)) λ_ s6 zz=>?_);obtain⟨σ6,H6,I6,q6⟩:=zz;refine afK hp (cO (hb _ s6 σ6 H6 _ I6 q6) λf s7 q7=>?_);have again:∀{σ7:St} {H7:Hp},Inv X (pins++vI fp s5.heap) σ7 H7 s7->N σ7 H7->∃m,m<n/\∃i σ' H',Inv X pins σ' H' s7/\tn i s7.heap/\(∀b∈fp,H' b=none)/\W i m σ' H':=λ{σ7 H7} I7 n7=>by
   obtain⟨m',hm,w7⟩:=hN σ7 H7 n7;refine⟨m',hm,i+1,σ7,H7,I7.qR,T.keep _ _ _ N8 λb hb o e=>(I7.pin (b,o) (mD _ (mD _ (zf2 hb e)))).1,λb hb=>?_,w7⟩;obtain⟨o,e,d⟩:=T.obj _ _ N8 b hb;exact (I7.pin (b,o) (mD _ (mD _ (zf2 hb e)))).2.1
  cases f with
  | next=>obtain⟨σ7,H7,I7,n7⟩:=q7;exact again I7 n7
  | cont=>obtain⟨σ7,H7,I7,n7⟩:=q7;exact again I7 n7
  | brk=>obtain⟨σ7,H7,I7,q7⟩:=q7;exact⟨σ7,H7,I7.qR,q7⟩
  | ret v=>obtain⟨x7,σ7,H7,I7,r7,q7⟩:=q7;exact⟨x7,σ7,H7,I7.qR,r7,q7⟩
end
noncomputable abbrev R2:=V->V->Hp->VK->Prop
def eO(X:Cx)(f:Value->Value->Sem Value)(r:R2):Prop :=
 ∀(pins:List 0x6) (s:Shared) (σ:St) (H:Hp) (x y:V) (v u:Value) (Q:VK),Inv X pins σ H s->RelV x v->RelV y u->r x y H Q ->
  wpAny 0x7 X.A (f v u) (EP X pins σ Q) X.xe s
def TF(X:Cx)(f:Value->Sem Value)(r:V->Hp->VK->Prop):Prop :=
 ∀(pins:List 0x6) (s:Shared) (σ:St) (H:Hp) (x:V) (v:Value) (Q:VK),Inv X pins σ H s->RelV x v->r x H Q ->
  wpAny 0x7 X.A (f v) (EP X pins σ Q) X.xe s
def cL(X:Cx)(f:Value)(r:List V->Hp->VK->Prop):Prop :=
 ∀(pins:List 0x6) (s:Shared) (σ:St) (H:Hp) (xs:List V) (us:List Value) (Q:VK),Inv X pins σ H s->Vals xs us->r xs H Q ->
  wpAny 0x7 X.A (call f us) (EP X pins σ Q) X.xe s
def aeK(X:Cx)(r:V->Hp->(Bool->Hp->Prop)->Prop):Prop :=
 ∀(pins:List 0x6) (s:Shared) (σ:St) (H:Hp) (x:V) (v:Value) (Q:Bool->Hp->Prop),Inv X pins σ H s->RelV x v->r x H Q ->
  wpAny 0x7 X.A (truthy v) (TP X pins σ Q) X.xe s
noncomputable def tOp(r:R2)(ta tb:TE):TE:=fun σ H Q=>ta σ H λx H1=>tb σ H1 λy H2=>r x y H2 Q
noncomputable def tUn(r:V->Hp->VK->Prop)(ta:TE):TE:=fun σ H Q=>ta σ H λx H1=>r x H1 Q
noncomputable def rI(C:Int->Int->Prop)(g:Int->Int->V):R2:=λx y H Q=>∃i j,x=.int i/\y=.int j/\C i j/\Q (g i j) H
noncomputable def Uo(g:Int->Int->V):R2:=λx y H Q=>∃i j,x=.int i/\y=.int j/\Q (g i j) H
def rU(g:Int->V):V->Hp->VK->Prop:=λx H Q=>∃i,x=.int i/\Q (g i) H
section
variable  {X:Cx}{a b c:Expr}{ta tb tc:TE}{pos:Pos}
def Zh(ha:PE X a ta)(hb:PE X b tb){pins:List 0x6}{s:Shared}{σ:St}{H:Hp}{R:V->V->Hp->Prop}(I:Inv X pins σ H s)
  (h:ta σ H λx H1=>tb σ H1 λy H2=>R x y H2) {Q:Value->Shared->Prop} {f:Value->Value->Sem Value}
  (hf:∀v u s2 x y H2,Inv X pins σ H2 s2->RelV x v->RelV y u->R x y H2->wpAny 0x7 X.A (f v u) Q X.xe s2) :
  wpAny 0x7 X.A (eval a X.env) (λv afb=>wpAny 0x7 X.A (eval b X.env) (λu afa=>wpAny 0x7 X.A (f v u) Q X.xe afa) X.xe afb) X.xe s:=by
 refine cO (ha pins s σ H _ I h) λv s1 zz=>?_;show 8;refine cO (hb pins s1 σ H1 _ I1 q1) λu s2 zz=>?_;obtain⟨y,H2,I2,r2,q2⟩:=zz;exact hf v u s2 x y H2 I2 r1 r2 q2
def abe{op:Operator}{r:R2}(ho:eO X (binaryOp op) r)(ha:PE X a ta)(hb:PE X b tb):PE X (.BinOp a op b pos) (tOp r ta tb):=by
 show 6;exact wpAny_BinOp (Zh ha hb I h λv u s2 x y H2 I2 rx ry q=>ho pins s2 σ H2 x y v u Q I2 rx ry q)
def abb{op:UnaryOp}{r:V->Hp->VK->Prop}(ho:TF X (unaryOp op) r)(ha:PE X a ta):PE X (.UnaryOp op a pos) (tUn r ta):=by
 show 6;refine UnaryOp_ 0x27;show 8;exact ho pins s1 σ H1 x v Q I1 r1 q1
def opI{f:Value->Value->Sem Value}{C:Int->Int->Prop}{g:Int->Int->Int}
  (rule:∀(i j:Int) (t u:Tok) (s:Shared) (Q:Value->Shared->Prop) (E:Value->Shared->Prop),C i j->Q (.int (g i j) s.toks) { s with toks:=s.toks+1 }->wpAny 0x7 X.A (f (.int i t) (.int j u)) Q E s) :
  eO X f (rI C λi j=>.int (g i j)):=by
 show 10;obtain⟨i,j,rfl,rfl,hc,q⟩:=h;obtain⟨t,rfl⟩:=rx;obtain⟨t',rfl⟩:=ry;exact rule i j t t' s _ _ hc ⟨.int (g i j),H,I.tok _,⟨_,rfl⟩,q⟩
def abl{f:Value->Value->Sem Value}{g:Int->Int->Int}
  (rule:∀(i j:Int) (t u:Tok) (s:Shared) (Q:Value->Shared->Prop) (E:Value->Shared->Prop),Q (.int (g i j) s.toks) { s with toks:=s.toks+1 }->wpAny 0x7 X.A (f (.int i t) (.int j u)) Q E s) :
  eO X f (Uo λi j=>.int (g i j)):=by
 show 10;obtain⟨i,j,rfl,rfl,q⟩:=h;obtain⟨t,rfl⟩:=rx;obtain⟨t',rfl⟩:=ry;exact rule i j t t' s _ _ ⟨.int (g i j),H,I.tok _,⟨_,rfl⟩,q⟩
def Xd{f:Value->Value->Sem Value}{g:Int->Int->Bool}
  (rule:∀(i j:Int) (t u:Tok) (s:Shared) (Q:Value->Shared->Prop) (E:Value->Shared->Prop),Q (.bool (g i j)) s->wpAny 0x7 X.A (f (.int i t) (.int j u)) Q E s) :
  eO X f (Uo λi j=>.bl (g i j)):=by
 show 10;obtain⟨i,j,rfl,rfl,q⟩:=h;obtain⟨t,rfl⟩:=rx;obtain⟨t',rfl⟩:=ry;exact rule i j t t' s _ _ ⟨.bl (g i j),H,I,rfl,q⟩
def Zu(i j:Int):Prop:=(-(2 ^ 64)<i/\i<2 ^ 64)\/(-(2 ^ 64)<j/\j<2 ^ 64)
def Zu.ok(h:Zu i j):IntMulOk i j:=by
 rcases h with⟨h1,h2⟩ | ⟨h1,h2⟩
 ·exact .of_left (intBits_le_64 h1 h2)
 ·exact .of_right (intBits_le_64 h1 h2)
def Xb:eO X (binaryOp .Add) (Uo λi j=>.int (i+j)):=abl λ_ _ _ _ _ _ _ q=>add_int q
def W7:eO X (binaryOp .Sub) (Uo λi j=>.int (i - j)):=abl λ_ _ _ _ _ _ _ q=>sub_int q
def W8:eO X (binaryOp .Mult) (rI Zu λi j=>.int (i*j)):=opI λ_ _ _ _ _ _ _ hc q=>mul_int q hc.ok
def W9:eO X (binaryOp .Mod) (rI (λ_ j=>0<j) λi j=>.int (i % j)):=opI λi j _ _ _ _ _ hc q=>by
 have h1:(0:Int)<j:=hc;exact mod_int' 0x0 (by rw[Int.fmod_eq_emod_of_nonneg i 0x0];exact q)
def unI{f:Value->Sem Value}{g:Int->Int}
  (rule:∀(i:Int) (t:Tok) (s:Shared) (Q:Value->Shared->Prop) (E:Value->Shared->Prop),Q (.int (g i) s.toks) { s with toks:=s.toks+1 }->wpAny 0x7 X.A (f (.int i t)) Q E s) :
  TF X f (rU λi=>.int (g i)):=by
 intro pins s σ H x v Q I rx h;obtain⟨i,rfl,q⟩:=h;obtain⟨t,rfl⟩:=rx;exact rule i t s _ _ ⟨.int (g i),H,I.tok _,⟨_,rfl⟩,q⟩
def VR:TF X (unaryOp .USub) (rU λi=>.int (-i)):=unI λ_ _ _ _ _ q=>neg_int q
end
section
variable  {X:Cx}{a b c:Expr}{ta tb tc:TE}{pos:Pos}
def LK(I:Inv X pins σ H s)(q:Q (.bl k) H)(e:k=k'):EP X pins σ Q (.bool k') s:=by
 subst e;exact⟨.bl k,H,I,rfl,q⟩
def abi:eO X (compareOp .Lt) (Uo λi j=>.bl (decide (i<j))):=Xd λ_ _ _ _ _ _ _ q=>lt_int q
def abj:eO X (compareOp .LtE) (Uo λi j=>.bl (decide (i<=j))):=Xd λ_ _ _ _ _ _ _ q=>le_int q
def abk:eO X (compareOp .Gt) (Uo λi j=>.bl (decide (j<i))):=Xd λ_ _ _ _ _ _ _ q=>gt_int q
def W_:eO X (compareOp .Is) (λx y H Q=>y=.non/\Q (.bl (decide (x=.non))) H):=by
 show 10;obtain⟨rfl,q⟩:=h;cases ry;refine is_none_gen (LK I q ?_);cases x<;>first
  | (cases rx;rfl)
  | (obtain⟨t,rfl⟩:=rx;rfl)
def QR:eO X (compareOp .IsNot) (λx y H Q=>y=.non/\Q (.bl (!decide (x=.non))) H):=by
 show 10;obtain⟨rfl,q⟩:=h;cases ry;refine isnot_none_gen (LK I q ?_);cases x<;>first
  | (cases rx;rfl)
  | (obtain⟨t,rfl⟩:=rx;rfl)
def eO.or{f:Value->Value->Sem Value}{r r':R2}(h:eO X f r)(h':eO X f r'):eO X f (λx y H Q=>r x y H Q\/r' x y H Q):=by
 intro pins s σ H x y v u Q I rx ry q;rcases q with q | q
 ·exact h pins s σ H x y v u Q I rx ry q
 ·exact h' pins s σ H x y v u Q I rx ry q
def QH{op:CmpOp}{r:R2}(ho:eO X (compareOp op) r)(ha:PE X a ta)(hb:PE X b tb)(hm:behindInMarks op b=false):PE X (.Compare a [op] [b] pos) (tOp r ta tb):=by
 show 6;exact wpAny_Compare1 (Zh ha hb I h λv u s2 x y H2 I2 rx ry q=>ho pins s2 σ H2 x y v u Q I2 rx ry q) hm
noncomputable def aaz(t:TE):TT:=fun σ H Q=>t σ H λx H'=>∃k,x=.bl k/\Q k H'
def Qi{op:CmpOp}{r:R2}(ho:eO X (compareOp op) r)(ha:PE X a ta)(hb:PE X b tb)(hm:behindInMarks op b=false):PT X (.Compare a [op] [b] pos) (aaz (tOp r ta tb)):=by
 show 6;refine wpAny_isTrue_Compare1 0x27 hm;show 8;refine cO (hb pins s1 σ H1 _ I1 q1) λu s2 zz=>?_;obtain⟨y,H2,I2,r2,q2⟩:=zz;refine cO (ho pins s2 σ H2 x y v u _ I2 r1 r2 q2) λc s3 zz=>?_;obtain⟨z,H3,I3,r3,k,e,q3⟩:=zz;subst e;cases r3;exact afT ⟨H3,I3,q3⟩
def TJ(K:PySem.W.Frag)(x:V)(H:Hp)(k:Bool):Prop :=
 match x with
 | .non=>k=false
 | .bl b=>k=b
 | .int i=>k=(i != 0)
 | .str y=>y.length<=sizeLine/\k=((y.length:Int) != 0)
 | .byt y=>y.size<=sizeLine/\k=((y.size:Int) != 0)
 | .ref p=>(∃xs,oN K H p xs/\k=!xs.isEmpty)\/(∃xs,oV K H p xs/\k=!xs.isEmpty)\/∃kvs,H p=some (.dK kvs)/\k=!kvs.isEmpty
 | _=>False
def zsv{κ:Type}{kvs:List (κ×V)}{vs:List (κ×Value)}(r:KV kvs vs):(!vs.isEmpty)=!kvs.isEmpty:=by
 cases r<;>rfl
def zmi{xs:List V}{its:List Value}(r:Vals xs its):(!its.toArray.isEmpty)=!xs.isEmpty:=by
 cases r<;>simp
def iz:(sizeLine:Nat)<2 ^ 63:=by rw[af0];decide
def sS:aeK X (λx H Q=>∃k,TJ X.K x H k/\Q k H):=by
 intro pins s σ H x v Q I rx h;obtain⟨k,e,q⟩:=h;have hl:=iz;have hs:sizeLine=16777216:=af0;cases x with
 | non =>
  cases rx;have e':k=false:=e;subst e';exact truthy_none ⟨H,I,q⟩
 | bl b =>
  cases rx;have e':k=b:=e;subst e';exact afT ⟨H,I,q⟩
 | int i =>
  obtain⟨t,rfl⟩:=rx;have e':k=(i != 0):=e;subst e';exact PySem.P.truthy_int ⟨H,I,q⟩
 | str y =>
  obtain⟨t,rfl⟩:=rx;obtain⟨hy,e'⟩:y.length<=sizeLine/\k=((y.length:Int) != 0):=e;subst e';exact PySem.P.truthy_str 0x0 ⟨H,I.tok _,q⟩
 | byt y =>
  obtain⟨t,rfl⟩:=rx;obtain⟨hy,e'⟩:y.size<=sizeLine/\k=((y.size:Int) != 0):=e;subst e';exact PySem.W.truthy_bytes 0x0 ⟨H,I.tok _,q⟩
 | ref p =>
  cases rx;have e':(∃xs,oN X.K H p xs/\k=!xs.isEmpty)\/(∃xs,oV X.K H p xs/\k=!xs.isEmpty)\/∃kvs,H p=some (.dK kvs)/\k=!kvs.isEmpty:=e;rcases e' with⟨xs,hx,e'⟩ | ⟨xs,hx,e'⟩ | ⟨kvs,hx,e'⟩
  ·subst e';obtain⟨its,r,pl,hz⟩:=I.list hx;have hlen:=r.length;exact wpAny_truthy_list pl.isList (by simp only[gF];omega) ⟨H,I.tok _,by rw[zmi r];exact q⟩
  ·subst e';obtain⟨its,r,pl,hz⟩:=I.tuple hx;have hlen:=r.length;exact truthy_tuple pl (by simp only[gF];omega) ⟨H,I.tok _,by rw[zmi r];exact q⟩
  ·subst e';obtain⟨hz,hS,vs,r,m⟩:kvs.length<=sizeLine/\(p==sysModules)=false/\∃vs,KV kvs vs/\s.heap.DictOf (bL X.prog X.w) p vs:=I.bO p _ hx;have hlen:kvs.length=vs.length:=afH r;exact wpAny_truthy_dict hS m 0x0 ⟨H,I.tok _,by rw[zsv r];exact q⟩
 | _=>exact (show False from e).elim
def Jg(ha:PE X a ta)(he:∀whole,isTrue a X.env whole=(do let v <-whole;standAt a.pos;holding [v] (truthy v))) :
  PT X a (fun σ H Q=>ta σ H λx H'=>∃k,TJ X.K x H' k/\Q k H'):=by
 show 6;refine isTrue_plain 0x27 (he _);show 8;exact sS pins s1 σ H1 x v Q I1 r1 q1
def ztn:eO X (binaryOp .Add) (λx y H Q=>∃i j,x=.str i/\y=.str j/\i.length+j.length<=sizeLine/\Q (.str (i++j)) H):=by
 show 10;obtain⟨i,j,rfl,rfl,hz,q⟩:=h;obtain⟨t,rfl⟩:=rx;obtain⟨t',rfl⟩:=ry;exact add_str (λt' tk=>⟨.str (i++j),H,I.tok _,⟨_,rfl⟩,q⟩) hz
def vals1(r:Vals [x] us):∃u,us=[u]/\RelV x u:=by
 cases r with
 | cons r1 r2=>cases r2;exact⟨_,rfl,r1⟩
def vals2(r:Vals [x,y] us):∃u w',us=[u,w']/\RelV x u/\RelV y w':=by
 cases r with
 | cons r1 r2 =>
  cases r2 with
  | cons r3 r4=>cases r4;exact⟨_,_,rfl,r1,r3⟩
def G3:cL X (.type "int") (λxs H Q=>(∃i,xs=[.int i]/\Q (.int i) H)\/∃k,xs=[.bl k]/\Q (.int (if k then 1 else 0)) H):=by
 intro pins s σ H xs us Q I r h;rcases h with⟨i,rfl,q⟩ | ⟨k,rfl,q⟩
 ·obtain⟨u,rfl,t,rfl⟩:=vals1 r;exact call_int_int ⟨.int i,H,I,⟨_,rfl⟩,q⟩
 ·obtain⟨u,rfl,r1⟩:=vals1 r;cases r1;exact call_int_bool ⟨.int (if k then 1 else 0),H,I.tok _,⟨_,rfl⟩,q⟩
end
structure Bo(h:Heap)(x dx C:Addr)(mA:Str->Option Value):Prop where
 obj:h.get? x=some (PySem.W.instObj C dx)
 ns:h.Ns1 dx mA
 ne:dx≠x
def FQ{h:Heap}{dx:Addr}{mA:Str->Option Value}(n:h.Ns1 dx mA):∃od,h.get? dx=some od/\∀name,PySem.W.lookIn name od=some (mA name):=by
 obtain⟨o,es,ep,ho,hd,hk,_,hm⟩:=n;refine⟨o,ho,λname=>?_⟩;have e:=hm name;unfold nsFind findBy at e;rw[<-Array.find?_toList]at e;unfold PySem.W.lookIn;rw[hd];dsimp only
 split
 ·rename_i y q;rw[q]at e;exact congrArg some e
 ·rename_i q;rw[q]at e;have a:es.toList.any (·.refKey)=false:=by
   rw[List.any_eq_false];intro y hy;obtain⟨z,t,aeh⟩:=hk y (Array.mem_toList_iff.mp hy);simp[DictEntry.refKey,aeh]
  have a':¬ es.toList.any (·.refKey)=true:=by rw[a];exact pH
  rw[afo a'];exact congrArg some e
def Bo.look(I:Bo h x dx C mA):∃od,PySem.W.InstAt h x (PySem.W.instObj C dx) C (some od)/\∀name,PySem.W.lookIn name od=some (mA name) :=
 let ⟨od,ho,hl⟩:=FQ I.ns
 ⟨od,⟨I.obj,rfl,rfl,ho⟩,hl⟩
section
variable  {prog:Program}{w:World}{A:Around}{E:Value->Shared->Prop}{s:Shared}{K:PySem.W.Frag}{x dx C f:Addr}{mA:Str->Option Value}{name:Str}{v:Value}
def get_map{expr:Bool}(X:K.In s.heap)(I:Bo s.heap x dx C mA)(hg:PySem.W.plainGet K C name=true)(hh:PySem.W.hasDictIn K C=true) 
  (ha:PySem.W.findIn K (.ref C) name=some none) (hv:mA name=some v) (Bb:PySem.W.handedIn v=true) (h:Q v { s with toks:=s.toks+1 }) :
  wpAny 0xb A (getAttr (.ref x) name expr) Q E s:=by
 obtain⟨od,J,hl⟩:=I.look;exact PySem.W.get_value X J (PySem.W.plainGet_of hg).1 (PySem.W.findObj_own hh ha rfl (by rw[hl,hv])) Bb h
def Lk(X:K.In s.heap)(I:Bo s.heap x dx C mA)(hg:PySem.W.plainGet K C name=true) 
  (hf:PySem.W.findIn K (.ref C) name=some #[9,f]) (ht:PySem.W.isFn K (.ref f)=true) (hv:mA name=none) (h:Q (.ref f,[.ref x]) s) :
  wpAny 0xb A (getMethod (.ref x) name pl) Q E s:=by
 obtain⟨od,J,hl⟩:=I.look;exact PySem.W.method_fn X J (PySem.W.plainGet_of hg).1 (PySem.W.plainGet_of hg).2 hf (beq_iff_eq.mp ht) (by show (PySem.W.lookIn name od).map (·.isSome)=some false;rw[hl,hv];rfl) h
def Pr(X:K.In s.heap)(I:Bo s.heap x dx C mA) 
  (hs:PySem.W.findIn K (.ref C) "__setattr__" = some (some (.builtin "object.__setattr__"))) (hp:PySem.W.plainOver K C=true) (ht:PySem.W.takerIn K C name=some none) (hh:PySem.W.hasDictIn K C=true)
  (hw:PySem.Within mA ns) (hsz:ns.length<=sizeLine)
  (h:∀h',Bo h' x dx C (λy=>if y=name then some v else mA y)->Heap.SameBut dx s.heap h'->Q () { s with heap:=h',toks:=s.toks+2 }) :
  wpAny 0xb A (setAttr (.ref x) name v) Q E s:=by
 obtain⟨od,J,hl⟩:=I.look;refine PySem.W.set_plain X J hs (PySem.W.osa_open (s:={ s with toks:=s.toks+1 }) (r:=none) X J hp ht λb=>?_);obtain⟨cd,hc,zG⟩:=PySem.W.any_some hh;have hx:s.heap.get? x=some ⟨.ref C,some dx,.plain,#[]⟩:=I.obj;refine afm (afp (afm (afm (wpAny_loadPart hx (afm (PySem.W.Looks.here (s:={ s with toks:=s.toks+1 }) (PySem.W.looks_clsIn X hc) ?_))))));rw[zG];refine afp (a:=some dx) (afm (afp (afm ?_)));refine wpAny_nsSet1 (s:={ s with toks:=s.toks+1 }) I.ns λh' hn2 iQ=>?_;obtain⟨oD,esD,epD,hoD,hdD,hcD⟩:=hn2.count (PySem.Within.cons name v hw);refine afm (wpAny_lookBehind hoD (by rw[hdD];exact pastItsLine_dict (g_ hcD (by rw[g8];omega))) ?_);exact afp (h _ ⟨(iQ.2 _ (afy I.ne)).trans I.obj,hn2,I.ne⟩ iQ)
def Kc(X:K.In s.heap)(hm:PySem.W.makesIn K C=true) 
  (hi:PySem.W.findIn K (.ref C) "__init__" = some #[9,f]) (hf:PySem.W.typeIn K (.ref f)=some (.type "function"))
  (h:codeAny 0xb (A.under (.builtin "type.__call__" ⟨.ref C::vs,kw⟩)) (.call (.ref f) ⟨.ref 0x16::vs,kw⟩) (PySem.W.InitBack 0x16 R)
   { s with heap:=(s.heap.push PySem.W.emptyDict).push (PySem.W.instObj C s.heap.objs.size) }) :
  codeAny 0xb A (.call (.ref C) ⟨vs,kw⟩) R s:=by
 obtain⟨hh,g,d,t,os⟩:=s;exact PySem.W.make_core (PySem.W.makes_of X hm) (PySem.W.looks_findIn X hi) (λself=>PySem.W.bind_fn X self hf) (.inl rfl) h
end
noncomputable def iy(f:Str)(v:V):List (Str×V)->List (Str×V)
 | []=>[(f,v)]
 | (g,x)::r=>if g=f then (g,v)::r else (g,x)::iy f v r
theorem zkb(f g:Str)(v:V):∀fs:List (Str×V),(iy f v fs).lookup g=if g=f then some v else fs.lookup g
 | []=>by
  show List.lookup g [(f,v)]=_;by_cases h:g=f
  ·have hb:(g==f)=true:=beq_iff_eq.mpr h;simp only[List.lookup,hb,afn h]
  ·have hb:(g==f)=false:=beq_eq_false_iff_ne.mpr h;simp only[List.lookup,hb,afo h]
 | (k,x)::r=>by
  have ih:=zkb f g v r;rw[show iy f v ((k,x)::r)=(if k=f then (k,v)::r else (k,x)::iy f v r) from rfl];by_cases hk:k=f
  ·rw[afn hk];by_cases h:g=k
   ·have hb:(g==k)=true:=beq_iff_eq.mpr h;simp only[List.lookup,hb,afn (h.trans hk)]
   ·have hb:(g==k)=false:=beq_eq_false_iff_ne.mpr h;simp only[List.lookup,hb,afo (λe:g=f=>h (e.trans hk.symm))]
  ·rw[afo hk];by_cases h:g=k
   ·have hb:(g==k)=true:=beq_iff_eq.mpr h;simp only[List.lookup,hb,afo (λe:g=f=>hk (h.symm.trans e))]
   ·have hb:(g==k)=false:=beq_eq_false_iff_ne.mpr h;simp only[List.lookup,hb];exact ih
theorem zlq(f:Str)(v:V):∀fs:List (Str×V),f∈(iy f v fs).map (·.1)/\∀g,g∈fs.map (·.1)->g∈(iy f v fs).map (·.1)
 | []=>⟨by simp[iy],λg h=>by simp at h⟩
 | (k,x)::r=>by
  obtain⟨i1,i2⟩:=zlq f v r;rw[show iy f v ((k,x)::r)=(if k=f then (k,v)::r else (k,x)::iy f v r) from rfl];by_cases hk:k=f
  ·rw[afn hk];subst hk;exact⟨by simp,λg h=>by simpa using h⟩
  ·rw[afo hk];refine⟨?_,λg h=>?_⟩
   ·rw[gq];exact kW _ i1
   ·rw[gq]at h ⊢;rcases gj.mp h with e | e
    ·exact gj.mpr (.inl e)
    ·exact kW _ (i2 g e)
theorem zkn(f:Str)(v:V):∀fs:List (Str×V),(iy f v fs).length<=fs.length+1
 | []=>by simp[iy]
 | (k,x)::r=>by
  have ih:=zkn f v r;rw[show iy f v ((k,x)::r)=(if k=f then (k,v)::r else (k,x)::iy f v r) from rfl];by_cases hk:k=f
  ·rw[afn hk,g8,g8];omega
  ·rw[afo hk,g8,g8];omega
def lE.some_of(r:lE (some v) o):∃u,o=some u/\RelV v u:=by
 cases o with
 | none=>exact (show False from r).elim
 | some u=>exact⟨u,rfl,r⟩
def lE.none_of(r:lE none o):o=none:=by
 cases o with
 | none=>rfl
 | some u=>exact (show False from r).elim
def Gr(r:RelV v u):PySem.W.handedIn u=true:=by
 cases v with
 | non=>cases (show u=Value.none from r);rfl
 | bl b=>cases (show u=Value.bool b from r);rfl
 | int i=>obtain⟨t,e⟩:=(show ∃t,u=Value.int i t from r);cases e;rfl
 | str x=>obtain⟨t,e⟩:=(show ∃t,u=Value.str x t from r);cases e;rfl
 | byt b=>obtain⟨t,e⟩:=(show ∃t,u=Value.bytes b t from r);cases e;rfl
 | flt b=>obtain⟨t,e⟩:=(show ∃t,u=Value.float b t from r);cases e;rfl
 | ref a=>cases (show u=Value.ref a from r);rfl
 | ty n=>cases (show u=Value.type n from r);rfl
section
variable  {P:Program}{w:World}{H H':Hp}{h h':Heap}{a C dx:Addr}{fs yU:List (Str×V)}
def zql(bO:lF P w H h)(e:H a=some (.ins C dx fs)):∃mA,Bo h a dx C mA/\(∀f,lE (fs.lookup f) (mA f))/\PySem.Within mA (fs.map (·.1))/\fs.length<=1000/\H dx=some (.own a):=by
 obtain⟨d,z,ne,ob,mA,n,r,q⟩:=(show cB P w H h a (.ins C dx fs) from bO a _ e);exact⟨mA,⟨ob,n,ne⟩,r,q,z,d⟩
end
structure DQ(K:PySem.W.Frag)(C:Addr):Prop where
 pg:PySem.W.plainGet K C Str.empty=true
 hd:PySem.W.hasDictIn K C=true
 po:PySem.W.plainOver K C=true
 sa:PySem.W.findIn K (.ref C) "__setattr__" = some (some (.builtin "object.__setattr__"))
def DQ.get{K:PySem.W.Frag}{C:Addr}(c:DQ K C)(f:Str):PySem.W.plainGet K C f=true:=c.pg
def jc(K:PySem.W.Frag)(C:Addr)(f:Str):Prop:=PySem.W.findIn K (.ref C) f=some none
def jc.aay{K:PySem.W.Frag}{C:Addr}{f:Str}(n:jc K C f):PySem.W.takerIn K C f=some none:=by
 unfold PySem.W.takerIn;rw[show PySem.W.findIn K (.ref C) f=some none from n]
 rfl
structure Con(K:PySem.W.Frag)(C:Addr)(f:Str)(v:V)(u:Value):Prop where
 at_:PySem.W.findIn K (.ref C) f=some (some u)
 rel:RelV v u
 get:PySem.W.specialIn K u "__get__" = some none
 cp:PySem.W.copiedNames.contains f=false
structure Meth(K:PySem.W.Frag)(C:Addr)(m:Str)(f:Addr):Prop where
 at_:PySem.W.findIn K (.ref C) m=some #[9,f]
 fn:PySem.W.isFn K (.ref f)=true
 kp:PySem.W.keepIn K (.ref f)=true
section
variable  {X:Cx}{pins:List 0x6}{σ:St}{H:Hp}{s:Shared}{a C dx:Addr}{fs:List (Str×V)}{f:Str}{v:V}{A:Around}{E:Value->Shared->Prop}
def zr8(I:Inv X pins σ H s)(e:H a=some (.ins C dx fs))(c:DQ X.K C)(n:jc X.K C f)(l:fs.lookup f=some v) 
  (h:∀u s',Inv X pins σ H s'->RelV v u->Q u s'):wpAny 0x7 A (getAttr (.ref a) f b) Q E s:=by
 obtain⟨mA,O,r,_,_,_⟩:=zql I.bO e;obtain⟨u,hu,ru⟩:=lE.some_of (v:=v) (o:=mA f) (by rw[<-l];exact r f);exact get_map I.qO O (c.get f) c.hd n hu (Gr ru) (h u _ (I.tok _) ru)
def ztq(I:Inv X pins σ H s)(e:H a=some (.ins C dx fs))(c:DQ X.K C)(k:Meth X.K C m g)(l:fs.lookup m=none) 
  (h:Q (.ref g,[.ref a]) s):wpAny 0x7 A (getMethod (.ref a) m pl) Q E s:=by
 obtain⟨mA,O,r,_,_,_⟩:=zql I.bO e;have hn:mA m=none:=lE.none_of (by rw[<-l];exact r m);exact Lk I.qO O (c.get m) k.at_ k.fn hn h
def zt6(I:Inv X pins σ H s)(e:H a=some (.ins C dx fs))(c:DQ X.K C)(n:jc X.K C f)(hl:fs.length<1000)(ry:RelV y u) 
  (h:∀s',Inv X pins σ (upd H a (.ins C dx (iy f y fs))) s'->Q () s'):wpAny 0x7 A (setAttr (.ref a) f u) Q E s:=by
 obtain⟨mA,O,r,wi,_,ho⟩:=zql I.bO e;have hz:(fs.map (·.1)).length<=sizeLine:=by rw[gm,af0];omega
 refine Pr I.qO O c.sa c.po n.aay c.hd wi hz λh' O' sb=>h _ ?_;have hd:∃o,h'.get? dx=some o:=let ⟨o,_,_,e',_⟩:=O'.ns;⟨o,e'⟩;refine I.write (x:=a) (e:=dx) (by rw[e];exact True.intro) (.inr ho) (λb q hb z=>(sb.2 b hb).trans z) hd ?_;refine⟨by rw[iT O.ne];exact ho,?_,O.ne,O'.obj,_,O'.ns,λg=>?_,λg hg=>?_⟩
 ·have:=zkn f y fs;omega
 ·show lE ((iy f y fs).lookup g) (if g=f then some u else mA g);rw[zkb];by_cases q:g=f
  ·rw[afn q,afn q];exact ry
  ·rw[afo q,afo q];exact r g
 ·by_cases q:g=f
  ·rw[q];exact (zlq f y fs).1
  ·refine (zlq f y fs).2 g (wi g λz=>hg ?_);show (if g=f then some u else mA g)=none;rw[afo q];exact z
def Inv.made(I:Inv X pins σ H s):Inv X pins σ (upd (upd H s.heap.objs.size (.own 0x16)) 0x16 (.ins C s.heap.objs.size []))
  { s with heap:=(s.heap.push PySem.W.emptyDict).push (PySem.W.instObj C s.heap.objs.size) }:=by
 have e1:(s.heap.push PySem.W.emptyDict).get? s.heap.objs.size=some PySem.W.emptyDict:=gZ s.heap rfl;have e2:((s.heap.push PySem.W.emptyDict).push (PySem.W.instObj C s.heap.objs.size)).get? 0x16=some (PySem.W.instObj C s.heap.objs.size):=by
  have:=gZ (s.heap.push PySem.W.emptyDict) (o:=PySem.W.instObj C s.heap.objs.size) rfl;rwa[Heap.size_push]at this
 have e3:(s.heap.push PySem.W.emptyDict).Ns s.heap.objs.size (λ_=>none):=⟨PySem.W.emptyDict,#[],_,e1,rfl,(λe he=>absurd he 0x1),λ_=>rfl⟩;have I1:=I.laid (a:=s.heap.objs.size) (o:=.own 0x16) (h':=s.heap.push PySem.W.emptyDict) (t':=s.toks) (λb u q=>gC _ q) (gb _) ⟨_,e1⟩;refine I1.laid (a:=s.heap.objs.size+1) (o:=.ins C s.heap.objs.size []) (t':=s.toks) (λb u q=>gC _ q) (Nat.le_of_eq (Heap.size_push _ _)) ?_;have ne:s.heap.objs.size≠s.heap.objs.size+1:=gW (nQ _);refine⟨by rw[iT ne,qQ],mK _,ne,e2,λ_=>none,(Heap.Ns1.of_empty e3).at λo q=>gC _ q,λ_=>True.intro,λy hy=>absurd rfl hy⟩
def Tn(hb:attributeBase e f env (eval e env)=eval e env) 
  (h:wpAny 0xb A (eval e env) (λo afb=>wpAny 0xb A (getAttr o f true) Q E afb) E s):wpAny 0xb A (eval (.Attribute e f pos) env) Q E s :=
 Attribute_any_ h (by rw[arm_eval_Attribute,hb])
end
noncomputable def ac0(K:PySem.W.Frag)(ta:TE)(f:Str):TE:=fun σ H Q=>ta σ H λx H1=>∃a C dx fs v,x=.ref a/\H1 a=some (.ins C dx fs)/\DQ K C/\jc K C f/\fs.lookup f=some v/\Q v H1
noncomputable def ada(K:PySem.W.Frag)(ta tv:TE)(f:Str):TS:=λD σ H=>tv σ H λy H1=>ta σ H1 λx H2=>∃a C dx fs,x=.ref a/\H2 a=some (.ins C dx fs)/\DQ K C/\jc K C f/\fs.length<1000 /\
 D.nx σ (upd H2 a (.ins C dx (iy f y fs)))
section
variable  {X:Cx}{o e value:Expr}{f:Str}{pos pos' xV:Pos}{ta tv:TE}
def WX(he:PE X e ta)(hb:attributeBase e f X.env (eval e X.env)=eval e X.env):PE X (.Attribute e f pos) (ac0 X.K ta f):=by
 show 6;refine Tn hb (cO (he pins s σ H _ I h) λu s1 zz=>?_);obtain⟨x,H1,I1,rx,a,C,dx,fs,v,ex,ea,c,n,l,q⟩:=zz;subst ex;obtain rfl:u=Value.ref a:=rx;exact zr8 I1 ea c n l λu' s2 I2 ru=>⟨v,H1,I2,ru,q⟩
def Ws(ha:PE X o ta)(hv:PE X value tv)(hs:swapsWith value (some (.Attribute o f pos')) pos.line X.env=pure false):PS X (.Assign [.Attribute o f pos'] value pos) (ada X.K ta tv f):=by
 intro pins s σ H D I h;refine plainObj_wpAny_Assign_Attribute (cO (hv pins s σ H _ I h) λu s1 zz=>?_) hs;obtain⟨y,H1,I1,ry,q⟩:=zz;refine cO (ha pins s1 σ H1 _ I1 q) λov s2 zz=>?_;obtain⟨x,H2,I2,rx,a,C,dx,fs,ex,ea,c,n,l,q2⟩:=zz;subst ex;obtain rfl:ov=Value.ref a:=rx;exact zt6 I2 ea c n l ry λs3 I3=>⟨σ,_,I3,q2⟩
end
section
variable  {X:Cx}{pins:List 0x6}{σ:St}{H:Hp}{s:Shared}{A:Around}{E:Value->Shared->Prop}{Q:Value->Shared->Prop}{c:Value}{b:Bool}
inductive uX (K:PySem.W.Frag) (H:Hp):V->Value->Prop where
 | non:uX K H .non (.type "NoneType")
 | bl (x:Bool):uX K H (.bl x) (.type "bool")
 | int (i:Int):uX K H (.int i) (.type "int")
 | str (x:Str):uX K H (.str x) (.type "str")
 | flt (x:UInt64):uX K H (.flt x) (.type "float")
 | lst {a:Addr} {xs:List V} (e:H a=some (.lst xs)):uX K H (.ref a) (.type "list")
 | frz {a:Addr} {o:Obj} {xs:List V} (e:H a=some (.frz o (.lst xs))):uX K H (.ref a) (.type "list")
 | tup {a:Addr} {xs:List V} (e:H a=some (.tup xs)):uX K H (.ref a) (.type "tuple")
 | dK {a:Addr} {kvs:List (Key×V)} (e:H a=some (.dK kvs)):uX K H (.ref a) (.type "dict")
 | dT {a:Addr} {kvs:List (List Key×V)} (e:H a=some (.dT kvs)):uX K H (.ref a) (.type "dict")
 | ins {a C dx:Addr} {fs:List (Str×V)} (e:H a=some (.ins C dx fs)) (cl:DQ K C) (ha:PySem.W.findIn K (.ref C) "__class__" = some (some (.builtin "object.__class__")))
   (hn:PySem.W.specialIn K (.builtin "object.__class__") "__get__" = some (some (.builtin "getset_descriptor.__get__"))) (htk:PySem.W.takesIn K (.builtin "object.__class__")=some true)
   (hm:PySem.W.mroIn K C (.type "object")=some true):uX K H (.ref a) (.ref C)
def ZZ{x:V}{u t:Value}(I:Inv X pins σ H s)(rx:RelV x u)(ty:uX X.K H x t)(e:PySem.W.kitOne X.K t c=some b)(h:∀tk,Q (.bool b) { s with toks:=tk }) :
  wpAny 0x7 A (call (.builtin "isinstance") [u,c]) Q E s:=by
 cases ty with
 | non=>cases (show u=Value.none from rx);exact afv PySem.W.kitx_none I.qO True.intro e (λz=>nomatch z) h
 | bl y=>cases (show u=Value.bool y from rx);exact afv PySem.W.kitx_bool I.qO True.intro e (λz=>nomatch z) h
 | int i=>obtain⟨t,q⟩:=(show ∃t,u=Value.int i t from rx);cases q;exact afv PySem.W.kitx_int I.qO True.intro e (λz=>nomatch z) h
 | str y=>obtain⟨t,q⟩:=(show ∃t,u=Value.str y t from rx);cases q;exact afv PySem.W.kitx_str I.qO True.intro e (λz=>nomatch z) h
 | flt y=>obtain⟨t,q⟩:=(show ∃t,u=Value.float y t from rx);cases q;exact afv PySem.W.kitx_float I.qO True.intro e (λz=>nomatch z) h
 | @lst a xs ea =>
  cases (show u=Value.ref a from rx);obtain⟨_,_,n,_,h1⟩:=(show cB X.prog X.w H s.heap a (.lst xs) from I.bO a _ ea);exact afv PySem.W.kitx_list I.qO ⟨_,h1,rfl⟩ e (λz=>nomatch z) h
 | @frz a ob xs ea =>
  cases (show u=Value.ref a from rx);obtain⟨_,_,_,n,_,h1⟩:=(show cB X.prog X.w H s.heap a (.frz ob (.lst xs)) from I.bO a _ ea);exact afv PySem.W.kitx_list I.qO ⟨_,h1,rfl⟩ e (λz=>nomatch z) h
 | @tup a xs ea =>
  cases (show u=Value.ref a from rx);obtain⟨_,_,_,p⟩:=(show cB X.prog X.w H s.heap a (.tup xs) from I.bO a _ ea);obtain⟨o,h1,h2,_⟩:=p;exact afv PySem.W.kitx_tuple I.qO ⟨o,h1,h2⟩ e (λz=>nomatch z) h
 | @dK a kvs ea =>
  cases (show u=Value.ref a from rx);obtain⟨_,_,vs,_,p⟩:=(show cB X.prog X.w H s.heap a (.dK kvs) from I.bO a _ ea);obtain⟨o,es,ep,h1,h2,_⟩:=p;exact afv PySem.W.kitx_dict I.qO ⟨o,h1,h2.1⟩ e (λz=>nomatch z) h
 | @dT a kvs ea =>
  cases (show u=Value.ref a from rx);obtain⟨_,_,xs,_,o,es,ep,h1,h2,_⟩:=(show cB X.prog X.w H s.heap a (.dT kvs) from I.bO a _ ea);exact afv PySem.W.kitx_dict I.qO ⟨o,h1,h2.1⟩ e (λz=>nomatch z) h
 | @ins a C dx fs ea cl ha hn htk hm =>
  cases (show u=Value.ref a from rx);obtain⟨mA,O,_⟩:=zql I.bO ea;obtain⟨od,J,_⟩:=O.look;exact afv (PySem.W.kitx_own (cl.get _) cl.hd ha hn htk hm) I.qO J e (λz=>nomatch z) h
end
structure cV(k:Nat)(A:Around):Prop where
 hd:A.handled=none
 dp:A.depth+3*k+5<recursionLimit
 un:A.units+16*k+200<cLine
def cV.mono(r:cV k A)(h:j<=k):cV j A:=⟨r.hd,by have:=r.dp;omega,by have:=r.un;omega⟩
def cV.deeper(r:cV (k+1) A)(env:Env):cV k (A.deeper env) :=
 ⟨r.hd,by have:=r.dp;show A.depth+1+3*k+5<_;omega,by have:=r.un;show A.units+3+16*k+200<_;omega⟩
def zu5{A:Around}{C:Addr}{us:List Value}{kw:List (Str×Value)}:0x32.depth=A.depth+1:=by
 first | rfl | simp[Around.under,Code.weight,Code.isCreation,Code.isGuard,Code.isCaller,Code.frames,Code.isFrame,guardIds]
def ztt{A:Around}{C:Addr}{us:List Value}{kw:List (Str×Value)}:0x32.units=A.units+1:=by
 first | rfl | simp[Around.under,Code.cUnits,Code.frames,Code.isFrame]
def cV.make(r:cV (k+1) A)(C:Addr)(us:List Value)(kw:List (Str×Value)):cV k 0x32 :=
 ⟨r.hd,by have:=r.dp;rw[zu5];omega,by have:=r.un;rw[ztt];omega⟩
def cV.depth(r:cV k A):A.depth<recursionLimit:=by have:=r.dp;omega
def cV.units(r:cV k A):A.units+64<cLine:=by have:=r.un;omega
noncomputable def aaC:TA:=λ_ H Q=>Q [] H
noncomputable def aaK(ta:TE)(tr:TA):TA:=fun σ H Q=>ta σ H λx H1=>tr σ H1 λxs H2=>Q (x::xs) H2
section
variable  {X:Cx}{e:Expr}{es:List Expr}{te:TE}{t:TA}{pos:Pos}
def An:PA X [] aaC:=λ_ _ _ _ H Q I h=>Calls.spliced_nil ⟨[],H,I,.nil,h⟩
def zmg(ha:PE X e te)(hr:PA X es t)(hs:starEach (e::es) X.env=0xd::starEach es X.env:=by rfl):PA X (e::es) (aaK te t):=by
 intro pos pins s σ H Q I h;rw[hs];show wpAny _ _ (spliced (0xd::backTo pos (starEach es X.env))) _ _ s;refine Calls.spliced_cons (cO (ha pins s σ H _ I h) λu s1 zz=>?_);show 8;refine cO (hr pos pins s1 σ H1 _ I1 q1) λus s2 zz=>?_;obtain⟨xs,H2,I2,r2,q2⟩:=zz;exact⟨x::xs,H2,I2,.cons r1 r2,q2⟩
noncomputable def acQ(t:TA):TE:=fun σ H Q=>t σ H λxs H1=>xs.length<=sizeLine/\∀p,H1 p=none->Q (.ref p) (upd H1 p (.tup xs))
noncomputable def acW(t:TA):TE:=fun σ H Q=>t σ H λxs H1=>xs.length<=sizeLine/\∀p,H1 p=none->Q (.ref p) (upd H1 p (.lst xs))
def WD{x1}(h:PA X es t):PE X (.Tuple es x1 pos) (acQ t):=by
 intro pins s σ H Q I hq;refine wpAny_Tuple_spliced (cO (h pos pins s σ H _ I hq) λus s1 zz=>?_);obtain⟨xs,H1,I1,r,z,q⟩:=zz;refine⟨by rw[<-r.length];exact z,?_⟩;have hf:H1 s1.heap.objs.size=none:=I1.bO.fresh (gb _);refine⟨.ref s1.heap.objs.size,upd H1 s1.heap.objs.size (.tup xs),I1.laid (t':=s1.toks) (λb u e=>gC _ e) (gb _) ?_,rfl,q _ hf⟩;exact⟨z,us,r,⟨_,gZ _ rfl,rfl,_,rfl⟩⟩
def WR(h:PA X es t):PE X (.List es pos) (acW t):=by
 intro pins s σ H Q I hq;refine wpAny_List_spliced (cO (h pos pins s σ H _ I hq) λus s1 zz=>?_);obtain⟨xs,H1,I1,r,z,q⟩:=zz;refine⟨by rw[<-r.length];exact z,?_⟩;have hf:H1 s1.heap.objs.size=none:=I1.bO.fresh (gb _);refine⟨.ref s1.heap.objs.size,upd H1 s1.heap.objs.size (.lst xs),I1.laid (t':=s1.toks) (λb u e=>gC _ e) (gb _) ?_,rfl,q _ hf⟩;exact⟨z,us,0,r,gZ _ rfl⟩
end
noncomputable abbrev Sp:=List V->Hp->VK->XK->Prop
noncomputable abbrev Nu:=List Env->Hp->Shared->XK->Value->Shared->Prop
structure yP(P:Program)(w:World)(K:PySem.W.Frag)(mg:Str->Option Value)(base:Heap)(A:Around)(outer:List Env)(s:Shared)(H:Hp):Prop where
 frames:A.frames=some outer
 mod:Mod K mg base
 bs:∀b o,base.get? b=some o->s.heap.get? b=some o/\H b=none
 G7:base.objs.size<=s.heap.objs.size
 qe:s.heap.FunFrames base outer
 Lr:∀b∈Df outer,H b=none
 bO:lF P w H s.heap
 bare:AllBare s.gens
def CE(outer:List Env)(P:Program)(w:World)(H:Hp)(s:Shared)(Q:VK)(u:Value)(s':Shared):Prop :=
 ∃v H',s'.os=s.os/\AllBare s'.gens/\Un (Df outer) [] H H' s.heap s'.heap/\lF P w H' s'.heap/\RelV v u/\Q v H'
def CR(CX:Nu)(outer:List Env)(P:Program)(w:World)(H:Hp)(s:Shared)(Q:VK)(E:XK)(r:Result)(s':Shared):Prop :=
 match r with
 | .ok (.ret u)=>CE outer P w H s Q u s'
 | .ok _=>False
 | .error e=>CX outer H s E e s'
structure cD(P:Program)(w:World)(K:PySem.W.Frag)(mg:Str->Option Value)(base:Heap)(CX:Nu)(k:Nat)(f:Addr)(fd:FuncData)(ps:List Str)(sp:Sp):Prop where
 len:∀vs H Q E,sp vs H Q E->vs.length=ps.length
 run:∀(A:Around) (outer:List Env) (s:Shared) (H:Hp) (args:Args) (us:List Value) (vs:List V) (Q:VK) (E:XK),cV k A->yP P w K mg base A outer s H->BindsTo s fd args (ps.zip us)->Vals vs us->sp vs H Q E ->
  codeAny (model P w) A (.call (.ref f) args) (CR CX outer P w H s Q E) s
def cD.mono{P:Program}{w:World}{K:PySem.W.Frag}{mg:Str->Option Value}{base:Heap}{CX:Nu}{j k:Nat}{f:Addr}{fd:FuncData}{ps:List Str}{sp:Sp}(F:cD P w K mg base CX j f fd ps sp)(h:j<=k) :
  cD P w K mg base CX k f fd ps sp:=⟨F.len,λA outer s H args us vs Q E hr=>F.run A outer s H args us vs Q E (hr.mono h)⟩
def cD.imp{P:Program}{w:World}{K:PySem.W.Frag}{mg:Str->Option Value}{base:Heap}{CX:Nu}{k:Nat}{f:Addr}{fd:FuncData}{ps:List Str}{sp sp':Sp}(F:cD P w K mg base CX k f fd ps sp)
  (h:∀vs H Q E,sp' vs H Q E->sp vs H Q E):cD P w K mg base CX k f fd ps sp' :=
 ⟨λvs H Q E q=>F.len vs H Q E (h _ _ _ _ q),λA outer s H args us vs Q E hr he hb hv hs=>F.run A outer s H args us vs Q E hr he hb hv (h _ _ _ _ hs)⟩
def yP.make{P:Program}{w:World}{K:PySem.W.Frag}{mg:Str->Option Value}{base:Heap}{A:Around}{outer:List Env}{s:Shared}{H:Hp}(e:yP P w K mg base A outer s H)(C:Addr)(us:List Value)(kw:List (Str×Value)) :
  yP P w K mg base 0x32 outer s H:=⟨by first | exact e.frames | (simpa[Around.under,Code.envs,Code.isFrame,pushEnvs] using e.frames),e.mod,e.bs,e.G7,e.qe,e.Lr,e.bO,e.bare⟩
section
variable  {X:Cx}{pins:List 0x6}{σ:St}{H:Hp}{s s':Shared}
def Inv.R4(I:Inv X pins σ H s):yP X.prog X.w X.K X.mg X.base X.A X.stack s H :=
 ⟨I.ok.frames,I.ok.mod,I.bs,g_ I.ok.G7 I.sz,I.stack,I.BL,I.bO,I.bare⟩
def Inv.after(I:Inv X pins σ H s)(h:CE X.stack X.prog X.w H s Q u s'):EP X pins σ Q u s':=by
 obtain⟨v,H',os,bare,un,bO,r,q⟩:=h;obtain⟨hh,g,d,t,os'⟩:=s';obtain rfl:os'=s.os:=os;exact⟨v,H',I.call (h':=hh) (g':=g) (d':=d) (t':=t) (ch:=[]) un bO bare (λb z=>absurd z 0x1),r,q⟩
end
noncomputable def Uh(sp:Sp)(oJ:List V)(E:XK)(t:TA):TE:=fun σ H Q=>t σ H λvs H1=>sp (vs++oJ) H1 Q E
noncomputable def aaE(C:Addr)(m:Str)(sp:Sp)(oJ:List V)(E:XK)(ta:TE)(t:TA):TE:=fun σ H Q=>ta σ H λx H1=>∃a dx fs,x=.ref a/\H1 a=some (.ins C dx fs)/\fs.lookup m=none /\
 t σ H1 λvs H2=>sp (x::(vs++oJ)) H2 Q E
noncomputable def aaF(C:Addr)(sp:Sp)(oJ:List V)(E:XK)(t:TA):TE:=fun σ H Q=>t σ H λvs H1=>∀x dx,H1 x=none->H1 dx=none->dx≠x ->
 sp (.ref x::(vs++oJ)) (upd (upd H1 dx (.own x)) x (.ins C dx [])) (λv H2=>v=.non/\Q (.ref x) H2) E
def Binds(K:PySem.W.Frag)(fd:FuncData)(ps:List Str)(ds:List Value):Prop :=
 ∀(s:Shared) (us:List Value),K.In s.heap->(us++ds).length=ps.length->BindsTo s fd ⟨us,[]⟩ (ps.zip (us++ds))
def Binds.all{K:PySem.W.Frag}{fd:FuncData}{ps:List Str}(h:∀us:List Value,us.length=ps.length->bindArgs fd ⟨us,[]⟩=pure (ps.zip us)):Binds K fd ps []:=λs us _ hl=>by
 rw[gr]at hl ⊢;exact .of_eq (h us hl)
def Passes(CX:Nu)(X:Cx)(E:XK):Prop:=∀(pins:List 0x6) (σ:St) (H:Hp) (s:Shared) (e:Value) (s':Shared),Inv X pins σ H s->CX X.stack H s E e s'->X.xe e s'
section
variable  {X:Cx}{CX:Nu}{k:Nat}{f C:Addr}{fd:FuncData}{ps:List Str}{sp:Sp}{oJ:List V}{ds:List Value}{E:XK}{x m:Str}{p pos apos:Pos}{e o:Expr}{es:List Expr}{ta:TE}{t:TA}
def Ai(F:cD X.prog X.w X.K X.mg X.base CX k f fd ps sp)(hr:cV k X.A)(hb:Binds X.K fd ps ds)(hd:Vals oJ ds)(hx:Passes CX X E) 
  (I:Inv X pins σ H s) (r:Vals vs us) (h:sp (vs++oJ) H Q E):wpAny 0x7 X.A (call (.ref f) us) (EP X pins σ Q) X.xe s:=by
 have r2:Vals (vs++oJ) (us++ds):=r.append hd;have hl:(us++ds).length=ps.length:=by rw[<-r2.length];exact F.len _ _ _ _ h
 refine wpAny_call (af4 (F.run X.A X.stack s H ⟨us,[]⟩ (us++ds) (vs++oJ) Q E hr I.R4 (hb s us I.qO hl) r2 h) λr s' hq=>?_);cases r with
 | error e=>exact hx pins σ H s e s' I hq
 | ok fl =>
  cases fl with
  | ret u=>exact I.after hq
  | next=>exact False.elim hq
  | brk=>exact False.elim hq
  | cont=>exact False.elim hq
def QJ(F:cD X.prog X.w X.K X.mg X.base CX k f fd ps sp)(hr:cV k X.A)(hg:Gl X x)(hm:X.mg x=some (.ref f))(hk:PySem.W.keepIn X.K (.ref f)=true)(hb:Binds X.K fd ps ds)(hd:Vals oJ ds)(hx:Passes CX X E)
  (ha:PA X (e::es) t) (rQ:0xf=false:=by decide) (he:starEach (e::es) X.env=0xd::starEach es X.env:=by rfl) (p_:#[13,pos,es].any (·.1)=false:=by rfl) :
  PE X 0x1a (Uh sp oJ E t):=by
 show 6;refine afB (znl I hg hm ?_ rQ);refine afN (h₀:=X.base) I.ok.mod.Xr hk 0x21 he p_;obtain⟨vs,H1,I1,r,q⟩:=zz;refine⟨I1.qO,?_⟩;exact Ai F hr hb hd hx I1 r q
def Jy(F:cD X.prog X.w X.K X.mg X.base CX k f fd ps sp)(hr:cV k X.A)(hg:Gl X x)(hm:X.mg x=some (.ref f))(hk:PySem.W.keepIn X.K (.ref f)=true)(hb:Binds X.K fd ps ds)(hd:Vals oJ ds)(hx:Passes CX X E)
  (rQ:0xf=false:=by decide):PE X (.Call (.Name x p) [] [] pos) (Uh sp oJ E aaC):=by
 show 6;refine afB (znl I hg hm ?_ rQ);exact PySem.W.callWith_K0 I.qO hk (Ai (us:=[]) F hr hb hd hx I .nil h)
def Qz{pl:Sem Bool}(he:PE X o ta)(c:DQ X.K C)(hm:Meth X.K C m f)(F:cD X.prog X.w X.K X.mg X.base CX k f fd ps sp)(hr:cV k X.A)(hb:Binds X.K fd ps ds)(hd:Vals oJ ds)(hx:Passes CX X E)(ha:PA X (e::es) t)
  (Gk:starEach (e::es) X.env=0xd::starEach es X.env:=by rfl) (p_:#[13,pos,es].any (·.1)=false:=by rfl)
  (ht:eval (.Call (.Attribute o m apos) (e::es) [] pos) X.env=(do
   let ov <-eval o X.env
   standAt apos.atName
   let (f,first) <-holding [ov] (getMethod ov m pl)
   callWith pos f first (backTo pos (starEach (e::es) X.env)) #[28,pos]):=by rfl) :
  PE X (.Call (.Attribute o m apos) (e::es) [] pos) (aaE C m sp oJ E ta t):=by
 show 6;refine PySem.W.methodCall_KW (pl:=pl) (cO (he pins s σ H _ I h) λu s1 zz=>?_) ht;obtain⟨x,H1,I1,rx,a,dx,fs,ex,ea,l,q⟩:=zz;subst ex;obtain rfl:u=Value.ref a:=rx;refine ztq I1 ea c hm l ?_;refine afN (first:=[.ref a]) (h₀:=X.base) I.ok.mod.Xr hm.kp (cO (ha pos pins s1 σ H1 _ I1 q) λus s2 zz=>?_) Gk p_;obtain⟨vs,H2,I2,r,q2⟩:=zz;refine⟨I2.qO,?_⟩;exact Ai (us:=.ref a::us) (vs:=.ref a::vs) F hr hb hd hx I2 (.cons rfl r) q2
structure Mk(K:PySem.W.Frag)(C f:Addr):Prop where
 makes:PySem.W.makesIn K C=true
 init:PySem.W.findIn K (.ref C) "__init__" = some #[9,f]
 fn:PySem.W.isFn K (.ref f)=true
 kp:PySem.W.keepIn K (.ref C)=true
def Im(M:Mk X.K C f)(F:cD X.prog X.w X.K X.mg X.base CX k f fd ps sp)(hr:cV (k+1) X.A)(hb:Binds X.K fd ps ds)(hd:Vals oJ ds) 
  (hx:Passes CX X E) (I:Inv X pins σ H s) (r:Vals vs us)
  (h:∀x dx,H x=none->H dx=none->dx≠x->sp (.ref x::(vs++oJ)) (upd (upd H dx (.own x)) x (.ins C dx [])) (λv H2=>v=.non/\Q (.ref x) H2) E) :
  wpAny 0x7 X.A (call (.ref C) us) (EP X pins σ Q) X.xe s:=by
 have hq:=h 0x16 s.heap.objs.size (I.bO.fresh (Nat.le_succ _)) (I.bO.fresh (gb _)) (gW (nQ _));have I2:=Inv.made (C:=C) I;have r2:Vals (V.ref 0x16::(vs++oJ)) (Value.ref 0x16::(us++ds)):=.cons rfl (r.append hd);have hl:(Value.ref 0x16::us++ds).length=ps.length:=by
  have e:=r2.length;rw[F.len _ _ _ _ hq]at e;exact e.symm
 refine wpAny_call (Kc (f:=f) I.qO M.makes M.init (beq_iff_eq.mp M.fn) (af4 (F.run _ X.stack _ _ ⟨Value.ref 0x16::us,[]⟩ (Value.ref 0x16::(us++ds)) _ _ E (hr.make C us [])
  (I2.R4.make C us []) (hb _ (Value.ref 0x16::us) I2.qO hl) r2 hq) λr s' Gm=>?_))
 cases r with
 | error e=>exact hx pins σ _ _ e s' I2 Gm
 | ok fl =>
  cases fl with
  | ret u =>
   obtain⟨v,H',I3,rv,ev,q3⟩:=I2.after Gm;subst ev;exact⟨rv,⟨V.ref 0x16,H',I3,rfl,q3⟩⟩
  | next=>exact False.elim Gm
  | brk=>exact False.elim Gm
  | cont=>exact False.elim Gm
def QB(M:Mk X.K C f)(F:cD X.prog X.w X.K X.mg X.base CX k f fd ps sp)(hr:cV (k+1) X.A)(hg:Gl X x)(hm:X.mg x=some (.ref C))(hb:Binds X.K fd ps ds)(hd:Vals oJ ds)(hx:Passes CX X E)
  (ha:PA X (e::es) t) (rQ:0xf=false:=by decide) (he:starEach (e::es) X.env=0xd::starEach es X.env:=by rfl) (p_:#[13,pos,es].any (·.1)=false:=by rfl) :
  PE X 0x1a (aaF C sp oJ E t):=by
 show 6;refine afB (znl I hg hm ?_ rQ);refine afN (h₀:=X.base) I.ok.mod.Xr M.kp 0x21 he p_;obtain⟨vs,H1,I1,r,q⟩:=zz;refine⟨I1.qO,?_⟩;exact Im M F hr hb hd hx I1 r q
end
section
variable  {X:Cx}{CX:Nu}{k:Nat}{f C:Addr}{fd:FuncData}{ps ks:List Str}{sp:Sp}{E:XK}{x m:Str}{p pos apos ae2:Pos}{e o:Expr}{es:List Expr}{kws:List Keyword}{te ta:TE}{t tk:TA}{nm:Option Str}
structure aeL(K:PySem.W.Frag)(fd:FuncData)(ps ks:List Str)(g:List Value->List Value->List Value)(gV:List V->List V->List V):Prop where
 to:∀(s:Shared) (us ws:List Value),K.In s.heap->(g us ws).length=ps.length->BindsTo s fd ⟨us,ks.zip ws⟩ (ps.zip (g us ws))
 rel:∀{vs:List V} {us:List Value} {zs:List V} {ws:List Value},Vals vs us->Vals zs ws->Vals (gV vs zs) (g us ws)
variable  {g:List Value->List Value->List Value}{gV:List V->List V->List V}
end
structure cX(N P:List Str)(sc:Scope):Prop where
 kind:sc.kind=.function
 co:sc.isCoroutine=false
 gen:sc.isGenerator=false
 nd:N.Nodup
 pre:N.take P.length=P
 par:∀x∈P,sc.names.lookup x=some .local\/sc.names.lookup x=some .cell
 Xf:∀y∈sc.names,y.2≠.free
theorem zpi{kindOf:Str->Option NameKind}{x:Str}:∀{binds:List (Str×Value)} {m:Str->Option Value},(∀v,(x,v)∉binds)->bindL kindOf binds m x=m x
 | [],_,_=>rfl
 | (n,v)::r,m,h=>by
  unfold bindL;rw[zpi λw hw=>h w (kW _ hw)]
  split
  ·have:x≠n:=by rintro rfl;exact h v p7
   simp[this]
  ·rfl
theorem zpp{kindOf:Str->Option NameKind}{x:Str}:∀{binds:List (Str×Value)} {m:Str->Option Value},(∀v,(x,v)∉binds)->bindC kindOf binds m x=m x
 | [],_,_=>rfl
 | (n,v)::r,m,h=>by
  unfold bindC;rw[zpp λw hw=>h w (kW _ hw)]
  split
  ·rfl
  ·have:x≠n:=by rintro rfl;exact h v p7
   simp[this]
theorem zqa{kindOf:Str->Option NameKind}{x:Str}{v:Value}:∀{P:List Str} {vs:List Value} {i:Nat} {m:Str->Option Value},P.Nodup->P[i]? = some x->vs[i]? = some v->kindOf x=some .local ->
  bindL kindOf (P.zip vs) m x=some v
 | [],_,_,_,_,h,_,_=>by simp at h
 | _::_,[],_,_,_,_,h,_=>by simp at h
 | p::P,w::vs,0,m,nd,h1,h2,hk=>by
  simp at h1 h2;subst h1;subst h2;show bindL kindOf ((p,w)::P.zip vs) m p=_;unfold bindL;rw[zpi λv hv=>(mF.mp nd).1 (nq hv).1,afn hk];simp
 | p::P,w::vs,i+1,m,nd,h1,h2,hk=>by
  show bindL kindOf ((p,w)::P.zip vs) m x=_;unfold bindL;exact zqa (i:=i) (mF.mp nd).2 (by simpa using h1) (by simpa using h2) hk
theorem zqh{kindOf:Str->Option NameKind}{x:Str}{v:Value}:∀{P:List Str} {vs:List Value} {i:Nat} {m:Str->Option Value},P.Nodup->P[i]? = some x->vs[i]? = some v->kindOf x≠some .local ->
  bindC kindOf (P.zip vs) m x=some v
 | [],_,_,_,_,h,_,_=>by simp at h
 | _::_,[],_,_,_,_,h,_=>by simp at h
 | p::P,w::vs,0,m,nd,h1,h2,hk=>by
  simp at h1 h2;subst h1;subst h2;show bindC kindOf ((p,w)::P.zip vs) m p=_;unfold bindC;rw[zpp λv hv=>(mF.mp nd).1 (nq hv).1,afo hk];simp
 | p::P,w::vs,i+1,m,nd,h1,h2,hk=>by
  show bindC kindOf ((p,w)::P.zip vs) m x=_;unfold bindC;exact zqh (i:=i) (mF.mp nd).2 (by simpa using h1) (by simpa using h2) hk
noncomputable def start(N:List Str)(vs:List V):St:=vs.map some++List.replicate (N.length - vs.length) none
noncomputable def wg(CX:Nu)(P:Program)(w:World)(K:PySem.W.Frag)(mg:Str->Option Value)(base:Heap)(N:List Str)(qual:Str)(scope:Scope)(f:Addr)(cd:Value)(A:Around)(outer:List Env)(s:Shared)(H:Hp)(E:XK):Cx where
 prog:=P
 w:=w
 K:=K
 mg:=mg
 base:=base
 A:=A.deeper #[30,cd]
 N:=N
 afc:=s
 afl:=H
 env:=envOfC qual scope s.heap.objs.size f cd
 outer:=outer
 stack:=envOfC qual scope s.heap.objs.size f cd::outer
 ex:=[]
 calm:=true
 fn:=λ_=>true
 pn:=[]
 xe:=λe s'=>wpAny (model P w) (A.deeper #[30,cd]) (leaving #[30,cd] e) (λ_ s''=>CX outer H s E e s'') (λe' s''=>CX outer H s E e' s'') s'
def ztb{sc:Scope}{n:Nat}{x:Str}(h:sc.names.lookup x=some .cell):∃c,(cellsFrom n sc.names []).lookup x=some c:=by
 have q:=PySem.W.cellsFrom_some sc.names n [] (.inl h);exact Option.isSome_iff_exists.mp q
def Gg{CX:Nu}{P:Program}{w:World}{K:PySem.W.Frag}{mg:Str->Option Value}{base:Heap}{N ps:List Str}{qual:Str}{scope:Scope}{f:Addr}{cd:Value}{A:Around}{outer:List Env}{s s1:Shared}{H:Hp}{E:XK}{us:List Value}{vs:List V}
  (S:cX N ps scope) (hd:A.handled=none) (e0:yP P w K mg base A outer s H) (hl:vs.length=ps.length) (r:Vals vs us)
  (x:InCallC s s.heap.objs.size (bindL #[30,cd].kindOf (ps.zip us) λ_=>none) (cellsFrom 0x16 scope.names []) (bindC #[30,cd].kindOf (ps.zip us) λ_=>none) s1) :
  Inv #[32,cd] [] (start N vs) H s1:=by
 have p_:ps.length<=N.length:=by have:=congrArg List.length S.pre;rw[km]at this;omega
 obtain⟨h1,tk,rfl,hk⟩:=x.done;have Q0:∀b:Addr,b∉#[32,cd].ex:=λb z=>absurd (show b∈([]:List Addr) from z) 0x1;refine⟨⟨e0.mod,S.kind,rfl,rfl,gb _,λy z c h1 h2=>?_,λy hy=>?_,λy c _ h=>?_,λ_=>hd,Around.frames_deeper e0.frames,.inr ⟨rfl,rfl⟩,λb z=>absurd z (Q0 b),e0.bs,e0.G7,λb _ _=>Q0 b,λb z=>absurd z (Q0 b),e0.qe,e0.Lr⟩,
  rfl,e0.bare,Un.kept hk,⟨_,x.toInCall.ns,λi y v h1 h2 h3=>?_⟩,λy c h=>⟨_,x.cell y c h⟩,e0.bO.fresh (gb _),λy c h=>?_,λp hp=>absurd (show p∈([]:List 0x6) from hp) 0x1,e0.bO.kept hk,?_⟩
 ·exact name_of_addr x.apart (afu h1) (afu h2)
 ·have hy:scope.names.lookup y=some .cell\/scope.names.lookup y=some .free:=hy;rcases hy with hy | hy
  ·exact ztb hy
  ·exact absurd rfl (S.Xf _ (afu hy))
 ·exact Nat.le_of_lt (x.above y c (afu h))
 ·have hi:i<vs.length:=by
   unfold start at h2;by_cases hi:i<vs.length
   ·exact hi
   ·rw[h_ (by simpa using hi)]at h2;rw[List.getElem?_replicate]at h2
    split at h2<;>cases h2
  have ha:vs[i]? = some v:=by
   unfold start at h2;rw[gM (by simpa using hi),gK]at h2;cases e:vs[i]? with
   | none=>rw[e]at h2;cases h2
   | some a=>rw[e]at h2;cases h2;rfl
  obtain⟨u,hu,rv⟩:=r.get ha;have hp:ps[i]? = some y:=by
   rw[<-S.pre,List.getElem?_take_of_lt 0x0];exact h1
  have ndP:ps.Nodup:=by rw[<-S.pre];exact S.nd.sublist (List.take_sublist _ _)
  refine⟨u,rv,?_⟩;rcases S.par y (gU hp) with k | k
  ·exact .inl ⟨k,zqa ndP hp hu k⟩
  ·obtain⟨c,e⟩:=ztb (n:=s.heap.objs.size+1) k;refine .inr ⟨.inl k,c,e,?_⟩;have q:=x.cell y c e;rw[zqh ndP hp hu (by show scope.names.lookup y≠_;rw[k];decide)]at q;exact q
 ·exact e0.bO.fresh (Nat.le_of_lt (x.above y c (afu h)))
 ·unfold start;show _=N.length;rw[gO,gm,List.length_replicate];omega
def Lx{CX:Nu}{P:Program}{w:World}{K:PySem.W.Frag}{mg:Str->Option Value}{base:Heap}{k:Nat}{f:Addr}{name qual:Str}{params:Arguments}{body:List Stmt}{scope:Scope}{dV kV doc pm cdv ct oc:Value}{an od:Option Addr}
  {ud:Array 0xe} {N ps:List Str} {sp:Sp} (lk:K.lookup f=some ⟨oc,od,.func (PySem.W.fnOf name qual params body scope dV kV doc pm an cdv ct),ud⟩) (yw:PySem.W.codeIn K cdv qual=true) (S:cX N ps scope)
  (len:∀vs H Q E,sp vs H Q E->vs.length=ps.length)
  (oG:∀(A:Around) (outer:List Env) (s:Shared) (H:Hp) (vs:List V) (Q:VK) (E:XK),cV k (A.deeper #[30,cdv])->sp vs H Q E ->
   ∃t,zW #[32,cdv] body t/\t { nx:=λ_ H'=>Q .non H',rt:=Q } (start N vs) H) :
  cD P w K mg base CX (k+1) f (PySem.W.fnOf name qual params body scope dV kV doc pm an cdv ct) ps sp:=by
 refine⟨len,λA outer s H args us vs Q E hr e0 hb r hsp=>?_⟩;have hl:=len _ _ _ _ hsp;have KX:K.In s.heap:=e0.mod.Xr.keeps λb o e=>(e0.bs b o e).1;have lim:s.heap.NoLimit:=e0.mod.nolimit.keeps λb o e=>(e0.bs b o e).1;have abN:∀y∈ps.zip us,scope.names.lookup y.1=some .local\/(scope.names.lookup y.1=some .cell/\((cellsFrom 0x16 scope.names []).lookup y.1).isSome=true):=λ⟨n,v⟩ hy=>by
  rcases S.par n (nq hy).1 with q | q
  ·exact .inl q
  ·exact .inr ⟨q,PySem.W.cellsFrom_some _ _ _ (.inl q)⟩
 refine codeAny_call_function hr.depth (KX _ _ lk) rfl S.co S.gen rfl (PySem.W.codeRec_of KX yw) (hb _ _ _ _ ?_);refine wpAny_newFunctionEnv_cells S.kind abN λenv he s1 x=>?_;subst he;refine⟨lim.keeps x.toInCall.keep,codeAny_func ?_⟩;obtain⟨t,ht,hq⟩:=oG A outer s H vs Q E (hr.deeper _) hsp;have I:Inv #[32,cdv] [] (start N vs) H s1:=Gg S hr.hd e0 hl r x;refine afA (ht [] s1 (start N vs) H _ I hq) (λfl s' hs=>?_) λe s' hs=>hs;have fin:∀{σ':St} {H':Hp} {v:V} {u:Value},Inv #[32,cdv] [] σ' H' s'->RelV v u->Q v H'->CE outer P w H s Q u s' :=
  λ{σ' H' v u} J rv q=>⟨v,H',J.os,J.bare,J.base,J.bO,rv,q⟩
 cases fl with
 | ret u =>
  obtain⟨v,σ',H',J,rv,q⟩:=hs;exact fin J rv q
 | next =>
  obtain⟨σ',H',J,q⟩:=hs;exact fin (v:=V.non) (u:=Value.none) J rfl q
 | brk =>
  obtain⟨_,_,_,q⟩:=hs;exact False.elim q
 | cont =>
  obtain⟨_,_,_,q⟩:=hs;exact False.elim q
section
variable  {X:Cx}{x:Str}{p pos:Pos}{e:Expr}{es:List Expr}{t:TA}{id T:String}{r:List V->Hp->VK->Prop}
noncomputable def tCB(r:List V->Hp->VK->Prop)(t:TA):TE:=fun σ H Q=>t σ H λvs H1=>r vs H1 Q
def zt8(hc:cL X (.builtin id) r)(hg:Gl X x)(hm:X.mg x=none)(hv:bootBuiltins x=some (.builtin id))(ha:PA X (e::es) t)(hn:x ≠ "__name__":=by decide)(rQ:0xf=false:=by decide)
  (he:starEach (e::es) X.env=0xd::starEach es X.env:=by rfl) (p_:#[13,pos,es].any (·.1)=false:=by rfl):PE X 0x1a (tCB r t):=by
 show 6;refine afB (Ou I hg hm hv ?_ hn rQ);refine PyProof.Rows.callWith_builtin1 0x21 he p_;obtain⟨vs,H1,I1,r1,q1⟩:=zz;exact hc pins s1 σ H1 vs us Q I1 r1 q1
def Fx(hc:cL X (.type T) r)(hg:Gl X x)(hm:X.mg x=none)(hv:bootBuiltins x=some (.type T))(ha:PA X (e::es) t)(hn:x ≠ "__name__":=by decide)(rQ:0xf=false:=by decide)
  (he:starEach (e::es) X.env=0xd::starEach es X.env:=by rfl) (p_:#[13,pos,es].any (·.1)=false:=by rfl):PE X 0x1a (tCB r t):=by
 show 6;refine afB (Ou I hg hm hv ?_ hn rQ);refine afw 0x21 he p_;obtain⟨vs,H1,I1,r1,q1⟩:=zz;exact hc pins s1 σ H1 vs us Q I1 r1 q1
end
end L2
namespace HT
open PySem PyProof.Rows
section
open PySem.SeqAt
open PySem.AutoSeq1 (wpAny_loadPart')
open PySem.MeetsSeq PySem.MeetsSeq2 PySem.MeetsSeq3
end
section
variable  {prog:Program}{w:World}{A:Around}{E:Value->Shared->Prop}{s:Shared}
def Tg(ht:IsTup s.heap t vs.toArray)(hb:IsTup s.heap b ws.toArray)(hv:vs≠[]) 
  (h1:ws=[]->Q (.ref t) s) (h2:ws≠[]->Q 0x1b { s with heap:=s.heap.push { cls:=.type "tuple",data:=.seq (vs++ws).toArray } })
  (hsz:vs.length+ws.length<=sizeLine):wpAny 0xb A (binaryOp .Add (.ref t) (.ref b)) Q E s:=by
 obtain⟨⟨cls,dd,data,sl⟩,ho,hc,n,hd⟩:=id ht;obtain⟨⟨aeE,dd2,data2,sl2⟩,Lf,YZ,n2,hd2⟩:=id hb;simp only at hc hd YZ hd2;subst hc hd YZ hd2;have e:vs.toArray++ws.toArray=(vs++ws).toArray:=by simp
 by_cases hw:ws=[]
 ·exact concat_meets ⟨_,ho,rfl⟩ ⟨_,Lf,rfl⟩ noFill_tuple_add seq_tuple_add af7 af3 (af1 _ _)
   (tuple_addW1 t b vs.toArray ws.toArray n n2 dd dd2 sl sl2 (by simpa using hv) (by simp[hw])) ⟨ho,Lf,h1 hw⟩
 ·refine concat_meets ⟨_,ho,rfl⟩ ⟨_,Lf,rfl⟩ noFill_tuple_add seq_tuple_add af7 af3 (af1 _ _)
   (tuple_addW2 t b vs.toArray ws.toArray n n2 dd dd2 sl sl2 (by simpa using hv) (by simpa using hw) (by rw[gF,gF];exact hsz)) ⟨ho,Lf,?_⟩
  rw[e];exact h2 hw
noncomputable def cW(n d:Nat):Option Int->Nat
 | none=>d
 | some v=>if v<0 then (v+(n:Int)).toNat else min v.toNat n
def zoz(n d:Nat):cW n d none=d:=rfl
def B_(n d k:Nat):cW n d (some (k:Int))=min k n:=by
 show (if (k:Int)<0 then ((k:Int)+(n:Int)).toNat else min (k:Int).toNat n)=min k n;rw[afo 0x0,p8]
def Il(n d:Nat)(hd:d<=n)(o:Option Int):cW n d o<=n:=by
 cases o with
 | none=>exact hd
 | some v =>
  show (if v<0 then (v+(n:Int)).toNat else min v.toNat n)<=n;by_cases hv:v<0
  ·rw[afn hv];omega
  ·rw[afo hv];exact Nat.min_le_right _ _
def Dn(v:Int)(n d:Nat):(if v<0 then max (v+(n:Int)) 0 else min v (n:Int))=((cW n d (some v):Nat):Int):=by
 show (if v<0 then max (v+(n:Int)) 0 else min v (n:Int))=(((if v<0 then (v+(n:Int)).toNat else min v.toNat n):Nat):Int);by_cases hv:v<0
 ·simp only[afn hv];omega
 ·simp only[afo hv];omega
def zsn(lo hi:Option Int)(n:Nat):Builtin.Slice.sliceAdjust lo hi 1 (n:Int)=(((cW n 0 lo:Nat):Int),((cW n n hi:Nat):Int)):=by
 have h1:¬ ((1:Int)<0):=by omega
 unfold Builtin.Slice.sliceAdjust;simp only[h1,if_false];refine Prod.ext ?_ ?_
 ·cases lo with
  | none=>rfl
  | some v=>exact Dn v n 0
 ·cases hi with
  | none=>rfl
  | some v=>exact Dn v n n
def zum(i j:Nat):Builtin.Slice.slicePlaces (i:Int) (j:Int) 1=j - i:=by
 unfold Builtin.Slice.slicePlaces;have h1:(1:Int) > 0:=by omega
 simp only[h1,if_true,Int.ediv_one]
 split<;>omega
def zlu(p:IsPart v o)(h:Q o s):wpAny 0xb A (Builtin.Slice.slicePartIndex v) Q E s:=by
 cases p with
 | none=>exact slicePart_none h
 | int i t=>exact slicePart_int h
def zeh{sl:Addr}{vl vu:Value}{lo hi:Option Int}{n:Nat}{Q:Int×Int×Nat->Shared->Prop}(hs:s.heap.IsSliceOf sl vl vu .none)(pl:IsPart vl lo)(pu:IsPart vu hi)
  (h:Q (((cW n 0 lo:Nat):Int),1,cW n n hi - cW n 0 lo) s):wpAny 0xb A (Builtin.Slice.sliceApplied (.ref sl) (pure (n:Int))) Q E s:=by
 obtain⟨os,YH,hcs,yS⟩:=id hs;unfold Builtin.Slice.sliceApplied Builtin.Slice.sliceFields;refine afm (afm (afU YH yS (x:=vl) rfl (afm (afU YH yS (x:=vu) rfl (afm (afU YH yS (x:=.none) rfl (afp ?_)))))));refine afm (slicePart_none ?_);show wpAny _ _ (if ((1:Int)==0)=true then _ else _) _ _ s;rw[afo 0x5];refine afm (zlu pl (afm (zlu pu (afm (afp ?_)))));show wpAny _ _ (match Builtin.Slice.sliceAdjust lo hi 1 (n:Int) with | (lo,hi)=>pure (lo,(1:Int),Builtin.Slice.slicePlaces lo hi 1)) _ _ s;rw[zsn lo hi n];show wpAny _ _ (pure (((cW n 0 lo:Nat):Int),(1:Int),Builtin.Slice.slicePlaces ((cW n 0 lo:Nat):Int) ((cW n n hi:Nat):Int) 1)) _ _ s;rw[zum];exact afp h
def Jo(xs:Array Value)(i k:Nat):((List.range k).filterMap λ(m:Nat)=>xs[((i:Int)+(m:Int)*1).toNat]?).toArray=((xs.toList.drop i).take k).toArray:=by
 have e:(λ(m:Nat)=>xs[((i:Int)+(m:Int)*1).toNat]?)=λm=>xs[i+m]?:=by
  funext m;have:((i:Int)+(m:Int)*1).toNat=i+m:=by omega
  rw[this]
 rw[e];have:=pick_run xs i k;rw[List.filterMap_map]at this;have e2:((λx=>xs[x]?)∘λx=>i+x)=λm=>xs[i+m]?:=rfl;rw[e2]at this;rw[this]
def zhx{t sl:Addr}{items:Array Value}{vl vu:Value}{lo hi:Option Int}{Q:Value->Shared->Prop}(ht:IsTup s.heap t items)(hs:s.heap.IsSliceOf sl vl vu .none)(pl:IsPart vl lo)(pu:IsPart vu hi)
  (hw:¬ (cW items.size 0 lo=0/\cW items.size items.size hi=items.size))
  (h:Q 0x1b { s with heap:=s.heap.push { cls:=.type "tuple",data:=.seq 0x34.toArray } })
  (hsz:items.size<=sizeLine):wpAny 0xb A (getItem (.ref t) (.ref sl)) Q E s:=by
 have Dc:sizeOk (.seq 0x34.toArray):=by
  show 0x34.toArray.size<=sizeLine;rw[gF,km,mL,nO];omega
 have hj:cW items.size items.size hi<=items.size:=Il _ _ (gb _) hi;obtain⟨os,YH,hcs,yS⟩:=id hs;have hTs:s.TypeIs (.ref sl) "slice":=⟨os,YH,hcs⟩;unfold getItem
 try with_reducible refine afS ?_
 first | refine afm (afp ?_) | skip
 refine afm (wpAny_sequenceKey ht.typeIs 0x5 ?_);refine afm (afG (name:=Str.ofString "__getitem__") ht.typeIs afD
  (afV afD ht.typeIs entry_tuple_getitem ?_ (args_tuple_getitem _ _)))
 show wpAny _ _ (Builtin.Tuple.tupleItemsOf (.ref t) >>= _) _ _ s;refine afm (tupleItemsOf_ ht ?_);refine afm (wpAny_typeOf hTs ?_);rw[afn 0x5];refine afm (zeh hs pl pu ?_);have hno:¬ (0x2f=true):=by
  intro q;rw[gG,gG]at q;have q1:((cW items.size 0 lo:Nat):Int)=0:=eq_of_beq q.1.1;have q2:cW items.size items.size hi - cW items.size 0 lo=items.size:=eq_of_beq q.2;exact hw ⟨by omega,by omega⟩
 show wpAny _ _ (if 0x2f=true then _ else _) _ _ s;rw[afo hno,Jo]
 first
  | exact afm (m:=Builtin.Tuple.tupleExact _) (afE (afp ⟨_,rfl,afp h⟩) Dc)
  | exact afm (m:=Builtin.Tuple.tupleExact _) (afE (afm (afp (afp ⟨_,rfl,afp h⟩))) Dc)
  | exact afm (afm (m:=Builtin.Tuple.tupleExact _) (afE (afp (afp ⟨_,rfl,afp h⟩)) Dc))
  | exact afm (afm (m:=Builtin.Tuple.tupleExact _) (afE (afp ⟨_,rfl,afp h⟩) Dc))
end
end HT
namespace L2
open PySem PySem.Spec PyProof.Rows
noncomputable abbrev TO:=St->Hp->(Option Int->Hp->Prop)->Prop
def PO(X:Cx)(e:Option Expr)(t:TO):Prop :=
 ∀(pins:List 0x6) (s:Shared) (σ:St) (H:Hp) (Q:Option Int->Hp->Prop),Inv X pins σ H s->t σ H Q ->
  wpAny 0x7 X.A (evalPart e X.env) (λu s'=>∃o H',Inv X pins σ H' s'/\IsPart u o/\Q o H') X.xe s
noncomputable def Pb:TO:=λ_ H Q=>Q none H
noncomputable def aaA(t:TE):TO:=fun σ H Q=>t σ H λx H1=>∃i,x=.int i/\Q (some i) H1
section
variable  {X:Cx}{e:Expr}{te:TE}{lo hi:Option Expr}{tl th:TO}{pos p2:Pos}
def Qo:PO X none Pb:=by
 show 6;rw[evalPart_none];exact afp ⟨none,H,I,.none,h⟩
def Qn(h:PE X e te):PO X (some e) (aaA te):=by
 intro pins s σ H Q I hw;rw[evalPart_some];refine cO (h pins s σ H _ I hw) λu s1 zz=>?_;show 8;obtain⟨i,rfl,q⟩:=q1;obtain⟨t,rfl⟩:=r1;exact⟨some i,H1,I1,.int i t,q⟩
def zT(X:Cx)(r:V->Option Int->Option Int->Hp->VK->Prop):Prop :=
 ∀(pins:List 0x6) (s:Shared) (σ:St) (H:Hp) (x:V) (v vl vu:Value) (lo hi:Option Int) (sl:Addr) (Q:VK),Inv X pins σ H s->RelV x v->s.heap.IsSliceOf sl vl vu .none->IsPart vl lo->IsPart vu hi->r x lo hi H Q ->
  ∃T id,typeLookup (.type T) "__getitem__" = pure (some (.builtin id))/\s.TypeIs v T/\wpAny 0x7 X.A (getItem v (.ref sl)) (EP X pins σ Q) X.xe s
def zT.or{r r':V->Option Int->Option Int->Hp->VK->Prop}(h:zT X r)(h':zT X r'):zT X (λx lo hi H Q=>r x lo hi H Q\/r' x lo hi H Q):=by
 intro pins s σ H x v vl vu lo hi sl Q I rx hs pl pu q;rcases q with q | q
 ·exact h pins s σ H x v vl vu lo hi sl Q I rx hs pl pu q
 ·exact h' pins s σ H x v vl vu lo hi sl Q I rx hs pl pu q
noncomputable def tSl(r:V->Option Int->Option Int->Hp->VK->Prop)(te:TE)(tl th:TO):TE:=fun σ H Q=>te σ H λx H1=>tl σ H1 λl H2=>th σ H2 λu H3=>r x l u H3 Q
def Ju{r:V->Option Int->Option Int->Hp->VK->Prop}(hr:zT X r)(he:PE X e te)(hl:PO X lo tl)(hu:PO X hi th):PE X (.Subscript e (.Slice lo hi none p2) pos) (tSl r te tl th):=by
 show 6;refine Subscript_ (cO (he pins s σ H _ I h) λv s1 zz=>?_);show 8;refine wpAny_Slice (cO (hl pins s1 σ H1 _ I1 q1) λvl s2 zz=>?_);obtain⟨l,H2,I2,pl,q2⟩:=zz;refine cO (hu pins s2 σ H2 _ I2 q2) λvu s3 zz=>?_;obtain⟨u,H3,I3,pu,q3⟩:=zz;rw[evalPart_none];refine afp ?_;have I4:Inv X pins σ H3 { s3 with heap:=s3.heap.push { cls:=.type "slice",data:=.fields #[vl,vu,.none] } }:=I3.kept (t':=s3.toks) λb ob q=>gC _ q;obtain⟨T,id,hT,ht,hg⟩:=hr pins { s3 with heap:=s3.heap.push { cls:=.type "slice",data:=.fields #[vl,vu,.none] } } σ H3 x v vl vu l u s3.heap.objs.size Q I4 r1 (Heap.IsSliceOf.new ..) pl pu q3;show wpAny 0x7 X.A (subscriptTail e (.Slice lo hi none p2) v (.ref s3.heap.objs.size)) (EP X pins σ Q) X.xe { s3 with heap:=s3.heap.push { cls:=.type "slice",data:=.fields #[vl,vu,.none] } };exact tail_any (ops:=[.ref s3.heap.objs.size,v]) ht hT hg (by with_unfolding_all rfl)
noncomputable def zO(xs:List V)(lo hi:Option Int):List V:=(xs.drop (HT.cW xs.length 0 lo)).take (HT.cW xs.length xs.length hi - HT.cW xs.length 0 lo)
def zj5(xs:List V)(lo hi:Option Int):(zO xs lo hi).length<=xs.length:=by
 unfold zO;rw[km,mL];omega
def adA(K:PySem.W.Frag):V->Option Int->Option Int->Hp->VK->Prop:=λx lo hi H Q=>∃a xs,x=.ref a/\oV K H a xs /\
 ¬ (HT.cW xs.length 0 lo=0/\HT.cW xs.length xs.length hi=xs.length)/\∀p,H p=none->Q (.ref p) (upd H p (.tup (zO xs lo hi)))
def V8:zT X (adA X.K):=by
 intro pins s σ H x v vl vu lo hi sl Q I rx hs pl pu h;obtain⟨a,xs,rfl,hx,hw,q⟩:=h;cases rx;obtain⟨its,r,ht,hz⟩:=I.tuple hx;have hlen:its.toArray.size=xs.length:=by rw[gF];exact r.length.symm
 refine⟨"tuple",_,PyProof.Rows.slot_tuple_getitem.lookup,ht.typeIs,?_⟩;refine HT.zhx ht hs pl pu (by rw[hlen];exact hw) ?_ (by rw[hlen];exact hz);rw[hlen];refine⟨.ref s.heap.objs.size,_,I.laid (t':=s.toks) (o:=.tup (zO xs lo hi)) (λb ob q=>gC _ q) (gb _) ?_,rfl,q _ (I.bO.fresh (gb _))⟩;exact⟨g_ (zj5 xs lo hi) hz,_,(r.drop (HT.cW xs.length 0 lo)).take (HT.cW xs.length xs.length hi - HT.cW xs.length 0 lo),IsTup.new _ _⟩
noncomputable def aa5(K:PySem.W.Frag):R2:=λx y H Q=>∃a b xs ys,x=.ref a/\y=.ref b/\oV K H a xs/\oV K H b ys/\xs≠[]/\xs.length+ys.length<=sizeLine /\
 (ys=[]->Q (.ref a) H)/\(ys≠[]->∀p,H p=none->Q (.ref p) (upd H p (.tup (xs++ys))))
def Vals.yf(r:Vals xs us):us=[]↔xs=[]:=by
 cases r with
 | nil=>simp
 | cons _ _=>simp
def QV:eO X (binaryOp .Add) (aa5 X.K):=by
 show 10;obtain⟨a,b,xs,ys,rfl,rfl,ha,hb,hx,hz,q1,q2⟩:=h;cases rx;cases ry;obtain⟨its,r1,p1,_⟩:=I.tuple ha;obtain⟨rO,r2,p2,_⟩:=I.tuple hb;refine HT.Tg p1 p2 (λz=>hx (r1.yf.mp z)) (λz=>⟨.ref a,H,I,rfl,q1 (r2.yf.mp z)⟩) (λz=>?_) (by rw[<-r1.length,<-r2.length];exact hz);refine⟨.ref s.heap.objs.size,_,I.laid (t':=s.toks) (o:=.tup (xs++ys)) (λb ob q=>gC _ q) (gb _) ?_,rfl,q2 (λw=>z (r2.yf.mpr w)) _ (I.bO.fresh (gb _))⟩;exact⟨by rw[gO];exact hz,_,r1.append r2,IsTup.new _ _⟩
end
noncomputable def z_(n:Nat)(i:Int):Option Nat:=if 0<=i then (if i<n then some i.toNat else none) else if -(n:Int)<=i then some (i+n).toNat else none
noncomputable def qj{α:Type}(xs:List α)(i:Int):Option α:=(z_ xs.length i).bind λj=>xs[j]?
def CV(h:z_ n i=some j):seqIndex? i n=some j/\j<n/\-(n:Int)<=i/\i<n:=by
 unfold z_ at h;by_cases h0:0<=i
 ·rw[afn h0]at h;by_cases h1:i<n
  ·rw[afn h1]at h;have e:i.toNat=j:=afr h;exact⟨by rw[seqIndex_of h0 h1,e],by omega,by omega,h1⟩
  ·rw[afo h1]at h;cases h
 ·rw[afo h0]at h;by_cases h1:-(n:Int)<=i
  ·rw[afn h1]at h;have e:(i+n).toNat=j:=afr h;exact⟨by rw[seqIndex_neg 0x0 h1,e],by omega,h1,by omega⟩
  ·rw[afo h1]at h;cases h
def zsx{α:Type}{xs:List α}{i:Int}{v:α}(h:qj xs i=some v):∃j,seqIndex? i xs.length=some j/\xs[j]? = some v/\j<xs.length/\-(xs.length:Int)<=i/\i<xs.length:=by
 unfold qj at h;cases e:z_ xs.length i with
 | none=>rw[e]at h;cases h
 | some j =>
  rw[e]at h;obtain⟨h1,h2,h3,h4⟩:=CV e;exact⟨j,h1,h,h2,h3,h4⟩
def Tp{α:Type}{xs:List α}{j:Nat}{v:α}(h:xs[j]? = some v):qj xs (j:Int)=some v:=by
 have hj:j<xs.length:=(gf.mp h).1;have e:z_ xs.length (j:Int)=some j:=by
  unfold z_;rw[afn 0x0,afn 0x0];simp
 unfold qj;rw[e];exact h
def Nh{α:Type}(xs:List α)(v:α):qj (xs++[v]) (-1)=some v:=by
 have hl:(xs++[v]).length=xs.length+1:=by simp
 have e:z_ (xs++[v]).length (-1)=some xs.length:=by
  unfold z_;rw[hl,afo 0x5,afn 0x0];congr 1;omega
 unfold qj;rw[e];show (xs++[v])[xs.length]? = some v;simp
def Dz(b:Expr):Prop:=∀o i,subscripted b false o i=operate [o,i] (getItem o i)
def DG(X:Cx)(r:R2):Prop :=
 ∀(value slice:Expr) (pins:List 0x6) (s:Shared) (σ:St) (H:Hp) (x y:V) (v u:Value) (Q:VK),Inv X pins σ H s->RelV x v->RelV y u->r x y H Q ->
  subscripted slice false v u=operate [v,u] (getItem v u)->wpAny 0x7 X.A (subscriptTail value slice v u) (EP X pins σ Q) X.xe s
def sV(X:Cx)(id:String)(r:V->List V->Hp->VK->Prop):Prop :=
 ∀(pins:List 0x6) (s:Shared) (σ:St) (H:Hp) (x:V) (xs:List V) (v:Value) (us:List Value) (Q:VK),Inv X pins σ H s->RelV x v->Vals xs us->r x xs H Q ->
  wpAny 0x7 X.A (call (.builtin id) (v::us)) (EP X pins σ Q) X.xe s
section
variable  {X:Cx}{a b:Expr}{ta tb:TE}{pos:Pos}
def DG.or{r r':R2}(h:DG X r)(h':DG X r'):DG X (λx y H Q=>r x y H Q\/r' x y H Q):=by
 intro value slice pins s σ H x y v u Q I rx ry q hs;rcases q with q | q
 ·exact h value slice pins s σ H x y v u Q I rx ry q hs
 ·exact h' value slice pins s σ H x y v u Q I rx ry q hs
def abf(hr:DG X r)(ha:PE X a ta)(hb:PE X b tb)(hs:Dz b):PE X (.Subscript a b pos) (tOp r ta tb):=by
 show 6;exact Subscript_ (Zh ha hb I h λv u s2 x y H2 I2 rx ry q=>hr a b pins s2 σ H2 x y v u Q I2 rx ry q (hs _ _))
noncomputable def aa4(K:PySem.W.Frag):R2:=λx y H Q=>∃p xs i v,x=.ref p/\y=.int i/\oN K H p xs/\qj xs i=some v/\Q v H
noncomputable def aa2(K:PySem.W.Frag):R2:=λx y H Q=>∃p xs i v,x=.ref p/\y=.int i/\oV K H p xs/\qj xs i=some v/\Q v H
noncomputable def aa3:R2:=λx y H Q=>∃z i c,x=.str z/\y=.int i/\z.length<=sizeLine/\qj z.cps.toList i=some c/\Q (.str ⟨#[c]⟩) H
def Rr:DG X (aa4 X.K):=by
 intro value slice pins s σ H x y v u Q I rx ry h hs;obtain⟨p,xs,i,z,rfl,rfl,hq,he,q⟩:=h;cases rx;obtain⟨t,rfl⟩:=ry;obtain⟨its,r,pl,hz⟩:=I.list hq;obtain⟨j,h1,h2,h3,h4,h5⟩:=zsx he;obtain⟨w,ew,Ah⟩:=r.get h2;have hl:=r.length;have hn:=iz;have fin:EP X pins σ Q w s:=⟨z,H,I,Ah,q⟩;by_cases h0:0<=i
 ·have hj:i.toNat=j:=by
   rw[seqIndex_of h0 h5]at h1;exact afr h1
  exact item_listR pl.isList h0 0x0 (by rw[hj];simpa using ew) fin hs
 ·have hj:(i+(its.toArray.size:Int)).toNat=j:=by
   rw[seqIndex_neg 0x0 h4]at h1;rw[gF,<-hl];exact afr h1
  exact subscriptTail_builtinR (x:=w) pl.isList.typeIs slot_list_getitem.lookup
   (wpAny_getItem_list_neg (Q:=λr s'=>r=w/\EP X pins σ Q r s') pl.isList 0x0 (by rw[gF]<;>omega) 0x0 (by rw[hj];simpa using ew) ⟨rfl,fin⟩) hs
def Ym:DG X (aa2 X.K):=by
 intro value slice pins s σ H x y v u Q I rx ry h hs;obtain⟨p,xs,i,z,rfl,rfl,hq,he,q⟩:=h;cases rx;obtain⟨t,rfl⟩:=ry;obtain⟨its,r,pl,hz⟩:=I.tuple hq;obtain⟨j,h1,h2,h3,h4,h5⟩:=zsx he;obtain⟨w,ew,Ah⟩:=r.get h2;have hl:=r.length;have hn:=iz;have fin:EP X pins σ Q w s:=⟨z,H,I,Ah,q⟩;exact subscriptTail_builtinR (x:=w) pl.typeIs slot_tuple_getitem.lookup
  (getItem_tuple (j:=j) (Q:=λr s'=>r=w/\EP X pins σ Q r s') pl 0x0 0x0 (by rw[gF,<-hl];exact h1) (by simpa using ew) ⟨rfl,fin⟩) hs
def A_:DG X aa3:=by
 intro value slice pins s σ H x y v u Q I rx ry h hs;obtain⟨z,i,c,rfl,rfl,hz,he,q⟩:=h;obtain⟨t,rfl⟩:=rx;obtain⟨t',rfl⟩:=ry;obtain⟨j,h1,h2,h3,h4,h5⟩:=zsx he;have hl:z.cps.toList.length=z.length:=by simp[Str.length]
 rw[hl]at h1 h4 h5;have hn:=iz;exact tail_any (afX s z t) slot_str_getitem.lookup (getItem_str (c:=c) (by
  have e1:decide (i < -(2 ^ 63:Int))=false:=afq 0x0;have e2:decide (i ≥ 2 ^ 63)=false:=afq 0x0;rw[e1,e2,Bool.or_false]) (by rw[h1];simpa using h2) ⟨.str ⟨#[c]⟩,H,I.tok _,⟨_,rfl⟩,q⟩) hs
noncomputable def rIx(K:PySem.W.Frag):R2:=λx y H Q=>aa4 K x y H Q\/aa2 K x y H Q\/aa3 x y H Q
def Yn:DG X (rIx X.K):=Rr.or (Ym.or A_)
def zr6(its:List Value)(n j:Nat)(u:Value):Obj.mapSeq (·.setIfInBounds j u) { cls:=.type "list",data:=.seq its.toArray n }={ cls:=.type "list",data:=.seq (its.set j u).toArray n }:=by
 simp[Obj.mapSeq]
def Inv.lst(I:Inv X pins σ H s)(h:H p=some (.lst xs)) :
  ∃(its:List Value) (n:Nat),Vals xs its/\s.heap.get? p=some { cls:=.type "list",data:=.seq its.toArray n }/\xs.length<=sizeLine:=by
 obtain⟨z,its,n,r,e⟩:=I.bO p _ h;exact⟨its,n,r,e,z⟩
def Inv.Xn{pins:List 0x6}{σ:St}{H:Hp}{s:Shared}{p:Addr}{xs ys:List V}{its its':List Value}{n n':Nat}{f:Obj->Obj}(I:Inv X pins σ H s)(h:H p=some (.lst xs))
  (ho:s.heap.get? p=some { cls:=.type "list",data:=.seq its.toArray n }) (hf:f { cls:=.type "list",data:=.seq its.toArray n }={ cls:=.type "list",data:=.seq its'.toArray n' }) (r:Vals ys its') (hz:ys.length<=sizeLine) (t:Nat) :
  Inv X pins σ #[15,p,ys] { s with heap:=s.heap.update p f,toks:=t }:=by
 have e:(s.heap.update p f).get? p=some { cls:=.type "list",data:=.seq its'.toArray n' }:=by
  rw[pA f ho (by rw[hf]<;>rfl),hf]
 refine I.write (x:=p) (e:=p) (by rw[h];trivial) (.inl rfl) (λb u hb q=>(Heap.get?_update_other _ _ (afy hb)).trans q) ⟨_,e⟩ ?_;exact⟨hz,its',n',r,e⟩
def aa1:V->V->V->Hp->(Hp->Prop)->Prop:=λo i v H Q=>∃p xs k j,o=.ref p/\i=.int k/\H p=some (.lst xs)/\z_ xs.length k=some j/\Q #[15,p,(xs.set j v)]
def set_list:xx X aa1:=by
 intro pins s σ H o i v ov iv u Q I ro ri rv h;obtain⟨p,xs,k,j,rfl,rfl,hp,hj,q⟩:=h;cases ro;obtain⟨t,rfl⟩:=ri;obtain⟨its,n,r,ho,hz⟩:=I.lst hp;obtain⟨h1,h2,h3,h4⟩:=CV hj;have hl:=r.length;have hn:=iz;have I':Inv X pins σ #[15,p,(xs.set j v)] { s with heap:=s.heap.update p (Obj.mapSeq (·.setIfInBounds j u)) } :=
  I.Xn hp ho (zr6 its n j u) (r.set rv j) (by rw[nu];exact hz) s.toks
 by_cases h0:0<=k
 ·have hk:k.toNat=j:=by
   rw[seqIndex_of h0 h4]at h1;exact afr h1
  exact PySem.W.ki_setAt ho h0 0x0 (by rw[gF,<-hl];exact h4) (by rw[hk];exact⟨_,I',q⟩)
 ·have hk:(k+(its.toArray.size:Int)).toNat=j:=by
   rw[seqIndex_neg 0x0 h3]at h1;rw[gF,<-hl];exact afr h1
  exact PySem.W.ki_setBack ho 0x0 (by rw[gF,<-hl];exact h3) 0x0 (by rw[hk];exact⟨_,I',q⟩)
def zoi(lo hi:Option Int)(n:Nat):(sliceBounds lo hi none n).1=((HT.cW n 0 lo:Nat):Int)/\(sliceBounds lo hi none n).2.1=((HT.cW n n hi:Nat):Int)/\(sliceBounds lo hi none n).2.2=1:=by
 refine⟨?_,?_,rfl⟩
 ·cases lo with
  | none=>simp[sliceBounds,HT.cW]
  | some i =>
   simp only[sliceBounds,HT.cW,Option.getD_none,show (1:Int) > 0 by decide,if_true];by_cases h:i<0
   ·simp only[h,if_true]<;>omega
   ·simp only[h,if_false]<;>omega
 ·cases hi with
  | none=>simp[sliceBounds,HT.cW]
  | some i =>
   simp only[sliceBounds,HT.cW,Option.getD_none,show (1:Int) > 0 by decide,if_true];by_cases h:i<0
   ·simp only[h,if_true]<;>omega
   ·simp only[h,if_false]<;>omega
def zl6(its:List Value)(lo hi:Option Int):slicePick its.toArray lo hi none=((its.drop (HT.cW its.length 0 lo)).take (HT.cW its.length its.length hi - HT.cW its.length 0 lo)).toArray:=by
 obtain⟨h1,h2,h3⟩:=zoi lo hi its.toArray.size;unfold slicePick;rw[h1,h2,h3];simp only[sliceRange_one,pick_run,gF]<;>rfl
def adC(K:PySem.W.Frag):V->Option Int->Option Int->Hp->VK->Prop:=λx lo hi H Q=>∃a xs,x=.ref a/\oN K H a xs/\∀p,H p=none->Q (.ref p) #[15,p,(zO xs lo hi)]
def Pn:zT X (adC X.K):=by
 intro pins s σ H x v vl vu lo hi sl Q I rx hs pl pu h;obtain⟨a,xs,rfl,hx,q⟩:=h;cases rx;obtain⟨its,r,ht,hz⟩:=I.list hx;have hlen:=r.length;refine⟨"list",_,slot_list_getitem.lookup,ht.isList.typeIs,?_⟩;refine wpAny_getItem_list_slice ht.isList hs pl pu .none 0x1 ?_ (by rw[gF]<;>omega);rw[zl6,<-hlen];refine⟨.ref s.heap.objs.size,_,I.laid (t':=s.toks) (o:=.lst (zO xs lo hi)) (λb ob q=>gC _ q) (gb _) ?_,rfl,q _ (I.bO.fresh (gb _))⟩;exact⟨g_ (zj5 xs lo hi) hz,_,0,(r.drop (HT.cW xs.length 0 lo)).take (HT.cW xs.length xs.length hi - HT.cW xs.length 0 lo),gZ _ rfl⟩
noncomputable def iw:V->V->Bool
 | .non,.non=>true
 | .bl a,.bl b=>a==b
 | .bl a,.int b=>(if a then 1 else 0)==b
 | .int a,.bl b=>a==(if b then 1 else 0)
 | .int a,.int b=>a==b
 | .str a,.str b=>a==b
 | _,_=>false
def znq:cL X (.builtin "len") (λxs H Q=>∃p ys,xs=[.ref p]/\(oN X.K H p ys\/oV X.K H p ys)/\Q (.int ys.length) H):=by
 intro pins s σ H xs us Q I r h;obtain⟨p,ys,rfl,hq,q⟩:=h;obtain⟨u,rfl,rx⟩:=vals1 r;cases rx;have hn:=iz;rcases hq with hq | hq
 ·obtain⟨its,r',pl,hz⟩:=I.list hq;have hlen:=r'.length;exact Calls.call_len_list pl.isList (by simp only[gF]<;>omega) ⟨.int ys.length,H,I.tok _,⟨s.toks+1,by rw[gF,hlen]⟩,q⟩
 ·obtain⟨its,r',pl,hz⟩:=I.tuple hq;have hlen:=r'.length;exact len_tuple pl (by simp only[gF]<;>omega) ⟨.int ys.length,H,I.tok _,⟨s.toks+1,by rw[gF,hlen]⟩,q⟩
def znp:cL X (.builtin "len") (λxs H Q=>∃z,xs=[.str z]/\z.length<=sizeLine/\Q (.int z.length) H):=by
 intro pins s σ H xs us Q I r h;obtain⟨z,rfl,hz,q⟩:=h;obtain⟨u,rfl,t,rfl⟩:=vals1 r;have hn:=iz;exact len_str 0x0 ⟨.int z.length,H,I.tok _,⟨_,rfl⟩,q⟩
def cL.or(h:cL X f r)(h':cL X f r'):cL X f (λxs H Q=>r xs H Q\/r' xs H Q):=by
 intro pins s σ H xs us Q I rs q;rcases q with q | q
 ·exact h pins s σ H xs us Q I rs q
 ·exact h' pins s σ H xs us Q I rs q
def zog:cL X (.type "list") (λxs H Q=>∃p ys,xs=[.ref p]/\(oN X.K H p ys\/oV X.K H p ys)/\∀l,H l=none->Q (.ref l) #[15,l,ys]):=by
 intro pins s σ H xs us Q I r h;obtain⟨p,ys,rfl,hq,q⟩:=h;obtain⟨u,rfl,rx⟩:=vals1 r;cases rx;have fin:∀(its:List Value),Vals ys its->ys.length<=sizeLine->∀(h':Heap) (c':Nat),(∀b o',s.heap.get? b=some o'->h'.get? b=some o') ->
   h'.get? s.heap.objs.size=some { cls:=.type "list",dict:=none,data:=.seq its.toArray c',slots:=#[] }->EP X pins σ Q 0x1b { s with heap:=h' }:=λits r' hz h' c' kp e =>
  ⟨.ref s.heap.objs.size,_,I.laid (t':=s.toks) kp (gb _) (show cB X.prog X.w _ h' _ (.lst ys) from ⟨hz,its,c',r',e⟩),rfl,q _ (I.bO.fresh (gb _))⟩
 rcases hq with hq | hq
 ·obtain⟨its,r',pl,hz⟩:=I.list hq;have hlen:=r'.length;obtain⟨o,ho,hc,n,hd⟩:=pl.isList;exact call_list_seq p (.inl rfl) ho hc hd (λh' c' kp e=>fin its r' hz h' c' kp e) (by simp only[gF]<;>omega)
 ·obtain⟨its,r',pl,hz⟩:=I.tuple hq;have hlen:=r'.length;obtain⟨o,ho,hc,n,hd⟩:=pl;exact call_list_seq p (.inr rfl) ho hc hd (λh' c' kp e=>fin its r' hz h' c' kp e) (by simp only[gF]<;>omega)
def tyV(K:PySem.W.Frag)(T:String)(x:V)(H:Hp):Prop:=match x with
 | .str _=>T = "str"
 | .int _=>T = "int"
 | .ref p=>(T = "list"/\∃xs,oN K H p xs)\/(T = "tuple"/\∃o,K.lookup p=some o/\o.cls=.type "tuple"/\o.dict=none) \/
   (T = "dict"/\((∃kvs,H p=some (.dK kvs))\/∃kvs,H p=some (.dT kvs)))\/(T = "set"/\∃S n,H p=some (.set S n))
 | _=>False
def HS(I:Inv X pins σ H s)(r:RelV x v)(ty:tyV X.K T x H) :
  s.TypeIs v T/\∀a,v=.ref a->∃ob,s.heap.get? a=some ob/\ob.dict=none:=by
 cases x with
 | str z =>
  obtain⟨t,rfl⟩:=r;cases (show T = "str" from ty);exact⟨afX s z t,λ_ e=>nomatch e⟩
 | int i =>
  obtain⟨t,rfl⟩:=r;cases (show T = "int" from ty);exact⟨typeIs_int s i t,λ_ e=>nomatch e⟩
 | ref p =>
  cases r;rcases ty with⟨rfl,xs,hq⟩ | ⟨rfl,o,hk,hc,hd⟩ | ⟨rfl,hk⟩ | ⟨rfl,S,n,hk⟩
  ·obtain⟨its,_,pl,_⟩:=I.list hq;refine⟨pl.isList.typeIs,λa e=>?_⟩;cases e;obtain⟨o,n,e,c,hd,_⟩:=pl;exact⟨o,e,hd⟩
  ·refine⟨⟨o,I.qO p o hk,hc⟩,λa e=>?_⟩;cases e;exact⟨o,I.qO _ o hk,hd⟩
  ·have z:∃o,s.heap.get? p=some o/\o.ExactDict:=by
    rcases hk with⟨kvs,hk⟩ | ⟨kvs,hk⟩
    ·obtain⟨_,_,_,_,o,_,_,e,ex,_⟩:=I.bO p _ hk;exact⟨o,e,ex⟩
    ·obtain⟨_,_,_,_,o,_,_,e,ex,_⟩:=I.bO p _ hk;exact⟨o,e,ex⟩
   obtain⟨o,e,ex⟩:=z;refine⟨⟨o,e,ex.1⟩,λa e2=>?_⟩;cases e2;exact⟨o,e,ex.2.1⟩
  ·obtain⟨o,_,_,_,e,ex,_⟩:=I.bO p _ hk;refine⟨⟨o,e,ex.1⟩,λa e2=>?_⟩;cases e2;exact⟨o,e,ex.2.1⟩
 | _=>exact False.elim ty
noncomputable def ac1(K:PySem.W.Frag)(T:String)(r:V->List V->Hp->VK->Prop)(to:TE):TE:=fun σ H Q=>to σ H λx H1=>tyV K T x H1/\r x [] H1 Q
noncomputable def tBM(K:PySem.W.Frag)(T:String)(r:V->List V->Hp->VK->Prop)(to:TE)(t:TA):TE:=fun σ H Q=>to σ H λx H1=>tyV K T x H1/\t σ H1 λxs H2=>r x xs H2 Q
variable  {o e:Expr}{es:List Expr}{to:TE}{t:TA}{name:Str}{apos dU:Pos}{T id:String}{r:V->List V->Hp->VK->Prop}
def W4(pa:PlainAttrs T)(slot:Slot T name id)(YB:typeOf (.builtin id)=pure (.type "method_descriptor"))(hm:sV X id r)(ho:PE X o to)
  (rR:attributeBase o name X.env (eval o X.env)=eval o X.env:=by rfl) (hline:(apos.endLine==dU.line)=true:=by rfl):PE X (.Call (.Attribute o name apos) [] [] dU) (ac1 X.K T r to):=by
 show 6;refine wpAny_Call_method0_late rR hline (cO (ho pins s σ H _ I h) λv s1 zz=>?_);obtain⟨x,H1,I1,r1,ty,q1⟩:=zz;obtain⟨h1,h2⟩:=HS I1 r1 ty;exact⟨T,id,pa,slot,YB,h1,h2,Calls.callWith_builtin rfl (PySem.evalArgs_none (hm pins s1 σ H1 x [] v [] Q I1 r1 .nil q1))⟩
def abg(pa:PlainAttrs T)(slot:Slot T name id)(YB:typeOf (.builtin id)=pure (.type "method_descriptor"))(hm:sV X id r)(ho:PE X o to)(ha:PA X (e::es) t)
  (rR:attributeBase o name X.env (eval o X.env)=eval o X.env:=by rfl)
  (zF:((backTo dU (starEach (e::es) X.env)).all (λx=>!x.1) && #[28,dU].all (λx=>x.1.isSome)
   && decide ((e::es).length+([]:List Keyword).length+0x2e<30))=true:=by rfl)
  (hline:(apos.endLine==dU.line)=true:=by rfl) (hs:starEach (e::es) X.env=0xd::starEach es X.env:=by rfl) (vU:#[13,dU,es].any (·.1)=false:=by rfl) :
  PE X (.Call (.Attribute o name apos) (e::es) [] dU) (tBM X.K T r to t):=by
 show 6;refine wpAny_Call_method_late rR zF hline rfl (cO (ho pins s σ H _ I h) λv s1 zz=>?_);obtain⟨x,H1,I1,r1,ty,q1⟩:=zz;obtain⟨h1,h2⟩:=HS I1 r1 ty;refine⟨T,id,pa,slot,YB,h1,h2,?_⟩;have hA:=ha dU pins s1 σ H1 _ I1 q1;rw[hs]at hA ⊢;refine Calls.callWith_builtin (by show (false || #[13,dU,es].any (·.1))=false;rw[vU]<;>rfl) (Calls.evalArgs_plain ?_);refine cO hA λus s2 zz=>?_;obtain⟨vs,H2,I2,r2,q2⟩:=zz;exact hm pins s2 σ H2 x vs v us Q I2 r1 r2 q2
end
def MtM(X:Cx)(id:String)(r:V->List V->Hp->VK->Prop):Prop :=
 ∀(pins:List 0x6) (s:Shared) (σ:St) (H:Hp) (x:V) (xs:List V) (v:Value) (us:List Value) (Q:VK),Inv X pins σ H s->RelV x v->Vals xs us->r x xs H Q ->
  wpAny 0x7 X.A (call (.builtin id) (v::us)) (EP X pins σ Q) X.xe s
theorem Vals.one:∀{x:V} {us:List Value},Vals [x] us->∃u,us=[u]/\RelV x u
 | _,_,.cons r .nil=>⟨_,rfl,r⟩
theorem Vals.zero:∀{us:List Value},Vals [] us->us=[]
 | _,.nil=>rfl
def Vals.dropLast{xs:List V}{us:List Value}(h:Vals xs us):Vals xs.dropLast us.dropLast:=by
 induction h with
 | nil=>exact .nil
 | cons r t ih =>
  cases t with
  | nil=>exact .nil
  | cons q t'=>exact .cons r ih
def Vals.reverse{xs:List V}{us:List Value}(h:Vals xs us):Vals xs.reverse us.reverse:=by
 induction h with
 | nil=>exact .nil
 | cons r t ih=>rw[mV,mV];exact Vals.append ih (.cons r .nil)
def zr7{α:Type}(l:List α):l.eraseIdx (l.length - 1)=l.dropLast:=by
 induction l with
 | nil=>rfl
 | cons a r ih =>
  cases r with
  | nil=>rfl
  | cons b r =>
   have e:(a::b::r).length - 1=((b::r).length - 1)+1:=by
    have h1:(a::b::r).length=r.length+2:=rfl;have h2:(b::r).length=r.length+1:=rfl;omega
   rw[e,List.eraseIdx_cons_succ,ih]
   all_goals rfl
section
variable  {X:Cx}{pins:List 0x6}{σ:St}{H:Hp}{s:Shared}{l b:Addr}{xs ys zs:List V}
def Inv.Xp{its its':List Value}{n:Nat}{f:Array Value->Array Value}{t':Nat}(I:Inv X pins σ H s)(hH:H l=some (.lst xs))
  (e:s.heap.get? l=some { cls:=.type "list",data:=.seq its.toArray n }) (hf:f its.toArray=its'.toArray) (hv:Vals ys its') (hz:ys.length<=sizeLine) :
  Inv X pins σ #[15,l,ys] { s with heap:=s.heap.update l (Obj.mapSeq f),toks:=t' }:=by
 have q:=PySem.IsL.update e f;rw[hf]at q;refine I.write (x:=l) (e:=l) (by rw[hH];exact trivial) (.inl rfl) (λb' u hb hu=>(Heap.get?_update_other s.heap (Obj.mapSeq f) (afy hb)).trans hu) ⟨_,q⟩ ?_;exact⟨hz,its',_,hv,q⟩
def Inv.adV(I:Inv X pins σ H s)(hv:Vals ys its)(hz:ys.length<=sizeLine) :
  Inv X pins σ #[15,s.heap.objs.size,ys] { s with heap:=s.heap.push { cls:=.type "list",data:=.seq its.toArray },toks:=t' } :=
 I.laid (λ_ _ q=>gC _ q) (gb _) ⟨hz,its,0,hv,gZ _ rfl⟩
def Inv.fresh(I:Inv X pins σ H s):H s.heap.objs.size=none:=I.bO.fresh (gb _)
def Inv.Kf(I:Inv X pins σ H s)(hH:H l=some (.lst xs)):xs.length<=sizeLine/\∃(its:List Value) (n:Nat),Vals xs its/\xs.length=its.length/\s.heap.get? l=some { cls:=.type "list",data:=.seq its.toArray n }:=by
 obtain⟨z,its,n,r,e⟩:=I.bO l _ hH;exact⟨z,its,n,r,r.length,e⟩
end
section
variable  {X:Cx}
def Qe:V->List V->Hp->VK->Prop:=λx vs H Q=>∃l xs y,x=.ref l/\vs=[y]/\H l=some (.lst xs)/\xs.length<sizeLine/\Q .non #[15,l,(xs++[y])]
def zqw:MtM X "list.append" Qe:=by
 intro pins s σ H x vs v us Q I rx rv h;obtain⟨l,xs,y,rfl,rfl,hH,hz,q⟩:=h;cases rx;obtain⟨u,rfl,ru⟩:=rv.one;obtain⟨z,its,n,r,hl,e⟩:=I.Kf hH;refine call_meets F.slot_list_append ⟨_,e,rfl⟩ F.entry_list_append (F.args_list_append_2 _ _) (PySem.list_append l its.toArray n u (by rw[gF];omega)) ⟨e,?_⟩;refine⟨.non,_,I.Xp (its':=its++[u]) hH e 0x1 (r.append (.cons ru .nil)) ?_,rfl,q⟩;rw[gO,ni];omega
def adD:V->List V->Hp->VK->Prop:=λx vs H Q=>∃l xs y,x=.ref l/\vs=[]/\H l=some (.lst xs)/\xs[xs.length - 1]? = some y/\Q y #[15,l,xs.dropLast]
def Xj:MtM X "list.pop" adD:=by
 intro pins s σ H x vs v us Q I rx rv h;obtain⟨l,xs,y,rfl,rfl,hH,hy,q⟩:=h;cases rx;have hus:=rv.zero;subst hus;obtain⟨z,its,n,r,hl,e⟩:=I.Kf hH;obtain⟨u,hu,ru⟩:=r.get hy;have Yx:its.toArray[its.toArray.size - 1]? = some u:=by
  show its.toArray[its.length - 1]? = some u;rw[<-Array.getElem?_toList,<-hl];exact hu
 refine call_meets F.slot_list_pop ⟨_,e,rfl⟩ F.entry_list_pop (F.args_list_pop_1 _) (MeetsSeq.list_pop_last l its.toArray n u Yx (by rw[gF];omega)) ⟨e,?_⟩;refine⟨y,_,I.Xp (its':=its.dropLast) hH e ?_ r.dropLast ?_,ru,q⟩
 ·show its.toArray.eraseIdxIfInBounds (its.toArray.size - 1)=its.dropLast.toArray;rw[gF,List.eraseIdxIfInBounds_toArray,zr7]
 ·rw[List.length_dropLast];omega
def Je:V->List V->Hp->VK->Prop:=λx vs H Q=>∃l xs,x=.ref l/\vs=[]/\H l=some (.lst xs)/\Q .non #[15,l,xs.reverse]
def zrz:MtM X "list.reverse" Je:=by
 intro pins s σ H x vs v us Q I rx rv h;obtain⟨l,xs,rfl,rfl,hH,q⟩:=h;cases rx;have hus:=rv.zero;subst hus;obtain⟨z,its,n,r,hl,e⟩:=I.Kf hH;refine call_meets F.slot_list_reverse ⟨_,e,rfl⟩ F.entry_list_reverse (F.args_list_reverse_1 _) (AutoSeq1.list_reverse_list_0 l its.toArray n (by rw[gF];omega)) ⟨e,?_⟩;refine⟨.non,_,I.Xp (its':=its.reverse) hH e 0x1 r.reverse ?_,rfl,q⟩;rw[pJ];omega
noncomputable def adE:R2:=λx y H Q=>∃l b xs zs,x=.ref l/\y=.ref b/\H l=some (.lst xs)/\H b=some (.lst zs)/\xs.length+zs.length<=sizeLine/\∀p,H p=none->Q (.ref p) #[15,p,(xs++zs)]
def Xa:eO X (binaryOp .Add) adE:=by
 show 10;obtain⟨l,b,xs,zs,rfl,rfl,hH,hB,hz,q⟩:=h;cases rx;cases ry;obtain⟨z,its,n,r,hl,e⟩:=I.Kf hH;obtain⟨z2,rO,n2,r2,Gp,e2⟩:=I.Kf hB;refine PySem.P.add_list e e2 ?_ (by rw[gF,gF];omega);have ea:its.toArray++rO.toArray=(its++rO).toArray:=by simp
 rw[ea];exact⟨.ref _,_,I.adV (t':=s.toks) (r.append r2) (by rw[gO];omega),rfl,q _ I.fresh⟩
end
section
variable  {prog:Program}{w:World}{A:Around}{E:Value->Shared->Prop}{s:Shared}
set_option maxRecDepth 100000 in
end
section
variable  {X:Cx}
end
end L2
namespace Att
open PySem PySem.W PySem.Calls PyProof.Rows
def zj1:∀(ns:List Int) (vs:List Value),WellAll P h vs (ns.map WData.int)->IntsAre vs ns:=by
 intro ns
 induction ns with
 | nil =>
  intro vs w;rw[m7]at w;cases w;exact .nil
 | cons n ns ih =>
  intro vs w;rw[gq]at w;cases w with
  | cons a b =>
   cases a;exact .cons _ _ (ih _ b)
def Ez{l:OpenLaw}{n:Nat}(hn:l.most=some n){P:Params}{h:Heap}{args:List WData}{vals:List Value}
  (RL:l.row.toRowW.claim.pre args=true) (hwl:WellAll P h vals args) :
  ∃a vs ns,vals=[Value.ref a]/\args=[WData.list (ns.map WData.int)]/\h.get? a=some { cls:=.type "list",data:=.seq vs.toArray }/\IntsAre vs ns/\ns.length<=n:=by
 have hsh:WShape.hasAll [] args [.list .int]=true:=(pre_splitW RL).1;have hc:l.pre.holds [] { args:=args }=true:=(pre_splitW RL).2;obtain⟨d,r,rfl,h1,h2⟩:=hasAllW_cons hsh;obtain rfl:=hasAllW_nil h2;obtain⟨xs,rfl,h3⟩:=hasW_list h1;obtain⟨ns,rfl⟩:=items_int h3;have hlen:ns.length<=n:=by
  unfold OpenLaw.pre at hc;have h4:(WTm.not (.lt (.lit (.int (n:Int))) (.len (.arg 0)))).holds [] { args:=[.list (ns.map .int)] }=true:=by
   have h4:=(holds_andW hc).1;rw[hn]at h4;exact h4
  have h5:=condW_of h4 (w_not (w_lt w_lit (w_len_list (w_arg rfl))));rw[gm]at h5;refine Nat.le_of_not_lt λq=>?_;have q':(n:Int)<(ns.length:Int):=by omega
  first
   | (rw[afs q']at h5;exact absurd h5 0x5)
   | (simp at h5;omega)
 cases hwl with
 | cons w1 w2 =>
  cases w2;cases w1 with
  | list ho uW=>exact⟨_,_,ns,rfl,rfl,ho,zj1 ns _ uW,hlen⟩
def Fq(l:OpenLaw)(args:List WData):l.row.toRowW.claim.post args (.bool true) args=true :=
 postW_of (r:=l.row.toRowW) (X:=(true==true))
  (show WShape.has [] (.bool true) .bool=true by first | rfl | decide | simp[WShape.has,WShape.arms,WShape.armsAll])
  (show (WTm.eq .res (.lit (.bool true))).value [] { args:=args,res:=some (.bool true),after:=args }=some (.bool (true==true)) from w_eq_bool (w_res rfl) w_lit) rfl
def zri{l:OpenLaw}{n:Nat}{q:Program}{loose:List Str}{XP:(Str->Option Value)->Heap->Prop}{YP:World->Heap->Prop}{d:DefRec}
  (hn:l.most=some n) (hdf:d.params.defaults=[])
  (call:∀(w:World) (afc afb:Shared) (mg mb:Str->Option Value) (fa:Addr) (o:Obj) (pm cd doc:Value) (a:Addr) (vs:List Value) (ns:List Int),
   Ground q loose [] XP w afc mg mb afb.heap->YP w afb.heap ->
   afb.heap.get? fa=some o->o.data=.func (docDef d.name d.params d.body d.scope pm cd doc)->afb.heap.CodeRec cd d.name->mg d.name=some (.ref fa) ->
   afb.heap.get? a=some { cls:=.type "list",data:=.seq vs.toArray }->IntsAre vs ns->ns.length<=n->afb.gens=#[] ->
   codeAny (model l.prog w) callerA (.call (.ref fa) ⟨[.ref a],[]⟩) 0x35 afb) :
  WalkO q loose XP YP l.row.toRowW d [] (λf vs=>PySem.call f vs):=by
 intro w afc afb mg mb G Y fa o pm cd doc dV kV ho hd yw hD hmg hg args vals as RL hlay hrd hwl hlo;obtain rfl:dV=.none:=Dflts.none hD hdf;obtain rfl:kV=.none:=Dflts.noKw hD;obtain⟨a,vs,ns,rfl,rfl,YJ,hints,hlen⟩:=Ez hn RL hwl;refine enter_call (af4 (call w afc afb mg mb fa o pm cd doc a vs ns G Y ho (fd_plain hd) yw hmg YJ hints hlen hg) λr s' hq=>?_);obtain⟨rfl,h2,h3,h4⟩:=hq;exact⟨.inl ⟨.bool true,.bool true,[],rfl,λ_=>rfl,.bool true,Fq l _,λ_=>⟨List.Pairwise.nil,λ_ hm=>(nomatch hm)⟩⟩,h2,h3,h4⟩
section
variable  {prog:Program}{w:World}{A:Around}{E:Value->Shared->Prop}{s:Shared}{K:Frag}
noncomputable def ye(h:Heap):Heap:={ h with objs:=#[] }
def zi7(h:Heap)(b:Addr):(ye h).get? b=none:=by
 cases e:(ye h).get? b with
 | none=>rfl
 | some o=>exact absurd (gw e) (Nat.not_lt_zero _)
noncomputable def ledger(h:Heap)(L d:Addr):List 0x6:=(List.range h.objs.size).filterMap λa=>if a=L\/a=d then none else (h.get? a).map λo=>(a,o)
def znd:(a,o)∈ledger h L d↔a≠L/\a≠d/\h.get? a=some o:=by
 unfold ledger;rw[pI];constructor
 ·rintro ⟨b,_,e⟩
  split at e
  ·cases e
  ·rename_i hb;obtain⟨o',ho,e'⟩:=mO.mp e;cases e';exact⟨λq=>hb (.inl q),λq=>hb (.inr q),ho⟩
 ·rintro ⟨n1,n2,ho⟩;refine⟨a,List.mem_range.mpr (gw ho),?_⟩;rw[afo (show ¬ (a=L\/a=d) from λq=>q.elim n1 n2),ho]<;>rfl
def zrg(qb:d≠L)(ho:h.get? d=some od):News (ye h) L h ([]++(d,od)::ledger h L d):=by
 rintro ⟨a,o⟩ hp;rcases gj.mp hp with e | hp
 ·cases e;exact⟨ho,qb,zi7 _ _⟩
 ·obtain⟨n1,n2,e⟩:=znd.mp hp;exact⟨e,n1,zi7 _ _⟩
def Lw(n:h.Ns L m):Fr (ye h) L h m :=
 ⟨n,λb o e=>(by rw[zi7]at e;cases e),mK _⟩
end
end Att
namespace L2
open PySem PySem.Spec PyProof.Rows
theorem zp4:∀{vs:List Value} {ns:List Int},IntsAre vs ns->Vals (ns.map V.int) vs
 | _,_,.nil=>.nil
 | _,_,.cons n t h=>.cons ⟨t,rfl⟩ (zp4 h)
noncomputable abbrev KOf{K:PySem.W.Frag}{h:Heap}(_:K.In h):PySem.W.Frag:=K
noncomputable def bZ(s:Stmt):Arguments:=match s with
 | .FunctionDef _ a _ _ _ _ _ _ _ _=>a
 | _=>{ posonlyargs:=[],args:=[],vararg:=none,kwonlyargs:=[],kw_defaults:=[],kwarg:=none,defaults:=[] }
noncomputable def a_(s:Stmt):List Stmt:=match s with
 | .FunctionDef _ _ b _ _ _ _ _ _ _=>b
 | _=>[]
noncomputable def aD(s:Stmt):Scope:=match s with
 | .FunctionDef _ _ _ _ _ _ sc _ _ _=>sc
 | _=>{ kind:=.function,names:=[],isGenerator:=false,isCoroutine:=false }
noncomputable abbrev qy:Nu:=λ_ _ _ _ _ _=>False
noncomputable abbrev E0:XK:=λ_ _ _=>False
def Cm:Passes qy X E0:=λ_ _ _ _ _ _ _ h=>h.elim
structure DP(K:PySem.W.Frag)(x qual:Str)(st:Stmt)(f:Addr)(fd:FuncData):Prop where
 ex:∃(oc:Value) (od:Option Addr) (kV doc pm:Value) (an:Option Addr) (cdv ct:Value) (ud:Array 0xe),
  fd=PySem.W.fnOf x qual (bZ st) (a_ st) (aD st) .none kV doc pm an cdv ct/\K.lookup f=some ⟨oc,od,.func fd,ud⟩/\PySem.W.codeIn K cdv qual=true
 kp:PySem.W.keepIn K (.ref f)=true
section
variable  {P:Program}{w:World}{K:PySem.W.Frag}{mg:Str->Option Value}{base:Heap}
def DP.ok{x qual:Str}{st:Stmt}{f:Addr}{fd:FuncData}{N ps:List Str}{k:Nat}{sp:Sp}(F:DP K x qual st f fd)(S:cX N ps (aD st))(len:∀vs H Q E,sp vs H Q E->vs.length=ps.length)
  (oG:∀(cdv:Value) (A:Around) (outer:List Env) (s:Shared) (H:Hp) (vs:List V) (Q:VK) (E:XK),cV k (A.deeper (envOfC qual (aD st) s.heap.objs.size f cdv))->sp vs H Q E ->
   ∃t,zW (wg qy P w K mg base N qual (aD st) f cdv A outer s H E).JX (a_ st) t/\t { nx:=λ_ H'=>Q .non H',rt:=Q } (start N vs) H):cD P w K mg base qy (k+1) f fd ps sp:=by
 obtain⟨oc,od,kV,doc,pm,an,cdv,ct,ud,rfl,lk,yw⟩:=F.ex;refine Lx lk yw S len λA outer s H vs Q E hr hsp=>?_;obtain⟨t,h,q⟩:=oG cdv A outer s H vs Q E hr hsp;exact⟨t,h.JX,q⟩
def DP.binds{x qual:Str}{st:Stmt}{f:Addr}{fd:FuncData}{ps:List Str}(F:DP K x qual st f fd)
  (h:∀(kV doc pm:Value) (an:Option Addr) (cdv ct:Value) (us:List Value),us.length=ps.length->bindArgs #[23,.none] ⟨us,[]⟩=pure (ps.zip us)):Binds K fd ps []:=by
 obtain⟨oc,od,kV,doc,pm,an,cdv,ct,ud,rfl,lk,yw⟩:=F.ex;exact .all (h kV doc pm an cdv ct)
def fun_mk{x qual:Str}{st:Stmt}{f:Addr}{oc:Value}{od an:Option Addr}{ud:Array 0xe}{kV doc pm cdv ct:Value}(l:K.lookup f=some ⟨oc,od,.func #[23,.none],ud⟩)
  (c:PySem.W.codeIn K cdv qual=true) (k:PySem.W.keepIn K (.ref f)=true):DP K x qual st f #[23,.none]:=⟨⟨oc,od,kV,doc,pm,an,cdv,ct,ud,rfl,l,c⟩,k⟩
end
def UG(hr:cV k A):A.units+1<cLine:=Nat.lt_of_le_of_lt (Nat.add_le_add_left (by decide:1<=64) _) hr.units
section
variable  {X:Cx}
end
def yr{A B:Prop}(h:B):if false=true then A else B:=by
 rw[afo pH];exact h
def yq{A B:Prop}(h:A):if true=true then A else B:=by
 rw[afn rfl];exact h
def Xo(lo:Nat)(e C dx:Addr)(fl:Option Value)(H:Hp)(h:Heap):Prop :=
 lo<=e/\H e=none/\∃oe vs,h.get? e=some oe/\oe.cls=.ref C/\oe.dict=some dx/\oe.data=.fields vs/\1<vs.size /\
  match fl with
  | none=>vs[1]? = some .none
  | some v=>∃T oT ts,vs[1]? = some (.ref T)/\lo<=T/\T≠e/\H T=none/\h.get? T=some oT/\oT.data=.fields ts/\ts[3]? = some v
section
variable  {X:Cx}
def JM:eO X (binaryOp .FloorDiv) (rI (λ_ j=>0<j/\j<2 ^ 64) λi j=>.int (i / j)):=by
 refine opI λi j t u s Q E hc h=>?_;obtain⟨h0,h1⟩:=hc;have e:i.fdiv j=i / j:=Int.fdiv_eq_ediv_of_nonneg i (Int.le_of_lt h0);refine floordiv_int 0x0 (by rw[e];exact h) (.inl (PyProof.noPylong_of_log2 ?_));have h2:j.natAbs<2 ^ 64:=by omega
 have h3:j.natAbs≠0:=by omega
 have:=(Nat.log2_lt h3).mpr h2;omega
def M3{prog:Program}{w:World}{A:Around}{E:Value->Shared->Prop}{s:Shared}{t b:Addr}{ws:List Value}{Q:Value->Shared->Prop}(ht:IsTup s.heap t #[])(hb:IsTup s.heap b ws.toArray)
  (h1:Q (.ref b) s):wpAny 0xb A (binaryOp .Add (.ref t) (.ref b)) Q E s:=by
 obtain⟨⟨cls,dd,data,sl⟩,ho,hc,n,hd⟩:=id ht;obtain⟨⟨aeE,dd2,data2,sl2⟩,Lf,YZ,n2,hd2⟩:=id hb;simp only at hc hd YZ hd2;subst hc hd YZ hd2;exact concat_meets ⟨_,ho,rfl⟩ ⟨_,Lf,rfl⟩ noFill_tuple_add seq_tuple_add af7 af3 (af1 _ _)
   (tuple_addW0 t b #[] ws.toArray n n2 dd dd2 sl sl2 0x1) ⟨ho,Lf,h1⟩
noncomputable def Wj(K:PySem.W.Frag):R2:=λx y H Q=>∃a b ys,x=.ref a/\y=.ref b/\oV K H a []/\oV K H b ys/\Q (.ref b) H
def JR:eO X (binaryOp .Add) (Wj X.K):=by
 show 10;obtain⟨a,b,ys,rfl,rfl,ha,hb,q⟩:=h;cases rx;cases ry;obtain⟨its,r1,p1,_⟩:=I.tuple ha;obtain⟨rO,r2,p2,_⟩:=I.tuple hb;cases r1;exact M3 p1 p2 ⟨.ref b,H,I,rfl,q⟩
end
end L2
namespace HT
open PySem PyProof.Rows
section
variable  {prog:Program}{w:World}{A:Around}{E:Value->Shared->Prop}{s:Shared}
def zf7{t sl:Addr}{items:Array Value}{vl vu:Value}{lo hi:Option Int}{Q:Value->Shared->Prop}(ht:IsTup s.heap t items)(hs:s.heap.IsSliceOf sl vl vu .none)(pl:IsPart vl lo)(pu:IsPart vu hi)
  (hw:cW items.size 0 lo=0/\cW items.size items.size hi=items.size)
  (h:Q (.ref t) s):wpAny 0xb A (getItem (.ref t) (.ref sl)) Q E s:=by
 obtain⟨os,YH,hcs,yS⟩:=id hs;have hTs:s.TypeIs (.ref sl) "slice":=⟨os,YH,hcs⟩;unfold getItem
 try with_reducible refine afS ?_
 first | refine afm (afp ?_) | skip
 refine afm (wpAny_sequenceKey ht.typeIs 0x5 ?_);refine afm (afG (name:=Str.ofString "__getitem__") ht.typeIs afD
  (afV afD ht.typeIs entry_tuple_getitem ?_ (args_tuple_getitem _ _)))
 show wpAny _ _ (Builtin.Tuple.tupleItemsOf (.ref t) >>= _) _ _ s;refine afm (tupleItemsOf_ ht ?_);refine afm (wpAny_typeOf hTs ?_);rw[afn 0x5];refine afm (zeh hs pl pu ?_);have hno:(0x2f=true):=by
  rw[hw.1,hw.2];simp
 show wpAny _ _ (if 0x2f=true then _ else _) _ _ s;rw[afn hno];unfold Builtin.Tuple.tupleIsExact;refine afm (afm (wpAny_typeOf ht.typeIs ?_));refine afp ?_;rw[afn 0x5];exact afm (wpAny_rule (afp ⟨_,rfl,afp h⟩))
end
end HT
namespace L2
open PySem PySem.Spec PyProof.Rows
section
variable  {X:Cx}
def aa0(K:PySem.W.Frag):V->Option Int->Option Int->Hp->VK->Prop:=λx lo hi H Q=>∃a xs,x=.ref a/\oV K H a xs /\
 (HT.cW xs.length 0 lo=0/\HT.cW xs.length xs.length hi=xs.length)/\Q (.ref a) H
def Pk:zT X (aa0 X.K):=by
 intro pins s σ H x v vl vu lo hi sl Q I rx hs pl pu h;obtain⟨a,xs,rfl,hx,hw,q⟩:=h;cases rx;obtain⟨its,r,ht,hz⟩:=I.tuple hx;have hlen:its.toArray.size=xs.length:=by rw[gF];exact r.length.symm
 refine⟨"tuple",_,PyProof.Rows.slot_tuple_getitem.lookup,ht.typeIs,?_⟩;exact HT.zf7 ht hs pl pu (by rw[hlen];exact hw) ⟨.ref a,H,I,rfl,q⟩
end
section
variable  {X:Cx}{pins:List 0x6}{σ:St}{H:Hp}{s:Shared}{h':Heap}{t':Nat}
def Inv.Bw{ch:List Addr}{a:Addr}{o:HO}(I:Inv X pins σ H s)(hf:∀b∈ch,qK X pins H b)(k:∀b ob,b∉ch->s.heap.get? b=some ob->h'.get? b=some ob)(hp:s.heap.objs.size<=a)
  (new:cB X.prog X.w (upd H a o) h' a o):Inv X pins σ (upd H a o) { s with heap:=h',toks:=t' }:=by
 have hn:H a=none:=I.bO.fresh hp;have J3:∀b u,H b=some u->b∉ch:=λb u e hb=>by rw[(hf b hb).1]at e;cases e
 have na:∀b u,H b=some u->b≠a:=λb u e=>Af e hn;refine I.step (g':=s.gens) (d':=s.drawn) (ch:=ch) (λb hb=>?_) (λb o _ _ hc e _=>k b o hc e) (λb o _ _ hc e _=>⟨o.slots,k b o hc e⟩)
  (λb o _ e n=>by rw[iT (gW (gQ (gw e) hp))];exact n)
  (λb o hc e=>⟨o,k b o hc e⟩) (λb xs e=>by rw[iT (na b _ e)];exact e) (λb o u e=>by rw[iT (na b _ e)];exact e) (λb ps e=>⟨#[],by rw[iT (na b _ e),e];simp⟩) (λm hm=>?_) (λb u e=>?_) I.bare
 ·obtain⟨f0,f1,f2,f3,f4,f5⟩:=hf b hb;exact⟨f3,f1,f4,f5⟩
 ·obtain⟨ob,es,ep,ho,r⟩:=hm;exact⟨ob,es,ep,k _ ob (λz=>(hf _ z).2.1 rfl) ho,r⟩
 ·by_cases hb:b=a
  ·subst hb;rw[qQ]at e;cases e;exact new
  ·rw[iT hb]at e;refine (I.bO b u e).uO (λc v hc q=>k c v ?_ q) (λc q=>by rw[iT (na c _ q)];exact q) λc xs q=>by rw[iT (na c _ q)];exact q
   rcases hc with z | z
   ·rw[z];exact J3 b u e
   ·exact J3 c _ z
def Inv.turns{ch:List Addr}(I:Inv X pins σ H s)(hf:∀b∈ch,qK X pins H b)(k:∀b ob,b∉ch->s.heap.get? b=some ob->h'.get? b=some ob):Inv X pins σ H { s with heap:=h',toks:=t' }:=by
 have J3:∀b u,H b=some u->b∉ch:=λb u e hb=>by rw[(hf b hb).1]at e;cases e
 refine I.step (g':=s.gens) (d':=s.drawn) (ch:=ch) (λb hb=>?_) (λb o _ _ hc e _=>k b o hc e) (λb o _ _ hc e _=>⟨o.slots,k b o hc e⟩)
  (λb o _ e n=>n) (λb o hc e=>⟨o,k b o hc e⟩) (λb xs e=>e) (λb o u e=>e) (λb ps e=>⟨#[],by rw[e];simp⟩) (λm hm=>?_) (λb u e=>?_) I.bare
 ·obtain⟨f0,f1,f2,f3,f4,f5⟩:=hf b hb;exact⟨f3,f1,f4,f5⟩
 ·obtain⟨ob,es,ep,ho,r⟩:=hm;exact⟨ob,es,ep,k _ ob (λz=>(hf _ z).2.1 rfl) ho,r⟩
 ·refine (I.bO b u e).uO (λc v hc q=>k c v ?_ q) (λc q=>q) λc xs q=>q;rcases hc with z | z
  ·rw[z];exact J3 b u e
  ·exact J3 c _ z
end
noncomputable def Ite(K:PySem.W.Frag)(a:Addr):It :=
 ⟨λi H=>∃xs x,oN K H a xs/\xs[i]? = some x,
  λi H y H'=>∃p x,H p=none/\y=.ref p/\H'=upd H p (.tup [.int i,x])/\∀xs,oN K H a xs->xs[i]? = some x,
  λi H=>∃xs,oN K H a xs/\xs.length<=i⟩
def En{P:Program}{w:World}{K:PySem.W.Frag}{elts:List Expr}{x1:Nat}{pos:Pos}(a e it:Addr)(qb:e≠it) :
  Turn P w K (.Tuple elts x1 pos) (Ite K a) [e,it] e (λi h=>∃old,IsEnum h e it (i:Int) old/\h.IsListIter it a i) where
 mem:=by simp
 obj:=λi h st b hb=>by
  obtain⟨old,h1,h2⟩:=st;rcases gj.mp hb with rfl | hb
  ·exact⟨_,h1,λv z=>by cases z⟩
  ·have e:b=it:=by simpa using hb
   subst e;obtain⟨o,q,c,d⟩:=h2;exact⟨o,q,λv z=>by rw[d]at z;cases z⟩
 keep:=λi h h' st k=>by
  obtain⟨old,h1,h2⟩:=st;exact⟨old,k e 0x1 _ h1,h2.at λo q=>k it 0x1 o q⟩
 item:=by
  show 2;obtain⟨xs,x,hq,hx⟩:=hg;obtain⟨old,h1,h2⟩:=st;obtain⟨its,rv,p,hz⟩:=I.list hq;obtain⟨u,hu,ru⟩:=rv.get hx;refine wpAny_pyNext_enum_item h1 h2 p.isList (x:=u) (by simpa using hu) qb λafk Oi hit ht hsz hk=>?_;refine⟨_,rfl,wpAny_letOwnedTupleGo_enum Oi λafj aei Le=>?_⟩;replace Le:Heap.SameBut e afk afj:=Le;have uT:e<s.heap.objs.size:=gw h1;have Yp:it<s.heap.objs.size:=by obtain⟨o,q,_⟩:=h2;exact gw q
  have ht2:afj.get? s.heap.objs.size=some { cls:=.type "tuple",data:=.seq #[.int i s.toks,u] }:=by rw[Le.2 _ (mJ uT)];exact ht
  have kk:∀b ob,b∉[e,it]->s.heap.get? b=some ob->afj.get? b=some ob:=λb ob hb q=>by
   have b1:b≠e:=λz=>hb (by simp[z]);have b2:b≠it:=λz=>hb (by simp[z]);exact Le.extBut b ob b1 (hk b ob b1 b2 q)
  refine⟨.ref s.heap.objs.size,upd H s.heap.objs.size (.tup [.int i,x]),I.Bw hf kk (gb _) ?_,rfl,⟨_,x,I.bO.fresh (gb _),rfl,rfl,λys hy=>by rw[I.vK hy hq];exact hx⟩,?_,λb hb=>?_⟩
  ·refine⟨by show 2<=sizeLine;decide,[.int i s.toks,u],.cons ⟨_,rfl⟩ (.cons ru .nil),?_⟩;exact⟨_,ht2,rfl,_,rfl⟩
  ·refine⟨u,?_,hit.extBut Le.extBut (afy qb)⟩;have:(i:Int)+1=((i+1:Nat):Int):=by omega
   rw[<-this];exact aei
  ·rw[iT]
   ·exact (hf b hb).1
   ·intro z;subst z;rcases gj.mp hb with z | z
    ·exact mJ uT z
    ·exact mJ Yp (by simpa using z)
 done:=by
  show 2;obtain⟨xs,hq,hx⟩:=hg;obtain⟨old,h1,h2⟩:=st;obtain⟨its,rv,p,hz⟩:=I.list hq;have hl:=rv.length;exact wpAny_pyNext_enum_end (I.ok.hd hc) h1 h2 p.isList 0x9 λh' eb=>⟨rfl,I.turns (t':=s.toks) (ch:=[e,it]) hf λb o hb q=>eb b o (λz=>hb (by simp[z])) q⟩
 self:=λ_ _ _ _ _ st h=>by
  obtain⟨old,h1,h2⟩:=st;exact wpAny_pyIter_enum h1 h
noncomputable def abH(K:PySem.W.Frag)(ta:TA):TI:=fun σ H R=>ta σ H λvs H1=>∃a,vs=[.ref a]/\(∃xs,oN K H1 a xs)/\R (Ite K a) H1
def zpq:bootBuiltins "enumerate" = some (.type "enumerate"):=by decide +kernel
def Qw{X:Cx}{elts:List Expr}{x1:Nat}{xV:Pos}{a:Expr}{ta:TA}{p pos:Pos}(hg:Gl X "enumerate")(hm:X.mg "enumerate" = none)(ha:PA X [a] ta)(hs:starEach [a] X.env=[0x1c]:=by rfl) :
  PI X (.Tuple elts x1 xV) (.Call (.Name "enumerate" p) [a] [] pos) (abH X.K ta):=by
 intro pins s σ H R I h;refine Call_ (Ou I hg hm zpq (afw 0x21 hs rfl));obtain⟨vs,H1,I1,r1,q1⟩:=zz;obtain⟨l,e,⟨xs,hq⟩,q⟩:=q1;subst e;cases r1 with
 | cons r rr =>
  cases rr;cases r;obtain⟨its,rv,pl,hz⟩:=I1.list hq;refine call_enumerate_list pl.isList λh' he hit hsz hk=>?_;refine wpAny_pyIter_enum he ?_;have I2:Inv X pins σ H1 { s1 with heap:=h' }:=I1.kept (t':=s1.toks) hk;refine⟨s1.heap.objs.size+1,[s1.heap.objs.size+1,s1.heap.objs.size],_,_,H1,rfl,I2,En l _ _ (mJ (nQ _)),⟨.none,he,hit⟩,λb hb=>?_,q⟩;have qd:s1.heap.objs.size<=b:=by
   rcases gj.mp hb with z | z
   ·rw[z];exact Nat.le_succ _
   ·have:b=s1.heap.objs.size:=by simpa using z
    rw[this];exact gb _
  exact I1.v5 qd (I1.bO.fresh qd)
noncomputable def Itv(K:PySem.W.Frag)(a:Addr)(n:Nat):It :=
 ⟨λi H=>∃xs x,oN K H a xs/\xs.length=n/\i<n/\xs[n - 1 - i]? = some x,λi H x H'=>H'=H/\∀xs,oN K H a xs->xs[n - 1 - i]? = some x,λi H=>(∃xs,oN K H a xs/\xs.length=n)/\i=n⟩
def HX{P:Program}{w:World}{K:PySem.W.Frag}{tg:Expr}(a it:Addr)(n:Nat):Turn P w K tg (Itv K a n) [it] it (λi h=>h.IsRevIter it a ((n:Int) - 1 - (i:Nat))) where
 mem:=by simp
 obj:=λi h st b hb=>by
  have e:b=it:=by simpa using hb
  show 14
 keep:=λi h h' st k=>st.at λo e=>k it 0x1 o e
 item:=by
  show 2;obtain⟨xs,x,hq,hn,hi,hx⟩:=hg;obtain⟨its,rv,p,hz⟩:=I.list hq;obtain⟨u,hu,ru⟩:=rv.get hx;show 5;have ei:(n:Int) - 1 - (i:Nat)=((n - 1 - i:Nat):Int):=by omega
  rw[ei]at st;refine wpAny_pyNext_rev_item st p.isList (x:=u) (by simpa using hu) λh' st' sb=>?_;show 9;obtain⟨o,e,c,d⟩:=id st';refine⟨u,rfl,ug (s:={ s with heap:=h' }) e c d 0x5 ⟨x,H,I1,ru,⟨rfl,λys hy=>by rw[I.vK hy hq];exact hx⟩,?_,λb hb=>(hf b hb).1⟩⟩;have e2:(n:Int) - 1 - ((i+1:Nat))=((n - 1 - i:Nat):Int) - 1:=by omega
  rw[e2];exact st'
 done:=by
  show 2;obtain⟨⟨xs,hq,hn⟩,hi⟩:=hg;show 5;have ei:(n:Int) - 1 - (i:Nat)=-1:=by omega
  rw[ei]at st;exact wpAny_pyNext_rev_end (I.ok.hd hc) st λh' eb=>⟨rfl,I.turned (t':=s.toks) (λb o hb e=>eb b o hb e) f0 f1 f3 f4 f5⟩
 self:=λ_ _ _ _ _ st h=>wpAny_pyIter_revIter st h
noncomputable def ad4(K:PySem.W.Frag)(ta:TA):TI:=fun σ H R=>ta σ H λvs H1=>∃a xs,vs=[.ref a]/\oN K H1 a xs/\R (Itv K a xs.length) H1
def zn9:bootBuiltins "reversed" = some (.type "reversed"):=by decide +kernel
def Wx{X:Cx}{tg a:Expr}{ta:TA}{p pos:Pos}(hg:Gl X "reversed")(hm:X.mg "reversed" = none)(ha:PA X [a] ta)(hs:starEach [a] X.env=[0x1c]:=by rfl) :
  PI X tg 0x2b (ad4 X.K ta):=by
 show 13;obtain⟨l,xs,e,hq,q⟩:=q1;subst e;cases r1 with
 | cons r rr =>
  cases rr;cases r;obtain⟨its,rv,pl,hz⟩:=I1.list hq;refine call_reversed_list pl.isList ?_;have st:(s1.heap.push (revObj l ((its.toArray.size:Int) - 1))).IsRevIter s1.heap.objs.size l ((xs.length:Int) - 1 - ((0:Nat):Int)):=by
   refine⟨_,gZ _ rfl,rfl,?_⟩;have e1:(its.toArray.size:Int) - 1=(xs.length:Int) - 1 - ((0:Nat):Int):=by rw[gF,<-rv.length];omega
   rw[<-e1];rfl
  refine wpAny_pyIter_revIter st ?_;refine⟨s1.heap.objs.size,[s1.heap.objs.size],_,_,H1,rfl,I1.kept (t':=s1.toks) λb o e=>gC _ e,HX l _ xs.length,st,λb hb=>?_,q⟩;have e:b=s1.heap.objs.size:=by simpa using hb
  subst e;exact I1.v5 (gb _) (I1.bO.fresh (gb _))
def zni(h:∀x∈scope.names,x.2=.free->∃c,env.cells.lookup x.1=some c) :
  ∃cl,closureFor scope env=pure cl/\(∀x c,cl.lookup x=some c->env.cells.lookup x=some c)/\∀x,(x,NameKind.free)∈scope.names->∃c,cl.lookup x=some c:=by
 have key:∀(names:List (Str×NameKind)) (acc:List (Str×Addr)),(∀x∈names,x.2=.free->∃c,env.cells.lookup x.1=some c)->(∀x c,acc.lookup x=some c->env.cells.lookup x=some c) ->
   ∃cl,(forIn names acc λ(x:Str×NameKind) (cs:List (Str×Addr))=>(if x.2 == .free then do let a <-cellOf env x.1;pure (ForInStep.yield ((x.1,a)::cs)) else pure (ForInStep.yield cs):Sem _))=pure cl/\(∀x c,cl.lookup x=some c->env.cells.lookup x=some c) /\
    (∀x,(x,NameKind.free)∈names->∃c,cl.lookup x=some c)/\∀x c,acc.lookup x=some c->∃c',cl.lookup x=some c':=by
  intro names
  induction names with
  | nil=>intro acc _ ha;exact⟨acc,rfl,ha,⟨(λx hx=>nomatch hx),λx c q=>⟨c,q⟩⟩⟩
  | cons y r ih =>
   intro acc hn ha;obtain⟨n,k⟩:=y;have hr:∀x∈r,x.2=.free->∃c,env.cells.lookup x.1=some c:=λx hx=>hn x (kW _ hx);by_cases hk:k=.free
   ·subst hk;obtain⟨c,hc⟩:=hn (n,.free) 0x1 rfl;have ha':∀x c',((n,c)::acc).lookup x=some c'->env.cells.lookup x=some c':=λx c' q=>by
     rw[kj]at q;cases e:x==n with
     | true=>rw[e]at q;cases q;rw[eq_of_beq e];exact hc
     | false=>rw[e]at q;exact ha x c' q
    obtain⟨cl,h1,h2,h3,h4⟩:=ih ((n,c)::acc) hr ha';refine⟨cl,?_,h2,λx hx=>?_,λx c' q=>?_⟩
    ·rw[List.forIn_cons];simp only[beq_self_eq_true,if_true,cellOf,hc];exact h1
    ·rcases gj.mp hx with e | hx
     ·cases e;exact h4 n c 0x1
     ·exact h3 x hx
    ·cases e:x==n with
     | true=>exact h4 x c (by rw[kj,e])
     | false=>exact h4 x c' (by rw[kj,e];exact q)
   ·have hb:(k==NameKind.free)=false:=by simpa using hk
    obtain⟨cl,h1,h2,h3,h4⟩:=ih acc hr ha;refine⟨cl,?_,h2,λx hx=>?_,h4⟩
    ·rw[List.forIn_cons];simp only[hb,Bool.false_eq_true,if_false];exact h1
    ·rcases gj.mp hx with e | hx
     ·cases e;exact absurd rfl hk
     ·exact h3 x hx
 obtain⟨cl,h1,h2,h3,_⟩:=key scope.names [] h (λx c q=>by simp at q);refine⟨cl,?_,h2,h3⟩;unfold closureFor;show (forIn scope.names [] (λ(x:Str×NameKind) (cs:List (Str×Addr))=>(if x.2 == .free then do let a <-cellOf env x.1;pure (ForInStep.yield ((x.1,a)::cs)) else pure (ForInStep.yield cs):Sem _)) >>= λcs=>pure cs)=pure cl;rw[h1]
 rfl
theorem zdi{f:Str×NameKind->Str×NameKind}(h1:∀p,(f p).1=p.1):∀{names:List (Str×NameKind)} {x:Str},(names.map f).lookup x=(names.lookup x).map λk=>(f (x,k)).2
 | [],_=>rfl
 | (n,j)::r,x=>by
  rw[gq];have e:f (n,j)=(n,(f (n,j)).2):=by
   have:=h1 (n,j);exact Prod.ext this rfl
  rw[e,kj,kj];cases hx:x==n with
  | true=>rw[eq_of_beq hx];rfl
  | false=>exact zdi h1
noncomputable def Aj(env:Env)(p:Str×NameKind):Str×NameKind:=if (p.2 == .free && env.scope.kind == .function && env.kindOf p.1==some .cell)=true then (p.1,.cell) else (p.1,p.2)
def zts(env:Env)(p:Str×NameKind):(Aj env p).1=p.1:=by unfold Aj;split<;>rfl
def zuu(env:Env)(p:Str×NameKind):(Aj env p).2=p.2\/(p.2=.free/\(Aj env p).2=.cell):=by
 unfold Aj
 split
 ·rename_i h;rw[gG,gG]at h;exact .inr ⟨eq_of_beq h.1.1,rfl⟩
 ·exact .inl rfl
def zhn(scope:Scope)(env:Env):(relabel scope env).names=scope.names.map (Aj env):=rfl
def zf5{scope:Scope}{env:Env}{x:Str}{k:NameKind}(h:(relabel scope env).names.lookup x=some k):scope.names.lookup x=some k\/(scope.names.lookup x=some .free/\k=.cell):=by
 rw[zhn,zdi (zts env)]at h;cases e:scope.names.lookup x with
 | none=>rw[e]at h;cases h
 | some j =>
  rw[e]at h;have h':(Aj env (x,j)).2=k:=afr h;rcases zuu env (x,j) with q | ⟨q1,q2⟩
  ·rw[q]at h';exact .inl (by rw[<-h'])
  ·rw[q2]at h';exact .inr ⟨by rw[show j=NameKind.free from q1],h'.symm⟩
def zgo{scope:Scope}{env:Env}{x:Str}(h:scope.names.lookup x=some .free):(relabel scope env).names.lookup x=some .cell\/(relabel scope env).names.lookup x=some .free:=by
 rw[zhn,zdi (zts env),h];rcases zuu env (x,.free) with q | ⟨_,q⟩
 ·exact .inr (by rw[Option.map_some,q])
 ·exact .inl (by rw[Option.map_some,q])
theorem mem_of_lookup[BEq α][LawfulBEq α]:∀{l:List (α×β)},l.lookup x=some k->(x,k)∈l
 | [],h=>by simp at h
 | (n,j)::r,h=>by
  rw[kj]at h;cases e:x==n with
  | true=>rw[e]at h;cases h;rw[eq_of_beq e];simp
  | false=>rw[e]at h;exact kW _ (mem_of_lookup h)
noncomputable def dm(X:Cx)(N:List Str)(scope:Scope)(cl:List (Str×Addr))(C:Addr)(fp:List Addr)(s:Shared)(H:Hp):Cx :=
 { X with N:=N,afc:=s,afl:=H,env:=compEnvC scope cl C X.env,outer:=X.stack,stack:=X.stack,ex:=fp,fn:=λ_=>false,pn:=[],xe:=λ_ _=>False }
structure fZ(scope:Scope):Prop where
 kind:scope.kind=.function
 cell:∀y∈scope.names,y.2≠.cell
 names:∀y∈scope.names,y.2=.local->scope.names.lookup y.1=some .local
def lG(X:Cx)(scope:Scope):List (Option Nat)->List Str->Prop
 | [],[]=>True
 | none::r,_::xs=>lG X scope r xs
 | some j::r,x::xs=>(X.N[j]? = some x/\(X.env.kindOf x=some .cell\/X.env.kindOf x=some .free)/\scope.names.lookup x=some .free)/\lG X scope r xs
 | _,_=>False
noncomputable def jA(capt:List (Option Nat))(σ:St):St:=capt.map λo=>o.bind λj=>(σ[j]?).join
theorem lG.len:∀{capt:List (Option Nat)} {N:List Str},lG X scope capt N->capt.length=N.length
 | [],[],_=>rfl
 | none::r,_::xs,h=>by simp[lG.len (show lG X scope r xs from h)]
 | some j::r,x::xs,h=>by simp[lG.len h.2]
 | [],_::_,h=>h.elim
 | none::_,[],h=>h.elim
 | some _::_,[],h=>h.elim
theorem lG.at_:∀{capt:List (Option Nat)} {N:List Str} {i j:Nat} {x:Str},lG X scope capt N->capt[i]? = some (some j)->N[i]? = some x ->
  X.N[j]? = some x/\(X.env.kindOf x=some .cell\/X.env.kindOf x=some .free)/\scope.names.lookup x=some .free
 | [],[],_,_,_,_,e,_=>by simp at e
 | none::r,y::xs,0,_,_,_,e,_=>by simp at e
 | none::r,y::xs,i+1,_,_,h,e,e2=>lG.at_ (i:=i) (show lG X scope r xs from h) (by simpa using e) (by simpa using e2)
 | some k::r,y::xs,0,_,_,h,e,e2=>by
  simp at e e2;subst e e2;exact h.1
 | some k::r,y::xs,i+1,_,_,h,e,e2=>lG.at_ (i:=i) h.2 (by simpa using e) (by simpa using e2)
 | [],_::_,_,_,_,h,_,_=>h.elim
 | none::_,[],_,_,_,h,_,_=>h.elim
 | some _::_,[],_,_,_,h,_,_=>h.elim
section
variable  {X:Cx}{pins:List 0x6}{σ:St}{H:Hp}{s:Shared}{N:List Str}{scope:Scope}{cl:List (Str×Addr)}{C:Addr}{fp:List Addr}{capt:List (Option Nat)}
def Sx(I:Inv X pins σ H s)(S:fZ scope)(uU:∀x c,cl.lookup x=some c->X.env.cells.lookup x=some c)(uW:∀x,(x,NameKind.free)∈scope.names->∃c,cl.lookup x=some c)
  (hC:s.heap.objs.size<=C) (hf:∀b∈fp,qK X pins H b) (hb:∀b∈fp,b<s.heap.objs.size):0x13.Ok where
 mod:=I.ok.mod
 kind:=S.kind
 glob:=I.ok.glob
 blt:=I.ok.blt
 above:=hC
 inj:=λx y c h1 h2=>I.ok.inj x y c (uU x c h1) (uU y c h2)
 has:=λx hx=>by
  have q:scope.names.lookup x=some .free:=by
   rcases hx with hx | hx
   ·rcases zf5 hx with e | ⟨e,_⟩
    ·exact absurd rfl (S.cell _ (mem_of_lookup e))
    ·exact e
   ·rcases zf5 hx with e | ⟨e,_⟩
    ·exact e
    ·exact e
  exact uW x (mem_of_lookup q)
 Vb:=λx c h=>by cases h
 hd:=I.ok.hd
 frames:=I.ok.frames
 stk:=.inl rfl
 exf:=λb qd=>⟨gW (gQ (hb b qd) hC),λx c h=>(hf b qd).2.2.2.2.1 x c (uU x c h)⟩
 bs:=I.bs
 G7:=g_ I.ok.G7 I.sz
 FJ:=λb o e qd=>by
  rcases (hf b qd).2.2.2.1 with z | z
  ·exact I.ok.FJ b o e z
  ·exact absurd (gw e) (Nat.not_lt.mpr (g_ I.ok.G7 z))
 LR:=λb qd z=>by
  rcases gj.mp (I.vy b z) with e | e
  ·exact (hf b qd).2.1 e
  ·exact (hf b qd).2.2.1 e
 qe:=I.stack
 Lr:=I.BL
def Mx(I:Inv X pins σ H s)(S:fZ scope)(uU:∀x c,cl.lookup x=some c->X.env.cells.lookup x=some c)(uW:∀x,(x,NameKind.free)∈scope.names->∃c,cl.lookup x=some c) 
  (hC:s.heap.objs.size<=C) (hf:∀b∈fp,qK X pins H b) (hb:∀b∈fp,b<s.heap.objs.size) (uV:lG X scope capt N) (hn:h'.Ns C m) (hk:∀b o,s.heap.get? b=some o->h'.get? b=some o) :
  Inv 0x13 [] (jA capt σ) H { s with heap:=h',toks:=t' } where
 ok:=Sx I S uU uW hC hf hb
 os:=rfl
 bare:=I.bare
 base:=Un.kept hk
 loc:=by
  refine⟨m,hn,λi x v hN hv ae4=>?_⟩;have hN':N[i]? = some x:=hN;unfold jA at hv;rw[gK]at hv;cases e:capt[i]? with
  | none=>rw[e]at hv;cases hv
  | some o =>
   rw[e]at hv;cases o with
   | none=>cases hv
   | some j =>
    have Bb:(σ[j]?).join=some v:=by simpa using hv
    have hv2:σ[j]? = some (some v):=by
     cases q:σ[j]? with
     | none=>rw[q]at Bb;cases Bb
     | some z=>rw[q]at Bb;cases Bb;rfl
    obtain⟨h1,h2,h3⟩:=uV.at_ e hN';obtain⟨m0,hm0,hl⟩:=I.loc;have hvx:Vis X.env.scope x:=by
     rcases h2 with h2 | h2
     ·exact .inr (.inl h2)
     ·exact .inr (.inr h2)
    obtain⟨u,r,lk⟩:=hl j x v h1 hv2 hvx;refine⟨u,r,?_⟩;rcases lk with⟨k1,_⟩ | ⟨_,c,k2,k3⟩
    ·rcases h2 with h2 | h2<;>(rw[h2]at k1;cases k1)
    ·obtain⟨c',hc'⟩:=uW x (mem_of_lookup h3);have:=uU x c' hc';rw[k2]at this;cases this;refine .inr ⟨zgo h3,c,hc',?_⟩;obtain⟨o,e1,e2⟩:=k3;exact⟨o,hk c o e1,e2⟩
 cell:=λx c h=>by
  obtain⟨v,o,e1,e2⟩:=I.cell x c (uU x c h);exact⟨v,o,hk c o e1,e2⟩
 free:=I.bO.fresh hC
 jP:=λx c h=>I.jP x c (uU x c h)
 pin:=λp hp=>by simp[dm]at hp
 bO:=I.bO.kept hk
 len:=by show (jA capt σ).length=N.length;unfold jA;rw[gm];exact uV.len
end
noncomputable abbrev By(ifs:List Expr)(env:Env):Sem Bool:=forIn ifs true λc r=>if r=true then do let ok <-isTrue c env (eval c env);pure (ForInStep.yield ok) else pure (ForInStep.yield r)
theorem znw(I:Nat->Shared->Prop) 
  (turn:∀n s,I n s->wpAny 0xb A (pyNext it) (λr afb=>match r with
   | none=>R (.ok .next) afb
   | some v=>wpAny 0xb A (letOwnedTupleGo target it v) (λ_ aeN=>wpAny 0xb A (assign target env v) (λ_ afa =>
     wpAny 0xb A (By ifs env) (λok ae_ =>
      if ok=true then wpAny 0xb A (eval elt env) (λx ae9 =>
       wpAny 0xb A (call (.builtin "list.append") [acc,x]) (λ_ ae8=>∃m,m<n/\I m ae8) (λ_ _=>False) ae9) (λ_ _=>False) ae_
      else ∃m,m<n/\I m ae_) (λ_ _=>False) afa) (λ_ _=>False) aeN) (λ_ _=>False) afb) (λ_ _=>False) s)
  (n:Nat) (h:I n s) :
  codeAny 0xb A (.compLoop (.ListComp elt [⟨target,iter,ifs,0⟩] scope pos) 0 it acc env) R s:=by
 refine codeAny_loop rfl I (λn s hI=>?_) n h;show wpAny _ A ((compTurn (.ListComp elt [⟨target,iter,ifs,0⟩] scope pos) 0 it acc env).onRaise (λx=>do noteFrame x env;theTreesLotGoes x)) _ _ s;refine wpAny_noted ?_;rw[compTurn_list];refine afm (wpAny_standAt (afm (afA (turn n s hI) (λr afb afk=>?_) λ_ _ h'=>h'.elim)));cases r with
 | none=>exact afp afk
 | some v =>
  refine afm (afA afk (λ_ aeN ae3=>?_) λ_ _ h'=>h'.elim);refine afm (afA ae3 (λ_ afa afj=>afm (afA afj (λok ae_ afi=>?_) λ_ _ h'=>h'.elim)) λ_ _ h'=>h'.elim);cases ok with
  | false=>exact afp ⟨rfl,afi⟩
  | true =>
   exact afm (afm (afA afi (λx ae9 afh=>afm (afA afh (λ_ ae8 afg=>afp (afp ⟨rfl,afg⟩)) λ_ _ h'=>h'.elim)) λ_ _ h'=>h'.elim))
def PTs(X:Cx)(ifs:List Expr)(t:TT):Prop :=
 ∀(pins:List 0x6) (s:Shared) (σ:St) (H:Hp) (Q:Bool->Hp->Prop),Inv X pins σ H s->t σ H Q->wpAny 0x7 X.A (By ifs X.env) (TP X pins σ Q) X.xe s
def Qh:PTs X [] (fun σ H Q=>Q true H):=λpins s σ H Q I h=>wpAny_tests_nil ⟨H,I,h⟩
noncomputable def HY(capt:List (Option Nat))(wi:TI)(g:TG)(tt:TT)(te:TE):TE:=fun σ H Q=>wi σ H λJ H1=>∀D,H1 D=none->∃W:Nat->Nat->St->Hp->Prop,(∃m,W 0 m (jA capt σ) (upd H1 D (.lst []))) /\
 ∀i m σ' H',W i m σ' H'->(J.stop i H'/\Q (.ref D) H')\/(J.go i H'/\∃N:St->Hp->Prop,(∀σ2 H2,N σ2 H2->∃m',m'<m/\W (i+1) m' σ2 H2) /\
  ∀x H2,J.yld i H' x H2->g x σ' H2 fun σ3 H3=>tt σ3 H3 λok H4=>if ok=true then te σ3 H4 λy H5=>∃xs,H5 D=some (.lst xs)/\xs.length<sizeLine/\N σ3 (upd H5 D (.lst (xs++[y]))) else N σ3 H4)
section
variable  {X:Cx}{elt tg iter:Expr}{ifs:List Expr}{scope:Scope}{pos:Pos}{N:List Str}{capt:List (Option Nat)}{wi:TI}{g:TG}{tt:TT}{te:TE}
def zmw{pins:List 0x6}{σ:St}{H:Hp}{s:Shared}{it:Addr}{fp:List Addr}{tn:Nat->Heap->Prop}{J:It}{cl:List (Str×Addr)}{Q:VK}{E:Value->Shared->Prop}{RR:Value->Addr->Result->Shared->Prop}
  (I:Inv X pins σ H s) (T:Turn X.prog X.w X.K tg J fp it tn) (st:tn 0 s.heap) (hf:∀b∈fp,qK X pins H b)
  (S:fZ scope) (uU:∀x c,cl.lookup x=some c->X.env.cells.lookup x=some c) (uW:∀x,(x,NameKind.free)∈scope.names->∃c,cl.lookup x=some c) (uV:lG X scope capt N) (hc:X.calm=true)
  (hg:∀cl C fp s H,PG 0x13 tg g) (ht:∀cl C fp s H,PTs 0x13 ifs tt) (he:∀cl C fp s H,PE 0x13 elt te)
  (h:∀D,H D=none->∃W:Nat->Nat->St->Hp->Prop,(∃m,W 0 m (jA capt σ) #[15,D,[]]) /\
   ∀i m σ' H',W i m σ' H'->(J.stop i H'/\Q (.ref D) H')\/(J.go i H'/\∃N:St->Hp->Prop,(∀σ2 H2,N σ2 H2->∃m',m'<m/\W (i+1) m' σ2 H2) /\
    ∀x H2,J.yld i H' x H2->g x σ' H2 fun σ3 H3=>tt σ3 H3 λok H4=>if ok=true then te σ3 H4 λy H5=>∃xs,H5 D=some (.lst xs)/\xs.length<sizeLine/\N σ3 (upd H5 D (.lst (xs++[y]))) else N σ3 H4))
  (hRR:∀(D C:Addr) (H':Hp) (s':Shared) (m:Str->Option Value),s'.heap.Ns C m->Inv X pins σ H' s'->qK X pins H' C->Q (.ref D) H'->RR (.ref D) C (.ok .next) s') :
  wpAny 0x7 X.A (newList []) (λacc ae_=>wpAny 0x7 X.A (newFunctionEnv scope X.env.globals cl [] X.env.qual none .none (some X.env)) (λab6 ae9 =>
   codeAny 0x7 X.A (.compStart 0x1f 0 (.ref it) acc { ab6 with scope:=relabel scope X.env }) (RR acc ab6.locals) ae9) E ae_) E s:=by
 have hD:H s.heap.objs.size=none:=I.bO.fresh (gb _);have I3:Inv X pins σ #[15,s.heap.objs.size,[]] { s with heap:=s.heap.push { cls:=.type "list",dict:=none,data:=.seq ([]:List Value).toArray } } :=
  I.laid (t':=s.toks) (λb o q=>gC _ q) (gb _) ⟨by show 0<=sizeLine;decide,[],0,.nil,gZ _ rfl⟩
 obtain⟨W,⟨m0,w0⟩,turn⟩:=h _ hD;refine afE (wpAny_newFunctionEnv S.cell (by intro y hy;simp at hy) (λafk YK YC=>?_) S.kind);dsimp only at YK YC ⊢;generalize hH2:s.heap.push { cls:=.type "list",dict:=none,data:=.seq ([]:List Value).toArray }=Hh at YK YC I3 ⊢;have U5:∀b∈fp,b<s.heap.objs.size:=λb hb=>by
  obtain⟨o,e,_⟩:=T.obj 0 s.heap st b hb;exact gw e
 have szH:Hh.objs.size=s.heap.objs.size+1:=by rw[<-hH2,Heap.size_push]
 have abS:∀b∈fp,b<Hh.objs.size:=λb hb=>by rw[szH];exact Nat.lt_succ_of_lt (U5 b hb)
 have hf3:∀b∈fp,qK X pins #[15,s.heap.objs.size,[]] b:=λb hb=>by
  obtain⟨f0,fr⟩:=hf b hb;exact⟨by rw[iT (gW (U5 b hb))];exact f0,fr⟩
 have Dd:∀b o,Hh.get? b=some o->afk.get? b=some o:=λb o e=>YC.extBut b o (gW (gw e)) (gC _ e);have st1:tn 0 afk:=T.keep 0 _ _ st λb hb o e=>Dd b o (by rw[<-hH2];exact gC _ e);generalize hX:dm X N scope cl Hh.objs.size fp { s with heap:=Hh } #[15,s.heap.objs.size,[]]=X';have I4:Inv X' [] (jA capt σ) #[15,s.heap.objs.size,[]] { s with heap:=afk,toks:=s.toks+([]:List (Str×Value)).length }:=by
  rw[<-hX];exact Mx (capt:=capt) I3 S uU uW (gb _) hf3 abS uV YK Dd
 have eP:X'.prog=X.prog:=by rw[<-hX];rfl
 have ew:X'.w=X.w:=by rw[<-hX];rfl
 have eK:X'.K=X.K:=by rw[<-hX];rfl
 have eA:X'.A=X.A:=by rw[<-hX];rfl
 have eC:X'.calm=true:=by rw[<-hX];exact hc
 have eE:X'.env=compEnvC scope cl Hh.objs.size X.env:=by rw[<-hX];rfl
 have eX:X'.xe=λ_ _=>False:=by rw[<-hX];rfl
 have ePn:X'.pn=[]:=by rw[<-hX];rfl
 have hg':PG X' tg g:=by rw[<-hX];exact hg _ _ _ _ _
 have ht':PTs X' ifs tt:=by rw[<-hX];exact ht _ _ _ _ _
 have he':PE X' elt te:=by rw[<-hX];exact he _ _ _ _ _
 have stat:∀{H':Hp},(∀b∈fp,H' b=none)->∀b∈fp,qK X' [] H' b:=λ{H'} hn b hb=>by
  rw[<-hX];refine⟨hn b hb,gW (abS b hb),λz=>?_,.inl hb,λx c q=>(hf b hb).2.2.2.2.1 x c (uU x c q),λp hp=>by simp[dm]at hp⟩;rcases gj.mp (I3.vy b z) with e | e
  ·exact (hf b hb).2.1 e
  ·exact (hf b hb).2.2.1 e
 have back:∀{σ':St} {H':Hp} {s':Shared},Inv X' [] σ' H' s'->∀h'',Heap.SameBut Hh.objs.size s'.heap h''->Inv X pins σ H' { s' with heap:=h'' }:=λ{σ' H' s'} I' h'' sb=>by
  have u:=I'.base;rw[<-hX]at u;have Oc:∀b o,Hh.get? b=some o->b≠Hh.objs.size:=λb o e=>gW (gw e);have nC:H' Hh.objs.size=none:=by have:=I'.free;rw[eE]at this;exact this
  refine I3.acd (s':={ s' with heap:=h'' }) (ch:=fp) (by have:=I'.os;rw[<-hX]at this;exact this) ?_ ?_ I'.bare (λb hb=>⟨(hf3 b hb).2.2.2.1,(hf3 b hb).2.1,(hf3 b hb).2.2.2.2.1,(hf3 b hb).2.2.2.2.2⟩)
  ·exact⟨λb o e n hb hx=>sb.extBut b _ (Oc b o e) (u.keep b o e n hb hx),λb o e n hb hx=>let ⟨sl,q⟩:=u.slot b o e n hb hx;⟨sl,sb.extBut b _ (Oc b o e) q⟩,u.free,
    λb o e hx=>let ⟨o',q⟩:=u.there b o e hx;⟨o',sb.extBut b _ (Oc b o e) q⟩,u.vm,u.t7,u.uN⟩
  ·have hk:=I'.bO;rw[eP,ew]at hk;intro b ob e;have nb:∀c v,H' c=some v->c≠Hh.objs.size:=λc v q=>Af q nC;refine (hk b ob e).uO (λc v hc q=>sb.extBut c v ?_ q) (λ_ q=>q) λ_ _ q=>q;rcases hc with z | z
   ·rw[z];exact nb b _ e
   ·exact nb c _ z
 have loop:∀ae_:Shared,ae_={ s with heap:=afk,toks:=s.toks+([]:List (Str×Value)).length } ->
   codeAny 0x7 X.A (.compLoop 0x1f 0 (.ref it) 0x1b (compEnvC scope cl Hh.objs.size X.env)) (RR 0x1b Hh.objs.size) ae_:=by
  rintro ae_ rfl;refine znw (λn s'=>∃i σ' H',Inv X' [] σ' H' s'/\tn i s'.heap/\(∀b∈fp,H' b=none)/\W i n σ' H') ?_ m0 ⟨0,_,_,I4,st1,λb hb=>(hf3 b hb).1,w0⟩;rintro n s3 ⟨i,σ3,H3,I5,iu,fr3,w3⟩;rw[<-eP,<-ew,<-eA,<-eE];rcases turn i n σ3 H3 w3 with⟨stop,qn⟩ | ⟨go,Nn,hN,step⟩
  ·have d:=T.done X' eP ew eK eC i [] s3 σ3 H3 (λ_ _=>False) I5 (stat fr3) iu stop;rw[<-eP,<-ew]at d;refine cO d λr s4 zz=>?_;obtain⟨hr,I6⟩:=zz;subst hr;obtain⟨mm,Gn,_⟩:=I6.loc;rw[eE]at Gn;have nC:H3 Hh.objs.size=none:=by have:=I6.free;rw[eE]at this;exact this
   exact hRR _ _ H3 s4 mm Gn (back I6 s4.heap (.refl ..)) (I3.v5 (gb _) nC) qn
  ·have d:=T.item X' eP ew eK eC i [] s3 σ3 H3 (λ_ _=>False) I5 (stat fr3) iu go;rw[<-eP,<-ew]at d;refine cO d λr s4 zz=>?_;obtain⟨u,hr,h4⟩:=zz;subst hr;refine cO h4 λ_ s5 zz=>?_;obtain⟨x,H5,I6,r5,y5,N8,fr5⟩:=zz;have I6':=I6.pinned (stat fr5) (T.obj _ _ N8);have dg:=hg' _ s5 σ3 H5 x u _ I6' r5 (step x H5 y5);rw[eX]at dg;refine cO dg λ_ s6 zz=>?_;obtain⟨σ6,H6,I7,q6⟩:=zz;have dt:=ht' _ s6 σ6 H6 _ I7 q6;rw[eX]at dt;refine cO dt λok s7 zz=>?_;obtain⟨H7,I8,q7⟩:=zz;have again:∀{σ9:St} {H9:Hp} {s9:Shared},Inv X' ([]++vI fp s5.heap) σ9 H9 s9->Nn σ9 H9->∃m,m<n/\∃i σ' H',Inv X' [] σ' H' s9/\tn i s9.heap/\(∀b∈fp,H' b=none)/\W i m σ' H':=λ{σ9 H9 s9} I9 n9=>by
    obtain⟨m',hm,w9⟩:=hN σ9 H9 n9;refine⟨m',hm,i+1,σ9,H9,I9.qR,T.keep _ _ _ N8 λb hb o e=>(I9.pin (b,o) (mD _ (mD _ (zf2 hb e)))).1,λb hb=>?_,w9⟩;obtain⟨o,e,d⟩:=T.obj _ _ N8 b hb;exact (I9.pin (b,o) (mD _ (mD _ (zf2 hb e)))).2.1
   cases ok with
   | false=>exact again I8 q7
   | true =>
    have de:=he' _ s7 σ6 H7 _ I8 q7;rw[eX]at de;refine cO de λy s8 zz=>?_;obtain⟨v,H8,I9,r8,q8⟩:=zz;obtain⟨xs,hx,hz,nn⟩:=q8;have da:=zqw (X:=X') _ s8 σ6 H8 0x1b [v] 0x1b [y] (λ_ H9=>Nn σ6 H9) I9 rfl (.cons r8 .nil) ⟨_,xs,v,rfl,rfl,hx,hz,nn⟩;rw[eX]at da;refine cO da λ_ s9 zz=>?_;obtain⟨_,H9,I10,_,n9⟩:=zz;exact again I10 n9
 exact codeAny_compStart_list (loop _ rfl) (T.self _ 0 _ _ _ st1 (loop _ rfl))
def zm2(I:Inv X pins σ H s)(RT:∀x∈scope.names,x.2=.free->X.env.kindOf x.1=some .cell\/X.env.kindOf x.1=some .free) :
  ∃cl,closureFor scope X.env=pure cl/\(∀x c,cl.lookup x=some c->X.env.cells.lookup x=some c)/\∀x,(x,NameKind.free)∈scope.names->∃c,cl.lookup x=some c :=
 zni λx hx hk=>I.ok.has x.1 (RT x hx hk)
def Inv.xK(I:Inv X pins σ H s)(f:qK X pins H C)(sb:Heap.SameBut C s.heap h'):Inv X pins σ H { s with heap:=h' } :=
 I.turned (t':=s.toks) (λb o hb e=>sb.extBut b o hb e) f.1 f.2.1 f.2.2.2.1 f.2.2.2.2.1 f.2.2.2.2.2
def QG(hi:PI X tg iter wi)(S:fZ scope)(RT:∀x∈scope.names,x.2=.free->X.env.kindOf x.1=some .cell\/X.env.kindOf x.1=some .free)(uV:lG X scope capt N)(hc:X.calm=true)
  (hg:∀cl C fp s H,PG 0x13 tg g) (ht:∀cl C fp s H,PTs 0x13 ifs tt) (he:∀cl C fp s H,PE 0x13 elt te)
  (hs:∀x,foldedSetIterable iter X.env x=pure x:=by intro _;rfl):PE X 0x1f (HY capt wi g tt te):=by
 show 6;obtain⟨cl,uU,h1,h2⟩:=zm2 I RT;rw[eval_ListComp];refine wpAny_comprehension_free (use:=none) rfl hs uU S.kind S.names (cO (hi pins s σ H _ I h) λv s1 q1=>cO q1 λitv s2 q2=>?_);obtain⟨it,fp,tn,J,H2,e,I2,T,st2,f2,q⟩:=q2;subst e;refine zmw (RR:=λacc C=>compPost 0x7 X.A X.xe none (EP X pins σ Q) acc C) I2 T st2 f2 S h1 h2 uV hc hg ht he q ?_;intro D C H' s' m hn I' f' q';exact⟨m,hn,λh'' sb=>⟨.ref D,H',I'.xK f' sb,rfl,q'⟩⟩
def zu9(hN:X.N.Nodup)(hy:X.N[i]? = some y)(hx:Loc X.env.scope y)(hsw:swapsWith 0x1f (some (.Name y py)) V7.line X.env=pure true) 
  (hi:PI X tg iter wi) (S:fZ scope) (RT:∀x∈scope.names,x.2=.free->X.env.kindOf x.1=some .cell\/X.env.kindOf x.1=some .free) (uV:lG X scope capt N) (hc:X.calm=true)
  (hg:∀cl C fp s H,PG 0x13 tg g) (ht:∀cl C fp s H,PTs 0x13 ifs tt) (he:∀cl C fp s H,PE 0x13 elt te)
  (hs:∀x,foldedSetIterable iter X.env x=pure x:=by intro _;rfl) (hf:X.fn y=true\/X.env.scope.names.lookup y=some .local:=by first | exact .inl rfl | exact .inr rfl | assumption) :
  PS X (.Assign [.Name y py] 0x1f V7) (V6 (HY capt wi g tt te) (De i)):=by
 intro pins s σ H D I h;obtain⟨cl,uU,h1,h2⟩:=zm2 I RT;rw[exec_Assign_Name_used _ _ _ _ hsw];refine afm (wpAny_standAt (afm ?_));show wpAny _ X.A (do let _ <-comprehension 0x1f scope X.env _ (newList []) false (eval iter X.env) (some (assign (.Name y py) X.env))) _ _ s;refine afm (afA (wpAny_comprehension_free (use:=some (assign (.Name y py) X.env)) (Q:=λ_ s'=>SP X pins D .next s') rfl hs uU S.kind S.names
  (cO (hi pins s σ H _ I h) λv s1 q1=>cO q1 λitv s2 q2=>?_)) (λ_ s' hq=>afp (afp hq)) λ_ _ e=>e)
 obtain⟨it,fp,tn,J,H2,e,I2,T,st2,f2,q⟩:=q2;subst e;refine zmw (Q:=λx H1=>De i x σ H1 D.nx) (RR:=λacc C=>compPost 0x7 X.A X.xe (some (assign (.Name y py) X.env)) (λ_ s'=>SP X pins D .next s') acc C) I2 T st2 f2 S h1 h2 uV hc hg ht he q ?_;intro D' C H' s' m hn I' f' q';show wpAny _ X.A (assign (.Name y py) X.env (.ref D')) _ _ _;refine wpAny_assign_Name (zqs I' hN hy hx (v:=.ref D') rfl (λs'' I'' zz=>?_) hf);obtain⟨a,sb,ha⟩:=zz;have Oc:C≠a:=by
  rcases ha with e | e
  ·rw[e];exact f'.2.1
  ·exact afy (f'.2.2.2.2.1 _ _ e)
 obtain⟨o,es,ep,ho,r⟩:=hn;exact⟨m,⟨o,es,ep,sb.extBut C o Oc ho,r⟩,λh'' sb'=>⟨_,H',I''.xK f' sb',q'⟩⟩
end
end L2
namespace M
open PySem PySem.Spec L2
inductive D where
 | non | bl (b:Bool) | int (i:Int) | str (cs:List Nat) | tup (xs:List D) | loc (n:Nat)
instance:Inhabited D:=⟨.non⟩
structure fQ where
 qual:Str
 params:Arguments
 body:Expr
 scope:Scope
 qi:List Str
inductive MO where
 | lst (xs:List D) | frz (xs:List D) | dic (kvs:List (List Key×D)) | dkc (kvs:List (Key×D))
 
 | dkf (kvs:List (Key×D))
 
 | dtf (kvs:List (List Key×D))
 
 | ins (c:Str) (fs:List (Str×D))
 
 | tab (x:Str)
 
 | clo (j:Nat) (l:fQ) (ds:List D)
 
 | exc (c:String) (d:D)
 
 | hid
noncomputable abbrev ak:=List MO
noncomputable abbrev aK:=List (Option D)
structure Xc where
 cls:String
 fld:D
inductive R (α:Type) where
 | ok (a:α) (st:ak) | err (x:Xc) (st:ak) | bad
def eZ{α:Sort u}{a b:α}(h:a=b):a=b:=h
noncomputable def R.bind{α β:Type}(r:R α)(f:α->ak->R β):R β:=match r with
 | .ok a st=>f a st
 | .err x st=>.err x st
 | .bad=>.bad
@[simp] def R.aB{α β:Type}(a:α)(st:ak)(f:α->ak->R β):(R.ok a st).bind f=f a st:=eZ rfl
@[simp] def R.sH{α β:Type}(x:Xc)(st:ak)(f:α->ak->R β):(R.err x st:R α).bind f=.err x st:=eZ rfl
@[simp] def R.sI{α β:Type}(f:α->ak->R β):(R.bad:R α).bind f=.bad:=eZ rfl
noncomputable abbrev strOf(cs:List Nat):Str:=⟨cs.toArray⟩
instance aeO {K:PySem.W.Frag} {H:Hp} {a:Addr} {xs:List V}:CoeTail (H a=some (.tup xs)) (oV K H a xs):=⟨oV.of⟩
noncomputable def FN:List D->Bool
 | []=>false
 | .int _::r=>FN r
 | .str _::r=>FN r
 | _::_=>true
noncomputable def Hb:List D->Bool
 | []=>true
 | .str _::r=>Hb r
 | _::_=>false
noncomputable def Cw(ds:List D):Bool:=Hb ds || FN ds
def zR(K:PySem.W.Frag)(H:Hp)(a:Addr)(xs:List V)(ds:List D):Prop :=
 H a=some (.tup xs)\/(Cw ds=true/\∃(o:Obj) (its:Array Value) (n:Nat),K.lookup a=some o/\o.cls=.type "tuple"/\o.data=.seq its n/\its.size<=sizeLine/\Vals xs its.toList)
def zR.rC(h:zR K H a xs ds):oV K H a xs:=by
 rcases h with h | ⟨_,h⟩
 ·exact oV.of h
 ·exact .inr h
mutual
def aq(K:PySem.W.Frag)(μ:List Addr)(H:Hp):D->V->Prop
 | .non,v=>v=.non
 | .bl b,v=>v=.bl b
 | .int i,v=>v=.int i
 | .str cs,v=>v=.str 0xa
 | .tup ds,v=>∃a xs,v=.ref a/\zR K H a xs ds/\ao K μ H ds xs
 | .loc n,v=>∃a,μ[n]? = some a/\v=.ref a
def ao(K:PySem.W.Frag)(μ:List Addr)(H:Hp):List D->List V->Prop
 | [],vs=>vs=[]
 | d::ds,vs=>∃v r,vs=v::r/\aq K μ H d v/\ao K μ H ds r
end
structure Ext(H H':Hp):Prop where
 tup:∀b xs,H b=some (.tup xs)->H' b=some (.tup xs)
 frz:∀b o u,H b=some (.frz o u)->H' b=some (.frz o u)
def Ext.refl(H:Hp):Ext H H:=⟨λ_ _ h=>h,λ_ _ _ h=>h⟩
def Ext.trans(a:Ext H H1)(b:Ext H1 H2):Ext H H2:=⟨λc xs h=>b.tup c xs (a.tup c xs h),λc o u h=>b.frz c o u (a.frz c o u h)⟩
def Ext.rC(e:Ext H H')(h:oV K H a xs):oV K H' a xs:=by
 rcases h with (h | ⟨o,h⟩) | h
 ·exact .inl (.inl (e.tup _ _ h))
 ·exact .inl (.inr ⟨o,e.frz _ _ _ h⟩)
 ·exact .inr h
def Ext.acK(e:Ext H H')(h:zR K H a xs ds):zR K H' a xs ds:=by
 rcases h with h | h
 ·exact .inl (e.tup _ _ h)
 ·exact .inr h
def Ext.new(h:H p=none):Ext H (upd H p o) :=
 ⟨λb xs q=>by rw[iT (Af q h)];exact q,λb o' u q=>by rw[iT (Af q h)];exact q⟩
structure bj(μ:List Addr)(H:Hp)(μ':List Addr)(H':Hp):Prop where
 pre:∃ν,μ'=μ++ν
 ext:Ext H H'
def bj.refl(μ:List Addr)(H:Hp):bj μ H μ H:=⟨⟨[],by simp⟩,.refl H⟩
def bj.trans(a:bj μ H μ1 H1)(b:bj μ1 H1 μ2 H2):bj μ H μ2 H2:=by
 obtain⟨ν1,rfl⟩:=a.pre;obtain⟨ν2,rfl⟩:=b.pre;exact⟨⟨ν1++ν2,by simp⟩,a.ext.trans b.ext⟩
def bj.get{μ μ':List Addr}{H H':Hp}(g:bj μ H μ' H'){n:Nat}{a:Addr}(h:μ[n]? = some a):μ'[n]? = some a:=by
 obtain⟨ν,rfl⟩:=g.pre;rw[gM (gf.mp h).1];exact h
mutual
theorem aq.mono{K:PySem.W.Frag}{μ μ':List Addr}{H H':Hp}(g:bj μ H μ' H'):∀(d:D) {v:V},aq K μ H d v->aq K μ' H' d v
 | .non,_,h=>by simpa[aq] using h
 | .bl _,_,h=>by simpa[aq] using h
 | .int _,_,h=>by simpa[aq] using h
 | .str _,_,h=>by simpa[aq] using h
 | .tup ds,_,h=>by
  rw[aq]at h ⊢;obtain⟨a,xs,rfl,h1,h2⟩:=h;exact⟨a,xs,rfl,g.ext.acK h1,ao.mono g ds h2⟩
 | .loc n,_,h=>by
  rw[aq]at h ⊢;obtain⟨a,h1,rfl⟩:=h;exact⟨a,g.get h1,rfl⟩
theorem ao.mono(g:bj μ H μ' H'):∀(ds:List D) {vs:List V},ao K μ H ds vs->ao K μ' H' ds vs
 | [],_,h=>by simpa[ao] using h
 | d::ds,_,h=>by
  rw[ao]at h ⊢;obtain⟨v,r,rfl,h1,h2⟩:=h;exact⟨v,r,rfl,aq.mono g d h1,ao.mono g ds h2⟩
end
section
variable  {K:PySem.W.Frag}{μ:List Addr}{H:Hp}
theorem ao.length:∀{ds:List D} {vs:List V},ao K μ H ds vs->ds.length=vs.length
 | [],_,h=>by rw[ao]at h;subst h;rfl
 | d::ds,_,h=>by
  rw[ao]at h;obtain⟨v,r,rfl,_,h2⟩:=h;rw[g8,g8,ao.length h2]
theorem ao.get:∀{ds:List D} {vs:List V} {i:Nat} {d:D},ao K μ H ds vs->ds[i]? = some d->∃v,vs[i]? = some v/\aq K μ H d v
 | [],_,_,_,_,e=>by simp at e
 | d::ds,_,0,_,h,e=>by
  rw[ao]at h;obtain⟨v,r,rfl,h1,_⟩:=h;simp at e;subst e;exact⟨v,rfl,h1⟩
 | d::ds,_,i+1,x,h,e=>by
  rw[ao]at h;obtain⟨v,r,rfl,_,h2⟩:=h;obtain⟨u,h3,h4⟩:=ao.get (i:=i) h2 (by simpa using e);exact⟨u,by simpa using h3,h4⟩
theorem ao.append:∀{ds es:List D} {vs ws:List V},ao K μ H ds vs->ao K μ H es ws->ao K μ H (ds++es) (vs++ws)
 | [],_,_,_,h,k=>by rw[ao]at h;subst h;exact k
 | d::ds,es,_,ws,h,k=>by
  rw[ao]at h;obtain⟨v,r,rfl,h1,h2⟩:=h;show ao K μ H (d::(ds++es)) (v::(r++ws));rw[ao];exact⟨v,r++ws,rfl,h1,ao.append h2 k⟩
def ao.nil:ao K μ H [] []:=by rw[ao]
def ao.cons(h:aq K μ H d v)(k:ao K μ H ds vs):ao K μ H (d::ds) (v::vs):=by rw[ao];exact⟨v,vs,rfl,h,k⟩
theorem ao.take:∀{ds:List D} {vs:List V} (n:Nat),ao K μ H ds vs->ao K μ H (ds.take n) (vs.take n)
 | _,_,0,_=>by simp[ao]
 | [],_,n+1,h=>by rw[ao]at h;subst h;simp[ao]
 | d::ds,_,n+1,h=>by
  rw[ao]at h;obtain⟨v,r,rfl,h1,h2⟩:=h;exact ao.cons h1 (ao.take n h2)
theorem ao.drop:∀{ds:List D} {vs:List V} (n:Nat),ao K μ H ds vs->ao K μ H (ds.drop n) (vs.drop n)
 | _,_,0,h=>h
 | [],_,n+1,h=>by rw[ao]at h;subst h;simp[ao]
 | d::ds,_,n+1,h=>by
  rw[ao]at h;obtain⟨v,r,rfl,h1,h2⟩:=h;exact ao.drop n h2
theorem ao.set(hd:aq K μ H d v):∀{ds:List D} {vs:List V} (i:Nat),ao K μ H ds vs->ao K μ H (ds.set i d) (vs.set i v)
 | [],_,_,h=>by rw[ao]at h;subst h;simp[ao]
 | x::ds,_,0,h=>by
  rw[ao]at h;obtain⟨w,r,rfl,h1,h2⟩:=h;exact ao.cons hd h2
 | x::ds,_,i+1,h=>by
  rw[ao]at h;obtain⟨w,r,rfl,h1,h2⟩:=h;exact ao.cons h1 (ao.set hd i h2)
def ao.reverse{ds:List D}{vs:List V}(h:ao K μ H ds vs):ao K μ H ds.reverse vs.reverse:=by
 induction ds generalizing vs with
 | nil=>rw[ao]at h;subst h;simp[ao]
 | cons d ds ih =>
  rw[ao]at h;obtain⟨v,r,rfl,h1,h2⟩:=h;rw[mV,mV];exact (ih h2).append (ao.cons h1 ao.nil)
def aq.aN:aq K μ H (.int i) v↔v=.int i:=by rw[aq]
def aq.bu:aq K μ H (.bl b) v↔v=.bl b:=by rw[aq]
def aq.bK:aq K μ H .non v↔v=.non:=by rw[aq]
def aq.aP:aq K μ H (.str cs) v↔v=.str 0xa:=by rw[aq]
def aq.aU:aq K μ H (.tup ds) v ↔ ∃a xs,v=.ref a/\zR K H a xs ds/\ao K μ H ds xs:=by rw[aq]
def aq.aL:aq K μ H (.loc n) v ↔ ∃a,μ[n]? = some a/\v=.ref a:=by rw[aq]
end
def aJ{κ:Type}(K:PySem.W.Frag)(μ:List Addr)(H:Hp):List (κ×D)->List (κ×V)->Prop
 | [],vs=>vs=[]
 | (k,d)::ds,vs=>∃v r,vs=(k,v)::r/\aq K μ H d v/\aJ K μ H ds r
theorem aJ.mono(g:bj μ H μ' H'):∀{ds:List (κ×D)} {vs:List (κ×V)},aJ K μ H ds vs->aJ K μ' H' ds vs
 | [],_,h=>h
 | (k,d)::ds,_,⟨v,r,e,h1,h2⟩=>⟨v,r,e,h1.mono g d,aJ.mono g h2⟩
def yO(K:PySem.W.Frag)(H:Hp)(a:Addr)(xs:List V):Prop :=
 (∃o,H a=some (.frz o (.lst xs)))\/∃(o:Obj) (its:Array Value) (n:Nat),K.lookup a=some o/\o.cls=.type "list"/\o.dict=none/\o.data=.seq its n/\its.size<=sizeLine/\Vals xs its.toList
def yO.sqL(h:yO K H a xs):oN K H a xs:=by
 rcases h with h | h
 ·exact .inl (.inr h)
 ·exact .inr h
def yO.ext(e:Ext H H')(h:yO K H a xs):yO K H' a xs:=by
 rcases h with⟨o,h⟩ | h
 ·exact .inl ⟨o,e.frz _ _ _ h⟩
 ·exact .inr h
noncomputable def MO.mut:MO->Bool
 | .frz _=>false
 | .clo _ _ _=>false
 | .hid=>false
 | .dkf _=>false
 | .dtf _=>false
 | .exc _ _=>false
 | _=>true
def sJ(H:Hp)(c:Addr)(q:Str):Prop:=∃oc vs t,H c=some #[14,oc]/\oc.data=.fields vs/\vs[1]? = some (.str q t)
def fK(H:Hp):List (Str×Addr)->List V->Prop
 | [],vs=>vs=[]
 | (_,c)::cl,vs=>∃v r o u,vs=v::r/\H c=some #[14,o]/\o.data=.cell (some u)/\RelV v u/\fK H cl r
def sJ.ext(e:Ext H H')(h:sJ H c q):sJ H' c q :=
 let ⟨oc,vs,t,h1,h2⟩:=h;⟨oc,vs,t,e.frz _ _ _ h1,h2⟩
theorem fK.ext(e:Ext H H'):∀{cl:List (Str×Addr)} {vs:List V},fK H cl vs->fK H' cl vs
 | [],_,h=>h
 | (_,c)::cl,_,⟨v,r,o,u,h1,h2,h3,h4,h5⟩=>⟨v,r,o,u,h1,e.frz _ _ _ h2,h3,h4,fK.ext e h5⟩
noncomputable def rJ(x:Str):Str:=x ++ ".<locals>." ++ "<lambda>"
def ig(K:PySem.W.Frag)(μ:List Addr)(H:Hp)(a:Addr):MO->Prop
 | .lst ds=>∃xs,H a=some (.lst xs)/\ao K μ H ds xs
 | .frz ds=>∃xs,yO K H a xs/\ao K μ H ds xs
 | .dic kvs=>∃ws,H a=some (.dT ws)/\aJ K μ H kvs ws
 | .dkc kvs=>∃ws,H a=some (.dK ws)/\aJ K μ H kvs ws
 | .dkf kvs=>∃ws o,H a=some (.frz o (.dK ws))/\aJ K μ H kvs ws
 | .dtf kvs=>∃ws o,H a=some (.frz o (.dT ws))/\aJ K μ H kvs ws
 | .ins c fs=>∃C dx ws,PySem.W.nsIn K mainGlobals c=some #[9,C]/\H a=some (.ins C dx ws)/\aJ K μ H fs ws
 | .tab x=>(∃(fa:Addr) (o:Obj) (fd:FuncData) (c:Addr),PySem.W.nsIn K mainGlobals x=some #[9,fa]/\K.lookup fa=some o/\o.data=.func fd/\fd.code=.ref c/\PySem.W.codeHdIn K c a=true) /\
   ∃ps:Array Value,H a=some (.tbl ps)/\TriplesOk ps.toList/\∀pos cv,codeAmong pos ps.toList=some cv->∃c',cv=.ref c'/\sJ H c' (rJ x)
 | .clo _ l ds=>∃(cl:List (Str×Addr)) (pm:Value) (c':Addr) (rZ:Value) (vs:List V),H a=some #[14,(PySem.W.kla_obj "<lambda>" l.qual l.params l.body l.scope cl pm c' rZ)]/\sJ H c' l.qual /\
   cl.map (·.1)=l.qi/\(cl.map (·.2)).Nodup/\fK H cl vs/\ao K μ H ds vs
 | .exc c d=>∃oe C dx od v fs,H a=some #[14,oe]/\oe.cls=.ref C/\oe.dict=some dx/\oe.data=.fields fs/\H dx=some (.frz od (.xd [("at",v)]))/\PySem.W.nsIn K mainGlobals (c:Str)=some #[9,C]/\aq K μ H d v
 | .hid=>True
structure aX(K:PySem.W.Frag)(μ:List Addr)(H:Hp)(st:ak):Prop where
 len:μ.length=st.length
 at_:∀(n:Nat) (o:MO),st[n]? = some o->∃a,μ[n]? = some a/\ig K μ H a o
 uniq:∀(i j:Nat) (a:Addr) (oi oj:MO),st[i]? = some oi->st[j]? = some oj->oi.mut=true->oj.mut=true->μ[i]? = some a->μ[j]? = some a->i=j
structure d7(K:PySem.W.Frag)(μ:List Addr)(H:Hp)(env:aK)(σ:St):Prop where
 len:env.length=σ.length
 at_:∀(i:Nat) (d:D),env[i]? = some (some d)->∃v,σ[i]? = some (some v)/\aq K μ H d v
def d7.mono(g:bj μ H μ' H')(h:d7 K μ H env σ):d7 K μ' H' env σ :=
 ⟨h.len,λi d e=>let ⟨v,h1,h2⟩:=h.at_ i d e;⟨v,h1,h2.mono g d⟩⟩
def d7.set(h:d7 K μ H env σ)(r:aq K μ H d v):d7 K μ H (env.set i (some d)) (σ.set i (some v)):=by
 refine⟨by simp[h.len],λj e hj=>?_⟩;by_cases YM:i=j
 ·subst YM;have hl:i<env.length:=by
   have:=(gf.mp hj).1;simpa using this
  rw[k_ hl]at hj;cases hj;exact⟨v,by rw[k_ (by rw[<-h.len];exact hl)],r⟩
 ·rw[gR YM]at hj;rw[gR YM];exact h.at_ j e hj
def ig.some_of(h:ig K μ H a o)(hm:o.mut=true):∃u,H a=some u:=by
 cases o with
 | lst ds=>obtain⟨xs,h1,_⟩:=h;exact⟨_,h1⟩
 | frz ds=>cases hm
 | dic kvs=>obtain⟨xs,h1,_⟩:=h;exact⟨_,h1⟩
 | dkc kvs=>obtain⟨xs,h1,_⟩:=h;exact⟨_,h1⟩
 | dkf kvs=>cases hm
 | dtf kvs=>cases hm
 | ins c fs=>obtain⟨_,_,_,_,h1,_⟩:=h;exact⟨_,h1⟩
 | tab x=>obtain⟨_,_,h1,_⟩:=h;exact⟨_,h1⟩
 | clo j l ds=>cases hm
 | exc c d=>cases hm
 | hid=>cases hm
def ig.keep(g:bj μ H μ' H')(hk:o.mut=true->∀u,H a=some u->H' a=some u)(h:ig K μ H a o):ig K μ' H' a o:=by
 cases o with
 | lst ds=>obtain⟨xs,h1,h2⟩:=h;exact⟨xs,hk rfl _ h1,h2.mono g ds⟩
 | frz ds=>obtain⟨xs,h1,h2⟩:=h;exact⟨xs,h1.ext g.ext,h2.mono g ds⟩
 | dic kvs=>obtain⟨ws,h1,h2⟩:=h;exact⟨ws,hk rfl _ h1,h2.mono g⟩
 | dkc kvs=>obtain⟨ws,h1,h2⟩:=h;exact⟨ws,hk rfl _ h1,h2.mono g⟩
 | dkf kvs=>obtain⟨ws,o,h1,h2⟩:=h;exact⟨ws,o,g.ext.frz _ _ _ h1,h2.mono g⟩
 | dtf kvs=>obtain⟨ws,o,h1,h2⟩:=h;exact⟨ws,o,g.ext.frz _ _ _ h1,h2.mono g⟩
 | exc c d=>obtain⟨oe,C,dx,od,v,fs,h1,h2,h3,h4,h5,h6,h7⟩:=h;exact⟨oe,C,dx,od,v,fs,g.ext.frz _ _ _ h1,h2,h3,h4,g.ext.frz _ _ _ h5,h6,h7.mono g d⟩
 | ins c fs=>obtain⟨C,dx,ws,h0,h1,h2⟩:=h;exact⟨C,dx,ws,h0,hk rfl _ h1,h2.mono g⟩
 | tab x=>obtain⟨h0,ps,h1,h2,h3⟩:=h;exact⟨h0,ps,hk rfl _ h1,h2,λpos cv e=>let ⟨c',e1,e2⟩:=h3 pos cv e;⟨c',e1,e2.ext g.ext⟩⟩
 | clo j l ds=>obtain⟨cl,pm,c',rZ,vs,h1,h2,h3,h4,h5,h6⟩:=h;exact⟨cl,pm,c',rZ,vs,g.ext.frz _ _ _ h1,h2.ext g.ext,h3,h4,h5.ext g.ext,h6.mono g ds⟩
 | hid=>trivial
section
variable  {K:PySem.W.Frag}{μ:List Addr}{H:Hp}{st:ak}{p a:Addr}{xs:List V}{n:Nat}{mo Ut:MO}{o o':HO}
def aX.lay(h:aX K μ H st)(hp:H p=none):aX K μ (upd H p o) st :=
 ⟨h.len,λn mo e=>let ⟨a,h1,h2⟩:=h.at_ n mo e;⟨a,h1,h2.keep ⟨⟨[],by simp⟩,.new hp⟩ λ_ u q=>by rw[iT (Af q hp)];exact q⟩,h.uniq⟩
def bj.lay(hp:H p=none):bj μ H μ (upd H p o):=⟨⟨[],by simp⟩,.new hp⟩
def bj.new(hp:H p=none):bj μ H (μ++[p]) (upd H p o):=⟨⟨[p],rfl⟩,.new hp⟩
def aX.new(h:aX K μ H st)(hp:H p=none)(hn:ig K (μ++[p]) (upd H p o) p mo):aX K (μ++[p]) (upd H p o) (st++[mo]):=by
 refine⟨by simp[h.len],λn mo1 e=>?_,λi j b oi oj ei ej mi mj hi hj=>?_⟩
 ·by_cases hl:n<st.length
  ·rw[gM hl]at e;obtain⟨b,h1,h2⟩:=h.at_ n mo1 e;exact⟨b,by rw[gM (by rw[h.len];exact hl)];exact h1,h2.keep (bj.new hp) λ_ u q=>by rw[iT (Af q hp)];exact q⟩
  ·have Gp:=(gf.mp e).1;rw[gO,ni]at Gp;have e2:n=st.length:=by omega
   subst e2;rw[h_ (gb _)]at e;simp at e;subst e;exact⟨p,by rw[<-h.len];simp,hn⟩
 ·have key:∀(k:Nat) (ok:MO),(st++[mo])[k]? = some ok->ok.mut=true->(μ++[p])[k]? = some b->(k<st.length/\st[k]? = some ok/\μ[k]? = some b/\b≠p)\/(k=st.length/\b=p):=λk ok ek mk hk=>by
   by_cases hl:k<st.length
   ·rw[gM hl]at ek;rw[gM (by rw[h.len];exact hl)]at hk;obtain⟨c,h1,h2⟩:=h.at_ k ok ek;rw[hk]at h1;cases h1;obtain⟨u,hu⟩:=h2.some_of mk;exact .inl ⟨hl,ek,hk,Af hu hp⟩
   ·have Gp:=(gf.mp ek).1;rw[gO,ni]at Gp;have e2:k=st.length:=by omega
    subst e2;rw[<-h.len]at hk;simp at hk;exact .inr ⟨rfl,hk.symm⟩
  rcases key i oi ei mi hi with⟨_,a1,a2,a3⟩ | ⟨a1,a2⟩
  ·rcases key j oj ej mj hj with⟨_,b1,b2,b3⟩ | ⟨b1,b2⟩
   ·exact h.uniq i j b oi oj a1 b1 mi mj a2 b2
   ·exact absurd b2 a3
  ·rcases key j oj ej mj hj with⟨_,b1,b2,b3⟩ | ⟨b1,b2⟩
   ·exact absurd a2 b3
   ·rw[a1,b1]
def Ext.mut(h:H a=some o)(ht:∀ys,o≠.tup ys)(hf:∀w u,o≠.frz w u):Ext H (upd H a o') :=
 ⟨λb ys q=>by rw[iT (λe=>by subst e;rw[h]at q;exact ht _ (afr q))];exact q,
  λb w u q=>by rw[iT (λe=>by subst e;rw[h]at q;exact hf _ _ (afr q))];exact q⟩
def aX.put(h:aX K μ H st)(hn:st[n]? = some mo)(hm:mo.mut=true)(Oh:Ut.mut=true)(ha:μ[n]? = some a)(g:Ext H (upd H a o'))(new:ig K μ (upd H a o') a Ut):aX K μ (upd H a o') (st.set n Ut):=by
 have hl:=(gf.mp hn).1;refine⟨by simp[h.len],λk ok e=>?_,λi j b oi oj ei ej mi mj hi hj=>?_⟩
 ·by_cases hk:n=k
  ·subst hk;rw[k_ hl]at e;cases e;exact⟨a,ha,new⟩
  ·rw[gR hk]at e;obtain⟨b,h1,h2⟩:=h.at_ k ok e;refine⟨b,h1,h2.keep ⟨⟨[],by simp⟩,g⟩ λhmk u q=>?_⟩;rw[iT (λe2=>?_)]
   ·exact q
   ·subst e2;exact hk (h.uniq n k b mo ok hn e hm hmk ha h1)
 ·have key:∀(k:Nat) (ok:MO),(st.set n Ut)[k]? = some ok->ok.mut=true->∃ok',st[k]? = some ok'/\ok'.mut=true:=λk ok ek mk=>by
   by_cases hk:n=k
   ·subst hk;exact⟨mo,hn,hm⟩
   ·rw[gR hk]at ek;exact⟨ok,ek,mk⟩
  obtain⟨oi',ei',mi'⟩:=key i oi ei mi;obtain⟨oj',ej',mj'⟩:=key j oj ej mj;exact h.uniq i j b oi' oj' ei' ej' mi' mj' hi hj
end
def ExcAt(X:Cx)(μ:List Addr)(H:Hp)(x:Xc)(e:Value)(s:Shared):Prop :=
 ∃a C dx lo fl v,e=.ref a/\X.afc.heap.objs.size<=lo/\Xo lo a C dx fl H s.heap/\H dx=some (.xd [("at",v)])/\PySem.W.nsIn X.K mainGlobals (x.cls:Str)=some #[9,C]/\aq X.K μ H x.fld v
def wz(X:Cx)(μ:List Addr)(H:Hp)(x:Xc)(st:ak):Prop :=
 ∀(pins:List 0x6) (σ':L2.St) (H':Hp) (μ':List Addr) (e:Value) (s':Shared),bj μ H μ' H'->aX X.K μ' H' st->Inv X pins σ' H' s'->ExcAt X μ' H' x e s'->X.xe e s'
def wz.mono(g:bj μ H μ1 H1)(h:wz X μ H x st):wz X μ1 H1 x st :=
 λpins σ' H' μ' e s' g'=>h pins σ' H' μ' e s' (g.trans g')
noncomputable abbrev Rel(α β:Type):=List Addr->Hp->α->β->Prop
def bR{α β:Type}(X:Cx)(μ:List Addr)(H:Hp)(rel:Rel α β)(Q:β->Hp->Prop)(r:R α):Prop:=match r with
 | .ok a st=>∀(b:β) (H':Hp) (μ':List Addr),bj μ H μ' H'->aX X.K μ' H' st->rel μ' H' a b->Q b H'
 | .err x st=>wz X μ H x st
 | .bad=>False
section
variable  {α β γ δ:Type}{X:Cx}{μ μ1:List Addr}{H H1:Hp}{rel:Rel α β}{P_:Rel γ δ}{Q Q':β->Hp->Prop}{r:R α}
def bR.mono(g:bj μ H μ1 H1)(h:bR X μ H rel Q r):bR X μ1 H1 rel Q r:=by
 cases r with
 | ok a st=>exact λb H' μ' g'=>h b H' μ' (g.trans g')
 | err x st=>exact wz.mono g h
 | bad=>exact h
def bR.imp(h:bR X μ H rel Q r)(k:∀b H',Q b H'->Q' b H'):bR X μ H rel Q' r:=by
 cases r with
 | ok a st=>exact λb H' μ' g' h1 h2=>k b H' (h b H' μ' g' h1 h2)
 | err x st=>exact h
 | bad=>exact h
def Then(X:Cx)(μ:List Addr)(H:Hp)(rel:Rel α β)(P_:Rel γ δ)(Q2:δ->Hp->Prop)(f:α->ak->R γ):β->Hp->Prop :=
 λb H1=>∃μ1 st1 a,bj μ H μ1 H1/\aX X.K μ1 H1 st1/\rel μ1 H1 a b/\bR X μ1 H1 P_ Q2 (f a st1)
def bR.bind(h:bR X μ H P_ Q2 (r.bind f)):bR X μ H rel (Then X μ H rel P_ Q2 f) r:=by
 cases r with
 | ok a st=>exact λb H' μ' g h1 h2=>⟨μ',st,a,g,h1,h2,bR.mono g h⟩
 | err x st=>exact h
 | bad=>exact h
def bR.ret(h:bR X μ H rel Q (.ok a st))(hs:aX X.K μ H st)(hr:rel μ H a b):Q b H:=h b H μ (.refl _ _) hs hr
end
noncomputable abbrev lX(X:Cx):Rel D V:=fun μ H d v=>aq X.K μ H d v
noncomputable abbrev adi(X:Cx):Rel (List D) (List V):=fun μ H d v=>ao X.K μ H d v
noncomputable abbrev Fe:Rel Bool Bool:=λ_ _ a b=>a=b
noncomputable abbrev adf:Rel (Option Int) (Option Int):=λ_ _ a b=>a=b
noncomputable abbrev ME:=aK->ak->R D
noncomputable abbrev MA:=aK->ak->R (List D)
noncomputable abbrev MT:=aK->ak->R Bool
noncomputable abbrev MP:=aK->ak->R (Option Int)
noncomputable def tM(X:Cx)(m:ME):TE:=fun σ H Q=>∃μ env st,d7 X.K μ H env σ/\aX X.K μ H st/\bR X μ H (lX X) Q (m env st)
noncomputable def tMA(X:Cx)(m:MA):TA:=fun σ H Q=>∃μ env st,d7 X.K μ H env σ/\aX X.K μ H st/\bR X μ H (adi X) Q (m env st)
noncomputable def tMT(X:Cx)(m:MT):TT:=fun σ H Q=>∃μ env st,d7 X.K μ H env σ/\aX X.K μ H st/\bR X μ H Fe Q (m env st)
noncomputable def tMP(X:Cx)(m:MP):TO:=fun σ H Q=>∃μ env st,d7 X.K μ H env σ/\aX X.K μ H st/\bR X μ H adf Q (m env st)
def JE(X:Cx)(e:Expr)(m:ME):Prop:=PE X e (tM X m)
def JT(X:Cx)(e:Expr)(m:MT):Prop:=PT X e (tMT X m)
def JA(X:Cx)(es:List Expr)(m:MA):Prop:=PA X es (tMA X m)
def JP(X:Cx)(e:Option Expr)(m:MP):Prop:=PO X e (tMP X m)
section
variable  {X:Cx}{e a b c:Expr}{es:List Expr}{t:TE}{ma mb mc:ME}{mA:MA}{pos:Pos}
def JE.of(h:PE X e t)(k:∀σ H Q,tM X m σ H Q->t σ H Q):JE X e m:=λpins s σ H Q I q=>h pins s σ H Q I (k σ H Q q)
def JT.of{t:TT}{m:MT}(h:PT X e t)(k:∀σ H Q,tMT X m σ H Q->t σ H Q):JT X e m:=λpins s σ H Q I q=>h pins s σ H Q I (k σ H Q q)
def JA.of{t:TA}{m:MA}(h:PA X es t)(k:∀σ H Q,tMA X m σ H Q->t σ H Q):JA X es m:=λpos pins s σ H Q I q=>h pos pins s σ H Q I (k σ H Q q)
def JP.of{o:Option Expr}{t:TO}{m:MP}(h:PO X o t)(k:∀σ H Q,tMP X m σ H Q->t σ H Q):JP X o m:=λpins s σ H Q I q=>h pins s σ H Q I (k σ H Q q)
noncomputable def vr(i:Nat):ME:=λenv st=>match env[i]? with | some (some d)=>.ok d st | _=>.bad
noncomputable def ct(d:D):ME:=λ_ st=>.ok d st
def Br(i:Nat){pos:Pos}(hN:X.N[i]? = some x:=by rfl)(hv:Vis X.env.scope x:=by first | exact Or.inl rfl | exact Or.inr (Or.inl rfl) | exact Or.inr (Or.inr rfl))(hd:0xf=false:=by decide) 
  (yw:(x==("__classdict__":Str))=false:=by decide):JE X (.Name x pos) (vr i):=JE.of (Jt hN hv hd yw) fun σ H Q zz=>by
 obtain⟨μ,env,st,he,hs,hp⟩:=zz;unfold vr at hp
 split at hp
 ·rename_i d e;obtain⟨v,h1,h2⟩:=he.at_ i d e;exact⟨v,h1,hp.ret hs h2⟩
 ·exact hp.elim
def Yh{i j pos}:JE X (.Constant (.int i) j pos) #[5,i]:=by
 refine JE.of WW fun σ H Q zz=>?_;obtain⟨μ,env,st,he,hs,hp⟩:=zz;exact hp.ret hs (aq.aN.mpr rfl)
def abA{b j pos}:JE X (.Constant (.bool b) j pos) (ct (.bl b)):=by
 refine JE.of abh fun σ H Q zz=>?_;obtain⟨μ,env,st,he,hs,hp⟩:=zz;exact hp.ret hs (aq.bu.mpr rfl)
def Yc{j pos}:JE X (.Constant .none j pos) (ct .non):=by
 refine JE.of WQ fun σ H Q zz=>?_;obtain⟨μ,env,st,he,hs,hp⟩:=zz;exact hp.ret hs (aq.bK.mpr rfl)
def XS{j pos}(cs:List Nat)(h:x=strOf cs:=by decide +kernel):JE X (.Constant (.str x) j pos) #[2,cs]:=by
 refine JE.of WK fun σ H Q zz=>?_;obtain⟨μ,env,st,he,hs,hp⟩:=zz;exact hp.ret hs (aq.aP.mpr (by rw[h]))
noncomputable def aF(g:D->D->ak->R D)(a b:ME):ME:=λenv st=>(a env st).bind λx st1=>(b env st1).bind λy st2=>g x y st2
noncomputable def wA(g:D->ak->R D)(a:ME):ME:=λenv st=>(a env st).bind λx st1=>g x st1
noncomputable def rM(X:Cx)(g:D->D->ak->R D):R2:=λx y H Q=>∃μ st dx dy,aX X.K μ H st/\aq X.K μ H dx x/\aq X.K μ H dy y/\bR X μ H (lX X) Q (g dx dy st)
def rM1(X:Cx)(g:D->ak->R D):V->Hp->VK->Prop:=λx H Q=>∃μ st dx,aX X.K μ H st/\aq X.K μ H dx x/\bR X μ H (lX X) Q (g dx st)
def N_(X:Cx)(g:List D->ak->R D):List V->Hp->VK->Prop:=λxs H Q=>∃μ st ds,aX X.K μ H st/\ao X.K μ H ds xs/\bR X μ H (lX X) Q (g ds st)
def Hk(X:Cx)(g:D->List D->ak->R D):V->List V->Hp->VK->Prop:=λx xs H Q=>∃μ st d ds,aX X.K μ H st/\aq X.K μ H d x/\ao X.K μ H ds xs/\bR X μ H (lX X) Q (g d ds st)
def eO.weak(h:eO X f r)(k:∀x y H Q,r' x y H Q->r x y H Q):eO X f r':=λpins s σ H x y v u Q I rx ry q=>h pins s σ H x y v u Q I rx ry (k x y H Q q)
def TF.weak(h:TF X f r)(k:∀x H Q,r' x H Q->r x H Q):TF X f r':=λpins s σ H x v Q I rx q=>h pins s σ H x v Q I rx (k x H Q q)
def cL.weak(h:cL X f r)(k:∀x H Q,r' x H Q->r x H Q):cL X f r':=λpins s σ H x v Q I rx q=>h pins s σ H x v Q I rx (k x H Q q)
def sV.weak{id:String}{r r':V->List V->Hp->VK->Prop}(h:sV X id r)(k:∀x xs H Q,r' x xs H Q->r x xs H Q):sV X id r':=λpins s σ H x xs v us Q I rx rs q=>h pins s σ H x xs v us Q I rx rs (k x xs H Q q)
def DG.weak(h:DG X r)(k:∀x y H Q,r' x y H Q->r x y H Q):DG X r':=λva sl pins s σ H x y v u Q I rx ry q=>h va sl pins s σ H x y v u Q I rx ry (k x y H Q q)
def zT.weak(h:zT X r)(k:∀x l u H Q,r' x l u H Q->r x l u H Q):zT X r':=λpins s σ H x v vl vu lo hi sl Q I rx hs pl pu q=>h pins s σ H x v vl vu lo hi sl Q I rx hs pl pu (k x lo hi H Q q)
def xx.weak{t t':Np}(h:xx X t)(k:∀o i v H Q,t' o i v H Q->t o i v H Q):xx X t':=λpins s σ H o i v ov iv u Q I ro ri rv q=>h pins s σ H o i v ov iv u Q I ro ri rv (k o i v H Q q)
def zuw(h:tM X (aF g ma mb) σ H Q):tM X ma σ H λx H1=>tM X mb σ H1 λy H2=>rM X g x y H2 Q:=by
 obtain⟨μ,env,st,he,hs,hp⟩:=h;refine⟨μ,env,st,he,hs,hp.bind.imp ?_⟩;rintro x H1 ⟨μ1,st1,d,g1,bJ,hx,aQ⟩;refine⟨μ1,env,st1,he.mono g1,bJ,aQ.bind.imp ?_⟩;rintro y H2 ⟨μ2,st2,d2,g2,iQ,hy,d_⟩;exact⟨μ2,st2,d,d2,iQ,hx.mono g2 _,hy,d_⟩
def Uy(ho:eO X (binaryOp op) (rM X g))(ha:JE X a ma)(hb:JE X b mb):JE X (.BinOp a op b pos) (aF g ma mb) :=
 JE.of (abe ho ha hb) fun σ H Q h=>zuw h
def Yk(ho:eO X (compareOp op) (rM X g))(ha:JE X a ma)(hb:JE X b mb)(hm:behindInMarks op b=false):JE X (.Compare a [op] [b] pos) (aF g ma mb) :=
 JE.of (QH ho ha hb hm) fun σ H Q h=>zuw h
def abv(ho:TF X (unaryOp op) (rM1 X g))(ha:JE X a ma):JE X (.UnaryOp op a pos) (wA g ma):=by
 refine JE.of (abb ho ha) fun σ H Q zz=>?_;obtain⟨μ,env,st,he,hs,hp⟩:=zz;refine⟨μ,env,st,he,hs,hp.bind.imp λx H1 zz=>?_⟩;obtain⟨μ1,st1,d,g1,bJ,hx,aQ⟩:=zz;exact⟨μ1,st1,d,bJ,hx,aQ⟩
noncomputable def dM(a:ME):MT:=λenv st=>(a env st).bind λx st1=>match x with | .bl b=>.ok b st1 | _=>.bad
def XD(ho:eO X (compareOp op) (rM X g))(ha:JE X a ma)(hb:JE X b mb)(hm:behindInMarks op b=false):JT X (.Compare a [op] [b] pos) (dM (aF g ma mb)):=by
 refine JT.of (Qi ho ha hb hm) fun σ H Q zz=>?_;obtain⟨μ,env,st,he,hs,hp⟩:=zz;refine zuw ⟨μ,env,st,he,hs,hp.bind.imp ?_⟩;rintro x H1 ⟨μ1,st1,d,g1,bJ,hx,aQ⟩;cases d with
 | bl b=>exact⟨b,aq.bu.mp hx,aQ.ret bJ rfl⟩
 | _=>exact aQ.elim
noncomputable def jh:D->ak->Option Bool
 | .non,_=>some false
 | .bl b,_=>some b
 | .int i,_=>some (i != 0)
 | .str cs,_=>if cs.length<=1000000 then some (!cs.isEmpty) else none
 | .tup ds,_=>some (!ds.isEmpty)
 | .loc n,st=>match st[n]? with
  | some (.lst ds)=>some (!ds.isEmpty)
  | some (.frz ds)=>some (!ds.isEmpty)
  | _=>none
noncomputable def lu(a:ME):MT:=λenv st=>(a env st).bind λx st1=>match jh x st1 with | some b=>.ok b st1 | none=>.bad
def yV(h:n<=1000000):n<=sizeLine:=g_ h 0x5
def aX.lst{K:PySem.W.Frag}{μ:List Addr}{H:Hp}{st:ak}{n:Nat}{ds:List D}(h:aX K μ H st)(e:st[n]? = some (.lst ds)):∃p xs,μ[n]? = some p/\H p=some (.lst xs)/\ao K μ H ds xs:=by
 obtain⟨p,h1,xs,h2,h3⟩:=h.at_ n _ e;exact⟨p,xs,h1,h2,h3⟩
noncomputable def aA(st:ak)(n:Nat):Option (List D):=match st[n]? with
 | some (.lst ds)=>some ds
 | some (.frz ds)=>some ds
 | _=>none
def aX.items{K:PySem.W.Frag}{μ:List Addr}{H:Hp}{st:ak}{n:Nat}{ds:List D}(h:aX K μ H st)(e:aA st n=some ds):∃p xs,μ[n]? = some p/\oN K H p xs/\ao K μ H ds xs:=by
 unfold aA at e
 split at e
 ·rename_i es q;cases e;obtain⟨p,xs,h1,h2,h3⟩:=h.lst q;exact⟨p,xs,h1,oN.of h2,h3⟩
 ·rename_i es q;cases e;obtain⟨p,h1,xs,h2,h3⟩:=h.at_ n _ q;exact⟨p,xs,h1,h2.sqL,h3⟩
 ·cases e
def ao.isEmpty(h:ao K μ H ds xs):ds.isEmpty=xs.isEmpty:=by
 have:=h.length;cases ds<;>cases xs<;>simp_all
def Bx{d:D}{st:ak}{b:Bool}{μ:List Addr}{H:Hp}{v:V}(h:jh d st=some b)(hs:aX X.K μ H st)(hv:aq X.K μ H d v):TJ X.K v H b:=by
 cases d with
 | non=>rw[aq.bK]at hv;subst hv;cases h;rfl
 | bl c=>rw[aq.bu]at hv;subst hv;cases h;rfl
 | int i=>rw[aq.aN]at hv;subst hv;cases h;rfl
 | str cs =>
  rw[aq.aP]at hv;subst hv;simp only[jh]at h
  split at h
  ·rename_i hl;cases h;have e:0xa.length=cs.length:=by simp[Str.length,strOf]
   refine⟨by rw[e];exact yV hl,?_⟩;rw[e];cases cs<;>simp;omega
  ·cases h
 | tup ds =>
  rw[aq.aU]at hv;obtain⟨a,xs,rfl,h1,h2⟩:=hv;cases h;exact .inr (.inl ⟨xs,h1.rC,by rw[h2.isEmpty]⟩)
 | loc n =>
  rw[aq.aL]at hv;obtain⟨a,h1,rfl⟩:=hv;have key:∃ds,aA st n=some ds/\b=!ds.isEmpty:=by
   unfold aA;simp only[jh]at h
   split at h
   ·rename_i q;cases h;exact⟨_,rfl,rfl⟩
   ·rename_i q;cases h;exact⟨_,rfl,rfl⟩
   ·cases h
  obtain⟨ds,q,rfl⟩:=key;obtain⟨p,xs,h3,h4,h5⟩:=hs.items q;rw[h1]at h3;cases h3;exact .inl ⟨xs,h4,by rw[h5.isEmpty]⟩
def Kr(ha:JE X a ma)(he:∀whole,isTrue a X.env whole=(do let v <-whole;standAt a.pos;holding [v] (truthy v)):=by intro _;rfl):JT X a (lu ma):=by
 refine JT.of (Jg ha he) fun σ H Q zz=>?_;show 1;show 4;cases e:jh d st1 with
 | none=>simp only[e]at aQ;exact aQ.elim
 | some b=>simp only[e]at aQ;exact⟨b,Bx e bJ hx,aQ.ret bJ rfl⟩
def JW(X:Cx)(e:Expr)(m:MT):Prop:=PW X e (tMT X m)
def JW.jt(h:JW X e m):JT X e m:=PW.pt h
def JW.of{t:TT}{m:MT}(h:PW X e t)(k:∀σ H Q,tMT X m σ H Q->t σ H Q):JW X e m:=λw pins s σ H Q I q=>h w pins s σ H Q I (k σ H Q q)
noncomputable def jC(a b:MT):MT:=λenv st=>(a env st).bind λx st1=>if x then b env st1 else .ok false st1
noncomputable def Oa(a b:MT):MT:=λenv st=>(a env st).bind λx st1=>if x then .ok true st1 else b env st1
noncomputable def vJ(a:MT):MT:=λenv st=>(a env st).bind λx st1=>.ok (!x) st1
variable  {ta tb tc:MT}{rest:List Expr}
def Rg(ha:JT X a ta):JW X (.BoolOp .And [a] pos) ta:=Qf ha
def Xz(ha:JT X a ta):JW X (.BoolOp .Or [a] pos) ta:=Wk ha
def Kq(ha:JT X a ta)(hb:JW X (.BoolOp .And (b::rest) pos) tb):JW X (.BoolOp .And (a::b::rest) pos) (jC ta tb):=by
 refine JW.of (Wm ha hb) fun σ H Q zz=>?_;show 1;refine⟨μ,env,st,hE,hs,hp.bind.imp ?_⟩;rintro x H1 ⟨μ1,st1,d,g1,bJ,rfl,aQ⟩;cases d with
 | true=>exact yq ⟨μ1,env,st1,hE.mono g1,bJ,aQ⟩
 | false=>exact yr (aQ.ret bJ rfl)
def Ux(ha:JT X a ta)(hb:JW X (.BoolOp .Or (b::rest) pos) tb):JW X (.BoolOp .Or (a::b::rest) pos) (Oa ta tb):=by
 refine JW.of (aa6 ha hb) fun σ H Q zz=>?_;show 1;refine⟨μ,env,st,hE,hs,hp.bind.imp ?_⟩;rintro x H1 ⟨μ1,st1,d,g1,bJ,rfl,aQ⟩;cases d with
 | true=>exact yq (aQ.ret bJ rfl)
 | false=>exact yr ⟨μ1,env,st1,hE.mono g1,bJ,aQ⟩
def XC(ha:JT X a ta):JT X (.UnaryOp .Not a pos) (vJ ta):=by
 refine JT.of (Wn ha) fun σ H Q zz=>?_;show 1;refine⟨μ,env,st,hE,hs,hp.bind.imp ?_⟩;rintro x H1 ⟨μ1,st1,d,g1,bJ,rfl,aQ⟩;exact aQ.ret bJ rfl
noncomputable def yK(a b:ME):ME:=λenv st=>(a env st).bind λx st1=>match x with | .bl true=>b env st1 | .bl false=>.ok (.bl false) st1 | _=>.bad
noncomputable def orV(a b:ME):ME:=λenv st=>(a env st).bind λx st1=>match x with | .bl true=>.ok (.bl true) st1 | .bl false=>b env st1 | _=>.bad
noncomputable def J1(a:ME):ME:=λenv st=>(a env st).bind λx st1=>match x with | .bl c=>.ok (.bl (!c)) st1 | _=>.bad
def X_{op}(h:JE X a m):JE X (.BoolOp op [a] pos) m:=WM h
def Yl(ha:JE X a ma)(hb:JE X (.BoolOp .And (b::rest) pos) mb):JE X (.BoolOp .And (a::b::rest) pos) (yK ma mb):=by
 refine JE.of (W5 ha hb) fun σ H Q zz=>?_;show 1;show 4;cases d with
 | bl c =>
  refine⟨c,aq.bu.mp hx,?_⟩;cases c with
  | true=>exact yq ⟨μ1,env,st1,hE.mono g1,bJ,aQ⟩
  | false=>exact yr (aQ.ret bJ (aq.bu.mpr rfl))
 | _=>exact aQ.elim
def abw(ha:JE X a ma)(hb:JE X (.BoolOp .Or (b::rest) pos) mb):JE X (.BoolOp .Or (a::b::rest) pos) (orV ma mb):=by
 refine JE.of (abd ha hb) fun σ H Q zz=>?_;show 1;show 4;cases d with
 | bl c =>
  refine⟨c,aq.bu.mp hx,?_⟩;cases c with
  | true=>exact yq (aQ.ret bJ (aq.bu.mpr rfl))
  | false=>exact yr ⟨μ1,env,st1,hE.mono g1,bJ,aQ⟩
 | _=>exact aQ.elim
def Yb(ha:JE X a ma):JE X (.UnaryOp .Not a pos) (J1 ma):=by
 refine JE.of (WN ha) fun σ H Q zz=>?_;show 1;show 4;cases d with
 | bl c=>exact⟨c,aq.bu.mp hx,aQ.ret bJ (aq.bu.mpr rfl)⟩
 | _=>exact aQ.elim
noncomputable def Hn(c:MT)(a b:ME):ME:=λenv st=>(c env st).bind λx st1=>if x then a env st1 else b env st1
def aby(hc:JT X c tc)(ha:JE X a ma)(hb:JE X b mb):JE X (.IfExp c a b pos) (Hn tc ma mb):=by
 refine JE.of (Jv hc ha hb) fun σ H Q zz=>?_;show 1;refine⟨μ,env,st,hE,hs,hp.bind.imp ?_⟩;rintro x H1 ⟨μ1,st1,d,g1,bJ,rfl,aQ⟩;cases d with
 | true=>exact yq ⟨μ1,env,st1,hE.mono g1,bJ,aQ⟩
 | false=>exact yr ⟨μ1,env,st1,hE.mono g1,bJ,aQ⟩
noncomputable def au:MA:=λ_ st=>.ok [] st
noncomputable def aj(a:ME)(r:MA):MA:=λenv st=>(a env st).bind λx st1=>(r env st1).bind λxs st2=>.ok (x::xs) st2
def Zx:JA X [] au:=by
 refine JA.of An fun σ H Q zz=>?_;show 1;exact hp.ret hs ao.nil
def Vn{e:Expr}{es:List Expr}{m:ME}{mA:MA}(h:JE X e m)(hr:JA X es mA)(hs:starEach (e::es) X.env=0xd::starEach es X.env:=by rfl):JA X (e::es) (aj m mA):=by
 refine JA.of (zmg h hr hs) fun σ H Q zz=>?_;show 1;show 4;refine⟨μ1,env,st1,hE.mono g1,bJ,aQ.bind.imp ?_⟩;rintro xs H2 ⟨μ2,st2,ds,g2,iQ,j7,d_⟩;exact d_.ret iQ (ao.cons (hx.mono g2 _) j7)
noncomputable def fD(m:MA):ME:=λenv st=>(m env st).bind λds st1=>if ds.length<=1000000 then .ok (.tup ds) st1 else .bad
noncomputable def eQ(m:MA):ME:=λenv st=>(m env st).bind λds st1=>if ds.length<=1000000 then .ok (.loc st1.length) (st1++[.lst ds]) else .bad
def XR{x1}(h:JA X es mA):JE X (.Tuple es x1 pos) (fD mA):=by
 refine JE.of (WD h) fun σ H Q zz=>?_;show 1;refine⟨μ,env,st,hE,hs,hp.bind.imp ?_⟩;rintro xs H1 ⟨μ1,st1,ds,g1,bJ,j7,aQ⟩;dsimp only at aQ
 split at aQ
 ·rename_i hl;refine⟨by rw[<-j7.length];exact yV hl,λp hn=>?_⟩;exact aQ _ _ μ1 (bj.lay hn) (bJ.lay hn) (aq.aU.mpr ⟨p,xs,rfl,.inl qQ,j7.mono (bj.lay hn) _⟩)
 ·exact aQ.elim
def bR.newList(h:bR X μ H (lX X) Q (.ok 0x2 (st++[.lst ds])))(hs:aX X.K μ H st)(hx:ao X.K μ H ds xs)(hn:H p=none) :
  Q (.ref p) #[15,p,xs]:=by
 have g:bj μ H (μ++[p]) #[15,p,xs]:=bj.new hn;refine h _ _ (μ++[p]) g (hs.new hn ⟨xs,qQ,hx.mono g _⟩) (aq.aL.mpr ⟨p,?_,rfl⟩);rw[<-hs.len];simp
def Yd(h:JA X es mA):JE X (.List es pos) (eQ mA):=by
 refine JE.of (WR h) fun σ H Q zz=>?_;show 1;refine⟨μ,env,st,hE,hs,hp.bind.imp ?_⟩;rintro xs H1 ⟨μ1,st1,ds,g1,bJ,j7,aQ⟩;dsimp only at aQ
 split at aQ
 ·rename_i hl;exact⟨by rw[<-j7.length];exact yV hl,λp hn=>aQ.newList bJ j7 hn⟩
 ·exact aQ.elim
end
section
variable  {X:Cx}{e a b c:Expr}{es:List Expr}{t:TE}{ma mb mc:ME}{mA:MA}{pos:Pos}
def zgl(cs:List Nat):0xa.length=cs.length:=by simp[Str.length,strOf]
def Et(a b:List Nat):strOf a++strOf b=strOf (a++b):=by
 show Str.append _ _=_;simp[Str.append,strOf]
def zps{a b:List Nat}:strOf a=strOf b↔a=b:=by
 constructor
 ·intro h;have:=congrArg (λs:Str=>s.cps.toList) h;simpa[strOf] using this
 ·intro h;rw[h]
noncomputable def bD:D->D->ak->R D
 | .int i,.int j,st=>.ok (.int (i+j)) st
 | .str a,.str b,st=>if a.length+b.length<=1000000 then .ok (.str (a++b)) st else .bad
 | .tup a,.tup b,st=>if a.length+b.length<=1000000 then .ok (.tup (a++b)) st else .bad
 | .loc m,.loc n,st=>match st[m]?,st[n]? with
  | some (.lst a),some (.lst b)=>if a.length+b.length<=1000000 then .ok 0x2 (st++[.lst (a++b)]) else .bad
  | _,_=>.bad
 | _,_,_=>.bad
def Cv:eO X (binaryOp .Add) (rM X bD):=by
 refine eO.weak (eO.or Xb (eO.or ztn (eO.or QV (eO.or JR Xa)))) ?_;rintro x y H Q ⟨μ,st,dx,dy,hs,hx,hy,hp⟩;cases dx with
 | int i =>
  cases dy with
  | int j =>
   rw[aq.aN]at hx hy;subst hx hy;exact .inl ⟨i,j,rfl,rfl,hp.ret hs (aq.aN.mpr rfl)⟩
  | _=>exact hp.elim
 | str i =>
  cases dy with
  | str j =>
   rw[aq.aP]at hx hy;subst hx hy;simp only[bD]at hp
   split at hp
   ·rename_i hl;refine .inr (.inl ⟨_,_,rfl,rfl,?_,?_⟩)
    ·rw[zgl,zgl];exact yV hl
    ·rw[Et];exact hp.ret hs (aq.aP.mpr rfl)
   ·exact hp.elim
  | _=>exact hp.elim
 | tup i =>
  cases dy with
  | tup j =>
   rw[aq.aU]at hx hy;obtain⟨p,xs,rfl,h1,h2⟩:=hx;obtain⟨q,ys,rfl,h3,h4⟩:=hy;simp only[bD]at hp
   split at hp
   ·rename_i hl;by_cases hx0:xs=[]
    ·subst hx0;have hi:i=[]:=by have:=h2.length;simpa using this
     subst hi;exact .inr (.inr (.inr (.inl ⟨p,q,ys,rfl,rfl,h1.rC,h3.rC,hp.ret hs (aq.aU.mpr ⟨q,ys,rfl,h3,h4⟩)⟩)))
    ·refine .inr (.inr (.inl ⟨p,q,xs,ys,rfl,rfl,h1.rC,h3.rC,hx0,by rw[<-h2.length,<-h4.length];exact yV hl,λhy0=>?_,λ_ r hr=>?_⟩))
     ·subst hy0;have hj:j=[]:=by have:=h4.length;simpa using this
      subst hj;exact hp.ret hs (aq.aU.mpr ⟨p,xs,rfl,by rw[gr];exact h1,by rw[gr];exact h2⟩)
     ·exact hp _ _ μ (bj.lay hr) (hs.lay hr) (aq.aU.mpr ⟨r,_,rfl,.inl qQ,(h2.append h4).mono (bj.lay hr) _⟩)
   ·exact hp.elim
  | _=>exact hp.elim
 | loc m =>
  cases dy with
  | loc n =>
   rw[aq.aL]at hx hy;obtain⟨p,h1,rfl⟩:=hx;obtain⟨q,h2,rfl⟩:=hy;simp only[bD]at hp
   split at hp
   ·rename_i da db e1 e2
    split at hp
    ·rename_i hl;obtain⟨p',xs,h3,h4,h5⟩:=hs.lst e1;obtain⟨q',ys,h6,h7,h8⟩:=hs.lst e2;rw[h1]at h3;cases h3;rw[h2]at h6;cases h6;exact .inr (.inr (.inr (.inr ⟨p,q,xs,ys,rfl,rfl,h4,h7,by rw[<-h5.length,<-h8.length];exact yV hl,λr hr=>hp.newList hs (h5.append h8) hr⟩)))
    ·exact hp.elim
   ·exact hp.elim
  | _=>exact hp.elim
 | _=>exact hp.elim
noncomputable def pZ(C:Int->Int->Prop)[∀i j,Decidable (C i j)](g:Int->Int->D):D->D->ak->R D
 | .int i,.int j,st=>if C i j then .ok (g i j) st else .bad
 | _,_,_=>.bad
def Vl[∀i j,Decidable (C i j)](h:eO X f (rI C gv))(hg:∀i j μ H,aq X.K μ H (g i j) (gv i j)):eO X f (rM X (pZ C g)):=by
 refine eO.weak h ?_;rintro x y H Q ⟨μ,st,dx,dy,hs,hx,hy,hp⟩;cases dx with
 | int i =>
  cases dy with
  | int j =>
   rw[aq.aN]at hx hy;subst hx hy;simp only[pZ]at hp
   split at hp
   ·rename_i hc;exact⟨i,j,rfl,rfl,hc,hp.ret hs (hg i j μ H)⟩
   ·exact hp.elim
  | _=>exact hp.elim
 | _=>exact hp.elim
def eO.top(h:eO X f (Uo gv)):eO X f (rI (λ_ _=>True) gv):=by
 refine eO.weak h λx y H Q zz=>?_;obtain⟨i,j,a,b,_,q⟩:=zz;exact⟨i,j,a,b,q⟩
noncomputable def xX:D->D->ak->R D:=pZ (λ_ _=>True) λi j=>.int (i - j)
def QQ:eO X (binaryOp .Sub) (rM X xX):=Vl (eO.top W7) λi j μ H=>aq.aN.mpr rfl
noncomputable def oh:D->D->ak->R D:=pZ (λi j=>(-(2 ^ 64)<i/\i<2 ^ 64)\/(-(2 ^ 64)<j/\j<2 ^ 64)) λi j=>.int (i*j)
def QS:eO X (binaryOp .Mult) (rM X oh):=Vl (eO.weak W8 λx y H Q h=>h) λi j μ H=>aq.aN.mpr rfl
noncomputable def uh:D->D->ak->R D:=pZ (λ_ j=>0<j/\j<2 ^ 64) λi j=>.int (i / j)
def JN:eO X (binaryOp .FloorDiv) (rM X uh):=Vl JM λi j μ H=>aq.aN.mpr rfl
noncomputable def pX:D->D->ak->R D:=pZ (λ_ j=>0<j) λi j=>.int (i % j)
def QT:eO X (binaryOp .Mod) (rM X pX):=Vl W9 λi j μ H=>aq.aN.mpr rfl
noncomputable def ltV:D->D->ak->R D:=pZ (λ_ _=>True) λi j=>.bl (decide (i<j))
def JF:eO X (compareOp .Lt) (rM X ltV):=Vl (eO.top abi) λi j μ H=>aq.bu.mpr rfl
noncomputable def Xq:D->D->ak->R D:=pZ (λ_ _=>True) λi j=>.bl (decide (i<=j))
def JH:eO X (compareOp .LtE) (rM X Xq):=Vl (eO.top abj) λi j μ H=>aq.bu.mpr rfl
noncomputable def Y5:D->D->ak->R D:=pZ (λ_ _=>True) λi j=>.bl (decide (j<i))
def JK:eO X (compareOp .Gt) (rM X Y5):=Vl (eO.top abk) λi j μ H=>aq.bu.mpr rfl
noncomputable def wU:D->ak->R D
 | .int i,st=>.ok (.int (-i)) st
 | _,_=>.bad
def O7:TF X (unaryOp .USub) (rM1 X wU):=by
 refine TF.weak VR ?_;rintro x H Q ⟨μ,st,dx,hs,hx,hp⟩;cases dx with
 | int i=>rw[aq.aN]at hx;subst hx;exact⟨i,rfl,hp.ret hs (aq.aN.mpr rfl)⟩
 | _=>exact hp.elim
noncomputable def bN:D->D->ak->R D
 | .non,.non,st=>.ok (.bl true) st
 | _,.non,st=>.ok (.bl false) st
 | _,_,_=>.bad
noncomputable def lZ:D->D->ak->R D
 | .non,.non,st=>.ok (.bl false) st
 | _,.non,st=>.ok (.bl true) st
 | _,_,_=>.bad
def aq.xH(h:aq K μ H d v):decide (v=.non)=(match d with | .non=>true | _=>false):=by
 cases d with
 | non=>rw[aq.bK]at h;subst h;rfl
 | bl b=>rw[aq.bu]at h;subst h;rfl
 | int b=>rw[aq.aN]at h;subst h;rfl
 | str b=>rw[aq.aP]at h;subst h;rfl
 | tup b=>rw[aq.aU]at h;obtain⟨_,_,rfl,_⟩:=h;rfl
 | loc b=>rw[aq.aL]at h;obtain⟨_,_,rfl⟩:=h;rfl
def zlx:eO X (compareOp .Is) (rM X bN):=by
 refine eO.weak W_ ?_;rintro x y H Q ⟨μ,st,dx,dy,hs,hx,hy,hp⟩;cases dy with
 | non =>
  rw[aq.bK]at hy;refine⟨hy,?_⟩;rw[hx.xH];cases dx<;>exact hp.ret hs (aq.bu.mpr rfl)
 | _=>cases dx<;>exact hp.elim
def zj8:eO X (compareOp .IsNot) (rM X lZ):=by
 refine eO.weak QR ?_;rintro x y H Q ⟨μ,st,dx,dy,hs,hx,hy,hp⟩;cases dy with
 | non =>
  rw[aq.bK]at hy;refine⟨hy,?_⟩;rw[hx.xH];cases dx<;>exact hp.ret hs (aq.bu.mpr rfl)
 | _=>cases dx<;>exact hp.elim
noncomputable def aV:D->D->ak->R D
 | .loc n,.int i,st=>match (aA st n).bind λds=>qj ds i with | some d=>.ok d st | none=>.bad
 | .tup ds,.int i,st=>match qj ds i with | some d=>.ok d st | none=>.bad
 | .str cs,.int i,st=>if cs.length<=1000000 then (match qj cs i with | some c=>.ok (.str [c]) st | none=>.bad) else .bad
 | _,_,_=>.bad
def ao.qj(h:ao K μ H ds xs)(e:L2.qj ds i=some d):∃v,L2.qj xs i=some v/\aq K μ H d v:=by
 unfold L2.qj at e ⊢;rw[<-h.length];cases q:z_ ds.length i with
 | none=>rw[q]at e;cases e
 | some j =>
  rw[q]at e;exact h.get (by simpa using e)
def adZ:DG X (rM X aV):=by
 refine DG.weak Yn ?_;rintro x y H Q ⟨μ,st,dx,dy,hs,hx,hy,hp⟩;cases dy with
 | int i =>
  rw[aq.aN]at hy;subst hy;cases dx with
  | loc n =>
   rw[aq.aL]at hx;obtain⟨p,h1,rfl⟩:=hx;simp only[aV]at hp;cases e:aA st n with
   | none=>rw[e]at hp;exact hp.elim
   | some ds =>
    rw[e]at hp;cases e2:L2.qj ds i with
    | none=>simp only[mW,e2]at hp;exact hp.elim
    | some d =>
     simp only[mW,e2]at hp;obtain⟨p',xs,h3,h4,h5⟩:=hs.items e;rw[h1]at h3;cases h3;obtain⟨v,h6,h7⟩:=h5.qj e2;exact .inl ⟨p,xs,i,v,rfl,rfl,h4,h6,hp.ret hs h7⟩
  | tup ds =>
   rw[aq.aU]at hx;obtain⟨p,xs,rfl,h1,h2⟩:=hx;simp only[aV]at hp;cases e2:L2.qj ds i with
   | none=>simp only[e2]at hp;exact hp.elim
   | some d =>
    simp only[e2]at hp;obtain⟨v,h6,h7⟩:=h2.qj e2;exact .inr (.inl ⟨p,xs,i,v,rfl,rfl,h1.rC,h6,hp.ret hs h7⟩)
  | str cs =>
   rw[aq.aP]at hx;subst hx;simp only[aV]at hp
   split at hp
   ·rename_i hl;cases e2:L2.qj cs i with
    | none=>simp only[e2]at hp;exact hp.elim
    | some c =>
     simp only[e2]at hp;exact .inr (.inr ⟨_,i,c,rfl,rfl,by rw[zgl];exact yV hl,by simpa[strOf] using e2,hp.ret hs (aq.aP.mpr rfl)⟩)
   ·exact hp.elim
  | _=>exact hp.elim
 | _=>cases dx<;>exact hp.elim
def abx(ha:JE X a ma)(hb:JE X b mb)(hs:Dz b:=by exact λ_ _=>rfl):JE X (.Subscript a b pos) (aF aV ma mb) :=
 JE.of (abf adZ ha hb hs) fun σ H Q h=>zuw h
end
section
variable  {X:Cx}{e a b c:Expr}{es:List Expr}{t:TE}{ma mb mc:ME}{mA:MA}{pos p2:Pos}
noncomputable def cut{α:Type}(xs:List α)(lo hi:Option Int):List α:=(xs.drop (HT.cW xs.length 0 lo)).take (HT.cW xs.length xs.length hi - HT.cW xs.length 0 lo)
def ao.cut{K:PySem.W.Frag}{μ:List Addr}{H:Hp}{ds:List D}{xs:List V}(h:ao K μ H ds xs)(lo hi:Option Int):ao K μ H (M.cut ds lo hi) (zO xs lo hi):=by
 unfold M.cut zO;rw[<-h.length];exact (h.drop _).take _
def GF{α:Type}{xs:List α}{lo hi:Option Int}(h:HT.cW xs.length 0 lo=0/\HT.cW xs.length xs.length hi=xs.length):cut xs lo hi=xs:=by
 unfold cut;rw[h.1,h.2];simp
def EY(i j:Nat):sliceRange (i:Int) (j:Int) 1=(List.range (j - i)).map λk=>i+k:=by
 unfold sliceRange;simp only[show (1:Int) > 0 by decide,if_true];have e:(if (i:Int)<(j:Int) then ((j:Int) - (i:Int)+1 - 1) / 1 else 0).toNat=j - i:=by
  split
  ·rw[Int.ediv_one];omega
  ·omega
 rw[e];refine kE λk _=>?_;omega
def Py(lo hi:Option Int)(n:Nat):Builtin.Str.strSliceIndices lo hi 1 n=(List.range (HT.cW n n hi - HT.cW n 0 lo)).map λk=>HT.cW n 0 lo+k:=by
 rw[<-EY];unfold Builtin.Str.strSliceIndices;simp only[show (1:Int) > 0 by decide,if_true];congr 1
 ·cases lo with
  | none=>rfl
  | some v =>
   show max 0 (min (if v<0 then v+(n:Int) else v) (n:Int))=((if v<0 then (v+(n:Int)).toNat else min v.toNat n:Nat):Int)
   split<;>omega
 ·cases hi with
  | none=>rfl
  | some v =>
   show max 0 (min (if v<0 then v+(n:Int) else v) (n:Int))=((if v<0 then (v+(n:Int)).toNat else min v.toNat n:Nat):Int)
   split<;>omega
def Jp(cs:List Nat)(i k:Nat):((List.range k).map λm=>i+m).filterMap (λm=>cs[m]?)=(cs.drop i).take k:=by
 induction k generalizing i with
 | zero=>simp
 | succ k ih =>
  rw[List.range_succ_eq_map,gq,p6,gJ];have e:((λm=>i+m)∘Nat.succ)=λm=>(i+1)+m:=by funext m;simp;omega
  rw[e,ih (i+1)];cases q:cs[i]? with
  | none =>
   have hl:cs.length<=i:=List.getElem?_eq_none_iff.mp q;simp[q,nA hl,nA (Nat.le_succ_of_le hl)]
  | some c =>
   have hl:=(gf.mp q).1;have hc:=(gf.mp q).2;simp[q,mX hl,hc]
def Ex(cs:List Nat)(lo hi:Option Int):Txt.slice 0xa lo hi=strOf (cut cs lo hi):=by
 have e:0xa.length=cs.length:=by simp[Str.length,strOf]
 unfold Txt.slice;rw[e,Py];have hj:HT.cW cs.length cs.length hi<=cs.length:=HT.Il _ _ (gb _) hi;have q:((List.range (HT.cW cs.length cs.length hi - HT.cW cs.length 0 lo)).map λk=>HT.cW cs.length 0 lo+k).filterMap (λm=>0xa.cps[m]?)=cut cs lo hi:=by
  have:(λ(m:Nat)=>0xa.cps[m]?)=λ(m:Nat)=>cs[m]?:=by funext m;simp[strOf]
  rw[this,Jp];rfl
 split
 ·rename_i h;rw[gG]at h;have h2:HT.cW cs.length cs.length hi - HT.cW cs.length 0 lo=cs.length:=by simpa using h.2
  have h3:cut cs lo hi=cs:=by
   unfold cut;rw[h2];by_cases hz:cs.length=0
   ·have:cs=[]:=nR.mp hz;subst this;simp
   ·have:HT.cW cs.length 0 lo=0:=by omega
    rw[this];simp
  rw[h3]
 ·rw[q]
noncomputable def xY:D->Option Int->Option Int->ak->R D
 | .loc n,lo,hi,st=>match aA st n with | some ds=>.ok 0x2 (st++[.lst (cut ds lo hi)]) | none=>.bad
 | .tup ds,lo,hi,st=>.ok (.tup (cut ds lo hi)) st
 | .str cs,lo,hi,st=>if cs.length<=1000000 then .ok (.str (cut cs lo hi)) st else .bad
 | _,_,_,_=>.bad
def rMS(X:Cx)(g:D->Option Int->Option Int->ak->R D):V->Option Int->Option Int->Hp->VK->Prop:=λx lo hi H Q=>∃μ st dx,aX X.K μ H st/\aq X.K μ H dx x/\bR X μ H (lX X) Q (g dx lo hi st)
def adB:V->Option Int->Option Int->Hp->VK->Prop:=λx lo hi H Q=>∃cs,x=.str 0xa/\cs.length<=sizeLine/\Q (.str (strOf (cut cs lo hi))) H
def V9:zT X adB:=by
 intro pins s σ H x v vl vu lo hi sl Q I rx hs pl pu h;obtain⟨cs,rfl,hz,q⟩:=h;obtain⟨t,rfl⟩:=rx;obtain⟨l,el,ml⟩:∃l:Option (Int×Tok),vl=partValue l/\l.map (·.1)=lo:=by
  cases pl with
  | none=>exact⟨none,rfl,rfl⟩
  | int i u=>exact⟨some (i,u),rfl,rfl⟩
 obtain⟨u,eu,mu⟩:∃l:Option (Int×Tok),vu=partValue l/\l.map (·.1)=hi:=by
  cases pu with
  | none=>exact⟨none,rfl,rfl⟩
  | int i u=>exact⟨some (i,u),rfl,rfl⟩
 subst el eu;have lH:s.heap.IsSlice sl l u none:=hs;refine⟨"str",_,F.slot_str_getitem.lookup,afX _ _ _,wpAny_getItem_str_slice (l:=l) (u:=u) (st:=none) lH rfl ?_⟩;have e:Txt.slice 0xa lo hi=strOf (cut cs lo hi):=Ex cs lo hi;unfold Txt.slice at e;unfold sliceMade slicePicked;rw[ml,mu]
 split
 ·rename_i h;have h':((1:Int)==1 && (Builtin.Str.strSliceIndices lo hi 1 0xa.length).length==0xa.length)=true:=h;rw[afn h']at e;exact⟨.str 0xa,H,I,⟨t,rfl⟩,by rw[<-e]at q;exact q⟩
 ·rename_i h;have h':¬ ((1:Int)==1 && (Builtin.Str.strSliceIndices lo hi 1 0xa.length).length==0xa.length)=true:=h;rw[afo h']at e;have e':({ cps:=((Builtin.Str.strSliceIndices lo hi ((Option.map (·.1) (none:Option (Int×Tok))).getD 1) 0xa.length).filterMap λx=>0xa.cps[x]?).toArray }:Str)=strOf (cut cs lo hi):=e;rw[e'];refine⟨?_,.str (strOf (cut cs lo hi)),H,I.tok _,⟨_,rfl⟩,q⟩;have:(strOf (cut cs lo hi)).length=(cut cs lo hi).length:=by simp[Str.length,strOf]
  rw[this];refine g_ ?_ hz;unfold cut;rw[km,mL];omega
def ac4:zT X (rMS X xY):=by
 refine zT.weak (zT.or Pn (zT.or V8 (zT.or Pk V9))) ?_;rintro x lo hi H Q ⟨μ,st,dx,hs,hx,hp⟩;cases dx with
 | loc n =>
  rw[aq.aL]at hx;obtain⟨p,h1,rfl⟩:=hx;simp only[xY]at hp;cases e:aA st n with
  | none=>rw[e]at hp;exact hp.elim
  | some ds =>
   rw[e]at hp;obtain⟨p',xs,h3,h4,h5⟩:=hs.items e;rw[h1]at h3;cases h3;exact .inl ⟨p,xs,rfl,h4,λq hq=>hp.newList hs (h5.cut lo hi) hq⟩
 | tup ds =>
  rw[aq.aU]at hx;obtain⟨p,xs,rfl,h1,h2⟩:=hx;by_cases hw:HT.cW xs.length 0 lo=0/\HT.cW xs.length xs.length hi=xs.length
  ·refine .inr (.inr (.inl ⟨p,xs,rfl,h1.rC,hw,hp.ret hs ?_⟩));rw[<-h2.length]at hw;rw[GF hw];exact aq.aU.mpr ⟨p,xs,rfl,h1,h2⟩
  ·exact .inr (.inl ⟨p,xs,rfl,h1.rC,hw,λq hq=>hp _ _ μ (bj.lay hq) (hs.lay hq) (aq.aU.mpr ⟨q,_,rfl,.inl qQ,(h2.cut lo hi).mono (bj.lay hq) _⟩)⟩)
 | str cs =>
  rw[aq.aP]at hx;subst hx;simp only[xY]at hp
  split at hp
  ·rename_i hl;exact .inr (.inr (.inr ⟨cs,rfl,yV hl,hp.ret hs (aq.aP.mpr rfl)⟩))
  ·exact hp.elim
 | _=>exact hp.elim
noncomputable def Ob:MP:=λ_ st=>.ok none st
noncomputable def Oe(m:ME):MP:=λenv st=>(m env st).bind λx st1=>match x with | .int i=>.ok (some i) st1 | _=>.bad
def Ri:JP X none Ob:=by
 refine JP.of Qo fun σ H Q zz=>?_;show 1;exact hp.ret hs rfl
def Rh(h:JE X e m):JP X (some e) (Oe m):=by
 refine JP.of (Qn h) fun σ H Q zz=>?_;show 1;show 4;cases d with
 | int i=>exact⟨i,aq.aN.mp hx,aQ.ret bJ rfl⟩
 | _=>exact aQ.elim
noncomputable def Ey(a:ME)(l h:MP):ME:=λenv st=>(a env st).bind λx st1=>(l env st1).bind λlo st2=>(h env st2).bind λhi iu=>xY x lo hi iu
def KH(he:JE X e ma)(hl:JP X lo ml)(hu:JP X hi mh):JE X (.Subscript e (.Slice lo hi none p2) pos) (Ey ma ml mh):=by
 refine JE.of (Ju ac4 he hl hu) fun σ H Q zz=>?_;show 1;show 4;refine⟨μ1,env,st1,hE.mono g1,bJ,aQ.bind.imp ?_⟩;rintro l H2 ⟨μ2,st2,l',g2,iQ,rfl,d_⟩;refine⟨μ2,env,st2,(hE.mono g1).mono g2,iQ,d_.bind.imp ?_⟩;rintro u H3 ⟨μ3,iu,u',g3,zE,rfl,Aa⟩;exact⟨μ3,iu,d,zE,hx.mono (g2.trans g3) _,Aa⟩
noncomputable def bh(g:List D->ak->R D)(mA:MA):ME:=λenv st=>(mA env st).bind λds st1=>g ds st1
def zu6(h:tM X (bh g mA) σ H Q):tMA X mA σ H λvs H1=>N_ X g vs H1 Q:=by
 obtain⟨μ,env,st,hE,hs,hp⟩:=h;refine⟨μ,env,st,hE,hs,hp.bind.imp ?_⟩;rintro xs H1 ⟨μ1,st1,ds,g1,bJ,hx,aQ⟩;exact⟨μ1,st1,ds,bJ,hx,aQ⟩
def KY{x:Str}{p:Pos}{id:String}{g:List D->ak->R D}(hc:cL X (.builtin id) (N_ X g))(hg:Gl X x)(hm:X.mg x=none)(hv:bootBuiltins x=some (.builtin id))(ha:JA X (e::es) mA)(hn:x ≠ "__name__":=by decide)(rQ:0xf=false:=by decide)
  (he:starEach (e::es) X.env=0xd::starEach es X.env:=by rfl) (p_:#[13,pos,es].any (·.1)=false:=by rfl):JE X 0x1a (bh g mA) :=
 JE.of (zt8 hc hg hm hv ha hn rQ he p_) fun σ H Q h=>zu6 h
def Ge{p:Pos}(hc:cL X (.type T) (N_ X g))(hg:Gl X x)(hm:X.mg x=none)(hv:bootBuiltins x=some (.type T))(ha:JA X (e::es) mA)(hn:x ≠ "__name__":=by decide)(rQ:0xf=false:=by decide) 
  (he:starEach (e::es) X.env=0xd::starEach es X.env:=by rfl) (p_:#[13,pos,es].any (·.1)=false:=by rfl):JE X 0x1a (bh g mA) :=
 JE.of (Fx hc hg hm hv ha hn rQ he p_) fun σ H Q h=>zu6 h
end
inductive Out where
 | nx (env:aK) | rt (d:D) | bk (env:aK) | cn (env:aK)
noncomputable abbrev MS:=aK->ak->R Out
def cJ(X:Cx)(μ:List Addr)(H:Hp)(E:Ends)(r:R Out):Prop:=match r with
 | .ok (.nx env) st=>∀(σ':L2.St) (H':Hp) (μ':List Addr),bj μ H μ' H'->aX X.K μ' H' st->d7 X.K μ' H' env σ'->E.nx σ' H'
 | .ok (.rt d) st=>∀(v:V) (H':Hp) (μ':List Addr),bj μ H μ' H'->aX X.K μ' H' st->aq X.K μ' H' d v->E.rt v H'
 | .ok (.bk env) st=>∀(σ':L2.St) (H':Hp) (μ':List Addr),bj μ H μ' H'->aX X.K μ' H' st->d7 X.K μ' H' env σ'->E.bk σ' H'
 | .ok (.cn env) st=>∀(σ':L2.St) (H':Hp) (μ':List Addr),bj μ H μ' H'->aX X.K μ' H' st->d7 X.K μ' H' env σ'->E.ct σ' H'
 | .err x st=>wz X μ H x st
 | .bad=>False
noncomputable def V2(X:Cx)(m:MS):TS:=λE σ H=>∃μ env st,d7 X.K μ H env σ/\aX X.K μ H st/\cJ X μ H E (m env st)
def JS(X:Cx)(s:Stmt)(m:MS):Prop:=PS X s (V2 X m)
def zY(X:Cx)(s:List Stmt)(m:MS):Prop:=zW X s (V2 X m)
section
variable  {X:Cx}{e a b c:Expr}{es:List Expr}{t:TE}{ma mb mc:ME}{mA:MA}{pos p2:Pos}{s:Stmt}{ss:List Stmt}{m m1 m2:MS}{μ μ1:List Addr}{H H1:Hp}{E E':Ends}{r:R Out}
def cJ.mono(g:bj μ H μ1 H1)(h:cJ X μ H E r):cJ X μ1 H1 E r:=by
 match r,h with
 | .ok (.nx _) _,h=>exact fun σ' H' μ' g'=>h σ' H' μ' (g.trans g')
 | .ok (.rt _) _,h=>exact fun σ' H' μ' g'=>h σ' H' μ' (g.trans g')
 | .ok (.bk _) _,h=>exact fun σ' H' μ' g'=>h σ' H' μ' (g.trans g')
 | .ok (.cn _) _,h=>exact fun σ' H' μ' g'=>h σ' H' μ' (g.trans g')
 | .err _ _,h=>exact wz.mono g h
 | .bad,h=>exact h
def JS.of{t:TS}(h:PS X s t)(k:∀E σ H,V2 X m E σ H->t E σ H):JS X s m:=λpins s σ H D I q=>h pins s σ H D I (k D σ H q)
def zY.of{t:TS}(h:zW X ss t)(k:∀E σ H,V2 X m E σ H->t E σ H):zY X ss m:=λpins s σ H D I q=>h pins s σ H D I (k D σ H q)
def cJ.nx{env:aK}{st:ak}{σ:L2.St}(h:cJ X μ H E (.ok (.nx env) st))(hs:aX X.K μ H st)(hE:d7 X.K μ H env σ):E.nx σ H:=h σ H μ (.refl _ _) hs hE
noncomputable def bB:MS:=λenv st=>.ok (.nx env) st
noncomputable def aC(a b:MS):MS:=λenv st=>(a env st).bind λo st1=>match o with | .nx env1=>b env1 st1 | o=>.ok o st1
noncomputable def retS(m:ME):MS:=λenv st=>(m env st).bind λd st1=>.ok (.rt d) st1
noncomputable def dF(m:ME):MS:=λenv st=>(m env st).bind λ_ st1=>.ok (.nx env) st1
noncomputable def fu(c:MT)(a b:MS):MS:=λenv st=>(c env st).bind λx st1=>if x then a env st1 else b env st1
noncomputable def ace:MS:=λenv st=>.ok (.bk env) st
def Ku:zY X [] bB:=by
 refine zY.of Qk λE σ H zz=>?_;show 1;exact hp.nx hs hE
def Kw:JS X (.Break pos) ace:=by
 refine JS.of Jj λE σ H zz=>?_;show 1;exact hp σ H μ (.refl _ _) hs hE
def DX(h:JS X s m):zY X [s] m:=Qj h
def cJ.seq(h:cJ X μ H E (r.bind λo st1=>match o with | .nx env1=>m2 env1 st1 | o=>.ok o st1)):cJ X μ H { E with nx:=V2 X m2 E } r:=by
 match r,h with
 | .ok (.nx env1) st1,h=>exact fun σ' H' μ' g hs hE=>⟨μ',env1,st1,hE,hs,cJ.mono g h⟩
 | .ok (.rt _) _,h=>exact h
 | .ok (.bk _) _,h=>exact h
 | .ok (.cn _) _,h=>exact h
 | .err _ _,h=>exact h
 | .bad,h=>exact h
def jL(h1:JS X s m1)(h2:zY X ss m2):zY X (s::ss) (aC m1 m2):=by
 refine zY.of (Jh h1 h2) λE σ H zz=>?_;show 1;exact⟨μ,env,st,hE,hs,cJ.seq hp⟩
def cJ.val{α β:Type}{rel:Rel α β}{r:R α}{f:α->ak->R Out}(h:cJ X μ H E (r.bind f)):bR X μ H rel (λb H1=>∃μ1 st1 a,bj μ H μ1 H1/\aX X.K μ1 H1 st1/\rel μ1 H1 a b/\cJ X μ1 H1 E (f a st1)) r:=by
 cases r with
 | ok a st=>exact λb H' μ' g h1 h2=>⟨μ',st,a,g,h1,h2,cJ.mono g h⟩
 | err x st=>exact h
 | bad=>exact h
def Vi(h:JE X e ma):JS X (.Return (some e) pos) (retS ma):=by
 refine JS.of (Wq h) λE σ H zz=>?_;show 1;refine⟨μ,env,st,hE,hs,hp.val.imp ?_⟩;rintro v H1 ⟨μ1,st1,d,g1,bJ,hv,aQ⟩;exact aQ v H1 μ1 (.refl _ _) bJ hv
def zs4(h:JE X e ma)(hs:swapsWith e none pos.line X.env=pure false:=by rfl):JS X (.Expr e pos) (dF ma):=by
 refine JS.of (Ql h hs) λE σ H zz=>?_;show 1;refine⟨μ,env,st,hE,hs,hp.val.imp ?_⟩;rintro v H1 ⟨μ1,st1,d,g1,bJ,hv,aQ⟩;exact aQ.nx bJ (hE.mono g1)
def Kv{sa sb:List Stmt}{tc:MT}(hc:JT X c tc)(ha:zY X sa m1)(hb:zY X sb m2):JS X (.If c sa sb pos) (fu tc m1 m2):=by
 refine JS.of (aa7 hc ha hb) λE σ H zz=>?_;show 1;refine⟨μ,env,st,hE,hs,hp.val.imp ?_⟩;rintro v H1 ⟨μ1,st1,d,g1,bJ,rfl,aQ⟩;cases d with
 | true=>exact yq ⟨μ1,env,st1,hE.mono g1,bJ,aQ⟩
 | false=>exact yr ⟨μ1,env,st1,hE.mono g1,bJ,aQ⟩
noncomputable abbrev MG:=D->aK->ak->R aK
noncomputable abbrev Oq:=List D->aK->ak->R aK
noncomputable abbrev aaS(X:Cx):Rel aK L2.St:=fun μ H env σ=>d7 X.K μ H env σ
noncomputable def tMG(X:Cx)(m:MG):TG:=λv σ H Q=>∃μ env st d,d7 X.K μ H env σ/\aX X.K μ H st/\aq X.K μ H d v/\bR X μ H (aaS X) Q (m d env st)
noncomputable def aaG(X:Cx)(m:Oq):Vd:=λvs σ H Q=>∃μ env st ds,d7 X.K μ H env σ/\aX X.K μ H st/\ao X.K μ H ds vs/\bR X μ H (aaS X) Q (m ds env st)
def JG(X:Cx)(t:Expr)(m:MG):Prop:=PG X t (tMG X m)
def Ve(X:Cx)(ts:List Expr)(m:Oq):Prop:=PGs X ts (aaG X m)
def JG.of{g:TG}{m:MG}(h:PG X e g)(k:∀v σ H Q,tMG X m v σ H Q->g v σ H Q):JG X e m:=λpins s σ H v u Q I r q=>h pins s σ H v u Q I r (k v σ H Q q)
def Ve.of{g:Vd}{m:Oq}(h:PGs X es g)(k:∀v σ H Q,aaG X m v σ H Q->g v σ H Q):Ve X es m:=λpins s σ H v u Q I r q=>h pins s σ H v u Q I r (k v σ H Q q)
noncomputable def aO(i:Nat):MG:=λd env st=>.ok (env.set i (some d)) st
def Ro(i:Nat)(hN:X.N.Nodup)(hi:X.N[i]? = some x:=by rfl)(hx:Loc X.env.scope x:=by first | exact Or.inl rfl | exact Or.inr rfl)(hf:X.fn x=true\/X.env.scope.names.lookup x=some .local:=by first | exact .inl rfl | exact .inr rfl | assumption):JG X (.Name x pos) (aO i):=by
 refine JG.of (Qy hN hi hx hf) λv σ H Q zz=>?_;obtain⟨μ,env,st,d,hE,hs,hv,hp⟩:=zz;exact hp.ret hs (hE.set hv)
noncomputable def uQ:Oq:=λds env st=>match ds with | []=>.ok env st | _=>.bad
noncomputable def dO(g:MG)(r:Oq):Oq:=λds env st=>match ds with | d::ds=>(g d env st).bind λenv1 st1=>r ds env1 st1 | _=>.bad
def Rn:Ve X [] uQ:=Ve.of Qx λvs σ H Q zz=>by
 obtain⟨μ,env,st,ds,hE,hs,hv,hp⟩:=zz;cases ds with
 | nil=>rw[ao]at hv;exact⟨hv,hp.ret hs hE⟩
 | cons _ _=>exact hp.elim
def KD(h1:JG X e g)(h2:Ve X es gs)(hs:(assignEach (e::es) X.env).map (·.2)=assign e X.env::(assignEach es X.env).map (·.2):=by rfl):Ve X (e::es) (dO g gs) :=
 Ve.of (Js h1 h2 hs) λvs σ H Q zz=>by
 obtain⟨μ,env,st,ds,hE,hs,hv,hp⟩:=zz;cases ds with
 | nil=>exact hp.elim
 | cons d ds =>
  rw[ao]at hv;obtain⟨v,r,rfl,h3,h4⟩:=hv;refine⟨v,r,rfl,μ,env,st,d,hE,hs,h3,(bR.bind hp).imp ?_⟩;rintro σ1 H1 ⟨μ1,st1,env1,g1,bJ,hE1,aQ⟩;exact⟨μ1,env1,st1,ds,hE1,bJ,h4.mono g1 _,aQ⟩
noncomputable def tE(n:Nat)(g:Oq):MG:=λd env st=>match d with | .tup ds=>if ds.length=n then g ds env st else .bad | _=>.bad
def XM{gs:Oq}{k:Nat}(n:Nat)(hc:X.calm=true)(h:Ve X es gs)(hn:(assignEach es X.env).length=n:=by rfl)(Gk:(assignEach es X.env).findIdx? (·.1)=none:=by rfl):JG X (.Tuple es k pos) (tE n gs) :=
 JG.of (Wy hc h hn Gk) λv σ H Q zz=>by
 obtain⟨μ,env,st,d,hE,hs,hv,hp⟩:=zz;cases d with
 | tup ds =>
  rw[aq.aU]at hv;obtain⟨p,xs,rfl,h1,h2⟩:=hv;simp only[tE]at hp
  split at hp
  ·rename_i hl;exact⟨p,xs,rfl,h1.rC,by rw[<-h2.length];exact hl,μ,env,st,ds,hE,hs,h2,hp⟩
  ·exact hp.elim
 | _=>exact hp.elim
noncomputable def zg:D->D->D->ak->R Unit
 | .loc n,.int i,d,st=>match st[n]? with
  | some (.lst ds)=>(match z_ ds.length i with | some j=>.ok () (st.set n (.lst (ds.set j d))) | none=>.bad)
  | _=>.bad
 | _,_,_,_=>.bad
noncomputable abbrev ade:Rel Unit Unit:=λ_ _ _ _=>True
noncomputable def Ci(X:Cx)(g:D->D->D->ak->R Unit):Np:=λo i v H Q=>∃μ st d1 d2 d3,aX X.K μ H st/\aq X.K μ H d1 o/\aq X.K μ H d2 i/\aq X.K μ H d3 v/\bR X μ H ade (λ_=>Q) (g d1 d2 d3 st)
def vG(hs:aX X.K μ H st)(e:st[n]? = some (.lst ds))(hp:μ[n]? = some p)(hx:H p=some (.lst xs))(hy:ao X.K μ H ds' ys) :
  bj μ H μ #[15,p,ys]/\aX X.K μ #[15,p,ys] (st.set n (.lst ds')):=by
 have g:Ext H #[15,p,ys]:=Ext.mut hx 0x17 (λ_ _ z=>nomatch z);have g':bj μ H μ #[15,p,ys]:=⟨⟨[],by simp⟩,g⟩;exact⟨g',hs.put e rfl rfl hp g ⟨ys,qQ,hy.mono g' _⟩⟩
def aaN:xx X (Ci X zg):=by
 refine xx.weak set_list ?_;rintro o i v H Q ⟨μ,st,d1,d2,d3,hs,h1,h2,h3,hp⟩;cases d1 with
 | loc n =>
  cases d2 with
  | int k =>
   rw[aq.aL]at h1;rw[aq.aN]at h2;obtain⟨p,hn,rfl⟩:=h1;subst h2;simp only[zg]at hp;cases e:st[n]? with
   | none=>rw[e]at hp;exact hp.elim
   | some mo =>
    cases mo with
    | lst ds =>
     rw[e]at hp;simp only at hp;obtain⟨p',xs,q1,q2,q3⟩:=hs.lst e;rw[hn]at q1;cases q1;cases e2:z_ ds.length k with
     | none=>rw[e2]at hp;exact hp.elim
     | some j =>
      rw[e2]at hp;obtain⟨g,lH⟩:=vG hs e hn q2 (ao.set h3 j q3);exact⟨p,xs,k,j,rfl,rfl,q2,by rw[<-q3.length];exact e2,hp () _ μ g lH trivial⟩
    | _=>rw[e]at hp;exact hp.elim
  | _=>exact hp.elim
 | _=>exact hp.elim
noncomputable def tV(g:D->D->D->ak->R Unit)(o i:ME):MG:=λd env st=>(o env st).bind λx st1=>(i env st1).bind λy st2=>(g x y d st2).bind λ_ iu=>.ok env iu
def XQ(ad6:xx X (Ci X g))(ho:JE X o mo)(hi:JE X i mi) 
  (ha:∀v,assign (.Subscript o i pos) X.env v=(do
   let ov <-holding [v] (eval o X.env)
   let iv <-holding [v,ov] (eval i X.env)
   standAt pos
   holding [v,ov,iv] (setItem ov iv v)
   release [v,ov,iv] []):=by intro _;rfl):JG X (.Subscript o i pos) (tV g mo mi):=by
 refine JG.of (Wz ho hi ad6 ha) λv σ H Q zz=>?_;obtain⟨μ,env,st,d,hE,hs,hv,hp⟩:=zz;show 3;rintro x H1 ⟨μ1,st1,dx,g1,bJ,hx,aQ⟩;refine⟨μ1,env,st1,hE.mono g1,bJ,(bR.bind aQ).imp ?_⟩;rintro y H2 ⟨μ2,st2,dy,g2,iQ,hy,d_⟩;refine⟨μ2,st2,dx,dy,d,iQ,hx.mono g2 _,hy,(hv.mono g1 _).mono g2 _,(bR.bind d_).imp ?_⟩;rintro _ H3 ⟨μ3,iu,_,g3,zE,_,Aa⟩;exact Aa.ret zE (((hE.mono g1).mono g2).mono g3)
noncomputable def jB(m:ME)(g:MG):MS:=λenv st=>(m env st).bind λd st1=>(g d env st1).bind λenv1 st2=>.ok (.nx env1) st2
def Ky{tg:Expr}{g:MG}(he:JE X e ma)(hg:JG X tg g)(hs:swapsWithSole [tg] e pos.line X.env=pure false:=by rfl)(hw:swappedStores [tg] e X.env=pure none:=by rfl)(h1:(assignEach [tg] X.env).map (·.2)=[assign tg X.env]:=by rfl):JS X (.Assign [tg] e pos) (jB ma g):=by
 refine JS.of (Wt he hg hs hw h1) λE σ H zz=>?_;show 1;refine⟨μ,env,st,hE,hs,hp.val.imp ?_⟩;rintro x H1 ⟨μ1,st1,d,g1,bJ,hx,aQ⟩;refine⟨μ1,env,st1,d,hE.mono g1,bJ,hx,aQ.val.imp ?_⟩;rintro σ2 H2 ⟨μ2,st2,bx,g2,iQ,U3,d_⟩;exact d_.nx iQ U3
noncomputable def aG(i:Nat)(m:ME):MS:=jB m (aO i)
def T4(i:Nat){x:Str}{pos':Pos}(he:JE X e ma)(hN:X.N.Nodup)(hi:X.N[i]? = some x:=by rfl)(hx:Loc X.env.scope x:=by first | exact Or.inl rfl | exact Or.inr rfl)(hs:swapsWith e (some (.Name x pos')) pos.line X.env=pure false:=by rfl)
  (hf:X.fn x=true\/X.env.scope.names.lookup x=some .local:=by first | exact .inl rfl | exact .inr rfl | assumption):JS X (.Assign [.Name x pos'] e pos) (aG i ma):=by
 refine JS.of (Wo hN hi hx he hs hf) λE σ H zz=>?_;show 1;refine⟨μ,env,st,hE,hs,hp.val.imp ?_⟩;rintro x H1 ⟨μ1,st1,d,g1,bJ,hx,aQ⟩;exact aQ.nx bJ ((hE.mono g1).set hx)
end
noncomputable def bC(c:MT)(b:MS):Nat->MS
 | 0,_,_=>.bad
 | n+1,env,st=>(c env st).bind λx st1=>if x then (b env st1).bind λo st2=>(match o with
   | .nx bx=>bC c b n bx st2
   | .cn bx=>bC c b n bx st2
   | .bk bx=>.ok (.nx bx) st2
   | .rt d=>.ok (.rt d) st2) else .ok (.nx env) st1
section
variable  {X:Cx}{e a b c:Expr}{es:List Expr}{t:TE}{ma mb mc:ME}{mA:MA}{pos p2:Pos}{s:Stmt}{ss body:List Stmt}{m m1 m2 mb:MS}{μ μ1:List Addr}{H H1:Hp}{E E':Ends}{r:R Out}{tc:MT}
theorem cJ.loop{nxt:aK->ak->R Out}{N:L2.St->Hp->Prop}
  (h:cJ X μ H E (r.bind λo st2=>(match o with
   | .nx bx=>nxt bx st2
   | .cn bx=>nxt bx st2
   | .bk bx=>.ok (.nx bx) st2
   | .rt d=>.ok (.rt d) st2)))
  (hN:∀bx st2 σ' H' μ',bj μ H μ' H'->aX X.K μ' H' st2->d7 X.K μ' H' bx σ'->cJ X μ' H' E (nxt bx st2)->N σ' H') :
  cJ X μ H { E with nx:=N,ct:=N,bk:=E.nx } r:=by
 match r,h with
 | .ok (.nx env1) st1,h=>exact fun σ' H' μ' g hs hE=>hN env1 st1 σ' H' μ' g hs hE (cJ.mono g h)
 | .ok (.cn env1) st1,h=>exact fun σ' H' μ' g hs hE=>hN env1 st1 σ' H' μ' g hs hE (cJ.mono g h)
 | .ok (.rt _) _,h=>exact h
 | .ok (.bk _) _,h=>exact h
 | .err _ _,h=>exact h
 | .bad,h=>exact h
def Ks(n:Nat)(hc:JT X c tc)(hb:zY X body mb)(hp:PassesOwn 0x7 X.A X.env X.xe):JS X (.While c body [] pos) (bC tc mb n):=by
 refine JS.of (Ji hp hc hb) λE σ H h=>?_;refine⟨λk σ H=>V2 X (bC tc mb k) E σ H,⟨n,h⟩,?_⟩;rintro k σ H ⟨μ,env,st,hE,hs,hp⟩;cases k with
 | zero=>exact hp.elim
 | succ k =>
  refine⟨μ,env,st,hE,hs,(cJ.val hp).imp ?_⟩;rintro v H1 ⟨μ1,st1,d,g1,bJ,rfl,aQ⟩;cases d with
  | false=>exact yr (aQ.nx bJ (hE.mono g1))
  | true =>
   refine yq ⟨fun σ' H'=>V2 X (bC tc mb k) E σ' H',fun σ' H' q=>⟨k,nQ _,q⟩,μ1,env,st1,hE.mono g1,bJ,?_⟩;exact cJ.loop (nxt:=bC tc mb k) aQ λbx st2 σ' H' μ' g iQ U3 q=>⟨μ',bx,st2,U3,iQ,q⟩
noncomputable abbrev Src:=List D×List (Nat×MO)
noncomputable abbrev MI:=aK->ak->R Src
def u_(gs:List (Nat×MO))(st:ak):Prop:=∀g∈gs,st[g.1]? = some g.2
@[simp] def acC(st:ak):u_ [] st:=λ_ h=>nomatch h
@[simp] def abm(g:Nat×MO)(gs:List (Nat×MO))(st:ak):u_ (g::gs) st↔st[g.1]? = some g.2/\u_ gs st:=by simp[u_]
def oO(X:Cx)(μ:List Addr)(H:Hp)(J:It)(s:Src):Prop:=∀(H':Hp) (μ':List Addr) (st':ak),bj μ H μ' H'->aX X.K μ' H' st'->u_ s.2 st' ->
 (∀(i:Nat) (d:D),s.1[i]? = some d->J.go i H'/\∀x DN,J.yld i H' x DN->bj μ' H' μ' DN/\aX X.K μ' DN st'/\aq X.K μ' DN d x)/\J.stop s.1.length H'
noncomputable abbrev adh(X:Cx):Rel Src It:=fun μ H s J=>oO X μ H J s
noncomputable def tMI(X:Cx)(m:MI):TI:=fun σ H Q=>∃μ env st,d7 X.K μ H env σ/\aX X.K μ H st/\bR X μ H (adh X) (λJ H'=>Q J H') (m env st)
def JI(X:Cx)(tg iter:Expr)(m:MI):Prop:=PI X tg iter (tMI X m)
def JI.of{tg iter:Expr}{wi:TI}{m:MI}(h:PI X tg iter wi)(k:∀σ H Q,tMI X m σ H Q->wi σ H Q):JI X tg iter m:=λpins s σ H R I q=>h pins s σ H R I (k σ H R q)
open Classical in
noncomputable def cA(g:MG)(b:MS)(gs:List (Nat×MO)):List D->MS
 | [],env,st=>if u_ gs st then .ok (.nx env) st else .bad
 | d::r,env,st=>if u_ gs st then (g d env st).bind λenv1 st1=>(b env1 st1).bind λo st2=>(match o with
   | .nx bx=>cA g b gs r bx st2
   | .cn bx=>cA g b gs r bx st2
   | .bk bx=>.ok (.nx bx) st2
   | .rt d=>.ok (.rt d) st2) else .bad
noncomputable def iW(mi:MI)(g:MG)(b:MS):MS:=λenv st=>(mi env st).bind λs st1=>cA g b s.2 s.1 env st1
def Aw(hi:JI X tg iter mi)(hg:JG X tg g)(hb:zY X body mb)(hp:PassesOwn 0x7 X.A X.env X.xe)(hc:X.calm=true) 
  (hs:∀x,foldedSetIterable iter X.env x=pure x:=by intro _;rfl):JS X (.For tg iter body [] pos) (iW mi g mb):=by
 refine JS.of (Wr hp hc hi hg hb hs) λE σ H zz=>?_;show 1;refine⟨μ,env,st,hE,hs,(cJ.val hp).imp ?_⟩;rintro J H1 ⟨μ1,st1,s,g1,bJ,hJ,aQ⟩;refine⟨λi k σ H=>∃μ2 bx st2,bj μ1 H1 μ2 H/\d7 X.K μ2 H bx σ/\aX X.K μ2 H st2/\cJ X μ2 H E (cA g mb s.2 (s.1.drop i) bx st2)/\i<=s.1.length/\k=s.1.length - i,
  ⟨_,μ1,env,st1,.refl _ _,hE.mono g1,bJ,by simpa using aQ,mK _,rfl⟩,?_⟩
 rintro i k σ2 H2 ⟨μ2,bx,st2,g2,U3,iQ,d_,hi,rfl⟩;by_cases uT:i<s.1.length
 ·have e1:s.1.drop i=s.1[i]::s.1.drop (i+1):=mX uT;rw[e1,cA]at d_;by_cases ok:u_ s.2 st2
  ·rw[afn ok]at d_;obtain⟨q1,q2⟩:=(hJ H2 μ2 st2 g2 iQ ok).1 i s.1[i] (gB uT);refine .inr ⟨q1,fun σ' H'=>∃μ3 yz iu,bj μ1 H1 μ3 H'/\d7 X.K μ3 H' yz σ'/\aX X.K μ3 H' iu/\cJ X μ3 H' E (cA g mb s.2 (s.1.drop (i+1)) yz iu),?_,?_⟩
   ·rintro σ' H' ⟨μ3,yz,iu,g3,hE3,zE,Aa⟩;exact⟨s.1.length - (i+1),by omega,μ3,yz,iu,g3,hE3,zE,Aa,by omega,rfl⟩
   ·intro x H3 hx;obtain⟨g3,zE,hd⟩:=q2 x H3 hx;refine⟨μ2,bx,st2,s.1[i],U3.mono g3,zE,hd,(cJ.val (cJ.mono g3 d_)).imp ?_⟩;rintro σ4 H4 ⟨μ4,st4,abU,g4,hs4,hE4,hp4⟩;refine⟨μ4,abU,st4,hE4,hs4,?_⟩;exact cJ.loop (nxt:=cA g mb s.2 (s.1.drop (i+1))) hp4 λaer N8 σ' H' μ' g5 hs5 hE5 q=>⟨μ',aer,N8,((g2.trans g3).trans g4).trans g5,hE5,hs5,q⟩
  ·rw[afo ok]at d_;exact d_.elim
 ·have e1:s.1.drop i=[]:=nA 0x0;rw[e1,cA]at d_;have e2:i=s.1.length:=by omega
  by_cases ok:u_ s.2 st2
  ·rw[afn ok]at d_;refine .inl ⟨by rw[e2];exact (hJ H2 μ2 st2 g2 iQ ok).2,d_.nx iQ U3⟩
  ·rw[afo ok]at d_;exact d_.elim
noncomputable def iC(m:ME):MI:=λenv st=>(m env st).bind λd st1=>match d with
 | .loc n=>(match st1[n]? with
  | some (.lst ds)=>.ok (ds,[(n,.lst ds)]) st1
  | some (.frz ds)=>.ok (ds,[(n,.frz ds)]) st1
  | _=>.bad)
 | .tup ds=>.ok (ds,[]) st1
 | _=>.bad
def PI.or(h1:PI X tg l w1)(h2:PI X tg l w2):PI X tg l (fun σ H R=>w1 σ H R\/w2 σ H R):=λpins s σ H R I h=>h.elim (h1 pins s σ H R I) (h2 pins s σ H R I)
def CW{st:ak}(ho:o=.lst ds\/o=.frz ds)(hp:μ[n]? = some p):oO X μ H (Itl X.K p) (ds,[(n,o)]):=by
 intro H' μ' st' g hs ok;have e:st'[n]? = some o:=(ok (n,o) 0x1);have e2:aA st' n=some ds:=by
  unfold aA;rcases ho with rfl | rfl<;>rw[e]
 obtain⟨p',xs,q1,q2,q3⟩:=hs.items e2;rw[g.get hp]at q1;cases q1;refine⟨λi d hd=>?_,xs,q2,Nat.le_of_eq q3.length.symm⟩;obtain⟨v,h1,h2⟩:=q3.get hd;refine⟨⟨xs,v,q2,h1⟩,?_⟩;rintro x DN ⟨rfl,hx⟩;have:=hx xs q2;rw[h1]at this;cases this;exact⟨.refl _ _,hs,h2⟩
def Rx(hq:oV X.K H p xs)(hd:ao X.K μ H ds xs):oO X μ H (Itt X.K p) (ds,[]):=by
 intro H' μ' st' g hs ok;have Gm:=g.ext.rC hq;have zG:=hd.mono g ds;refine⟨λi d e=>?_,xs,Gm,Nat.le_of_eq hd.length.symm⟩;obtain⟨v,h1,h2⟩:=zG.get e;refine⟨⟨xs,v,Gm,h1⟩,?_⟩;rintro x DN ⟨rfl,hx⟩;have:=hx xs Gm;rw[h1]at this;cases this;exact⟨.refl _ _,hs,h2⟩
def XH(h:JE X l ma):JI X tg l (iC ma):=by
 refine JI.of (PI.or (Qv h) (Wv h)) fun σ H R hh=>?_

 obtain⟨μ,env,st,hE,hs,hp⟩:=hh;unfold iC at hp;cases hr:ma env st with
 | bad=>rw[hr]at hp;exact hp.elim
 | err x st1 =>
  rw[hr]at hp;refine .inl ⟨μ,env,st,hE,hs,?_⟩;rw[hr];exact hp
 | ok d st1 =>
  rw[hr,M.R.aB]at hp;cases d with
  | loc n =>
   simp only at hp;refine .inl ⟨μ,env,st,hE,hs,?_⟩;rw[hr];intro v H1 μ1 g1 bJ hv;obtain⟨p,q1,rfl⟩:=aq.aL.mp hv;cases e:st1[n]? with
   | none=>rw[e]at hp;exact hp.elim
   | some mo =>
    cases mo with
    | lst ds =>
     rw[e]at hp;obtain⟨p',xs,r1,r2,r3⟩:=bJ.lst e;show 7;exact⟨p,rfl,⟨xs,oN.of r2⟩,hp _ _ _ g1 bJ (CW (st:=st1) (.inl rfl) q1)⟩
    | frz ds =>
     rw[e]at hp;obtain⟨p',r1,xs,r2,r3⟩:=bJ.at_ n _ e;show 7;exact⟨p,rfl,⟨xs,r2.sqL⟩,hp _ _ _ g1 bJ (CW (st:=st1) (.inr rfl) q1)⟩
    | _=>rw[e]at hp;exact hp.elim
  | tup ds =>
   refine .inr ⟨μ,env,st,hE,hs,?_⟩;rw[hr];intro v H1 μ1 g1 bJ hv;obtain⟨p,xs,rfl,q1,q2⟩:=aq.aU.mp hv;exact⟨p,rfl,⟨xs,q1.rC⟩,hp _ _ _ g1 bJ (Rx q1.rC q2)⟩
  | _=>exact hp.elim
noncomputable def o9(lo:Int)(n:Nat):List D:=(List.range n).map λ(k:Nat)=>.int (lo+k)
noncomputable def ji(mA:MA):MI:=λenv st=>(mA env st).bind λds st1=>match ds with
 | [.int j]=>if -(2 ^ 62)<=j/\j<2 ^ 62 then .ok (o9 0 j.toNat,[]) st1 else .bad
 | _=>.bad
def Rz(lo:Int)(n:Nat):oO X μ H (Itr lo n) (o9 lo n,[]):=by
 intro H' μ' st' g hs ok;refine⟨λi d e=>?_,by show n<=_;simp[o9]⟩;have hi:i<n:=by have:=(gf.mp e).1;simpa[o9] using this
 simp[o9,hi]at e;subst e;refine⟨hi,?_⟩;rintro x DN ⟨rfl,rfl⟩;exact⟨.refl _ _,hs,aq.aN.mpr rfl⟩
def ao.one(h:ao K μ H [d] vs):∃v,vs=[v]/\aq K μ H d v:=by
 rw[ao]at h;obtain⟨v,r,rfl,q1,q2⟩:=h;rw[ao]at q2;subst q2;exact⟨v,rfl,q1⟩
def ao.two(h:ao K μ H [d1,d2] vs):∃v w,vs=[v,w]/\aq K μ H d1 v/\aq K μ H d2 w:=by
 rw[ao]at h;obtain⟨v,r,rfl,q1,q2⟩:=h;obtain⟨w,rfl,q3⟩:=ao.one q2;exact⟨v,w,rfl,q1,q3⟩
def Gd(ha:JA X [a] mA)(hg:Gl X "range")(hm:X.mg "range" = none)(hs:starEach [a] X.env=[0x1c]:=by rfl):JI X tg (.Call (.Name "range" p) [a] [] pos) (ji mA):=by
 refine JI.of (Fw hg hm ha hs) fun σ H R zz=>?_;show 1;show 3;rintro vs H1 ⟨μ1,st1,ds,g1,bJ,hv,aQ⟩;dsimp only at aQ
 split at aQ
 ·split at aQ
  ·rename_i hc;obtain⟨v,rfl,q1⟩:=ao.one hv;rw[aq.aN]at q1;subst q1;exact⟨_,rfl,hc.1,hc.2,aQ _ _ _ (.refl _ _) bJ (Rz 0 _)⟩
  ·exact aQ.elim
 ·exact aQ.elim
end
noncomputable abbrev FD:=List D->ak->R D
def zV(K:PySem.W.Frag)(μ:List Addr)(H:Hp)(Q:VK)(r:R D):Prop:=match r with
 | .ok d st=>∀(v:V) (H':Hp) (μ':List Addr),bj μ H μ' H'->aX K μ' H' st->aq K μ' H' d v->Q v H'
 | _=>False
noncomputable def vz(K:PySem.W.Frag)(n:Nat)(fd:FD):Sp:=λvs H Q _=>vs.length=n/\∃μ ds st,ao K μ H ds vs/\aX K μ H st/\zV K μ H Q (fd ds st)
noncomputable def startM(n:Nat)(ds:List D):aK:=ds.map some++List.replicate (n - ds.length) none
noncomputable def bw(n:Nat)(m:MS):FD:=λds st=>(m (startM n ds) st).bind λo st1=>match o with
 | .rt d=>.ok d st1
 | .nx _=>.ok .non st1
 | _=>.bad
def ao.start(N:List Str)(h:ao K μ H ds vs):d7 K μ H (startM N.length ds) (L2.start N vs):=by
 unfold startM L2.start;refine⟨by simp[h.length],λi d e=>?_⟩;rw[<-h.length];by_cases hi:i<ds.length
 ·rw[gM (by simpa using hi)]at e;rw[gM (by rw[gm,<-h.length];exact hi)];rw[gK]at e ⊢;cases q:ds[i]? with
  | none=>rw[q]at e;cases e
  | some d' =>
   rw[q]at e;cases e;obtain⟨v,q1,q2⟩:=h.get q;exact⟨v,by rw[q1];rfl,q2⟩
 ·rw[h_ (by simpa using hi)]at e;rw[List.getElem?_replicate]at e
  split at e<;>cases e
section
variable  {P:Program}{w:World}{K:PySem.W.Frag}{mg:Str->Option Value}{base:Heap}
def zK(F:DP K x qual st f fd)(S:cX N ps (aD st)) 
  (oG:∀(cdv:Value) (A:Around) (outer:List Env) (s:Shared) (H:Hp),cV k #[33,qual] ->
   zY #[31,qual].JX (a_ st) m):cD P w K mg base qy (k+1) f fd ps (vz K ps.length (bw N.length m)):=by
 refine F.ok S (λvs H Q E h=>h.1) (λcdv A outer s H vs Q E hr h=>?_);obtain⟨hl,μ,ds,Ui,hv,hs,hp⟩:=h;refine⟨_,oG cdv A outer s H hr,μ,startM N.length ds,Ui,ao.start N hv,hs,?_⟩;unfold bw at hp;cases hr:m (startM N.length ds) Ui with
 | bad=>rw[hr]at hp;exact hp.elim
 | err x st1=>rw[hr]at hp;exact hp.elim
 | ok o st1 =>
  rw[hr]at hp;cases o with
  | rt d=>exact hp
  | nx env=>exact fun σ' H' μ' g lH _=>hp .non H' μ' g lH (aq.bK.mpr rfl)
  | bk env=>exact hp.elim
  | cn env=>exact hp.elim
end
section
variable  {X:Cx}{e:Expr}{es:List Expr}{mA:MA}{pos p:Pos}{x:Str}{k:Nat}{f:Addr}{fd:FuncData}{ps:List Str}{F:FD}{oJ:List V}{ds:List Value}{dd:List D}
noncomputable def R.sure{α:Type}(r:R α):R α:=match r with
 | .ok a st=>.ok a st
 | _=>.bad
@[simp] def R.acr(a:α)(st:ak):(R.ok a st).sure=.ok a st:=eZ rfl
noncomputable def az(F:FD)(dd:List D)(mA:MA):ME:=λenv st=>(mA env st).bind λas st1=>(F (as++dd) st1).sure
def Rq(G:cD X.prog X.w X.K X.mg X.base qy k f fd ps (vz X.K ps.length F))(hr:cV k X.A)(hm:X.mg x=some (.ref f))(hk:PySem.W.keepIn X.K (.ref f)=true)(hb:Binds X.K fd ps ds)(hd:Vals oJ ds)
  (hdd:∀μ H,ao X.K μ H dd oJ) (ha:JA X (e::es) mA) (hlen:(e::es).length+oJ.length=ps.length:=by rfl) (hg:Gl X x:=by rfl) (rQ:0xf=false:=by decide) (he:starEach (e::es) X.env=0xd::starEach es X.env:=by rfl) (p_:#[13,pos,es].any (·.1)=false:=by rfl)
  (hA:∀env st as st1,mA env st=.ok as st1->as.length=(e::es).length:=by intros;rfl) :
  JE X 0x1a (az F dd mA):=by
 refine JE.of (QJ G hr hg hm hk hb hd Cm ha rQ he p_) fun σ H Q zz=>?_;show 1;refine⟨μ,env,st,hE,hs,?_⟩;cases hr:mA env st with
 | bad=>unfold az at hp;rw[hr]at hp;exact hp
 | err y st1=>unfold az at hp;rw[hr]at hp;exact hp
 | ok as st1 =>
  unfold az at hp;rw[hr]at hp;intro vs H1 μ1 g1 bJ hv;have Bb:ao X.K μ1 H1 (as++dd) (vs++oJ):=hv.append (hdd μ1 H1);refine⟨?_,μ1,as++dd,st1,Bb,bJ,?_⟩
  ·rw[gO,<-hv.length,hA env st as st1 hr];exact hlen
  ·have d_:=bR.mono g1 (show bR X μ H (lX X) Q (F (as++dd) st1).sure from hp);cases hF:F (as++dd) st1 with
   | ok d st2=>rw[hF]at d_;exact d_
   | err y st2=>rw[hF]at d_;exact d_.elim
   | bad=>rw[hF]at d_;exact d_.elim
end
mutual
def under(n:Nat):D->Prop
 | .loc k=>k<n
 | .tup ds=>bY n ds
 | _=>True
def bY(n:Nat):List D->Prop
 | []=>True
 | d::ds=>under n d/\bY n ds
end
@[simp] def aad(n:Nat):under n .non=True:=by simp[under]
@[simp] def aax(n:Nat)(b:Bool):under n (.bl b)=True:=by simp[under]
@[simp] def aae(n:Nat)(i:Int):under n (.int i)=True:=by simp[under]
@[simp] def aac(n:Nat)(c:List Nat):under n (.str c)=True:=by simp[under]
@[simp] def zph(n:Nat)(ds:List D):under n (.tup ds)=bY n ds:=by simp[under]
@[simp] def zpk(n k:Nat):under n (.loc k)=(k<n):=by simp[under]
@[simp] def VP(n:Nat):bY n []=True:=by simp[bY]
@[simp] def zj3(n:Nat)(d:D)(ds:List D):bY n (d::ds)=(under n d/\bY n ds):=by simp[bY]
def zu1(n:Nat)(ds:List D):bY n ds ↔ ∀d∈ds,under n d:=by
 induction ds with
 | nil=>simp
 | cons d ds ih=>simp[ih]
def lO(n:Nat):MO->Prop
 | .lst ds=>bY n ds
 | .frz ds=>bY n ds
 | .dic kvs=>∀p∈kvs,under n p.2
 | .dkc kvs=>∀p∈kvs,under n p.2
 | .dkf kvs=>∀p∈kvs,under n p.2
 | .dtf kvs=>∀p∈kvs,under n p.2
 | .exc _ d=>under n d
 | .ins _ fs=>∀p∈fs,under n p.2
 | .tab _=>True
 | .clo _ _ ds=>bY n ds
 | .hid=>True
mutual
theorem aq.under:∀(d:D) {v:V},aq K μ H d v->M.under μ.length d
 | .non,_,_=>by simp
 | .bl _,_,_=>by simp
 | .int _,_,_=>by simp
 | .str _,_,_=>by simp
 | .tup ds,_,h=>by
  obtain⟨a,xs,_,_,h2⟩:=aq.aU.mp h;rw[zph];exact ao.bY ds h2
 | .loc n,_,h=>by
  obtain⟨a,h1,_⟩:=aq.aL.mp h;rw[zpk];exact (gf.mp h1).1
theorem ao.bY:∀(ds:List D) {vs:List V},ao K μ H ds vs->M.bY μ.length ds
 | [],_,_=>by simp
 | d::ds,_,h=>by
  rw[ao]at h;obtain⟨v,r,_,h1,h2⟩:=h;rw[zj3];exact⟨aq.under d h1,ao.bY ds h2⟩
end
mutual
theorem aq.down:∀(d:D) {v:V},aq K (μ++ν) H d v->M.under μ.length d->aq K μ H d v
 | .non,_,h,_=>by simpa[aq] using h
 | .bl _,_,h,_=>by simpa[aq] using h
 | .int _,_,h,_=>by simpa[aq] using h
 | .str _,_,h,_=>by simpa[aq] using h
 | .tup ds,_,h,u=>by
  obtain⟨a,xs,e,h1,h2⟩:=aq.aU.mp h;rw[zph]at u;exact aq.aU.mpr ⟨a,xs,e,h1,ao.down ds h2 u⟩
 | .loc n,_,h,u=>by
  obtain⟨a,h1,e⟩:=aq.aL.mp h;rw[zpk]at u;rw[gM u]at h1;exact aq.aL.mpr ⟨a,h1,e⟩
theorem ao.down:∀(ds:List D) {vs:List V},ao K (μ++ν) H ds vs->M.bY μ.length ds->ao K μ H ds vs
 | [],_,h,_=>by simpa[ao] using h
 | d::ds,_,h,u=>by
  rw[ao]at h ⊢;obtain⟨v,r,e,h1,h2⟩:=h;rw[zj3]at u;exact⟨v,r,e,aq.down d h1 u.1,ao.down ds h2 u.2⟩
end
theorem aJ.under:∀{ds:List (κ×D)} {vs:List (κ×V)},aJ K μ H ds vs->∀p∈ds,M.under μ.length p.2
 | [],_,_,_,hp=>nomatch hp
 | (k,d)::ds,_,⟨v,r,e,h1,h2⟩,p,hp=>by
  rcases gj.mp hp with rfl | hp
  ·exact aq.under d h1
  ·exact aJ.under h2 p hp
theorem aJ.down:∀{ds:List (κ×D)} {vs:List (κ×V)},aJ K (μ++ν) H ds vs->(∀p∈ds,M.under μ.length p.2)->aJ K μ H ds vs
 | [],_,h,_=>h
 | (k,d)::ds,_,⟨v,r,e,h1,h2⟩,u=>⟨v,r,e,aq.down d h1 (u (k,d) 0x1),aJ.down h2 λp hp=>u p (kW _ hp)⟩
def ig.under(h:ig K μ H a o):lO μ.length o:=by
 cases o with
 | lst ds=>obtain⟨xs,_,h2⟩:=h;exact ao.bY ds h2
 | frz ds=>obtain⟨xs,_,h2⟩:=h;exact ao.bY ds h2
 | dic ds=>obtain⟨xs,_,h2⟩:=h;exact h2.under
 | dkc ds=>obtain⟨xs,_,h2⟩:=h;exact h2.under
 | dkf ds=>obtain⟨xs,_,_,h2⟩:=h;exact h2.under
 | dtf ds=>obtain⟨xs,_,_,h2⟩:=h;exact h2.under
 | exc c d=>obtain⟨_,_,_,_,_,_,_,_,_,_,_,_,h7⟩:=h;exact aq.under d h7
 | ins c ds=>obtain⟨_,_,xs,_,_,h2⟩:=h;exact h2.under
 | tab x=>trivial
 | clo j l ds=>obtain⟨_,_,_,_,xs,_,_,_,_,_,h2⟩:=h;exact ao.bY ds h2
 | hid=>trivial
def ig.down(h:ig K (μ++ν) H a o)(u:lO μ.length o):ig K μ H a o:=by
 cases o with
 | lst ds=>obtain⟨xs,h1,h2⟩:=h;exact⟨xs,h1,ao.down ds h2 u⟩
 | frz ds=>obtain⟨xs,h1,h2⟩:=h;exact⟨xs,h1,ao.down ds h2 u⟩
 | dic ds=>obtain⟨xs,h1,h2⟩:=h;exact⟨xs,h1,h2.down u⟩
 | dkc ds=>obtain⟨xs,h1,h2⟩:=h;exact⟨xs,h1,h2.down u⟩
 | dkf ds=>obtain⟨xs,o,h1,h2⟩:=h;exact⟨xs,o,h1,h2.down u⟩
 | dtf ds=>obtain⟨xs,o,h1,h2⟩:=h;exact⟨xs,o,h1,h2.down u⟩
 | exc c d=>obtain⟨oe,C,dx,od,v,fs,h1,h2,h3,h4,h5,h6,h7⟩:=h;exact⟨oe,C,dx,od,v,fs,h1,h2,h3,h4,h5,h6,aq.down d h7 u⟩
 | ins c ds=>obtain⟨C,dx,xs,h0,h1,h2⟩:=h;exact⟨C,dx,xs,h0,h1,h2.down u⟩
 | tab x=>exact h
 | clo j l ds=>obtain⟨cl,pm,c',rZ,vs,h1,h2,h3,h4,h5,h6⟩:=h;exact⟨cl,pm,c',rZ,vs,h1,h2,h3,h4,h5,ao.down ds h6 u⟩
 | hid=>trivial
def ig.up(ν:List Addr)(h:ig K μ H a o):ig K (μ++ν) H a o:=h.keep ⟨⟨ν,rfl⟩,.refl H⟩ λ_ _ q=>q
def zjt{α:Type}{l l':List α}(h:l'.take l.length=l){n:Nat}{o:α}(e:l[n]? = some o):l'[n]? = some o:=by
 have hl:=(gf.mp e).1;rw[<-h,pK]at e;rw[afn hl]at e;exact e
def aX.back{K:PySem.W.Frag}{μ ν:List Addr}{H H':Hp}{st st':ak}(h0:aX K μ H st)(h:aX K (μ++ν) H' st')(ht:st'.take st.length=st):aX K μ H' st:=by
 refine⟨h0.len,λn o e=>?_,λi j a oi oj ei ej mi mj hi hj=>?_⟩
 ·obtain⟨a,h1,h2⟩:=h.at_ n o (zjt ht e);obtain⟨a0,h3,h4⟩:=h0.at_ n o e;have hn:n<μ.length:=by rw[h0.len];exact (gf.mp e).1
  rw[gM hn]at h1;exact⟨a,h1,h2.down h4.under⟩
 ·have up:∀k,μ[k]? = some a->(μ++ν)[k]? = some a:=λk hk=>by rw[gM (gf.mp hk).1];exact hk
  exact h.uniq i j a oi oj (zjt ht ei) (zjt ht ej) mi mj (up i hi) (up j hj)
def aX.acf{K:PySem.W.Frag}{μ ν:List Addr}{H H':Hp}{st st':ak}{k:Nat}{o:MO}{a:Addr}(h0:aX K μ H st)(h:aX K (μ++ν) H' st')(ht:st'.take st.length=st)(hk:st.length<=k)(e:st'[k]? = some o)(u:lO st.length o)(ha:(μ++ν)[k]? = some a) :
  aX K (μ++[a]) H' (st++[o]):=by
 have hb:=h0.back h ht;obtain⟨a',q1,q2⟩:=h.at_ k o e;rw[ha]at q1;cases q1;have key:∀(n:Nat) (on:MO) (c:Addr),(st++[o])[n]? = some on->(μ++[a])[n]? = some c->(n<st.length/\st[n]? = some on/\μ[n]? = some c)\/(n=st.length/\on=o/\c=a):=λn on c e1 e2=>by
  by_cases hn:n<st.length
  ·rw[gM hn]at e1;rw[gM (by rw[h0.len];exact hn)]at e2;exact .inl ⟨hn,e1,e2⟩
  ·have hl:=(gf.mp e1).1;rw[gO,ni]at hl;have en:n=st.length:=by omega
   subst en;rw[h_ (gb _)]at e1;rw[<-h0.len,h_ (gb _)]at e2;simp at e1 e2;exact .inr ⟨rfl,e1.symm,e2.symm⟩
 refine⟨by simp[h0.len],λn on e1=>?_,λi j c oi oj ei ej mi mj hi hj=>?_⟩
 ·have hn:n<(μ++[a]).length:=by
   have:=(gf.mp e1).1;simpa[h0.len] using this
  obtain⟨c,hc⟩:∃c,(μ++[a])[n]? = some c:=⟨_,gB hn⟩;rcases key n on c e1 hc with⟨h1,h2,h3⟩ | ⟨h1,rfl,rfl⟩
  ·obtain⟨c',h4,h5⟩:=hb.at_ n on h2;rw[h3]at h4;cases h4;exact⟨c,hc,h5.up _⟩
  ·exact⟨c,hc,(q2.down (by rw[h0.len];exact u)).up _⟩
 ·have up:∀k,μ[k]? = some c->(μ++ν)[k]? = some c:=λk hk=>by rw[gM (gf.mp hk).1];exact hk
  rcases key i oi c ei hi with⟨h1,h2,h3⟩ | ⟨h1,rfl,rfl⟩
  ·rcases key j oj c ej hj with⟨g1,g2,g3⟩ | ⟨g1,rfl,rfl⟩
   ·exact hb.uniq i j c oi oj h2 g2 mi mj h3 g3
   ·have:=h.uniq i k c oi oj (zjt ht h2) e mi mj (up i h3) ha;omega
  ·rcases key j oj c ej hj with⟨g1,g2,g3⟩ | ⟨g1,_,_⟩
   ·have:=h.uniq j k c oj oi (zjt ht g2) e mj mi (up j g3) ha;omega
   ·rw[h1,g1]
open Classical in
noncomputable def gc(st:ak)(r:R D):R D:=match r with
 | .ok d st'=>if st'.take st.length=st/\under st.length d then .ok d st else (match d with
  | .loc k=>(match st'[k]? with
   | some o=>if st'.take st.length=st/\st.length<=k/\lO st.length o then .ok 0x2 (st++[o]) else .ok d st'
   | none=>.ok d st')
  | d=>.ok d st')
 | r=>r
noncomputable def bF(F:FD):FD:=λds st=>gc st (F ds st)
def zu8(hs:aX K μ H st)(h:zV K μ H Q (gc st r)):zV K μ H Q r:=by
 cases r with
 | bad=>exact h
 | err x st'=>exact h
 | ok d st' =>
  unfold gc at h;dsimp only at h;by_cases c1:st'.take st.length=st/\under st.length d
  ·rw[afn c1]at h;intro v H' μ' g lH hv;obtain⟨ν,rfl⟩:=g.pre;exact h v H' μ ⟨⟨[],by simp⟩,g.ext⟩ (hs.back lH c1.1) (aq.down d hv (by rw[hs.len];exact c1.2))
  ·rw[afo c1]at h;cases d with
   | loc k =>
    dsimp only at h;cases e:st'[k]? with
    | none=>rw[e]at h;exact h
    | some o =>
     rw[e]at h;dsimp only at h;by_cases c2:st'.take st.length=st/\st.length<=k/\lO st.length o
     ·rw[afn c2]at h;intro v H' μ' g lH hv;obtain⟨ν,rfl⟩:=g.pre;obtain⟨a,h1,rfl⟩:=aq.aL.mp hv;refine h _ H' (μ++[a]) ⟨⟨[a],rfl⟩,g.ext⟩ (hs.acf lH c2.1 c2.2.1 e c2.2.2 h1) (aq.aL.mpr ⟨a,?_,rfl⟩);rw[<-hs.len];simp
     ·rw[afo c2]at h;exact h
   | _=>exact h
def rD(h:vz K n (bF F) vs H Q E):vz K n F vs H Q E:=by
 obtain⟨hl,μ,ds,st,h1,h2,h3⟩:=h;exact⟨hl,μ,ds,st,h1,h2,zu8 h2 h3⟩
def sZ(h:under st.length d):gc st (.ok d (st++g))=.ok d st:=by
 unfold gc;dsimp only;rw[afn ⟨by simp,h⟩]
def Vg(h:lO st.length o):gc st (.ok (.loc (st.length+g.length)) (st++g++o::g'))=.ok 0x2 (st++[o]):=by
 unfold gc;dsimp only;rw[afo 0x1];have e:(st++g++o::g')[st.length+g.length]? = some o:=by
  rw[h_ 0x1];simp
 rw[e];dsimp only;rw[afn ⟨by simp,by omega,h⟩]
section
variable  {X:Cx}{e a b c:Expr}{es:List Expr}{ma mb mc:ME}{mA:MA}{pos p2 p:Pos}
noncomputable def wZ:List D->ak->R D
 | [.str cs],st=>if cs.length<=1000000 then .ok (.int cs.length) st else .bad
 | [.tup ds],st=>.ok (.int ds.length) st
 | [.loc n],st=>match aA st n with | some ds=>.ok (.int ds.length) st | none=>.bad
 | _,_=>.bad
def zqo:cL X (.builtin "len") (N_ X wZ):=by
 refine cL.weak (cL.or znp znq) ?_;rintro xs H Q ⟨μ,st,ds,hs,hv,hp⟩;unfold wZ at hp
 split at hp
 ·rename_i cs
  split at hp
  ·rename_i hl;obtain⟨v,rfl,q⟩:=ao.one hv;rw[aq.aP]at q;subst q;exact .inl ⟨_,rfl,by rw[zgl];exact yV hl,by rw[zgl];exact hp.ret hs (aq.aN.mpr rfl)⟩
  ·exact hp.elim
 ·obtain⟨v,rfl,q⟩:=ao.one hv;obtain⟨p,ys,rfl,q1,q2⟩:=aq.aU.mp q;exact .inr ⟨p,ys,rfl,.inr q1.rC,by rw[<-q2.length];exact hp.ret hs (aq.aN.mpr rfl)⟩
 ·rename_i n;cases e:aA st n with
  | none=>rw[e]at hp;exact hp.elim
  | some ds =>
   rw[e]at hp;show 12;obtain⟨p',ys,r1,r2,r3⟩:=hs.items e;show 7;exact .inr ⟨p,ys,rfl,.inl r2,by rw[<-r3.length];exact hp.ret hs (aq.aN.mpr rfl)⟩
 ·exact hp.elim
noncomputable def Gi:List D->ak->R D
 | [.int i],st=>.ok (.int i) st
 | [.bl k],st=>.ok (.int (if k then 1 else 0)) st
 | _,_=>.bad
def GZ:cL X (.type "int") (N_ X Gi):=by
 refine cL.weak G3 ?_;rintro xs H Q ⟨μ,st,ds,hs,hv,hp⟩;unfold Gi at hp
 split at hp
 ·obtain⟨v,rfl,q⟩:=ao.one hv;rw[aq.aN]at q;subst q;exact .inl ⟨_,rfl,hp.ret hs (aq.aN.mpr rfl)⟩
 ·obtain⟨v,rfl,q⟩:=ao.one hv;rw[aq.bu]at q;subst q;exact .inr ⟨_,rfl,hp.ret hs (aq.aN.mpr rfl)⟩
 ·exact hp.elim
noncomputable def ou:List D->ak->R D
 | [.tup ds],st=>.ok 0x2 (st++[.lst ds])
 | [.loc n],st=>match aA st n with | some ds=>.ok 0x2 (st++[.lst ds]) | none=>.bad
 | _,_=>.bad
def zut:cL X (.type "list") (N_ X ou):=by
 refine cL.weak zog ?_;rintro xs H Q ⟨μ,st,ds,hs,hv,hp⟩;unfold ou at hp
 split at hp
 ·obtain⟨v,rfl,q⟩:=ao.one hv;obtain⟨p,ys,rfl,q1,q2⟩:=aq.aU.mp q;exact⟨p,ys,rfl,.inr q1.rC,λl hl=>hp.newList hs q2 hl⟩
 ·rename_i n;cases e:aA st n with
  | none=>rw[e]at hp;exact hp.elim
  | some ds =>
   rw[e]at hp;show 12;obtain⟨p',ys,r1,r2,r3⟩:=hs.items e;show 7;exact⟨p,ys,rfl,.inl r2,λl hl=>hp.newList hs r3 hl⟩
 ·exact hp.elim
noncomputable def tyD:D->ak->Option String
 | .non,_=>some "NoneType"
 | .bl _,_=>some "bool"
 | .int _,_=>some "int"
 | .str _,_=>some "str"
 | .tup _,_=>some "tuple"
 | .loc n,st=>match st[n]? with
  | some (.lst _)=>some "list"
  | some (.frz _)=>some "list"
  | some (.dic _)=>some "dict"
  | some (.dkc _)=>some "dict"
  | _=>none
def K9{pins:List 0x6}{σ:L2.St}{μ:List Addr}{H:Hp}{s:Shared}{A:Around}{E:Value->Shared->Prop}{Q:Value->Shared->Prop}{cv:Value}{k:Bool}{d:D}{st:ak}{x:V}{u:Value}{T:String}
  (I:Inv X pins σ H s) (hs:aX X.K μ H st) (hd:aq X.K μ H d x) (rx:RelV x u) (ht:tyD d st=some T) (e:PySem.W.kitOne X.K (.type T) cv=some k) (h:∀tk,Q (.bool k) { s with toks:=tk }) :
  wpAny 0x7 A (call (.builtin "isinstance") [u,cv]) Q E s:=by
 cases d with
 | non=>rw[aq.bK]at hd;subst hd;cases ht;exact ZZ I rx (.non) e h
 | bl y=>rw[aq.bu]at hd;subst hd;cases ht;exact ZZ I rx (.bl y) e h
 | int y=>rw[aq.aN]at hd;subst hd;cases ht;exact ZZ I rx (.int y) e h
 | str y=>rw[aq.aP]at hd;subst hd;cases ht;exact ZZ I rx (.str _) e h
 | tup ds =>
  obtain⟨a,xs,rfl,q1,q2⟩:=aq.aU.mp hd;cases ht;obtain⟨its,_,p,_⟩:=I.tuple (q1.rC);obtain⟨o,h1,h2,_⟩:=p;cases (show u=Value.ref a from rx);exact afv PySem.W.kitx_tuple I.qO ⟨o,h1,h2⟩ e (λz=>nomatch z) h
 | loc n =>
  obtain⟨a,q1,rfl⟩:=aq.aL.mp hd;simp only[tyD]at ht;have lst:∀ds,aA st n=some ds->PySem.W.kitOne X.K (.type "list") cv=some k->wpAny 0x7 A (call (.builtin "isinstance") [u,cv]) Q E s:=λds e1 e2=>by
   obtain⟨p',ys,r1,r2,r3⟩:=hs.items e1;show 7;obtain⟨its,_,p,_⟩:=I.list r2;cases (show u=Value.ref a from rx);exact afv PySem.W.kitx_list I.qO p.isList.typeIs e2 (λz=>nomatch z) h
  cases e1:st[n]? with
  | none=>rw[e1]at ht;cases ht
  | some mo =>
   rw[e1]at ht;cases mo with
   | lst ds=>cases ht;exact lst ds (by unfold aA;rw[e1]) e
   | frz ds=>cases ht;exact lst ds (by unfold aA;rw[e1]) e
   | dic kvs =>
    cases ht;obtain⟨p',r1,ws,r2,_⟩:=hs.at_ n _ e1;show 7;exact ZZ I rx (.dT r2) e h
   | dkc kvs =>
    cases ht;obtain⟨p',r1,ws,r2,_⟩:=hs.at_ n _ e1;show 7;exact ZZ I rx (.dK r2) e h
   | _=>cases ht
noncomputable def lV(t T:String):Bool:=t==T || (t == "bool" && T == "int")
noncomputable def yt(T:String):D->ak->R D:=λd st=>match tyD d st with | some t=>.ok (.bl (lV t T)) st | none=>.bad
noncomputable def HR:List String:=["NoneType","bool","int","str","tuple","list","dict"]
def O8{d:D}{st:ak}{t:String}(h:tyD d st=some t):t∈HR:=by
 cases d with
 | loc n =>
  simp only[tyD]at h
  split at h<;>cases h<;>decide
 | _=>cases h;decide
def rIs(X:Cx)(T:String):List V->Hp->VK->Prop:=λxs H Q=>∃μ st d x,xs=[x,.ty T]/\aX X.K μ H st/\aq X.K μ H d x/\bR X μ H (lX X) Q (yt T d st)
def M6{T:String}(hT:∀t∈HR,PySem.W.kitOne X.K (.type t) (.type T)=some (lV t T)):cL X (.builtin "isinstance") (rIs X T):=by
 rintro pins s σ H xs us Q I hr ⟨μ,st,d,x,rfl,hs,hd,hp⟩;obtain⟨u,w',rfl,r1,r2⟩:=vals2 hr;cases (show w'=Value.type T from r2);unfold yt at hp;cases e:tyD d st with
 | none=>rw[e]at hp;exact hp.elim
 | some t =>
  rw[e]at hp;exact K9 I hs hd r1 e (hT t (O8 e)) λtk=>⟨.bl (lV t T),H,I.tok tk,rfl,hp.ret hs (aq.bu.mpr rfl)⟩
def Rb{K:PySem.W.Frag}:∀t∈HR,PySem.W.kitOne K (.type t) (.type "str")=some (lV t "str"):=by
 intro t ht;simp only[HR,gj,kh,afI]at ht;rcases ht with rfl | rfl | rfl | rfl | rfl | rfl | rfl<;>rfl
def Yg{T:String}{xT:Str}(hT:∀t∈HR,PySem.W.kitOne X.K (.type t) (.type T)=some (lV t T))(h:JE X e ma)(hg:Gl X "isinstance")(hm:X.mg "isinstance" = none)(hgT:Gl X xT)(hmT:X.mg xT=none)
  (hv:bootBuiltins xT=some (.type T)) (hb:bootBuiltins "isinstance" = some (.builtin "isinstance")) (hnT:xT ≠ "__name__":=by decide) (hdT:(xT==("__debug__":Str))=false:=by decide)
  (bJ:starEach [e,.Name xT p2] X.env=[0xd,(false,eval (.Name xT p2) X.env)]:=by rfl) (iQ:starEach [.Name xT p2] X.env=[(false,eval (.Name xT p2) X.env)]:=by rfl) (p_:#[13,pos,[.Name xT p2]].any (·.1)=false:=by rfl) :
  JE X (.Call (.Name "isinstance" p) [e,.Name xT p2] [] pos) (wA (yt T) ma):=by
 refine JE.of (zt8 (M6 hT) hg hm hb (zmg h (zmg (QK (v:=.ty T) hgT hmT hv rfl hnT hdT) An iQ) bJ) 0x5 0x5 bJ p_) fun σ H Q zz=>?_;show 1;show 3;rintro x H1 ⟨μ1,st1,d,g1,bJ,hx,aQ⟩;exact⟨μ1,st1,d,x,rfl,bJ,hx,aQ⟩
end
end M
namespace M
open PySem PySem.Spec PySem.SeqAt L2
mutual
noncomputable def jr:D->D->Bool
 | .non,.non=>true
 | .bl a,.bl b=>a==b
 | .bl a,.int b=>(if a then 1 else 0)==b
 | .int a,.bl b=>a==(if b then 1 else 0)
 | .int a,.int b=>a==b
 | .str a,.str b=>a==b
 | .tup a,.tup b=>j8 a b
 | _,_=>false
noncomputable def j8:List D->List D->Bool
 | [],[]=>true
 | a::as,b::bs=>jr a b && j8 as bs
 | _,_=>false
end
mutual
noncomputable def flat:D->Bool
 | .loc _=>false
 | .tup ds=>dw ds
 | _=>true
noncomputable def dw:List D->Bool
 | []=>true
 | d::ds=>flat d && dw ds
end
mutual
noncomputable def dep:D->Nat
 | .tup ds=>deps ds+1
 | _=>0
noncomputable def deps:List D->Nat
 | []=>0
 | d::ds=>max (dep d) (deps ds)
end
mutual
noncomputable def dZ:D->D->Nat
 | .tup a,.tup b=>iZ a b+1
 | _,_=>0
noncomputable def iZ:List D->List D->Nat
 | a::as,b::bs=>max (dZ a b) (iZ as bs)
 | _,_=>0
end
@[simp] def zt2(a b:List D):dZ (.tup a) (.tup b)=iZ a b+1:=by simp[dZ]
@[simp] def ab8(d:D):dZ .non d=0:=by simp[dZ]
@[simp] def acJ(b:Bool)(d:D):dZ (.bl b) d=0:=by simp[dZ]
@[simp] def MN(b:Int)(d:D):dZ (.int b) d=0:=by simp[dZ]
@[simp] def MJ(b:List Nat)(d:D):dZ (.str b) d=0:=by simp[dZ]
@[simp] def ab9(b:Nat)(d:D):dZ (.loc b) d=0:=by simp[dZ]
@[simp] def aau(d:D):dZ d .non=0:=by cases d<;>simp[dZ]
@[simp] def ab_(b:Bool)(d:D):dZ d (.bl b)=0:=by cases d<;>simp[dZ]
@[simp] def aav(b:Int)(d:D):dZ d (.int b)=0:=by cases d<;>simp[dZ]
@[simp] def aat(b:List Nat)(d:D):dZ d (.str b)=0:=by cases d<;>simp[dZ]
@[simp] def aas(bs:List D):iZ [] bs=0:=by simp[iZ]
@[simp] def Zg(as:List D):iZ as []=0:=by cases as<;>simp[iZ]
@[simp] def zmp(a b:D)(as bs:List D):iZ (a::as) (b::bs)=max (dZ a b) (iZ as bs):=by simp[iZ]
@[simp] def abT:flat .non=true:=by simp[flat]
@[simp] def acF(b:Bool):flat (.bl b)=true:=by simp[flat]
@[simp] def LC(b:Int):flat (.int b)=true:=by simp[flat]
@[simp] def Lz(b:List Nat):flat (.str b)=true:=by simp[flat]
@[simp] def Ly(b:List D):flat (.tup b)=dw b:=by simp[flat]
@[simp] def aar:dw []=true:=by simp[dw]
@[simp] def zgf(d:D)(ds:List D):dw (d::ds)=(flat d && dw ds):=by simp[dw]
@[simp] def acH:dep .non=0:=by simp[dep]
@[simp] def aez(b:Bool):dep (.bl b)=0:=by simp[dep]
@[simp] def acI(b:Int):dep (.int b)=0:=by simp[dep]
@[simp] def acG(b:List Nat):dep (.str b)=0:=by simp[dep]
@[simp] def Sg(b:List D):dep (.tup b)=deps b+1:=by simp[dep]
@[simp] def ab1:deps []=0:=by simp[deps]
@[simp] def Gz(d:D)(ds:List D):deps (d::ds)=max (dep d) (deps ds):=by simp[deps]
mutual
theorem zsw:∀(a b:D),dZ a b<=dep a
 | .tup a,.tup b=>by rw[zt2,Sg];exact Nat.succ_le_succ (zol a b)
 | .tup a,.non=>by simp
 | .tup a,.bl _=>by simp
 | .tup a,.int _=>by simp
 | .tup a,.str _=>by simp
 | .tup a,.loc _=>by simp[dZ]
 | .non,_=>by simp
 | .bl _,_=>by simp
 | .int _,_=>by simp
 | .str _,_=>by simp
 | .loc _,_=>by simp
theorem zol:∀(a b:List D),iZ a b<=deps a
 | [],b=>by simp
 | a::as,[]=>by simp
 | a::as,b::bs=>by
  rw[zmp,Gz];have h1:=zsw a b;have h2:=zol as bs;omega
end
noncomputable def eqJ(as bs:List D)(j:Nat):Bool:=match as[j]?,bs[j]? with | some a,some b=>jr a b | _,_=>true
theorem zkr:∀(as bs:List D),j8 as bs=((List.range (min as.length bs.length)).all (eqJ as bs) && as.length==bs.length)
 | [],[]=>by simp[j8]
 | [],b::bs=>by simp[j8]
 | a::as,[]=>by simp[j8]
 | a::as,b::bs=>by
  rw[j8,zkr as bs];have e1:min (a::as).length (b::bs).length=min as.length bs.length+1:=by simp
  rw[e1,List.range_succ_eq_map,List.all_cons,List.all_map];have e2:((a::as).length==(b::bs).length)=(as.length==bs.length):=by
   rw[m8];simp
  rw[e2];have e3:eqJ (a::as) (b::bs) 0=jr a b:=rfl;rw[e3,Bool.and_assoc]
  rfl
mutual
theorem zoe:∀(d:D),flat d=true->jr d d=true
 | .non,_=>by simp[jr]
 | .bl _,_=>by simp[jr]
 | .int _,_=>by simp[jr]
 | .str _,_=>by simp[jr]
 | .tup ds,h=>by rw[jr];exact zlg ds (by simpa using h)
 | .loc _,h=>by simp[flat]at h
theorem zlg:∀(ds:List D),dw ds=true->j8 ds ds=true
 | [],_=>by simp[j8]
 | d::ds,h=>by
  rw[zgf,gG]at h;rw[j8,zoe d h.1,zlg ds h.2];rfl
end
section
variable  {X:Cx}{pins:List 0x6}{σ:L2.St}{μ:List Addr}{H:Hp}{s:Shared}
mutual
theorem zn3(I:Inv X pins σ H s):∀(d1 d2:D) {v:V},flat d1=true->flat d2=true->aq X.K μ H d1 v->aq X.K μ H d2 v->d1=d2
 | .non,d2,_,_,f2,h1,h2=>by
  rw[aq.bK]at h1;subst h1;cases d2 with
  | non=>rfl
  | bl _=>rw[aq.bu]at h2;cases h2
  | int _=>rw[aq.aN]at h2;cases h2
  | str _=>rw[aq.aP]at h2;cases h2
  | tup _=>obtain⟨_,_,q,_⟩:=aq.aU.mp h2;cases q
  | loc _=>simp[flat]at f2
 | .bl b,d2,_,_,f2,h1,h2=>by
  rw[aq.bu]at h1;subst h1;cases d2 with
  | bl _=>rw[aq.bu]at h2;cases h2;rfl
  | non=>rw[aq.bK]at h2;cases h2
  | int _=>rw[aq.aN]at h2;cases h2
  | str _=>rw[aq.aP]at h2;cases h2
  | tup _=>obtain⟨_,_,q,_⟩:=aq.aU.mp h2;cases q
  | loc _=>simp[flat]at f2
 | .int b,d2,_,_,f2,h1,h2=>by
  rw[aq.aN]at h1;subst h1;cases d2 with
  | int _=>rw[aq.aN]at h2;cases h2;rfl
  | non=>rw[aq.bK]at h2;cases h2
  | bl _=>rw[aq.bu]at h2;cases h2
  | str _=>rw[aq.aP]at h2;cases h2
  | tup _=>obtain⟨_,_,q,_⟩:=aq.aU.mp h2;cases q
  | loc _=>simp[flat]at f2
 | .str b,d2,_,_,f2,h1,h2=>by
  rw[aq.aP]at h1;subst h1;cases d2 with
  | str _=>rw[aq.aP]at h2;injection h2 with h3;rw[zps.mp h3]
  | non=>rw[aq.bK]at h2;cases h2
  | bl _=>rw[aq.bu]at h2;cases h2
  | int _=>rw[aq.aN]at h2;cases h2
  | tup _=>obtain⟨_,_,q,_⟩:=aq.aU.mp h2;cases q
  | loc _=>simp[flat]at f2
 | .tup as,d2,_,f1,f2,h1,h2=>by
  obtain⟨a,xs,rfl,q1,q2⟩:=aq.aU.mp h1;cases d2 with
  | tup bs =>
   obtain⟨b,ys,e,r1,r2⟩:=aq.aU.mp h2;cases e;rw[I.tD (r1.rC) (q1.rC)]at r2;rw[zpl I as bs (by simpa using f1) (by simpa using f2) q2 r2]
  | non=>rw[aq.bK]at h2;cases h2
  | bl _=>rw[aq.bu]at h2;cases h2
  | int _=>rw[aq.aN]at h2;cases h2
  | str _=>rw[aq.aP]at h2;cases h2
  | loc _=>simp[flat]at f2
 | .loc _,_,_,f1,_,_,_=>by simp[flat]at f1
theorem zpl(I:Inv X pins σ H s):∀(as bs:List D) {vs:List V},dw as=true->dw bs=true->ao X.K μ H as vs->ao X.K μ H bs vs->as=bs
 | [],bs,_,_,_,h1,h2=>by
  rw[ao]at h1;subst h1;cases bs with
  | nil=>rfl
  | cons _ _=>rw[ao]at h2;obtain⟨_,_,q,_⟩:=h2;cases q
 | a::as,bs,_,f1,f2,h1,h2=>by
  rw[ao]at h1;obtain⟨v,r,rfl,q1,q2⟩:=h1;cases bs with
  | nil=>rw[ao]at h2;cases h2
  | cons b bs =>
   rw[ao]at h2;obtain⟨v',r',e,r1,r2⟩:=h2;cases e;rw[zgf,gG]at f1 f2;rw[zn3 I a b f1.1 f2.1 q1 r1,zpl I as bs f1.2 f2.2 q2 r2]
end
mutual
theorem L_(I:Inv X pins σ H s):∀(d1 d2:D) {A:Around} {x y:V} {u w:Value},flat d1=true->flat d2=true->A.units+dZ d1 d2<cLine->aq X.K μ H d1 x->aq X.K μ H d2 y->RelV x u->RelV y w ->
  EqAt A s u w (jr d1 d2)/\RcAt A s u w (jr d1 d2)/\RcNeAt A s u w (!jr d1 d2)
 | d1,d2,A,x,y,u,w,f1,f2,hu,h1,h2,r1,r2=>by
  cases d1 with
  | loc _=>simp[flat]at f1
  | non =>
   rw[aq.bK]at h1;subst h1;cases (show u=Value.none from r1);cases d2 with
   | loc _=>simp[flat]at f2
   | non=>rw[aq.bK]at h2;subst h2;cases (show w=Value.none from r2);exact⟨EqAt.same _,RcAt.none_none,RcNeAt.none_none⟩
   | bl b=>rw[aq.bu]at h2;subst h2;cases (show w=Value.bool b from r2);exact⟨EqAt.none_bool b,RcAt.none_bool b,RcNeAt.none_bool b⟩
   | int b=>rw[aq.aN]at h2;subst h2;obtain⟨t,rfl⟩:=r2;exact⟨EqAt.none_int b t,RcAt.none_int b t,RcNeAt.none_int b t⟩
   | str b=>rw[aq.aP]at h2;subst h2;obtain⟨t,rfl⟩:=r2;exact⟨EqAt.none_str _ t,RcAt.none_str _ t,RcNeAt.none_str _ t⟩
   | tup bs =>
    show 11;exact⟨EqAt.none_tuple p 0x0,RcAt.none_tuple p 0x0,RcNeAt.none_tuple p 0x0⟩
  | bl a =>
   rw[aq.bu]at h1;subst h1;cases (show u=Value.bool a from r1);cases d2 with
   | loc _=>simp[flat]at f2
   | non=>rw[aq.bK]at h2;subst h2;cases (show w=Value.none from r2);exact⟨EqAt.bool_none a,RcAt.bool_none a,RcNeAt.bool_none a⟩
   | bl b=>rw[aq.bu]at h2;subst h2;cases (show w=Value.bool b from r2);simp only[jr];exact⟨EqAt.bool_bool a b,RcAt.bool_bool a b,RcNeAt.bool_bool a b⟩
   | int b=>rw[aq.aN]at h2;subst h2;obtain⟨t,rfl⟩:=r2;simp only[jr];exact⟨EqAt.bool_int a b t,RcAt.bool_int a b t,RcNeAt.bool_int a b t⟩
   | str b=>rw[aq.aP]at h2;subst h2;obtain⟨t,rfl⟩:=r2;exact⟨EqAt.bool_str a _ t,RcAt.bool_str a _ t,RcNeAt.bool_str a _ t⟩
   | tup bs =>
    show 11;exact⟨EqAt.bool_tuple a p 0x0,RcAt.bool_tuple a p 0x0,RcNeAt.bool_tuple a p 0x0⟩
  | int a =>
   rw[aq.aN]at h1;subst h1;obtain⟨ta,rfl⟩:=r1;cases d2 with
   | loc _=>simp[flat]at f2
   | non=>rw[aq.bK]at h2;subst h2;cases (show w=Value.none from r2);exact⟨EqAt.int_none a ta,RcAt.int_none a ta,RcNeAt.int_none a ta⟩
   | bl b=>rw[aq.bu]at h2;subst h2;cases (show w=Value.bool b from r2);simp only[jr];exact⟨EqAt.int_bool a ta b,RcAt.int_bool a ta b,RcNeAt.int_bool a ta b⟩
   | int b=>rw[aq.aN]at h2;subst h2;obtain⟨t,rfl⟩:=r2;simp only[jr];exact⟨EqAt.int_int a ta b t,RcAt.int_int a ta b t,RcNeAt.int_int a ta b t⟩
   | str b=>rw[aq.aP]at h2;subst h2;obtain⟨t,rfl⟩:=r2;exact⟨EqAt.int_str a ta _ t,RcAt.int_str a ta _ t,RcNeAt.int_str a ta _ t⟩
   | tup bs =>
    show 11;exact⟨EqAt.int_tuple a ta p 0x0,RcAt.int_tuple a ta p 0x0,RcNeAt.int_tuple a ta p 0x0⟩
  | str a =>
   rw[aq.aP]at h1;subst h1;obtain⟨ta,rfl⟩:=r1;cases d2 with
   | loc _=>simp[flat]at f2
   | non=>rw[aq.bK]at h2;subst h2;cases (show w=Value.none from r2);exact⟨EqAt.str_none _ ta,RcAt.str_none _ ta,RcNeAt.str_none _ ta⟩
   | bl b=>rw[aq.bu]at h2;subst h2;cases (show w=Value.bool b from r2);exact⟨EqAt.str_bool _ ta b,RcAt.str_bool _ ta b,RcNeAt.str_bool _ ta b⟩
   | int b=>rw[aq.aN]at h2;subst h2;obtain⟨t,rfl⟩:=r2;exact⟨EqAt.str_int _ ta b t,RcAt.str_int _ ta b t,RcNeAt.str_int _ ta b t⟩
   | str b =>
    rw[aq.aP]at h2;subst h2;obtain⟨t,rfl⟩:=r2;have e:(strOf a==strOf b)=jr (.str a) (.str b):=by
     rw[jr,m8,beq_iff_eq,beq_iff_eq];exact zps
    rw[<-e];exact⟨EqAt.str_str _ ta _ t,RcAt.str_str _ ta _ t,RcNeAt.str_str _ ta _ t⟩
   | tup bs =>
    show 11;exact⟨EqAt.str_tuple _ ta p 0x0,RcAt.str_tuple _ ta p 0x0,RcNeAt.str_tuple _ ta p 0x0⟩
  | tup as =>
   have h1':=h1;have h2':=h2;obtain⟨a,xs,rfl,q1,q2⟩:=aq.aU.mp h1;cases (show u=Value.ref a from r1);obtain⟨its,ra,p,_⟩:=I.tuple (q1.rC);cases d2 with
   | loc _=>simp[flat]at f2
   | non=>rw[aq.bK]at h2;subst h2;cases (show w=Value.none from r2);exact⟨EqAt.tuple_none p 0x0,RcAt.tuple_none p 0x0,RcNeAt.tuple_none p 0x0⟩
   | bl b=>rw[aq.bu]at h2;subst h2;cases (show w=Value.bool b from r2);exact⟨EqAt.tuple_bool b p 0x0,RcAt.tuple_bool b p 0x0,RcNeAt.tuple_bool b p 0x0⟩
   | int b=>rw[aq.aN]at h2;subst h2;obtain⟨t,rfl⟩:=r2;exact⟨EqAt.tuple_int b t p 0x0,RcAt.tuple_int b t p 0x0,RcNeAt.tuple_int b t p 0x0⟩
   | str b=>rw[aq.aP]at h2;subst h2;obtain⟨t,rfl⟩:=r2;exact⟨EqAt.tuple_str _ t p 0x0,RcAt.tuple_str _ t p 0x0,RcNeAt.tuple_str _ t p 0x0⟩
   | tup bs =>
    obtain⟨b,ys,rfl,g1,g2⟩:=aq.aU.mp h2;cases (show w=Value.ref b from r2);obtain⟨rO,rb,p2,_⟩:=I.tuple (g1.rC);rw[zt2]at hu;rw[Ly]at f1 f2;have items:=Bh I as bs (A:=A.in1) f1 f2 (by show A.units+1+iZ as bs<cLine;omega) q2 g2 ra rb;have la:as.length=its.toArray.size:=by rw[gF,q2.length,ra.length]
    have lb:bs.length=rO.toArray.size:=by rw[gF,g2.length,rb.length]
    have e:((List.range (min its.toArray.size rO.toArray.size)).all (eqJ as bs) && its.toArray.size==rO.toArray.size)=jr (.tup as) (.tup bs):=by
     rw[jr,zkr,la,lb]
    have rc:RcAt A s (.ref a) (.ref b) (jr (.tup as) (.tup bs)):=by
     rw[<-e];exact RcAt.tuples p p2 0x0 λj j1 j2=>items j (by simpa using j1) (by simpa using j2)
    have ne:RcNeAt A s (.ref a) (.ref b) (!jr (.tup as) (.tup bs)):=by
     rw[<-e];exact RcNeAt.tuples p p2 0x0 λj j1 j2=>items j (by simpa using j1) (by simpa using j2)
    refine⟨?_,rc,ne⟩;by_cases hab:a=b
    ·subst hab;have:(D.tup as)=.tup bs:=zn3 I _ _ (by simpa using f1) (by simpa using f2) h1' h2';rw[<-this,zoe _ (by simpa using f1)];exact EqAt.same _
    ·exact EqAt.of_refs hab rc
theorem Bh(I:Inv X pins σ H s):∀(as bs:List D) {A:Around} {xs ys:List V} {us ws:List Value},dw as=true->dw bs=true->A.units+iZ as bs<cLine->ao X.K μ H as xs->ao X.K μ H bs ys->Vals xs us->Vals ys ws ->
  ∀(j:Nat) (h1:j<us.length) (h2:j<ws.length),EqAt A s us[j] ws[j] (eqJ as bs j)
 | [],bs,A,xs,ys,us,ws,_,_,_,h1,_,r1,_,j,j1,_=>by
  rw[ao]at h1;subst h1;cases r1;simp at j1
 | a::as,[],A,xs,ys,us,ws,_,_,_,_,h2,_,r2,j,_,j2=>by
  rw[ao]at h2;subst h2;cases r2;simp at j2
 | a::as,b::bs,A,xs,ys,us,ws,f1,f2,hu,h1,h2,r1,r2,j,j1,j2=>by
  rw[ao]at h1 h2;obtain⟨v,r,rfl,q1,q2⟩:=h1;obtain⟨v',r',rfl,g1,g2⟩:=h2;cases r1 with
  | cons r1 t1 =>
  cases r2 with
  | cons r2 t2 =>
  rw[zgf,gG]at f1 f2;rw[zmp]at hu;cases j with
  | zero=>exact (L_ I a b f1.1 f2.1 0x0 q1 g1 r1 r2).1
  | succ j=>exact Bh I as bs f1.2 f2.2 0x0 q2 g2 t1 t2 j (by simpa using j1) (by simpa using j2)
end
end
noncomputable def jU(L:Nat):D->D->ak->Option Bool
 | .loc m,.loc n,st=>match aA st m,aA st n with
  | some a,some b=>if dw a=true/\dw b=true/\iZ a b+1<L then some (j8 a b) else none
  | _,_=>none
 | .loc m,.non,st=>(aA st m).map λ_=>false
 | .loc m,.tup b,st=>if 0<L then (aA st m).map λ_=>false else none
 | .non,.loc n,st=>(aA st n).map λ_=>false
 | .tup a,.loc n,st=>if 0<L then (aA st n).map λ_=>false else none
 | d1,d2,_=>if flat d1=true/\flat d2=true/\dZ d1 d2<L then some (jr d1 d2) else none
section
variable  {X:Cx}{pins:List 0x6}{σ:L2.St}{μ:List Addr}{H:Hp}{s:Shared}{L:Nat}
def Gw(I:Inv X pins σ H s)(f1:dw as=true)(f2:dw bs=true)(hu:A.units+1+iZ as bs<cLine)(h1:ao X.K μ H as xs)(h2:ao X.K μ H bs ys) 
  (q1:oN X.K H a xs) (q2:oN X.K H b ys):RcAt A s (.ref a) (.ref b) (j8 as bs)/\RcNeAt A s (.ref a) (.ref b) (!j8 as bs):=by
 obtain⟨its,ra,p,_⟩:=I.list q1;obtain⟨rO,rb,p2,_⟩:=I.list q2;have la:as.length=its.toArray.size:=by rw[gF,h1.length,ra.length]
 have lb:bs.length=rO.toArray.size:=by rw[gF,h2.length,rb.length]
 by_cases hl:its.toArray.size=rO.toArray.size
 ·have items:=Bh I as bs (A:=A.in1) f1 f2 hu h1 h2 ra rb;have e:((List.range its.toArray.size).all (eqJ as bs))=j8 as bs:=by
   rw[zkr,la,lb,<-hl,Nat.min_self];simp
  rw[<-e];exact⟨RcAt.lists p.isList p2.isList hl 0x0 λj j1 j2=>items j (by simpa using j1) (by simpa using j2),RcNeAt.lists p.isList p2.isList hl 0x0 λj j1 j2=>items j (by simpa using j1) (by simpa using j2)⟩
 ·have e:j8 as bs=false:=by
   rw[zkr,la,lb,pL];exact .inr (by simpa using hl)
  have hl':(its.toArray.size != rO.toArray.size)=true:=by simpa using hl
  rw[e];exact⟨RcAt.lists_lengths p.isList p2.isList hl' 0x0,RcNeAt.lists_lengths p.isList p2.isList hl' 0x0⟩
def Ma(I:Inv X pins σ H s)(hs:aX X.K μ H st)(e:jU L d1 d2 st=some k)(hu:A.units+L<cLine)(h1:aq X.K μ H d1 x)(h2:aq X.K μ H d2 y)(r1:RelV x u)(r2:RelV y w) :
  RcAt A s u w k/\RcNeAt A s u w (!k):=by
 have plain:∀{d1 d2:D},aq X.K μ H d1 x->aq X.K μ H d2 y->(if flat d1=true/\flat d2=true/\dZ d1 d2<L then some (jr d1 d2) else none)=some k->RcAt A s u w k/\RcNeAt A s u w (!k):=λ{d1 d2} h1 h2 e=>by
  split at e
  ·rename_i c;cases e;exact (L_ I d1 d2 c.1 c.2.1 0x0 h1 h2 r1 r2).2
  ·cases e
 have list:∀{n:Nat} {v:V} {z:Value} {ds:List D},aq X.K μ H (.loc n) v->RelV v z->aA st n=some ds->∃p its,z=.ref p/\s.heap.IsList p its:=λ{n v z ds} h r q=>by
  obtain⟨p,q1,rfl⟩:=aq.aL.mp h;obtain⟨p',xs,g1,g2,g3⟩:=hs.items q;rw[q1]at g1;cases g1;cases (show z=Value.ref p from r);obtain⟨its,_,pl,_⟩:=I.list g2;exact⟨p,_,rfl,pl.isList⟩
 have tuple:∀{bs:List D} {v:V} {z:Value},aq X.K μ H (.tup bs) v->RelV v z->∃p its,z=.ref p/\s.heap.IsTuple p its:=λ{bs v z} h r=>by
  obtain⟨p,xs,rfl,q1,_⟩:=aq.aU.mp h;cases (show z=Value.ref p from r);obtain⟨its,_,pl,_⟩:=I.tuple (q1.rC);exact⟨p,_,rfl,pl⟩
 match d1,d2,e,h1,h2 with
 | .loc m,.loc n,e,h1,h2 =>
  simp only[jU]at e;cases e1:aA st m with
  | none=>rw[e1]at e;cases e
  | some as =>
   cases e2:aA st n with
   | none=>rw[e1,e2]at e;cases e
   | some bs =>
    rw[e1,e2]at e;dsimp only at e
    split at e
    ·rename_i c;cases e;obtain⟨p,q1,rfl⟩:=aq.aL.mp h1;obtain⟨p',xs,g1,g2,g3⟩:=hs.items e1;rw[q1]at g1;cases g1;obtain⟨q,q2,rfl⟩:=aq.aL.mp h2;obtain⟨q',ys,k1,k2,k3⟩:=hs.items e2;rw[q2]at k1;cases k1;cases (show u=Value.ref p from r1);cases (show w=Value.ref q from r2);exact Gw I c.1 c.2.1 0x0 g3 k3 g2 k2
    ·cases e
 | .loc m,.non,e,h1,h2 =>
  simp only[jU]at e;cases e1:aA st m with
  | none=>rw[e1]at e;cases e
  | some as =>
   rw[e1]at e;cases e;obtain⟨p,its,rfl,pl⟩:=list h1 r1 e1;rw[aq.bK]at h2;subst h2;cases (show w=Value.none from r2);exact⟨RcAt.list_none pl 0x0,RcNeAt.list_none pl 0x0⟩
 | .non,.loc n,e,h1,h2 =>
  simp only[jU]at e;cases e1:aA st n with
  | none=>rw[e1]at e;cases e
  | some as =>
   rw[e1]at e;cases e;obtain⟨p,its,rfl,pl⟩:=list h2 r2 e1;rw[aq.bK]at h1;subst h1;cases (show u=Value.none from r1);exact⟨RcAt.none_list pl 0x0,RcNeAt.none_list pl 0x0⟩
 | .loc m,.tup bs,e,h1,h2 =>
  simp only[jU]at e
  split at e
  ·cases e1:aA st m with
   | none=>rw[e1]at e;cases e
   | some as =>
    rw[e1]at e;cases e;obtain⟨p,its,rfl,pl⟩:=list h1 r1 e1;obtain⟨q,rO,rfl,pt⟩:=tuple h2 r2;exact⟨RcAt.list_tuple pl pt 0x0,RcNeAt.list_tuple pl pt 0x0⟩
  ·cases e
 | .tup as,.loc n,e,h1,h2 =>
  simp only[jU]at e
  split at e
  ·cases e1:aA st n with
   | none=>rw[e1]at e;cases e
   | some as =>
    rw[e1]at e;cases e;obtain⟨p,its,rfl,pl⟩:=list h2 r2 e1;obtain⟨q,rO,rfl,pt⟩:=tuple h1 r1;exact⟨RcAt.tuple_list pt pl 0x0,RcNeAt.tuple_list pt pl 0x0⟩
  ·cases e
 | .non,.non,e,h1,h2=>exact plain h1 h2 0x18
 | .non,.bl _,e,h1,h2=>exact plain h1 h2 0x18
 | .non,.int _,e,h1,h2=>exact plain h1 h2 0x18
 | .non,.str _,e,h1,h2=>exact plain h1 h2 0x18
 | .non,.tup _,e,h1,h2=>exact plain h1 h2 0x18
 | .bl _,d2,e,h1,h2=>exact plain h1 h2 0x18
 | .int _,d2,e,h1,h2=>exact plain h1 h2 0x18
 | .str _,d2,e,h1,h2=>exact plain h1 h2 0x18
 | .tup _,.non,e,h1,h2=>exact plain h1 h2 0x18
 | .tup _,.bl _,e,h1,h2=>exact plain h1 h2 0x18
 | .tup _,.int _,e,h1,h2=>exact plain h1 h2 0x18
 | .tup _,.str _,e,h1,h2=>exact plain h1 h2 0x18
 | .tup _,.tup _,e,h1,h2=>exact plain h1 h2 0x18
 | .loc _,.bl _,e,h1,h2=>simp[jU,flat]at e
 | .loc _,.int _,e,h1,h2=>simp[jU,flat]at e
 | .loc _,.str _,e,h1,h2=>simp[jU,flat]at e
noncomputable def iw(L:Nat):D->D->ak->R D:=λd1 d2 st=>match jU L d1 d2 st with | some k=>.ok (.bl k) st | none=>.bad
noncomputable def wB(L:Nat):D->D->ak->R D:=λd1 d2 st=>match jU L d1 d2 st with | some k=>.ok (.bl (!k)) st | none=>.bad
def JQ(hu:X.A.units+L<cLine):eO X (compareOp .Eq) (rM X (iw L)):=by
 rintro pins s σ H x y v u Q I rx ry ⟨μ,st,dx,dy,hs,hx,hy,hp⟩;unfold iw at hp;cases e:jU L dx dy st with
 | none=>rw[e]at hp;exact hp.elim
 | some k =>
  rw[e]at hp;exact (Ma I hs e hu hx hy rx ry).1 X.prog X.w X.xe _ ⟨.bl k,H,I,rfl,hp.ret hs (aq.bu.mpr rfl)⟩
def JD(hu:X.A.units+L<cLine):eO X (compareOp .NotEq) (rM X (wB L)):=by
 rintro pins s σ H x y v u Q I rx ry ⟨μ,st,dx,dy,hs,hx,hy,hp⟩;unfold wB at hp;cases e:jU L dx dy st with
 | none=>rw[e]at hp;exact hp.elim
 | some k =>
  rw[e]at hp;exact (Ma I hs e hu hx hy rx ry).2 X.prog X.w X.xe _ ⟨.bl (!k),H,I,rfl,hp.ret hs (aq.bu.mpr rfl)⟩
end
end M
namespace M
open PySem PySem.Spec L2
noncomputable def cM(T:String)(d:D)(st:ak):Bool:=match d with
 | .str _=>T == "str"
 | .loc n=>(match st[n]? with
  | some (.lst _)=>T == "list"
  | some (.frz _)=>T == "list"
  | some (.dic _)=>T == "dict"
  | some (.dkc _)=>T == "dict"
  | _=>false)
 | _=>false
section
variable  {X:Cx}{e a b c o:Expr}{es:List Expr}{ma mb mc mo:ME}{mA:MA}{pos p2 p apos dU:Pos}{T id:String}{name:Str}{g:D->List D->ak->R D}
def C_(h:cM T d st=true)(hs:aX X.K μ H st)(hv:aq X.K μ H d v):tyV X.K T v H:=by
 cases d with
 | str cs=>rw[aq.aP]at hv;subst hv;exact eq_of_beq h
 | loc n =>
  obtain⟨p,q1,rfl⟩:=aq.aL.mp hv;simp only[cM]at h;cases e:st[n]? with
  | none=>rw[e]at h;cases h
  | some o =>
   rw[e]at h;obtain⟨p',r1,r2⟩:=hs.at_ n o e;show 7;cases o with
   | lst ds=>obtain⟨xs,r3,_⟩:=r2;exact .inl ⟨eq_of_beq h,xs,oN.of r3⟩
   | frz ds=>obtain⟨xs,r3,_⟩:=r2;exact .inl ⟨eq_of_beq h,xs,r3.sqL⟩
   | dic ds=>obtain⟨xs,r3,_⟩:=r2;exact .inr (.inr (.inl ⟨eq_of_beq h,.inr ⟨xs,r3⟩⟩))
   | dkc ds=>obtain⟨xs,r3,_⟩:=r2;exact .inr (.inr (.inl ⟨eq_of_beq h,.inl ⟨xs,r3⟩⟩))
   | _=>cases h
 | _=>simp[cM]at h
noncomputable def cz(T:String)(g:D->List D->ak->R D)(mo:ME)(mA:MA):ME:=λenv st=>(mo env st).bind λx st1=>if cM T x st1=true then (mA env st1).bind λxs st2=>g x xs st2 else .bad
noncomputable def fH(T:String)(g:D->List D->ak->R D)(mo:ME):ME:=λenv st=>(mo env st).bind λx st1=>if cM T x st1=true then g x [] st1 else .bad
def Ov(pa:PlainAttrs T)(slot:Slot T name id)(YB:typeOf (.builtin id)=pure (.type "method_descriptor"))(hm:sV X id (Hk X g))(ho:JE X o mo)(ha:JA X (e::es) mA)
  (rR:attributeBase o name X.env (eval o X.env)=eval o X.env:=by rfl)
  (zF:((backTo dU (starEach (e::es) X.env)).all (λx=>!x.1) && #[28,dU].all (λx=>x.1.isSome)
   && decide ((e::es).length+([]:List Keyword).length+0x2e<30))=true:=by rfl)
  (hline:(apos.endLine==dU.line)=true:=by rfl) (hs:starEach (e::es) X.env=0xd::starEach es X.env:=by rfl) (vU:#[13,dU,es].any (·.1)=false:=by rfl):JE X (.Call (.Attribute o name apos) (e::es) [] dU) (cz T g mo mA):=by
 refine JE.of (abg pa slot YB hm ho ha rR zF hline hs vU) fun σ H Q zz=>?_;show 1;show 3;rintro x H1 ⟨μ1,st1,d,g1,bJ,hx,aQ⟩;dsimp only at aQ
 split at aQ
 ·rename_i hT;refine⟨C_ hT bJ hx,μ1,env,st1,hE.mono g1,bJ,(bR.bind aQ).imp ?_⟩;rintro xs H2 ⟨μ2,st2,ds,g2,iQ,j7,d_⟩;exact⟨μ2,st2,d,ds,iQ,hx.mono g2 _,j7,d_⟩
 ·exact aQ.elim
def zor(pa:PlainAttrs T)(slot:Slot T name id)(YB:typeOf (.builtin id)=pure (.type "method_descriptor"))(hm:sV X id (Hk X g))(ho:JE X o mo)
  (rR:attributeBase o name X.env (eval o X.env)=eval o X.env:=by rfl) (hline:(apos.endLine==dU.line)=true:=by rfl):JE X (.Call (.Attribute o name apos) [] [] dU) (fH T g mo):=by
 refine JE.of (W4 pa slot YB hm ho rR hline) fun σ H Q zz=>?_;show 1;show 3;rintro x H1 ⟨μ1,st1,d,g1,bJ,hx,aQ⟩;dsimp only at aQ
 split at aQ
 ·rename_i hT;exact⟨C_ hT bJ hx,μ1,st1,d,[],bJ,hx,ao.nil,aQ⟩
 ·exact aQ.elim
noncomputable def aR:D->List D->ak->R D
 | .loc n,[d],st=>match st[n]? with
  | some (.lst ds)=>if ds.length<1000000 then .ok .non (st.set n (.lst (ds++[d]))) else .bad
  | _=>.bad
 | _,_,_=>.bad
def VG{μ:List Addr}{H:Hp}{st:ak}{n:Nat}{ds ds':List D}{p:Addr}{xs ys:List V}{Q:VK}(hp:bR X μ H (lX X) Q (.ok .non (st.set n (.lst ds'))))(hs:aX X.K μ H st)(e:st[n]? = some (.lst ds))(hq:μ[n]? = some p)(hx:H p=some (.lst xs))(hy:ao X.K μ H ds' ys) :
  Q .non #[15,p,ys]:=by
 obtain⟨g,lH⟩:=vG hs e hq hx hy;exact hp _ _ μ g lH (aq.bK.mpr rfl)
def zse:sV X "list.append" (Hk X aR):=by
 refine sV.weak zqw ?_;rintro x xs H Q ⟨μ,st,d,ds,hs,hx,j7,hp⟩;unfold aR at hp
 split at hp
 ·rename_i n d' ;cases e:st[n]? with
  | none=>rw[e]at hp;exact hp.elim
  | some mo =>
   cases mo with
   | lst l =>
    rw[e]at hp;dsimp only at hp
    split at hp
    ·rename_i hl;obtain⟨p,q1,rfl⟩:=aq.aL.mp hx;obtain⟨y,rfl,q2⟩:=ao.one j7;obtain⟨p',ys,r1,r2,r3⟩:=hs.lst e;show 7;refine⟨p,ys,y,rfl,rfl,r2,by rw[<-r3.length];exact gQ hl 0x5,VG hp hs e q1 r2 (r3.append (ao.cons q2 ao.nil))⟩
    ·exact hp.elim
   | _=>rw[e]at hp;exact hp.elim
 ·exact hp.elim
end
section
variable  {X:Cx}{e a b c l:Expr}{es:List Expr}{ma mb mc:ME}{mA:MA}{pos p2 p xV:Pos}{μ:List Addr}{H:Hp}
noncomputable def tZ(st:ak)(n:Nat):Option (List D×MO):=match st[n]? with
 | some (.lst ds)=>some (ds,.lst ds)
 | some (.frz ds)=>some (ds,.frz ds)
 | _=>none
def zl5(h:tZ st n=some (ds,o)):aA st n=some ds/\st[n]? = some o/\(o=.lst ds\/o=.frz ds):=by
 unfold tZ at h;unfold aA
 split at h
 ·rename_i q;cases h;rw[q];exact⟨rfl,rfl,.inl rfl⟩
 ·rename_i q;cases h;rw[q];exact⟨rfl,rfl,.inr rfl⟩
 ·cases h
def zlw{K:PySem.W.Frag}{st':ak}{n:Nat}{ds:List D}{o:MO}{μ':List Addr}{H':Hp}(ho:o=.lst ds\/o=.frz ds)(hs:aX K μ' H' st')(e:st'[n]? = some o):∃p xs,μ'[n]? = some p/\oN K H' p xs/\ao K μ' H' ds xs:=by
 refine hs.items ?_;unfold aA;rcases ho with rfl | rfl<;>rw[e]
noncomputable def dz:Nat->List D->List D
 | _,[]=>[]
 | k,d::ds=>.tup [.int k,d]::dz (k+1) ds
theorem zfw:∀(ds:List D) (k i:Nat),(dz k ds)[i]? = (ds[i]?).map λd=>.tup [.int ((k+i:Nat):Int),d]
 | [],k,i=>by simp[dz]
 | d::ds,k,0=>by simp[dz]
 | d::ds,k,i+1=>by
  have:=zfw ds (k+1) i;simp only[dz,mQ];rw[this,show k+1+i=k+(i+1) by omega]
theorem ZS:∀(ds:List D) (k:Nat),(dz k ds).length=ds.length
 | [],_=>rfl
 | _::ds,k=>by simp[dz,ZS ds (k+1)]
noncomputable def v9(mA:MA):MI:=λenv st=>(mA env st).bind λds st1=>match ds with
 | [.loc n]=>(match tZ st1 n with | some (xs,o)=>.ok (dz 0 xs,[(n,o)]) st1 | none=>.bad)
 | _=>.bad
def RB{n:Nat}{ds:List D}{q:Addr}{o:MO}(ho:o=.lst ds\/o=.frz ds)(hp:μ[n]? = some q):oO X μ H (Ite X.K q) (dz 0 ds,[(n,o)]):=by
 intro H' μ' st' g hs ok;have e:st'[n]? = some o:=(ok (n,o) 0x1);obtain⟨p',xs,q1,q2,q3⟩:=zlw ho hs e;rw[g.get hp]at q1;cases q1;refine⟨λi d hd=>?_,xs,q2,by rw[<-q3.length];show ds.length<=(dz 0 ds).length;rw[ZS];exact gb _⟩;have zG:(dz 0 ds)[i]? = some d:=hd;rw[zfw]at zG;cases e2:ds[i]? with
 | none=>rw[e2]at zG;cases zG
 | some d0 =>
  rw[e2]at zG;cases zG;obtain⟨v,h1,h2⟩:=q3.get e2;refine⟨⟨xs,v,q2,h1⟩,?_⟩;rintro x DN ⟨pp,y,hn,rfl,rfl,hy⟩;have:=hy xs q2;rw[h1]at this;cases this;refine⟨bj.lay hn,hs.lay hn,aq.aU.mpr ⟨pp,_,rfl,.inl qQ,?_⟩⟩;exact (ao.cons (aq.aN.mpr 0x1) (ao.cons h2 ao.nil)).mono (bj.lay hn) _
def Rm(ha:JA X [a] mA)(hg:Gl X "enumerate")(hm:X.mg "enumerate" = none)(hs:starEach [a] X.env=[0x1c]:=by rfl):JI X (.Tuple elts x1 xV) (.Call (.Name "enumerate" p) [a] [] pos) (v9 mA):=by
 refine JI.of (Qw hg hm ha hs) fun σ H R zz=>?_;show 1;show 3;rintro vs H1 ⟨μ1,st1,ds,g1,bJ,hv,aQ⟩;dsimp only at aQ
 split at aQ
 ·rename_i n;cases e:tZ st1 n with
  | none=>rw[e]at aQ;exact aQ.elim
  | some y =>
   obtain⟨xs,o⟩:=y;rw[e]at aQ;obtain⟨k1,k2,k3⟩:=zl5 e;obtain⟨v,rfl,q1⟩:=ao.one hv;obtain⟨q,q2,rfl⟩:=aq.aL.mp q1;obtain⟨q',zs,r1,r2,r3⟩:=bJ.items k1;rw[q2]at r1;cases r1;exact⟨q,rfl,⟨zs,r2⟩,aQ _ _ _ (.refl _ _) bJ (RB k3 q2)⟩
 ·exact aQ.elim
noncomputable def Iv(mA:MA):MI:=λenv st=>(mA env st).bind λds st1=>match ds with
 | [.loc n]=>(match tZ st1 n with | some (xs,o)=>.ok (xs.reverse,[(n,o)]) st1 | none=>.bad)
 | _=>.bad
def Rw{n:Nat}{ds:List D}{q:Addr}{o:MO}(ho:o=.lst ds\/o=.frz ds)(hp:μ[n]? = some q):oO X μ H (Itv X.K q ds.length) (ds.reverse,[(n,o)]):=by
 intro H' μ' st' g hs ok;have e:st'[n]? = some o:=(ok (n,o) 0x1);obtain⟨p',xs,q1,q2,q3⟩:=zlw ho hs e;rw[g.get hp]at q1;cases q1;refine⟨λi d hd=>?_,⟨xs,q2,q3.length.symm⟩,by simp⟩;have zG:ds.reverse[i]? = some d:=hd;have hi:i<ds.length:=by have:=(gf.mp zG).1;simpa using this
 rw[pB hi]at zG;obtain⟨v,h1,h2⟩:=q3.get zG;refine⟨⟨xs,v,q2,q3.length.symm,hi,h1⟩,?_⟩;rintro x DN ⟨rfl,hy⟩;have:=hy xs q2;rw[h1]at this;cases this;exact⟨.refl _ _,hs,h2⟩
def XJ{tg:Expr}(ha:JA X [a] mA)(hg:Gl X "reversed")(hm:X.mg "reversed" = none)(hs:starEach [a] X.env=[0x1c]:=by rfl):JI X tg 0x2b (Iv mA):=by
 refine JI.of (Wx hg hm ha hs) fun σ H R zz=>?_;show 1;show 3;rintro vs H1 ⟨μ1,st1,ds,g1,bJ,hv,aQ⟩;dsimp only at aQ
 split at aQ
 ·rename_i n;cases e:tZ st1 n with
  | none=>rw[e]at aQ;exact aQ.elim
  | some y =>
   obtain⟨xs,o⟩:=y;rw[e]at aQ;obtain⟨k1,k2,k3⟩:=zl5 e;obtain⟨v,rfl,q1⟩:=ao.one hv;obtain⟨q,q2,rfl⟩:=aq.aL.mp q1;obtain⟨q',zs,r1,r2,r3⟩:=bJ.items k1;rw[q2]at r1;cases r1;exact⟨q,zs,rfl,r2,by rw[<-r3.length];exact aQ _ _ _ (.refl _ _) bJ (Rw k3 q2)⟩
 ·exact aQ.elim
end
def jm{α β:Type}(K:PySem.W.Frag)(μ:List Addr)(H:Hp)(rel:Rel α β)(Q:β->Hp->Prop)(r:R α):Prop:=match r with
 | .ok a st=>∀(b:β) (H':Hp) (μ':List Addr),bj μ H μ' H'->aX K μ' H' st->rel μ' H' a b->Q b H'
 | _=>False
def tK{α β:Type}(K:PySem.W.Frag)(rel:Rel α β)(m:aK->ak->R α):L2.St->Hp->(β->Hp->Prop)->Prop:=fun σ H Q=>∃μ env st,d7 K μ H env σ/\aX K μ H st/\jm K μ H rel Q (m env st)
noncomputable def tKG(K:PySem.W.Frag)(m:MG):TG:=λv σ H Q=>∃μ env st d,d7 K μ H env σ/\aX K μ H st/\aq K μ H d v/\jm K μ H (fun μ H env σ=>d7 K μ H env σ) Q (m d env st)
def jm.post{α β:Type}{X:Cx}{μ:List Addr}{H:Hp}{rel:Rel α β}{Q:β->Hp->Prop}{r:R α}(h:jm X.K μ H rel Q r):bR X μ H rel Q r:=by
 cases r with
 | ok a st=>exact h
 | err x st=>exact h.elim
 | bad=>exact h.elim
def jm.mono{α β:Type}{K:PySem.W.Frag}{μ μ1:List Addr}{H H1:Hp}{rel:Rel α β}{Q:β->Hp->Prop}{r:R α}(g:bj μ H μ1 H1)(h:jm K μ H rel Q r):jm K μ1 H1 rel Q r:=by
 cases r with
 | ok a st=>exact λb H' μ' g'=>h b H' μ' (g.trans g')
 | err x st=>exact h.elim
 | bad=>exact h.elim
noncomputable def oM(capt:List (Option Nat))(env:aK):aK:=capt.map λo=>o.bind λj=>(env[j]?).join
open Classical in
noncomputable def fX(g:MG)(t:MT)(e:ME)(gs:List (Nat×MO))(n:Nat):List D->aK->ak->R D
 | [],_,st=>if u_ gs st then .ok (.loc n) st else .bad
 | d::r,env,st=>if u_ gs st then (g d env st).bind λenv1 st1=>(t env1 st1).bind λok st2=>if ok then (e env1 st2).bind λy iu=>(match iu[n]? with
   | some (.lst xs)=>if xs.length<1000000 then fX g t e gs n r env1 (iu.set n (.lst (xs++[y]))) else .bad
   | _=>.bad) else fX g t e gs n r env1 st2 else .bad
noncomputable def eN(capt:List (Option Nat))(mi:MI)(g:MG)(t:MT)(e:ME):ME:=λenv st=>(mi env st).bind λs st1=>(fX g t e s.2 st1.length s.1 (oM capt env) (st1++[.lst []])).sure
noncomputable def lJ:MT:=λ_ st=>.ok true st
section
variable  {X:Cx}{elt tg iter c:Expr}{ifs:List Expr}{scope:Scope}{pos:Pos}{N:List Str}{capt:List (Option Nat)}{mi:MI}{g:MG}{t:MT}{me:ME}
def d7.taken{K:PySem.W.Frag}{μ:List Addr}{H:Hp}{env:aK}{σ:L2.St}(cp:List (Option Nat))(h:d7 K μ H env σ):d7 K μ H (oM cp env) (jA cp σ):=by
 refine⟨by simp[oM,jA],λi d e=>?_⟩;unfold oM at e;unfold jA;rw[gK]at e ⊢;cases q:cp[i]? with
 | none=>rw[q]at e;cases e
 | some o =>
  rw[q]at e;cases o with
  | none=>cases e
  | some j =>
   have e':(env[j]?).join=some d:=by simpa using e
   have e2:env[j]? = some (some d):=by
    cases z:env[j]? with
    | none=>rw[z]at e';cases e'
    | some y=>rw[z]at e';cases e';rfl
   obtain⟨v,h1,h2⟩:=h.at_ j d e2;exact⟨v,by simp[h1],h2⟩
def jm.val{α β γ:Type}{K:PySem.W.Frag}{μ:List Addr}{H:Hp}{rel:Rel α β}{r:R α}{f:α->ak->R γ}{G:List Addr->Hp->R γ->Prop}(hG:∀μ μ1 H H1 r,bj μ H μ1 H1->G μ H r->G μ1 H1 r)(hb:∀μ H,¬ G μ H .bad)(he:∀μ H x st,¬ G μ H (.err x st))
  (h:G μ H (r.bind f)):jm K μ H rel (λb H1=>∃μ1 st1 a,bj μ H μ1 H1/\aX K μ1 H1 st1/\rel μ1 H1 a b/\G μ1 H1 (f a st1)) r:=by
 cases r with
 | ok a st=>exact λb H' μ' g h1 h2=>⟨μ',st,a,g,h1,h2,hG _ _ _ _ _ g h⟩
 | err x st=>exact (he _ _ _ _ h).elim
 | bad=>exact (hb _ _ h).elim
def zZ(X:Cx)(Q:VK):List Addr->Hp->R D->Prop:=fun μ H r=>jm X.K μ H (lX X) Q r
def zr3{σ:L2.St}{H:Hp}{Q:VK}(h:tM X (eN capt mi g t me) σ H Q):HY capt (tMI X mi) (tKG X.K g) (tK X.K Fe t) (tK X.K (lX X) me) σ H Q:=by
 obtain⟨μ,env,st,hE,hs,hp⟩:=h;show 3;rintro J H1 ⟨μ1,st1,s,g1,bJ,hJ,aQ⟩;dsimp only at aQ;have d_:zZ X Q μ1 H1 (fX g t me s.2 st1.length s.1 (oM capt env) (st1++[.lst []])):=by
  cases hr:fX g t me s.2 st1.length s.1 (oM capt env) (st1++[.lst []]) with
  | ok d st2=>rw[hr]at aQ;exact aQ
  | err y st2=>rw[hr]at aQ;exact aQ.elim
  | bad=>rw[hr]at aQ;exact aQ.elim
 have mG:∀μ μ1 H H1 r,bj μ H μ1 H1->zZ X Q μ H r->zZ X Q μ1 H1 r:=fun μ μ1 H H1 r g h=>jm.mono g h;have nb:∀μ H,¬ zZ X Q μ H .bad:=fun μ H h=>h;have ne:∀μ H x st,¬ zZ X Q μ H (.err x st):=fun μ H x st h=>h;intro D hD;have gD:bj μ1 H1 (μ1++[D]) (upd H1 D (.lst [])):=bj.new hD;have sD:aX X.K (μ1++[D]) (upd H1 D (.lst [])) (st1++[.lst []]):=bJ.new hD ⟨[],qQ,ao.nil⟩;have nD:(μ1++[D])[st1.length]? = some D:=by rw[<-bJ.len];simp
 refine⟨λi k σ' H'=>∃μ2 bx st2,bj (μ1++[D]) (upd H1 D (.lst [])) μ2 H'/\d7 X.K μ2 H' bx σ'/\aX X.K μ2 H' st2/\zZ X Q μ2 H' (fX g t me s.2 st1.length (s.1.drop i) bx st2)/\i<=s.1.length/\k=s.1.length - i,
  ⟨_,μ1++[D],oM capt env,_,.refl _ _,(hE.mono (g1.trans gD)).taken capt,sD,by simpa using mG _ _ _ _ _ gD d_,mK _,rfl⟩,?_⟩
 rintro i k σ2 H2 ⟨μ2,bx,st2,g2,U3,iQ,Aa,hi,rfl⟩;have atD:μ2[st1.length]? = some D:=g2.get nD;by_cases uT:i<s.1.length
 ·have e1:s.1.drop i=s.1[i]::s.1.drop (i+1):=mX uT;rw[e1,fX]at Aa;by_cases ok:u_ s.2 st2
  ·rw[afn ok]at Aa;obtain⟨q1,q2⟩:=(hJ H2 μ2 st2 (gD.trans g2) iQ ok).1 i s.1[i] (gB uT);refine .inr ⟨q1,fun σ' H'=>∃μ3 yz iu,bj (μ1++[D]) (upd H1 D (.lst [])) μ3 H'/\d7 X.K μ3 H' yz σ'/\aX X.K μ3 H' iu/\zZ X Q μ3 H' (fX g t me s.2 st1.length (s.1.drop (i+1)) yz iu),?_,?_⟩
   ·rintro σ' H' ⟨μ3,yz,iu,g3,hE3,zE,hp4⟩;exact⟨s.1.length - (i+1),by omega,μ3,yz,iu,g3,hE3,zE,hp4,by omega,rfl⟩
   ·intro x H3 hx;obtain⟨g3,zE,hd⟩:=q2 x H3 hx;refine⟨μ2,bx,st2,s.1[i],U3.mono g3,zE,hd,?_⟩;have w1:=jm.val (K:=X.K) (rel:=fun μ H env σ=>d7 X.K μ H env σ) mG nb ne (mG _ _ _ _ _ g3 Aa);cases hr1:g s.1[i] bx st2 with
    | bad=>rw[hr1]at w1;exact w1
    | err y z=>rw[hr1]at w1;exact w1
    | ok abU st4 =>
     rw[hr1]at w1;intro σ4 H4 μ4 g4 hs4 hE4;obtain⟨ae0,aaM,um,g4',ad7,RX,hp4⟩:=w1 σ4 H4 μ4 g4 hs4 hE4;refine⟨ae0,um,aaM,RX,ad7,?_⟩;have w2:=jm.val (K:=X.K) (rel:=Fe) mG nb ne hp4;cases YG:t um aaM with
     | bad=>rw[YG]at w2;exact w2
     | err y z=>rw[YG]at w2;exact w2
     | ok b5 N8 =>
      rw[YG]at w2;intro b H5 μ5 g5 hs5 hb5;obtain⟨acq,Pj,b5',g5',abJ,ael,hp5⟩:=w2 b H5 μ5 g5 hs5 hb5;subst ael;have gg:bj (μ1++[D]) (upd H1 D (.lst [])) acq H5:=((g2.trans g3).trans g4').trans g5';cases b5' with
      | false=>exact yr ⟨acq,um,Pj,gg,RX.mono g5',abJ,by simpa using hp5⟩
      | true =>
       refine yq ⟨acq,um,Pj,RX.mono g5',abJ,?_⟩;have aea:zZ X Q acq H5 ((me um Pj).bind λy iu=>(match iu[st1.length]? with
        | some (.lst xs)=>if xs.length<1000000 then fX g t me s.2 st1.length (s.1.drop (i+1)) um (iu.set st1.length (.lst (xs++[y]))) else .bad
        | _=>.bad)):=by simpa using hp5
       have w3:=jm.val (K:=X.K) (rel:=lX X) mG nb ne aea;cases YF:me um Pj with
       | bad=>rw[YF]at w3;exact w3
       | err y z=>rw[YF]at w3;exact w3
       | ok y6 st6 =>
        rw[YF]at w3;intro v H6 μ6 g6 hs6 hv6;obtain⟨aeM,ac3,y6',g6',abI,ad5,RM⟩:=w3 v H6 μ6 g6 hs6 hv6;have gg6:=gg.trans g6';have acg:aeM[st1.length]? = some D:=gg6.get nD;cases e6:ac3[st1.length]? with
        | none=>rw[e6]at RM;exact RM.elim
        | some mo =>
         cases mo with
         | lst xs =>
          rw[e6]at RM;dsimp only at RM
          split at RM
          ·rename_i hl;obtain⟨p',ys,r1,r2,r3⟩:=abI.lst e6;rw[acg]at r1;cases r1;obtain⟨g7,hs7⟩:=vG abI e6 acg r2 (r3.append (ao.cons ad5 ao.nil));refine⟨ys,r2,by rw[<-r3.length];exact gQ hl 0x5,aeM,um,_,gg6.trans g7,((RX.mono g5').mono g6').mono g7,hs7,mG _ _ _ _ _ g7 RM⟩
          ·exact RM.elim
         | _=>rw[e6]at RM;exact RM.elim
  ·rw[afo ok]at Aa;exact Aa.elim
 ·have e1:s.1.drop i=[]:=nA 0x0;rw[e1,fX]at Aa;have e2:i=s.1.length:=by omega
  by_cases ok:u_ s.2 st2
  ·rw[afn ok]at Aa;refine .inl ⟨by rw[e2];exact (hJ H2 μ2 st2 (gD.trans g2) iQ ok).2,?_⟩;exact Aa _ H2 μ2 (.refl _ _) iQ (aq.aL.mpr ⟨D,atD,rfl⟩)
  ·rw[afo ok]at Aa;exact Aa.elim
def Uq{X':Cx}{e:Expr}{m:ME}(h:JE X' e m):PE X' e (tK X'.K (lX X') m):=by
 refine λpins s σ H Q I zz=>?_;obtain⟨μ,env,st,a,b,c⟩:=zz;exact h pins s σ H Q I ⟨μ,env,st,a,b,c.post⟩
def Up{X':Cx}{e:Expr}{m:MG}(h:JG X' e m):PG X' e (tKG X'.K m):=by
 refine λpins s σ H v u Q I r zz=>?_;obtain⟨μ,env,st,d,a,b,b2,c⟩:=zz;exact h pins s σ H v u Q I r ⟨μ,env,st,d,a,b,b2,c.post⟩
def JTs(X:Cx)(ifs:List Expr)(m:MT):Prop:=PTs X ifs (tK X.K Fe m)
def Hw:JTs X' [] lJ:=by
 refine λpins s σ H Q I zz=>?_;obtain⟨μ,env,st,a,b,c⟩:=zz;exact Qh pins s σ H Q I (c true H μ (.refl _ _) b rfl)
def Bp(sc sc0:Scope):Prop:=∀x∈sc.names,x.2=.free->sc0.names.lookup x.1=some .cell\/sc0.names.lookup x.1=some .free
instance (sc sc0:Scope):Decidable (Bp sc sc0):=inferInstanceAs (Decidable (∀x∈sc.names,x.2=.free->sc0.names.lookup x.1=some .cell\/sc0.names.lookup x.1=some .free))
def T6(hi:JI X tg iter mi)(S:fZ scope)(RT:Bp scope sc0)(uV:lG X scope capt N)(hc:X.calm=true) 
  (hg:∀cl C fp s H,JG 0x13 tg g) (ht:∀cl C fp s H,JTs 0x13 ifs t) (he:∀cl C fp s H,JE 0x13 elt me)
  (h0:X.env.scope=sc0:=by rfl) (hs:∀x,foldedSetIterable iter X.env x=pure x:=by intro _;rfl):JE X 0x1f (eN capt mi g t me) :=
 JE.of (QG (g:=tKG X.K g) (tt:=tK X.K Fe t) (te:=tK X.K (lX X) me) hi S (by subst h0;exact RT) uV hc (λcl C fp s H=>Up (hg cl C fp s H)) ht (λcl C fp s H=>Uq (he cl C fp s H)) hs) fun σ H Q h=>zr3 h
def zmd(i:Nat)(hi:JI X tg iter mi)(S:fZ scope)(RT:Bp scope sc0)(uV:lG X scope capt N)(hc:X.calm=true) 
  (hg:∀cl C fp s H,JG 0x13 tg g) (ht:∀cl C fp s H,JTs 0x13 ifs t) (he:∀cl C fp s H,JE 0x13 elt me)
  (hN:X.N.Nodup) (hy:X.N[i]? = some y:=by rfl) (hx:Loc X.env.scope y:=by first | exact Or.inl rfl | exact Or.inr rfl) (hsw:swapsWith 0x1f (some (.Name y py)) V7.line X.env=pure true:=by rfl)
  (h0:X.env.scope=sc0:=by rfl) (hs:∀x,foldedSetIterable iter X.env x=pure x:=by intro _;rfl) (hf:X.fn y=true\/X.env.scope.names.lookup y=some .local:=by first | exact .inl rfl | exact .inr rfl | assumption) :
  JS X (.Assign [.Name y py] 0x1f V7) (aG i (eN capt mi g t me)):=by
 refine JS.of (zu9 (g:=tKG X.K g) (tt:=tK X.K Fe t) (te:=tK X.K (lX X) me) hN hy hx hsw hi S (by subst h0;exact RT) uV hc (λcl C fp s H=>Up (hg cl C fp s H)) ht (λcl C fp s H=>Uq (he cl C fp s H)) hs hf) λE σ H zz=>?_;show 1;refine zr3 ⟨μ,env,st,hE,hs,(cJ.val hp).imp ?_⟩;rintro x H1 ⟨μ1,st1,d,g1,bJ,hx,aQ⟩;exact aQ.nx bJ ((hE.mono g1).set hx)
end
def zit:∀(env:aK) (st:ak) (as:List D) (st1:ak),au env st=.ok as st1->as.length=([]:List Expr).length:=by
 intro env st as st1 h;cases h;rfl
def NB{e:Expr}{es:List Expr}{a:ME}{r:MA}(h:∀(env:aK) (st:ak) (as:List D) (st1:ak),r env st=.ok as st1->as.length=es.length) :
  ∀(env:aK) (st:ak) (as:List D) (st1:ak),aj a r env st=.ok as st1->as.length=(e::es).length:=by
 intro env st as st1 q;unfold aj at q;cases h1:a env st with
 | bad=>rw[h1]at q;cases q
 | err x s=>rw[h1]at q;cases q
 | ok x s =>
  rw[h1,R.aB]at q;cases h2:r env s with
  | bad=>rw[h2]at q;cases q
  | err x s=>rw[h2]at q;cases q
  | ok xs s2 =>
   rw[h2,R.aB]at q;cases q;rw[g8,g8,h env s xs _ h2]
noncomputable def fuel:Nat:=1000000
end M
namespace M
open L2
def fV(h:under st.length d):gc st (.ok d st)=.ok d st:=by
 have:=sZ (st:=st) (g:=[]) h;simpa using this
def Nx(h:lO st.length o):gc st (.ok 0x2 (st++[o]))=.ok 0x2 (st++[o]):=by
 have:=Vg (st:=st) (g:=[]) (g':=[]) h;simpa using this
def zqy(h:aA st n=some ds):aA (st++l) n=some ds:=by
 unfold aA at h ⊢;cases e:st[n]? with
 | none=>rw[e]at h;cases h
 | some o =>
  rw[gM (gf.mp e).1,e];rw[e]at h;exact h
def dC{st l:ak}{n:Nat}{o:MO}(h:st[n]? = some o):(st++l)[n]? = some o:=by rw[gM (gf.mp h).1];exact h
@[simp] def ztm{st l:ak}:(st++l)[st.length]? = l[0]?:=by rw[h_ (gb _)];simp
@[simp] def Ig{st l:ak}{o:MO}:(st++l).set st.length o=st++l.set 0 o:=by rw[List.set_append_right _ _ (gb _)];simp
@[simp] def Yq{st l:ak}:aA (st++l) st.length=aA l 0:=by unfold aA;rw[ztm]
@[simp] def Uz:aA (o::l) 0=(match o with | .lst ds=>some ds | .frz ds=>some ds | _=>none):=by
 unfold aA;cases o<;>rfl
def Nz(xs:List α)(k:Nat):qj xs (k:Int)=xs[k]?:=by
 unfold qj z_;rw[afn 0x0];by_cases h:k<xs.length
 ·rw[afn 0x0];simp
 ·rw[afo 0x0];simp;omega
def Gv(I:List D->aK->ak->Prop)(h0:I [] env st) 
  (step:∀pre d post env st,items=pre++d::post->I pre env st->u_ gs st/\∃env1 st1,g d env st=.ok env1 st1/\∃bx st2,(b env1 st1=.ok (.nx bx) st2\/b env1 st1=.ok (.cn bx) st2)/\I (pre++[d]) bx st2)
  (YS:∀env st,I items env st->u_ gs st):∃cC st',cA g b gs items env st=.ok (.nx cC) st'/\I items cC st':=by
 have key:∀(post pre:List D) (env:aK) (st:ak),items=pre++post->I pre env st->∃cC st',cA g b gs post env st=.ok (.nx cC) st'/\I items cC st':=by
  intro post
  induction post with
  | nil =>
   intro pre env st e hI;have:items=pre:=by simpa using e
   subst this;exact⟨env,st,by rw[cA,afn (YS env st hI)],hI⟩
  | cons d post ih =>
   intro pre env st e hI;obtain⟨ok,env1,st1,h1,bx,st2,h2,hI2⟩:=step pre d post env st e hI;obtain⟨cC,st',h3,h4⟩:=ih (pre++[d]) bx st2 (by simp[e]) hI2;refine⟨cC,st',?_,h4⟩;rw[cA,afn ok,h1,R.aB];rcases h2 with h2 | h2<;>(rw[h2,R.aB];exact h3)
 exact key items [] env st rfl h0
def zns{capt:List (Option Nat)}{mi:MI}{g:MG}{t:MT}{e:ME}{env:aK}{st st1:ak}{items:List D}{gs:List (Nat×MO)}(p:D->Bool)(f:D->D)(Pe:aK->Prop)
  (hi:mi env st=.ok (items,gs) st1) (h0:Pe (oM capt env)) (hl:items.length<=1000000) (hg:∀ys,u_ gs (st1++[.lst ys]))
  (step:∀d∈items,∀cC ys,Pe cC->∃env1,Pe env1/\g d cC (st1++[.lst ys])=.ok env1 (st1++[.lst ys])/\t env1 (st1++[.lst ys])=.ok (p d) (st1++[.lst ys]) /\
   (p d=true->e env1 (st1++[.lst ys])=.ok (f d) (st1++[.lst ys]))) :
  eN capt mi g t e env st=.ok (.loc st1.length) (st1++[.lst ((items.filter p).map f)]):=by
 have key:∀(post:List D) (cC:aK) (ys:List D),(∀d∈post,d∈items)->Pe cC->ys.length+post.length<=1000000 ->
   fX g t e gs st1.length post cC (st1++[.lst ys])=.ok (.loc st1.length) (st1++[.lst (ys++(post.filter p).map f)]):=by
  intro post
  induction post with
  | nil=>intro cC ys _ _ _;rw[fX,afn (hg ys)];simp
  | cons d post ih =>
   intro cC ys hm hP hn;obtain⟨env1,hP1,h1,h2,h3⟩:=step d (hm d 0x1) cC ys hP;have Oh:∀d∈post,d∈items:=λd hd=>hm d (kW _ hd);rw[g8]at hn;rw[fX,afn (hg ys),h1,R.aB,h2,R.aB];cases hp:p d with
   | false =>
    rw[afo 0x1,ih env1 ys Oh hP1 0x0];simp[hp]
   | true =>
    rw[afn rfl,h3 hp,R.aB];simp only[ztm,nT];rw[afn 0x0,Ig,List.set_cons_zero,ih env1 (ys++[f d]) Oh hP1 0x9];simp[hp]
 unfold eN;rw[hi,R.aB,key items (oM capt env) [] (λd hd=>hd) h0 (by simpa using hl)];simp
def OD(f:D->D)(Pe:aK->Prop) 
  (hi:mi env st=.ok (items,gs) st1) (h0:Pe (oM capt env)) (hl:items.length<=1000000) (hg:∀ys,u_ gs (st1++[.lst ys]))
  (step:∀d∈items,∀cC ys,Pe cC->∃env1,Pe env1/\g d cC (st1++[.lst ys])=.ok env1 (st1++[.lst ys])/\e env1 (st1++[.lst ys])=.ok (f d) (st1++[.lst ys])) :
  eN capt mi g lJ e env st=.ok (.loc st1.length) (st1++[.lst (items.map f)]):=by
 have:=zns (capt:=capt) (mi:=mi) (g:=g) (t:=lJ) (e:=e) (env:=env) (st:=st) (λ_=>true) f Pe hi h0 hl hg λd hd cC ys hP=>by
  obtain⟨env1,a,b,c⟩:=step d hd cC ys hP;exact⟨env1,a,b,rfl,λ_=>c⟩
 have e2:items.filter (λ_=>true)=items:=List.filter_eq_self.mpr 0x1;rw[e2]at this;exact this
section
variable  (env:aK)(st:ak)(a b:ME)(x y:D)(mA:MA)(tc ta tb:MT)(m1 m2:MS)
@[simp] def Ff(i:Nat):vr i env st=match env[i]? with | some (some d)=>.ok d st | _=>.bad:=eZ rfl
@[simp] def aaZ(d:D):ct d env st=.ok d st:=eZ rfl
@[simp] def aeU(g:D->D->ak->R D):aF g a b env st=(a env st).bind λx st1=>(b env st1).bind λy st2=>g x y st2:=eZ rfl
@[simp] def aeV(g:D->ak->R D):wA g a env st=(a env st).bind λx st1=>g x st1:=eZ rfl
@[simp] def aeQ :dM a env st=(a env st).bind λx st1=>match x with | .bl b=>.ok b st1 | _=>.bad:=eZ rfl
@[simp] def aeP :lu a env st=(a env st).bind λx st1=>match jh x st1 with | some b=>.ok b st1 | none=>.bad:=eZ rfl
@[simp] def adz :jC ta tb env st=(ta env st).bind λx st1=>if x then tb env st1 else .ok false st1:=eZ rfl
@[simp] def aeT :Oa ta tb env st=(ta env st).bind λx st1=>if x then .ok true st1 else tb env st1:=eZ rfl
@[simp] def adt :vJ ta env st=(ta env st).bind λx st1=>.ok (!x) st1:=eZ rfl
@[simp] def ady :yK a b env st=(a env st).bind λx st1=>match x with | .bl true=>b env st1 | .bl false=>.ok (.bl false) st1 | _=>.bad:=eZ rfl
@[simp] def aeS :orV a b env st=(a env st).bind λx st1=>match x with | .bl true=>.ok (.bl true) st1 | .bl false=>b env st1 | _=>.bad:=eZ rfl
@[simp] def adq :J1 a env st=(a env st).bind λx st1=>match x with | .bl c=>.ok (.bl (!c)) st1 | _=>.bad:=eZ rfl
@[simp] def aeX :Hn tc a b env st=(tc env st).bind λx st1=>if x then a env st1 else b env st1:=eZ rfl
@[simp] def Wi :au env st=.ok [] st:=eZ rfl
@[simp] def Qc :aj a mA env st=(a env st).bind λx st1=>(mA env st1).bind λxs st2=>.ok (x::xs) st2:=eZ rfl
@[simp] def adl :fD mA env st=(mA env st).bind λds st1=>if ds.length<=1000000 then .ok (.tup ds) st1 else .bad:=eZ rfl
@[simp] def adv :eQ mA env st=(mA env st).bind λds st1=>if ds.length<=1000000 then .ok (.loc st1.length) (st1++[.lst ds]) else .bad:=eZ rfl
@[simp] def aeR(l h:MP):Ey a l h env st=(a env st).bind λx st1=>(l env st1).bind λlo st2=>(h env st2).bind λhi iu=>xY x lo hi iu:=eZ rfl
@[simp] def acB(g:List D->ak->R D):bh g mA env st=(mA env st).bind λds st1=>g ds st1:=eZ rfl
@[simp] def acs :bB env st=.ok (.nx env) st:=eZ rfl
@[simp] def I_ :aC m1 m2 env st=(m1 env st).bind λo st1=>match o with | .nx env1=>m2 env1 st1 | o=>.ok o st1:=eZ rfl
@[simp] def adp :retS a env st=(a env st).bind λd st1=>.ok (.rt d) st1:=eZ rfl
@[simp] def acx :dF a env st=(a env st).bind λ_ st1=>.ok (.nx env) st1:=eZ rfl
@[simp] def aeW :fu tc m1 m2 env st=(tc env st).bind λx st1=>if x then m1 env st1 else m2 env st1:=eZ rfl
@[simp] def zvd(i:Nat):aO i x env st=.ok (env.set i (some x)) st:=eZ rfl
@[simp] def adx(g:MG):jB a g env st=(a env st).bind λd st1=>(g d env st1).bind λenv1 st2=>.ok (.nx env1) st2:=eZ rfl
@[simp] def Wg(i:Nat):aG i a env st=(a env st).bind λd st1=>.ok (.nx (env.set i (some d))) st1:=eZ rfl
@[simp] def adu :uQ [] env st=.ok env st:=eZ rfl
@[simp] def acz(g:MG)(r:Oq)(d:D)(ds:List D):dO g r (d::ds) env st=(g d env st).bind λenv1 st1=>r ds env1 st1:=eZ rfl
@[simp] def adk(n:Nat)(g:Oq)(ds:List D):tE n g (.tup ds) env st=if ds.length=n then g ds env st else .bad:=eZ rfl
@[simp] def adn(g:D->D->D->ak->R Unit)(d:D):tV g a b d env st=(a env st).bind λx st1=>(b env st1).bind λy st2=>(g x y d st2).bind λ_ iu=>.ok env iu:=eZ rfl
@[simp] def acA(F:FD)(dd:List D):az F dd mA env st=(mA env st).bind λas st1=>(F (as++dd) st1).sure:=eZ rfl
@[simp] def acw(T:String)(g:D->List D->ak->R D):cz T g a mA env st=(a env st).bind λx st1=>if cM T x st1=true then (mA env st1).bind λxs st2=>g x xs st2 else .bad:=eZ rfl
@[simp] def aaT(T:String)(g:D->List D->ak->R D):fH T g a env st=(a env st).bind λx st1=>if cM T x st1=true then g x [] st1 else .bad:=eZ rfl
@[simp] def Ak(mi:MI)(g:MG):iW mi g m1 env st=(mi env st).bind λs st1=>cA g m1 s.2 s.1 env st1:=eZ rfl
@[simp] theorem zuf :iC a env st=(a env st).bind λd st1=>match d with
 | .loc n=>(match st1[n]? with
  | some (.lst ds)=>.ok (ds,[(n,.lst ds)]) st1
  | some (.frz ds)=>.ok (ds,[(n,.frz ds)]) st1
  | _=>.bad)
 | .tup ds=>.ok (ds,[]) st1
 | _=>.bad:=eZ rfl
@[simp] theorem Fi :ji mA env st=(mA env st).bind λds st1=>match ds with
 | [.int j]=>if -(2 ^ 62)<=j/\j<2 ^ 62 then .ok (o9 0 j.toNat,[]) st1 else .bad
 | _=>.bad:=eZ rfl
@[simp] theorem acy :v9 mA env st=(mA env st).bind λds st1=>match ds with
 | [.loc n]=>(match tZ st1 n with | some (xs,o)=>.ok (dz 0 xs,[(n,o)]) st1 | none=>.bad)
 | _=>.bad:=eZ rfl
@[simp] theorem ado :Iv mA env st=(mA env st).bind λds st1=>match ds with
 | [.loc n]=>(match tZ st1 n with | some (xs,o)=>.ok (xs.reverse,[(n,o)]) st1 | none=>.bad)
 | _=>.bad:=eZ rfl
@[simp] def Fp(i j:Int):bD (.int i) (.int j) st=.ok (.int (i+j)) st:=eZ rfl
@[simp] def Fg(i j:Int):xX (.int i) (.int j) st=.ok (.int (i - j)) st:=by simp[xX,pZ]
def Vt(i j:Int)(h:(-(2 ^ 64)<i/\i<2 ^ 64)\/(-(2 ^ 64)<j/\j<2 ^ 64)):oh (.int i) (.int j) st=.ok (.int (i*j)) st:=by
 unfold oh pZ;dsimp only;rw[afn h]
def zjv(i j:Int)(h:0<j/\j<2 ^ 64):uh (.int i) (.int j) st=.ok (.int (i / j)) st:=by
 unfold uh pZ;dsimp only;rw[afn h]
def zid(i j:Int)(h:0<j):pX (.int i) (.int j) st=.ok (.int (i % j)) st:=by
 unfold pX pZ;dsimp only;rw[afn h]
@[simp] def aaU(i j:Int):ltV (.int i) (.int j) st=.ok (.bl (decide (i<j))) st:=by simp[ltV,pZ]
@[simp] def aaV(i j:Int):Xq (.int i) (.int j) st=.ok (.bl (decide (i<=j))) st:=by simp[Xq,pZ]
@[simp] def zr5(i j:Int):Y5 (.int i) (.int j) st=.ok (.bl (decide (j<i))) st:=by simp[Y5,pZ]
@[simp] def aaf(i:Int):wU (.int i) st=.ok (.int (-i)) st:=eZ rfl
@[simp] def aaY(L:Nat)(i j:Int):iw (L+1) (.int i) (.int j) st=.ok (.bl (decide (i=j))) st:=by
 have e:(i==j)=decide (i=j):=by rw[m8];simp
 simp only[iw,jU,jr,e,LC,MN];rw[afn ⟨trivial,trivial,Nat.succ_pos L⟩]
@[simp] def Jc(L:Nat)(i j:List Nat):iw (L+1) (.str i) (.str j) st=.ok (.bl (decide (i=j))) st:=by
 have e:(i==j)=decide (i=j):=by rw[m8];simp
 simp only[iw,jU,jr,e,Lz,MJ];rw[afn ⟨trivial,trivial,Nat.succ_pos L⟩]
def zt4(L:Nat)(d:D)(st:ak)(hf:flat d=true)(hd:dep d+dep d<L):jU L d d st=some true:=by
 have e:=zoe d hf;have c:flat d=true/\flat d=true/\dZ d d<L:=⟨hf,hf,by have:=zsw d d;omega⟩;cases d with
 | loc n=>simp[flat]at hf
 | non=>exact (afn c).trans (congrArg some e)
 | bl b=>exact (afn c).trans (congrArg some e)
 | int i=>exact (afn c).trans (congrArg some e)
 | str s=>exact (afn c).trans (congrArg some e)
 | tup ds=>exact (afn c).trans (congrArg some e)
def Fo(L:Nat)(d:D)(hf:flat d=true)(hd:dep d+dep d<L):iw L d d st=.ok (.bl true) st:=by
 have:jU L d d st=some true:=zt4 L d st hf hd;unfold iw;rw[this]
def Fj(L:Nat)(d:D)(hf:flat d=true)(hd:dep d+dep d<L):wB L d d st=.ok (.bl false) st:=by
 have:jU L d d st=some true:=zt4 L d st hf hd;unfold wB;rw[this];rfl
def zve(L m n:Nat)(ds:List D)(h1:aA st m=some ds)(h2:aA st n=some ds)(hf:dw ds=true)(hd:deps ds+deps ds+1<L):wB L (.loc m) (.loc n) st=.ok (.bl false) st:=by
 have e:jU L (.loc m) (.loc n) st=some true:=by
  simp only[jU,h1,h2];rw[afn ⟨hf,hf,by have:=zol ds ds;omega⟩,zlg _ hf]
 unfold wB;rw[e];rfl
def uZ(n:Nat)(i:Int)(ds:List D)(d:D)(h:aA st n=some ds)(hi:qj ds i=some d):aV (.loc n) (.int i) st=.ok d st:=by
 simp[aV,h,hi]
def Eb(i:Int)(ds:List D)(d:D)(hi:qj ds i=some d):aV (.tup ds) (.int i) st=.ok d st:=by
 simp[aV,hi]
@[simp] def aaX(T:String)(i:List Nat):yt T (.str i) st=.ok (.bl (lV "str" T)) st:=eZ rfl
@[simp] def aaW(T:String)(i:List D):yt T (.tup i) st=.ok (.bl (lV "tuple" T)) st:=eZ rfl
@[simp] def Wh:bN .non .non st=.ok (.bl true) st:=eZ rfl
end
end M
namespace L2
open PySem PySem.Spec PyProof.Rows
section
variable  {κ:Type}[DecidableEq κ]
noncomputable def je(kvs:List (κ×V))(k:κ):Option V:=(kvs.find? λkv=>decide (kv.1=k)).map (·.2)
noncomputable def putK(kvs:List (κ×V))(k:κ)(v:V):List (κ×V) :=
 if 0x23=true then kvs.map (λkv=>if kv.1=k then (kv.1,v) else kv) else kvs++[(k,v)]
def zjd{p:κ×V}{r:List (κ×V)}{k:κ}(e:p.1=k):je (p::r) k=some p.2:=by simp[je,mq,e]
def zjm{p:κ×V}{r:List (κ×V)}{k:κ}(e:¬ p.1=k):je (p::r) k=je r k:=by simp[je,mq,e]
theorem zoo(k:κ):∀kvs:List (κ×V),0x23=(je kvs k).isSome
 | []=>rfl
 | p::r=>by
  rw[mR];by_cases e:p.1=k
  ·simp only[zjd e,afs e,Bool.true_or,Option.isSome_some]
  ·rw[zjm e,afq e,Bool.false_or];exact zoo k r
def zgy(kvs:List (κ×V))(k:κ)(v:V):(putK kvs k v).length<=kvs.length+1:=by
 unfold putK
 split
 ·rw[gm];omega
 ·rw[gO,g8,mU];omega
def Jf{kvs:List (κ×V)}{k:κ}(v:V)(h:je kvs k=none):putK kvs k v=kvs++[(k,v)]:=by
 unfold putK;rw[zoo,h];exact afo 0x5
def lE.t6(r:lE o u):o.isSome=u.isSome:=by
 cases o with
 | none=>cases u with
  | none=>rfl
  | some _=>exact (show False from r).elim
 | some _=>cases u with
  | none=>exact (show False from r).elim
  | some _=>rfl
def lE.getD(r:lE o u)(rd:RelV d d'):RelV (o.getD d) (u.getD d'):=by
 cases o with
 | none=>cases u with
  | none=>exact rd
  | some _=>exact (show False from r).elim
 | some _=>cases u with
  | none=>exact (show False from r).elim
  | some _=>exact r
def KV.val{kvs:List (κ×V)}{vs:List (κ×Value)}(r:KV kvs vs)(k:κ):lE (je kvs k) (valueAt vs k):=by
 unfold KV at r
 induction r with
 | nil=>exact True.intro
 | @cons p q ps qs h t ih =>
  obtain⟨h1,h2⟩:=h;by_cases e:p.1=k
  ·have e':q.1=k:=h1.symm.trans e;have b:valueAt (q::qs) k=some q.2:=by simp[valueAt,mq,e']
   rw[zjd e,b];exact h2
  ·have e':¬ q.1=k:=λz=>e (h1.trans z);have b:valueAt (q::qs) k=valueAt qs k:=by simp[valueAt,mq,e']
   rw[zjm e,b];exact ih
def KV.any(r:KV kvs vs)(k:κ):0x23=vs.any λkv=>decide (kv.1=k):=by
 unfold KV at r
 induction r with
 | nil=>rfl
 | cons h t ih=>rw[mR,mR,ih,h.1]
def KV.repl(r:KV kvs vs)(k:κ)(ry:RelV y u) :
  KV (kvs.map λkv=>if kv.1=k then (kv.1,y) else kv) (vs.map λkv=>if kv.1=k then (kv.1,u) else kv):=by
 unfold KV at r ⊢
 induction r with
 | nil=>exact .nil
 | @cons p q ps qs h t ih =>
  rw[gq,gq];refine .cons ?_ ih;obtain⟨h1,h2⟩:=h;by_cases e:p.1=k
  ·rw[afn e,afn (h1.symm.trans e)];exact⟨h1,ry⟩
  ·rw[afo e,afo (λz=>e (h1.trans z))];exact⟨h1,h2⟩
def KV.put(r:KV kvs vs)(k:κ)(ry:RelV y u):KV (putK kvs k y) (stored vs k u):=by
 unfold putK stored;rw[r.any k];by_cases e:(vs.any λkv=>decide (kv.1=k))=true
 ·rw[afn e,afn e];exact r.repl k ry
 ·rw[afo e,afo e];exact Paired.snoc r ⟨rfl,ry⟩
def KV.length(r:KV kvs vs):kvs.length=vs.length:=afH r
end
def vQ(r:RelV (kV k) u):(bL P w).is k u=true:=by
 cases k with
 | inl i=>obtain⟨t,e⟩:=(show ∃t,u=Value.int i t from r);subst e;exact zrf P w i t
 | inr x=>obtain⟨t,e⟩:=(show ∃t,u=Value.str x t from r);subst e;exact zrd P w x t
theorem zpz:∀{ks:List Key} {us:List Value},Vals (ks.map kV) us->ItemsAre (bL P w) ks us
 | [],_,r=>by rw[m7]at r;cases r;exact .nil
 | k::ks,_,r=>by
  rw[gq]at r;cases r with
  | cons h t=>exact .cons (vQ h) (zpz t)
abbrev KT(H:Hp):List (List Key×V)->List (List Key×Addr×Value)->Prop:=Paired λp q=>p.1=q.1/\H q.2.1=some (.tup (p.1.map kV))/\RelV p.2 q.2.2
def KT.val{H:Hp}{kvs:List (List Key×V)}{xs:List (List Key×Addr×Value)}(r:KT H kvs xs)(k:List Key):lE (je kvs k) ((atKey xs k).map (·.2)):=by
 induction r with
 | nil=>exact True.intro
 | @cons p q ps qs h t ih =>
  obtain⟨h1,_,h2⟩:=h;by_cases e:p.1=k
  ·have e':q.1=k:=h1.symm.trans e;have b:atKey (q::qs) k=some q.2:=by simp[atKey,mq,e']
   rw[zjd e,b];exact h2
  ·have e':¬ q.1=k:=λz=>e (h1.trans z);have b:atKey (q::qs) k=atKey qs k:=by simp[atKey,mq,e']
   rw[zjm e,b];exact ih
def KT.repl(r:KT H kvs xs)(k:List Key)(ry:RelV y u) :
  KT H (kvs.map λkv=>if kv.1=k then (kv.1,y) else kv) (xs.map (putAt k u)):=by
 induction r with
 | nil=>exact .nil
 | @cons p q ps qs h t ih =>
  rw[gq,gq];refine .cons ?_ ih;obtain⟨h1,h2,h3⟩:=h;unfold putAt;by_cases e:p.1=k
  ·rw[afn e,afn (h1.symm.trans e)];exact⟨h1,h2,ry⟩
  ·rw[afo e,afo (λz=>e (h1.trans z))];exact⟨h1,h2,h3⟩
def KT.put(r:KT H kvs xs)(k:List Key)(hb:H b=some (.tup (k.map kV)))(ry:RelV y u) :
  KT H (putK kvs k y) (storedH xs k b u):=by
 have e:0x23=(atKey xs k).isSome:=by
  rw[zoo,(r.val k).t6,Option.isSome_map]
 unfold putK storedH;rw[e];by_cases q:(atKey xs k).isSome=true
 ·rw[afn q,afn q];exact r.repl k ry
 ·rw[afo q,afo q];exact Paired.snoc r ⟨rfl,hb,ry⟩
def KT.keeps(r:KT H kvs xs)(ht:∀b ys,H b=some (.tup ys)->H' b=some (.tup ys)):KT H' kvs xs :=
 Paired.Xl r λ_ _ z=>⟨z.1,ht _ _ z.2.1,z.2.2⟩
section
variable  {P:Program}{w:World}{H:Hp}{h:Heap}{a:Addr}
def Um(ok:lF P w H h)(e:Rd H a u):cB P w H h a u:=e.ok ok
def uo(ok:lF P w H h)(e:Rd H a (.dK kvs)):kvs.length<=sizeLine/\(a==sysModules)=false/\∃vs,KV kvs vs/\h.DictOf (bL P w) a vs :=
 show cB P w H h a (.dK kvs) from Um ok e
def U8(ok:lF P w H h)(e:H a=some (.dK kvs)):kvs.length<=sizeLine/\(a==sysModules)=false/\∃vs,KV kvs vs/\h.DictOf (bL P w) a vs:=uo ok (.inl e)
def Vh(ok:lF P w H h)(e:H a=some (.tup (ks.map kV))):(tupleKind (bL P w)).is h ks a:=by
 obtain⟨_,its,r,o,h1,h2,n,h3⟩:=(show cB P w H h a (.tup (ks.map kV)) from ok a _ e);exact⟨o,its.toArray,n,h1,h2,h3,by simpa using zpz r⟩
def xJ(ok:lF P w H h)(e:Rd H a (.dT kvs)):kvs.length<=sizeLine/\(a==sysModules)=false /\
  ∃xs,KT H kvs xs/\h.DictOfH (tupleKind (bL P w)) a xs:=by
 obtain⟨z,y,xs,r,o,es,ep,h1,h2,h3,h4,h5⟩:=(show cB P w H h a (.dT kvs) from Um ok e);refine⟨z,y,xs,r,o,es,ep,h1,h2,h3,h4,λx hx=>?_,h5⟩;have all:∀{l:List (List Key×V)} {m:List (List Key×Addr×Value)},KT H l m->∀x∈m,(tupleKind (bL P w)).is h x.1 x.2.1:=by
  intro l m q
  induction q with
  | nil=>intro x hx;exact nomatch hx
  | @cons p q ps qs hq t ih =>
   intro x hx;rcases gj.mp hx with e | hx
   ·subst e;exact Vh ok (by rw[<-hq.1];exact hq.2.1)
   ·exact ih x hx
 exact all r x hx
def U6(ok:lF P w H h)(e:H a=some (.dT kvs)):kvs.length<=sizeLine/\(a==sysModules)=false /\
  ∃xs,KT H kvs xs/\h.DictOfH (tupleKind (bL P w)) a xs:=xJ ok (.inl e)
end
def qM(H:Hp)(a:Addr)(y:V)(r:Option V):Prop :=
 (∃kvs k,Rd H a (.dK kvs)/\y=kV k/\r=je kvs k)\/∃kvs k b,Rd H a (.dT kvs)/\y=.ref b/\H b=some (.tup (k.map kV))/\r=je kvs k
def Bq(H:Hp)(a:Addr)(y v:V)(H':Hp):Prop :=
 (∃kvs k,H a=some (.dK kvs)/\y=kV k/\kvs.length<sizeLine/\H'=upd H a (.dK (putK kvs k v))) \/
 ∃kvs k b,H a=some (.dT kvs)/\y=.ref b/\H b=some (.tup (k.map kV))/\kvs.length<sizeLine/\H'=upd H a (.dT (putK kvs k v))
def qM.k{H:Hp}{a:Addr}{kvs:List (Key×V)}{k:Key}(e:H a=some (.dK kvs)):qM H a (kV k) (je kvs k):=.inl ⟨kvs,k,.inl e,rfl,rfl⟩
def qM.t{H:Hp}{a b:Addr}{kvs:List (List Key×V)}{k:List Key}(e:H a=some (.dT kvs))(eb:H b=some (.tup (k.map kV))):qM H a (.ref b) (je kvs k):=.inr ⟨kvs,k,b,.inl e,rfl,eb,rfl⟩
def Bq.k{H:Hp}{a:Addr}{kvs:List (Key×V)}{k:Key}{v:V}(e:H a=some (.dK kvs))(hl:kvs.length<sizeLine):Bq H a (kV k) v (upd H a (.dK (putK kvs k v))):=.inl ⟨kvs,k,e,rfl,hl,rfl⟩
def Bq.t{H:Hp}{a b:Addr}{kvs:List (List Key×V)}{k:List Key}{v:V}(e:H a=some (.dT kvs))(eb:H b=some (.tup (k.map kV)))(hl:kvs.length<sizeLine) :
  Bq H a (.ref b) v (upd H a (.dT (putK kvs k v))):=.inr ⟨kvs,k,b,e,rfl,eb,hl,rfl⟩
section
variable  {X:Cx}{pins:List 0x6}{σ:St}{H:Hp}{s:Shared}{a:Addr}{y v:V}{u r:Value}{o:Option V}{A:Around}{E:Value->Shared->Prop}
def Inv.big(I:Inv X pins σ H s):sysModules<s.heap.objs.size:=by
 have h:mainGlobals<s.heap.objs.size:=(I.mod.glob.keeps I.bk).lt;exact Nat.lt_trans 0x5 h
def GD(hu:A.units+1<cLine)(I:Inv X pins σ H s)(g:qM H a y (some v))(ry:RelV y u)(h:∀w' s',Inv X pins σ H s'->RelV v w'->Q w' s') :
  wpAny 0x7 A (getItem (.ref a) u) Q E s:=by
 rcases g with⟨kvs,k,e,ey,l⟩ | ⟨kvs,k,b,e,ey,eb,l⟩
 ·subst ey;obtain⟨z,hd,vs,rel,dd⟩:=uo I.bO e;obtain⟨w',hw,Ah⟩:=lE.some_of (v:=v) (o:=valueAt vs k) (by rw[l];exact rel.val k);exact wpAny_getItem_of (vQ ry) dd.mapOf hw (h w' _ (I.tok _) Ah)
 ·subst ey;cases (show u=Value.ref b from ry);obtain⟨z,hd,xs,rel,dd⟩:=xJ I.bO e;obtain⟨w',hw,Ah⟩:=lE.some_of (v:=v) (o:=(atKey xs k).map (·.2)) (by rw[l];exact rel.val k);obtain⟨p,hp,d_⟩:=mO.mp hw;refine wpAny_getItem_heap (afJ hu) (Vh I.bO eb) dd hp ?_;rw[d_];exact h w' _ (I.tok _) Ah
def Sh(hu:A.units+1<cLine)(I:Inv X pins σ H s)(g:qM H a y o)(ry:RelV y u)(h:∀s',Inv X pins σ H s'->Q (.bool (!o.isSome)) s') :
  wpAny 0x7 A (compareOp .NotIn u (.ref a)) Q E s:=by
 rcases g with⟨kvs,k,e,ey,l⟩ | ⟨kvs,k,b,e,ey,eb,l⟩
 ·subst ey;obtain⟨z,hd,vs,rel,dd⟩:=uo I.bO e;refine wpAny_notIn_of (vQ ry) hd dd.mapOf ?_;rw[<-(rel.val k).t6,<-l];exact h _ (I.tok _)
 ·subst ey;cases (show u=Value.ref b from ry);obtain⟨z,hd,xs,rel,dd⟩:=xJ I.bO e;refine wpAny_notIn_heap (afJ hu) (Vh I.bO eb) hd dd ?_;have q:=(rel.val k).t6;rw[Option.isSome_map]at q;rw[<-q,<-l];exact h _ (I.tok _)
def zqx(I:Inv X pins σ H s)(mu:Mut (H a))(hs:Heap.SameBut a s.heap h')(he:∃q,h'.get? a=some q)(new:cB X.prog X.w (upd H a ob) h' a ob) :
  Inv X pins σ (upd H a ob) { s with heap:=h',toks:=t' } :=
 I.write (x:=a) (e:=a) mu (.inl rfl) (λb q hb z=>(hs.2 b hb).trans z) he new
def Bm(z:kvs.length<=sizeLine)(hd:(a==sysModules)=false)(rel:KV kvs vs)(dd:h'.DictOf (bL P w) a vs) :
  cB P w H' h' a (.dK kvs):=⟨z,hd,vs,rel,dd⟩
def zqi(hu:A.units+1<cLine)(I:Inv X pins σ H s)(g:Bq H a y v H')(ry:RelV y u)(rv:RelV v r)(h:∀s',Inv X pins σ H' s'->Q () s') :
  wpAny 0x7 A (setItem (.ref a) u r) Q E s:=by
 rcases g with⟨kvs,k,e,ey,l,eH⟩ | ⟨kvs,k,b,e,ey,eb,l,eH⟩
 ·subst ey eH;obtain⟨z,hd,vs,rel,dd⟩:=U8 I.bO e;have hz:vs.length<=sizeLine:=by rw[<-rel.length];exact z
  have hl:(putK kvs k v).length<=sizeLine:=by have:=zgy kvs k v;omega
  refine wpAny_setItem_pairs (hsz:=hz) (vQ ry) dd λh' Mq hs=>h _ ?_;have he:∃q,h'.get? a=some q:=let ⟨q,_,_,hq,_⟩:=Mq;⟨q,hq⟩;exact zqx I (by rw[e];exact True.intro) hs he (Bm hl hd (rel.put k rv) Mq)
 ·subst ey eH;cases (show u=Value.ref b from ry);obtain⟨z,hd,xs,rel,dd⟩:=U6 I.bO e;have hz:xs.length<=sizeLine:=by rw[<-afH rel];exact z
  have hl:(putK kvs k v).length<=sizeLine:=by have:=zgy kvs k v;omega
  refine wpAny_setItem_heap (hsz:=hz) (afJ hu) (Vh I.bO eb) dd λh' Mq hs=>h _ ?_;obtain⟨q,es,ep,hq,h2,h3,h4,_,h5⟩:=Mq;refine zqx I (by rw[e];exact True.intro) hs ⟨q,hq⟩ ⟨hl,hd,_,(rel.put k eb rv).keeps λc ys ec=>?_,q,es,ep,hq,h2,h3,h4,h5⟩;rw[iT (ue ec e (λz=>nomatch z))];exact ec
end
section
variable  {X:Cx}{pins:List 0x6}{σ:St}{H:Hp}{s:Shared}{a:Addr}{kvs:List (Key×V)}{k:Key}{u:Value}{A:Around}{E:Value->Shared->Prop}
def ab3(I:Inv X pins σ H s)(e:Rd H a (.dK kvs))(h:∀t s',Inv X pins σ H s'->Q (.int kvs.length t) s'):wpAny 0x7 A (call (.builtin "len") [.ref a]) Q E s:=by
 obtain⟨z,hd,vs,rel,dd⟩:=uo I.bO e;refine call_len_dict hd dd (by rw[<-rel.length];rw[af0]at z;omega) ?_;rw[<-rel.length];exact h _ _ (I.tok _)
end
def Zn(i:Expr):Prop:=∀ov iv,subscripted i false ov iv=operate [ov,iv] (getItem ov iv)
def Pg{prog:Program}{w:World}{A:Around}{E:Value->Shared->Prop}{s:Shared}{env:Env}{value slice:Expr}{pos:Pos}{T id:String}{Q:Value->Shared->Prop}
  (hl:typeLookup (.type T) "__getitem__" = pure (some (.builtin id))) (hs:Zn slice)
  (h:wpAny 0xb A (eval value env) (λo afb=>wpAny 0xb A (eval slice env) (λi afa=>afa.TypeIs o T/\wpAny 0xb A (getItem o i) Q E afa) E afb) E s) :
  wpAny 0xb A (eval (.Subscript value slice pos) env) Q E s:=by
 refine Subscript_ (afA h (λo afb afk=>afA afk (λi afa afj=>?_) λ_ _ x=>x) λ_ _ x=>x);obtain⟨hT,afj⟩:=afj;unfold subscriptTail;refine afm ?_;rw[getitemInPython_of_ne hT.not_modules];refine afm (afY hT hl ?_);have fin:wpAny 0xb A (subscripted slice false o i) (λr ae_=>wpAny 0xb A (letTemporaryGo value o r >>= λ_=>pure r) Q E ae_) E afa:=by
  rw[hs o i];exact wpAny_operating (afA afj (λr ae_ afi=>afm (wpAny_letTemporaryGo (afp afi))) λ_ _ x=>x)
 first
  | exact afp (afm fin)
  | exact afm (afp (afm fin))
  | exact afm fin
def zq3(I:Inv X pins σ H s)(g:qM H a y o):s.TypeIs (.ref a) "dict":=by
 rcases g with⟨kvs,k,e,_,_⟩ | ⟨kvs,k,b,e,_,_,_⟩
 ·obtain⟨_,_,vs,_,dd⟩:=uo I.bO e;exact dd.typeIs
 ·obtain⟨_,_,xs,_,dd⟩:=xJ I.bO e;exact dd.typeIs
noncomputable def aaJ(td ty:TE):TE:=fun σ H Q=>td σ H λx H1=>ty σ H1 λy H2=>∃a v,x=.ref a/\qM H2 a y (some v)/\Q v H2
section
variable  {X:Cx}{o i e value:Expr}{pos pos' xV:Pos}{td ty tv:TE}
def QF(hu:X.A.units+1<cLine)(ho:PE X o td)(hi:PE X i ty)(hs:Zn i):PE X (.Subscript o i pos) (aaJ td ty):=by
 show 6;refine Pg PySem.F.slot_dict_getitem.lookup hs (cO (ho pins s σ H _ I h) λu s1 zz=>?_);obtain⟨x,H1,I1,rx,q1⟩:=zz;refine cO (hi pins s1 σ H1 _ I1 q1) λiv s2 zz=>?_;obtain⟨y,H2,I2,ry,a,v,ex,g,q2⟩:=zz;subst ex;obtain rfl:u=Value.ref a:=rx;exact⟨zq3 I2 g,GD hu I2 g ry λw' s3 I3 Ah=>⟨v,H2,I3,Ah,q2⟩⟩
end
def zs3(h:Heap)(hb:sysModules<h.objs.size):cB P w H (h.push { cls:=.type "dict",data:=.dict #[] }) h.objs.size (.dK []) :=
 ⟨mK _,beq_eq_false_iff_ne.mpr (afy (gW hb)),[],.nil,Heap.DictOf.new h⟩
def Mg(h:Heap)(hb:sysModules<h.objs.size):cB P w H (h.push { cls:=.type "dict",data:=.dict #[] }) h.objs.size (.dT []) :=
 ⟨mK _,beq_eq_false_iff_ne.mpr (afy (gW hb)),[],.nil,_,#[],0,gZ _ rfl,⟨rfl,rfl,rfl⟩,rfl,rfl,List.nodup_nil⟩
noncomputable def V4:TE:=λ_ H Q=>∀p,H p=none->Q (.ref p) (upd H p (.dK []))
noncomputable def V3:TE:=λ_ H Q=>∀p,H p=none->Q (.ref p) (upd H p (.dT []))
section
variable  {X:Cx}{pos:Pos}
def Jx:PE X (.Dict [] [] pos) V4:=λpins s σ H Q I h =>
 wpAny_Dict_empty ⟨.ref s.heap.objs.size,_,I.laid (a:=s.heap.objs.size) (o:=.dK []) (t':=s.toks) (λ_ _ q=>gC _ q) (gb _) (zs3 s.heap I.big),rfl,h _ (I.bO.fresh (gb _))⟩
def Jw:PE X (.Dict [] [] pos) V3:=λpins s σ H Q I h =>
 wpAny_Dict_empty ⟨.ref s.heap.objs.size,_,I.laid (a:=s.heap.objs.size) (o:=.dT []) (t':=s.toks) (λ_ _ q=>gC _ q) (gb _) (Mg s.heap I.big),rfl,h _ (I.bO.fresh (gb _))⟩
end
def xW:List (TE×TE)->St->Hp->(List (V×V)->Hp->Prop)->Prop
 | [],_,H,Q=>Q [] H
 | (tk,tv)::r,σ,H,Q=>tk σ H λx H1=>tv σ H1 λy H2=>xW r σ H2 λps H3=>Q ((x,y)::ps) H3
abbrev VV:List (V×V)->List (Value×Value)->Prop:=Paired λp q=>RelV p.1 q.1/\RelV p.2 q.2
def PPs(X:Cx)(pos:Pos)(keys:List (Option Expr))(values:List Expr)(Ag:List (TE×TE)):Prop :=
 ∀(pins:List 0x6) (s:Shared) (σ:St) (H:Hp) (Q:List (V×V)->Hp->Prop),Inv X pins σ H s->xW Ag σ H Q ->
  wpAny 0x7 X.A (evalPairs (pairTrees keys values X.env pos)) (λvs s'=>∃ps H',Inv X pins σ H' s'/\VV ps vs/\Q ps H') X.xe s
def Qm{X:Cx}{pos:Pos}:PPs X pos [] [] []:=λpins s σ H Q I h=>pairTrees_nil_walk ⟨[],H,I,.nil,h⟩
def Jk{X:Cx}{pos:Pos}{k v:Expr}{ks:List (Option Expr)}{vs:List Expr}{tk tv:TE}{Ag:List (TE×TE)}(hk:PE X k tk)(hv:PE X v tv)(hr:PPs X pos ks vs Ag) :
  PPs X pos (some k::ks) (v::vs) ((tk,tv)::Ag):=λpins s σ H Q I h =>
 pairTrees_cons_walk (cO (hk pins s σ H _ I h) λu s1 ⟨x,H1,I1,rx,q1⟩=>cO (hv pins s1 σ H1 _ I1 q1) λw2 s2 ⟨y,H2,I2,ry,q2⟩ =>
  cO (hr pins s2 σ H2 _ I2 q2) λws s3 ⟨ps,H3,I3,rel,q3⟩=>⟨(x,y)::ps,H3,I3,.cons ⟨rx,ry⟩ rel,q3⟩)
noncomputable def j5(kvs more:List (Key×V)):List (Key×V):=more.foldl (λacc kv=>putK acc kv.1 kv.2) kvs
def KV.merge:∀{more:List (Key×V)} {rs:List (Key×Value)} {kvs:List (Key×V)} {vs:List (Key×Value)},KV more rs->KV kvs vs->KV (j5 kvs more) (merged vs rs):=by
 intro more rs kvs vs r;unfold KV at r
 induction r generalizing kvs vs with
 | nil=>intro q;exact q
 | @cons p q ps qs h t ih =>
  intro r0;have e:KV (putK kvs p.1 p.2) (stored vs q.1 q.2):=by
   have:=r0.put p.1 h.2;rw[<-h.1];exact this
  exact ih e
theorem zhd:∀(more kvs:List (Key×V)),(j5 kvs more).length<=kvs.length+more.length
 | [],kvs=>by show kvs.length<=kvs.length+0;omega
 | p::r,kvs=>by
  have h1:=zhd r (putK kvs p.1 p.2);have h2:=zgy kvs p.1 p.2;show (j5 (putK kvs p.1 p.2) r).length<=_;rw[g8];omega
theorem zmo{P:Program}{w:World}:∀{kvs:List (Key×V)} {ws:List (Value×Value)},VV (kvs.map λkv=>(kV kv.1,kv.2)) ws->∃rs,Carries (bL P w) ws rs/\KV kvs rs
 | [],_,r=>by rw[m7]at r;cases r;exact⟨[],True.intro,.nil⟩
 | p::kvs,_,r=>by
  rw[gq]at r;cases r with
  | @cons a b as bs h t =>
   obtain⟨rs,c,q⟩:=zmo (P:=P) (w:=w) t;obtain⟨b1,b2⟩:=b;exact⟨(p.1,b2)::rs,⟨vQ h.1,rfl,c⟩,.cons ⟨rfl,h.2⟩ q⟩
noncomputable def aaI(Ag:List (TE×TE)):TE:=fun σ H Q=>∀p,H p=none->xW Ag σ (upd H p (.dK [])) λps H2=>H2 p=some (.dK [])/\∃kvs:List (Key×V),ps=kvs.map (λkv=>(kV kv.1,kv.2))/\kvs.length<=15/\Q (.ref p) (upd H2 p (.dK (j5 [] kvs)))
def QD{X:Cx}{pos:Pos}{keys:List (Option Expr)}{values:List Expr}{Ag:List (TE×TE)}(h:PPs X pos keys values Ag)(uW:keys.all (·.isSome)=true)(hl:keys.length=values.length)(h0:keys≠[])
  (h15:keys.length<=15):PE X (.Dict keys values pos) (aaI Ag):=by
 intro pins s σ H Q I q;have hn:=I.bO.fresh (gb s.heap.objs.size);have I1:=I.laid (a:=s.heap.objs.size) (o:=.dK []) (h':=s.heap.push { cls:=.type "dict",data:=.dict #[] }) (t':=s.toks) (λ_ _ q=>gC _ q) (gb _) (zs3 s.heap I.big);refine wpAny_Dict_walk (knd:=bL X.prog X.w) uW hl h0 h15 (cO (h pins _ σ _ _ I1 (q _ hn)) λws s2 zz=>?_);obtain⟨ps,H2,I2,rel,e,kvs,ep,lk,q2⟩:=zz;subst ep;obtain⟨rs,c,rk⟩:=zmo (P:=X.prog) (w:=X.w) rel;obtain⟨z,hd,N7,r0,dd⟩:=U8 I2.bO e;cases r0;refine⟨rs,c,dd,λh' Mq hs=>⟨.ref s.heap.objs.size,_,?_,rfl,q2⟩⟩;have hz:(j5 [] kvs).length<=sizeLine:=by
  have h1:=zhd kvs [];rw[mU]at h1;rw[af0];omega
 have he:∃q,h'.get? s.heap.objs.size=some q:=let ⟨q,_,_,hq,_⟩:=Mq;⟨q,hq⟩;exact zqx I2 (by rw[e];exact True.intro) hs he (Bm hz hd (rk.merge .nil) Mq)
structure M1(X:Cx)(o:Expr)(m:Str)(apos:Pos)(e:Expr)(dU:Pos):Prop where
 base:attributeBase o m X.env (eval o X.env)=eval o X.env
 few:(#[13,dU,[e]].all (λx=>!x.1) && #[28,dU].all (λx=>x.1.isSome)
  && decide (([e]:List Expr).length+([]:List Keyword).length+0x2e<30))=true
 line:(apos.endLine==dU.line)=true
 trees:backTo dU (starEach [e] X.env)=[0xd]
structure M2(X:Cx)(o:Expr)(m:Str)(apos:Pos)(e f:Expr)(dU:Pos):Prop where
 base:attributeBase o m X.env (eval o X.env)=eval o X.env
 few:(#[13,dU,[e,f]].all (λx=>!x.1) && #[28,dU].all (λx=>x.1.isSome)
  && decide (([e,f]:List Expr).length+([]:List Keyword).length+0x2e<30))=true
 line:(apos.endLine==dU.line)=true
 trees:backTo dU (starEach [e,f] X.env)=[0xd,(false,eval f X.env)]
section
variable  {X:Cx}{pins:List 0x6}{σ:St}{H:Hp}{s:Shared}{a:Addr}{y d:V}{u r:Value}{o:Option V}{A:Around}{E:Value->Shared->Prop}
def Ze(hu:A.units+1<cLine)(I:Inv X pins σ H s)(g:qM H a y o)(ry:RelV y u)(h:∀w' s',Inv X pins σ H s'->RelV (o.getD .non) w'->Q w' s') :
  wpAny 0x7 A (call (.builtin "dict.get") [.ref a,u]) Q E s:=by
 rcases g with⟨kvs,k,e,ey,l⟩ | ⟨kvs,k,b,e,ey,eb,l⟩
 ·subst ey;obtain⟨z,hd,vs,rel,dd⟩:=uo I.bO e;refine af5 afz dd.typeIs afR (PySem.F.args_dict_get_2 _ _) (meets_dict_get (bL X.prog X.w) a (vQ ry) hd) ⟨_,dd.mapOf,h _ _ (I.tok _) ?_⟩;rw[l];exact (rel.val k).getD rfl
 ·subst ey;cases (show u=Value.ref b from ry);obtain⟨z,hd,xs,rel,dd⟩:=xJ I.bO e;refine af5 afz dd.typeIs afR (PySem.F.args_dict_get_2 _ _) (meetsH_dict_get (tupleKind (bL X.prog X.w)) a b hd) ⟨afJ hu,k,xs,Vh I.bO eb,dd,h _ _ (I.tok _) ?_⟩;rw[l];exact (rel.val k).getD rfl
def Zd(hu:A.units+1<cLine)(I:Inv X pins σ H s)(g:qM H a y o)(ry:RelV y u)(rd:RelV d r)(h:∀w' s',Inv X pins σ H s'->RelV (o.getD d) w'->Q w' s') :
  wpAny 0x7 A (call (.builtin "dict.get") [.ref a,u,r]) Q E s:=by
 rcases g with⟨kvs,k,e,ey,l⟩ | ⟨kvs,k,b,e,ey,eb,l⟩
 ·subst ey;obtain⟨z,hd,vs,rel,dd⟩:=uo I.bO e;refine af5 afz dd.typeIs afR (PySem.F.args_dict_get_3 _ _ _) (meets_dict_get_default (bL X.prog X.w) a (vQ ry) hd r) ⟨_,dd.mapOf,h _ _ (I.tok _) ?_⟩;rw[l];exact (rel.val k).getD rd
 ·subst ey;cases (show u=Value.ref b from ry);obtain⟨z,hd,xs,rel,dd⟩:=xJ I.bO e;refine af5 afz dd.typeIs afR (PySem.F.args_dict_get_3 _ _ _) (meetsH_dict_get_default (tupleKind (bL X.prog X.w)) a b hd r) ⟨afJ hu,k,xs,Vh I.bO eb,dd,h _ _ (I.tok _) ?_⟩;rw[l];exact (rel.val k).getD rd
end
section
variable  {X:Cx}{o e f:Expr}{apos dU:Pos}{td ty tx:TE}
end
section
variable  {X:Cx}{pins:List 0x6}{σ:St}{H:Hp}{s:Shared}{a:Addr}{kvs:List (Key×V)}{A:Around}{E:Value->Shared->Prop}
def Ms{Q:Value->Shared->Prop}(I:Inv X pins σ H s)(e:Rd H a (.dK kvs))(h:∀p s',H p=none->Inv X pins σ (upd H p (.dK kvs)) s'->Q (.ref p) s'):wpAny 0x7 A (call (.type "dict") [.ref a]) Q E s:=by
 obtain⟨z,hd,vs,rel,dd⟩:=uo I.bO e;refine kt_call_dict hd dd (by rw[<-rel.length];exact z) λh' Mq hs=>?_;refine h _ _ (I.bO.fresh (gb _)) (I.laid (a:=s.heap.objs.size) (o:=.dK kvs) (t':=s.toks) (λb q hq=>?_) (gb _) (Bm z (beq_eq_false_iff_ne.mpr (afy (gW I.big))) rel Mq));exact (hs.2 b (gW (gw hq))).trans (gC _ hq)
end
section
variable  {X:Cx}{pins:List 0x6}{σ:St}{H:Hp}{s:Shared}{a:Addr}{y:V}{u:Value}{A:Around}{E:Value->Shared->Prop}
end
def zfz{prog:Program}{w:World}{κ:Type}[DecidableEq κ]{knd:HeapKind prog w κ}{A:Around}{E:Value->Shared->Prop}{s:Shared}{d a:Addr}{xs:List (κ×Addr×Value)}{k:κ}{dflt:Value}{Q:Value->Shared->Prop}
  (hr:knd.room A) (hk:knd.is s.heap k a) (hd:s.heap.DictOfH knd d xs) (hz:xs.length<=sizeLine)
  (h1:∀p,atKey xs k=some p->Q p.2 { s with toks:=s.toks+knd.draws k })
  (h2:atKey xs k=none->∀h':Heap,h'.DictOfH knd d (xs++[(k,a,dflt)])->Heap.SameBut d s.heap h'->Q dflt { s with heap:=h',toks:=s.toks+knd.draws k }) :
  wpAny 0xb A (dictSetDefault d (.ref a) dflt) Q E s:=by
 obtain⟨o,es,ep,ho,hx,hdt,hes,his,Ab⟩:=hd;unfold dictSetDefault;refine afS (afm (knd.pyHash hr hk (afm ?_)));refine wpAny_dictFind_heap (s:={ s with toks:=s.toks+knd.draws k }) (o:=o) (es:=es) (ep:=ep) (xs:=xs) hr hk ho hdt hes his Ab (λhno=>?_) (λj p hj=>?_)
 ·have hn:atKey xs k=none:=by
   unfold atKey;rw[Option.map_eq_none_iff,List.find?_eq_none];intro x hx' hxk;obtain⟨j,hj,e⟩:=nj.mp hx';refine hno j x.2 ?_;rw[gB hj,e];have:=afx hxk;rw[<-this]
  refine afm (wpAny_rule (afm (wpAny_updateDictKeys (s:={ s with toks:=s.toks+knd.draws k }) ho hdt (afp ?_) ?_ ?_)))
  ·obtain⟨cls,dct,dat,sl⟩:=o;obtain rfl:dat=Data.dict es ep:=hdt;have hsb:Heap.SameBut d s.heap (s.heap.update d (Obj.mapDictKeys λx=>x.push { hash:=knd.hash k,key:=.ref a,val:=dflt })):=af2 _ _ _;refine h2 hn _ ⟨_,es.push { hash:=knd.hash k,key:=.ref a,val:=dflt },ep+1,pA _ ho rfl,hx,rfl,?_,?_,?_⟩ hsb
   ·rw[Array.toList_push,hes,mC];rfl
   ·intro x hx';rcases mz.mp hx' with q | q
    ·exact knd.keeps (his x q) ho rfl hsb
    ·obtain rfl:x=(k,a,dflt):=by simpa using q
     exact knd.keeps hk ho rfl hsb
   ·rw[mC];refine nU.mpr ⟨Ab,by simp,?_⟩;rintro y hy z hz' rfl;have hz2:y=k:=by simpa using hz'
    subst hz2;obtain⟨x,Yy,rfl⟩:=gh.mp hy;obtain⟨j,hj,e⟩:=nj.mp Yy;exact hno j x.2 (by rw[gB hj,e])
  ·have:es.size=xs.length:=by rw[<-nO,hes,gm]
   omega
  ·rw[Array.size_push];omega
 ·refine afm (wpAny_dictEntries (s:={ s with toks:=s.toks+knd.draws k }) ho hdt ?_);have e1:es[j]? = some (entryOfKey knd (k,p)):=by
   rw[<-Array.getElem?_toList,hes,gK,hj];rfl
  rw[e1];refine afm (wpAny_rule (afp ?_));exact h1 p (atKey_of_get Ab hj)
def zh0{prog:Program}{w:World}{κ:Type}[DecidableEq κ](knd:HeapKind prog w κ)(d b:Addr)(v:Value)(hd:(d==sysModules)=false) :
  MeetsIn prog w (Builtin.«dict.setdefault» { pos:=[.ref d,.ref b,v] }) λA R s=>knd.room A.in1/\∃k xs,knd.is s.heap k b/\s.heap.DictOfH knd d xs/\xs.length<=sizeLine /\
   (∀p,atKey xs k=some p->R (.ok (.ret p.2)) { s with toks:=s.toks+knd.draws k }) /\
   (atKey xs k=none->∀h':Heap,h'.DictOfH knd d (xs++[(k,b,v)])->Heap.SameBut d s.heap h'->R (.ok (.ret v)) { s with heap:=h',toks:=s.toks+knd.draws k }):=by
 rintro A R s ⟨hr,k,xs,hk,dd,hz,h1,h2⟩;unfold Builtin.«dict.setdefault»;refine afm ?_;unfold Builtin.Dict.keyAndDefault;refine afm ?_;unfold Builtin.Dict.notOrdered;rw[afn 0x5];refine afm (wpAny_typeOf dd.typeIs ?_);rw[afo 0x5];refine afp (afm ?_);refine afp (afm ?_);refine afm (afp (afm ?_));refine afp (afp ?_);refine afm (afp (afp ?_));dsimp only;rw[afo (by rw[hd];decide)];refine afm (zfz hr hk dd hz (λp e=>afp (h1 p e)) λe h' q1 q2=>afp (h2 e h' q1 q2))
section
variable  {X:Cx}{pins:List 0x6}{σ:St}{H:Hp}{s:Shared}{a b:Addr}{v:V}{u r:Value}{A:Around}{E:Value->Shared->Prop}{kvs:List (List Key×V)}{k:List Key}
def Mr(hu:A.units+1<cLine)(I:Inv X pins σ H s)(e:H a=some (.dT kvs))(eb:H b=some (.tup (k.map kV)))(rv:RelV v r)(hl:kvs.length<sizeLine) 
  (h1:∀x w' s',je kvs k=some x->RelV x w'->Inv X pins σ H s'->Q w' s')
  (h2:je kvs k=none->∀s',Inv X pins σ (upd H a (.dT (kvs++[(k,v)]))) s'->Q r s') :
  wpAny 0x7 A (call (.builtin "dict.setdefault") [.ref a,.ref b,r]) Q E s:=by
 obtain⟨z,hd,xs,rel,dd⟩:=U6 I.bO e;have hz:xs.length<=sizeLine:=by rw[<-afH rel];exact z
 refine af5 PySem.F.slot_dict_setdefault dd.typeIs PySem.F.entry_dict_setdefault (PySem.F.args_dict_setdefault_3 _ _ _) (zh0 (tupleKind (bL X.prog X.w)) a b r hd) ⟨afJ hu,k,xs,Vh I.bO eb,dd,hz,λp ep=>?_,λen h' Mq hs=>?_⟩
 ·have q:=rel.val k;rw[ep]at q;cases q2:je kvs k with
  | none=>rw[q2]at q;exact q.elim
  | some x=>rw[q2]at q;exact h1 x _ _ q2 q (I.tok _)
 ·have q:=rel.val k;rw[en]at q;have q2:je kvs k=none:=by
   cases q2:je kvs k with
   | none=>rfl
   | some x=>rw[q2]at q;exact q.elim
  refine h2 q2 _ ?_;obtain⟨ob,es,ep,hq,h2,h3,h4,_,h5⟩:=Mq;have Gk:storedH xs k b r=xs++[(k,b,r)]:=by unfold storedH;rw[en];rfl
  have hp:=rel.put k eb rv;rw[Jf v q2,Gk]at hp;refine zqx I (by rw[e];exact True.intro) hs ⟨ob,hq⟩ ⟨by rw[gO];exact hl,hd,_,hp.keeps λc ys ec=>?_,ob,es,ep,hq,h2,h3,h4,h5⟩;rw[iT (ue ec e (λz=>nomatch z))];exact ec
end
end L2
namespace M
open PySem PySem.Spec L2
noncomputable def keyOf:D->Option Key
 | .int i=>some (.inl i)
 | .str cs=>some (.inr 0xa)
 | _=>none
noncomputable def oA:List D->Option (List Key)
 | []=>some []
 | d::ds=>(keyOf d).bind λk=>(oA ds).map λks=>k::ks
noncomputable def keysOf(ds:List D):Option (List Key):=if Hb ds=true then none else oA ds
noncomputable def jf(kvs:List (List Key×D))(k:List Key):Option D:=(kvs.find? λkv=>decide (kv.1=k)).map (·.2)
@[simp] def zp8(i:Int):keyOf (.int i)=some (.inl i):=eZ rfl
@[simp] def aai(cs:List Nat):keyOf (.str cs)=some (.inr 0xa):=eZ rfl
@[simp] def FW:oA []=some []:=eZ rfl
@[simp] def acj(i:Int)(r:List D):Hb (.int i::r)=false:=eZ rfl
@[simp] def zlt(d:D)(ds:List D):oA (d::ds)=(keyOf d).bind λk=>(oA ds).map λks=>k::ks:=eZ rfl
@[simp] def Uv(d:D)(ds:List D):keysOf (d::ds)=if Hb (d::ds)=true then none else (keyOf d).bind λk=>(oA ds).map λks=>k::ks:=eZ rfl
@[simp] def HQ(k:List Key):jf [] k=none:=eZ rfl
def ZW(p:List Key×D)(r:List (List Key×D))(k:List Key):jf (p::r) k=if p.1=k then some p.2 else jf r k:=by
 unfold jf;rw[mq];by_cases h:p.1=k
 ·simp[h]
 ·simp[h]
def zp2(kvs:List (List Key×D))(k j:List Key)(y:D)(h:jf kvs k=none):jf (kvs++[(k,y)]) j=if k=j then some y else jf kvs j:=by
 induction kvs with
 | nil=>rw[kI,ZW]
 | cons p r ih =>
  rw[ZW]at h
  split at h
  ·cases h
  ·rename_i hn;rw[nF,ZW,ZW,ih h];by_cases e:p.1=j
   ·rw[afn e,afn e,afo (λz=>hn (e.trans z.symm))]
   ·rw[afo e,afo e]
theorem ao.Uu{K:PySem.W.Frag}{μ:List Addr}{H:Hp}:∀{ds:List D} {xs:List V} {ks:List Key},ao K μ H ds xs->oA ds=some ks->xs=ks.map kV
 | [],xs,ks,h,e=>by
  rw[ao]at h;rw[FW]at e;cases e;exact h
 | d::ds,xs,ks,h,e=>by
  rw[ao]at h;obtain⟨v,r,rfl,h1,h2⟩:=h;rw[zlt]at e;cases e1:keyOf d with
  | none=>rw[e1]at e;cases e
  | some k1 =>
   rw[e1]at e;cases e2:oA ds with
   | none=>rw[e2]at e;cases e
   | some ks2 =>
    rw[e2]at e;cases e;rw[ao.Uu h2 e2];have:v=kV k1:=by
     cases d with
     | int i=>rw[aq.aN]at h1;cases e1;exact h1
     | str cs=>rw[aq.aP]at h1;cases e1;exact h1
     | _=>cases e1
    rw[this];rfl
theorem zm1:∀{ds:List D} {ks:List Key},oA ds=some ks->FN ds=false
 | [],_,_=>rfl
 | d::ds,ks,e=>by
  rw[zlt]at e;cases e1:keyOf d with
  | none=>rw[e1]at e;cases e
  | some k1 =>
   rw[e1]at e;cases e2:oA ds with
   | none=>rw[e2]at e;cases e
   | some ks2 =>
    have ih:=zm1 e2;cases d with
    | int i=>rw[FN];exact ih
    | str cs=>rw[FN];exact ih
    | _=>cases e1
def zo2{ds:List D}{ks:List Key}(h:keysOf ds=some ks):Hb ds=false/\oA ds=some ks:=by
 unfold keysOf at h
 split at h
 ·cases h
 ·rename_i n;exact⟨by simpa using n,h⟩
def ao.keys(h:ao K μ H ds xs)(e:keysOf ds=some ks):xs=ks.map kV:=h.Uu (zo2 e).2
def zon{ds:List D}{ks:List Key}(e:keysOf ds=some ks):Cw ds=false:=by
 unfold Cw;rw[(zo2 e).1,zm1 (zo2 e).2];rfl
def zR.made(h:zR K H a xs ds)(e:keysOf ds=some ks):H a=some (.tup xs):=by
 rcases h with h | ⟨h,_⟩
 ·exact h
 ·rw[zon e]at h;cases h
theorem aJ.val:∀{kvs:List (List Key×D)} {ws:List (List Key×V)},aJ K μ H kvs ws ->
  (jf kvs k=none/\je ws k=none)\/∃d v,jf kvs k=some d/\je ws k=some v/\aq K μ H d v
 | [],ws,h=>.inl ⟨rfl,by rw[aJ]at h;rw[h];rfl⟩
 | (j,d)::r,ws,h=>by
  obtain⟨v,r',rfl,h1,h2⟩:=h;rw[ZW];by_cases e:j=k
  ·rw[afn e];exact .inr ⟨d,v,rfl,zjd (p:=(j,v)) e,h1⟩
  ·rw[afo e,zjm (p:=(j,v)) e];exact aJ.val h2
theorem aJ.snoc:∀{kvs:List (List Key×D)} {ws:List (List Key×V)},aJ K μ H kvs ws->aq K μ H d v->aJ K μ H (kvs++[(k,d)]) (ws++[(k,v)])
 | [],ws,h,hv=>by rw[aJ]at h;subst h;exact⟨v,[],rfl,hv,rfl⟩
 | (j,d')::r,ws,h,hv=>by
  obtain⟨v',r',rfl,h1,h2⟩:=h;exact⟨v',r'++[(k,v)],rfl,h1,aJ.snoc h2 hv⟩
theorem aJ.len:∀{kvs:List (κ×D)} {ws:List (κ×V)},aJ K μ H kvs ws->kvs.length=ws.length
 | [],ws,h=>by rw[aJ]at h;rw[h];rfl
 | (j,d)::r,ws,h=>by
  obtain⟨v,r',rfl,h1,h2⟩:=h;rw[g8,g8,aJ.len h2]
def aX.dic{K:PySem.W.Frag}{μ:List Addr}{H:Hp}{st:ak}{n:Nat}{kvs:List (List Key×D)}(h:aX K μ H st)(e:st[n]? = some (.dic kvs)):∃p ws,μ[n]? = some p/\H p=some (.dT ws)/\aJ K μ H kvs ws:=by
 obtain⟨p,h1,xs,h2,h3⟩:=h.at_ n _ e;exact⟨p,xs,h1,h2,h3⟩
section
variable  {X:Cx}{e a b c o:Expr}{es:List Expr}{ma mb mc mo:ME}{mA:MA}{pos p2 p apos dU:Pos}
noncomputable def R_:ME:=λ_ st=>.ok 0x2 (st++[.dic []])
def Rp:JE X (.Dict [] [] pos) R_:=by
 refine JE.of Jw fun σ H Q zz=>?_;show 1;refine λp hn=>?_;have hr:ig X.K (μ++[p]) (upd H p (.dT [])) p (.dic []):=⟨[],qQ,rfl⟩;exact hp _ _ (μ++[p]) (bj.new hn) (hs.new hn hr) (aq.aL.mpr ⟨p,by rw[<-hs.len];simp,rfl⟩)
noncomputable def Bd:D->List D->ak->R D
 | .loc n,[.tup ks],st=>match st[n]?,keysOf ks with
  | some (.dic kvs),some k=>.ok ((jf kvs k).getD .non) st
  | _,_=>.bad
 | _,_,_=>.bad
def Q8(hu:X.A.units+1<cLine):sV X "dict.get" (Hk X Bd):=by
 rintro pins s σ H x xs v us Q I rx E_ ⟨μ,st,d,ds,hs,hx,j7,hp⟩;unfold Bd at hp
 split at hp
 ·rename_i n ks
  split at hp
  ·rename_i kvs k e1 e2;obtain⟨p,q1,rfl⟩:=aq.aL.mp hx;obtain⟨y,rfl,q2⟩:=ao.one j7;obtain⟨b,ys,rfl,q3,q4⟩:=aq.aU.mp q2;replace q3:=q3.made e2;obtain rfl:=q4.keys e2;obtain⟨p',ws,r1,r2,r3⟩:=hs.dic e1;show 7;cases E_ with
   | cons ry rr =>
    cases rr;obtain rfl:v=Value.ref p:=rx;refine Ze hu I (qM.t r2 q3) ry λw' s' I' Ah=>⟨_,H,I',Ah,?_⟩;rcases r3.val (k:=k) with⟨z1,z2⟩ | ⟨d',v',z1,z2,z3⟩
    ·rw[z1]at hp;rw[z2];exact hp.ret hs (aq.bK.mpr rfl)
    ·rw[z1]at hp;rw[z2];exact hp.ret hs z3
  ·exact hp.elim
 ·exact hp.elim
noncomputable def oR:D->List D->ak->R D
 | .loc n,[.tup ks,d],st=>match st[n]?,keysOf ks with
  | some (.dic kvs),some k=>if kvs.length<1000000 then (match jf kvs k with
   | some d'=>.ok d' st
   | none=>.ok d (st.set n (.dic (kvs++[(k,d)])))) else .bad
  | _,_=>.bad
 | _,_,_=>.bad
def zsb(hu:X.A.units+1<cLine):sV X "dict.setdefault" (Hk X oR):=by
 rintro pins s σ H x xs v us Q I rx E_ ⟨μ,st,d,ds,hs,hx,j7,hp⟩;unfold oR at hp
 split at hp
 ·rename_i n ks d1
  split at hp
  ·rename_i kvs k e1 e2
   split at hp
   ·rename_i hl;obtain⟨p,q1,rfl⟩:=aq.aL.mp hx;obtain⟨y,z,rfl,q2,q5⟩:=ao.two j7;obtain⟨b,ys,rfl,q3,q4⟩:=aq.aU.mp q2;replace q3:=q3.made e2;obtain rfl:=q4.keys e2;obtain⟨p',ws,r1,r2,r3⟩:=hs.dic e1;show 7;cases E_ with
    | cons ry rr =>
     cases rr with
     | cons rz rr =>
      cases rr;obtain rfl:v=Value.ref p:=rx;rename_i uy uz;obtain rfl:uy=Value.ref b:=ry;refine Mr hu I r2 q3 rz (by rw[<-r3.len];exact gQ hl 0x5) (λx' w' s' ex Ah I'=>⟨_,H,I',Ah,?_⟩) λen s' I'=>⟨_,_,I',rz,?_⟩
      ·rcases r3.val (k:=k) with⟨z1,z2⟩ | ⟨d',v',z1,z2,z3⟩
       ·rw[z2]at ex;cases ex
       ·rw[z1]at hp;rw[z2]at ex;cases ex;exact hp.ret hs z3
      ·rcases r3.val (k:=k) with⟨z1,z2⟩ | ⟨d',v',z1,z2,z3⟩
       ·rw[z1]at hp;have g:Ext H (upd H p (.dT (ws++[(k,z)]))):=Ext.mut r2 0x17 (λ_ _ z=>nomatch z);have g':bj μ H μ (upd H p (.dT (ws++[(k,z)]))):=⟨⟨[],by simp⟩,g⟩;exact hp _ _ μ g' (hs.put e1 rfl rfl q1 g ⟨_,qQ,(r3.snoc q5).mono g'⟩) (q5.mono g' _)
       ·rw[z2]at en;cases en
   ·exact hp.elim
  ·exact hp.elim
 ·exact hp.elim
end
end M
namespace L2
open PySem PySem.Spec PyProof.Rows
noncomputable def Its(x:Str):It:=⟨λi _=>i<x.cps.size,λi H y H'=>H'=H/\∃c,x.cps[i]? = some c/\y=.str ⟨#[c]⟩,λi _=>x.cps.size<=i⟩
def HW{P:Program}{w:World}{K:PySem.W.Frag}{tg:Expr}(it:Addr)(x:Str)(t:Tok):Turn P w K tg (Its x) [it] it (λi h=>h.IsStrIter it "str_ascii_iterator" x t i) where
 mem:=by simp
 obj:=λi h st b hb=>by
  have e:b=it:=by simpa using hb
  show 14
 keep:=λi h h' st k=>by
  obtain⟨o,e,c,d⟩:=st;exact⟨o,k it 0x1 o e,c,d⟩
 item:=by
  show 2;show 5;have hi:i<x.cps.size:=hg;refine wpAny_pyNext_ascii_item st (pM hi) λh' st' sb=>?_;have I1:Inv X pins σ H { s with heap:=h',toks:=s.toks+1 }:=I.turned (λb o hb e=>(sb.2 b hb).trans e) f0 f1 f3 f4 f5;obtain⟨o,e,c,d⟩:=id st';exact⟨_,rfl,ug (s:={ s with heap:=h',toks:=s.toks+1 }) e c d 0x5 ⟨.str ⟨#[x.cps[i]]⟩,H,I1,⟨_,rfl⟩,⟨rfl,_,pM hi,rfl⟩,st',λb hb=>(hf b hb).1⟩⟩
 done:=by
  show 2;show 5;have hi:x.cps.size<=i:=hg;exact wpAny_pyNext_ascii_end (I.ok.hd hc) st (Array.getElem?_eq_none hi) λh' eb=>⟨rfl,I.turned (t':=s.toks) (λb o hb e=>eb b o hb e) f0 f1 f3 f4 f5⟩
 self:=λ_ _ _ _ _ st h=>wpAny_pyIter_striter_ascii st h
noncomputable def ad3(tl:TE):TI:=fun σ H R=>tl σ H λy H1=>∃x,y=.str x/\strIterType x = "str_ascii_iterator"/\R (Its x) H1
def Ww{X:Cx}{tg l:Expr}{tl:TE}(hl:PE X l tl):PI X tg l (ad3 tl):=by
 intro pins s σ H R I h;refine cO (hl pins s σ H _ I h) λv s1 zz=>?_;obtain⟨y,H1,I1,r1,q1⟩:=zz;obtain⟨x,e,ha,q⟩:=q1;subst e;obtain⟨t,rfl⟩:=r1;refine wpAny_pyIter_strU ?_;rw[ha];refine⟨s1.heap.objs.size,[s1.heap.objs.size],_,_,H1,rfl,I1.kept (t':=s1.toks) λb o e=>gC _ e,HW _ x t,⟨_,gZ _ rfl,rfl,rfl⟩,λb hb=>?_,q⟩;have e:b=s1.heap.objs.size:=by simpa using hb
 subst e;exact I1.v5 (gb _) (I1.bO.fresh (gb _))
end L2
namespace M
open PySem PySem.Spec L2
section
variable  {X:Cx}{tg l:Expr}{ml:ME}{μ:List Addr}{H:Hp}
noncomputable def zf(m:ME):MI:=λenv st=>(m env st).bind λd st1=>match d with
 | .str cs=>if cs.all (λc=>decide (c<128))=true then .ok (cs.map λc=>D.str [c],[]) st1 else .bad
 | _=>.bad
def Ry(cs:List Nat):oO X μ H (Its 0xa) (cs.map λc=>D.str [c],[]):=by
 intro H' μ' st' g hs ok;refine⟨λi d e=>?_,by show 0xa.cps.size<=_;simp⟩;rw[gK]at e;obtain⟨c,e1,rfl⟩:=mO.mp e;refine⟨by show i<0xa.cps.size;simpa using (gf.mp e1).1,?_⟩;rintro x DN ⟨rfl,c',hc,rfl⟩;have:c'=c:=by
  have h2:cs[i]? = some c':=by simpa using hc
  rw[e1]at h2;exact (afr h2).symm
 subst this;exact⟨.refl _ _,hs,aq.aP.mpr rfl⟩
def XF(hl:JE X l ml):JI X tg l (zf ml):=by
 refine JI.of (Ww hl) fun σ H R zz=>?_;show 1;show 3;rintro v H1 ⟨μ1,st1,d,g1,bJ,hv,aQ⟩;dsimp only at aQ
 split at aQ
 ·rename_i cs
  split at aQ
  ·rename_i hc;obtain rfl:=aq.aP.mp hv;refine⟨strOf cs,rfl,?_,aQ _ _ _ (.refl _ _) bJ (Ry cs)⟩;unfold strIterType;rw[afn];show (cs.toArray.all _)=true;rw[List.all_toArray];exact hc
  ·exact aQ.elim
 ·exact aQ.elim
end
end M
namespace L2
open PySem PySem.Spec PyProof.Rows
def Inv.but(I:Inv X pins σ H s)(k:∀b o,b≠X.env.locals->s.heap.get? b=some o->h'.get? b=some o) 
  (ns:∀m,s.heap.Ns X.env.locals m->h'.Ns X.env.locals m):Inv X pins σ H { s with heap:=h',toks:=t' }:=by
 have neL:∀b u,H b=some u->b≠X.env.locals:=λb u e z=>by rw[z,I.free]at e;cases e
 refine I.step (g':=s.gens) (d':=s.drawn) (ch:=[]) 0x17 (λb o hL _ _ e _=>k b o hL e) (λb o hL _ _ e _=>⟨o.slots,k b o hL e⟩) (λ_ _ _ _ n=>n) (λb o _ e=>?_) (λ_ _ e=>e) (λ_ _ _ e=>e) (λb ps e=>⟨#[],by rw[e];simp⟩) ns (λb u e=>?_) I.bare
 ·by_cases hb:b=X.env.locals
  ·subst hb;obtain⟨m,hm,_⟩:=I.loc;obtain⟨o',_,_,q,_⟩:=ns m hm;exact⟨o',q⟩
  ·exact⟨o,k b o hb e⟩
 ·refine (I.bO b u e).uO (λc v hc q=>k c v ?_ q) (λc q=>q) λc xs q=>q;rcases hc with z | z
  ·rw[z];exact neL b u e
  ·exact neL c _ z
def GR(hc:X.A.handled=none):cL X (.builtin "sum") (λxs H Q=>∃(p:Addr) (ns:List Int),xs=[.ref p]/\oN X.K H p (ns.map V.int)/\Q (.int ns.sum) H):=by
 rintro pins s σ H xs us Q I hr ⟨p,ns,rfl,hq,h⟩;cases hr with
 | cons r1 r2 =>
  cases r2;cases r1;obtain⟨its,rv,pl,hz⟩:=I.list hq;have hi:IntsAre its ns:=by
   have key:∀(ns:List Int) (its:List Value),Vals (ns.map V.int) its->IntsAre its ns:=by
    intro ns
    induction ns with
    | nil=>intro its h;cases h;exact .nil
    | cons n ns ih =>
     intro its h;cases h with
     | cons r1 r2 =>
      obtain⟨t,rfl⟩:=r1;exact .cons n t (ih _ r2)
   exact key ns its rv
  obtain⟨m,hm,_⟩:=id I.loc;obtain⟨o,ho,_⟩:=id pl.isList;have qb:p≠X.env.locals:=λz=>by
   obtain⟨o',es,ep,q1,q2,_⟩:=hm;obtain⟨o2,w1,w2,w3⟩:=id pl.isList;rw[z,q1]at w1;cases w1;rw[q2]at w3;obtain⟨_,w4⟩:=w3;cases w4
  refine LSm.sum_ints (Att.Lw hm) (Att.zrg qb ho) hc pl.isList hi λh' tk t' F' N'=>⟨.int ns.sum,H,I.but (λb ob hb e=>?_) (λm' Oh=>?_),⟨t',rfl⟩,h⟩
  ·by_cases hbp:b=p
   ·subst hbp;rw[ho]at e;cases e;exact N'.get (List.Mem.head _)
   ·exact N'.get (List.Mem.tail _ (Att.znd.mpr ⟨hb,hbp,e⟩))
  ·have:m'=m:=by
    obtain⟨o1,es1,ep1,q1,q2,_,q3⟩:=hm;obtain⟨o2,es2,ep2,w1,w2,_,w3⟩:=Oh;rw[q1]at w1;cases w1;rw[q2]at w2;cases w2;funext x;rw[<-q3 x,<-w3 x]
   subst this;exact F'.ns
end L2
namespace M
open PySem PySem.Spec L2
noncomputable def intsOf:List D->Option (List Int)
 | []=>some []
 | .int i::r=>(intsOf r).map (i :: ·)
 | _::_=>none
theorem zla:∀{ds:List D} {xs:List V} {ns:List Int},intsOf ds=some ns->ao K μ H ds xs->xs=ns.map V.int
 | [],_,_,e,h=>by cases e;rw[ao]at h;exact h
 | d::ds,_,ns,e,h=>by
  rw[ao]at h;obtain⟨v,t,rfl,h1,h2⟩:=h;cases d with
  | int i =>
   simp only[intsOf]at e;cases q:intsOf ds with
   | none=>rw[q]at e;cases e
   | some bs' =>
    rw[q]at e;cases e;rw[aq.aN]at h1;subst h1;rw[zla q h2];rfl
  | _=>simp[intsOf]at e
noncomputable def H_:List D->ak->R D
 | [.loc n],st=>match (aA st n).bind intsOf with | some ns=>.ok (.int ns.sum) st | none=>.bad
 | _,_=>.bad
def GP(hc:X.A.handled=none):cL X (.builtin "sum") (N_ X H_):=by
 refine cL.weak (GR hc) ?_;rintro xs H Q ⟨μ,st,ds,hs,hv,hp⟩;unfold H_ at hp
 split at hp
 ·rename_i n;cases e:aA st n with
  | none=>rw[e]at hp;exact hp.elim
  | some l =>
   rw[e]at hp;cases e2:intsOf l with
   | none=>simp only[mW,e2]at hp;exact hp.elim
   | some ns =>
    simp only[mW,e2]at hp;show 12;obtain⟨p',ys,r1,r2,r3⟩:=hs.items e;show 7;rw[zla e2 r3]at r2;exact⟨p,ns,rfl,r2,hp.ret hs (aq.aN.mpr rfl)⟩
 ·exact hp.elim
end M
namespace M
open L2
def zue(xs:List α)(c:Nat)(h:c<=xs.length):cut xs none (some (c:Int))=xs.take c:=by
 unfold cut;rw[HT.zoz,HT.B_,Nat.min_eq_left h];simp
def zom(xs:List α)(c:Nat):cut xs (some (c:Int)) none=xs.drop c:=by
 unfold cut;rw[HT.zoz,HT.B_];by_cases h:c<=xs.length
 ·rw[Nat.min_eq_left h,pN 0x1]
 ·rw[Nat.min_eq_right 0x0,nA (gb _),nA 0x0];simp
def ZG(lo:Int)(n:Nat):(o9 lo n).length=n:=by simp[o9]
section
variable  (st:ak)
def ZM(cs:List Nat)(lo hi:Option Int)(h:cs.length<=1000000):xY (.str cs) lo hi st=.ok (.str (cut cs lo hi)) st:=by simp[xY,h]
def zh9(cs:List Nat)(h:cs.length<=1000000):wZ [.str cs] st=.ok (.int cs.length) st:=by simp[wZ,h]
@[simp] def adw(env:aK):R_ env st=.ok 0x2 (st++[.dic []]):=eZ rfl
@[simp] theorem Wf(a:ME)(env:aK):zf a env st=(a env st).bind λd st1=>match d with
 | .str cs=>if cs.all (λc=>decide (c<128))=true then .ok (cs.map λc=>D.str [c],[]) st1 else .bad
 | _=>.bad:=eZ rfl
end
end M
namespace M
open PySem PySem.Spec L2
section
variable  {X:Cx}
noncomputable def Gj(neg:Bool):D->D->ak->R D
 | .tup ks,.loc n,st=>match st[n]?,keysOf ks with
  | some (.dic kvs),some k=>.ok (.bl (if neg then !(jf kvs k).isSome else (jf kvs k).isSome)) st
  | _,_=>.bad
 | _,_,_=>.bad
def Lb(h:rM X (Gj neg) x y H Q):∃p o,y=.ref p/\qM H p x o/\Q (.bl (if neg then !o.isSome else o.isSome)) H:=by
 obtain⟨μ,st,dx,dy,hs,hx,hy,hp⟩:=h;unfold Gj at hp
 split at hp
 ·rename_i ks n
  split at hp
  ·rename_i kvs k e1 e2;obtain⟨p,q1,rfl⟩:=aq.aL.mp hy;obtain⟨b,ys,rfl,q3,q4⟩:=aq.aU.mp hx;replace q3:=q3.made e2;obtain rfl:=q4.keys e2;obtain⟨p',ws,r1,r2,r3⟩:=hs.dic e1;show 7;refine⟨p,_,rfl,qM.t r2 q3,?_⟩;rcases r3.val (k:=k) with⟨z1,z2⟩ | ⟨d',v',z1,z2,z3⟩
   ·rw[z1]at hp;rw[z2];exact hp.ret hs (aq.bu.mpr rfl)
   ·rw[z1]at hp;rw[z2];exact hp.ret hs (aq.bu.mpr rfl)
  ·exact hp.elim
 ·exact hp.elim
def zm3(hu:X.A.units+1<cLine):eO X (compareOp .NotIn) (rM X (Gj true)):=by
 show 10;obtain⟨p,o,rfl,g,q⟩:=Lb h;obtain rfl:u=Value.ref p:=ry;exact Sh hu I g rx λs' I'=>⟨.bl (!o.isSome),H,I',rfl,q⟩
noncomputable def Qg(kvs:List (List Key×D))(k:List Key)(d:D):List (List Key×D) :=
 if 0x23=true then kvs.map (λkv=>if kv.1=k then (kv.1,d) else kv) else kvs++[(k,d)]
theorem aJ.any:∀{kvs:List (List Key×D)} {ws:List (List Key×V)},aJ K μ H kvs ws->0x23=(ws.any λkv=>decide (kv.1=k))
 | [],ws,h=>by rw[aJ]at h;rw[h];rfl
 | (j,d)::r,ws,h=>by
  obtain⟨v,r',rfl,h1,h2⟩:=h;rw[mR,mR,aJ.any h2]
theorem aJ.repl(hv:aq K μ H d v):∀{kvs:List (List Key×D)} {ws:List (List Key×V)},aJ K μ H kvs ws->aJ K μ H (kvs.map λkv=>if kv.1=k then (kv.1,d) else kv) (ws.map λkv=>if kv.1=k then (kv.1,v) else kv)
 | [],ws,h=>by rw[aJ]at h;subst h;exact rfl
 | (j,d')::r,ws,h=>by
  obtain⟨v',r',rfl,h1,h2⟩:=h;rw[gq,gq];by_cases e:j=k
  ·rw[afn e,afn e];exact⟨v,_,rfl,hv,aJ.repl hv h2⟩
  ·rw[afo e,afo e];exact⟨v',_,rfl,h1,aJ.repl hv h2⟩
def aJ.put(h:aJ K μ H kvs ws)(hv:aq K μ H d v):aJ K μ H (Qg kvs k d) (putK ws k v):=by
 unfold Qg putK;rw[h.any]
 split
 ·exact aJ.repl hv h
 ·exact h.snoc hv
noncomputable def zj:D->D->D->ak->R Unit
 | .loc n,.tup ks,d,st=>match st[n]?,keysOf ks with
  | some (.dic kvs),some k=>if kvs.length<1000000 then .ok () (st.set n (.dic (Qg kvs k d))) else .bad
  | _,_=>.bad
 | _,_,_,_=>.bad
def V_(hu:X.A.units+1<cLine):xx X (Ci X zj):=by
 rintro pins s σ H o i v ov iv u Q I ro ri rv ⟨μ,st,d1,d2,d3,hs,h1,h2,h3,hp⟩;unfold zj at hp
 split at hp
 ·rename_i n ks d
  split at hp
  ·rename_i kvs k e1 e2
   split at hp
   ·rename_i hl;obtain⟨p,q1,rfl⟩:=aq.aL.mp h1;obtain⟨b,ys,rfl,q3,q4⟩:=aq.aU.mp h2;replace q3:=q3.made e2;obtain rfl:=q4.keys e2;obtain⟨p',ws,r1,r2,r3⟩:=hs.dic e1;show 7;obtain rfl:ov=Value.ref p:=ro;refine zqi hu I (Bq.t r2 q3 (by rw[<-r3.len];exact gQ hl 0x5)) ri rv λs' I'=>⟨_,I',?_⟩;have g:Ext H (upd H p (.dT (putK ws k v))):=Ext.mut r2 0x17 (λ_ _ z=>nomatch z);have g':bj μ H μ (upd H p (.dT (putK ws k v))):=⟨⟨[],by simp⟩,g⟩;exact hp () _ μ g' (hs.put e1 rfl rfl q1 g ⟨_,qQ,(r3.put h3).mono g'⟩) trivial
   ·exact hp.elim
  ·exact hp.elim
 ·exact hp.elim
noncomputable def rG:D->List D->ak->R D
 | .loc n,[],st=>match st[n]? with
  | some (.lst ds)=>(match ds[ds.length - 1]? with | some d=>.ok d (st.set n (.lst ds.dropLast)) | none=>.bad)
  | _=>.bad
 | _,_,_=>.bad
theorem ao.dropLast{K:PySem.W.Frag}{μ:List Addr}{H:Hp}:∀{ds:List D} {xs:List V},ao K μ H ds xs->ao K μ H ds.dropLast xs.dropLast
 | [],xs,h=>by rw[ao]at h;subst h;exact ao.nil
 | [d],xs,h=>by obtain⟨v,rfl,_⟩:=ao.one h;exact ao.nil
 | d::e::ds,xs,h=>by
  rw[ao]at h;obtain⟨v,r,rfl,h1,h2⟩:=h;obtain⟨w,r',rfl,h3,h4⟩:=(by rw[ao]at h2;exact h2:∃v r',r=v::r'/\aq K μ H e v/\ao K μ H ds r');rw[List.dropLast_cons_cons,List.dropLast_cons_cons];exact ao.cons h1 (ao.dropLast h2)
def Q7:sV X "list.pop" (Hk X rG):=by
 refine sV.weak Xj ?_;rintro x xs H Q ⟨μ,st,d,ds,hs,hx,j7,hp⟩;unfold rG at hp
 split at hp
 ·rename_i n;cases e:st[n]? with
  | none=>rw[e]at hp;exact hp.elim
  | some mo =>
   cases mo with
   | lst l =>
    rw[e]at hp;dsimp only at hp;cases e2:l[l.length - 1]? with
    | none=>rw[e2]at hp;exact hp.elim
    | some d =>
     rw[e2]at hp;obtain⟨p,q1,rfl⟩:=aq.aL.mp hx;rw[ao]at j7;obtain⟨p',ys,r1,r2,r3⟩:=hs.lst e;show 7;obtain⟨v,z1,z2⟩:=r3.get e2;obtain⟨g,lH⟩:=vG hs e q1 r2 r3.dropLast;exact⟨p,ys,v,rfl,j7,r2,by rw[<-r3.length];exact z1,hp _ _ μ g lH (z2.mono g _)⟩
   | _=>rw[e]at hp;exact hp.elim
 ·exact hp.elim
end
end M
namespace L2
open PySem PySem.Spec PyProof.Rows
theorem zt9:∀(ys:List Str) (its:List Value),Vals (ys.map V.str) its->StrsAre its ys
 | [],_,h=>by cases h;exact .nil
 | y::ys,_,h=>by
  cases h with
  | cons r1 r2 =>
   obtain⟨t,rfl⟩:=r1;exact .cons y t (zt9 ys _ r2)
def J7:sV X "str.join" (λx xs H Q=>∃(z:Str) (p:Addr) (ys:List Str),x=.str z/\xs=[.ref p]/\oN X.K H p (ys.map V.str)/\(ys.map λy=>y.length).sum+ys.length*z.length<=16777216/\Q (.str (Txt.join z ys)) H):=by
 rintro pins s σ H x xs v us Q I rx E_ ⟨z,p,ys,rfl,rfl,hq,hz,h⟩;obtain⟨t,rfl⟩:=rx;cases E_ with
 | cons r1 r2 =>
  cases r2;cases r1;obtain⟨its,rv,pl,_⟩:=I.list hq;exact join_list pl.isList (zt9 ys its rv) hz λt' k=>⟨.str (Txt.join z ys),H,I.kept (t':=k) λb u h=>h,⟨t',rfl⟩,h⟩
end L2
namespace M
open PySem PySem.Spec L2
section
variable  {X:Cx}
noncomputable def iB:List D->Option (List (List Nat))
 | []=>some []
 | .str cs::r=>(iB r).map (cs :: ·)
 | _::_=>none
theorem zqv:∀{ds:List D} {xs:List V} {ts:List (List Nat)},iB ds=some ts->ao K μ H ds xs->xs=(ts.map strOf).map V.str
 | [],_,_,e,h=>by cases e;rw[ao]at h;exact h
 | d::ds,_,ts,e,h=>by
  rw[ao]at h;obtain⟨v,t,rfl,h1,h2⟩:=h;cases d with
  | str cs =>
   simp only[iB]at e;cases q:iB ds with
   | none=>rw[q]at e;cases e
   | some ts' =>
    rw[q]at e;cases e;rw[aq.aP]at h1;subst h1;rw[zqv q h2];rfl
  | _=>simp[iB]at e
noncomputable def joinM(sep:List Nat)(ts:List (List Nat)):List Nat:=(Txt.join (strOf sep) (ts.map strOf)).cps.toList
noncomputable def rN:D->List D->ak->R D
 | .str sep,[.loc n],st=>match (aA st n).bind iB with
  | some ts=>if (ts.map List.length).sum+ts.length*sep.length<=1000000 then .ok (.str (joinM sep ts)) st else .bad
  | none=>.bad
 | _,_,_=>.bad
def zsk:sV X "str.join" (Hk X rN):=by
 refine sV.weak J7 ?_;rintro x xs H Q ⟨μ,st,d,ds,hs,hx,j7,hp⟩;unfold rN at hp
 split at hp
 ·rename_i sep n;cases e:aA st n with
  | none=>rw[e]at hp;exact hp.elim
  | some l =>
   rw[e]at hp;cases e2:iB l with
   | none=>simp only[mW,e2]at hp;exact hp.elim
   | some ts =>
    simp only[mW,e2]at hp
    split at hp
    ·rename_i hl;obtain⟨v,rfl,q⟩:=ao.one j7;obtain⟨p,q1,rfl⟩:=aq.aL.mp q;obtain⟨p',ys,r1,r2,r3⟩:=hs.items e;show 7;rw[zqv e2 r3]at r2;obtain rfl:=aq.aP.mp hx;refine⟨_,p,ts.map strOf,rfl,rfl,r2,?_,hp.ret hs (aq.aP.mpr rfl)⟩;rw[gJ,gm];have e3:(ts.map ((λy:Str=>y.length)∘strOf))=ts.map List.length:=kE λt _=>by
      show (strOf t).cps.size=t.length;simp
     rw[e3];have e4:(strOf sep).length=sep.length:=by show (strOf sep).cps.size=sep.length;simp
     rw[e4];omega
    ·exact hp.elim
 ·exact hp.elim
end
noncomputable def qt(sep:List Nat):List (List Nat)->List Nat
 | []=>[]
 | [t]=>t
 | t::u::r=>t++sep++qt sep (u::r)
theorem zkk(sep:Str):∀(ts:List Str),(sep.join ts).cps.toList=qt sep.cps.toList (ts.map λt=>t.cps.toList)
 | []=>by rw[PyProof.Rows.join_nil];rfl
 | [t]=>by rw[PyProof.Rows.join_one];rfl
 | t::u::r=>by
  have ih:=zkk sep (u::r);rw[gq]at ih;rw[PyProof.Rows.join_cons_cons,gq,gq,qt,<-ih];show (t.cps++sep.cps++(sep.join (u::r)).cps).toList=_;simp
def Kz(sep:List Nat)(ts:List (List Nat)):joinM sep ts=qt sep ts:=by
 unfold joinM;rw[show Txt.join (strOf sep) (ts.map strOf)=(strOf sep).join (ts.map strOf) from StrLaws.glued_eq_join _ _,zkk,gJ];have:(λt:Str=>t.cps.toList)∘strOf=id:=by funext t;simp
 rw[this,List.map_id]
end M
namespace L2
open PySem PySem.Spec PyProof.Rows
end L2
namespace M
open PySem PySem.Spec L2
section
variable  {X:Cx}{a b c:Expr}{ma mb mc:ME}{pos:Pos}
end
section
variable  {X:Cx}{pos:Pos}{x:Str}
def zup(hg:Gl X x)(hm:X.mg x=some u)(r:RelV v u)(hv:∀μ H,aq X.K μ H d v)(hd:0xf=false:=by decide):JE X (.Name x pos) (ct d):=by
 refine JE.of (QC hg hm r hd) fun σ H Q zz=>?_;show 1;exact hp.ret hs (hv μ H)
def KQ(cs:List Nat)(h:∃t,X.mg x=some (.str y t))(hy:y=strOf cs:=by rfl)(hg:Gl X x:=by rfl)(hd:0xf=false:=by decide):JE X (.Name x pos) #[2,cs]:=by
 obtain⟨t,h⟩:=h;exact zup (v:=.str y) hg h ⟨t,rfl⟩ (λ_ _=>aq.aP.mpr (by rw[hy])) hd
end
end M
namespace M
open L2
section
variable  (st:ak)
def Jb(sep:List Nat)(n:Nat)(ts:List (List Nat))(h:aA st n=some (ts.map D.str))(hl:(ts.map List.length).sum+ts.length*sep.length<=1000000):rN (.str sep) [.loc n] st=.ok (.str (qt sep ts)) st:=by
 have e:iB (ts.map D.str)=some ts:=by
  clear h hl
  induction ts with
  | nil=>rfl
  | cons t ts ih=>simp[iB,ih]
 simp only[rN,h,mW,e];rw[afn hl,Kz]
end
def Mt(xs:List α):cut xs none (some (-1))=xs.dropLast:=by
 unfold cut;rw[HT.zoz];have:HT.cW xs.length xs.length (some (-1))=xs.length - 1:=by
  unfold HT.cW;dsimp only;rw[afn 0x0];omega
 rw[this];simp[List.dropLast_eq_take]
def z8(I:Nat->aK->ak->Prop)(h0:I 0 env st) 
  (step:∀i d env st,items[i]? = some d->I i env st->u_ gs st/\∃env1 st1,g d env st=.ok env1 st1/\∃bx st2,(b env1 st1=.ok (.nx bx) st2\/b env1 st1=.ok (.cn bx) st2)/\I (i+1) bx st2)
  (YS:∀env st,I items.length env st->u_ gs st):∃cC st',cA g b gs items env st=.ok (.nx cC) st'/\I items.length cC st':=by
 refine Gv (λpre env st=>I pre.length env st) h0 (λpre d post env st e hI=>?_) YS;have:=step pre.length d env st (by rw[e];simp) hI;simpa using this
def zi0(h:(o9 lo n)[i]? = some d):i<n/\d=.int (lo+(i:Nat)):=by
 have h2:i<n:=by
  have:=(gf.mp h).1;rwa[ZG]at this
 unfold o9 at h;rw[gK,List.getElem?_range h2]at h;exact⟨h2,(afr h).symm⟩
def zk1{xs:List D}{i:Nat}{d:D}(h:(dz 0 xs)[i]? = some d):∃x,xs[i]? = some x/\d=.tup [.int i,x]:=by
 rw[zfw]at h;cases e:xs[i]? with
 | none=>rw[e]at h;cases h
 | some x =>
  rw[e]at h;simp at h;exact⟨x,rfl,h.symm⟩
def Hz{α:Type}{f:α->D}{xs:List α}{i:Nat}{d:D}(h:(xs.map f)[i]? = some d):∃x,xs[i]? = some x/\d=f x:=by
 rw[gK]at h;cases e:xs[i]? with
 | none=>rw[e]at h;cases h
 | some x=>rw[e]at h;exact⟨x,rfl,(afr h).symm⟩
noncomputable def W6(a b:ME):ME:=λenv st=>(a env st).bind λx st1=>match x with
 | .str cs=>if cs.length<=1000000 then (if cs=[] then b env st1 else .ok x st1) else .bad
 | _=>.bad
noncomputable def tW:D->D->ak->R D
 | .str cs,.bl b,st=>if cs.length<=1000000 then .ok (.str (if b then cs else [])) st else .bad
 | _,_,_=>.bad
theorem zhb:∀(n:Nat) (env:aK) (st:ak),bC c b n env st≠.bad->bC c b (n+1) env st=bC c b n env st
 | 0,env,st,h=>absurd (by rw[bC]) h
 | n+1,env,st,h=>by
  rw[bC]at h;rw[bC,bC];cases e:c env st with
  | bad=>rfl
  | err x s=>rfl
  | ok x st1 =>
   rw[e,R.aB]at h;rw[R.aB,R.aB];cases x with
   | false=>rfl
   | true =>
    rw[afn rfl]at h ⊢;rw[afn rfl];cases e2:b env st1 with
    | bad=>rfl
    | err x s=>rfl
    | ok o st2 =>
     rw[e2,R.aB]at h;rw[R.aB,R.aB];cases o with
     | nx bx=>exact zhb n bx st2 h
     | cn bx=>exact zhb n bx st2 h
     | bk bx=>rfl
     | rt d=>rfl
theorem zio(h:bC c b n env st≠.bad):∀k,bC c b (n+k) env st=bC c b n env st
 | 0=>rfl
 | k+1=>by
  have:=zio h k;rw[<-pC,zhb (n+k) env st (by rw[this];exact h),this]
open Classical in
noncomputable def aZ(c:MT)(b:MS):MS:=λenv st=>if h:∃n,bC c b n env st≠.bad then bC c b (Classical.choose h) env st else .bad
def Vr(h:bC c b n env st≠.bad):aZ c b env st=bC c b n env st:=by
 have hx:∃n,bC c b n env st≠.bad:=⟨n,h⟩;unfold aZ;rw[dif_pos hx];have h2:=Classical.choose_spec hx;generalize Classical.choose hx=m at h2 ⊢;by_cases hmn:m<=n
 ·obtain⟨k,rfl⟩:=Nat.le.dest hmn;exact (zio h2 k).symm
 ·obtain⟨k,rfl⟩:=Nat.le.dest (show n<=m by omega);exact zio h k
def Eg:aZ c b env st=.bad\/∃n,aZ c b env st=bC c b n env st:=by
 unfold aZ
 split
 ·exact .inr ⟨_,rfl⟩
 ·exact .inl rfl
theorem u0(c:MT)(b:MS)(env:aK)(st:ak):aZ c b env st=(c env st).bind λx st1=>if x then (b env st1).bind λo st2=>(match o with
   | .nx bx=>aZ c b bx st2
   | .cn bx=>aZ c b bx st2
   | .bk bx=>.ok (.nx bx) st2
   | .rt d=>.ok (.rt d) st2) else .ok (.nx env) st1:=by
 have one:∀n,bC c b (n+1) env st=(c env st).bind λx st1=>if x then (b env st1).bind λo st2=>(match o with
   | .nx bx=>bC c b n bx st2
   | .cn bx=>bC c b n bx st2
   | .bk bx=>.ok (.nx bx) st2
   | .rt d=>.ok (.rt d) st2) else .ok (.nx env) st1:=λn=>by rw[bC]<;>rfl
 have bd:(∀n,bC c b (n+1) env st=.bad)->aZ c b env st=.bad:=λh=>by
  unfold aZ;rw[dif_neg];rintro ⟨n,hn⟩;cases n with
  | zero=>exact hn (by rw[bC])
  | succ n=>exact hn (h n)
 have go:∀(bx:aK) (st2:ak),(∀n,bC c b (n+1) env st=bC c b n bx st2)->aZ c b env st=aZ c b bx st2:=λbx st2 h=>by
  by_cases hx:∃n,bC c b n bx st2≠.bad
  ·obtain⟨n,hn⟩:=hx;rw[Vr hn,<-h n,Vr (n:=n+1) (by rw[h n];exact hn)]
  ·have e2:aZ c b bx st2=.bad:=by unfold aZ;rw[dif_neg hx]
   rw[e2];refine bd λn=>?_;rw[h n];by_cases q:bC c b n bx st2=.bad
   ·exact q
   ·exact absurd ⟨n,q⟩ hx
 cases e:c env st with
 | bad=>rw[R.sI];exact bd λn=>by rw[one n,e,R.sI]
 | err x s =>
  rw[R.sH];have:bC c b 1 env st=.err x s:=by rw[one 0,e,R.sH]
  rw[Vr (n:=1) (by rw[this];exact λz=>nomatch z),this]
 | ok x st1 =>
  rw[R.aB];cases x with
  | false =>
   have:bC c b 1 env st=.ok (.nx env) st1:=by rw[one 0,e,R.aB];rfl
   rw[Vr (n:=1) (by rw[this];exact λz=>nomatch z),this];rfl
  | true =>
   rw[afn rfl];cases e2:b env st1 with
   | bad=>rw[R.sI];exact bd λn=>by rw[one n,e,R.aB,afn rfl,e2,R.sI]
   | err x s =>
    rw[R.sH];have:bC c b 1 env st=.err x s:=by rw[one 0,e,R.aB,afn rfl,e2,R.sH]
    rw[Vr (n:=1) (by rw[this];exact λz=>nomatch z),this]
   | ok o st2 =>
    rw[R.aB];cases o with
    | nx bx=>exact go bx st2 λn=>by rw[one n,e,R.aB,afn rfl,e2,R.aB]
    | cn bx=>exact go bx st2 λn=>by rw[one n,e,R.aB,afn rfl,e2,R.aB]
    | bk bx =>
     have:bC c b 1 env st=.ok (.nx bx) st2:=by rw[one 0,e,R.aB,afn rfl,e2,R.aB]
     rw[Vr (n:=1) (by rw[this];exact λz=>nomatch z),this]
    | rt d =>
     have:bC c b 1 env st=.ok (.rt d) st2:=by rw[one 0,e,R.aB,afn rfl,e2,R.aB]
     rw[Vr (n:=1) (by rw[this];exact λz=>nomatch z),this]
noncomputable def PN(c:Nat)(cs:List Nat):List Nat:=(cs.reverse.dropWhile (λx=>decide (x=c))).reverse
def Uk(c:Nat):PN c []=[]:=rfl
end M
namespace L2
open PySem PySem.Spec PyProof.Rows
section
variable  {X:Cx}{a b:Expr}{rest:List Expr}{pos:Pos}{ta tb:TE}
noncomputable def acU(K:PySem.W.Frag)(ta tb:TE):TE:=fun σ H Q=>ta σ H λx H1=>∃k,TJ K x H1 k/\if k=true then Q x H1 else tb σ H1 Q
def WL(ha:PE X a ta)(hb:PE X (.BoolOp .Or (b::rest) pos) tb):PE X (.BoolOp .Or (a::b::rest) pos) (acU X.K ta tb):=by
 show 6;refine BoolOp_or 0x27;show 8;refine cO (sS pins s1 σ H1 x v (λk' H'=>if k'=true then Q x H' else tb σ H' Q) I1 r1 q1) λc s2 zz=>?_;obtain⟨H2,I2,q2⟩:=zz;cases c with
 | false=>exact hb pins s2 σ H2 Q I2 q2
 | true=>exact⟨x,H2,I2,r1,q2⟩
end
end L2
namespace M
open PySem PySem.Spec L2
section
variable  {X:Cx}{a b c:Expr}{ma mb mc:ME}{pos:Pos}{rest:List Expr}
def XX(ha:JE X a ma)(hb:JE X (.BoolOp .Or (b::rest) pos) mb):JE X (.BoolOp .Or (a::b::rest) pos) (W6 ma mb):=by
 refine JE.of (WL ha hb) fun σ H Q zz=>?_;show 1;show 4;cases d with
 | str cs =>
  dsimp only at aQ
  split at aQ
  ·rename_i hl;have ht:jh (.str cs) st1=some (!cs.isEmpty):=by simp[jh,hl]
   refine⟨_,Bx ht bJ hx,?_⟩;cases cs with
   | nil =>
    rw[afn rfl]at aQ;exact yr ⟨μ1,env,st1,hE.mono g1,bJ,aQ⟩
   | cons y t =>
    rw[afo 0x1]at aQ;exact yq (aQ.ret bJ hx)
  ·exact aQ.elim
 | _=>exact aQ.elim
def zqj{body:List Stmt}{tc:MT}{mb:MS}(hc:JT X c tc)(hb:zY X body mb)(hp:PassesOwn 0x7 X.A X.env X.xe):JS X (.While c body [] pos) (aZ tc mb):=by
 rintro pins s σ H D I ⟨μ,env,st,hE,hs,q⟩;rcases Eg (c:=tc) (b:=mb) (env:=env) (st:=st) with e | ⟨n,e⟩
 ·rw[e]at q;exact q.elim
 ·rw[e]at q;exact Ks n hc hb hp pins s σ H D I ⟨μ,env,st,hE,hs,q⟩
end
end M
namespace L2
open PySem PySem.Spec PyProof.Rows PySem.Builtin PySem.Builtin.Str
def zlz(c:Bool)(b:Str)(u:Tok):Gives (Builtin.«int.__rmul__» ⟨[.bool c,.str b u],[]⟩) (.val (Value.notImplemented)) :=
 .of_wp λM A E s Q h=>by obtain⟨hp,g,d,tk,os⟩:=s;wp_walk;exact⟨_,rfl,h⟩
def zok(x:Str)(t:Tok):Gives («str.__mul__» ⟨[.str x t,.bool true],[]⟩) (.val (.str x t)):=.rule (.of_eq rfl)
def znf(x:Str)(t:Tok):Gives («str.__mul__» ⟨[.str x t,.bool false],[]⟩) (.str Str.empty):=.rule (.of_eq rfl)
def zrr{X:Cx}:eO X (binaryOp .Mult) (λx y H Q=>∃(z:Str) (b:Bool),x=.str z/\y=.bl b/\z.length<=sizeLine/\Q (.str (if b=true then z else Str.empty)) H):=by
 show 10;obtain⟨z,b,rfl,rfl,hz,q⟩:=h;obtain⟨t,rfl⟩:=rx;cases ry;refine wpAny_binaryOp_repeat (T:="str") (U:="bool") 0x5 (λs'=>afX s' z t) (λs'=>PyProof.Rows.typeIs_bool' s' b) noFill_str_mul F.fills_bool_mul F.slot_bool_rmul repeat_str F.slot_bool_index.lookup
  (call_gives F.slot_bool_rmul (PyProof.Rows.typeIs_bool' s b) F.entry_int_rmul (F.args_int_rmul_2 _ _) (zlz b z t) ⟨rfl,?_⟩)
 cases b with
 | true=>exact call_gives F.slot_str_mul (afX s z t) F.entry_str_mul (F.args_str_mul_2 _ _) (zok z t) ⟨.str z,H,I,⟨t,rfl⟩,q⟩
 | false=>exact call_gives F.slot_str_mul (afX s z t) F.entry_str_mul (F.args_str_mul_2 _ _) (znf z t) ⟨by decide,.str Str.empty,H,I.tok _,⟨_,rfl⟩,q⟩
end L2
namespace M
open PySem PySem.Spec L2
def Fy{X:Cx}:eO X (binaryOp .Mult) (rM X tW):=by
 refine eO.weak zrr ?_;rintro x y H Q ⟨μ,st,dx,dy,hs,hx,hy,hp⟩;unfold tW at hp
 split at hp
 ·rename_i cs b
  split at hp
  ·rename_i hl;obtain rfl:=aq.aP.mp hx;obtain rfl:=aq.bu.mp hy;refine⟨_,b,rfl,rfl,?_,?_⟩
   ·have e:0xa.length=cs.length:=by simp[Str.length,strOf]
    rw[e];exact yV hl
   ·refine hp.ret hs (aq.aP.mpr ?_);cases b<;>rfl
  ·exact hp.elim
 ·exact hp.elim
structure Zt(K:PySem.W.Frag)(x qual:Str)(st:Stmt)(f:Addr)(fd:FuncData):Prop where
 ex:∃(oc:Value) (od:Option Addr) (dV kV doc pm:Value) (an:Option Addr) (cdv ct:Value) (ud:Array 0xe),
  fd=PySem.W.fnOf x qual (bZ st) (a_ st) (aD st) dV kV doc pm an cdv ct/\K.lookup f=some ⟨oc,od,.func fd,ud⟩/\PySem.W.codeIn K cdv qual=true
 kp:PySem.W.keepIn K (.ref f)=true
section
variable  {P:Program}{w:World}{K:PySem.W.Frag}{mg:Str->Option Value}{base:Heap}
def Y6(F:Zt K x qual st f fd)(S:cX N ps (aD st)) 
  (oG:∀(cdv:Value) (A:Around) (outer:List Env) (s:Shared) (H:Hp),cV k #[33,qual] ->
   zY #[31,qual].JX (a_ st) m):cD P w K mg base qy (k+1) f fd ps (vz K ps.length (bw N.length m)):=by
 obtain⟨oc,od,dV,kV,doc,pm,an,cdv,ct,ud,rfl,lk,yw⟩:=F.ex;refine Lx lk yw S (λvs H Q E h=>h.1) λA outer s H vs Q E hr h=>?_;obtain⟨hl,μ,ds,Ui,hv,hs,hp⟩:=h;have hb:=oG cdv A outer s H hr;refine⟨_,zW.JX hb,μ,startM N.length ds,Ui,ao.start N hv,hs,?_⟩;unfold bw at hp;cases hr:m (startM N.length ds) Ui with
 | bad=>rw[hr]at hp;exact hp.elim
 | err x st1=>rw[hr]at hp;exact hp.elim
 | ok o st1 =>
  rw[hr]at hp;cases o with
  | rt d=>exact hp
  | nx env=>exact fun σ' H' μ' g lH _=>hp .non H' μ' g lH (aq.bK.mpr rfl)
  | bk env=>exact hp.elim
  | cn env=>exact hp.elim
def R0{x qual:Str}{st:Stmt}{f:Addr}{oc:Value}{od an:Option Addr}{ud:Array 0xe}{dV kV doc pm cdv ct:Value}(l:K.lookup f=some ⟨oc,od,.func #[23,dV],ud⟩)
  (c:PySem.W.codeIn K cdv qual=true) (k:PySem.W.keepIn K (.ref f)=true):Zt K x qual st f #[23,dV]:=⟨⟨oc,od,dV,kV,doc,pm,an,cdv,ct,ud,rfl,l,c⟩,k⟩
def Nb{x qual:Str}{st:Stmt}{ps:List Str}{T:Addr}{oc:Value}{od:Option Addr}{d:Value}{n:Nat}{ud:Array 0xe}{kV doc pm cdv ct:Value}{an:Option Addr}(l:K.lookup T=some ⟨oc,od,.seq #[d] n,ud⟩)
  (h:∀us:List Value,us.length=ps.length->∃k:Option (Array Value)->Sem (List (Str×Value)),bindArgs #[23,(.ref T)] ⟨us,[]⟩=seqItems? (.ref T) >>= k/\k (some #[d])=pure (ps.zip us)) :
  Binds K #[23,(.ref T)] ps []:=λs us hK hl=>by
 rw[gr]at hl ⊢;obtain⟨k,h1,h2⟩:=h us hl;exact BindsTo.of_defaults (T:=T) rfl (hK _ _ l) rfl h1 h2
def Ds{x qual:Str}{st:Stmt}{ps:List Str}{T:Addr}{oc:Value}{od:Option Addr}{d:Value}{n:Nat}{ud:Array 0xe}{kV doc pm cdv ct:Value}{an:Option Addr}(l:K.lookup T=some ⟨oc,od,.seq #[d] n,ud⟩)
  (h:∀us:List Value,us.length+1=ps.length->∃k:Option (Array Value)->Sem (List (Str×Value)),bindArgs #[23,(.ref T)] ⟨us,[]⟩=seqItems? (.ref T) >>= k/\k (some #[d])=pure (ps.zip (us++[d]))) :
  Binds K #[23,(.ref T)] ps [d]:=λs us hK hl=>by
 obtain⟨k,h1,h2⟩:=h us (by simpa using hl);exact BindsTo.of_defaults (T:=T) rfl (hK _ _ l) rfl h1 h2
end
section
variable  {X:Cx}{e:Expr}{es:List Expr}{mA:MA}{pos p:Pos}{x:Str}{k:Nat}{f:Addr}{fd:FuncData}{ps:List Str}{F:FD}{i:Int}
end
def huL(L:Nat){A:Around}{k:Nat}(hr:cV k A)(h:L<=16*k+200):A.units+L<cLine:=by have:=hr.un;omega
end M
namespace M
inductive Tr where
 | lf (s:List Nat) | jn (l r:Tr)
namespace Tr
noncomputable def xg:Tr->Bool
 | .jn (.lf s) _=>s==[83]
 | _=>false
noncomputable def val:Tr->Bool
 | .lf _=>true
 | .jn l r=>val r && (match l with
  | .lf s=>s==[83] || s==[75]
  | .jn _ _=>xg l && val l)
noncomputable def lv:Tr->Nat
 | .lf _=>1
 | .jn l r=>lv l+lv r
noncomputable def dp:Tr->Nat
 | .lf _=>0
 | .jn l r=>max (dp l) (dp r)+1
def VD(s:List Nat)(r:Tr):val (.jn (.lf s) r)=(val r && (s==[83] || s==[75])):=by rw[val]
def Vs(a b r:Tr):val (.jn (.jn a b) r)=(val r && (xg (.jn a b) && val (.jn a b))):=by rw[val]
def Ud{l r:Tr}(h:val 0x3=true):val l=true/\val r=true:=by
 cases l with
 | lf s=>rw[VD,gG]at h;exact⟨rfl,h.1⟩
 | jn a b=>rw[Vs,gG,gG]at h;exact⟨h.2.2,h.1⟩
def zk5(t:Tr):dp t<lv t:=by
 induction t with
 | lf s=>simp[dp,lv]
 | jn l r h1 h2=>rw[dp,lv];omega
noncomputable def f9:Tr->Tr->Option Tr
 | .jn (.lf s) b,_=>if s=[75] then some b else none
 | .jn (.jn _ u) v,r=>some (.jn (.jn u r) (.jn v r))
 | .lf _,_=>none
noncomputable def step:Tr->Option Tr
 | .lf _=>none
 | .jn l r=>if val l=false then (step l).map (λx=>.jn x r) else if val r=false then (step r).map (λx=>.jn l x) else if val 0x3=true then none else f9 l r
def Vp{t:Tr}(h:val t=true):step t=none:=by
 cases t with
 | lf s=>rw[step]
 | jn l r =>
  obtain⟨h1,h2⟩:=Ud h;rw[step,afo (by simp[h1]),afo (by simp[h2]),afn h]
def zib{l r:Tr}(h:val l=false):step 0x3=(step l).map (λx=>.jn x r):=by rw[step,afn h]
def zgb{l r:Tr}(h1:val l=true)(h:val r=false):step 0x3=(step r).map (λx=>.jn l x):=by rw[step,afo (by simp[h1]),afn h]
def zgh{l r:Tr}(h1:val l=true)(h2:val r=true)(h:val 0x3=false):step 0x3=f9 l r:=by rw[step,afo (by simp[h1]),afo (by simp[h2]),afo (by simp[h])]
noncomputable def run:Nat->Tr->Tr×Nat
 | 0,t=>(t,0)
 | n+1,t=>match step t with
  | none=>(t,0)
  | some u=>((run n u).1,(run n u).2+1)
theorem T9{t:Tr}(h:step t=none):∀n,run n t=(t,0)
 | 0=>rfl
 | n+1=>by rw[run,h]
def zlo{t u:Tr}(h:step t=some u)(n:Nat):run (n+1) t=((run n u).1,(run n u).2+1):=by rw[run,h]
def PK(a b:Nat):∀t,run (a+b) t=((run b (run a t).1).1,(run a t).2+(run b (run a t).1).2):=by
 induction a with
 | zero=>intro t;simp[run]
 | succ a ih =>
  intro t;rw[pO];cases h:step t with
  | none=>rw[T9 h,T9 h,T9 h];rfl
  | some u =>
   rw[zlo h,zlo h,ih u];simp only;rw[pO]
inductive Fr where
 | fl (r:Tr) | fr (l:Tr)
noncomputable def fill:Fr->Tr->Tr
 | .fl r,t=>.jn t r
 | .fr l,t=>.jn l t
noncomputable def dj(fs:List Fr)(t:Tr):Tr:=fs.foldr fill t
def good(fs:List Fr):Prop:=∀f∈fs,∀l,f=.fr l->val l=true
def zh7(fs:List Fr)(f:Fr)(t:Tr):dj (fs++[f]) t=dj fs (fill f t):=by simp[dj]
def zpf(fs:List Fr)(f:Fr)(t:Tr):dj (f::fs) t=fill f (dj fs t):=rfl
def LQ{f:Fr}{t:Tr}(h:val t=false):val (fill f t)=false:=by
 cases hv:val (fill f t) with
 | false=>rfl
 | true =>
  cases f with
  | fl r=>rw[(Ud hv).1]at h;exact h
  | fr l=>rw[(Ud hv).2]at h;exact h
def Jl{fs:List Fr}{t:Tr}(h:val t=false):val (dj fs t)=false:=by
 induction fs with
 | nil=>exact h
 | cons f fs ih=>exact LQ ih
def Eu{fs:List Fr}{t:Tr}(hg:good fs)(h:val t=false):step (dj fs t)=(step t).map (dj fs):=by
 induction fs with
 | nil=>show step t=_;cases step t<;>rfl
 | cons f fs ih =>
  have ih:=ih λf hf=>hg f (kW _ hf);have hv:=Jl (fs:=fs) h;rw[zpf];cases f with
  | fl r =>
   show step (.jn (dj fs t) r)=_;rw[zib hv,ih];cases step t<;>rfl
  | fr l =>
   show step (.jn l (dj fs t))=_;rw[zgb (hg (.fr l) 0x1 l rfl) hv,ih];cases step t<;>rfl
def Qp(fs:List Fr)(t:Tr):fs.length+dp t<=dp (dj fs t):=by
 induction fs with
 | nil=>simp[dj]
 | cons f fs ih =>
  rw[zpf,g8];cases f with
  | fl r=>show _<=dp (.jn (dj fs t) r);rw[dp];omega
  | fr l=>show _<=dp (.jn l (dj fs t));rw[dp];omega
def U7(l r:Tr):dp l<dp 0x3:=by rw[dp];omega
def Mi(l r:Tr):dp r<dp 0x3:=by rw[dp];omega
def R6{l r:Tr}{n:Nat}(h:dp l<=n)(k:dp r<=n):dp 0x3<=n+1:=by rw[dp];omega
def IV{l r u:Tr}(h:f9 l r=some u):dp u<=dp 0x3+1:=by
 cases l with
 | lf s=>rw[f9]at h;cases h
 | jn a b =>
  cases a with
  | lf s =>
   rw[f9]at h
   split at h
   ·cases h;rw[dp,dp];omega
   ·cases h
  | jn a c =>
   rw[f9]at h;cases h;have h1:=Mi a c;have h2:=U7 (.jn a c) b;have h3:=Mi (.jn a c) b;have h4:=U7 (.jn (.jn a c) b) r;have h5:=Mi (.jn (.jn a c) b) r;obtain⟨m,hm⟩:=Nat.exists_eq_succ_of_ne_zero (show dp (.jn (.jn (.jn a c) b) r)≠0 by omega);rw[hm];exact R6 (R6 0x0 0x0) (R6 0x0 0x0)
theorem zr2:∀{t u:Tr},step t=some u->dp u<=dp t+1
 | .lf _,_,h=>by rw[step]at h;cases h
 | .jn l r,u,h=>by
  rw[step]at h
  split at h
  ·cases e:step l with
   | none=>rw[e]at h;cases h
   | some x =>
    rw[e]at h;cases h;have:=zr2 e;rw[dp,dp];omega
  ·split at h
   ·cases e:step r with
    | none=>rw[e]at h;cases h
    | some x =>
     rw[e]at h;cases h;have:=zr2 e;rw[dp,dp];omega
   ·split at h
    ·cases h
    ·exact IV h
def sk:Tr->Prop
 | .lf s=>s=[83]\/s=[75]
 | .jn l r=>sk l/\sk r
end Tr
open Tr
noncomputable def enc:Tr->D
 | .lf s=>.str s
 | .jn l r=>.tup [enc l,enc r,.int (lv 0x3:Nat),.bl (val 0x3)]
def zos(t:Tr):flat (enc t)=true:=by
 induction t with
 | lf s=>simp[enc]
 | jn l r h1 h2=>simp[enc,h1,h2]
def R5(t:Tr):dep (enc t)=dp t:=by
 induction t with
 | lf s=>simp[enc,dp]
 | jn l r h1 h2=>simp[enc,dp,h1,h2]
def jK(n:Nat)(t:Tr):under n (enc t):=by
 induction t with
 | lf s=>simp[enc]
 | jn l r h1 h2=>simp[enc,h1,h2]
def T7(L:Nat)(t:Tr)(s:List Nat)(st:ak):iw (L+1) (enc t) (.str s) st=.ok (.bl (match t with | .lf c=>decide (c=s) | .jn _ _=>false)) st:=by
 cases t with
 | lf c=>exact Jc st L c s
 | jn l r =>
  have hf:=zos 0x3;unfold iw;have:jU (L+1) (enc 0x3) (.str s) st=some false:=by
   rw[enc]at hf ⊢;simp only[jU];rw[afn ⟨hf,by simp,by simp⟩];simp[jr]
  rw[this]
def zsr(t:Tr)(st:ak):yt "str" (enc t) st=.ok (.bl (match t with | .lf _=>true | .jn _ _=>false)) st:=by
 cases t with
 | lf s=>rw[enc];simp[lV]
 | jn l r=>rw[enc];simp[lV]
def Mf(t:Tr)(st:ak):bN (enc t) .non st=.ok (.bl false) st:=by
 cases t with
 | lf s=>rfl
 | jn l r=>rfl
end M
namespace M
open PySem PySem.Spec L2 PyProof.Rows
end M
namespace M
open L2
noncomputable def dW:D->List D->ak->R D
 | .loc n,[],st=>match st[n]? with
  | some (.lst a)=>.ok .non (st.set n (.lst a.reverse))
  | _=>.bad
 | _,_,_=>.bad
end M
namespace M
open PySem PySem.Spec L2
section
variable  {X:Cx}
def zrj:sV X "list.reverse" (Hk X dW):=by
 refine sV.weak zrz ?_;rintro x xs H Q ⟨μ,st,d,ds,hs,hx,j7,hp⟩;unfold dW at hp
 split at hp
 ·rename_i n
  split at hp
  ·rename_i a e1;obtain⟨p,q1,rfl⟩:=aq.aL.mp hx;rw[ao]at j7;obtain⟨p',ys,r1,r2,r3⟩:=hs.lst e1;show 7;obtain⟨g,lH⟩:=vG hs e1 q1 r2 r3.reverse;exact⟨p,ys,rfl,j7,r2,hp _ _ μ g lH (aq.bK.mpr rfl)⟩
  ·exact hp.elim
 ·exact hp.elim
def cD.never{P:Program}{w:World}{K:PySem.W.Frag}{mg:Str->Option Value}{base:Heap}{k n:Nat}{f:Addr}{fd:FuncData}{ps:List Str}(h:n=ps.length:=by rfl):cD P w K mg base qy k f fd ps (vz K n λ_ _=>.bad) :=
 ⟨λvs H Q E q=>q.1.trans h,λA outer s H args us vs Q E hr he hb hv hs=>by
  obtain⟨_,_,_,_,_,_,hp⟩:=hs;exact hp.elim⟩
end
section
variable  {X:Cx}{pos p:Pos}{x:Str}{k:Nat}{f:Addr}{fd:FuncData}{F:FD}
def KZ(G:cD X.prog X.w X.K X.mg X.base qy k f fd [] (vz X.K 0 F))(hr:cV k X.A)(hm:X.mg x=some (.ref f))(hk:PySem.W.keepIn X.K (.ref f)=true)(hb:Binds X.K fd [] [])(hg:Gl X x:=by rfl)(rQ:0xf=false:=by decide) :
  JE X (.Call (.Name x p) [] [] pos) (az F [] au):=by
 refine JE.of (Jy G hr hg hm hk hb .nil Cm rQ) fun σ H Q zz=>?_;show 1;refine⟨rfl,μ,[],st,ao.nil,hs,?_⟩;have d_:bR X μ H (lX X) Q (F ([]++[]) st).sure:=hp;rw[gr]at d_;cases hF:F [] st with
 | ok d st2=>rw[hF]at d_;exact d_
 | err y st2=>rw[hF]at d_;exact d_.elim
 | bad=>rw[hF]at d_;exact d_.elim
end
end M
namespace L2
open PySem PySem.Spec PyProof.Rows
noncomputable def fc(L:List 0x6)(H:Hp):Hp:=λb=>match L.lookup b with | some o=>some #[14,o] | none=>H b
noncomputable def eF(L:List 0x6)(H:Hp):Hp:=λb=>match L.lookup b with | some _=>none | none=>H b
def zma(h:L.lookup b=some o):fc L H b=some #[14,o]:=by unfold fc;rw[h]
def xR(h:L.lookup b=none):fc L H b=H b:=by unfold fc;rw[h]
def zml(h:L.lookup b=some o):eF L H b=none:=by unfold eF;rw[h]
def D_(h:L.lookup b=none):eF L H b=H b:=by unfold eF;rw[h]
def Hc(h:fc L H b=some u):(∃o,L.lookup b=some o/\u=.frz o (.own 0))\/(L.lookup b=none/\H b=some u):=by
 unfold fc at h;cases e:L.lookup b with
 | some o=>rw[e]at h;cases h;exact .inl ⟨o,rfl,rfl⟩
 | none=>rw[e]at h;exact .inr ⟨rfl,h⟩
def GC(h:eF L H b=some u):L.lookup b=none/\H b=some u:=by
 unfold eF at h;cases e:L.lookup b with
 | some o=>rw[e]at h;cases h
 | none=>rw[e]at h;exact⟨rfl,h⟩
section
variable  {P:Program}{w:World}{H H':Hp}{h h':Heap}{L:List 0x6}
def lF.fc(x:lF P w H h)(n:∀b o,L.lookup b=some o->H b=none)(k:∀b o,L.lookup b=some o->h.get? b=some o):lF P w (fc L H) h:=λa u e=>by
 have up:∀b v,H b=some v->L2.fc L H b=some v:=λb v q=>by
  cases z:L.lookup b with
  | some o=>rw[n b o z]at q;cases q
  | none=>rw[xR z];exact q
 rcases Hc e with⟨o,e1,rfl⟩ | ⟨e1,e2⟩
 ·exact⟨k a o e1,o,k a o e1⟩
 ·exact (x a u e2).uO (λ_ _ _ q=>q) (λb q=>up b _ q) λb xs q=>up b _ q
def lF.eF(x:lF P w H h)(n:∀b o,L.lookup b=some o->∃o',H b=some #[14,o']):lF P w (eF L H) h:=λa u e=>by
 have up:∀b v,H b=some v->(∀o',v≠.frz o' (.own 0))->L2.eF L H b=some v:=λb v q z=>by
  cases y:L.lookup b with
  | some o =>
   obtain⟨o',e'⟩:=n b o y;rw[e']at q;exact absurd (afr q).symm (z o')
  | none=>rw[D_ y];exact q
 obtain⟨_,e2⟩:=GC e;exact (x a u e2).uO (λ_ _ _ q=>q) (λb q=>up b _ q λ_ z=>nomatch z) λb xs q=>up b _ q λ_ z=>nomatch z
end
section
variable  {X:Cx}{k:Nat}{f:Addr}{fd:FuncData}{ps:List Str}{sp:Sp}{oJ:List V}{ds:List Value}{pins:List 0x6}{σ:St}{H:Hp}{s:Shared}{Q:VK}{us:List Value}{vs:List V}
def PJ(F:cD X.prog X.w X.K X.mg X.base qy k f fd ps sp)(hr:cV k X.A)(hb:Binds X.K fd ps ds)(hd:Vals oJ ds)(I:Inv X pins σ H s) 
  (hL:∀b o,L.lookup b=some o->s.heap.get? b=some o/\∃x,X.env.cells.lookup x=some b/\X.fn x=true)
  (r:Vals vs us) (h:sp (vs++oJ) (fc L H) (λv H'=>Q v (eF L H')) E0):wpAny 0x7 X.A (call (.ref f) us) (EP X pins σ Q) X.xe s:=by
 have r2:Vals (vs++oJ) (us++ds):=r.append hd;have hl:(us++ds).length=ps.length:=by rw[<-r2.length];exact F.len _ _ _ _ h
 have nL:∀b o,L.lookup b=some o->H b=none:=λb o e=>let ⟨_,x,hx,_⟩:=hL b o e;I.jP x b hx;have e0:=I.R4;have e1:yP X.prog X.w X.K X.mg X.base X.A X.stack s (fc L H):=by
  refine⟨e0.frames,e0.mod,λb o e=>⟨(e0.bs b o e).1,?_⟩,e0.G7,e0.qe,λb qd=>?_,I.bO.fc nL λb o e=>(hL b o e).1,e0.bare⟩
  ·cases z:L.lookup b with
   | none=>rw[xR z];exact (e0.bs b o e).2
   | some o' =>
    obtain⟨_,x,hx,hf⟩:=hL b o' z;have h1:=I.ok.Vb x b hf hx;exact absurd (gQ (gw e) (g_ I.ok.G7 h1)) (mH _)
  ·cases z:L.lookup b with
   | none=>rw[xR z];exact e0.Lr b qd
   | some o' =>
    obtain⟨_,x,hx,hf⟩:=hL b o' z;rcases gj.mp (I.vy b qd) with q | q
    ·exact absurd q (I.Va x b hx)
    ·have h1:=I.ok.Vb x b hf hx;obtain⟨_,o2,Lf,_⟩:=I.ok.qe.mem q;exact absurd (gQ (gw Lf) h1) (mH _)
 refine wpAny_call (af4 (F.run X.A X.stack s (fc L H) ⟨us,[]⟩ (us++ds) (vs++oJ) _ E0 hr e1 (hb s us I.qO hl) r2 h) λr s' hq=>?_);cases r with
 | error e=>exact False.elim hq
 | ok fl =>
  cases fl with
  | ret u =>
   obtain⟨v,H',os,bare,un,bO,rv,q⟩:=hq;obtain⟨hh,g,d,t,os'⟩:=s';obtain rfl:os'=s.os:=os;have kept:∀b o,L.lookup b=some o->H' b=some #[14,o]:=λb o e=>un.t7 b o (.own 0) (zma e);have un':Un (Df X.stack) [] H (eF L H') s.heap hh:=by
    refine⟨λb o e n hb hx=>?_,λb o e n hb hx=>?_,λb o e n hx=>?_,un.there,λb xs e=>?_,λb o u e=>?_,λb ps e=>?_⟩
    ·cases z:L.lookup b with
     | none=>exact un.keep b o e (by rw[xR z];exact n) hb hx
     | some o' =>
      have e2:=(hL b o' z).1;rw[e]at e2;cases e2;exact (bO b _ (kept b o z)).1
    ·cases z:L.lookup b with
     | none=>exact un.slot b o e (by rw[xR z];exact n) hb hx
     | some o' =>
      have e2:=(hL b o' z).1;rw[e]at e2;cases e2;exact⟨o.slots,(bO b _ (kept b o z)).1⟩
    ·cases z:L.lookup b with
     | none=>rw[D_ z];exact un.free b o e (by rw[xR z];exact n) hx
     | some o'=>exact zml z
    ·have z:L.lookup b=none:=by
      cases z:L.lookup b with
      | none=>rfl
      | some o'=>rw[nL b o' z]at e;cases e
     rw[D_ z];exact un.vm b xs (by rw[xR z];exact e)
    ·have z:L.lookup b=none:=by
      cases z:L.lookup b with
      | none=>rfl
      | some o'=>rw[nL b o' z]at e;cases e
     rw[D_ z];exact un.t7 b o u (by rw[xR z];exact e)
    ·have z:L.lookup b=none:=by
      cases z:L.lookup b with
      | none=>rfl
      | some o'=>rw[nL b o' z]at e;cases e
     rw[D_ z];exact un.uN b ps (by rw[xR z];exact e)
   exact⟨v,eF L H',I.call (h':=hh) (g':=g) (d':=d) (t':=t) (ch:=[]) un' (bO.eF λb o e=>⟨o,kept b o e⟩) bare (λb z=>absurd z 0x1),rv,q⟩
  | next=>exact False.elim hq
  | brk=>exact False.elim hq
  | cont=>exact False.elim hq
end
def BMain(mg:Str->Option Value)(base:Heap):Prop :=
 ∃bm o,mg "__builtins__" = some (.ref bm)/\bm≠builtinsNs/\bm≠mainGlobals/\base.get? bm=some o/\o.cls=.type "module"/\o.dict=some builtinsNs/\o.data=.plain
def acn(H:Hp)(P:Addr)(q:Str):Prop:=∃ps:Array Value,H P=some (.tbl ps)/\TriplesOk ps.toList/\∀pos cv,codeAmong pos ps.toList=some cv->∃c',cv=.ref c'/\M.sJ H c' q
structure wu(H H':Hp)(P f c':Addr)(q:Str)(ob:Obj):Prop where
 new:H' f=some #[14,ob]
 nf:H f=none
 code:M.sJ H' c' q
 tab:acn H' P q
 same:∀b u,b≠P->H b=some u->H' b=some u
noncomputable def acX(P:Addr)(q:Str)(params:Arguments)(body:Expr)(scope:Scope)(clos:List (Str×Addr)):TE:=fun σ H Q=>acn H P q /\
 ∀f c' pm rZ H',wu H H' P f c' q (PySem.W.kla_obj "<lambda>" q params body scope clos pm c' rZ)->Q (.ref f) H'
def znj(ht:TriplesOk l)(hn:codeAmong pos l=none)(h:codeAmong pos' (l++[rawInt pos.line,rawInt pos.col,c])=some cv):codeAmong pos' l=some cv\/cv=c:=by
 clear hn
 fun_induction TriplesOk l with
 | case1 =>
  simp only[kI,codeAmong,rawInt]at h
  split at h
  ·cases h;exact .inr rfl
  ·cases h
 | case2 a t b u x rest ih =>
  simp only[nF,codeAmong]at h ⊢
  split at h
  ·rename_i hc;rw[afn hc];exact .inl h
  ·rename_i hc;rw[afo hc];exact ih ht h
 | case3 l h1 h2=>exact ht.elim
section
variable  {X:Cx}{P c:Addr}{q:Str}{params:Arguments}{body:Expr}{scope:Scope}{clos:List (Str×Addr)}{pos:Pos}
def WT(hB:BMain X.mg X.base)(hc:X.env.code=.ref c)(hh:PySem.W.codeHdIn X.K c P=true)(hq:X.env.qual ++ "<lambda>" = q)(uU:closureFor scope X.env=pure clos)(YT:defaultsOf params X.env=([],[]):=by rfl) :
  PE X (.Lambda params body scope pos) (acX P q params body scope clos):=by
 rintro pins s σ H Q I ⟨⟨ps,hP,ht,Bc⟩,h⟩;refine PySem.W.kla_eval YT ?_;rw[hq];have oP:s.heap.get? P=some (PySem.W.tabObj ps):=I.bO P _ hP;have hg:s.heap.Ns mainGlobals X.mg:=I.mod.glob.keeps I.bk;have CH:PySem.W.CodeHd s.heap c P:=PySem.W.codeHd_of_K I.qO hh;have hgP:mainGlobals≠P:=λz=>by
  obtain⟨o,es,ep,e,d,_⟩:=hg;rw[z,oP]at e;cases e;cases d
 have hb:s.heap.BuiltinsAt X.mg P:=by
  obtain⟨bm,o,b1,b2,b3,b4,b5,b6,b7⟩:=hB;have e:=I.bk bm o b4;refine⟨bm,o,b1,b2,b3,λz=>?_,e,b5,b6,b7⟩;rw[z,oP]at e;cases e;cases b7
 have hLP:X.env.locals≠P:=λz=>by have:=I.free;rw[z,hP]at this;cases this
 cases hca:codeAmong pos ps.toList with
 | none =>
  refine PySem.W.kla_makeFunction (mg:=X.mg) uU I.ok.glob hg hc CH oP ht hca hgP hb λc' rZ h' tk hx hge uT ad9 htb=>?_;obtain⟨c2,oc,vs,t,e2,hoc,hd,hv⟩:=ad9;cases e2;have hsz:s.heap.objs.size<=h'.objs.size:=g_ hge (Nat.le_of_lt uT);have nc:H c'=none:=I.bO.fresh hge;have nf:H h'.objs.size=none:=I.bO.fresh hsz;have cf:c'≠h'.objs.size:=gW uT;have cP:c'≠P:=λz=>by rw[z,hP]at nc;cases nc
  have fP:h'.objs.size≠P:=λz=>by rw[z,hP]at nf;cases nf
  let ob:Obj:=PySem.W.kla_obj "<lambda>" q params body scope clos ((X.mg "__name__").getD .none) c' rZ
  let ps':Array Value:=ps++#[rawInt pos.line,rawInt pos.col,.ref c']
  let H1:Hp:=upd H P (.tbl ps')
  let H2:Hp:=upd H1 c' #[14,oc]
  let H':Hp:=upd H2 h'.objs.size #[14,ob]
  have s1:∀b u,b≠P->H b=some u->H' b=some u:=λb u RV e=>by
   have n1:b≠h'.objs.size:=Af e nf;have n2:b≠c':=Af e nc;show upd H2 h'.objs.size _ b=_;rw[iT n1];show upd H1 c' _ b=_;rw[iT n2];show upd H P _ b=_;rw[iT RV];exact e
  have atP:H' P=some (.tbl ps'):=by
   show upd H2 h'.objs.size _ P=_;rw[iT (afy fP)];show upd H1 c' _ P=_;rw[iT (afy cP)];exact qQ
  have atc:H' c'=some #[14,oc]:=by
   show upd H2 h'.objs.size _ c'=_;rw[iT cf];exact qQ
  have atf:H' h'.objs.size=some #[14,ob]:=qQ;have back:∀b u,H' b=some u->b=h'.objs.size\/b=c'\/b=P\/(b≠P/\H b=some u):=λb u e=>by
   by_cases n1:b=h'.objs.size
   ·exact .inl n1
   by_cases n2:b=c'
   ·exact .inr (.inl n2)
   by_cases n3:b=P
   ·exact .inr (.inr (.inl n3))
   ·refine .inr (.inr (.inr ⟨n3,?_⟩));have e:upd H2 h'.objs.size _ b=some u:=e;rw[iT n1]at e;have e:upd H1 c' _ b=some u:=e;rw[iT n2]at e;have e:upd H P _ b=some u:=e;rw[iT n3]at e;exact e
  have kp:∀b o,b≠P->s.heap.get? b=some o->(h'.push ob).get? b=some o:=λb o RV e=>gC _ (hx b o RV e);have ext:M.Ext H H':=⟨λb xs e=>s1 b _ (λz=>by rw[z,hP]at e;cases e) e,λb o u e=>s1 b _ (λz=>by rw[z,hP]at e;cases e) e⟩;have new:wu H H' P h'.objs.size c' q ob:=by
   refine⟨atf,nf,⟨oc,vs,t,atc,hd,hv⟩,⟨ps',atP,?_,λpos' cv e=>?_⟩,s1⟩
   ·show TriplesOk (ps++#[rawInt pos.line,rawInt pos.col,Value.ref c']).toList;rw[Array.toList_append];exact TriplesOk_snoc _ _ _ _ ht
   ·have e':codeAmong pos' (ps.toList++[rawInt pos.line,rawInt pos.col,Value.ref c'])=some cv:=by
     rw[<-Array.toList_append];exact e
    rcases znj ht hca e' with e1 | e1
    ·obtain⟨c2,q1,q2⟩:=Bc pos' cv e1;exact⟨c2,q1,q2.ext ext⟩
    ·exact⟨c',e1,⟨oc,vs,t,atc,hd,hv⟩⟩
  refine⟨.ref h'.objs.size,H',?_,rfl,h _ _ _ _ _ new⟩;have nP:∀b,H b=none->b≠P:=λb n z=>by rw[z,hP]at n;cases n
  refine I.step (g':=s.gens) (d':=s.drawn) (ch:=[]) 0x17 (λb o _ _ _ e n=>kp b o (nP b n) e) (λb o _ _ _ e n=>⟨o.slots,kp b o (nP b n) e⟩) (λb o _ e n=>?_) (λb o _ e=>?_)
   (λb xs e=>ext.tup b xs e) (λb o u e=>ext.frz b o u e) (λb ps2 e=>?_) (λm hm=>(hm.extBut hx hLP).push _) (λb u e=>?_) I.bare
  ·cases z:H' b with
   | none=>rfl
   | some u =>
    have lt:=gw e;rcases back b u z with z1 | z1 | z1 | ⟨_,z1⟩
    ·rw[z1]at lt;exact absurd (gQ lt hsz) (mH _)
    ·rw[z1]at lt;exact absurd (gQ lt hge) (mH _)
    ·exact absurd z1 (nP b n)
    ·rw[n]at z1;cases z1
  ·by_cases RV:b=P
   ·subst RV;exact⟨_,gC _ htb⟩
   ·exact⟨o,kp b o RV e⟩
  ·by_cases RV:b=P
   ·subst RV;rw[hP]at e;cases e;exact⟨_,atP⟩
   ·exact⟨#[],by rw[s1 b _ RV e];simp⟩
  ·rcases back b u e with z1 | z1 | z1 | ⟨z0,z1⟩
   ·subst z1;rw[atf]at e;cases e;exact⟨gZ _ rfl,ob,gZ _ rfl⟩
   ·subst z1;rw[atc]at e;cases e;exact⟨gC _ hoc,oc,gC _ hoc⟩
   ·subst z1;rw[atP]at e;cases e;exact gC _ htb
   ·have J0:∀b2 u2,H b2=some u2->(∀ps2,u2≠.tbl ps2)->H' b2=some u2:=λb2 u2 q z=>s1 b2 u2 (λy=>by rw[y,hP]at q;exact z _ (afr q).symm) q;refine (I.bO b u z1).uO (λc2 v hc q=>kp c2 v ?_ q) (λc2 q=>J0 c2 _ q λ_ z=>nomatch z) λc2 xs q=>J0 c2 _ q λ_ z=>nomatch z;rcases hc with y | y
    ·rw[y];exact z0
    ·exact λy2=>by rw[y2,hP]at y;cases y
 | some cv =>
  obtain⟨c',rfl,zH⟩:=Bc pos cv hca;refine PySem.W.kla_makeFunctionHit (mg:=X.mg) uU I.ok.glob hg hc CH oP ht hca hb λrZ h' tk hk hsz=>?_;have nf:H h'.objs.size=none:=I.bO.fresh hsz
  let ob:Obj:=PySem.W.kla_obj "<lambda>" q params body scope clos ((X.mg "__name__").getD .none) c' rZ
  have kp:∀b o,s.heap.get? b=some o->(h'.push ob).get? b=some o:=λb o e=>gC _ (hk b o e);have s1:∀b u,H b=some u->upd H h'.objs.size #[14,ob] b=some u:=λb u e=>by rw[iT (Af e nf)];exact e
  have ext:M.Ext H (upd H h'.objs.size #[14,ob]):=⟨λb xs e=>s1 b _ e,λb o u e=>s1 b _ e⟩;refine⟨.ref h'.objs.size,upd H h'.objs.size #[14,ob],I.laid (t':=tk) kp (by exact hsz) ⟨gZ _ rfl,ob,gZ _ rfl⟩,rfl,h _ c' _ _ _ ⟨qQ,nf,zH.ext ext,⟨ps,s1 _ _ hP,ht,λpos' cv e=>?_⟩,λb u _ e=>s1 b u e⟩⟩;obtain⟨c2,q1,q2⟩:=Bc pos' cv e;exact⟨c2,q1,q2.ext ext⟩
end
def zmv{cl:List (Str×Addr)}(nd:(cl.map (·.2)).Nodup){x y:Str}{c:Addr}(h1:cl.lookup x=some c)(h2:cl.lookup y=some c):x=y:=by
 induction cl with
 | nil=>cases h1
 | cons p cl ih =>
  obtain⟨z,d⟩:=p;rw[gq,mF]at nd;have mem:∀w,cl.lookup w=some c->c∈cl.map (·.2):=λw e=>gh.mpr ⟨(w,c),afu e,rfl⟩;rw[kj]at h1 h2;by_cases e1:(x==z)=true
  ·simp only[e1]at h1;cases h1;by_cases e2:(y==z)=true
   ·rw[eq_of_beq e1,eq_of_beq e2]
   ·simp only[show (y==z)=false by simpa using e2]at h2;exact absurd (mem y h2) nd.1
  ·simp only[show (x==z)=false by simpa using e1]at h1;by_cases e2:(y==z)=true
   ·simp only[e2]at h2;cases h2;exact absurd (mem x h1) nd.1
   ·simp only[show (y==z)=false by simpa using e2]at h2;exact ih nd.2 h1 h2
def FP{β:Type}{cl:List (Str×β)}{x:Str}(h:x∈cl.map (·.1)):∃c,cl.lookup x=some c:=by
 induction cl with
 | nil=>cases h
 | cons p cl ih =>
  rw[kj];by_cases e:(x==p.1)=true
  ·simp only[e];exact⟨_,rfl⟩
  ·simp only[show (x==p.1)=false by simpa using e];refine ih ?_;rcases gj.mp h with z | z
   ·rw[z]at e;simp at e
   ·exact z
def lookup_mem{β:Type}{l:List (Str×β)}{x:Str}{u:β}(nd:(l.map (·.1)).Nodup)(h:(x,u)∈l):l.lookup x=some u:=by
 induction l with
 | nil=>cases h
 | cons p l ih =>
  rw[gq,mF]at nd;rw[kj];rcases gj.mp h with z | z
  ·subst z;simp
  ·have:(x==p.1)=false:=by
    have hx:x∈l.map (·.1):=gh.mpr ⟨(x,u),z,rfl⟩;have:x≠p.1:=λy=>nd.1 (y ▸ hx);simpa using this
   simp only[this];exact ih nd.2 z
theorem zm0:∀{cl:List (Str×Addr)} {vs:List V},M.fK H cl vs->(cl.map (·.2)).Nodup->∃L:List 0x6,(∀b o,L.lookup b=some o->H b=some #[14,o]/\∃u,o.data=.cell (some u)) /\
  (∀(i:Nat) (x:Str) (c:Addr),cl[i]? = some (x,c)->∃v o u,vs[i]? = some v/\L.lookup c=some o/\o.data=.cell (some u)/\RelV v u)/\vs.length=cl.length
 | [],vs,h,_=>by
  have h:vs=[]:=h;subst h;exact⟨[],λb o e=>by simp at e,λi x c e=>by simp at e,rfl⟩
 | (x,c)::cl,_,⟨v,r,o,u,rfl,h2,h3,h4,h5⟩,nd=>by
  rw[gq,mF]at nd;obtain⟨L,Hs,hL2,hlen⟩:=zm0 h5 nd.2;refine⟨(c,o)::L,λb o' e=>?_,λi y d e=>?_,by simp[hlen]⟩
  ·rw[kj]at e;by_cases hb:(b==c)=true
   ·simp only[hb]at e;cases e;rw[eq_of_beq hb];exact⟨h2,u,h3⟩
   ·simp only[show (b==c)=false by simpa using hb]at e;exact Hs b o' e
  ·cases i with
   | zero =>
    simp at e;obtain⟨rfl,rfl⟩:=e;exact⟨v,o,u,rfl,by rw[kj];simp,h3,h4⟩
   | succ i =>
    have e:cl[i]? = some (y,d):=by simpa using e
    obtain⟨v',o',u',q1,q2,q3,q4⟩:=hL2 i y d e;have hd:(d==c)=false:=by
     have:d∈cl.map (·.2):=gh.mpr ⟨(y,d),gU e,rfl⟩;have:d≠c:=λz=>nd.1 (z ▸ this);simpa using this
    exact⟨v',o',u',by simpa using q1,by rw[kj];simp only[hd];exact q2,q3,q4⟩
structure zX(cn ps:List Str)(sc:Scope):Prop where
 kind:sc.kind=.function
 co:sc.isCoroutine=false
 gen:sc.isGenerator=false
 nd:(cn++ps).Nodup
 free:∀y∈sc.names,y.2=.free->y.1∈cn
 J2:∀y∈sc.names,y.2≠.cell
 Yr:∀x∈cn,sc.names.lookup x=some .free
 par:∀x∈ps,sc.names.lookup x=some .local
noncomputable def CN(P:Program)(w:World)(K:PySem.W.Frag)(mg:Str->Option Value)(base:Heap)(N:List Str)(qual:Str)(scope:Scope)(f:Addr)(cd:Value)(cl:List (Str×Addr))(A:Around)(outer:List Env)(s:Shared)(H:Hp):Cx where
 prog:=P
 w:=w
 K:=K
 mg:=mg
 base:=base
 A:=A.deeper (PySem.W.envX qual scope s.heap.objs.size f cd cl)
 N:=N
 afc:=s
 afl:=H
 env:=PySem.W.envX qual scope s.heap.objs.size f cd cl
 outer:=outer
 stack:=PySem.W.envX qual scope s.heap.objs.size f cd cl::outer
 ex:=[]
 calm:=true
 fn:=λ_=>false
 pn:=[]
 xe:=λ_ _=>False
section
variable  {P:Program}{w:World}{K:PySem.W.Frag}{mg:Str->Option Value}{base:Heap}{A:Around}{outer:List Env}{s:Shared}{H:Hp}{qual:Str}{params:Arguments}{body:Expr}{scope:Scope}{cl:List (Str×Addr)}{pm rZ:Value}{c' f:Addr}{k:Nat}
 {cn ps:List Str} {us:List Value} {vs N7:List V} {Q:VK} {t:TE}
def Q_(e0:yP P w K mg base A outer s H)(hr:cV (k+1) A)(S:zX cn ps scope)(hf:H f=some #[14,(PySem.W.kla_obj "<lambda>" qual params body scope cl pm c' rZ)])(zH:M.sJ H c' qual)
  (UT:cl.map (·.1)=cn) (Ab:(cl.map (·.2)).Nodup) (yu:M.fK H cl N7) (hb:bindArgs (PySem.W.kla_fn "<lambda>" qual params body scope cl pm (.ref c') rZ) ⟨us,[]⟩=pure (ps.zip us)) (hl:us.length=ps.length) (r:Vals vs us)
  (oG:∀L:List 0x6,(∀b o,L.lookup b=some o->H b=some #[14,o]/\∃u,o.data=.cell (some u))->∃t,PE (CN P w K mg base (cn++ps) qual scope f (.ref c') cl A outer s (eF L H)) body t/\t ((N7++vs).map some) (eF L H) λv H'=>(∀b o,L.lookup b=some o->H' b=none)->Q v (fc L H')) :
  codeAny (model P w) A (.call (.ref f) ⟨us,[]⟩) (CR qy outer P w H s Q E0) s:=by
 obtain⟨L,Hs,hL2,UJ⟩:=zm0 yu Ab;obtain⟨t,hPE,ht⟩:=oG L Hs;have of:=(e0.bO f _ hf).1;obtain⟨oc,cvs,ct,hc1,YZ,hc3⟩:=zH;have occ:=(e0.bO c' _ hc1).1;have lim:s.heap.NoLimit:=e0.mod.nolimit.keeps λb o e=>(e0.bs b o e).1;have cellIn:∀x c,cl.lookup x=some c->∃i,cl[i]? = some (x,c):=λx c e=>by
  obtain⟨i,hi,e2⟩:=List.getElem_of_mem (afu e);exact⟨i,by rw[gB hi,e2]⟩
 have ab7:∀x c,cl.lookup x=some c->∃o,L.lookup c=some o:=λx c e=>by
  obtain⟨i,hi⟩:=cellIn x c e;obtain⟨_,o,_,_,q,_⟩:=hL2 i x c hi;exact⟨o,q⟩
 have abL:lF P w (eF L H) s.heap:=e0.bO.eF λb o e=>⟨o,(Hs b o e).1⟩;refine PySem.W.kla_callFunE hr.depth of rfl S.co S.gen rfl ⟨c',oc,cvs,ct,rfl,occ,YZ,hc3⟩ ?_;rw[hb];have aee:∀x∈ps.zip us,scope.names.lookup x.1=some .local:=λ⟨n,v⟩ hy=>S.par n (nq hy).1;refine afp (wpAny_newFunctionEnv S.J2 aee (λafk Gn hsb=>⟨lim.fresh _ hsb,?_⟩) S.kind);have acE:∀b o,s.heap.get? b=some o->afk.get? b=some o:=λb o e=>hsb.extBut b o (gW (gw e)) (gC _ e);show codeAny _ _ (.expr body (PySem.W.envX qual scope s.heap.objs.size f (.ref c') cl)) _ _;have Q0:∀b:Addr,b∉(CN P w K mg base (cn++ps) qual scope f (.ref c') cl A outer s (eF L H)).ex:=λb z=>absurd (show b∈([]:List Addr) from z) 0x1;have zN:∀b,H b=none->eF L H b=none:=λb n=>by
  cases z:L.lookup b with
  | some o=>exact zml z
  | none=>rw[D_ z];exact n
 have I:Inv (CN P w K mg base (cn++ps) qual scope f (.ref c') cl A outer s (eF L H)) [] ((N7++vs).map some) (eF L H) { s with heap:=afk,toks:=s.toks+(ps.zip us).length }:=by
  refine⟨⟨e0.mod,S.kind,rfl,rfl,gb _,λy z c h1 h2=>zmv Ab h1 h2,λy hy=>?_,λy c z _=>(by cases z),λ_=>hr.hd,Around.frames_deeper e0.frames,.inr ⟨rfl,rfl⟩,λb z=>absurd z (Q0 b),λb o e=>⟨(e0.bs b o e).1,zN b (e0.bs b o e).2⟩,e0.G7,λb _ _=>Q0 b,λb z=>absurd z (Q0 b),e0.qe,λb qd=>zN b (e0.Lr b qd)⟩,
   rfl,e0.bare,Un.kept acE,⟨_,Gn,λi y v h1 h2 h3=>?_⟩,λy c h=>?_,abL.fresh (gb _),λy c h=>?_,λp hp=>absurd (show p∈([]:List 0x6) from hp) 0x1,abL.kept acE,?_⟩
  ·have hy:scope.names.lookup y=some .cell\/scope.names.lookup y=some .free:=hy;rcases hy with hy | hy
   ·exact absurd rfl (S.J2 _ (afu hy))
   ·have hm:=S.free _ (afu hy) rfl;rw[<-UT]at hm;obtain⟨p,hp,rfl⟩:=gh.mp hm;exact FP (gh.mpr ⟨p,hp,rfl⟩)
  ·have ndc:(cl.map (·.1)).Nodup:=by rw[UT];exact (nU.mp S.nd).1
   have ndp:ps.Nodup:=(nU.mp S.nd).2.1;have uU:cn.length=cl.length:=by rw[<-UT,gm]
   have h2:(N7++vs)[i]? = some v:=by
    rw[gK]at h2;cases q:(N7++vs)[i]? with
    | none=>rw[q]at h2;cases h2
    | some v'=>rw[q]at h2;cases h2;rfl
   have h1:(cn++ps)[i]? = some y:=h1;by_cases hi:i<cn.length
   ·rw[gM hi]at h1;rw[gM (by rw[UJ,<-uU];exact hi)]at h2;have hci:i<cl.length:=by omega
    have ec:cl[i]? = some (y,(cl[i]).2):=by
     rw[gB hci];have:(cl.map (·.1))[i]? = some y:=by rw[UT];exact h1
     rw[gK,gB hci]at this;have e:cl[i].1=y:=afr this;rw[<-e]
    obtain⟨v',o,u,q1,q2,q3,q4⟩:=hL2 i y _ ec;rw[h2]at q1;cases q1;refine⟨u,q4,.inr ⟨.inr (S.Yr y (gU h1)),_,lookup_mem ndc (gU ec),o,acE _ _ (e0.bO _ _ (Hs _ o q2).1).1,q3⟩⟩
   ·rw[h_ 0x0]at h1;rw[h_ 0x0]at h2;have YM:i - N7.length=i - cn.length:=by omega
    rw[YM]at h2;obtain⟨u,hu,rv⟩:=r.get h2;refine⟨u,rv,.inl ⟨S.par y (gU h1),?_⟩⟩;have hm:(y,u)∈(ps.zip us).reverse:=by
     rw[List.mem_reverse];refine gU (i:=i - cn.length) ?_;rw[pP];exact⟨h1,hu⟩
    refine lookup_mem ?_ hm;rw[nW,List.map_fst_zip 0x0];exact List.pairwise_reverse.mpr (ndp.imp λh=>afy h)
  ·obtain⟨i,hi⟩:=cellIn y c h;obtain⟨v,o,u,_,q2,q3,_⟩:=hL2 i y c hi;exact⟨some u,o,acE _ _ (e0.bO c _ (Hs c o q2).1).1,q3⟩
  ·obtain⟨o,q⟩:=ab7 y c h;exact zml q
  ·show ((N7++vs).map some).length=(cn++ps).length;rw[gm,gO,gO,UJ,<-UT,gm,r.length,hl]
 refine PySem.W.kla_codeExpr (afA (hPE [] _ _ _ _ I ht) (λv s' h=>?_) λe s' h=>h.elim);obtain⟨x,H',J,rx,q⟩:=h;obtain⟨hh,g,d,tk,os'⟩:=s';have jb:Un (Df outer) [] (eF L H) H' s.heap hh:=J.base;have kc:∀b o,L.lookup b=some o->hh.get? b=some o/\H' b=none:=λb o e=>by
  have e1:=(e0.bO b _ (Hs b o e).1).1;have nfr:b∉Df outer:=λz=>by have:=e0.Lr b z;rw[(Hs b o e).1]at this;cases this
  exact⟨jb.keep b o e1 (zml e) nfr 0x1,jb.free b o e1 (zml e) 0x1⟩
 refine⟨x,fc L H',J.os,J.bare,⟨λb o e n qd hx=>?_,λb o e n qd hx=>?_,λb o e n hx=>?_,jb.there,λb xs e=>?_,λb o u e=>?_,λb ps e=>?_⟩,J.bO.fc (λb o e=>(kc b o e).2) (λb o e=>(kc b o e).1),rx,q λb o e=>(kc b o e).2⟩
 ·exact jb.keep b o e (zN b n) qd hx
 ·exact jb.slot b o e (zN b n) qd hx
 ·have z:L.lookup b=none:=by
   cases z:L.lookup b with
   | none=>rfl
   | some o'=>rw[(Hs b o' z).1]at n;cases n
  rw[xR z];exact jb.free b o e (zN b n) hx
 ·have z:L.lookup b=none:=by
   cases z:L.lookup b with
   | none=>rfl
   | some o'=>rw[(Hs b o' z).1]at e;cases e
  rw[xR z];exact jb.vm b xs (by rw[D_ z];exact e)
 ·cases z:L.lookup b with
  | some o' =>
   rw[(Hs b o' z).1]at e;cases e;exact zma z
  | none=>rw[xR z];exact jb.t7 b o u (by rw[D_ z];exact e)
 ·have z:L.lookup b=none:=by
   cases z:L.lookup b with
   | none=>rfl
   | some o'=>rw[(Hs b o' z).1]at e;cases e
  rw[xR z];exact jb.uN b ps (by rw[D_ z];exact e)
end
end L2
namespace M
open PySem PySem.Spec L2
mutual
theorem aq.cG(e:∀b xs,H b=some (.tup xs)->H' b=some (.tup xs)):∀(d:D) {v:V},aq K μ H d v->aq K μ H' d v
 | .non,_,h=>by simpa[aq] using h
 | .bl _,_,h=>by simpa[aq] using h
 | .int _,_,h=>by simpa[aq] using h
 | .str _,_,h=>by simpa[aq] using h
 | .tup ds,_,h=>by
  rw[aq]at h ⊢;obtain⟨a,xs,rfl,h1,h2⟩:=h;exact⟨a,xs,rfl,h1.elim (λz=>.inl (e _ _ z)) .inr,ao.cG e ds h2⟩
 | .loc n,_,h=>by
  rw[aq]at h ⊢;exact h
theorem ao.cG(e:∀b xs,H b=some (.tup xs)->H' b=some (.tup xs)):∀(ds:List D) {vs:List V},ao K μ H ds vs->ao K μ H' ds vs
 | [],_,h=>by simpa[ao] using h
 | d::ds,_,h=>by
  rw[ao]at h ⊢;obtain⟨v,r,rfl,h1,h2⟩:=h;exact⟨v,r,rfl,aq.cG e d h1,ao.cG e ds h2⟩
end
theorem aJ.cG(e:∀b xs,H b=some (.tup xs)->H' b=some (.tup xs)):∀{ds:List (κ×D)} {vs:List (κ×V)},aJ K μ H ds vs->aJ K μ H' ds vs
 | [],_,h=>h
 | (k,d)::ds,_,⟨v,r,e1,h1,h2⟩=>⟨v,r,e1,h1.cG e d,aJ.cG e h2⟩
noncomputable def MO.eU:MO->Bool
 | .clo _ _ _=>true
 | _=>false
def sO(L:List 0x6)(H:Hp):Prop:=∀b o,L.lookup b=some o->H b=some #[14,o]/\∃u,o.data=.cell (some u)
def sO.del(h:sO L H)(e:H b=some u)(n:∀o,u=.frz o (.own 0)->∀v,o.data≠.cell v):eF L H b=some u:=by
 cases z:L.lookup b with
 | none=>rw[D_ z];exact e
 | some o =>
  obtain⟨e1,v,hv⟩:=h b o z;rw[e]at e1;exact absurd hv (n o (afr e1) _)
def ig.del(hL:sO L H)(hc:o.eU=false)(h:ig K μ H a o):ig K μ (eF L H) a o:=by
 have ht:∀b xs,H b=some (.tup xs)->eF L H b=some (.tup xs):=λb xs e=>hL.del e λ_ z=>nomatch z;cases o with
 | lst ds=>obtain⟨xs,h1,h2⟩:=h;exact⟨xs,hL.del h1 0x17,h2.cG ht⟩
 | frz ds =>
  obtain⟨xs,h1,h2⟩:=h;refine⟨xs,?_,h2.cG ht⟩;rcases h1 with⟨o,h1⟩ | h1
  ·exact .inl ⟨o,hL.del h1 λ_ z=>(by cases z)⟩
  ·exact .inr h1
 | dic kvs=>obtain⟨ws,h1,h2⟩:=h;exact⟨ws,hL.del h1 0x17,h2.cG ht⟩
 | dkc kvs=>obtain⟨ws,h1,h2⟩:=h;exact⟨ws,hL.del h1 0x17,h2.cG ht⟩
 | dkf kvs=>obtain⟨ws,o,h1,h2⟩:=h;exact⟨ws,o,hL.del h1 (λ_ z=>(by cases z)),h2.cG ht⟩
 | dtf kvs=>obtain⟨ws,o,h1,h2⟩:=h;exact⟨ws,o,hL.del h1 (λ_ z=>(by cases z)),h2.cG ht⟩
 | exc c d=>obtain⟨oe,C,dx,od,v,fs,h1,h2,h3,h4,h5,h6,h7⟩:=h;exact⟨oe,C,dx,od,v,fs,hL.del h1 (λo z w q=>(by cases z;rw[h4]at q;cases q)),h2,h3,h4,hL.del h5 (λ_ z=>(by cases z)),h6,h7.cG ht d⟩
 | ins c fs=>obtain⟨C,dx,ws,h0,h1,h2⟩:=h;exact⟨C,dx,ws,h0,hL.del h1 0x17,h2.cG ht⟩
 | tab x =>
  obtain⟨h0,ps,h1,h2,h3⟩:=h;refine⟨h0,ps,hL.del h1 0x17,h2,λpos cv e=>?_⟩;obtain⟨c',e1,oc,vs,t,e2,e3,e4⟩:=h3 pos cv e;exact⟨c',e1,oc,vs,t,hL.del e2 (λo z v=>by cases z;rw[e3];exact λy=>nomatch y),e3,e4⟩
 | clo j l ds=>cases hc
 | hid=>trivial
noncomputable def cj(st:ak):ak:=st.map λo=>if o.eU then .hid else o
def zlf(st:ak):(cj st).length=st.length:=by simp[cj]
def zk9{st:ak}{n:Nat}{o:MO}(h:(cj st)[n]? = some o):∃o',st[n]? = some o'/\((o'.eU=true/\o=.hid)\/(o'.eU=false/\o=o')):=by
 unfold cj at h;rw[gK]at h;cases e:st[n]? with
 | none=>rw[e]at h;cases h
 | some o' =>
  rw[e]at h;refine⟨o',rfl,?_⟩;have h:(if o'.eU=true then MO.hid else o')=o:=afr h;by_cases hc:o'.eU=true
  ·rw[afn hc]at h;exact .inl ⟨hc,h.symm⟩
  ·rw[afo hc]at h;exact .inr ⟨by simpa using hc,h.symm⟩
def zty{st:ak}{n:Nat}{o:MO}(h:st[n]? = some o):(cj st)[n]? = some (if o.eU then .hid else o):=by
 unfold cj;rw[gK,h];rfl
def aX.hide{K:PySem.W.Frag}{μ:List Addr}{H:Hp}{st:ak}{L:List 0x6}(hL:sO L H)(h:aX K μ H st):aX K μ (eF L H) (cj st):=by
 refine⟨by rw[h.len,zlf],λn o e=>?_,λi j a oi oj ei ej mi mj hi hj=>?_⟩
 ·obtain⟨o',e1,e2⟩:=zk9 e;obtain⟨a,h1,h2⟩:=h.at_ n o' e1;rcases e2 with⟨c,rfl⟩ | ⟨c,rfl⟩
  ·exact⟨a,h1,trivial⟩
  ·exact⟨a,h1,h2.del hL c⟩
 ·obtain⟨oi',e1,e2⟩:=zk9 ei;obtain⟨oj',e3,e4⟩:=zk9 ej;rcases e2 with⟨_,rfl⟩ | ⟨_,rfl⟩
  ·cases mi
  ·rcases e4 with⟨_,rfl⟩ | ⟨_,rfl⟩
   ·cases mj
   ·exact h.uniq i j a oi oj e1 e3 mi mj hi hj
def aX.VN{K:PySem.W.Frag}{μ:List Addr}{H H':Hp}{st:ak}{L:List 0x6}(h0:aX K μ H st)(h:aX K μ H' (cj st))(hn:∀b o,L.lookup b=some o->H' b=none)(ext:Ext H (fc L H')):aX K μ (fc L H') st:=by
 have up:∀b u,H' b=some u->fc L H' b=some u:=λb u e=>by
  cases z:L.lookup b with
  | none=>rw[xR z];exact e
  | some o=>rw[hn b o z]at e;cases e
 refine⟨h0.len,λn o e=>?_,h0.uniq⟩;by_cases hc:o.eU=true
 ·obtain⟨a,h1,h2⟩:=h0.at_ n o e;refine⟨a,h1,h2.keep ⟨⟨[],by simp⟩,ext⟩ λhm=>?_⟩;cases o<;>simp[MO.eU,MO.mut]at hc hm
 ·have e2:=zty e;rw[afo hc]at e2;obtain⟨a,h1,h2⟩:=h.at_ n o e2;exact⟨a,h1,h2.keep ⟨⟨[],by simp⟩,⟨λb xs q=>up b _ q,λb o u q=>up b _ q⟩⟩ λ_ u q=>up a u q⟩
structure xM(P:Program)(w:World)(K:PySem.W.Frag)(mg:Str->Option Value)(base:Heap)(k:Nat)(l:fQ)(ps:List Str)(m:ME):Prop where
 sc:zX l.qi ps l.scope
 bind:∀cl pm c' rZ (us:List Value),us.length=ps.length->bindArgs (PySem.W.kla_fn "<lambda>" l.qual l.params l.body l.scope cl pm (.ref c') rZ) ⟨us,[]⟩=pure (ps.zip us)
 body:∀(f:Addr) (cd:Value) (cl:List (Str×Addr)) (A:Around) (outer:List Env) (s:Shared) (H:Hp),cV k (A.deeper (PySem.W.envX l.qual l.scope s.heap.objs.size f cd cl)) ->
  JE (CN P w K mg base (l.qi++ps) l.qual l.scope f cd cl A outer s H) l.body m
open Classical in
noncomputable def Dr(Λ:Nat->fQ)(G:Nat->FD)(n:Nat)(as:List D)(st:ak):R D:=match st[n]? with
 | some (.clo j l ds)=>if l=Λ j then (match gc (cj st) (G j (ds++as) (cj st)) with
  | .ok d st2=>if st2=cj st/\under st.length d then .ok d st else .bad
  | _=>.bad) else .bad
 | _=>.bad
noncomputable def rK(n:Nat)(m:ME):FD:=λds st=>if ds.length=n then m (ds.map some) st else .bad
def Nr(P:Program)(w:World)(K:PySem.W.Frag)(mg:Str->Option Value)(base:Heap)(k:Nat)(Λ:Nat->fQ)(G:Nat->FD):Prop :=
 ∀j,(∀ds st,G j ds st=.bad)\/∃ps m,xM P w K mg base k (Λ j) ps m/\G j=rK ((Λ j).qi.length+ps.length) m
theorem fK.len:∀{cl:List (Str×Addr)} {vs:List V},fK H cl vs->vs.length=cl.length
 | [],_,h=>by have h:_=[]:=h;subst h;rfl
 | (_,c)::cl,_,⟨v,r,o,u,h1,_,_,_,h5⟩=>by subst h1;simp[fK.len h5]
def sO.back(hL:sO L H)(e:Ext (eF L H) H')(hn:∀b o,L.lookup b=some o->H' b=none):Ext H (fc L H'):=by
 have up:∀b u,H' b=some u->fc L H' b=some u:=λb u e=>by
  cases z:L.lookup b with
  | none=>rw[xR z];exact e
  | some o=>rw[hn b o z]at e;cases e
 refine⟨λb xs q=>up b _ (e.tup b xs (hL.del q λ_ z=>nomatch z)),λb o u q=>?_⟩;cases z:L.lookup b with
 | none=>exact up b _ (e.frz b o u (by rw[D_ z];exact q))
 | some o' =>
  have q2:=(hL b o' z).1;rw[q]at q2;cases q2;exact zma z
noncomputable def callC(Λ:Nat->fQ)(G:Nat->FD)(i:Nat)(mA:MA):ME:=λenv st=>match env[i]? with
 | some (some (.loc n))=>(match st[n]? with
  | some (.clo _ _ _)=>(mA env st).bind λas st1=>Dr Λ G n as st1
  | _=>.bad)
 | _=>.bad
section
variable  {X:Cx}{e:Expr}{es:List Expr}{mA:MA}{pos p:Pos}{x:Str}{k:Nat}{Λ:Nat->fQ}{G:Nat->FD}
def znt(hΛ:Nr X.prog X.w X.K X.mg X.base k Λ G)(hr:cV (k+1) X.A)(i:Nat)(ha:JA X (e::es) mA)(hN:X.N[i]? = some x:=by rfl)(hv:Vis X.env.scope x:=by first | exact Or.inl rfl | exact Or.inr (Or.inl rfl) | exact Or.inr (Or.inr rfl))
  (hd:0xf=false:=by decide) (yw:(x==("__classdict__":Str))=false:=by decide) (he:starEach (e::es) X.env=0xd::starEach es X.env:=by rfl) (p_:#[13,pos,es].any (·.1)=false:=by rfl) :
  JE X 0x1a (callC Λ G i mA):=by
 rintro pins s σ H Q I ⟨μ,env,st,hE,hs,hp⟩;unfold callC at hp
 split at hp
 case h_2=>exact hp.elim
 rename_i n hi
 split at hp
 case h_2=>exact hp.elim
 rename_i j0 l0 ds0 hn;obtain⟨v,h1,h2⟩:=hE.at_ i _ hi;obtain⟨a,q1,rfl⟩:=aq.aL.mp h2;obtain⟨a',r1,r2⟩:=hs.at_ n _ hn;show 7;obtain⟨cl0,pm0,c0,ae7,ae1,w1,_⟩:=r2;refine afB (cO (Jt hN hv hd yw pins s σ H (λv' H'=>v'=.ref a/\H'=H) I ⟨.ref a,h1,rfl,rfl⟩) λu s0 zz=>?_);obtain⟨v',H',I0,r0,ev,eH⟩:=zz;subst ev eH;cases (show u=Value.ref a from r0);have fnAt:∀(s:Shared) (H:Hp) (o:Obj),Inv X pins σ H s->(∃q ps b sc cl pm c' rZ,o=PySem.W.kla_obj "<lambda>" q ps b sc cl pm c' rZ)->H a=some #[14,o]->PySem.W.FnAt a s.heap:=by
  rintro s H o I ⟨q,ps,b,sc,cl,pm,c',rZ,rfl⟩ h;exact⟨_,_,_,_,(I.bO a _ h).1⟩
 refine PySem.W.callWith_F (fnAt s0 H' _ I0 ⟨_,_,_,_,_,_,_,_,rfl⟩ w1) (cO (ha pos pins s0 σ H' _ I0 ⟨μ,env,st,hE,hs,bR.bind hp⟩) λus s1 zz=>?_) he p_;obtain⟨vs,H1,I1,r,μ1,st1,as,g1,bJ,Yz,aQ⟩:=zz;have g2:=g1.get q1;unfold Dr at aQ;dsimp only at aQ
 split at aQ
 case h_2=>exact aQ.elim
 rename_i j l ds hn1
 split at aQ
 case isFalse=>exact aQ.elim
 rename_i hl;subst hl;obtain⟨a',r1,cl,pm,c',rZ,N7,hf,zH,UT,Ab,yu,yS⟩:=bJ.at_ n _ hn1;rw[g2]at r1;cases r1;refine⟨fnAt s1 H1 _ I1 ⟨_,_,_,_,_,_,_,_,rfl⟩ hf,?_⟩;rcases hΛ j with aek | ⟨ps,m,LO,hG⟩
 ·rw[aek]at aQ;exact aQ.elim
 have hlen:(ds++as).length=(Λ j).qi.length+ps.length:=by
  refine afW λh=>?_;rw[hG]at aQ;unfold rK at aQ;rw[afo h]at aQ;exact aQ.elim
 have e1:ds.length=(Λ j).qi.length:=by rw[yS.length,yu.len,<-UT,gm]
 have hul:us.length=ps.length:=by
  rw[<-r.length,<-Yz.length];rw[gO]at hlen;omega
 refine wpAny_call (af4 (Q_ (k:=k) (Q:=Q) (vs:=vs) I1.R4 hr LO.sc hf zH UT Ab yu (LO.bind cl pm c' rZ us hul) hul r ?_) λr s' hq=>?_)
 ·intro L hL;have hL:sO L H1:=hL;refine⟨_,LO.body a (.ref c') cl X.A X.stack s1 (eF L H1) (hr.deeper _),μ1,(ds++as).map some,cj st1,?_,bJ.hide hL,?_⟩
  ·have hv2:ao X.K μ1 (eF L H1) (ds++as) (N7++vs):=(yS.append Yz).cG (λb xs q=>hL.del q λ_ z=>nomatch z) _;refine⟨by rw[gm,gm,hv2.length],λi d e=>?_⟩;rw[gK]at e ⊢;cases q:(ds++as)[i]? with
   | none=>rw[q]at e;cases e
   | some d' =>
    rw[q]at e;cases e;obtain⟨v,q1,q2⟩:=hv2.get q;exact⟨v,by rw[q1];rfl,q2⟩
  ·have key:zV X.K μ1 (eF L H1) (λv H'=>(∀b o,L.lookup b=some o->H' b=none)->Q v (fc L H')) (G j (ds++as) (cj st1)):=by
    refine zu8 (bJ.hide hL) ?_
    split at aQ
    case h_2=>exact aQ.elim
    rename_i d st2 RQ
    split at aQ
    case isFalse=>exact aQ.elim
    rename_i hc;rw[RQ];intro v H' μ' g lH Bb hn';obtain⟨rfl,_⟩:=hc;obtain⟨ν,rfl⟩:=g.pre;have hν:ν=[]:=by
     have:=lH.len;rw[gO,bJ.len,zlf]at this;exact List.eq_nil_of_length_eq_zero 0x0
    subst hν;rw[gr]at lH Bb;have ext:=hL.back g.ext hn';refine aQ v (fc L H') μ1 ⟨⟨[],by simp⟩,ext⟩ (bJ.VN lH hn' ext) (Bb.cG (λb xs q=>?_) d);cases z:L.lookup b with
    | none=>rw[xR z];exact q
    | some o=>rw[hn' b o z]at q;cases q
   rw[hG]at key;unfold rK at key;rw[afn hlen]at key;cases hm:m ((ds++as).map some) (cj st1) with
   | bad=>rw[hm]at key;exact key.elim
   | err y st2=>rw[hm]at key;exact key.elim
   | ok d st2=>rw[hm]at key;exact key
 ·cases r with
  | error e=>exact False.elim hq
  | ok fl =>
   cases fl with
   | ret u=>exact I1.after hq
   | next=>exact False.elim hq
   | brk=>exact False.elim hq
   | cont=>exact False.elim hq
end
inductive LA where
 | v (d:D) | l (j:Nat) (cap:List Nat)
noncomputable abbrev ML:=aK->ak->R (List LA)
noncomputable def jz(X:Cx)(l:fQ):List (Str×Addr):=l.qi.map λx=>(x,(X.env.cells.lookup x).getD 0)
structure qJ(X:Cx)(l:fQ)(cap:List Nat):Prop where
 nd:l.qi.Nodup
 cell:∀x∈l.qi,X.env.kindOf x=some .cell
 ix:cap.map (λi=>X.N[i]?)=l.qi.map some
def Dy(X:Cx)(Λ:Nat->fQ)(μ:List Addr)(H:Hp):LA->V->Prop
 | .v d,v=>aq X.K μ H d v
 | .l j cap,v=>qJ X (Λ j) cap/\∃f pm c' rZ,v=.ref f/\H f=some #[14,(PySem.W.kla_obj "<lambda>" (Λ j).qual (Λ j).params (Λ j).body (Λ j).scope (jz X (Λ j)) pm c' rZ)]/\sJ H c' (Λ j).qual
def i_(X:Cx)(Λ:Nat->fQ)(μ:List Addr)(H:Hp):List LA->List V->Prop
 | [],vs=>vs=[]
 | a::r,vs=>∃v t,vs=v::t/\Dy X Λ μ H a v/\i_ X Λ μ H r t
noncomputable abbrev adg(X:Cx)(Λ:Nat->fQ):Rel (List LA) (List V):=fun μ H d v=>i_ X Λ μ H d v
section
variable  {X:Cx}{Λ:Nat->fQ}{μ μ':List Addr}{H H':Hp}
theorem Dy.mono(g:bj μ H μ' H'):∀{a:LA} {v:V},Dy X Λ μ H a v->Dy X Λ μ' H' a v
 | .v d,_,h=>aq.mono g d h
 | .l j cap,_,⟨h0,f,pm,c',rZ,h1,h2,h3⟩=>⟨h0,f,pm,c',rZ,h1,g.ext.frz _ _ _ h2,h3.ext g.ext⟩
theorem i_.mono(g:bj μ H μ' H'):∀{a:List LA} {v:List V},i_ X Λ μ H a v->i_ X Λ μ' H' a v
 | [],_,h=>h
 | a::r,_,⟨v,t,e,h1,h2⟩=>⟨v,t,e,h1.mono g,i_.mono g h2⟩
theorem i_.length:∀{a:List LA} {v:List V},i_ X Λ μ H a v->a.length=v.length
 | [],_,h=>by have h:_=[]:=h;subst h;rfl
 | a::r,_,⟨v,t,e,h1,h2⟩=>by subst e;simp[i_.length h2]
end
noncomputable def tML(X:Cx)(Λ:Nat->fQ)(m:ML):TA:=fun σ H Q=>∃μ env st,d7 X.K μ H env σ/\aX X.K μ H st/\bR X μ H (adg X Λ) Q (m env st)
def JL(X:Cx)(Λ:Nat->fQ)(es:List Expr)(m:ML):Prop:=PA X es (tML X Λ m)
noncomputable def uP:ML:=λ_ st=>.ok [] st
noncomputable def iY(a:ME)(r:ML):ML:=λenv st=>(a env st).bind λx st1=>(r env st1).bind λxs st2=>.ok (.v x::xs) st2
noncomputable def j6(j:Nat)(cap:List Nat)(k:Nat)(x:Str)(r:ML):ML:=λenv st=>match st[k]? with
 | some (.tab y)=>if y=x then (r env st).bind λxs st2=>.ok (.l j cap::xs) st2 else .bad
 | _=>.bad
def ack(X:Cx)(x:Str):Prop:=X.env.qual=x ++ ".<locals>."/\∃(c fa:Addr) (o:Obj) (fd:FuncData),X.env.code=.ref c/\PySem.W.nsIn X.K mainGlobals x=some #[9,fa]/\X.K.lookup fa=some o/\o.data=.func fd/\fd.code=.ref c
section
variable  {X:Cx}{Λ:Nat->fQ}{μ:List Addr}{H H':Hp}{st:ak}{e:Expr}{es:List Expr}{ma:ME}{m:ML}
def Ay:JL X Λ [] uP:=by
 refine λpos pins s σ H Q I zz=>?_;show 1;exact An pos pins s σ H Q I (hp.ret hs rfl)
def zqt(h:JE X e ma)(hr:JL X Λ es m)(hs:starEach (e::es) X.env=0xd::starEach es X.env:=by rfl):JL X Λ (e::es) (iY ma m):=by
 rintro pos pins s σ H Q I ⟨μ,env,st,hE,hs0,hp⟩;refine zmg h hr hs pos pins s σ H Q I ⟨μ,env,st,hE,hs0,hp.bind.imp ?_⟩;rintro x H1 ⟨μ1,st1,d,g1,bJ,hx,aQ⟩;refine⟨μ1,env,st1,hE.mono g1,bJ,aQ.bind.imp ?_⟩;rintro xs H2 ⟨μ2,st2,ds,g2,iQ,j7,d_⟩;exact d_.ret iQ ⟨x,xs,rfl,hx.mono g2 _,j7⟩
def _root_.L2.wu.ext(n:wu H H' P f c' q ob)(hP:H P=some (.tbl ps)):Ext H H' :=
 ⟨λb xs e=>n.same b _ (λz=>by rw[z,hP]at e;cases e) e,λb o u e=>n.same b _ (λz=>by rw[z,hP]at e;cases e) e⟩
def aX.lam{P f c':Addr}{x:Str}{ob:Obj}{k:Nat}(hs:aX X.K μ H st)(hk:st[k]? = some (.tab x))(ha:μ[k]? = some P)(n:wu H H' P f c' (rJ x) ob):aX X.K μ H' st:=by
 obtain⟨a,h1,h2⟩:=hs.at_ k _ hk;rw[ha]at h1;cases h1;obtain⟨Gk,ps,hP,_⟩:=h2;have ext:=n.ext hP;refine⟨hs.len,λi o e=>?_,hs.uniq⟩;obtain⟨b,q1,q2⟩:=hs.at_ i o e;refine⟨b,q1,?_⟩;by_cases hm:o.mut=true
 ·by_cases hb:b=P
  ·subst hb;have hik:=hs.uniq i k b o (.tab x) e hk hm rfl q1 ha;subst hik;rw[hk]at e;cases e;exact⟨Gk,n.tab⟩
  ·exact q2.keep ⟨⟨[],by simp⟩,ext⟩ λ_ u q=>n.same b u hb q
 ·exact q2.keep ⟨⟨[],by simp⟩,ext⟩ λz=>absurd z hm
def zu7{x:Str}{j k:Nat}{cap:List Nat}{params:Arguments}{body:Expr}{scope:Scope}{pos:Pos}(hB:BMain X.mg X.base)(hT:ack X x)(hat:qJ X (Λ j) cap)(hq:(Λ j).qual=rJ x)(hp:(Λ j).params=params)(hb:(Λ j).body=body)(hsc:(Λ j).scope=scope)
  (uU:closureFor scope X.env=pure (jz X (Λ j))) (hr:JL X Λ es m) (YT:defaultsOf params X.env=([],[]):=by rfl) (hs:starEach (.Lambda params body scope pos::es) X.env=(false,eval (.Lambda params body scope pos) X.env)::starEach es X.env:=by rfl) :
  JL X Λ (.Lambda params body scope pos::es) (j6 j cap k x m):=by
 subst hp hb hsc;rintro adF pins s σ H Q I ⟨μ,env,st,hE,hs0,hp⟩;unfold j6 at hp
 split at hp
 case h_2=>exact hp.elim
 rename_i y hk
 split at hp
 case isFalse=>exact hp.elim
 rename_i hy;subst hy;obtain⟨P,h1,h2⟩:=hs0.at_ k _ hk;obtain⟨⟨fa',o',fd',c',w1,w2,w3,w4,w5⟩,ps,w6,w7,w8⟩:=h2;obtain⟨abK,c,fa,o,fd,t1,t2,t3,t4,t5⟩:=hT;rw[t2]at w1;cases w1;rw[t3]at w2;cases w2;rw[t4]at w3;cases w3;rw[t5]at w4;cases w4;refine zmg (WT (P:=P) (c:=c') (q:=rJ y) (clos:=jz X (Λ j)) hB t1 w5 (by rw[abK];rfl) uU YT) hr hs adF pins s σ H Q I ⟨⟨ps,w6,w7,w8⟩,λf c' pm rZ H' n=>?_⟩;have g:bj μ H μ H':=⟨⟨[],by simp⟩,n.ext w6⟩;refine⟨μ,env,st,hE.mono g,hs0.lam hk h1 n,(bR.mono g hp).bind.imp ?_⟩;rintro xs H2 ⟨μ2,st2,ds,g2,iQ,j7,d_⟩;refine d_.ret iQ ⟨.ref f,xs,rfl,⟨hat,f,pm,c',rZ,rfl,?_,?_⟩,j7⟩
 ·rw[hq];exact g2.ext.frz _ _ _ n.new
 ·rw[hq];exact n.code.ext g2.ext
end
noncomputable def cellAt(h:Heap)(c:Addr):Option Obj:=match h.get? c with
 | some o=>(match o.data with | .cell (some _)=>some o | _=>none)
 | none=>none
def zj7(e:cellAt h c=some o):h.get? c=some o/\∃u,o.data=.cell (some u):=by
 unfold cellAt at e
 split at e
 ·rename_i o' h1
  split at e
  ·rename_i u h2;cases e;exact⟨h1,u,h2⟩
  ·cases e
 ·cases e
def GJ(h1:h.get? c=some o)(h2:o.data=.cell (some u)):cellAt h c=some o:=by
 unfold cellAt;rw[h1];dsimp only;rw[h2]
noncomputable def oK(cl:List (Str×Addr))(h:Heap):List Str->List 0x6
 | []=>[]
 | x::r=>match cl.lookup x with
  | some c=>(match cellAt h c with | some o=>(c,o)::oK cl h r | none=>oK cl h r)
  | none=>oK cl h r
theorem zh5:∀{xs:List Str},(oK cl h xs).lookup b=some o->cellAt h b=some o/\∃x,cl.lookup x=some b
 | [],e=>by cases e
 | x::r,e=>by
  unfold oK at e
  split at e
  ·rename_i c hc
   split at e
   ·rename_i o' ho;rw[kj]at e;by_cases hb:(b==c)=true
    ·simp only[hb]at e;cases e;obtain rfl:=eq_of_beq hb;exact⟨ho,x,hc⟩
    ·simp only[show (b==c)=false by simpa using hb]at e;exact zh5 e
   ·exact zh5 e
  ·exact zh5 e
theorem zls(hx:cl.lookup x=some b)(ho:cellAt h b=some o):∀{xs:List Str},x∈xs->(oK cl h xs).lookup b=some o
 | [],e=>by cases e
 | y::r,e=>by
  unfold oK;by_cases hy:x=y
  ·subst hy;rw[hx];dsimp only;rw[ho];dsimp only;rw[kj];simp
  ·have e:=zls hx ho (xs:=r) (by simpa[hy] using e)
   split
   ·rename_i c hc
    split
    ·rename_i o' Og;rw[kj];by_cases hb:(b==c)=true
     ·simp only[hb];obtain rfl:=eq_of_beq hb;rw[ho]at Og;exact Og.symm
     ·simp only[show (b==c)=false by simpa using hb];exact e
    ·exact e
   ·exact e
noncomputable def yH:List Nat->aK->Option (List D)
 | [],_=>some []
 | i::r,env=>match env[i]? with
  | some (some d)=>(match yH r env with | some ds=>some (d::ds) | none=>none)
  | _=>none
noncomputable def jq(Λ:Nat->fQ)(env:aK):Nat->List LA->Option (List D×List MO)
 | _,[]=>some ([],[])
 | n,.v d::r=>(match jq Λ env n r with | some (ds,os)=>some (d::ds,os) | none=>none)
 | n,.l j cap::r=>(match yH cap env with
  | some cs=>(match jq Λ env (n+1) r with | some (ds,os)=>some (.loc n::ds,.clo j (Λ j) cs::os) | none=>none)
  | none=>none)
def bI(st:ak):Prop:=∀o∈st,o.eU=false
open Classical in
noncomputable def j9(Λ:Nat->fQ)(F:FD)(dd:List D)(m:ML):ME:=λenv st=>(m env st).bind λas st1=>if bI st1 then (match jq Λ env st1.length as with
 | some (ds,os)=>(match gc st1 (F (ds++dd) (st1++os)) with
  | .ok d st2=>if bI st2 then .ok d st2 else .bad
  | _=>.bad)
 | none=>.bad) else .bad
def aX.snoc(h:aX K μ H st)(hm:o.mut=false)(ho:ig K (μ++[a]) H a o):aX K (μ++[a]) H (st++[o]):=by
 have key:∀(n:Nat) (on:MO) (c:Addr),(st++[o])[n]? = some on->on.mut=true->(μ++[a])[n]? = some c->st[n]? = some on/\μ[n]? = some c:=λn on c e1 hmn e2=>by
  by_cases hn:n<st.length
  ·rw[gM hn]at e1;rw[gM (by rw[h.len];exact hn)]at e2;exact⟨e1,e2⟩
  ·rw[h_ 0x0]at e1;have:=gU e1;simp at this;subst this;rw[hm]at hmn;cases hmn
 refine⟨by simp[h.len],λn on e1=>?_,λi j c oi oj ei ej mi mj hi hj=>?_⟩
 ·by_cases hn:n<st.length
  ·rw[gM hn]at e1;obtain⟨b,q1,q2⟩:=h.at_ n on e1;exact⟨b,by rw[gM (by rw[h.len];exact hn)];exact q1,q2.up _⟩
  ·have hl:=(gf.mp e1).1;rw[gO,ni]at hl;have en:n=st.length:=by omega
   subst en;rw[h_ (gb _)]at e1;simp at e1;subst e1;exact⟨a,by rw[<-h.len];simp,ho⟩
 ·obtain⟨a1,a2⟩:=key i oi c ei mi hi;obtain⟨b1,b2⟩:=key j oj c ej mj hj;exact h.uniq i j c oi oj a1 b1 mi mj a2 b2
def aX.del(hL:sO L H)(hc:bI st)(h:aX K μ H st):aX K μ (eF L H) st :=
 ⟨h.len,λn o e=>let ⟨a,h1,h2⟩:=h.at_ n o e;⟨a,h1,h2.del hL (hc o (gU e))⟩,h.uniq⟩
section
variable  {X:Cx}{Λ:Nat->fQ}{H:Hp}{env:aK}
theorem zoj(Ab:∀l cap,qJ X l cap->((jz X l).map (·.2)).Nodup):∀{as:List LA} {vs:List V} {μ:List Addr} {st:ak} {n:Nat} {ds:List D} {os:List MO},(∀l cap,qJ X l cap->∀cs,yH cap env=some cs->∃vs,fK H (jz X l) vs/\ao X.K μ H cs vs)->jq Λ env n as=some (ds,os)->i_ X Λ μ H as vs->aX X.K μ H st->n=st.length ->
  ∃ν,aX X.K (μ++ν) H (st++os)/\ao X.K (μ++ν) H ds vs
 | [],vs,μ,st,n,ds,os,hc,e,h,hs,hn=>by
  cases e;have h:vs=[]:=h;subst h;exact⟨[],by simpa using hs,ao.nil⟩
 | .v d::r,_,μ,st,n,ds,os,hc,e,⟨v,t,rfl,h1,h2⟩,hs,hn=>by
  unfold jq at e
  split at e
  ·rename_i ds' os' e';cases e;obtain⟨ν,q1,q2⟩:=zoj Ab hc e' h2 hs hn;exact⟨ν,q1,ao.cons (aq.mono ⟨⟨ν,rfl⟩,.refl H⟩ d h1) q2⟩
  ·cases e
 | .l j cap::r,_,μ,st,n,ds,os,hc,e,⟨v,t,rfl,hla,h2⟩,hs,hn=>by
  obtain⟨h0,f,pm,c',rZ,rfl,h3,h4⟩:=hla;unfold jq at e
  split at e
  ·rename_i cs ec
   split at e
   ·rename_i ds' os' e';cases e;obtain⟨vs,q1,q2⟩:=hc _ cap h0 cs ec;have g:bj μ H (μ++[f]) H:=⟨⟨[f],rfl⟩,.refl H⟩;have bJ:aX X.K (μ++[f]) H (st++[.clo j (Λ j) cs]):=hs.snoc rfl ⟨jz X (Λ j),pm,c',rZ,vs,h3,h4,by simp[jz,Function.comp_def],Ab _ cap h0,q1,q2.mono g _⟩;obtain⟨ν,r1,r2⟩:=zoj Ab (μ:=μ++[f]) (λl cap hl cs ec=>let ⟨vs,a1,a2⟩:=hc l cap hl cs ec;⟨vs,a1,a2.mono g _⟩) e' (h2.mono g) bJ (by simp[hn]);refine⟨f::ν,by simpa using r1,ao.cons (aq.aL.mpr ⟨f,?_,rfl⟩) (by simpa using r2)⟩;rw[hn,<-hs.len];simp
   ·cases e
  ·cases e
end
section
variable  {X:Cx}{Λ:Nat->fQ}{e:Expr}{es:List Expr}{m:ML}{pos p:Pos}{x:Str}{k:Nat}{f:Addr}{fd:FuncData}{ps:List Str}{F:FD}{oJ:List V}{ds:List Value}{dd:List D}
def SQ(I:Inv X pins σ H s)(h:qJ X l cap):((jz X l).map (·.2)).Nodup:=by
 unfold jz;rw[gJ];have key:∀xs:List Str,xs.Nodup->(∀x∈xs,X.env.kindOf x=some .cell)->(xs.map ((λp:Str×Addr=>p.2)∘λx=>(x,(X.env.cells.lookup x).getD 0))).Nodup:=by
  intro xs
  induction xs with
  | nil=>intros;simp
  | cons x xs ih =>
   intro nd hc;rw[mF]at nd;rw[gq,mF];refine⟨λhm=>?_,ih nd.2 λy hy=>hc y (by simp[hy])⟩;obtain⟨y,hy,e⟩:=gh.mp hm;obtain⟨c,h1⟩:=I.ok.has x (.inl (hc x 0x1));obtain⟨c2,h2⟩:=I.ok.has y (.inl (hc y (by simp[hy])));simp only[Function.comp,h1,h2,Option.getD_some]at e;subst e;have:=I.ok.inj x y _ h1 h2;subst this;exact nd.1 hy
 exact key _ h.nd h.cell
def MF(I:Inv X pins σ H s)(hE:d7 X.K μ H2 env σ)(hc:∀x b o,X.env.cells.lookup x=some b->cellAt s.heap b=some o->H2 b=some #[14,o])(h:qJ X l cap)(e:yH cap env=some cs) :
  ∃vs,fK H2 (jz X l) vs/\ao X.K μ H2 cs vs:=by
 obtain⟨mm,Gn,hl⟩:=I.loc;have key:∀(xs:List Str) (cap:List Nat) (cs:List D),(∀x∈xs,X.env.kindOf x=some .cell)->cap.map (λi=>X.N[i]?)=xs.map some->yH cap env=some cs->∃vs,fK H2 (xs.map λx=>(x,(X.env.cells.lookup x).getD 0)) vs/\ao X.K μ H2 cs vs:=by
  intro xs
  induction xs with
  | nil =>
   intro cap cs _ hx e;cases cap with
   | nil=>cases e;exact⟨[],rfl,ao.nil⟩
   | cons i cap=>cases hx
  | cons x xs ih =>
   intro cap cs hk hx e;cases cap with
   | nil=>cases hx
   | cons i cap =>
    rw[gq,gq]at hx;obtain⟨hx1,RG⟩:=List.cons.inj hx;unfold yH at e
    split at e
    ·rename_i d ed
     split at e
     ·rename_i cs' ec;cases e;obtain⟨vs,a1,a2⟩:=ih cap cs' (λy hy=>hk y (by simp[hy])) RG ec;obtain⟨v,b1,b2⟩:=hE.at_ i d ed;have hkx:=hk x 0x1;obtain⟨u,r,lk⟩:=hl i x v hx1 b1 (.inr (.inl hkx));rcases lk with⟨z,_⟩ | ⟨_,c,YX,o,ho,hd⟩
      ·rw[hkx]at z;cases z
      ·refine⟨v::vs,⟨v,vs,o,u,rfl,?_,hd,r,a1⟩,ao.cons b2 a2⟩;have:((X.env.cells.lookup x).getD 0)=c:=by rw[YX];rfl
       rw[this];exact hc x c o YX (GJ ho hd)
     ·cases e
    ·cases e
 exact key l.qi cap cs h.cell h.ix e
def Gf(G:cD X.prog X.w X.K X.mg X.base qy k f fd ps (vz X.K ps.length F))(hr:cV k X.A)(hm:X.mg x=some (.ref f))(hk:PySem.W.keepIn X.K (.ref f)=true)(hb:Binds X.K fd ps ds)(hd:Vals oJ ds)
  (hdd:∀μ H,ao X.K μ H dd oJ) (ha:JL X Λ (e::es) m) (YQ:∀x,X.fn x=true) (hlen:(e::es).length+oJ.length=ps.length:=by rfl) (hg:Gl X x:=by rfl) (rQ:0xf=false:=by decide) (he:starEach (e::es) X.env=0xd::starEach es X.env:=by rfl) (p_:#[13,pos,es].any (·.1)=false:=by rfl)
  (hA:∀env st as st1,m env st=.ok as st1->as.length=(e::es).length) :
  JE X 0x1a (j9 Λ F dd m):=by
 rintro pins s σ H Q I ⟨μ,env,st,hE,hs,hp⟩;refine afB (znl I hg hm ?_ rQ);unfold j9 at hp;cases hmr:m env st with
 | bad=>rw[hmr]at hp;exact hp.elim
 | err y st1 =>
  rw[hmr]at hp;refine afN (h₀:=X.base) I.ok.mod.Xr hk (cO (ha pos pins s σ H (λ_ _=>False) I ⟨μ,env,st,hE,hs,by rw[hmr];exact hp⟩) λus s1 zz=>?_) he p_;obtain⟨vs,H1,I1,r,q⟩:=zz;exact q.elim
 | ok as st1 =>
 have hal:=hA env st as st1 hmr;rw[hmr,R.aB]at hp
 split at hp
 case isFalse=>exact hp.elim
 rename_i hnc
 split at hp
 case h_2=>exact hp.elim
 rename_i as' os ad_
 split at hp
 case h_2=>exact hp.elim
 rename_i d st2 RQ
 split at hp
 case isFalse=>exact hp.elim
 rename_i aec;refine afN (h₀:=X.base) I.ok.mod.Xr hk (cO (ha pos pins s σ H (λvs H1=>∃μ1,bj μ H μ1 H1/\aX X.K μ1 H1 st1/\i_ X Λ μ1 H1 as vs) I ⟨μ,env,st,hE,hs,?_⟩) λus s1 ⟨vs,H1,I1,r,μ1,g1,bJ,Yz⟩=>⟨I1.qO,?_⟩) he p_
 ·rw[hmr];exact λvs H1 μ1 g1 bJ Yz=>⟨μ1,g1,bJ,Yz⟩
 ·let L:=oK X.env.cells s1.heap (X.env.cells.map (·.1))
  have lin:∀b o,L.lookup b=some o->cellAt s1.heap b=some o/\∃x,X.env.cells.lookup x=some b:=λb o e=>zh5 e;have nL:∀b o,L.lookup b=some o->H1 b=none:=λb o e=>let ⟨_,x,hx⟩:=lin b o e;I1.jP x b hx;have JB:∀b u,H1 b=some u->L.lookup b=none:=λb u e=>by
   cases z:L.lookup b with
   | none=>rfl
   | some o=>rw[nL b o z]at e;cases e
  have Y7:Ext H1 (fc L H1):=⟨λb xs e=>by rw[xR (JB b _ e)];exact e,λb o u e=>by rw[xR (JB b _ e)];exact e⟩;have gA:bj μ1 H1 μ1 (fc L H1):=⟨⟨[],by simp⟩,Y7⟩;have hsA:aX X.K μ1 (fc L H1) st1:=⟨bJ.len,λn o e=>let ⟨a,h1,h2⟩:=bJ.at_ n o e;⟨a,h1,h2.keep gA λ_ u q=>by rw[xR (JB a u q)];exact q⟩,bJ.uniq⟩;have hcA:∀x b o,X.env.cells.lookup x=some b->cellAt s1.heap b=some o->fc L H1 b=some #[14,o]:=λx b o hx ho =>
   zma (zls hx ho (gh.mpr ⟨(x,b),afu hx,rfl⟩))
  obtain⟨ν,hsN,hvN⟩:=zoj (Λ:=Λ) (H:=fc L H1) (env:=env) (λl cap h=>SQ I1 h) (λl cap h cs ec=>MF I1 ((hE.mono g1).mono gA) hcA h ec) ad_ (Yz.mono gA) hsA rfl;refine PJ (L:=L) G hr hb hd I1 (λb o e=>?_) r ⟨?_,μ1++ν,as'++dd,st1++os,hvN.append (hdd _ _),hsN,?_⟩
  ·obtain⟨h1,x,h2⟩:=lin b o e;exact⟨(zj7 h1).1,x,h2,YQ x⟩
  ·rw[gO,<-Yz.length,hal];exact hlen
  ·have key:zV X.K μ1 (fc L H1) (λv H'=>Q v (eF L H')) (F (as'++dd) (st1++os)):=by
    refine zu8 hsA ?_;rw[RQ];intro v H' μ' g lH Bb;have hL:sO L H':=λb o e=>⟨g.ext.frz b o _ (zma e),(zj7 (lin b o e).1).2⟩;have ext:Ext H1 (eF L H'):=⟨λb xs e=>by rw[D_ (JB b _ e)];exact g.ext.tup b xs (Y7.tup b xs e),λb o u e=>by rw[D_ (JB b _ e)];exact g.ext.frz b o u (Y7.frz b o u e)⟩;exact hp v (eF L H') μ' ⟨g1.trans ⟨g.pre,ext⟩ |>.pre,(g1.trans ⟨g.pre,ext⟩).ext⟩ (lH.del hL aec) (Bb.cG (λb xs q=>hL.del q λ_ z=>nomatch z) d)
   have gN:bj μ1 (fc L H1) (μ1++ν) (fc L H1):=⟨⟨ν,rfl⟩,.refl _⟩;cases hF:F (as'++dd) (st1++os) with
   | bad=>rw[hF]at key;exact key.elim
   | err y iu=>rw[hF]at key;exact key.elim
   | ok d3 iu =>
    rw[hF]at key;exact λv H' μ' g lH Bb=>key v H' μ' (gN.trans g) lH Bb
end
end M
namespace M
open PySem PySem.Spec L2 PyProof.Rows
structure Nm(K:PySem.W.Frag)(x:Str)(P:Addr):Prop where
 code:∃(fa:Addr) (o:Obj) (fd:FuncData) (c:Addr),PySem.W.nsIn K mainGlobals x=some #[9,fa]/\K.lookup fa=some o/\o.data=.func fd/\fd.code=.ref c/\PySem.W.codeHdIn K c P=true
 out:K.lookup P=none
def FT{P:Program}{w:World}{K:PySem.W.Frag}{mg mb:Str->Option Value}{k:Nat}{fa a:Addr}{fd:FuncData}{x:Str}{sp:Sp}{afb:Shared}{vs:List Value}{ns:List Int}{ts:List (Str×Addr)}
  (KX:K.In afb.heap) (Gn:afb.heap.Ns mainGlobals mg) (hb:afb.heap.Ns builtinsNs mb) (hbb:∀x:Str,x ≠ "__name__"->mb x=bootBuiltins x) (aef:afb.heap.NoLimit) (hg:afb.gens=#[])
  (hbm:∃bm ob,mg "__builtins__" = some (.ref bm)/\bm≠builtinsNs/\afb.heap.get? bm=some ob/\ob.cls=.type "module"/\ob.dict=some builtinsNs/\ob.data=.plain)
  (ht:∀p∈ts,afb.heap.get? p.2=some (PySem.W.tabObj #[])) (hk:∀p∈ts,Nm K p.1 p.2)
  (ha:afb.heap.get? a=some { cls:=.type "list",data:=.seq vs.toArray }) (hi:IntsAre vs ns) (hl:ns.length<=sizeLine) (hr:cV k callerA)
  (F:∀base:Heap,K.In base->base.Ns mainGlobals mg->BMain mg base->cD P w K mg base qy k fa fd [x] sp) (abO:∀(s:Shared) (u:Value),BindsTo s fd ⟨[u],[]⟩ [(x,u)])
  (hsp:∀H:Hp,yO K H a (ns.map V.int)->(∀p∈ts,H p.2=some (.tbl #[]))->sp [.ref a] H (λv _=>v=.bl true) λ_ _ _=>False) :
  codeAny (model P w) callerA (.call (.ref fa) ⟨[.ref a],[]⟩) 0x35 afb:=by
 have rv:=zp4 hi;have wZ:=hi.length;have core:∀H:Hp,yO K H a (ns.map V.int)->(∀p∈ts,H p.2=some (.tbl #[]))->lF P w H afb.heap->(∀b u,H b=some u->(b=a/\K.lookup a=none/\∃o xs,u=.frz o (.lst xs))\/(∃p∈ts,b=p.2/\u=.tbl #[])) ->
   codeAny (model P w) callerA (.call (.ref fa) ⟨[.ref a],[]⟩) 0x35 afb:=by
  intro H hS hT bO hA;have yI:∀{b:Addr} {o:Obj},afb.heap.get? b=some o->H b=none->(xm afb.heap H).get? b=some o:=λe n=>Lh e n;have noH:∀{b:Addr} {o:Obj},afb.heap.get? b=some o->o.cls≠.type "list"->(∀vs,o.data≠.fields vs)->H b=none:=λ{b o} e d1 d2=>by
   cases q:H b with
   | none=>rfl
   | some u =>
    rcases hA b u q with⟨rfl,_⟩ | ⟨p,hp,rfl,_⟩
    ·rw[ha]at e;cases e;exact absurd rfl d1
    ·rw[ht p hp]at e;cases e;exact absurd rfl (d2 _)
  have Q0:∀{b:Addr} {o:Obj} {es:Array DictEntry} {ep:Nat},afb.heap.get? b=some o->o.data=.dict es ep->H b=none:=λ{b o es ep} e d=>by
   cases q:H b with
   | none=>rfl
   | some u =>
    rcases hA b u q with⟨rfl,_⟩ | ⟨p,hp,rfl,_⟩
    ·rw[ha]at e;cases e;have d':Data.seq vs.toArray _=Data.dict es ep:=d;cases d'
    ·rw[ht p hp]at e;cases e;have d':Data.fields #[]=Data.dict es ep:=d;cases d'
  have nsK:∀{b:Addr} {m:Str->Option Value},afb.heap.Ns b m->(xm afb.heap H).Ns b m:=λ{b m} ⟨o,es,ep,e,d,r⟩=>⟨o,es,ep,yI e (Q0 e d),d,r⟩;have hKb:K.In (xm afb.heap H):=λb o e=>yI (KX b o e) (by
   cases q:H b with
   | none=>rfl
   | some u =>
    rcases hA b u q with⟨rfl,z,_⟩ | ⟨p,hp,rfl,_⟩
    ·rw[z]at e;cases e
    ·rw[(hk p hp).out]at e;cases e)
  have hM:Mod K mg (xm afb.heap H):=⟨hKb,nsK Gn,⟨mb,nsK hb,hbb⟩,let ⟨mc,h1,h2⟩:=aef;⟨mc,nsK h1,h2⟩⟩;have e0:yP P w K mg (xm afb.heap H) callerA [] afb H:=⟨rfl,hM,λb o e=>QW e,Nat.le_of_eq (Gq _ _),trivial,λb hb=>absurd (show b∈([]:List Addr) from hb) 0x1,bO,.of_eq hg⟩;have hBM:BMain mg (xm afb.heap H):=by
   obtain⟨bm,ob,b1,b2,b3,b4,b5,b6⟩:=hbm;refine⟨bm,ob,b1,b2,λz=>?_,yI b3 (noH b3 (by rw[b4];simp) λvs z=>by rw[b6]at z;cases z),b4,b5,b6⟩;obtain⟨o,es,ep,e,d,_⟩:=Gn;rw[<-z,b3]at e;cases e;rw[b6]at d;cases d
  refine af4 ((F _ hKb (nsK Gn) hBM).run callerA [] afb H ⟨[.ref a],[]⟩ [.ref a] [.ref a] _ _ hr e0 (abO afb (.ref a)) (.cons rfl .nil) (hsp H hS hT)) λr s' h=>?_;cases r with
  | error e=>exact False.elim h
  | ok fl =>
   cases fl with
   | next=>exact False.elim h
   | brk=>exact False.elim h
   | cont=>exact False.elim h
   | ret u =>
    obtain⟨v,H',os,bare,un,abM,r',q⟩:=h;have q':v=.bl true:=q;subst q';obtain rfl:u=Value.bool true:=r';refine⟨rfl,⟨λb o e=>?_,λb o e=>un.there b o e 0x1⟩,os,bare⟩;cases q:H b with
    | none=>exact .inl (un.keep b o e q (by intro z;exact absurd (show b∈([]:List Addr) from z) 0x1) 0x1)
    | some u =>
     rcases hA b u q with⟨rfl,_,ob,xs,rfl⟩ | ⟨p,hp,rfl,rfl⟩
     ·have z2:=un.t7 _ ob _ q;obtain⟨e1,_⟩:=bO _ _ q;obtain⟨e2,_⟩:=abM _ _ z2;rw[e]at e1;cases e1;exact .inl e2
     ·obtain⟨more,z2⟩:=un.uN p.2 #[] q;have e2:s'.heap.get? p.2=some (PySem.W.tabObj (#[]++more)):=abM _ _ z2;obtain⟨_,_,_,c,_,_,_,_,yw⟩:=(hk p hp).code;have hTA:=(PySem.W.codeHd_of_K KX yw).tab (ht p hp);rw[ht p hp]at e;cases e;exact .inr (.inl ⟨hTA.isCodeTable,rfl,#[],more,rfl,e2⟩)
 have nt:∀p∈ts,p.2≠a:=λp hp z=>by
  have:=ht p hp;rw[z,ha]at this;cases this
 cases hka:K.lookup a with
 | some o =>
  have e:=KX a o hka;rw[ha]at e;cases e
  let H:Hp:=λb=>if (ts.map (·.2)).contains b=true then some (.tbl #[]) else none
  have hin:∀p∈ts,H p.2=some (.tbl #[]):=λp hp=>afn (by simp;exact⟨p.1,hp⟩);refine core H (.inr ⟨_,vs.toArray,_,hka,rfl,rfl,rfl,by rw[gF,wZ];exact hl,by simpa using rv⟩) hin (λb u z=>?_) λb u z=>?_
  ·by_cases hb:(ts.map (·.2)).contains b=true
   ·have z:0x31=some u:=z;rw[afn hb]at z;cases z;obtain⟨p,hp,rfl⟩:=gh.mp (pQ.mp hb);exact ht p hp
   ·have z:0x31=some u:=z;rw[afo hb]at z;cases z
  ·by_cases hb:(ts.map (·.2)).contains b=true
   ·have z:0x31=some u:=z;rw[afn hb]at z;cases z;obtain⟨p,hp,rfl⟩:=gh.mp (pQ.mp hb);exact .inr ⟨p,hp,rfl,rfl⟩
   ·have z:0x31=some u:=z;rw[afo hb]at z;cases z
 | none =>
  let H:Hp:=λb=>if b=a then some (.frz { cls:=.type "list",data:=.seq vs.toArray } (.lst (ns.map V.int))) else if (ts.map (·.2)).contains b=true then some (.tbl #[]) else none
  have hin:∀p∈ts,H p.2=some (.tbl #[]):=λp hp=>(afo (nt p hp)).trans (afn (by simp;exact⟨p.1,hp⟩));have hat:H a=some (.frz { cls:=.type "list",data:=.seq vs.toArray } (.lst (ns.map V.int))):=afn rfl;have U0:∀b u,H b=some u->(b=a/\u=.frz { cls:=.type "list",data:=.seq vs.toArray } (.lst (ns.map V.int)))\/∃p∈ts,b=p.2/\u=.tbl #[]:=λb u z=>by
   by_cases hba:b=a
   ·subst hba;rw[hat]at z;cases z;exact .inl ⟨rfl,rfl⟩
   ·have z:(if b=a then some (HO.frz { cls:=.type "list",data:=.seq vs.toArray } (.lst (ns.map V.int))) else if (ts.map (·.2)).contains b=true then some (HO.tbl #[]) else none)=some u:=z;rw[afo hba]at z;by_cases hb:(ts.map (·.2)).contains b=true
    ·rw[afn hb]at z;cases z;obtain⟨p,hp,rfl⟩:=gh.mp (pQ.mp hb);exact .inr ⟨p,hp,rfl,rfl⟩
    ·rw[afo hb]at z;cases z
  refine core H (.inl ⟨_,hat⟩) hin (λb u z=>?_) λb u z=>?_
  ·rcases U0 b u z with⟨rfl,rfl⟩ | ⟨p,hp,rfl,rfl⟩
   ·exact⟨ha,by rw[gm];exact hl,vs,_,rv,ha⟩
   ·exact ht p hp
  ·rcases U0 b u z with⟨rfl,rfl⟩ | h
   ·exact .inl ⟨rfl,hka,_,_,rfl⟩
   ·exact .inr h
def zq8{K:PySem.W.Frag}{H:Hp}{a:Addr}{ns:List Int}{ts:List (Str×Addr)}(Ab:(ts.map (·.2)).Nodup)(hS:yO K H a (ns.map V.int))(hT:∀p∈ts,H p.2=some (.tbl #[]))(hk:∀p∈ts,Nm K p.1 p.2) :
  aX K (a::ts.map (·.2)) H (.frz (ns.map D.int)::ts.map λp=>.tab p.1):=by
 have hv:∀(μ:List Addr) (l:List Int),ao K μ H (l.map D.int) (l.map V.int):=fun μ l=>by
  induction l with
  | nil=>exact ao.nil
  | cons i l ih=>exact ao.cons (aq.aN.mpr rfl) ih
 refine⟨by simp,λn o e=>?_,λi j b oi oj ei ej mi mj hi hj=>?_⟩
 ·match n,e with
  | 0,e =>
   simp at e;subst e;exact⟨a,rfl,_,hS,hv _ ns⟩
  | n+1,e =>
   rw[mQ,gK]at e;cases q:ts[n]? with
   | none=>rw[q]at e;cases e
   | some p =>
    rw[q]at e;cases e;have hp:=gU q;refine⟨p.2,by rw[mQ,gK,q];rfl,(hk p hp).code,#[],hT p hp,trivial,λpos cv z=>by cases z⟩
 ·match i,j,ei,ej,hi,hj with
  | 0,_,ei,_,_,_=>simp at ei;subst ei;cases mi
  | _+1,0,_,ej,_,_=>simp at ej;subst ej;cases mj
  | i+1,j+1,_,_,hi,hj =>
   rw[mQ]at hi hj;have h1:=(gf.mp hi).1;rw[(nG h1 Ab).mp (hi.trans hj.symm)]
def holds_ofT(ts:List (Str×Addr)){l:PySem.W.OpenLaw}{k:Nat}{q:Program}{loose:List Str}{XP:(Str->Option Value)->Heap->Prop}{YP:World->Heap->Prop}{d:DefRec}{K:Params->PySem.W.Frag}{F:FD}{x:Str}
  (hn:l.most=some 63) (hdf:d.params.defaults=[]) (hr:cV k callerA) (Ab:(ts.map (·.2)).Nodup)
  (hY:∀(w:World) (h:Heap),YP w h->(K w.params).In h/\∀P∈ts.map (·.2),h.get? P=some (PySem.W.tabObj #[]))
  (G:∀(w:World) (mg:Str->Option Value) (fa:Addr) (h:Heap),(K w.params).In h->h.Ns mainGlobals mg->mg d.name=some (.ref fa) ->
   ∃fd:FuncData,(∀(s:Shared) (u:Value),BindsTo s fd ⟨[u],[]⟩ [(x,u)])/\(∀p∈ts,Nm (K w.params) p.1 p.2)/\∀base:Heap,(K w.params).In base->base.Ns mainGlobals mg->BMain mg base->cD l.prog w (K w.params) mg base qy k fa fd [x] (vz (K w.params) 1 F))
  (hF:∀ns:List Int,ns.length<=63->∃st,F [.loc 0] (.frz (ns.map D.int)::ts.map λp=>.tab p.1)=.ok (.bl true) st) :
  PySem.W.WalkO q loose XP YP l.row.toRowW d [] (λf vs=>PySem.call f vs):=by
 refine Att.zri hn hdf λw afc afb mg mb fa o pm cd doc a vs ns G0 Y ho hd yw hmg YJ hints hlen hg=>?_;obtain⟨KX,hT⟩:=hY w _ Y;obtain⟨fd,hb,hk,hF'⟩:=G w mg fa _ KX G0.T.g hmg;refine FT (ts:=ts) KX G0.T.g G0.T.b G0.T.builtins G0.T.nolimit hg G0.T.bmain (λp hp=>hT p.2 (gh.mpr ⟨p,hp,rfl⟩)) hk YJ hints (g_ hlen 0x5) hr hF' hb λH hS hTb=>?_;obtain⟨st,e⟩:=hF ns hlen;refine⟨rfl,a::ts.map (·.2),[.loc 0],_,ao.cons (aq.aL.mpr ⟨a,rfl,rfl⟩) ao.nil,zq8 Ab hS hTb hk,?_⟩;rw[e];exact λv H' μ' _ _ hv=>aq.bu.mp hv
structure yN(K:PySem.W.Frag)(x:Str)(st:Stmt)(f:Addr)(fd:FuncData):Prop where
 ex:∃(oc:Value) (od:Option Addr) (dV kV doc pm:Value) (an:Option Addr) (c:Addr) (ct:Value) (ud:Array 0xe),
  fd=PySem.W.fnOf x x (bZ st) (a_ st) (aD st) dV kV doc pm an (.ref c) ct/\K.lookup f=some ⟨oc,od,.func fd,ud⟩/\PySem.W.codeIn K (.ref c) x=true
 ns:PySem.W.nsIn K mainGlobals x=some #[9,f]
 kp:PySem.W.keepIn K (.ref f)=true
def Bg{P:Program}{w:World}{K:PySem.W.Frag}{mg:Str->Option Value}{base:Heap}{x:Str}{st:Stmt}{f:Addr}{fd:FuncData}{N ps:List Str}{k:Nat}{m:MS}(F:yN K x st f fd)(S:cX N ps (aD st))
  (oG:∀(cdv:Value) (A:Around) (outer:List Env) (s:Shared) (H:Hp),cV k #[33,x] ->
   ack #[31,x].JX x->zY #[31,x].JX (a_ st) m):cD P w K mg base qy (k+1) f fd ps (vz K ps.length (bw N.length m)):=by
 obtain⟨oc,od,dV,kV,doc,pm,an,c,ct,ud,rfl,lk,yw⟩:=F.ex;refine Lx lk yw S (λvs H Q E h=>h.1) λA outer s H vs Q E hr h=>?_;obtain⟨hl,μ,ds,Ui,hv,hs,hp⟩:=h;have hb:=oG (.ref c) A outer s H hr ⟨rfl,c,f,_,_,rfl,F.ns,lk,rfl,rfl⟩;refine⟨_,zW.JX hb,μ,startM N.length ds,Ui,ao.start N hv,hs,?_⟩;unfold bw at hp;cases hr:m (startM N.length ds) Ui with
 | bad=>rw[hr]at hp;exact hp.elim
 | err x st1=>rw[hr]at hp;exact hp.elim
 | ok o st1 =>
  rw[hr]at hp;cases o with
  | rt d=>exact hp
  | nx env=>exact fun σ' H' μ' g lH _=>hp .non H' μ' g lH (aq.bK.mpr rfl)
  | bk env=>exact hp.elim
  | cn env=>exact hp.elim
def zsu{K:PySem.W.Frag}{x:Str}{st:Stmt}{f:Addr}{oc:Value}{od an:Option Addr}{ud:Array 0xe}{dV kV doc pm ct:Value}{c:Addr}(n:PySem.W.nsIn K mainGlobals x=some #[9,f])(l:K.lookup f=some ⟨oc,od,.func (PySem.W.fnOf x x (bZ st) (a_ st) (aD st) dV kV doc pm an (.ref c) ct),ud⟩)
  (h:PySem.W.codeIn K (.ref c) x=true) (k:PySem.W.keepIn K (.ref f)=true):yN K x st f (PySem.W.fnOf x x (bZ st) (a_ st) (aD st) dV kV doc pm an (.ref c) ct):=⟨⟨oc,od,dV,kV,doc,pm,an,c,ct,ud,rfl,l,h⟩,n,k⟩
def yN.V0{K:PySem.W.Frag}{x:Str}{f P:Addr}{oc:Value}{od an:Option Addr}{ud:Array 0xe}{name qual:Str}{params:Arguments}{body:List Stmt}{scope:Scope}{dV kV doc pm ct:Value}{c:Addr}(n:PySem.W.nsIn K mainGlobals x=some #[9,f])(l:K.lookup f=some ⟨oc,od,.func (PySem.W.fnOf name qual params body scope dV kV doc pm an (.ref c) ct),ud⟩)
  (h:PySem.W.codeHdIn K c P=true) (o:K.lookup P=none):Nm K x P:=⟨⟨f,_,_,c,n,l,rfl,rfl,h⟩,o⟩
def zoc:∀(env:aK) (st:ak) (as:List LA) (st1:ak),uP env st=.ok as st1->as.length=([]:List Expr).length:=by
 intro env st as st1 h;cases h;rfl
def zh8{e:Expr}{es:List Expr}{a:ME}{r:ML}(h:∀(env:aK) (st:ak) (as:List LA) (st1:ak),r env st=.ok as st1->as.length=es.length) :
  ∀(env:aK) (st:ak) (as:List LA) (st1:ak),iY a r env st=.ok as st1->as.length=(e::es).length:=by
 intro env st as st1 q;unfold iY at q;cases h1:a env st with
 | bad=>rw[h1]at q;cases q
 | err x s=>rw[h1]at q;cases q
 | ok x s =>
  rw[h1,R.aB]at q;cases h2:r env s with
  | bad=>rw[h2]at q;cases q
  | err x s=>rw[h2]at q;cases q
  | ok xs s2 =>
   rw[h2,R.aB]at q;cases q;rw[g8,g8,h env s xs _ h2]
def zjf{e:Expr}{es:List Expr}{j k:Nat}{cap:List Nat}{x:Str}{r:ML}(h:∀(env:aK) (st:ak) (as:List LA) (st1:ak),r env st=.ok as st1->as.length=es.length) :
  ∀(env:aK) (st:ak) (as:List LA) (st1:ak),j6 j cap k x r env st=.ok as st1->as.length=(e::es).length:=by
 intro env st as st1 q;unfold j6 at q
 split at q
 ·split at q
  ·cases h2:r env st with
   | bad=>rw[h2]at q;cases q
   | err x s=>rw[h2]at q;cases q
   | ok xs s2 =>
    rw[h2,R.aB]at q;cases q;rw[g8,g8,h env st xs _ h2]
  ·cases q
 ·cases q
end M
namespace M
open PySem PySem.Spec L2
noncomputable def zQ:Expr->Nat->Expr
 | .Call _ as _ _,i=>as.getD i (.Constant .none 0 ⟨0,0,0,0⟩)
 | e,_=>e
noncomputable def vf:Stmt->Expr
 | .Return (some e) _=>e
 | .Assign _ e _=>e
 | _=>.Constant .none 0 ⟨0,0,0,0⟩
noncomputable def Ur:fQ:=⟨"",⟨[],[],none,[],[],none,[]⟩,.Constant .none 0 ⟨0,0,0,0⟩,aD (.Pass ⟨0,0,0,0⟩),[]⟩
noncomputable def zx(x:Str)(qi:List Str):Expr->fQ
 | .Lambda ps b sc _=>⟨rJ x,ps,b,sc,qi⟩
 | _=>Ur
def zje(h0:X.env.scope=sc0)(nd:l.qi.Nodup)(hc:∀x∈l.qi,sc0.names.lookup x=some .cell)(ix:cap.map (λi=>X.N[i]?)=l.qi.map some):qJ X l cap :=
 ⟨nd,λx hx=>by subst h0;exact hc x hx,ix⟩
end M
namespace M
open L2
def zr0{s:ak}{n:Nat}{o:MO}(h:s[n]? = some o)(hc:o.eU=false):(cj s)[n]? = some o:=by
 rw[zty h,hc];rfl
def Qd(h:s[c]? = some (.clo j (Λ j) ds))(hG:G j (ds++as) (cj s)=.ok d (cj s))(hu:under s.length d):Dr Λ G c as s=.ok d s:=by
 unfold Dr;rw[h];dsimp only;rw[afn rfl,hG,fV (by rw[zlf];exact hu)];dsimp only;rw[afn ⟨rfl,hu⟩]
def zuv(hi:env[i]? = some (some (.loc n)))(h0:st[n]? = some (.clo j (Λ j) ds))(hA:mA env st=.ok as st1)(h:st1[n]? = some (.clo j (Λ j) ds))(hG:G j (ds++as) (cj st1)=.ok d (cj st1))(hu:under st1.length d) :
  callC Λ G i mA env st=.ok d st1:=by
 unfold callC;rw[hi];dsimp only;rw[h0];dsimp only;rw[hA,R.aB];exact Qd h hG hu
def zn7(hm:m env st=.ok as st1)(hn:bI st1)(hp:jq Λ env st1.length as=some (ds,os))(hF:gc st1 (F (ds++dd) (st1++os))=.ok d st2)(hn2:bI st2) :
  j9 Λ F dd m env st=.ok d st2:=by
 unfold j9;rw[hm,R.aB,afn hn,hp];dsimp only;rw[hF];dsimp only;rw[afn hn2]
@[simp] def aah:bI []:=λ_ h=>nomatch h
@[simp] def Xg(o:MO)(st:ak):bI (o::st)↔o.eU=false/\bI st:=by simp[bI]
@[simp] def zgj(a b:ak):bI (a++b)↔bI a/\bI b:=by
 simp only[bI,mz];exact⟨λh=>⟨λo ho=>h o (.inl ho),λo ho=>h o (.inr ho)⟩,λh o ho=>ho.elim (h.1 o) (h.2 o)⟩
@[simp] def aak(l:List D):(MO.lst l).eU=false:=rfl
@[simp] def aal(l:List D):(MO.frz l).eU=false:=rfl
@[simp] def aaj(x:PySem.Str):(MO.tab x).eU=false:=rfl
@[simp] def aaq(l:List (List Key×D)):(MO.dic l).eU=false:=rfl
@[simp] def aap(l:List (Key×D)):(MO.dkc l).eU=false:=rfl
@[simp] def aao(l:List (Key×D)):(MO.dkf l).eU=false:=rfl
@[simp] def aam(c:String)(d:D):(MO.exc c d).eU=false:=rfl
@[simp] def aan(l:List (List Key×D)):(MO.dtf l).eU=false:=rfl
end M
namespace M
open PySem PySem.Spec L2
section
variable  {X:Cx}{elt tg iter c:Expr}{ifs:List Expr}{scope:Scope}{pos:Pos}{N:List Str}{capt:List (Option Nat)}{mi:MI}{g:MG}{t:MT}{me:ME}
end
end M
namespace L2
open PySem PySem.Spec PyProof.Rows
noncomputable def Zr(x:Str):It :=
 ⟨λi _=>i<x.cps.size,
  λi H y H'=>∃p c,H p=none/\y=.ref p/\x.cps[i]? = some c/\H'=upd H p (.tup [.int i,.str ⟨#[c]⟩]),
  λi _=>x.cps.size<=i⟩
def zsc{P:Program}{w:World}{K:PySem.W.Frag}{elts:List Expr}{x1:Nat}{pos:Pos}(x:Str)(t:Tok)(e it:Addr)(qb:e≠it) :
  Turn P w K (.Tuple elts x1 pos) (Zr x) [e,it] e (λi h=>i<=x.cps.size/\∃old,IsEnum h e it (i:Int) old/\h.IsStrIter it "str_ascii_iterator" x t i) where
 mem:=by simp
 obj:=λi h st b hb=>by
  obtain⟨_,old,h1,h2⟩:=st;rcases gj.mp hb with rfl | hb
  ·exact⟨_,h1,λv z=>by cases z⟩
  ·have e:b=it:=by simpa using hb
   subst e;obtain⟨o,q,c,d⟩:=h2;exact⟨o,q,λv z=>by rw[d]at z;cases z⟩
 keep:=λi h h' st k=>by
  obtain⟨h0,old,h1,h2⟩:=st;refine⟨h0,old,k e 0x1 _ h1,?_⟩;obtain⟨o,q,c,d⟩:=h2;exact⟨o,k it 0x1 o q,c,d⟩
 item:=by
  show 2;obtain⟨_,old,h1,h2⟩:=st;have hi:i<x.cps.size:=hg;have D:=Draws.strAscii (prog:=X.prog) (w:=X.w) (A:=X.A.in1) (I.ok.hd hc) it x t;refine wpAny_pyNext_enum_itemD D h1 h2 hi qb (by simpa using qb) λu afk tk hPu Oi hit ht hsz hk=>?_;refine⟨_,rfl,wpAny_letOwnedTupleGo_enum Oi λafj aei Le=>?_⟩;replace Le:Heap.SameBut e afk afj:=Le;have uT:e<s.heap.objs.size:=gw h1;have Yp:it<s.heap.objs.size:=by obtain⟨o,q,_⟩:=h2;exact gw q
  have ht2:afj.get? s.heap.objs.size=some { cls:=.type "tuple",data:=.seq #[.int i tk,u] }:=by rw[Le.2 _ (mJ uT)];exact ht
  have kk:∀b ob,b∉[e,it]->s.heap.get? b=some ob->afj.get? b=some ob:=λb ob hb q=>by
   have b1:b≠e:=λz=>hb (by simp[z]);have b2:b≠it:=λz=>hb (by simp[z]);exact Le.extBut b ob b1 (hk b ob b1 b2 q)
  obtain⟨c,t2,YX,rfl⟩:=hPu;refine⟨.ref s.heap.objs.size,upd H s.heap.objs.size (.tup [.int i,.str ⟨#[c]⟩]),I.Bw hf kk (gb _) ?_,rfl,⟨_,c,I.bO.fresh (gb _),rfl,YX,rfl⟩,?_,λb hb=>?_⟩
  ·refine⟨by show 2<=sizeLine;decide,[.int i tk,.str ⟨#[c]⟩ t2],.cons ⟨_,rfl⟩ (.cons ⟨_,rfl⟩ .nil),?_⟩;exact⟨_,ht2,rfl,_,rfl⟩
  ·refine⟨hi,.str ⟨#[c]⟩ t2,?_,?_⟩
   ·have:(i:Int)+1=((i+1:Nat):Int):=by omega
    rw[<-this];exact aei
   ·obtain⟨o,q,c,d⟩:=hit;exact⟨o,Le.extBut it o (afy qb) q,c,d⟩
  ·rw[iT]
   ·exact (hf b hb).1
   ·intro z;subst z;rcases gj.mp hb with z | z
    ·exact mJ uT z
    ·exact mJ Yp (by simpa using z)
 done:=by
  show 2;obtain⟨h0,old,h1,h2⟩:=st;have hi:x.cps.size<=i:=hg;have hii:i=x.cps.size:=by omega
  subst hii;have D:=Draws.strAscii (prog:=X.prog) (w:=X.w) (A:=X.A.in1) (I.ok.hd hc) it x t;exact wpAny_pyNext_enum_endD D h1 h2 λh' eb=>⟨rfl,I.turns (t':=s.toks) (ch:=[e,it]) hf λb o hb q=>eb b o (λz=>hb (by simp[z])) q⟩
 self:=λ_ _ _ _ _ st h=>by
  obtain⟨_,old,h1,h2⟩:=st;exact wpAny_pyIter_enum h1 h
noncomputable def Yw(ta:TA):TI:=fun σ H R=>ta σ H λvs H1=>∃x,vs=[.str x]/\strIterType x = "str_ascii_iterator"/\R (Zr x) H1
def Jr{X:Cx}{elts:List Expr}{x1:Nat}{xV:Pos}{a:Expr}{ta:TA}{p pos:Pos}(hg:Gl X "enumerate")(hm:X.mg "enumerate" = none)(ha:PA X [a] ta)(hs:starEach [a] X.env=[0x1c]:=by rfl) :
  PI X (.Tuple elts x1 xV) (.Call (.Name "enumerate" p) [a] [] pos) (Yw ta):=by
 intro pins s σ H R I h;refine Call_ (Ou I hg hm zpq (afw 0x21 hs rfl));obtain⟨vs,H1,I1,r1,q1⟩:=zz;obtain⟨x,e,hq,q⟩:=q1;subst e;cases r1 with
 | cons r rr =>
  cases rr;obtain⟨t,rfl⟩:=r;refine call_enumerate_str λh' he hit hsz hk=>?_;rw[hq]at hit;refine wpAny_pyIter_enum he ?_;have I2:Inv X pins σ H1 { s1 with heap:=h' }:=I1.kept (t':=s1.toks) hk;refine⟨s1.heap.objs.size+1,[s1.heap.objs.size+1,s1.heap.objs.size],_,_,H1,rfl,I2,zsc x t _ _ (mJ (nQ _)),⟨mK _,.none,he,hit⟩,λb hb=>?_,q⟩;have qd:s1.heap.objs.size<=b:=by
   rcases gj.mp hb with z | z
   ·rw[z];exact Nat.le_succ _
   ·have:b=s1.heap.objs.size:=by simpa using z
    rw[this];exact gb _
  exact I1.v5 qd (I1.bO.fresh qd)
end L2
namespace M
open PySem PySem.Spec L2
section
variable  {X:Cx}{a:Expr}{mA:MA}{μ:List Addr}{H:Hp}{p pos xV:Pos}
noncomputable def v8(mA:MA):MI:=λenv st=>(mA env st).bind λds st1=>match ds with
 | [.str cs]=>if cs.all (λc=>decide (c<128))=true then .ok (dz 0 (cs.map λc=>D.str [c]),[]) st1 else .bad
 | _=>.bad
@[simp] theorem Jd(env:aK)(st:ak):v8 mA env st=(mA env st).bind λds st1=>match ds with
 | [.str cs]=>if cs.all (λc=>decide (c<128))=true then .ok (dz 0 (cs.map λc=>D.str [c]),[]) st1 else .bad
 | _=>.bad:=eZ rfl
def K8(cs:List Nat):oO X μ H (Zr 0xa) (dz 0 (cs.map λc=>D.str [c]),[]):=by
 intro H' μ' st' g hs ok;refine⟨λi d e=>?_,by show 0xa.cps.size<=_;rw[ZS];simp⟩;obtain⟨y,e1,rfl⟩:=zk1 e;rw[gK]at e1;obtain⟨c,e2,rfl⟩:=mO.mp e1;refine⟨by show i<0xa.cps.size;simpa using (gf.mp e2).1,?_⟩;rintro x DN ⟨pp,c',hn,rfl,hc,rfl⟩;have:c'=c:=by
  have h2:cs[i]? = some c':=by simpa using hc
  rw[e2]at h2;exact (afr h2).symm
 subst this;refine⟨bj.lay hn,hs.lay hn,aq.aU.mpr ⟨pp,_,rfl,.inl qQ,?_⟩⟩;exact ao.cons (aq.aN.mpr rfl) (ao.cons (aq.aP.mpr rfl) ao.nil)
def KC{elts:List Expr}{x1:Nat}(ha:JA X [a] mA)(hg:Gl X "enumerate")(hm:X.mg "enumerate" = none)(hs:starEach [a] X.env=[0x1c]:=by rfl):JI X (.Tuple elts x1 xV) (.Call (.Name "enumerate" p) [a] [] pos) (v8 mA):=by
 refine JI.of (Jr hg hm ha hs) fun σ H R zz=>?_;show 1;show 3;rintro vs H1 ⟨μ1,st1,ds,g1,bJ,hv,aQ⟩;dsimp only at aQ
 split at aQ
 ·rename_i cs
  split at aQ
  ·rename_i hc;obtain⟨v,rfl,q1⟩:=ao.one hv;obtain rfl:=aq.aP.mp q1;refine⟨strOf cs,rfl,?_,aQ _ _ _ (.refl _ _) bJ (K8 cs)⟩;unfold strIterType;rw[afn];show (cs.toArray.all _)=true;rw[List.all_toArray];exact hc
  ·exact aQ.elim
 ·exact aQ.elim
end
end M
namespace M
open PySem PySem.Spec PySem.SeqAt L2
def aq.kt{K:PySem.W.Frag}{a:Addr}{od:Option Addr}{its:Array Value}{n:Nat}{sl:Array 0xe}{ds:List D}(xs:List V)(l:K.lookup a=some ⟨.type "tuple",od,.seq its n,sl⟩)(hs:its.size<=sizeLine)(hv:Vals xs its.toList)(nk:Cw ds=true)
  (hr:∀μ H,ao K μ H ds xs):∀μ H,aq K μ H (.tup ds) (.ref a):=fun μ H=>aq.aU.mpr ⟨a,xs,rfl,.inr ⟨nk,_,its,n,l,rfl,rfl,hs,hv⟩,hr μ H⟩
def ao.n{K:PySem.W.Frag}:∀μ H,ao K μ H [] []:=λ_ _=>ao.nil
def ao.c{K:PySem.W.Frag}{d:D}{ds:List D}{v:V}{vs:List V}(h:∀μ H,aq K μ H d v)(k:∀μ H,ao K μ H ds vs):∀μ H,ao K μ H (d::ds) (v::vs):=fun μ H=>ao.cons (h μ H) (k μ H)
def aq.ks{K:PySem.W.Frag}{cs:List Nat}{y:Str}(hy:y=strOf cs):∀μ H,aq K μ H (.str cs) (.str y):=λ_ _=>aq.aP.mpr (by rw[hy])
def aq.ki{K:PySem.W.Frag}{i:Int}:∀μ H,aq K μ H (.int i) (.int i):=λ_ _=>aq.aN.mpr rfl
def aq.kb{K:PySem.W.Frag}{b:Bool}:∀μ H,aq K μ H (.bl b) (.bl b):=λ_ _=>aq.bu.mpr rfl
section
variable  {X:Cx}{pos:Pos}{x:Str}{L:Nat}
def KN{d:D}(h:∃a,X.mg x=some (.ref a)/\∀μ H,aq X.K μ H d (.ref a))(hg:Gl X x:=by rfl)(hd:0xf=false:=by decide):JE X (.Name x pos) (ct d):=by
 obtain⟨a,h,hv⟩:=h;exact zup (v:=.ref a) hg h rfl hv hd
noncomputable def xj(L:Nat)(neg:Bool):D->D->ak->R D
 | d,.loc n,st=>match aA st n with
  | some ds=>if flat d=true/\dw ds=true/\(ds.all λe=>decide (dZ e d<L))=true then .ok (.bl (if neg then !(ds.any λe=>jr e d) else ds.any λe=>jr e d)) st else .bad
  | none=>.bad
 | _,_,_=>.bad
def Iz{a b:V}{w:Value}(h:RelV a w)(k:RelV b w):a=b:=by
 cases a<;>cases b<;>simp only[RelV]at h k<;>first
  | rfl
  | (subst h;cases k;done)
  | (subst h;injection k with k;subst k;rfl)
  | (obtain⟨_,rfl⟩:=h;cases k;done)
  | (obtain⟨_,rfl⟩:=k;cases h;done)
  | (obtain⟨_,rfl⟩:=h;obtain⟨_,k⟩:=k;injection k with k;subst k;rfl)
  | (obtain⟨_,rfl⟩:=h;obtain⟨_,k⟩:=k;cases k;done)
open Classical in
def La(hu:X.A.units+L<cLine){pins:List 0x6}{s:Shared}{σ:L2.St}{H:Hp}{x y:V}{v u:Value}{Q:VK}{neg:Bool}(I:Inv X pins σ H s)(rx:RelV x v)(ry:RelV y u)(h:rM X (xj L neg) x y H Q) :
  ∃(p:Addr) (its:List Value) (f:Value->Bool),u=.ref p/\s.heap.IsList p its.toArray/\(∀w∈its,EqAt X.A.in1 s w v (f w))/\Q (.bl (if neg then !its.any f else its.any f)) H:=by
 obtain⟨μ,st,dx,dy,hs,hx,hy,hp⟩:=h;unfold xj at hp
 split at hp
 ·rename_i n
  split at hp
  ·rename_i ds e
   split at hp
   ·rename_i c;obtain⟨c1,c2,c3⟩:=c;obtain⟨p,q1,rfl⟩:=aq.aL.mp hy;obtain⟨p',xs,r1,r2,r3⟩:=hs.items e;show 7;obtain rfl:u=Value.ref p:=ry;obtain⟨its,ra,pl,_⟩:=I.list r2
    let f:Value->Bool:=λw=>decide (∃d z,flat d=true/\aq X.K μ H d z/\RelV z w/\jr d dx=true)
    have key:∀(ds:List D) (xs:List V) (its:List Value),ao X.K μ H ds xs->Vals xs its->dw ds=true->(ds.all λe=>decide (dZ e dx<L))=true ->
      (∀w∈its,EqAt X.A.in1 s w v (f w))/\its.any f=ds.any λe=>jr e dx:=by
     intro ds
     induction ds with
     | nil =>
      intro xs its h1 h2 _ _;rw[ao]at h1;subst h1;cases h2;exact⟨λw hw=>(nomatch hw),rfl⟩
     | cons d ds ih =>
      intro xs its h1 h2 h3 h4;rw[ao]at h1;obtain⟨z,r,rfl,g1,g2⟩:=h1;cases h2 with
      | cons rz rr =>
       rw[zgf,gG]at h3;rw[List.all_cons,gG]at h4;obtain⟨i1,i2⟩:=ih _ _ g2 rr h3.2 h4.2;have fe:∀{w:Value},RelV z w->f w=jr d dx:=λ{w} hw=>by
        cases q:jr d dx with
        | true=>exact afs ⟨d,z,h3.1,g1,hw,q⟩
        | false =>
         refine afq ?_;rintro ⟨d',z',k1,k2,k3,k4⟩;have ez:z'=z:=Iz k3 hw;subst ez;rw[zn3 I d' d k1 h3.1 k2 g1]at k4;rw[k4]at q;cases q
       refine⟨λw hw=>?_,?_⟩
       ·rcases gj.mp hw with rfl | hw
        ·rw[fe rz];exact (L_ I d dx h3.1 c1 (by have:=afx h4.1;show X.A.units+1+_<_;omega) g1 hx rz rx).1
        ·exact i1 w hw
       ·rw[mR,mR,fe rz,i2]
    obtain⟨k1,k2⟩:=key ds xs its r3 ra c2 c3;refine⟨p,its,f,rfl,pl.isList,k1,?_⟩;rw[k2];exact hp.ret hs (aq.bu.mpr rfl)
   ·exact hp.elim
  ·exact hp.elim
 ·exact hp.elim
def Cu(hu:X.A.units+L<cLine):eO X (compareOp .In) (rM X (xj L false)):=by
 show 10;obtain⟨p,its,f,rfl,pl,k1,q⟩:=La hu I rx ry h;refine SeqAt.in_listAt f pl (λw hw=>k1 w (by simpa using hw)) ⟨.bl _,H,I,rfl,?_⟩;rw[show its.toArray.any f=its.any f by simp];exact q
end
end M
namespace M
open PySem PySem.Spec L2
section
variable  {prog:Program}{w:World}{A:Around}{E:Value->Shared->Prop}{s:Shared}
end
section
variable  {X:Cx}{es:List Expr}{pos:Pos}
end
end M
namespace M
namespace Tr
noncomputable def jN:Nat->Tr->Option Tr
 | 0,t=>some t
 | n+1,t=>(step t).bind (jN n)
def xQ{n:Nat}{t u:Tr}(h:step t=some u):jN (n+1) t=jN n u:=by rw[jN,h];rfl
theorem Vm:∀{a b:Nat} {t u:Tr},jN a t=some u->jN (a+b) t=jN b u
 | 0,b,t,u,h=>by rw[jN]at h;cases h;rw[nH]
 | a+1,b,t,u,h=>by
  cases e:step t with
  | none=>rw[jN,e]at h;cases h
  | some x =>
   rw[xQ e]at h;rw[pO,xQ e];exact Vm h
def BP{t u:Tr}(h:step t=some u):val t=false:=by
 cases e:val t with
 | false=>rfl
 | true=>rw[Vp e]at h;cases h
theorem zox{r:Tr}:∀{n:Nat} {l l':Tr},jN n l=some l'->jN n 0x3=some (.jn l' r)
 | 0,l,l',h=>by rw[jN]at h ⊢;cases h;rfl
 | n+1,l,l',h=>by
  cases e:step l with
  | none=>rw[jN,e]at h;cases h
  | some x =>
   rw[xQ e]at h;rw[xQ (u:=.jn x r) (by rw[zib (BP e),e];rfl)];exact zox h
theorem zpb{l:Tr}(hl:val l=true):∀{n:Nat} {r r':Tr},jN n r=some r'->jN n 0x3=some (.jn l r')
 | 0,l,l',h=>by rw[jN]at h ⊢;cases h;rfl
 | n+1,r,r',h=>by
  cases e:step r with
  | none=>rw[jN,e]at h;cases h
  | some x =>
   rw[xQ e]at h;rw[xQ (u:=.jn l x) (by rw[zgb hl (BP e),e];rfl)];exact zpb hl h
theorem zpn:∀{n:Nat} {t u:Tr},jN n t=some u->run n t=(u,n)
 | 0,t,u,h=>by rw[jN]at h;cases h;rfl
 | n+1,t,u,h=>by
  cases e:step t with
  | none=>rw[jN,e]at h;cases h
  | some x =>
   rw[xQ e]at h;rw[zlo e,zpn h]
def Pz{n m:Nat}{t v:Tr}(h:jN n t=some v)(hv:val v=true)(hm:n<=m):run m t=(v,n):=by
 obtain⟨k,rfl⟩:=Nat.exists_eq_add_of_le hm;rw[PK,zpn h,T9 (Vp hv)];rfl
def Ev(t:Tr)(n:Nat)(v:Tr):Prop:=jN n t=some v/\val v=true
def Ev.v{v:Tr}(h:Tr.val v=true):Ev v 0 v:=⟨rfl,h⟩
def Ev.to{t v:Tr}{n m:Nat}(h:Ev t n v)(e:n=m):Ev t m v:=e ▸ h
def Ev.run{t v:Tr}{n m:Nat}(h:Ev t n v)(hm:n<=m):Tr.run m t=(v,n):=Pz h.1 h.2 hm
def Ev.both{l r a b:Tr}{n m:Nat}(h:Ev l n a)(k:Ev r m b):jN (n+m) 0x3=some (.jn a b):=by
 rw[Vm (zox h.1)];exact zpb h.2 k.1
def Ev.jv{l r a b:Tr}{n m:Nat}(h:Ev l n a)(k:Ev r m b)(hv:Tr.val (.jn a b)=true):Ev 0x3 (n+m) (.jn a b):=⟨h.both k,hv⟩
def Ev.red{l r a b u v:Tr}{n m k:Nat}(h:Ev l n a)(h2:Ev r m b)(hn:Tr.val (.jn a b)=false)(hr:f9 a b=some u)(h3:Ev u k v):Ev 0x3 (n+m+1+k) v:=by
 refine⟨?_,h3.2⟩;rw[pC (n+m),Vm (h.both h2),Nat.add_comm 1 k,xQ (u:=u) (by rw[zgh h.2 h2.2 hn,hr])];exact h3.1
noncomputable abbrev tS:Tr:=.lf [83]
noncomputable abbrev tK:Tr:=.lf [75]
noncomputable abbrev tI:Tr:=.jn (.jn tS tK) tK
def fj(v:Tr):val (.jn tK v)=val v:=by rw[VD];simp
def HF(v:Tr):val (.jn tS v)=val v:=by rw[VD];simp
def TX(u v:Tr):val (.jn (.jn tS u) v)=(val v && val u):=by rw[Vs,HF];simp[xg]
def VM(u v:Tr):val (.jn (.jn tK u) v)=false:=by rw[Vs];simp[xg]
def Zz(u v w:Tr):val (.jn (.jn (.jn tS u) v) w)=false:=by rw[Vs];simp[xg]
def HJ:val tI=true:=by decide
def Ev.K{l r v w:Tr}{n m:Nat}(h:Ev l n (.jn tK v))(h2:Ev r m w):Ev 0x3 (n+m+1) v:=by
 have hv:val v=true:=by rw[<-fj];exact h.2
 exact (h.red h2 (VM _ _) (by rw[f9,afn rfl]) (Ev.v hv)).to 0x0
def Ev.S{l r u v w x:Tr}{n m k:Nat}(h:Ev l n (.jn (.jn tS u) v))(h2:Ev r m w)(h3:Ev (.jn (.jn u w) (.jn v w)) k x):Ev 0x3 (n+m+1+k) x :=
 h.red h2 (Zz _ _ _) rfl h3
def Ev.I{r w:Tr}{m:Nat}(h:Ev r m w):Ev (.jn tI r) (m+2) w:=by
 have hK:Ev tK 0 tK:=Ev.v rfl;have hw:Ev w 0 w:=Ev.v h.2;have h1:Ev (.jn tK w) 0 (.jn tK w):=Ev.v (by rw[fj];exact h.2);exact ((Ev.v HJ).S h (h1.K h1)).to 0x0
def Ev.det{t v w:Tr}{n m:Nat}(h:Ev t n v)(k:Ev t m w):n=m/\v=w:=by
 have a:=h.run (Nat.le_add_right n m);have b:=k.run (Nat.le_add_left m n);rw[a]at b;exact⟨congrArg Prod.snd b,congrArg Prod.fst b⟩
end Tr
end M
namespace M
namespace Tr
def Ev.comp{l r a b v:Tr}{n m k:Nat}(h:Ev l n a)(h2:Ev r m b)(h3:Ev (.jn a b) k v):Ev 0x3 (n+m+k) v:=by
 refine⟨?_,h3.2⟩;rw[Vm (h.both h2)];exact h3.1
inductive dG (p:Tr):List Tr->Nat->Tr->Prop
 | nil (h:val p=true):dG p [] 0 p
 | snoc (ts:List Tr) (t w v:Tr) (n m:Nat) (h:dG p ts n w) (ht:val t=true) (k:Ev (.jn w t) m v):dG p (ts++[t]) (n+m) v
noncomputable def apps(p:Tr)(ts:List Tr):Tr:=ts.foldl (λw t=>.jn w t) p
def Ub(p:Tr)(ts:List Tr)(t:Tr):apps p (ts++[t])=.jn (apps p ts) t:=by simp[apps]
def dG.apps{p v:Tr}{ts:List Tr}{n:Nat}(h:dG p ts n v):Ev (Tr.apps p ts) n v:=by
 induction h with
 | nil h=>exact Ev.v h
 | snoc ts t w v n m h ht k ih =>
  rw[Ub];exact (ih.comp (Ev.v ht) k).to 0x0
noncomputable def hold(ts:List Tr):Tr:=ts.foldl (λw t=>.jn (.jn tS w) (.jn tK t)) tI
def Z4(ts:List Tr)(t:Tr):hold (ts++[t])=.jn (.jn tS (hold ts)) (.jn tK t):=by simp[hold]
theorem zuy:∀(ts:List Tr) (w:Tr),val w=true->(∀t∈ts,val t=true)->val (ts.foldl (λw t=>.jn (.jn tS w) (.jn tK t)) w)=true
 | [],w,h,_=>h
 | t::ts,w,h,k=>zuy ts _ (by rw[TX,fj,h,k t 0x1];rfl) λx hx=>k x (by simp[hx])
def Ea{ts:List Tr}(h:∀t∈ts,val t=true):val (hold ts)=true:=zuy ts tI HJ h
def zpx{p v:Tr}{ts:List Tr}{n:Nat}(hp:Tr.val p=true)(h:dG p ts n v):val (hold ts)=true/\Ev (.jn (hold ts) p) (n+2+2*ts.length) v:=by
 induction h with
 | nil h=>exact⟨HJ,Ev.I (Ev.v h)⟩
 | snoc ts t w v n m h ht k ih =>
  obtain⟨i1,i2⟩:=ih;have hv:val (hold (ts++[t]))=true:=by rw[Z4,TX,fj,ht,i1];rfl
  refine⟨hv,?_⟩;have e1:Ev (.jn (.jn tK t) p) 1 t:=((Ev.v (v:=.jn tK t) (by rw[fj];exact ht)).K (Ev.v hp)).to 0x0;have e2:=(Ev.v hv);rw[Z4]at e2 ⊢;refine (e2.S (Ev.v hp) (i2.comp e1 k)).to ?_;rw[gO,ni];omega
noncomputable def cN:Nat->Tr->Tr
 | 0,v=>v
 | n+1,v=>.jn tK (cN n v)
theorem zik{v:Tr}(h:val v=true):∀n,val (cN n v)=true
 | 0=>h
 | n+1=>by rw[cN,fj];exact zik h n
noncomputable def uc:Nat->Tr
 | 0=>tI
 | 1=>tK
 | m+2=>.jn (.jn tS (.jn tK tK)) (uc (m+1))
noncomputable def Ft:Nat->Nat
 | 0=>2
 | 1=>0
 | m+2=>2+Ft (m+1)
theorem zqg:∀m,val (uc m)=true
 | 0=>rfl
 | 1=>rfl
 | m+2=>by rw[uc,TX,zqg (m+1)];rfl
theorem Nt{a:Tr}(h:val a=true):∀m,Ev (.jn (uc m) a) (Ft m) (cN m a)
 | 0=>Ev.I (Ev.v h)
 | 1=>Ev.v (by rw[show (.jn (uc 1) a:Tr)=.jn tK a from rfl,fj];exact h)
 | m+2=>by
  have hv:=zqg (m+2);have ih:=Nt h (m+1);have e1:Ev (.jn (.jn tK tK) a) 1 tK:=((Ev.v (v:=.jn tK tK) rfl).K (Ev.v h)).to 0x0;rw[uc]at hv ⊢;exact ((Ev.v hv).S (Ev.v h) (e1.jv ih (by rw[fj];exact zik h _))).to (by rw[Ft];omega)
noncomputable def bM(k many:Nat):Tr:=cN k (uc (many - 1 - k))
def HD(k many:Nat):val (bM k many)=true:=zik (zqg _) _
def zm5{w:Tr}(hw:val w=true):∀(ts:List Tr) (j:Nat),(∀t∈ts,val t=true)->dG (cN (ts.length+j) w) ts ts.length (cN j w):=by
 intro ts
 induction hn:ts.length generalizing ts with
 | zero =>
  intro j h;have:ts=[]:=nR.mp hn;subst this;rw[nH];exact .nil (zik hw _)
 | succ n ih =>
  intro j h;obtain⟨us,t,rfl⟩:∃us t,ts=us++[t]:=by
   rcases List.eq_nil_or_concat ts with rfl | ⟨us,t,rfl⟩
   ·cases hn
   ·exact⟨us,t,by rw[List.concat_eq_append]⟩
  have hl:us.length=n:=by simpa using hn
  have h1:=ih us hl (j+1) λx hx=>h x (by simp[hx]);rw[show n+1+j=n+(j+1) by omega];refine .snoc _ _ _ _ _ 1 h1 (h t 0x1) ?_;exact ((Ev.v (v:=.jn tK (cN j w)) (by rw[fj];exact zik hw _)).K (Ev.v (h t 0x1))).to 0x0
def dG.trans{p w v:Tr}{ts us:List Tr}{n m:Nat}(h:dG p ts n w)(k:dG w us m v):dG p (ts++us) (n+m) v:=by
 induction k with
 | nil hw=>simpa using h
 | snoc us t x v m k hk ht e ih =>
  rw[<-gP,<-pC];exact .snoc _ _ _ _ _ _ ih ht e
def zlv{ts:List Tr}{k:Nat}{t:Tr}(hv:∀x∈ts,val x=true)(hk:ts[k]? = some t):dG (bM k ts.length) ts (k+Ft (ts.length - 1 - k)+(ts.length - 1 - k)) t:=by
 have hl:=(gf.mp hk).1;have ht:val t=true:=hv t (gU hk);have e:ts=ts.take k++[t]++ts.drop (k+1):=by
  rw[gP];have h1:ts.drop k=t::ts.drop (k+1):=by
   rw[mX hl];rw[gB hl]at hk;cases hk;rfl
  rw[List.singleton_append,<-h1,List.take_append_drop]
 have l1:(ts.take k).length=k:=by rw[km];omega
 have l2:(ts.drop (k+1)).length=ts.length - 1 - k:=by rw[mL];omega
 have a1:=zm5 (zqg (ts.length - 1 - k)) (ts.take k) 0 λx hx=>hv x (mY hx);have a2:=zm5 ht (ts.drop (k+1)) 0 λx hx=>hv x (mZ hx);rw[l1,m_]at a1;rw[l2,m_]at a2;have a3:dG (bM k ts.length) (ts.take k++[t]) (k+Ft (ts.length - 1 - k)) (cN (ts.length - 1 - k) t):=.snoc _ _ _ _ _ _ a1 ht (Nt ht _);have:=a3.trans a2;rw[<-e]at this;exact this
theorem Jm:∀m,Ft m<=2*m+2
 | 0=>by decide
 | 1=>by decide
 | m+2=>by have:=Jm (m+1);rw[Ft];omega
theorem zqd(v:Tr):∀n,dp (cN n v)=dp v+n
 | 0=>rfl
 | n+1=>by
  rw[cN,dp,zqd v n];have:dp tK=0:=rfl;omega
theorem yD:∀m,dp (uc m)<=m+2
 | 0=>by decide
 | 1=>by decide
 | m+2=>by
  have:=yD (m+1);rw[uc,dp];have e:dp (.jn tS (.jn tK tK))=2:=rfl;rw[e];omega
end Tr
end M
namespace M
open Tr
open Classical in
theorem ztf:∀(t u:Tr),jr (enc t) (enc u)=decide (t=u)
 | .lf a,.lf b=>by
  rw[enc,enc,jr,m8];simp
 | .lf a,.jn l r=>by rw[enc,enc];simp[jr]
 | .jn l r,.lf a=>by rw[enc,enc];simp[jr]
 | .jn l r,.jn l' r'=>by
  have h1:=ztf l l';have h2:=ztf r r';rw[enc,enc,jr,j8,j8,h1,h2];by_cases e1:l=l'
  ·by_cases e2:r=r'
   ·subst e1 e2;simp[jr,j8]
   ·have:(Tr.jn l r=.jn l' r')=False:=by simp[e2]
    simp[e2]
  ·simp[e1]
open Classical in
def zp0(t u:Tr)(st:ak)(h:dp t<800):iw 800 (enc t) (enc u) st=.ok (.bl (decide (t=u))) st:=by
 have hc:=zsw (enc t) (enc u);rw[R5]at hc;have hr:jU 800 (enc t) (enc u) st=some (decide (t=u)):=by
  have h1:=zos t;have h2:=zos u;have h3:=ztf t u;rw[<-h3];have h4:dZ (enc t) (enc u)<800:=by omega
  cases t<;>cases u<;>(rw[enc,enc]at *;simp only[jU];rw[afn ⟨h1,h2,h4⟩])
 unfold iw;rw[hr]
end M
namespace M
open L2
end M
namespace M
open PySem PySem.Spec L2
section
variable  {X:Cx}
end
end M
namespace M
open L2
noncomputable def valN(kvs:List (Key×D))(k:Key):Option D:=(kvs.find? λkv=>decide (kv.1=k)).map (·.2)
def ZV(p:Key×D)(r:List (Key×D))(k:Key):valN (p::r) k=if p.1=k then some p.2 else valN r k:=by
 unfold valN;rw[mq];by_cases h:p.1=k
 ·simp[h]
 ·simp[h]
noncomputable def putN(kvs:List (Key×D))(k:Key)(d:D):List (Key×D) :=
 if 0x23=true then kvs.map (λkv=>if kv.1=k then (kv.1,d) else kv) else kvs++[(k,d)]
noncomputable def j4(kvs more:List (Key×D)):List (Key×D):=more.foldl (λacc kv=>putN acc kv.1 kv.2) kvs
noncomputable def dkE:ME:=λ_ st=>.ok 0x2 (st++[.dkc []])
noncomputable def zJ:D->List D->ak->R D
 | .loc n,[k,d],st=>match st[n]?,keyOf k with
  | some (.dkc kvs),some kk=>.ok ((valN kvs kk).getD d) st
  | _,_=>.bad
 | _,_,_=>.bad
noncomputable def lW:D->D->D->ak->R Unit
 | .loc n,k,d,st=>match st[n]?,keyOf k with
  | some (.dkc kvs),some kk=>if kvs.length<1000000 then .ok () (st.set n (.dkc (putN kvs kk d))) else .bad
  | _,_=>.bad
 | _,_,_,_=>.bad
noncomputable abbrev TQ:=aK->ak->R (List (D×D))
noncomputable def iV:TQ:=λ_ st=>.ok [] st
noncomputable def cU(a b:ME)(r:TQ):TQ:=λenv st=>(a env st).bind λx st1=>(b env st1).bind λy st2=>(r env st2).bind λps iu=>.ok ((x,y)::ps) iu
noncomputable def vM:List (D×D)->Option (List (Key×D))
 | []=>some []
 | (k,d)::r=>match keyOf k,vM r with | some kk,some l=>some ((kk,d)::l) | _,_=>none
noncomputable def ie(m:TQ):ME:=λenv st=>(m env (st++[.dkc []])).bind λps st1=>match vM ps,st1[st.length]? with
 | some kvs,some (.dkc [])=>if kvs.length<=15 then .ok 0x2 (st1.set st.length (.dkc (j4 [] kvs))) else .bad
 | _,_=>.bad
@[simp] def Qa(env:aK)(st:ak):iV env st=.ok [] st:=eZ rfl
@[simp] def zs7(a b:ME)(r:TQ)(env:aK)(st:ak):cU a b r env st=(a env st).bind λx st1=>(b env st1).bind λy st2=>(r env st2).bind λps iu=>.ok ((x,y)::ps) iu:=eZ rfl
end M
namespace M
open PySem PySem.Spec L2
section
variable  {X:Cx}{K:PySem.W.Frag}{μ:List Addr}{H:Hp}
theorem aJ.valN:∀{kvs:List (Key×D)} {ws:List (Key×V)},aJ K μ H kvs ws ->
  (M.valN kvs k=none/\je ws k=none)\/∃d v,M.valN kvs k=some d/\je ws k=some v/\aq K μ H d v
 | [],ws,h=>.inl ⟨rfl,by rw[aJ]at h;rw[h];rfl⟩
 | (j,d)::r,ws,h=>by
  obtain⟨v,r',rfl,h1,h2⟩:=h;rw[ZV];by_cases e:j=k
  ·rw[afn e];exact .inr ⟨d,v,rfl,zjd (p:=(j,v)) e,h1⟩
  ·rw[afo e,zjm (p:=(j,v)) e];exact aJ.valN h2
theorem aJ.ach:∀{kvs:List (Key×D)} {ws:List (Key×V)},aJ K μ H kvs ws->0x23=(ws.any λkv=>decide (kv.1=k))
 | [],ws,h=>by rw[aJ]at h;rw[h];rfl
 | (j,d)::r,ws,h=>by
  obtain⟨v,r',rfl,h1,h2⟩:=h;rw[mR,mR,aJ.ach h2]
theorem aJ.Iw(hv:aq K μ H d v):∀{kvs:List (Key×D)} {ws:List (Key×V)},aJ K μ H kvs ws->aJ K μ H (kvs.map λkv=>if kv.1=k then (kv.1,d) else kv) (ws.map λkv=>if kv.1=k then (kv.1,v) else kv)
 | [],ws,h=>by rw[aJ]at h;subst h;exact rfl
 | (j,d')::r,ws,h=>by
  obtain⟨v',r',rfl,h1,h2⟩:=h;rw[gq,gq];by_cases e:j=k
  ·rw[afn e,afn e];exact⟨v,_,rfl,hv,aJ.Iw hv h2⟩
  ·rw[afo e,afo e];exact⟨v',_,rfl,h1,aJ.Iw hv h2⟩
theorem aJ.Uj:∀{kvs:List (Key×D)} {ws:List (Key×V)},aJ K μ H kvs ws->aq K μ H d v->aJ K μ H (kvs++[(k,d)]) (ws++[(k,v)])
 | [],ws,h,hv=>by rw[aJ]at h;subst h;exact⟨v,[],rfl,hv,rfl⟩
 | (j,d')::r,ws,h,hv=>by
  obtain⟨v',r',rfl,h1,h2⟩:=h;exact⟨v',r'++[(k,v)],rfl,h1,aJ.Uj h2 hv⟩
def aJ.putN(h:aJ K μ H kvs ws)(hv:aq K μ H d v):aJ K μ H (M.putN kvs k d) (putK ws k v):=by
 unfold M.putN putK;rw[h.ach]
 split
 ·exact aJ.Iw hv h
 ·exact h.Uj hv
theorem aJ.j4:∀{more:List (Key×D)} {ms:List (Key×V)} {kvs:List (Key×D)} {ws:List (Key×V)},aJ K μ H more ms->aJ K μ H kvs ws->aJ K μ H (M.j4 kvs more) (j5 ws ms)
 | [],ms,kvs,ws,h,k=>by rw[aJ]at h;subst h;exact k
 | (j,d)::r,ms,kvs,ws,h,k=>by
  obtain⟨v,r',rfl,h1,h2⟩:=h;show aJ K μ H (M.j4 (M.putN kvs j d) r) (j5 (putK ws j v) r');exact aJ.j4 h2 (k.putN h1)
def aX.dkc{st:ak}{n:Nat}{kvs:List (Key×D)}(h:aX K μ H st)(e:st[n]? = some (.dkc kvs)):∃p ws,μ[n]? = some p/\H p=some (.dK ws)/\aJ K μ H kvs ws:=by
 obtain⟨p,h1,xs,h2,h3⟩:=h.at_ n _ e;exact⟨p,xs,h1,h2,h3⟩
def aq.key(h:aq K μ H d v)(e:keyOf d=some k):v=kV k:=by
 cases d with
 | int i=>rw[aq.aN]at h;cases e;exact h
 | str cs=>rw[aq.aP]at h;cases e;exact h
 | _=>cases e
end
section
variable  {X:Cx}{a b o i:Expr}{ma mb:ME}{pos:Pos}
def KR:JE X (.Dict [] [] pos) dkE:=by
 refine JE.of Jx fun σ H Q zz=>?_;show 1;refine λp hn=>?_;have hr:ig X.K (μ++[p]) (upd H p (.dK [])) p (.dkc []):=⟨[],qQ,rfl⟩;exact hp _ _ (μ++[p]) (bj.new hn) (hs.new hn hr) (aq.aL.mpr ⟨p,by rw[<-hs.len];simp,rfl⟩)
def zr4(hu:X.A.units+1<cLine):sV X "dict.get" (Hk X zJ):=by
 rintro pins s σ H x xs v us Q I rx E_ ⟨μ,st,d,ds,hs,hx,j7,hp⟩;unfold zJ at hp
 split at hp
 ·rename_i n k dd
  split at hp
  ·rename_i kvs kk e1 e2;obtain⟨p,q1,rfl⟩:=aq.aL.mp hx;obtain⟨y,z,rfl,q2,q5⟩:=ao.two j7;obtain rfl:=q2.key e2;obtain⟨p',ws,r1,r2,r3⟩:=hs.dkc e1;show 7;cases E_ with
   | cons ry rr =>
    cases rr with
    | cons rz rr =>
     cases rr;obtain rfl:v=Value.ref p:=rx;refine Zd hu I (qM.k r2) ry rz λw' s' I' Ah=>⟨_,H,I',Ah,?_⟩;rcases r3.valN (k:=kk) with⟨z1,z2⟩ | ⟨d',v',z1,z2,z3⟩
     ·rw[z1]at hp;rw[z2];exact hp.ret hs q5
     ·rw[z1]at hp;rw[z2];exact hp.ret hs z3
  ·exact hp.elim
 ·exact hp.elim
def aaO(hu:X.A.units+1<cLine):xx X (Ci X lW):=by
 rintro pins s σ H o i v ov iv u Q I ro ri rv ⟨μ,st,d1,d2,d3,hs,h1,h2,h3,hp⟩;unfold lW at hp
 split at hp
 ·rename_i n k d
  split at hp
  ·rename_i kvs kk e1 e2
   split at hp
   ·rename_i hl;obtain⟨p,q1,rfl⟩:=aq.aL.mp h1;obtain rfl:=h2.key e2;obtain⟨p',ws,r1,r2,r3⟩:=hs.dkc e1;show 7;obtain rfl:ov=Value.ref p:=ro;refine zqi hu I (Bq.k r2 (by rw[<-r3.len];exact gQ hl 0x5)) ri rv λs' I'=>⟨_,I',?_⟩;have g:Ext H (upd H p (.dK (putK ws kk v))):=Ext.mut r2 0x17 (λ_ _ z=>nomatch z);have g':bj μ H μ (upd H p (.dK (putK ws kk v))):=⟨⟨[],by simp⟩,g⟩;exact hp () _ μ g' (hs.put e1 rfl rfl q1 g ⟨_,qQ,(r3.putN h3).mono g'⟩) trivial
   ·exact hp.elim
  ·exact hp.elim
 ·exact hp.elim
def zU(K:PySem.W.Frag)(μ:List Addr)(H:Hp):List (D×D)->List (V×V)->Prop
 | [],vs=>vs=[]
 | (k,d)::r,vs=>∃u v s,vs=(u,v)::s/\aq K μ H k u/\aq K μ H d v/\zU K μ H r s
theorem zU.keys{K:PySem.W.Frag}{μ:List Addr}{H:Hp}:∀{ps:List (D×D)} {vs:List (V×V)} {kvs:List (Key×D)},zU K μ H ps vs->vM ps=some kvs->∃ws:List (Key×V),vs=ws.map (λkv=>(kV kv.1,kv.2))/\aJ K μ H kvs ws
 | [],vs,kvs,h,e=>by cases e;cases h;exact⟨[],rfl,rfl⟩
 | (k,d)::r,vs,kvs,h,e=>by
  obtain⟨u,v,s,rfl,h1,h2,h3⟩:=h;unfold vM at e
  split at e
  ·rename_i kk l e1 e2;cases e;obtain⟨ws,rfl,q⟩:=zU.keys h3 e2;obtain rfl:=h1.key e1;exact⟨(kk,v)::ws,rfl,v,ws,rfl,h2,q⟩
  ·cases e
noncomputable abbrev Ul(X:Cx):Rel (List (D×D)) (List (V×V)):=fun μ H d v=>zU X.K μ H d v
def JPs(X:Cx)(pos:Pos)(keys:List (Option Expr))(values:List Expr)(m:TQ):Prop :=
 ∃Ag,PPs X pos keys values Ag/\∀(σ:L2.St) (H:Hp) (Q:List (V×V)->Hp->Prop) (μ:List Addr) (env:aK) (st:ak),d7 X.K μ H env σ->aX X.K μ H st->bR X μ H (Ul X) Q (m env st)->xW Ag σ H Q
def CP:JPs X pos [] [] iV:=⟨[],Qm,fun σ H Q μ env st hE hs hp=>hp.ret hs rfl⟩
def zo5{k v:Expr}{ks:List (Option Expr)}{vs:List Expr}{mk mv:ME}{r:TQ}(hk:JE X k mk)(hv:JE X v mv)(hr:JPs X pos ks vs r):JPs X pos (some k::ks) (v::vs) (cU mk mv r):=by
 obtain⟨Ag,hp,hq⟩:=hr;refine⟨(tM X mk,tM X mv)::Ag,Jk hk hv hp,fun σ H Q μ env st hE hs h=>?_⟩;refine⟨μ,env,st,hE,hs,(bR.bind h).imp ?_⟩;rintro x H1 ⟨μ1,st1,d1,g1,bJ,h1,p1⟩;refine⟨μ1,env,st1,hE.mono g1,bJ,(bR.bind p1).imp ?_⟩;rintro y H2 ⟨μ2,st2,d2,g2,iQ,h2,p2⟩;refine hq σ H2 _ μ2 env st2 ((hE.mono g1).mono g2) iQ ((bR.bind p2).imp ?_);rintro ps H3 ⟨μ3,iu,d3,g3,zE,h3,p3⟩;exact p3.ret zE ⟨x,y,ps,rfl,(h1.mono g2 _).mono g3 _,h2.mono g3 _,h3⟩
def CT{keys:List (Option Expr)}{values:List Expr}{m:TQ}(h:JPs X pos keys values m)(uW:keys.all (·.isSome)=true:=by rfl)(hl:keys.length=values.length:=by rfl)(h0:keys≠[]:=by exact λz=>nomatch z)(h15:keys.length<=15:=by decide):JE X (.Dict keys values pos) (ie m):=by
 obtain⟨Ag,hp,hq⟩:=h;refine JE.of (QD hp uW hl h0 h15) fun σ H Q zz=>?_;obtain⟨μ,env,st,hE,hs,hP⟩:=zz;refine λp hn=>?_;have hr:ig X.K (μ++[p]) (upd H p (.dK [])) p (.dkc []):=⟨[],qQ,rfl⟩;have bJ:=hs.new hn hr;have g0:bj μ H (μ++[p]) (upd H p (.dK [])):=bj.new hn;refine hq σ _ _ (μ++[p]) env (st++[.dkc []]) (hE.mono g0) bJ ?_;have hP1:=bR.mono g0 hP;refine (bR.bind (rel:=Ul X) hP1).imp ?_;rintro ps H2 ⟨μ2,st2,d2,g2,iQ,h2,p2⟩;dsimp only at p2
 split at p2
 ·rename_i kvs e1 e2
  split at p2
  ·rename_i aeg;have hmu:(μ++[p])[st.length]? = some p:=by rw[<-hs.len];simp
   have hm2:=g2.get hmu;obtain⟨p',ws0,r1,r2,r3⟩:=iQ.dkc e2;rw[hm2]at r1;cases r1;rw[aJ]at r3;subst r3;obtain⟨ws,rfl,q⟩:=h2.keys e1;refine⟨r2,ws,rfl,by rw[<-q.len];exact aeg,?_⟩;have g:Ext H2 (upd H2 p (.dK (j5 [] ws))):=Ext.mut r2 0x17 (λ_ _ z=>nomatch z);have g':bj μ2 H2 μ2 (upd H2 p (.dK (j5 [] ws))):=⟨⟨[],by simp⟩,g⟩;exact p2 _ _ μ2 g' (iQ.put e2 rfl rfl hm2 g ⟨_,qQ,(q.j4 (show aJ X.K μ2 H2 [] [] from rfl)).mono g'⟩) (aq.aL.mpr ⟨p,hm2,rfl⟩)
  ·exact p2.elim
 ·exact p2.elim
end
end M
namespace M
open PySem PySem.Spec PySem.SeqAt L2
end M
namespace L2
open PySem PySem.Spec PyProof.Rows
def Rc(h:(bL P w).is k u=true):RelV (kV k) u:=by
 rw[zsy]at h;rcases NT h with⟨i,t,rfl,rfl⟩ | ⟨x,t,rfl,rfl⟩
 ·exact⟨t,rfl⟩
 ·exact⟨t,rfl⟩
theorem zsh:∀{afe:List α} {afd:List β},Paired F afe afd->∀(i:Nat) (a:α) (b:β),afe[i]? = some a->afd[i]? = some b->F a b
 | _,_,.nil,i,a,b,h,_=>by simp at h
 | _,_,.cons r t,0,a,b,h1,h2=>by simp at h1 h2;subst h1;subst h2;exact r
 | _,_,.cons r t,i+1,a,b,h1,h2=>zsh t i a b (by simpa using h1) (by simpa using h2)
noncomputable def Itk(d:Addr)(o:Obj)(kvs:List (Key×V)):It :=
 ⟨λi H=>i<kvs.length/\H d=some (.frz o (.dK kvs)),λi H y H'=>H'=H/\∃p,kvs[i]? = some p/\y=kV p.1,λi H=>kvs.length<=i/\H d=some (.frz o (.dK kvs))⟩
def Dj(I:Inv X pins σ H s)(ho:o.data=.dict es ep)(e:H d=some (.frz o (.dK kvs))) :
  (d==sysModules)=false/\∃vs,KV kvs vs/\s.heap.DictAt (bL X.prog X.w) d vs ep:=by
 obtain⟨h1,z,hd,vs,rel,o',es',ep',h2,h3,h4,h5⟩:=(show cB X.prog X.w H s.heap d (.frz o (.dK kvs)) from I.bO d _ e);rw[h1]at h2;cases h2;rw[ho]at h4;cases h4;exact⟨hd,vs,rel,o,es,h1,h3,ho,h5⟩
def O9{P:Program}{w:World}{K:PySem.W.Frag}{tg:Expr}(it d:Addr)(o:Obj)(es:Array DictEntry)(ep:Nat)(ho:o.data=.dict es ep)(kvs:List (Key×V)):Turn P w K tg (Itk d o kvs) [it] it (λi h=>h.IsKeyIter it d i kvs.length ep) where
 mem:=by simp
 obj:=λi h st b hb=>by
  have e:b=it:=by simpa using hb
  show 14
 keep:=λi h h' st k=>by
  obtain⟨o,e,c,d⟩:=st;exact⟨o,k it 0x1 o e,c,d⟩
 item:=by
  show 2;show 5;obtain⟨hi,e⟩:=hg;obtain⟨hd,vs,rel,da⟩:=Dj I ho e;have hl:kvs.length=vs.length:=afH rel;obtain⟨q,hq⟩:∃q,vs[i]? = some q:=⟨_,gB 0x0⟩;obtain⟨p,hp⟩:∃p,kvs[i]? = some p:=⟨_,gB hi⟩;have hk:p.1=q.1:=(zsh rel i p q hp hq).1;rw[hl]at st;refine wpAny_pyNext_dict_item (k:=q.1) (v:=q.2) st da hq λkey h' ik st' sb=>?_;show 9;obtain⟨o1,e1,c1,d1⟩:=id st';rw[<-hl]at st';exact⟨_,rfl,ug (s:={ s with heap:=h' }) e1 c1 d1 0x5 ⟨kV p.1,H,I1,by rw[hk];exact Rc ik,⟨rfl,p,hp,rfl⟩,st',λb hb=>(hf b hb).1⟩⟩
 done:=by
  show 2;show 5;obtain⟨hi,e⟩:=hg;obtain⟨hd,vs,rel,da⟩:=Dj I ho e;have hl:kvs.length=vs.length:=afH rel;rw[hl]at st;exact wpAny_pyNext_dict_end (I.ok.hd hc) st da (List.getElem?_eq_none 0x0) λh' eb=>⟨rfl,I.turned (t':=s.toks) (λb o hb e=>eb b o hb e) f0 f1 f3 f4 f5⟩
 self:=λ_ _ _ _ _ st h=>wpAny_pyIter_keyiter st h
noncomputable def iDk(tl:TE):TI:=fun σ H R=>tl σ H λy H1=>∃a kvs,y=.ref a/\((∃o,H1 a=some (.frz o (.dK kvs))/\R (Itk a o kvs) H1)\/(H1 a=some (.dK kvs)/\∀o,R (Itk a o kvs) (upd H1 a (.frz o (.dK kvs)))))
def aa_{X:Cx}{tg l:Expr}{tl:TE}(hl:PE X l tl):PI X tg l (iDk tl):=by
 intro pins s σ H R I h;refine cO (hl pins s σ H _ I h) λv s1 zz=>?_;obtain⟨y,H1,I1,r1,q1⟩:=zz;obtain⟨a,kvs,rfl,q⟩:=q1;cases (show v=Value.ref a from r1);have key:∀(H2:Hp) (o:Obj),Inv X pins σ H2 s1->H2 a=some (.frz o (.dK kvs))->R (Itk a o kvs) H2->wpAny 0x7 X.A (pyIter (.ref a)) (PIE X pins σ tg R) X.xe s1:=λH2 o I2 e2 r2=>by
  obtain⟨h1,z,hd,vs,rel,o',es,ep,h2,h3,h4,h5⟩:=(show cB X.prog X.w H2 s1.heap a (.frz o (.dK kvs)) from I2.bO a _ e2);rw[h1]at h2;cases h2;have hl:kvs.length=vs.length:=afH rel;refine wpAny_pyIter_dict (knd:=bL X.prog X.w) (kvs:=vs) (ep:=ep) hd ⟨o,es,h1,h3,h4,h5⟩ ?_;refine⟨s1.heap.objs.size,[s1.heap.objs.size],_,_,H2,rfl,I2.kept (t':=s1.toks) λb u e=>gC _ e,O9 _ a o es ep h4 kvs,⟨_,gZ _ rfl,rfl,by rw[hl];rfl⟩,λb hb=>?_,r2⟩;have e:b=s1.heap.objs.size:=by simpa using hb
  subst e;exact I2.v5 (gb _) (I2.bO.fresh (gb _))
 rcases q with⟨o,e,r⟩ | ⟨e,r⟩
 ·exact key H1 o I1 e r
 ·obtain⟨z,hd,vs,rel,o,es,ep,h2,h3⟩:=(show cB X.prog X.w H1 s1.heap a (.dK kvs) from I1.bO a _ e);have new:cB X.prog X.w (upd H1 a (.frz o (.dK kvs))) s1.heap a (.frz o (.dK kvs)):=⟨h2,z,hd,vs,rel,o,es,ep,h2,h3⟩;exact key (upd H1 a (.frz o (.dK kvs))) o (I1.write (x:=a) (e:=a) (t':=s1.toks) (h':=s1.heap) (by rw[e];trivial) (.inl rfl) (λb u _ z=>z) ⟨o,h2⟩ new) qQ (r o)
end L2
namespace M
open PySem PySem.Spec L2
noncomputable def yp:Key->D
 | .inl i=>.int i
 | .inr x=>.str x.cps.toList
noncomputable def U9(m:ME):MI:=λenv st=>(m env st).bind λd st1=>match d with
 | .loc n=>(match st1[n]? with
  | some (.dkc kvs)=>.ok (kvs.map (λp=>yp p.1),[]) (st1.set n (.dkf kvs))
  | some (.dkf kvs)=>.ok (kvs.map (λp=>yp p.1),[]) st1
  | _=>.bad)
 | _=>.bad
noncomputable def wC:D->D->ak->R D
 | .loc n,k,st=>match st[n]?,keyOf k with
  | some (.dkc kvs),some kk=>(match valN kvs kk with | some d=>.ok d st | none=>.bad)
  | some (.dkf kvs),some kk=>(match valN kvs kk with | some d=>.ok d st | none=>.bad)
  | _,_=>.bad
 | _,_,_=>.bad
section
variable  {X:Cx}{tg l a b:Expr}{ml ma mb:ME}{μ:List Addr}{H:Hp}{K:PySem.W.Frag}{st:ak}{pos:Pos}
def aq.yp(k:Key):aq K μ H (M.yp k) (kV k):=by
 cases k with
 | inl i=>exact aq.aN.mpr rfl
 | inr x=>exact aq.aP.mpr (by show V.str x=V.str (strOf x.cps.toList);simp[strOf])
theorem aJ.Uw:∀{kvs:List (Key×D)} {ws:List (Key×V)},aJ K μ H kvs ws->kvs.length=ws.length/\∀(i:Nat) (p:Key×D) (q:Key×V),kvs[i]? = some p->ws[i]? = some q->p.1=q.1
 | [],_,h=>by cases h;exact⟨rfl,λi p q h1=>by simp at h1⟩
 | (k,d)::r,_,⟨v,s,rfl,h1,h2⟩=>by
  obtain⟨l,hk⟩:=aJ.Uw h2;refine⟨by simp[l],λi p q e1 e2=>?_⟩;cases i with
  | zero=>simp at e1 e2;subst e1;subst e2;rfl
  | succ i=>exact hk i p q (by simpa using e1) (by simpa using e2)
def CZ{a:Addr}{o:Obj}{kvs:List (Key×D)}{ws:List (Key×V)}(e:H a=some (.frz o (.dK ws)))(h:aJ X.K μ H kvs ws):oO X μ H (Itk a o ws) (kvs.map (λp=>M.yp p.1),[]):=by
 intro H' μ' st' g hs ok;obtain⟨hl,hk⟩:=h.Uw;have e':=g.ext.frz _ _ _ e;refine⟨λi d ed=>?_,⟨by simp[hl],e'⟩⟩;rw[gK]at ed;obtain⟨p,e1,rfl⟩:=mO.mp ed;have hi:=(gf.mp e1).1;refine⟨⟨by omega,e'⟩,?_⟩;rintro x DN ⟨rfl,q,hq,rfl⟩;refine⟨.refl _ _,hs,?_⟩;rw[hk i p q e1 hq];exact aq.yp _
def aX.iy{n:Nat}{mo Ut:MO}{a:Addr}{o':HO}(h:aX K μ H st)(hn:st[n]? = some mo)(hm:mo.mut=true)(ha:μ[n]? = some a)(g:Ext H (upd H a o'))(new:ig K μ (upd H a o') a Ut):aX K μ (upd H a o') (st.set n Ut):=by
 have hl:=(gf.mp hn).1;refine⟨by simp[h.len],λk ok e=>?_,λi j b oi oj ei ej mi mj hi hj=>?_⟩
 ·by_cases hk:n=k
  ·subst hk;rw[k_ hl]at e;cases e;exact⟨a,ha,new⟩
  ·rw[gR hk]at e;obtain⟨b,h1,h2⟩:=h.at_ k ok e;refine⟨b,h1,h2.keep ⟨⟨[],by simp⟩,g⟩ λhmk u q=>?_⟩;rw[iT (λe2=>?_)]
   ·exact q
   ·subst e2;exact hk (h.uniq n k b mo ok hn e hm hmk ha h1)
 ·have key:∀(k:Nat) (ok:MO),(st.set n Ut)[k]? = some ok->ok.mut=true->∃ok',st[k]? = some ok'/\ok'.mut=true:=λk ok ek mk=>by
   by_cases hk:n=k
   ·subst hk;exact⟨mo,hn,hm⟩
   ·rw[gR hk]at ek;exact⟨ok,ek,mk⟩
  obtain⟨oi',ei',mi'⟩:=key i oi ei mi;obtain⟨oj',ej',mj'⟩:=key j oj ej mj;exact h.uniq i j b oi' oj' ei' ej' mi' mj' hi hj
def abu(hl:JE X l ml):JI X tg l (U9 ml):=by
 refine JI.of (aa_ hl) fun σ H R zz=>?_;show 1;show 3;rintro v H1 ⟨μ1,st1,d,g1,bJ,hv,aQ⟩;dsimp only at aQ
 split at aQ
 ·rename_i n;obtain⟨a,q1,rfl⟩:=aq.aL.mp hv
  split at aQ
  ·rename_i kvs e1;obtain⟨a',ws,r1,r2,r3⟩:=bJ.dkc e1;show 7;refine⟨a,ws,rfl,.inr ⟨r2,λo=>?_⟩⟩;have g:Ext H1 (upd H1 a (.frz o (.dK ws))):=Ext.mut r2 0x17 (λ_ _ z=>nomatch z);have g':bj μ1 H1 μ1 (upd H1 a (.frz o (.dK ws))):=⟨⟨[],by simp⟩,g⟩;exact aQ _ _ μ1 g' (bJ.iy e1 rfl q1 g ⟨ws,o,qQ,r3.mono g'⟩) (CZ qQ (r3.mono g'))
  ·rename_i kvs e1;obtain⟨a',r1,ws,o,r2,r3⟩:=bJ.at_ n _ e1;show 7;exact⟨a,ws,rfl,.inl ⟨o,r2,aQ _ _ _ (.refl _ _) bJ (CZ r2 r3)⟩⟩
  ·exact aQ.elim
 ·exact aQ.elim
def Ye(hu:X.A.units+1<cLine)(ha:JE X a ma)(hb:JE X b mb)(hs:Zn b:=by exact λ_ _=>rfl):JE X (.Subscript a b pos) (aF wC ma mb):=by
 refine JE.of (QF hu ha hb hs) fun σ H Q h=>?_;obtain⟨μ,env,st,hE,hs,hp⟩:=zuw h;refine⟨μ,env,st,hE,hs,hp.imp ?_⟩;rintro x H1 ⟨μ1,env1,st1,hE1,bJ,aQ⟩;refine⟨μ1,env1,st1,hE1,bJ,aQ.imp ?_⟩;rintro y H2 ⟨μ2,st2,dx,dy,iQ,hx,hy,d_⟩;unfold wC at d_
 split at d_
 ·rename_i n k
  split at d_
  ·rename_i kvs kk e1 e2;obtain⟨p,q1,rfl⟩:=aq.aL.mp hx;obtain rfl:=hy.key e2;obtain⟨p',ws,r1,r2,r3⟩:=iQ.dkc e1;show 7;rcases r3.valN (k:=kk) with⟨z1,z2⟩ | ⟨d',v',z1,z2,z3⟩
   ·rw[z1]at d_;exact d_.elim
   ·rw[z1]at d_;exact⟨p,v',rfl,by rw[<-z2];exact qM.k r2,d_.ret iQ z3⟩
  ·rename_i kvs kk e1 e2;obtain⟨p,q1,rfl⟩:=aq.aL.mp hx;obtain rfl:=hy.key e2;obtain⟨p',r1,ws,o,r2,r3⟩:=iQ.at_ _ _ e1;show 7;rcases r3.valN (k:=kk) with⟨z1,z2⟩ | ⟨d',v',z1,z2,z3⟩
   ·rw[z1]at d_;exact d_.elim
   ·rw[z1]at d_;exact⟨p,v',rfl,.inl ⟨ws,kk,.inr ⟨o,r2⟩,rfl,z2.symm⟩,d_.ret iQ z3⟩
  ·exact d_.elim
 ·exact d_.elim
end
end M
namespace L2
open PySem PySem.Spec PyProof.Rows
end L2
namespace M
open PySem PySem.Spec L2
noncomputable def adW(tb:List (List Nat×D)):List (Key×D):=tb.map λp=>(Sum.inr (strOf p.1),p.2)
structure aeZ(w:World)(K:PySem.W.Frag)(a:Addr)(tb:List (List Nat×D)):Prop where
 low:(a==sysModules)=false
 at_:∀P:Program,∃(kvs:List (Key×V)) (vs:List (Key×Value)) (ep:Nat),(∀μ H,aJ K μ H (adW tb) kvs)/\KV kvs vs/\∀h:Heap,K.In h->h.DictAt (bL P w) a vs ep
inductive Rws (K:PySem.W.Frag) (w:World):List DictEntry->List (List Nat×D)->Prop
 | nil:Rws K w [] []
 | i {h:Int} {x:Str} {t u:Tok} {cs:List Nat} {n:Int} {es:List DictEntry} {tb:List (List Nat×D)} (hx:x=strOf cs) (hh:h=abr w (.inr x)) (r:Rws K w es tb):Rws K w (⟨h,.str x t,.int n u⟩::es) ((cs,.int n)::tb)
section
variable  {X:Cx}{tg b:Expr}{mb:ME}{pos pos':Pos}{x:Str}{tb:List (List Nat×D)}
end
end M
namespace M
open PySem PySem.Spec PySem.SeqAt L2
noncomputable def uq:List D->ak->R D
 | [.loc n],st=>match st[n]? with | some (.dkc kvs)=>.ok 0x2 (st++[.dkc kvs]) | _=>.bad
 | _,_=>.bad
section
variable  {X:Cx}{L:Nat}
def zr9:cL X (.type "dict") (N_ X uq):=by
 rintro pins s σ H xs us Q I rv ⟨μ,st,ds,hs,hv,hp⟩;unfold uq at hp
 split at hp
 ·rename_i n
  split at hp
  ·rename_i kvs e;show 12;obtain⟨u,rfl,ru⟩:=rv.one;cases ru;obtain⟨p',ws,r1,r2,r3⟩:=hs.dkc e;show 7;refine Ms I (.inl r2) λl s' hn I'=>⟨.ref l,_,I',rfl,?_⟩;have g:=bj.new (μ:=μ) (o:=.dK ws) hn;have hr:ig X.K (μ++[l]) (upd H l (.dK ws)) l (.dkc kvs):=⟨ws,qQ,r3.mono g⟩;exact hp _ _ (μ++[l]) g (hs.new hn hr) (aq.aL.mpr ⟨l,by rw[<-hs.len];simp,rfl⟩)
  ·exact hp.elim
 ·exact hp.elim
end
end M
namespace M
open PySem PySem.Spec L2
section
variable  {X:Cx}{b:Expr}{mb:ME}{x:Str}{tb:List (List Nat×D)}{dU apos pos':Pos}
end
end M
namespace L2
open PySem PySem.Spec PyProof.Rows
section
variable  {prog:Program}{w:World}{A:Around}{E:Value->Shared->Prop}{s:Shared}{d:Addr}{o:Obj}{es:Array DictEntry}{ep:Nat}
def zng(hd:(d==sysModules)=false):MeetsIn prog w (Builtin.«dict.__len__» ⟨[.ref d],[]⟩) (λ_ R s=>∃o es ep,s.heap.get? d=some o/\o.data=.dict es ep/\R (.ok (.ret (.int es.size s.toks))) { s with toks:=s.toks+1 }) :=
 .of_wp λA R s zz=>by
  obtain⟨o,es,ep,ho,YW,h⟩:=zz;show wpAny _ _ (dictSize d >>= _) _ _ s;unfold dictSize;refine afm (afm (wpAny_dictEntries ho YW (afp ?_)));show wpAny _ _ (Builtin.Dict.pendingCount d >>= _) _ _ s;refine afm (wpAny_pendingCount_other hd ?_);refine wpAny_ret_mkInt ?_;simpa using h
def Q9(hd:(d==sysModules)=false)(ho:s.heap.get? d=some o)(hx:o.ExactDict)(YW:o.data=.dict es ep)(ae6:(es.size:Int)<2 ^ 63) 
  (h:Q (.int es.size (s.toks+1)) { s with toks:=s.toks+1+1 }):wpAny 0xb A (call (.builtin "len") [.ref d]) Q E s:=by
 have hT:s.TypeIs (.ref d) "dict":=⟨o,ho,hx.1⟩;refine Calls.call_function_entry PySem.kind_len PySem.plain_len PySem.entry_len (PySem.args_len1 _) ?_;unfold Builtin.«len»;refine afm (m:=oneArg "len" _) (afp ?_);refine afm (m:=callSpecial? (.ref d) (Str.ofString "__len__")) (afG (name:=Str.ofString "__len__") hT F.slot_dict_len
  (af5 F.slot_dict_len hT F.entry_dict_len (F.args_dict_len_1 _) (zng hd) ⟨o,es,ep,ho,YW,?_⟩))
 show wpAny _ _ _ _ _ { s with toks:=s.toks+1 };refine afm (afS (afp ?_));refine afm (wpAny_letGo ?_);show wpAny _ _ (if (es.size:Int)<0 then _ else _) _ _ _;rw[afo 0x0];show wpAny _ _ (if (es.size:Int) ≥ 2 ^ 63 then _ else _) _ _ _;rw[afo 0x0];exact afm (wpAny_mkInt (afp ⟨_,rfl,h⟩))
end
end L2
namespace M
open PySem PySem.Spec L2
section
variable  {K:PySem.W.Frag}{μ ν:List Addr}{H H':Hp}{st st':ak}
end
noncomputable def xG(f:Str)(d:D):List (Str×D)->List (Str×D)
 | []=>[(f,d)]
 | (g,x)::r=>if g=f then (g,d)::r else (g,x)::xG f d r
noncomputable def cH(c f:Str)(m:ME):ME:=λenv st=>(m env st).bind λd st1=>match d with
 | .loc n=>(match st1[n]? with
  | some (.ins c' fs)=>if c'=c then (match fs.lookup f with | some x=>.ok x st1 | none=>.bad) else .bad
  | _=>.bad)
 | _=>.bad
noncomputable def cQ(c f:Str)(mo mv:ME):MS:=λenv st=>(mv env st).bind λd st1=>(mo env st1).bind λx st2=>match x with
 | .loc n=>(match st2[n]? with
  | some (.ins c' fs)=>if c'=c/\fs.length<1000 then .ok (.nx env) (st2.set n (.ins c (xG f d fs))) else .bad
  | _=>.bad)
 | _=>.bad
noncomputable def jO(c:Str)(F:FD)(mA:MA):ME:=λenv st=>(mA env st).bind λas st1=>((F (.loc st1.length::as) (st1++[.ins c []])).sure).bind λd st2=>match d with
 | .non=>.ok (.loc st1.length) st2
 | _=>.bad
noncomputable def CG(c m:Str)(F:FD)(mo:ME)(mA:MA):ME:=λenv st=>(mo env st).bind λx st1=>match x with
 | .loc n=>(match st1[n]? with
  | some (.ins c' fs)=>if c'=c/\fs.lookup m=none then (mA env st1).bind λas st2=>(match st2[n]? with
   | some (.ins _ _)=>(F (.loc n::as) st2).sure
   | _=>.bad) else .bad
  | _=>.bad)
 | _=>.bad
noncomputable def cR:List D->ak->R D
 | [.loc n],st=>(match st[n]? with
  | some (.dic kvs)=>.ok (.int kvs.length) st
  | some (.dkc kvs)=>.ok (.int kvs.length) st
  | _=>wZ [.loc n] st)
 | ds,st=>wZ ds st
section
variable  {X:Cx}{K:PySem.W.Frag}{μ:List Addr}{H:Hp}{e o a b value:Expr}{es:List Expr}{me mo mv ma mb:ME}{mA:MA}{pos pos' apos p:Pos}{c f m x:Str}{C g:Addr}{F:FD}{fd:FuncData}{ps:List Str}{k:Nat}
theorem aJ.look:∀{fs:List (Str×D)} {ws:List (Str×V)},aJ K μ H fs ws->(fs.lookup f=none/\ws.lookup f=none)\/∃d v,fs.lookup f=some d/\ws.lookup f=some v/\aq K μ H d v
 | [],ws,h=>by rw[aJ]at h;subst h;exact .inl ⟨rfl,rfl⟩
 | (j,d)::r,ws,h=>by
  obtain⟨v,r',rfl,h1,h2⟩:=h;by_cases q:f=j
  ·subst q;exact .inr ⟨d,v,by simp[List.lookup],by simp[List.lookup],h1⟩
  ·have q':(f==j)=false:=by simpa using q
   simp only[List.lookup,q'];exact aJ.look h2
theorem aJ.iy(hv:aq K μ H d v):∀{fs:List (Str×D)} {ws:List (Str×V)},aJ K μ H fs ws->aJ K μ H (xG f d fs) (L2.iy f v ws)
 | [],ws,h=>by rw[aJ]at h;subst h;exact⟨v,[],rfl,hv,rfl⟩
 | (j,d')::r,ws,h=>by
  obtain⟨v',r',rfl,h1,h2⟩:=h;unfold xG L2.iy;by_cases q:j=f
  ·rw[afn q,afn q];exact⟨v,r',rfl,hv,h2⟩
  ·rw[afo q,afo q];exact⟨v',_,rfl,h1,aJ.iy hv h2⟩
def Yi(h0:PySem.W.nsIn X.K mainGlobals c=some #[9,C])(hc:DQ X.K C)(hn:jc X.K C f)(he:JE X e me)(hb:attributeBase e f X.env (eval e X.env)=eval e X.env:=by rfl):JE X (.Attribute e f pos) (cH c f me):=by
 refine JE.of (WX he hb) fun σ H Q zz=>?_;show 1;show 3;rintro v H1 ⟨μ1,st1,d,g1,bJ,hx,aQ⟩;dsimp only at aQ
 split at aQ
 ·rename_i n
  split at aQ
  ·rename_i c' fs e1
   split at aQ
   ·rename_i ec;subst ec;obtain⟨p,q1,rfl⟩:=aq.aL.mp hx;obtain⟨p',r1,C',dx,ws,r2,r3,r4⟩:=bJ.at_ n _ e1;show 7;rw[h0]at r2;cases r2;rcases r4.look (f:=f) with⟨z1,z2⟩ | ⟨d',v',z1,z2,z3⟩
    ·rw[z1]at aQ;exact aQ.elim
    ·rw[z1]at aQ;exact⟨p,C,dx,ws,v',rfl,r3,hc,hn,z2,aQ.ret bJ z3⟩
   ·exact aQ.elim
  ·exact aQ.elim
 ·exact aQ.elim
def Ax(h0:PySem.W.nsIn X.K mainGlobals c=some #[9,C])(hc:DQ X.K C)(hn:jc X.K C f)(ho:JE X o mo)(hv:JE X value mv)(hs:swapsWith value (some (.Attribute o f pos')) pos.line X.env=pure false:=by rfl) :
  JS X (.Assign [.Attribute o f pos'] value pos) (cQ c f mo mv):=by
 refine JS.of (Ws ho hv hs) λE σ H zz=>?_;show 1;refine⟨μ,env,st,hE,hs,hp.val.imp ?_⟩;rintro y H1 ⟨μ1,st1,d,g1,bJ,hy,aQ⟩;refine⟨μ1,env,st1,hE.mono g1,bJ,aQ.val.imp ?_⟩;rintro z H2 ⟨μ2,st2,d2,g2,iQ,hz,d_⟩
 try dsimp only at d_
 split at d_
 ·rename_i n
  split at d_
  ·rename_i c' fs e1
   split at d_
   ·rename_i ec;obtain⟨ec,hl⟩:=ec;subst ec;obtain⟨p,q1,rfl⟩:=aq.aL.mp hz;obtain⟨p',r1,C',dx,ws,r2,r3,r4⟩:=iQ.at_ n _ e1;show 7;rw[h0]at r2;cases r2;have hll:ws.length<1000:=by rw[<-r4.len];exact hl
    have gg:Ext H2 (upd H2 p (.ins C dx (L2.iy f y ws))):=Ext.mut r3 0x17 (λ_ _ z=>nomatch z);have g':bj μ2 H2 μ2 (upd H2 p (.ins C dx (L2.iy f y ws))):=⟨⟨[],by simp⟩,gg⟩;refine⟨p,C,dx,ws,rfl,r3,hc,hn,hll,d_ σ _ μ2 g' (iQ.put e1 rfl rfl q1 gg ⟨C,dx,_,h0,qQ,(r4.iy (hy.mono g2 _)).mono g'⟩) (((hE.mono g1).mono g2).mono g')⟩
   ·exact d_.elim
  ·exact d_.elim
 ·exact d_.elim
def zsm(h0:PySem.W.nsIn X.K mainGlobals c=some #[9,C])(MK:Mk X.K C g)(G:cD X.prog X.w X.K X.mg X.base qy k g fd ps (vz X.K ps.length F))(hr:cV (k+1) X.A)(hm:X.mg c=some (.ref C))(hb:Binds X.K fd ps [])(ha:JA X (e::es) mA)
  (hlen:(e::es).length+1=ps.length:=by rfl) (hg:Gl X c:=by rfl) (rQ:(c==("__debug__":Str))=false:=by decide) (he:starEach (e::es) X.env=0xd::starEach es X.env:=by rfl) (p_:#[13,pos,es].any (·.1)=false:=by rfl)
  (hA:∀env st as st1,mA env st=.ok as st1->as.length=(e::es).length:=by intros;rfl):JE X (.Call (.Name c p) (e::es) [] pos) (jO c F mA):=by
 refine JE.of (QB MK G hr hg hm hb .nil Cm ha rQ he p_) fun σ H Q zz=>?_;show 1;refine⟨μ,env,st,hE,hs,?_⟩;cases hq:mA env st with
 | bad=>unfold jO at hp;rw[hq]at hp;exact hp
 | err y st1=>unfold jO at hp;rw[hq]at hp;exact hp
 | ok as st1 =>
  unfold jO at hp;rw[hq]at hp;intro vs H1 μ1 g1 bJ hv x dx hx hdx qb;have RN:upd H1 dx (.own x) x=none:=by rw[iT (afy qb)];exact hx
  have ext1:Ext H1 (upd H1 dx (.own x)):=Ext.new hdx;have gd:bj μ1 H1 μ1 (upd H1 dx (.own x)):=⟨⟨[],by simp⟩,ext1⟩;have iQ:aX X.K μ1 (upd H1 dx (.own x)) st1:=bJ.lay hdx;have YF:ig X.K (μ1++[x]) (upd (upd H1 dx (.own x)) x (.ins C dx [])) x (.ins c []):=⟨C,dx,[],h0,qQ,rfl⟩;have zE:=iQ.new RN YF;have gn:bj μ1 (upd H1 dx (.own x)) (μ1++[x]) (upd (upd H1 dx (.own x)) x (.ins C dx [])):=bj.new RN;have hv3:ao X.K (μ1++[x]) (upd (upd H1 dx (.own x)) x (.ins C dx [])) (.loc st1.length::as) (.ref x::vs):=ao.cons (aq.aL.mpr ⟨x,by rw[<-bJ.len];simp,rfl⟩) ((hv.mono gd _).mono gn _);have Gp:(V.ref x::(vs++[])).length=ps.length:=by
   have:=hA env st as st1 hq;have:=hv.length;simp only[gr,g8]at *;omega
  rw[gr]at Gp ⊢;refine⟨Gp,μ1++[x],.loc st1.length::as,st1++[.ins c []],hv3,zE,?_⟩;cases hF:F (.loc st1.length::as) (st1++[.ins c []]) with
  | bad=>rw[R.aB,hF]at hp;exact hp.elim
  | err y st2=>rw[R.aB,hF]at hp;exact hp.elim
  | ok d st2 =>
   rw[R.aB,hF]at hp;intro v H' μ' g' lH hvd;have aen:bj μ H μ' H':=(g1.trans gd).trans (gn.trans g');cases d with
   | non =>
    refine⟨aq.bK.mp hvd,hp (.ref x) H' μ' aen lH (aq.aL.mpr ⟨x,g'.get (by rw[<-bJ.len];simp),rfl⟩)⟩
   | _=>exact hp.elim
def KJ{pl:Sem Bool}(h0:PySem.W.nsIn X.K mainGlobals c=some #[9,C])(hc:DQ X.K C)(hm:Meth X.K C m g)(G:cD X.prog X.w X.K X.mg X.base qy k g fd ps (vz X.K ps.length F))(hr:cV k X.A)(hb:Binds X.K fd ps [])(ho:JE X o mo)(ha:JA X (e::es) mA)
  (hlen:(e::es).length+1=ps.length:=by rfl) (Gk:starEach (e::es) X.env=0xd::starEach es X.env:=by rfl) (p_:#[13,pos,es].any (·.1)=false:=by rfl)
  (ht:eval (.Call (.Attribute o m apos) (e::es) [] pos) X.env=(do
   let ov <-eval o X.env
   standAt apos.atName
   let (f,first) <-holding [ov] (getMethod ov m pl)
   callWith pos f first (backTo pos (starEach (e::es) X.env)) #[28,pos]):=by rfl)
  (hA:∀env st as st1,mA env st=.ok as st1->as.length=(e::es).length:=by intros;rfl):JE X (.Call (.Attribute o m apos) (e::es) [] pos) (CG c m F mo mA):=by
 refine JE.of (Qz ho hc hm G hr hb .nil Cm ha Gk p_ ht) fun σ H Q zz=>?_;show 1;show 3;rintro v H1 ⟨μ1,st1,d,g1,bJ,hx,aQ⟩;dsimp only at aQ
 split at aQ
 ·rename_i n
  split at aQ
  ·rename_i c' fs e1
   split at aQ
   ·rename_i ec;obtain⟨ec,hl⟩:=ec;subst ec;obtain⟨p,q1,rfl⟩:=aq.aL.mp hx;obtain⟨p',r1,C',dx,ws,r2,r3,r4⟩:=bJ.at_ n _ e1;show 7;rw[h0]at r2;cases r2;have Gp:ws.lookup m=none:=by
     rcases r4.look (f:=m) with⟨_,z2⟩ | ⟨d',v',z1,_,_⟩
     ·exact z2
     ·rw[hl]at z1;cases z1
    refine⟨p,dx,ws,rfl,r3,Gp,μ1,env,st1,hE.mono g1,bJ,?_⟩;cases hq:mA env st1 with
    | bad=>rw[hq]at aQ;exact aQ
    | err y st2=>rw[hq]at aQ;exact aQ
    | ok as st2 =>
     rw[hq,R.aB]at aQ;intro vs H2 μ2 g2 iQ hv
     split at aQ
     ·rename_i c2 fs2 e2;have hv3:ao X.K μ2 H2 (.loc n::as) (.ref p::vs):=ao.cons (aq.aL.mpr ⟨p,g2.get q1,rfl⟩) hv;have hll:(V.ref p::(vs++[])).length=ps.length:=by
       have:=hA env st1 as st2 hq;have:=hv.length;simp only[gr,g8]at *;omega
      rw[gr]at hll ⊢;refine⟨hll,μ2,.loc n::as,st2,hv3,iQ,?_⟩;cases hF:F (.loc n::as) st2 with
      | bad=>rw[hF]at aQ;exact aQ.elim
      | err y iu=>rw[hF]at aQ;exact aQ.elim
      | ok d iu =>
       rw[hF]at aQ;intro v H' μ' g' lH hvd;exact aQ v H' μ' (g2.trans g') lH hvd
     ·exact aQ.elim
   ·exact aQ.elim
  ·exact aQ.elim
 ·exact aQ.elim
def GX:cL X (.builtin "len") (N_ X cR):=by
 rintro pins s σ H xs us Q I rv ⟨μ,st,ds,hs,hv,hp⟩;unfold cR at hp
 split at hp
 ·rename_i n
  split at hp
  ·rename_i kvs e1;show 12;obtain⟨u,rfl,ru⟩:=rv.one;cases ru;obtain⟨p',ws,r1,r2,r3⟩:=hs.dic e1;show 7;obtain⟨z,y,xs,r,o,es,ep,h1,h2,h3,h4,h5⟩:=(show cB X.prog X.w H s.heap p (.dT ws) from I.bO p _ r2);have hl:es.size=kvs.length:=by
    rw[r3.len,afH r,<-nO,h4,gm]
   refine Q9 y h1 h2 h3 (by rw[hl,r3.len];rw[af0]at z;omega) ?_;rw[hl];exact⟨.int kvs.length,H,I.tok _,⟨_,rfl⟩,hp.ret hs (aq.aN.mpr rfl)⟩
  ·rename_i kvs e1;show 12;obtain⟨u,rfl,ru⟩:=rv.one;cases ru;obtain⟨p',ws,r1,r2,r3⟩:=hs.dkc e1;show 7;refine ab3 I (.inl r2) λt s' I'=>?_;rw[<-r3.len];exact⟨.int kvs.length,H,I',⟨_,rfl⟩,hp.ret hs (aq.aN.mpr rfl)⟩
  ·exact zqo pins s σ H xs us Q I rv ⟨μ,st,_,hs,hv,hp⟩
 ·exact zqo pins s σ H xs us Q I rv ⟨μ,st,_,hs,hv,hp⟩
end
end M
namespace M
open PySem
noncomputable def yF:Stmt->List Stmt
 | .ClassDef _ _ _ body _ _ _ _ _ _ _=>body
 | _=>[]
end M
namespace L2
open PySem PySem.Spec PyProof.Rows
def GQ(hc:X.A.handled=none):cL X (.builtin "sum") (λxs H Q=>∃(p:Addr) (ns:List Int),xs=[.ref p]/\oV X.K H p (ns.map V.int)/\Q (.int ns.sum) H):=by
 rintro pins s σ H xs us Q I hr ⟨p,ns,rfl,hq,h⟩;cases hr with
 | cons r1 r2 =>
  cases r2;cases r1;obtain⟨its,rv,pl,hz⟩:=I.tuple hq;have hi:IntsAre its ns:=by
   have key:∀(ns:List Int) (its:List Value),Vals (ns.map V.int) its->IntsAre its ns:=by
    intro ns
    induction ns with
    | nil=>intro its h;cases h;exact .nil
    | cons n ns ih =>
     intro its h;cases h with
     | cons r1 r2 =>
      obtain⟨t,rfl⟩:=r1;exact .cons n t (ih _ r2)
   exact key ns its rv
  obtain⟨m,hm,_⟩:=id I.loc;have hl:s.heap.IsTuple p its.toArray:=pl;obtain⟨xs,hx⟩:=hi.allInts.items;have hn:numsOf its.toArray.toList=ns:=by rw[show its.toArray.toList=its from rfl,hi.numsOf]
  rw[hx]at hl hn;rw[nums_intItems]at hn;refine PySem.W.ktm_sumG hc hl λh' tk t' hk=>?_;rw[preSum_eq,pN 0x1,hn];refine⟨.int ns.sum,H,I.but (λb ob hb e=>hk b ob e) (λm' Oh=>?_),⟨t',rfl⟩,h⟩;exact ((Att.Lw Oh).keeps hk).ns
end L2
namespace M
open PySem PySem.Spec L2
noncomputable def wM:List D->ak->R D
 | [.tup ds],st=>match intsOf ds with | some ns=>.ok (.int ns.sum) st | none=>.bad
 | ds,st=>H_ ds st
def GK(hc:X.A.handled=none):cL X (.builtin "sum") (N_ X wM):=by
 rintro pins s σ H xs us Q I rv ⟨μ,st,ds,hs,hv,hp⟩;unfold wM at hp
 split at hp
 ·rename_i l;cases e2:intsOf l with
  | none=>simp only[e2]at hp;exact hp.elim
  | some ns =>
   simp only[e2]at hp;obtain⟨v,rfl,q⟩:=ao.one hv;obtain⟨p,ys,rfl,r2,r3⟩:=aq.aU.mp q;rw[zla e2 r3]at r2;exact GQ hc _ _ _ _ _ _ _ I rv ⟨p,ns,rfl,r2.rC,hp.ret hs (aq.aN.mpr rfl)⟩
 ·exact GP hc _ _ _ _ _ _ _ I rv ⟨μ,st,_,hs,hv,hp⟩
end M
namespace L2
open PySem PySem.Spec PyProof.Rows
section
variable  {P:Program}{w:World}{A:Around}{E:Value->Shared->Prop}{s:Shared}{d it:Addr}{od:Obj}{es:Array DictEntry}{i ep:Nat}
end
end L2
namespace M
open PySem PySem.Spec L2
section
variable  {X:Cx}{tg l a b:Expr}{ml ma mb:ME}{μ:List Addr}{H:Hp}{K:PySem.W.Frag}{st:ak}{pos:Pos}
end
def R1{N P:List Str}{sc:Scope}(h1:sc.kind=.function:=by rfl)(h2:sc.isCoroutine=false:=by rfl)(h3:sc.isGenerator=false:=by rfl)(h4:N.Nodup:=by decide +kernel)(h5:N.take P.length=P:=by rfl)(h6:∀x∈P,sc.names.lookup x=some .local\/sc.names.lookup x=some .cell:=by decide +kernel)(h7:∀y∈sc.names,y.2≠.free:=by decide +kernel):cX N P sc:=⟨h1,h2,h3,h4,h5,h6,h7⟩
section
variable  {X:Cx}
def abz{k k':Nat}{f:Addr}{fd:FuncData}{ps:List Str}{F:FD}{x:Str}{e:Expr}{es:List Expr}{mA:MA}{p pos:Pos}(G:cD X.prog X.w X.K X.mg X.base qy k f fd ps (vz X.K ps.length F))(hr:cV k' X.A)(hm:X.mg x=some (.ref f))(hk:PySem.W.keepIn X.K (.ref f)=true)(hb:Binds X.K fd ps [])(ha:JA X (e::es) mA)
  (hA:∀env st as st1,mA env st=.ok as st1->as.length=(e::es).length) (YL:k<=k':=by decide) (hlen:(e::es).length+([]:List V).length=ps.length:=by rfl) (hg:Gl X x:=by rfl) (rQ:0xf=false:=by decide) (he:starEach (e::es) X.env=0xd::starEach es X.env:=by rfl) (p_:#[13,pos,es].any (·.1)=false:=by rfl) :
  JE X 0x1a (az F [] mA):=Rq (G.mono YL) hr hm hk hb .nil (λ_ _=>ao.nil) ha hlen hg rQ he p_ hA
def Az{o e:Expr}{mo:ME}{mA:MA}{apos dU:Pos}(ho:JE X o mo)(ha:JA X [e] mA)(rR:attributeBase o "append" X.env (eval o X.env)=eval o X.env:=by rfl)
  (zF:(#[13,dU,[e]].all (λx=>!x.1) && #[28,dU].all (λx=>x.1.isSome)
   && decide ([e].length+([]:List Keyword).length+0x2e<30))=true:=by rfl)
  (hline:(apos.endLine==dU.line)=true:=by rfl) (hs:starEach [e] X.env=0xd::starEach [] X.env:=by rfl) (vU:#[13,dU,[]].any (·.1)=false:=by rfl):JE X (.Call (.Attribute o "append" apos) [e] [] dU) (cz "list" aR mo mA) :=
 Ov afO PySem.F.slot_list_append PySem.F.type_list_append zse ho ha rR zF hline hs vU
end
end M
namespace L2
open PySem PySem.Spec PyProof.Rows
namespace Rv
def owner:Manifest.owners.lookup (String.ofList ['d','e','s','r','e','v','e','r'].reverse)=some Manifest.sig_reversed:=by kernel_rfl
def Ew:Slot "reversed" "__init__" "object.__init__" :=
 .of (owner:="object") (n:="__init__") (by rw[afZ,afL];kernel_rfl) 0x8 0x8 0x8
  (by first | exact .inl 0x8 | exact .inr 0x8) (by rw[af6];kernel_rfl)
def slot_next:Slot "reversed" "__next__" "reversed.__next__" :=
 .of (owner:="reversed") (n:="__next__") (by rw[afZ,afL];kernel_rfl) 0x8 0x8 0x8
  (by first | exact .inl 0x8 | exact .inr 0x8) (by rw[af6];kernel_rfl)
def zo9:Slot "reversed" "__iter__" "reversed.__iter__" :=
 .of (owner:="reversed") (n:="__iter__") (by rw[afZ,afL];kernel_rfl) 0x8 0x8 0x8
  (by first | exact .inl 0x8 | exact .inr 0x8) (by rw[af6];kernel_rfl)
def entry_next:entryFor table "reversed.__next__" = some Builtin.«reversed.__next__»:=entryFor_of_tree (by kernel_rfl)
def zrw:entryFor table "reversed.__iter__" = some Builtin.«dict_keyiterator.__iter__» :=
 entryFor_alias (id':="dict_keyiterator.__iter__") (by kernel_rfl) (by first | rfl | decide +kernel | (unfold String.splitOn;simp +decide [String.splitOnAux])) 0x8 (by kernel_rfl)
def args_next(a:Value):argsOk "reversed.__next__" ⟨[a],[]⟩:=by
 unfold argsOk;rw[signature?_of (id:="reversed.__next__") (n:=['_','_','t','x','e','n','_','_']) (o:=['d','e','s','r','e','v','e','r']) (by kernel_rfl) owner];kernel_rfl
def G_(a:Value):argsOk "reversed.__iter__" ⟨[a],[]⟩:=by
 unfold argsOk;rw[signature?_of (id:="reversed.__iter__") (n:=['_','_','r','e','t','i','_','_']) (o:=['d','e','s','r','e','v','e','r']) (by kernel_rfl) owner];kernel_rfl
def called:TypeCalled "reversed" "reversed.__new__" "object.__init__" :=
 ⟨by decide +kernel,by decide +kernel,⟨_,_,F.mro_reversed⟩,F.made_reversed,by decide +kernel,by rw[af6];kernel_rfl,Ew⟩
def Es:typeLookup (.type "str") "__reversed__" = pure none:=by rw[afZ,afL];kernel_rfl
def Eo:typeLookup (.type "tuple") "__reversed__" = pure none:=by rw[afZ,afL];kernel_rfl
def ztx:isSubtype (.type "tuple") (.type "dict")=pure false:=by rw[af6];kernel_rfl
noncomputable def ob(q:Value)(i:Int):Obj:={ cls:=.type "reversed",data:=.fields #[q,rawInt i] }
def At(h:Heap)(a:Addr)(q:Value)(i:Int):Prop:=∃o,h.get? a=some o/\o.cls=.type "reversed"/\o.data=.fields #[q,rawInt i]
def At.typeIs{s:Shared}{a:Addr}{q:Value}{i:Int}(x:At s.heap a q i):s.TypeIs (.ref a) "reversed":=let ⟨o,ho,hc,_⟩:=x;⟨o,ho,hc⟩
section
variable  {prog:Program}{w:World}{A:Around}{E:Value->Shared->Prop}{s:Shared}
def Q6(x:Str)(t:Tok)(hx:x.length<=sizeLine):MeetsIn prog w (Builtin.«reversed.__new__» ⟨[.type "reversed",.str x t],[]⟩)
  (λA R s=>R (.ok (.ret 0x1b)) { s with toks:=s.toks+2,heap:=s.heap.push (ob (.str x t) ((x.length:Int) - 1)) }) :=
 .of_wp λA R s h=>by
  have hn:=iz;unfold Builtin.«reversed.__new__»;refine afm (afF (newClass_reversed _) ?_)
  try dsimp only
  refine afm (afF (a:=()) (by first | rfl | kernel_rfl) ?_);refine afm (afF (a:=()) (by first | rfl | kernel_rfl) ?_)
  try dsimp only
  refine afm (afY (T:="str") (afX s x t) Es ?_)
  try dsimp only
  refine afm (afp ?_);rw[afo 0x5];refine afm (P.len_str 0x0 ?_);refine afm (afF (a:=some (x.length:Int)) rfl ?_);show wpAny _ _ (newObj (.type "reversed") (.fields #[.str x t,rawInt ((x.length:Int) - 1)]) >>= _) _ _ _;refine afm (afE ?_ (by size_fits));exact afp ⟨_,rfl,h⟩
def Q5(a:Addr)(items:Array Value):MeetsIn prog w (Builtin.«reversed.__new__» ⟨[.type "reversed",.ref a],[]⟩)
  (λA R s=>IsTup s.heap a items/\items.size<=sizeLine/\R (.ok (.ret 0x1b)) { s with toks:=s.toks+2,heap:=s.heap.push (ob (.ref a) ((items.size:Int) - 1)) }) :=
 .of_wp λA R s zz=>by
  obtain⟨ht,hx,h⟩:=zz;have hn:=iz;unfold Builtin.«reversed.__new__»;refine afm (afF (newClass_reversed _) ?_)
  try dsimp only
  refine afm (afF (a:=()) (by first | rfl | kernel_rfl) ?_);refine afm (afF (a:=()) (by first | rfl | kernel_rfl) ?_)
  try dsimp only
  refine afm (afY (T:="tuple") ht.typeIs Eo ?_)
  try dsimp only
  refine afm ?_;show wpAny _ _ (isInstance (.ref a) (.type "dict") >>= _) _ _ _;refine afm (wpAny_isInstance ht.typeIs ztx ?_);show wpAny _ _ (specialOf (.ref a) "__getitem__" >>= _) _ _ _;refine afm (afY ht.typeIs slot_tuple_getitem.lookup ?_);refine afp ?_;rw[afo 0x5];refine afm (len_tuple ht 0x0 ?_);refine afm (afF (a:=some (items.size:Int)) rfl ?_);show wpAny _ _ (newObj (.type "reversed") (.fields #[.ref a,rawInt ((items.size:Int) - 1)]) >>= _) _ _ _;refine afm (afE ?_ (by size_fits));exact afp ⟨_,rfl,h⟩
def M5{x:Str}{t:Tok}{Q:Value->Shared->Prop}(hx:x.length<=sizeLine)(h:Q 0x1b { s with toks:=s.toks+2,heap:=s.heap.push (ob (.str x t) ((x.length:Int) - 1)) }) :
  wpAny 0xb A (call (.type "reversed") [.str x t]) Q E s :=
 callType_newIn called 0x5 (F.typeCall_reversed_1 _) (F.newCall_reversed_1 _) (λobj=>F.args_object_init_2 obj _) F.entry_reversed_new (Q6 x t hx) ⟨⟨_,gZ _ rfl,rfl⟩,h⟩
def M4{a:Addr}{items:Array Value}{Q:Value->Shared->Prop}(ht:IsTup s.heap a items)(hx:items.size<=sizeLine)(h:Q 0x1b { s with toks:=s.toks+2,heap:=s.heap.push (ob (.ref a) ((items.size:Int) - 1)) }) :
  wpAny 0xb A (call (.type "reversed") [.ref a]) Q E s :=
 callType_newIn called 0x5 (F.typeCall_reversed_1 _) (F.newCall_reversed_1 _) (λobj=>F.args_object_init_2 obj _) F.entry_reversed_new (Q5 a items) ⟨ht,hx,⟨_,gZ _ rfl,rfl⟩,h⟩
def next_item{it:Addr}{q u:Value}{T gid:String}{i:Nat}{k:Tok}{Q:Option Value->Shared->Prop}(hit:At s.heap it q (i:Int))(hT:s.TypeIs q T)(sl:Slot T "__getitem__" gid)
  (get:∀(A':Around) (Q':Value->Shared->Prop) (E':Value->Shared->Prop),Q' u { s with toks:=s.toks+1+k }->wpAny 0xb A' (getItem q (.int i s.toks)) Q' E' { s with toks:=s.toks+1 })
  (hQ:∀h',At h' it q ((i:Int) - 1)->Heap.SameBut it s.heap h'->Q (some u) { s with toks:=s.toks+1+k,heap:=h' }):wpAny 0xb A (pyNext (.ref it)) Q E s:=by
 show 15
 try dsimp only
 refine afm (afU ho hd (x:=q) rfl ?_);refine afm (afU ho hd (x:=rawInt (i:Int)) rfl ?_);show wpAny _ _ (if (i:Int)<0 then _ else _) _ _ s;rw[afo 0x0];refine afm (afY hT sl.lookup ?_);rw[afo 0x1];refine afm (wpAny_mkInt ?_);refine afm (wpAny_attempt (get _ _ _ ?_));dsimp only;refine afm (afU (s:={ s with toks:=s.toks+1+k }) ho hd (x:=rawInt (i:Int)) rfl ?_);show wpAny _ _ (setField (.ref it) 1 (rawInt ((i:Int) - 1)) >>= _) _ _ _;refine afm (wpAny_setField (s:={ s with toks:=s.toks+1+k }) ho hd 0x1 ?_);refine afp ⟨_,rfl,afp (hQ _ ?_ (af2 ..))⟩;exact⟨_,pA _ ho (Obj.isFreed_of_fields (Obj.data_mapFields hd _)),(Obj.cls_mapFields ..).trans hc,by rw[Obj.data_mapFields hd];simp⟩
def next_end{it:Addr}{q:Value}{Q:Option Value->Shared->Prop}(hh:A.handled=none)(hit:At s.heap it q (-1))(hQ:∀h',Heap.ExtBut it s.heap h'->Q none { s with heap:=h' }):wpAny 0xb A (pyNext (.ref it)) Q E s:=by
 show 15
 try dsimp only
 refine afm (afU ho hd (x:=q) rfl ?_);refine afm (afU ho hd (x:=rawInt (-1)) rfl ?_);show wpAny _ _ (if (-1:Int)<0 then _ else _) _ _ s;rw[afn 0x5];refine afm (wpAny_rule ?_);refine afm ?_;show wpAny _ _ (setField (.ref it) 1 (rawInt (-1)) >>= _) _ _ _;refine afm (wpAny_setField ho hd 0x1 ?_);have hd1:=Obj.data_mapFields hd (λvs=>vs.set! 1 (rawInt (-1)));have ho1:=pA (λo=>o.mapFields λvs=>vs.set! 1 (rawInt (-1))) ho (Obj.isFreed_of_fields hd1);refine wpAny_setField ho1 hd1 0x1 ?_;refine afm ?_;unfold Builtin.SmallTypes.stopIteration newExc newTuple raiseNew
 wp_walk
 refine afF isSubtype_stop ?_;rw[afn rfl];refine afp (hQ _ λb o hb e=>gC _ (gC _ ?_));exact (af2 ..).extBut b o hb ((af2 ..).extBut b o hb e)
def zih{it:Addr}{q:Value}{i:Int}{Q:Value->Shared->Prop}(hit:At s.heap it q i)(h:Q (.ref it) s):wpAny 0xb A (pyIter (.ref it)) Q E s:=by
 refine wpAny_pyIter_slot hit.typeIs zo9 (afV zo9 hit.typeIs zrw ?_ (G_ _));show wpAny _ _ (ret (.ref it)) _ _ s;exact afp ⟨_,rfl,"reversed",_,hit.typeIs,slot_next.lookup,h⟩
end
end Rv
end L2
namespace L2
open PySem PySem.Spec PyProof.Rows
noncomputable def Zq(x:Str):It :=
 ⟨λi _=>i<x.cps.size,λi H y H'=>H'=H/\∃c,x.cps[x.cps.size - 1 - i]? = some c/\y=.str ⟨#[c]⟩,λi _=>i=x.cps.size⟩
def El{P:Program}{w:World}{K:PySem.W.Frag}{tg:Expr}(x:Str)(t:Tok)(hx:x.cps.size<=sizeLine)(it:Addr):Turn P w K tg (Zq x) [it] it (λi h=>Rv.At h it (.str x t) ((x.cps.size:Int) - 1 - (i:Nat))) where
 mem:=gY.mpr rfl
 obj:=λi h st b hb=>by
  obtain rfl:=gY.mp hb;obtain⟨o,e,_,d⟩:=st;exact⟨o,e,λv z=>by rw[d]at z;cases z⟩
 keep:=λi h h' ⟨o,e,r⟩ k=>⟨o,k it (gY.mpr rfl) o e,r⟩
 item:=by
  show 2;have hi:i<x.cps.size:=hg;have hl:=iz;obtain⟨f0,f1,f2,f3,f4,f5⟩:=hf it (gY.mpr rfl);rw[show (x.cps.size:Int) - 1 - (i:Nat)=((x.cps.size - 1 - i:Nat):Int) by omega]at st;obtain⟨c,YX⟩:∃c,x.cps[x.cps.size - 1 - i]? = some c:=⟨_,pM 0x0⟩;refine Rv.next_item (k:=1) (u:=.str ⟨#[c]⟩ (s.toks+1)) (T:="str") st (afX s x t) PySem.F.slot_str_getitem (λA' Q' E' q=>P.getItem_str (c:=c) ?_ ?_ q) λh' st' sb=>?_
  ·have h1:¬ (((x.cps.size - 1 - i:Nat):Int) < -(2 ^ 63:Int)):=by omega
   have h2:¬ (((x.cps.size - 1 - i:Nat):Int) ≥ 2 ^ 63):=by omega
   rw[afq h1,afq h2];rfl
  ·have e:seqIndex? ((x.cps.size - 1 - i:Nat):Int) x.length=some (x.cps.size - 1 - i):=by
    unfold seqIndex?;have:x.length=x.cps.size:=rfl;simp only[this]
    split
    ·omega
    ·simp;omega
   rw[e];exact YX
  ·have I1:Inv X pins σ H { s with toks:=s.toks+1+1,heap:=h' }:=I.turned (t':=s.toks+1+1) (λb o hb e=>(sb.2 b hb).trans e) f0 f1 f3 f4 f5;obtain⟨o,e,c',d⟩:=id st';refine⟨_,rfl,ug (s:={ s with toks:=s.toks+1+1,heap:=h' }) e c' d 0x5 ⟨.str ⟨#[c]⟩,H,I1,⟨_,rfl⟩,⟨rfl,c,YX,rfl⟩,?_,λb hb=>(hf b hb).1⟩⟩;rw[show (x.cps.size:Int) - 1 - ((i+1:Nat))=((x.cps.size - 1 - i:Nat):Int) - 1 by omega];exact st'
 done:=by
  show 2;obtain rfl:i=x.cps.size:=hg;obtain⟨f0,f1,f2,f3,f4,f5⟩:=hf it (gY.mpr rfl);rw[show (x.cps.size:Int) - 1 - (x.cps.size:Nat)=-1 by omega]at st;exact Rv.next_end (I.ok.hd hc) st λh' eb=>⟨rfl,I.turned (t':=s.toks) (λb o hb e=>eb b o hb e) f0 f1 f3 f4 f5⟩
 self:=λ_ _ _ _ _ st h=>Rv.zih st h
noncomputable def abF(ta:TA):TI:=fun σ H R=>ta σ H λvs H1=>∃x,vs=[.str x]/\x.cps.size<=sizeLine/\R (Zq x) H1
def Qu{X:Cx}{tg a:Expr}{ta:TA}{p pos:Pos}(hg:Gl X "reversed")(hm:X.mg "reversed" = none)(ha:PA X [a] ta)(hs:starEach [a] X.env=[0x1c]:=by rfl) :
  PI X tg 0x2b (abF ta):=by
 show 13;obtain⟨x,rfl,hx,q⟩:=q1;obtain⟨u,rfl,t,rfl⟩:=vals1 r1;refine Rv.M5 hx ?_;have st:Rv.At (s1.heap.push (Rv.ob (.str x t) ((x.length:Int) - 1))) s1.heap.objs.size (.str x t) ((x.cps.size:Int) - 1 - ((0:Nat):Int)):=by
  refine⟨_,gZ _ rfl,rfl,?_⟩;rw[show (x.cps.size:Int) - 1 - ((0:Nat):Int)=(x.length:Int) - 1 by have:x.length=x.cps.size:=rfl;omega];rfl
 refine Rv.zih st ?_;refine⟨s1.heap.objs.size,[s1.heap.objs.size],_,_,H1,rfl,I1.kept (t':=s1.toks+2) λb o e=>gC _ e,El x t hx _,st,λb hb=>?_,q⟩;obtain rfl:=gY.mp hb;exact I1.v5 (gb _) (I1.bO.fresh (gb _))
noncomputable def Zo(K:PySem.W.Frag)(a:Addr)(n:Nat):It :=
 ⟨λi H=>∃xs x,oV K H a xs/\xs.length=n/\i<n/\xs[n - 1 - i]? = some x,λi H x H'=>H'=H/\∀xs,oV K H a xs->xs[n - 1 - i]? = some x,λi H=>(∃xs,oV K H a xs/\xs.length=n)/\i=n⟩
def Ek{P:Program}{w:World}{K:PySem.W.Frag}{tg:Expr}(a it:Addr)(n:Nat):Turn P w K tg (Zo K a n) [it] it (λi h=>Rv.At h it (.ref a) ((n:Int) - 1 - (i:Nat))) where
 mem:=gY.mpr rfl
 obj:=λi h st b hb=>by
  obtain rfl:=gY.mp hb;obtain⟨o,e,_,d⟩:=st;exact⟨o,e,λv z=>by rw[d]at z;cases z⟩
 keep:=λi h h' ⟨o,e,r⟩ k=>⟨o,k it (gY.mpr rfl) o e,r⟩
 item:=by
  show 2;obtain⟨xs,x,hq,hn,hi,hx⟩:=hg;obtain⟨its,rv,p,hz⟩:=I.tuple hq;obtain⟨u,hu,ru⟩:=rv.get hx;have hl:=iz;have hlen:=rv.length;obtain⟨f0,f1,f2,f3,f4,f5⟩:=hf it (gY.mpr rfl);rw[show (n:Int) - 1 - (i:Nat)=((n - 1 - i:Nat):Int) by omega]at st;refine Rv.next_item (k:=0) (u:=u) (T:="tuple") st p.typeIs slot_tuple_getitem (λA' Q' E' q=>getItem_tuple (s:={ s with toks:=s.toks+1 }) p 0x0 0x0 (j:=n - 1 - i) ?_ (by simpa using hu) q) λh' st' sb=>?_
  ·unfold seqIndex?
   split
   ·omega
   ·simp;omega
  ·have I1:Inv X pins σ H { s with toks:=s.toks+1+0,heap:=h' }:=I.turned (t':=s.toks+1+0) (λb o hb e=>(sb.2 b hb).trans e) f0 f1 f3 f4 f5;obtain⟨o,e,c',d⟩:=id st';refine⟨u,rfl,ug (s:={ s with toks:=s.toks+1+0,heap:=h' }) e c' d 0x5 ⟨x,H,I1,ru,⟨rfl,λys hy=>by rw[I.tD hy hq];exact hx⟩,?_,λb hb=>(hf b hb).1⟩⟩;rw[show (n:Int) - 1 - ((i+1:Nat))=((n - 1 - i:Nat):Int) - 1 by omega];exact st'
 done:=by
  show 2;obtain⟨_,rfl⟩:=hg;obtain⟨f0,f1,f2,f3,f4,f5⟩:=hf it (gY.mpr rfl);rw[show (i:Int) - 1 - (i:Nat)=-1 by omega]at st;exact Rv.next_end (I.ok.hd hc) st λh' eb=>⟨rfl,I.turned (t':=s.toks) (λb o hb e=>eb b o hb e) f0 f1 f3 f4 f5⟩
 self:=λ_ _ _ _ _ st h=>Rv.zih st h
noncomputable def abE(K:PySem.W.Frag)(ta:TA):TI:=fun σ H R=>ta σ H λvs H1=>∃a xs,vs=[.ref a]/\oV K H1 a xs/\R (Zo K a xs.length) H1
def Qt{X:Cx}{tg a:Expr}{ta:TA}{p pos:Pos}(hg:Gl X "reversed")(hm:X.mg "reversed" = none)(ha:PA X [a] ta)(hs:starEach [a] X.env=[0x1c]:=by rfl) :
  PI X tg 0x2b (abE X.K ta):=by
 show 13;obtain⟨l,xs,rfl,hq,q⟩:=q1;obtain⟨u,rfl,rx⟩:=vals1 r1;cases rx;obtain⟨its,rv,pl,hz⟩:=I1.tuple hq;have hlen:=rv.length;refine Rv.M4 pl (by simp only[gF];omega) ?_;have st:Rv.At (s1.heap.push (Rv.ob (.ref l) ((its.toArray.size:Int) - 1))) s1.heap.objs.size (.ref l) ((xs.length:Int) - 1 - ((0:Nat):Int)):=by
  refine⟨_,gZ _ rfl,rfl,?_⟩;rw[show (xs.length:Int) - 1 - ((0:Nat):Int)=(its.toArray.size:Int) - 1 by rw[gF];omega];rfl
 refine Rv.zih st ?_;refine⟨s1.heap.objs.size,[s1.heap.objs.size],_,_,H1,rfl,I1.kept (t':=s1.toks+2) λb o e=>gC _ e,Ek l _ xs.length,st,λb hb=>?_,q⟩;obtain rfl:=gY.mp hb;exact I1.v5 (gb _) (I1.bO.fresh (gb _))
end L2
namespace M
open PySem PySem.Spec L2
section
variable  {X:Cx}{a:Expr}{mA:MA}{μ:List Addr}{H:Hp}{p pos:Pos}
noncomputable def Cg(mA:MA):MI:=λenv st=>(mA env st).bind λds st1=>match ds with
 | [.str cs]=>if cs.length<=1000000 then .ok (cs.reverse.map λc=>D.str [c],[]) st1 else .bad
 | _=>.bad
noncomputable def Ir(mA:MA):MI:=λenv st=>(mA env st).bind λds st1=>match ds with
 | [.tup xs]=>.ok (xs.reverse,[]) st1
 | _=>.bad
@[simp] theorem acv(env:aK)(st:ak):Cg mA env st=(mA env st).bind λds st1=>match ds with
 | [.str cs]=>if cs.length<=1000000 then .ok (cs.reverse.map λc=>D.str [c],[]) st1 else .bad
 | _=>.bad:=eZ rfl
@[simp] theorem acu(env:aK)(st:ak):Ir mA env st=(mA env st).bind λds st1=>match ds with
 | [.tup xs]=>.ok (xs.reverse,[]) st1
 | _=>.bad:=eZ rfl
def K7(cs:List Nat):oO X μ H (Zq 0xa) (cs.reverse.map λc=>D.str [c],[]):=by
 intro H' μ' st' g hs ok;have hz:0xa.cps.size=cs.length:=by simp
 refine⟨λi d e=>?_,by show _=0xa.cps.size;rw[hz];simp⟩;have e:(cs.reverse.map λc=>D.str [c])[i]? = some d:=e;rw[gK]at e;obtain⟨c,e2,rfl⟩:=mO.mp e;have hi:i<cs.length:=by have:=(gf.mp e2).1;simpa using this
 rw[pB hi]at e2;refine⟨by show i<0xa.cps.size;omega,?_⟩;rintro x DN ⟨rfl,c',hc,rfl⟩;rw[hz]at hc;have h2:cs[cs.length - 1 - i]? = some c':=by simpa using hc
 rw[e2]at h2;cases h2;exact⟨.refl _ _,hs,aq.aP.mpr rfl⟩
def Rk{tg:Expr}(ha:JA X [a] mA)(hg:Gl X "reversed")(hm:X.mg "reversed" = none)(hs:starEach [a] X.env=[0x1c]:=by rfl):JI X tg 0x2b (Cg mA):=by
 refine JI.of (Qu hg hm ha hs) fun σ H R zz=>?_;show 1;show 3;rintro vs H1 ⟨μ1,st1,ds,g1,bJ,hv,aQ⟩;dsimp only at aQ
 split at aQ
 ·rename_i cs
  split at aQ
  ·rename_i hc;obtain⟨v,rfl,q1⟩:=ao.one hv;obtain rfl:=aq.aP.mp q1;refine⟨strOf cs,rfl,?_,aQ _ _ _ (.refl _ _) bJ (K7 cs)⟩;show cs.toArray.size<=sizeLine;rw[af0];simp;omega
  ·exact aQ.elim
 ·exact aQ.elim
def K6{ds:List D}{q:Addr}{xs:List V}(hq:oV X.K H q xs)(hd:ao X.K μ H ds xs):oO X μ H (Zo X.K q ds.length) (ds.reverse,[]):=by
 intro H' μ' st' g hs ok;have Gm:=g.ext.rC hq;have zG:=hd.mono g ds;refine⟨λi d e=>?_,⟨xs,Gm,hd.length.symm⟩,by simp⟩;have e:ds.reverse[i]? = some d:=e;have hi:i<ds.length:=by have:=(gf.mp e).1;simpa using this
 rw[pB hi]at e;obtain⟨v,h1,h2⟩:=zG.get e;refine⟨⟨xs,v,Gm,hd.length.symm,hi,h1⟩,?_⟩;rintro x DN ⟨rfl,hx⟩;have:=hx xs Gm;rw[h1]at this;cases this;exact⟨.refl _ _,hs,h2⟩
def Rj{tg:Expr}(ha:JA X [a] mA)(hg:Gl X "reversed")(hm:X.mg "reversed" = none)(hs:starEach [a] X.env=[0x1c]:=by rfl):JI X tg 0x2b (Ir mA):=by
 refine JI.of (Qt hg hm ha hs) fun σ H R zz=>?_;show 1;show 3;rintro vs H1 ⟨μ1,st1,ds,g1,bJ,hv,aQ⟩;dsimp only at aQ
 split at aQ
 ·rename_i xs;obtain⟨v,rfl,q1⟩:=ao.one hv;obtain⟨b,ys,rfl,q2,q3⟩:=aq.aU.mp q1;exact⟨b,ys,rfl,q2.rC,by rw[<-q3.length];exact aQ _ _ _ (.refl _ _) bJ (K6 q2.rC q3)⟩
 ·exact aQ.elim
end
end M
namespace L2
open PySem PySem.Spec PyProof.Rows
section
variable  {X:Cx}
def zq9:sV X "str.isalpha" (λx xs H Q=>∃z:Str,x=.str z/\xs=[]/\Q (.bl (Txt.isalpha z)) H):=by
 rintro pins s σ H x xs v us Q I rx E_ ⟨z,rfl,rfl,h⟩;obtain⟨t,rfl⟩:=rx;cases E_;exact SC.isalpha ⟨.bl (Txt.isalpha z),H,I,rfl,h⟩
def zs6:sV X "str.index" (λx xs H Q=>∃(z:Str) (y:Str) (i:Nat) (r:List Nat),x=.str z/\xs=[.str y]/\Builtin.Str.occurrences z y 0 z.length 1=i::r/\Q (.int i) H):=by
 rintro pins s σ H x xs v us Q I rx E_ ⟨z,y,i,r,rfl,rfl,ho,h⟩;obtain⟨t,rfl⟩:=rx;obtain⟨u,rfl,t',rfl⟩:=vals1 E_;exact SC.index ho ⟨.int i,H,I.tok _,⟨_,rfl⟩,h⟩
def zsq:sV X "list.index" (λx xs H Q=>∃(a:Addr) (ns:List Int) (k:Int) (j:Nat),x=.ref a/\xs=[.int k]/\oN X.K H a (ns.map V.int)/\ns.findIdx? (λz=>decide (z=k))=some j/\Q (.int j) H):=by
 rintro pins s σ H x xs v us Q I rx E_ ⟨a,ns,k,j,rfl,rfl,hq,hj,h⟩;cases rx;obtain⟨u,rfl,t,rfl⟩:=vals1 E_;obtain⟨its,rv,⟨⟨c0,d0,dt,sl⟩,n,e,hc,hd,hs⟩,hz⟩:=I.list hq;replace hc:c0=.type "list":=hc;replace hd:d0=none:=hd;replace hs:dt=.seq its.toArray n:=hs;subst hc hd hs;have hl:=iz;have hlen:=rv.length;rw[gm]at hlen hz;have at_:∀(m:Nat) (hm:m<its.length),∃t',its[m]=.int (ns[m]'0x0) t':=λm hm=>by
  obtain⟨u,hu,ru⟩:=rv.get (i:=m) (x:=.int (ns[m]'0x0)) (by rw[gK,gB 0x0];rfl);rw[gB hm]at hu;cases hu;exact ru
 obtain⟨hj1,hj2,hj3⟩:=pR.mp hj
 let f:Value->Bool:=PyProof.Rows.isInt k
 have fe:∀(m:Nat) (hm:m<its.length),f its[m]=decide (ns[m]'0x0=k):=λm hm=>by
  obtain⟨t',e'⟩:=at_ m hm;rw[e'];show PyProof.Rows.isInt k _=_;unfold PyProof.Rows.isInt;rw[m8];simp
 refine call_meets PySem.F.slot_list_index ⟨_,e,rfl⟩ PySem.F.entry_list_index (PySem.F.args_list_index_2 _ _)
  (PySem.SeqAt.list_indexAt a its.toArray n none sl (.int k t) f j 0x9 0x0 ?_ λm hm uT=>?_) ⟨e,λy hy=>?_,⟨.int j,H,I.tok _,⟨_,rfl⟩,h⟩⟩
 ·simp only[List.getElem_toArray];rw[fe j 0x0];exact hj2
 ·simp only[List.getElem_toArray];rw[fe m (by simpa using hm)];have:=hj3 m uT;simpa using this
 ·have Yx:y∈its:=by simpa using hy
  obtain⟨m,hm,rfl⟩:=nj.mp Yx;obtain⟨t',e'⟩:=at_ m hm;rw[e'];exact (PySem.MeetsSeq.EqGives.int _ k t' t).at _ _
end
end L2
namespace M
open PySem PySem.Spec L2
section
variable  {X:Cx}
noncomputable def t_(cs:List Nat):Bool:=!cs.isEmpty && cs.all PySem.Unicode.isAlpha
noncomputable def oE:D->List D->ak->R D
 | .str cs,[],st=>.ok (.bl (t_ cs)) st
 | _,_,_=>.bad
def zrl:sV X "str.isalpha" (Hk X oE):=by
 refine sV.weak zq9 ?_;rintro x xs H Q ⟨μ,st,d,ds,hs,hx,j7,hp⟩;unfold oE at hp
 split at hp
 ·rename_i cs;obtain rfl:=aq.aP.mp hx;cases j7;refine⟨strOf cs,rfl,rfl,?_⟩;have e:Txt.isalpha 0xa=t_ cs:=by
   unfold Txt.isalpha t_;cases cs<;>simp[Str.length,strOf]
  rw[e];exact hp.ret hs (aq.bu.mpr rfl)
 ·exact hp.elim
noncomputable def rE:D->List D->ak->R D
 | .str cs,[.str [c]],st=>match cs.findIdx? (λz=>decide (z=c)) with
  | some j=>.ok (.int j) st
  | none=>.bad
 | _,_,_=>.bad
theorem QX(cs:List Nat)(c:Nat):match cs.findIdx? (λz=>decide (z=c)) with
  | some j=>∃r,Builtin.Str.occurrences 0xa (strOf [c]) 0 0xa.length 1=j::r
  | none=>Builtin.Str.occurrences 0xa (strOf [c]) 0 0xa.length 1=[]:=by
 have key:∀i,PySem.StrLaws.At 0xa (strOf [c]) 0xa.length i↔cs[i]? = some c:=λi=>by
  have:=PySem.StrLaws.subAt_one 0xa c i;rw[show 0xa.cps.toList=cs by simp]at this;exact this
 rcases PySem.StrLaws.occ_head 0xa (strOf [c]) 1 (gb _) with⟨e,h⟩ | ⟨i,r,e,h1,h2⟩
 ·cases hj:cs.findIdx? (λz=>decide (z=c)) with
  | none=>exact e
  | some j =>
   obtain⟨q1,q2,_⟩:=pR.mp hj;exact absurd ((key j).mpr (by rw[gB q1];simpa using q2)) (h j)
 ·rw[key]at h1;obtain⟨hi,h1⟩:=gf.mp h1;have:cs.findIdx? (λz=>decide (z=c))=some i:=by
   rw[pR];refine⟨hi,by simpa using h1,λk hk=>?_⟩;have:=h2 k hk;rw[key,gB 0x0]at this;simpa using this
  rw[this];exact⟨r,e⟩
def zva:sV X "str.index" (Hk X rE):=by
 refine sV.weak zs6 ?_;rintro x xs H Q ⟨μ,st,d,ds,hs,hx,j7,hp⟩;unfold rE at hp
 split at hp
 ·rename_i cs c;obtain rfl:=aq.aP.mp hx;obtain⟨v,rfl,q⟩:=ao.one j7;obtain rfl:=aq.aP.mp q;have h:=QX cs c;cases e:cs.findIdx? (λz=>decide (z=c)) with
  | none=>rw[e]at hp;exact hp.elim
  | some j =>
   rw[e]at hp h;obtain⟨r,h⟩:=h;exact⟨_,_,j,r,rfl,rfl,h,hp.ret hs (aq.aN.mpr rfl)⟩
 ·exact hp.elim
noncomputable def oU:D->List D->ak->R D
 | .loc n,[.int k],st=>match aA st n with
  | some l=>(match intsOf l with
   | some ns=>(match ns.findIdx? (λz=>decide (z=k)) with
    | some j=>.ok (.int j) st
    | none=>.bad)
   | none=>.bad)
  | none=>.bad
 | _,_,_=>.bad
def ztp:sV X "list.index" (Hk X oU):=by
 refine sV.weak zsq ?_;rintro x xs H Q ⟨μ,st,d,ds,hs,hx,j7,hp⟩;unfold oU at hp
 split at hp
 ·rename_i n k;obtain⟨a,q1,rfl⟩:=aq.aL.mp hx;obtain⟨v,rfl,q⟩:=ao.one j7;obtain rfl:=aq.aN.mp q;cases e1:aA st n with
  | none=>rw[e1]at hp;exact hp.elim
  | some l =>
   rw[e1]at hp;dsimp only at hp;cases e2:intsOf l with
   | none=>rw[e2]at hp;exact hp.elim
   | some ns =>
    rw[e2]at hp;dsimp only at hp;cases e3:ns.findIdx? (λz=>decide (z=k)) with
    | none=>rw[e3]at hp;exact hp.elim
    | some j =>
     rw[e3]at hp;obtain⟨p',ys,r1,r2,r3⟩:=hs.items e1;show 7;rw[zla e2 r3]at r2;exact⟨a,ns,k,j,rfl,rfl,r2,e3,hp.ret hs (aq.aN.mpr rfl)⟩
 ·exact hp.elim
end
noncomputable def abR{α:Type}:List (Str×α)->Nat->List Str
 | (x,_)::l,n+1=>x::abR l n
 | _,_=>[]
noncomputable def Al(st:Stmt)(a:Nat):List Str:=abR (aD st).names a
abbrev Row:Type:=Str×Stmt×Nat
def Fn(K:PySem.W.Frag)(mg:Str->Option Value)(p:Row):Prop:=∃f fd,DP K p.1 p.1 p.2.1 f fd/\mg p.1=some (.ref f)/\Binds K fd (Al p.2.1 p.2.2) []
inductive Us (K:PySem.W.Frag):List Row->Prop
 | nil:Us K []
 | cons {n:Str} {st:Stmt} {a:Nat} {l:List Row} {f:Addr} {fd:FuncData} (h:PySem.W.nsIn K mainGlobals n=some #[9,f]) (F:DP K n n st f fd)
  (b:∀(kV doc pm:Value) (an:Option Addr) (cdv ct:Value) (us:List Value),us.length=(Al st a).length->bindArgs (PySem.W.fnOf n n (bZ st) (a_ st) (aD st) .none kV doc pm an cdv ct) ⟨us,[]⟩=pure ((Al st a).zip us)) (r:Us K l):Us K ((n,st,a)::l)
def Us.all{K:PySem.W.Frag}{h:Heap}{mg:Str->Option Value}(X:K.In h)(G:h.Ns mainGlobals mg){l:List Row}(u:Us K l):∀p∈l,Fn K mg p:=by
 induction u with
 | nil=>intro p hp;cases hp
 | cons a F b r ih =>
  intro p hp;rcases gj.mp hp with rfl | hp
  ·exact⟨_,_,F,aft X G a,F.binds b⟩
  ·exact ih p hp
inductive Zs (K:PySem.W.Frag):List Str->Prop
 | nil:Zs K []
 | cons {n:Str} {l:List Str} (h:PySem.W.nsIn K mainGlobals n=some none) (r:Zs K l):Zs K (n::l)
def Zs.all{K:PySem.W.Frag}{h:Heap}{mg:Str->Option Value}(X:K.In h)(G:h.Ns mainGlobals mg){l:List Str}(u:Zs K l):∀x∈l,mg x=none:=by
 induction u with
 | nil=>intro p hp;cases hp
 | cons a r ih =>
  intro p hp;rcases gj.mp hp with rfl | hp
  ·exact PySem.W.mg_none_of X G a
  ·exact ih p hp
inductive As (K:PySem.W.Frag) (C:Addr):List Str->Prop
 | nil:As K C []
 | cons {n:Str} {l:List Str} (h:PySem.W.findIn K (.ref C) n=some none) (r:As K C l):As K C (n::l)
def As.all{K:PySem.W.Frag}{C:Addr}{l:List Str}(u:As K C l):∀x∈l,jc K C x:=by
 induction u with
 | nil=>intro p hp;cases hp
 | cons a r ih =>
  intro p hp;rcases gj.mp hp with rfl | hp
  ·exact a
  ·exact ih p hp
def nth{K:PySem.W.Frag}{mg:Str->Option Value}{l:List Row}(i:Nat){p:Row}(h:∀p∈l,Fn K mg p)(e:l[i]? = some p:=by rfl):Fn K mg p:=h p (gU e)
def Cl(F:FD)(n:Str)(k a:Nat)(P:Program)(w:World)(K:PySem.W.Frag)(mg:Str->Option Value)(base:Heap):Prop :=
 ∃f fd ps,ps.length=a/\mg n=some (.ref f)/\PySem.W.keepIn K (.ref f)=true/\Binds K fd ps []/\cD P w K mg base qy k f fd ps (vz K ps.length F)
section
variable  {P:Program}{w:World}{K:PySem.W.Frag}{mg:Str->Option Value}{base:Heap}
def dN{l:List Row}{n:Str}{st:Stmt}{a k:Nat}{N:List Str}{m:MS}(i:Nat)(h:∀p∈l,Fn K mg p)(e:l[i]? = some (n,st,a):=by exact rfl)(hN:Al st N.length=N:=by exact rfl)
  (hb:∀f cdv A outer s H,cV k #[33,n]->N.Nodup->zY #[31,n].JX (a_ st) m)
  (S:cX N (Al st a) (aD st):=by exact R1) (hp:(Al st a).length=a:=by exact rfl):Cl (bF (bw N.length m)) n (k+1) a P w K mg base:=by
 obtain⟨f,fd,F,hm,hbd⟩:=h _ (gU e);have q:=zK F S (λcdv A outer s H hr=>hb f cdv A outer s H hr S.nd);exact⟨f,fd,_,hp,hm,F.kp,hbd,cD.imp q λvs H Q E h=>rD h⟩
def Cl.never{n:Str}{st:Stmt}{a k:Nat}(h:Fn K mg (n,st,a))(hp:(Al st a).length=a:=by rfl):Cl (λ_ _=>.bad) n k a P w K mg base:=by
 obtain⟨f,fd,F,hm,hbd⟩:=h;exact⟨f,fd,_,hp,hm,F.kp,hbd,cD.never⟩
end
section
variable  {X:Cx}{P:Program}{w:World}{K:PySem.W.Frag}{mg:Str->Option Value}{base:Heap}
def JZ(X:Cx)(es:List Expr)(mA:MA):Prop:=JA X es mA/\∀(env:aK) (st:ak) (as:List D) (st1:ak),mA env st=.ok as st1->as.length=es.length
def Od:JZ X [] au:=⟨Zx,zit⟩
def zB{e:Expr}{es:List Expr}{m:ME}{mA:MA}(h:JE X e m)(r:JZ X es mA)(hs:starEach (e::es) X.env=0xd::starEach es X.env:=by rfl):JZ X (e::es) (aj m mA):=⟨Vn h r.1 hs,NB r.2⟩
def qu{F:FD}{n x:Str}{k k' a:Nat}{e:Expr}{es:List Expr}{mA:MA}{p pos:Pos}(G:Cl F n k a P w K mg base)(hr:cV k' X.A)(ha:JZ X (e::es) mA)
  (hX:X.prog=P/\X.w=w/\X.K=K/\X.mg=mg/\X.base=base:=by exact⟨rfl,rfl,rfl,rfl,rfl⟩) (hn:n=x:=by rfl) (YL:k<=k':=by first | decide | omega) (hlen:(e::es).length=a:=by rfl) (hg:Gl X x:=by rfl) (rQ:0xf=false:=by decide)
  (he:starEach (e::es) X.env=0xd::starEach es X.env:=by rfl) (p_:#[13,pos,es].any (·.1)=false:=by rfl):JE X 0x1a (az F [] mA):=by
 obtain⟨rfl,rfl,rfl,rfl,rfl⟩:=hX;subst hn;obtain⟨f,fd,ps,hl,hm,hk,hb,g⟩:=G;exact abz g hr hm hk hb ha.1 ha.2 YL (hlen.trans hl.symm) hg rQ he p_
def K3{F:FD}{n x:Str}{k k' a:Nat}{Λ:Nat->fQ}{e:Expr}{es:List Expr}{m:ML}{p pos:Pos}(G:Cl F n k a P w K mg base)(hr:cV k' X.A)(ha:JL X Λ (e::es) m)(YQ:∀x,X.fn x=true)(hA:∀env st as st1,m env st=.ok as st1->as.length=(e::es).length)
  (hX:X.prog=P/\X.w=w/\X.K=K/\X.mg=mg/\X.base=base:=by exact⟨rfl,rfl,rfl,rfl,rfl⟩) (hn:n=x:=by rfl) (YL:k<=k':=by first | decide | omega) (hlen:(e::es).length=a:=by rfl) (hg:Gl X x:=by rfl) (rQ:0xf=false:=by decide)
  (he:starEach (e::es) X.env=0xd::starEach es X.env:=by rfl) (p_:#[13,pos,es].any (·.1)=false:=by rfl):JE X 0x1a (j9 Λ F [] m):=by
 obtain⟨rfl,rfl,rfl,rfl,rfl⟩:=hX;subst hn;obtain⟨f,fd,ps,hl,hm,hk,hb,g⟩:=G;exact Gf (g.mono YL) hr hm hk hb .nil (λ_ _=>ao.nil) ha YQ (hlen.trans hl.symm) hg rQ he p_ hA
def Yj{F:FD}{n x:Str}{k k':Nat}{p pos:Pos}(G:Cl F n k 0 P w K mg base)(hr:cV k' X.A)
  (hX:X.prog=P/\X.w=w/\X.K=K/\X.mg=mg/\X.base=base:=by exact⟨rfl,rfl,rfl,rfl,rfl⟩) (hn:n=x:=by rfl) (YL:k<=k':=by first | decide | omega) (hg:Gl X x:=by rfl) (rQ:0xf=false:=by decide):JE X (.Call (.Name x p) [] [] pos) (az F [] au):=by
 obtain⟨rfl,rfl,rfl,rfl,rfl⟩:=hX;subst hn;obtain⟨f,fd,ps,hl,hm,hk,hb,g⟩:=G;obtain rfl:=List.eq_nil_of_length_eq_zero hl;exact KZ (g.mono YL) hr hm hk hb hg rQ
end
end M
set_option maxHeartbeats 0
namespace Law
open PySem PySem.Spec L2 M
noncomputable def top(i:Nat):Stmt:=PySem.Challenge.pw_oneofall_k92_whole_tapes_in_trees.main.body.getD i (.Pass ⟨0,0,0,0⟩)
noncomputable abbrev Ue:Stmt:=top 6
noncomputable abbrev Ef:Stmt:=top 11
noncomputable abbrev Ed:Stmt:=top 18
noncomputable abbrev N5:Stmt:=top 44
noncomputable abbrev ze0:Stmt:=(yF (top 61)).getD 0 (.Pass ⟨0,0,0,0⟩)
noncomputable abbrev Z9:Stmt:=(yF (top 61)).getD 1 (.Pass ⟨0,0,0,0⟩)
noncomputable abbrev zci:Stmt:=(yF (top 73)).getD 0 (.Pass ⟨0,0,0,0⟩)
noncomputable abbrev Zy:Stmt:=top 97
noncomputable abbrev l_0:fQ:=zx "put_in" ["puts"] (zQ (vf ((a_ Ef).getD 0 (.Pass ⟨0,0,0,0⟩))) 1)
noncomputable abbrev l_1:fQ:=zx "put_in" [] (zQ (vf ((a_ Ef).getD 0 (.Pass ⟨0,0,0,0⟩))) 2)
noncomputable abbrev l_2:fQ:=zx "out_and_cost" ["name"] (zQ (vf ((a_ Ed).getD 0 (.Pass ⟨0,0,0,0⟩))) 1)
noncomputable abbrev l_3:fQ:=zx "out_and_cost" ["name"] (zQ (vf ((a_ Ed).getD 0 (.Pass ⟨0,0,0,0⟩))) 2)
noncomputable abbrev l_4:fQ:=zx "tape_run" ["table"] (zQ (vf ((a_ N5).getD 1 (.Pass ⟨0,0,0,0⟩))) 0)
noncomputable def iR:Nat->fQ
 | 0=>l_0
 | 1=>l_1
 | 2=>l_2
 | 3=>l_3
 | 4=>l_4
 | _=>Ur
noncomputable def tabs:List (Str×Addr):=[("out_and_cost",124),("put_in",75),("tape_run",272)]
noncomputable def znn:MS :=
  (retS (orV (wA (yt "str") (vr 0)) #[1,0,3]))
noncomputable def Bu:FD:=bF (bw 1 znn)
noncomputable def zj4:MS :=
  (aC (fu (vJ (lu #[8,Bu,(vr 1)])) (retS (ct (.bl false))) bB)
  (aC (fu (lu (wA (yt "str") (vr 0))) (retS (orV (aF (iw 800) (vr 0) #[2,[83]]) (aF (iw 800) (vr 0) #[2,[75]]))) bB)
  (retS (yK (aF (iw 800) #[1,0,0] #[2,[83]]) #[1,0,3]))))
noncomputable def ze6:FD:=bF (bw 2 zj4)
noncomputable def zmx:MS :=
  (aC (fu (lu (wA (yt "str") (vr 0))) (retS #[5,1]) bB)
  (retS #[1,0,2]))
noncomputable def zel:FD:=bF (bw 1 zmx)
noncomputable def G8:MS :=
  (retS (fD (aj (vr 0) (aj (vr 1) #[4,(aF bD #[8,zel,(vr 0)] #[8,zel,(vr 1)]),#[21,ze6]]))))
noncomputable def sY:FD:=bF (bw 2 G8)
noncomputable def zl7:MS :=
  (aC (fu (dM (aF bN #[1,0,0] (ct .non))) #[16,sY,#[3,1,#[1,0,1]]] bB)
  #[16,sY,#[4,#[1,0,0],(vr 1)]])
noncomputable def Z5:FD:=bF (bw 2 zl7)
noncomputable def zka:MS :=
  (aC (fu (dM (aF (iw 800) #[1,0,0] #[2,[75]])) (retS #[1,0,1]) bB)
  #[16,sY,#[4,(az sY [] (aj #[11,aV,#[1,0,0]] #[7,1])),(az sY [] (aj #[1,0,1] #[7,1]))]])
noncomputable def ze3:FD:=bF (bw 2 zka)
noncomputable def zc6:MS :=
  (aC (aG 2 (vr 0))
  (aC (aG 3 (eQ au))
  (aC (aG 4 #[5,0])
  (aC (aZ (jC (dM (aF ltV (vr 4) (vr 1))) (Oa (lu (vr 3)) (vJ (lu #[8,Bu,(vr 2)])))) (fu (lu #[8,Bu,(vr 2)]) (aG 2 (az Z5 [] #[4,(fH "list" rG (vr 3)),(vr 2)])) (fu (vJ (lu #[8,Bu,#[1,2,0]])) (aC #[18,3,(fD #[4,(ct .non),#[1,2,1]])]
  (aG 2 #[1,2,0])) (fu (vJ (lu #[8,Bu,#[1,2,1]])) (aC #[18,3,(fD #[4,#[1,2,0],(ct .non)])]
  (aG 2 #[1,2,1])) (fu (lu (wA (yt "str") #[1,2,0])) ace (aC (aG 2 (az ze3 [] #[4,#[1,2,0],#[1,2,1]]))
  (aG 4 #[11,bD,(vr 4)])))))))
  (aC (aZ (lu (vr 3)) (aG 2 (az Z5 [] #[4,(fH "list" rG (vr 3)),(vr 2)])))
  (retS (fD (aj (Hn (lu #[8,Bu,(vr 2)]) #[2,[118,97,108,117,101]] #[2,[111,110]]) #[3,2,(vr 4)]))))))))
noncomputable def Vy:FD:=bF (bw 5 zc6)
noncomputable def zga:MS :=
  (aC (fu (dM (aF (iw 800) (vr 1) (vr 0))) (retS (fD #[4,(ct 0x30),#[5,2]])) bB)
  (retS (ct .non)))
noncomputable def zcv:FD:=bF (bw 2 zga)
noncomputable def zfg:MS :=
  (aC (fu #[20,bN,0] (retS (fD #[4,(az sY [] (aj #[2,[75]] #[7,1])),#[5,1]])) bB)
  (retS (vr 0)))
noncomputable def zbc:FD:=bF (bw 2 zfg)
noncomputable def zfk:MS :=
  (aC #[22,(jC (dM #[24,bN,.non]) (jC #[20,bN,3] (lu #[8,Bu,(vr 1)])))]
  (aC (fu (jC (dM #[24,bN,.non]) (dM (aF (iw 800) #[1,1,1] (vr 0)))) (retS (fD #[4,#[1,1,0],#[5,0]])) bB)
  (aC (aG 4 (az zbc [] #[3,2,#[1,1,0]]))
  (aC (aG 5 (az zbc [] #[3,3,#[1,1,1]]))
  (retS (fD #[4,(az sY [] (aj (az sY [] (aj #[2,[83]] (aj #[1,4,0] au))) (aj #[1,5,0] au))),(aF bD (aF bD #[5,1] #[1,4,1]) #[1,5,1])]))))))
noncomputable def zch:FD:=bF (bw 6 zfk)
noncomputable def zha:MS :=
  (aC (aG 2 (cz "dict" Bd (vr 0) (aj (fD #[4,#[1,1,0],#[1,1,2]]) au)))
  (aC #[22,(dM #[24,bN,.non])]
  (aC (aG 3 #[1,1,1])
  (aC (aG 4 #[1,1,3])
  (aC (fu (dM (aF (iw 800) #[1,2,3] #[2,[108]])) (retS (fD (aj #[1,2,4] (aj (Ey (vr 3) Ob (Oe (wA wU #[5,1]))) #[4,(W6 (Ey (vr 3) (Oe (wA wU #[5,1])) Ob) #[2,[95]]),(aF bD #[1,2,2] (vr 4))])))) bB)
  (retS (fD (aj #[1,2,4] (aj (aF bD (vr 3) #[1,2,2]) #[4,(W6 (Ey (vr 4) Ob (Oe #[5,1])) #[2,[95]]),(Ey (vr 4) (Oe #[5,1]) Ob)])))))))))
noncomputable def zcb:FD:=bF (bw 5 zha)
noncomputable def e_0:ME :=
  (cz "dict" zJ (vr 0) #[3,1,(vr 1)])
noncomputable def e_1:ME :=
  (az sY [] #[3,1,(vr 2)])
noncomputable def e_2:ME :=
  #[21,zcv]
noncomputable def e_3:ME :=
  (az zch [] (aj (vr 0) (aj (vr 1) #[3,2,(vr 3)])))
noncomputable def e_4:ME :=
  #[21,zcb]
noncomputable def GL:Nat->FD
 | 0=>rK 2 e_0
 | 1=>rK 3 e_1
 | 2=>rK 2 e_2
 | 3=>rK 4 e_3
 | 4=>rK 2 e_4
 | _=>λ_ _=>.bad
noncomputable def znh:MS :=
  (aC (aG 3 (eQ au))
  (aC (aG 4 (eQ #[7,0]))
  (aC (aZ (lu (vr 4)) (aC (aG 5 (fH "list" rG (vr 4)))
  (aC #[18,3,(vr 5)]
  (fu (vJ (lu (wA (yt "str") (vr 5)))) (aC #[18,4,#[1,5,0]]
  #[18,4,#[1,5,1]]) bB))))
  (aC (aG 6 (eQ au))
  (aC (iW (Iv #[7,3]) (aO 5) (fu (lu (wA (yt "str") (vr 5))) #[18,6,(callC iR GL 1 #[7,5])] (aC (aG 7 (fH "list" rG (vr 6)))
  (aC (aG 8 (fH "list" rG (vr 6)))
  #[18,6,(callC iR GL 2 (aj (vr 5) #[3,8,(vr 7)]))]))))
  (retS #[1,6,0]))))))
noncomputable def NP:FD:=bF (bw 9 znh)
noncomputable def zeu:MS :=
  (retS (j9 iR NP [] (iY (vr 0) (j6 0 [1] 2 "put_in" (j6 1 [] 2 "put_in" uP)))))
noncomputable def Hi:FD:=bF (bw 2 zeu)
noncomputable def zb1:MS :=
  (aC (aG 2 (j9 iR NP [] (iY (vr 1) (j6 2 [0] 1 "out_and_cost" (j6 3 [0] 1 "out_and_cost" uP)))))
  #[16,zbc,#[3,2,(vr 1)]])
noncomputable def VF:FD:=bF (bw 3 zb1)
noncomputable def zmu:MS :=
  (retS #[25,aV,#[21,VF]])
noncomputable def zc8:FD:=bF (bw 2 zmu)
noncomputable def zjb:MS :=
  (retS #[11,aV,#[21,VF]])
noncomputable def zeb:FD:=bF (bw 2 zjb)
noncomputable def zdj:MS :=
  (aC (aG 2 (vr 1))
  (aC (aG 3 (eQ au))
  (aC (iW (Ir #[7,0]) (aO 4) (aC (aG 5 (az VF [] #[3,4,(vr 2)]))
  (aC (aG 2 #[1,5,0])
  #[18,3,#[1,5,1]])))
  (aC (dF (fH "list" dW (vr 3)))
  (retS (fD #[3,2,(vr 3)]))))))
noncomputable def za5:FD:=bF (bw 6 zdj)
noncomputable def zkj:MS :=
  (retS #[25,aV,#[21,za5]])
noncomputable def O2:FD:=bF (bw 2 zkj)
noncomputable def zgn:MS :=
  (retS #[11,aV,#[21,za5]])
noncomputable def NZ:FD:=bF (bw 2 zgn)
noncomputable def zmm:MS :=
  (aC (aG 2 (vr 0))
  (aC (iW (iC (vr 1)) (aO 3) (aG 2 (az sY [] #[3,2,(vr 3)])))
  (retS (vr 2))))
noncomputable def NQ:FD:=bF (bw 4 zmm)
noncomputable def zkd:MS :=
  (aC (aG 2 (vr 1))
  (aC (iW (ji #[7,0]) (aO 3) (aG 2 (az sY [] #[4,#[2,[75]],(vr 2)])))
  (retS (vr 2))))
noncomputable def O1:FD:=bF (bw 4 zkd)
noncomputable def zuz:MS :=
  #[16,O1,#[3,0,(az zc8 [] #[4,#[2,[120]],(az O1 [] (aj (aF xX #[11,xX,(vr 1)] (vr 0)) (aj #[2,[120]] au)))])]]
noncomputable def Ox:FD:=bF (bw 2 zuz)
noncomputable def zhk:MS :=
  (retS (aF bD #[11,xX,(vr 1)] (az zeb [] #[4,#[2,[120]],(az O1 [] (aj (aF xX #[11,xX,(vr 1)] (vr 0)) (aj #[2,[120]] au)))])))
noncomputable def zbt:FD:=bF (bw 2 zhk)
noncomputable def zu4:MS :=
  (aC (fu (lu #[8,Bu,(vr 0)]) #[16,sY,#[4,#[2,[75]],(vr 0)]] bB)
  #[16,zc8,#[4,#[2,[112]],(vr 0)]])
noncomputable def zli:FD:=bF (bw 1 zu4)
noncomputable def zmf:MS :=
  (aC (aG 1 (ct 0x30))
  (aC (iW (iC (vr 0)) (aO 2) (aG 1 (az sY [] #[4,(az sY [] (aj #[2,[83]] #[7,1])),#[8,zli,(vr 2)]])))
  (retS (vr 1))))
noncomputable def NK:FD:=bF (bw 3 zmf)
noncomputable def zhe:MS :=
  #[16,O1,#[4,#[5,1],#[8,NK,(eQ #[3,0,(vr 1)])]]]
noncomputable def Vz:FD:=bF (bw 2 zhe)
noncomputable def zkp:MS :=
  (aC (aG 1 #[2,[75]])
  (aC (iW (Iv #[7,0]) (aO 2) (aG 1 (az Vz [] #[3,2,(vr 1)])))
  (retS (vr 1))))
noncomputable def Z8:FD:=bF (bw 3 zkp)
noncomputable def zux:MS :=
  (retS #[8,NK,(eQ (aj (vr 0) #[3,1,(vr 2)]))])
noncomputable def ZJ:FD:=bF (bw 3 zux)
noncomputable def zl0:MS :=
  (retS #[8,NK,(eQ (aj (vr 0) (aj (vr 1) #[3,2,(vr 3)])))])
noncomputable def zfy:FD:=bF (bw 4 zl0)
noncomputable def zfi:MS :=
  (retS (aF bD #[5,2] (aF oh #[5,2] (vr 0))))
noncomputable def O4:FD:=bF (bw 1 zfi)
noncomputable def zei:MS :=
  (retS (yK (J1 (wA (yt "str") (vr 1))) (aF (iw 800) #[1,1,0] (vr 0))))
noncomputable def O5:FD:=bF (bw 2 zei)
noncomputable def zh2:MS :=
  (retS (yK (J1 (wA (yt "str") (vr 0))) (yK (az O5 [] #[4,#[2,[83]],#[1,0,0]]) (az O5 [] #[4,#[2,[75]],#[1,0,1]]))))
noncomputable def zcn:FD:=bF (bw 1 zh2)
noncomputable def zt3:MS :=
  (aC (aG 2 (eQ au))
  (aC (aG 3 (vr 0))
  (aC (aZ (dM (aF ltV (bh cR #[7,2]) (vr 1))) (aC #[22,(vJ (lu #[8,zcn,(vr 3)]))]
  (aC #[18,2,#[11,aV,#[1,3,1]]]
  (aG 3 #[11,aV,#[1,3,0]]))))
  (aC #[22,(Oa (dM (aF (wB 800) (vr 3) (ct 0x30))) (vJ (lu #[8,Bu,(vr 0)])))]
  (aC (dF (fH "list" dW (vr 2)))
  (retS (vr 2)))))))
noncomputable def ZR:FD:=bF (bw 4 zt3)
noncomputable def zhg:MS :=
  (aC (aG 1 (eQ au))
  (aC (aG 2 (vr 0))
  (aC (aZ (dM (aF (wB 800) (vr 2) #[2,[75]])) (aC (aG 3 (Hn (lu (az O5 [] #[4,#[2,[75]],(vr 2)])) (az ZR [] #[4,#[1,2,1],#[5,2]]) (ct .non)))
  (aC #[22,#[20,bN,3]]
  (aC #[18,1,#[1,3,0]]
  (aG 2 #[1,3,1])))))
  (retS (vr 1)))))
noncomputable def zc9:FD:=bF (bw 4 zhg)
noncomputable def zme:MS :=
  (aC (aG 2 #[5,0])
  (aC (aG 3 (vr 0))
  (aC (aZ (lu (az O5 [] #[4,#[2,[75]],(vr 3)])) (aC (aG 2 #[11,bD,(vr 2)])
  (aG 3 #[1,3,1])))
  (aC (fu (jC (dM (aF ltV (vr 2) (vr 1))) (dM (aF (iw 800) (vr 0) (az Ox [] #[3,2,(vr 1)])))) (retS (vr 2)) bB)
  (retS (ct .non))))))
noncomputable def Uc:FD:=bF (bw 4 zme)
noncomputable def zfl:MS :=
  (aC (aG 3 (eQ #[7,1]))
  (aC (aZ (dM (aF Xq (bh cR #[7,3]) (vr 2))) (aC (aG 4 (callC iR GL 0 (aj (aF aV (vr 3) (wA wU #[5,1])) au)))
  (aC (fu #[20,bN,4] (retS (vr 3)) bB)
  #[18,3,(vr 4)])))
  (retS (vr 3))))
noncomputable def zbo:FD:=bF (bw 5 zfl)
noncomputable def zgc:MS :=
  (aC (aG 1 R_)
  (aC (iW (iC (vr 0)) (aO 2) (dF (cz "dict" oR (vr 1) #[4,(fD (aj #[1,2,0] (aj #[1,2,1] au))),(vr 2)])))
  (retS (vr 1))))
noncomputable def zbz:FD:=bF (bw 3 zgc)
noncomputable def zdw:MS :=
  (aC (aG 3 #[8,zbz,(vr 0)])
  (retS (j9 iR zbo [] (j6 4 [3] 3 "tape_run" (iY (vr 1) (iY (vr 2) uP))))))
noncomputable def zd0:FD:=bF (bw 4 zdw)
noncomputable def zht:MS :=
  (retS (Hn (lu (fH "str" oE (vr 0))) (aF bD #[2,[100]] (vr 0)) #[2,[100]]))
noncomputable def Z_:FD:=bF (bw 1 zht)
noncomputable def ziw:MS :=
  #[16,NQ,#[4,#[2,[115]],(aF bD (eN [none] (zf (vr 0)) (aO 0) lJ #[8,Z_,(vr 0)]) #[19,ou,(ct 0x29)])]]
noncomputable def zcx:FD:=bF (bw 1 ziw)
noncomputable def zjg:MS :=
  #[16,O2,#[4,(ct (.tup [.str [108],.str [115],.str [114],.str [102]])),#[8,zcx,(vr 0)]]]
noncomputable def zdt:FD:=bF (bw 1 zjg)
noncomputable def zmy:MS :=
  (aC (aG 3 (ie (cU #[2,[110]] (vr 1) iV)))
  (aC (iW (U9 (vr 2)) (aO 4) (jB (aF wC (vr 2) (vr 4)) (tV lW (vr 3) #[8,Z_,(vr 4)])))
  #[16,Hi,#[3,0,(vr 3)]]))
noncomputable def zft:FD:=bF (bw 5 zmy)
noncomputable def zjr:MS :=
  (retS (aF bD (aF bD #[8,O4,#[5,2]] #[8,O4,#[5,3]]) #[19,wM,(az NZ [] #[4,(ct (.tup [.str [108],.str [115],.str [114],.str [102]])),#[8,zcx,(vr 0)]])]))
noncomputable def zdr:FD:=bF (bw 1 zjr)
noncomputable def zja:MS :=
  #[16,zfy,(aj #[2,[110]] (aj #[2,[108]] #[4,#[2,[119]],#[2,[114]]]))]
noncomputable def zc1:FD:=bF (bw 0 zja)
noncomputable def zil:MS :=
  #[16,Hi,#[4,(az O2 [] (aj (ct 0x29) (aj (az zc1 [] au) au))),(ie (cU #[2,[119]] (vr 0) iV))]]
noncomputable def zc2:FD:=bF (bw 1 zil)
noncomputable def zjk:MS :=
  (retS #[19,wM,(az NZ [] #[4,(ct 0x29),(az zc1 [] au)])])
noncomputable def zdy:FD:=bF (bw 0 zjk)
noncomputable def zhw:MS :=
  (aC (aG 1 (Hn (dM (aF (iw 800) (vr 0) #[2,[108]])) (fD #[4,#[2,[108]],#[2,[114]]]) (fD #[4,#[2,[114]],#[2,[108]]])))
  #[16,NQ,#[4,#[1,1,0],(eQ (aj #[2,[98,97,114,101]] (aj #[2,[102,117,108,108]] (aj (az sY [] (aj (az sY [] (aj #[2,[103]] (aj #[2,[102]] au))) (aj #[2,[102]] au))) (aj #[1,1,1] au)))))]])
noncomputable def zcl:FD:=bF (bw 2 zhw)
noncomputable def zgr:MS :=
  (aC (aG 1 (az Vz [] #[4,#[2,[119]],#[2,[120]]]))
  (aC (fu (dM (aF (iw 800) (vr 0) #[2,[108]])) #[16,sY,#[4,#[2,[121]],(az ZJ [] (aj #[2,[116]] (aj #[2,[97]] #[7,1])))]] bB)
  #[16,sY,#[4,#[2,[121]],(az ZJ [] (aj (vr 1) (aj #[2,[97]] (aj #[2,[116]] au))))]]))
noncomputable def zcq:FD:=bF (bw 2 zgr)
noncomputable def zbu:MS :=
  (aC (aG 3 #[8,zcq,(vr 1)])
  (aC (aG 4 (az Hi [] #[4,(az O2 [] (aj (ct (.tup [.str [121],.str [120]])) #[7,3])),(ie (cU #[2,[97]] (aF wC (vr 2) #[2,[95]]) (cU #[2,[116]] #[2,[75]] iV)))]))
  (aC (aG 5 (az O2 [] #[4,(ct (.tup [.str [97],.str [116],.str [121],.str [120]])),(vr 3)]))
  (aC (cQ "Move" "plan" (vr 0) (az O2 [] #[4,(ct 0x29),#[8,zcl,(vr 1)]]))
  (aC (cQ "Move" "written" (vr 0) dkE)
  (aC (iW (U9 (vr 2)) (aO 6) (aC (aG 7 (ie (cU #[2,[119]] (aF wC (vr 2) (vr 6)) iV)))
  (jB (ie (cU #[2,[98,97,114,101]] (az Hi [] #[3,4,(vr 7)]) (cU #[2,[102,117,108,108]] (az Hi [] #[3,5,(vr 7)]) iV))) (tV lW (cH "Move" "written" (vr 0)) (vr 6)))))
  (aC (aG 8 #[11,bD,#[19,wM,(az NZ [] #[4,(ct 0x29),#[8,zcl,(vr 1)]])]])
  (aC (cQ "Move" "bare_cost" (vr 0) (aF bD (vr 8) #[19,wM,(az NZ [] #[4,(ct (.tup [.str [121],.str [120]])),(vr 3)])]))
  (cQ "Move" "full_cost" (vr 0) (aF bD (aF bD (vr 8) #[8,O4,#[5,2]]) #[19,wM,(az NZ [] #[4,(ct (.tup [.str [97],.str [116],.str [121],.str [120]])),(vr 3)])]))))))))))
noncomputable def VB:FD:=bF (bw 9 zbu)
noncomputable def zde:MS :=
  (aC (aG 3 #[19,uq,(aF wC (cH "Move" "written" (vr 0)) (vr 1))])
  (aC (jB (vr 2) (tV lW (vr 3) #[2,[103]]))
  #[16,Hi,#[4,(cH "Move" "plan" (vr 0)),(vr 3)]]))
noncomputable def zew:FD:=bF (bw 4 zde)
noncomputable def zf9:MS :=
  #[16,NQ,#[4,#[2,[118]],(eQ (aj #[2,[101]] (aj #[2,[102]] au)))]]
noncomputable def zb2:FD:=bF (bw 0 zf9)
noncomputable def zin:MS :=
  #[16,Hi,#[4,(az O2 [] (aj (ct (.tup [.str [102],.str [118]])) (aj (az zb2 [] au) au))),(ie (cU #[2,[101]] (vr 0) iV))]]
noncomputable def zdz:FD:=bF (bw 1 zin)
noncomputable def zfh:MS :=
  (retS #[8,NK,(eQ #[3,0,(vr 1)])])
noncomputable def zcf:FD:=bF (bw 2 zfh)
noncomputable def zro:MS :=
  (retS (aF uh (vr 0) #[5,2]))
noncomputable def ze7:FD:=bF (bw 1 zro)
noncomputable def zfn(Vf:FD):MS :=
  (aC (fu (dM #[11,(iw 800),(bh cR #[7,0])]) (retS #[1,0,0]) bB)
  (aC (aG 1 #[8,ze7,(bh cR #[7,0])])
  (retS #[8,NK,(eQ #[4,(az Vf [] (aj (Ey (vr 0) Ob (Oe (vr 1))) au)),(az Vf [] (aj (Ey (vr 0) (Oe (vr 1)) Ob) au))])])))
noncomputable def Vx:Nat->FD
 | 0=>λ_ _=>.bad
 | n+1=>bF (bw 2 (zfn (Vx n)))
noncomputable def zi6:MS :=
  (aC (aG 2 (eQ au))
  (aC (aG 3 #[5,0])
  (aC (aG 4 (vr 1))
  (aC (aZ (dM #[11,Y5,(vr 4)]) (aC (aG 5 #[8,ze7,(vr 4)])
  (aC (aG 6 (Hn (dM (aF ltV (vr 0) (aF bD (vr 3) (vr 5)))) #[5,0] #[5,1]))
  (aC #[18,2,(vr 6)]
  (aC (aG 3 (aF bD (vr 3) (aF oh (vr 5) (vr 6))))
  (aG 4 (Hn (dM #[25,(iw 800),(vr 6)]) (vr 5) (aF xX (vr 4) (vr 5)))))))))
  (retS (vr 2))))))
noncomputable def zb7:FD:=bF (bw 7 zi6)
noncomputable def ztj:MS :=
  (retS #[8,NK,(eN [none] (iC #[21,zb7]) (aO 0) lJ (az Ox [] #[3,0,#[5,2]]))])
noncomputable def zgs:FD:=bF (bw 2 ztj)
noncomputable def zn4:MS :=
  (aC (aG 2 #[21,zb7])
  (aC (aG 3 (eN [none] (iC (vr 2)) (aO 0) lJ (aF bD #[8,O4,#[5,2]] (az zbt [] #[3,0,#[5,2]]))))
  (retS (aF bD (aF bD #[8,O4,(bh cR #[7,2])] (bh wM #[7,3])) #[25,aV,(az NZ [] #[4,(ct (.tup [.str [102],.str [118]])),(az zb2 [] au)])]))))
noncomputable def zfo:FD:=bF (bw 4 zn4)
noncomputable def zjh:MS :=
  (aC (aG 4 (bh uq #[7,2]))
  (aC (iW (zf 0x19) (aO 5) (aC (aG 6 (cz "dict" Bd (cH "Book" "by_key" (vr 0)) (aj (fD #[3,1,(vr 5)]) au)))
  (fu #[20,lZ,6] (jB (CG "Move" "deed" zew (aF wC (cH "Book" "moves" (vr 0)) #[1,6,3]) #[4,#[1,6,2],(aF wC (vr 3) #[1,6,4])]) (tV lW (vr 4) (vr 5))) bB)))
  (retS (vr 4))))
noncomputable def zd7:FD:=bF (bw 7 zjh)
noncomputable def zkh:MS :=
  (aC (aG 1 #[19,cR,0x25])
  (aC (aG 2 #[8,zdt,0x19])
  (aC (aG 3 dkE)
  (aC (iW (zf 0x19) (aO 4) (jB #[8,zc2,(aF wC 0x24 (vr 4))] (tV lW (vr 3) (vr 4))))
  (aC (aG 5 dkE)
  (aC (iW (v9 (aj 0x25 au)) (tE 2 (dO (aO 6) (dO (aO 7) uQ))) (jB (az zgs [] #[3,6,(vr 1)]) (tV lW (vr 5) (vr 7))))
  (aC (aG 8 (eQ au))
  (aC (iW (v9 (aj 0x25 au)) (tE 2 (dO (aO 6) (dO (aO 7) uQ))) #[18,8,(az zft [] (aj (vr 2) #[4,(az Ox [] #[3,6,(vr 1)]),(az zd7 [] (aj (vr 0) (aj (vr 7) #[3,3,(vr 5)])))]))])
  (retS (vr 8))))))))))
noncomputable def ze9:FD:=bF (bw 9 zkh)
noncomputable def zed:MS :=
  (aC (aG 1 dkE)
  (aC (iW (v8 #[7,0]) (tE 2 (dO (aO 2) (dO (aO 3) uQ))) (jB (az Ox [] #[3,2,(bh cR #[7,0])]) (tV lW (vr 1) (vr 3))))
  (retS (vr 1))))
noncomputable def zbp:FD:=bF (bw 4 zed)
noncomputable def zda:MS :=
  (aC (cQ "Book" "rules" (vr 0) (bh ou #[7,1]))
  (aC (cQ "Book" "signs" (vr 0) (vr 2))
  (aC (cQ "Book" "states" (vr 0) (bh ou #[7,3]))
  (aC (cQ "Book" "letters" (vr 0) (aF bD #[2,[95]] (vr 2)))
  (aC (cQ "Book" "by_key" (vr 0) #[8,zbz,(vr 1)])
  (aC (cQ "Book" "sign_trees" (vr 0) #[8,zbp,0x19])
  (aC (cQ "Book" "moves" (vr 0) (ie (cU #[2,[108]] (jO "Move" VB #[4,#[2,[108]],0x24]) (cU #[2,[114]] (jO "Move" VB #[4,#[2,[114]],0x24]) iV))))
  (aC (cQ "Book" "start_cost" (vr 0) #[8,zdr,0x19])
  (aC (aG 4 #[8,ze9,(vr 0)])
  (aC (aG 5 #[8,(Vx 10),(eN [none] (iC (vr 4)) (aO 0) lJ (az zdz [] #[7,0]))])
  (cQ "Book" "state_trees" (vr 0) (eN [some 5,none] (iC (vr 4)) (aO 1) lJ (az zcf [] #[3,1,(vr 0)])))))))))))))
noncomputable def zez:FD:=bF (bw 6 zda)
noncomputable def zk8:MS :=
  (retS (aF aV (cH "Book" "state_trees" (vr 0)) (cz "list" oU 0x25 #[7,1])))
noncomputable def zd5:FD:=bF (bw 2 zk8)
noncomputable def zoq:MS :=
  (aC (aG 2 #[8,Z8,(eN [some 0,none] (Cg (aj #[1,1,1] au)) (aO 1) lJ (aF wC 0x24 (vr 1)))])
  (aC (aG 3 #[8,Z8,(eN [some 0,none] (zf #[1,1,3]) (aO 1) lJ (aF wC 0x24 (vr 1)))])
  (retS (fD (aj (vr 2) #[4,(aF wC 0x24 #[1,1,2]),(vr 3)])))))
noncomputable def zfp:FD:=bF (bw 4 zoq)
noncomputable def zll:MS :=
  (aC (aG 2 #[21,zfp])
  #[16,sY,#[4,(az zd5 [] #[3,0,#[1,1,0]]),(az ZJ [] (aj #[1,2,0] (aj #[1,2,1] (aj #[1,2,2] au))))]])
noncomputable def zd3:FD:=bF (bw 3 zll)
noncomputable def zhu:MS :=
  (aC (aG 2 (aF bD (cH "Book" "start_cost" (vr 0)) (az zbt [] #[4,(cz "str" rE 0x19 (aj #[1,1,2] au)),#[19,cR,0x19]])))
  (aC (aG 3 (cz "dict" Bd (cH "Book" "by_key" (vr 0)) (aj (fD #[4,#[1,1,0],#[1,1,2]]) au)))
  (aC (fu #[20,bN,3] (retS (aF bD (vr 2) (az zdy [] au))) bB)
  (aC (aG 4 (aF wC (cH "Book" "moves" (vr 0)) #[1,3,3]))
  (aC (aG 5 (Hn (dM (aF (iw 800) #[1,3,3] #[2,[108]])) #[1,1,1] #[1,1,3]))
  (aC (aG 6 (Hn (dM (aF (iw 800) (vr 5) #[2,[]])) (cH "Move" "bare_cost" (vr 4)) (cH "Move" "full_cost" (vr 4))))
  (retS (aF bD (aF bD (vr 2) (vr 6)) (az zfo [] #[4,(cz "list" oU 0x25 (aj #[1,3,4] au)),#[19,cR,0x25]])))))))))
noncomputable def zey:FD:=bF (bw 7 zhu)
noncomputable def zk3:MS :=
  (aC (aG 2 #[8,zc9,(vr 1)])
  (aC #[22,(dM #[24,bN,.non])]
  (aC (aG 3 (eN [some 0,none] (iC (vr 2)) (aO 1) lJ (az Uc [] #[3,1,#[19,cR,0x19]])))
  (aC #[22,(dM (aF (xj 800 false) (ct .non) (vr 3)))]
  (retS (eN [some 0,none] (iC (vr 3)) (aO 1) lJ (aF aV 0x19 (vr 1))))))))
noncomputable def zct:FD:=bF (bw 4 zk3)
noncomputable def zld:MS :=
  (aC #[22,(Oa #[20,bN,1] (dM #[24,bN,.non]))]
  (aC (aG 3 (az zct [] #[3,0,#[1,2,0]]))
  (aC (aG 4 (az Uc [] #[4,#[1,2,1],#[19,cR,0x19]]))
  (aC (aG 5 (az zct [] #[3,0,#[1,2,2]]))
  (aC #[22,(Oa #[20,bN,3] (Oa #[20,bN,4] #[20,bN,5]))]
  (aC (dF (fH "list" dW (vr 3)))
  (retS (fD (aj (aF aV 0x25 (vr 1)) (aj (cz "str" rN #[2,[]] #[7,3]) #[4,(aF aV 0x19 (vr 4)),(cz "str" rN #[2,[]] #[7,5])]))))))))))
noncomputable def zcu:FD:=bF (bw 6 zld)
noncomputable def zge:MS :=
  (aC #[22,(lu (wA (yt "str") (vr 1)))]
  (aC (iW (v9 (aj (cH "Book" "state_trees" (vr 0)) au)) (tE 2 (dO (aO 2) (dO (aO 3) uQ))) (fu (dM (aF (iw 800) (vr 3) #[1,1,0])) #[16,zcu,(aj (vr 0) #[3,2,(az ZR [] #[4,#[1,1,1],#[5,3]])])] bB))
  (retS (ct .non))))
noncomputable def zby:FD:=bF (bw 4 zge)
noncomputable def zn1:MS :=
  (aC (aG 2 (az ZR [] #[3,1,#[5,4]]))
  (aC #[22,(dM #[24,bN,.non])]
  #[16,zcu,(aj (vr 0) #[4,(az Uc [] (aj #[1,2,0] (aj #[19,cR,0x25] au))),(Ey (vr 2) (Oe #[5,1]) Ob)])]))
noncomputable def zfq:FD:=bF (bw 3 zn1)
noncomputable def zuc:MS :=
  (aC (fu (dM (aF ltV (vr 1) (bh cR #[7,0]))) (retS (aF aV (vr 0) (vr 1))) bB)
  (retS (aF bD (aF oh #[5,7919] (vr 1)) #[5,13])))
noncomputable def Vo:FD:=bF (bw 2 zuc)
noncomputable def zpg:MS :=
  (aC (aG 2 (aF pX (aF bD (aF bD (aF oh (aF pX (vr 0) #[5,2147483647]) #[5,48271]) (aF oh (vr 1) #[5,69621])) #[5,11]) #[5,2147483629]))
  (aC (aG 2 (aF pX (aF bD (aF oh (vr 2) (vr 2)) #[5,7]) #[5,998244353]))
  (retS (aF pX (aF bD (aF oh (vr 2) (vr 2)) (vr 1)) #[5,1000000007]))))
noncomputable def zif:FD:=bF (bw 3 zpg)
noncomputable def znx:MS :=
  (aC (fu (lu #[1,0,0]) (aC (aG 2 (aF pX #[1,0,1] (vr 1)))
  (aC (jB (aF uh #[1,0,1] (vr 1)) (tV zg (vr 0) #[5,1]))
  (retS (vr 2)))) bB)
  (aC (jB #[11,bD,#[1,0,2]] (tV zg (vr 0) #[5,2]))
  (retS (aF pX (aF uh (az zif [] #[4,#[1,0,1],#[1,0,2]]) #[5,7]) (vr 1)))))
noncomputable def uY:FD:=bF (bw 3 znx)
noncomputable def zmr:MS :=
  (aC (aG 3 (eQ au))
  (aC (iW (ji #[7,2]) (aO 4) (aC (aG 5 #[21,uY])
  (aC (aZ (dM (aF (xj 800 false) (vr 5) (vr 3))) (aG 5 (aF pX #[11,bD,(vr 5)] (vr 1))))
  #[18,3,(vr 5)])))
  (retS (vr 3))))
noncomputable def zem:FD:=bF (bw 6 zmr)
noncomputable def zpa:MS :=
  (aC (aG 4 (eQ au))
  (aC (aG 5 R_)
  (aC (iW (ji #[7,3]) (aO 6) (aC (aG 7 (aF aV (vr 2) (az uY [] #[3,0,(bh cR #[7,2])])))
  (aC (aG 8 (aF aV (aF bD #[2,[95]] (vr 1)) (az uY [] #[3,0,#[11,bD,(bh cR #[7,1])]])))
  (aC (aG 9 (aF aV (aF bD #[2,[95]] (vr 1)) (az uY [] #[3,0,#[11,bD,(bh cR #[7,1])]])))
  (aC (aG 10 (aF aV #[2,[108,114]] (az uY [] #[3,0,#[5,2]])))
  (aC (aG 11 (aF aV (vr 2) (az uY [] #[3,0,(bh cR #[7,2])])))
  (fu (dM (aF (Gj true) (fD #[3,7,(vr 8)]) (vr 5))) (aC (jB (ct (.bl true)) (tV zj (vr 5) (fD #[3,7,(vr 8)])))
  #[18,4,(fD (aj (vr 7) (aj (vr 8) (aj (vr 9) #[3,10,(vr 11)]))))]) bB)))))))
  (retS (vr 4)))))
noncomputable def zia:FD:=bF (bw 12 zpa)
noncomputable def zs9:MS :=
  (aC (aG 2 (az zem [] (aj (vr 0) #[4,#[5,5001],(aF bD #[5,1] #[21,uY])])))
  (aC (aG 3 (az zem [] (aj (vr 0) #[4,#[5,26],(az uY [] #[3,0,(aF aV (eQ (aj #[5,3] (aj #[5,9] au))) #[19,Gi,(aF ltV (bh cR #[7,2]) #[5,3])])])])))
  (aC (aG 4 (cz "str" rN #[2,[]] (aj (eN [none] (iC (vr 3)) (aO 0) lJ (aF aV #[2,[97,98,99,100,101,102,103,104,105,106,107,108,109,110,111,112,113,114,115,116,117,118,119,120,121,122]] (vr 0))) au)))
  (retS (fD (aj (az zia [] (aj (vr 0) (aj (vr 4) #[3,2,(aF bD #[5,1] (az uY [] #[4,(vr 0),#[5,12]]))]))) #[3,4,(vr 2)]))))))
noncomputable def zle:FD:=bF (bw 5 zs9)
noncomputable def zt0:MS :=
  (aC (aG 3 #[2,[]])
  (aC (iW (ji (aj (az uY [] #[3,0,#[11,bD,(vr 2)]]) au)) (aO 4) (aG 3 (aF bD (vr 3) (aF aV (aF bD #[2,[95]] (vr 1)) (az uY [] #[3,0,#[11,bD,(bh cR #[7,1])]])))))
  (retS (vr 3))))
noncomputable def zi5:FD:=bF (bw 5 zt0)
noncomputable def zpw:MS :=
  (aC (aG 5 (aF aV (vr 3) (az uY [] #[3,0,(bh cR #[7,3])])))
  (aC (aG 6 (aF aV (aF bD #[2,[95]] (vr 2)) (az uY [] #[3,0,#[11,bD,(bh cR #[7,2])]])))
  (aC (fu (jC (dM (aF (wB 800) (vr 1) (eQ au))) (dM #[25,Y5,(az uY [] #[3,0,#[5,4]])])) (aC (aG 7 (aF aV (vr 1) (az uY [] #[3,0,(bh cR #[7,1])])))
  (aC (aG 5 #[1,7,0])
  (aG 6 #[1,7,1]))) bB)
  (aC (aG 8 (az zi5 [] (aj (vr 0) #[3,2,(vr 4)])))
  (retS (fD (aj (vr 5) (aj (vr 8) #[3,6,(az zi5 [] (aj (vr 0) #[4,(vr 2),(vr 4)]))]))))))))
noncomputable def zig:FD:=bF (bw 9 zpw)
noncomputable def zur:MS :=
  (aC (iW (iC (vr 0)) (aO 2) (fu (jC (dM (aF (iw 800) #[1,2,0] #[1,1,0])) (dM (aF (iw 800) #[1,2,1] #[1,1,2]))) (aC (fu (dM (aF (iw 800) #[1,2,3] #[2,[114]])) (aC (aG 3 (aF bD #[1,1,3] (aF tW #[2,[95]] (aF (iw 800) #[1,1,3] #[2,[]]))))
  (retS (fD (aj #[1,2,4] (aj (aF bD #[1,1,1] #[1,2,2]) #[4,#[1,3,0],(Ey (vr 3) (Oe #[5,1]) Ob)]))))) bB)
  (aC (aG 3 (aF bD (aF tW #[2,[95]] (aF (iw 800) #[1,1,1] #[2,[]])) #[1,1,1]))
  (retS (fD (aj #[1,2,4] (aj (Ey (vr 3) Ob (Oe (wA wU #[5,1]))) #[4,(aF aV (vr 3) (wA wU #[5,1])),(aF bD #[1,2,2] #[1,1,3])])))))) bB))
  (retS (ct .non)))
noncomputable def zju:FD:=bF (bw 4 zur)
noncomputable def Du:MS :=
  (aC (aG 3 (eQ #[7,1]))
  (aC (aZ (jC (dM (aF Xq (bh cR #[7,3]) (vr 2))) #[20,lZ,1]) (aC (aG 1 #[21,zju])
  (fu #[20,lZ,1] #[18,3,(vr 1)] bB)))
  (retS (vr 3))))
noncomputable def zp6:FD:=bF (bw 4 Du)
noncomputable def zl8:MS :=
  (aC (iW (ji (aj (bh cR #[7,2]) au)) (aO 3) (aC #[22,(dM (aF (wB 800) #[21,zby] (aF aV (vr 2) (vr 3))))]
  (aC (aG 4 (az zey [] #[3,0,(aF aV (vr 2) (vr 3))]))
  (aC (jB (az Vy [] #[3,1,(vr 4)]) (tE 3 (dO (aO 5) (dO (aO 6) (dO (aO 7) uQ)))))
  (aC #[22,(dM (aF (wB 800) (vr 7) (vr 4)))]
  (fu (dM (aF ltV #[11,bD,(vr 3)] (bh cR #[7,2]))) (aG 1 (vr 6)) bB))))))
  (retS (fD #[3,5,(vr 6)])))
noncomputable def zfu:FD:=bF (bw 8 zl8)
noncomputable def zpu:MS :=
  (aC (aG 1 (eQ (aj #[11,(iw 800),(aF pX (az Vo [] #[3,0,#[5,0]]) #[5,2])] #[4,(az Vo [] #[3,0,#[5,1]]),#[5,0]])))
  (aC (jB (az zle [] #[3,1,#[5,3]]) (tE 3 (dO (aO 2) (dO (aO 3) (dO (aO 4) uQ)))))
  (aC (aG 5 (jO "Book" zez (aj (bh ou #[7,2]) #[3,3,(bh ou #[7,4])])))
  (aC (aG 6 (az zig [] (aj (vr 1) (aj (vr 2) (aj (vr 3) #[3,4,#[5,4]])))))
  (aC (aG 7 (az uY [] #[3,1,#[5,3]]))
  (aC (aG 8 (az zp6 [] (aj (vr 2) #[3,6,(vr 7)])))
  (aC (fu (dM (aF (wB 800) (az zd0 [] (aj (bh ou #[7,2]) #[3,6,(vr 7)])) (vr 8))) (retS (ct (.bl false))) bB)
  (aC (aG 9 (az zfu [] (aj (vr 5) #[4,(az zd3 [] #[3,5,(vr 6)]),(vr 8)])))
  (aC (fu #[20,bN,9] (retS (ct (.bl false))) bB)
  (aC (aG 10 (az zju [] #[3,2,(aF aV (vr 8) (wA wU #[5,1]))]))
  (aC (fu #[20,lZ,10] (retS (yK (aF (iw 800) (az zby [] #[3,5,#[1,9,1]]) (vr 10)) (aF (iw 800) #[1,9,0] #[2,[111,110]]))) bB)
  (aC (fu (Oa (dM (aF (wB 800) #[1,9,0] #[2,[118,97,108,117,101]])) (dM (aF (wB 800) (az zfq [] #[3,5,#[1,9,1]]) (aF aV (vr 8) (wA wU #[5,1]))))) (retS (ct (.bl false))) bB)
  (retS #[25,(iw 800),(aF aV (az Vy [] #[4,#[1,9,1],#[5,5]]) #[5,2])])))))))))))))
noncomputable def zm4:FD:=bF (bw 11 zpu)
noncomputable def acO:List M.Row:=[("joint",top 2,2),("is_done",top 3,2),("leaves",top 4,1),("is_value",top 5,1),("joined",top 7,2),("changed",top 8,2),("folded",top 9,3),("taken_out",top 12,2),("out_cost",top 13,2),("made_of",top 14,2),("made_costs",top 15,2),("handed",top 16,2),("made_and_costs",top 17,2),("leaf_taken",top 19,2),("joint_taken",top 20,4),("or_constant",top 21,2),("pick",top 24,2),("pick_cost",top 25,2),("unasked",top 26,2),("list_of",top 27,1),("list_with",top 28,2),("pack",top 29,3),("end_of",top 30,4),("holder",top 31,1),("kept",top 32,1)]
noncomputable def acN:List M.Row:=[("holder_cost",top 33,1),("held",top 34,2),("has_held_form",top 35,1),("has_in_front",top 36,2),("things_of",top 37,1),("picked",top 38,2),("stands_from",top 40,3),("rule_table",top 41,1),("moved_by_table",top 45,2),("row_term",top 51,1),("deed_name",top 52,1),("row_plan",top 53,1),("row_of",top 54,3),("row_cost",top 55,1),("end_term",top 56,0),("end_deed",top 57,1),("end_cost",top 58,0),("side_term",top 59,1),("image_term",top 60,1),("entry_term",top 64,0),("entry_of",top 65,1),("tree_of_row",top 66,2),("table_of",top 67,1),("half_of",top 68,1),("turns_to",top 69,2)]
noncomputable def acM:List M.Row:=[("way_to",top 70,2),("way_cost",top 71,2),("sign_trees_of",top 74,1),("rows_of",top 75,1),("deeds_of",top 76,4),("state_tree",top 77,2),("tape_image",top 78,2),("parts_of",top 79,2),("tape_cost",top 80,2),("image_told",top 81,2),("end_told",top 82,2),("stand_told",top 83,3),("signs_told",top 84,2),("_law_cell",top 86,2),("_law_mixed",top 87,2),("_law_draw",top 88,2),("_law_unlike",top 89,3),("_law_rules",top 90,4),("_law_book",top 91,2),("_law_side",top 92,3),("_law_stand",top 93,5),("_law_next",top 94,2),("_law_due",top 95,3),("_law_walked",top 96,3)]
noncomputable def tbl:List M.Row:=acO++acN++acM
noncomputable def zs:List Str:=["dict","enumerate","int","isinstance","len","list","range","reversed","str","sum"]
noncomputable def J4:List Str:=["bare_cost","full_cost","plan","written"]
noncomputable def J5:List Str:=["by_key","letters","moves","rules","sign_trees","signs","start_cost","state_trees","states"]
def zo8{us:List Value}{n:Nat}(h:us.length=n+1):∃a v,us=a::v/\v.length=n:=by
 cases us with
 | nil=>cases h
 | cons a v=>exact⟨a,v,rfl,by simpa using h⟩
def us1{us:List Value}(h:us.length=1):∃a,us=[a]:=my.mp h
def us2{us:List Value}(h:us.length=2):∃a0 a1,us=[a0,a1]:=by
 obtain⟨a0,v,e,h⟩:=zo8 h;obtain⟨a1,e2⟩:=us1 h;exact⟨a0,a1,by rw[e,e2]⟩
def us3{us:List Value}(h:us.length=3):∃a0 a1 a2,us=[a0,a1,a2]:=by
 obtain⟨a0,v,e,h⟩:=zo8 h;obtain⟨a1,a2,e2⟩:=us2 h;exact⟨a0,a1,a2,by rw[e,e2]⟩
def us4{us:List Value}(h:us.length=4):∃a0 a1 a2 a3,us=[a0,a1,a2,a3]:=by
 obtain⟨a0,v,e,h⟩:=zo8 h;obtain⟨a1,a2,a3,e2⟩:=us3 h;exact⟨a0,a1,a2,a3,by rw[e,e2]⟩
def us5{us:List Value}(h:us.length=5):∃a0 a1 a2 a3 a4,us=[a0,a1,a2,a3,a4]:=by
 obtain⟨a0,v,e,h⟩:=zo8 h;obtain⟨a1,a2,a3,a4,e2⟩:=us4 h;exact⟨a0,a1,a2,a3,a4,by rw[e,e2]⟩
set_option genInjectivity false in
structure Adr where
 j_:Addr
 iK:FuncData
 qI:Addr
 qH:FuncData
 fY:Addr
 fW:FuncData
 lq:Addr
 iM:FuncData
 jD:Addr
 jw:FuncData
 jE:Addr
 jx:FuncData
 jF:Addr
 jy:FuncData
 yL:Addr
 yE:FuncData
 t8:Addr
 wj:Addr
structure Txt(P:Program)(w:World)(K:PySem.W.Frag)(mg:Str->Option Value)(base:Heap)(A:Adr):Prop where
 hB:BMain mg base
 tb:∀p∈tbl,Fn K mg p
 z:∀x∈zs,mg x=none
 abn:∀f∈J4,jc K A.t8 f
 J6:∀f∈J5,jc K A.wj f
 rW:Zt K "tree_run" "tree_run" Ue A.j_ A.iK
 yg:mg "tree_run" = some (.ref A.j_)
 zc6:Binds K A.iK ["tree","most"] []
 Ol:∃t,Binds K A.iK ["tree","most"] [.int 1000 t]
 v7:yN K "put_in" Ef A.qI A.qH
 Ao:mg "put_in" = some (.ref A.qI)
 zeu:Binds K A.qH ["term","puts"] []
 jQ:yN K "out_and_cost" Ed A.fY A.fW
 tX:mg "out_and_cost" = some (.ref A.fY)
 zb1:Binds K A.fW ["name","term"] []
 rY:yN K "tape_run" N5 A.lq A.iM
 yh:mg "tape_run" = some (.ref A.lq)
 zdw:Binds K A.iM ["rules","stand","most"] []
 Om:∃t,Binds K A.iM ["rules","stand","most"] [.int 100 t]
 xq:DP K "__init__" "Move.__init__" ze0 A.jD A.jw
 qp:Mk K A.t8 A.jD
 zbu:Binds K A.jw ["self","move","sign_trees"] []
 xr:DP K "deed" "Move.deed" Z9 A.jE A.jx
 wW:Meth K A.t8 "deed" A.jE
 zde:Binds K A.jx ["self","sign","way"] []
 xu:DP K "__init__" "Book.__init__" zci A.jF A.jy
 wX:Mk K A.wj A.jF
 zda:Binds K A.jy ["self","rules","signs","states"] []
 R3:DP K "law" "law" Zy A.yL A.yE
 acD:mg "law" = some (.ref A.yL)
 zpu:Binds K A.yE ["_law_script"] []
 sE:PySem.W.nsIn K mainGlobals "Move" = some #[9,A.t8]
 Dm:mg "Move" = some (.ref A.t8)
 Dq:DQ K A.t8
 sG:PySem.W.nsIn K mainGlobals "Book" = some #[9,A.wj]
 SN:mg "Book" = some (.ref A.wj)
 yG:DQ K A.wj
 xU:∃t,mg "BLANK" = some (.str "_" t)
 lM:∃t,mg "NO_THINGS" = some (.str "K" t)
 jY:∃a,mg "BARE_NAMES" = some (.ref a)/\∀μ H,aq K μ H (.tup [.str [121],.str [120]]) (.ref a)
 jX:∃a,mg "DEED_NAMES" = some (.ref a)/\∀μ H,aq K μ H 0x29 (.ref a)
 jo:∃a,mg "ENTRY_NAMES" = some (.ref a)/\∀μ H,aq K μ H (.tup [.str [102],.str [118]]) (.ref a)
 jW:∃a,mg "FULL_NAMES" = some (.ref a)/\∀μ H,aq K μ H (.tup [.str [97],.str [116],.str [121],.str [120]]) (.ref a)
 qz:∃a,mg "IDENTITY" = some (.ref a)/\∀μ H,aq K μ H 0x30 (.ref a)
 lK:∃a,mg "ROW_NAMES" = some (.ref a)/\∀μ H,aq K μ H (.tup [.str [108],.str [115],.str [114],.str [102]]) (.ref a)
def zhh:cX ["tree","most","here","above","steps"] ["tree","most"] (aD Ue):=R1
def zko:cX ["term","puts"] ["term","puts"] (aD Ef):=R1
def zee:cX ["name","term","taken"] ["name","term"] (aD Ed):=R1
def zhp:cX ["rules","stand","most","table"] ["rules","stand","most"] (aD N5):=R1
def zf4:cX ["self","move","sign_trees","term","bare","full","sign","puts","start"] ["self","move","sign_trees"] (aD ze0):=R1
def zf6:cX ["self","sign","way","puts"] ["self","sign","way"] (aD Z9):=R1
def zgg:cX ["self","rules","signs","states","rows","table"] ["self","rules","signs","states"] (aD zci):=R1
def zss:cX ["_law_script","_law_draws","_law_rules_here","_law_signs","_law_states","_law_book_here","_law_stand_here","_law_most","_law_due_here","_law_found","_law_behind"] ["_law_script"] (aD Zy):=R1
section
variable  {P:Program}{w:World}{K:PySem.W.Frag}{mg:Str->Option Value}{base:Heap}{Ad:Adr}(T:Txt P w K mg base Ad)
abbrev Ck(_:Txt P w K mg base Ad)(F:FD)(n:Str)(k a:Nat):Prop:=Cl F n k a P w K mg base
include T
set_option hygiene false in
local macro_rules | `(tactic| trivial)=>`(tactic| repeat' first | eq_refl | (with_reducible (first | refine' Br _ ?_ ?_ ?_ ?_ | refine' zB ?_ ?_ ?_ | exact Od | exact Yh)) | exact Or.inl rfl | exact Or.inr rfl | exact Or.inr (Or.inl rfl) | exact Or.inr (Or.inr rfl) | exact nd | ((with_reducible refine' qu ?G ?H ?_ ?_ ?_ ?_ ?_ ?_ ?_ ?_ ?_);(case G=>with_reducible assumption);(case H=>exact hr)) | (with_reducible (first | refine' Vn ?_ ?_ ?_ | exact Zx | refine' DX ?_ | refine' jL ?_ ?_ | refine' Vi ?_ | refine' T4 _ ?_ ?_ ?_ ?_ ?_ ?_ | exact Ku | refine' Kv ?_ ?_ ?_ | refine' abx ?_ ?_ ?_ | refine' XS _ ?_ | refine' XR ?_ | refine' Yd ?_ | refine' Kr ?_ ?_ | refine' zs4 ?_ ?_ | refine' Az ?_ ?_ ?_ ?_ ?_ ?_ ?_ | refine' Ye ?_ ?_ ?_ ?_ | refine' Aw ?_ ?_ ?_ ?_ ?_ ?_ | refine' Ro _ ?_ ?_ ?_ ?_ | refine' Kq ?_ ?_ | refine' Rg ?_ | refine' Ux ?_ ?_ | refine' Xz ?_ | refine' XC ?_ | refine' Ky ?_ ?_ ?_ ?_ ?_ | refine' zqj ?_ ?_ ?_ | exact Kw | exact abA | exact Yc | refine' XM _ ?_ ?_ ?_ ?_ | refine' KD ?_ ?_ ?_ | exact Rn | refine' XH ?_ | refine' XF ?_ | refine' abu ?_ | refine' Gd ?_ ?_ ?_ ?_ | refine' Rm ?_ ?_ ?_ ?_ | refine' KC ?_ ?_ ?_ ?_ | refine' XJ ?_ ?_ ?_ ?_ | refine' Rk ?_ ?_ ?_ ?_ | refine' Rj ?_ ?_ ?_ ?_ | refine' X_ ?_ | refine' Yl ?_ ?_ | refine' abw ?_ ?_ | refine' aby ?_ ?_ ?_ | refine' KH ?_ ?_ ?_ | exact Ri | refine' Rh ?_ | refine' CT ?_ ?_ ?_ ?_ ?_ | refine' zo5 ?_ ?_ ?_ | exact CP | exact Rp | exact KR | exact Hw | refine' Yb ?_ | refine' XX ?_ ?_)) | ((with_reducible refine' Uy ?_ ?_ ?_);(with_reducible first | exact Cv | exact QT | exact QS | exact QQ | exact JN | exact Fy)) | ((with_reducible refine' XD ?_ ?_ ?_ ?_);(with_reducible first | refine' JQ ?_ | refine' JD ?_ | exact JF | exact JK | exact JH | exact zlx | exact zj8 | refine' Cu ?_ | refine' zm3 ?_)) | ((with_reducible refine' Yk ?_ ?_ ?_ ?_);(with_reducible first | refine' JQ ?_ | refine' JD ?_ | exact JF | exact JK | exact JH | exact zlx | exact zj8 | refine' Cu ?_ | refine' zm3 ?_)) | ((with_reducible refine' Yj ?G ?H ?_ ?_ ?_ ?_ ?_);(case G=>with_reducible assumption);(case H=>exact hr)) | ((with_reducible refine' KY ?G ?_ ?_ ?_ ?_ ?_ ?_ ?_ ?_);(case G=>first | (with_reducible exact GX) | exact GK hr.hd)) | ((with_reducible refine' Ge ?G ?_ ?_ ?_ ?_ ?_ ?_ ?_ ?_);(case G=>with_reducible first | exact zr9 | exact GZ | exact zut)) | ((with_reducible refine' abv ?_ ?_);(with_reducible first | exact O7)) | ((with_reducible refine' XQ ?_ ?_ ?_ ?_);(with_reducible first | refine' V_ ?_ | refine' aaO ?_ | exact aaN)) | ((with_reducible refine' Yi ?G ?_ ?_ ?_ ?_);(case G=>first | exact T.sG | exact T.sE)) | ((with_reducible refine' Ax ?G ?_ ?_ ?_ ?_ ?_);(case G=>first | exact T.sG | exact T.sE)) | ((with_reducible refine' Yg ?_ ?_ ?_ ?_ ?_ ?_ ?_ ?_ ?_ ?_ ?_ ?_ ?_);(with_reducible first | exact Rb)) | (with_reducible refine JW.jt (Kq ?_ ?_)) | (with_reducible refine JW.jt (Ux ?_ ?_)) | (with_reducible refine' Ov afP afz PySem.F.type_dict_get (zr4 ?_) ?_ ?_ ?_ ?_ ?_ ?_ ?_) | (with_reducible refine' Ov afP afz PySem.F.type_dict_get (Q8 ?_) ?_ ?_ ?_ ?_ ?_ ?_ ?_) | (with_reducible refine' Ov afP PySem.F.slot_dict_setdefault PySem.F.type_dict_setdefault (zsb ?_) ?_ ?_ ?_ ?_ ?_ ?_ ?_) | (with_reducible refine' Ov afO PySem.F.slot_list_index PySem.F.type_list_index ztp ?_ ?_ ?_ ?_ ?_ ?_ ?_) | (with_reducible refine' Ov afQ PySem.F.slot_str_index PySem.F.type_str_index zva ?_ ?_ ?_ ?_ ?_ ?_ ?_) | (with_reducible refine' Ov afQ PySem.F.slot_str_join PySem.F.type_str_join zsk ?_ ?_ ?_ ?_ ?_ ?_ ?_) | (with_reducible refine' zor afO PySem.F.slot_list_pop PySem.F.type_list_pop Q7 ?_ ?_ ?_) | (with_reducible refine' zor afO PySem.F.slot_list_reverse PySem.F.type_list_reverse zrj ?_ ?_ ?_) | (with_reducible refine' zor afQ PySem.F.slot_str_isalpha PySem.F.type_str_isalpha zrl ?_ ?_ ?_) | ((with_reducible refine' KQ _ ?G ?_ ?_ ?_);(case G=>first | exact T.xU | exact T.lM)) | ((with_reducible refine' KN ?G ?_ ?_);(case G=>first | exact T.jY | exact T.jX | exact T.jo | exact T.jW | exact T.qz | exact T.lK)) | decide +kernel | exact hr | exact λ_ _=>rfl | (intro _;rfl) | exact PassesOwn.never | exact adS _ | (show List.Nodup [_];decide +kernel) | (show List.Nodup [_,_];decide +kernel) | exact UG hr | exact huL 800 hr 0x0 | exact T.z _ 0x8 | exact hr.hd | exact⟨rfl,rfl,rfl,rfl,rfl⟩ | exact List.cons_ne_nil _ _ | exact T.yG | exact T.Dq | exact T.J6 _ 0x8 | exact T.abn _ 0x8 | omega | refine DX ?_ | refine jL ?_ ?_ | refine Vi ?_ | intro _ _ _ _ _ _ hr nd)
def zc3:Ck T Bu "is_value" 41 1:=dN (N:=[_]) 3 T.tb (hb:=by trivial)
def zq2:Ck T ze6 "is_done" 42 2:=dN (N:=[_,_]) 1 T.tb (hb:=by have:=zc3 T;trivial)
def zs2:Ck T zel "leaves" 41 1:=dN (N:=[_]) 2 T.tb (hb:=by trivial)
def Hg:Ck T sY "joint" 43 2:=dN (N:=[_,_]) 0 T.tb (hb:=by have:=zs2 T;have:=zq2 T;trivial)
def zuk:Ck T Z5 "joined" 44 2:=dN (N:=[_,_]) 4 T.tb (hb:=by have:=Hg T;trivial)
def zrc:Ck T ze3 "changed" 44 2:=dN (N:=[_,_]) 5 T.tb (hb:=by have:=Hg T;trivial)
def zna:cD P w K mg base qy 45 Ad.j_ Ad.iK ["tree","most"] (vz K 2 Vy):=by
 have nd:=zhh.nd;refine cD.imp (Y6 (m:=zc6) T.rW zhh λcdv A outer s H hr=>?_) λvs H Q E h=>rD h;exact (by have:=zc3 T;have:=zuk T;have:=zrc T;trivial)
def zjj:Ck T Vy "tree_run" 45 2:=⟨_,_,_,rfl,T.yg,T.rW.kp,T.zc6,zna T⟩
def zlb:Ck T zcv "leaf_taken" 41 2:=dN (N:=[_,_]) 13 T.tb (hb:=by trivial)
def zfj:Ck T zbc "or_constant" 44 2:=dN (N:=[_,_]) 15 T.tb (hb:=by have:=Hg T;trivial)
def zjx:Ck T zch "joint_taken" 45 4:=dN (N:=[_,_,_,_,_,_]) 14 T.tb (hb:=by have:=zc3 T;have:=zfj T;have:=Hg T;trivial)
def zgw:Ck T zcb "moved_by_table" 41 2:=dN (N:=[_,_,_,_,_]) 33 T.tb (hb:=by trivial)
def Kp:xM P w K mg base 45 (iR 0) ["leaf"] e_0 :=
 let _:=T;⟨⟨rfl,rfl,rfl,by decide +kernel,by decide +kernel,by decide +kernel,by decide +kernel,by decide +kernel⟩,λ_ _ _ _ us hl=>by obtain⟨_,rfl⟩:=us1 hl;exact rfl,λf cd cl A outer s H hr=>(Ov afP afz PySem.F.type_dict_get (zr4 (UG hr)) (Br 0) (Vn (Br 1) (Vn (Br 1) Zx)))⟩
def Ko:xM P w K mg base 45 (iR 1) ["part","left","right"] e_1 :=
 ⟨⟨rfl,rfl,rfl,by decide +kernel,by decide +kernel,by decide +kernel,by decide +kernel,by decide +kernel⟩,λ_ _ _ _ us hl=>by obtain⟨_,_,_,rfl⟩:=us3 hl;exact rfl,λf cd cl A outer s H hr=>(qu (Hg T) hr (zB (Br 1) (zB (Br 2) Od)))⟩
def Km:xM P w K mg base 45 (iR 2) ["leaf"] e_2 :=
 ⟨⟨rfl,rfl,rfl,by decide +kernel,by decide +kernel,by decide +kernel,by decide +kernel,by decide +kernel⟩,λ_ _ _ _ us hl=>by obtain⟨_,rfl⟩:=us1 hl;exact rfl,λf cd cl A outer s H hr=>(qu (zlb T) hr (zB (Br 0) (zB (Br 1) Od)))⟩
def Kl:xM P w K mg base 45 (iR 3) ["part","left","right"] e_3 :=
 ⟨⟨rfl,rfl,rfl,by decide +kernel,by decide +kernel,by decide +kernel,by decide +kernel,by decide +kernel⟩,λ_ _ _ _ us hl=>by obtain⟨_,_,_,rfl⟩:=us3 hl;exact rfl,λf cd cl A outer s H hr=>(qu (zjx T) hr (zB (Br 0) (zB (Br 1) (zB (Br 2) (zB (Br 3) Od)))))⟩
def Kh:xM P w K mg base 45 (iR 4) ["here"] e_4 :=
 ⟨⟨rfl,rfl,rfl,by decide +kernel,by decide +kernel,by decide +kernel,by decide +kernel,by decide +kernel⟩,λ_ _ _ _ us hl=>by obtain⟨_,rfl⟩:=us1 hl;exact rfl,λf cd cl A outer s H hr=>(qu (zgw T) hr (zB (Br 0) (zB (Br 1) Od)))⟩
theorem ztw:Nr P w K mg base 45 iR GL
 | 0=>.inr ⟨["leaf"],_,Kp T,rfl⟩
 | 1=>.inr ⟨["part","left","right"],_,Ko T,rfl⟩
 | 2=>.inr ⟨["leaf"],_,Km T,rfl⟩
 | 3=>.inr ⟨["part","left","right"],_,Kl T,rfl⟩
 | 4=>.inr ⟨["here"],_,Kh T,rfl⟩
 | _+5=>.inl λ_ _=>rfl
def zl9:Ck T NP "folded" 47 3:=dN (N:=[_,_,_,_,_,_,_,_,_]) 6 T.tb (hb:=by intro _ _ _ _ _ _ hr nd;exact (jL 0x4 (jL 0x4 (jL 0x4 (jL 0x4 (jL (Aw 0x4 0x4 (DX (Kv 0x4 (DX (zs4 (Az 0x4 (Vn (znt (ztw T) (hr.mono 0x5) 1 0x4) Zx)))) (jL 0x4 (jL 0x4 (DX (zs4 (Az 0x4 (Vn (znt (ztw T) (hr.mono 0x5) 2 0x4) Zx)))))))) PassesOwn.never rfl) 0x4))))))
def zq4:cD P w K mg base qy 48 Ad.qI Ad.qH ["term","puts"] (vz K 2 Hi):=by
 have nd:=zko.nd;refine cD.imp (Bg (m:=zeu) T.v7 zko λcdv A outer s H hr hT=>?_) λvs H Q E h=>rD h;exact (by exact (DX (Vi (K3 (zl9 T) hr (zqt 0x4 (zu7 (Λ:=iR) (x:="put_in") (j:=0) (k:=2) (cap:=[1]) T.hB hT (zje (sc0:=aD Ef) rfl 0x8 0x8 rfl) rfl rfl rfl rfl rfl (zu7 (Λ:=iR) (x:="put_in") (j:=1) (k:=2) (cap:=[]) T.hB hT (zje (sc0:=aD Ef) rfl 0x8 0x8 rfl) rfl rfl rfl rfl rfl Ay))) (λ_=>rfl) (zh8 (zjf (zjf zoc)))))))
def zeg:Ck T Hi "put_in" 48 2:=⟨_,_,_,rfl,T.Ao,T.v7.kp,T.zeu,zq4 T⟩
def zh3:cD P w K mg base qy 48 Ad.fY Ad.fW ["name","term"] (vz K 2 VF):=by
 have nd:=zee.nd;refine cD.imp (Bg (m:=zb1) T.jQ zee λcdv A outer s H hr hT=>?_) λvs H Q E h=>rD h;exact (by have:=zfj T;exact (jL (T4 2 (K3 (zl9 T) hr (zqt 0x4 (zu7 (Λ:=iR) (x:="out_and_cost") (j:=2) (k:=1) (cap:=[0]) T.hB hT (zje (sc0:=aD Ed) rfl 0x8 0x8 rfl) rfl rfl rfl rfl rfl (zu7 (Λ:=iR) (x:="out_and_cost") (j:=3) (k:=1) (cap:=[0]) T.hB hT (zje (sc0:=aD Ed) rfl 0x8 0x8 rfl) rfl rfl rfl rfl rfl Ay))) (λ_=>rfl) (zh8 (zjf (zjf zoc)))) nd) 0x4))
def zc0:Ck T VF "out_and_cost" 48 2:=⟨_,_,_,rfl,T.tX,T.jQ.kp,T.zb1,zh3 T⟩
def zhm:Ck T zc8 "taken_out" 49 2:=dN (N:=[_,_]) 7 T.tb (hb:=by have:=zc0 T;trivial)
def zo7:Ck T zeb "out_cost" 49 2:=dN (N:=[_,_]) 8 T.tb (hb:=by have:=zc0 T;trivial)
def zdn:Ck T za5 "made_and_costs" 49 2:=dN (N:=[_,_,_,_,_,_]) 12 T.tb (hb:=by have:=zc0 T;trivial)
def ze5:Ck T O2 "made_of" 50 2:=dN (N:=[_,_]) 9 T.tb (hb:=by have:=zdn T;trivial)
def zcp:Ck T NZ "made_costs" 50 2:=dN (N:=[_,_]) 10 T.tb (hb:=by have:=zdn T;trivial)
def zgm:Ck T NQ "handed" 44 2:=dN (N:=[_,_,_,_]) 11 T.tb (hb:=by have:=Hg T;trivial)
def zgx:Ck T O1 "unasked" 44 2:=dN (N:=[_,_,_,_]) 18 T.tb (hb:=by have:=Hg T;trivial)
def zlc:Ck T Ox "pick" 50 2:=dN (N:=[_,_]) 16 T.tb (hb:=by have:=zgx T;have:=zhm T;trivial)
def zho:Ck T zbt "pick_cost" 50 2:=dN (N:=[_,_]) 17 T.tb (hb:=by have:=zo7 T;have:=zgx T;trivial)
def M7:Ck T zli "kept" 50 1:=dN (N:=[_]) 24 T.tb (hb:=by have:=zc3 T;have:=Hg T;have:=zhm T;trivial)
def Vw:Ck T NK "holder" 51 1:=dN (N:=[_,_,_]) 23 T.tb (hb:=by have:=Hg T;have:=M7 T;trivial)
def zhj:Ck T Vz "list_with" 52 2:=dN (N:=[_,_]) 20 T.tb (hb:=by have:=zgx T;have:=Vw T;trivial)
def zgz:Ck T Z8 "list_of" 53 1:=dN (N:=[_,_,_]) 19 T.tb (hb:=by have:=zhj T;trivial)
def zsl:Ck T ZJ "pack" 52 3:=dN (N:=[_,_,_]) 21 T.tb (hb:=by have:=Vw T;trivial)
def zsj:Ck T zfy "end_of" 52 4:=dN (N:=[_,_,_,_]) 22 T.tb (hb:=by have:=Vw T;trivial)
def zdf:Ck T O4 "holder_cost" 41 1:=dN (N:=[_]) 25 T.tb (hb:=by trivial)
def zc5:Ck T O5 "has_in_front" 41 2:=dN (N:=[_,_]) 28 T.tb (hb:=by trivial)
def zhy:Ck T zcn "has_held_form" 42 1:=dN (N:=[_]) 27 T.tb (hb:=by have:=zc5 T;trivial)
def znv:Ck T ZR "held" 43 2:=dN (N:=[_,_,_,_]) 26 T.tb (hb:=by have:=zhy T;have:=zc3 T;trivial)
def zmq:Ck T zc9 "things_of" 44 1:=dN (N:=[_,_,_,_]) 29 T.tb (hb:=by have:=zc5 T;have:=znv T;trivial)
def zjn:Ck T Uc "picked" 51 2:=dN (N:=[_,_,_,_]) 30 T.tb (hb:=by have:=zc5 T;have:=zlc T;trivial)
def zjw:Ck T zbo "stands_from" 47 3:=dN (N:=[_,_,_,_,_]) 31 T.tb (hb:=by intro _ _ _ _ _ _ hr nd;exact (jL 0x4 (jL (zqj 0x4 (jL (T4 4 (znt (ztw T) (hr.mono 0x5) 0 0x4) nd) 0x4) PassesOwn.never) 0x4)))
def zf8:Ck T zbz "rule_table" 41 1:=dN (N:=[_,_,_]) 32 T.tb (hb:=by trivial)
def znb:cD P w K mg base qy 48 Ad.lq Ad.iM ["rules","stand","most"] (vz K 3 zd0):=by
 have nd:=zhp.nd;refine cD.imp (Bg (m:=zdw) T.rY zhp λcdv A outer s H hr hT=>?_) λvs H Q E h=>rD h;exact (by have:=zf8 T;exact (jL 0x4 (DX (Vi (K3 (zjw T) hr (zu7 (Λ:=iR) (x:="tape_run") (j:=4) (k:=3) (cap:=[3]) T.hB hT (zje (sc0:=aD N5) rfl 0x8 0x8 rfl) rfl rfl rfl rfl rfl (zqt 0x4 (zqt 0x4 Ay))) (λ_=>rfl) (zjf (zh8 (zh8 zoc))))))))
def zoh:Ck T zd0 "tape_run" 48 3:=⟨_,_,_,rfl,T.yh,T.rY.kp,T.zdw,znb T⟩
def zhi:Ck T Z_ "deed_name" 41 1:=dN (N:=[_]) 35 T.tb (hb:=by trivial)
def zjs:Ck T zcx "row_term" 45 1:=dN (N:=[_]) 34 T.tb (hb:=by intro _ _ _ _ _ _ hr nd;have:=zgm T;have:=zhi T;exact (DX (Vi (qu (zgm T) hr (zB 0x4 (zB (Uy Cv (T6 (N:=["sign"]) (capt:=[none]) (sc0:=aD (top 51)) 0x4 ⟨rfl,by decide +kernel,by decide +kernel⟩ 0x8 trivial rfl 0x12 (λcl C fp s H=>Hw) 0x12) 0x4) Od))))))
def zno:Ck T zdt "row_plan" 51 1:=dN (N:=[_]) 36 T.tb (hb:=by have:=ze5 T;have:=zjs T;trivial)
def zsa:Ck T zft "row_of" 49 3:=dN (N:=[_,_,_,_,_]) 37 T.tb (hb:=by have:=zhi T;have:=zeg T;trivial)
def zot:Ck T zdr "row_cost" 51 1:=dN (N:=[_]) 38 T.tb (hb:=by have:=zdf T;have:=zcp T;have:=zjs T;trivial)
def ziv:Ck T zc1 "end_term" 53 0:=dN (N:=[]) 39 T.tb (hb:=by have:=zsj T;trivial)
def zof:Ck T zc2 "end_deed" 54 1:=dN (N:=[_]) 40 T.tb (hb:=by have:=zeg T;have:=ze5 T;have:=ziv T;trivial)
def zo0:Ck T zdy "end_cost" 54 0:=dN (N:=[]) 41 T.tb (hb:=by have:=zcp T;have:=ziv T;trivial)
def zm7:Ck T zcl "side_term" 45 1:=dN (N:=[_,_]) 42 T.tb (hb:=by have:=zgm T;have:=Hg T;trivial)
def zku:Ck T zcq "image_term" 53 1:=dN (N:=[_,_]) 43 T.tb (hb:=by have:=zhj T;have:=Hg T;have:=zsl T;trivial)
def zgi:cD P w K mg base qy 54 Ad.jD Ad.jw ["self","move","sign_trees"] (vz K 3 VB):=by
 have nd:=zf4.nd;refine cD.imp (zK (m:=zbu) T.xq zf4 λcdv A outer s H hr=>?_) λvs H Q E h=>rD h;exact (by have:=zku T;have:=zeg T;have:=ze5 T;have:=zm7 T;have:=zcp T;have:=zdf T;trivial)
def zk2:cD P w K mg base qy 49 Ad.jE Ad.jx ["self","sign","way"] (vz K 3 zew):=by
 have nd:=zf6.nd;refine cD.imp (zK (m:=zde) T.xr zf6 λcdv A outer s H hr=>?_) λvs H Q E h=>rD h;exact (by have:=zeg T;trivial)
def zf0:Ck T zb2 "entry_term" 45 0:=dN (N:=[]) 44 T.tb (hb:=by have:=zgm T;trivial)
def zo3:Ck T zdz "entry_of" 51 1:=dN (N:=[_]) 45 T.tb (hb:=by have:=zeg T;have:=ze5 T;have:=zf0 T;trivial)
def zjz:Ck T zcf "tree_of_row" 52 2:=dN (N:=[_,_]) 46 T.tb (hb:=by have:=Vw T;trivial)
def zj9:Ck T ze7 "half_of" 41 1:=dN (N:=[_]) 48 T.tb (hb:=by trivial)
theorem zfm:∀n:Nat,Ck T (Vx n) "table_of" (52+n) 1
 | 0=>Cl.never (nth 47 T.tb)
 | n+1=>by
  have IH:=zfm n;exact dN (N:=[_,_]) (k:=52+n) 47 T.tb (hb:=λ_ _ _ _ _ _ hr nd=>by have:=zj9 T;have:=Vw T;trivial)
def ziz:Ck T zb7 "turns_to" 42 2:=dN (N:=[_,_,_,_,_,_,_]) 49 T.tb (hb:=by have:=zj9 T;trivial)
def zuq:Ck T zgs "way_to" 52 2:=dN (N:=[_,_]) 50 T.tb (hb:=by intro _ _ _ _ _ _ hr nd;have:=Vw T;have:=ziz T;have:=zlc T;exact (DX (Vi (qu (Vw T) hr (zB (T6 (N:=["turn"]) (capt:=[none]) (sc0:=aD (top 70)) 0x4 ⟨rfl,by decide +kernel,by decide +kernel⟩ 0x8 trivial rfl 0x12 (λcl C fp s H=>Hw) 0x12) Od)))))
def zn2:Ck T zfo "way_cost" 51 2:=dN (N:=[_,_,_,_]) 51 T.tb (hb:=by intro _ _ _ _ _ _ hr nd;have:=ziz T;have:=zdf T;have:=zho T;have:=zcp T;have:=zf0 T;exact (jL 0x4 (jL (zmd 3 (N:=["turn"]) (capt:=[none]) (sc0:=aD (top 71)) 0x4 ⟨rfl,by decide +kernel,by decide +kernel⟩ 0x8 trivial rfl 0x12 (λcl C fp s H=>Hw) 0x12 nd) 0x4)))
def znz:Ck T zd7 "deeds_of" 50 4:=dN (N:=[_,_,_,_,_,_,_]) 54 T.tb (hb:=by intro _ _ _ _ _ _ hr nd;exact (jL 0x4 (jL (Aw 0x4 0x4 (jL 0x4 (DX (Kv 0x4 (DX (Ky (KJ T.sE T.Dq T.wW ((zk2 T).mono 0x5) hr T.zde 0x4 0x4 rfl rfl rfl rfl (NB (NB zit))) 0x4)) Ku))) PassesOwn.never rfl) 0x4)))
def zru:Ck T ze9 "rows_of" 55 1:=dN (N:=[_,_,_,_,_,_,_,_,_]) 53 T.tb (hb:=by have:=zno T;have:=zof T;have:=zuq T;have:=zsa T;have:=zlc T;have:=znz T;trivial)
def zh1:Ck T zbp "sign_trees_of" 51 1:=dN (N:=[_,_,_,_]) 52 T.tb (hb:=by have:=zlc T;trivial)
def zlr:cD P w K mg base qy 63 Ad.jF Ad.jy ["self","rules","signs","states"] (vz K 4 zez):=by
 have nd:=zgg.nd;refine cD.imp (zK (m:=zda) T.xu zgg λcdv A outer s H hr=>?_) λvs H Q E h=>rD h;exact (by have:=zf8 T;have:=zh1 T;have:=zot T;have:=zru T;have:=zfm T 10;have:=zo3 T;have:=zjz T;exact (jL 0x4 (jL 0x4 (jL 0x4 (jL 0x4 (jL 0x4 (jL 0x4 (jL (Ax T.sG T.yG (T.J6 _ 0x8) 0x4 (CT (zo5 0x4 (zsm T.sE T.qp ((zgi T).mono 0x5) hr T.Dm T.zbu 0x4 rfl rfl 0x5 rfl rfl (NB (NB zit))) (zo5 0x4 (zsm T.sE T.qp ((zgi T).mono 0x5) hr T.Dm T.zbu 0x4 rfl rfl 0x5 rfl rfl (NB (NB zit))) CP)))) (jL 0x4 (jL 0x4 (jL (T4 5 (qu (zfm T 10) hr (zB (T6 (N:=["row"]) (capt:=[none]) (sc0:=aD zci) 0x4 ⟨rfl,by decide +kernel,by decide +kernel⟩ 0x8 trivial rfl 0x12 (λcl C fp s H=>Hw) 0x12) Od)) nd) (DX (Ax T.sG T.yG (T.J6 _ 0x8) 0x4 (T6 (N:=["table","row"]) (capt:=[some 5,none]) (sc0:=aD zci) 0x4 ⟨rfl,by decide +kernel,by decide +kernel⟩ 0x8 ⟨⟨rfl,by first | exact Or.inl rfl | exact Or.inr rfl,rfl⟩,trivial⟩ rfl 0x12 (λcl C fp s H=>Hw) 0x12))))))))))))))
def zk7:Ck T zd5 "state_tree" 41 2:=dN (N:=[_,_]) 55 T.tb (hb:=by trivial)
def zo6:Ck T zfp "parts_of" 54 2:=dN (N:=[_,_,_,_]) 57 T.tb (hb:=by intro _ _ _ _ _ _ hr nd;have:=zgz T;exact (jL #[34,2] (jL #[34,3] 0x4)))
def zky:Ck T zd3 "tape_image" 55 2:=dN (N:=[_,_,_]) 56 T.tb (hb:=by have:=zo6 T;have:=Hg T;have:=zk7 T;have:=zsl T;trivial)
def zmb:Ck T zey "tape_cost" 55 2:=dN (N:=[_,_,_,_,_,_,_]) 58 T.tb (hb:=by have:=zho T;have:=zo0 T;have:=zn2 T;trivial)
def zkv:Ck T zct "signs_told" 52 2:=dN (N:=[_,_,_,_]) 62 T.tb (hb:=by intro _ _ _ _ _ _ hr nd;have:=zmq T;have:=zjn T;exact (jL 0x4 (jL 0x4 (jL (zmd 3 (N:=["book","thing"]) (capt:=[some 0,none]) (sc0:=aD (top 84)) 0x4 ⟨rfl,by decide +kernel,by decide +kernel⟩ 0x8 ⟨⟨rfl,by first | exact Or.inl rfl | exact Or.inr rfl,rfl⟩,trivial⟩ rfl 0x12 (λcl C fp s H=>Hw) 0x12 nd) (jL 0x4 (DX (Vi (T6 (N:=["book","place"]) (capt:=[some 0,none]) (sc0:=aD (top 84)) 0x4 ⟨rfl,by decide +kernel,by decide +kernel⟩ 0x8 ⟨⟨rfl,by first | exact Or.inl rfl | exact Or.inr rfl,rfl⟩,trivial⟩ rfl 0x12 (λcl C fp s H=>Hw) 0x12))))))))
def zgp:Ck T zcu "stand_told" 53 3:=dN (N:=[_,_,_,_,_,_]) 61 T.tb (hb:=by have:=zkv T;have:=zjn T;trivial)
def zfx:Ck T zby "image_told" 54 2:=dN (N:=[_,_,_,_]) 59 T.tb (hb:=by have:=zgp T;have:=znv T;trivial)
def zo4:Ck T zfq "end_told" 54 2:=dN (N:=[_,_,_]) 60 T.tb (hb:=by have:=znv T;have:=zgp T;have:=zjn T;trivial)
def M9:Ck T Vo "_law_cell" 41 2:=dN (N:=[_,_]) 63 T.tb (hb:=by trivial)
def G6:Ck T zif "_law_mixed" 41 2:=dN (N:=[_,_,_]) 64 T.tb (hb:=by trivial)
def ZL:Ck T uY "_law_draw" 42 2:=dN (N:=[_,_,_]) 65 T.tb (hb:=by have:=G6 T;trivial)
def zud:Ck T zem "_law_unlike" 43 3:=dN (N:=[_,_,_,_,_,_]) 66 T.tb (hb:=by have:=ZL T;trivial)
def G5:Ck T zia "_law_rules" 43 4:=dN (N:=[_,_,_,_,_,_,_,_,_,_,_,_]) 67 T.tb (hb:=by have:=ZL T;trivial)
def M_:Ck T zle "_law_book" 44 2:=dN (N:=[_,_,_,_,_]) 68 T.tb (hb:=by intro _ _ _ _ _ _ hr nd;have:=zud T;have:=ZL T;have:=G5 T;exact (jL 0x4 (jL 0x4 (jL (T4 4 (Ov afQ PySem.F.slot_str_join PySem.F.type_str_join zsk 0x4 (Vn (T6 (N:=["_law_k"]) (capt:=[none]) (sc0:=aD (top 91)) 0x4 ⟨rfl,by decide +kernel,by decide +kernel⟩ 0x8 trivial rfl 0x12 (λcl C fp s H=>Hw) 0x12) Zx)) nd) 0x4))))
def M8:Ck T zi5 "_law_side" 43 3:=dN (N:=[_,_,_,_,_]) 69 T.tb (hb:=by have:=ZL T;trivial)
def G4:Ck T zig "_law_stand" 44 5:=dN (N:=[_,_,_,_,_,_,_,_,_]) 70 T.tb (hb:=by have:=ZL T;have:=M8 T;trivial)
def zti:Ck T zju "_law_next" 41 2:=dN (N:=[_,_,_,_]) 71 T.tb (hb:=by trivial)
def Ti:Ck T zp6 "_law_due" 42 3:=dN (N:=[_,_,_,_]) 72 T.tb (hb:=by have:=zti T;trivial)
def zr1:Ck T zfu "_law_walked" 56 3:=dN (N:=[_,_,_,_,_,_,_,_]) 73 T.tb (hb:=by have:=zfx T;have:=zmb T;have:=zjj T;trivial)
def JV:cD P w K mg base qy 65 Ad.yL Ad.yE ["_law_script"] (vz K 1 zm4):=by
 have nd:=zss.nd;refine cD.imp (zK (m:=zpu) T.R3 zss λcdv A outer s H hr=>?_) λvs H Q E h=>rD h;exact (by have:=M9 T;have:=M_ T;have:=G4 T;have:=ZL T;have:=Ti T;have:=zoh T;have:=zr1 T;have:=zky T;have:=zti T;have:=zfx T;have:=zo4 T;have:=zjj T;exact (jL 0x4 (jL 0x4 (jL (T4 5 (zsm T.sG T.wX ((zlr T).mono 0x5) hr T.SN T.zda 0x4 rfl rfl 0x5 rfl rfl (NB (NB (NB zit)))) nd) 0x4))))
end
def all_mk{l:PySem.W.OpenLaw}{w:World}{K:PySem.W.Frag}{h:Heap}{mg:Str->Option Value}{fa f4 f8 f15 f36 f48 f49 f58 f81:Addr}(X:K.In h)(G:h.Ns mainGlobals mg)(hfa:mg "law" = some (.ref fa))
  {od4 an4:Option Addr} {sl4:Array 0xe} {oc4 kV4 dc4 pm4 cd4 ct4:Value}
  {od8 an8:Option Addr} {sl8:Array 0xe} {oc8 kV8 dc8 pm8 ct8:Value}
  {adM aci:Option Addr} {ac8:Array 0xe} {adQ abt ab2 aa8 ab5:Value}
  {adL Zk:Option Addr} {ac7:Array 0xe} {adP Xy Zc Wu Zf:Value}
  {adK aeI:Option Addr} {ac6:Array 0xe} {adO adY aeB adH acb aeD:Value}
  {adJ aeH:Option Addr} {ac5:Array 0xe} {adN adX aeA adG aca aeC:Value}
  {jH:Addr} (Dk:PySem.W.nsIn K mainGlobals "Move" = some #[9,jH]) (Sv:PySem.W.plainGet K jH Str.empty=true) (Tc:PySem.W.hasDictIn K jH=true) (Sy:PySem.W.plainOver K jH=true) (Sq:PySem.W.findIn K (.ref jH) "__setattr__" = some (some (.builtin "object.__setattr__"))) (SX:PySem.W.makesIn K jH=true) (Te:PySem.W.keepIn K (.ref jH)=true)
  {lr:Addr} (Dl:PySem.W.nsIn K mainGlobals "Book" = some #[9,lr]) (Sw:PySem.W.plainGet K lr Str.empty=true) (Td:PySem.W.hasDictIn K lr=true) (SJ:PySem.W.plainOver K lr=true) (Ss:PySem.W.findIn K (.ref lr) "__setattr__" = some (some (.builtin "object.__setattr__"))) (S_:PySem.W.makesIn K lr=true) (Tf:PySem.W.keepIn K (.ref lr)=true)
  {dT4:Addr} {aew:Value} {aev:Option Addr} {dn4:Nat} {aet:Tok} {aeu:Array 0xe}
  (a4:PySem.W.nsIn K mainGlobals "tree_run" = some #[9,f4]) (l4:K.lookup f4=some ⟨oc4,od4,.func (PySem.W.fnOf "tree_run" "tree_run" (bZ Ue) (a_ Ue) (aD Ue) (.ref dT4) kV4 dc4 pm4 an4 cd4 ct4),sl4⟩) (c4:PySem.W.codeIn K cd4 "tree_run" = true) (k4:PySem.W.keepIn K (.ref f4)=true) (ld4:K.lookup dT4=some ⟨aew,aev,.seq #[.int 1000 aet] dn4,aeu⟩)
  {q8:Addr}
  (a8:PySem.W.nsIn K mainGlobals "put_in" = some #[9,f8]) (l8:K.lookup f8=some ⟨oc8,od8,.func (PySem.W.fnOf "put_in" "put_in" (bZ Ef) (a_ Ef) (aD Ef) .none kV8 dc8 pm8 an8 (.ref q8) ct8),sl8⟩) (c8:PySem.W.codeIn K (.ref q8) "put_in" = true) (k8:PySem.W.keepIn K (.ref f8)=true) (h8:PySem.W.codeHdIn K q8 75=true) (n8:K.lookup 75=none)
  {q15:Addr}
  (a15:PySem.W.nsIn K mainGlobals "out_and_cost" = some #[9,f15]) (l15:K.lookup f15=some ⟨adQ,adM,.func (PySem.W.fnOf "out_and_cost" "out_and_cost" (bZ Ed) (a_ Ed) (aD Ed) .none abt ab2 aa8 aci (.ref q15) ab5),ac8⟩) (c15:PySem.W.codeIn K (.ref q15) "out_and_cost" = true) (k15:PySem.W.keepIn K (.ref f15)=true) (h15:PySem.W.codeHdIn K q15 124=true) (n15:K.lookup 124=none)
  {ab4:Addr} {abZ:Value} {abY:Option Addr} {aex:Nat} {abV:Tok} {abW:Array 0xe}
  {q36:Addr}
  (a36:PySem.W.nsIn K mainGlobals "tape_run" = some #[9,f36]) (l36:K.lookup f36=some ⟨adP,adL,.func (PySem.W.fnOf "tape_run" "tape_run" (bZ N5) (a_ N5) (aD N5) (.ref ab4) Xy Zc Wu Zk (.ref q36) Zf),ac7⟩) (c36:PySem.W.codeIn K (.ref q36) "tape_run" = true) (k36:PySem.W.keepIn K (.ref f36)=true) (h36:PySem.W.codeHdIn K q36 272=true) (n36:K.lookup 272=none) (abq:K.lookup ab4=some ⟨abZ,abY,.seq #[.int 100 abV] aex,abW⟩)
  (a48:PySem.W.findIn K (.ref jH) "__init__" = some #[9,f48]) (i48:PySem.W.isFn K (.ref f48)=true) {d48:FuncData} (F48:DP K "__init__" "Move.__init__" ze0 f48 d48)
  (a49:PySem.W.findIn K (.ref jH) "deed" = some #[9,f49]) (i49:PySem.W.isFn K (.ref f49)=true) (l49:K.lookup f49=some ⟨adO,adK,.func (PySem.W.fnOf "deed" "Move.deed" (bZ Z9) (a_ Z9) (aD Z9) .none adY aeB adH aeI acb aeD),ac6⟩) (c49:PySem.W.codeIn K acb "Move.deed" = true) (k49:PySem.W.keepIn K (.ref f49)=true)
  (a58:PySem.W.findIn K (.ref lr) "__init__" = some #[9,f58]) (i58:PySem.W.isFn K (.ref f58)=true) {d58:FuncData} (F58:DP K "__init__" "Book.__init__" zci f58 d58)
  (a81:PySem.W.nsIn K mainGlobals "law" = some #[9,f81]) (l81:K.lookup f81=some ⟨adN,adJ,.func (PySem.W.fnOf "law" "law" (bZ Zy) (a_ Zy) (aD Zy) .none adX aeA adG aeH aca aeC),ac5⟩) (c81:PySem.W.codeIn K aca "law" = true) (k81:PySem.W.keepIn K (.ref f81)=true)
  {Pa:Tok} (xU:PySem.W.nsIn K mainGlobals "BLANK" = some (some (.str "_" Pa)))
  {y_:Tok} (lM:PySem.W.nsIn K mainGlobals "NO_THINGS" = some (some (.str "K" y_)))
  {lU:Addr} {uE:Option Addr} {uH:Nat} {uB:Array 0xe} {rA:Tok} {rm:Tok}
  (jY:PySem.W.nsIn K mainGlobals "BARE_NAMES" = some #[9,lU])
  (uw:K.lookup lU=some ⟨.type "tuple",uE,.seq #[.str "y" rA,.str "x" rm] uH,uB⟩)
  {lR:Addr} {uD:Option Addr} {uG:Nat} {uA:Array 0xe} {q_:Tok} {q9:Tok} {qZ:Tok} {qY:Tok}
  (jX:PySem.W.nsIn K mainGlobals "DEED_NAMES" = some #[9,lR])
  (uv:K.lookup lR=some ⟨.type "tuple",uD,.seq #[.str "n" q_,.str "f" q9,.str "l" qZ,.str "r" qY] uG,uA⟩)
  {lz:Addr} {tH:Option Addr} {tL:Nat} {tG:Array 0xe} {qD:Tok} {qC:Tok}
  (jo:PySem.W.nsIn K mainGlobals "ENTRY_NAMES" = some #[9,lz])
  (tB:K.lookup lz=some ⟨.type "tuple",tH,.seq #[.str "f" qD,.str "v" qC] tL,tG⟩)
  {lQ:Addr} {uC:Option Addr} {uF:Nat} {ux:Array 0xe} {qX:Tok} {qW:Tok} {qU:Tok} {qT:Tok}
  (jW:PySem.W.nsIn K mainGlobals "FULL_NAMES" = some #[9,lQ])
  (ur:K.lookup lQ=some ⟨.type "tuple",uC,.seq #[.str "a" qX,.str "t" qW,.str "y" qU,.str "x" qT] uF,ux⟩)
  {rB:Addr} {wJ:Option Addr} {wL:Nat} {wH:Array 0xe} {jZ:Addr} {wI:Option Addr} {wK:Nat} {wG:Array 0xe} {uK:Tok} {uJ:Tok} {uI:Tok} {uM:Tok} {uL:Tok}
  (qz:PySem.W.nsIn K mainGlobals "IDENTITY" = some #[9,rB])
  (wF:K.lookup rB=some ⟨.type "tuple",wJ,.seq #[.ref jZ,.str "K" uM,.int 3 uL,.bool true] wL,wH⟩)
  (wD:K.lookup jZ=some ⟨.type "tuple",wI,.seq #[.str "S" uK,.str "K" uJ,.int 2 uI,.bool true] wK,wG⟩)
  {qm:Addr} {vp:Option Addr} {vq:Nat} {vo:Array 0xe} {tU:Tok} {tR:Tok} {tQ:Tok} {tO:Tok}
  (lK:PySem.W.nsIn K mainGlobals "ROW_NAMES" = some #[9,qm])
  (vd:K.lookup qm=some ⟨.type "tuple",vp,.seq #[.str "l" tU,.str "s" tR,.str "r" tQ,.str "f" tO] vq,vo⟩)
  (U:Us K tbl) (Z:Zs K zs) (aco:As K jH J4) (acp:As K lr J5)
  :∃fd:FuncData,(∀(s:Shared) (v:Value),BindsTo s fd ⟨[v],[]⟩ [("_law_script",v)])/\(∀p∈tabs,Nm K p.1 p.2)/\∀base:Heap,K.In base->base.Ns mainGlobals mg->BMain mg base->cD l.prog w K mg base qy 65 fa fd ["_law_script"] (vz K 1 zm4):=by
 have e:=hfa.symm.trans (aft X G a81);cases e;have F4:=R0 (st:=Ue) l4 c4 k4;have F8:=zsu (st:=Ef) a8 l8 c8 k8;have F15:=zsu (st:=Ed) a15 l15 c15 k15;have F36:=zsu (st:=N5) a36 l36 c36 k36;have F49:=fun_mk (st:=Z9) l49 c49 k49;have F81:=fun_mk (st:=Zy) l81 c81 k81;have b4:=Nb (x:="tree_run") (qual:="tree_run") (st:=Ue) (ps:=["tree","most"]) (kV:=kV4) (doc:=dc4) (pm:=pm4) (cdv:=cd4) (ct:=ct4) (an:=an4) ld4 λus hl=>by obtain⟨_,_,rfl⟩:=us2 hl;exact⟨_,rfl,rfl⟩
 have bd4:=Ds (x:="tree_run") (qual:="tree_run") (st:=Ue) (ps:=["tree","most"]) (kV:=kV4) (doc:=dc4) (pm:=pm4) (cdv:=cd4) (ct:=ct4) (an:=an4) ld4 λus hl=>by obtain⟨_,rfl⟩:=us1 (Nat.succ.inj hl);exact⟨_,rfl,rfl⟩
 have b8:Binds K (PySem.W.fnOf "put_in" "put_in" (bZ Ef) (a_ Ef) (aD Ef) .none kV8 dc8 pm8 an8 (.ref q8) ct8) ["term","puts"] []:=Binds.all λus hl=>by obtain⟨_,_,rfl⟩:=us2 hl;exact rfl
 have b15:Binds K (PySem.W.fnOf "out_and_cost" "out_and_cost" (bZ Ed) (a_ Ed) (aD Ed) .none abt ab2 aa8 aci (.ref q15) ab5) ["name","term"] []:=Binds.all λus hl=>by obtain⟨_,_,rfl⟩:=us2 hl;exact rfl
 have b36:=Nb (x:="tape_run") (qual:="tape_run") (st:=N5) (ps:=["rules","stand","most"]) (kV:=Xy) (doc:=Zc) (pm:=Wu) (cdv:=(.ref q36)) (ct:=Zf) (an:=Zk) abq λus hl=>by obtain⟨_,_,_,rfl⟩:=us3 hl;exact⟨_,rfl,rfl⟩
 have aeG:=Ds (x:="tape_run") (qual:="tape_run") (st:=N5) (ps:=["rules","stand","most"]) (kV:=Xy) (doc:=Zc) (pm:=Wu) (cdv:=(.ref q36)) (ct:=Zf) (an:=Zk) abq λus hl=>by obtain⟨_,_,rfl⟩:=us2 (Nat.succ.inj hl);exact⟨_,rfl,rfl⟩
 have b48:=F48.binds (ps:=["self","move","sign_trees"]) λ_ _ _ _ _ _ us hl=>by obtain⟨_,_,_,rfl⟩:=us3 hl;exact rfl
 have b49:=F49.binds (ps:=["self","sign","way"]) λ_ _ _ _ _ _ us hl=>by obtain⟨_,_,_,rfl⟩:=us3 hl;exact rfl
 have b58:=F58.binds (ps:=["self","rules","signs","states"]) λ_ _ _ _ _ _ us hl=>by obtain⟨_,_,_,_,rfl⟩:=us4 hl;exact rfl
 have b81:=F81.binds (ps:=["_law_script"]) λ_ _ _ _ _ _ us hl=>by obtain⟨_,rfl⟩:=us1 hl;exact rfl
 exact⟨_,λs v=>.of_eq rfl,pU.mpr ⟨yN.V0 a15 l15 h15 n15,pU.mpr ⟨yN.V0 a8 l8 h8 n8,pU.mpr ⟨yN.V0 a36 l36 h36 n36,List.forall_mem_nil _⟩⟩⟩,λbase _ _ hB=>JV (Ad:=⟨_,_,_,_,_,_,_,_,_,_,_,_,_,_,_,_,_,_⟩) ⟨hB,U.all X G,Z.all X G,aco.all,acp.all,F4,aft X G a4,b4,⟨_,bd4⟩,F8,aft X G a8,b8,F15,aft X G a15,b15,F36,aft X G a36,b36,⟨_,aeG⟩,F48,⟨SX,a48,i48,Te⟩,b48,F49,⟨a49,i49,k49⟩,b49,F58,⟨S_,a58,i58,Tf⟩,b58,F81,aft X G a81,b81,Dk,aft X G Dk,⟨Sv,Tc,Sy,Sq⟩,Dl,aft X G Dl,⟨Sw,Td,SJ,Ss⟩,⟨_,aft X G xU⟩,⟨_,aft X G lM⟩,⟨_,aft X G jY,(aq.kt [.str "y",.str "x"] uw (yV (n:=2) 0x5) #[26,.nil] rfl #[29,ao.n])⟩,⟨_,aft X G jX,(aq.kt [.str "n",.str "f",.str "l",.str "r"] uv (yV (n:=4) 0x5) #[26,(.cons ⟨_,rfl⟩ (.cons ⟨_,rfl⟩ .nil))] rfl #[29,(ao.c (aq.ks rfl) (ao.c (aq.ks rfl) ao.n))])⟩,⟨_,aft X G jo,(aq.kt [.str "f",.str "v"] tB (yV (n:=2) 0x5) #[26,.nil] rfl #[29,ao.n])⟩,⟨_,aft X G jW,(aq.kt [.str "a",.str "t",.str "y",.str "x"] ur (yV (n:=4) 0x5) #[26,(.cons ⟨_,rfl⟩ (.cons ⟨_,rfl⟩ .nil))] rfl #[29,(ao.c (aq.ks rfl) (ao.c (aq.ks rfl) ao.n))])⟩,⟨_,aft X G qz,(aq.kt [.ref jZ,.str "K",.int 3,.bl true] wF (yV (n:=4) 0x5) (.cons rfl #[26,(.cons rfl .nil)]) rfl (ao.c (aq.kt [.str "S",.str "K",.int 2,.bl true] wD (yV (n:=4) 0x5) #[26,(.cons ⟨_,rfl⟩ (.cons rfl .nil))] rfl #[29,(ao.c aq.ki (ao.c aq.kb ao.n))]) (ao.c (aq.ks rfl) (ao.c aq.ki (ao.c aq.kb ao.n)))))⟩,⟨_,aft X G lK,(aq.kt [.str "l",.str "s",.str "r",.str "f"] vd (yV (n:=4) 0x5) #[26,(.cons ⟨_,rfl⟩ (.cons ⟨_,rfl⟩ .nil))] rfl #[29,(ao.c (aq.ks rfl) (ao.c (aq.ks rfl) ao.n))])⟩⟩⟩
end Law
set_option maxHeartbeats 0
noncomputable section
namespace Law
open L2 M Tr
def sW{m1 m2:MS}{env env1:aK}{st st1:ak}(h:m1 env st=.ok (.nx env1) st1):aC m1 m2 env st=m2 env1 st1:=by rw[I_,h];rfl
def DR{i:Nat}{e:ME}{env:aK}{st st1:ak}{d:D}(h:e env st=.ok d st1):aG i e env st=.ok (.nx (env.set i (some d))) st1:=by
 rw[Wg,h];rfl
def oW{c f:PySem.Str}{m:ME}{env:aK}{st:ak}{n:Nat}{fs:List (PySem.Str×D)}{x:D}(hm:m env st=.ok (.loc n) st)(h:st[n]? = some (.ins c fs))(hx:fs.lookup f=some x):cH c f m env st=.ok x st:=by
 unfold cH;rw[hm,R.aB];dsimp only;rw[h];dsimp only;rw[afn rfl,hx]
def zlh{c f:PySem.Str}{mo mv:ME}{env:aK}{st st1:ak}{n:Nat}{fs:List (PySem.Str×D)}{d:D}(hv:mv env st=.ok d st1)(hm:mo env st1=.ok (.loc n) st1)(h:st1[n]? = some (.ins c fs))(hl:fs.length<1000):cQ c f mo mv env st=.ok (.nx env) (st1.set n (.ins c (xG f d fs))):=by
 unfold cQ;rw[hv,R.aB,hm,R.aB];dsimp only;rw[h];dsimp only;rw[afn ⟨rfl,hl⟩]
def bU{F:FD}{mA:MA}{env:aK}{st st1 st2:ak}{as:List D}{d:D}(hF:F as st1=.ok d st2)(ha:mA env st=.ok as st1):az F [] mA env st=.ok d st2:=by simp[ha,hF]
def oZ{f:List D->ak->R D}{mA:MA}{env:aK}{st st1 st2:ak}{as:List D}{d:D}(hF:f as st1=.ok d st2)(ha:mA env st=.ok as st1):bh f mA env st=.ok d st2:=by simp[ha,hF]
def aW{e:ME}{mA:MA}{env:aK}{st st1 st2:ak}{as:List D}{d:D}(h:e env st=.ok d st1)(ha:mA env st1=.ok as st2):aj e mA env st=.ok (d::as) st2:=by simp[ha,h]
def aM{g:D->D->ak->R D}{a b:ME}{env:aK}{st st1 st2 iu:ak}{x y d:D}(ha:a env st=.ok x st1)(hb:b env st1=.ok y st2)(hg:g x y st2=.ok d iu):aF g a b env st=.ok d iu:=by simp[ha,hb,hg]
def b_{i:Nat}{e:ME}{m2:MS}{env:aK}{st st1:ak}{d:D}{r:R Out}(h:e env st=.ok d st1)(k:m2 (env.set i (some d)) st1=r):aC (aG i e) m2 env st=r:=by rw[sW (DR h)];exact k
def oX{t:MT}{a m2:MS}{env:aK}{st st1:ak}{r:R Out}(h:t env st=.ok false st1)(k:m2 env st1=r):aC (fu t a bB) m2 env st=r:=by simp[h,k]
def yd{e:ME}{G:MG}{m2:MS}{env env1:aK}{st st1 st2:ak}{d:D}{r:R Out}(h:e env st=.ok d st1)(hg:G d env st1=.ok env1 st2)(k:m2 env1 st2=r):aC (jB e G) m2 env st=r:=by simp[h,hg,k]
def ztl{a b:MT}{env:aK}{st st1 st2:ak}{c:Bool}(h:a env st=.ok false st1)(k:b env st1=.ok c st2):Oa a b env st=.ok c st2:=by simp[h,k]
def Ae{a:MT}{env:aK}{st st1:ak}{c:Bool}(h:a env st=.ok c st1):vJ a env st=.ok (!c) st1:=by simp[h]
def sS{a:ME}{env:aK}{st st1:ak}{x:D}{c:Bool}(h:a env st=.ok x st1)(k:jh x st1=some c):lu a env st=.ok c st1:=by simp[h,k]
def DW{g:D->ak->R D}{a:ME}{env:aK}{st st1 st2:ak}{x d:D}(ha:a env st=.ok x st1)(hg:g x st1=.ok d st2):wA g a env st=.ok d st2:=by simp[ha,hg]
def zuj{a b:ME}{env:aK}{st st1 st2:ak}{d:D}(h:a env st=.ok (.bl true) st1)(k:b env st1=.ok d st2):yK a b env st=.ok d st2:=by simp[h,k]
def fB{e:ME}{env:aK}{st st1:ak}{d:D}(h:e env st=.ok d st1):retS e env st=.ok (.rt d) st1:=by simp[h]
def tu{mA:MA}{env:aK}{st st1:ak}{ds:List D}(h:mA env st=.ok ds st1)(hl:ds.length<=1000000:=by simp):fD mA env st=.ok (.tup ds) st1:=by simp[h,hl]
def dq{a:ME}{env:aK}{st st1:ak}{c:Bool}(h:a env st=.ok (.bl c) st1):dM a env st=.ok c st1:=by simp[h]
def bf{x:R Out}{f:Out->ak->R D}{st st1:ak}{d:D}{r:R D}(h:x=.ok (.rt d) st1)(hf:f (.rt d) st1=.ok d st1)(k:gc st (.ok d st1)=r):gc st (x.bind f)=r:=by rw[h,R.aB,hf];exact k
def sX{T:String}{f:D->List D->ak->R D}{mo:ME}{mA:MA}{env:aK}{st st1 st2 iu:ak}{x d:D}{as:List D}(h:mo env st=.ok x st1)(ht:cM T x st1=true)(ha:mA env st1=.ok as st2)(hf:f x as st2=.ok d iu):cz T f mo mA env st=.ok d iu:=by simp[h,ht,ha,hf]
def Hu{c f:PySem.Str}{mo mv:ME}{m2:MS}{env:aK}{st st1 st2:ak}{n:Nat}{fs:List (PySem.Str×D)}{d:D}{r:R Out}(hv:mv env st=.ok d st1)(hm:mo env st1=.ok (.loc n) st1)(h:st1[n]? = some (.ins c fs))(e:st1.set n (.ins c (xG f d fs))=st2)(k:m2 env st2=r)(hl:fs.length<1000:=by simp):aC (cQ c f mo mv) m2 env st=r:=by rw[sW (zlh hv hm h hl),e];exact k
def Hf{mi:MI}{g:MG}{b m2:MS}{env env1:aK}{st st1 st2:ak}{s:List D}{gs:List (Nat×MO)}{r:R Out}(hi:mi env st=.ok (s,gs) st1)(h:cA g b gs s env st1=.ok (.nx env1) st2)(k:m2 env1 st2=r):aC (iW mi g b) m2 env st=r:=by rw[sW (by rw[Ak,hi,R.aB];exact h)];exact k
def yJ{e:ME}{G:MG}{env env1:aK}{st st1 st2:ak}{d:D}(h:e env st=.ok d st1)(hg:G d env st1=.ok env1 st2):jB e G env st=.ok (.nx env1) st2:=by simp[h,hg]
def ZD{g:D->D->D->ak->R Unit}{a b:ME}{d x y:D}{env:aK}{st st1 st2 iu:ak}(ha:a env st=.ok x st1)(hb:b env st1=.ok y st2)(hg:g x y d st2=.ok () iu):tV g a b d env st=.ok env iu:=by simp[ha,hb,hg]
def yR{e:ME}{env:aK}{st st1:ak}{d:D}(h:e env st=.ok d st1):dF e env st=.ok (.nx env) st1:=by simp[h]
def U4{x:R Out}{f:Out->ak->R D}{env:aK}{st st1:ak}{r:R D}(h:x=.ok (.nx env) st1)(hf:f (.nx env) st1=.ok .non st1)(k:gc st (.ok .non st1)=r):gc st (x.bind f)=r:=by rw[h,R.aB,hf];exact k
def add_int{i j k:Int}{st:ak}(h:i+j=k):bD (.int i) (.int j) st=.ok (.int k) st:=by subst h;rfl
def add_str{a b:List Nat}{st:ak}(h:a.length+b.length<=1000000):bD (.str a) (.str b) st=.ok (.str (a++b)) st:=afn h
def Hv{a b c:Nat}{st:ak}(h:a+b=c):bD (.int a) (.int b) st=.ok (.int c) st:=add_int 0x0
def Ow{t:MT}{a:MS}{env:aK}{st st1:ak}(h:t env st=.ok false st1):fu t a bB env st=.ok (.nx env) st1:=by simp[h]
def qP{t:MT}{a b:MS}{env:aK}{st st1:ak}{r:R Out}(h:t env st=.ok true st1)(k:a env st1=r):fu t a b env st=r:=by simp[h,k]
def J_{c m:PySem.Str}{F:FD}{mo:ME}{mA:MA}{env:aK}{st st1 st2:ak}{n:Nat}{fs fs2:List (PySem.Str×D)}{as:List D}{d:D}(h:mo env st=.ok (.loc n) st)(ho:st[n]? = some (.ins c fs))(ha:mA env st=.ok as st1)(Lf:st1[n]? = some (.ins c fs2))(hF:F (.loc n::as) st1=.ok d st2)(hm:fs.lookup m=none:=by rfl):CG c m F mo mA env st=.ok d st2:=by
 unfold CG;rw[h,R.aB];dsimp only;rw[ho];dsimp only;rw[afn ⟨rfl,hm⟩,ha,R.aB,Lf];dsimp only;rw[hF];rfl
def dR{i:Int}{ds:List D}{d:D}{st:ak}(hi:qj ds i=some d:=by rfl):aV (.tup ds) (.int i) st=.ok d st:=Eb st i ds d hi
def zto{e:ME}{env:aK}{st:ak}{cs:List Nat}(h:e env st=.ok (.str cs) st)(ha:cs.all (λc=>decide (c<128))=true):zf e env st=.ok (cs.map λc=>D.str [c],[]) st:=by
 rw[Wf,h,R.aB];dsimp only;rw[afn ha]
def qN{st:ak}{n k:Nat}{g:ak}{o:MO}(h:g[k]? = some o)(e:n=st.length+k:=by rfl):(st++g)[n]? = some o:=by subst e;rw[h_ 0x0,show st.length+k - st.length=k by omega];exact h
def Iu{e:ME}{env:aK}{st:ak}{cs:List Nat}(h:e env st=.ok (.str cs.reverse) st)(hl:cs.length<=1000000):Cg (aj e au) env st=.ok (cs.map λc=>D.str [c],[]) st:=by simp[h,hl]
def T5{t:MT}{a b:ME}{env:aK}{st st1:ak}{c:Bool}{r:R D}(h:t env st=.ok c st1)(k:(bif c then a env st1 else b env st1)=r):Hn t a b env st=r:=by cases c<;>simpa[h] using k
def eq_str{a b:List Nat}{st:ak}:M.iw 800 (.str a) (.str b) st=.ok (.bl (decide (a=b))) st:=by simp
def xN{m1 m2:MS}{env:aK}{st st1:ak}{d:D}(h:m1 env st=.ok (.rt d) st1):aC m1 m2 env st=.ok (.rt d) st1:=by rw[I_,h];rfl
def zpt{a b:MT}{env:aK}{st st1 st2:ak}{c:Bool}(h:a env st=.ok true st1)(k:b env st1=.ok c st2):jC a b env st=.ok c st2:=by simp[h,k]
def Dw{a b:MT}{env:aK}{st st1:ak}(h:a env st=.ok false st1):jC a b env st=.ok false st1:=by simp[h]
def TY{a:ME}{l h:MP}{env:aK}{st:ak}{x d:D}{lo hi:Option Int}(ha:a env st=.ok x st)(hl:l env st=.ok lo st)(hh:h env st=.ok hi st)(k:xY x lo hi st=.ok d st):Ey a l h env st=.ok d st:=by simp[ha,hl,hh,k]
def eq_int{i j:Int}{st:ak}:M.iw 800 (.int i) (.int j) st=.ok (.bl (decide (i=j))) st:=by simp
def Vk{i:Int}{st:ak}:M.iw 800 (.int i) (.int i) st=.ok (.bl true) st:=by simp
def ZQ{i:List Nat}{st:ak}:M.iw 800 (.str i) (.str i) st=.ok (.bl true) st:=by simp
def ue{L:Nat}{x y:D}{st:ak}{k:Bool}(h:M.iw L x y st=.ok (.bl k) st):M.wB L x y st=.ok (.bl (!k)) st:=by
 unfold M.iw at h;unfold M.wB;cases e:jU L x y st with
 | none=>rw[e]at h;cases h
 | some j =>
  rw[e]at h;injection h with h _;injection h with h;subst h;rfl
def Vu{T:String}{f:D->List D->ak->R D}{mo:ME}{env:aK}{st st1 st2:ak}{x d:D}(h:mo env st=.ok x st1)(ht:cM T x st1=true)(hf:f x [] st1=.ok d st2):fH T f mo env st=.ok d st2:=by simp[h,ht,hf]
def QZ{a:ME}{env:aK}{st st1:ak}{c:Bool}(h:a env st=.ok (.bl c) st1):J1 a env st=.ok (.bl (!c)) st1:=by simp[h]
def xF(l r:Tr)(s:ak):aV (enc 0x3) (.int 0) s=.ok (enc l) s:=by rw[enc];exact dR
def xO(l r:Tr)(s:ak):aV (enc 0x3) (.int 1) s=.ok (enc r) s:=by rw[enc];exact dR
def T3(l r:Tr)(s:ak):yt "str" (enc 0x3) s=.ok (.bl false) s:=by rw[enc];rfl
def yX{n:Nat}{o:MO}{st:ak}(h:st[n]? = some o):u_ [(n,o)] st:=by simp[u_,h]
def zuo{a:ME}{l h:MP}{env:aK}{st st1:ak}{x d:D}{lo hi:Option Int}(ha:a env st=.ok x st)(hl:l env st=.ok lo st)(hh:h env st=.ok hi st)(k:xY x lo hi st=.ok d st1):Ey a l h env st=.ok d st1:=by simp[ha,hl,hh,k]
def oF{t:MT}{a b:MS}{env:aK}{st st1:ak}{r:R Out}(h:t env st=.ok false st1)(k:b env st1=r):fu t a b env st=r:=by simp[h,k]
def ZP{a b:MT}{env:aK}{st:ak}{c d:Bool}(h:a env st=.ok c st)(k:b env st=.ok d st):jC a b env st=.ok (c && d) st:=by cases c<;>simp[h,k]
def QM{a b:MT}{env:aK}{st:ak}{c d:Bool}(h:a env st=.ok c st)(k:b env st=.ok d st):Oa a b env st=.ok (c || d) st:=by cases c<;>simp[h,k]
def Cp{a b:ME}{env:aK}{st:ak}{c d:Bool}(h:a env st=.ok (.bl c) st)(k:b env st=.ok (.bl d) st):orV a b env st=.ok (.bl (c || d)) st:=by cases c<;>simp[h,k]
def Nj{a b:ME}{env:aK}{st:ak}{c d:Bool}(h:a env st=.ok (.bl c) st)(k:b env st=.ok (.bl d) st):yK a b env st=.ok (.bl (c && d)) st:=by cases c<;>simp[h,k]
def yl{i j:Nat}{st:ak}:ltV (.int i) (.int j) st=.ok (.bl (decide (i<j))) st:=by simp
def acL{b:Bool}{st:ak}:jh (.bl b) st=some b:=eZ rfl
def zs1{e:ME}{n:Nat}{as:List D}{st:ak}{d:D}(h:e (startM n as) st=.ok d st)(hu:under st.length d):bF (bw n (retS e)) as st=.ok d st:=bf (fB h) rfl (fV hu)
def zsf{st g:ak}{n k:Nat}{ds:List D}{d:D}(h:g[k]? = some (.lst ds))(hl:ds.length<1000000)(e:n=st.length+k:=by rfl):aR (.loc n) [d] (st++g)=.ok .non (st++g.set k (.lst (ds++[d]))):=by
 have q:=qN (st:=st) h e;unfold aR;simp only[q];rw[afn hl,e,List.set_append_right _ _ 0x0,show st.length+k - st.length=k by omega]
def Am{st g:ak}{n k:Nat}{ds:List D}{d:D}(h:g[k]? = some (.lst (ds++[d])))(e:n=st.length+k:=by rfl):rG (.loc n) [] (st++g)=.ok d (st++g.set k (.lst ds)):=by
 have q:=qN (st:=st) h e;unfold rG;simp only[q];simp[e]
def lty{st g:ak}{n k:Nat}{ds:List D}(h:g[k]? = some (.lst ds))(e:n=st.length+k:=by rfl):cM "list" (.loc n) (st++g)=true:=by
 have q:=qN (st:=st) h e;simp[cM,q]
def Yo(l r:Tr)(s:ak):aV (enc 0x3) (.int 2) s=.ok (.int (lv 0x3:Nat)) s:=by rw[enc];exact dR
def K4(l r:Tr)(s:ak):aV (enc 0x3) (.int 3) s=.ok (.bl (val 0x3)) s:=by rw[enc];exact dR
def zkw{env:aK}{st:ak}:eQ au env st=.ok 0x2 (st++[.lst []]):=by simp
def zi8{mA:MA}{env:aK}{st st1:ak}{ds:List D}(h:mA env st=.ok ds st1)(hl:ds.length<=1000000:=by simp):eQ mA env st=.ok (.loc st1.length) (st1++[.lst ds]):=by simp[h,hl]
def Ys(s:List Nat)(st:ak):yt "str" (enc (.lf s)) st=.ok (.bl true) st:=rfl
def P0{e:ME}{env:aK}{st:ak}{n:Nat}{ds:List D}(h:e env st=.ok (.loc n) st)(hs:st[n]? = some (.lst ds)):Iv (aj e au) env st=.ok (ds.reverse,[(n,.lst ds)]) st:=by simp[h,tZ,hs]
def ztk{m:ME}{env:aK}{st st1:ak}{n:Nat}{ds:List D}(hm:m env st=.ok (.loc n) st1)(h:st1[n]? = some (.lst ds)):iC m env st=.ok (ds,[(n,.lst ds)]) st1:=by
 rw[zuf,hm];simp only[R.aB,h]
def zdq(t:Tr)(st:ak):Bu [enc t] st=.ok (.bl (val t)) st:=by
 cases t with
 | lf s=>exact zs1 (e:=orV _ _) (by simp[startM,enc,lV,val]) 0x1
 | jn l r=>exact zs1 (Cp (DW rfl (T3 _ _ _)) #[0,(K4 _ _ _)]) 0x1
def zpc(t:Tr)(st:ak):zel [enc t] st=.ok (.int (lv t:Nat)) st:=by
 unfold zel bF bw zmx;cases t with
 | lf s=>exact bf (d:=.int 1) (xN (qP (sS (DW rfl rfl) rfl) (fB rfl))) rfl (fV 0x1)
 | jn l r=>exact bf (oX (sS (DW rfl (T3 _ _ _)) rfl) (fB #[0,(Yo _ _ _)])) rfl (fV 0x1)
def bqd(s t:List Nat):(s==t)=decide (s=t):=by rw[m8];simp
def zt5(l r:Tr)(st:ak):ze6 [enc l,enc r] st=.ok (.bl (val 0x3)) st:=by
 unfold ze6 bF bw zj4;have hv:=zdq r st;cases hr:val r with
 | false =>
  rw[hr]at hv;have e:val 0x3=false:=by
   cases q:val 0x3 with
   | false=>rfl
   | true=>rw[(Ud q).2]at hr;cases hr
  rw[e];exact bf (xN (qP (Ae (sS (bU hv rfl) rfl)) (fB rfl))) rfl (fV 0x1)
 | true =>
  rw[hr]at hv;cases l with
  | lf s =>
   rw[VD,hr,Bool.true_and,bqd,bqd];have e1:=T7 799 (.lf s) [83] st;have e2:=T7 799 (.lf s) [75] st;exact bf (oX (Ae (sS (bU hv rfl) rfl)) (xN (qP (sS (DW rfl rfl) rfl) (fB (Cp #[0,e1] #[0,e2]))))) rfl (fV 0x1)
  | jn a b =>
   have e1:M.iw 800 (enc a) (.str [83]) st=.ok (.bl (xg (.jn a b))) st:=by
    cases a with
    | lf s=>rw[show xg (.jn (.lf s) b)=decide (s=[83]) from bqd _ _];exact T7 799 (.lf s) [83] st
    | jn c d=>exact T7 799 (.jn c d) [83] st
   rw[Vs,hr,Bool.true_and];exact bf (oX (Ae (sS (bU hv rfl) rfl)) (oX (sS (DW rfl (T3 _ _ _)) rfl) (fB (Nj (aM #[0,(xF _ _ _)] rfl e1) #[0,(K4 _ _ _)])))) rfl (fV 0x1)
def xP(l r:Tr)(st:ak):sY [enc l,enc r] st=.ok (enc 0x3) st:=by
 have e:enc 0x3=.tup [enc l,enc r,.int ((lv l:Nat)+(lv r:Nat)),.bl (val 0x3)]:=by rw[enc,lv];simp
 have hu:=jK st.length 0x3;rw[e]at hu ⊢;exact zs1 (tu (aW rfl (aW rfl (aW (aM (bU (zpc l st) rfl) (bU (zpc r st) rfl) rfl) #[6,(bU (zt5 l r st) rfl)])))) hu
def zM:Fr->D
 | .fl r=>.tup [.non,enc r]
 | .fr l=>.tup [enc l,.non]
def Gb(f:Fr)(t:Tr)(st:ak):Z5 [zM f,enc t] st=.ok (enc (fill f t)) st:=by
 unfold Z5 bF bw zl7;cases f with
 | fl r=>exact bf (xN (qP #[17,#[0,dR],rfl] (fB (bU (xP t r st) #[12,#[0,dR]])))) rfl (fV (jK st.length _))
 | fr l=>exact bf (oX #[17,#[0,dR],(Mf l st)] (fB (bU (xP l t st) #[6,#[0,dR]]))) rfl (fV (jK st.length _))
def zun(l r u:Tr)(st:ak)(h:f9 l r=some u):ze3 [enc l,enc r] st=.ok (enc u) st:=by
 unfold ze3 bF bw zka;have hu:=jK st.length u;cases l with
 | lf s=>rw[f9]at h;cases h
 | jn a b =>
  have e1:=T7 799 a [75] st;cases a with
  | lf s =>
   rw[f9]at h
   split at h
   ·rename_i hs;subst hs;cases h;exact bf (xN (qP #[17,#[0,(xF _ _ _)],e1] (fB #[0,(xO _ _ _)]))) rfl (fV hu)
   ·cases h
  | jn a c =>
   rw[f9]at h;cases h;exact bf (oX #[17,#[0,(xF _ _ _)],e1] (fB (bU (xP (.jn c r) (.jn b r) st) (aW (bU (xP c r st) #[27,#[0,(xF _ _ _)],(xO _ _ _)]) #[6,(bU (xP b r st) (aW #[0,(xO _ _ _)] rfl))])))) rfl (fV hu)
def IK{l r:Tr}(hl:val l=true)(hr:val r=true)(h:val 0x3=false):(∃s,l=.lf s)\/∃u,f9 l r=some u:=by
 cases l with
 | lf s=>exact .inl ⟨s,rfl⟩
 | jn a b =>
  refine .inr ?_;cases a with
  | jn a c=>exact⟨_,rfl⟩
  | lf s =>
   rw[VD,gG,nY]at hl;rcases hl.2 with e | e
   ·have:val (.jn (.jn (.lf s) b) r)=true:=by rw[Vs,hr,VD,hl.1];simp[xg,eq_of_beq e]
    rw[this]at h;cases h
   ·exact⟨b,by rw[f9,afn (eq_of_beq e)]⟩
def O_(st:ak)(ds:List D):jh 0x2 (st++[.lst ds])=some (!ds.isEmpty):=by
 simp[jh]
def zkf(t:Tr)(n:Nat)(st:ak)(h:dp t+n<=900000) :
  Vy [enc t,.int n] st=.ok (.tup [.str (if val (run n t).1=true then [118,97,108,117,101] else [111,110]),enc (run n t).1,.int ((run n t).2:Nat)]) st:=by
 unfold Vy bF bw zc6;generalize hC:(jC (dM (aF ltV (vr 4) (vr 1))) _:MT)=C;generalize hB:(fu (lu #[8,Bu,(vr 2)]) (aG 2 _) _:MS)=B;generalize hP:(aG 2 (az Z5 [] #[4,(fH "list" rG (vr 3)),(vr 2)]):MS)=P
 let E:Tr->Nat->aK:=λx k=>[some (enc t),some (.int n),some (enc x),some 0x2,some (.int k)]
 let S:List Fr->ak:=λfs=>st++[.lst (fs.map zM)]
 have ht:∀fs:List Fr,jh 0x2 (S fs)=some (!fs.isEmpty):=λfs=>by
  have:=O_ st (fs.map zM);rwa[List.isEmpty_map]at this
 have vt:∀{x:Tr} {b:Bool} {Z:ak} {m:ME} {env:aK},m env Z=.ok (enc x) Z->val x=b->lu #[8,Bu,m] env Z=.ok b Z:=λ{x b Z m env} hm e=>by
  have:=zdq x Z;rw[e]at this;exact sS (bU this #[6,hm]) rfl
 have fC:∀(x:Tr) (fs:List Fr) (k:Nat),C (E x k) (S fs)=.ok (decide (k<n) && (!fs.isEmpty || !val x)) (S fs):=λx fs k=>by
  rw[<-hC];exact ZP (dq #[0,yl]) (QM (sS rfl (ht fs)) (Ae (vt rfl rfl)))
 have hp:∀gs f,rG 0x2 [] (S (gs++[f]))=.ok (zM f) (S gs):=λgs f=>Am (k:=0) 0x1;have isl:∀fs,cM "list" 0x2 (S fs)=true:=λfs=>lty (k:=0) rfl;have pj:∀(x:Tr) (gs:List Fr) (f:Fr) (k:Nat),P (E x k) (S (gs++[f]))=.ok (.nx (E (fill f x) k)) (S gs):=λx gs f k=>by
  rw[<-hP];exact DR (bU (Gb f x (S gs)) #[6,(Vu rfl (isl _) (hp gs f))])
 have fB1:∀(x:Tr) (gs:List Fr) (f:Fr) (k:Nat),val x=true->B (E x k) (S (gs++[f]))=.ok (.nx (E (fill f x) k)) (S gs):=λx gs f k hx=>by
  rw[<-hB];exact qP (vt rfl hx) ((congrArg (λm:MS=>m _ _) hP).trans (pj x gs f k))
 have app:∀(fs:List Fr) (f:Fr),fs.length<1000000->aR 0x2 [zM f] (S fs)=.ok .non (S (fs++[f])):=λfs f hl=>by
  have:=zsf (st:=st) (g:=[.lst (fs.map zM)]) (k:=0) (d:=zM f) rfl (by rwa[gm]);show _=R.ok _ (st++[.lst ((fs++[f]).map zM)]);rw[mC];exact this
 have fB2:∀(l r:Tr) (fs:List Fr) (k:Nat),fs.length<1000000->val 0x3=false->val l=false->B (E 0x3 k) (S fs)=.ok (.nx (E l k)) (S (fs++[.fl r])):=λl r fs k hfl hv hl=>by
  rw[<-hB];exact oF (vt rfl hv) (qP (Ae (vt #[0,(xF _ _ _)] hl)) ((sW (yR (sX rfl (isl _) #[6,(tu #[12,#[0,(xO _ _ _)]])] (app fs (.fl r) hfl)))).trans (DR #[0,(xF _ _ _)])))
 have fB3:∀(l r:Tr) (fs:List Fr) (k:Nat),fs.length<1000000->val 0x3=false->val l=true->val r=false->B (E 0x3 k) (S fs)=.ok (.nx (E r k)) (S (fs++[.fr l])):=λl r fs k hfl hv hl hr=>by
  rw[<-hB];exact oF (vt rfl hv) (oF (Ae (vt #[0,(xF _ _ _)] hl)) (qP (Ae (vt #[0,(xO _ _ _)] hr)) ((sW (yR (sX rfl (isl _) #[6,(tu (aW #[0,(xF _ _ _)] rfl))] (app fs (.fr l) hfl)))).trans (DR #[0,(xO _ _ _)]))))
 have fB4:∀(s:List Nat) (r:Tr) (fs:List Fr) (k:Nat),val (.jn (.lf s) r)=false->val r=true->B (E (.jn (.lf s) r) k) (S fs)=.ok (.bk (E (.jn (.lf s) r) k)) (S fs):=λs r fs k hv hr=>by
  rw[<-hB];exact oF (vt rfl hv) (oF (Ae (vt (b:=true) #[0,(xF _ _ _)] rfl)) (oF (Ae (vt #[0,(xO _ _ _)] hr)) (qP (sS (DW #[0,(xF _ _ _)] rfl) rfl) rfl)))
 have fB5:∀(l r u:Tr) (fs:List Fr) (k:Nat),val 0x3=false->val l=true->val r=true->f9 l r=some u->B (E 0x3 k) (S fs)=.ok (.nx (E u (k+1))) (S fs):=λl r u fs k hv hl hr hx=>by
  have i1:yt "str" (enc l) (S fs)=.ok (.bl false) (S fs):=by
   cases l with
   | lf s=>rw[f9]at hx;cases hx
   | jn _ _=>exact T3 _ _ _
  rw[<-hB];exact oF (vt rfl hv) (oF (Ae (vt #[0,(xF _ _ _)] hl)) (oF (Ae (vt #[0,(xO _ _ _)] hr)) (oF (sS (DW #[0,(xF _ _ _)] i1) rfl) (b_ (bU (zun l r u (S fs) hx) (aW #[0,(xF _ _ _)] #[6,#[0,(xO _ _ _)]])) (DR #[0,(add_int 0x0)])))))

 have W:∀(m:Nat) (x:Tr) (fs:List Fr) (k:Nat),k+m=n->good fs->dp (dj fs x)+m<=900000 ->
   ∃x' yU,aZ C B (E x k) (S fs)=.ok (.nx (E x' (k+(run m (dj fs x)).2))) (S yU)/\dj yU x'=(run m (dj fs x)).1:=by
  intro m
  induction m with
  | zero =>
   intro x fs k hk hg hd;refine⟨x,fs,?_,rfl⟩;rw[u0,fC,show decide (k<n)=false from afq 0x0];simp[run]
  | succ m ih =>
   have hN:∀(x:Tr) (fs:List Fr) (k:Nat),val x=false->k+(m+1)=n->good fs->dp (dj fs x)+(m+1)<=900000 ->
     ∃x' yU,aZ C B (E x k) (S fs)=.ok (.nx (E x' (k+(run (m+1) (dj fs x)).2))) (S yU)/\dj yU x'=(run (m+1) (dj fs x)).1:=by
    intro x
    induction x with
    | lf s=>intro fs k hv;simp[val]at hv
    | jn l r ihl ihr =>
     intro fs k hv hk hg hd;have hfl:fs.length<1000000:=by have:=Qp fs 0x3;omega
     have hc:C (E 0x3 k) (S fs)=.ok true (S fs):=by
      rw[fC,hv,show decide (k<n)=true from afs 0x0];simp
     rw[u0,hc,R.aB,afn rfl];cases hl:val l with
     | false =>
      rw[fB2 l r fs k hfl hv hl,R.aB];have e:dj (fs++[.fl r]) l=dj fs 0x3:=zh7 fs (.fl r) l;have:=ihl (fs++[.fl r]) k hl hk (λf hf l' e'=>by
       rcases mz.mp hf with hf | hf
       ·exact hg f hf l' e'
       ·obtain rfl:f=.fl r:=by simpa using hf
        cases e') (by rw[e];exact hd)
      rw[e]at this;exact this
     | true =>
      cases hr:val r with
      | false =>
       rw[fB3 l r fs k hfl hv hl hr,R.aB];have e:dj (fs++[.fr l]) r=dj fs 0x3:=zh7 fs (.fr l) r;have:=ihr (fs++[.fr l]) k hr hk (λf hf l' e'=>by
        rcases mz.mp hf with hf | hf
        ·exact hg f hf l' e'
        ·obtain rfl:f=.fr l:=by simpa using hf
         cases e';exact hl) (by rw[e];exact hd)
       rw[e]at this;exact this
      | true =>
       have hs:=Eu (fs:=fs) hg hv;rw[zgh hl hr hv]at hs;rcases IK hl hr hv with⟨s,rfl⟩ | ⟨u,hu⟩
       ·rw[f9]at hs;rw[fB4 s r fs k hv hr,R.aB,T9 hs];exact⟨_,fs,rfl,rfl⟩
       ·rw[hu]at hs;have hs:step (dj fs 0x3)=some (dj fs u):=hs;rw[fB5 l r u fs k hv hl hr hu,R.aB,zlo hs];have hd2:=zr2 hs;obtain⟨x',yU,h1,h2⟩:=ih u fs (k+1) 0x0 hg 0x0;refine⟨x',yU,?_,h2⟩;dsimp only;rw[show k+((run m (dj fs u)).2+1)=k+1+(run m (dj fs u)).2 by omega];exact h1
   have hV:∀(q:Nat) (x:Tr) (fs:List Fr) (k:Nat),fs.length<=q->k+(m+1)=n->good fs->dp (dj fs x)+(m+1)<=900000 ->
     ∃x' yU,aZ C B (E x k) (S fs)=.ok (.nx (E x' (k+(run (m+1) (dj fs x)).2))) (S yU)/\dj yU x'=(run (m+1) (dj fs x)).1:=by
    intro q
    induction q with
    | zero =>
     intro x fs k hq hk hg hd;obtain rfl:fs=[]:=nR.mp 0x0;cases hv:val x with
     | false=>exact hN x [] k hv hk hg hd
     | true =>
      refine⟨x,[],?_,?_⟩
      ·rw[u0,fC,hv,T9 (Vp (show val (dj [] x)=true from hv))];simp
      ·rw[T9 (Vp (show val (dj [] x)=true from hv))]
    | succ q ihq =>
     intro x fs k hq hk hg hd;cases hv:val x with
     | false=>exact hN x fs k hv hk hg hd
     | true =>
      by_cases hf:fs=[]
      ·subst hf;exact ihq x [] k 0x1 hk hg hd
      ·obtain⟨gs,f,rfl⟩:∃gs f,fs=gs++[f]:=⟨fs.dropLast,fs.getLast hf,(List.dropLast_concat_getLast hf).symm⟩;have hc:C (E x k) (S (gs++[f]))=.ok true (S (gs++[f])):=by
        rw[fC,show decide (k<n)=true from afs 0x0];simp
       rw[u0,hc,R.aB,afn rfl,fB1 x gs f k hv,R.aB];have e:dj (gs++[f]) x=dj gs (fill f x):=zh7 gs f x;rw[e]at hd ⊢;exact ihq (fill f x) gs k (by simp at hq;omega) hk (λf' hf'=>hg f' (pG _ hf')) hd
   intro x fs k hk hg hd;exact hV fs.length x fs k (gb _) hk hg hd

 have V:∀(q:Nat) (x:Tr) (fs:List Fr) (k:Nat),fs.length<=q->aZ (lu (vr 3)) P (E x k) (S fs)=.ok (.nx (E (dj fs x) k)) (S []):=by
  intro q
  induction q with
  | zero =>
   intro x fs k hq;obtain rfl:fs=[]:=nR.mp 0x0;rw[u0,show lu (vr 3) (E x k) (S [])=.ok false (S []) from sS rfl (ht [])];rfl
  | succ q ihq =>
   intro x fs k hq;by_cases hf:fs=[]
   ·subst hf;exact ihq x [] k 0x1
   ·obtain⟨gs,f,rfl⟩:∃gs f,fs=gs++[f]:=⟨fs.dropLast,fs.getLast hf,(List.dropLast_concat_getLast hf).symm⟩;have ht:=ht (gs++[f]);rw[show (gs++[f]).isEmpty=false by simp]at ht;rw[u0,show lu (vr 3) (E x k) (S (gs++[f]))=.ok true (S (gs++[f])) from sS rfl ht,R.aB,afn rfl,pj,R.aB,zh7];exact ihq (fill f x) gs k (by simp at hq;omega)
 obtain⟨x',yU,h1,h2⟩:=W n t [] 0 0x0 (λf hf=>absurd hf (kh)) (by show dp t+n<=_;exact h);rw[show dj [] t=t from rfl,nH]at h1;rw[show dj [] t=t from rfl]at h2;have h3:=V yU.length x' yU (run n t).2 (gb _);rw[h2]at h3;have hu:=jK st.length (run n t).1;refine bf (st1:=S []) (b_ rfl (b_ (zkw) (b_ rfl ((sW h1).trans ((sW h3).trans (fB (tu #[6,(T5 (vt rfl rfl) ?_)]))))))) rfl (sZ (by simp[hu]));cases val (run n t).1<;>rfl
end Law
set_option maxHeartbeats 0
namespace M
def zmj{g:MG}{b:MS}{gs:List (Nat×MO)}{d:D}{r:List D}{env env1 bx:aK}{st st1 st2:ak}(ho:u_ gs st)(hg:g d env st=.ok env1 st1)(hb:b env1 st1=.ok (.nx bx) st2) :
  cA g b gs (d::r) env st=cA g b gs r bx st2:=by
 rw[cA,afn ho,hg,R.aB,hb,R.aB]
def Gu{g:MG}{b:MS}{gs:List (Nat×MO)}{env:aK}{st:ak}(ho:u_ gs st):cA g b gs [] env st=.ok (.nx env) st:=by
 rw[cA,afn ho]
namespace Tr
def o_:Tr->List Tr
 | .lf s=>[.lf s]
 | .jn l r=>.jn l r::(o_ r++o_ l)
def z9:Tr->Nat
 | .lf _=>1
 | .jn l r=>z9 l+z9 r+1
def Xi(t:Tr):z9 t+1=2*lv t:=by
 induction t with
 | lf s=>rfl
 | jn l r h1 h2=>rw[z9,lv];omega
def Hl(W:List Tr):Nat:=(W.map z9).sum
def wO(W:List Tr):List Tr:=(W.reverse.map o_).flatten
def zov(W:List Tr)(t:Tr):Hl (W++[t])=Hl W+z9 t:=by simp[Hl]
def zlj(W:List Tr)(t:Tr):wO (W++[t])=o_ t++wO W:=by simp[wO]
def zrx(t:Tr):0<z9 t:=by cases t<;>simp[z9]
def Cz(W:List Tr):W.length<=Hl W:=by
 induction W with
 | nil=>simp[Hl]
 | cons y W ih=>have:=zrx y;simp[Hl]at ih ⊢;omega
end Tr
end M
namespace Law
open L2 M Tr
def zqf(f:Tr->D)(P:Tr->Prop)(a b j1 j2:Nat)(da db:List D)(t:Tr)(st:ak)
  (ha:st[a]? = some (.clo j1 (iR j1) da)) (hb:st[b]? = some (.clo j2 (iR j2) db)) (hsz:lv t<=400000)
  (hf:∀(u:Tr) (n:Nat),under n (f u)) (hP:P t) (hPP:∀l r,P 0x3->P l/\P r)
  (h1:∀(s:List Nat) (g:ak),P (.lf s)->GL j1 (da++[enc (.lf s)]) (cj (st++g))=.ok (f (.lf s)) (cj (st++g)))
  (h2:∀(l r:Tr) (g:ak),P 0x3->GL j2 (db++[enc 0x3,f l,f r]) (cj (st++g))=.ok (f 0x3) (cj (st++g))) :
  NP [enc t,.loc a,.loc b] st=.ok (f t) st:=by
 have hN:z9 t<=800000:=by have:=Xi t;omega
 unfold NP bF bw znh;generalize hB1:(aC (aG 5 (fH "list" rG (vr 4))) _:MS)=B1;generalize hB2:(fu (lu (wA (yt "str") (vr 5))) _ _:MS)=B2
 let E:Option D->aK:=λa5=>[some (enc t),some (.loc a),some (.loc b),some 0x2,some (.loc 0xc),a5,none,none,none]
 let S:List Tr->List Tr->ak:=λO W=>st++[.lst (O.map enc),.lst (W.map enc)]

 have ap:∀(O W:List Tr) (x:Tr),O.length<1000000->aR 0x2 [enc x] (S O W)=.ok .non (S (O++[x]) W):=λO W x h=>by
  have:=zsf (st:=st) (g:=[.lst (O.map enc),.lst (W.map enc)]) (k:=0) (d:=enc x) rfl (by rwa[gm]);show _=R.ok _ (st++[.lst ((O++[x]).map enc),.lst (W.map enc)]);rw[mC];exact this
 have ap2:∀(O W:List Tr) (x:Tr),W.length<1000000->aR (.loc 0xc) [enc x] (S O W)=.ok .non (S O (W++[x])):=λO W x h=>by
  have:=zsf (st:=st) (g:=[.lst (O.map enc),.lst (W.map enc)]) (k:=1) (d:=enc x) rfl (by rwa[gm]);show _=R.ok _ (st++[.lst (O.map enc),.lst ((W++[x]).map enc)]);rw[mC];exact this
 have pp:∀(O W:List Tr) (x:Tr),rG (.loc 0xc) [] (S O (W++[x]))=.ok (enc x) (S O W):=λO W x=>Am (k:=1) 0x1;have ty0:∀O W,cM "list" 0x2 (S O W)=true:=λO W=>lty (k:=0) rfl;have ty1:∀O W,cM "list" (.loc 0xc) (S O W)=true:=λO W=>lty (k:=1) rfl;have cn:∀O a5,aZ (lu (vr 4)) B1 (E a5) (S O [])=.ok (.nx (E a5)) (S O []):=λO a5=>by
  rw[u0,show lu (vr 4) (E a5) (S O [])=.ok false (S O []) from sS rfl (by simp[jh,S])];rfl
 have abp:∀(k:Nat) (O W:List Tr) (a5:Option D),Hl W<=k->O.length+Hl W<=800000->∃Ht,aZ (lu (vr 4)) B1 (E a5) (S O W)=.ok (.nx (E Ht)) (S (O++wO W) []):=by
  intro k
  induction k with
  | zero =>
   intro O W a5 hk _;have hw:=Cz W;cases W with
   | nil=>exact⟨a5,by rw[show wO []=[] from rfl,gr];exact cn O a5⟩
   | cons x W=>simp at hw;omega
  | succ k ih =>
   intro O W a5 hk hO;rcases List.eq_nil_or_concat W with rfl | ⟨W,x,rfl⟩
   ·exact⟨a5,by rw[show wO []=[] from rfl,gr];exact cn O a5⟩
   ·rw[List.concat_eq_append]at *;rw[zov]at hk hO;have hx:=zrx x;have hl:=Cz W;rw[u0,show lu (vr 4) (E a5) (S O (W++[x]))=.ok true (S O (W++[x])) from sS rfl (by simp[jh,S]),R.aB,afn rfl,zlj];cases x with
    | lf s =>
     obtain⟨Ht,e⟩:=ih (O++[.lf s]) W (some (enc (.lf s))) (by simp[z9]at hk;omega) (by simp[z9]at hO ⊢;omega);refine⟨Ht,?_⟩;rw[show B1 (E a5) (S O (W++[.lf s]))=.ok (.nx (E (some (enc (.lf s))))) (S (O++[.lf s]) W) by
      rw[<-hB1];exact b_ (Vu rfl (ty1 _ _) (pp O W _)) ((sW (yR (sX rfl (ty0 _ _) #[6,rfl] (ap O W (.lf s) 0x0)))).trans (Ow (Ae (c:=true) (sS (DW rfl (Ys _ _)) rfl)))),R.aB]
     rw[o_,<-gP];exact e
    | jn l r =>
     have ew:Hl ((W++[l])++[r])=Hl W+z9 l+z9 r:=by rw[zov,zov]
     have hl1:=zrx l;rw[z9]at hk hO;obtain⟨Ht,e⟩:=ih (O++[.jn l r]) ((W++[l])++[r]) (some (enc 0x3)) (by rw[ew];omega) (by rw[ew,gO,ni];omega);refine⟨Ht,?_⟩;rw[show B1 (E a5) (S O (W++[.jn l r]))=.ok (.nx (E (some (enc 0x3)))) (S (O++[.jn l r]) ((W++[l])++[r])) by
      rw[<-hB1];exact b_ (Vu rfl (ty1 _ _) (pp O W _)) ((sW (yR (sX rfl (ty0 _ _) #[6,rfl] (ap O W 0x3 0x0)))).trans (qP (Ae (sS (DW rfl (T3 _ _ _)) rfl)) ((sW (yR (sX rfl (ty1 _ _) #[6,#[0,(xF _ _ _)]] (ap2 _ W l 0x0)))).trans (yR (sX rfl (ty1 _ _) #[6,#[0,(xO _ _ _)]] (ap2 _ (W++[l]) r 0x9)))))),R.aB]
     rw[zlj,zlj]at e;rw[show O++(o_ 0x3++wO W)=O++[.jn l r]++(o_ r++(o_ l++wO W)) by simp[o_]];exact e
 obtain⟨a5,e1⟩:=abp (Hl [t]) [] [t] none (gb _) (by simp[Hl];omega);have eo:wO [t]=o_ t:=by simp[wO]
 rw[kI,eo]at e1

 let O:=(o_ t).map enc
 let E2:Option D->Option D->Option D->aK:=λa5 a7 a8=>[some (enc t),some (.loc a),some (.loc b),some 0x2,some (.loc 0xc),a5,some (.loc (st.length+2)),a7,a8]
 let S2:List D->ak:=λT=>st++[.lst O,.lst [],.lst T]
 have ty2:∀T,cM "list" (.loc (st.length+2)) (S2 T)=true:=λT=>lty (k:=2) rfl;have ap3:∀(T:List D) (d:D),T.length<1000000->aR (.loc (st.length+2)) [d] (S2 T)=.ok .non (S2 (T++[d])):=λT d h=>zsf (k:=2) rfl h;have pp3:∀(T:List D) (d:D),rG (.loc (st.length+2)) [] (S2 (T++[d]))=.ok d (S2 T):=λT d=>Am (k:=2) rfl;have okS:∀T,u_ [(st.length,.lst O)] (S2 T):=λT=>yX 0x15;have abo:∀(u:Tr),P u->∀(rest T:List D) (a5 a7 a8:Option D),T.length+z9 u<=900000 ->
   ∃Ht a7' a8',cA (aO 5) B2 [(st.length,.lst O)] ((o_ u).reverse.map enc++rest) (E2 a5 a7 a8) (S2 T)=cA (aO 5) B2 [(st.length,.lst O)] rest (E2 Ht a7' a8') (S2 (T++[f u])):=by
  intro u
  induction u with
  | lf s =>
   intro hp rest T a5 a7 a8 hT;refine⟨some (enc (.lf s)),a7,a8,zmj (env1:=E2 (some (enc (.lf s))) a7 a8) (st1:=S2 T) (okS T) rfl ?_⟩;rw[<-hB2];exact qP (sS (DW rfl rfl) rfl) (yR (sX rfl (ty2 T) #[6,(zuv (Λ:=iR) (G:=GL) (n:=a) rfl (dC ha) (aW rfl rfl) (dC ha) (h1 s _ hp) (hf _ _))] (ap3 T _ 0x0)))
  | jn l r ihl ihr =>
   intro hp rest T a5 a7 a8 hT;obtain⟨pl,pr⟩:=hPP l r hp;rw[z9]at hT;rw[o_,mV,List.reverse_append,mC,mC,gP,gP];obtain⟨b5,b7,b8,q1⟩:=ihl pl ((o_ r).reverse.map enc++([Tr.jn l r].map enc++rest)) T a5 a7 a8 0x0;obtain⟨c5,c7,c8,q2⟩:=ihr pr ([Tr.jn l r].map enc++rest) (T++[f l]) b5 b7 b8 0x9;rw[q1,q2];refine⟨some (enc 0x3),some (f r),some (f l),zmj (env1:=E2 (some (enc 0x3)) c7 c8) (st1:=S2 (T++[f l]++[f r])) (okS _) rfl ?_⟩;rw[<-hB2];exact oF (sS (DW rfl (T3 _ _ _)) rfl) (b_ (Vu rfl (ty2 _) (pp3 _ _)) (b_ (Vu rfl (ty2 _) (pp3 _ _)) (yR (sX rfl (ty2 T) #[6,(zuv (Λ:=iR) (G:=GL) (n:=b) rfl (dC hb) (aW rfl (aW rfl (aW rfl rfl))) (dC hb) (h2 l r _ hp) (hf _ _))] (ap3 T _ 0x0)))))
 obtain⟨b5,b7,b8,e2⟩:=abo t hP [] [] a5 none none 0x9;rw[gr,kI,Gu (okS _),nW]at e2;refine bf (st1:=S2 [f t]) (b_ zkw (b_ (zi8 #[6,rfl]) ?_)) rfl (sZ (hf t st.length));have l1:(st++[MO.lst []]).length=st.length+1:=by simp
 have l2:(S (o_ t) []).length=st.length+2:=by simp[S]
 rw[l1,gP];refine (sW e1).trans (b_ zkw ?_);rw[l2,show S (o_ t) []++[.lst []]=S2 [] by simp[S,S2,O]];exact Hf (P0 rfl 0x15) e2 (fB #[0,(uZ _ _ _ [f t] _ (by unfold aA;rw[qN (k:=2) rfl]) rfl)])
end Law
namespace M
namespace Tr
def Cr(o:Option (Tr×Nat))(p:Tr):Tr×Nat:=match o with | some x=>x | none=>(.jn tK p,1)
def iI(x:List Nat):Tr->Bool
 | .lf s=>decide (s=x)
 | .jn _ _=>false
def outF(x:List Nat):Tr->Option (Tr×Nat)
 | .lf s=>if s=x then some (tI,2) else none
 | .jn l r=>if (outF x l).isNone && (outF x r).isNone && val 0x3 then none
  else if (outF x l).isNone && iI x r then some (l,0)
  else some (.jn (.jn tS (Cr (outF x l) l).1) (Cr (outF x r) r).1,1+(Cr (outF x l) l).2+(Cr (outF x r) r).2)
def out(x:List Nat)(t:Tr):Tr×Nat:=Cr (outF x t) t
end Tr
open Tr
def qg:Option (Tr×Nat)->D
 | none=>.non
 | some (t,n)=>.tup [enc t,.int n]
def Z6(n:Nat)(o:Option (Tr×Nat)):under n (qg o):=by
 cases o with
 | none=>simp[qg]
 | some p=>simp[qg,jK]
def encC(p:Tr×Nat):D:=.tup [enc p.1,.int p.2]
def zgu(o:Option (Tr×Nat))(st:ak):bN (qg o) .non st=.ok (.bl o.isNone) st:=by
 cases o with
 | none=>rfl
 | some p=>rfl
def Fl(x:List Nat)(t:Tr)(st:ak):iw 800 (enc t) (.str x) st=.ok (.bl (iI x t)) st:=by
 have:=T7 799 t x st;cases t with
 | lf s=>exact this
 | jn l r=>exact this
end M
namespace Law
open L2 M Tr
def zly(x s:List Nat)(st:ak):zcv [.str x,.str s] st=.ok (qg (outF x (.lf s))) st:=by
 have hu:=Z6 st.length (outF x (.lf s));unfold zcv bF bw zga;rw[outF]at hu ⊢;by_cases h:s=x
 ·rw[afn h]at hu ⊢;subst h;exact bf (xN (qP (dq #[0,ZQ]) (fB (tu #[12,rfl])))) rfl (fV hu)
 ·rw[afo h]at hu ⊢;exact bf (oX (dq #[0,(by rw[eq_str,afq h])]) (fB rfl)) rfl (fV hu)
def zds(o:Option (Tr×Nat))(p:Tr)(st:ak):zbc [qg o,enc p] st=.ok (encC (Cr o p)) st:=by
 unfold zbc bF bw zfg;cases o with
 | none=>exact bf (xN (qP 0x10 (fB (tu (aW (bU (xP tK p st) rfl) #[6,rfl]))))) rfl (fV (Z6 st.length (some (.jn tK p,1))))
 | some q=>exact bf (oX 0x10 (fB rfl)) rfl (fV (Z6 st.length (some q)))
def zks(x:List Nat)(l r:Tr)(st:ak):zch [.str x,enc 0x3,qg (outF x l),qg (outF x r)] st=.ok (qg (outF x 0x3)) st:=by
 have hu:=Z6 st.length (outF x 0x3);unfold zch bF bw zfk;have t1:jC (dM #[24,bN,.non]) (jC #[20,bN,3] (lu #[8,Bu,(vr 1)])) (startM 6 [.str x,enc 0x3,qg (outF x l),qg (outF x r)]) st=.ok 0x2d st:=by
  rw[Bool.and_assoc];exact ZP (dq #[0,(zgu _ _)]) (ZP (dq #[0,(zgu _ _)]) (sS (bU (zdq _ _) rfl) rfl))
 have t2:jC (dM #[24,bN,.non]) (dM (aF (M.iw 800) #[1,1,1] (vr 0))) (startM 6 [.str x,enc 0x3,qg (outF x l),qg (outF x r)]) st=.ok ((outF x l).isNone && iI x r) st:=ZP (dq #[0,(zgu _ _)]) #[17,#[0,(xO _ _ _)],(Fl _ _ _)];rw[outF]at hu ⊢;by_cases c1:0x2d=true
 ·rw[afn c1]at hu ⊢;rw[c1]at t1;exact bf (xN (qP t1 (fB rfl))) rfl (fV hu)
 ·rw[afo c1]at hu ⊢;rw[Bool.not_eq_true]at c1;rw[c1]at t1;by_cases c2:((outF x l).isNone && iI x r)=true
  ·rw[afn c2]at hu ⊢;rw[c2]at t2;exact bf (oX t1 (xN (qP t2 (fB (tu (aW #[0,(xF _ _ _)] #[6,rfl])))))) rfl (fV hu)
  ·rw[afo c2]at hu ⊢;rw[Bool.not_eq_true]at c2;rw[c2]at t2;exact bf (oX t1 (oX t2 (b_ (bU (zds (outF x l) l st) #[12,#[0,(xF _ _ _)]]) (b_ (bU (zds (outF x r) r st) #[12,#[0,(xO _ _ _)]]) (fB (tu (aW (bU (xP (.jn tS (Cr (outF x l) l).1) (Cr (outF x r) r).1 st) (aW (bU (xP tS (Cr (outF x l) l).1 st) #[12,#[0,dR]]) #[6,#[0,dR]])) #[6,(aM (aM rfl #[0,dR] (add_int rfl)) #[0,dR] (add_int 0x1))]))))))) rfl (fV hu)
def zdh(x:List Nat)(t:Tr)(st:ak)(ht:st[1]? = some (.tab "out_and_cost"))(hc:bI st)(hl:lv t<=400000):VF [.str x,enc t] st=.ok (encC (out x t)) st:=by
 have f1:NP [enc t,.loc st.length,.loc 0xc] (st++[.clo 2 (iR 2) [.str x],.clo 3 (iR 3) [.str x]])=.ok (qg (outF x t)) (st++[.clo 2 (iR 2) [.str x],.clo 3 (iR 3) [.str x]]):=by
  refine zqf (λu=>qg (outF x u)) (λ_=>True) st.length 0xc 2 3 [.str x] [.str x] t _ 0x1 0x1 hl (λu n=>Z6 n _) trivial (λ_ _ _=>⟨trivial,trivial⟩) ?_ ?_
  ·intro s g _;have h:=zly x s (cj 0x33);exists cj 0x33,Z;rw[show enc (.lf s)=.str s from rfl];simp[GL,rK,e_2,h]
  ·intro l r g _;have h:=zks x l r (cj 0x33);exists cj 0x33,Z,enc 0x3,J;simp[GL,rK,e_3,h]
 have o1:=zds (outF x t) t st;have hu:under st.length (encC (out x t)):=by simp[encC,jK]
 have c1:=zn7 (Λ:=iR) (F:=NP) (dd:=[]) (m:=iY (vr 1) (j6 2 [0] 1 "out_and_cost" (j6 3 [0] 1 "out_and_cost" uP))) (env:=[some (.str x),some (enc t),none]) (st:=st) (st1:=st) (st2:=st) (as:=[.v (enc t),.l 2 [0],.l 3 [0]]) (ds:=[enc t,.loc st.length,.loc 0xc]) (os:=[.clo 2 (iR 2) [.str x],.clo 3 (iR 3) [.str x]]) (d:=qg (outF x t))
  (by simp[iY,j6,uP,ht]) hc (by simp[jq,yH]) (by rw[gr,f1];exact sZ (Z6 _ _)) hc
 exact bf (b_ c1 (fB (bU o1 rfl))) rfl (fV hu)
def zob(x:List Nat)(t:Tr)(st:ak)(ht:st[1]? = some (.tab "out_and_cost"))(hc:bI st)(hl:lv t<=400000):zc8 [.str x,enc t] st=.ok (enc (out x t).1) st :=
 zs1 (aM (bU (zdh x t st ht hc hl) rfl) rfl dR) (jK st.length _)
end Law
set_option maxHeartbeats 0
namespace M
namespace Tr
def stands(x:List Nat):Tr->Bool
 | .lf s=>decide (s=x)
 | .jn l r=>stands x l || stands x r
def zra{x:List Nat}{t:Tr}(h:iI x t=true):stands x t=true:=by
 cases t with
 | lf s=>exact h
 | jn l r=>cases h
def zi3{x:List Nat}{t:Tr}:iI x t=true↔t=.lf x:=by
 cases t with
 | lf s=>simp[iI]
 | jn l r=>simp[iI]
theorem Vq(x:List Nat):∀t,(outF x t).isNone=(val t && !stands x t)
 | .lf s=>by
  rw[outF,stands,show val (.lf s)=true from rfl];by_cases h:s=x
  ·rw[afn h];simp[h]
  ·rw[afo h];simp[h]
 | .jn l r=>by
  have h1:=Vq x l;have h2:=Vq x r;rw[outF,stands];by_cases c:0x2d=true
  ·rw[afn c];simp only[gG]at c;rw[h1,h2]at c;simp only[gG,nJ]at c;rw[c.2,c.1.1.2,c.1.2.2];rfl
  ·rw[afo c];have e:(if ((outF x l).isNone && iI x r)=true then some (l,0) else some (.jn (.jn tS (Cr (outF x l) l).1) (Cr (outF x r) r).1,1+(Cr (outF x l) l).2+(Cr (outF x r) r).2)).isNone=false:=by split<;>rfl
   rw[e]
   symm
   rw[pL];by_cases hv:val 0x3=true
   ·right;obtain⟨v1,v2⟩:=Ud hv;rw[h1,h2,hv,v1,v2]at c;cases s1:stands x l<;>cases s2:stands x r<;>rw[s1,s2]at c<;>first | rfl | exact absurd rfl c
   ·left;simpa using hv
def zop(x:List Nat){t:Tr}(h:iI x t=true):out x t=(tI,2):=by
 rw[zi3]at h;subst h;rw[out,outF,afn rfl];rfl
def Vv(x:List Nat){t:Tr}(h:(val t && !stands x t)=true):out x t=(.jn tK t,1):=by
 rw[<-Vq]at h;rw[out,Option.isNone_iff_eq_none.mp h];rfl
def zf1(x:List Nat){l r:Tr}(h:(val l && !stands x l)=true)(hr:iI x r=true):out x 0x3=(l,0):=by
 rw[<-Vq]at h;have h2:(outF x r).isNone=false:=by
  rw[Vq,zra hr];simp
 rw[out,outF,h,h2,hr];rfl
def ziq(x:List Nat){l r:Tr}(h1:(val 0x3 && !stands x 0x3)=false)(h2:((val l && !stands x l) && iI x r)=false):out x 0x3=(.jn (.jn tS (out x l).1) (out x r).1,1+(out x l).2+(out x r).2):=by
 have e1:0x2d=false:=by
  rw[<-Vq]at h1;cases c:0x2d with
  | false=>rfl
  | true =>
   rw[outF,afn c]at h1;cases h1
 rw[<-Vq]at h2;rw[out,outF,afo (by rw[e1];simp),afo (by rw[h2];simp)]
 rfl
theorem z7(x:List Nat):∀t,val (out x t).1=true
 | .lf s=>by
  by_cases h:iI x (.lf s)=true
  ·rw[zop x h];rfl
  ·have:stands x (.lf s)=false:=(show iI x (.lf s)=false by simpa using h);rw[Vv x (by rw[this];rfl)];rfl
 | .jn l r=>by
  by_cases h1:(val 0x3 && !stands x 0x3)=true
  ·rw[Vv x h1,fj];simp only[gG]at h1;exact h1.1
  ·by_cases h2:((val l && !stands x l) && iI x r)=true
   ·have h2':=h2;simp only[gG]at h2;rw[zf1 x (by simp only[gG];exact h2.1) h2.2];exact h2.1.1
   ·rw[ziq x (by simpa using h1) (by simpa using h2),TX,z7 x l,z7 x r];rfl
end Tr
end M
namespace M
namespace Tr
theorem zp5:∀m,outF [120] (cN m (.lf [120]))=some (uc m,Ft m)
 | 0=>by rw[cN,outF,afn rfl];rfl
 | 1=>by rw[cN,cN,outF,outF,outF,afn rfl,afo 0x5];rfl
 | m+2=>by
  have ih:=zp5 (m+1);rw[cN,outF,ih];have h0:outF [120] tK=none:=by rw[outF,afo 0x5]
  have h1:iI [120] (cN (m+1) (.lf [120]))=false:=rfl;rw[h0,h1];simp[Cr,uc,Ft]
def zry(m:Nat):out [120] (cN m (.lf [120]))=(uc m,Ft m):=by unfold out;rw[zp5];rfl
theorem zp9(v:Tr):∀n,lv (cN n v)=lv v+n
 | 0=>rfl
 | n+1=>by rw[cN,lv,zp9 v n,show lv tK=1 from rfl];omega
end Tr
end M
namespace Law
open L2 M Tr
def zf3(n:Nat)(v:Tr)(st:ak)(hn:n<=1000000):O1 [.int n,enc v] st=.ok (enc (cN n v)) st:=by
 unfold O1 bF bw zkd;generalize hB:(aG 2 (az sY [] _):MS)=B;obtain⟨cC,st',h1,a3,rfl,rfl⟩:=z8 (g:=aO 3) (b:=B) (gs:=[]) (items:=o9 0 n)
  (λi env s=>∃(a3:Option D),env=[some (.int n),some (enc v),some (enc (cN i v)),a3]/\s=st)
  (env:=[some (.int n),some (enc v),some (enc v),none]) (st:=st) ⟨none,rfl,rfl⟩ (by
   rintro i d env s hi ⟨a3,rfl,rfl⟩;obtain⟨hi',rfl⟩:=zi0 hi;have j1:sY [.str [75],enc (cN i v)] s=.ok (enc (cN (i+1) v)) s:=xP tK _ s;refine⟨by simp,_,_,rfl,[some (.int n),some (enc v),some (enc (cN (i+1) v)),some (.int (0+(i:Int)))],s,.inl ?_,_,rfl,rfl⟩;rw[<-hB];exists enc (cN (i+1) v),W,enc (cN i v),W1,enc v,V;simp[j1]) (λ_ _ _=>by simp)
 rw[ZG]at h1;have hu:=jK st'.length (cN n v);have hr1:-4611686018427387904<=(n:Int):=by omega
 have YG:(n:Int)<4611686018427387904:=by omega
 rw[show startM 4 [D.int n,enc v]=[some (.int n),some (enc v),none,none] from rfl];exists enc (cN n v),W,enc v,V;simp[hr1,YG,h1];exact fV hu
def zpv(k many:Nat)(st:ak)(ht:st[1]? = some (.tab "out_and_cost"))(hc:bI st)(hk:k<many)(hm:many<=300000):Ox [.int k,.int many] st=.ok (enc (bM k many)) st:=by
 have u1:O1 [.int ((many - 1 - k:Nat):Int),.str [120]] st=.ok (enc (cN (many - 1 - k) (.lf [120]))) st:=zf3 (many - 1 - k) (.lf [120]) st 0x0;have t1:=zob [120] (cN (many - 1 - k) (.lf [120])) st ht hc (by rw[zp9,show lv (.lf [120])=1 from rfl];omega);rw[zry]at t1;have u2:=zf3 k (uc (many - 1 - k)) st 0x0;have hu:=jK st.length (bM k many);have e1:(many:Int) - 1 - (k:Int)=((many - 1 - k:Nat):Int):=by omega
 unfold Ox bF bw zuz;unfold bM at hu ⊢;exists many - 1 - k,m,enc (cN k (uc m)),W,enc (cN m (.lf [120])),W1;exists enc (uc m),W2;simp[startM,e1,u1,t1,u2];exact fV hu
end Law
namespace M
namespace Tr
def aes:enc tI=.tup [.tup [.str [83],.str [75],.int 2,.bl true],.str [75],.int 3,.bl true]:=by rfl
def jj:List Tr->Tr
 | []=>tK
 | t::ts=>.jn tK (hold [t,jj ts])
theorem zpy:∀{ts:List Tr},(∀t∈ts,val t=true)->val (jj ts)=true
 | [],_=>rfl
 | t::ts,h=>by
  have ih:=zpy (ts:=ts) λx hx=>h x (by simp[hx]);rw[jj,fj];exact Ea (by simp[h t 0x1,ih])
end Tr
end M
namespace Law
open L2 M Tr
def Rf(t:Tr)(st:ak)(h:val t=true):zli [enc t] st=.ok (enc (.jn tK t)) st:=by
 have h1:=zdq t st;have h2:sY [.str [75],enc t] st=.ok (enc (.jn tK t)) st:=xP tK t st;have hu:=jK st.length (.jn tK t);rw[h]at h1;unfold zli bF bw zu4;exists enc (.jn tK t),W;simp[startM,h1,h2,fV,hu,jh]
def zqb(ts:List Tr)(n:Nat)(st:ak)(h:st[n]? = some (.lst (ts.map enc)))(hv:∀t∈ts,val t=true):NK [.loc n] st=.ok (enc (hold ts)) st:=by
 unfold NK bF bw zmf;rw[<-aes];generalize hB:(aG 1 (az sY [] _):MS)=B;obtain⟨cC,st',h1,a2,rfl,rfl⟩:=z8 (g:=aO 2) (b:=B) (gs:=[(n,.lst (ts.map enc))]) (items:=ts.map enc)
  (λi env s=>∃(a2:Option D),env=[some (.loc n),some (enc (hold (ts.take i))),a2]/\s=st)
  (env:=[some (.loc n),some (enc tI),none]) (st:=st) ⟨none,rfl,rfl⟩ (by
   rintro i d env s hi ⟨a2,rfl,rfl⟩;obtain⟨t,ht,rfl⟩:=Hz hi;have e:=Z4 (ts.take i) t;have e2:ts.take (i+1)=ts.take i++[t]:=by rw[kJ,ht];rfl
   have j1:sY [.str [83],enc (hold (ts.take i))] s=.ok (enc (.jn tS (hold (ts.take i)))) s:=xP tS _ s;have j2:=xP (.jn tS (hold (ts.take i))) (.jn tK t) s;have k1:=Rf t s (hv t (gU ht));refine⟨by simp[h],_,_,rfl,[some (.loc n),some (enc (hold (ts.take (i+1)))),some (enc t)],s,.inl ?_,_,rfl,rfl⟩;rw[<-hB,e2,e];exists enc (.jn (.jn tS (hold (ts.take i))) (.jn tK t)),W,enc (.jn tS (hold (ts.take i))),W1,enc (.jn tK t),W2;simp[j1,j2,k1]) (λ_ _ zz=>by obtain⟨_,_,q⟩:=zz;subst q;simp[h])
 rw[gm,kO]at h1;have hu:=jK st'.length (hold ts);rw[show startM 3 [D.loc n]=[some (.loc n),none,none] from rfl];exists enc tI,W;simp[h,h1,fV,hu]
def rP(ts:List Tr)(ds:List D)(e:ds=ts.map enc)(st:ak)(hv:∀t∈ts,val t=true):NK [.loc st.length] (st++[.lst ds])=.ok (enc (hold ts)) (st++[.lst ds]):=by
 subst e;exact zqb ts st.length _ 0x1 hv
def zsz(a b c:Tr)(st:ak)(ha:val a=true)(hb:val b=true)(hc:val c=true):ZJ [enc a,enc b,enc c] st=.ok (enc (hold [a,b,c])) st:=by
 have h1:=rP [a,b,c] [enc a,enc b,enc c] rfl st (by simp[ha,hb,hc]);have hu:=jK st.length (hold [a,b,c]);unfold ZJ bF bw zux;exists enc (hold [a,b,c]),W;simp[startM,h1];exact sZ hu
def Gy(a b c d:Tr)(st:ak)(ha:val a=true)(hb:val b=true)(hc:val c=true)(hd:val d=true):zfy [enc a,enc b,enc c,enc d] st=.ok (enc (hold [a,b,c,d])) st:=by
 have h1:=rP [a,b,c,d] [enc a,enc b,enc c,enc d] rfl st (by simp[ha,hb,hc,hd]);have hu:=jK st.length (hold [a,b,c,d]);unfold zfy bF bw zl0;exists enc (hold [a,b,c,d]),W;simp[startM,h1];exact sZ hu
def zis(a b:Tr)(st:ak)(ha:val a=true)(hb:val b=true):Vz [enc a,enc b] st=.ok (enc (.jn tK (hold [a,b]))) st:=by
 have h1:=rP [a,b] [enc a,enc b] rfl st (by simp[ha,hb]);have h2:∀s,O1 [.int 1,enc (hold [a,b])] s=.ok (enc (.jn tK (hold [a,b]))) s:=λs=>zf3 1 (hold [a,b]) s 0x5;have hu:=jK st.length (.jn tK (hold [a,b]));unfold Vz bF bw zhe;exists enc (.jn tK (hold [a,b])),W,enc (hold [a,b]),W1;simp[startM,h1,h2];exact sZ hu
def Ce{α:Type}{l:List α}{i:Nat}{x:α}(h:l.reverse[i]? = some x):i<l.length/\l.drop (l.length - (i+1))=x::l.drop (l.length - i):=by
 have hi:i<l.length:=by have:=(gf.mp h).1;simpa using this
 refine⟨hi,?_⟩;rw[pB hi]at h;have hl:l.length - (i+1)<l.length:=by omega
 rw[mX hl,show l.length - (i+1)+1=l.length - i by omega];have e:l.length - 1 - i=l.length - (i+1):=by omega
 rw[e,gB hl]at h;cases h;rfl
def zth(ts:List Tr)(n:Nat)(st:ak)(h:st[n]? = some (.lst (ts.map enc)))(hv:∀t∈ts,val t=true):Z8 [.loc n] st=.ok (enc (jj ts)) st:=by
 unfold Z8 bF bw zkp;generalize hB:(aG 1 (az Vz [] _):MS)=B;have hS:(.str [75]:D)=enc tK:=rfl;obtain⟨cC,st',h1,a2,rfl,rfl⟩:=z8 (g:=aO 2) (b:=B) (gs:=[(n,.lst (ts.map enc))]) (items:=(ts.map enc).reverse)
  (λi env s=>∃(a2:Option D),env=[some (.loc n),some (enc (jj (ts.drop (ts.length - i)))),a2]/\s=st)
  (env:=[some (.loc n),some (.str [75]),none]) (st:=st) ⟨none,by simp[jj,hS],rfl⟩ (by
   rintro i d env s hi ⟨a2,rfl,rfl⟩;rw[<-nW]at hi;obtain⟨t,ht,rfl⟩:=Hz hi;obtain⟨hl,e⟩:=Ce ht;have hm:t∈ts:=by have:=gU ht;simpa using this
   have hd:∀x∈ts.drop (ts.length - i),val x=true:=λx hx=>hv x (mZ hx);have k1:=zis t (jj (ts.drop (ts.length - i))) s (hv t hm) (zpy hd);refine⟨by simp[h],_,_,rfl,[some (.loc n),some (enc (jj (ts.drop (ts.length - (i+1))))),some (enc t)],s,.inl ?_,_,rfl,rfl⟩;rw[<-hB,e,jj];exists enc (.jn tK (hold [t,jj (ts.drop (ts.length - i))])),W,enc (jj (ts.drop (ts.length - i))),W1;simp[k1]) (λ_ _ zz=>by obtain⟨_,_,q⟩:=zz;subst q;simp[h])
 rw[pJ,gm,Nat.sub_self,List.drop_zero]at h1;have hu:=jK st'.length (jj ts);have lg:tZ st' n=some (ts.map enc,.lst (ts.map enc)):=by simp[tZ,h]
 rw[show startM 3 [D.loc n]=[some (.loc n),none,none] from rfl];exists ts.map enc,X;simp[lg,h1,fV,hu]
end Law
set_option maxHeartbeats 0
namespace M
namespace Tr
def sb(f:List Nat->Option Tr):Tr->Tr
 | .lf s=>(f s).getD (.lf s)
 | .jn l r=>.jn (sb f l) (sb f r)
structure Sub(f:List Nat->Option Tr):Prop where
 v:∀s t,f s=some t->val t=true
 S:f [83]=none
 K:f [75]=none
def zm{f:List Nat->Option Tr}{s:List Nat}(h:f s=none):sb f (.lf s)=.lf s:=by rw[sb,h];rfl
def Px{f:List Nat->Option Tr}(h:Sub f):sb f tS=tS:=zm h.S
def Wa{f:List Nat->Option Tr}(h:Sub f):sb f tK=tK:=zm h.K
def ac_{f:List Nat->Option Tr}(h:Sub f):sb f tI=tI:=by
 show Tr.jn (.jn (sb f tS) (sb f tK)) (sb f tK)=_;rw[Px h,Wa h]
theorem yQ{f:List Nat->Option Tr}(h:Sub f):∀{t:Tr},val t=true->val (sb f t)=true
 | .lf s,_=>by
  rw[sb];cases e:f s with
  | none=>rfl
  | some t=>exact h.v s t e
 | .jn l r,hv=>by
  obtain⟨v1,v2⟩:=Ud hv;have i2:=yQ h v2;cases l with
  | lf s =>
   rw[VD,gG,nY]at hv;have hs:s=[83]\/s=[75]:=hv.2.imp (λe=>eq_of_beq e) (λe=>eq_of_beq e);rcases hs with rfl | rfl
   ·rw[sb,zm h.S,HF];exact i2
   ·rw[sb,zm h.K,fj];exact i2
  | jn a b =>
   rw[Vs,gG,gG]at hv;obtain⟨_,hj,_⟩:=hv;cases a with
   | jn c d=>simp[xg]at hj
   | lf s =>
    have hs:s=[83]:=by simpa[xg] using hj
    subst hs;have i1:=yQ h v1;have e1:sb f (.jn (.lf [83]) b)=.jn tS (sb f b):=by rw[sb,zm h.S]
    rw[e1,HF]at i1;rw[sb,e1,TX,i2,i1];rfl
theorem znk{f g:List Nat->Option Tr}{x:List Nat}(Li:∀s,s≠x->f s=g s):∀{t:Tr},stands x t=false->sb f t=sb g t
 | .lf s,h=>by
  have:s≠x:=by simpa[stands] using h
  rw[sb,sb,Li s this]
 | .jn l r,h=>by
  rw[stands,Bool.or_eq_false_iff]at h;rw[sb,sb,znk Li h.1,znk Li h.2]
theorem Ev.inv:∀{n:Nat} {l r v:Tr},Ev 0x3 n v->∃n1 n2 n3 a b,Ev l n1 a/\Ev r n2 b/\Ev (.jn a b) n3 v/\n=n1+n2+n3
 | 0,l,r,v,h=>by
  obtain⟨h1,h2⟩:=h;rw[jN]at h1;cases h1;obtain⟨v1,v2⟩:=Ud h2;exact⟨0,0,0,l,r,Ev.v v1,Ev.v v2,Ev.v h2,rfl⟩
 | n+1,l,r,v,h=>by
  cases vl:val l with
  | false =>
   obtain⟨h1,h2⟩:=h;have e:=zib (r:=r) vl;cases sl:step l with
   | none=>rw[jN,e,sl]at h1;cases h1
   | some l' =>
    rw[sl]at e;rw[xQ (u:=.jn l' r) e]at h1;obtain⟨n1,n2,n3,a,b,q1,q2,q3,q4⟩:=Ev.inv (n:=n) ⟨h1,h2⟩;exact⟨n1+1,n2,n3,a,b,⟨by rw[xQ sl];exact q1.1,q1.2⟩,q2,q3,by omega⟩
  | true =>
   cases vr:val r with
   | false =>
    obtain⟨h1,h2⟩:=h;have e:=zgb vl vr;cases sr:step r with
    | none=>rw[jN,e,sr]at h1;cases h1
    | some r' =>
     rw[sr]at e;rw[xQ (u:=.jn l r') e]at h1;obtain⟨n1,n2,n3,a,b,q1,q2,q3,q4⟩:=Ev.inv (n:=n) ⟨h1,h2⟩;have:n1=0/\l=a:=Ev.det (Ev.v vl) q1 |>.imp (λz=>z.symm) id;exact⟨n1,n2+1,n3,a,b,q1,⟨by rw[xQ sr];exact q2.1,q2.2⟩,q3,by omega⟩
   | true=>exact⟨0,0,n+1,l,r,Ev.v vl,Ev.v vr,h,by omega⟩
def Ev.adI{u v w x:Tr}{n:Nat}(hv:val (.jn (.jn tS u) v)=true)(hw:val w=true)(h:Ev (.jn (.jn (.jn tS u) v) w) n x):∃k,n=k+1/\Ev (.jn (.jn u w) (.jn v w)) k x:=by
 have e:step (.jn (.jn (.jn tS u) v) w)=some (.jn (.jn u w) (.jn v w)):=by rw[zgh hv hw (Zz u v w)];rfl
 cases n with
 | zero =>
  obtain⟨h1,h2⟩:=h;rw[jN]at h1;cases h1;rw[Zz]at h2;cases h2
 | succ n =>
  obtain⟨h1,h2⟩:=h;rw[xQ e]at h1;exact⟨n,rfl,h1,h2⟩
def sim{f g:List Nat->Option Tr}{x:List Nat}{V:Tr}(hg:Sub g)(hf:Sub f)(hx:f x=some V)(Li:∀s,s≠x->f s=g s)(hV:val V=true):∀(t:Tr) (n:Nat) (v:Tr),
  Ev (.jn (sb g (out x t).1) V) n v ↔ ∃k,n=k+(out x t).2/\Ev (sb f t) k v:=by
 have hVe:Ev V 0 V:=Ev.v hV;have cst:∀(t:Tr),(val t && !stands x t)=true->∀n v,Ev (.jn (sb g (.jn tK t)) V) n v ↔ ∃k,n=k+1/\Ev (sb f t) k v:=by
  intro t ht n v;simp only[gG,nJ]at ht;have e1:sb f t=sb g t:=znk Li ht.2;have v1:=yQ hg ht.1;have e2:sb g (.jn tK t)=.jn tK (sb g t):=by rw[sb,Wa hg]
  have base:Ev (.jn (sb g (.jn tK t)) V) 1 (sb g t):=by
   rw[e2];exact ((Ev.v (v:=.jn tK (sb g t)) (by rw[fj];exact v1)).K hVe).to 0x0
  rw[e1];constructor
  ·intro h;obtain⟨q1,q2⟩:=base.det h;subst q1 q2;exact⟨0,rfl,Ev.v v1⟩
  ·rintro ⟨k,rfl,h⟩;obtain⟨q1,q2⟩:=(Ev.v v1).det h;subst q1 q2;exact base
 intro t
 induction t with
 | lf s =>
  intro n v;by_cases h0:iI x (.lf s)=true
  ·rw[zop x h0];rw[zi3]at h0;cases h0;have e1:sb f (.lf x)=V:=by rw[sb,hx];rfl
   rw[e1,show sb g (tI,2).1=tI from ac_ hg];have base:Ev (.jn tI V) 2 V:=Ev.I hVe;constructor
   ·intro h;obtain⟨q1,q2⟩:=base.det h;subst q1 q2;exact⟨0,rfl,hVe⟩
   ·rintro ⟨k,rfl,h⟩;obtain⟨q1,q2⟩:=hVe.det h;subst q1 q2;exact base
  ·have hs:stands x (.lf s)=false:=(show iI x (.lf s)=false by simpa using h0);have hc:(val (.lf s) && !stands x (.lf s))=true:=by rw[hs];rfl
   rw[Vv x hc];exact cst _ hc n v
 | jn l r ihl ihr =>
  intro n v;by_cases h1:(val 0x3 && !stands x 0x3)=true
  ·rw[Vv x h1];exact cst _ h1 n v
  ·by_cases h2:((val l && !stands x l) && iI x r)=true
   ·simp only[gG,nJ]at h2;rw[zf1 x (by simp only[gG,nJ];exact h2.1) h2.2];obtain⟨⟨_,hs⟩,hr⟩:=h2;rw[zi3]at hr;subst hr;have e1:sb f (.jn l (.lf x))=.jn (sb g l) V:=by rw[sb,znk Li hs,show sb f (.lf x)=V by rw[sb,hx];rfl]
    rw[e1];exact⟨λh=>⟨n,rfl,h⟩,λzz=>by obtain⟨k,e,h⟩:=zz;subst e;exact h⟩
   ·rw[ziq x (by simpa using h1) (by simpa using h2)];have e1:sb g (.jn (.jn tS (out x l).1) (out x r).1)=.jn (.jn tS (sb g (out x l).1)) (sb g (out x r).1):=by rw[sb,sb,Px hg]
    have vA:=yQ hg (z7 x l);have vB:=yQ hg (z7 x r);have vS:val (.jn (.jn tS (sb g (out x l).1)) (sb g (out x r).1))=true:=by rw[TX,vA,vB];rfl
    rw[show (Tr.jn (.jn tS (out x l).1) (out x r).1,1+(out x l).2+(out x r).2).1=Tr.jn (.jn tS (out x l).1) (out x r).1 from rfl,e1];show _ ↔ ∃k,n=k+(1+(out x l).2+(out x r).2)/\Ev (.jn (sb f l) (sb f r)) k v;constructor
    ·intro h;obtain⟨k,rfl,h'⟩:=Ev.adI vS hV h;obtain⟨n1,n2,n3,a,b,q1,q2,q3,rfl⟩:=h'.inv;obtain⟨k1,rfl,p1⟩:=(ihl n1 a).mp q1;obtain⟨k2,rfl,p2⟩:=(ihr n2 b).mp q2;exact⟨k1+k2+n3,by omega,p1.comp p2 q3⟩
    ·rintro ⟨k,rfl,h⟩;obtain⟨n1,n2,n3,a,b,q1,q2,q3,rfl⟩:=h.inv;have p1:=(ihl (n1+(out x l).2) a).mpr ⟨n1,rfl,q1⟩;have p2:=(ihr (n2+(out x r).2) b).mpr ⟨n2,rfl,q2⟩;exact ((Ev.v vS).S hVe (p1.comp p2 q3)).to 0x0
end Tr
end M
namespace M
open Tr
def aY(σ:List (List Nat×Tr)):List (L2.Key×D):=σ.map λp=>(.inr (strOf p.1),enc p.2)
def look(σ:List (List Nat×Tr))(s:List Nat):Option Tr:=(σ.find? λp=>decide (p.1=s)).map (·.2)
def Ny{a b:List Nat}:(strOf a=strOf b)↔a=b:=by
 constructor
 ·intro h;injection h with h;simpa using congrArg Array.toList h
 ·intro h;rw[h]
def OJ(p:List Nat×Tr)(r:List (List Nat×Tr))(s:List Nat):look (p::r) s=if p.1=s then some p.2 else look r s:=by
 unfold look;rw[mq];by_cases h:p.1=s<;>simp[h]
theorem zk0(s:List Nat):∀σ:List (List Nat×Tr),valN (aY σ) (.inr (strOf s))=(look σ s).map enc
 | []=>rfl
 | p::r=>by
  rw[show aY (p::r)=(.inr (strOf p.1),enc p.2)::aY r from rfl,ZV,OJ,zk0 s r];by_cases h:p.1=s
  ·rw[afn (by rw[h]),afn h];rfl
  ·rw[afo (λz=>h (Ny.mp (afM z))),afo h]
def zy(s:List Nat):keyOf (.str s)=some (.inr (strOf s)):=rfl
end M
namespace Law
open L2 M Tr
def RZ(σ:List (List Nat×Tr))(n:Nat)(s:List Nat)(st:ak)(h:st[n]? = some (.dkc (aY σ))):zJ (.loc n) [.str s,.str s] st=.ok (enc (sb (look σ) (.lf s))) st:=by
 unfold zJ;simp only[h,zy,zk0];rw[sb];cases look σ s<;>rfl
def zh6(σ:List (List Nat×Tr))(t:Tr)(n:Nat)(st:ak)(h:st[n]? = some (.dkc (aY σ)))(ht:st[2]? = some (.tab "put_in"))(hc:bI st)(hl:lv t<=400000):Hi [enc t,.loc n] st=.ok (enc (sb (look σ) t)) st:=by
 let os:ak:=[.clo 0 (iR 0) [.loc n],.clo 1 (iR 1) []]
 have f1:NP [enc t,.loc st.length,.loc 0xc] (st++os)=.ok (enc (sb (look σ) t)) (st++os):=by
  refine zqf (λu=>enc (sb (look σ) u)) (λ_=>True) st.length 0xc 0 1 [.loc n] [] t _ (by simp[os]) (by simp[os]) hl (λu n=>jK n _) trivial (λ_ _ _=>⟨trivial,trivial⟩) ?_ ?_
  ·intro s g _;have hh:(cj (st++os++g))[n]? = some (.dkc (aY σ)):=zr0 (dC (dC h)) rfl;have hg:=RZ σ n s _ hh;have it:cM "dict" (.loc n) (cj (st++os++g))=true:=by unfold cM;simp only[hh];rfl
   exists cj (st++os++g),Z;rw[show enc (.lf s)=.str s from rfl];exists enc (sb (look σ) (.lf s)),W;simp[GL,rK,e_0,it,hg]
  ·intro l r g _;have j1:=xP (sb (look σ) l) (sb (look σ) r) (cj (st++os++g));rw[show sb (look σ) 0x3=.jn (sb (look σ) l) (sb (look σ) r) from rfl];exists cj (st++os++g),Z,enc (.jn (sb (look σ) l) (sb (look σ) r)),W,enc 0x3,J;exists enc (sb (look σ) l),L,enc (sb (look σ) r),R';simp[GL,rK,e_1,j1]
 have hu:=jK st.length (sb (look σ) t);have c1:=zn7 (Λ:=iR) (F:=NP) (dd:=[]) (m:=iY (vr 0) (j6 0 [1] 2 "put_in" (j6 1 [] 2 "put_in" uP))) (env:=[some (enc t),some (.loc n)]) (st:=st) (st1:=st) (st2:=st) (as:=[.v (enc t),.l 0 [1],.l 1 []]) (ds:=[enc t,.loc st.length,.loc 0xc]) (os:=os) (d:=enc (sb (look σ) t))
  (by simp[iY,j6,uP,ht]) hc (by simp[jq,yH,os]) (by rw[gr,f1];exact sZ hu) hc
 unfold Hi bF bw zeu;rw[show startM 2 [enc t,D.loc n]=[some (enc t),some (.loc n)] from rfl];generalize j9 iR NP [] (iY (vr 0) (j6 0 [1] 2 "put_in" (j6 1 [] 2 "put_in" uP)))=CL at c1 ⊢;exists enc (sb (look σ) t),W,enc t,X;simp[c1];exact fV hu
end Law
namespace M
namespace Tr
def bV(t:Tr):List (List Nat)->Tr
 | []=>t
 | x::xs=>(out x (bV t xs)).1
def dH(t:Tr):List (List Nat)->List Nat
 | []=>[]
 | x::xs=>(out x (bV t xs)).2::dH t xs
theorem zqp(t:Tr):∀xs:List (List Nat),(dH t xs).length=xs.length
 | []=>rfl
 | x::xs=>by rw[dH,g8,zqp t xs,g8]
structure Puts(xs:List (List Nat))(vs:List Tr):Prop where
 len:vs.length=xs.length
 nd:xs.Nodup
 v:∀v∈vs,val v=true
 S:[83]∉xs
 K:[75]∉xs
def zqr{σ:List (List Nat×Tr)}{s:List Nat}(h:∀p∈σ,p.1≠s):look σ s=none:=by
 induction σ with
 | nil=>rfl
 | cons p r ih=>rw[OJ,afo (h p 0x1),ih λq hq=>h q (by simp[hq])]
def zir{σ:List (List Nat×Tr)}{s:List Nat}{v:Tr}(h:look σ s=some v):(s,v)∈σ:=by
 induction σ with
 | nil=>cases h
 | cons p r ih =>
  rw[OJ]at h
  split at h
  ·rename_i e;cases h;obtain⟨a,b⟩:=p;cases e;simp
  ·exact kW _ (ih h)
def zp7(σ:List (List Nat×Tr))(x s:List Nat)(v:Tr)(h:∀p∈σ,p.1≠x):look (σ++[(x,v)]) s=if x=s then some v else look σ s:=by
 induction σ with
 | nil=>rw[kI,OJ]
 | cons p r ih =>
  rw[nF,OJ,OJ,ih λq hq=>h q (by simp[hq])];by_cases e:p.1=s
  ·rw[afn e,afn e,afo (λz=>h p 0x1 (e.trans z.symm))]
  ·rw[afo e,afo e]
section
variable  {xs:List (List Nat)}{vs:List Tr}
def Puts.sub(h:Puts xs vs)(j:Nat):Sub (look ((xs.zip vs).take j)):=by
 have mem:∀s v,look ((xs.zip vs).take j) s=some v->s∈xs/\v∈vs:=λs v e=>by
  have:=mY (zir e);exact⟨(nq this).1,(nq this).2⟩
 refine⟨λs v e=>h.v v (mem s v e).2,?_,?_⟩
 ·cases e:look ((xs.zip vs).take j) [83] with
  | none=>rfl
  | some v=>exact absurd (mem _ _ e).1 h.S
 ·cases e:look ((xs.zip vs).take j) [75] with
  | none=>rfl
  | some v=>exact absurd (mem _ _ e).1 h.K
def Puts.next(h:Puts xs vs){j:Nat}{x:List Nat}{v:Tr}(hx:xs[j]? = some x)(hv:vs[j]? = some v):(xs.zip vs).take (j+1)=(xs.zip vs).take j++[(x,v)]/\∀p∈(xs.zip vs).take j,p.1≠x:=by
 have hz:(xs.zip vs)[j]? = some (x,v):=by rw[pP];exact⟨hx,hv⟩
 refine⟨by rw[kJ,hz];rfl,λp hp e=>?_⟩;obtain⟨i,hi,q⟩:=nj.mp hp;rw[km]at hi;have q2:(xs.zip vs)[i]? = some p:=by rw[pD]at q;rw[<-q];exact gB 0x0
 obtain⟨a,b⟩:=p;rw[pP]at q2;have YM:xs[i]? = xs[j]?:=by rw[q2.1,hx];exact congrArg some e
 have Ho:=(gf.mp q2.1).1;have:=(nG Ho h.nd).mp YM;omega
def ztg{t:Tr}{j:Nat}{x:List Nat}(hx:xs[j]? = some x):bV t (xs.drop j)=(out x (bV t (xs.drop (j+1)))).1:=by
 have hl:=(gf.mp hx).1;rw[mX hl];rw[gB hl]at hx;cases hx;rfl
def Puts.sim(h:Puts xs vs)(t:Tr){j:Nat}{x:List Nat}{V:Tr}(hx:xs[j]? = some x)(hV:vs[j]? = some V)(n:Nat)(v:Tr) :
  Ev (.jn (sb (look ((xs.zip vs).take j)) (bV t (xs.drop j))) V) n v ↔ ∃k,n=k+(out x (bV t (xs.drop (j+1)))).2/\Ev (sb (look ((xs.zip vs).take (j+1))) (bV t (xs.drop (j+1)))) k v:=by
 obtain⟨e1,e2⟩:=h.next hx hV;rw[ztg hx];refine Tr.sim (h.sub j) (h.sub (j+1)) ?_ (λs hs=>?_) (h.v V (gU hV)) _ n v
 ·rw[e1,zp7 _ _ _ _ e2,afn rfl]
 ·rw[e1,zp7 _ _ _ _ e2,afo (λz=>hs z.symm)]
theorem zvc(t:Tr):∀(xs:List (List Nat)) (j:Nat) (x:List Nat),xs[j]? = some x->(dH t xs)[j]? = some (out x (bV t (xs.drop (j+1)))).2
 | [],j,x,h=>by simp at h
 | y::ys,0,x,h=>by simp at h;subst h;simp[dH]
 | y::ys,j+1,x,h=>by
  have:=zvc t ys j x (by simpa using h);simpa[dH] using this
theorem Puts.few(h:Puts xs vs)(t:Tr):∀j,j<xs.length->Ev (apps (bV t xs) (vs.take j)) ((dH t xs).take j).sum (sb (look ((xs.zip vs).take j)) (bV t (xs.drop j)))
 | 0,hj=>by
  rw[List.take_zero,List.take_zero,List.take_zero,List.drop_zero];have e:sb (look []) (bV t xs)=bV t xs:=by
   have:∀u,sb (look []) u=u:=by
    intro u
    induction u with
    | lf s=>rfl
    | jn l r h1 h2=>rw[sb,h1,h2]
   exact this _
  rw[e];obtain⟨x,ys,rfl⟩:∃x ys,xs=x::ys:=by
   cases xs with
   | nil=>simp at hj
   | cons x ys=>exact⟨x,ys,rfl⟩
  exact Ev.v (z7 x _)
 | j+1,hj=>by
  have ih:=Puts.few h t j 0x0;obtain⟨x,hx⟩:∃x,xs[j]? = some x:=⟨_,gB 0x0⟩;obtain⟨V,hV⟩:∃V,vs[j]? = some V:=⟨_,gB (by rw[h.len];omega)⟩;obtain⟨y,hy⟩:∃y,xs[j+1]? = some y:=⟨_,gB hj⟩;have vW:val (sb (look ((xs.zip vs).take (j+1))) (bV t (xs.drop (j+1))))=true:=by
   refine yQ (h.sub (j+1)) ?_;rw[ztg hy];exact z7 y _
  have e:=(h.sim t hx hV _ _).mpr ⟨0,rfl,Ev.v vW⟩;have et:vs.take (j+1)=vs.take j++[V]:=by rw[kJ,hV];rfl
  have ec:((dH t xs).take (j+1)).sum=((dH t xs).take j).sum+(out x (bV t (xs.drop (j+1)))).2:=by
   rw[kJ,zvc t xs j x hx];simp
  rw[et,Ub,ec];exact (ih.comp (Ev.v (h.v V (gU hV))) e).to 0x0
def Puts.all(h:Puts xs vs)(hn:0<xs.length)(t:Tr)(n:Nat)(v:Tr):Ev (apps (bV t xs) vs) n v ↔ ∃k,n=k+(dH t xs).sum/\Ev (sb (look (xs.zip vs)) t) k v:=by
 obtain⟨x,hx⟩:∃x,xs[xs.length - 1]? = some x:=⟨_,gB 0x0⟩;obtain⟨V,hV⟩:∃V,vs[xs.length - 1]? = some V:=⟨_,gB (by rw[h.len];omega)⟩;have f:=h.few t (xs.length - 1) 0x0;have s:=h.sim t hx hV;have vV:=h.v V (gU hV);have e1:xs.length - 1+1=xs.length:=by omega
 have ed:bV t (xs.drop (xs.length - 1+1))=t:=by rw[e1,List.drop_length];rfl
 have ez:(xs.zip vs).take (xs.length - 1+1)=xs.zip vs:=by rw[e1];exact pN (by rw[List.length_zip];omega)
 have ev:vs=vs.take (xs.length - 1)++[V]:=by
  have:vs.take (xs.length - 1+1)=vs.take (xs.length - 1)++[V]:=by rw[kJ,hV];rfl
  rw[<-this,e1,<-h.len,kO]
 have ec:(dH t xs).sum=((dH t xs).take (xs.length - 1)).sum+(out x t).2:=by
  have h1:=zvc t xs _ x hx;rw[ed]at h1;have h2:(dH t xs).take (xs.length - 1+1)=(dH t xs).take (xs.length - 1)++[(out x t).2]:=by rw[kJ,h1];rfl
  rw[e1,<-zqp t xs,kO]at h2;rw[<-zqp t xs]
  calc (dH t xs).sum=((dH t xs).take ((dH t xs).length - 1)++[(out x t).2]).sum:=by rw[<-h2]
   _=_:=by simp
 rw[ed,ez]at s;have ea:apps (bV t xs) vs=.jn (apps (bV t xs) (vs.take (xs.length - 1))) V:=by
  conv=>lhs;rw[ev]
  rw[Ub]
 rw[ea,ec];constructor
 ·intro q;obtain⟨n1,n2,n3,a,b,q1,q2,q3,rfl⟩:=q.inv;obtain⟨d1,d2⟩:=f.det q1;obtain⟨d3,d4⟩:=(Ev.v vV).det q2;subst d1 d2 d3 d4;obtain⟨k,rfl,hk⟩:=(s n3 v).mp q3;exact⟨k,by omega,hk⟩
 ·rintro ⟨k,rfl,hk⟩;exact (f.comp (Ev.v vV) ((s _ v).mpr ⟨k,rfl,hk⟩)).to 0x0
end
end Tr
end M
set_option maxHeartbeats 0
namespace M
namespace Tr
def Rdy:Tr->Prop
 | .lf _=>True
 | .jn a b=>val a=true/\val b=true
theorem Rdy.Xe:∀{t:Tr},val t=true->Rdy t
 | .lf _,_=>trivial
 | .jn _ _,h=>Ud h
def jG(t:Tr)(n:Nat)(u:Tr):Prop:=jN n t=some u/\Rdy u
def Ev.r{t v:Tr}{n:Nat}(h:Ev t n v):jG t n v:=⟨h.1,.Xe h.2⟩
def jG.to{t v:Tr}{n m:Nat}(h:jG t n v)(e:n=m):jG t m v:=e ▸ h
def jG.then{t u v:Tr}{n m:Nat}(h:jN n t=some u)(k:jG u m v):jG t (n+m) v:=⟨by rw[Vm h];exact k.1,k.2⟩
theorem jG.inv:∀{n:Nat} {l r u:Tr},jG 0x3 n u->∃n1 n2 n3 a b,Ev l n1 a/\Ev r n2 b/\jG (.jn a b) n3 u/\n=n1+n2+n3
 | 0,l,r,u,h=>by
  obtain⟨h1,h2⟩:=h;rw[jN]at h1;cases h1;exact⟨0,0,0,l,r,Ev.v h2.1,Ev.v h2.2,⟨rfl,h2⟩,rfl⟩
 | n+1,l,r,u,h=>by
  cases vl:val l with
  | false =>
   obtain⟨h1,h2⟩:=h;have e:=zib (r:=r) vl;cases sl:step l with
   | none=>rw[jN,e,sl]at h1;cases h1
   | some l' =>
    rw[sl]at e;rw[xQ (u:=.jn l' r) e]at h1;obtain⟨n1,n2,n3,a,b,q1,q2,q3,q4⟩:=jG.inv (n:=n) ⟨h1,h2⟩;exact⟨n1+1,n2,n3,a,b,⟨by rw[xQ sl];exact q1.1,q1.2⟩,q2,q3,by omega⟩
  | true =>
   cases vr:val r with
   | false =>
    obtain⟨h1,h2⟩:=h;have e:=zgb vl vr;cases sr:step r with
    | none=>rw[jN,e,sr]at h1;cases h1
    | some r' =>
     rw[sr]at e;rw[xQ (u:=.jn l r') e]at h1;obtain⟨n1,n2,n3,a,b,q1,q2,q3,q4⟩:=jG.inv (n:=n) ⟨h1,h2⟩;have:n1=0/\l=a:=Ev.det (Ev.v vl) q1 |>.imp (λz=>z.symm) id;exact⟨n1,n2+1,n3,a,b,q1,⟨by rw[xQ sr];exact q2.1,q2.2⟩,q3,by omega⟩
   | true=>exact⟨0,0,n+1,l,r,Ev.v vl,Ev.v vr,h,by omega⟩
def jG.comp{l r a b u:Tr}{n m k:Nat}(h:Ev l n a)(h2:Ev r m b)(h3:jG (.jn a b) k u):jG 0x3 (n+m+k) u:=.then (h.both h2) h3
def ac9{f g:List Nat->Option Tr}{x:List Nat}{V:Tr}(hg:Sub g)(hf:Sub f)(hx:f x=some V)(Li:∀s,s≠x->f s=g s)(hV:val V=true)(t:Tr){k:Nat}{u:Tr}(h:jG (sb f t) k u) :
  jG (.jn (sb g (out x t).1) V) (k+(out x t).2) u:=by
 by_cases hv:val u=true
 ·exact ((sim hg hf hx Li hV t _ _).mpr ⟨k,rfl,h.1,hv⟩).r
 have key:∀t',Ev (sb f t') k u->False:=λt' e=>hv e.2;cases t with
 | lf s =>
  exfalso;have:val (sb f (.lf s))=true:=yQ hf rfl;obtain⟨h1,_⟩:=h;cases k with
  | zero=>rw[jN]at h1;cases h1;exact hv this
  | succ k=>rw[jN,Vp this]at h1;cases h1
 | jn l r =>
  have hVe:Ev V 0 V:=Ev.v hV;by_cases h1:(val 0x3 && !stands x 0x3)=true
  ·exfalso;simp only[gG]at h1;have:val (sb f 0x3)=true:=yQ hf h1.1;obtain⟨h2,_⟩:=h;cases k with
   | zero=>rw[jN]at h2;cases h2;exact hv this
   | succ k=>rw[jN,Vp this]at h2;cases h2
  ·by_cases h2:((val l && !stands x l) && iI x r)=true
   ·simp only[gG,nJ]at h2;rw[zf1 x (by simp only[gG,nJ];exact h2.1) h2.2];obtain⟨⟨_,hs⟩,hr⟩:=h2;rw[zi3]at hr;subst hr;have e1:sb f (.jn l (.lf x))=.jn (sb g l) V:=by rw[sb,znk Li hs,show sb f (.lf x)=V by rw[sb,hx];rfl]
    rw[e1]at h;exact h
   ·rw[ziq x (by simpa using h1) (by simpa using h2)];have e1:sb g (.jn (.jn tS (out x l).1) (out x r).1)=.jn (.jn tS (sb g (out x l).1)) (sb g (out x r).1):=by rw[sb,sb,Px hg]
    have vS:val (.jn (.jn tS (sb g (out x l).1)) (sb g (out x r).1))=true:=by rw[TX,yQ hg (z7 x l),yQ hg (z7 x r)];rfl
    show jG (.jn (sb g (.jn (.jn tS (out x l).1) (out x r).1)) V) (k+(1+(out x l).2+(out x r).2)) u;rw[e1];obtain⟨n1,n2,n3,a,b,q1,q2,q3,rfl⟩:=jG.inv h;have p1:=(sim hg hf hx Li hV l (n1+(out x l).2) a).mpr ⟨n1,rfl,q1⟩;have p2:=(sim hg hf hx Li hV r (n2+(out x r).2) b).mpr ⟨n2,rfl,q2⟩;have st1:jN 1 (.jn (.jn (.jn tS (sb g (out x l).1)) (sb g (out x r).1)) V)=some (.jn (.jn (sb g (out x l).1) V) (.jn (sb g (out x r).1) V)):=by
     rw[xQ (u:=.jn (.jn (sb g (out x l).1) V) (.jn (sb g (out x r).1) V)) (by rw[zgh vS hV (Zz _ _ _)];rfl)];rfl
    exact (jG.then st1 (jG.comp p1 p2 q3)).to 0x0
def lB(ρ:List Nat->Option Tr)(x:List Nat)(v:Tr):List Nat->Option Tr:=λs=>if s=x then some v else ρ s
def vh(ρ:List Nat->Option Tr):List (List Nat)->List Tr->List Nat->Option Tr
 | x::xs,v::vs=>vh (lB ρ x v) xs vs
 | _,_=>ρ
def lA(x:List Nat):Prop:=x≠[83]/\x≠[75]
def Sub.upd{ρ:List Nat->Option Tr}(h:Sub ρ){x:List Nat}{v:Tr}(hx:lA x)(hv:val v=true):Sub (lB ρ x v):=by
 refine⟨λs t e=>?_,?_,?_⟩
 ·unfold lB at e
  split at e
  ·cases e;exact hv
  ·exact h.v s t e
 ·unfold lB;rw[afo (afy hx.1)];exact h.S
 ·unfold lB;rw[afo (afy hx.2)];exact h.K
def zsp{n:Nat}{p w:Tr}(h:jN n p=some w):∀vs:List Tr,jN n (apps p vs)=some (apps w vs):=by
 intro vs
 induction vs generalizing p w with
 | nil=>exact h
 | cons v vs ih=>exact ih (zox h)
def Ie{ρ:List Nat->Option Tr}(h:Sub ρ){x:List Nat}{V:Tr}(hx:lA x)(hV:val V=true)(t:Tr){k:Nat}{u:Tr}(e:jG (sb (lB ρ x V) t) k u):jG (.jn (sb ρ (out x t).1) V) (k+(out x t).2) u :=
 ac9 h (h.upd hx hV) (by unfold lB;rw[afn rfl]) (λs hs=>by unfold lB;rw[afo hs]) hV t e
def yc{ρ:List Nat->Option Tr}(h:Sub ρ){x y:List Nat}{V:Tr}(hx:lA x)(hV:val V=true)(t:Tr)(ys:List (List Nat)) :
  Ev (.jn (sb ρ (bV t (x::y::ys))) V) (out x (bV t (y::ys))).2 (sb (lB ρ x V) (bV t (y::ys))):=by
 have vW:val (sb (lB ρ x V) (bV t (y::ys)))=true:=yQ (h.upd hx hV) (z7 y _);have:=Ie h hx hV (bV t (y::ys)) (Ev.v vW).r;rw[nH]at this;exact⟨this.1,vW⟩
theorem hands(t:Tr):∀(xs:List (List Nat)) (vs:List Tr) (ρ:List Nat->Option Tr),Sub ρ->(∀x∈xs,lA x)->(∀v∈vs,val v=true)->vs.length=xs.length->xs≠[]->∀{k:Nat} {u:Tr},jG (sb (vh ρ xs vs) t) k u ->
  jG (apps (sb ρ (bV t xs)) vs) (k+(dH t xs).sum) u
 | [],_,_,_,_,_,_,h,_,_,_=>absurd rfl h
 | [x],[v],ρ,h,hx,hv,_,_,k,u,e=>by
  have:=Ie h (hx x 0x1) (hv v 0x1) t e;exact this.to (by simp[dH,bV])
 | x::y::ys,v::vs,ρ,h,hx,hv,hl,_,k,u,e=>by
  have o:=yc h (hx x 0x1) (hv v 0x1) t ys (y:=y);have ih:=hands t (y::ys) vs (lB ρ x v) (h.upd (hx x 0x1) (hv v 0x1)) (λz hz=>hx z (by simp[hz])) (λz hz=>hv z (by simp[hz])) (by simpa using hl) 0x1 e;exact (jG.then (zsp (p:=.jn (sb ρ (bV t (x::y::ys))) v) o.1 vs) ih).to (by rw[show dH t (x::y::ys)=(out x (bV t (y::ys))).2::dH t (y::ys) from rfl,nZ];omega)
 | [_],[],_,_,_,_,hl,_,_,_,_=>by simp at hl
 | [_],_::_::_,_,_,_,_,hl,_,_,_,_=>by simp at hl
 | _::_::_,[],_,_,_,_,hl,_,_,_,_=>by simp at hl
def zub{p w:Tr}{ts:List Tr}{t:Tr}{n:Nat}(hp:val p=true)(h:dG p ts n w)(ht:val t=true):jN (n+2+2*(ts.length+1)) (.jn (hold (ts++[t])) p)=some (.jn w t):=by
 obtain⟨v1,e1⟩:=zpx hp h;have hv:val (hold (ts++[t]))=true:=by rw[Z4,TX,fj,ht,v1];rfl
 have k1:Ev (.jn (.jn tK t) p) 1 t:=((Ev.v (v:=.jn tK t) (by rw[fj];exact ht)).K (Ev.v hp)).to 0x0;rw[Z4]at hv ⊢;have st1:jN 1 (.jn (.jn (.jn tS (hold ts)) (.jn tK t)) p)=some (.jn (.jn (hold ts) p) (.jn (.jn tK t) p)):=by
  rw[xQ (u:=.jn (.jn (hold ts) p) (.jn (.jn tK t) p)) (by rw[zgh hv hp (Zz _ _ _)];rfl)];rfl
 rw[show n+2+2*(ts.length+1)=1+(n+2+2*ts.length+1) by omega,Vm st1];exact e1.both k1
end Tr
end M
namespace M
namespace Tr
abbrev eG:List (List Nat):=[[108],[115],[114],[102]]
abbrev cF:List (List Nat):=[[110],[102],[108],[114]]
abbrev jd:List (List Nat):=[[121],[120]]
abbrev qx:List (List Nat):=[[97],[116],[121],[120]]
abbrev qL:List (List Nat):=[[102],[118]]
def dn(c:Nat):List Nat:=if c=95 then [100] else [100,c]
def cI(ls:List Nat):Tr:=apps (.lf [115]) ((ls.map λc=>.lf (dn c))++cF.map .lf)
def fJ:Tr:=hold [.lf [110],.lf [108],.lf [119],.lf [114]]
def cT(m:Bool):Tr:=apps (.lf (if m then [108] else [114])) [.lf [98,97,114,101],.lf [102,117,108,108],.jn 0x1d (.lf [102]),.lf (if m then [114] else [108])]
def eV:Tr:=.jn tK (hold [.lf [119],.lf [120]])
def bG(m:Bool):Tr:=.jn (.lf [121]) (if m then hold [.lf [116],.lf [97],eV] else hold [eV,.lf [97],.lf [116]])
def dX:Tr:=apps (.lf [118]) [.lf [101],.lf [102]]
def Ni(p:Tr)(a b:List Tr):apps p (a++b)=apps (apps p a) b:=by simp[apps]
def Pu(f:List Nat->Option Tr)(p:Tr)(ts:List Tr):sb f (apps p ts)=apps (sb f p) (ts.map (sb f)):=by
 induction ts generalizing p with
 | nil=>rfl
 | cons t ts ih=>exact ih (.jn p t)
theorem Ii{f:List Nat->Option Tr}(h:Sub f):∀{t:Tr},sk t->sb f t=t
 | .lf s,hs=>by
  rcases (show s=[83]\/s=[75] from hs) with rfl | rfl
  ·exact Px h
  ·exact Wa h
 | .jn l r,hs=>by rw[sb,Ii h hs.1,Ii h hs.2]
def su(f g:List Nat->Option Tr):List Nat->Option Tr:=λs=>match f s with | some v=>some v | none=>g s
theorem Ij{f g:List Nat->Option Tr}(hg:Sub g)(hf:∀s v,f s=some v->sk v):∀t:Tr,sb g (sb f t)=sb (su f g) t
 | .lf s=>by
  unfold su;rw[sb,sb];cases e:f s with
  | none=>rfl
  | some v=>exact Ii hg (hf s v e)
 | .jn l r=>by rw[sb,sb,sb,Ij hg hf l,Ij hg hf r]
def Sub.su{f g:List Nat->Option Tr}(hf:Sub f)(hg:Sub g):Sub (Tr.su f g):=by
 refine⟨λs t e=>?_,?_,?_⟩
 ·unfold Tr.su at e;cases q:f s with
  | none=>rw[q]at e;exact hg.v s t e
  | some v=>rw[q]at e;cases e;exact hf.v s _ q
 ·unfold Tr.su;rw[hf.S];exact hg.S
 ·unfold Tr.su;rw[hf.K];exact hg.K
def HB{σ:List (List Nat×Tr)}(h:∀p∈σ,lA p.1/\val p.2=true):Sub (look σ):=by
 refine⟨λs t e=>(h _ (zir e)).2,?_,?_⟩
 ·exact zqr λp hp=>(h p hp).1.1
 ·exact zqr λp hp=>(h p hp).1.2
def PX(ls:List Nat)(num:Tr)(fM:Nat->Tr):Tr:=sb (look 0x20) (bV (cI ls) eG)
def ju(w:Tr):Tr:=sb (look [([119],w)]) (bV fJ cF)
def fU(m:Bool)(bl w:Tr):Tr:=sb (look [([119],w)]) (sb (look [([97],bl),([116],tK)]) (bV (bG m) jd))
def jk(m:Bool)(w:Tr):Tr:=sb (look [([119],w)]) (bV (bG m) qx)
def rH(m:Bool)(bl w way:Tr):Tr:=sb (look [([98,97,114,101],fU m bl w),([102,117,108,108],jk m w),([103],way)]) (bV (cT m) cF)
def jR(row:Tr):Tr:=sb (look [([101],row)]) (bV dX qL)
def cZ:Nat->List Tr->Tr
 | 0,_=>tK
 | n+1,es=>if es.length=1 then es.headD tK else hold [cZ n 0x11,cZ n 0x14]
def bQ:Nat->Nat->Nat->List Nat
 | 0,_,_=>[]
 | n+1,k,left=>if left<=1 then [] else if k<left / 2 then 0::bQ n k (left / 2) else 1::bQ n (k - left / 2) (left - left / 2)
def jM(ts:List Nat):Tr:=hold (ts.map λt=>bM t 2)
def cg(k many:Nat):Nat:=many - 1+Ft (many - 1 - k)
def ql(ts:List Nat):Nat:=(ts.map λt=>6+cg t 2).sum
theorem T_:∀(n:Nat) (es:List Tr),(∀e∈es,val e=true)->val (cZ n es)=true
 | 0,_,_=>rfl
 | n+1,es,h=>by
  rw[cZ]
  split
  ·rename_i h1;obtain⟨e,rfl⟩:=my.mp h1;exact h e 0x1
  ·refine Ea λt ht=>?_;simp only[gj,kh,afI]at ht;rcases ht with rfl | rfl
   ·exact T_ n _ λe he=>h e (mY he)
   ·exact T_ n _ λe he=>h e (mZ he)
def Hd:∀(n:Nat) (es:List Tr) (k:Nat) (e:Tr),(∀e∈es,val e=true)->es.length<=2 ^ n->es[k]? = some e->dG (cZ (n+1) es) ((bQ (n+1) k es.length).map λt=>bM t 2) (ql (bQ (n+1) k es.length)) e:=by
 intro n
 induction n with
 | zero =>
  intro es k e h hl hk;have h0:=(gf.mp hk).1;have h1:es.length=1:=by simp at hl;omega
  obtain⟨x,rfl⟩:=my.mp h1;have:k=0:=by simp at h0;exact h0
  subst this;simp at hk;subst hk;exact .nil (h x 0x1)
 | succ n ih =>
  intro es k e h hl hk;have h0:=(gf.mp hk).1;by_cases h1:es.length=1
  ·obtain⟨x,rfl⟩:=my.mp h1;have:k=0:=by simp at h0;exact h0
   subst this;simp at hk;subst hk;exact .nil (h x 0x1)
  ·have hp:2 ^ (n+1)=2 ^ n+2 ^ n:=by rw[n_];omega
   have e1:cZ (n+1+1) es=hold [cZ (n+1) 0x11,cZ (n+1) 0x14]:=by rw[cZ,afo h1]
   have l1:0x11.length=es.length / 2:=by rw[km];omega
   have l2:0x14.length=es.length - es.length / 2:=by rw[mL]
   have v1:=T_ (n+1) _ λe he=>h e (mY (i:=es.length / 2) he);have v2:=T_ (n+1) _ λe he=>h e (mZ (i:=es.length / 2) he);have one:∀(t:Nat) (T:Tr),[cZ (n+1) 0x11,cZ (n+1) 0x14][t]? = some T->dG (cZ (n+1+1) es) [bM t 2] (6+cg t 2) T:=λt T hT=>by
    rw[e1];have ht:=(gf.mp hT).1;have a:=zlv (ts:=[cZ (n+1) 0x11,cZ (n+1) 0x14]) (λx hx=>by
     simp only[gj,kh,afI]at hx;rcases hx with rfl | rfl
     ·exact v1
     ·exact v2) hT
    obtain⟨q1,q2⟩:=zpx (HD t 2) a;have:=dG.snoc [] (bM t 2) _ T 0 _ (.nil q1) (HD t 2) q2;simp only[kI,g8,mU]at this ht;have ec:0+(t+Ft (0+1+1 - 1 - t)+(0+1+1 - 1 - t)+2+2*(0+1+1))=6+cg t 2:=by unfold cg;simp only[show 0+1+1 - 1 - t=2 - 1 - t by omega];omega
    rw[ec]at this;exact this
   have hh:¬ es.length<=1:=by omega
   by_cases Lg:k<es.length / 2
   ·have et:bQ (n+1+1) k es.length=0::bQ (n+1) k (es.length / 2):=by rw[bQ,afo hh,afn Lg]
    have r:=ih 0x11 k e (λe he=>h e (mY he)) 0x0 (by rw[pK,afn Lg];exact hk);rw[l1]at r;have:=(one 0 _ rfl).trans r;rw[et];exact this
   ·have et:bQ (n+1+1) k es.length=1::bQ (n+1) (k - es.length / 2) (es.length - es.length / 2):=by rw[bQ,afo hh,afo Lg]
    have r:=ih 0x14 (k - es.length / 2) e (λe he=>h e (mZ he)) 0x0 (by rw[List.getElem?_drop,show es.length / 2+(k - es.length / 2)=k by omega];exact hk);rw[l2]at r;have:=(one 1 _ rfl).trans r;rw[et];exact this
def zn8{row:Tr}(h:val row=true):val (jR row)=true:=by
 unfold jR;exact yQ (HB (by simp[lA,h])) (z7 _ _)
def Y8{row T:Tr}(h:val row=true)(hT:val T=true):Ev (.jn (jR row) T) ((dH dX qL).headD 0) (hold [row,T]):=by
 have s:Sub (look [([101],row)]):=HB (by simp[lA,h]);have:=yc s (x:=[102]) (y:=[118]) (by simp[lA]) hT dX [];have e:sb (lB (look [([101],row)]) [102] T) (bV dX [[118]])=hold [row,T]:=by rfl
 rw[e]at this;exact this
def VH{n k:Nat}{rows:List Tr}{row:Tr}(hv:∀r∈rows,val r=true)(hl:rows.length<=2 ^ n)(hk:rows[k]? = some row) :
  Ev (.jn (.jn (jM (bQ (n+1) k rows.length)) (cZ (n+1) (rows.map jR))) (cZ (n+1) (rows.map jR)))
   (2+2*(bQ (n+1) k rows.length).length+ql (bQ (n+1) k rows.length)+(dH dX qL).headD 0) (hold [row,cZ (n+1) (rows.map jR)]):=by
 have he:∀e∈rows.map jR,val e=true:=λe h=>by
  obtain⟨r,hr,rfl⟩:=gh.mp h;exact zn8 (hv r hr)
 have vT:=T_ (n+1) _ he;have vr:val row=true:=hv row (gU hk);have a:=Hd n (rows.map jR) k (jR row) he (by simpa using hl) (by rw[gK,hk];rfl);rw[gm]at a;obtain⟨q1,q2⟩:=zpx vT a;rw[gm]at q2;have:=q2.comp (Ev.v vT) (Y8 vr vT);exact this.to 0x0
end Tr
end M
namespace M
namespace Tr
def Fb{ρ:List Nat->Option Tr}(hρ:Sub ρ){t L s R T u:Tr}{k:Nat}(vL:val L=true)(vs:val s=true)(vR:val R=true)(vT:val T=true)(h:jG (sb (vh ρ eG [L,s,R,T]) t) k u) :
  jG (.jn (hold [sb ρ (bV t eG),T]) (hold [L,s,R])) (6+8+(dH t eG).sum+k) u:=by
 have s1:=hρ.upd (x:=[108]) (by simp[lA]) vL;have s2:=s1.upd (x:=[115]) (by simp[lA]) vs;have s3:=s2.upd (x:=[114]) (by simp[lA]) vR;have e1:=yc hρ (x:=[108]) (y:=[115]) (by simp[lA]) vL t [[114],[102]];have e2:=yc s1 (x:=[115]) (y:=[114]) (by simp[lA]) vs t [[102]];have e3:=yc s2 (x:=[114]) (y:=[102]) (by simp[lA]) vR t [];have e4:=Ie s3 (x:=[102]) (by simp[lA]) vT t h;have VL:val (sb ρ (bV t eG))=true:=yQ hρ (z7 _ _);have vP:val (hold [L,s,R])=true:=Ea (by simp[vL,vs,vR]);have a2:dG (sb ρ (bV t eG)) [L,s] _ _:=dG.snoc [L] s _ _ _ _ (dG.snoc [] L _ _ 0 _ (.nil VL) vL e1) vs e2;have h1:=zub VL a2 vR;have ev:Ev (.jn (hold [L,s,R]) (sb ρ (bV t eG))) _ _:=⟨(Vm h1).trans e3.1,e3.2⟩;have a1:dG (hold [L,s,R]) [sb ρ (bV t eG)] _ _:=dG.snoc [] (sb ρ (bV t eG)) _ _ 0 _ (.nil vP) VL ev;have h2:=zub vP a1 vT;refine (jG.then h2 e4).to ?_;have es:(dH t eG).sum=(out [108] (bV t [[115],[114],[102]])).2+((out [115] (bV t [[114],[102]])).2+((out [114] (bV t [[102]])).2+((out [102] t).2+0))):=rfl;rw[es];simp only[g8,mU];omega
def zu2{deeds rest:List Tr}{d u:Tr}{i k:Nat}(hv:∀x∈deeds,val x=true)(hd:deeds[i]? = some d)(h:jG (apps d rest) k u):jG (apps (bM i deeds.length) (deeds++rest)) (cg i deeds.length+k) u:=by
 have a:=(zlv hv hd).apps;rw[Ni];have hl:=(gf.mp hd).1;exact (jG.then (zsp a.1 rest) h).to (by unfold cg;omega)
def zL:Nat:=(dH fJ cF).sum
def iU(m:Bool):Nat:=(dH (cT m) cF).sum+1
def qw(m:Bool):Nat:=(dH (bG m) jd).sum
def oH(m:Bool):Nat:=6+(dH (bG m) qx).sum
def Gx{w num T L R:Tr}(vw:val w=true)(vn:val num=true)(vT:val T=true)(vL:val L=true)(vR:val R=true):jG (apps (ju w) [num,T,L,R]) zL (hold [num,L,w,R]):=by
 have s:Sub (look [([119],w)]):=HB (by simp[lA,vw]);have e:sb (vh (look [([119],w)]) cF [num,T,L,R]) fJ=hold [num,L,w,R]:=rfl;have:=hands fJ cF [num,T,L,R] _ s (by simp[lA]) (by simp[vn,vT,vL,vR]) rfl 0x1 (k:=0) (u:=hold [num,L,w,R]) (by rw[e];exact (Ev.v (Ea (by simp[vn,vL,vw,vR]))).r);exact this.to (by unfold zL;omega)
def wR(m:Bool)(t a w x:Tr):Tr:=if m then hold [t,a,.jn tK (hold [w,x])] else hold [.jn tK (hold [w,x]),a,t]
def zs5{m:Bool}{t a w x:Tr}(vt:val t=true)(va:val a=true)(vw:val w=true)(vx:val x=true):val (wR m t a w x)=true:=by
 have g:val (.jn tK (hold [w,x]))=true:=by rw[fj];exact Ea (by simp[vw,vx])
 unfold wR
 split
 ·exact Ea (by simp[vt,va,g])
 ·exact Ea (by simp[vt,va,g])
def Dt(bl w:Tr):List Nat->Option Tr:=su (look [([97],bl),([116],tK)]) (look [([119],w)])
def ztr{m:Bool}{bl w:Tr}(vw:val w=true)(Hj:sk bl):fU m bl w=sb (Dt bl w) (bV (bG m) jd):=by
 unfold fU Dt;refine Ij (HB (by simp[lA,vw])) (λs v e=>?_) _;have:=zir e;simp only[gj,kh,afI,Prod.mk.injEq]at this;rcases this with⟨_,rfl⟩ | ⟨_,rfl⟩
 ·exact Hj
 ·exact .inr rfl
def zta{bl w:Tr}(vb:val bl=true)(vw:val w=true):Sub (Dt bl w) :=
 (HB (σ:=[([97],bl),([116],tK)]) (by simp[lA,vb];rfl)).su (HB (σ:=[([119],w)]) (by simp[lA,vw]))
def zk6{m:Bool}{bl w:Tr}(vb:val bl=true)(vw:val w=true)(s:sk bl):val (fU m bl w)=true:=by
 rw[ztr vw s];exact yQ (zta vb vw) (z7 _ _)
def zkt{m:Bool}{w:Tr}(vw:val w=true):val (jk m w)=true:=yQ (HB (by simp[lA,vw])) (z7 _ _)
section
variable  {m:Bool}{bl w way num T S O st:Tr}{cw:Nat}
def zui(vb:val bl=true)(vw:val w=true)(Hj:sk bl)(vg:val way=true):Sub (look [([98,97,114,101],fU m bl w),([102,117,108,108],jk m w),([103],way)]) :=
 HB (by simp[lA,zk6 vb vw Hj,zkt vw,vg])
def BX(X:Tr){k:Nat}{u:Tr}(vb:val bl=true)(vw:val w=true)(Hj:sk bl)(vg:val way=true)(vn:val num=true)(vT:val T=true)(vS:val S=true)(vO:val O=true)
  (h:jG (.jn (.jn (.jn (.jn S (fU m bl w)) (jk m w)) (.jn (.jn way T) T)) O) k u) :
  jG (apps (rH m bl w way) [num,T,if m then S else O,if m then O else S]) (k+(dH (cT m) cF).sum) u:=by
 refine hands (cT m) cF [num,T,if m then S else O,if m then O else S] _ (zui vb vw Hj vg) (by simp[lA]) (by cases m<;>simp[vn,vT,vS,vO]) rfl 0x1 ?_;have e:sb (vh (look [([98,97,114,101],fU m bl w),([102,117,108,108],jk m w),([103],way)]) cF [num,T,if m then S else O,if m then O else S]) (cT m)=.jn (.jn (.jn (.jn S (fU m bl w)) (jk m w)) (.jn (.jn way T) T)) O:=by
  cases m<;>rfl
 rw[e];exact h
def ztz(vb:val bl=true)(vw:val w=true)(Hj:sk bl)(vg:val way=true)(vn:val num=true)(vT:val T=true)(vO:val O=true)(hw:Ev (.jn (.jn way T) T) cw st) :
  jG (apps (rH m bl w way) [num,T,if m then tK else O,if m then O else tK]) (iU m+qw m+cw) (.jn st (wR m tK bl w O)):=by
 have vB:=zk6 (m:=m) vb vw Hj;have vF:=zkt (m:=m) vw;have A:Ev (.jn (.jn tK (fU m bl w)) (jk m w)) 1 (fU m bl w):=((Ev.v (v:=.jn tK (fU m bl w)) (by rw[fj];exact vB)).K (Ev.v vF)).to 0x0;have s0:=zta vb vw;have s1:=s0.upd (x:=[121]) (by simp[lA]) hw.2;have e1:=yc s0 (x:=[121]) (y:=[120]) (by simp[lA]) hw.2 (bG m) [];rw[show bV (bG m) [[121],[120]]=bV (bG m) jd from rfl,<-ztr (m:=m) vw Hj]at e1;have et:sb (lB (lB (Dt bl w) [121] st) [120] O) (bG m)=.jn st (wR m tK bl w O):=by cases m<;>rfl
 have r:Rdy (.jn st (wR m tK bl w O)):=⟨hw.2,zs5 rfl vb vw vO⟩;have e2:=Ie s1 (x:=[120]) (by simp[lA]) vO (bG m) (k:=0) (u:=.jn st (wR m tK bl w O)) (by rw[et];exact⟨rfl,r⟩);have X:=A.comp hw e1;have:=BX (m:=m) (O:=O) (num:=num) tK vb vw Hj vg vn vT rfl vO (jG.comp X (Ev.v vO) e2);refine this.to ?_;have es:qw m=(out [121] (bV (bG m) [[120]])).2+((out [120] (bG m)).2+0):=rfl;rw[es];unfold iU;omega
def zsd{a t:Tr}(vb:val bl=true)(vw:val w=true)(Hj:sk bl)(vg:val way=true)(vn:val num=true)(vT:val T=true)(vO:val O=true)(va:val a=true)(vt:val t=true)(hw:Ev (.jn (.jn way T) T) cw st) :
  jG (apps (rH m bl w way) [num,T,if m then .jn tK (hold [a,t]) else O,if m then O else .jn tK (hold [a,t])]) (iU m+oH m+cw) (.jn st (wR m t a w O)):=by
 have vB:=zk6 (m:=m) vb vw Hj;have vF:=zkt (m:=m) vw;have vH:val (hold [a,t])=true:=Ea (by simp[va,vt]);have vS:val (.jn tK (hold [a,t]))=true:=by rw[fj];exact vH
 have A1:Ev (.jn (.jn tK (hold [a,t])) (fU m bl w)) 1 (hold [a,t]):=((Ev.v vS).K (Ev.v vB)).to 0x0;have s0:Sub (look [([119],w)]):=HB (by simp[lA,vw]);have s1:=s0.upd (x:=[97]) (by simp[lA]) va;have s2:=s1.upd (x:=[116]) (by simp[lA]) vt;have s3:=s2.upd (x:=[121]) (by simp[lA]) hw.2;have e1:=yc s0 (x:=[97]) (y:=[116]) (by simp[lA]) va (bG m) [[121],[120]];have e2:=yc s1 (x:=[116]) (y:=[121]) (by simp[lA]) vt (bG m) [[120]];have e3:=yc s2 (x:=[121]) (y:=[120]) (by simp[lA]) hw.2 (bG m) [];have et:sb (lB (lB (lB (lB (look [([119],w)]) [97] a) [116] t) [121] st) [120] O) (bG m)=.jn st (wR m t a w O):=by cases m<;>rfl
 have r:Rdy (.jn st (wR m t a w O)):=⟨hw.2,zs5 vt va vw vO⟩;have e4:=Ie s3 (x:=[120]) (by simp[lA]) vO (bG m) (k:=0) (u:=.jn st (wR m t a w O)) (by rw[et];exact⟨rfl,r⟩);have a2:dG (jk m w) [a,t] _ _:=dG.snoc [a] t _ _ _ _ (dG.snoc [] a _ _ 0 _ (.nil vF) va e1) vt e2;obtain⟨_,q⟩:=zpx vF a2;have A:=A1.comp (Ev.v vF) q;have X:=A.comp hw e3;have:=BX (m:=m) (O:=O) (num:=num) (.jn tK (hold [a,t])) vb vw Hj vg vn vT vS vO (jG.comp X (Ev.v vO) e4);refine this.to ?_;have es:oH m=6+((out [97] (bV (bG m) [[116],[121],[120]])).2+((out [116] (bV (bG m) [[121],[120]])).2+((out [121] (bV (bG m) [[120]])).2+((out [120] (bG m)).2+0)))):=rfl;rw[es];unfold iU;simp only[g8,mU];omega
end
def Wc{ls:List Nat}(hn:ls.Nodup)(h0:0∉ls)(num:Tr)(fM:Nat->Tr)(L s R T:Tr) :
  sb (vh (look 0x20) eG [L,s,R,T]) (cI ls)=apps s (ls.map fM++[num,T,L,R]):=by
 have hd:∀c,∀x,dn c=[x]->x=100:=λc x e=>by
  unfold dn at e
  split at e<;>simp at e
  exact e.symm
 have aey:∀a b,dn a=dn b->a∈ls->b∈ls->a=b:=λa b e _ _=>by
  unfold dn at e
  split at e<;>split at e<;>simp_all
 have lk:∀(l:List Nat) (c:Nat),c∈l->(∀x∈l,x∈ls)->look (l.map λc=>(dn c,fM c)) (dn c)=some (fM c):=by
  intro l
  induction l with
  | nil=>intro c hc;cases hc
  | cons x l ih =>
   intro c hc hs;rw[gq,OJ];by_cases e:dn x=dn c
   ·rw[afn e,aey x c e (hs x 0x1) (hs c hc)]
   ·rw[afo e];refine ih c ?_ λy hy=>hs y (by simp[hy]);rcases gj.mp hc with rfl | h
    ·exact absurd rfl e
    ·exact h
 generalize hρ:look 0x20=ρ;have hu:∀q,vh ρ eG [L,s,R,T] q=if q=[102] then some T else if q=[114] then some R else if q=[115] then some s else if q=[108] then some L else ρ q:=λq=>rfl;have ne:∀c x,x≠100->dn c≠[x]:=λc x hx e=>hx (hd c x e);have sdn:∀c∈ls,sb (vh ρ eG [L,s,R,T]) (.lf (dn c))=fM c:=λc hc=>by
  rw[sb,hu,afo (ne c _ 0x5),afo (ne c _ 0x5),afo (ne c _ 0x5),afo (ne c _ 0x5),<-hρ,OJ,afo (λe=>ne c 110 0x5 e.symm),lk ls c hc λx hx=>hx];rfl
 have sn:sb (vh ρ eG [L,s,R,T]) (.lf [110])=num:=by rw[sb,hu,<-hρ];rfl
 unfold cI;rw[Pu,mC,gJ];have e1:ls.map (sb (vh ρ eG [L,s,R,T])∘λc=>.lf (dn c))=ls.map fM:=kE λc hc=>sdn c hc;rw[e1];have e2:(cF.map Tr.lf).map (sb (vh ρ eG [L,s,R,T]))=[num,T,L,R]:=by
  show [sb _ (.lf [110]),sb _ (.lf [102]),sb _ (.lf [108]),sb _ (.lf [114])]=_;rw[sn];rfl
 rw[e2];rfl
end Tr
end M
set_option maxHeartbeats 0
namespace M
namespace Tr
structure Ru where
 s:Nat
 x:Nat
 w:Nat
 m:Bool
 g:Nat
structure Bk where
 ls:List Nat
 ss:List Nat
 rs:List Ru
def Dg(B:Bk)(s x:Nat):Option Ru:=B.rs.find? λr=>decide (r.s=s) && decide (r.x=x)
def bW(l:List Nat)(c:Nat):Nat:=l.findIdx λz=>decide (z=c)
def dD(B:Bk)(c:Nat):Tr:=bM (bW B.ls c) B.ls.length
def wQ(B:Bk)(s:Nat):Tr:=bM (bW B.ss s) B.ss.length
def jg(B:Bk)(s:Nat):List Nat:=bQ 13 (bW B.ss s) B.ss.length
def cu(B:Bk)(s c:Nat):Tr:=match Dg B s c with
 | none=>ju (dD B c)
 | some r=>rH r.m (dD B 95) (dD B r.w) (jM (jg B r.g))
def iH(B:Bk)(s:Nat):Tr:=PX B.ls (wQ B s) (cu B s)
def lC(B:Bk):Tr:=cZ 13 ((B.ss.map (iH B)).map jR)
def lD(B:Bk)(s:Nat):Tr:=hold [iH B s,lC B]
def uf:List Tr->Tr
 | []=>tK
 | t::ts=>.jn tK (hold [t,uf ts])
def iG(B:Bk)(cs:List Nat):Tr:=uf (cs.map (dD B))
structure Sd where
 s:Nat
 a:List Nat
 c:Nat
 b:List Nat
def iJ(B:Bk)(z:Sd):Tr:=.jn (lD B z.s) (hold [iG B z.a,dD B z.c,iG B z.b])
def Bj(B:Bk)(z:Sd):Tr:=hold [wQ B z.s,iG B z.a,dD B z.c,iG B z.b]
def xn(r:Ru)(z:Sd):Sd:=if r.m=true then ⟨r.g,z.a.tail,z.a.headD 95,r.w::z.b⟩ else ⟨r.g,r.w::z.a,z.b.headD 95,z.b.tail⟩
def sU(B:Bk)(z:Sd):Option Sd:=(Dg B z.s z.c).map λr=>xn r z
def yZ(B:Bk)(s:Nat):Nat:=2+2*(jg B s).length+ql (jg B s)+(dH dX qL).headD 0
def rF(ls:List Nat):Nat:=6+8+(dH (cI ls) eG).sum
def dY(B:Bk)(z:Sd):Nat:=rF B.ls+cg (bW B.ls z.c) B.ls.length+(match Dg B z.s z.c with
 | none=>zL
 | some r=>iU r.m+0x2c+yZ B r.g)
structure Nq(B:Bk):Prop where
 nl:B.ls.Nodup
 ns:B.ss.Nodup
 bl:95∈B.ls
 z:0∉B.ls
 many:B.ss.length<=4096
 ru:∀r∈B.rs,r.g∈B.ss/\r.w∈B.ls
def Ec{l:List Nat}{c:Nat}(h:c∈l):l[bW l c]? = some c:=by
 have hl:bW l c<l.length:=List.findIdx_lt_length_of_exists ⟨c,h,by simp⟩;have:=List.findIdx_getElem (p:=λz=>decide (z=c)) (xs:=l) (w:=hl);rw[gB hl];exact congrArg some (afx this)
theorem Ib:∀m,sk (uc m)
 | 0=>⟨⟨.inl rfl,.inr rfl⟩,.inr rfl⟩
 | 1=>.inr rfl
 | m+2=>⟨⟨.inl rfl,.inr rfl,.inr rfl⟩,Ib (m+1)⟩
theorem BV{v:Tr}(h:sk v):∀n,sk (cN n v)
 | 0=>h
 | n+1=>⟨.inr rfl,BV h n⟩
def zow(k m:Nat):sk (bM k m):=BV (Ib _) _
theorem Bv:∀{ts:List Tr},(∀t∈ts,val t=true)->val (uf ts)=true
 | [],_=>rfl
 | t::ts,h=>by
  have ih:=Bv (ts:=ts) λx hx=>h x (by simp[hx]);rw[uf,fj];exact Ea (by simp[h t 0x1,ih])
section
variable  {B:Bk}
def yW(c:Nat):val (dD B c)=true:=HD _ _
def Bt(cs:List Nat):val (iG B cs)=true:=Bv λt ht=>by
 obtain⟨c,_,rfl⟩:=gh.mp ht;exact yW c
def zny(ts:List Nat):val (jM ts)=true:=Ea λt ht=>by
 obtain⟨c,_,rfl⟩:=gh.mp ht;exact HD _ _
def zp1(s c:Nat):val (cu B s c)=true:=by
 unfold cu
 split
 ·exact yQ (HB (by simp[lA,yW])) (z7 _ _)
 ·exact yQ (zui (yW _) (yW _) (zow _ _) (zny _)) (z7 _ _)
def Cd(s:Nat):Sub (look (([110],wQ B s)::B.ls.map λc=>(dn c,cu B s c))):=by
 refine HB λp hp=>?_;rcases gj.mp hp with rfl | hp
 ·exact⟨by simp[lA],HD _ _⟩
 ·obtain⟨c,_,rfl⟩:=gh.mp hp;refine⟨?_,zp1 _ _⟩;show lA (dn c);unfold dn
  split<;>simp[lA]
def zn6(s:Nat):val (iH B s)=true:=yQ (Cd s) (z7 _ _)
def zjc:val (lC B)=true:=T_ 13 _ λe he=>by
 obtain⟨r,hr,rfl⟩:=gh.mp he;obtain⟨s,_,rfl⟩:=gh.mp hr;exact zn8 (zn6 s)
def O6(h:Nq B){g:Nat}(hg:g∈B.ss):Ev (.jn (.jn (jM (jg B g)) (lC B)) (lC B)) (yZ B g) (lD B g):=by
 have:=VH (n:=12) (k:=bW B.ss g) (rows:=B.ss.map (iH B)) (row:=iH B g) (λr hr=>by
  obtain⟨s,_,rfl⟩:=gh.mp hr;exact zn6 s) (by rw[gm];exact h.many) (by rw[gK,Ec hg];rfl)
 rw[gm]at this;exact this
theorem zul(h:Nq B)(z:Sd)(hc:z.c∈B.ls):match sU B z with
  | some z'=>jG (iJ B z) (dY B z) (iJ B z')
  | none=>Ev (iJ B z) (dY B z) (Bj B z):=by
 have key:∀{k:Nat} {u:Tr},jG (apps (cu B z.s z.c) [wQ B z.s,lC B,iG B z.a,iG B z.b]) k u->jG (iJ B z) (rF B.ls+cg (bW B.ls z.c) B.ls.length+k) u:=λ{k u} e=>by
  have hd:((B.ls.map (cu B z.s))[bW B.ls z.c]?)=some (cu B z.s z.c):=by rw[gK,Ec hc];rfl
  have d:=zu2 (deeds:=B.ls.map (cu B z.s)) (λx hx=>by
   obtain⟨c,_,rfl⟩:=gh.mp hx;exact zp1 _ _) hd e
  rw[gm]at d;have r:=Fb (Cd (B:=B) z.s) (t:=cI B.ls) (L:=iG B z.a) (s:=dD B z.c) (R:=iG B z.b) (T:=lC B) (Bt _) (yW _) (Bt _) zjc (k:=cg (bW B.ls z.c) B.ls.length+k) (u:=u) (by
   rw[Wc h.nl h.z];exact d)
  exact r.to (by unfold rF;omega)
 unfold sU;cases hf:Dg B z.s z.c with
 | none =>
  have e:=Gx (w:=dD B z.c) (num:=wQ B z.s) (T:=lC B) (L:=iG B z.a) (R:=iG B z.b) (yW _) (HD _ _) zjc (Bt _) (Bt _);have hd:cu B z.s z.c=ju (dD B z.c):=by unfold cu;rw[hf]
  rw[<-hd]at e;have:=key e;have vX:dY B z=rF B.ls+cg (bW B.ls z.c) B.ls.length+zL:=by unfold dY;rw[hf]
  rw[vX];exact⟨this.1,Ea (by simp[wQ,HD,Bt,yW])⟩
 | some r =>
  have hr:=h.ru r (nM hf);have hd:cu B z.s z.c=rH r.m (dD B 95) (dD B r.w) (jM (jg B r.g)):=by unfold cu;rw[hf]
  have vX:dY B z=rF B.ls+cg (bW B.ls z.c) B.ls.length+(iU r.m+0x2c+yZ B r.g):=by unfold dY;rw[hf]
  show jG (iJ B z) (dY B z) (iJ B (xn r z));rw[vX];refine key ?_;rw[hd];have hw:=O6 h hr.1;have bb:=λ(O:List Nat)=>ztz (m:=r.m) (bl:=dD B 95) (w:=dD B r.w) (way:=jM (jg B r.g)) (num:=wQ B z.s) (T:=lC B) (O:=iG B O) (yW _) (yW _) (zow _ _) (zny _) (HD _ _) zjc (Bt _) hw;have ff:=λ(a:Nat) (t O:List Nat)=>zsd (m:=r.m) (bl:=dD B 95) (w:=dD B r.w) (way:=jM (jg B r.g)) (num:=wQ B z.s) (T:=lC B) (O:=iG B O) (a:=dD B a) (t:=iG B t) (yW _) (yW _) (zow _ _) (zny _) (HD _ _) zjc (Bt _) (yW _) (Bt _) hw;obtain⟨s0,a0,c0,b0⟩:=z;cases hm:r.m with
  | true =>
   rw[hm]at bb ff;cases a0 with
   | nil =>
    have:=bb b0;unfold xn;rw[afn hm];exact this
   | cons a t =>
    have:=ff a t b0;unfold xn;rw[afn hm];exact this
  | false =>
   rw[hm]at bb ff;have Oh:¬ r.m=true:=by rw[hm];decide
   cases b0 with
   | nil =>
    have:=bb a0;unfold xn;rw[afo Oh];exact this
   | cons a t =>
    have:=ff a t a0;unfold xn;rw[afo Oh];exact this
def Yv(z:Sd):val (iJ B z)=false:=by
 show val (.jn (.jn (.jn tS _) _) _)=false;exact Zz _ _ _
end
end Tr
end M
namespace M
namespace Tr
def vD(ns:List (List Nat)):Tr:=apps (.lf [115]) (ns.map .lf++cF.map .lf)
def PQ(ls:List Nat):cI ls=vD (ls.map dn):=by unfold cI vD;rw[gJ];rfl
def Zb(c:Nat):∃t,dn c=100::t:=by unfold dn;split<;>exact⟨_,rfl⟩
def adb:∀(ns:List (List Nat)),(∀n∈ns,∃t,n=100::t)->ns.length<=9->(dH (vD ns) eG).sum=46+6*ns.length/\dp (bV (vD ns) eG)=19+3*ns.length/\lv (bV (vD ns) eG)=48+7*ns.length:=by
 intro ns h hl;have un:∀(k:Nat) (l:List (List Nat)),(∀n∈l,∃t,n=100::t)->l.length=k->∃ts:List (List Nat),ts.length=k/\l=ts.map (100 :: ·):=by
  intro k
  induction k with
  | zero=>intro l _ e;exact⟨[],rfl,nR.mp e⟩
  | succ k ih =>
   intro l h e;cases l with
   | nil=>cases e
   | cons a l =>
    obtain⟨t,rfl⟩:=h a 0x1;obtain⟨ts,h1,h2⟩:=ih l (λn hn=>h n (by simp[hn])) (by simpa using e);exact⟨t::ts,by simp[h1],by simp[h2]⟩
 obtain⟨ts,h1,h2⟩:=un ns.length ns h rfl;rw[h2,gm];rw[<-h1]at hl;clear h h1 h2 un
 match ts,hl with
 | [],_=>exact⟨by kernel_rfl,by kernel_rfl,by kernel_rfl⟩
 | [_],_=>exact⟨by kernel_rfl,by kernel_rfl,by kernel_rfl⟩
 | [_,_],_=>exact⟨by kernel_rfl,by kernel_rfl,by kernel_rfl⟩
 | [_,_,_],_=>exact⟨by kernel_rfl,by kernel_rfl,by kernel_rfl⟩
 | [_,_,_,_],_=>exact⟨by kernel_rfl,by kernel_rfl,by kernel_rfl⟩
 | [_,_,_,_,_],_=>exact⟨by kernel_rfl,by kernel_rfl,by kernel_rfl⟩
 | [_,_,_,_,_,_],_=>exact⟨by kernel_rfl,by kernel_rfl,by kernel_rfl⟩
 | [_,_,_,_,_,_,_],_=>exact⟨by kernel_rfl,by kernel_rfl,by kernel_rfl⟩
 | [_,_,_,_,_,_,_,_],_=>exact⟨by kernel_rfl,by kernel_rfl,by kernel_rfl⟩
 | [_,_,_,_,_,_,_,_,_],_=>exact⟨by kernel_rfl,by kernel_rfl,by kernel_rfl⟩
 | _::_::_::_::_::_::_::_::_::_::_,h=>simp at h
def Wd(ls:List Nat)(h:ls.length<=9):(dH (cI ls) eG).sum=46+6*ls.length/\dp (bV (cI ls) eG)=19+3*ls.length/\lv (bV (cI ls) eG)=48+7*ls.length:=by
 have:=adb (ls.map dn) (λn hn=>by
  obtain⟨c,_,rfl⟩:=gh.mp hn;exact Zb c) (by simpa using h)
 rw[<-PQ,gm]at this;exact this
theorem ZK:∀(n k left:Nat),(bQ n k left).length<=n/\∀t∈bQ n k left,t<=1
 | 0,_,_=>⟨gb _,by simp[bQ]⟩
 | n+1,k,left=>by
  rw[bQ]
  split
  ·simp
  ·split
   ·obtain⟨h1,h2⟩:=ZK n k (left / 2);exact⟨by simp;exact h1,λt ht=>(gj.mp ht).elim (λe=>by omega) (h2 t)⟩
   ·obtain⟨h1,h2⟩:=ZK n (k - left / 2) (left - left / 2);exact⟨by simp;exact h1,λt ht=>(gj.mp ht).elim (λe=>by omega) (h2 t)⟩
theorem ztu:∀(ts:List Nat),(∀t∈ts,t<=1)->ql ts<=9*ts.length
 | [],_=>by simp[ql]
 | t::ts,h=>by
  have ih:=ztu ts λx hx=>h x (by simp[hx]);have e:ql (t::ts)=6+cg t 2+ql ts:=by simp[ql]
  have h1:=h t 0x1;have h2:cg t 2<=3:=by
   rcases (by omega:t=0\/t=1) with rfl | rfl<;>decide
  rw[e,g8];omega
def Jq(k m:Nat):cg k m<=3*m+2:=by
 unfold cg;have:=Jm (m - 1 - k);omega
def Hy{l:List Nat}{c:Nat}(h:c∈l):bW l c<l.length:=List.findIdx_lt_length_of_exists ⟨c,h,by simp⟩
def Mw(B:Bk)(z:Sd)(hl:B.ls.length<=9):1<=dY B z/\dY B z<=600:=by
 have h1:=(Wd B.ls hl).1;have h2:=Jq (bW B.ls z.c) B.ls.length;have e1:zL=45:=by kernel_rfl
 cases hf:Dg B z.s z.c with
 | none =>
  have vX:dY B z=rF B.ls+cg (bW B.ls z.c) B.ls.length+zL:=by unfold dY;rw[hf]
  rw[vX];unfold rF;omega
 | some r =>
  have vX:dY B z=rF B.ls+cg (bW B.ls z.c) B.ls.length+(iU r.m+0x2c+yZ B r.g):=by unfold dY;rw[hf]
  obtain⟨t1,t2⟩:=ZK 13 (bW B.ss r.g) B.ss.length;have t3:=ztu _ t2;have hw:yZ B r.g<=2+2*13+9*13+2:=by
   unfold yZ jg;have:(dH dX qL).headD 0=2:=by kernel_rfl
   rw[this];omega
  have s1:iU r.m<=47:=by cases r.m<;>decide +kernel
  have s2:qw r.m<=22:=by cases r.m<;>decide +kernel
  have s3:oH r.m<=56:=by cases r.m<;>decide +kernel
  have hi:0x2c<=56:=by
   by_cases q:(if r.m=true then z.a else z.b)=[]
   ·rw[afn q];omega
   ·rw[afo q];omega
  rw[vX];unfold rF;omega
def zmc(ts:List Tr)(b:Nat)(h:∀t∈ts,dp t<=b):dp (hold ts)<=2*ts.length+b+2:=by
 have key:∀(ts:List Tr) (w:Tr) (c:Nat),(∀t∈ts,dp t<=b)->dp w<=c->b+2<=c->dp (ts.foldl (λw t=>.jn (.jn tS w) (.jn tK t)) w)<=2*ts.length+c:=by
  intro ts
  induction ts with
  | nil=>intro w c _ hw _;simpa using hw
  | cons t ts ih =>
   intro w c h hw hc;have ht:=h t 0x1;have e:dp (.jn (.jn tS w) (.jn tK t))<=c+2:=by
    have a0:dp tS=0:=rfl;have a1:dp tK=0:=rfl;simp only[dp,a0,a1];omega
   have:=ih (.jn (.jn tS w) (.jn tK t)) (c+2) (λx hx=>h x (by simp[hx])) e 0x0;simp only[List.foldl_cons,g8];omega
 have e:dp tI=2:=rfl;have:=key ts tI (b+2) h (by rw[e];omega) (gb _);unfold hold;omega
theorem zus:∀(n:Nat) (es:List Tr) (b:Nat),(∀e∈es,dp e<=b)->dp (cZ n es)<=6*n+b
 | 0,_,b,_=>by
  have:dp tK=0:=rfl;rw[cZ,this];omega
 | n+1,es,b,h=>by
  rw[cZ]
  split
  ·rename_i h1;obtain⟨e,rfl⟩:=my.mp h1;have:=h e 0x1;simp;omega
  ·have:=zmc [cZ n 0x11,cZ n 0x14] (6*n+b) (λt ht=>by
    simp only[gj,kh,afI]at ht;rcases ht with rfl | rfl
    ·exact zus n _ b λe he=>h e (mY he)
    ·exact zus n _ b λe he=>h e (mZ he))
   simp only[g8,mU]at this;omega
theorem Mm(b:Nat):∀(ts:List Tr),(∀t∈ts,dp t<=b)->dp (uf ts)<=3*ts.length+b+5
 | [],_=>by
  have:dp tK=0:=rfl;rw[uf,this];omega
 | t::ts,h=>by
  have ih:=Mm b ts λx hx=>h x (by simp[hx]);have ht:=h t 0x1;have a0:dp tS=0:=rfl;have a1:dp tK=0:=rfl;have a2:dp tI=2:=rfl;have e:dp (uf (t::ts))=dp (.jn tK (.jn (.jn tS (.jn (.jn tS tI) (.jn tK t))) (.jn tK (uf ts)))):=rfl;have a3:dp (.jn tS tI)=3:=rfl;rw[e,g8,show 3*(ts.length+1)+b+5=3*ts.length+b+7+1 by omega];exact R6 0x0 (R6 (n:=3*ts.length+b+6) (R6 (n:=3*ts.length+b+5) 0x0 (R6 (n:=3*ts.length+b+4) 0x0 (R6 (n:=3*ts.length+b+3) 0x0 0x0))) (R6 0x0 ih))
def Vj{σ:List (List Nat×Tr)}{b:Nat}(h:∀p∈σ,dp p.2<=b):∀s v,look σ s=some v->dp v<=b:=λs v e=>h _ (zir e)
theorem Ot{f:List Nat->Option Tr}{b:Nat}(h:∀s v,f s=some v->dp v<=b):∀t,dp (sb f t)<=dp t+b
 | .lf s=>by
  rw[sb];cases e:f s with
  | none=>exact mK _
  | some v=>have:=h s v e;show dp v<=_;omega
 | .jn l r=>by
  have:=Ot h l;have:=Ot h r;rw[sb,dp,dp];omega
section
variable  {B:Bk}
def Zv(hl:B.ls.length<=9){c:Nat}(h:c∈B.ls):dp (dD B c)<=11:=by
 have h1:=zqd (uc (B.ls.length - 1 - bW B.ls c)) (bW B.ls c);have h2:=yD (B.ls.length - 1 - bW B.ls c);have h3:=Hy h;unfold dD bM;omega
def Mp(h:Nq B)(hl:B.ls.length<=9)(s:Nat){c:Nat}(hc:c∈B.ls):dp (cu B s c)<=75:=by
 unfold cu;cases hf:Dg B s c with
 | none =>
  dsimp only;have:=Ot (f:=look [([119],dD B c)]) (b:=11) (Vj (by simp[Zv hl hc])) (bV fJ cF);have e:dp (bV fJ cF)=22:=by kernel_rfl
  unfold ju;omega
 | some r =>
  dsimp only;have hr:=h.ru r (nM hf);have w1:=Zv hl hr.2;have w2:=Zv hl h.bl;have a0:dp tK=0:=rfl;have b1:dp (fU r.m (dD B 95) (dD B r.w))<=52:=by
   have q1:=Ot (f:=look [([97],dD B 95),([116],tK)]) (b:=11) (Vj (by simp[w2,a0])) (bV (bG r.m) jd);have q2:=Ot (f:=look [([119],dD B r.w)]) (b:=11) (Vj (by simp[w1])) (sb (look [([97],dD B 95),([116],tK)]) (bV (bG r.m) jd));have e:dp (bV (bG r.m) jd)<=30:=by cases r.m<;>decide +kernel
   unfold fU;omega
  have b2:dp (jk r.m (dD B r.w))<=52:=by
   have q2:=Ot (f:=look [([119],dD B r.w)]) (b:=11) (Vj (by simp[w1])) (bV (bG r.m) qx);have e:dp (bV (bG r.m) qx)<=30:=by cases r.m<;>decide +kernel
   unfold jk;omega
  have b3:dp (jM (jg B r.g))<=32:=by
   obtain⟨t1,t2⟩:=ZK 13 (bW B.ss r.g) B.ss.length;have:=zmc ((jg B r.g).map λt=>bM t 2) 4 (λt ht=>by
    obtain⟨k,hk,rfl⟩:=gh.mp ht;have:=t2 k hk;rcases (by omega:k=0\/k=1) with rfl | rfl<;>decide)
   rw[gm]at this;unfold jM;have t1':(jg B r.g).length<=13:=t1;omega
  have q:=Ot (f:=look [([98,97,114,101],fU r.m (dD B 95) (dD B r.w)),([102,117,108,108],jk r.m (dD B r.w)),([103],jM (jg B r.g))]) (b:=52) (Vj 0x9) (bV (cT r.m) cF);have e:dp (bV (cT r.m) cF)<=18:=by cases r.m<;>decide +kernel
  unfold rH;omega
def Ml{s:Nat}(h:s∈B.ss):dp (wQ B s)<=B.ss.length+2:=by
 have h1:=zqd (uc (B.ss.length - 1 - bW B.ss s)) (bW B.ss s);have h2:=yD (B.ss.length - 1 - bW B.ss s);have h3:=Hy h;unfold wQ bM;omega
def Dh(h:Nq B)(hl:B.ls.length<=9){s:Nat}(hs:s∈B.ss):dp (iH B s)<=B.ss.length+121:=by
 have q:=Ot (f:=look (([110],wQ B s)::B.ls.map λc=>(dn c,cu B s c))) (b:=B.ss.length+75) (Vj λp hp=>by
  rcases gj.mp hp with rfl | hp
  ·have:=Ml hs;show dp (wQ B s)<=_;omega
  ·obtain⟨c,hc,rfl⟩:=gh.mp hp;have:=Mp h hl s hc;show dp (cu B s c)<=_;omega) (bV (cI B.ls) eG)
 have e:=(Wd B.ls hl).2.1;unfold iH PX;omega
def R7(h:Nq B)(hl:B.ls.length<=9):dp (lC B)<=B.ss.length+207:=by
 have:=zus 13 ((B.ss.map (iH B)).map jR) (B.ss.length+129) (λe he=>by
  obtain⟨r,hr,rfl⟩:=gh.mp he;obtain⟨s,hs,rfl⟩:=gh.mp hr;have q:=Ot (f:=look [([101],iH B s)]) (b:=B.ss.length+121) (Vj (by simp[Dh h hl hs])) (bV dX qL);have e:dp (bV dX qL)=8:=by kernel_rfl
  unfold jR;omega)
 unfold lC;omega
def Bl(h:Nq B)(hl:B.ls.length<=9){s:Nat}(hs:s∈B.ss):dp (lD B s)<=B.ss.length+213:=by
 have:=zmc [iH B s,lC B] (B.ss.length+207) (λt ht=>by
  simp only[gj,kh,afI]at ht;rcases ht with rfl | rfl
  ·have:=Dh h hl hs;omega
  ·exact R7 h hl)
 simp only[g8,mU]at this;unfold lD;omega
def yC(hl:B.ls.length<=9){cs:List Nat}(hc:∀c∈cs,c∈B.ls):dp (iG B cs)<=3*cs.length+16:=by
 have:=Mm 11 (cs.map (dD B)) (λt ht=>by
  obtain⟨c,h,rfl⟩:=gh.mp ht;exact Zv hl (hc c h))
 rw[gm]at this;unfold iG;omega
structure yM(B:Bk)(z:Sd):Prop where
 s:z.s∈B.ss
 c:z.c∈B.ls
 a:∀c∈z.a,c∈B.ls
 b:∀c∈z.b,c∈B.ls
def abX(h:Nq B)(hl:B.ls.length<=9){z:Sd}(hz:yM B z)(b:Nat)(ha:z.a.length<=b)(hb:z.b.length<=b):dp (hold [iG B z.a,dD B z.c,iG B z.b])<=3*b+24:=by
 have:=zmc [iG B z.a,dD B z.c,iG B z.b] (3*b+16) (λt ht=>by
  simp only[gj,kh,afI]at ht;rcases ht with rfl | rfl | rfl
  ·have:=yC hl hz.a;omega
  ·have:=Zv hl hz.c;omega
  ·have:=yC hl hz.b;omega)
 simp only[g8,mU]at this;omega
def R8(h:Nq B)(hl:B.ls.length<=9){z:Sd}(hz:yM B z)(b:Nat)(ha:z.a.length<=b)(hb:z.b.length<=b):dp (iJ B z)<=B.ss.length+3*b+214:=by
 have h1:=abX h hl hz b ha hb;have h2:=Bl h hl hz.s;show dp (.jn (lD B z.s) (hold [iG B z.a,dD B z.c,iG B z.b]))<=_;rw[dp];omega
def R9(h:Nq B)(hl:B.ls.length<=9){z:Sd}(hz:yM B z)(b:Nat)(ha:z.a.length<=b)(hb:z.b.length<=b):dp (Bj B z)<=B.ss.length+3*b+30:=by
 have:=zmc [wQ B z.s,iG B z.a,dD B z.c,iG B z.b] (B.ss.length+3*b+16) (λt ht=>by
  simp only[gj,kh,afI]at ht;rcases ht with rfl | rfl | rfl | rfl
  ·have:=Ml hz.s;omega
  ·have:=yC hl hz.a;omega
  ·have:=Zv hl hz.c;omega
  ·have:=yC hl hz.b;omega)
 simp only[g8,mU]at this;unfold Bj;omega
def yM.go(h:Nq B){z:Sd}(hz:yM B z){r:Ru}(hr:r∈B.rs):yM B (xn r z):=by
 have hd:∀(l:List Nat),(∀c∈l,c∈B.ls)->l.headD 95∈B.ls:=λl hl=>by
  cases l with
  | nil=>exact h.bl
  | cons a l=>exact hl a 0x1
 have hc:∀(l:List Nat),(∀c∈l,c∈B.ls)->∀c∈r.w::l,c∈B.ls:=λl hl c hx=>by
  rcases gj.mp hx with rfl | hx
  ·exact (h.ru r hr).2
  ·exact hl c hx
 unfold xn
 split
 ·exact⟨(h.ru r hr).1,hd _ hz.a,λc hx=>hz.a c (List.mem_of_mem_tail hx),hc _ hz.b⟩
 ·exact⟨(h.ru r hr).1,hd _ hz.b,hc _ hz.a,λc hx=>hz.b c (List.mem_of_mem_tail hx)⟩
end
end Tr
end M
set_option maxHeartbeats 0
namespace M
namespace Tr
theorem Ar(x:List Nat):∀t,lv (out x t).1+1<=4*lv t
 | .lf s=>by
  by_cases h:iI x (.lf s)=true
  ·rw[zop x h];show 3+1<=4*1;decide
  ·have e:stands x (.lf s)=false:=(show iI x (.lf s)=false by simpa using h);rw[Vv x (by rw[e];rfl)];show 2+1<=4*1;decide
 | .jn l r=>by
  have i1:=Ar x l;have i2:=Ar x r;by_cases h1:(val 0x3 && !stands x 0x3)=true
  ·rw[Vv x h1];have:=zk5 l;have:=zk5 r;simp only[lv];omega
  ·by_cases h2:((val l && !stands x l) && iI x r)=true
   ·simp only[gG]at h2;rw[zf1 x (by simp only[gG];exact h2.1) h2.2];have:=zk5 r;have:=zk5 l;simp only[lv];omega
   ·rw[ziq x (by simpa using h1) (by simpa using h2)];simp only[lv];omega
theorem yj(t:Tr):∀xs:List (List Nat),lv (bV t xs)<=4 ^ xs.length*lv t
 | []=>by simp[bV]
 | x::xs=>by
  have ih:=yj t xs;have:=Ar x (bV t xs);rw[bV,g8,n_,Nat.mul_assoc,Nat.mul_comm 4,<-Nat.mul_assoc];omega
end Tr
end M
namespace Law
open L2 M Tr
def aH(cs:List Nat):List D:=cs.map λ(c:Nat)=>D.int (c:Int)
def CK(xs:List (List Nat))(t:Tr)(st:ak)(ht:st[1]? = some (.tab "out_and_cost"))(hc:bI st)(hl:xs.length<=4)(hv:lv t<=100) :
  za5 [.tup (xs.map D.str),enc t] st=.ok (.tup [enc (bV t xs),.loc st.length]) 0x26:=by
 unfold za5 bF bw zdj;generalize hB:(aC (aG 5 (az VF [] _)) _:MS)=B;obtain⟨cC,st',h1,a4,a5,rfl,rfl⟩:=z8 (g:=aO 4) (b:=B) (gs:=[]) (items:=(xs.map D.str).reverse)
  (λi env s=>∃(a4 a5:Option D),env=[some (.tup (xs.map D.str)),some (enc t),some (enc (bV t (xs.drop (xs.length - i)))),some 0x2,a4,a5]/\s=st++[.lst (aH (dH t (xs.drop (xs.length - i))).reverse)])
  (env:=[some (.tup (xs.map D.str)),some (enc t),some (enc t),some 0x2,none,none]) (st:=st++[.lst []]) ⟨none,none,by simp[bV],by simp[dH,aH]⟩ (by
   rintro i d env s hi ⟨a4,a5,rfl,rfl⟩;rw[<-nW]at hi;obtain⟨x,hx,rfl⟩:=Hz hi;obtain⟨Ho,e⟩:=Ce hx;generalize hys:xs.drop (xs.length - i)=ys at *;have hyl:ys.length<=4:=by rw[<-hys,mL];omega
   have hlv:lv (bV t ys)<=400000:=by
    have h1:=yj t ys;have h2:4 ^ ys.length<=4 ^ 4:=Nat.pow_le_pow_right 0x5 hyl;have h3:4 ^ ys.length*lv t<=4 ^ 4*100:=Nat.mul_le_mul h2 hv;omega
   have uU:(aH (dH t ys).reverse).length<1000000:=by simp[aH,zqp];omega
   let S1:ak:=st++[.lst (aH (dH t ys).reverse)]
   have o1:=zdh x (bV t ys) S1 (dC ht) (by simp[S1,hc]) hlv;have x0:aV (encC (out x (bV t ys))) (.int 0) S1=.ok (enc (out x (bV t ys)).1) S1:=by rw[encC];exact Eb S1 0 _ _ rfl
   have x1:aV (encC (out x (bV t ys))) (.int 1) S1=.ok (.int ((out x (bV t ys)).2:Nat)) S1:=by rw[encC];exact Eb S1 1 _ _ rfl
   have ap:aR 0x2 [.int ((out x (bV t ys)).2:Nat)] S1=.ok .non (st++[.lst (aH (dH t (x::ys)).reverse)]):=by
    have e3:aH (dH t (x::ys)).reverse=aH (dH t ys).reverse++[.int ((out x (bV t ys)).2:Nat)]:=by simp[aH,dH]
    rw[e3];show aR 0x2 [_] (st++[.lst (aH (dH t ys).reverse)])=_;generalize aH (dH t ys).reverse=Y at uU ⊢;simp[aR,uU]
   have it:cM "list" 0x2 S1=true:=by simp[cM,S1]
   refine⟨by simp,_,_,rfl,[some (.tup (xs.map D.str)),some (enc t),some (enc (bV t (xs.drop (xs.length - (i+1))))),some 0x2,some (.str x),some (encC (out x (bV t ys)))],st++[.lst (aH (dH t (xs.drop (xs.length - (i+1)))).reverse)],.inl ?_,_,_,rfl,rfl⟩;rw[<-hB,e,show bV t (x::ys)=(out x (bV t ys)).1 from rfl];show _=R.ok _ (st++[.lst (aH (dH t (x::ys)).reverse)]);change (aC _ _:MS) [some (.tup (xs.map D.str)),some (enc t),some (enc (bV t ys)),some 0x2,some (.str x),a5] S1=_;generalize (st++[.lst (aH (dH t (x::ys)).reverse)]:ak)=S2 at *;exists S1,Z1,encC (out x (bV t ys)),W1,enc (out x (bV t ys)).1,W2;exists enc (bV t ys),W3;generalize (((out x (bV t ys)).2:Nat):Int)=c1 at *;simp[o1,x0,x1,it,ap]) (λ_ _ _=>by simp)
 rw[pJ,gm,Nat.sub_self,List.drop_zero]at h1;have rv:dW 0x2 [] (st++[.lst (aH (dH t xs).reverse)])=.ok .non 0x26:=by
  have e:(aH (dH t xs).reverse).reverse=aH (dH t xs):=by simp[aH]
  rw[<-e];generalize aH (dH t xs).reverse=Y;simp[dW]
 have it:cM "list" 0x2 (st++[.lst (aH (dH t xs).reverse)])=true:=by simp[cM]
 have l0:∀env,eQ au env st=.ok 0x2 (st++[.lst []]):=λenv=>by simp
 have fin:gc st (.ok (.tup [enc (bV t xs),.loc st.length]) 0x26)=.ok (.tup [enc (bV t xs),.loc st.length]) 0x26:=by
  unfold gc;dsimp only;rw[afo];rintro ⟨_,h⟩;simp at h
 rw[show startM 6 [D.tup (xs.map D.str),enc t]=[some (.tup (xs.map D.str)),some (enc t),none,none,none,none] from rfl];generalize hZ2:(st++[.lst (aH (dH t xs))]:ak)=Z2 at *;generalize hZ1:(st++[.lst (aH (dH t xs).reverse)]:ak)=Z1 at *;generalize hZ0:(st++[.lst []]:ak)=Z0 at *;generalize hL:eQ au=L at *;exists enc (bV t xs),W,enc t,T,xs.map D.str,X;simp[l0,h1,it,rv];exact fin
def Z7(xs:List (List Nat))(t:Tr)(st:ak)(ht:st[1]? = some (.tab "out_and_cost"))(hc:bI st)(hl:xs.length<=4)(hv:lv t<=100) :
  O2 [.tup (xs.map D.str),enc t] st=.ok (enc (bV t xs)) st:=by
 have m:=CK xs t st ht hc hl hv;have x0:∀s,aV (.tup [enc (bV t xs),.loc st.length]) (.int 0) s=.ok (enc (bV t xs)) s:=λs=>Eb s 0 _ _ rfl;have hu:=jK st.length (bV t xs);unfold O2 bF bw zkj;exists enc (bV t xs),W,enc t,T;simp[startM,m,x0];exact sZ hu
def zhl(xs:List (List Nat))(t:Tr)(st:ak)(ht:st[1]? = some (.tab "out_and_cost"))(hc:bI st)(hl:xs.length<=4)(hv:lv t<=100) :
  NZ [.tup (xs.map D.str),enc t] st=.ok 0x2 0x26:=by
 have m:=CK xs t st ht hc hl hv;have x0:∀s,aV (.tup [enc (bV t xs),.loc st.length]) (.int 1) s=.ok 0x2 s:=λs=>Eb s 1 _ _ rfl;have hu:bY st.length (aH (dH t xs)):=by
  unfold aH;generalize dH t xs=cs
  induction cs with
  | nil=>simp
  | cons c cs ih=>simp[ih]
 unfold NZ bF bw zgn;exists enc (bV t xs),W,aH (dH t xs),Y,enc t,T;simp[startM,m,x0];exact Nx hu
def zic(t:Tr)(ts:List Tr)(n:Nat)(st:ak)(h:st[n]? = some (.lst (ts.map enc))):NQ [enc t,.loc n] st=.ok (enc (apps t ts)) st:=by
 unfold NQ bF bw zmm;generalize hB:(aG 2 (az sY [] _):MS)=B;obtain⟨cC,st',h1,a3,rfl,rfl⟩:=z8 (g:=aO 3) (b:=B) (gs:=[(n,.lst (ts.map enc))]) (items:=ts.map enc)
  (λi env s=>∃(a3:Option D),env=[some (enc t),some (.loc n),some (enc (apps t (ts.take i))),a3]/\s=st)
  (env:=[some (enc t),some (.loc n),some (enc t),none]) (st:=st) ⟨none,rfl,rfl⟩ (by
   rintro i d env s hi ⟨a3,rfl,rfl⟩;obtain⟨x,hx,rfl⟩:=Hz hi;have e:=Ub t (ts.take i) x;have e2:ts.take (i+1)=ts.take i++[x]:=by rw[kJ,hx];rfl
   have j1:=xP (apps t (ts.take i)) x s;refine⟨by simp[h],_,_,rfl,[some (enc t),some (.loc n),some (enc (apps t (ts.take (i+1)))),some (enc x)],s,.inl ?_,_,rfl,rfl⟩;rw[<-hB,e2,e];exists enc (.jn (apps t (ts.take i)) x),W,enc (apps t (ts.take i)),W1;simp[j1]) (λ_ _ zz=>by obtain⟨_,_,q⟩:=zz;subst q;simp[h])
 rw[gm,kO]at h1;have hu:=jK st'.length (apps t ts);rw[show startM 4 [enc t,D.loc n]=[some (enc t),some (.loc n),none,none] from rfl];exists enc (apps t ts),W,enc t,X;simp[h,h1];exact fV hu
end Law
set_option maxHeartbeats 0
namespace Law
open L2 M Tr
structure Bs(st:ak):Prop where
 t1:st[1]? = some (.tab "out_and_cost")
 t2:st[2]? = some (.tab "put_in")
 c:bI st
def Bs.app{st:ak}(h:Bs st){g:ak}(hg:bI g):Bs (st++g):=⟨dC h.t1,dC h.t2,by simp[h.c,hg]⟩
def zbx(n:Nat)(st:ak)(h:n<=1000):O4 [.int n] st=.ok (.int ((2+2*n:Nat):Int)) st:=by
 have m2:oh (.int 2) (.int n) st=.ok (.int (2*(n:Int))) st:=Vt st 2 n 0x0;unfold O4 bF bw zfi;simp[startM,m2,bD,fV]
def zre(x:List Nat)(t:Tr)(st:ak)(h:Bs st)(hl:lv t<=400000):zeb [.str x,enc t] st=.ok (.int ((out x t).2:Nat)) st:=by
 have o:=zdh x t st h.t1 h.c hl;have x1:aV (encC (out x t)) (.int 1) st=.ok (.int ((out x t).2:Nat)) st:=by rw[encC];exact Eb st 1 _ _ rfl
 unfold zeb bF bw zjb;exists encC (out x t),W,enc t,T;simp[startM,o,x1,fV]
def zij(k many:Nat)(st:ak)(h:Bs st)(hk:k<many)(hm:many<=100000):zbt [.int k,.int many] st=.ok (.int (cg k many:Nat)) st:=by
 have u:=zf3 (many - 1 - k) (.lf [120]) st 0x0;have o:=zre [120] (cN (many - 1 - k) (.lf [120])) st h (by rw[zp9];show 1+_<=_;omega);rw[zry]at o;have e1:(many:Int) - 1 - (k:Int)=((many - 1 - k:Nat):Int):=by omega
 have e2:(many:Int) - 1+((Ft (many - 1 - k):Nat):Int)=((cg k many:Nat):Int):=by unfold cg;omega
 rw[show enc (.lf [120])=.str [120] from rfl]at u;unfold zbt bF bw zhk;exists enc (cN (many - 1 - k) (.lf [120])),W;dsimp only at o;simp[startM,e1,u,o,e2,fV]
def zki(st:ak):zc1 [] st=.ok (enc fJ) st:=by
 have e:=Gy (.lf [110]) (.lf [108]) (.lf [119]) (.lf [114]) st rfl rfl rfl rfl;have hu:=jK st.length fJ;unfold zc1 bF bw zja;rw[show enc (.lf [110])=.str [110] from rfl,show enc (.lf [108])=.str [108] from rfl,show enc (.lf [119])=.str [119] from rfl,show enc (.lf [114])=.str [114] from rfl]at e;change _=R.ok (enc fJ) st at e;exists enc fJ,W;simp[startM,e,fV hu]
theorem zg8:∀cs:List Nat,intsOf (aH cs)=some (cs.map λ(c:Nat)=>(c:Int))
 | []=>rfl
 | c::cs=>by
  show intsOf (.int (c:Int)::aH cs)=_;rw[intsOf,zg8 cs];rfl
theorem zso:∀cs:List Nat,(cs.map λ(c:Nat)=>(c:Int)).sum=(cs.sum:Int)
 | []=>rfl
 | c::cs=>by
  rw[gq,nZ,zso cs,nZ];omega
def sum_ints(cs:List Nat)(n:Nat)(st:ak)(h:st[n]? = some (.lst (aH cs))):wM [.loc n] st=.ok (.int cs.sum) st:=by
 have e:aA st n=some (aH cs):=by unfold aA;rw[h]
 show H_ [.loc n] st=_;unfold H_;dsimp only;rw[e,mW,zg8];dsimp only;rw[zso]
def zi1(xs:List (List Nat))(t:Tr)(st:ak)(h:Bs st)(hl:xs.length<=4)(hv:lv t<=100) :
  NZ [.tup (xs.map D.str),enc t] st=.ok 0x2 0x26/\wM [.loc st.length] 0x26=.ok (.int ((dH t xs).sum:Nat)) 0x26 :=
 ⟨zhl xs t st h.t1 h.c hl hv,sum_ints _ _ _ 0x1⟩
def zrv(st:ak)(h:Bs st):zdy [] st=.ok (.int zL) st:=by
 obtain⟨m1,m2⟩:=zi1 cF fJ st h 0x5 0x5;have et:=zki st;change _=R.ok (D.int zL) _ at m2;unfold zdy bF bw zjk;simp only[gq,m7]at m1;exists enc fJ,W,aH (dH fJ cF),Y;simp[startM,et,m1,m2];exact sZ 0x1
def xZ(σ:List (List Nat×Tr))(t:Tr)(st:ak)(h:Bs st)(hl:lv t<=400000):Hi [enc t,.loc st.length] (st++[.dkc (aY σ)])=.ok (enc (sb (look σ) t)) (st++[.dkc (aY σ)]) :=
 zh6 σ t st.length (st++[.dkc (aY σ)]) 0x1 (dC h.t2) (by simp[h.c]) hl
def Di(x:List Nat)(e:ME)(v:Tr)(env:aK)(st:ak)(h:∀s,e env (st++s)=.ok (enc v) (st++s)):ie (cU #[2,x] e iV) env st=.ok 0x2 (st++[.dkc (aY [(x,v)])]):=by
 have h0:=h [.dkc []];unfold ie;simp[h0,vM,zy,j4,putN,aY]
def zq0(w:Tr)(st:ak)(h:Bs st):zc2 [enc w] st=.ok (enc (ju w)) st:=by
 have et:=zki st;have mo:=Z7 cF fJ st h.t1 h.c 0x5 0x5;have pi:=xZ [([119],w)] (bV fJ cF) st h (by have:=yj fJ cF;have e:lv fJ=15:=rfl;simp at this;omega);have ds:=Di [119] (vr 0) w [some (enc w)] st (λs=>by simp);change _=R.ok (enc (ju w)) _ at pi;have hu:=jK st.length (ju w);simp only[gq,m7]at mo;unfold zc2 bF bw zil;exists ie (cU #[2,[119]] (vr 0) iV),DE,enc (ju w),W1,enc w,W0;exists enc (bV fJ cF),W2,enc fJ,W3,aY _,KV;simp[startM,et,mo,ds,pi];exact sZ hu
abbrev Hm(m:Bool):List Nat:=if m=true then [108] else [114]
def zjl(m:Bool)(st:ak):zcl [.str (Hm m)] st=.ok (enc (cT m)) st:=by
 have j1:=λs=>xP (.lf [103]) (.lf [102]) s;have j2:=λs=>xP 0x1d (.lf [102]) s;rw[show enc (.lf [103])=.str [103] from rfl,show enc (.lf [102])=.str [102] from rfl]at j1;rw[show enc (.lf [102])=.str [102] from rfl]at j2;have hu:=jK st.length (cT m);unfold zcl bF bw zhw;cases m with
 | true =>
  have hd:=zic (.lf [108]) [.lf [98,97,114,101],.lf [102,117,108,108],.jn 0x1d (.lf [102]),.lf [114]] st.length (st++[.lst [.str [98,97,114,101],.str [102,117,108,108],enc (.jn 0x1d (.lf [102])),.str [114]]]) (by simp;exact⟨rfl,rfl,rfl⟩);change NQ [.str [108],.loc st.length] _=R.ok (enc (cT true)) _ at hd;exists enc (cT true),W,enc (.jn 0x1d (.lf [102])),W2,enc 0x1d,W3;have x0:∀s,aV (.tup [.str [108],.str [114]]) (.int 0) s=.ok (.str [108]) s:=λs=>Eb s 0 _ _ rfl;have x1:∀s,aV (.tup [.str [108],.str [114]]) (.int 1) s=.ok (.str [114]) s:=λs=>Eb s 1 _ _ rfl;simp[startM,x0,x1,j1,j2,hd];exact sZ hu
 | false =>
  have hd:=zic (.lf [114]) [.lf [98,97,114,101],.lf [102,117,108,108],.jn 0x1d (.lf [102]),.lf [108]] st.length (st++[.lst [.str [98,97,114,101],.str [102,117,108,108],enc (.jn 0x1d (.lf [102])),.str [108]]]) (by simp;exact⟨rfl,rfl,rfl⟩);change NQ [.str [114],.loc st.length] _=R.ok (enc (cT false)) _ at hd;exists enc (cT false),W,enc (.jn 0x1d (.lf [102])),W2,enc 0x1d,W3;have x0:∀s,aV (.tup [.str [114],.str [108]]) (.int 0) s=.ok (.str [114]) s:=λs=>Eb s 0 _ _ rfl;have x1:∀s,aV (.tup [.str [114],.str [108]]) (.int 1) s=.ok (.str [108]) s:=λs=>Eb s 1 _ _ rfl;simp[startM,x0,x1,j1,j2,hd];exact sZ hu
def zm9(m:Bool)(st:ak):zcq [.str (Hm m)] st=.ok (enc (bG m)) st:=by
 have lw:=zis (.lf [119]) (.lf [120]) st rfl rfl;change Vz [.str [119],.str [120]] st=R.ok (enc eV) st at lw;have vg:val eV=true:=rfl;have p1:=zsz (.lf [116]) (.lf [97]) eV st rfl rfl vg;have p2:=zsz eV (.lf [97]) (.lf [116]) st vg rfl rfl;rw[show enc (.lf [116])=.str [116] from rfl,show enc (.lf [97])=.str [97] from rfl]at p1 p2;have j1:=xP (.lf [121]) (hold [.lf [116],.lf [97],eV]) st;have j2:=xP (.lf [121]) (hold [eV,.lf [97],.lf [116]]) st;rw[show enc (.lf [121])=.str [121] from rfl]at j1 j2;have hu:=jK st.length (bG m);unfold zcq bF bw zgr;cases m with
 | true =>
  change _=R.ok (enc (bG true)) st at j1;exists enc (bG true),W,enc (hold [.lf [116],.lf [97],eV]),W1,enc eV,W2;simp[startM,lw,p1,j1,fV hu]
 | false =>
  change _=R.ok (enc (bG false)) st at j2;exists enc (bG false),W,enc (hold [eV,.lf [97],.lf [116]]),W1,enc eV,W2;simp[startM,lw,p2,j2,fV hu]
def zhr(st:ak):zb2 [] st=.ok (enc dX) st:=by
 have hd:=zic (.lf [118]) [.lf [101],.lf [102]] st.length (st++[.lst [.str [101],.str [102]]]) (by simp;exact⟨rfl,rfl⟩);change NQ [.str [118],.loc st.length] _=R.ok (enc dX) _ at hd;have hu:=jK st.length dX;unfold zb2 bF bw zf9;exists enc dX,W;simp[startM,hd];exact sZ hu
def zrh(row:Tr)(st:ak)(h:Bs st):zdz [enc row] st=.ok (enc (jR row)) st:=by
 have et:=zhr st;have mo:=Z7 qL dX st h.t1 h.c 0x5 0x5;have pi:=xZ [([101],row)] (bV dX qL) st h (by have:=yj dX qL;have e:lv dX=3:=rfl;simp at this;omega);have ds:=Di [101] (vr 0) row [some (enc row)] st (λs=>by simp);change _=R.ok (enc (jR row)) _ at pi;have hu:=jK st.length (jR row);simp only[gq,m7]at mo;unfold zdz bF bw zin;exists ie (cU #[2,[101]] (vr 0) iV),DE,enc (jR row),W1,enc row,W0;exists enc (bV dX qL),W2,enc dX,W3,aY _,KV;simp[startM,et,mo,ds,pi];exact sZ hu
def zlp(row tab:Tr)(st:ak)(h1:val row=true)(h2:val tab=true):zcf [enc row,enc tab] st=.ok (enc (hold [row,tab])) st:=by
 have hd:=rP [row,tab] [enc row,enc tab] rfl st (by simp[h1,h2]);have hu:=jK st.length (hold [row,tab]);unfold zcf bF bw zfh;exists enc (hold [row,tab]),W,enc row,W1,enc tab,W2;simp[startM,hd];exact sZ hu
def Let(c:Nat):Prop:=c=95\/97<=c/\c<=122
def Ha:∀c,97<=c->c<=122->t_ [c]=true:=by
 have key:∀k:Fin 26,t_ [97+k.val]=true:=by decide +kernel
 intro c h1 h2;have:=key ⟨c - 97,by omega⟩;rwa[show 97+(c - 97)=c by omega]at this
def zi4(c:Nat)(st:ak)(h:Let c):Z_ [.str [c]] st=.ok (.str (dn c)) st:=by
 unfold Z_ bF bw zht;rcases h with rfl | ⟨h1,h2⟩
 ·have a:t_ [95]=false:=by decide +kernel
  have hd:dn 95=[100]:=rfl;rw[hd];simp[startM,oE,a,cM,jh,fV]
 ·have a:=Ha c h1 h2;have hd:dn c=[100,c]:=by unfold dn;rw[afo 0x0]
  rw[hd];simp[startM,oE,a,cM,jh,bD,fV]
def dnD:D->D
 | .str [c]=>.str (dn c)
 | d=>d
def ym{ls:List Nat}(h:∀c∈ls,Let c):ls.all (λc=>decide (c<128))=true:=List.all_eq_true.mpr λc hc=>by
 have:=h c hc;unfold Let at this;simp;omega
def zkl(ls:List Nat)(st:ak)(h:∀c∈ls,Let c)(hl:ls.length<=1000):zcx [.str ls] st=.ok (enc (cI ls)) st:=by
 have ha:∀x∈ls,x<128:=λx hx=>by have:=h x hx;unfold Let at this;omega
 have cc:=OD (capt:=[none]) (mi:=zf (vr 0)) (g:=aO 0) (e:=az Z_ [] #[7,0]) (env:=[some (.str ls)]) (st:=st) (st1:=st) (items:=ls.map λc=>D.str [c]) (gs:=[]) dnD (λenv=>env.length=1) (by simp;exact ha) rfl 0x9 (λys=>by simp) (λd hd cC ys hP=>by
  obtain⟨c,hc,rfl⟩:=gh.mp hd;obtain⟨x,rfl⟩:=my.mp hP;have:=zi4 c (st++[.lst ys]) (h c hc);exact⟨[some (.str [c])],rfl,by simp,by simp[dnD,this]⟩)
 rw[show (ls.map λc=>D.str [c]).map dnD=ls.map λc=>D.str (dn c) by rw[gJ];rfl]at cc;have hd:=zic (.lf [115]) ((ls.map λc=>.lf (dn c))++cF.map .lf) (st.length+2) (st++[.lst (ls.map λc=>D.str (dn c)),.lst [.str [110],.str [102],.str [108],.str [114]],.lst ((ls.map λc=>D.str (dn c))++[.str [110],.str [102],.str [108],.str [114]])]) (by
  simp;rfl)
 change NQ [.str [115],.loc (st.length+2)] _=R.ok (enc (cI ls)) _ at hd;have hu:=jK st.length (cI ls);have hlen:(ls.map λc=>D.str (dn c)).length<=1000:=by simpa using hl
 unfold zcx bF bw ziw;generalize hCE:eN _ _ _ _ _=CE at *;exists (ls.map λc=>D.str (dn c)),X,enc (cI ls),W;have ad:bD 0x2 (.loc 0xc) (st++[.lst X,.lst [.str [110],.str [102],.str [108],.str [114]]])=.ok (.loc (st.length+2)) (st++[.lst X,.lst [.str [110],.str [102],.str [108],.str [114]],.lst (X++[.str [110],.str [102],.str [108],.str [114]])]):=by
  have h4:X.length+4<=1000000:=by omega
  simp[bD,h4]
 simp[startM,cc,ou,ad,hd];exact sZ hu
def zvf(ls:List Nat):lv (cI ls)=ls.length+5:=by
 have key:∀(ts:List Tr) (p:Tr),(∀t∈ts,lv t=1)->lv (apps p ts)=lv p+ts.length:=by
  intro ts
  induction ts with
  | nil=>intro p _;rfl
  | cons t ts ih =>
   intro p h;have:=ih (.jn p t) λx hx=>h x (by simp[hx]);have h1:=h t 0x1;show lv (apps (.jn p t) ts)=_;rw[this,lv,h1,g8];omega
 unfold cI;rw[key]
 ·simp[lv];omega
 ·intro t ht;rcases mz.mp ht with ht | ht
  ·obtain⟨c,_,rfl⟩:=gh.mp ht;rfl
  ·obtain⟨c,_,rfl⟩:=gh.mp ht;rfl
def zrk(ls:List Nat)(st:ak)(hb:Bs st)(h:∀c∈ls,Let c)(hl:ls.length<=9):zdt [.str ls] st=.ok (enc (bV (cI ls) eG)) st:=by
 have rt:=zkl ls st h 0x0;have mo:=Z7 eG (cI ls) st hb.t1 hb.c 0x5 (by rw[zvf];omega);have hu:=jK st.length (bV (cI ls) eG);simp only[gq,m7]at mo;unfold zdt bF bw zjg;exists enc (bV (cI ls) eG),W,enc (cI ls),W1;simp[startM,rt,mo,fV hu]
def zq1(ls:List Nat)(st:ak)(hb:Bs st)(h:∀c∈ls,Let c)(hl:ls.length<=9):zdr [.str ls] st=.ok (.int (rF ls:Nat)) st:=by
 have rt:=zkl ls st h 0x0;obtain⟨m1,m2⟩:=zi1 eG (cI ls) st hb 0x5 (by rw[zvf];omega);have c1:=zbx 2 st 0x0;have c2:=zbx 3 st 0x0;simp only[gq,m7]at m1;unfold zdr bF bw zjr rF;rw[show ((2:Nat):Int)=2 from rfl,show ((2+2*2:Nat):Int)=6 from rfl]at c1;rw[show ((3:Nat):Int)=3 from rfl,show ((2+2*3:Nat):Int)=8 from rfl]at c2;exists aH (dH (cI ls) eG),Y,enc (cI ls),W1,(dH (cI ls) eG).sum,S;simp[startM,rt,m1,m2,c1,c2];exact sZ 0x1
end Law
set_option maxHeartbeats 0
namespace M
def DY{st:ak}{n:Nat}{ds:List D}(h:aA st n=some ds):cR [.loc n] st=.ok (.int ds.length) st:=by
 unfold aA at h;unfold cR;cases e:st[n]? with
 | none=>rw[e]at h;cases h
 | some o =>
  rw[e]at h;cases o<;>first | (cases h;done) | (dsimp only;unfold wZ;simp[aA,e]at h ⊢;exact h ▸ rfl)
def yx{st st':ak}{d:D}{n:Nat}(hn:n<st.length)(qb:st'[n]?≠st[n]?):gc st (.ok d st')=.ok d st':=by
 have h:st'.take st.length≠st:=λe=>qb (by
  conv=>rhs;rw[<-e]
  rw[pK,afn hn])
 unfold gc;dsimp only;rw[afo (λq=>h q.1)];cases d with
 | loc k =>
  dsimp only;cases st'[k]? with
  | none=>rfl
  | some o=>dsimp only;rw[afo (λq=>h q.1)]
 | _=>rfl
def Oz(a:ak)(x y:MO)(n:Nat)(h:n=a.length):(a++[x]).set n y=a++[y]:=by subst h;simp
def ZX(a b:ak)(n:Nat)(y:MO)(h:n<a.length):(a++b).set n y=a.set n y++b:=by
 rw[ph,afn h]
def Ua{st:ak}(h:bI st){n:Nat}{o:MO}(ho:o.eU=false):bI (st.set n o):=λq hq=>by
 rcases List.mem_or_eq_of_mem_set hq with hq | rfl
 ·exact h q hq
 ·exact ho
namespace Tr
def ZC{ls:List Nat}{f:Nat->Tr}{c:Nat}(h:c∈ls):look (ls.map λc=>([c],f c)) [c]=some (f c):=by
 induction ls with
 | nil=>cases h
 | cons x l ih =>
  rw[gq,OJ];by_cases e:x=c
  ·rw[afn (by rw[e]),e]
  ·rw[afo (λz=>e (by simpa using z))];exact ih ((gj.mp h).resolve_left (afy e))
def Za{a b:Nat}(h:dn a=dn b):a=b:=by
 unfold dn at h
 split at h<;>split at h<;>simp_all
def ab0(c x:Nat)(hx:x≠100):dn c≠[x]:=λe=>by
 unfold dn at e
 split at e<;>simp at e
 exact hx e.symm
end Tr
end M
namespace Law
open L2 M Tr
def zqk(σ:List (List Nat×Tr))(n:Nat)(s:List Nat)(v:Tr)(st:ak)(h:st[n]? = some (.dkc (aY σ)))(hl:σ.length<=10000)(hs:∀p∈σ,p.1≠s):lW (.loc n) (.str s) (enc v) st=.ok () (st.set n (.dkc (aY (σ++[(s,v)])))):=by
 unfold lW;simp only[h,zy];rw[afn (by simp[aY];omega)];congr 3;unfold putN;rw[afo]
 ·simp[aY]
 ·simp only[aY,List.any_map,pq,Function.comp,afC,not_exists,not_and];intro p hp e;exact hs p hp (Ny.mp (afM e))
def Zw(σ:List (List Nat×Tr))(n:Nat)(s:List Nat)(v:Tr)(st:ak)(h:st[n]? = some (.dkc (aY σ))\/st[n]? = some (.dkf (aY σ)))(hv:look σ s=some v):wC (.loc n) (.str s) st=.ok (enc v) st:=by
 have e:valN (aY σ) (.inr (strOf s))=some (enc v):=by rw[zk0,hv];rfl
 unfold wC;rcases h with h | h<;>simp only[h,zy,e]
def zua(ls:List Nat)(f:Nat->Tr):(aY (ls.map λc=>([c],f c))).map (λp=>yp p.1)=ls.map λc=>D.str [c]:=by
 unfold aY;rw[gJ,gJ];exact kE λc _=>by simp[yp]
def Fd(ls:List Nat)(hn:ls.Nodup)(h:∀c∈ls,Let c)(hl:ls.length<=9)(qF num:Tr)(fM:Nat->Tr)(n:Nat)(st:ak)(hb:Bs st)(hd:st[n]? = some (.dkc (aY (ls.map λc=>([c],fM c)))))(hv:lv qF<=400000) :
  zft [enc qF,enc num,.loc n] st=.ok (enc (sb (look 0x20) qF)) (st.set n (.dkf (aY (ls.map λc=>([c],fM c))))++[.dkc (aY 0x20)]):=by
 have RP:=(gf.mp hd).1;have ds:=Di [110] (vr 1) num [some (enc qF),some (enc num),some (.loc n),none,none] st (λs=>by simp);generalize hσ:(ls.map λc=>([c],fM c))=σL at *
 let Z:Nat->ak:=λi=>st.set n (.dkf (aY σL))++[.dkc (aY (([110],num)::(ls.take i).map λc=>(dn c,fM c)))]
 unfold zft bF bw zmy;generalize hB:(jB (aF wC (vr 2) (vr 4)) _:MS)=B;obtain⟨cC,st',h1,a4,rfl,rfl⟩:=z8 (g:=aO 4) (b:=B) (gs:=[]) (items:=ls.map λc=>D.str [c])
  (λi env s=>∃(a4:Option D),env=[some (enc qF),some (enc num),some (.loc n),some 0x2,a4]/\s=Z i)
  (env:=[some (enc qF),some (enc num),some (.loc n),some 0x2,none]) (st:=Z 0) ⟨none,rfl,rfl⟩ (by
   rintro i d env s hi ⟨a4,rfl,rfl⟩;obtain⟨c,hc,rfl⟩:=Hz hi;have Hq:=gU hc;have zl:(st.set n (.dkf (aY σL))).length=st.length:=by simp
   have zn:(Z i)[n]? = some (.dkf (aY σL)):=by
    show (st.set n _++_)[n]? = _;rw[gM (by rw[zl];exact RP)];simp[RP]
   have zp:(Z i)[st.length]? = some (.dkc (aY (([110],num)::(ls.take i).map λc=>(dn c,fM c)))):=by
    show (st.set n _++_)[_]? = _;rw[h_ (by rw[zl];exact gb _),zl];simp
   have dnm:=zi4 c (Z i) (h c Hq);have ix:=Zw σL n [c] (fM c) (Z i) (.inr zn) (by rw[<-hσ];exact ZC Hq);have sk:=zqk (([110],num)::(ls.take i).map λc=>(dn c,fM c)) st.length (dn c) (fM c) (Z i) zp 0x9 (λp hp=>by
    rcases gj.mp hp with rfl | hp
    ·exact λe=>ab0 c 110 0x5 e.symm
    ·obtain⟨x,hx,rfl⟩:=gh.mp hp;intro e;have:x=c:=Za e;subst this;obtain⟨j,hj,q⟩:=nj.mp hx;rw[km]at hj;rw[pD]at q;have:ls[j]? = ls[i]?:=by rw[hc,<-q];exact gB 0x0
     have:=(nG 0x0 hn).mp this;omega)
   have e2:(Z i).set st.length (.dkc (aY ((([110],num)::(ls.take i).map λc=>(dn c,fM c))++[(dn c,fM c)])))=Z (i+1):=by
    show (st.set n _++_).set _ _=st.set n _++_;rw[Oz _ _ _ _ zl.symm,kJ,hc];simp
   rw[e2]at sk;refine⟨by simp,_,_,rfl,[some (enc qF),some (enc num),some (.loc n),some 0x2,some (.str [c])],Z (i+1),.inl ?_,_,rfl,rfl⟩;rw[<-hB];exists Z i,Zi,Z (i+1),Zj,enc (fM c),W;exists enc qF,W1,enc num,W2;simp[ix,dnm,sk]) (λ_ _ _=>by simp)
 rw[gm]at h1;have ez:Z ls.length=st.set n (.dkf (aY σL))++[.dkc (aY 0x20)]:=by show _++_=_;rw[kO]
 have e0:(st++[.dkc (aY [([110],num)])]:ak).set n (.dkf (aY σL))=Z 0:=by
  show _=st.set n _++_;rw[ZX _ _ _ _ RP];simp
 have dk:U9 (vr 2) [some (enc qF),some (enc num),some (.loc n),some 0x2,none] (st++[.dkc (aY [([110],num)])])=.ok (ls.map λc=>D.str [c],[]) (Z 0):=by
  unfold U9;have:(st++[.dkc (aY [([110],num)])]:ak)[n]? = some (.dkc (aY σL)):=dC hd;have kk:=zua ls fM;rw[hσ]at kk;simp only[Ff,mQ,nT,R.aB,this,e0,kk]
 have zl:(st.set n (.dkf (aY σL))).length=st.length:=by simp
 have pi:=zh6 0x20 qF st.length (Z ls.length) (by rw[ez,h_ (by rw[zl];exact gb _),zl];simp) (by
  rw[ez];refine dC ?_;rw[gR (λe=>by subst e;rw[hb.t2]at hd;cases hd)];exact hb.t2) (by
  rw[ez];have:=Ua hb.c (n:=n) (o:=.dkf (aY σL)) rfl;simp[this]) hv
 rw[<-ez];have hz:(Z ls.length)[n]?≠st[n]?:=by
  rw[ez,gM (by rw[zl];exact RP),hd];simp[RP]
 have g:=yx (st:=st) (st':=Z ls.length) (d:=enc (sb (look 0x20) qF)) RP hz;rw[show startM 5 [enc qF,enc num,D.loc n]=[some (enc qF),some (enc num),some (.loc n),none,none] from rfl];generalize hDE:ie (cU #[2,[110]] (vr 1) iV)=DE at *;generalize hDK:U9 (vr 2)=DK at *;exists Z ls.length,Zl,Z 0,Z0,aY [([110],num)],K1;generalize enc (sb (look 0x20) qF)=W3 at *;exists enc qF,W1,enc num,W2,(ls.map λc=>D.str [c]),X;simp[ds,dk,h1,pi];exact g
end Law
set_option maxHeartbeats 0
namespace Law
open L2 M Tr
def zuh(n:Nat)(st:ak):ze7 [.int n] st=.ok (.int ((n / 2:Nat):Int)) st :=
 zs1 #[0,(by rw[zjv st n 2 0x0];congr 2)] 0x1
def zpd(a:List Nat)(x:Nat):aH (a++[x])=aH a++[.int x]:=by simp[aH]
def T8(a:List Nat):(aH a).length=a.length:=by simp[aH]
def zke(k many:Nat)(st:ak)(hk:k<many)(hm:many<=4096):zb7 [.int k,.int many] st=.ok 0x2 (st++[.lst (aH (bQ 13 k many))]):=by
 unfold zb7 bF bw zi6;generalize hC:(dM #[11,Y5,(vr 4)]:MT)=C;generalize hB:(aC (aG 5 _) _:MS)=B
 let E:Nat->Nat->Option D->Option D->aK:=λfirst left a5 a6=>[some (.int k),some (.int many),some 0x2,some (.int (first:Nat)),some (.int (left:Nat)),a5,a6]
 let S:List Nat->ak:=λdone=>st++[.lst (aH done)]
 have stop:∀(first left:Nat) (done:List Nat) (a5 a6:Option D),left<=1->aZ C B (E first left a5 a6) (S done)=.ok (.nx (E first left a5 a6)) (S done):=λfirst left done a5 a6 hl=>by
  rw[u0,show C (E first left a5 a6) (S done)=.ok false (S done) by rw[<-hC];exact dq #[0,(by rw[zr5,afq 0x0])]];rfl
 have go:∀(first left:Nat) (done:List Nat) (a5 a6:Option D),2<=left->left<=4096->first<=4096->done.length<=1000 ->
   ∃Ht a6',aZ C B (E first left a5 a6) (S done)=if k<first+left / 2 then aZ C B (E first (left / 2) Ht a6') (S (done++[0])) else aZ C B (E (first+left / 2) (left - left / 2) Ht a6') (S (done++[1])):=λfirst left done a5 a6 hl Gp hf hd=>by
  have ap:∀x:Nat,aR 0x2 [.int (x:Nat)] (S done)=.ok .non (S (done++[x])):=λx=>by
   have:=zsf (st:=st) (g:=[.lst (aH done)]) (k:=0) (d:=.int x) rfl (by rw[T8];omega);show _=R.ok _ (st++[.lst (aH (done++[x]))]);rw[zpd];exact this
  have mu:∀(j:Int) s,j<=1->0<=j->oh (.int ((left / 2:Nat):Int)) (.int j) s=.ok (.int ((left / 2:Nat)*j)) s:=λj s h1 h0=>Vt s ((left / 2:Nat):Int) j 0x0;have lt:ltV (.int k) (.int ((first+left / 2:Nat):Int)) (S done)=.ok (.bl (decide (k<first+left / 2))) (S done):=yl;refine⟨some (.int ((left / 2:Nat):Int)),some (.int (if k<first+left / 2 then 0 else 1)),?_⟩;rw[u0,show C (E first left a5 a6) (S done)=.ok true (S done) by rw[<-hC];exact dq #[0,(by rw[zr5,afs 0x0])],R.aB,afn rfl];by_cases hc:k<first+left / 2
  ·rw[afs hc]at lt;rw[afn hc,afn hc,show B (E first left a5 a6) (S done)=.ok (.nx (E first (left / 2) #[10,((left / 2:Nat):Int)] #[10,0])) (S (done++[0])) by
    rw[<-hB];exact b_ (bU (zuh left _) rfl) (b_ (T5 (dq (aM rfl #[0,(Hv rfl)] lt)) rfl) ((sW (yR (sX rfl (lty (k:=0) rfl) #[6,rfl] (ap 0)))).trans (b_ (aM rfl #[0,(mu 0 _ 0x0 0x0)] (add_int 0x0)) (DR (T5 (dq #[0,Vk]) rfl))))),R.aB]
  ·rw[afq hc]at lt;rw[afo hc,afo hc,show B (E first left a5 a6) (S done)=.ok (.nx (E (first+left / 2) (left - left / 2) #[10,((left / 2:Nat):Int)] #[10,1])) (S (done++[1])) by
    rw[<-hB];exact b_ (bU (zuh left _) rfl) (b_ (T5 (dq (aM rfl #[0,(Hv rfl)] lt)) rfl) ((sW (yR (sX rfl (lty (k:=0) rfl) #[6,rfl] (ap 1)))).trans (b_ (aM rfl #[0,(mu 1 _ 0x0 0x0)] (add_int 0x0)) (DR (T5 (dq #[0,eq_int]) #[0,(by rw[Fg];congr 2;omega)]))))),R.aB]
 have loop:∀(f first left:Nat) (done:List Nat) (a5 a6:Option D),first<=k->k<first+left->left<=2 ^ f->done.length+f<=100->f<=12 ->
   ∃(fi le:Nat) (Ht a6':Option D),aZ C B (E first left a5 a6) (S done)=.ok (.nx (E fi le Ht a6')) (S (done++bQ (f+1) (k - first) left)):=by
  intro f
  induction f with
  | zero =>
   intro first left done a5 a6 h1 h2 h3 _ _;have hl:left<=1:=by simpa using h3
   refine⟨first,left,a5,a6,?_⟩;rw[stop first left done a5 a6 hl,bQ,afn hl,gr]
  | succ f ih =>
   intro first left done a5 a6 h1 h2 h3 hd hf;have hp:2 ^ (f+1)=2 ^ f+2 ^ f:=by rw[n_];omega
   have d_:2 ^ f<=2 ^ 11:=Nat.pow_le_pow_right 0x5 0x0;by_cases hl:left<=1
   ·refine⟨first,left,a5,a6,?_⟩;rw[stop first left done a5 a6 hl,bQ,afn hl,gr]
   ·obtain⟨b5,b6,e⟩:=go first left done a5 a6 0x0 0x0 0x0 0x0;rw[bQ,afo hl,e];by_cases hc:k<first+left / 2
    ·rw[afn hc,afn 0x0];obtain⟨fi,le,c5,c6,e2⟩:=ih first (left / 2) (done++[0]) b5 b6 h1 hc 0x0 0x9 0x0;exact⟨fi,le,c5,c6,by rw[e2,gP];rfl⟩
    ·rw[afo hc,afo 0x0];obtain⟨fi,le,c5,c6,e2⟩:=ih (first+left / 2) (left - left / 2) (done++[1]) b5 b6 0x0 0x0 0x0 0x9 0x0;exact⟨fi,le,c5,c6,by rw[e2,gP,show k - (first+left / 2)=k - first - left / 2 by omega];rfl⟩
 obtain⟨fi,le,a5,a6,h1⟩:=loop 12 0 many [] none none 0x0 0x0 0x0 0x1 0x0;rw[kI,Nat.sub_zero]at h1;have g:=Nx (st:=st) (o:=.lst (aH (bQ 13 k many))) (by
  show bY st.length (aH _);generalize bQ 13 k many=cs
  induction cs with
  | nil=>simp[aH]
  | cons c cs ih=>simpa[aH] using ih)
 exact bf (b_ zkw (b_ rfl (b_ rfl ((sW h1).trans (fB rfl))))) rfl g
def pkD:D->D
 | .int i=>enc (bM i.toNat 2)
 | d=>d
def pcD:D->D
 | .int i=>.int ((6+cg i.toNat 2:Nat):Int)
 | d=>d
def Qs(ts:List Nat):(aH ts).map pkD=(ts.map λt=>bM t 2).map enc:=by
 unfold aH;rw[gJ,gJ];exact kE λt _=>by simp[pkD]
def Eh(k many:Nat)(st:ak)(hb:Bs st)(hk:k<many)(hm:many<=4096):zgs [.int k,.int many] st=.ok (enc (jM (bQ 13 k many))) st:=by
 have tt:=zke k many st hk hm;obtain⟨tl,t1⟩:=ZK 13 k many;exists bQ 13 k many,ts;have Lj:Bs (st++[.lst (aH ts)]):=hb.app 0x1;have cc:=OD (capt:=[none]) (mi:=iC #[21,zb7]) (g:=aO 0) (e:=az Ox [] #[3,0,#[5,2]]) (env:=[some (.int k),some (.int many)]) pkD (λenv=>env.length=1) (ztk (bU tt rfl) 0x15) rfl (by rw[T8];omega) (λys=>yX (dC 0x15)) (λd hd cC ys hP=>by
  obtain⟨t,ht,rfl⟩:=gh.mp hd;obtain⟨x,rfl⟩:=my.mp hP;have h2:=t1 t ht;refine⟨[some (.int t)],rfl,rfl,?_⟩;rw[show pkD (.int t)=enc (bM t 2) by simp[pkD]];exact bU (zpv t 2 _ (dC Lj.t1) (by simp[hb.c]) 0x0 0x0) rfl)
 rw[Qs]at cc;have hd:=zqb (ts.map λt=>bM t 2) (st++[.lst (aH ts)]:ak).length (st++[.lst (aH ts)]++[.lst ((ts.map λt=>bM t 2).map enc)]) 0x1 (λt ht=>by
  obtain⟨x,_,rfl⟩:=gh.mp ht;exact HD _ _)
 exact bf (fB (bU hd #[6,cc])) rfl (by rw[gP];exact sZ (jK st.length (jM ts)))
def QL(ts:List Nat):(aH ts).map pcD=aH (ts.map λt=>6+cg t 2):=by
 unfold aH;rw[gJ,gJ];exact kE λt _=>by simp[pcD]
def zrp(k many:Nat)(st:ak)(hb:Bs st)(hk:k<many)(hm:many<=4096):zfo [.int k,.int many] st=.ok (.int ((2+2*(bQ 13 k many).length+ql (bQ 13 k many)+(dH dX qL).headD 0:Nat):Int)) st:=by
 have tt:=zke k many st hk hm;obtain⟨tl,t1⟩:=ZK 13 k many;exists bQ 13 k many,ts;have Lj:Bs (st++[.lst (aH ts)]):=hb.app 0x1;have cc:=OD (capt:=[none]) (mi:=iC (vr 2)) (g:=aO 0) (e:=aF bD #[8,O4,#[5,2]] (az zbt [] #[3,0,#[5,2]])) (env:=[some (.int k),some (.int many),some 0x2,none]) pcD (λenv=>env.length=1) (ztk rfl (qN (st:=st) (g:=[.lst (aH ts)]) (k:=0) rfl)) rfl (by rw[T8];omega) (λys=>yX (dC 0x15)) (λd hd cC ys hP=>by
  obtain⟨t,ht,rfl⟩:=gh.mp hd;obtain⟨x,rfl⟩:=my.mp hP;have h2:=t1 t ht;refine⟨[some (.int t)],rfl,rfl,?_⟩;rw[show pcD (.int t)=.int ((6+cg t 2:Nat):Int) by simp[pcD]];exact aM (bU (zbx 2 _ 0x0) rfl) (bU (zij t 2 _ (Lj.app 0x1) 0x0 0x0) rfl) (Hv rfl))
 rw[QL]at cc;have l1:cR [.loc st.length] 0x28=.ok (.int ts.length) 0x28:=by
  have:=DY (st:=st++[.lst (aH ts)]++[.lst (aH (ts.map λt=>6+cg t 2))]) (n:=st.length) (ds:=aH ts) (by simp[aA]);rwa[T8]at this
 have hc:=zbx ts.length 0x28 0x0;have sm:=sum_ints (ts.map λt=>6+cg t 2) 0xc 0x28 0x1;change _=R.ok (D.int (ql ts:Nat)) _ at sm;have hb3:Bs 0x28:=Lj.app 0x1;have et:=zhr 0x28;have mc:=zhl qL dX _ hb3.t1 hb3.c 0x5 0x5;have em:aH (dH dX qL)=[.int 2,.int 6]:=by kernel_rfl
 rw[em]at mc;rw[show (dH dX qL).headD 0=2 by kernel_rfl];have ix:=uZ (st++[MO.lst (aH ts)]++[MO.lst (aH (ts.map λt=>6+cg t 2))]++[MO.lst [.int 2,.int 6]]) (st++[MO.lst (aH ts)]++[MO.lst (aH (ts.map λt=>6+cg t 2))]).length 0 [.int 2,.int 6] (.int 2) (by simp[aA]) rfl;refine bf (st1:=st++[MO.lst (aH ts)]++[MO.lst (aH (ts.map λt=>6+cg t 2))]++[MO.lst [.int 2,.int 6]]) (b_ (bU tt rfl) (b_ cc (fB (aM (aM (bU hc #[6,(oZ l1 rfl)]) (oZ sm ?_) (Hv rfl)) (aM (bU mc #[12,(bU et rfl)]) rfl ix) (Hv rfl))))) rfl (by rw[gP,gP];exact sZ 0x1);rw[show (st++[MO.lst (aH ts)]).length=st.length+1 by simp];rfl
def Ep:∀(f:Nat) (es:List Tr) (n:Nat) (st:ak),0<es.length->es.length<=2 ^ f->f<=9->aA st n=some (es.map enc)->(∀e∈es,val e=true)->Vx (f+1) [.loc n] st=.ok (enc (cZ (f+1) es)) st:=by
 intro f
 induction f with
 | zero =>
  intro es n st h0 h1 _ hi hv;have hl:es.length=1:=by simp at h1;omega
  obtain⟨e,rfl⟩:=my.mp hl;have l1:=DY hi;have ix:aV (.loc n) (.int 0) st=.ok (enc e) st:=uZ _ _ _ _ _ hi rfl;have hu:=jK st.length e;rw[show cZ (0+1) [e]=e from rfl];exact bf (xN (qP #[17,(oZ l1 rfl),Vk] (fB #[0,ix]))) rfl (fV hu)
 | succ f ih =>
  intro es n st h0 h1 hf hi hv;have hp:2 ^ (f+1)=2 ^ f+2 ^ f:=by rw[n_];omega
  have l1:=DY hi;rw[gm]at l1;by_cases hl:es.length=1
  ·obtain⟨e,rfl⟩:=my.mp hl;have ix:aV (.loc n) (.int 0) st=.ok (enc e) st:=uZ _ _ _ _ _ hi rfl;have hu:=jK st.length e;rw[show cZ (f+1+1) [e]=e from rfl];exact bf (xN (qP #[17,(oZ l1 rfl),Vk] (fB #[0,ix]))) rfl (fV hu)
  ·have c1:¬ (es.length:Int)=1:=by omega
   have hh:=zuh es.length st;have e1:cZ (f+1+1) es=hold [cZ (f+1) 0x11,cZ (f+1) 0x14]:=by rw[cZ,afo hl]
   have l2:0x11.length=es.length / 2:=by rw[km];omega
   have l3:0x14.length=es.length - es.length / 2:=mL;have s1:xY (.loc n) none (some ((es.length / 2:Nat):Int)) st=.ok 0x2 (st++[.lst (0x11.map enc)]):=by
    have:=zue (es.map enc) (es.length / 2) (by rw[gm];omega);unfold xY;simp only[hi,this,<-List.map_take]
   have r1:=ih 0x11 st.length (st++[.lst (0x11.map enc)]) 0x0 0x0 0x0 (by simp[aA]) (λe he=>hv e (mY he));have hi2:aA (st++[.lst (0x11.map enc)]) n=some (es.map enc):=zqy hi;have s2:xY (.loc n) (some ((es.length / 2:Nat):Int)) none (st++[.lst (0x11.map enc)])=.ok (.loc 0xc) (st++[.lst (0x11.map enc)]++[.lst (0x14.map enc)]):=by
    have:=zom (es.map enc) (es.length / 2);unfold xY;simp only[hi2,this,<-List.map_drop];simp
   have r2:=ih 0x14 0xc (st++[.lst (0x11.map enc)]++[.lst (0x14.map enc)]) 0x0 0x0 0x0 (by simp[aA]) (λe he=>hv e (mZ he));have v1:=T_ (f+1) _ λe he=>hv e (mY (i:=es.length / 2) he);have v2:=T_ (f+1) _ λe he=>hv e (mZ (i:=es.length / 2) he);have hd:=rP [cZ (f+1) 0x11,cZ (f+1) 0x14] [enc (cZ (f+1) 0x11),enc (cZ (f+1) 0x14)] rfl (st++[.lst (0x11.map enc)]++[.lst (0x14.map enc)]) (by simp[v1,v2]);rw[<-e1]at hd;have hu:=jK st.length (cZ (f+1+1) es);have ef:Vx (f+1+1)=bF (bw 2 (zfn (Vx (f+1)))):=rfl;rw[ef];unfold bF bw zfn;refine bf (oX #[17,(oZ l1 rfl),(by rw[eq_int,afq c1])] (b_ (bU hh #[6,(oZ l1 rfl)]) (fB (bU hd #[6,(zi8 (aW (bU r1 (aW (zuo rfl rfl rfl s1) rfl)) (aW (bU r2 (aW (zuo rfl rfl rfl s2) rfl)) rfl)))])))) rfl (by rw[gP,gP];exact sZ hu)
def Z3(n:Nat)(es:List Tr):cZ (n+1) es=if es.length=1 then es.headD Tr.tK else hold [cZ n 0x11,cZ n 0x14]:=rfl
def Er:∀(f n:Nat) (es:List Tr),0<es.length->es.length<=2 ^ f->f<=n->cZ (n+1) es=cZ (f+1) es:=by
 intro f
 induction f with
 | zero =>
  intro n es h0 h1 _;have hl:es.length=1:=by simp at h1;omega
  rw[Z3 n,Z3 0,afn hl,afn hl]
 | succ f ih =>
  intro n es h0 h1 hn;have hp:2 ^ (f+1)=2 ^ f+2 ^ f:=by rw[n_];omega
  obtain⟨m,rfl⟩:∃m,n=m+1:=⟨n - 1,by omega⟩;by_cases hl:es.length=1
  ·rw[Z3 (m+1),Z3 (f+1),afn hl,afn hl]
  ·rw[Z3 (m+1),Z3 (f+1),afo hl,afo hl];rw[ih m 0x11 (by rw[km];omega) (by rw[km];omega) 0x0,ih m 0x14 (by rw[mL];omega) (by rw[mL];omega) 0x0]
def zrs(es:List Tr)(n:Nat)(st:ak)(h0:0<es.length)(h1:es.length<=512)(hi:aA st n=some (es.map enc))(hv:∀e∈es,val e=true):Vx 10 [.loc n] st=.ok (enc (cZ 13 es)) st:=by
 rw[Er 9 12 es h0 0x0 0x0];exact Ep 9 es n st h0 0x0 0x0 hi hv
end Law
set_option maxHeartbeats 0
namespace Law
open L2 M
structure fO where
 st:Int
 c:Nat
 w:Nat
 m:Nat
 g:Int
def fO.d(r:fO):D:=.tup [.int r.st,.str [r.c],.str [r.w],.str [r.m],.int r.g]
def zou(n:Nat)(rs:List fO):bY n (rs.map fO.d):=by
 induction rs with
 | nil=>simp
 | cons r rs ih=>simp[ih,fO.d]
def zrn(rs:List fO):dw (rs.map fO.d)=true:=by
 induction rs with
 | nil=>simp
 | cons r rs ih=>simp[ih,fO.d]
def zug(rs:List fO):deps (rs.map fO.d)<=1:=by
 induction rs with
 | nil=>simp
 | cons r rs ih=>simp[fO.d];omega
def zmk(s:Int)(c:Nat):keysOf [.int s,.str [c]]=some [.inl s,.inr (strOf [c])]:=rfl
def qG(r:fO):List Key:=[.inl r.st,.inr (strOf [r.c])]
def ztd(r:fO)(s:Int)(c:Nat):qG r=[.inl s,.inr (strOf [c])]↔r.st=s/\r.c=c:=by
 unfold qG;constructor
 ·intro h;injection h with h1 h2;injection h2 with h2 h3;injection h1 with h1;injection h2 with h2;injection h2 with h2;refine⟨h1,?_⟩;have:=congrArg Array.toList h2;simpa using this
 ·rintro ⟨rfl,rfl⟩;rfl
def tab:List (List Key×D)->List fO->List (List Key×D)
 | kvs,[]=>kvs
 | kvs,r::rs=>tab (match jf kvs (qG r) with | some _=>kvs | none=>kvs++[(qG r,r.d)]) rs
theorem BJ(s:Int)(c:Nat):∀(rs:List fO) (kvs:List (List Key×D)),jf (tab kvs rs) [.inl s,.inr (strOf [c])]=match jf kvs [.inl s,.inr (strOf [c])] with | some d=>some d | none=>(rs.find? λr=>decide (r.st=s/\r.c=c)).map fO.d
 | [],kvs=>by rw[tab];cases jf kvs [.inl s,.inr (strOf [c])]<;>rfl
 | r::rs,kvs=>by
  rw[tab,BJ s c rs,mq];by_cases h:r.st=s/\r.c=c
  ·have hk:=(ztd r s c).mpr h;rw[hk];cases e:jf kvs [.inl s,.inr (strOf [c])] with
   | some d=>simp only[e]
   | none =>
    dsimp only;rw[zp2 _ _ _ _ e,afn rfl];simp[h]
  ·have hk:¬ qG r=[.inl s,.inr (strOf [c])]:=λz=>h ((ztd r s c).mp z);have hd:decide (r.st=s/\r.c=c)=false:=afq h;rw[hd];cases e:jf kvs (qG r) with
   | some d=>rfl
   | none =>
    dsimp only;rw[zp2 _ _ _ _ e,afo hk]
theorem BK{p:List Key×D}:∀{rs:List fO} {kvs:List (List Key×D)},p∈tab kvs rs->p∈kvs\/∃r∈rs,p.2=r.d
 | [],kvs,h=>by rw[tab]at h;exact .inl h
 | r::rs,kvs,h=>by
  rw[tab]at h;rcases BK h with h | ⟨q,hq,e⟩
  ·cases e:jf kvs (qG r) with
   | some d=>rw[e]at h;exact .inl h
   | none =>
    rw[e]at h;rcases mz.mp h with h | h
    ·exact .inl h
    ·obtain rfl:p=(qG r,r.d):=by simpa using h
     exact .inr ⟨r,by simp,rfl⟩
  ·exact .inr ⟨q,kW _ hq,e⟩
def zt1(rs:List fO)(n:Nat)(st:ak)(h:st[n]? = some (.lst (rs.map fO.d)))(hl:rs.length<=1000):zbz [.loc n] st=.ok 0x2 (st++[.dic (tab [] rs)]):=by
 unfold zbz bF bw zgc;generalize hb:(dF (cz "dict" oR (vr 1) _):MS)=body;have key:∀(l:List fO) (kvs:List (List Key×D)) (a2:Option D),kvs.length+l.length<=1000->∃Vc,cA (aO 2) body [(n,.lst (rs.map fO.d))] (l.map fO.d) [some (.loc n),some 0x2,a2] (st++[.dic kvs])=.ok (.nx [some (.loc n),some 0x2,Vc]) (st++[.dic (tab kvs l)]):=by
  intro l
  induction l with
  | nil=>intro kvs a2 _;exact⟨a2,by rw[m7,cA,afn (by simp[dC h]),tab]⟩
  | cons r l ih =>
   intro kvs a2 hk;rw[g8]at hk;have Dd:kvs.length<1000000:=by omega
   have ks:keysOf [.int r.st,.str [r.c]]=some (qG r):=rfl;rw[gq,cA,afn (by simp[dC h]),zvd,R.aB,tab];rw[show List.set [some (D.loc n),some (D.loc st.length),a2] 2 (some r.d)=[some (.loc n),some 0x2,some r.d] from rfl];cases e:jf kvs (qG r) with
   | some d =>
    obtain⟨Vc,h2⟩:=ih kvs (some r.d) 0x0;refine⟨Vc,?_⟩;have qb:body [some (.loc n),some 0x2,some r.d] (st++[.dic kvs])=.ok (.nx [some (.loc n),some 0x2,some r.d]) (st++[.dic kvs]):=by
     rw[<-hb];simp only[qG]at e;simp[cM,fO.d,aV,qj,z_,oR,Dd,e]
    rw[qb,R.aB];exact h2
   | none =>
    obtain⟨Vc,h2⟩:=ih (kvs++[(qG r,r.d)]) (some r.d) 0x9;refine⟨Vc,?_⟩;have qb:body [some (.loc n),some 0x2,some r.d] (st++[.dic kvs])=.ok (.nx [some (.loc n),some 0x2,some r.d]) (st++[.dic (kvs++[(qG r,r.d)])]):=by
     rw[<-hb];simp only[qG]at e;simp[cM,fO.d,aV,qj,z_,oR,Dd,e,qG]
    rw[qb,R.aB];exact h2
 obtain⟨a2,k1⟩:=key rs [] none (by simpa using hl);rw[show startM 3 [D.loc n]=[some (.loc n),none,none] from rfl];simp[dC h,k1];refine Nx (o:=.dic (tab [] rs)) (λp hp=>?_);rcases BK hp with hp | ⟨r,_,e⟩
 ·exact absurd hp (kh)
 ·rw[e];simp[fO.d]
end Law
namespace Law
open L2 M Tr
def dI(r:Ru):fO:=⟨(r.s:Nat),r.x,r.w,if r.m=true then 108 else 114,(r.g:Nat)⟩
def fG(r:Ru):D:=(dI r).d
def Nv(r:Ru):fG r=.tup [.int r.s,.str [r.x],.str [r.w],.str (Hm r.m),.int r.g]:=by
 unfold fG dI fO.d Hm;cases r.m<;>rfl
def zie(rs:List Ru):(rs.map dI).map fO.d=rs.map fG:=by rw[gJ];rfl
def zsg(B:Bk)(n s c:Nat)(st:ak)(h:st[n]? = some (.dic (tab [] (B.rs.map dI)))):Bd (.loc n) [.tup [.int s,.str [c]]] st=.ok (match Dg B s c with | some r=>fG r | none=>.non) st:=by
 have e:=BJ (s:Nat) c (B.rs.map dI) [];rw[HQ]at e;dsimp only at e;rw[List.find?_map]at e;have e2:(λr=>decide ((dI r).st=(s:Int)/\(dI r).c=c))=λr:Ru=>decide (r.s=s) && decide (r.x=c):=by
  funext r;rw[m8];constructor
  ·intro q;obtain⟨a,b⟩:=afx q;have a':(r.s:Int)=s:=a;have b':r.x=c:=b;rw[gG];exact⟨afs 0x0,afs b'⟩
  ·intro q;rw[gG]at q;have a:=afx q.1;exact afs ⟨by show (r.s:Int)=s;omega,afx q.2⟩
 have e3:B.rs.find? ((λr=>decide (r.st=(s:Int)/\r.c=c))∘dI)=Dg B s c:=by
  unfold Dg;rw[<-e2];rfl
 rw[e3]at e;unfold Bd;have ks:=zmk (s:Nat) c;simp only[h,ks,e];cases Dg B s c<;>rfl
def wN(ls:List Nat):List (List Nat×Tr):=ls.map λc=>([c],bM (bW ls c) ls.length)
def ZF{ls:List Nat}(hn:ls.Nodup){i c:Nat}(h:ls[i]? = some c):bW ls c=i:=by
 have hm:=gU h;have h2:=Ec hm;exact (nG (Hy hm) hn).mp (by rw[h2,h])
def zm6(ls:List Nat)(hn:ls.Nodup)(h:∀c∈ls,Let c)(hl:ls.length<=1000)(st:ak)(hb:Bs st):zbp [.str ls] st=.ok 0x2 (st++[.dkc (aY (wN ls))]):=by
 have ha:=ym h;unfold zbp bF bw zed;generalize hB:(jB (az Ox [] _) _:MS)=B
 let Z:Nat->ak:=λi=>st++[.dkc (aY ((ls.take i).map λc=>([c],bM (bW ls c) ls.length)))]
 obtain⟨cC,st',h1,a2,a3,rfl,rfl⟩:=z8 (g:=tE 2 (dO (aO 2) (dO (aO 3) uQ))) (b:=B) (gs:=[]) (items:=dz 0 (ls.map λc=>D.str [c]))
  (λi env s=>∃(a2 a3:Option D),env=[some (.str ls),some 0x2,a2,a3]/\s=Z i)
  (env:=[some (.str ls),some 0x2,none,none]) (st:=Z 0) ⟨none,none,rfl,rfl⟩ (by
   rintro i d env s hi ⟨a2,a3,rfl,rfl⟩;obtain⟨y,hy,rfl⟩:=zk1 hi;obtain⟨c,hc,rfl⟩:=Hz hy;have Ho:=(gf.mp hc).1;have ei:=ZF hn hc;have Lj:Bs (Z i):=hb.app 0x1;have pk:=zpv i ls.length (Z i) Lj.t1 Lj.c Ho 0x0;have le:cR [.str ls] (Z i)=.ok (.int ls.length) (Z i):=by
    show wZ [.str ls] (Z i)=_;exact zh9 _ ls 0x0
   have sk:=zqk ((ls.take i).map λc=>([c],bM (bW ls c) ls.length)) st.length [c] (bM i ls.length) (Z i) (by simp[Z]) 0x9 (λp hp=>by
    obtain⟨x,hx,rfl⟩:=gh.mp hp;intro e;have:x=c:=by simpa using e
    subst this;obtain⟨j,hj,q⟩:=nj.mp hx;rw[km]at hj;rw[pD]at q;have:ls[j]? = ls[i]?:=by rw[hc,<-q];exact gB 0x0
    have:=(nG 0x0 hn).mp this;omega)
   have e2:(Z i).set st.length (.dkc (aY (((ls.take i).map λc=>([c],bM (bW ls c) ls.length))++[([c],bM i ls.length)])))=Z (i+1):=by
    show (st++_).set _ _=st++_;rw[Oz _ _ _ _ rfl,kJ,hc];simp[ei]
   rw[e2]at sk;refine⟨by simp,[some (.str ls),some 0x2,some (.int i),some (.str [c])],Z i,?_,[some (.str ls),some 0x2,some (.int i),some (.str [c])],Z (i+1),.inl ?_,_,_,rfl,rfl⟩
   ·generalize Z i=Zi;simp
   ·rw[<-hB];exists Z i,Zi,Z (i+1),Zj,enc (bM i ls.length),W;simp[le,pk,sk]) (λ_ _ _=>by simp)
 rw[ZS,gm]at h1;have ez:Z ls.length=st++[.dkc (aY (wN ls))]:=by show _++_=_;rw[kO];rfl
 rw[ez]at h1;have g:=Nx (st:=st) (o:=.dkc (aY (wN ls))) (λp hp=>by
  unfold aY at hp;obtain⟨q,_,rfl⟩:=gh.mp hp;exact jK _ _)
 have e0:Z 0=st++[.dkc []]:=rfl;rw[e0]at h1;have en:v8 #[7,0] [some (.str ls),some 0x2,none,none] (st++[.dkc []])=.ok (dz 0 (ls.map λc=>D.str [c]),[]) (st++[.dkc []]):=by
  rw[Jd];simp only[Qc,Wi,Ff,nT,R.aB];rw[afn ha]
 rw[show startM 4 [D.str ls]=[some (.str ls),none,none,none] from rfl];exists aY (wN ls),Y,v8 #[7,0],EI,dz 0 (ls.map λc=>D.str [c]),X;simp[dkE,en,h1];exact g
end Law
set_option maxHeartbeats 0
namespace Law
open L2 M Tr
abbrev vC(ls:List Nat)(c:Nat):Tr:=bM (bW ls c) ls.length
abbrev Nf:List Nat:=[98,97,114,101]
abbrev Lq:List Nat:=[102,117,108,108]
def Ug(m:Bool)(ls:List Nat)(c:Nat):MO:=.dkc (aY [(Nf,fU m (vC ls 95) (vC ls c)),(Lq,jk m (vC ls c))])
def mvF(m:Bool)(w:Nat):List (PySem.Str×D):=[("plan",enc (bV (cT m) cF)),("written",.loc w),("bare_cost",.int ((iU m+qw m:Nat):Int)),("full_cost",.int ((iU m+oH m:Nat):Int))]
def dJ(st:ak)(n:Nat)(m:Bool)(ls:List Nat):Prop :=
 ∃w W,st[n]? = some (.ins "Move" (mvF m w))/\st[w]? = some (.dkc W)/\∀c∈ls,∃q,valN W (.inr (strOf [c]))=some (.loc q)/\st[q]? = some (Ug m ls c)
def Keeps(st st':ak)(ex:List Nat):Prop:=∀j o,j∉ex->st[j]? = some o->st'[j]? = some o
def Keeps.app(st g:ak):Keeps st (st++g) []:=λ_ _ _ h=>dC h
def dJ.mono{st st':ak}{n:Nat}{m:Bool}{ls:List Nat}(h:dJ st n m ls)(k:Keeps st st' []):dJ st' n m ls:=by
 obtain⟨w,W,h1,h2,h3⟩:=h;refine⟨w,W,k _ _ 0x1 h1,k _ _ 0x1 h2,λc hc=>?_⟩;obtain⟨q,q1,q2⟩:=h3 c hc;exact⟨q,q1,k _ _ 0x1 q2⟩
def Bs.keeps{st st':ak}(h:Bs st){ex:List Nat}(k:Keeps st st' ex)(h1:1∉ex)(h2:2∉ex)(c:bI st'):Bs st':=⟨k _ _ h1 h.t1,k _ _ h2 h.t2,c⟩
def U_(x y:List Nat)(hxy:x≠y)(e1 e2:ME)(v w:Tr)(env:aK)(st:ak)(h1:e1 env (st++[.dkc []])=.ok (enc v) (st++[.dkc []]))(h2:e2 env (st++[.dkc []])=.ok (enc w) (st++[.dkc []])) :
  ie (cU #[2,x] e1 (cU #[2,y] e2 iV)) env st=.ok 0x2 (st++[.dkc (aY [(x,v),(y,w)])]):=by
 have qb:¬ strOf x=strOf y:=λe=>hxy (Ny.mp e);unfold ie;simp[h1,h2,vM,zy,j4,putN,aY,qb]
def aaQ(kvs:List (Key×D))(n:Nat)(s:List Nat)(d:D)(st:ak)(h:st[n]? = some (.dkc kvs))(hl:kvs.length<=10000)(hs:∀p∈kvs,p.1≠.inr (strOf s)):lW (.loc n) (.str s) d st=.ok () (st.set n (.dkc (kvs++[(.inr (strOf s),d)]))):=by
 unfold lW;simp only[h,zy];rw[afn 0x0];congr 3;unfold putN;rw[afo];simp only[pq,afC,not_exists,not_and];exact hs
def HN(ls:List Nat)(f:Nat->D){c:Nat}(h:c∈ls):valN (ls.map λc=>(Sum.inr (strOf [c]),f c)) (.inr (strOf [c]))=some (f c):=by
 induction ls with
 | nil=>cases h
 | cons x l ih =>
  rw[gq,ZV];by_cases e:x=c
  ·rw[afn (by rw[e]),e]
  ·rw[afo (λz=>e (by have:=Ny.mp (afM z);simpa using this))];exact ih ((gj.mp h).resolve_left (afy e))
def zn5{ls:List Nat}(hn:ls.Nodup){i c x:Nat}(hc:ls[i]? = some c)(hx:x∈ls.take i):x≠c:=by
 intro e;subst e;obtain⟨j,hj,q⟩:=nj.mp hx;rw[km]at hj;rw[pD]at q;have:ls[j]? = ls[i]?:=by rw[hc,<-q];exact gB 0x0
 have:=(nG 0x0 hn).mp this;omega
def Kd(m:Bool):lv (bG m)<=100/\lv (bV (bG m) jd)<=1000/\lv (bV (bG m) qx)<=1000/\lv (cT m)<=100/\lv (bV (cT m) cF)<=1000:=by cases m<;>decide +kernel
theorem Ke{f:List Nat->Option Tr}{b:Nat}(hb:1<=b)(h:∀s v,f s=some v->lv v<=b):∀t,lv (sb f t)<=lv t*b
 | .lf s=>by
  rw[sb];cases e:f s with
  | none=>show 1<=1*b;omega
  | some v=>have:=h s v e;show lv v<=1*b;omega
 | .jn l r=>by
  have:=Ke hb h l;have:=Ke hb h r;rw[sb,lv,lv,Nat.add_mul];omega
theorem zpj:∀m,lv (uc m)<=3*m+3
 | 0=>by decide
 | 1=>by decide
 | m+2=>by
  have:=zpj (m+1);rw[uc,lv];have:lv (.jn tS (.jn tK tK))=3:=rfl;omega
def Xm(ls:List Nat)(hl:ls.length<=9)(c:Nat):lv (vC ls c)<=60:=by
 have h1:=zp9 (uc (ls.length - 1 - bW ls c)) (bW ls c);have h2:=zpj (ls.length - 1 - bW ls c);have h3:bW ls c<=ls.length:=List.findIdx_le_length;show lv (cN _ _)<=_;omega
end Law
set_option maxHeartbeats 0
namespace Law
open L2 M Tr
def set_same{st:ak}{n:Nat}{o:MO}(h:st[n]? = some o):st.set n o=st:=by
 apply List.ext_getElem?;intro i;by_cases e:n=i
 ·subst e;rw[h];have:=(gf.mp h).1;simp[this]
 ·rw[gR e]
def gL(m:Bool)(ls:List Nat)(c:Nat):List MO:=[.dkc (aY [([119],vC ls c)]),Ug m ls c]
def vZ(m:Bool)(ls:List Nat)(i:Nat):List MO:=((ls.take i).map (gL m ls)).flatten
def Ln(m:Bool)(ls:List Nat):∀i,i<=ls.length->(vZ m ls i).length=2*i:=λi hi=>by
 unfold vZ;have key:∀l:List Nat,((l.map (gL m ls)).flatten).length=2*l.length:=λl=>by
  induction l with
  | nil=>rfl
  | cons c l ih=>rw[gq,List.flatten_cons,gO,ih];simp[gL];omega
 rw[key,km];omega
def Gs(m:Bool){ls:List Nat}{i c:Nat}(h:ls[i]? = some c):vZ m ls (i+1)=vZ m ls i++gL m ls c:=by
 unfold vZ;rw[kJ,h];simp
def Lp(m:Bool)(ls:List Nat)(i:Nat):bI (vZ m ls i):=by
 unfold vZ;generalize ls.take i=l
 induction l with
 | nil=>simp
 | cons c l ih=>rw[gq,List.flatten_cons];simp[ih,gL,Ug]
def N6(p:Nat)(ls:List Nat)(i:Nat):List (Key×D):=(ls.take i).map λc=>(Sum.inr (strOf [c]),D.loc (p+2*bW ls c))
def zjp(m:Bool)(ls:List Nat)(hn:ls.Nodup)(hL:∀c∈ls,Let c)(hl:ls.length<=9)(h95:95∈ls)(sf nt:Nat)(st:ak)(hb:Bs st)(h1:st[sf]? = some (.ins "Move" []))
  (h2:st[nt]? = some (.dkc (aY (wN ls)))\/st[nt]? = some (.dkf (aY (wN ls)))) :
  ∃st',VB [.loc sf,.str (Hm m),.loc nt] st=.ok .non st'/\Keeps st st' [sf,nt]/\st'[nt]? = some (.dkf (aY (wN ls)))/\dJ st' sf m ls/\bI st'/\st.length<=st'.length:=by
 obtain⟨l1,l2,l3,l4,l5⟩:=Kd m;have RJ:=(gf.mp h1).1;have hnt:nt<st.length:=by rcases h2 with h2 | h2<;>exact (gf.mp h2).1
 have qb:sf≠nt:=λe=>by subst e;rw[h1]at h2;simp at h2
 let A:MO:=.dkc (aY [([97],vC ls 95),([116],tK)])
 let Ng:Tr:=sb (look [([97],vC ls 95),([116],tK)]) (bV (bG m) jd)
 let p1:(PySem.Str×D):=("plan",enc (bV (cT m) cF))
 let p2:(PySem.Str×D):=("written",.loc 0xc)
 let Ba:MO:=.ins "Move" [p1,p2]
 let Yt:MO:=.ins "Move" [p1,p2,("bare_cost",.int ((iU m+qw m:Nat):Int))]
 let K_:MO:=.ins "Move" (mvF m 0xc)
 have b1:Bs (st++[A]):=hb.app (by simp[A])
 let E3:Option D->Option D->aK:=λa6 a7=>[some (.loc sf),some (.str (Hm m)),some (.loc nt),some (enc (bG m)),some (enc Ng),some (enc (bV (bG m) qx)),a6,a7,none]
 have zA:∀x:MO,(st.set sf x).length=st.length:=λx=>by simp
 let S0:ak:=(st.set sf Ba).set nt (.dkf (aY (wN ls)))
 have z0:S0.length=st.length:=by simp[S0]
 let T:Nat->ak:=λi=>S0++A::.dkc (N6 (st.length+3) ls i)::vZ m ls i
 have dk:U9 (vr 2) (E3 none none) (st.set sf Ba++[A,.dkc []])=.ok (ls.map λc=>D.str [c],[]) (T 0):=by
  have kk:=zua ls (vC ls);change (aY (wN ls)).map (λp=>yp p.1)=_ at kk;have e0:(st.set sf Ba++[A,.dkc []]:ak).set nt (.dkf (aY (wN ls)))=T 0:=by
   rw[ZX _ _ _ _ (by rw[zA];exact hnt)];rfl
  have gn:∀o,st[nt]? = some o->(st.set sf Ba++[A,.dkc []]:ak)[nt]? = some o:=λo ho=>by
   rw[gM (by rw[zA];exact hnt),gR qb];exact ho
  unfold U9;simp only[E3,Ff,mQ,nT,R.aB];rcases h2 with h2 | h2
  ·simp only[gn _ h2,e0,kk]
  ·have e1:(st.set sf Ba++[A,.dkc []]:ak)=T 0:=by rw[<-e0,set_same (gn _ h2)]
   simp only[gn _ h2,kk];rw[e1]
 have tsf:∀i,(T i)[sf]? = some Ba:=λi=>by
  rw[gM (by rw[z0];exact RJ),gR (afy qb)];simp[RJ]
 have tnt:∀i,(T i)[nt]? = some (.dkf (aY (wN ls))):=λi=>by
  rw[gM (by rw[z0];exact hnt)];simp[S0,hnt]
 have tw:∀i,(T i)[st.length+1]? = some (.dkc (N6 (st.length+3) ls i)):=λi=>by
  rw[h_ (by rw[z0];omega),z0,show st.length+1 - st.length=1 by omega];rfl
 have n1:sf≠1:=λe=>by rw[e,hb.t1]at h1;cases h1
 have n2:sf≠2:=λe=>by rw[e,hb.t2]at h1;cases h1
 have n3:nt≠1:=λe=>by rw[e,hb.t1]at h2;simp at h2
 have n4:nt≠2:=λe=>by rw[e,hb.t2]at h2;simp at h2
 have bS:Bs S0:=⟨by rw[gR n3,gR n1];exact hb.t1,by rw[gR n4,gR n2];exact hb.t2,Ua (Ua hb.c rfl) rfl⟩;have bT:∀i,Bs (T i):=λi=>bS.app (by simp[Lp,A]);have tl:∀i,i<=ls.length->(T i).length=st.length+2+2*i:=λi hi=>by
  have:=Ln m ls i hi;simp only[T,gO,g8,this,z0];omega
 have lb:lv Ng<=400000:=by
  have:=Ke (f:=look [([97],vC ls 95),([116],tK)]) (b:=60) 0x0 (λs v e=>by
   have:=zir e;simp only[gj,kh,afI,Prod.mk.injEq]at this;rcases this with⟨_,rfl⟩ | ⟨_,rfl⟩
   ·exact Xm ls hl 95
   ·decide) (bV (bG m) jd)
  have h6:lv (bV (bG m) jd)*60<=1000*60:=Nat.mul_le_mul_right 60 l2;show lv (sb _ _)<=_;omega
 unfold VB bF bw zbu;generalize hB:(aC (aG 7 _) _:MS)=B;obtain⟨cC,st',hh,a6,a7,rfl,rfl⟩:=z8 (g:=aO 6) (b:=B) (gs:=[]) (items:=ls.map λc=>D.str [c]) (λi env s=>∃(a6 a7:Option D),env=E3 a6 a7/\s=T i)
  (env:=E3 none none) (st:=T 0) ⟨none,none,rfl,rfl⟩ (by
   rintro i d env s hi ⟨a6,a7,rfl,rfl⟩;obtain⟨c,hc,rfl⟩:=Hz hi;have Ho:=(gf.mp hc).1;have ei:=ZF hn hc
   let P:ak:=T i++[.dkc (aY [([119],vC ls c)])]
   have pl:P.length=st.length+3+2*i:=by simp[P,tl i 0x0];omega
   have bP:Bs (P++[.dkc []]):=((bT i).app 0x1).app 0x1;have gp:(P++[.dkc []])[(T i).length]? = some (.dkc (aY [([119],vC ls c)])):=by simp[P]
   have sk:=aaQ (N6 (st.length+3) ls i) 0xc [c] (.loc P.length) (P++[Ug m ls c]) (dC (dC (tw i))) (by simp[N6];omega) (λp hp=>by
    obtain⟨x,hx,rfl⟩:=gh.mp hp;intro e;have:x=c:=by have:=Ny.mp (afM e);simpa using this
    exact zn5 hn hc hx this)
   have e2:(P++[Ug m ls c]).set 0xc (.dkc (N6 (st.length+3) ls i++[(.inr (strOf [c]),.loc P.length)]))=T (i+1):=by
    have ew:N6 (st.length+3) ls (i+1)=N6 (st.length+3) ls i++[(.inr (strOf [c]),.loc P.length)]:=by
     unfold N6;rw[kJ,hc,pl];simp[ei]
    show (S0++A::_::vZ m ls i++[_]++[_]).set _ _=S0++A::_::vZ m ls (i+1);rw[Gs m hc,ew];simp only[gP,nF,kI,gL];rw[ph,afo (by rw[z0];omega),z0,show st.length+1 - st.length=1 by omega]
    rfl
   rw[e2]at sk;refine⟨by simp,E3 (some (.str [c])) a7,T i,rfl,E3 (some (.str [c])) (some (.loc (T i).length)),T (i+1),.inl ?_,_,_,rfl,rfl⟩;rw[<-hB];exact b_ (Di _ _ (vC ls c) _ _ λs=>aM rfl rfl (Zw (wN ls) nt [c] _ _ (.inr (dC (tnt i))) (ZC (gU hc))))
    (yJ (U_ _ _ 0x5 _ _ (fU m (vC ls 95) (vC ls c)) (jk m (vC ls c)) _ P (bU (zh6 _ Ng _ _ gp bP.t2 bP.c lb) rfl) (bU (zh6 _ (bV (bG m) qx) _ _ gp bP.t2 bP.c 0x0) rfl))
     (ZD (oW rfl (dC (dC (tsf i))) rfl) rfl sk))) (λ_ _ _=>by simp)
 rw[gm]at hh
 let C1:MO:=.lst (aH (dH (cT m) cF))
 let C2:MO:=.lst (aH (dH (bG m) jd))
 let C3:MO:=.lst (aH (dH (bG m) qx))
 have bC1:Bs (T ls.length++[C1]):=(bT _).app (by simp[C1]);obtain⟨m1,m2⟩:=zi1 cF (cT m) (T ls.length) (bT _) 0x5 l4;obtain⟨m3,m4⟩:=zi1 jd (bG m) (T ls.length++[C1]) bC1 0x5 l1;have zE:sf<(T ls.length++[C1]++[C2]).length:=by rw[gO,gO,tl _ (gb _)];omega
 have bC2:Bs ((T ls.length++[C1]++[C2]).set sf Yt):=by
  have b:=bC1.app (g:=[C2]) (by simp[C2]);exact⟨by rw[gR n1];exact b.t1,by rw[gR n2];exact b.t2,Ua b.c rfl⟩
 obtain⟨m5,m6⟩:=zi1 qx (bG m) _ bC2 0x5 l1
 let stE:ak:=(((T ls.length++[C1]++[C2]).set sf Yt)++[C3]).set sf K_
 have hsE:sf<(((T ls.length++[C1]++[C2]).set sf Yt)++[C3]).length:=by
  rw[gO,nu];omega
 have esf:stE[sf]? = some K_:=k_ hsE;have eo:∀j o,j≠sf->(T ls.length)[j]? = some o->stE[j]? = some o:=λj o hj ho=>by
  show ((_:ak).set sf K_)[j]? = _;rw[gR (afy hj)];refine dC ?_;rw[gR (afy hj)];exact dC (dC ho)
 have Gk:∀j,j<st.length->(T ls.length)[j]? = S0[j]?:=λj hj=>by rw[gM (by rw[z0];exact hj)]
 have cE:bI stE:=Ua ((zgj _ _).mpr ⟨bC2.c,by simp[C3]⟩) rfl;have RQ:=yx (st:=st) (st':=stE) (d:=.non) RJ (by rw[esf,h1];simp[K_,mvF]);refine⟨stE,?_,λj o hj ho=>?_,?_,⟨st.length+1,N6 (st.length+3) ls ls.length,esf,?_,λc hc=>?_⟩,cE,?_⟩
 ·have e5:(st.set sf (.ins "Move" [p1])++[A]++[.dkc []]:ak).set sf (.ins "Move" [p1,("written",.loc (st.set sf (.ins "Move" [p1])++[A]).length)])=st.set sf Ba++[A,.dkc []]:=by
   rw[gP,ZX _ _ _ _ (by rw[zA];exact RJ),List.set_set,gO,zA];rfl
  refine U4 (b_ (bU (zm9 m st) rfl) (b_ (bU (xZ _ (bV (bG m) jd) st hb 0x0) (aW (bU (Z7 jd (bG m) st hb.t1 hb.c 0x5 l1) rfl) #[6,(U_ _ _ 0x5 _ _ (vC ls 95) tK _ _ #[0,(Zw (wN ls) nt [95] _ _ (by rcases h2 with h2 | h2;exact .inl (dC h2);exact .inr (dC h2)) (ZC h95))] rfl)]))
   (b_ (bU (Z7 qx (bG m) (st++[A]) b1.t1 b1.c 0x5 l1) rfl)
   (Hu (bU (Z7 cF (cT m) (st++[A]) b1.t1 b1.c 0x5 l4) #[12,(bU (zjl m _) rfl)]) rfl (dC h1) (ZX _ _ _ _ RJ)
   (Hu (fs:=[p1]) rfl rfl (by rw[gP,gM (by rw[zA];exact RJ)];simp[RJ];rfl) e5
   (Hf dk hh (b_ (aM (oZ m2 #[6,(bU m1 #[12,(bU (zjl m _) rfl)])]) rfl (add_int (k:=((iU m:Nat):Int)) (by unfold iU;omega)))
   (Hu (aM rfl (oZ m4 #[6,(bU m3 rfl)]) (Hv rfl)) rfl (dC (dC (tsf _))) rfl
   (zlh (aM (aM rfl (bU (zbx 2 _ 0x0) rfl) (add_int rfl)) (oZ m6 #[6,(bU m5 rfl)]) (add_int (k:=((iU m+oH m:Nat):Int)) (by unfold oH;omega))) rfl (dC (k_ zE)) 0x1))))))))) rfl RQ
 ·simp only[gj,kh,afI,not_or]at hj;have hjl:=(gf.mp ho).1;refine eo j o hj.1 ?_;rw[Gk j hjl,gR (afy hj.2),gR (afy hj.1)];exact ho
 ·exact eo nt _ (afy qb) (tnt _)
 ·exact eo _ _ 0x0 (tw _)
 ·refine⟨st.length+3+2*bW ls c,?_,?_⟩
  ·unfold N6;rw[kO];exact HN ls (λc=>D.loc (st.length+3+2*bW ls c)) hc
  ·refine eo _ _ 0x0 ?_;have hi:=Ec hc;have Ho:=Hy hc;generalize bW ls c=i at hi Ho ⊢;rw[h_ (by rw[z0];omega),z0,show st.length+3+2*i - st.length=(2*i+1)+2 by omega,mQ,mQ];unfold vZ;rw[kO];have key:∀(l:List Nat) (i:Nat),l[i]? = some c->((l.map (gL m ls)).flatten)[2*i+1]? = some (Ug m ls c):=by
    intro l
    induction l with
    | nil=>intro i h;simp at h
    | cons x l ih =>
     intro i h;rw[gq,List.flatten_cons];cases i with
     | zero =>
      obtain rfl:x=c:=by simpa using h
      rfl
     | succ i =>
      rw[h_ (by simp[gL];omega)];have:=ih i (by simpa using h);rw[show 2*(i+1)+1 - (gL m ls x).length=2*i+1 by simp[gL];omega];exact this
   exact key ls i hi
 ·show st.length<=((_:ak).set sf K_).length;rw[nu,gO,nu,gO,gO,tl _ (gb _)];omega
end Law
set_option maxHeartbeats 0
namespace Law
open L2 M Tr
def K5{kvs:List (Key×D)}{n:Nat}{s:List Nat}{d:D}{st:ak}(h:st[n]? = some (.dkc kvs))(hv:valN kvs (.inr (strOf s))=some d):wC (.loc n) (.str s) st=.ok d st:=by
 unfold wC;simp only[h,zy,hv]
def abB{kvs:List (Key×D)}{n:Nat}{i:Int}{d:D}{st:ak}(h:st[n]? = some (.dkc kvs))(hv:valN kvs (.inl i)=some d):wC (.loc n) (.int i) st=.ok d st:=by
 unfold wC;simp only[h,zp8,hv]
def zod(m:Bool)(ls:List Nat)(n:Nat)(st:ak)(hb:Bs st)(h:dJ st n m ls)(c:Nat)(hc:c∈ls)(way:Tr):zew [.loc n,.str [c],enc way] st=.ok (enc (rH m (vC ls 95) (vC ls c) way)) st:=by
 obtain⟨w,W,h1,h2,h3⟩:=h;obtain⟨q,q1,q2⟩:=h3 c hc
 let σ:List (List Nat×Tr):=[(Nf,fU m (vC ls 95) (vC ls c)),(Lq,jk m (vC ls c))]
 have dc:uq [.loc q] st=.ok 0x2 (st++[.dkc (aY σ)]):=by
  unfold uq;simp only[q2,Ug];rfl
 have sk:=zqk σ st.length [103] way (st++[.dkc (aY σ)]) 0x1 (by simp[σ]) (by simp[σ,Nf,Lq]);rw[Oz _ _ _ _ rfl]at sk;exact bf (b_ (oZ dc #[27,(oW rfl h1 rfl),(K5 h2 q1)]) (yd rfl (ZD rfl rfl sk) (fB (bU (xZ _ (bV (cT m) cF) st hb (by have:=(Kd m).2.2.2.2;omega)) #[6,(oW rfl (dC h1) rfl)])))) rfl (sZ (jK _ _))
def Ih(ls:List Nat)(f:Nat->Tr)(n c:Nat)(v:Tr)(st:ak)(h:st[n]? = some (.dkc (aY (ls.map λc=>([c],f c)))))(hc:c∈ls)(hl:ls.length<=1000):lW (.loc n) (.str [c]) (enc v) st=.ok () (st.set n (.dkc (aY (ls.map λx=>([x],if x=c then v else f x))))):=by
 unfold lW;simp only[h,zy];rw[afn (by simp[aY];omega)];congr 3;unfold putN;rw[afn]
 ·unfold aY;rw[gJ,gJ,gJ];refine kE λx _=>?_;simp only[Function.comp];by_cases e:x=c
  ·rw[afn (by rw[e]),afn e]
  ·rw[afo (λz=>e (by have:=Ny.mp (afM z);simpa using this)),afo e]
 ·simp only[aY,pq,afC];exact⟨(.inr (strOf [c]),enc (f c)),by
   rw[gJ];exact gh.mpr ⟨c,hc,rfl⟩,rfl⟩
def Ej(ss:List Nat)(f:Nat->D){s:Nat}(h:s∈ss):valN (ss.map λ(s:Nat)=>(Sum.inl (s:Int),f s)) (.inl (s:Int))=some (f s):=by
 induction ss with
 | nil=>cases h
 | cons x l ih =>
  rw[gq,ZV];by_cases e:x=s
  ·rw[afn (by rw[e]),e]
  ·rw[afo (λz=>e (by have:=Sum.inl.inj z;omega))];exact ih ((gj.mp h).resolve_left (afy e))
structure TV(st:ak)(b:Nat)(B:Bk)(fs:List (PySem.Str×D))(ns nk nt nm ml mr:Nat):Prop where
 o:st[b]? = some (.ins "Book" fs)
 f1:fs.lookup ("letters":PySem.Str)=some (D.str B.ls)
 f2:fs.lookup ("states":PySem.Str)=some (D.loc ns)
 f3:fs.lookup ("by_key":PySem.Str)=some (D.loc nk)
 f4:fs.lookup ("sign_trees":PySem.Str)=some (D.loc nt)
 f5:fs.lookup ("moves":PySem.Str)=some (D.loc nm)
 f6:fs.lookup ("start_cost":PySem.Str)=some (D.int (rF B.ls:Nat))
 s:st[ns]? = some (.lst 0x1e)
 k:st[nk]? = some (.dic (tab [] (B.rs.map dI)))
 t:st[nt]? = some (.dkf (aY (wN B.ls)))
 m:st[nm]? = some (.dkc [(.inr (strOf [108]),.loc ml),(.inr (strOf [114]),.loc mr)])
 l:dJ st ml true B.ls
 r:dJ st mr false B.ls
def TV.mono{st st':ak}{b:Nat}{B:Bk}{fs:List (PySem.Str×D)}{ns nk nt nm ml mr:Nat}(h:TV st b B fs ns nk nt nm ml mr)(k:Keeps st st' []):TV st' b B fs ns nk nt nm ml mr :=
 ⟨k _ _ 0x1 h.o,h.f1,h.f2,h.f3,h.f4,h.f5,h.f6,k _ _ 0x1 h.s,k _ _ 0x1 h.k,k _ _ 0x1 h.t,k _ _ 0x1 h.m,h.l.mono k,h.r.mono k⟩
def TV.mv{st:ak}{b:Nat}{B:Bk}{fs:List (PySem.Str×D)}{ns nk nt nm ml mr:Nat}(h:TV st b B fs ns nk nt nm ml mr)(m:Bool):∃mo,dJ st mo m B.ls/\wC (.loc nm) (.str (Hm m)) st=.ok (.loc mo) st:=by
 cases m with
 | true=>exact⟨ml,h.l,K5 h.m rfl⟩
 | false=>exact⟨mr,h.r,K5 h.m (by
  have ne:¬ strOf [108]=strOf (Hm false):=λe=>by have:=Ny.mp e;simp[Hm]at this
  rw[ZV,afo (λe=>ne (afM e)),ZV];exact afn rfl)⟩
structure Ac(B:Bk):Prop where
 ok:Nq B
 wY:∀c∈B.ls,Let c
 few:B.ls.length<=9
 x:∀r∈B.rs,r.x∈B.ls
 ss:B.ss.length<=512
 s0:0<B.ss.length
 rs:B.rs.length<=1000
def aaw(B:Bk):List (Key×D):=B.ss.map λ(s:Nat)=>(Sum.inl (s:Int),enc (jM (jg B s)))
def zrm(B:Bk)(hB:Ac B)(b:Nat)(fs:List (PySem.Str×D))(ns nk nt nm ml mr s ne nw:Nat)(st:ak)(hb:Bs st)(hk:TV st b B fs ns nk nt nm ml mr)
  (he:st[ne]? = some (.dkc (aY (B.ls.map λc=>([c],ju (dD B c)))))) (hw:st[nw]? = some (.dkc (aaw B))) :
  zd7 [.loc b,.int s,.loc ne,.loc nw] st=.ok 0x2 (st++[.dkc 0x2a]):=by
 have dc:uq [.loc ne] st=.ok 0x2 (st++[.dkc (aY (B.ls.map λc=>([c],ju (dD B c))))]):=by
  unfold uq;simp only[he]
 have ha:=ym hB.wY
 let mx:Nat->Nat->Tr:=λi c=>if bW B.ls c<i then cu B s c else ju (dD B c)
 let Z:Nat->ak:=λi=>st++[.dkc (aY (B.ls.map λc=>([c],mx i c)))]
 have z0:st++[.dkc (aY (B.ls.map λc=>([c],ju (dD B c))))]=Z 0:=by
  show _=st++[MO.dkc (aY (B.ls.map λc=>([c],mx 0 c)))];have:(λc=>([c],ju (dD B c)))=λc=>([c],mx 0 c):=by funext c;simp[mx]
  rw[this]
 rw[z0]at dc;have zn:Z B.ls.length=st++[.dkc 0x2a]:=by
  show st++[MO.dkc (aY (B.ls.map λc=>([c],mx B.ls.length c)))]=_;have:(B.ls.map λc=>([c],mx B.ls.length c))=B.ls.map λc=>([c],cu B s c):=kE λc hc=>by simp[mx,Hy hc]
  rw[this]
 have kz:∀i,Keeps st (Z i) []:=λi=>Keeps.app st _;have bz:∀i,Bs (Z i):=λi=>hb.app 0x1
 let E:Option D->Option D->aK:=λa5 a6=>[some (.loc b),some (.int s),some (.loc ne),some (.loc nw),some 0x2,a5,a6]
 unfold zd7 bF bw zjh;generalize Oj:(aC (aG 6 _) _:MS)=BD;obtain⟨cC,st',hh,a5,a6,rfl,rfl⟩:=z8 (g:=aO 5) (b:=BD) (gs:=[]) (items:=B.ls.map λc=>D.str [c]) (λi env s=>∃(a5 a6:Option D),env=E a5 a6/\s=Z i)
  (env:=E none none) (st:=Z 0) ⟨none,none,rfl,rfl⟩ (by
   rintro i d env s' hi ⟨a5,a6,rfl,rfl⟩;obtain⟨c,hc,rfl⟩:=Hz hi;have Ho:=(gf.mp hc).1;have Hq:=gU hc;have ei:=ZF hB.ok.nl hc;have hz:=hk.mono (kz i);have gk:=zsg B nk s c (Z i) hz.k;have ty:cM "dict" (.loc nk) (Z i)=true:=by simp[cM,hz.k]
   have mxs:(B.ls.map λx=>([x],if x=c then cu B s c else mx i x))=B.ls.map λx=>([x],mx (i+1) x):=kE λx hx=>by
    by_cases e:x=c
    ·subst e;simp[mx,ei]
    ·have:bW B.ls x≠i:=λq=>e (by
      have h1:=Ec hx;rw[q,hc]at h1;exact (afr h1).symm)
     rw[afo e];show ([x],mx i x)=([x],mx (i+1) x);have:(bW B.ls x<i)=(bW B.ls x<i+1):=by rw[eq_iff_iff];omega
     simp only[mx,this]
   cases hf:Dg B s c with
   | none =>
    rw[hf]at gk;dsimp only at gk;have same:Z i=Z (i+1):=by
     show st++[MO.dkc (aY (B.ls.map λc=>([c],mx i c)))]=st++[MO.dkc (aY (B.ls.map λc=>([c],mx (i+1) c)))];rw[<-mxs];have:(B.ls.map λx=>([x],if x=c then cu B s c else mx i x))=B.ls.map λx=>([x],mx i x):=kE λx hx=>by
      by_cases e:x=c
      ·subst e;rw[afn rfl];have hd:cu B s x=ju (dD B x):=by unfold cu;rw[hf]
       simp[mx,ei,hd]
      ·rw[afo e]
     rw[this]
    refine⟨by simp,E (some (.str [c])) a6,Z i,rfl,E (some (.str [c])) (some .non),Z (i+1),.inl ?_,_,_,rfl,rfl⟩;rw[<-Oj,<-same];exact b_ (sX (oW rfl hz.o hz.f3) ty #[6,(tu rfl)] gk) (Ow 0x10)
   | some r =>
    rw[hf]at gk;dsimp only at gk;have hr:=hB.ok.ru r (nM hf);have hd:cu B s c=rH r.m (dD B 95) (dD B r.w) (jM (jg B r.g)):=by unfold cu;rw[hf]
    obtain⟨mo,hmo,ixm⟩:=hz.mv r.m;have aed:=hmo;obtain⟨w,W,o1,_,_⟩:=aed;have md:=zod r.m B.ls mo (Z i) (bz i) hmo r.w hr.2 (jM (jg B r.g));rw[show rH r.m (vC B.ls 95) (vC B.ls r.w) (jM (jg B r.g))=cu B s c from hd.symm]at md;rw[Nv]at gk;have sk:=Ih B.ls (mx i) st.length c (cu B s c) (Z i) (by simp[Z]) Hq (by have:=hB.few;omega);rw[mxs]at sk;rw[show (Z i).set st.length _=Z (i+1) from Oz _ _ _ _ rfl]at sk;refine⟨by simp,E (some (.str [c])) a6,Z i,rfl,E (some (.str [c])) (some (fG r)),Z (i+1),.inl ?_,_,_,rfl,rfl⟩;rw[<-Oj,Nv];exact b_ (sX (oW rfl hz.o hz.f3) ty #[6,(tu rfl)] gk) (qP 0x10
     (yJ (J_ (aM (oW rfl hz.o hz.f5) #[0,dR] ixm) o1 (aW #[0,dR] #[6,(aM rfl #[0,dR] (abB (kz i _ _ 0x1 hw) (Ej B.ss (λs=>enc (jM (jg B s))) hr.1)))]) o1 md) (ZD rfl rfl sk)))) (λ_ _ _=>by simp)
 rw[gm]at hh;have g:=Nx (st:=st) (o:=.dkc 0x2a) (λp hp=>by
  unfold aY at hp;obtain⟨q,_,rfl⟩:=gh.mp hp;exact jK _ _)
 rw[<-zn]at g ⊢;exact bf (b_ (oZ dc rfl) (Hf (zto (oW rfl (hk.mono (kz 0)).o hk.f1) ha) hh (fB rfl))) rfl g
end Law
set_option maxHeartbeats 0
namespace Law
open L2 M Tr
def aaP(kvs:List (Key×D))(n:Nat)(i:Int)(d:D)(st:ak)(h:st[n]? = some (.dkc kvs))(hl:kvs.length<=10000)(hs:∀p∈kvs,p.1≠.inl i):lW (.loc n) (.int i) d st=.ok () (st.set n (.dkc (kvs++[(.inl i,d)]))):=by
 unfold lW;simp only[h,zp8];rw[afn 0x0];congr 3;unfold putN;rw[afo];simp only[pq,afC,not_exists,not_and];exact hs
def zp3(ss:List Nat)(n:Nat)(st:ak)(m:ME)(env:aK)(hm:m env st=.ok (.loc n) st)(h:st[n]? = some (.lst (ss.map λs=>D.int (s:Nat)))) :
  v9 (aj m au) env st=.ok (dz 0 (ss.map λs=>D.int (s:Nat)),[(n,.lst (ss.map λs=>D.int (s:Nat)))]) st:=by
 exists (ss.map λs=>D.int (s:Nat)),X;simp[hm,tZ,h]
def Tq(st:ak)(A B:MO)(ds:List D)(G:ak)(d:D)(h:ds.length<1000):aR (.loc (st.length+2)) [d] (st++A::B::.lst ds::G)=.ok .non (st++A::B::.lst (ds++[d])::G):=by
 have e:(st++A::B::.lst ds::G)[st.length+2]? = some (.lst ds):=qN (k:=2) rfl;have e2:(st++A::B::.lst ds::G).set (st.length+2) (.lst (ds++[d]))=st++A::B::.lst (ds++[d])::G:=by
  rw[ph,afo 0x0,show st.length+2 - st.length=2 by omega];rfl
 unfold aR;dsimp only;rw[e];dsimp only;rw[afn 0x0,e2]
def zu3(B:Bk)(hB:Ac B)(b:Nat)(fs:List (PySem.Str×D))(ns nk nt nm ml mr:Nat)(st:ak)(hb:Bs st)(hk:TV st b B fs ns nk nt nm ml mr) :
  ze9 [.loc b] st=.ok 0x2 (st++[.lst ((B.ss.map (iH B)).map enc)]):=by
 have hss:=hB.ss;have zF:=hB.few;have ha:=ym hB.wY
 let EN:MO:=.dkc (aY (B.ls.map λc=>([c],ju (dD B c))))
 let WY:MO:=.dkc (aaw B)
 let PL:D:=enc (bV (cI B.ls) eG)
 unfold ze9 bF bw zkh;generalize hB1:(jB (az zc2 _ _) _:MS)=B1;generalize hB2:(jB (az zgs _ _) _:MS)=B2;generalize hB3:(dF _:MS)=B3
 let E:Option D->Option D->Option D->Option D->Option D->aK:=λa4 a5 a6 a7 a8=>[some (.loc b),some (.int (B.ss.length:Nat)),some PL,some 0x2,a4,a5,a6,a7,a8]

 let Z:Nat->ak:=λi=>st++[.dkc (aY ((B.ls.take i).map λc=>([c],ju (dD B c))))]
 have hz:=λi=>hk.mono (Keeps.app st [.dkc (aY ((B.ls.take i).map λc=>([c],ju (dD B c))))]);obtain⟨cC,st',h1,a4,rfl,rfl⟩:=z8 (g:=aO 4) (b:=B1) (gs:=[]) (items:=B.ls.map λc=>D.str [c]) (λi env s=>∃(a4:Option D),env=E a4 none none none none/\s=Z i)
  (env:=E none none none none none) (st:=Z 0) ⟨none,rfl,rfl⟩ (by
   rintro i d env s hi ⟨a4,rfl,rfl⟩;obtain⟨c,hc,rfl⟩:=Hz hi;have sk:=zqk ((B.ls.take i).map λc=>([c],ju (dD B c))) st.length [c] (ju (dD B c)) (Z i) (by simp[Z]) 0x9 (λp hp=>by
    obtain⟨x,hx,rfl⟩:=gh.mp hp;intro e;exact zn5 hB.ok.nl hc hx (by simpa using e))
   have es:(Z i).set st.length (.dkc (aY (((B.ls.take i).map λc=>([c],ju (dD B c)))++[([c],ju (dD B c))])))=Z (i+1):=by
    show (st++_).set _ _=st++_;rw[Oz _ _ _ _ rfl,kJ,hc];simp
   rw[es]at sk;refine⟨by simp,E (some (.str [c])) none none none none,Z i,rfl,_,Z (i+1),.inl ?_,some (.str [c]),rfl,rfl⟩;rw[<-hB1];exact yJ (bU (zq0 (dD B c) (Z i) (hb.app 0x1)) #[27,(oW rfl (hz i).o hk.f4),(Zw (wN B.ls) nt [c] _ (Z i) (.inr (hz i).t) (ZC (gU hc)))]) (ZD rfl rfl sk)) (λ_ _ _=>by simp)
 rw[gm]at h1;rw[show Z B.ls.length=st++[EN] by show st++_=_;rw[kO]]at h1

 have Lj:Bs (st++[EN]):=hb.app (by simp[EN]);have Dd:=hk.mono (Keeps.app st [EN]);have l1:(st++[EN]).length=st.length+1:=by simp
 let wy:Nat->Key×D:=λ(s:Nat)=>(Sum.inl (s:Int),enc (jM (jg B s)))
 let Y:Nat->ak:=λi=>st++[EN]++[.dkc ((B.ss.take i).map wy)]
 have hy:=λi=>Dd.mono (Keeps.app (st++[EN]) [.dkc ((B.ss.take i).map wy)]);obtain⟨cC,st',h2,a6,a7,rfl,rfl⟩:=z8 (g:=tE 2 (dO (aO 6) (dO (aO 7) uQ))) (b:=B2) (gs:=[(ns,.lst 0x1e)]) (items:=dz 0 0x1e) (λi env s=>∃(a6 a7:Option D),env=E a4 (some (.loc (st++[EN]).length)) a6 a7 none/\s=Y i)
  (env:=E a4 (some (.loc (st++[EN]).length)) none none none) (st:=Y 0) ⟨none,none,rfl,rfl⟩ (by
   rintro i d env s' hi ⟨a6,a7,rfl,rfl⟩;obtain⟨y,Yx,rfl⟩:=zk1 hi;obtain⟨s,hs,rfl⟩:=Hz Yx;have Ho:=(gf.mp hs).1;have wt:=Eh i B.ss.length (Y i) (Lj.app 0x1) Ho 0x0;rw[show bQ 13 i B.ss.length=jg B s by unfold jg;rw[ZF hB.ok.ns hs]]at wt;have sk:=aaP ((B.ss.take i).map wy) (st++[EN]).length (s:Nat) (enc (jM (jg B s))) (Y i) (by simp[Y]) 0x9 (λp hp=>by
    obtain⟨x,hx,rfl⟩:=gh.mp hp;intro e;have:=Sum.inl.inj e;exact zn5 hB.ok.ns hs hx 0x0)
   rw[show (Y i).set (st++[EN]).length (.dkc ((B.ss.take i).map wy++[(.inl (s:Nat),enc (jM (jg B s)))]))=Y (i+1) by
    show (st++[EN]++_).set _ _=st++[EN]++_;rw[Oz _ _ _ _ rfl,kJ,hs];simp[wy]]at sk
   refine⟨yX (hy i).s,E a4 (some (.loc (st++[EN]).length)) #[10,i] #[10,s] none,Y i,rfl,_,Y (i+1),.inl ?_,some (.int i),some (.int s),rfl,rfl⟩;rw[<-hB2];exact yJ (bU wt rfl) (ZD rfl rfl sk)) (λ_ _ h=>by obtain⟨_,_,_,rfl⟩:=h;exact yX (hy _).s)
 rw[ZS,gm]at h2;rw[show Y B.ss.length=st++[EN]++[WY] by show st++[EN]++_=_;rw[kO];rfl]at h2

 let E5:Option D->Option D->aK:=λa6 a7=>E a4 (some (.loc (st++[EN]).length)) a6 a7 (some (.loc (st++[EN]++[WY]).length))
 let S:Nat->ak->ak:=λi G=>st++EN::WY::.lst (((B.ss.take i).map (iH B)).map enc)::G
 have hS:=λi G=>hk.mono (Keeps.app st (EN::WY::.lst (((B.ss.take i).map (iH B)).map enc)::G));have l2:(st++[EN]++[WY]).length=st.length+2:=by simp
 obtain⟨cC,st',h3,a6',a7',G,hG,rfl,rfl⟩:=z8 (g:=tE 2 (dO (aO 6) (dO (aO 7) uQ))) (b:=B3) (gs:=[(ns,.lst 0x1e)]) (items:=dz 0 0x1e) (λi env s=>∃(a6 a7:Option D) (G:ak),bI G/\env=E5 a6 a7/\s=S i G)
  (env:=E5 a6 a7) (st:=S 0 []) ⟨a6,a7,[],by simp,rfl,rfl⟩ (by
   rintro i d env s' hi ⟨a6,a7,G,hG,rfl,rfl⟩;obtain⟨y,Yx,rfl⟩:=zk1 hi;obtain⟨s,hs,rfl⟩:=Hz Yx;have Ho:=(gf.mp hs).1;have bz:Bs (S i G):=hb.app (by simp[EN,WY,hG]);have pk:=zpv i B.ss.length (S i G) bz.t1 bz.c Ho 0x0;rw[show bM i B.ss.length=wQ B s by unfold wQ;rw[ZF hB.ok.ns hs]]at pk
   let DK:ak:=[.dkc 0x2a]
   have ro:=Fd B.ls hB.ok.nl hB.wY hB.few (bV (cI B.ls) eG) (wQ B s) (cu B s) (S i G).length (S i G++DK) (bz.app (by simp[DK])) (by simp[DK]) (by rw[(Wd B.ls hB.few).2.2];omega);rw[Oz _ _ _ _ rfl]at ro
   let G':ak:=G++[.dkf 0x2a]++[.dkc (aY (([110],wQ B s)::B.ls.map λc=>(dn c,cu B s c)))]
   rw[show S i G++[.dkf 0x2a]++[.dkc (aY (([110],wQ B s)::B.ls.map λc=>(dn c,cu B s c)))]=S i G' by
    show st++EN::WY::_::G++_++_=st++EN::WY::_::G';simp only[G',gP,nF]]at ro
   have ap:=Tq st EN WY (((B.ss.take i).map (iH B)).map enc) G' (enc (iH B s)) 0x9;rw[show st++EN::WY::.lst (((B.ss.take i).map (iH B)).map enc++[enc (iH B s)])::G'=S (i+1) G' by
    show _=st++EN::WY::.lst (((B.ss.take (i+1)).map (iH B)).map enc)::G';rw[kJ,hs];simp,<-l2]at ap
   refine⟨yX (hS i G).s,E5 #[10,i] #[10,s],S i G,rfl,_,S (i+1) G',.inl ?_,some (.int i),some (.int s),G',by simp[G',hG],rfl,rfl⟩;rw[<-hB3];exact yR (sX rfl (by simp[cM,S]) #[6,(bU ro (aW rfl (aW (bU pk rfl) (aW (bU (zrm B hB b fs ns nk nt nm ml mr s st.length _ (S i G) bz (hS i G) 0x15 (qN (k:=1) rfl l1)) rfl) rfl))))] ap)) (λ_ _ h=>by obtain⟨_,_,G,_,_,rfl⟩:=h;exact yX (hS _ G).s)
 rw[ZS,gm]at h3;have ln:=DY (st:=st) (n:=ns) (ds:=B.ss.map λs=>D.int (s:Nat)) (by unfold aA;rw[hk.s]);rw[gm]at ln;have g:=Vg (st:=st) (g:=[EN,WY]) (g':=G) (o:=.lst ((B.ss.map (iH B)).map enc)) (by
  show bY _ _;generalize B.ss.map (iH B)=ts
  induction ts with
  | nil=>simp
  | cons t ts ih=>simp[ih,jK])
 have eS:S B.ss.length G=st++[EN,WY]++.lst ((B.ss.map (iH B)).map enc)::G:=by
  show st++EN::WY::.lst (((B.ss.take B.ss.length).map (iH B)).map enc)::G=_;rw[kO];simp
 rw[<-eS,show st.length+[EN,WY].length=(st++[EN]++[WY]).length from l2.symm]at g;have e3:st++[EN]++[WY]++[.lst []]=S 0 []:=by show _=st++EN::WY::.lst []::[];simp
 exact bf (b_ (oZ ln #[6,(oW rfl hk.o hk.f2)]) (b_ (bU (zrk B.ls st hb hB.wY hB.few) #[6,(oW rfl hk.o hk.f1)]) (b_ rfl (Hf (zto (oW rfl (hz 0).o hk.f1) ha) h1 (b_ rfl
  (Hf (zp3 B.ss ns (Y 0) _ _ (oW rfl (hy 0).o hk.f2) (hy 0).s) h2 (b_ (st1:=S 0 []) (by rw[<-e3];rfl) (Hf (zp3 B.ss ns (S 0 []) _ _ (oW rfl (hS _ _).o hk.f2) (hS _ _).s) h3 (fB rfl))))))))) rfl g
end Law
set_option maxHeartbeats 0
namespace Law
open L2 M Tr
def Keeps.trans{a b c:ak}{ex:List Nat}(h:Keeps a b ex)(k:Keeps b c ex):Keeps a c ex:=λj o hj ho=>k j o hj (h j o hj ho)
def Keeps.more{a b:ak}{ex:List Nat}(h:Keeps a b []):Keeps a b ex:=λj o _ ho=>h j o 0x1 ho
def Keeps.set(a:ak)(n:Nat)(o:MO):Keeps a (a.set n o) [n]:=λj x hj hx=>by
 rw[gR (λe=>hj (by simp[e]))];exact hx
def Keeps.refl(a:ak)(ex:List Nat):Keeps a a ex:=λ_ _ _ h=>h
def rT{c:PySem.Str}{X X1:ak}{sf:Nat}{fs:List (PySem.Str×D)}(yU:List (PySem.Str×D))(h:X1[sf]? = some (.ins c fs))(k:Keeps X X1 [sf])(hc:bI X1) :
  ∃X2,X1.set sf (.ins c yU)=X2/\X2[sf]? = some (.ins c yU)/\Keeps X X2 [sf]/\Keeps X1 X2 [sf]/\X2.length=X1.length/\bI X2 :=
 ⟨_,rfl,k_ (gf.mp h).1,k.trans (Keeps.set _ _ _),Keeps.set _ _ _,nu,Ua hc rfl⟩
def CJ{c:PySem.Str}{F:FD}{mA:MA}{env:aK}{X X1:ak}{as:List D}(ha:mA env X=.ok as X)(hf:F (.loc X.length::as) (X++[.ins c []])=.ok .non X1):jO c F mA env X=.ok (.loc X.length) X1:=by
 unfold jO;rw[ha,R.aB,hf];rfl
def dJ.keeps{st st':ak}{n p:Nat}{m:Bool}{ls:List Nat}{o:MO}(h:dJ st n m ls)(k:Keeps st st' [p])(ho:st[p]? = some o)(hb:95∈ls)(h1:∀fs,o≠.ins "Move" fs)(h2:∀W,o=.dkc W->W=[]):dJ st' n m ls:=by
 obtain⟨w,W,q1,q2,q3⟩:=h;have kk:∀j x,st[j]? = some x->x≠o->st'[j]? = some x:=λj x hj hx=>k _ _ (λhm=>by obtain rfl:=gY.mp hm;rw[ho]at hj;cases hj;exact hx rfl) hj;refine⟨w,W,kk _ _ q1 (λe=>h1 _ e.symm),kk _ _ q2 (λe=>?_),λc hc=>?_⟩
 ·obtain⟨q,z,_⟩:=q3 95 hb;rw[h2 _ e.symm]at z;cases z
 ·obtain⟨q,z1,z2⟩:=q3 c hc;exact⟨q,z1,kk _ _ z2 (λe=>by have:=h2 _ e.symm;simp[aY]at this)⟩
def dJ.book{st st':ak}{n sf:Nat}{m:Bool}{ls:List Nat}{fs:List (PySem.Str×D)}(h:dJ st n m ls)(k:Keeps st st' [sf])(ho:st[sf]? = some (.ins "Book" fs))(hb:95∈ls):dJ st' n m ls :=
 h.keeps k ho hb (λ_ e=>by injection e with e _;exact absurd e 0x8) (λ_ e=>by cases e)
def J8(B:Bk)(hB:Ac B)(nt:Nat)(fe:ME)(env:aK)(X:ak)(hb:Bs X)(hfe:∀Z,Keeps X Z [nt]->fe env Z=.ok (.loc nt) Z)(ht:X[nt]? = some (.dkc (aY (wN B.ls)))) :
  ∃X1 ml mr,ie (cU #[2,[108]] (jO "Move" VB #[4,#[2,[108]],fe]) (cU #[2,[114]] (jO "Move" VB #[4,#[2,[114]],fe]) iV)) env X=.ok (.loc X.length) X1 /\
   Keeps X X1 [nt]/\X1[nt]? = some (.dkf (aY (wN B.ls)))/\X1[X.length]? = some (.dkc [(.inr (strOf [108]),.loc ml),(.inr (strOf [114]),.loc mr)])/\dJ X1 ml true B.ls/\dJ X1 mr false B.ls/\bI X1/\X.length<X1.length:=by
 have hnt:=(gf.mp ht).1
 let Y0:ak:=X++[.dkc []]
 have y0l:Y0.length=X.length+1:=by simp[Y0]
 have b0:Bs (Y0++[.ins "Move" []]):=(hb.app 0x1).app (by simp;rfl);obtain⟨Y1,i1,k1,t1,m1,c1,l1⟩:=zjp true B.ls hB.ok.nl hB.wY hB.few hB.ok.bl Y0.length nt (Y0++[.ins "Move" []]) b0 0x1 (.inl (dC (dC ht)));have kX1:Keeps X Y1 [nt]:=λj o hj h=>k1 j o (by
  have:=(gf.mp h).1;simp only[gj,kh,afI,not_or]at hj ⊢;exact⟨by omega,hj⟩) (dC (dC h))
 have e1:=CJ (c:="Move") (mA:=aj #[2,[108]] (aj fe au)) (env:=env) #[12,(hfe Y0 (Keeps.app X _).more)] i1;have p0:Y1[X.length]? = some (.dkc []):=k1 _ _ (by
  simp only[gj,kh,afI,not_or];exact⟨by omega,by omega⟩) (dC (by simp[Y0]))
 have y1l:X.length+1<Y1.length:=by
  have:(Y0++[.ins "Move" []]:ak).length=X.length+2:=(by simp[Y0]);omega
 have n1:nt≠1:=λe=>by rw[e,hb.t1]at ht;cases ht
 have n2:nt≠2:=λe=>by rw[e,hb.t2]at ht;cases ht
 have bY1:Bs Y1:=⟨kX1 _ _ (by simpa using afy n1) hb.t1,kX1 _ _ (by simpa using afy n2) hb.t2,c1⟩;obtain⟨Y2,i2,k2,t2,m2,c2,l2⟩:=zjp false B.ls hB.ok.nl hB.wY hB.few hB.ok.bl Y1.length nt (Y1++[.ins "Move" []]) (bY1.app (by simp;rfl)) 0x1 (.inr (dC t1));have e2:=CJ (c:="Move") (mA:=aj #[2,[114]] (aj fe au)) (env:=env) #[12,(hfe Y1 kX1)] i2;have k12:Keeps Y1 Y2 []:=λj o _ h=>by
  by_cases e:j=nt
  ·subst e;rw[t1]at h;cases h;exact t2
  ·refine k2 j o ?_ (dC h);have:=(gf.mp h).1;simp only[gj,kh,afI,not_or];exact⟨by omega,e⟩
 have p1:Y2[X.length]? = some (.dkc []):=k12 _ _ 0x1 p0;have RG:=(gf.mp p1).1
 let KV:MO:=.dkc [(.inr (strOf [108]),.loc Y0.length),(.inr (strOf [114]),.loc Y1.length)]
 have ks:=Keeps.set Y2 X.length KV;refine⟨Y2.set X.length KV,Y0.length,Y1.length,?_,?_,?_,k_ RG,?_,?_,Ua c2 rfl,by rw[nu];exact RG⟩
 ·have RN:¬ strOf [108]=strOf [114]:=λe=>by have:=Ny.mp e;simp at this
  unfold ie;change ((cU _ _ _:TQ) env Y0).bind _=_;rw[zs7,aaZ,R.aB,e1,R.aB,zs7,aaZ,R.aB,e2];simp only[Qa,R.aB];rw[show vM [(D.str [108],D.loc Y0.length),(D.str [114],D.loc Y1.length)]=some [(.inr (strOf [108]),.loc Y0.length),(.inr (strOf [114]),.loc Y1.length)] from rfl,p1];simp[j4,putN,RN,KV]
 ·exact λj o hj h=>by
   have:=(gf.mp h).1;rw[gR 0x0];exact k12 _ _ 0x1 (kX1 j o hj h)
 ·rw[gR 0x0];exact t2
 ·exact m1.keeps (k12.more.trans ks) p0 hB.ok.bl (λ_=>by simp) (λW e=>by cases e;rfl)
 ·exact m2.keeps ks p1 hB.ok.bl (λ_=>by simp) (λW e=>by cases e;rfl)
theorem zqn:∀{t u:Tr},enc t=enc u->t=u
 | .lf s,.lf t,h=>by
  rw[enc,enc]at h;injection h with h;rw[h]
 | .lf s,.jn l r,h=>by rw[enc,enc]at h;cases h
 | .jn l r,.lf s,h=>by rw[enc,enc]at h;cases h
 | .jn l r,.jn l' r',h=>by
  rw[enc,enc]at h;injection h with h;injection h with h1 h2;injection h2 with h2 h3;rw[zqn h1,zqn h2]
open Classical in
noncomputable def zu(f:Tr->Tr):D->D:=λd=>if h:∃t,enc t=d then enc (f h.choose) else d
def zkx(f:Tr->Tr)(t:Tr):zu f (enc t)=enc (f t):=by
 have hx:∃u,enc u=enc t:=⟨t,rfl⟩;unfold zu;rw[dif_pos hx,zqn hx.choose_spec]
def zqm(f:Tr->Tr)(ts:List Tr):(ts.map enc).map (zu f)=(ts.map f).map enc:=by
 rw[gJ,gJ];exact kE λt _=>zkx f t
structure jJ(st:ak)(b:Nat)(B:Bk):Prop where
 ex:∃fs ns nk nt nm ml mr nr zq,TV st b B fs ns nk nt nm ml mr/\fs.lookup ("state_trees":PySem.Str)=some (D.loc zq)/\st[zq]? = some (.lst ((B.ss.map (lD B)).map enc)) /\
  fs.lookup ("rules":PySem.Str)=some (D.loc nr)/\st[nr]? = some (.lst (B.rs.map fG))/\fs.lookup ("signs":PySem.Str)=some (D.str B.ls.tail)
def jJ.mono{st st':ak}{b:Nat}{B:Bk}(h:jJ st b B)(k:Keeps st st' []):jJ st' b B:=by
 obtain⟨fs,ns,nk,nt,nm,ml,mr,nr,zq,h1,h2,h3,h4,h5,h6⟩:=h.ex;exact⟨fs,ns,nk,nt,nm,ml,mr,nr,zq,h1.mono k,h2,k _ _ 0x1 h3,h4,k _ _ 0x1 h5,h6⟩
def ziy{st:ak}{n:Nat}{ds:List D}(h:st[n]? = some (.lst ds)):ou [.loc n] st=.ok 0x2 (st++[.lst ds]):=by
 have:aA st n=some ds:=by unfold aA;rw[h]
 unfold ou;simp only[this]
def znu(B:Bk)(hB:Ac B)(signs:List Nat)(hs:B.ls=95::signs)(sf nr nss:Nat)(st:ak)(hb:Bs st)(h1:st[sf]? = some (.ins "Book" []))(h2:st[nr]? = some (.lst (B.rs.map fG)))(h3:st[nss]? = some (.lst 0x1e)) :
  ∃st',zez [.loc sf,.loc nr,.str signs,.loc nss] st=.ok .non st'/\Keeps st st' [sf]/\jJ st' sf B/\bI st':=by
 have RJ:=(gf.mp h1).1;have hnr:nr≠sf:=λe=>by subst e;rw[h1]at h2;cases h2
 have Gn:nss≠sf:=λe=>by subst e;rw[h1]at h3;cases h3
 have n1:(1:Nat)∉[sf]:=by simp;exact λe=>by rw[<-e,hb.t1]at h1;cases h1
 have n2:(2:Nat)∉[sf]:=by simp;exact λe=>by rw[<-e,hb.t2]at h1;cases h1
 have big:∀j,st.length<=j->j∉[sf]:=λj hj=>by simp;omega
 let r1:PySem.Str×D:=("rules",.loc st.length)
 let r2:PySem.Str×D:=("signs",.str signs)
 let r4:PySem.Str×D:=("letters",.str B.ls)
 let r8:PySem.Str×D:=("start_cost",.int (rF B.ls:Nat))
 obtain⟨X1,u1,o1,k1,q1,l1,c1⟩:=rT [r1] (dC h1) (Keeps.app st [.lst (B.rs.map fG)]).more (by simp[hb.c]);have x1:X1[st.length]? = some (.lst (B.rs.map fG)):=q1 _ _ (big _ (gb _)) 0x1;obtain⟨X2,u2,o2,k2,q2,l2,c2⟩:=rT [r1,r2] o1 (Keeps.refl _ _) c1;have h3':=k2 _ _ (by simpa using Gn) (k1 _ _ (by simpa using Gn) h3)
 let r3:PySem.Str×D:=("states",.loc X2.length)
 have m2:X2.length=st.length+1:=by rw[l2,l1];simp
 obtain⟨X3,u3,o3,k3,q3,l3,c3⟩:=rT [r1,r2,r3] (dC o2) (Keeps.app X2 [.lst 0x1e]).more (by simp[c2]);have x3:X3[X2.length]? = some (.lst 0x1e):=q3 _ _ (big _ 0x0) 0x1;obtain⟨X4,u4,o4,k4,q4,l4,c4⟩:=rT [r1,r2,r3,r4] o3 (Keeps.refl _ _) c3;have kk4:Keeps st X4 [sf]:=((k1.trans k2).trans k3).trans k4;have h2':=kk4 _ _ (by simpa using hnr) h2
 let r5:PySem.Str×D:=("by_key",.loc X4.length)
 have m4:X4.length=st.length+2:=by rw[l4,l3];simp[m2]
 obtain⟨X5,u5,o5,k5,q5,l5,c5⟩:=rT [r1,r2,r3,r4,r5] (dC o4) (Keeps.app X4 [.dic (tab [] (B.rs.map dI))]).more (by simp[c4]);have x5:X5[X4.length]? = some (.dic (tab [] (B.rs.map dI))):=q5 _ _ (big _ 0x0) 0x1;have kk5:Keeps st X5 [sf]:=kk4.trans k5
 let r6:PySem.Str×D:=("sign_trees",.loc X5.length)
 have m5:X5.length=st.length+3:=by rw[l5];simp[m4]
 obtain⟨X6,u6,o6,k6,q6,l6,c6⟩:=rT [r1,r2,r3,r4,r5,r6] (dC o5) (Keeps.app X5 [.dkc (aY (wN B.ls))]).more (by simp[c5]);have x6:X6[X5.length]? = some (.dkc (aY (wN B.ls))):=q6 _ _ (big _ 0x0) 0x1;have kk6:Keeps st X6 [sf]:=kk5.trans k6;have m6:X6.length=st.length+4:=by rw[l6];simp[m5]

 obtain⟨Y,ml,mr,hY,kY,tY,pY,mlY,mrY,cY,lY⟩:=J8 B hB X5.length 0x24 [some (.loc sf),some (.loc nr),some (.str signs),some (.loc nss),none,none] X6 (hb.keeps kk6 n1 n2 c6) (λZ kZ=>oW rfl (kZ _ _ 0x9 o6) rfl) x6;have oY:=kY sf _ 0x9 o6
 let r7:PySem.Str×D:=("moves",.loc X6.length)
 obtain⟨X7,u7,o7,k7,q7,l7,c7⟩:=rT [r1,r2,r3,r4,r5,r6,r7] oY (Keeps.refl _ _) cY;have kk7:Keeps st X7 [sf]:=λj o hj h=>q7 _ _ hj (kY _ _ (by
  have:=(gf.mp h).1;simp;omega) (kk6 _ _ hj h))
 have b7:Bs X7:=hb.keeps kk7 n1 n2 c7;obtain⟨X8,u8,o8,k8,q8,l8,c8⟩:=rT [r1,r2,r3,r4,r5,r6,r7,r8] o7 (Keeps.refl _ _) c7;have k68:∀j o,st.length<=j->j≠X5.length->X6[j]? = some o->X8[j]? = some o:=λj o hj hn h=>k8 _ _ (big j hj) (q7 _ _ (big j hj) (kY _ _ (by simp;exact hn) h));have x8s:=k68 _ _ 0x0 0x0 (k6 _ _ (big _ 0x0) (k5 _ _ (big _ 0x0) (k4 _ _ (big _ 0x0) x3)));have x8k:=k68 _ _ 0x0 0x0 (k6 _ _ (big _ 0x0) x5);have x8r:=k68 _ _ (gb _) 0x0 (k6 _ _ (big _ 0x0) (k5 _ _ (big _ 0x0) (k4 _ _ (big _ 0x0) (k3 _ _ (big _ 0x0) (k2 _ _ (big _ 0x0) x1)))));have b8:Bs X8:=hb.keeps (kk7.trans k8) n1 n2 c8;have hbl:=hB.ok.bl;have k0:∀(r:List (PySem.Str×D)) (Z:ak),Z[sf]? = some (.ins "Book" (r1::r2::r3::r4::r5::r6::r7::r8::r))->Keeps X8 Z [sf]->TV Z sf B (r1::r2::r3::r4::r5::r6::r7::r8::r) X2.length X4.length X5.length X6.length ml mr:=λfs Z hZ kZ =>
  ⟨hZ,rfl,rfl,rfl,rfl,rfl,rfl,kZ _ _ (big _ 0x0) x8s,kZ _ _ (big _ 0x0) x8k,kZ _ _ (big _ 0x0) (k8 _ _ (big _ 0x0) (q7 _ _ (big _ 0x0) tY)),kZ _ _ (big _ 0x0) (k8 _ _ (big _ 0x0) (q7 _ _ (big _ 0x0) pY)),
   ((mlY.book q7 oY hbl).book k8 o7 hbl).book kZ o8 hbl,((mrY.book q7 oY hbl).book k8 o7 hbl).book kZ o8 hbl⟩
 have ro:=zu3 B hB sf _ _ _ _ _ _ _ X8 b8 (k0 [] X8 o8 (Keeps.refl _ _))
 let RW:List Tr:=B.ss.map (iH B)
 let X9:ak:=X8++[.lst (RW.map enc)]
 have b9:Bs X9:=b8.app 0x1;have vR:∀t∈RW,val t=true:=λt ht=>by
  obtain⟨x,_,rfl⟩:=gh.mp ht;exact zn6 x
 have g9:∀g:ak,(X9++g)[X8.length]? = some (.lst (RW.map enc)):=λg=>dC (by simp[X9]);have aaR:∀(e:aK) (g:ak),e[4]? = some (some (.loc X8.length))->iC (vr 4) e (X9++g)=.ok (RW.map enc,[(X8.length,.lst (RW.map enc))]) (X9++g):=λe g he=>by
  rw[zuf,Ff,he];simp only[R.aB,g9]
 have rl:RW.length=B.ss.length:=by simp[RW]
 have hss:=hB.ss;have to:=zrs (RW.map jR) X9.length (X9++[.lst ((RW.map jR).map enc)]) (by rw[gm,rl];exact hB.s0) (by rw[gm,rl];exact hss) (by simp[aA]) (λe he=>by
  obtain⟨t,ht,rfl⟩:=gh.mp he;exact zn8 (vR t ht))
 let Tz:ak:=X9++[.lst ((RW.map jR).map enc)]
 have est:(RW.map (λt=>hold [t,lC B])).map enc=(B.ss.map (lD B)).map enc:=by
  show ((B.ss.map (iH B)).map _).map _=_;rw[gJ (l:=B.ss)];rfl
 have c10:bI (Tz++[.lst ((B.ss.map (lD B)).map enc)]):=by
  have:=b9.c;simp[Tz,this]
 obtain⟨X11,u11,o11,k11,q11,l11,c11⟩:=rT [r1,r2,r3,r4,r5,r6,r7,r8,("state_trees",.loc Tz.length)] (dC (dC (dC o8))) (Keeps.app Tz [.lst ((B.ss.map (lD B)).map enc)]).more c10;have k8b:Keeps X8 X11 [sf]:=((Keeps.app X8 _).trans (Keeps.app X9 _)).more.trans k11;have x10:st.length<=Tz.length:=by simp[Tz,X9,l8,l7];omega
 have RQ:=yx (st:=st) (st':=X11) (d:=.non) RJ (by rw[o11,h1];simp);refine⟨X11,?_,(kk7.trans k8).trans k8b,⟨_,_,_,_,_,_,_,st.length,Tz.length,k0 [_] X11 o11 k8b,rfl,q11 _ _ (big _ x10) 0x15,rfl,k8b _ _ (big _ (gb _)) x8r,by rw[hs];rfl⟩,c11⟩;refine U4 (Hu (oZ (ziy h2) rfl) rfl (dC h1) u1 (Hu rfl rfl o1 u2 (Hu (oZ (ziy h3') rfl) rfl (dC o2) u3
  (Hu (d:=.str B.ls) #[0,?_] rfl o3 u4
  (Hu (bU (zt1 (B.rs.map dI) nr X4 (by rw[zie];exact h2') (by rw[gm];exact hB.rs)) rfl) rfl (dC o4) u5
  (Hu (bU (zm6 B.ls hB.ok.nl hB.wY (by have:=hB.few;omega) X5 (hb.keeps kk5 n1 n2 c5)) #[6,(oW rfl o5 rfl)]) rfl (dC o5) u6
  (Hu hY rfl oY u7 (Hu (bU (zq1 B.ls X7 b7 hB.wY hB.few) #[6,(oW rfl o7 rfl)]) rfl o7 u8
  (b_ (bU ro rfl) (b_ (bU to #[6,?_]) (zlh (d:=.loc Tz.length) (st1:=Tz++[.lst ((B.ss.map (lD B)).map enc)]) ?_ rfl (dC (dC (dC o8))) 0x1))))))))))) rfl ?_
 ·have hf:=hB.few;rw[hs]at hf ⊢;have:1+signs.length<=1000000:=by simp at hf;omega
  exact add_str this
 ·rw[<-zqm];exact OD (zu jR) (λenv=>env.length=1) (by have:=aaR [none,none,none,none,some (.loc X8.length)] [] rfl;rwa[gr]at this) rfl 0x9 (λys=>yX (g9 _)) (λd hd cC ys hP=>by
   obtain⟨t,ht,rfl⟩:=gh.mp hd;obtain⟨x,rfl⟩:=my.mp hP;refine⟨[some (enc t)],rfl,rfl,?_⟩;rw[zkx];exact bU (zrh t _ (b9.app 0x1)) rfl)
 ·rw[<-est,<-zqm λt=>hold [t,lC B]];exact OD (zu λt=>hold [t,lC B]) (λenv=>∃x,env=[some (enc (lC B)),x]) (aaR _ _ rfl) ⟨_,rfl⟩ 0x9 (λys=>yX (dC (g9 _))) (λd hd cC ys hP=>by
   obtain⟨t,ht,rfl⟩:=gh.mp hd;obtain⟨x,rfl⟩:=hP;refine⟨[some (enc (lC B)),some (enc t)],⟨_,rfl⟩,rfl,?_⟩;rw[zkx];exact bU (zlp t (lC B) _ (vR t ht) zjc) rfl)
 ·subst u11;exact RQ
end Law
set_option maxHeartbeats 0
namespace Law
open L2 M Tr
theorem Kg:∀ts:List Tr,uf ts=jj ts
 | []=>rfl
 | t::ts=>by rw[uf,jj,Kg ts]
def dh(z:Sd):D:=.tup [.int z.s,.str z.a.reverse,.str [z.c],.str z.b]
def sgD(B:Bk):D->D
 | .str [c]=>enc (dD B c)
 | d=>d
def Pq(B:Bk)(cs:List Nat):(cs.map λc=>D.str [c]).map (sgD B)=(cs.map (dD B)).map enc:=by rw[gJ,gJ];rfl
def Ld(ss:List Nat)(s:Nat)(h:s∈ss):(ss.map λ(s:Nat)=>(s:Int)).findIdx? (λz=>decide (z=(s:Int)))=some (bW ss s):=by
 rw[List.findIdx?_map];have e:((λz=>decide (z=(s:Int)))∘λ(s:Nat)=>(s:Int))=λz:Nat=>decide (z=s):=by
  funext z;rw[m8];simp only[Function.comp,afC];omega
 rw[e,List.findIdx?_eq_some_of_exists ⟨s,h,by simp⟩]
 rfl
def Gh(ss:List Nat):intsOf (ss.map λs=>D.int (s:Nat))=some (ss.map λ(s:Nat)=>(s:Int)):=zg8 ss
section
variable  {B:Bk}{b:Nat}{st:ak}
def zkq(hk:jJ st b B){s:Nat}(hs:s∈B.ss):∃ns,(∀m env,m env st=.ok (.loc b) st->cH "Book" "states" m env st=.ok (.loc ns) st)/\cM "list" (.loc ns) st=true/\oU (.loc ns) [.int s] st=.ok (.int (bW B.ss s:Nat)) st/\cR [.loc ns] st=.ok (.int (B.ss.length:Nat)) st:=by
 obtain⟨fs,ns,nk,nt,nm,ml,mr,nr,zq,h1,h2,h3,_⟩:=hk.ex;have it:aA st ns=some 0x1e:=by unfold aA;rw[h1.s]
 refine⟨ns,λm env hm=>oW hm h1.o h1.f2,by simp[cM,h1.s],?_,?_⟩
 ·unfold oU;simp only[it,Gh,Ld B.ss s hs]
 ·have:=DY it;rwa[gm]at this
def zm8(hk:jJ st b B){s:Nat}(hs:s∈B.ss):zd5 [.loc b,.int s] st=.ok (enc (lD B s)) st:=by
 obtain⟨ns,f1,ty,li,_⟩:=zkq hk hs;obtain⟨fs,_,nk,nt,nm,ml,mr,nr,zq,h1,h2,h3,_⟩:=hk.ex;have ix:aV (.loc zq) (.int (bW B.ss s:Nat)) st=.ok (enc (lD B s)) st:=by
  refine uZ _ _ _ ((B.ss.map (lD B)).map enc) _ (by unfold aA;rw[h3]) ?_;have g:((B.ss.map (lD B)).map enc)[bW B.ss s]? = some (enc (lD B s)):=by rw[gK,gK,Ec hs];rfl
  exact Tp g
 exact bf (fB (aM (oW rfl h1.o h2) (sX (f1 _ _ rfl) ty rfl li) ix)) rfl (fV (jK _ _))
def zmh(hB:Ac B)(hb:Bs st)(hk:jJ st b B)(mi:MI)(env:aK)(cs:List Nat)(h0:env[0]? = some (some (.loc b)))(hi:mi env st=.ok (cs.map λc=>D.str [c],[]) st)(hc:∀c∈cs,c∈B.ls)(hl:cs.length<=1000) :
  eN [some 0,none] mi (aO 1) lJ (aF wC 0x24 (vr 1)) env st=.ok 0x2 (st++[.lst ((cs.map (dD B)).map enc)]):=by
 obtain⟨fs,ns,nk,nt,nm,ml,mr,nr,zq,h1,_⟩:=hk.ex;rw[<-Pq];exact OD (sgD B) (λenv=>∃x,env=[some (.loc b),x]) hi ⟨none,by simp[oM,h0]⟩ 0x9 (λys=>by simp) (λd hd cC ys hP=>by
  obtain⟨c,Hq,rfl⟩:=gh.mp hd;obtain⟨x,rfl⟩:=hP;have hz:=h1.mono (Keeps.app st [.lst ys]);exact⟨[some (.loc b),some (.str [c])],⟨_,rfl⟩,rfl,aM (oW rfl hz.o hz.f4) rfl (Zw (wN B.ls) nt [c] (dD B c) _ (.inr hz.t) (ZC (hc c Hq)))⟩)
def zpe(cs:List Nat)(st:ak)(n:Nat)(h:st[n]? = some (.lst ((cs.map (dD B)).map enc))):Z8 [.loc n] st=.ok (enc (iG B cs)) st:=by
 have:=zth (cs.map (dD B)) n st h (λt ht=>by
  obtain⟨c,_,rfl⟩:=gh.mp ht;exact yW c)
 rw[<-Kg]at this;exact this
def Jz(hB:Ac B)(hb:Bs st)(hk:jJ st b B)(z:Sd)(hz:yM B z)(ha:z.a.length<=1000)(qd:z.b.length<=1000):zfp [.loc b,dh z] st=.ok (.tup [enc (iG B z.a),enc (dD B z.c),enc (iG B z.b)]) st:=by
 obtain⟨fs,ns,nk,nt,nm,ml,mr,nr,zq,h1,_⟩:=hk.ex
 let Z1:ak:=st++[.lst ((z.a.map (dD B)).map enc)]
 have Dd:=hk.mono (Keeps.app st [.lst ((z.a.map (dD B)).map enc)]);have Lj:Bs Z1:=hb.app 0x1;have al:z.b.all (λc=>decide (c<128))=true:=ym λx hx=>hB.wY x (hz.b x hx);have Lg:=h1.mono ((Keeps.app st _).trans (Keeps.app Z1 [.lst ((z.b.map (dD B)).map enc)]));refine bf (b_ (bU (zpe (B:=B) z.a Z1 st.length (by simp[Z1])) #[6,(zmh hB hb hk _ _ z.a rfl (Iu #[0,dR] 0x0) hz.a ha)]) (b_ (bU (zpe (B:=B) z.b (Z1++[.lst ((z.b.map (dD B)).map enc)]) Z1.length 0x1) #[6,(zmh hB Lj Dd _ _ z.b rfl (zto #[0,dR] al) hz.b qd)]) (fB (tu #[12,(aM (oW rfl Lg.o Lg.f4) #[0,dR] (Zw (wN B.ls) nt [z.c] (dD B z.c) _ (.inr Lg.t) (ZC hz.c)))])))) rfl ?_;rw[gP];exact sZ (by simp[jK])
def zl4(hB:Ac B)(hb:Bs st)(hk:jJ st b B)(z:Sd)(hz:yM B z)(ha:z.a.length<=1000)(qd:z.b.length<=1000):zd3 [.loc b,dh z] st=.ok (enc (iJ B z)) st:=by
 exact bf (b_ (bU (Jz hB hb hk z hz ha qd) rfl) (fB (bU (xP (lD B z.s) (hold [iG B z.a,dD B z.c,iG B z.b]) st) (aW (bU (zm8 hk hz.s) #[12,#[0,dR]]) #[6,(bU (zsz (iG B z.a) (dD B z.c) (iG B z.b) st (Bt _) (yW _) (Bt _)) (aW #[0,dR] (aW #[0,dR] (aW #[0,dR] rfl))))])))) rfl (fV (jK _ (iJ B z)))
end
end Law
namespace M
namespace Tr
def eY(c:List Nat):Tr->Bool
 | .jn (.lf s) _=>decide (s=c)
 | _=>false
def cntK:Tr->Nat
 | .jn (.lf s) r=>if s=[75] then cntK r+1 else 0
 | _=>0
def aeF:Tr->Tr
 | .jn (.lf s) r=>if s=[75] then aeF r else .jn (.lf s) r
 | t=>t
def zdu(c s:List Nat)(r:Tr):eY c (.jn (.lf s) r)=decide (s=c):=by rw[eY]
def zi9(c:List Nat)(a b r:Tr):eY c (.jn (.jn a b) r)=false:=by rw[eY];intro s r' h;cases h
def znm(c s:List Nat):eY c (.lf s)=false:=by rw[eY];intro s r' h;cases h
def zqc{t:Tr}(h:eY [75] t=false):cntK t=0:=by
 cases t with
 | lf s=>rw[cntK];intro s r h;cases h
 | jn l r =>
  cases l with
  | lf s=>rw[zdu]at h;rw[cntK,afo (by simpa using h)]
  | jn a b=>rw[cntK];intro s r h;cases h
def Mz(r:Tr):cntK (.jn tK r)=cntK r+1:=by rw[cntK,afn rfl]
theorem zpo(v:Tr):∀n,cntK (cN n v)=n+cntK v
 | 0=>by simp[cN]
 | n+1=>by rw[cN,Mz,zpo v n];omega
def My(m:Nat):cntK (uc m)=0:=by
 match m with
 | 0=>exact zqc rfl
 | 1=>exact zqc rfl
 | m+2=>exact zqc rfl
def zen(k many:Nat):cntK (bM k many)=k:=by rw[bM,zpo,My];omega
theorem Aq:∀m,lv (uc m)=if m=0 then 3 else 3*m - 2
 | 0=>rfl
 | 1=>rfl
 | m+2=>by
  rw[uc,lv,Aq (m+1),afo 0x0,afo 0x0,show lv (.jn tS (.jn tK tK))=3 from rfl];omega
def Qq{m n:Nat}(h:uc m=uc n):m=n:=by
 have e:=congrArg lv h;rw[Aq,Aq]at e
 split at e<;>split at e<;>omega
theorem zs8{v w:Tr}:∀{n:Nat},cN n v=cN n w->v=w
 | 0,h=>h
 | n+1,h=>by
  rw[cN,cN]at h;injection h with _ h;exact zs8 h
def aag{k a b:Nat}(ha:k<a)(hb:k<b)(h:bM k a=bM k b):a=b:=by
 have:=Qq (zs8 h);omega
def Mj(k many:Nat)(h:k<many):dp (bM k many)<=many+2:=by
 rw[bM,zqd];have:=yD (many - 1 - k);omega
theorem SM:∀(t:Tr),cntK t<=dp t
 | .lf s=>by rw[cntK];omega;intro s r h;cases h
 | .jn l r=>by
  have ih:=SM r;cases l with
  | lf s =>
   rw[cntK,dp]
   split<;>omega
  | jn a b=>rw[cntK];omega;intro s r h;cases h
end Tr
end M
namespace Law
open L2 M Tr
def zff(c:List Nat)(t:Tr)(st:ak):O5 [.str c,enc t] st=.ok (.bl (eY c t)) st:=by
 unfold O5 bF bw zei;cases t with
 | lf s=>rw[znm,show enc (.lf s)=.str s from rfl];simp[startM,lV,fV]
 | jn l r =>
  have is1:=zsr 0x3;have x0:aV (enc 0x3) (.int 0) st=.ok (enc l) st:=by rw[enc];exact Eb st 0 _ _ rfl
  have q1:iw 800 (enc l) (.str c) st=.ok (.bl (eY c 0x3)) st:=by
   have:=T7 799 l c st;cases l with
   | lf s=>rw[this,zdu]
   | jn a b=>rw[this,zi9]
  exists enc 0x3,J,enc l,L;simp[startM,is1,x0,q1,fV]
open Classical in
noncomputable def u9(t:Tr)(many:Nat):D:=if cntK t<many/\t=bM (cntK t) many then .int (cntK t:Nat) else .non
def Tt{a b:MT}{env:aK}{st st1:ak}(h:a env st=.ok false st1):jC a b env st=.ok false st1:=by simp[h]
open Classical in
def Fv(t:Tr)(many:Nat)(st:ak)(ht:st[1]? = some (.tab "out_and_cost"))(hc:bI st)(hm:many<=300000)(hd:dp t<800):Uc [enc t,.int many] st=.ok (u9 t many) st:=by
 unfold Uc bF bw zme;generalize hC:(lu (az O5 [] _):MT)=C;generalize hW:(aC (aG 2 (aF bD _ _)) _:MS)=W
 let E:Nat->Tr->aK:=λk r=>[some (enc t),some (.int many),some (.int (k:Nat)),some (enc r)]
 have cv:∀k r,C (E k r) st=.ok (eY [75] r) st:=λk r=>by rw[<-hC];exact sS (bU (zff _ _ _) rfl) acL
 have stop:∀k r,eY [75] r=false->aZ C W (E k r) st=.ok (.nx (E (k+cntK r) r)) st:=λk r h=>by rw[u0,cv,R.aB,h,zqc h];rfl
 have loop:∀(r:Tr) (k:Nat),∃r',aZ C W (E k r) st=.ok (.nx (E (k+cntK r) r')) st:=by
  intro r
  induction r with
  | lf s=>exact λk=>⟨_,stop k _ (znm _ _)⟩
  | jn l r _ ih =>
   intro k;cases hf:eY [75] 0x3 with
   | false=>exact⟨_,stop k _ hf⟩
   | true =>
    have el:l=Tr.tK:=by
     cases l with
     | lf s=>rw[zdu]at hf;rw[afx hf]
     | jn a b=>rw[zi9]at hf;cases hf
    subst el;obtain⟨r',e⟩:=ih (k+1);refine⟨r',?_⟩;rw[u0,cv,R.aB,hf,afn rfl,show W (E k (.jn Tr.tK r)) st=.ok (.nx (E (k+1) r)) st by rw[<-hW];exact b_ #[0,(Hv rfl)] (DR #[0,(xO _ _ _)]),R.aB,Mz,show k+(cntK r+1)=k+1+cntK r by omega];exact e
 obtain⟨r',e⟩:=loop t 0;rw[nH]at e;unfold u9;by_cases h1:cntK t<many
 ·have p1:=zpv (cntK t) many st ht hc h1 hm;have q1:=zp0 t (bM (cntK t) many) st hd;have l1:ltV (.int (cntK t:Nat)) (.int many) st=.ok (.bl true) st:=by rw[yl,afs h1]
  by_cases h2:t=bM (cntK t) many
  ·rw[afs h2]at q1;rw[afn ⟨h1,h2⟩];exact bf (b_ rfl (b_ rfl ((sW e).trans (xN (qP (ZP (dq #[0,l1]) (dq (aM rfl (bU p1 rfl) q1))) (fB rfl)))))) rfl (fV 0x1)
  ·rw[afq h2]at q1;rw[afo (λh=>h2 h.2)];exact bf (b_ rfl (b_ rfl ((sW e).trans (oX (ZP (dq #[0,l1]) (dq (aM rfl (bU p1 rfl) q1))) (fB rfl))))) rfl (fV 0x1)
 ·have l1:ltV (.int (cntK t:Nat)) (.int many) st=.ok (.bl false) st:=by rw[yl,afq h1]
  rw[afo (λh=>h1 h.1)];exact bf (b_ rfl (b_ rfl ((sW e).trans (oX (Tt (dq #[0,l1])) (fB rfl))))) rfl (fV 0x1)
def zlm(c:List Nat)(r:Tr)(st:ak):O5 [.str c,enc (.jn (.lf c) r)] st=.ok (.bl true) st:=by
 have:=zff c (.jn (.lf c) r) st;rwa[zdu,afs rfl]at this
def znr(u a:Tr)(st:ak):zcn [enc (.jn (.jn tS u) (.jn tK a))] st=.ok (.bl true) st :=
 bf (fB (zuj (QZ (DW rfl (T3 _ _ _))) (zuj (bU (zlm [83] u _) #[12,#[0,(xF _ _ _)]]) (bU (zlm [75] a _) #[12,#[0,(xO _ _ _)]])))) rfl (fV 0x1)
def zne(n:Nat)(ts:List Tr):bY n (ts.map enc):=by
 induction ts with
 | nil=>simp
 | cons t ts ih=>simp[ih,jK]
def zk4(ts:List Tr)(st:ak)(hv:∀t∈ts,val t=true)(hl:ts.length<=100):ZR [enc (hold ts),.int ts.length] st=.ok 0x2 (st++[.lst (ts.map enc)]):=by
 unfold ZR bF bw zt3;generalize hC:(dM (aF ltV _ _):MT)=C;generalize hW:(aC (fu (vJ _) _ _) _:MS)=W
 let E:Tr->aK:=λt=>[some (enc (hold ts)),some (.int ts.length),some 0x2,some (enc t)]
 let Z:List Tr->ak:=λvs=>st++[.lst (vs.map enc)]
 have cv:∀t vs,C (E t) (Z vs)=.ok (decide (vs.length<ts.length)) (Z vs):=λt vs=>by
  have le:=DY (st:=Z vs) (n:=st.length) (ds:=vs.map enc) (by simp[aA,Z]);rw[gm]at le;rw[<-hC];refine dq (aM (oZ le rfl) rfl ?_);simp
 have lp:∀(r vs:List Tr),r.length+vs.length=ts.length->aZ C W (E (hold r.reverse)) (Z vs)=.ok (.nx (E tI)) (Z (vs++r)):=by
  intro r
  induction r with
  | nil =>
   intro vs h;rw[u0,cv,R.aB,afq (by simp at h;omega),gr]
   rfl
  | cons a r ih =>
   intro vs h;simp only[g8]at h;have ap:aR 0x2 [enc a] (Z vs)=.ok .non (Z (vs++[a])):=by
    have g:(Z vs)[st.length]? = some (.lst (vs.map enc)):=by simp[Z]
    unfold aR;simp only[g];rw[afn 0x9];simp[Z]
   have w:W (E (hold (a::r).reverse)) (Z vs)=.ok (.nx (E (hold r.reverse))) (Z (vs++[a])):=by
    rw[mV,Z4,<-hW];exact oX (Ae (sS (bU (znr _ _ _) rfl) rfl)) ((sW (yR (sX rfl (by simp[cM,Z]) #[27,#[0,(xO _ _ _)],(xO _ _ _)] ap))).trans (DR (aM #[0,(xF _ _ _)] rfl (xO _ _ _))))
   rw[u0,cv,R.aB,afs 0x0,afn rfl,w,R.aB];have:=ih (vs++[a]) 0x9;rw[gP]at this;exact this
 have l0:=lp ts.reverse [] 0x1;rw[List.reverse_reverse,kI]at l0;have iv:=zdq (hold ts) (Z ts.reverse);rw[Ea hv]at iv;have ne:M.wB 800 (enc tI) (enc tI) (Z ts.reverse)=.ok (.bl false) (Z ts.reverse):=ue (by have:=zp0 tI tI (Z ts.reverse) 0x5;simpa using this);have rv:dW 0x2 [] (Z ts.reverse)=.ok .non (Z ts):=by
  have g:(Z ts.reverse)[st.length]? = some (.lst (ts.reverse.map enc)):=by simp[Z]
  unfold dW;simp only[g];simp[Z]
 exact bf (b_ rfl (b_ rfl ((sW l0).trans (oX (ztl (dq #[0,ne]) (Ae (sS (bU iv rfl) rfl))) ((sW (yR (Vu rfl (by simp[cM,Z]) rv))).trans (fB rfl)))))) rfl (Nx (zne _ ts))
def Xh(l r:Tr)(s:List Nat)(st:ak):M.wB 800 (enc 0x3) (.str s) st=.ok (.bl true) st:=ue (T7 799 0x3 s st)
def ad0{st g:ak}{n k:Nat}{ds:List D}(h:g[k]? = some (.lst ds))(e:n=st.length+k:=by rfl):aA (st++g) n=some ds:=by unfold aA;rw[qN h e]
def zrq(ts:List Tr)(st:ak)(hv:∀t∈ts,val t=true)(hl:ts.length<=900):zc9 [enc (uf ts)] st=.ok 0x2 (st++[.lst (ts.map enc)]):=by
 unfold zc9 bF bw zhg;generalize hC:(dM (aF (M.wB 800) _ _):MT)=C;generalize hW:(aC (aG 3 (Hn _ _ _)) _:MS)=W
 let E:Tr->Option D->aK:=λt a=>[some (enc (uf ts)),some 0x2,some (enc t),a]
 let Z:List Tr->ak->ak:=λvs G=>st++.lst (vs.map enc)::G
 have vl:∀us:List Tr,(∀t∈us,val t=true)->val (uf us)=true:=λus h=>by
  induction us with
  | nil=>rfl
  | cons t us ih=>rw[uf,fj,Ea];intro x hx;simp at hx;rcases hx with rfl | rfl;exact h _ 0x1;exact ih λy hy=>h y (by simp[hy])
 have lp:∀(us vs:List Tr) (a:Option D) (G:ak),(∀t∈us,val t=true)->us.length+vs.length<=900->∃a' G',aZ C W (E (uf us) a) (Z vs G)=.ok (.nx (E tK a')) (Z (vs++us) G'):=by
  intro us
  induction us with
  | nil =>
   intro vs a G _ _;refine⟨a,G,?_⟩;rw[u0,show C (E (uf []) a) (Z vs G)=.ok false (Z vs G) by rw[<-hC];exact dq #[0,(by rw[uf];rfl)],R.aB,gr]
   rfl
  | cons t us ih =>
   intro vs a G hu hn;have hus:∀x∈us,val x=true:=λx hx=>hu x (by simp[hx]);simp only[g8]at hn
   let H:MO:=.lst ([t,uf us].map enc)
   let m:Nat:=(Z vs G).length
   have hh:=zk4 [t,uf us] (Z vs G) (λx hx=>by simp at hx;rcases hx with rfl | rfl;exact hu _ 0x1;exact vl us hus) 0x1;have g:(Z vs (G++[H]))[st.length]? = some (.lst (vs.map enc)):=qN (k:=0) rfl;have ez:∀vs,Z vs G++[H]=Z vs (G++[H]):=λvs=>by simp[Z]
   rw[show Z vs G++[.lst ([t,uf us].map enc)]=Z vs (G++[H]) from ez vs]at hh;have im:∀VJ,VJ.length=VJ.length->aA (Z VJ (G++[H])) m=some [enc t,enc (uf us)]:=λVJ _=>by
    have:(Z VJ (G++[H]))[m]? = some H:=by
     rw[<-ez VJ,show m=(Z VJ G).length by simp[m,Z]];simp
    unfold aA;rw[this];rfl
   have ap:aR 0x2 [enc t] (Z vs (G++[H]))=.ok .non (Z (vs++[t]) (G++[H])):=by
    unfold aR;simp only[g];rw[afn 0x9];simp[Z]
   have w:W (E (uf (t::us)) a) (Z vs G)=.ok (.nx (E (uf us) (some (.loc m)))) (Z (vs++[t]) (G++[H])):=by
    rw[uf,<-hW];exact b_ (T5 (sS (bU (zlm [75] _ _) rfl) rfl) (bU hh #[6,#[0,(xO _ _ _)]])) (oX 0x10 ((sW (yR (sX rfl (by simp[cM,g]) #[6,#[0,(uZ _ _ _ _ _ (im vs rfl) rfl)]] ap))).trans (DR #[0,(uZ _ _ _ _ _ (im (vs++[t]) rfl) rfl)])))
   obtain⟨a',G',h⟩:=ih (vs++[t]) (some (.loc m)) (G++[H]) hus 0x9;refine⟨a',G',?_⟩;rw[u0,show C (E (uf (t::us)) a) (Z vs G)=.ok true (Z vs G) by rw[<-hC];exact dq #[0,(by rw[uf];exact Xh _ _ _ _)],R.aB,afn rfl,w,R.aB];rw[gP]at h;exact h
 obtain⟨a',G',h⟩:=lp ts [] none [] hv 0x9;have gg:=Vg (st:=st) (g:=[]) (g':=G') (o:=.lst (ts.map enc)) (zne _ ts);rw[gr]at gg;exact bf (b_ rfl (b_ rfl ((sW h).trans (fB rfl)))) rfl gg
end Law
set_option maxHeartbeats 0
namespace Law
open L2 M Tr
section
variable  {B:Bk}{b:Nat}{st:ak}
def zoy(hB:Ac B)(hb:Bs st)(hk:jJ st b B)(z:Sd)(hz:yM B z)(ha:z.a.length<=1000)(qd:z.b.length<=1000):zey [.loc b,dh z] st=.ok (.int (dY B z:Nat)) st:=by
 have hl:=hB.few;obtain⟨fs,ns,nk,nt,nm,ml,mr,nr,zq,h1,_⟩:=hk.ex;have si:rE (.str B.ls) [.str [z.c]] st=.ok (.int (bW B.ls z.c:Nat)) st:=by
  unfold rE;dsimp only;rw[List.findIdx?_eq_some_of_exists ⟨z.c,hz.c,by simp⟩]
  rfl
 have le:cR [.str B.ls] st=.ok (.int (B.ls.length:Nat)) st:=zh9 _ B.ls 0x0;have pc:=zij (bW B.ls z.c) B.ls.length st hb (Hy hz.c) 0x0;have gk:=zsg B nk z.s z.c st h1.k;have ty:cM "dict" (.loc nk) st=true:=by simp[cM,h1.k]
 let P:Nat:=rF B.ls+cg (bW B.ls z.c) B.ls.length
 have body:zhu (startM 7 [.loc b,dh z]) st=.ok (.rt (.int (dY B z:Nat))) st:=by
  refine b_ (aM (oW rfl h1.o h1.f6) (bU pc (aW (sX (oW rfl h1.o h1.f1) rfl #[6,#[0,dR]] si) #[6,(oZ le (aW (oW rfl h1.o h1.f1) rfl))])) (Hv (c:=P) rfl)) (b_ (sX (oW rfl h1.o h1.f3) ty #[6,(tu (aW #[0,dR] (aW #[0,dR] rfl)))] gk) ?_);cases hf:Dg B z.s z.c with
  | none =>
   refine (xN (qP 0x10 (fB (aM rfl (bU (zrv st hb) rfl) (Hv (c:=dY B z) ?_)))));unfold dY;rw[hf]
  | some r =>
   have hr:=hB.ok.ru r (nM hf);obtain⟨mo,⟨w,W,o1,_,_⟩,ixm⟩:=h1.mv r.m;obtain⟨ns',g2,ty2,li,lw⟩:=zkq hk hr.1;have wc:=zrp (bW B.ss r.g) B.ss.length st hb (Hy hr.1) (by have:=hB.ss;omega)
   let SDE:List Nat:=if r.m=true then z.a.reverse else z.b
   let MV:Nat:=iU r.m+0x2c
   have hq:decide (SDE=[])=decide ((if r.m=true then z.a else z.b)=[]):=by simp only[SDE];by_cases h:r.m=true<;>simp[h]
   dsimp only;rw[Nv];refine oX 0x10 (b_ (aM (oW rfl h1.o h1.f5) #[0,dR] ixm) (b_ (d:=.str SDE) (st1:=st) (T5 #[17,#[0,dR],eq_str] ?_) (b_ (d:=.int MV) (st1:=st) (T5 (dq #[0,eq_str]) ?_)
    (fB (aM #[0,(Hv rfl)] (bU wc (aW (sX (g2 _ _ rfl) ty2 #[6,#[0,dR]] li) #[6,(oZ lw (aW (g2 _ _ rfl) rfl))])) (Hv ?_))))))
   ·simp only[SDE];cases r.m<;>rfl
   ·rw[hq];by_cases e:(if r.m=true then z.a else z.b)=[]
    ·rw[afs e];simp only[MV];rw[afn e];exact oW rfl o1 rfl
    ·rw[afq e];simp only[MV];rw[afo e];exact oW rfl o1 rfl
   ·unfold dY;rw[hf];show P+MV+yZ B r.g=P+(MV+yZ B r.g);omega
 exact bf body rfl (fV 0x1)
end
open Classical in
noncomputable def liftT(g:Tr->D):D->D:=λd=>if h:∃t,enc t=d then g h.choose else d
def zqe(g:Tr->D)(t:Tr):liftT g (enc t)=g t:=by
 have hx:∃u,enc u=enc t:=⟨t,rfl⟩;unfold liftT;rw[dif_pos hx,zqn hx.choose_spec]
def zg4{k n:Nat}(h:k<n)(st:ak)(hb:Bs st)(hn:n<=700):Uc [enc (bM k n),.int n] st=.ok (.int k) st:=by
 have e:u9 (bM k n) n=.int k:=by
  unfold u9;rw[zen,afn ⟨h,rfl⟩]
 have:=Fv (bM k n) n st hb.t1 hb.c 0x0 (by have:=Mj k n h;omega);rwa[e]at this
def RC(xs:List Nat)(n:Nat)(st:ak)(h:aA st n=some (aH xs)):xj 800 false .non (.loc n) st=.ok (.bl false) st:=by
 have f1:dw (aH xs)=true:=by
  clear h;unfold aH
  induction xs with
  | nil=>rfl
  | cons c cs ih=>simpa using ih
 have f2:((aH xs).all λe=>decide (dZ e .non<800))=true:=by
  unfold aH;rw[List.all_map,List.all_eq_true];intro c _;simp[dZ]
 have f3:((aH xs).any λe=>jr e .non)=false:=by
  unfold aH;rw[List.any_map,List.any_eq_false];intro c _;simp[jr]
 unfold xj;simp only[h,f1,f2,f3];rw[afn ⟨by simp,trivial,trivial⟩];rfl
def BZ{m:ME}{env:aK}{st:ak}{n:Nat}{ds:List D}(hm:m env st=.ok (.loc n) st)(h:st[n]? = some (.lst ds)):iC m env st=.ok (ds,[(n,.lst ds)]) st:=by
 rw[zuf,hm];simp only[R.aB,h]
def len_str(cs:List Nat)(s:ak)(h:cs.length<=1000000):cR [.str cs] s=.ok (.int cs.length) s:=zh9 _ cs h
def ltD(ls:List Nat):D->D
 | .int i=>.str [ls.getD i.toNat 0]
 | d=>d
section
variable  {B:Bk}{b:Nat}{st:ak}
def zhs(hB:Ac B)(hb:Bs st)(hk:jJ st b B)(cs:List Nat)(hc:∀c∈cs,c∈B.ls)(hl:cs.length<=900):zct [.loc b,enc (iG B cs)] st=.ok 0x2 (st++[.lst (cs.map λc=>D.str [c])]):=by
 obtain⟨fs,ns,nk,nt,nm,ml,mr,nr,zq,h1,_⟩:=hk.ex;have zF:=hB.few
 let L1:MO:=.lst ((cs.map (dD B)).map enc)
 let L2:MO:=.lst (aH (cs.map (bW B.ls)))
 let L3:MO:=.lst (cs.map λc=>D.str [c])
 have th:=zrq (cs.map (dD B)) st (λt ht=>by
  obtain⟨c,_,rfl⟩:=gh.mp ht;exact yW c) (by simpa using hl)
 have c1:eN [some 0,none] (iC (vr 2)) (aO 1) lJ (az Uc [] #[3,1,#[19,cR,0x19]]) [some (.loc b),some (enc (iG B cs)),some 0x2,none] (st++[L1])=.ok (.loc (st++[L1]).length) (st++[L1]++[L2]):=by
  have e2:((cs.map (dD B)).map enc).map (liftT λt=>.int (cntK t:Nat))=aH (cs.map (bW B.ls)):=by
   unfold aH;rw[gJ,gJ,gJ];refine kE λc _=>?_;simp only[Function.comp,zqe];unfold dD;rw[zen]
  show _=R.ok _ (st++[L1]++[.lst (aH (cs.map (bW B.ls)))]);rw[<-e2];exact OD (liftT λt=>.int (cntK t:Nat)) (λenv=>∃x,env=[some (.loc b),x]) (BZ rfl 0x15) ⟨_,rfl⟩ 0x9 (λys=>yX (dC 0x15)) (λd hd cC ys hP=>by
   obtain⟨t,ht,rfl⟩:=gh.mp hd;obtain⟨c,Hq,rfl⟩:=gh.mp ht;obtain⟨x,rfl⟩:=hP;have hz:=h1.mono ((Keeps.app st [L1]).trans (Keeps.app (st++[L1]) [.lst ys]));have bz:Bs (st++[L1]++[.lst ys]):=(hb.app (by simp[L1])).app 0x1;refine⟨[some (.loc b),some (enc (dD B c))],⟨_,rfl⟩,rfl,?_⟩;rw[zqe];unfold dD;rw[zen];exact bU (zg4 (Hy (hc c Hq)) _ bz 0x0) #[12,(oZ (len_str B.ls _ 0x0) #[6,(oW rfl hz.o hz.f1)])])
 have c2:eN [some 0,none] (iC (vr 3)) (aO 1) lJ (aF aV 0x19 (vr 1)) [some (.loc b),some (enc (iG B cs)),some 0x2,some (.loc (st++[L1]).length)] (st++[L1]++[L2])=.ok (.loc (st++[L1]++[L2]).length) (st++[L1]++[L2]++[L3]):=by
  have e3:(aH (cs.map (bW B.ls))).map (ltD B.ls)=cs.map λc=>D.str [c]:=by
   unfold aH;rw[gJ,gJ];refine kE λc Hq=>?_;show D.str [B.ls.getD _ 0]=_;rw[p8,pW,Ec (hc c Hq)];rfl
  show _=R.ok _ (st++[L1]++[L2]++[.lst (cs.map λc=>D.str [c])]);rw[<-e3];exact OD (ltD B.ls) (λenv=>∃x,env=[some (.loc b),x]) (BZ rfl 0x15) ⟨_,rfl⟩ (by simp[aH];omega) (λys=>yX (dC 0x15)) (λd hd cC ys hP=>by
   unfold aH at hd;obtain⟨i,hi,rfl⟩:=gh.mp hd;obtain⟨c,Hq,rfl⟩:=gh.mp hi;obtain⟨x,rfl⟩:=hP;have hz:=h1.mono (((Keeps.app st [L1]).trans (Keeps.app (st++[L1]) [L2])).trans (Keeps.app (st++[L1]++[L2]) [.lst ys]));refine⟨[some (.loc b),some (.int (bW B.ls c:Nat))],⟨_,rfl⟩,rfl,aM (oW rfl hz.o hz.f1) rfl ?_⟩;show _=R.ok (D.str [B.ls.getD _ 0]) _;unfold aV;dsimp only;rw[afn 0x0,Nz,p8,pW,Ec (hc c Hq)];rfl)
 have gg:=Vg (st:=st) (g:=[L1,L2]) (g':=[]) (o:=L3) (by
  show bY _ _;clear hl hc th c1 c2
  induction cs with
  | nil=>simp
  | cons c cs ih=>simpa using ih)
 have es:st++[L1]++[L2]++[L3]=st++[L1,L2]++L3::[]:=by simp
 have el:(st++[L1]++[L2]).length=st.length+[L1,L2].length:=by simp
 rw[<-es,<-el]at gg;exact bf (b_ (bU th rfl) (oX 0x10 (b_ c1 (oX (dq #[0,(RC _ _ _ (by unfold aA;rw[qN (k:=0) rfl]))]) (fB c2))))) rfl gg
end
theorem zqq:∀cs:List Nat,qt [] (cs.map λc=>[c])=cs
 | []=>rfl
 | [c]=>rfl
 | c::d::r=>by
  have:=zqq (d::r);show [c]++[]++qt [] (([d])::r.map λc=>[c])=_;rw[show ([d]::r.map λc=>[c])=(d::r).map λc=>[c] from rfl,this];rfl
def CQ{st:ak}{n:Nat}{cs:List Nat}(h:st[n]? = some (.lst (cs.map λc=>D.str [c])))(hl:cs.length<=1000):rN (.str []) [.loc n] st=.ok (.str cs) st:=by
 have:=Jb (st:=st) [] n (cs.map λc=>[c]) (by unfold aA;rw[h,gJ];rfl) (by
  rw[gJ];have:((cs.map (List.length∘λc=>[c])).sum)=cs.length:=by
   clear h hl
   induction cs with
   | nil=>rfl
   | cons c cs ih=>rw[gq,nZ,ih,g8];show 1+_=_;omega
  rw[this];simp;omega)
 rwa[zqq]at this
section
variable  {B:Bk}{b:Nat}{st:ak}
def zhf(hB:Ac B)(hb:Bs st)(hk:jJ st b B)(z:Sd)(hz:yM B z)(ha:z.a.length<=900)(qd:z.b.length<=900)(p:Nat)(hp:st[p]? = some (.lst [enc (iG B z.a),enc (dD B z.c),enc (iG B z.b)])) :
  zcu [.loc b,.int (bW B.ss z.s:Nat),.loc p] st=.ok (dh z) st:=by
 have zF:=hB.few
 let A:MO:=.lst (z.a.map λc=>D.str [c])
 let R:MO:=.lst (z.b.map λc=>D.str [c])
 let A':MO:=.lst (z.a.reverse.map λc=>D.str [c])
 have kA:=Keeps.app st [A];have kR:=(Keeps.app st [A]).trans (Keeps.app (st++[A]) [R]);have k3:=(Keeps.app st [A']).trans (Keeps.app (st++[A']) [R]);obtain⟨fs,ns,nk,nt,nm,ml,mr,nr,zq,h1,_⟩:=hk.ex;have hA:=h1.mono kA;have h3:=h1.mono k3;have s1:=zhs hB hb hk z.a hz.a ha;have s2:=zhs hB (hb.app (g:=[A]) (by simp[A])) (hk.mono kA) z.b hz.b qd;have pk:=zg4 (Hy hz.c) (st++[A]) (hb.app (by simp[A])) 0x0;have ix:∀{g:ak} (k:Int) (d:D),qj [enc (iG B z.a),enc (dD B z.c),enc (iG B z.b)] k=some d->aV (.loc p) (.int k) (st++g)=.ok d (st++g):=λk d h=>uZ _ _ _ _ _ (by unfold aA;rw[dC hp]) h;have rv:dW 0x2 [] (st++[A]++[R])=.ok .non (st++[A']++[R]):=by
  have g:(st++[A]++[R])[st.length]? = some A:=dC 0x15;unfold dW;simp only[g,A];rw[ZX _ _ _ _ 0x1,Oz _ _ _ _ rfl,<-nW]
 have i0:aV (.loc p) (.int 0) st=.ok (enc (iG B z.a)) st:=uZ _ _ _ _ _ (by unfold aA;rw[hp]) rfl;have iu:aV (.loc ns) (.int (bW B.ss z.s:Nat)) (st++[A']++[R])=.ok (.int z.s) (st++[A']++[R]):=by
  refine uZ _ _ _ 0x1e _ (by unfold aA;rw[h3.s]) ?_;rw[Nz,gK,Ec hz.s];rfl
 have lt3:aV (.str B.ls) (.int (bW B.ls z.c:Nat)) (st++[A']++[R])=.ok (.str [z.c]) (st++[A']++[R]):=by
  unfold aV;dsimp only;rw[afn 0x0,Nz,Ec hz.c]
 refine bf (oX (ztl 0x10 0x10) (b_ (bU s1 #[12,#[0,i0]])
  (b_ (bU pk (aW #[0,(ix 1 _ rfl)] #[6,(oZ (len_str B.ls _ 0x0) (aW (oW rfl hA.o hA.f1) rfl))]))
  (b_ (bU s2 #[12,#[0,(ix 2 _ rfl)]])
  (oX (ztl 0x10 (ztl 0x10 0x10))
  ((sW (yR (Vu rfl (by simp[cM,A]) rv))).trans
  (fB (tu (aW (aM (oW rfl h3.o h3.f2) rfl iu) (aW (sX rfl rfl rfl (CQ (dC 0x15) 0x9)) (aW (aM (oW rfl h3.o h3.f1) rfl lt3) #[6,(sX rfl rfl rfl (CQ (qN (k:=0) rfl 0x1) 0x0))]))))))))))) rfl ?_
 rw[gP];exact sZ 0x1
def zrb(hB:Ac B)(hb:Bs st)(hk:jJ st b B)(z:Sd)(hz:yM B z)(ha:z.a.length<=900)(qd:z.b.length<=900)(hss:B.ss.length<=512):zfq [.loc b,enc (Bj B z)] st=.ok (dh z) st:=by
 let H:MO:=.lst ([wQ B z.s,iG B z.a,dD B z.c,iG B z.b].map enc)
 let P:MO:=.lst ([iG B z.a,dD B z.c,iG B z.b].map enc)
 have hh:=zk4 [wQ B z.s,iG B z.a,dD B z.c,iG B z.b] st (λt ht=>by
  simp only[gj,kh,afI]at ht;rcases ht with rfl | rfl | rfl | rfl
  ·exact HD _ _
  ·exact Bt _
  ·exact yW _
  ·exact Bt _) 0x1
 obtain⟨ns,f1,_,_,le⟩:=zkq (hk.mono (Keeps.app st [H])) hz.s;have bH:Bs (st++[H]):=hb.app (by simp[H]);have pk:=zg4 (Hy hz.s) (st++[H]) bH 0x0;have gH:(st++[H])[st.length]? = some H:=qN (k:=0) rfl;have sl:xY 0x2 (some 1) none (st++[H])=.ok (.loc (st++[H]).length) (st++[H]++[P]):=by
  unfold xY;simp only[aA,gH]
  rfl
 have so:=zhf hB (bH.app (g:=[P]) (by simp[P])) (hk.mono ((Keeps.app st [H]).trans (Keeps.app (st++[H]) [P]))) z hz ha qd (st++[H]).length 0x15;refine bf (b_ (bU hh rfl) (oX 0x10 (fB (bU so (aW rfl (aW (bU pk (aW #[0,(uZ _ _ _ _ _ (by unfold aA;rw[gH]) rfl)] #[6,(oZ le (aW (f1 _ _ rfl) rfl))])) #[6,(zuo rfl rfl rfl sl)])))))) rfl ?_;rw[gP];exact sZ (by simp[dh])
end
end Law
set_option maxHeartbeats 0
namespace M
def Bf{st st':ak}{d:D}(hl:st'.length=st.length)(hd:under st.length d):gc st (.ok d st')=.ok d st':=by
 have e:st'.take st.length=st':=by rw[<-hl];exact kO
 unfold gc;dsimp only;by_cases h:st'=st
 ·subst h;rw[afn ⟨kO,hd⟩]
 ·rw[e,afo (λq=>h q.1)];cases d with
  | loc k =>
   dsimp only;cases st'[k]? with
   | none=>rfl
   | some o=>dsimp only;rw[afo (λq=>h q.1)]
  | _=>rfl
theorem ztv:∀(n:Nat) (xs:List Nat),(∀r,r<n->r∈xs)->n<=xs.length
 | 0,_,_=>mK _
 | n+1,xs,h=>by
  have hm:=h n 0x0;have:=ztv n (xs.erase n) λr hr=>(List.mem_erase_of_ne 0x0).mpr (h r 0x0);rw[List.length_erase_of_mem hm]at this;have:0<xs.length:=List.length_pos_of_mem hm;omega
def Ls{xs:List Nat}{n:Nat}(h:xs.length<n):∃r,r<n/\r∉xs:=by
 apply afW;intro hn;have:=ztv n xs λr hr=>afW λq=>hn ⟨r,hr,q⟩;omega
end M
namespace Law
open L2 M Tr
def zP(ns:List Int)(k:Nat):Int:=if k<ns.length then ns.getD k 0 else 7919*k+13
def Dp(ns:List Int)(n k:Nat)(st:ak)(h:aA st n=some (ns.map D.int))(hk:k<=10000):Vo [.loc n,.int k] st=.ok (.int (zP ns k)) st:=by
 have le:=DY h;rw[gm]at le;have mu:oh (.int 7919) (.int k) st=.ok (.int (7919*(k:Int))) st:=Vt st 7919 k 0x0;unfold Vo bF bw zuc zP;by_cases hl:k<ns.length
 ·have c:(k:Int)<(ns.length:Nat):=by omega
  have ix:aV (.loc n) (.int k) st=.ok (.int (ns.getD k 0)) st:=by
   refine uZ _ _ _ _ _ h ?_;rw[Nz,gK,pW];rw[gB hl];rfl
  rw[afn hl];exists ns.getD k 0,v,(ns.length:Int),L;simp[startM,le,c,ix,fV]
 ·have c:¬ (k:Int)<(ns.length:Nat):=by omega
  rw[afo hl];exists (ns.length:Int),L;simp[startM,le,c,mu,fV]
def uR(c k:Int):Int:=(c % 2147483647*48271+k*69621+11) % 2147483629
def wV(c k:Int):Int:=(uR c k*uR c k+7) % 998244353
def zr(c k:Int):Int:=(wV c k*wV c k+k) % 1000000007
def Xk(c k:Int)(st:ak):zif [.int c,.int k] st=.ok (.int (zr c k)) st:=by
 unfold zif bF bw zpg zr;have e1:(c % 2147483647*48271+k*69621+11) % 2147483629=uR c k:=rfl;have e2:(uR c k*uR c k+7) % 998244353=wV c k:=rfl;have b1:0<=uR c k/\uR c k<2147483629:=by unfold uR;omega
 have b2:0<=wV c k/\wV c k<998244353:=by unfold wV;omega
 have m1:∀s,oh (.int (c % 2147483647)) (.int 48271) s=.ok (.int (c % 2147483647*48271)) s:=λs=>Vt s _ _ 0x0;have m2:∀s,oh (.int k) (.int 69621) s=.ok (.int (k*69621)) s:=λs=>Vt s _ _ 0x0;have m3:∀s,oh (.int (uR c k)) (.int (uR c k)) s=.ok (.int (uR c k*uR c k)) s:=λs=>Vt s _ _ 0x0;have m4:∀s,oh (.int (wV c k)) (.int (wV c k)) s=.ok (.int (wV c k*wV c k)) s:=λs=>Vt s _ _ 0x0;simp[startM,zid,m1,m2,e1,m3,e2,m4,fV]
def jV(f:Bool)(v n:Int):MO:=.lst [.bl f,.int v,.int n]
def DS(st:ak)(p:Nat)(g st':ak):Prop:=∃f v n,st'=st.set p (jV f v n)++g
def jT(st:ak)(p:Nat):Prop:=∃f v n,st[p]? = some (jV f v n)
def jT.lt{st:ak}{p:Nat}(h:jT st p):p<st.length:=by
 obtain⟨f,v,n,h⟩:=h;exact (gf.mp h).1
def jT.app{st:ak}{p:Nat}(h:jT st p)(g:ak):jT (st++g) p:=by
 obtain⟨f,v,n,h⟩:=h;exact⟨f,v,n,dC h⟩
def DS.at_{st g st':ak}{p:Nat}(h:DS st p g st')(hp:p<st.length):jT st' p:=by
 obtain⟨f,v,n,rfl⟩:=h;exact⟨f,v,n,dC (k_ hp)⟩
def DS.keeps{st g st':ak}{p:Nat}(h:DS st p g st'):Keeps st st' [p]:=by
 obtain⟨f,v,n,rfl⟩:=h;exact (Keeps.set st p _).trans (Keeps.app _ g).more
def DS.refl{st:ak}{p:Nat}(h:jT st p):DS st p [] st:=by
 obtain⟨f,v,n,h⟩:=h;exact⟨f,v,n,by rw[set_same h,gr]⟩
def DS.trans{a b c g k:ak}{p:Nat}(h:DS a p g b)(h2:DS b p k c)(hp:p<a.length):DS a p (g++k) c:=by
 obtain⟨f,v,n,rfl⟩:=h;obtain⟨f2,v2,n2,rfl⟩:=h2;refine⟨f2,v2,n2,?_⟩;rw[ZX _ _ _ _ (by simpa using hp),List.set_set,gP]
def DS.len{st g st':ak}{p:Nat}(h:DS st p g st'):st'.length=st.length+g.length:=by
 obtain⟨f,v,n,rfl⟩:=h;simp
def DS.clo{st g st':ak}{p:Nat}(h:DS st p g st')(hc:bI st)(hg:bI g):bI st':=by
 obtain⟨f,v,n,rfl⟩:=h;exact (zgj _ _).mpr ⟨Ua hc rfl,hg⟩
def DS.last{st st':ak}{g:ak}{p i:Nat}{o:MO}(h:DS st p g st')(hg:g[i]? = some o):st'[st.length+i]? = some o:=by
 obtain⟨f,v,n,rfl⟩:=h;rw[h_ 0x1];simpa using hg
def Hx(p m:Nat)(st:ak)(h:jT st p)(hm:0<m)(hm2:m<=1000000):∃k st',k<m/\uY [.loc p,.int m] st=.ok (.int k) st'/\DS st p [] st':=by
 have hp:=h.lt;obtain⟨f,v,n,h⟩:=h;have it:aA st p=some [.bl f,.int v,.int n]:=by unfold aA;rw[h];rfl
 have x0:aV (.loc p) (.int 0) st=.ok (.bl f) st:=uZ _ _ _ _ _ it rfl;have x1:aV (.loc p) (.int 1) st=.ok (.int v) st:=uZ _ _ _ _ _ it rfl;have x2:aV (.loc p) (.int 2) st=.ok (.int n) st:=uZ _ _ _ _ _ it rfl;have mo:∀(i:Int) s,pX (.int i) (.int m) s=.ok (.int (i % m)) s:=λi s=>zid s i m 0x0;cases f with
 | true =>
  have fd:∀s,uh (.int v) (.int m) s=.ok (.int (v / m)) s:=λs=>zjv s v m 0x0;obtain⟨k,hk⟩:=Int.eq_ofNat_of_zero_le (Int.emod_nonneg v (show (m:Int)≠0 by omega));have hkm:k<m:=by have:=Int.emod_lt_of_pos v (show (0:Int)<m by omega);omega
  refine⟨k,st.set p (jV true (v / m) n),hkm,?_,⟨_,_,_,by rw[gr]⟩⟩;have sv:zg (.loc p) (.int 1) (.int (v / m)) st=.ok () (st.set p (jV true (v / m) n)):=by
   unfold zg;simp only[h,jV]
   rfl
  have g:=Bf (st:=st) (st':=st.set p (jV true (v / m) n)) (d:=.int k) 0x1 0x1;unfold uY bF bw znx;exists st.set p (jV true (v / m) n),Z;simp[startM,x0,jh,x1,mo,hk,fd,sv];exact g
 | false =>
  obtain⟨k,hk⟩:=Int.eq_ofNat_of_zero_le (Int.emod_nonneg (zr v (n+1) / 7) (show (m:Int)≠0 by omega));have hkm:k<m:=by have:=Int.emod_lt_of_pos (zr v (n+1) / 7) (show (0:Int)<m by omega);omega
  refine⟨k,st.set p (jV false v (n+1)),hkm,?_,⟨_,_,_,by rw[gr]⟩⟩;have sv:zg (.loc p) (.int 2) (.int (n+1)) st=.ok () (st.set p (jV false v (n+1))):=by
   unfold zg;simp only[h,jV]
   rfl
  have it2:aA (st.set p (jV false v (n+1))) p=some [.bl false,.int v,.int (n+1)]:=by unfold aA;rw[k_ hp];rfl
  have y1:aV (.loc p) (.int 1) (st.set p (jV false v (n+1)))=.ok (.int v) (st.set p (jV false v (n+1))):=uZ _ _ _ _ _ it2 rfl;have y2:aV (.loc p) (.int 2) (st.set p (jV false v (n+1)))=.ok (.int (n+1)) (st.set p (jV false v (n+1))):=uZ _ _ _ _ _ it2 rfl;have mx:=Xk v (n+1) (st.set p (jV false v (n+1)));have fd:∀s,uh (.int (zr v (n+1))) (.int 7) s=.ok (.int (zr v (n+1) / 7)) s:=λs=>zjv s _ 7 0x0;have g:=Bf (st:=st) (st':=st.set p (jV false v (n+1))) (d:=.int k) 0x1 0x1;unfold uY bF bw znx;exists st.set p (jV false v (n+1)),Z,zr v (n+1) / 7,q,zr v (n+1),q2;simp[startM,x0,jh,x2,sv,y1,y2,mx,fd,mo,hk];exact g
def zgd{mA:MA}{env:aK}{st st1:ak}(n:Nat)(h:mA env st=.ok [.int n] st1)(hn:n<=1000000):ji mA env st=.ok (o9 0 n,[]) st1:=by
 rw[Fi,h,R.aB];dsimp only;rw[afn ⟨by omega,by omega⟩,p8]
def Be{st:ak}{p:Nat}{o:MO}(hp:p<st.length)(g:ak){d:D}(hd:st.set p o=st->gc st (.ok d (st++g))=.ok d (st++g)):gc st (.ok d (st.set p o++g))=.ok d (st.set p o++g):=by
 by_cases e:st.set p o=st
 ·rw[e];exact hd e
 ·refine yx hp (λq=>e ?_);rw[gM (by simpa using hp),k_ hp]at q;exact set_same q.symm
def zq6(n:Nat)(xs:List Nat):bY n (aH xs):=by
 unfold aH
 induction xs with
 | nil=>simp
 | cons c cs ih=>simpa using ih
def Yu(xs:List Nat)(neg:Bool)(x n:Nat)(st:ak)(h:aA st n=some (aH xs)):xj 800 neg (.int x) (.loc n) st=.ok (.bl (if neg=true then !decide (x∈xs) else decide (x∈xs))) st:=by
 have f1:dw (aH xs)=true:=by
  clear h;unfold aH
  induction xs with
  | nil=>rfl
  | cons c cs ih=>simpa using ih
 have f2:((aH xs).all λe=>decide (dZ e (.int x)<800))=true:=by
  unfold aH;rw[List.all_map,List.all_eq_true];intro c _;simp[dZ]
 have f3:((aH xs).any λe=>jr e (.int x))=decide (x∈xs):=by
  unfold aH;rw[List.any_map,m8];simp[jr];exact⟨λ⟨y,hy,e⟩=>(by omega:y=x) ▸ hy,
   λhx=>⟨x,hx,rfl⟩⟩
 unfold xj;simp only[h,f1,f2,f3];rw[afn ⟨by simp,trivial,trivial⟩]
def zpm(p size many:Nat)(st:ak)(h:jT st p)(hm:many<=size)(hs:0<size)(iQ:size<=100000)(hm2:many<=1000) :
  ∃(xs:List Nat) (st':ak),xs.length=many/\xs.Nodup/\(∀x∈xs,x<size)/\zem [.loc p,.int size,.int many] st=.ok 0x2 st'/\DS st p [.lst (aH xs)] st':=by
 have hp:=h.lt;have mo:∀(i:Int) s,pX (.int i) (.int size) s=.ok (.int (i % size)) s:=λi s=>zid s i size 0x0;unfold zem bF bw zmr;generalize hC:(dM (aF (xj 800 false) (vr 5) (vr 3)):MT)=C;generalize hb:(aG 5 (aF pX #[11,bD,(vr 5)] (vr 1)):MS)=bd;generalize hB:(aC (aG 5 _) _:MS)=B
 let E:Option D->Option D->aK:=λa4 a5=>[some (.loc p),some (.int size),some (.int many),some 0x2,a4,a5]
 have cv:∀(xs:List Nat) (Z:ak) (a4:Option D) (x:Nat),aA Z st.length=some (aH xs)->C (E a4 (some (.int (x:Nat)))) Z=.ok (decide (x∈xs)) Z:=λxs Z a4 x hZ=>by
  have il:=Yu xs false x st.length Z hZ;rw[afo 0x5]at il;rw[<-hC];exact dq #[0,il]
 have bv:∀(Z:ak) (a4:Option D) (x:Nat),bd (E a4 (some (.int (x:Nat)))) Z=.ok (.nx (E a4 #[10,(((x+1) % size:Nat):Int)])) Z:=λZ a4 x=>by
  have m1:pX (.int ((x:Nat)+1:Int)) (.int size) Z=.ok (.int (((x+1) % size:Nat):Int)) Z:=by
   rw[mo];congr 2
  rw[<-hb];exact DR (aM #[0,(add_int rfl)] rfl m1)
 have wh:∀(xs:List Nat) (Z:ak) (a4:Option D),aA Z st.length=some (aH xs)->∀(j x:Nat),x<size->(x+j) % size∉xs->∃y,y<size/\y∉xs/\aZ C bd (E a4 #[10,x]) Z=.ok (.nx (E a4 #[10,y])) Z:=by
  intro xs Z a4 hZ j
  induction j with
  | zero =>
   intro x hx hf;rw[m_,Nat.mod_eq_of_lt hx]at hf;refine⟨x,hx,hf,?_⟩;rw[u0,cv xs Z a4 x hZ,R.aB,afq hf]
   rfl
  | succ j ih =>
   intro x hx hf;by_cases Yy:x∈xs
   ·obtain⟨y,y1,y2,y3⟩:=ih ((x+1) % size) (Nat.mod_lt _ hs) (by
     rw[show ((x+1) % size+j) % size=(x+(j+1)) % size by rw[Nat.mod_add_mod];congr 1;omega];exact hf)
    refine⟨y,y1,y2,?_⟩;rw[u0,cv xs Z a4 x hZ,R.aB,afs Yy,afn rfl,bv,R.aB];exact y3
   ·refine⟨x,hx,Yy,?_⟩;rw[u0,cv xs Z a4 x hZ,R.aB,afq Yy]
    rfl
 obtain⟨cC,st',hh,a4,a5,xs,hxl,hxn,j7,rfl,⟨f,v,n,rfl⟩⟩:=z8 (g:=aO 4) (b:=B) (gs:=[]) (items:=o9 0 many) (λi env s=>∃(a4 a5:Option D) (xs:List Nat),xs.length=i/\xs.Nodup/\(∀x∈xs,x<size)/\env=E a4 a5/\DS st p [.lst (aH xs)] s)
  (env:=E none none) (st:=st++[.lst []]) ⟨none,none,[],rfl,by simp,by simp,rfl,by
   obtain⟨f,v,n,q⟩:=h;exact⟨f,v,n,by rw[set_same q];rfl⟩⟩ (by
   rintro i d env s hi ⟨a4,a5,xs,hxl,hxn,j7,rfl,yS⟩;obtain⟨hi',rfl⟩:=zi0 hi;obtain⟨k,s1,hk,dr,ds1⟩:=Hx p size s (yS.at_ hp) hs 0x0;have ds2:=yS.trans ds1 hp;rw[gr]at ds2;have i2:aA s1 st.length=some (aH xs):=by
    have:=ds2.last (i:=0) rfl;unfold aA;rw[m_]at this;rw[this]
   obtain⟨r,hr,hrx⟩:=Ls (xs:=xs) (n:=size) 0x0;obtain⟨y,y1,y2,y3⟩:=wh xs s1 #[10,(0+(i:Nat))] i2 ((r+size - k) % size) k hk (by
    rw[Nat.add_mod_mod,show k+(r+size - k)=r+size by omega,Nat.add_mod_right,Nat.mod_eq_of_lt hr];exact hrx)
   have ap:aR 0x2 [.int y] s1=.ok .non (s1.set st.length (.lst (aH (xs++[y])))):=by
    have g:=ds2.last (i:=0) rfl;rw[m_]at g;unfold aR;dsimp only;rw[g];dsimp only;rw[afn (by rw[T8];omega),zpd]
   have ty:cM "list" 0x2 s1=true:=by
    have g:=ds2.last (i:=0) rfl;rw[m_]at g;simp[cM,g]
   have ds3:DS st p [.lst (aH (xs++[y]))] (s1.set st.length (.lst (aH (xs++[y])))):=by
    obtain⟨f,v,n,rfl⟩:=ds2;exact⟨f,v,n,Oz _ _ _ _ 0x1⟩
   refine⟨by simp,E #[10,(0+(i:Nat))] a5,s,rfl,E #[10,(0+(i:Nat))] #[10,y],s1.set st.length (.lst (aH (xs++[y]))),.inl ?_,_,_,xs++[y],by simp[hxl],?_,?_,rfl,ds3⟩
   ·rw[<-hB];exact b_ (bU dr rfl) ((sW y3).trans (yR (sX rfl ty rfl ap)))
   ·rw[nU];refine⟨hxn,by simp,λa ha b hb=>?_⟩;obtain rfl:=gY.mp hb;exact λe=>y2 (e ▸ ha)
   ·intro x hx;rcases mz.mp hx with hx | hx
    ·exact j7 x hx
    ·obtain rfl:=gY.mp hx;exact y1) (λ_ _ _=>by simp)
 rw[ZG]at hxl;refine⟨xs,st.set p (jV f v n)++[.lst (aH xs)],hxl,hxn,j7,?_,⟨f,v,n,rfl⟩⟩;have g:=Be (o:=jV f v n) hp [.lst (aH xs)] (d:=.loc st.length) (λ_=>Nx (o:=.lst (aH xs)) (zq6 _ _));exact bf (b_ rfl (Hf (zgd many rfl 0x0) hh (fB rfl))) rfl g
end Law
set_option maxHeartbeats 0
namespace Law
open L2 M Tr
def A_(ls:List Nat)(k:Nat)(s:ak)(hk:k<ls.length)(hl:ls.length<=1000):∃c∈ls,aV (.str ls) (.int k) s=.ok (.str [c]) s:=by
 refine⟨ls[k],pF hk,?_⟩;unfold aV;dsimp only;rw[afn 0x0,Nz,gB hk]
def Rt(ss:List Nat)(n k:Nat)(s:ak)(h:s[n]? = some (.lst (aH ss)))(hk:k<ss.length):∃x∈ss,aV (.loc n) (.int k) s=.ok (.int x) s:=by
 refine⟨ss[k],pF hk,uZ _ _ _ (aH ss) _ (by unfold aA;rw[h]) ?_⟩;rw[Nz];unfold aH;rw[gK,gB hk];rfl
section
variable  {env:aK}{p i:Nat}{s:ak}
def zji(h0:env[0]? = some (some (.loc p)))(n:Nat)(hi:env[i]? = some (some (.loc n)))(ss:List Nat)(hn:s[n]? = some (.lst (aH ss)))(qb:n≠p)(hd:jT s p)(h1:0<ss.length)(h2:ss.length<=1000) :
  ∃x∈ss,∃s',aF aV (vr i) (az uY [] #[3,0,(bh cR #[7,i])]) env s=.ok (.int x) s'/\DS s p [] s':=by
 have le:=DY (st:=s) (n:=n) (ds:=aH ss) (by unfold aA;rw[hn]);rw[T8]at le;obtain⟨k,s',hk,dr,ds⟩:=Hx p ss.length s hd h1 0x0;obtain⟨x,hx,ix⟩:=Rt ss n k s' (ds.keeps _ _ (by simpa using qb) hn) hk;refine⟨x,hx,s',?_,ds⟩;simp[h0,hi,le,dr,ix]
def zh4(h0:env[0]? = some (some (.loc p)))(signs:List Nat)(hi:env[i]? = some (some (.str signs)))(hd:jT s p)(h2:signs.length<=900) :
  ∃c∈95::signs,∃s',aF aV (aF bD #[2,[95]] (vr i)) (az uY [] #[3,0,#[11,bD,(bh cR #[7,i])]]) env s=.ok (.str [c]) s'/\DS s p [] s':=by
 have le:cR [.str signs] s=.ok (.int signs.length) s:=zh9 _ signs 0x0;obtain⟨k,s',hk,dr,ds⟩:=Hx p (signs.length+1) s hd 0x0 0x0;obtain⟨c,hc,ix⟩:=A_ (95::signs) k s' (by simpa using hk) 0x9;refine⟨c,hc,s',?_,ds⟩;have ad:bD (.str [95]) (.str signs) s=.ok (.str (95::signs)) s:=by
  have:1+signs.length<=1000000:=by omega
  simp[bD,this]
 have e:(signs.length:Int)+1=((signs.length+1:Nat):Int):=by omega
 generalize ((signs.length+1:Nat):Int)=q at *;exists (signs.length:Int),q2;simp[h0,hi,ad,le,e,dr,ix]
end
def yo(rs:List Ru):List (List Key×D):=rs.map λr=>([.inl (r.s:Int),.inr (strOf [r.x])],D.bl true)
def Ra(rs:List Ru)(s x:Nat):(jf (yo rs) [.inl (s:Int),.inr (strOf [x])]).isSome=decide (∃r∈rs,r.s=s/\r.x=x):=by
 rw[m8,afC];unfold yo
 induction rs with
 | nil=>simp
 | cons r rs ih =>
  rw[gq,ZW];by_cases e:r.s=s/\r.x=x
  ·rw[afn (by rw[e.1,e.2])];simp only[Option.isSome_some,true_iff];exact⟨r,by simp,e⟩
  ·rw[afo (λz=>e (by
    injection z with z1 z2;injection z2 with z2 _;have h1:=Sum.inl.inj z1;have h2:=Ny.mp (afM z2);exact⟨by omega,by simpa using h2⟩)),ih]
   constructor
   ·rintro ⟨q,hq,h⟩;exact⟨q,by simp[hq],h⟩
   ·rintro ⟨q,hq,h⟩;rcases gj.mp hq with rfl | hq
    ·exact absurd h e
    ·exact⟨q,hq,h⟩
def Io(p ns many:Nat)(signs ss:List Nat)(st:ak)(h:jT st p)(hn:st[ns]? = some (.lst (aH ss)))(qb:ns≠p)(h1:0<ss.length)(h2:ss.length<=1000)(h3:signs.length<=900)(hm:many<=1000) :
  ∃(rs:List Ru) (g st':ak),rs.length<=many/\(rs.map λr=>(r.s,r.x)).Nodup/\(∀r∈rs,r.s∈ss/\r.x∈95::signs/\r.w∈95::signs/\r.g∈ss)/\bI g/\zia [.loc p,.str signs,.loc ns,.int many] st=.ok 0x2 st'/\DS st p (.lst (rs.map fG)::g) st':=by
 have hp:=h.lt;have hnl:=(gf.mp hn).1;unfold zia bF bw zpa;generalize hB:(aC (aG 7 _) _:MS)=B
 let E:Option D->Option D->Option D->Option D->Option D->Option D->aK:=λa6 a7 a8 a9 Oo Nk=>[some (.loc p),some (.str signs),some (.loc ns),some (.int many),some 0x2,some (.loc 0xc),a6,a7,a8,a9,Oo,Nk]
 obtain⟨cC,st',hh,a6,a7,a8,a9,Oo,Nk,rs,q1,q2,q3,rfl,⟨f,v,n,rfl⟩⟩:=z8 (g:=aO 6) (b:=B) (gs:=[]) (items:=o9 0 many) (λi env s=>∃(a6 a7 a8 a9 Oo Nk:Option D) (rs:List Ru),rs.length<=i/\(rs.map λr=>(r.s,r.x)).Nodup/\(∀r∈rs,r.s∈ss/\r.x∈95::signs/\r.w∈95::signs/\r.g∈ss)/\env=E a6 a7 a8 a9 Oo Nk/\DS st p [.lst (rs.map fG),.dic (yo rs)] s)
  (env:=E none none none none none none) (st:=st++[.lst []]++[.dic []]) ⟨none,none,none,none,none,none,[],by simp,by simp,by simp,rfl,by
   obtain⟨f,v,n,q⟩:=h;exact⟨f,v,n,by rw[set_same q,gP];rfl⟩⟩ (by
   rintro i d env s hi ⟨a6,a7,a8,a9,Oo,Nk,rs,q1,q2,q3,rfl,yS⟩;obtain⟨hi',rfl⟩:=zi0 hi;generalize hI:D.int (0+(i:Nat))=iD;have RP:s[ns]? = some (.lst (aH ss)):=yS.keeps _ _ (by simpa using qb) hn;obtain⟨x1,hx1,s1,e1,d1⟩:=zji (env:=E (some iD) a7 a8 a9 Oo Nk) (i:=2) (s:=s) (p:=p) rfl ns rfl ss RP qb (yS.at_ hp) h1 h2;have D1:=yS.trans d1 hp;rw[gr]at D1;obtain⟨x2,RG,s2,e2,d2⟩:=zh4 (env:=E (some iD) #[10,x1] a8 a9 Oo Nk) (i:=1) (s:=s1) (p:=p) rfl signs rfl (D1.at_ hp) h3;have D2:=D1.trans d2 hp;rw[gr]at D2;obtain⟨x3,hx3,s3,e3,d3⟩:=zh4 (env:=E (some iD) #[10,x1] (some (.str [x2])) a9 Oo Nk) (i:=1) (s:=s2) (p:=p) rfl signs rfl (D2.at_ hp) h3;have D3:=D2.trans d3 hp;rw[gr]at D3;obtain⟨k4,s4,hk4,e4,d4⟩:=Hx p 2 s3 (D3.at_ hp) 0x0 0x0;have D4:=D3.trans d4 hp;rw[gr]at D4
   let mb:Bool:=decide (k4=0)
   have ix4:aV (.str [108,114]) (.int k4) s4=.ok (.str (Hm mb)) s4:=by
    rcases (by omega:k4=0\/k4=1) with rfl | rfl<;>rfl
   have hn4:s4[ns]? = some (.lst (aH ss)):=D4.keeps _ _ (by simpa using qb) hn;obtain⟨x5,hx5,s5,e5,d5⟩:=zji (env:=E (some iD) #[10,x1] (some (.str [x2])) (some (.str [x3])) (some (.str (Hm mb))) Nk) (i:=2) (s:=s4) (p:=p) rfl ns rfl ss hn4 qb (D4.at_ hp) h1 h2;have D5:=D4.trans d5 hp;rw[gr]at D5;have g0:=D5.last (i:=0) rfl;have g1:=D5.last (i:=1) rfl;rw[m_]at g0
   let r:Ru:=⟨x1,x2,x3,mb,x5⟩
   let EF:aK:=E (some iD) #[10,x1] (some (.str [x2])) (some (.str [x3])) (some (.str (Hm mb))) #[10,x5]
   have kk:=zmk (x1:Nat) x2;have ind:Gj true (.tup [.int x1,.str [x2]]) (.loc 0xc) s5=.ok (.bl (!decide (∃r∈rs,r.s=x1/\r.x=x2))) s5:=by
    unfold Gj;simp only[g1,kk];rw[afn trivial,Ra]
   by_cases hex:∃r∈rs,r.s=x1/\r.x=x2
   ·rw[afs hex]at ind;refine⟨by simp,E (some iD) a7 a8 a9 Oo Nk,s,rfl,EF,s5,.inl ?_,_,_,_,_,_,_,rs,by omega,q2,q3,rfl,D5⟩;rw[<-hB];exact b_ e1 (b_ e2 (b_ e3 (b_ (aM rfl (bU e4 rfl) ix4) (b_ e5 (Ow #[17,(tu rfl),ind])))))
   ·rw[afq hex]at ind;have sd:zj (.loc 0xc) (.tup [.int x1,.str [x2]]) (.bl true) s5=.ok () 0x22:=by
     unfold zj;simp only[g1,kk];rw[afn (by simp[yo];omega)];congr 3;unfold Qg;rw[afo]
     ·simp[yo,r]
     ·simp only[yo,pq,afC,not_exists,not_and];intro q hq e;obtain⟨r',RK,rfl⟩:=gh.mp hq;injection e with z1 z2;injection z2 with z2 _;have w1:=Sum.inl.inj z1;have w2:=Ny.mp (afM z2);exact hex ⟨r',RK,by omega,by simpa using w2⟩
    have D6:DS st p [.lst (rs.map fG),.dic (yo (rs++[r]))] 0x22:=by
     obtain⟨f,v,n,rfl⟩:=D5;refine⟨f,v,n,?_⟩;rw[ph,afo 0x1];simp
    have h6:0x22[st.length]? = some (.lst (rs.map fG)):=D6.last (i:=0) rfl;have ap:aR 0x2 [fG r] 0x22=.ok .non (0x22.set st.length (.lst ((rs++[r]).map fG))):=by
     unfold aR;simp only[h6];rw[afn 0x9];simp
    rw[Nv r]at ap;have ty:cM "list" 0x2 0x22=true:=by
     simp only[cM,h6]
     rfl
    have D7:DS st p [.lst ((rs++[r]).map fG),.dic (yo (rs++[r]))] (0x22.set st.length (.lst ((rs++[r]).map fG))):=by
     obtain⟨f,v,n,e⟩:=D6;refine⟨f,v,n,?_⟩;rw[e,ph,afo 0x1];simp
    refine⟨by simp,E (some iD) a7 a8 a9 Oo Nk,s,rfl,EF,0x22.set st.length (.lst ((rs++[r]).map fG)),.inl ?_,_,_,_,_,_,_,rs++[r],by simp;omega,?_,?_,rfl,D7⟩
    ·rw[<-hB];exact b_ e1 (b_ e2 (b_ e3 (b_ (aM rfl (bU e4 rfl) ix4) (b_ e5 (qP #[17,(tu rfl),ind] (yd rfl (ZD rfl (tu rfl) sd) (yR (sX rfl ty #[6,(tu rfl)] ap))))))))
    ·rw[mC,nU];refine⟨q2,by simp,λa ha c hc=>?_⟩;obtain⟨r',RK,rfl⟩:=gh.mp ha;simp only[gq,m7,gY]at hc;subst hc;intro e;injection e with w1 w2;exact hex ⟨r',RK,w1,w2⟩
    ·intro r' RK;rcases mz.mp RK with RK | RK
     ·exact q3 r' RK
     ·obtain rfl:=gY.mp RK;exact⟨hx1,RG,hx3,hx5⟩) (λ_ _ _=>by simp)
 rw[ZG]at q1;have un:bY st.length (rs.map fG):=by
  have:=zou st.length (rs.map dI);rwa[zie]at this
 by_cases es:st.set p (jV f v n)=st
 ·refine⟨rs,[],st++[.lst (rs.map fG)],q1,q2,q3,by simp,?_,⟨f,v,n,by rw[es]⟩⟩;refine bf (b_ rfl (b_ (d:=.loc 0xc) 0x1 (Hf (zgd many rfl 0x0) hh (fB rfl)))) rfl ?_;rw[es];have gn:=Vg (st:=st) (g:=[]) (g':=[.dic (yo rs)]) (o:=.lst (rs.map fG)) un;rw[gr]at gn;exact gn
 ·refine⟨rs,[.dic (yo rs)],st.set p (jV f v n)++[.lst (rs.map fG),.dic (yo rs)],q1,q2,q3,by simp,?_,⟨f,v,n,rfl⟩⟩;exact bf (b_ rfl (b_ (d:=.loc 0xc) 0x1 (Hf (zgd many rfl 0x0) hh (fB rfl)))) rfl (Be (o:=jV f v n) hp _ (d:=.loc st.length) (λe=>absurd e es))
end Law
set_option maxHeartbeats 0
namespace Law
open L2 M Tr
def BW(p most:Nat)(signs:List Nat)(st:ak)(h:jT st p)(h3:signs.length<=900)(hm:most<=1000) :
  ∃(cs:List Nat) (st':ak),cs.length<=most/\(∀c∈cs,c∈95::signs)/\zi5 [.loc p,.str signs,.int most] st=.ok (.str cs) st'/\DS st p [] st':=by
 have hp:=h.lt;obtain⟨m,s0,hmk,dr,d0⟩:=Hx p (most+1) st h 0x0 0x0;unfold zi5 bF bw zt0;generalize hB:(aG 3 (aF bD (vr 3) _):MS)=B
 let E:D->Option D->aK:=λd3 a4=>[some (.loc p),some (.str signs),some (.int most),some d3,a4]
 obtain⟨cC,st',hh,a4,cs,q1,q2,rfl,q3⟩:=z8 (g:=aO 4) (b:=B) (gs:=[]) (items:=o9 0 m) (λi env s=>∃(a4:Option D) (cs:List Nat),cs.length=i/\(∀c∈cs,c∈95::signs)/\env=E (.str cs) a4/\DS st p [] s)
  (env:=E (.str []) none) (st:=s0) ⟨none,[],rfl,by simp,rfl,d0⟩ (by
   rintro i d env s hi ⟨a4,cs,q1,q2,rfl,yS⟩;obtain⟨hi',rfl⟩:=zi0 hi;generalize hI:D.int (0+(i:Nat))=iD;obtain⟨c,hc,s1,e1,d1⟩:=zh4 (env:=E (.str cs) (some iD)) (i:=1) (s:=s) (p:=p) rfl signs rfl (yS.at_ hp) h3;have D1:=yS.trans d1 hp;refine⟨by simp,E (.str cs) (some iD),s,rfl,E (.str (cs++[c])) (some iD),s1,.inl ?_,_,cs++[c],by simp[q1],?_,rfl,D1⟩
   ·rw[<-hB];exact DR (aM rfl e1 (add_str 0x9))
   ·intro x hx;rcases mz.mp hx with hx | hx
    ·exact q2 x hx
    ·obtain rfl:=gY.mp hx;exact hc) (λ_ _ _=>by simp)
 rw[ZG]at q1;refine⟨cs,st',by omega,q2,?_,q3⟩;exact bf (b_ rfl (Hf (zgd m #[6,(bU dr #[12,#[0,(add_int 0x0)]])] 0x0) hh (fB rfl))) rfl (Bf (by rw[q3.len];rfl) 0x1)
def Ja(n:Nat)(ds:List D)(st:ak)(h:st[n]? = some (.lst ds))(hf:dw ds=true)(hd:deps ds<=100):M.wB 800 (.loc n) 0x2 (st++[.lst []])=.ok (.bl (!ds.isEmpty)) (st++[.lst []]):=by
 have h1:aA (st++[.lst []]) n=some ds:=by unfold aA;rw[dC h]
 have h2:aA (st++[.lst []]) st.length=some []:=by simp[aA]
 have e:jU 800 (.loc n) 0x2 (st++[.lst []])=some ds.isEmpty:=by
  simp only[jU,h1,h2];rw[afn ⟨hf,by simp,by simp⟩];cases ds<;>simp[j8]
 unfold M.wB;rw[e]
def zs0(rs:List Ru):dw (rs.map fG)=true/\deps (rs.map fG)<=100:=by
 have h1:=zrn (rs.map dI);have h2:=zug (rs.map dI);rw[zie]at h1 h2;exact⟨h1,by omega⟩
def Ia(p nr ns most:Nat)(signs ss:List Nat)(rs:List Ru)(st:ak)(h:jT st p)(hr:st[nr]? = some (.lst (rs.map fG)))(hnr:nr≠p)(hn:st[ns]? = some (.lst (aH ss)))(qb:ns≠p)(h1:0<ss.length)(h2:ss.length<=1000)(h3:signs.length<=900)(hm:most<=900)(hrl:rs.length<=1000)
  (hrs:∀r∈rs,r.s∈ss/\r.x∈95::signs) :
  ∃(z:Sd) (g st':ak),z.s∈ss/\z.c∈95::signs/\(∀c∈z.a,c∈95::signs)/\(∀c∈z.b,c∈95::signs)/\z.a.length<=most/\z.b.length<=most/\bI g/\zig [.loc p,.loc nr,.str signs,.loc ns,.int most] st=.ok (dh z) st'/\DS st p g st':=by
 have hp:=h.lt
 let E:Option D->Option D->Option D->Option D->aK:=λa5 a6 a7 a8=>[some (.loc p),some (.loc nr),some (.str signs),some (.loc ns),some (.int most),a5,a6,a7,a8]
 obtain⟨x1,hx1,s1,e1,D1⟩:=zji (env:=E none none none none) (i:=3) (s:=st) (p:=p) rfl ns rfl ss hn qb h h1 h2;obtain⟨x2,RG,s2,e2,d2⟩:=zh4 (env:=E #[10,x1] none none none) (i:=2) (s:=s1) (p:=p) rfl signs rfl (D1.at_ hp) h3;have D2:=D1.trans d2 hp;rw[gr]at D2;have YG:s2[nr]? = some (.lst (rs.map fG)):=D2.keeps _ _ (by simpa using hnr) hr;have l2:s2.length=st.length:=D2.len;have ne:=Ja nr (rs.map fG) s2 YG (zs0 rs).1 (zs0 rs).2;have D2':DS st p [.lst []] (s2++[.lst []]):=by
  obtain⟨f,v,n,e⟩:=D2;exact⟨f,v,n,by rw[e,gr]⟩
 have l3:s2.length=(s2:ak).length:=rfl

 have mid:∃(xs xc:Nat) (a7:Option D) (s3:ak),xs∈ss/\xc∈95::signs/\DS st p [.lst []] s3/\fu (jC (dM (aF (M.wB 800) (vr 1) (eQ au))) (dM #[25,Y5,(az uY [] #[3,0,#[5,4]])])) (aC (aG 7 (aF aV (vr 1) (az uY [] #[3,0,(bh cR #[7,1])])))
   (aC (aG 5 #[1,7,0]) (aG 6 #[1,7,1]))) bB (E #[10,x1] (some (.str [x2])) none none) s2=.ok (.nx (E #[10,xs] (some (.str [xc])) a7 none)) s3:=by
  cases YD:rs with
  | nil =>
   rw[YD]at ne;refine⟨x1,x2,none,s2++[.lst []],hx1,RG,D2',?_⟩;simp only[E];rw[show (List.map fG []).isEmpty=true from rfl]at ne;simp[ne]
  | cons r0 rs0 =>
   rw[YD]at ne;rw[show (List.map fG (r0::rs0)).isEmpty=false from rfl]at ne;have hl0:0<rs.length:=by rw[YD];simp
   obtain⟨k,s3,hk,e3,d3⟩:=Hx p 4 (s2++[.lst []]) (D2'.at_ hp) 0x0 0x0;rw[show ((4:Nat):Int)=4 from rfl]at e3;have D3:=D2'.trans d3 hp;rw[gr]at D3;by_cases hk0:k=0
   ·subst hk0;refine⟨x1,x2,none,s3,hx1,RG,D3,?_⟩;simp only[E];simp[ne,e3]
   ·have YF:s3[nr]? = some (.lst (rs.map fG)):=D3.keeps _ _ (by simpa using hnr) hr;have it3:aA s3 nr=some (rs.map fG):=by unfold aA;rw[YF]
    have le:=DY it3;rw[gm]at le;obtain⟨j,s4,hj,e4,d4⟩:=Hx p rs.length s3 (D3.at_ hp) hl0 0x0;have D4:=D3.trans d4 hp;rw[gr]at D4;have hr4:s4[nr]? = some (.lst (rs.map fG)):=D4.keeps _ _ (by simpa using hnr) hr;have ix:aV (.loc nr) (.int j) s4=.ok (fG rs[j]) s4:=by
     refine uZ _ _ _ (rs.map fG) _ (by unfold aA;rw[hr4]) ?_;rw[Nz,gK,gB hj];rfl
    have y0:∀s',aV (fG rs[j]) (.int 0) s'=.ok (.int (rs[j].s:Nat)) s':=λs'=>by rw[Nv];exact Eb s' 0 _ _ rfl
    have y1:∀s',aV (fG rs[j]) (.int 1) s'=.ok (.str [rs[j].x]) s':=λs'=>by rw[Nv];exact Eb s' 1 _ _ rfl
    have hm:=hrs rs[j] (pF hj);refine⟨rs[j].s,rs[j].x,some (fG rs[j]),s4,hm.1,hm.2,D4,?_⟩;have ck:(k:Int) > 0:=by omega
    simp only[E];exists fG rs[j],RD;generalize ((rs[j].s:Nat):Int)=Q1 at *;exists (rs.length:Int),Q2,(k:Int),Q3;simp[ne,e3,ck,le,e4,ix,y0,y1]
 obtain⟨xs,xc,a7,s3,m1,m2,D3,t3⟩:=mid;obtain⟨la,s4,la1,la2,e4,d4⟩:=BW p most signs s3 (D3.at_ hp) h3 0x0;have D4:=D3.trans d4 hp;rw[gr]at D4;obtain⟨rb,s5,rb1,rb2,e5,d5⟩:=BW p most signs s4 (D4.at_ hp) h3 0x0;have D5:=D4.trans d5 hp;rw[gr]at D5
 let z:Sd:=⟨xs,la.reverse,xc,rb⟩
 have ez:dh z=.tup [.int xs,.str la,.str [xc],.str rb]:=by simp[dh,z]
 have body:zpw (E none none none none) st=.ok (.rt (dh z)) s5:=by
  refine b_ e1 (b_ e2 ((sW t3).trans (b_ (bU e4 rfl) ?_)));rw[ez];exact fB (tu (aW rfl (aW rfl #[12,(bU e5 rfl)])))
 have ad8:∃g st',bI g/\gc st (.ok (dh z) s5)=.ok (dh z) st'/\DS st p g st':=by
  obtain⟨f,v,n,e⟩:=D5;by_cases es:st.set p (jV f v n)=st
  ·refine⟨[],st,by simp,?_,⟨f,v,n,by rw[es,gr]⟩⟩;rw[e,es];exact sZ (by simp[dh])
  ·refine⟨[.lst []],s5,by simp,?_,⟨f,v,n,e⟩⟩;rw[e];exact Be (o:=jV f v n) hp _ (d:=dh z) (λq=>absurd q es)
 obtain⟨g,st',hg,RQ,hD⟩:=ad8;refine⟨z,g,st',m1,m2,λc hc=>la2 c (by simpa[z] using hc),rb2,by simpa[z] using la1,rb1,hg,?_,hD⟩;unfold zig bF bw;rw[show startM 9 [D.loc p,.loc nr,.str signs,.loc ns,.int most]=E none none none none from rfl,body];exact RQ
end Law
set_option maxHeartbeats 0
namespace Law
open L2 M Tr
def Dv{α:Type}(l:List α)(x:α):qj (l++[x]) (-1)=some x:=by
 unfold qj z_;rw[afo 0x0,afn 0x9];have:((-1:Int)+((l++[x]).length:Nat)).toNat=l.length:=by simp;omega
 rw[this];simp
def G9(a:List Nat)(c:Nat):qj ((c::a).reverse) (-1)=some c:=by rw[mV];exact Dv _ _
def Mv{α:Type}(xs:List α):cut xs none (some (-1))=xs.dropLast:=Mt xs
def Cy(B:Bk)(nr:Nat)(z:Sd)(st:ak)(hr:st[nr]? = some (.lst (B.rs.map fG)))(ha:z.a.length<=1000)(hb:z.b.length<=1000) :
  zju [.loc nr,dh z] st=.ok (match sU B z with | some z'=>dh z' | none=>.non) st:=by
 unfold zju bF bw zur;generalize Oj:(fu (jC _ _) _ _:MS)=BD
 let E:Option D->Option D->aK:=λa2 a3=>[some (.loc nr),some (dh z),a2,a3]

 have no:∀(r:Ru) (a3:Option D),¬ (r.s=z.s/\r.x=z.c)->BD (E (some (fG r)) a3) st=.ok (.nx (E (some (fG r)) a3)) st:=λr a3 hn=>by
  rw[<-Oj,Nv];by_cases h1:r.s=z.s
  ·refine Ow (zpt (dq (aM #[0,dR] #[0,dR] (by rw[h1];exact Vk))) (dq (aM #[0,dR] #[0,dR] ?_)));rw[eq_str,afq (λe=>hn ⟨h1,by simpa using e⟩)]
  ·refine Ow (Dw (dq (aM #[0,dR] #[0,dR] ?_)));rw[eq_int,afq 0x0]
 have yes:∀(r:Ru) (a3:Option D),r.s=z.s/\r.x=z.c->BD (E (some (fG r)) a3) st=.ok (.rt (dh (xn r z))) st:=λr a3 hy=>by
  rw[<-Oj,Nv,hy.1,hy.2];refine qP (zpt (dq (aM #[0,dR] #[0,dR] Vk)) (dq (aM #[0,dR] #[0,dR] ZQ))) ?_;obtain⟨zs,za,zc,zb⟩:=z;cases hm:r.m with
  | false =>
   rw[show dh (xn r ⟨zs,za,zc,zb⟩)=.tup [.int r.g,.str (za.reverse++[r.w]),.str [zb.headD 95],.str zb.tail] by simp[xn,hm,dh]];obtain⟨U,Y,m1,aa,ii,cc⟩:∃U Y,tW (.str [95]) (.bl (decide (zb=[]))) st=.ok (.str U) st/\bD (.str zb) (.str U) st=.ok (.str Y) st/\aV (.str Y) (.int 0) st=.ok (.str [zb.headD 95]) st/\xY (.str Y) (some 1) none st=.ok (.str zb.tail) st:=by
    cases zb with
    | nil=>exact⟨[95],[95],rfl,rfl,rfl,rfl⟩
    | cons c t =>
     have hl:(c::t).length<=1000000:=by dsimp only at hb;omega
     refine⟨[],c::t,rfl,?_,?_,?_⟩
     ·rw[add_str (by simpa using hl),gr]
     ·unfold aV;dsimp only;rw[afn hl,show (0:Int)=((0:Nat):Int) from rfl,Nz];rfl
     ·rw[ZM _ _ _ _ hl,show (1:Int)=((1:Nat):Int) from rfl,zom];rfl
   exact xN (qP #[17,#[0,dR],ZQ] (b_ (aM #[0,dR] (aM rfl (aM #[0,dR] rfl eq_str) m1) aa) (fB (tu (aW #[0,dR] (aW (aM #[0,dR] #[0,dR] (add_str (by simp;dsimp only at ha;omega))) (aW #[0,ii] #[6,(TY rfl rfl rfl cc)])))))))
  | true =>
   rw[show dh (xn r ⟨zs,za,zc,zb⟩)=.tup [.int r.g,.str za.tail.reverse,.str [za.headD 95],.str (r.w::zb)] by simp[xn,hm,dh]];obtain⟨U,Y,m1,aa,ii,cc⟩:∃U Y,tW (.str [95]) (.bl (decide (za.reverse=[]))) st=.ok (.str U) st/\bD (.str U) (.str za.reverse) st=.ok (.str Y) st/\aV (.str Y) (.int (-1)) st=.ok (.str [za.headD 95]) st/\xY (.str Y) none (some (-1)) st=.ok (.str za.tail.reverse) st:=by
    cases za with
    | nil=>exact⟨[95],[95],rfl,rfl,rfl,rfl⟩
    | cons c t =>
     have hl:(c::t).reverse.length<=1000000:=by simp at ha ⊢;omega
     refine⟨[],(c::t).reverse,by rw[afq 0x1];rfl,?_,?_,?_⟩
     ·rw[add_str (by simpa using hl),kI]
     ·unfold aV;dsimp only;rw[afn hl,G9];rfl
     ·rw[ZM _ _ _ _ hl,Mv];simp
   exact (sW (Ow #[17,#[0,dR],eq_str])).trans (b_ (aM (aM rfl (aM #[0,dR] rfl eq_str) m1) #[0,dR] aa) (fB (tu (aW #[0,dR] (aW (TY rfl rfl rfl cc) (aW #[0,ii] #[6,(aM #[0,dR] #[0,dR] (add_str (a:=[r.w]) (b:=zb) (by simp;dsimp only at hb;omega)))]))))))
 have key:∀(rs:List Ru) (a2 a3:Option D),(∃Vc,cA (aO 2) BD [(nr,.lst (B.rs.map fG))] (rs.map fG) (E a2 a3) st=.ok (.nx (E Vc a3)) st/\(rs.find? λr=>decide (r.s=z.s) && decide (r.x=z.c))=none)\/∃r,cA (aO 2) BD [(nr,.lst (B.rs.map fG))] (rs.map fG) (E a2 a3) st=.ok (.rt (dh (xn r z))) st/\(rs.find? λr=>decide (r.s=z.s) && decide (r.x=z.c))=some r:=by
  intro rs
  induction rs with
  | nil=>intro a2 a3;exact .inl ⟨a2,by rw[m7,cA,afn (yX hr)],rfl⟩
  | cons r rs ih =>
   intro a2 a3;by_cases hy:r.s=z.s/\r.x=z.c
   ·refine .inr ⟨r,?_,by rw[mq];simp[hy.1,hy.2]⟩;rw[gq,cA,afn (yX hr),zvd,R.aB];change (BD (E (some (fG r)) a3) st).bind _=_;rw[yes r a3 hy,R.aB]
   ·have hd:(decide (r.s=z.s) && decide (r.x=z.c))=false:=by
     rw[pL];by_cases q:r.s=z.s
     ·exact .inr (afq λe=>hy ⟨q,e⟩)
     ·exact .inl (afq q)
    rw[gq,cA,afn (yX hr),zvd,R.aB,mq,hd];change ((∃Vc,(BD (E (some (fG r)) a3) st).bind _=_/\_)\/∃r',(BD (E (some (fG r)) a3) st).bind _=_/\_);rw[no r a3 hy,R.aB];exact ih (some (fG r)) a3
 have si:iC (vr 0) (E none none) st=.ok (B.rs.map fG,[(nr,.lst (B.rs.map fG))]) st:=by
  rw[zuf];simp only[E,Ff,nT,R.aB,hr]
 unfold sU Dg;rcases key B.rs none none with⟨a2,h1,h2⟩ | ⟨r,h1,h2⟩
 ·rw[h2];exact bf (Hf si h1 (fB rfl)) rfl (fV 0x1)
 ·rw[h2];exact bf (xN (by rw[Ak];exact (congrArg (R.bind · _) si).trans h1)) rfl (fV (by simp[dh]))
end Law
namespace M
namespace Tr
theorem zjo{x y:List Nat}(h:y≠x):∀t,stands y t=true->stands y (out x t).1=true
 | .lf s,e=>by
  have es:s=y:=afx e;have:outF x (.lf s)=none:=by rw[outF,afo (by rw[es];exact h)]
  rw[out,this];show (_ || stands y (.lf s))=true;rw[e,Bool.or_true]
 | .jn l r,e=>by
  by_cases h1:(val 0x3 && !stands x 0x3)=true
  ·rw[Vv x h1];show (_ || stands y 0x3)=true;rw[e,Bool.or_true]
  ·by_cases h2:((val l && !stands x l) && iI x r)=true
   ·rw[gG]at h2;rw[zf1 x h2.1 h2.2];rw[stands,nY]at e;rcases e with e | e
    ·exact e
    ·rw[zi3.mp h2.2]at e;exact absurd (afx e).symm h
   ·rw[ziq x (by simpa using h1) (by simpa using h2)];rw[stands,nY]at e;show ((_ || stands y (out x l).1) || stands y (out x r).1)=true;rcases e with e | e
    ·rw[zjo h l e];simp
    ·rw[zjo h r e];simp
theorem zl3{y:List Nat}{t:Tr}:∀xs:List (List Nat),(∀x∈xs,y≠x)->stands y t=true->stands y (bV t xs)=true
 | [],_,e=>e
 | x::xs,h,e=>by
  rw[bV];exact zjo (h x 0x1) _ (zl3 xs (λz hz=>h z (by simp[hz])) e)
theorem Ik{f g:List Nat->Option Tr}{y:List Nat}:∀t,stands y t=true->sb f t=sb g t->sb f (.lf y)=sb g (.lf y)
 | .lf s,e,q=>by rw[<-afx e];exact q
 | .jn l r,e,q=>by
  rw[sb,sb]at q;injection q with q1 q2;rw[stands,nY]at e;rcases e with e | e
  ·exact Ik l e q1
  ·exact Ik r e q2
def Ip{ls:List Nat}{n n':Tr}{d d':Nat->Tr}(h:PX ls n d=PX ls n' d'):n=n':=by
 have s:stands [110] (cI ls)=true:=by
  unfold cI cF;rw[show ∀A:List Tr,A++[[110],[102],[108],[114]].map Tr.lf=A++[.lf [110]]++[.lf [102]]++[.lf [108]]++[.lf [114]] from λA=>by simp,Ub,Ub,Ub,Ub];simp[stands]
 have:=Ik _ (zl3 eG 0x5 s) h;simpa[sb,look] using this
end Tr
end M
namespace Law
open L2 M Tr
def Ph{B:Bk}{s s':Nat}(hs:s∈B.ss)(lH:s'∈B.ss)(h:lD B s=lD B s'):s=s':=by
 unfold lD hold at h;simp only[List.foldl]at h;injection h with h _;injection h with _ h;injection h with _ h;injection h with _ h;have:=Ip h;unfold wQ at this;have e:=congrArg cntK this;rw[zen,zen]at e;have q:=Ec hs;rw[e,Ec lH]at q;exact (afr q).symm
def zhv{B:Bk}{b:Nat}{st:ak}(hB:Ac B)(hb:Bs st)(hk:jJ st b B)(z:Sd)(hz:yM B z)(ha:z.a.length<=900)(qd:z.b.length<=900):zby [.loc b,enc (iJ B z)] st=.ok (dh z) st:=by
 have hss:=hB.ss
 let H:MO:=.lst ([iG B z.a,dD B z.c,iG B z.b].map enc)
 obtain⟨fs,ns,nk,nt,nm,ml,mr,nr,zq,h1,h2,h3,_⟩:=hk.ex;have hh:=zk4 [iG B z.a,dD B z.c,iG B z.b] st (λt ht=>by
  simp only[gj,kh,afI]at ht;rcases ht with rfl | rfl | rfl
  ·exact Bt _
  ·exact yW _
  ·exact Bt _) 0x1
 have so:=zhf hB (hb.app (g:=[H]) (by simp[H])) (hk.mono (Keeps.app st [H])) z hz ha qd st.length 0x15;unfold zby bF bw zge;generalize Oj:(fu (dM _) (retS _) bB:MS)=BD
 let E:Option D->Option D->aK:=λa2 a3=>[some (.loc b),some (enc (iJ B z)),a2,a3]
 let L:List D:=(B.ss.map (lD B)).map enc
 have lL:L.length=B.ss.length:=by simp[L]
 have hi:=Hy hz.s;have key:∀d k,k+d=bW B.ss z.s->∀a2 a3,cA (tE 2 (dO (aO 2) (dO (aO 3) uQ))) BD [(zq,.lst L)] ((dz 0 L).drop k) (E a2 a3) st=.ok (.rt (dh z)) (st++[H]):=by
  intro d
  induction d with
  | zero =>
   intro k hk0 a2 a3;rw[m_]at hk0;have g:(dz 0 L)[k]? = some (.tup [.int k,enc (lD B z.s)]):=by
    rw[zfw];simp only[L,hk0,gK,Ec hz.s];simp
   obtain⟨Dd,Lg⟩:=gf.mp g;rw[mX Dd,Lg,cA,afn (yX h3)];have eq:M.iw 800 (enc (lD B z.s)) (enc (lD B z.s)) st=.ok (.bl true) st:=by have:=zp0 (lD B z.s) (lD B z.s) st (by have:=Bl hB.ok hB.few hz.s;omega);simpa using this
   have w:BD (E #[10,k] (some (enc (lD B z.s)))) st=.ok (.rt (dh z)) (st++[H]):=by
    rw[<-Oj,hk0];exact qP (dq (aM rfl #[0,(xF _ _ _)] eq)) (fB (bU so (aW rfl (aW rfl #[6,(bU hh (aW #[0,(xO _ _ _)] rfl))]))))
   show (BD (E #[10,k] (some (enc (lD B z.s)))) st).bind _=_;rw[w];rfl
  | succ d ih =>
   intro k hk0 a2 a3;have hkl:k<B.ss.length:=by omega
   have g:(dz 0 L)[k]? = some (.tup [.int k,enc (lD B B.ss[k])]):=by
    rw[zfw];simp only[L,gK,gB hkl];simp
   obtain⟨Dd,Lg⟩:=gf.mp g;rw[mX Dd,Lg,cA,afn (yX h3)];have hm:=pF hkl;have ne:lD B B.ss[k]≠lD B z.s:=λe=>by
    have:=Ph hm hz.s e;have q:=ZF hB.ok.ns (gB hkl);rw[this]at q;omega
   have eq:M.iw 800 (enc (lD B B.ss[k])) (enc (lD B z.s)) st=.ok (.bl false) st:=by have:=zp0 (lD B B.ss[k]) (lD B z.s) st (by have:=Bl hB.ok hB.few hm;omega);simpa[ne] using this
   have w:BD (E #[10,k] (some (enc (lD B B.ss[k])))) st=.ok (.nx (E #[10,k] (some (enc (lD B B.ss[k]))))) st:=by
    rw[<-Oj];exact Ow (dq (aM rfl #[0,(xF _ _ _)] eq))
   show (BD (E #[10,k] (some (enc (lD B B.ss[k])))) st).bind _=_;rw[w];exact ih (k+1) 0x0 _ _
 have en:v9 (aj (cH "Book" "state_trees" (vr 0)) au) (E none none) st=.ok (dz 0 L,[(zq,.lst L)]) st:=by
  have f:=oW (f:="state_trees") (m:=vr 0) (env:=E none none) rfl h1.o h2;simp[f,tZ,h3,L]
 exact bf (oX (sS (DW rfl (T3 _ _ _)) rfl) (xN (by rw[Ak];exact (congrArg (λx=>R.bind x _) en).trans (key (bW B.ss z.s) 0 (nH _) none none)))) rfl (sZ (by simp[dh]))
end Law
set_option maxHeartbeats 0
namespace Law
open L2 M Tr
def fL{α:Type}(nx:α->Option α):Nat->α->List α
 | 0,x=>[x]
 | n+1,x=>match nx x with
  | none=>[x]
  | some y=>x::fL nx n y
theorem zu0{α:Type}(nx:α->Option α):∀(n:Nat) (x:α),1<=(fL nx n x).length/\(fL nx n x).length<=n+1
 | 0,x=>by simp[fL]
 | n+1,x=>by
  rw[fL]
  split
  ·simp
  ·rename_i y _;have:=zu0 nx n y;simp;omega
def zj0{α:Type}(enc:α->D)(nx:α->Option α)(P:Nat->α->Prop)(cap:D)(c most:Nat)(st:ak)(x:α)(hP0:P 0 x)(hPs:∀k y z,k<most->P k y->nx y=some z->P (k+1) z)
  (hnn:∀y s,bN (enc y) .non s=.ok (.bl false) s) (hu:∀y k,under k (enc y)) (hG:∀k y l,k<most->P k y->GL 4 ([cap]++[enc y]) (cj (st++[.lst l]))=.ok ((nx y).elim .non enc) (cj (st++[.lst l])))
  (hc:st[c]? = some (.clo 4 (iR 4) [cap])) (hmo:most<999990):zbo [.loc c,enc x,.int most] st=.ok 0x2 (st++[.lst ((fL nx most x).map enc)]):=by
 unfold zbo bF bw zfl;generalize hC:(dM (aF Xq (bh cR #[7,3]) (vr 2)):MT)=C;generalize hB:(aC (aG 4 (callC iR GL 0 _)) _:MS)=B;have hCv:∀(l:List D) (a4:Option D),C [some (.loc c),some (enc x),some (.int most),some 0x2,a4] (st++[.lst l])=.ok (decide ((l.length:Int)<=(most:Int))) (st++[.lst l]):=λl a4=>by
  rw[<-hC];have Gp:=DY (st:=st++[.lst l]) (n:=st.length) (ds:=l) 0x1;simp[Gp]
 have hBv:∀(pre:List α) (y:α) (a4:Option D),P pre.length y->pre.length<most->B [some (.loc c),some (enc x),some (.int most),some 0x2,a4] (st++[.lst ((pre++[y]).map enc)]) =
   match nx y with
   | none=>.ok (.rt 0x2) (st++[.lst ((pre++[y]).map enc)])
   | some z=>.ok (.nx [some (.loc c),some (enc x),some (.int most),some 0x2,some (enc z)]) (st++[.lst ((pre++[y]++[z]).map enc)]):=λpre y a4 hy hp=>by
  rw[<-hB];have hix:qj ((pre++[y]).map enc) (-1)=some (enc y):=by
   rw[mC];exact Nh _ _
  have hA:(aj (aF aV (vr 3) (wA wU #[5,1])) au) [some (.loc c),some (enc x),some (.int most),some 0x2,a4] (st++[.lst ((pre++[y]).map enc)])=.ok [enc y] (st++[.lst ((pre++[y]).map enc)]):=by
   have:=uZ (st++[.lst ((pre++[y]).map enc)]) st.length (-1) ((pre++[y]).map enc) (enc y) 0x1 hix;generalize (pre++[y]).map enc=l at this ⊢;simp[this]
  have vY:=zuv (Λ:=iR) (G:=GL) (i:=0) (n:=c) (j:=4) (d:=(nx y).elim .non enc) (env:=[some (.loc c),some (enc x),some (.int most),some 0x2,a4]) rfl (dC hc) hA (dC hc) (hG pre.length y _ hp hy) (by cases nx y with | none=>simp | some z=>exact hu z _);have hlen:((pre++[y]).map enc).length<1000000:=by simp;omega
  have aem:∀z,(pre++[y]++[z]).map enc=(pre++[y]).map enc++[enc z]:=λz=>by simp
  simp only[aem];generalize (pre++[y]).map enc=l at vY hlen ⊢;cases e:nx y with
  | none =>
   rw[e]at vY;simp only[Option.elim]at vY;simp[vY]
  | some z =>
   rw[e]at vY;simp only[Option.elim]at vY;simp[vY,cM,aR,hlen,hnn z]
 have loop:∀(k:Nat) (pre:List α) (y:α) (a4:Option D),pre.length+k=most->P pre.length y ->
   ∃o a4',aZ C B [some (.loc c),some (enc x),some (.int most),some 0x2,a4] (st++[.lst ((pre++[y]).map enc)])=.ok o (st++[.lst ((pre++fL nx k y).map enc)])/\(o=.nx [some (.loc c),some (enc x),some (.int most),some 0x2,a4']\/o=.rt 0x2):=by
  intro k
  induction k with
  | zero =>
   intro pre y a4 hk hy;refine⟨_,a4,?_,.inl rfl⟩;rw[u0,hCv,R.aB];have hl:¬ (((pre++[y]).map enc).length:Int)<=(most:Int):=by simp;omega
   rw[afq hl]
   rfl
  | succ k ih =>
   intro pre y a4 hk hy;have hl:(((pre++[y]).map enc).length:Int)<=(most:Int):=by simp;omega
   rw[u0,hCv,R.aB,afs hl,afn rfl,hBv pre y a4 hy 0x0];rw[fL];cases e:nx y with
   | none=>exact⟨_,none,rfl,.inr rfl⟩
   | some z =>
    obtain⟨o,a4',h1,h2⟩:=ih (pre++[y]) z (some (enc z)) 0x9 (by rw[gO];exact hPs pre.length y z 0x0 hy e);refine⟨o,a4',?_,h2⟩;dsimp only;rw[R.aB];dsimp only;rw[h1];simp
 obtain⟨o,a4',h1,h2⟩:=loop most [] x none 0x1 hP0;rw[kI,kI]at h1;have h1:aZ C B [some (.loc c),some (enc x),some (.int most),some 0x2,none] (st++[.lst [enc x]])=.ok o (st++[.lst ((fL nx most x).map enc)]):=h1;have hun:lO st.length (.lst ((fL nx most x).map enc)):=(zu1 _ _).mpr λd hd=>by
  obtain⟨y,_,rfl⟩:=gh.mp hd;exact hu y _
 generalize (fL nx most x).map enc=l at h1 hun ⊢;rw[show startM 5 [D.loc c,enc x,.int most]=[some (.loc c),some (enc x),some (.int most),none,none] from rfl];rcases h2 with rfl | rfl
 ·simp[h1,Nx hun]
 ·simp[h1,Nx hun]
def Mu{α:Type}(l:List α)(x:α):cut (l++[x]) (some (-1)) none=[x]:=by
 have h:HT.cW (l++[x]).length 0 (some (-1))=l.length:=by
  simp[HT.cW];omega
 have h2:HT.cW (l++[x]).length (l++[x]).length none=l.length+1:=by simp[HT.cW]
 unfold cut;rw[h,h2];simp
def nxD(B:Bk)(z:Sd):D:=match sU B z with | some z'=>dh z' | none=>.non
def JC{a b:ME}{env:aK}{st:ak}{d:D}(h:a env st=.ok (.str []) st)(k:b env st=.ok d st):W6 a b env st=.ok d st:=by
 simp[W6,h,k,jh]
def Cq{a b:ME}{env:aK}{st:ak}{c:Nat}(h:a env st=.ok (.str [c]) st):W6 a b env st=.ok (.str [c]) st:=by
 simp[W6,h,jh]
def J9(B:Bk)(nk:Nat)(z:Sd)(st:ak)(hk:st[nk]? = some (.dic (tab [] (B.rs.map dI))))(ha:z.a.length<=1000)(hb:z.b.length<=1000):zcb [.loc nk,dh z] st=.ok (nxD B z) st:=by
 have gk:=zsg B nk z.s z.c st hk;have ty:cM "dict" (.loc nk) st=true:=by simp[cM,hk]
 unfold nxD sU;cases hf:Dg B z.s z.c with
 | none =>
  rw[hf]at gk;exact bf (b_ (sX rfl ty #[6,(tu (aW #[0,dR] (aW #[0,dR] rfl)))] gk) (xN (qP 0x10 (fB rfl)))) rfl (fV 0x1)
 | some r =>
  rw[hf]at gk;dsimp only at gk;rw[Nv]at gk;show _=R.ok (dh (xn r z)) st;obtain⟨zs,za,zc,zb⟩:=z;have hu:under st.length (dh (xn r ⟨zs,za,zc,zb⟩)):=by simp[dh]
  cases hm:r.m with
  | true =>
   rw[show dh (xn r ⟨zs,za,zc,zb⟩)=.tup [.int r.g,.str za.tail.reverse,.str [za.headD 95],.str ([r.w]++zb)] by simp[xn,hm,dh]]at hu ⊢;have l1:xY (.str za.reverse) none (some (-1)) st=.ok (.str za.tail.reverse) st:=by
    rw[ZM _ _ _ _ (by simp;dsimp only at ha;omega),Mv];cases za<;>simp
   refine bf (b_ (sX rfl ty #[6,(tu (aW #[0,dR] (aW #[0,dR] rfl)))] gk) (oX 0x10 (b_ #[0,dR] (b_ #[0,dR] (xN (qP #[17,#[0,dR],(by rw[hm];exact ZQ)] (fB (tu (aW #[0,dR] (aW (TY rfl rfl rfl l1) (aW ?_ #[27,#[0,dR],(add_str (by simp;dsimp only at hb;omega))]))))))))))) rfl (fV hu);cases za with
   | nil=>exact JC (TY rfl rfl rfl rfl) rfl
   | cons c t=>exact Cq (TY rfl rfl rfl (by rw[mV,ZM _ _ _ _ (by simp at ha ⊢;omega),Mu];rfl))
  | false =>
   rw[show dh (xn r ⟨zs,za,zc,zb⟩)=.tup [.int r.g,.str (za.reverse++[r.w]),.str [zb.headD 95],.str zb.tail] by simp[xn,hm,dh]]at hu ⊢;have hl:zb.length<=1000000:=by dsimp only at hb;omega
   have l1:xY (.str zb) (some 1) none st=.ok (.str zb.tail) st:=by
    rw[ZM _ _ _ _ hl,show (1:Int)=((1:Nat):Int) from rfl,zom];simp
   refine bf (b_ (sX rfl ty #[6,(tu (aW #[0,dR] (aW #[0,dR] rfl)))] gk) (oX 0x10 (b_ #[0,dR] (b_ #[0,dR] (oX #[17,#[0,dR],(by rw[hm];exact eq_str)] (fB (tu (aW #[0,dR] (aW (aM rfl #[0,dR] (add_str (by simp;dsimp only at ha;omega))) (aW ?_ #[6,(TY rfl rfl rfl l1)]))))))))) ) rfl (fV hu);cases zb with
   | nil=>exact JC (TY rfl rfl rfl rfl) rfl
   | cons c t=>exact Cq (TY rfl rfl rfl (by rw[ZM _ _ _ _ hl,show (1:Int)=((1:Nat):Int) from rfl,zue _ _ 0x1];rfl))
def Sm(k:Nat)(z:Sd):Prop:=z.a.length<=k/\z.b.length<=k
def BR{B:Bk}{k:Nat}{z z':Sd}(h:Sm k z)(e:sU B z=some z'):Sm (k+1) z':=by
 unfold sU at e;obtain⟨r,_,rfl⟩:=mO.mp e;unfold xn;obtain⟨h1,h2⟩:=h
 split
 ·exact⟨by simp;omega,by simp;omega⟩
 ·exact⟨by simp;omega,by simp;omega⟩
def zkz(n:Nat)(zs:List Sd):bY n (zs.map dh):=by
 induction zs with
 | nil=>simp
 | cons z zs ih=>simp[ih,dh]
def zq7(B:Bk)(hrs:B.rs.length<=1000)(n:Nat)(z:Sd)(most:Nat)(st:ak)(h:st[n]? = some (.lst (B.rs.map fG)))(hz:Sm 100 z)(hmo:most<=100)(hn:bI st)(ht:st[3]? = some (.tab "tape_run")) :
  zd0 [.loc n,dh z,.int most] st=.ok 0x2 (st++[.lst ((fL (sU B) most z).map dh)]):=by
 let T:MO:=.dic (tab [] (B.rs.map dI))
 have e1:=zt1 (B.rs.map dI) n st (by rw[zie];exact h) (by rw[gm];exact hrs);have hs:=zj0 dh (sU B) (λk y=>Sm (100+k) y) 0x2 0xc most (st++[T,.clo 4 (iR 4) [.loc st.length]]) z hz (λk y x _ hy e=>BR hy e) (λ_ _=>rfl) (λy k=>by simp[dh])
  (λk y l hk hy=>by
   have hm:=J9 B st.length y (cj (st++[T,.clo 4 (iR 4) [.loc st.length]]++[.lst l])) (zr0 (by simp[T]) rfl) (by have:=hy.1;omega) (by have:=hy.2;omega);have e:nxD B y=(sU B y).elim .non dh:=by unfold nxD;cases sU B y<;>rfl
   rw[e]at hm;show rK 2 e_4 [.loc st.length,dh y] _=_;unfold rK e_4;rw[afn (by rfl)];exact bU hm rfl) 0x1 0x0
 have hc:=zn7 (Λ:=iR) (F:=zbo) (dd:=[]) (m:=j6 4 [3] 3 "tape_run" (iY (vr 1) (iY (vr 2) uP))) (env:=[some (.loc n),some (dh z),some (.int most),some 0x2]) (st:=st++[T]) (st1:=st++[T]) (as:=[.l 4 [3],.v (dh z),.v (.int most)])
  (ds:=[.loc 0xc,dh z,.int most]) (os:=[.clo 4 (iR 4) [.loc st.length]]) (d:=.loc 0xc) (st2:=st++[T,.lst ((fL (sU B) most z).map dh)])
  (by unfold j6;rw[dC ht];dsimp only;rw[afn rfl];simp[iY,uP]) (by simp[hn,T]) (by simp[jq,yH]) (by
   rw[gr,gP,nF,kI,hs];have:=Vg (st:=st++[T]) (g:=[.clo 4 (iR 4) [.loc st.length]]) (g':=[]) (o:=.lst ((fL (sU B) most z).map dh)) (zkz _ _);simpa using this) (by simp[hn,T])
 have g:=Vg (st:=st) (g:=[T]) (g':=[]) (o:=.lst ((fL (sU B) most z).map dh)) (zkz _ _);exact bf (b_ (bU e1 rfl) (fB hc)) rfl (by simpa using g)
def Y_(B:Bk)(nr:Nat)(z:Sd)(most:Nat)(st:ak)(hr:st[nr]? = some (.lst (B.rs.map fG)))(hz:Sm 100 z)(hmo:most<=100):zp6 [.loc nr,dh z,.int most] st=.ok 0x2 (st++[.lst ((fL (sU B) most z).map dh)]):=by
 unfold zp6 bF bw Du;generalize hC:(jC _ _:MT)=C;generalize hW:(aC (aG 1 _) _:MS)=W
 let E:D->aK:=λd=>[some (.loc nr),some d,some (.int most),some 0x2]
 let Z:List Sd->ak:=λvs=>st++[.lst (vs.map dh)]
 have le:∀vs,cR [.loc st.length] (Z vs)=.ok (.int (vs.length:Nat)) (Z vs):=λvs=>by
  have:=DY (st:=Z vs) (n:=st.length) (ds:=vs.map dh) (by simp[aA,Z]);rwa[gm]at this
 have lev:∀(i j:Int) (S:ak),Xq (.int i) (.int j) S=.ok (.bl (decide (i<=j))) S:=λi j S=>by simp
 have c1:∀vs y,vs.length<=most->C (E (dh y)) (Z vs)=.ok true (Z vs):=λvs y h=>by
  rw[<-hC];exact zpt #[17,(oZ (le vs) rfl),(by rw[lev,afs 0x0])] 0x10
 have c2:∀vs d,¬ vs.length<=most->C (E d) (Z vs)=.ok false (Z vs):=λvs d h=>by
  rw[<-hC];exact Dw #[17,(oZ (le vs) rfl),(by rw[lev,afq 0x0])]
 have c3:∀vs,vs.length<=most->C (E .non) (Z vs)=.ok false (Z vs):=λvs h=>by
  rw[<-hC];exact zpt #[17,(oZ (le vs) rfl),(by rw[lev,afs 0x0])] 0x10
 have ap:∀vs y,vs.length<=1000->aR 0x2 [dh y] (Z vs)=.ok .non (Z (vs++[y])):=λvs y h=>by
  have g:(Z vs)[st.length]? = some (.lst (vs.map dh)):=by simp[Z]
  unfold aR;simp only[g];rw[afn 0x9];simp[Z]
 have lp:∀(k:Nat) (pre:List Sd) (y:Sd),pre.length+k=most->Sm (100+pre.length) y->∃d,aZ C W (E (dh y)) (Z (pre++[y]))=.ok (.nx (E d)) (Z (pre++fL (sU B) k y)):=by
  intro k
  induction k with
  | zero =>
   intro pre y h _;refine⟨dh y,?_⟩;rw[u0,c2 _ _ 0x9,R.aB];rfl
  | succ k ih =>
   intro pre y h hy;have nx:=Cy B nr y (Z (pre++[y])) (dC hr) (by have:=hy.1;omega) (by have:=hy.2;omega);rw[u0,c1 _ _ 0x9,R.aB,afn rfl,fL];cases e:sU B y with
   | none =>
    rw[e]at nx;have w:W (E (dh y)) (Z (pre++[y]))=.ok (.nx (E .non)) (Z (pre++[y])):=by
     rw[<-hW];exact b_ (bU nx rfl) (Ow 0x10)
    refine⟨.non,?_⟩;rw[w,R.aB];dsimp only;rw[u0,c3 _ 0x9,R.aB];rfl
   | some x =>
    rw[e]at nx;have w:W (E (dh y)) (Z (pre++[y]))=.ok (.nx (E (dh x))) (Z (pre++[y]++[x])):=by
     rw[<-hW];exact b_ (bU nx rfl) (qP 0x10 (yR (sX rfl (by simp[cM,Z]) rfl (ap _ _ 0x9))))
    obtain⟨d,hd⟩:=ih (pre++[y]) x 0x9 (by have:=BR hy e;simpa[pC] using this);refine⟨d,?_⟩;rw[w,R.aB];dsimp only;rw[hd];simp
 obtain⟨d,hd⟩:=lp most [] z 0x1 hz;exact bf (b_ (zi8 rfl) ((sW hd).trans (fB rfl))) rfl (Nx (zkz _ _))
def rn(B:Bk)(z:Sd):List Nat×Tr:=match sU B z with | some z'=>([111,110],iJ B z') | none=>([118,97,108,117,101],Bj B z)
def PB{B:Bk}(hB:Ac B){z:Sd}(hz:yM B z)(hs:Sm 200 z)(st:ak):Vy [enc (iJ B z),.int (dY B z:Nat)] st=.ok (.tup [.str (rn B z).1,enc (rn B z).2,.int (dY B z:Nat)]) st:=by
 have hss:=hB.ss;have cl:=Mw B z hB.few;have di:=R8 hB.ok hB.few hz 200 hs.1 hs.2;have tr:=zkf (iJ B z) (dY B z) st 0x0;have si:=zul hB.ok z hz.c;unfold rn;cases e:sU B z with
 | some z' =>
  rw[e]at si;rw[zpn si.1]at tr;dsimp only at tr;rwa[Yv,afo 0x5]at tr
 | none =>
  rw[e]at si;rw[zpn si.1]at tr;dsimp only at tr;rwa[si.2,afn rfl]at tr
theorem Ca{α:Type}(nx:α->Option α):∀(n:Nat) (x:α),(fL nx n x)[0]? = some x
 | 0,x=>rfl
 | n+1,x=>by rw[fL];cases nx x<;>rfl
theorem zpr{α:Type}(nx:α->Option α):∀(n:Nat) (x:α) (i:Nat) (y y':α),(fL nx n x)[i]? = some y->(fL nx n x)[i+1]? = some y'->nx y=some y'
 | 0,x,i,y,y',h,h'=>by simp[fL]at h'
 | n+1,x,i,y,y',h,h'=>by
  rw[fL]at h h';cases e:nx x with
  | none=>rw[e]at h';simp at h'
  | some w =>
   rw[e]at h h';cases i with
   | zero =>
    have:x=y:=by simpa using h
    subst this;simp only[mQ]at h';rw[Ca]at h';rw[e];exact h'
   | succ i=>exact zpr nx n w i y y' (by simpa using h) (by simpa using h')
theorem zte{B:Bk}(hB:Ac B):∀(n k:Nat) (x:Sd),yM B x->Sm k x->∀y∈fL (sU B) n x,yM B y/\Sm (k+n) y
 | 0,k,x,h,hs,y,hy=>by
  rw[fL,gY]at hy;subst hy;exact⟨h,hs⟩
 | n+1,k,x,h,hs,y,hy=>by
  have lH:Sm (k+(n+1)) x:=⟨by have:=hs.1;omega,by have:=hs.2;omega⟩;rw[fL]at hy;cases e:sU B x with
  | none =>
   rw[e,gY]at hy;subst hy;exact⟨h,lH⟩
  | some w =>
   rw[e]at hy;rcases gj.mp hy with rfl | hy
   ·exact⟨h,lH⟩
   ·have hw:yM B w:=by
     unfold sU at e;obtain⟨r,hf,rfl⟩:=mO.mp e;exact h.go hB.ok (nM hf)
    have:=zte hB n (k+1) w hw (BR hs e) y hy;rwa[show k+1+n=k+(n+1) by omega]at this
def Ei{B:Bk}{b:Nat}{st:ak}(hB:Ac B)(hb:Bs st)(hk:jJ st b B)(zs:List Sd)(z zl:Sd)(h0:zs[0]? = some z)(hl:zs[zs.length - 1]? = some zl)(hn:zs.length<=200)(Hr:∀i y y',zs[i]? = some y->zs[i+1]? = some y'->sU B y=some y')(bO:∀y∈zs,yM B y/\Sm 200 y)(nd:Nat)(hd:st[nd]? = some (.lst (zs.map dh))) :
  zfu [.loc b,enc (iJ B z),.loc nd] st=.ok (.tup [.str (rn B zl).1,enc (rn B zl).2]) st:=by
 have h1:0<zs.length:=(gf.mp h0).1;have it:aA st nd=some (zs.map dh):=by unfold aA;rw[hd]
 have le:=DY it;rw[gm]at le;unfold zfu bF bw zl8;generalize Oj:(aC (fu _ _ _) (aC (aG 4 _) _):MS)=BD;obtain⟨cC,st',hh,rfl,t,a3,a4,a5,a6,a7,rfl,q1,q2⟩:=z8 (g:=aO 3) (b:=BD) (gs:=[]) (items:=o9 0 zs.length) (λi env s=>s=st/\∃(t:Tr) (a3 a4 a5 a6 a7:Option D),env=[some (.loc b),some (enc t),some (.loc nd),a3,a4,a5,a6,a7]/\(∀y,zs[i]? = some y->t=iJ B y)/\(∀k y,i=k+1->zs[k]? = some y->a5=some (.str (rn B y).1)/\a6=some (enc (rn B y).2)))
  (env:=[some (.loc b),some (enc (iJ B z)),some (.loc nd),none,none,none,none,none]) (st:=st) ⟨rfl,iJ B z,none,none,none,none,none,rfl,λy hy=>by rw[h0]at hy;cases hy;rfl,λk y h=>by omega⟩ (by
   rintro i d env s hi ⟨rfl,t,a3,a4,a5,a6,a7,rfl,q1,q2⟩;obtain⟨hi',rfl⟩:=zi0 hi;have gi:zs[i]? = some zs[i]:=gB hi';generalize zs[i]=y at gi;obtain⟨oy,sy⟩:=bO y (gU gi);obtain rfl:=q1 y gi;have im:=zhv hB hb hk y oy (by have:=sy.1;omega) (by have:=sy.2;omega);have co:=zoy hB hb hk y oy (by have:=sy.1;omega) (by have:=sy.2;omega);have ru:=PB hB oy sy s;have ix:aV (.loc nd) (.int (0+(i:Nat))) s=.ok (dh y) s:=by
    rw[Int.zero_add];refine uZ _ _ _ _ _ it ?_;rw[Nz,gK,gi];rfl
   have n2:=Fj (st:=s) 800 (dh y) (by simp[dh]) (by simp[dh])
   let E:Tr->aK:=λt=>[some (.loc b),some (enc t),some (.loc nd),some (.int (0+(i:Nat))),some (.int (dY B y:Nat)),some (.str (rn B y).1),some (enc (rn B y).2),some (.int (dY B y:Nat))]
   have lt:ltV (.int (0+(i:Nat)+1)) (.int zs.length) s=.ok (.bl (decide (i+1<zs.length))) s:=by
    have:decide ((0+(i:Nat)+1:Int)<(zs.length:Nat))=decide (i+1<zs.length):=by rw[decide_eq_decide];omega
    rw[<-this];simp
   have body:∀r:R Out,fu (dM (aF ltV #[11,bD,(vr 3)] (bh cR #[7,2]))) (aG 1 (vr 6)) bB (E (iJ B y)) s=r->BD [some (.loc b),some (enc (iJ B y)),some (.loc nd),some (.int (0+(i:Nat))),a4,a5,a6,a7] s=r:=λr h=>by
    rw[<-Oj];exact oX (dq (aM (bU im rfl) #[0,ix] n2)) (b_ (bU co #[12,#[0,ix]]) (yd (bU ru rfl) rfl (oX (dq #[0,(ue Vk)]) h)))
   by_cases uT:i+1<zs.length
   ·have gn:zs[i+1]? = some zs[i+1]:=gB uT;have en:=Hr i y _ gi gn;refine⟨by simp,_,s,rfl,E (rn B y).2,s,.inl (body _ ?_),rfl,(rn B y).2,_,_,_,_,_,rfl,λx hx=>?_,λk x hk hx=>?_⟩
    ·exact qP (dq (aM #[0,(add_int rfl)] (oZ le rfl) (by rw[lt,afs uT]))) (DR rfl)
    ·rw[gn]at hx;cases hx;unfold rn;rw[en]
    ·obtain rfl:i=k:=by omega
     rw[gi]at hx;cases hx;exact⟨rfl,rfl⟩
   ·refine⟨by simp,_,s,rfl,E (iJ B y),s,.inl (body _ ?_),rfl,iJ B y,_,_,_,_,_,rfl,λx hx=>?_,λk x hk hx=>?_⟩
    ·exact Ow (dq (aM #[0,(add_int rfl)] (oZ le rfl) (by rw[lt,afq uT])))
    ·have:=(gf.mp hx).1;omega
    ·obtain rfl:i=k:=by omega
     rw[gi]at hx;cases hx;exact⟨rfl,rfl⟩) (λ_ _ _=>by simp)
 rw[ZG]at q2;obtain⟨r5,r6⟩:=q2 (zs.length - 1) zl 0x0 hl;subst r5 r6;exact bf (Hf (zgd zs.length #[6,(oZ le rfl)] 0x0) hh (fB (tu rfl))) rfl (fV (by simp[jK]))
end Law
set_option maxHeartbeats 0
namespace Law
open L2 M Tr
abbrev Tw:List Nat:=[97,98,99,100,101,102,103,104,105,106,107,108,109,110,111,112,113,114,115,116,117,118,119,120,121,122]
theorem zqu:∀cs:List Nat,qt [] (cs.map λc=>[c])=cs
 | []=>rfl
 | [c]=>rfl
 | c::d::r=>by
  have:=zqu (d::r);show [c]++[]++qt [] (([d])::r.map λc=>[c])=_;rw[show ([d]::r.map λc=>[c])=(d::r).map λc=>[c] from rfl,this];rfl
def abD:D->D
 | .int i=>.str [97+i.toNat]
 | d=>d
def ztc(xs:List Nat)(i:Nat)(n:Nat)(env:aK)(st:ak)(hi:env[i]? = some (some (.loc n)))(hn:st[n]? = some (.lst (aH xs)))(hx:∀x∈xs,x<26)(hl:xs.length<=900) :
  cz "str" rN #[2,[]] (aj (eN [none] (iC (vr i)) (aO 0) lJ (aF aV #[2,Tw] (vr 0))) au) env st=.ok (.str (xs.map (97 + ·))) (st++[.lst ((xs.map λx=>[97+x]).map D.str)]):=by
 have cc:=OD (capt:=[none]) (mi:=iC (vr i)) (g:=aO 0) (e:=aF aV #[2,Tw] (vr 0)) (env:=env) (st:=st) (st1:=st) (items:=aH xs) (gs:=[(n,.lst (aH xs))]) abD (λenv=>env.length=1) (by
   rw[zuf,Ff,hi];simp only[R.aB,hn]) rfl (by rw[T8];omega) (λys=>yX (dC hn)) (λd hd cC ys hP=>by
  obtain⟨x,Yy,rfl⟩:=gh.mp hd;obtain⟨y,rfl⟩:=my.mp hP;refine⟨[some (.int x)],rfl,rfl,?_⟩;have h26:=hx x Yy;have ix:aV (.str Tw) (.int x) (st++[.lst ys])=.ok (.str [97+x]) (st++[.lst ys]):=by
   unfold aV;dsimp only;rw[afn 0x5,Nz];have key:∀k:Fin 26,Tw[k.val]? = some (97+k.val):=by decide
   rw[key ⟨x,h26⟩]
  rw[show abD (.int x)=.str [97+x] by simp[abD]];exists (st++[.lst ys]:ak),Z;simp[ix])
 have em:(aH xs).map abD=(xs.map λx=>[97+x]).map D.str:=by
  unfold aH;rw[gJ,gJ];exact kE λx _=>by simp[abD]
 rw[em]at cc;have sm:∀ys:List Nat,((ys.map λx=>[97+x]).map List.length).sum=ys.length:=λys=>by
  induction ys with
  | nil=>rfl
  | cons y ys ih=>rw[gq,gq,nZ,ih];simp;omega
 have jn:=Jb (st:=st++[.lst ((xs.map λx=>[97+x]).map D.str)]) [] st.length (xs.map λx=>[97+x]) (by simp[aA]) (by rw[sm];simp;omega);have ej:qt [] (xs.map λx=>[97+x])=xs.map (97 + ·):=by
  have:=zqu (xs.map (97 + ·));rw[gJ]at this;exact this
 rw[ej]at jn;exists (xs.map λx=>[97+x]).map D.str,Y,eN _ _ _ _ _,CE;simp[cc,cM,jn]
structure DrB(rs:List Ru)(signs ss:List Nat):Prop where
 r1:rs.length<=12
 r2:(rs.map λr=>(r.s,r.x)).Nodup
 r3:∀r∈rs,r.s∈ss/\r.x∈95::signs/\r.w∈95::signs/\r.g∈ss
 s1:signs.length<=8
 s2:signs.Nodup
 s3:∀c∈signs,97<=c/\c<=122
 n1:0<ss.length
 n2:ss.length<=4
 n3:ss.Nodup
def ad1(k:Nat)(s:ak):bD (.int 1) (.int k) s=.ok (.int ((1+k:Nat):Int)) s:=by rw[Fp];congr 2
def lt_int{i j:Int}{c:Bool}{st:ak}(h:decide (i<j)=c):ltV (.int i) (.int j) st=.ok (.bl c) st:=by subst h;simp
def Tj(mo p:Nat)(h1:0<mo)(h4:mo<=4)(st:ak)(h:jT st p) :
  ∃(rs:List Ru) (signs ss:List Nat) (nr ns:Nat) (g st':ak),DrB rs signs ss/\bI g/\st.length<=nr/\st.length<=ns/\st'[nr]? = some (.lst (rs.map fG))/\st'[ns]? = some (.lst (aH ss))/\zle [.loc p,.int mo] st=.ok (.tup [.loc nr,.str signs,.loc ns]) st'/\DS st p g st':=by
 have hp:=h.lt
 let E:Option D->Option D->Option D->aK:=λa2 a3 a4=>[some (.loc p),some (.int mo),a2,a3,a4]

 obtain⟨k1,s1,Dd,e1,D1⟩:=Hx p mo st h h1 0x0;have l1:s1.length=st.length:=D1.len;obtain⟨ss,s2,q1,q2,q3,e2,d2⟩:=zpm p 5001 (1+k1) s1 (D1.at_ hp) 0x0 0x0 0x0 0x0;have D2:=D1.trans d2 hp;rw[kI]at D2;rw[l1]at e2;have n2:s2[st.length]? = some (.lst (aH ss)):=D2.last (i:=0) rfl

 let s3:ak:=s2++[.lst [.int 3,.int 9]]
 have D3:DS st p [.lst (aH ss),.lst [.int 3,.int 9]] s3:=by
  obtain⟨f,v,n,e⟩:=D2;exact⟨f,v,n,by simp[s3,e]⟩
 have le:cR [.loc st.length] s3=.ok (.int ss.length) s3:=by
  have:=DY (st:=s3) (n:=st.length) (ds:=aH ss) (by unfold aA;rw[dC n2]);rwa[T8]at this
 let ms:Nat:=if ss.length<3 then 9 else 3
 have hms:0<ms/\ms<=9:=by simp only[ms];split<;>omega
 have it:aA s3 s2.length=some [.int 3,.int 9]:=by simp[aA,s3]
 have ms3:aF aV (eQ #[4,#[5,3],#[5,9]]) #[19,Gi,(aF ltV (bh cR #[7,2]) #[5,3])] (E (some 0x2) none none) s2=.ok (.int ms) s3:=by
  by_cases hc:ss.length<3
  ·simp only[ms,hc,afn];exact aM (zi8 rfl) (oZ (show Gi [.bl true] s3=.ok (.int 1) s3 from rfl) #[27,(oZ le rfl),(lt_int (afs 0x0))]) (uZ _ _ _ _ _ it rfl)
  ·simp only[ms,hc,afo,not_false_eq_true];exact aM (zi8 rfl) (oZ (show Gi [.bl false] s3=.ok (.int 0) s3 from rfl) #[27,(oZ le rfl),(lt_int (afq 0x0))]) (uZ _ _ _ _ _ it rfl)

 obtain⟨k5,s5,hk5,e5,d5⟩:=Hx p ms s3 (D3.at_ hp) 0x0 0x0;have D5:=D3.trans d5 hp;rw[gr]at D5;have l5:s5.length=st.length+2:=D5.len;obtain⟨xs,s6,r1,r2,r3,e6,d6⟩:=zpm p 26 k5 s5 (D5.at_ hp) 0x0 0x0 0x0 0x0;have D6:=D5.trans d6 hp;rw[l5]at e6;have n6:s6[st.length+2]? = some (.lst (aH xs)):=D6.last (i:=2) rfl;have jl:=ztc xs 3 (st.length+2) (E (some 0x2) (some (.loc (st.length+2))) none) s6 rfl n6 r3 0x0
 let signs:List Nat:=xs.map (97 + ·)
 let s7:ak:=s6++[.lst ((xs.map λx=>[97+x]).map D.str)]
 have D7:DS st p ([.lst (aH ss),.lst [.int 3,.int 9],.lst (aH xs)]++[.lst ((xs.map λx=>[97+x]).map D.str)]) s7:=by
  obtain⟨f,v,n,e⟩:=D6;exact⟨f,v,n,by show s6++_=_;rw[e,gP];rfl⟩

 obtain⟨k8,s8,hk8,e8,d8⟩:=Hx p 12 s7 (D7.at_ hp) 0x0 0x0;rw[show ((12:Nat):Int)=12 from rfl]at e8;have D8:=D7.trans d8 hp;rw[gr]at D8;have n8:s8[st.length]? = some (.lst (aH ss)):=D8.last (i:=0) rfl;have sl:signs.length=xs.length:=by simp[signs]
 obtain⟨rs,g9,s9,u1,u2,u3,u4,e9,d9⟩:=Io p st.length (1+k8) signs ss s8 (D8.at_ hp) n8 0x0 0x0 0x0 0x0 0x0;have D9:=D8.trans d9 hp;have l8:s8.length=st.length+4:=D8.len;rw[l8]at e9;have body:zs9 (E none none none) st=.ok (.rt (.tup [.loc (st.length+4),.str signs,.loc st.length])) s9:=by
  refine b_ (bU e2 (aW rfl (aW rfl #[6,(aM rfl (bU e1 rfl) (ad1 _ _))]))) ?_;refine b_ (bU e6 (aW rfl (aW rfl #[6,(bU e5 #[12,ms3])]))) ?_;refine b_ jl ?_;exact fB (tu #[6,(bU e9 (aW rfl (aW rfl #[12,(aM rfl (bU e8 rfl) (ad1 _ _))])))])
 have n9:s9[st.length+4]? = some (.lst (rs.map fG)):=by rw[<-l8];exact d9.last (i:=0) rfl
 have m9:s9[st.length]? = some (.lst (aH ss)):=D9.last (i:=0) rfl;refine⟨rs,signs,ss,st.length+4,st.length,_,s9,⟨by omega,u2,u3,by omega,?_,?_,by omega,by omega,q2⟩,?_,by omega,by omega,n9,m9,?_,D9⟩
 ·show (xs.map (97 + ·)).Nodup;exact List.Pairwise.map _ (λa b hab e=>hab 0x0) r2
 ·intro c hc;obtain⟨x,hx,rfl⟩:=gh.mp hc;have:=r3 x hx;show 97<=97+x/\97+x<=122;omega
 ·simp[u4]
 ·unfold zle bF bw;rw[show startM 5 [D.loc p,.int mo]=E none none none from rfl,body];show gc st (.ok _ s9)=_;unfold gc;dsimp only;rw[afo (λq=>by have:=q.2;simp at this)]
def Av{α:Type}{f:Bool}{v n:Int}(xs:List α)(g:α->D)(hg:∀x b,g x≠.bl b):(MO.lst (xs.map g))≠jV f v n:=by
 cases xs with
 | nil=>simp[jV]
 | cons x xs =>
  intro e;unfold jV at e;injection e with e;rw[gq]at e;injection e with e _;exact hg _ _ e
def Wb(r:Ru)(b:Bool):fG r≠.bl b:=by rw[Nv];simp
def Y9(t:Tr)(b:Bool):enc t≠.bl b:=by cases t<;>simp[enc]
def jJ.dr{st st':ak}{b p:Nat}{B:Bk}(h:jJ st b B)(k:Keeps st st' [p])(hp:jT st p):jJ st' b B:=by
 obtain⟨f,v,n,hp⟩:=hp;have ne:∀j o,st[j]? = some o->o≠jV f v n->st'[j]? = some o:=λj o hj hn=>k j o (λhm=>by
  obtain rfl:=gY.mp hm;rw[hp]at hj;cases hj;exact hn rfl) hj
 have mv:∀q m,dJ st q m B.ls->dJ st' q m B.ls:=λq m hm=>by
  obtain⟨w,W,h1,h2,h3⟩:=hm;refine⟨w,W,ne _ _ h1 (by simp[jV]),ne _ _ h2 (by simp[jV]),λc hc=>?_⟩;obtain⟨q,q1,q2⟩:=h3 c hc;exact⟨q,q1,ne _ _ q2 (by simp[jV,Ug])⟩
 obtain⟨fs,ns,nk,nt,nm,ml,mr,nr,zq,h1,h2,h3,h4,h5,h6⟩:=h.ex;refine⟨fs,ns,nk,nt,nm,ml,mr,nr,zq,⟨ne _ _ h1.o (by simp[jV]),h1.f1,h1.f2,h1.f3,h1.f4,h1.f5,h1.f6,ne _ _ h1.s (Av _ _ 0x1),ne _ _ h1.k (by simp[jV]),ne _ _ h1.t (by simp[jV]),ne _ _ h1.m (by simp[jV]),mv _ _ h1.l,mv _ _ h1.r⟩,h2,ne _ _ h3 (Av _ _ Y9),h4,ne _ _ h5 (Av _ _ Wb),h6⟩
def Ka{c:PySem.Str}{F:FD}{mA:MA}{env:aK}{X X' X1:ak}{as:List D}(ha:mA env X=.ok as X')(hf:F (.loc X'.length::as) (X'++[.ins c []])=.ok .non X1):jO c F mA env X=.ok (.loc X'.length) X1:=by
 unfold jO;rw[ha,R.aB,hf];rfl
def Mh(ns:List Int)(k:Nat)(mx:ME)(q:Int)(env:aK)(st:ak)(h0:env[0]? = some (some (.loc 0)))(hx:mx env st=.ok (.int q) st)(hi:aA st 0=some (ns.map D.int))(hk:k<=10000) :
  eQ (aj #[11,(M.iw 800),mx] #[4,(az Vo [] #[3,0,#[5,k]]),#[5,0]]) env st=.ok 0x2 (st++[jV (decide (q=1)) (zP ns k) 0]):=by
 have ce:=Dp ns 0 k st hi hk;unfold jV;exists (k:Int),K;simp[h0,hx,ce]
def abP{x:R Out}{f:Out->ak->R D}{S X:ak}{c:Bool}(h:x=.ok (.rt (.bl c)) X)(hf:f (.rt (.bl c)) X=.ok (.bl c) X):∃st,gc S (x.bind f)=.ok (.bl c) st:=by
 rw[h,R.aB,hf];unfold gc;dsimp only
 split
 ·exact⟨_,rfl⟩
 ·exact⟨_,rfl⟩
def law_true(ns:List Int)(Gn:ns.length<=63):∃st,zm4 [.loc 0] [.frz (ns.map D.int),.tab "out_and_cost",.tab "put_in",.tab "tape_run"]=.ok (.bl true) st:=by
 generalize hS0:([.frz (ns.map D.int),.tab "out_and_cost",.tab "put_in",.tab "tape_run"]:ak)=S0;have it0:aA S0 0=some (ns.map D.int):=by subst hS0;rfl
 have hb0:Bs S0:=by subst hS0;exact⟨rfl,rfl,by intro o ho;simp at ho;rcases ho with rfl | rfl | rfl | rfl<;>rfl⟩
 have hl0:S0.length=4:=by subst hS0;rfl
 have t30:S0[3]? = some (.tab "tape_run"):=by subst hS0;rfl
 clear hS0
 let h:Int:=zP ns 0
 have ce0:Vo [.loc 0,.int 0] S0=.ok (.int h) S0:=Dp ns 0 0 S0 it0 0x0;have mo:∀(i j:Int) s,0<j->pX (.int i) (.int j) s=.ok (.int (i % j)) s:=λi j s hj=>zid s i j hj

 let S1:ak:=S0++[jV (decide (h % 2=1)) (zP ns 1) 0]
 have hd1:jT S1 4:=⟨_,_,_,by rw[<-hl0];simp[S1];rfl⟩;have c1:bI S1:=(zgj _ _).mpr ⟨hb0.c,by simp[jV]⟩;have k1:Keeps S0 S1 []:=Keeps.app _ _;have l1:S1.length=5:=by simp[S1,hl0]

 obtain⟨rs,signs,ss,nr,nss,g2,S2,dB,cg2,hnr,ae5,r2,n2,e2,D2⟩:=Tj 3 4 0x0 0x0 S1 hd1;have c2:bI S2:=D2.clo c1 cg2;have k2:=D2.keeps;have hd2:jT S2 4:=D2.at_ 0x0;have Gp:5<=S2.length:=by rw[D2.len];omega
 let B:Bk:=⟨95::signs,ss,rs⟩
 have n95:95∉signs:=λq=>by have:=dB.s3 95 q;omega
 have hB:Ac B:={
  ok:={
   nl:=mF.mpr ⟨n95,dB.s2⟩
   ns:=dB.n3
   bl:=p7 ..
   z:=λq=>by
    rcases gj.mp q with q | q
    ·omega
    ·have:=dB.s3 0 q;omega
   many:=g_ dB.n2 0x0
   ru:=λr hr=>⟨(dB.r3 r hr).2.2.2,(dB.r3 r hr).2.2.1⟩ }
  wY:=λc hc=>by
   rcases gj.mp hc with q | q
   ·exact .inl q
   ·exact .inr (dB.s3 c q)
  few:=by have:=dB.s1;show (95::signs).length<=9;simp;omega
  x:=λr hr=>(dB.r3 r hr).2.1
  ss:=g_ dB.n2 0x0
  s0:=dB.n1
  rs:=g_ dB.r1 0x0 }
 let b:Nat:=S2.length+2
 let S4:ak:=S2++[.lst (rs.map fG),.lst (aH ss)]
 let Zm:ak:=S4++[.ins "Book" []]
 have l4:S4.length=b:=by simp[S4,b]
 have k4:Keeps S2 Zm []:=(Keeps.app _ _).trans (Keeps.app _ _);have c4:bI Zm:=(zgj _ _).mpr ⟨(zgj _ _).mpr ⟨c2,by simp⟩,by intro o ho;obtain rfl:=gY.mp ho;rfl⟩;have k04:Keeps S0 Zm [4]:=((k1.more).trans k2).trans k4.more;have hb4:Bs Zm:=hb0.keeps k04 0x1 0x1 c4;obtain⟨S5,e5,k5,bk5,c5⟩:=znu B hB signs rfl b S2.length (S2.length+1) Zm hb4 (by rw[<-l4];simp[Zm]) (dC (by simp[S4];rfl)) (dC (by simp[S4];rfl));have uT:∀j o,S2[j]? = some o->S5[j]? = some o:=λj o hj=>k5 _ _ (λhm=>by
  have:=gY.mp hm;have:=(gf.mp hj).1;omega) (k4 _ _ 0x1 hj)
 have hd5:jT S5 4:=by
  obtain⟨f,v,n,q⟩:=hd2;exact⟨f,v,n,uT _ _ q⟩

 obtain⟨z,g6,S6,z1,z2,z3,z4,z5,z6,cg6,e6,D6⟩:=Ia 4 nr nss 4 signs ss rs S5 hd5 (uT _ _ r2) 0x0 (uT _ _ n2) 0x0 dB.n1 (by have:=dB.n2;omega) (by have:=dB.s1;omega) 0x0 (by have:=dB.r1;omega) (λr hr=>⟨(dB.r3 r hr).1,(dB.r3 r hr).2.1⟩);have hp5:4<S5.length:=hd5.lt;have hd6:jT S6 4:=D6.at_ hp5;obtain⟨most,S7,hmo,e7,D7⟩:=Hx 4 3 S6 hd6 0x0 0x0;have k6:=D6.keeps;have k7:=D7.keeps;have c7:bI S7:=D7.clo (D6.clo c5 cg6) 0x1;have k57:Keeps S5 S7 [4]:=k6.trans k7;have bk7:jJ S7 b B:=(bk5.dr k6 hd5).dr k7 hd6;have k47:Keeps Zm S7 [4,b]:=λj o hj ho=>k57 _ _ (λq=>hj (by simp at q;simp[q])) (k5 _ _ (λq=>hj (by simp at q;simp[q])) ho);have hb2:(1:Nat)≠b/\(2:Nat)≠b/\(3:Nat)≠b:=by simp only[b];omega
 have hb7:Bs S7:=hb4.keeps k47 (by simp;exact hb2.1) (by simp;exact hb2.2.1) c7;have t37:S7[3]? = some (.tab "tape_run"):=k47 _ _ (by simp;exact hb2.2.2) (k04 _ _ 0x1 t30);have hz:yM B z:=⟨z1,z2,z3,z4⟩;have r7:S7[nr]? = some (.lst (B.rs.map fG)):=k57 _ _ 0x9 (uT _ _ r2)

 let zs:List Sd:=fL (sU B) most z
 obtain⟨zl1,zl2⟩:=zu0 (sU B) most z
 let DU:MO:=.lst (zs.map dh)
 have du:=Y_ B nr z most S7 r7 ⟨by omega,by omega⟩ 0x0
 let S8:ak:=S7++[DU]
 have b8:Bs S8:=hb7.app (by simp[DU]);have bk8:jJ S8 b B:=bk7.mono (Keeps.app _ _)
 let S9:ak:=S8++[.lst (B.rs.map fG)]
 have b9:Bs S9:=b8.app 0x1;have tr:=zq7 B hB.rs S8.length z most S9 0x15 ⟨by omega,by omega⟩ 0x0 b9.c (dC (dC t37))
 let SA:ak:=S9++[DU]
 have bA:Bs SA:=b9.app (by simp[DU]);have kA:Keeps S8 SA []:=(Keeps.app _ _).trans (Keeps.app _ _);have bkA:jJ SA b B:=bk8.mono kA;have d8:SA[S7.length]? = some DU:=kA _ _ 0x1 0x15;have fl:dw (zs.map dh)=true/\deps (zs.map dh)<=1:=by
  clear zl1 zl2 du tr d8;generalize zs=ys
  induction ys with
  | nil=>simp
  | cons y ys ih=>exact⟨by simp[ih.1,dh],by have:=ih.2;simp[dh];omega⟩
 have ne:=zve (st:=SA) 800 S9.length S7.length (zs.map dh) (by unfold aA;rw[qN (st:=S9) (g:=[DU]) (k:=0) rfl]) (by unfold aA;rw[d8]) fl.1 (by have:=fl.2;omega)

 have RP:0<zs.length:=zl1
 let zl:Sd:=zs[zs.length - 1]'0x0
 have hzl:zs[zs.length - 1]? = some zl:=gB _;have all:=zte hB most 4 z hz ⟨z5,z6⟩;have im:=zl4 hB bA bkA z hz 0x0 0x0;have wk:=Ei hB bA bkA zs z zl (Ca _ _ _) hzl (g_ zl2 0x0) (λi y y' a c=>zpr _ _ _ i y y' a c) (λy hy=>⟨(all y hy).1,by have:=(all y hy).2;exact⟨by have:=this.1;omega,by have:=this.2;omega⟩⟩) S7.length d8;obtain⟨ol,sl⟩:=all zl (gU hzl);have la:=sl.1;have lb:=sl.2;have nx:=Cy B nr zl SA (kA _ _ 0x1 (dC r7)) 0x0 0x0;have ix:aV (.loc S7.length) (.int (-1)) SA=.ok (dh zl) SA:=by
  refine uZ _ _ _ (zs.map dh) _ (by unfold aA;rw[d8]) ?_;have e:zs=zs.take (zs.length - 1)++[zl]:=by
   have:=List.take_append_getElem (l:=zs) (i:=zs.length - 1) 0x0;rw[show zs.length - 1+1=zs.length by omega,kO]at this;exact this.symm
  rw[e,mC];exact Dv _ _
 have fz:∀(y:Sd),M.iw 800 (dh y) (dh y) SA=.ok (.bl true) SA:=λy=>Fo (st:=SA) 800 (dh y) (by simp[dh]) (by simp[dh]);unfold zm4 bF bw zpu;have l2':S2.length+2=b:=rfl;refine abP (X:=SA) (b_ (Mh ns 1 _ (h % 2) _ S0 rfl (aM (bU ce0 rfl) rfl (mo _ _ _ 0x0)) it0 0x0) ?_) rfl;rw[hl0];refine yd (bU e2 rfl) rfl (b_ (Ka (X':=S4) (aW (oZ (ziy r2) rfl) (aW rfl (aW (oZ (ziy (dC n2)) rfl) (by simp[S4];rfl)))) (by rw[l4,gO];exact e5)) ?_);rw[l4];refine b_ (bU e6 rfl) (b_ (bU e7 rfl) (b_ (bU du rfl) (oX #[17,(bU tr #[6,(oZ (ziy (dC r7)) rfl)]),ne] (b_ (bU wk #[12,(bU im rfl)]) (oX 0x10 (b_ (bU nx #[12,#[0,ix]]) ?_))))));cases e:sU B zl with
 | some y =>
  have oy:yM B y/\Sm 200 y:=by
   have q:=BR sl e;refine⟨?_,⟨by have:=q.1;omega,by have:=q.2;omega⟩⟩;unfold sU at e;obtain⟨r,hf,rfl⟩:=mO.mp e;exact ol.go hB.ok (nM hf)
  have er:rn B zl=([111,110],iJ B y):=by unfold rn;rw[e]
  rw[er];have it:=zhv hB bA bkA y oy.1 (by have:=oy.2.1;omega) (by have:=oy.2.2;omega);exact xN (qP 0x10 (fB (zuj (aM (bU it #[12,#[0,dR]]) rfl (fz y)) (aM #[0,dR] rfl ZQ))))
 | none =>
  have er:rn B zl=([118,97,108,117,101],Bj B zl):=by unfold rn;rw[e]
  rw[er];have et:=zrb hB bA bkA zl ol 0x0 0x0 hB.ss;have si:=zul hB.ok zl ol.c;rw[e]at si;have de:=R9 hB.ok hB.few ol 200 0x0 0x0;have hss:=hB.ss;have t5:=zkf (Bj B zl) 5 SA 0x0;rw[T9 (Vp si.2)]at t5;exact oX 0x10 (oX (ztl #[17,#[0,dR],(ue ZQ)] (dq (aM (bU et #[12,#[0,dR]]) #[0,ix] (ue (fz zl))))) (fB (aM (aM (bU t5 #[6,#[0,dR]]) rfl dR) rfl Vk)))
end Law
open PySem PySem.W PyProof.Rows
namespace PySem.W.Fast
def tw8683393444851038474:=()
def tw677052124462512:=()
def tw5206840915924018058:=()
def tw4500327941198184180:=()
def tw10935405975890856706:=()
def tw3847869269508571647:=()
def tw5298543166349921757:=()
def tw5602322307458236020:=()
def tw5794502784839921129:=()
def tw9410554059049766795:=()
def tw13846244012461266985:=()
def tw16821282516262441831:=()
def tw1196783301564325186:=()
def tw17524639795762026671:=()
def tw1168902160253035217:=()
def tw4108718927468878736:=()
def tw2619590796109258615:=()
def tw3331546520782191289:=()
def tw1583273739916885559:=()
def tw14667616834668275843:=()
def tw14131740585095681465:=()
def tw9605954180692742402:=()
def tw4872640026086827643:=()
def tw3221463174406374192:=()
def tw14764060621314271853:=()
def tw13481122570952272835:=()
def tw6169728309378102159:=()
def tw11688397895921498517:=()
def tw2022345667008811248:=()
def tw17958853748769094027:=()
def tw372653415493518387:=()
def tw5260308282142688169:=()
def tw18020291679930419144:=()
def tw16823276003330999694:=()
def tw15487903081404487161:=()
def tw14006001026687072069:=()
def tw2182200013210949269:=()
def tw18046893032394135031:=()
def tw11406776604146122083:=()
def tw10594307011231758384:=()
def tw14513188336814370489:=()
def tw15555663314001182702:=()
def tw1044451514332129242:=()
def tw4970036938577435951:=()
def tw13004520997732367377:=()
def tw11019944446521117954:=()
def tw7351687115180785444:=()
def tw10903423462351420907:=()
def tw18034358256829136371:=()
def tw13524441842415529490:=()
def tw1256003640789027252:=()
def tw17767998172532243227:=()
def tw4213694896986829521:=()
def tw8087303451094530391:=()
def tw10165366326052936086:=()
def tw12339306623357737435:=()
def tw13111675401913579934:=()
def tw10563581037719719134:=()
def tw7252922982882723312:=()
def tw17637737606349474472:=()
def tw14017642499158210278:=()
def tw8792363415825587120:=()
def tw12852397498921795202:=()
def tw17220020719487862488:=()
def tw2007630069658303155:=()
def tw4276265350268002509:=()
def tw16647734142374858091:=()
def tw9788656143896756725:=()
def tw8413610929989749045:=()
def tw2631780882097662699:=()
def tw2585502044675864455:=()
def tw16548617385911639043:=()
def tw13976017227974765618:=()
def tw8801332448745204905:=()
def tw16604581110644818620:=()
def tw15888274807699712953:=()
def tw16447098415446660905:=()
def tw9548649408235073333:=()
def tw10504383034923677762:=()
def tw5599483510442690391:=()
def tw4402446142781686967:=()
def tw12589481293207470605:=()
def tw11605820052459162111:=()
def tw12105617859856854365:=()
def tw13123847345365939970:=()
def tw8601308013150238459:=()
def tw10223558973652615893:=()
def tw15560107010631360379:=()
def tw1919725839546102006:=()
def tw15036903662189610384:=()
def tw18377693122867338311:=()
def tw9112362654576623111:=()
def tw14006871402849779461:=()
def tw12951794776912817620:=()
def tw9930528890080488372:=()
def tw5892833249201065705:=()
def tw4839732542202272738:=()
def tw11564817032219912340:=()
def tw1963217994118532716:=()
def tw2082397153072184551:=()
def tw13955672670468305620:=()
def tw14192736670599504752:=()
def tw2183460746803430902:=()
def tw4118555459848216723:=()
def tw13480175414716682677:=()
def tw11849575783562173427:=()
def tw10744592922955944903:=()
def tw9047124828186968406:=()
def tw13392499221907172907:=()
def tw13377096893018611793:=()
def tw13330845054278253704:=()
def tw4893974150413000099:=()
def tw13261763988541869130:=()
def tw16491442157406186263:=()
def tw13115139309290669051:=()
def tw1122736067345630865:=()
def tw6152135572830862239:=()
def tw17693341933428415261:=()
def tw11660722562819224433:=()
def tw10605854942057256196:=()
def tw5507276723198349961:=()
def tw9927076871855342554:=()
def tw17345271418834241821:=()
def tw15914121475716120404:=()
def tw2544989909295105292:=()
def tw13027350198217373523:=()
def tw9284622630486328108:=()
def tw16330079234195224406:=()
def tw916824567362961279:=()
def tw2624582989394279746:=()
def tw1894704514778409659:=()
def tw3873343575011532280:=()
def tw408544467428559078:=()
def tw16444387759773011239:=()
def tw4475714832298905258:=()
def tw11232175462102251790:=()
def tw17369666610270960262:=()
def tw15987870334864061439:=()
def tw15313021235608198863:=()
def tw8904998076789903439:=()
def tw11250671056899261021:=()
def tw13827078245682840503:=()
def tw4681113906542541935:=()
def tw1914708032434328726:=()
def tw8673308625157056783:=()
def tw14918905376146431403:=()
def tw11684130995294660497:=()
def tw6700997882436052228:=()
def tw12027074533149105396:=()
def tw12983848236970234284:=()
def tw15928493392058449480:=()
def tw1882073012802865479:=()
def tw8942852957621508535:=()
def tw14147400931692338745:=()
def tw5766684191684960756:=()
def tw4314688944900695223:=()
def tw1997488199797050497:=()
def tw11704817847016201777:=()
def tw13408392781796844553:=()
def tw10325801348909081079:=()
def tw3447554118343681364:=()
def tw18335587342102029889:=()
def tw8192873774054846268:=()
def tw8125834609851407695:=()
def tw13589950482643508781:=()
def tw4340552898635224354:=()
def tw2214307036995464141:=()
def tw5361395952241168897:=()
def tw10992895954624484786:=()
def tw11697506640844469238:=()
def tw5839883875349032558:=()
def tw3652059924694867566:=()
def tw14587225726259801208:=()
def tw10863756315951257884:=()
def tw2905091954697656508:=()
def tw11096055570114657521:=()
def tw8957767988156751189:=()
def tw8823719341011721627:=()
def tw5077537274568575439:=()
def tw11889599268393009416:=()
def tw8504641560257532580:=()
def tw9551760259010953840:=()
def tw16710776417342234623:=()
def tw4197520030549805602:=()
def tw5743021658085468449:=()
def tw16736893194646521000:=()
def tw15894729877253706053:=()
def tw16126218976526309410:=()
def tw15778622550585366603:=()
def tw15395203315007891015:=()
def tw3959966114169036338:=()
def tw10521297491571869191:=()
def tw1473357983089349350:=()
def tw2020758563183334942:=()
def tw4824702300392687058:=()
def tw6402977742665891982:=()
def tw6202282829537665750:=()
def tw7613880210948807488:=()
def tw1892640674525710492:=()
def tw4305685492952322088:=()
def tw2759707088333602689:=()
def tw10974678009248553336:=()
def tw10266961761312493784:=()
def tw15819487395785473335:=()
def tw3879719214564907761:=()
def tw16387477692221003193:=()
def tw11863413486941834614:=()
def tw13104241752778954159:=()
def tw1185759250706525403:=()
def tw10281975357461830179:=()
def tw7060915364598345533:=()
def tw8547201172492490073:=()
def tw5642500860729554586:=()
def tw17168595699150395035:=()
def tw18075146562050391331:=()
def tw583166185544152084:=()
def tw14157092006689939195:=()
def tw14365517774379518146:=()
def tw782276792272220500:=()
def tw605125143720350633:=()
def tw5856328319104322952:=()
def tw14768900213293955935:=()
def tw10570494004405266289:=()
def tw6303417407273061267:=()
def tw13444995898600565386:=()
def tw3601107505663236791:=()
def tw8259073251544333965:=()
def tw9336309552270878789:=()
def tw10589746377248746157:=()
def tw2881754974265001782:=()
def tw3444642873224327380:=()
def tw10735616825504751289:=()
def tw7170795771668990187:=()
def tw12899468873057144022:=()
def tw12429793043262711238:=()
def tw13407950844656045526:=()
def tw14928331129775061382:=()
def tw15020338019800492814:=()
def tw1873800786367219805:=()
def tw2797004487278531757:=()
def tw111833522955890331:=()
def tw6566284237800332197:=()
def tw6820555537858098330:=()
def tw14798482218033993049:=()
def tw16375451845917705022:=()
def tw11987502748611273979:=()
def tw8505071472973352466:=()
def tw3866353357073431077:=()
def tw15953760018774157768:=()
def tw6825392262490597121:=()
def tw13555913407155752889:=()
def tw16912090006148947459:=()
def tw16494847459896512853:=()
def tw10646831043087402755:=()
def tw5692877530584199648:=()
def tw11150747310421263298:=()
def tw15314782174050048015:=()
def tw13854401311036246453:=()
def tw7821976190015950575:=()
def tw11669432442549947020:=()
def tw10880162146465809465:=()
def tw10786254844071013502:=()
def tw3568290967612720770:=()
def tw1708122482692616633:=()
def tw14224055622421881833:=()
def tw8228545079145205798:=()
def tw11852400971266124668:=()
def tw9304361679189105474:=()
def tw8239551640485956722:=()
def tw8104366878153623097:=()
def tw7843079035712625879:=()
def tw7739270621851412949:=()
def tw7322415378814510152:=()
def tw18266376931830703104:=()
def tw16512713254664974432:=()
def tw15759754753915489246:=()
def tw13159150188695853819:=()
def tw8959815142687845502:=()
def tw1936629992261742498:=()
def tw16730445880218686906:=()
def tw16131282631793607626:=()
def tw14523265032877633699:=()
def tw7527430557041972084:=()
def tw5944629782700394438:=()
def tw3281801678968817440:=()
def tw2645261955018860986:=()
def tw17645949382936462806:=()
def tw13258069281129293235:=()
def tw13207432198144874855:=()
def tw12937615958654948694:=()
def tw1010250248794910426:=()
def tw913568471100997627:=()
def tw15843678042696837629:=()
def tw9951265326298533247:=()
def tw7401780545479894608:=()
def tw4848661604452700643:=()
def tw4803803562587673046:=()
def tw14139794388347619456:=()
def tw13524101636279789573:=()
def tw7445086063814240742:=()
def tw6755871450295198391:=()
def tw2168576926656846302:=()
def tw10954093360438096601:=()
def tw6601469806221955003:=()
def tw5502362458661016034:=()
def tw176665152452183447:=()
def tw16999870232427157960:=()
def tw14882345424040922542:=()
def tw1419670107194396383:=()
def tw4029768837893007435:=()
def tw3403753060279921193:=()
def tw8281093082811693114:=()
def tw4136071991484493816:=()
def tw3124995261638747070:=()
def tw17930150976754699465:=()
def tw6402359239065002622:=()
def tw3799049459568268338:=()
def tw5072489661582404653:=()
def tw4675429146644437049:=()
def tw950688584866257997:=()
def tw752933389448263347:=()
def tw7513489993595108555:=()
def tw4215318419102098478:=()
def tw9848325255917955053:=()
def tw6511842257552051702:=()
def tw13408507549767601841:=()
def tw12513185283028802468:=()
def tw16168739087494990605:=()
def tw4661111155478063867:=()
def tw349623133798112438:=()
def tw13397813293029625605:=()
def tw10025168526576707313:=()
def tw2267122929734587893:=()
def tw9941292880403987435:=()
def tw3863087825282293195:=()
def tw2163325758415840862:=()
def tw16339807388873194582:=()
def tw15902503345824283827:=()
def tw5706682279052274209:=()
def tw12641798151099478873:=()
def tw13002958262702561671:=()
def tw3267900169952063757:=()
def tw4697871407221512596:=()
def tw8822823914618504030:=()
def tw577324744382144508:=()
def tw6681823262859869581:=()
def tw582871159401302434:=()
def tw2687063383421529034:=()
def tw16572923275343639563:=()
def tw7000362881582048061:=()
def tw13304521549832477985:=()
def tw15032407424036217328:=()
def tw12365657250519662278:=()
def tw380526765941024974:=()
def tw3141554286180451291:=()
def tw3011850626450253118:=()
def tw16728081128935658665:=()
end PySem.W.Fast
set_option maxRecDepth 100000 in
set_option maxHeartbeats 0 in
theorem PySem.Challenge.cw_oneofall_k92_whole_tapes_in_trees_holds : PySem.Challenge.rw_oneofall_k92_whole_tapes_in_trees.Holds := by
 w_on;o_law;k_head;(case hw=>w_witness2)
 k_fill
 refine M.holds_ofT Law.tabs (F:=Law.zm4) (k:=65) (x:="_law_script") rfl rfl ⟨rfl,by decide,by decide⟩ (by decide) (fun w h Y=>⟨PySem.W.km_in_of Y,fun P hP=>PySem.W.km_tabs_of Y P ((show ∀Q∈Law.tabs.map (·.2),Q∈([75,124,272]:List Addr) from by decide) P hP)⟩) ?F Law.law_true
 case F =>
  intro w mg fa h KX G hmg
  refine' Law.all_mk KX G hmg ?_ ?_ ?_ ?_ ?_ ?_ ?_ ?_ ?_ ?_ ?_ ?_ ?_ ?_ ?_ ?_ ?_ ?_ ?_ ?_ ?_ ?_ ?_ ?_ ?_ ?_ ?_ ?_ ?_ ?_ ?_ ?_ ?_ ?_ ?_ ?_ ?_ ?_ ?_ ?_ ?_ ?_ ?_ ?_ ?_ ?_ ?_ ?_ ?_ ?_ ?_ ?_ ?_ ?_ ?_ ?_ ?_ ?_ ?_ ?_ ?_ ?_ ?_ ?_ ?_ ?_ ?_ ?_ ?U ?Z ?N0 ?N1
  (case U=>(repeat refine' M.Us.cons (by k_is) (L2.fun_mk (by k_is) (by k_is) (by k_is)) (by intro _ _ _ _ _ _ us hl;first | (cases List.eq_nil_of_length_eq_zero hl;rfl) | (obtain⟨_,rfl⟩:=Law.us1 hl;rfl) | (obtain⟨_,_,rfl⟩:=Law.us2 hl;rfl) | (obtain⟨_,_,_,rfl⟩:=Law.us3 hl;rfl) | (obtain⟨_,_,_,_,rfl⟩:=Law.us4 hl;rfl) | (obtain⟨_,_,_,_,_,rfl⟩:=Law.us5 hl;rfl)) ?_);exact M.Us.nil)
  (case Z=>(repeat refine' M.Zs.cons (by k_is) ?_);exact M.Zs.nil)
  all_goals try first | k_is | kernel_rfl | (refine' L2.fun_mk ?l ?c ?k;(case l=>k_is);(case c=>k_is);(case k=>k_is))
  (case N0=>(repeat refine' M.As.cons (by k_is) ?_);exact M.As.nil)
  (case N1=>(repeat refine' M.As.cons (by k_is) ?_);exact M.As.nil)
