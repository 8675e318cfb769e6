import PyProof.Rows.All
import Wide.All
import KE.KDictOf
import KE.LcSums
import KE.KRevIter
import KE.KDictList
import KE.KUnpack
import KE.KSortTup
import KE.KIntText
import KE.KTryMore
import KE.KFromBytes
import Wide.FinOn
import KE.RegKIsAll
import Lean
import PySem.Challenge.RW_ringbeat_k92_whole_least_round_and_fate
set_option Elab.async false
set_option linter.all false
set_option compiler.extract_closed false
set_option genSizeOf false
set_option maxRecDepth 100000
set_option maxHeartbeats 4000000
open Array renaming length_toList→dr,getElem?_eq_some_iff→lK,append_assoc→yU
open Bool renaming false_ne_true→cB,and_eq_true→c7,false_eq_true→dH,or_eq_false_iff→xJ,or_false→DC
open Int renaming mul_le_mul_of_nonneg_right→cH,mul_le_mul_of_nonneg_left→dP,le_of_lt→eD,mul_le_mul→fE,mul_pos→fF,le_refl→gZ,gcd→iH,eq_of_mul_eq_mul_right→iU,le_of_mul_le_mul_right→iV,mul_comm→iY,mul_nonneg→kx,fdiv_eq_ediv_of_nonneg→lV,toNat_natCast→mG,add_mul→oG,mul_one→oH,mul_nonneg_of_nonpos_of_nonpos→pM,gcd_dvd_right→p9,nonneg_of_mul_nonneg_left→rF,one_mul→rG,emod_nonneg→si,le_antisymm→sk,fmod_eq_emod_of_nonneg→tK,pos_of_mul_pos_right→uZ,fdiv_eq_ediv_of_dvd→vH,fmod_nonneg_of_pos→wL,le_total→wM,le_trans→wN,mul_ediv_cancel'→yW,mul_add→yX,ediv_mul_cancel→Ae,toNat_of_nonneg→Af,emod_lt_of_pos→AO,fmod_lt_of_pos→AQ,gcd_dvd_left→Ck,natCast_mul→CQ,natAbs_mul→DD
open List renaming mem_cons_self→bH,mem_cons_of_mem→bK,length_map→bQ,range→bR,mem_singleton→bU,replicate→bW,mem_cons→bY,getElem?_eq_some_iff→bZ,mem_append_right→b6,length_cons→b8,mem_range→ce,map_cons→ck,length_append→cn,getElem?_map→cu,size_toArray→cv,mem_append→cA,mem_append_left→cC,length_range→cE,nodup_append→cF,mem_filter→cI,mem_iff_getElem?→cJ,mem_map→cK,lookup_cons→cM,append_nil→cP,length_singleton→cV,nodup_cons→cW,nodup_nil→cZ,getElem?_eq_getElem→df,sum_cons→di,getElem?_append_left→dE,replicate_succ→dI,foldl_cons→dS,map_append→dU,map_map→d7,getElem?_set_ne→eG,getElem?_range→eQ,find?_cons→eS,set→eU,mem_of_getElem?→fk,take_append_of_le_length→fu,append_assoc→fL,map_congr_left→fO,all_cons→fX,getElem?_append_right→f9,length_replicate→gc,flatten_cons→gD,mem_iff_getElem→gE,countP_cons→gM,eq_nil_of_length_eq_zero→gX,length_zip→iu,any_cons→iz,lookup→iM,all_eq_true→iW,length_reverse→i6,zip_cons_cons→jR,length→jT,take_of_length_le→ku,length_filter_le→kC,getElem?_of_mem→kP,mem_of_mem_take→kQ,of_mem_zip→kY,length_pos_iff→lA,countP_append→lQ,getElem_range→lR,drop_eq_getElem_cons→ml,range'→mz,ext_getElem?→mC,foldl_append→mD,Pairwise→mH,ext_getElem→mX,filter_cons_of_neg→mY,filter_cons_of_pos→mZ,getElem?_replicate→m5,length_drop→m6,length_take→m7,map_reverse→m9,nodup_range→nc,drop_eq_nil_of_le→nE,getElem?_set_self→nF,map_const'→nN,getElem?_eq_none→nR,filterMap_cons→oO,contains_cons→pf,findIdx?_cons→pj,map_singleton→pq,any_eq_false→pS,map_nil→pT,reverse_cons→pU,any_eq_true→qQ,getElem_inj→qR,getElem_map→qS,getElem_set→qT,forIn_cons→rH,perm_ext_iff_of_nodup→sK,contains→t8,idxOf_lt_length_iff→t9,map_drop→uA,append_cancel_left→vA,length_eq_zero_iff→vB,drop_of_length_le→vI,range_succ_eq_map→vJ,countP_mono_left→wO,countP_singleton→wQ,pairwise_reverse→wR,range_eq_range'→xL,getElem_toArray→xM,mem_of_mem_drop→xN,filter_eq_self→yY,filter_append→Ag,filter_filter→Ah,find?_eq_none→Ai,foldl→Aj,getElem_idxOf→Ak,mem_filterMap→Am,drop_sublist→AR,getElem?_set→AS,getElem_take→AT,idxOf_append→AU,filter_cons→Bj,getElem_mem→Bl,mem_reverse→Bm,take_length→Bn,zipIdx_cons→Bo,take_left'→Cm,find?_some→Co,idxOf_cons→Cp,length_nil→Cq,length_set→Cr,nil_append→Ct,zip_append→Cu,forIn_nil→CS
open Nat renaming le_refl→b7,lt_of_lt_of_le→cL,ne_of_lt→cN,le_trans→dA,zero_le→ej,pow_le_pow_right→fG,lt_irrefl→fY,add_sub_cancel_left→gO,lt_succ_self→kI,min_self→lL,le_succ→mI,lt_succ_of_lt→mJ,lt_of_le_of_lt→pN,le_of_lt→qA,le_of_succ_le→qB,ne_of_gt→qC,pow_succ→qD,log2_lt→rJ,min_eq_left→sr,mod_lt→tL,le_of_eq→wU,sub_zero→wV,min_eq_right→Cv,mul_le_mul→DE
open Option renaming bind_some→de,map_eq_some_iff→dz,isSome_map→pv,isSome_iff_exists→sM,getD_none→An,map_some→AV
open PyProof.Rows renaming callWith_type1→dG,callWith_builtin1→oz
open PySem renaming Value→bJ,Addr→bO,wpAny_bind→bP,Shared→bV,FuncData→b5,model→b9,wpAny→cj,wpAny_pure→cy,Heap→cz,NameKind→cO,starEach→cT,Around→c8,bootBuiltins→dw,World→dB,sizeLine_eq→dF,Stmt→dO,Program→dQ,eval→dR,wpAny_Call_Name_kw→dX,compareOp→d5,PyData→d8,wpAny_mono→eo,Builtin→er,mainGlobals→eu,strIterType→ez,assignEach→eJ,keywordEach→eO,behindInMarks→fM,holding→fV,swapsWith→gq,binaryOp→gC,Obj→gF,PassesOwn→gI,codeAny→gK,wpAny_truthy_bool→gL,backToKw→ij,backTo→iD,sysModules→iE,tupleKind_room_in1→iF,wpAny_passesOwn→iK,cLine→jH,standAt→jN,wpAny_standAt→kn,getMethod→kz,codeAny_mono→kJ,wpAny_newObj_type→kK,assign→lB,swappedStores→lD,swapsWithSole→lE,wpAny_holding→lF,sliceBounds→lM,letOwnedTupleGo→lW,Pos→mE,callWith→mS,Keyword→nG,attributeBase→nO,tupleKind→og,Data→oI,wpAny_execs_nil→oP,Scope→pO,nums_intItems→qU,call_meets→rA,typeLookup→rB,BindsTo→su,Code→sx,callerA→sy,getItem→sA,seqIndex_neg→sC,setItem→sD,valueAt→sE,seqIndex_of→uB,subscripted→uC,wpAny_specialOf→vC,Operator→wW,atKey→wX,newFunctionEnv→wY,CmpOp→Ao,bindC→Ap,bindL→Aq,concat_meets→AW,isTrue→AX,release→AY,Sem→Cw,builtinsNs→DF,revObj→DG,typeIs_int→DH,wpAny_Name→DI
open PySem.Heap renaming get?_push_of_some→bT,lt_size→cw,get?_push_size→cU,get?_update_other→cY,get?_update_self→el,size_push→iL,SameBut→lC,update_setField_same→tJ,get?_none_of_le→xK,get?_update_ne→yV,get?_push_at→AN
open PySem.W renaming Frag→bM,findIn→cX,keepIn→dY,kia_one→d4,Looks→d9,emptyDict→eK,specialIn→eL,mroIn→eX,hasDictIn→fw,instObj→gk,kitOne→gH,callWith_K→gP,takerIn→gY,methodCall_KW→iq,exmOne→iG,findCls→kL,readsIn→kM,isFn→kW,plainGet→mF,cellsFrom_some→mT,fnOf→mU,lookIn→nP,looks_findIn→nQ,looks_clsIn→oh,plainGet_of→oj,clsIn→oA,kitx_list→o6,methodObj→o7,OpenLaw→qE,makesIn→qF,takesIn→qG,codeIn→rC,check_slot→wZ,method_cls→xA,cls_value→xO,kitx_dict→xP,plainOver→xQ,set_plain→xR,InitBack→yZ,handedIn→zA,bind_fn→Ar,isClsIn→As,InstAt→AZ,notCls→A0,typeIn→A6,WalkO→Bp,subIn→Bq
local macro_rules| `(tactic|walk_at "v1")=>`(tactic|first|exact Or.inl rfl|exact Or.inr (Or.inl rfl)|exact Or.inr (Or.inr rfl))
local macro_rules| `(tactic|walk_at "v2")=>`(tactic|first|exact .inl rfl|exact .inr rfl|assumption)
local macro_rules| `(tactic|walk_at "v3")=>`(tactic|first|exact Or.inl rfl|exact Or.inr rfl)
abbrev lS (x:PySem.Str):Prop:=(x==("__debug__":PySem.Str))=false
abbrev xD (x:PySem.Str):Prop:=(x==("__classdict__":PySem.Str))=false
namespace L2
open PySem PySem.Spec PyProof.Rows
abbrev ko:=Sum Int Str
def tU:ko->bJ->Bool
 |.inl k,v=>bJ.isInt k v
 |.inr x,v=>bJ.isStrOf x v
def LA (w:dB):ko->Int
 |.inl k=>hashInt k
 |.inr x=>hashStr w x
theorem z4:∀{k:ko} {v:bJ},tU k v=true->(∃i t,k=Sum.inl i/\v=bJ.int i t)\/(∃x t,k=Sum.inr x/\v=bJ.str x t)
 |.inl i,v,h=>by obtain⟨t,e⟩:=bJ.isInt_shape (k:=i) (v:=v) h;exact .inl ⟨i,t,rfl,e⟩
 |.inr x,v,h=>by obtain⟨t,e⟩:=bJ.isStrOf_shape (x:=x) (v:=v) h;exact .inr ⟨x,t,rfl,e⟩
theorem Vk (i:Int)(t:Tok):tU (.inl i) (.int i t)=true:=by simp[tU,bJ.isInt]
theorem Vl (x:Str)(t:Tok):tU (.inr x) (.str x t)=true:=by simp[tU,bJ.isStrOf]
theorem Z3 (a b:Int):decide ((Sum.inl a:ko)=Sum.inl b)=(a==b):=by
 by_cases e:a=b
 ·subst e;simp
 ·have h:¬(Sum.inl a:ko)=Sum.inl b:=λq=>e (Sum.inl.inj q);rw[decide_eq_false h];exact(beq_eq_false_iff_ne.mpr e).symm
theorem Z4 (a b:Str):decide ((Sum.inr a:ko)=Sum.inr b)=decide (a=b):=by
 by_cases e:a=b
 ·subst e;simp
 ·have h:¬(Sum.inr a:ko)=Sum.inr b:=λq=>e (Sum.inr.inj q);rw[decide_eq_false h,decide_eq_false e]
theorem Z5 (a:Int)(b:Str):decide ((Sum.inl a:ko)=Sum.inr b)=false:=decide_eq_false (λq=>nomatch q)
theorem Z6 (a:Str)(b:Int):decide ((Sum.inr a:ko)=Sum.inl b)=false:=decide_eq_false (λq=>nomatch q)
noncomputable def gB (prog:dQ)(w:dB):PySem.KeyKind prog w ko where
 is:=tU
 hash:=LA w
 inj:=λv a b ha hb=>by
  rcases z4 ha with⟨i,t,rfl,rfl⟩|⟨x,t,rfl,rfl⟩
  ·rcases z4 hb with⟨j,u,rfl,e⟩|⟨y,u,rfl,e⟩
   ·injection e with e1 _;rw[e1]
   ·exact nomatch e
  ·rcases z4 hb with⟨j,u,rfl,e⟩|⟨y,u,rfl,e⟩
   ·exact nomatch e
   ·injection e with e1 _;rw[e1]
 byValue:=λk v h=>by rcases z4 h with⟨i,t,rfl,rfl⟩|⟨x,t,rfl,rfl⟩<;>rfl
 pyHash:=λhv h=>by
  rcases z4 hv with⟨i,t,rfl,rfl⟩|⟨x,t,rfl,rfl⟩
  ·exact wpAny_pyHash_int h
  ·exact wpAny_pyHash_str h
 eqBool:=λhu hv h=>by
  rcases z4 hu with⟨i,t,rfl,rfl⟩|⟨x,t,rfl,rfl⟩
  ·rcases z4 hv with⟨j,u,rfl,rfl⟩|⟨y,u,rfl,rfl⟩
   ·rw[Z3]at h;exact wpAny_eqBool_int h
   ·rw[Z5]at h;exact SeqAt.EqAt.int_str i t y u _ _ _ _ h
  ·rcases z4 hv with⟨j,u,rfl,rfl⟩|⟨y,u,rfl,rfl⟩
   ·rw[Z6]at h;exact SeqAt.EqAt.str_int x t j u _ _ _ _ h
   ·rw[Z4]at h;exact wpAny_eqBool_str h
 «strs»:=λk x t v h=>by
  rcases z4 h with⟨i,u,rfl,e⟩|⟨y,u,rfl,e⟩
  ·exact nomatch e
  ·injection e with e1 _;subst e1;cases v<;>rfl
theorem UZ (prog:dQ)(w:dB)(i:Int)(t:Tok):(gB prog w).is (.inl i) (.int i t)=true:=Vk i t
theorem U0 (prog:dQ)(w:dB)(x:Str)(t:Tok):(gB prog w).is (.inr x) (.str x t)=true:=Vl x t
inductive V where
 |non|bl (b:Bool)|int (i:Int)|str (x:Str)|byt (b:Array UInt8)|flt (b:UInt64)|ref (a:bO)|ty (n:String)
 deriving DecidableEq
def RelV:V->bJ->Prop
 |.non,u=>u=bJ.none
 |.bl b,u=>u=bJ.bool b
 |.int i,u=>∃t,u=bJ.int i t
 |.str x,u=>∃t,u=bJ.str x t
 |.byt b,u=>∃t,u=bJ.bytes b t
 |.flt b,u=>∃t,u=bJ.float b t
 |.ref a,u=>u=bJ.ref a
 |.ty n,u=>u=bJ.type n
abbrev dm:List V->List bJ->Prop:=Paired RelV
variable {us:List bJ}{xs:List V}
theorem dm.length (r:dm xs us):xs.length=us.length:=Paired.length r
theorem dm.get:∀{xs:List V} {us:List bJ} {i:Nat} {x:V},dm xs us->xs[i]?=some x->∃u,us[i]?=some u/\RelV x u
 |_,_,_,_,.nil,e=>by simp at e
 |_,_,0,_,.cons r _,e=>by simp at e;subst e;exact⟨_,rfl,r⟩
 |_,_,i+1,x,.cons _ t,e=>by obtain⟨u,h1,h2⟩:=dm.get (i:=i) (x:=x) t (by simpa using e);exact⟨u,by simpa using h1,h2⟩
variable {u:bJ}
theorem dm.set {x:V}{u:bJ}(r:RelV x u):∀{xs:List V} {us:List bJ} (i:Nat),dm xs us->dm (xs.set i x) (us.set i u)
 |_,_,_,.nil=>.nil
 |_,_,0,.cons _ t=>.cons r t
 |_,_,i+1,.cons q t=>.cons q (dm.set r i t)
theorem dm.append:∀{xs ys:List V} {us ws:List bJ},dm xs us->dm ys ws->dm (xs++ys) (us++ws)
 |_,_,_,_,.nil,s=>s
 |_,_,_,_,.cons r t,s=>.cons r (dm.append t s)
theorem dm.take:∀{xs:List V} {us:List bJ} (n:Nat),dm xs us->dm (xs.take n) (us.take n)
 |_,_,0,_=>.nil
 |_,_,_+1,.nil=>.nil
 |_,_,n+1,.cons r t=>.cons r (dm.take n t)
theorem dm.drop:∀{xs:List V} {us:List bJ} (n:Nat),dm xs us->dm (xs.drop n) (us.drop n)
 |_,_,0,r=>r
 |_,_,_+1,.nil=>.nil
 |_,_,n+1,.cons _ t=>dm.drop n t
def nI:Option V->Option bJ->Prop
 |some v,some u=>RelV v u
 |none,none=>True
 |_,_=>False
variable {κ:Type}
def KV:List (κ×V)->List (κ×bJ)->Prop:=Paired λ(p:κ×V) (q:κ×bJ)=>p.1=q.1/\RelV p.2 q.2
def kV:ko->V
 |.inl i=>.int i
 |.inr x=>.str x
inductive HO where
 |lst (xs:List V)
 |tup (xs:List V)
 |dK (dZ:List (ko×V))|dT (dZ:List (List ko×V))
 |set (S:Int->Bool) (n:Nat)
 |ins (C dx:bO) (fs:List (Str×V))
 |own (x:bO)
 |xd (fs:List (Str×V))
 |met (f x:bO)
 |rng (lo hi:Int)
 |frz (o:gF) (u:HO)
 |tbl (ps:Array bJ)
 |ext (φ:cz->Prop)
abbrev Hp:=bO->Option HO
def upd (H:Hp)(a:bO)(o:HO):Hp:=λb=>if b=a then some o else H b
variable {H:Hp}{a:bO}
theorem zo {o:HO}:upd H a o a=some o:=by unfold upd;rw[if_pos rfl]
variable {b:bO}
theorem zj {o:HO}(h:b≠a):upd H a o b=H b:=by unfold upd;rw[if_neg h]
theorem zte {o u:HO}(h:H a=some o)(h':H b=some u)(d:o≠u):a≠b:=by intro e;subst e;rw[h]at h';exact d (Option.some.inj h')
theorem zl {o:HO}(h:H a=some o)(h':H b=none):a≠b:=by intro e;subst e;rw[h]at h';cases h'
section
variable (P:dQ)(w:dB)
noncomputable def gj (H:Hp)(h:cz)(a:bO):HO->Prop
  |.lst xs=>xs.length<=sizeLine/\∃(dJ:List bJ) (n:Nat),dm xs dJ/\h.get? a=some { cls:=.type "list",data:=.seq dJ.toArray n }
  |.tup xs=>xs.length<=sizeLine/\∃dJ:List bJ,dm xs dJ/\IsTup h a dJ.toArray
  |.dK dZ=>dZ.length<=sizeLine/\(a==iE)=false/\∃vs,KV dZ vs/\h.DictOf (gB P w) a vs
  |.dT dZ=>dZ.length<=sizeLine/\(a==iE)=false/\∃xs:List (List ko×bO×bJ),
      Paired (λ(p:List ko×V) (q:List ko×bO×bJ)=>p.1=q.1/\H q.2.1=some (.tup (p.1.map kV))/\RelV p.2 q.2.2) dZ xs /\
      ∃o es ep,h.get? a=some o/\o.ExactDict/\o.data=.dict es ep/\es.toList=xs.map (entryOfKey (og (gB P w)))/\(xs.map (·.1)).Nodup
  |.set S n=>h.SetOf (intKind P w) a S n
  |.ins C dx fs=>H dx=some (.own a)/\fs.length<=1000/\dx≠a/\h.get? a=some (gk C dx) /\
      ∃mA,h.Ns1 dx mA/\(∀f,nI (fs.lookup f) (mA f))/\PySem.Within mA (fs.map (·.1))
  |.own _=>∃o,h.get? a=some o
  |.xd fs=>∃mA,h.Ns1 a mA/\∀f,nI (fs.lookup f) (mA f)
  |.rng lo hi=>∃t u v,h.get? a=some { cls:=.type "range",data:=.fields #[.int lo t,.int hi u,.int 1 v] }
  |.frz o u=>h.get? a=some o/\gj H h a u
  |.tbl ps=>h.get? a=some { cls:=.none,data:=.fields ps }
  |.met f x=>h.get? a=some (o7 (.ref f) (.ref x))
  |.ext φ=>φ h/\(∃o,h.get? a=some o)/\∀h1 h2:cz,φ h1->(∀o,h1.get? a=some o->h2.get? a=some o)->φ h2
noncomputable def oS (H:Hp)(h:cz):Prop:=∀a o,H a=some o->gj P w H h a o
end
variable {α:Type}{H':Hp}{P:dQ}{h h':cz}
section
variable {w:dB}{o:HO}
theorem gj.lt (x:gj P w H h a o):a<h.objs.size:=by
 cases o with
 |lst xs=>obtain⟨_,_,_,_,e⟩:=x;exact cw e
 |tup xs=>obtain⟨_,_,_,p⟩:=x;exact p.lt
 |dK dZ=>obtain⟨_,_,_,_,o,_,_,e,_⟩:=x;exact cw e
 |dT dZ=>obtain⟨_,_,_,_,o,_,_,e,_⟩:=x;exact cw e
 |set S n=>obtain⟨o,_,_,_,e,_⟩:=x;exact cw e
 |ins C dx fs=>obtain⟨_,_,_,e,_⟩:=x;exact cw e
 |own y=>obtain⟨_,e⟩:=x;exact cw e
 |xd fs=>obtain⟨_,⟨_,_,_,e,_⟩,_⟩:=x;exact cw e
 |rng lo hi=>obtain⟨_,_,_,e⟩:=x;exact cw e
 |frz ob u=>obtain⟨e,_⟩:=x;exact cw e
 |tbl ps=>exact cw (show h.get? a=some _ from x)
 |met f y=>exact cw (show h.get? a=some _ from x)
 |ext φ=>obtain⟨_,⟨_,e⟩,_⟩:=x;exact cw e
theorem Paired.mapP {α β:Type}{F G:α->β->Prop}:∀{l₁:List α} {l₂:List β},Paired F l₁ l₂->(∀a b,F a b->G a b)->Paired G l₁ l₂
 |_,_,.nil,_=>.nil
 |_,_,.cons r t,f=>.cons (f _ _ r) (Paired.mapP t f)
theorem gj.stay (x:gj P w H h a o)(k:∀b u,(b=a\/H b=some (.own a))->h.get? b=some u->h'.get? b=some u)
    (ho:∀b,H b=some (.own a)->H' b=some (.own a)) (ht:∀b xs,H b=some (.tup xs)->H' b=some (.tup xs)):gj P w H' h' a o:=by
  induction o with
  |lst xs=>obtain⟨z,dJ,n,r,e⟩:=x;exact⟨z,dJ,n,r,k _ _ (.inl rfl) e⟩
  |tup xs=>obtain⟨z,dJ,r,ob,e,c⟩:=x;exact⟨z,dJ,r,ob,k _ _ (.inl rfl) e,c⟩
  |dK dZ=>obtain⟨z,y,vs,r,ob,es,ep,e,c⟩:=x;exact⟨z,y,vs,r,ob,es,ep,k _ _ (.inl rfl) e,c⟩
  |dT dZ=>obtain⟨z,y,xs,r,ob,es,ep,e,c⟩:=x;exact⟨z,y,xs,Paired.mapP r λp q z=>⟨z.1,ht _ _ z.2.1,z.2.2⟩,ob,es,ep,k _ _ (.inl rfl) e,c⟩
  |set S n=>obtain⟨ob,es,ep,t,e,c⟩:=x;exact⟨ob,es,ep,t,k _ _ (.inl rfl) e,c⟩
  |ins C dx fs=>obtain⟨d,z,ne,e,mA,⟨od,es,ep,e2,c⟩,r⟩:=x;exact⟨ho _ d,z,ne,k _ _ (.inl rfl) e,mA,⟨od,es,ep,k _ _ (.inr d) e2,c⟩,r⟩
  |own y=>obtain⟨ob,e⟩:=x;exact⟨ob,k _ _ (.inl rfl) e⟩
  |xd fs=>obtain⟨mA,⟨od,es,ep,e,c⟩,r⟩:=x;exact⟨mA,⟨od,es,ep,k _ _ (.inl rfl) e,c⟩,r⟩
  |rng lo hi=>obtain⟨t,u,v,e⟩:=x;exact⟨t,u,v,k _ _ (.inl rfl) e⟩
  |frz ob u ih=>obtain⟨e,q⟩:=x;exact⟨k _ _ (.inl rfl) e,ih q⟩
  |tbl ps=>have e:h.get? a=some { cls:=.none,data:=.fields ps }:=x;show h'.get? a=some { cls:=.none,data:=.fields ps };exact k a _ (.inl rfl) e
  |met f y=>have e:h.get? a=some (o7 (.ref f) (.ref y)):=x;show h'.get? a=some (o7 (.ref f) (.ref y));exact k a _ (.inl rfl) e
  |ext φ=>obtain⟨p,⟨o,e⟩,st⟩:=x;exact⟨st _ _ p λo q=>k _ _ (.inl rfl) q,⟨o,k _ _ (.inl rfl) e⟩,st⟩
theorem oS.lt (x:oS P w H h)(e:H a=some o):a<h.objs.size:=(x a o e).lt
theorem oS.fresh (x:oS P w H h)(e:h.objs.size<=a):H a=none:=by
 cases q:H a with
 |none=>rfl
 |some u=>exact absurd (cL (x.lt q) e) (fY _)
theorem oS.kept (x:oS P w H h)(k:∀b u,h.get? b=some u->h'.get? b=some u):oS P w H h':=λa o e=>(x a o e).stay (λb u _ q=>k b u q) (λ_ q=>q) λ_ _ q=>q
theorem oS.laid (x:oS P w H h)(k:∀b u,h.get? b=some u->h'.get? b=some u)(hp:h.objs.size<=a)(new:gj P w (upd H a o) h' a o):oS P w (upd H a o) h':=λb u e=>by
 have hn:=x.fresh hp;by_cases hb:b=a
 ·subst hb;rw[zo]at e;cases e;exact new
 ·rw[zj hb]at e;exact(x b u e).stay (λc v _ q=>k c v q) (λc q=>by rw[zj (zl q hn)];exact q) λc xs q=>by rw[zj (zl q hn)];exact q
end
def Rd (H:Hp)(a:bO)(u:HO):Prop:=H a=some u\/∃o,H a=some (.frz o u)
theorem Rd.ok {w:dB}{u:HO}(r:Rd H a u)(x:oS P w H h):gj P w H h a u:=by
 rcases r with r|⟨o,r⟩
 ·exact x a u r
 ·obtain⟨_,q⟩:=x a _ r;exact q
def Gx:Option HO->Prop
 |some (.lst _)=>True
 |some (.dK _)=>True
 |some (.dT _)=>True
 |some (.set _ _)=>True
 |some (.ins _ _ _)=>True
 |some (.ext _)=>True
 |_=>False
section
variable {w:dB}{x e:bO}{o':HO}
theorem oS.write (ok:oS P w H h)(mu:Gx (H x))(he:e=x\/H e=some (.own x))(k:∀b u,b≠e->h.get? b=some u->h'.get? b=some u)(FV:∃u,h'.get? e=some u)
  (new:gj P w (upd H x o') h' x o'):oS P w (upd H x o') h':=λb u q=>by
 have HB:∀c y,H c=some (.own y)->c≠x:=λc y r z=>by subst z;rw[r]at mu;exact mu
 have LH:∀c xs,H c=some (.tup xs)->c≠x:=λc xs r z=>by subst z;rw[r]at mu;exact mu
 by_cases hb:b=x
 ·subst hb;rw[zo]at q;cases q;exact new
 ·rw[zj hb]at q;by_cases EE:b=e
  ·have q':H b=some (.own x):=by
    rcases he with z|z
    ·exact absurd (EE.trans z) hb
    ·rw[EE];exact z
   rw[q]at q';cases q';obtain⟨v,hv⟩:=FV;exact⟨v,by rw[EE];exact hv⟩
  ·refine(ok b u q).stay (λc v hc r=>k c v ?_ r) (λc r=>by rw[zj (HB c b r)];exact r) λc xs r=>by rw[zj (LH c xs r)];exact r
   rcases hc with rfl|hc
   ·exact EE
   ·rintro rfl;rcases he with z|z
    ·exact HB c b hc z
    ·rw[hc]at z;cases z;exact hb rfl
end
structure Un (fs ex:List bO)(H H':Hp)(h h':cz):Prop where
 keep:∀b o,h.get? b=some o->H b=none->b∉fs->b∉ex->h'.get? b=some o
 slot:∀b o,h.get? b=some o->H b=none->b∈fs->b∉ex->∃sl,h'.get? b=some { o with slots:=sl }
 free:∀b o,h.get? b=some o->H b=none->b∉ex->H' b=none
 there:∀b o,h.get? b=some o->b∉ex->∃o',h'.get? b=some o'
 tups:∀b xs,H b=some (.tup xs)->H' b=some (.tup xs)
 frzs:∀b o u,H b=some (.frz o u)->H' b=some (.frz o u)
 tbls:∀b ps,H b=some (.tbl ps)->∃more,H' b=some (.tbl (ps++more))
section
variable {fs IH ex ex':List bO}{H1 H2:Hp}{h1 h2:cz}{x e:bO}{o:HO}
theorem Un.any (u:Un fs ex H H1 h h1){ob:gF}(q:h.get? b=some ob)(n:H b=none)(hx:b∉ex):∃sl,h1.get? b=some { ob with slots:=sl }:=by
 by_cases hb:b∈fs
 ·exact u.slot b ob q n hb hx
 ·exact⟨ob.slots,u.keep b ob q n hb hx⟩
theorem Un.kept (k:∀b u,h.get? b=some u->h'.get? b=some u):Un fs ex H H h h' :=
 ⟨λb ob q _ _ _=>k b ob q,λb ob q _ _ _=>⟨ob.slots,k b ob q⟩,λ_ _ _ n _=>n,λb ob q _=>⟨ob,k b ob q⟩,λ_ _ q=>q,λ_ _ _ q=>q,λ_ ps q=>⟨#[],by rw[q];simp⟩⟩
theorem Un.refl:Un fs ex H H h h:=Un.kept λ_ _ q=>q
theorem Un.laid (k:∀b u,h.get? b=some u->h'.get? b=some u)(hp:h.objs.size<=a)(hn:H a=none):Un fs ex H (upd H a o) h h' where
 keep:=λb u q _ _ _=>k b u q
 slot:=λb u q _ _ _=>⟨u.slots,k b u q⟩
 free:=λb u q n _=>by rw[zj (cN (cL (cw q) hp))];exact n
 there:=λb u q _=>⟨u,k b u q⟩
 tups:=λb xs q=>by rw[zj (zl q hn)];exact q
 frzs:=λb u xs q=>by rw[zj (zl q hn)];exact q
 tbls:=λb ps q=>⟨#[],by rw[zj (zl q hn),q];simp⟩
theorem Un.write (mu:Gx (H x))(he:e=x\/H e=some (.own x))(k:∀b u,b≠e->h.get? b=some u->h'.get? b=some u)(FV:∃u,h'.get? e=some u):Un fs ex H (upd H x o) h h':=by
 have hx:∀b,H b=none->b≠x:=λb n z=>by subst z;rw[n]at mu;exact mu
 have hb:∀b,H b=none->b≠e:=λb n z=>by
  subst z;rcases he with r|r
  ·exact hx b n r
  ·rw[n]at r;cases r
 have hm:∀b u,H b=some u->¬Gx (some u)->b≠x:=λb u q nm z=>by subst z;rw[q]at mu;exact nm mu
 refine⟨λb u q n _ _=>k b u (hb b n) q,λb u q n _ _=>⟨u.slots,k b u (hb b n) q⟩,λb u q n _=>by rw[zj (hx b n)];exact n,λb u q _=>?_,
  λb xs q=>by rw[zj (hm b _ q λz=>z)];exact q,λb u xs q=>by rw[zj (hm b _ q λz=>z)];exact q,λb ps q=>⟨#[],by rw[zj (hm b _ q λz=>z),q];simp⟩⟩
 by_cases EE:b=e
 ·subst EE;exact FV
 ·exact⟨u,k b u EE q⟩
end
def Jo (h:cz)(H:Hp):List bO:=(bR h.objs.size).filter λa=>(H a).isSome
def uH (h:cz)(H:Hp):cz:=PySem.W.hideAll h (Jo h H)
theorem Vm (h:cz)(H:Hp):(uH h H).objs.size=h.objs.size:=PySem.W.hideAll_size _ _
theorem WI {o:gF}(e:h.get? b=some o)(n:H b=none):(uH h H).get? b=some o :=
 PySem.W.hideAll_get _ e λhm=>by have q:(H b).isSome=true:=(cI.mp hm).2;rw[n]at q;simp at q
theorem Ya {o:gF}(e:(uH h H).get? b=some o):h.get? b=some o/\H b=none:=by
 have e':h.get? b=some o:=PySem.W.of_hideAll (Jo h H) e;refine⟨e',?_⟩;cases q:H b with
 |none=>rfl
 |some x=>have hm:b∈Jo h H:=cI.mpr ⟨ce.mpr (cw e'),by simp[q]⟩;have z:(uH h H).get? b=none:=PySem.W.hideAll_none (Jo h H) hm;rw[z]at e;cases e
noncomputable def CW (g h:cz)(L:bO):List (bO×gF):=(bR h.objs.size).filterMap λa=>if a=L\/(g.get? a).isSome=true then none else(h.get? a).map λo=>(a,o)
noncomputable def rest (g h:cz)(L d:bO):List (bO×gF):=(CW g h L).filter λp=>decide (p.1≠d)
structure Mod (K:bM)(mg:Str->Option bJ)(base:cz):Prop where
 kin:K.In base
 glob:base.Ns eu mg
 blt:∃mb,base.Ns DF mb/\∀x:Str,x≠"__name__"->mb x=dw x
 nolimit:base.NoLimit
structure Cx where
 prog:dQ
 w:dB
 K:bM
 mg:Str->Option bJ
 base:cz
 A:c8
 N:List Str
 s₀:bV
 H₀:Hp
 env:Env
 outer:List Env
 stack:List Env
 ex:List bO
 fn:Str->Bool
 calm:Bool
 pn:List (bO×gF)
 xe:bJ->bV->Prop
abbrev SE (X:Cx)(e:Expr)(es:List Expr):Prop:=cT (e::es) X.env=(false,dR e X.env)::cT es X.env
abbrev SN (X:Cx)(e:Expr):Prop:=cT [e] X.env=[(false,dR e X.env)]
abbrev pV (X:Cx)(p:mE)(es:List Expr):Prop:=(iD p (cT es X.env)).any (·.1)=false
abbrev vL (X:Cx)(x:Str):Prop:=X.fn x=true\/X.env.scope.names.lookup x=some .local
abbrev GC (X:Cx)(e:Expr)(x:Str)(p q:mE):Prop:=gq e (some (.Name x p)) q.line X.env=pure false
abbrev Bs (X:Cx)(i:Expr):Prop:=∀x,foldedSetIterable i X.env x=pure x
abbrev DJ (X:Cx)(e:Expr)(x:Str):Prop:=nO e x X.env (dR e X.env)=dR e X.env
abbrev Ip (X:Cx)(p:mE)(es:List Expr):Prop:=((iD p (cT es X.env)).all (λx=>!x.1)&&(ij p (eO [] X.env)).all (λx=>x.1.isSome)&&decide (es.length+([]:List nG).length+(if([]:List nG).isEmpty then 0 else 1)<30))=true
def A8 (l:List Env):List bO:=l.filterMap (·.frame)
abbrev Cx.fs (X:Cx):List bO:=A8 X.outer
noncomputable def vD (sc:pO)(x:Str):Prop:=sc.names.lookup x=some .local\/sc.names.lookup x=some .cell\/sc.names.lookup x=some .free
noncomputable def Loc (sc:pO)(x:Str):Prop:=sc.names.lookup x=some .local\/sc.names.lookup x=some .cell
def Look (env:Env)(h:cz)(m:Str->Option bJ)(x:Str)(u:bJ):Prop :=
 (env.kindOf x=some .local/\m x=some u)\/((env.kindOf x=some .cell\/env.kindOf x=some .free)/\∃c,env.cells.lookup x=some c/\h.IsCell c (some u))
structure Cx.Ok (X:Cx):Prop where
 mod:Mod X.K X.mg X.base
 kind:X.env.scope.kind=.function
 glob:X.env.globals=eu
 blt:X.env.builtins=DF
 above:X.s₀.heap.objs.size<=X.env.locals
 inj:∀x y c,X.env.cells.lookup x=some c->X.env.cells.lookup y=some c->x=y
 has:∀x,(X.env.kindOf x=some .cell\/X.env.kindOf x=some .free)->∃c,X.env.cells.lookup x=some c
 cab:∀x c,X.fn x=true->X.env.cells.lookup x=some c->X.s₀.heap.objs.size<=c
 hd:X.calm=true->X.A.handled=none
 frames:X.A.frames=some X.stack
 stk:X.stack=X.outer\/(X.stack=X.env::X.outer/\X.env.frame=some X.env.locals)
 exf:∀b∈X.ex,b≠X.env.locals/\∀x c,X.env.cells.lookup x=some c->c≠b
 bs:∀b o,X.base.get? b=some o->X.s₀.heap.get? b=some o/\X.H₀ b=none
 bsz:X.base.objs.size<=X.s₀.heap.objs.size
 noex:∀b o,X.base.get? b=some o->b∉X.ex
 exfs:∀b∈X.ex,b∉X.fs
 funs:X.s₀.heap.FunFrames X.base X.outer
 frf:∀b∈X.fs,X.H₀ b=none
structure Inv (X:Cx)(bL:List (bO×gF))(σ:List (Option V))(H:Hp)(s:bV):Prop where
 ok:X.Ok
 os:s.os=X.s₀.os
 bare:AllBare s.gens
 base:Un X.fs X.ex X.H₀ H X.s₀.heap s.heap
 loc:∃m,s.heap.Ns X.env.locals m/\∀(i:Nat) (x:Str) (v:V),X.N[i]?=some x->σ[i]?=some (some v)->vD X.env.scope x->∃u,RelV v u/\Look X.env s.heap m x u
 cell:∀x c,X.env.cells.lookup x=some c->∃v,s.heap.IsCell c v
 free:H X.env.locals=none
 freeC:∀x c,X.env.cells.lookup x=some c->H c=none
 pin:∀p∈X.pn++bL,s.heap.get? p.1=some p.2/\H p.1=none/\p.1≠X.env.locals/\p.1∉X.fs/\∀v,p.2.data≠.cell v
 hok:oS X.prog X.w H s.heap
 len:σ.length=X.N.length
variable {E:bJ->bV->Prop}{M:Model}{X:Cx}{ch:List bO}{i j t':Nat}{it:bO}{bL:List (bO×gF)}{s s':bV}{v:V}{x:Str}
section
variable {σ:List (Option V)}
theorem Cx.Ok.nofr (ok:X.Ok){o:gF}(e:X.base.get? b=some o):b∉X.fs:=λhb=>by have:=(ok.funs.mem hb).1;rw[e]at this;cases this
theorem Inv.bs (I:Inv X bL σ H s):∀b o,X.base.get? b=some o->s.heap.get? b=some o/\H b=none:=λb o e=>⟨I.base.keep b o (I.ok.bs b o e).1 (I.ok.bs b o e).2 (I.ok.nofr e) (I.ok.noex b o e),I.base.free b o (I.ok.bs b o e).1 (I.ok.bs b o e).2 (I.ok.noex b o e)⟩
theorem Inv.bk (I:Inv X bL σ H s):∀b o,X.base.get? b=some o->s.heap.get? b=some o:=λb o e=>(I.bs b o e).1
theorem Inv.mod (I:Inv X bL σ H s):Mod X.K X.mg X.base:=I.ok.mod
theorem Inv.kIn (I:Inv X bL σ H s):X.K.In s.heap:=I.ok.mod.kin.keeps I.bk
theorem Inv.fr (I:Inv X bL σ H s):∃m,Fr X.base X.env.locals s.heap m :=
 let⟨m,hn,_⟩:=I.loc
 ⟨m,hn,I.bk,dA I.ok.bsz I.ok.above⟩
theorem Inv.lt (I:Inv X bL σ H s):X.env.locals<s.heap.objs.size:=let⟨_,hn,_⟩:=I.loc;hn.lt
theorem Inv.sz (I:Inv X bL σ H s):X.s₀.heap.objs.size<=s.heap.objs.size:=dA I.ok.above (qA I.lt)
theorem Inv.nofs (I:Inv X bL σ H s)(h:s.heap.objs.size<=a):a∉X.fs:=λhb=>by obtain⟨_,o,ho,_⟩:=I.ok.funs.mem hb;exact absurd (cL (cw ho) (dA I.sz h)) (fY _)
theorem Inv.cne (I:Inv X bL σ H s):∀x c,X.env.cells.lookup x=some c->c≠X.env.locals:=λx c e z=>by obtain⟨v,o,ho,hd⟩:=I.cell x c e;obtain⟨m,⟨o',es,ep,ER,GZ,_⟩,_⟩:=I.loc;rw[z,ER]at ho;cases ho;rw[GZ]at hd;cases hd
theorem Inv.funs (I:Inv X bL σ H s):s.heap.FunFrames X.base X.outer:=by
 have all:∀(l:List Env),(∀b∈A8 l,b∈X.fs)->X.s₀.heap.FunFrames X.base l->s.heap.FunFrames X.base l:=by
  intro l;induction l with
  |nil=>intro _ _;trivial
  |cons env r ih=>intro hs hl;obtain⟨hk,⟨L,o,hf,hn,ho,hd⟩,hr⟩:=hl;have hL:L∈X.fs:=hs L (by unfold A8;rw[oO,hf];exact bH);obtain⟨sl,e⟩:=I.base.slot L o ho (I.ok.frf L hL) hL λz=>I.ok.exfs L z hL;exact⟨hk,⟨L,_,hf,hn,e,hd⟩,ih (λb hb=>hs b (by unfold A8;rw[oO,hf];exact bK _ hb)) hr⟩
 exact all X.outer (λ_ hb=>hb) I.ok.funs
theorem Inv.stack (I:Inv X bL σ H s):s.heap.FunFrames X.base X.stack:=by
 rcases I.ok.stk with e|⟨e,hf⟩
 ·rw[e];exact I.funs
 ·rw[e];obtain⟨m,hn,_⟩:=I.loc;refine .cons (by rw[I.ok.kind];decide) hf hn ?_ I.funs;exact xK (dA I.ok.bsz I.ok.above)
theorem Inv.stkSub (I:Inv X bL σ H s):∀b∈A8 X.stack,b∈X.env.locals::X.fs:=λb hb=>by
 rcases I.ok.stk with e|⟨e,hf⟩
 ·rw[e]at hb;exact bK _ hb
 ·rw[e]at hb;unfold A8 at hb;rw[oO,hf]at hb;exact hb
theorem Inv.stkFree (I:Inv X bL σ H s):∀b∈A8 X.stack,H b=none:=λb hb=>by
 rcases bY.mp (I.stkSub b hb)with e|hb
 ·rw[e];exact I.free
 ·obtain⟨_,o,ho,_⟩:=I.ok.funs.mem hb;exact I.base.free b o ho (I.ok.frf b hb) λz=>I.ok.exfs b z hb
theorem Inv.step {g':Array GenState}{d':Drawn}(I:Inv X bL σ H s)
  (pF:∀b∈ch,(b∈X.ex\/X.s₀.heap.objs.size<=b)/\b≠X.env.locals/\(∀x c,X.env.cells.lookup x=some c->c≠b)/\∀p∈X.pn++bL,p.1≠b)
  (keep:∀b o,b≠X.env.locals->b∉X.fs->b∉ch->s.heap.get? b=some o->H b=none->h'.get? b=some o)
  (slot:∀b o,b≠X.env.locals->b∈X.fs->b∉ch->s.heap.get? b=some o->H b=none->∃sl,h'.get? b=some { o with slots:=sl }) (free:∀b o,b∉ch->s.heap.get? b=some o->H b=none->H' b=none)
  (there:∀b o,b∉ch->s.heap.get? b=some o->∃o',h'.get? b=some o')
  (tups:∀b xs,H b=some (.tup xs)->H' b=some (.tup xs)) (frzs:∀b o u,H b=some (.frz o u)->H' b=some (.frz o u)) (tbls:∀b ps,H b=some (.tbl ps)->∃more,H' b=some (.tbl (ps++more)))
  (ns:∀m,s.heap.Ns X.env.locals m->h'.Ns X.env.locals m) (hok:oS X.prog X.w H' h') (hg:AllBare g') :
  Inv X bL σ H' { s with heap:=h',gens:=g',drawn:=d',toks:=t' }:=by
 have Ou:∀b o,X.s₀.heap.get? b=some o->b≠X.env.locals:=λb o e=>cN (cL (cw e) I.ok.above);have Jg:∀b o,X.s₀.heap.get? b=some o->b∉X.ex->b∉ch:=λb o e hx hb=>by
  rcases(pF b hb).1 with z|z
  ·exact hx z
  ·exact absurd (cL (cw e) z) (fY _)
 have cellK:∀x c,X.env.cells.lookup x=some c->∀v,s.heap.IsCell c v->h'.IsCell c v:=λx c e v ⟨o,ho,hd⟩=>by
  have Hx:c∉ch:=λz=>(pF c z).2.2.1 x c e rfl;by_cases hc:c∈X.fs
  ·obtain⟨sl,q⟩:=slot c o (I.cne x c e) hc Hx ho (I.freeC x c e);exact⟨_,q,hd⟩
  ·exact⟨o,keep c o (I.cne x c e) hc Hx ho (I.freeC x c e),hd⟩
 refine⟨I.ok,I.os,hg,⟨λb o e n hb hx=>?_,λb o e n hb hx=>?_,λb o e n hx=>?_,λb o e hx=>?_,λb xs e=>tups b xs (I.base.tups b xs e),λb o xs e=>frzs b o xs (I.base.frzs b o xs e),λb ps e=>?_⟩,?_,λx c e=>?_,?_,λx c e=>?_,λp hp=>?_,hok,I.len⟩
 ·exact keep b o (Ou b o e) hb (Jg b o e hx) (I.base.keep b o e n hb hx) (I.base.free b o e n hx)
 ·obtain⟨sl,e1⟩:=I.base.slot b o e n hb hx;obtain⟨Us,e2⟩:=slot b _ (Ou b o e) hb (Jg b o e hx) e1 (I.base.free b o e n hx);exact⟨Us,e2⟩
 ·obtain⟨o',e1⟩:=I.base.there b o e hx;exact free b o' (Jg b o e hx) e1 (I.base.free b o e n hx)
 ·obtain⟨o',e1⟩:=I.base.there b o e hx;exact there b o' (Jg b o e hx) e1
 ·obtain⟨m1,e1⟩:=I.base.tbls b ps e;obtain⟨m2,e2⟩:=tbls b _ e1;exact⟨m1++m2,by rw[e2,yU]⟩
 ·obtain⟨m,hn,hl⟩:=I.loc;refine⟨m,ns m hn,λi x v e1 e2 e3=>?_⟩;obtain⟨u,r,l⟩:=hl i x v e1 e2 e3;refine⟨u,r,?_⟩;rcases l with l|⟨k,c,e,z⟩
  ·exact .inl l
  ·exact .inr ⟨k,c,e,cellK x c e _ z⟩
 ·obtain⟨v,z⟩:=I.cell x c e;exact⟨v,cellK x c e v z⟩
 ·obtain⟨m,⟨o,_,_,ho,_⟩,_⟩:=I.loc;exact free _ o (λz=>(pF _ z).2.1 rfl) ho I.free
 ·obtain⟨v,o,ho,hd⟩:=I.cell x c e;exact free c o (λz=>(pF c z).2.2.1 x c e rfl) ho (I.freeC x c e)
 ·obtain⟨e,n,ne,nf,d⟩:=I.pin p hp;have Hx:p.1∉ch:=λz=>(pF p.1 z).2.2.2 p hp rfl;exact⟨keep p.1 p.2 ne nf Hx e n,free p.1 p.2 Hx e n,ne,nf,d⟩
theorem Inv.un (I:Inv X bL σ H s)(u:Un X.fs [] H H' s.heap h')(hok:oS X.prog X.w H' h'):Inv X bL σ H' { s with heap:=h',toks:=t' }:=by obtain⟨m,⟨o,es,ep,ho,r⟩,_⟩:=id I.loc;obtain⟨sl,hL⟩:=u.any ho I.free (by simp);exact I.step (g':=s.gens) (d':=s.drawn) (ch:=[]) (λ_ z=>nomatch z) (λb o _ hb _ e n=>u.keep b o e n hb (by simp)) (λb o _ hb _ e n=>u.slot b o e n hb (by simp)) (λb o _ e n=>u.free b o e n (by simp)) (λb o _ e=>u.there b o e (by simp)) u.tups u.frzs u.tbls (λm' hm=>by obtain⟨o',Kb,Ka,ER,r'⟩:=hm;rw[ho]at ER;cases ER;exact⟨_,Kb,Ka,hL,r'⟩) hok I.bare
theorem Inv.call {g':Array GenState}{d':Drawn}(I:Inv X bL σ H s)(u:Un (A8 X.stack) ch H H' s.heap h')(hok:oS X.prog X.w H' h')(hg:AllBare g')
  (pF:∀b∈ch,(b∈X.ex\/X.s₀.heap.objs.size<=b)/\b≠X.env.locals/\(∀x c,X.env.cells.lookup x=some c->c≠b)/\∀p∈X.pn++bL,p.1≠b) :
  Inv X bL σ H' { s with heap:=h',gens:=g',drawn:=d',toks:=t' }:=by
 obtain⟨m,⟨o,es,ep,ho,r⟩,_⟩:=id I.loc;obtain⟨sl,hL⟩:=u.any ho I.free λz=>(pF _ z).2.1 rfl;exact I.step (ch:=ch) pF (λb o hL hb hc e n=>u.keep b o e n (λz=>(bY.mp (I.stkSub b z)).elim hL hb) hc) (λb o _ _ hc e n=>u.any e n hc) (λb o hc e n=>u.free b o e n hc) (λb o hc e=>u.there b o e hc) u.tups u.frzs u.tbls (λm' hm=>by obtain⟨o',Kb,Ka,ER,r'⟩:=hm;rw[ho]at ER;cases ER;exact⟨_,Kb,Ka,hL,r'⟩) hok hg
theorem Inv.turned (I:Inv X bL σ H s)(k:∀b o,b≠it->s.heap.get? b=some o->h'.get? b=some o)(hn:H it=none)(hL:it≠X.env.locals)
  (h1:it∈X.ex\/X.s₀.heap.objs.size<=it) (h2:∀x c,X.env.cells.lookup x=some c->c≠it) (h3:∀p∈X.pn++bL,p.1≠it):Inv X bL σ H { s with heap:=h',toks:=t' }:=by
 have Ov:∀b u,H b=some u->b≠it:=λb u e z=>by rw[z,hn]at e;cases e
 refine I.step (g':=s.gens) (d':=s.drawn) (ch:=[it]) (λb hb=>?_) (λb o _ _ hc e _=>k b o (λz=>hc (by simp[z])) e) (λb o _ _ hc e _=>⟨o.slots,k b o (λz=>hc (by simp[z])) e⟩) (λ_ _ _ _ n=>n)
  (λb o hc e=>⟨o,k b o (λz=>hc (by simp[z])) e⟩) (λ_ _ e=>e) (λ_ _ _ e=>e) (λb ps e=>⟨#[],by rw[e];simp⟩) (λm hm=>?_) (λb u e=>?_) I.bare
 ·have e:b=it:=by simpa using hb
  subst e;exact⟨h1,hL,h2,h3⟩
 ·obtain⟨o,es,ep,ho,r⟩:=hm;exact⟨o,es,ep,k _ o (Ne.symm hL) ho,r⟩
 ·refine(I.hok b u e).stay (λc v hc q=>k c v ?_ q) (λ_ q=>q) λ_ _ q=>q;rcases hc with z|z
  ·rw[z];exact Ov b u e
  ·exact Ov c _ z
theorem Inv.tok (I:Inv X bL σ H s)(t:Nat):Inv X bL σ H { s with toks:=t }:=I.un (h':=s.heap) (t':=t) Un.refl I.hok
theorem Inv.kept (I:Inv X bL σ H s)(k:∀b u,s.heap.get? b=some u->h'.get? b=some u):Inv X bL σ H { s with heap:=h',toks:=t' }:=I.un (Un.kept k) (I.hok.kept k)
theorem Inv.laid {o:HO}(I:Inv X bL σ H s)(k:∀b u,s.heap.get? b=some u->h'.get? b=some u)(hp:s.heap.objs.size<=a)(new:gj X.prog X.w (upd H a o) h' a o) :
  Inv X bL σ (upd H a o) { s with heap:=h',toks:=t' }:=I.un (Un.laid k hp (I.hok.fresh hp)) (I.hok.laid k hp new)
theorem Inv.write {x e:bO}{o:HO}(I:Inv X bL σ H s)(mu:Gx (H x))(he:e=x\/H e=some (.own x))(k:∀b u,b≠e->s.heap.get? b=some u->h'.get? b=some u)(FV:∃u,h'.get? e=some u)
  (new:gj X.prog X.w (upd H x o) h' x o):Inv X bL σ (upd H x o) { s with heap:=h',toks:=t' }:=I.un (Un.write mu he k FV) (I.hok.write mu he k FV new)
theorem Inv.weak {σ':List (Option V)}(I:Inv X bL σ H s)(hl:σ'.length = σ.length)(w:∀(i:Nat) v,σ'[i]?=some (some v)->σ[i]?=some (some v)):Inv X bL σ' H s :=
 ⟨I.ok,I.os,I.bare,I.base,let⟨m,hn,C4⟩:=I.loc;⟨m,hn,λi x v e1 e2 e3=>C4 i x v e1 (w i v e2) e3⟩,I.cell,I.free,I.freeC,I.pin,I.hok,hl.trans I.len⟩
theorem Inv.pins_of {D6:List (bO×gF)}(I:Inv X bL σ H s)(h:∀p∈D6,s.heap.get? p.1=some p.2/\H p.1=none/\p.1≠X.env.locals/\p.1∉X.fs/\∀v,p.2.data≠.cell v):Inv X D6 σ H s :=
 ⟨I.ok,I.os,I.bare,I.base,I.loc,I.cell,I.free,I.freeC,λp hp=>(cA.mp hp).elim (λz=>I.pin p (cC _ z)) (h p),I.hok,I.len⟩
theorem Pt {N:List Str}(hN:N.Nodup)(a:N[i]?=some x)(b:N[j]?=some x):i=j:=by obtain⟨h1,e1⟩:=bZ.mp a;obtain⟨h2,e2⟩:=bZ.mp b;exact(qR hN).mp (e1.trans e2.symm)
theorem O7 {A:c8}{Q:Unit->bV->Prop}(I:Inv X bL σ H s)(hN:X.N.Nodup)(hi:X.N[i]?=some x)(hx:Loc X.env.scope x)(r:RelV v u)
  (h:∀s',Inv X bL (σ.set i (some v)) H s'->(∃a,lC a s.heap s'.heap/\(a=X.env.locals\/X.env.cells.lookup x=some a))->Q () s') (hf:vL X x:=by walk_at "v2"):cj M A (storeName X.env x u) Q E s:=by
 obtain⟨m,hn,hl⟩:=id I.loc;have KJ:(X.env.scope.kind==.class || (X.env.scope.kind==.module&&X.env.locals != X.env.globals))=false:=by rw[I.ok.kind];rfl
 have N6:i < σ.length:=by rw[I.len];exact(bZ.mp hi).1
 have cne:=I.cne;have tracked:∀{a:bO} {h':cz},(∃o,s.heap.get? a=some o/\H a=none)->lC a s.heap h'->oS X.prog X.w H h':=λ{a h'} ha hs b ob e=>by
  obtain⟨_,_,DW⟩:=ha;refine(I.hok b ob e).stay (λc w' hc q=>(hs.2 c ?_).trans q) (λ_ q=>q) λ_ _ q=>q;rintro rfl;rcases hc with rfl|hc
  ·rw[DW]at e;cases e
  ·rw[DW]at hc;cases hc
 rcases hx with hk|hk
 ·refine wpAny_storeName_local hk hn (λh' Bd hs=>?_) KJ;obtain⟨oL,_,_,Tj,_⟩:=id hn;refine h _ ⟨I.ok,I.os,I.bare,⟨λb o e n hb hx=>?_,λb o e n hb hx=>?_,I.base.free,λb o e hx=>?_,I.base.tups,I.base.frzs,I.base.tbls⟩,⟨_,Bd,λj y v' e1 e2 e3=>?_⟩,λy c e=>?_,I.free,I.freeC,λp hp=>?_,tracked ⟨oL,Tj,I.free⟩ hs,by simpa using I.len⟩ ⟨_,hs,.inl rfl⟩
  ·exact(hs.2 b (cN (cL (cw e) I.ok.above))).trans (I.base.keep b o e n hb hx)
  ·obtain⟨sl,e1⟩:=I.base.slot b o e n hb hx;exact⟨sl,(hs.2 b (cN (cL (cw e) I.ok.above))).trans e1⟩
  ·obtain⟨o',e1⟩:=I.base.there b o e hx;exact⟨o',(hs.2 b (cN (cL (cw e) I.ok.above))).trans e1⟩
  ·by_cases hj:j=i
   ·subst hj;rw[hi]at e1;cases e1;rw[nF N6]at e2;cases e2;exact⟨u,r,.inl ⟨hk,by simp⟩⟩
   ·rw[eG (Ne.symm hj)]at e2;obtain⟨u',r',q⟩:=hl j y v' e1 e2 e3;refine⟨u',r',?_⟩;rcases q with⟨k,e⟩|⟨k,c,e,z⟩
    ·refine .inl ⟨k,?_⟩;have:y≠x:=λe=>hj (Pt hN e1 (e▸hi));simp[this,e]
    ·exact .inr ⟨k,c,e,z.sameBut hs (cne y c e)⟩
  ·obtain⟨w',z⟩:=I.cell y c e;exact⟨w',z.sameBut hs (cne y c e)⟩
  ·obtain⟨e,n,ne,nf,d⟩:=I.pin p hp;exact⟨(hs.2 p.1 ne).trans e,n,ne,nf,d⟩
 ·have A9:X.fn x=true:=by
   rcases hf with z|z
   ·exact z
   ·rw[z]at hk;cases hk
  obtain⟨c,hc⟩:=I.ok.has x (.inl hk);obtain⟨w',z⟩:=I.cell x c hc;refine wpAny_storeName_cell I.ok.kind hk hc z (λh' DV hs=>?_);obtain⟨oc,Oa,Lg⟩:=id z;refine h { s with heap:=h' } ⟨I.ok,I.os,I.bare,⟨λb o e n hb hx=>?_,λb o e n hb hx=>?_,I.base.free,λb o e hx=>?_,I.base.tups,I.base.frzs,I.base.tbls⟩,⟨m,hn.sameBut hs (Ne.symm (cne x c hc)),λj y v' e1 e2 e3=>?_⟩,λy c' e=>?_,I.free,I.freeC,λp hp=>?_,tracked ⟨oc,Oa,I.freeC x c hc⟩ hs,by simpa using I.len⟩ ⟨c,hs,.inr hc⟩
  ·exact(hs.2 b (cN (cL (cw e) (I.ok.cab x c A9 hc)))).trans (I.base.keep b o e n hb hx)
  ·obtain⟨sl,e1⟩:=I.base.slot b o e n hb hx;exact⟨sl,(hs.2 b (cN (cL (cw e) (I.ok.cab x c A9 hc)))).trans e1⟩
  ·obtain⟨o',e1⟩:=I.base.there b o e hx;exact⟨o',(hs.2 b (cN (cL (cw e) (I.ok.cab x c A9 hc)))).trans e1⟩
  ·by_cases hj:j=i
   ·subst hj;rw[hi]at e1;cases e1;rw[nF N6]at e2;cases e2;exact⟨u,r,.inr ⟨.inl hk,c,hc,DV⟩⟩
   ·rw[eG (Ne.symm hj)]at e2;obtain⟨u',r',q⟩:=hl j y v' e1 e2 e3;refine⟨u',r',?_⟩;rcases q with q|⟨k,c',e,z'⟩
    ·exact .inl q
    ·refine .inr ⟨k,c',e,z'.sameBut hs ?_⟩;rintro rfl;exact hj (Pt hN e1 (I.ok.inj _ _ _ e hc▸hi))
  ·by_cases NZ:c'=c
   ·subst NZ;exact⟨_,DV⟩
   ·obtain⟨w2,z2⟩:=I.cell y c' e;exact⟨w2,z2.sameBut hs NZ⟩
  ·obtain⟨e,n,ne,nf,d⟩:=I.pin p hp;refine⟨(hs.2 p.1 ?_).trans e,n,ne,nf,d⟩;intro q;rw[q,Oa]at e;have q':oc=p.2:=Option.some.inj e;exact d w' (by rw[←q'];exact Lg)
theorem vp {A:c8}{Q:Unit->bV->Prop}(I:Inv X bL σ H s)(hN:X.N.Nodup)(hi:X.N[i]?=some x)(hx:Loc X.env.scope x)(r:RelV v u)
  (h:∀s',Inv X bL (σ.set i (some v)) H s'->Q () s') (hf:vL X x:=by walk_at "v2"):cj M A (storeName X.env x u) Q E s :=
 O7 I hN hi hx r (λs' I' _=>h s' I') hf
theorem Inv.call' (I:Inv X bL σ H s)(ho:s'.os=s.os)(u:Un (A8 X.stack) ch H H' s.heap s'.heap)(hok:oS X.prog X.w H' s'.heap)(hg:AllBare s'.gens)
  (pF:∀b∈ch,(b∈X.ex\/X.s₀.heap.objs.size<=b)/\b≠X.env.locals/\(∀x c,X.env.cells.lookup x=some c->c≠b)/\∀p∈X.pn++bL,p.1≠b):Inv X bL σ H' s':=by
 obtain⟨h',g',d',t',o'⟩:=s';have e:o'=s.os:=ho;subst e;exact I.call (g':=g') (t':=t') (d':=d') u hok hg pF
end
abbrev XK:=bJ->Option bO->Hp->Prop
abbrev St:=List (Option V)
abbrev VK:=V->Hp->Prop
abbrev TE:=St->Hp->VK->Prop
abbrev TT:=St->Hp->(Bool->Hp->Prop)->Prop
abbrev TA:=St->Hp->(List V->Hp->Prop)->Prop
structure mm where
 nx:St->Hp->Prop
 rt:VK
 bk:St->Hp->Prop:=λ_ _=>False
 ct:St->Hp->Prop:=λ_ _=>False
abbrev TS:=mm->St->Hp->Prop
def EP (X:Cx)(bL:List (bO×gF))(σ:St)(Q:VK)(u:bJ)(s':bV):Prop:=∃v H',Inv X bL σ H' s'/\RelV v u/\Q v H'
def TP (X:Cx)(bL:List (bO×gF))(σ:St)(Q:Bool->Hp->Prop)(b:Bool)(s':bV):Prop:=∃H',Inv X bL σ H' s'/\Q b H'
def AP (X:Cx)(bL:List (bO×gF))(σ:St)(Q:List V->Hp->Prop)(us:List bJ)(s':bV):Prop:=∃vs H',Inv X bL σ H' s'/\dm vs us/\Q vs H'
def SP (X:Cx)(bL:List (bO×gF))(D:mm)(f:Flow)(s':bV):Prop :=
 match f with
 |.next=>∃σ' H',Inv X bL σ' H' s'/\D.nx σ' H'
 |.brk=>∃σ' H',Inv X bL σ' H' s'/\D.bk σ' H'
 |.cont=>∃σ' H',Inv X bL σ' H' s'/\D.ct σ' H'
 |.ret u=>∃v σ' H',Inv X bL σ' H' s'/\RelV v u/\D.rt v H'
def PE (X:Cx)(e:Expr)(t:TE):Prop :=
 ∀(bL:List (bO×gF)) (s:bV) (σ:St) (H:Hp) (Q:VK),Inv X bL σ H s->t σ H Q->cj (b9 X.prog X.w) X.A (dR e X.env) (EP X bL σ Q) X.xe s
def PT (X:Cx)(e:Expr)(t:TT):Prop :=
 ∀(bL:List (bO×gF)) (s:bV) (σ:St) (H:Hp) (Q:Bool->Hp->Prop),Inv X bL σ H s->t σ H Q->cj (b9 X.prog X.w) X.A (AX e X.env (dR e X.env)) (TP X bL σ Q) X.xe s
def PW (X:Cx)(e:Expr)(t:TT):Prop :=
 ∀(whole:Cw bJ) (bL:List (bO×gF)) (s:bV) (σ:St) (H:Hp) (Q:Bool->Hp->Prop),Inv X bL σ H s->t σ H Q->cj (b9 X.prog X.w) X.A (AX e X.env whole) (TP X bL σ Q) X.xe s
variable {e:Expr}
theorem PW.pt {t:TT}(h:PW X e t):PT X e t:=h _
def PA (X:Cx)(es:List Expr)(t:TA):Prop :=
 ∀(pos:mE) (bL:List (bO×gF)) (s:bV) (σ:St) (H:Hp) (Q:List V->Hp->Prop),Inv X bL σ H s->t σ H Q->cj (b9 X.prog X.w) X.A (spliced (iD pos (cT es X.env))) (AP X bL σ Q) X.xe s
def PS (X:Cx)(st:dO)(t:TS):Prop :=
 ∀(bL:List (bO×gF)) (s:bV) (σ:St) (H:Hp) (D:mm),Inv X bL σ H s->t D σ H->cj (b9 X.prog X.w) X.A (exec st X.env) (SP X bL D) X.xe s
def uD (X:Cx)(st:List dO)(t:TS):Prop :=
 ∀(bL:List (bO×gF)) (s:bV) (σ:St) (H:Hp) (D:mm),Inv X bL σ H s->t D σ H->cj (b9 X.prog X.w) X.A (execs st X.env) (SP X bL D) X.xe s
theorem eT {t:Cw α}{Q Q':α->bV->Prop}{A:c8}(h:cj M A t Q E s)(hQ:∀a s,Q a s->Q' a s):cj M A t Q' E s:=eo h hQ λ_ _ x=>x
variable {Q:bJ->bV->Prop}{c:Expr}{op:Ao}{pos:mE}{ta tb:TE}{σ:St}
section
theorem bin {a b:Expr}(ha:PE X a ta)(hb:PE X b tb){R:V->V->Hp->Prop}(I:Inv X bL σ H s)(h:ta σ H λx H1=>tb σ H1 λy H2=>R x y H2)
 {Q:α->bV->Prop} {f:bJ->bJ->Cw α}
    (hf:∀v u s2 x y H2,Inv X bL σ H2 s2->RelV x v->RelV y u->R x y H2->cj (b9 X.prog X.w) X.A (f v u) Q X.xe s2) :
    cj (b9 X.prog X.w) X.A (dR a X.env) (λv s₁=>cj (b9 X.prog X.w) X.A (dR b X.env) (λu s₂=>cj (b9 X.prog X.w) X.A (f v u) Q X.xe s₂) X.xe s₁) X.xe s:=by
  refine eT (ha bL s σ H _ I h) λv s1 f7=>?_;obtain⟨x,H1,I1,r1,q1⟩:=f7;refine eT (hb bL s1 σ H1 _ I1 q1) λu s2 f7=>?_;obtain⟨y,H2,I2,r2,q2⟩:=f7;exact hf v u s2 x y H2 I2 r1 r2 q2
def Cd (i:Nat):TE:=λσ H Q=>∃v,σ[i]?=some (some v)/\Q v H
def tC (v:V):TE:=λ_ H Q=>Q v H
theorem yp (hN:X.N[i]?=some x)(hv:vD X.env.scope x)(hd:lS x:=by decide)(mP:xD x:=by decide):PE X (.Name x pos) (Cd i):=by
 intro bL s σ H Q I h;obtain⟨v,e,h⟩:=h;obtain⟨m,hn,hl⟩:=I.loc;obtain⟨u,r,l⟩:=hl i x v hN e hv;have fin:EP X bL σ Q u s:=⟨v,H,I,r,h⟩;rcases l with⟨hk,hm⟩|⟨hk,c,hc,zP⟩
 ·exact DI (wpAny_loadName_local I.ok.kind hk hn hm fin) hd
 ·rcases hk with hk|hk
  ·exact DI (wpAny_loadName_cell I.ok.kind hk hc zP fin) hd
  ·exact DI (wpAny_loadName_free I.ok.kind hk hc zP fin mP) hd
theorem Z7 {i j pos}:PE X (.Constant (.int i) j pos) (tC (.int i)):=λ_ _ _ H _ I h=>wpAny_Constant_int ⟨.int i,H,I.tok _,⟨_,rfl⟩,h⟩
theorem ztf {b j pos}:PE X (.Constant (.bool b) j pos) (tC (.bl b)):=λ_ _ _ H _ I h=>Constant_bool ⟨.bl b,H,I,rfl,h⟩
theorem Z8 {j pos}:PE X (.Constant .none j pos) (tC .non):=λ_ _ _ H _ I h=>Constant_none ⟨.non,H,I,rfl,h⟩
theorem Z9 {x j pos}:PE X (.Constant (.str x) j pos) (tC (.str x)):=λ_ _ _ H _ I h=>Calls.Constant_str ⟨.str x,H,I.tok _,⟨_,rfl⟩,h⟩
def Gl (X:Cx)(x:Str):Prop:=X.env.kindOf x=some .globalImplicit
theorem wj (I:Inv X bL σ H s)(hg:Gl X x)(hm:X.mg x=some u)(h:Q u s)
  (hd:lS x:=by decide):cj (b9 X.prog X.w) X.A (dR (.Name x pos) X.env) Q E s :=
 Calls.Name_function_global I.ok.kind hg (Calls.loadGlobal_global (by rw[I.ok.glob];exact I.mod.glob.keeps I.bk) hm h) hd
theorem wm (I:Inv X bL σ H s)(hg:Gl X x)(hm:X.mg x=none)(hv:dw x=some u)(h:Q u s)
  (hn:x≠"__name__":=by decide) (hd:lS x:=by decide):cj (b9 X.prog X.w) X.A (dR (.Name x pos) X.env) Q E s:=by
 obtain⟨mb,h1,h2⟩:=I.mod.blt;exact Calls.Name_function_global I.ok.kind hg (Calls.loadGlobal_builtin (by rw[I.ok.glob];exact I.mod.glob.keeps I.bk) hm (by rw[I.ok.blt];exact h1.keeps I.bk) ((h2 x hn).trans hv) h) hd
theorem P8 (hg:Gl X x)(hm:X.mg x=some u)(r:RelV v u)(hd:lS x:=by decide):PE X (.Name x pos) (tC v) :=
 λ_ _ _ H _ I h=>wj I hg hm ⟨v,H,I,r,h⟩ hd
theorem Yb (hg:Gl X x)(hm:X.mg x=none)(hv:dw x=some u)(r:RelV v u)(hn:x≠"__name__":=by decide)(hd:lS x:=by decide):PE X (.Name x pos) (tC v) :=
 λ_ _ _ H _ I h=>wm I hg hm hv ⟨v,H,I,r,h⟩ hn hd
def Ut (ta tb:TE)(k:Int->Int->Hp->Prop):St->Hp->Prop:=λσ H=>ta σ H λx H1=>tb σ H1 λy H2=>∃i j,x=.int i/\y=.int j/\k i j H2
variable {a b:Expr}
def PC (X:Cx)(op:Ao)(a b:Expr)(t:TE):Prop :=
 ∀(bL:List (bO×gF)) (s:bV) (σ:St) (H:Hp) (Q:VK),Inv X bL σ H s->t σ H Q ->
  cj (b9 X.prog X.w) X.A (dR a X.env) (λv s₁=>cj (b9 X.prog X.w) X.A (dR b X.env) (λu s₂=>cj (b9 X.prog X.w) X.A (d5 op v u) (EP X bL σ Q) X.xe s₂) X.xe s₁) X.xe s
theorem B1 (b:Expr)(h:op≠.In)(h2:op≠.NotIn):fM op b=false:=by
 have e1:(op==Ao.In)=false:=by cases op<;>first|rfl|exact absurd rfl h
 have e2:(op==Ao.NotIn)=false:=by cases op<;>first|rfl|exact absurd rfl h2
 cases b<;>simp[fM,e1,e2]
def Ds (p:Int->Int->Bool)(ta tb:TE):TE:=λσ H Q=>Ut ta tb (λi j H2=>Q (.bl (p i j)) H2) σ H
abbrev Cc:TE->TE->TE:=Ds λi j=>decide (i<j)
abbrev OI:TE->TE->TE:=Ds λi j=>decide (i<=j)
abbrev Ad:TE->TE->TE:=Ds λi j=>decide (j<i)
abbrev Jl:TE->TE->TE:=Ds λi j=>decide (j<=i)
def tB (t:TE):TT:=λσ H Q=>t σ H λx H1=>∃c,x=.bl c/\Q c H1
theorem Q1 {t:TE}(h:PC X op a b t)(h1:fM op b=false:=by first|exact B1 _ (by decide) (by decide)|rfl):PT X (.Compare a [op] [b] pos) (tB t):=by intro bL s σ H Q I hw;refine wpAny_isTrue_Compare1 (eT (h bL s σ H _ I hw) λv s1 h1=>eT h1 λu s2 h2=>eT h2 λc s3 ⟨x,H1,I1,r1,q1⟩=>?_) h1;obtain⟨d,rfl,q⟩:=q1;cases r1;exact gL ⟨H1,I1,q⟩
theorem zqn {t:TE}(h:PE X e t)(he:∀whole,AX e X.env whole=(do let v ← whole;jN e.pos;fV [v] (truthy v)):=by intro _;rfl):PT X e (tB t):=by intro bL s σ H Q I hw;refine isTrue_plain (eT (h bL s σ H _ I hw) λv s1 ⟨x,H1,I1,r1,q1⟩=>?_) (he _);obtain⟨d,rfl,q⟩:=q1;cases r1;exact gL ⟨H1,I1,q⟩
variable {tA Jk:TT}{rest:List Expr}
noncomputable def LS (t u:TT):TT:=λσ H Q=>t σ H λc H1=>if c=true then u σ H1 Q else Q false H1
def Uw (t u:TT):TT:=λσ H Q=>t σ H λc H1=>if c=true then Q true H1 else u σ H1 Q
def L4 (t:TT):TT:=λσ H Q=>t σ H λc H1=>Q (!c) H1
theorem Yc (ha:PT X a tA):PW X (.BoolOp .And [a] pos) tA:=by
 intro wh bL s σ H Q I h;refine isTrue_and (eT (ha bL s σ H Q I h) λc s1 e=>?_);cases c with
 |true=>exact isTrue_and_nil e
 |false=>exact e
theorem zqo (ha:PT X a tA):PW X (.BoolOp .Or [a] pos) tA:=by
 intro wh bL s σ H Q I h;refine isTrue_or (eT (ha bL s σ H Q I h) λc s1 e=>?_);cases c with
 |false=>exact isTrue_or_nil e
 |true=>exact e
theorem zqp (ha:PT X a tA)(hb:PW X (.BoolOp .And (b::rest) pos) Jk):PW X (.BoolOp .And (a::b::rest) pos) (LS tA Jk):=by
 intro wh bL s σ H Q I h;refine isTrue_and (eT (ha bL s σ H _ I h) λc s1 f7=>?_);obtain⟨H1,I1,q1⟩:=f7;cases c with
 |true=>exact hb wh bL s1 σ H1 Q I1 q1
 |false=>exact⟨H1,I1,q1⟩
theorem ztg (ha:PT X a tA)(hb:PW X (.BoolOp .Or (b::rest) pos) Jk):PW X (.BoolOp .Or (a::b::rest) pos) (Uw tA Jk):=by
 intro wh bL s σ H Q I h;refine isTrue_or (eT (ha bL s σ H _ I h) λc s1 f7=>?_);obtain⟨H1,I1,q1⟩:=f7;cases c with
 |true=>exact⟨H1,I1,q1⟩
 |false=>exact hb wh bL s1 σ H1 Q I1 q1
theorem zqq (ha:PT X a tA):PT X (.UnaryOp .Not a pos) (L4 tA):=by intro bL s σ H Q I h;exact isTrue_not (ha bL s σ H (λc H1=>Q (!c) H1) I h)
def HS (ta tb:TE):TE:=λσ H Q=>ta σ H λx H1=>∃c,x=.bl c/\if c=true then tb σ H1 Q else Q (.bl false) H1
def L5 (ta tb:TE):TE:=λσ H Q=>ta σ H λx H1=>∃c,x=.bl c/\if c=true then Q (.bl true) H1 else tb σ H1 Q
theorem zqr {op}{t:TE}(h:PE X a t):PE X (.BoolOp op [a] pos) t:=λbL s σ H Q I hw=>BoolOp_one (h bL s σ H Q I hw)
theorem zqs (ha:PE X a ta)(hb:PE X (.BoolOp .And (b::rest) pos) tb):PE X (.BoolOp .And (a::b::rest) pos) (HS ta tb):=by
 intro bL s σ H Q I h;refine BoolOp_and (eT (ha bL s σ H _ I h) λv s1 f7=>?_);obtain⟨x,H1,I1,r1,q1⟩:=f7;obtain⟨c,rfl,q1⟩:=q1;cases r1;refine gL ?_;cases c with
 |true=>exact hb bL s1 σ H1 Q I1 q1
 |false=>exact⟨.bl false,H1,I1,rfl,q1⟩
theorem zth (ha:PE X a ta)(hb:PE X (.BoolOp .Or (b::rest) pos) tb):PE X (.BoolOp .Or (a::b::rest) pos) (L5 ta tb):=by
 intro bL s σ H Q I h;refine BoolOp_or (eT (ha bL s σ H _ I h) λv s1 f7=>?_);obtain⟨x,H1,I1,r1,q1⟩:=f7;obtain⟨c,rfl,q1⟩:=q1;cases r1;refine gL ?_;cases c with
 |false=>exact hb bL s1 σ H1 Q I1 q1
 |true=>exact⟨.bl true,H1,I1,rfl,q1⟩
def Uv (t:TT)(ta tb:TE):TE:=λσ H Q=>t σ H λc H1=>if c=true then ta σ H1 Q else tb σ H1 Q
theorem WJ (hc:PT X c tA)(ha:PE X a ta)(hb:PE X b tb):PE X (.IfExp c a b pos) (Uv tA ta tb):=by
 intro bL s σ H Q I h;refine wpAny_IfExp (eT (hc bL s σ H _ I h) λd s1 f7=>?_);obtain⟨H1,I1,q1⟩:=f7;cases d with
 |true=>exact ha bL s1 σ H1 Q I1 q1
 |false=>exact hb bL s1 σ H1 Q I1 q1
end
def jU (K:bM)(H:Hp)(a:bO)(xs:List V):Prop :=
 Rd H a (.lst xs) \/
  ∃(o:gF) (dJ:Array bJ) (n:Nat),K.lookup a=some o/\o.cls=.type "list"/\o.dict=none/\o.data=.seq dJ n/\dJ.size<=sizeLine/\dm xs dJ.toList
def pA (K:bM)(H:Hp)(a:bO)(xs:List V):Prop :=
 Rd H a (.tup xs) \/
  ∃(o:gF) (dJ:Array bJ) (n:Nat),K.lookup a=some o/\o.cls=.type "tuple"/\o.data=.seq dJ n/\dJ.size<=sizeLine/\dm xs dJ.toList
noncomputable def J4:bJ->Option V
 |.none=>some .non
 |.bool b=>some (.bl b)
 |.int i _=>some (.int i)
 |.str x _=>some (.str x)
 |.bytes b _=>some (.byt b)
 |.float b _=>some (.flt b)
 |.ref a=>some (.ref a)
 |.type n=>some (.ty n)
 |_=>none
theorem RelV.abs {x:V}(r:RelV x u):J4 u=some x:=by
 cases x with
 |non=>cases r;rfl
 |bl _=>cases r;rfl
 |int _=>obtain⟨t,rfl⟩:=r;rfl
 |str _=>obtain⟨t,rfl⟩:=r;rfl
 |byt _=>obtain⟨t,rfl⟩:=r;rfl
 |flt _=>obtain⟨t,rfl⟩:=r;rfl
 |ref _=>cases r;rfl
 |ty _=>cases r;rfl
variable {y:V}
theorem RelV.inj {x:V}(r:RelV x u)(q:RelV y u):x=y:=Option.some.inj (r.abs.symm.trans q.abs)
theorem dm.inj:∀{xs ys:List V} {us:List bJ},dm xs us->dm ys us->xs=ys
 |_,_,_,.nil,.nil=>rfl
 |_,_,_,.cons r t,.cons r' t'=>by rw[r.inj r',dm.inj t t']
variable {ys:List V}
theorem jU.of {K:bM}(h:H a=some (.lst xs)):jU K H a xs:=.inl (.inl h)
theorem pA.of {K:bM}(h:H a=some (.tup xs)):pA K H a xs:=.inl (.inl h)
theorem Inv.list (I:Inv X bL σ H s)(h:jU X.K H a xs):∃dJ:List bJ,dm xs dJ/\PlainL s.heap a dJ.toArray/\xs.length<=sizeLine:=by
 rcases h with h|⟨o,dJ,n,hk,hc,hd,hs,hz,r⟩
 ·obtain⟨z,dJ,n,r,e⟩:=h.ok I.hok;exact⟨dJ,r,⟨_,n,e,rfl,rfl,rfl⟩,z⟩
 ·refine⟨dJ.toList,r,⟨o,n,I.kIn a o hk,hc,hd,by simpa using hs⟩,?_⟩;have e:=r.length;simp only[dr]at e;omega
theorem Inv.tuple (I:Inv X bL σ H s)(h:pA X.K H a xs):∃dJ:List bJ,dm xs dJ/\IsTup s.heap a dJ.toArray/\xs.length<=sizeLine:=by
 rcases h with h|⟨o,dJ,n,hk,hc,hs,hz,r⟩
 ·obtain⟨z,dJ,r,p⟩:=h.ok I.hok;exact⟨dJ,r,p,z⟩
 ·refine⟨dJ.toList,r,⟨o,I.kIn a o hk,hc,n,by simpa using hs⟩,?_⟩;have e:=r.length;simp only[dr]at e;omega
theorem Inv.list_inj (I:Inv X bL σ H s)(h:jU X.K H a xs)(h':jU X.K H a ys):xs=ys:=by
 obtain⟨dJ,r,⟨o,n,e,_,_,d⟩,_⟩:=I.list h;obtain⟨its',r',⟨o',n',e',_,_,d'⟩,_⟩:=I.list h';rw[e]at e';cases e';rw[d]at d';injection d' with d1 _;have:dJ=its':=by simpa using congrArg Array.toList d1
 subst this;exact r.inj r'
abbrev Cx.wish (X:Cx)(E:bJ->bV->Prop):Cx:={ X with xe:=E }
abbrev Cx.nox (X:Cx):Cx:=X.wish λ_ _=>False
theorem Cx.Ok.wish (ok:X.Ok)(E:bJ->bV->Prop):(X.wish E).Ok :=
 ⟨ok.mod,ok.kind,ok.glob,ok.blt,ok.above,ok.inj,ok.has,ok.cab,ok.hd,ok.frames,ok.stk,ok.exf,ok.bs,ok.bsz,ok.noex,ok.exfs,ok.funs,ok.frf⟩
theorem Cx.Ok.unwish (ok:(X.wish E).Ok):X.Ok :=
 ⟨ok.mod,ok.kind,ok.glob,ok.blt,ok.above,ok.inj,ok.has,ok.cab,ok.hd,ok.frames,ok.stk,ok.exf,ok.bs,ok.bsz,ok.noex,ok.exfs,ok.funs,ok.frf⟩
variable {D:mm}
theorem Inv.wish (I:Inv X bL σ H s)(E:bJ->bV->Prop):Inv (X.wish E) bL σ H s:=⟨I.ok.wish E,I.os,I.bare,I.base,I.loc,I.cell,I.free,I.freeC,I.pin,I.hok,I.len⟩
theorem Inv.unwish (I:Inv (X.wish E) bL σ H s):Inv X bL σ H s:=⟨I.ok.unwish,I.os,I.bare,I.base,I.loc,I.cell,I.free,I.freeC,I.pin,I.hok,I.len⟩
theorem SP.unwish {f:Flow}(h:SP (X.wish E) bL D f s'):SP X bL D f s':=by
 cases f with
 |next=>obtain⟨σ',H',I,q⟩:=h;exact⟨σ',H',I.unwish,q⟩
 |brk=>obtain⟨σ',H',I,q⟩:=h;exact⟨σ',H',I.unwish,q⟩
 |cont=>obtain⟨σ',H',I,q⟩:=h;exact⟨σ',H',I.unwish,q⟩
 |ret u=>obtain⟨v,σ',H',I,r,q⟩:=h;exact⟨v,σ',H',I.unwish,r,q⟩
theorem uD.nox {st:List dO}{t:TS}(h:uD X.nox st t):uD X st t:=λbL s σ H D I hw=>eo (h bL s σ H D (I.wish _) hw) (λ_ _ q=>q.unwish) λ_ _ z=>False.elim z
variable {te:TE}
section
variable {st:dO}{rest:List dO}{t u:TS}
def HY:TS:=λD σ H=>D.nx σ H
def Ib (t u:TS):TS:=λD σ H=>t { D with nx:=u D } σ H
theorem Yd:uD X [] HY:=λ_ _ σ H _ I h=>oP ⟨σ,H,I,h⟩
theorem jb (h1:PS X st t)(h2:uD X rest u):uD X (st::rest) (Ib t u):=by
 intro bL s σ H D I h;refine wpAny_execs_cons (eT (h1 bL s σ H { D with nx:=u D } I h) λf s1 q=>?_);cases f with
 |next=>obtain⟨σ',H',I',q⟩:=q;exact h2 bL s1 σ' H' D I' q
 |ret v=>exact q
 |brk=>exact q
 |cont=>exact q
theorem Jw (h1:PS X st t):uD X [st] t:=by
 intro bL s σ H D I h;refine wpAny_execs_cons (eT (h1 bL s σ H D I h) λf s1 q=>?_);cases f with
 |next=>exact oP q
 |ret v=>exact q
 |brk=>exact q
 |cont=>exact q
theorem Inv.quiet (I:Inv X bL σ H s):interactive X.env=false:=by simp[interactive,I.ok.kind]
def Ee (te:TE):TS:=λD σ H=>te σ H λ_ H1=>D.nx σ H1
theorem jp (he:PE X e te)(hs:gq e none pos.line X.env=pure false:=by rfl):PS X (.Expr e pos) (Ee te):=by intro bL s σ H D I h;exact wpAny_Expr_any (eT (he bL s σ H _ I h) λv s1 ⟨x,H1,I1,r1,q1⟩=>⟨σ,H1,I1,q1⟩) I.quiet hs
def L7 (te:TE):TS:=λD σ H=>te σ H D.rt
theorem MX (he:PE X e te):PS X (.Return (some e) pos) (L7 te):=by intro bL s σ H D I h;exact wpAny_Return_some (eT (he bL s σ H _ I h) λv s1 ⟨x,H1,I1,r1,q1⟩=>⟨x,σ,H1,I1,r1,q1⟩)
def LZ (c:TT)(t u:TS):TS:=λD σ H=>c σ H λb H1=>if b=true then t D σ H1 else u D σ H1
theorem RD {a b:List dO}{tc:TT}(hc:PT X c tc)(ha:uD X a t)(hb:uD X b u):PS X (.If c a b pos) (LZ tc t u):=by
 intro bL s σ H D I h;refine wpAny_If (eT (hc bL s σ H _ I h) λd s1 f7=>?_);obtain⟨H1,I1,q1⟩:=f7;cases d with
 |true=>exact ha bL s1 σ H1 D I1 q1
 |false=>exact hb bL s1 σ H1 D I1 q1
def Ft:TS:=λ_ _ _=>False
theorem WK:PS X st Ft:=λ_ _ _ _ _ _ h=>h.elim
end
abbrev TG:=V->St->Hp->(St->Hp->Prop)->Prop
abbrev DM:=List V->St->Hp->(St->Hp->Prop)->Prop
def PG (X:Cx)(target:Expr)(t:TG):Prop :=
 ∀(bL:List (bO×gF)) (s:bV) (σ:St) (H:Hp) (v:V) (u:bJ) (Q:St->Hp->Prop),Inv X bL σ H s->RelV v u->t v σ H Q ->
  cj (b9 X.prog X.w) X.A (lB target X.env u) (λ_ s'=>∃σ' H',Inv X bL σ' H' s'/\Q σ' H') X.xe s
def FK (X:Cx)(ts:List Expr)(t:DM):Prop :=
 ∀(bL:List (bO×gF)) (s:bV) (σ:St) (H:Hp) (vs:List V) (us:List bJ) (Q:St->Hp->Prop),Inv X bL σ H s->dm vs us->t vs σ H Q ->
  cj (b9 X.prog X.w) X.A (assignInOrder ((eJ ts X.env).map (·.2)) us) (λ_ s'=>∃σ' H',Inv X bL σ' H' s'/\Q σ' H') X.xe s
abbrev Bx:=V->V->V->Hp->(Hp->Prop)->Prop
def Ep (X:Cx)(t:Bx):Prop :=
 ∀(bL:List (bO×gF)) (s:bV) (σ:St) (H:Hp) (o i v:V) (ov iv u:bJ) (Q:Hp->Prop),Inv X bL σ H s->RelV o ov->RelV i iv->RelV v u->t o i v H Q ->
  cj (b9 X.prog X.w) X.A (sD ov iv u) (λ_ s'=>∃H',Inv X bL σ H' s'/\Q H') X.xe s
abbrev FM:=V->V->Hp->VK->Prop
def FL (X:Cx)(op:wW)(t:FM):Prop :=
 ∀(bL:List (bO×gF)) (s:bV) (σ:St) (H:Hp) (x y:V) (v u:bJ) (Q:VK),Inv X bL σ H s->RelV x v->RelV y u->t x y H Q ->
  cj (b9 X.prog X.w) X.A (inplaceOp op v u) (EP X bL σ Q) X.xe s
variable {es:List Expr}{g:TG}{n:Nat}{o tg:Expr}{pos' lU:mE}{to:TE}
def zN (i:Nat):TG:=λv σ H Q=>Q (σ.set i (some v)) H
theorem P9 (hN:X.N.Nodup)(hi:X.N[i]?=some x)(hx:Loc X.env.scope x)(hf:vL X x:=by walk_at "v2"):PG X (.Name x pos) (zN i):=by intro bL s σ H v u Q I r h;exact wpAny_assign_Name (vp I hN hi hx r (λs' I'=>⟨_,H,I',h⟩) hf)
def Ki:DM:=λvs σ H Q=>vs=[]/\Q σ H
noncomputable def GM (t:TG)(u:DM):DM:=λvs σ H Q=>∃v r,vs=v::r/\t v σ H λσ' H'=>u r σ' H' Q
theorem Qa:FK X [] Ki:=by intro bL s σ H vs us Q I r h;obtain⟨e,h⟩:=h;subst e;cases r;exact assignInOrder_nil ⟨σ,H,I,h⟩
theorem PN {t:TG}{u:DM}(h1:PG X e t)(h2:FK X es u)
  (hs:(eJ (e::es) X.env).map (·.2)=lB e X.env::(eJ es X.env).map (·.2):=by rfl):FK X (e::es) (GM t u):=by
 intro bL s σ H vs us Q I r h;obtain⟨v,vr,e1,h⟩:=h;subst e1;cases r with
 |cons r rr=>rw[hs];refine assignInOrder_cons (eT (h1 bL s σ H _ _ _ I r h) λ_ s1 f7=>?_);obtain⟨σ1,H1,I1,q1⟩:=f7;exact h2 bL s1 σ1 H1 _ _ Q I1 rr q1
noncomputable def Kk (K:bM)(n:Nat)(t:DM):TG:=λv σ H Q=>∃a xs,v=.ref a/\pA K H a xs/\xs.length=n/\t xs σ H Q
theorem Q2 {k:Nat}{t:DM}(hc:X.calm=true)(h:FK X es t)
  (hn:(eJ es X.env).length=n:=by rfl) (k7:(eJ es X.env).findIdx? (·.1)=none:=by rfl):PG X (.Tuple es k pos) (Kk X.K n t):=by
 intro bL s σ H v u Q I r hw;obtain⟨a,xs,e1,hq,hl,hw⟩:=hw;subst e1;cases r;obtain⟨dJ,rv,ht,hz⟩:=I.tuple hq;refine assign_Tuple_tuple (I.ok.hd hc) ht (by simp[hn,←hl,rv.length]) k7 λh' hx=>?_;have I1:Inv X bL σ H { s with heap:=h' }:=I.kept (t':=s.toks) λb o e=>hx b o (cN (cw e)) e;exact h bL _ σ H xs _ Q I1 (by simpa using rv) hw
def Kj (to ti:TE)(t:Bx):TG:=λv σ H Q=>to σ H λo H1=>ti σ H1 λi H2=>t o i v H2 λH3=>Q σ H3
theorem Q3 {i:Expr}{ti:TE}{t:Bx}(ho:PE X o to)(hi:PE X i ti)(hs:Ep X t)
  (ha:∀v,lB (.Subscript o i pos) X.env v=(do
   let ov ← fV [v] (dR o X.env)
   let iv ← fV [v,ov] (dR i X.env)
   jN pos
   fV [v,ov,iv] (sD ov iv v)
   AY [v,ov,iv] []):=by intro _;rfl):PG X (.Subscript o i pos) (Kj to ti t):=by
 intro bL s σ H v u Q I r h;rw[ha];refine bP (lF (eT (ho bL s σ H _ I h) λov s1 f7=>?_));obtain⟨x,H1,I1,r1,q1⟩:=f7;refine bP (lF (eT (hi bL s1 σ H1 _ I1 q1) λiv s2 f7=>?_));obtain⟨y,H2,I2,r2,q2⟩:=f7;refine bP (kn (bP (lF (eT (hs bL s2 σ H2 x y v ov iv u _ I2 r1 r2 r q2) λ_ s3 f7=>?_))));obtain⟨H3,I3,q3⟩:=f7;exact wpAny_release ⟨σ,H3,I3,q3⟩
def Fi (te:TE)(g:TG):TS:=λD σ H=>te σ H λx H1=>g x σ H1 D.nx
theorem MY (he:PE X e te)(hg:PG X tg g)(hs:lE [tg] e pos.line X.env=pure false:=by rfl)(hw:lD [tg] e X.env=pure none:=by rfl)
  (h1:(eJ [tg] X.env).map (·.2)=[lB tg X.env]:=by rfl):PS X (.Assign [tg] e pos) (Fi te g):=by
 intro bL s σ H D I h;refine wpAny_Assign_stores (eT (he bL s σ H _ I h) λv s1 ⟨x,H1,I1,r1,q1⟩=>?_) hs hw;rw[h1];exact eT (hg bL s1 σ H1 x v _ I1 r1 q1) λ_ s2 q=>q
theorem Q8 (hN:X.N.Nodup)(hi:X.N[i]?=some x)(hx:Loc X.env.scope x)(he:PE X e te)(hs:GC X e x pos' pos:=by rfl)(hf:vL X x:=by walk_at "v2") :
  PS X (.Assign [.Name x pos'] e pos) (Fi te (zN i)):=by
 intro bL s σ H D I h;refine wpAny_Assign_Name (eT (he bL s σ H _ I h) λv s1 ⟨y,H1,I1,r1,q1⟩=>?_) hs;exact vp I1 hN hi hx r1 (λs2 I2=>⟨_,H1,I2,q1⟩) hf
def L6 (i j:Nat)(ta:TA):TS:=λD σ H=>ta σ H λvs H1=>∃v w,vs=[v,w]/\D.nx ((σ.set i (some v)).set j (some w)) H1
theorem zqu {y:Str}{a b:Expr}{ta:TA}{px py pt:mE}{kt k2 pZ}(hc:X.calm=true)(hN:X.N.Nodup)(hi:X.N[i]?=some x)(hj:X.N[j]?=some y)(Bc:i≠j)
    (hx:X.env.scope.names.lookup x=some .local) (hy:X.env.scope.names.lookup y=some .local) (ha:PA X [a,b] ta)
    (hw:lD [.Tuple [.Name x px,.Name y py] kt pt] (.Tuple [a,b] k2 pZ) X.env=pure (some [x,y]))
    (hs:lE [.Tuple [.Name x px,.Name y py] kt pt] (.Tuple [a,b] k2 pZ) pos.line X.env=pure false:=by rfl) :
    PS X (.Assign [.Tuple [.Name x px,.Name y py] kt pt] (.Tuple [a,b] k2 pZ) pos) (L6 i j ta):=by
  intro bL s σ H D I h;rw[exec_Assign_arm];refine bP (kn ?_);rw[hs];refine bP (cy ?_);rw[if_neg (by decide)];refine bP (Tuple_ (eT (ha _ bL s σ H _ I h) λus s1 f7=>?_));obtain⟨vs,H1,I1,r1,q1⟩:=f7;obtain⟨v,w,e1,q1⟩:=q1;subst e1;obtain⟨u1,u2,rfl,rv,qZ⟩:∃u1 u2,us=[u1,u2]/\RelV v u1/\RelV w u2:=by
    cases r1 with
    |cons p q=>
      cases q with
      |cons p' q'=>cases q';exact⟨_,_,rfl,p,p'⟩
  refine kK ?_ (by show 2<=sizeLine;decide);have I2:Inv X bL σ H1 { s1 with heap:=s1.heap.push { cls:=.type "tuple",data:=.seq [u1,u2].toArray } }:=I1.kept (t':=s1.toks) λb o e=>bT _ e;rw[hw];refine bP (cy ?_);show cj (b9 X.prog X.w) X.A (do rule "assign.swapped-stores";let items ← unpackItems (.ref s1.heap.objs.size) 2 none;assignInOrder [λv=>bindName X.env y v,λv=>bindName X.env x v] items.reverse;pure Flow.next) _ _ _;refine bP (wpAny_rule (bP (unpackItems_tuple (items:=#[u1,u2]) (I.ok.hd hc) (IsTup.new s1.heap _) λh' xG=>?_)));have I3:=I2.kept (h':=h') (t':=s1.toks) λb o e=>xG b o (cN (cw e)) e;show cj _ _ (assignInOrder [λv=>bindName X.env y v,λv=>bindName X.env x v] [u2,u1] >>= λ_=>pure Flow.next) _ _ _;refine bP (assignInOrder_cons (wpAny_bindName (vp I3 hN hj (.inl hy) qZ (λs2 I4=>?_) (.inr hy))));refine assignInOrder_cons (wpAny_bindName (vp I4 hN hi (.inl hx) rv (λs3 I5=>assignInOrder_nil (cy ?_)) (.inr hx)));rw[List.set_comm _ _ (Ne.symm Bc)]at I5;exact⟨_,H1,I5,q1⟩
def LU (i:Nat)(te:TE)(ti:FM):TS:=λD σ H=>∃x,σ[i]?=some (some x)/\te σ H λy H1=>ti x y H1 λz H2=>D.nx (σ.set i (some z)) H2
theorem zqv {op:wW}{ti:FM}(hN:X.N.Nodup)(hi:X.N[i]?=some x)(hx:Loc X.env.scope x)(he:PE X e te)(ho:FL X op ti)(hf:vL X x:=by walk_at "v2") :
  PS X (.AugAssign (.Name x pos') op e pos) (LU i te ti):=by
 intro bL s σ H D I h;obtain⟨v,e1,h⟩:=h;obtain⟨m,hn,hl⟩:=I.loc;have UE:vD X.env.scope x:=by rcases hx with k|k;exact .inl k;exact .inr (.inl k)
 obtain⟨u,r,l⟩:=hl i x v hi e1 UE;refine wpAny_AugAssign_Name ?_;have go:cj (b9 X.prog X.w) X.A (dR e X.env) (λw s₂=>cj (b9 X.prog X.w) X.A (inplaceOp op u w) (λr s₃=>cj (b9 X.prog X.w) X.A (storeName X.env x r) (λ_=>SP X bL D .next) X.xe s₃) X.xe s₂) X.xe s:=by refine eT (he bL s σ H _ I h) λw s1 f7=>?_;obtain⟨y,H1,I1,r1,q1⟩:=f7;refine eT (ho bL s1 σ H1 v y u w _ I1 r r1 q1) λz s2 f7=>?_;obtain⟨zv,H2,I2,r2,q2⟩:=f7;exact vp I2 hN hi hx r2 (λs3 I3=>⟨_,H2,I3,q2⟩) hf
 rcases l with⟨hk,hm⟩|⟨hk,c,hc,zP⟩
 ·exact wpAny_loadName_local I.ok.kind hk hn hm go
 ·rcases hk with hk|hk
  ·exact wpAny_loadName_cell I.ok.kind hk hc zP go
  ·rcases hx with k|k
   ·have:X.env.scope.names.lookup x=some .free:=hk;rw[k]at this;cases this
   ·have:X.env.scope.names.lookup x=some .free:=hk;rw[k]at this;cases this
def HU (to ti te:TE)(Dx:V->V->Hp->VK->Prop)(Jn:FM)(Dy:Bx):TS:=λD σ H=>to σ H λo H1=>ti σ H1 λi H2=>Dx o i H2 λx H3=>te σ H3 λy H4=>Jn x y H4 λz H5=>Dy o i z H5 λH6=>D.nx σ H6
def Gz (X:Cx)(t:V->V->Hp->VK->Prop):Prop :=
 ∀(bL:List (bO×gF)) (s:bV) (σ:St) (H:Hp) (o i:V) (ov iv:bJ) (Q:VK),Inv X bL σ H s->RelV o ov->RelV i iv->t o i H Q ->
  cj (b9 X.prog X.w) X.A (sA ov iv) (EP X bL σ Q) X.xe s
theorem Ye {i:Expr}{ti:TE}{Dx:V->V->Hp->VK->Prop}{Jn:FM}{Dy:Bx}{op:wW}(ho:PE X o to)(hi:PE X i ti)(hg:Gz X Dx)(he:PE X e te)(hp:FL X op Jn)(hs:Ep X Dy)
  (ha:∀ov iv new,augStore i ov iv new=(do fV [new,ov,iv] (sD ov iv new);AY [new,ov,iv] [];pure .next):=by intros;rfl):PS X (.AugAssign (.Subscript o i lU) op e pos) (HU to ti te Dx Jn Dy):=by
 intro bL s σ H D I h;refine wpAny_AugAssign_SubscriptAny (eT (ho bL s σ H _ I h) λov s1 ⟨x1,H1,I1,r1,q1⟩=>?_) ha;refine eT (hi bL s1 σ H1 _ I1 q1) λiv s2 f7=>?_;obtain⟨x2,H2,I2,r2,q2⟩:=f7;refine eT (hg bL s2 σ H2 x1 x2 ov iv _ I2 r1 r2 q2) λold s3 f7=>?_;obtain⟨x3,H3,I3,r3,q3⟩:=f7;refine eT (he bL s3 σ H3 _ I3 q3) λv s4 f7=>?_;obtain⟨x4,H4,I4,r4,q4⟩:=f7;refine eT (hp bL s4 σ H4 x3 x4 old v _ I4 r3 r4 q4) λnew s5 f7=>?_;obtain⟨x5,H5,I5,r5,q5⟩:=f7;exact eT (hs bL s5 σ H5 x1 x2 x5 ov iv new _ I5 r1 r2 r5 q5) λ_ s6 ⟨H6,I6,q6⟩=>⟨σ,H6,I6,q6⟩
noncomputable def Jf (f:Int->Int->Int):FM:=λx y H Q=>∃i j,x=.int i/\y=.int j/\Q (.int (f i j)) H
theorem MZ:FL X .Add (Jf λi j=>i+j):=by intro bL s σ H x y v u Q I r1 r2 h;obtain⟨i,j,e1,e2,q⟩:=h;subst e1;subst e2;obtain⟨t,rfl⟩:=r1;obtain⟨t',rfl⟩:=r2;exact iadd_int ⟨.int _,H,I.tok _,⟨_,rfl⟩,q⟩
theorem zqw:FL X .Sub (Jf λi j=>i-j):=by intro bL s σ H x y v u Q I r1 r2 h;obtain⟨i,j,e1,e2,q⟩:=h;subst e1;subst e2;obtain⟨t,rfl⟩:=r1;obtain⟨t',rfl⟩:=r2;exact isub_int ⟨.int _,H,I.tok _,⟨_,rfl⟩,q⟩
variable {body:List dO}
def Fw (c:TT)(tb:TS):TS:=λD σ H=>∃W:Nat->St->Hp->Prop,(∃m,W m σ H)/\∀m σ H,W m σ H ->
 c σ H λb H1=>if b=true then∃N:St->Hp->Prop,(∀σ' H',N σ' H'->∃m',m'<m/\W m' σ' H')/\tb { D with nx:=N,ct:=N,bk:=D.nx } σ H1 else D.nx σ H1
theorem WL {tc:TT}{tb:TS}(hp:gI (b9 X.prog X.w) X.A X.env X.xe)(hc:PT X c tc)(hb:uD X body tb):PS X (.While c body [] pos) (Fw tc tb):=by
 intro bL s σ H D I h;obtain⟨W,⟨m0,w0⟩,turn⟩:=h;refine wpAny_While (codeAny_whileLoop (λn s'=>∃σ' H',Inv X bL σ' H' s'/\W n σ' H') ?_ m0 ⟨σ,H,I,w0⟩);rintro n s1 ⟨σ1,H1,I1,w1⟩;refine iK hp (eT (hc bL s1 σ1 H1 _ I1 (turn n σ1 H1 w1)) λb s2 f7=>?_);obtain⟨H2,I2,q2⟩:=f7;cases b with
 |true=>
  obtain⟨N,hN,q2⟩:=q2;rw[if_pos rfl];refine iK hp (eT (hb bL s2 σ1 H2 _ I2 q2) λf s3 q3=>?_);cases f with
  |next=>obtain⟨σ3,H3,I3,n3⟩:=q3;obtain⟨m',hm,w3⟩:=hN σ3 H3 n3;exact⟨m',hm,σ3,H3,I3,w3⟩
  |cont=>obtain⟨σ3,H3,I3,n3⟩:=q3;obtain⟨m',hm,w3⟩:=hN σ3 H3 n3;exact⟨m',hm,σ3,H3,I3,w3⟩
  |brk=>exact q3
  |ret v=>exact q3
 |false=>rw[if_neg cB];exact oP ⟨σ1,H2,I2,q2⟩
structure It where
 go:Nat->Hp->Prop
 yld:Nat->Hp->V->Hp->Prop
 stop:Nat->Hp->Prop
def qV (X:Cx)(bL:List (bO×gF))(H:Hp)(b:bO):Prop :=
 H b=none/\b≠X.env.locals/\b∉X.fs/\(b∈X.ex\/X.s₀.heap.objs.size<=b)/\(∀x c,X.env.cells.lookup x=some c->c≠b)/\∀p∈X.pn++bL,p.1≠b
theorem Inv.fpOk (I:Inv X bL σ H s)(hb:s.heap.objs.size<=b)(hn:H' b=none):qV X bL H' b:=by
 refine⟨hn,qC (cL I.lt hb),I.nofs hb,.inr (dA I.sz hb),λx c e z=>?_,λp hp z=>?_⟩
 ·obtain⟨v,q⟩:=I.cell x c e;exact absurd (cL q.lt (by rw[z];exact hb)) (fY _)
 ·exact absurd (cL (cw (I.pin p hp).1) (by rw[z];exact hb)) (fY _)
structure DN (P:dQ)(w:dB)(K:bM)(tg:Expr)(J:It)(fp:List bO)(it:bO)(tn:Nat->cz->Prop)(Cs:Cx->Prop):Prop where
 mem:it∈fp
 obj:∀i h,tn i h->∀b∈fp,∃o,h.get? b=some o/\∀v,o.data≠.cell v
 keep:∀i h h',tn i h->(∀b∈fp,∀o,h.get? b=some o->h'.get? b=some o)->tn i h'
 item:∀(X:Cx),X.prog=P->X.w=w->X.K=K->Cs X->∀(i:Nat) (bL:List (bO×gF)) (s:bV) (σ:St) (H:Hp) (E:bJ->bV->Prop),Inv X bL σ H s->(∀b∈fp,qV X bL H b)->tn i s.heap->J.go i H ->
  cj (b9 P w) X.A (pyNext (.ref it)) (λr s1=>∃u,r=some u /\
   cj (b9 P w) X.A (lW tg (.ref it) u) (λ_ s2=>∃x H',Inv X bL σ H' s2/\RelV x u/\J.yld i H x H'/\tn (i+1) s2.heap/\∀b∈fp,H' b=none) E s1) E s
 done:∀(X:Cx),X.prog=P->X.w=w->X.K=K->Cs X->∀(i:Nat) (bL:List (bO×gF)) (s:bV) (σ:St) (H:Hp) (E:bJ->bV->Prop),Inv X bL σ H s->(∀b∈fp,qV X bL H b)->tn i s.heap->J.stop i H ->
  cj (b9 P w) X.A (pyNext (.ref it)) (λr s1=>r=none/\Inv X bL σ H s1) E s
 self:∀(A:c8) (i:Nat) (s:bV) (Q:bJ->bV->Prop) (E:bJ->bV->Prop),tn i s.heap->Q (.ref it) s->cj (b9 P w) A (pyIter (.ref it)) Q E s
abbrev Turn (P:dQ)(w:dB)(K:bM)(tg:Expr)(J:It)(fp:List bO)(it:bO)(tn:Nat->cz->Prop):Prop:=DN P w K tg J fp it tn λX=>X.calm=true
abbrev TI:=St->Hp->(It->Hp->Prop)->Prop
def TurnOk (X:Cx)(c:Prop)(tg:Expr)(J:It)(fp:List bO)(it:bO)(tn:Nat->cz->Prop):Prop:=∃Cs,DN X.prog X.w X.K tg J fp it tn Cs/\(c->∀Y:Cx,Y.A=X.A->Y.calm=X.calm->Cs Y)
variable {fp:List bO}
theorem Turn.ok {J:It}{tn:Nat->cz->Prop}(T:Turn X.prog X.w X.K tg J fp it tn):TurnOk X (X.calm=true) tg J fp it tn:=⟨_,T,λhc _ _ e=>e.trans hc⟩
def GA (X:Cx)(c:Prop)(bL:List (bO×gF))(σ:St)(tg:Expr)(R:It->Hp->Prop)(Ly:bJ)(s2:bV):Prop :=
 ∃(it:bO) (fp:List bO) (tn:Nat->cz->Prop) (J:It) (H':Hp),Ly=.ref it/\Inv X bL σ H' s2/\TurnOk X c tg J fp it tn/\tn 0 s2.heap/\(∀b∈fp,qV X bL H' b)/\R J H'
abbrev RT (X:Cx):=GA X (X.calm=true)
def GB (X:Cx)(c:Prop)(tg iter:Expr)(wi:TI):Prop :=
 ∀(bL:List (bO×gF)) (s:bV) (σ:St) (H:Hp) (R:It->Hp->Prop),Inv X bL σ H s->wi σ H R ->
  cj (b9 X.prog X.w) X.A (dR iter X.env) (λv s1=>cj (b9 X.prog X.w) X.A (pyIter v) (GA X c bL σ tg R) X.xe s1) X.xe s
abbrev PI (X:Cx):=GB X (X.calm=true)
theorem Nn {A:c8}{o:gF}{n:String}{vs:Array bJ}{Q:Unit->bV->Prop}(ho:s.heap.get? it=some o)(hc:o.cls=.type n)(hd:o.data=.fields vs)
    (hn:["enumerate","zip","dict_itemiterator","dict_reverseitemiterator","odict_iterator","itertools.zip_longest","itertools.pairwise"].contains n=false) (hQ:Q () s):cj M A (lW tg (.ref it) u) Q E s:=by
  unfold lW;cases tg<;>first
    |exact cy hQ
    |(cases u<;>first
        |exact cy hQ
        |(refine bP (wpAny_load ho ?_)
          rw[hc,hd];show cj M A (if(["enumerate","zip","dict_itemiterator","dict_reverseitemiterator","odict_iterator","itertools.zip_longest","itertools.pairwise"].contains n&&vs[0]?==some (rawInt _))=true then _ else _) Q E s;rw[if_neg (by intro h;rw[hn,Bool.false_and]at h;cases h)];exact cy hQ))
noncomputable def JZ (K:bM)(a:bO):It :=
 ⟨λi H=>∃xs x,jU K H a xs/\xs[i]?=some x,λi H x H'=>H'=H/\∀xs,jU K H a xs->xs[i]?=some x,λi H=>∃xs,jU K H a xs/\xs.length<=i⟩
noncomputable def Gv (lo:Int)(n:Nat):It:=⟨λi _=>i<n,λi H x H'=>H'=H/\x=.int (lo+i),λi _=>n<=i⟩
theorem VJ {w:dB}{K:bM}(a it:bO):Turn P w K tg (JZ K a) [it] it (λi h=>h.IsListIter it a i) where
 mem:=by simp
 obj:=λi h st b hb=>by
  have e:b=it:=by simpa using hb
  subst e;obtain⟨o,e,c,d⟩:=st;exact⟨o,e,λv z=>by rw[d]at z;cases z⟩
 keep:=λi h h' st k=>st.at λo e=>k it (by simp) o e
 item:=by intro X hP hw hK hc i bL s σ H E I hf st hg;subst hP hw hK;obtain⟨xs,x,hq,hx⟩:=hg;obtain⟨dJ,rv,p,hz⟩:=I.list hq;obtain⟨u,hu,ru⟩:=rv.get hx;obtain⟨f0,f1,f2,f3,f4,f5⟩:=hf it (by simp);refine wpAny_pyNext_list_item st p.isList (x:=u) (by simpa using hu) λh' Bi sb=>?_;have I1:Inv X bL σ H { s with heap:=h' }:=I.turned (t':=s.toks) (λb o hb e=>(sb.2 b hb).trans e) f0 f1 f3 f4 f5;obtain⟨o,e,c,d⟩:=id Bi;exact⟨u,rfl,Nn (s:={ s with heap:=h' }) e c d (by decide) ⟨x,H,I1,ru,⟨rfl,λys hy=>by rw[I.list_inj hy hq];exact hx⟩,Bi,λb hb=>(hf b hb).1⟩⟩
 done:=by intro X hP hw hK hc i bL s σ H E I hf st hg;subst hP hw hK;obtain⟨xs,hq,hx⟩:=hg;obtain⟨dJ,rv,p,hz⟩:=I.list hq;obtain⟨f0,f1,f2,f3,f4,f5⟩:=hf it (by simp);have hl:=rv.length;exact wpAny_pyNext_list_end (I.ok.hd hc) st p.isList (by simp;omega) λh' eb=>⟨rfl,I.turned (t':=s.toks) (λb o hb e=>eb b o hb e) f0 f1 f3 f4 f5⟩
 self:=λ_ _ _ _ _ st h=>wpAny_pyIter_listiter st h
theorem Vn {w:dB}{K:bM}(it:bO)(lo:Int)(n:Nat):Turn P w K tg (Gv lo n) [it] it (λi h=>IsRangeIter h it (lo+(i:Nat)*1) ((n:Int)-(i:Nat)) 1) where
 mem:=by simp
 obj:=λi h st b hb=>by
  have e:b=it:=by simpa using hb
  subst e;exact⟨_,st,λv z=>by have z':oI.fields _=oI.cell v:=z;cases z'⟩
 keep:=λi h h' st k=>k it (by simp) _ st
 item:=by intro X hP hw hK hc i bL s σ H E I hf st hg;subst hP hw hK;obtain⟨f0,f1,f2,f3,f4,f5⟩:=hf it (by simp);have W:=Walks.range (prog:=X.prog) (w:=X.w) (I.ok.hd hc) it lo 1 n;refine W.item i s _ _ hg st λv h' tk hv Bi kk=>?_;obtain⟨t,rfl⟩:=hv;have I1:Inv X bL σ H { s with heap:=h',toks:=tk }:=I.turned (λb o hb e=>kk b o (by simpa using hb) e) f0 f1 f3 f4 f5;refine⟨_,rfl,Nn (s:={ s with heap:=h',toks:=tk }) (n:="range_iterator") Bi rfl rfl (by decide) ⟨.int (lo+i),H,I1,⟨t,?_⟩,⟨rfl,rfl⟩,Bi,λb hb=>(hf b hb).1⟩⟩;rw[oH]
 done:=by intro X hP hw hK hc i bL s σ H E I hf st hg;subst hP hw hK;obtain⟨f0,f1,f2,f3,f4,f5⟩:=hf it (by simp);exact wpAny_pyNext_range_end (I.ok.hd hc) st (by have:n<=i:=hg;omega) λh' eb=>⟨rfl,I.turned (t':=s.toks) (λb o hb e=>eb b o hb e) f0 f1 f3 f4 f5⟩
 self:=λ_ _ _ _ _ st h=>wpAny_pyIter_rangeiter st h
variable {iter:Expr}{p:mE}{wi:TI}
noncomputable def Hm (K:bM)(tl:TE):TI:=λσ H R=>tl σ H λx H1=>∃a,x=.ref a/\(∃xs,jU K H1 a xs)/\R (JZ K a) H1
theorem Qk {l:Expr}{tl:TE}(hl:PE X l tl):PI X tg l (Hm X.K tl):=by
 intro bL s σ H R I h;refine eT (hl bL s σ H _ I h) λv s1 f7=>?_;obtain⟨x,H1,I1,r1,q1⟩:=f7;obtain⟨a,e,⟨xs,hq⟩,q⟩:=q1;subst e;cases r1;obtain⟨dJ,rv,p,hz⟩:=I1.list hq;refine wpAny_pyIter_list p.isList ?_;refine⟨s1.heap.objs.size,[s1.heap.objs.size],_,_,H1,rfl,I1.kept (t':=s1.toks) λb o e=>bT _ e,(VJ a _).ok,⟨_,cU _ rfl,rfl,rfl⟩,λb hb=>?_,q⟩;have e:b=s1.heap.objs.size:=by simpa using hb
 subst e;exact I1.fpOk (b7 _) (I1.hok.fresh (b7 _))
theorem PQ {R:It->Hp->Prop}{lo hi:Int}{t u v:Tok}{tk:Nat}(I:Inv X bL σ H s)(h1:-(2 ^ 62)<=lo)(h2:lo<2 ^ 62)(h3:-(2 ^ 62)<=hi)(h4:hi<2 ^ 62)
    (q:R (Gv lo (hi-lo).toNat) H):cj (b9 X.prog X.w) X.A (pyIter (.ref s.heap.objs.size)) (RT X bL σ tg R) E { s with heap:=s.heap.push { cls:=.type "range",data:=.fields #[.int lo t,.int hi u,.int 1 v] },toks:=tk }:=by
  refine wpAny_pyIter_range (IsRange.new ..) (small_one h1 h2 h3 h4) ?_;have I1:Inv X bL σ H { s with heap:=s.heap.push { cls:=.type "range",data:=.fields #[.int lo t,.int hi u,.int 1 v] },toks:=tk }:=I.kept λb o e=>bT _ e;refine⟨(s.heap.push { cls:=.type "range",data:=.fields #[.int lo t,.int hi u,.int 1 v] }).objs.size,[(s.heap.push { cls:=.type "range",data:=.fields #[.int lo t,.int hi u,.int 1 v] }).objs.size],_,_,H,rfl,
    I1.kept (t':=tk) λb o e=>bT _ e,(Vn _ lo (hi-lo).toNat).ok,?_,λb hb=>?_,q⟩
  · have e1:lo+((0:Nat):Int)*1=lo:=by simp
    have e2:(((hi-lo).toNat:Nat):Int)-((0:Nat):Int)=er.Range.rangeSize lo hi 1:=by rw[rangeSize_one];split<;>omega
    show IsRangeIter _ _ (lo+((0:Nat):Int)*1) ((((hi-lo).toNat:Nat):Int)-((0:Nat):Int)) 1;rw[e1,e2];exact cU _ rfl
  · have e:b=(s.heap.push { cls:=.type "range",data:=.fields #[.int lo t,.int hi u,.int 1 v] }).objs.size:=by simpa using hb
    subst e;exact I1.fpOk (b7 _) (I1.hok.fresh (b7 _))
noncomputable def Hn (ta:TA):TI:=λσ H R=>ta σ H λvs H1=>∃j:Int,vs=[.int j]/\-(2 ^ 62)<=j/\j<2 ^ 62/\R (Gv 0 j.toNat) H1
noncomputable def Ho (ta:TA):TI:=λσ H R=>ta σ H λvs H1=>∃i j:Int,vs=[.int i,.int j]/\(-(2 ^ 62)<=i/\i<2 ^ 62/\-(2 ^ 62)<=j/\j<2 ^ 62)/\R (Gv i (j-i).toNat) H1
theorem VL {a:Expr}{ta:TA}(hg:Gl X "range")(hm:X.mg "range"=none)(ha:PA X [a] ta)(hs:SN X a:=by rfl):PI X tg (.Call (.Name "range" p) [a] [] pos) (Hn ta):=by
 intro bL s σ H R I h;refine Call_ (wm I hg hm boot_range (dG (eT (ha pos bL s σ H _ I h) λus s1 ⟨vs,H1,I1,r1,q1⟩=>?_) hs rfl));obtain⟨j,e,q1,q2,q⟩:=q1;subst e;cases r1 with
 |cons r rr=>cases rr;obtain⟨t,rfl⟩:=r;exact call_range_1 (PQ I1 (by omega) (by omega) q1 q2 (by simpa using q))
theorem VM {a b:Expr}{ta:TA}(hg:Gl X "range")(hm:X.mg "range"=none)(ha:PA X [a,b] ta)(hs:cT [a,b] X.env=[(false,dR a X.env),(false,dR b X.env)]:=by rfl)(rS:SN X b:=by rfl) :
  PI X tg (.Call (.Name "range" p) [a,b] [] pos) (Ho ta):=by
 intro bL s σ H R I h;refine Call_ (wm I hg hm boot_range (dG (eT (ha pos bL s σ H _ I h) λus s1 ⟨vs,H1,I1,r1,q1⟩=>?_) (by rw[hs,rS]) (by rw[rS];rfl)));obtain⟨i,j,e,⟨q1,q2,q3,q4⟩,q⟩:=q1;subst e;cases r1 with
 |cons r rr=>
  cases rr with
  |cons r' rr=>cases rr;obtain⟨t,rfl⟩:=r;obtain⟨t',rfl⟩:=r';exact call_range_2 (PQ I1 q1 q2 q3 q4 q)
def LY (wi:TI)(g:TG)(tb:TS):TS:=λD σ H=>wi σ H λJ H1=>∃W:Nat->Nat->St->Hp->Prop,(∃m,W 0 m σ H1)/\∀i m σ H,W i m σ H ->
 (J.stop i H/\D.nx σ H)\/(J.go i H/\∃N:St->Hp->Prop,(∀σ' H',N σ' H'->∃m',m'<m/\W (i+1) m' σ' H')/\∀x H',J.yld i H x H'->g x σ H' λσ2 H2=>tb { D with nx:=N,ct:=N,bk:=D.nx } σ2 H2)
noncomputable def rW (fp:List bO)(h:cz):List (bO×gF):=fp.filterMap λb=>(h.get? b).map λo=>(b,o)
theorem vc {o:gF}(hb:b∈fp)(e:h.get? b=some o):(b,o)∈rW fp h:=Am.mpr ⟨b,hb,by rw[e];rfl⟩
theorem VN {p:bO×gF}(hp:p∈rW fp h):p.1∈fp/\h.get? p.1=some p.2:=by
 obtain⟨b,hb,e⟩:=Am.mp hp;cases q:h.get? b with
 |none=>rw[q]at e;cases e
 |some o=>rw[q]at e;have e':(b,o)=p:=Option.some.inj e;subst e';exact⟨hb,q⟩
theorem Inv.pinned (I:Inv X bL σ H s)(hf:∀b∈fp,qV X bL H b)(ho:∀b∈fp,∃o,s.heap.get? b=some o/\∀v,o.data≠.cell v):Inv X (bL++rW fp s.heap) σ H s :=
 I.pins_of λp hp=>(cA.mp hp).elim (λz=>I.pin p (b6 _ z)) λz=>by obtain⟨hb,e⟩:=VN z;obtain⟨f0,f1,f2,_⟩:=hf p.1 hb;obtain⟨o,e',d⟩:=ho p.1 hb;rw[e]at e';cases e';exact⟨e,f0,f1,f2,d⟩
theorem Inv.unpinned {pl:List (bO×gF)}(I:Inv X (bL++pl) σ H s):Inv X bL σ H s:=I.pins_of λp hp=>I.pin p (b6 _ (cC _ hp))
theorem Q9 {tb:TS}(hp:gI (b9 X.prog X.w) X.A X.env X.xe)(hc:X.calm=true)(hi:PI X tg iter wi)(hg:PG X tg g)(hb:uD X body tb)
  (hs:Bs X iter:=by intro _;rfl):PS X (.For tg iter body [] pos) (LY wi g tb):=by
 intro bL s σ H D I h;refine wpAny_For (eT (hi bL s σ H _ I h) λv s1 h1=>eT h1 λLy s2 h2=>?_) hs;obtain⟨it,fp,tn,J,H2,e,I2,T,CN,f2,W,⟨m0,w0⟩,turn⟩:=h2;obtain⟨Cs,T,hT⟩:=T;have hc:=hT hc X rfl rfl;subst e;have yS:∀{H':Hp},(∀b∈fp,H' b=none)->∀b∈fp,qV X bL H' b:=λhn b hb=>⟨hn b hb,(f2 b hb).2⟩;refine codeAny_forLoop_any (λn s'=>∃i σ' H',Inv X bL σ' H' s'/\tn i s'.heap/\(∀b∈fp,H' b=none)/\W i n σ' H') ?_ m0 ⟨0,σ,H2,I2,CN,λb hb=>(f2 b hb).1,w0⟩;rintro n s3 ⟨i,σ3,H3,I3,OF,IF,w3⟩;rcases turn i n σ3 H3 w3 with⟨stop,qn⟩|⟨go,N,hN,step⟩
 ·refine iK hp (eT (T.done X rfl rfl rfl hc i bL s3 σ3 H3 X.xe I3 (yS IF) OF stop) λr s4 f7=>?_);obtain⟨hr,I4⟩:=f7;subst hr;exact oP ⟨σ3,H3,I4,qn⟩
 ·refine iK hp (eT (T.item X rfl rfl rfl hc i bL s3 σ3 H3 X.xe I3 (yS IF) OF go) λr s4 f7=>?_);obtain⟨u,hr,h4⟩:=f7;subst hr;refine iK hp (eT h4 λ_ s5 f7=>?_);obtain⟨x,H5,I5,r5,y5,Gf,IG⟩:=f7;have RP:=I5.pinned (yS IG) (T.obj _ _ Gf);refine iK hp (eT (hg _ s5 σ3 H5 x u _ RP r5 (step x H5 y5)) λ_ s6 f7=>?_);obtain⟨σ6,H6,I6,q6⟩:=f7;refine iK hp (eT (hb _ s6 σ6 H6 _ I6 q6) λf s7 q7=>?_);have again:∀{σ7:St} {H7:Hp},Inv X (bL++rW fp s5.heap) σ7 H7 s7->N σ7 H7->∃m,m<n/\∃i σ' H',Inv X bL σ' H' s7/\tn i s7.heap/\(∀b∈fp,H' b=none)/\W i m σ' H':=λ{σ7 H7} I7 n7=>by obtain⟨m',hm,w7⟩:=hN σ7 H7 n7;refine⟨m',hm,i+1,σ7,H7,I7.unpinned,T.keep _ _ _ Gf λb hb o e=>(I7.pin (b,o) (b6 _ (b6 _ (vc hb e)))).1,λb hb=>?_,w7⟩;obtain⟨o,e,d⟩:=T.obj _ _ Gf b hb;exact(I7.pin (b,o) (b6 _ (b6 _ (vc hb e)))).2.1
  cases f with
  |next=>obtain⟨σ7,H7,I7,n7⟩:=q7;exact again I7 n7
  |cont=>obtain⟨σ7,H7,I7,n7⟩:=q7;exact again I7 n7
  |brk=>obtain⟨σ7,H7,I7,q7⟩:=q7;exact⟨σ7,H7,I7.unpinned,q7⟩
  |ret v=>obtain⟨x7,σ7,H7,I7,r7,q7⟩:=q7;exact⟨x7,σ7,H7,I7.unpinned,r7,q7⟩
abbrev R2:=V->V->Hp->VK->Prop
def kN (X:Cx)(f:bJ->bJ->Cw bJ)(r:R2):Prop :=
 ∀(bL:List (bO×gF)) (s:bV) (σ:St) (H:Hp) (x y:V) (v u:bJ) (Q:VK),Inv X bL σ H s->RelV x v->RelV y u->r x y H Q ->
  cj (b9 X.prog X.w) X.A (f v u) (EP X bL σ Q) X.xe s
def Iu (X:Cx)(f:bJ->Cw bJ)(r:V->Hp->VK->Prop):Prop :=
 ∀(bL:List (bO×gF)) (s:bV) (σ:St) (H:Hp) (x:V) (v:bJ) (Q:VK),Inv X bL σ H s->RelV x v->r x H Q ->
  cj (b9 X.prog X.w) X.A (f v) (EP X bL σ Q) X.xe s
def iA (X:Cx)(f:bJ)(r:List V->Hp->VK->Prop):Prop :=
 ∀(bL:List (bO×gF)) (s:bV) (σ:St) (H:Hp) (xs:List V) (us:List bJ) (Q:VK),Inv X bL σ H s->dm xs us->r xs H Q ->
  cj (b9 X.prog X.w) X.A (call f us) (EP X bL σ Q) X.xe s
def HZ (r:R2)(ta tb:TE):TE:=λσ H Q=>ta σ H λx H1=>tb σ H1 λy H2=>r x y H2 Q
def Uy (r:V->Hp->VK->Prop)(ta:TE):TE:=λσ H Q=>ta σ H λx H1=>r x H1 Q
def rI (C:Int->Int->Prop)(g:Int->Int->V):R2:=λx y H Q=>∃i j,x=.int i/\y=.int j/\C i j/\Q (g i j) H
def xH (g:Int->Int->V):R2:=λx y H Q=>∃i j,x=.int i/\y=.int j/\Q (g i j) H
def rU (g:Int->V):V->Hp->VK->Prop:=λx H Q=>∃i,x=.int i/\Q (g i) H
variable {r:R2}
section
variable {a b:Expr}{tc:TE}
theorem Ex (ha:PE X a ta)(hb:PE X b tb){R:V->V->Hp->Prop}(I:Inv X bL σ H s)
  (h:ta σ H λx H1=>tb σ H1 λy H2=>R x y H2) {f:bJ->bJ->Cw bJ}
  (hf:∀v u s2 x y H2,Inv X bL σ H2 s2->RelV x v->RelV y u->R x y H2->cj (b9 X.prog X.w) X.A (f v u) Q X.xe s2) :
  cj (b9 X.prog X.w) X.A (dR a X.env) (λv s₁=>cj (b9 X.prog X.w) X.A (dR b X.env) (λu s₂=>cj (b9 X.prog X.w) X.A (f v u) Q X.xe s₂) X.xe s₁) X.xe s:=by
 refine eT (ha bL s σ H _ I h) λv s1 f7=>?_;obtain⟨x,H1,I1,r1,q1⟩:=f7;refine eT (hb bL s1 σ H1 _ I1 q1) λu s2 f7=>?_;obtain⟨y,H2,I2,r2,q2⟩:=f7;exact hf v u s2 x y H2 I2 r1 r2 q2
theorem Nr {op:wW}(ho:kN X (gC op) r)(ha:PE X a ta)(hb:PE X b tb):PE X (.BinOp a op b pos) (HZ r ta tb):=by intro bL s σ H Q I h;exact wpAny_BinOp (Ex ha hb I h λv u s2 x y H2 I2 rx ry q=>ho bL s2 σ H2 x y v u Q I2 rx ry q)
theorem zti {op:UnaryOp}{r:V->Hp->VK->Prop}(ho:Iu X (unaryOp op) r)(ha:PE X a ta):PE X (.UnaryOp op a pos) (Uy r ta):=by intro bL s σ H Q I h;exact UnaryOp_ (eT (ha bL s σ H _ I h) λv s1 ⟨x,H1,I1,r1,q1⟩=>ho bL s1 σ H1 x v Q I1 r1 q1)
theorem Ge {f:bJ->bJ->Cw bJ}{C:Int->Int->Prop}{g:Int->Int->Int}
  (rule:∀(i j:Int) (t u:Tok) (s:bV) (Q:bJ->bV->Prop) (E:bJ->bV->Prop),C i j->Q (.int (g i j) s.toks) { s with toks:=s.toks+1 }->cj (b9 X.prog X.w) X.A (f (.int i t) (.int j u)) Q E s) :
  kN X f (rI C λi j=>.int (g i j)):=by
 intro bL s σ H x y v u Q I rx ry h;obtain⟨i,j,rfl,rfl,hc,q⟩:=h;obtain⟨t,rfl⟩:=rx;obtain⟨t',rfl⟩:=ry;exact rule i j t t' s _ _ hc ⟨.int (g i j),H,I.tok _,⟨_,rfl⟩,q⟩
theorem HC {f:bJ->bJ->Cw bJ}{g:Int->Int->Int}
  (rule:∀(i j:Int) (t u:Tok) (s:bV) (Q:bJ->bV->Prop) (E:bJ->bV->Prop),Q (.int (g i j) s.toks) { s with toks:=s.toks+1 }->cj (b9 X.prog X.w) X.A (f (.int i t) (.int j u)) Q E s) :
  kN X f (xH λi j=>.int (g i j)):=by
 intro bL s σ H x y v u Q I rx ry h;obtain⟨i,j,rfl,rfl,q⟩:=h;obtain⟨t,rfl⟩:=rx;obtain⟨t',rfl⟩:=ry;exact rule i j t t' s _ _ ⟨.int (g i j),H,I.tok _,⟨_,rfl⟩,q⟩
theorem Dh {f:bJ->bJ->Cw bJ}{g:Int->Int->Bool}
  (rule:∀(i j:Int) (t u:Tok) (s:bV) (Q:bJ->bV->Prop) (E:bJ->bV->Prop),Q (.bool (g i j)) s->cj (b9 X.prog X.w) X.A (f (.int i t) (.int j u)) Q E s) :
  kN X f (xH λi j=>.bl (g i j)):=by
 intro bL s σ H x y v u Q I rx ry h;obtain⟨i,j,rfl,rfl,q⟩:=h;obtain⟨t,rfl⟩:=rx;obtain⟨t',rfl⟩:=ry;exact rule i j t t' s _ _ ⟨.bl (g i j),H,I,rfl,q⟩
def CT (i j:Int):Prop:=0<=j/\j<=1000000/\i.natAbs<2 ^ 64
def El (i j:Int):Prop:=(-(2 ^ 64)<i/\i<2 ^ 64)\/(-(2 ^ 64)<j/\j<2 ^ 64)
theorem El.ok {i j:Int}(h:El i j):IntMulOk i j:=by
 rcases h with⟨h1,h2⟩|⟨h1,h2⟩
 ·exact .of_left (intBits_le_64 h1 h2)
 ·exact .of_right (intBits_le_64 h1 h2)
theorem Vo (k:Nat):(0:Int)<=2 ^ k:=by rw[two_pow_cast];exact Int.natCast_nonneg _
theorem zqx:kN X (gC .Add) (xH λi j=>.int (i+j)):=HC λ_ _ _ _ _ _ _ q=>add_int q
theorem zqy:kN X (gC .Sub) (xH λi j=>.int (i-j)):=HC λ_ _ _ _ _ _ _ q=>sub_int q
theorem Yn:kN X (gC .Mod) (rI (λ_ j=>j≠0) λi j=>.int (i.fmod j)):=Ge λ_ _ _ _ _ _ _ hc q=>mod_int' hc q
theorem M5:kN X (gC .Pow) (rI CT λi j=>.int (i ^ j.toNat)):=Ge λ_ _ _ _ _ _ _ hc q=>pow_int_small hc.1 hc.2.1 hc.2.2 q
theorem zqz:kN X (gC .LShift) (rI CT λi j=>.int (i*2 ^ j.toNat)):=Ge λ_ _ _ _ _ _ _ hc q=>lshift_int_small hc.1 hc.2.1 hc.2.2 q
theorem Ra:kN X (gC .RShift) (rI (λ_ j=>0<=j) λi j=>.int (i/2 ^ j.toNat)):=Ge λi j _ _ _ _ _ hc q=>rshift_int hc (by rw[lV i (Vo _)];exact q)
theorem UB {f:bJ->Cw bJ}{g:Int->Int}
  (rule:∀(i:Int) (t:Tok) (s:bV) (Q:bJ->bV->Prop) (E:bJ->bV->Prop),Q (.int (g i) s.toks) { s with toks:=s.toks+1 }->cj (b9 X.prog X.w) X.A (f (.int i t)) Q E s) :
  Iu X f (rU λi=>.int (g i)):=by
 intro bL s σ H x v Q I rx h;obtain⟨i,rfl,q⟩:=h;obtain⟨t,rfl⟩:=rx;exact rule i t s _ _ ⟨.int (g i),H,I.tok _,⟨_,rfl⟩,q⟩
theorem ZQ:Iu X (unaryOp .USub) (rU λi=>.int (-i)):=UB λ_ _ _ _ _ q=>neg_int q
end
section
variable {a b:Expr}{tc:TE}
theorem JJ {Q:VK}{k k':Bool}(I:Inv X bL σ H s)(q:Q (.bl k) H)(e:k=k'):EP X bL σ Q (.bool k') s:=by subst e;exact⟨.bl k,H,I,rfl,q⟩
theorem Nt:kN X (d5 .Lt) (xH λi j=>.bl (decide (i<j))):=Dh λ_ _ _ _ _ _ _ q=>lt_int q
theorem ztj:kN X (d5 .LtE) (xH λi j=>.bl (decide (i<=j))):=Dh λ_ _ _ _ _ _ _ q=>le_int q
theorem RA:kN X (d5 .Gt) (xH λi j=>.bl (decide (j<i))):=Dh λ_ _ _ _ _ _ _ q=>gt_int q
theorem RB:kN X (d5 .GtE) (xH λi j=>.bl (decide (j<=i))):=Dh λ_ _ _ _ _ _ _ q=>ge_int q
theorem ZR:kN X (d5 .Is) (λx y H Q=>y=.non/\Q (.bl (decide (x=.non))) H):=by
 intro bL s σ H x y v u Q I rx ry h;obtain⟨rfl,q⟩:=h;cases ry;refine is_none_gen (JJ I q ?_);cases x<;>first
  |(cases rx;rfl)
  |(obtain⟨t,rfl⟩:=rx;rfl)
theorem Yo:kN X (d5 .IsNot) (λx y H Q=>y=.non/\Q (.bl (!decide (x=.non))) H):=by
 intro bL s σ H x y v u Q I rx ry h;obtain⟨rfl,q⟩:=h;cases ry;refine isnot_none_gen (JJ I q ?_);cases x<;>first
  |(cases rx;rfl)
  |(obtain⟨t,rfl⟩:=rx;rfl)
theorem kN.or {f:bJ->bJ->Cw bJ}{r':R2}(h:kN X f r)(h':kN X f r'):kN X f (λx y H Q=>r x y H Q\/r' x y H Q):=by
 intro bL s σ H x y v u Q I rx ry q;rcases q with q|q
 ·exact h bL s σ H x y v u Q I rx ry q
 ·exact h' bL s σ H x y v u Q I rx ry q
theorem km (b:Expr)(h:op≠.In:=by decide)(h2:op≠.NotIn:=by decide):fM op b=false:=by
 have e1:(op==Ao.In)=false:=by cases op<;>first|rfl|exact absurd rfl h
 have e2:(op==Ao.NotIn)=false:=by cases op<;>first|rfl|exact absurd rfl h2
 cases b<;>simp[fM,e1,e2]
theorem Yp (ho:kN X (d5 op) r)(ha:PE X a ta)(hb:PE X b tb)(hm:fM op b=false):PE X (.Compare a [op] [b] pos) (HZ r ta tb):=by intro bL s σ H Q I h;exact wpAny_Compare1 (Ex ha hb I h λv u s2 x y H2 I2 rx ry q=>ho bL s2 σ H2 x y v u Q I2 rx ry q) hm
def Ie (t:TE):TT:=λσ H Q=>t σ H λx H'=>∃k,x=.bl k/\Q k H'
theorem Yq (ho:kN X (d5 op) r)(ha:PE X a ta)(hb:PE X b tb)(hm:fM op b=false):PT X (.Compare a [op] [b] pos) (Ie (HZ r ta tb)):=by intro bL s σ H Q I h;refine wpAny_isTrue_Compare1 (eT (ha bL s σ H _ I h) λv s1 ⟨x,H1,I1,r1,q1⟩=>eT (hb bL s1 σ H1 _ I1 q1) λu s2 ⟨y,H2,I2,r2,q2⟩=>eT (ho bL s2 σ H2 x y v u _ I2 r1 r2 q2) λc s3 ⟨z,H3,I3,r3,k,e,q3⟩=>?_) hm;subst e;cases r3;exact gL ⟨H3,I3,q3⟩
theorem oW:(sizeLine:Nat)<2 ^ 63:=by rw[dF];decide
theorem Vp:kN X (gC .Add) (λx y H Q=>∃i j,x=.str i/\y=.str j/\i.length+j.length<=sizeLine/\Q (.str (i++j)) H):=by intro bL s σ H x y v u Q I rx ry h;obtain⟨i,j,rfl,rfl,hz,q⟩:=h;obtain⟨t,rfl⟩:=rx;obtain⟨t',rfl⟩:=ry;exact add_str (λt' tk=>⟨.str (i++j),H,I.tok _,⟨_,rfl⟩,q⟩) hz
theorem sg {x:V}(r:dm [x] us):∃u,us=[u]/\RelV x u:=by
 cases r with
 |cons r1 r2=>cases r2;exact⟨_,rfl,r1⟩
theorem vals2 {x:V}(r:dm [x,y] us):∃u w',us=[u,w']/\RelV x u/\RelV y w':=by
 cases r with
 |cons r1 r2=>
  cases r2 with
  |cons r3 r4=>cases r4;exact⟨_,_,rfl,r1,r3⟩
theorem WM:iA X (.builtin "abs") (λxs H Q=>∃i,xs=[.int i]/\Q (.int (if i<0 then -i else i)) H):=by intro bL s σ H xs us Q I r h;obtain⟨i,rfl,q⟩:=h;obtain⟨u,rfl,t,rfl⟩:=sg r;exact call_abs_int λu tk=>⟨.int (if i<0 then -i else i),H,I.tok _,⟨_,rfl⟩,q⟩
theorem jq (hc:X.calm=true):iA X (.builtin "max") (λxs H Q=>∃i j,xs=[.int i,.int j]/\Q (.int (if j > i then j else i)) H):=by
 intro bL s σ H xs us Q I r h;obtain⟨i,j,rfl,q⟩:=h;obtain⟨u,w',rfl,⟨t,rfl⟩,⟨t',rfl⟩⟩:=vals2 r;refine max_two_ints (I.ok.hd hc) λh' tk k=>⟨_,H,I.kept k,?_,q⟩;by_cases hj:j > i
 ·rw[if_pos hj,if_pos hj];exact⟨_,rfl⟩
 ·rw[if_neg hj,if_neg hj];exact⟨_,rfl⟩
theorem UY:iA X (.type "str") (λxs H Q=>∃i,xs=[.int i]/\i.natAbs.log2<1920/\Q (.str (toString i)) H):=by intro bL s σ H xs us Q I r h;obtain⟨i,rfl,hz,q⟩:=h;obtain⟨u,rfl,t,rfl⟩:=sg r;exact PySem.P.str_of_int hz ⟨.str _,H,I.tok _,⟨_,rfl⟩,q⟩
end
structure xU (h:cz)(x dx C:bO)(mA:Str->Option bJ):Prop where
 obj:h.get? x=some (gk C dx)
 ns:h.Ns1 dx mA
 ne:dx≠x
theorem VO {dx:bO}{mA:Str->Option bJ}(n:h.Ns1 dx mA):∃od,h.get? dx=some od/\∀name,nP name od=some (mA name):=by
 obtain⟨o,es,ep,ho,hd,hk,_,hm⟩:=n;refine⟨o,ho,λname=>?_⟩;have e:=hm name;unfold nsFind findBy at e;rw[←Array.find?_toList]at e;unfold nP;rw[hd];dsimp only;split
 ·rename_i y q;rw[q]at e;exact congrArg some e
 ·rename_i q;rw[q]at e;have a:es.toList.any (·.refKey)=false:=by rw[pS];intro y hy;obtain⟨z,t,K9⟩:=hk y (Array.mem_toList_iff.mp hy);simp[DictEntry.refKey,K9]
  have a':¬es.toList.any (·.refKey)=true:=by rw[a];exact cB
  rw[if_neg a'];exact congrArg some e
variable {C:bO}
theorem xU.look {x dx:bO}{mA:Str->Option bJ}(I:xU h x dx C mA):∃od,AZ h x (gk C dx) C (some od)/\∀name,nP name od=some (mA name) :=
 let⟨od,ho,hl⟩:=VO I.ns
 ⟨od,⟨I.obj,rfl,rfl,ho⟩,hl⟩
variable {R:Result->bV->Prop}{f:bO}{kw:List (Str×bJ)}{name:Str}{pl:Cw Bool}
section
variable {prog:dQ}{w:dB}{A:c8}{K:bM}{x dx:bO}{mA:Str->Option bJ}{v:bJ}
theorem Yr {expr:Bool}(X:K.In s.heap)(I:xU s.heap x dx C mA)(hg:mF K C name=true)(hh:fw K C=true)
  (ha:cX K (.ref C) name=some none) (hv:mA name=some v) (Lm:zA v=true) (h:Q v { s with toks:=s.toks+1 }) :
  cj (b9 prog w) A (getAttr (.ref x) name expr) Q E s:=by
 obtain⟨od,J,hl⟩:=I.look;exact PySem.W.get_value X J (oj hg).1 (PySem.W.findObj_own hh ha rfl (by rw[hl,hv])) Lm h
theorem WN {Q:bJ×List bJ->bV->Prop}(X:K.In s.heap)(I:xU s.heap x dx C mA)(hg:mF K C name=true)
  (hf:cX K (.ref C) name=some (some (.ref f))) (ht:kW K (.ref f)=true) (hv:mA name=none) (h:Q (.ref f,[.ref x]) s) :
  cj (b9 prog w) A (kz (.ref x) name pl) Q E s:=by
 obtain⟨od,J,hl⟩:=I.look;exact PySem.W.method_fn X J (oj hg).1 (oj hg).2 hf (beq_iff_eq.mp ht) (by show(nP name od).map (·.isSome)=some false;rw[hl,hv];rfl) h
theorem Ys {ns:List Str}{Q:Unit->bV->Prop}(X:K.In s.heap)(I:xU s.heap x dx C mA)
  (hs:cX K (.ref C) "__setattr__"=some (some (.builtin "object.__setattr__"))) (hp:xQ K C=true) (ht:gY K C name=some none) (hh:fw K C=true)
  (hw:PySem.Within mA ns) (hsz:ns.length<=sizeLine)
  (h:∀h',xU h' x dx C (λy=>if y=name then some v else mA y)->lC dx s.heap h'->Q () { s with heap:=h',toks:=s.toks+2 }) :
  cj (b9 prog w) A (setAttr (.ref x) name v) Q E s:=by
 obtain⟨od,J,hl⟩:=I.look;refine xR X J hs (PySem.W.osa_open (s:={ s with toks:=s.toks+1 }) (r:=none) X J hp ht λb=>?_);obtain⟨cd,hc,GZ⟩:=PySem.W.any_some hh;have hx:s.heap.get? x=some ⟨.ref C,some dx,.plain,#[]⟩:=I.obj;refine bP (cy (bP (bP (wpAny_loadPart hx (bP (d9.here (s:={ s with toks:=s.toks+1 }) (oh X hc) ?_))))));rw[GZ];refine cy (a:=some dx) (bP (cy (bP ?_)));refine wpAny_nsSet1 (s:={ s with toks:=s.toks+1 }) I.ns λh' yC rS=>?_;obtain⟨oD,Sj,R7,Lf,KO,KH⟩:=yC.count (PySem.Within.cons name v hw);refine bP (wpAny_lookBehind Lf (by rw[KO];exact pastItsLine_dict (dA KH (by rw[b8];omega))) ?_);exact cy (h _ ⟨(rS.2 _ (Ne.symm I.ne)).trans I.obj,yC,I.ne⟩ rS)
theorem PR {vs:List bJ}(X:K.In s.heap)(hm:qF K C=true)
  (hi:cX K (.ref C) "__init__"=some (some (.ref f))) (hf:A6 K (.ref f)=some (.type "function"))
  (h:gK (b9 prog w) (A.under (.builtin "type.__call__" ⟨.ref C::vs,kw⟩)) (.call (.ref f) ⟨.ref (s.heap.objs.size+1)::vs,kw⟩) (yZ (s.heap.objs.size+1) R)
   { s with heap:=(s.heap.push eK).push (gk C s.heap.objs.size) }) :
  gK (b9 prog w) A (.call (.ref C) ⟨vs,kw⟩) R s:=by
 obtain⟨hh,g,d,t,os⟩:=s;exact PySem.W.make_core (PySem.W.makes_of X hm) (nQ X hi) (λself=>Ar X self hf) (.inl rfl) h
end
noncomputable def nL (f:Str)(v:V):List (Str×V)->List (Str×V)
 |[]=>[(f,v)]
 |(g,x)::r=>if g=f then(g,v)::r else(g,x)::nL f v r
theorem jr (f g:Str)(v:V):∀fs:List (Str×V),(nL f v fs).lookup g=if g=f then some v else fs.lookup g
 |[]=>by
  show iM g [(f,v)]=_;by_cases h:g=f
  ·have hb:(g==f)=true:=beq_iff_eq.mpr h;simp only[iM,hb,if_pos h]
  ·have hb:(g==f)=false:=beq_eq_false_iff_ne.mpr h;simp only[iM,hb,if_neg h]
 |(k,x)::r=>by
  have ih:=jr f g v r;rw[show nL f v ((k,x)::r)=(if k=f then(k,v)::r else(k,x)::nL f v r)from rfl];by_cases hk:k=f
  ·rw[if_pos hk];by_cases h:g=k
   ·have hb:(g==k)=true:=beq_iff_eq.mpr h;simp only[iM,hb,if_pos (h.trans hk)]
   ·have hb:(g==k)=false:=beq_eq_false_iff_ne.mpr h;simp only[iM,hb,if_neg (λe:g=f=>h (e.trans hk.symm))]
  ·rw[if_neg hk];by_cases h:g=k
   ·have hb:(g==k)=true:=beq_iff_eq.mpr h;simp only[iM,hb,if_neg (λe:g=f=>hk (h.symm.trans e))]
   ·have hb:(g==k)=false:=beq_eq_false_iff_ne.mpr h;simp only[iM,hb];exact ih
theorem jt (f:Str)(v:V):∀fs:List (Str×V),f∈(nL f v fs).map (·.1)/\∀g,g∈fs.map (·.1)->g∈(nL f v fs).map (·.1)
 |[]=>⟨by simp[nL],λg h=>by simp at h⟩
 |(k,x)::r=>by
  obtain⟨i1,i2⟩:=jt f v r;rw[show nL f v ((k,x)::r)=(if k=f then(k,v)::r else(k,x)::nL f v r)from rfl];by_cases hk:k=f
  ·rw[if_pos hk];subst hk;exact⟨by simp,λg h=>by simpa using h⟩
  ·rw[if_neg hk];refine⟨?_,λg h=>?_⟩
   ·rw[ck];exact bK _ i1
   ·rw[ck]at h ⊢;rcases bY.mp h with e|e
    ·exact bY.mpr (.inl e)
    ·exact bK _ (i2 g e)
theorem ju (f:Str)(v:V):∀fs:List (Str×V),(nL f v fs).length<=fs.length+1
 |[]=>by simp[nL]
 |(k,x)::r=>by
  have ih:=ju f v r;rw[show nL f v ((k,x)::r)=(if k=f then(k,v)::r else(k,x)::nL f v r)from rfl];by_cases hk:k=f
  ·rw[if_pos hk,b8,b8];omega
  ·rw[if_neg hk,b8,b8];omega
theorem nI.some_of {o:Option bJ}(r:nI (some v) o):∃u,o=some u/\RelV v u:=by
 cases o with
 |none=>exact(show False from r).elim
 |some u=>exact⟨u,rfl,r⟩
theorem nI.none_of {o:Option bJ}(r:nI none o):o=none:=by
 cases o with
 |none=>rfl
 |some u=>exact(show False from r).elim
theorem VP (r:RelV v u):zA u=true:=by
 cases v with
 |non=>cases(show u=bJ.none from r);rfl
 |bl b=>cases(show u=bJ.bool b from r);rfl
 |int i=>obtain⟨t,e⟩:=(show∃t,u=bJ.int i t from r);cases e;rfl
 |str x=>obtain⟨t,e⟩:=(show∃t,u=bJ.str x t from r);cases e;rfl
 |byt b=>obtain⟨t,e⟩:=(show∃t,u=bJ.bytes b t from r);cases e;rfl
 |flt b=>obtain⟨t,e⟩:=(show∃t,u=bJ.float b t from r);cases e;rfl
 |ref a=>cases(show u=bJ.ref a from r);rfl
 |ty n=>cases(show u=bJ.type n from r);rfl
section
variable {w:dB}{dx:bO}{fs IH:List (Str×V)}
theorem Jx (hok:oS P w H h)(e:H a=some (.ins C dx fs)):∃mA,xU h a dx C mA/\(∀f,nI (fs.lookup f) (mA f))/\PySem.Within mA (fs.map (·.1))/\fs.length<=1000/\H dx=some (.own a):=by obtain⟨d,z,ne,ob,mA,n,r,q⟩:=(show gj P w H h a (.ins C dx fs)from hok a _ e);exact⟨mA,⟨ob,n,ne⟩,r,q,z,d⟩
end
structure pw (K:bM)(C:bO):Prop where
 pg:mF K C Str.empty=true
 hd:fw K C=true
 po:xQ K C=true
 sa:cX K (.ref C) "__setattr__"=some (some (.builtin "object.__setattr__"))
theorem pw.get {K:bM}(c:pw K C)(f:Str):mF K C f=true:=c.pg
def gJ (K:bM)(C:bO)(f:Str):Prop:=cX K (.ref C) f=some none
theorem gJ.taker {K:bM}{f:Str}(n:gJ K C f):gY K C f=some none:=by unfold gY;rw[show cX K (.ref C) f=some none from n];rfl
structure xT (K:bM)(C:bO)(m:Str)(f:bO):Prop where
 at_:cX K (.ref C) m=some (some (.ref f))
 fn:kW K (.ref f)=true
 kp:dY K (.ref f)=true
variable {m:Str}
section
variable {dx:bO}{fs:List (Str×V)}{f:Str}{A:c8}
theorem Vq {b:Bool}(I:Inv X bL σ H s)(e:H a=some (.ins C dx fs))(c:pw X.K C)(n:gJ X.K C f)(l:fs.lookup f=some v)
  (h:∀u s',Inv X bL σ H s'->RelV v u->Q u s'):cj (b9 X.prog X.w) A (getAttr (.ref a) f b) Q E s:=by
 obtain⟨mA,O,r,_,_,_⟩:=Jx I.hok e;obtain⟨u,hu,ru⟩:=nI.some_of (v:=v) (o:=mA f) (by rw[←l];exact r f);exact Yr I.kIn O (c.get f) c.hd n hu (VP ru) (h u _ (I.tok _) ru)
theorem uf {g:bO}{Q:bJ×List bJ->bV->Prop}(I:Inv X bL σ H s)(e:H a=some (.ins C dx fs))(c:pw X.K C)(k:xT X.K C m g)(l:fs.lookup m=none)
  (h:Q (.ref g,[.ref a]) s):cj (b9 X.prog X.w) A (kz (.ref a) m pl) Q E s:=by
 obtain⟨mA,O,r,_,_,_⟩:=Jx I.hok e;have hn:mA m=none:=nI.none_of (by rw[←l];exact r m);exact WN I.kIn O (c.get m) k.at_ k.fn hn h
theorem Vr {Q:Unit->bV->Prop}(I:Inv X bL σ H s)(e:H a=some (.ins C dx fs))(c:pw X.K C)(n:gJ X.K C f)(hl:fs.length<1000)(ry:RelV y u)
  (h:∀s',Inv X bL σ (upd H a (.ins C dx (nL f y fs))) s'->Q () s'):cj (b9 X.prog X.w) A (setAttr (.ref a) f u) Q E s:=by
 obtain⟨mA,O,r,wi,_,ho⟩:=Jx I.hok e;have hz:(fs.map (·.1)).length<=sizeLine:=by rw[bQ,dF];omega
 refine Ys I.kIn O c.sa c.po n.taker c.hd wi hz λh' O' sb=>h _ ?_;have hd:∃o,h'.get? dx=some o:=let⟨o,_,_,e',_⟩:=O'.ns;⟨o,e'⟩;refine I.write (x:=a) (e:=dx) (by rw[e];exact True.intro) (.inr ho) (λb q hb z=>(sb.2 b hb).trans z) hd ?_;refine⟨by rw[zj O.ne];exact ho,?_,O.ne,O'.obj,_,O'.ns,λg=>?_,λg hg=>?_⟩
 ·have:=ju f y fs;omega
 ·show nI ((nL f y fs).lookup g) (if g=f then some u else mA g);rw[jr];by_cases q:g=f
  ·rw[if_pos q,if_pos q];exact ry
  ·rw[if_neg q,if_neg q];exact r g
 ·by_cases q:g=f
  ·rw[q];exact(jt f y fs).1
  ·refine(jt f y fs).2 g (wi g λz=>hg ?_);show(if g=f then some u else mA g)=none;rw[if_neg q];exact z
theorem Inv.made (I:Inv X bL σ H s):Inv X bL σ (upd (upd H s.heap.objs.size (.own (s.heap.objs.size+1))) (s.heap.objs.size+1) (.ins C s.heap.objs.size []))
  { s with heap:=(s.heap.push eK).push (gk C s.heap.objs.size) }:=by
 have e1:(s.heap.push eK).get? s.heap.objs.size=some eK:=cU s.heap rfl;have e2:((s.heap.push eK).push (gk C s.heap.objs.size)).get? (s.heap.objs.size+1)=some (gk C s.heap.objs.size):=by have:=cU (s.heap.push eK) (o:=gk C s.heap.objs.size) rfl;rwa[iL]at this
 have e3:(s.heap.push eK).Ns s.heap.objs.size (λ_=>none):=⟨eK,#[],_,e1,rfl,(λe he=>absurd he (by simp)),λ_=>rfl⟩;have I1:=I.laid (a:=s.heap.objs.size) (o:=.own (s.heap.objs.size+1)) (h':=s.heap.push eK) (t':=s.toks) (λb u q=>bT _ q) (b7 _) ⟨_,e1⟩;refine I1.laid (a:=s.heap.objs.size+1) (o:=.ins C s.heap.objs.size []) (t':=s.toks) (λb u q=>bT _ q) (wU (iL _ _)) ?_;have ne:s.heap.objs.size≠s.heap.objs.size+1:=cN (kI _);refine⟨by rw[zj ne,zo],ej _,ne,e2,λ_=>none,(cz.Ns1.of_empty e3).at λo q=>bT _ q,λ_=>True.intro,λy hy=>absurd rfl hy⟩
theorem Yt {prog:dQ}{w:dB}{env:Env}{f:Str}(hb:nO e f env (dR e env)=dR e env)
  (h:cj (b9 prog w) A (dR e env) (λo s₁=>cj (b9 prog w) A (getAttr o f true) Q E s₁) E s):cj (b9 prog w) A (dR (.Attribute e f pos) env) Q E s :=
 Attribute_any_ h (by rw[arm_eval_Attribute,hb])
end
def LX (K:bM)(ta:TE)(f:Str):TE:=λσ H Q=>ta σ H λx H1=>∃a C dx fs v,x=.ref a/\H1 a=some (.ins C dx fs)/\pw K C/\gJ K C f/\fs.lookup f=some v/\Q v H1
noncomputable def LO (K:bM)(ta tv:TE)(f:Str):TS:=λD σ H=>tv σ H λy H1=>ta σ H1 λx H2=>∃a C dx fs,x=.ref a/\H2 a=some (.ins C dx fs)/\pw K C/\gJ K C f/\fs.length<1000 /\
 D.nx σ (upd H2 a (.ins C dx (nL f y fs)))
variable {fK:mE}{tv:TE}{value:Expr}
section
variable {f:Str}
theorem ZS (he:PE X e ta)(hb:DJ X e f):PE X (.Attribute e f pos) (LX X.K ta f):=by intro bL s σ H Q I h;refine Yt hb (eT (he bL s σ H _ I h) λu s1 f7=>?_);obtain⟨x,H1,I1,rx,a,C,dx,fs,v,ex,ea,c,n,l,q⟩:=f7;subst ex;obtain rfl:u=bJ.ref a:=rx;exact Vq I1 ea c n l λu' s2 I2 ru=>⟨v,H1,I2,ru,q⟩
theorem ZT (ha:PE X o ta)(hv:PE X value tv)(hs:gq value (some (.Attribute o f pos')) pos.line X.env=pure false):PS X (.Assign [.Attribute o f pos'] value pos) (LO X.K ta tv f):=by intro bL s σ H D I h;refine plainObj_wpAny_Assign_Attribute (eT (hv bL s σ H _ I h) λu s1 ⟨y,H1,I1,ry,q⟩=>eT (ha bL s1 σ H1 _ I1 q) λov s2 ⟨x,H2,I2,rx,a,C,dx,fs,ex,ea,c,n,l,q2⟩=>?_) hs;subst ex;obtain rfl:ov=bJ.ref a:=rx;exact Vr I2 ea c n l ry λs3 I3=>⟨σ,_,I3,q2⟩
def E7:V->V->Hp->VK->Prop:=λx y H Q=>∃i j,x=.int i/\y=.int j/\Q (.int (i+j)) H
theorem znj {args:List Expr}(he:PE X e te)(I:Inv X bL σ H s)
  (h:te σ H λx H1=>∃a C dx fs g,x=.ref a/\H1 a=some (.ins C dx fs)/\pw X.K C/\xT X.K C m g/\fs.lookup m=none /\
   ∀s1,Inv X bL σ H1 s1->cj (b9 X.prog X.w) X.A (mS pos (.ref g) [.ref a] (iD pos (cT args X.env)) (ij pos (eO [] X.env))) Q X.xe s1)
  (ht:dR (.Call (.Attribute e m fK) args [] pos) X.env=(do
   let ov ← dR e X.env
   jN fK.atName
   let(f,first) ← fV [ov] (kz ov m pl)
   mS pos f first (iD pos (cT args X.env)) (ij pos (eO [] X.env)))) :
  cj (b9 X.prog X.w) X.A (dR (.Call (.Attribute e m fK) args [] pos) X.env) Q X.xe s:=by
 refine iq (pl:=pl) (eT (he bL s σ H _ I h) λu s1 ⟨x,H1,I1,rx,a,C,dx,fs,g,ex,ea,c,k,l,q⟩=>?_) ht;subst ex;obtain rfl:u=bJ.ref a:=rx;exact uf I1 ea c k l (q s1 I1)
end
section
variable {A:c8}{c:bJ}{b:Bool}
inductive oT (K:bM)(H:Hp):V->bJ->Prop where
 |non:oT K H .non (.type "NoneType")
 |bl (x:Bool):oT K H (.bl x) (.type "bool")
 |int (i:Int):oT K H (.int i) (.type "int")
 |str (x:Str):oT K H (.str x) (.type "str")
 |flt (x:UInt64):oT K H (.flt x) (.type "float")
 |lst {a:bO} {xs:List V} (e:H a=some (.lst xs)):oT K H (.ref a) (.type "list")
 |frz {a:bO} {o:gF} {xs:List V} (e:H a=some (.frz o (.lst xs))):oT K H (.ref a) (.type "list")
 |tup {a:bO} {xs:List V} (e:H a=some (.tup xs)):oT K H (.ref a) (.type "tuple")
 |dK {a:bO} {dZ:List (ko×V)} (e:H a=some (.dK dZ)):oT K H (.ref a) (.type "dict")
 |dT {a:bO} {dZ:List (List ko×V)} (e:H a=some (.dT dZ)):oT K H (.ref a) (.type "dict")
 |ins {a C dx:bO} {fs:List (Str×V)} (e:H a=some (.ins C dx fs)) (cl:pw K C) (ha:cX K (.ref C) "__class__"=some (some (.builtin "object.__class__")))
   (hn:eL K (.builtin "object.__class__") "__get__"=some (some (.builtin "getset_descriptor.__get__"))) (Ja:qG K (.builtin "object.__class__")=some true)
   (hm:eX K C (.type "object")=some true):oT K H (.ref a) (.ref C)
theorem O8 {x:V}{t:bJ}(I:Inv X bL σ H s)(rx:RelV x u)(ty:oT X.K H x t)(e:gH X.K t c=some b)(h:∀tk,Q (.bool b) { s with toks:=tk }) :
  cj (b9 X.prog X.w) A (call (.builtin "isinstance") [u,c]) Q E s:=by
 cases ty with
 |non=>cases(show u=bJ.none from rx);exact d4 PySem.W.kitx_none I.kIn True.intro e (λz=>nomatch z) h
 |bl y=>cases(show u=bJ.bool y from rx);exact d4 PySem.W.kitx_bool I.kIn True.intro e (λz=>nomatch z) h
 |int i=>obtain⟨t,q⟩:=(show∃t,u=bJ.int i t from rx);cases q;exact d4 PySem.W.kitx_int I.kIn True.intro e (λz=>nomatch z) h
 |str y=>obtain⟨t,q⟩:=(show∃t,u=bJ.str y t from rx);cases q;exact d4 PySem.W.kitx_str I.kIn True.intro e (λz=>nomatch z) h
 |flt y=>obtain⟨t,q⟩:=(show∃t,u=bJ.float y t from rx);cases q;exact d4 PySem.W.kitx_float I.kIn True.intro e (λz=>nomatch z) h
 |@lst a xs ea=>cases(show u=bJ.ref a from rx);obtain⟨_,_,n,_,h1⟩:=(show gj X.prog X.w H s.heap a (.lst xs)from I.hok a _ ea);exact d4 o6 I.kIn ⟨_,h1,rfl⟩ e (λz=>nomatch z) h
 |@frz a ob xs ea=>cases(show u=bJ.ref a from rx);obtain⟨_,_,_,n,_,h1⟩:=(show gj X.prog X.w H s.heap a (.frz ob (.lst xs))from I.hok a _ ea);exact d4 o6 I.kIn ⟨_,h1,rfl⟩ e (λz=>nomatch z) h
 |@tup a xs ea=>cases(show u=bJ.ref a from rx);obtain⟨_,_,_,p⟩:=(show gj X.prog X.w H s.heap a (.tup xs)from I.hok a _ ea);obtain⟨o,h1,h2,_⟩:=p;exact d4 PySem.W.kitx_tuple I.kIn ⟨o,h1,h2⟩ e (λz=>nomatch z) h
 |@dK a dZ ea=>cases(show u=bJ.ref a from rx);obtain⟨_,_,vs,_,p⟩:=(show gj X.prog X.w H s.heap a (.dK dZ)from I.hok a _ ea);obtain⟨o,es,ep,h1,h2,_⟩:=p;exact d4 xP I.kIn ⟨o,h1,h2.1⟩ e (λz=>nomatch z) h
 |@dT a dZ ea=>cases(show u=bJ.ref a from rx);obtain⟨_,_,xs,_,o,es,ep,h1,h2,_⟩:=(show gj X.prog X.w H s.heap a (.dT dZ)from I.hok a _ ea);exact d4 xP I.kIn ⟨o,h1,h2.1⟩ e (λz=>nomatch z) h
 |@ins a C dx fs ea cl ha hn Ja hm=>cases(show u=bJ.ref a from rx);obtain⟨mA,O,_⟩:=Jx I.hok ea;obtain⟨od,J,_⟩:=O.look;exact d4 (PySem.W.kitx_own (cl.get _) cl.hd ha hn Ja hm) I.kIn J e (λz=>nomatch z) h
end
structure fC (k:Nat)(A:c8):Prop where
 hd:A.handled=none
 dp:A.depth+3*k+5<recursionLimit
 un:A.units+16*k+200<jH
 gd:A.guards=some []
theorem fC.mono {k:Nat}{A:c8}(r:fC k A)(h:j<=k):fC j A:=⟨r.hd,by have:=r.dp;omega,by have:=r.un;omega,r.gd⟩
theorem fC.deeper {k:Nat}{A:c8}(r:fC (k+1) A)(env:Env):fC k (A.deeper env) :=
 ⟨r.hd,by have:=r.dp;show A.depth+1+3*k+5<_;omega,by have:=r.un;show A.units+3+16*k+200<_;omega,r.gd⟩
theorem Vs {A:c8}:(A.under (.builtin "type.__call__" ⟨.ref C::us,kw⟩)).depth=A.depth+1:=by first|rfl|simp[c8.under,sx.weight,sx.isCreation,sx.isGuard,sx.isCaller,sx.frames,sx.isFrame,guardIds]
theorem Vt {A:c8}:(A.under (.builtin "type.__call__" ⟨.ref C::us,kw⟩)).units=A.units+1:=by first|rfl|simp[c8.under,sx.cUnits,sx.frames,sx.isFrame]
theorem Vc {A:c8}:(A.under (.builtin "type.__call__" ⟨.ref C::us,kw⟩)).guards=A.guards:=by first|rfl|simp[c8.under,sx.guards,sx.isGuard,guardIds,pushGuards]
theorem fC.make {k:Nat}{A:c8}(r:fC (k+1) A)(C:bO)(us:List bJ)(kw:List (Str×bJ)):fC k (A.under (.builtin "type.__call__" ⟨.ref C::us,kw⟩)) :=
 ⟨r.hd,by have:=r.dp;rw[Vs];omega,by have:=r.un;rw[Vt];omega,by rw[Vc];exact r.gd⟩
theorem fC.depth {k:Nat}{A:c8}(r:fC k A):A.depth<recursionLimit:=by have:=r.dp;omega
theorem fC.units {k:Nat}{A:c8}(r:fC k A):A.units+64<jH:=by have:=r.un;omega
def Fu:TA:=λ_ H Q=>Q [] H
def Ed (ta:TE)(tr:TA):TA:=λσ H Q=>ta σ H λx H1=>tr σ H1 λxs H2=>Q (x::xs) H2
section
variable {t:TA}
theorem xn:PA X [] Fu:=λ_ _ _ _ H Q I h=>Calls.spliced_nil ⟨[],H,I,.nil,h⟩
theorem z9 (ha:PE X e te)(hr:PA X es t)(hs:SE X e es:=by rfl):PA X (e::es) (Ed te t):=by intro pos bL s σ H Q I h;rw[hs];show cj _ _ (spliced ((false,dR e X.env)::iD pos (cT es X.env))) _ _ s;refine Calls.spliced_cons (eT (ha bL s σ H _ I h) λu s1 f7=>?_);obtain⟨x,H1,I1,r1,q1⟩:=f7;exact eT (hr pos bL s1 σ H1 _ I1 q1) λus s2 ⟨xs,H2,I2,r2,q2⟩=>⟨x::xs,H2,I2,.cons r1 r2,q2⟩
def L8 (t:TA):TE:=λσ H Q=>t σ H λxs H1=>xs.length<=sizeLine/\∀p,H1 p=none->Q (.ref p) (upd H1 p (.tup xs))
def L0 (t:TA):TE:=λσ H Q=>t σ H λxs H1=>xs.length<=sizeLine/\∀p,H1 p=none->Q (.ref p) (upd H1 p (.lst xs))
theorem ZU {x1}(h:PA X es t):PE X (.Tuple es x1 pos) (L8 t):=by intro bL s σ H Q I hq;refine wpAny_Tuple_spliced (eT (h pos bL s σ H _ I hq) λus s1 ⟨xs,H1,I1,r,z,q⟩=>⟨by rw[←r.length];exact z,?_⟩);have hf:H1 s1.heap.objs.size=none:=I1.hok.fresh (b7 _);refine⟨.ref s1.heap.objs.size,upd H1 s1.heap.objs.size (.tup xs),I1.laid (t':=s1.toks) (λb u e=>bT _ e) (b7 _) ?_,rfl,q _ hf⟩;exact⟨z,us,r,⟨_,cU _ rfl,rfl,_,rfl⟩⟩
theorem ZV (h:PA X es t):PE X (.List es pos) (L0 t):=by intro bL s σ H Q I hq;refine wpAny_List_spliced (eT (h pos bL s σ H _ I hq) λus s1 ⟨xs,H1,I1,r,z,q⟩=>⟨by rw[←r.length];exact z,?_⟩);have hf:H1 s1.heap.objs.size=none:=I1.hok.fresh (b7 _);refine⟨.ref s1.heap.objs.size,upd H1 s1.heap.objs.size (.lst xs),I1.laid (t':=s1.toks) (λb u e=>bT _ e) (b7 _) ?_,rfl,q _ hf⟩;exact⟨z,us,0,r,cU _ rfl⟩
end
abbrev Sp:=List V->Hp->VK->XK->Prop
abbrev Br:=List Env->Hp->bV->XK->bJ->bV->Prop
structure xS (P:dQ)(w:dB)(K:bM)(mg:Str->Option bJ)(base:cz)(A:c8)(outer:List Env)(s:bV)(H:Hp):Prop where
 frames:A.frames=some outer
 mod:Mod K mg base
 bs:∀b o,base.get? b=some o->s.heap.get? b=some o/\H b=none
 bsz:base.objs.size<=s.heap.objs.size
 funs:s.heap.FunFrames base outer
 frf:∀b∈A8 outer,H b=none
 hok:oS P w H s.heap
 bare:AllBare s.gens
noncomputable def CE (outer:List Env)(P:dQ)(w:dB)(H:Hp)(s:bV)(Q:VK)(u:bJ)(s':bV):Prop :=
 ∃v H',s'.os=s.os/\AllBare s'.gens/\Un (A8 outer) [] H H' s.heap s'.heap/\oS P w H' s'.heap/\RelV v u/\Q v H'
noncomputable def CR (CX:Br)(outer:List Env)(P:dQ)(w:dB)(H:Hp)(s:bV)(Q:VK)(E:XK)(r:Result)(s':bV):Prop :=
 match r with
 |.ok (.ret u)=>CE outer P w H s Q u s'
 |.ok _=>False
 |.error e=>CX outer H s E e s'
structure dD (P:dQ)(w:dB)(K:bM)(mg:Str->Option bJ)(base:cz)(CX:Br)(k:Nat)(f:bO)(fd:b5)(ps:List Str)(sp:Sp):Prop where
 len:∀vs H Q E,sp vs H Q E->vs.length=ps.length
 run:∀(A:c8) (outer:List Env) (s:bV) (H:Hp) (args:Args) (us:List bJ) (vs:List V) (Q:VK) (E:XK),fC k A->xS P w K mg base A outer s H->su s fd args (ps.zip us)->dm vs us->sp vs H Q E ->
  gK (b9 P w) A (.call (.ref f) args) (CR CX outer P w H s Q E) s
theorem xS.make {w:dB}{K:bM}{mg:Str->Option bJ}{base:cz}{A:c8}{outer:List Env}(e:xS P w K mg base A outer s H)(C:bO)(us:List bJ)(kw:List (Str×bJ)) :
  xS P w K mg base (A.under (.builtin "type.__call__" ⟨.ref C::us,kw⟩)) outer s H:=⟨by first|exact e.frames|(simpa[c8.under,sx.envs,sx.isFrame,pushEnvs]using e.frames),e.mod,e.bs,e.bsz,e.funs,e.frf,e.hok,e.bare⟩
theorem Inv.env0 (I:Inv X bL σ H s):xS X.prog X.w X.K X.mg X.base X.A X.stack s H :=
 ⟨I.ok.frames,I.ok.mod,I.bs,dA I.ok.bsz I.sz,I.stack,I.stkFree,I.hok,I.bare⟩
theorem Inv.after {Q:VK}(I:Inv X bL σ H s)(h:CE X.stack X.prog X.w H s Q u s'):EP X bL σ Q u s':=by obtain⟨v,H',os,bare,un,hok,r,q⟩:=h;obtain⟨hh,g,d,t,Oy⟩:=s';obtain rfl:Oy=s.os:=os;exact⟨v,H',I.call (h':=hh) (g':=g) (d':=d) (t':=t) (ch:=[]) un hok bare (λb z=>absurd z (by simp)),r,q⟩
def Ec (sp:Sp)(lT:List V)(E:XK)(t:TA):TE:=λσ H Q=>t σ H λvs H1=>sp (vs++lT) H1 Q E
def Eg (C:bO)(m:Str)(sp:Sp)(lT:List V)(E:XK)(ta:TE)(t:TA):TE:=λσ H Q=>ta σ H λx H1=>∃a dx fs,x=.ref a/\H1 a=some (.ins C dx fs)/\fs.lookup m=none /\
 t σ H1 λvs H2=>sp (x::(vs++lT)) H2 Q E
def HX (C:bO)(sp:Sp)(lT:List V)(E:XK)(t:TA):TE:=λσ H Q=>t σ H λvs H1=>∀x dx,H1 x=none->H1 dx=none->dx≠x ->
 sp (.ref x::(vs++lT)) (upd (upd H1 dx (.own x)) x (.ins C dx [])) (λv H2=>v=.non/\Q (.ref x) H2) E
def fQ (K:bM)(fd:b5)(ps:List Str)(ds:List bJ):Prop :=
 ∀(s:bV) (us:List bJ),K.In s.heap->(us++ds).length=ps.length->su s fd ⟨us,[]⟩ (ps.zip (us++ds))
variable {fd:b5}{ps:List Str}
theorem fQ.all {K:bM}(h:∀us:List bJ,us.length=ps.length->bindArgs fd ⟨us,[]⟩=pure (ps.zip us)):fQ K fd ps []:=λs us _ hl=>by rw[cP]at hl ⊢;exact .of_eq (h us hl)
def nS (CX:Br)(X:Cx)(E:XK):Prop:=∀(bL:List (bO×gF)) (σ:St) (H:Hp) (s:bV) (e:bJ) (s':bV),Inv X bL σ H s->CX X.stack H s E e s'->X.xe e s'
variable {CX:Br}{ds:List bJ}{lT vs:List V}
section
variable {k:Nat}{sp:Sp}{E:XK}{t:TA}
theorem JK {Q:VK}(F:dD X.prog X.w X.K X.mg X.base CX k f fd ps sp)(hr:fC k X.A)(hb:fQ X.K fd ps ds)(hd:dm lT ds)(hx:nS CX X E)
  (I:Inv X bL σ H s) (r:dm vs us) (h:sp (vs++lT) H Q E):cj (b9 X.prog X.w) X.A (call (.ref f) us) (EP X bL σ Q) X.xe s:=by
 have r2:dm (vs++lT) (us++ds):=r.append hd;have hl:(us++ds).length=ps.length:=by rw[←r2.length];exact F.len _ _ _ _ h
 refine wpAny_call (kJ (F.run X.A X.stack s H ⟨us,[]⟩ (us++ds) (vs++lT) Q E hr I.env0 (hb s us I.kIn hl) r2 h) λr s' hq=>?_);cases r with
 |error e=>exact hx bL σ H s e s' I hq
 |ok fl=>
  cases fl with
  |ret u=>exact I.after hq
  |next=>exact False.elim hq
  |brk=>exact False.elim hq
  |cont=>exact False.elim hq
theorem Ql (F:dD X.prog X.w X.K X.mg X.base CX k f fd ps sp)(hr:fC k X.A)(hg:Gl X x)(hm:X.mg x=some (.ref f))(hk:dY X.K (.ref f)=true)(hb:fQ X.K fd ps ds)(hd:dm lT ds)(hx:nS CX X E)
  (ha:PA X (e::es) t) (mn:lS x:=by decide) (he:SE X e es:=by rfl) (jB:pV X pos es:=by rfl) :
  PE X (.Call (.Name x p) (e::es) [] pos) (Ec sp lT E t):=by
 intro bL s σ H Q I h;refine dX (wj I hg hm ?_ mn);refine gP (h₀:=X.base) I.ok.mod.kin hk (eT (ha pos bL s σ H _ I h) λus s1 ⟨vs,H1,I1,r,q⟩=>⟨I1.kIn,?_⟩) he jB;exact JK F hr hb hd hx I1 r q
theorem Yu (he:PE X o ta)(c:pw X.K C)(hm:xT X.K C m f)(F:dD X.prog X.w X.K X.mg X.base CX k f fd ps sp)(hr:fC k X.A)(hb:fQ X.K fd ps ds)(hd:dm lT ds)(hx:nS CX X E)(ha:PA X (e::es) t)
  (k7:SE X e es:=by rfl) (jB:pV X pos es:=by rfl)
  (ht:dR (.Call (.Attribute o m fK) (e::es) [] pos) X.env=(do
   let ov ← dR o X.env
   jN fK.atName
   let(f,first) ← fV [ov] (kz ov m pl)
   mS pos f first (iD pos (cT (e::es) X.env)) (ij pos (eO [] X.env))):=by rfl) :
  PE X (.Call (.Attribute o m fK) (e::es) [] pos) (Eg C m sp lT E ta t):=by
 intro bL s σ H Q I h;refine iq (pl:=pl) (eT (he bL s σ H _ I h) λu s1 ⟨x,H1,I1,rx,a,dx,fs,ex,ea,l,q⟩=>?_) ht;subst ex;obtain rfl:u=bJ.ref a:=rx;refine uf I1 ea c hm l ?_;refine gP (first:=[.ref a]) (h₀:=X.base) I.ok.mod.kin hm.kp (eT (ha pos bL s1 σ H1 _ I1 q) λus s2 ⟨vs,H2,I2,r,q2⟩=>⟨I2.kIn,?_⟩) k7 jB;exact JK (us:=.ref a::us) (vs:=.ref a::vs) F hr hb hd hx I2 (.cons rfl r) q2
theorem WO (he:PE X o ta)(c:pw X.K C)(hm:xT X.K C m f)(F:dD X.prog X.w X.K X.mg X.base CX k f fd ps sp)(hr:fC k X.A)(hb:fQ X.K fd ps ds)(hd:dm lT ds)(hx:nS CX X E)
  (ht:dR (.Call (.Attribute o m fK) [] [] pos) X.env=(do
   let ov ← dR o X.env
   jN fK.atName
   let(f,first) ← fV [ov] (kz ov m pl)
   mS pos f first (iD pos (cT [] X.env)) (ij pos (eO [] X.env))):=by rfl) :
  PE X (.Call (.Attribute o m fK) [] [] pos) (Eg C m sp lT E ta Fu):=by
 intro bL s σ H Q I h;refine iq (pl:=pl) (eT (he bL s σ H _ I h) λu s1 ⟨x,H1,I1,rx,a,dx,fs,ex,ea,l,q⟩=>?_) ht;subst ex;obtain rfl:u=bJ.ref a:=rx;refine uf I1 ea c hm l ?_;exact PySem.W.callWith_K0 (first:=[.ref a]) I1.kIn hm.kp (JK (us:=[.ref a]) (vs:=[.ref a]) F hr hb hd hx I1 (.cons rfl .nil) q)
structure Mk (K:bM)(C f:bO):Prop where
 makes:qF K C=true
 init:cX K (.ref C) "__init__"=some (some (.ref f))
 fn:kW K (.ref f)=true
 kp:dY K (.ref C)=true
theorem WP {Q:VK}(M:Mk X.K C f)(F:dD X.prog X.w X.K X.mg X.base CX k f fd ps sp)(hr:fC (k+1) X.A)(hb:fQ X.K fd ps ds)(hd:dm lT ds)
  (hx:nS CX X E) (I:Inv X bL σ H s) (r:dm vs us)
  (h:∀x dx,H x=none->H dx=none->dx≠x->sp (.ref x::(vs++lT)) (upd (upd H dx (.own x)) x (.ins C dx [])) (λv H2=>v=.non/\Q (.ref x) H2) E) :
  cj (b9 X.prog X.w) X.A (call (.ref C) us) (EP X bL σ Q) X.xe s:=by
 have hq:=h (s.heap.objs.size+1) s.heap.objs.size (I.hok.fresh (mI _)) (I.hok.fresh (b7 _)) (cN (kI _));have I2:=Inv.made (C:=C) I;have r2:dm (V.ref (s.heap.objs.size+1)::(vs++lT)) (bJ.ref (s.heap.objs.size+1)::(us++ds)):=.cons rfl (r.append hd);have hl:(bJ.ref (s.heap.objs.size+1)::us++ds).length=ps.length:=by have e:=r2.length;rw[F.len _ _ _ _ hq]at e;exact e.symm
 refine wpAny_call (PR (f:=f) I.kIn M.makes M.init (beq_iff_eq.mp M.fn) (kJ (F.run _ X.stack _ _ ⟨bJ.ref (s.heap.objs.size+1)::us,[]⟩ (bJ.ref (s.heap.objs.size+1)::(us++ds)) _ _ E (hr.make C us [])
  (I2.env0.make C us []) (hb _ (bJ.ref (s.heap.objs.size+1)::us) I2.kIn hl) r2 hq) λr s' yE=>?_))
 cases r with
 |error e=>exact hx bL σ _ _ e s' I2 yE
 |ok fl=>
  cases fl with
  |ret u=>obtain⟨v,H',I3,rv,ev,q3⟩:=I2.after yE;subst ev;exact⟨rv,⟨V.ref (s.heap.objs.size+1),H',I3,rfl,q3⟩⟩
  |next=>exact False.elim yE
  |brk=>exact False.elim yE
  |cont=>exact False.elim yE
theorem Yv (M:Mk X.K C f)(F:dD X.prog X.w X.K X.mg X.base CX k f fd ps sp)(hr:fC (k+1) X.A)(hg:Gl X x)(hm:X.mg x=some (.ref C))(hb:fQ X.K fd ps ds)(hd:dm lT ds)(hx:nS CX X E)
  (ha:PA X (e::es) t) (mn:lS x:=by decide) (he:SE X e es:=by rfl) (jB:pV X pos es:=by rfl) :
  PE X (.Call (.Name x p) (e::es) [] pos) (HX C sp lT E t):=by
 intro bL s σ H Q I h;refine dX (wj I hg hm ?_ mn);refine gP (h₀:=X.base) I.ok.mod.kin M.kp (eT (ha pos bL s σ H _ I h) λus s1 ⟨vs,H1,I1,r,q⟩=>⟨I1.kIn,?_⟩) he jB;exact WP M F hr hb hd hx I1 r q
end
def PK (X:Cx)(kws:List nG)(t:TA):Prop :=
 ∀(pos:mE) (bL:List (bO×gF)) (s:bV) (σ:St) (H:Hp) (Q:List V->Hp->Prop),Inv X bL σ H s->t σ H Q->cj (b9 X.prog X.w) X.A (evalAll ((ij pos (eO kws X.env)).map (·.2))) (AP X bL σ Q) X.xe s
section
variable {k:Nat}{ks:List Str}{sp:Sp}{E:XK}{Hr:mE}{kws:List nG}{t tk:TA}{nm:Option Str}
theorem ZW:PK X [] Fu:=λ_ _ _ _ H Q I h=>wpAny_evalAll_nil ⟨[],H,I,.nil,h⟩
theorem Yw (ha:PE X e te)(hr:PK X kws t):PK X (⟨nm,e,Hr⟩::kws) (Ed te t):=by intro pos bL s σ H Q I h;show cj _ _ (evalAll ((do let v ← dR e X.env;jN pos;pure v)::(ij pos (eO kws X.env)).map (·.2))) _ _ s;refine wpAny_evalAll_cons (bP (eT (ha bL s σ H _ I h) λu s1 ⟨x,H1,I1,r1,q1⟩=>bP (kn (cy ?_))));exact eT (hr pos bL s1 σ H1 _ I1 q1) λus s2 ⟨xs,H2,I2,r2,q2⟩=>⟨x::xs,H2,I2,.cons r1 r2,q2⟩
variable {g:List bJ->List bJ->List bJ}{gV:List V->List V->List V}
end
structure iN (N P:List Str)(sc:pO):Prop where
 kind:sc.kind=.function
 co:sc.isCoroutine=false
 gen:sc.isGenerator=false
 nd:N.Nodup
 pre:N.take P.length=P
 par:∀x∈P,sc.names.lookup x=some .local\/sc.names.lookup x=some .cell
 nofree:∀y∈sc.names,y.2≠.free
variable {kindOf:Str->Option cO}
theorem O9 {kindOf:Str->Option cO}{x:Str}:∀{binds:List (Str×bJ)} {m:Str->Option bJ},(∀v,(x,v)∉binds)->Aq kindOf binds m x=m x
 |[],_,_=>rfl
 |(n,v)::r,m,h=>by
  unfold Aq;rw[O9 λw hw=>h w (bK _ hw)];split
  ·have:x≠n:=by rintro rfl;exact h v bH
   simp[this]
  ·rfl
theorem O1 {kindOf:Str->Option cO}{x:Str}:∀{binds:List (Str×bJ)} {m:Str->Option bJ},(∀v,(x,v)∉binds)->Ap kindOf binds m x=m x
 |[],_,_=>rfl
 |(n,v)::r,m,h=>by
  unfold Ap;rw[O1 λw hw=>h w (bK _ hw)];split
  ·rfl
  ·have:x≠n:=by rintro rfl;exact h v bH
   simp[this]
theorem O2 {kindOf:Str->Option cO}{x:Str}{v:bJ}:∀{P:List Str} {vs:List bJ} {i:Nat} {m:Str->Option bJ},P.Nodup->P[i]?=some x->vs[i]?=some v->kindOf x=some .local ->
  Aq kindOf (P.zip vs) m x=some v
 |[],_,_,_,_,h,_,_=>by simp at h
 |_::_,[],_,_,_,_,h,_=>by simp at h
 |p::P,w::vs,0,m,nd,h1,h2,hk=>by simp at h1 h2;subst h1;subst h2;show Aq kindOf ((p,w)::P.zip vs) m p=_;unfold Aq;rw[O9 λv hv=>(cW.mp nd).1 (kY hv).1,if_pos hk];simp
 |p::P,w::vs,i+1,m,nd,h1,h2,hk=>by show Aq kindOf ((p,w)::P.zip vs) m x=_;unfold Aq;exact O2 (i:=i) (cW.mp nd).2 (by simpa using h1) (by simpa using h2) hk
theorem O3 {kindOf:Str->Option cO}{x:Str}{v:bJ}:∀{P:List Str} {vs:List bJ} {i:Nat} {m:Str->Option bJ},P.Nodup->P[i]?=some x->vs[i]?=some v->kindOf x≠some .local ->
  Ap kindOf (P.zip vs) m x=some v
 |[],_,_,_,_,h,_,_=>by simp at h
 |_::_,[],_,_,_,_,h,_=>by simp at h
 |p::P,w::vs,0,m,nd,h1,h2,hk=>by simp at h1 h2;subst h1;subst h2;show Ap kindOf ((p,w)::P.zip vs) m p=_;unfold Ap;rw[O1 λv hv=>(cW.mp nd).1 (kY hv).1,if_neg hk];simp
 |p::P,w::vs,i+1,m,nd,h1,h2,hk=>by show Ap kindOf ((p,w)::P.zip vs) m x=_;unfold Ap;exact O3 (i:=i) (cW.mp nd).2 (by simpa using h1) (by simpa using h2) hk
noncomputable def start (N:List Str)(vs:List V):St:=vs.map some++bW (N.length-vs.length) none
noncomputable def pE (CX:Br)(P:dQ)(w:dB)(K:bM)(mg:Str->Option bJ)(base:cz)(N:List Str)(qual:Str)(scope:pO)(f:bO)(cd:bJ)(A:c8)(outer:List Env)(s:bV)(H:Hp)(E:XK):Cx where
 prog:=P
 w:=w
 K:=K
 mg:=mg
 base:=base
 A:=A.deeper (envOfC qual scope s.heap.objs.size f cd)
 N:=N
 s₀:=s
 H₀:=H
 env:=envOfC qual scope s.heap.objs.size f cd
 outer:=outer
 stack:=envOfC qual scope s.heap.objs.size f cd::outer
 ex:=[]
 calm:=true
 fn:=λ_=>true
 pn:=[]
 xe:=λe s'=>cj (b9 P w) (A.deeper (envOfC qual scope s.heap.objs.size f cd)) (leaving (envOfC qual scope s.heap.objs.size f cd) e) (λ_ s''=>CX outer H s E e s'') (λe' s''=>CX outer H s E e' s'') s'
theorem PU {sc:pO}(h:sc.names.lookup x=some .cell):∃c,(cellsFrom n sc.names []).lookup x=some c:=by have q:=mT sc.names n [] (.inl h);exact sM.mp q
variable {qual:Str}{scope:pO}
theorem VQ {w:dB}{K:bM}{mg:Str->Option bJ}{base:cz}{N:List Str}{cd:bJ}{A:c8}{outer:List Env}{s1:bV}{E:XK}
  (S:iN N ps scope) (hd:A.handled=none) (e0:xS P w K mg base A outer s H) (hl:vs.length=ps.length) (r:dm vs us)
  (x:InCallC s s.heap.objs.size (Aq (envOfC qual scope s.heap.objs.size f cd).kindOf (ps.zip us) λ_=>none) (cellsFrom (s.heap.objs.size+1) scope.names []) (Ap (envOfC qual scope s.heap.objs.size f cd).kindOf (ps.zip us) λ_=>none) s1) :
  Inv (pE CX P w K mg base N qual scope f cd A outer s H E) [] (start N vs) H s1:=by
 have jB:ps.length<=N.length:=by have:=congrArg jT S.pre;rw[m7]at this;omega
 obtain⟨h1,tk,rfl,hk⟩:=x.done;have HA:∀b:bO,b∉(pE CX P w K mg base N qual scope f cd A outer s H E).ex:=λb z=>absurd (show b∈([]:List bO)from z) (by simp);refine⟨⟨e0.mod,S.kind,rfl,rfl,b7 _,λy z c h1 h2=>?_,λy hy=>?_,λy c _ h=>?_,λ_=>hd,c8.frames_deeper e0.frames,.inr ⟨rfl,rfl⟩,λb z=>absurd z (HA b),e0.bs,e0.bsz,λb _ _=>HA b,λb z=>absurd z (HA b),e0.funs,e0.frf⟩,
  rfl,e0.bare,Un.kept hk,⟨_,x.toInCall.ns,λi y v h1 h2 h3=>?_⟩,λy c h=>⟨_,x.cell y c h⟩,e0.hok.fresh (b7 _),λy c h=>?_,λp hp=>absurd (show p∈([]:List (bO×gF))from hp) (by simp),e0.hok.kept hk,?_⟩
 ·exact name_of_addr x.apart (PySem.mem_of_lookup h1) (PySem.mem_of_lookup h2)
 ·have hy:scope.names.lookup y=some .cell\/scope.names.lookup y=some .free:=hy;rcases hy with hy|hy
  ·exact PU hy
  ·exact absurd rfl (S.nofree _ (PySem.mem_of_lookup hy))
 ·exact qA (x.above y c (PySem.mem_of_lookup h))
 ·have hi:i<vs.length:=by
   unfold start at h2;by_cases hi:i<vs.length
   ·exact hi
   ·rw[f9 (by simpa using hi)]at h2;rw[m5]at h2
    split at h2<;>cases h2
  have ha:vs[i]?=some v:=by
   unfold start at h2;rw[dE (by simpa using hi),cu]at h2;cases e:vs[i]? with
   |none=>rw[e]at h2;cases h2
   |some a=>rw[e]at h2;cases h2;rfl
  obtain⟨u,hu,rv⟩:=r.get ha;have hp:ps[i]?=some y:=by rw[←S.pre,List.getElem?_take_of_lt (by omega)];exact h1
  have Ot:ps.Nodup:=by rw[←S.pre];exact S.nd.sublist (List.take_sublist _ _)
  refine⟨u,rv,?_⟩;rcases S.par y (fk hp)with k|k
  ·exact .inl ⟨k,O2 Ot hp hu k⟩
  ·obtain⟨c,e⟩:=PU (n:=s.heap.objs.size+1) k;refine .inr ⟨.inl k,c,e,?_⟩;have q:=x.cell y c e;rw[O3 Ot hp hu (by show scope.names.lookup y≠_;rw[k];decide)]at q;exact q
 ·exact e0.hok.fresh (qA (x.above y c (PySem.mem_of_lookup h)))
 ·unfold start;show _=N.length;rw[cn,bQ,gc];omega
theorem RC {w:dB}{K:bM}{mg:Str->Option bJ}{base:cz}{k:Nat}{params:Arguments}{dV kV doc pm jS ct oc:bJ}{an od:Option bO}
    {CL:Array (Option bJ)} {N:List Str} {sp:Sp} (lk:K.lookup f=some ⟨oc,od,.func (mU name qual params body scope dV kV doc pm an jS ct),CL⟩) (mP:rC K jS qual=true) (S:iN N ps scope)
    (len:∀vs H Q E,sp vs H Q E->vs.length=ps.length)
    (BD:∀(A:c8) (outer:List Env) (s:bV) (H:Hp) (vs:List V) (Q:VK) (E:XK),fC k (A.deeper (envOfC qual scope s.heap.objs.size f jS))->sp vs H Q E ->
      ∃t,uD (pE CX P w K mg base N qual scope f jS A outer s H E) body t/\t { nx:=λ_ H'=>Q .non H',rt:=Q } (start N vs) H) :
    dD P w K mg base CX (k+1) f (mU name qual params body scope dV kV doc pm an jS ct) ps sp:=by
  refine⟨len,λA outer s H args us vs Q E hr e0 hb r D1=>?_⟩;have hl:=len _ _ _ _ D1;have KX:K.In s.heap:=e0.mod.kin.keeps λb o e=>(e0.bs b o e).1;have lim:s.heap.NoLimit:=e0.mod.nolimit.keeps λb o e=>(e0.bs b o e).1;have G7:∀y∈ps.zip us,scope.names.lookup y.1=some .local\/(scope.names.lookup y.1=some .cell/\((cellsFrom (s.heap.objs.size+1) scope.names []).lookup y.1).isSome=true):=λ⟨n,v⟩ hy=>by
    rcases S.par n (kY hy).1 with q|q
    · exact .inl q
    · exact .inr ⟨q,mT _ _ _ (.inl q)⟩
  refine codeAny_call_function hr.depth (KX _ _ lk) rfl S.co S.gen rfl (PySem.W.codeRec_of KX mP) (hb _ _ _ _ ?_);refine wpAny_newFunctionEnv_cells S.kind G7 λenv he s1 x=>?_;subst he;refine⟨lim.keeps x.toInCall.keep,codeAny_func ?_⟩;obtain⟨t,ht,hq⟩:=BD A outer s H vs Q E (hr.deeper _) D1;have I:Inv (pE CX P w K mg base N qual scope f jS A outer s H E) [] (start N vs) H s1:=VQ S hr.hd e0 hl r x;refine eo (ht [] s1 (start N vs) H _ I hq) (λfl s' hs=>?_) λe s' hs=>hs;have fin:∀{σ':St} {H':Hp} {v:V} {u:bJ},Inv (pE CX P w K mg base N qual scope f jS A outer s H E) [] σ' H' s'->RelV v u->Q v H'->CE outer P w H s Q u s' :=
    λ{σ' H' v u} J rv q=>⟨v,H',J.os,J.bare,J.base,J.hok,rv,q⟩
  cases fl with
  |ret u=>obtain⟨v,σ',H',J,rv,q⟩:=hs;exact fin J rv q
  |next=>obtain⟨σ',H',J,q⟩:=hs;exact fin (v:=V.non) (u:=bJ.none) J rfl q
  |brk=>obtain⟨_,_,_,q⟩:=hs;exact False.elim q
  |cont=>obtain⟨_,_,_,q⟩:=hs;exact False.elim q
variable {T:String}
section
variable {t:TA}{id:String}{r:List V->Hp->VK->Prop}
def LV (r:List V->Hp->VK->Prop)(t:TA):TE:=λσ H Q=>t σ H λvs H1=>r vs H1 Q
theorem Mp (hc:iA X (.builtin id) r)(hg:Gl X x)(hm:X.mg x=none)(hv:dw x=some (.builtin id))(ha:PA X (e::es) t)(hn:x≠"__name__":=by decide)(mn:lS x:=by decide)
  (he:SE X e es:=by rfl) (jB:pV X pos es:=by rfl):PE X (.Call (.Name x p) (e::es) [] pos) (LV r t):=by
 intro bL s σ H Q I h;refine dX (wm I hg hm hv ?_ hn mn);exact oz (eT (ha pos bL s σ H _ I h) λus s1 ⟨vs,H1,I1,r1,q1⟩=>hc bL s1 σ H1 vs us Q I1 r1 q1) he jB
theorem O4 (hc:iA X (.type T) r)(hg:Gl X x)(hm:X.mg x=none)(hv:dw x=some (.type T))(ha:PA X (e::es) t)(hn:x≠"__name__":=by decide)(mn:lS x:=by decide)
  (he:SE X e es:=by rfl) (jB:pV X pos es:=by rfl):PE X (.Call (.Name x p) (e::es) [] pos) (LV r t):=by
 intro bL s σ H Q I h;refine dX (wm I hg hm hv ?_ hn mn);exact dG (eT (ha pos bL s σ H _ I h) λus s1 ⟨vs,H1,I1,r1,q1⟩=>hc bL s1 σ H1 vs us Q I1 r1 q1) he jB
end
end L2
namespace HT
open PySem PyProof.Rows
open PySem.SeqAt
open PySem.AutoSeq1 (wpAny_loadPart')
open PySem.MeetsSeq PySem.MeetsSeq2 PySem.MeetsSeq3
section
variable {prog:dQ}{w:dB}{A:c8}{E:bJ->bV->Prop}{s:bV}
theorem cat_tup {t b:bO}{vs ws:List bJ}{Q:bJ->bV->Prop}(ht:IsTup s.heap t vs.toArray)(hb:IsTup s.heap b ws.toArray)(hv:vs≠[])
    (h1:ws=[]->Q (.ref t) s) (h2:ws≠[]->Q (.ref s.heap.objs.size) { s with heap:=s.heap.push { cls:=.type "tuple",data:=.seq (vs++ws).toArray } })
    (hsz:vs.length+ws.length<=sizeLine):cj (b9 prog w) A (gC .Add (.ref t) (.ref b)) Q E s:=by
  obtain⟨⟨cls,dd,data,sl⟩,ho,hc,n,hd⟩:=id ht;obtain⟨⟨J5,IA,data2,Fh⟩,IW,CF,n2,hd2⟩:=id hb;simp only at hc hd CF hd2;subst hc hd CF hd2;have e:vs.toArray++ws.toArray=(vs++ws).toArray:=by simp
  by_cases hw:ws=[]
  · exact AW ⟨_,ho,rfl⟩ ⟨_,IW,rfl⟩ noFill_tuple_add seq_tuple_add PySem.F.slot_tuple_add PySem.F.entry_tuple_add (PySem.F.args_tuple_add_2 _ _)
      (tuple_addW1 t b vs.toArray ws.toArray n n2 dd IA sl Fh (by simpa using hv) (by simp[hw])) ⟨ho,IW,h1 hw⟩
  · refine AW ⟨_,ho,rfl⟩ ⟨_,IW,rfl⟩ noFill_tuple_add seq_tuple_add PySem.F.slot_tuple_add PySem.F.entry_tuple_add (PySem.F.args_tuple_add_2 _ _)
      (tuple_addW2 t b vs.toArray ws.toArray n n2 dd IA sl Fh (by simpa using hv) (by simpa using hw) (by rw[cv,cv];exact hsz)) ⟨ho,IW,?_⟩
    rw[e];exact h2 hw
noncomputable def sIx (n d:Nat):Option Int->Nat
 |none=>d
 |some v=>if v<0 then(v+(n:Int)).toNat else min v.toNat n
theorem sIx_none (n d:Nat):sIx n d none=d:=rfl
theorem sIx_nat (n d k:Nat):sIx n d (some (k:Int))=min k n:=by show(if(k:Int)<0 then((k:Int)+(n:Int)).toNat else min (k:Int).toNat n)=min k n;rw[if_neg (by omega),mG]
end
end HT
namespace L2
open PySem PySem.Spec PyProof.Rows
abbrev TO:=St->Hp->(Option Int->Hp->Prop)->Prop
def PO (X:Cx)(e:Option Expr)(t:TO):Prop :=
 ∀(bL:List (bO×gF)) (s:bV) (σ:St) (H:Hp) (Q:Option Int->Hp->Prop),Inv X bL σ H s->t σ H Q ->
  cj (b9 X.prog X.w) X.A (evalPart e X.env) (λu s'=>∃o H',Inv X bL σ H' s'/\IsPart u o/\Q o H') X.xe s
def Dv:TO:=λ_ H Q=>Q none H
def Ia (t:TE):TO:=λσ H Q=>t σ H λx H1=>∃i,x=.int i/\Q (some i) H1
theorem Vu {ns:List Int}:∀{us:List bJ},dm (ns.map V.int) us->IntsAre us ns:=by
 induction ns with
 |nil=>intro us r;rw[pT]at r;cases r;exact .nil
 |cons n ns ih=>
  intro us r;rw[ck]at r;cases r with
  |cons r1 r2=>obtain⟨t,e⟩:=r1;subst e;exact .cons n t (ih r2)
variable {X:Cx}{e:Expr}{p2 pos:mE}{te:TE}{us:List bJ}{xs:List V}
section
variable {lo hi:Option Expr}{tl th:TO}
theorem Yx:PO X none Dv:=by intro bL s σ H Q I h;rw[evalPart_none];exact cy ⟨none,H,I,.none,h⟩
theorem Yy (h:PE X e te):PO X (some e) (Ia te):=by intro bL s σ H Q I hw;rw[evalPart_some];refine eT (h bL s σ H _ I hw) λu s1 f7=>?_;obtain⟨x,H1,I1,r1,q1⟩:=f7;obtain⟨i,rfl,q⟩:=q1;obtain⟨t,rfl⟩:=r1;exact⟨some i,H1,I1,.int i t,q⟩
def NB (X:Cx)(r:V->Option Int->Option Int->Hp->VK->Prop):Prop :=
 ∀(bL:List (bO×gF)) (s:bV) (σ:St) (H:Hp) (x:V) (v vl vu:bJ) (lo hi:Option Int) (sl:bO) (Q:VK),Inv X bL σ H s->RelV x v->s.heap.IsSliceOf sl vl vu .none->IsPart vl lo->IsPart vu hi->r x lo hi H Q ->
  ∃T id,rB (.type T) "__getitem__"=pure (some (.builtin id))/\s.TypeIs v T/\cj (b9 X.prog X.w) X.A (sA v (.ref sl)) (EP X bL σ Q) X.xe s
def Ux (r:V->Option Int->Option Int->Hp->VK->Prop)(te:TE)(tl th:TO):TE:=λσ H Q=>te σ H λx H1=>tl σ H1 λl H2=>th σ H2 λu H3=>r x l u H3 Q
theorem WQ {r:V->Option Int->Option Int->Hp->VK->Prop}(hr:NB X r)(he:PE X e te)(hl:PO X lo tl)(hu:PO X hi th):PE X (.Subscript e (.Slice lo hi none p2) pos) (Ux r te tl th):=by intro bL s σ H Q I h;refine Subscript_ (eT (he bL s σ H _ I h) λv s1 f7=>?_);obtain⟨x,H1,I1,r1,q1⟩:=f7;refine wpAny_Slice (eT (hl bL s1 σ H1 _ I1 q1) λvl s2 ⟨l,H2,I2,pl,q2⟩=>eT (hu bL s2 σ H2 _ I2 q2) λvu s3 f7=>?_);obtain⟨u,H3,I3,pu,q3⟩:=f7;rw[evalPart_none];refine cy ?_;have I4:Inv X bL σ H3 { s3 with heap:=s3.heap.push { cls:=.type "slice",data:=.fields #[vl,vu,.none] } }:=I3.kept (t':=s3.toks) λb ob q=>bT _ q;obtain⟨T,id,hT,ht,hg⟩:=hr bL { s3 with heap:=s3.heap.push { cls:=.type "slice",data:=.fields #[vl,vu,.none] } } σ H3 x v vl vu l u s3.heap.objs.size Q I4 r1 (cz.IsSliceOf.new ..) pl pu q3;show cj (b9 X.prog X.w) X.A (subscriptTail e (.Slice lo hi none p2) v (.ref s3.heap.objs.size)) (EP X bL σ Q) X.xe { s3 with heap:=s3.heap.push { cls:=.type "slice",data:=.fields #[vl,vu,.none] } };exact tail_any (ops:=[.ref s3.heap.objs.size,v]) ht hT hg (by with_unfolding_all rfl)
noncomputable def Aw (xs:List V)(lo hi:Option Int):List V:=(xs.drop (HT.sIx xs.length 0 lo)).take (HT.sIx xs.length xs.length hi-HT.sIx xs.length 0 lo)
theorem Vd (xs:List V)(lo hi:Option Int):(Aw xs lo hi).length<=xs.length:=by unfold Aw;rw[m7,m6];omega
noncomputable def D8 (K:bM):R2:=λx y H Q=>∃a b xs ys,x=.ref a/\y=.ref b/\pA K H a xs/\pA K H b ys/\xs≠[]/\xs.length+ys.length<=sizeLine /\
 (ys=[]->Q (.ref a) H)/\(ys≠[]->∀p,H p=none->Q (.ref p) (upd H p (.tup (xs++ys))))
theorem dm.nil_iff (r:dm xs us):us=[]↔xs=[]:=by
 cases r with
 |nil=>simp
 |cons _ _=>simp
theorem Yz:kN X (gC .Add) (D8 X.K):=by intro bL s σ H x y v u Q I rx ry h;obtain⟨a,b,xs,ys,rfl,rfl,ha,hb,hx,hz,q1,q2⟩:=h;cases rx;cases ry;obtain⟨dJ,r1,p1,_⟩:=I.tuple ha;obtain⟨Dd,r2,p2,_⟩:=I.tuple hb;refine HT.cat_tup p1 p2 (λz=>hx (r1.nil_iff.mp z)) (λz=>⟨.ref a,H,I,rfl,q1 (r2.nil_iff.mp z)⟩) (λz=>?_) (by rw[←r1.length,←r2.length];exact hz);refine⟨.ref s.heap.objs.size,_,I.laid (t':=s.toks) (o:=.tup (xs++ys)) (λb ob q=>bT _ q) (b7 _) ?_,rfl,q2 (λw=>z (r2.nil_iff.mpr w)) _ (I.hok.fresh (b7 _))⟩;exact⟨by rw[cn];exact hz,_,r1.append r2,IsTup.new _ _⟩
end
noncomputable def ixN (n:Nat)(i:Int):Option Nat:=if 0<=i then(if i<n then some i.toNat else none)else if -(n:Int)<=i then some (i+n).toNat else none
variable {α:Type}
noncomputable def atI (xs:List α)(i:Int):Option α:=(ixN xs.length i).bind λj=>xs[j]?
variable {j n:Nat}
theorem MH {i:Int}(h:ixN n i=some j):seqIndex? i n=some j/\j<n/\-(n:Int)<=i/\i<n:=by
 unfold ixN at h;by_cases h0:0<=i
 ·rw[if_pos h0]at h;by_cases h1:i<n
  ·rw[if_pos h1]at h;have e:i.toNat=j:=Option.some.inj h;exact⟨by rw[uB h0 h1,e],by omega,by omega,h1⟩
  ·rw[if_neg h1]at h;cases h
 ·rw[if_neg h0]at h;by_cases h1:-(n:Int)<=i
  ·rw[if_pos h1]at h;have e:(i+n).toNat=j:=Option.some.inj h;exact⟨by rw[sC (by omega) h1,e],by omega,h1,by omega⟩
  ·rw[if_neg h1]at h;cases h
theorem Jt {xs:List α}{i:Int}{v:α}(h:atI xs i=some v):∃j,seqIndex? i xs.length=some j/\xs[j]?=some v/\j<xs.length/\-(xs.length:Int)<=i/\i<xs.length:=by
 unfold atI at h;cases e:ixN xs.length i with
 |none=>rw[e]at h;cases h
 |some j=>rw[e]at h;obtain⟨h1,h2,h3,h4⟩:=MH e;exact⟨j,h1,h,h2,h3,h4⟩
theorem yg {xs:List α}{v:α}(h:xs[j]?=some v):atI xs (j:Int)=some v:=by
 have hj:j<xs.length:=(bZ.mp h).1;have e:ixN xs.length (j:Int)=some j:=by unfold ixN;rw[if_pos (by omega),if_pos (by omega)];simp
 unfold atI;rw[e];exact h
def pz (b:Expr):Prop:=∀o i,uC b false o i=operate [o,i] (sA o i)
def Cy (X:Cx)(r:R2):Prop :=
 ∀(value slice:Expr) (bL:List (bO×gF)) (s:bV) (σ:St) (H:Hp) (x y:V) (v u:bJ) (Q:VK),Inv X bL σ H s->RelV x v->RelV y u->r x y H Q ->
  uC slice false v u=operate [v,u] (sA v u)->cj (b9 X.prog X.w) X.A (subscriptTail value slice v u) (EP X bL σ Q) X.xe s
def NA (X:Cx)(id:String)(r:V->List V->Hp->VK->Prop):Prop :=
 ∀(bL:List (bO×gF)) (s:bV) (σ:St) (H:Hp) (x:V) (xs:List V) (v:bJ) (us:List bJ) (Q:VK),Inv X bL σ H s->RelV x v->dm xs us->r x xs H Q ->
  cj (b9 X.prog X.w) X.A (call (.builtin id) (v::us)) (EP X bL σ Q) X.xe s
variable {H:Hp}{T:String}{fK:mE}{es:List Expr}{dJ:List bJ}{name:Str}{o:Expr}{bL:List (bO×gF)}{r:R2}{s:bV}{ta tb to:TE}{u:bJ}{y:V}{ys:List V}{σ:St}
section
variable {a b:Expr}
theorem Cy.or {r':R2}(h:Cy X r)(h':Cy X r'):Cy X (λx y H Q=>r x y H Q\/r' x y H Q):=by
 intro value slice bL s σ H x y v u Q I rx ry q hs;rcases q with q|q
 ·exact h value slice bL s σ H x y v u Q I rx ry q hs
 ·exact h' value slice bL s σ H x y v u Q I rx ry q hs
theorem RF (hr:Cy X r)(ha:PE X a ta)(hb:PE X b tb)(hs:pz b):PE X (.Subscript a b pos) (HZ r ta tb):=by intro bL s σ H Q I h;exact Subscript_ (Ex ha hb I h λv u s2 x y H2 I2 rx ry q=>hr a b bL s2 σ H2 x y v u Q I2 rx ry q (hs _ _))
noncomputable def HH (K:bM):R2:=λx y H Q=>∃p xs i v,x=.ref p/\y=.int i/\jU K H p xs/\atI xs i=some v/\Q v H
noncomputable def HJ (K:bM):R2:=λx y H Q=>∃p xs i v,x=.ref p/\y=.int i/\pA K H p xs/\atI xs i=some v/\Q v H
noncomputable def HI:R2:=λx y H Q=>∃z i c,x=.str z/\y=.int i/\z.length<=sizeLine/\atI z.cps.toList i=some c/\Q (.str ⟨#[c]⟩) H
theorem Qm:Cy X (HH X.K):=by
 intro value slice bL s σ H x y v u Q I rx ry h hs;obtain⟨p,xs,i,z,rfl,rfl,hq,he,q⟩:=h;cases rx;obtain⟨t,rfl⟩:=ry;obtain⟨dJ,r,pl,hz⟩:=I.list hq;obtain⟨j,h1,h2,h3,h4,h5⟩:=Jt he;obtain⟨w,ew,qZ⟩:=r.get h2;have hl:=r.length;have hn:=oW;have fin:EP X bL σ Q w s:=⟨z,H,I,qZ,q⟩;by_cases h0:0<=i
 ·have hj:i.toNat=j:=by rw[uB h0 h5]at h1;exact Option.some.inj h1
  exact item_listR pl.isList h0 (by omega) (by rw[hj];simpa using ew) fin hs
 ·have hj:(i+(dJ.toArray.size:Int)).toNat=j:=by rw[sC (by omega) h4]at h1;rw[cv,←hl];exact Option.some.inj h1
  exact subscriptTail_builtinR (x:=w) pl.isList.typeIs slot_list_getitem.lookup
   (wpAny_getItem_list_neg (Q:=λr s'=>r=w/\EP X bL σ Q r s') pl.isList (by omega) (by rw[cv]<;>omega) (by omega) (by rw[hj];simpa using ew) ⟨rfl,fin⟩) hs
theorem zrb:Cy X (HJ X.K):=by
 intro value slice bL s σ H x y v u Q I rx ry h hs;obtain⟨p,xs,i,z,rfl,rfl,hq,he,q⟩:=h;cases rx;obtain⟨t,rfl⟩:=ry;obtain⟨dJ,r,pl,hz⟩:=I.tuple hq;obtain⟨j,h1,h2,h3,h4,h5⟩:=Jt he;obtain⟨w,ew,qZ⟩:=r.get h2;have hl:=r.length;have hn:=oW;have fin:EP X bL σ Q w s:=⟨z,H,I,qZ,q⟩;exact subscriptTail_builtinR (x:=w) pl.typeIs slot_tuple_getitem.lookup
  (getItem_tuple (j:=j) (Q:=λr s'=>r=w/\EP X bL σ Q r s') pl (by omega) (by omega) (by rw[cv,←hl];exact h1) (by simpa using ew) ⟨rfl,fin⟩) hs
theorem zrc:Cy X HI:=by
 intro value slice bL s σ H x y v u Q I rx ry h hs;obtain⟨z,i,c,rfl,rfl,hz,he,q⟩:=h;obtain⟨t,rfl⟩:=rx;obtain⟨t',rfl⟩:=ry;obtain⟨j,h1,h2,h3,h4,h5⟩:=Jt he;have hl:z.cps.toList.length=z.length:=by simp[Str.length]
 rw[hl]at h1 h4 h5;have hn:=oW;exact tail_any (typeIs_str s z t) slot_str_getitem.lookup (getItem_str (c:=c) (by have e1:decide (i < -(2 ^ 63:Int))=false:=decide_eq_false (by omega);have e2:decide (i >= 2 ^ 63)=false:=decide_eq_false (by omega);rw[e1,e2,DC]) (by rw[h1];simpa using h2) ⟨.str ⟨#[c]⟩,H,I.tok _,⟨_,rfl⟩,q⟩) hs
noncomputable def OE (K:bM):R2:=λx y H Q=>HH K x y H Q\/HJ K x y H Q\/HI x y H Q
theorem M6:Cy X (OE X.K):=Qm.or (zrb.or zrc)
theorem Vv (dJ:List bJ)(n j:Nat)(u:bJ):gF.mapSeq (·.setIfInBounds j u) { cls:=.type "list",data:=.seq dJ.toArray n } = { cls:=.type "list",data:=.seq (dJ.set j u).toArray n }:=by simp[gF.mapSeq]
theorem Inv.lst {p:bO}(I:Inv X bL σ H s)(h:H p=some (.lst xs)) :
    ∃(dJ:List bJ) (n:Nat),dm xs dJ/\s.heap.get? p=some { cls:=.type "list",data:=.seq dJ.toArray n }/\xs.length<=sizeLine:=by
  obtain⟨z,dJ,n,r,e⟩:=I.hok p _ h;exact⟨dJ,n,r,e,z⟩
theorem Inv.lstUpd {p:bO}{its':List bJ}{n':Nat}{f:gF->gF}(I:Inv X bL σ H s)(h:H p=some (.lst xs))
    (ho:s.heap.get? p=some { cls:=.type "list",data:=.seq dJ.toArray n }) (hf:f { cls:=.type "list",data:=.seq dJ.toArray n } = { cls:=.type "list",data:=.seq its'.toArray n' }) (r:dm ys its') (hz:ys.length<=sizeLine) (t:Nat) :
    Inv X bL σ (upd H p (.lst ys)) { s with heap:=s.heap.update p f,toks:=t }:=by
  have e:(s.heap.update p f).get? p=some { cls:=.type "list",data:=.seq its'.toArray n' }:=by rw[el f ho (by rw[hf]<;>rfl),hf]
  refine I.write (x:=p) (e:=p) (by rw[h];trivial) (.inl rfl) (λb u hb q=>(cY _ _ (Ne.symm hb)).trans q) ⟨_,e⟩ ?_;exact⟨hz,its',n',r,e⟩
noncomputable def HM:V->V->V->Hp->(Hp->Prop)->Prop:=λo i v H Q=>∃p xs k j,o=.ref p/\i=.int k/\H p=some (.lst xs)/\ixN xs.length k=some j/\Q (upd H p (.lst (xs.set j v)))
theorem Mi:Ep X HM:=by
 intro bL s σ H o i v ov iv u Q I ro ri rv h;obtain⟨p,xs,k,j,rfl,rfl,hp,hj,q⟩:=h;cases ro;obtain⟨t,rfl⟩:=ri;obtain⟨dJ,n,r,ho,hz⟩:=I.lst hp;obtain⟨h1,h2,h3,h4⟩:=MH hj;have hl:=r.length;have hn:=oW;have I':Inv X bL σ (upd H p (.lst (xs.set j v))) { s with heap:=s.heap.update p (gF.mapSeq (·.setIfInBounds j u)) } :=
  I.lstUpd hp ho (Vv dJ n j u) (r.set rv j) (by rw[Cr];exact hz) s.toks
 by_cases h0:0<=k
 ·have hk:k.toNat=j:=by rw[uB h0 h4]at h1;exact Option.some.inj h1
  exact PySem.W.ki_setAt ho h0 (by omega) (by rw[cv,←hl];exact h4) (by rw[hk];exact⟨_,I',q⟩)
 ·have hk:(k+(dJ.toArray.size:Int)).toNat=j:=by rw[sC (by omega) h3]at h1;rw[cv,←hl];exact Option.some.inj h1
  exact PySem.W.ki_setBack ho (by omega) (by rw[cv,←hl];exact h3) (by omega) (by rw[hk];exact⟨_,I',q⟩)
theorem UQ (lo hi:Option Int)(n:Nat):(lM lo hi none n).1=((HT.sIx n 0 lo:Nat):Int)/\(lM lo hi none n).2.1=((HT.sIx n n hi:Nat):Int)/\(lM lo hi none n).2.2=1:=by
 refine⟨?_,?_,rfl⟩
 ·cases lo with
  |none=>simp[lM,HT.sIx]
  |some i=>
   simp only[lM,HT.sIx,An,show(1:Int) > 0 by decide,if_true];by_cases h:i<0
   ·simp only[h,if_true]<;>omega
   ·simp only[h,if_false]<;>omega
 ·cases hi with
  |none=>simp[lM,HT.sIx]
  |some i=>
   simp only[lM,HT.sIx,An,show(1:Int) > 0 by decide,if_true];by_cases h:i<0
   ·simp only[h,if_true]<;>omega
   ·simp only[h,if_false]<;>omega
theorem UI (dJ:List bJ)(lo hi:Option Int):slicePick dJ.toArray lo hi none=((dJ.drop (HT.sIx dJ.length 0 lo)).take (HT.sIx dJ.length dJ.length hi-HT.sIx dJ.length 0 lo)).toArray:=by obtain⟨h1,h2,h3⟩:=UQ lo hi dJ.toArray.size;unfold slicePick;rw[h1,h2,h3];simp only[sliceRange_one,pick_run,cv]<;>rfl
noncomputable def LN (K:bM):V->Option Int->Option Int->Hp->VK->Prop:=λx lo hi H Q=>∃a xs,x=.ref a/\jU K H a xs/\∀p,H p=none->Q (.ref p) (upd H p (.lst (Aw xs lo hi)))
theorem YA:NB X (LN X.K):=by intro bL s σ H x v vl vu lo hi sl Q I rx hs pl pu h;obtain⟨a,xs,rfl,hx,q⟩:=h;cases rx;obtain⟨dJ,r,ht,hz⟩:=I.list hx;have eP:=r.length;refine⟨"list",_,slot_list_getitem.lookup,ht.isList.typeIs,?_⟩;refine wpAny_getItem_list_slice ht.isList hs pl pu .none (by simp) ?_ (by rw[cv]<;>omega);rw[UI,←eP];refine⟨.ref s.heap.objs.size,_,I.laid (t':=s.toks) (o:=.lst (Aw xs lo hi)) (λb ob q=>bT _ q) (b7 _) ?_,rfl,q _ (I.hok.fresh (b7 _))⟩;exact⟨dA (Vd xs lo hi) hz,_,0,(r.drop (HT.sIx xs.length 0 lo)).take (HT.sIx xs.length xs.length hi-HT.sIx xs.length 0 lo),cU _ rfl⟩
noncomputable def mL:V->Bool
 |.non=>true
 |.bl _=>true
 |.int _=>true
 |.str _=>true
 |_=>false
noncomputable def Ax:V->V->Bool
 |.non,.non=>true
 |.bl a,.bl b=>a==b
 |.bl a,.int b=>(if a then 1 else 0)==b
 |.int a,.bl b=>a==(if b then 1 else 0)
 |.int a,.int b=>a==b
 |.str a,.str b=>a==b
 |_,_=>false
theorem zrd {A:c8}{x:V}{v:bJ}(ry:RelV y u)(rx:RelV x v)(fy:mL y=true)(fx:mL x=true):SeqAt.EqAt A s u v (Ax y x):=by
 cases y with
 |non=>
  cases ry;cases x with
  |non=>cases rx;exact SeqAt.EqAt.same _
  |bl b=>cases rx;exact SeqAt.EqAt.none_bool b
  |int b=>obtain⟨t,rfl⟩:=rx;exact SeqAt.EqAt.none_int b t
  |str b=>obtain⟨t,rfl⟩:=rx;exact SeqAt.EqAt.none_str b t
  |_=>exact absurd (show false=true from fx) cB
 |bl a=>
  cases ry;cases x with
  |non=>cases rx;exact SeqAt.EqAt.bool_none a
  |bl b=>cases rx;exact SeqAt.EqAt.bool_bool a b
  |int b=>obtain⟨t,rfl⟩:=rx;exact SeqAt.EqAt.bool_int a b t
  |str b=>obtain⟨t,rfl⟩:=rx;exact SeqAt.EqAt.bool_str a b t
  |_=>exact absurd (show false=true from fx) cB
 |int a=>
  obtain⟨t',rfl⟩:=ry;cases x with
  |non=>cases rx;exact SeqAt.EqAt.int_none a t'
  |bl b=>cases rx;exact SeqAt.EqAt.int_bool a t' b
  |int b=>obtain⟨t,rfl⟩:=rx;exact SeqAt.EqAt.int_int a t' b t
  |str b=>obtain⟨t,rfl⟩:=rx;exact SeqAt.EqAt.int_str a t' b t
  |_=>exact absurd (show false=true from fx) cB
 |str a=>
  obtain⟨t',rfl⟩:=ry;cases x with
  |non=>cases rx;exact SeqAt.EqAt.str_none a t'
  |bl b=>cases rx;exact SeqAt.EqAt.str_bool a t' b
  |int b=>obtain⟨t,rfl⟩:=rx;exact SeqAt.EqAt.str_int a t' b t
  |str b=>obtain⟨t,rfl⟩:=rx;exact SeqAt.EqAt.str_str a t' b t
  |_=>exact absurd (show false=true from fx) cB
 |_=>exact absurd (show false=true from fy) cB
noncomputable def A7 (x:V)(u:bJ):Bool:=match u with
 |.none=>Ax .non x
 |.bool b=>Ax (.bl b) x
 |.int i _=>Ax (.int i) x
 |.str z _=>Ax (.str z) x
 |_=>false
theorem M7 {x:V}(r:RelV y u)(f:mL y=true):A7 x u=Ax y x:=by
 cases y with
 |non=>cases r;rfl
 |bl b=>cases r;rfl
 |int i=>obtain⟨t,rfl⟩:=r;rfl
 |str z=>obtain⟨t,rfl⟩:=r;rfl
 |_=>exact absurd (show false=true from f) cB
theorem MI {x:V}:∀{xs:List V} {us:List bJ},dm xs us->xs.all mL=true->us.any (A7 x)=xs.any λy=>Ax y x
 |_,_,.nil,_=>rfl
 |y::xs,u::us,.cons r t,f=>by rw[fX,c7]at f;rw[iz,iz,M7 r f.1,MI t f.2]
theorem jc {A:c8}{s:bV}{x:V}{v:bJ}(rx:RelV x v)(fx:mL x=true):∀{xs:List V} {us:List bJ},dm xs us->xs.all mL=true->∀u∈us,SeqAt.EqAt A s u v (A7 x u)
 |_,_,.nil,_=>λu hu=>by cases hu
 |y::xs,u::us,.cons r t,f=>λu' hu=>by
  rw[fX,c7]at f;rcases bY.mp hu with rfl|hu
  ·rw[M7 r f.1];exact zrd r rx f.1 fx
  ·exact jc rx fx t f.2 u' hu
noncomputable def Je (x:V)(xs:List V):Bool:=xs.any λy=>Ax y x
noncomputable def OC (K:bM)(neg:Bool):R2:=λx y H Q=>∃p xs,y=.ref p/\(jU K H p xs\/pA K H p xs)/\mL x=true/\xs.all mL=true/\Q (.bl (if neg then !Je x xs else Je x xs)) H
theorem ux:kN X (d5 .NotIn) (OC X.K true):=by
 intro bL s σ H x y v u Q I rx ry h;obtain⟨p,xs,rfl,hq,fx,fs,q⟩:=h;cases ry;rcases hq with hq|hq
 ·obtain⟨dJ,r,pl,hz⟩:=I.list hq;refine SeqAt.notIn_listAt (A7 x) pl.isList (λw hw=>jc rx fx r fs w (by simpa using hw)) ⟨.bl _,H,I,rfl,?_⟩;rw[show dJ.toArray.any (A7 x)=dJ.any (A7 x)by simp,MI r fs];exact q
 ·obtain⟨dJ,r,pl,hz⟩:=I.tuple hq;refine SeqAt.notIn_tupleAt (A7 x) pl (λw hw=>jc rx fx r fs w (by simpa using hw)) ⟨.bl _,H,I,rfl,?_⟩;rw[show dJ.toArray.any (A7 x)=dJ.any (A7 x)by simp,MI r fs];exact q
theorem UR:iA X (.builtin "len") (λxs H Q=>∃p ys,xs=[.ref p]/\(jU X.K H p ys\/pA X.K H p ys)/\Q (.int ys.length) H):=by
 intro bL s σ H xs us Q I r h;obtain⟨p,ys,rfl,hq,q⟩:=h;obtain⟨u,rfl,rx⟩:=sg r;cases rx;have hn:=oW;rcases hq with hq|hq
 ·obtain⟨dJ,r',pl,hz⟩:=I.list hq;have eP:=r'.length;exact Calls.call_len_list pl.isList (by simp only[cv]<;>omega) ⟨.int ys.length,H,I.tok _,⟨s.toks+1,by rw[cv,eP]⟩,q⟩
 ·obtain⟨dJ,r',pl,hz⟩:=I.tuple hq;have eP:=r'.length;exact len_tuple pl (by simp only[cv]<;>omega) ⟨.int ys.length,H,I.tok _,⟨s.toks+1,by rw[cv,eP]⟩,q⟩
theorem US:iA X (.builtin "len") (λxs H Q=>∃z,xs=[.str z]/\z.length<=sizeLine/\Q (.int z.length) H):=by intro bL s σ H xs us Q I r h;obtain⟨z,rfl,hz,q⟩:=h;obtain⟨u,rfl,t,rfl⟩:=sg r;have hn:=oW;exact len_str (by omega) ⟨.int z.length,H,I.tok _,⟨_,rfl⟩,q⟩
theorem iA.or {f:bJ}{r r':List V->Hp->VK->Prop}(h:iA X f r)(h':iA X f r'):iA X f (λxs H Q=>r xs H Q\/r' xs H Q):=by
 intro bL s σ H xs us Q I rs q;rcases q with q|q
 ·exact h bL s σ H xs us Q I rs q
 ·exact h' bL s σ H xs us Q I rs q
theorem xk:iA X (.type "list") (λxs H Q=>∃p ys,xs=[.ref p]/\(jU X.K H p ys\/pA X.K H p ys)/\∀l,H l=none->Q (.ref l) (upd H l (.lst ys))):=by
  intro bL s σ H xs us Q I r h;obtain⟨p,ys,rfl,hq,q⟩:=h;obtain⟨u,rfl,rx⟩:=sg r;cases rx;have fin:∀(dJ:List bJ),dm ys dJ->ys.length<=sizeLine->∀(h':cz) (c':Nat),(∀b o',s.heap.get? b=some o'->h'.get? b=some o') ->
      h'.get? s.heap.objs.size=some { cls:=.type "list",dict:=none,data:=.seq dJ.toArray c',slots:=#[] }->EP X bL σ Q (.ref s.heap.objs.size) { s with heap:=h' }:=λdJ r' hz h' c' kp e=>
    ⟨.ref s.heap.objs.size,_,I.laid (t':=s.toks) kp (b7 _) (show gj X.prog X.w _ h' _ (.lst ys)from⟨hz,dJ,c',r',e⟩),rfl,q _ (I.hok.fresh (b7 _))⟩
  rcases hq with hq|hq
  · obtain⟨dJ,r',pl,hz⟩:=I.list hq;have eP:=r'.length;obtain⟨o,ho,hc,n,hd⟩:=pl.isList;exact call_list_seq p (.inl rfl) ho hc hd (λh' c' kp e=>fin dJ r' hz h' c' kp e) (by simp only[cv]<;>omega)
  · obtain⟨dJ,r',pl,hz⟩:=I.tuple hq;have eP:=r'.length;obtain⟨o,ho,hc,n,hd⟩:=pl;exact call_list_seq p (.inr rfl) ho hc hd (λh' c' kp e=>fin dJ r' hz h' c' kp e) (by simp only[cv]<;>omega)
def ON (K:bM)(T:String)(x:V)(H:Hp):Prop:=match x with
 |.str _=>T = "str"
 |.int _=>T = "int"
 |.ref p=>(T = "list"/\∃xs,jU K H p xs)\/(T = "tuple"/\∃o,K.lookup p=some o/\o.cls=.type "tuple"/\o.dict=none) \/
   (T = "dict"/\((∃dZ,H p=some (.dK dZ))\/∃dZ,H p=some (.dT dZ)))\/(T = "set"/\∃S n,H p=some (.set S n))
 |_=>False
theorem zre {x:V}{v:bJ}(I:Inv X bL σ H s)(r:RelV x v)(ty:ON X.K T x H) :
  s.TypeIs v T/\∀a,v=.ref a->∃ob,s.heap.get? a=some ob/\ob.dict=none:=by
 cases x with
 |str z=>obtain⟨t,rfl⟩:=r;cases(show T = "str" from ty);exact⟨typeIs_str s z t,λ_ e=>nomatch e⟩
 |int i=>obtain⟨t,rfl⟩:=r;cases(show T = "int" from ty);exact⟨DH s i t,λ_ e=>nomatch e⟩
 |ref p=>
  cases r;rcases ty with⟨rfl,xs,hq⟩|⟨rfl,o,hk,hc,hd⟩|⟨rfl,hk⟩|⟨rfl,S,n,hk⟩
  ·obtain⟨dJ,_,pl,_⟩:=I.list hq;refine⟨pl.isList.typeIs,λa e=>?_⟩;cases e;obtain⟨o,n,e,c,hd,_⟩:=pl;exact⟨o,e,hd⟩
  ·refine⟨⟨o,I.kIn p o hk,hc⟩,λa e=>?_⟩;cases e;exact⟨o,I.kIn _ o hk,hd⟩
  ·have z:∃o,s.heap.get? p=some o/\o.ExactDict:=by
    rcases hk with⟨dZ,hk⟩|⟨dZ,hk⟩
    ·obtain⟨_,_,_,_,o,_,_,e,ex,_⟩:=I.hok p _ hk;exact⟨o,e,ex⟩
    ·obtain⟨_,_,_,_,o,_,_,e,ex,_⟩:=I.hok p _ hk;exact⟨o,e,ex⟩
   obtain⟨o,e,ex⟩:=z;refine⟨⟨o,e,ex.1⟩,λa e2=>?_⟩;cases e2;exact⟨o,e,ex.2.1⟩
  ·obtain⟨o,_,_,_,e,ex,_⟩:=I.hok p _ hk;refine⟨⟨o,e,ex.1⟩,λa e2=>?_⟩;cases e2;exact⟨o,e,ex.2.1⟩
 |_=>exact False.elim ty
def Uu (K:bM)(T:String)(r:V->List V->Hp->VK->Prop)(to:TE)(t:TA):TE:=λσ H Q=>to σ H λx H1=>ON K T x H1/\t σ H1 λxs H2=>r x xs H2 Q
variable {t:TA}{fW:mE}{id:String}{r:V->List V->Hp->VK->Prop}
theorem JR (pa:PlainAttrs T)(slot:Slot T name id)(TB:typeOf (.builtin id)=pure (.type "method_descriptor"))(hm:NA X id r)(ho:PE X o to)(ha:PA X (e::es) t)
  (rQ:DJ X o name:=by rfl)
  (yA:Ip X fW (e::es):=by rfl)
  (rR:(fK.endLine==fW.line)=true:=by rfl) (hs:SE X e es:=by rfl) (oV:pV X fW es:=by rfl) :
  PE X (.Call (.Attribute o name fK) (e::es) [] fW) (Uu X.K T r to t):=by
 intro bL s σ H Q I h;refine wpAny_Call_method_late rQ yA rR rfl (eT (ho bL s σ H _ I h) λv s1 f7=>?_);obtain⟨x,H1,I1,r1,ty,q1⟩:=f7;obtain⟨h1,h2⟩:=zre I1 r1 ty;refine⟨T,id,pa,slot,TB,h1,h2,?_⟩;have hA:=ha fW bL s1 σ H1 _ I1 q1;rw[hs]at hA ⊢;refine Calls.callWith_builtin (by show(false || (iD fW (cT es X.env)).any (·.1))=false;rw[oV]<;>rfl) (Calls.evalArgs_plain ?_);exact eT hA λus s2 ⟨vs,H2,I2,r2,q2⟩=>hm bL s2 σ H2 x vs v us Q I2 r1 r2 q2
end
def Nz (X:Cx)(id:String)(r:V->List V->Hp->VK->Prop):Prop :=
 ∀(bL:List (bO×gF)) (s:bV) (σ:St) (H:Hp) (x:V) (xs:List V) (v:bJ) (us:List bJ) (Q:VK),Inv X bL σ H s->RelV x v->dm xs us->r x xs H Q ->
  cj (b9 X.prog X.w) X.A (call (.builtin id) (v::us)) (EP X bL σ Q) X.xe s
theorem dm.one:∀{x:V} {us:List bJ},dm [x] us->∃u,us=[u]/\RelV x u
 |_,_,.cons r .nil=>⟨_,rfl,r⟩
theorem dm.eraseIdx:∀{xs:List V} {us:List bJ} (i:Nat),dm xs us->dm (xs.eraseIdx i) (us.eraseIdx i)
 |_,_,_,.nil=>.nil
 |_,_,0,.cons _ t=>t
 |_,_,i+1,.cons r t=>.cons r (dm.eraseIdx i t)
theorem dm.rep {xs:List V}{us:List bJ}(h:dm xs us):∀k:Nat,dm (bW k xs).flatten (bW k us).flatten
 |0=>.nil
 |k+1=>by rw[dI,dI,gD,gD];exact dm.append h (dm.rep h k)
theorem O5 {α:Type}:∀(l:List α) (i:Nat),(l.eraseIdx i).length<=l.length
 |[],_=>b7 _
 |_::_,0=>mI _
 |_::r,i+1=>Nat.succ_le_succ (O5 r i)
theorem foldl_rep (dJ:List bJ):∀(k:Nat) (iw:List bJ),
  Aj (λx1 x2=>x1++x2) iw.toArray (bW k dJ.toArray)=(iw++(bW k dJ).flatten).toArray
 |0,iw=>by simp
 |k+1,iw=>by
  have e:iw.toArray++dJ.toArray=(iw++dJ).toArray:=by simp
  have e2:(iw++dJ)++(bW k dJ).flatten=iw++(bW (k+1) dJ).flatten:=by rw[dI,gD,fL]
  rw[←e2,←foldl_rep dJ k (iw++dJ),←e,dI,dS]
variable {b:bO}{t':Nat}
section
variable {l:bO}{zs:List V}
theorem Inv.lset {its':List bJ}{f:Array bJ->Array bJ}(I:Inv X bL σ H s)(hH:H l=some (.lst xs))
    (e:s.heap.get? l=some { cls:=.type "list",data:=.seq dJ.toArray n }) (hf:f dJ.toArray=its'.toArray) (hv:dm ys its') (hz:ys.length<=sizeLine) :
    Inv X bL σ (upd H l (.lst ys)) { s with heap:=s.heap.update l (gF.mapSeq f),toks:=t' }:=by
  have q:=PySem.IsL.update e f;rw[hf]at q;refine I.write (x:=l) (e:=l) (by rw[hH];exact trivial) (.inl rfl) (λb' u hb hu=>(cY s.heap (gF.mapSeq f) (Ne.symm hb)).trans hu) ⟨_,q⟩ ?_;exact⟨hz,its',_,hv,q⟩
theorem Inv.lnew (I:Inv X bL σ H s)(hv:dm ys dJ)(hz:ys.length<=sizeLine) :
    Inv X bL σ (upd H s.heap.objs.size (.lst ys)) { s with heap:=s.heap.push { cls:=.type "list",data:=.seq dJ.toArray },toks:=t' } :=
  I.laid (λ_ _ q=>bT _ q) (b7 _) ⟨hz,dJ,0,hv,cU _ rfl⟩
theorem Inv.fresh (I:Inv X bL σ H s):H s.heap.objs.size=none:=I.hok.fresh (b7 _)
theorem Inv.lstM (I:Inv X bL σ H s)(hH:H l=some (.lst xs)):xs.length<=sizeLine/\∃(dJ:List bJ) (n:Nat),dm xs dJ/\xs.length=dJ.length/\s.heap.get? l=some { cls:=.type "list",data:=.seq dJ.toArray n }:=by obtain⟨z,dJ,n,r,e⟩:=I.hok l _ hH;exact⟨z,dJ,n,r,r.length,e⟩
theorem B3 (h:n<=sizeLine):er.List.listTooLong n=false:=by unfold er.List.listTooLong;exact decide_eq_false (by omega)
end
def Dk:V->List V->Hp->VK->Prop:=λx vs H Q=>∃l xs y,x=.ref l/\vs=[y]/\H l=some (.lst xs)/\xs.length<sizeLine/\Q .non (upd H l (.lst (xs++[y])))
theorem jv:Nz X "list.append" Dk:=by intro bL s σ H x vs v us Q I rx rv h;obtain⟨l,xs,y,rfl,rfl,hH,hz,q⟩:=h;cases rx;obtain⟨u,rfl,ru⟩:=rv.one;obtain⟨z,dJ,n,r,hl,e⟩:=I.lstM hH;refine rA F.slot_list_append ⟨_,e,rfl⟩ F.entry_list_append (F.args_list_append_2 _ _) (PySem.list_append l dJ.toArray n u (by rw[cv];omega)) ⟨e,?_⟩;refine⟨.non,_,I.lset (its':=dJ++[u]) hH e (by simp) (r.append (.cons ru .nil)) ?_,rfl,q⟩;rw[cn,cV];omega
def Fb:V->List V->Hp->VK->Prop:=λx vs H Q=>∃l xs i k y,x=.ref l/\vs=[.int i]/\H l=some (.lst xs)/\-(2 ^ 63)<=i/\i<2 ^ 63/\seqIndex? i xs.length=some k/\xs[k]?=some y/\Q y (upd H l (.lst (xs.eraseIdx k)))
theorem WR:Nz X "list.pop" Fb:=by
 intro bL s σ H x vs v us Q I rx rv h;obtain⟨l,xs,i,k,y,rfl,rfl,hH,h1,h2,hk,hy,q⟩:=h;cases rx;obtain⟨u,rfl,ru⟩:=rv.one;obtain⟨t,rfl⟩:=ru;obtain⟨z,dJ,n,r,hl,e⟩:=I.lstM hH;obtain⟨w,hw,qZ⟩:=r.get hy;refine rA F.slot_list_pop ⟨_,e,rfl⟩ F.entry_list_pop (F.args_list_pop_2 _ _)
  (MeetsSeq.list_pop_at l dJ.toArray n i t k w (fitsIndex_both h1 h2) (by rw[cv,←hl];exact hk) (by rw[←Array.getElem?_toList];exact hw) (by rw[cv];omega)) ⟨e,?_⟩
 refine⟨y,_,I.lset (its':=dJ.eraseIdx k) hH e ?_ (r.eraseIdx k) ?_,qZ,q⟩
 ·show dJ.toArray.eraseIdxIfInBounds k=(dJ.eraseIdx k).toArray;rw[List.eraseIdxIfInBounds_toArray]
 ·have:=O5 xs k;omega
theorem YB (xs:List α)(k:Nat):(bW k xs).flatten.length=k*xs.length:=by
 induction k with
 |zero=>simp
 |succ k ih=>rw[dI,gD,cn,ih,Nat.succ_mul,Nat.add_comm]
variable {E:bJ->bV->Prop}
end L2
namespace Att
open PySem PySem.W PySem.Calls PyProof.Rows
theorem jw {P:Params}{h:cz}:∀(ns:List Int) (vs:List bJ),WellAll P h vs (ns.map WData.int)->IntsAre vs ns:=by
 intro ns;induction ns with
 |nil=>intro vs w;rw[pT]at w;cases w;exact .nil
 |cons n ns ih=>
  intro vs w;rw[ck]at w;cases w with
  |cons a b=>cases a;exact .cons _ _ (ih _ b)
theorem VR {l:OpenLaw}{n:Nat}(hn:l.most=some n){P:Params}{h:cz}{args:List WData}{vals:List bJ}
    (uJ:l.row.toRowW.claim.pre args=true) (EU:WellAll P h vals args) :
    ∃a vs ns,vals=[bJ.ref a]/\args=[WData.list (ns.map WData.int)]/\h.get? a=some { cls:=.type "list",data:=.seq vs.toArray }/\IntsAre vs ns/\ns.length<=n:=by
  have Tu:WShape.hasAll [] args [.list .int]=true:=(pre_splitW uJ).1;have hc:l.pre.holds [] { args:=args }=true:=(pre_splitW uJ).2;obtain⟨d,r,rfl,h1,h2⟩:=hasAllW_cons Tu;obtain rfl:=hasAllW_nil h2;obtain⟨xs,rfl,h3⟩:=hasW_list h1;obtain⟨ns,rfl⟩:=items_int h3;have eP:ns.length<=n:=by
    unfold OpenLaw.pre at hc;have h4:(WTm.not (.lt (.lit (.int (n:Int))) (.len (.arg 0)))).holds [] { args:=[.list (ns.map .int)] }=true:=by have h4:=(holds_andW hc).1;rw[hn]at h4;exact h4
    have h5:=condW_of h4 (w_not (w_lt w_lit (w_len_list (w_arg rfl))));rw[bQ]at h5;refine Nat.le_of_not_lt λq=>?_;have q':(n:Int)<((ns.length:Nat):Int):=by omega
    first
      |(rw[decide_eq_true q']at h5;exact absurd h5 (by decide))
      |(simp at h5;omega)
  cases EU with
  |cons w1 w2=>
    cases w2;cases w1 with
    |list ho vN=>exact⟨_,_,ns,rfl,rfl,ho,jw ns _ vN,eP⟩
theorem VS (l:OpenLaw)(args:List WData):l.row.toRowW.claim.post args (.bool true) args=true :=
  postW_of (r:=l.row.toRowW) (X:=(true==true))
    (show WShape.has [] (.bool true) .bool=true by first|rfl|decide|simp[WShape.has,WShape.arms,WShape.armsAll])
    (show(WTm.eq .res (.lit (.bool true))).value [] { args:=args,res:=some (.bool true),after:=args }=some (.bool (true==true))from w_eq_bool (w_res rfl) w_lit) rfl
theorem attach_call {l:OpenLaw}{n:Nat}{q:dQ}{loose:List Str}{XP:(Str->Option bJ)->cz->Prop}{YP:dB->cz->Prop}{d:DefRec}
    (hn:l.most=some n) (G0:d.params.defaults=[])
    (call:∀(w:dB) (s₀ s₁:bV) (mg mb:Str->Option bJ) (fa:bO) (o:gF) (pm cd doc:bJ) (a:bO) (vs:List bJ) (ns:List Int),
      Ground q loose [] XP w s₀ mg mb s₁.heap->YP w s₁.heap ->
      s₁.heap.get? fa=some o->o.data=.func (docDef d.name d.params d.body d.scope pm cd doc)->s₁.heap.CodeRec cd d.name->mg d.name=some (.ref fa) ->
      s₁.heap.get? a=some { cls:=.type "list",data:=.seq vs.toArray }->IntsAre vs ns->ns.length<=n->s₁.gens = #[] ->
      gK (b9 l.prog w) sy (.call (.ref fa) ⟨[.ref a],[]⟩) (λr s'=>r=.ok (.ret (.bool true))/\OldK s₁.heap s'.heap/\s'.os=s₁.os/\AllBare s'.gens) s₁) :
    WalkO q loose XP YP l.row.toRowW d [] (λf vs=>PySem.call f vs):=by
  intro w s₀ s₁ mg mb G Y fa o pm cd doc dV kV ho hd mP hD hmg hg args vals as uJ Te hrd EU IS;obtain rfl:dV=.none:=Dflts.none hD G0;obtain rfl:kV=.none:=Dflts.noKw hD;obtain⟨a,vs,ns,rfl,rfl,ES,BK,eP⟩:=VR hn uJ EU;refine enter_call (kJ (call w s₀ s₁ mg mb fa o pm cd doc a vs ns G Y ho (fd_plain hd) mP hmg ES BK eP hg) λr s' hq=>?_);obtain⟨rfl,h2,h3,h4⟩:=hq;exact⟨.inl ⟨.bool true,.bool true,[],rfl,λ_=>rfl,.bool true,VS l _,λ_=>⟨mH.nil,λ_ hm=>(nomatch hm)⟩⟩,h2,h3,h4⟩
end Att
namespace L2
open PySem PySem.Spec PyProof.Rows
theorem O6:∀{vs:List bJ} {ns:List Int},IntsAre vs ns->dm (ns.map V.int) vs
 |_,_,.nil=>.nil
 |_,_,.cons n t h=>.cons ⟨t,rfl⟩ (O6 h)
def En (H:Hp):Prop:=∀b,H b=none\/∃o xs,H b=some (.frz o (.lst xs))
variable {CX:Br}{P:dQ}{a:bO}{fd:b5}{x:Str}
theorem WS {w:dB}{K:bM}{mg mb:Str->Option bJ}{k:Nat}{fa:bO}{sp:Sp}{s₁:bV}{vs:List bJ}{ns:List Int}
    (KX:K.In s₁.heap) (kG:s₁.heap.Ns eu mg) (hb:s₁.heap.Ns DF mb) (IM:∀x:Str,x≠"__name__"->mb x=dw x) (Lb:s₁.heap.NoLimit) (hg:s₁.gens = #[])
    (ha:s₁.heap.get? a=some { cls:=.type "list",data:=.seq vs.toArray }) (hi:IntsAre vs ns) (hl:ns.length<=sizeLine) (hr:fC k sy)
    (F:∀base:cz,K.In base->base.Ns eu mg->dD P w K mg base CX k fa fd [x] sp) (GX:∀(s:bV) (u:bJ),su s fd ⟨[u],[]⟩ [(x,u)])
    (D1:∀H:Hp,En H->jU K H a (ns.map V.int)->sp [.ref a] H (λv _=>v=.bl true) λ_ _ _=>False)
    (Ku:∀H e s',CX [] H s₁ (λ_ _ _=>False) e s'->False) :
    gK (b9 P w) sy (.call (.ref fa) ⟨[.ref a],[]⟩) (λr s'=>r=.ok (.ret (.bool true))/\OldK s₁.heap s'.heap/\s'.os=s₁.os/\AllBare s'.gens) s₁:=by
  have rv:=O6 hi;have LC:=hi.length;have core:∀H:Hp,En H->jU K H a (ns.map V.int)->oS P w H s₁.heap->(∀b,H b≠none->b=a)->(H a≠none->K.lookup a=none) ->
      gK (b9 P w) sy (.call (.ref fa) ⟨[.ref a],[]⟩) (λr s'=>r=.ok (.ret (.bool true))/\OldK s₁.heap s'.heap/\s'.os=s₁.os/\AllBare s'.gens) s₁:=by
    intro H hO hS hok hA hK;have zK:∀{b:bO} {o:gF},s₁.heap.get? b=some o->H b=none->(uH s₁.heap H).get? b=some o:=λe n=>WI e n;have HA:∀{b:bO} {o:gF} {es:Array DictEntry} {ep:Nat},s₁.heap.get? b=some o->o.data=.dict es ep->H b=none:=λ{b o es ep} e d=>by
      cases q:H b with
      |none=>rfl
      |some u=>have e':b=a:=hA b (by rw[q];simp);subst e';rw[ha]at e;cases e;have d':oI.seq vs.toArray _=oI.dict es ep:=d;cases d'
    have Ji:∀{b:bO} {m:Str->Option bJ},s₁.heap.Ns b m->(uH s₁.heap H).Ns b m:=λ{b m} ⟨o,es,ep,e,d,r⟩=>⟨o,es,ep,zK e (HA e d),d,r⟩;have NU:K.In (uH s₁.heap H):=λb o e=>zK (KX b o e) (by
      cases q:H b with
      |none=>rfl
      |some u=>have e':b=a:=hA b (by rw[q];simp);subst e';rw[hK (by rw[q];simp)]at e;cases e)
    have hM:Mod K mg (uH s₁.heap H):=⟨NU,Ji kG,⟨mb,Ji hb,IM⟩,let⟨mc,h1,h2⟩:=Lb;⟨mc,Ji h1,h2⟩⟩;have e0:xS P w K mg (uH s₁.heap H) sy [] s₁ H:=⟨rfl,hM,λb o e=>Ya e,wU (Vm _ _),trivial,λb hb=>absurd (show b∈([]:List bO)from hb) (by simp),hok,.of_eq hg⟩;refine kJ ((F _ NU (Ji kG)).run sy [] s₁ H ⟨[.ref a],[]⟩ [.ref a] [.ref a] _ _ hr e0 (GX s₁ (.ref a)) (.cons rfl .nil) (D1 H hO hS)) λr s' h=>?_;cases r with
    |error e=>exact(Ku H e s' h).elim
    |ok fl=>
      cases fl with
      |next=>exact False.elim h
      |brk=>exact False.elim h
      |cont=>exact False.elim h
      |ret u=>
        obtain⟨v,H',os,bare,un,Lh,r',q⟩:=h;have q':v=.bl true:=q;subst q';obtain rfl:u=bJ.bool true:=r';refine⟨rfl,OldK.of_keep λb o e=>?_,os,bare⟩;cases q:H b with
        |none=>exact un.keep b o e q (by intro z;exact absurd (show b∈([]:List bO)from z) (by simp)) (by simp)
        |some u=>
          rcases hO b with z|⟨ob,xs,z⟩
          · rw[q]at z;cases z
          · have z2:=un.frzs b ob _ z;obtain⟨e1,_⟩:=hok b _ z;obtain⟨e2,_⟩:=Lh b _ z2;rw[e]at e1;cases e1;exact e2
  cases hk:K.lookup a with
  |some o=>have e:=KX a o hk;rw[ha]at e;cases e;refine core (λ_=>none) (λ_=>.inl rfl) (.inr ⟨_,vs.toArray,_,hk,rfl,rfl,rfl,by rw[cv,LC];exact hl,by simpa using rv⟩) (λb u z=>by have z':(none:Option HO)=some u:=z;cases z') (λb z=>absurd rfl z) λz=>absurd rfl z
  |none=>
    refine core (λb=>if b=a then some (.frz { cls:=.type "list",data:=.seq vs.toArray } (.lst (ns.map V.int)))else none) (λb=>?_) (.inl (.inr ⟨{ cls:=.type "list",data:=.seq vs.toArray },if_pos rfl⟩)) (λb u z=>?_) (λb z=>?_) λ_=>hk
    · by_cases hb:b=a
      · exact .inr ⟨_,_,if_pos hb⟩
      · exact .inl (if_neg hb)
    · by_cases hb:b=a
      · have z':=(if_pos hb).symm.trans z;cases z';subst hb;exact⟨ha,by rw[bQ];exact hl,vs,_,rv,ha⟩
      · have z':=(if_neg hb).symm.trans z;cases z'
    · by_cases hb:b=a
      · exact hb
      · exact absurd (if_neg hb) z
variable {n:Nat}
theorem walk_of {l:qE}{k:Nat}{q:dQ}{loose:List Str}{XP:(Str->Option bJ)->cz->Prop}{YP:dB->cz->Prop}{d:DefRec}{K:Params->bM}{CX:dB->Br}{sp:dB->Sp}
  (hn:l.most=some n) (yC:n<=sizeLine) (G0:d.params.defaults=[]) (hr:fC k sy)
  (hY:∀(w:dB) (h:cz),YP w h->(K w.params).In h)
  (F:∀(w:dB) (mg:Str->Option bJ) (fa:bO) (h:cz),(K w.params).In h->h.Ns eu mg->mg d.name=some (.ref fa) ->
   ∃fd:b5,(∀(s:bV) (u:bJ),su s fd ⟨[u],[]⟩ [(x,u)]) /\
    ∀base:cz,(K w.params).In base->base.Ns eu mg->dD l.prog w (K w.params) mg base (CX w) k fa fd [x] (sp w))
  (D1:∀(w:dB) (H:Hp) (a:bO) (ns:List Int),ns.length<=n->En H->jU (K w.params) H a (ns.map V.int)->sp w [.ref a] H (λv _=>v=.bl true) λ_ _ _=>False)
  (Ku:∀(w:dB) (H:Hp) (s:bV) (e:bJ) (s':bV),CX w [] H s (λ_ _ _=>False) e s'->False) :
  Bp q loose XP YP l.row.toRowW d [] (λf vs=>PySem.call f vs):=by
 refine Att.attach_call hn G0 λw s₀ s₁ mg mb fa o pm cd doc a vs ns G Y ho hd mP hmg ES BK eP hg=>?_;have KX:=hY w _ Y;obtain⟨fd,hb,hF⟩:=F w mg fa _ KX G.T.g hmg;exact WS KX G.T.g G.T.b G.T.builtins G.T.nolimit hg ES BK (dA eP yC) hr hF hb (λH hO hS=>D1 w H a ns eP hO hS) λH e s'=>Ku w H s₁ e s'
noncomputable def inClass (s:dO)(j:Nat):dO:=match s with
 |.ClassDef _ _ _ body _ _ _ _ _ _ _=>body.getD j (.Pass ⟨0,0,0,0⟩)
 |_=>.Pass ⟨0,0,0,0⟩
noncomputable def kZ (s:dO):Arguments:=match s with
  |.FunctionDef _ a _ _ _ _ _ _ _ _=>a
  |_=>{ posonlyargs:=[],args:=[],vararg:=none,kwonlyargs:=[],kw_defaults:=[],kwarg:=none,defaults:=[] }
noncomputable def gA (s:dO):List dO:=match s with
 |.FunctionDef _ _ b _ _ _ _ _ _ _=>b
 |_=>[]
noncomputable def dh (s:dO):pO:=match s with
  |.FunctionDef _ _ _ _ _ _ sc _ _ _=>sc
  |_=>{ kind:=.function,names:=[],isGenerator:=false,isCoroutine:=false }
abbrev gx:Br:=λ_ _ _ _ _ _=>False
abbrev E0:XK:=λ_ _ _=>False
variable {X:Cx}
theorem tZ:nS gx X E0:=λ_ _ _ _ _ _ _ h=>h.elim
theorem vq {A:c8}{k:Nat}(hr:fC k A):A.units+1<jH:=pN (Nat.add_le_add_left (by decide:1<=64) _) hr.units
theorem AK (h:n<=1000):n<sizeLine:=pN h (by decide)
def c9 (H H':Hp):Prop:=∀b o,H b=some o->H' b=some o
theorem c9.refl (H:Hp):c9 H H:=λ_ _ h=>h
variable {H:Hp}
theorem c9.trans {H1 H2:Hp}(a:c9 H H1)(b:c9 H1 H2):c9 H H2:=λc o h=>b c o (a c o h)
variable {H':Hp}
theorem c9.free (e:c9 H H'){l:bO}(h:H' l=Option.none):H l=Option.none:=by
 cases q:H l with
 |none=>rfl
 |some o=>rw[e l o q]at h;cases h
variable {xs:List V}
theorem c9.seq {K:bM}(e:c9 H H')(h:jU K H a xs):jU K H' a xs:=by
 rcases h with(h|⟨o,h⟩)|h
 ·exact .inl (.inl (e _ _ h))
 ·exact .inl (.inr ⟨o,e _ _ h⟩)
 ·exact .inr h
def FN (a C:bO)(dx tb:Option bO)(h:cz):Prop :=
  ∃a0,h.get? a=some { cls:=.ref C,dict:=dx,data:=.fields #[a0,tb.elim bJ.none .ref,.none,.none,.bool false,.none] }
def GD (T:bO)(h:cz):Prop:=∃ts,h.get? T=some { cls:=.type "traceback",data:=.fields ts }/\ts[3]?=some .none
variable {C:bO}{dx:Option bO}{h h':cz}
theorem FN.stay {tb:Option bO}(x:FN a C dx tb h)(k:∀o,h.get? a=some o->h'.get? a=some o):FN a C dx tb h' :=
 let⟨a0,e⟩:=x;⟨a0,k _ e⟩
theorem GD.stay {T:bO}(x:GD T h)(k:∀o,h.get? T=some o->h'.get? T=some o):GD T h' :=
 let⟨ts,e,q⟩:=x;⟨ts,k _ e,q⟩
abbrev sJ (a C:bO)(dx tb:Option bO):HO:=.ext (FN a C dx tb)
abbrev OK (T:bO):HO:=.ext (GD T)
def xE (H:Hp)(a C:bO)(dx tb:Option bO):Prop:=H a=some (sJ a C dx tb)/\∀T,tb=some T->H T=some (OK T)/\T≠a
noncomputable def gS (H:Hp)(a C:bO)(dx:Option bO)(T:bO):Hp:=upd (upd H T (OK T)) a (sJ a C dx (some T))
theorem MJ {T:bO}{tb:Option bO}(x:xE H a C dx tb)(hT:H T=none):xE (gS H a C dx T) a C dx (some T):=by
 have ne:T≠a:=λe=>by rw[e,x.1]at hT;cases hT
 refine⟨zo,λT' e=>?_⟩;cases e;exact⟨by unfold gS;rw[zj ne,zo],ne⟩
variable {M:Model}{bL:List (bO×gF)}{s:bV}{σ:St}
section
variable {tb:Option bO}{A1 A2:c8}{E1 E2:bJ->bV->Prop}
theorem Inv.xc (I:Inv X bL σ H s)(x:xE H a C dx tb):FN a C dx tb s.heap:=(I.hok a _ x.1).1
theorem Inv.tbo {T:bO}(I:Inv X bL σ H s)(x:xE H a C dx (some T)):GD T s.heap:=(I.hok T _ (x.2 T rfl).1).1
theorem Inv.entry {head:bJ}{qH:Bool}{Q:Unit->bV->Prop}(I:Inv X bL σ H s)(k7:X.stack=X.env::X.outer)(hf:X.env.frame=some X.env.locals)(hA:A1.frames=some X.stack)(x:xE H a C dx tb)
    (h:∀s' T,H T=none->Inv X bL σ (gS H a C dx T) s'->Q () s') :
    cj M A1 (do let fr ← frameOf X.env;let pl ← entryPlaceOf X.env.locals qH;let b ← EntryCells.newEntry head fr .none (rawInt X.env.locals) .none pl;setField (.ref a) 1 b) (λ_ s1=>cj M A2 (setFlight (.ref a) none) Q E1 s1) E2 s:=by
  have G4:=I.stack;rw[k7]at G4 hA;refine bP (wpAny_frameOf_fun hA G4 hf λh1 CM=>bP (wpAny_entryPlaceOf λpl jB=>?_));unfold EntryCells.newEntry newFields;refine bP (kK ?_ (jB.sizeOk5 _ _ _ _ _));have fr:∀b,H b≠none->b∉(X.env::X.outer).filterMap (·.frame):=λb hb hm=>hb (I.stkFree b (by rw[k7];exact hm));obtain⟨a0,he⟩:=I.xc x;have e1:=(CM.2.1 a (fr a (by rw[x.1];simp))).trans he;generalize uK:([head,bJ.ref X.env.locals,.none,rawInt X.env.locals,.none]++(if pl.isEmpty then bW 6 bJ.none else pl)).toArray=ts;have SY:ts[3]?=some (rawInt X.env.locals):=by rw[←uK];simp
  have NW:3<ts.size:=(lK.mp SY).1;have e2:=bT (h:=h1) { cls:=.type "traceback",dict:=none,data:=.fields ts } e1;refine wpAny_setField e2 rfl (by simp) ?_;have neT:h1.objs.size≠a:=qC (cw e1);have e3:=el (gF.mapFields (·.setIfInBounds 1 (bJ.ref h1.objs.size))) e2 rfl;have t3:=(cY (h1.push { cls:=.type "traceback",dict:=none,data:=.fields ts }) (gF.mapFields (·.setIfInBounds 1 (bJ.ref h1.objs.size))) (Ne.symm neT)).trans (cU h1 rfl);unfold setFlight;refine bP (wpAny_field e3 rfl (x:=.ref h1.objs.size) (by simp) ?_);rw[if_pos (show(bJ.ref h1.objs.size != bJ.none)=true from by simp)];refine wpAny_setField t3 rfl NW ?_
  suffices z:∀h4,h4=((h1.push { cls:=.type "traceback",dict:=none,data:=.fields ts }).update a (gF.mapFields (·.setIfInBounds 1 (bJ.ref h1.objs.size)))).update h1.objs.size (gF.mapFields (·.setIfInBounds 3 ((none:Option bO).elim bJ.none λf=>rawInt f)))->Q () ⟨h4,s.gens,s.drawn,s.toks,s.os⟩from z _ rfl
  intro h4 G6;have K4:=G6.symm;clear G6;have Jd:h1.objs.size=s.heap.objs.size:=CM.1;have up:∀b o,b≠a->h1.get? b=some o->h4.get? b=some o:=λb o hb q=>by rw[←K4,cY _ _ (qC (cw q)),cY _ _ (Ne.symm hb)];exact bT _ q
  have FQ:H h1.objs.size=none:=I.hok.fresh (by rw[Jd];exact b7 _);have e4:h4.get? a=some { cls:=.ref C,dict:=dx,data:=.fields #[a0,.ref h1.objs.size,.none,.none,.bool false,.none] }:=by rw[←K4,cY _ _ neT,e3];simp[gF.mapFields]
  have t4:h4.get? h1.objs.size=some { cls:=.type "traceback",data:=.fields (ts.setIfInBounds 3 .none) }:=by rw[←K4,el _ t3 rfl];simp[gF.mapFields]
  have kp:∀b o,H b≠none->b≠a->s.heap.get? b=some o->h4.get? b=some o:=λb o hb ha q=>up b o ha ((CM.2.1 b (fr b hb)).trans q);have nn:∀b,H b=none->b≠a:=λb hb q=>by rw[q,x.1]at hb;cases hb
  have nT:∀b o,s.heap.get? b=some o->b≠h1.objs.size:=λb o q=>by rw[Jd];exact cN (cw q)
  have hm:∀b,b∈(X.env::X.outer).filterMap (·.frame)->b=X.env.locals\/b∈X.fs:=λb hb=>bY.mp (I.stkSub b (by rw[k7];exact hb));refine h _ h1.objs.size FQ (I.step (g':=s.gens) (t':=s.toks) (d':=s.drawn) (ch:=[]) (λb z=>nomatch z) (λb o II Kq _ q n=>up b o (nn b n) ((CM.2.1 b λz=>(hm b z).elim II Kq).trans q)) (λb o _ _ _ q n=>?_) (λb o _ q n=>?_) (λb o _ q=>?_) (λb xs q=>?_) (λb o u q=>?_) (λb ps q=>?_) (λm q=>?_) (λb u q=>?_) I.bare)
  · obtain⟨sl,q'⟩:=CM.2.2 b o q;exact⟨sl,up b _ (nn b n) q'⟩
  · unfold gS;rw[zj (nn b n),zj (nT b o q)];exact n
  · by_cases hb:b=a
    · rw[hb];exact⟨_,e4⟩
    · obtain⟨sl,q'⟩:=CM.2.2 b o q;exact⟨_,up b _ hb q'⟩
  · unfold gS;rw[zj (λz=>by rw[z,x.1]at q;cases q),zj (zl q FQ)];exact q
  · unfold gS;rw[zj (λz=>by rw[z,x.1]at q;cases q),zj (zl q FQ)];exact q
  · exact⟨#[],by unfold gS;rw[zj (λz=>by rw[z,x.1]at q;cases q),zj (zl q FQ),q];simp⟩
  · obtain⟨o,es,ep,ho,r⟩:=q;obtain⟨sl,q'⟩:=CM.2.2 _ o ho;exact⟨_,es,ep,up _ _ (nn _ I.free) q',r⟩
  · by_cases hb:b=a
    · subst hb;have q:gS H b C dx h1.objs.size b=some u:=q;unfold gS at q;rw[zo]at q;cases q;exact⟨⟨a0,e4⟩,⟨_,e4⟩,λ_ _ z k=>z.stay k⟩
    · unfold gS at q;rw[zj hb]at q;by_cases C0:b=h1.objs.size
      · rw[C0,zo]at q;cases q;rw[C0];exact⟨⟨_,t4,by simp[NW]⟩,⟨_,t4⟩,λ_ _ z k=>z.stay k⟩
      · rw[zj C0]at q;refine(I.hok b u q).stay (λc v hc z=>kp c v ?_ ?_ z) (λc z=>?_) (λc xs z=>?_)
        · rcases hc with rfl|hc
          · rw[q];simp
          · rw[hc];simp
        · rcases hc with rfl|hc
          · exact hb
          · intro e;rw[e,x.1]at hc;cases hc
        · unfold gS;rw[zj (λe=>by rw[e,x.1]at z;cases z),zj (zl z FQ)];exact z
        · unfold gS;rw[zj (λe=>by rw[e,x.1]at z;cases z),zj (zl z FQ)];exact z
theorem Inv.note {Q:Unit->bV->Prop}(I:Inv X bL σ H s)(k7:X.stack=X.env::X.outer)(hf:X.env.frame=some X.env.locals)(hA:A1.frames=some X.stack)(x:xE H a C dx tb)
  (h:∀s' T,H T=none->Inv X bL σ (gS H a C dx T) s'->Q () s') :
  cj M A1 (noteFrame (.ref a) X.env) (λ_ s1=>cj M A2 (setFlight (.ref a) none) Q E1 s1) E2 s:=by
 obtain⟨a0,he⟩:=I.xc x;unfold noteFrame;simp only[hf];cases tb with
 |none=>refine bP (wpAny_field he rfl (x:=.none) (by simp) ?_);rw[if_neg (by decide)];exact I.entry k7 hf hA x h
 |some T=>obtain⟨ts,ht,h3⟩:=I.tbo x;refine bP (wpAny_field he rfl (x:=.ref T) (by simp) ?_);rw[if_pos (show(bJ.ref T != bJ.none)=true from by simp)];refine bP (wpAny_field ht rfl h3 ?_);rw[if_neg (show¬((bJ.none==rawInt X.env.locals)=true)from by simp[rawInt])];refine bP (wpAny_setField ht rfl (lK.mp h3).1 ?_);rw[tJ s.heap T _ ts 3 .none ht rfl h3];exact I.entry k7 hf hA x h
end
noncomputable def DK (P:dQ)(w:dB):Br:=λouter H s E u s'=>∃(a C:bO) (dx:Option bO) (T:bO) (H':Hp),u=.ref a/\s'.os=s.os/\AllBare s'.gens/\Un (A8 outer) [] H H' s.heap s'.heap/\oS P w H' s'.heap/\xE H' a C dx (some T)/\E u none H'
abbrev GK:=St->bO->Hp->Prop
noncomputable def oK (X:Cx)(G:GK):Prop:=∀(bL:List (bO×gF)) (σ:St) (H:Hp) (s:bV) (a C:bO) (dx tb:Option bO),Inv X bL σ H s->xE H a C dx tb->(∀T,H T=none->G σ a (gS H a C dx T))->X.xe (.ref a) s
variable {f:bO}{qual:Str}{scope:pO}
theorem VT {w:dB}{K:bM}{mg:Str->Option bJ}{base:cz}{N:List Str}{cd:bJ}{A:c8}{outer:List Env}{E:XK} :
  oK (pE (DK P w) P w K mg base N qual scope f cd A outer s H E) (λ_ a H'=>E (.ref a) none H'):=by
 intro bL σ H1 s1 a C dx tb I x g;show cj _ _ (leaving _ _) _ _ _;unfold leaving;refine bP (I.note rfl rfl I.ok.frames x λs2 T hT J=>?_);exact⟨a,C,dx,T,_,rfl,J.os,J.bare,J.base,J.hok,MJ x hT,g T hT⟩
noncomputable def EX (G:GK)(σ:St):XK:=λu _ H'=>∃a C dx T,u=.ref a/\xE H' a C dx (some T)/\∀T',H' T'=none->G σ a (gS H' a C dx T')
variable {fK p pos:mE}{ds us:List bJ}{lT vs:List V}{e o:Expr}{es:List Expr}{m:Str}{ps:List Str}{s':bV}{ta:TE}{u:bJ}
section
variable {k:Nat}{sp:Sp}{G:GK}{t:TA}
theorem Inv.raised (I:Inv X bL σ H s)(hx:oK X G)(h:DK X.prog X.w X.stack H s (EX G σ) u s'):X.xe u s':=by obtain⟨a,C,dx,T,H',rfl,ho,hg,un,hok,xr,w⟩:=h;have J:Inv X bL σ H' s':=I.call' (ch:=[]) ho un hok hg (λb z=>nomatch z);obtain⟨a2,C2,J9,T2,e2,Mg,w⟩:=w;cases e2;exact hx bL σ H' s' a C2 J9 (some T2) J Mg w
noncomputable def Fs (C:bO)(sp:Sp)(lT:List V)(G:GK)(t:TA):TE:=λσ H Q=>t σ H λvs H1=>∀x dx,H1 x=none->H1 dx=none->dx≠x ->
 sp (.ref x::(vs++lT)) (upd (upd H1 dx (.own x)) x (.ins C dx [])) (λv H2=>v=.non/\Q (.ref x) H2) (EX G σ)
theorem VU {Q:VK}(M:Mk X.K C f)(F:dD X.prog X.w X.K X.mg X.base (DK X.prog X.w) k f fd ps sp)(hr:fC (k+1) X.A)(hb:fQ X.K fd ps ds)(hd:dm lT ds)
  (hx:oK X G) (I:Inv X bL σ H s) (r:dm vs us)
  (h:∀x dx,H x=none->H dx=none->dx≠x->sp (.ref x::(vs++lT)) (upd (upd H dx (.own x)) x (.ins C dx [])) (λv H2=>v=.non/\Q (.ref x) H2) (EX G σ)) :
  cj (b9 X.prog X.w) X.A (call (.ref C) us) (EP X bL σ Q) X.xe s:=by
 have hq:=h (s.heap.objs.size+1) s.heap.objs.size (I.hok.fresh (mI _)) (I.hok.fresh (b7 _)) (cN (kI _));have I2:=Inv.made (C:=C) I;have r2:dm (V.ref (s.heap.objs.size+1)::(vs++lT)) (bJ.ref (s.heap.objs.size+1)::(us++ds)):=.cons rfl (r.append hd);have hl:(bJ.ref (s.heap.objs.size+1)::us++ds).length=ps.length:=(F.len _ _ _ _ hq▸r2.length).symm;refine wpAny_call (PR (f:=f) I.kIn M.makes M.init (beq_iff_eq.mp M.fn) (kJ (F.run _ X.stack _ _ ⟨bJ.ref (s.heap.objs.size+1)::us,[]⟩ (bJ.ref (s.heap.objs.size+1)::(us++ds)) _ _ (EX G σ) (hr.make C us []) (I2.env0.make C us []) (hb _ _ I2.kIn hl) r2 hq) λz s' yE=>?_));cases z with
 |error u=>exact I2.raised hx yE
 |ok fl=>
  cases fl with
  |ret u=>obtain⟨v,H',I3,rv,ev,q3⟩:=I2.after yE;subst ev;exact⟨rv,V.ref (s.heap.objs.size+1),H',I3,rfl,q3⟩
  |_=>exact False.elim yE
theorem WT (M:Mk X.K C f)(F:dD X.prog X.w X.K X.mg X.base (DK X.prog X.w) k f fd ps sp)(hr:fC (k+1) X.A)(hg:Gl X x)(hm:X.mg x=some (.ref C))(hb:fQ X.K fd ps ds)(hd:dm lT ds)(hx:oK X G)
  (ha:PA X (e::es) t) (mn:lS x:=by decide) (he:SE X e es:=by rfl) (jB:pV X pos es:=by rfl) :
  PE X (.Call (.Name x p) (e::es) [] pos) (Fs C sp lT G t):=by
 intro bL s σ H Q I h;refine dX (wj I hg hm (gP (h₀:=X.base) I.ok.mod.kin M.kp (eT (ha pos bL s σ H _ I h) λus s1 ⟨vs,H1,I1,r,q⟩=>⟨I1.kIn,?_⟩) he jB) mn);exact VU M F hr hb hd hx I1 r q
end
abbrev xV:=PySem.F.excBase_ValueError
inductive jW:List bJ->Prop
 |base:jW [.type "ValueError",.type "Exception",.type "BaseException",.type "object"]
 |own {c:bO} {r:List bJ}:jW r->jW (.ref c::r)
theorem jW.refuse {l:List bJ}(self:bJ)(h:jW l):refuseLoop self "__setattr__" l=pure ():=by
 induction h with
 |base=>exact PySem.F.store_ValueError.passes self
 |own h ih=>rw[refuseLoop_ref];exact ih
theorem jW.obj {l:List bJ}(h:jW l):l.contains (.type "object")=true:=by
 induction h with
 |base=>decide
 |own h ih=>rw[pf,ih,Bool.or_true]
structure By (K:bM)(C:bO):Prop where
 ob:∃(nm q:Str) (N:bO) (bs bm:List bJ) (mQ:Bool) (sn:List Str) (sub:List bJ) (ab:Bool) (col:Option Bool) (dd:Option bO) (k0 k1 k2 k3 k5:Option bJ),
  K.lookup C=some (excClassObj nm q C N bs bm mQ sn sub ab col dd k0 k1 k2 k3 k5 "ValueError.__new__")/\jW bm
 mV:eX K C (.type "ValueError")=some true
 mB:eX K C (.type "BaseException")=some true
 mA:eX K C (.type "AttributeError")=some false
 mN:eX K C (.type "NameError")=some false
 sp:eL K (.ref C) "__call__"=some (some (.builtin "type.__call__"))
 ty:PySem.W.instIn K (.ref C) (.type "type")=some true
variable {R:Result->bV->Prop}{ab:Bool}{bm sub:List bJ}{col:Option Bool}{dd:Option bO}{k0 k1 k2 k3 k5:Option bJ}{nm q:Str}{sn:List Str}
section
variable {N:bO}{bs:List bJ}{mQ:Bool}
theorem Ju {K:bM}{b:bJ}{v:Bool}(ho:K.lookup C=some (excClassObj nm q C N bs bm mQ sn sub ab col dd k0 k1 k2 k3 k5 "ValueError.__new__"))(h:eX K C b=some v):(bJ.ref C::bm).contains b=v:=by unfold eX oA at h;rw[ho]at h;simpa using h
variable {prog:dQ}{w:dB}{A:c8}{g:Array GenState}{d:Drawn}{t:Nat}{os:OsState}
theorem zrf {rest:List bJ}(FT:(bJ.ref C::bm).contains (.type "ValueError")=true)(KG:(bJ.ref C::bm).contains (.type "AttributeError")=false)(KI:(bJ.ref C::bm).contains (.type "NameError")=false)
    (hC:h.get? C=some (excClassObj nm q C N bs bm mQ sn sub ab col dd k0 k1 k2 k3 k5 "ValueError.__new__")) (hz:rest.length<=sizeLine)
    (hq:R (.ok (.ret (.ref (h.objs.size+1)))) ⟨(h.push { cls:=.type "tuple",data:=.seq rest.toArray }).push { cls:=.ref C,data:=.fields #[.ref h.objs.size,.none,.none,.none,.bool false,.none] },g,d,t,os⟩) :
    gK (b9 prog w) A (.call (.builtin "ValueError.__new__") ⟨.ref C::rest,[]⟩) R ⟨h,g,d,t,os⟩:=by
  have Og:=xV.noStar;refine codeAny_call_builtin_code (sx.quiet_builtin _ xV.quiet) ?_;simp only[checkBuiltinCall,xV.newKind,xV.newSplit,xV.newRow]
  repeat (first|refine wpAny_loadPart_at hC ?_|(refine wpAny_isSubtype_exc hC ?_;rw[FT])|refine wpAny_staticBase_exc hC ?_|refine wpAny_madeBy_exc hC ?_|simp only[bne_self_eq_false,dH,if_false]|wp_step)
  have N4:=xV.ends;refine codeAny_builtinAt xV.entry ?_;unfold er.«BaseException.__new__»;refine PySem.wpAt_bind ?_;show PySem.wpAt _ _ _ (stack >>= _) _ _ _;refine PySem.wpAt_bind (PySem.wpAt_stack λp below=>PySem.wpAt_of_wpAny ?_)
  wp_walk
  refine PySem.wpAt_of_wpAny ?_;rw[xV.owner]
  repeat (first|with_reducible refine wpAny_madeHere_exc xV.canon hC ?_|with_reducible refine wpAny_loadPart_at hC ?_|(with_reducible refine wpAny_isSubtype_exc hC ?_;first|rw[FT]|rw[KG]|rw[KI])|wp_step)
  show R _ _;rw[iL];exact hq
theorem YC {rest:List bJ}{init:bJ}(FT:(bJ.ref C::bm).contains (.type "ValueError")=true)(KG:(bJ.ref C::bm).contains (.type "AttributeError")=false)(KI:(bJ.ref C::bm).contains (.type "NameError")=false)
    (hC:h.get? C=some (excClassObj nm q C N bs bm mQ sn sub ab col dd k0 k1 k2 k3 k5 "ValueError.__new__")) (call:d9 (b9 prog w) h (specialOf (.ref C) "__call__") (some (.builtin "type.__call__"))) (typ:d9 (b9 prog w) h (isInstance (.ref C) (.type "type")) true)
    (hi:d9 (b9 prog w) h (rB (.ref C) "__init__") (some init)) (hb:∀self,d9 (b9 prog w) h (bindSpecial init self) (init,[self])) (hz:rest.length<=sizeLine)
    (hq:gK (b9 prog w) (A.under (.builtin "type.__call__" ⟨.ref C::rest,[]⟩)) (.call init ⟨.ref (h.objs.size+1)::rest,[]⟩) (yZ (h.objs.size+1) R)
      ⟨(h.push { cls:=.type "tuple",data:=.seq rest.toArray }).push { cls:=.ref C,data:=.fields #[.ref h.objs.size,.none,.none,.none,.bool false,.none] },g,d,t,os⟩) :
    gK (b9 prog w) A (.call (.ref C) ⟨rest,[]⟩) R ⟨h,g,d,t,os⟩:=by
  have self:d9 (b9 prog w) h (isSubtype (.ref C) (.ref C)) true:=λA Q E s k z=>by obtain⟨hh,g',d',t',Oy⟩:=s;refine wpAny_isSubtype_exc (k _ _ hC) ?_;rw[show(bJ.ref C::bm).contains (.ref C)=true by simp];exact z
  refine codeAny_of_tree ?_;show cj _ _ (callAny (.ref C) _) _ _ _;refine PySem.W.nd_load hC ?_;show cj _ _ (callAny.viaDunder (.ref C) _) _ _ _;unfold callAny.viaDunder;refine bP (call.at ?_);dsimp only;rw[tc_bind];refine bP (cy (bP (cy ?_)));refine cy (a:=Fin.again (.call (.builtin "type.__call__") ⟨.ref C::rest,[]⟩)) (And.intro rfl ?_);refine codeAny_call_builtin_at (sx.quiet_builtin _ (by decide +kernel)) entry_typeCall (wZ tc_kind tc_split typ (PySem.W.tc_args _ _ _) ?_);unfold er.«type.__call__»
  repeat (first|with_reducible refine wpAny_loadPart_at hC ?_|with_reducible refine wpAny_madeBy_exc hC ?_|with_reducible refine wpAny_mroOf_exc hC ?_|simp only[List.isEmpty_cons,dH,if_false]|with_reducible refine wpAny_call ?_|wp_step)
  refine zrf FT KG KI hC hz ?_;have k:∀b o,h.get? b=some o->((h.push { cls:=.type "tuple",data:=.seq rest.toArray }).push { cls:=.ref C,data:=.fields #[.ref h.objs.size,.none,.none,.none,.bool false,.none] }).get? b=some o:=λb o e=>bT _ (bT _ e);have hx:((h.push { cls:=.type "tuple",data:=.seq rest.toArray }).push { cls:=.ref C,data:=.fields #[.ref h.objs.size,.none,.none,.none,.bool false,.none] }).get? (h.objs.size+1)=some { cls:=.ref C,data:=.fields #[.ref h.objs.size,.none,.none,.none,.bool false,.none] }:=by heap_get
  have t1:d9 (b9 prog w) ((h.push { cls:=.type "tuple",data:=.seq rest.toArray }).push { cls:=.ref C,data:=.fields #[.ref h.objs.size,.none,.none,.none,.bool false,.none] }) (typeOf (.ref (h.objs.size+1))) (.ref C):=(d9.ld hx).andThen .now;have s1:=self.keeps k;have i1:=hi.keeps k;have b1:=(hb (.ref (h.objs.size+1))).keeps k;unfold isInstance callSpecial? specialOf
  repeat (first|with_reducible refine wpAny_call ?_|lk)
  refine kJ hq λr s' z=>?_;rcases r with e|(v|_|_|_)<;>first|exact z|exact z.elim|skip
  obtain⟨rfl,z⟩:=z;exact cy (cy z)
end
variable {E:bJ->bV->Prop}
section
variable {N:bO}{bs:List bJ}{mQ:Bool}
variable {prog:dQ}{w:dB}{A:c8}{g:Array GenState}{d:Drawn}{t:Nat}{os:OsState}
theorem WU {e:bO}{a0 v1 v2 v3 v4 v5:bJ}{rest:List bJ}(FT:(bJ.ref C::bm).contains (.type "ValueError")=true)
    (hC:h.get? C=some (excClassObj nm q C N bs bm mQ sn sub ab col dd k0 k1 k2 k3 k5 "ValueError.__new__")) (he:h.get? e=some { cls:=.ref C,dict:=dx,data:=.fields #[a0,v1,v2,v3,v4,v5] }) (hz:rest.length<=sizeLine)
    (hq:∀h' a1,(∀b o,b≠e->h.get? b=some o->h'.get? b=some o)->h'.get? e=some { cls:=.ref C,dict:=dx,data:=.fields #[a1,v1,v2,v3,v4,v5] }->R (.ok (.ret .none)) ⟨h',g,d,t,os⟩) :
    gK (b9 prog w) A (.call (.builtin "ValueError.__init__") ⟨.ref e::rest,[]⟩) R ⟨h,g,d,t,os⟩:=by
  have Lj:=xV.noStar;refine codeAny_call_builtin xV.init.plain xV.initEntry ?_;simp only[checkBuiltinCall,xV.initKind,xV.initSplit,xV.initRow]
  repeat (first|with_reducible refine wpAny_loadPart_at he ?_|with_reducible refine wpAny_loadPart_at hC ?_|(with_reducible refine wpAny_isSubtype_exc hC ?_;rw[FT])|wp_step)
  refine wpAny_onRaise ?_;rw[show∀(a b:String) (n:Nat),Bind.check ⟨.positional,"*","ValueError",.self,[⟨"args",.varPos,false⟩]⟩ a b n (List.map (λx=>x.fst) ({ pos:=bJ.ref e::rest }:Args).kw)=pure ()from
    λa b n=>check_star_args _ _ _ _ _ _]
  refine cy ?_;unfold er.«BaseException.__init__»;dsimp only;rw[if_neg (by decide)];unfold newTuple;refine bP (kK ?_ (by show rest.toArray.size<=sizeLine;rw[cv];exact hz));have e1:=bT (h:=h) { cls:=.type "tuple",data:=.seq rest.toArray } he;unfold er.BaseException.bexcPut;refine bP (bP (wpAny_field e1 rfl (x:=a0) (by simp) ?_));refine bP (wpAny_setField e1 rfl (by simp) ?_);have e2:=el (gF.mapFields (·.setIfInBounds 0 (bJ.ref h.objs.size))) e1 rfl;have fin:R (.ok (.ret .none)) ⟨(h.push { cls:=.type "tuple",data:=.seq rest.toArray }).update e (gF.mapFields (·.setIfInBounds 0 (bJ.ref h.objs.size))),g,d,t,os⟩:=by
    refine hq _ (.ref h.objs.size) (λb o hb ho=>?_) ?_
    · rw[cY _ _ (Ne.symm hb)];exact bT _ ho
    · rw[e2];simp[gF.mapFields]
  cases a0<;>first|exact wpAny_letGo (cy fin)|exact cy (cy fin)
end
variable {name:Str}
section
variable {N:bO}{bs:List bJ}
variable {prog:dQ}{w:dB}{A:c8}{K:bM}{x:bO}{dt:oI}{sl:Array (Option bJ)}{v:bJ}
theorem zrg {Q:Unit->bV->Prop}(X:K.In s.heap)(hK:K.lookup C=some (excClassObj nm q C N bs bm true sn sub ab col dd k0 k1 k2 k3 k5 "ValueError.__new__"))(hm:jW bm)(hx:s.heap.get? x=some ⟨.ref C,none,dt,sl⟩)(hd:∀cd,dt≠.cls cd)(G3:(⟨.ref C,none,dt,sl⟩:gF).isFreed=false)
    (hs:cX K (.ref C) "__setattr__"=some (some (.builtin "object.__setattr__"))) (ht:gY K C name=some none)
    (h:∀h' dx,s.heap.get? dx=none->dx≠x->s.heap.objs.size<=dx->h'.get? x=some ⟨.ref C,some dx,dt,sl⟩->h'.Ns1 dx (λy=>if y=name then some v else none)->(∀b o,b≠x->s.heap.get? b=some o->h'.get? b=some o)->Q () { s with heap:=h',toks:=s.toks+2 }) :
    cj (b9 prog w) A (setAttr (.ref x) name v) Q E s:=by
  have hn:A0 ⟨.ref C,none,dt,sl⟩=true:=by unfold A0;cases dt<;>first|rfl|exact absurd rfl (hd _)
  have J:AZ s.heap x ⟨.ref C,none,dt,sl⟩ C none:=⟨hx,rfl,hn,trivial⟩;refine xR X J hs ?_;have SF:=PySem.F.store_object;obtain⟨cd,hc,Ha,G1⟩:∃cd,oA K C=some cd/\cd.mro=.ref C::bm/\cd.hasDict=true:=⟨_,by unfold oA;rw[hK],rfl,rfl⟩;have sub:d9 (b9 prog w) s.heap (isInstance (.ref x) (.type "object")) true:=J.type.andThen (PySem.W.looks_mroIn X (by unfold eX;rw[hc,de,Ha,if_neg (by simp),(jW.own hm).obj]));refine codeAny_call_builtin SF.slot.plain SF.entry (@wZ (b9 prog w) _ _ { s with toks:=s.toks+1 } "object.__setattr__" "object" "__setattr__" (.ref x) [.str name s.toks,v] [] _ SF.kind SF.split sub (SF.args (.ref x) (.str name s.toks) v) ?_);obtain⟨attr,ha,hr⟩:=Option.bind_eq_some_iff.mp ht;have hM:d9 (b9 prog w) s.heap (mroOf (.ref C)) (.ref C::bm):=Ha▸(oh X hc).andThen .now;have L3:d9 (b9 prog w) s.heap (er.ObjectAttr.storeTaker? attr) none:=by
    cases attr with
    |none=>exact .now
    |some a=>
      obtain⟨b,hb,EC⟩:=dz.mp hr;refine(PySem.W.looks_takesIn X hb).andThen ?_;cases b
      · exact .now
      · cases EC
  rw[PySem.W.osa_eq,refuse_eq];refine bP (bP (J.type.here (s:={ s with toks:=s.toks+1 }) (bP (hM.here (s:={ s with toks:=s.toks+1 }) ?_))));rw[(jW.own hm).refuse];refine cy (bP (J.type.here (s:={ s with toks:=s.toks+1 }) (bP ((nQ X ha).here (s:={ s with toks:=s.toks+1 }) (bP (L3.here (s:={ s with toks:=s.toks+1 }) ?_))))));refine bP (cy (bP (bP (wpAny_loadPart (s:={ s with toks:=s.toks+1 }) hx (bP ((oh X hc).here (s:={ s with toks:=s.toks+1 }) ?_))))));rw[G1];have Oi:(s.heap.push { cls:=.type "dict",data:=.dict #[] }).get? x=some ⟨.ref C,none,dt,sl⟩:=bT _ hx;have Lr:x≠s.heap.objs.size:=cN (cw hx);show cj _ _ (if(!true || !typeHasDict (.ref C))=true then _ else _) _ _ _;rw[if_neg (by simp[typeHasDict])];have go:cj (b9 prog w) A.in1 (do
      let d ← alloc { cls:=.type "dict",data:=.dict #[] }
      update x λo=>{ o with dict:=some d }
      dictMade (.ref C) x d) (λa s'=>cj (b9 prog w) A.in1 (match a with
        |some d=>er.ObjectAttr.storeInDict d (.str name s.toks) name v
        |none=>er.ObjectAttr.noDictFor (.ref x) (.ref C) name attr.isSome) (λfin s'=>match fin with|.done f=>(match Except.ok f with|.ok (.ret _)=>Q () s'|.ok _=>False|.error e=>E e s')|.again c'=>c'.quiet=true/\gK (b9 prog w) A c' (λr s'=>match r with|.ok (.ret _)=>Q () s'|.ok _=>False|.error e=>E e s') s') E s') E { s with toks:=s.toks+1 }:=by
    refine bP (wpAny_alloc' ?_);refine bP (wpAny_update' Oi ?_);refine cy ?_;have S6:((s.heap.push { cls:=.type "dict",data:=.dict #[] }).update x λo=>{ cls:=o.cls,dict:=some s.heap.objs.size,data:=o.data,slots:=o.slots }).get? s.heap.objs.size=some { cls:=.type "dict",data:=.dict #[] } :=
      (yV _ _ _ _ Lr.symm).trans (AN rfl rfl)
    have Ti:((s.heap.push { cls:=.type "dict",data:=.dict #[] }).update x λo=>{ cls:=o.cls,dict:=some s.heap.objs.size,data:=o.data,slots:=o.slots }).Ns s.heap.objs.size (λ_=>none):=⟨_,#[],_,S6,rfl,λe he=>absurd he (by simp),λ_=>rfl⟩;show cj _ _ (er.ObjectAttr.storeInDict s.heap.objs.size (.str name s.toks) name v) _ _ _;unfold er.ObjectAttr.storeInDict er.ObjectAttr.newKeyGuard;refine bP (cy (bP (wpAny_nsSet1 (cz.Ns1.of_empty Ti) λh' Bd F9=>?_)));obtain⟨oD,Sj,R7,Lf,KO,KH⟩:=Bd.count (Within.cons name v Within.nil);refine bP (wpAny_lookBehind Lf (by rw[KO];exact pastItsLine_dict (dA KH (by rw[b8,Cq,dF];omega))) ?_);refine cy (h h' s.heap.objs.size (xK (b7 _)) Lr.symm (b7 _) ?_ Bd λb o hb ho=>?_)
    · refine(F9.2 x Lr).trans (el _ Oi ?_);cases dt<;>first|rfl|exact G3
    · exact(F9.2 b (cN (cw ho))).trans ((yV _ _ _ _ hb).trans (bT _ ho))
  cases dt<;>first|exact absurd rfl (hd _)|exact go
end
variable {pl:Cw Bool}{pos':mE}{t':Nat}{te to tv:TE}{value:Expr}
section
theorem Inv.xmade (I:Inv X bL σ H s)(us:List bJ):H (s.heap.objs.size+1)=none/\Inv X bL σ (upd H (s.heap.objs.size+1) (sJ (s.heap.objs.size+1) C none none)) { s with heap:=(s.heap.push { cls:=.type "tuple",data:=.seq us.toArray }).push { cls:=.ref C,data:=.fields #[.ref s.heap.objs.size,.none,.none,.none,.bool false,.none] } }:=by have I1:Inv X bL σ H { s with heap:=s.heap.push { cls:=.type "tuple",data:=.seq us.toArray } }:=I.kept (t':=s.toks) λb o e=>bT _ e;have z:(s.heap.push { cls:=.type "tuple",data:=.seq us.toArray }).objs.size=s.heap.objs.size+1:=iL ..;have e:((s.heap.push { cls:=.type "tuple",data:=.seq us.toArray }).push { cls:=.ref C,data:=.fields #[.ref s.heap.objs.size,.none,.none,.none,.bool false,.none] }).get? (s.heap.objs.size+1)=some { cls:=.ref C,data:=.fields #[.ref s.heap.objs.size,.none,.none,.none,.bool false,.none] }:=AN z.symm rfl;refine⟨I.hok.fresh (mI _),I1.laid (t':=s.toks) (λb o e=>bT _ e) (wU z) ⟨⟨_,e⟩,⟨_,e⟩,λ_ _ q k=>q.stay k⟩⟩
theorem Inv.xwrite {J8 tb tb':Option bO}(I:Inv X bL σ H s)(he:H a=some (sJ a C dx tb))(k:∀b u,b≠a->s.heap.get? b=some u->h'.get? b=some u)(new:FN a C J8 tb' h') :
  Inv X bL σ (upd H a (sJ a C J8 tb')) { s with heap:=h',toks:=t' }:=by
 obtain⟨a1,e⟩:=id new;exact I.write (x:=a) (e:=a) (by rw[he];trivial) (.inl rfl) k ⟨_,e⟩ ⟨new,⟨_,e⟩,λ_ _ q k=>q.stay k⟩
variable {k:Nat}{sp:Sp}{t:TA}{G:GK}
def Fx (C:bO)(sp:Sp)(t:TA):TE:=λσ H Q=>t σ H λvs H1=>vs.length<=1000/\∀a,H1 a=none->sp (.ref a::vs) (upd H1 a (sJ a C none none)) (λv H2=>v=.non/\Q (.ref a) H2) E0
theorem xt {K:bM}(c:By K C):∃(nm q:Str) (N:bO) (bs bm:List bJ) (mQ:Bool) (sn:List Str) (sub:List bJ) (ab:Bool) (col:Option Bool) (dd:Option bO) (k0 k1 k2 k3 k5:Option bJ),
  K.lookup C=some (excClassObj nm q C N bs bm mQ sn sub ab col dd k0 k1 k2 k3 k5 "ValueError.__new__")/\jW bm/\(bJ.ref C::bm).contains (.type "ValueError")=true/\(bJ.ref C::bm).contains (.type "BaseException")=true/\(bJ.ref C::bm).contains (.type "AttributeError")=false/\(bJ.ref C::bm).contains (.type "NameError")=false:=by
 obtain⟨nm,q,N,bs,bm,mQ,sn,sub,ab,col,dd,k0,k1,k2,k3,k5,ho,hm⟩:=c.ob;exact⟨nm,q,N,bs,bm,mQ,sn,sub,ab,col,dd,k0,k1,k2,k3,k5,ho,hm,Ju ho c.mV,Ju ho c.mB,Ju ho c.mA,Ju ho c.mN⟩
theorem VV {Q:VK}(c:By X.K C)(hi:cX X.K (.ref C) "__init__"=some (some (.ref f)))(A9:kW X.K (.ref f)=true)(F:dD X.prog X.w X.K X.mg X.base gx k f fd ps sp)(hr:fC (k+1) X.A)(hb:fQ X.K fd ps [])
  (I:Inv X bL σ H s) (r:dm vs us) (hz:vs.length<=1000) (h:∀a,H a=none->sp (.ref a::vs) (upd H a (sJ a C none none)) (λv H2=>v=.non/\Q (.ref a) H2) E0) :
  cj (b9 X.prog X.w) X.A (call (.ref C) us) (EP X bL σ Q) X.xe s:=by
 obtain⟨hn,I2⟩:=I.xmade (C:=C) us;have hq:=h _ hn;obtain⟨nm,q,N,bs,bm,mQ,sn,sub,ab,col,dd,k0,k1,k2,k3,k5,ho,hm,c1,c2,c3,c4⟩:=xt c;have r2:dm (V.ref (s.heap.objs.size+1)::vs) (bJ.ref (s.heap.objs.size+1)::us):=.cons rfl r;have hl:(bJ.ref (s.heap.objs.size+1)::us++[]).length=ps.length:=by rw[cP,←r2.length];exact F.len _ _ _ _ hq
 have IM:=hb _ (bJ.ref (s.heap.objs.size+1)::us) I2.kIn hl;rw[cP]at IM;have TC:us.length<=sizeLine:=by rw[←r.length];exact dA hz (by rw[dF];omega)
 obtain⟨h0,g,d,t,os⟩:=s;refine wpAny_call (YC c1 c3 c4 (I.kIn _ _ ho) (PySem.W.looks_specialIn I.kIn c.sp) (PySem.W.looks_instIn I.kIn c.ty) (nQ I.kIn hi) (λself=>Ar I.kIn self (beq_iff_eq.mp A9)) TC (kJ (F.run _ X.stack _ _ ⟨bJ.ref (h0.objs.size+1)::us,[]⟩ _ _ _ E0 (hr.make C us []) (I2.env0.make C us []) IM r2 hq) λz s' yE=>?_));cases z with
 |error u=>exact False.elim yE
 |ok fl=>
  cases fl with
  |ret u=>obtain⟨v,H',I3,rv,ev,q3⟩:=I2.after yE;subst ev;exact⟨rv,V.ref (h0.objs.size+1),H',I3,rfl,q3⟩
  |_=>exact False.elim yE
theorem WV (c:By X.K C)(K8:dY X.K (.ref C)=true)(hi:cX X.K (.ref C) "__init__"=some (some (.ref f)))(A9:kW X.K (.ref f)=true)(F:dD X.prog X.w X.K X.mg X.base gx k f fd ps sp)(hr:fC (k+1) X.A)(hg:Gl X x)(hm:X.mg x=some (.ref C))(hb:fQ X.K fd ps [])
  (ha:PA X (e::es) t) (mn:lS x:=by decide) (he:SE X e es:=by rfl) (jB:pV X pos es:=by rfl) :
  PE X (.Call (.Name x p) (e::es) [] pos) (Fx C sp t):=by
 intro bL s σ H Q I h;refine dX (wj I hg hm (gP (h₀:=X.base) I.ok.mod.kin K8 (eT (ha pos bL s σ H _ I h) λus s1 ⟨vs,H1,I1,r,q⟩=>⟨I1.kIn,?_⟩) he jB) mn);exact VV c hi A9 F hr hb I1 r q.1 q.2
noncomputable def Fv (K:bM)(G:GK)(te:TE):TS:=λD σ H=>te σ H λv H1=>∃a C dx,v=.ref a/\By K C/\xE H1 a C dx none/\∀T,H1 T=none->G σ a (gS H1 a C dx T)
theorem WW (hc:X.calm=true)(hx:oK X G)(he:PE X e te):PS X (.Raise (some e) none pos) (Fv X.K G te):=by
 intro bL s σ H D I h;have main:cj (b9 X.prog X.w) X.A (raiseStmt X.env (some (do let v ← dR e X.env;jN pos;pure v)) none) (SP X bL D) X.xe s:=by
  unfold raiseStmt;refine bP (bP (eT (he bL s σ H _ I h) λv s1 ⟨v',H1,I1,r1,a,C,dx,e1,c,xr,w⟩=>bP (kn (cy ?_))));subst e1;cases r1;obtain⟨nm,q,N,bs,bm,mQ,sn,sub,ab,col,dd,k0,k1,k2,k3,k5,ho,hm,c1,c2,c3,c4⟩:=xt c;obtain⟨a0,ha⟩:=I1.xc xr;have hC:=I1.kIn _ _ ho;have fin:X.xe (.ref a) s1:=hx bL σ H1 s1 a C dx none I1 xr w;have hh:=I.ok.hd hc;obtain⟨h0,g,d,t,os⟩:=s1
  repeat (first|with_reducible refine wpAny_loadPart_at ha ?_|with_reducible refine wpAny_loadPart_at hC ?_|(with_reducible refine wpAny_isSubtype_exc hC ?_;rw[c2])|wp_step)
  exact wpAny_raiseNew_none hh fin
 rw[arm_exec_Raise];exact bP (kn main)
def Ce (K:bM)(to:TE)(te:TE):TE:=λσ H Q=>to σ H λv H1=>te σ H1 λu H2=>∃a C dx tb,v=.ref a/\By K C/\H2 a=some (sJ a C dx tb)/\Q .non H2
theorem WX {B:bO}(hg:Gl X x)(hm:X.mg x=some (.ref B))
  (h1:eL X.K (.ref B) "__getattribute__"=some (some (.builtin "type.__getattribute__"))) (h2:kM X.K B (.type "type")=true) (h3:kL X.K (.ref B) (.type "type") m=some (.val (.builtin "ValueError.__init__"))) (ho:PE X o to) (he:PE X e te)
  (mn:lS x:=by decide) (k7:cT [o,e] X.env=[(false,dR o X.env),(false,dR e X.env)]:=by rfl) (yG:SN X e:=by rfl)
  (ht:dR (.Call (.Attribute (.Name x p) m fK) [o,e] [] pos) X.env=(do
   let ov ← dR (.Name x p) X.env
   jN fK.atName
   let(f,first) ← fV [ov] (kz ov m pl)
   mS pos f first (iD pos (cT [o,e] X.env)) (ij pos (eO [] X.env))):=by rfl) :
  PE X (.Call (.Attribute (.Name x p) m fK) [o,e] [] pos) (Ce X.K to te):=by
 intro bL s σ H Q I h;refine iq (pl:=pl) (wj I hg hm ?_ mn) ht;refine xA I.kIn h1 (xO I.kIn h2 h3 rfl ?_);have I1:Inv X bL σ H { s with toks:=s.toks+1 }:=I.tok _;refine oz (eT ((z9 ho (z9 he xn yG) (by show cT _ _=_;rw[k7,yG])) pos bL _ σ H (λvs H2=>match vs with|[v,u]=>∃a C dx tb,v=.ref a/\By X.K C/\H2 a=some (sJ a C dx tb)/\Q .non H2|_=>False) I1 h) λus s2 ⟨vs,H2,I2,r,q2⟩=>?_) (by show cT _ _=_;rw[k7,yG]) (by rw[yG];rfl);cases r with
 |nil=>exact False.elim q2
 |cons rv r=>
  cases r with
  |nil=>exact False.elim q2
  |cons ru r=>
   cases r with
   |cons _ _=>exact False.elim q2
   |nil=>
    obtain⟨a,C,dx,tb,e1,c,ha,q3⟩:=q2;subst e1;cases rv;obtain⟨nm,q,N,bs,bm,mQ,sn,sub,ab,col,dd,k0,k1,k2,k3,k5,IX,hmr,c1,c2,c3,c4⟩:=xt c;obtain⟨a0,ea⟩:=(I2.hok a _ ha).1;refine wpAny_call (WU c1 (I2.kIn _ _ IX) ea (by show 1<=sizeLine;rw[dF];omega) λh' a1 kp e2=>?_);have I3:=I2.xwrite (tb':=tb) (J8:=dx) ha (h':=h') (t':=s2.toks) kp ⟨a1,e2⟩;have hH:upd H2 a (sJ a C dx tb)=H2:=by
     funext b;by_cases hb:b=a
     ·rw[hb,zo,ha]
     ·rw[zj hb]
    rw[hH]at I3;exact⟨.non,H2,I3,rfl,q3⟩
def Eh (K:bM)(f:Str)(te to:TE):TS:=λD σ H=>te σ H λu H1=>to σ H1 λv H2=>∃a C tb,v=.ref a/\By K C/\fw K C=true/\cX K (.ref C) "__setattr__"=some (some (.builtin "object.__setattr__"))/\gY K C f=some none/\H2 a=some (sJ a C none tb) /\
 ∀dx,H2 dx=none->dx≠a->D.nx σ (upd (upd H2 dx (.xd [(f,u)])) a (sJ a C (some dx) tb))
theorem YD {f:Str}(ho:PE X o to)(hv:PE X value tv)(hs:gq value (some (.Attribute o f pos')) pos.line X.env=pure false:=by rfl):PS X (.Assign [.Attribute o f pos'] value pos) (Eh X.K f tv to):=by
 intro bL s σ H D I h;refine plainObj_wpAny_Assign_Attribute (eT (hv bL s σ H _ I h) λu s1 ⟨u',H1,I1,r1,q1⟩=>eT (ho bL s1 σ H1 _ I1 q1) λov s2 ⟨v',H2,I2,r2,q2⟩=>?_) hs;obtain⟨a,C,tb,e1,c,hd,Tr,Ja,ha,w⟩:=q2;subst e1;cases r2;obtain⟨nm,q,N,bs,bm,mQ,sn,sub,ab,col,dd,k0,k1,k2,k3,k5,IX,hm,c1,c2,c3,c4⟩:=xt c;obtain rfl:mQ=true:=by unfold fw oA at hd;rw[IX]at hd;simpa using hd
 obtain⟨a0,ea⟩:=(I2.hok a _ ha).1;refine zrg I2.kIn IX hm ea (λ_ z=>by cases z) rfl Tr Ja λh' dx IQ nU mW xG kG kp=>?_;have nn:∀b,H2 b=none->b≠a:=λb hb q=>by rw[q,ha]at hb;cases hb
 have FU:H2 dx=none:=I2.hok.fresh mW;have nT:∀b o,s2.heap.get? b=some o->b≠dx:=λb o q z=>by rw[z,IQ]at q;cases q
 refine⟨σ,upd (upd H2 dx (.xd [(f,u')])) a (sJ a C (some dx) tb),I2.step (g':=s2.gens) (t':=s2.toks+2) (d':=s2.drawn) (ch:=[]) (λb z=>nomatch z) (λb o _ _ _ q n=>kp b o (nn b n) q) (λb o _ _ _ q n=>⟨o.slots,kp b o (nn b n) q⟩) (λb o _ q n=>?_) (λb o _ q=>?_) (λb xs q=>?_) (λb o u q=>?_) (λb ps q=>?_) (λm q=>?_) (λb u q=>?_) I2.bare,w dx FU nU⟩
 ·rw[zj (nn b n),zj (nT b o q)];exact n
 ·by_cases hb:b=a
  ·rw[hb];exact⟨_,xG⟩
  ·exact⟨o,kp b o hb q⟩
 ·rw[zj (λz=>by rw[z,ha]at q;cases q),zj (zl q FU)];exact q
 ·rw[zj (λz=>by rw[z,ha]at q;cases q),zj (zl q FU)];exact q
 ·exact⟨#[],by rw[zj (λz=>by rw[z,ha]at q;cases q),zj (zl q FU),q];simp⟩
 ·obtain⟨o,es,ep,ho,r⟩:=q;exact⟨o,es,ep,kp _ _ (nn _ I2.free) ho,r⟩
 ·by_cases hb:b=a
  ·subst hb;rw[zo]at q;cases q;exact⟨⟨a0,xG⟩,⟨_,xG⟩,λ_ _ z k=>z.stay k⟩
  ·rw[zj hb]at q;by_cases C0:b=dx
   ·rw[C0,zo]at q;cases q;rw[C0];refine⟨_,kG,λy=>?_⟩;by_cases hy:y=f
    ·subst hy;rw[if_pos rfl];have:(y==y)=true:=beq_self_eq_true y;simp only[iM,this];exact r1
    ·rw[if_neg hy];have:(y==f)=false:=beq_eq_false_iff_ne.mpr hy;simp only[iM,this];trivial
   ·rw[zj C0]at q;refine(I2.hok b u q).stay (λc v hc z=>kp c v ?_ z) (λc z=>?_) (λc xs z=>?_)
    ·rcases hc with rfl|hc
     ·exact hb
     ·intro e;rw[e,ha]at hc;cases hc
    ·rw[zj (λe=>by rw[e,ha]at z;cases z),zj (zl z FU)];exact z
    ·rw[zj (λe=>by rw[e,ha]at z;cases z),zj (zl z FU)];exact z
end
abbrev TF:=St->Hp->(Hp->Prop)->Prop
def PF (X:Cx)(e:Expr)(n:Nat)(t:TF):Prop:=∀(bL:List (bO×gF)) (s:bV) (σ:St) (H:Hp) (Q:Hp->Prop),Inv X bL σ H s->t σ H Q ->
 cj (b9 X.prog X.w) X.A (dR e X.env) (λv s1=>∃y tk H1,v=.str y tk/\y.length<=n/\Inv X bL σ H1 s1/\Q H1) X.xe s
theorem PV {c:Str}{j}(hz:c.length<=2000:=by decide):PF X (.Constant (.str c) j pos) 2000 (λ_ H Q=>Q H):=λ_ _ _ H _ I h=>Calls.Constant_str ⟨c,_,H,rfl,hz,I.tok _,h⟩
def tO (v:V):Prop:=v=.non\/∃i:Int,v=.int i/\i.natAbs.log2<1920
theorem ztk (he:PE X e te):PF X (.FormattedValue e (-1) none pos) 2000 (λσ H Q=>te σ H λv H1=>tO v/\Q H1):=by
 intro bL s σ H Q I h;refine wpAny_FormattedValue_plain (eT (he bL s σ H _ I h) λu s1 f7=>?_);obtain⟨v,H1,I1,r1,f,q⟩:=f7;rcases f with rfl|⟨i,rfl,hi⟩
 ·cases r1;exact wpAny_formatField_none ⟨_,_,H1,rfl,by decide,I1.tok _,q⟩
 ·obtain⟨t,rfl⟩:=r1;refine wpAny_formatField_int hi ⟨_,_,H1,rfl,?_,I1.tok _,q⟩;have z:=int_text_length_le (k:=1920) (by decide) hi;rw[PySem.ofString_length];omega
def Ir (X:Cx)(es:List Expr)(t:TF):Prop:=∀(bL:List (bO×gF)) (s:bV) (σ:St) (H:Hp) (iw:Str) (Q:VK),Inv X bL σ H s->iw.length+2000*es.length<=100000->t σ H (λH1=>∀x,Q (.str x) H1) ->
 Joins (b9 X.prog X.w) X.A X.xe (evalEach es X.env) iw (λout s1=>out.length<=sizeLine/\EP X bL σ Q (.str out s1.toks) { s1 with toks:=s1.toks+1 }) s
theorem YE:Ir X [] (λ_ H Q=>Q H):=by intro bL s σ H iw Q I hz h;exact⟨by rw[dF];omega,.str iw,H,I.tok _,⟨_,rfl⟩,h iw⟩
theorem Mj {t1 t2:TF}(h1:PF X e 2000 t1)(h2:Ir X es t2)(hs:evalEach (e::es) X.env=dR e X.env::evalEach es X.env:=by rfl):Ir X (e::es) (λσ H Q=>t1 σ H λH1=>t2 σ H1 Q):=by intro bL s σ H iw Q I hz h;rw[hs];refine eo (h1 bL s σ H _ I h) (λv s1 ⟨y,tk,H1,e1,hy,I1,q⟩=>?_) λ_ _ x=>x;have hl:(iw++y).length=iw.length+y.length:=strLen_append _ _;rw[b8]at hz;exact⟨y,tk,e1,by rw[hl,dF];omega,h2 bL s1 σ H1 (iw++y) Q I1 (by rw[hl];omega) q⟩
theorem YF {a b:Expr}{t:TF}(h:Ir X (a::b::es) t)(hl:(a::b::es).length<=40:=by decide):PE X (.JoinedStr (a::b::es) pos) (λσ H Q=>t σ H λH1=>∀x,Q (.str x) H1):=by intro bL s σ H Q I hq;refine wpAny_JoinedStr (h bL s σ H Str.empty Q I ?_ hq);have:(Str.empty:Str).length=0:=rfl;omega
structure Er (K:bM)(C:bO):Prop where
 ga:cX K (.ref C) "__getattribute__"=some (some (.builtin "BaseException.__getattribute__"))
 gn:cX K (.ref C) "__getattr__"=some none
 mB:eX K C (.type "BaseException")=some true
 hd:fw K C=true
 ca:cX K (.ref C) "__class__"=some (some (.builtin "object.__class__"))
 cg:eL K (.builtin "object.__class__") "__get__"=some (some (.builtin "getset_descriptor.__get__"))
 ct:qG K (.builtin "object.__class__")=some true
 mO:eX K C (.type "object")=some true
abbrev Cx.tr (X:Cx)(E:bJ->bV->Prop)(bL:List (bO×gF)):Cx:={ X with xe:=E,pn:=X.pn++bL }
abbrev Cx.hd (X:Cx)(a:bO):Cx:={ X with A:=X.A.mark (some (.ref a)),calm:=false,xe:=λ_ _=>False }
variable {D:mm}{body:List dO}
theorem Inv.tr (I:Inv X bL σ H s)(E:bJ->bV->Prop):Inv (X.tr E bL) [] σ H s :=
 ⟨⟨I.ok.mod,I.ok.kind,I.ok.glob,I.ok.blt,I.ok.above,I.ok.inj,I.ok.has,I.ok.cab,I.ok.hd,I.ok.frames,I.ok.stk,I.ok.exf,I.ok.bs,I.ok.bsz,I.ok.noex,I.ok.exfs,I.ok.funs,I.ok.frf⟩,I.os,I.bare,I.base,I.loc,I.cell,I.free,I.freeC,λp hp=>I.pin p (by simpa using hp),I.hok,I.len⟩
theorem Inv.untr {q:List (bO×gF)}(I:Inv (X.tr E bL) q σ H s):Inv X bL σ H s :=
 ⟨⟨I.ok.mod,I.ok.kind,I.ok.glob,I.ok.blt,I.ok.above,I.ok.inj,I.ok.has,I.ok.cab,I.ok.hd,I.ok.frames,I.ok.stk,I.ok.exf,I.ok.bs,I.ok.bsz,I.ok.noex,I.ok.exfs,I.ok.funs,I.ok.frf⟩,I.os,I.bare,I.base,I.loc,I.cell,I.free,I.freeC,λp hp=>I.pin p (cC _ hp),I.hok,I.len⟩
theorem Inv.hdl (I:Inv X bL σ H s)(a:bO):Inv (X.hd a) bL σ H s :=
 ⟨⟨I.ok.mod,I.ok.kind,I.ok.glob,I.ok.blt,I.ok.above,I.ok.inj,I.ok.has,I.ok.cab,(λz=>by cases z),I.ok.frames,I.ok.stk,I.ok.exf,I.ok.bs,I.ok.bsz,I.ok.noex,I.ok.exfs,I.ok.funs,I.ok.frf⟩,I.os,I.bare,I.base,I.loc,I.cell,I.free,I.freeC,I.pin,I.hok,I.len⟩
theorem Inv.unhd (ok:X.Ok)(I:Inv (X.hd a) bL σ H s):Inv X bL σ H s :=
 ⟨ok,I.os,I.bare,I.base,I.loc,I.cell,I.free,I.freeC,I.pin,I.hok,I.len⟩
theorem SP.untr {f:Flow}(h:SP (X.tr E bL) [] D f s'):SP X bL D f s':=by
 cases f with
 |next=>obtain⟨σ',H',I,q⟩:=h;exact⟨σ',H',I.untr,q⟩
 |brk=>obtain⟨σ',H',I,q⟩:=h;exact⟨σ',H',I.untr,q⟩
 |cont=>obtain⟨σ',H',I,q⟩:=h;exact⟨σ',H',I.untr,q⟩
 |ret u=>obtain⟨v,σ',H',I,r,q⟩:=h;exact⟨v,σ',H',I.untr,r,q⟩
theorem SP.unhd (ok:X.Ok){f:Flow}(h:SP (X.hd a) bL D f s'):SP X bL D f s':=by
 cases f with
 |next=>obtain⟨σ',H',I,q⟩:=h;exact⟨σ',H',I.unhd ok,q⟩
 |brk=>obtain⟨σ',H',I,q⟩:=h;exact⟨σ',H',I.unhd ok,q⟩
 |cont=>obtain⟨σ',H',I,q⟩:=h;exact⟨σ',H',I.unhd ok,q⟩
 |ret u=>obtain⟨v,σ',H',I,r,q⟩:=h;exact⟨v,σ',H',I.unhd ok,r,q⟩
abbrev TH:=bO->bO->TS
def PH (X:Cx)(hs:List ExceptHandler)(th:TH):Prop:=∀(bL:List (bO×gF)) (s:bV) (σ:St) (H:Hp) (D:mm) (a C:bO) (dx:Option bO) (T:bO),Inv X bL σ H s->xE H a C dx (some T)->th a C D σ H ->
 cj (b9 X.prog X.w) X.A (handleBy (.ref a) X.env hs) (SP X bL D) X.xe s
theorem zrh:PH X [] (λ_ _ _ _ _=>False):=λ_ _ _ _ _ _ _ _ _ _ _ h=>h.elim
theorem UT {A:c8}{T:bO}{Q:Unit->bV->Prop}(I:Inv X bL σ H s)(x:xE H a C dx (some T))(h:Q () s):cj M A (setFlight (.ref a) none) Q E s:=by obtain⟨a0,he⟩:=I.xc x;obtain⟨ts,ht,h3⟩:=I.tbo x;unfold setFlight;refine bP (wpAny_field he rfl (x:=.ref T) (by simp) ?_);rw[if_pos (show(bJ.ref T != bJ.none)=true from by simp)];refine wpAny_setField ht rfl (lK.mp h3).1 ?_;show Q () { s with heap:=s.heap.update T (gF.mapFields (·.setIfInBounds 3 bJ.none)) };rw[tJ s.heap T _ ts 3 .none ht rfl h3];exact h
theorem YG {np:mE}{B:bO}{st:dO}{rest:List ExceptHandler}{tb:bO->TS}{th:TH}(hg:Gl X x)(hm:X.mg x=some (.ref B))(hb:∀a,uD (X.hd a) (st::body) (tb a))(hr:PH X rest th)(mn:lS x:=by decide) :
  PH X (.ExceptHandler (some (.Name x np)) none (st::body) pos::rest) (λa C D σ H=>∃b,iG X.K (.ref C) (.ref B)=some b/\if b=true then tb a D σ H else th a C D σ H):=by
 intro bL s σ H D a C dx T I xr h;obtain⟨b,hx,h⟩:=h;have I1:=I.hdl a;obtain⟨a0,he⟩:=I.xc xr;refine wpAny_handleBy_cons (codeAny_handlers_test (wj I1 hg hm ?_ mn)) (by intro z;cases z);have LT:d9 (b9 X.prog X.w) s.heap (typeOf (.ref a)) (.ref C):=(d9.ld he).andThen .now;refine(PySem.W.exm_one I.kIn LT hx).here ?_;cases b with
 |true=>rw[if_pos rfl]at h ⊢;refine codeAny_handlers_suite (UT I xr ?_);exact eo (hb a bL s σ H D I1 h) (λf s' q=>q.unhd I.ok) λ_ _ z=>False.elim z
 |false=>rw[if_neg cB]at h ⊢;exact hr bL s σ H D a C dx T I xr h
noncomputable def Fy (th:TH)(D:mm):GK:=λσ' a H'=>∃C dx T,xE H' a C dx (some T)/\th a C D σ' H'
theorem zri {h0:ExceptHandler}{hs:List ExceptHandler}{th:TH}{tb:∀(E:bJ->bV->Prop) (bL:List (bO×gF)) (G:GK),gI (b9 X.prog X.w) X.A X.env E->oK (X.tr E bL) G->TS}(k7:X.stack=X.env::X.outer)(hf:X.env.frame=some X.env.locals)
  (hb:∀E bL G h1 h2,uD (X.tr E bL) body (tb E bL G h1 h2)) (hh:PH X (h0::hs) th):PS X (.Try body (h0::hs) [] [] pos) (λD σ H=>∀E bL h1 h2,tb E bL (Fy th D) h1 h2 D σ H):=by
 intro bL s σ H D I h;refine wpAny_Try_except ?_;have key:cj (b9 X.prog X.w) X.A (execs body X.env) (SP (X.tr (λe s1=>cj (b9 X.prog X.w) X.A (noteFrame e X.env) (λ_ s2=>cj (b9 X.prog X.w) X.A (setFlight e none) (λ_ s3=>cj (b9 X.prog X.w) X.A (handleBy e X.env (h0::hs)) (SP X bL D) X.xe s3) X.xe s2) X.xe s1) bL) [] D)
   (λe s1=>cj (b9 X.prog X.w) X.A (noteFrame e X.env) (λ_ s2=>cj (b9 X.prog X.w) X.A (setFlight e none) (λ_ s3=>cj (b9 X.prog X.w) X.A (handleBy e X.env (h0::hs)) (SP X bL D) X.xe s3) X.xe s2) X.xe s1) s:=by
  have p1:gI (b9 X.prog X.w) X.A X.env (λe s1=>cj (b9 X.prog X.w) X.A (noteFrame e X.env) (λ_ s2=>cj (b9 X.prog X.w) X.A (setFlight e none) (λ_ s3=>cj (b9 X.prog X.w) X.A (handleBy e X.env (h0::hs)) (SP X bL D) X.xe s3) X.xe s2) X.xe s1) :=
   gI.looking (K:=λe s2=>cj (b9 X.prog X.w) X.A (setFlight e none) (λ_ s3=>cj (b9 X.prog X.w) X.A (handleBy e X.env (h0::hs)) (SP X bL D) X.xe s3) X.xe s2)
  have p2:oK (X.tr (λe s1=>cj (b9 X.prog X.w) X.A (noteFrame e X.env) (λ_ s2=>cj (b9 X.prog X.w) X.A (setFlight e none) (λ_ s3=>cj (b9 X.prog X.w) X.A (handleBy e X.env (h0::hs)) (SP X bL D) X.xe s3) X.xe s2) X.xe s1) bL) (Fy th D):=by intro q σ' H' s' a C dx tb I' xr g;have J:=I'.untr;refine J.note k7 hf J.ok.frames xr λs2 T hT J2=>?_;obtain⟨C2,J9,T2,Mg,h2⟩:=g T hT;exact hh bL s2 σ' _ D a C2 J9 T2 J2 Mg h2
  exact hb _ bL _ p1 p2 [] s σ H D (I.tr _) (h _ bL p1 p2)
 refine eo key (λf s1 q=>?_) λ_ _ z=>z;have q:=q.untr;cases f with
 |next=>exactλΓ p hΓ=>q
 |_=>exact q
variable {κ:Type}{y:V}
section
variable [DecidableEq κ]
noncomputable def nz (dZ:List (κ×V))(k:κ):Option V:=(dZ.find? λkv=>decide (kv.1=k)).map (·.2)
noncomputable def putK (dZ:List (κ×V))(k:κ)(v:V):List (κ×V) :=
 if(dZ.any λkv=>decide (kv.1=k))=true then dZ.map (λkv=>if kv.1=k then(kv.1,v)else kv)else dZ++[(k,v)]
theorem Ml {p:κ×V}{r:List (κ×V)}{k:κ}(e:p.1=k):nz (p::r) k=some p.2:=by simp[nz,eS,e]
theorem Mm {p:κ×V}{r:List (κ×V)}{k:κ}(e:¬p.1=k):nz (p::r) k=nz r k:=by simp[nz,eS,e]
theorem PX (k:κ):∀dZ:List (κ×V),(dZ.any λkv=>decide (kv.1=k))=(nz dZ k).isSome
 |[]=>rfl
 |p::r=>by
  rw[iz];by_cases e:p.1=k
  ·simp only[Ml e,decide_eq_true e,Bool.true_or,Option.isSome_some]
  ·rw[Mm e,decide_eq_false e,Bool.false_or];exact PX k r
theorem jx (dZ:List (κ×V))(k:κ)(v:V):(putK dZ k v).length<=dZ.length+1:=by
 unfold putK;split
 ·rw[bQ];omega
 ·rw[cn,b8,Cq];omega
theorem nI.isSome_eq {o:Option V}{u:Option bJ}(r:nI o u):o.isSome=u.isSome:=by
 cases o with
 |none=>cases u with
  |none=>rfl
  |some _=>exact(show False from r).elim
 |some _=>cases u with
  |none=>exact(show False from r).elim
  |some _=>rfl
theorem nI.getD {o:Option V}{u:Option bJ}{d:V}{d':bJ}(r:nI o u)(rd:RelV d d'):RelV (o.getD d) (u.getD d'):=by
 cases o with
 |none=>cases u with
  |none=>exact rd
  |some _=>exact(show False from r).elim
 |some _=>cases u with
  |none=>exact(show False from r).elim
  |some _=>exact r
theorem KV.val {dZ:List (κ×V)}{vs:List (κ×bJ)}(r:KV dZ vs)(k:κ):nI (nz dZ k) (sE vs k):=by
 unfold KV at r;induction r with
 |nil=>exact True.intro
 |@cons p q ps qs h t ih=>
  obtain⟨h1,h2⟩:=h;by_cases e:p.1=k
  ·have e':q.1=k:=h1.symm.trans e;have b:sE (q::qs) k=some q.2:=by simp[sE,eS,e']
   rw[Ml e,b];exact h2
  ·have e':¬q.1=k:=λz=>e (h1.trans z);have b:sE (q::qs) k=sE qs k:=by simp[sE,eS,e']
   rw[Mm e,b];exact ih
theorem KV.any {dZ:List (κ×V)}{vs:List (κ×bJ)}(r:KV dZ vs)(k:κ):(dZ.any λkv=>decide (kv.1=k))=vs.any λkv=>decide (kv.1=k):=by
 unfold KV at r;induction r with
 |nil=>rfl
 |cons h t ih=>rw[iz,iz,ih,h.1]
theorem KV.repl {dZ:List (κ×V)}{vs:List (κ×bJ)}(r:KV dZ vs)(k:κ)(ry:RelV y u) :
  KV (dZ.map λkv=>if kv.1=k then(kv.1,y)else kv) (vs.map λkv=>if kv.1=k then(kv.1,u)else kv):=by
 unfold KV at r ⊢;induction r with
 |nil=>exact .nil
 |@cons p q ps qs h t ih=>
  rw[ck,ck];refine .cons ?_ ih;obtain⟨h1,h2⟩:=h;by_cases e:p.1=k
  ·rw[if_pos e,if_pos (h1.symm.trans e)];exact⟨h1,ry⟩
  ·rw[if_neg e,if_neg (λz=>e (h1.trans z))];exact⟨h1,h2⟩
theorem KV.put {dZ:List (κ×V)}{vs:List (κ×bJ)}(r:KV dZ vs)(k:κ)(ry:RelV y u):KV (putK dZ k y) (stored vs k u):=by
 unfold putK stored;rw[r.any k];by_cases e:(vs.any λkv=>decide (kv.1=k))=true
 ·rw[if_pos e,if_pos e];exact r.repl k ry
 ·rw[if_neg e,if_neg e];exact Paired.snoc r ⟨rfl,ry⟩
theorem KV.length {dZ:List (κ×V)}{vs:List (κ×bJ)}(r:KV dZ vs):dZ.length=vs.length:=Paired.length r
end
theorem FF {w:dB}{k:ko}(r:RelV (kV k) u):(gB P w).is k u=true:=by
 cases k with
 |inl i=>obtain⟨t,e⟩:=(show∃t,u=bJ.int i t from r);subst e;exact UZ P w i t
 |inr x=>obtain⟨t,e⟩:=(show∃t,u=bJ.str x t from r);subst e;exact U0 P w x t
theorem Pj {P:dQ}{w:dB}:∀{ks:List ko} {us:List bJ},dm (ks.map kV) us->ItemsAre (gB P w) ks us
 |[],_,r=>by rw[pT]at r;cases r;exact .nil
 |k::ks,_,r=>by
  rw[ck]at r;cases r with
  |cons h t=>exact .cons (FF h) (Pj t)
abbrev KT (H:Hp):List (List ko×V)->List (List ko×bO×bJ)->Prop:=Paired λp q=>p.1=q.1/\H q.2.1=some (.tup (p.1.map kV))/\RelV p.2 q.2.2
variable {dZ:List (List ko×V)}
theorem KT.val {xs:List (List ko×bO×bJ)}(r:KT H dZ xs)(k:List ko):nI (nz dZ k) ((wX xs k).map (·.2)):=by
 induction r with
 |nil=>exact True.intro
 |@cons p q ps qs h t ih=>
  obtain⟨h1,_,h2⟩:=h;by_cases e:p.1=k
  ·have e':q.1=k:=h1.symm.trans e;have b:wX (q::qs) k=some q.2:=by simp[wX,eS,e']
   rw[Ml e,b];exact h2
  ·have e':¬q.1=k:=λz=>e (h1.trans z);have b:wX (q::qs) k=wX qs k:=by simp[wX,eS,e']
   rw[Mm e,b];exact ih
theorem KT.repl {xs:List (List ko×bO×bJ)}(r:KT H dZ xs)(k:List ko)(ry:RelV y u) :
  KT H (dZ.map λkv=>if kv.1=k then(kv.1,y)else kv) (xs.map (putAt k u)):=by
 induction r with
 |nil=>exact .nil
 |@cons p q ps qs h t ih=>
  rw[ck,ck];refine .cons ?_ ih;obtain⟨h1,h2,h3⟩:=h;unfold putAt;by_cases e:p.1=k
  ·rw[if_pos e,if_pos (h1.symm.trans e)];exact⟨h1,h2,ry⟩
  ·rw[if_neg e,if_neg (λz=>e (h1.trans z))];exact⟨h1,h2,h3⟩
variable {b:bO}
theorem KT.put {xs:List (List ko×bO×bJ)}(r:KT H dZ xs)(k:List ko)(hb:H b=some (.tup (k.map kV)))(ry:RelV y u) :
  KT H (putK dZ k y) (storedH xs k b u):=by
 have e:(dZ.any λkv=>decide (kv.1=k))=(wX xs k).isSome:=by rw[PX,(r.val k).isSome_eq,pv]
 unfold putK storedH;rw[e];by_cases q:(wX xs k).isSome=true
 ·rw[if_pos q,if_pos q];exact r.repl k ry
 ·rw[if_neg q,if_neg q];exact Paired.snoc r ⟨rfl,hb,ry⟩
theorem KT.keeps {xs:List (List ko×bO×bJ)}(r:KT H dZ xs)(ht:∀b ys,H b=some (.tup ys)->H' b=some (.tup ys)):KT H' dZ xs :=
 Paired.mapP r λ_ _ z=>⟨z.1,ht _ _ z.2.1,z.2.2⟩
section
variable {w:dB}
theorem RH {u:HO}(ok:oS P w H h)(e:Rd H a u):gj P w H h a u:=e.ok ok
theorem DB {dZ:List (ko×V)}(ok:oS P w H h)(e:Rd H a (.dK dZ)):dZ.length<=sizeLine/\(a==iE)=false/\∃vs,KV dZ vs/\h.DictOf (gB P w) a vs :=
 show gj P w H h a (.dK dZ)from RH ok e
theorem ztl {dZ:List (ko×V)}(ok:oS P w H h)(e:H a=some (.dK dZ)):dZ.length<=sizeLine/\(a==iE)=false/\∃vs,KV dZ vs/\h.DictOf (gB P w) a vs:=DB ok (.inl e)
theorem jy {ks:List ko}(ok:oS P w H h)(e:H a=some (.tup (ks.map kV))):(og (gB P w)).is h ks a:=by obtain⟨_,dJ,r,o,h1,h2,n,h3⟩:=(show gj P w H h a (.tup (ks.map kV))from ok a _ e);exact⟨o,dJ.toArray,n,h1,h2,h3,by simpa using Pj r⟩
theorem Ej (ok:oS P w H h)(e:Rd H a (.dT dZ)):dZ.length<=sizeLine/\(a==iE)=false /\
  ∃xs,KT H dZ xs/\h.DictOfH (og (gB P w)) a xs:=by
 obtain⟨z,y,xs,r,o,es,ep,h1,h2,h3,h4,h5⟩:=(show gj P w H h a (.dT dZ)from RH ok e);refine⟨z,y,xs,r,o,es,ep,h1,h2,h3,h4,λx hx=>?_,h5⟩;have all:∀{l:List (List ko×V)} {m:List (List ko×bO×bJ)},KT H l m->∀x∈m,(og (gB P w)).is h x.1 x.2.1:=by
  intro l m q;induction q with
  |nil=>intro x hx;exact nomatch hx
  |@cons p q ps qs hq t ih=>
   intro x hx;rcases bY.mp hx with e|hx
   ·subst e;exact jy ok (by rw[←hq.1];exact hq.2.1)
   ·exact ih x hx
 exact all r x hx
theorem ztm (ok:oS P w H h)(e:H a=some (.dT dZ)):dZ.length<=sizeLine/\(a==iE)=false /\
  ∃xs,KT H dZ xs/\h.DictOfH (og (gB P w)) a xs:=Ej ok (.inl e)
end
noncomputable def oQ (H:Hp)(a:bO)(y:V)(r:Option V):Prop :=
 (∃dZ k,Rd H a (.dK dZ)/\y=kV k/\r=nz dZ k)\/∃dZ k b,Rd H a (.dT dZ)/\y=.ref b/\H b=some (.tup (k.map kV))/\r=nz dZ k
noncomputable def sO (H:Hp)(a:bO)(y v:V)(H':Hp):Prop :=
 (∃dZ k,H a=some (.dK dZ)/\y=kV k/\dZ.length<sizeLine/\H'=upd H a (.dK (putK dZ k v))) \/
 ∃dZ k b,H a=some (.dT dZ)/\y=.ref b/\H b=some (.tup (k.map kV))/\dZ.length<sizeLine/\H'=upd H a (.dT (putK dZ k v))
theorem oQ.k {dZ:List (ko×V)}{k:ko}(e:H a=some (.dK dZ)):oQ H a (kV k) (nz dZ k):=.inl ⟨dZ,k,.inl e,rfl,rfl⟩
variable {v:V}
theorem sO.k {dZ:List (ko×V)}{k:ko}(e:H a=some (.dK dZ))(hl:dZ.length<sizeLine):sO H a (kV k) v (upd H a (.dK (putK dZ k v))):=.inl ⟨dZ,k,e,rfl,hl,rfl⟩
theorem sO.t {k:List ko}(e:H a=some (.dT dZ))(eb:H b=some (.tup (k.map kV)))(hl:dZ.length<sizeLine) :
  sO H a (.ref b) v (upd H a (.dT (putK dZ k v))):=.inr ⟨dZ,k,b,e,rfl,eb,hl,rfl⟩
variable {Q:bJ->bV->Prop}
section
variable {r:bJ}{o:Option V}{A:c8}
theorem Inv.big (I:Inv X bL σ H s):iE<s.heap.objs.size:=by have h:eu<s.heap.objs.size:=(I.mod.glob.keeps I.bk).lt;exact Nat.lt_trans (by decide) h
theorem VW (hu:A.units+1<jH)(I:Inv X bL σ H s)(g:oQ H a y (some v))(ry:RelV y u)(h:∀w' s',Inv X bL σ H s'->RelV v w'->Q w' s') :
  cj (b9 X.prog X.w) A (sA (.ref a) u) Q E s:=by
 rcases g with⟨dZ,k,e,ey,l⟩|⟨dZ,k,b,e,ey,eb,l⟩
 ·subst ey;obtain⟨z,hd,vs,rel,dd⟩:=DB I.hok e;obtain⟨w',hw,qZ⟩:=nI.some_of (v:=v) (o:=sE vs k) (by rw[l];exact rel.val k);exact wpAny_getItem_of (FF ry) dd.mapOf hw (h w' _ (I.tok _) qZ)
 ·subst ey;cases(show u=bJ.ref b from ry);obtain⟨z,hd,xs,rel,dd⟩:=Ej I.hok e;obtain⟨w',hw,qZ⟩:=nI.some_of (v:=v) (o:=(wX xs k).map (·.2)) (by rw[l];exact rel.val k);obtain⟨p,hp,F8⟩:=dz.mp hw;refine wpAny_getItem_heap (iF hu) (jy I.hok eb) dd hp ?_;rw[F8];exact h w' _ (I.tok _) qZ
theorem J6 (hu:A.units+1<jH)(I:Inv X bL σ H s)(g:oQ H a y o)(ry:RelV y u)(h:∀s',Inv X bL σ H s'->Q (.bool o.isSome) s') :
  cj (b9 X.prog X.w) A (d5 .In u (.ref a)) Q E s:=by
 rcases g with⟨dZ,k,e,ey,l⟩|⟨dZ,k,b,e,ey,eb,l⟩
 ·subst ey;obtain⟨z,hd,vs,rel,dd⟩:=DB I.hok e;refine wpAny_in_of (FF ry) hd dd.mapOf ?_;rw[←(rel.val k).isSome_eq,←l];exact h _ (I.tok _)
 ·subst ey;cases(show u=bJ.ref b from ry);obtain⟨z,hd,xs,rel,dd⟩:=Ej I.hok e;refine wpAny_in_heap (iF hu) (jy I.hok eb) hd dd ?_;have q:=(rel.val k).isSome_eq;rw[pv]at q;rw[←q,←l];exact h _ (I.tok _)
theorem YH (hu:A.units+1<jH)(I:Inv X bL σ H s)(g:oQ H a y o)(ry:RelV y u)(h:∀s',Inv X bL σ H s'->Q (.bool (!o.isSome)) s') :
  cj (b9 X.prog X.w) A (d5 .NotIn u (.ref a)) Q E s:=by
 rcases g with⟨dZ,k,e,ey,l⟩|⟨dZ,k,b,e,ey,eb,l⟩
 ·subst ey;obtain⟨z,hd,vs,rel,dd⟩:=DB I.hok e;refine wpAny_notIn_of (FF ry) hd dd.mapOf ?_;rw[←(rel.val k).isSome_eq,←l];exact h _ (I.tok _)
 ·subst ey;cases(show u=bJ.ref b from ry);obtain⟨z,hd,xs,rel,dd⟩:=Ej I.hok e;refine wpAny_notIn_heap (iF hu) (jy I.hok eb) hd dd ?_;have q:=(rel.val k).isSome_eq;rw[pv]at q;rw[←q,←l];exact h _ (I.tok _)
theorem Qn {ob:HO}(I:Inv X bL σ H s)(mu:Gx (H a))(hs:lC a s.heap h')(he:∃q,h'.get? a=some q)(new:gj X.prog X.w (upd H a ob) h' a ob) :
  Inv X bL σ (upd H a ob) { s with heap:=h',toks:=t' } :=
 I.write (x:=a) (e:=a) mu (.inl rfl) (λb q hb z=>(hs.2 b hb).trans z) he new
theorem zrk {w:dB}{dZ:List (ko×V)}{vs:List (ko×bJ)}(z:dZ.length<=sizeLine)(hd:(a==iE)=false)(rel:KV dZ vs)(dd:h'.DictOf (gB P w) a vs) :
  gj P w H' h' a (.dK dZ):=⟨z,hd,vs,rel,dd⟩
theorem VX {Q:Unit->bV->Prop}(hu:A.units+1<jH)(I:Inv X bL σ H s)(g:sO H a y v H')(ry:RelV y u)(rv:RelV v r)(h:∀s',Inv X bL σ H' s'->Q () s') :
  cj (b9 X.prog X.w) A (sD (.ref a) u r) Q E s:=by
 rcases g with⟨dZ,k,e,ey,l,eH⟩|⟨dZ,k,b,e,ey,eb,l,eH⟩
 ·subst ey eH;obtain⟨z,hd,vs,rel,dd⟩:=ztl I.hok e;have hz:vs.length<=sizeLine:=by rw[←rel.length];exact z
  have hl:(putK dZ k v).length<=sizeLine:=by have:=jx dZ k v;omega
  refine wpAny_setItem_pairs (hsz:=hz) (FF ry) dd λh' Iz hs=>h _ ?_;have he:∃q,h'.get? a=some q:=let⟨q,_,_,hq,_⟩:=Iz;⟨q,hq⟩;exact Qn I (by rw[e];exact True.intro) hs he (zrk hl hd (rel.put k rv) Iz)
 ·subst ey eH;cases(show u=bJ.ref b from ry);obtain⟨z,hd,xs,rel,dd⟩:=ztm I.hok e;have hz:xs.length<=sizeLine:=by rw[←Paired.length rel];exact z
  have hl:(putK dZ k v).length<=sizeLine:=by have:=jx dZ k v;omega
  refine wpAny_setItem_heap (hsz:=hz) (iF hu) (jy I.hok eb) dd λh' Iz hs=>h _ ?_;obtain⟨q,es,ep,hq,h2,h3,h4,_,h5⟩:=Iz;refine Qn I (by rw[e];exact True.intro) hs ⟨q,hq⟩ ⟨hl,hd,_,(rel.put k eb rv).keeps λc ys ec=>?_,q,es,ep,hq,h2,h3,h4,h5⟩;rw[zj (zte ec e (λz=>nomatch z))];exact ec
end
section
variable {dZ:List (ko×V)}{k:ko}{A:c8}
theorem ztn (I:Inv X bL σ H s)(e:Rd H a (.dK dZ))(h:∀t s',Inv X bL σ H s'->Q (.int dZ.length t) s'):cj (b9 X.prog X.w) A (call (.builtin "len") [.ref a]) Q E s:=by obtain⟨z,hd,vs,rel,dd⟩:=DB I.hok e;refine call_len_dict hd dd (by rw[←rel.length];rw[dF]at z;omega) ?_;rw[←rel.length];exact h _ _ (I.tok _)
end
def Em (i:Expr):Prop:=∀ov iv,uC i false ov iv=operate [ov,iv] (sA ov iv)
variable {T:String}
theorem YI {prog:dQ}{w:dB}{A:c8}{env:Env}{slice:Expr}{id:String}
  (hl:rB (.type T) "__getitem__"=pure (some (.builtin id))) (hs:Em slice)
  (h:cj (b9 prog w) A (dR value env) (λo s₁=>cj (b9 prog w) A (dR slice env) (λi s₂=>s₂.TypeIs o T/\cj (b9 prog w) A (sA o i) Q E s₂) E s₁) E s) :
  cj (b9 prog w) A (dR (.Subscript value slice pos) env) Q E s:=by
 refine Subscript_ (eo h (λo s₁ h₁=>eo h₁ (λi s₂ h₂=>?_) λ_ _ x=>x) λ_ _ x=>x);obtain⟨hT,h₂⟩:=h₂;unfold subscriptTail;refine bP ?_;rw[getitemInPython_of_ne hT.not_modules];refine bP (vC hT hl ?_);have fin:cj (b9 prog w) A (uC slice false o i) (λr s₃=>cj (b9 prog w) A (letTemporaryGo value o r >>= λ_=>pure r) Q E s₃) E s₂:=by rw[hs o i];exact wpAny_operating (eo h₂ (λr s₃ h₃=>bP (wpAny_letTemporaryGo (cy h₃))) λ_ _ x=>x)
 first
  |exact cy (bP fin)
  |exact bP (cy (bP fin))
  |exact bP fin
theorem Ve {o:Option V}(I:Inv X bL σ H s)(g:oQ H a y o):s.TypeIs (.ref a) "dict":=by
 rcases g with⟨dZ,k,e,_,_⟩|⟨dZ,k,b,e,_,_,_⟩
 ·obtain⟨_,_,vs,_,dd⟩:=DB I.hok e;exact dd.typeIs
 ·obtain⟨_,_,xs,_,dd⟩:=Ej I.hok e;exact dd.typeIs
noncomputable def HV (td ty:TE):TE:=λσ H Q=>td σ H λx H1=>ty σ H1 λy H2=>∃a v,x=.ref a/\oQ H2 a y (some v)/\Q v H2
noncomputable def LW (ty td:TE):TE:=λσ H Q=>ty σ H λy H1=>td σ H1 λx H2=>∃a o,x=.ref a/\oQ H2 a y o/\Q (.bl o.isSome) H2
noncomputable def Du (ty td:TE):TE:=λσ H Q=>ty σ H λy H1=>td σ H1 λx H2=>∃a o,x=.ref a/\oQ H2 a y o/\Q (.bl (!o.isSome)) H2
noncomputable def HN (td ty tv:TE):TS:=λD σ H=>tv σ H λv H1=>td σ H1 λx H2=>ty σ H2 λy H3=>∃a H4,x=.ref a/\sO H3 a y v H4/\D.nx σ H4
variable {lU:mE}
section
variable {i:Expr}{td ty:TE}
theorem YJ (hu:X.A.units+1<jH)(ho:PE X o td)(hi:PE X i ty)(hs:Em i):PE X (.Subscript o i pos) (HV td ty):=by intro bL s σ H Q I h;refine YI PySem.F.slot_dict_getitem.lookup hs (eT (ho bL s σ H _ I h) λu s1 ⟨x,H1,I1,rx,q1⟩=>eT (hi bL s1 σ H1 _ I1 q1) λiv s2 f7=>?_);obtain⟨y,H2,I2,ry,a,v,ex,g,q2⟩:=f7;subst ex;obtain rfl:u=bJ.ref a:=rx;exact⟨Ve I2 g,VW hu I2 g ry λw' s3 I3 qZ=>⟨v,H2,I3,qZ,q2⟩⟩
theorem zrl (hu:X.A.units+1<jH)(hi:PE X i ty)(ho:PE X o td):PC X .In i o (LW ty td):=by intro bL s σ H Q I h;refine eT (hi bL s σ H _ I h) λiv s1 ⟨y,H1,I1,ry,q1⟩=>eT (ho bL s1 σ H1 _ I1 q1) λu s2 f7=>?_;obtain⟨x,H2,I2,rx,a,ov,ex,g,q2⟩:=f7;subst ex;obtain rfl:u=bJ.ref a:=rx;exact J6 hu I2 g ry λs3 I3=>⟨.bl ov.isSome,H2,I3,rfl,q2⟩
theorem VY (hu:X.A.units+1<jH)(hi:PE X i ty)(ho:PE X o td):PC X .NotIn i o (Du ty td):=by intro bL s σ H Q I h;refine eT (hi bL s σ H _ I h) λiv s1 ⟨y,H1,I1,ry,q1⟩=>eT (ho bL s1 σ H1 _ I1 q1) λu s2 f7=>?_;obtain⟨x,H2,I2,rx,a,ov,ex,g,q2⟩:=f7;subst ex;obtain rfl:u=bJ.ref a:=rx;exact YH hu I2 g ry λs3 I3=>⟨.bl (!ov.isSome),H2,I3,rfl,q2⟩
theorem Qo (hu:X.A.units+1<jH)(ho:PE X o td)(hi:PE X i ty)(hv:PE X value tv)(hs:gq value (some (.Subscript o i pos')) pos.line X.env=pure false) :
  PS X (.Assign [.Subscript o i pos'] value pos) (HN td ty tv):=by
 intro bL s σ H D I h;refine wpAny_Assign_Subscript (eT (hv bL s σ H _ I h) λr s1 ⟨v,H1,I1,rv,q1⟩=>eT (ho bL s1 σ H1 _ I1 q1) λu s2 ⟨x,H2,I2,rx,q2⟩=>eT (hi bL s2 σ H2 _ I2 q2) λiv s3 ⟨y,H3,I3,ry,a,H4,ex,g,q3⟩=>?_) hs;subst ex;obtain rfl:u=bJ.ref a:=rx;exact VX hu I3 g ry rv λs4 I4=>⟨σ,H4,I4,q3⟩
end
theorem WY {w:dB}(h:cz)(hb:iE<h.objs.size):gj P w H (h.push { cls:=.type "dict",data:=.dict #[] }) h.objs.size (.dK []) :=
  ⟨ej _,beq_eq_false_iff_ne.mpr (Ne.symm (cN hb)),[],.nil,cz.DictOf.new h⟩
theorem Wu {w:dB}(h:cz)(hb:iE<h.objs.size):gj P w H (h.push { cls:=.type "dict",data:=.dict #[] }) h.objs.size (.dT []) :=
  ⟨ej _,beq_eq_false_iff_ne.mpr (Ne.symm (cN hb)),[],.nil,_,#[],0,cU _ rfl,⟨rfl,rfl,rfl⟩,rfl,rfl,cZ⟩
def Fm:TE:=λ_ H Q=>∀p,H p=none->Q (.ref p) (upd H p (.dK []))
def Fo:TE:=λ_ H Q=>∀p,H p=none->Q (.ref p) (upd H p (.dT []))
theorem Wv:PE X (.Dict [] [] pos) Fm:=λbL s σ H Q I h=>wpAny_Dict_empty ⟨.ref s.heap.objs.size,_,I.laid (a:=s.heap.objs.size) (o:=.dK []) (t':=s.toks) (λ_ _ q=>bT _ q) (b7 _) (WY s.heap I.big),rfl,h _ (I.hok.fresh (b7 _))⟩
theorem Ww:PE X (.Dict [] [] pos) Fo:=λbL s σ H Q I h=>wpAny_Dict_empty ⟨.ref s.heap.objs.size,_,I.laid (a:=s.heap.objs.size) (o:=.dT []) (t':=s.toks) (λ_ _ q=>bT _ q) (b7 _) (Wu s.heap I.big),rfl,h _ (I.hok.fresh (b7 _))⟩
structure M1 (X:Cx)(o:Expr)(m:Str)(fK:mE)(e:Expr)(fW:mE):Prop where
 base:DJ X o m
 few:((iD fW (cT [e] X.env)).all (λx=>!x.1)&&(ij fW (eO [] X.env)).all (λx=>x.1.isSome)
  && decide (([e]:List Expr).length+([]:List nG).length+(if([]:List nG).isEmpty then 0 else 1)<30))=true
 line:(fK.endLine==fW.line)=true
 trees:iD fW (cT [e] X.env)=[(false,dR e X.env)]
structure M2 (X:Cx)(o:Expr)(m:Str)(fK:mE)(e f:Expr)(fW:mE):Prop where
 base:DJ X o m
 few:((iD fW (cT [e,f] X.env)).all (λx=>!x.1)&&(ij fW (eO [] X.env)).all (λx=>x.1.isSome)
  && decide (([e,f]:List Expr).length+([]:List nG).length+(if([]:List nG).isEmpty then 0 else 1)<30))=true
 line:(fK.endLine==fW.line)=true
 trees:iD fW (cT [e,f] X.env)=[(false,dR e X.env),(false,dR f X.env)]
def FI (H:Hp)(a:bO):Prop:=(∃dZ,Rd H a (.dK dZ))\/∃dZ,Rd H a (.dT dZ)
theorem Rb (I:Inv X bL σ H s)(d:FI H a) :
  s.TypeIs (.ref a) "dict"/\(∀b,bJ.ref a=.ref b->∃ob,s.heap.get? b=some ob/\ob.dict=none)/\(a==iE)=false:=by
 rcases d with⟨dZ,e⟩|⟨dZ,e⟩
 ·obtain⟨_,hd,vs,_,dd⟩:=DB I.hok e;refine⟨dd.typeIs,λb q=>?_,hd⟩;cases q;obtain⟨ob,_,_,h1,h2,_⟩:=dd;exact⟨ob,h1,h2.2.1⟩
 ·obtain⟨_,hd,xs,_,dd⟩:=Ej I.hok e;refine⟨dd.typeIs,λb q=>?_,hd⟩;cases q;obtain⟨ob,_,_,h1,h2,_⟩:=dd;exact⟨ob,h1,h2.2.1⟩
section
variable {d:V}{r:bJ}{o:Option V}{A:c8}
theorem zrm (hu:A.units+1<jH)(I:Inv X bL σ H s)(g:oQ H a y o)(ry:RelV y u)(h:∀w' s',Inv X bL σ H s'->RelV (o.getD .non) w'->Q w' s') :
  cj (b9 X.prog X.w) A (call (.builtin "dict.get") [.ref a,u]) Q E s:=by
 rcases g with⟨dZ,k,e,ey,l⟩|⟨dZ,k,b,e,ey,eb,l⟩
 ·subst ey;obtain⟨z,hd,vs,rel,dd⟩:=DB I.hok e;refine call_meetsIn PySem.F.slot_dict_get dd.typeIs PySem.F.entry_dict_get (PySem.F.args_dict_get_2 _ _) (meets_dict_get (gB X.prog X.w) a (FF ry) hd) ⟨_,dd.mapOf,h _ _ (I.tok _) ?_⟩;rw[l];exact(rel.val k).getD rfl
 ·subst ey;cases(show u=bJ.ref b from ry);obtain⟨z,hd,xs,rel,dd⟩:=Ej I.hok e;refine call_meetsIn PySem.F.slot_dict_get dd.typeIs PySem.F.entry_dict_get (PySem.F.args_dict_get_2 _ _) (meetsH_dict_get (og (gB X.prog X.w)) a b hd) ⟨iF hu,k,xs,jy I.hok eb,dd,h _ _ (I.tok _) ?_⟩;rw[l];exact(rel.val k).getD rfl
theorem zrn (hu:A.units+1<jH)(I:Inv X bL σ H s)(g:oQ H a y o)(ry:RelV y u)(rd:RelV d r)(h:∀w' s',Inv X bL σ H s'->RelV (o.getD d) w'->Q w' s') :
  cj (b9 X.prog X.w) A (call (.builtin "dict.get") [.ref a,u,r]) Q E s:=by
 rcases g with⟨dZ,k,e,ey,l⟩|⟨dZ,k,b,e,ey,eb,l⟩
 ·subst ey;obtain⟨z,hd,vs,rel,dd⟩:=DB I.hok e;refine call_meetsIn PySem.F.slot_dict_get dd.typeIs PySem.F.entry_dict_get (PySem.F.args_dict_get_3 _ _ _) (meets_dict_get_default (gB X.prog X.w) a (FF ry) hd r) ⟨_,dd.mapOf,h _ _ (I.tok _) ?_⟩;rw[l];exact(rel.val k).getD rd
 ·subst ey;cases(show u=bJ.ref b from ry);obtain⟨z,hd,xs,rel,dd⟩:=Ej I.hok e;refine call_meetsIn PySem.F.slot_dict_get dd.typeIs PySem.F.entry_dict_get (PySem.F.args_dict_get_3 _ _ _) (meetsH_dict_get_default (og (gB X.prog X.w)) a b hd r) ⟨iF hu,k,xs,jy I.hok eb,dd,h _ _ (I.tok _) ?_⟩;rw[l];exact(rel.val k).getD rd
end
noncomputable def Fj (td ty:TE):TE:=λσ H Q=>td σ H λx H1=>∃a,x=.ref a/\FI H1 a/\ty σ H1 λy H2=>∃o,oQ H2 a y o/\Q (o.getD .non) H2
noncomputable def Fk (td ty tx:TE):TE:=λσ H Q=>td σ H λx H1=>∃a,x=.ref a/\FI H1 a/\ty σ H1 λy H2=>tx σ H2 λz H3=>∃o,oQ H3 a y o/\Q (o.getD z) H3
section
variable {f:Expr}{fW:mE}{td ty tx:TE}
theorem Wx (hu:X.A.units+1<jH)(ho:PE X o td)(he:PE X e ty)(m:M1 X o "get" fK e fW):PE X (.Call (.Attribute o "get" fK) [e] [] fW) (Fj td ty):=by intro bL s σ H Q I h;refine wpAny_Call_method m.base m.few m.line PySem.F.plainAttrs_dict PySem.F.slot_dict_get PySem.F.type_dict_get (eT (ho bL s σ H _ I h) λu s1 f7=>?_);obtain⟨x,H1,I1,rx,a,ex,d,q1⟩:=f7;subst ex;obtain rfl:u=bJ.ref a:=rx;obtain⟨t1,t2,_⟩:=Rb I1 d;refine⟨t1,t2,?_⟩;rw[m.trees];refine Calls.callWith_builtin rfl (Calls.evalArgs_plain (Calls.spliced_cons (eT (he bL s1 σ H1 _ I1 q1) λiv s2 ⟨y,H2,I2,ry,ov,g,q2⟩=>Calls.spliced_nil ?_)));exact zrm hu I2 g ry λw' s3 I3 qZ=>⟨_,H2,I3,qZ,q2⟩
theorem Wy (hu:X.A.units+1<jH)(ho:PE X o td)(he:PE X e ty)(hf:PE X f tx)(m:M2 X o "get" fK e f fW):PE X (.Call (.Attribute o "get" fK) [e,f] [] fW) (Fk td ty tx):=by intro bL s σ H Q I h;refine wpAny_Call_method m.base m.few m.line PySem.F.plainAttrs_dict PySem.F.slot_dict_get PySem.F.type_dict_get (eT (ho bL s σ H _ I h) λu s1 f7=>?_);obtain⟨x,H1,I1,rx,a,ex,d,q1⟩:=f7;subst ex;obtain rfl:u=bJ.ref a:=rx;obtain⟨t1,t2,_⟩:=Rb I1 d;refine⟨t1,t2,?_⟩;rw[m.trees];refine Calls.callWith_builtin rfl (Calls.evalArgs_plain (Calls.spliced_cons (eT (he bL s1 σ H1 _ I1 q1) λiv s2 ⟨y,H2,I2,ry,q2⟩=>Calls.spliced_cons (eT (hf bL s2 σ H2 _ I2 q2) λfv s3 ⟨z,H3,I3,rz,ov,g,q3⟩=>Calls.spliced_nil ?_))));exact zrn hu I3 g ry rz λw' s4 I4 qZ=>⟨_,H3,I4,qZ,q3⟩
end
theorem VZ:iA X (.builtin "len") (λxs H Q=>∃a dZ,xs=[V.ref a]/\H a=some (.dK dZ)/\Q (.int dZ.length) H):=by intro bL s σ H xs us Q I r h;obtain⟨a,dZ,rfl,ha,q⟩:=h;obtain⟨u,rfl,ru⟩:=sg r;cases ru;exact ztn I (.inl ha) λt s' I'=>⟨.int dZ.length,H,I',⟨t,rfl⟩,q⟩
def Sz (n:Nat)(i:Int):Prop:=i.natAbs<2 ^ n
theorem Sz.bits {i:Int}(h:Sz n i):er.Int.intBits i<=n:=by
 unfold er.Int.intBits;by_cases h0:(i==0)=true
 ·rw[if_pos h0];exact ej _
 ·rw[if_neg h0];have hi:i.natAbs≠0:=by
   have:i≠0:=by simpa using h0
   omega
  exact Nat.succ_le_of_lt ((rJ hi).mpr h)
theorem Sz.log {i:Int}(h:Sz n i)(hn:0<n):i.natAbs.log2<n:=by
 by_cases hi:i.natAbs=0
 ·rw[hi];exact hn
 ·exact(rJ hi).mpr h
theorem Sz.mono {m:Nat}{i:Int}(h:Sz n i)(hm:n<=m):Sz m i:=cL h (fG (by decide) hm)
theorem Sz.le {i j:Int}(h:Sz n i)(hj:j.natAbs<=i.natAbs):Sz n j:=pN hj h
theorem Sz.mul {m:Nat}{i j:Int}(h:Sz n i)(h':Sz m j):Sz (n+m) (i*j):=by unfold Sz at *;rw[DD,Nat.pow_add];exact Nat.mul_lt_mul'' h h'
theorem Sz.add {i j:Int}(h:Sz n i)(h':Sz n j):Sz (n+1) (i+j):=by unfold Sz at *;rw[qD];omega
def tM (i j:Int):Prop:=El i j\/(Sz 100000 i/\Sz 100000 j)
theorem tM.ok {i j:Int}(h:tM i j):IntMulOk i j:=by
 rcases h with h|h
 ·exact h.ok
 ·exact IntMulOk.of_bits (dA h.1.bits (by decide)) (dA h.2.bits (by decide))
theorem Yf:kN X (gC .Mult) (rI tM λi j=>.int (i*j)):=Ge λ_ _ _ _ _ _ _ hc q=>mul_int q hc.ok
theorem Wz:kN X (gC .FloorDiv) (rI (λ_ j=>j≠0/\Sz 9000 j) λi j=>.int (i.fdiv j)) :=
 Ge λ_ _ _ _ _ _ _ hc q=>floordiv_int hc.1 q (.inl (PyProof.noPylong_of_log2 (hc.2.log (by decide))))
theorem RelV.bool_iff {x:V}{v:bJ}{b:Bool}(r:RelV x v):(v==bJ.bool b)=decide (x=.bl b):=by
 cases x with
 |bl c=>
  cases(show v=bJ.bool c from r);by_cases h:c=b
  ·subst h;simp
  ·have h1:¬V.bl c=V.bl b:=λz=>h (V.bl.inj z);rw[decide_eq_false h1];exact beq_eq_false_iff_ne.mpr λz=>h (by injection z)
 |non=>cases(show v=bJ.none from r);rw[decide_eq_false (λz=>nomatch z)];exact beq_eq_false_iff_ne.mpr λz=>nomatch z
 |int i=>obtain⟨t,rfl⟩:=(show∃t,v=bJ.int i t from r);rw[decide_eq_false (λz=>nomatch z)];exact beq_eq_false_iff_ne.mpr λz=>nomatch z
 |str i=>obtain⟨t,rfl⟩:=(show∃t,v=bJ.str i t from r);rw[decide_eq_false (λz=>nomatch z)];exact beq_eq_false_iff_ne.mpr λz=>nomatch z
 |byt i=>obtain⟨t,rfl⟩:=(show∃t,v=bJ.bytes i t from r);rw[decide_eq_false (λz=>nomatch z)];exact beq_eq_false_iff_ne.mpr λz=>nomatch z
 |flt i=>obtain⟨t,rfl⟩:=(show∃t,v=bJ.float i t from r);rw[decide_eq_false (λz=>nomatch z)];exact beq_eq_false_iff_ne.mpr λz=>nomatch z
 |ref i=>cases(show v=bJ.ref i from r);rw[decide_eq_false (λz=>nomatch z)];exact beq_eq_false_iff_ne.mpr λz=>nomatch z
 |ty i=>cases(show v=bJ.type i from r);rw[decide_eq_false (λz=>nomatch z)];exact beq_eq_false_iff_ne.mpr λz=>nomatch z
theorem uz {x:V}{v:bJ}{b:Bool}(r:RelV x v):plainIs v (.bool b)=true:=by
 cases x with
 |bl c=>cases(show v=bJ.bool c from r);rfl
 |non=>cases(show v=bJ.none from r);rfl
 |int i=>obtain⟨t,rfl⟩:=(show∃t,v=bJ.int i t from r);rfl
 |str i=>obtain⟨t,rfl⟩:=(show∃t,v=bJ.str i t from r);rfl
 |byt i=>obtain⟨t,rfl⟩:=(show∃t,v=bJ.bytes i t from r);rfl
 |flt i=>obtain⟨t,rfl⟩:=(show∃t,v=bJ.float i t from r);rfl
 |ref i=>cases(show v=bJ.ref i from r);rfl
 |ty i=>cases(show v=bJ.type i from r);rfl
theorem zro:kN X (d5 .Is) (λx y H Q=>∃b,y=.bl b/\Q (.bl (decide (x=.bl b))) H):=by intro bL s σ H x y v u Q I rx ry h;obtain⟨b,rfl,q⟩:=h;cases ry;exact wpAny_is_plain (uz rx) (JJ I q (RelV.bool_iff rx).symm)
theorem V0:kN X (d5 .IsNot) (λx y H Q=>∃b,y=.bl b/\Q (.bl (!decide (x=.bl b))) H):=by intro bL s σ H x y v u Q I rx ry h;obtain⟨b,rfl,q⟩:=h;cases ry;exact wpAny_isNot_plain (uz rx) (JJ I q (by rw[RelV.bool_iff rx]))
theorem WA:iA X (.builtin "isinstance") (λxs H Q=>∃x c t b,xs=[x,.ty c]/\oT X.K H x t/\gH X.K t (.type c)=some b/\Q (.bl b) H):=by intro bL s σ H xs us Q I r h;obtain⟨x,c,t,b,rfl,ty,e,q⟩:=h;obtain⟨u,w',rfl,ru,qZ⟩:=vals2 r;cases(show w'=bJ.type c from qZ);exact O8 I ru ty e λtk=>⟨.bl b,H,I.tok tk,rfl,q⟩
theorem V3:iA X (.builtin "isinstance") (λxs H Q=>∃x C t b,xs=[x,.ref C]/\oT X.K H x t/\gH X.K t (.ref C)=some b/\Q (.bl b) H):=by intro bL s σ H xs us Q I r h;obtain⟨x,c,t,b,rfl,ty,e,q⟩:=h;obtain⟨u,w',rfl,ru,qZ⟩:=vals2 r;cases(show w'=bJ.ref c from qZ);exact O8 I ru ty e λtk=>⟨.bl b,H,I.tok tk,rfl,q⟩
mutual
inductive Dt (K:bM)(H:Hp):V->d8->Prop
 |non:Dt K H .non .none
 |bl (b:Bool):Dt K H (.bl b) (.bool b)
 |int (i:Int):Dt K H (.int i) (.int i)
 |str (x:Str):Dt K H (.str x) (.str x)
 |lst {a:bO} {xs:List V} {ds:List d8}:jU K H a xs->Dts K H xs ds->Dt K H (.ref a) (.list ds)
 |tup {a:bO} {xs:List V} {ds:List d8}:pA K H a xs->Dts K H xs ds->Dt K H (.ref a) (.tuple ds)
inductive Dts (K:bM)(H:Hp):List V->List d8->Prop
 |nil:Dts K H [] []
 |cons {v:V} {d:d8} {vs:List V} {ds:List d8}:Dt K H v d->Dts K H vs ds->Dts K H (v::vs) (d::ds)
end
mutual
theorem Dt.reads (I:Inv X bL σ H s):∀{v:V} {d:d8} {u:bJ},Dt X.K H v d->RelV v u->∃as,Reads s.heap u d as
 |_,_,_,.non,r=>by cases r;exact⟨_,.none⟩
 |_,_,_,.bl b,r=>by cases r;exact⟨_,.bool b⟩
 |_,_,_,.int i,r=>by obtain⟨t,rfl⟩:=r;exact⟨_,.int i t⟩
 |_,_,_,.str x,r=>by obtain⟨t,rfl⟩:=r;exact⟨_,.str x t⟩
 |_,_,_,.lst hq ds,r=>by obtain⟨dJ,rv,⟨o,n,e,c,_,dd⟩,_⟩:=I.list hq;obtain⟨as,ra⟩:=Dts.reads I ds rv;cases r;exact⟨_,.list e c dd (by simpa using ra)⟩
 |_,_,_,.tup hq ds,r=>by obtain⟨dJ,rv,⟨o,e,c,n,dd⟩,_⟩:=I.tuple hq;obtain⟨as,ra⟩:=Dts.reads I ds rv;cases r;exact⟨_,.tuple e c dd (by simpa using ra)⟩
theorem Dts.reads (I:Inv X bL σ H s):∀{vs:List V} {ds:List d8} {us:List bJ},Dts X.K H vs ds->dm vs us->∃as,ReadsAll s.heap us ds as
 |_,_,_,.nil,r=>by cases r;exact⟨_,.nil⟩
 |_,_,_,.cons h t,r=>by
  cases r with
  |cons p q=>obtain⟨as,ra⟩:=Dt.reads I h p;obtain⟨bs,rb⟩:=Dts.reads I t q;exact⟨_,.cons ra rb⟩
end
noncomputable def E8 (K:bM)(neg:Bool):R2:=λx y H Q=>∃d e,Dt K H x d/\Dt K H y e/\d.canLay0=true/\e.canLay0=true/\min d.depth e.depth<=60/\Q (.bl (if neg then !d8.eqv d e else d8.eqv d e)) H
theorem Rc (hu:X.A.units+64<jH):kN X (d5 .Eq) (E8 X.K false):=by intro bL s σ H x y v u Q I rx ry h;obtain⟨d,e,hd,he,c1,c2,dp,q⟩:=h;obtain⟨as,ra⟩:=hd.reads I rx;obtain⟨bs,rb⟩:=he.reads I ry;exact SeqAt.compareEq_reads ra rb c1 c2 (by omega) ⟨.bl _,H,I,rfl,q⟩
theorem zrp (hu:X.A.units+64<jH):kN X (d5 .NotEq) (E8 X.K true):=by intro bL s σ H x y v u Q I rx ry h;obtain⟨d,e,hd,he,c1,c2,dp,q⟩:=h;obtain⟨as,ra⟩:=hd.reads I rx;obtain⟨bs,rb⟩:=he.reads I ry;exact SeqAt.compareNe_reads ra rb c1 c2 (by omega) ⟨.bl _,H,I,rfl,q⟩
theorem Dts.ints (K:bM)(H:Hp):∀ns:List Int,Dts K H (ns.map V.int) (ns.map d8.int)
 |[]=>.nil
 |n::r=>.cons (.int n) (Dts.ints K H r)
theorem xl {p:bO}(h:H p=none)(o:HO):c9 H (upd H p o):=λb u q=>by rw[zj (zl q h)];exact q
theorem fC.u64 {k:Nat}{A:c8}(r:fC k A):A.units+64<jH:=r.units
theorem small (h:n<=1000):n<=sizeLine:=qA (AK h)
section
open PySem
theorem zrq:dw "int"=some (.type "int"):=by decide +kernel
theorem Re:dw "str"=some (.type "str"):=by decide +kernel
theorem Yg:dw "bool"=some (.type "bool"):=by decide +kernel
theorem vm:dw "list"=some (.type "list"):=by decide +kernel
theorem PY:dw "tuple"=some (.type "tuple"):=by decide +kernel
theorem zrr:dw "len"=some (.builtin "len"):=by decide +kernel
theorem zrs:dw "abs"=some (.builtin "abs"):=by decide +kernel
theorem u0:dw "max"=some (.builtin "max"):=by decide +kernel
theorem zrt:dw "min"=some (.builtin "min"):=by decide +kernel
theorem JL:dw "sum"=some (.builtin "sum"):=by decide +kernel
theorem vt:dw "isinstance"=some (.builtin "isinstance"):=by decide +kernel
theorem zru:dw "all"=some (.builtin "all"):=by decide +kernel
end
variable {o8 iter:Expr}{ifs:List Expr}
section
variable {prog:dQ}{w:dB}{A:c8}
theorem U1 {target:Expr}{it iw:bJ}{env:Env}(I:Nat->bV->Prop)
  (turn:∀n s,I n s->cj (b9 prog w) A (pyNext it) (λr s₁=>match r with
   |none=>R (.ok .next) s₁
   |some v=>cj (b9 prog w) A (lW target it v) (λ_ OH=>cj (b9 prog w) A (lB target env v) (λ_ s₂=>
     cj (b9 prog w) A (forIn ifs true λc r=>if r=true then do let ok ← AX c env (dR c env);pure (ForInStep.yield ok)else pure (ForInStep.yield r)) (λok s₃=>
      if ok=true then cj (b9 prog w) A (dR o8 env) (λx s₄=>cj (b9 prog w) A (call (.builtin "list.append") [iw,x]) (λ_ s₅=>∃m,m<n/\I m s₅) (λ_ _=>False) s₄) (λ_ _=>False) s₃
      else∃m,m<n/\I m s₃) (λ_ _=>False) s₂) (λ_ _=>False) OH) (λ_ _=>False) s₁) (λ_ _=>False) s)
  (n:Nat) (h:I n s) :
  gK (b9 prog w) A (.compLoop (.ListComp o8 [⟨target,iter,ifs,0⟩] scope pos) 0 it iw env) R s:=by
 have up:∀{α:Type} {m:Cw α} {Q:α->bV->Prop} {E:bJ->bV->Prop} {s:bV},cj (b9 prog w) A m Q (λ_ _=>False) s->cj (b9 prog w) A m Q E s:=λh=>eo h (λ_ _ q=>q) λ_ _ f=>f.elim;refine codeAny_loop rfl I (λn s hI=>?_) n h;show cj _ A ((compTurn (.ListComp o8 [⟨target,iter,ifs,0⟩] scope pos) 0 it iw env).onRaise (λx=>do noteFrame x env;theTreesLotGoes x)) _ _ s;refine wpAny_noted ?_;rw[compTurn_list];refine bP (kn (bP (eo (up (turn n s hI)) (λr s₁ h₁=>?_) λ_ _ h'=>h')));cases r with
 |none=>exact cy h₁
 |some v=>
  refine bP (eo (up h₁) (λ_ OH TV=>?_) λ_ _ h'=>h');refine bP (eo (up TV) (λ_ s₂ h₂=>bP (eo (up h₂) (λok s₃ h₃=>?_) λ_ _ h'=>h')) λ_ _ h'=>h');cases ok with
  |false=>exact cy ⟨rfl,h₃⟩
  |true=>exact bP (bP (eo (up h₃) (λx s₄ h₄=>bP (eo (up h₄) (λ_ s₅ h₅=>cy (cy ⟨rfl,h₅⟩)) λ_ _ h'=>h')) λ_ _ h'=>h'))
end
theorem ug {env:Env}:∀(names:List (Str×cO)) (iw:List (Str×bO)),(∀x∈names,x.2=.free->∃c,env.cells.lookup x.1=some c)->(∀y c,iw.lookup y=some c->env.cells.lookup y=some c) ->
  ∃cl,(forIn names iw λ(x:Str×cO) (cs:List (Str×bO))=>if(x.2==cO.free)=true then do let a ← cellOf env x.1;pure (ForInStep.yield ((x.1,a)::cs))else pure (ForInStep.yield cs):Cw (List (Str×bO)))=pure cl /\
   (∀y c,cl.lookup y=some c->env.cells.lookup y=some c)/\(∀x∈names,x.2=.free->∃c,cl.lookup x.1=some c)/\∀y c,iw.lookup y=some c->∃c',cl.lookup y=some c'
 |[],iw,_,ha=>⟨iw,rfl,ha,λ_ h=>(nomatch h),λy c h=>⟨c,h⟩⟩
 |(n,k)::r,iw,hn,ha=>by
  by_cases hk:k=.free
  ·subst hk;obtain⟨c,hc⟩:=hn (n,.free) bH rfl;have e1:cellOf env n=pure c:=by unfold cellOf;rw[hc]
   have BA:∀y d,((n,c)::iw).lookup y=some d->env.cells.lookup y=some d:=λy d h=>by
    rw[cM]at h;cases hy:y==n with
    |true=>rw[hy]at h;have:y=n:=eq_of_beq hy;subst this;cases h;exact hc
    |false=>rw[hy]at h;exact ha y d h
   obtain⟨cl,h1,h2,h3,h4⟩:=ug r ((n,c)::iw) (λx hx=>hn x (bK _ hx)) BA;refine⟨cl,?_,h2,?_,?_⟩
   ·rw[rH];simp only[beq_self_eq_true,if_true,e1,pure_bind];exact h1
   ·intro x hx hf;rcases bY.mp hx with rfl|hx
    ·exact h4 n c (by rw[cM,beq_self_eq_true])
    ·exact h3 x hx hf
   ·intro y d hy;cases hb:y==n with
    |true=>exact h4 y c (by rw[cM,hb])
    |false=>exact h4 y d (by rw[cM,hb];exact hy)
  ·have hb:(k==cO.free)=false:=by simpa using hk
   obtain⟨cl,h1,h2,h3,h4⟩:=ug r iw (λx hx=>hn x (bK _ hx)) ha;refine⟨cl,?_,h2,?_,h4⟩
   ·rw[rH];simp only[hb,dH,if_false,pure_bind];exact h1
   ·intro x hx hf;rcases bY.mp hx with rfl|hx
    ·exact absurd hf hk
    ·exact h3 x hx hf
theorem Jv (n:Nat)(a:Str)(r:List (Str×cO))(iw:List (Str×bO)):cellsFrom n ((a,.cell)::r) iw=cellsFrom (n+1) r ((a,n)::iw):=rfl
theorem JM {k:cO}(hk:k≠.cell)(n:Nat)(a:Str)(r:List (Str×cO))(iw:List (Str×bO)):cellsFrom n ((a,k)::r) iw=cellsFrom n r iw:=by cases k<;>first|rfl|exact absurd rfl hk
noncomputable def nX (names:List (Str×cO)):Nat:=(names.filter λy=>y.2==cO.cell).length
theorem MK (a:Str)(r:List (Str×cO)):nX ((a,.cell)::r)=nX r+1:=by unfold nX;rw[mZ (by rfl),b8]
theorem Rf {k:cO}(hk:k≠.cell)(a:Str)(r:List (Str×cO)):nX ((a,k)::r)=nX r:=by unfold nX;rw[mY (by simpa using hk)]
theorem Gq:∀(names:List (Str×cO)) (n:Nat) (iw:List (Str×bO)) {x:Str} {c:Nat},(cellsFrom n names iw).lookup x=some c->(n<=c/\c<n+nX names/\(x,cO.cell)∈names)\/(iw.lookup x=some c/\(x,cO.cell)∉names)
 |[],_,_,_,_,h=>.inr ⟨h,by simp⟩
 |(a,k)::r,n,iw,x,c,h=>by
  by_cases hk:k=.cell
  ·subst hk;rw[Jv]at h;rcases Gq r (n+1) _ h with⟨h1,h2,h3⟩|⟨h1,h2⟩
   ·refine .inl ⟨by omega,?_,bK _ h3⟩;rw[MK];omega
   ·rw[cM]at h1;cases hx:x==a with
    |true=>rw[hx]at h1;cases h1;refine .inl ⟨b7 _,?_,by rw[eq_of_beq hx];exact bH⟩;rw[MK];omega
    |false=>
     rw[hx]at h1;refine .inr ⟨h1,λz=>?_⟩;rcases bY.mp z with z|z
     ·cases z;simp at hx
     ·exact h2 z
  ·rw[JM hk]at h;have hf:=Rf hk a r;rw[hf];rcases Gq r n _ h with⟨h1,h2,h3⟩|⟨h1,h2⟩
   ·exact .inl ⟨h1,h2,bK _ h3⟩
   ·refine .inr ⟨h1,λz=>?_⟩;rcases bY.mp z with z|z
    ·cases z;exact hk rfl
    ·exact h2 z
theorem M0:∀(names:List (Str×cO)) (n:Nat) (iw:List (Str×bO)) {x:Str},(x,cO.cell)∉names->(cellsFrom n names iw).lookup x=iw.lookup x
 |[],_,_,_,_=>rfl
 |(a,k)::r,n,iw,x,h=>by
  have hr:(x,cO.cell)∉r:=λz=>h (bK _ z);by_cases hk:k=.cell
  ·subst hk;rw[Jv,M0 r _ _ hr,cM];cases hx:x==a with
   |true=>exact absurd (by rw[eq_of_beq hx];exact bH) h
   |false=>rfl
  ·rw[JM hk,M0 r _ _ hr]
theorem M3:∀(names:List (Str×cO)) (n:Nat) (iw:List (Str×bO)),(∀x y c,iw.lookup x=some c->iw.lookup y=some c->x=y)->(∀x c,iw.lookup x=some c->c<n)->∀x y c,(cellsFrom n names iw).lookup x=some c->(cellsFrom n names iw).lookup y=some c->x=y
 |[],_,_,h,_=>h
 |(a,k)::r,n,iw,h,hb=>by
  by_cases hk:k=.cell
  ·subst hk;rw[Jv];refine M3 r (n+1) _ (λx y c e e'=>?_) λx c e=>?_
   ·rw[cM]at e e';cases hx:x==a with
    |true=>
     rw[hx]at e;cases e;cases hy:y==a with
     |true=>rw[eq_of_beq hx,eq_of_beq hy]
     |false=>rw[hy]at e';exact absurd (hb _ _ e') (fY _)
    |false=>
     rw[hx]at e;cases hy:y==a with
     |true=>rw[hy]at e';cases e';exact absurd (hb _ _ e) (fY _)
     |false=>rw[hy]at e';exact h x y c e e'
   ·rw[cM]at e;cases hx:x==a with
    |true=>rw[hx]at e;cases e;exact kI _
    |false=>rw[hx]at e;exact mJ (hb _ _ e)
  ·rw[JM hk];exact M3 r n iw h hb
theorem uh {M:Model}{A:c8}{E:bJ->bV->Prop}:∀(names:List (Str×cO)) (cells:List (Str×bO)) (s:bV) (Q:List (Str×bO)->bV->Prop),
    (∀h':cz,(∀b o,s.heap.get? b=some o->h'.get? b=some o)->(∀c,s.heap.objs.size<=c->c<s.heap.objs.size+nX names->h'.IsCell c none)->Q (cellsFrom s.heap.objs.size names cells) { s with heap:=h' }) ->
    cj M A (forIn names cells λ(x:Str×cO) (cells:List (Str×bO))=>if(x.2==cO.cell)=true then do let a ← alloc { cls:=bJ.type "cell",data:=oI.cell none };pure (ForInStep.yield ((x.1,a)::cells))else pure (ForInStep.yield cells)) Q E s
  |[],cells,s,Q,h=>by have:=h s.heap (λ_ _ e=>e) (λc h1 h2=>by rw[show nX []=0 from rfl]at h2;omega);rw[CS];exact cy this
  |(a,k)::r,cells,s,Q,h=>by
    rw[rH];by_cases hk:k=.cell
    · subst hk;simp only[beq_self_eq_true,if_true,bind_assoc,pure_bind];refine bP (wpAny_alloc ?_);have ih:=uh (M:=M) (A:=A) (E:=E) r ((a,s.heap.objs.size)::cells) { s with heap:=s.heap.push { cls:=bJ.type "cell",data:=oI.cell none } } Q (λh' k1 k2=>by
        have hz:(s.heap.push { cls:=bJ.type "cell",data:=oI.cell none }).objs.size=s.heap.objs.size+1:=iL _ _;have:=h h' (λb o e=>k1 b o (bT _ e)) (λc h1 h2=>by
          rw[MK]at h2;by_cases hc:c=s.heap.objs.size
          · subst hc;exact⟨_,k1 _ _ (cU _ rfl),rfl⟩
          · exact k2 c (by show(s.heap.push _).objs.size<=c;rw[hz];omega) (by show c<(s.heap.push _).objs.size+_;rw[hz];omega))
        rw[Jv]at this;have e:(({ s with heap:=s.heap.push { cls:=bJ.type "cell",data:=oI.cell none } }:bV)).heap.objs.size=s.heap.objs.size+1:=hz;rw[e];exact this)
      exact ih
    · have hb:(k==cO.cell)=false:=by simpa using hk
      simp only[hb,dH,if_false,pure_bind];refine uh r cells s Q λh' k1 k2=>?_;have hf:=Rf hk a r;have:=h h' k1 (by rw[hf];exact k2);rw[JM hk]at this;exact this
theorem U2 {A:c8}{globals:bO}{closure:List (Str×bO)}{code:bJ}{out:Env}{builtins:bO}{Q:Env->bV->Prop}
    (h:∀h':cz,(∀b o,s.heap.get? b=some o->h'.get? b=some o)->h'.Ns s.heap.objs.size (λ_=>none)->(∀c,s.heap.objs.size+1<=c->c<s.heap.objs.size+1+nX scope.names->h'.IsCell c none) ->
      Q (newEnv scope s.heap.objs.size globals (cellsFrom (s.heap.objs.size+1) scope.names closure) qual none code (some out) builtins) { s with heap:=h' }) :
    cj M A (wY scope globals closure [] qual none code (some out) builtins) Q E s:=by
  unfold wY;refine bP (wpAny_alloc ?_);have hz:(s.heap.push { cls:=bJ.type "dict",data:=oI.dict #[] }).objs.size=s.heap.objs.size+1:=iL _ _;refine bP (uh scope.names closure { s with heap:=s.heap.push { cls:=bJ.type "dict",data:=oI.dict #[] } } _ λh' k1 k2=>?_);have TQ:(({ s with heap:=s.heap.push { cls:=bJ.type "dict",data:=oI.dict #[] } }:bV)).heap.objs.size=s.heap.objs.size+1:=hz;rw[TQ]at k2 ⊢;dsimp only;rw[CS];refine bP (cy (cy ?_));exact h h' (λb o e=>k1 b o (bT _ e)) ((cz.Ns.new s.heap _).keeps k1) k2
noncomputable def nJ (X:Cx)(scope:pO)(cl:List (Str×bO))(N:List Str)(C:bO)(fp:List bO)(s₀:bV)(H₀:Hp):Cx :=
 { X with N:=N,s₀:=s₀,H₀:=H₀,env:=compEnvC scope cl C X.env,outer:=X.stack,stack:=X.stack,ex:=fp,fn:=λx=>scope.names.lookup x==some .cell,pn:=[],xe:=λ_ _=>False }
structure oJ (X:Cx)(scope:pO)(N:List Str)(own:Nat)(cap:List Nat):Prop where
 kind:scope.kind=.function
 cells:∀x∈scope.names,x.2=.cell->scope.names.lookup x.1=some .cell
 locs:∀x∈scope.names,x.2=.local->scope.names.lookup x.1=some .local
 free:∀x∈scope.names,x.2=.free->X.env.kindOf x.1=some .cell\/X.env.kindOf x.1=some .free
 len:N.length=own+cap.length
 caps:∀(j:Nat) (x:Str),N[own+j]?=some x->∃i,cap[j]?=some i/\X.N[i]?=some x/\(scope.names.lookup x=some .free)
variable {α:Type}
theorem vd {α β:Type}[BEq α][LawfulBEq α]{x:α}{y:β}:∀{l:List (α×β)},l.lookup x=some y->(x,y)∈l
 |[],h=>by simp at h
 |(a,b)::r,h=>by
  rw[cM]at h;cases hb:x==a with
  |true=>rw[hb]at h;cases h;rw[eq_of_beq hb];exact bH
  |false=>rw[hb]at h;exact bK _ (vd h)
theorem u3 {env:Env}{x:Str}:∀{names:List (Str×cO)},names.lookup x=some .free ->
  (names.map λ(n,k)=>if(k==cO.free&&env.scope.kind==.function&&env.kindOf n==some .cell)then(n,cO.cell)else(n,k)).lookup x=some .cell \/
  (names.map λ(n,k)=>if(k==cO.free&&env.scope.kind==.function&&env.kindOf n==some .cell)then(n,cO.cell)else(n,k)).lookup x=some .free
 |[],h=>by simp at h
 |(n,k)::r,h=>by
  rw[cM]at h;rw[ck];cases hx:x==n with
  |true=>
   rw[hx]at h;cases h;by_cases hc:(cO.free==cO.free&&env.scope.kind==.function&&env.kindOf n==some .cell)=true
   ·left;simp only[hc,if_true,cM,hx]
   ·right;simp only[hc,if_false,cM,hx,dH]
  |false=>
   rw[hx]at h;rcases u3 (env:=env) h with q|q
   ·left;by_cases hc:(k==cO.free&&env.scope.kind==.function&&env.kindOf n==some .cell)=true
    ·simp only[hc,if_true,cM,hx];exact q
    ·simp only[hc,if_false,cM,hx,dH];exact q
   ·right;by_cases hc:(k==cO.free&&env.scope.kind==.function&&env.kindOf n==some .cell)=true
    ·simp only[hc,if_true,cM,hx];exact q
    ·simp only[hc,if_false,cM,hx,dH];exact q
theorem vv {env:Env}{x:Str}:∀{names:List (Str×cO)},((names.map λ(n,k)=>if(k==cO.free&&env.scope.kind==.function&&env.kindOf n==some .cell)then(n,cO.cell)else(n,k)).lookup x=some .cell \/
  (names.map λ(n,k)=>if(k==cO.free&&env.scope.kind==.function&&env.kindOf n==some .cell)then(n,cO.cell)else(n,k)).lookup x=some .free)->(x,cO.free)∈names\/(x,cO.cell)∈names
 |[],h=>by simp at h
 |(n,k)::r,h=>by
  rw[ck]at h;cases hx:x==n with
  |true=>
   have e:x=n:=eq_of_beq hx;by_cases hc:(k==cO.free&&env.scope.kind==.function&&env.kindOf n==some .cell)=true
   ·have:k=.free:=by rw[c7,c7]at hc;exact eq_of_beq hc.1.1
    left;rw[e,this];exact bH
   ·simp only[hc,if_false,cM,hx,dH]at h;rcases h with h|h
    ·cases h;right;rw[e];exact bH
    ·cases h;left;rw[e];exact bH
  |false=>
   refine(vv (env:=env) (names:=r) ?_).imp (bK _) (bK _);by_cases hc:(k==cO.free&&env.scope.kind==.function&&env.kindOf n==some .cell)=true
   ·simpa only[hc,if_true,cM,hx]using h
   ·simpa only[hc,if_false,cM,hx,dH]using h
def lH (σ:St)(cap:List Nat):St:=cap.map λi=>(σ[i]?).join
variable {cap:List Nat}{i j:Nat}
theorem Vw (hj:cap[j]?=some i)(h:(lH σ cap)[j]?=some (some v)):σ[i]?=some (some v):=by
 unfold lH at h;rw[cu,hj]at h;cases e:σ[i]? with
 |none=>rw[AV,e]at h;cases h
 |some o=>
  rw[AV,e]at h;cases o with
  |none=>cases h
  |some u=>exact h
variable {fp:List bO}
theorem VF {cl:List (Str×bO)}{N:List Str}{own:Nat}{h₁:cz}{m₀:Str->Option bJ}(B:oJ X scope N own cap)(I:Inv X bL σ H s)
    (c1:∀y c,cl.lookup y=some c->X.env.cells.lookup y=some c) (c2:∀x∈scope.names,x.2=.free->∃c,cl.lookup x.1=some c)
    (hf:∀b∈fp,qV X bL H b) (N5:∀b∈fp,b<s.heap.objs.size) (kG:h₁.Ns s.heap.objs.size m₀) (k:∀b o,s.heap.get? b=some o->h₁.get? b=some o)
    (BG:∀c,s.heap.objs.size+1<=c->c<s.heap.objs.size+1+nX scope.names->h₁.IsCell c none) :
    Inv (nJ X scope (cellsFrom (s.heap.objs.size+1) scope.names cl) N s.heap.objs.size fp s H) [] (bW own none++lH σ cap) H { s with heap:=h₁,toks:=t' } :=
  have low:∀x c,cl.lookup x=some c->c<s.heap.objs.size:=λx c e=>by obtain⟨v,o,q,_⟩:=I.cell x c (c1 x c e);exact cw q
  { ok:={
      mod:=I.mod
      kind:=B.kind
      glob:=I.ok.glob
      blt:=I.ok.blt
      above:=b7 _
      inj:=M3 _ _ _ (λx y c e e'=>I.ok.inj x y c (c1 x c e) (c1 y c e')) λx c e=>mJ (low x c e)
      has:=λx hx=>by
        refine sM.mp (mT scope.names _ _ ?_);rcases vv hx with q|q
        · right;obtain⟨c,e⟩:=c2 _ q rfl
          rw[e];rfl
        · exact .inl (B.cells _ q rfl)
      cab:=λx c e e'=>by
        have hx:scope.names.lookup x=some .cell:=eq_of_beq e;rcases Gq _ _ _ e' with⟨h1,_⟩|⟨_,h2⟩
        · exact qB h1
        · exact absurd (vd hx) h2
      hd:=I.ok.hd
      frames:=I.ok.frames
      stk:=.inl rfl
      exf:=λb hb=>⟨cN (N5 b hb),λx c e=>by
        rcases Gq _ _ _ e with⟨h1,_⟩|⟨h1,_⟩
        · exactλz=>absurd (N5 b hb) (by rw[←z];exact Nat.not_lt.mpr (qB h1))
        · exact(hf b hb).2.2.2.2.1 x c (c1 x c h1)⟩
      bs:=I.bs
      bsz:=dA I.ok.bsz I.sz
      noex:=λb o e hb=>by
        rcases(hf b hb).2.2.2.1 with q|q
        · exact I.ok.noex b o e q
        · exact absurd (cL (cw e) I.ok.bsz) (Nat.not_lt.mpr q)
      exfs:=λb hb hz=>by
        rcases bY.mp (I.stkSub b hz)with q|q
        · exact(hf b hb).2.1 q
        · exact(hf b hb).2.2.1 q
      funs:=I.stack
      frf:=I.stkFree }
    os:=rfl
    bare:=I.bare
    base:=Un.kept k
    loc:=by
      refine⟨m₀,kG,λi x v hN hσ hv=>?_⟩;by_cases hi:i<own
      · rw[dE (by rw[gc];exact hi),m5,if_pos hi]at hσ;cases hσ
      · obtain⟨j,rfl⟩:∃j,i=own+j:=⟨i-own,by omega⟩;obtain⟨i',e1,e2,e3⟩:=B.caps j x hN;rw[f9 (by rw[gc];omega),gc,gO]at hσ;have EV:=Vw e1 hσ;have hk:=B.free (x,.free) (vd e3) rfl;obtain⟨m,hm,hl⟩:=I.loc;obtain⟨u,ru,hu⟩:=hl i' x v e2 EV (.inr hk);refine⟨u,ru,?_⟩;rcases hu with⟨q,_⟩|⟨_,c,hc,ic⟩
        · rcases hk with hk|hk
          · rw[hk]at q;cases q
          · rw[hk]at q;cases q
        · obtain⟨c',DV⟩:=c2 (x,.free) (vd e3) rfl;have ec:=c1 x c' DV;rw[hc]at ec;cases ec;have hn:(x,cO.cell)∉scope.names:=λz=>by have:=B.cells _ z rfl;rw[e3]at this;cases this
          exact .inr ⟨u3 e3,c,by show(cellsFrom _ _ _).lookup x=_;rw[M0 _ _ _ hn];exact DV,ic.keeps k⟩
    cell:=λx c e=>by
      rcases Gq _ _ _ e with⟨h1,h2,_⟩|⟨h1,_⟩
      · exact⟨none,BG c h1 h2⟩
      · obtain⟨v,q⟩:=I.cell x c (c1 x c h1);exact⟨v,q.keeps k⟩
    free:=I.hok.fresh (b7 _)
    freeC:=λx c e=>by
      rcases Gq _ _ _ e with⟨h1,_⟩|⟨h1,_⟩
      · exact I.hok.fresh (qB h1)
      · exact I.freeC x c (c1 x c h1)
    pin:=λp hp=>(nomatch hp)
    hok:=I.hok.kept k
    len:=by show(bW own none++lH σ cap).length=N.length;rw[cn,gc,B.len];unfold lH;rw[bQ] }
def Dw:TT:=λ_ H Q=>Q true H
def DL (X:Cx)(ifs:List Expr)(t:TT):Prop :=
 ∀(bL:List (bO×gF)) (s:bV) (σ:St) (H:Hp) (Q:Bool->Hp->Prop),Inv X bL σ H s->t σ H Q ->
  cj (b9 X.prog X.w) X.A (forIn ifs true λc r=>if r=true then do let ok ← AX c X.env (dR c X.env);pure (ForInStep.yield ok)else pure (ForInStep.yield r)) (TP X bL σ Q) X.xe s
theorem Yh:DL X [] Dw:=λ_ _ _ H _ I h=>wpAny_tests_nil ⟨H,I,h⟩
variable {c:Expr}
theorem Yi {t:TT}(h:PT X c t):DL X [c] t:=λbL s σ H Q I q=>wpAny_tests_one (h bL s σ H Q I q)
def Ab (wi:TI)(own:Nat)(cap:List Nat)(g:TG)(tt:TT)(te:TE):TE:=λσ H Q=>wi σ H λJ H1=>∀D,H1 D=none->∃W:Nat->Nat->List V->Hp->Prop,(∃m,W 0 m [] (upd H1 D (.lst []))) /\
 ∀i m ys H2,W i m ys H2->H2 D=some (.lst ys)/\((J.stop i H2/\Q (.ref D) H2)\/(J.go i H2/\ys.length<sizeLine/\∀x H3,J.yld i H2 x H3->g x (bW own none++lH σ cap) H3 λσ2 H4=>tt σ2 H4 λb H5=>if b=true then te σ2 H5 λy H6=>H6 D=some (.lst ys)/\∃m',m'<m/\W (i+1) m' (ys++[y]) (upd H6 D (.lst (ys++[y])))else∃m',m'<m/\W (i+1) m' ys H5))
def kB (own:Nat)(g:TG):Prop:=∀v σ H Q,g v σ H Q->g v σ H λσ' H'=>Q σ' H'/\σ'.length = σ.length/\∀i,own<=i->σ'[i]? = σ[i]?
theorem Vx (i own:Nat)(h:i<own):kB own (zN i):=λv σ H Q q=>⟨q,by rw[Cr],λj hj=>by rw[eG (by omega)]⟩
variable {g:TG}{tg:Expr}{tt:TT}{wi:TI}
theorem PZ {QV:VK}{use:Option (bJ->Cw Unit)}{Q0:bJ->bV->Prop}{nK:mE}{N:List Str}{own:Nat}{c:Prop}(B:oJ X scope N own cap)(hc:c)(hi:GB X c tg iter wi)
    (kg:kB own g)
    (hg:∀cl C fp s₀ H₀,PG (nJ X scope cl N C fp s₀ H₀) tg g) (ht:∀cl C fp s₀ H₀,DL (nJ X scope cl N C fp s₀ H₀) ifs tt) (he:∀cl C fp s₀ H₀,PE (nJ X scope cl N C fp s₀ H₀) o8 te)
    (hs:Bs X iter) (I:Inv X bL σ H s) (h:Ab wi own cap g tt te σ H QV)
    (fin:∀(D C:bO) (H5:Hp) (s6:bV) (r:Flow),QV (.ref D) H5->Inv X bL σ H5 s6->qV X bL H5 C->(∃m,s6.heap.Ns C m)->compPost (b9 X.prog X.w) X.A X.xe use Q0 (.ref D) C (.ok r) s6) :
    cj (b9 X.prog X.w) X.A (comprehension (.ListComp o8 [⟨tg,iter,ifs,0⟩] scope pos) scope X.env nK (newList []) false (dR iter X.env) use) Q0 X.xe s:=by
  obtain⟨cl,EH,c1,c2,_⟩:=ug (env:=X.env) scope.names [] (λx hx hf=>I.ok.has x.1 (B.free x hx hf)) (λy c e=>by simp at e);have GY:closureFor scope X.env=pure cl:=by have e:closureFor scope X.env=(forIn scope.names ([]:List (Str×bO)) (λ(x:Str×cO) (cs:List (Str×bO))=>if(x.2==cO.free)=true then do let a ← cellOf X.env x.1;pure (ForInStep.yield ((x.1,a)::cs))else pure (ForInStep.yield cs)) >>= pure:Cw (List (Str×bO))):=rfl;rw[e,EH];rfl
  refine wpAny_comprehension_free (use:=use) rfl hs GY B.kind B.locs (eT (hi bL s σ H _ I h) λv s1 h1=>eT h1 λLy s2 h2=>?_);obtain⟨it,fp,tn,J,H2,e,I2,⟨Cs,T,hT⟩,CN,f2,W0⟩:=h2;subst e;obtain⟨W,⟨m0,w0⟩,turn⟩:=W0 s2.heap.objs.size (I2.hok.fresh (b7 _));refine kK ?_;have I3:Inv X bL σ (upd H2 s2.heap.objs.size (.lst [])) { s2 with heap:=s2.heap.push { cls:=.type "list",data:=.seq ([]:List bJ).toArray } }:=I2.lnew .nil (ej _);generalize Of:({ s2 with heap:=s2.heap.push { cls:=.type "list",data:=.seq ([]:List bJ).toArray } }:bV)=s3 at I3;have k3:∀b o,s2.heap.get? b=some o->s3.heap.get? b=some o:=λb o e=>by rw[←Of];exact bT _ e
  have z3:s3.heap.objs.size=s2.heap.objs.size+1:=by rw[←Of];exact iL _ _
  have EI:∀b∈fp,b<s2.heap.objs.size:=λb hb=>by obtain⟨o,e,_⟩:=T.obj _ _ CN b hb;exact cw e
  have nU:∀b∈fp,b≠s2.heap.objs.size:=λb hb=>cN (EI b hb);have f3:∀b∈fp,qV X bL (upd H2 s2.heap.objs.size (.lst [])) b:=λb hb=>⟨by rw[zj (nU b hb)];exact(f2 b hb).1,(f2 b hb).2⟩;have UA:tn 0 s3.heap:=T.keep _ _ _ CN λb _ o e=>k3 b o e;show cj _ _ (wY scope X.env.globals cl [] X.env.qual none .none (some X.env)) _ _ _;refine U2 λh₁ kk Le KN=>?_;have IB:=VF (t':=s3.toks) B I3 c1 c2 f3 (λb hb=>by rw[z3];exact mJ (EI b hb)) Le kk KN;generalize cellsFrom (s3.heap.objs.size+1) scope.names cl=cl at IB ⊢;generalize Tq:({ s3 with heap:=h₁,toks:=s3.toks }:bV)=s4 at IB;have OL:tn 0 s4.heap:=T.keep _ _ _ UA λb _ o e=>by rw[←Tq];exact kk b o e
  show gK (b9 X.prog X.w) X.A (.compStart (.ListComp o8 [⟨tg,iter,ifs,0⟩] scope pos) 0 (.ref it) (.ref s2.heap.objs.size) (compEnvC scope cl s3.heap.objs.size X.env))
      (compPost (b9 X.prog X.w) X.A X.xe use Q0 (.ref s2.heap.objs.size) s3.heap.objs.size) s4
  have yS:∀{H':Hp},(∀b∈fp,H' b=none)->∀b∈fp,qV (nJ X scope cl N s3.heap.objs.size fp s3 (upd H2 s2.heap.objs.size (.lst []))) [] H' b:=λhn b hb=>⟨hn b hb,cN (by show b<s3.heap.objs.size;rw[z3];exact mJ (EI b hb)),IB.ok.exfs b hb,.inl hb,λx c e=>(IB.ok.exf b hb).2 x c e,λp hp=>(nomatch hp)⟩;have loop:gK (b9 X.prog X.w) X.A (.compLoop (.ListComp o8 [⟨tg,iter,ifs,0⟩] scope pos) 0 (.ref it) (.ref s2.heap.objs.size) (compEnvC scope cl s3.heap.objs.size X.env))
      (compPost (b9 X.prog X.w) X.A X.xe use Q0 (.ref s2.heap.objs.size) s3.heap.objs.size) s4:=by
    refine U1 (λn s'=>∃i ys H',Inv (nJ X scope cl N s3.heap.objs.size fp s3 (upd H2 s2.heap.objs.size (.lst []))) [] (bW own none++lH σ cap) H' s'/\tn i s'.heap/\(∀b∈fp,H' b=none)/\W i n ys H') ?_ m0
      ⟨0,[],_,IB,OL,λb hb=>(f3 b hb).1,w0⟩
    rintro n s5 ⟨i,ys,H5,I5,Gf,IG,w5⟩;obtain⟨hD,FX⟩:=turn i n ys H5 w5;rcases FX with⟨stop,qn⟩|⟨go,oU,step⟩
    · refine eT (T.done (nJ X scope cl N s3.heap.objs.size fp s3 (upd H2 s2.heap.objs.size (.lst []))) rfl rfl rfl (hT hc _ rfl rfl) i [] s5 _ H5 (λ_ _=>False) I5 (yS IG) Gf stop) λr s6 f7=>?_;obtain⟨hr,I6⟩:=f7;subst hr;obtain⟨m,hm,_⟩:=id I6.loc;refine fin s2.heap.objs.size s3.heap.objs.size H5 s6 _ qn ?_ (I3.fpOk (b7 _) I6.free) ⟨m,hm⟩;have sb:lC s3.heap.objs.size s6.heap s6.heap:=⟨rfl,λ_ _=>rfl⟩;have U:=I6.base;have nC:∀b o,s3.heap.get? b=some o->b≠s3.heap.objs.size:=λb o e=>cN (cw e);have nT:∀b o,H5 b=some o->b≠s3.heap.objs.size:=λb o e z=>by have q:H5 s3.heap.objs.size=none:=I6.free;rw[z,q]at e;cases e
      refine I3.call' (ch:=fp) I6.os ?_ (λa o e=>(I6.hok a o e).stay (λb u hb q=>sb.extBut b u ?_ q) (λ_ q=>q) λ_ _ q=>q) I6.bare (λb hb=>⟨(f3 b hb).2.2.2.1,(f3 b hb).2.1,(f3 b hb).2.2.2.2.1,(f3 b hb).2.2.2.2.2⟩)
      · exact{
          keep:=λb o e z hb he=>sb.extBut b o (nC b o e) (U.keep b o e z hb he)
          slot:=λb o e z hb he=>by obtain⟨sl,q⟩:=U.slot b o e z hb he;exact⟨sl,sb.extBut b _ (nC b o e) q⟩
          free:=U.free
          there:=λb o e he=>by obtain⟨o',q⟩:=U.there b o e he;exact⟨o',sb.extBut b o' (nC b o e) q⟩
          tups:=U.tups
          frzs:=U.frzs
          tbls:=U.tbls }
      · rcases hb with rfl|hb
        · exact nT _ _ e
        · exact nT _ _ hb
    · refine eT (T.item (nJ X scope cl N s3.heap.objs.size fp s3 (upd H2 s2.heap.objs.size (.lst []))) rfl rfl rfl (hT hc _ rfl rfl) i [] s5 _ H5 (λ_ _=>False) I5 (yS IG) Gf go) λr s6 f7=>?_;obtain⟨u,hr,h6⟩:=f7;subst hr;refine eT h6 λ_ s7 f7=>?_;obtain⟨x,H7,I7,r7,y7,LR,Sy⟩:=f7;have RQ:=I7.pinned (yS Sy) (T.obj _ _ LR);refine eT (hg cl s3.heap.objs.size fp s3 _ _ s7 _ H7 x u _ RQ r7 (kg _ _ _ _ (step x H7 y7))) λ_ s8 f7=>?_;obtain⟨σ8,H8,I8,q8,l8,p8⟩:=f7;have back:∀{H9:Hp} {s9:bV},Inv (nJ X scope cl N s3.heap.objs.size fp s3 (upd H2 s2.heap.objs.size (.lst []))) ([]++rW fp s7.heap) σ8 H9 s9 ->
          Inv (nJ X scope cl N s3.heap.objs.size fp s3 (upd H2 s2.heap.objs.size (.lst []))) [] (bW own none++lH σ cap) H9 s9/\tn (i+1) s9.heap/\∀b∈fp,H9 b=none:=λ{H9 s9} I9=>by
        refine⟨(I9.unpinned).weak l8.symm (λj v e=>?_),T.keep _ _ _ LR λb hb o e=>(I9.pin (b,o) (b6 _ (b6 _ (vc hb e)))).1,λb hb=>?_⟩
        · by_cases hj:j<own
          · rw[dE (by rw[gc];exact hj),m5,if_pos hj]at e;cases e
          · rw[p8 j (by omega)];exact e
        · obtain⟨o,e,d⟩:=T.obj _ _ LR b hb;exact(I9.pin (b,o) (b6 _ (b6 _ (vc hb e)))).2.1
      refine eT (ht cl s3.heap.objs.size fp s3 _ _ s8 σ8 H8 _ I8 q8) λok s9 f7=>?_;obtain⟨H9,I9,q9⟩:=f7;cases ok with
      |false=>rw[if_neg cB];rw[if_neg cB]at q9;obtain⟨m',qY,w'⟩:=q9;obtain⟨b1,b2,b3⟩:=back I9;exact⟨m',qY,i+1,ys,H9,b1,b2,b3,w'⟩
      |true=>rw[if_pos rfl];rw[if_pos rfl]at q9;refine eT (he cl s3.heap.objs.size fp s3 _ _ s9 σ8 H9 _ I9 q9) λuy Uo f7=>?_;obtain⟨y,Nx,RM,r10,Kv,m',qY,w'⟩:=f7;refine eT (jv _ Uo σ8 Nx (.ref s2.heap.objs.size) [y] (.ref s2.heap.objs.size) [uy] (λ_ Ny=>Ny=upd Nx s2.heap.objs.size (.lst (ys++[y]))) RM rfl (.cons r10 .nil) ⟨_,ys,y,rfl,rfl,Kv,oU,rfl⟩) λ_ s11 f7=>?_;obtain⟨_,Ny,RN,_,R6⟩:=f7;subst R6;obtain⟨b1,b2,b3⟩:=back RN;exact⟨m',qY,i+1,ys++[y],_,b1,b2,b3,w'⟩
  exact codeAny_compStart_list loop (T.self X.A 0 s4 _ _ OL loop)
theorem Yj {N:List Str}{own:Nat}{c:Prop}(B:oJ X scope N own cap)(hc:c)(hi:GB X c tg iter wi)
  (kg:kB own g)
  (hg:∀cl C fp s₀ H₀,PG (nJ X scope cl N C fp s₀ H₀) tg g) (ht:∀cl C fp s₀ H₀,DL (nJ X scope cl N C fp s₀ H₀) ifs tt) (he:∀cl C fp s₀ H₀,PE (nJ X scope cl N C fp s₀ H₀) o8 te)
  (hs:Bs X iter:=by intro _;rfl):PE X (.ListComp o8 [⟨tg,iter,ifs,0⟩] scope pos) (Ab wi own cap g tt te):=by
 intro bL s σ H Q I h;rw[eval_ListComp];refine PZ (use:=none) (Q0:=EP X bL σ Q) B hc hi kg hg ht he hs I h λD C H5 s6 r q I6 fo hm=>?_;obtain⟨m,hm⟩:=hm;obtain⟨f0,f1,f2,f3,f4,f5⟩:=fo;exact⟨m,hm,λh' sb=>⟨.ref D,H5,I6.turned (t':=s6.toks) (it:=C) (λb o hb e=>sb.extBut b o hb e) f0 f1 f3 f4 f5,rfl,q⟩⟩
variable {ch:List bO}
theorem Inv.turnLay {o:HO}(I:Inv X bL σ H s)(pF:∀b∈ch,qV X bL H b)(k:∀b o,b∉ch->s.heap.get? b=some o->h'.get? b=some o)(hp:s.heap.objs.size<=a)
  (new:gj X.prog X.w (upd H a o) h' a o):Inv X bL σ (upd H a o) { s with heap:=h',toks:=t' }:=by
 have hn:H a=none:=I.hok.fresh hp;have Hz:∀b u,H b=some u->b∉ch:=λb u e z=>by rw[(pF b z).1]at e;cases e
 refine I.step (g':=s.gens) (d':=s.drawn) (ch:=ch) (λb hb=>⟨(pF b hb).2.2.2.1,(pF b hb).2.1,(pF b hb).2.2.2.2.1,(pF b hb).2.2.2.2.2⟩) (λb o _ _ hc e _=>k b o hc e) (λb o _ _ hc e _=>⟨o.slots,k b o hc e⟩)
  (λb o _ e n=>by rw[zj (cN (cL (cw e) hp))];exact n) (λb o hc e=>⟨o,k b o hc e⟩) (λb xs q=>by rw[zj (zl q hn)];exact q) (λb u xs q=>by rw[zj (zl q hn)];exact q)
  (λb ps q=>⟨#[],by rw[zj (zl q hn),q];simp⟩) (λm hm=>?_) (λb u e=>?_) I.bare
 ·obtain⟨o',es,ep,ho,r⟩:=hm;exact⟨o',es,ep,k _ o' (λz=>(pF _ z).2.1 rfl) ho,r⟩
 ·by_cases hb:b=a
  ·subst hb;rw[zo]at e;cases e;exact new
  ·rw[zj hb]at e;refine(I.hok b u e).stay (λc v hc q=>k c v ?_ q) (λc q=>by rw[zj (zl q hn)];exact q) λc xs q=>by rw[zj (zl q hn)];exact q
   rcases hc with z|z
   ·rw[z];exact Hz b u e
   ·exact Hz c _ z
theorem Inv.turnedL (I:Inv X bL σ H s)(pF:∀b∈ch,qV X bL H b)(k:∀b o,b∉ch->s.heap.get? b=some o->h'.get? b=some o):Inv X bL σ H { s with heap:=h',toks:=t' }:=by
 have Hz:∀b u,H b=some u->b∉ch:=λb u e z=>by rw[(pF b z).1]at e;cases e
 refine I.step (g':=s.gens) (d':=s.drawn) (ch:=ch) (λb hb=>⟨(pF b hb).2.2.2.1,(pF b hb).2.1,(pF b hb).2.2.2.2.1,(pF b hb).2.2.2.2.2⟩) (λb o _ _ hc e _=>k b o hc e) (λb o _ _ hc e _=>⟨o.slots,k b o hc e⟩)
  (λ_ _ _ _ n=>n) (λb o hc e=>⟨o,k b o hc e⟩) (λ_ _ e=>e) (λ_ _ _ e=>e) (λb ps e=>⟨#[],by rw[e];simp⟩) (λm hm=>?_) (λb u e=>?_) I.bare
 ·obtain⟨o',es,ep,ho,r⟩:=hm;exact⟨o',es,ep,k _ o' (λz=>(pF _ z).2.1 rfl) ho,r⟩
 ·refine(I.hok b u e).stay (λc v hc q=>k c v ?_ q) (λ_ q=>q) λ_ _ q=>q;rcases hc with z|z
  ·rw[z];exact Hz b u e
  ·exact Hz c _ z
noncomputable def JY (K:bM)(a:bO):It :=
 ⟨λi H=>∃xs x,jU K H a xs/\xs[i]?=some x,λi H x H'=>∃p y,H p=none/\x=.ref p/\H'=upd H p (.tup [.int i,y])/\∀xs,jU K H a xs->xs[i]?=some y,λi H=>∃xs,jU K H a xs/\xs.length<=i⟩
variable {vM:List Expr}{kt:Nat}
theorem VG {w:dB}{K:bM}{pt:mE}(a e it:bO)(N3:e≠it) :
    Turn P w K (.Tuple vM kt pt) (JY K a) [e,it] e (λi h=>(∃old,IsEnum h e it i old)/\h.IsListIter it a i) where
  mem:=by simp
  obj:=λi h st b hb=>by
    obtain⟨⟨old,he⟩,o,e1,c,d⟩:=st;rcases bY.mp hb with rfl|hb
    · exact⟨_,he,λv z=>by cases z⟩
    · have e2:b=it:=by simpa using hb
      subst e2;exact⟨o,e1,λv z=>by rw[d]at z;cases z⟩
  keep:=λi h h' st k=>by obtain⟨⟨old,he⟩,hit⟩:=st;exact⟨⟨old,k e (by simp) _ he⟩,hit.at λo x=>k it (by simp) o x⟩
  item:=by
    intro X hP hw hK hc i bL s σ H E I hf st hg;subst hP hw hK;obtain⟨xs,x,hq,hx⟩:=hg;obtain⟨dJ,rv,p,hz⟩:=I.list hq;obtain⟨u,hu,ru⟩:=rv.get hx;obtain⟨⟨old,he⟩,hit⟩:=st;refine wpAny_pyNext_enum_item he hit p.isList (x:=u) (by simpa using hu) N3 λh1 ho K6 hT hsz hk=>?_;refine⟨_,rfl,wpAny_letOwnedTupleGo_enum (s:={ s with heap:=h1,toks:=s.toks+1 }) ho λh2 S3 LQ=>?_⟩;have o8:e<s.heap.objs.size:=cw he;have T1:it<s.heap.objs.size:=by obtain⟨_,q,_⟩:=hit;exact cw q
    have SX:h2.get? s.heap.objs.size=some { cls:=.type "tuple",data:=.seq #[.int i s.toks,u] }:=(LQ.2 _ (qC o8)).trans hT;have G3:H s.heap.objs.size=none:=I.hok.fresh (b7 _);have I1:Inv X bL σ (upd H s.heap.objs.size (.tup [.int i,x])) { s with heap:=h2,toks:=s.toks+1 }:=by refine I.turnLay (ch:=[e,it]) hf (λb o hb q=>?_) (b7 _) ⟨by show 2<=sizeLine;decide,[.int i s.toks,u],.cons ⟨_,rfl⟩ (.cons ru .nil),_,SX,rfl,_,rfl⟩;have II:b≠e:=λz=>hb (by simp[z]);have Kq:b≠it:=λz=>hb (by simp[z]);exact(LQ.2 b II).trans (hk b o II Kq q)
    refine⟨.ref s.heap.objs.size,_,I1,rfl,⟨_,x,G3,rfl,rfl,λys hy=>by rw[I.list_inj hy hq];exact hx⟩,⟨⟨u,by simpa using S3⟩,K6.at λo q=>(LQ.2 it N3.symm).trans q⟩,λb hb=>?_⟩;rw[zj ?_]
    · exact(hf b hb).1
    · rcases bY.mp hb with rfl|hb
      · exact cN o8
      · have e2:b=it:=by simpa using hb
        rw[e2];exact cN T1
  done:=by intro X hP hw hK hc i bL s σ H E I hf st hg;subst hP hw hK;obtain⟨xs,hq,hx⟩:=hg;obtain⟨dJ,rv,p,hz⟩:=I.list hq;obtain⟨⟨old,he⟩,hit⟩:=st;have hl:=rv.length;exact wpAny_pyNext_enum_end (I.ok.hd hc) he hit p.isList (by simp;omega) λh' eb=>⟨rfl,I.turnedL (ch:=[e,it]) (t':=s.toks) hf λb o hb q=>eb b o (λz=>hb (by simp[z])) q⟩
  self:=λ_ _ _ _ _ st h=>wpAny_pyIter_enum st.1.choose_spec h
section
variable {pt:mE}
noncomputable def Hl (K:bM)(ta:TA):TI:=λσ H R=>ta σ H λvs H1=>∃a,vs=[.ref a]/\(∃xs,jU K H1 a xs)/\R (JY K a) H1
theorem Qi {l:Expr}{ta:TA}(hg:Gl X "enumerate")(hm:X.mg "enumerate"=none)(ha:PA X [l] ta)(hs:SN X l:=by rfl) :
  PI X (.Tuple vM kt pt) (.Call (.Name "enumerate" p) [l] [] pos) (Hl X.K ta):=by
 intro bL s σ H R I h;refine Call_ (wm I hg hm PyProof.Rows.boot_enumerate (dG (eT (ha pos bL s σ H _ I h) λus s1 ⟨vs,H1,I1,r1,q1⟩=>?_) hs rfl));obtain⟨a,e,⟨xs,hq⟩,q⟩:=q1;subst e;cases r1 with
 |cons r rr=>
  cases rr;cases r;obtain⟨dJ,rv,pl,hz⟩:=I1.list hq;refine call_enumerate_list pl.isList λh' he hit hsz hk=>?_;refine wpAny_pyIter_enum (s:={ s1 with heap:=h' }) he ?_;refine⟨s1.heap.objs.size+1,[s1.heap.objs.size+1,s1.heap.objs.size],_,_,H1,rfl,I1.kept (t':=s1.toks) hk,(VG a _ _ (Nat.succ_ne_self _)).ok,⟨⟨_,he⟩,hit⟩,λb hb=>?_,q⟩;rcases bY.mp hb with rfl|hb
  ·exact I1.fpOk (mI _) (I1.hok.fresh (mI _))
  ·have e:b=s1.heap.objs.size:=by simpa using hb
   subst e;exact I1.fpOk (b7 _) (I1.hok.fresh (b7 _))
end
section
open PySem
def Gw (K:bM)(a:bO)(xs:List V):Prop:=∃(o:gF) (dJ:Array bJ) (n:Nat),K.lookup a=some o/\o.cls=.type "tuple"/\o.data=.seq dJ n/\dJ.size<=sizeLine/\dm xs dJ.toList
theorem c9.rd {u:HO}(e:c9 H H')(h:Rd H a u):Rd H' a u:=h.elim (λh=>.inl (e _ _ h)) λh=>.inr (h.elim λo h=>⟨o,e _ _ h⟩)
end
end L2
namespace PySem
variable {A:c8}{kw:List (Str×bJ)}{prog:dQ}{s:bV}{w:dB}
section
variable {R:Result->bV->Prop}{I:bO}{fp wr:List bO}{n:Nat}{P:Nat->bJ->Prop}{St:Nat->cz->Prop}
theorem Yk (W:Walks prog w A.in1 I fp wr n P St)(bt:Nat->Nat->Bool)(BE:CmpOf prog w A.in1 .Gt P bt)(S:bO)(DS:S∉fp) :
    ∀(k j:Nat) (s:bV) (vb:bJ) (c:Nat),n-(j+1)=k->j+1<=n->St (j+1) s.heap->P (argBest bt j) vb ->
    s.heap.get? S=some { cls:=.type "list",dict:=none,data:=.seq #[vb,vb] c,slots:=#[] } ->
    (∀v h' tk,P (argBest bt (n-1)) v->(∀b o,b∉wr->b≠S->s.heap.get? b=some o->h'.get? b=some o)->R (.ok (.ret v)) { s with heap:=h',toks:=tk }) ->
    gK (b9 prog w) A (.builtin "max.loop" ⟨[.ref I,.none,.ref S],kw⟩) R s:=by
  have IL:S∉wr:=λh=>DS (W.sub _ h);have tS:(toString "max"++toString ".loop":String) = "max.loop":=by decide
  intro k;induction k with
  |zero=>
    intro j s vb c hk hj k7 IK hS hR;have sS:j+1=n:=by omega
    refine codeAny_builtin F.entry_max_loop ?_;rw[c8.under_plainId F.plain_max_loop _];show cj _ A.in1 (seqItems? (.ref S) >>= _) _ _ s;refine bP (wpAny_seqItems hS rfl ?_);show cj _ A.in1 (tryCatch (pyNext (.ref I)) _ >>= _) _ _ s;refine bP (wpAny_tryCatch (W.done s _ _ (sS▸k7) λh' tk yB=>?_));show cj _ A.in1 (updateSeq S (λ_=>#[]) >>= _) _ _ _;refine bP (wpAny_updateSeq (yB S _ IL hS) rfl (bP (wpAny_letGo (cy ?_))));exact hR vb _ tk (by rw[←sS];exact IK) λb o zO C1 e=>(cY _ _ (Ne.symm C1)).trans (yB b o zO e)
  |succ k ih=>
    intro j s vb c hk hj k7 IK hS hR;refine codeAny_builtin F.entry_max_loop ?_;rw[c8.under_plainId F.plain_max_loop _];show cj _ A.in1 (seqItems? (.ref S) >>= _) _ _ s;refine bP (wpAny_seqItems hS rfl ?_);show cj _ A.in1 (tryCatch (pyNext (.ref I)) _ >>= _) _ _ s;refine bP (wpAny_tryCatch (W.item (j+1) s _ _ (by omega) k7 λv h' tk hP C7 yB=>?_));have CD:=yB S _ IL hS;show cj _ A.in1 (tryCatch (fV [v,v] (richCompare .Gt v vb >>= _)) _ >>= _) _ _ _;refine bP (wpAny_tryCatch (lF (bP (BE (j+1) (argBest bt j) v vb _ _ _ hP IK ?_))));refine bP (lF (gL (bP (wpAny_letGo (cy ?_)))));cases hb:bt (j+1) (argBest bt j)with
    |true=>
      simp only[if_true];refine bP (wpAny_updateSeq CD rfl (bP (wpAny_letGo ?_)));rw[tS];refine cy ⟨plainId_quiet F.plain_max_loop _,ih (j+1) _ v _ (by omega) (by omega) (W.frame _ _ _ C7 λb GW o e=>(cY _ _ (λh:S=b=>DS (by rw[h];exact GW))).trans e) (by simp only[argBest,hb,if_true];exact hP) (el _ CD rfl)
        λv' GP Cf GS BL=>hR v' GP Cf GS λb o zO C1 e=>BL b o zO C1 ((cY _ _ (Ne.symm C1)).trans (yB b o zO e))⟩
    |false=>simp only[dH,if_false];refine bP (wpAny_letGo ?_);rw[tS];exact cy ⟨plainId_quiet F.plain_max_loop _,ih (j+1) _ vb c (by omega) (by omega) C7 (by simp only[argBest,hb,dH,if_false];exact IK) CD λv' GP Cf GS BL=>hR v' GP Cf GS λb o zO C1 e=>BL b o zO C1 (yB b o zO e)⟩
theorem VH {dk:Str}{d:bJ}(W:Walks prog w A.in1 I fp wr n P St)(bt:Nat->Nat->Bool)(BE:CmpOf prog w A.in1 .Gt P bt)(S:bO)(DS:S∉fp){c:Nat}(k7:St 0 s.heap)
    (hS:s.heap.get? S=some { cls:=.type "list",dict:=none,data:=.seq #[] c,slots:=#[] })
    (hR:∀v h' tk,(if n=0 then v=d else P (argBest bt (n-1)) v)->(∀b o,b∉wr->b≠S->s.heap.get? b=some o->h'.get? b=some o)->R (.ok (.ret v)) { s with heap:=h',toks:=tk }) :
    gK (b9 prog w) A (.builtin "max.loop" ⟨[.ref I,.none,.ref S],[(dk,d)]⟩) R s:=by
  have IL:S∉wr:=λh=>DS (W.sub _ h);have tS:(toString "max"++toString ".loop":String) = "max.loop":=by decide
  refine codeAny_builtin F.entry_max_loop ?_;rw[c8.under_plainId F.plain_max_loop _];show cj _ A.in1 (seqItems? (.ref S) >>= _) _ _ s;refine bP (wpAny_seqItems hS rfl ?_);show cj _ A.in1 (tryCatch (pyNext (.ref I)) _ >>= _) _ _ s;by_cases hn:n=0
  · subst hn;refine bP (wpAny_tryCatch (W.done s _ _ k7 λh' tk yB=>?_));have hd:=hR d h' tk rfl λb o zO _ e=>yB b o zO e;refine bP ?_
    first|exact cy (cy hd)|exact wpAny_rule (cy hd)
  · refine bP (wpAny_tryCatch (W.item 0 s _ _ (by omega) k7 λv h' tk hP C7 yB=>?_));have CD:=yB S _ IL hS;show cj _ A.in1 (updateSeq S (λ_=>#[v,v]) >>= _) _ _ _;refine bP (wpAny_updateSeq CD rfl ?_);rw[tS];refine cy ⟨plainId_quiet F.plain_max_loop _,Yk W bt BE S DS _ 0 _ v _ rfl (by omega) (W.frame _ _ _ C7 λb GW o e=>(cY _ _ (λh:S=b=>DS (by rw[h];exact GW))).trans e) hP (el _ CD rfl) λv' GP Cf GS BL=>?_⟩;exact hR v' GP Cf (by rw[if_neg hn];exact GS) λb o zO C1 e=>BL b o zO C1 ((cY _ _ (Ne.symm C1)).trans (yB b o zO e))
end
section
variable {E:bJ->bV->Prop}
theorem Yl {id:String}{b:er}{args:List bJ}{Q:bJ->bV->Prop}(hk:builtinKind id=none)(hp:plainId id=true)
  (hb:entryFor table id=some b) (ha:argsOk id ⟨args,kw⟩)
  (hc:cj (b9 prog w) A.in1 (b ⟨args,kw⟩) (λfin s'=>match fin with
   |.done f=>(match (Except.ok f:Result)with|.ok (.ret v)=>Q v s'|.ok _=>False|.error e=>E e s')
   |.again c'=>c'.quiet=true/\gK (b9 prog w) A c' (λr s'=>match r with|.ok (.ret v)=>Q v s'|.ok _=>False|.error e=>E e s') s') E s) :
  cj (b9 prog w) A (call (.builtin id) args kw) Q E s:=by
 refine wpAny_call (codeAny_call_builtin hp hb ?_);simp only[checkBuiltinCall,hk];cases Lk:Manifest.signature? id with
 |none=>exact cy hc
 |some Ur=>
  have BA:Bind.checkArgs id Ur ⟨args,kw⟩=pure ():=by simpa only[argsOk,Lk]using ha
  simp only[BA];exact cy hc
theorem VI {x d:bJ}{Q:bJ->bV->Prop}
  (h:cj (b9 prog w) A.in1 (pyIter x) (λit s₂=>∃I fp wr n P St bt,it=.ref I/\Walks prog w A.in1 I fp wr n P St/\St 0 s₂.heap/\(∀b∈fp,b<s₂.heap.objs.size)/\CmpOf prog w A.in1 .Gt P bt /\
   ∀v h' tk,(if n=0 then v=d else P (argBest bt (n-1)) v)->(∀b o,b∉wr->s₂.heap.get? b=some o->h'.get? b=some o)->Q v { s₂ with heap:=h',toks:=tk }) E s) :
  cj (b9 prog w) A (call (.builtin "max") [x] [("default",d)]) Q E s:=by
 have tS:(toString "max"++toString ".loop":String) = "max.loop":=by decide
 refine Yl F.kind_max F.plain_max F.entry_max (by unfold argsOk;kernel_rfl) ?_;show cj _ A.in1 (er.Builtins.bindParams "max" ["key","default"] 0 ⟨[],[("default",d)]⟩ >>= _) _ _ s;refine bP (wpAny_of_eq (show er.Builtins.bindParams "max" ["key","default"] 0 ⟨[],[("default",d)]⟩=pure [none,some d]from rfl) ?_);refine bP (cy ?_);refine bP (eo h (λit s₂ h₂=>?_) λ_ _ e=>e);obtain⟨I,fp,wr,n,P,St,bt,rfl,W,k7,K0,BE,hQ⟩:=h₂;refine bP (kK ?_);have DS:s₂.heap.objs.size∉fp:=λhm=>fY _ (K0 _ hm);rw[tS];refine cy ⟨plainId_quiet F.plain_max_loop _,VH W bt BE s₂.heap.objs.size DS (W.frame _ _ _ k7 λb _ o e=>bT _ e) (cU _ rfl) λv h' tk hP hk=>?_⟩;exact hQ v h' tk hP λb o zO e=>hk b o zO (cN (cw e)) (bT _ e)
end
end PySem
namespace L2
open PySem PyProof.Rows
variable {X:Cx}{cap:List Nat}{o8 iter tg:Expr}{g:TG}{i:Nat}{ifs:List Expr}{pos pos':mE}{scope:pO}{te:TE}{tt:TT}{wi:TI}{x:Str}
theorem Vy {wJ:mE}{N:List Str}{own:Nat}(B:oJ X scope N own cap)(hc:X.calm=true)(hi:PI X tg iter wi)
  (kg:kB own g)
  (hg:∀cl C fp s₀ H₀,PG (nJ X scope cl N C fp s₀ H₀) tg g) (ht:∀cl C fp s₀ H₀,DL (nJ X scope cl N C fp s₀ H₀) ifs tt) (he:∀cl C fp s₀ H₀,PE (nJ X scope cl N C fp s₀ H₀) o8 te)
  (hN:X.N.Nodup) (AA:X.N[i]?=some x) (hx:Loc X.env.scope x) (BV:gq (.ListComp o8 [⟨tg,iter,ifs,0⟩] scope pos) (some (.Name x pos')) wJ.line X.env=pure true)
  (hs:Bs X iter:=by intro _;rfl) (hf:vL X x:=by walk_at "v2") :
  PS X (.Assign [.Name x pos'] (.ListComp o8 [⟨tg,iter,ifs,0⟩] scope pos) wJ) (Fi (Ab wi own cap g tt te) (zN i)):=by
 intro bL s σ H D I h;rw[exec_Assign_Name_used _ _ _ _ BV];refine bP (kn (bP ?_));show cj _ X.A (do let _ ← comprehension (.ListComp o8 [⟨tg,iter,ifs,0⟩] scope pos) scope X.env _ (newList []) false (dR iter X.env) (some (lB (.Name x pos') X.env))) _ _ s;refine bP (eo (PZ (use:=some (lB (.Name x pos') X.env)) (Q0:=λ_ s'=>∃σ' H',Inv X bL σ' H' s'/\D.nx σ' H') B hc hi kg hg ht he hs I h λDa C H5 s6 r q I6 fo hm=>?_) (λ_ s' hq=>cy (cy hq)) λ_ _ e=>e);show cj _ X.A (lB (.Name x pos') X.env (.ref Da)) _ _ _;refine wpAny_assign_Name (O7 (v:=.ref Da) I6 hN AA hx rfl (λs7 I7 Ts=>?_) hf);obtain⟨m,hm⟩:=hm;obtain⟨a,sb,ha⟩:=Ts;obtain⟨f0,f1,f2,f3,f4,f5⟩:=fo;have nU:C≠a:=by
  rcases ha with rfl|ha
  ·exact f1
  ·exactλz=>f4 x a ha z.symm
 refine⟨m,hm.sameBut sb nU,λh' Uq=>⟨_,H5,I7.turned (t':=s7.toks) (it:=C) (λb o hb e=>Uq.extBut b o hb e) f0 f1 f3 f4 f5,q⟩⟩
variable {vM:List Expr}{kt:Nat}
variable {e:Expr}{p2:mE}
variable {C f:bO}{CX:Br}{fK p:mE}{es:List Expr}{fd:b5}{m:Str}{o:Expr}{ps:List Str}{ta:TE}
variable {E:bJ->bV->Prop}{s:bV}
variable {ds:List bJ}{lT:List V}
end L2
namespace PySem
variable {A:c8}{kw:List (Str×bJ)}{prog:dQ}{w:dB}
variable {s:bV}
end PySem
namespace L2
open PySem PySem.Spec PyProof.Rows
variable {X:Cx}{e:Expr}{p2 pos:mE}{te:TE}
variable {P:dQ}
variable {CX:Br}{es:List Expr}{p:mE}{x:Str}
variable {E:bJ->bV->Prop}{s:bV}
variable {vM:List Expr}{kt:Nat}
variable {tg:Expr}
variable {f:bO}{fd:b5}{i:Nat}{ps:List Str}
end L2
namespace Fq
theorem gcd_step (a b:Int):iH b (a.fmod b)=iH a b:=by rw[Int.fmod_def,Int.gcd_sub_mul_left_right,Int.gcd_comm]
variable {b:Int}
theorem fmod_less (a:Int)(hb:b≠0):(a.fmod b).natAbs<b.natAbs:=by
 rcases Int.lt_or_gt_of_ne hb with h|h
 ·have h1:=AQ (-a) (b:=-b) (by omega);have h2:=wL (-a) (b:=-b) (by omega);have e:(-a).fmod (-b) = -(a.fmod b):=Int.neg_fmod_neg ..;omega
 ·have h1:=AQ a h;have h2:=wL a h;omega
theorem gcd_end (a:Int):(if a<0 then -a else a)=((iH a 0:Nat):Int):=by rw[Int.gcd_zero_right];split<;>omega
noncomputable def dv (t b:Int):Int:=if b<0 then -((iH t b:Nat):Int)else((iH t b:Nat):Int)
noncomputable def mk (t b:Int):Int×Int:=(t.fdiv (dv t b),b.fdiv (dv t b))
structure Low (q:Int×Int):Prop where
 pos:1<=q.2
 cop:iH q.1 q.2=1
variable {t:Int}
theorem gcd_pos (hb:b≠0):0<iH t b:=Int.gcd_pos_of_ne_zero_right t hb
theorem Np (hb:b≠0):dv t b≠0:=by have:=gcd_pos (t:=t) hb;unfold dv;split<;>omega
theorem Rg (t b:Int):(dv t b).natAbs=iH t b:=by unfold dv;split<;>omega
theorem dv_le (hb:b≠0):(dv t b).natAbs<=b.natAbs:=by rw[Rg];exact Nat.le_of_dvd (by omega) (Int.natAbs_dvd_natAbs.mpr (p9 t b)|> λh=>by simpa using h)
theorem jz (t b:Int):dv t b ∣ t:=by
 unfold dv;split
 ·exact Int.neg_dvd.mpr (Ck t b)
 ·exact Ck t b
theorem u4 (t b:Int):dv t b ∣ b:=by
 unfold dv;split
 ·exact Int.neg_dvd.mpr (p9 t b)
 ·exact p9 t b
theorem M4 (t b:Int):t=dv t b*(mk t b).1:=by show t=dv t b*t.fdiv (dv t b);rw[vH (jz t b),yW (jz t b)]
theorem mk_two (t b:Int):b=dv t b*(mk t b).2:=by show b=dv t b*b.fdiv (dv t b);rw[vH (u4 t b),yW (u4 t b)]
theorem mk_low (hb:b≠0):Low (mk t b):=by
 have e1:=M4 t b;have e2:=mk_two t b;have hd:=Np (t:=t) hb;have hg:=gcd_pos (t:=t) hb;constructor
 ·have hs:(b<0/\dv t b<0)\/(0<b/\0<dv t b):=by unfold dv;split<;>omega
  rcases hs with⟨h1,h2⟩|⟨h1,h2⟩
  ·rcases Int.lt_or_le (mk t b).2 1 with h|h
   ·have:0<=dv t b*(mk t b).2:=pM (by omega) (by omega);omega
   ·exact h
  ·rcases Int.lt_or_le (mk t b).2 1 with h|h
   ·have:dv t b*(mk t b).2<=0:=Int.mul_nonpos_of_nonneg_of_nonpos (by omega) (by omega);omega
   ·exact h
 ·have h:iH (dv t b*(mk t b).1) (dv t b*(mk t b).2)=iH t b:=by rw[←e1,←e2]
  rw[Int.gcd_mul_left,Rg]at h;exact Nat.eq_of_mul_eq_mul_left hg (by rw[h,Nat.mul_one])
theorem mk_cross (t b:Int):(mk t b).1*b=t*(mk t b).2:=by
 have e1:=M4 t b;have e2:=mk_two t b;generalize (mk t b).1=x,(mk t b).2=y,dv t b=d at *;subst e1;rw[e2]
 grind
theorem OS {d x:Int}(hd:d≠0):x.natAbs<=(d*x).natAbs:=by rw[DD];exact Nat.le_mul_of_pos_left _ (by omega)
theorem mk_le_one (hb:b≠0):(mk t b).1.natAbs<=t.natAbs:=by have h:=OS (x:=(mk t b).1) (Np (t:=t) hb);rwa[←M4]at h
theorem mk_le_two (hb:b≠0):(mk t b).2.natAbs<=b.natAbs:=by have h:=OS (x:=(mk t b).2) (Np (t:=t) hb);rwa[←mk_two]at h
noncomputable def plus (p q:Int×Int):Int×Int:=mk (p.1*q.2+q.1*p.2) (p.2*q.2)
noncomputable def scaled (p:Int×Int)(n:Int):Int×Int:=mk (p.1*n) p.2
noncomputable def minus (p q:Int×Int):Int×Int:=plus p (scaled q (-1))
def under (p q:Int×Int):Bool:=decide (p.1*q.2<q.1*p.2)
variable {q:Int×Int}
theorem Low.ne (h:Low q):q.2≠0:=by have:=h.pos;omega
variable {p:Int×Int}
theorem Low.mul_ne (h:Low p)(h':Low q):p.2*q.2≠0:=Int.mul_ne_zero h.ne h'.ne
theorem plus_low (h:Low p)(h':Low q):Low (plus p q):=mk_low (h.mul_ne h')
theorem scaled_low (h:Low p)(n:Int):Low (scaled p n):=mk_low h.ne
theorem minus_low (h:Low p)(h':Low q):Low (minus p q):=plus_low h (scaled_low h' _)
theorem plus_v (p q:Int×Int):(plus p q).1*(p.2*q.2)=(p.1*q.2+q.1*p.2)*(plus p q).2:=mk_cross _ _
theorem WB (p:Int×Int)(n:Int):(scaled p n).1*p.2=(p.1*n)*(scaled p n).2:=mk_cross _ _
theorem minus_v (h':Low q):(minus p q).1*(p.2*q.2)=(p.1*q.2-q.1*p.2)*(minus p q).2:=by
 have e1:=plus_v p (scaled q (-1));have e2:=WB q (-1);have hs:=(scaled_low h' (-1)).ne;show(plus p (scaled q (-1))).1*(p.2*q.2)=(p.1*q.2-q.1*p.2)*(plus p (scaled q (-1))).2;have k:(scaled q (-1)).2*((plus p (scaled q (-1))).1*(p.2*q.2))=(scaled q (-1)).2*((p.1*q.2-q.1*p.2)*(plus p (scaled q (-1))).2):=by grind
 exact Int.eq_of_mul_eq_mul_left hs k
theorem lt_congr {n d m e n' d' m' e':Int}(hd:0<d)(he:0<e)(GZ:0<d')(S2:0<e')(h:n*e=m*d)(h':n' * e'=m' * d'):(n*d'<n' * d↔m*e'<m' * e):=by
 have p1:0<e*e':=fF he S2;have p2:0<d*d':=fF hd GZ;have k:(e*e')*(n' * d-n*d')=(d*d')*(m' * e-m*e'):=by grind
 constructor
 ·intro q;have:0<(d*d')*(m' * e-m*e'):=by rw[←k];exact fF p1 (by omega)
  have:=uZ this (by omega);omega
 ·intro q;have:0<(e*e')*(n' * d-n*d'):=by rw[k];exact fF p2 (by omega)
  have:=uZ this (by omega);omega
theorem Low.gt (h:Low q):0<q.2:=by have:=h.pos;omega
end Fq
namespace L3
open PySem PySem.Spec L2
open PyProof.Rows hiding St
inductive D where
 |non|bl (b:Bool)|int (i:Int)|str (x:Str)
 |lst (xs:List D)|tup (xs:List D)|dK (ks:List ko) (ds:List D)|dT (ks:List (List ko)) (ds:List D)
 |obj (c:Nat) (ns:List Str) (ds:List D)
 |exc (c:Nat) (ns:List Str) (ds:List D)
 |kt (xs:List D)
 deriving Inhabited
inductive Pr (R:D->V->Prop):List D->List V->Prop
 |nil:Pr R [] []
 |cons {d:D} {v:V} {ds:List D} {vs:List V}:R d v->Pr R ds vs->Pr R (d::ds) (v::vs)
variable {R:D->V->Prop}{ds:List D}
theorem Pr.mono {R':D->V->Prop}(f:∀d v,R d v->R' d v){vs:List V}(h:Pr R ds vs):Pr R' ds vs:=by
 induction h with
 |nil=>exact .nil
 |cons h t ih=>exact .cons (f _ _ h) ih
theorem Pr.length {vs:List V}(h:Pr R ds vs):ds.length=vs.length:=by
 induction h with
 |nil=>rfl
 |cons h t ih=>rw[b8,b8,ih]
variable {d:D}{i:Nat}
theorem Pr.get' {vs:List V}(h:Pr R ds vs)(e:ds[i]?=some d):∃v,vs[i]?=some v/\R d v:=by
 induction h generalizing i with
 |nil=>cases e
 |cons h t ih=>
  cases i with
  |zero=>cases e;exact⟨_,rfl,h⟩
  |succ i=>exact ih e
theorem Pr.append {es:List D}{vs us:List V}(h:Pr R ds vs)(s:Pr R es us):Pr R (ds++es) (vs++us):=by
 induction h with
 |nil=>exact s
 |cons h t ih=>exact .cons h ih
theorem Pr.take {vs:List V}(n:Nat)(h:Pr R ds vs):Pr R (ds.take n) (vs.take n):=by
 induction h generalizing n with
 |nil=>cases n<;>exact .nil
 |cons h t ih=>cases n with
  |zero=>exact .nil
  |succ n=>exact .cons h (ih n)
theorem Pr.drop {vs:List V}(n:Nat)(h:Pr R ds vs):Pr R (ds.drop n) (vs.drop n):=by
 induction h generalizing n with
 |nil=>cases n<;>exact .nil
 |cons h t ih=>cases n with
  |zero=>exact .cons h t
  |succ n=>exact ih n
theorem Pr.reverse {vs:List V}(h:Pr R ds vs):Pr R ds.reverse vs.reverse:=by
 induction h with
 |nil=>exact .nil
 |cons h t ih=>rw[pU,pU];exact ih.append (.cons h .nil)
theorem Pr.rep {vs:List V}(h:Pr R ds vs)(k:Nat):Pr R (bW k ds).flatten (bW k vs).flatten:=by
 induction k with
 |zero=>exact .nil
 |succ k ih=>rw[dI,gD,dI,gD];exact h.append ih
mutual
inductive Dt (K:bM)(ct:Nat->bO)(F:Hp):D->V->Prop
 |non:Dt K ct F .non .non
 |bl (b:Bool):Dt K ct F (.bl b) (.bl b)
 |int (i:Int):Dt K ct F (.int i) (.int i)
 |str (x:Str):Dt K ct F (.str x) (.str x)
 |lst {a:bO} {vs:List V} {ds:List D}:jU K F a vs->Dts K ct F ds vs->Dt K ct F (.lst ds) (.ref a)
 |tup {a:bO} {vs:List V} {ds:List D}:F a=some (.tup vs)->Dts K ct F ds vs->Dt K ct F (.tup ds) (.ref a)
 |dK {a:bO} {ks:List ko} {vs:List V} {ds:List D}:F a=some (.dK (ks.zip vs))->ks.length=vs.length->Dts K ct F ds vs->Dt K ct F (.dK ks ds) (.ref a)
 |dT {a:bO} {ks:List (List ko)} {vs:List V} {ds:List D}:Rd F a (.dT (ks.zip vs))->ks.length=vs.length->Dts K ct F ds vs->Dt K ct F (.dT ks ds) (.ref a)
 |obj {a dx:bO} {c:Nat} {ns:List Str} {vs:List V} {ds:List D}:F a=some (.ins (ct c) dx (ns.zip vs))->ns.length=vs.length->Dts K ct F ds vs->Dt K ct F (.obj c ns ds) (.ref a)
 |exc0 {a:bO} {c:Nat} {tb:Option bO}:F a=some (sJ a (ct c) none tb)->Dt K ct F (.exc c [] []) (.ref a)
 |exc {a dx:bO} {c:Nat} {tb:Option bO} {ns:List Str} {vs:List V} {ds:List D}:F a=some (sJ a (ct c) (some dx) tb)->F dx=some (.xd (ns.zip vs))->ns.length=vs.length->Dts K ct F ds vs->Dt K ct F (.exc c ns ds) (.ref a)
 |kt {a:bO} {vs:List V} {ds:List D}:Gw K a vs->Dts K ct F ds vs->Dt K ct F (.kt ds) (.ref a)
inductive Dts (K:bM)(ct:Nat->bO)(F:Hp):List D->List V->Prop
 |nil:Dts K ct F [] []
 |cons {d:D} {v:V} {ds:List D} {vs:List V}:Dt K ct F d v->Dts K ct F ds vs->Dts K ct F (d::ds) (v::vs)
end
variable {B B' F F' G G' H H':Hp}{K:bM}{ct:Nat->bO}
theorem Dts.pr {vs:List V}(h:Dts K ct F ds vs):Pr (Dt K ct F) ds vs:=by
 induction ds generalizing vs with
 |nil=>cases h;exact .nil
 |cons d ds ih=>cases h with|cons h t=>exact .cons h (ih t)
theorem Dts.of {vs:List V}(h:Pr (Dt K ct F) ds vs):Dts K ct F ds vs:=by
 induction h with
 |nil=>exact .nil
 |cons h t ih=>exact .cons h ih
theorem Dt.mono (s:c9 F F'){v:V}(h:Dt K ct F d v):Dt K ct F' d v :=
 Dt.rec (motive_1:=λd v _=>Dt K ct F' d v) (motive_2:=λd v _=>Dts K ct F' d v) .non .bl .int .str (λh _ t=>.lst (s.seq h) t) (λh _ t=>.tup (s _ _ h) t) (λh l _ t=>.dK (s _ _ h) l t) (λh l _ t=>.dT (s.rd h) l t) (λh l _ t=>.obj (s _ _ h) l t) (λh=>.exc0 (s _ _ h)) (λh h' l _ t=>.exc (s _ _ h) (s _ _ h') l t) (λh _ t=>.kt h t) .nil (λ_ _ h t=>.cons h t) h
theorem Dts.mono (s:c9 F F'){vs:List V}(h:Dts K ct F ds vs):Dts K ct F' ds vs:=Dts.of (h.pr.mono λ_ _ q=>q.mono s)
noncomputable def D.sc:D->Bool
 |.non=>true|.bl _=>true|.int _=>true|.str _=>true|_=>false
inductive FG (K:bM)(ct:Nat->bO)(F G:Hp)(R:D->V->Prop):D->V->Prop
 |lst {a:bO} {vs:List V} {ds:List D}:G a=some (.lst vs)->Pr R ds vs->FG K ct F G R (.lst ds) (.ref a)
 |tup {a:bO} {vs:List V} {ds:List D}:F a=some (.tup vs)->Pr R ds vs->FG K ct F G R (.tup ds) (.ref a)
 |dK {a:bO} {ks:List ko} {vs:List V} {ds:List D}:G a=some (.dK (ks.zip vs))->ks.length=vs.length->Pr R ds vs->FG K ct F G R (.dK ks ds) (.ref a)
 |dT {a:bO} {ks:List (List ko)} {vs:List V} {ds:List D}:Rd G a (.dT (ks.zip vs))->ks.length=vs.length->Pr R ds vs->FG K ct F G R (.dT ks ds) (.ref a)
 |obj {a dx:bO} {c:Nat} {ns:List Str} {vs:List V} {ds:List D}:G a=some (.ins (ct c) dx (ns.zip vs))->ns.length=vs.length->Pr R ds vs->FG K ct F G R (.obj c ns ds) (.ref a)
def Al (K:bM)(ct:Nat->bO)(F G:Hp):Nat->D->V->Prop
 |0,d,v=>Dt K ct F d v
 |n+1,d,v=>Dt K ct F d v\/FG K ct F G (Al K ct F G n) d v
inductive iI (R:D->V->List bO->Prop):List D->List V->List bO->Prop
 |nil:iI R [] [] []
 |cons {d:D} {v:V} {ds:List D} {vs:List V} {f g:List bO}:R d v f->iI R ds vs g->iI R (d::ds) (v::vs) (f++g)
inductive Bw (K:bM)(ct:Nat->bO)(F H:Hp)(R:D->V->List bO->Prop):D->V->List bO->Prop
 |lst {a:bO} {vs:List V} {ds:List D} {fp:List bO}:F a=none->H a=some (.lst vs)->iI R ds vs fp->Bw K ct F H R (.lst ds) (.ref a) (a::fp)
 |tup {a:bO} {vs:List V} {ds:List D} {fp:List bO}:F a=some (.tup vs)->iI R ds vs fp->Bw K ct F H R (.tup ds) (.ref a) fp
 |dK {a:bO} {ks:List ko} {vs:List V} {ds:List D} {fp:List bO}:F a=none->H a=some (.dK (ks.zip vs))->ks.length=vs.length->iI R ds vs fp->Bw K ct F H R (.dK ks ds) (.ref a) (a::fp)
 |dT {a:bO} {ks:List (List ko)} {vs:List V} {ds:List D} {fp:List bO}:F a=none->H a=some (.dT (ks.zip vs))->ks.length=vs.length->iI R ds vs fp->Bw K ct F H R (.dT ks ds) (.ref a) (a::fp)
 |obj {a dx:bO} {c:Nat} {ns:List Str} {vs:List V} {ds:List D} {fp:List bO}:F a=none->H a=some (.ins (ct c) dx (ns.zip vs))->ns.length=vs.length->iI R ds vs fp->Bw K ct F H R (.obj c ns ds) (.ref a) (a::fp)
noncomputable def Ow (K:bM)(ct:Nat->bO)(F H:Hp):Nat->D->V->List bO->Prop
 |0,d,v,fp=>Dt K ct F d v/\fp=[]
 |n+1,d,v,fp=>(d.sc=true/\Dt K ct F d v/\fp=[])\/Bw K ct F H (Ow K ct F H n) d v fp
def ng (o:HO):Prop:=∀xs,o≠.tup xs
structure iZ (F H F' H':Hp):Prop where
 ff:c9 F F'
 hh:c9 H H'
 fh:c9 F' H'
 nf:∀a o,H a=some o->ng o->F a=none->F' a=none
theorem iZ.refl (h:c9 F H):iZ F H F H:=⟨.refl _,.refl _,h,λ_ _ _ _ h=>h⟩
variable {F1:Hp}
theorem iZ.trans {H1 F2 H2:Hp}(a:iZ F H F1 H1)(b:iZ F1 H1 F2 H2):iZ F H F2 H2 :=
 ⟨a.ff.trans b.ff,a.hh.trans b.hh,b.fh,λc o h t n=>b.nf c o (a.hh _ _ h) t (a.nf c o h t n)⟩
theorem iZ.newO {p:bO}(s:c9 F H)(h:H p=none)(o:HO):iZ F H F (upd H p o) :=
 ⟨.refl _,xl h o,s.trans (xl h o),λ_ _ _ _ h=>h⟩
theorem iZ.newS {p:bO}(s:c9 F H)(h:H p=none)(o:HO):iZ F H (upd F p o) (upd H p o) :=
  ⟨xl (s.free h) o,xl h o,λb u q=>by
    by_cases e:b=p
    · subst e;rw[zo]at q ⊢;exact q
    · rw[zj e]at q ⊢;exact s _ _ q,
   λb u q _ n=>by rw[zj (zl q h)];exact n⟩
variable {F0:Hp}{fp:List bO}{ks:List ko}{n:Nat}{x:Str}
theorem Al.mono (sF:c9 F F')(sG:c9 G G'):∀{d:D} {v:V},Al K ct F G n d v->Al K ct F' G' n d v:=by
 induction n with
 |zero=>exactλh=>Dt.mono sF h
 |succ n ih=>
  intro d v h;rcases h with h|h
  ·exact .inl (Dt.mono sF h)
  ·cases h with
   |lst h p=>exact .inr (.lst (sG _ _ h) (p.mono λ_ _ q=>ih q))
   |tup h p=>exact .inr (.tup (sF _ _ h) (p.mono λ_ _ q=>ih q))
   |dK h l p=>exact .inr (.dK (sG _ _ h) l (p.mono λ_ _ q=>ih q))
   |dT h l p=>exact .inr (.dT (sG.rd h) l (p.mono λ_ _ q=>ih q))
   |obj h l p=>exact .inr (.obj (sG _ _ h) l (p.mono λ_ _ q=>ih q))
theorem Al.of:∀{n:Nat} {d:D} {v:V},Dt K ct F d v->Al K ct F G n d v
 |0,_,_,h=>h
 |_+1,_,_,h=>.inl h
theorem Al.up:∀{m:Nat} {d:D} {v:V},Al K ct F G n d v->n<=m->Al K ct F G m d v:=by
 induction n with
 |zero=>exactλh _=>Al.of h
 |succ n ih=>
  intro m d v h l;cases m with
  |zero=>exact absurd l (by omega)
  |succ m=>
   rcases h with h|h
   ·exact .inl h
   ·cases h with
    |lst h p=>exact .inr (.lst h (p.mono λ_ _ q=>ih q (by omega)))
    |tup h p=>exact .inr (.tup h (p.mono λ_ _ q=>ih q (by omega)))
    |dK h e p=>exact .inr (.dK h e (p.mono λ_ _ q=>ih q (by omega)))
    |dT h e p=>exact .inr (.dT h e (p.mono λ_ _ q=>ih q (by omega)))
    |obj h e p=>exact .inr (.obj h e (p.mono λ_ _ q=>ih q (by omega)))
theorem Dt.scal {v:V}(h:Dt K ct F d v)(hs:d.sc=true):Dt K ct F' d v:=by
 cases h with
 |non=>exact .non
 |bl b=>exact .bl b
 |int i=>exact .int i
 |str x=>exact .str x
 |lst _ _=>cases hs
 |tup _ _=>cases hs
 |dK _ _ _=>cases hs
 |dT _ _ _=>cases hs
 |obj _ _ _=>cases hs
 |exc0 _=>cases hs
 |exc _ _ _ _=>cases hs
 |kt _ _=>cases hs
theorem Al.scal {v:V}(h:Al K ct F G n d v)(hs:d.sc=true):Dt K ct F' d v:=by
 cases n with
 |zero=>exact Dt.scal h hs
 |succ n=>
  rcases h with h|h
  ·exact h.scal hs
  ·cases h<;>cases hs
theorem Al.int {i:Int}{v:V}(h:Al K ct F G n (.int i) v):v=.int i:=by have q:=Al.scal (F':=F) h rfl;cases q;rfl
theorem Al.bl {b:Bool}{v:V}(h:Al K ct F G n (.bl b) v):v=.bl b:=by have q:=Al.scal (F':=F) h rfl;cases q;rfl
theorem Al.str {v:V}(h:Al K ct F G n (.str x) v):v=.str x:=by have q:=Al.scal (F':=F) h rfl;cases q;rfl
theorem Al.non {v:V}(h:Al K ct F G n .non v):v=.non:=by have q:=Al.scal (F':=F) h rfl;cases q;rfl
theorem Al.lst {v:V}(h:Al K ct F G n (.lst ds) v)(s:c9 F G):∃a vs,v=.ref a/\jU K G a vs/\Pr (Al K ct F G (n-1)) ds vs:=by
 cases n with
 |zero=>
  have h:Dt K ct F (.lst ds) v:=h;cases h with
  |lst q t=>exact⟨_,_,rfl,s.seq q,t.pr⟩
 |succ n=>
  rcases h with h|h
  ·cases h with
   |lst q t=>exact⟨_,_,rfl,s.seq q,t.pr.mono λ_ _=>Al.of⟩
  ·cases h with
   |lst q t=>exact⟨_,_,rfl,jU.of q,t⟩
theorem Al.tup {v:V}(h:Al K ct F G n (.tup ds) v)(s:c9 F G):∃a vs,v=.ref a/\G a=some (.tup vs)/\Pr (Al K ct F G (n-1)) ds vs:=by
 cases n with
 |zero=>
  have h:Dt K ct F (.tup ds) v:=h;cases h with
  |tup q t=>exact⟨_,_,rfl,s _ _ q,t.pr⟩
 |succ n=>
  rcases h with h|h
  ·cases h with
   |tup q t=>exact⟨_,_,rfl,s _ _ q,t.pr.mono λ_ _=>Al.of⟩
  ·cases h with
   |tup q t=>exact⟨_,_,rfl,s _ _ q,t⟩
theorem Al.dK {v:V}(h:Al K ct F G n (.dK ks ds) v)(s:c9 F G):∃a vs,v=.ref a/\G a=some (.dK (ks.zip vs))/\ks.length=vs.length/\Pr (Al K ct F G (n-1)) ds vs:=by
 cases n with
 |zero=>
  have h:Dt K ct F (.dK ks ds) v:=h;cases h with
  |dK q l t=>exact⟨_,_,rfl,s _ _ q,l,t.pr⟩
 |succ n=>
  rcases h with h|h
  ·cases h with
   |dK q l t=>exact⟨_,_,rfl,s _ _ q,l,t.pr.mono λ_ _=>Al.of⟩
  ·cases h with
   |dK q l t=>exact⟨_,_,rfl,q,l,t⟩
theorem Al.dT {ks:List (List ko)}{v:V}(h:Al K ct F G n (.dT ks ds) v)(s:c9 F G):∃a vs,v=.ref a/\Rd G a (.dT (ks.zip vs))/\ks.length=vs.length/\Pr (Al K ct F G (n-1)) ds vs:=by
 cases n with
 |zero=>
  have h:Dt K ct F (.dT ks ds) v:=h;cases h with
  |dT q l t=>exact⟨_,_,rfl,s.rd q,l,t.pr⟩
 |succ n=>
  rcases h with h|h
  ·cases h with
   |dT q l t=>exact⟨_,_,rfl,s.rd q,l,t.pr.mono λ_ _=>Al.of⟩
  ·cases h with
   |dT q l t=>exact⟨_,_,rfl,q,l,t⟩
theorem Al.obj {c:Nat}{ns:List Str}{v:V}(h:Al K ct F G n (.obj c ns ds) v)(s:c9 F G):∃a dx vs,v=.ref a/\G a=some (.ins (ct c) dx (ns.zip vs))/\ns.length=vs.length/\Pr (Al K ct F G (n-1)) ds vs:=by
 cases n with
 |zero=>
  have h:Dt K ct F (.obj c ns ds) v:=h;cases h with
  |obj q l t=>exact⟨_,_,_,rfl,s _ _ q,l,t.pr⟩
 |succ n=>
  rcases h with h|h
  ·cases h with
   |obj q l t=>exact⟨_,_,_,rfl,s _ _ q,l,t.pr.mono λ_ _=>Al.of⟩
  ·cases h with
   |obj q l t=>exact⟨_,_,_,rfl,q,l,t⟩
theorem Al.kt {v:V}(h:Al K ct F G n (.kt ds) v):∃a vs,v=.ref a/\Gw K a vs/\Pr (Dt K ct F) ds vs:=by
 have h:Dt K ct F (.kt ds) v:=by
  cases n with
  |zero=>exact h
  |succ n=>
   rcases h with h|h
   ·exact h
   ·cases h
 cases h with
 |kt q t=>exact⟨_,_,rfl,q,t.pr⟩
theorem iI.mono {R R':D->V->List bO->Prop}{vs:List V}(h:iI R ds vs fp):(∀d v f,(∀a∈f,a∈fp)->R d v f->R' d v f)->iI R' ds vs fp:=by
 induction h with
 |nil=>exactλ_=>.nil
 |cons h t ih=>exactλq=>.cons (q _ _ _ (λa z=>cC _ z) h) (ih λd v f i r=>q d v f (λa z=>b6 _ (i a z)) r)
theorem iI.pr {R:D->V->List bO->Prop}{R':D->V->Prop}{vs:List V}(h:iI R ds vs fp):(∀d v f,(∀a∈f,a∈fp)->R d v f->R' d v)->Pr R' ds vs:=by
 induction h with
 |nil=>exactλ_=>.nil
 |cons h t ih=>exactλq=>.cons (q _ _ _ (λa z=>cC _ z) h) (ih λd v f i r=>q d v f (λa z=>b6 _ (i a z)) r)
theorem iI.ofPr {R:D->V->List bO->Prop}{vs:List V}(h:Pr (λd v=>R d v []) ds vs):iI R ds vs []:=by
 induction h with
 |nil=>exact .nil
 |cons h t ih=>exact iI.cons (f:=[]) (g:=[]) h ih
theorem iI.append {R:D->V->List bO->Prop}{es:List D}{vs us:List V}{f g:List bO}(h:iI R ds vs f)(s:iI R es us g):iI R (ds++es) (vs++us) (f++g):=by
 induction h with
 |nil=>exact s
 |cons h t ih=>rw[fL];exact .cons h ih
theorem iI.length {R:D->V->List bO->Prop}{vs:List V}(h:iI R ds vs fp):ds.length=vs.length:=by
 induction h with
 |nil=>rfl
 |cons _ t ih=>simp[ih]
theorem Ow.frame (sF:c9 F F'):∀{d:D} {v:V} {fp:List bO},Ow K ct F H n d v fp->(∀a∈fp,H' a=H a/\F' a=none)->Ow K ct F' H' n d v fp:=by
 induction n with
 |zero=>exactλh _=>⟨h.1.mono sF,h.2⟩
 |succ n ih=>
  intro d v fp h k;rcases h with h|h
  ·exact .inl ⟨h.1,h.2.1.mono sF,h.2.2⟩
  ·cases h with
   |lst hn h p=>exact .inr (.lst (k _ bH).2 ((k _ bH).1.trans h) (p.mono λ_ _ _ i q=>ih q λa z=>k a (bK _ (i a z))))
   |tup h p=>exact .inr (.tup (sF _ _ h) (p.mono λ_ _ _ i q=>ih q λa z=>k a (i a z)))
   |dK hn h l p=>exact .inr (.dK (k _ bH).2 ((k _ bH).1.trans h) l (p.mono λ_ _ _ i q=>ih q λa z=>k a (bK _ (i a z))))
   |dT hn h l p=>exact .inr (.dT (k _ bH).2 ((k _ bH).1.trans h) l (p.mono λ_ _ _ i q=>ih q λa z=>k a (bK _ (i a z))))
   |obj hn h l p=>exact .inr (.obj (k _ bH).2 ((k _ bH).1.trans h) l (p.mono λ_ _ _ i q=>ih q λa z=>k a (bK _ (i a z))))
theorem iI.cells0 {R:D->V->List bO->Prop}(k:∀d v f,R d v f->∀a∈f,F a=none/\∃o,H a=some o/\ng o){vs:List V}(h:iI R ds vs fp):∀a∈fp,F a=none/\∃o,H a=some o/\ng o:=by
 induction h with
 |nil=>exactλa z=>by cases z
 |cons h t ih=>exactλa z=>(cA.mp z).elim (λz=>k _ _ _ h a z) (ih a)
theorem Ow.cells:∀{d:D} {v:V} {fp:List bO},Ow K ct F H n d v fp->∀a∈fp,F a=none/\∃o,H a=some o/\ng o:=by
 induction n with
 |zero=>exactλh a z=>by rw[h.2]at z;cases z
 |succ n ih=>
  intro d v fp h a z;rcases h with h|h
  ·rw[h.2.2]at z;cases z
  ·cases h with
   |lst hn h p=>exact(bY.mp z).elim (λe=>by rw[e];exact⟨hn,_,h,nofun⟩) (iI.cells0 (λd v f q=>ih q) p a)
   |tup h p=>exact iI.cells0 (λd v f q=>ih q) p a z
   |dK hn h l p=>exact(bY.mp z).elim (λe=>by rw[e];exact⟨hn,_,h,nofun⟩) (iI.cells0 (λd v f q=>ih q) p a)
   |dT hn h l p=>exact(bY.mp z).elim (λe=>by rw[e];exact⟨hn,_,h,nofun⟩) (iI.cells0 (λd v f q=>ih q) p a)
   |obj hn h l p=>exact(bY.mp z).elim (λe=>by rw[e];exact⟨hn,_,h,nofun⟩) (iI.cells0 (λd v f q=>ih q) p a)
theorem Ow.ext {v:V}(h:Ow K ct F H n d v fp)(e:iZ F H F' H'):Ow K ct F' H' n d v fp :=
 h.frame e.ff λa z=>by obtain⟨hn,o,ho,nt⟩:=h.cells a z;exact⟨(e.hh _ _ ho).trans ho.symm,e.nf a o ho nt hn⟩
theorem Ow.al (s:c9 F H):∀{d:D} {v:V} {fp:List bO},Ow K ct F H n d v fp->Al K ct F H n d v:=by
 induction n with
 |zero=>exactλh=>h.1
 |succ n ih=>
  intro d v fp h;rcases h with h|h
  ·exact .inl h.2.1
  ·cases h with
   |lst hn h p=>exact .inr (.lst h (p.pr λ_ _ _ _ q=>ih q))
   |tup h p=>exact .inr (.tup h (p.pr λ_ _ _ _ q=>ih q))
   |dK hn h l p=>exact .inr (.dK h l (p.pr λ_ _ _ _ q=>ih q))
   |dT hn h l p=>exact .inr (.dT (.inl h) l (p.pr λ_ _ _ _ q=>ih q))
   |obj hn h l p=>exact .inr (.obj h l (p.pr λ_ _ _ _ q=>ih q))
theorem Ow.dt (sF:c9 F F'):∀{d:D} {v:V} {fp:List bO},Ow K ct F H n d v fp->(∀a∈fp,F' a=H a)->Dt K ct F' d v:=by
 induction n with
 |zero=>exactλh _=>h.1.mono sF
 |succ n ih=>
  intro d v fp h k;rcases h with h|h
  ·exact h.2.1.mono sF
  ·cases h with
   |lst hn h p=>exact .lst (jU.of ((k _ bH).trans h)) (.of (p.pr λ_ _ _ i q=>ih q λa z=>k a (bK _ (i a z))))
   |tup h p=>exact .tup (sF _ _ h) (.of (p.pr λ_ _ _ i q=>ih q λa z=>k a (i a z)))
   |dK hn h l p=>exact .dK ((k _ bH).trans h) l (.of (p.pr λ_ _ _ i q=>ih q λa z=>k a (bK _ (i a z))))
   |dT hn h l p=>exact .dT (.inl ((k _ bH).trans h)) l (.of (p.pr λ_ _ _ i q=>ih q λa z=>k a (bK _ (i a z))))
   |obj hn h l p=>exact .obj ((k _ bH).trans h) l (.of (p.pr λ_ _ _ i q=>ih q λa z=>k a (bK _ (i a z))))
def mj (F H:Hp)(fp:List bO):Hp:=λa=>if a∈fp then H a else F a
theorem yu (s:c9 F H)(hf:∀a∈fp,F a=none):c9 F (mj F H fp)/\c9 (mj F H fp) H/\∀a∈fp,mj F H fp a=H a:=by
 refine⟨λa o h=>?_,λa o h=>?_,λa z=>if_pos z⟩
 ·have:¬a∈fp:=λz=>by rw[hf a z]at h;cases h
  unfold mj;rw[if_neg this];exact h
 ·unfold mj at h;by_cases z:a∈fp
  ·rw[if_pos z]at h;exact h
  ·rw[if_neg z]at h;exact s _ _ h
theorem Ow.freeze {v:V}{H0:Hp}(h:Ow K ct F H n d v fp)(e:iZ F0 H0 F H)(hf:∀a∈fp,H0 a=none):∃F',iZ F0 H0 F' H/\Dt K ct F' d v:=by
 obtain⟨w1,w2,w3⟩:=yu (fp:=fp) e.fh (λa z=>(h.cells a z).1);refine⟨mj F H fp,⟨e.ff.trans w1,e.hh,w2,λa o ho nt hn=>?_⟩,h.dt w1 w3⟩;have:¬a∈fp:=λz=>by rw[hf a z]at ho;cases ho
 unfold mj;rw[if_neg this];exact e.nf a o ho nt hn
theorem Ow.zero {v:V}(h:Dt K ct F d v):Ow K ct F H 0 d v []:=⟨h,rfl⟩
theorem Ow.scal {v:V}(h:Dt K ct F d v)(hs:d.sc=true):Ow K ct F H n d v []:=by
 cases n with
 |zero=>exact⟨h,rfl⟩
 |succ n=>exact .inl ⟨hs,h,rfl⟩
abbrev Env:=List (Option D)
inductive Mo where
 |al (n:Nat)|ow (n:Nat)|px (v:V)|so (x:bO)
def Mo.lv:Mo->Nat
 |.al n=>n
 |.ow n=>n
 |.px _=>1
 |.so _=>1
section
variable (K:bM)(ct:Nat->bO)
inductive SL (F B H:Hp):List Mo->Env->St->List bO->Prop
 |nil:SL F B H [] [] [] []
 |no {m:Mo} {o:Option V} {ms:List Mo} {ρ:Env} {σ:St} {fp:List bO}:SL F B H ms ρ σ fp->SL F B H (m::ms) (none::ρ) (o::σ) fp
 |al {n:Nat} {d:D} {v:V} {ms:List Mo} {ρ:Env} {σ:St} {fp:List bO}:Al K ct F B n d v->SL F B H ms ρ σ fp->SL F B H (.al n::ms) (some d::ρ) (some v::σ) fp
 |px {d:D} {v:V} {ms:List Mo} {ρ:Env} {σ:St} {fp:List bO}:Al K ct F B 1 d v->SL F B H ms ρ σ fp->SL F B H (.px v::ms) (some d::ρ) (some v::σ) fp
 |so {d:D} {x:bO} {ms:List Mo} {ρ:Env} {σ:St} {fp:List bO}:Ow K ct F H 1 d (.ref x) [x]->SL F B H ms ρ σ fp->SL F B H (.so x::ms) (some d::ρ) (some (.ref x)::σ) (x::fp)
 |ow {n:Nat} {d:D} {v:V} {ms:List Mo} {ρ:Env} {σ:St} {f fp:List bO}:Ow K ct F H n d v f->SL F B H ms ρ σ fp->SL F B H (.ow n::ms) (some d::ρ) (some v::σ) (f++fp)
structure RS (F0 B:Hp)(ms:List Mo)(F H:Hp)(ρ:Env)(σ:St):Prop where
 f0:c9 F0 F
 bh:c9 B H
 fh:c9 F H
 nf:∀a o,B a=some o->ng o->F0 a=none->F a=none
 sl:∃fp,SL K ct F B H ms ρ σ fp/\fp.Nodup/\∀a∈fp,B a=none
end
variable {k:Nat}{ms:List Mo}{ρ:Env}{σ:St}
theorem SL.cells (h:SL K ct F B H ms ρ σ fp):∀a∈fp,F a=none/\∃o,H a=some o/\ng o:=by
 induction h with
 |nil=>intro a z;cases z
 |no t ih=>exact ih
 |al _ t ih=>exact ih
 |px _ t ih=>exact ih
 |so h t ih=>exactλa z=>(bY.mp z).elim (λz=>h.cells a (by rw[z];exact bH)) (ih a)
 |ow h t ih=>exactλa z=>(cA.mp z).elim (h.cells a) (ih a)
theorem SL.frame (sF:c9 F F')(h:SL K ct F B H ms ρ σ fp):(∀a∈fp,H' a=H a/\F' a=none)->SL K ct F' B H' ms ρ σ fp:=by
 induction h with
 |nil=>exactλ_=>.nil
 |no t ih=>exactλk=>.no (ih k)
 |al h t ih=>exactλk=>.al (h.mono sF (.refl _)) (ih k)
 |px h t ih=>exactλk=>.px (h.mono sF (.refl _)) (ih k)
 |so h t ih=>exactλk=>.so (h.frame sF λa z=>k a (by rw[bU]at z;rw[z];exact bH)) (ih λa z=>k a (bK _ z))
 |ow h t ih=>exactλk=>.ow (h.frame sF λa z=>k a (cC _ z)) (ih λa z=>k a (b6 _ z))
theorem RS.ext (r:RS K ct F0 B ms F H ρ σ)(e:iZ F H F' H'):RS K ct F0 B ms F' H' ρ σ:=by obtain⟨fp,s,nd,hb⟩:=r.sl;refine⟨r.f0.trans e.ff,r.bh.trans e.hh,e.fh,λa o h t n=>e.nf a o (r.bh _ _ h) t (r.nf a o h t n),fp,s.frame e.ff λa z=>?_,nd,hb⟩;obtain⟨hn,o,ho,nt⟩:=s.cells a z;exact⟨(e.hh _ _ ho).trans ho.symm,e.nf a o ho nt hn⟩
theorem SL.get {m:Mo}(h:SL K ct F B H ms ρ σ fp)(s:c9 F H)(s':c9 B H):ms[i]?=some m->ρ[i]?=some (some d)->∃v,σ[i]?=some (some v)/\Al K ct F H m.lv d v:=by
 induction h generalizing i with
 |nil=>intro e;simp at e
 |no t ih=>
  intro e e';cases i with
  |zero=>simp at e'
  |succ i=>simpa using ih (by simpa using e) (by simpa using e')
 |al h t ih=>
  intro e e';cases i with
  |zero=>simp at e e';subst e;subst e';exact⟨_,rfl,h.mono (.refl _) s'⟩
  |succ i=>simpa using ih (by simpa using e) (by simpa using e')
 |px h t ih=>
  intro e e';cases i with
  |zero=>simp at e e';subst e;subst e';exact⟨_,rfl,h.mono (.refl _) s'⟩
  |succ i=>simpa using ih (by simpa using e) (by simpa using e')
 |so h t ih=>
  intro e e';cases i with
  |zero=>simp at e e';subst e;subst e';exact⟨_,rfl,h.al s⟩
  |succ i=>simpa using ih (by simpa using e) (by simpa using e')
 |ow h t ih=>
  intro e e';cases i with
  |zero=>simp at e e';subst e;subst e';exact⟨_,rfl,h.al s⟩
  |succ i=>simpa using ih (by simpa using e) (by simpa using e')
theorem RS.get (r:RS K ct F0 B ms F H ρ σ){m:Mo}(hm:ms[i]?=some m)(e:ρ[i]?=some (some d)):∃v,σ[i]?=some (some v)/\Al K ct F H m.lv d v:=by obtain⟨fp,s,_,_⟩:=r.sl;exact s.get r.fh r.bh hm e
theorem SL.put (h0:SL K ct F B H ms ρ σ fp):ms[i]?=some (.ow k) ->
  ∃f1 fr:List bO,(∀a∈f1,a∈fp)/\(∀a∈fr,a∈fp)/\(fp.Nodup->f1.Nodup/\fr.Nodup/\∀a∈f1,a∉fr)/\(∀d,ρ[i]?=some (some d)->∃v,σ[i]?=some (some v)/\Ow K ct F H k d v f1) /\
   ∀(F' H':Hp) (d':D) (v':V) (f':List bO),c9 F F'->(∀a∈fr,H' a=H a/\F' a=none)->Ow K ct F' H' k d' v' f' ->
    ∃lX,SL K ct F' B H' ms (ρ.set i (some d')) (σ.set i (some v')) lX/\(∀a∈lX,a∈f'\/a∈fr)/\(f'.Nodup->fr.Nodup->(∀a∈f',a∉fr)->lX.Nodup):=by
 induction h0 generalizing i with
 |nil=>intro e;simp at e
 |@no m0 o0 ms ρ σ fp t ih=>
  intro e;cases i with
  |zero=>simp at e;subst e;refine⟨[],fp,λa z=>(by cases z),λa z=>z,λn=>⟨cZ,n,λa z=>(by cases z)⟩,λd q=>(by simp at q),λF' H' d' v' f' s kf h=>⟨f'++fp,.ow h (t.frame s kf),λa z=>cA.mp z,λn1 n2 dj=>?_⟩⟩;exact cF.mpr ⟨n1,n2,λa z b zb e=>dj a z (e▸zb)⟩
  |succ i=>obtain⟨f1,fr,h1,h2,h3,h4,h5⟩:=ih (i:=i) (by simpa using e);refine⟨f1,fr,h1,h2,h3,λd q=>by simpa using h4 d (by simpa using q),λF' H' d' v' f' s kf h=>?_⟩;obtain⟨lX,q1,q2,q3⟩:=h5 F' H' d' v' f' s kf h;exact⟨lX,.no q1,q2,q3⟩
 |@al n0 d0 v0 ms ρ σ fp h t ih=>
  intro e;cases i with
  |zero=>simp at e
  |succ i=>obtain⟨f1,fr,h1,h2,h3,h4,h5⟩:=ih (i:=i) (by simpa using e);refine⟨f1,fr,h1,h2,h3,λd q=>by simpa using h4 d (by simpa using q),λF' H' d' v' f' s kf h'=>?_⟩;obtain⟨lX,q1,q2,q3⟩:=h5 F' H' d' v' f' s kf h';exact⟨lX,.al (h.mono s (.refl _)) q1,q2,q3⟩
 |@px d0 v0 ms ρ σ fp h t ih=>
  intro e;cases i with
  |zero=>simp at e
  |succ i=>obtain⟨f1,fr,h1,h2,h3,h4,h5⟩:=ih (i:=i) (by simpa using e);refine⟨f1,fr,h1,h2,h3,λd q=>by simpa using h4 d (by simpa using q),λF' H' d' v' f' s kf h'=>?_⟩;obtain⟨lX,q1,q2,q3⟩:=h5 F' H' d' v' f' s kf h';exact⟨lX,.px (h.mono s (.refl _)) q1,q2,q3⟩
 |@so d0 x ms ρ σ fp h t ih=>
  intro e;cases i with
  |zero=>simp at e
  |succ i=>
   obtain⟨f1,fr,h1,h2,h3,h4,h5⟩:=ih (i:=i) (by simpa using e);refine⟨f1,x::fr,λa z=>bK _ (h1 a z),λa z=>(bY.mp z).elim (λz=>by rw[z];exact bH) λz=>bK _ (h2 a z),λn=>?_,λd q=>by simpa using h4 d (by simpa using q),λF' H' d' v' f' s kf h'=>?_⟩
   ·obtain⟨n1,n2⟩:=cW.mp n;obtain⟨m1,m2,m3⟩:=h3 n2;refine⟨m1,cW.mpr ⟨λz=>n1 (h2 x z),m2⟩,λa z zb=>?_⟩;rcases bY.mp zb with zb|zb
    ·rw[zb]at z;exact n1 (h1 x z)
    ·exact m3 a z zb
   ·obtain⟨lX,q1,q2,q3⟩:=h5 F' H' d' v' f' s (λa z=>kf a (bK _ z)) h';refine⟨x::lX,.so (h.frame s λa z=>kf a (by rw[bU]at z;rw[z];exact bH)) q1,λa z=>?_,λn1 n2 dj=>?_⟩
    ·rcases bY.mp z with z|z
     ·exact .inr (by rw[z];exact bH)
     ·exact(q2 a z).imp id λz=>bK _ z
    ·obtain⟨m1,m2⟩:=cW.mp n2;refine cW.mpr ⟨λz=>?_,q3 n1 m2 λa z zb=>dj a z (bK _ zb)⟩;rcases q2 x z with z|z
     ·exact dj x z bH
     ·exact m1 z
 |@ow n0 d0 v0 ms ρ σ f fp h t ih=>
  intro e;cases i with
  |zero=>
   simp at e;subst e;refine⟨f,fp,λa z=>cC _ z,λa z=>b6 _ z,λn=>?_,λd q=>?_,λF' H' d' v' f' s kf h=>⟨f'++fp,.ow h (t.frame s kf),λa z=>cA.mp z,λn1 n2 dj=>?_⟩⟩
   ·obtain⟨n1,n2,n3⟩:=cF.mp n;exact⟨n1,n2,λa z zb=>n3 a z a zb rfl⟩
   ·simp at q;subst q;exact⟨_,rfl,h⟩
   ·exact cF.mpr ⟨n1,n2,λa z b zb e=>dj a z (e▸zb)⟩
  |succ i=>
   obtain⟨f1,fr,h1,h2,h3,h4,h5⟩:=ih (i:=i) (by simpa using e);refine⟨f1,f++fr,λa z=>b6 _ (h1 a z),λa z=>(cA.mp z).elim (λz=>cC _ z) λz=>b6 _ (h2 a z),λn=>?_,λd q=>by simpa using h4 d (by simpa using q),λF' H' d' v' f' s kf h'=>?_⟩
   ·obtain⟨n1,n2,n3⟩:=cF.mp n;obtain⟨m1,m2,m3⟩:=h3 n2;refine⟨m1,cF.mpr ⟨n1,m2,λa z b zb=>n3 a z b (h2 b zb)⟩,λa z zb=>?_⟩;rcases cA.mp zb with zb|zb
    ·exact n3 a zb a (h1 a z) rfl
    ·exact m3 a z zb
   ·obtain⟨lX,q1,q2,q3⟩:=h5 F' H' d' v' f' s (λa z=>kf a (b6 _ z)) h';refine⟨f++lX,.ow (h.frame s λa z=>kf a (cC _ z)) q1,λa z=>?_,λn1 n2 dj=>?_⟩
    ·rcases cA.mp z with z|z
     ·exact .inr (cC _ z)
     ·exact(q2 a z).imp id λz=>b6 _ z
    ·obtain⟨m1,m2,m3⟩:=cF.mp n2;refine cF.mpr ⟨m1,q3 n1 m2 λa z zb=>dj a z (b6 _ zb),λa z b zb e=>?_⟩;subst e;rcases q2 a zb with zb|zb
     ·exact dj a zb (cC _ z)
     ·exact m3 a z a zb rfl
abbrev EF:=Env->Option D
inductive nH (K:bM)(ct:Nat->bO)(F G:Hp):List Nat->List D->List V->Prop
 |nil:nH K ct F G [] [] []
 |cons {n:Nat} {d:D} {v:V} {ns:List Nat} {ds:List D} {vs:List V}:Al K ct F G n d v->nH K ct F G ns ds vs->nH K ct F G (n::ns) (d::ds) (v::vs)
variable {ns:List Nat}
theorem nH.mono (sF:c9 F F')(sG:c9 G G'){vs:List V}(h:nH K ct F G ns ds vs):nH K ct F' G' ns ds vs:=by
 induction h with
 |nil=>exact .nil
 |cons h t ih=>exact .cons (h.mono sF sG) ih
theorem nH.length {vs:List V}(h:nH K ct F G ns ds vs):vs.length=ns.length:=by
 induction h with
 |nil=>rfl
 |cons h t ih=>rw[b8,b8,ih]
theorem nH.length' {vs:List V}(h:nH K ct F G ns ds vs):ds.length=vs.length:=by
 induction h with
 |nil=>rfl
 |cons h t ih=>rw[b8,b8,ih]
theorem nH.append {Jh:List Nat}{uF:List D}{Jq:List V}(q:nH K ct F G Jh uF Jq){vs:List V}(h:nH K ct F G ns ds vs):nH K ct F G (ns++Jh) (ds++uF) (vs++Jq):=by
 induction h with
 |nil=>exact q
 |cons h t ih=>exact .cons h ih
section
variable (X:Cx)(ct:Nat->bO)(ms:List Mo)
def XE (n:Nat)(e:Expr)(f:EF):Prop:=∃t,PE X e t/\∀(F0 B F H:Hp) (ρ:Env) (σ:St) (d:D) (Q:VK),RS X.K ct F0 B ms F H ρ σ->f ρ=some d ->
 (∀v F' H',iZ F H F' H'->Al X.K ct F' H' n d v->Q v H')->t σ H Q
noncomputable def XO (k:Nat)(e:Expr)(f:EF):Prop:=∃t,PE X e t/\∀(F0 B F H:Hp) (ρ:Env) (σ:St) (d:D) (Q:VK),RS X.K ct F0 B ms F H ρ σ->f ρ=some d ->
 (∀v F' H' fp,iZ F H F' H'->Ow X.K ct F' H' k d v fp->fp.Nodup->(∀a∈fp,H a=none)->Q v H')->t σ H Q
def XT (e:Expr)(f:Env->Option Bool):Prop:=∃t,PT X e t/\∀(F0 B F H:Hp) (ρ:Env) (σ:St) (b:Bool) (Q:Bool->Hp->Prop),RS X.K ct F0 B ms F H ρ σ->f ρ=some b ->
 (∀F' H',iZ F H F' H'->Q b H')->t σ H Q
def XW (e:Expr)(f:Env->Option Bool):Prop:=∃t,PW X e t/\∀(F0 B F H:Hp) (ρ:Env) (σ:St) (b:Bool) (Q:Bool->Hp->Prop),RS X.K ct F0 B ms F H ρ σ->f ρ=some b ->
 (∀F' H',iZ F H F' H'->Q b H')->t σ H Q
def XA (es:List Expr)(ns:List Nat)(f:Env->Option (List D)):Prop:=∃t,PA X es t/\(∀ρ ds,f ρ=some ds->ds.length=es.length)/\∀(F0 B F H:Hp) (ρ:Env) (σ:St) (ds:List D) (Q:List V->Hp->Prop),RS X.K ct F0 B ms F H ρ σ->f ρ=some ds ->
 (∀vs F' H',iZ F H F' H'->nH X.K ct F' H' ns ds vs->Q vs H')->t σ H Q
end
noncomputable def e2 (op:D->D->Option D)(f g:EF):EF:=λρ=>(f ρ).bind λx=>(g ρ).bind λy=>op x y
def e1 (op:D->Option D)(f:EF):EF:=λρ=>(f ρ).bind op
def eN (op:List D->Option D)(f:Env->Option (List D)):EF:=λρ=>(f ρ).bind op
def eC (d:D):EF:=λ_=>some d
def eV (i:Nat):EF:=λρ=>(ρ[i]?).join
def aNil:Env->Option (List D):=λ_=>some []
noncomputable def aCons (f:EF)(g:Env->Option (List D)):Env->Option (List D):=λρ=>(f ρ).bind λx=>(g ρ).bind λxs=>some (x::xs)
variable {α β:Type}
theorem fJ {γ:Type}{o:Option α}{p:Option β}{op:α->β->Option γ}{r:γ}(h:(o.bind λx=>p.bind λy=>op x y)=some r):∃x y,o=some x/\p=some y/\op x y=some r:=by
 cases o with
 |none=>cases h
 |some x=>
  cases p with
  |none=>cases h
  |some y=>exact⟨x,y,rfl,rfl,h⟩
theorem cx {o:Option α}{op:α->Option β}{r:β}(h:o.bind op=some r):∃x,o=some x/\op x=some r:=by
 cases o with
 |none=>cases h
 |some x=>exact⟨x,rfl,h⟩
theorem zt {o:Option (Option α)}{x:α}(h:o.join=some x):o=some (some x):=by
 cases o with
 |none=>cases h
 |some y=>exact congrArg some h
def rD (K:bM)(ct:Nat->bO)(n m k:Nat)(r:R2)(op:D->D->Option D):Prop :=
 ∀(F H:Hp) (x y:V) (d1 d2 d:D) (Q:VK),c9 F H->Al K ct F H n d1 x->Al K ct F H m d2 y->op d1 d2=some d->(∀v F' H',iZ F H F' H'->Al K ct F' H' k d v->Q v H')->r x y H Q
noncomputable def Gy (K:bM)(ct:Nat->bO)(n m k:Nat)(r:R2)(op:D->D->Option D):Prop :=
 ∀(F H:Hp) (x y:V) (d1 d2 d:D) (Q:VK),c9 F H->Al K ct F H n d1 x->Al K ct F H m d2 y->op d1 d2=some d ->
  (∀v F' H' fp,iZ F H F' H'->Ow K ct F' H' k d v fp->fp.Nodup->(∀a∈fp,H a=none)->Q v H')->r x y H Q
def Bu (K:bM)(ct:Nat->bO)(ns:List Nat)(k:Nat)(r:List V->Hp->VK->Prop)(op:List D->Option D):Prop :=
 ∀(F H:Hp) (vs:List V) (ds:List D) (d:D) (Q:VK),c9 F H->nH K ct F H ns ds vs->op ds=some d->(∀v F' H',iZ F H F' H'->Al K ct F' H' k d v->Q v H')->r vs H Q
noncomputable def Eo (K:bM)(ct:Nat->bO)(ns:List Nat)(k:Nat)(r:List V->Hp->VK->Prop)(op:List D->Option D):Prop :=
 ∀(F H:Hp) (vs:List V) (ds:List D) (d:D) (Q:VK),c9 F H->nH K ct F H ns ds vs->op ds=some d ->
  (∀v F' H' fp,iZ F H F' H'->Ow K ct F' H' k d v fp->fp.Nodup->(∀a∈fp,H a=none)->Q v H')->r vs H Q
variable {X:Cx}{a b c e:Expr}{es:List Expr}{f g h:EF}{fs:Env->Option (List D)}{m:Nat}{op:wW}{pos:mE}{r:R2}
theorem XE.up (he:XE X ct ms n e f)(hk:n<=k):XE X ct ms k e f:=by obtain⟨t,p,q⟩:=he;exact⟨t,p,λF0 B F H ρ σ d Q r e w=>q F0 B F H ρ σ d Q r e λv F' H' x l=>w v F' H' x (l.up hk)⟩
theorem XO.sh (he:XO X ct ms k e f):XE X ct ms n e f:=by obtain⟨t,p,q⟩:=he;refine⟨t,p,λF0 B F H ρ σ d Q r e w=>q F0 B F H ρ σ d Q r e λv F' H' fp x o nd hf=>?_⟩;obtain⟨F2,x2,h2⟩:=o.freeze x hf;exact w v F2 H' x2 (Al.of h2)
theorem XE.ow (he:XE X ct ms 0 e f):XO X ct ms 0 e f:=by obtain⟨t,p,q⟩:=he;exact⟨t,p,λF0 B F H ρ σ d Q r e w=>q F0 B F H ρ σ d Q r e λv F' H' x l=>w v F' H' [] x ⟨l,rfl⟩ cZ λa z=>(by cases z)⟩
theorem yj (i n:Nat){m:Mo}(hm:ms[i]?=some m:=by rfl)(hl:m.lv=n:=by rfl)(hN:X.N[i]?=some x:=by rfl)(hv:vD X.env.scope x:=by walk_at "v1")(hd:lS x:=by decide)
  (mP:xD x:=by decide):XE X ct ms n (.Name x pos) (eV i):=by
 subst hl;refine⟨_,yp hN hv hd mP,λF0 B F H ρ σ d Q r e w=>?_⟩;obtain⟨v,hv,l⟩:=r.get hm (zt e);exact⟨v,hv,w v F H (.refl r.fh) l⟩
theorem zrv {i:Int}{j}:XE X ct ms n (.Constant (.int i) j pos) (eC (.int i)):=⟨_,Z7,λF0 B F H ρ σ d Q r e w=>by cases e;exact w _ F H (.refl r.fh) (Al.of (.int i))⟩
theorem wp {i:Bool}{j}:XE X ct ms n (.Constant (.bool i) j pos) (eC (.bl i)):=⟨_,ztf,λF0 B F H ρ σ d Q r e w=>by cases e;exact w _ F H (.refl r.fh) (Al.of (.bl i))⟩
theorem wa {i:Str}{j}:XE X ct ms n (.Constant (.str i) j pos) (eC (.str i)):=⟨_,Z9,λF0 B F H ρ σ d Q r e w=>by cases e;exact w _ F H (.refl r.fh) (Al.of (.str i))⟩
theorem zrw {j}:XE X ct ms n (.Constant .none j pos) (eC .non):=⟨_,Z8,λF0 B F H ρ σ d Q r e w=>by cases e;exact w _ F H (.refl r.fh) (Al.of .non)⟩
theorem XE.bin (ha:XE X ct ms n a f)(hb:XE X ct ms m b g):∃ta tb,PE X a ta/\PE X b tb/\∀(F0 B F H:Hp) (ρ:Env) (σ:St) (d1 d2:D) (R:V->V->Hp->Prop),RS X.K ct F0 B ms F H ρ σ->f ρ=some d1->g ρ=some d2 ->
  (∀x y F' H',iZ F H F' H'->Al X.K ct F' H' n d1 x->Al X.K ct F' H' m d2 y->R x y H')->ta σ H λx H1=>tb σ H1 λy H2=>R x y H2:=by
 obtain⟨ta,pa,qa⟩:=ha;obtain⟨tb,pb,qb⟩:=hb;refine⟨ta,tb,pa,pb,λF0 B F H ρ σ d1 d2 R r e1 e2 w=>qa F0 B F H ρ σ d1 _ r e1 λx F1 H1 x1 l1=>?_⟩;exact qb F0 B F1 H1 ρ σ d2 _ (r.ext x1) e2 λy F2 H2 x2 l2=>w x y F2 H2 (x1.trans x2) (l1.mono x2.ff x2.hh) l2
theorem qz {o:D->D->Option D}(ho:kN X (gC op) r)(hs:rD X.K ct n m k r o)(ha:XE X ct ms n a f)(hb:XE X ct ms m b g):XE X ct ms k (.BinOp a op b pos) (e2 o f g):=by obtain⟨ta,tb,pa,pb,q⟩:=ha.bin hb;refine⟨_,Nr ho pa pb,λF0 B F H ρ σ d Q rs e w=>?_⟩;obtain⟨d1,d2,h1,h2,h3⟩:=fJ e;exact q F0 B F H ρ σ d1 d2 _ rs h1 h2 λx y F' H' x1 l1 l2=>hs F' H' x y d1 d2 d Q x1.fh l1 l2 h3 λv F2 H2 x2 l=>w v F2 H2 (x1.trans x2) l
theorem zto {o:D->D->Option D}(ho:kN X (gC op) r)(hs:Gy X.K ct n m k r o)(ha:XE X ct ms n a f)(hb:XE X ct ms m b g):XO X ct ms k (.BinOp a op b pos) (e2 o f g):=by obtain⟨ta,tb,pa,pb,q⟩:=ha.bin hb;refine⟨_,Nr ho pa pb,λF0 B F H ρ σ d Q rs e w=>?_⟩;obtain⟨d1,d2,h1,h2,h3⟩:=fJ e;exact q F0 B F H ρ σ d1 d2 _ rs h1 h2 λx y F' H' x1 l1 l2=>hs F' H' x y d1 d2 d Q x1.fh l1 l2 h3 λv F2 H2 fp x2 l nd hf=>w v F2 H2 fp (x1.trans x2) l nd λz hz=>x1.hh.free (hf z hz)
theorem Ij {op:Ao}{o:D->D->Option D}(ho:kN X (d5 op) r)(hs:rD X.K ct n m k r o)(ha:XE X ct ms n a f)(hb:XE X ct ms m b g)(hm:fM op b=false):XE X ct ms k (.Compare a [op] [b] pos) (e2 o f g):=by obtain⟨ta,tb,pa,pb,q⟩:=ha.bin hb;refine⟨_,Yp ho pa pb hm,λF0 B F H ρ σ d Q rs e w=>?_⟩;obtain⟨d1,d2,h1,h2,h3⟩:=fJ e;exact q F0 B F H ρ σ d1 d2 _ rs h1 h2 λx y F' H' x1 l1 l2=>hs F' H' x y d1 d2 d Q x1.fh l1 l2 h3 λv F2 H2 x2 l=>w v F2 H2 (x1.trans x2) l
theorem Nq {o:D->D->Option D}(hr:Cy X r)(hs:rD X.K ct n m k r o)(ha:XE X ct ms n a f)(hb:XE X ct ms m b g)(hp:pz b):XE X ct ms k (.Subscript a b pos) (e2 o f g):=by obtain⟨ta,tb,pa,pb,q⟩:=ha.bin hb;refine⟨_,RF hr pa pb hp,λF0 B F H ρ σ d Q rs e w=>?_⟩;obtain⟨d1,d2,h1,h2,h3⟩:=fJ e;exact q F0 B F H ρ σ d1 d2 _ rs h1 h2 λx y F' H' x1 l1 l2=>hs F' H' x y d1 d2 d Q x1.fh l1 l2 h3 λv F2 H2 x2 l=>w v F2 H2 (x1.trans x2) l
theorem ztp {op:UnaryOp}{r:V->Hp->VK->Prop}{o:D->Option D}(ho:Iu X (unaryOp op) r)
  (hs:∀(F H:Hp) (x:V) (d1 d:D) (Q:VK),c9 F H->Al X.K ct F H n d1 x->o d1=some d->(∀v F' H',iZ F H F' H'->Al X.K ct F' H' k d v->Q v H')->r x H Q) (ha:XE X ct ms n a f):XE X ct ms k (.UnaryOp op a pos) (e1 o f):=by
 obtain⟨ta,pa,qa⟩:=ha;refine⟨_,zti ho pa,λF0 B F H ρ σ d Q rs e w=>?_⟩;obtain⟨d1,h1,h2⟩:=cx e;exact qa F0 B F H ρ σ d1 _ rs h1 λx F' H' x1 l1=>hs F' H' x d1 d Q x1.fh l1 h2 λv F2 H2 x2 l=>w v F2 H2 (x1.trans x2) l
theorem zf:XA X ct ms [] [] aNil:=⟨_,xn,λρ ds e=>(by cases e;rfl),λF0 B F H ρ σ ds Q r e w=>by cases e;exact w [] F H (.refl r.fh) .nil⟩
theorem za (ha:XE X ct ms n a f)(hr:XA X ct ms es ns fs)(hs:SE X a es:=by rfl):XA X ct ms (a::es) (n::ns) (aCons f fs):=by obtain⟨ta,pa,qa⟩:=ha;obtain⟨tb,pb,lb,qb⟩:=hr;refine⟨_,z9 pa pb hs,λρ ds e=>(by obtain⟨x,xs,h1,h2,h3⟩:=fJ e;cases h3;rw[b8,b8,lb _ _ h2]),λF0 B F H ρ σ ds Q r e w=>?_⟩;obtain⟨x,xs,h1,h2,h3⟩:=fJ e;cases h3;refine qa F0 B F H ρ σ x _ r h1 λv F1 H1 x1 l1=>?_;exact qb F0 B F1 H1 ρ σ xs _ (r.ext x1) h2 λvs F2 H2 x2 l2=>w (v::vs) F2 H2 (x1.trans x2) (.cons (l1.mono x2.ff x2.hh) l2)
noncomputable def GF (X:Cx)(ct:Nat->bO)(ms:List Mo)(k:Nat)(es:List Expr)(f:Env->Option (List D)):Prop:=∃t,PA X es t/\(∀ρ ds,f ρ=some ds->ds.length=es.length)/\∀(F0 B F H:Hp) (ρ:Env) (σ:St) (ds:List D) (Q:List V->Hp->Prop),RS X.K ct F0 B ms F H ρ σ->f ρ=some ds ->
 (∀vs F' H' fp,iZ F H F' H'->iI (Ow X.K ct F' H' k) ds vs fp->fp.Nodup->(∀a∈fp,H a=none)->Q vs H')->t σ H Q
theorem zu:GF X ct ms k [] aNil:=⟨_,xn,λρ ds e=>(by cases e;rfl),λF0 B F H ρ σ ds Q r e w=>by cases e;exact w [] F H [] (.refl r.fh) .nil cZ λa z=>(by cases z)⟩
theorem zk (ha:XO X ct ms k a f)(hr:GF X ct ms k es fs)(hs:SE X a es:=by rfl):GF X ct ms k (a::es) (aCons f fs):=by
 obtain⟨ta,pa,qa⟩:=ha;obtain⟨tb,pb,lb,qb⟩:=hr;refine⟨_,z9 pa pb hs,λρ ds e=>(by obtain⟨x,xs,h1,h2,h3⟩:=fJ e;cases h3;rw[b8,b8,lb _ _ h2]),λF0 B F H ρ σ ds Q r e w=>?_⟩;obtain⟨x,xs,h1,h2,h3⟩:=fJ e;cases h3;refine qa F0 B F H ρ σ x _ r h1 λv F1 H1 f1 x1 l1 n1 a1=>?_;refine qb F0 B F1 H1 ρ σ xs _ (r.ext x1) h2 λvs F2 H2 f2 x2 l2 n2 a2=>w (v::vs) F2 H2 (f1++f2) (x1.trans x2) (.cons (l1.ext x2) l2) (cF.mpr ⟨n1,n2,λz hz y hy e=>?_⟩) λz hz=>?_
 ·subst e;obtain⟨_,o,ho,_⟩:=l1.cells z hz;rw[a2 z hy]at ho;cases ho
 ·rcases cA.mp hz with hz|hz
  ·exact a1 z hz
  ·exact x1.hh.free (a2 z hz)
def CA:D->Option Bool
 |.bl b=>some b
 |_=>none
theorem vw {b:Bool}(h:CA d=some b):d=.bl b:=by cases d<;>simp[CA]at h;subst h;rfl
abbrev BF:=Env->Option Bool
def tb (f:EF):BF:=λρ=>(f ρ).bind CA
def bNot (f:BF):BF:=λρ=>(f ρ).bind λb=>some (!b)
def bAnd (f g:BF):BF:=λρ=>(f ρ).bind λb=>if b=true then g ρ else some false
def bOr (f g:BF):BF:=λρ=>(f ρ).bind λb=>if b=true then some true else g ρ
def eB (f:BF):EF:=λρ=>(f ρ).bind λb=>some (.bl b)
def eIf (c:BF)(f g:EF):EF:=λρ=>(c ρ).bind λb=>if b=true then f ρ else g ρ
variable {fK pp:mE}{c0 kk rk:Nat}{cs nd pm:List Nat}{pQ:List D}{rE:List bJ}{lT:List V}{fa:bO}{mf:List D->Option D}{o:Expr}{p q:BF}{pl:Cw Bool}{ps:List Str}
section
theorem yw (he:XE X ct ms n e f)(hi:∀whole,AX e X.env whole=(do let v ← whole;jN e.pos;fV [v] (truthy v)):=by intro _;rfl):XT X ct ms e (tb f):=by obtain⟨t,pt,qt⟩:=he;refine⟨_,zqn pt hi,λF0 B F H ρ σ b Q r e w=>?_⟩;obtain⟨d,h1,h2⟩:=cx e;rw[vw h2]at h1;exact qt F0 B F H ρ σ _ _ r h1 λv F' H' x l=>⟨b,l.bl,w F' H' x⟩
theorem wq {op:Ao}{o:D->D->Option D}(ho:kN X (d5 op) r)(hs:rD X.K ct n m k r o)(ha:XE X ct ms n a f)(hb:XE X ct ms m b g)(hm:fM op b=false):XT X ct ms (.Compare a [op] [b] pos) (tb (e2 o f g)):=by obtain⟨ta,tb,pa,pb,q⟩:=ha.bin hb;refine⟨_,Yq ho pa pb hm,λF0 B F H ρ σ b Q rs e w=>?_⟩;obtain⟨d,h0,h4⟩:=cx e;rw[vw h4]at h0;obtain⟨d1,d2,h1,h2,h3⟩:=fJ h0;exact q F0 B F H ρ σ d1 d2 _ rs h1 h2 λx y F' H' x1 l1 l2=>hs F' H' x y d1 d2 _ _ x1.fh l1 l2 h3 λv F2 H2 x2 l=>⟨b,l.bl,w F2 H2 (x1.trans x2)⟩
theorem XW.t (h:XW X ct ms e p):XT X ct ms e p:=by obtain⟨t,pt,qt⟩:=h;exact⟨t,pt.pt,qt⟩
theorem ui (ha:XT X ct ms a p):XW X ct ms (.BoolOp .And [a] pos) p:=by obtain⟨t,pt,qt⟩:=ha;exact⟨t,Yc pt,qt⟩
theorem u5 (ha:XT X ct ms a p):XW X ct ms (.BoolOp .Or [a] pos) p:=by obtain⟨t,pt,qt⟩:=ha;exact⟨t,zqo pt,qt⟩
theorem Gi {rest:List Expr}(ha:XT X ct ms a p)(hb:XW X ct ms (.BoolOp .And (b::rest) pos) q):XW X ct ms (.BoolOp .And (a::b::rest) pos) (bAnd p q):=by
 obtain⟨t,pt,qt⟩:=ha;obtain⟨u,pu,qu⟩:=hb;refine⟨_,zqp pt pu,λF0 B F H ρ σ r Q rs e w=>?_⟩;obtain⟨x,h1,h2⟩:=cx e;refine qt F0 B F H ρ σ x _ rs h1 λF1 H1 x1=>?_;cases x with
 |true=>rw[if_pos rfl];exact qu F0 B F1 H1 ρ σ r _ (rs.ext x1) h2 λF2 H2 x2=>w F2 H2 (x1.trans x2)
 |false=>cases h2;rw[if_neg cB];exact w F1 H1 x1
theorem CP {rest:List Expr}(ha:XT X ct ms a p)(hb:XW X ct ms (.BoolOp .Or (b::rest) pos) q):XW X ct ms (.BoolOp .Or (a::b::rest) pos) (bOr p q):=by
 obtain⟨t,pt,qt⟩:=ha;obtain⟨u,pu,qu⟩:=hb;refine⟨_,ztg pt pu,λF0 B F H ρ σ r Q rs e w=>?_⟩;obtain⟨x,h1,h2⟩:=cx e;refine qt F0 B F H ρ σ x _ rs h1 λF1 H1 x1=>?_;cases x with
 |true=>cases h2;rw[if_pos rfl];exact w F1 H1 x1
 |false=>rw[if_neg cB];exact qu F0 B F1 H1 ρ σ r _ (rs.ext x1) h2 λF2 H2 x2=>w F2 H2 (x1.trans x2)
theorem wc (ha:XT X ct ms a p):XT X ct ms (.UnaryOp .Not a pos) (bNot p):=by obtain⟨t,pt,qt⟩:=ha;refine⟨_,zqq pt,λF0 B F H ρ σ r Q rs e w=>?_⟩;obtain⟨x,h1,h2⟩:=cx e;cases h2;exact qt F0 B F H ρ σ x _ rs h1 λF1 H1 x1=>w F1 H1 x1
theorem vx {op}(ha:XE X ct ms n a f):XE X ct ms k (.BoolOp op [a] pos) (eB (tb f)):=by obtain⟨t,pt,qt⟩:=ha;refine⟨_,zqr pt,λF0 B F H ρ σ r Q rs e w=>?_⟩;obtain⟨y,h3,h4⟩:=cx e;obtain⟨z,h5,h6⟩:=cx h3;cases h4;rw[vw h6]at h5;exact qt F0 B F H ρ σ _ _ rs h5 λv F1 H1 x1 l=>w _ F1 H1 x1 (by rw[l.bl];exact Al.of (.bl _))
theorem wu {rest:List Expr}(ha:XE X ct ms n a f)(hb:XE X ct ms k (.BoolOp .And (b::rest) pos) (eB q)):XE X ct ms k (.BoolOp .And (a::b::rest) pos) (eB (bAnd (tb f) q)):=by
 obtain⟨t,pt,qt⟩:=ha;obtain⟨u,pu,qu⟩:=hb;refine⟨_,zqs pt pu,λF0 B F H ρ σ r Q rs e w=>?_⟩;obtain⟨y,h3,h4⟩:=cx e;obtain⟨x,h1,h2⟩:=cx h3;obtain⟨z,h5,h6⟩:=cx h1;cases h4;rw[vw h6]at h5;refine qt F0 B F H ρ σ _ _ rs h5 λv F1 H1 x1 l=>⟨x,l.bl,?_⟩;cases x with
 |true=>rw[if_pos rfl];exact qu F0 B F1 H1 ρ σ _ _ (rs.ext x1) (show(q ρ).bind _=_ by rw[if_pos rfl]at h2;rw[h2];rfl) λv F2 H2 x2 l=>w v F2 H2 (x1.trans x2) l
 |false=>rw[if_neg cB]at h2 ⊢;cases h2;exact w _ F1 H1 x1 (Al.of (.bl _))
theorem ztq {rest:List Expr}(ha:XE X ct ms n a f)(hb:XE X ct ms k (.BoolOp .Or (b::rest) pos) (eB q)):XE X ct ms k (.BoolOp .Or (a::b::rest) pos) (eB (bOr (tb f) q)):=by
 obtain⟨t,pt,qt⟩:=ha;obtain⟨u,pu,qu⟩:=hb;refine⟨_,zth pt pu,λF0 B F H ρ σ r Q rs e w=>?_⟩;obtain⟨y,h3,h4⟩:=cx e;obtain⟨x,h1,h2⟩:=cx h3;obtain⟨z,h5,h6⟩:=cx h1;cases h4;rw[vw h6]at h5;refine qt F0 B F H ρ σ _ _ rs h5 λv F1 H1 x1 l=>⟨x,l.bl,?_⟩;cases x with
 |true=>rw[if_pos rfl]at h2 ⊢;cases h2;exact w _ F1 H1 x1 (Al.of (.bl _))
 |false=>rw[if_neg cB];exact qu F0 B F1 H1 ρ σ _ _ (rs.ext x1) (show(q ρ).bind _=_ by rw[if_neg cB]at h2;rw[h2];rfl) λv F2 H2 x2 l=>w v F2 H2 (x1.trans x2) l
theorem Io (hc:XT X ct ms c p)(ha:XE X ct ms k a f)(hb:XE X ct ms k b g):XE X ct ms k (.IfExp c a b pos) (eIf p f g):=by
 obtain⟨s,ps,qs⟩:=hc;obtain⟨t,pt,qt⟩:=ha;obtain⟨u,pu,qu⟩:=hb;refine⟨_,WJ ps pt pu,λF0 B F H ρ σ r Q rs e w=>?_⟩;obtain⟨x,h1,h2⟩:=cx e;refine qs F0 B F H ρ σ x _ rs h1 λF1 H1 x1=>?_;cases x with
 |true=>rw[if_pos rfl]at h2 ⊢;exact qt F0 B F1 H1 ρ σ _ _ (rs.ext x1) h2 λv F2 H2 x2 l=>w v F2 H2 (x1.trans x2) l
 |false=>rw[if_neg cB]at h2 ⊢;exact qu F0 B F1 H1 ρ σ _ _ (rs.ext x1) h2 λv F2 H2 x2 l=>w v F2 H2 (x1.trans x2) l
theorem yx {x1}(h:GF X ct ms k es fs)(hl:es.length<=1000:=by decide):XO X ct ms (k+1) (.Tuple es x1 pos) (λρ=>(fs ρ).bind λds=>some (.tup ds)):=by
 obtain⟨t,pt,lt,qt⟩:=h;refine⟨_,ZU pt,λF0 B F H ρ σ r Q rs e w=>?_⟩;obtain⟨ds,h1,h2⟩:=cx e;cases h2;refine qt F0 B F H ρ σ ds _ rs h1 λvs F1 H1 fp x1 l nd hf=>⟨?_,λp hp=>?_⟩
 ·rw[←l.length,lt _ _ h1];exact small hl
 ·have x2:=iZ.newS x1.fh hp (.tup vs);exact w _ _ _ fp (x1.trans x2) (.inr (.tup zo (l.mono λ_ _ _ _ o=>o.ext x2))) nd hf
theorem iI.cellsOf {vs:List V}(l:iI (Ow K ct F H k) ds vs fp):∀a∈fp,F a=none/\∃o,H a=some o/\ng o:=iI.cells0 (λd v f q=>Ow.cells q) l
theorem Qj {vs:List V}{p:bO}(s:c9 F H)(l:iI (Ow K ct F H k) ds vs fp)(hp:H p=none):Ow K ct F (upd H p (.lst vs)) (k+1) (.lst ds) (.ref p) (p::fp)/\(fp.Nodup->(p::fp).Nodup) :=
 ⟨.inr (.lst (s.free hp) zo (l.mono λ_ _ _ _ o=>o.ext (iZ.newO s hp _))),λnd=>cW.mpr ⟨λz=>(by obtain⟨_,o,ho,_⟩:=iI.cellsOf l p z;rw[hp]at ho;cases ho),nd⟩⟩
theorem yy (h:GF X ct ms k es fs)(hl:es.length<=1000:=by decide):XO X ct ms (k+1) (.List es pos) (λρ=>(fs ρ).bind λds=>some (.lst ds)):=by
 obtain⟨t,pt,lt,qt⟩:=h;refine⟨_,ZV pt,λF0 B F H ρ σ r Q rs e w=>?_⟩;obtain⟨ds,h1,h2⟩:=cx e;cases h2;refine qt F0 B F H ρ σ ds _ rs h1 λvs F1 H1 fp x1 l nd hf=>⟨?_,λp hp=>?_⟩
 ·rw[←l.length,lt _ _ h1];exact small hl
 ·obtain⟨o,n2⟩:=Qj x1.fh l hp;refine w _ _ _ (p::fp) (x1.trans (iZ.newO x1.fh hp _)) o (n2 nd) λz hz=>?_;rcases bY.mp hz with rfl|hz
  ·exact x1.hh.free hp
  ·exact hf z hz
theorem jd:XO X ct ms (k+1) (.Dict [] [] pos) (eC (.dK [] [])):=by refine⟨_,Wv,λF0 B F H ρ σ r Q rs e w p hp=>?_⟩;cases e;refine w _ F _ [p] (iZ.newO rs.fh hp _) (.inr (Bw.dK (vs:=[]) (rs.fh.free hp) zo rfl .nil)) (by simp) λz hz=>?_;rw[bU]at hz;subst hz;exact hp
theorem WC:XO X ct ms (k+1) (.Dict [] [] pos) (eC (.dT [] [])):=by refine⟨_,Ww,λF0 B F H ρ σ r Q rs e w p hp=>?_⟩;cases e;refine w _ F _ [p] (iZ.newO rs.fh hp _) (.inr (Bw.dT (vs:=[]) (rs.fh.free hp) zo rfl .nil)) (by simp) λz hz=>?_;rw[bU]at hz;subst hz;exact hp
noncomputable def kr (K:bM)(ct:Nat->bO)(pm:List Nat)(rk:Nat)(m:List D->Option D):Sp:=λvs H Q _=>∃(F:Hp) (ds:List D) (d:D),c9 F H/\nH K ct F H pm ds vs/\m ds=some d /\
 ∀v F' H' fp,iZ F H F' H'->Ow K ct F' H' rk d v fp->fp.Nodup->(∀a∈fp,H a=none)->Q v H'
theorem kr.len {m:List D->Option D}(h:pm.length=ps.length):∀vs H Q E,kr K ct pm rk m vs H Q E->vs.length=ps.length:=by rintro vs H Q E ⟨F,ds,d,_,l,_⟩;rw[l.length,h]
variable {fd:b5}
theorem ML (Fn:dD X.prog X.w X.K X.mg X.base gx kk fa fd ps (kr X.K ct (ns++nd) rk mf))(hr:fC kk X.A)(hg:Gl X x)(hm:X.mg x=some (.ref fa))(hk:dY X.K (.ref fa)=true)
  (hb:fQ X.K fd ps rE) (hd:dm lT rE) (BH:∀F G,nH X.K ct F G nd pQ lT) (ha:XA X ct ms (e::es) ns fs)
  (mn:lS x:=by decide) (he:SE X e es:=by rfl) (jB:pV X pos es:=by rfl) :
  XO X ct ms rk (.Call (.Name x pp) (e::es) [] pos) (λρ=>(fs ρ).bind λds=>mf (ds++pQ)):=by
 obtain⟨t,pt,_,qt⟩:=ha;refine⟨_,Ql Fn hr hg hm hk hb hd tZ pt mn he jB,λF0 B F H ρ σ r Q rs e w=>?_⟩;obtain⟨ds,h1,h2⟩:=cx e;refine qt F0 B F H ρ σ ds _ rs h1 λvs F1 H1 x1 l=>⟨F1,ds++pQ,r,x1.fh,nH.append (BH F1 H1) l,h2,λv F2 H2 fp x2 o nd hf=>?_⟩;exact w v F2 H2 fp (x1.trans x2) o nd λz hz=>x1.hh.free (hf z hz)
theorem ya {id:String}{r:List V->Hp->VK->Prop}{op:List D->Option D}(hc:iA X (.builtin id) r)(hs:Bu X.K ct ns k r op)(hg:Gl X x)(hm:X.mg x=none)(hv:dw x=some (.builtin id))(ha:XA X ct ms (e::es) ns fs)
  (hn:x≠"__name__":=by decide) (mn:lS x:=by decide) (he:SE X e es:=by rfl) (jB:pV X pos es:=by rfl) :
  XE X ct ms k (.Call (.Name x pp) (e::es) [] pos) (eN op fs):=by
 obtain⟨t,pt,_,qt⟩:=ha;refine⟨_,Mp hc hg hm hv pt hn mn he jB,λF0 B F H ρ σ r Q rs e w=>?_⟩;obtain⟨ds,h1,h2⟩:=cx e;exact qt F0 B F H ρ σ ds _ rs h1 λvs F1 H1 x1 l=>hs F1 H1 vs ds r Q x1.fh l h2 λv F2 H2 x2 l2=>w v F2 H2 (x1.trans x2) l2
theorem Wa {id:String}{r:List V->Hp->VK->Prop}{op:List D->Option D}(hc:iA X (.type id) r)(hs:Bu X.K ct ns k r op)(hg:Gl X x)(hm:X.mg x=none)(hv:dw x=some (.type id))(ha:XA X ct ms (e::es) ns fs)
  (hn:x≠"__name__":=by decide) (mn:lS x:=by decide) (he:SE X e es:=by rfl) (jB:pV X pos es:=by rfl) :
  XE X ct ms k (.Call (.Name x pp) (e::es) [] pos) (eN op fs):=by
 obtain⟨t,pt,_,qt⟩:=ha;refine⟨_,O4 hc hg hm hv pt hn mn he jB,λF0 B F H ρ σ r Q rs e w=>?_⟩;obtain⟨ds,h1,h2⟩:=cx e;exact qt F0 B F H ρ σ ds _ rs h1 λvs F1 H1 x1 l=>hs F1 H1 vs ds r Q x1.fh l h2 λv F2 H2 x2 l2=>w v F2 H2 (x1.trans x2) l2
theorem vz {id:String}{r:List V->Hp->VK->Prop}{op:List D->Option D}(hc:iA X (.type id) r)(hs:Eo X.K ct ns k r op)(hg:Gl X x)(hm:X.mg x=none)(hv:dw x=some (.type id))(ha:XA X ct ms (e::es) ns fs)
  (hn:x≠"__name__":=by decide) (mn:lS x:=by decide) (he:SE X e es:=by rfl) (jB:pV X pos es:=by rfl) :
  XO X ct ms k (.Call (.Name x pp) (e::es) [] pos) (eN op fs):=by
 obtain⟨t,pt,_,qt⟩:=ha;refine⟨_,O4 hc hg hm hv pt hn mn he jB,λF0 B F H ρ σ r Q rs e w=>?_⟩;obtain⟨ds,h1,h2⟩:=cx e;exact qt F0 B F H ρ σ ds _ rs h1 λvs F1 H1 x1 l=>hs F1 H1 vs ds r Q x1.fh l h2 λv F2 H2 fp x2 l2 nd hf=>w v F2 H2 fp (x1.trans x2) l2 nd λz hz=>x1.hh.free (hf z hz)
noncomputable def dq (cs:List Nat)(x:Str):D->Option D
 |.obj c ns ds=>if cs.contains c=true then(ns.zip ds).lookup x else none
 |_=>none
theorem OT {R:D->V->Prop}{x:Str}{d:D}:∀{ns:List Str} {ds:List D} {vs:List V},Pr R ds vs->(ns.zip ds).lookup x=some d->∃v,(ns.zip vs).lookup x=some v/\R d v
 |[],_,_,_,e=>by simp at e
 |_::_,_,_,.nil,e=>by simp at e
 |y::ns,_,_,.cons h t,e=>by
  rw[jR,cM]at e;rw[jR,cM];cases q:x==y with
  |true=>rw[q]at e;cases e;exact⟨_,rfl,h⟩
  |false=>rw[q]at e;exact OT t e
theorem Mn {vs:List V}{x:Str}:∀{ns:List Str} {vs:List V},ns.contains x=false->(ns.zip vs).lookup x=none
 |[],_,_=>by simp
 |_::_,[],_=>by simp
 |y::ns,_::vs,h=>by rw[pf,xJ]at h;rw[jR,cM,h.1];exact Mn (vs:=vs) h.2
theorem M9 (he:XE X ct ms n e f)(hc:∀c∈cs,pw X.K (ct c)/\gJ X.K (ct c) x)(hb:DJ X e x):XE X ct ms (n-1) (.Attribute e x pos) (e1 (dq cs x) f):=by
 obtain⟨t,pt,qt⟩:=he;refine⟨_,ZS pt hb,λF0 B F H ρ σ r Q rs e w=>?_⟩;obtain⟨o,h1,h2⟩:=cx e;refine qt F0 B F H ρ σ o _ rs h1 λv F1 H1 x1 l=>?_;cases o with
 |obj c ns ds=>
  obtain⟨a,dx,vs,rfl,ha,hl,KQ⟩:=l.obj x1.fh;unfold dq at h2;dsimp only at h2;by_cases BG:cs.contains c=true
  ·rw[if_pos BG]at h2;obtain⟨u,hu,du⟩:=OT KQ h2;have hh:=hc c (by simpa using BG);exact⟨a,_,dx,_,u,rfl,ha,hh.1,hh.2,hu,w u F1 H1 x1 du⟩
  ·rw[if_neg BG]at h2;cases h2
 |_=>cases h2
noncomputable def li (c0:Nat)(m:Str)(mf:List D->Option D)(o:D)(ds:List D):Option D:=match o with
 |.obj c ns _=>if c=c0/\ns.contains m=false then mf (o::ds)else none
 |_=>none
theorem uj (ho:XE X ct ms n o f)(c:pw X.K (ct c0))(hm:xT X.K (ct c0) x fa)(Fn:dD X.prog X.w X.K X.mg X.base gx kk fa fd ps (kr X.K ct (n::(ns++nd)) rk mf))(hr:fC kk X.A)
  (hb:fQ X.K fd ps rE) (hd:dm lT rE) (BH:∀F G,nH X.K ct F G nd pQ lT) (ha:XA X ct ms (e::es) ns fs)
  (k7:SE X e es:=by rfl) (jB:pV X pos es:=by rfl)
  (ht:dR (.Call (.Attribute o x fK) (e::es) [] pos) X.env=(do
   let ov ← dR o X.env
   jN fK.atName
   let(f,first) ← fV [ov] (kz ov x pl)
   mS pos f first (iD pos (cT (e::es) X.env)) (ij pos (eO [] X.env))):=by rfl) :
  XO X ct ms rk (.Call (.Attribute o x fK) (e::es) [] pos) (λρ=>(f ρ).bind λo=>(fs ρ).bind λds=>li c0 x mf o (ds++pQ)):=by
 obtain⟨u,pu,qu⟩:=ho;obtain⟨t,pt,_,qt⟩:=ha;refine⟨_,Yu pu c hm Fn hr hb hd tZ pt k7 jB ht,λF0 B F H ρ σ r Q rs e w=>?_⟩;obtain⟨o,ds,h1,h2,h3⟩:=fJ e;refine qu F0 B F H ρ σ o _ rs h1 λv F1 H1 x1 l=>?_;cases o with
 |obj c1 Jh uF=>
  unfold li at h3;dsimp only at h3;split at h3
  ·rename_i hc;obtain⟨rfl,kG⟩:=hc;obtain⟨a,dx,vs,rfl,ha,hl,KQ⟩:=l.obj x1.fh;refine⟨a,dx,_,rfl,ha,Mn (vs:=vs) kG,?_⟩;refine qt F0 B F1 H1 ρ σ ds _ (rs.ext x1) h2 λus F2 H2 x2 l2=>⟨F2,_,r,x2.fh,.cons (l.mono x2.ff x2.hh) (nH.append (BH F2 H2) l2),h3,λv F3 H3 fp x3 o nd hf=>?_⟩;exact w v F3 H3 fp ((x1.trans x2).trans x3) o nd λz hz=>(x1.trans x2).hh.free (hf z hz)
  ·cases h3
 |_=>cases h3
theorem je (ho:XE X ct ms n o f)(c:pw X.K (ct c0))(hm:xT X.K (ct c0) x fa)(Fn:dD X.prog X.w X.K X.mg X.base gx kk fa fd ps (kr X.K ct (n::nd) rk mf))(hr:fC kk X.A)
  (hb:fQ X.K fd ps rE) (hd:dm lT rE) (BH:∀F G,nH X.K ct F G nd pQ lT)
  (ht:dR (.Call (.Attribute o x fK) [] [] pos) X.env=(do
   let ov ← dR o X.env
   jN fK.atName
   let(f,first) ← fV [ov] (kz ov x pl)
   mS pos f first (iD pos (cT [] X.env)) (ij pos (eO [] X.env))):=by rfl) :
  XO X ct ms rk (.Call (.Attribute o x fK) [] [] pos) (λρ=>(f ρ).bind λo=>li c0 x mf o pQ):=by
 obtain⟨u,pu,qu⟩:=ho;refine⟨_,WO pu c hm Fn hr hb hd tZ ht,λF0 B F H ρ σ r Q rs e w=>?_⟩;obtain⟨o,h1,h3⟩:=cx e;refine qu F0 B F H ρ σ o _ rs h1 λv F1 H1 x1 l=>?_;cases o with
 |obj c1 Jh uF=>
  unfold li at h3;dsimp only at h3;split at h3
  ·rename_i hc;obtain⟨rfl,kG⟩:=hc;obtain⟨a,dx,vs,rfl,ha,hl,KQ⟩:=l.obj x1.fh;refine⟨a,dx,_,rfl,ha,Mn (vs:=vs) kG,F1,_,r,x1.fh,.cons l (BH F1 H1),h3,λv F3 H3 fp x3 o nd hf=>?_⟩;exact w v F3 H3 fp (x1.trans x3) o nd λz hz=>x1.hh.free (hf z hz)
  ·cases h3
 |_=>cases h3
end
inductive Out where
 |nx (ρ:Env)|rt (d:D)|bk (ρ:Env)|ct (ρ:Env)
abbrev SF:=Env->Option Out
noncomputable def nB (K:bM)(cl:Nat->bO)(F0 B:Hp)(ms:List Mo)(rk:Nat)(E:mm):Out->Prop
 |.nx ρ=>∀σ F H,RS K cl F0 B ms F H ρ σ->E.nx σ H
 |.bk ρ=>∀σ F H,RS K cl F0 B ms F H ρ σ->E.bk σ H
 |.ct ρ=>∀σ F H,RS K cl F0 B ms F H ρ σ->E.ct σ H
 |.rt d=>∀v F H fp,c9 F0 F->c9 B H->c9 F H->(∀a o,B a=some o->ng o->F0 a=none->F a=none)->Ow K cl F H rk d v fp->fp.Nodup->(∀a∈fp,B a=none)->E.rt v H
section
variable (X:Cx)(ct:Nat->bO)(ms:List Mo)(rk:Nat)
noncomputable def XS (st:dO)(f:SF):Prop:=∃t,PS X st t/\∀(F0 B F H:Hp) (ρ:Env) (σ:St) (o:Out) (E:mm),RS X.K ct F0 B ms F H ρ σ->f ρ=some o->nB X.K ct F0 B ms rk E o->t E σ H
noncomputable def vE (st:List dO)(f:SF):Prop:=∃t,uD X st t/\∀(F0 B F H:Hp) (ρ:Env) (σ:St) (o:Out) (E:mm),RS X.K ct F0 B ms F H ρ σ->f ρ=some o->nB X.K ct F0 B ms rk E o->t E σ H
end
def sSkip:SF:=λρ=>some (.nx ρ)
noncomputable def sSeq (f g:SF):SF:=λρ=>(f ρ).bind λo=>match o with
 |.nx ρ'=>g ρ'
 |o=>some o
def sIf (c:BF)(f g:SF):SF:=λρ=>(c ρ).bind λb=>if b=true then f ρ else g ρ
def sSet (i:Nat)(f:EF):SF:=λρ=>(f ρ).bind λd=>some (.nx (ρ.set i (some d)))
def sRet (f:EF):SF:=λρ=>(f ρ).bind λd=>some (.rt d)
def sRetN:SF:=λ_=>some (.rt .non)
def sDrop (f:EF):SF:=λρ=>(f ρ).bind λ_=>some (.nx ρ)
def se:SF:=λ_=>none
def pW:Nat:=2 ^ 9000
noncomputable def kU (c:BF)(b:SF):Nat->SF
 |0,_=>none
 |n+1,ρ=>(c ρ).bind λt=>if t=true then(b ρ).bind λo=>match o with
   |.nx ρ'=>kU c b n ρ'
   |.ct ρ'=>kU c b n ρ'
   |.bk ρ'=>some (.nx ρ')
   |.rt d=>some (.rt d)
  else some (.nx ρ)
noncomputable def iy (c:BF)(b:SF):SF:=kU c b pW
noncomputable def gN (g:D->Env->Option Env)(b:SF):List D->SF
 |[],ρ=>some (.nx ρ)
 |d::ds,ρ=>(g d ρ).bind λρ1=>(b ρ1).bind λo=>match o with
   |.nx ρ'=>gN g b ds ρ'
   |.ct ρ'=>gN g b ds ρ'
   |.bk ρ'=>some (.nx ρ')
   |.rt d=>some (.rt d)
noncomputable def sFor (f:Env->Option (List D))(g:D->Env->Option Env)(b:SF):SF:=λρ=>(f ρ).bind λds=>gN g b ds ρ
variable {N:List Str}{P:dQ}{base:cz}{bf u w:SF}{fi:Env->Option (List D)}{gg:D->Env->Option Env}{gs:List D->Env->Option Env}{iter tg:Expr}{mg:Str->Option bJ}{pos':mE}{qual:Str}{rest:List dO}{st:dO}{qO:List Expr}
theorem wv:vE X ct ms rk [] sSkip:=⟨_,Yd,λF0 B F H ρ σ o E rs e w=>by cases e;exact w σ F H rs⟩
theorem ze (h1:XS X ct ms rk st u)(h2:vE X ct ms rk rest w):vE X ct ms rk (st::rest) (sSeq u w):=by
 obtain⟨t,pt,qt⟩:=h1;obtain⟨t2,pZ,uO⟩:=h2;refine⟨_,jb pt pZ,λF0 B F H ρ σ o E rs e z=>?_⟩;obtain⟨o1,e1,e2⟩:=cx e;refine qt F0 B F H ρ σ o1 _ rs e1 ?_;cases o1 with
 |nx ρ'=>exactλσ' F' H' Fc=>uO F0 B F' H' ρ' σ' o E Fc e2 z
 |rt d=>cases e2;exact z
 |bk ρ'=>cases e2;exact z
 |ct ρ'=>cases e2;exact z
theorem zh (h1:XS X ct ms rk st u):vE X ct ms rk [st] u:=by obtain⟨t,pt,qt⟩:=h1;exact⟨_,Jw pt,qt⟩
theorem jf:XS X ct ms rk st se:=⟨_,WK,λF0 B F H ρ σ o E rs e w=>by cases e⟩
theorem yc (he:XO X ct ms rk e f):XS X ct ms rk (.Return (some e) pos) (sRet f):=by obtain⟨t,pt,qt⟩:=he;refine⟨_,MX pt,λF0 B F H ρ σ o E rs e w=>?_⟩;obtain⟨d,h1,h2⟩:=cx e;cases h2;refine qt F0 B F H ρ σ d _ rs h1 λv F' H' fp x l nd hf=>?_;have r:=rs.ext x;exact w v F' H' fp r.f0 r.bh r.fh r.nf l nd λz hz=>rs.bh.free (hf z hz)
theorem Ek {HR CN:List dO}(hc:XT X ct ms c p)(h1:vE X ct ms rk HR u)(h2:vE X ct ms rk CN w):XS X ct ms rk (.If c HR CN pos) (sIf p u w):=by
 obtain⟨t,pt,qt⟩:=hc;obtain⟨t1,B6,B7⟩:=h1;obtain⟨t2,pZ,uO⟩:=h2;refine⟨_,RD pt B6 pZ,λF0 B F H ρ σ o E rs e z=>?_⟩;obtain⟨x,h1,h2⟩:=cx e;refine qt F0 B F H ρ σ x _ rs h1 λF1 H1 x1=>?_;cases x with
 |true=>rw[if_pos rfl]at h2 ⊢;exact B7 F0 B F1 H1 ρ σ o E (rs.ext x1) h2 z
 |false=>rw[if_neg cB]at h2 ⊢;exact uO F0 B F1 H1 ρ σ o E (rs.ext x1) h2 z
theorem RS.put {F' H':Hp}(rs:RS K ct F0 B ms F H ρ σ)(hm:ms[i]?=some (.ow k)) :
  ∃f1 fr:List bO,f1.Nodup/\(∀a∈f1,B a=none)/\(∀a∈f1,a∉fr)/\(∀d,ρ[i]?=some (some d)->∃v,σ[i]?=some (some v)/\Ow K ct F H k d v f1)/\(∀a∈fr,F a=none/\∃o,H a=some o/\ng o) /\
   ∀(F' H':Hp) (d':D) (v':V) (f':List bO),c9 F F'->c9 B H'->c9 F' H'->(∀a o,B a=some o->ng o->F0 a=none->F' a=none)->(∀a∈fr,H' a=H a/\F' a=none)->Ow K ct F' H' k d' v' f'->f'.Nodup->(∀a∈f',a∉fr)->(∀a∈f',B a=none) ->
    RS K ct F0 B ms F' H' (ρ.set i (some d')) (σ.set i (some v')):=by
 obtain⟨fp,sl,nd,hb⟩:=rs.sl;obtain⟨f1,fr,i1,i2,i3,i4,i5⟩:=sl.put hm;obtain⟨n1,n2,n3⟩:=i3 nd;refine⟨f1,fr,n1,λa z=>hb a (i1 a z),n3,i4,λa z=>sl.cells a (i2 a z),λF' H' d' v' f' s1 s2 s3 s4 kf o T8 dj GW=>?_⟩;obtain⟨lX,q1,q2,q3⟩:=i5 F' H' d' v' f' s1 kf o;exact⟨rs.f0.trans s1,s2,s3,s4,lX,q1,q3 T8 n2 dj,λa z=>(q2 a z).elim (GW a) λz=>hb a (i2 a z)⟩
theorem RS.set {v:V}(rs:RS K ct F0 B ms F H ρ σ)(hm:ms[i]?=some (.ow k))(x:iZ F H F' H')(o:Ow K ct F' H' k d v fp)(nd:fp.Nodup)(hf:∀a∈fp,H a=none) :
  RS K ct F0 B ms F' H' (ρ.set i (some d)) (σ.set i (some v)):=by
 have r:=rs.ext x;obtain⟨f1,fr,n1,b1,n3,i4,cf,put⟩:=rs.put (F':=F') (H':=H') hm;refine put F' H' d v fp x.ff r.bh x.fh r.nf (λa z=>?_) o nd (λa z zb=>?_) λa z=>rs.bh.free (hf a z)
 ·obtain⟨hn,o,ho,nt⟩:=cf a z;exact⟨(x.hh _ _ ho).trans ho.symm,x.nf a o ho nt hn⟩
 ·obtain⟨hn,o,ho,nt⟩:=cf a zb;rw[hf a z]at ho;cases ho
theorem zrx (hm:ms[i]?=some (.ow k))(hN:X.N.Nodup)(hi:X.N[i]?=some x)(hx:Loc X.env.scope x)(he:XO X ct ms k e f)(hs:GC X e x pos' pos:=by rfl)
  (hf:vL X x:=by walk_at "v2"):XS X ct ms rk (.Assign [.Name x pos'] e pos) (sSet i f):=by
 obtain⟨t,pt,qt⟩:=he;refine⟨_,Q8 hN hi hx pt hs hf,λF0 B F H ρ σ o E rs e w=>?_⟩;obtain⟨d,h1,h2⟩:=cx e;cases h2;exact qt F0 B F H ρ σ d _ rs h1 λv F' H' fp x l nd hf=>w _ F' H' (rs.set hm x l nd hf)
theorem WD (hc:XT X ct ms c p)(hb:vE X ct ms rk rest u)(hp:gI (b9 X.prog X.w) X.A X.env X.xe):XS X ct ms rk (.While c rest [] pos) (iy p u):=by
 obtain⟨t,pt,qt⟩:=hc;obtain⟨t1,B6,B7⟩:=hb;refine⟨_,WL hp pt B6,λF0 B F H ρ σ o E rs e z=>?_⟩;refine⟨λm σ H=>∃F ρ,RS X.K ct F0 B ms F H ρ σ/\kU p u m ρ=some o,⟨pW,F,ρ,rs,e⟩,?_⟩;rintro m σ H ⟨F,ρ,rs,e⟩;cases m with
 |zero=>cases e
 |succ m=>
  obtain⟨x,h1,h2⟩:=cx e;refine qt F0 B F H ρ σ x _ rs h1 λF1 H1 x1=>?_;cases x with
  |true=>
   rw[if_pos rfl]at h2 ⊢;obtain⟨o1,h3,h4⟩:=cx h2;refine⟨λσ H=>∃F ρ,RS X.K ct F0 B ms F H ρ σ/\kU p u m ρ=some o,λσ' H' h=>⟨m,kI m,h⟩,?_⟩;refine B7 F0 B F1 H1 ρ σ o1 _ (rs.ext x1) h3 ?_;cases o1 with
   |nx ρ'=>exactλσ' F' H' r=>⟨F',ρ',r,h4⟩
   |ct ρ'=>exactλσ' F' H' r=>⟨F',ρ',r,h4⟩
   |bk ρ'=>cases h4;exact z
   |rt d=>cases h4;exact z
  |false=>rw[if_neg cB]at h2 ⊢;cases h2;exact z σ F1 H1 (rs.ext x1)
theorem RS.re (r:RS K ct F0 B ms F H ρ σ):RS K ct F B ms F H ρ σ:=⟨.refl _,r.bh,r.fh,λ_ _ _ _ h=>h,r.sl⟩
theorem RS.back {ρ':Env}{σ':St}(r:RS K ct F0 B ms F H ρ σ)(q:RS K ct F B ms F' H' ρ' σ'):RS K ct F0 B ms F' H' ρ' σ' :=
 ⟨r.f0.trans q.f0,q.bh,q.fh,λa o h t n=>q.nf a o h t (r.nf a o h t n),q.sl⟩
theorem nB.re {E:mm}{o:Out}(r:RS K ct F0 B ms F H ρ σ)(z:nB K ct F0 B ms rk E o):nB K ct F B ms rk E o:=by
 cases o with
 |nx ρ=>exactλσ' F' H' q=>z σ' F' H' (r.back q)
 |bk ρ=>exactλσ' F' H' q=>z σ' F' H' (r.back q)
 |ct ρ=>exactλσ' F' H' q=>z σ' F' H' (r.back q)
 |rt d=>exactλv F' H' fp s1 s2 s3 s4=>z v F' H' fp (r.f0.trans s1) s2 s3 λa o h t n=>s4 a o h t (r.nf a o h t n)
def Bt (K:bM)(ct:Nat->bO)(F B:Hp)(n:Nat)(J:It)(ds:List D):Prop :=
 ∀(i:Nat) (F' H':Hp),c9 F F'->c9 B H'->c9 F' H'->(∀d,ds[i]?=some d->J.go i H'/\∀x H2,J.yld i H' x H2->∃F2,iZ F' H' F2 H2/\Al K ct F2 B n d x)/\(ds.length<=i->J.stop i H')
def XI (X:Cx)(ct:Nat->bO)(ms:List Mo)(n:Nat)(tg iter:Expr)(f:Env->Option (List D)):Prop:=∃wi,PI X tg iter wi/\∀(F0 B F H:Hp) (ρ:Env) (σ:St) (ds:List D) (R:It->Hp->Prop),RS X.K ct F0 B ms F H ρ σ->f ρ=some ds ->
 (∀J F' H',iZ F H F' H'->Bt X.K ct F' B n J ds->R J H')->wi σ H R
def Et (X:Cx)(c:Prop)(ct:Nat->bO)(ms:List Mo)(n:Nat)(tg iter:Expr)(f:Env->Option (List D)):Prop:=∃wi,GB X c tg iter wi/\∀(F0 B F H:Hp) (ρ:Env) (σ:St) (ds:List D) (R:It->Hp->Prop),RS X.K ct F0 B ms F H ρ σ->f ρ=some ds ->
 (∀J F' H',iZ F H F' H'->Bt X.K ct F' H' n J ds->R J H')->wi σ H R
abbrev Er (X:Cx):=Et X (X.calm=true)
def XG (X:Cx)(ct:Nat->bO)(ms:List Mo)(n:Nat)(tg:Expr)(g:D->Env->Option Env):Prop:=∃t,PG X tg t/\∀(F0 B F H:Hp) (ρ ρ':Env) (σ:St) (d:D) (v:V) (Q:St->Hp->Prop),RS X.K ct F0 B ms F H ρ σ->Al X.K ct F B n d v->g d ρ=some ρ' ->
 (∀σ',RS X.K ct F0 B ms F H ρ' σ'->Q σ' H)->t v σ H Q
theorem zry (hi:XI X ct ms n tg iter fi)(hg:XG X ct ms n tg gg)(hb:vE X ct ms rk rest u)(hp:gI (b9 X.prog X.w) X.A X.env X.xe)(hc:X.calm=true)
  (hs:Bs X iter:=by intro _;rfl):XS X ct ms rk (.For tg iter rest [] pos) (sFor fi gg u):=by
 obtain⟨wi,pi,qi⟩:=hi;obtain⟨Mc,pg,qg⟩:=hg;obtain⟨t1,B6,B7⟩:=hb;refine⟨_,Q9 hp hc pi pg B6 hs,λF0 B F H ρ σ o E rs e z=>?_⟩;obtain⟨ds,h1,h2⟩:=cx e;refine qi F0 B F H ρ σ ds _ rs h1 λJ F1 H1 x1 ok=>?_;refine⟨λi m σ H=>m=ds.length-i/\i<=ds.length/\∃F ρ,c9 F1 F/\RS X.K ct F0 B ms F H ρ σ/\gN gg u (ds.drop i) ρ=some o,⟨ds.length,rfl,ej _,F1,ρ,.refl _,rs.ext x1,h2⟩,?_⟩;rintro i m σ H ⟨rfl,EJ,F,ρ,s1,rs,e⟩;obtain⟨k1,k2⟩:=ok i F H s1 rs.bh rs.fh;by_cases oU:i<ds.length
 ·right;have hd:ds[i]?=some ds[i]:=by simp[oU]
  obtain⟨go,yl⟩:=k1 _ hd;rw[ml oU]at e;obtain⟨ρ1,h3,h4⟩:=cx e;obtain⟨o1,h5,h6⟩:=cx h4;refine⟨go,λσ H=>i+1<=ds.length/\∃F ρ,c9 F1 F/\RS X.K ct F0 B ms F H ρ σ/\gN gg u (ds.drop (i+1)) ρ=some o,λσ' H' h=>⟨ds.length-(i+1),by omega,rfl,h⟩,λx H2 y=>?_⟩;obtain⟨F2,x2,l⟩:=yl x H2 y;refine qg F0 B F2 H2 ρ ρ1 σ _ x _ (rs.ext x2) l h3 λσ' r=>?_;have s2:=s1.trans x2.ff;refine B7 F2 B F2 H2 ρ1 σ' o1 _ r.re h5 ?_;cases o1 with
  |nx ρ'=>exactλσ' F' H' q=>⟨oU,F',ρ',s2.trans q.f0,r.back q,h6⟩
  |ct ρ'=>exactλσ' F' H' q=>⟨oU,F',ρ',s2.trans q.f0,r.back q,h6⟩
  |bk ρ'=>cases h6;exactλσ' F' H' q=>z σ' F' H' (r.back q)
  |rt d=>cases h6;exact nB.re (o:=.rt d) r z
 ·left;refine⟨k2 (by omega),?_⟩
  have:ds.drop i=[]:=nE (by omega);rw[this]at e;cases e;exact z σ F H rs
def gV (i:Nat):D->Env->Option Env:=λd ρ=>some (ρ.set i (some d))
theorem Ym (hm:ms[i]?=some (.ow 0))(hN:X.N.Nodup)(hi:X.N[i]?=some x)(hx:Loc X.env.scope x)
  (hf:vL X x:=by walk_at "v2"):XG X ct ms 0 (.Name x pos) (gV i):=by
 refine⟨_,P9 hN hi hx hf,λF0 B F H ρ ρ' σ d v Q rs l e w=>?_⟩;cases e;exact w _ (rs.set hm (.refl rs.fh) (Ow.zero l) cZ λa z=>(by cases z))
def Iw (X:Cx)(ct:Nat->bO)(ms:List Mo)(n:Nat)(qO:List Expr)(g:List D->Env->Option Env):Prop:=∃t,FK X qO t/\(∀ds ρ ρ',g ds ρ=some ρ'->ds.length=qO.length)/\∀(F0 B F H:Hp) (ρ ρ':Env) (σ:St) (ds:List D) (vs:List V) (Q:St->Hp->Prop),RS X.K ct F0 B ms F H ρ σ->Pr (Al X.K ct F B n) ds vs->g ds ρ=some ρ' ->
 (∀σ',RS X.K ct F0 B ms F H ρ' σ'->Q σ' H)->t vs σ H Q
def gsNil:List D->Env->Option Env:=λds ρ=>match ds with
 |[]=>some ρ
 |_=>none
noncomputable def gsCons (g:D->Env->Option Env)(gs:List D->Env->Option Env):List D->Env->Option Env:=λds ρ=>match ds with
 |d::ds=>(g d ρ).bind λρ'=>gs ds ρ'
 |[]=>none
theorem uk:Iw X ct ms n [] gsNil:=by
 refine⟨_,Qa,λds ρ ρ' e=>?_,λF0 B F H ρ ρ' σ ds vs Q rs l e w=>?_⟩
 ·cases ds with
  |nil=>rfl
  |cons d ds=>cases e
 ·cases l with
  |nil=>cases e;exact⟨rfl,w σ rs⟩
  |cons _ _=>cases e
theorem zx (h1:XG X ct ms n tg gg)(h2:Iw X ct ms n qO gs)
  (hs:(eJ (tg::qO) X.env).map (·.2)=lB tg X.env::(eJ qO X.env).map (·.2):=by rfl):Iw X ct ms n (tg::qO) (gsCons gg gs):=by
 obtain⟨t,pt,qt⟩:=h1;obtain⟨t2,pZ,LF,uO⟩:=h2;refine⟨_,PN pt pZ hs,λds ρ ρ' e=>?_,λF0 B F H ρ ρ' σ ds vs Q rs l e w=>?_⟩
 ·cases ds with
  |nil=>cases e
  |cons d ds=>obtain⟨ρ1,h3,h4⟩:=cx e;rw[b8,b8,LF _ _ _ h4]
 ·cases l with
  |nil=>cases e
  |cons h t=>obtain⟨ρ1,h3,h4⟩:=cx e;exact⟨_,_,rfl,qt F0 B F H ρ ρ1 σ _ _ _ rs h h3 λσ1 r1=>uO F0 B F H ρ1 ρ' σ1 _ _ _ r1 t h4 w⟩
noncomputable def gT (gs:List D->Env->Option Env):D->Env->Option Env:=λd ρ=>match d with
 |.tup ds=>gs ds ρ
 |_=>none
theorem Gj {j:Nat}(hc:X.calm=true)(h:Iw X ct ms (n-1) qO gs)(hl:(eJ qO X.env).length=qO.length:=by rfl)(k7:(eJ qO X.env).findIdx? (·.1)=none:=by rfl):XG X ct ms n (.Tuple qO j pos) (gT gs):=by
 obtain⟨t,pt,lt,qt⟩:=h;refine⟨_,Q2 (n:=qO.length) hc pt hl k7,λF0 B F H ρ ρ' σ d v Q rs l e w=>?_⟩;cases d with
 |tup ds=>
  have l':Al X.K ct F H n (.tup ds) v:=l.mono (.refl _) rs.bh;have:∃a vs,v=.ref a/\pA X.K H a vs/\Pr (Al X.K ct F B (n-1)) ds vs:=by
   cases n with
   |zero=>
    have l:Dt X.K ct F (.tup ds) v:=l;cases l with
    |tup q t=>exact⟨_,_,rfl,pA.of (rs.fh _ _ q),t.pr⟩
   |succ n=>
    rcases l with l|l
    ·cases l with
     |tup q t=>exact⟨_,_,rfl,pA.of (rs.fh _ _ q),t.pr.mono λ_ _=>Al.of⟩
    ·cases l with
     |tup q t=>exact⟨_,_,rfl,pA.of (rs.fh _ _ q),t⟩
  obtain⟨a,vs,rfl,ha,hp⟩:=this;exact⟨a,vs,rfl,ha,hp.length.symm.trans (lt _ _ _ e),qt F0 B F H ρ ρ' σ ds vs Q rs hp e w⟩
 |_=>cases e
noncomputable def startD (N:List Str)(ds:List D):Env:=ds.map some++bW (N.length-ds.length) none
noncomputable def mOf (N:List Str)(b:SF)(ds:List D):Option D:=(b (startD N ds)).bind λo=>match o with
 |.rt d=>some d
 |.nx _=>some .non
 |_=>none
theorem SL.start {K:bM}{F B H:Hp}:∀{pm:List Nat} {ds:List D} {vs:List V} {ms:List Mo} (j:Nat),nH K ct F B pm ds vs->(∀(i n:Nat),pm[i]?=some n->ms[i]?=some (Mo.al n)\/(n=0/\ms[i]?=some (Mo.ow 0)))->ms.length=pm.length+j ->
  SL K ct F B H ms (ds.map some++bW j none) (vs.map some++bW j none) []
 |_,_,_,ms,j,.nil,_,hl=>by
  have:∀(j:Nat) (ms:List Mo),ms.length=j->SL K ct F B H ms (bW j none) (bW j none) []:=by
   intro j;induction j with
   |zero=>intro ms h;cases ms with
    |nil=>exact .nil
    |cons _ _=>simp at h
   |succ j ih=>intro ms h;cases ms with
    |nil=>simp at h
    |cons m ms=>exact .no (ih ms (by simpa using h))
  simpa using this j ms (by simpa using hl)
 |_,_,_,[],j,.cons h t,_,hl=>by simp at hl;omega
 |_,_,_,m::ms,j,.cons (n:=n) h t,hm,hl=>by
  have ih:=SL.start (ms:=ms) (H:=H) j t (λi n e=>by simpa using hm (i+1) n (by simpa using e)) (by simp at hl;omega);rcases hm 0 n rfl with e|⟨rfl,e⟩
  ·simp at e;subst e;exact .al h ih
  ·simp at e;subst e;exact SL.ow (f:=[]) (Ow.zero h) ih
structure Fun2 (K:bM)(x qual:Str)(st:dO)(f:bO)(fd:b5):Prop where
 ex:∃(oc:bJ) (od:Option bO) (dV kV doc pm:bJ) (an:Option bO) (jS ct:bJ) (CL:Array (Option bJ)),
  fd=mU x qual (kZ st) (gA st) (dh st) dV kV doc pm an jS ct/\K.lookup f=some ⟨oc,od,.func fd,CL⟩/\rC K jS qual=true
 kp:dY K (.ref f)=true
theorem Fun2.ok {w:dB}{f:bO}{fd:b5}{sp:Sp}(F:Fun2 K x qual st f fd)(S:iN N ps (dh st))(len:∀vs H Q E,sp vs H Q E->vs.length=ps.length)
    (BD:∀(jS:bJ) (A:c8) (outer:List PySem.Env) (s:bV) (H:Hp) (vs:List V) (Q:VK) (E:XK),fC k (A.deeper (envOfC qual (dh st) s.heap.objs.size f jS))->sp vs H Q E ->
      ∃t,uD (pE gx P w K mg base N qual (dh st) f jS A outer s H E).nox (gA st) t/\t { nx:=λ_ H'=>Q .non H',rt:=Q } (L2.start N vs) H):dD P w K mg base gx (k+1) f fd ps sp:=by
  obtain⟨oc,od,dV,kV,doc,pm,an,jS,ct,CL,rfl,lk,mP⟩:=F.ex;refine RC lk mP S len λA outer s H vs Q E hr D1=>?_;obtain⟨t,h,q⟩:=BD jS A outer s H vs Q E hr D1;exact⟨t,h.nox,q⟩
theorem lift {w:dB}{fd:b5}(Fn:Fun2 K x qual st fa fd)(S:iN N ps (dh st))(BO:pm.length=ps.length)(EQ:ms.length=N.length)(mW:ps.length<=N.length)
  (C5:∀(i n:Nat),pm[i]?=some n->ms[i]?=some (Mo.al n)\/(n=0/\ms[i]?=some (Mo.ow 0)))
  (body:∀(jS:bJ) (A:c8) (outer:List PySem.Env) (s:bV) (H:Hp) (E:XK),fC kk (A.deeper (envOfC qual (dh st) s.heap.objs.size fa jS))->vE (pE gx P w K mg base N qual (dh st) fa jS A outer s H E).nox ct ms rk (gA st) bf) :
  dD P w K mg base gx (kk+1) fa fd ps (kr K ct pm rk (mOf N bf)):=by
 refine Fn.ok S (kr.len BO) λjS A outer s H vs Q E hr h=>?_;obtain⟨F,ds,d,sF,l,hm,q⟩:=h;obtain⟨t,pt,qt⟩:=body jS A outer s H E hr;refine⟨t,pt,?_⟩;obtain⟨o,h1,h2⟩:=cx hm;have hvl:vs.length=pm.length:=l.length;have hdl:ds.length=vs.length:=l.length';refine qt F H F H (startD N ds) (L2.start N vs) o _ ⟨.refl _,.refl _,sF,λ_ _ _ _ h=>h,[],?_,cZ,λa z=>(by cases z)⟩ h1 ?_
 ·unfold startD L2.start;rw[hdl];exact SL.start _ l C5 (by omega)
 ·cases o with
  |nx ρ=>cases h2;exactλσ F' H' r=>q .non F' H' [] ⟨r.f0,r.bh,r.fh,r.nf⟩ (Ow.scal .non rfl) cZ λa z=>(by cases z)
  |rt d'=>cases h2;exactλv F' H' fp s1 s2 s3 s4 o nd hf=>q v F' H' fp ⟨s1,s2,s3,s4⟩ o nd hf
  |bk ρ=>cases h2
  |ct ρ=>cases h2
theorem kN.or {f:bJ->bJ->Cw bJ}{r':R2}(h:kN X f r)(h':kN X f r'):kN X f (λx y H Q=>r x y H Q\/r' x y H Q) :=
 λbL s σ H x y v u Q I rx ry q=>q.elim (h bL s σ H x y v u Q I rx ry) (h' bL s σ H x y v u Q I rx ry)
variable {gv:Int->Int->V}{j:Int}{neg:Bool}
def i2 (g:Int->Int->D):D->D->Option D
 |.int i,.int j=>some (g i j)
 |_,_=>none
def Bg (C:Int->Int->Prop)[∀i j,Decidable (C i j)](g:Int->Int->D):D->D->Option D
 |.int i,.int j=>if C i j then some (g i j)else none
 |_,_=>none
theorem JS {g:Int->Int->D}(hg:∀i j F,Dt K ct F (g i j) (gv i j)):rD K ct n m k (xH gv) (i2 g):=by
 intro F H x y d1 d2 d Q s l1 l2 e w;cases d1 with
 |int i=>
  cases d2 with
  |int j=>cases e;exact⟨i,j,l1.int,l2.int,w _ F H (.refl s) (Al.of (hg i j F))⟩
  |_=>cases e
 |_=>cases e
theorem JN {C C':Int->Int->Prop}[∀i j,Decidable (C i j)]{g:Int->Int->D}(hC:∀i j,C i j->C' i j)(hg:∀i j F,Dt K ct F (g i j) (gv i j)):rD K ct n m k (rI C' gv) (Bg C g):=by
 intro F H x y d1 d2 d Q s l1 l2 e w;cases d1 with
 |int i=>
  cases d2 with
  |int j=>
   unfold Bg at e;dsimp only at e;by_cases h:C i j
   ·rw[if_pos h]at e;cases e;exact⟨i,j,l1.int,l2.int,hC i j h,w _ F H (.refl s) (Al.of (hg i j F))⟩
   ·rw[if_neg h]at e;cases e
  |_=>cases e
 |_=>cases e
def JX:Nat:=2 ^ 9000
def Gu:Nat:=2 ^ 100000
def p6:D->D->Option D:=i2 λi j=>.int (i-j)
theorem YV:rD K ct n m k (xH λi j=>.int (i-j)) p6:=JS λ_ _ _=>.int _
def pJ (i j:Int):Prop:=(-18446744073709551616<i/\i<18446744073709551616)\/(-18446744073709551616<j/\j<18446744073709551616)\/(i.natAbs<Gu/\j.natAbs<Gu)
instance (i j:Int):Decidable (pJ i j):=by unfold pJ;infer_instance
def fD:D->D->Option D:=Bg pJ λi j=>.int (i*j)
theorem pJ.ok {i:Int}(h:pJ i j):tM i j:=by
 rcases h with h|h|h
 ·exact .inl (.inl ⟨by have:=h.1;omega,by have:=h.2;omega⟩)
 ·exact .inl (.inr ⟨by have:=h.1;omega,by have:=h.2;omega⟩)
 ·exact .inr h
theorem YW:rD K ct n m k (rI tM λi j=>.int (i*j)) fD:=JN (λ_ _=>pJ.ok) λ_ _ _=>.int _
def D.v:D->V
 |.bl b=>.bl b
 |.int i=>.int i
 |.str x=>.str x
 |_=>.non
theorem Dt.v {v:V}(h:Dt K ct F d v)(hs:d.sc=true):v=d.v:=by cases h<;>first|rfl|cases hs
theorem Al.v {v:V}(h:Al K ct F G n d v)(hs:d.sc=true):v=d.v:=Dt.v (Al.scal (F':=F) h hs) hs
theorem D.flat (hs:d.sc=true):mL d.v=true:=by cases d<;>first|rfl|cases hs
theorem Pr.vs {F G:Hp}:∀{ds:List D} {vs:List V},Pr (Al K ct F G n) ds vs->ds.all D.sc=true->vs=ds.map D.v
 |_,_,.nil,_=>rfl
 |d::ds,v::vs,.cons h t,e=>by rw[fX,c7]at e;rw[ck,Al.v h e.1,Pr.vs t e.2]
noncomputable def hJ:D->D->Option D
 |.int i,.int j=>if 0<j/\j<4611686018427387904 then some (.int (i/j))else if j≠0/\j.natAbs<JX then some (.int (i.fdiv j))else none
 |_,_=>none
theorem W8:rD K ct n m k (rI (λ_ j=>j≠0/\Sz 9000 j) λi j=>.int (i.fdiv j)) hJ:=by
 intro F H x y d1 d2 d Q s l1 l2 e w;cases d1 with
 |int i=>
  cases d2 with
  |int j=>
   unfold hJ at e;dsimp only at e;by_cases h:0<j/\j<4611686018427387904
   ·rw[if_pos h]at e;cases e;refine⟨i,j,l1.int,l2.int,⟨by omega,?_⟩,?_⟩
    ·have:Sz 62 j:=by unfold Sz;omega
     exact this.mono (by decide)
    ·show Q (.int (i.fdiv j)) H;rw[lV i (by omega)];exact w _ F H (.refl s) (Al.of (.int _))
   ·rw[if_neg h]at e;by_cases h:j≠0/\j.natAbs<JX
    ·rw[if_pos h]at e;cases e;exact⟨i,j,l1.int,l2.int,h,w _ F H (.refl s) (Al.of (.int _))⟩
    ·rw[if_neg h]at e;cases e
  |_=>cases e
 |_=>cases e
noncomputable def gW:D->D->Option D
 |.int i,.int j=>if 0<j then some (.int (i%j))else if j≠0 then some (.int (i.fmod j))else none
 |_,_=>none
theorem YX:rD K ct n m k (rI (λ_ j=>j≠0) λi j=>.int (i.fmod j)) gW:=by
 intro F H x y d1 d2 d Q s l1 l2 e w;cases d1 with
 |int i=>
  cases d2 with
  |int j=>
   unfold gW at e;dsimp only at e;by_cases h:0<j
   ·rw[if_pos h]at e;cases e;refine⟨i,j,l1.int,l2.int,by omega,?_⟩;show Q (.int (i.fmod j)) H;rw[tK i (by omega)];exact w _ F H (.refl s) (Al.of (.int _))
   ·rw[if_neg h]at e;by_cases h:j≠0
    ·rw[if_pos h]at e;cases e;exact⟨i,j,l1.int,l2.int,h,w _ F H (.refl s) (Al.of (.int _))⟩
    ·rw[if_neg h]at e;cases e
  |_=>cases e
 |_=>cases e
def t5 (i j:Int):Prop:=0<=j/\j<=1000000/\i.natAbs<18446744073709551616
instance (i j:Int):Decidable (t5 i j):=by unfold t5;infer_instance
def AF:D->D->Option D:=Bg t5 λi j=>.int (i ^ j.toNat)
theorem MM:rD K ct n m k (rI CT λi j=>.int (i ^ j.toNat)) AF:=JN (λ_ _ h=>⟨h.1,h.2.1,by have:=h.2.2;omega⟩) λ_ _ _=>.int _
def Dr:D->D->Option D:=Bg t5 λi j=>.int (i*2 ^ j.toNat)
theorem YY:rD K ct n m k (rI CT λi j=>.int (i*2 ^ j.toNat)) Dr:=JN (λ_ _ h=>⟨h.1,h.2.1,by have:=h.2.2;omega⟩) λ_ _ _=>.int _
def AJ:D->D->Option D:=Bg (λ_ j=>0<=j) λi j=>.int (i/2 ^ j.toNat)
theorem Qs:rD K ct n m k (rI (λ_ j=>0<=j) λi j=>.int (i/2 ^ j.toNat)) AJ:=JN (λ_ _ h=>h) λ_ _ _=>.int _
def qL:D->D->Option D:=i2 λi j=>.bl (decide (i<j))
def qX:D->D->Option D:=i2 λi j=>.bl (decide (j<i))
def Bz:D->D->Option D:=i2 λi j=>.bl (decide (j<=i))
theorem Na:rD K ct n m k (xH λi j=>.bl (decide (i<j))) qL:=JS λ_ _ _=>.bl _
theorem Ri:rD K ct n m k (xH λi j=>.bl (decide (j<i))) qX:=JS λ_ _ _=>.bl _
theorem Rj:rD K ct n m k (xH λi j=>.bl (decide (j<=i))) Bz:=JS λ_ _ _=>.bl _
noncomputable def Fa:R2:=λx y H Q=>∃i j,x=.str i/\y=.str j/\Q (.bl (!(decide (j.cps.toList<i.cps.toList)))) H
theorem zrz:kN X (d5 .LtE) Fa:=by intro bL s σ H x y v u Q I rx ry h;obtain⟨i,j,rfl,rfl,q⟩:=h;obtain⟨t,rfl⟩:=rx;obtain⟨t',rfl⟩:=ry;exact PySem.P.le_str ⟨.bl _,H,I,rfl,q⟩
noncomputable def BZ:D->D->Option D
 |.int i,.int j=>some (.bl (decide (i<=j)))
 |.str i,.str j=>some (.bl (!(decide (j.cps.toList<i.cps.toList))))
 |_,_=>none
theorem Qt:rD K ct n m k (λx y H Q=>xH (λi j=>.bl (decide (i<=j))) x y H Q\/Fa x y H Q) BZ:=by
 intro F H x y d1 d2 d Q s l1 l2 e w;cases d1 with
 |int i=>
  cases d2 with
  |int j=>cases e;exact .inl ⟨i,j,l1.int,l2.int,w _ F H (.refl s) (Al.of (.bl _))⟩
  |_=>cases e
 |str i=>
  cases d2 with
  |str j=>cases e;exact .inr ⟨i,j,l1.str,l2.str,w _ F H (.refl s) (Al.of (.bl _))⟩
  |_=>cases e
 |_=>cases e
theorem Rk:kN X (d5 .LtE) (λx y H Q=>xH (λi j=>.bl (decide (i<=j))) x y H Q\/Fa x y H Q):=kN.or ztj zrz
def D.isN:D->Bool
 |.non=>true
 |_=>false
def D.isB (b:Bool):D->Bool
 |.bl c=>c==b
 |_=>false
noncomputable def tT (neg:Bool):D->D->Option D
 |d,.non=>some (.bl (if neg then !d.isN else d.isN))
 |d,.bl b=>some (.bl (if neg then !d.isB b else d.isB b))
 |_,_=>none
theorem Al.ref {v:V}(h:Al K ct F G n d v)(hs:d.sc=false):∃a,v=.ref a:=by
 cases n with
 |zero=>cases(show Dt K ct F d v from h)<;>first|cases hs;done|exact⟨_,rfl⟩
 |succ n=>rcases h with h|h<;>cases h<;>first|cases hs;done|exact⟨_,rfl⟩
theorem Al.isn {v:V}(h:Al K ct F G n d v):decide (v=.non)=d.isN:=by
 cases hs:d.sc with
 |true=>have:=Al.v h hs;subst this;cases d<;>first|rfl|cases hs
 |false=>obtain⟨a,rfl⟩:=h.ref hs;cases d<;>first|rfl|cases hs
theorem Al.isb {v:V}{b:Bool}(h:Al K ct F G n d v):decide (v=.bl b)=d.isB b:=by
 cases hs:d.sc with
 |true=>have:=Al.v h hs;subst this;cases d<;>first|rfl|(cases hs;done)|(rename_i c;cases b<;>cases c<;>rfl)
 |false=>obtain⟨a,rfl⟩:=h.ref hs;cases d<;>first|rfl|cases hs
noncomputable def OD:R2:=λx y H Q=>(y=.non/\Q (.bl (decide (x=.non))) H)\/∃b,y=.bl b/\Q (.bl (decide (x=.bl b))) H
noncomputable def B8:R2:=λx y H Q=>(y=.non/\Q (.bl (!decide (x=.non))) H)\/∃b,y=.bl b/\Q (.bl (!decide (x=.bl b))) H
theorem ztr:kN X (d5 .Is) OD:=kN.or ZR zro
theorem W9:kN X (d5 .IsNot) B8:=kN.or Yo V0
theorem zr0:rD K ct n m k OD (tT false):=by
 intro F H x y d1 d2 d Q s l1 l2 e w;cases d2 with
 |non=>cases e;refine .inl ⟨l2.non,?_⟩;rw[l1.isn];exact w _ F H (.refl s) (Al.of (.bl _))
 |bl b=>cases e;refine .inr ⟨b,l2.bl,?_⟩;rw[l1.isb];exact w _ F H (.refl s) (Al.of (.bl _))
 |_=>cases e
theorem Wb:rD K ct n m k B8 (tT true):=by
 intro F H x y d1 d2 d Q s l1 l2 e w;cases d2 with
 |non=>cases e;refine .inl ⟨l2.non,?_⟩;rw[l1.isn];exact w _ F H (.refl s) (Al.of (.bl _))
 |bl b=>cases e;refine .inr ⟨b,l2.bl,?_⟩;rw[l1.isb];exact w _ F H (.refl s) (Al.of (.bl _))
 |_=>cases e
mutual
noncomputable def D.py:D->Option d8
 |.non=>some .none
 |.bl b=>some (.bool b)
 |.int i=>some (.int i)
 |.str x=>some (.str x)
 |.lst xs=>(D.pys xs).bind λys=>some (.list ys)
 |.tup xs=>(D.pys xs).bind λys=>some (.tuple ys)
 |_=>none
noncomputable def D.pys:List D->Option (List d8)
 |[]=>some []
 |d::ds=>(D.py d).bind λx=>(D.pys ds).bind λxs=>some (x::xs)
end
theorem Dt.toPy (s:c9 F H){v:V}{e:d8}(h:Dt K ct F d v)(q:d.py=some e):L2.Dt K H v e:=by
 refine Dt.rec (motive_1:=λd v _=>∀e,d.py=some e->L2.Dt K H v e) (motive_2:=λds vs _=>∀es,D.pys ds=some es->L2.Dts K H vs es) ?_ ?_ ?_ ?_ ?_ ?_ ?_ ?_ ?_ ?_ ?_ ?_ ?_ ?_ h e q
 ·intro e h;rw[D.py]at h;cases h;exact .non
 ·intro b e h;rw[D.py]at h;cases h;exact .bl b
 ·intro b e h;rw[D.py]at h;cases h;exact .int b
 ·intro b e h;rw[D.py]at h;cases h;exact .str b
 ·intro _ _ _ q _ t e h;rw[D.py]at h;obtain⟨ys,h1,h2⟩:=cx h;cases h2;exact .lst (s.seq q) (t _ h1)
 ·intro _ _ _ q _ t e h;rw[D.py]at h;obtain⟨ys,h1,h2⟩:=cx h;cases h2;exact .tup (pA.of (s _ _ q)) (t _ h1)
 ·intro _ _ _ _ _ _ _ _ e h;simp only[D.py]at h;cases h
 ·intro _ _ _ _ _ _ _ _ e h;simp only[D.py]at h;cases h
 ·intro _ _ _ _ _ _ _ _ _ _ e h;simp only[D.py]at h;cases h
 ·intro _ _ _ _ e h;simp only[D.py]at h;cases h
 ·intro _ _ _ _ _ _ _ _ _ _ _ _ e h;simp only[D.py]at h;cases h
 ·intro _ _ _ _ _ _ e h;simp only[D.py]at h;cases h
 ·intro e h;rw[D.pys]at h;cases h;exact .nil
 ·intro _ _ _ _ _ _ p t e h;rw[D.pys]at h;obtain⟨y,ys,h1,h2,h3⟩:=fJ h;cases h3;exact .cons (p _ h1) (t _ h2)
theorem Pr.toPy (f:∀d v e,R d v->d.py=some e->L2.Dt K H v e){vs:List V}{es:List d8}(h:Pr R ds vs)(e:D.pys ds=some es):L2.Dts K H vs es:=by
 induction h generalizing es with
 |nil=>rw[D.pys]at e;cases e;exact .nil
 |cons h t ih=>rw[D.pys]at e;obtain⟨y,ys,h1,h2,h3⟩:=fJ e;cases h3;exact .cons (f _ _ _ h h1) (ih h2)
theorem Al.toPy (s:c9 F H){v:V}{e:d8}(h:Al K ct F H n d v)(q:d.py=some e):L2.Dt K H v e:=by
 induction n generalizing d v e with
 |zero=>exact Dt.toPy s h q
 |succ n ih=>
  cases h with
  |inl h=>exact Dt.toPy s h q
  |inr h=>
   cases h with
   |lst h t=>rw[D.py]at q;obtain⟨ys,h1,h2⟩:=cx q;cases h2;exact .lst (jU.of h) (Pr.toPy (λ_ _ _=>ih) t h1)
   |tup h t=>rw[D.py]at q;obtain⟨ys,h1,h2⟩:=cx q;cases h2;exact .tup (pA.of (s _ _ h)) (Pr.toPy (λ_ _ _=>ih) t h1)
   |_=>simp only[D.py]at q;cases q
def uM (a:d8):Bool:=a.canLay0&&decide (a.depth<=60)
noncomputable def jV (neg:Bool)(x y:D):Option D:=x.py.bind λa=>y.py.bind λb=>if uM a=true/\uM b=true then some (.bl (if neg then !d8.eqv a b else d8.eqv a b))else none
theorem Nb:rD K ct n m k (E8 K neg) (jV neg):=by
 intro F H x y d1 d2 d Q s l1 l2 e w;obtain⟨a,b,h1,h2,h3⟩:=fJ e;by_cases h:uM a=true/\uM b=true
 ·rw[if_pos h]at h3;cases h3;have o1:=h.1;have o2:=h.2;unfold uM at o1 o2;rw[c7,decide_eq_true_iff]at o1 o2;exact⟨a,b,Al.toPy s l1 h1,Al.toPy s l2 h2,o1.1,o2.1,dA (Nat.min_le_left _ _) o1.2,w _ F H (.refl s) (Al.of (.bl _))⟩
 ·rw[if_neg h]at h3;cases h3
variable {κ:Type}{fW:mE}
theorem Pr.atI {vs:List V}{i:Int}(h:Pr R ds vs)(e:atI ds i=some d):∃v,atI vs i=some v/\R d v:=by unfold L2.atI at e ⊢;rw[←h.length];obtain⟨j,h1,h2⟩:=cx e;obtain⟨v,h3,h4⟩:=h.get' h2;exact⟨v,by rw[h1];exact h3,h4⟩
def De:D->Option ko
 |.int i=>some (.inl i)
 |.str x=>some (.inr x)
 |_=>none
noncomputable def tV:List D->Option (List ko)
 |[]=>some []
 |d::ds=>(De d).bind λk=>(tV ds).bind λks=>some (k::ks)
noncomputable def mM [DecidableEq κ](ks:List κ)(ds:List D)(k:κ):Option D:=((ks.zip ds).find? λp=>decide (p.1=k)).map (·.2)
def RO (R:D->V->Prop):Option D->Option V->Prop
 |some d,some u=>R d u
 |none,none=>True
 |_,_=>False
theorem RO.some_of {q:Option V}(h:RO R (some d) q):∃u,q=some u/\R d u:=by
 cases q with
 |none=>exact h.elim
 |some u=>exact⟨u,rfl,h⟩
theorem RO.none_of {q:Option V}(h:RO R none q):q=none:=by
 cases q with
 |none=>rfl
 |some u=>exact h.elim
theorem Mq {κ:Type}[DecidableEq κ]{R:D->V->Prop}{k:κ}:∀{ks:List κ} {ds:List D} {vs:List V},Pr R ds vs->RO R (mM ks ds k) (nz (ks.zip vs) k)
 |[],_,_,_=>by simp[mM,nz,RO]
 |_::_,_,_,.nil=>by simp[mM,nz,RO]
 |y::ks,d::ds,v::vs,.cons h t=>by
  by_cases e:y=k
  ·have h1:mM (y::ks) (d::ds) k=some d:=by simp[mM,eS,e]
   have h2:nz ((y::ks).zip (v::vs)) k=some v:=by simp[nz,eS,e]
   rw[h1,h2];exact h
  ·have h1:mM (y::ks) (d::ds) k=mM ks ds k:=by simp[mM,eS,e]
   have h2:nz ((y::ks).zip (v::vs)) k=nz (ks.zip vs) k:=by simp[nz,eS,e]
   rw[h1,h2];exact Mq t
theorem JO {v:V}{k:ko}(e:De d=some k)(h:Al K ct F G n d v):v=kV k:=by
 cases d with
 |int i=>cases e;exact h.int
 |str i=>cases e;exact h.str
 |_=>cases e
theorem MN {vs:List V}(e:tV ds=some ks)(h:Pr (Al K ct F G n) ds vs):vs=ks.map kV:=by
 induction h generalizing ks with
 |nil=>cases e;rfl
 |cons h t ih=>unfold tV at e;obtain⟨k,ks,h1,h2,h3⟩:=fJ e;cases h3;rw[JO h1 h,ih h2];rfl
noncomputable def jA (o y:D):Option (Option D):=match o with
 |.dK ks ds=>(De y).bind λk=>some (mM ks ds k)
 |.dT ks ds=>(match y with|.tup ys=>(tV ys).bind λk=>some (mM ks ds k)|_=>none)
 |_=>none
theorem j0 {o y:D}{x v:V}(s:c9 F G)(l1:Al K ct F G n o x)(l2:Al K ct F G m y v){r:Option D}(e:jA o y=some r) :
  ∃a q,x=.ref a/\oQ G a v q/\FI G a/\RO (Al K ct F G (n-1)) r q:=by
 cases o with
 |dK ks ds=>obtain⟨a,vs,rfl,ha,hl,hp⟩:=l1.dK s;obtain⟨k,h1,h2⟩:=cx e;cases h2;have hv:=JO h1 l2;subst hv;exact⟨a,_,rfl,oQ.k ha,.inl ⟨_,.inl ha⟩,Mq hp⟩
 |dT ks ds=>
  obtain⟨a,vs,rfl,ha,hl,hp⟩:=l1.dT s;cases y with
  |tup ys=>obtain⟨k,h1,h2⟩:=cx e;cases h2;obtain⟨b,us,rfl,hb,Hc⟩:=l2.tup s;have hv:=MN h1 Hc;subst hv;exact⟨a,_,rfl,.inr ⟨_,_,_,ha,rfl,hb,rfl⟩,.inr ⟨_,ha⟩,Mq hp⟩
  |_=>cases e
 |_=>cases e
noncomputable def ed:D->D->Option D
 |.lst ds,.int i=>atI ds i
 |.tup ds,.int i=>atI ds i
 |.kt ds,.int i=>atI ds i
 |.str x,.int i=>if x.length<=16777216 then(atI x.cps.toList i).bind λc=>some (.str ⟨#[c]⟩)else none
 |_,_=>none
theorem Nc:rD K ct n m (n-1) (OE K) ed:=by
 intro F H x y d1 d2 d Q s l1 l2 e w;cases d1 with
 |lst ds=>
  cases d2 with
  |int i=>obtain⟨a,vs,rfl,ha,hp⟩:=l1.lst s;obtain⟨v,h1,h2⟩:=hp.atI e;exact .inl ⟨a,vs,i,v,rfl,l2.int,ha,h1,w v F H (.refl s) h2⟩
  |_=>cases e
 |tup ds=>
  cases d2 with
  |int i=>obtain⟨a,vs,rfl,ha,hp⟩:=l1.tup s;obtain⟨v,h1,h2⟩:=hp.atI e;exact .inr (.inl ⟨a,vs,i,v,rfl,l2.int,pA.of ha,h1,w v F H (.refl s) h2⟩)
  |_=>cases e
 |kt ds=>
  cases d2 with
  |int i=>obtain⟨a,vs,rfl,ha,hp⟩:=l1.kt;obtain⟨v,h1,h2⟩:=hp.atI e;exact .inr (.inl ⟨a,vs,i,v,rfl,l2.int,.inr ha,h1,w v F H (.refl s) (Al.of h2)⟩)
  |_=>cases e
 |str z=>
  cases d2 with
  |int i=>
   unfold ed at e;dsimp only at e;by_cases h:z.length<=16777216
   ·rw[if_pos h]at e;obtain⟨c,h1,h2⟩:=cx e;cases h2;exact .inr (.inr ⟨z,i,c,l1.str,l2.int,by rw[dF];exact h,h1,w _ F H (.refl s) (Al.of (.str _))⟩)
   ·rw[if_neg h]at e;cases e
  |_=>cases e
 |_=>cases e
theorem Ik (hu:X.A.units+1<jH)(ha:XE X ct ms n a f)(hb:XE X ct ms m b g)(hs:Em b):XE X ct ms (n-1) (.Subscript a b pos) (λρ=>(f ρ).bind λx=>(g ρ).bind λy=>(jA x y).join):=by obtain⟨ta,tb,pa,pb,q⟩:=ha.bin hb;refine⟨_,YJ hu pa pb hs,λF0 B F H ρ σ d Q rs e w=>?_⟩;obtain⟨d1,d2,h1,h2,h3⟩:=fJ e;refine q F0 B F H ρ σ d1 d2 _ rs h1 h2 λx y F' H' x1 l1 l2=>?_;obtain⟨a,o,rfl,g,_,h⟩:=j0 (r:=some d) x1.fh l1 l2 (zt h3);obtain⟨u,rfl,C8⟩:=h.some_of;exact⟨a,u,rfl,g,w u F' H' x1 C8⟩
theorem YZ (hu:X.A.units+1<jH)(ho:XE X ct ms n o f)(he:XE X ct ms m e g)(h1:M1 X o "get" fK e fW):XE X ct ms (n-1) (.Call (.Attribute o "get" fK) [e] [] fW) (λρ=>(f ρ).bind λx=>(g ρ).bind λy=>(jA x y).bind λr=>some (r.getD .non)):=by
 obtain⟨ta,pa,qa⟩:=ho;obtain⟨tb,pb,qb⟩:=he;refine⟨_,Wx hu pa pb h1,λF0 B F H ρ σ d Q rs e w=>?_⟩;obtain⟨d1,d2,e1,e2,e3⟩:=fJ e;obtain⟨r,e4,e5⟩:=cx e3;cases e5;refine qa F0 B F H ρ σ d1 _ rs e1 λx F1 H1 x1 l1=>?_;have:∃a,x=.ref a/\FI H1 a:=by
  cases d1 with
  |dK ks ds=>obtain⟨a,vs,rfl,ha,_⟩:=l1.dK x1.fh;exact⟨a,rfl,.inl ⟨_,.inl ha⟩⟩
  |dT ks ds=>obtain⟨a,vs,rfl,ha,_⟩:=l1.dT x1.fh;exact⟨a,rfl,.inr ⟨_,ha⟩⟩
  |_=>cases e4
 obtain⟨a,rfl,Lx⟩:=this;refine⟨a,rfl,Lx,qb F0 B F1 H1 ρ σ d2 _ (rs.ext x1) e2 λy F2 H2 x2 l2=>?_⟩;obtain⟨a',o,ea,gg,_,h⟩:=j0 (r:=r) x2.fh (l1.mono x2.ff x2.hh) l2 e4;cases ea;refine⟨o,gg,?_⟩;cases r with
 |none=>rw[h.none_of];exact w _ F2 H2 (x1.trans x2) (Al.of .non)
 |some d=>obtain⟨u,rfl,C8⟩:=h.some_of;exact w _ F2 H2 (x1.trans x2) C8
theorem Y0 {z:Expr}(hu:X.A.units+1<jH)(ho:XE X ct ms n o f)(he:XE X ct ms m e g)(hz:XE X ct ms (n-1) z h)(h1:M2 X o "get" fK e z fW):XE X ct ms (n-1) (.Call (.Attribute o "get" fK) [e,z] [] fW) (λρ=>(f ρ).bind λx=>(g ρ).bind λy=>(h ρ).bind λz=>(jA x y).bind λr=>some (r.getD z)):=by
 obtain⟨ta,pa,qa⟩:=ho;obtain⟨tb,pb,qb⟩:=he;obtain⟨tc,pc,qc⟩:=hz;refine⟨_,Wy hu pa pb pc h1,λF0 B F H ρ σ d Q rs e w=>?_⟩;obtain⟨d1,d2,e1,e2,e3⟩:=fJ e;obtain⟨d3,e6,e7⟩:=cx e3;obtain⟨r,e4,e5⟩:=cx e7;cases e5;refine qa F0 B F H ρ σ d1 _ rs e1 λx F1 H1 x1 l1=>?_;have:∃a,x=.ref a/\FI H1 a:=by
  cases d1 with
  |dK ks ds=>obtain⟨a,vs,rfl,ha,_⟩:=l1.dK x1.fh;exact⟨a,rfl,.inl ⟨_,.inl ha⟩⟩
  |dT ks ds=>obtain⟨a,vs,rfl,ha,_⟩:=l1.dT x1.fh;exact⟨a,rfl,.inr ⟨_,ha⟩⟩
  |_=>cases e4
 obtain⟨a,rfl,Lx⟩:=this;refine⟨a,rfl,Lx,qb F0 B F1 H1 ρ σ d2 _ (rs.ext x1) e2 λy F2 H2 x2 l2=>?_⟩;refine qc F0 B F2 H2 ρ σ d3 _ (rs.ext (x1.trans x2)) e6 λz F3 H3 x3 l3=>?_;have qP:=x2.trans x3;obtain⟨a',o,ea,gg,_,h⟩:=j0 (r:=r) qP.fh (l1.mono qP.ff qP.hh) (l2.mono x3.ff x3.hh) e4;cases ea;refine⟨o,gg,?_⟩;cases r with
 |none=>rw[h.none_of];exact w _ F3 H3 (x1.trans qP) l3
 |some d=>obtain⟨u,rfl,C8⟩:=h.some_of;exact w _ F3 H3 (x1.trans qP) C8
noncomputable def CC:D->D->Bool
 |.non,.non=>true
 |.bl a,.bl b=>a==b
 |.bl a,.int b=>(if a then 1 else 0)==b
 |.int a,.bl b=>a==(if b then 1 else 0)
 |.int a,.int b=>a==b
 |.str a,.str b=>a==b
 |_,_=>false
theorem RE {x y:D}(hx:x.sc=true)(hy:y.sc=true):Ax x.v y.v=CC x y:=by cases x<;>first|cases hx;done|(cases y<;>first|cases hy;done|rfl)
noncomputable def CK (x:D)(ds:List D):Bool:=ds.any λy=>CC y x
theorem JT {x:D}(hx:x.sc=true):∀{ds:List D},ds.all D.sc=true->Je x.v (ds.map D.v)=CK x ds
 |[],_=>rfl
 |d::ds,h=>by rw[fX,c7]at h;have ih:=JT hx h.2;unfold Je CK at ih ⊢;rw[ck,iz,iz,ih,RE h.1 hx]
theorem v6:∀{ds:List D},ds.all D.sc=true->(ds.map D.v).all mL=true
 |[],_=>rfl
 |d::ds,h=>by rw[fX,c7]at h;rw[ck,fX,D.flat h.1,v6 h.2];rfl
noncomputable def inD (neg:Bool)(x y:D):Option D:=match y with
 |.lst ds=>if x.sc=true/\ds.all D.sc=true then some (.bl (if neg then !CK x ds else CK x ds))else none
 |.tup ds=>if x.sc=true/\ds.all D.sc=true then some (.bl (if neg then !CK x ds else CK x ds))else none
 |.kt ds=>if x.sc=true/\ds.all D.sc=true then some (.bl (if neg then !CK x ds else CK x ds))else none
 |_=>none
theorem Rl:rD K ct n m k (OC K neg) (inD neg):=by
 intro F H x y d1 d2 d Q s l1 l2 e w;cases d2 with
 |lst ds=>
  unfold inD at e;dsimp only at e;by_cases h:d1.sc=true/\ds.all D.sc=true
  ·rw[if_pos h]at e;cases e;obtain⟨a,vs,rfl,ha,hp⟩:=l2.lst s;have hv:=hp.vs h.2;subst hv;have hx:=Al.v l1 h.1;subst hx;refine⟨a,_,rfl,.inl ha,D.flat h.1,v6 h.2,?_⟩;rw[JT h.1 h.2];exact w _ F H (.refl s) (Al.of (.bl _))
  ·rw[if_neg h]at e;cases e
 |tup ds=>
  unfold inD at e;dsimp only at e;by_cases h:d1.sc=true/\ds.all D.sc=true
  ·rw[if_pos h]at e;cases e;obtain⟨a,vs,rfl,ha,hp⟩:=l2.tup s;have hv:=hp.vs h.2;subst hv;have hx:=Al.v l1 h.1;subst hx;refine⟨a,_,rfl,.inr (pA.of ha),D.flat h.1,v6 h.2,?_⟩;rw[JT h.1 h.2];exact w _ F H (.refl s) (Al.of (.bl _))
  ·rw[if_neg h]at e;cases e
 |kt ds=>
  unfold inD at e;dsimp only at e;by_cases h:d1.sc=true/\ds.all D.sc=true
  ·rw[if_pos h]at e;cases e;obtain⟨a,vs,rfl,ha,hp⟩:=l2.kt;have hv:=Pr.vs (n:=0) (F:=F) (G:=H) (hp.mono λ_ _ q=>q) h.2;subst hv;have hx:=Al.v l1 h.1;subst hx;refine⟨a,_,rfl,.inr (.inr ha),D.flat h.1,v6 h.2,?_⟩;rw[JT h.1 h.2];exact w _ F H (.refl s) (Al.of (.bl _))
  ·rw[if_neg h]at e;cases e
 |_=>cases e
noncomputable def eW:List D->Option D
 |[.lst ds]=>some (.int ds.length)
 |[.tup ds]=>some (.int ds.length)
 |[.kt ds]=>some (.int ds.length)
 |[.dK ks _]=>some (.int ks.length)
 |[.str x]=>if x.length<=16777216 then some (.int x.length)else none
 |_=>none
def HK (K:bM):List V->Hp->VK->Prop:=λxs H Q=>(∃p ys,xs=[.ref p]/\(jU K H p ys\/pA K H p ys)/\Q (.int ys.length) H)\/(∃z,xs=[.str z]/\z.length<=sizeLine/\Q (.int z.length) H)\/∃a dZ,xs=[V.ref a]/\H a=some (.dK dZ)/\Q (.int dZ.length) H
theorem Wc:iA X (.builtin "len") (HK X.K):=UR.or (US.or VZ)
theorem Y1:Bu K ct [n] k (HK K) eW:=by
 intro F H vs ds d Q s l e w;cases l with
 |cons h t=>
  cases t;rename_i d1 v;cases d1 with
  |lst xs=>cases e;obtain⟨a,us,rfl,ha,hp⟩:=h.lst s;refine .inl ⟨a,us,rfl,.inl ha,?_⟩;rw[←hp.length];exact w _ F H (.refl s) (Al.of (.int _))
  |tup xs=>cases e;obtain⟨a,us,rfl,ha,hp⟩:=h.tup s;refine .inl ⟨a,us,rfl,.inr (pA.of ha),?_⟩;rw[←hp.length];exact w _ F H (.refl s) (Al.of (.int _))
  |kt xs=>cases e;obtain⟨a,us,rfl,ha,hp⟩:=h.kt;refine .inl ⟨a,us,rfl,.inr (.inr ha),?_⟩;rw[←hp.length];exact w _ F H (.refl s) (Al.of (.int _))
  |str x=>
   unfold eW at e;dsimp only at e;by_cases hz:x.length<=16777216
   ·rw[if_pos hz]at e;cases e;exact .inr (.inl ⟨x,by rw[h.str],by rw[dF];exact hz,w _ F H (.refl s) (Al.of (.int _))⟩)
   ·rw[if_neg hz]at e;cases e
  |dK ks xs=>cases e;obtain⟨a,us,rfl,ha,hl,hp⟩:=h.dK s;refine .inr (.inr ⟨a,_,rfl,ha,?_⟩);rw[iu,←hl,lL];exact w _ F H (.refl s) (Al.of (.int _))
  |_=>cases e
variable {ι:Type}{cap:List Nat}{o8:Expr}{ifs:List Expr}{om:List Mo}{own:Nat}{scope:pO}
theorem zts {Xs:ι->Cx}(hK:∀i,(Xs i).K=K)(h:∀i,XO (Xs i) ct ms n e f):∃t,(∀i,PE (Xs i) e t)/\∀(F0 B F H:Hp) (ρ:Env) (σ:St) (d:D) (Q:VK),RS K ct F0 B ms F H ρ σ->f ρ=some d ->
  (∀v F' H' fp,iZ F H F' H'->Ow K ct F' H' n d v fp->fp.Nodup->(∀a∈fp,H a=none)->Q v H')->t σ H Q:=by
 refine⟨λσ H Q=>∀i,(h i).choose σ H Q,λi bL s σ H Q I q=>(h i).choose_spec.1 bL s σ H Q I (q i),λF0 B F H ρ σ d Q rs e w i=>?_⟩;exact(h i).choose_spec.2 F0 B F H ρ σ d Q (by rw[hK i];exact rs) e λv F' H' fp x l=>w v F' H' fp x (by rw[←hK i];exact l)
def DO (X:Cx)(ct:Nat->bO)(ms:List Mo)(ifs:List Expr)(f:BF):Prop:=∃t,DL X ifs t/\∀(F0 B F H:Hp) (ρ:Env) (σ:St) (b:Bool) (Q:Bool->Hp->Prop),RS X.K ct F0 B ms F H ρ σ->f ρ=some b->(∀F' H',iZ F H F' H'->Q b H')->t σ H Q
def i7:BF:=λ_=>some true
theorem yh:DO X ct ms [] i7:=⟨_,Yh,λF0 B F H ρ σ b Q rs e w=>by cases e;exact w F H (.refl rs.fh)⟩
theorem xm (h:XT X ct ms c p):DO X ct ms [c] p:=by obtain⟨t,pt,qt⟩:=h;exact⟨t,Yi pt,qt⟩
theorem ztt {Xs:ι->Cx}{f:BF}(hK:∀i,(Xs i).K=K)(h:∀i,DO (Xs i) ct ms ifs f):∃t,(∀i,DL (Xs i) ifs t)/\∀(F0 B F H:Hp) (ρ:Env) (σ:St) (b:Bool) (Q:Bool->Hp->Prop),RS K ct F0 B ms F H ρ σ->f ρ=some b ->
  (∀F' H',iZ F H F' H'->Q b H')->t σ H Q:=by
 refine⟨λσ H Q=>∀i,(h i).choose σ H Q,λi bL s σ H Q I q=>(h i).choose_spec.1 bL s σ H Q I (q i),λF0 B F H ρ σ d Q rs e w i=>?_⟩;exact(h i).choose_spec.2 F0 B F H ρ σ d Q (by rw[hK i];exact rs) e w
def D4 (g:α->St->Hp->(St->Hp->Prop)->Prop):Prop:=∀v σ H Q Q',(∀σ' H',Q σ' H'->Q' σ' H')->g v σ H Q->g v σ H Q'
def Cz (X:Cx)(ct:Nat->bO)(ms:List Mo)(own n:Nat)(tg:Expr)(g:D->Env->Option Env):Prop:=∃t,PG X tg t/\kB own t/\D4 t/\∀(F0 B F H:Hp) (ρ ρ':Env) (σ:St) (d:D) (v:V) (Q:St->Hp->Prop),RS X.K ct F0 B ms F H ρ σ->Al X.K ct F B n d v->g d ρ=some ρ' ->
 (∀σ',RS X.K ct F0 B ms F H ρ' σ'->Q σ' H)->t v σ H Q
theorem ztu {Xs:ι->Cx}{g:D->Env->Option Env}(hK:∀i,(Xs i).K=K)(h:∀i,Cz (Xs i) ct ms own n tg g):∃t,(∀i,PG (Xs i) tg t)/\kB own t/\∀(F0 B F H:Hp) (ρ ρ':Env) (σ:St) (d:D) (v:V) (Q:St->Hp->Prop),RS K ct F0 B ms F H ρ σ->Al K ct F B n d v->g d ρ=some ρ' ->
  (∀σ',RS K ct F0 B ms F H ρ' σ'->Q σ' H)->t v σ H Q:=by
 refine⟨λv σ H Q=>∀i,(h i).choose v σ H Q,λi bL s σ H v u Q I r q=>(h i).choose_spec.1 bL s σ H v u Q I r (q i),λv σ H Q q i=>(h i).choose_spec.2.1 v σ H Q (q i),λF0 B F H ρ ρ' σ d v Q rs l e w i=>?_⟩;exact(h i).choose_spec.2.2.2 F0 B F H ρ ρ' σ d v Q (by rw[hK i];exact rs) (by rw[hK i];exact l) e λσ' r=>w σ' (by rw[←hK i];exact r)
theorem Xa (ho:i<own)(hm:ms[i]?=some (.ow 0))(hN:X.N.Nodup)(hi:X.N[i]?=some x)(hx:Loc X.env.scope x)
  (hf:vL X x:=by walk_at "v2"):Cz X ct ms own 0 (.Name x pos) (gV i):=by
 refine⟨_,P9 hN hi hx hf,Vx i own ho,λv σ H Q Q' m q=>m _ _ q,λF0 B F H ρ ρ' σ d v Q rs l e w=>?_⟩;cases e;exact w _ (rs.set hm (.refl rs.fh) (Ow.zero l) cZ λa z=>(by cases z))
def EY (own:Nat)(g:DM):Prop:=∀v σ H Q,g v σ H Q->g v σ H λσ' H'=>Q σ' H'/\σ'.length = σ.length/\∀i,own<=i->σ'[i]? = σ[i]?
def CU (X:Cx)(ct:Nat->bO)(ms:List Mo)(own n:Nat)(qO:List Expr)(g:List D->Env->Option Env):Prop:=∃t,FK X qO t/\EY own t/\D4 t/\(∀ds ρ ρ',g ds ρ=some ρ'->ds.length=qO.length)/\∀(F0 B F H:Hp) (ρ ρ':Env) (σ:St) (ds:List D) (vs:List V) (Q:St->Hp->Prop),RS X.K ct F0 B ms F H ρ σ->Pr (Al X.K ct F B n) ds vs->g ds ρ=some ρ' ->
 (∀σ',RS X.K ct F0 B ms F H ρ' σ'->Q σ' H)->t vs σ H Q
theorem jg:CU X ct ms own n [] gsNil:=by
 refine⟨_,Qa,λv σ H Q q=>⟨q.1,q.2,rfl,λ_ _=>rfl⟩,λv σ H Q Q' m q=>⟨q.1,m _ _ q.2⟩,λds ρ ρ' e=>?_,λF0 B F H ρ ρ' σ ds vs Q rs l e w=>?_⟩
 ·cases ds with
  |nil=>rfl
  |cons d ds=>cases e
 ·cases l with
  |nil=>cases e;exact⟨rfl,w σ rs⟩
  |cons _ _=>cases e
theorem yf (h1:Cz X ct ms own n tg gg)(h2:CU X ct ms own n qO gs)
  (hs:(eJ (tg::qO) X.env).map (·.2)=lB tg X.env::(eJ qO X.env).map (·.2):=by rfl):CU X ct ms own n (tg::qO) (gsCons gg gs):=by
 obtain⟨t,pt,kt,mt,qt⟩:=h1;obtain⟨t2,pZ,T4,Oq,LF,uO⟩:=h2;refine⟨_,PN pt pZ hs,λvs σ H Q q=>?_,λvs σ H Q Q' m q=>?_,λds ρ ρ' e=>?_,λF0 B F H ρ ρ' σ ds vs Q rs l e w=>?_⟩
 ·obtain⟨v,r,e,q⟩:=q;refine⟨v,r,e,mt _ _ _ _ _ (λσ' H' z=>?_) (kt v σ H _ q)⟩;obtain⟨z1,z2,z3⟩:=z;refine Oq _ _ _ _ _ (λσ2 H2 y=>?_) (T4 r σ' H' Q z1);exact⟨y.1,y.2.1.trans z2,λi hi=>(y.2.2 i hi).trans (z3 i hi)⟩
 ·obtain⟨v,r,e,q⟩:=q;exact⟨v,r,e,mt _ _ _ _ _ (λσ' H' z=>Oq _ _ _ _ _ m z) q⟩
 ·cases ds with
  |nil=>cases e
  |cons d ds=>obtain⟨ρ1,h3,h4⟩:=cx e;rw[b8,b8,LF _ _ _ h4]
 ·cases l with
  |nil=>cases e
  |cons h t'=>obtain⟨ρ1,h3,h4⟩:=cx e;exact⟨_,_,rfl,qt F0 B F H ρ ρ1 σ _ _ _ rs h h3 λσ1 r1=>uO F0 B F H ρ1 ρ' σ1 _ _ _ r1 t' h4 w⟩
theorem Jy {j:Nat}(hc:X.calm=true)(h:CU X ct ms own (n-1) qO gs)(hl:(eJ qO X.env).length=qO.length:=by rfl)(k7:(eJ qO X.env).findIdx? (·.1)=none:=by rfl):Cz X ct ms own n (.Tuple qO j pos) (gT gs):=by
 obtain⟨t,pt,kt,mt,lt,qt⟩:=h;refine⟨_,Q2 (n:=qO.length) hc pt hl k7,λv σ H Q q=>?_,λv σ H Q Q' m q=>?_,λF0 B F H ρ ρ' σ d v Q rs l e w=>?_⟩
 ·obtain⟨a,xs,e,h1,h2,q⟩:=q;exact⟨a,xs,e,h1,h2,kt _ _ _ _ q⟩
 ·obtain⟨a,xs,e,h1,h2,q⟩:=q;exact⟨a,xs,e,h1,h2,mt _ _ _ _ _ m q⟩
 cases d with
 |tup ds=>
  have:∃a vs,v=.ref a/\pA X.K H a vs/\Pr (Al X.K ct F B (n-1)) ds vs:=by
   cases n with
   |zero=>
    have l:Dt X.K ct F (.tup ds) v:=l;cases l with
    |tup q t=>exact⟨_,_,rfl,pA.of (rs.fh _ _ q),t.pr⟩
   |succ n=>
    rcases l with l|l
    ·cases l with
     |tup q t=>exact⟨_,_,rfl,pA.of (rs.fh _ _ q),t.pr.mono λ_ _=>Al.of⟩
    ·cases l with
     |tup q t=>exact⟨_,_,rfl,pA.of (rs.fh _ _ q),t⟩
  obtain⟨a,vs,rfl,ha,hp⟩:=this;exact⟨a,vs,rfl,ha,hp.length.symm.trans (lt _ _ _ e),qt F0 B F H ρ ρ' σ ds vs Q rs hp e w⟩
 |_=>cases e
def eE (ρ:Env)(cap:List Nat):Env:=cap.map λi=>(ρ[i]?).join
noncomputable def ky (ms:List Mo)(cap:List Nat):List Mo:=cap.map λi=>.al (((ms[i]?).map Mo.lv).getD 0)
noncomputable def tQ (g:D->Env->Option Env)(p:BF)(f:EF)(ρ0:Env):List D->Option (List D)
 |[]=>some []
 |d::ds=>(g d ρ0).bind λρ1=>(p ρ1).bind λb=>if b=true then(f ρ1).bind λy=>(tQ g p f ρ0 ds).bind λys=>some (y::ys)else tQ g p f ρ0 ds
noncomputable def eY (fi:Env->Option (List D))(own:Nat)(cap:List Nat)(g:D->Env->Option Env)(p:BF)(f:EF):EF:=λρ=>(fi ρ).bind λds=>if ds.length<=16777216 then(tQ g p f (bW own none++eE ρ cap) ds).bind λys=>some (.lst ys)else none
theorem SL.caps {F B H:Hp}{ms:List Mo}{ρ:Env}{σ:St}(rs:RS K ct F0 B ms F H ρ σ):∀{cap:List Nat},(∀i∈cap,i<ms.length)->SL K ct F H H (ky ms cap) (eE ρ cap) (lH σ cap) []
 |[],_=>.nil
 |i::cap,h=>by
  have ih:=SL.caps rs (cap:=cap) λj hj=>h j (bK _ hj);have hi:i<ms.length:=h i bH;have hm:ms[i]?=some ms[i]:=by simp[hi]
  show SL K ct F H H (.al (((ms[i]?).map Mo.lv).getD 0)::ky ms cap) ((ρ[i]?).join::eE ρ cap) ((σ[i]?).join::lH σ cap) [];cases e:(ρ[i]?).join with
  |none=>exact .no ih
  |some d=>obtain⟨v,hv,l⟩:=rs.get hm (zt e);rw[hv,hm];exact .al l ih
theorem SL.nones {F B H:Hp}{ms LG:List Mo}{ρ:Env}{σ:St}{fp:List bO}(t:SL K ct F B H ms ρ σ fp):∀{om:List Mo},SL K ct F B H (om++ms) (bW om.length none ++ ρ) (bW om.length none ++ σ) fp
 |[]=>t
 |m::om=>.no (SL.nones (LG:=LG) t)
theorem P0 {pos:mE}{c:Prop}
  (B:oJ X scope N own cap) (hc:c) (ho:om.length=own) (e9:∀i∈cap,i<ms.length) (hi:Et X c ct ms n tg iter fi)
  (hg:∀cl C fp s₀ H₀,Cz (nJ X scope cl N C fp s₀ H₀) ct (om++ky ms cap) own n tg gg) (ht:∀cl C fp s₀ H₀,DO (nJ X scope cl N C fp s₀ H₀) ct (om++ky ms cap) ifs p) (he:∀cl C fp s₀ H₀,XO (nJ X scope cl N C fp s₀ H₀) ct (om++ky ms cap) k o8 f)
  :
  ∃wi g tt te,GB X c tg iter wi/\kB own g/\(∀cl C fp s₀ H₀,PG (nJ X scope cl N C fp s₀ H₀) tg g)/\(∀cl C fp s₀ H₀,DL (nJ X scope cl N C fp s₀ H₀) ifs tt)/\(∀cl C fp s₀ H₀,PE (nJ X scope cl N C fp s₀ H₀) o8 te) /\
   ∀(F0 B F H:Hp) (ρ:Env) (σ:St) (d:D) (Q:VK),RS X.K ct F0 B ms F H ρ σ->eY fi own cap gg p f ρ=some d->(∀v F' H' fp,iZ F H F' H'->Ow X.K ct F' H' (k+1) d v fp->fp.Nodup->(∀a∈fp,H a=none)->Q v H')->Ab wi own cap g tt te σ H Q:=by
 obtain⟨wi,pi,qi⟩:=hi;obtain⟨Mc,pg,kg,qg⟩:=ztu (K:=X.K) (Xs:=λz:List (Str×bO)×bO×List bO×bV×Hp=>nJ X scope z.1 N z.2.1 z.2.2.1 z.2.2.2.1 z.2.2.2.2) (λ_=>rfl) (λz=>hg z.1 z.2.1 z.2.2.1 z.2.2.2.1 z.2.2.2.2);obtain⟨tt,pt,qt⟩:=ztt (K:=X.K) (Xs:=λz:List (Str×bO)×bO×List bO×bV×Hp=>nJ X scope z.1 N z.2.1 z.2.2.1 z.2.2.2.1 z.2.2.2.2) (λ_=>rfl) (λz=>ht z.1 z.2.1 z.2.2.1 z.2.2.2.1 z.2.2.2.2);obtain⟨te,pe,qe⟩:=zts (K:=X.K) (Xs:=λz:List (Str×bO)×bO×List bO×bV×Hp=>nJ X scope z.1 N z.2.1 z.2.2.1 z.2.2.2.1 z.2.2.2.2) (λ_=>rfl) (λz=>he z.1 z.2.1 z.2.2.1 z.2.2.2.1 z.2.2.2.2);refine⟨wi,Mc,tt,te,pi,kg,(λcl C fp s₀ H₀=>pg (cl,C,fp,s₀,H₀)),(λcl C fp s₀ H₀=>pt (cl,C,fp,s₀,H₀)),(λcl C fp s₀ H₀=>pe (cl,C,fp,s₀,H₀)),λF0 B F H ρ σ r Q rs e w=>?_⟩;obtain⟨ds,h1,h2⟩:=cx e;by_cases hz:ds.length<=16777216
 case neg=>rw[if_neg hz]at h2;cases h2
 rw[if_pos hz]at h2;obtain⟨ys,h3,h4⟩:=cx h2;cases h4;refine qi F0 B F H ρ σ ds _ rs h1 λJ F1 H1 x1 ok A hA=>?_;have ou:=rs.ext x1;refine⟨λi m us H2=>m=ds.length-i/\i<=ds.length/\us.length<=i/\H2 A=some (.lst us)/\∃F2 yd zd fp,iZ F1 H1 F2 H2/\F2 A=none/\iI (Ow X.K ct F2 H2 k) yd us fp/\fp.Nodup/\(∀a∈fp,H1 a=none/\a≠A)/\tQ gg p f (bW own none++eE ρ cap) (ds.drop i)=some zd/\yd++zd=ys,
  ⟨ds.length,rfl,ej _,b7 _,zo,F1,[],ys,[],iZ.newO x1.fh hA _,x1.fh.free hA,.nil,cZ,λa z=>(by cases z),h3,rfl⟩,?_⟩
 rintro i m us H2 ⟨rfl,EJ,Ll,IJ,F2,yd,zd,fp,x2,fA,ol,nd,hf,mP,Jc⟩;refine⟨IJ,?_⟩;have Uk:=ou.ext x2;obtain⟨k1,k2⟩:=ok i F2 H2 x2.ff x2.hh x2.fh;by_cases oU:i<ds.length
 ·right;have hd:ds[i]?=some ds[i]:=by simp[oU]
  obtain⟨go,yl⟩:=k1 _ hd;rw[ml oU]at mP;obtain⟨ρ1,h5,h6⟩:=cx mP;obtain⟨b,h7,h8⟩:=cx h6;refine⟨go,by rw[dF];omega,λx H3 y=>?_⟩;obtain⟨F3,x3,l⟩:=yl x H3 y;have Ul:=Uk.ext x3;have sl:=SL.nones (LG:=[]) (SL.caps Ul e9) (om:=om);rw[ho]at sl;have Um:RS X.K ct F3 H3 (om++ky ms cap) F3 H3 (bW own none++eE ρ cap) (bW own none++lH σ cap):=⟨.refl _,.refl _,x3.fh,λ_ _ _ _ h=>h,[],sl,cZ,λa z=>(by cases z)⟩;have A3:H3 A=some (.lst us):=x3.hh _ _ IJ;have NL:F3 A=none:=x3.nf A _ IJ nofun fA;refine qg F3 H3 F3 H3 _ ρ1 _ _ x _ Um (l.mono (.refl _) (x2.trans x3).hh) h5 λσ1 r1=>?_;refine qt F3 H3 F3 H3 ρ1 σ1 b _ r1 h7 λF4 H4 x4=>?_;cases b with
  |false=>rw[if_neg cB]at h8 ⊢;have OQ:=x3.trans x4;refine⟨ds.length-(i+1),by omega,rfl,oU,by omega,x4.hh _ _ A3,F4,yd,zd,fp,x2.trans OQ,x4.nf A _ A3 nofun NL,ol.mono λ_ _ _ _ o=>o.ext OQ,nd,hf,h8,Jc⟩
  |true=>
   rw[if_pos rfl]at h8 ⊢;obtain⟨yv,h9,SK⟩:=cx h8;obtain⟨zs,GQ,SO⟩:=cx SK;cases SO;refine qe F3 H3 F4 H4 ρ1 σ1 yv _ (r1.ext x4) h9 λv F5 H5 f5 x5 o5 n5 KY=>?_;have Mf:=(x3.trans x4).trans x5;have OR:=x4.trans x5;have A5:H5 A=some (.lst us):=OR.hh _ _ A3;have NM:F5 A=none:=OR.nf A _ A3 nofun NL;have A4:H4 A=some (.lst us):=x4.hh _ _ A3;have NQ:∀a∈f5,a≠A:=λa z e=>by rw[e]at z;rw[KY A z]at A4;cases A4
   refine⟨A5,ds.length-(i+1),by omega,rfl,oU,by rw[cn,cV];omega,zo,F5,yd++[yv],zs,fp++(f5++[]),?_,NM,?_,?_,?_,GQ,by rw[fL];exact Jc⟩
   ·have Jr:=x2.trans Mf;refine⟨Jr.ff,λa o h=>?_,λa o h=>?_,Jr.nf⟩
    ·rw[zj (zl h hA)];exact Jr.hh _ _ h
    ·rw[zj (λz=>by rw[z]at h;rw[NM]at h;cases h)];exact Jr.fh _ _ h
   ·refine(ol.mono λ_ _ f S5 o=>?_).append (.cons ?_ .nil)
    ·refine(o.ext Mf).frame (.refl _) λa z=>⟨zj (hf a (S5 a z)).2,((o.ext Mf).cells a z).1⟩
    ·exact o5.frame (.refl _) λa z=>⟨zj (NQ a z),(o5.cells a z).1⟩
   ·rw[cP];refine cF.mpr ⟨nd,n5,λa z c hc e=>?_⟩;subst e;have:∃o,H2 a=some o:=let⟨o,h,_⟩:=(iI.cellsOf ol a z).2;⟨o,h⟩;obtain⟨o,ho⟩:=this;have:=x4.hh _ _ (x3.hh _ _ ho);rw[KY a hc]at this;cases this
   ·intro a z;rw[cP]at z;rcases cA.mp z with z|z
    ·exact hf a z
    ·refine⟨?_,NQ a z⟩;have UF:=x2.trans (x3.trans x4);exact UF.hh.free (KY a z)
 ·left;refine⟨k2 (by omega),?_⟩
  have:ds.drop i=[]:=nE (by omega);rw[this]at mP;cases mP;rw[cP]at Jc;subst Jc;refine w _ F2 H2 (A::fp) (x1.trans x2) (.inr (.lst fA IJ ol)) (cW.mpr ⟨λz=>(hf A z).2 rfl,nd⟩) λa z=>?_;rcases bY.mp z with rfl|z
  ·exact x1.hh.free hA
  ·exact x1.hh.free (hf a z).1
theorem Y2 {c:Prop}
  (B:oJ X scope N own cap) (hc:c) (ho:om.length=own) (e9:∀i∈cap,i<ms.length) (hi:Et X c ct ms n tg iter fi)
  (hg:∀cl C fp s₀ H₀,Cz (nJ X scope cl N C fp s₀ H₀) ct (om++ky ms cap) own n tg gg) (ht:∀cl C fp s₀ H₀,DO (nJ X scope cl N C fp s₀ H₀) ct (om++ky ms cap) ifs p) (he:∀cl C fp s₀ H₀,XO (nJ X scope cl N C fp s₀ H₀) ct (om++ky ms cap) k o8 f)
  (hs:Bs X iter:=by intro _;rfl):XO X ct ms (k+1) (.ListComp o8 [⟨tg,iter,ifs,0⟩] scope pos) (eY fi own cap gg p f):=by
 obtain⟨wi,g,tt,te,pi,kg,pg,pt,pe,q⟩:=P0 (k:=k) (pos:=pos) B hc ho e9 hi hg ht he;exact⟨_,Yj B hc pi kg pg pt pe hs,q⟩
variable {lo:Int}{pt:mE}
def GH:D->Option (List D)
 |.lst ds=>some ds
 |_=>none
theorem P1 (h:GH d=some ds):d=.lst ds:=by cases d<;>simp[GH]at h;subst h;rfl
def lsD (f:EF):Env->Option (List D):=λρ=>(f ρ).bind GH
theorem Rm {G:Hp}{a:bO}{vs:List V}(hp:Pr (Al K ct F B n) ds vs)(keep:∀F' H',c9 F F'->c9 B H'->c9 F' H'->jU K H' a vs):Bt K ct F B n (JZ K a) ds:=by intro i F' H' s1 s2 s3;have hs:jU K H' a vs:=keep F' H' s1 s2 s3;refine⟨λd hd=>?_,λhl=>⟨vs,hs,by rw[←hp.length];exact hl⟩⟩;obtain⟨v,hv,l⟩:=hp.get' hd;refine⟨⟨vs,v,hs,hv⟩,λx H2 y=>?_⟩;obtain⟨e,y⟩:=y;subst e;have:=y vs hs;rw[hv]at this;cases this;exact⟨F',.refl s3,l.mono s1 (.refl _)⟩
theorem Dt.lst_inv {v:V}(h:Dt K ct F (.lst ds) v):∃a vs,v=.ref a/\jU K F a vs/\Dts K ct F ds vs:=by
 cases h with
 |lst q t=>exact⟨_,_,rfl,q,t⟩
theorem yz (he:XE X ct ms 0 e f):XI X ct ms 0 tg e (lsD f):=by obtain⟨t,pt,qt⟩:=he;refine⟨_,Qk pt,λF0 B F H ρ σ ds R rs e w=>?_⟩;obtain⟨d,h1,h2⟩:=cx e;rw[P1 h2]at h1;refine qt F0 B F H ρ σ _ _ rs h1 λv F' H' x l=>?_;obtain⟨a,vs,rfl,ha,hp⟩:=Dt.lst_inv l;exact⟨a,rfl,⟨vs,x.fh.seq ha⟩,w _ F' H' x (Rm (G:=H') (n:=0) (hp.pr) λF2 H2 s1 s2 s3=>s3.seq (s1.seq ha))⟩
theorem yb (he:XE X ct ms n e f):Er X ct ms (n-1) tg e (lsD f):=by obtain⟨t,pt,qt⟩:=he;refine⟨_,Qk pt,λF0 B F H ρ σ ds R rs e w=>?_⟩;obtain⟨d,h1,h2⟩:=cx e;rw[P1 h2]at h1;refine qt F0 B F H ρ σ _ _ rs h1 λv F' H' x l=>?_;obtain⟨a,vs,rfl,ha,hp⟩:=l.lst x.fh;exact⟨a,rfl,⟨vs,ha⟩,w _ F' H' x (Rm (G:=H') hp λF2 H2 s1 s2 s3=>s2.seq ha)⟩
theorem XI.cc (h:XI X ct ms n tg e fi):Er X ct ms n tg e fi:=by obtain⟨t,pt,qt⟩:=h;refine⟨t,pt,λF0 B F H ρ σ ds R rs e w=>qt F0 B F H ρ σ ds R rs e λJ F' H' x ok=>w J F' H' x λi F2 H2 s1 s2 s3=>?_⟩;obtain⟨k1,k2⟩:=ok i F2 H2 s1 ((rs.ext x).bh.trans s2) s3;refine⟨λd hd=>?_,k2⟩;obtain⟨go,yl⟩:=k1 d hd;refine⟨go,λv H3 y=>?_⟩;obtain⟨F3,x3,l⟩:=yl v H3 y;exact⟨F3,x3,l.mono (.refl _) (rs.ext x).bh⟩
def iT (lo:Int)(j:Nat):List D:=(bR j).map λ(t:Nat)=>.int (lo+(t:Int))
noncomputable def kT:List D->Option (List D)
 |[.int j]=>if -4611686018427387904<=j/\j<4611686018427387904 then some (iT 0 j.toNat)else none
 |_=>none
noncomputable def AG:List D->Option (List D)
 |[.int i,.int j]=>if -4611686018427387904<=i/\i<4611686018427387904/\-4611686018427387904<=j/\j<4611686018427387904 then some (iT i (j-i).toNat)else none
 |_=>none
theorem Rn {j:Nat}:Bt K ct F B n (Gv lo j) (iT lo j):=by
 intro i F' H' s1 s2 s3;unfold iT;refine⟨λd hd=>?_,λhl=>(show j<=i by simpa using hl)⟩;rw[cu]at hd;by_cases h:i<j
 ·rw[eQ h]at hd;cases hd;refine⟨h,λx H2 y=>?_⟩;obtain⟨e,y⟩:=y;subst e;subst y;exact⟨F',.refl s3,Al.of (.int _)⟩
 ·rw[nR (by simpa using h)]at hd;cases hd
theorem zy (hm:X.mg "range"=none)(ha:XA X ct ms [a] [m] fs)(hg:Gl X "range":=by rfl)(hs:SN X a:=by rfl):XI X ct ms n tg (.Call (.Name "range" pp) [a] [] pos) (λρ=>(fs ρ).bind kT):=by
 obtain⟨t,pt,_,qt⟩:=ha;refine⟨_,VL hg hm pt hs,λF0 B F H ρ σ ds R rs e w=>?_⟩;obtain⟨uF,h1,h2⟩:=cx e;refine qt F0 B F H ρ σ _ _ rs h1 λvs F' H' x l=>?_;cases l with
 |cons h t=>
  cases t;rename_i d v;cases d with
  |int j=>
   unfold kT at h2;dsimp only at h2;by_cases hj:-4611686018427387904<=j/\j<4611686018427387904
   ·rw[if_pos hj]at h2;cases h2;exact⟨j,by rw[h.int],by omega,by omega,w _ F' H' x Rn⟩
   ·rw[if_neg hj]at h2;cases h2
  |_=>cases h2
theorem Wd {m':Nat}(hm:X.mg "range"=none)(ha:XA X ct ms [a,b] [m,m'] fs)(hg:Gl X "range":=by rfl)(hs:cT [a,b] X.env=[(false,dR a X.env),(false,dR b X.env)]:=by rfl)(rS:SN X b:=by rfl):XI X ct ms n tg (.Call (.Name "range" pp) [a,b] [] pos) (λρ=>(fs ρ).bind AG):=by
 obtain⟨t,pt,_,qt⟩:=ha;refine⟨_,VM hg hm pt hs rS,λF0 B F H ρ σ ds R rs e w=>?_⟩;obtain⟨uF,h1,h2⟩:=cx e;refine qt F0 B F H ρ σ _ _ rs h1 λvs F' H' x l=>?_;cases l with
 |cons h t=>
  cases t with
  |cons h' t=>
   cases t;rename_i d v d' v';cases d with
   |int i=>
    cases d' with
    |int j=>
     unfold AG at h2;dsimp only at h2;by_cases hj:-4611686018427387904<=i/\i<4611686018427387904/\-4611686018427387904<=j/\j<4611686018427387904
     ·rw[if_pos hj]at h2;cases h2;exact⟨i,j,by rw[h.int,h'.int],⟨by omega,by omega,by omega,by omega⟩,w _ F' H' x Rn⟩
     ·rw[if_neg hj]at h2;cases h2
    |_=>cases h2
   |_=>cases h2
noncomputable def hE (i:Nat):List D->List D
 |[]=>[]
 |d::ds=>.tup [.int i,d]::hE (i+1) ds
theorem j4:∀{ds:List D} {j i:Nat} {d:D},(hE j ds)[i]?=some d->∃x,ds[i]?=some x/\d=.tup [.int (j+i:Nat),x]
 |[],_,_,_,h=>by simp[hE]at h
 |x::ds,j,0,d,h=>by simp[hE]at h;subst h;exact⟨x,rfl,rfl⟩
 |x::ds,j,i+1,d,h=>by obtain⟨y,h1,h2⟩:=j4 (ds:=ds) (j:=j+1) (i:=i) (d:=d) (by simpa[hE]using h);exact⟨y,by simpa using h1,by rw[h2,Nat.add_assoc,Nat.add_comm 1 i]⟩
theorem Pk:∀{ds:List D} {j:Nat},(hE j ds).length=ds.length
 |[],_=>rfl
 |_::ds,j=>by simp[hE,Pk (ds:=ds)]
theorem Ro {a:bO}{vs:List V}(hp:Pr (Al K ct F B n) ds vs)(keep:∀F' H',c9 F F'->c9 B H'->c9 F' H'->jU K H' a vs):Bt K ct F B (n+1) (JY K a) (hE 0 ds):=by intro i F' H' s1 s2 s3;have hs:jU K H' a vs:=keep F' H' s1 s2 s3;refine⟨λd hd=>?_,λhl=>⟨vs,hs,by rw[←hp.length];rw[Pk]at hl;exact hl⟩⟩;obtain⟨x,hx,rfl⟩:=j4 hd;obtain⟨v,hv,l⟩:=hp.get' hx;refine⟨⟨vs,v,hs,hv⟩,λz H2 y=>?_⟩;obtain⟨r,y',hr,rfl,rfl,y⟩:=y;have:=y vs hs;rw[hv]at this;cases this;refine⟨_,iZ.newS s3 hr _,.inr (.tup zo (.cons (Al.of ?_) (.cons (l.mono (s1.trans (xl (s3.free hr) _)) (.refl _)) .nil)))⟩;rw[Nat.zero_add];exact .int _
theorem Qu {vM:List Expr}{kt:Nat}(hm:X.mg "enumerate"=none)(ha:XA X ct ms [a] [0] fs)(hg:Gl X "enumerate":=by rfl)(hs:SN X a:=by rfl) :
  XI X ct ms 1 (.Tuple vM kt pt) (.Call (.Name "enumerate" pp) [a] [] pos) (λρ=>(fs ρ).bind λds=>match ds with|[.lst xs]=>some (hE 0 xs)|_=>none):=by
 obtain⟨t,pt,_,qt⟩:=ha;refine⟨_,Qi hg hm pt hs,λF0 B F H ρ σ ds R rs e w=>?_⟩;obtain⟨uF,h1,h2⟩:=cx e;refine qt F0 B F H ρ σ _ _ rs h1 λvs F' H' x l=>?_;cases l with
 |cons h t=>
  cases t;rename_i d v;cases d with
  |lst xs=>cases h2;obtain⟨a,vs,rfl,ha,hp⟩:=Dt.lst_inv h;exact⟨a,rfl,⟨vs,x.fh.seq ha⟩,w _ F' H' x (Ro (n:=0) hp.pr λF2 H2 s1 s2 s3=>s3.seq (s1.seq ha))⟩
  |_=>cases h2
theorem P2 {vM:List Expr}{kt:Nat}(hm:X.mg "enumerate"=none)(ha:XA X ct ms [a] [n] fs)(hg:Gl X "enumerate":=by rfl)(hs:SN X a:=by rfl) :
  Er X ct ms (n-1+1) (.Tuple vM kt pt) (.Call (.Name "enumerate" pp) [a] [] pos) (λρ=>(fs ρ).bind λds=>match ds with|[.lst xs]=>some (hE 0 xs)|_=>none):=by
 obtain⟨t,pt,_,qt⟩:=ha;refine⟨_,Qi hg hm pt hs,λF0 B F H ρ σ ds R rs e w=>?_⟩;obtain⟨uF,h1,h2⟩:=cx e;refine qt F0 B F H ρ σ _ _ rs h1 λvs F' H' x l=>?_;cases l with
 |cons h t=>
  cases t;rename_i d v;cases d with
  |lst xs=>cases h2;obtain⟨a,vs,rfl,ha,hp⟩:=h.lst x.fh;exact⟨a,rfl,⟨vs,ha⟩,w _ F' H' x (Ro hp λF2 H2 s1 s2 s3=>s2.seq ha)⟩
  |_=>cases h2
variable {ad:bO}{d':D}{p1:mE}
theorem Ow.lst_inv {v:V}(h:Ow K ct F H (k+1) (.lst ds) v fp):∃a vs fr,v=.ref a/\fp=a::fr/\F a=none/\H a=some (.lst vs)/\iI (Ow K ct F H k) ds vs fr:=by
 rcases h with⟨h,_⟩|h
 ·cases h
 ·cases h with
  |lst h1 h2 h3=>exact⟨_,_,_,rfl,rfl,h1,h2,h3⟩
theorem Ow.dK_inv {v:V}(h:Ow K ct F H (k+1) (.dK ks ds) v fp):∃a vs fr,v=.ref a/\fp=a::fr/\F a=none/\H a=some (.dK (ks.zip vs))/\ks.length=vs.length/\iI (Ow K ct F H k) ds vs fr:=by
 rcases h with⟨h,_⟩|h
 ·cases h
 ·cases h with
  |dK h1 h2 h3 h4=>exact⟨_,_,_,rfl,rfl,h1,h2,h3,h4⟩
theorem Ow.dT_inv {ks:List (List ko)}{v:V}(h:Ow K ct F H (k+1) (.dT ks ds) v fp):∃a vs fr,v=.ref a/\fp=a::fr/\F a=none/\H a=some (.dT (ks.zip vs))/\ks.length=vs.length/\iI (Ow K ct F H k) ds vs fr:=by
 rcases h with⟨h,_⟩|h
 ·cases h
 ·cases h with
  |dT h1 h2 h3 h4=>exact⟨_,_,_,rfl,rfl,h1,h2,h3,h4⟩
theorem RS.change {v:V}{f1 fr fn:List bO}{o:HO}(rs:RS K ct F0 B ms F H ρ σ)(hm:ms[i]?=some (.ow k))(x:iZ F H F' H')
  (hσ:σ[i]?=some (some v)) (b1:∀a∈f1,B a=none) (dj:∀a∈f1,a∉fr) (cf:∀a∈fr,F a=none/\∃o,H a=some o/\ng o)
  (put:∀(F' H':Hp) (d':D) (v':V) (f':List bO),c9 F F'->c9 B H'->c9 F' H'->(∀a o,B a=some o->ng o->F0 a=none->F' a=none)->(∀a∈fr,H' a=H a/\F' a=none)->Ow K ct F' H' k d' v' f'->f'.Nodup->(∀a∈f',a∉fr)->(∀a∈f',B a=none) ->
    RS K ct F0 B ms F' H' (ρ.set i (some d')) (σ.set i (some v')))
  (qH:ad∈f1) (Ke:F' ad=none) (o':Ow K ct F' (upd H' ad o) k d' v fn) (nd:fn.Nodup) (A9:∀a∈fn,a∈f1\/H a=none):RS K ct F0 B ms F' (upd H' ad o) (ρ.set i (some d')) σ:=by
 have r:=rs.ext x;have hB:B ad=none:=b1 ad qH;have res:=put F' (upd H' ad o) d' v fn x.ff (λz u h=>by rw[zj (λe=>by rw[e,hB]at h;cases h)];exact r.bh _ _ h) (λz u h=>by rw[zj (λe=>by rw[e,Ke]at h;cases h)];exact x.fh _ _ h) r.nf
  (λz hz=>by obtain⟨hn,o,ho,nt⟩:=cf z hz;refine⟨?_,x.nf z o ho nt hn⟩;have ne:z≠ad:=λe=>dj ad qH (by rw[←e];exact hz);rw[zj ne];exact(x.hh _ _ ho).trans ho.symm) o' nd
  (λz hz zr=>by
   rcases A9 z hz with h|h
   ·exact dj z h zr
   ·obtain⟨_,o,ho,nt⟩:=cf z zr;rw[h]at ho;cases ho)
  (λz hz=>(A9 z hz).elim (b1 z) λh=>rs.bh.free h)
 have e:σ.set i (some v) = σ:=by
  apply mC;intro j;by_cases hj:i=j
  ·subst hj;rw[nF (by have:=bZ.mp hσ;exact this.1),hσ]
  ·rw[eG hj]
 rw[e]at res;exact res
noncomputable def sApp (i:Nat)(f:EF):SF:=λρ=>(eV i ρ).bind λo=>(f ρ).bind λd=>match o with
 |.lst ds=>if ds.length<16777216 then some (.nx (ρ.set i (some (.lst (ds++[d])))))else none
 |_=>none
theorem xo (i:Nat)(hm:ms[i]?=some (.ow (k+1)))(he:XO X ct ms k e f)(hN:X.N[i]?=some x:=by rfl)(hv:vD X.env.scope x:=by walk_at "v1")(hd:lS x:=by decide)
  (mP:xD x:=by decide) (k7:SE X e []:=by rfl)
  (rQ:nO (.Name x p1) "append" X.env (dR (.Name x p1) X.env)=dR (.Name x p1) X.env:=by rfl)
  (yA:Ip X fW [e]:=by rfl)
  (rR:(fK.endLine==fW.line)=true:=by rfl) (oV:pV X fW []:=by rfl)
  (BV:gq (.Call (.Attribute (.Name x p1) "append" fK) [e] [] fW) none pos.line X.env=pure false:=by rfl) :
  XS X ct ms rk (.Expr (.Call (.Attribute (.Name x p1) "append" fK) [e] [] fW) pos) (sApp i f):=by
 obtain⟨t,pt,qt⟩:=he;refine⟨_,jp (JR PySem.F.plainAttrs_list PySem.F.slot_list_append PySem.F.type_list_append jv (yp hN hv hd mP) (z9 pt xn k7) rQ yA rR k7 oV) BV,λF0 B F H ρ σ o E rs e z=>?_⟩;obtain⟨d1,d2,h1,h2,h3⟩:=fJ e;obtain⟨f1,fr,n1,b1,dj,i4,cf,put⟩:=rs.put (F':=F) (H':=H) hm;obtain⟨v,hσ,ow⟩:=i4 d1 (zt h1);refine⟨v,hσ,?_⟩;cases d1 with
 |lst ds=>
  dsimp only at h3;by_cases hz:ds.length<16777216
  ·rw[if_pos hz]at h3;cases h3;obtain⟨ad,vs,vF,rfl,rfl,hF,hH,ol⟩:=ow.lst_inv;refine⟨.inl ⟨rfl,_,jU.of hH⟩,qt F0 B F H ρ σ d2 _ rs h2 λv2 F' H' fp x1 o2 Hy KW=>?_⟩;have hA:H' ad=some (.lst vs):=x1.hh _ _ hH;have fA:F' ad=none:=x1.nf ad _ hH nofun hF;have nA:∀a∈fp,a≠ad:=λa hz e=>by rw[e]at hz;rw[KW ad hz]at hH;cases hH
   have Gc:=cW.mp n1;refine⟨ad,vs,v2,rfl,rfl,hA,by rw[←ol.length,dF];exact hz,?_⟩;refine z σ F' _ (rs.change hm x1 hσ b1 dj cf put bH fA (.inr (.lst fA zo ((ol.mono λ_ _ f' hi o'=>?_).append (.cons (f:=fp) ?_ .nil)))) (fn:=ad::(vF++(fp++[]))) ?_ ?_)
   ·refine(o'.ext x1).frame (.refl _) λa ha=>⟨zj λe=>Gc.1 (e▸hi a ha),((o'.ext x1).cells a ha).1⟩
   ·exact o2.frame (.refl _) λa ha=>⟨zj (nA a ha),(o2.cells a ha).1⟩
   ·rw[cP];refine cW.mpr ⟨λhz=>?_,cF.mpr ⟨Gc.2,Hy,λa ha b hb e=>?_⟩⟩
    ·rcases cA.mp hz with hz|hz
     ·exact Gc.1 hz
     ·exact nA ad hz rfl
    ·subst e;obtain⟨_,o,ho,_⟩:=iI.cellsOf ol a ha;rw[KW a hb]at ho;cases ho
   ·intro a ha;rw[cP]at ha;rcases bY.mp ha with rfl|ha
    ·exact .inl bH
    ·rcases cA.mp ha with ha|ha
     ·exact .inl (bK _ ha)
     ·exact .inr (KW a ha)
  ·rw[if_neg hz]at h3;cases h3
 |_=>cases h3
noncomputable def pL (ds:List D)(i:Int)(d:D):Option (List D):=(ixN ds.length i).bind λj=>some (ds.set j d)
noncomputable def jD [DecidableEq κ](ks:List κ)(ds:List D)(k:κ)(d:D):List κ×List D:=if ks.contains k=true then(ks,(ks.zip ds).map λp=>if p.1=k then d else p.2)else(ks++[k],ds++[d])
noncomputable def vZ (i:Nat)(fj f:EF):SF:=λρ=>(f ρ).bind λd=>(eV i ρ).bind λo=>(fj ρ).bind λj=>match o,j with
 |.lst ds,.int z=>(pL ds z d).bind λuF=>some (.nx (ρ.set i (some (.lst uF))))
 |_,_=>none
theorem iI.set0 {R:D->V->List bO->Prop}{d:D}{v:V}(r:R d v [])(z:∀d v f,R d v f->f=[]):∀{ds:List D} {vs:List V} {fp:List bO} (i:Nat),iI R ds vs fp->iI R (ds.set i d) (vs.set i v) []
 |_,_,_,_,.nil=>.nil
 |_,_,_,0,.cons h t=>by have:=iI.cons (f:=[]) (g:=[]) r (iI.ofPr (t.pr λd v f _ q=>by have:=z _ _ _ q;subst this;exact q));exact this
 |_,_,_,i+1,.cons h t=>by have e:=z _ _ _ h;subst e;exact iI.cons (f:=[]) (g:=[]) h (iI.set0 r z i t)
theorem Ow.nil0 {v:V}(h:Ow K ct F H 0 d v fp):fp=[]:=h.2
theorem iI.nil0 {vs:List V}(h:iI (Ow K ct F H 0) ds vs fp):fp=[]:=by
 induction h with
 |nil=>rfl
 |cons h t ih=>rw[h.nil0,ih];rfl
variable {l:bO}{s:bV}{y:Str}
theorem LD {bL:List (bO×gF)}{xs:List V}(I:Inv X bL σ H s)(hH:Rd H l (.lst xs)):xs.length<=sizeLine/\∃(dJ:List bJ) (n:Nat),dm xs dJ/\xs.length=dJ.length/\s.heap.get? l=some { cls:=.type "list",data:=.seq dJ.toArray n }:=by obtain⟨z,dJ,n,r,e⟩:=hH.ok I.hok;exact⟨z,dJ,n,r,r.length,e⟩
noncomputable def D7 (K:bM):R2:=λx y H Q=>∃l b xs zs,x=.ref l/\y=.ref b/\jU K H l xs/\jU K H b zs/\xs.length+zs.length<=sizeLine/\∀p,H p=none->Q (.ref p) (upd H p (.lst (xs++zs)))
theorem Y3:kN X (gC .Add) (D7 X.K):=by
 intro bL s σ H x y v u Q I rx ry h;obtain⟨l,b,xs,zs,rfl,rfl,hH,hB,hz,q⟩:=h;cases rx;cases ry;obtain⟨dJ,r,⟨⟨cls,dd,data,sl⟩,n,e,c1,c2,c3⟩,z⟩:=I.list hH;obtain⟨Dd,r2,⟨⟨J5,IA,data2,Fh⟩,n2,e2,c4,c5,c6⟩,z2⟩:=I.list hB;simp only at c1 c3 c4 c6;subst c1 c3 c4 c6;have hl:=r.length;have DX:=r2.length;refine AW ⟨_,e,rfl⟩ ⟨_,e2,rfl⟩ noFill_list_add seq_list_add PySem.F.slot_list_add PySem.F.entry_list_add (PySem.F.args_list_add_2 _ _) (list_addW l b dJ.toArray Dd.toArray n n2 dd IA sl Fh (by rw[cv,cv];omega)) ⟨e,e2,?_⟩;have ea:dJ.toArray++Dd.toArray=(dJ++Dd).toArray:=by simp
 rw[ea];exact⟨.ref _,_,I.lnew (t':=s.toks) (r.append r2) (by rw[cn];omega),rfl,q _ I.fresh⟩
noncomputable def HF:R2:=λx y H Q=>∃i j,x=.str i/\y=.str j/\i.length+j.length<=sizeLine/\Q (.str (i++j)) H
noncomputable def E7 (K:bM):R2:=λx y H Q=>xH (λi j=>.int (i+j)) x y H Q\/HF x y H Q\/D7 K x y H Q\/D8 K x y H Q
theorem Y4:kN X (gC .Add) (E7 X.K):=kN.or zqx (kN.or Vp (kN.or Y3 Yz))
noncomputable def gb:D->D->Option D
 |.int i,.int j=>some (.int (i+j))
 |.str x,.str y=>if x.length+y.length<=16777216 then some (.str (x++y))else none
 |.lst xs,.lst ys=>if xs.length+ys.length<=16777216 then some (.lst (xs++ys))else none
 |.tup xs,.tup ys=>if xs.isEmpty=false/\ys.isEmpty=false/\xs.length+ys.length<=1000000 then some (.tup (xs++ys))else none
 |_,_=>none
theorem Pr.ow0 {vs:List V}(h:Pr (Al K ct F G 0) ds vs):iI (Ow K ct F H 0) ds vs []:=iI.ofPr (h.mono λ_ _ q=>⟨q,rfl⟩)
theorem Al.lst1 {v:V}(hn:n<=1)(h:Al K ct F G n (.lst ds) v)(s:c9 F G):∃a vs,v=.ref a/\jU K G a vs/\Pr (Al K ct F G 0) ds vs:=by
 obtain⟨a,vs,e,h1,h2⟩:=h.lst s;have:n-1=0:=by omega
 rw[this]at h2;exact⟨a,vs,e,h1,h2⟩
theorem Al.tup1 {v:V}(hn:n<=1)(h:Al K ct F G n (.tup ds) v)(s:c9 F G):∃a vs,v=.ref a/\G a=some (.tup vs)/\Pr (Al K ct F G 0) ds vs:=by
 obtain⟨a,vs,e,h1,h2⟩:=h.tup s;have:n-1=0:=by omega
 rw[this]at h2;exact⟨a,vs,e,h1,h2⟩
theorem vn {vs:List V}{Q:VK}(s:c9 F H)(hp:Pr (Al K ct F H 0) ds vs)(w:∀v F' H' fp,iZ F H F' H'->Ow K ct F' H' 1 (.lst ds) v fp->fp.Nodup->(∀a∈fp,H a=none)->Q v H'):∀p,H p=none->Q (.ref p) (upd H p (.lst vs)):=λp h0=>by obtain⟨o,nd⟩:=Qj s (hp.ow0 (H:=H)) h0;exact w _ F _ [p] (iZ.newO s h0 _) o (nd cZ) λa z=>by rw[bU]at z;subst z;exact h0
theorem Y5 (hn:n<=1)(hm:m<=1):Gy K ct n m 1 (E7 K) gb:=by
 intro F H x y d1 d2 d Q s l1 l2 e w;have ws:∀d v,d.sc=true->Dt K ct F d v->(∀v F' H' fp,iZ F H F' H'->Ow K ct F' H' 1 d v fp->fp.Nodup->(∀a∈fp,H a=none)->Q v H')->Q v H:=λd v hs hd w=>w v F H [] (.refl s) (Ow.scal hd hs) cZ λa z=>(by cases z);cases d1 with
 |int i=>
  cases d2 with
  |int j=>cases e;exact .inl ⟨i,j,l1.int,l2.int,ws _ _ rfl (.int _) w⟩
  |_=>cases e
 |str i=>
  cases d2 with
  |str j=>
   unfold gb at e;dsimp only at e;by_cases hz:i.length+j.length<=16777216
   ·rw[if_pos hz]at e;cases e;exact .inr (.inl ⟨i,j,l1.str,l2.str,by rw[dF];exact hz,ws _ _ rfl (.str _) w⟩)
   ·rw[if_neg hz]at e;cases e
  |_=>cases e
 |lst xs=>
  cases d2 with
  |lst ys=>
   unfold gb at e;dsimp only at e;by_cases hz:xs.length+ys.length<=16777216
   ·rw[if_pos hz]at e;cases e;obtain⟨a,vs,rfl,ha,hp⟩:=Al.lst1 hn l1 s;obtain⟨b,us,rfl,hb,hq⟩:=Al.lst1 hm l2 s;exact .inr (.inr (.inl ⟨a,b,vs,us,rfl,rfl,ha,hb,by rw[←hp.length,←hq.length,dF];exact hz,vn s (hp.append hq) w⟩))
   ·rw[if_neg hz]at e;cases e
  |_=>cases e
 |tup xs=>
  cases d2 with
  |tup ys=>
   unfold gb at e;dsimp only at e;by_cases hz:xs.isEmpty=false/\ys.isEmpty=false/\xs.length+ys.length<=1000000
   ·rw[if_pos hz]at e;cases e;obtain⟨a,vs,rfl,ha,hp⟩:=Al.tup1 hn l1 s;obtain⟨b,us,rfl,hb,hq⟩:=Al.tup1 hm l2 s;have hl:=hp.length;have DX:=hq.length;have e1:vs≠[]:=λz=>by rw[z]at hl;have:=vB.mp hl;rw[this]at hz;exact absurd hz.1 (by decide)
    have e2:us≠[]:=λz=>by rw[z]at DX;have:=vB.mp DX;rw[this]at hz;exact absurd hz.2.1 (by decide)
    refine .inr (.inr (.inr ⟨a,b,vs,us,rfl,rfl,pA.of ha,pA.of hb,e1,by rw[←hl,←DX,dF];omega,λz=>absurd z e2,λ_ p h0=>?_⟩));have x2:=iZ.newS s h0 (.tup (vs++us));exact w _ _ _ [] x2 (.inr (.tup zo (iI.ofPr ((hp.append hq).mono λ_ _ q=>⟨Dt.mono x2.ff q,rfl⟩)))) cZ λa z=>(by cases z)
   ·rw[if_neg hz]at e;cases e
  |_=>cases e
 |_=>cases e
noncomputable def HL:R2:=λx y H Q=>∃l k xs,x=.ref l/\y=.int k/\Rd H l (.lst xs)/\-(2 ^ 63)<=k/\k<2 ^ 63/\xs.length*k.toNat<=sizeLine /\
 ∀p,H p=none->Q (.ref p) (upd H p (.lst (bW k.toNat xs).flatten))
theorem Y6:kN X (gC .Mult) HL:=by
 intro bL s σ H x y v u Q I rx ry h;obtain⟨l,k,xs,rfl,rfl,hH,h1,h2,hz,q⟩:=h;cases rx;obtain⟨t,rfl⟩:=ry;obtain⟨z,dJ,n,r,hl,e⟩:=LD I hH;have eP:dJ.toArray.size*k.toNat<=sizeLine:=by rw[cv,←hl];exact hz
 have e9:¬dJ.toArray.size*k.toNat > (2 ^ 63-1)/8:=by
  have:(sizeLine:Nat)<=(2 ^ 63-1)/8:=by decide
  omega
 have KZ:¬(!er.List.listFitsIndex k)=true:=by rw[fitsIndex_both h1 h2];exact cB
 have G8:¬er.List.listTooLong (dJ.toArray.size*k.toNat)=true:=by rw[B3 eP];exact cB
 have Ld:Aj (λx1 x2=>x1++x2) #[] (bW (if dJ.toArray.isEmpty=true then 0 else k.toNat) dJ.toArray)=(bW k.toNat dJ).flatten.toArray:=by
  have f0:∀m:Nat,Aj (λx1 x2=>x1++x2) #[] (bW m dJ.toArray)=(bW m dJ).flatten.toArray:=λm=>by have:=foldl_rep dJ m [];rw[Ct]at this;exact this
  rw[f0];cases dJ with
  |nil=>simp
  |cons a r'=>rw[if_neg (by simp)]
 refine wpAny_binaryOp_repeat_ref (T:="list") (U:="int") (by decide) ⟨_,e,rfl⟩ (λs'=>DH s' k t) noFill_list_mul F.fills_int_mul F.slot_int_rmul repeat_list F.slot_int_index.lookup
  (rA F.slot_int_rmul (DH s k t) F.entry_int_rmul (F.args_int_rmul_2 _ _) (int___rmul___int_list k t l dJ.toArray n)
   ⟨e,rfl,⟨_,e,rfl⟩,rA F.slot_list_mul ⟨_,e,rfl⟩ F.entry_list_mul (F.args_list_mul_2 _ _) (AutoListH.list___mul___list_int_3 l dJ.toArray n k t KZ e9 G8) ⟨e,?_⟩⟩)
 rw[Ld];exact⟨.ref _,_,I.lnew (t':=s.toks) (r.rep k.toNat) (by rw[YB,Nat.mul_comm];exact hz),rfl,q _ I.fresh⟩
theorem Xb:rD K ct n m k (rI tM λi j=>.int (i*j)) fD:=YW
noncomputable def p3:D->D->Option D
 |.lst xs,.int j=>if -1000000<j/\j<1000000/\xs.length<=16 then some (.lst (bW j.toNat xs).flatten)else none
 |_,_=>none
theorem JP (ha:XO X ct ms 1 a f)(hb:XE X ct ms m b g):XO X ct ms 1 (.BinOp a .Mult b pos) (e2 p3 f g):=by
 obtain⟨ta,pa,qa⟩:=ha;obtain⟨tb,pb,qb⟩:=hb;refine⟨_,Nr Y6 pa pb,λF0 B F H ρ σ d Q rs e w=>?_⟩;obtain⟨d1,d2,h1,h2,h3⟩:=fJ e;refine qa F0 B F H ρ σ d1 _ rs h1 λv F1 H1 fp x1 o nd hf=>?_;refine qb F0 B F1 H1 ρ σ d2 _ (rs.ext x1) h2 λv2 F2 H2 x2 l2=>?_;cases d1 with
 |lst xs=>
  cases d2 with
  |int j=>
   unfold p3 at h3;dsimp only at h3;by_cases hz:-1000000<j/\j<1000000/\xs.length<=16
   ·rw[if_pos hz]at h3;cases h3;obtain⟨ad,vs,fr,rfl,rfl,hF,hH,ol⟩:=(o.ext x2).lst_inv;have hp:Pr (Al X.K ct F2 H2 0) xs vs:=ol.pr λ_ _ _ _ q=>q.1;have x12:=x1.trans x2;refine⟨ad,j,vs,rfl,l2.int,.inl hH,by omega,by omega,?_,vn x2.fh (hp.rep _) λv F' H' fp x o nd hf=>w v F' H' fp (x12.trans x) o nd λz hz=>x12.hh.free (hf z hz)⟩;rw[←hp.length,dF];have h1:j.toNat<=1000000:=by omega
    have h2:xs.length*j.toNat<=16*1000000:=DE hz.2.2 h1;omega
   ·rw[if_neg hz]at h3;cases h3
  |_=>cases h3
 |_=>cases h3
def vU:D->Option D
 |.int i=>some (.int (-i))
 |_=>none
theorem Gk (ha:XE X ct ms n a f):XE X ct ms k (.UnaryOp .USub a pos) (e1 vU f):=by
 refine ztp ZQ (λF H x d1 d Q s l e w=>?_) ha;cases d1 with
 |int i=>cases e;exact⟨i,l.int,w _ F H (.refl s) (Al.of (.int _))⟩
 |_=>cases e
theorem Y7 {u:bJ}(hg:Gl X x)(hm:X.mg x=some u)(hs:d.sc=true)(r:RelV d.v u)(hd:lS x:=by decide):XE X ct ms n (.Name x pos) (eC d):=by
 refine⟨_,P8 hg hm r hd,λF0 B F H ρ σ d' Q rs e w=>?_⟩;cases e;refine w _ F H (.refl rs.fh) (Al.of ?_);cases d with
 |non=>exact .non
 |bl b=>exact .bl b
 |int b=>exact .int b
 |str b=>exact .str b
 |_=>cases hs
noncomputable def oN:List D->Option D
 |[.lst ds]=>some (.lst ds)
 |[.tup ds]=>some (.lst ds)
 |_=>none
theorem jh (hn:n<=1):Eo K ct [n] 1 (λxs H Q=>∃p ys,xs=[.ref p]/\(jU K H p ys\/pA K H p ys)/\∀l,H l=none->Q (.ref l) (upd H l (.lst ys))) oN:=by
 intro F H vs ds d Q s l e w;cases l with
 |cons h t=>
  cases t;rename_i d1 v;cases d1 with
  |lst xs=>cases e;obtain⟨a,us,rfl,ha,hp⟩:=Al.lst1 hn h s;exact⟨a,us,rfl,.inl ha,vn s hp w⟩
  |tup xs=>cases e;obtain⟨a,us,rfl,ha,hp⟩:=Al.tup1 hn h s;exact⟨a,us,rfl,.inr (pA.of ha),vn s hp w⟩
  |_=>cases e
abbrev PF:=Env->Option (Option Int)
def pNo:PF:=λ_=>some none
noncomputable def pInt (f:EF):PF:=λρ=>(f ρ).bind λd=>match d with
 |.int i=>some (some i)
 |_=>none
def XP (X:Cx)(ct:Nat->bO)(ms:List Mo)(e:Option Expr)(f:PF):Prop:=∃t,PO X e t/\∀(F0 B F H:Hp) (ρ:Env) (σ:St) (o:Option Int) (Q:Option Int->Hp->Prop),RS X.K ct F0 B ms F H ρ σ->f ρ=some o->(∀F' H',iZ F H F' H'->Q o H')->t σ H Q
theorem Nu:XP X ct ms none pNo:=⟨_,Yx,λF0 B F H ρ σ o Q rs e w=>by cases e;exact w F H (.refl rs.fh)⟩
theorem MO (h:XE X ct ms n e f):XP X ct ms (some e) (pInt f):=by
 obtain⟨t,pt,qt⟩:=h;refine⟨_,Yy pt,λF0 B F H ρ σ o Q rs e w=>?_⟩;obtain⟨d,h1,h2⟩:=cx e;refine qt F0 B F H ρ σ d _ rs h1 λv F' H' x l=>?_;cases d with
 |int i=>cases h2;exact⟨i,l.int,w F' H' x⟩
 |_=>cases h2
noncomputable def cutD (xs:List D)(lo hi:Option Int):List D:=(xs.drop (HT.sIx xs.length 0 lo)).take (HT.sIx xs.length xs.length hi-HT.sIx xs.length 0 lo)
theorem Y8 {vs:List V}{lo hi:Option Int}(h:Pr R ds vs):Pr R (cutD ds lo hi) (Aw vs lo hi):=by unfold cutD Aw;rw[h.length];exact(h.drop _).take _
noncomputable def oZ (d:D)(lo hi:Option Int):Option D:=match d with
 |.lst xs=>some (.lst (cutD xs lo hi))
 |_=>none
theorem Mr {lo hi:Option Expr}{pl ph:PF}{p1}(hn:n<=1)(he:XE X ct ms n e f)(hl:XP X ct ms lo pl)(hh:XP X ct ms hi ph):XO X ct ms 1 (.Subscript e (.Slice lo hi none p1) pos) (λρ=>(f ρ).bind λd=>(pl ρ).bind λl=>(ph ρ).bind λh=>oZ d l h):=by
 obtain⟨t,pt,qt⟩:=he;obtain⟨t1,B6,B7⟩:=hl;obtain⟨t2,pZ,uO⟩:=hh;refine⟨_,WQ YA pt B6 pZ,λF0 B F H ρ σ r Q rs e w=>?_⟩;obtain⟨d,l,h1,h2,h3⟩:=fJ e;obtain⟨hh,h4,h5⟩:=cx h3;refine qt F0 B F H ρ σ d _ rs h1 λv F1 H1 x1 l1=>?_;refine B7 F0 B F1 H1 ρ σ l _ (rs.ext x1) h2 λF2 H2 x2=>?_;refine uO F0 B F2 H2 ρ σ hh _ ((rs.ext x1).ext x2) h4 λF3 H3 x3=>?_;cases d with
 |lst xs=>cases h5;have qP:=x2.trans x3;obtain⟨a,vs,rfl,ha,hp⟩:=Al.lst1 hn (l1.mono qP.ff qP.hh) qP.fh;exact⟨a,vs,rfl,ha,vn qP.fh (Y8 hp) λv F' H' fp x o nd hf=>w v F' H' fp ((x1.trans qP).trans x) o nd λz hz=>(x1.trans qP).hh.free (hf z hz)⟩
 |_=>cases h5
def Ew:List D->Option D
 |[.int i]=>some (.int (if i<0 then -i else i))
 |_=>none
theorem Y9:Bu K ct [n] k (λxs H Q=>∃i,xs=[.int i]/\Q (.int (if i<0 then -i else i)) H) Ew:=by
 intro F H vs ds d Q s l e w;cases l with
 |cons h t=>
  cases t;rename_i d1 v;cases d1 with
  |int i=>cases e;exact⟨i,by rw[h.int],w _ F H (.refl s) (Al.of (.int _))⟩
  |_=>cases e
def ii (g:Int->Int->D):List D->Option D
 |[.int i,.int j]=>some (g i j)
 |_=>none
theorem zr2 {g:Int->Int->D}(hg:∀i j F,Dt K ct F (g i j) (gv i j)):Bu K ct [n,m] k (λxs H Q=>∃i j,xs=[.int i,.int j]/\Q (gv i j) H) (ii g):=by
 intro F H vs ds d Q s l e w;cases l with
 |cons h t=>
  cases t with
  |cons h' t=>
   cases t;rename_i d1 v d2 v2;cases d1 with
   |int i=>
    cases d2 with
    |int j=>cases e;exact⟨i,j,by rw[h.int,h'.int],w _ F H (.refl s) (Al.of (hg i j F))⟩
    |_=>cases e
   |_=>cases e
def tX:List D->Option D:=ii λi j=>.int (if j > i then j else i)
def Hv:List D->Option D:=ii λi j=>.int (if j<i then j else i)
theorem Ms:Bu K ct [n,m] k (λxs H Q=>∃i j,xs=[.int i,.int j]/\Q (.int (if j > i then j else i)) H) tX:=zr2 λ_ _ _=>.int _
noncomputable def AH (i:Nat)(o:D->D->Option D)(f:EF):SF:=λρ=>(eV i ρ).bind λx=>(f ρ).bind λy=>(o x y).bind λd=>some (.nx (ρ.set i (some d)))
theorem Rp {gi:Int->Int->Int}(ho:FL X op (Jf gi))(hm:ms[i]?=some (.ow k))(hN:X.N.Nodup)(hi:X.N[i]?=some x)(hx:Loc X.env.scope x)(he:XE X ct ms n e f)(hf:vL X x:=by walk_at "v2") :
  XS X ct ms rk (.AugAssign (.Name x pos') op e pos) (AH i (i2 λi j=>.int (gi i j)) f):=by
 obtain⟨t,pt,qt⟩:=he;refine⟨_,zqv hN hi hx pt ho hf,λF0 B F H ρ σ o E rs e z=>?_⟩;obtain⟨d1,d2,h1,h2,h3⟩:=fJ e;obtain⟨d,h4,h5⟩:=cx h3;cases h5;obtain⟨v,hv,l⟩:=rs.get hm (zt h1);refine⟨v,hv,qt F0 B F H ρ σ d2 _ rs h2 λy F' H' x1 l2=>?_⟩;cases d1 with
 |int i'=>
  cases d2 with
  |int j'=>cases h4;exact⟨i',j',l.int,l2.int,z _ F' H' (rs.set hm x1 (Ow.scal (.int _) rfl) cZ λa z=>(by cases z))⟩
  |_=>cases h4
 |_=>cases h4
noncomputable def sPar (i j:Nat)(fs:Env->Option (List D)):SF:=λρ=>(fs ρ).bind λds=>match ds with
 |[x,y]=>some (.nx ((ρ.set i (some x)).set j (some y)))
 |_=>none
theorem zr3 {j:Nat}{px py:mE}{kt k2 pZ}(FZ:ms[i]?=some (.ow 0))(DY:ms[j]?=some (.ow 0))(hc:X.calm=true)(hN:X.N.Nodup)(hi:X.N[i]?=some x)(hj:X.N[j]?=some y)(Bc:i≠j)
  (hx:X.env.scope.names.lookup x=some .local) (hy:X.env.scope.names.lookup y=some .local) (ha:XA X ct ms [a,b] [0,0] fs)
  (hw:lD [.Tuple [.Name x px,.Name y py] kt pt] (.Tuple [a,b] k2 pZ) X.env=pure (some [x,y]))
  (hs:lE [.Tuple [.Name x px,.Name y py] kt pt] (.Tuple [a,b] k2 pZ) pos.line X.env=pure false:=by rfl) :
  XS X ct ms rk (.Assign [.Tuple [.Name x px,.Name y py] kt pt] (.Tuple [a,b] k2 pZ) pos) (sPar i j fs):=by
 obtain⟨t,pt,_,qt⟩:=ha;refine⟨_,zqu hc hN hi hj Bc hx hy pt hw hs,λF0 B F H ρ σ o E rs e z=>?_⟩;obtain⟨ds,h1,h2⟩:=cx e;refine qt F0 B F H ρ σ ds _ rs h1 λvs F' H' x1 l=>?_;cases l with
 |cons l1 l=>
  cases l with
  |cons l2 l=>cases l;cases h2;have r1:=rs.set FZ x1 (Ow.zero l1) cZ λa z=>(by cases z);exact⟨_,_,rfl,z _ F' H' (r1.set DY (.refl x1.fh) (Ow.zero l2) cZ λa z=>(by cases z))⟩
noncomputable def sAsg (g:D->Env->Option Env)(f:EF):SF:=λρ=>(f ρ).bind λd=>(g d ρ).bind λρ'=>some (.nx ρ')
theorem Rq (he:XE X ct ms 0 e f)(hg:XG X ct ms 0 tg gg)(hs:lE [tg] e pos.line X.env=pure false:=by rfl)(hw:lD [tg] e X.env=pure none:=by rfl)
  (h1:(eJ [tg] X.env).map (·.2)=[lB tg X.env]:=by rfl):XS X ct ms rk (.Assign [tg] e pos) (sAsg gg f):=by
 obtain⟨t,pt,qt⟩:=he;obtain⟨t2,pZ,uO⟩:=hg;refine⟨_,MY pt pZ hs hw h1,λF0 B F H ρ σ o E rs e z=>?_⟩;obtain⟨d,h1,h2⟩:=cx e;obtain⟨ρ',h3,h4⟩:=cx h2;cases h4;exact qt F0 B F H ρ σ d _ rs h1 λv F' H' x l=>uO F0 B F' H' ρ ρ' σ d v _ (rs.ext x) l h3 λσ' r=>z σ' F' H' r
noncomputable def l7:List Nat->List Mo->Bool
 |[],_=>true
 |n::ns,.al m::ms=>decide (n=m)&&l7 ns ms
 |n::ns,.ow m::ms=>decide (n=0)&&decide (m=0)&&l7 ns ms
 |_,_=>false
theorem v7:∀{pm:List Nat} {ms:List Mo},l7 pm ms=true->∀(i n:Nat),pm[i]?=some n->ms[i]?=some (Mo.al n)\/(n=0/\ms[i]?=some (Mo.ow 0))
 |[],_,_,i,n,e=>by simp at e
 |x::ns,.al m::ms,h,i,n,e=>by
  simp only[l7,c7,decide_eq_true_eq]at h;cases i with
  |zero=>simp at e;subst e;rw[h.1];exact .inl rfl
  |succ i=>simpa using v7 h.2 i n (by simpa using e)
 |x::ns,.ow m::ms,h,i,n,e=>by
  simp only[l7,c7,decide_eq_true_eq]at h;cases i with
  |zero=>simp at e;subst e;rw[h.1.1,h.1.2];exact .inr ⟨rfl,rfl⟩
  |succ i=>simpa using v7 h.2 i n (by simpa using e)
 |_::_,[],h,_,_,_=>by simp[l7]at h
 |_::_,.px _::_,h,_,_,_=>by simp[l7]at h
 |_::_,.so _::_,h,_,_,_=>by simp[l7]at h
noncomputable def DQ (X:Cx)(scope:pO)(N:List Str)(own:Nat)(cap:List Nat):Bool :=
 decide (scope.kind=.function)&&scope.names.all (λx=>(decide (x.2≠.cell) || decide (scope.names.lookup x.1=some .cell))&&(decide (x.2≠.local) || decide (scope.names.lookup x.1=some .local))&&(decide (x.2≠.free) || (decide (X.env.kindOf x.1=some .cell) || decide (X.env.kindOf x.1=some .free)))) &&
 decide (N.length=own+cap.length)&&(bR cap.length).all λj=>match N[own+j]?,cap[j]? with
  |some x,some i=>decide (X.N[i]?=some x)&&decide (scope.names.lookup x=some .free)
  |_,_=>false
theorem Rr (h:DQ X scope N own cap=true):oJ X scope N own cap:=by
 unfold DQ at h;simp only[c7,decide_eq_true_eq,iW,Bool.or_eq_true]at h;obtain⟨⟨⟨h1,h2⟩,h3⟩,h4⟩:=h;refine⟨h1,λx hx hl=>((h2 x hx).1.1).elim (λz=>absurd hl z) id,λx hx hl=>((h2 x hx).1.2).elim (λz=>absurd hl z) id,λx hx hf=>((h2 x hx).2).elim (λz=>absurd hf z) id,h3,λj x hj=>?_⟩;have AB:j<cap.length:=by have:=(bZ.mp hj).1;omega
 have q:=h4 j (ce.mpr AB);rw[hj]at q;have hc:cap[j]?=some cap[j]:=by simp[AB]
 rw[hc]at q;simp only[c7,decide_eq_true_eq]at q;exact⟨_,hc,q.1,q.2⟩
noncomputable def Jp:D->Option String
 |.non=>some "NoneType"
 |.bl _=>some "bool"
 |.int _=>some "int"
 |.str _=>some "str"
 |.lst _=>some "list"
 |.tup _=>some "tuple"
 |.dK _ _=>some "dict"
 |_=>none
def OM (K:bM)(H:Hp)(v:V)(t:String):Prop:=oT K H v (.type t)\/(t = "list"/\∃a xs,v=.ref a/\jU K H a xs)
theorem Al.ty {v:V}{t:String}(s:c9 F H)(h:Al K ct F H n d v)(e:Jp d=some t):OM K H v t:=by
 cases d with
 |non=>cases e;rw[h.non];exact .inl .non
 |bl b=>cases e;rw[h.bl];exact .inl (.bl b)
 |int b=>cases e;rw[h.int];exact .inl (.int b)
 |str b=>cases e;rw[h.str];exact .inl (.str b)
 |lst xs=>cases e;obtain⟨a,vs,rfl,ha,_⟩:=h.lst s;exact .inr ⟨rfl,a,vs,rfl,ha⟩
 |tup xs=>cases e;obtain⟨a,vs,rfl,ha,_⟩:=h.tup s;exact .inl (.tup ha)
 |dK ks xs=>cases e;obtain⟨a,vs,rfl,ha,_⟩:=h.dK s;exact .inl (.dK ha)
 |_=>cases e
theorem We:iA X (.builtin "isinstance") (λxs H Q=>∃x c t b,xs=[x,.ty c]/\OM X.K H x t/\gH X.K (.type t) (.type c)=some b/\Q (.bl b) H):=by
 intro bL s σ H xs us Q I r h;obtain⟨x,c,t,b,rfl,ty,e,q⟩:=h;rcases ty with ty|⟨rfl,a,ys,rfl,hq⟩
 ·exact WA bL s σ H _ us Q I r ⟨x,c,_,b,rfl,ty,e,q⟩
 ·obtain⟨u,w',rfl,ru,qZ⟩:=vals2 r;cases(show w'=bJ.type c from qZ);cases(show u=bJ.ref a from ru);obtain⟨dJ,rv,⟨o,n,h1,h2,_⟩,_⟩:=I.list hq;exact d4 o6 I.kIn ⟨o,h1,h2⟩ e (λz=>nomatch z) λtk=>⟨.bl b,H,I.tok tk,rfl,q⟩
def Hq (t c:String):Bool:=t==c || (t == "bool" && c == "int")
theorem Za:∀t∈(["NoneType","bool","int","str","list","tuple","dict"]:List String),∀c∈(["bool","int","str","list","tuple","dict"]:List String),gH K (.type t) (.type c)=some (Hq t c):=by intro t ht c hc;simp only[bY,List.not_mem_nil,or_false]at ht hc;rcases ht with rfl|rfl|rfl|rfl|rfl|rfl|rfl<;>rcases hc with rfl|rfl|rfl|rfl|rfl|rfl<;>rfl
theorem Zb {t:String}(e:Jp d=some t):t∈(["NoneType","bool","int","str","list","tuple","dict"]:List String):=by cases d<;>simp[Jp]at e<;>subst e<;>decide
variable {p2:mE}
noncomputable def sU (c:String)(d:D):Option D:=(Jp d).bind λt=>some (.bl (Hq t c))
theorem Gm {c:String}(hc:c∈(["bool","int","str","list","tuple","dict"]:List String))(hm:X.mg "isinstance"=none)(uI:X.mg c=none)(hb:dw c=some (.type c))(he:XE X ct ms n e f)(hg:Gl X "isinstance":=by rfl)(vG:Gl X c:=by rfl)(yC:Str.ofString c≠"__name__":=by decide)(hd2:(Str.ofString c==("__debug__":Str))=false:=by decide)
  (BS:cT [e,.Name c p2] X.env=(false,dR e X.env)::cT [.Name c p2] X.env:=by rfl) (rS:cT [.Name c p2] X.env=(false,dR (.Name c p2) X.env)::cT [] X.env:=by rfl) (jB:(iD pos (cT [.Name c p2] X.env)).any (·.1)=false:=by rfl) :
  XE X ct ms k (.Call (.Name "isinstance" pp) [e,.Name c p2] [] pos) (e1 (sU c) f):=by
 obtain⟨t,pt,qt⟩:=he;refine⟨_,Mp We hg hm vt (z9 pt (z9 (Yb (v:=.ty c) vG uI hb rfl yC hd2) xn rS) BS) (by decide) (by decide) BS jB,λF0 B F H ρ σ d Q rs e w=>?_⟩;obtain⟨d1,h1,h2⟩:=cx e;obtain⟨ty,h3,h4⟩:=cx h2;cases h4;exact qt F0 B F H ρ σ d1 _ rs h1 λv F' H' x l=>⟨v,c,ty,_,rfl,l.ty x.fh h3,Za _ (Zb h3) _ hc,w _ F' H' x (Al.of (.bl _))⟩
def t7 (K:bM):Sp:=λvs H Q _=>∃(a:bO) (ns:List Int),vs=[.ref a]/\jU K H a (ns.map V.int)/\ns.length<=63/\∀H',Q (.bl true) H'
theorem Dts.ints {K:bM}{ct:Nat->bO}{F:Hp}:∀ns:List Int,Dts K ct F (ns.map D.int) (ns.map V.int)
 |[]=>.nil
 |n::ns=>.cons (.int n) (Dts.ints ns)
theorem zr4 {w:dB}{f:bO}{fd:b5}{m:List D->Option D}(Fn:dD P w K mg base gx k f fd ps (kr K ct [0] 0 m))
  (h:∀ns:List Int,ns.length<=63->m [.lst (ns.map .int)]=some (.bl true)):dD P w K mg base gx k f fd ps (t7 K):=by
 have to:∀vs H Q E,t7 K vs H Q E->kr K ct [0] 0 m vs H Q E:=by
  rintro vs H Q E ⟨a,ns,rfl,hS,hl,q⟩;refine⟨H,[.lst (ns.map .int)],.bl true,.refl _,.cons (Dt.lst hS (Dts.ints ns)) .nil,h ns hl,λv F' H' fp x o nd hf=>?_⟩;have hv:v=.bl true:=by have o:Dt K ct F' (.bl true) v/\fp=[]:=o;cases o.1;rfl
  subst hv;exact q H'
 exact⟨λvs H Q E z=>Fn.len vs H Q E (to vs H Q E z),λA outer s H args us vs Q E hr e0 hb hv z=>Fn.run A outer s H args us vs Q E hr e0 hb hv (to vs H Q E z)⟩
theorem Pl {g:D->Env->Option Env}{b:SF}(I:List D->Env->Prop)(all:List D)(st:∀pre d post ρ,all=pre++d::post->I pre ρ->∃ρ1 ρ2,g d ρ=some ρ1/\(b ρ1=some (.nx ρ2)\/b ρ1=some (.ct ρ2))/\I (pre++[d]) ρ2):∀(ds pre:List D) (ρ:Env),all=pre++ds->I pre ρ ->
  ∃ρ',gN g b ds ρ=some (.nx ρ')/\I all ρ'
 |[],pre,ρ,e,h=>⟨ρ,rfl,by rw[e,cP];exact h⟩
 |d::ds,pre,ρ,e,h=>by obtain⟨ρ1,ρ2,h1,h2,h3⟩:=st pre d ds ρ e h;obtain⟨ρ',h4,h5⟩:=Pl I all st ds (pre++[d]) ρ2 (by rw[e];simp) h3;refine⟨ρ',?_,h5⟩;show(g d ρ).bind _=_;rw[h1];show(b ρ1).bind _=_;rcases h2 with h2|h2<;>(rw[h2];exact h4)
theorem ve {g:D->Env->Option Env}{b:SF}(I:List D->Env->Prop)(h:I [] ρ)(st:∀pre d post ρ,ds=pre++d::post->I pre ρ->∃ρ1 ρ2,g d ρ=some ρ1/\(b ρ1=some (.nx ρ2)\/b ρ1=some (.ct ρ2))/\I (pre++[d]) ρ2) :
  ∃ρ',gN g b ds ρ=some (.nx ρ')/\I ds ρ':=Pl I ds st ds [] ρ rfl h
theorem Rt {all pre post:List α}{d:α}(h:all=pre++d::post):all[pre.length]?=some d:=by subst h;simp
theorem j5 {α S:Type}{g:D->Env->Option Env}{b:SF}(enc:α->D)(st:S->Env)(f:S->α->S)(P:S->Prop):∀(xs:List α) (s:S),P s ->
  (∀s x,x∈xs->P s->∃ρ1,g (enc x) (st s)=some ρ1/\(b ρ1=some (.nx (st (f s x)))\/b ρ1=some (.ct (st (f s x))))/\P (f s x))->gN g b (xs.map enc) (st s)=some (.nx (st (xs.foldl f s)))/\P (xs.foldl f s)
 |[],s,hp,_=>⟨rfl,hp⟩
 |x::xs,s,hp,h=>by obtain⟨ρ1,h1,h2,h3⟩:=h s x bH hp;have ih:=j5 enc st f P xs (f s x) h3 λs y hy=>h s y (bK _ hy);refine⟨?_,ih.2⟩;show(g (enc x) (st s)).bind _=_;rw[h1];show(b ρ1).bind _=_;rcases h2 with h2|h2<;>(rw[h2];exact ih.1)
theorem Pm {g:D->Env->Option Env}{b:SF}(I:Nat->Env->Prop)(lo:Int):∀(n k:Nat) (ρ:Env),I k ρ ->
  (∀j ρ,k<=j->j<k+n->I j ρ->∃ρ1 ρ2,g (.int (lo+(j:Int))) ρ=some ρ1/\(b ρ1=some (.nx ρ2)\/b ρ1=some (.ct ρ2))/\I (j+1) ρ2) ->
  ∃ρ',gN g b ((mz k n).map λ(t:Nat)=>D.int (lo+(t:Int))) ρ=some (.nx ρ')/\I (k+n) ρ'
 |0,k,ρ,h,_=>⟨ρ,rfl,h⟩
 |n+1,k,ρ,h,st=>by obtain⟨ρ1,ρ2,h1,h2,h3⟩:=st k ρ (b7 _) (by omega) h;obtain⟨ρ',h4,h5⟩:=Pm I lo n (k+1) ρ2 h3 λj ρ hj hl hI=>st j ρ (by omega) (by omega) hI;refine⟨ρ',?_,by rw[show k+(n+1)=k+1+n by omega];exact h5⟩;rw[List.range'_succ,ck];show(g _ ρ).bind _=_;rw[h1];show(b ρ1).bind _=_;rcases h2 with h2|h2<;>(rw[h2];exact h4)
theorem vf {g:D->Env->Option Env}{b:SF}(I:Nat->Env->Prop)(h:I 0 ρ)
  (st:∀j ρ,j<n->I j ρ->∃ρ1 ρ2,g (.int (lo+(j:Int))) ρ=some ρ1/\(b ρ1=some (.nx ρ2)\/b ρ1=some (.ct ρ2))/\I (j+1) ρ2):∃ρ',gN g b (iT lo n) ρ=some (.nx ρ')/\I n ρ':=by
 obtain⟨ρ',h1,h2⟩:=Pm (g:=g) (b:=b) I lo n 0 ρ h λj ρ _ hj hI=>st j ρ (by omega) hI;rw[Nat.zero_add]at h2;exact⟨ρ',by unfold iT;rw[xL];exact h1,h2⟩
theorem vo {S:Type}{c:BF}{b:SF}(st:S->Env)(t:S->Bool)(f:S->S)(μ:S->Nat)(P:S->Prop)(hc:∀s,P s->c (st s)=some (t s))(hb:∀s,P s->t s=true->(b (st s)=some (.nx (st (f s)))\/b (st s)=some (.ct (st (f s))))/\P (f s)/\μ (f s) < μ s) :
  ∀(n:Nat) (s:S),P s->μ s<n->∃s',kU c b n (st s)=some (.nx (st s'))/\P s'/\t s'=false/\∃j,s'=Nat.repeat f j s
 |0,s,_,h=>absurd h (by omega)
 |n+1,s,hp,h=>by
  cases ht:t s with
  |false=>refine⟨s,?_,hp,ht,0,rfl⟩;show(c (st s)).bind _=_;rw[hc s hp,ht];rfl
  |true=>
   obtain⟨h1,h2,h3⟩:=hb s hp ht;obtain⟨s',h4,h5,h6,j,h7⟩:=vo st t f μ P hc hb n (f s) h2 (by omega);refine⟨s',?_,h5,h6,j+1,?_⟩
   ·show(c (st s)).bind _=_;rw[hc s hp,ht];show(b (st s)).bind _=_;rcases h1 with h1|h1<;>(rw[h1];exact h4)
   ·rw[h7];clear h4 h5 h6 h7;induction j with
    |zero=>rfl
    |succ j ih=>show f (Nat.repeat f j (f s))=f (Nat.repeat f (j+1) s);rw[ih]
theorem OU {c:BF}{b:SF}(I:Env->Prop)(μ:Env->Nat)(st:∀ρ,I ρ->∃t,c ρ=some t/\(t=true->∃ρ',(b ρ=some (.nx ρ')\/b ρ=some (.ct ρ'))/\I ρ'/\μ ρ' < μ ρ)) :
  ∀(n:Nat) (ρ:Env),I ρ->μ ρ<n->∃ρ',kU c b n ρ=some (.nx ρ')/\I ρ'/\c ρ'=some false
 |0,_,_,h=>absurd h (by omega)
 |n+1,ρ,hI,h=>by
  obtain⟨t,h1,h2⟩:=st ρ hI;cases t with
  |false=>exact⟨ρ,by show(c ρ).bind _=_;rw[h1];rfl,hI,h1⟩
  |true=>obtain⟨ρ',h3,h4,h5⟩:=h2 rfl;obtain⟨ρ2,h6,h7,h8⟩:=OU I μ st n ρ' h4 (by omega);refine⟨ρ2,?_,h7,h8⟩;show(c ρ).bind _=_;rw[h1];show(b ρ).bind _=_;rcases h3 with h3|h3<;>(rw[h3];exact h6)
theorem Qv (h:n<2 ^ k)(hk:k<=9000):n<pW:=cL h (fG (by decide) hk)
theorem um (h:n<1048576):n<pW:=Qv (k:=20) h (by decide)
theorem Zc {i:Int}(h:j≠0):gW (.int i) (.int j)=some (.int (i.fmod j)):=by
 unfold gW;by_cases h0:0<j
 ·simp[h0,tK i (by omega:0<=j)]
 ·simp[h0,h]
theorem P3 {i:Int}(h:j≠0)(hz:Sz 9000 j):hJ (.int i) (.int j)=some (.int (i.fdiv j)):=by
 unfold hJ;by_cases h0:0<j/\j<4611686018427387904
 ·simp[h0,lV i (by omega:0<=j)]
 ·have hz:j.natAbs<JX:=hz;simp[h0,h,hz]
theorem v8 {i:Int}(h1:0<j)(h2:j<4611686018427387904):hJ (.int i) (.int j)=some (.int (i/j)):=by unfold hJ;simp[h1,h2]
theorem xu {i:Int}(h:0<j):gW (.int i) (.int j)=some (.int (i%j)):=by unfold gW;simp[h]
theorem v9 {i:Int}(h1:-18446744073709551616<j)(h2:j<18446744073709551616):fD (.int i) (.int j)=some (.int (i*j)):=by simp[fD,Bg,pJ,h1,h2]
theorem wx {i:Int}(h1:-18446744073709551616<i)(h2:i<18446744073709551616):fD (.int i) (.int j)=some (.int (i*j)):=by simp[fD,Bg,pJ,h1,h2]
theorem zkg {i:Int}(h1:0<=j)(h2:j<=1000000)(h3:i.natAbs<18446744073709551616):AF (.int i) (.int j)=some (.int (i ^ j.toNat)):=by simp[AF,Bg,t5,h1,h2,h3]
theorem zkh {i:Int}(h1:0<=j)(h2:j<=1000000)(h3:i.natAbs<18446744073709551616):Dr (.int i) (.int j)=some (.int (i*2 ^ j.toNat)):=by simp[Dr,Bg,t5,h1,h2,h3]
theorem zet {i:Int}(h1:0<=j):AJ (.int i) (.int j)=some (.int (i/2 ^ j.toNat)):=by simp[AJ,Bg,h1]
theorem zki (i j:Int):gb (.int i) (.int j)=some (.int (i+j)):=rfl
theorem P4 {xs ys:List D}(h:xs.length+ys.length<=16777216):gb (.lst xs) (.lst ys)=some (.lst (xs++ys)):=by simp[gb,h]
theorem Xc (h:x.length+y.length<=16777216):gb (.str x) (.str y)=some (.str (x++y)):=by simp[gb,h]
theorem zkk (i j:Int):p6 (.int i) (.int j)=some (.int (i-j)):=rfl
theorem zdm (i j:Int):qL (.int i) (.int j)=some (.bl (decide (i<j))):=rfl
theorem zot (i j:Int):BZ (.int i) (.int j)=some (.bl (decide (i<=j))):=rfl
theorem zdn (i j:Int):qX (.int i) (.int j)=some (.bl (decide (j<i))):=rfl
theorem zou (i j:Int):Bz (.int i) (.int j)=some (.bl (decide (j<=i))):=rfl
theorem zkl (i:Int):vU (.int i)=some (.int (-i)):=rfl
theorem ym (ds:List D):eW [.lst ds]=some (.int ds.length):=rfl
theorem zkm (ds:List D):eW [.tup ds]=some (.int ds.length):=rfl
theorem zkn (i:Int):Ew [.int i]=some (.int (if i<0 then -i else i)):=rfl
theorem zck (i j:Int):tX [.int i,.int j]=some (.int (if j > i then j else i)):=rfl
theorem zhn (i j:Int):Hv [.int i,.int j]=some (.int (if j<i then j else i)):=rfl
theorem zov (neg:Bool)(d:D):tT neg d .non=some (.bl (if neg then !d.isN else d.isN)):=by cases d<;>rfl
theorem zr5 (neg b:Bool)(d:D):tT neg d (.bl b)=some (.bl (if neg then !d.isB b else d.isB b)):=by cases d<;>rfl
theorem zr6 (b:Bool):CA (.bl b)=some b:=rfl
theorem zow (ds:List D):GH (.lst ds)=some ds:=rfl
theorem uo (ds:List D)(l h:Option Int):oZ (.lst ds) l h=some (.lst (cutD ds l h)):=rfl
theorem vg (h1:-4611686018427387904<=j)(h2:j<4611686018427387904):kT [.int j]=some (iT 0 j.toNat):=by simp[kT,h1,h2]
theorem Xd {i:Int}(h1:-4611686018427387904<=i)(h2:i<4611686018427387904)(h3:-4611686018427387904<=j)(h4:j<4611686018427387904):AG [.int i,.int j]=some (iT i (j-i).toNat):=by simp[AG,h1,h2,h3,h4]
theorem Jz (enc:α->D){xs:List α}{i:Int}{j:Nat}{x:α}(hi:i=(j:Int)\/i=(j:Int)-xs.length)(h:xs[j]?=some x):atI (xs.map enc) i=some (enc x):=by
 have hj:=(bZ.mp h).1;unfold L2.atI L2.ixN;rw[bQ];rcases hi with rfl|rfl
 ·rw[if_pos (by omega),if_pos (by omega)];simp[h]
 ·rw[if_neg (by omega),if_pos (by omega)];have:((j:Int)-(xs.length:Int)+(xs.length:Int)).toNat=j:=by omega
  simp[this,h]
theorem Wf (xs:List D)(k:Nat):cutD xs none (some (k:Int))=xs.take k:=by
 unfold cutD;rw[HT.sIx_none,HT.sIx_nat,wV,List.drop_zero];rcases Nat.le_total k xs.length with h|h
 ·rw[sr h]
 ·rw[Cv h,ku (b7 _),ku h]
theorem Pn (xs:List D)(k:Nat):cutD xs (some (k:Int)) none=xs.drop k:=by
 unfold cutD;rw[HT.sIx_none,HT.sIx_nat];rcases Nat.le_total k xs.length with h|h
 ·rw[sr h,ku (by rw[m6];omega)]
 ·rw[Cv h,vI (b7 _),vI h];simp
theorem Xe {i:Int}(h:Sz n i)(h':Sz m j)(hn:n<=100000)(hm:m<=100000):pJ i j:=.inr (.inr ⟨h.mono hn,h'.mono hm⟩)
theorem uq {i:Int}(h:Sz n i)(h':Sz m j)(hn:n<=100000)(hm:m<=100000):fD (.int i) (.int j)=some (.int (i*j)):=by have:=Xe h h' hn hm;simp[fD,Bg,this]
theorem Po {α:Type}{g:D->Env->Option Env}{p:BF}{f:EF}{ρ0:Env}(enc:α->D)(q:α->Bool)(h:α->D):∀(xs:List α),(∀x∈xs,∃ρ1,g (enc x) ρ0=some ρ1/\p ρ1=some (q x)/\(q x=true->f ρ1=some (h x)))->tQ g p f ρ0 (xs.map enc)=some ((xs.filter q).map h)
 |[],_=>rfl
 |x::xs,H=>by
  obtain⟨ρ1,h1,h2,h3⟩:=H x bH;have ih:=Po enc q h xs λy hy=>H y (bK _ hy);show(g (enc x) ρ0).bind _=_;rw[h1];show(p ρ1).bind _=_;rw[h2];cases hq:q x with
  |false=>rw[de,if_neg cB,mY (by rw[hq];exact cB)];exact ih
  |true=>rw[de,if_pos rfl,h3 hq,mZ hq];show(tQ g p f ρ0 (xs.map enc)).bind _=_;rw[ih];rfl
section
open PySem PySem.Spec L2
structure vK (α:Type)[DecidableEq α] where
 enc:α->D
 py:α->d8
 dep:Nat
 is:∀x,(enc x).py=some (py x)
 lay:∀x,(py x).canLay0=true
 dp:∀x,(py x).depth<=dep
 eqv:∀x y,d8.eqv (py x) (py y)=decide (x=y)
section
variable {γ δ ε:Type}[DecidableEq α][DecidableEq β][DecidableEq γ][DecidableEq δ][DecidableEq ε]
theorem vK.eq (E:vK α)(h:E.dep<=60)(x y:α):jV neg (E.enc x) (E.enc y)=some (.bl (if neg then !decide (x=y)else decide (x=y))):=by
 have h1:uM (E.py x)=true:=by unfold uM;rw[E.lay x,decide_eq_true (dA (E.dp x) h)];rfl
 have h2:uM (E.py y)=true:=by unfold uM;rw[E.lay y,decide_eq_true (dA (E.dp y) h)];rfl
 unfold jV;rw[E.is x,E.is y];simp only[de];rw[if_pos ⟨h1,h2⟩,E.eqv]
noncomputable def Ei:vK Int:=⟨.int,.int,0,λ_=>by simp[D.py],λ_=>rfl,λ_=>by simp[d8.depth],λx y=>by show(x==y)=_;by_cases h:x=y<;>simp[h]⟩
noncomputable def Eb:vK Bool:=⟨.bl,.bool,0,λ_=>by simp[D.py],λ_=>rfl,λ_=>by simp[d8.depth],λx y=>by cases x<;>cases y<;>rfl⟩
def mK:Option Int->D
 |none=>.non
 |some i=>.int i
noncomputable def E2 (A:vK α)(B:vK β):vK (α×β):=⟨λp=>.tup [A.enc p.1,B.enc p.2],λp=>.tuple [A.py p.1,B.py p.2],max A.dep B.dep+1,λp=>by simp[D.py,D.pys,A.is,B.is],λp=>by simp[d8.canLay0,d8.canLayAll0,A.lay,B.lay],
 λp=>by have:=A.dp p.1;have:=B.dp p.2;simp only[d8.depth,d8.depthAll];omega,λp q=>by simp only[d8.eqv,d8.eqvAll,A.eqv,B.eqv];obtain⟨a,b⟩:=p;obtain⟨c,d⟩:=q;by_cases h:a=c<;>by_cases g:b=d<;>simp[h,g]⟩
end
theorem xw (a b:Int):jV neg (.int a) (.int b)=some (.bl (if neg then !decide (a=b)else decide (a=b))):=Ei.eq (by decide) a b
theorem zr7 (a b:Bool):jV neg (.bl a) (.bl b)=some (.bl (if neg then !decide (a=b)else decide (a=b))):=Eb.eq (by decide) a b
end
theorem IntsAre.of {ns:List Int}{us:List bJ}(h:dm (ns.map V.int) us):IntsAre us ns:=Vu h
theorem ua (hc:X.calm=true):iA X (.builtin "sum") (λxs H Q=>∃(a:bO) (ns:List Int),xs=[.ref a]/\jU X.K H a (ns.map V.int)/\Q (.int ns.sum) H):=by
 intro bL s σ H xs us Q I r h;obtain⟨a,ns,rfl,hq,q⟩:=h;obtain⟨u,rfl,ru⟩:=r.one;cases(show u=bJ.ref a from ru);obtain⟨dJ,rv,pl,hz⟩:=I.list hq;have hi:=IntsAre.of rv;obtain⟨ys,hx⟩:=hi.allInts.items;have C4:s.heap.IsList a (intItems ys):=hx▸pl.isList;refine sum_intListG (I.ok.hd hc) C4 λh' tk t' hk=>?_;have e1:ns=ys.toList.map (·.1):=by rw[←qU,←hx];exact(show numsOf dJ.toArray.toList=ns from hi.numsOf).symm
 have e2:preSum (numAt ys) ys.size=ns.sum:=by rw[preSum_eq,ku (by simp),e1]
 rw[e2];exact⟨.int ns.sum,H,I.kept (t':=tk) hk,⟨_,rfl⟩,q⟩
theorem ub (hc:X.calm=true):iA X (.builtin "max") (λxs H Q=>∃(a:bO) (ns:List Int),xs=[.ref a]/\jU X.K H a (ns.map V.int)/\ns≠[]/\∀M,M∈ns->(∀z∈ns,z<=M)->Q (.int M) H):=by
 intro bL s σ H xs us Q I r h;obtain⟨a,ns,rfl,hq,nU,q⟩:=h;obtain⟨u,rfl,ru⟩:=r.one;cases(show u=bJ.ref a from ru);obtain⟨dJ,rv,pl,hz⟩:=I.list hq;have hi:=IntsAre.of rv;obtain⟨ys,e⟩:=hi.allInts.items;have kG:ns=ys.toList.map (·.1):=by rw[←hi.numsOf,←qU,←e]
 have hsz:0<ys.size:=by have h3:0<ns.length:=lA.mpr nU;rw[kG,bQ,dr]at h3;exact h3
 have C4:s.heap.IsList a (intItems ys):=e▸pl.isList;refine max_intList (I.ok.hd hc) C4 hsz λv h' tk hv hk=>?_;obtain⟨t,rfl⟩:=intItems_at hv;obtain⟨h1,h2⟩:=argBest_gt (numAt ys) (ys.size-1);refine⟨.int (numAt ys (argBest (λi j=>decide (numAt ys i > numAt ys j)) (ys.size-1))),H,I.kept (t':=tk) hk,⟨_,rfl⟩,q _ ?_ λz hz=>?_⟩
 ·rw[kG,numAt_eq];exact getD_mem (by rw[bQ,dr];omega)
 ·rw[kG]at hz;obtain⟨j,hj,rfl⟩:=mem_getD hz;rw[bQ,dr]at hj;rw[←numAt_eq];exact h2 j (by omega)
theorem Wg (hc:X.calm=true):iA X (.builtin "min") (λxs H Q=>∃(a:bO) (ns:List Int),xs=[.ref a]/\jU X.K H a (ns.map V.int)/\ns≠[]/\∀M,M∈ns->(∀z∈ns,M<=z)->Q (.int M) H):=by
 intro bL s σ H xs us Q I r h;obtain⟨a,ns,rfl,hq,nU,q⟩:=h;obtain⟨u,rfl,ru⟩:=r.one;cases(show u=bJ.ref a from ru);obtain⟨dJ,rv,pl,hz⟩:=I.list hq;have hi:=IntsAre.of rv;obtain⟨ys,e⟩:=hi.allInts.items;have kG:ns=ys.toList.map (·.1):=by rw[←hi.numsOf,←qU,←e]
 have hsz:0<ys.size:=by have h3:0<ns.length:=lA.mpr nU;rw[kG,bQ,dr]at h3;exact h3
 have C4:s.heap.IsList a (intItems ys):=e▸pl.isList;refine min_intList (I.ok.hd hc) C4 hsz λv h' tk hv hk=>?_;obtain⟨t,rfl⟩:=intItems_at hv;obtain⟨h1,h2⟩:=argBest_lt (numAt ys) (ys.size-1);refine⟨.int (numAt ys (argBest (λi j=>decide (numAt ys i<numAt ys j)) (ys.size-1))),H,I.kept (t':=tk) hk,⟨_,rfl⟩,q _ ?_ λz hz=>?_⟩
 ·rw[kG,numAt_eq];exact getD_mem (by rw[bQ,dr];omega)
 ·rw[kG]at hz;obtain⟨j,hj,rfl⟩:=mem_getD hz;rw[bQ,dr]at hj;rw[←numAt_eq];exact h2 j (by omega)
theorem Pp:∀{bs:List Bool} {us:List bJ},dm (bs.map V.bl) us->us=bs.map bJ.bool
 |[],_,.nil=>rfl
 |b::bs,_,.cons r t=>by rw[Pp t];cases(show _=bJ.bool b from r);rfl
theorem Wi (hc:X.calm=true):iA X (.builtin "all") (λxs H Q=>∃(a:bO) (bs:List Bool),xs=[.ref a]/\jU X.K H a (bs.map V.bl)/\Q (.bl (bs.all id)) H):=by
 intro bL s σ H xs us Q I r h;obtain⟨a,bs,rfl,hq,q⟩:=h;obtain⟨u,rfl,ru⟩:=r.one;cases(show u=bJ.ref a from ru);obtain⟨dJ,rv,pl,hz⟩:=I.list hq;have hb:=Pp rv;subst hb;have hl:=pl.isList;have oU:a<s.heap.objs.size:=by obtain⟨_,e,_⟩:=hl;exact cw e
 refine PySem.call_all_walk (wpAny_pyIter_list hl ?_);refine⟨s.heap.objs.size,[s.heap.objs.size,a],[s.heap.objs.size],(bs.map bJ.bool).toArray.size,_,_,λi=>(bs[i]?).getD true,rfl,Walks.list (A:=X.A.in1) (I.ok.hd hc) _ a (cN oU) (bs.map bJ.bool).toArray,
  ⟨⟨_,cU _ rfl,rfl,rfl⟩,hl.push _⟩,λi v s' Q' E' hP hQ=>?_,λh' tk hk=>?_⟩
 ·have hP:(bs.map bJ.bool)[i]?=some v:=by simpa using hP
  rw[cu]at hP;obtain⟨b,hb,rfl⟩:=dz.mp hP;simp only[hb,Option.getD_some]at hQ;exact gL hQ
 ·have e:((bR (bs.map bJ.bool).toArray.size).all λi=>(bs[i]?).getD true)=bs.all id:=by rw[cv,bQ];exact PyProof.Rows.LSm.range_all bs
  rw[e];refine⟨.bl (bs.all id),H,I.kept (t':=tk) λb o KF=>hk b o (λhm=>?_) (bT _ KF),rfl,q⟩;rw[bU.mp hm]at KF;exact fY _ (cw KF)
noncomputable def iC:List D->Option (List Int)
 |[]=>some []
 |.int i::ds=>(iC ds).bind λns=>some (i::ns)
 |_=>none
theorem OV:∀{ds:List D} {ns:List Int},iC ds=some ns->ds=ns.map .int
 |[],_,e=>by cases e;rfl
 |d::ds,ns,e=>by
  cases d with
  |int i=>obtain⟨ms,h1,h2⟩:=cx (show(iC ds).bind _=_ from e);cases h2;rw[OV h1];rfl
  |_=>cases e
theorem j6:∀ns:List Int,iC (ns.map .int)=some ns
 |[]=>rfl
 |n::ns=>by show(iC (ns.map .int)).bind _=_;rw[j6 ns];rfl
theorem Pr.intV {F G:Hp}:∀{ns:List Int} {vs:List V},Pr (Al K ct F G n) (ns.map .int) vs->vs=ns.map V.int
 |[],_,.nil=>rfl
 |i::ns,_,.cons h t=>by rw[Pr.intV t,h.int];rfl
noncomputable def rN:List D->Option (List Bool)
 |[]=>some []
 |.bl i::ds=>(rN ds).bind λns=>some (i::ns)
 |_=>none
theorem j7:∀{ds:List D} {ns:List Bool},rN ds=some ns->ds=ns.map .bl
 |[],_,e=>by cases e;rfl
 |d::ds,ns,e=>by
  cases d with
  |bl i=>obtain⟨ms,h1,h2⟩:=cx (show(rN ds).bind _=_ from e);cases h2;rw[j7 h1];rfl
  |_=>cases e
theorem Pr.blV {F G:Hp}:∀{ns:List Bool} {vs:List V},Pr (Al K ct F G n) (ns.map .bl) vs->vs=ns.map V.bl
 |[],_,.nil=>rfl
 |i::ns,_,.cons h t=>by rw[Pr.blV t,h.bl];rfl
def vT:List Int->Option Int
 |[]=>none
 |x::xs=>some (xs.foldl max x)
def Hw:List Int->Option Int
 |[]=>none
 |x::xs=>some (xs.foldl min x)
theorem Pq:∀(xs:List Int) (x:Int),(xs.foldl max x=x\/xs.foldl max x∈xs)/\x<=xs.foldl max x/\∀z∈xs,z<=xs.foldl max x
 |[],x=>⟨.inl rfl,gZ _,λz h=>by cases h⟩
 |y::xs,x=>by
  obtain⟨h1,h2,h3⟩:=Pq xs (max x y);refine⟨?_,by show x<=xs.foldl max (max x y);omega,λz hz=>?_⟩
  ·rcases h1 with h1|h1
   ·show xs.foldl max (max x y)=x\/xs.foldl max (max x y)∈y::xs;rw[h1];rcases wM x y with h|h
    ·rw[Int.max_eq_right h];exact .inr bH
    ·rw[Int.max_eq_left h];exact .inl rfl
   ·exact .inr (bK _ h1)
  ·rcases bY.mp hz with rfl|hz
   ·show z<=xs.foldl max (max x z);omega
   ·exact h3 z hz
theorem Ps:∀(xs:List Int) (x:Int),(xs.foldl min x=x\/xs.foldl min x∈xs)/\xs.foldl min x<=x/\∀z∈xs,xs.foldl min x<=z
 |[],x=>⟨.inl rfl,gZ _,λz h=>by cases h⟩
 |y::xs,x=>by
  obtain⟨h1,h2,h3⟩:=Ps xs (min x y);refine⟨?_,by show xs.foldl min (min x y)<=x;omega,λz hz=>?_⟩
  ·rcases h1 with h1|h1
   ·show xs.foldl min (min x y)=x\/xs.foldl min (min x y)∈y::xs;rw[h1];rcases wM x y with h|h
    ·rw[Int.min_eq_left h];exact .inl rfl
    ·rw[Int.min_eq_right h];exact .inr bH
   ·exact .inr (bK _ h1)
  ·rcases bY.mp hz with rfl|hz
   ·show xs.foldl min (min x z)<=z;omega
   ·exact h3 z hz
theorem uc {ns:List Int}{M:Int}(h:vT ns=some M):M∈ns/\∀z∈ns,z<=M:=by
 cases ns with
 |nil=>cases h
 |cons x xs=>
  cases h;obtain⟨h1,h2,h3⟩:=Pq xs x;refine⟨?_,λz hz=>?_⟩
  ·rcases h1 with h1|h1
   ·rw[h1];exact bH
   ·exact bK _ h1
  ·rcases bY.mp hz with rfl|hz
   ·exact h2
   ·exact h3 z hz
theorem Xf {ns:List Int}{M:Int}(h:Hw ns=some M):M∈ns/\∀z∈ns,M<=z:=by
 cases ns with
 |nil=>cases h
 |cons x xs=>
  cases h;obtain⟨h1,h2,h3⟩:=Ps xs x;refine⟨?_,λz hz=>?_⟩
  ·rcases h1 with h1|h1
   ·rw[h1];exact bH
   ·exact bK _ h1
  ·rcases bY.mp hz with rfl|hz
   ·exact h2
   ·exact h3 z hz
noncomputable def wK:List D->Option D
 |[.lst ds]=>(iC ds).bind λns=>some (.int ns.sum)
 |_=>none
noncomputable def oX:List D->Option D
 |[.lst ds]=>(iC ds).bind λns=>(vT ns).bind λM=>some (.int M)
 |_=>none
noncomputable def B0:List D->Option D
 |[.lst ds]=>(iC ds).bind λns=>(Hw ns).bind λM=>some (.int M)
 |_=>none
noncomputable def GG:List D->Option D
 |[.lst ds]=>(rN ds).bind λbs=>some (.bl (bs.all id))
 |_=>none
theorem ji {vs:List V}{ns:List Int}(s:c9 F H)(l:nH K ct F H [n] [.lst ds] vs)(e:iC ds=some ns):∃a,vs=[.ref a]/\jU K H a (ns.map V.int):=by
 cases l with
 |cons h t=>cases t;obtain⟨a,us,rfl,ha,hp⟩:=h.lst s;have:=OV e;subst this;have:=hp.intV;subst this;exact⟨a,rfl,ha⟩
theorem JA:Bu K ct [n] k (λxs H Q=>∃(a:bO) (ns:List Int),xs=[.ref a]/\jU K H a (ns.map V.int)/\Q (.int ns.sum) H) wK:=by
 intro F H vs ds d Q s l e w
 match ds,l,e with
 |[.lst xs],l,e=>obtain⟨ns,h1,h2⟩:=cx (show(iC xs).bind _=_ from e);cases h2;obtain⟨a,rfl,ha⟩:=ji s l h1;exact⟨a,ns,rfl,ha,w _ F H (.refl s) (Al.of (.int _))⟩
theorem JB:Bu K ct [n] k (λxs H Q=>∃(a:bO) (ns:List Int),xs=[.ref a]/\jU K H a (ns.map V.int)/\ns≠[]/\∀M,M∈ns->(∀z∈ns,z<=M)->Q (.int M) H) oX:=by
 intro F H vs ds d Q s l e w
 match ds,l,e with
 |[.lst xs],l,e=>obtain⟨ns,h1,h2⟩:=cx (show(iC xs).bind _=_ from e);obtain⟨M,h3,h4⟩:=cx h2;cases h4;obtain⟨a,rfl,ha⟩:=ji s l h1;obtain⟨m1,m2⟩:=uc h3;refine⟨a,ns,rfl,ha,(λz=>by rw[z]at m1;cases m1),λM' h5 h6=>?_⟩;have:M'=M:=sk (m2 M' h5) (h6 M m1);subst this;exact w _ F H (.refl s) (Al.of (.int _))
theorem Zd:Bu K ct [n] k (λxs H Q=>∃(a:bO) (ns:List Int),xs=[.ref a]/\jU K H a (ns.map V.int)/\ns≠[]/\∀M,M∈ns->(∀z∈ns,M<=z)->Q (.int M) H) B0:=by
 intro F H vs ds d Q s l e w
 match ds,l,e with
 |[.lst xs],l,e=>obtain⟨ns,h1,h2⟩:=cx (show(iC xs).bind _=_ from e);obtain⟨M,h3,h4⟩:=cx h2;cases h4;obtain⟨a,rfl,ha⟩:=ji s l h1;obtain⟨m1,m2⟩:=Xf h3;refine⟨a,ns,rfl,ha,(λz=>by rw[z]at m1;cases m1),λM' h5 h6=>?_⟩;have:M'=M:=sk (h6 M m1) (m2 M' h5);subst this;exact w _ F H (.refl s) (Al.of (.int _))
theorem Ze:Bu K ct [n] k (λxs H Q=>∃(a:bO) (bs:List Bool),xs=[.ref a]/\jU K H a (bs.map V.bl)/\Q (.bl (bs.all id)) H) GG:=by
 intro F H vs ds d Q s l e w
 match ds,l,e with
 |[.lst xs],l,e=>
  obtain⟨bs,h1,h2⟩:=cx (show(rN xs).bind _=_ from e);cases h2;cases l with
  |cons h t=>cases t;obtain⟨a,us,rfl,ha,hp⟩:=h.lst s;have:=j7 h1;subst this;have:=hp.blV;subst this;exact⟨a,bs,rfl,ha,w _ F H (.refl s) (Al.of (.bl _))⟩
def oM (H:Hp)(x:bO):Hp:=λb=>if b=x then none else H b
theorem vh (H:Hp)(x:bO):c9 (oM H x) H:=λb o h=>by
 unfold oM at h;by_cases e:b=x
 ·rw[if_pos e]at h;cases h
 ·rw[if_neg e]at h;exact h
theorem Il (H:Hp)(x:bO):oM H x x=none:=if_pos rfl
theorem xf {x b:bO}(h:b≠x):oM H x b=H b:=if_neg h
noncomputable def zJ (K:bM)(ct:Nat->bO)(cs:List Nat)(pm:List Nat)(mi:Nat->List D->Option D):Sp:=λvs H Q _=>∃(F:Hp) (c:Nat) (ds:List D) (d:D) (x dx:bO) (us:List V),c∈cs/\vs=.ref x::us/\H x=some (.ins (ct c) dx [])/\F x=none/\c9 F H/\nH K ct F (oM H x) pm ds us/\mi c ds=some d /\
 ∀F' H',c9 F F'->c9 (oM H x) H'->c9 F' H'->(∀a o,oM H x a=some o->ng o->F a=none->F' a=none)->F' x=none->Ow K ct F' H' 1 d (.ref x) [x]->Q .non H'
variable {mi:Nat->List D->Option D}
theorem zJ.len (h:pm.length+1=ps.length):∀vs H Q E,zJ K ct cs pm mi vs H Q E->vs.length=ps.length:=by rintro vs H Q E ⟨F,c,ds,d,x,dx,us,_,rfl,_,_,_,l,_⟩;rw[b8,l.length,h]
noncomputable def CJ (N:List Str)(b:SF)(c:Nat)(ds:List D):Option D:=(b (some (.obj c [] [])::startD N.tail ds)).bind λo=>match o with
 |.nx ρ=>(ρ[0]?).join
 |_=>none
variable {N0:Str}
theorem Wj {w:dB}{fd:b5}(Fn:Fun2 K x qual st fa fd)(S:iN (N0::N) ps (dh st))(BO:pm.length+1=ps.length)(EQ:ms.length=N.length)(mW:pm.length<=N.length)
  (C5:∀(i n:Nat),pm[i]?=some n->ms[i]?=some (Mo.al n)\/(n=0/\ms[i]?=some (Mo.ow 0)))
  (body:∀(x:bO) (jS:bJ) (A:c8) (outer:List PySem.Env) (s:bV) (H:Hp) (E:XK),fC kk (A.deeper (envOfC qual (dh st) s.heap.objs.size fa jS))->vE (pE gx P w K mg base (N0::N) qual (dh st) fa jS A outer s H E).nox ct (.so x::ms) rk (gA st) bf) :
  dD P w K mg base gx (kk+1) fa fd ps (zJ K ct cs pm (CJ (N0::N) bf)):=by
 refine Fn.ok S (zJ.len BO) λjS A outer s H vs Q E hr h=>?_;obtain⟨F,c,ds,d,x,dx,us,hc,rfl,hx,hF,sF,l,hm,q⟩:=h;obtain⟨t,pt,qt⟩:=body x jS A outer s H E hr;refine⟨t,pt,?_⟩;obtain⟨o,h1,h2⟩:=cx hm;have hdl:ds.length=us.length:=l.length';have Ll:us.length=pm.length:=l.length;have ow:Ow K ct F H 1 (.obj c [] []) (.ref x) [x]:=.inr (Bw.obj (vs:=[]) hF hx rfl .nil);have Up:c9 F (oM H x):=λb o hb=>by rw[xf (λe=>by rw[e,hF]at hb;cases hb)];exact sF _ _ hb
 refine qt F (oM H x) F H (some (.obj c [] [])::startD N ds) (L2.start (N0::N) (.ref x::us)) o _ ⟨.refl _,vh H x,sF,λ_ _ _ _ h=>h,[x],?_,by simp,λa z=>by rw[bU]at z;subst z;exact Il H _⟩ h1 ?_
 ·have e:L2.start (N0::N) (.ref x::us)=some (.ref x)::(us.map some++bW (N.length-us.length) none):=by unfold L2.start;simp
  rw[e];unfold startD;rw[hdl];exact SL.so (fp:=[]) ow (SL.start _ l C5 (by omega))
 ·cases o with
  |nx ρ=>
   intro σ F' H' r;obtain⟨fp,sl,nd,hb⟩:=r.sl;cases sl with
   |no _=>cases h2
   |so E6 _=>cases h2;exact q F' H' r.f0 r.bh r.fh r.nf (E6.cells x bH).1 E6
  |rt d'=>cases h2
  |bk ρ=>cases h2
  |ct ρ=>cases h2
theorem zev {f:Str}{y:V}:∀{ns:List Str} {vs:List V},ns.length=vs.length->ns.contains f=false->nL f y (ns.zip vs)=(ns++[f]).zip (vs++[y])
 |[],[],_,_=>rfl
 |[],_::_,h,_=>by simp at h
 |_::_,[],h,_=>by simp at h
 |n::ns,v::vs,h,hc=>by
  rw[pf,xJ]at hc;have hn:¬n=f:=λe=>by rw[e]at hc;simp at hc
  have ih:=zev (f:=f) (y:=y) (ns:=ns) (vs:=vs) (by simpa using h) hc.2;show nL f y ((n,v)::ns.zip vs)=(n,v)::(ns++[f]).zip (vs++[y]);rw[←ih];show(if n=f then _ else _)=_;rw[if_neg hn]
theorem Ow.obj_inv {c:Nat}{ns:List Str}{v:V}(h:Ow K ct F H (k+1) (.obj c ns ds) v fp):∃a dx vs fr,v=.ref a/\fp=a::fr/\F a=none/\H a=some (.ins (ct c) dx (ns.zip vs))/\ns.length=vs.length/\iI (Ow K ct F H k) ds vs fr:=by
 rcases h with⟨h,_⟩|h
 ·cases h
 ·cases h with
  |obj h1 h2 h3 h4=>exact⟨_,_,_,_,rfl,rfl,h1,h2,h3,h4⟩
variable {C:bO}
section
variable {x0:bO}
noncomputable def jE (cs:List Nat)(x:Str)(f:EF):SF:=λρ=>(f ρ).bind λd=>(eV 0 ρ).bind λo=>match o with
 |.obj c ns ds=>if cs.contains c=true/\ns.contains x=false/\ns.length<900 then some (.nx (ρ.set 0 (some (.obj c (ns++[x]) (ds++[d])))))else none
 |_=>none
theorem RS.self {F' H':Hp}(rs:RS K ct F0 B (.so x0::ms) F H ρ σ)(hd:ρ[0]?=some (some d)):σ[0]?=some (some (.ref x0))/\Ow K ct F H 1 d (.ref x0) [x0]/\B x0=none /\
  ∀(F' H':Hp) (d':D),c9 F F'->c9 B H'->c9 F' H'->(∀a o,B a=some o->ng o->F0 a=none->F' a=none)->(∀a o,H a=some o->a≠x0->H' a=some o)->(∀a o,H a=some o->a≠x0->ng o->F a=none->F' a=none)->Ow K ct F' H' 1 d' (.ref x0) [x0]->RS K ct F0 B (.so x0::ms) F' H' (ρ.set 0 (some d')) σ:=by
 obtain⟨fp,sl,nd,hb⟩:=rs.sl;cases sl with
 |no _=>simp at hd
 |so ow t=>simp at hd;subst hd;refine⟨rfl,ow,hb _ bH,λF' H' d' s1 s2 s3 s4 k1 k2 o'=>⟨rs.f0.trans s1,s2,s3,s4,_,.so o' (t.frame s1 λa z=>?_),nd,hb⟩⟩;obtain⟨hn,o,ho,nt⟩:=t.cells a z;have ne:a≠x0:=λe=>(cW.mp nd).1 (by rw[←e];exact z);exact⟨(k1 a o ho ne).trans ho.symm,k2 a o ho ne nt hn⟩
theorem wf {s:Str}(hc:∀c∈cs,pw X.K (ct c)/\gJ X.K (ct c) x)(he:XE X ct (.so x0::ms) 0 e f)(hN:X.N[0]?=some s:=by rfl)(hv:vD X.env.scope s:=by walk_at "v1")(hd:lS s:=by decide)
  (mP:xD s:=by decide) (hs:gq e (some (.Attribute (.Name s p1) x pos')) pos.line X.env=pure false:=by rfl):XS X ct (.so x0::ms) rk (.Assign [.Attribute (.Name s p1) x pos'] e pos) (jE cs x f):=by
 obtain⟨t,pt,qt⟩:=he;refine⟨_,ZT (yp hN hv hd mP) pt hs,λF0 B F H ρ σ o E rs e z=>?_⟩;obtain⟨d,h1,h2⟩:=cx e;obtain⟨ob,h3,h4⟩:=cx h2;refine qt F0 B F H ρ σ d _ rs h1 λy F1 H1 x1 l=>?_;have ou:=rs.ext x1;obtain⟨hσ,ow,hB,put⟩:=ou.self (F':=F) (H':=H) (zt h3);refine⟨_,hσ,?_⟩;cases ob with
 |obj c ns ds=>
  dsimp only at h4;by_cases hz:cs.contains c=true/\ns.contains x=false/\ns.length<900
  ·rw[if_pos hz]at h4;cases h4;obtain⟨a,dx,vs,fr,e1,e2,hF,hH,hl,ol⟩:=ow.obj_inv;cases e1;cases e2;have hh:=hc c (by simpa using hz.1);refine⟨x0,_,dx,_,rfl,hH,hh.1,hh.2,by rw[iu,←hl,lL];omega,?_⟩;rw[zev hl hz.2.1];refine z σ F1 _ (put F1 _ _ (.refl _) (λb o h=>?_) (λb o h=>?_) ou.nf (λb o h ne=>by rw[zj ne];exact h) (λb o h ne _ hn=>hn) (.inr (Bw.obj (vs:=vs++[y]) hF zo (by simp[hl]) ?_)))
   ·rw[zj (λe=>by rw[e,hB]at h;cases h)];exact ou.bh _ _ h
   ·rw[zj (λe=>by rw[e,hF]at h;cases h)];exact ou.fh _ _ h
   ·have o1:iI (Ow X.K ct F1 (upd H1 x0 (.ins (ct c) dx ((ns++[x]).zip (vs++[y])))) 0) ds vs []:=ol.mono λ_ _ _ _ q=>⟨q.1,q.2⟩;have:=o1.append (iI.cons (f:=[]) (g:=[]) (R:=Ow X.K ct F1 (upd H1 x0 (.ins (ct c) dx ((ns++[x]).zip (vs++[y])))) 0) ⟨l,rfl⟩ .nil);exact this
  ·rw[if_neg hz]at h4;cases h4
 |_=>cases h4
variable {fd:b5}
theorem Zf (M:Mk X.K (ct c0) fa)(BG:c0∈cs)(Fn:dD X.prog X.w X.K X.mg X.base gx kk fa fd ps (zJ X.K ct cs (ns++nd) mi))(hr:fC (kk+1) X.A)(hg:Gl X x)(hm:X.mg x=some (.ref (ct c0)))
  (hb:fQ X.K fd ps rE) (hd:dm lT rE) (BH:∀F G,nH X.K ct F G nd pQ lT) (ha:XA X ct ms (e::es) ns fs)
  (mn:lS x:=by decide) (he:SE X e es:=by rfl) (jB:pV X pos es:=by rfl) :
  XO X ct ms 1 (.Call (.Name x pp) (e::es) [] pos) (λρ=>(fs ρ).bind λds=>mi c0 (ds++pQ)):=by
 obtain⟨t,pt,_,qt⟩:=ha;refine⟨_,Yv M Fn hr hg hm hb hd tZ pt mn he jB,λF0 B F H ρ σ r Q rs e w=>?_⟩;obtain⟨ds,h1,h2⟩:=cx e;refine qt F0 B F H ρ σ ds _ rs h1 λvs F1 H1 x1 l y dy hy KS nU=>?_;have sH:c9 H1 (oM (upd (upd H1 dy (.own y)) y (.ins (ct c0) dy [])) y):=λb o h=>by have n1:b≠y:=zl h hy;rw[xf n1,zj n1,zj (zl h KS)];exact h
 have LP:c9 H1 (upd (upd H1 dy (.own y)) y (.ins (ct c0) dy [])):=sH.trans (vh _ _);refine⟨F1,c0,ds++pQ,r,y,dy,vs++lT,BG,rfl,zo,x1.fh.free hy,x1.fh.trans LP,nH.mono (.refl _) sH (nH.append (BH F1 H1) l),h2,λF' H' s1 s2 s3 s4 hn ow=>⟨rfl,?_⟩⟩;refine w _ F' H' [y] ⟨x1.ff.trans s1,(x1.hh.trans sH).trans s2,s3,λb o h t n=>s4 b o (sH _ _ (x1.hh _ _ h)) t (x1.nf b o h t n)⟩ ow (by simp) λb z=>?_;rw[bU]at z;subst z;exact x1.hh.free hy
theorem Xg {sp:Sp}{ds:List bJ}{E:XK}{m:Str}{p:mE}{t:TA}{mc:bJ}(Fn:dD X.prog X.w X.K X.mg X.base gx kk fa fd ps sp)(hr:fC kk X.A)(hg:Gl X x)(hm:X.mg x=some (.ref C))
  (h1:eL X.K (.ref C) "__getattribute__"=some (some (.builtin "type.__getattribute__"))) (h2:kM X.K C mc=true) (h3:kL X.K (.ref C) mc m=some (.val (.ref fa))) (hk:dY X.K (.ref fa)=true) (hb:fQ X.K fd ps ds) (hd:dm lT ds) (hx:nS gx X E) (ha:PA X (e::es) t)
  (mn:lS x:=by decide) (k7:SE X e es:=by rfl) (jB:pV X pos es:=by rfl)
  (ht:dR (.Call (.Attribute (.Name x p) m fK) (e::es) [] pos) X.env=(do
   let ov ← dR (.Name x p) X.env
   jN fK.atName
   let(f,first) ← fV [ov] (kz ov m pl)
   mS pos f first (iD pos (cT (e::es) X.env)) (ij pos (eO [] X.env))):=by rfl) :
  PE X (.Call (.Attribute (.Name x p) m fK) (e::es) [] pos) (Ec sp lT E t):=by
 intro bL s σ H Q I h;refine iq (pl:=pl) (wj I hg hm ?_ mn) ht;refine xA I.kIn h1 (xO I.kIn h2 h3 rfl ?_);have I1:Inv X bL σ H { s with toks:=s.toks+1 }:=I.tok _;refine gP (first:=[]) (h₀:=X.base) I.ok.mod.kin hk (eT (ha pos bL _ σ H _ I1 h) λus s2 ⟨vs,H2,I2,r,q2⟩=>⟨I2.kIn,?_⟩) k7 jB;exact JK (us:=us) (vs:=vs) Fn hr hb hd hx I2 r q2
theorem nH.flat {vs:List V}(h:nH K ct F G ns ds vs)(e:ns.all (· == 0)=true):nH K ct F G' ns ds vs:=by
 induction h with
 |nil=>exact .nil
 |cons h t ih=>rw[fX,c7]at e;cases eq_of_beq e.1;exact .cons h (ih e.2)
noncomputable def uR (cs:List Nat)(fs:Env->Option (List D))(mi:Nat->List D->Option D):SF:=λρ=>(eV 0 ρ).bind λo=>(fs ρ).bind λds=>match o with
 |.obj c [] []=>if cs.contains c=true then(mi c ds).bind λd=>some (.nx (ρ.set 0 (some d)))else none
 |_=>none
theorem MP {s m:Str}{p:mE}{mc:bJ}(Fn:dD X.prog X.w X.K X.mg X.base gx kk fa fd ps (zJ X.K ct cs ns mi))(hr:fC kk X.A)(hm:X.mg x=some (.ref C))
  (h1:eL X.K (.ref C) "__getattribute__"=some (some (.builtin "type.__getattribute__"))) (h2:kM X.K C mc=true) (h3:kL X.K (.ref C) mc m=some (.val (.ref fa))) (hk:dY X.K (.ref fa)=true) (hb:fQ X.K fd ps []) (hz:ns.all (· == 0)=true) (ha:XA X ct (.so x0::ms) es ns fs)
  (hg:Gl X x:=by rfl) (hN:X.N[0]?=some s:=by rfl) (hv:vD X.env.scope s:=by walk_at "v1") (hd:lS s:=by decide)
  (mP:xD s:=by decide) (mn:lS x:=by decide) (k7:cT (.Name s p1::es) X.env=(false,dR (.Name s p1) X.env)::cT es X.env:=by rfl) (jB:pV X fW es:=by rfl)
  (ht:dR (.Call (.Attribute (.Name x p) m fK) (.Name s p1::es) [] fW) X.env=(do
   let ov ← dR (.Name x p) X.env
   jN fK.atName
   let(f,first) ← fV [ov] (kz ov m pl)
   mS fW f first (iD fW (cT (.Name s p1::es) X.env)) (ij fW (eO [] X.env))):=by rfl)
  (BV:gq (.Call (.Attribute (.Name x p) m fK) (.Name s p1::es) [] fW) none pos.line X.env=pure false:=by rfl) :
  XS X ct (.so x0::ms) rk (.Expr (.Call (.Attribute (.Name x p) m fK) (.Name s p1::es) [] fW) pos) (uR cs fs mi):=by
 obtain⟨t,pt,_,qt⟩:=ha;refine⟨_,jp (Xg (E:=E0) Fn hr hg hm h1 h2 h3 hk hb .nil tZ (z9 (yp hN hv hd mP) pt k7) mn k7 jB ht) BV,λF0 B F H ρ σ o E rs e z=>?_⟩;obtain⟨ob,ds,g1,g2,g3⟩:=fJ e;obtain⟨hσ,ow,hB,put⟩:=rs.self (F':=F) (H':=H) (zt g1);refine⟨_,hσ,qt F0 B F H ρ σ ds _ rs g2 λvs F1 H1 x1 l=>?_⟩;have ou:=rs.ext x1;obtain⟨hσ,ow,hB,put⟩:=ou.self (F':=F) (H':=H) (zt g1)
 match ob,g3,ow with
 |.obj c [] [],g3,ow=>
  dsimp only at g3;by_cases hc:cs.contains c=true
  ·rw[if_pos hc]at g3;obtain⟨d,g4,g5⟩:=cx g3;cases g5;obtain⟨a,dx,us,fr,e1,e2,hF,hH,hl,ol⟩:=ow.obj_inv;cases e1;cases e2;refine⟨F1,c,ds,d,x0,dx,vs++[],by simpa using hc,rfl,hH,hF,x1.fh,?_,g4,λF' H' s1 s2 s3 s4 hn o'=>?_⟩
   ·rw[cP];exact l.flat hz
   ·have sB:c9 B (oM H1 x0):=λb o h=>by rw[xf (λe=>by rw[e,hB]at h;cases h)];exact ou.bh _ _ h
    exact z σ F' H' (put F' H' d s1 (sB.trans s2) s3 (λb o h t n=>s4 b o (sB _ _ h) t (ou.nf b o h t n)) (λb o h ne=>s2 _ _ (by rw[xf ne];exact h)) (λb o h ne t Bd=>s4 b o (by rw[xf ne];exact h) t Bd) o')
  ·rw[if_neg hc]at g3;cases g3
end
structure lN (K:bM)(mg:Str->Option bJ)(x:Str)(st:dO)(ps:List Str)(f:bO)(fd:b5):Prop where
 fn:Fun2 K x x st f fd
 mgx:mg x=some (.ref f)
 bd:fQ K fd ps []
structure Dm (K:bM)(C:bO)(m qual:Str)(st:dO)(ps:List Str)(f:bO)(fd:b5):Prop where
 fn:Fun2 K m qual st f fd
 me:xT K C m f
 bd:fQ K fd ps []
structure Dc (K:bM)(mg:Str->Option bJ)(x:Str)(C:bO):Prop where
 cl:pw K C
 mgx:mg x=some (.ref C)
 mks:qF K C=true
 kp:dY K (.ref C)=true
structure Dq (K:bM)(C:bO)(m:Str)(f:bO):Prop where
 sp:eL K (.ref C) "__getattribute__"=some (some (.builtin "type.__getattribute__"))
 rd:kM K C (.type "type")=true
 fc:kL K (.ref C) (.type "type") m=some (.val (.ref f))
variable {an od:Option bO}{jS dV doc oc:bJ}{CL:Array (Option bJ)}
theorem Qw {f:bO}{kV pm ct:bJ}(l:K.lookup f=some ⟨oc,od,.func (mU x qual (kZ st) (gA st) (dh st) dV kV doc pm an jS ct),CL⟩)
  (c:rC K jS qual=true) (k:dY K (.ref f)=true):Fun2 K x qual st f (mU x qual (kZ st) (gA st) (dh st) dV kV doc pm an jS ct):=⟨⟨oc,od,dV,kV,doc,pm,an,jS,ct,CL,rfl,l,c⟩,k⟩
variable {T:bO}{items:Array bJ}
theorem YK {fd:b5}{ds:List bJ}{o:gF}(hd:fd.defaults=.ref T)(ho:K.lookup T=some o)(hs:o.data=.seq items n)
  (h:∀us:List bJ,(us++ds).length=ps.length->∃k,bindArgs fd ⟨us,[]⟩=seqItems? fd.defaults >>= k/\k (some items)=pure (ps.zip (us++ds))):fQ K fd ps ds:=λs us X hl=>by
 obtain⟨k,h1,h2⟩:=h us hl;exact PySem.W.binds_K X hd ho hs h1 h2
theorem Qx (m:Nat){fd:b5}{ds:List bJ}{o:gF}(ho:K.lookup T=some o)(h:∀us:List bJ,us.length=m->∃k,bindArgs fd ⟨us,[]⟩=seqItems? fd.defaults >>= k/\k (some items)=pure (ps.zip (us++ds)))(hd:fd.defaults=.ref T:=by rfl)(hs:o.data=.seq items n:=by rfl)(hm:m+ds.length=ps.length:=by rfl):fQ K fd ps ds :=
 YK hd ho hs λus hl=>h us (by rw[cn]at hl;omega)
noncomputable def J0 (x:Str):It:=⟨λi _=>∃c,x.cps[i]?=some c,λi H v H'=>H'=H/\∃c,x.cps[i]?=some c/\v=.str ⟨#[c]⟩,λi _=>x.cps[i]?=none⟩
theorem Xh {w:dB}(x:Str)(t:Tok)(it:bO):Turn P w K tg (J0 x) [it] it (λi h=>h.IsStrIter it (ez x) x t i) where
 mem:=by simp
 obj:=λi h st b hb=>by
  have e:b=it:=by simpa using hb
  subst e;obtain⟨o,e,c,d⟩:=st;exact⟨o,e,λv z=>by rw[d]at z;cases z⟩
 keep:=λi h h' st k=>by obtain⟨o,e,c,d⟩:=st;exact⟨o,k it (by simp) o e,c,d⟩
 item:=by
  intro X hP hw hK hc i bL s σ H E I hf st hg;subst hP hw hK;obtain⟨c,hx⟩:=hg;obtain⟨f0,f1,f2,f3,f4,f5⟩:=hf it (by simp);have fin:∀h':cz,h'.IsStrIter it (ez x) x t (i+1)->lC it s.heap h'->cj (b9 X.prog X.w) X.A (lW tg (.ref it) (.str ⟨#[c]⟩ s.toks)) (λ_ s2=>∃v H',Inv X bL σ H' s2/\RelV v (.str ⟨#[c]⟩ s.toks)/\(J0 x).yld i H v H'/\s2.heap.IsStrIter it (ez x) x t (i+1)/\∀b∈[it],H' b=none) E { s with heap:=h',toks:=s.toks+1 }:=λh' Bi sb=>by have I1:Inv X bL σ H { s with heap:=h',toks:=s.toks+1 }:=I.turned (t':=s.toks+1) (λb o hb e=>(sb.2 b hb).trans e) f0 f1 f3 f4 f5;obtain⟨o,e,cc,d⟩:=id Bi;refine Nn (s:={ s with heap:=h',toks:=s.toks+1 }) e cc d ?_ ⟨.str ⟨#[c]⟩,H,I1,⟨_,rfl⟩,⟨rfl,c,hx,rfl⟩,Bi,λb hb=>(hf b hb).1⟩;unfold ez;split<;>decide
  cases ha:x.cps.all (·<128)with
  |true=>
   have e:ez x = "str_ascii_iterator":=by unfold ez;rw[ha];rfl
   rw[e]at st fin;exact wpAny_pyNext_ascii_item st hx λh' Bi sb=>⟨_,rfl,by rw[e];exact fin h' Bi sb⟩
  |false=>
   have e:ez x = "str_iterator":=by unfold ez;rw[ha];rfl
   rw[e]at st fin;exact wpAny_pyNext_wide_item st hx λh' Bi sb=>⟨_,rfl,by rw[e];exact fin h' Bi sb⟩
 done:=by
  intro X hP hw hK hc i bL s σ H E I hf st hg;subst hP hw hK;obtain⟨f0,f1,f2,f3,f4,f5⟩:=hf it (by simp);cases ha:x.cps.all (·<128)with
  |true=>
   have e:ez x = "str_ascii_iterator":=by unfold ez;rw[ha];rfl
   rw[e]at st;exact wpAny_pyNext_ascii_end (I.ok.hd hc) st hg λh' eb=>⟨rfl,I.turned (t':=s.toks) (λb o hb e=>eb b o hb e) f0 f1 f3 f4 f5⟩
  |false=>
   have e:ez x = "str_iterator":=by unfold ez;rw[ha];rfl
   rw[e]at st;exact wpAny_pyNext_wide_end (I.ok.hd hc) st hg λh' eb=>⟨rfl,I.turned (t':=s.toks) (λb o hb e=>eb b o hb e) f0 f1 f3 f4 f5⟩
 self:=λA i s Q E st h=>by
  cases ha:x.cps.all (·<128)with
  |true=>
   have e:ez x = "str_ascii_iterator":=by unfold ez;rw[ha];rfl
   rw[e]at st;exact wpAny_pyIter_striter_ascii st h
  |false=>
   have e:ez x = "str_iterator":=by unfold ez;rw[ha];rfl
   rw[e]at st;exact wpAny_pyIter_striter_wide st h
noncomputable def Lu (tl:TE):TI:=λσ H R=>tl σ H λx H1=>∃z,x=.str z/\R (J0 z) H1
theorem zr8 {l:Expr}{tl:TE}(hl:PE X l tl):PI X tg l (Lu tl):=by
 intro bL s σ H R I h;refine eT (hl bL s σ H _ I h) λv s1 f7=>?_;obtain⟨x,H1,I1,r,z,e,q⟩:=f7;subst e;obtain⟨t,rfl⟩:=r;refine wpAny_pyIter_strU ?_;refine⟨s1.heap.objs.size,[s1.heap.objs.size],_,_,H1,rfl,I1.kept (t':=s1.toks) λb o e=>bT _ e,(Xh z t _).ok,⟨_,cU _ rfl,rfl,rfl⟩,λb hb=>?_,q⟩;have e:b=s1.heap.objs.size:=by simpa using hb
 subst e;exact I1.fpOk (b7 _) (I1.hok.fresh (b7 _))
def yR (x:Str):List D:=x.cps.toList.map λc=>.str ⟨#[c]⟩
def NE:D->Option (List D)
 |.str x=>some (yR x)
 |_=>none
theorem zr9 (he:XE X ct ms m e f):XI X ct ms n tg e (λρ=>(f ρ).bind NE):=by
 obtain⟨t,pt,qt⟩:=he;refine⟨_,zr8 pt,λF0 B F H ρ σ ds R rs e w=>?_⟩;obtain⟨d,h1,h2⟩:=cx e;refine qt F0 B F H ρ σ _ _ rs h1 λv F' H' x l=>?_;cases d with
 |str z=>
  cases h2;refine⟨z,l.str,w _ F' H' x λi F2 H2 s1 s2 s3=>⟨λd hd=>?_,λhl=>?_⟩⟩
  ·unfold yR at hd;rw[cu]at hd;obtain⟨c,hc,rfl⟩:=dz.mp hd;have DV:z.cps[i]?=some c:=by simpa using hc
   refine⟨⟨c,DV⟩,λy H3 hy=>?_⟩;obtain⟨rfl,c2,h3,rfl⟩:=hy;rw[DV]at h3;cases h3;exact⟨F2,.refl s3,Al.of (.str _)⟩
  ·unfold yR at hl;rw[bQ,dr]at hl;exact Array.getElem?_eq_none hl
 |_=>cases h2
theorem Xi [DecidableEq κ](k:κ)(v:V):∀{ks:List κ} {vs:List V},ks.length=vs.length->putK (ks.zip vs) k v=(if ks.contains k=true then ks.zip ((ks.zip vs).map λp=>if p.1=k then v else p.2)else(ks++[k]).zip (vs++[v])):=by
 intro ks vs hl;unfold putK;have e:((ks.zip vs).any λkv=>decide (kv.1=k))=ks.contains k:=by
  rw[Bool.eq_iff_iff,qQ,List.contains_iff_mem];constructor
  ·rintro⟨p,hp,he⟩;have:=decide_eq_true_iff.mp he;rw[←this];exact(kY hp).1
  ·intro hk;obtain⟨i,hi,rfl⟩:=List.getElem_of_mem hk;exact⟨(ks[i],vs[i]'(by omega)),gE.mpr ⟨i,by simp;omega,by simp⟩,by simp⟩
 rw[e];by_cases h:ks.contains k=true
 ·rw[if_pos h,if_pos h];clear e h;induction ks generalizing vs with
  |nil=>simp
  |cons y ks ih=>
   cases vs with
   |nil=>simp at hl
   |cons u vs=>simp only[jR,ck,ih (by simpa using hl)];by_cases hy:y=k<;>simp[hy]
 ·rw[if_neg h,if_neg h,Cu hl];rfl
variable {fj:EF}{lU:mE}
noncomputable def mR (i:Nat)(fj f:EF):SF:=λρ=>(f ρ).bind λd=>(eV i ρ).bind λo=>(fj ρ).bind λj=>match o with
 |.dK ks ds=>(De j).bind λk=>if ks.length<16777216 then some (.nx (ρ.set i (some (.dK (jD ks ds k d).1 (jD ks ds k d).2))))else none
 |.dT ks ds=>(match j with
  |.tup js=>(tV js).bind λk=>if ks.length<16777216 then some (.nx (ρ.set i (some (.dT (jD ks ds k d).1 (jD ks ds k d).2))))else none
  |_=>none)
 |_=>none
theorem jj [DecidableEq κ]{v:V}(r:R d v)(k:κ){ks:List κ}{vs:List V}(hl:ks.length=vs.length)(hp:Pr R ds vs) :
  ∃us,putK (ks.zip vs) k v=(jD ks ds k d).1.zip us/\(jD ks ds k d).1.length=us.length/\Pr R (jD ks ds k d).2 us:=by
 rw[Xi k v hl];unfold jD;by_cases h:ks.contains k=true
 ·rw[if_pos h,if_pos h];refine⟨_,rfl,by simp[hl],?_⟩;clear h;induction ks generalizing ds vs with
  |nil=>simp;exact .nil
  |cons y ks ih=>
   cases hp with
   |nil=>simp at hl
   |cons h t=>
    simp only[jR,ck];refine .cons ?_ (ih (by simpa using hl) t);by_cases hy:y=k
    ·rw[if_pos hy,if_pos hy];exact r
    ·rw[if_neg hy,if_neg hy];exact h
 ·rw[if_neg h,if_neg h];exact⟨_,rfl,by simp[hl],hp.append (.cons r .nil)⟩
theorem JC (i:Nat){j:Expr}(hm:ms[i]?=some (.ow 1))(hu:X.A.units+1<jH)(hj:XE X ct ms 0 j fj)(he:XE X ct ms 0 e f)(hN:X.N[i]?=some x:=by rfl)(hv:vD X.env.scope x:=by walk_at "v1")(hd:lS x:=by decide)
  (mP:xD x:=by decide) (hs:gq e (some (.Subscript (.Name x p1) j lU)) pos.line X.env=pure false:=by rfl) :
  XS X ct ms rk (.Assign [.Subscript (.Name x p1) j lU] e pos) (mR i fj f):=by
 obtain⟨t,pt,qt⟩:=he;obtain⟨tj,Di,Dj⟩:=hj;refine⟨_,Qo hu (yp hN hv hd mP) Di pt hs,λF0 B F H ρ σ o E rs e z=>?_⟩;obtain⟨d,g1,g2⟩:=cx e;obtain⟨d1,zL,g3,g4,g5⟩:=fJ g2;refine qt F0 B F H ρ σ d _ rs g1 λv0 F1 H1 x1 l0=>?_;have ou:=rs.ext x1;obtain⟨f1,fr,n1,b1,dj,i4,cf,put⟩:=ou.put (F':=F) (H':=H) hm;obtain⟨v,hσ,ow⟩:=i4 d1 (zt g3);refine⟨v,hσ,Dj F0 B F1 H1 ρ σ zL _ ou g4 λvj F2 H2 x2 lj=>?_⟩;have Hs:Dt X.K ct F2 d v0:=Dt.mono x2.ff l0;cases d1 with
 |dK ks ds=>
  dsimp only at g5;obtain⟨key,g6,g7⟩:=cx g5;by_cases hz:ks.length<16777216
  ·rw[if_pos hz]at g7;cases g7;obtain⟨ad,vs,vF,rfl,rfl,hF,hH,hl,ol⟩:=ow.dK_inv;have hA:=x2.hh _ _ hH;have fA:F2 ad=none:=x2.nf ad _ hH nofun hF;have e0:=ol.nil0;subst e0;have hp:Pr (Dt X.K ct F2) ds vs:=ol.pr λ_ _ _ _ q=>q.1.mono x2.ff;obtain⟨us,CH,D2,ET⟩:=jj Hs key hl hp;have hk:=JO g6 lj;subst hk;refine⟨ad,_,rfl,sO.k hA (by rw[iu,←hl,lL,dF];exact hz),?_⟩;rw[CH];refine z σ F2 _ (ou.change hm x2 hσ b1 dj cf put bH fA (.inr (.dK fA zo D2 (iI.ofPr (ET.mono λ_ _ q=>⟨q,rfl⟩)))) (fn:=[ad]) (by simp) ?_);intro a ha;rw[bU]at ha;subst ha;exact .inl bH
  ·rw[if_neg hz]at g7;cases g7
 |dT ks ds=>
  cases zL with
  |tup js=>
   dsimp only at g5;obtain⟨key,g6,g7⟩:=cx g5;by_cases hz:ks.length<16777216
   ·rw[if_pos hz]at g7;cases g7;obtain⟨ad,vs,vF,rfl,rfl,hF,hH,hl,ol⟩:=ow.dT_inv;have hA:=x2.hh _ _ hH;have fA:F2 ad=none:=x2.nf ad _ hH nofun hF;have e0:=ol.nil0;subst e0;have hp:Pr (Dt X.K ct F2) ds vs:=ol.pr λ_ _ _ _ q=>q.1.mono x2.ff;obtain⟨us,CH,D2,ET⟩:=jj Hs key hl hp;obtain⟨bd,ws,rfl,hb,Hc⟩:=lj.tup x2.fh;have hk:=MN g6 Hc;subst hk;refine⟨ad,_,rfl,sO.t hA hb (by rw[iu,←hl,lL,dF];exact hz),?_⟩;rw[CH];refine z σ F2 _ (ou.change hm x2 hσ b1 dj cf put bH fA (.inr (.dT fA zo D2 (iI.ofPr (ET.mono λ_ _ q=>⟨q,rfl⟩)))) (fn:=[ad]) (by simp) ?_);intro a ha;rw[bU]at ha;subst ha;exact .inl bH
   ·rw[if_neg hz]at g7;cases g7
  |_=>cases g5
 |_=>cases g5
noncomputable def HG (K:bM):V->V->Hp->VK->Prop:=λo i H Q=>∃p xs k v,o=.ref p/\i=.int k/\jU K H p xs/\atI xs k=some v/\Q v H
theorem Wl:Gz X (HG X.K):=by
 intro bL s σ H o i ov iv Q I ro ri h;obtain⟨p,xs,k,z,rfl,rfl,hq,he,q⟩:=h;cases ro;obtain⟨t,rfl⟩:=ri;obtain⟨dJ,r,pl,hz⟩:=I.list hq;obtain⟨j,h1,h2,h3,h4,h5⟩:=Jt he;obtain⟨w,ew,qZ⟩:=r.get h2;have hl:=r.length;have hn:=oW;have fin:EP X bL σ Q w s:=⟨z,H,I,qZ,q⟩;by_cases h0:0<=k
 ·have hj:k.toNat=j:=by rw[uB h0 h5]at h1;exact Option.some.inj h1
  exact wpAny_getItem_list pl.isList h0 (by omega) (by rw[hj];simpa using ew) fin
 ·have hj:(k+(dJ.toArray.size:Int)).toNat=j:=by rw[sC (by omega) h4]at h1;rw[cv,←hl];exact Option.some.inj h1
  exact wpAny_getItem_list_neg pl.isList (by omega) (by rw[cv]<;>omega) (by omega) (by rw[hj];simpa using ew) fin
noncomputable def vY (i:Nat)(fj:EF)(gi:Int->Int->Int)(f:EF):SF:=λρ=>(eV i ρ).bind λo=>(fj ρ).bind λj=>(f ρ).bind λy=>match o,j with
 |.lst ds,.int z=>(atI ds z).bind λx=>(match x,y with
  |.int a,.int b=>(pL ds z (.int (gi a b))).bind λuF=>some (.nx (ρ.set i (some (.lst uF))))
  |_,_=>none)
 |_,_=>none
theorem Qy (i:Nat){j:Expr}{gi:Int->Int->Int}(ho:FL X op (Jf gi))(hm:ms[i]?=some (.ow 1))(hj:XE X ct ms n j fj)(he:XE X ct ms m e f)(hN:X.N[i]?=some x:=by rfl)(hv:vD X.env.scope x:=by walk_at "v1")(hd:lS x:=by decide)
  (mP:xD x:=by decide) (ha:∀ov iv new,augStore j ov iv new=(do fV [new,ov,iv] (sD ov iv new);AY [new,ov,iv] [];pure .next):=by intros;rfl) :
  XS X ct ms rk (.AugAssign (.Subscript (.Name x p1) j lU) op e pos) (vY i fj gi f):=by
 obtain⟨t,pt,qt⟩:=he;obtain⟨tj,Di,Dj⟩:=hj;refine⟨_,Ye (yp hN hv hd mP) Di Wl pt ho Mi ha,λF0 B F H ρ σ o E rs e z=>?_⟩;obtain⟨d1,zL,g3,g4,g5⟩:=fJ e;obtain⟨d2,g6,g7⟩:=cx g5;obtain⟨f1,fr,n1,b1,dj,i4,cf,put⟩:=rs.put (F':=F) (H':=H) hm;obtain⟨v,hσ,ow⟩:=i4 d1 (zt g3);refine⟨v,hσ,Dj F0 B F H ρ σ zL _ rs g4 λvj F2 H2 x2 lj=>?_⟩;cases d1<;>try (cases g7;done)
 rename_i ds;cases zL<;>try (cases g7;done)
 rename_i zi
 ·skip
  dsimp only at g7;obtain⟨da,g8,g9⟩:=cx g7;obtain⟨ad,vs,vF,rfl,rfl,hF,hH,ol⟩:=ow.lst_inv;have hA:H2 ad=some (.lst vs):=x2.hh _ _ hH;have hp:Pr (Al X.K ct F2 H2 0) ds vs:=ol.pr λ_ _ _ _ q=>q.1.mono x2.ff;obtain⟨va,SZ,KB⟩:=hp.atI g8;refine⟨ad,vs,zi,va,rfl,lj.int,jU.of hA,SZ,qt F0 B F2 H2 ρ σ d2 _ (rs.ext x2) g6 λvy F3 H3 x3 ly=>?_⟩;have qP:=x2.trans x3;cases da<;>try (cases g9;done)
  rename_i ia;cases d2<;>try (cases g9;done)
  rename_i ib
  ·skip
   dsimp only at g9;obtain⟨uF,SA,SC⟩:=cx g9;cases SC;obtain⟨jn,SD,SG⟩:=cx SA;cases SG;have SQ:H3 ad=some (.lst vs):=x3.hh _ _ hA;have fA:F3 ad=none:=qP.nf ad _ hH nofun hF;have e0:=ol.nil0;subst e0;refine⟨ia,ib,KB.int,ly.int,ad,vs,zi,jn,rfl,lj.int,SQ,by rw[←ol.length];exact SD,?_⟩;refine z σ F3 _ (rs.change hm qP hσ b1 dj cf put bH fA (.inr (.lst fA zo (iI.set0 ⟨.int _,rfl⟩ (λ_ _ _ q=>q.2) jn (ol.mono λ_ _ _ _ q=>⟨q.1.mono qP.ff,q.2⟩)))) (fn:=[ad]) (by simp) ?_);intro a ha;rw[bU]at ha;subst ha;exact .inl bH
structure Ic (K:bM)(C:bO):Prop where
 cl:pw K C
 ha:cX K (.ref C) "__class__"=some (some (.builtin "object.__class__"))
 hn:eL K (.builtin "object.__class__") "__get__"=some (some (.builtin "getset_descriptor.__get__"))
 ht:qG K (.builtin "object.__class__")=some true
 hm:eX K C (.type "object")=some true
noncomputable def BX (all sub:List Nat):D->Option D
 |.obj c _ _=>if all.contains c=true then some (.bl (sub.contains c))else none
 |_=>none
theorem Qz {all sub:List Nat}(hI:∀c∈all,Ic X.K (ct c)/\gH X.K (.ref (ct c)) (.ref C)=some (sub.contains c))(hm:X.mg "isinstance"=none)(uI:X.mg x=some (.ref C))(he:XE X ct ms n e f)(hg:Gl X "isinstance":=by rfl)(vG:Gl X x:=by rfl)(hd2:lS x:=by decide)
  (BS:cT [e,.Name x p2] X.env=(false,dR e X.env)::cT [.Name x p2] X.env:=by rfl) (rS:cT [.Name x p2] X.env=(false,dR (.Name x p2) X.env)::cT [] X.env:=by rfl) (jB:(iD pos (cT [.Name x p2] X.env)).any (·.1)=false:=by rfl) :
  XE X ct ms k (.Call (.Name "isinstance" pp) [e,.Name x p2] [] pos) (e1 (BX all sub) f):=by
 obtain⟨t,pt,qt⟩:=he;refine⟨_,Mp V3 hg hm vt (z9 pt (z9 (P8 (v:=.ref C) vG uI rfl hd2) xn rS) BS) (by decide) (by decide) BS jB,λF0 B F H ρ σ d Q rs e w=>?_⟩;obtain⟨d1,h1,h2⟩:=cx e;refine qt F0 B F H ρ σ d1 _ rs h1 λv F' H' x l=>?_;cases d1 with
 |obj c ns ds=>
  unfold BX at h2;dsimp only at h2;by_cases hc:all.contains c=true
  ·rw[if_pos hc]at h2;cases h2;obtain⟨a,dx,vs,rfl,ha,_⟩:=l.obj x.fh;obtain⟨ic,T3⟩:=hI c (by simpa using hc);exact⟨_,C,_,_,rfl,.ins ha ic.cl ic.ha ic.hn ic.ht ic.hm,T3,w _ F' H' x (Al.of (.bl _))⟩
  ·rw[if_neg hc]at h2;cases h2
 |_=>cases h2
section
open PySem PySem.Spec L2
def D3 (i:Int):Str:=((toString i:String):Str)
noncomputable def AL:List D->Option D
 |[.int i]=>if i.natAbs.log2<1920 then some (.str (D3 i))else none
 |_=>none
theorem YL:Bu K ct [n] k (λxs H Q=>∃i,xs=[.int i]/\i.natAbs.log2<1920/\Q (.str (toString i)) H) AL:=by
 intro F H vs ds d Q s l e w;cases l with
 |cons h t=>
  cases t;rename_i d1 v;cases d1 with
  |int i=>
   unfold AL at e;dsimp only at e;by_cases hz:i.natAbs.log2<1920
   ·rw[if_pos hz]at e;cases e;exact⟨i,by rw[h.int],hz,w _ F H (.refl s) (Al.of (.str _))⟩
   ·rw[if_neg hz]at e;cases e
  |_=>cases e
theorem Xj {i:Int}(h:Sz 1900 i):AL [.int i]=some (.str (D3 i)):=by
 unfold AL;dsimp only;rw[if_pos];by_cases h0:i.natAbs=0
 ·rw[h0];decide
 ·rw[rJ h0];exact cL h (fG (by decide) (by decide))
theorem Ru (s:String):d8.strOk (s:Str)=true:=by
 unfold d8.strOk;rw[←Array.all_toList,iW];intro x hx;rw[decide_eq_true_iff];show x<0x110000;rw[Str.ofString_eq_toList]at hx;simp at hx;obtain⟨c,_,rfl⟩:=hx;have h:=c.valid;rcases h with h|⟨h1,h2⟩
 ·have:c.val.toNat<0xd800:=h;show c.val.toNat<_;omega
 ·exact h2
noncomputable def Es:vK {x:Str // d8.strOk x=true}:=⟨λx=>.str x.1,λx=>.str x.1,0,λ_=>by simp[D.py],λx=>by simp only[d8.canLay0];exact x.2,λ_=>by simp[d8.depth],λx y=>by
 show(x.1==y.1)=_;by_cases h:x=y
 ·subst h;simp
 ·have:x.1≠y.1:=λz=>h (Subtype.ext z);simp[h,this]⟩
theorem YM (hx:d8.strOk x=true)(hy:d8.strOk y=true):jV neg (.str x) (.str y)=some (.bl (if neg then !decide (x=y)else decide (x=y))):=by have:=Es.eq (by decide) (neg:=neg) ⟨x,hx⟩ ⟨y,hy⟩;simpa[Es]using this
theorem YN {i:Int}(h:Sz 1900 i):(D3 i).length<=1921:=by
 refine PyProof.Rows.int_text_len_1921 ?_;by_cases h0:i.natAbs=0
 ·rw[h0];decide
 ·rw[rJ h0];exact cL h (fG (by decide) (by decide))
end
section
open PySem PySem.Spec L2
noncomputable def Aa (K:bM):R2:=λx y H Q=>∃(a:bO) (ns:List Int),x=.ref a/\jU K H a (ns.map V.int)/\(ns=[]->Q y H)/\∀M,M∈ns->(∀z∈ns,z<=M)->Q (.int M) H
theorem YO {ta tb:TE}{p kp:mE}(hc:X.calm=true)(hg:Gl X "max")(hm:X.mg "max"=none)(ha:PE X e ta)(hb:PE X b tb)(he:SE X e []:=by rfl):PE X (.Call (.Name "max" p) [e] [⟨some "default",b,kp⟩] pos) (HZ (Aa X.K) ta tb):=by
 intro bL s σ H Q I h;refine dX (wm (u:=.builtin "max") I hg hm u0 ?_ (by decide) (by decide));refine PyProof.Rows.callWith_kw (eT ((z9 ha xn he) pos bL s σ H (λvs H1=>match vs with|[x]=>tb σ H1 λy H2=>Aa X.K x y H2 Q|_=>False) I ?_) λus s1 ⟨vs,H1,I1,r,q⟩=>?_) (by rw[he];rfl) (by rw[he];rfl)
 ·exact h
 ·match vs,q with
  |[x],q=>
   obtain⟨u,rfl,ru⟩:=r.one;refine eT ((Yw (nm:=some "default") (Hr:=kp) hb ZW) pos bL s1 σ H1 (λvs H1=>match vs with|[y]=>Aa X.K x y H1 Q|_=>False) I1 q) λus s2 f7=>?_;obtain⟨vs,H2,I2,r2,q2⟩:=f7
   match vs,q2 with
   |[y],q2=>
    obtain⟨z,rfl,rz⟩:=r2.one;obtain⟨a,ns,rfl,hq,q0,q1⟩:=q2;cases(show u=bJ.ref a from ru);obtain⟨dJ,rv,pl,hz⟩:=I2.list hq;have hi:=IntsAre.of rv;obtain⟨ys,ey⟩:=hi.allInts.items;have kG:ns=ys.toList.map (·.1):=by rw[←hi.numsOf,←qU,←ey]
    have C4:s2.heap.IsList a (intItems ys):=ey▸pl.isList;refine VI (iter_intList C4 λs₃ e3 st K0 Tc=>?_);subst e3;refine⟨_,_,_,_,_,_,_,rfl,Walks.list (A:=X.A.in1) (I2.ok.hd hc) _ a Tc (intItems ys),st,K0,CmpOf.ints_gt (numAt ys) (λ_ _=>intItems_at),λv h' tk hP hk=>?_⟩;have hk:=old_kept hk;have eP:ns.length=ys.size:=by rw[kG,bQ,dr]
    by_cases h0:(intItems ys).size=0
    ·rw[if_pos h0]at hP;subst hP;have:ns=[]:=gX (by rw[eP];simpa[intItems]using h0);exact⟨y,H2,I2.kept (t':=tk) hk,rz,q0 this⟩
    ·rw[if_neg h0]at hP;have h0:0<ys.size:=by simp[intItems]at h0;exact Array.size_pos_iff.mpr h0
     rw[show(intItems ys).size=ys.size by simp[intItems]]at hP;obtain⟨t,rfl⟩:=intItems_at hP;obtain⟨h1,h2⟩:=argBest_gt (numAt ys) (ys.size-1);refine⟨.int (numAt ys (argBest (λi j=>decide (numAt ys i > numAt ys j)) (ys.size-1))),H2,I2.kept (t':=tk) hk,⟨_,rfl⟩,q1 _ ?_ λz hz=>?_⟩
     ·rw[kG,numAt_eq];exact getD_mem (by rw[bQ,dr];omega)
     ·rw[kG]at hz;obtain⟨j,hj,rfl⟩:=mem_getD hz;rw[bQ,dr]at hj;rw[←numAt_eq];exact h2 j (by omega)
noncomputable def tY:D->D->Option D
 |.lst ds,z=>if z.sc=true then(iC ds).bind λns=>match ns with|[]=>some z|_=>(vT ns).bind λM=>some (.int M)else none
 |_,_=>none
theorem Xk:rD K ct n m k (Aa K) tY:=by
 intro F H x y d1 d2 d Q s l1 l2 e w;cases d1 with
 |lst xs=>
  unfold tY at e;dsimp only at e;by_cases hz:d2.sc=true
  ·rw[if_pos hz]at e;obtain⟨ns,h1,h2⟩:=cx e;obtain⟨a,h3,ha⟩:=ji s (.cons l1 .nil:nH K ct F H [n] [.lst xs] [x]) h1;cases h3;refine⟨a,ns,rfl,ha,λh0=>?_,λM h5 h6=>?_⟩
   ·subst h0;cases h2;exact w _ F H (.refl s) (Al.of (l2.scal hz))
   ·cases ns with
    |nil=>cases h5
    |cons n0 ns=>obtain⟨M',h3,h4⟩:=cx h2;cases h4;obtain⟨m1,m2⟩:=uc h3;have:M'=M:=sk (h6 M' m1) (m2 M h5);subst this;exact w _ F H (.refl s) (Al.of (.int _))
  ·rw[if_neg hz]at e;cases e
 |_=>cases e
theorem YQ {p kp:mE}(hc:X.calm=true)(hg:Gl X "max")(hm:X.mg "max"=none)(ha:XE X ct ms n e f)(hb:XE X ct ms m b g)(he:SE X e []:=by rfl):XE X ct ms k (.Call (.Name "max" p) [e] [⟨some "default",b,kp⟩] pos) (e2 tY f g):=by obtain⟨ta,tb,pa,pb,q⟩:=ha.bin hb;refine⟨_,YO hc hg hm pa pb he,λF0 B F H ρ σ d Q rs e w=>?_⟩;obtain⟨d1,d2,h1,h2,h3⟩:=fJ e;exact q F0 B F H ρ σ d1 d2 _ rs h1 h2 λx y F' H' x1 l1 l2=>Xk F' H' x y d1 d2 d Q x1.fh l1 l2 h3 λv F2 H2 x2 l=>w v F2 H2 (x1.trans x2) l
end
variable {nK:mE}
noncomputable def E9 (K:bM):V->List V->Hp->VK->Prop:=λx vs H Q=>∃p ys y j,x=.ref p/\vs=[y]/\jU K H p ys/\mL y=true/\ys.all mL=true/\ys.findIdx? (λz=>Ax z y)=some j/\Q (.int (j:Nat)) H
theorem QA:∀{xs:List V} {us:List bJ} {x:V},dm xs us->xs.all mL=true->us.map (A7 x)=xs.map λy=>Ax y x
 |_,_,_,.nil,_=>rfl
 |y::xs,u::us,x,.cons r t,f=>by rw[fX,c7]at f;rw[ck,ck,M7 r f.1,QA t f.2]
theorem Xl:NA X "list.index" (E9 X.K):=by
 intro bL s σ H x vs v us Q I rx rv h;obtain⟨p,ys,y,j,rfl,rfl,hq,fy,fs,hj,q⟩:=h;cases rx;obtain⟨u,rfl,ru⟩:=rv.one;obtain⟨dJ,r,pl,hz⟩:=I.list hq;obtain⟨⟨cls,dd,data,sl⟩,ho,hc,n,hd⟩:=pl.isList;simp only at hc hd;subst hc hd;have hm:=QA (x:=y) r fs;have eP:=r.length;obtain⟨j1,j2,j3⟩:=List.findIdx?_eq_some_iff_getElem.mp hj;have FR:∀i (hi:i<dJ.length),A7 y dJ[i]=Ax (ys[i]'(by omega)) y:=λi hi=>by have:=congrArg (λl=>l[i]?) hm;simp only[cu]at this;rw[df hi,df (by omega)]at this;simpa using this
 have hzl:ys.length<=16777216:=hz;refine rA PySem.F.slot_list_index ⟨_,ho,rfl⟩ PySem.F.entry_list_index (PySem.F.args_list_index_2 _ _)
  (SeqAt.list_indexAt p dJ.toArray n dd sl u (A7 y) j (by simp;omega) (by omega) ?_ ?_) ⟨ho,λw hw=>jc ru fy r fs w (by simpa using hw),.int (j:Nat),H,I.tok _,⟨_,rfl⟩,q⟩
 ·simp only[xM];rw[FR j (by omega)];exact j2
 ·intro i hi oU;simp only[xM];rw[FR i (by simpa using hi)];simpa using j3 i oU
noncomputable def BW:D->D->Option D
 |.lst ds,x=>if x.sc=true/\ds.all D.sc=true then(ds.findIdx? λy=>CC y x).bind λj=>some (.int (j:Nat))else none
 |_,_=>none
theorem Rv {x:D}(hx:x.sc=true):∀{ds:List D},ds.all D.sc=true->(ds.map D.v).findIdx? (λz=>Ax z x.v)=ds.findIdx? λy=>CC y x
 |[],_=>rfl
 |d::ds,h=>by rw[fX,c7]at h;rw[ck,pj,pj,RE h.1 hx,Rv hx h.2]
theorem Xm (ho:XE X ct ms n o f)(he:XE X ct ms m e g)(k7:SE X e []:=by rfl)
  (rQ:DJ X o "index":=by rfl)
  (yA:Ip X fW [e]:=by rfl)
  (rR:(fK.endLine==fW.line)=true:=by rfl) (oV:pV X fW []:=by rfl) :
  XE X ct ms k (.Call (.Attribute o "index" fK) [e] [] fW) (e2 BW f g):=by
 obtain⟨ta,pa,qa⟩:=ho;obtain⟨tb,pb,qb⟩:=he;refine⟨_,JR PySem.F.plainAttrs_list PySem.F.slot_list_index PySem.F.type_list_index Xl pa (z9 pb xn k7) rQ yA rR k7 oV,λF0 B F H ρ σ d Q rs e w=>?_⟩;obtain⟨d1,d2,h1,h2,h3⟩:=fJ e;refine qa F0 B F H ρ σ d1 _ rs h1 λv1 F1 H1 x1 l1=>?_;cases d1 with
 |lst ds=>
  unfold BW at h3;dsimp only at h3;by_cases hz:d2.sc=true/\ds.all D.sc=true
  ·rw[if_pos hz]at h3;obtain⟨j,hj,h4⟩:=cx h3;cases h4;obtain⟨p,vs,rfl,hp,TK⟩:=l1.lst x1.fh;refine⟨.inl ⟨rfl,_,hp⟩,qb F0 B F1 H1 ρ σ d2 _ (rs.ext x1) h2 λv2 F2 H2 x2 l2=>?_⟩;have hv:=TK.vs hz.2;subst hv;have hx:=Al.v l2 hz.1;subst hx;exact⟨p,_,_,j,rfl,rfl,x2.hh.seq hp,D.flat hz.1,v6 hz.2,by rw[Rv hz.1 hz.2];exact hj,w _ F2 H2 (x1.trans x2) (Al.of (.int _))⟩
  ·rw[if_neg hz]at h3;cases h3
 |_=>cases h3
theorem ox:∀{xs:List V} {us:List bJ},xs.length=us.length->(∀(i:Nat) (x:V) (u:bJ),xs[i]?=some x->us[i]?=some u->L2.RelV x u)->dm xs us
 |[],[],_,_=>.nil
 |[],_::_,h,_=>by cases h
 |_::_,[],h,_=>by cases h
 |x::xs,u::us,h,r=>.cons (r 0 x u rfl rfl) (ox (by simpa using h) λi y w hy hw=>r (i+1) y w (by simpa using hy) (by simpa using hw))
def Ea:List V->Hp->VK->Prop:=λvs H Q=>∃j:Int,vs=[.int j]/\0<=j/\j<=16777216/\∀l,H l=none->Q (.ref l) (upd H l (.lst ((iT 0 j.toNat).map D.v)))
noncomputable def qK:List D->Option D
 |[.int j]=>if 0<=j/\j<=16777216 then some (.lst (iT 0 j.toNat))else none
 |_=>none
theorem Xn (h:(iT lo n)[i]?=some d):d=.int (lo+(i:Int)):=by unfold iT at h;rw[cu]at h;obtain⟨t,ht,rfl⟩:=dz.mp h;have:=bZ.mp ht;obtain⟨h1,h2⟩:=this;rw[lR]at h2;rw[h2]
theorem YR {ta:TA}(hc:X.calm=true)(hg:Gl X "list")(hm:X.mg "list"=none)(vG:Gl X "range")(uI:X.mg "range"=none)(ha:PA X [a] ta)(hs:SN X a:=by rfl)
    (rS:cT [.Call (.Name "range" p2) [a] [] nK] X.env=[(false,dR (.Call (.Name "range" p2) [a] [] nK) X.env)]:=by rfl) :
    PE X (.Call (.Name "list" p1) [.Call (.Name "range" p2) [a] [] nK] [] pos) (LV Ea ta):=by
  intro bL s σ H Q I h;refine dX (wm I hg hm vm ?_ (by decide) (by decide));refine dG ?_ rS rfl;rw[rS];show cj _ _ (spliced ((false,dR (.Call (.Name "range" p2) [a] [] nK) X.env)::[])) _ _ s;refine Calls.spliced_cons ?_;refine dX (wm I vG uI boot_range ?_ (by decide) (by decide));refine dG (eT (ha nK bL s σ H _ I h) λus s1 ⟨vs,H1,I1,r1,q1⟩=>?_) hs rfl;obtain⟨j,rfl,h1,h2,q⟩:=q1;obtain⟨u,rfl,t,rfl⟩:=sg r1;refine call_range_1 (Calls.spliced_nil ?_);have I2:L2.Inv X bL σ H1 { s1 with heap:=s1.heap.push { cls:=.type "range",data:=.fields #[.int 0 s1.toks,.int j t,.int 1 (s1.toks+1)] },toks:=s1.toks+1+1 }:=I1.kept λb o e=>bT _ e;have hsz:er.Range.rangeSize 0 j 1=(j.toNat:Int):=by rw[rangeSize_one];split<;>omega
  refine call_list_range (n:=j.toNat) (I2.ok.hd hc) (IsRange.new ..) (small_one (by omega) (by omega) (by omega) (by omega)) hsz (by omega) λh' tk oB c' kp hS xZ=>?_;have hv:dm ((iT 0 j.toNat).map D.v) oB.toList:=by obtain⟨e1,e2⟩:=xZ;refine ox (by simp[iT,e1]) λi x u hx hu=>?_;obtain⟨t,rfl⟩:=e2 i u (by simpa using hu);rw[cu]at hx;obtain⟨d,hd,rfl⟩:=dz.mp hx;have hd:=Xn hd;subst hd;exact⟨t,by rw[oH]⟩
  have hl:((iT 0 j.toNat).map D.v).length<=sizeLine:=by rw[dF];simp[iT];omega
  exact⟨.ref _,_,I2.laid (t':=tk) kp (b7 _) (show gj X.prog X.w _ h' _ (.lst _)from⟨hl,oB.toList,c',hv,hS⟩),rfl,q _ (I2.hok.fresh (b7 _))⟩
theorem YS (lo:Int)(n:Nat):(iT lo n).all D.sc=true:=by rw[iW];intro d hd;unfold iT at hd;obtain⟨t,_,rfl⟩:=cK.mp hd;rfl
theorem HE {K:bM}{F G:Hp}:∀{ds:List D},ds.all D.sc=true->Pr (Al K ct F G 0) ds (ds.map D.v)
 |[],_=>.nil
 |d::ds,h=>by
  rw[fX,c7]at h;refine .cons ?_ (HE h.2);cases d with
  |non=>exact Al.of .non
  |bl b=>exact Al.of (.bl b)
  |int b=>exact Al.of (.int b)
  |str b=>exact Al.of (.str b)
  |_=>cases h.1
theorem Xo:Eo K ct [n] 1 Ea qK:=by
 intro F H vs ds d Q s l e w;cases l with
 |cons h t=>
  cases t;rename_i d1 v;cases d1 with
  |int j=>
   unfold qK at e;dsimp only at e;by_cases hz:0<=j/\j<=16777216
   ·rw[if_pos hz]at e;cases e;exact⟨j,by rw[h.int],hz.1,hz.2,vn s (HE (YS 0 j.toNat)) w⟩
   ·rw[if_neg hz]at e;cases e
  |_=>cases e
theorem QB (hc:X.calm=true)(hg:Gl X "list")(hm:X.mg "list"=none)(vG:Gl X "range")(uI:X.mg "range"=none)(ha:XA X ct ms [a] [n] fs)(hs:SN X a:=by rfl)
  (rS:cT [.Call (.Name "range" p2) [a] [] nK] X.env=[(false,dR (.Call (.Name "range" p2) [a] [] nK) X.env)]:=by rfl) :
  XO X ct ms 1 (.Call (.Name "list" p1) [.Call (.Name "range" p2) [a] [] nK] [] pos) (eN qK fs):=by
 obtain⟨t,pt,_,qt⟩:=ha;refine⟨_,YR hc hg hm vG uI pt hs rS,λF0 B F H ρ σ r Q rs e w=>?_⟩;obtain⟨ds,h1,h2⟩:=cx e;exact qt F0 B F H ρ σ ds _ rs h1 λvs F1 H1 x1 l=>Xo F1 H1 vs ds r Q x1.fh l h2 λv F2 H2 fp x2 l2 nd hf=>w v F2 H2 fp (x1.trans x2) l2 nd λz hz=>x1.hh.free (hf z hz)
noncomputable def uQ (i j:Nat)(f:EF):SF:=λρ=>(eV i ρ).bind λo=>(eV j ρ).bind λq=>(f ρ).bind λz=>match o,q,z with
 |.lst ds,.lst es,.int y=>if ds.length<16777216/\es.length<=16777216 then(ixN es.length y).bind λt=>es[t]?.bind λd=>some (.nx ((ρ.set j (some (.lst (es.eraseIdx t)))).set i (some (.lst (ds++[d])))))else none
 |_,_,_=>none
theorem Pr.erase:∀{ds:List D} {vs:List V} (i:Nat),Pr R ds vs->Pr R (ds.eraseIdx i) (vs.eraseIdx i)
 |_,_,_,.nil=>.nil
 |_,_,0,.cons h t=>t
 |_,_,i+1,.cons h t=>.cons h (t.erase i)
theorem Wm (i j:Nat){rL pD:mE}(hm:ms[i]?=some (.ow 1))(uI:ms[j]?=some (.ow 1))(Bc:i≠j)(he:XE X ct ms n e f)
  (hN:X.N[i]?=some x:=by rfl) (hv:vD X.env.scope x:=by walk_at "v1") (hd:lS x:=by decide) (mP:xD x:=by decide)
  (Kx:X.N[j]?=some y:=by rfl) (Ln:vD X.env.scope y:=by walk_at "v1") (hd2:lS y:=by decide) (EG:xD y:=by decide)
  (k7:SE X e []:=by rfl)
  (ED:nO (.Name y p2) "pop" X.env (dR (.Name y p2) X.env)=dR (.Name y p2) X.env:=by rfl)
  (G2:Ip X pD [e]:=by rfl)
  (EN:(rL.endLine==pD.line)=true:=by rfl) (C6:pV X pD []:=by rfl)
  (yG:cT [.Call (.Attribute (.Name y p2) "pop" rL) [e] [] pD] X.env=(false,dR (.Call (.Attribute (.Name y p2) "pop" rL) [e] [] pD) X.env)::cT [] X.env:=by rfl)
  (rQ:nO (.Name x p1) "append" X.env (dR (.Name x p1) X.env)=dR (.Name x p1) X.env:=by rfl)
  (yA:((iD fW (cT [.Call (.Attribute (.Name y p2) "pop" rL) [e] [] pD] X.env)).all (λx=>!x.1)&&(ij fW (eO [] X.env)).all (λx=>x.1.isSome)
   && decide ([Expr.Call (.Attribute (.Name y p2) "pop" rL) [e] [] pD].length+([]:List nG).length+(if([]:List nG).isEmpty then 0 else 1)<30))=true:=by rfl)
  (rR:(fK.endLine==fW.line)=true:=by rfl) (oV:pV X fW []:=by rfl)
  (BV:gq (.Call (.Attribute (.Name x p1) "append" fK) [.Call (.Attribute (.Name y p2) "pop" rL) [e] [] pD] [] fW) none pos.line X.env=pure false:=by rfl) :
  XS X ct ms rk (.Expr (.Call (.Attribute (.Name x p1) "append" fK) [.Call (.Attribute (.Name y p2) "pop" rL) [e] [] pD] [] fW) pos) (uQ i j f):=by
 obtain⟨t,pt,qt⟩:=he;refine⟨_,jp (JR PySem.F.plainAttrs_list PySem.F.slot_list_append PySem.F.type_list_append jv (yp hN hv hd mP)
  (z9 (JR PySem.F.plainAttrs_list PySem.F.slot_list_pop PySem.F.type_list_pop WR (yp Kx Ln hd2 EG) (z9 pt xn k7) ED G2 EN k7 C6) xn yG) rQ yA rR yG oV) BV,λF0 B F H ρ σ o E rs e z=>?_⟩
 obtain⟨d1,d2,h1,h2,h3⟩:=fJ e;obtain⟨d3,h4,h5⟩:=cx h3;cases d1 with
 |lst ds=>
  cases d2 with
  |lst es=>
   cases d3 with
   |int w=>
    dsimp only at h5;by_cases hz:ds.length<16777216/\es.length<=16777216
    ·rw[if_pos hz]at h5;obtain⟨t2,h6,h7⟩:=cx h5;obtain⟨d,h8,h9⟩:=cx h7;cases h9;obtain⟨g1,gr,gn1,gb1,gdj,SH,gcf,SJ⟩:=rs.put (F':=F) (H':=H) hm;obtain⟨v,hσ,ow⟩:=SH _ (zt h1);obtain⟨ad,vs,vF,rfl,rfl,hF,hH,ol⟩:=ow.lst_inv;obtain⟨f1,fr,n1,b1,dj,i4,cf,put⟩:=rs.put (F':=F) (H':=H) uI;obtain⟨v2,CI,HD⟩:=i4 _ (zt h2);obtain⟨bd,us,NO,rfl,rfl,Kw,EB,E5⟩:=HD.lst_inv;have z2:=iI.nil0 E5;subst z2;refine⟨_,hσ,.inl ⟨rfl,_,jU.of hH⟩,_,CI,.inl ⟨rfl,_,jU.of EB⟩,qt F0 B F H ρ σ _ _ rs h4 λv3 F' H' x1 l3=>?_⟩;have TJ:=l3.int;subst TJ;obtain⟨s1,s2,s3,s4⟩:=MH h6;have Kr:H' bd=some (.lst us):=x1.hh _ _ EB;have fB:F' bd=none:=x1.nf bd _ EB nofun Kw;have lu:=E5.length;have OA:Pr (λd v=>Dt X.K ct F' d v) es us:=E5.pr λd v f _ q=>q.1.mono x1.ff;obtain⟨u,hu,ru⟩:=OA.get' h8;refine⟨bd,us,w,t2,u,rfl,rfl,Kr,by omega,by omega,by rw[←lu];exact s1,hu,?_⟩;have ou:=rs.change uI x1 CI b1 dj cf put bH fB (d':=.lst (es.eraseIdx t2)) (o:=.lst (us.eraseIdx t2)) (.inr (.lst fB zo (iI.ofPr ((OA.erase t2).mono λ_ _ q=>Ow.zero q)))) (fn:=[bd]) (by simp) (λa ha=>by rw[bU]at ha;subst ha;exact .inl bH);obtain⟨g1',gr',SI,Kl,Kn,Ko,Km,GO⟩:=ou.put (F':=F') (H':=upd H' bd (.lst (us.eraseIdx t2))) hm;have nU:(ρ.set j (some (D.lst (es.eraseIdx t2))))[i]? = ρ[i]?:=eG (λe=>Bc e.symm);obtain⟨v',EV,E6⟩:=Ko (.lst ds) (by rw[nU];exact zt h1);rw[hσ]at EV;cases EV;obtain⟨ad',Jq,Sw,e1,rfl,NS,SS,LI⟩:=E6.lst_inv;cases e1;have zn:=iI.nil0 LI;subst zn;refine⟨ad,Jq,u,rfl,rfl,SS,by rw[←LI.length,dF];exact hz.1,?_⟩;refine z σ F' _ (ou.change hm (.refl ou.fh) hσ Kl Kn Km GO bH NS (.inr (.lst NS zo ((LI.mono λ_ _ f' hi o'=>?_).append (.cons (f:=[]) (Ow.zero ru) .nil)))) (fn:=[ad]) (by simp) λa ha=>by rw[bU]at ha;subst ha;exact .inl bH);exact o'
    ·rw[if_neg hz]at h5;cases h5
   |_=>cases h5
  |_=>cases h5
 |_=>cases h5
theorem Vz {wJ:mE}
  (hm:ms[i]?=some (.ow k)) (hN:X.N.Nodup) (AA:X.N[i]?=some x) (hx:Loc X.env.scope x)
  (B:oJ X scope N own cap) (hc:X.calm=true) (ho:om.length=own) (e9:∀i∈cap,i<ms.length) (hi:Er X ct ms n tg iter fi)
  (hg:∀cl C fp s₀ H₀,Cz (nJ X scope cl N C fp s₀ H₀) ct (om++ky ms cap) own n tg gg) (ht:∀cl C fp s₀ H₀,DO (nJ X scope cl N C fp s₀ H₀) ct (om++ky ms cap) ifs p) (he:∀cl C fp s₀ H₀,XO (nJ X scope cl N C fp s₀ H₀) ct (om++ky ms cap) (k-1) o8 f)
  (BV:gq (.ListComp o8 [⟨tg,iter,ifs,0⟩] scope pos) (some (.Name x pos')) wJ.line X.env=pure true:=by rfl)
  (hs:Bs X iter:=by intro _;rfl) (hf:vL X x:=by walk_at "v2") :
  XS X ct ms rk (.Assign [.Name x pos'] (.ListComp o8 [⟨tg,iter,ifs,0⟩] scope pos) wJ) (sSet i (eY fi own cap gg p f)):=by
 obtain⟨wi,g,tt,te,pi,kg,pg,pt,pe,q⟩:=P0 (k:=k-1) (pos:=pos) B hc ho e9 hi hg ht he;refine⟨_,Vy B hc pi kg pg pt pe hN AA hx BV hs hf,λF0 B F H ρ σ o E rs e w=>?_⟩;obtain⟨d,h1,h2⟩:=cx e;cases h2;cases k with
 |succ k=>exact q F0 B F H ρ σ d _ rs h1 λv F' H' fp x l nd hf=>w _ F' H' (rs.set hm x l nd hf)
 |zero=>refine q F0 B F H ρ σ d _ rs h1 λv F' H' fp x l nd hf=>?_;obtain⟨F2,x2,l2⟩:=l.freeze x hf;exact w _ F2 H' (rs.set hm x2 (Ow.zero l2) cZ λa z=>by cases z)
theorem MQ (hm:ms[i]?=some (.ow k))(hN:X.N[i]?=some x:=by rfl)(hv:vD X.env.scope x:=by walk_at "v1")(hd:lS x:=by decide)
  (mP:xD x:=by decide):XS X ct ms 0 (.Return (some (.Name x pos')) pos) (sRet (eV i)):=by
 refine⟨_,MX (yp hN hv hd mP),λF0 B F H ρ σ o E rs e w=>?_⟩;obtain⟨d,h1,h2⟩:=cx e;cases h2;obtain⟨fp,sl,nd,hb⟩:=rs.sl;obtain⟨f1,fr,i1,i2,i3,i4,i5⟩:=sl.put hm;obtain⟨v,Lm,l⟩:=i4 d (zt h1);obtain⟨F',x,l2⟩:=l.freeze (⟨rs.f0,rs.bh,rs.fh,rs.nf⟩:iZ F0 B F H) (λz hz=>hb z (i1 z hz));exact⟨v,Lm,w v F' H [] x.ff x.hh x.fh x.nf (Ow.zero l2) cZ λz hz=>by cases hz⟩
theorem zsa (hu:X.A.units+1<jH)(ha:XE X ct ms n a f)(hb:XE X ct ms m b g)(hm:fM .In b=false):XT X ct ms (.Compare a [.In] [b] pos) (tb λρ=>(f ρ).bind λx=>(g ρ).bind λy=>(jA y x).bind λr=>some (.bl r.isSome)):=by
 obtain⟨ta,tb',pa,pb,q⟩:=ha.bin hb;refine⟨_,Q1 (zrl hu pa pb) hm,λF0 B F H ρ σ t Q rs e w=>?_⟩;obtain⟨d0,h0,h9⟩:=cx e;obtain⟨d1,d2,h1,h2,h3⟩:=fJ h0;obtain⟨r,h4,h5⟩:=cx h3;cases h5;cases h9;refine q F0 B F H ρ σ d1 d2 _ rs h1 h2 λx y F' H' x1 l1 l2=>?_;obtain⟨a,o,rfl,g,_,h⟩:=j0 (r:=r) x1.fh l2 l1 h4;refine⟨a,o,rfl,g,?_⟩;cases r with
 |none=>rw[h.none_of];exact⟨_,rfl,w F' H' x1⟩
 |some d=>obtain⟨u,rfl,C8⟩:=h.some_of;exact⟨_,rfl,w F' H' x1⟩
theorem V4 (hu:X.A.units+1<jH)(ha:XE X ct ms n a f)(hb:XE X ct ms m b g)(hm:fM .NotIn b=false):XT X ct ms (.Compare a [.NotIn] [b] pos) (tb λρ=>(f ρ).bind λx=>(g ρ).bind λy=>(jA y x).bind λr=>some (.bl (!r.isSome))):=by
 obtain⟨ta,tb',pa,pb,q⟩:=ha.bin hb;refine⟨_,Q1 (VY hu pa pb) hm,λF0 B F H ρ σ t Q rs e w=>?_⟩;obtain⟨d0,h0,h9⟩:=cx e;obtain⟨d1,d2,h1,h2,h3⟩:=fJ h0;obtain⟨r,h4,h5⟩:=cx h3;cases h5;cases h9;refine q F0 B F H ρ σ d1 d2 _ rs h1 h2 λx y F' H' x1 l1 l2=>?_;obtain⟨a,o,rfl,g,_,h⟩:=j0 (r:=r) x1.fh l2 l1 h4;refine⟨a,o,rfl,g,?_⟩;cases r with
 |none=>rw[h.none_of];exact⟨_,rfl,w F' H' x1⟩
 |some d=>obtain⟨u,rfl,C8⟩:=h.some_of;exact⟨_,rfl,w F' H' x1⟩
theorem iI.upd {R R':D->V->List bO->Prop}{vs:List V}(h:iI R ds vs fp)(e:ds[i]?=some d):∃v f,vs[i]?=some v/\R d v f/\(∀a∈f,a∈fp) /\
  ∀d',R' d' v f->fp.Nodup->(∀d v f',(∀a∈f',a∈fp)->(∀a∈f',a∉f)->R d v f'->R' d v f')->iI R' (ds.set i d') vs fp:=by
 induction h generalizing i with
 |nil=>cases e
 |@cons _ _ _ _ f g h t ih=>
  cases i with
  |zero=>cases e;refine⟨_,f,rfl,h,λa ha=>cC _ ha,λd' hd nd ot=>?_⟩;rw[cF]at nd;exact .cons hd (t.mono λd v f' hi r=>ot d v f' (λa ha=>b6 _ (hi a ha)) (λa ha hf=>nd.2.2 a hf a (hi a ha) rfl) r)
  |succ i=>obtain⟨v,f2,h1,h2,h3,h4⟩:=ih (i:=i) e;refine⟨v,f2,h1,h2,λa ha=>b6 _ (h3 a ha),λd' hd nd ot=>?_⟩;rw[cF]at nd;exact .cons (ot _ _ f (λa ha=>cC _ ha) (λa ha hf=>nd.2.2 a ha a (h3 a hf) rfl) h) (h4 d' hd nd.2.1 λd v f' hi hn r=>ot d v f' (λa ha=>b6 _ (hi a ha)) hn r)
noncomputable def yK (i:Nat)(fj fl f:EF):SF:=λρ=>(f ρ).bind λd=>(eV i ρ).bind λo=>(fj ρ).bind λj=>(fl ρ).bind λl=>match o,j,l with
 |.lst rs,.int y,.int z=>(ixN rs.length y).bind λy'=>(rs[y']?).bind λr=>(match r with
  |.lst ds=>(pL ds z d).bind λuF=>some (.nx (ρ.set i (some (.lst (rs.set y' (.lst uF))))))
  |_=>none)
 |_,_,_=>none
theorem WZ (i:Nat){j l:Expr}{fl:EF}(hm:ms[i]?=some (.ow 2))(hj:XE X ct ms n j fj)(hl:XE X ct ms m l fl)(hp:pz j)(he:XE X ct ms 0 e f)(hN:X.N[i]?=some x:=by rfl)(hv:vD X.env.scope x:=by walk_at "v1")(hd:lS x:=by decide)
  (mP:xD x:=by decide)
  (ha:∀v,lB (.Subscript (.Subscript (.Name x p1) j p2) l lU) X.env v=(do
   let ov ← fV [v] (dR (.Subscript (.Name x p1) j p2) X.env)
   let iv ← fV [v,ov] (dR l X.env)
   jN lU
   fV [v,ov,iv] (sD ov iv v)
   AY [v,ov,iv] []):=by intro _;rfl)
  (hs:lE [.Subscript (.Subscript (.Name x p1) j p2) l lU] e pos.line X.env=pure false:=by rfl) (hw:lD [.Subscript (.Subscript (.Name x p1) j p2) l lU] e X.env=pure none:=by rfl)
  (h1:(eJ [.Subscript (.Subscript (.Name x p1) j p2) l lU] X.env).map (·.2)=[lB (.Subscript (.Subscript (.Name x p1) j p2) l lU) X.env]:=by rfl) :
  XS X ct ms rk (.Assign [.Subscript (.Subscript (.Name x p1) j p2) l lU] e pos) (yK i fj fl f):=by
 obtain⟨t,pt,qt⟩:=he;obtain⟨tj,Di,Dj⟩:=hj;obtain⟨tl,Uc,Uh⟩:=hl;refine⟨_,MY pt (Q3 (RF Qm (yp hN hv hd mP) Di hp) Uc Mi ha) hs hw h1,λF0 B F H ρ σ o E rs e z=>?_⟩;obtain⟨d,g1,g2⟩:=cx e;obtain⟨d1,zL,g3,g4,g5⟩:=fJ g2;obtain⟨R4,g6,g7⟩:=cx g5;refine qt F0 B F H ρ σ d _ rs g1 λv0 F1 H1 x1 l0=>?_;have ou:=rs.ext x1;obtain⟨f1,fr,n1,b1,dj,i4,cf,put⟩:=ou.put (F':=F) (H':=H) hm;obtain⟨v,hσ,ow⟩:=i4 d1 (zt g3);refine⟨v,hσ,Dj F0 B F1 H1 ρ σ zL _ ou g4 λvj F2 H2 x2 lj=>?_⟩;cases d1 with
 |lst rws=>
  cases zL with
  |int yi=>
   cases R4 with
   |int zi=>
    obtain⟨y',k1,k2⟩:=cx g7;obtain⟨r,k3,k4⟩:=cx k2;cases r with
    |lst ds=>
     obtain⟨uF,k5,k6⟩:=cx k4;cases k6;obtain⟨jn,k8,k9⟩:=cx k5;cases k9;obtain⟨ad,vs,vF,rfl,rfl,hF,hH,ol⟩:=ow.lst_inv;obtain⟨vr,f2,q1,q2,q3,q4⟩:=iI.upd (R':=Ow X.K ct F2 (upd H2 0 (.lst [])) 1) ol k3;obtain⟨bd,us,NO,rfl,rfl,Kw,EB,E5⟩:=q2.lst_inv;clear q4;have hA:H2 ad=some (.lst vs):=x2.hh _ _ hH;refine⟨ad,vs,yi,.ref bd,rfl,lj.int,jU.of hA,?_,?_⟩
     ·unfold atI;rw[←ol.length,k1];exact q1
     ·refine Uh F0 B F2 H2 ρ σ _ _ (ou.ext x2) g6 λvl F3 H3 x3 ll=>?_;have qP:=x2.trans x3;have hB:H3 bd=some (.lst us):=qP.hh _ _ EB;have fB:F3 bd=none:=qP.nf bd _ EB nofun Kw;have e0:=E5.nil0;subst e0;have Gc:=cW.mp n1;have NY:bd∈vF:=q3 bd bH;have nU:ad≠bd:=λz=>Gc.1 (z▸NY);refine⟨bd,us,zi,jn,rfl,ll.int,hB,by rw[←E5.length];exact k8,?_⟩;obtain⟨vr',f2',OB,Ue,q3',Ug⟩:=iI.upd (R':=Ow X.K ct F3 (upd H3 bd (.lst (us.set jn v0))) 1) ol k3;rw[q1]at OB;cases OB;obtain⟨bd',us',Sx,eb,rfl,_,NT,LJ⟩:=Ue.lst_inv;cases eb;have e1:=LJ.nil0;subst e1;rw[EB]at NT;cases NT;refine z σ F3 _ (ou.change hm qP hσ b1 dj cf put (bK _ NY) fB (.inr (.lst (qP.nf ad _ hH nofun hF) (by rw[zj nU];exact qP.hh _ _ hH) (Ug (.lst (ds.set jn d)) (.inr (.lst fB zo (iI.set0 ⟨Dt.mono qP.ff l0,rfl⟩ (λ_ _ _ q=>q.2) jn (E5.mono λ_ _ _ _ q=>⟨q.1.mono qP.ff,q.2⟩)))) Gc.2 ?_))) (fn:=ad::vF) n1 λa ha=>.inl ha);intro d0 v1 f' rT KP o';refine(o'.ext qP).frame (.refl _) λa' BA=>⟨zj λe=>KP a' BA (by rw[e];exact bH),((o'.ext qP).cells a' BA).1⟩
    |_=>cases k4
   |_=>cases g7
  |_=>cases g7
 |_=>cases g7
theorem SL.fz (h0:SL K ct F B H ms ρ σ fp)(s:c9 F H):fp.Nodup->ms[i]?=some (.ow k)->∃f1:List bO,(∀a∈f1,a∈fp) /\
  ∃lX,SL K ct (mj F H f1) B H (ms.set i (.ow 0)) ρ σ lX/\lX.Nodup/\∀a∈lX,a∈fp/\a∉f1:=by
 induction h0 generalizing i with
 |nil=>intro _ e;simp at e
 |@no m0 o0 ms ρ σ fp t ih=>
  intro nd e;cases i with
  |zero=>obtain⟨w1,w2,w3⟩:=yu (F:=F) (H:=H) (fp:=[]) s (λa z=>by cases z);exact⟨[],λa z=>(by cases z),fp,.no (t.frame w1 λa z=>⟨rfl,by unfold mj;rw[if_neg (by simp)];exact(t.cells a z).1⟩),nd,λa z=>⟨z,by simp⟩⟩
  |succ i=>obtain⟨f1,h1,lX,q1,q2,q3⟩:=ih (i:=i) nd (by simpa using e);exact⟨f1,h1,lX,.no q1,q2,q3⟩
 |@al n0 d0 v0 ms ρ σ fp h t ih=>
  intro nd e;cases i with
  |zero=>simp at e
  |succ i=>obtain⟨f1,h1,lX,q1,q2,q3⟩:=ih (i:=i) nd (by simpa using e);obtain⟨w1,w2,w3⟩:=yu (F:=F) (H:=H) (fp:=f1) s (λa z=>(t.cells a (h1 a z)).1);exact⟨f1,h1,lX,.al (h.mono w1 (.refl _)) q1,q2,q3⟩
 |@px d0 v0 ms ρ σ fp h t ih=>
  intro nd e;cases i with
  |zero=>simp at e
  |succ i=>obtain⟨f1,h1,lX,q1,q2,q3⟩:=ih (i:=i) nd (by simpa using e);obtain⟨w1,w2,w3⟩:=yu (F:=F) (H:=H) (fp:=f1) s (λa z=>(t.cells a (h1 a z)).1);exact⟨f1,h1,lX,.px (h.mono w1 (.refl _)) q1,q2,q3⟩
 |@so d0 x ms ρ σ fp h t ih=>
  intro nd e;cases i with
  |zero=>simp at e
  |succ i=>
   obtain⟨n1,n2⟩:=cW.mp nd;obtain⟨f1,h1,lX,q1,q2,q3⟩:=ih (i:=i) n2 (by simpa using e);obtain⟨w1,w2,w3⟩:=yu (F:=F) (H:=H) (fp:=f1) s (λa z=>(t.cells a (h1 a z)).1);refine⟨f1,λa z=>bK _ (h1 a z),x::lX,.so (h.frame w1 λa z=>⟨rfl,?_⟩) q1,cW.mpr ⟨λz=>n1 (q3 x z).1,q2⟩,λa z=>?_⟩
   ·rw[bU]at z;unfold mj;rw[if_neg λq=>n1 (z▸h1 a q)];exact(h.cells a (by rw[z];exact bH)).1
   ·rcases bY.mp z with z|z
    ·exact⟨z▸bH,λq=>n1 (z▸h1 a q)⟩
    ·exact⟨bK _ (q3 a z).1,(q3 a z).2⟩
 |@ow n0 d0 v0 ms ρ σ f fp h t ih=>
  intro nd e;cases i with
  |zero=>obtain⟨w1,w2,w3⟩:=yu (F:=F) (H:=H) (fp:=f) s (λa z=>(h.cells a z).1);obtain⟨n1,n2,n3⟩:=cF.mp nd;refine⟨f,λa z=>cC _ z,[]++fp,.ow ⟨h.dt w1 w3,rfl⟩ (t.frame w1 λa z=>⟨rfl,?_⟩),n2,λa z=>⟨b6 _ z,λq=>n3 a q a z rfl⟩⟩;unfold mj;rw[if_neg λq=>n3 a q a z rfl];exact(t.cells a z).1
  |succ i=>
   obtain⟨n1,n2,n3⟩:=cF.mp nd;obtain⟨f1,h1,lX,q1,q2,q3⟩:=ih (i:=i) n2 (by simpa using e);obtain⟨w1,w2,w3⟩:=yu (F:=F) (H:=H) (fp:=f1) s (λa z=>(t.cells a (h1 a z)).1);refine⟨f1,λa z=>b6 _ (h1 a z),f++lX,.ow (h.frame w1 λa z=>⟨rfl,?_⟩) q1,cF.mpr ⟨n1,q2,λa z b zb=>n3 a z b (q3 b zb).1⟩,λa z=>?_⟩
   ·unfold mj;rw[if_neg λq=>n3 a z a (h1 a q) rfl];exact(h.cells a z).1
   ·rcases cA.mp z with z|z
    ·exact⟨cC _ z,λq=>n3 a z a (h1 a q) rfl⟩
    ·exact⟨b6 _ (q3 a z).1,(q3 a z).2⟩
theorem SL.forget (m':Mo)(i:Nat)(h0:SL K ct F B H ms ρ σ fp):∃lX,SL K ct F B H (ms.set i m') (ρ.set i none) σ lX/\lX.Sublist fp:=by
 induction h0 generalizing i with
 |nil=>exact⟨[],.nil,.refl _⟩
 |@no m0 o0 ms ρ σ fp t ih=>
  cases i with
  |zero=>exact⟨fp,.no t,.refl _⟩
  |succ i=>obtain⟨lX,q1,q2⟩:=ih i;exact⟨lX,.no q1,q2⟩
 |@al n0 d0 v0 ms ρ σ fp h t ih=>
  cases i with
  |zero=>exact⟨fp,.no t,.refl _⟩
  |succ i=>obtain⟨lX,q1,q2⟩:=ih i;exact⟨lX,.al h q1,q2⟩
 |@px d0 v0 ms ρ σ fp h t ih=>
  cases i with
  |zero=>exact⟨fp,.no t,.refl _⟩
  |succ i=>obtain⟨lX,q1,q2⟩:=ih i;exact⟨lX,.px h q1,q2⟩
 |@so d0 x ms ρ σ fp h t ih=>
  cases i with
  |zero=>exact⟨fp,.no t,List.sublist_cons_self _ _⟩
  |succ i=>obtain⟨lX,q1,q2⟩:=ih i;exact⟨_,.so h q1,q2.cons₂ _⟩
 |@ow n0 d0 v0 ms ρ σ f fp h t ih=>
  cases i with
  |zero=>exact⟨fp,.no t,List.sublist_append_right _ _⟩
  |succ i=>obtain⟨lX,q1,q2⟩:=ih i;exact⟨_,.ow h q1,(List.Sublist.refl _).append q2⟩
theorem RS.fz (rs:RS K ct F0 B ms F H ρ σ)(hm:ms[i]?=some (.ow k)):∃F',RS K ct F0 B (ms.set i (.ow 0)) F' H ρ σ:=by
 obtain⟨fp,sl,nd,hb⟩:=rs.sl;obtain⟨f1,h1,lX,q1,q2,q3⟩:=sl.fz rs.fh nd hm;obtain⟨w1,w2,w3⟩:=yu (F:=F) (H:=H) (fp:=f1) rs.fh (λa z=>(sl.cells a (h1 a z)).1);refine⟨mj F H f1,rs.f0.trans w1,rs.bh,w2,λa o ho nt hn=>?_,lX,q1,q2,λa z=>hb a (q3 a z).1⟩;have:¬a∈f1:=λz=>by rw[hb a (h1 a z)]at ho;cases ho
 unfold mj;rw[if_neg this];exact rs.nf a o ho nt hn
theorem RS.forget (m':Mo)(i:Nat)(rs:RS K ct F0 B ms F H ρ σ):RS K ct F0 B (ms.set i m') F H (ρ.set i none) σ:=by obtain⟨fp,sl,nd,hb⟩:=rs.sl;obtain⟨lX,q1,q2⟩:=sl.forget m' i;exact⟨rs.f0,rs.bh,rs.fh,rs.nf,lX,q1,q2.nodup nd,λa z=>hb a (q2.subset z)⟩
noncomputable def B4 (i:Nat):Out->Out
 |.nx ρ=>.nx (ρ.set i none)
 |.rt d=>.rt d
 |.bk ρ=>.bk (ρ.set i none)
 |.ct ρ=>.ct (ρ.set i none)
noncomputable def sFz (i:Nat)(u:SF):SF:=λρ=>(u ρ).bind λo=>some (B4 i o)
theorem VA (hm:ms[i]?=some (.ow k)):(ms.set i (.ow 0)).set i (.ow k)=ms:=by
 rw[List.set_set];apply mC;intro j;rw[AS];split
 ·next h=>subst h;rw[hm];have:=(bZ.mp hm).1;rw[if_pos this]
 ·rfl
theorem ztv {t:mm->St->Hp->Prop}(hm:ms[i]?=some (.ow k))
  (q:∀(F0 B F H:Hp) (ρ:Env) (σ:St) (o:Out) (E:mm),RS X.K ct F0 B (ms.set i (.ow 0)) F H ρ σ->w ρ=some o->nB X.K ct F0 B (ms.set i (.ow 0)) rk E o->t E σ H)
  (F0 B F H:Hp) (ρ:Env) (σ:St) (o:Out) (E:mm) (rs:RS X.K ct F0 B ms F H ρ σ) (e:sFz i w ρ=some o) (z:nB X.K ct F0 B ms rk E o):t E σ H:=by
 obtain⟨F',r2⟩:=rs.fz hm;obtain⟨o1,e1,e2⟩:=cx e;refine q F0 B F' H ρ σ o1 E r2 e1 ?_;have back:∀{ρ':Env} {σ':St} {F2 H2:Hp},RS X.K ct F0 B (ms.set i (.ow 0)) F2 H2 ρ' σ'->RS X.K ct F0 B ms F2 H2 (ρ'.set i none) σ':=λr=>by have:=r.forget (.ow k) i;rw[VA hm]at this;exact this
 cases o1 with
 |nx ρ'=>cases e2;exactλσ' F2 H2 r=>z σ' F2 H2 (back r)
 |rt d=>cases e2;exact z
 |bk ρ'=>cases e2;exactλσ' F2 H2 r=>z σ' F2 H2 (back r)
 |ct ρ'=>cases e2;exactλσ' F2 H2 r=>z σ' F2 H2 (back r)
theorem JQ {OG:List dO}(hm:ms[i]?=some (.ow k))(h:vE X ct (ms.set i (.ow 0)) rk OG w):vE X ct ms rk OG (sFz i w):=by obtain⟨t,pt,qt⟩:=h;exact⟨t,pt,ztv hm qt⟩
theorem zk1:B4 i (.rt d)=.rt d:=rfl
theorem zk2:B4 i (.nx ρ)=.nx (ρ.set i none):=rfl
noncomputable def kg (p q:Nat)(rv:Bool)(us ws:List α):List α:=if us.length=p/\ws.length=q then us++(if rv then ws.reverse else ws)else[]
theorem YT:rB (bJ.type "list_reverseiterator") (Str.ofString "__len__")=pure none:=by with_unfolding_all rfl
theorem W1:rB (bJ.type "list_reverseiterator") (Str.ofString "__length_hint__")=pure (some (bJ.builtin "list_reverseiterator.__length_hint__")):=by with_unfolding_all rfl
theorem V5:splitId "list_reverseiterator.__length_hint__"=some ("list_reverseiterator","__length_hint__"):=by with_unfolding_all rfl
theorem YU:isSubtype (bJ.type "list_reverseiterator") (bJ.type "list_reverseiterator")=pure true:=by with_unfolding_all rfl
variable {A:c8}{it:bO}{prog:dQ}
theorem W2 {w:dB}{E:bJ->bV->Prop}{i:Int}{Q:Bool->bV->Prop}(st:s.heap.IsRevIter it l i)(h:Q false s):cj (b9 prog w) A (er.List.listLengthHint (bJ.ref it)) Q E s:=by unfold er.List.listLengthHint;refine bP (vC st.typeIs YT ?_);simp only[];refine bP (vC st.typeIs W1 ?_);simp only[V5];refine bP (wpAny_isInstance st.typeIs YU ?_);rw[if_neg (by decide)];rw[if_pos (by with_unfolding_all decide),if_neg (by decide)];exact cy h
theorem VB {w:dB}{R:Result->bV->Prop}(hh:A.handled=none)(st:s.heap.IsRevIter it l ((items.size:Int)-1))(hl:s.heap.IsList l items)(nU:l≠it)(hsz:items.size<=sizeLine)(S:bO)(res:bJ)(c₀:Nat)(hS:s.heap.get? S=some { cls:=bJ.type "list",data:=oI.seq #[] c₀ })(SV:S≠l)
    (hR:∀(h':cz) (tk:Nat) (oB:Array bJ) (c':Nat),(∀(b:bO) (o:gF),b≠S->b≠it->s.heap.get? b=some o->h'.get? b=some o)->h'.get? S=some { cls:=bJ.type "list",data:=oI.seq oB c' }->ItemsOf (λi v=>items[items.size-1-i]?=some v) oB items.size->R (Except.ok (Flow.ret res)) { s with heap:=h',toks:=tk }) :
    cj (b9 prog w) A.in1 (er.List.listExtendWith (bJ.ref S) (bJ.ref it) res) (λfin s'=>match fin with|Fin.done f=>R (Except.ok f) s'|Fin.again c'=>c'.quiet=true/\gK (b9 prog w) A c' R s') (λe s'=>R (Except.error e) s') s:=by
  have GU:S≠it:=λe=>by obtain⟨o,h1,h2,h3⟩:=st;rw[←e,hS]at h1;cases h1;simp at h2
  have W:=(Walks.listRev (prog:=prog) (w:=w) (A:=A.in1) hh it l nU items).toS;have key:gK (b9 prog w) A (sx.builtin "list.extend.loop" { pos:=[bJ.ref S,bJ.ref it,res] }) R s:=by refine codeAny_extend_loopS W hsz S (by simp[GU,SV]) res items.size 0 s #[] c₀ rfl (ej _) ⟨ej _,by simpa using st,hl⟩ hS (ItemsOf.nil _) λs' oB c' hm CD xZ=>?_;rw[Moved.eq_with hm];exact hR s'.heap s'.toks oB c' (λb o hb hi e=>hm.heap b o (by simp[hb,hi]) e) CD xZ
  unfold er.List.listExtendWith;refine bP (wpAny_typeOf st.typeIs ?_);have h1:er.List.listSameRef (bJ.ref S) (bJ.ref it)=false:=by simp[er.List.listSameRef,GU]
  have h2:(bJ.type "list_reverseiterator" == bJ.type "list")=false:=by decide
  have h3:(bJ.type "list_reverseiterator" == bJ.type "tuple")=false:=by decide
  simp only[h1,h2,h3,DC,dH,if_false];refine bP (wpAny_pyIter_revIter st ?_);refine bP (lF (W2 st ?_));rw[if_neg (by with_unfolding_all decide)];exact cy ⟨plainId_quiet F.plain_extend_loop _,key⟩
theorem UU {w:dB}{E:bJ->bV->Prop}{Q:bJ->bV->Prop}(hh:A.handled=none)(st:s.heap.IsRevIter it l ((items.size:Int)-1))(hl:s.heap.IsList l items)(nU:l≠it)(hsz:items.size<=sizeLine)
    (hQ:∀(h':cz) (tk:Nat) (oB:Array bJ) (c':Nat),(∀(b:bO) (o:gF),b≠it->s.heap.get? b=some o->h'.get? b=some o)->h'.get? s.heap.objs.size=some { cls:=bJ.type "list",data:=oI.seq oB c' }->ItemsOf (λi v=>items[items.size-1-i]?=some v) oB items.size->Q (bJ.ref s.heap.objs.size) { s with heap:=h',toks:=tk }) :
    cj (b9 prog w) A (call (bJ.type "list") [bJ.ref it]) Q E s:=by
  refine callType_codes (Q₁:=λobj s₁=>obj=bJ.ref s.heap.objs.size/\s₁ = { s with heap:=s.heap.push { cls:=bJ.type "list",data:=oI.seq #[] } }) F.called_list (F.typeCall_list_1 (bJ.ref it)) F.entry_list_init (code_list_new (bJ.ref it) ⟨rfl,rfl⟩) λobj s₁ h₁=>?_;obtain⟨rfl,rfl⟩:=h₁;have hS:=cU s.heap (o:={ cls:=bJ.type "list",data:=oI.seq #[] }) rfl;refine⟨⟨_,hS,rfl⟩,F.args_list_init_2 (bJ.ref s.heap.objs.size) (bJ.ref it),?_⟩;have Hu:∀b o,s.heap.get? b=some o->b≠s.heap.objs.size:=λb o e=>cN (cw e);have Td:s.heap.objs.size≠l:=λe=>by obtain⟨o,h1,_⟩:=hl;exact Hu l o h1 e.symm
  have TR:(#[]:Array bJ).size<=sizeLine:=ej _;have Jd:(#[]:Array bJ).size<=sizeLine+1:=ej _;show cj _ _ (er.List.listItems (bJ.ref s.heap.objs.size) >>= _) _ _ _;refine bP ?_;show cj _ _ (seqItems? (bJ.ref s.heap.objs.size) >>= _) _ _ _;refine bP (wpAny_seqItems hS rfl ?_);refine cy ?_;show cj _ _ (updateSeq s.heap.objs.size (λ_=>#[]) >>= _) _ _ _;refine bP (wpAny_updateSeq hS rfl ?_ TR Jd);have SW:((s.heap.push { cls:=bJ.type "list",data:=oI.seq #[] }).update s.heap.objs.size (gF.mapSeq λ_=>#[])).get? s.heap.objs.size=some { cls:=bJ.type "list",data:=oI.seq #[] 0 }:=el (gF.mapSeq λ_=>#[]) hS rfl;have LL:∀(b:bO) (o:gF),b≠s.heap.objs.size->s.heap.get? b=some o->((s.heap.push { cls:=bJ.type "list",data:=oI.seq #[] }).update s.heap.objs.size (gF.mapSeq λ_=>#[])).get? b=some o:=λb o hb e=>(cY _ _ (Ne.symm hb)).trans (bT _ e);refine bP (wpAny_letGo ?_);obtain⟨oi,i1,i2,i3⟩:=st;obtain⟨ol,l1,l2,l3⟩:=hl;refine VB (A:=A.in1) (R:=wants (λr s₂=>r=bJ.none/\Q (bJ.ref s.heap.objs.size) s₂) E) (s:={ s with heap:=(s.heap.push { cls:=bJ.type "list",data:=oI.seq #[] }).update s.heap.objs.size (gF.mapSeq λ_=>#[]) }) (l:=l) (items:=items) hh ⟨oi,LL it oi (Hu it oi i1) i1,i2,i3⟩ ⟨ol,LL l ol (Hu l ol l1) l1,l2,l3⟩ nU hsz s.heap.objs.size bJ.none _ SW Td λh' tk oB c' hk CD xZ=>⟨rfl,hQ h' tk oB c' (λb o hb e=>hk b o (Hu b o e) hb (LL b o (Hu b o e) e)) CD xZ⟩
def D9 (K:bM):V->Hp->VK->Prop:=λx H Q=>∃a xs,x=.ref a/\jU K H a xs/\∀p,H p=none->Q (.ref p) (upd H p (.lst xs.reverse))
def HW (K:bM)(te:TE):TE:=λσ H Q=>te σ H λx H1=>D9 K x H1 Q
theorem Zq {te:TE}(hc:X.calm=true)(hg:Gl X "list")(hm:X.mg "list"=none)(vG:Gl X "reversed")(uI:X.mg "reversed"=none)(he:PE X e te)(hs:SN X e:=by rfl)
  (rS:cT [.Call (.Name "reversed" p2) [e] [] nK] X.env=[(false,dR (.Call (.Name "reversed" p2) [e] [] nK) X.env)]:=by rfl) :
  PE X (.Call (.Name "list" p1) [.Call (.Name "reversed" p2) [e] [] nK] [] pos) (HW X.K te):=by
 intro bL s σ H Q I h;refine dX (wm I hg hm vm ?_ (by decide) (by decide));refine dG ?_ rS rfl;rw[rS];show cj _ _ (spliced ((false,dR (.Call (.Name "reversed" p2) [e] [] nK) X.env)::[])) _ _ s;refine Calls.spliced_cons ?_;refine dX (wm (u:=.type "reversed") I vG uI (by rfl) ?_ (by decide) (by decide));refine dG (eT ((z9 he xn hs) nK bL s σ H (λvs H1=>match vs with|[x]=>D9 X.K x H1 Q|_=>False) I h) λus s1 ⟨vs,H1,I1,r,q⟩=>?_) hs rfl
 match vs,q with
 |[x],q=>
  obtain⟨a,xs,rfl,hq,q⟩:=q;obtain⟨u,rfl,ru⟩:=r.one;cases ru;obtain⟨dJ,rv,pl,hz⟩:=I1.list hq;have hl:=rv.length;refine call_reversed_list pl.isList (Calls.spliced_nil ?_);have I2:L2.Inv X bL σ H1 { s1 with heap:=s1.heap.push (DG a ((dJ.toArray.size:Int)-1)) }:=I1.kept (t':=s1.toks) λb o e=>bT _ e;have st:(s1.heap.push (DG a ((dJ.toArray.size:Int)-1))).IsRevIter s1.heap.objs.size a ((dJ.toArray.size:Int)-1):=⟨_,cU _ rfl,rfl,by simp[DG]⟩;have Ub:(s1.heap.push (DG a ((dJ.toArray.size:Int)-1))).IsList a dJ.toArray:=by obtain⟨o,h1,h2⟩:=pl.isList;exact⟨o,bT _ h1,h2⟩
  have RW:a≠s1.heap.objs.size:=by obtain⟨o,h1,h2⟩:=pl.isList;exact cN (cw h1)
  refine UU (I2.ok.hd hc) st Ub RW (by rw[cv,←hl];exact hz) λh' tk oB c' kp hS xZ=>?_;have DZ:(s1.heap.push (DG a ((dJ.toArray.size:Int)-1))).objs.size=s1.heap.objs.size+1:=by simp[cz.push]
  have hv:dm xs.reverse oB.toList:=by
   obtain⟨e1,e2⟩:=xZ;have e3:oB.size=dJ.length:=by rw[e1,cv]
   refine ox ((i6).trans (hl.trans (e3.symm.trans dr.symm))) λi x u hx hu=>?_;have hi:i<xs.length:=by have:=(bZ.mp hx).1;rwa[i6]at this
   rw[List.getElem?_reverse hi]at hx;obtain⟨u',C8,ru⟩:=rv.get hx;have:=e2 i u (by simpa using hu);rw[cv,←hl]at this;have h3:dJ[xs.length-1-i]?=some u:=by simpa using this
   rw[C8]at h3;cases h3;exact ru
  have eP:xs.reverse.length<=sizeLine:=by rw[i6];exact hz
  refine⟨.ref _,_,I1.laid (t':=tk) (λb o e=>kp b o (cN (cw e)) (bT _ e)) (by rw[DZ];omega) (show gj X.prog X.w _ h' _ (.lst _)from⟨eP,oB.toList,c',hv,hS⟩),rfl,q _ (I1.hok.fresh (by rw[DZ];omega))⟩
def vR:D->Option D
 |.lst ds=>some (.lst ds.reverse)
 |_=>none
theorem Qp (hn:n<=1)(hc:X.calm=true)(hg:Gl X "list")(hm:X.mg "list"=none)(vG:Gl X "reversed")(uI:X.mg "reversed"=none)(he:XE X ct ms n e f)(hs:SN X e:=by rfl)
  (rS:cT [.Call (.Name "reversed" p2) [e] [] nK] X.env=[(false,dR (.Call (.Name "reversed" p2) [e] [] nK) X.env)]:=by rfl) :
  XO X ct ms 1 (.Call (.Name "list" p1) [.Call (.Name "reversed" p2) [e] [] nK] [] pos) (e1 vR f):=by
 obtain⟨t,pt,qt⟩:=he;refine⟨_,Zq hc hg hm vG uI pt hs rS,λF0 B F H ρ σ r Q rs e w=>?_⟩;obtain⟨d,h1,h2⟩:=cx e;refine qt F0 B F H ρ σ d _ rs h1 λv F1 H1 x1 l=>?_;cases d with
 |lst ds=>cases h2;obtain⟨a,vs,rfl,ha,hp⟩:=Al.lst1 hn l x1.fh;exact⟨a,vs,rfl,ha,vn x1.fh (Pr.reverse hp) λv F2 H2 fp x2 l2 nd hf=>w v F2 H2 fp (x1.trans x2) l2 nd λz hz=>x1.hh.free (hf z hz)⟩
 |_=>cases h2
noncomputable def Ez (f:EF):EF:=λρ=>(f ρ).bind λd=>if d.sc=true then some d else none
theorem RJ (he:XE X ct ms n e f):XO X ct ms k e (Ez f):=by
 obtain⟨t,p,q⟩:=he;refine⟨t,p,λF0 B F H ρ σ d Q r e w=>?_⟩;obtain⟨d0,h1,h2⟩:=cx e;by_cases hs:d0.sc=true
 ·rw[if_pos hs]at h2;cases h2;exact q F0 B F H ρ σ d Q r h1 λv F' H' x l=>w v F' H' [] x (Ow.scal (Al.scal l hs) hs) cZ λa z=>(by cases z)
 ·rw[if_neg hs]at h2;cases h2
noncomputable def nh:D->Bool
 |.lst _=>true
 |.dK _ _=>true
 |.dT _ _=>true
 |.obj _ _ _=>true
 |_=>false
theorem Ow.cell {v:V}(h:Ow K ct F H 1 d v fp)(hc:nh d=true):∃a,v=.ref a/\fp=[a]:=by
 cases d with
 |lst ds=>obtain⟨a,vs,fr,rfl,rfl,_,_,ol⟩:=h.lst_inv;have e0:=ol.nil0;subst e0;exact⟨_,rfl,rfl⟩
 |dK ks ds=>obtain⟨a,vs,fr,rfl,rfl,_,_,_,ol⟩:=h.dK_inv;have e0:=ol.nil0;subst e0;exact⟨_,rfl,rfl⟩
 |dT ks ds=>obtain⟨a,vs,fr,rfl,rfl,_,_,_,ol⟩:=h.dT_inv;have e0:=ol.nil0;subst e0;exact⟨_,rfl,rfl⟩
 |obj c ns ds=>obtain⟨a,dx,vs,fr,rfl,rfl,_,_,_,ol⟩:=h.obj_inv;have e0:=ol.nil0;subst e0;exact⟨_,rfl,rfl⟩
 |_=>cases hc
theorem SL.putS {x:bO}(h0:SL K ct F B H ms ρ σ fp):fp.Nodup->ms[i]?=some (.so x)->ρ[i]?=some (some d) ->
  σ[i]?=some (some (.ref x))/\Ow K ct F H 1 d (.ref x) [x]/\x∈fp/\∀(F' H':Hp) (d':D),c9 F F'->(∀a∈fp,a≠x->H' a=H a/\F' a=none)->Ow K ct F' H' 1 d' (.ref x) [x]->SL K ct F' B H' ms (ρ.set i (some d')) σ fp:=by
 induction h0 generalizing i with
 |nil=>intro _ e _;simp at e
 |@no m0 o0 ms ρ σ fp t ih=>
  intro nd e e';cases i with
  |zero=>have e:=e';simp at e
  |succ i=>obtain⟨h1,h2,h3,h4⟩:=ih (i:=i) nd (by simpa using e) (by simpa using e');exact⟨by simpa using h1,h2,h3,λF' H' d' s k o=>.no (h4 F' H' d' s k o)⟩
 |@al n0 d0 v0 ms ρ σ fp h t ih=>
  intro nd e e';cases i with
  |zero=>simp at e
  |succ i=>obtain⟨h1,h2,h3,h4⟩:=ih (i:=i) nd (by simpa using e) (by simpa using e');exact⟨by simpa using h1,h2,h3,λF' H' d' s k o=>.al (h.mono s (.refl _)) (h4 F' H' d' s k o)⟩
 |@px d0 v0 ms ρ σ fp h t ih=>
  intro nd e e';cases i with
  |zero=>simp at e
  |succ i=>obtain⟨h1,h2,h3,h4⟩:=ih (i:=i) nd (by simpa using e) (by simpa using e');exact⟨by simpa using h1,h2,h3,λF' H' d' s k o=>.px (h.mono s (.refl _)) (h4 F' H' d' s k o)⟩
 |@so d0 y ms ρ σ Kh h t ih=>
  intro nd e e';cases i with
  |zero=>simp at e e';subst e;subst e';obtain⟨n1,n2⟩:=cW.mp nd;exact⟨rfl,h,bH,λF' H' d' s k o=>.so o (t.frame s λa z=>k a (bK _ z) λe=>n1 (e▸z))⟩
  |succ i=>obtain⟨n1,n2⟩:=cW.mp nd;obtain⟨h1,h2,h3,h4⟩:=ih (i:=i) n2 (by simpa using e) (by simpa using e');refine⟨by simpa using h1,h2,bK _ h3,λF' H' d' s k o=>.so (h.frame s λa z=>?_) (h4 F' H' d' s (λa z=>k a (bK _ z)) o)⟩;rw[bU]at z;subst z;exact k a bH λe=>n1 (e▸h3)
 |@ow n0 d0 v0 ms ρ σ f Kh h t ih=>
  intro nd e e';cases i with
  |zero=>simp at e
  |succ i=>obtain⟨n1,n2,n3⟩:=cF.mp nd;obtain⟨h1,h2,h3,h4⟩:=ih (i:=i) n2 (by simpa using e) (by simpa using e');refine⟨by simpa using h1,h2,b6 _ h3,λF' H' d' s k o=>.ow (h.frame s λa z=>?_) (h4 F' H' d' s (λa z=>k a (b6 _ z)) o)⟩;exact k a (cC _ z) λe=>n3 a z x h3 e
theorem RS.changeS {o:HO}(rs:RS K ct F0 B ms F H ρ σ)(hm:ms[i]?=some (.so ad))(hρ:ρ[i]?=some (some d))(x:iZ F H F' H')(Ke:F' ad=none)(o':Ow K ct F' (upd H' ad o) 1 d' (.ref ad) [ad]) :
  RS K ct F0 B ms F' (upd H' ad o) (ρ.set i (some d')) σ:=by
 have r:=rs.ext x;obtain⟨fp,sl,nd,hb⟩:=rs.sl;obtain⟨h1,h2,h3,h4⟩:=sl.putS nd hm hρ;have hB:B ad=none:=hb ad h3;refine⟨r.f0,λz u h=>?_,λz u h=>?_,r.nf,fp,h4 F' _ d' x.ff (λa z ne=>?_) o',nd,hb⟩
 ·rw[zj (λe=>by rw[e,hB]at h;cases h)];exact r.bh _ _ h
 ·rw[zj (λe=>by rw[e,Ke]at h;cases h)];exact x.fh _ _ h
 ·obtain⟨hn,o,ho,nt⟩:=sl.cells a z;rw[zj ne];exact⟨(x.hh _ _ ho).trans ho.symm,x.nf a o ho nt hn⟩
theorem RS.so_at (rs:RS K ct F0 B ms F H ρ σ)(hm:ms[i]?=some (.so ad))(hρ:ρ[i]?=some (some d)):σ[i]?=some (some (.ref ad))/\Ow K ct F H 1 d (.ref ad) [ad]/\B ad=none:=by obtain⟨fp,sl,nd,hb⟩:=rs.sl;obtain⟨h1,h2,h3,h4⟩:=sl.putS nd hm hρ;exact⟨h1,h2,hb _ h3⟩
theorem W3 (i:Nat){xa:bO}{j:Expr}(hm:ms[i]?=some (.so xa))(hj:XE X ct ms n j fj)(he:XE X ct ms 0 e f)(hN:X.N[i]?=some x:=by rfl)(hv:vD X.env.scope x:=by walk_at "v1")(hd:lS x:=by decide)
  (mP:xD x:=by decide)
  (ha:∀v,lB (.Subscript (.Name x p1) j lU) X.env v=(do
   let ov ← fV [v] (dR (.Name x p1) X.env)
   let iv ← fV [v,ov] (dR j X.env)
   jN lU
   fV [v,ov,iv] (sD ov iv v)
   AY [v,ov,iv] []):=by intro _;rfl)
  (hs:lE [.Subscript (.Name x p1) j lU] e pos.line X.env=pure false:=by rfl) (hw:lD [.Subscript (.Name x p1) j lU] e X.env=pure none:=by rfl)
  (h1:(eJ [.Subscript (.Name x p1) j lU] X.env).map (·.2)=[lB (.Subscript (.Name x p1) j lU) X.env]:=by rfl) :
  XS X ct ms rk (.Assign [.Subscript (.Name x p1) j lU] e pos) (vZ i fj f):=by
 obtain⟨t,pt,qt⟩:=he;obtain⟨tj,Di,Dj⟩:=hj;refine⟨_,MY pt (Q3 (yp hN hv hd mP) Di Mi ha) hs hw h1,λF0 B F H ρ σ o E rs e z=>?_⟩;obtain⟨d,g1,g2⟩:=cx e;obtain⟨d1,zL,g3,g4,g5⟩:=fJ g2;refine qt F0 B F H ρ σ d _ rs g1 λv0 F1 H1 x1 l0=>?_;have ou:=rs.ext x1;obtain⟨hσ,ow,hB⟩:=ou.so_at hm (zt g3);refine⟨_,hσ,Dj F0 B F1 H1 ρ σ zL _ ou g4 λvj F2 H2 x2 lj=>?_⟩;cases d1 with
 |lst ds=>
  cases zL with
  |int zi=>obtain⟨uF,g6,g7⟩:=cx g5;cases g7;obtain⟨jn,g8,g9⟩:=cx g6;cases g9;obtain⟨ad,vs,vF,ea,ef,hF,hH,ol⟩:=ow.lst_inv;cases ea;cases ef;have hA:H2 xa=some (.lst vs):=x2.hh _ _ hH;have fA:F2 xa=none:=x2.nf xa _ hH nofun hF;refine⟨xa,vs,zi,jn,rfl,lj.int,hA,by rw[←ol.length];exact g8,?_⟩;exact z σ F2 _ (ou.changeS hm (zt g3) x2 fA (.inr (.lst fA zo (iI.set0 ⟨Dt.mono x2.ff l0,rfl⟩ (λ_ _ _ q=>q.2) jn (ol.mono λ_ _ _ _ q=>⟨q.1.mono x2.ff,q.2⟩)))))
  |_=>cases g5
 |_=>cases g5
theorem W4 (i:Nat){xa:bO}{j:Expr}(hm:ms[i]?=some (.so xa))(hu:X.A.units+1<jH)(hj:XE X ct ms 0 j fj)(he:XE X ct ms 0 e f)(hN:X.N[i]?=some x:=by rfl)(hv:vD X.env.scope x:=by walk_at "v1")(hd:lS x:=by decide)
  (mP:xD x:=by decide) (hs:gq e (some (.Subscript (.Name x p1) j lU)) pos.line X.env=pure false:=by rfl) :
  XS X ct ms rk (.Assign [.Subscript (.Name x p1) j lU] e pos) (mR i fj f):=by
 obtain⟨t,pt,qt⟩:=he;obtain⟨tj,Di,Dj⟩:=hj;refine⟨_,Qo hu (yp hN hv hd mP) Di pt hs,λF0 B F H ρ σ o E rs e z=>?_⟩;obtain⟨d,g1,g2⟩:=cx e;obtain⟨d1,zL,g3,g4,g5⟩:=fJ g2;refine qt F0 B F H ρ σ d _ rs g1 λv0 F1 H1 x1 l0=>?_;have ou:=rs.ext x1;obtain⟨hσ,ow,hB⟩:=ou.so_at hm (zt g3);refine⟨_,hσ,Dj F0 B F1 H1 ρ σ zL _ ou g4 λvj F2 H2 x2 lj=>?_⟩;have Hs:Dt X.K ct F2 d v0:=Dt.mono x2.ff l0;cases d1 with
 |dK ks ds=>
  dsimp only at g5;obtain⟨key,g6,g7⟩:=cx g5;by_cases hz:ks.length<16777216
  ·rw[if_pos hz]at g7;cases g7;obtain⟨ad,vs,vF,ea,ef,hF,hH,hl,ol⟩:=ow.dK_inv;cases ea;cases ef;have hA:=x2.hh _ _ hH;have fA:F2 xa=none:=x2.nf xa _ hH nofun hF;have hp:Pr (Dt X.K ct F2) ds vs:=ol.pr λ_ _ _ _ q=>q.1.mono x2.ff;obtain⟨us,CH,D2,ET⟩:=jj Hs key hl hp;have hk:=JO g6 lj;subst hk;refine⟨xa,_,rfl,sO.k hA (by rw[iu,←hl,lL,dF];exact hz),?_⟩;rw[CH];exact z σ F2 _ (ou.changeS hm (zt g3) x2 fA (.inr (.dK fA zo D2 (iI.ofPr (ET.mono λ_ _ q=>⟨q,rfl⟩)))))
  ·rw[if_neg hz]at g7;cases g7
 |dT ks ds=>
  cases zL with
  |tup js=>
   dsimp only at g5;obtain⟨key,g6,g7⟩:=cx g5;by_cases hz:ks.length<16777216
   ·rw[if_pos hz]at g7;cases g7;obtain⟨ad,vs,vF,ea,ef,hF,hH,hl,ol⟩:=ow.dT_inv;cases ea;cases ef;have hA:=x2.hh _ _ hH;have fA:F2 xa=none:=x2.nf xa _ hH nofun hF;have hp:Pr (Dt X.K ct F2) ds vs:=ol.pr λ_ _ _ _ q=>q.1.mono x2.ff;obtain⟨us,CH,D2,ET⟩:=jj Hs key hl hp;obtain⟨bd,ws,rfl,hb,Hc⟩:=lj.tup x2.fh;have hk:=MN g6 Hc;subst hk;refine⟨xa,_,rfl,sO.t hA hb (by rw[iu,←hl,lL,dF];exact hz),?_⟩;rw[CH];exact z σ F2 _ (ou.changeS hm (zt g3) x2 fA (.inr (.dT fA zo D2 (iI.ofPr (ET.mono λ_ _ q=>⟨q,rfl⟩)))))
   ·rw[if_neg hz]at g7;cases g7
  |_=>cases g5
 |_=>cases g5
abbrev EM:=Env->Option (D×Env)
def CV (X:Cx)(ct:Nat->bO)(ms:List Mo)(st:List dO)(f:EM):Prop:=∃t,uD X st t/\∀(F0 B F H:Hp) (ρ ρ':Env) (σ:St) (d:D) (E:mm),RS X.K ct F0 B ms F H ρ σ->f ρ=some (d,ρ')->(∀v σ' F' H',RS X.K ct F0 B ms F' H' ρ' σ'->Dt X.K ct F' d v->E.rt v H')->t E σ H
noncomputable def Dg (f:SF)(g:EM):EM:=λρ=>(f ρ).bind λo=>match o with
 |.nx ρ'=>g ρ'
 |_=>none
def E4 (f:EF):EM:=λρ=>(f ρ).bind λd=>some (d,ρ)
theorem zsc (he:XE X ct ms 0 e f):CV X ct ms [.Return (some e) pos] (E4 f):=by obtain⟨t,pt,qt⟩:=he;refine⟨_,Jw (MX pt),λF0 B F H ρ ρ' σ d E rs e z=>?_⟩;obtain⟨d',h1,h2⟩:=cx e;cases h2;exact qt F0 B F H ρ σ _ _ rs h1 λv F' H' x l=>z v σ F' H' (rs.ext x) l
theorem Qq {gm:EM}(h1:XS X ct ms 0 st u)(h2:CV X ct ms rest gm):CV X ct ms (st::rest) (Dg u gm):=by
 obtain⟨t,pt,qt⟩:=h1;obtain⟨t2,pZ,uO⟩:=h2;refine⟨_,jb pt pZ,λF0 B F H ρ ρ' σ d E rs e z=>?_⟩;obtain⟨o1,e1,e2⟩:=cx e;refine qt F0 B F H ρ σ o1 _ rs e1 ?_;cases o1 with
 |nx ρ1=>exactλσ' F' H' Fc=>uO F0 B F' H' ρ1 ρ' σ' d E Fc e2 z
 |rt d=>cases e2
 |bk ρ'=>cases e2
 |ct ρ'=>cases e2
theorem SL.app {Oo:List Mo}{ρ2:Env}{σ2:St}{NN:List bO}(h2:SL K ct F B H Oo ρ2 σ2 NN)(h0:SL K ct F B H ms ρ σ fp):SL K ct F B H (ms++Oo) (ρ ++ ρ2) (σ ++ σ2) (fp++NN):=by
 induction h0 with
 |nil=>exact h2
 |@no m0 o0 ms ρ σ fp t ih=>exact .no ih
 |@al n0 d0 v0 ms ρ σ fp h t ih=>exact .al h ih
 |@px d0 v0 ms ρ σ fp h t ih=>exact .px h ih
 |@so d0 x0 ms ρ σ Kh h t ih=>exact .so h ih
 |@ow n0 d0 v0 ms ρ σ f0 Kh h t ih=>rw[fL];exact .ow h ih
theorem SL.none {K:bM}{ct:Nat->bO}{F B H:Hp}:∀(ms:List Mo),SL K ct F B H ms (bW ms.length none) (bW ms.length none) []
 |[]=>.nil
 |m::ms=>.no (SL.none ms)
theorem SL.start0 {K:bM}{ct:Nat->bO}{F B H:Hp}:∀{ds:List D} {us:List V},Pr (Dt K ct F) ds us->SL K ct F B H (bW ds.length (Mo.ow 0)) (ds.map some) (us.map some) []
 |_,_,.nil=>.nil
 |_,_,.cons h t=>SL.ow (f:=[]) (Ow.zero h) (SL.start0 t)
noncomputable def FJ (K:bM)(ct:Nat->bO)(n:Nat)(mf:List D->Option D):Sp:=λvs H Q _=>∃(F:Hp) (ds:List D) (us:List V) (d p q p' q':D) (a b:bO),vs=us++[.ref a,.ref b]/\ds.length=n/\c9 F H/\Pr (Dt K ct F) ds us/\a≠b/\Ow K ct F H 1 p (.ref a) [a]/\Ow K ct F H 1 q (.ref b) [b]/\mf (ds++[p,q])=some (.tup [d,p',q']) /\
 ∀v F' H',c9 F F'->(∀x o,H x=some o->x≠a->x≠b->H' x=some o)->c9 F' H'->(∀x o,H x=some o->ng o->F x=none->F' x=none)->Ow K ct F' H' 1 p' (.ref a) [a]->Ow K ct F' H' 1 q' (.ref b) [b]->Dt K ct F' d v->Q v H'
theorem FJ.len (h:n+2=ps.length):∀vs H Q E,FJ K ct n mf vs H Q E->vs.length=ps.length:=by rintro vs H Q E ⟨F,ds,us,d,p,q,p',q',a,b,rfl,hn,_,l,_⟩;rw[←h,←hn,l.length,cn];rfl
noncomputable def E3 (n:Nat)(N:List Str)(bf:EM)(ds:List D):Option D:=(bf (startD N ds)).bind λr=>(r.2[n]?).join.bind λp=>(r.2[n+1]?).join.bind λq=>some (.tup [r.1,p,q])
theorem W5 {w:dB}{fd:b5}{bf:EM}(Fn:Fun2 K x qual st fa fd)(S:iN N ps (dh st))(BO:n+2=ps.length)(EQ:n+2+ms.length=N.length)
  (body:∀(a b:bO) (jS:bJ) (A:c8) (outer:List PySem.Env) (s:bV) (H:Hp) (E:XK),fC kk (A.deeper (envOfC qual (dh st) s.heap.objs.size fa jS))->CV (pE gx P w K mg base N qual (dh st) fa jS A outer s H E).nox ct (bW n (Mo.ow 0) ++ .so a::.so b::ms) (gA st) bf) :
  dD P w K mg base gx (kk+1) fa fd ps (FJ K ct n (E3 n N bf)):=by
 refine Fn.ok S (FJ.len BO) λjS A outer s H vs Q E hr h=>?_;obtain⟨F,ds,us,d,p,q,p',q',a,b,rfl,hn,sF,l,CZ,oa,ob,hm,z⟩:=h;subst hn;obtain⟨t,pt,qt⟩:=body a b jS A outer s H E hr;refine⟨t,pt,?_⟩;obtain⟨⟨d1,ρ'⟩,h1,h2⟩:=cx hm;obtain⟨p1,h3,h4⟩:=cx h2;obtain⟨q1,h5,h6⟩:=cx h4;cases h6;have Ll:us.length=ds.length:=l.length.symm;have Kc:=(oa.cells a bH).1;have Kf:=(ob.cells b bH).1;have Up:c9 F (oM (oM H a) b):=λy o hy=>by rw[xf (λe=>by rw[e,Kf]at hy;cases hy),xf (λe=>by rw[e,Kc]at hy;cases hy)];exact sF _ _ hy
 have hB:c9 (oM (oM H a) b) H:=(vh _ _).trans (vh _ _);refine qt F (oM (oM H a) b) F H (startD N (ds++[p,q])) ρ' (L2.start N (us++[.ref a,.ref b])) d1 _ ⟨.refl _,hB,sF,λ_ _ _ _ h=>h,[a,b],?_,by simp[CZ],λy hy=>?_⟩ h1 ?_
 ·have e1:startD N (ds++[p,q])=ds.map some++(some p::some q::bW ms.length none):=by unfold startD;rw[show N.length-(ds++[p,q]).length=ms.length by rw[cn];simp;omega];simp
  have e2:L2.start N (us++[.ref a,.ref b])=us.map some++(some (.ref a)::some (.ref b)::bW ms.length none):=by unfold L2.start;rw[show N.length-(us++[V.ref a,V.ref b]).length=ms.length by rw[cn];simp;omega];simp
  rw[e1,e2];have:=SL.app (.so oa (.so ob (SL.none (K:=K) (ct:=ct) (F:=F) (B:=oM (oM H a) b) (H:=H) ms))) (SL.start0 (B:=oM (oM H a) b) (H:=H) l);have h7:SL K ct F (oM (oM H a) b) H (bW ds.length (Mo.ow 0)++Mo.so a::Mo.so b::ms) (ds.map some++(some p::some q::bW ms.length none)) (us.map some++(some (.ref a)::some (.ref b)::bW ms.length none)) [a,b]:=by simpa using this
  exact h7
 ·simp at hy;rcases hy with rfl|rfl
  ·rw[xf CZ];exact Il _ _
  ·exact Il _ _
 ·intro v σ' F' H' r dt;obtain⟨_,o1,_⟩:=r.so_at (i:=ds.length) (ad:=a) (by simp) (zt h3);obtain⟨_,o2,_⟩:=r.so_at (i:=ds.length+1) (ad:=b) (by simp) (zt h5);refine z v F' H' r.f0 (λy o hy n1 n2=>r.bh _ _ (by rw[xf n2,xf n1];exact hy)) r.fh (λy o hy t hn=>?_) o1 o2 dt;by_cases ea:y=a
  ·subst ea;exact(o1.cells _ bH).1
  by_cases eb:y=b
  ·subst eb;exact(o2.cells _ bH).1
  exact r.nf y o (by rw[xf eb,xf ea];exact hy) t hn
section
variable {j:Nat}
def Iv (X:Cx)(ct:Nat->bO)(ms:List Mo)(i j:Nat)(es:List Expr)(f:Env->Option (List D)):Prop:=∃t,PA X es t/\∀(F0 B F H:Hp) (ρ:Env) (σ:St) (ds:List D) (a b:bO) (Q:List V->Hp->Prop),RS X.K ct F0 B ms F H ρ σ->f ρ=some ds->σ[i]?=some (some (.ref a))->σ[j]?=some (some (.ref b)) ->
 (∀us F' H',iZ F H F' H'->Pr (Dt X.K ct F') ds us->Q (us++[.ref a,.ref b]) H')->t σ H Q
theorem Zr (hN:X.N[i]?=some x:=by rfl)(hv:vD X.env.scope x:=by walk_at "v1")(hd:lS x:=by decide)(mP:xD x:=by decide)
  (Kx:X.N[j]?=some y:=by rfl) (Ln:vD X.env.scope y:=by walk_at "v1") (hd2:lS y:=by decide) (EG:xD y:=by decide) :
  Iv X ct ms i j [.Name x p1,.Name y p2] aNil:=by
 refine⟨_,z9 (yp hN hv hd mP) (z9 (yp Kx Ln hd2 EG) xn),λF0 B F H ρ σ ds a b Q rs e ha hb z=>?_⟩;cases e;exact⟨_,ha,_,hb,z [] F H (.refl rs.fh) .nil⟩
theorem Mt (h1:XE X ct ms 0 a f)(h2:Iv X ct ms i j es fs)(hs:SE X a es:=by rfl):Iv X ct ms i j (a::es) (aCons f fs):=by obtain⟨t,pt,qt⟩:=h1;obtain⟨t2,pZ,uO⟩:=h2;refine⟨_,z9 pt pZ hs,λF0 B F H ρ σ ds xa xb Q rs e ha hb z=>?_⟩;obtain⟨d,uF,g1,g2,g3⟩:=fJ e;cases g3;refine qt F0 B F H ρ σ d _ rs g1 λv F1 H1 x1 l=>?_;exact uO F0 B F1 H1 ρ σ uF xa xb _ (rs.ext x1) g2 ha hb λus F2 H2 x2 l2=>z (v::us) F2 H2 (x1.trans x2) (.cons (Dt.mono x2.ff l) l2)
def XM (X:Cx)(ct:Nat->bO)(ms:List Mo)(e:Expr)(g:EM):Prop:=∃t,PE X e t/\∀(F0 B F H:Hp) (ρ ρ':Env) (σ:St) (d:D) (Q:VK),RS X.K ct F0 B ms F H ρ σ->g ρ=some (d,ρ')->(∀v F' H',RS X.K ct F0 B ms F' H' ρ' σ->Dt X.K ct F' d v->Q v H')->t σ H Q
noncomputable def rO (i j:Nat)(fs:Env->Option (List D))(mf:List D->Option D):EM:=λρ=>(fs ρ).bind λds=>(eV i ρ).bind λp=>(eV j ρ).bind λq=>if nh p=true/\nh q=true then(mf (ds++[p,q])).bind λr=>match r with
 |.tup [d,p',q']=>some (d,(ρ.set i (some p')).set j (some q'))
 |_=>none else none
theorem P5 {v:V}(h:σ[i]?=some (some v)):σ.set i (some v) = σ:=by
 apply mC;intro k;rw[AS];by_cases e:i=k
 ·subst e;rw[if_pos rfl];by_cases hl:i < σ.length
  ·rw[if_pos hl,h]
  ·rw[if_neg hl,nR (by omega)]
 ·rw[if_neg e]
theorem RS.two {p q:D}(rs:RS K ct F0 B ms F H ρ σ)(Bc:i≠j)(FZ:ms[i]?=some (.ow 1))(DY:ms[j]?=some (.ow 1))(hp:ρ[i]?=some (some p))(hq:ρ[j]?=some (some q))(cp:nh p=true)(cq:nh q=true) :
  ∃a b,σ[i]?=some (some (.ref a))/\σ[j]?=some (some (.ref b))/\a≠b/\Ow K ct F H 1 p (.ref a) [a]/\Ow K ct F H 1 q (.ref b) [b]/\B a=none/\B b=none /\
   ∀(F' H':Hp) (p' q':D),c9 F F'->(∀x o,H x=some o->x≠a->x≠b->H' x=some o)->c9 F' H'->(∀x o,H x=some o->ng o->F x=none->F' x=none)->Ow K ct F' H' 1 p' (.ref a) [a]->Ow K ct F' H' 1 q' (.ref b) [b]->RS K ct F0 B ms F' H' ((ρ.set i (some p')).set j (some q')) σ:=by
 obtain⟨f1,fr,n1,b1,dj,i4,cf,put⟩:=rs.put (F':=F) (H':=H) FZ;obtain⟨v,hσ,ow⟩:=i4 p hp;obtain⟨a,rfl,rfl⟩:=ow.cell cp;obtain⟨f2,NO,n2,b2,dj2,TX,cf2,put2⟩:=rs.put (F':=F) (H':=H) DY;obtain⟨v2,CI,HD⟩:=TX q hq;obtain⟨b,rfl,rfl⟩:=HD.cell cq;have ca:=ow.cells a bH;have cb:=HD.cells b bH;have CZ:a≠b:=by
  intro e;subst e;have r1:=put F (oM H a) (.non) .non [] (.refl _) (λy o hy=>by rw[xf (λe=>by rw[e,b1 a bH]at hy;cases hy)];exact rs.bh _ _ hy) (λy o hy=>by rw[xf (λe=>by rw[e,ca.1]at hy;cases hy)];exact rs.fh _ _ hy) rs.nf
   (λy hy=>⟨xf (λe=>dj a bH (e▸hy)),(cf y hy).1⟩) (Ow.scal .non rfl) cZ (λy hy=>by cases hy) (λy hy=>by cases hy)
  obtain⟨f3,IF,n3,b3,J7,Ls,NF,put3⟩:=r1.put (F':=F) (H':=H) DY;obtain⟨v3,Hk,Jj⟩:=Ls q (by rw[eG Bc];exact hq);obtain⟨a3,rfl,rfl⟩:=Jj.cell cq;rw[eG Bc,CI]at Hk;cases Hk;obtain⟨o,ho,_⟩:=(Jj.cells a bH).2;rw[Il]at ho;cases ho
 refine⟨a,b,hσ,CI,CZ,ow,HD,b1 a bH,b2 b bH,λF' H' p' q' s1 kH s3 nf o1 o2=>?_⟩;have Ba:=b1 a bH;have Bb:=b2 b bH;have Kc:=(o1.cells a bH).1;have Kf:=(o2.cells b bH).1;obtain⟨ob,Tl,_⟩:=cb.2;have hm:∀y,y≠b->upd H' b ob y=H' y:=λy ne=>zj ne;have r1:=put F' (upd H' b ob) p' (.ref a) [a] s1 (λy o hy=>by
   have na:y≠a:=λe=>by rw[e,Ba]at hy;cases hy
   have nb:y≠b:=λe=>by rw[e,Bb]at hy;cases hy
   rw[hm y nb];exact kH y o (rs.bh _ _ hy) na nb) (λy o hy=>by
   rw[hm y (λe=>by rw[e,Kf]at hy;cases hy)];exact s3 _ _ hy) (λy o hy t hn=>nf y o (rs.bh _ _ hy) t (rs.nf y o hy t hn)) (λy hy=>by
   obtain⟨hn,o,ho,nt⟩:=cf y hy;refine⟨?_,nf y o ho nt hn⟩;have na:y≠a:=λe=>dj a bH (e▸hy);by_cases nb:y=b
   ·subst nb;rw[zo,Tl]
   ·rw[hm y nb,kH y o ho na nb,ho]) (o1.frame (.refl _) λy hy=>by
   rw[bU]at hy;subst hy;exact⟨hm _ CZ,Kc⟩) (by simp) (λy hy=>by
   rw[bU]at hy;subst hy;exact dj _ bH) (λy hy=>by
   rw[bU]at hy;subst hy;exact Ba)
 rw[P5 hσ]at r1;obtain⟨f3,IF,n3,b3,J7,Ls,NF,put3⟩:=r1.put (F':=F) (H':=H) DY;obtain⟨v3,Hk,Jj⟩:=Ls q (by rw[eG Bc];exact hq);obtain⟨a3,rfl,rfl⟩:=Jj.cell cq;rw[CI]at Hk;cases Hk;have r2:=put3 F' H' q' (.ref b) [b] (.refl _) (λy o hy=>by
   have na:y≠a:=λe=>by rw[e,Ba]at hy;cases hy
   have nb:y≠b:=λe=>by rw[e,Bb]at hy;cases hy
   exact kH y o (rs.bh _ _ hy) na nb) s3 r1.nf (λy hy=>by
   have nb:y≠b:=λe=>J7 b bH (e▸hy);exact⟨(hm y nb).symm,(NF y hy).1⟩) o2 (by simp) (λy hy=>by
   rw[bU]at hy;subst hy;exact J7 _ bH) (λy hy=>by
   rw[bU]at hy;subst hy;exact Bb)
 rw[P5 CI]at r2;exact r2
variable {fd:b5}
theorem Zs (Bc:i≠j)(FZ:ms[i]?=some (.ow 1))(DY:ms[j]?=some (.ow 1))(Fn:dD X.prog X.w X.K X.mg X.base gx kk fa fd ps (FJ X.K ct n mf))(hr:fC kk X.A)(hg:Gl X x)(hm:X.mg x=some (.ref fa))(hk:dY X.K (.ref fa)=true)
  (hb:fQ X.K fd ps rE) (hd:dm [] rE) (hn:∀ρ ds,fs ρ=some ds->ds.length=n) (ha:Iv X ct ms i j (e::es) fs)
  (mn:lS x:=by decide) (he:SE X e es:=by rfl) (jB:pV X pos es:=by rfl) :
  XM X ct ms (.Call (.Name x pp) (e::es) [] pos) (rO i j fs mf):=by
 obtain⟨t,pt,qt⟩:=ha;refine⟨_,Ql Fn hr hg hm hk hb hd tZ pt mn he jB,λF0 B F H ρ ρ' σ d Q rs e z=>?_⟩;obtain⟨ds,h1,h2⟩:=cx e;obtain⟨p,h3,h4⟩:=cx h2;obtain⟨q,h5,h6⟩:=cx h4;by_cases hc:nh p=true/\nh q=true
 ·rw[if_pos hc]at h6;obtain⟨r,h7,h8⟩:=cx h6;have:∃p' q',r=.tup [d,p',q']/\ρ'=(ρ.set i (some p')).set j (some q'):=by
   split at h8
   ·cases h8;exact⟨_,_,rfl,rfl⟩
   ·cases h8
  obtain⟨p',q',rfl,rfl⟩:=this;obtain⟨a0,b0,hσ,CI,_⟩:=rs.two Bc FZ DY (zt h3) (zt h5) hc.1 hc.2;refine qt F0 B F H ρ σ ds a0 b0 _ rs h1 hσ CI λus F1 H1 x1 l=>?_;obtain⟨a,b,EV,Hj,CZ,oa,ob,Ba,Bb,put⟩:=(rs.ext x1).two Bc FZ DY (zt h3) (zt h5) hc.1 hc.2;rw[hσ]at EV;rw[CI]at Hj;cases EV;cases Hj;refine⟨F1,ds,us,d,p,q,p',q',a0,b0,by simp,hn _ _ h1,x1.fh,l,CZ,oa,ob,h7,λv F' H' s1 kH s3 nf o1 o2 dt=>?_⟩;exact z v F' H' (put F' H' p' q' s1 kH s3 nf o1 o2) dt
 ·rw[if_neg hc]at h6;cases h6
theorem zsd:∀(ρ:Env) (ds:List D),aNil ρ=some ds->ds.length=0:=λρ ds e=>by cases e;rfl
theorem MR (h:∀(ρ:Env) (ds:List D),fs ρ=some ds->ds.length=n):∀(ρ:Env) (ds:List D),aCons f fs ρ=some ds->ds.length=n+1:=λρ ds e=>by obtain⟨x,xs,h1,h2,h3⟩:=fJ e;cases h3;rw[b8,h ρ xs h2]
def t6 (i:Nat)(g:EM):SF:=λρ=>(g ρ).bind λr=>some (.nx (r.2.set i (some r.1)))
theorem Zt {gm:EM}(hm:ms[i]?=some (.ow 0))(hN:X.N.Nodup)(hi:X.N[i]?=some x)(hx:Loc X.env.scope x)(he:XM X ct ms e gm)(hs:GC X e x pos' pos:=by rfl)
  (hf:vL X x:=by walk_at "v2"):XS X ct ms rk (.Assign [.Name x pos'] e pos) (t6 i gm):=by
 obtain⟨t,pt,qt⟩:=he;refine⟨_,Q8 hN hi hx pt hs hf,λF0 B F H ρ σ o E rs e w=>?_⟩;obtain⟨⟨d,ρ'⟩,h1,h2⟩:=cx e;cases h2;exact qt F0 B F H ρ ρ' σ d _ rs h1 λv F' H' r l=>w _ F' H' (r.set hm (.refl r.fh) (Ow.zero l) cZ λa z=>(by cases z))
end
variable {kq:Nat}
section
variable {fd:b5}
theorem o9 (h:XO X ct ms k e f):XO X ct ms 0 e f:=XE.ow (XO.sh (n:=0) h)
theorem oF (hN:X.N.Nodup)(ho:i<own:=by decide)(hm:ms[i]?=some (.ow 0):=by rfl)(hi:X.N[i]?=some x:=by rfl)(hx:Loc X.env.scope x:=by walk_at "v3")
  (hf:vL X x:=by walk_at "v2"):Cz X ct ms own 0 (.Name x pos) (gV i):=Xa ho hm hN hi hx hf
theorem lP (hN:X.N.Nodup)(he:XO X ct ms k e f)(hm:ms[i]?=some (.ow k):=by rfl)(hi:X.N[i]?=some x:=by rfl)(hx:Loc X.env.scope x:=by walk_at "v3")
  (hs:GC X e x pos' pos:=by rfl)
  (hf:vL X x:=by walk_at "v2"):XS X ct ms rk (.Assign [.Name x pos'] e pos) (sSet i f):=zrx hm hN hi hx he hs hf
theorem oE (hN:X.N.Nodup)(hm:ms[i]?=some (.ow 0):=by rfl)(hi:X.N[i]?=some x:=by rfl)(hx:Loc X.env.scope x:=by walk_at "v3")
  (hf:vL X x:=by walk_at "v2"):XG X ct ms 0 (.Name x pos) (gV i):=Ym hm hN hi hx hf
theorem jG (d:lN X.K X.mg x st ps fa fd)(Fn:dD X.prog X.w X.K X.mg X.base gx kk fa fd ps (kr X.K ct ns rk mf))(hr:fC kq X.A)(ha:XA X ct ms (e::es) ns fs)(mW:kk<=kq:=by decide)(hg:Gl X x:=by rfl)
  (mn:lS x:=by decide) (he:SE X e es:=by rfl) (jB:pV X pos es:=by rfl) :
  XO X ct ms rk (.Call (.Name x pp) (e::es) [] pos) (λρ=>(fs ρ).bind λds=>mf (ds++[])) :=
 ML (ns:=ns) (nd:=[]) (pQ:=[]) (by rw[cP];exact Fn) (hr.mono mW) hg d.mgx d.fn.kp d.bd .nil (λ_ _=>.nil) ha mn he jB
theorem dN {i:Int}{j}:XE X ct ms 0 (.Constant (.int i) j pos) (eC (.int i)):=zrv
theorem uY {j}:XE X ct ms 0 (.Constant .none j pos) (eC .non):=zrw
theorem o4 (ha:XE X ct ms 0 a f)(hb:XE X ct ms 0 b g):XO X ct ms 1 (.BinOp a .Add b pos) (e2 gb f g):=zto Y4 (Y5 (by decide) (by decide)) ha hb
theorem jF (ha:XE X ct ms 0 a f)(hb:XE X ct ms 0 b g)(hp:pz b:=by exactλ_ _=>rfl):XE X ct ms 0 (.Subscript a b pos) (e2 ed f g):=Nq (n:=0) M6 Nc ha hb hp
theorem rq (hm:X.mg "len"=none)(ha:XA X ct ms [e] [n] fs)(hg:Gl X "len":=by rfl)(he:SE X e []:=by rfl)(jB:pV X pos []:=by rfl):XE X ct ms 0 (.Call (.Name "len" pp) [e] [] pos) (eN eW fs):=ya (k:=0) Wc Y1 hg hm zrr ha (by decide) (by decide) he jB
theorem lA0 {P:List bJ->Prop}(h:P [])(us:List bJ)(e:us.length=0):P us:=by
 cases us with
 |nil=>exact h
 |cons a t=>cases e
theorem lA1 {P:List bJ->Prop}(h:∀a1,P [a1])(us:List bJ)(e:us.length=1):P us:=by
 cases us with
 |nil=>cases e
 |cons a t=>exact lA0 (P:=λt=>P (a::t)) (h a) t (Nat.succ.inj e)
theorem lA2 {P:List bJ->Prop}(h:∀a1 a2,P [a1,a2])(us:List bJ)(e:us.length=2):P us:=by
 cases us with
 |nil=>cases e
 |cons a t=>exact lA1 (P:=λt=>P (a::t)) (h a) t (Nat.succ.inj e)
theorem lA3 {P:List bJ->Prop}(h:∀a1 a2 a3,P [a1,a2,a3])(us:List bJ)(e:us.length=3):P us:=by
 cases us with
 |nil=>cases e
 |cons a t=>exact lA2 (P:=λt=>P (a::t)) (h a) t (Nat.succ.inj e)
theorem lA4 {P:List bJ->Prop}(h:∀a1 a2 a3 a4,P [a1,a2,a3,a4])(us:List bJ)(e:us.length=4):P us:=by
 cases us with
 |nil=>cases e
 |cons a t=>exact lA3 (P:=λt=>P (a::t)) (h a) t (Nat.succ.inj e)
theorem lA5 {P:List bJ->Prop}(h:∀a1 a2 a3 a4 a5,P [a1,a2,a3,a4,a5])(us:List bJ)(e:us.length=5):P us:=by
 cases us with
 |nil=>cases e
 |cons a t=>exact lA4 (P:=λt=>P (a::t)) (h a) t (Nat.succ.inj e)
theorem lA6 {P:List bJ->Prop}(h:∀a1 a2 a3 a4 a5 a6,P [a1,a2,a3,a4,a5,a6])(us:List bJ)(e:us.length=6):P us:=by
 cases us with
 |nil=>cases e
 |cons a t=>exact lA5 (P:=λt=>P (a::t)) (h a) t (Nat.succ.inj e)
end
inductive sQ where
 |ok (d:D)|xc (d:D)
inductive Bv where
 |ok (o:Out)|xc (ρ:Env) (d:D)
abbrev qW:=Env->Option Bv
abbrev Gs:=Env->Option sQ
def DP (K:bM)(ct:Nat->bO)(F H:Hp)(d:D)(a:bO):Prop:=∃c ns ds T dx,d=.exc c ns ds/\F a=none/\F T=none/\xE H a (ct c) dx (some T) /\
 ((ns=[]/\ds=[]/\dx=none)\/∃y vs,dx=some y/\F y=some (.xd (ns.zip vs))/\ns.length=vs.length/\Dts K ct F ds vs)
noncomputable def pX (K:bM)(cl:Nat->bO)(F0 B:Hp)(ms:List Mo)(rk:Nat)(E:mm)(G:GK):Bv->Prop
 |.ok o=>nB K cl F0 B ms rk E o
 |.xc ρ d=>∀a σ F1 H0 F H,RS K cl F0 B ms F1 H0 ρ σ->iZ F1 H0 F H->H0 a=none->DP K cl F H d a->G σ a H
theorem DP.note {a:bO}(h:DP K ct F H d a)(s:c9 F H):∃C dx T,xE H a C dx (some T)/\∀T',H T'=none->DP K ct F (gS H a C dx T') d a/\c9 F (gS H a C dx T')/\∀b o,b≠a->H b=some o->gS H a C dx T' b=some o:=by
 obtain⟨c,ns,ds,T,dx,rfl,fa,fT,xr,r⟩:=h;refine⟨ct c,dx,T,xr,λT' hT=>⟨⟨c,ns,ds,T',dx,rfl,fa,s.free hT,MJ xr hT,r⟩,λb o e=>?_,λb o hb e=>?_⟩⟩
 ·unfold gS;rw[zj (zl e fa),zj (zl e (s.free hT))];exact s _ _ e
 ·unfold gS;rw[zj hb,zj (zl e hT)];exact e
theorem iZ.note {H0:Hp}{a:bO}{dx:Option bO}{T':bO}(x:iZ F1 H0 F H)(ha:H0 a=none)(hT:H T'=none)(s:c9 F (gS H a C dx T')):iZ F1 H0 F (gS H a C dx T') :=
 ⟨x.ff,λb o e=>by unfold gS;rw[zj (zl e ha),zj (zl (x.hh _ _ e) hT)];exact x.hh _ _ e,s,x.nf⟩
section
variable (X:Cx)(G:GK)(ct:Nat->bO)(ms:List Mo)(rk:Nat)
noncomputable def Eu (st:dO)(f:qW):Prop:=∃t,PS X st t/\∀(F0 B F H:Hp) (ρ:Env) (σ:St) (o:Bv) (E:mm),RS X.K ct F0 B ms F H ρ σ->f ρ=some o->pX X.K ct F0 B ms rk E G o->t E σ H
noncomputable def uE (st:List dO)(f:qW):Prop:=∃t,uD X st t/\∀(F0 B F H:Hp) (ρ:Env) (σ:St) (o:Bv) (E:mm),RS X.K ct F0 B ms F H ρ σ->f ρ=some o->pX X.K ct F0 B ms rk E G o->t E σ H
noncomputable def ND (k:Nat)(e:Expr)(f:Gs):Prop:=∃t,PE X e t/\∀(F0 B F H:Hp) (ρ:Env) (σ:St) (r:sQ) (Q:VK),RS X.K ct F0 B ms F H ρ σ->f ρ=some r ->
 (match r with
  |.ok d=>∀v F' H' fp,iZ F H F' H'->Ow X.K ct F' H' k d v fp->fp.Nodup->(∀a∈fp,H a=none)->Q v H'
  |.xc d=>∀a F' H',iZ F H F' H'->H a=none->DP X.K ct F' H' d a->G σ a H')->t σ H Q
end
def xOf (u:SF):qW:=λρ=>(u ρ).map .ok
noncomputable def sSeqX (f g:qW):qW:=λρ=>(f ρ).bind λo=>match o with
 |.ok (.nx ρ')=>g ρ'
 |o=>some o
def sIfX (c:BF)(f g:qW):qW:=λρ=>(c ρ).bind λb=>if b=true then f ρ else g ρ
noncomputable def sSetX (i:Nat)(f:Gs):qW:=λρ=>(f ρ).bind λr=>match r with
 |.ok d=>some (.ok (.nx (ρ.set i (some d))))
 |.xc d=>some (.xc ρ d)
noncomputable def sDropX (f:Gs):qW:=λρ=>(f ρ).bind λr=>match r with
 |.ok _=>some (.ok (.nx ρ))
 |.xc d=>some (.xc ρ d)
noncomputable def sRetX (f:Gs):qW:=λρ=>(f ρ).bind λr=>match r with
 |.ok d=>some (.ok (.rt d))
 |.xc d=>some (.xc ρ d)
noncomputable def xY (g:D->Env->Option Env)(b:qW):List D->qW
 |[],ρ=>some (.ok (.nx ρ))
 |d::ds,ρ=>(g d ρ).bind λρ1=>(b ρ1).bind λo=>match o with
   |.ok (.nx ρ')=>xY g b ds ρ'
   |.ok (.ct ρ')=>xY g b ds ρ'
   |.ok (.bk ρ')=>some (.ok (.nx ρ'))
   |.ok (.rt d)=>some (.ok (.rt d))
   |.xc ρ' d=>some (.xc ρ' d)
noncomputable def sForX (f:Env->Option (List D))(g:D->Env->Option Env)(b:qW):qW:=λρ=>(f ρ).bind λds=>xY g b ds ρ
section
variable {G:GK}{u w:qW}
theorem M8 {u:SF}(h:XS X ct ms rk st u):Eu X G ct ms rk st (xOf u):=by obtain⟨t,pt,qt⟩:=h;refine⟨t,pt,λF0 B F H ρ σ o E rs e z=>?_⟩;obtain⟨o',h1,rfl⟩:=dz.mp e;exact qt F0 B F H ρ σ o' E rs h1 z
theorem Zu {u:SF}(h:vE X ct ms rk rest u):uE X G ct ms rk rest (xOf u):=by obtain⟨t,pt,qt⟩:=h;refine⟨t,pt,λF0 B F H ρ σ o E rs e z=>?_⟩;obtain⟨o',h1,rfl⟩:=dz.mp e;exact qt F0 B F H ρ σ o' E rs h1 z
theorem jk (h1:Eu X G ct ms rk st u):uE X G ct ms rk [st] u:=by obtain⟨t,pt,qt⟩:=h1;exact⟨_,Jw pt,qt⟩
theorem j8 (h1:Eu X G ct ms rk st u)(h2:uE X G ct ms rk rest w):uE X G ct ms rk (st::rest) (sSeqX u w):=by
 obtain⟨t,pt,qt⟩:=h1;obtain⟨t2,pZ,uO⟩:=h2;refine⟨_,jb pt pZ,λF0 B F H ρ σ o E rs e z=>?_⟩;obtain⟨o1,e1,e2⟩:=cx e;refine qt F0 B F H ρ σ o1 _ rs e1 ?_;cases o1 with
 |xc ρ' d=>cases e2;exact z
 |ok o1=>
  cases o1 with
  |nx ρ'=>exactλσ' F' H' Fc=>uO F0 B F' H' ρ' σ' o E Fc e2 z
  |rt d=>cases e2;exact z
  |bk ρ'=>cases e2;exact z
  |ct ρ'=>cases e2;exact z
theorem zse {HR CN:List dO}(hc:XT X ct ms c p)(h1:uE X G ct ms rk HR u)(h2:uE X G ct ms rk CN w):Eu X G ct ms rk (.If c HR CN pos) (sIfX p u w):=by
 obtain⟨t,pt,qt⟩:=hc;obtain⟨t1,B6,B7⟩:=h1;obtain⟨t2,pZ,uO⟩:=h2;refine⟨_,RD pt B6 pZ,λF0 B F H ρ σ o E rs e z=>?_⟩;obtain⟨x,h1,h2⟩:=cx e;refine qt F0 B F H ρ σ x _ rs h1 λF1 H1 x1=>?_;cases x with
 |true=>rw[if_pos rfl]at h2 ⊢;exact B7 F0 B F1 H1 ρ σ o E (rs.ext x1) h2 z
 |false=>rw[if_neg cB]at h2 ⊢;exact uO F0 B F1 H1 ρ σ o E (rs.ext x1) h2 z
theorem W6 {f:Gs}(he:ND X G ct ms k e f)(hs:gq e none pos.line X.env=pure false:=by rfl):Eu X G ct ms rk (.Expr e pos) (sDropX f):=by
 obtain⟨t,pt,qt⟩:=he;refine⟨_,jp pt hs,λF0 B F H ρ σ o E rs e z=>?_⟩;obtain⟨r,h1,h2⟩:=cx e;refine qt F0 B F H ρ σ r _ rs h1 ?_;cases r with
 |ok d=>cases h2;exactλv F' H' fp x l nd hf=>z σ F' H' (rs.ext x)
 |xc d=>cases h2;exactλa F' H' x ha xd=>z a σ F H F' H' rs x ha xd
theorem pX.re {E:mm}{o:Bv}(r:RS K ct F0 B ms F H ρ σ)(z:pX K ct F0 B ms rk E G o):pX K ct F B ms rk E G o:=by
 cases o with
 |ok o=>exact nB.re (o:=o) r z
 |xc ρ d=>exactλa σ' F1 H0 F' H' q=>z a σ' F1 H0 F' H' (r.back q)
theorem Zv (hi:XI X ct ms n tg iter fi)(hg:XG X ct ms n tg gg)(hb:uE X G ct ms rk rest u)(hp:gI (b9 X.prog X.w) X.A X.env X.xe)(hc:X.calm=true)
  (hs:Bs X iter:=by intro _;rfl):Eu X G ct ms rk (.For tg iter rest [] pos) (sForX fi gg u):=by
 obtain⟨wi,pi,qi⟩:=hi;obtain⟨Mc,pg,qg⟩:=hg;obtain⟨t1,B6,B7⟩:=hb;refine⟨_,Q9 hp hc pi pg B6 hs,λF0 B F H ρ σ o E rs e z=>?_⟩;obtain⟨ds,h1,h2⟩:=cx e;refine qi F0 B F H ρ σ ds _ rs h1 λJ F1 H1 x1 ok=>?_;refine⟨λi m σ H=>m=ds.length-i/\i<=ds.length/\∃F ρ,c9 F1 F/\RS X.K ct F0 B ms F H ρ σ/\xY gg u (ds.drop i) ρ=some o,⟨ds.length,rfl,ej _,F1,ρ,.refl _,rs.ext x1,h2⟩,?_⟩;rintro i m σ H ⟨rfl,EJ,F,ρ,s1,rs,e⟩;obtain⟨k1,k2⟩:=ok i F H s1 rs.bh rs.fh;by_cases oU:i<ds.length
 ·right;have hd:ds[i]?=some ds[i]:=by simp[oU]
  obtain⟨go,yl⟩:=k1 _ hd;rw[ml oU]at e;obtain⟨ρ1,h3,h4⟩:=cx e;obtain⟨o1,h5,h6⟩:=cx h4;refine⟨go,λσ H=>i+1<=ds.length/\∃F ρ,c9 F1 F/\RS X.K ct F0 B ms F H ρ σ/\xY gg u (ds.drop (i+1)) ρ=some o,λσ' H' h=>⟨ds.length-(i+1),by omega,rfl,h⟩,λx H2 y=>?_⟩;obtain⟨F2,x2,l⟩:=yl x H2 y;refine qg F0 B F2 H2 ρ ρ1 σ _ x _ (rs.ext x2) l h3 λσ' r=>?_;have s2:=s1.trans x2.ff;refine B7 F2 B F2 H2 ρ1 σ' o1 _ r.re h5 ?_;cases o1 with
  |xc ρ' d=>cases h6;exact pX.re (o:=.xc ρ' d) r z
  |ok o1=>
   cases o1 with
   |nx ρ'=>exactλσ' F' H' q=>⟨oU,F',ρ',s2.trans q.f0,r.back q,h6⟩
   |ct ρ'=>exactλσ' F' H' q=>⟨oU,F',ρ',s2.trans q.f0,r.back q,h6⟩
   |bk ρ'=>cases h6;exactλσ' F' H' q=>z σ' F' H' (r.back q)
   |rt d=>cases h6;exact nB.re (o:=.rt d) r z
 ·left;refine⟨k2 (by omega),?_⟩
  have:ds.drop i=[]:=nE (by omega);rw[this]at e;cases e;exact z σ F H rs
end
theorem ztw {H1:Hp}{a:bO}{G:GK}(x1:iZ F H F1 H1)(x2:iZ F1 H1 F' H')(ha:H1 a=none)(xd:DP K ct F' H' d a)(w:∀a F' H',iZ F H F' H'->H a=none->DP K ct F' H' d a->G σ a H'):EX G σ (.ref a) none H':=by obtain⟨C,dx,T,xr,nt⟩:=xd.note x2.fh;refine⟨a,C,dx,T,rfl,xr,λT' hT=>?_⟩;obtain⟨q1,q2,_⟩:=nt T' hT;exact w a F' _ ((x1.trans x2).note (x1.hh.free ha) hT q2) (x1.hh.free ha) q1
section
variable {G:GK}{u w:qW}{fd:b5}{mf:List D->Option sQ}
noncomputable def mOfX (N:List Str)(b:qW)(ds:List D):Option sQ:=(b (startD N ds)).bind λo=>match o with
 |.ok (.rt d)=>some (.ok d)
 |.ok (.nx _)=>some (.ok .non)
 |.xc _ d=>some (.xc d)
 |_=>none
def XR (X:Cx)(ct:Nat->bO)(ms:List Mo)(e:Expr)(f:EF):Prop:=∃t,PE X e t/\∀(F0 B F H:Hp) (ρ:Env) (σ:St) (d:D) (Q:VK),RS X.K ct F0 B ms F H ρ σ->f ρ=some d ->
 (∀a F' H' c ns ds dx,iZ F H F' H'->H a=none->d=.exc c ns ds->F' a=none->By X.K (ct c)->xE H' a (ct c) dx none->((ns=[]/\ds=[]/\dx=none)\/∃y vs,dx=some y/\F' y=some (.xd (ns.zip vs))/\ns.length=vs.length/\Dts X.K ct F' ds vs)->Q (.ref a) H')->t σ H Q
def sRaise (f:EF):qW:=λρ=>(f ρ).bind λd=>some (.xc ρ d)
theorem V6 (hc:X.calm=true)(hx:oK X G)(he:XR X ct ms e f):Eu X G ct ms rk (.Raise (some e) none pos) (sRaise f):=by
 obtain⟨t,pt,qt⟩:=he;refine⟨_,WW hc hx pt,λF0 B F H ρ σ o E rs e z=>?_⟩;obtain⟨d,h1,h2⟩:=cx e;cases h2;refine qt F0 B F H ρ σ d _ rs h1 λa F' H' c ns ds dx x ha hd fa cl xr r=>⟨a,ct c,dx,rfl,cl,xr,λT hT=>?_⟩;have sN:c9 F' (gS H' a (ct c) dx T):=λb o e=>by unfold gS;rw[zj (zl e fa),zj (zl e (x.fh.free hT))];exact x.fh _ _ e
 exact z a σ F H F' _ rs (x.note ha hT sN) ha ⟨c,ns,ds,T,dx,hd,fa,x.fh.free hT,MJ xr hT,r⟩
noncomputable def xX:D->Option D
 |.non=>some .non
 |.int i=>if i.natAbs.log2<1920 then some (.int i)else none
 |_=>none
theorem V7 {v:V}(h:xX d=some d')(l:Al K ct F G' n d v):d'=d/\tO v/\∀F',Dt K ct F' d v:=by
 cases d with
 |non=>unfold xX at h;cases h;refine⟨rfl,.inl l.non,λF'=>?_⟩;rw[l.non];exact .non
 |int i=>
  unfold xX at h;dsimp only at h;by_cases hi:i.natAbs.log2<1920
  ·rw[if_pos hi]at h;cases h;refine⟨rfl,.inr ⟨i,l.int,hi⟩,λF'=>?_⟩;rw[l.int];exact .int i
  ·rw[if_neg hi]at h;cases h
 |_=>unfold xX at h;cases h
def Av (f:Str)(C:bO):Sp:=λvs H Q _=>∃a u,vs=[.ref a,u]/\H a=some (sJ a C none none)/\tO u/\∀dx,H dx=none->dx≠a->Q .non (upd (upd H dx (.xd [(f,u)])) a (sJ a C (some dx) none))
theorem Av.len {f z:Str}:∀vs H Q E,Av f C vs H Q E->vs.length=[y,z].length:=by rintro vs H Q E ⟨a,u,rfl,_⟩;rfl
theorem W7 {fn:Str}(cl:By X.K (ct c0))(K8:dY X.K (.ref (ct c0))=true)(hi:cX X.K (.ref (ct c0)) "__init__"=some (some (.ref fa)))(A9:kW X.K (.ref fa)=true)(Fn:dD X.prog X.w X.K X.mg X.base gx kk fa fd ps (Av fn (ct c0)))(hr:fC (kk+1) X.A)(hm:X.mg x=some (.ref (ct c0)))(hb:fQ X.K fd ps [])
  (he:XE X ct ms n e f) (hg:Gl X x:=by rfl) (mn:lS x:=by decide) (k7:SE X e []:=by rfl) (jB:pV X pos []:=by rfl) :
  XR X ct ms (.Call (.Name x pp) [e] [] pos) (λρ=>(f ρ).bind λd=>(xX d).bind λd=>some (.exc c0 [fn] [d])):=by
 obtain⟨t,pt,qt⟩:=he;refine⟨_,WV cl K8 hi A9 Fn hr hg hm hb (z9 pt xn k7) mn k7 jB,λF0 B F H ρ σ d Q rs e w=>?_⟩;obtain⟨d1,h1,h2⟩:=cx e;obtain⟨d2,h3,h4⟩:=cx h2;cases h4;refine qt F0 B F H ρ σ d1 _ rs h1 λv F1 H1 x1 l=>⟨by simp,λa ha=>⟨a,v,rfl,zo,?_⟩⟩;obtain⟨rfl,fo,dt⟩:=V7 h3 l;refine⟨fo,λdx IQ nU=>⟨rfl,?_⟩⟩;have KR:H1 dx=none:=by rw[zj nU]at IQ;exact IQ
 have hH:upd (upd (upd H1 a (sJ a (ct c0) none none)) dx (.xd [(fn,v)])) a (sJ a (ct c0) (some dx) none)=upd (upd H1 dx (.xd [(fn,v)])) a (sJ a (ct c0) (some dx) none):=by
  funext b;by_cases h1:b=a
  ·rw[h1,zo,zo]
  ·rw[zj h1,zj h1];by_cases h2:b=dx
   ·rw[h2,zo,zo]
   ·rw[zj h2,zj h2,zj h1]
 rw[hH];have x2:iZ F1 H1 (upd F1 dx (.xd [(fn,v)])) (upd H1 dx (.xd [(fn,v)])):=iZ.newS x1.fh KR _;have KB:upd H1 dx (.xd [(fn,v)]) a=none:=by rw[zj (Ne.symm nU)];exact ha
 have x3:=iZ.newO x2.fh KB (sJ a (ct c0) (some dx) none);refine w a _ _ c0 [fn] [d2] (some dx) ((x1.trans x2).trans x3) (x1.hh.free ha) rfl ?_ cl ⟨zo,λT z=>by cases z⟩ (.inr ⟨dx,[v],rfl,zo,rfl,.cons (dt _) .nil⟩);rw[zj (Ne.symm nU)];exact x1.fh.free ha
end
noncomputable def Au (K:bM)(ct:Nat->bO)(cs:List Nat)(pm:List Nat)(mi:Nat->List D->Option sQ):Sp:=λvs H Q E=>∃(F:Hp) (c:Nat) (ds:List D) (r:sQ) (x dx:bO) (us:List V),c∈cs/\vs=.ref x::us/\H x=some (.ins (ct c) dx [])/\F x=none/\c9 F H/\nH K ct F (oM H x) pm ds us/\mi c ds=some r /\
 match r with
  |.ok d=>∀F' H',c9 F F'->c9 (oM H x) H'->c9 F' H'->(∀a o,oM H x a=some o->ng o->F a=none->F' a=none)->F' x=none->Ow K ct F' H' 1 d (.ref x) [x]->Q .non H'
  |.xc d=>∀a F' H',c9 F F'->c9 (oM H x) H'->c9 F' H'->(∀a o,oM H x a=some o->ng o->F a=none->F' a=none)->oM H x a=none->DP K ct F' H' d a->E (.ref a) none H'
theorem Au.len {mi:Nat->List D->Option sQ}(h:pm.length+1=ps.length):∀vs H Q E,Au K ct cs pm mi vs H Q E->vs.length=ps.length:=by rintro vs H Q E ⟨F,c,ds,r,x,dx,us,_,rfl,_,_,_,l,_⟩;rw[b8,l.length,h]
noncomputable def C9 (N:List Str)(b:qW)(c:Nat)(ds:List D):Option sQ:=(b (some (.obj c [] [])::startD N.tail ds)).bind λo=>match o with
 |.ok (.nx ρ)=>((ρ[0]?).join).map .ok
 |.xc _ d=>some (.xc d)
 |_=>none
section
variable {G:GK}{fd:b5}
theorem VC {w:dB}{fd:b5}{bf:qW}(Fn:Fun2 K x qual st fa fd)(S:iN (N0::N) ps (dh st))(BO:pm.length+1=ps.length)(EQ:ms.length=N.length)(mW:pm.length<=N.length)
  (C5:∀(i n:Nat),pm[i]?=some n->ms[i]?=some (Mo.al n)\/(n=0/\ms[i]?=some (Mo.ow 0)))
  (body:∀(x:bO) (jS:bJ) (A:c8) (outer:List PySem.Env) (s:bV) (H:Hp) (E:XK),fC kk (A.deeper (envOfC qual (dh st) s.heap.objs.size fa jS))->uE (pE (DK P w) P w K mg base (N0::N) qual (dh st) fa jS A outer s H E) (λ_ a H'=>E (.ref a) none H') ct (.so x::ms) rk (gA st) bf) :
  dD P w K mg base (DK P w) (kk+1) fa fd ps (Au K ct cs pm (C9 (N0::N) bf)):=by
 obtain⟨oc,od,dV,kV,doc,pm',an,jS,ct',CL,rfl,lk,mP⟩:=Fn.ex;refine RC lk mP S (Au.len BO) λA outer s H vs Q E hr h=>?_;obtain⟨F,c,ds,r,x,dx,us,hc,rfl,hx,hF,sF,l,hm,q⟩:=h;obtain⟨t,pt,qt⟩:=body x jS A outer s H E hr;refine⟨t,pt,?_⟩;obtain⟨o,h1,h2⟩:=cx hm;have hdl:ds.length=us.length:=l.length';have Ll:us.length=pm.length:=l.length;have ow:Ow K ct F H 1 (.obj c [] []) (.ref x) [x]:=.inr (Bw.obj (vs:=[]) hF hx rfl .nil);refine qt F (oM H x) F H (some (.obj c [] [])::startD N ds) (L2.start (N0::N) (.ref x::us)) o _ ⟨.refl _,vh H x,sF,λ_ _ _ _ h=>h,[x],?_,by simp,λa z=>by rw[bU]at z;subst z;exact Il H _⟩ h1 ?_
 ·have e:L2.start (N0::N) (.ref x::us)=some (.ref x)::(us.map some++bW (N.length-us.length) none):=by unfold L2.start;simp
  rw[e];unfold startD;rw[hdl];exact SL.so (fp:=[]) ow (SL.start _ l C5 (by omega))
 ·cases o with
  |xc ρ d=>cases h2;exactλa σ F1 H0 F' H' rs x ha xd=>q a F' H' (rs.f0.trans x.ff) (rs.bh.trans x.hh) x.fh (λb o h t n=>x.nf b o (rs.bh _ _ h) t (rs.nf b o h t n)) (rs.bh.free ha) xd
  |ok o=>
   cases o with
   |nx ρ=>
    obtain⟨d,h3,rfl⟩:=dz.mp h2;intro σ F' H' r;obtain⟨fp,sl,nd,hb⟩:=r.sl;cases sl with
    |no _=>cases h3
    |so E6 _=>cases h3;exact q F' H' r.f0 r.bh r.fh r.nf (E6.cells x bH).1 E6
   |rt d'=>cases h2
   |bk ρ=>cases h2
   |ct ρ=>cases h2
theorem Xv {mi:Nat->List D->Option sQ}(hx:oK X G)(M:Mk X.K (ct c0) fa)(BG:c0∈cs)(Fn:dD X.prog X.w X.K X.mg X.base (DK X.prog X.w) kk fa fd ps (Au X.K ct cs (ns++nd) mi))(hr:fC (kk+1) X.A)(hg:Gl X x)(hm:X.mg x=some (.ref (ct c0)))
  (hb:fQ X.K fd ps rE) (hd:dm lT rE) (BH:∀F G,nH X.K ct F G nd pQ lT) (ha:XA X ct ms (e::es) ns fs)
  (mn:lS x:=by decide) (he:SE X e es:=by rfl) (jB:pV X pos es:=by rfl) :
  ND X G ct ms 1 (.Call (.Name x pp) (e::es) [] pos) (λρ=>(fs ρ).bind λds=>mi c0 (ds++pQ)):=by
 obtain⟨t,pt,_,qt⟩:=ha;refine⟨_,WT M Fn hr hg hm hb hd hx pt mn he jB,λF0 B F H ρ σ r Q rs e w=>?_⟩;obtain⟨ds,h1,h2⟩:=cx e;refine qt F0 B F H ρ σ ds _ rs h1 λvs F1 H1 x1 l y dy hy KS nU=>?_;have sH:c9 H1 (oM (upd (upd H1 dy (.own y)) y (.ins (ct c0) dy [])) y):=λb o h=>by have n1:b≠y:=zl h hy;rw[xf n1,zj n1,zj (zl h KS)];exact h
 have LP:c9 H1 (upd (upd H1 dy (.own y)) y (.ins (ct c0) dy [])):=sH.trans (vh _ _);refine⟨F1,c0,ds++pQ,r,y,dy,vs++lT,BG,rfl,zo,x1.fh.free hy,x1.fh.trans LP,nH.mono (.refl _) sH (nH.append (BH F1 H1) l),h2,?_⟩;cases r with
 |ok d=>refineλF' H' s1 s2 s3 s4 hn ow=>⟨rfl,?_⟩;refine w _ F' H' [y] ⟨x1.ff.trans s1,(x1.hh.trans sH).trans s2,s3,λb o h t n=>s4 b o (sH _ _ (x1.hh _ _ h)) t (x1.nf b o h t n)⟩ ow (by simp) λb z=>?_;rw[bU]at z;subst z;exact x1.hh.free hy
 |xc d=>refineλa F' H' s1 s2 s3 s4 ha xd=>ztw x1 (F':=F') (H':=H') ⟨s1,sH.trans s2,s3,λb o h n=>s4 b o (sH _ _ h) n⟩ (sH.free ha) xd w
theorem Xw {w:dB}{fn N1:Str}{fd:b5}(Fn:Fun2 K "__init__" qual st fa fd)(S:iN [N0,N1] [N0,N1] (dh st))(cl:By K C)(hd:fw K C=true/\cX K (.ref C) "__setattr__"=some (some (.builtin "object.__setattr__"))/\gY K C fn=some none)
  (body:∀(jS:bJ) (A:c8) (outer:List PySem.Env) (s:bV) (H:Hp) (E:XK),∃tf:TF,(∀σ H v (Q:Hp->Prop),σ[1]?=some (some v)->tO v->Q H->tf σ H Q)/\uD (pE gx P w K mg base [N0,N1] qual (dh st) fa jS A outer s H E).nox (gA st) (Ib (Ee (Ce K (Cd 0) (λσ H Q=>tf σ H λH1=>∀x,Q (.str x) H1))) (Eh K fn (Cd 1) (Cd 0)))) :
  dD P w K mg base gx (kk+1) fa fd [N0,N1] (Av fn C):=by
 refine Fn.ok S Av.len λjS A outer s H vs Q E hr h=>?_;obtain⟨a,u,rfl,ha,fo,q⟩:=h;obtain⟨tf,Tz,p⟩:=body jS A outer s H E;exact⟨_,p,.ref a,rfl,Tz _ _ u _ rfl fo λx=>⟨a,C,none,none,rfl,cl,ha,u,rfl,.ref a,rfl,a,C,none,rfl,cl,hd.1,hd.2.1,hd.2.2,ha,λdx h1 h2=>q dx h1 h2⟩⟩
theorem Uz {v:V}{Q:Hp->Prop}(h1:σ[1]?=some (some v))(h2:tO v)(h3:Q H):Cd 1 σ H (λv H1=>tO v/\Q H1):=⟨v,h1,h2,h3⟩
noncomputable def thD (hit:Nat->Option Bool)(i:Option Nat)(u:SF)(rest:Nat->D->SF):Nat->D->SF:=λc d ρ=>(hit c).bind λb=>if b=true then
  (match i with
   |none=>u ρ
   |some i=>(u (ρ.set i (some d))).bind λo=>match o with
    |.nx ρ'=>some (.nx (ρ'.set i none))
    |.bk ρ'=>some (.bk (ρ'.set i none))
    |.ct ρ'=>some (.ct (ρ'.set i none))
    |.rt d=>some (.rt d))
 else rest c d ρ
noncomputable def sTry (b:qW)(h:Nat->D->SF):SF:=λρ=>(b ρ).bind λo=>match o with
 |.ok o=>some o
 |.xc ρ' (.exc c ns ds)=>h c (.exc c ns ds) ρ'
 |.xc _ _=>none
noncomputable def Iy (X:Cx)(ct:Nat->bO)(ms:List Mo)(rk:Nat)(hs:List ExceptHandler)(h:Nat->D->SF):Prop:=∃th,PH X hs th/\∀(F0 B F H:Hp) (ρ:Env) (σ:St) (o:Out) (E:mm) (a:bO) (c:Nat) (d:D),RS X.K ct F0 B ms F H ρ σ->Dt X.K ct F d (.ref a)->h c d ρ=some o->nB X.K ct F0 B ms rk E o->th a (ct c) E σ H
theorem Zw:Iy X ct ms rk [] (λ_ _ _=>none):=⟨_,zrh,λF0 B F H ρ σ o E a c d rs dt e z=>by cases e⟩
theorem Xx {hs:List ExceptHandler}{np:mE}{body:List dO}{Ba:bO}{hit:Nat->Option Bool}{r:Nat->D->SF}(hm:X.mg x=some (.ref Ba))(hh:∀c b,hit c=some b->iG X.K (.ref (ct c)) (.ref Ba)=some b)(hb:∀a,vE (X.hd a) ct ms rk (st::body) u)(hr:Iy X ct ms rk hs r)(hg:Gl X x:=by rfl)(mn:lS x:=by decide) :
  Iy X ct ms rk (.ExceptHandler (some (.Name x np)) none (st::body) pos::hs) (thD hit none u r):=by
 obtain⟨th,ph,qh⟩:=hr;refine⟨_,YG hg hm (λa=>(hb a).choose_spec.1) ph mn,λF0 B F H ρ σ o E a c d rs dt e z=>?_⟩;obtain⟨b,h1,h2⟩:=cx e;refine⟨b,hh c b h1,?_⟩;cases b with
 |true=>rw[if_pos rfl]at h2 ⊢;exact(hb a).choose_spec.2 F0 B F H ρ σ o E rs h2 z
 |false=>rw[if_neg cB]at h2 ⊢;exact qh F0 B F H ρ σ o E a c d rs dt h2 z
theorem zsf {body:List dO}{h0:ExceptHandler}{hs:List ExceptHandler}{bf:qW}{hf:Nat->D->SF}(hb:∀(E:bJ->bV->Prop) (bL:List (bO×gF)) (G:GK),gI (b9 X.prog X.w) X.A X.env E->oK (X.tr E bL) G->uE (X.tr E bL) G ct ms rk body bf)(hh:Iy X ct ms rk (h0::hs) hf)
  (k7:X.stack=X.env::X.outer:=by rfl) (G3:X.env.frame=some X.env.locals:=by rfl):XS X ct ms rk (.Try body (h0::hs) [] [] pos) (sTry bf hf):=by
 obtain⟨th,ph,qh⟩:=hh;refine⟨_,zri (tb:=λE bL G h1 h2=>(hb E bL G h1 h2).choose) k7 G3 (λE bL G h1 h2=>(hb E bL G h1 h2).choose_spec.1) ph,λF0 B F H ρ σ o E rs e z E' bL h1 h2=>?_⟩;obtain⟨r,g1,g2⟩:=cx e;refine(hb E' bL (Fy th E) h1 h2).choose_spec.2 F0 B F H ρ σ r E rs g1 ?_;cases r with
 |ok o'=>cases g2;exact z
 |xc ρ' d=>
  intro a σ' F1 H0 F' H' Fc x ha xd;obtain⟨c,ns,ds,T,dx,rfl,fa,fT,xr,rr⟩:=xd;refine⟨ct c,dx,T,xr,?_⟩;have x2:iZ F1 H0 (upd F' a (sJ a (ct c) dx (some T))) H':=⟨x.ff.trans (xl fa _),x.hh,λb o q=>by
   by_cases hb:b=a
   ·rw[hb,zo]at q;rw[hb,xr.1];exact q
   ·rw[zj hb]at q;exact x.fh _ _ q,λb o h n=>by rw[zj (zl h ha)];exact x.nf b o h n⟩
  refine qh F0 B _ H' ρ' σ' o E a c _ (Fc.ext x2) ?_ g2 z;rcases rr with⟨rfl,rfl,rfl⟩|⟨y,vs,rfl,hy,hl,R5⟩
  ·exact .exc0 zo
  ·exact .exc (vs:=vs) zo (xl fa _ _ _ hy) hl (R5.mono (xl fa _))
end
noncomputable def fldX (cs:List Nat)(x:Str):D->Option D
 |.exc c ns ds=>if cs.contains c=true then(ns.zip ds).lookup x else none
 |_=>none
noncomputable def isiX (all sub:List Nat):D->Option D
 |.exc c _ _=>if all.contains c=true then some (.bl (sub.contains c))else none
 |.non=>some (.bl false)
 |_=>none
theorem exm_of {B:bO}{b:Bool}(h1:As K B=true)(h2:A6 K (.ref B)=some (.type "type"))(h3:Bq K (.ref C) (.ref B)=some b)(h4:Bq K (.ref B) (.type "BaseException")=some true):iG K (.ref C) (.ref B)=some b:=by unfold iG PySem.W.kitCls;rw[h4,if_pos (by decide)];dsimp only;rw[if_pos,h3];unfold As at h1;rw[h1,h2];rfl
noncomputable def hitL (all sub:List Nat):Nat->Option Bool:=λc=>if all.contains c=true then some (sub.contains c)else none
theorem zsg {B:bO}{all sub:List Nat}(h:∀c∈all,iG K (.ref (ct c)) (.ref B)=some (sub.contains c)):∀c b,hitL all sub c=some b->iG K (.ref (ct c)) (.ref B)=some b:=by
 intro c b e;unfold hitL at e;by_cases hc:all.contains c=true
 ·rw[if_pos hc]at e;cases e;exact h c (by simpa using hc)
 ·rw[if_neg hc]at e;cases e
theorem foldl_rep (c:Nat):∀(n:Nat) (iw:Array Nat),(bW n #[c]).foldl (· ++ ·) iw=iw++Array.replicate n c
 |0,iw=>by simp
 |n+1,iw=>by rw[dI,dS,foldl_rep c n,yU];congr 1;apply Array.toList_inj.mp;simp[dI]
section
variable {a b c d e f g h i j k l m n o p q r s t x:Option D}{z:Env}
@[simp 2000] theorem ev0:eV 0 (a::z)=a:=rfl
@[simp 2000] theorem es0:eU (a::z) 0 x=x::z:=rfl
@[simp 2000] theorem ev1:eV 1 (a::b::z)=b:=rfl
@[simp 2000] theorem es1:eU (a::b::z) 1 x=a::x::z:=rfl
@[simp 2000] theorem ev2:eV 2 (a::b::c::z)=c:=rfl
@[simp 2000] theorem es2:eU (a::b::c::z) 2 x=a::b::x::z:=rfl
@[simp 2000] theorem ev3:eV 3 (a::b::c::d::z)=d:=rfl
@[simp 2000] theorem es3:eU (a::b::c::d::z) 3 x=a::b::c::x::z:=rfl
@[simp 2000] theorem ev4:eV 4 (a::b::c::d::e::z)=e:=rfl
@[simp 2000] theorem es4:eU (a::b::c::d::e::z) 4 x=a::b::c::d::x::z:=rfl
@[simp 2000] theorem ev5:eV 5 (a::b::c::d::e::f::z)=f:=rfl
@[simp 2000] theorem es5:eU (a::b::c::d::e::f::z) 5 x=a::b::c::d::e::x::z:=rfl
@[simp 2000] theorem ev6:eV 6 (a::b::c::d::e::f::g::z)=g:=rfl
@[simp 2000] theorem es6:eU (a::b::c::d::e::f::g::z) 6 x=a::b::c::d::e::f::x::z:=rfl
@[simp 2000] theorem ev7:eV 7 (a::b::c::d::e::f::g::h::z)=h:=rfl
@[simp 2000] theorem es7:eU (a::b::c::d::e::f::g::h::z) 7 x=a::b::c::d::e::f::g::x::z:=rfl
@[simp 2000] theorem ev8:eV 8 (a::b::c::d::e::f::g::h::i::z)=i:=rfl
@[simp 2000] theorem es8:eU (a::b::c::d::e::f::g::h::i::z) 8 x=a::b::c::d::e::f::g::h::x::z:=rfl
@[simp 2000] theorem ev9:eV 9 (a::b::c::d::e::f::g::h::i::j::z)=j:=rfl
@[simp 2000] theorem es9:eU (a::b::c::d::e::f::g::h::i::j::z) 9 x=a::b::c::d::e::f::g::h::i::x::z:=rfl
@[simp 2000] theorem Sk:eV 10 (a::b::c::d::e::f::g::h::i::j::k::z)=k:=rfl
@[simp 2000] theorem R8:eU (a::b::c::d::e::f::g::h::i::j::k::z) 10 x=a::b::c::d::e::f::g::h::i::j::x::z:=rfl
@[simp 2000] theorem Sl:eV 11 (a::b::c::d::e::f::g::h::i::j::k::l::z)=l:=rfl
@[simp 2000] theorem R9:eU (a::b::c::d::e::f::g::h::i::j::k::l::z) 11 x=a::b::c::d::e::f::g::h::i::j::k::x::z:=rfl
@[simp 2000] theorem Sm:eV 12 (a::b::c::d::e::f::g::h::i::j::k::l::m::z)=m:=rfl
@[simp 2000] theorem Sa:eU (a::b::c::d::e::f::g::h::i::j::k::l::m::z) 12 x=a::b::c::d::e::f::g::h::i::j::k::l::x::z:=rfl
@[simp 2000] theorem Sn:eV 13 (a::b::c::d::e::f::g::h::i::j::k::l::m::n::z)=n:=rfl
@[simp 2000] theorem Sb:eU (a::b::c::d::e::f::g::h::i::j::k::l::m::n::z) 13 x=a::b::c::d::e::f::g::h::i::j::k::l::m::x::z:=rfl
@[simp 2000] theorem So:eV 14 (a::b::c::d::e::f::g::h::i::j::k::l::m::n::o::z)=o:=rfl
@[simp 2000] theorem Sd:eU (a::b::c::d::e::f::g::h::i::j::k::l::m::n::o::z) 14 x=a::b::c::d::e::f::g::h::i::j::k::l::m::n::x::z:=rfl
@[simp 2000] theorem Sq:eV 15 (a::b::c::d::e::f::g::h::i::j::k::l::m::n::o::p::z)=p:=rfl
@[simp 2000] theorem Se:eU (a::b::c::d::e::f::g::h::i::j::k::l::m::n::o::p::z) 15 x=a::b::c::d::e::f::g::h::i::j::k::l::m::n::o::x::z:=rfl
@[simp 2000] theorem Sr:eV 16 (a::b::c::d::e::f::g::h::i::j::k::l::m::n::o::p::q::z)=q:=rfl
@[simp 2000] theorem Sf:eU (a::b::c::d::e::f::g::h::i::j::k::l::m::n::o::p::q::z) 16 x=a::b::c::d::e::f::g::h::i::j::k::l::m::n::o::p::x::z:=rfl
@[simp 2000] theorem Ss:eV 17 (a::b::c::d::e::f::g::h::i::j::k::l::m::n::o::p::q::r::z)=r:=rfl
@[simp 2000] theorem Sg:eU (a::b::c::d::e::f::g::h::i::j::k::l::m::n::o::p::q::r::z) 17 x=a::b::c::d::e::f::g::h::i::j::k::l::m::n::o::p::q::x::z:=rfl
@[simp 2000] theorem Su:eV 18 (a::b::c::d::e::f::g::h::i::j::k::l::m::n::o::p::q::r::s::z)=s:=rfl
@[simp 2000] theorem Sh:eU (a::b::c::d::e::f::g::h::i::j::k::l::m::n::o::p::q::r::s::z) 18 x=a::b::c::d::e::f::g::h::i::j::k::l::m::n::o::p::q::r::x::z:=rfl
@[simp 2000] theorem Sv:eV 19 (a::b::c::d::e::f::g::h::i::j::k::l::m::n::o::p::q::r::s::t::z)=t:=rfl
@[simp 2000] theorem Si:eU (a::b::c::d::e::f::g::h::i::j::k::l::m::n::o::p::q::r::s::t::z) 19 x=a::b::c::d::e::f::g::h::i::j::k::l::m::n::o::p::q::r::s::x::z:=rfl
end
variable {xs:List Nat}
section
open PySem PySem.Spec PySem.W L2
open PyProof.Rows hiding St
section
variable {K:Frag}{h:cz}{q m:Str}{f N:bO}{EZ pm ct:bJ}{dd:Option bO}{fd:b5}{ds:List bJ}{vs:List V}{o:gF}{p:Nat}
theorem m_na (h:findIn K (.ref C) x=some none):gJ K C x:=h
theorem m_bd (m j:Nat)(hm:m+vs.length=ps.length)(hd:fd.defaults=.ref T)(ho:K.lookup T=some o)(hs:o.data=.seq items n)(hv:dm vs (items.toList.drop j))(h:∀us:List bJ,us.length=m->∃k,bindArgs fd ⟨us,[]⟩=seqItems? fd.defaults >>= k/\k (some items)=pure (ps.zip (us++items.toList.drop j))) :
  ∃rE,True/\dm vs rE/\fQ K fd ps rE:=⟨_,trivial,hv,Qx m ho h hd hs (by rw[←hv.length];exact hm)⟩
theorem m_xo {nm:Str}{bs bm sub:List bJ}{mQ ab:Bool}{sn:List Str}{col:Option Bool}{k0 k1 k2 k3 k5:Option bJ}(l:K.lookup C=some (excClassObj nm q C N bs bm mQ sn sub ab col dd k0 k1 k2 k3 k5 "ValueError.__new__"))(v:jW bm) :
  ∃(nm q:Str) (N:bO) (bs bm:List bJ) (mQ:Bool) (sn:List Str) (sub:List bJ) (ab:Bool) (col:Option Bool) (dd:Option bO) (k0 k1 k2 k3 k5:Option bJ),K.lookup C=some (excClassObj nm q C N bs bm mQ sn sub ab col dd k0 k1 k2 k3 k5 "ValueError.__new__")/\jW bm :=
 ⟨_,_,_,_,_,_,_,_,_,_,_,_,_,_,_,_,l,v⟩
end
theorem m_al0 {P:Nat->Prop}:∀c∈([]:List Nat),P c:=λ_ h=>nomatch h
theorem Nv {P:Nat->Prop}{x:Nat}(h:P x)(t:∀c∈xs,P c):∀c∈x::xs,P c:=λc hc=>by
 rcases bY.mp hc with rfl|hc
 ·exact h
 ·exact t c hc
end
section
open PySem PySem.Spec PySem.W L2
open PyProof.Rows hiding St
section
variable {K:Frag}{h:cz}{q m:Str}{f N:bO}{EZ pm ct:bJ}{dd:Option bO}{fd:b5}{ds:List bJ}{vs:List V}{o:gF}{p:Nat}
theorem zC (X:K.In h:=by assumption)(G:h.Ns eu mg:=by assumption)(a:nsIn K eu x=some (some (.ref C)):=by k_is)(b:makesIn K C=true:=by k_is)(k:keepIn K (.ref C)=true:=by k_is)(c:pw K C:=by exact⟨by k_is,by k_is,by k_is,by k_is⟩):Dc K mg x C:=⟨c,mg_of X G a,b,k⟩
theorem zX {v:bJ}(X:K.In h:=by assumption)(G:h.Ns eu mg:=by assumption)(e:nsIn K eu x=some (some v):=by k_is):mg x=some v:=mg_of X G e
theorem zB (X:K.In h:=by assumption)(G:h.Ns eu mg:=by assumption)(e:nsIn K eu x=some none:=by k_is):mg x=none:=mg_none_of X G e
theorem zG {i:Int}{t:Tok}(e:mg x=some (.int i t):=by exact L3.zX):∃t,mg x=some (.int i t):=⟨t,e⟩
theorem zD (X:mg x=some (.ref f):=by exact L3.zX)(l:K.lookup f=some ⟨oc,od,.func (fnOf x x (kZ st) (gA st) (dh st) dV EZ doc pm an jS ct),CL⟩:=by k_is)
  (c:codeIn K jS x=true:=by k_is) (k:keepIn K (.ref f)=true:=by k_is) (b:fQ K (fnOf x x (kZ st) (gA st) (dh st) dV EZ doc pm an jS ct) ps []:=by first|exact .all (L3.lA1 λ_=>rfl)|exact .all (L3.lA2 λ_ _=>rfl)|exact .all (L3.lA3 λ_ _ _=>rfl)|exact .all (L3.lA4 λ_ _ _ _=>rfl)|exact .all (L3.lA5 λ_ _ _ _ _=>rfl)|exact .all (L3.lA6 λ_ _ _ _ _ _=>rfl)):lN K mg x st ps f (fnOf x x (kZ st) (gA st) (dh st) dV EZ doc pm an jS ct):=⟨Qw l c k,X,b⟩
theorem zM (a:findIn K (.ref C) m=some (some (.ref f)):=by k_is)(i:isFn K (.ref f)=true:=by k_is)(l:K.lookup f=some ⟨oc,od,.func (fnOf m q (kZ st) (gA st) (dh st) dV EZ doc pm an jS ct),CL⟩:=by k_is)
  (c:codeIn K jS q=true:=by k_is) (k:keepIn K (.ref f)=true:=by k_is) (b:fQ K (fnOf m q (kZ st) (gA st) (dh st) dV EZ doc pm an jS ct) ps []:=by first|exact .all (L3.lA1 λ_=>rfl)|exact .all (L3.lA2 λ_ _=>rfl)|exact .all (L3.lA3 λ_ _ _=>rfl)|exact .all (L3.lA4 λ_ _ _ _=>rfl)|exact .all (L3.lA5 λ_ _ _ _ _=>rfl)|exact .all (L3.lA6 λ_ _ _ _ _ _=>rfl)):Dm K C m q st ps f (fnOf m q (kZ st) (gA st) (dh st) dV EZ doc pm an jS ct):=⟨Qw l c k,⟨a,i,k⟩,b⟩
theorem zE (m:Nat)(h:∀us:List bJ,us.length=m->∃k,bindArgs fd ⟨us,[]⟩=seqItems? fd.defaults >>= k/\k (some items)=pure (ps.zip (us++ds)))(hm:m+ds.length=ps.length:=by rfl)(hd:fd.defaults=.ref T:=by rfl)(ho:K.lookup T=some o:=by k_is)(hs:o.data=.seq items n:=by rfl):fQ K fd ps ds:=Qx m ho h hd hs hm
end
theorem zF {P:Nat->Prop}{x:Nat}(t:∀c∈xs,P c)(h:P x:=by exact⟨⟨by k_is,by k_is,by k_is,by k_is⟩,L3.m_na (by k_is)⟩):∀c∈x::xs,P c:=Nv h t
theorem zI {P:Nat->Prop}{x:Nat}(t:∀c∈xs,P c)(h:P x:=by exact⟨⟨⟨by k_is,by k_is,by k_is,by k_is⟩,by k_is,by k_is,by k_is,by k_is⟩,by kit_is⟩):∀c∈x::xs,P c:=Nv h t
theorem zH {P:Nat->Prop}{x:Nat}(t:∀c∈xs,P c)(h:P x:=by apply L3.exm_of<;>k_is):∀c∈x::xs,P c:=Nv h t
end
section
variable {fd:b5}
theorem xv {o:Mo}(hm:ms[i]?=some o:=by rfl)(hl:o.lv=n:=by rfl)(hN:X.N[i]?=some x:=by rfl)(hv:vD X.env.scope x:=by walk_at "v1")(hd:lS x:=by decide)
  (mP:xD x:=by decide):XE X ct ms n (.Name x pos) (eV i):=yj i n hm hl hN hv hd mP
theorem Ac (hr:fC kq X.A)(ha:XE X ct ms n a f)(hb:XE X ct ms m b g):XT X ct ms (.Compare a [.Eq] [b] pos) (tb (e2 (jV false) f g)):=wq (k:=0) (Rc hr.u64) Nb ha hb (km _)
theorem Gg (hr:fC kq X.A)(ha:XE X ct ms n a f)(hb:XE X ct ms m b g):XT X ct ms (.Compare a [.NotEq] [b] pos) (tb (e2 (jV true) f g)):=wq (k:=0) (zrp hr.u64) Nb ha hb (km _)
theorem vEq (hr:fC kq X.A)(ha:XE X ct ms n a f)(hb:XE X ct ms m b g):XE X ct ms 0 (.Compare a [.Eq] [b] pos) (e2 (jV false) f g):=Ij (k:=0) (Rc hr.u64) Nb ha hb (km _)
theorem Cc (ha:XE X ct ms n a f)(hb:XE X ct ms m b g):XT X ct ms (.Compare a [.Lt] [b] pos) (tb (e2 qL f g)):=wq (k:=0) Nt Na ha hb (km _)
theorem OI (ha:XE X ct ms n a f)(hb:XE X ct ms m b g):XT X ct ms (.Compare a [.LtE] [b] pos) (tb (e2 BZ f g)):=wq (k:=0) Rk Qt ha hb (km _)
theorem Ad (ha:XE X ct ms n a f)(hb:XE X ct ms m b g):XT X ct ms (.Compare a [.Gt] [b] pos) (tb (e2 qX f g)):=wq (k:=0) RA Ri ha hb (km _)
theorem Jl (ha:XE X ct ms n a f)(hb:XE X ct ms m b g):XT X ct ms (.Compare a [.GtE] [b] pos) (tb (e2 Bz f g)):=wq (k:=0) RB Rj ha hb (km _)
theorem Ef (ha:XE X ct ms n a f)(hb:XE X ct ms m b g):XT X ct ms (.Compare a [.Is] [b] pos) (tb (e2 (tT false) f g)):=wq (k:=0) ztr zr0 ha hb (km _)
theorem L1 (ha:XE X ct ms n a f)(hb:XE X ct ms m b g):XT X ct ms (.Compare a [.IsNot] [b] pos) (tb (e2 (tT true) f g)):=wq (k:=0) W9 Wb ha hb (km _)
theorem UD (ha:XE X ct ms n a f)(hb:XE X ct ms m b g):XE X ct ms 0 (.Compare a [.Lt] [b] pos) (e2 qL f g):=Ij (k:=0) Nt Na ha hb (km _)
theorem Gh (ha:XE X ct ms n a f)(hb:XE X ct ms m b g):XE X ct ms 0 (.Compare a [.LtE] [b] pos) (e2 BZ f g):=Ij (k:=0) Rk Qt ha hb (km _)
theorem OO (ha:XE X ct ms n a f)(hb:XE X ct ms m b g):XE X ct ms 0 (.Compare a [.Gt] [b] pos) (e2 qX f g):=Ij (k:=0) RA Ri ha hb (km _)
theorem UC (ha:XE X ct ms n a f)(hb:XE X ct ms m b g):XE X ct ms 0 (.Compare a [.GtE] [b] pos) (e2 Bz f g):=Ij (k:=0) RB Rj ha hb (km _)
theorem sV (ha:XE X ct ms n a f)(hb:XE X ct ms m b g):XE X ct ms 0 (.BinOp a .Sub b pos) (e2 p6 f g):=qz (k:=0) zqy YV ha hb
theorem oDiv (ha:XE X ct ms n a f)(hb:XE X ct ms m b g):XE X ct ms 0 (.BinOp a .FloorDiv b pos) (e2 hJ f g):=qz (k:=0) Wz W8 ha hb
theorem oMod (ha:XE X ct ms n a f)(hb:XE X ct ms m b g):XE X ct ms 0 (.BinOp a .Mod b pos) (e2 gW f g):=qz (k:=0) Yn YX ha hb
theorem kR (ha:XE X ct ms n a f)(hb:XE X ct ms m b g):XE X ct ms 0 (.BinOp a .Mult b pos) (e2 fD f g):=qz (k:=0) Yf Xb ha hb
theorem jP (h:XO X ct ms k e f):XE X ct ms 0 e f:=XO.sh h
theorem xc (d:lN X.K X.mg x st ps fa fd)(Fn:dD X.prog X.w X.K X.mg X.base gx kk fa fd ps (kr X.K ct ns rk mf))(hr:fC kq X.A)(ha:XA X ct ms (e::es) ns fs)(mW:kk<=kq:=by decide)(hg:Gl X x:=by rfl)
  (mn:lS x:=by decide) (he:SE X e es:=by rfl) (jB:pV X pos es:=by rfl) :
  XE X ct ms 0 (.Call (.Name x pp) (e::es) [] pos) (λρ=>(fs ρ).bind λds=>mf (ds++[])):=jP (jG d Fn hr ha mW hg mn he jB)
theorem jO (he:XE X ct ms 0 e f)(hc:∀c∈cs,pw X.K (ct c)/\gJ X.K (ct c) x)(hb:DJ X e x:=by rfl):XE X ct ms 0 (.Attribute e x pos) (e1 (dq cs x) f):=M9 (n:=0) he hc hb
theorem ID (he:XE X ct ms 1 e f)(hc:∀c∈cs,pw X.K (ct c)/\gJ X.K (ct c) x)(hb:DJ X e x:=by rfl):XE X ct ms 0 (.Attribute e x pos) (e1 (dq cs x) f):=M9 (n:=1) he hc hb
theorem EW (ha:XE X ct ms 1 a f)(hb:XE X ct ms m b g)(hp:pz b:=by exactλ_ _=>rfl):XE X ct ms 0 (.Subscript a b pos) (e2 ed f g):=Nq (n:=1) M6 Nc ha hb hp
theorem Ii {i:Int}(hm:∃t,X.mg x=some (.int i t))(hg:Gl X x:=by rfl)(hd:lS x:=by decide):XE X ct ms 0 (.Name x pos) (eC (.int i)):=hm.elim λ_ h=>Y7 hg h rfl ⟨_,rfl⟩ hd
theorem xF (hi:XI X ct ms n tg iter fi)(hg:XG X ct ms n tg gg)(hb:vE X ct ms rk rest u)(hp:gI (b9 X.prog X.w) X.A X.env X.xe:=by exact gI.never)(hc:X.calm=true:=by rfl)
  (hs:Bs X iter:=by intro _;rfl):XS X ct ms rk (.For tg iter rest [] pos) (sFor fi gg u):=zry hi hg hb hp hc hs
theorem FC (hc:XT X ct ms c p)(hb:vE X ct ms rk rest u)(hp:gI (b9 X.prog X.w) X.A X.env X.xe:=by exact gI.never):XS X ct ms rk (.While c rest [] pos) (iy p u):=WD hc hb hp
theorem lO (he:XE X ct ms 0 e f):XS X ct ms 0 (.Return (some e) pos) (sRet f):=yc (XE.ow he)
theorem kO (hN:X.N.Nodup)(he:XE X ct ms 0 e f)(hm:ms[i]?=some (.ow 0):=by rfl)(hi:X.N[i]?=some x:=by rfl)(hx:Loc X.env.scope x:=by walk_at "v3")
  (hs:GC X e x pos' pos:=by rfl)
  (hf:vL X x:=by walk_at "v2"):XS X ct ms rk (.Assign [.Name x pos'] e pos) (sSet i f):=lP hN (XE.ow he) hm hi hx hs hf
theorem oy (ht:XT X ct ms c p)(h:XS X ct ms rk st u):XS X ct ms rk (.If c [st] [] pos) (sIf p u sSkip):=Ek ht (zh h) wv
theorem xI (hi:Er X ct ms n tg iter fi)
  (hg:∀cl C fp s₀ H₀,N.Nodup->Cz (nJ X scope cl N C fp s₀ H₀) ct (om++ky ms cap) own n tg gg) (ht:∀cl C fp s₀ H₀,DO (nJ X scope cl N C fp s₀ H₀) ct (om++ky ms cap) ifs p) (he:∀cl C fp s₀ H₀,XO (nJ X scope cl N C fp s₀ H₀) ct (om++ky ms cap) k o8 f)
  (nd:N.Nodup:=by decide +kernel) (B:oJ X scope N own cap:=by exact Rr (by rfl)) (hc:X.calm=true:=by rfl) (ho:om.length=own:=by rfl) (e9:∀i∈cap,i<ms.length:=by decide)
  (hs:Bs X iter:=by intro _;rfl):XO X ct ms (k+1) (.ListComp o8 [⟨tg,iter,ifs,0⟩] scope pos) (eY fi own cap gg p f):=Y2 B hc ho e9 hi (λcl C fp s₀ H₀=>hg cl C fp s₀ H₀ nd) ht he hs
theorem CO {wJ:mE}(hN:X.N.Nodup)(hi:Er X ct ms n tg iter fi)
  (hg:∀cl C fp s₀ H₀,N.Nodup->Cz (nJ X scope cl N C fp s₀ H₀) ct (om++ky ms cap) own n tg gg) (ht:∀cl C fp s₀ H₀,DO (nJ X scope cl N C fp s₀ H₀) ct (om++ky ms cap) ifs p) (he:∀cl C fp s₀ H₀,XO (nJ X scope cl N C fp s₀ H₀) ct (om++ky ms cap) (k-1) o8 f)
  (nd:N.Nodup:=by decide +kernel) (hm:ms[i]?=some (.ow k):=by rfl) (AA:X.N[i]?=some x:=by rfl) (hx:Loc X.env.scope x:=by walk_at "v3")
  (B:oJ X scope N own cap:=by exact Rr (by rfl)) (hc:X.calm=true:=by rfl) (ho:om.length=own:=by rfl) (e9:∀i∈cap,i<ms.length:=by decide)
  (BV:gq (.ListComp o8 [⟨tg,iter,ifs,0⟩] scope pos) (some (.Name x pos')) wJ.line X.env=pure true:=by rfl)
  (hs:Bs X iter:=by intro _;rfl) (hf:vL X x:=by walk_at "v2") :
  XS X ct ms rk (.Assign [.Name x pos'] (.ListComp o8 [⟨tg,iter,ifs,0⟩] scope pos) wJ) (sSet i (eY fi own cap gg p f)):=Vz hm hN AA hx B hc ho e9 hi (λcl C fp s₀ H₀=>hg cl C fp s₀ H₀ nd) ht he BV hs hf
theorem FD {q:Str}(M:Dc X.K X.mg x (ct c0))(d:Dm X.K (ct c0) "__init__" q st ps fa fd)(Fn:dD X.prog X.w X.K X.mg X.base gx kk fa fd ps (zJ X.K ct cs ns mi))(hr:fC kq X.A)(ha:XA X ct ms (e::es) ns fs)(BG:c0∈cs:=by decide)(mW:kk+1<=kq:=by decide)(hg:Gl X x:=by rfl)
  (mn:lS x:=by decide) (he:SE X e es:=by rfl) (jB:pV X pos es:=by rfl) :
  XO X ct ms 1 (.Call (.Name x pp) (e::es) [] pos) (λρ=>(fs ρ).bind λds=>mi c0 (ds++[])) :=
 Zf (ns:=ns) (nd:=[]) (pQ:=[]) ⟨M.mks,d.me.at_,d.me.fn,M.kp⟩ BG (by rw[cP];exact Fn) (hr.mono mW) hg M.mgx d.bd .nil (λ_ _=>.nil) ha mn he jB
end
section
variable {w:dB}{fd:b5}
theorem lf (Fn:Fun2 K x qual st fa fd)(body:∀(jS:bJ) (A:c8) (outer:List PySem.Env) (s:bV) (H:Hp) (E:XK),fC kk (A.deeper (envOfC qual (dh st) s.heap.objs.size fa jS))->N.Nodup->vE (pE gx P w K mg base N qual (dh st) fa jS A outer s H E).nox ct ms rk (gA st) bf)
  (S:iN N ps (dh st):=by exact⟨rfl,rfl,rfl,by decide +kernel,rfl,by decide +kernel,by decide +kernel⟩)
  (BO:pm.length=ps.length:=by rfl) (EQ:ms.length=N.length:=by rfl) (mW:ps.length<=N.length:=by decide) (C5:∀(i n:Nat),pm[i]?=some n->ms[i]?=some (Mo.al n)\/(n=0/\ms[i]?=some (Mo.ow 0)):=by exact v7 (by decide)) :
  dD P w K mg base gx (kk+1) fa fd ps (kr K ct pm rk (mOf N bf)):=lift Fn S BO EQ mW C5 λa b c d e f g=>body a b c d e f g S.nd
theorem Gb (Fn:Fun2 K x qual st fa fd)(body:∀(x:bO) (jS:bJ) (A:c8) (outer:List PySem.Env) (s:bV) (H:Hp) (E:XK),fC kk (A.deeper (envOfC qual (dh st) s.heap.objs.size fa jS))->(N0::N).Nodup->vE (pE gx P w K mg base (N0::N) qual (dh st) fa jS A outer s H E).nox ct (.so x::ms) rk (gA st) bf)
  (S:iN (N0::N) ps (dh st):=by exact⟨rfl,rfl,rfl,by decide +kernel,rfl,by decide +kernel,by decide +kernel⟩)
  (BO:pm.length+1=ps.length:=by rfl) (EQ:ms.length=N.length:=by rfl) (mW:pm.length<=N.length:=by decide) (C5:∀(i n:Nat),pm[i]?=some n->ms[i]?=some (Mo.al n)\/(n=0/\ms[i]?=some (Mo.ow 0)):=by exact v7 (by decide)) :
  dD P w K mg base gx (kk+1) fa fd ps (zJ K ct cs pm (CJ (N0::N) bf)):=Wj Fn S BO EQ mW C5 λx a b c d e f g=>body x a b c d e f g S.nd
end
end L3
namespace My
open PySem L2 L3
abbrev cl (m:List D->Option D)(fs:L3.Env->Option (List D)):EF:=λρ=>(fs ρ).bind λds=>m (ds++[])
abbrev sI (i:Int):Option D:=some (.int i)
abbrev sL (xs:List D):Option D:=some (.lst xs)
abbrev mO (l:List Nat):List Mo:=l.map .ow
noncomputable def top (i:Nat):dO:=PySem.Challenge.pw_ringbeat_k92_whole_least_round_and_fate.main.body.getD i (.Pass ⟨0,0,0,0⟩)
noncomputable abbrev sf:dO:=inClass (top 2) 0
noncomputable abbrev sX:dO:=inClass (top 3) 0
noncomputable abbrev sZ:dO:=inClass (top 4) 0
noncomputable abbrev sW:dO:=inClass (top 5) 0
noncomputable abbrev wD:dO:=top 17
noncomputable abbrev wC:dO:=top 18
noncomputable abbrev AI:dO:=top 19
noncomputable abbrev wB:dO:=top 20
noncomputable abbrev tG:dO:=top 21
noncomputable abbrev yM:dO:=top 22
noncomputable abbrev rm:dO:=top 23
noncomputable abbrev p5:dO:=top 24
noncomputable abbrev yQ:dO:=top 25
noncomputable abbrev uS:dO:=inClass (top 27) 0
noncomputable abbrev pK:dO:=inClass (top 27) 1
noncomputable abbrev yL:dO:=inClass (top 27) 2
noncomputable abbrev wA:dO:=inClass (top 27) 3
noncomputable abbrev B9:dO:=top 35
noncomputable abbrev p4:dO:=top 29
noncomputable abbrev Do:dO:=top 30
noncomputable abbrev Cb:dO:=top 33
noncomputable abbrev Fg:dO:=top 31
noncomputable abbrev Dn:dO:=top 32
noncomputable abbrev Dp:dO:=top 34
noncomputable abbrev Ff:dO:=top 46
noncomputable abbrev qN:dO:=top 47
noncomputable abbrev nM:dO:=top 48
noncomputable abbrev uW:dO:=top 50
noncomputable abbrev Ca:dO:=top 51
noncomputable abbrev wI:dO:=top 52
noncomputable abbrev rh:dO:=top 53
noncomputable abbrev tH:dO:=top 54
noncomputable abbrev tF:dO:=top 55
noncomputable abbrev rj:dO:=top 37
noncomputable abbrev sY:dO:=inClass (top 57) 1
noncomputable abbrev n9:dO:=inClass (top 10) 0
noncomputable abbrev oe:dO:=inClass (top 57) 0
noncomputable abbrev uV:dO:=top 39
noncomputable abbrev ny:dO:=top 40
noncomputable abbrev Fe:dO:=top 41
noncomputable abbrev uX:dO:=top 42
noncomputable abbrev uT:dO:=top 43
noncomputable abbrev Fd:dO:=top 44
noncomputable abbrev tD:dO:=top 59
noncomputable abbrev uU:dO:=top 60
noncomputable abbrev wG:dO:=top 61
noncomputable abbrev yP:dO:=top 62
noncomputable abbrev wF:dO:=top 63
noncomputable abbrev yO:dO:=top 64
noncomputable abbrev wH:dO:=top 65
noncomputable abbrev tE:dO:=top 66
noncomputable abbrev tw:dO:=top 67
noncomputable abbrev yN:dO:=top 68
noncomputable abbrev HP:dO:=top 69
theorem yn:iN ["net","pace","numbers","times","chosen","pushed","number","arrow","earliest"] ["net","pace","numbers","times","chosen"] (dh qN):=⟨rfl,rfl,rfl,by decide +kernel,rfl,by decide +kernel,by decide +kernel⟩
theorem j9:iN ["self","arrow"] ["self","arrow"] (dh n9):=⟨rfl,rfl,rfl,by decide +kernel,rfl,by decide +kernel,by decide +kernel⟩
theorem wy:iN ["self","net","times","beat","number"] ["self","net","times","beat"] (dh oe):=⟨rfl,rfl,rfl,by decide +kernel,rfl,by decide +kernel,by decide +kernel⟩
set_option genInjectivity false
set_option genSizeOf false
structure Adr where
 b:bO
 c:bO
 d:bO
 e:bO
 f:bO
 g:bO
 h:bO
 i:bO
 j:bO
 k:b5
 l:bO
 m:b5
 n:bO
 o:b5
 p:bO
 q:b5
 r:bO
 s:b5
 t:bO
 u:b5
 v:bO
 x:b5
 y:bO
 z:b5
 aa:bO
 ab:b5
 ac:bO
 ad:b5
 ae:bO
 af:b5
 ag:bO
 ah:b5
 ai:bO
 aj:b5
 ak:bO
 al:b5
 am:bO
 an:b5
 ao:bO
 ap:b5
 aq:bO
 ar:b5
 au:bO
 av:b5
 aw:bO
 ax:b5
 ay:bO
 az:b5
 aA:bO
 aB:b5
 aC:bO
 aD:b5
 aE:bO
 aF:b5
 aG:bO
 aH:b5
 aI:bO
 aJ:b5
 aK:bO
 aL:b5
 aM:bO
 aN:b5
 aO:bO
 aP:b5
 aQ:bO
 aR:b5
 aS:bO
 aT:b5
 aU:bO
 aV:b5
 aW:bO
 aX:b5
 aY:bO
 aZ:b5
 a0:bO
 a1:b5
 a2:bO
 a3:b5
 a4:bO
 a5:b5
 a6:bO
 a7:b5
 a8:bO
 a9:b5
 ba:bO
 bb:b5
 bc:bO
 bd:b5
 be:bO
 bf:b5
 bg:bO
 bh:b5
 bi:bO
 bj:b5
 bk:bO
 bl:b5
 bm:bO
 bn:b5
 bo:bO
 bp:b5
 bq:bO
 br:b5
 bs:bO
 bt:b5
 bu:bO
 bv:b5
 bw:bO
 bx:b5
 bz:bO
 bA:b5
 bB:bO
 bC:b5
 bD:bO
 bE:b5
 bF:bO
 bG:b5
set_option genSizeOf true
set_option genInjectivity true
noncomputable def Adr.ct (a:Adr):Nat->bO
 |0=>a.b
 |1=>a.c
 |2=>a.d
 |3=>a.e
 |4=>a.f
 |5=>a.g
 |6=>a.h
 |9=>a.i
 |_=>0
structure Txt (K:bM)(mg:Str->Option bJ)(a:Adr):Prop where
 b:Dc K mg "Arrow" a.b
 c:Dc K mg "Ride" a.c
 d:Dc K mg "Wait" a.d
 e:Dc K mg "Back" a.e
 f:Dc K mg "Net" a.f
 g:Dc K mg "Table" a.g
 h:mg "BeatError"=some (.ref a.h)
 i:mg "NoFit"=some (.ref a.i)
 j:Dm K a.b "__init__" "Arrow.__init__" sf ["self","start","goal","time","behind"] a.j a.k
 k:Dm K a.c "__init__" "Ride.__init__" sX ["self","start","goal","time"] a.l a.m
 l:Dm K a.d "__init__" "Wait.__init__" sZ ["self","start","goal","time","behind"] a.n a.o
 m:∃rE,True/\dm [(V.int 0)] rE/\fQ K a.o ["self","start","goal","time","behind"] rE
 n:Dm K a.e "__init__" "Back.__init__" sW ["self","start","goal","time","behind"] a.p a.q
 o:∃rE,True/\dm [(V.int 1)] rE/\fQ K a.q ["self","start","goal","time","behind"] rE
 p:lN K mg "is_letter" wD ["sign"] a.r a.s
 q:lN K mg "is_figure" wC ["sign"] a.t a.u
 r:lN K mg "is_name" AI ["word"] a.v a.x
 s:lN K mg "are_names" wB ["names"] a.y a.z
 t:lN K mg "lies_within" tG ["number","least","most"] a.aa a.ab
 u:lN K mg "is_right" yM ["arrow","many"] a.ac a.ad
 v:lN K mg "placed_goings" rm ["many","arrows"] a.ae a.af
 x:lN K mg "ring_back_from" p5 ["arrows","chosen","going"] a.ag a.ah
 y:lN K mg "way_back" yQ ["arrows","chosen","start","goal"] a.ai a.aj
 z:Dm K a.f "__init__" "Net.__init__" uS ["self","names","arrows"] a.ak a.al
 aa:Dm K a.f "most_behind" "Net.most_behind" pK ["self"] a.am a.an
 ab:Dm K a.f "into" "Net.into" yL ["self","going"] a.ao a.ap
 ac:Dm K a.f "order" "Net.order" wA ["self"] a.aq a.ar
 ad:lN K mg "latest" B9 ["one","other"] a.au a.av
 ae:lN K mg "common_divisor" p4 ["one","other"] a.aw a.ax
 af:lN K mg "ratio" Do ["top","bottom"] a.ay a.az
 ag:lN K mg "scaled" Cb ["one","whole"] a.aA a.aB
 ah:lN K mg "plus" Fg ["one","other"] a.aC a.aD
 ai:lN K mg "minus" Dn ["one","other"] a.aE a.aF
 aj:lN K mg "under" Dp ["one","other"] a.aG a.aH
 ak:lN K mg "mean" Ff ["net","ring"] a.aI a.aJ
 al:lN K mg "push_once" qN ["net","pace","numbers","times","chosen"] a.aK a.aL
 am:lN K mg "times_or_ring_along" nM ["net","pace","numbers"] a.aM a.aN
 an:lN K mg "ring_above" uW ["net","pace","numbers"] a.aO a.aP
 ao:lN K mg "midway" Ca ["one","other"] a.aQ a.aR
 ap:lN K mg "least_gap" wI ["net"] a.aS a.aT
 aq:lN K mg "greatest_ring" rh ["net","numbers"] a.aU a.aV
 ar:lN K mg "paper_along" tH ["net","numbers"] a.aW a.aX
 au:lN K mg "least_round" tF ["net"] a.aY a.aZ
 av:lN K mg "greatest_told" rj ["told"] a.a0 a.a1
 aw:Dm K a.g "slack" "Table.slack" sY ["self","arrow"] a.a2 a.a3
 ax:Dm K a.i "__init__" "NoFit.__init__" n9 ["self","arrow"] a.a4 a.a5
 ay:Dm K a.g "__init__" "Table.__init__" oe ["self","net","times","beat"] a.a6 a.a7
 az:lN K mg "links_into" uV ["table","going","left_out"] a.a8 a.a9
 aA:lN K mg "lateness_in_last_row" ny ["rows","links","put"] a.ba a.bb
 aB:lN K mg "late" Fe ["table","rounds","puts","without"] a.bc a.bd
 aC:∃rE,True/\dm [V.non] rE/\fQ K a.bd ["table","rounds","puts","without"] rE
 aD:lN K mg "tight_ring" uX ["table","going"] a.be a.bf
 aE:lN K mg "first_kept" uT ["table","rows"] a.bg a.bh
 aF:lN K mg "fate" Fd ["table","puts","most"] a.bi a.bj
 aG:lN K mg "_law_cell_at" tD ["_law_script","_law_k"] a.bk a.bl
 aH:lN K mg "_law_is_row" uU ["_law_cell"] a.bm a.bn
 aI:lN K mg "_law_mixed" wG ["_law_cell","_law_k"] a.bo a.bp
 aJ:lN K mg "_law_rank" yP ["_law_turn","_law_many","_law_going"] a.bq a.br
 aK:lN K mg "_law_arrow" wF ["_law_cell","_law_many","_law_turn","_law_k"] a.bs a.bt
 aL:lN K mg "_law_made" yO ["_law_arrow_here","_law_kind"] a.bu a.bv
 aM:lN K mg "_law_taken" wH ["_law_times","_law_bottom"] a.bw a.bx
 aN:lN K mg "_law_refused" tE ["_law_net","_law_times","_law_beat"] a.bz a.bA
 aO:lN K mg "_law_carried" tw ["_law_table","_law_arrows","_law_ring","_law_going","_law_when","_law_amount"] a.bB a.bC
 aP:lN K mg "_law_dies" yN ["_law_table","_law_many","_law_going","_law_when","_law_amount"] a.bD a.bE
 aQ:lN K mg "law" HP ["_law_script"] a.bF a.bG
 aR:Dq K a.b "__init__" a.j
 aS:∀c∈([4]:List Nat),pw K (a.ct c)/\gJ K (a.ct c) "arrows"
 aT:∀c∈([5]:List Nat),pw K (a.ct c)/\gJ K (a.ct c) "beat"
 aU:∀c∈([0,1,2,3]:List Nat),pw K (a.ct c)/\gJ K (a.ct c) "behind"
 aV:∀c∈([0,1,2,3]:List Nat),pw K (a.ct c)/\gJ K (a.ct c) "goal"
 aW:∀c∈([4]:List Nat),pw K (a.ct c)/\gJ K (a.ct c) "names"
 aX:∀c∈([5]:List Nat),pw K (a.ct c)/\gJ K (a.ct c) "net"
 aY:∀c∈([0,1,2,3]:List Nat),pw K (a.ct c)/\gJ K (a.ct c) "start"
 aZ:∀c∈([0,1,2,3]:List Nat),pw K (a.ct c)/\gJ K (a.ct c) "time"
 a0:∀c∈([5]:List Nat),pw K (a.ct c)/\gJ K (a.ct c) "times"
 a1:∀c∈([0,1,2,3,4,5]:List Nat),Ic K (a.ct c)/\gH K (.ref (a.ct c)) (.ref a.e)=some (t8 [3] c)
 a2:∀c∈([0,1,2,3,4,5]:List Nat),Ic K (a.ct c)/\gH K (.ref (a.ct c)) (.ref a.c)=some (t8 [1] c)
 a3:dY K (.ref a.i)=true
 a4:By K a.i
 a5:fw K a.i=true/\cX K (.ref a.i) "__setattr__"=some (some (.builtin "object.__setattr__"))/\gY K a.i "arrow"=some none
 a6:eL K (.ref a.h) "__getattribute__"=some (some (.builtin "type.__getattribute__"))/\kM K a.h (.type "type")=true/\kL K (.ref a.h) (.type "type") "__init__"=some (.val (.builtin "ValueError.__init__"))
 a7:∀c∈([9]:List Nat),iG K (.ref (a.ct c)) (.ref a.i)=some (t8 [9] c)
 a8:mg "abs"=none
 a9:mg "all"=none
 ba:mg "bool"=none
 bb:mg "enumerate"=none
 bc:mg "int"=none
 bd:mg "isinstance"=none
 be:mg "len"=none
 bf:mg "list"=none
 bg:mg "max"=none
 bh:mg "min"=none
 bi:mg "range"=none
 bj:mg "reversed"=none
 bk:mg "str"=none
 bl:mg "sum"=none
 bm:mg "tuple"=none
 bn:∃t,mg "MOST_ARROWS"=some (.int 120 t)
 bo:∃t,mg "MOST_BEHIND"=some (.int 4 t)
 bp:∃t,mg "MOST_NAMES"=some (.int 40 t)
 bq:∃t,mg "MOST_SIGNS"=some (.int 8 t)
 br:∃t,mg "MOST_TIME"=some (.int 1000000000 t)
variable {K:bM}{mg:Str->Option bJ}
section
variable {P:dQ}{w:dB}{base:cz}{a:Adr}{ct:Nat->bO}
noncomputable def ki:Nat->List D->Option D:=CJ ["self","start","goal","time","behind"]
  (sSeq (jE [0,1,2,3] "start" (eV 1))
  (sSeq (jE [0,1,2,3] "goal" (eV 2))
  (sSeq (jE [0,1,2,3] "time" (eV 3))
  (jE [0,1,2,3] "behind" (eV 4)))))
theorem xg (T:Txt K mg a):dD P w K mg base gx 1 a.j a.k ["self","start","goal","time","behind"] (zJ K a.ct [0,1,2,3] [0,0,0,0] ki) :=
 Gb (ms:=mO [0,0,0,0]) (rk:=0) T.j.fn λ_ _ _ _ _ _ _ hr nd=>(ze (wf T.aY xv) (ze (wf T.aV xv) (ze (wf T.aZ xv) (zh (wf T.aU xv)))))
noncomputable def mr:Nat->List D->Option D:=CJ ["self","start","goal","time"]
  (uR [0,1,2,3] (aCons (eV 1) (aCons (eV 2) (aCons (eV 3) (aCons (eC (.int 0)) aNil)))) ki)
theorem UJ (T:Txt K mg a):dD P w K mg base gx 2 a.l a.m ["self","start","goal","time"] (zJ K a.ct [1] [0,0,0] mr) :=
 Gb (ms:=mO [0,0,0]) (rk:=0) T.k.fn λ_ _ _ _ _ _ _ hr nd=>(zh (MP (ns:=[0,0,0,0]) (xg T) (hr.mono (by decide)) T.b.mgx T.aR.sp T.aR.rd T.aR.fc T.j.fn.kp T.j.bd (by decide) (za xv (za xv (za xv (za dN zf))))))
noncomputable def mw:Nat->List D->Option D:=CJ ["self","start","goal","time","behind"]
  (uR [0,1,2,3] (aCons (eV 1) (aCons (eV 2) (aCons (eV 3) (aCons (eV 4) aNil)))) ki)
theorem UK (T:Txt K mg a):dD P w K mg base gx 2 a.n a.o ["self","start","goal","time","behind"] (zJ K a.ct [2] [0,0,0,0] mw) :=
 Gb (ms:=mO [0,0,0,0]) (rk:=0) T.l.fn λ_ _ _ _ _ _ _ hr nd=>(zh (MP (ns:=[0,0,0,0]) (xg T) (hr.mono (by decide)) T.b.mgx T.aR.sp T.aR.rd T.aR.fc T.j.fn.kp T.j.bd (by decide) (za xv (za xv (za xv (za xv zf))))))
noncomputable def mq:Nat->List D->Option D:=CJ ["self","start","goal","time","behind"]
  (uR [0,1,2,3] (aCons (eV 1) (aCons (eV 2) (aCons (eV 3) (aCons (eV 4) aNil)))) ki)
theorem UL (T:Txt K mg a):dD P w K mg base gx 2 a.p a.q ["self","start","goal","time","behind"] (zJ K a.ct [3] [0,0,0,0] mq) :=
 Gb (ms:=mO [0,0,0,0]) (rk:=0) T.n.fn λ_ _ _ _ _ _ _ hr nd=>(zh (MP (ns:=[0,0,0,0]) (xg T) (hr.mono (by decide)) T.b.mgx T.aR.sp T.aR.rd T.aR.fc T.j.fn.kp T.j.bd (by decide) (za xv (za xv (za xv (za xv zf))))))
noncomputable def nV:List D->Option D:=mOf ["sign"]
  (sRet (eB (bAnd (tb (e2 BZ (eC (.str "a")) (eV 0))) (tb (e2 BZ (eV 0) (eC (.str "z")))))))
theorem u6 (T:Txt K mg a):dD P w K mg base gx 1 a.r a.s ["sign"] (kr K a.ct [0] 0 nV) :=
 lf (ms:=mO [0]) T.p.fn λ_ _ _ _ _ _ hr nd=>(zh (lO (wu (Gh (wa (n:=0)) xv) (vx (k:=0) (Gh xv (wa (n:=0)))))))
noncomputable def qM:List D->Option D:=mOf ["sign"]
  (sRet (eB (bAnd (tb (e2 BZ (eC (.str "0")) (eV 0))) (tb (e2 BZ (eV 0) (eC (.str "9")))))))
theorem U3 (T:Txt K mg a):dD P w K mg base gx 1 a.t a.u ["sign"] (kr K a.ct [0] 0 qM) :=
 lf (ms:=mO [0]) T.q.fn λ_ _ _ _ _ _ hr nd=>(zh (lO (wu (Gh (wa (n:=0)) xv) (vx (k:=0) (Gh xv (wa (n:=0)))))))
noncomputable def vW:EF:=(eY (λρ=>((eV 0) ρ).bind NE) 1 [] (gV 0) i7 (eB (bOr (tb (cl nV (aCons (eV 0) aNil))) (tb (cl qM (aCons (eV 0) aNil))))))
noncomputable def tW:List D->Option D:=mOf ["word"]
  (sSeq (sIf (bOr (bNot (tb (e1 (sU "str") (eV 0)))) (bOr (tb (e2 qL (eN eW (aCons (eV 0) aNil)) (eC (.int 1)))) (tb (e2 qX (eN eW (aCons (eV 0) aNil)) (eC (.int 8)))))) (sRet (eC (.bl false))) sSkip)
  (sRet (eB (bAnd (tb (cl nV (aCons (e2 ed (eV 0) (eC (.int 0))) aNil))) (tb (eN GG (aCons vW aNil)))))))
theorem VD (T:Txt K mg a):dD P w K mg base gx 2 a.v a.x ["word"] (kr K a.ct [0] 0 tW) :=
 lf (ms:=mO [0]) T.r.fn λ_ _ _ _ _ _ hr nd=>(ze (oy (XW.t (CP (wc (yw (Gm (k:=0) (by decide) T.bd T.bk Re xv))) (CP (Cc (rq T.be (za xv zf)) dN) (u5 (Ad (rq T.be (za xv zf)) (Ii T.bq)))))) (lO (wp (n:=0)))) (zh (lO (wu (xc T.p (u6 T) hr (za (jF xv dN) zf)) (vx (k:=0) (ya (k:=0) (Wi rfl) Ze rfl T.a9 zru (za (jP (xI (N:=["sign"]) (om:=mO [0]) (cap:=[]) (own:=1) (XI.cc (zr9 (n:=0) xv)) (λ_ _ _ _ _ h=>(oF h)) (λ_ _ _ _ _=>yh) (λ_ _ _ _ _=>(XE.ow (ztq (xc T.p (u6 T) hr (za xv zf)) (vx (k:=0) (xc T.q (U3 T) hr (za xv zf)))))))) zf)))))))
noncomputable def sR:SF:=(sSeq (sIf (bOr (bNot (tb (cl tW (aCons (eV 2) aNil)))) (tb (λρ=>((eV 2) ρ).bind λx=>((eV 1) ρ).bind λy=>(jA y x).bind λr=>some (.bl r.isSome)))) (sRet (eC (.bl false))) sSkip)
  (mR 1 (eV 2) (eC (.bl true))))
noncomputable def lZ:List D->Option D:=mOf ["names","seen","name"]
  (sSeq (sIf (bOr (bNot (tb (e1 (sU "list") (eV 0)))) (bOr (tb (e2 qL (eN eW (aCons (eV 0) aNil)) (eC (.int 1)))) (tb (e2 qX (eN eW (aCons (eV 0) aNil)) (eC (.int 40)))))) (sRet (eC (.bl false))) sSkip)
  (sSeq (sSet 1 (eC (.dK [] [])))
  (sSeq (sFor (lsD (eV 0)) (gV 2) sR)
  (sRet (eC (.bl true))))))
theorem U4 (T:Txt K mg a):dD P w K mg base gx 3 a.y a.z ["names"] (kr K a.ct [0] 0 lZ) :=
 lf (ms:=mO [0,1,0]) T.s.fn λ_ _ _ _ _ _ hr nd=>(ze (oy (XW.t (CP (wc (yw (Gm (k:=0) (by decide) T.bd T.bf vm xv))) (CP (Cc (rq T.be (za xv zf)) dN) (u5 (Ad (rq T.be (za xv zf)) (Ii T.bp)))))) (lO (wp (n:=0)))) (ze (lP nd jd) (ze (xF (yz xv) (oE nd) (ze (oy (XW.t (CP (wc (yw (xc T.r (VD T) hr (za xv zf)))) (u5 (zsa (vq hr) xv xv (by with_unfolding_all rfl))))) (lO (wp (n:=0)))) (zh (JC 1 rfl (vq hr) xv (wp (n:=0)))))) (zh (lO (wp (n:=0)))))))
noncomputable def dW:List D->Option D:=mOf ["number","least","most"]
  (sSeq (sIf (bOr (bNot (tb (e1 (sU "int") (eV 0)))) (tb (e1 (sU "bool") (eV 0)))) (sRet (eC (.bl false))) sSkip)
  (sRet (eB (bAnd (tb (e2 BZ (eV 1) (eV 0))) (tb (e2 BZ (eV 0) (eV 2)))))))
theorem yt (T:Txt K mg a):dD P w K mg base gx 1 a.aa a.ab ["number","least","most"] (kr K a.ct [0,0,0] 0 dW) :=
 lf (ms:=mO [0,0,0]) T.t.fn λ_ _ _ _ _ _ hr nd=>(ze (oy (XW.t (CP (wc (yw (Gm (k:=0) (by decide) T.bd T.bc zrq xv))) (u5 (yw (Gm (k:=0) (by decide) T.bd T.ba Yg xv))))) (lO (wp (n:=0)))) (zh (lO (wu (Gh xv xv) (vx (k:=0) (Gh xv xv))))))
noncomputable def nj:List D->Option D:=mOf ["arrow","many","least","most"]
  (sSeq (sSet 2 (eIf (tb (e1 (BX [0,1,2,3,4,5] [3]) (eV 0))) (eC (.int 1)) (eC (.int 0))))
  (sSeq (sSet 3 (eIf (tb (e1 (BX [0,1,2,3,4,5] [1]) (eV 0))) (eC (.int 0)) (eC (.int 4))))
  (sSeq (sIf (bOr (bNot (tb (cl dW (aCons (e1 (dq [0,1,2,3] "start") (eV 0)) (aCons (eC (.int 0)) (aCons (e2 p6 (eV 1) (eC (.int 1))) aNil)))))) (bNot (tb (cl dW (aCons (e1 (dq [0,1,2,3] "goal") (eV 0)) (aCons (eC (.int 0)) (aCons (e2 p6 (eV 1) (eC (.int 1))) aNil))))))) (sRet (eC (.bl false))) sSkip)
  (sRet (eB (bAnd (tb (cl dW (aCons (e1 (dq [0,1,2,3] "time") (eV 0)) (aCons (eC (.int 0)) (aCons (eC (.int 1000000000)) aNil))))) (tb (cl dW (aCons (e1 (dq [0,1,2,3] "behind") (eV 0)) (aCons (eV 2) (aCons (eV 3) aNil)))))))))))
theorem Vf (T:Txt K mg a):dD P w K mg base gx 2 a.ac a.ad ["arrow","many"] (kr K a.ct [0,0] 0 nj) :=
 lf (ms:=mO [0,0,0,0]) T.u.fn λ_ _ _ _ _ _ hr nd=>(ze (kO nd (Io (yw (Qz (k:=0) T.a1 T.bd T.e.mgx xv)) dN dN)) (ze (kO nd (Io (yw (Qz (k:=0) T.a2 T.bd T.c.mgx xv)) dN (Ii T.bo))) (ze (oy (XW.t (CP (wc (yw (xc T.t (yt T) hr (za (jO xv T.aY) (za dN (za (sV xv dN) zf)))))) (u5 (wc (yw (xc T.t (yt T) hr (za (jO xv T.aV) (za dN (za (sV xv dN) zf))))))))) (lO (wp (n:=0)))) (zh (lO (wu (xc T.t (yt T) hr (za (jO xv T.aZ) (za dN (za (Ii T.br) zf)))) (vx (k:=0) (xc T.t (yt T) hr (za (jO xv T.aU) (za xv (za xv zf)))))))))))
noncomputable def gz:SF:=(sIf (tb (e2 (jV false) (e1 (dq [0,1,2,3] "start") (eV 4)) (eV 7))) (sSeq (vY 3 (e1 (dq [0,1,2,3] "goal") (eV 4)) (λi j=>i-j) (eC (.int 1)))
  (sIf (tb (e2 (jV false) (e2 ed (eV 3) (e1 (dq [0,1,2,3] "goal") (eV 4))) (eC (.int 0)))) (sApp 5 (e1 (dq [0,1,2,3] "goal") (eV 4))) sSkip)) sSkip)
noncomputable def kc:SF:=(sSeq (sSet 7 (e2 ed (eV 5) (eV 6)))
  (sSeq (sFor (lsD (eV 2)) (gV 4) gz)
  (AH 6 (i2 λi j=>.int (i+j)) (eC (.int 1)))))
noncomputable def ma:EF:=(eY (λρ=>((aCons (eV 0) aNil) ρ).bind kT) 1 [3] (gV 0) (tb (e2 (jV false) (e2 ed (eV 1) (eV 0)) (eC (.int 0)))) (eV 0))
noncomputable def kd:SF:=(vY 3 (e1 (dq [0,1,2,3] "goal") (eV 4)) (λi j=>i+j) (eC (.int 1)))
noncomputable def mh:EF:=(eY (lsD (eV 1)) 1 [] (gV 0) (tb (e2 (jV false) (e1 (dq [0,1,2,3] "behind") (eV 0)) (eC (.int 0)))) (eV 0))
noncomputable def gw:List D->Option D:=mOf ["many","arrows","within","waited","arrow","placed","done","here"]
  (sSeq (sSet 2 mh)
  (sSeq (sSet 3 (e2 p3 (λρ=>((aCons (eC (.int 0)) aNil) ρ).bind λds=>some (.lst ds)) (eV 0)))
  (sSeq (sFor (lsD (eV 2)) (gV 4) kd)
  (sSeq (sSet 5 ma)
  (sSeq (sSet 6 (eC (.int 0)))
  (sSeq (iy (tb (e2 qL (eV 6) (eN eW (aCons (eV 5) aNil)))) kc)
  (sRet (eV 5))))))))
theorem wg (T:Txt K mg a):dD P w K mg base gx 1 a.ae a.af ["many","arrows"] (kr K a.ct [0,0] 0 gw) :=
 lf (ms:=mO [0,0,0,1,0,1,0,0]) T.v.fn λ_ _ _ _ _ _ hr nd=>(ze (CO (k:=0) (N:=["arrow"]) (om:=mO [0]) (cap:=[]) (own:=1) nd (yb (n:=0) xv) (λ_ _ _ _ _ h=>(oF h)) (λ_ _ _ _ _=>(xm (Ac hr (jO xv T.aU) dN))) (λ_ _ _ _ _=>(XE.ow xv))) (ze (lP nd (JP (yy (k:=0) (zk (XE.ow dN) zu)) xv)) (ze (xF (yz xv) (oE nd) (zh (Qy 3 MZ rfl (jO xv T.aV) dN))) (ze (CO (k:=1) (N:=["going","waited"]) (om:=mO [0]) (cap:=[3]) (own:=1) nd (XI.cc (zy (n:=0) T.bi (za xv zf))) (λ_ _ _ _ _ h=>(oF h)) (λ_ _ _ _ _=>(xm (Ac hr (EW xv xv) dN))) (λ_ _ _ _ _=>(XE.ow xv))) (ze (kO nd dN) (ze (FC (Cc xv (rq T.be (za xv zf))) (ze (kO nd (EW xv xv)) (ze (xF (yz xv) (oE nd) (zh (Ek (Ac hr (jO xv T.aY) xv) (ze (Qy 3 zqw rfl (jO xv T.aV) dN) (zh (oy (Ac hr (EW xv (jO xv T.aV)) dN) (xo 5 rfl (XE.ow (jO xv T.aV)))))) wv))) (zh (Rp MZ rfl nd rfl (Or.inl rfl) dN))))) (zh (MQ (i:=5) rfl))))))))
noncomputable def jL:SF:=(sSeq (mR 4 (eV 3) (eN eW (aCons (eV 5) aNil)))
  (sSeq (sApp 5 (λρ=>((eV 1) ρ).bind λx=>((eV 3) ρ).bind λy=>(jA x y).join))
  (sSet 3 (e1 (dq [0,1,2,3] "start") (e2 ed (eV 0) (λρ=>((eV 1) ρ).bind λx=>((eV 3) ρ).bind λy=>(jA x y).join))))))
noncomputable def iS:List D->Option D:=mOf ["arrows","chosen","going","here","seen","way"]
  (sSeq (sSet 3 (eV 2))
  (sSeq (sSet 4 (eC (.dK [] [])))
  (sSeq (sSet 5 (λρ=>(aNil ρ).bind λds=>some (.lst ds)))
  (sSeq (iy (tb (λρ=>((eV 3) ρ).bind λx=>((eV 4) ρ).bind λy=>(jA y x).bind λr=>some (.bl (!r.isSome)))) jL)
  (sRet (e1 vR (λρ=>((eV 5) ρ).bind λd=>((pInt (λρ=>((eV 4) ρ).bind λx=>((eV 3) ρ).bind λy=>(jA x y).join)) ρ).bind λl=>(pNo ρ).bind λh=>oZ d l h)))))))
theorem ur (T:Txt K mg a):dD P w K mg base gx 1 a.ag a.ah ["arrows","chosen","going"] (kr K a.ct [0,0,0] 1 iS) :=
 lf (ms:=mO [0,0,0,0,1,1]) T.x.fn λ_ _ _ _ _ _ hr nd=>(ze (kO nd xv) (ze (lP nd jd) (ze (lP nd (yy (k:=0) zu)) (ze (FC (V4 (vq hr) xv xv (by with_unfolding_all rfl)) (ze (JC 4 rfl (vq hr) xv (rq T.be (za xv zf))) (ze (xo 5 rfl (XE.ow (Ik (vq hr) (yj 1 0) (yj 3 0) (λ_ _=>rfl)))) (zh (kO nd (jO (jF xv (Ik (vq hr) (yj 1 0) (yj 3 0) (λ_ _=>rfl))) T.aY)))))) (zh (yc (Qp (n:=0) (by decide) rfl rfl T.bf rfl T.bj (jP (Mr (n:=1) (by decide) xv (MO (Ik (vq hr) (yj 4 1) (yj 3 0) (λ_ _=>rfl))) Nu)))))))))
noncomputable def kh:SF:=(sSeq (sApp 5 (λρ=>((eV 1) ρ).bind λx=>((eV 4) ρ).bind λy=>(jA x y).join))
  (sSet 4 (e1 (dq [0,1,2,3] "start") (e2 ed (eV 0) (λρ=>((eV 1) ρ).bind λx=>((eV 4) ρ).bind λy=>(jA x y).join)))))
noncomputable def nu:List D->Option D:=mOf ["arrows","chosen","start","goal","here","way"]
  (sSeq (sSet 4 (eV 3))
  (sSeq (sSet 5 (λρ=>(aNil ρ).bind λds=>some (.lst ds)))
  (sSeq (iy (tb (e2 (jV true) (eV 4) (eV 2))) kh)
  (sRet (e1 vR (eV 5))))))
theorem Vg (T:Txt K mg a):dD P w K mg base gx 1 a.ai a.aj ["arrows","chosen","start","goal"] (kr K a.ct [0,0,0,0] 0 nu) :=
 lf (ms:=mO [0,0,0,0,0,1]) T.y.fn λ_ _ _ _ _ _ hr nd=>(ze (kO nd xv) (ze (lP nd (yy (k:=0) zu)) (ze (FC (Gg hr xv xv) (ze (xo 5 rfl (XE.ow (Ik (vq hr) (yj 1 0) (yj 4 0) (λ_ _=>rfl)))) (zh (kO nd (jO (jF xv (Ik (vq hr) (yj 1 0) (yj 4 0) (λ_ _=>rfl))) T.aY))))) (zh (yc (o9 (Qp (n:=1) (by decide) rfl rfl T.bf rfl T.bj xv)))))))
noncomputable def lG:SF:=(sIf (bNot (tb (cl nj (aCons (eV 4) (aCons (eN eW (aCons (eV 1) aNil)) aNil))))) se sSkip)
noncomputable def iO:Nat->List D->Option D:=CJ ["self","names","arrows","number","arrow","placed"]
  (sSeq (sIf (bOr (bNot (tb (cl lZ (aCons (eV 1) aNil)))) (tb (e2 qX (eN eW (aCons (eV 2) aNil)) (eC (.int 120))))) se sSkip)
  (sSeq (sFor (λρ=>((aCons (eV 2) aNil) ρ).bind λds=>match ds with|[.lst xs]=>some (hE 0 xs)|_=>none) (gT (gsCons (gV 3) (gsCons (gV 4) gsNil))) lG)
  (sSeq (sSet 5 (cl gw (aCons (eN eW (aCons (eV 1) aNil)) (aCons (eV 2) aNil))))
  (sSeq (sIf (tb (e2 qL (eN eW (aCons (eV 5) aNil)) (eN eW (aCons (eV 1) aNil)))) se sSkip)
  (sSeq (jE [4] "names" (eN oN (aCons (eV 1) aNil)))
  (jE [4] "arrows" (eN oN (aCons (eV 2) aNil))))))))
theorem ud (T:Txt K mg a):dD P w K mg base gx 4 a.ak a.al ["self","names","arrows"] (zJ K a.ct [4] [0,0] iO) :=
 Gb (ms:=mO [0,0,0,0,0]) (rk:=0) T.z.fn λ_ _ _ _ _ _ _ hr nd=>(ze (oy (XW.t (CP (wc (yw (xc T.s (U4 T) hr (za xv zf)))) (u5 (Ad (rq T.be (za xv zf)) (Ii T.bn))))) jf) (ze (xF (Qu T.bb (za xv zf)) (Gj (n:=1) rfl (zx (oE nd) (zx (oE nd) uk))) (zh (oy (wc (yw (xc T.u (Vf T) hr (za xv (za (rq T.be (za xv zf)) zf))))) jf))) (ze (lP nd (jG T.v (wg T) hr (za (rq T.be (za xv zf)) (za xv zf)))) (ze (oy (Cc (rq T.be (za xv zf)) (rq T.be (za xv zf))) jf) (ze (wf T.aW (jP (vz xk (jh (n:=0) (by decide)) rfl T.bf vm (za xv zf)))) (zh (wf T.aS (jP (vz xk (jh (n:=0) (by decide)) rfl T.bf vm (za xv zf))))))))))
noncomputable def iX:EF:=(eY (lsD (e1 (dq [4] "arrows") (eV 0))) 1 [] (gV 0) i7 (e1 (dq [0,1,2,3] "behind") (eV 0)))
noncomputable def dc:List D->Option D:=mOf ["self"]
  (sRet (eN oX (aCons (e2 gb (λρ=>((aCons (eC (.int 1)) aNil) ρ).bind λds=>some (.lst ds)) iX) aNil)))
theorem yo (T:Txt K mg a):dD P w K mg base gx 1 a.am a.an ["self"] (kr K a.ct [0] 0 dc) :=
 lf (ms:=mO [0]) T.aa.fn λ_ _ _ _ _ _ hr nd=>(zh (lO (ya (k:=0) (ub rfl) JB rfl T.bg u0 (za (jP (o4 (jP (yy (k:=0) (zk (XE.ow dN) zu))) (jP (xI (N:=["arrow"]) (om:=mO [0]) (cap:=[]) (own:=1) (yb (n:=0) (jO xv T.aS)) (λ_ _ _ _ _ h=>(oF h)) (λ_ _ _ _ _=>yh) (λ_ _ _ _ _=>(XE.ow (jO xv T.aU))))))) zf))))
noncomputable def nv:EF:=(eY (λρ=>((aCons (e1 (dq [4] "arrows") (eV 0)) aNil) ρ).bind λds=>match ds with|[.lst xs]=>some (hE 0 xs)|_=>none) 2 [1] (gT (gsCons (gV 0) (gsCons (gV 1) gsNil))) (tb (e2 (jV false) (e1 (dq [0,1,2,3] "goal") (eV 1)) (eV 2))) (eV 0))
noncomputable def lI:List D->Option D:=mOf ["self","going"]
  (sRet nv)
theorem Vh (T:Txt K mg a):dD P w K mg base gx 1 a.ao a.ap ["self","going"] (kr K a.ct [0,0] 0 lI) :=
 lf (ms:=mO [0,0]) T.ab.fn λ_ _ _ _ _ _ hr nd=>(zh (yc (o9 (xI (N:=["number","arrow","going"]) (om:=mO [0,0]) (cap:=[1]) (own:=2) (P2 (n:=0) T.bb (za (jO xv T.aS) zf)) (λ_ _ _ _ _ h=>(Jy (n:=1) rfl (yf (oF h) (yf (oF h) jg)))) (λ_ _ _ _ _=>(xm (Ac hr (jO xv T.aV) xv))) (λ_ _ _ _ _=>(XE.ow xv))))))
noncomputable def lY:List D->Option D:=mOf ["self"]
  (sRet (cl gw (aCons (eN eW (aCons (e1 (dq [4] "names") (eV 0)) aNil)) (aCons (e1 (dq [4] "arrows") (eV 0)) aNil))))
theorem U5 (T:Txt K mg a):dD P w K mg base gx 2 a.aq a.ar ["self"] (kr K a.ct [0] 0 lY) :=
 lf (ms:=mO [0]) T.ac.fn λ_ _ _ _ _ _ hr nd=>(zh (yc (jG T.v (wg T) hr (za (rq T.be (za (jO xv T.aW) zf)) (za (jO xv T.aS) zf)))))
noncomputable def pG:List D->Option D:=mOf ["one","other"]
  (sSeq (sIf (tb (e2 (tT false) (eV 0) (eC .non))) (sRet (eV 1)) sSkip)
  (sSeq (sIf (tb (e2 (tT false) (eV 1) (eC .non))) (sRet (eV 0)) sSkip)
  (sRet (eN tX (aCons (eV 0) (aCons (eV 1) aNil))))))
theorem V8 (T:Txt K mg a):dD P w K mg base gx 1 a.au a.av ["one","other"] (kr K a.ct [0,0] 0 pG) :=
 lf (ms:=mO [0,0]) T.ad.fn λ_ _ _ _ _ _ hr nd=>(ze (oy (Ef xv uY) (lO xv)) (ze (oy (Ef xv uY) (lO xv)) (zh (lO (ya (k:=0) (jq rfl) Ms rfl T.bg u0 (za xv (za xv zf)))))))
noncomputable def jK:SF:=(sSeq (sSet 2 (e2 gW (eV 0) (eV 1)))
  (sSeq (sSet 0 (eV 1))
  (sSet 1 (eV 2))))
noncomputable def iP:List D->Option D:=mOf ["one","other","rest"]
  (sSeq (iy (tb (e2 (jV true) (eV 1) (eC (.int 0)))) jK)
  (sRet (eN Ew (aCons (eV 0) aNil))))
theorem ut (T:Txt K mg a):dD P w K mg base gx 1 a.aw a.ax ["one","other"] (kr K a.ct [0,0] 0 iP) :=
 lf (ms:=mO [0,0,0]) T.ae.fn λ_ _ _ _ _ _ hr nd=>(ze (FC (Gg hr xv dN) (ze (kO nd (oMod xv xv)) (ze (kO nd xv) (zh (kO nd xv))))) (zh (lO (ya (k:=0) WM Y9 rfl T.a8 zrs (za xv zf)))))
noncomputable def lh:List D->Option D:=mOf ["top","bottom","divisor"]
  (sSeq (sSet 2 (cl iP (aCons (eV 0) (aCons (eV 1) aNil))))
  (sSeq (sIf (tb (e2 qL (eV 1) (eC (.int 0)))) (sSet 2 (e1 vU (eV 2))) sSkip)
  (sRet (λρ=>((aCons (e2 hJ (eV 0) (eV 2)) (aCons (e2 hJ (eV 1) (eV 2)) aNil)) ρ).bind λds=>some (.tup ds)))))
theorem vi (T:Txt K mg a):dD P w K mg base gx 2 a.ay a.az ["top","bottom"] (kr K a.ct [0,0] 0 lh) :=
 lf (ms:=mO [0,0,0]) T.af.fn λ_ _ _ _ _ _ hr nd=>(ze (lP nd (jG T.ae (ut T) hr (za xv (za xv zf)))) (ze (oy (Cc xv dN) (kO nd (Gk (k:=0) xv))) (zh (yc (o9 (yx (zk (XE.ow (oDiv xv xv)) (zk (XE.ow (oDiv xv xv)) zu))))))))
noncomputable def pI:List D->Option D:=mOf ["one","whole"]
  (sRet (cl lh (aCons (e2 fD (e2 ed (eV 0) (eC (.int 0))) (eV 1)) (aCons (e2 ed (eV 0) (eC (.int 1))) aNil))))
theorem V9 (T:Txt K mg a):dD P w K mg base gx 3 a.aA a.aB ["one","whole"] (kr K a.ct [0,0] 0 pI) :=
 lf (ms:=mO [0,0]) T.ag.fn λ_ _ _ _ _ _ hr nd=>(zh (yc (jG T.af (vi T) hr (za (kR (jF xv dN) xv) (za (jF xv dN) zf)))))
noncomputable def rV:List D->Option D:=mOf ["one","other"]
  (sRet (cl lh (aCons (e2 gb (e2 fD (e2 ed (eV 0) (eC (.int 0))) (e2 ed (eV 1) (eC (.int 1)))) (e2 fD (e2 ed (eV 1) (eC (.int 0))) (e2 ed (eV 0) (eC (.int 1))))) (aCons (e2 fD (e2 ed (eV 0) (eC (.int 1))) (e2 ed (eV 1) (eC (.int 1)))) aNil))))
theorem Qr (T:Txt K mg a):dD P w K mg base gx 3 a.aC a.aD ["one","other"] (kr K a.ct [0,0] 0 rV) :=
 lf (ms:=mO [0,0]) T.ah.fn λ_ _ _ _ _ _ hr nd=>(zh (yc (jG T.af (vi T) hr (za (jP (o4 (kR (jF xv dN) (jF xv dN)) (kR (jF xv dN) (jF xv dN)))) (za (kR (jF xv dN) (jF xv dN)) zf)))))
noncomputable def oo:List D->Option D:=mOf ["one","other"]
  (sRet (cl rV (aCons (eV 0) (aCons (cl pI (aCons (eV 1) (aCons (e1 vU (eC (.int 1))) aNil))) aNil))))
theorem Xy (T:Txt K mg a):dD P w K mg base gx 4 a.aE a.aF ["one","other"] (kr K a.ct [0,0] 0 oo) :=
 lf (ms:=mO [0,0]) T.ai.fn λ_ _ _ _ _ _ hr nd=>(zh (yc (jG T.ah (Qr T) hr (za xv (za (xc T.ag (V9 T) hr (za xv (za (Gk (k:=0) dN) zf))) zf)))))
noncomputable def oq:List D->Option D:=mOf ["one","other"]
  (sRet (e2 qL (e2 fD (e2 ed (eV 0) (eC (.int 0))) (e2 ed (eV 1) (eC (.int 1)))) (e2 fD (e2 ed (eV 1) (eC (.int 0))) (e2 ed (eV 0) (eC (.int 1))))))
theorem Xz (T:Txt K mg a):dD P w K mg base gx 1 a.aG a.aH ["one","other"] (kr K a.ct [0,0] 0 oq) :=
 lf (ms:=mO [0,0]) T.aj.fn λ_ _ _ _ _ _ hr nd=>(zh (lO (UD (kR (jF xv dN) (jF xv dN)) (kR (jF xv dN) (jF xv dN)))))
noncomputable def rZ:EF:=(eY (lsD (eV 1)) 1 [0] (gV 0) i7 (e1 (dq [0,1,2,3] "behind") (e2 ed (e1 (dq [4] "arrows") (eV 1)) (eV 0))))
noncomputable def sd:EF:=(eY (lsD (eV 1)) 1 [0] (gV 0) i7 (e1 (dq [0,1,2,3] "time") (e2 ed (e1 (dq [4] "arrows") (eV 1)) (eV 0))))
noncomputable def nq:List D->Option D:=mOf ["net","ring","times","behinds"]
  (sSeq (sSet 2 (eN wK (aCons sd aNil)))
  (sSeq (sSet 3 (eN wK (aCons rZ aNil)))
  (sRet (cl lh (aCons (eV 2) (aCons (eV 3) aNil))))))
theorem MS (T:Txt K mg a):dD P w K mg base gx 3 a.aI a.aJ ["net","ring"] (kr K a.ct [0,0] 0 nq) :=
 lf (ms:=mO [0,0,0,0]) T.ak.fn λ_ _ _ _ _ _ hr nd=>(ze (kO nd (ya (k:=0) (ua rfl) JA rfl T.bl JL (za (jP (xI (N:=["number","net"]) (om:=mO [0]) (cap:=[0]) (own:=1) (yb (n:=0) xv) (λ_ _ _ _ _ h=>(oF h)) (λ_ _ _ _ _=>yh) (λ_ _ _ _ _=>(XE.ow (jO (jF (jO xv T.aS) xv) T.aZ))))) zf))) (ze (kO nd (ya (k:=0) (ua rfl) JA rfl T.bl JL (za (jP (xI (N:=["number","net"]) (om:=mO [0]) (cap:=[0]) (own:=1) (yb (n:=0) xv) (λ_ _ _ _ _ h=>(oF h)) (λ_ _ _ _ _=>yh) (λ_ _ _ _ _=>(XE.ow (jO (jF (jO xv T.aS) xv) T.aU))))) zf))) (zh (yc (jG T.af (vi T) hr (za xv (za xv zf)))))))
noncomputable def eM:SF:=(sSeq (sSet 7 (e2 ed (e1 (dq [4] "arrows") (eV 0)) (eV 6)))
  (sSeq (sSet 8 (e2 p6 (e2 gb (e2 ed (eV 3) (e1 (dq [0,1,2,3] "start") (eV 7))) (e2 fD (e1 (dq [0,1,2,3] "time") (eV 7)) (e2 ed (eV 1) (eC (.int 1))))) (e2 fD (e1 (dq [0,1,2,3] "behind") (eV 7)) (e2 ed (eV 1) (eC (.int 0))))))
  (sIf (tb (e2 qX (eV 8) (e2 ed (eV 3) (e1 (dq [0,1,2,3] "goal") (eV 7))))) (sSeq (vZ 3 (e1 (dq [0,1,2,3] "goal") (eV 7)) (eV 8))
  (sSeq (mR 4 (e1 (dq [0,1,2,3] "goal") (eV 7)) (eV 6))
  (sSet 5 (e1 (dq [0,1,2,3] "goal") (eV 7))))) sSkip)))
noncomputable def gR:List D->Option D:=E3 3 ["net","pace","numbers","times","chosen","pushed","number","arrow","earliest"]
  (Dg (sSet 5 (eC .non))
  (Dg (sFor (lsD (eV 2)) (gV 6) eM)
  (E4 (eV 5))))
theorem U6 (T:Txt K mg a):dD P w K mg base gx 1 a.aK a.aL ["net","pace","numbers","times","chosen"] (FJ K a.ct 3 gR):=by refine W5 (n:=3) (ms:=mO [0,0,0,0]) T.al.fn yn rfl rfl λxa xb jS A outer s H E hr=>?_;exact(Qq (kO yn.nd uY) (Qq (xF (yz xv) (oE yn.nd) (ze (kO yn.nd (jF (jO xv T.aS) xv)) (ze (kO yn.nd (sV (jP (o4 (EW xv (jO xv T.aY)) (kR (jO xv T.aZ) (jF xv dN)))) (kR (jO xv T.aU) (jF xv dN)))) (zh (Ek (Ad xv (EW xv (jO xv T.aV))) (ze (W3 3 rfl (jO xv T.aV) xv) (ze (W4 4 rfl (vq hr) (jO xv T.aV) xv) (zh (kO yn.nd (jO xv T.aV))))) wv))))) (zsc xv)))
noncomputable def jQ:EF:=(eY (lsD (eV 3)) 1 [1] (gV 0) i7 (cl lh (aCons (eV 0) (aCons (e2 ed (eV 1) (eC (.int 1))) aNil))))
noncomputable def fI:SF:=(sSeq (t6 5 (rO 3 4 (aCons (eV 0) (aCons (eV 1) (aCons (eV 2) aNil))) gR))
  (sIf (tb (e2 (tT false) (eV 5) (eC .non))) (sFz 3 (sRet (λρ=>((aCons (Ez (eC (.str "times"))) (aCons jQ aNil)) ρ).bind λds=>some (.tup ds)))) sSkip))
noncomputable def eh:List D->Option D:=mOf ["net","pace","numbers","times","chosen","pushed","count"]
  (sSeq (sSet 3 (e2 p3 (λρ=>((aCons (eC (.int 0)) aNil) ρ).bind λds=>some (.lst ds)) (eN eW (aCons (e1 (dq [4] "names") (eV 0)) aNil))))
  (sSeq (sSet 4 (eC (.dK [] [])))
  (sSeq (sSet 5 (eC .non))
  (sSeq (sFor (λρ=>((aCons (eN eW (aCons (e1 (dq [4] "names") (eV 0)) aNil)) aNil) ρ).bind kT) (gV 6) fI)
  (sFz 4 (sRet (λρ=>((aCons (Ez (eC (.str "ring"))) (aCons (cl iS (aCons (e1 (dq [4] "arrows") (eV 0)) (aCons (eV 4) (aCons (eV 5) aNil)))) aNil)) ρ).bind λds=>some (.tup ds))))))))
theorem yq (T:Txt K mg a):dD P w K mg base gx 3 a.aM a.aN ["net","pace","numbers"] (kr K a.ct [0,0,0] 2 eh) :=
 lf (ms:=mO [0,0,0,1,1,0,0]) T.am.fn λ_ _ _ _ _ _ hr nd=>(ze (lP nd (JP (yy (k:=0) (zk (XE.ow dN) zu)) (rq T.be (za (jO xv T.aW) zf)))) (ze (lP nd jd) (ze (kO nd uY) (ze (xF (zy (n:=0) T.bi (za (rq T.be (za (jO xv T.aW) zf)) zf)) (oE nd) (ze (Zt rfl nd rfl (Or.inl rfl) (Zs (i:=3) (j:=4) (by decide) rfl rfl (U6 T) (hr.mono (by decide)) rfl T.al.mgx T.al.fn.kp T.al.bd .nil (MR (MR (MR zsd))) (Mt xv (Mt xv (Mt xv (Zr (i:=3) (j:=4))))))) (zh (Ek (Ef xv uY) (JQ (i:=3) rfl (zh (yc (yx (zk (RJ (wa (n:=0))) (zk (xI (N:=["time","pace"]) (om:=mO [0]) (cap:=[1]) (own:=1) (yb (n:=0) xv) (λ_ _ _ _ _ h=>(oF h)) (λ_ _ _ _ _=>yh) (λ_ _ _ _ _=>(jG T.af (vi T) hr (za xv (za (jF xv dN) zf))))) zu)))))) wv)))) (JQ (i:=4) rfl (zh (yc (yx (zk (RJ (wa (n:=0))) (zk (jG T.x (ur T) hr (za (jO xv T.aS) (za xv (za xv zf)))) zu))))))))))
noncomputable def gU:List D->Option D:=mOf ["net","pace","numbers","found"]
  (sSeq (sSet 3 (cl eh (aCons (eV 0) (aCons (eV 1) (aCons (eV 2) aNil)))))
  (sRet (eIf (tb (e2 (jV false) (e2 ed (eV 3) (eC (.int 0))) (eC (.str "ring")))) (e2 ed (eV 3) (eC (.int 1))) (eC .non))))
theorem ue (T:Txt K mg a):dD P w K mg base gx 4 a.aO a.aP ["net","pace","numbers"] (kr K a.ct [0,0,0] 0 gU) :=
 lf (ms:=mO [0,0,0,0]) T.an.fn λ_ _ _ _ _ _ hr nd=>(ze (lP nd (o9 (jG T.am (yq T) hr (za xv (za xv (za xv zf)))))) (zh (lO (Io (Ac hr (jF xv dN) (wa (n:=0))) (jF xv dN) uY))))
noncomputable def pH:List D->Option D:=mOf ["one","other","total"]
  (sSeq (sSet 2 (cl rV (aCons (eV 0) (aCons (eV 1) aNil))))
  (sRet (cl lh (aCons (e2 ed (eV 2) (eC (.int 0))) (aCons (e2 fD (e2 ed (eV 2) (eC (.int 1))) (eC (.int 2))) aNil)))))
theorem Wp (T:Txt K mg a):dD P w K mg base gx 4 a.aQ a.aR ["one","other"] (kr K a.ct [0,0] 0 pH) :=
 lf (ms:=mO [0,0,0]) T.ao.fn λ_ _ _ _ _ _ hr nd=>(ze (lP nd (jG T.ah (Qr T) hr (za xv (za xv zf)))) (zh (yc (jG T.af (vi T) hr (za (jF xv dN) (za (kR (jF xv dN) dN) zf))))))
noncomputable def l6:List D->Option D:=mOf ["net","most"]
  (sSeq (sSet 1 (e2 fD (eN eW (aCons (e1 (dq [4] "names") (eV 0)) aNil)) (λρ=>((eV 0) ρ).bind λo=>li 4 "most_behind" dc o [])))
  (sRet (cl lh (aCons (eC (.int 1)) (aCons (e2 fD (eV 1) (eV 1)) aNil)))))
theorem U7 (T:Txt K mg a):dD P w K mg base gx 3 a.aS a.aT ["net"] (kr K a.ct [0] 0 l6) :=
 lf (ms:=mO [0,0]) T.ap.fn λ_ _ _ _ _ _ hr nd=>(ze (kO nd (kR (rq T.be (za (jO xv T.aW) zf)) (jP (je (n:=0) (c0:=4) (nd:=[]) (pQ:=[]) xv T.f.cl T.aa.me (yo T) (hr.mono (by decide)) T.aa.bd .nil (λ_ _=>.nil))))) (zh (yc (jG T.af (vi T) hr (za dN (za (kR xv xv) zf))))))
noncomputable def iB:SF:=(sSeq (sSet 5 (cl pH (aCons (cl nq (aCons (eV 0) (aCons (eV 2) aNil))) (aCons (eV 3) aNil))))
  (sSeq (sSet 6 (cl gU (aCons (eV 0) (aCons (eV 5) (aCons (eV 1) aNil)))))
  (sIf (tb (e2 (tT false) (eV 6) (eC .non))) (sSet 3 (eV 5)) (sSet 2 (eV 6)))))
noncomputable def l9:EF:=(eY (lsD (eV 1)) 1 [0] (gV 0) i7 (e1 (dq [0,1,2,3] "time") (e2 ed (e1 (dq [4] "arrows") (eV 1)) (eV 0))))
noncomputable def hV:List D->Option D:=mOf ["net","numbers","ring","ceiling","gap","middle","better"]
  (sSeq (sSet 2 (cl gU (aCons (eV 0) (aCons (λρ=>((aCons (e1 vU (eC (.int 1))) (aCons (eC (.int 1)) aNil)) ρ).bind λds=>some (.tup ds)) (aCons (eV 1) aNil)))))
  (sSeq (sIf (tb (e2 (tT false) (eV 2) (eC .non))) (sRet (eC .non)) sSkip)
  (sSeq (sSet 3 (λρ=>((aCons (eN wK (aCons l9 aNil)) (aCons (eC (.int 1)) aNil)) ρ).bind λds=>some (.tup ds)))
  (sSeq (sSet 4 (cl l6 (aCons (eV 0) aNil)))
  (sSeq (iy (bNot (tb (cl oq (aCons (cl oo (aCons (eV 3) (aCons (cl nq (aCons (eV 0) (aCons (eV 2) aNil))) aNil))) (aCons (eV 4) aNil))))) iB)
  (sRet (eV 2)))))))
theorem u8 (T:Txt K mg a):dD P w K mg base gx 5 a.aU a.aV ["net","numbers"] (kr K a.ct [0,0] 0 hV) :=
 lf (ms:=mO [0,0,0,0,0,0,0]) T.aq.fn λ_ _ _ _ _ _ hr nd=>(ze (lP nd (jG T.an (ue T) hr (za xv (za (jP (yx (zk (XE.ow (Gk (k:=0) dN)) (zk (XE.ow dN) zu)))) (za xv zf))))) (ze (oy (Ef xv uY) (lO uY)) (ze (lP nd (o9 (yx (zk (XE.ow (ya (k:=0) (ua rfl) JA rfl T.bl JL (za (jP (xI (N:=["number","net"]) (om:=mO [0]) (cap:=[0]) (own:=1) (yb (n:=0) xv) (λ_ _ _ _ _ h=>(oF h)) (λ_ _ _ _ _=>yh) (λ_ _ _ _ _=>(XE.ow (jO (jF (jO xv T.aS) xv) T.aZ))))) zf))) (zk (XE.ow dN) zu))))) (ze (lP nd (jG T.ap (U7 T) hr (za xv zf))) (ze (FC (wc (yw (xc T.aj (Xz T) hr (za (xc T.ai (Xy T) hr (za xv (za (xc T.ak (MS T) hr (za xv (za xv zf))) zf))) (za xv zf))))) (ze (lP nd (jG T.ao (Wp T) hr (za (xc T.ak (MS T) hr (za xv (za xv zf))) (za xv zf)))) (ze (lP nd (jG T.an (ue T) hr (za xv (za xv (za xv zf))))) (zh (Ek (Ef xv uY) (zh (kO nd xv)) (zh (kO nd xv))))))) (zh (lO xv)))))))
noncomputable def gG:List D->Option D:=mOf ["net","numbers","ring","pace"]
  (sSeq (sSet 2 (cl hV (aCons (eV 0) (aCons (eV 1) aNil))))
  (sSeq (sIf (tb (e2 (tT false) (eV 2) (eC .non))) (sRet (eC .non)) sSkip)
  (sSeq (sSet 3 (cl nq (aCons (eV 0) (aCons (eV 2) aNil))))
  (sRet (λρ=>((aCons (eV 3) (aCons (eV 2) (aCons (e2 ed (cl eh (aCons (eV 0) (aCons (eV 3) (aCons (eV 1) aNil)))) (eC (.int 1))) aNil))) ρ).bind λds=>some (.tup ds))))))
theorem UM (T:Txt K mg a):dD P w K mg base gx 6 a.aW a.aX ["net","numbers"] (kr K a.ct [0,0] 0 gG) :=
 lf (ms:=mO [0,0,0,0]) T.ar.fn λ_ _ _ _ _ _ hr nd=>(ze (lP nd (jG T.aq (u8 T) hr (za xv (za xv zf)))) (ze (oy (Ef xv uY) (lO uY)) (ze (lP nd (jG T.ak (MS T) hr (za xv (za xv zf)))) (zh (yc (o9 (yx (zk (XE.ow xv) (zk (XE.ow xv) (zk (XE.ow (jF (xc T.am (yq T) hr (za xv (za xv (za xv zf)))) dN)) zu))))))))))
noncomputable def kF:List D->Option D:=mOf ["net"]
  (sRet (cl gG (aCons (eV 0) (aCons (eN qK (aCons (eN eW (aCons (e1 (dq [4] "arrows") (eV 0)) aNil)) aNil)) aNil))))
theorem UN (T:Txt K mg a):dD P w K mg base gx 7 a.aY a.aZ ["net"] (kr K a.ct [0] 0 kF) :=
 lf (ms:=mO [0]) T.au.fn λ_ _ _ _ _ _ hr nd=>(zh (yc (jG T.ar (UM T) hr (za xv (za (jP (QB rfl rfl T.bf rfl T.bi (za (rq T.be (za (jO xv T.aS) zf)) zf))) zf)))))
noncomputable def jZ:SF:=(mR 1 (λρ=>((aCons (eV 2) (aCons (eV 3) aNil)) ρ).bind λds=>some (.tup ds)) (cl pG (aCons (λρ=>((eV 1) ρ).bind λx=>((λρ=>((aCons (eV 2) (aCons (eV 3) aNil)) ρ).bind λds=>some (.tup ds)) ρ).bind λy=>(jA x y).bind λr=>some (r.getD .non)) (aCons (eV 4) aNil))))
noncomputable def jJ:List D->Option D:=mOf ["told","greatest","going","number","amount"]
  (sSeq (sSet 1 (eC (.dT [] [])))
  (sSeq (sFor (lsD (eV 0)) (gT (gsCons (gV 2) (gsCons (gV 3) (gsCons (gV 4) gsNil)))) jZ)
  (sRet (eV 1))))
theorem u9 (T:Txt K mg a):dD P w K mg base gx 2 a.a0 a.a1 ["told"] (kr K a.ct [0] 0 jJ) :=
 lf (ms:=mO [0,1,0,0,0]) T.av.fn λ_ _ _ _ _ _ hr nd=>(ze (lP nd WC) (ze (xF (yz xv) (Gj (n:=0) rfl (zx (oE nd) (zx (oE nd) (zx (oE nd) uk)))) (zh (JC 1 rfl (vq hr) (jP (yx (zk (XE.ow xv) (zk (XE.ow xv) zu)))) (xc T.ad (V8 T) hr (za (YZ (n:=1) (vq hr) (yj 1 1) (jP (yx (zk (XE.ow xv) (zk (XE.ow xv) zu)))) ⟨rfl,rfl,rfl,rfl⟩) (za xv zf)))))) (zh (MQ (i:=1) rfl))))
noncomputable def dL:List D->Option D:=mOf ["self","arrow","link"]
  (sSeq (sSet 2 (e2 ed (e1 (dq [4] "arrows") (e1 (dq [5] "net") (eV 0))) (eV 1)))
  (sRet (e2 p6 (e2 p6 (e2 gb (e2 ed (e1 (dq [5] "times") (eV 0)) (e1 (dq [0,1,2,3] "goal") (eV 2))) (e2 fD (e1 (dq [5] "beat") (eV 0)) (e1 (dq [0,1,2,3] "behind") (eV 2)))) (e2 ed (e1 (dq [5] "times") (eV 0)) (e1 (dq [0,1,2,3] "start") (eV 2)))) (e1 (dq [0,1,2,3] "time") (eV 2)))))
theorem yk (T:Txt K mg a):dD P w K mg base gx 1 a.a2 a.a3 ["self","arrow"] (kr K a.ct [1,0] 0 dL) :=
 lf (ms:=[.al 1,.ow 0,.ow 0]) T.aw.fn λ_ _ _ _ _ _ hr nd=>(ze (kO nd (jF (jO (ID xv T.aX) T.aS) xv)) (zh (lO (sV (sV (jP (o4 (jF (ID xv T.a0) (jO xv T.aV)) (kR (ID xv T.aT) (jO xv T.aU)))) (jF (ID xv T.a0) (jO xv T.aY))) (jO xv T.aZ)))))
theorem qf (T:Txt K mg a):dD P w K mg base gx 1 a.a4 a.a5 ["self","arrow"] (Av "arrow" a.i) :=
 Xw (kk:=0) T.ax.fn j9 T.a4 T.a5 λjS A outer s H E=>⟨_,λ_ _ _ _ h1 h2 h3=>Uz h1 h2 h3,jb (jp (WX (B:=a.h) rfl T.h T.a6.1 T.a6.2.1 T.a6.2.2 (yp (i:=0) rfl (Or.inl rfl)) (YF (Mj PV (Mj (ztk (yp (i:=1) rfl (Or.inl rfl))) (Mj PV YE)))))) (Jw (YD (yp (i:=0) rfl (Or.inl rfl)) (yp (i:=1) rfl (Or.inl rfl))))⟩
noncomputable def kA:SF:=(sIf (tb (e2 qL (λρ=>((eV 0) ρ).bind λo=>((aCons (eV 4) aNil) ρ).bind λds=>li 5 "slack" dL o (ds++[])) (eC (.int 0)))) se sSkip)
noncomputable def iJ:Nat->List D->Option D:=CJ ["self","net","times","beat","number"]
  (sSeq (jE [5] "net" (eV 1))
  (sSeq (jE [5] "times" (eN oN (aCons (eV 2) aNil)))
  (sSeq (jE [5] "beat" (eV 3))
  (sFor (λρ=>((aCons (eN eW (aCons (e1 (dq [4] "arrows") (eV 1)) aNil)) aNil) ρ).bind kT) (gV 4) kA))))
theorem wz (T:Txt K mg a):dD P w K mg base gx 3 a.a6 a.a7 ["self","net","times","beat"] (zJ K a.ct [5] [0,0,0] iJ) :=
 Gb (ms:=mO [0,0,0,0]) (rk:=0) T.ay.fn λ_ _ _ _ _ _ _ hr nd=>(ze (wf T.aX xv) (ze (wf T.a0 (jP (vz xk (jh (n:=0) (by decide)) rfl T.bf vm (za xv zf)))) (ze (wf T.aT xv) (zh (xF (zy (n:=0) T.bi (za (rq T.be (za (jO xv T.aS) zf)) zf)) (oE nd) (zh (oy (Cc (jP (uj (n:=1) (c0:=5) (ns:=[0]) (nd:=[]) (pQ:=[]) xv T.g.cl T.aw.me (yk T) (hr.mono (by decide)) T.aw.bd .nil (λ_ _=>.nil) (za xv zf))) dN) jf)))))))
noncomputable def fH:qW:=(sIfX (tb (e2 qL (λρ=>((eV 0) ρ).bind λo=>((aCons (eV 4) aNil) ρ).bind λds=>li 5 "slack" dL o (ds++[])) (eC (.int 0)))) (sRaise (λρ=>((eV 4) ρ).bind λd=>(xX d).bind λd=>some (.exc 9 ["arrow"] [d]))) (xOf sSkip))
noncomputable def gu:Nat->List D->Option sQ:=C9 ["self","net","times","beat","number"]
  (sSeqX (xOf (jE [5] "net" (eV 1)))
  (sSeqX (xOf (jE [5] "times" (eN oN (aCons (eV 2) aNil))))
  (sSeqX (xOf (jE [5] "beat" (eV 3)))
  (sForX (λρ=>((aCons (eN eW (aCons (e1 (dq [4] "arrows") (eV 1)) aNil)) aNil) ρ).bind kT) (gV 4) fH))))
theorem ja (T:Txt K mg a):dD P w K mg base (DK P w) 3 a.a6 a.a7 ["self","net","times","beat"] (Au K a.ct [5] [0,0,0] gu):=by
 have rK:=qf (P:=P) (w:=w) (base:=base) T;have sP:=yk (P:=P) (w:=w) (base:=base) T;refine VC (ms:=mO [0,0,0,0]) (rk:=0) T.ay.fn wy rfl rfl (by decide) (v7 (by decide)) λx0 jS A outer s H E hr=>?_;exact(j8 (M8 (wf T.aX (yj 1 0)))
  (j8 (M8 (wf T.a0 (XO.sh (n:=0) (vz xk (jh (n:=0) (by decide)) rfl T.bf vm (za (yj 2 0) zf)))))
  (j8 (M8 (wf T.aT (yj 3 0)))
  (jk (Zv (zy (n:=0) T.bi (za (rq T.be (za (M9 (n:=0) (yj 1 0) T.aS rfl) zf)) zf)) (oE wy.nd) (jk (zse (wq (k:=0) Nt Na (XO.sh (n:=0) (uj (n:=1) (c0:=5) (ns:=[0]) (nd:=[]) (pQ:=[]) (yj 0 1) T.g.cl T.aw.me sP (hr.mono (by decide)) T.aw.bd .nil (λ_ _=>.nil) (za (yj 4 0) zf))) dN (km _)) (jk (V6 rfl VT (W7 (c0:=9) (fn:="arrow") T.a4 T.a3 T.ax.me.at_ T.ax.me.fn rK (hr.mono (by decide)) T.i T.ax.bd (yj 4 0)))) (Zu wv))) gI.leaving rfl)))))
noncomputable def fZ:SF:=(sIf (tb (e2 (inD true) (eV 4) (eV 2))) (sSeq (sSet 5 (e2 ed (e1 (dq [4] "arrows") (e1 (dq [5] "net") (eV 0))) (eV 4)))
  (sApp 3 (λρ=>((aCons (e1 (dq [0,1,2,3] "start") (eV 5)) (aCons (e1 (dq [0,1,2,3] "behind") (eV 5)) (aCons (λρ=>((eV 0) ρ).bind λo=>((aCons (eV 4) aNil) ρ).bind λds=>li 5 "slack" dL o (ds++[])) aNil))) ρ).bind λds=>some (.tup ds)))) sSkip)
noncomputable def kj:List D->Option D:=mOf ["table","going","left_out","links","number","arrow"]
  (sSeq (sSet 3 (λρ=>(aNil ρ).bind λds=>some (.lst ds)))
  (sSeq (sFor (lsD (λρ=>((e1 (dq [5] "net") (eV 0)) ρ).bind λo=>((aCons (eV 1) aNil) ρ).bind λds=>li 4 "into" lI o (ds++[]))) (gV 4) fZ)
  (sRet (eV 3))))
theorem UV (T:Txt K mg a):dD P w K mg base gx 2 a.a8 a.a9 ["table","going","left_out"] (kr K a.ct [0,0,0] 0 kj) :=
 lf (ms:=mO [0,0,0,1,0,0]) T.az.fn λ_ _ _ _ _ _ hr nd=>(ze (lP nd (yy (k:=0) zu)) (ze (xF (yz (jP (uj (n:=0) (c0:=4) (ns:=[0]) (nd:=[]) (pQ:=[]) (jO xv T.aX) T.f.cl T.ab.me (Vh T) (hr.mono (by decide)) T.ab.bd .nil (λ_ _=>.nil) (za xv zf)))) (oE nd) (zh (Ek (wq (k:=0) ux Rl xv xv (by with_unfolding_all rfl)) (ze (kO nd (jF (jO (jO xv T.aX) T.aS) xv)) (zh (xo 3 rfl (o9 (yx (zk (XE.ow (jO xv T.aY)) (zk (XE.ow (jO xv T.aU)) (zk (uj (n:=1) (c0:=5) (ns:=[0]) (nd:=[]) (pQ:=[]) (XE.up xv (by decide:0<=1)) T.g.cl T.aw.me (yk T) (hr.mono (by decide)) T.aw.bd .nil (λ_ _=>.nil) (za xv zf)) zu)))))))) wv))) (zh (MQ (i:=3) rfl))))
noncomputable def eZ:SF:=(sSet 3 (eN tX (aCons (eV 3) (aCons (e2 p6 (e2 ed (e2 ed (eV 0) (e2 p6 (e1 vU (eC (.int 1))) (eV 5))) (eV 4)) (eV 6)) aNil))))
noncomputable def fP:List D->Option D:=mOf ["rows","links","put","most","start","behind","slack"]
  (sSeq (sSet 3 (eN tX (aCons (eC (.int 0)) (aCons (eV 2) aNil))))
  (sSeq (sFor (lsD (eV 1)) (gT (gsCons (gV 4) (gsCons (gV 5) (gsCons (gV 6) gsNil)))) eZ)
  (sRet (eV 3))))
theorem xx (T:Txt K mg a):dD P w K mg base gx 1 a.ba a.bb ["rows","links","put"] (kr K a.ct [2,0,0] 0 fP) :=
 lf (ms:=[.al 2,.ow 0,.ow 0,.ow 0,.ow 0,.ow 0,.ow 0]) T.aA.fn λ_ _ _ _ _ _ hr nd=>(ze (kO nd (ya (k:=0) (jq rfl) Ms rfl T.bg u0 (za dN (za xv zf)))) (ze (xF (yz xv) (Gj (n:=0) rfl (zx (oE nd) (zx (oE nd) (zx (oE nd) uk)))) (zh (kO nd (ya (k:=0) (jq rfl) Ms rfl T.bg u0 (za xv (za (sV (EW (Nq (n:=2) M6 Nc (yj 0 2) (sV (Gk (k:=0) dN) xv) (λ_ _=>rfl)) xv) xv) zf)))))) (zh (lO xv))))
noncomputable def pB:SF:=(sSeq (sSet 12 (λρ=>((eV 6) ρ).bind λx=>((λρ=>((aCons (eV 11) (aCons (eV 10) aNil)) ρ).bind λds=>some (.tup ds)) ρ).bind λy=>((eC (.int 0)) ρ).bind λz=>(jA x y).bind λr=>some (r.getD z)))
  (yK 9 (e1 vU (eC (.int 1))) (eV 11) (cl fP (aCons (eV 9) (aCons (e2 ed (eV 5) (eV 11)) (aCons (eV 12) aNil))))))
noncomputable def rM:SF:=(sSeq (sApp 9 (e2 p3 (λρ=>((aCons (eC (.int 0)) aNil) ρ).bind λds=>some (.lst ds)) (eV 4)))
  (sFor (lsD (eV 7)) (gV 11) pB))
noncomputable def vX:EF:=(eY (λρ=>((aCons (eV 8) aNil) ρ).bind kT) 1 [4] (gV 0) i7 (e2 p3 (λρ=>((aCons (eC (.int 0)) aNil) ρ).bind λds=>some (.lst ds)) (eV 1)))
noncomputable def rY:EF:=(eY (λρ=>((aCons (eV 4) aNil) ρ).bind kT) 1 [0,3] (gV 0) i7 (cl kj (aCons (eV 1) (aCons (eV 0) (aCons (eIf (tb (e2 (tT false) (eV 2) (eC .non))) (λρ=>(aNil ρ).bind λds=>some (.lst ds)) (eV 2)) aNil)))))
noncomputable def nW:List D->Option D:=mOf ["table","rounds","puts","without","many","links","greatest","order","depth","rows","number","going","put"]
  (sSeq (sSet 4 (eN eW (aCons (e1 (dq [4] "names") (e1 (dq [5] "net") (eV 0))) aNil)))
  (sSeq (sSet 5 rY)
  (sSeq (sSet 6 (cl jJ (aCons (eV 2) aNil)))
  (sSeq (sSet 7 (λρ=>((e1 (dq [5] "net") (eV 0)) ρ).bind λo=>li 4 "order" lY o []))
  (sSeq (sSet 8 (λρ=>((e1 (dq [5] "net") (eV 0)) ρ).bind λo=>li 4 "most_behind" dc o []))
  (sSeq (sSet 9 vX)
  (sSeq (sFor (λρ=>((aCons (eV 1) aNil) ρ).bind kT) (gV 10) rM)
  (sFz 9 (sRet (λρ=>((eV 9) ρ).bind λd=>((pInt (eV 8)) ρ).bind λl=>(pNo ρ).bind λh=>oZ d l h))))))))))
theorem QJ (T:Txt K mg a):dD P w K mg base gx 3 a.bc a.bd ["table","rounds","puts","without"] (kr K a.ct [0,0,0,0] 0 nW) :=
 lf (ms:=mO [0,0,0,0,0,0,0,0,0,2,0,0,0]) T.aB.fn λ_ _ _ _ _ _ hr nd=>(ze (kO nd (rq T.be (za (jO (jO xv T.aX) T.aW) zf))) (ze (CO (k:=0) (N:=["going","table","without"]) (om:=mO [0]) (cap:=[0,3]) (own:=1) nd (XI.cc (zy (n:=0) T.bi (za xv zf))) (λ_ _ _ _ _ h=>(oF h)) (λ_ _ _ _ _=>yh) (λ_ _ _ _ _=>(jG T.az (UV T) hr (za xv (za xv (za (Io (Ef xv uY) (jP (yy (k:=0) zu)) xv) zf)))))) (ze (lP nd (jG T.av (u9 T) hr (za xv zf))) (ze (lP nd (je (n:=0) (c0:=4) (nd:=[]) (pQ:=[]) (jO xv T.aX) T.f.cl T.ac.me (U5 T) (hr.mono (by decide)) T.ac.bd .nil (λ_ _=>.nil))) (ze (lP nd (je (n:=0) (c0:=4) (nd:=[]) (pQ:=[]) (jO xv T.aX) T.f.cl T.aa.me (yo T) (hr.mono (by decide)) T.aa.bd .nil (λ_ _=>.nil))) (ze (CO (k:=2) (N:=["number","many"]) (om:=mO [0]) (cap:=[4]) (own:=1) nd (XI.cc (zy (n:=0) T.bi (za xv zf))) (λ_ _ _ _ _ h=>(oF h)) (λ_ _ _ _ _=>yh) (λ_ _ _ _ _=>(JP (yy (k:=0) (zk (XE.ow dN) zu)) xv))) (ze (xF (zy (n:=0) T.bi (za xv zf)) (oE nd) (ze (xo 9 rfl (JP (yy (k:=0) (zk (XE.ow dN) zu)) xv)) (zh (xF (yz xv) (oE nd) (ze (kO nd (Y0 (n:=0) (vq hr) (yj 6 0) (jP (yx (zk (XE.ow xv) (zk (XE.ow xv) zu)))) dN ⟨rfl,rfl,rfl,rfl⟩)) (zh (WZ 9 rfl (Gk (k:=0) dN) xv (λ_ _=>rfl) (xc T.aA (xx T) hr (za xv (za (jF xv xv) (za xv zf))))))))))) (JQ (i:=9) rfl (zh (yc (o9 (Mr (n:=0) (by decide) xv (MO xv) Nu))))))))))))
noncomputable def n4:EF:=(eY (lsD (eV 3)) 1 [2,7] (gV 0) (tb (e2 (jV false) (e1 (dq [0,1,2,3] "start") (e2 ed (e1 (dq [4] "arrows") (eV 1)) (eV 0))) (eV 2))) (eV 0))
noncomputable def dg:SF:=(sSeq (sSet 9 (e1 (dq [0,1,2,3] "goal") (e2 ed (e1 (dq [4] "arrows") (eV 2)) (eV 8))))
  (sSeq (sIf (tb (e2 (jV false) (eV 9) (eV 1))) (sFz 5 (sRet (e2 gb (cl nu (aCons (e1 (dq [4] "arrows") (eV 2)) (aCons (eV 5) (aCons (eV 1) (aCons (eV 7) aNil))))) (λρ=>((aCons (eV 8) aNil) ρ).bind λds=>some (.lst ds))))) sSkip)
  (sIf (tb (e2 (inD true) (eV 9) (eV 4))) (sSeq (sApp 4 (eV 9))
  (mR 5 (eV 9) (eV 8))) sSkip)))
noncomputable def ke:SF:=(sSeq (sSet 7 (e2 ed (eV 4) (eV 6)))
  (sSeq (sFor (lsD n4) (gV 8) dg)
  (AH 6 (i2 λi j=>.int (i+j)) (eC (.int 1)))))
noncomputable def n6:EF:=(eY (λρ=>((aCons (eN eW (aCons (e1 (dq [4] "arrows") (eV 2)) aNil)) aNil) ρ).bind kT) 1 [0] (gV 0) (tb (e2 (jV false) (λρ=>((eV 1) ρ).bind λo=>((aCons (eV 0) aNil) ρ).bind λds=>li 5 "slack" dL o (ds++[])) (eC (.int 0)))) (eV 0))
noncomputable def d6:List D->Option D:=mOf ["table","going","net","tight","reached","chosen","done","here","number","goal"]
  (sSeq (sSet 2 (e1 (dq [5] "net") (eV 0)))
  (sSeq (sSet 3 n6)
  (sSeq (sSet 4 (λρ=>((aCons (eV 1) aNil) ρ).bind λds=>some (.lst ds)))
  (sSeq (sSet 5 (eC (.dK [] [])))
  (sSeq (sSet 6 (eC (.int 0)))
  (sSeq (iy (tb (e2 qL (eV 6) (eN eW (aCons (eV 4) aNil)))) ke)
  (sRet (eC .non))))))))
theorem xy (T:Txt K mg a):dD P w K mg base gx 2 a.be a.bf ["table","going"] (kr K a.ct [0,0] 0 d6) :=
 lf (ms:=mO [0,0,0,0,1,1,0,0,0,0]) T.aD.fn λ_ _ _ _ _ _ hr nd=>(ze (kO nd (jO xv T.aX)) (ze (CO (k:=0) (N:=["number","table"]) (om:=mO [0]) (cap:=[0]) (own:=1) nd (XI.cc (zy (n:=0) T.bi (za (rq T.be (za (jO xv T.aS) zf)) zf))) (λ_ _ _ _ _ h=>(oF h)) (λ_ _ _ _ _=>(xm (Ac hr (jP (uj (n:=1) (c0:=5) (ns:=[0]) (nd:=[]) (pQ:=[]) (XE.up xv (by decide:0<=1)) T.g.cl T.aw.me (yk T) (hr.mono (by decide)) T.aw.bd .nil (λ_ _=>.nil) (za xv zf))) dN))) (λ_ _ _ _ _=>(XE.ow xv))) (ze (lP nd (yy (k:=0) (zk (XE.ow xv) zu))) (ze (lP nd jd) (ze (kO nd dN) (ze (FC (Cc xv (rq T.be (za xv zf))) (ze (kO nd (EW xv xv)) (ze (xF (yz (jP (xI (N:=["step","net","here"]) (om:=mO [0]) (cap:=[2,7]) (own:=1) (yb (n:=0) xv) (λ_ _ _ _ _ h=>(oF h)) (λ_ _ _ _ _=>(xm (Ac hr (jO (jF (jO xv T.aS) xv) T.aY) xv))) (λ_ _ _ _ _=>(XE.ow xv))))) (oE nd) (ze (kO nd (jO (jF (jO xv T.aS) xv) T.aV)) (ze (Ek (Ac hr xv xv) (JQ (i:=5) rfl (zh (yc (o9 (o4 (xc T.y (Vg T) hr (za (jO xv T.aS) (za xv (za xv (za xv zf))))) (jP (yy (k:=0) (zk (XE.ow xv) zu)))))))) wv) (zh (Ek (wq (k:=0) ux Rl xv xv (by with_unfolding_all rfl)) (ze (xo 4 rfl (XE.ow xv)) (zh (JC 5 rfl (vq hr) xv xv))) wv))))) (zh (Rp MZ rfl nd rfl (Or.inl rfl) dN))))) (zh (lO uY))))))))
noncomputable def jX:SF:=(sIf (tb (e2 qX (e2 ed (eV 4) (eV 5)) (eC (.int 0)))) (sRet (λρ=>((aCons (eC (.str "ever")) (aCons (eV 5) (aCons (eV 3) aNil))) ρ).bind λds=>some (.tup ds))) sSkip)
noncomputable def jY:SF:=(sFor (lsD (eV 2)) (gV 5) jX)
noncomputable def nZ:EF:=(eY (λρ=>((aCons (eN eW (aCons (e1 (dq [4] "names") (e1 (dq [5] "net") (eV 0))) aNil)) aNil) ρ).bind kT) 1 [0] (gV 0) (tb (e2 (tT true) (cl d6 (aCons (eV 1) (aCons (eV 0) aNil))) (eC .non))) (eV 0))
noncomputable def iQ:List D->Option D:=mOf ["table","rows","keepers","number","row","going"]
  (sSeq (sSet 2 nZ)
  (sSeq (sFor (λρ=>((aCons (eV 1) aNil) ρ).bind λds=>match ds with|[.lst xs]=>some (hE 0 xs)|_=>none) (gT (gsCons (gV 3) (gsCons (gV 4) gsNil))) jY)
  (sRet (eC .non))))
theorem UW (T:Txt K mg a):dD P w K mg base gx 3 a.bg a.bh ["table","rows"] (kr K a.ct [0,0] 0 iQ) :=
 lf (ms:=mO [0,0,0,0,0,0]) T.aE.fn λ_ _ _ _ _ _ hr nd=>(ze (CO (k:=0) (N:=["going","table"]) (om:=mO [0]) (cap:=[0]) (own:=1) nd (XI.cc (zy (n:=0) T.bi (za (rq T.be (za (jO (jO xv T.aX) T.aW) zf)) zf))) (λ_ _ _ _ _ h=>(oF h)) (λ_ _ _ _ _=>(xm (L1 (xc T.aD (xy T) hr (za xv (za xv zf))) uY))) (λ_ _ _ _ _=>(XE.ow xv))) (ze (xF (Qu T.bb (za xv zf)) (Gj (n:=1) rfl (zx (oE nd) (zx (oE nd) uk))) (zh (xF (yz xv) (oE nd) (zh (oy (Ad (jF xv xv) dN) (yc (o9 (yx (zk (XE.ow (wa (n:=0))) (zk (XE.ow xv) (zk (XE.ow xv) zu))))))))))) (zh (lO uY))))
noncomputable def vV:EF:=(eY (λρ=>((aCons (eV 3) aNil) ρ).bind λds=>match ds with|[.lst xs]=>some (hE 0 xs)|_=>none) 2 [] (gT (gsCons (gV 0) (gsCons (gV 1) gsNil))) (tb (e2 qX (eN oX (aCons (eV 1) aNil)) (eC (.int 0)))) (eV 0))
noncomputable def rX:EF:=(eY (lsD (eV 1)) 3 [2] (gT (gsCons (gV 0) (gsCons (gV 1) (gsCons (gV 2) gsNil)))) (bAnd (tb (e2 qX (eV 2) (eC (.int 0)))) (tb (e2 Bz (eV 1) (eV 3)))) (eV 1))
noncomputable def ni:List D->Option D:=mOf ["table","puts","most","rows","kept","beyond","late_rounds","first_free"]
  (sSeq (sSet 3 (λρ=>((aCons (eV 0) (aCons (eV 2) (aCons (eV 1) aNil))) ρ).bind λds=>nW (ds++[.non])))
  (sSeq (sSet 4 (cl iQ (aCons (eV 0) (aCons (eV 3) aNil))))
  (sSeq (sIf (tb (e2 (tT true) (eV 4) (eC .non))) (sRet (eV 4)) sSkip)
  (sSeq (sSet 5 rX)
  (sSeq (sSet 6 (e2 gb vV (eV 5)))
  (sSeq (sSet 7 (e2 gb (e2 tY (eV 6) (e1 vU (eC (.int 1)))) (eC (.int 1))))
  (sRet (eIf (tb (e2 BZ (e2 gb (eV 7) (λρ=>((e1 (dq [5] "net") (eV 0)) ρ).bind λo=>li 4 "most_behind" dc o [])) (eV 2))) (λρ=>((aCons (eC (.str "died")) (aCons (eV 7) aNil)) ρ).bind λds=>some (.tup ds)) (eC .non)))))))))
theorem QK (T:Txt K mg a):dD P w K mg base gx 4 a.bi a.bj ["table","puts","most"] (kr K a.ct [0,0,0] 0 ni) :=
 lf (ms:=mO [0,0,0,0,0,0,0,0]) T.aF.fn λ_ _ _ _ _ _ hr nd=>(ze (lP nd (ML (pQ:=[.non]) (ns:=[0,0,0]) (nd:=[0]) (QJ T) (hr.mono (by decide)) rfl T.aB.mgx T.aB.fn.kp T.aC.choose_spec.2.2 T.aC.choose_spec.2.1 (λ_ _=>(.cons (Al.of .non) .nil)) (za xv (za xv (za xv zf))))) (ze (lP nd (jG T.aE (UW T) hr (za xv (za xv zf)))) (ze (oy (L1 xv uY) (lO xv)) (ze (CO (k:=0) (N:=["going","number","amount","most"]) (om:=mO [0,0,0]) (cap:=[2]) (own:=3) nd (yb (n:=0) xv) (λ_ _ _ _ _ h=>(Jy (n:=0) rfl (yf (oF h) (yf (oF h) (yf (oF h) jg))))) (λ_ _ _ _ _=>(xm (XW.t (Gi (Ad xv dN) (ui (Jl xv xv)))))) (λ_ _ _ _ _=>(XE.ow xv))) (ze (lP nd (o9 (o4 (jP (xI (N:=["number","row"]) (om:=mO [0,0]) (cap:=[]) (own:=2) (P2 (n:=0) T.bb (za xv zf)) (λ_ _ _ _ _ h=>(Jy (n:=1) rfl (yf (oF h) (yf (oF h) jg)))) (λ_ _ _ _ _=>(xm (Ad (ya (k:=0) (ub rfl) JB rfl T.bg u0 (za xv zf)) dN))) (λ_ _ _ _ _=>(XE.ow xv)))) xv))) (ze (lP nd (o9 (o4 (YQ (k:=0) rfl rfl T.bg xv (Gk (k:=0) dN)) dN))) (zh (lO (Io (OI (jP (o4 xv (jP (je (n:=0) (c0:=4) (nd:=[]) (pQ:=[]) (jO xv T.aX) T.f.cl T.aa.me (yo T) (hr.mono (by decide)) T.aa.bd .nil (λ_ _=>.nil))))) xv) (jP (yx (zk (XE.ow (wa (n:=0))) (zk (XE.ow xv) zu)))) uY)))))))))
noncomputable def dM:List D->Option D:=mOf ["_law_script","_law_k"]
  (sSeq (sIf (tb (e2 qL (eV 1) (eN eW (aCons (eV 0) aNil)))) (sRet (e2 ed (eV 0) (eV 1))) sSkip)
  (sRet (eC (.int 0))))
theorem zw (T:Txt K mg a):dD P w K mg base gx 1 a.bk a.bl ["_law_script","_law_k"] (kr K a.ct [0,0] 0 dM) :=
 lf (ms:=mO [0,0]) T.aG.fn λ_ _ _ _ _ _ hr nd=>(ze (oy (Cc xv (rq T.be (za xv zf))) (lO (jF xv xv))) (zh (lO dN)))
noncomputable def iR:List D->Option D:=mOf ["_law_cell"]
  (sRet (eB (bAnd (tb (e2 Bz (eV 0) (e2 Dr (eC (.int 1)) (eC (.int 90))))) (tb (e2 (jV false) (e2 gW (eV 0) (eC (.int 2))) (eC (.int 1)))))))
theorem xz (T:Txt K mg a):dD P w K mg base gx 1 a.bm a.bn ["_law_cell"] (kr K a.ct [0] 0 iR) :=
 lf (ms:=mO [0]) T.aH.fn λ_ _ _ _ _ _ hr nd=>(zh (lO (wu (UC xv (qz (k:=0) zqz YY dN dN)) (vx (k:=0) (vEq hr (oMod xv dN) dN)))))
noncomputable def fU:List D->Option D:=mOf ["_law_cell","_law_k","_law_number"]
  (sSeq (sIf (bAnd (tb (cl iR (aCons (eV 0) aNil))) (tb (e2 qX (e2 AJ (eV 0) (e2 gb (eC (.int 1)) (e2 fD (eC (.int 31)) (eV 1)))) (eC (.int 0))))) (sRet (e2 gW (e2 AJ (eV 0) (e2 gb (eC (.int 1)) (e2 fD (eC (.int 31)) (eV 1)))) (eC (.int 2147483648)))) sSkip)
  (sSeq (sSet 2 (e2 gW (e2 fD (e2 gb (e2 gb (eV 0) (e2 fD (eC (.int 7919)) (eV 1))) (eC (.int 1))) (eC (.int 48271))) (eC (.int 2147483647))))
  (sSeq (sSet 2 (e2 gW (e2 fD (eV 2) (e2 gb (e2 hJ (eV 2) (eC (.int 1009))) (eC (.int 69621)))) (eC (.int 2147483647))))
  (sRet (e2 gW (e2 fD (eV 2) (e2 gb (e2 gb (e2 hJ (eV 2) (eC (.int 2003))) (eC (.int 39373))) (eV 1))) (eC (.int 2147483629)))))))
theorem w8 (T:Txt K mg a):dD P w K mg base gx 2 a.bo a.bp ["_law_cell","_law_k"] (kr K a.ct [0,0] 0 fU) :=
 lf (ms:=mO [0,0,0]) T.aI.fn λ_ _ _ _ _ _ hr nd=>(ze (oy (XW.t (Gi (yw (xc T.aH (xz T) hr (za xv zf))) (ui (Ad (qz (k:=0) Ra Qs xv (jP (o4 dN (kR dN xv)))) dN)))) (lO (oMod (qz (k:=0) Ra Qs xv (jP (o4 dN (kR dN xv)))) dN))) (ze (kO nd (oMod (kR (jP (o4 (jP (o4 xv (kR dN xv))) dN)) dN) dN)) (ze (kO nd (oMod (kR xv (jP (o4 (oDiv xv dN) dN))) dN)) (zh (lO (oMod (kR xv (jP (o4 (jP (o4 (oDiv xv dN) dN)) xv))) dN))))))
noncomputable def ka:SF:=(uQ 3 4 (e2 gW (cl fU (aCons (eV 0) (aCons (eV 5) aNil))) (eN eW (aCons (eV 4) aNil))))
noncomputable def jM:List D->Option D:=mOf ["_law_turn","_law_many","_law_going","_law_order","_law_left","_law_k"]
  (sSeq (sIf (bNot (tb (cl iR (aCons (eV 0) aNil)))) (sRet (e2 gW (e2 gb (eV 2) (eV 0)) (eV 1))) sSkip)
  (sSeq (sSet 3 (λρ=>(aNil ρ).bind λds=>some (.lst ds)))
  (sSeq (sSet 4 (eN qK (aCons (eV 1) aNil)))
  (sSeq (sFor (λρ=>((aCons (eV 1) aNil) ρ).bind kT) (gV 5) ka)
  (sRet (e2 BW (eV 3) (eV 2)))))))
theorem qj (T:Txt K mg a):dD P w K mg base gx 3 a.bq a.br ["_law_turn","_law_many","_law_going"] (kr K a.ct [0,0,0] 0 jM) :=
 lf (ms:=mO [0,0,0,1,1,0]) T.aJ.fn λ_ _ _ _ _ _ hr nd=>(ze (oy (wc (yw (xc T.aH (xz T) hr (za xv zf)))) (lO (oMod (jP (o4 xv xv)) xv))) (ze (lP nd (yy (k:=0) zu)) (ze (lP nd (QB rfl rfl T.bf rfl T.bi (za xv zf))) (ze (xF (zy (n:=0) T.bi (za xv zf)) (oE nd) (zh (Wm 3 4 rfl rfl (by decide) (oMod (xc T.aI (w8 T) hr (za xv (za xv zf))) (rq T.be (za xv zf)))))) (zh (lO (Xm (k:=0) xv xv)))))))
noncomputable def i9:SF:=(sSeq (sSet 8 (e2 gW (e2 hJ (eV 4) (eC (.int 1000))) (eC (.int 10))))
  (sSeq (sIf (tb (e2 (jV false) (e2 gW (eV 0) (eC (.int 4))) (eC (.int 3)))) (sSet 8 (e2 gW (e2 hJ (eV 0) (eC (.int 4))) (e2 gb (e2 AF (eC (.int 10)) (eC (.int 6))) (eC (.int 1))))) sSkip)
  (sSeq (sIf (tb (cl iR (aCons (eV 0) aNil))) (sSet 8 (e2 gW (cl fU (aCons (eV 0) (aCons (eC (.int 30)) aNil))) (e2 gb (e2 AF (eC (.int 10)) (eC (.int 6))) (eC (.int 1))))) sSkip)
  (sRet (λρ=>((aCons (eV 5) (aCons (eV 6) (aCons (eV 8) (aCons (eV 7) aNil)))) ρ).bind λds=>some (.tup ds))))))
noncomputable def fS:List D->Option D:=mOf ["_law_cell","_law_many","_law_turn","_law_k","_law_number","_law_start","_law_goal","_law_behind","_law_time"]
  (sSeq (sSet 4 (cl fU (aCons (eV 0) (aCons (eV 3) aNil))))
  (sSeq (sSet 5 (e2 gW (eV 4) (eV 1)))
  (sSeq (sSet 6 (eV 3))
  (sSeq (sIf (tb (e2 Bz (eV 3) (eV 1))) (sSet 6 (e2 gW (e2 hJ (eV 4) (eC (.int 8))) (eV 1))) sSkip)
  (sSeq (sSet 7 (e2 gW (e2 hJ (eV 4) (eC (.int 64))) (eC (.int 5))))
  (sSeq (sIf (bAnd (tb (e2 (jV false) (eV 7) (eC (.int 0)))) (tb (e2 Bz (cl jM (aCons (eV 2) (aCons (eV 1) (aCons (eV 5) aNil)))) (cl jM (aCons (eV 2) (aCons (eV 1) (aCons (eV 6) aNil))))))) (sSet 7 (e2 gb (eC (.int 1)) (e2 gW (e2 hJ (eV 4) (eC (.int 320))) (eC (.int 2))))) sSkip)
  i9))))))
theorem U8 (T:Txt K mg a):dD P w K mg base gx 4 a.bs a.bt ["_law_cell","_law_many","_law_turn","_law_k"] (kr K a.ct [0,0,0,0] 0 fS) :=
 lf (ms:=mO [0,0,0,0,0,0,0,0,0]) T.aK.fn λ_ _ _ _ _ _ hr nd=>(ze (lP nd (jG T.aI (w8 T) hr (za xv (za xv zf)))) (ze (kO nd (oMod xv xv)) (ze (kO nd xv) (ze (oy (Jl xv xv) (kO nd (oMod (oDiv xv dN) xv))) (ze (kO nd (oMod (oDiv xv dN) dN)) (ze (oy (XW.t (Gi (Ac hr xv dN) (ui (Jl (xc T.aJ (qj T) hr (za xv (za xv (za xv zf)))) (xc T.aJ (qj T) hr (za xv (za xv (za xv zf)))))))) (lP nd (o9 (o4 dN (oMod (oDiv xv dN) dN))))) (ze (kO nd (oMod (oDiv xv dN) dN)) (ze (oy (Ac hr (oMod xv dN) dN) (kO nd (oMod (oDiv xv dN) (jP (o4 (qz (k:=0) M5 MM dN dN) dN))))) (ze (oy (yw (xc T.aH (xz T) hr (za xv zf))) (kO nd (oMod (xc T.aI (w8 T) hr (za xv (za dN zf))) (jP (o4 (qz (k:=0) M5 MM dN dN) dN))))) (zh (yc (o9 (yx (zk (XE.ow xv) (zk (XE.ow xv) (zk (XE.ow xv) (zk (XE.ow xv) zu)))))))))))))))))
noncomputable def lJ:List D->Option D:=mOf ["_law_arrow_here","_law_kind","_law_start","_law_goal","_law_time","_law_behind"]
  (sSeq (sAsg (gT (gsCons (gV 2) (gsCons (gV 3) (gsCons (gV 4) (gsCons (gV 5) gsNil))))) (eV 0))
  (sSeq (sIf (bAnd (tb (e2 (jV false) (eV 5) (eC (.int 0)))) (tb (e2 (jV false) (e2 gW (eV 1) (eC (.int 2))) (eC (.int 0))))) (sRet (cl (mr 1) (aCons (eV 2) (aCons (eV 3) (aCons (eV 4) aNil))))) sSkip)
  (sSeq (sIf (bAnd (tb (e2 qX (eV 5) (eC (.int 0)))) (tb (e2 (jV false) (e2 gW (eV 1) (eC (.int 2))) (eC (.int 0))))) (sRet (cl (mq 3) (aCons (eV 2) (aCons (eV 3) (aCons (eV 4) (aCons (eV 5) aNil)))))) sSkip)
  (sRet (cl (mw 2) (aCons (eV 2) (aCons (eV 3) (aCons (eV 4) (aCons (eV 5) aNil)))))))))
theorem qk (T:Txt K mg a):dD P w K mg base gx 4 a.bu a.bv ["_law_arrow_here","_law_kind"] (kr K a.ct [0,0] 0 lJ) :=
 lf (ms:=mO [0,0,0,0,0,0]) T.aL.fn λ_ _ _ _ _ _ hr nd=>(ze (Rq xv (Gj (n:=0) rfl (zx (oE nd) (zx (oE nd) (zx (oE nd) (zx (oE nd) uk)))))) (ze (oy (XW.t (Gi (Ac hr xv dN) (ui (Ac hr (oMod xv dN) dN)))) (yc (o9 (FD T.c T.k (UJ T) hr (za xv (za xv (za xv zf))))))) (ze (oy (XW.t (Gi (Ad xv dN) (ui (Ac hr (oMod xv dN) dN)))) (yc (o9 (FD T.e T.n (UL T) hr (za xv (za xv (za xv (za xv zf)))))))) (zh (yc (o9 (FD T.d T.l (UK T) hr (za xv (za xv (za xv (za xv zf)))))))))))
noncomputable def i8:SF:=(sPar 4 5 (aCons (eV 5) (aCons (e2 gW (eV 4) (eV 5)) aNil)))
noncomputable def kD:SF:=(sSeq (sSet 4 (eV 2))
  (sSeq (sSet 5 (e2 ed (eV 3) (eC (.int 1))))
  (sSeq (iy (tb (e2 (jV true) (eV 5) (eC (.int 0)))) i8)
  (sSet 2 (e2 fD (e2 hJ (eV 2) (eV 4)) (e2 ed (eV 3) (eC (.int 1))))))))
noncomputable def l5:List D->Option D:=mOf ["_law_times","_law_bottom","_law_whole","_law_one","_law_first","_law_other"]
  (sSeq (sSet 2 (eV 1))
  (sSeq (sFor (lsD (eV 0)) (gV 3) kD)
  (sRet (eV 2))))
theorem U9 (T:Txt K mg a):dD P w K mg base gx 1 a.bw a.bx ["_law_times","_law_bottom"] (kr K a.ct [0,0] 0 l5) :=
 lf (ms:=mO [0,0,0,0,0,0]) T.aM.fn λ_ _ _ _ _ _ hr nd=>(ze (kO nd xv) (ze (xF (yz xv) (oE nd) (ze (kO nd xv) (ze (kO nd (jF xv dN)) (ze (FC (Gg hr xv dN) (zh (zr3 rfl rfl rfl nd rfl rfl (by decide) rfl rfl (za xv (za (oMod xv xv) zf)) rfl))) (zh (kO nd (kR (oDiv xv xv) (jF xv dN)))))))) (zh (lO xv))))
noncomputable def jC:List D->Option D:=mOf ["_law_net","_law_times","_law_beat","_law_told"]
  (sSeq (sSet 3 (eC (.bl false)))
  (sSeq (sTry (sDropX (λρ=>((aCons (eV 0) (aCons (eV 1) (aCons (eV 2) aNil))) ρ).bind λds=>gu 5 (ds++[]))) (thD (hitL [9] [9]) none (sSet 3 (eC (.bl true))) (λ_ _ _=>none)))
  (sRet (eV 3))))
theorem UO (T:Txt K mg a):dD P w K mg base gx 5 a.bz a.bA ["_law_net","_law_times","_law_beat"] (kr K a.ct [0,0,0] 0 jC) :=
 lf (ms:=mO [0,0,0,0]) T.aN.fn λ_ _ _ _ _ _ hr nd=>(ze (kO nd (wp (n:=0))) (ze (zsf (λE bL G h1 h2=>(jk (W6 (Xv (c0:=5) (pQ:=[]) (ns:=[0,0,0]) (nd:=[]) h2 ⟨T.g.mks,T.ay.me.at_,T.ay.me.fn,T.g.kp⟩ (by decide) (ja T) (hr.mono (by decide)) rfl T.g.mgx T.ay.bd .nil (λ_ _=>.nil) (za xv (za xv (za xv zf))))))) (Xx T.i (zsg T.a7) (λa=>(zh (kO nd (wp (n:=0))))) Zw)) (zh (lO xv))))
noncomputable def kS:EF:=(eY (lsD (λρ=>((eV 7) ρ).bind λd=>(pNo ρ).bind λl=>((pInt (eV 4)) ρ).bind λh=>oZ d l h)) 1 [] (gV 0) (tb (e2 qX (eN oX (aCons (eV 0) aNil)) (eC (.int 0)))) (eV 0))
noncomputable def jI:SF:=(sIf (tb (e2 qL (e2 ed (e2 ed (eV 7) (e2 gb (eV 4) (e2 fD (eV 8) (eV 6)))) (eV 3)) (e2 ed (e2 ed (eV 7) (e2 gb (eV 4) (e2 fD (e2 p6 (eV 8) (eC (.int 1))) (eV 6)))) (eV 3)))) (sRet (eC (.bl false))) sSkip)
noncomputable def nD:EF:=(eY (lsD (eV 2)) 1 [1] (gV 0) i7 (e2 ed (e2 ed (eV 1) (eV 0)) (eC (.int 3))))
noncomputable def kE:List D->Option D:=mOf ["_law_table","_law_arrows","_law_ring","_law_going","_law_when","_law_amount","_law_behinds","_law_rows","_law_k","_law_found"]
  (sSeq (sSet 6 (eN wK (aCons nD aNil)))
  (sSeq (sSet 7 (λρ=>((aCons (eV 0) (aCons (e2 gb (e2 gb (eV 4) (e2 fD (eC (.int 3)) (eV 6))) (eC (.int 1))) (aCons (λρ=>((aCons (λρ=>((aCons (eV 3) (aCons (eV 4) (aCons (eV 5) aNil))) ρ).bind λds=>some (.tup ds)) aNil) ρ).bind λds=>some (.lst ds)) aNil))) ρ).bind λds=>nW (ds++[.non])))
  (sSeq (sFor (λρ=>((aCons (eC (.int 1)) (aCons (eC (.int 4)) aNil)) ρ).bind AG) (gV 8) jI)
  (sSeq (sIf (bOr (tb (e2 qL (e2 ed (e2 ed (eV 7) (eV 4)) (eV 3)) (eV 5))) (tb (e2 (jV true) kS (λρ=>(aNil ρ).bind λds=>some (.lst ds))))) (sRet (eC (.bl false))) sSkip)
  (sSeq (sSet 9 (cl ni (aCons (eV 0) (aCons (λρ=>((aCons (λρ=>((aCons (eV 3) (aCons (eV 4) (aCons (eV 5) aNil))) ρ).bind λds=>some (.tup ds)) aNil) ρ).bind λds=>some (.lst ds)) (aCons (e2 gb (eV 4) (eC (.int 1))) aNil)))))
  (sRet (eB (bAnd (tb (e1 (sU "tuple") (eV 9))) (bAnd (tb (e2 (jV false) (e2 ed (eV 9) (eC (.int 0))) (eC (.str "ever")))) (bAnd (tb (e2 (jV false) (e2 ed (eV 9) (eC (.int 2))) (eV 4))) (tb (e2 qX (e2 ed (e2 ed (eV 7) (eV 4)) (e2 ed (eV 9) (eC (.int 1)))) (eC (.int 0))))))))))))))
theorem UP (T:Txt K mg a):dD P w K mg base gx 5 a.bB a.bC ["_law_table","_law_arrows","_law_ring","_law_going","_law_when","_law_amount"] (kr K a.ct [0,0,0,0,0,0] 0 kE) :=
 lf (ms:=mO [0,0,0,0,0,0,0,0,0,0]) T.aO.fn λ_ _ _ _ _ _ hr nd=>(ze (kO nd (ya (k:=0) (ua rfl) JA rfl T.bl JL (za (jP (xI (N:=["_law_k","_law_arrows"]) (om:=mO [0]) (cap:=[1]) (own:=1) (yb (n:=0) xv) (λ_ _ _ _ _ h=>(oF h)) (λ_ _ _ _ _=>yh) (λ_ _ _ _ _=>(XE.ow (jF (jF xv xv) dN))))) zf))) (ze (lP nd (ML (pQ:=[.non]) (ns:=[0,0,0]) (nd:=[0]) (QJ T) (hr.mono (by decide)) rfl T.aB.mgx T.aB.fn.kp T.aC.choose_spec.2.2 T.aC.choose_spec.2.1 (λ_ _=>(.cons (Al.of .non) .nil)) (za xv (za (jP (o4 (jP (o4 xv (kR dN xv))) dN)) (za (jP (yy (k:=0) (zk (o9 (yx (zk (XE.ow xv) (zk (XE.ow xv) (zk (XE.ow xv) zu))))) zu))) zf))))) (ze (xF (Wd (n:=0) T.bi (za dN (za dN zf))) (oE nd) (zh (oy (Cc (jF (jF xv (jP (o4 xv (kR xv xv)))) xv) (jF (jF xv (jP (o4 xv (kR (sV xv dN) xv)))) xv)) (lO (wp (n:=0)))))) (ze (oy (XW.t (CP (Cc (jF (jF xv xv) xv) xv) (u5 (Gg hr (jP (xI (N:=["_law_row"]) (om:=mO [0]) (cap:=[]) (own:=1) (yb (n:=0) (jP (Mr (n:=0) (by decide) xv Nu (MO xv)))) (λ_ _ _ _ _ h=>(oF h)) (λ_ _ _ _ _=>(xm (Ad (ya (k:=0) (ub rfl) JB rfl T.bg u0 (za xv zf)) dN))) (λ_ _ _ _ _=>(XE.ow xv)))) (jP (yy (k:=0) zu)))))) (lO (wp (n:=0)))) (ze (lP nd (jG T.aF (QK T) hr (za xv (za (jP (yy (k:=0) (zk (o9 (yx (zk (XE.ow xv) (zk (XE.ow xv) (zk (XE.ow xv) zu))))) zu))) (za (jP (o4 xv dN)) zf))))) (zh (lO (wu (Gm (k:=0) (by decide) T.bd T.bm PY xv) (wu (vEq hr (jF xv dN) (wa (n:=0))) (wu (vEq hr (jF xv dN) xv) (vx (k:=0) (OO (jF (jF xv xv) (jF xv dN)) dN))))))))))))
noncomputable def nw:EF:=(eY (λρ=>((aCons (eV 1) aNil) ρ).bind kT) 1 [0] (gV 0) (tb (e2 (tT true) (cl d6 (aCons (eV 1) (aCons (eV 0) aNil))) (eC .non))) (eV 0))
noncomputable def nk:List D->Option D:=mOf ["_law_table","_law_many","_law_going","_law_when","_law_amount","_law_found"]
  (sSeq (sIf (tb (e2 (jV true) nw (λρ=>(aNil ρ).bind λds=>some (.lst ds)))) (sRet (eC (.bl false))) sSkip)
  (sSeq (sSet 5 (cl ni (aCons (eV 0) (aCons (λρ=>((aCons (λρ=>((aCons (eV 2) (aCons (eV 3) (aCons (eV 4) aNil))) ρ).bind λds=>some (.tup ds)) aNil) ρ).bind λds=>some (.lst ds)) (aCons (eC (.int 400)) aNil)))))
  (sRet (eB (bAnd (tb (e1 (sU "tuple") (eV 5))) (bAnd (tb (e2 (jV false) (e2 ed (eV 5) (eC (.int 0))) (eC (.str "died")))) (tb (e2 qX (e2 ed (eV 5) (eC (.int 1))) (eV 3)))))))))
theorem Vi (T:Txt K mg a):dD P w K mg base gx 5 a.bD a.bE ["_law_table","_law_many","_law_going","_law_when","_law_amount"] (kr K a.ct [0,0,0,0,0] 0 nk) :=
 lf (ms:=mO [0,0,0,0,0,0]) T.aP.fn λ_ _ _ _ _ _ hr nd=>(ze (oy (Gg hr (jP (xI (N:=["_law_other","_law_table"]) (om:=mO [0]) (cap:=[0]) (own:=1) (XI.cc (zy (n:=0) T.bi (za xv zf))) (λ_ _ _ _ _ h=>(oF h)) (λ_ _ _ _ _=>(xm (L1 (xc T.aD (xy T) hr (za xv (za xv zf))) uY))) (λ_ _ _ _ _=>(XE.ow xv)))) (jP (yy (k:=0) zu))) (lO (wp (n:=0)))) (ze (lP nd (jG T.aF (QK T) hr (za xv (za (jP (yy (k:=0) (zk (o9 (yx (zk (XE.ow xv) (zk (XE.ow xv) (zk (XE.ow xv) zu))))) zu))) (za dN zf))))) (zh (lO (wu (Gm (k:=0) (by decide) T.bd T.bm PY xv) (wu (vEq hr (jF xv dN) (wa (n:=0))) (vx (k:=0) (OO (jF xv dN) xv))))))))
noncomputable def pC:SF:=(sIf (bOr (tb (e2 (jV true) (λρ=>((eV 13) ρ).bind λo=>((aCons (eV 17) aNil) ρ).bind λds=>li 5 "slack" dL o (ds++[])) (eC (.int 0)))) (tb (e2 (tT false) (cl d6 (aCons (eV 13) (aCons (e2 ed (e2 ed (eV 4) (eV 17)) (eC (.int 0))) aNil))) (eC .non)))) (sRet (eC (.bl false))) sSkip)
noncomputable def zT:EF:=(eY (lsD (eV 11)) 1 [11] (gV 0) i7 (e2 p6 (eV 0) (eN B0 (aCons (eV 1) aNil))))
noncomputable def zU:EF:=(eY (lsD (eV 8)) 1 [9] (gV 0) i7 (e2 fD (e2 ed (eV 0) (eC (.int 0))) (e2 hJ (eV 1) (e2 ed (eV 0) (eC (.int 1))))))
noncomputable def zV:EF:=(eY (lsD (eV 4)) 1 [] (gV 0) i7 (cl lJ (aCons (eV 0) (aCons (e2 ed (eV 0) (eC (.int 0))) aNil))))
noncomputable def zW:EF:=(eY (lsD (eV 4)) 4 [9] (gT (gsCons (gV 0) (gsCons (gV 1) (gsCons (gV 2) (gsCons (gV 3) gsNil))))) i7 (λρ=>((aCons (eV 0) (aCons (eV 1) (aCons (e2 fD (eV 2) (eV 4)) (aCons (eV 3) aNil)))) ρ).bind λds=>some (.tup ds)))
noncomputable def uN:EF:=(eY (lsD (eV 4)) 1 [] (gV 0) i7 (cl lJ (aCons (eV 0) (aCons (e2 ed (eV 0) (eC (.int 0))) aNil))))
noncomputable def zY:EF:=(eY (λρ=>((aCons (eV 1) aNil) ρ).bind kT) 1 [] (gV 0) i7 (e2 gb (eC (.str "a")) (eN AL (aCons (eV 0) aNil))))
noncomputable def zZ:EF:=(eY (λρ=>((aCons (eV 2) aNil) ρ).bind kT) 1 [0,1,3] (gV 0) i7 (cl fS (aCons (cl dM (aCons (eV 1) (aCons (e2 gb (eC (.int 4)) (eV 0)) aNil))) (aCons (eV 2) (aCons (eV 3) (aCons (eV 0) aNil))))))
noncomputable def vS:List D->Option D:=mOf ["_law_script","_law_many","_law_total","_law_turn","_law_arrows","_law_names","_law_beat","_law_ring","_law_times","_law_whole","_law_net","_law_tops","_law_pace","_law_table","_law_going","_law_when","_law_amount","_law_number","_law_looser"]
  (sSeq (sSet 1 (e2 gb (eC (.int 1)) (e2 gW (cl dM (aCons (eV 0) (aCons (eC (.int 0)) aNil))) (eC (.int 6)))))
  (sSeq (sSet 2 (e2 gb (eV 1) (e2 gW (e2 hJ (cl dM (aCons (eV 0) (aCons (eC (.int 0)) aNil))) (eC (.int 6))) (eC (.int 9)))))
  (sSeq (sSet 3 (e2 hJ (cl dM (aCons (eV 0) (aCons (eC (.int 0)) aNil))) (eC (.int 54))))
  (sSeq (sSet 4 zZ)
  (sSeq (sSet 5 zY)
  (sSeq (sAsg (gT (gsCons (gV 6) (gsCons (gV 7) (gsCons (gV 8) gsNil)))) (cl kF (aCons (cl (iO 4) (aCons (eV 5) (aCons uN aNil))) aNil)))
  (sSeq (sSet 9 (cl l5 (aCons (eV 8) (aCons (e2 ed (eV 6) (eC (.int 1))) aNil))))
  (sSeq (sIf (tb (e2 qX (eV 9) (eC (.int 1000)))) (sRet (eC (.bl true))) sSkip)
  (sSeq (sSet 4 zW)
  (sSeq (sSet 10 (cl (iO 4) (aCons (eV 5) (aCons zV aNil))))
  (sSeq (sSet 11 zU)
  (sSeq (sSet 11 zT)
  (sSeq (sIf (tb (e2 qX (eN oX (aCons (eV 11) aNil)) (e2 AF (eC (.int 10)) (eC (.int 12))))) (sRet (eC (.bl true))) sSkip)
  (sSeq (sSet 12 (e2 fD (e2 ed (eV 6) (eC (.int 0))) (e2 hJ (eV 9) (e2 ed (eV 6) (eC (.int 1))))))
  (sSeq (sSet 13 (cl (iJ 5) (aCons (eV 10) (aCons (eV 11) (aCons (eV 12) aNil)))))
  (sSeq (sSet 14 (e2 ed (e2 ed (eV 4) (e2 ed (eV 7) (e2 gW (cl dM (aCons (eV 0) (aCons (eC (.int 1)) aNil))) (eN eW (aCons (eV 7) aNil))))) (eC (.int 0))))
  (sSeq (sSet 15 (e2 gW (cl dM (aCons (eV 0) (aCons (eC (.int 2)) aNil))) (eC (.int 10))))
  (sSeq (sSet 16 (e2 gb (eC (.int 1)) (e2 gW (cl dM (aCons (eV 0) (aCons (eC (.int 3)) aNil))) (eC (.int 3)))))
  (sSeq (sFor (lsD (eV 7)) (gV 17) pC)
  (sSeq (sIf (bNot (tb (cl kE (aCons (eV 13) (aCons (eV 4) (aCons (eV 7) (aCons (eV 14) (aCons (eV 15) (aCons (eV 16) aNil))))))))) (sRet (eC (.bl false))) sSkip)
  (sSeq (sIf (bAnd (tb (e2 qX (eV 12) (eC (.int 0)))) (bNot (tb (cl jC (aCons (eV 10) (aCons (eV 11) (aCons (e2 p6 (eV 12) (eC (.int 1))) aNil))))))) (sRet (eC (.bl false))) sSkip)
  (sSeq (sSet 18 (cl (iJ 5) (aCons (eV 10) (aCons (eV 11) (aCons (e2 gb (e2 gb (eV 12) (eC (.int 1))) (e2 gW (e2 hJ (cl dM (aCons (eV 0) (aCons (eC (.int 3)) aNil))) (eC (.int 3))) (eC (.int 3)))) aNil)))))
  (sRet (cl nk (aCons (eV 18) (aCons (eV 1) (aCons (eV 14) (aCons (eV 15) (aCons (eV 16) aNil)))))))))))))))))))))))))))))
theorem zsh (T:Txt K mg a):dD P w K mg base gx 8 a.bF a.bG ["_law_script"] (kr K a.ct [0] 0 vS) :=
 lf (ms:=mO [0,0,0,0,0,0,0,0,0,0,0,0,0,0,0,0,0,0,0]) T.aQ.fn λ_ _ _ _ _ _ hr nd=>(ze (lP nd (o9 (o4 dN (oMod (xc T.aG (zw T) hr (za xv (za dN zf))) dN)))) (ze (lP nd (o9 (o4 xv (oMod (oDiv (xc T.aG (zw T) hr (za xv (za dN zf))) dN) dN)))) (ze (kO nd (oDiv (xc T.aG (zw T) hr (za xv (za dN zf))) dN)) (ze (CO (k:=0) (N:=["_law_k","_law_script","_law_many","_law_turn"]) (om:=mO [0]) (cap:=[0,1,3]) (own:=1) nd (XI.cc (zy (n:=0) T.bi (za xv zf))) (λ_ _ _ _ _ h=>(oF h)) (λ_ _ _ _ _=>yh) (λ_ _ _ _ _=>(jG T.aK (U8 T) hr (za (xc T.aG (zw T) hr (za xv (za (jP (o4 dN xv)) zf))) (za xv (za xv (za xv zf))))))) (ze (CO (k:=0) (N:=["_law_k"]) (om:=mO [0]) (cap:=[]) (own:=1) nd (XI.cc (zy (n:=0) T.bi (za xv zf))) (λ_ _ _ _ _ h=>(oF h)) (λ_ _ _ _ _=>yh) (λ_ _ _ _ _=>(o9 (o4 (wa (n:=0)) (Wa (k:=0) UY YL rfl T.bk Re (za xv zf)))))) (ze (Rq (xc T.au (UN T) hr (za (jP (FD T.f T.z (ud T) hr (za xv (za (jP (xI (N:=["_law_arrow_here"]) (om:=mO [0]) (cap:=[]) (own:=1) (yb (n:=0) xv) (λ_ _ _ _ _ h=>(oF h)) (λ_ _ _ _ _=>yh) (λ_ _ _ _ _=>(jG T.aL (qk T) hr (za xv (za (jF xv dN) zf)))))) zf)))) zf)) (Gj (n:=0) rfl (zx (oE nd) (zx (oE nd) (zx (oE nd) uk))))) (ze (lP nd (jG T.aM (U9 T) hr (za xv (za (jF xv dN) zf)))) (ze (oy (Ad xv dN) (lO (wp (n:=0)))) (ze (CO (k:=0) (N:=["_law_start","_law_goal","_law_time","_law_behind","_law_whole"]) (om:=mO [0,0,0,0]) (cap:=[9]) (own:=4) nd (yb (n:=0) xv) (λ_ _ _ _ _ h=>(Jy (n:=0) rfl (yf (oF h) (yf (oF h) (yf (oF h) (yf (oF h) jg)))))) (λ_ _ _ _ _=>yh) (λ_ _ _ _ _=>(o9 (yx (zk (XE.ow xv) (zk (XE.ow xv) (zk (XE.ow (kR xv xv)) (zk (XE.ow xv) zu)))))))) (ze (lP nd (o9 (FD T.f T.z (ud T) hr (za xv (za (jP (xI (N:=["_law_arrow_here"]) (om:=mO [0]) (cap:=[]) (own:=1) (yb (n:=0) xv) (λ_ _ _ _ _ h=>(oF h)) (λ_ _ _ _ _=>yh) (λ_ _ _ _ _=>(jG T.aL (qk T) hr (za xv (za (jF xv dN) zf)))))) zf))))) (ze (lP nd (o9 (xI (N:=["_law_one","_law_whole"]) (om:=mO [0]) (cap:=[9]) (own:=1) (yb (n:=0) xv) (λ_ _ _ _ _ h=>(oF h)) (λ_ _ _ _ _=>yh) (λ_ _ _ _ _=>(XE.ow (kR (jF xv dN) (oDiv xv (jF xv dN)))))))) (ze (lP nd (o9 (xI (N:=["_law_top","_law_tops"]) (om:=mO [0]) (cap:=[11]) (own:=1) (yb (n:=0) xv) (λ_ _ _ _ _ h=>(oF h)) (λ_ _ _ _ _=>yh) (λ_ _ _ _ _=>(XE.ow (sV xv (ya (k:=0) (Wg rfl) Zd rfl T.bh zrt (za xv zf)))))))) (ze (oy (Ad (ya (k:=0) (ub rfl) JB rfl T.bg u0 (za xv zf)) (qz (k:=0) M5 MM dN dN)) (lO (wp (n:=0)))) (ze (kO nd (kR (jF xv dN) (oDiv xv (jF xv dN)))) (ze (lP nd (o9 (FD T.g T.ay (wz T) hr (za xv (za xv (za xv zf)))))) (ze (kO nd (jF (jF xv (jF xv (oMod (xc T.aG (zw T) hr (za xv (za dN zf))) (rq T.be (za xv zf))))) dN)) (ze (kO nd (oMod (xc T.aG (zw T) hr (za xv (za dN zf))) dN)) (ze (lP nd (o9 (o4 dN (oMod (xc T.aG (zw T) hr (za xv (za dN zf))) dN)))) (ze (xF (yz xv) (oE nd) (zh (oy (XW.t (CP (Gg hr (jP (uj (n:=1) (c0:=5) (ns:=[0]) (nd:=[]) (pQ:=[]) (XE.up xv (by decide:0<=1)) T.g.cl T.aw.me (yk T) (hr.mono (by decide)) T.aw.bd .nil (λ_ _=>.nil) (za xv zf))) dN) (u5 (Ef (xc T.aD (xy T) hr (za xv (za (jF (jF xv xv) dN) zf))) uY)))) (lO (wp (n:=0)))))) (ze (oy (wc (yw (xc T.aO (UP T) hr (za xv (za xv (za xv (za xv (za xv (za xv zf))))))))) (lO (wp (n:=0)))) (ze (oy (XW.t (Gi (Ad xv dN) (ui (wc (yw (xc T.aN (UO T) hr (za xv (za xv (za (sV xv dN) zf))))))))) (lO (wp (n:=0)))) (ze (lP nd (o9 (FD T.g T.ay (wz T) hr (za xv (za xv (za (jP (o4 (jP (o4 xv dN)) (oMod (oDiv (xc T.aG (zw T) hr (za xv (za dN zf))) dN) dN))) zf)))))) (zh (yc (jG T.aP (Vi T) hr (za xv (za xv (za xv (za xv (za xv zf))))))))))))))))))))))))))))))
end
local macro_rules| `(tactic|walk_at "mix")=>`(tactic|simp -implicitDefEqProofs [cl,mOfX,sSeqX,sDropX,sForX,sIfX,sRaise,sTry,thD,hitL,isiX,fldX,xOf,sRetX,sSetX,mOf,startD,sSeq,sIf,sSet,sRet,sRetN,sDrop,sPar,sAsg,sApp,sFor,lsD,zow,sSkip,eC,e1,e2,eN,aNil,aCons,pNo,pInt,uo,tb,zr6,bNot,bAnd,bOr,eB,eIf,gV,gT,gsCons,gsNil,zki,zkk,zdm,zot,zdn,zou,ym,zkm,zkl,zkn,zov,zr5,D.isN,D.isB,xw,zr7,v8,xu,wx,v9,zkg,zkh,zet,uo,zck,zhn,sFz,zk1,zk2, *])
noncomputable def eF (n:Nat)(f:Nat->Int):List D:=(bR n).map λg=>D.int (f g)
theorem Zx (n:Nat)(f:Nat->Int):(eF n f).length=n:=by simp[eF]
theorem ql {n:Nat}(f:Nat->Int){g:Nat}(h:g<n):atI (eF n f) (g:Int)=sI (f g):=by refine yg ?_;simp[eF,h]
theorem QL {n:Nat}(f:Nat->Int){g:Nat}(h:g<n)(v:Int):pL (eF n f) (g:Int) (.int v)=some (eF n λx=>if x=g then v else f x):=by
 unfold pL;have hx:ixN (eF n f).length (g:Int)=some g:=by unfold ixN;rw[Zx];rw[if_pos (by omega),if_pos (by omega)];simp
 rw[hx];simp only[de,Option.some.injEq];apply mX
 ·simp[eF]
 ·intro i h1 h2;simp[eF,qT];by_cases hi:g=i
  ·subst hi;simp
  ·rw[if_neg hi,if_neg (λz=>hi z.symm)]
theorem QM {i:Nat}{fj f:EF}{gi:Int->Int->Int}{ρ:L3.Env}{n g:Nat}{w:Nat->Int}{y:Int}(h1:(ρ[i]?).join=sL (eF n w))(h2:fj ρ=sI (g:Int))(h3:f ρ=sI y)(hg:g<n) :
  vY i fj gi f ρ=some (.nx (ρ.set i (sL (eF n λx=>if x=g then gi (w g) y else w x)))):=by
 unfold vY;have:eV i ρ=sL (eF n w):=h1;rw[this,h2,h3];simp only[de,ql w hg,QL w hg]
noncomputable def bS (p:List Nat):List D:=p.map λ(x:Nat)=>D.int (x:Int)
theorem u7 {f:EF}{r:L3.Env}{n:Nat}(h:f r=sI (n:Int))(hn:n<=1000000):((aCons f aNil) r).bind kT=some ((bR n).map λ(t:Nat)=>D.int (t:Int)):=by
 have e:(aCons f aNil) r=some [.int (n:Int)]:=by unfold aCons;rw[h];rfl
 rw[e,de,vg (by omega) (by omega)];unfold iT;simp
variable {α:Type}{fi:L3.Env->Option (List D)}
theorem xh {own:Nat}{cap:List Nat}{g:D->L3.Env->Option L3.Env}{p:BF}{f:EF}{r:L3.Env}(enc:α->D)(q:α->Bool)(h:α->D)(xs:List α)(hi:fi r=some (xs.map enc))(hl:xs.length<=16777216)
  (st:∀x∈xs,∃ρ1,g (enc x) (bW own none++eE r cap)=some ρ1/\p ρ1=some (q x)/\(q x=true->f ρ1=some (h x))):eY fi own cap g p f r=sL ((xs.filter q).map h):=by
 unfold eY;rw[hi];simp only[de,bQ];rw[if_pos hl,Po enc q h xs st];rfl
theorem QN {n i:Nat}(h:i<n):ixN n (i:Int)=some i:=by unfold ixN;rw[if_pos (by omega),if_pos (by omega)];simp
theorem ye {own:Nat}{cap:List Nat}{g:D->L3.Env->Option L3.Env}{f:EF}{r:L3.Env}(enc:α->D)(h:α->D)(xs:List α)(hi:fi r=some (xs.map enc))(hl:xs.length<=16777216)
  (st:∀x∈xs,∃ρ1,g (enc x) (bW own none++eE r cap)=some ρ1/\f ρ1=some (h x)):eY fi own cap g i7 f r=sL (xs.map h):=by
 have:=xh (p:=i7) enc (λ_=>true) h xs hi hl λx hx=>by obtain⟨ρ1,h1,h2⟩:=st x hx;exact⟨ρ1,h1,rfl,λ_=>h2⟩
 rw[this,yY.mpr λ_ _=>rfl]
theorem P6 {α:Type}(enc:α->D):∀(as:List α) (k:Nat),hE k (as.map enc)=(as.zipIdx k).map λ(p:α×Nat)=>D.tup [.int (p.2:Int),enc p.1]
 |[],_=>rfl
 |a::as,k=>by show _::hE (k+1) (as.map enc)=_::_;rw[P6 enc as (k+1)]
theorem Rw {as:List α}{p:α×Nat}(h:p∈as.zipIdx):as[p.2]?=some p.1:=List.mem_zipIdx_iff_getElem?.mp h
theorem OW {α:Type}(q:α->Bool):∀(as:List α) (k:Nat),((as.zipIdx k).filter λp=>q p.1).map (·.1)=as.filter q
 |[],_=>rfl
 |a::as,k=>by rw[Bo,Bj,Bj];cases h:q a<;>simp[h,OW q as (k+1)]
inductive Kd where
 |ride|wait|back
deriving DecidableEq
structure eA where
 c:Kd
 s:Nat
 g:Nat
 t:Int
 b:Nat
deriving DecidableEq
variable {P:List Nat}{W:List eA}{a:eA}{here mv:Nat}
namespace Kahn
noncomputable def cnt (W:List eA)(P:List Nat)(g:Nat):Nat:=W.countP λa=>decide (a.g=g/\a.s∉P)
structure Ok (W:List eA)(mv:Nat)(p:List Nat):Prop where
 nd:p.Nodup
 lt:∀x∈p,x<mv
 ord:∀(i x:Nat),p[i]?=some x->∀a∈W,a.g=x->a.s∈p.take i
theorem Ok.snoc {p:List Nat}{x:Nat}(h:Ok W mv p)(hx:x∉p)(hl:x<mv)(ho:∀a∈W,a.g=x->a.s∈p):Ok W mv (p++[x]) where
 nd:=by rw[cF];exact⟨h.nd,by simp,λa ha b hb e=>by simp at hb;subst hb;subst e;exact hx ha⟩
 lt:=λy hy=>by
  rcases cA.mp hy with hy|hy
  ·exact h.lt y hy
  ·simp at hy;subst hy;exact hl
 ord:=λi y hy a ha e=>by
  by_cases hi:i<p.length
  ·rw[dE hi]at hy;rw[fu (by omega)];exact h.ord i y hy a ha e
  ·rw[f9 (by omega)]at hy;have K5:i-p.length=0:=by
    cases hq:i-p.length with
    |zero=>rfl
    |succ k=>rw[hq]at hy;simp at hy
   rw[K5]at hy;simp at hy;subst hy;have:i=p.length:=by omega
   rw[this,Cm]
   ·exact ho a ha e
   ·rfl
noncomputable def stp (here:Nat)(S:(Nat->Int)×List Nat)(a:eA):(Nat->Int)×List Nat :=
 if a.s=here then
  let f':Nat->Int:=λx=>if x=a.g then S.1 a.g-1 else S.1 x
  (f',if f' a.g=0 then S.2++[a.g]else S.2)
 else S
structure In (W:List eA)(mv:Nat)(P:List Nat)(here:Nat)(pre:List eA)(S:(Nat->Int)×List Nat):Prop where
 ok:Ok W mv S.2
 f:∀g,S.1 g=(cnt W P g:Int)-(pre.countP λa=>decide (a.g=g/\a.s=here):Nat)
 z:∀g,g<mv->(g∈S.2↔S.1 g=0)
 sub:∀x,(x∈P\/x=here)->x∈S.2
theorem zsi {pre post:List eA}(e:W=pre++a::post)(hP:here∉P)(ha:a.s=here):(pre.countP λx=>decide (x.g=a.g/\x.s=here))+1<=cnt W P a.g:=by
 unfold cnt;rw[e,lQ,gM];have h1:(pre.countP λx=>decide (x.g=a.g/\x.s=here))<=pre.countP λx=>decide (x.g=a.g/\x.s∉P):=by apply wO;intro x _ hx;simp at hx ⊢;exact⟨hx.1,by rw[hx.2];exact hP⟩
 have h2:(decide (a.g=a.g/\a.s∉P))=true:=by simp[ha,hP]
 rw[h2];simp only[if_true];omega
theorem In.step {pre post:List eA}{S:(Nat->Int)×List Nat}(h:In W mv P here pre S)(e:W=pre++a::post)(hP:here∉P)(hl:a.g<mv):In W mv P here (pre++[a]) (stp here S a):=by
 by_cases ha:a.s=here
 ·have S7:=zsi e hP ha;have hf:∀g,(if g=a.g then S.1 a.g-1 else S.1 g)=(cnt W P g:Int)-((pre++[a]).countP λx=>decide (x.g=g/\x.s=here):Nat):=λg=>by
   rw[lQ,wQ];by_cases hg:g=a.g
   ·subst hg;rw[if_pos rfl,h.f];have:decide (a.g=a.g/\a.s=here)=true:=by simp[ha]
    rw[this];simp only[if_true];omega
   ·rw[if_neg hg,h.f];have:decide (a.g=g/\a.s=here)=false:=by simp;intro z;exact absurd z.symm hg
    rw[this];simp
  have nU:S.1 a.g≠0:=by rw[h.f];omega
  have AC:a.g∉S.2:=λz=>nU ((h.z a.g hl).mp z);by_cases h0:S.1 a.g-1=0
  ·have es:stp here S a=(λx=>if x=a.g then S.1 a.g-1 else S.1 x,S.2++[a.g]):=by unfold stp;simp[ha,h0]
   rw[es];refine⟨h.ok.snoc AC hl λb hb eb=>?_,hf,λg hg=>?_,λx hx=>cC _ (h.sub x hx)⟩
   ·
    refine h.sub _ (Classical.byContradiction λhc=>?_);have IN:b.s∉P:=λz=>hc (.inl z);have CF:b.s≠here:=λz=>hc (.inr z);have h1:cnt W P a.g=(pre.countP λx=>decide (x.g=a.g/\x.s=here))+1:=by have:=h.f a.g;omega
    have h2:(W.countP λx=>decide (x.g=a.g/\x.s=here))+(W.countP λx=>decide (x.g=a.g/\x.s∉P/\x.s≠here))<=cnt W P a.g:=by
     have:cnt W P a.g=(W.countP λx=>decide (x.g=a.g/\x.s=here))+(W.countP λx=>decide (x.g=a.g/\x.s∉P/\x.s≠here)):=by
      unfold cnt;clear h1 hc IN CF eb hb h0 hf S7 e h;induction W with
      |nil=>rfl
      |cons x W ih=>simp only[gM];rw[ih];by_cases q1:x.g=a.g<;>by_cases q2:x.s=here<;>by_cases q3:x.s∈P<;>simp_all<;>omega
     omega
    have h3:(pre.countP λx=>decide (x.g=a.g/\x.s=here))+1<=W.countP λx=>decide (x.g=a.g/\x.s=here):=by
     rw[e,lQ,gM];have:decide (a.g=a.g/\a.s=here)=true:=by simp[ha]
     rw[this];simp only[if_true];omega
    have h4:0<W.countP λx=>decide (x.g=a.g/\x.s∉P/\x.s≠here):=by rw[List.countP_pos_iff];exact⟨b,hb,by simp[eb,IN,CF]⟩
    omega
   ·rw[cA,bU];by_cases vG:g=a.g
    ·subst vG;simp[h0]
    ·dsimp only;rw[if_neg vG,h.z g hg];simp[vG]
  ·have es:stp here S a=(λx=>if x=a.g then S.1 a.g-1 else S.1 x,S.2):=by unfold stp;simp[ha,h0]
   rw[es];refine⟨h.ok,hf,λg hg=>?_,h.sub⟩;by_cases vG:g=a.g
   ·subst vG;dsimp only;rw[if_pos rfl];exact⟨λz=>absurd z AC,λz=>absurd z h0⟩
   ·dsimp only;rw[if_neg vG];exact h.z g hg
 ·have:stp here S a=S:=by unfold stp;rw[if_neg ha]
  rw[this];refine⟨h.ok,λg=>?_,h.z,h.sub⟩;rw[lQ,wQ];have:decide (a.g=g/\a.s=here)=false:=by simp[ha]
  rw[this,h.f];simp
theorem In.fold {W:List eA}{mv:Nat}{P:List Nat}{here:Nat}(hP:here∉P)(hl:∀a∈W,a.g<mv):∀(post pre:List eA) (S:(Nat->Int)×List Nat),W=pre++post->In W mv P here pre S->In W mv P here W (post.foldl (stp here) S)
 |[],pre,S,e,h=>by rw[e] ;simpa using(by rw[cP]at e;subst e;exact h)
 |a::post,pre,S,e,h=>by have:=In.fold hP hl post (pre++[a]) (stp here S a) (by rw[e];simp) (h.step e hP (hl a (by rw[e];simp)));exact this
theorem XB {g:Nat}(hP:here∉P):(cnt W P g:Int)-(W.countP λa=>decide (a.g=g/\a.s=here):Nat)=cnt W (P++[here]) g:=by
 have:cnt W P g=(W.countP λa=>decide (a.g=g/\a.s=here))+cnt W (P++[here]) g:=by
  unfold cnt;induction W with
  |nil=>rfl
  |cons x W ih=>simp only[gM];rw[ih];by_cases q1:x.g=g<;>by_cases q2:x.s=here<;>by_cases q3:x.s∈P<;>simp_all<;>omega
 omega
structure Wh (W:List eA)(mv:Nat)(f:Nat->Int)(p:List Nat)(d:Nat):Prop where
 ok:Ok W mv p
 dl:d<=p.length
 fe:∀g,f g=cnt W (p.take d) g
 z:∀g,g<mv->(g∈p↔f g=0)
theorem Wh.step {f:Nat->Int}{p:List Nat}{d:Nat}(h:Wh W mv f p d)(hl:∀a∈W,a.g<mv)(hh:p[d]?=some here) :
  Wh W mv (W.foldl (stp here) (f,p)).1 (W.foldl (stp here) (f,p)).2 (d+1)/\∃q,(W.foldl (stp here) (f,p)).2=p++q:=by
 have hd:d<p.length:=(bZ.mp hh).1;have hP:here∉p.take d:=λz=>by
  obtain⟨i,hi,e⟩:=gE.mp z;have K5:i<d:=by rw[m7]at hi;omega
  rw[AT]at e;have e2:p[d]=here:=by have:=bZ.mp hh;exact this.2
  have:=(qR (xs:=p) (h₀:=by omega) (h₁:=hd) h.ok.nd).mp (e.trans e2.symm);omega
 have KU:∀(l:List eA) (S:(Nat->Int)×List Nat),∃q,(l.foldl (stp here) S).2=S.2++q:=by
  intro l;induction l with
  |nil=>exactλS=>⟨[],by simp⟩
  |cons a l ih=>
   intro S;obtain⟨q,hq⟩:=ih (stp here S a);have:∃r,(stp here S a).2=S.2++r:=by
    by_cases ha:a.s=here
    ·by_cases h0:S.1 a.g-1=0
     ·exact⟨[a.g],by unfold stp;simp[ha,h0]⟩
     ·exact⟨[],by unfold stp;simp[ha,h0]⟩
    ·exact⟨[],by unfold stp;simp[ha]⟩
   obtain⟨r,hr⟩:=this;exact⟨r++q,by rw[dS,hq,hr,fL]⟩
 obtain⟨q,hq⟩:=KU W (f,p);have I:=In.fold hP hl W [] (f,p) rfl ⟨h.ok,λg=>by show f g=_;rw[h.fe];simp,h.z,λx hx=>by
  rcases hx with hx|rfl
  ·exact kQ hx
  ·exact cJ.mpr ⟨d,hh⟩⟩
 have Hf:(W.foldl (stp here) (f,p)).2.take (d+1)=p.take d++[here]:=by rw[hq];show(p++q).take (d+1)=_;rw[fu (by omega),List.take_succ,hh];rfl
 refine⟨⟨I.ok,?_,λg=>?_,I.z⟩,q,hq⟩
 ·rw[hq];show d+1<=(p++q).length;rw[cn];omega
 ·rw[I.f,Hf];exact XB hP
theorem cnt_zero {g:Nat}:cnt W P g=0↔∀a∈W,a.g=g->a.s∈P:=by
 unfold cnt;rw[List.countP_eq_zero];constructor
 ·intro h a ha e;have:=h a ha;simp at this;exact Classical.byContradiction λz=>z (this e)
 ·intro h a ha;simp;exact h a ha
theorem Wh.all {f:Nat->Int}{p:List Nat}(h:Wh W mv f p p.length)(rank:Nat->Nat)(hr:∀a∈W,rank a.s<rank a.g)(hs:∀a∈W,a.s<mv):∀g,g<mv->g∈p:=by
 have:∀n g,rank g<n->g<mv->g∈p:=by
  intro n;induction n with
  |zero=>intro g h;omega
  |succ n ih=>intro g hg hl;rw[h.z g hl,h.fe,Bn];have:cnt W p g=0:=cnt_zero.mpr λa ha e=>ih a.s (by have:=hr a ha;rw[e]at this;omega) (hs a ha);rw[this];rfl
 exactλg hl=>this (rank g+1) g (by omega) hl
theorem len_of {p:List Nat}(nd:p.Nodup)(lt:∀x∈p,x<mv)(all:∀g,g<mv->g∈p):p.length=mv:=by
 have h1:p.Perm (bR mv):=by rw[sK nd nc];intro a;rw[ce];exact⟨lt a,all a⟩
 simpa using h1.length_eq
theorem len_le {p:List Nat}(nd:p.Nodup)(lt:∀x∈p,x<mv):p.length<=mv:=by
 have h1:(p++(bR mv).filter λx=>decide (x∉p)).Perm (bR mv):=by
  rw[sK (by rw[cF];refine⟨nd,nc.filter _,λa ha b hb e=>?_⟩;subst e;simp at hb;exact hb.2 ha) nc];intro a;rw[cA,cI,ce];constructor
  ·rintro(h|h)
   ·exact lt a h
   ·exact h.1
  ·intro h;by_cases ha:a∈p
   ·exact .inl ha
   ·exact .inr ⟨h,by simpa using ha⟩
 have:=h1.length_eq;rw[cn,cE]at this;omega
end Kahn
noncomputable def Kd.n:Kd->Nat
 |.ride=>1|.wait=>2|.back=>3
noncomputable def cS (a:eA):D:=.obj a.c.n ["start","goal","time","behind"] [.int a.s,.int a.g,.int a.t,.int a.b]
theorem fs (a:eA):dq [0,1,2,3] "start" (cS a)=sI a.s:=by obtain⟨c,_,_,_,_⟩:=a;cases c<;>rfl
theorem fg (a:eA):dq [0,1,2,3] "goal" (cS a)=sI a.g:=by obtain⟨c,_,_,_,_⟩:=a;cases c<;>rfl
theorem ft (a:eA):dq [0,1,2,3] "time" (cS a)=sI a.t:=by obtain⟨c,_,_,_,_⟩:=a;cases c<;>rfl
theorem fb (a:eA):dq [0,1,2,3] "behind" (cS a)=sI a.b:=by obtain⟨c,_,_,_,_⟩:=a;cases c<;>rfl
structure Right (mv:Nat)(a:eA):Prop where
 s:a.s<mv
 g:a.g<mv
 t0:0<=a.t
 t1:a.t<=1000000000
 b:a.b<=4
 r:a.c=.ride->a.b=0
 k:a.c=.back->1<=a.b
theorem vk {n l m:Int}(h1:l<=n)(h2:n<=m):dW [.int n,.int l,.int m]=some (.bl true):=by unfold dW;have q1 (i:Int):sU "int" (.int i)=some (.bl true):=rfl;have q2 (i:Int):sU "bool" (.int i)=some (.bl false):=rfl;walk_at "mix"
theorem isA (all sub:List Nat)(a:eA):BX all sub (cS a)=if all.contains a.c.n=true then some (.bl (sub.contains a.c.n))else none:=rfl
theorem Zy (h:Right mv a):nj [cS a,.int (mv:Int)]=some (.bl true):=by
 have w1:dW [.int (a.s:Int),.int 0,.int ((mv:Int)-1)]=some (.bl true):=vk (by omega) (by have:=h.s;omega);have w2:dW [.int (a.g:Int),.int 0,.int ((mv:Int)-1)]=some (.bl true):=vk (by omega) (by have:=h.g;omega);have w3:dW [.int a.t,.int 0,.int 1000000000]=some (.bl true):=vk h.t0 h.t1;have f1:=fs a;have f2:=fg a;have f3:=ft a;have f4:=fb a;have hi:=λall sub=>isA all sub a;have hb:=h.b;have hr:=h.r;have hk:=h.k;clear h;unfold nj;cases hc:a.c with
 |ride=>have w4:dW [.int (a.b:Int),.int 0,.int 0]=some (.bl true):=vk (by omega) (by have:=hr hc;omega);rw[hc]at hi;clear hr hk hb;have hn:Kd.ride.n=1:=rfl;walk_at "mix"
 |wait=>have w4:dW [.int (a.b:Int),.int 0,.int 4]=some (.bl true):=vk (by omega) (by omega);rw[hc]at hi;clear hr hk hb;have hn:Kd.wait.n=2:=rfl;walk_at "mix"
 |back=>have w4:dW [.int (a.b:Int),.int 1,.int 4]=some (.bl true):=vk (by have:=hk hc;omega) (by omega);rw[hc]at hi;clear hr hk hb;have hn:Kd.back.n=3:=rfl;walk_at "mix"
noncomputable def W0 (as:List eA):List eA:=as.filter λa=>decide (a.b=0)
theorem UX (as:List eA)(l:as.length<=16777216)(r:L3.Env)(h:r[1]?.join=sL (as.map cS)) :
  mh r=sL ((W0 as).map cS):=by
 have e:lsD (eV 1) r=some (as.map cS):=by unfold lsD;have:eV 1 r=sL (as.map cS):=h;rw[this];rfl
 refine xh cS (λa=>decide (a.b=0)) cS as e l λa _=>⟨_,rfl,?_,λ_=>rfl⟩;have:=fb a;walk_at "mix"
noncomputable def GJ (s:(Nat->Int)×Option D)(a:eA):(Nat->Int)×Option D:=(λx=>if x=a.g then s.1 a.g+1 else s.1 x,some (cS a))
theorem P7:∀(W:List eA) (s:(Nat->Int)×Option D) (g:Nat),(W.foldl GJ s).1 g=s.1 g+(W.countP λa=>decide (a.g=g):Nat)
 |[],s,g=>by simp
 |a::W,s,g=>by
  rw[dS,P7 W,gM];by_cases hg:g=a.g
  ·subst hg;simp[GJ];omega
  ·have:decide (a.g=g)=false:=by simp;exactλz=>hg z.symm
   simp[GJ,hg,this]
theorem Mu (p:List Nat)(x:Nat):bS p++[D.int (x:Int)]=bS (p++[x]):=by simp[bS]
variable {as:List eA}
theorem Zz {f:Nat->Int}{p:List Nat}{d:Nat}{x4:Option D}(hm:mv<=1000)(hW:∀a∈W0 as,a.s<mv/\a.g<mv)(h:Kahn.Wh (W0 as) mv f p d)(hh:p[d]?=some here) :
  ∃x,gN (gV 4) gz ((W0 as).map cS) [sI (mv:Int),sL (as.map cS),sL ((W0 as).map cS),sL (eF mv f),x4,sL (bS p),sI (d:Int),sI (here:Int)] =
   some (.nx [sI (mv:Int),sL (as.map cS),sL ((W0 as).map cS),sL (eF mv ((W0 as).foldl (Kahn.stp here) (f,p)).1),x,sL (bS ((W0 as).foldl (Kahn.stp here) (f,p)).2),sI (d:Int),sI (here:Int)]):=by
 have hd:d<p.length:=(bZ.mp hh).1;have hP:here∉p.take d:=λz=>by
  obtain⟨i,hi,e⟩:=gE.mp z;have K5:i<d:=by rw[m7]at hi;omega
  rw[AT]at e;have e2:p[d]=here:=(bZ.mp hh).2;have:=(qR (xs:=p) (h₀:=by omega) (h₁:=hd) h.ok.nd).mp (e.trans e2.symm);omega
 obtain⟨ρ',h1,x,pre,e1,e2⟩:=ve (g:=gV 4) (b:=gz) (ds:=(W0 as).map cS) (ρ:=[sI (mv:Int),sL (as.map cS),sL ((W0 as).map cS),sL (eF mv f),x4,sL (bS p),sI (d:Int),sI (here:Int)])
  (λds ρ=>∃x pre,ds=pre.map cS/\(∃post,W0 as=pre++post)/\Kahn.In (W0 as) mv (p.take d) here pre (pre.foldl (Kahn.stp here) (f,p))/\ρ=[sI (mv:Int),sL (as.map cS),sL ((W0 as).map cS),sL (eF mv (pre.foldl (Kahn.stp here) (f,p)).1),x,sL (bS (pre.foldl (Kahn.stp here) (f,p)).2),sI (d:Int),sI (here:Int)])
  ⟨x4,[],rfl,⟨_,rfl⟩,⟨h.ok,λg=>by show f g=_;rw[h.fe];simp,h.z,λx hx=>by
   rcases hx with hx|rfl
   ·exact kQ hx
   ·exact cJ.mpr ⟨d,hh⟩⟩,rfl⟩ (by
  rintro ds dd post ρ e ⟨x,pre,rfl,⟨nY,e'⟩,I,rfl⟩;rw[e',dU]at e;have e3:=vA e;cases nY with
  |nil=>cases e3
  |cons a nY=>
   rw[ck]at e3;cases e3;have ha:a∈W0 as:=by rw[e'];simp
   have hl:=Kahn.len_le I.ok.nd I.ok.lt;have I2:=I.step e' hP (hW a ha).2;refine⟨_,_,rfl,.inl ?_,some (cS a),pre++[a],by simp,⟨nY,by rw[e'];simp⟩,by rw[mD];exact I2,rfl⟩;rw[mD];generalize pre.foldl (Kahn.stp here) (f,p)=S at hl;show gz _=some (.nx [_,_,_,sL (eF mv (Kahn.stp here S a).1),_,sL (bS (Kahn.stp here S a).2),_,_]);have f1:=fs a;have f2:=fg a;have eP:(bS S.2).length<16777216:=by simp[bS];omega
   unfold gz;by_cases hs:a.s=here
   ·have F9:((a.s:Nat):Int)=(here:Int):=by rw[hs]
    have au:=QM (i:=3) (fj:=e1 (dq [0,1,2,3] "goal") (eV 4)) (f:=eC (.int 1)) (gi:=λi j=>i-j) (ρ:=[sI (mv:Int),sL (as.map cS),sL ((W0 as).map cS),sL (eF mv S.1),some (cS a),sL (bS S.2),sI (d:Int),sI (here:Int)]) (n:=mv) (g:=a.g) (w:=S.1) (y:=1) rfl (by walk_at "mix") rfl (hW a ha).2;have va:ed (.lst (eF mv λx=>if x=a.g then S.1 a.g-1 else S.1 x)) (.int (a.g:Int))=sI (S.1 a.g-1):=by have:=ql (λx=>if x=a.g then S.1 a.g-1 else S.1 x) (hW a ha).2;rw[if_pos rfl]at this;exact this
    by_cases h0:S.1 a.g-1=0
    ·have es:Kahn.stp here S a=(λx=>if x=a.g then S.1 a.g-1 else S.1 x,S.2++[a.g]):=by unfold Kahn.stp;simp[hs,h0]
     rw[es,←Mu];rw[h0]at va;clear I I2 e' es;walk_at "mix"
    ·have es:Kahn.stp here S a=(λx=>if x=a.g then S.1 a.g-1 else S.1 x,S.2):=by unfold Kahn.stp;simp[hs,h0]
     rw[es];clear I I2 e' es;walk_at "mix"
   ·have es:Kahn.stp here S a=S:=by unfold Kahn.stp;rw[if_neg hs]
    rw[es];have F9:¬((a.s:Nat):Int)=(here:Int):=by omega
    clear I I2 e' es;walk_at "mix")
 obtain⟨⟨post,e2⟩,I,rfl⟩:=e2;have:pre=W0 as:=by have:=congrArg jT e1;rw[bQ,bQ]at this;rw[e2,cn]at this;have hp:post=[]:=gX (by omega);rw[e2,hp,cP]
 rw[this]at h1;exact⟨x,h1⟩
theorem XC (as:List eA)(l:as.length<=1000)(hm:mv<=1000)(hs:∀a∈as,a.s<mv/\a.g<mv) :
  ∃(f:Nat->Int) (p:List Nat),gw [.int (mv:Int),.lst (as.map cS)]=sL (bS p)/\Kahn.Wh (W0 as) mv f p p.length:=by
 have hW:∀a∈W0 as,a.s<mv/\a.g<mv:=λa ha=>hs a (cI.mp ha).1;obtain⟨c1,_⟩:=j5 (g:=gV 4) (b:=kd) cS (λs:(Nat->Int)×Option D=>[sI (mv:Int),sL (as.map cS),sL ((W0 as).map cS),sL (eF mv s.1),s.2,none,none,none])
  GJ (λ_=>True) (W0 as) (λ_=>0,none) trivial (λs a ha _=>by
   refine⟨_,rfl,.inl ?_,trivial⟩;unfold kd;have f2:=fg a;rw[QM (n:=mv) (g:=a.g) (w:=s.1) (y:=1) rfl (by walk_at "mix") rfl (hW a ha).2]
   rfl)
 have c2:=P7 (W0 as) (λ_=>0,none);generalize SU:(W0 as).foldl GJ (λ_=>0,none)=S0 at c1 c2;obtain⟨f0,y4⟩:=S0;dsimp only at c1 c2;have To:∀r:L3.Env,r[0]?.join=sI (mv:Int)->r[3]?.join=sL (eF mv f0)->ma r=sL (bS ((bR mv).filter λg=>decide (f0 g=0))):=by
  intro r h0 h3;refine xh (λ(t:Nat)=>D.int (t:Int)) (λg=>decide (f0 g=0)) (λ(t:Nat)=>D.int (t:Int)) (bR mv) (u7 h0 (by omega)) (by rw[cE];omega) ?_
  ·intro g hg;refine⟨_,rfl,?_,λ_=>rfl⟩;have hg:g<mv:=ce.mp hg;have hv:ed (.lst (eF mv f0)) (.int (g:Int))=sI (f0 g):=ql f0 hg;have hc:eE r [3]=[sL (eF mv f0)]:=by unfold eE;simp[h3]
   rw[hc];walk_at "mix"
 generalize hq:((bR mv).filter λg=>decide (f0 g=0))=p0 at To;have w0:Kahn.Wh (W0 as) mv f0 p0 0:=by
  have hf:∀g,f0 g=Kahn.cnt (W0 as) [] g:=λg=>by rw[c2 g];unfold Kahn.cnt;simp
  refine⟨⟨by rw[←hq];exact nc.filter _,λx hx=>by rw[←hq,cI,ce]at hx;exact hx.1,λi x hx a ha e=>?_⟩,by omega,hf,λg hg=>by rw[←hq,cI,ce];simp[hg]⟩;have xG:x∈p0:=cJ.mpr ⟨i,hx⟩;rw[←hq,cI]at xG;have h0:f0 x=0:=by simpa using xG.2
  rw[hf]at h0;have:=Kahn.cnt_zero.mp (by exact_mod_cast h0) a ha e;cases this
 obtain⟨ρ',h1,⟨f,p,d,x4,x7,rfl,wh⟩,h3⟩:=OU (c:=tb (e2 qL (eV 6) (eN eW (aCons (eV 5) aNil)))) (b:=kc)
  (λρ=>∃f p d x4 x7,ρ=[sI (mv:Int),sL (as.map cS),sL ((W0 as).map cS),sL (eF mv f),x4,sL (bS p),sI ((d:Nat):Int),x7]/\Kahn.Wh (W0 as) mv f p d)
  (λρ:L3.Env=>match ρ[6]? with|some (some (D.int i))=>(1001-i).toNat|_=>0) (by
   rintro ρ ⟨f,p,d,x4,x7,rfl,wh⟩;have hl:(bS p).length=p.length:=by simp[bS]
   refine⟨decide ((d:Int)<(p.length:Int)),by walk_at "mix",λht=>?_⟩;have hd:d<p.length:=by simpa using ht
   have hh:p[d]?=some p[d]:=by simp[hd]
   obtain⟨x,sS⟩:=Zz (x4:=x4) hm hW wh hh;obtain⟨Ih,q,_⟩:=wh.step (λa ha=>(hW a ha).2) hh;have mW:=Kahn.len_le Ih.ok.nd Ih.ok.lt;have hdl:=Ih.dl;refine⟨_,.inl ?_,⟨_,_,d+1,x,sI (p[d]:Int),rfl,Ih⟩,?_⟩
   ·have S9:ed (.lst (bS p)) (.int (d:Int))=sI (p[d]:Int):=yg (by simp[bS,hd]);have hau:i2 (λi j=>D.int (i+j)) (.int (d:Int)) (.int 1)=sI ((d+1:Nat):Int):=by simp[i2]
    unfold kc AH;clear wh Ih mW hdl;walk_at "mix"
   ·show(1001-((d+1:Nat):Int)).toNat<(1001-(d:Int)).toNat
    omega) pW [sI (mv:Int),sL (as.map cS),sL ((W0 as).map cS),sL (eF mv f0),y4,sL (bS p0),sI ((0:Nat):Int),none] ⟨f0,p0,0,y4,none,rfl,w0⟩ (by
   show(1001-((0:Nat):Int)).toNat<pW;have:(1001:Nat)<pW:=um (by decide)
   omega)
 have hd:d=p.length:=by
  have hl:(bS p).length=p.length:=by simp[bS]
  have h4:(tb (e2 qL (eV 6) (eN eW (aCons (eV 5) aNil)))) [sI (mv:Int),sL (as.map cS),sL ((W0 as).map cS),sL (eF mv f),x4,sL (bS p),sI (d:Int),x7]=some (decide ((d:Int)<(p.length:Int))):=by walk_at "mix"
  rw[h4]at h3;have:=wh.dl;simp at h3;omega
 subst hd;refine⟨f,p,?_,wh⟩;have r1:=UX as (by omega);have rp:p3 (.lst [.int 0]) (.int (mv:Int))=sL (eF mv λ_=>0):=by unfold p3;dsimp only;rw[if_pos ⟨by omega,by omega,by simp⟩];congr 2;unfold eF;rw[nN,cE];simp
 rw[show(((0:Nat):Int))=0 from rfl]at h1;unfold gw iy;clear hs hW c2 SU hq w0 wh h3 l hm;walk_at "mix"
noncomputable def bX (ns:List D)(as:List eA):D:=.obj 4 ["names","arrows"] [.lst ns,.lst (as.map cS)]
structure gQ (mv:Nat)(as:List eA):Prop where
 pos:1<=mv
 le:mv<=40
 len:as.length<=120
 right:∀a∈as,Right mv a
 rank:∃rank:Nat->Nat,∀a∈as,a.b=0->rank a.s<rank a.g
theorem gQ.placed (h:gQ mv as):∃p:List Nat,gw [.int (mv:Int),.lst (as.map cS)]=sL (bS p)/\Kahn.Ok (W0 as) mv p/\p.length=mv/\∀g,g<mv->g∈p:=by obtain⟨f,p,h1,h2⟩:=XC (mv:=mv) as (by have:=h.len;omega) (by have:=h.le;omega) (λa ha=>⟨(h.right a ha).s,(h.right a ha).g⟩);obtain⟨rank,hr⟩:=h.rank;have all:=h2.all rank (λa ha=>by have:=cI.mp ha;exact hr a this.1 (by simpa using this.2)) (λa ha=>(h.right a (cI.mp ha).1).s);exact⟨p,h1,h2.ok,Kahn.len_of h2.ok.nd h2.ok.lt all,all⟩
variable {ns:List D}
theorem RK (h:gQ mv as)(hn:ns.length=mv)(hnm:lZ [.lst ns]=some (.bl true)):iO 4 [.lst ns,.lst (as.map cS)]=some (bX ns as):=by
 obtain⟨p,hp,_,hl,_⟩:=h.placed;have eP:=h.len;obtain⟨ρ',h1,x3,x4,rfl⟩:=ve (g:=gT (gsCons (gV 3) (gsCons (gV 4) gsNil))) (b:=lG) (ds:=hE 0 (as.map cS)) (ρ:=[some (.obj 4 [] []),sL ns,sL (as.map cS),none,none,none])
  (λ_ ρ=>∃x3 x4,ρ=[some (.obj 4 [] []),sL ns,sL (as.map cS),x3,x4,none]) ⟨none,none,rfl⟩ (by rintro pre d post ρ e ⟨x3,x4,rfl⟩;obtain⟨x,hx,rfl⟩:=j4 (Rt e);rw[cu]at hx;obtain⟨a,ha,rfl⟩:=dz.mp hx;have hr:=Zy (h.right a (cJ.mpr ⟨_,ha⟩));refine⟨_,_,rfl,.inl ?_,sI (0+pre.length:Nat),some (cS a),rfl⟩;unfold lG;rw[←hn]at hr;clear hp hl hn eP h;walk_at "mix")
 have hz:(bS p).length=mv:=by simp[bS,hl]
 have hgt:¬((as.length:Int) > 120):=by omega
 rw[←hn]at hp hz;have l1:∀ds:List D,oN [.lst ds]=sL ds:=λ_=>rfl;have s1:jE [4] "names" (eN oN (aCons (eV 1) aNil)) [some (D.obj 4 [] []),sL ns,sL (as.map cS),x3,x4,sL (bS p)]=some (.nx [some (D.obj 4 ["names"] [.lst ns]),sL ns,sL (as.map cS),x3,x4,sL (bS p)]):=rfl;have s2:jE [4] "arrows" (eN oN (aCons (eV 2) aNil)) [some (D.obj 4 ["names"] [.lst ns]),sL ns,sL (as.map cS),x3,x4,sL (bS p)]=some (.nx [some (bX ns as),sL ns,sL (as.map cS),x3,x4,sL (bS p)]):=rfl;clear h eP hl hn;unfold iO CJ;walk_at "mix"
theorem Im (ns:List Int)(i:Int)(hi:0<=i):∃c,dM [.lst (ns.map .int),.int i]=sI c:=by
 obtain⟨k,rfl⟩:∃k:Nat,i=k:=⟨i.toNat,by omega⟩;unfold dM;by_cases h:k<ns.length
 ·refine⟨ns[k],?_⟩;have:ed (.lst (ns.map .int)) (.int (k:Int))=some (.int ns[k]):=Jz D.int (.inl rfl) (by simp[h]);walk_at "mix"
 ·refine⟨0,?_⟩;walk_at "mix"
noncomputable def vQ (c:Int):Bool:=decide (1237940039285380274899124224<=c)&&decide (c%2=1)
theorem MT (c:Int):iR [.int c]=some (.bl (vQ c)):=by unfold iR vQ;by_cases h1:(1237940039285380274899124224:Int)<=c<;>by_cases h2:c%2=1<;>walk_at "mix"
theorem ZA (c:Int){k:Int}(h0:0<=k)(h1:k<=1000000):∃r:Nat,fU [.int c,.int k]=sI (r:Int)/\r<2147483648:=by
 have m0:fD (.int 31) (.int k)=sI (31*k):=wx (by decide) (by decide);have s0:AJ (.int c) (.int (1+31*k))=sI (c/2 ^ (1+31*k).toNat):=zet (by omega);have r0:=MT c;have fin:∀z:Int,∀m:Int,0<m->m<=2147483648->∃r:Nat,(some (D.int (z%m)):Option D)=sI (r:Int)/\r<2147483648:=λz m hm uI=>by have a1:=si z (by omega:m≠0);have a2:=AO z hm;exact⟨(z%m).toNat,by rw[Af a1],by omega⟩
 generalize hn:(c+7919*k+1)*48271%2147483647=n1;have b1:0<=n1/\n1<2147483647:=by omega
 have m1:fD (.int 7919) (.int k)=sI (7919*k):=wx (by decide) (by decide);have m2:fD (.int (c+7919*k+1)) (.int 48271)=sI ((c+7919*k+1)*48271):=v9 (by decide) (by decide);have m3:fD (.int n1) (.int (n1/1009+69621))=sI (n1*(n1/1009+69621)):=wx (by omega) (by omega);generalize yC:n1*(n1/1009+69621)%2147483647=n2;have b2:0<=n2/\n2<2147483647:=by omega
 have m4:fD (.int n2) (.int (n2/2003+39373+k))=sI (n2*(n2/2003+39373+k)):=wx (by omega) (by omega);unfold fU;by_cases hr:vQ c=true
 ·by_cases hs:c/2 ^ (1+31*k).toNat > 0
  ·obtain⟨r,e1,e2⟩:=fin (c/2 ^ (1+31*k).toNat) 2147483648 (by decide) (by decide);refine⟨r,?_,e2⟩;rw[←e1];generalize c/2 ^ (1+31*k).toNat=q at s0 hs;clear e1 e2 fin hn yC b1 b2 h0 h1;walk_at "mix"
  ·obtain⟨r,e1,e2⟩:=fin (n2*(n2/2003+39373+k)) 2147483629 (by decide) (by decide);refine⟨r,?_,e2⟩;rw[←e1];generalize c/2 ^ (1+31*k).toNat=q at s0 hs;clear e1 e2 fin b1 b2 h0 h1;walk_at "mix"
 ·obtain⟨r,e1,e2⟩:=fin (n2*(n2/2003+39373+k)) 2147483629 (by decide) (by decide);refine⟨r,?_,e2⟩;rw[←e1];clear e1 e2 fin b1 b2 h0 h1 s0;walk_at "mix"
theorem Pv (g:Nat):∀O:List Nat,g∈O->∃j:Nat,(bS O).findIdx? (λy=>CC y (.int (g:Int)))=some j
 |[],h=>by cases h
 |x::O,h=>by
  have hc:bS (x::O)=.int (x:Int)::bS O:=rfl;rw[hc,pj];by_cases hx:x=g
  ·refine⟨0,?_⟩;have:CC (.int (x:Int)) (.int (g:Int))=true:=by simp[CC,hx]
   rw[this];rfl
  ·have:CC (.int (x:Int)) (.int (g:Int))=false:=by simp[CC];omega
   rw[this];obtain⟨j,hj⟩:=Pv g O (by
    rcases bY.mp h with e|e
    ·exact absurd e.symm hx
    ·exact e)
   exact⟨j+1,by rw[hj];rfl⟩
theorem ZC (O:List Nat):(bS O).all D.sc=true:=by rw[iW];intro d hd;obtain⟨t,_,rfl⟩:=cK.mp hd;rfl
noncomputable def Lz (O:List Nat)(g:Nat):Nat:=((bS O).findIdx? (λy=>CC y (.int (g:Int)))).getD 0
theorem XD {g:Nat}{O:List Nat}(h:g∈O):BW (.lst (bS O)) (.int (g:Int))=sI (Lz O g:Int):=by obtain⟨j,hj⟩:=Pv g O h;unfold BW Lz;dsimp only;rw[if_pos ⟨rfl,ZC O⟩,hj];rfl
theorem ZD {p:List Nat}{i:Nat}(h:i<p.length):ed (.lst (bS p)) (.int (i:Int))=sI (p[i]:Int):=yg (by simp[bS,h])
noncomputable def oY (c k:Int):Nat:=match fU [.int c,.int k]with
 |some (.int r)=>r.toNat
 |_=>0
theorem MU (c:Int){k:Int}(h0:0<=k)(h1:k<=1000000):fU [.int c,.int k]=sI (oY c k:Int)/\oY c k<2147483648:=by obtain⟨r,h,hr⟩:=ZA c h0 h1;unfold oY;rw[h];simpa using hr
noncomputable def rP (turn:Int)(mv:Nat):Nat->List Nat×List Nat
 |0=>([],bR mv)
 |k+1=>
  let S:=rP turn mv k
  let i:=oY turn (k:Int)%S.2.length
  (S.1++[S.2.getD i 0],S.2.eraseIdx i)
theorem OX {α:Type}:∀(l:List α) (i:Nat) (h:i<l.length),(l[i]::l.eraseIdx i).Perm l
 |[],_,h=>by simp at h
 |x::l,0,_=>by simp
 |x::l,i+1,h=>by have ih:=OX l i (by simpa using h);simp only[List.getElem_cons_succ,List.eraseIdx_cons_succ];exact(List.Perm.swap x _ _).trans (ih.cons x)
theorem Nf (turn:Int)(mv:Nat):∀k,k<=mv->(rP turn mv k).2.length=mv-k/\((rP turn mv k).1++(rP turn mv k).2).Perm (bR mv)
 |0,_=>by simp[rP]
 |k+1,h=>by
  obtain⟨h1,h2⟩:=Nf turn mv k (by omega);unfold rP;dsimp only;generalize rP turn mv k=S at h1 h2;have hi:oY turn (k:Int)%S.2.length<S.2.length:=tL _ (by omega);generalize oY turn (k:Int)%S.2.length=i at hi;refine⟨by rw[List.length_eraseIdx_of_lt hi];omega,?_⟩;have e:=OX S.2 i hi;have hg:S.2.getD i 0=S.2[i]:=by simp[hi]
  rw[hg,fL];exact(List.Perm.append_left S.1 e).trans h2
theorem OY:∀(L:List Nat) (i:Nat),(bS L).eraseIdx i=bS (L.eraseIdx i)
 |[],_=>rfl
 |_::_,0=>rfl
 |x::L,i+1=>by have ih:=OY L i;show D.int (x:Int)::(bS L).eraseIdx i=D.int (x:Int)::bS (L.eraseIdx i);rw[ih]
theorem XF (turn:Int)(h2:mv<=1000)(g:Nat):∃x5:Option D,gN (gV 5) ka (iT 0 mv) [sI turn,sI (mv:Int),sI (g:Int),some (.lst []),sL (iT 0 mv),none] =
  some (.nx [sI turn,sI (mv:Int),sI (g:Int),sL (bS (rP turn mv mv).1),sL (bS (rP turn mv mv).2),x5]):=by
 have hu:iT 0 mv=bS (bR mv):=by simp[iT,bS]
 obtain⟨ρ',h1,x5,rfl⟩:=vf (g:=gV 5) (b:=ka) (lo:=0) (n:=mv) (ρ:=[sI turn,sI (mv:Int),sI (g:Int),some (.lst []),sL (iT 0 mv),none])
  (λk ρ=>∃x5,ρ=[sI turn,sI (mv:Int),sI (g:Int),sL (bS (rP turn mv k).1),sL (bS (rP turn mv k).2),x5]) ⟨none,by rw[hu];rfl⟩ (by
   rintro k ρ hk ⟨x5,rfl⟩;obtain⟨o1,o2⟩:=Nf turn mv k (by omega);have o3:=o2.length_eq;rw[cn,cE]at o3;obtain⟨mx,mb⟩:=MU turn (k:=0+(k:Int)) (by omega) (by omega);refine⟨_,_,rfl,.inl ?_,sI (0+(k:Int)),rfl⟩;have e0:(0:Int)+(k:Int)=(k:Int):=by omega
   rw[e0]at mx ⊢;show ka [sI turn,sI (mv:Int),sI (g:Int),sL (bS (rP turn mv k).1),sL (bS (rP turn mv k).2),sI (k:Int)]=some (.nx [sI turn,sI (mv:Int),sI (g:Int),sL (bS ((rP turn mv k).1++[(rP turn mv k).2.getD (oY turn (k:Int)%(rP turn mv k).2.length) 0])),sL (bS ((rP turn mv k).2.eraseIdx (oY turn (k:Int)%(rP turn mv k).2.length))),sI (k:Int)]);generalize rP turn mv k=S at o1 o3;have hi:oY turn (k:Int)%S.2.length<S.2.length:=tL _ (by omega);have md:gW (.int (oY turn (k:Int):Int)) (.int ((bS S.2).length:Int))=sI ((oY turn (k:Int)%S.2.length:Nat):Int):=by rw[xu (by simp[bS];omega)];simp[bS]
   generalize oY turn (k:Int)%S.2.length=i at hi md;have hg:S.2.getD i 0=S.2[i]:=by simp[hi]
   have l1:(bS S.1).length<16777216:=by simp[bS];omega
   have l2:(bS S.2).length<=16777216:=by simp[bS];omega
   have ix:ixN (bS S.2).length (i:Int)=some i:=QN (by simp[bS];exact hi);have gt:(bS S.2)[i]?=sI (S.2[i]:Int):=by simp[bS,hi]
   have ev:eN eW (aCons (eV 4) aNil) [sI turn,sI (mv:Int),sI (g:Int),sL (bS S.1),sL (bS S.2),sI (k:Int)]=sI ((bS S.2).length:Int):=rfl;have em:(aCons (eV 0) (aCons (eV 5) aNil) [sI turn,sI (mv:Int),sI (g:Int),sL (bS S.1),sL (bS S.2),sI (k:Int)]).bind (λds=>fU (ds++[]))=sI (oY turn (k:Int):Int):=mx;have ee:e2 gW (λρ=>((aCons (eV 0) (aCons (eV 5) aNil)) ρ).bind λds=>fU (ds++[])) (eN eW (aCons (eV 4) aNil)) [sI turn,sI (mv:Int),sI (g:Int),sL (bS S.1),sL (bS S.2),sI (k:Int)]=sI (i:Int):=by unfold e2;dsimp only;rw[em,ev];exact md
   unfold ka uQ;rw[ee];show(if(bS S.1).length<16777216/\(bS S.2).length<=16777216 then _ else _)=_;rw[if_pos ⟨l1,l2⟩,ix];show((bS S.2)[i]?).bind _=_;rw[gt,hg,←Mu,←OY]
   rfl)
 exact⟨x5,h1⟩
theorem zsk (turn:Int)(h1:1<=mv)(h2:mv<=1000):∃rk:Nat->Nat,∀g,g<mv->jM [.int turn,.int (mv:Int),.int (g:Int)]=sI (rk g:Int):=by
 have hr:=MT turn;cases Li:vQ turn with
 |false=>refine⟨λg=>(((g:Int)+turn)%(mv:Int)).toNat,λg hg=>?_⟩;have a1:=si ((g:Int)+turn) (by omega:(mv:Int)≠0);have a2:gW (.int ((g:Int)+turn)) (.int (mv:Int))=sI (((g:Int)+turn)%(mv:Int)):=xu (by omega);rw[Af a1];unfold jM;clear a1;walk_at "mix"
 |true=>
  obtain⟨o1,o2⟩:=Nf turn mv mv (b7 _);rw[Nat.sub_self]at o1;have o3:(rP turn mv mv).2=[]:=gX o1;rw[o3,cP]at o2;refine⟨Lz (rP turn mv mv).1,λg hg=>?_⟩;obtain⟨x5,lp⟩:=XF turn h2 g;have ix:=XD (g:=g) (O:=(rP turn mv mv).1) (o2.mem_iff.mpr (ce.mpr hg));have lr:qK [.int (mv:Int)]=sL (iT 0 mv):=by unfold qK;dsimp only;rw[if_pos ⟨by omega,by omega⟩];simp
  have r1:kT [.int (mv:Int)]=some (iT 0 mv):=by rw[vg (by omega) (by omega)];simp
  unfold jM;generalize rP turn mv mv=S at lp ix;clear o1 o2 o3;walk_at "mix"
noncomputable def eI (a:eA):D:=.tup [.int a.s,.int a.g,.int a.t,.int a.b]
theorem Va (c mv turn k n s g b:Int):∃t:Int,0<=t/\t<=1000000/\i9 [sI c,sI mv,sI turn,sI k,sI n,sI s,sI g,sI b,none]=some (.rt (.tup [.int s,.int g,.int t,.int b])):=by
 obtain⟨m2,_⟩:=MU c (k:=30) (by decide) (by decide);generalize oY c 30=u at m2;have row:=MT c;unfold i9;by_cases hr:vQ c=true
 ·refine⟨(u:Int)%1000001,by omega,by omega,?_⟩;by_cases h3:c%4=3<;>walk_at "mix"
 ·by_cases h3:c%4=3
  ·refine⟨c/4%1000001,by omega,by omega,?_⟩;walk_at "mix"
  ·refine⟨n/1000%10,by omega,by omega,?_⟩;walk_at "mix"
theorem ZE (c turn:Int)(k:Nat)(hk:k<=1000)(h1:1<=mv)(h2:mv<=1000)(rk:Nat->Nat)(yF:∀g,g<mv->jM [.int turn,.int (mv:Int),.int (g:Int)]=sI (rk g:Int)) :
  ∃a:eA,fS [.int c,.int (mv:Int),.int turn,.int (k:Int)]=some (eI a)/\a.s<mv/\a.g<mv/\0<=a.t/\a.t<=1000000/\a.b<=4/\(a.b=0->rk a.s<rk a.g)/\(k<mv->a.g=k):=by
 obtain⟨m1,_⟩:=MU c (k:=(k:Int)) (by omega) (by omega);generalize oY c (k:Int)=n at m1;have hs:n%mv<mv:=tL _ (by omega);have e1:gW (.int (n:Int)) (.int (mv:Int))=sI ((n%mv:Nat):Int):=by rw[xu (by omega)];simp
 have e2:gW (.int ((n:Int)/8)) (.int (mv:Int))=sI ((n/8%mv:Nat):Int):=by rw[xu (by omega)];simp
 obtain⟨g0,hg,IR,K3⟩:∃g0:Nat,g0<mv/\(k<mv->g0=k)/\(¬k<mv->g0=n/8%mv):=by
  by_cases h:k<mv
  ·exact⟨k,h,λ_=>rfl,λz=>absurd h z⟩
  ·exact⟨n/8%mv,tL _ (by omega),λz=>absurd z h,λ_=>rfl⟩
 have k1:=yF _ hs;have k2:=yF _ hg;generalize n%mv=s0 at *;have fin:∀b:Nat,b<=4->(b=0->rk s0<rk g0)->(∀t:Int,i9 [sI c,sI (mv:Int),sI turn,sI (k:Int),sI (n:Int),sI (s0:Int),sI (g0:Int),sI (b:Int),none]=some (.rt (.tup [.int s0,.int g0,.int t,.int b]))->fS [.int c,.int (mv:Int),.int turn,.int (k:Int)]=some (.tup [.int s0,.int g0,.int t,.int b])) ->
   ∃a:eA,fS [.int c,.int (mv:Int),.int turn,.int (k:Int)]=some (eI a)/\a.s<mv/\a.g<mv/\0<=a.t/\a.t<=1000000/\a.b<=4/\(a.b=0->rk a.s<rk a.g)/\(k<mv->a.g=k):=by
  intro b hb GV h;obtain⟨t,t0,t1,ht⟩:=Va c mv turn k n s0 g0 b;exact⟨⟨.wait,s0,g0,t,b⟩,h t ht,hs,hg,t0,t1,hb,GV,IR⟩
 have eb:((n:Int)/64)%5=((n/64%5:Nat):Int):=by omega
 have NI:(1:Int)+(n:Int)/320%2=((1+n/320%2:Nat):Int):=by omega
 have gl:(Bz (.int (k:Int)) (.int (mv:Int))=some (.bl true)/\g0=n/8%mv)\/(Bz (.int (k:Int)) (.int (mv:Int))=some (.bl false)/\g0=k):=by
  by_cases h:k<mv
  ·refine .inr ⟨?_,IR h⟩;show some (D.bl (decide ((k:Int) >= (mv:Int))))=_;rw[decide_eq_false (by omega)]
  ·refine .inl ⟨?_,K3 h⟩;show some (D.bl (decide ((k:Int) >= (mv:Int))))=_;rw[decide_eq_true (by omega)]
 have go:∀(b t:Int),(∃q:Int,(n:Int)/64%5=q/\((q=0/\((rk s0:Int) >= (rk g0:Int)/\b=1+(n:Int)/320%2\/¬(rk s0:Int) >= (rk g0:Int)/\b=0))\/(¬q=0/\b=q)))->i9 [sI c,sI (mv:Int),sI turn,sI (k:Int),sI (n:Int),sI (s0:Int),sI (g0:Int),sI b,none]=some (.rt (.tup [.int s0,.int g0,.int t,.int b]))->fS [.int c,.int (mv:Int),.int turn,.int (k:Int)]=some (.tup [.int s0,.int g0,.int t,.int b]):=by
  rintro b t ⟨q,hq,hc⟩ ht;unfold fS;rcases gl with⟨gt,gg⟩|⟨gt,gg⟩
  ·rw[←gg]at e2;clear IR K3 gg hg hs yF fin eb NI;rcases hc with⟨h0,⟨h1,h2⟩|⟨h1,h2⟩⟩|⟨h0,h1⟩
   ·subst h0;subst h2;walk_at "mix"
   ·subst h0;subst h2;walk_at "mix"
   ·subst h1;walk_at "mix"
  ·subst gg;clear IR K3 hg hs yF fin eb NI e2;rcases hc with⟨h0,⟨h1,h2⟩|⟨h1,h2⟩⟩|⟨h0,h1⟩
   ·subst h0;subst h2;walk_at "mix"
   ·subst h0;subst h2;walk_at "mix"
   ·subst h1;walk_at "mix"
 by_cases q:n/64%5=0
 ·by_cases q2:rk g0<=rk s0
  ·refine fin (1+n/320%2) (by omega) (by omega) λt ht=>go _ t ⟨0,by omega,.inl ⟨rfl,.inl ⟨by omega,by omega⟩⟩⟩ ht
  ·refine fin 0 (by omega) (by omega) λt ht=>go _ t ⟨0,by omega,.inl ⟨rfl,.inr ⟨by omega,rfl⟩⟩⟩ ht
 ·refine fin (n/64%5) (by omega) (by omega) λt ht=>go _ t ⟨_,rfl,.inr ⟨by omega,by omega⟩⟩ ht
noncomputable def pY (b:Nat)(kind:Int):Kd:=if b=0/\kind%2=0 then .ride else if 0<b/\kind%2=0 then .back else .wait
noncomputable def yJ (a:eA)(kind:Int):eA:={ a with c:=pY a.b kind }
theorem zsl (s g t:Int):mr 1 [.int s,.int g,.int t]=some (.obj 1 ["start","goal","time","behind"] [.int s,.int g,.int t,.int 0]):=rfl
theorem zsm (s g t b:Int):mw 2 [.int s,.int g,.int t,.int b]=some (.obj 2 ["start","goal","time","behind"] [.int s,.int g,.int t,.int b]):=rfl
theorem zsn (s g t b:Int):mq 3 [.int s,.int g,.int t,.int b]=some (.obj 3 ["start","goal","time","behind"] [.int s,.int g,.int t,.int b]):=rfl
theorem zso (a:eA)(kind:Int):lJ [eI a,.int kind]=some (cS (yJ a kind)):=by
 obtain⟨c,s,g,t,b⟩:=a;have r1:=zsl;have r2:=zsm;have r3:=zsn;unfold lJ eI yJ cS;dsimp only;by_cases hb:b=0
 ·by_cases hk:kind%2=0
  ·subst hb;have:pY 0 kind=.ride:=by unfold pY;rw[if_pos ⟨rfl,hk⟩]
   rw[this];have e:(((0:Nat)):Int)=0:=rfl;have hn:Kd.ride.n=1:=rfl;walk_at "mix"
  ·have:pY b kind=.wait:=by unfold pY;rw[if_neg (λz=>hk z.2),if_neg (λz=>hk z.2)]
   rw[this];have hn:Kd.wait.n=2:=rfl;have EC:(b:Int)=0:=by omega
   walk_at "mix"
 ·have EC:¬(b:Int)=0:=by omega
  have C0:0<b:=by omega
  by_cases hk:kind%2=0
  ·have:pY b kind=.back:=by unfold pY;rw[if_neg (λz=>hb z.1),if_pos ⟨by omega,hk⟩]
   rw[this];have hn:Kd.back.n=3:=rfl;clear EC;walk_at "mix"
  ·have:pY b kind=.wait:=by unfold pY;rw[if_neg (λz=>hk z.2),if_neg (λz=>hk z.2)]
   rw[this];have hn:Kd.wait.n=2:=rfl;clear EC;walk_at "mix"
noncomputable def nm (n:Nat):List D:=(bR n).map λ(k:Nat)=>D.str ("a"++D3 (k:Int))
noncomputable def Om:Option D->Bool
 |some (.bl true)=>true
 |_=>false
theorem zsp {x:Option D}(h:Om x=true):x=some (.bl true):=by
 unfold Om at h;split at h
 ·rfl
 ·cases h
theorem QO {n:Nat}(h1:1<=n)(h2:n<=8):lZ [.lst (nm n)]=some (.bl true):=by
 have:n=1\/n=2\/n=3\/n=4\/n=5\/n=6\/n=7\/n=8:=by omega
 rcases this with rfl|rfl|rfl|rfl|rfl|rfl|rfl|rfl<;>exact zsp (by decide +kernel)
structure Drawn (mv:Nat)(rk:Nat->Nat)(a:eA):Prop where
 s:a.s<mv
 g:a.g<mv
 t0:0<=a.t
 t1:a.t<=1000000000
 b:a.b<=4
 r:a.b=0->rk a.s<rk a.g
variable {rk:Nat->Nat}
theorem Drawn.right (h:Drawn mv rk a)(kind:Int):Right mv (yJ a kind):=by
 refine⟨h.s,h.g,h.t0,h.t1,h.b,λz=>?_,λz=>?_⟩
 ·change pY a.b kind=.ride at z;unfold pY at z;split at z
  ·next q=>exact q.1
  ·split at z<;>cases z
 ·change pY a.b kind=.back at z;unfold pY at z;split at z
  ·cases z
  ·split at z
   ·next q=>exact q.1
   ·cases z
theorem Rx (k:eA->Int)(h1:1<=mv)(h2:mv<=8)(h3:as.length<=120)(h:∀a∈as,Drawn mv rk a):gQ mv (as.map λa=>yJ a (k a)):=by
 refine⟨h1,by omega,by rw[bQ];exact h3,λb hb=>?_,rk,λb hb GV=>?_⟩
 ·obtain⟨a,ha,rfl⟩:=cK.mp hb;exact(h a ha).right _
 ·obtain⟨a,ha,rfl⟩:=cK.mp hb;exact(h a ha).r GV
noncomputable abbrev T:=Option Int
noncomputable def lt (m:Int):T->T
 |none=>none
 |some i=>some (i+m)
noncomputable def mx:T->T->T
 |none,b=>b
 |a,none=>a
 |some i,some j=>some (if j > i then j else i)
theorem XH (a b:T):pG [mK a,mK b]=some (mK (mx a b)):=by unfold pG;cases a<;>cases b<;>simp only[mK,mx]<;>walk_at "mix"
theorem ZF (a b:T):mx a b=mx b a:=by cases a<;>cases b<;>simp only[mx];congr 1;omega
theorem jl (a b c:T):mx (mx a b) c=mx a (mx b c):=by cases a<;>cases b<;>cases c<;>simp only[mx];congr 1;omega
theorem QP (a:T):mx a a=a:=by cases a<;>simp only[mx];congr 1;omega
theorem ztx (m:Int)(a b:T):lt m (mx a b)=mx (lt m a) (lt m b):=by cases a<;>cases b<;>simp only[mx,lt];congr 1;omega
variable {κ:Type}
theorem Pa {κ:Type}(h:κ×D->D):∀(ks:List κ) (ds:List D),ks.zip ((ks.zip ds).map h)=(ks.zip ds).map λp=>(p.1,h p)
 |[],_=>rfl
 |_::_,[]=>rfl
 |k::ks,d::ds=>by show(k,h (k,d))::ks.zip ((ks.zip ds).map h)=(k,h (k,d))::(ks.zip ds).map _;rw[Pa h ks ds]
variable {ds:List D}
theorem Pw [DecidableEq κ]{ks:List κ}(hl:ks.length=ds.length)(k k':κ)(d:D):mM (jD ks ds k d).1 (jD ks ds k d).2 k'=if k'=k then some d else mM ks ds k':=by
 unfold jD;by_cases hc:ks.contains k=true
 ·rw[if_pos hc];unfold mM;dsimp only;rw[Pa,List.find?_map];by_cases hk:k'=k
  ·subst hk;rw[if_pos rfl];have hm:k'∈ks:=by simpa using hc
   have:∃p∈ks.zip ds,p.1=k':=by obtain⟨i,hi,e⟩:=gE.mp hm;refine⟨(ks[i],ds[i]),?_,e⟩;rw[gE];exact⟨i,by rw[iu];omega,by simp⟩
   obtain⟨p,hp,he⟩:=this;cases hf:(ks.zip ds).find? ((λp:κ×D=>decide (p.1=k')) ∘ λp:κ×D=>(p.1,if p.1=k' then d else p.2))with
   |none=>rw[Ai]at hf;have:=hf p hp;simp[he]at this
   |some q=>have hq:=Co hf;simp at hq;simp[hq]
  ·rw[if_neg hk];have:((λp:κ×D=>decide (p.1=k')) ∘ λp:κ×D=>(p.1,if p.1=k then d else p.2))=λp:κ×D=>decide (p.1=k'):=rfl;rw[this];cases hf:(ks.zip ds).find? λp=>decide (p.1=k')with
   |none=>rfl
   |some q=>have hq:=Co hf;simp at hq;have nU:¬q.1=k:=λz=>hk (hq▸z);simp[nU]
 ·rw[if_neg hc];unfold mM;dsimp only;have hz:(ks++[k]).zip (ds++[d])=ks.zip ds++[(k,d)]:=by rw[Cu hl];rfl
  rw[hz,List.find?_append];by_cases hk:k'=k
  ·subst hk;rw[if_pos rfl];have hn:(ks.zip ds).find? (λp=>decide (p.1=k'))=none:=by
    rw[Ai];intro p hp;have hm:=(kY (a:=p.1) (b:=p.2) hp).1;have uI:¬k'∈ks:=by simpa using hc
    simp;intro z;exact uI (z▸hm)
   rw[hn];simp
  ·rw[if_neg hk];have:¬k=k':=λz=>hk z.symm;cases hf:(ks.zip ds).find? (λp=>decide (p.1=k'))<;>simp[this]
theorem MV [DecidableEq κ]{ks:List κ}(hl:ks.length=ds.length)(k:κ)(d:D):(jD ks ds k d).1.length=(jD ks ds k d).2.length/\(jD ks ds k d).1.length<=ks.length+1:=by
 unfold jD;by_cases hc:ks.contains k=true
 ·rw[if_pos hc];simp;omega
 ·rw[if_neg hc];simp[hl]
noncomputable abbrev Fl:=Nat×Nat×Int
noncomputable def fR (q:Fl):D:=.tup [.int (q.1:Int),.int (q.2.1:Int),.int q.2.2]
noncomputable def fl (fs:List Fl)(g r:Nat):T:=(fs.filter λq=>decide (q.1=g/\q.2.1=r)).foldl (λw q=>mx w (some q.2.2)) none
structure oR (d:D)(n:Nat)(f:Nat->Nat->T):Prop where
 is:∃ks ds,d=.dT ks ds/\ks.length=ds.length/\ks.length<=n/\∀g r:Nat,mM ks ds [.inl (g:Int),.inl (r:Int)]=(f g r).map D.int
theorem oR.get {d:D}{n:Nat}{f:Nat->Nat->T}(h:oR d n f)(g r:Nat):((jA d (.tup [.int (g:Int),.int (r:Int)])).bind λr=>some (r.getD .non))=some (mK (f g r)):=by obtain⟨ks,ds,rfl,h1,h2,h3⟩:=h.is;show some ((mM ks ds [.inl (g:Int),.inl (r:Int)]).getD .non)=_;rw[h3];cases f g r<;>rfl
theorem oR.getI {d:D}{n:Nat}{f:Nat->Nat->T}(h:oR d n f)(g r:Nat)(z:D):((jA d (.tup [.int (g:Int),.int (r:Int)])).bind λr=>some (r.getD z))=some (((f g r).map D.int).getD z):=by obtain⟨ks,ds,rfl,h1,h2,h3⟩:=h.is;show some ((mM ks ds [.inl (g:Int),.inl (r:Int)]).getD z)=_;rw[h3]
theorem zsq (a:T)(t:Int):some (mK (mx a (some t)))=(mx a (some t)).map D.int:=by cases a<;>rfl
theorem zsr (fs:List Fl)(hl:fs.length<=1000):∃d,jJ [.lst (fs.map fR)]=some d/\oR d 1000 (fl fs):=by
 obtain⟨ρ',h1,d,x2,x3,x4,pre,e1,rfl,hd⟩:=ve (g:=gT (gsCons (gV 2) (gsCons (gV 3) (gsCons (gV 4) gsNil)))) (b:=jZ) (ds:=fs.map fR) (ρ:=[sL (fs.map fR),some (.dT [] []),none,none,none])
  (λds ρ=>∃d x2 x3 x4,∃pre:List Fl,ds=pre.map fR/\ρ=[sL (fs.map fR),some d,x2,x3,x4]/\oR d pre.length (fl pre))
  ⟨_,none,none,none,[],rfl,rfl,⟨[],[],rfl,rfl,by simp,λ_ _=>rfl⟩⟩ (by
   rintro ds dd post ρ e ⟨d,x2,x3,x4,pre,rfl,rfl,hd⟩;obtain⟨q,hq,rfl⟩:∃q,fs[pre.length]?=some q/\fR q=dd:=by have:=Rt e;rw[cu,bQ]at this;exact dz.mp this
   have eP:pre.length<fs.length:=(bZ.mp hq).1;obtain⟨g,r,t⟩:=q;have hg:=hd.get g r;obtain⟨ks,ds,rfl,k1,k2,k3⟩:=hd.is;have hm:=XH (fl pre g r) (some t);have oU:ks.length<16777216:=by omega
   refine⟨_,_,rfl,.inl ?_,.dT (jD ks ds [.inl (g:Int),.inl (r:Int)] (mK (mx (fl pre g r) (some t)))).1 (jD ks ds [.inl (g:Int),.inl (r:Int)] (mK (mx (fl pre g r) (some t)))).2,sI (g:Int),sI (r:Int),sI t,pre++[(g,r,t)],by simp,rfl,?_⟩
   ·have hk:tV [.int (g:Int),.int (r:Int)]=some [.inl (g:Int),.inl (r:Int)]:=rfl;have he:mK (some t)=.int t:=rfl;rw[he]at hm;unfold jZ mR;generalize mK (fl pre g r)=z at hg hm;clear k1 k2 k3 e hq hd;walk_at "mix"
   ·obtain⟨p1,p2⟩:=MV k1 [.inl (g:Int),.inl (r:Int)] (mK (mx (fl pre g r) (some t)));refine⟨_,_,rfl,p1,by rw[cn,cV];omega,λg' r'=>?_⟩;rw[Pw k1];have hf:fl (pre++[(g,r,t)]) g' r'=if g=g'/\r=r' then mx (fl pre g' r') (some t)else fl pre g' r':=by
     unfold fl;rw[Ag,mD];by_cases hc:g=g'/\r=r'
     ·rw[if_pos hc];simp[hc]
     ·rw[if_neg hc];have:([(g,r,t)]:List Fl).filter (λq=>decide (q.1=g'/\q.2.1=r'))=[]:=by rw[List.filter_eq_nil_iff];intro q hq;rw[bU]at hq;subst hq;simpa using hc
      rw[this];rfl
    rw[hf];by_cases hc:g=g'/\r=r'
    ·obtain⟨rfl,rfl⟩:=hc;rw[if_pos rfl,if_pos ⟨rfl,rfl⟩,zsq]
    ·rw[if_neg hc,if_neg ?_]
     ·exact k3 g' r'
     ·intro z;simp at z;exact hc ⟨by omega,by omega⟩)
 have:pre=fs:=by
  have hi:∀(a b:List Fl),a.map fR=b.map fR->a=b:=by
   intro a;induction a with
   |nil=>intro b h;cases b with|nil=>rfl|cons _ _=>cases h
   |cons x a ih=>
    intro b h;cases b with
    |nil=>cases h
    |cons y b=>
     simp only[ck,List.cons.injEq]at h;obtain⟨h1,h2⟩:=h;rw[ih b h2];obtain⟨x1,x2,x3⟩:=x;obtain⟨y1,y2,y3⟩:=y;simp[fR]at h1;obtain⟨e1,e2,e3⟩:=h1;have e1:x1=y1:=by omega
     have e2:x2=y2:=by omega
     rw[e1,e2,e3]
  exact(hi _ _ e1).symm
 subst this;refine⟨d,?_,?_⟩
 ·unfold jJ;walk_at "mix"
 ·obtain⟨ks,ds,a,b,c,f⟩:=hd.is;exact⟨ks,ds,a,b,by omega,f⟩
noncomputable def eR (n:Nat)(f:Nat->T):List D:=(bR n).map λg=>mK (f g)
noncomputable def cQ (n m:Nat)(Y:Nat->Nat->T):List D:=(bR m).map λi=>D.lst (eR n (Y i))
theorem XJ (n:Nat)(f:Nat->T):(eR n f).length=n:=by simp[eR]
theorem qm (n m:Nat)(Y:Nat->Nat->T):(cQ n m Y).length=m:=by simp[cQ]
theorem MW {n:Nat}(f:Nat->T){g:Nat}(h:g<n):atI (eR n f) (g:Int)=some (mK (f g)):=yg (by simp[eR,h])
theorem xp {n:Nat}{f f':Nat->T}(h:∀g,g<n->f g=f' g):eR n f=eR n f':=by unfold eR;apply fO;intro g hg;rw[h g (ce.mp hg)]
variable {Y Y':Nat->Nat->T}
theorem x6 {n m:Nat}(h:∀i,i<m->∀g,g<n->Y i g=Y' i g):cQ n m Y=cQ n m Y':=by unfold cQ;apply fO;intro i hi;rw[xp (h i (ce.mp hi))]
theorem XN {n:Nat}(f:Nat->T){g:Nat}(h:g<n)(v:T):pL (eR n f) (g:Int) (mK v)=some (eR n λx=>if x=g then v else f x):=by
 unfold pL;have hx:ixN (eR n f).length (g:Int)=some g:=by rw[XJ];exact QN h
 rw[hx];simp only[de,Option.some.injEq];apply mX
 ·simp[eR]
 ·intro i h1 h2;simp[eR,qT];by_cases hi:g=i
  ·subst hi;simp
  ·rw[if_neg hi,if_neg (λz=>hi z.symm)]
noncomputable def dep (as:List eA):Nat:=as.foldl (λm a=>max m a.b) 1
theorem Mv:∀(as:List eA) (m:Nat),m<=as.foldl (λm a=>max m a.b) m/\(∀a∈as,a.b<=as.foldl (λm a=>max m a.b) m)/\((∀a∈as,a.b<=4)->m<=4->as.foldl (λm a=>max m a.b) m<=4)
 |[],m=>⟨b7 _,λa h=>(by cases h),λ_ h=>h⟩
 |x::as,m=>by
  obtain⟨h1,h2,h3⟩:=Mv as (max m x.b);refine⟨by show m<=as.foldl _ (max m x.b);omega,λa ha=>?_,λh4 hm=>h3 (λa ha=>h4 a (bK _ ha)) (by have:=h4 x bH;omega)⟩;show a.b<=as.foldl _ (max m x.b);rcases bY.mp ha with rfl|ha
  ·omega
  ·exact h2 a ha
theorem JH (h:a∈as):a.b<=dep as:=(Mv as 1).2.1 a h
theorem Ry (h:∀a∈as,a.b<=4):dep as<=4:=(Mv as 1).2.2 h (by decide)
theorem x9 {α:Type}(f:α->Int):∀xs:List α,iC (xs.map λx=>D.int (f x))=some (xs.map f)
 |[]=>rfl
 |x::xs=>by show(iC (xs.map λx=>D.int (f x))).bind _=_;rw[x9 f xs];rfl
theorem QQ:∀(as:List eA) (m:Nat),(as.map λa=>(a.b:Int)).foldl max (m:Int)=((as.foldl (λm a=>max m a.b) m:Nat):Int)
 |[],m=>rfl
 |x::as,m=>by show(as.map λa=>(a.b:Int)).foldl max (max (m:Int) (x.b:Int))=_;rw[show max (m:Int) (x.b:Int)=((max m x.b:Nat):Int)by omega,QQ as];rfl
theorem jm (ns:List D)(as:List eA):dq [4] "names" (bX ns as)=sL ns:=rfl
theorem xj (ns:List D)(as:List eA):dq [4] "arrows" (bX ns as)=sL (as.map cS):=rfl
theorem zss (hl:as.length<=1000):dc [bX ns as]=sI (dep as:Int):=by
 have q:∀r:L3.Env,r[0]?.join=some (bX ns as)->iX r=sL (as.map λa=>D.int (a.b:Int)):=λr hr=>by
  have e:lsD (e1 (dq [4] "arrows") (eV 0)) r=some (as.map cS):=by have:eV 0 r=some (bX ns as):=hr;unfold lsD e1;rw[this];rfl
  exact ye cS (λa=>D.int (a.b:Int)) as e (by omega) λa _=>⟨_,rfl,by have:=fb a;walk_at "mix"⟩
 have m1:oX [.lst ([.int 1]++as.map λa=>D.int (a.b:Int))]=sI (dep as:Int):=by
  unfold oX;dsimp only;have:iC ([.int 1]++as.map λa=>D.int (a.b:Int))=some (1::as.map λa=>(a.b:Int)):=by show(iC (as.map λa=>D.int (a.b:Int))).bind _=_;rw[x9];rfl
  rw[this];show some (D.int ((as.map λa=>(a.b:Int)).foldl max ((1:Nat):Int)))=_;rw[QQ];rfl
 have m2:gb (.lst [.int 1]) (.lst (as.map λa=>D.int (a.b:Int)))=sL ([.int 1]++as.map λa=>D.int (a.b:Int)):=P4 (by simp;omega);generalize [D.int 1]++as.map (λa=>D.int (a.b:Int))=zs at m1 m2;unfold dc;clear hl;walk_at "mix"
theorem MA {m:Str}{f:List D->Option D}(h:(["names","arrows"]:List Str).contains m=false):li 4 m f (bX ns as) ds=f (bX ns as::ds):=by show(if 4=4/\(["names","arrows"]:List Str).contains m=false then f (bX ns as::ds)else none)=_;rw[if_pos ⟨rfl,h⟩]
theorem Px (hl:as.length<=1000):li 4 "most_behind" dc (bX ns as) []=sI (dep as:Int):=by rw[MA (by decide +kernel)];exact zss hl
noncomputable def into (as:List eA)(g:Nat):List Nat:=(as.zipIdx.filter λp=>decide (p.1.g=g)).map (·.2)
theorem zst (hl:as.length<=1000)(g:Nat):lI [bX ns as,.int (g:Int)]=sL (bS (into as g)):=by
 have q:∀r:L3.Env,r[0]?.join=some (bX ns as)->r[1]?.join=sI (g:Int)->nv r=sL (bS (into as g)):=λr hr Tp=>by
  have e:(λρ=>((aCons (e1 (dq [4] "arrows") (eV 0)) aNil) ρ).bind λds=>match ds with|[.lst xs]=>some (hE 0 xs)|_=>none) r=some (as.zipIdx.map λp=>D.tup [.int (p.2:Int),cS p.1]):=by
   have:eV 0 r=some (bX ns as):=hr;have e2:e1 (dq [4] "arrows") (eV 0) r=sL (as.map cS):=by unfold e1;rw[this];rfl
   show((aCons (e1 (dq [4] "arrows") (eV 0)) aNil) r).bind _=_;unfold aCons;rw[e2];show some (hE 0 (as.map cS))=_;rw[P6 cS]
  have hc:eE r [1]=[sI (g:Int)]:=by unfold eE;simp[Tp]
  have:=xh (own:=2) (cap:=[1]) (fi:=λρ=>((aCons (e1 (dq [4] "arrows") (eV 0)) aNil) ρ).bind λds=>match ds with|[.lst xs]=>some (hE 0 xs)|_=>none) (g:=gT (gsCons (gV 0) (gsCons (gV 1) gsNil))) (p:=tb (e2 (jV false) (e1 (dq [0,1,2,3] "goal") (eV 1)) (eV 2))) (f:=eV 0) (λp:eA×Nat=>D.tup [.int (p.2:Int),cS p.1]) (λp=>decide (p.1.g=g)) (λp=>D.int (p.2:Int)) as.zipIdx e (by simp;omega) (λp _=>by
    refine⟨_,rfl,?_,λ_=>rfl⟩;rw[hc];have:=fg p.1;have hd:decide ((p.1.g:Int)=(g:Int))=decide (p.1.g=g):=by
     by_cases h:p.1.g=g
     ·simp[h]
     ·have:¬(p.1.g:Int)=(g:Int):=by omega
      simp[h,this]
    rw[←hd];walk_at "mix")
  rw[show nv r=_ from this];unfold into bS;rw[d7];rfl
 unfold lI;clear hl;walk_at "mix"
noncomputable def tm (as:List eA)(Y:Nat->Nat->T)(L g:Nat)(w:T):T:=(as.filter λa=>decide (a.g=g)).foldl (λw a=>mx w (lt a.t (Y (L-a.b) a.s))) w
theorem XQ {xs:List D}{n b:Nat}(hn:xs.length=n+1)(hb:b<=n):atI xs (-1-(b:Int))=xs[n-b]?:=by
 unfold atI;have:ixN xs.length (-1-(b:Int))=some (n-b):=by unfold ixN;rw[if_neg (by omega),if_pos (by omega)];congr 1;omega
 rw[this];rfl
noncomputable def wr (Y:Nat->Nat->T)(L:Nat)(Z:Nat->T):Nat->Nat->T:=λi g=>if i=L then Z g else Y i g
variable {L:Nat}
theorem Mw {g:Nat}(w:T)(h:∀a∈as,a.g=g->Y (L-a.b) a.s=Y' (L-a.b) a.s):tm as Y L g w=tm as Y' L g w:=by
 unfold tm;have h2:∀a∈as.filter (λa=>decide (a.g=g)),Y (L-a.b) a.s=Y' (L-a.b) a.s:=λa ha=>by have:=cI.mp ha;exact h a this.1 (by simpa using this.2)
 generalize as.filter (λa=>decide (a.g=g))=bs at h2;induction bs generalizing w with
 |nil=>rfl
 |cons b bs ih=>rw[dS,dS,h2 b bH];exact ih _ λa ha=>h2 a (bK _ ha)
theorem XU {x:Nat}(hx:x<mv)(v:T):(cQ mv (L+1) Y).set L (.lst (eR mv λy=>if y=x then v else Y L y))=cQ mv (L+1) (wr Y L λy=>if y=x then v else Y L y):=by
 apply mX
 ·simp[cQ]
 ·intro i h1 h2;have hi:i<L+1:=by simpa[cQ]using h2
  rw[qT];by_cases hL:L=i
  ·subst hL;rw[if_pos rfl];simp only[cQ,qS,lR];congr 1;exact xp λg _=>by simp[wr]
  ·rw[if_neg hL];have:¬i=L:=λz=>hL z.symm;simp only[cQ,qS,lR];congr 1;exact xp λg _=>by simp[wr,this]
structure Run (as:List eA)(mv depth rounds:Nat)(past:Nat->Nat->T)(f:Nat->Nat->T)(Y:Nat->Nat->T):Prop where
 past:∀i,i<depth->∀g,g<mv->Y i g=past i g
 rc:∀r,r<rounds->∀g,g<mv->Y (depth+r) g=tm as Y (depth+r) g (f g r)
theorem Wq {m:Nat}(Y:Nat->Nat->T)(Z:Nat->T):cQ mv m Y++[D.lst (eR mv Z)]=cQ mv (m+1) (wr Y m Z):=by
 unfold cQ;rw[List.range_succ,dU];congr 1
 ·apply fO;intro i hi;have:i≠m:=by have:=ce.mp hi;omega
  congr 1;exact xp λg _=>by simp[wr,this]
 ·simp only[ck,pT];congr 2;exact xp λg _=>by simp[wr]
theorem Wr (h:gQ mv as)(hn:ns.length=mv):∃p:List Nat,li 4 "order" lY (bX ns as) []=sL (bS p)/\Kahn.Ok (W0 as) mv p/\p.length=mv/\∀g,g<mv->g∈p:=by obtain⟨p,h1,h2⟩:=h.placed;refine⟨p,?_,h2⟩;rw[MA (by decide +kernel)];have f1:=jm ns as;have f2:=xj ns as;rw[←hn]at h1;unfold lY;clear hn h h2;walk_at "mix"
theorem Ws {k n:Nat}(Y:Nat->Nat->T)(h:n<=k):(cQ mv k Y).take n=cQ mv n Y:=by unfold cQ;rw[←List.map_take,List.take_range,sr h]
theorem Wt {k n:Nat}(Y:Nat->Nat->T):(cQ mv (n+k) Y).drop n=cQ mv k λr g=>Y (n+r) g:=by
 apply mX
 ·simp[cQ]
 ·intro i h1 h2;simp only[cQ,List.getElem_drop,qS,lR]
variable {depth rounds:Nat}
theorem Run.cut {uP:Nat}{past f:Nat->Nat->T}(h:Run as mv depth rounds past f Y)(hr:uP<=rounds):Run as mv depth uP past f Y:=⟨h.past,λr IZ=>h.rc r (by omega)⟩
theorem Run.on {more:Nat}{past f:Nat->Nat->T}(h:Run as mv (dep as) (rounds+more) past f Y):Run as mv (dep as) more (λi g=>Y (rounds+i) g) (λg r=>f g (rounds+r)) (λi g=>Y (rounds+i) g):=by
 refine⟨λ_ _ _ _=>rfl,λr hr g hg=>?_⟩;have:=h.rc (rounds+r) (by omega) g hg;rw[show rounds+(dep as+r)=dep as+(rounds+r)by omega,this];unfold tm;have hb:∀a∈as.filter (λa=>decide (a.g=g)),a.b<=dep as:=λa ha=>JH (cI.mp ha).1;generalize as.filter (λa=>decide (a.g=g))=bs at hb;generalize f g (rounds+r)=w;induction bs generalizing w with
 |nil=>rfl
 |cons b bs ih=>
  rw[dS,dS];have e:dep as+(rounds+r)-b.b=rounds+(dep as+r-b.b):=by have:=hb b bH;omega
  rw[e];exact ih (λa ha=>hb a (bK _ ha)) _
theorem ZG (g:Nat)(hg:g<=1000000):AL [.int (g:Int)]=some (.str (D3 (g:Int)))/\gb (.str "a") (.str (D3 (g:Int)))=some (.str ("a"++D3 (g:Int))):=by
 have h:Sz 1900 (g:Int):=by show(g:Int).natAbs<2 ^ 1900;have:(2:Nat) ^ 20<=2 ^ 1900:=fG (by decide) (by decide);omega
 have h2:=YN h;have h3:("a":Str).length=1:=by decide
 exact⟨Xj h,Xc (by omega)⟩
noncomputable def fr (q:Int×Int):D:=.tup [.int q.1,.int q.2]
theorem GL (q:Int×Int):ed (fr q) (.int 0)=sI q.1:=rfl
theorem vF (q:Int×Int):ed (fr q) (.int 1)=sI q.2:=rfl
noncomputable def Fz (n:Nat)(q:Int×Int):Prop:=Sz n q.1/\Sz n q.2
theorem Fz.mono {n m:Nat}{q:Int×Int}(h:Fz n q)(hm:n<=m):Fz m q:=⟨h.1.mono hm,h.2.mono hm⟩
theorem qo {n:Nat}{i w:Int}(h1:-w<=i)(h2:i<=w)(hw:w<2 ^ n):Sz n i:=by
 unfold Sz;have:(i.natAbs:Int)<2 ^ n:=by omega
 exact_mod_cast this
theorem L9 {x y:Int}(hy:Sz 8000 y):iP [.int x,.int y]=sI ((iH x y:Nat):Int):=by
 obtain⟨s',h1,h2,h3,r,h5⟩:=vo (c:=tb (e2 (jV true) (eV 1) (eC (D.int 0)))) (b:=jK) (λs:Int×Int×Option D=>[sI s.1,sI s.2.1,s.2.2]) (λs=>!decide (s.2.1=0)) (λs=>(s.2.1,s.1.fmod s.2.1,sI (s.1.fmod s.2.1))) (λs=>s.2.1.natAbs) (λs=>iH s.1 s.2.1=iH x y)
  (λs hp=>by walk_at "mix") (λs hp ht=>by
   have hs:s.2.1≠0:=by simpa using ht
   refine⟨.inl ?_,(Fq.gcd_step s.1 s.2.1).trans hp,Fq.fmod_less s.1 hs⟩;unfold jK;have:=Zc (i:=s.1) hs;walk_at "mix") pW (x,y,none) rfl (Qv hy (by decide))
 have h3:s'.2.1=0:=by simpa using h3
 have h4:=Fq.gcd_end s'.1;rw[h3]at h2;rw[h2]at h4;clear h5;unfold iP iy;walk_at "mix"
theorem uu {t b:Int}(hb:b≠0)(hz:Sz 8000 b):lh [.int t,.int b]=some (fr (Fq.mk t b)):=by
 have e:=L9 (x:=t) hz;have hg:=Fq.gcd_pos (t:=t) (b:=b) hb;have hd:Fq.dv t b≠0:=by unfold Fq.dv;split<;>omega
 have Bf:Sz 9000 (Fq.dv t b):=(hz.le (Fq.dv_le hb)).mono (by decide);have e1:=P3 (i:=t) hd Bf;have e2:=P3 (i:=b) hd Bf;unfold lh fr Fq.mk;by_cases hn:b<0
 ·have hd:Fq.dv t b = -((iH t b:Nat):Int):=by unfold Fq.dv;rw[if_pos hn]
  rw[hd]at e1 e2 ⊢;walk_at "mix"
 ·have hd:Fq.dv t b=((iH t b:Nat):Int):=by unfold Fq.dv;rw[if_neg hn]
  rw[hd]at e1 e2 ⊢;walk_at "mix"
theorem JW {n:Nat}{t b:Int}(hb:b≠0)(ht:Sz n t)(hz:Sz n b):Fz n (Fq.mk t b):=⟨ht.le (Fq.mk_le_one hb),hz.le (Fq.mk_le_two hb)⟩
theorem Rz:∀{p:List Nat} {i x y:Nat},p.Nodup->p[i]?=some x->y∈p.take i->p.idxOf y<p.idxOf x
 |[],i,x,y,_,h,_=>by simp at h
 |z::p,0,x,y,_,_,hy=>by simp at hy
 |z::p,i+1,x,y,nd,h,hy=>by
  obtain⟨n1,n2⟩:=cW.mp nd;have h:p[i]?=some x:=by simpa using h
  have hx:x∈p:=cJ.mpr ⟨i,h⟩;have TU:z≠x:=λe=>n1 (e▸hx);rw[List.take_succ_cons]at hy;have e1:(z::p).idxOf x=p.idxOf x+1:=by rw[Cp,show(z==x)=false from beq_eq_false_iff_ne.mpr TU];rfl
  rw[e1];rcases bY.mp hy with rfl|hy
  ·simp
  ·have:=Rz n2 h hy;by_cases Ol:z=y
   ·subst Ol;simp
   ·rw[Cp,show(z==y)=false from beq_eq_false_iff_ne.mpr Ol];show p.idxOf y+1<_;omega
noncomputable def kX (S G:Nat->Nat):Nat->List Nat->Nat->Prop
 |a,[],b=>a=b
 |a,n::l,b=>S n=a/\kX S G (G n) l b
variable {G S:Nat->Nat}
theorem kX.app {S G:Nat->Nat}{b c:Nat}{m:List Nat}(h2:kX S G b m c):∀{a:Nat} {l:List Nat},kX S G a l b->kX S G a (l++m) c
 |a,[],h=>by have h:a=b:=h;rw[h];exact h2
 |a,n::l,h=>⟨h.1,kX.app h2 h.2⟩
theorem kX.one (S G:Nat->Nat)(n:Nat):kX S G (S n) [n] (G n):=⟨rfl,rfl⟩
inductive Bk (S:Nat->Nat)(ch:Nat->Option Nat)(going:Nat):Nat->List Nat->Prop
 |nil:Bk S ch going going []
 |cons {x n:Nat} {w:List Nat}:x≠going->ch x=some n->Bk S ch going (S n) w->Bk S ch going x (w++[n])
structure xB (ts:List Nat)(S G:Nat->Nat)(going:Nat)(re:List Nat)(ch:Nat->Option Nat)(done:Nat):Prop where
 nd:re.Nodup
 hd:going∈re
 le:done<=re.length
 way:∀x∈re,x≠going->∃n,ch x=some n/\n∈ts/\G n=x/\∃j,re[j]?=some x/\S n∈re.take j
 cl:∀i,i<done->∀x,re[i]?=some x->∀n∈ts,S n=x->G n≠going/\G n∈re
variable {going:Nat}{ts:List Nat}
section
variable {re:List Nat}{ch:Nat->Option Nat}{done:Nat}
theorem xB.start:xB ts S G going [going] (λ_=>none) 0 :=
 ⟨by simp,by simp,ej _,λx hx h=>absurd (bU.mp hx) h,λi hi=>absurd hi (by omega)⟩
theorem xB.bk (h:xB ts S G going re ch done):∀(k x:Nat),x∈re->re.idxOf x<k->∃w,Bk S ch going x w/\w.length<k/\kX S G going w x/\(∀n∈w,n∈ts)/\(w.map S).Nodup/\∀n∈w,re.idxOf (S n)<re.idxOf x
 |0,_,_,h=>absurd h (by omega)
 |k+1,x,hx,hk=>by
  by_cases e:x=going
  ·subst e;exact⟨[],.nil,by simp,rfl,λn hn=>(by cases hn),by simp,λn hn=>(by cases hn)⟩
  ·obtain⟨n,h1,h2,h3,j,h4,h5⟩:=h.way x hx e;have:=Rz h.nd h4 h5;obtain⟨w,w1,w2,w3,w4,w5,w6⟩:=h.bk k (S n) (kQ h5) (by omega);refine⟨w++[n],.cons e h1 w1,by rw[cn,cV];omega,kX.app (h3▸kX.one S G n) w3,λm hm=>?_,?_,λm hm=>?_⟩
   ·rcases cA.mp hm with hm|hm
    ·exact w4 m hm
    ·rw[bU.mp hm];exact h2
   ·rw[dU];refine cF.mpr ⟨w5,by simp,λa ha b hb e=>?_⟩;obtain⟨m,hm,rfl⟩:=cK.mp ha;have:=w6 m hm;rw[e,bU.mp hb]at this;omega
   ·rcases cA.mp hm with hm|hm
    ·have:=w6 m hm;omega
    ·rw[bU.mp hm];omega
theorem xB.put (h:xB ts S G going re ch done){n:Nat}(hn:n∈ts)(hs:S n∈re)(hg:G n∉re):xB ts S G going (re++[G n]) (λx=>if x=G n then some n else ch x) done where
 nd:=by refine cF.mpr ⟨h.nd,by simp,λa ha b hb e=>?_⟩;rw[bU.mp hb]at e;exact hg (e▸ha)
 hd:=cC _ h.hd
 le:=by rw[cn];have:=h.le;omega
 way:=λx hx e=>by
  rcases cA.mp hx with hx|hx
  ·obtain⟨m,h1,h2,h3,j,h4,h5⟩:=h.way x hx e;have hj:=(bZ.mp h4).1;refine⟨m,?_,h2,h3,j,?_,?_⟩
   ·rw[if_neg (λz:x=G n=>hg (z▸hx))];exact h1
   ·rw[dE hj];exact h4
   ·rw[fu (by omega)];exact h5
  ·have hx:=bU.mp hx;subst hx;refine⟨n,if_pos rfl,hn,rfl,re.length,?_,?_⟩
   ·rw[f9 (b7 _)];simp
   ·rw[fu (b7 _),Bn];exact hs
 cl:=λi hi x hx m hm Tv=>by
  have hl:i<re.length:=by have:=h.le;omega
  rw[dE hl]at hx;obtain⟨c1,c2⟩:=h.cl i hi x hx m hm Tv;exact⟨c1,cC _ c2⟩
theorem xB.closed (h:xB ts S G going re ch re.length):∀{a:Nat} {l:List Nat} {b:Nat},kX S G a l b->a∈re->(∀n∈l,n∈ts)->l≠[]->b≠going
 |a,[],b,_,_,_,z=>absurd rfl z
 |a,[n],b,w,ha,hl,_=>by obtain⟨i,hi⟩:=cJ.mp ha;obtain⟨c1,c2⟩:=h.cl i (bZ.mp hi).1 _ hi n (hl n bH) w.1;have e:G n=b:=w.2;rw[←e];exact c1
 |a,n::m::l,b,w,ha,hl,_=>by obtain⟨i,hi⟩:=cJ.mp ha;obtain⟨c1,c2⟩:=h.cl i (bZ.mp hi).1 _ hi n (hl n bH) w.1;exact h.closed w.2 c2 (λq hq=>hl q (bK _ hq)) (by simp)
end
theorem Pb {g:D->L3.Env->Option L3.Env}{b:SF}{n:Nat}(I:Nat->L3.Env->Prop)(R:D->Prop)(st:∀i ρ,i<n->I i ρ->∃ρ1,g (.int (i:Int)) ρ=some ρ1/\((∃ρ2,b ρ1=some (.nx ρ2)/\I (i+1) ρ2)\/∃w,b ρ1=some (.rt w)/\R w)) :
  ∀(m k:Nat) (ρ:L3.Env),k+m=n->I k ρ->(∃ρ',gN g b ((mz k m).map λ(i:Nat)=>D.int (i:Int)) ρ=some (.nx ρ')/\I n ρ')\/∃w,gN g b ((mz k m).map λ(i:Nat)=>D.int (i:Int)) ρ=some (.rt w)/\R w
 |0,k,ρ,hk,hI=>by
  have:k=n:=by omega
  subst this;exact .inl ⟨ρ,rfl,hI⟩
 |m+1,k,ρ,hk,hI=>by
  obtain⟨ρ1,h1,h2⟩:=st k ρ (by omega) hI;have AM:gN g b ((mz k (m+1)).map λ(i:Nat)=>D.int (i:Int)) ρ=(g (.int (k:Int)) ρ).bind λρ1=>(b ρ1).bind λo=>match o with
    |.nx ρ'=>gN g b ((mz (k+1) m).map λ(i:Nat)=>D.int (i:Int)) ρ'
    |.ct ρ'=>gN g b ((mz (k+1) m).map λ(i:Nat)=>D.int (i:Int)) ρ'
    |.bk ρ'=>some (.nx ρ')
    |.rt d=>some (.rt d):=rfl
  rw[AM,h1,de];rcases h2 with⟨ρ2,h2,h3⟩|⟨w,h2,h3⟩
  ·rw[h2];exact Pb I R st m (k+1) ρ2 (by omega) h3
  ·rw[h2];exact .inr ⟨w,rfl,h3⟩
noncomputable def aN (as:List eA)(n:Nat):eA:=(as[n]?).getD ⟨.wait,0,0,0,0⟩
theorem yr {n:Nat}(h:n<as.length):as[n]?=some (aN as n):=by unfold aN;rw[df h];rfl
theorem zsu {i:Int}(h0:0<=i)(h1:i<(as.length:Int)):ed (.lst (as.map cS)) (.int i)=some (cS (aN as i.toNat)):=by obtain⟨n,rfl⟩:∃n:Nat,i=(n:Int):=⟨i.toNat,by omega⟩;rw[mG];exact yg (by rw[cu,yr (by omega)];rfl)
theorem Ng {is:List Int}{fld:Str}{f:eA->Int}{q:EF}(hq:q=eY (lsD (eV 1)) 1 [0] (gV 0) i7 (e1 (dq [0,1,2,3] fld) (e2 ed (e1 (dq [4] "arrows") (eV 1)) (eV 0))))(hf:∀a,dq [0,1,2,3] fld (cS a)=sI (f a))(hl:is.length<=1000)(hr:∀i∈is,0<=i/\i<(as.length:Int))(r:L3.Env)(h0:r[0]?.join=some (bX ns as))(h1:r[1]?.join=sL (is.map .int)) :
  q r=sL ((is.map λi=>f (aN as i.toNat)).map .int):=by
 rw[hq,d7];refine ye D.int (λi=>D.int (f (aN as i.toNat))) is (by unfold lsD;have:eV 1 r=_:=h1;rw[this];rfl) (by omega) λi hi=>⟨_,rfl,?_⟩;have e9:eE r [0]=[some (bX ns as)]:=by unfold eE;simp[h0]
 rw[e9];have i1:=zsu (hr i hi).1 (hr i hi).2;have f1:=hf (aN as i.toNat);have f4:=xj ns as;generalize f (aN as i.toNat)=v,cS (aN as i.toNat)=ea,as.map cS=al,bX ns as=net at *;clear e9 h0 h1 hr hi hl hf hq;walk_at "mix"
theorem Nh (xs:List Int):wK [.lst (xs.map .int)]=sI xs.sum:=by show(iC (xs.map .int)).bind _=_;rw[j6];rfl
noncomputable def tI (as:List eA)(i:Int):Int:=(aN as i.toNat).t
noncomputable def bI (as:List eA)(i:Int):Int:=((aN as i.toNat).b:Int)
theorem Q4 {f:Int->Int}{m:Int}(hm:0<=m):∀is:List Int,(∀i∈is,0<=f i/\f i<=m)->0<=(is.map f).sum/\(is.map f).sum<=m*(is.length:Int)
 |[],_=>by simp
 |i::is,h=>by obtain⟨h1,h2⟩:=Q4 hm is λj hj=>h j (bK _ hj);obtain⟨h3,h4⟩:=h i bH;rw[ck,di,b8];refine⟨by omega,?_⟩;rw[show((is.length+1:Nat):Int)=(is.length:Int)+1 by omega,yX,oH];omega
theorem zsv {is:List Int}(hl:is.length<=1000)(hb:∀a∈as,a.b<=4)(hr:∀i∈is,0<=i/\i<(as.length:Int))(h0:(is.map (bI as)).sum≠0):nq [bX ns as,.lst (is.map .int)]=some (fr (Fq.mk (is.map (tI as)).sum (is.map (bI as)).sum)):=by
 have k1:=Ng (ns:=ns) (as:=as) (is:=is) (fld:="time") (f:=λa=>a.t) (q:=sd) rfl ft hl hr [some (bX ns as),sL (is.map .int),none,none] rfl rfl;have k2:=Ng (ns:=ns) (as:=as) (is:=is) (fld:="behind") (f:=λa=>(a.b:Int)) (q:=rZ) rfl fb hl hr [some (bX ns as),sL (is.map .int),some (.int (is.map (tI as)).sum),none] rfl rfl;have s1:=Nh (is.map (tI as));have s2:=Nh (is.map (bI as));have bd:=Q4 (f:=bI as) (m:=4) (by decide) is λi hi=>by have:=hb (aN as i.toNat) (cJ.mpr ⟨i.toNat,yr (by have:=hr i hi;omega)⟩);unfold bI;omega
 have ra:=uu (t:=(is.map (tI as)).sum) h0 (qo (w:=4000) (by omega) (by omega) (by decide));replace k1:sd _=sL ((is.map (tI as)).map .int):=k1;replace k2:rZ _=sL ((is.map (bI as)).map .int):=k2;generalize fr (Fq.mk (is.map (tI as)).sum (is.map (bI as)).sum)=F,(is.map (tI as)).map D.int=tl,(is.map (bI as)).map D.int=bl at *;generalize (is.map (tI as)).sum=T,(is.map (bI as)).sum=Bh,bX ns as=net,is.map D.int=il at *;unfold nq;clear bd hl hb hr h0;walk_at "mix"
structure gh (d:D)(ch:Nat->Option Nat)(m:Nat):Prop where
 is:∃ks ds,d=.dK ks ds/\ks.length=ds.length/\ks.length<=m/\∀x:Nat,mM ks ds (.inl (x:Int))=(ch x).map λ(n:Nat)=>D.int (n:Int)
theorem gh.get {d:D}{ch:Nat->Option Nat}{m:Nat}(h:gh d ch m){x n:Nat}(e:ch x=some n):(jA d (.int (x:Int))).join=sI (n:Int):=by obtain⟨ks,ds,rfl,_,_,h3⟩:=h.is;show mM ks ds (.inl (x:Int))=_;rw[h3,e];rfl
theorem gh.put {d:D}{ch:Nat->Option Nat}{m:Nat}(h:gh d ch m)(hm:m<16777216)(x n:Nat):∃d',(∀(ρ:L3.Env) (i:Nat) (fj f:EF),f ρ=sI (n:Int)->eV i ρ=some d->fj ρ=sI (x:Int)->mR i fj f ρ=some (.nx (ρ.set i (some d'))))/\gh d' (λy=>if y=x then some n else ch y) (m+1):=by
 obtain⟨ks,ds,rfl,h1,h2,h3⟩:=h.is;refine⟨.dK (jD ks ds (.inl (x:Int)) (.int (n:Int))).1 (jD ks ds (.inl (x:Int)) (.int (n:Int))).2,λρ i fj f e1 e2 e3=>?_,⟨_,_,rfl,(MV h1 _ _).1,by have:=(MV h1 (.inl (x:Int)) (.int (n:Int))).2;omega,λy=>?_⟩⟩
 ·unfold mR;rw[e1];show(eV i ρ).bind _=_;rw[e2];show(fj ρ).bind _=_;rw[e3];show(if ks.length<16777216 then some (Out.nx (ρ.set i (some (.dK (jD ks ds (.inl (x:Int)) (.int (n:Int))).1 (jD ks ds (.inl (x:Int)) (.int (n:Int))).2))))else none)=_;rw[if_pos (by omega)]
 ·rw[Pw h1];by_cases e:y=x
  ·subst e;rw[if_pos rfl,if_pos rfl];rfl
  ·rw[if_neg (λz=>e (by have:=Sum.inl.inj z;omega)),if_neg e];exact h3 y
theorem qp {c:BF}{b:SF}(I:L3.Env->Prop)(μ:L3.Env->Nat)(R:D->Prop)(st:∀ρ,I ρ->∃t,c ρ=some t/\(t=true->(∃ρ',b ρ=some (.nx ρ')/\I ρ'/\μ ρ' < μ ρ)\/∃d,b ρ=some (.rt d)/\R d)) :
  ∀(n:Nat) (ρ:L3.Env),I ρ->μ ρ<n->(∃ρ',kU c b n ρ=some (.nx ρ')/\I ρ'/\c ρ'=some false)\/∃d,kU c b n ρ=some (.rt d)/\R d
 |0,_,_,h=>absurd h (by omega)
 |n+1,ρ,hI,h=>by
  obtain⟨t,h1,h2⟩:=st ρ hI;cases t with
  |false=>exact .inl ⟨ρ,by show(c ρ).bind _=_;rw[h1];rfl,hI,h1⟩
  |true=>
   rcases h2 rfl with⟨ρ',h3,h4,h5⟩|⟨d,h3,h4⟩
   ·rcases qp I μ R st n ρ' h4 (by omega)with⟨ρ2,h6,h7,h8⟩|⟨d,h6,h7⟩
    ·refine .inl ⟨ρ2,?_,h7,h8⟩;show(c ρ).bind _=_;rw[h1];show(b ρ).bind _=_;rw[h3];exact h6
    ·refine .inr ⟨d,?_,h7⟩;show(c ρ).bind _=_;rw[h1];show(b ρ).bind _=_;rw[h3];exact h6
   ·refine .inr ⟨d,?_,h4⟩;show(c ρ).bind _=_;rw[h1];show(b ρ).bind _=_;rw[h3];rfl
theorem ZH {p q:Int×Int}(h1:Fz 9000 p)(h2:Fz 9000 q):oq [fr p,fr q]=some (.bl (Fq.under p q)):=by have e1:=uq h1.1 h2.2 (by decide) (by decide);have e2:=uq h2.1 h1.2 (by decide) (by decide);unfold oq;have f0:=GL;have f1:=vF;walk_at "mix";rfl
theorem QR {n:Nat}{x y:Int×Int}(lx:Fq.Low x)(ly:Fq.Low y)(hx:Fz n x)(hy:Fz n y):Fz (n+n+1) (Fq.plus x y) :=
 JW (lx.mul_ne ly) (Sz.add (hx.1.mul hy.2) (hy.1.mul hx.2)) ((hx.2.mul hy.2).mono (by omega))
theorem Pc {n m:Nat}{x:Int×Int}{k:Int}(lx:Fq.Low x)(hx:Fz n x)(hk:Sz m k):Fz (n+m) (Fq.scaled x k):=JW lx.ne (hx.1.mul hk) (hx.2.mono (Nat.le_add_right _ _))
theorem Q5 {n:Nat}{p q:Int×Int}(hn:n<=2000)(lp:Fq.Low p)(lq:Fq.Low q)(h1:Fz n p)(h2:Fz n q):rV [fr p,fr q]=some (fr (Fq.plus p q)):=by have e1:=uq h1.1 h2.2 (by omega) (by omega);have e2:=uq h2.1 h1.2 (by omega) (by omega);have e3:=uq h1.2 h2.2 (by omega) (by omega);have r:=uu (t:=p.1*q.2+q.1*p.2) (lp.mul_ne lq) ((h1.2.mul h2.2).mono (by omega));have f0:=GL;have f1:=vF;unfold rV Fq.plus;clear h1 h2 lp lq hn;generalize fr (Fq.mk (p.1*q.2+q.1*p.2) (p.2*q.2))=rr at *;walk_at "mix"
theorem XX {n m:Nat}{p:Int×Int}{k:Int}(hn:n<=2000)(hm:m<=2000)(lp:Fq.Low p)(h1:Fz n p)(hk:Sz m k):pI [fr p,.int k]=some (fr (Fq.scaled p k)):=by have e1:=uq h1.1 hk (by omega) (by omega);have r:=uu (t:=p.1*k) lp.ne (h1.2.mono (by omega));have f0:=GL;have f1:=vF;unfold pI Fq.scaled;clear h1 hk lp hn hm;generalize fr (Fq.mk (p.1*k) p.2)=rr at *;walk_at "mix"
theorem Ni:Sz 1 (-1):=by unfold Sz;decide
theorem ZI {n:Nat}{p q:Int×Int}(hn:n<=1000)(lp:Fq.Low p)(lq:Fq.Low q)(h1:Fz n p)(h2:Fz n q):oo [fr p,fr q]=some (fr (Fq.minus p q)):=by have e1:=XX (by omega) (by decide) lq h2 Ni;have e2:=Q5 (n:=n+1) (by omega) lp (Fq.scaled_low lq (-1)) (h1.mono (by omega)) (Pc lq h2 Ni);unfold oo Fq.minus;clear h1 h2 lp lq hn;generalize fr (Fq.plus p (Fq.scaled q (-1)))=rr,fr (Fq.scaled q (-1))=sq at *;walk_at "mix"
theorem XY {n:Nat}{x y:Int×Int}(lx:Fq.Low x)(ly:Fq.Low y)(hx:Fz n x)(hy:Fz n y):Fz (n+1+(n+1)+1) (Fq.minus x y) :=
 QR lx (Fq.scaled_low ly (-1)) (hx.mono (by omega)) (Pc ly hy Ni)
theorem ZJ (t:Int):Fq.Low (t,1):=⟨gZ 1,by show iH t 1=1;simp⟩
theorem gh.has {d:D}{ch:Nat->Option Nat}{m:Nat}(h:gh d ch m)(x:Nat):jA d (.int (x:Int))=some ((ch x).map λ(n:Nat)=>D.int (n:Int)):=by obtain⟨ks,ds,rfl,_,_,h3⟩:=h.is;show some (mM ks ds (.inl (x:Int)))=_;rw[h3]
noncomputable def f6 (as:List eA)(p:Int×Int)(n:Nat):Int:=(aN as n).t*p.2-((aN as n).b:Int)*p.1
noncomputable def aS (as:List eA)(n:Nat):Nat:=(aN as n).s
noncomputable def aG (as:List eA)(n:Nat):Nat:=(aN as n).g
structure Gr (mv:Nat)(a:eA):Prop where
 s:a.s<mv
 g:a.g<mv
 t0:0<=a.t
 t1:a.t<=1000000000
 b:a.b<=4
theorem xq {n:Nat}(hn:n<as.length):aN as n∈as:=cJ.mpr ⟨n,yr hn⟩
noncomputable def pd (T:Nat->Int)(x:Nat)(v:Int):Nat->Int:=λy=>if y=x then v else T y
noncomputable def Md (T:Nat->Option Nat)(x v:Nat):Nat->Option Nat:=λy=>if y=x then some v else T y
noncomputable def p7 (T:Nat->Nat)(x v:Nat):Nat->Nat:=λy=>if y=x then v else T y
structure tP (cD:List Nat)(S G:Nat->Nat)(c:Nat->Int)(r:Nat)(dn:List Nat)(T:Nat->Int)(ch:Nat->Option Nat)(lr ts:Nat->Nat)(k:Nat):Prop where
 le:∀x,lr x<=r
 st:∀x,ts x<k
 ch:∀x,0<lr x->∃n,ch x=some n/\n∈cD/\G n=x/\lr x<=lr (S n)+1/\T x<=T (S n)+c n/\(T x<T (S n)+c n\/ts (S n)<ts x)
 old:∀n∈cD,lr (S n)+1<r->T (S n)+c n<=T (G n)
 dn:∀n∈dn,lr (S n)<r->T (S n)+c n<=T (G n)
 pos:∀x,0<=T x
variable {cD:List Nat}
section
variable {c:Nat->Int}{r:Nat}{dn:List Nat}{T:Nat->Int}{ch:Nat->Option Nat}{lr ts:Nat->Nat}{k:Nat}
theorem tP.start:tP cD S G c 1 [] (λ_=>0) (λ_=>none) (λ_=>0) (λ_=>0) 1 where
 le:=λ_=>ej _
 st:=λ_=>Nat.zero_lt_one
 ch:=λ_ h=>absurd h (fY 0)
 old:=λ_ _ h=>absurd h (by omega)
 dn:=λ_ h=>by cases h
 pos:=λ_=>gZ 0
theorem tP.next (h:tP cD S G c r cD T ch lr ts k):tP cD S G c (r+1) [] T ch lr ts k where
 le:=λx=>Nat.le_succ_of_le (h.le x)
 st:=h.st
 ch:=h.ch
 old:=λn hn h1=>h.dn n hn (by omega)
 dn:=λ_ h=>by cases h
 pos:=h.pos
theorem tP.stay (h:tP cD S G c r dn T ch lr ts k){n:Nat}(hn:T (S n)+c n<=T (G n)):tP cD S G c r (dn++[n]) T ch lr ts k where
 le:=h.le
 st:=h.st
 ch:=h.ch
 old:=h.old
 dn:=λm hm h1=>by
  rcases cA.mp hm with hm|hm
  ·exact h.dn m hm h1
  ·rw[bU.mp hm];exact hn
 pos:=h.pos
theorem tP.push (h:tP cD S G c r dn T ch lr ts k){n:Nat}(hn:n∈cD)(hp:T (G n)<T (S n)+c n) :
  tP cD S G c r (dn++[n]) (pd T (G n) (T (S n)+c n)) (Md ch (G n) n) (p7 lr (G n) r) (p7 ts (G n) k) (k+1) where
 le:=λx=>by
  unfold p7;split
  ·exact b7 _
  ·exact h.le x
 st:=λx=>by unfold p7;have:=h.st x;split<;>omega
 ch:=λx hx=>by
  have up:∀y,T y<=pd T (G n) (T (S n)+c n) y:=λy=>by
   unfold pd;split
   ·rename_i e;rw[e];omega
   ·exact gZ _
  have ul:∀y,lr y<=p7 lr (G n) r y:=λy=>by
   unfold p7;split
   ·exact h.le y
   ·exact b7 _
  by_cases e:x=G n
  ·subst e;refine⟨n,by simp[Md],hn,rfl,?_,?_,?_⟩
   ·have h1:¬lr (S n)+1<r:=λz=>by have:=h.old n hn z;omega
    have h2:=ul (S n);have h3:p7 lr (G n) r (G n)=r:=by simp[p7]
    omega
   ·have h2:=up (S n);have h3:pd T (G n) (T (S n)+c n) (G n)=T (S n)+c n:=by simp[pd]
    omega
   ·have h3:pd T (G n) (T (S n)+c n) (G n)=T (S n)+c n:=by simp[pd]
    by_cases e2:S n=G n
    ·left;rw[e2]at hp h3 ⊢
     omega
    ·right;have h4:p7 ts (G n) k (G n)=k:=by simp[p7]
     have h5:p7 ts (G n) k (S n)=ts (S n):=by simp[p7,e2]
     have:=h.st (S n);omega
  ·have xG:p7 lr (G n) r x=lr x:=by simp[p7,e]
   have ht:pd T (G n) (T (S n)+c n) x=T x:=by simp[pd,e]
   rw[xG]at hx;obtain⟨m,h1,h2,h3,h4,h5,h6⟩:=h.ch x hx;refine⟨m,by simp[Md,e,h1],h2,h3,?_,?_,?_⟩
   ·have:=ul (S m);omega
   ·have:=up (S m);omega
   ·by_cases e2:S m=G n
    ·left;have h7:pd T (G n) (T (S n)+c n) (S m)=T (S n)+c n:=by simp[pd,e2]
     rw[e2]at h5;omega
    ·have h7:pd T (G n) (T (S n)+c n) (S m)=T (S m):=by simp[pd,e2]
     have h8:p7 ts (G n) k (S m)=ts (S m):=by simp[p7,e2]
     have h9:p7 ts (G n) k x=ts x:=by simp[p7,e]
     rw[h7,h8,h9,ht];exact h6
 old:=λm hm h1=>by
  have e2:S m≠G n:=λe=>by
   have:p7 lr (G n) r (S m)=r:=by simp[p7,e]
   omega
  have h7:pd T (G n) (T (S n)+c n) (S m)=T (S m):=by simp[pd,e2]
  have h8:p7 lr (G n) r (S m)=lr (S m):=by simp[p7,e2]
  rw[h8]at h1;have h9:=h.old m hm h1;have:T (G m)<=pd T (G n) (T (S n)+c n) (G m):=by
   unfold pd;split
   ·rename_i e;rw[e];omega
   ·exact gZ _
  omega
 dn:=λm hm h1=>by
  have e2:S m≠G n:=λe=>by
   have:p7 lr (G n) r (S m)=r:=by simp[p7,e]
   omega
  have h7:pd T (G n) (T (S n)+c n) (S m)=T (S m):=by simp[pd,e2]
  have h8:p7 lr (G n) r (S m)=lr (S m):=by simp[p7,e2]
  rw[h8]at h1;rcases cA.mp hm with hm|hm
  ·have h9:=h.dn m hm h1;have:T (G m)<=pd T (G n) (T (S n)+c n) (G m):=by
    unfold pd;split
    ·rename_i e;rw[e];omega
    ·exact gZ _
   omega
  ·have hm:=bU.mp hm;subst hm;have h3:pd T (G m) (T (S m)+c m) (G m)=T (S m)+c m:=by simp[pd]
   omega
 pos:=λx=>by
  unfold pd;split
  ·have:=h.pos (G n);omega
  ·exact h.pos x
theorem tP.cost {Q:Nat->Prop}(h:∀n,Q n->T (G n)<=T (S n)+c n/\(T (G n)<T (S n)+c n\/ts (S n)<ts (G n))):∀{w:List Nat} {a b:Nat},kX S G a w b->(∀n∈w,Q n)->T b<=T a+(w.map c).sum/\(w=[]\/T b<T a+(w.map c).sum\/ts a<ts b)
 |[],a,b,hw,_=>by have hw:a=b:=hw;subst hw;simp
 |n::w,a,b,hw,hq=>by
  obtain⟨h1,h2⟩:=hw;obtain⟨i1,i2⟩:=tP.cost h h2 λm hm=>hq m (bK _ hm);obtain⟨j1,j2⟩:=h n (hq n bH);rw[ck,di];rw[←h1];refine⟨by omega,.inr ?_⟩;rcases i2 with i2|i2|i2
  ·subst i2;have h2:G n=b:=h2;subst h2;simp at i1 ⊢;rcases j2 with j2|j2
   ·left;omega
   ·right;exact j2
  ·left;omega
  ·rcases j2 with j2|j2
   ·left;omega
   ·right;omega
end
noncomputable def xC (S G:Nat->Nat):Nat->List Nat->Nat->Prop
 |a,[],b=>a=b
 |a,n::l,b=>G n=a/\xC S G (S n) l b
theorem xC.snoc {S G:Nat->Nat}{n:Nat}:∀{w:List Nat} {a b:Nat},xC S G a w b->G n=b->xC S G a (w++[n]) (S n)
 |[],a,b,h,e=>by have h:a=b:=h;exact⟨by rw[e,h],rfl⟩
 |m::w,a,b,h,e=>⟨h.1,xC.snoc h.2 e⟩
theorem xC.wlk {S G:Nat->Nat}:∀{w:List Nat} {a b:Nat},xC S G a w b->kX S G b w.reverse a
 |[],a,b,h=>by have h:a=b:=h;exact h.symm
 |n::w,a,b,h=>by rw[pU];exact kX.app (h.1▸kX.one S G n) (xC.wlk h.2)
theorem xC.drop {S G:Nat->Nat}:∀{w:List Nat} {a b:Nat} {j n:Nat},xC S G a w b->w[j]?=some n->xC S G (G n) (w.drop j) b
 |[],a,b,j,n,h,e=>by simp at e
 |m::w,a,b,0,n,h,e=>by
  have e:m=n:=by simpa using e
  subst e;exact⟨rfl,h.2⟩
 |m::w,a,b,j+1,n,h,e=>by rw[List.drop_succ_cons];exact xC.drop h.2 (by simpa using e)
structure Wk (ch:Nat->Option Nat)(S G:Nat->Nat)(lr:Nat->Nat)(v here:Nat)(ws:List Nat):Prop where
 ch:∀n∈ws,ch (G n)=some n/\0<lr (G n)
 way:xC S G v ws here
 nd:(ws.map G).Nodup
 lr:lr v<=lr here+ws.length
noncomputable def Pu (mv:Nat)(lr:Nat->Nat)(r:Nat)(pu:D):Prop:=(pu=.non/\∀x,lr x<r)\/∃v:Nat,pu=.int (v:Int)/\v<mv/\lr v=r
variable {M:Int}
theorem MB {mv:Nat}{as:List eA}{ns:List D}{p:Int×Int}{cD:List Nat}{r:Nat}{M:Int}(qI:∀a∈as,Gr mv a)(hM:∀n,n<as.length->f6 as p n<=M)(uG:0<=M)(hr:0<r)(hn:∀n∈cD,n<as.length){e2:Option D} :
  ∀(post pre:List Nat) (T:Nat->Int) (d:D) (ch:Nat->Option Nat) (lr ts:Nat->Nat) (k m:Nat) (C:Int) (pu:D) (y6 y7 y8:Option D),cD=pre++post->tP cD (aS as) (aG as) (f6 as p) r pre T ch lr ts k->gh d ch m->m+post.length<=1000000->(∀x,T x<=C)->Pu mv lr r pu ->
  ∃(T':Nat->Int) (d':D) (pP:Nat->Option Nat) (AE Cg:Nat->Nat) (k':Nat) (zS:D) (z6 z7 z8:Option D),gN (gV 6) eM (bS post) [some (bX ns as),some (fr p),e2,sL (eF mv T),some d,some pu,y6,y7,y8]=some (.nx [some (bX ns as),some (fr p),e2,sL (eF mv T'),some d',some zS,z6,z7,z8]) /\
   tP cD (aS as) (aG as) (f6 as p) r cD T' pP AE Cg k'/\gh d' pP (m+post.length)/\(∀x,T' x<=C+(post.length:Int)*M)/\Pu mv AE r zS
 |[],pre,T,d,ch,lr,ts,k,m,C,pu,y6,y7,y8,e,hP,hD,_,hC,hu=>by rw[cP]at e;subst e;exact⟨T,d,ch,lr,ts,k,pu,y6,y7,y8,rfl,hP,hD,λx=>by have:=hC x;simp;omega,hu⟩
 |n::post,pre,T,d,ch,lr,ts,k,m,C,pu,y6,y7,y8,e,hP,hD,hm,hC,hu=>by
  rw[b8]at hm;have IU:n∈cD:=by rw[e];simp
  have Hb:=hn n IU;have ok:=qI _ (xq Hb);have f4:=xj ns as;have i1:ed (.lst (as.map cS)) (.int (n:Int))=some (cS (aN as n)):=yg (by rw[cu,yr Hb];rfl);have f1:=fs (aN as n);have f2:=fg (aN as n);have f3:=ft (aN as n);have f5:=fb (aN as n);have v1:ed (.lst (eF mv T)) (.int ((aN as n).s:Int))=sI (T (aN as n).s):=ql T ok.s;have v2:ed (.lst (eF mv T)) (.int ((aN as n).g:Int))=sI (T (aN as n).g):=ql T ok.g;have m1:fD (.int (aN as n).t) (.int p.2)=sI ((aN as n).t*p.2):=wx (by have:=ok.t0;omega) (by have:=ok.t1;omega);have m2:fD (.int ((aN as n).b:Int)) (.int p.1)=sI (((aN as n).b:Int)*p.1):=wx (by omega) (by have:=ok.b;omega);have e8:T (aN as n).s+(aN as n).t*p.2-((aN as n).b:Int)*p.1=T (aS as n)+f6 as p n:=by unfold f6 aS;omega
  have eg:(aN as n).g=aG as n:=rfl;have p0:=GL p;have p1:=vF p;have AM:gN (gV 6) eM (bS (n::post)) [some (bX ns as),some (fr p),e2,sL (eF mv T),some d,some pu,y6,y7,y8]=(eM [some (bX ns as),some (fr p),e2,sL (eF mv T),some d,some pu,sI (n:Int),y7,y8]).bind λo=>match o with
    |.nx ρ'=>gN (gV 6) eM (bS post) ρ'
    |.ct ρ'=>gN (gV 6) eM (bS post) ρ'
    |.bk ρ'=>some (.nx ρ')
    |.rt d=>some (.rt d):=rfl
  have pe:cD=(pre++[n])++post:=by rw[e];simp
  by_cases hg:T (aG as n)<T (aS as n)+f6 as p n
  ·obtain⟨d2,put,hd2⟩:=hD.put (by omega) (aG as n) n;have gt:qX (.int (T (aS as n)+f6 as p n)) (.int (T (aN as n).g))=some (.bl true):=(zdn _ _).trans (by rw[decide_eq_true (by rw[eg];omega)]);have ps:pL (eF mv T) ((aN as n).g:Int) (.int (T (aS as n)+f6 as p n))=some (eF mv (pd T (aG as n) (T (aS as n)+f6 as p n))):=QL T ok.g _;have st:eM [some (bX ns as),some (fr p),e2,sL (eF mv T),some d,some pu,sI (n:Int),y7,y8]=some (.nx [some (bX ns as),some (fr p),e2,sL (eF mv (pd T (aG as n) (T (aS as n)+f6 as p n))),some d2,sI ((aG as n:Nat):Int),sI (n:Int),some (cS (aN as n)),sI (T (aS as n)+f6 as p n)]):=by
    have put:=put [some (bX ns as),some (fr p),e2,sL (eF mv (pd T (aG as n) (T (aS as n)+f6 as p n))),some d,some pu,sI (n:Int),some (cS (aN as n)),sI (T (aS as n)+f6 as p n)] 4 (e1 (dq [0,1,2,3] "goal") (eV 7)) (eV 6) rfl rfl f2;have pl:vZ 3 (e1 (dq [0,1,2,3] "goal") (eV 7)) (eV 8) [some (bX ns as),some (fr p),e2,sL (eF mv T),some d,some pu,sI (n:Int),some (cS (aN as n)),sI (T (aS as n)+f6 as p n)]=some (.nx [some (bX ns as),some (fr p),e2,sL (eF mv (pd T (aG as n) (T (aS as n)+f6 as p n))),some d,some pu,sI (n:Int),some (cS (aN as n)),sI (T (aS as n)+f6 as p n)]):=by unfold vZ e1 eV;generalize cS (aN as n)=ea at *;simp[f2,ps]
    have oU:T (aN as n).g<T (aS as n)+f6 as p n:=hg;generalize T (aS as n)+f6 as p n=w at *;generalize eF mv (pd T (aG as n) w)=v',T (aN as n).g=tg at *;rw[←eg];generalize eF mv T=v0,fr p=F,as.map cS=al,bX ns as=net,cS (aN as n)=ea at *;unfold eM;generalize vZ 3 (e1 (dq [0,1,2,3] "goal") (eV 7)) (eV 8)=PL,mR 4 (e1 (dq [0,1,2,3] "goal") (eV 7)) (eV 6)=PD at *;clear AM pe hP hD hm hC hu e IU Hb ok hg hd2 eg qI hM uG hn ps;walk_at "mix"
   obtain⟨T',d',pP,AE,Cg,k',zS,z6,z7,z8,h1,h2,h3,h4,h5⟩:=MB (ns:=ns) qI hM uG hr hn (e2:=e2) post (pre++[n]) _ d2 _ _ _ _ (m+1) (C+M) (.int ((aG as n:Nat):Int)) (sI (n:Int)) (some (cS (aN as n))) (sI (T (aS as n)+f6 as p n)) pe (hP.push IU hg) hd2 (by omega) (λx=>by unfold pd;have h1:=hC x;have h2:=hC (aS as n);have h3:=hM n Hb;split<;>omega) (.inr ⟨aG as n,rfl,ok.g,by simp[p7]⟩);refine⟨T',d',pP,AE,Cg,k',zS,z6,z7,z8,?_,h2,?_,λx=>?_,h5⟩
   ·rw[AM,st];exact h1
   ·rw[b8,show m+(post.length+1)=m+1+post.length by omega];exact h3
   ·have:=h4 x;rw[b8,show((post.length+1:Nat):Int)=(post.length:Int)+1 by omega,oG,rG];omega
  ·have gt:qX (.int (T (aS as n)+f6 as p n)) (.int (T (aN as n).g))=some (.bl false):=(zdn _ _).trans (by rw[decide_eq_false (by rw[eg];omega)]);have st:eM [some (bX ns as),some (fr p),e2,sL (eF mv T),some d,some pu,sI (n:Int),y7,y8]=some (.nx [some (bX ns as),some (fr p),e2,sL (eF mv T),some d,some pu,sI (n:Int),some (cS (aN as n)),sI (T (aS as n)+f6 as p n)]):=by have oU:¬T (aN as n).g<T (aS as n)+f6 as p n:=hg;generalize T (aS as n)+f6 as p n=w,T (aN as n).g=tg,eF mv T=v0,fr p=F,as.map cS=al,bX ns as=net,cS (aN as n)=ea at *;unfold eM;clear AM pe hP hD hm hC hu e IU Hb ok hg eg qI hM uG hn;walk_at "mix"
   obtain⟨T',d',pP,AE,Cg,k',zS,z6,z7,z8,h1,h2,h3,h4,h5⟩:=MB (ns:=ns) qI hM uG hr hn (e2:=e2) post (pre++[n]) T d ch lr ts k m C pu (sI (n:Int)) (some (cS (aN as n))) (sI (T (aS as n)+f6 as p n)) pe (hP.stay (by omega)) hD (by omega) hC hu;refine⟨T',d',pP,AE,Cg,k',zS,z6,z7,z8,?_,h2,?_,λx=>?_,h5⟩
   ·rw[AM,st];exact h1
   ·obtain⟨ks,ds,q1,q2,q3,q4⟩:=h3.is;exact⟨ks,ds,q1,q2,by rw[b8];omega,q4⟩
   ·have:=h4 x;rw[b8,show((post.length+1:Nat):Int)=(post.length:Int)+1 by omega,oG,rG];omega
theorem zsw {p:Int×Int}{r:Nat}(qI:∀a∈as,Gr mv a)(hM:∀n,n<as.length->f6 as p n<=M)(uG:0<=M)(hr:0<r)(hn:∀n∈cD,n<as.length){T:Nat->Int}{d:D}{ch:Nat->Option Nat}{lr ts:Nat->Nat}{k m:Nat}{C:Int}(hP:tP cD (aS as) (aG as) (f6 as p) r [] T ch lr ts k)(hD:gh d ch m)(hm:m+cD.length<=1000000)(hC:∀x,T x<=C)(hl:∀x,lr x<r) :
  ∃(T':Nat->Int) (d':D) (pP:Nat->Option Nat) (AE Cg:Nat->Nat) (k':Nat) (zS:D),gR [bX ns as,fr p,.lst (bS cD),.lst (eF mv T),d]=some (.tup [zS,.lst (eF mv T'),d']) /\
   tP cD (aS as) (aG as) (f6 as p) r cD T' pP AE Cg k'/\gh d' pP (m+cD.length)/\(∀x,T' x<=C+(cD.length:Int)*M)/\Pu mv AE r zS:=by
 obtain⟨T',d',pP,AE,Cg,k',zS,z6,z7,z8,h1,h2,h3,h4,h5⟩:=MB (ns:=ns) qI hM uG hr hn (e2:=sL (bS cD)) cD [] T d ch lr ts k m C .non none none none rfl hP hD hm hC (.inl ⟨rfl,hl⟩);refine⟨T',d',pP,AE,Cg,k',zS,?_,h2,h3,h4,h5⟩;unfold gR E3 Dg E4;generalize eF mv T=v0 at *;generalize eF mv T'=v1,fr p=F,bX ns as=net,bS cD=nl at *;clear hP hD hm hC hl qI hM uG hn h2 h3 h4 h5;walk_at "mix"
theorem gh.congr {d:D}{ch pP:Nat->Option Nat}{m:Nat}(h:gh d ch m)(e:∀x,ch x=pP x):gh d pP m:=by have:ch=pP:=funext e;rw[←this];exact h
theorem gh.mono {d:D}{ch:Nat->Option Nat}{m m':Nat}(h:gh d ch m)(e:m<=m'):gh d ch m':=by obtain⟨ks,ds,q1,q2,q3,q4⟩:=h.is;exact⟨ks,ds,q1,q2,by omega,q4⟩
theorem gh.nil:gh (.dK [] []) (λ_=>none) 0:=⟨[],[],rfl,rfl,by simp,λ_=>rfl⟩
noncomputable def BY (us:List Nat)(y:Nat):Option Nat:=if y∈us then some (us.idxOf y)else none
theorem ZK (us:List Nat){x:Nat}(h:x∉us)(y:Nat):(if y=x then some us.length else BY us y)=BY (us++[x]) y:=by
 unfold BY;by_cases e:y=x
 ·subst e;rw[if_pos rfl,if_pos (by simp),AU,if_neg h];simp
 ·rw[if_neg e];by_cases hy:y∈us
  ·rw[if_pos hy,if_pos (by simp[hy]),AU,if_pos hy]
  ·rw[if_neg hy,if_neg (by simp[hy,e])]
noncomputable def T6 (ρ:L3.Env):Nat:=match ρ[5]?.join with
 |some (D.lst ds)=>1000-ds.length
 |_=>0
noncomputable def cR:BF:=tb (λρ=>((eV 3) ρ).bind λx=>((eV 4) ρ).bind λy=>(jA y x).bind λr=>some (.bl (!r.isSome)))
theorem zty {m v:Nat}{d:D}{ch:Nat->Option Nat}{lr:Nat->Nat}(hD:gh d ch m)(pF:∀x,0<lr x->∃n,ch x=some n/\n<as.length/\aG as n=x/\lr x<=lr (aS as n)+1)(qI:∀a∈as,Gr mv a)(hv:v<mv)(N8:mv<=lr v)(hm:mv<=900) :
  ∃(R:List Nat) (x:Nat),iS [.lst (as.map cS),d,.int (v:Int)]=sL (bS R)/\R≠[]/\kX (aS as) (aG as) x R x/\(R.map (aG as)).Nodup/\∀n∈R,ch (aG as n)=some n/\0<lr (aG as n):=by
 have CB:∀(here:Nat) (us:List Nat) (d2:D) (k:Nat) (y0 y1 y2 y5:Option D),gh d2 (BY us) k->cR [y0,y1,y2,sI (here:Int),some d2,y5]=some (!decide (here∈us)):=by
  intro here us d2 k y0 y1 y2 y5 h;have g1:=h.has here;have NG:((BY us here).map λ(n:Nat)=>D.int (n:Int)).isSome=decide (here∈us):=by
   unfold BY;by_cases hh:here∈us
   ·rw[if_pos hh,decide_eq_true hh];rfl
   ·rw[if_neg hh,decide_eq_false hh];rfl
  rw[←NG];generalize (BY us here).map (λ(n:Nat)=>D.int (n:Int))=o at *;unfold cR;clear h NG pF qI hD;walk_at "mix"
 have lp:=qp (c:=cR) (b:=jL)
  (λρ=>∃(ws:List Nat) (here:Nat) (d2:D),ρ=[sL (as.map cS),some d,sI (v:Int),sI (here:Int),some d2,sL (bS ws)]/\Wk ch (aS as) (aG as) lr v here ws/\here<mv/\(∀n∈ws,n<as.length)/\gh d2 (BY (ws.map (aG as))) ws.length) T6
  (λ_=>False) (by
   rintro ρ ⟨ws,here,d2,rfl,hw,hh,hn,h2⟩;have EU:ws.length<=mv:=by rw[←bQ (f:=aG as)];refine Kahn.len_le hw.nd λx hx=>?_;obtain⟨n,h1,rfl⟩:=cK.mp hx;exact(qI _ (xq (hn n h1))).g
   refine⟨_,CB here _ d2 _ _ _ _ _ h2,λht=>.inl ?_⟩;have AC:here∉ws.map (aG as):=by simpa using ht
   have Hy:(ws.map (aG as)++[here]).Nodup:=cF.mpr ⟨hw.nd,by simp,λa ha b hb e=>AC (by rw[←bU.mp hb,←e];exact ha)⟩;have DX:=Kahn.len_le (mv:=mv) Hy λx hx=>by
    rcases cA.mp hx with hx|hx
    ·obtain⟨n,h1,rfl⟩:=cK.mp hx;exact(qI _ (xq (hn n h1))).g
    ·rw[bU.mp hx];exact hh
   rw[cn,bQ,cV]at DX;have hl:=hw.lr;obtain⟨n,c1,c2,c3,c4⟩:=pF here (by omega);obtain⟨d3,put,N2⟩:=h2.put (by omega) here ws.length;have put:=put [sL (as.map cS),some d,sI (v:Int),sI (here:Int),some d2,sL (bS ws)] 4 (eV 3) (eN eW (aCons (eV 5) aNil)) (by show eW [.lst (bS ws)]=_;rw[ym];unfold bS;rw[bQ]) rfl rfl;have g1:=hD.get c1;have f1:=fs (aN as n);have i1:ed (.lst (as.map cS)) (.int (n:Int))=some (cS (aN as n)):=yg (by rw[cu,yr c2];rfl);refine⟨[sL (as.map cS),some d,sI (v:Int),sI ((aN as n).s:Int),some d3,sL (bS (ws++[n]))],?_,⟨ws++[n],(aN as n).s,d3,rfl,⟨λk hk=>?_,hw.way.snoc c3,?_,?_⟩,(qI _ (xq c2)).s,λk hk=>?_,?_⟩,?_⟩
   ·have e3:bS (ws++[n])=bS ws++[.int (n:Int)]:=by unfold bS;rw[dU];rfl
    have hz:(bS ws).length<16777216:=by unfold bS;rw[bQ];omega
    rw[e3];generalize as.map cS=al,bS ws=wl,cS (aN as n)=ea at *;unfold jL;generalize mR 4 (eV 3) (eN eW (aCons (eV 5) aNil))=PP at *;clear e3 N2 c1 c2 c3 c4 hl DX Hy AC ht EU h2 hn hh hw CB hD pF qI hv N8 hm;walk_at "mix"
   ·rcases cA.mp hk with hk|hk
    ·exact hw.ch k hk
    ·rw[bU.mp hk,c3];exact⟨c1,by omega⟩
   ·rw[dU,pq,c3];exact Hy
   ·rw[cn,cV];have:(aN as n).s=aS as n:=rfl;rw[this];omega
   ·rcases cA.mp hk with hk|hk
    ·exact hn k hk
    ·rw[bU.mp hk];exact c2
   ·rw[cn,cV,dU,pq,c3];refine N2.congr λy=>?_;have:=ZK (ws.map (aG as)) AC y;rw[bQ]at this;exact this
   ·show 1000-(bS (ws++[n])).length<1000-(bS ws).length;unfold bS;rw[bQ,bQ,cn,cV]
    omega) pW [sL (as.map cS),some d,sI (v:Int),sI (v:Int),some (.dK [] []),sL (bS [])]
  ⟨[],v,.dK [] [],rfl,⟨λn hn=>(by cases hn),rfl,by simp,by simp⟩,hv,λn hn=>(by cases hn),gh.nil.congr λ_=>by simp[BY]⟩ (um (by show 1000-(bS []).length<1048576;omega))
 have n0:bS []=[]:=rfl;rw[n0]at lp;rcases lp with⟨ρ',l1,⟨ws,here,d2,rfl,hw,hh,hn,h2⟩,hc⟩|⟨_,_,f⟩
 ·rw[CB here _ d2 _ _ _ _ _ h2]at hc;have sS:here∈ws.map (aG as):=by simpa using hc
  have hj:BY (ws.map (aG as)) here=some ((ws.map (aG as)).idxOf here):=by unfold BY;rw[if_pos sS]
  have AB:=t9.mpr sS;have CG:(ws.map (aG as))[(ws.map (aG as)).idxOf here]?=some here:=by rw[df AB,Ak]
  generalize (ws.map (aG as)).idxOf here=j at *;rw[bQ]at AB;rw[cu,df AB]at CG;replace CG:aG as ws[j]=here:=by simpa using CG
  have wlk:xC (aS as) (aG as) here (ws.drop j) here:=by have:=hw.way.drop (j:=j) (n:=ws[j]) (df AB);rw[CG]at this;exact this
  refine⟨(ws.drop j).reverse,here,?_,?_,wlk.wlk,?_,λn Bd=>?_⟩
  ·have gv:=h2.get hj;have ct:cutD (bS ws) (some (j:Int)) none=bS (ws.drop j):=by rw[Pn];unfold bS;rw[uA]
   have lv:vR (.lst (bS (ws.drop j)))=sL (bS (ws.drop j).reverse):=by show some (D.lst (bS (ws.drop j)).reverse)=_;unfold bS;rw[←m9]
   unfold cR at l1;generalize bS (ws.drop j).reverse=wr at *;generalize bS (ws.drop j)=wd,as.map cS=al,bS ws=wl at *;unfold iS iy;generalize (tb (λρ=>((eV 3) ρ).bind λx=>((eV 4) ρ).bind λy=>(jA y x).bind λr=>some (.bl (!r.isSome))))=cc at *;clear wlk CG AB hj sS hc h2 hn hh hw CB hD pF qI hv N8 hm;walk_at "mix"
  ·intro e;have:=congrArg jT e;rw[i6,m6]at this;simp at this;omega
  ·rw[m9,uA];exact wR.mpr ((mH.sublist (AR _ _) hw.nd).imp λh e=>h e.symm)
  ·exact hw.ch n (xN (Bm.mp Bd))
 ·exact f.elim
noncomputable def pR (mv:Nat)(p:Int×Int)(T:Nat->Int):D:=.lst ((bR mv).map λg=>fr (Fq.mk (T g) p.2))
noncomputable def NC (mv:Nat)(as:List eA)(p:Int×Int)(cD:List Nat)(B:Int)(d:D):Prop :=
 (∃T:Nat->Int,d=.tup [.str "times",pR mv p T]/\(∀n∈cD,T (aS as n)+f6 as p n<=T (aG as n))/\∀x,0<=T x/\T x<=B) \/
 ∃(R:List Nat) (x:Nat),d=.tup [.str "ring",.lst (bS R)]/\R≠[]/\kX (aS as) (aG as) x R x/\(R.map (aG as)).Nodup/\(∀n∈R,n∈cD)/\0<(R.map (f6 as p)).sum
theorem ZL (mv:Nat):(bW mv [D.int 0]).flatten=eF mv λ_=>0:=by
 unfold eF;rw[nN,cE];induction mv with
 |zero=>rfl
 |succ n ih=>rw[dI,gD,ih,dI];rfl
theorem XZ {p:Int×Int}{T:Nat->Int}(hm:mv<=1000)(hp:p.2≠0)(Bf:Sz 8000 p.2)(r:L3.Env)(h1:r[1]?.join=some (fr p))(h3:r[3]?.join=sL (eF mv T)):jQ r=some (pR mv p T):=by
 unfold pR;refine ye (λ(g:Nat)=>D.int (T g)) (λg=>fr (Fq.mk (T g) p.2)) (bR mv) (by unfold lsD;have:eV 3 r=_:=h3;rw[this];rfl) (by rw[cE];omega) λg _=>⟨_,rfl,?_⟩;have e9:eE r [1]=[some (fr p)]:=by unfold eE;simp[h1]
 rw[e9];have p1:=vF p;have ra:=uu (t:=T g) hp Bf;generalize fr (Fq.mk (T g) p.2)=F,fr p=fp at *;clear e9 h1 h3 hm Bf;walk_at "mix"
theorem Py {p:Int×Int}(kG:ns.length=mv)(zQ:1<=mv)(hm:mv<=900)(qJ:cD.length<=1000)(qI:∀a∈as,Gr mv a)(hp:p.2≠0)(Bf:Sz 8000 p.2)(hM:∀n,n<as.length->f6 as p n<=M)(uG:0<=M)(hn:∀n∈cD,n<as.length) :
  ∃d,eh [bX ns as,fr p,.lst (bS cD)]=some d/\NC mv as p cD ((mv:Int)*((cD.length:Int)*M)) d:=by
 have ln:eW [.lst ns]=sI (mv:Int):=(ym _).trans (by rw[kG]);have Kg:=jm ns as;have IE:=xj ns as;have FO:0<=(cD.length:Int)*M:=kx (by omega) uG;have lp:=Pb (g:=gV 6) (b:=fI) (n:=mv)
  (λi ρ=>∃(T:Nat->Int) (d:D) (ch:Nat->Option Nat) (lr ts:Nat->Nat) (k:Nat) (pu:D) (y6:Option D),ρ=[some (bX ns as),some (fr p),sL (bS cD),sL (eF mv T),some d,some pu,y6]/\tP cD (aS as) (aG as) (f6 as p) (i+1) [] T ch lr ts k/\gh d ch (i*cD.length)/\(∀x,T x<=(i:Int)*((cD.length:Int)*M))/\(∀x,lr x<=i)/\(i=0\/∃v:Nat,pu=.int (v:Int)/\v<mv/\lr v=i))
  (NC mv as p cD ((mv:Int)*((cD.length:Int)*M))) (by
   rintro i ρ hi ⟨T,d,ch,lr,ts,k,pu,y6,rfl,hP,hD,hC,hl,_⟩;have EJ:i*cD.length+cD.length<=1000000:=by have:i*cD.length<=900*1000:=DE (by omega) qJ;omega
   obtain⟨T',d',pP,AE,Cg,k',zS,h1,h2,h3,h4,h5⟩:=zsw (ns:=ns) (cD:=cD) qI hM uG (Nat.succ_pos i) hn hP hD EJ hC (λx=>by have:=hl x;omega);have EH:nh d=true/\nh (.lst (eF mv T))=true:=by obtain⟨ks,ds,rfl,_⟩:=hD.is;exact⟨rfl,rfl⟩
   have hB:∀x,T' x<=((i+1:Nat):Int)*((cD.length:Int)*M):=λx=>by have:=h4 x;rw[show((i+1:Nat):Int)=(i:Int)+1 by omega,oG,rG];omega
   have KM:rO 3 4 (aCons (eV 0) (aCons (eV 1) (aCons (eV 2) aNil))) gR [some (bX ns as),some (fr p),sL (bS cD),sL (eF mv T),some d,some pu,sI (i:Int)]=some (zS,[some (bX ns as),some (fr p),sL (bS cD),sL (eF mv T'),some d',some pu,sI (i:Int)]):=by obtain⟨c1,c2⟩:=EH;generalize eF mv T=v0 at *;generalize eF mv T'=v1,fr p=F,bX ns as=net,bS cD=nl at *;unfold rO;clear hP hD hC hl EJ h2 h3 h4 h5 hB qI Bf hM uG hn FO ln Kg IE;walk_at "mix"
   have ss:t6 5 (rO 3 4 (aCons (eV 0) (aCons (eV 1) (aCons (eV 2) aNil))) gR) [some (bX ns as),some (fr p),sL (bS cD),sL (eF mv T),some d,some pu,sI (i:Int)]=some (.nx [some (bX ns as),some (fr p),sL (bS cD),sL (eF mv T'),some d',some zS,sI (i:Int)]):=by unfold t6;rw[KM];rfl
   refine⟨[some (bX ns as),some (fr p),sL (bS cD),sL (eF mv T),some d,some pu,sI (i:Int)],rfl,?_⟩;rcases h5 with⟨rfl,yD⟩|⟨v,rfl,hv,IT⟩
   ·refine .inr ⟨.tup [.str "times",pR mv p T'],?_,.inl ⟨T',rfl,λn hn=>h2.dn n hn (yD _),λx=>⟨h2.pos x,?_⟩⟩⟩
    ·have q:=XZ (T:=T') (p:=p) (mv:=mv) (by omega) hp Bf [some (bX ns as),some (fr p),sL (bS cD),sL (eF mv T'),some d',some .non,sI (i:Int)] rfl rfl;have sc:(D.str "times").sc=true:=rfl;generalize eF mv T=v0 at *;generalize eF mv T'=v1,fr p=F,bX ns as=net,bS cD=nl,pR mv p T'=TM at *;unfold fI Ez;generalize t6 5 (rO 3 4 (aCons (eV 0) (aCons (eV 1) (aCons (eV 2) aNil))) gR)=SM at *;clear hP hD hC hl EJ h1 h2 h3 h4 yD hB qI Bf hM uG hn FO ln Kg IE EH KM;walk_at "mix"
    ·have h6:=hB x;have h7:((i+1:Nat):Int)*((cD.length:Int)*M)<=(mv:Int)*((cD.length:Int)*M):=cH (by omega) FO;omega
   ·refine .inl ⟨[some (bX ns as),some (fr p),sL (bS cD),sL (eF mv T'),some d',sI (v:Int),sI (i:Int)],?_,⟨T',d',pP,AE,Cg,k',_,_,rfl,h2.next,?_,hB,h2.le,.inr ⟨v,rfl,hv,IT⟩⟩⟩
    ·generalize eF mv T=v0 at *;generalize eF mv T'=v1,fr p=F,bX ns as=net,bS cD=nl at *;unfold fI;generalize t6 5 (rO 3 4 (aCons (eV 0) (aCons (eV 1) (aCons (eV 2) aNil))) gR)=SM at *;clear hP hD hC hl EJ h1 h2 h3 h4 IT hB qI Bf hM uG hn FO ln Kg IE EH KM hv;walk_at "mix"
    ·rw[Nat.add_mul,Nat.one_mul];exact h3)
  mv 0 [some (bX ns as),some (fr p),sL (bS cD),sL (eF mv λ_=>0),some (.dK [] []),some .non,none] (by omega)
  ⟨λ_=>0,.dK [] [],λ_=>none,λ_=>0,λ_=>0,1,.non,none,rfl,tP.start,gh.nil.mono (by omega),λx=>by simp,λx=>b7 0,.inl rfl⟩
 have hrg:kT [.int (mv:Int)]=some ((bR mv).map λ(t:Nat)=>D.int (t:Int)):=by rw[vg (by omega) (by omega)];unfold iT;simp
 have rp:p3 (.lst [.int 0]) (.int (mv:Int))=sL (eF mv λ_=>0):=by show(if -1000000<(mv:Int)/\(mv:Int)<1000000/\[D.int 0].length<=16 then some (D.lst (bW (mv:Int).toNat [D.int 0]).flatten)else none)=_;rw[if_pos ⟨by omega,by omega,by simp⟩,mG,ZL mv]
 rw[←xL]at lp;rcases lp with⟨ρ',l1,⟨T,d,ch,lr,ts,k,pu,y6,rfl,hP,hD,hC,hl,hv⟩⟩|⟨w,l1,hw⟩
 ·rcases hv with hv|⟨v,rfl,hv,IT⟩
  ·omega
  obtain⟨R,x,r1,r2,r3,r4,r5⟩:=zty (as:=as) (mv:=mv) (v:=v) hD (λx hx=>by obtain⟨n,c1,c2,c3,c4,_⟩:=hP.ch x hx;exact⟨n,c1,hn n c2,c3,c4⟩) qI hv (by omega) hm;have key:∀n∈R,n∈cD/\T (aG as n)<=T (aS as n)+f6 as p n/\(T (aG as n)<T (aS as n)+f6 as p n\/ts (aS as n)<ts (aG as n)):=λn Th=>by obtain⟨q1,q2⟩:=r5 n Th;obtain⟨n',c1,c2,c3,c4,c5,c6⟩:=hP.ch _ q2;rw[q1]at c1;have:=Option.some.inj c1;subst this;exact⟨c2,c5,c6⟩
  obtain⟨_,k2⟩:=tP.cost (T:=T) (ts:=ts) (S:=aS as) (G:=aG as) (c:=f6 as p) (Q:=λn=>n∈R) (λn h=>(key n h).2) r3 (λn h=>h);refine⟨.tup [.str "ring",.lst (bS R)],?_,.inr ⟨R,x,rfl,r2,r3,r4,λn h=>(key n h).1,?_⟩⟩
  ·have sc:(D.str "ring").sc=true:=rfl;clear hP hD hC hl IT hv key k2 r2 r3 r4 r5 qI Bf hM uG hn FO;generalize eF mv T=v0,(eF mv λ_=>0)=v1,fr p=F,as.map cS=al,bX ns as=net,bS cD=nl,bS R=rl,(bR mv).map (λ(t:Nat)=>D.int (t:Int))=Ui at *;unfold eh Ez;walk_at "mix"
  ·rcases k2 with k2|k2|k2
   ·exact absurd k2 r2
   ·omega
   ·omega
 ·refine⟨w,?_,hw⟩;clear hw qI Bf hM uG hn FO;generalize (eF mv λ_=>0)=v1,fr p=F,as.map cS=al,bX ns as=net,bS cD=nl,(bR mv).map (λ(t:Nat)=>D.int (t:Int))=Ui at *;unfold eh Ez;walk_at "mix"
theorem ztz {n:Nat}(h1:n<as.length):ed (.lst (as.map eI)) (.int (n:Int))=some (.tup [.int ((aN as n).s:Int),.int ((aN as n).g:Int),.int (aN as n).t,.int ((aN as n).b:Int)]):=yg (by rw[cu,yr h1];rfl)
theorem FE (as:List eA)(f:eA->Int)(n:Nat):(aN (as.map λa=>yJ a (f a)) n).s=(aN as n).s/\(aN (as.map λa=>yJ a (f a)) n).g=(aN as n).g/\(aN (as.map λa=>yJ a (f a)) n).t=(aN as n).t/\(aN (as.map λa=>yJ a (f a)) n).b=(aN as n).b:=by unfold aN;rw[cu];cases as[n]?<;>exact⟨rfl,rfl,rfl,rfl⟩
noncomputable def tN (as:List eA)(n:Nat):Int:=(aN as n).t
noncomputable def bN (as:List eA)(n:Nat):Int:=((aN as n).b:Int)
theorem JD {as:List eA}{p:Int×Int}:∀w:List Nat,(w.map (f6 as p)).sum=(w.map (tN as)).sum*p.2-(w.map (bN as)).sum*p.1
 |[]=>by simp
 |n::w=>by
  rw[ck,ck,ck,di,di,di,JD w];unfold f6 tN bN
  grind
theorem JE {f:Nat->Int}{m:Int}(hm:0<=m):∀is:List Nat,(∀i∈is,0<=f i/\f i<=m)->0<=(is.map f).sum/\(is.map f).sum<=m*(is.length:Int)
 |[],_=>by simp
 |i::is,h=>by obtain⟨h1,h2⟩:=JE hm is λj hj=>h j (bK _ hj);obtain⟨h3,h4⟩:=h i bH;rw[ck,di,b8];refine⟨by omega,?_⟩;rw[show((is.length+1:Nat):Int)=(is.length:Int)+1 by omega,yX,oH];omega
theorem Pz {as:List eA}{rank:Nat->Nat}(yF:∀a∈as,a.b=0->rank a.s<rank a.g):∀{w:List Nat} {a b:Nat},kX (aS as) (aG as) a w b->(∀n∈w,n<as.length)->0<=(w.map (bN as)).sum/\((w.map (bN as)).sum=0->rank a+w.length<=rank b)
 |[],a,b,h,_=>by have h:a=b:=h;subst h;simp
 |n::w,a,b,h,hn=>by
  obtain⟨i1,i2⟩:=Pz yF h.2 λm hm=>hn m (bK _ hm);rw[ck,di,b8];have h0:0<=bN as n:=by unfold bN;omega
  refine⟨by omega,λe=>?_⟩;have h1:bN as n=0:=by omega
  have h2:=yF _ (xq (hn n bH)) (by unfold bN at h1;omega);have h3:=i2 (by omega);have e1:a=(aN as n).s:=h.1.symm;have e2:aG as n=(aN as n).g:=rfl;rw[e2]at h3;rw[e1];omega
theorem zt9 {w:List Nat}{j:Int}{f:eA->Int}{q:EF}(hq:q=eY fi 1 [0] (gV 0) i7 (e2 ed (e2 ed (eV 1) (eV 0)) (eC (.int j))))(hf:∀a:eA,ed (.tup [.int (a.s:Int),.int (a.g:Int),.int a.t,.int (a.b:Int)]) (.int j)=sI (f a))(hl:w.length<=1000)(hr:∀n∈w,n<as.length)(r:L3.Env)(h0:r[0]?.join=sL (as.map eI))(hi:fi r=some (bS w)) :
  q r=sL ((w.map λn=>f (aN as n)).map .int):=by
 rw[hq,d7];refine ye (λ(n:Nat)=>D.int (n:Int)) (λn=>D.int (f (aN as n))) w hi (by omega) λn hn=>⟨_,rfl,?_⟩;have e9:eE r [0]=[sL (as.map eI)]:=by unfold eE;simp[h0]
 rw[e9];have i1:=ztz (as:=as) (hr n hn);have f1:=hf (aN as n);generalize f (aN as n)=v,as.map eI=al,(D.tup [.int ((aN as n).s:Int),.int ((aN as n).g:Int),.int (aN as n).t,.int ((aN as n).b:Int)])=tp at *;clear e9 h0 hr hn hl hf hq hi;walk_at "mix"
variable {c1 c2 m2:Int}
theorem ZM {T B m1 S P:Int}(hc:0<c2)(hm:0<m2)(v:m1*(2*B*c2)=(T*c2+c1*B)*m2)(h:(c1*B-T*c2)*P<=S*c2*B):(m1*B-T*m2)*(2*P)<=S*m2*B:=by
 have e:(m1*B-T*m2)*(2*P)*c2=(c1*B-T*c2)*P*m2:=by
  have:(m1*B-T*m2)*(2*P)*c2=(m1*(2*B*c2)-2*T*c2*m2)*P:=by grind
  rw[this,v];grind
 have h1:=cH h (eD hm);rw[←e]at h1;have e2:S*c2*B*m2=S*m2*B*c2:=by grind
 rw[e2]at h1;exact iV h1 hc
theorem zt0 {T B T2 B2 m1 S P:Int}(hc:0<c2)(hm:0<m2)(hB:0<B)(Ks:0<B2)(hP:0<P)(v:m1*(2*B*c2)=(T*c2+c1*B)*m2)(ha:m1*B2<T2*m2)(h:(c1*B-T*c2)*P<=S*c2*B):(c1*B2-T2*c2)*(2*P)<=S*c2*B2:=by
 have k1:(c1*B2-T2*c2)*m2<=B2*(c1*m2-m1*c2):=by
  have:=cH (eD ha) (eD hc)
  grind
 have k2:(c1*m2-m1*c2)*(2*B)=m2*(c1*B-T*c2):=by grind
 have k3:(c1*B2-T2*c2)*m2*(2*B)<=B2*(m2*(c1*B-T*c2)):=by have:=cH k1 (show(0:Int)<=2*B by omega);rw[Int.mul_assoc B2,k2]at this;exact this
 have k4:=cH k3 (eD hP);have k5:=dP h (eD (fF Ks hm));have k6:(c1*B2-T2*c2)*(2*P)*(m2*B)<=S*c2*B2*(m2*B):=by
  have e1:(c1*B2-T2*c2)*(2*P)*(m2*B)=(c1*B2-T2*c2)*m2*(2*B)*P:=by grind
  have e2:B2*(m2*(c1*B-T*c2))*P=B2*m2*((c1*B-T*c2)*P):=by grind
  have e3:B2*m2*(S*c2*B)=S*c2*B2*(m2*B):=by grind
  rw[e1];rw[e2]at k4;rw[e3]at k5;exact wN k4 k5
 exact iV k6 (fF hm hB)
theorem zsx {T B T' B' D:Int}(hc:0<c2)(hB:0<B)(SR:B<=D)(Kr:0<B')(Kt:B'<=D)(h:(c1*B-T*c2)*(D*D)<c2*B)(hu:T' * c2<=c1*B'):T' * B<=T*B':=by
 apply Int.not_lt.mp;intro hn;have k1:c2<=B' * (c1*B-T*c2):=by
  have a1:c2<=(T' * B-T*B')*c2:=by have:1*c2<=(T' * B-T*B')*c2:=cH (by omega) (eD hc);omega
  have a2:=dP hu (eD hB)
  grind
 have hx:0<=c1*B-T*c2:=by apply Int.not_lt.mp;intro z;have:=Int.mul_lt_mul_of_pos_left z Kr;omega
 generalize c1*B-T*c2=x at *;have k2:=cH k1 (eD hB);have k3:B' * x*B<=x*(D*D):=by
  have b1:B' * B<=D*D:=fE Kt SR (eD hB) (by omega);have b2:=dP b1 hx;have e:B' * x*B=x*(B' * B):=by grind
  rw[e];exact b2
 omega
theorem ZN {T B S P D:Int}(hx:c2*B<=(c1*B-T*c2)*(D*D))(hc:0<c2)(hB:0<B)(hS:0<=S)(hP:0<P)(h:(c1*B-T*c2)*P<=S*c2*B):P<=S*(D*D):=by
 have pos:0<c2*B:=fF hc hB;have TN:0<c1*B-T*c2:=by
  apply Int.not_le.mp;intro z;have hD:0<=D*D:=by
   rcases wM 0 D with h|h
   ·exact kx h h
   ·exact pM h h
  have:(c1*B-T*c2)*(D*D)<=0:=Int.mul_nonpos_of_nonpos_of_nonneg z hD;omega
 generalize c1*B-T*c2=x at *;have k1:=dP hx hS;have e1:S*(c2*B)=S*c2*B:=by grind
 rw[e1]at k1;have k2:x*P<=x*(S*(D*D)):=by
  have e2:S*(x*(D*D))=x*(S*(D*D)):=by grind
  rw[e2]at k1;exact wN h k1
 exact Int.le_of_mul_le_mul_left k2 TN
theorem zsy {T B m1 S:Int}(hc:0<c2)(hB:0<B)(hm:0<m2)(hT:T<=S*B)(h:c1<=S*c2)(v:m1*(2*B*c2)=(T*c2+c1*B)*m2):m1<=S*m2:=by
 have k1:=cH hT (eD hc);have k2:=cH h (eD hB);have k3:T*c2+c1*B<=S*(2*B*c2):=by grind
 have k4:=cH k3 (eD hm);rw[←v]at k4;have e:S*(2*B*c2)*m2=S*m2*(2*B*c2):=by grind
 rw[e]at k4;have pos:0<2*B*c2:=fF (by omega) hc;exact iV k4 pos
theorem zsz {T B T' B' q1 q2:Int}(hB:0<B)(hq:0<q2)(e:q1*B=T*q2)(h:T' * B<=T*B'):T' * q2<=q1*B':=by
 have k:=cH h (eD hq);have e1:T' * B*q2=T' * q2*B:=by grind
 have e2:T*B' * q2=q1*B' * B:=by
  have:T*B' * q2=T*q2*B':=by grind
  rw[this,←e];grind
 rw[e1,e2]at k;exact iV k hB
noncomputable def sT (as:List eA)(R:List Nat):Int:=(R.map (tN as)).sum
noncomputable def sB (as:List eA)(R:List Nat):Int:=(R.map (bN as)).sum
structure RG (as:List eA)(cD:List Nat)(R:List Nat):Prop where
 ne:R≠[]
 w:∃x,kX (aS as) (aG as) x R x
 nd:(R.map (aG as)).Nodup
 m:∀n∈R,n∈cD
structure GN (mv:Nat)(as:List eA)(cD:List Nat)(rk:Nat->Nat)(mb:Nat):Prop where
 m1:1<=mv
 m:mv<=40
 al:as.length<=120
 ok:∀a∈as,Gr mv a
 n:∀n∈cD,n<as.length
 nl:cD.length<=120
 r:∀a∈as,a.b=0->rk a.s<rk a.g
 b1:1<=mb
 b4:mb<=4
 b:∀a∈as,a.b<=mb
theorem Nj {f:Nat->Int}:∀cD:List Nat,(∀n∈cD,0<=f n)->0<=(cD.map f).sum
 |[],_=>by simp
 |n::cD,h0=>by rw[ck,di];have:=Nj cD λm hm=>h0 m (bK _ hm);have:=h0 n bH;omega
theorem PB {l1 l2:List Int}(p:l1.Perm l2):l1.sum=l2.sum:=by
 induction p with
 |nil=>rfl
 |cons x _ ih=>rw[di,di,ih]
 |swap x y l=>rw[di,di,di,di];omega
 |trans _ _ TY TZ=>exact TY.trans TZ
theorem PJ {f:Nat->Int}:∀(R cD:List Nat),(∀n∈cD,0<=f n)->R.Nodup->(∀n∈R,n∈cD)->(R.map f).sum<=(cD.map f).sum
 |[],cD,h0,_,_=>by have:=Nj cD h0;simpa using this
 |n::R,cD,h0,nd,hs=>by
  have hn:=hs n bH;have p:=List.perm_cons_erase hn;have e:(cD.map f).sum=f n+((cD.erase n).map f).sum:=by have p2:=p.map f;rw[ck]at p2;rw[PB p2,di]
  obtain⟨n1,n2⟩:=cW.mp nd;have ih:=PJ R (cD.erase n) (λm hm=>h0 m (List.mem_of_mem_erase hm)) n2 λm hm=>(List.mem_erase_of_ne (λ(z:m=n)=>n1 (by rw[←z];exact hm))).mpr (hs m (bK _ hm));rw[ck,di,e];omega
variable {R:List Nat}{mb:Nat}
theorem RG.lt (h:RG as cD R)(g:GN mv as cD rk mb):∀n∈R,n<as.length:=λn hn=>g.n n (h.m n hn)
theorem RG.len (h:RG as cD R)(g:GN mv as cD rk mb):R.length<=mv:=by rw[←bQ (f:=aG as)];refine Kahn.len_le h.nd λy hy=>?_;obtain⟨n,q1,rfl⟩:=cK.mp hy;exact(g.ok _ (xq (h.lt g n q1))).g
theorem RG.bds (h:RG as cD R)(g:GN mv as cD rk mb):(0<=sT as R/\sT as R<=sT as cD)/\1<=sB as R/\sB as R<=(mv:Int)*(mb:Int):=by
 have hn:=h.lt g;have hl:=h.len g;obtain⟨x,hx⟩:=h.w;obtain⟨r1,r2⟩:=Pz (rank:=rk) g.r hx hn;have hwp:=lA.mpr h.ne;have bt:=JE (f:=tN as) (m:=1000000000) (by decide) R λn h=>⟨(g.ok _ (xq (hn n h))).t0,(g.ok _ (xq (hn n h))).t1⟩;have bb:=JE (f:=bN as) (m:=(mb:Int)) (by omega) R λn h=>by have:=g.b _ (xq (hn n h));unfold bN;omega
 have GV:1<=(R.map (bN as)).sum:=by
  by_cases e:(R.map (bN as)).sum=0
  ·have:=r2 e;omega
  ·omega
 have nd:R.Nodup:=mH.of_map (S:=(·≠·)) (aG as) (λa b h e=>h (by rw[e])) h.nd;refine⟨⟨bt.1,?_⟩,GV,?_⟩
 ·exact PJ R cD (λn hn=>(g.ok _ (xq (g.n n hn))).t0) nd h.m
 ·have:(mb:Int)*(R.length:Int)<=(mb:Int)*(mv:Int):=dP (by omega) (by omega);have e:(mb:Int)*(mv:Int)=(mv:Int)*(mb:Int):=iY _ _;have:=bb.2;unfold sB;omega
theorem GN.st (g:GN mv as cD rk mb):0<=sT as cD/\sT as cD<=120000000000:=by have bt:=JE (f:=tN as) (m:=1000000000) (by decide) cD λn h=>⟨(g.ok _ (xq (g.n n h))).t0,(g.ok _ (xq (g.n n h))).t1⟩;have:=g.nl;exact⟨bt.1,by have:=bt.2;unfold sT;omega⟩
theorem GN.D (g:GN mv as cD rk mb):1<=(mv:Int)*(mb:Int)/\(mv:Int)*(mb:Int)<=160:=by have h1:=g.m1;have h2:=g.b1;have a:(1:Int)*1<=(mv:Int)*(mb:Int):=fE (by omega) (by omega) (by decide) (by omega);have b:(mv:Int)*(mb:Int)<=40*4:=fE (by have:=g.m;omega) (by have:=g.b4;omega) (by omega) (by decide);omega
theorem Pd {p:Int×Int}{T:Nat->Int}(hk:∀n∈cD,T (aS as n)+f6 as p n<=T (aG as n)):∀{w:List Nat} {a b:Nat},kX (aS as) (aG as) a w b->(∀n∈w,n∈cD)->T a+(w.map (f6 as p)).sum<=T b
 |[],a,b,h,_=>by have h:a=b:=h;subst h;simp
 |n::w,a,b,h,hn=>by have i1:=Pd hk h.2 λm hm=>hn m (bK _ hm);have i2:=hk n (hn n bH);rw[h.1]at i2;rw[ck,di];omega
noncomputable def Kp (as:List eA)(cD:List Nat)(p:Int×Int):Prop:=∃T:Nat->Int,∀n∈cD,T (aS as n)+f6 as p n<=T (aG as n)
theorem Kp.le {p:Int×Int}(h:Kp as cD p)(hR:RG as cD R):sT as R*p.2<=p.1*sB as R:=by obtain⟨T,hT⟩:=h;obtain⟨x,hx⟩:=hR.w;have:=Pd hT hx hR.m;rw[JD]at this;unfold sT sB;rw[iY p.1];omega
theorem QS (as:List eA)(p:Int×Int):∀k:Nat,∃M:Int,0<=M/\∀n,n<k->f6 as p n<=M
 |0=>⟨0,gZ 0,λn h=>absurd h (by omega)⟩
 |k+1=>by
  obtain⟨M,h1,h2⟩:=QS as p k;refine⟨max M (f6 as p k),by omega,λn hn=>?_⟩;by_cases e:n=k
  ·rw[e];omega
  ·have:=h2 n (by omega);omega
theorem QT {p:Int×Int}(g:GN mv as cD rk mb)(kG:ns.length=mv)(hp:0<p.2)(hz:Sz 8000 p.2) :
  ∃d,gU [bX ns as,fr p,.lst (bS cD)]=some d/\((d=.non/\Kp as cD p)\/∃R,d=.lst (bS R)/\RG as cD R/\p.1*sB as R<sT as R*p.2):=by
 obtain⟨M,uG,hM⟩:=QS as p as.length;obtain⟨d,h1,h2⟩:=Py (ns:=ns) (cD:=cD) (p:=p) kG g.m1 (by have:=g.m;omega) (by have:=g.nl;omega) g.ok (by omega) hz hM uG g.n;have i0:∀(a b:D),ed (.tup [a,b]) (.int 0)=some a:=λ_ _=>rfl;have i1:∀(a b:D),ed (.tup [a,b]) (.int 1)=some b:=λ_ _=>rfl;rcases h2 with⟨T,rfl,h3,_⟩|⟨R,x,rfl,r1,r2,r3,r4,r5⟩
 ·refine⟨.non,?_,.inl ⟨rfl,T,h3⟩⟩;have e1:jV false (.str "times") (.str "ring")=some (.bl false):=by with_unfolding_all rfl
  generalize pR mv p T=TM at *;clear h3 hM uG hz hp g;generalize fr p=F,bX ns as=net,bS cD=nl at *;unfold gU;walk_at "mix"
 ·refine⟨.lst (bS R),?_,.inr ⟨R,rfl,⟨r1,⟨x,r2⟩,r3,r4⟩,?_⟩⟩
  ·have e1:jV false (.str "ring") (.str "ring")=some (.bl true):=by with_unfolding_all rfl
   generalize bS R=rl at *;clear r1 r2 r3 r4 r5 hM uG hz hp g;generalize fr p=F,bX ns as=net,bS cD=nl at *;unfold gU;walk_at "mix"
  ·rw[JD]at r5;unfold sT sB;rw[iY p.1];omega
theorem MC (g:GN mv as cD rk mb)(h:RG as cD R):nq [bX ns as,.lst (bS R)]=some (fr (Fq.mk (sT as R) (sB as R))):=by
 have hb:=h.bds g;have e1:((R.map λ(n:Nat)=>(n:Int)).map (tI as))=R.map (tN as):=by rw[d7];exact fO λn _=>by simp[tI,tN]
 have e2:((R.map λ(n:Nat)=>(n:Int)).map (bI as))=R.map (bN as):=by rw[d7];exact fO λn _=>by simp[bI,bN]
 have en:(R.map λ(n:Nat)=>(n:Int)).map D.int=bS R:=by rw[d7];rfl
 have m:=zsv (ns:=ns) (as:=as) (is:=R.map λ(n:Nat)=>(n:Int)) (by rw[bQ];have:=h.len g;have:=g.m;omega) (λa ha=>(g.ok a ha).b) (λi hi=>by
  obtain⟨n,h1,rfl⟩:=cK.mp hi;have:=h.lt g n h1
  omega) (by rw[e2];have:=hb.2.1;unfold sB at this;omega)
 rw[e1,e2,en]at m;exact m
theorem ZO (hl:as.length<=120):∃mb:Nat,li 4 "most_behind" dc (bX ns as) []=sI (mb:Int)/\1<=mb/\(∀a∈as,a.b<=mb)/\∀k:Nat,1<=k->(∀a∈as,a.b<=k)->mb<=k:=by
 have q:iX [some (bX ns as)]=sL ((as.map λa=>(a.b:Int)).map .int):=by rw[d7];refine ye (own:=1) (cap:=[]) (g:=gV 0) cS (λa=>D.int (a.b:Int)) as (by rfl) (by omega) λa _=>⟨_,rfl,?_⟩;exact fb a
 have ad:gb (.lst [.int 1]) (.lst ((as.map λa=>(a.b:Int)).map .int))=sL ((1::as.map λa=>(a.b:Int)).map .int):=by rw[P4 (by simp;omega)];rfl
 have mx:∃v:Int,oX [.lst ((1::as.map λa=>(a.b:Int)).map .int)]=sI v/\v∈(1::as.map λa=>(a.b:Int))/\∀z∈(1::as.map λa=>(a.b:Int)),z<=v:=by refine⟨_,?_,uc (ns:=1::as.map λa=>(a.b:Int)) rfl⟩;show(iC ((1::as.map λa=>(a.b:Int)).map .int)).bind _=_;rw[j6];rfl
 obtain⟨v,v1,v2,v3⟩:=mx;have TD:=v3 1 bH;refine⟨v.toNat,?_,by omega,λa ha=>?_,λk hk C3=>?_⟩
 ·have e:((v.toNat:Nat):Int)=v:=by omega
  rw[e];show dc [bX ns as]=_;generalize (1::as.map λa=>(a.b:Int)).map D.int=l1 at *;generalize (as.map λa=>(a.b:Int)).map D.int=l2,bX ns as=net at *;clear hl v2 v3 TD e;unfold dc;walk_at "mix"
 ·have:=v3 (a.b:Int) (bK _ (cK.mpr ⟨a,ha,rfl⟩));omega
 ·rcases bY.mp v2 with h|h
  ·omega
  ·obtain⟨a,ha,e⟩:=cK.mp h;have:=C3 a ha;omega
theorem zt1 (kG:ns.length=mv)(BM:li 4 "most_behind" dc (bX ns as) []=sI (mb:Int))(h1:1<=(mv:Int)*(mb:Int))(h2:(mv:Int)*(mb:Int)<=160)(h3:mb<=4):l6 [bX ns as]=some (fr (Fq.mk 1 ((mv:Int)*(mb:Int)*((mv:Int)*(mb:Int))))):=by have ln:eW [.lst ns]=sI (mv:Int):=(ym _).trans (by rw[kG]);have f5:=jm ns as;have m1:fD (.int (mv:Int)) (.int (mb:Int))=sI ((mv:Int)*(mb:Int)):=v9 (by omega) (by omega);have hD:0<(mv:Int)*(mb:Int)*((mv:Int)*(mb:Int))/\(mv:Int)*(mb:Int)*((mv:Int)*(mb:Int))<=160*160:=⟨fF (by omega) (by omega),fE h2 h2 (by omega) (by decide)⟩;generalize (mv:Int)*(mb:Int)=D0 at *;have m2:fD (.int D0) (.int D0)=sI (D0*D0):=v9 (by omega) (by omega);have ra:=uu (t:=1) (b:=D0*D0) (by omega) (qo (w:=25600) (by omega) (by omega) (by decide));generalize fr (Fq.mk 1 (D0*D0))=F,bX ns as=net at *;clear hD h1 h2 h3;unfold l6;walk_at "mix"
theorem zs0 {p q:Int×Int}{a b c d:Int}(lp:Fq.Low p)(lq:Fq.Low q)(h1:p.1*b=a*p.2)(h2:q.1*d=c*q.2):(Fq.plus p q).1*(b*d)=(a*d+c*b)*(Fq.plus p q).2:=by
 have v:=Fq.plus_v p q;generalize Fq.plus p q=s at *;have nU:p.2*q.2≠0:=lp.mul_ne lq;obtain⟨p1,p2⟩:=p;obtain⟨q1,q2⟩:=q;obtain⟨s1,s2⟩:=s;dsimp only at *;apply iU nU;have e:(a*d+c*b)*s2*(p2*q2)=(a*p2*(d*q2)+c*q2*(b*p2))*s2:=by grind
 rw[e,←h1,←h2];have e2:(p1*b*(d*q2)+q1*d*(b*p2))*s2=(p1*q2+q1*p2)*s2*(b*d):=by grind
 rw[e2,←v]
 grind
noncomputable def uL (p q:Int×Int):Int×Int:=Fq.mk (Fq.plus p q).1 ((Fq.plus p q).2*2)
theorem X0 {p q:Int×Int}{n:Nat}(hn:n<=2000)(lp:Fq.Low p)(lq:Fq.Low q)(zp:Fz n p)(zq:Fz n q):pH [fr p,fr q]=some (fr (uL p q)):=by have pl:=Q5 hn lp lq zp zq;have zz:=QR lp lq zp zq;have ll:=Fq.plus_low lp lq;unfold uL;generalize Fq.plus p q=s at *;have f0:=GL s;have f1:=vF s;have m1:fD (.int s.2) (.int 2)=sI (s.2*2):=v9 (by decide) (by decide);have two:Sz 2 (2:Int):=qo (w:=2) (by decide) (by decide) (by decide);have ra:=uu (t:=s.1) (b:=s.2*2) (by have:=ll.gt;omega) ((zz.2.mul two).mono (by omega));generalize fr (Fq.mk s.1 (s.2*2))=F,fr s=S,fr p=Fp,fr q=Fq' at *;clear zz ll lp lq zp zq two hn;unfold pH;walk_at "mix"
theorem zs1 {p q:Int×Int}{a b c d:Int}(lp:Fq.Low p)(lq:Fq.Low q)(h1:p.1*b=a*p.2)(h2:q.1*d=c*q.2):(uL p q).1*(2*b*d)=(a*d+c*b)*(uL p q).2:=by
 have v:=zs0 lp lq h1 h2;have m:=Fq.mk_cross (Fq.plus p q).1 ((Fq.plus p q).2*2);have g:=(Fq.plus_low lp lq).gt;unfold uL;generalize Fq.mk (Fq.plus p q).1 ((Fq.plus p q).2*2)=m' at *;generalize Fq.plus p q=s at *;obtain⟨m1,m2⟩:=m';obtain⟨s1,s2⟩:=s;dsimp only at *;apply iU (show s2≠0 by omega);have e1:m1*(2*b*d)*s2=m1*(s2*2)*(b*d):=by grind
 have e2:(a*d+c*b)*m2*s2=(a*d+c*b)*s2*m2:=by grind
 rw[e1,e2,←v,m]
 grind
theorem PM {p q:Int×Int}(lp:Fq.Low p)(lq:Fq.Low q):Fq.Low (uL p q):=Fq.mk_low (by have:=(Fq.plus_low lp lq).gt;omega)
theorem ZP {p q:Int×Int}(lp:Fq.Low p)(lq:Fq.Low q):(uL p q).2<=p.2*q.2*2:=by have h1:=Fq.mk_le_two (t:=(Fq.plus p q).1) (b:=(Fq.plus p q).2*2) (by have:=(Fq.plus_low lp lq).gt;omega);have h2:=Fq.mk_le_two (t:=p.1*q.2+q.1*p.2) (b:=p.2*q.2) (lp.mul_ne lq);have g1:=(Fq.plus_low lp lq).gt;have g2:=(PM lp lq).gt;have g3:=fF lp.gt lq.gt;have e:(Fq.mk (p.1*q.2+q.1*p.2) (p.2*q.2))=Fq.plus p q:=rfl;rw[e]at h2;have e2:Fq.mk (Fq.plus p q).1 ((Fq.plus p q).2*2)=uL p q:=rfl;rw[e2]at h1;omega
theorem OZ {c:BF}{b:SF}(N:Nat)(I:Nat->L3.Env->Prop)(st:∀i ρ,I i ρ->∃t,c ρ=some t/\(t=true->i<N/\∃ρ',b ρ=some (.nx ρ')/\I (i+1) ρ')) :
  ∀(k i:Nat) (ρ:L3.Env),I i ρ->i<=N->N<i+k->∃i' ρ',kU c b k ρ=some (.nx ρ')/\I i' ρ'/\c ρ'=some false
 |0,i,ρ,_,h1,h2=>absurd h2 (by omega)
 |k+1,i,ρ,hI,hi,h=>by
  obtain⟨t,h1,h2⟩:=st i ρ hI;cases t with
  |false=>exact⟨i,ρ,by show(c ρ).bind _=_;rw[h1];rfl,hI,h1⟩
  |true=>obtain⟨AA,ρ',h3,h4⟩:=h2 rfl;obtain⟨i',ρ2,h6,h7,h8⟩:=OZ N I st k (i+1) ρ' h4 (by omega) (by omega);refine⟨i',ρ2,?_,h7,h8⟩;show(c ρ).bind _=_;rw[h1];show(b ρ).bind _=_;rw[h3];exact h6
noncomputable def cG:BF:=bNot (tb (cl oq (aCons (cl oo (aCons (eV 3) (aCons (cl nq (aCons (eV 0) (aCons (eV 2) aNil))) aNil))) (aCons (eV 4) aNil))))
structure GI (as:List eA)(cD:List Nat)(i:Nat)(R:List Nat)(c:Int×Int):Prop where
 r:RG as cD R
 low:Fq.Low c
 up:∀R',RG as cD R'->sT as R' * c.2<=c.1*sB as R'
 le:c.1<=sT as cD*c.2
 sz:c.2<=((320 ^ i:Nat):Int)
 d:(c.1*sB as R-sT as R*c.2)*((2 ^ i:Nat):Int)<=sT as cD*c.2*sB as R
theorem GI.pos {i:Nat}{c:Int×Int}(h:GI as cD i R c)(g:GN mv as cD rk mb):0<=c.1:=by have hb:=h.r.bds g;have h1:=h.up R h.r;have h2:0<=sT as R*c.2:=kx hb.1.1 (by have:=h.low.gt;omega);exact rF (b:=sB as R) (by omega) (by omega)
theorem B5 {i:Nat}(h:i<=60):((320 ^ i:Nat):Int)<=((320 ^ 60:Nat):Int):=by have:=fG (n:=320) (by decide) h;exact Int.ofNat_le.mpr this
theorem zR:120000000000*((320 ^ 60:Nat):Int)<2 ^ 700:=by decide +kernel
theorem GI.fz {i:Nat}{c:Int×Int}(h:GI as cD i R c)(g:GN mv as cD rk mb)(hi:i<=60):Fz 700 c:=by have h0:=h.pos g;have h1:=h.low.gt;have h2:=h.sz;have h3:=B5 hi;have h4:=zR;have h5:=h.le;have h6:sT as cD*c.2<=120000000000*((320 ^ 60:Nat):Int):=fE g.st.2 (by omega) (by omega) (by decide);generalize ((320 ^ 60:Nat):Int)=K at *;exact⟨qo (w:=120000000000*K) (by omega) (by omega) h4,qo (w:=120000000000*K) (by omega) (by omega) h4⟩
theorem JF (h:RG as cD R)(g:GN mv as cD rk mb):Fq.Low (Fq.mk (sT as R) (sB as R))/\Fz 700 (Fq.mk (sT as R) (sB as R))/\(Fq.mk (sT as R) (sB as R)).2<=160/\(0<=(Fq.mk (sT as R) (sB as R)).1/\(Fq.mk (sT as R) (sB as R)).1<=120000000000):=by
 obtain⟨⟨t1,t2⟩,b1,b2⟩:=h.bds g;have hD:=g.D;have hS:=g.st;have l:=Fq.mk_low (t:=sT as R) (b:=sB as R) (by omega);have k1:=Fq.mk_le_one (t:=sT as R) (b:=sB as R) (by omega);have k2:=Fq.mk_le_two (t:=sT as R) (b:=sB as R) (by omega);have c:=Fq.mk_cross (sT as R) (sB as R);have gg:=l.gt;have n0:0<=(Fq.mk (sT as R) (sB as R)).1:=by refine rF (b:=sB as R) ?_ (by omega);rw[c];exact kx t1 (by omega)
 exact⟨l,JW (by omega) (qo (w:=120000000000) (by omega) (by omega) (by decide)) (qo (w:=160) (by omega) (by omega) (by decide)),by omega,n0,by omega⟩
theorem zs2 {T B D0:Int}{c:Int×Int}(lc:Fq.Low c)(hB:0<B)(hD:0<D0):Fq.under (Fq.minus c (Fq.mk T B)) (Fq.mk 1 (D0*D0))=decide ((c.1*B-T*c.2)*(D0*D0)<c.2*B):=by
 have lm:=Fq.mk_low (t:=T) (b:=B) (by omega);have EA:0<D0*D0:=fF hD hD;have lg:=Fq.mk_low (t:=1) (b:=D0*D0) (by omega);have cm:=Fq.mk_cross T B;have cg:=Fq.mk_cross 1 (D0*D0);have v:=Fq.minus_v (p:=c) (q:=Fq.mk T B) lm;have ll:=Fq.minus_low lc lm;generalize Fq.mk T B=m,Fq.mk 1 (D0*D0)=gp at *;generalize Fq.minus c m=d at *;have hm:=lm.gt;have hc:=lc.gt;have v2:d.1*(c.2*B)=(c.1*B-T*c.2)*d.2:=by
  obtain⟨d1,d2⟩:=d;obtain⟨m1,m2⟩:=m;obtain⟨c1,c2⟩:=c;dsimp only at *;apply iU (show m2≠0 by omega);have e1:d1*(c2*B)*m2=d1*(c2*m2)*B:=by grind
  have e2:(c1*B-T*c2)*d2*m2=(c1*m2*B-T*m2*c2)*d2:=by grind
  rw[e1,v,e2,←cm]
  grind
 have e:=Fq.lt_congr (n:=d.1) (d:=d.2) (m:=c.1*B-T*c.2) (e:=c.2*B) (n':=gp.1) (d':=gp.2) (m':=1) (e':=D0*D0) ll.gt (fF hc hB) lg.gt EA v2 cg;unfold Fq.under;refine decide_eq_decide.mpr (e.trans ?_);rw[rG]
theorem Zg (g:GN mv as cD rk mb)(kG:ns.length=mv)(BM:li 4 "most_behind" dc (bX ns as) []=sI (mb:Int)) :
  ∃d,hV [bX ns as,.lst (bS cD)]=some d/\((d=.non/\∀R,¬RG as cD R)\/∃R,d=.lst (bS R)/\RG as cD R/\∀R',RG as cD R'->sT as R' * sB as R<=sT as R*sB as R'):=by
 obtain⟨d0,a1,a2⟩:=QT (ns:=ns) (p:=(-1,1)) g kG (by decide) (qo (w:=1) (by decide) (by decide) (by decide));replace a1:gU [bX ns as,.tup [.int (-1),.int 1],.lst (bS cD)]=some d0:=a1;have hD:=g.D;have hS:=g.st;rcases a2 with⟨rfl,hK⟩|⟨R0,rfl,FP,_⟩
 ·refine⟨.non,?_,.inl ⟨rfl,λR hR=>?_⟩⟩
  ·generalize bX ns as=net at *;generalize bS cD=nl at *;clear g hK hD hS kG BM;unfold hV;walk_at "mix"
  ·have h1:=hK.le hR;have h2:=hR.bds g;dsimp only at h1;omega
 ·have gp:=zt1 (as:=as) kG BM hD.1 hD.2 g.b4;obtain⟨D0,GR⟩:∃D0:Int,D0=(mv:Int)*(mb:Int):=⟨_,rfl⟩;rw[←GR]at gp hD;have EA:0<D0*D0/\D0*D0<=160*160:=⟨fF (by omega) (by omega),fE hD.2 hD.2 (by omega) (by decide)⟩;have zg:Fz 700 (Fq.mk 1 (D0*D0)):=JW (by omega) (qo (w:=1) (by decide) (by decide) (by decide)) (qo (w:=25600) (by omega) (by omega) (by decide));have CB:∀(i:Nat) (R:List Nat) (c:Int×Int) (y1 y5 y6:Option D),GI as cD i R c->i<=60->cG [some (bX ns as),y1,sL (bS R),some (fr c),some (fr (Fq.mk 1 (D0*D0))),y5,y6]=some (!decide ((c.1*sB as R-sT as R*c.2)*(D0*D0)<c.2*sB as R)):=by intro i R c y1 y5 y6 h hi;have hb:=h.r.bds g;obtain⟨lm,zm,_⟩:=JF h.r g;have me:=MC (ns:=ns) g h.r;have zc:=h.fz g hi;have mi:=ZI (n:=700) (by decide) h.low lm zc zm;have Rh:=XY h.low lm zc zm;have un:=ZH (p:=Fq.minus c (Fq.mk (sT as R) (sB as R))) (q:=Fq.mk 1 (D0*D0)) (Rh.mono (by decide)) (zg.mono (by decide));rw[zs2 h.low (by omega) (by omega)]at un;generalize decide ((c.1*sB as R-sT as R*c.2)*(D0*D0)<c.2*sB as R)=bb,fr (Fq.minus c (Fq.mk (sT as R) (sB as R)))=F1,fr (Fq.mk (sT as R) (sB as R))=F2,fr (Fq.mk 1 (D0*D0))=F3,fr c=F4,bS R=rl,bX ns as=net at *;clear Rh zc zm lm hb h hi gp zg EA hD GR FP a1 hS g BM kG;unfold cG;walk_at "mix"
  have lp:=OZ (c:=cG) (b:=iB) 55
   (λi ρ=>i<=55/\∃(R:List Nat) (c:Int×Int) (y5 y6:Option D),ρ=[some (bX ns as),sL (bS cD),sL (bS R),some (fr c),some (fr (Fq.mk 1 (D0*D0))),y5,y6]/\GI as cD i R c) (by
    rintro i ρ ⟨hi,R,c,y5,y6,rfl,h⟩;refine⟨_,CB i R c _ y5 y6 h (by omega),λht=>?_⟩;obtain⟨⟨t1,t2⟩,b1,b2⟩:=h.r.bds g;have hc:=h.low.gt;have Ox:¬(c.1*sB as R-sT as R*c.2)*(D0*D0)<c.2*sB as R:=by simpa using ht
    have stop:=ZN (D:=D0) (P:=((2 ^ i:Nat):Int)) (by omega) hc (by omega) hS.1 (by have:=Nat.pow_pos (n:=i) (show 0<2 by decide);omega) h.d;have AA:i<55:=by
     apply Nat.not_le.mp;intro z;have h1:=fG (n:=2) (by decide) z;have h2:sT as cD*(D0*D0)<=120000000000*(160*160):=fE hS.2 EA.2 (by omega) (by decide);have h3:(2:Nat) ^ 55=36028797018963968:=by decide
     omega
    refine⟨AA,?_⟩;obtain⟨lm,zm,yI,_⟩:=JF h.r g;have me:=MC (ns:=ns) g h.r;have zc:=h.fz g (by omega);have md:=X0 (n:=700) (by decide) lm h.low zm zc;have cm:=Fq.mk_cross (sT as R) (sB as R);have v:=zs1 (a:=sT as R) (b:=sB as R) (c:=c.1) (d:=c.2) lm h.low cm rfl;have lw:=PM lm h.low;have OP:=ZP lm h.low;have On:=lm.gt;generalize Fq.mk (sT as R) (sB as R)=m at *;generalize uL m c=w at *;have hw:=lw.gt;have FA:w.2<=((320 ^ (i+1):Nat):Int):=by
     have e1:m.2*c.2*2<=160*c.2*2:=by have:=cH yI (eD hc);omega
     have e2:=h.sz;rw[qD];omega
    have Ey:c.2<=((320 ^ (i+1):Nat):Int):=by have e2:=h.sz;rw[qD];omega
    have p2:((2 ^ (i+1):Nat):Int)=2*((2 ^ i:Nat):Int):=by rw[qD];omega
    have Lp:Sz 8000 w.2:=by have h3:=B5 (i:=i+1) (by omega);have h4:=zR;generalize ((320 ^ 60:Nat):Int)=K at *;exact(qo (n:=700) (w:=120000000000*K) (by omega) (by omega) h4).mono (by decide)
    obtain⟨d,ab,CZ⟩:=QT (ns:=ns) (p:=w) g kG hw Lp;rcases CZ with⟨rfl,hK⟩|⟨R2,rfl,Ky,BB⟩
    ·refine⟨[some (bX ns as),sL (bS cD),sL (bS R),some (fr w),some (fr (Fq.mk 1 (D0*D0))),some (fr w),some .non],?_,by omega,R,w,_,_,rfl,⟨h.r,lw,λR' DR=>hK.le DR,?_,FA,?_⟩⟩
     ·generalize fr (Fq.mk 1 (D0*D0))=F3 at *;generalize fr c=F4,fr w=F5,fr m=F6,bS R=rl,bS cD=nl,bX ns as=net at *;clear Lp p2 Ey FA hw OP lw v cm On zc yI zm lm AA stop Ox hc t1 t2 b1 b2 ht h hi CB zg EA GR gp FP a1 hS g BM kG hD hK;unfold iB;walk_at "mix"
     ·refine zsy (T:=sT as R) (B:=sB as R) hc (by omega) hw ?_ h.le v;have:sT as cD*1<=sT as cD*sB as R:=dP (by omega) hS.1;omega
     ·rw[p2];exact ZM hc hw v h.d
    ·refine⟨[some (bX ns as),sL (bS cD),sL (bS R2),some (fr c),some (fr (Fq.mk 1 (D0*D0))),some (fr w),sL (bS R2)],?_,by omega,R2,c,_,_,rfl,⟨Ky,h.low,h.up,h.le,Ey,?_⟩⟩
     ·generalize fr (Fq.mk 1 (D0*D0))=F3 at *;generalize fr c=F4,fr w=F5,fr m=F6,bS R=rl at *;generalize bS R2=Uj,bS cD=nl,bX ns as=net at *;clear Lp p2 Ey FA hw OP lw v cm On zc yI zm lm AA stop Ox hc t1 t2 b1 b2 ht h hi CB zg EA GR gp FP a1 hS g BM kG hD BB Ky;unfold iB;walk_at "mix"
     ·rw[p2];have C0:=Ky.bds g;exact zt0 hc hw (by omega) (by omega) (by have:=Nat.pow_pos (n:=i) (show 0<2 by decide);omega) v BB h.d) pW 0 [some (bX ns as),sL (bS cD),sL (bS R0),some (fr (sT as cD,1)),some (fr (Fq.mk 1 (D0*D0))),none,none]
   ⟨by omega,R0,(sT as cD,1),none,none,rfl,⟨FP,ZJ _,λR' DR=>by
    have hb:=DR.bds g;have:sT as cD*1<=sT as cD*sB as R':=dP (by omega) hS.1;dsimp only
    omega,by dsimp only;omega,by simp,by
    have hb:=FP.bds g;dsimp only;simp
    omega⟩⟩ (by omega) (by have:=um (n:=60) (by omega);omega)
  obtain⟨i,ρ',l1,⟨hi,R,c,y5,y6,rfl,h⟩,hc⟩:=lp;rw[CB i R c _ y5 y6 h (by omega)]at hc;have lt:(c.1*sB as R-sT as R*c.2)*(D0*D0)<c.2*sB as R:=by simpa using hc
  have hb:=h.r.bds g;refine⟨.lst (bS R),?_,.inr ⟨R,rfl,h.r,λR' DR=>?_⟩⟩
  ·have sm:=Nh (cD.map (tN as));have en:(cD.map λ(n:Nat)=>(n:Int)).map D.int=bS cD:=by rw[d7];rfl
   have e1:((cD.map λ(n:Nat)=>(n:Int)).map λi=>(aN as i.toNat).t)=cD.map (tN as):=by rw[d7];exact fO λn _=>by simp[tN]
   have q1:=Ng (ns:=ns) (as:=as) (is:=cD.map λ(n:Nat)=>(n:Int)) (fld:="time") (f:=λa=>a.t) (q:=l9) rfl ft (by rw[bQ];have:=g.nl;omega) (λi hi=>by
    obtain⟨n,h1,rfl⟩:=cK.mp hi;have:=g.n n h1
    omega) [some (bX ns as),sL (bS cD),sL (bS R0),none,none,none,none] rfl (by rw[en];rfl)
   rw[e1]at q1;have es:(cD.map (tN as)).sum=sT as cD:=rfl;rw[es]at sm;have ef:fr (sT as cD,1)=.tup [.int (sT as cD),.int 1]:=rfl;rw[ef]at l1;unfold cG at l1;clear e1 en es ef hb lt hc h hi CB zg EA GR FP hS g BM kG hD;generalize fr (Fq.mk 1 (D0*D0))=F3,fr c=F4,sT as cD=S,(cD.map (tN as)).map D.int=tl,bS R=rl at *;generalize bS R0=rl0,bS cD=nl,bX ns as=net at *;unfold hV iy;generalize (bNot (tb (λρ=>((aCons (λρ=>((aCons (eV 3) (aCons (λρ=>((aCons (eV 0) (aCons (eV 2) aNil)) ρ).bind λds=>nq (ds++[])) aNil)) ρ).bind λds=>oo (ds++[])) (aCons (eV 4) aNil)) ρ).bind λds=>oq (ds++[]))))=cc at *;walk_at "mix"
  ·have EC:=DR.bds g;exact zsx (D:=D0) h.low.gt (by omega) (by omega) (by omega) (by omega) lt (h.up R' DR)
theorem Zh (g:GN mv as cD rk mb)(kG:ns.length=mv)(BM:li 4 "most_behind" dc (bX ns as) []=sI (mb:Int)) :
  ∃d,gG [bX ns as,.lst (bS cD)]=some d/\((d=.non/\∀R,¬RG as cD R)\/∃(R:List Nat) (q:Int×Int) (T:Nat->Int),d=.tup [fr q,.lst (bS R),pR mv q T]/\RG as cD R/\q=Fq.mk (sT as R) (sB as R)/\(∀R',RG as cD R'->sT as R' * q.2<=q.1*sB as R')/\(∀n∈cD,T (aS as n)+f6 as q n<=T (aG as n))/\∀x,0<=T x/\T x<=1000000000000000):=by
 obtain⟨d0,a1,a2⟩:=Zg g kG BM;rcases a2 with⟨rfl,hN⟩|⟨R,rfl,hR,G9⟩
 ·refine⟨.non,?_,.inl ⟨rfl,hN⟩⟩;generalize bX ns as=net,bS cD=nl at *;clear g hN kG BM;unfold gG;walk_at "mix"
 ·have me:=MC (ns:=ns) g hR;obtain⟨lm,zm,yI,n0,n1⟩:=JF hR g;have cm:=Fq.mk_cross (sT as R) (sB as R);have hb:=hR.bds g;obtain⟨q,hq⟩:∃q,q=Fq.mk (sT as R) (sB as R):=⟨_,rfl⟩;rw[←hq]at me lm zm yI n0 n1 cm;have lg:=lm.gt;have hM:∀n,n<as.length->f6 as q n<=160000000000:=λn hn=>by have o:=g.ok _ (xq hn);unfold f6;have g1:(aN as n).t*q.2<=1000000000*160:=fE o.t1 yI (by omega) (by decide);have g2:0<=((aN as n).b:Int)*q.1:=kx (by omega) n0;omega
  obtain⟨d,t1,t2⟩:=Py (ns:=ns) (cD:=cD) (p:=q) kG g.m1 (by have:=g.m;omega) (by have:=g.nl;omega) g.ok (by omega) (zm.2.mono (by decide)) hM (by decide) g.n;have mW:∀R',RG as cD R'->sT as R' * q.2<=q.1*sB as R':=λR' DR=>zsz (by omega) lg cm (G9 R' DR);rcases t2 with⟨T,rfl,k1,k2⟩|⟨R2,x,rfl,r1,r2,r3,r4,r5⟩
  ·refine⟨.tup [fr q,.lst (bS R),pR mv q T],?_,.inr ⟨R,q,T,rfl,hR,hq,mW,k1,λx=>⟨(k2 x).1,?_⟩⟩⟩
   ·have i1:∀(a b:D),ed (.tup [a,b]) (.int 1)=some b:=λ_ _=>rfl;generalize pR mv q T=TM,fr q=F,bS R=rl,bS cD=nl,bX ns as=net at *;clear k1 k2 mW hM lg hb cm n0 n1 yI zm lm G9 hR hq g BM kG;unfold gG;walk_at "mix"
   ·have:=(k2 x).2;have b1:(cD.length:Int)*160000000000<=120*160000000000:=by have:=g.nl;omega
    have b2:(mv:Int)*((cD.length:Int)*160000000000)<=40*(120*160000000000):=fE (by have:=g.m;omega) b1 (by omega) (by decide);omega
  ·exfalso;rw[JD]at r5
   have:=mW R2 ⟨r1,⟨x,r2⟩,r3,r4⟩;unfold sT sB at this;rw[iY q.1]at this;omega
theorem Zi (g:GN mv as (bR as.length) rk mb)(kG:ns.length=mv){d:D}(h:gG [bX ns as,.lst (bS (bR as.length))]=some d):kF [bX ns as]=some d:=by
 have la:eW [.lst (as.map cS)]=sI (as.length:Int):=(ym _).trans (by rw[bQ]);have IE:=xj ns as;have lr:qK [.int (as.length:Int)]=sL (bS (bR as.length)):=by show(if 0<=(as.length:Int)/\(as.length:Int)<=16777216 then some (D.lst (iT 0 (as.length:Int).toNat))else none)=_;rw[if_pos ⟨by omega,by have:=g.al;omega⟩];unfold iT bS;simp
 generalize as.map cS=al,bX ns as=net,bS (bR as.length)=nl at *;clear g;unfold kF;walk_at "mix"
theorem zt2 (h1:1<=mv)(h2:mv<=40)(h3:as.length<=120)(qH:∀a∈as,Drawn mv rk a):∃mb:Nat,li 4 "most_behind" dc (bX ns (as.map λa=>yJ a (a.s:Int))) []=sI (mb:Int)/\(∀cD:List Nat,(∀n∈cD,n<as.length)->cD.length<=120->GN mv (as.map λa=>yJ a (a.s:Int)) cD rk mb)/\∀cD:List Nat,(∀n∈cD,n<as.length)->cD.length<=120->GN mv as cD rk mb:=by
 obtain⟨mb,m1,m2,m3,m4⟩:=ZO (ns:=ns) (as:=as.map λa=>yJ a (a.s:Int)) (by rw[bQ];exact h3);have NX:mb<=4:=m4 4 (by decide) λa ha=>by obtain⟨a',h,rfl⟩:=cK.mp ha;exact(qH a' h).b
 refine⟨mb,m1,λcD hn hl=>⟨h1,h2,by rw[bQ];exact h3,λa ha=>?_,λn hx=>by rw[bQ];exact hn n hx,hl,λa ha=>?_,m2,NX,m3⟩,λcD hn hl=>⟨h1,h2,h3,λa ha=>⟨(qH a ha).s,(qH a ha).g,(qH a ha).t0,(qH a ha).t1,(qH a ha).b⟩,hn,hl,λa ha=>(qH a ha).r,m2,NX,λa ha=>m3 (yJ a (a.s:Int)) (cK.mpr ⟨a,ha,rfl⟩)⟩⟩
 ·obtain⟨a',h,rfl⟩:=cK.mp ha;exact⟨(qH a' h).s,(qH a' h).g,(qH a' h).t0,(qH a' h).t1,(qH a' h).b⟩
 ·obtain⟨a',h,rfl⟩:=cK.mp ha;exact(qH a' h).r
noncomputable def dC (net:D)(mv:Nat)(pl:Nat->Int)(B:Nat):D:=.obj 5 ["net","times","beat"] [net,.lst (eF mv pl),.int (B:Int)]
theorem Gn (net:D)(mv:Nat)(pl:Nat->Int)(B:Nat):dq [5] "net" (dC net mv pl B)=some net:=rfl
theorem X3 (net:D)(mv:Nat)(pl:Nat->Int)(B:Nat):dq [5] "times" (dC net mv pl B)=sL (eF mv pl):=rfl
theorem Zj (net:D)(mv:Nat)(pl:Nat->Int)(B:Nat):dq [5] "beat" (dC net mv pl B)=sI (B:Int):=rfl
noncomputable def lz (pl:Nat->Int)(B:Nat)(a:eA):Int:=pl a.g+(B:Int)*(a.b:Int)-pl a.s-a.t
variable {B:Nat}{pl:Nat->Int}
theorem qq {i:Nat}(hB:B<=1000000000000)(hs:a.s<mv)(hg:a.g<mv)(hi:as[i]?=some a):dL [dC (bX ns as) mv pl B,.int (i:Int)]=sI (lz pl B a):=by have f1:=Gn (bX ns as) mv pl B;have f2:=X3 (bX ns as) mv pl B;have f3:=Zj (bX ns as) mv pl B;have f4:dq [4] "arrows" (bX ns as)=sL (as.map cS):=rfl;have i1:ed (.lst (as.map cS)) (.int (i:Int))=some (cS a):=yg (by rw[cu,hi];rfl);have g1:=fs a;have g2:=fg a;have g3:=ft a;have g4:=fb a;have i2:ed (.lst (eF mv pl)) (.int (a.g:Int))=sI (pl a.g):=ql pl hg;have i3:ed (.lst (eF mv pl)) (.int (a.s:Int))=sI (pl a.s):=ql pl hs;have u1:fD (.int (B:Int)) (.int (a.b:Int))=sI ((B:Int)*(a.b:Int)):=wx (by omega) (by omega);generalize dC (bX ns as) mv pl B=tb at *;unfold dL lz;clear hi hs hg hB;walk_at "mix"
theorem qr {m:Str}{f:List D->Option D}{net:D}(h:(["net","times","beat"]:List Str).contains m=false):li 5 m f (dC net mv pl B) ds=f (dC net mv pl B::ds):=by show(if 5=5/\(["net","times","beat"]:List Str).contains m=false then f (dC net mv pl B::ds)else none)=_;rw[if_pos ⟨rfl,h⟩]
theorem QU (h:gQ mv as)(hB:B<=1000000000000)(AD:∀a∈as,0<=lz pl B a):iJ 5 [bX ns as,.lst (eF mv pl),.int (B:Int)]=some (dC (bX ns as) mv pl B):=by
 obtain⟨ρ',h1,x4,rfl⟩:=vf (g:=gV 4) (b:=kA) (lo:=0) (n:=as.length) (ρ:=[some (dC (bX ns as) mv pl B),some (bX ns as),sL (eF mv pl),sI (B:Int),none])
  (λ_ ρ=>∃x4,ρ=[some (dC (bX ns as) mv pl B),some (bX ns as),sL (eF mv pl),sI (B:Int),x4]) ⟨none,rfl⟩ (by
   rintro i ρ hi ⟨x4,rfl⟩;have ha:as[i]?=some as[i]:=df hi;have hm:as[i]∈as:=Bl hi;have s1:=qq (ns:=ns) (pl:=pl) hB (h.right _ hm).s (h.right _ hm).g ha;have s2:=qr (m:="slack") (f:=dL) (net:=bX ns as) (mv:=mv) (B:=B) (pl:=pl) (ds:=[.int (i:Int)]) (by decide +kernel);rw[s1]at s2;have s3:¬lz pl B as[i]<0:=by have:=AD _ hm;omega
   refine⟨_,_,rfl,.inl ?_,sI (i:Int),rfl⟩;rw[show(0:Int)+(i:Int)=(i:Int)by omega];generalize dC (bX ns as) mv pl B=tb,lz pl B as[i]=v at *;unfold kA;clear s1 h hB AD ha hm hi;walk_at "mix")
 have eP:=h.len;have r1:kT [.int (as.length:Int)]=some (iT 0 as.length):=by rw[vg (by omega) (by omega)];rfl
 have f4:dq [4] "arrows" (bX ns as)=sL (as.map cS):=rfl;have s1:jE [5] "net" (eV 1) [some (D.obj 5 [] []),some (bX ns as),sL (eF mv pl),sI (B:Int),none]=some (.nx [some (D.obj 5 ["net"] [bX ns as]),some (bX ns as),sL (eF mv pl),sI (B:Int),none]):=rfl;have s2:jE [5] "times" (eN oN (aCons (eV 2) aNil)) [some (D.obj 5 ["net"] [bX ns as]),some (bX ns as),sL (eF mv pl),sI (B:Int),none]=some (.nx [some (D.obj 5 ["net","times"] [bX ns as,.lst (eF mv pl)]),some (bX ns as),sL (eF mv pl),sI (B:Int),none]):=rfl;have s3:jE [5] "beat" (eV 3) [some (D.obj 5 ["net","times"] [bX ns as,.lst (eF mv pl)]),some (bX ns as),sL (eF mv pl),sI (B:Int),none]=some (.nx [some (dC (bX ns as) mv pl B),some (bX ns as),sL (eF mv pl),sI (B:Int),none]):=rfl;generalize dC (bX ns as) mv pl B=tb at *;generalize bX ns as=net,eF mv pl=vs at *;unfold iJ CJ;clear h hB AD eP;walk_at "mix"
theorem QW (neg:Bool)(n:Nat)(out:List Nat):inD neg (.int (n:Int)) (.lst (bS out))=some (.bl (if neg then !decide (n∈out)else decide (n∈out))):=by
 have hs:(bS out).all D.sc=true:=by unfold bS;rw[List.all_map];exact iW.mpr λx _=>rfl
 have hi:CK (.int (n:Int)) (bS out)=decide (n∈out):=by
  unfold CK bS;rw[List.any_map];induction out with
  |nil=>rfl
  |cons x out ih=>
   rw[iz,ih (by unfold bS;rw[List.all_map];exact iW.mpr λx _=>rfl)];show(((x:Int)==(n:Int)) || decide (n∈out))=_;by_cases h:x=n
   ·subst h;simp
   ·have h':¬(x:Int)=(n:Int):=by omega
    have h2:¬n=x:=λz=>h z.symm;simp[h',h2]
 show(if _ then _ else _)=_;rw[if_pos ⟨rfl,hs⟩,hi]
noncomputable def lat (pl:Nat->Int)(B:Nat)(as:List eA)(out:List Nat):List eA:=(as.zipIdx.filter λp=>decide (p.2∉out)).map λp=>{ p.1 with t:=- lz pl B p.1 }
noncomputable def encL (a:eA):D:=.tup [.int a.s,.int a.b,.int (-a.t)]
noncomputable def lst1 (pl:Nat->Int)(B:Nat)(out:List Nat)(s:List eA×Option D×Option D)(p:eA×Nat):List eA×Option D×Option D:=if p.2∈out then(s.1,sI (p.2:Int),s.2.2)else(s.1++[{ p.1 with t:=- lz pl B p.1 }],sI (p.2:Int),some (cS p.1))
theorem Pe (pl:Nat->Int)(B:Nat)(out:List Nat):∀(ps:List (eA×Nat)) (s:List eA×Option D×Option D),(ps.foldl (lst1 pl B out) s).1=s.1++(ps.filter λp=>decide (p.2∉out)).map λp=>{ p.1 with t:=- lz pl B p.1 }
 |[],s=>by simp
 |p::ps,s=>by
  rw[dS,Pe pl B out ps];unfold lst1;by_cases h:p.2∈out
  ·rw[if_pos h];simp[h]
  ·rw[if_neg h];simp[h]
theorem X4 (pl:Nat->Int)(B:Nat)(as:List eA)(out:List Nat)(g:Nat):((as.zipIdx.filter λp=>decide (p.1.g=g)).filter λp=>decide (p.2∉out)).map (λp=>({ p.1 with t:=- lz pl B p.1 }:eA))=(lat pl B as out).filter λa=>decide (a.g=g):=by unfold lat;rw[List.filter_map,Ah,Ah];congr 1;apply List.filter_congr;intro p _;show(decide _&&decide _)=(decide _&&decide _);rw[Bool.and_comm]
theorem Zk (h:gQ mv as)(hB:B<=1000000000000)(g:Nat)(out:List Nat):kj [dC (bX ns as) mv pl B,.int (g:Int),.lst (bS out)]=sL (((lat pl B as out).filter λa=>decide (a.g=g)).map encL):=by
 have eP:=h.len;have hn:bS (into as g)=(as.zipIdx.filter (λp=>decide (p.1.g=g))).map λp=>D.int (p.2:Int):=by unfold into bS;rw[d7];rfl
 have IY:∀p∈as.zipIdx.filter (λp=>decide (p.1.g=g)),as[p.2]?=some p.1:=λp hp=>Rw (cI.mp hp).1;have jB:(as.zipIdx.filter (λp=>decide (p.1.g=g))).length<=120:=dA (kC _ _) (by rw[List.length_zipIdx];exact eP);have FX:=X4 pl B as out g;generalize as.zipIdx.filter (λp=>decide (p.1.g=g))=ps at *;have in1:=zst (ns:=ns) (as:=as) (by omega) g;have Lw:=MA (m:="into") (f:=lI) (ns:=ns) (as:=as) (ds:=[.int (g:Int)]) (by decide +kernel);rw[in1]at Lw;have main:∀(qs:List (eA×Nat)) (s:List eA×Option D×Option D),(∀p∈qs,as[p.2]?=some p.1)->s.1.length+qs.length<=120 ->
   ∃y4 y5,gN (gV 4) fZ (qs.map λp=>D.int (p.2:Int)) [some (dC (bX ns as) mv pl B),sI (g:Int),sL (bS out),sL (s.1.map encL),s.2.1,s.2.2]=some (.nx [some (dC (bX ns as) mv pl B),sI (g:Int),sL (bS out),sL ((qs.foldl (lst1 pl B out) s).1.map encL),y4,y5]):=by
  intro qs;induction qs with
  |nil=>exactλs _ _=>⟨s.2.1,s.2.2,rfl⟩
  |cons p qs ih=>
   intro s hq hl;obtain⟨y4,y5,hy⟩:=ih (lst1 pl B out s p) (λq yE=>hq q (bK _ yE)) (by
    unfold lst1;rw[b8]at hl;split
    ·dsimp only;omega
    ·dsimp only;rw[cn,cV];omega)
   refine⟨y4,y5,?_⟩;rw[dS,ck];have hp:=hq p bH;have hm:p.1∈as:=cJ.mpr ⟨_,hp⟩;have step:fZ [some (dC (bX ns as) mv pl B),sI (g:Int),sL (bS out),sL (s.1.map encL),sI (p.2:Int),s.2.2]=some (.nx [some (dC (bX ns as) mv pl B),sI (g:Int),sL (bS out),sL ((lst1 pl B out s p).1.map encL),(lst1 pl B out s p).2.1,(lst1 pl B out s p).2.2]):=by
    have n1:=QW true p.2 out;have f1:=Gn (bX ns as) mv pl B;have f4:dq [4] "arrows" (bX ns as)=sL (as.map cS):=rfl;have i1:ed (.lst (as.map cS)) (.int (p.2:Int))=some (cS p.1):=yg (by rw[cu,hp];rfl);have g1:=fs p.1;have g4:=fb p.1;have s1:=qq (ns:=ns) (pl:=pl) hB (h.right _ hm).s (h.right _ hm).g hp;have s2:=qr (m:="slack") (f:=dL) (net:=bX ns as) (mv:=mv) (B:=B) (pl:=pl) (ds:=[.int (p.2:Int)]) (by decide +kernel);rw[s1]at s2;have hz:s.1.length<16777216:=by rw[b8]at hl;omega
    unfold lst1;by_cases ho:p.2∈out
    ·rw[if_pos ho];dsimp only;rw[decide_eq_true ho]at n1;generalize dC (bX ns as) mv pl B=tb,bS out=os at *;unfold fZ;clear ih hy hq hl hp hm s1 h hB FX IY jB in1 Lw eP hn ho;walk_at "mix"
    ·rw[if_neg ho];dsimp only;rw[decide_eq_false ho]at n1;rw[dU];have e1:[({ p.1 with t:=- lz pl B p.1 }:eA)].map encL=[.tup [.int p.1.s,.int p.1.b,.int (lz pl B p.1)]]:=by show[D.tup [_,_,_]]=_;rw[Int.neg_neg]
     rw[e1];generalize dC (bX ns as) mv pl B=tb,bS out=os,lz pl B p.1=v at *;unfold fZ;clear ih hy hq hl hp hm s1 h hB FX IY jB in1 Lw eP hn ho e1;walk_at "mix"
   show((gV 4) (.int (p.2:Int)) _).bind _=_;show(fZ [some (dC (bX ns as) mv pl B),sI (g:Int),sL (bS out),sL (s.1.map encL),sI (p.2:Int),s.2.2]).bind _=_;rw[step];exact hy
 obtain⟨y4,y5,hf⟩:=main ps ([],none,none) IY (by simpa using jB);rw[Pe]at hf;rw[show(([]:List eA)++(ps.filter λp=>decide (p.2∉out)).map λp=>({ p.1 with t:=- lz pl B p.1 }:eA))=_ from FX,←hn]at hf;have f1:=Gn (bX ns as) mv pl B;generalize dC (bX ns as) mv pl B=tb at *;generalize bX ns as=net,((lat pl B as out).filter λa=>decide (a.g=g)).map encL=zs,bS (into as g)=ms,bS out=os at *;unfold kj;clear main FX IY jB in1 eP hn h hB;replace hf:gN (gV 4) fZ ms [some tb,sI (g:Int),sL os,some (.lst []),none,none]=_:=hf;walk_at "mix"
noncomputable def Df (Y:Nat->Nat->T)(L:Nat)(s:T×Option D×Option D×Option D)(a:eA):T×Option D×Option D×Option D:=(mx s.1 (lt a.t (Y (L-a.b) a.s)),sI (a.s:Int),sI (a.b:Int),sI (-a.t))
theorem qv (Y:Nat->Nat->T)(L:Nat):∀(bs:List eA) (s:T×Option D×Option D×Option D),(bs.foldl (Df Y L) s).1=bs.foldl (λw a=>mx w (lt a.t (Y (L-a.b) a.s))) s.1
 |[],s=>rfl
 |b::bs,s=>by rw[dS,qv Y L bs];rfl
theorem RI (w v:Int):∃u,mx (some w) (some v)=some u/\tX [.int w,.int v]=sI u:=⟨_,rfl,by rw[zck]⟩
theorem VE (hS:∀i,i<=L->∀g,g<mv->∃y,Y i g=some y){bs:List eA}(hb:∀a∈bs,a.b<=L/\a.s<mv)(put:Int) :
  ∃v,bs.foldl (λw a=>mx w (lt a.t (Y (L-a.b) a.s))) (mx (some 0) (some put))=some v/\fP [.lst (cQ mv (L+1) Y),.lst (bs.map encL),.int put]=sI v:=by
 obtain⟨w0,Hi,Ga⟩:=RI 0 put;obtain⟨e1,e2⟩:=j5 (g:=gT (gsCons (gV 4) (gsCons (gV 5) (gsCons (gV 6) gsNil)))) (b:=eZ) encL (λs:T×Option D×Option D×Option D=>[sL (cQ mv (L+1) Y),sL (bs.map encL),sI put,some (mK s.1),s.2.1,s.2.2.1,s.2.2.2])
  (Df Y L) (λs=>∃w,s.1=some w) bs (some w0,none,none,none) ⟨w0,rfl⟩ (λs a ha hs=>by
   obtain⟨w,hw⟩:=hs;obtain⟨h1,h2⟩:=hb a ha;obtain⟨y,hy⟩:=hS (L-a.b) (by omega) a.s h2;obtain⟨u,CH,D2⟩:=RI w (y+a.t);have i2:ed (.lst (cQ mv (L+1) Y)) (.int (-1-(a.b:Int)))=sL (eR mv (Y (L-a.b))):=by show atI _ _=_;rw[XQ (n:=L) (by rw[qm]) h1];unfold cQ;rw[cu,eQ (by omega)];rfl
   have i3:ed (.lst (eR mv (Y (L-a.b)))) (.int (a.s:Int))=sI y:=by have:=MW (Y (L-a.b)) h2;rw[hy]at this;exact this
   have e:mx s.1 (lt a.t (Y (L-a.b) a.s))=some u:=by rw[hw,hy];exact CH
   refine⟨_,rfl,.inl ?_,u,e⟩;unfold Df;rw[e,hw];have o1:∀i,mK (some i)=.int i:=λ_=>rfl;have o2:y - -a.t=y+a.t:=by omega
   unfold eZ;generalize cQ mv (L+1) Y=rs,bs.map encL=ls at *;clear Hi Ga hw h1 h2 hy CH e hS hb ha;walk_at "mix")
 rw[qv]at e2;obtain⟨v,hv⟩:=e2;have e3:=qv Y L bs (some w0,none,none,none);rw[hv]at e3;generalize bs.foldl (Df Y L) (some w0,none,none,none)=S at e1 e3;refine⟨v,by rw[Hi];exact hv,?_⟩;rw[e3]at e1;have o1:∀i,mK (some i)=.int i:=λ_=>rfl;replace e1:gN (gT (gsCons (gV 4) (gsCons (gV 5) (gsCons (gV 6) gsNil)))) eZ (bs.map encL) [sL (cQ mv (L+1) Y),sL (bs.map encL),sI put,sI w0,none,none,none]=some (.nx [sL (cQ mv (L+1) Y),sL (bs.map encL),sI put,sI v,S.2.1,S.2.2.1,S.2.2.2]):=e1;generalize cQ mv (L+1) Y=rs,bs.map encL=ls at *;unfold fP;clear hS hb hv e3 Hi;walk_at "mix"
theorem LM (o:T):∃p:Int,((o.map D.int).getD (.int 0))=.int p/\mx (some 0) (some p)=mx (some 0) o:=by
 cases o with
 |none=>exact⟨0,rfl,by show some _=some _;congr 1⟩
 |some v=>exact⟨v,rfl,rfl⟩
variable {out:List Nat}
theorem qw (h:a∈lat pl B as out):∃b∈as,a.s=b.s/\a.g=b.g/\a.b=b.b/\a.t =-lz pl B b:=by obtain⟨p,hp,rfl⟩:=cK.mp h;exact⟨p.1,cJ.mpr ⟨_,Rw (cI.mp hp).1⟩,rfl,rfl,rfl,rfl⟩
theorem zs4 {tb puts wo:Option D}{bs:List eA}{r dp:Nat}{f:Nat->Nat->T}{d:D}{n:Nat}{x11 x12:Option D}{p:List Nat}(hd:oR d n f)(hS:∀i,i<=L->∀g,g<mv->∃y,Y i g=some y)(hb:∀a∈bs,a.b<=L/\a.s<mv)(rT:∀a∈bs,a.b=0->∃c∈as,c.s=a.s/\c.g=a.g/\c.b=0)(ok:Kahn.Ok (W0 as) mv p)
  (Ht:D) (EO:∀g,g<mv->ed Ht (.int (g:Int))=sL ((bs.filter λa=>decide (a.g=g)).map encL)) :
  ∃(Z:Nat->T) (Ci Cj:Option D),gN (gV 11) pB (bS p) [tb,sI (rounds:Int),puts,wo,sI (mv:Int),some Ht,some d,sL (bS p),sI (dp:Int),sL (cQ mv (L+1) Y),sI (r:Int),x11,x12] =
   some (.nx [tb,sI (rounds:Int),puts,wo,sI (mv:Int),some Ht,some d,sL (bS p),sI (dp:Int),sL (cQ mv (L+1) (wr Y L Z)),sI (r:Int),Ci,Cj])/\(∀g,g<mv->∃z,Z g=some z)/\∀g∈p,Z g=tm bs (wr Y L Z) L g (mx (some 0) (f g r)):=by
 obtain⟨ρ',h1,pre,Z,Ci,Cj,e1,⟨post,e2⟩,DT,hZ,rfl⟩:=ve (g:=gV 11) (b:=pB) (ds:=bS p) (ρ:=[tb,sI (rounds:Int),puts,wo,sI (mv:Int),some Ht,some d,sL (bS p),sI (dp:Int),sL (cQ mv (L+1) Y),sI (r:Int),x11,x12])
  (λds ρ=>∃(pre:List Nat) (Z:Nat->T) (Ci Cj:Option D),ds=bS pre/\(∃post,p=pre++post)/\(∀g,g<mv->∃z,Z g=some z)/\(∀g∈pre,Z g=tm bs (wr Y L Z) L g (mx (some 0) (f g r)))/\ρ=[tb,sI (rounds:Int),puts,wo,sI (mv:Int),some Ht,some d,sL (bS p),sI (dp:Int),sL (cQ mv (L+1) (wr Y L Z)),sI (r:Int),Ci,Cj])
  ⟨[],Y L,x11,x12,rfl,⟨p,rfl⟩,λg hg=>hS L (b7 _) g hg,λg hg=>(by cases hg),by
   have:wr Y L (Y L)=Y:=by
    funext i g;unfold wr;by_cases h:i=L
    ·rw[if_pos h,h]
    ·rw[if_neg h]
   rw[this]⟩ (by
  rintro ds dd post ρ e ⟨pre,Z,Ci,Cj,rfl,⟨nY,e'⟩,DT,hZ,rfl⟩;have e3:bS nY=dd::post:=by
   have:bS p=bS pre++bS nY:=by rw[e'];simp[bS]
   rw[this]at e;exact vA e
  cases nY with
  |nil=>cases e3
  |cons x nY=>
   have BH:dd=.int (x:Int):=by have:bS (x::nY)=.int (x:Int)::bS nY:=rfl;rw[this]at e3;cases e3;rfl
   subst BH;have hx:x∈p:=by rw[e'];simp
   have Lq:=ok.lt x hx;have BP:p[pre.length]?=some x:=by rw[e'];simp
   have BU:∀a∈bs,a.b=0->a.g=x->a.s∈pre:=λa ha h0 hg=>by
    obtain⟨c,hc,c1,c2,c3⟩:=rT a ha h0;have:=ok.ord pre.length x BP c (cI.mpr ⟨hc,by simpa using c3⟩) (c2.trans hg);rw[e',Cm]at this
    ·rw[←c1];exact this
    ·rfl
   have IV:x∉pre:=λz=>by have:=ok.nd;rw[e',cF]at this;exact this.2.2 x z x bH rfl
   have BJ:∀g∈pre,∀a∈bs,a.b=0->a.g=g->a.s≠x:=λg hg a ha h0 BC z=>by
    obtain⟨c,hc,c1,c2,c3⟩:=rT a ha h0;obtain⟨i,hi,ei⟩:=gE.mp hg;have F8:p[i]?=some g:=by rw[e',dE hi];simp[hi,ei]
    have:=ok.ord i g F8 c (cI.mpr ⟨hc,by simpa using c3⟩) (c2.trans BC);rw[e',fu (by omega),c1]at this;exact IV (z▸kQ this)
   have NV:∀i,i<=L->∀g,g<mv->∃y,wr Y L Z i g=some y:=λi hi g hg=>by
    unfold wr;by_cases h:i=L
    ·rw[if_pos h];exact DT g hg
    ·rw[if_neg h];exact hS i hi g hg
   have K2:=hd.getI x r (.int 0);obtain⟨pt,Ob,F8⟩:=LM (f x r);rw[Ob]at K2;have EO:=EO x Lq;obtain⟨v,hv,Oh⟩:=VE NV (bs:=bs.filter λa=>decide (a.g=x)) (λa ha=>hb a (cI.mp ha).1) pt;rw[F8]at hv;have key:∀g,(∀a∈bs,a.g=g->a.b=0->a.s≠x)->∀(v w:T),tm bs (wr Y L λy=>if y=x then v else Z y) L g w=tm bs (wr Y L Z) L g w:=λg hg v w=>by
    refine Mw w λa ha BC=>?_;unfold wr;by_cases hL:L-a.b=L
    ·rw[if_pos hL,if_pos hL];dsimp only;rw[if_neg ?_];by_cases h0:a.b=0
     ·exact hg a ha BC h0
     ·have:=(hb a ha).1;omega
    ·rw[if_neg hL,if_neg hL]
   have hv:tm bs (wr Y L Z) L x (mx (some 0) (f x r))=some v:=hv;refine⟨_,_,rfl,.inl ?_,pre++[x],λy=>if y=x then some v else Z y,sI (x:Int),sI pt,(Mu pre x).symm▸rfl,⟨nY,by rw[e'];simp⟩,λg hg=>?_,?_,rfl⟩
   ·have He:=XU (mv:=mv) (L:=L) (x:=x) (Y:=wr Y L Z) Lq (some v);have hY:(wr (wr Y L Z) L λy=>if y=x then some v else wr Y L Z L y)=wr Y L λy=>if y=x then some v else Z y:=by funext i g;unfold wr;by_cases h:i=L<;>simp[h]
    have Tt:pL (eR mv (wr Y L Z L)) (x:Int) (.int v)=some (eR mv λy=>if y=x then some v else wr Y L Z L y):=XN _ Lq (some v);rw[hY]at He;have S9:ixN (cQ mv (L+1) (wr Y L Z)).length (-1)=some L:=by rw[qm];unfold ixN;rw[if_neg (by omega),if_pos (by omega)];congr 1;omega
    have Li:(cQ mv (L+1) (wr Y L Z))[L]?=sL (eR mv (wr Y L Z L)):=by unfold cQ;rw[cu,eQ (by omega)];rfl
    unfold pB yK;clear key BJ BU IV BP hx hv e e' e3 hZ DT ok hb hd hS NV rT Ob F8 hY;walk_at "mix"
   ·by_cases h:g=x
    ·exact⟨v,by dsimp only;rw[if_pos h]⟩
    ·obtain⟨z,hz⟩:=DT g hg;exact⟨z,by dsimp only;rw[if_neg h,hz]⟩
   ·intro g hg;rcases cA.mp hg with hg|hg
    ·have nU:g≠x:=λz=>IV (z▸hg);dsimp only;rw[if_neg nU,key g (λa ha BC h0=>BJ g hg a ha h0 BC)];exact hZ g hg
    ·rw[bU]at hg;subst hg;dsimp only;rw[if_pos rfl,key g (λa ha BC h0 z=>IV (z▸BU a ha h0 BC)),hv])
 have uJ:pre=p:=by have hl:=congrArg jT e1;simp[bS]at hl;rw[e2,cn]at hl;have:post=[]:=gX (by omega);rw[e2,this,cP]
 subst uJ;exact⟨Z,Ci,Cj,h1,DT,hZ⟩
inductive xW:D->List Nat->Prop
 |no:xW .non []
 |some (out:List Nat):xW (.lst (bS out)) out
variable {puts:List Fl}
theorem Nk {wo:D}(h:gQ mv as)(hn:ns.length=mv)(hr:rounds<=1000)(hB:B<=1000000000000)(hw:xW wo out)(jB:puts.length<=1000) :
  ∃Y,nW [dC (bX ns as) mv pl B,.int (rounds:Int),.lst (puts.map fR),wo]=some (.lst (cQ mv rounds λr g=>Y (dep as+r) g))/\Run (lat pl B as out) mv (dep as) rounds (λ_ _=>some 0) (λg r=>mx (some 0) (fl puts g r)) Y/\∀i,i<dep as+rounds->∀g,g<mv->∃y,Y i g=some y:=by
 obtain⟨p,hp,ok,BN,vN⟩:=Wr h hn;have eP:=h.len;have mW:=h.le;have BI:=Ry λa ha=>(h.right a ha).b;have mo:=Px (ns:=ns) (as:=as) (by omega);obtain⟨d,IP,hd2⟩:=zsr puts jB;have Az:∀a∈lat pl B as out,a.b<=dep as/\a.s<mv:=λa ha=>by obtain⟨b,hb,b1,b2,b3,b4⟩:=qw ha;exact⟨by rw[b3];exact JH hb,by rw[b1];exact(h.right b hb).s⟩
 have rT:∀a∈lat pl B as out,a.b=0->∃c∈as,c.s=a.s/\c.g=a.g/\c.b=0:=λa ha h0=>by obtain⟨b,hb,b1,b2,b3,b4⟩:=qw ha;exact⟨b,hb,b1.symm,b2.symm,by omega⟩
 have tl:=λg=>Zk (ns:=ns) (pl:=pl) h hB g out;have q2:∀r:L3.Env,r[0]?.join=some (dC (bX ns as) mv pl B)->r[3]?.join=some wo->r[4]?.join=some (.int (mv:Int))->rY r=some (.lst ((bR mv).map λg=>D.lst (((lat pl B as out).filter λa=>decide (a.g=g)).map encL))):=λr h0 h3 h4=>by
  unfold rY;refine ye (r:=r) (own:=1) (cap:=[0,3]) (g:=gV 0) (fi:=λρ=>((aCons (eV 4) aNil) ρ).bind kT) (f:=λρ=>((aCons (eV 1) (aCons (eV 0) (aCons (eIf (tb (e2 (tT false) (eV 2) (eC .non))) (λρ=>(aNil ρ).bind λds=>some (.lst ds)) (eV 2)) aNil))) ρ).bind λds=>kj (ds++[])) (λ(t:Nat)=>D.int (t:Int)) (λ(g:Nat)=>D.lst (((lat pl B as out).filter λa=>decide (a.g=g)).map encL)) (bR mv) (u7 h4 (by omega)) (by rw[cE];omega) λg hg=>⟨_,rfl,?_⟩;have e9:eE r [0,3]=[some (dC (bX ns as) mv pl B),some wo]:=by unfold eE;simp[h0,h3]
  rw[e9];have t1:=tl g;generalize dC (bX ns as) mv pl B=tb,((lat pl B as out).filter λa=>decide (a.g=g)).map encL=zs at *;cases hw with
  |no=>have e0:bS []=[]:=rfl;rw[e0]at t1;clear e9 h0 h3 h4 hg tl rT Az hd2 IP BI mW eP vN BN ok hp h hn hr hB mo;walk_at "mix"
  |some out=>clear e9 h0 h3 h4 hg tl rT Az hd2 IP BI mW eP vN BN ok hp h hn hr hB mo;walk_at "mix"
 have q1:∀r:L3.Env,r[4]?.join=some (.int (mv:Int))->r[8]?.join=some (.int (dep as:Int))->vX r=some (.lst (cQ mv (dep as) λ_ _=>some 0)):=λr h4 h8=>by
  refine ye (λ(t:Nat)=>D.int (t:Int)) (λ_=>D.lst (eR mv λ_=>some 0)) (bR (dep as)) (u7 h8 (by omega)) (by rw[cE];omega) λg _=>⟨_,rfl,?_⟩;have e9:eE r [4]=[some (.int (mv:Int))]:=by unfold eE;simp[h4]
  rw[e9];have rp:p3 (.lst [.int 0]) (.int (mv:Int))=some (.lst (eR mv λ_=>some 0)):=by unfold p3;dsimp only;rw[if_pos ⟨by omega,by omega,by simp⟩];congr 2;unfold eR;rw[nN,cE];simp[mK]
  clear e9 h4 h8 q2 tl rT Az hd2 IP BI mW eP vN BN ok hp h hn hr hB mo;walk_at "mix"
 have EO:∀g,g<mv->ed (.lst ((bR mv).map λg=>D.lst (((lat pl B as out).filter λa=>decide (a.g=g)).map encL))) (.int (g:Int))=some (.lst (((lat pl B as out).filter λa=>decide (a.g=g)).map encL)):=λg hg=>yg (by simp[hg]);generalize (D.lst ((bR mv).map λg=>D.lst (((lat pl B as out).filter λa=>decide (a.g=g)).map encL)))=LK at q2 EO;obtain⟨ρ',h1,Y,Mh,Ci,Cj,rfl,run,hS⟩:=vf (g:=gV 10) (b:=rM) (lo:=0) (n:=rounds) (ρ:=[some (dC (bX ns as) mv pl B),some (.int (rounds:Int)),some (.lst (puts.map fR)),some wo,some (.int (mv:Int)),some LK,some d,some (.lst (bS p)),some (.int (dep as:Int)),some (.lst (cQ mv (dep as) λ_ _=>some 0)),none,none,none])
  (λr ρ=>∃Y Mh Ci Cj,ρ=[some (dC (bX ns as) mv pl B),some (.int (rounds:Int)),some (.lst (puts.map fR)),some wo,some (.int (mv:Int)),some LK,some d,some (.lst (bS p)),some (.int (dep as:Int)),some (.lst (cQ mv (dep as+r) Y)),Mh,Ci,Cj]/\Run (lat pl B as out) mv (dep as) r (λ_ _=>some 0) (λg r=>mx (some 0) (fl puts g r)) Y/\∀i,i<dep as+r->∀g,g<mv->∃y,Y i g=some y)
  ⟨λ_ _=>some 0,none,none,none,rfl,⟨λ_ _ _ _=>rfl,λr hr=>by omega⟩,λi hi g hg=>⟨0,rfl⟩⟩ (by
   rintro r ρ IZ ⟨Y,Mh,Ci,Cj,rfl,run,hS⟩;obtain⟨Z,UG,UH,hz,DT,hZ⟩:=zs4 (tb:=some (dC (bX ns as) mv pl B)) (puts:=some (.lst (puts.map fR))) (wo:=some wo) (as:=as) (bs:=lat pl B as out) (mv:=mv) (L:=dep as+r) (r:=r) (rounds:=rounds) (dp:=dep as) (Y:=wr Y (dep as+r) λ_=>some 0) (x11:=Ci) (x12:=Cj) (p:=p) hd2
    (λi hi g hg=>by
     unfold wr;by_cases he:i=dep as+r
     ·rw[if_pos he];exact⟨0,rfl⟩
     ·rw[if_neg he];exact hS i (by omega) g hg)
    (λa ha=>⟨by have:=(Az a ha).1;omega,(Az a ha).2⟩) rT ok LK EO
   have Ga:wr (wr Y (dep as+r) λ_=>some 0) (dep as+r) Z=wr Y (dep as+r) Z:=by funext i g;unfold wr;by_cases hi:i=dep as+r<;>simp[hi]
   rw[Ga]at hz hZ;refine⟨_,_,rfl,.inl ?_,wr Y (dep as+r) Z,some (.int (r:Int)),UG,UH,rfl,⟨?_,?_⟩,?_⟩
   ·have e0:(0:Int)+(r:Int)=(r:Int):=by omega
    have rp:p3 (.lst [.int 0]) (.int (mv:Int))=some (.lst (eR mv λ_=>some 0)):=by unfold p3;dsimp only;rw[if_pos ⟨by omega,by omega,by simp⟩];congr 2;unfold eR;rw[nN,cE];simp[mK]
    have DX:(cQ mv (dep as+r) Y).length<16777216:=by rw[qm];omega
    have hsn:=Wq (mv:=mv) (m:=dep as+r) Y λ_=>some 0;rw[e0];generalize dC (bX ns as) mv pl B=tb,puts.map fR=Ud at *;unfold rM;clear hZ DT Ga EO q1 q2 tl rT Az run hS vN ok hp h hn IP hd2 eP mW BI hr IZ BN hw hB mo;walk_at "mix";rfl
   ·intro i hi g hg;unfold wr;rw[if_neg (by omega)];exact run.past i hi g hg
   ·intro r2 hr2 g hg;by_cases he:r2=r
    ·subst he;have:wr Y (dep as+r2) Z (dep as+r2) g=Z g:=by simp[wr]
     rw[this];exact hZ g (vN g hg)
    ·have h3:wr Y (dep as+r) Z (dep as+r2) g=Y (dep as+r2) g:=by unfold wr;rw[if_neg (by omega)]
     rw[h3,run.rc r2 (by omega) g hg];refine Mw _ λa _ _=>?_;unfold wr;rw[if_neg (by omega)]
   ·intro i hi g hg;unfold wr;by_cases he:i=dep as+r
    ·rw[if_pos he];exact DT g hg
    ·rw[if_neg he];exact hS i (by omega) g hg)
 refine⟨Y,?_,run,hS⟩;have r1:kT [.int (rounds:Int)]=some (iT 0 rounds):=by rw[vg (by omega) (by omega)];rfl
 have k2:=q2 [some (dC (bX ns as) mv pl B),some (.int (rounds:Int)),some (.lst (puts.map fR)),some wo,some (.int (mv:Int)),none,none,none,none,none,none,none,none] rfl rfl rfl;have k1:=q1 [some (dC (bX ns as) mv pl B),some (.int (rounds:Int)),some (.lst (puts.map fR)),some wo,some (.int (mv:Int)),some LK,some d,some (.lst (bS p)),some (.int (dep as:Int)),none,none,none,none] rfl rfl;have e3:cutD (cQ mv (dep as+rounds) Y) (some (dep as:Int)) none=cQ mv rounds λr g=>Y (dep as+r) g:=by rw[Pn _ (dep as),Wt]
 have f1:=Gn (bX ns as) mv pl B;have f2:=jm ns as;have l1:eW [.lst ns]=some (.int (mv:Int)):=by rw[ym,hn]
 generalize dC (bX ns as) mv pl B=tb at *;generalize bX ns as=net,puts.map fR=Ud,(cQ mv rounds λr g=>Y (dep as+r) g)=res,(cQ mv (dep as) λ_ _=>some 0)=rs0,cQ mv (dep as+rounds) Y=ou at *;unfold nW;clear EO q1 q2 tl rT Az run hS vN ok h hn hd2 eP mW BI hr BN hw hB jB;walk_at "mix"
theorem Zl {m:Nat}{i g:Nat}(hi:i<m)(hg:g<mv):ed (.lst (cQ mv m Y)) (.int (i:Int))=sL (eR mv (Y i))/\ed (.lst (eR mv (Y i))) (.int (g:Int))=some (mK (Y i g)) :=
 ⟨yg (by unfold cQ;rw[cu,eQ hi];rfl),MW _ hg⟩
theorem Zm (xs:List Fl)(w:T):xs.foldl (λw q=>mx w (some q.2.2)) w=mx w (xs.foldl (λw q=>mx w (some q.2.2)) none):=by
 induction xs generalizing w with
 |nil=>show w=mx w none;cases w<;>rfl
 |cons x xs ih=>rw[dS,dS,ih,ih (mx none (some x.2.2)),jl];rfl
theorem zs5 (fs IH:List Fl)(g r:Nat):fl (fs++IH) g r=mx (fl fs g r) (fl IH g r):=by unfold fl;rw[Ag,mD,Zm]
theorem Run.uniq {bs:List eA}{past D5 f f':Nat->Nat->T}(hs:∀a∈bs,a.s<mv/\a.b<=depth)(BR:∃rank:Nat->Nat,∀a∈bs,a.b=0->rank a.s<rank a.g)(h1:Run bs mv depth rounds past f Y)(h2:Run bs mv depth rounds D5 f' Y')(hp:∀i,i<depth->∀g,g<mv->past i g=D5 i g)(hf:∀r,r<rounds->∀g,g<mv->f g r=f' g r) :
  ∀i,i<depth+rounds->∀g,g<mv->Y i g=Y' i g:=by
 obtain⟨rank,yF⟩:=BR;have main:∀n,∀i,i<depth+rounds->i<n->∀k g,g<mv->rank g<k->Y i g=Y' i g:=by
  intro n;induction n with
  |zero=>intro i _ hi;omega
  |succ n ih=>
   intro i hi sS k;induction k with
   |zero=>intro g _ hk;omega
   |succ k Lv=>
    intro g hg hk;by_cases hd:i<depth
    ·rw[h1.past i hd g hg,h2.past i hd g hg,hp i hd g hg]
    ·obtain⟨r,rfl⟩:∃r,i=depth+r:=⟨i-depth,by omega⟩;rw[h1.rc r (by omega) g hg,h2.rc r (by omega) g hg,hf r (by omega) g hg];refine Mw _ λa ha BC=>?_;obtain⟨BS,rS⟩:=hs a ha;by_cases hb:a.b=0
     ·rw[hb,wV];exact Lv a.s BS (by have:=yF a ha hb;rw[BC]at this;omega)
     ·exact ih (depth+r-a.b) (by omega) (by omega) (rank a.s+1) a.s BS (by omega)
 exactλi hi g hg=>main (i+1) i hi (by omega) (rank g+1) g hg (by omega)
noncomputable def oC (a b:T):Prop:=mx a b=b
theorem X5 (a:T):oC a a:=QP a
theorem X6 (a:T):oC none a:=by cases a<;>rfl
theorem jo {i j:Int}(h:i<=j):oC (some i) (some j):=by show some (if j > i then j else i)=some j;refine congrArg some ?_;split<;>omega
theorem Nl {i j:Int}(h:oC (some i) (some j)):i<=j:=by
 have h:some (if j > i then j else i)=some j:=h;simp only[Option.some.injEq]at h
 split at h<;>omega
theorem w9 {a b c:T}(h1:oC a b)(h2:oC b c):oC a c:=by unfold oC;rw[←show mx b c=c from h2,←jl,show mx a b=b from h1]
theorem zs6 (m:Int){a b:T}(h:oC a b):oC (lt m a) (lt m b):=by unfold oC;rw[←ztx,show mx a b=b from h]
theorem QC (q:Fl)(fs:List Fl)(g r:Nat):fl (q::fs) g r=mx (if q.1=g/\q.2.1=r then some q.2.2 else none) (fl fs g r):=by
 rw[show q::fs=[q]++fs from rfl,zs5];congr 1;unfold fl;by_cases h:q.1=g/\q.2.1=r
 ·rw[if_pos h,mZ (by simpa using h)];rfl
 ·rw[if_neg h,mY (by simpa using h)];rfl
theorem JI (h:gQ mv as):(∀a∈lat pl B as out,a.s<mv/\a.b<=dep as)/\∃rank:Nat->Nat,∀a∈lat pl B as out,a.b=0->rank a.s<rank a.g:=by
 refine⟨λa ha=>?_,?_⟩
 ·obtain⟨b,hb,b1,b2,b3,b4⟩:=qw ha;exact⟨by rw[b1];exact(h.right b hb).s,by rw[b3];exact JH hb⟩
 ·obtain⟨rank,yF⟩:=h.rank;refine⟨rank,λa ha h0=>?_⟩;obtain⟨b,hb,b1,b2,b3,b4⟩:=qw ha;rw[b1,b2];exact yF b hb (by omega)
theorem Zn {wo:D}{f:Nat->Nat->T}(h:gQ mv as)(hn:ns.length=mv)(hr:rounds<=1000)(hB:B<=1000000000000)(hw:xW wo out)(jB:puts.length<=1000)
  (hY:Run (lat pl B as out) mv (dep as) rounds (λ_ _=>some 0) f Y) (hf:∀r,r<rounds->∀g,g<mv->mx (some 0) (fl puts g r)=f g r) :
  nW [dC (bX ns as) mv pl B,.int (rounds:Int),.lst (puts.map fR),wo]=sL (cQ mv rounds λr g=>Y (dep as+r) g):=by
 obtain⟨Y',h1,h2,_⟩:=Nk (ns:=ns) (rounds:=rounds) (pl:=pl) h hn hr hB hw jB;rw[h1,x6 λi hi g hg=>h2.uniq (JI h).1 (JI h).2 hY (λ_ _ _ _=>rfl) hf (dep as+i) (by omega) g hg]
theorem Zo (pl:Nat->Int)(B:Nat)(as:List eA):lat pl B as []=as.map λa=>{ a with t:=- lz pl B a }:=by
 unfold lat;have:as.zipIdx.filter (λp=>decide (p.2∉([]:List Nat)))=as.zipIdx:=yY.mpr λp _=>by simp
 rw[this];have h2:as.zipIdx.map (λp=>({ p.1 with t:=- lz pl B p.1 }:eA))=(as.zipIdx.map (·.1)).map λa=>{ a with t:=- lz pl B a }:=by rw[d7];rfl
 rw[h2];congr 1;have:=OW (λ_:eA=>true) as 0;simpa using this
theorem MD (a b:T):oC a (mx a b):=by unfold oC;rw[←jl,QP]
theorem ME (a b:T):oC b (mx a b):=by rw[ZF];exact MD b a
theorem QD {a b x:T}(h1:oC a x)(h2:oC b x):oC (mx a b) x:=by unfold oC;rw[jl,show mx b x=x from h2,show mx a x=x from h1]
theorem QE (F:eA->T){x:T}:∀(cs:List eA) (w:T),oC w x->(∀a∈cs,oC (F a) x)->oC (cs.foldl (λw a=>mx w (F a)) w) x
 |[],_,h,_=>h
 |c::cs,w,h,hc=>QE F cs _ (QD h (hc c bH)) λa ha=>hc a (bK _ ha)
theorem Mx (F:eA->T){x:T}:∀(cs:List eA) (w:T),(oC x w\/∃a∈cs,oC x (F a))->oC x (cs.foldl (λw a=>mx w (F a)) w)
 |[],w,h=>by
  rcases h with h|⟨a,ha,_⟩
  ·exact h
  ·cases ha
 |c::cs,w,h=>by
  refine Mx F cs _ ?_;rcases h with h|⟨a,ha,h⟩
  ·exact .inl (w9 h (MD _ _))
  ·rcases bY.mp ha with rfl|ha
   ·exact .inl (w9 h (ME _ _))
   ·exact .inr ⟨a,ha,h⟩
theorem uv {α:Type}{g:D->L3.Env->Option L3.Env}{b:SF}(enc:α->D)(I:L3.Env->Prop)(N:α->Prop)(R:α->D->Prop):∀(xs:List α) (ρ:L3.Env),I ρ->(∀x∈xs,∀ρ,I ρ->∃ρ1,g (enc x) ρ=some ρ1/\((N x/\∃ρ2,b ρ1=some (.nx ρ2)/\I ρ2)\/∃w,R x w/\b ρ1=some (.rt w))) ->
  ((∀x∈xs,N x)/\∃ρ',gN g b (xs.map enc) ρ=some (.nx ρ')/\I ρ')\/∃pre x post w,xs=pre++x::post/\(∀y∈pre,N y)/\R x w/\gN g b (xs.map enc) ρ=some (.rt w)
 |[],ρ,h,_=>.inl ⟨λ_ h=>(by cases h),ρ,rfl,h⟩
 |x::xs,ρ,h,st=>by
  obtain⟨ρ1,h1,h2⟩:=st x bH ρ h;have AM:gN g b ((x::xs).map enc) ρ=(g (enc x) ρ).bind λρ1=>(b ρ1).bind λo=>match o with
    |.nx ρ'=>gN g b (xs.map enc) ρ'
    |.ct ρ'=>gN g b (xs.map enc) ρ'
    |.bk ρ'=>some (.nx ρ')
    |.rt d=>some (.rt d):=rfl
  rw[AM,h1,de];rcases h2 with⟨e,ρ2,h2,h3⟩|⟨w,e,h2⟩
  ·rw[h2,de];rcases uv enc I N R xs ρ2 h3 λy hy=>st y (bK _ hy)with⟨a1,ρ',a2,a3⟩|⟨pre,z,post,w,a1,a2,a3,a4⟩
   ·refine .inl ⟨λy hy=>?_,ρ',a2,a3⟩;rcases bY.mp hy with rfl|hy
    ·exact e
    ·exact a1 y hy
   ·refine .inr ⟨x::pre,z,post,w,by rw[a1];rfl,λy hy=>?_,a3,a4⟩;rcases bY.mp hy with rfl|hy
    ·exact e
    ·exact a2 y hy
  ·rw[h2];exact .inr ⟨[],x,xs,w,rfl,λ_ h=>(by cases h),e,rfl⟩
theorem Vb {n:Nat}{pre post:List Nat}{x:Nat}(h:bR n=pre++x::post):x<n/\∀y,y<x->y∈pre:=by
 have hl:pre.length=x:=by
  have:=congrArg (λl=>l[pre.length]?) h;simp only[f9 (b7 _),Nat.sub_self,List.getElem?_cons_zero]at this;have h2:pre.length<n:=by have:=congrArg jT h;simp at this;omega
  rw[eQ h2]at this;simpa using this
 refine⟨ce.mp (by rw[h];simp),λy hy=>?_⟩;have:(bR n)[y]?=(pre++x::post)[y]?:=by rw[h]
 rw[dE (by omega),eQ (by have:=congrArg jT h;simp at this;omega)]at this;exact cJ.mpr ⟨y,this.symm⟩
theorem Pf {α:Type}{p q:α->Bool}:∀{l:List α},(∀x∈l,p x=true->q x=true)->(∃y∈l,q y=true/\p y=false)->l.countP p<l.countP q
 |[],_,⟨y,hy,_⟩=>by cases hy
 |x::l,h,⟨y,hy,h1,h2⟩=>by
  rw[gM,gM];have le:l.countP p<=l.countP q:=wO λz hz=>h z (bK _ hz);rcases bY.mp hy with rfl|hy
  ·rw[h1,h2];simp;omega
  ·have lt:=Pf (λz hz=>h z (bK _ hz)) ⟨y,hy,h1,h2⟩;have hx:=h x bH;cases hp:p x with
   |true=>rw[hx hp];simp;omega
   |false=>cases q x<;>simp<;>omega
noncomputable def Dl (going:Nat)(tp:List (Nat×Nat))(r:Nat->Bool):Nat->Bool:=tp.foldl (λr p=>if p.1=going\/r p.1=true thenλx=>if x=p.2 then true else r x else r) r
noncomputable def FH (going:Nat)(tp:List (Nat×Nat))(r:Nat->Bool):Prop:=∀p∈tp,(p.1=going\/r p.1=true)->r p.2=true
theorem Mz (going:Nat):∀(tp:List (Nat×Nat)) (r:Nat->Bool) (x:Nat),r x=true->Dl going tp r x=true
 |[],r,x,h=>h
 |p::tp,r,x,h=>by
  show Dl going tp (if p.1=going\/r p.1=true thenλx=>if x=p.2 then true else r x else r) x=true;refine Mz going tp _ x ?_;by_cases hc:p.1=going\/r p.1=true
  ·rw[if_pos hc];by_cases hx:x=p.2
   ·exact if_pos hx
   ·exact(if_neg hx).trans h
  ·rw[if_neg hc];exact h
theorem Qb (going:Nat):∀(tp:List (Nat×Nat)) (r:Nat->Bool) (p:Nat×Nat),p∈tp->(p.1=going\/r p.1=true)->Dl going tp r p.2=true
 |[],r,p,h,_=>by cases h
 |q::tp,r,p,h,hc=>by
  show Dl going tp (if q.1=going\/r q.1=true thenλx=>if x=q.2 then true else r x else r) p.2=true;rcases bY.mp h with rfl|h
  ·rw[if_pos hc];exact Mz going tp _ _ (if_pos rfl)
  ·refine Qb going tp _ p h (hc.imp id λhr=>?_);by_cases CF:q.1=going\/r q.1=true
   ·rw[if_pos CF];by_cases hx:p.1=q.2
    ·exact if_pos hx
    ·exact(if_neg hx).trans hr
   ·rw[if_neg CF];exact hr
theorem QF {going:Nat}:∀{tp tq:List (Nat×Nat)} {r:Nat->Bool},FH going tq r->(∀p∈tp,p∈tq)->Dl going tp r=r
 |[],_,r,_,_=>rfl
 |p::tp,tq,r,h,hs=>by
  show Dl going tp (if p.1=going\/r p.1=true thenλx=>if x=p.2 then true else r x else r)=r;have:(if p.1=going\/r p.1=true thenλx=>if x=p.2 then true else r x else r)=r:=by
   by_cases hc:p.1=going\/r p.1=true
   ·rw[if_pos hc];funext x;by_cases hx:x=p.2
    ·rw[if_pos hx,hx];exact(h p (hs p bH) hc).symm
    ·rw[if_neg hx]
   ·rw[if_neg hc]
  rw[this];exact QF h λq hq=>hs q (bK _ hq)
theorem Pg {going:Nat}{P:Nat->Prop}:∀{tp:List (Nat×Nat)} {r:Nat->Bool},(∀p∈tp,(p.1=going\/P p.1)->P p.2)->(∀x,r x=true->P x)->∀x,Dl going tp r x=true->P x
 |[],r,_,h,x,hx=>h x hx
 |p::tp,r,hp,h,x,hx=>by
  refine Pg (tp:=tp) (λq hq=>hp q (bK _ hq)) (λy hy=>?_) x hx;replace hy:(if p.1=going\/r p.1=true thenλx=>if x=p.2 then true else r x else r) y=true:=hy;by_cases hc:p.1=going\/r p.1=true
  ·rw[if_pos hc]at hy;by_cases Oj:y=p.2
   ·rw[Oj];exact hp p bH (hc.imp id λz=>h _ z)
   ·rw[if_neg Oj]at hy;exact h y hy
  ·rw[if_neg hc]at hy;exact h y hy
noncomputable def n8 (going:Nat)(tp:List (Nat×Nat)):Nat->Nat->Bool
 |0=>λ_=>false
 |k+1=>Dl going tp (n8 going tp k)
theorem qx {going mv:Nat}{tp:List (Nat×Nat)}(hg:∀p∈tp,p.2<mv):∀k,FH going tp (n8 going tp k)\/k<=(bR mv).countP (n8 going tp k)
 |0=>.inr (ej _)
 |k+1=>by
  by_cases hc:FH going tp (n8 going tp k)
  ·left;show FH going tp (Dl going tp (n8 going tp k))
   rw[QF hc λ_ h=>h];exact hc
  ·right;rcases qx hg k with h|h
   ·exact absurd h hc
   ·have:∃p∈tp,(p.1=going\/n8 going tp k p.1=true)/\¬n8 going tp k p.2=true:=by apply Classical.byContradiction;intro hn;refine hc λp hp h1=>Classical.byContradiction λh2=>hn ⟨p,hp,h1,h2⟩
    obtain⟨p,hp,h1,h2⟩:=this;have lt:=Pf (p:=n8 going tp k) (q:=n8 going tp (k+1)) (l:=bR mv) (λx _ hx=>Mz going tp _ x hx) ⟨p.2,ce.mpr (hg p hp),Qb going tp _ p hp h1,by simpa using h2⟩;omega
theorem X7 {tp:List (Nat×Nat)}(hg:∀p∈tp,p.2<mv){k:Nat}(hk:mv<k):FH going tp (n8 going tp k):=by
 rcases qx (going:=going) hg k with h|h
 ·exact h
 ·have:=List.countP_le_length (p:=n8 going tp k) (l:=bR mv);rw[cE]at this;omega
theorem X8 (hg:∀n∈ts,G n<mv){k:Nat}(hk:mv<k):n8 going (ts.map λn=>(S n,G n)) k going=true↔∃l,l≠[]/\(∀n∈l,n∈ts)/\kX S G going l going:=by
 constructor
 ·have:∀k x,n8 going (ts.map λn=>(S n,G n)) k x=true->∃l,l≠[]/\(∀n∈l,n∈ts)/\kX S G going l x:=by
   intro k;induction k with
   |zero=>intro x h;cases h
   |succ k ih=>
    intro x h;refine Pg (P:=λx=>∃l,l≠[]/\(∀n∈l,n∈ts)/\kX S G going l x) (λp hp hc=>?_) ih x h;obtain⟨n,hn,rfl⟩:=cK.mp hp;rcases hc with hc|⟨l,l1,l2,l3⟩
    ·refine⟨[n],by simp,λm hm=>by rw[bU.mp hm];exact hn,?_⟩;have hc:S n=going:=hc;rw[←hc];exact kX.one S G n
    ·refine⟨l++[n],by simp,λm hm=>?_,kX.app (kX.one S G n) l3⟩;rcases cA.mp hm with hm|hm
     ·exact l2 m hm
     ·rw[bU.mp hm];exact hn
  exact this k going
 ·rintro⟨l,l1,l2,l3⟩;have R1:FH going (ts.map λn=>(S n,G n)) (n8 going (ts.map λn=>(S n,G n)) k):=X7 (mv:=mv) (λp hp=>by obtain⟨n,hn,rfl⟩:=cK.mp hp;exact hg n hn) hk;have:∀(l:List Nat) (a b:Nat),kX S G a l b->l≠[]->(∀n∈l,n∈ts)->(a=going\/n8 going (ts.map λn=>(S n,G n)) k a=true)->n8 going (ts.map λn=>(S n,G n)) k b=true:=by
   intro l;induction l with
   |nil=>exactλ_ _ _ z=>absurd rfl z
   |cons n l ih=>
    intro a b w _ hl ha;have h1:=R1 (S n,G n) (cK.mpr ⟨n,hl n bH,rfl⟩) (by rw[w.1];exact ha);by_cases e:l=[]
    ·subst e;have e2:G n=b:=w.2;rw[←e2];exact h1
    ·exact ih _ _ w.2 e (λm hm=>hl m (bK _ hm)) (.inr h1)
  exact this _ _ _ l3 l1 l2 (.inl rfl)
theorem Mb {d g0:D}{ch:Nat->Option Nat}{m:Nat}(hd:gh d ch m){x:Nat}{w:List Nat}(hb:Bk (λn=>(aN as n).s) ch going x w):(∀n∈w,n<as.length)->∀(iw:List Nat) (fuel:Nat),w.length<fuel->iw.length+w.length<=10000 ->
  kU (tb (e2 (jV true) (eV 4) (eV 2))) kh fuel [sL (as.map cS),some d,sI (going:Int),some g0,sI (x:Int),sL (bS iw)]=some (.nx [sL (as.map cS),some d,sI (going:Int),some g0,sI (going:Int),sL (bS (iw++w.reverse))]):=by
 induction hb with
 |nil=>
  intro _ iw fuel hf _;cases fuel with
  |zero=>omega
  |succ fuel=>
   have q:jV true (.int (going:Int)) (.int (going:Int))=some (.bl false):=(xw _ _).trans (by simp);have c1:tb (e2 (jV true) (eV 4) (eV 2)) [sL (as.map cS),some d,sI (going:Int),some g0,sI (going:Int),sL (bS iw)]=some false:=by show((jV true (.int (going:Int)) (.int (going:Int))).bind CA)=_;rw[q];rfl
   show(tb (e2 (jV true) (eV 4) (eV 2)) _).bind _=_;rw[c1,List.reverse_nil,cP];rfl
 |@cons x n w hx hc _ ih=>
  intro hl iw fuel hf ha;rw[cn,cV]at hf ha;cases fuel with
  |zero=>omega
  |succ fuel=>
   have hn:n<as.length:=hl n (by simp);have q:jV true (.int (x:Int)) (.int (going:Int))=some (.bl true):=(xw _ _).trans (by rw[if_pos rfl,decide_eq_false (by omega)];rfl);have c1:tb (e2 (jV true) (eV 4) (eV 2)) [sL (as.map cS),some d,sI (going:Int),some g0,sI (x:Int),sL (bS iw)]=some true:=by show((jV true (.int (x:Int)) (.int (going:Int))).bind CA)=_;rw[q];rfl
   have st:kh [sL (as.map cS),some d,sI (going:Int),some g0,sI (x:Int),sL (bS iw)]=some (.nx [sL (as.map cS),some d,sI (going:Int),some g0,sI ((aN as n).s:Int),sL (bS (iw++[n]))]):=by
    have g1:=hd.get hc;have f1:=fs (aN as n);have i1:ed (.lst (as.map cS)) (.int (n:Int))=some (cS (aN as n)):=yg (by rw[cu,yr hn];rfl);have e3:bS (iw++[n])=bS iw++[.int (n:Int)]:=by unfold bS;rw[dU];rfl
    have hz:(bS iw).length<16777216:=by unfold bS;rw[bQ];omega
    rw[e3];generalize as.map cS=al,bS iw=ac at *;unfold kh;clear ih hd hc hx hl hn q c1 e3 hf ha;walk_at "mix"
   show(tb (e2 (jV true) (eV 4) (eV 2)) _).bind _=_;rw[c1];show(kh _).bind _=_;rw[st];show kU _ _ fuel _=_;rw[ih (λm hm=>hl m (cC _ hm)) (iw++[n]) fuel (by omega) (by rw[cn,cV];omega),List.reverse_append,List.reverse_singleton,fL]
theorem Vj {d:D}{ch:Nat->Option Nat}{x m:Nat}{w:List Nat}(hd:gh d ch m)(hb:Bk (λn=>(aN as n).s) ch going x w)(hl:∀n∈w,n<as.length)(hw:w.length<=10000):nu [.lst (as.map cS),d,.int (going:Int),.int (x:Int)]=sL (bS w):=by
 have lp:=Mb (g0:=.int (x:Int)) hd hb hl [] pW (um (by omega)) (by simpa using hw);rw[Ct]at lp;have lr:vR (.lst (bS w.reverse))=sL (bS w):=by show some (D.lst (bS w.reverse).reverse)=_;unfold bS;rw[←m9,List.reverse_reverse]
 have n0:bS []=[]:=rfl;rw[n0]at lp;unfold nu iy;generalize (tb (e2 (jV true) (eV 4) (eV 2)))=cc,as.map cS=al,bS w.reverse=wr at *;clear hd hb hl hw;walk_at "mix"
noncomputable def yT (pl:Nat->Int)(B:Nat)(as:List eA):List Nat:=(bR as.length).filter λn=>decide (lz pl B (aN as n)=0)
theorem uw {n:Nat}:n∈yT pl B as↔n<as.length/\lz pl B (aN as n)=0:=by unfold yT;rw[cI,ce,decide_eq_true_iff]
noncomputable def Ring (ts:List Nat)(S G:Nat->Nat)(going:Nat)(w:List Nat):Prop:=w≠[]/\(∀n∈w,n∈ts)/\kX S G going w going/\(w.map S).Nodup
theorem Nd {ns:List D}{tb':Option D}{as:List eA}{ts:List Nat}{mv going here k:Nat}(uK:∀n∈ts,n<as.length)(vP:mv<=1000)(FW:∀a∈as,a.g<mv):∀(xs re:List Nat) (ch:Nat->Option Nat) (d:D) (y8 y9:Option D),(∀n∈xs,n∈ts/\(aN as n).s=here)->xB ts (λn=>(aN as n).s) (λn=>(aN as n).g) going re ch k->gh d ch re.length->here∈re->(∀x∈re,x<mv) ->
  (∃e pP d' Dz DA,gN (gV 8) dg (bS xs) [tb',sI (going:Int),some (bX ns as),sL (bS ts),sL (bS re),some d,sI (k:Int),sI (here:Int),y8,y9]=some (.nx [tb',sI (going:Int),some (bX ns as),sL (bS ts),sL (bS (re++e)),some d',sI (k:Int),sI (here:Int),Dz,DA])/\xB ts (λn=>(aN as n).s) (λn=>(aN as n).g) going (re++e) pP k/\gh d' pP (re++e).length/\(∀x∈re++e,x<mv)/\∀n∈xs,(aN as n).g≠going/\(aN as n).g∈re++e) \/
  ∃w,gN (gV 8) dg (bS xs) [tb',sI (going:Int),some (bX ns as),sL (bS ts),sL (bS re),some d,sI (k:Int),sI (here:Int),y8,y9]=some (.rt (.lst (bS w)))/\Ring ts (λn=>(aN as n).s) (λn=>(aN as n).g) going w
 |[],re,ch,d,y8,y9,_,hB,hd,_,hm=>.inl ⟨[],ch,d,y8,y9,by rw[cP];rfl,by rw[cP];exact hB,by rw[cP];exact hd,by rw[cP];exact hm,λn hn=>(by cases hn)⟩
 |n::xs,re,ch,d,y8,y9,hx,hB,hd,hh,hm=>by
  obtain⟨F7,yC⟩:=hx n bH;have qJ:=uK n F7;have eP:re.length<=mv:=Kahn.len_le hB.nd hm;have Ay:aN as n∈as:=cJ.mpr ⟨n,yr qJ⟩;have f1:=fg (aN as n);have f4:=xj ns as;have i1:ed (.lst (as.map cS)) (.int (n:Int))=some (cS (aN as n)):=yg (by rw[cu,yr qJ];rfl);have AM:gN (gV 8) dg (bS (n::xs)) [tb',sI (going:Int),some (bX ns as),sL (bS ts),sL (bS re),some d,sI (k:Int),sI (here:Int),y8,y9]=(dg [tb',sI (going:Int),some (bX ns as),sL (bS ts),sL (bS re),some d,sI (k:Int),sI (here:Int),sI (n:Int),y9]).bind λo=>match o with
    |.nx ρ'=>gN (gV 8) dg (bS xs) ρ'
    |.ct ρ'=>gN (gV 8) dg (bS xs) ρ'
    |.bk ρ'=>some (.nx ρ')
    |.rt d=>some (.rt d):=rfl
  rw[AM];by_cases hg:(aN as n).g=going
  ·right;obtain⟨w,w1,w2,w3,w4,w5,w6⟩:=hB.bk (re.idxOf here+1) here hh (by omega)
   have EU:w.length<=1000:=by have:=List.idxOf_lt_length_of_mem hh;omega
   refine⟨w++[n],?_,by simp,λm qY=>?_,kX.app (b:=here) (show kX (λn=>(aN as n).s) (λn=>(aN as n).g) here [n] going from⟨yC,hg⟩) w3,?_⟩
   ·have wb:=Vj (as:=as) hd w1 (λm qY=>uK m (w4 m qY)) (by omega);have e3:bS (w++[n])=bS w++[.int (n:Int)]:=by unfold bS;rw[dU];rfl
    have q:jV false (.int ((aN as n).g:Int)) (.int (going:Int))=some (.bl true):=(xw _ _).trans (by rw[hg];simp);have ad:gb (.lst (bS w)) (.lst [.int (n:Int)])=sL (bS w++[.int (n:Int)]):=by show(if _ then _ else _)=_;rw[if_pos (by unfold bS;rw[bQ,cV];omega)]
    have st:dg [tb',sI (going:Int),some (bX ns as),sL (bS ts),sL (bS re),some d,sI (k:Int),sI (here:Int),sI (n:Int),y9]=some (.rt (.lst (bS w++[.int (n:Int)]))):=by generalize (bS w++[D.int (n:Int)])=wn,as.map cS=al,bS ts=tl,bS re=rl at *;generalize bS w=wl,bX ns as=net at *;unfold dg sFz;clear AM w1 w2 w3 w4 w5 w6 EU hg Ay eP qJ F7 yC hx hB hd hh hm uK vP FW e3;walk_at "mix"
    rw[st,e3];rfl
   ·rcases cA.mp qY with qY|qY
    ·exact w4 m qY
    ·rw[bU.mp qY];exact F7
   ·rw[dU];refine cF.mpr ⟨w5,by simp,λa ha b hb e=>?_⟩;obtain⟨m,qY,rfl⟩:=cK.mp ha;have:=w6 m qY;rw[e,bU.mp hb]at this;replace this:re.idxOf (aN as n).s<re.idxOf here:=this;rw[yC]at this;omega
  ·have q:jV false (.int ((aN as n).g:Int)) (.int (going:Int))=some (.bl false):=(xw _ _).trans (by rw[if_neg (by decide),decide_eq_false (by omega)]);have q2:=QW true (aN as n).g re;rw[if_pos rfl]at q2;by_cases hr:(aN as n).g∈re
   ·rw[decide_eq_true hr]at q2;have st:dg [tb',sI (going:Int),some (bX ns as),sL (bS ts),sL (bS re),some d,sI (k:Int),sI (here:Int),sI (n:Int),y9]=some (.nx [tb',sI (going:Int),some (bX ns as),sL (bS ts),sL (bS re),some d,sI (k:Int),sI (here:Int),sI (n:Int),sI ((aN as n).g:Int)]):=by generalize as.map cS=al,bS ts=tl,bS re=rl,bX ns as=net at *;unfold dg sFz;clear AM hg Ay eP qJ F7 yC hx hB hd hh hm uK vP FW hr;walk_at "mix"
    rw[st];show((∃e pP d' Dz DA,gN (gV 8) dg (bS xs) _=_/\_)\/∃w,gN (gV 8) dg (bS xs) _=_/\_);rcases Nd (tb':=tb') (ns:=ns) uK vP FW xs re ch d (sI (n:Int)) (sI ((aN as n).g:Int)) (λm qY=>hx m (bK _ qY)) hB hd hh hm with⟨e,pP,d',Dz,DA,a1,a2,a3,a4,a5⟩|⟨w,a1,a2⟩
    ·refine .inl ⟨e,pP,d',Dz,DA,a1,a2,a3,a4,λm qY=>?_⟩;rcases bY.mp qY with rfl|qY
     ·exact⟨hg,cC _ hr⟩
     ·exact a5 m qY
    ·exact .inr ⟨w,a1,a2⟩
   ·rw[decide_eq_false hr]at q2;obtain⟨d2,put,hd2⟩:=hd.put (by omega) (aN as n).g n;have e3:bS (re++[(aN as n).g])=bS re++[.int ((aN as n).g:Int)]:=by unfold bS;rw[dU];rfl
    have hz:(bS re).length<16777216:=by unfold bS;rw[bQ];omega
    have st:dg [tb',sI (going:Int),some (bX ns as),sL (bS ts),sL (bS re),some d,sI (k:Int),sI (here:Int),sI (n:Int),y9]=some (.nx [tb',sI (going:Int),some (bX ns as),sL (bS ts),sL (bS (re++[(aN as n).g])),some d2,sI (k:Int),sI (here:Int),sI (n:Int),sI ((aN as n).g:Int)]):=by rw[e3];have put:=put [tb',sI (going:Int),some (bX ns as),sL (bS ts),sL (bS re++[.int ((aN as n).g:Int)]),some d,sI (k:Int),sI (here:Int),sI (n:Int),sI ((aN as n).g:Int)] 5 (eV 9) (eV 8) rfl rfl rfl;generalize as.map cS=al,bS ts=tl,bS re=rl,bX ns as=net at *;unfold dg sFz;generalize mR 5 (eV 9) (eV 8)=PP at *;clear AM hg Ay eP qJ F7 yC hx hB hd hh hm uK vP FW hr hd2 e3;walk_at "mix"
    rw[st];show((∃e pP d' Dz DA,gN (gV 8) dg (bS xs) _=_/\_)\/∃w,gN (gV 8) dg (bS xs) _=_/\_);have Ks:=hB.put F7 (by show(aN as n).s∈re;rw[yC];exact hh) hr;rcases Nd (tb':=tb') (ns:=ns) uK vP FW xs (re++[(aN as n).g]) _ d2 (sI (n:Int)) (sI ((aN as n).g:Int)) (λm qY=>hx m (bK _ qY)) Ks (by rw[cn,cV];exact hd2) (cC _ hh) (λx xG=>by
     rcases cA.mp xG with xG|xG
     ·exact hm x xG
     ·rw[bU.mp xG];exact FW _ Ay)with⟨e,pP,d',Dz,DA,a1,a2,a3,a4,a5⟩|⟨w,a1,a2⟩
    ·rw[fL]at a1 a2 a3 a4 a5;refine .inl ⟨_,pP,d',Dz,DA,a1,a2,a3,a4,λm qY=>?_⟩;rcases bY.mp qY with rfl|qY
     ·exact⟨hg,by simp⟩
     ·exact a5 m qY
    ·exact .inr ⟨w,a1,a2⟩
theorem xB.next {re:List Nat}{ch:Nat->Option Nat}{k:Nat}(h:xB ts S G going re ch k)(hk:re[k]?=some here)(hc:∀n∈ts,S n=here->G n≠going/\G n∈re):xB ts S G going re ch (k+1) :=
 ⟨h.nd,h.hd,(bZ.mp hk).1,h.way,λi hi x hx n hn hs=>by
  by_cases e:i=k
  ·subst e;rw[hk]at hx;cases hx;exact hc n hn hs
  ·exact h.cl i (by omega) x hx n hn hs⟩
theorem X9 (h:gQ mv as)(hB:B<=1000000000000)(r:L3.Env)(h0:r[0]?.join=some (dC (bX ns as) mv pl B))(h2:r[2]?.join=some (bX ns as)):n6 r=sL (bS (yT pl B as)):=by
 have eP:=h.len;have e2:eV 2 r=_:=h2;have ln:eN eW (aCons (e1 (dq [4] "arrows") (eV 2)) aNil) r=sI (as.length:Int):=by unfold eN aCons aNil e1;rw[e2];show eW [.lst (as.map cS)]=_;rw[ym,bQ]
 refine xh (λ(t:Nat)=>D.int (t:Int)) (λ(n:Nat)=>decide (lz pl B (aN as n)=0)) (λ(n:Nat)=>D.int (n:Int)) (bR as.length) (u7 ln (by omega)) (by rw[cE];omega) λn hn=>⟨_,rfl,?_,λ_=>rfl⟩;have hn:=ce.mp hn;have e9:eE r [0]=[some (dC (bX ns as) mv pl B)]:=by unfold eE;simp[h0]
 rw[e9];have Ay:aN as n∈as:=cJ.mpr ⟨n,yr hn⟩;have sl:=qq (ns:=ns) (as:=as) (mv:=mv) (pl:=pl) hB (h.right _ Ay).s (h.right _ Ay).g (yr hn);have met:li 5 "slack" dL (dC (bX ns as) mv pl B) [.int (n:Int)]=dL [dC (bX ns as) mv pl B,.int (n:Int)]:=qr (by decide);have q:jV false (.int (lz pl B (aN as n))) (.int 0)=some (.bl (decide (lz pl B (aN as n)=0))):=(xw _ _).trans (by rw[if_neg (by decide)]);generalize decide (lz pl B (aN as n)=0)=bb at *;generalize lz pl B (aN as n)=sv,dC (bX ns as) mv pl B=tt at *;clear e9 h0 h2 e2 ln hn Ay h hB eP;walk_at "mix"
theorem zs7 (hl:ts.length<=1000)(uK:∀n∈ts,n<as.length)(r:L3.Env)(h2:r[2]?.join=some (bX ns as))(h3:r[3]?.join=sL (bS ts))(h7:r[7]?.join=sI (here:Int)):n4 r=sL (bS (ts.filter λn=>decide ((aN as n).s=here))):=by
 refine xh (λ(t:Nat)=>D.int (t:Int)) (λ(n:Nat)=>decide ((aN as n).s=here)) (λ(n:Nat)=>D.int (n:Int)) ts (by unfold lsD;have:eV 3 r=_:=h3;rw[this];rfl) (by omega) λn hn=>⟨_,rfl,?_,λ_=>rfl⟩;have e9:eE r [2,7]=[some (bX ns as),sI (here:Int)]:=by unfold eE;simp[h2,h7]
 rw[e9];have f1:=fs (aN as n);have f4:=xj ns as;have i1:ed (.lst (as.map cS)) (.int (n:Int))=some (cS (aN as n)):=yg (by rw[cu,yr (uK n hn)];rfl);have q:jV false (.int ((aN as n).s:Int)) (.int (here:Int))=some (.bl (decide ((aN as n).s=here))):=(xw _ _).trans (by rw[if_neg (by decide),show decide (((aN as n).s:Int)=(here:Int))=decide ((aN as n).s=here)from decide_eq_decide.mpr (by omega)]);generalize decide ((aN as n).s=here)=bb,as.map cS=al,bX ns as=net at *;clear e9 h2 h3 h7 hn uK hl;walk_at "mix"
noncomputable def T7 (ρ:L3.Env):Nat:=match ρ[6]?.join with
 |some (D.int k)=>(1000-k).toNat
 |_=>0
theorem MF (h:gQ mv as)(hB:B<=1000000000000)(hg:going<mv):(∃w,d6 [dC (bX ns as) mv pl B,.int (going:Int)]=sL (bS w)/\Ring (yT pl B as) (λn=>(aN as n).s) (λn=>(aN as n).g) going w) \/
  (d6 [dC (bX ns as) mv pl B,.int (going:Int)]=some .non/\∀w,w≠[]->(∀n∈w,n∈yT pl B as)->¬kX (λn=>(aN as n).s) (λn=>(aN as n).g) going w going):=by
 have eP:=h.len;have mW:=h.le;have uK:∀n∈yT pl B as,n<as.length:=λn hn=>(uw.mp hn).1;have Hg:(yT pl B as).length<=1000:=by unfold yT;exact dA (kC _ _) (by rw[cE];omega)
 have k2:=X9 (ns:=ns) (pl:=pl) h hB [some (dC (bX ns as) mv pl B),sI (going:Int),some (bX ns as),none,none,none,none,none,none,none] rfl rfl;have fT:=Gn (bX ns as) mv pl B;generalize I0:dC (bX ns as) mv pl B=tt at *;generalize yT pl B as=ts at *;have lp:=qp (c:=tb (e2 qL (eV 6) (eN eW (aCons (eV 4) aNil)))) (b:=ke)
  (λρ=>∃(re:List Nat) (ch:Nat->Option Nat) (d:D) (k:Nat) (y7 y8 y9:Option D),ρ=[some tt,sI (going:Int),some (bX ns as),sL (bS ts),sL (bS re),some d,sI (k:Int),y7,y8,y9]/\xB ts (λn=>(aN as n).s) (λn=>(aN as n).g) going re ch k/\gh d ch re.length/\∀x∈re,x<mv) T7
  (λd=>∃w,d=.lst (bS w)/\Ring ts (λn=>(aN as n).s) (λn=>(aN as n).g) going w) (by
   rintro ρ ⟨re,ch,d,k,y7,y8,y9,rfl,hb,hd,hm⟩;have Hd:=Kahn.len_le hb.nd hm;have c1:tb (e2 qL (eV 6) (eN eW (aCons (eV 4) aNil))) [some tt,sI (going:Int),some (bX ns as),sL (bS ts),sL (bS re),some d,sI (k:Int),y7,y8,y9]=some (decide (k<re.length)):=by have ln:eW [.lst (bS re)]=sI (re.length:Int):=(ym _).trans (by unfold bS;rw[bQ]);show((eW [.lst (bS re)]).bind λy=>qL (.int (k:Int)) y).bind CA=_;rw[ln];show(qL (.int (k:Int)) (.int (re.length:Int))).bind CA=_;rw[zdm];show some (decide ((k:Int)<(re.length:Int)))=_;rw[show decide ((k:Int)<(re.length:Int))=decide (k<re.length)from decide_eq_decide.mpr (by omega)]
   refine⟨_,c1,λht=>?_⟩;have hk:=of_decide_eq_true ht;obtain⟨here,hh⟩:∃here,re[k]?=some here:=⟨_,df hk⟩;have sS:here∈re:=cJ.mpr ⟨k,hh⟩;have o1:=zs7 (ns:=ns) (as:=as) (ts:=ts) (here:=here) Hg uK [some tt,sI (going:Int),some (bX ns as),sL (bS ts),sL (bS re),some d,sI (k:Int),sI (here:Int),y8,y9] rfl rfl rfl;have i1:ed (.lst (bS re)) (.int (k:Int))=sI (here:Int):=yg (by unfold bS;rw[cu,hh];rfl);rcases Nd (ns:=ns) (tb':=some tt) (as:=as) (ts:=ts) (mv:=mv) (going:=going) (here:=here) (k:=k) uK (by omega) (λa ha=>(h.right a ha).g) (ts.filter λn=>decide ((aN as n).s=here)) re ch d y8 y9 (λn hn=>⟨(cI.mp hn).1,of_decide_eq_true (cI.mp hn).2⟩) hb hd sS hm with⟨e,pP,d',Dz,DA,a1,a2,a3,a4,a5⟩|⟨w,a1,a2⟩
   ·refine .inl ⟨[some tt,sI (going:Int),some (bX ns as),sL (bS ts),sL (bS (re++e)),some d',sI ((k+1:Nat):Int),sI (here:Int),Dz,DA],?_,⟨re++e,pP,d',k+1,_,_,_,rfl,a2.next (here:=here) (by rw[dE hk];exact hh) (λn hn hs=>a5 n (cI.mpr ⟨hn,decide_eq_true hs⟩)),a3,a4⟩,?_⟩
    ·have e1:((k+1:Nat):Int)=(k:Int)+1:=by omega
     rw[e1];generalize bS (re++e)=Uj,bS re=rl,(bS (ts.filter λn=>decide ((aN as n).s=here)))=xs,bS ts=tl,bX ns as=net at *;unfold ke AH i2;clear e1 a2 a3 a4 a5 sS hh hk ht c1 Hd hb hd hm k2 fT I0 Hg uK eP mW h hB hg;walk_at "mix"
    ·show((1000:Int)-((k+1:Nat):Int)).toNat<((1000:Int)-(k:Int)).toNat;omega
   ·refine .inr ⟨_,?_,w,rfl,a2⟩;generalize bS re=rl,(bS (ts.filter λn=>decide ((aN as n).s=here)))=xs,bS ts=tl,bS w=wl,bX ns as=net at *;unfold ke AH i2;clear a2 sS hh hk ht c1 Hd hb hd hm k2 fT I0 Hg uK eP mW h hB hg;walk_at "mix") pW [some tt,sI (going:Int),some (bX ns as),sL (bS ts),sL (bS [going]),some (.dK [] []),sI ((0:Nat):Int),none,none,none]
  ⟨[going],λ_=>none,_,0,_,_,_,rfl,xB.start,⟨[],[],rfl,rfl,by simp,λx=>rfl⟩,λx hx=>by rw[bU.mp hx];exact hg⟩ (um (by show((1000:Int)-((0:Nat):Int)).toNat<1048576;decide))
 have n1:bS [going]=[.int (going:Int)]:=rfl;have z0:((0:Nat):Int)=0:=rfl;rw[n1,z0]at lp;rcases lp with⟨ρ',l1,⟨re,ch,d,k,y7,y8,y9,rfl,hb,hd,hm⟩,hc⟩|⟨dd,l1,w,rfl,hr⟩
 ·right;refine⟨?_,λw Hi Ga TL=>?_⟩
  ·clear hc hb hd hm n1 z0;have s0:D.sc .non=true:=rfl;unfold d6 iy
   try unfold Ez
   generalize (tb (e2 qL (eV 6) (eN eW (aCons (eV 4) aNil))))=cc,bS re=rl,bS ts=tl,bX ns as=net at *;clear I0 Hg uK eP mW h hB hg;walk_at "mix"
  ·have ln:eW [.lst (bS re)]=sI (re.length:Int):=(ym _).trans (by unfold bS;rw[bQ]);have hk:¬(k:Int)<(re.length:Int):=by have hc:(((eW [.lst (bS re)]).bind λy=>qL (.int (k:Int)) y).bind CA)=some false:=hc;rw[ln]at hc;have hc:(qL (.int (k:Int)) (.int (re.length:Int))).bind CA=some false:=hc;rw[zdm]at hc;have hc:some (decide ((k:Int)<(re.length:Int)))=some false:=hc;exact of_decide_eq_false (Option.some.inj hc)
   have C3:k=re.length:=by have:=hb.le;omega
   subst C3;exact hb.closed TL hb.hd Ga Hi rfl
 ·left;refine⟨w,?_,hr⟩
  unfold d6 iy;generalize (tb (e2 qL (eV 6) (eN eW (aCons (eV 4) aNil))))=cc,bS w=wl,bS ts=tl,bX ns as=net at *;clear I0 Hg uK eP mW h hB hg hr n1 z0;walk_at "mix"
theorem Qc {α:Type}(f:α->D):∀(xs:List α) (k:Nat),hE k (xs.map f)=(xs.zipIdx k).map λp=>D.tup [.int (p.2:Int),f p.1]
 |[],_=>rfl
 |x::xs,k=>by rw[ck,Bo,ck];show D.tup [.int (k:Int),f x]::hE (k+1) (xs.map f)=_;rw[Qc f xs (k+1)]
theorem O0 (n:Nat)(f:Nat->D):hE 0 ((bR n).map f)=(bR n).map λ(i:Nat)=>D.tup [.int (i:Int),f i]:=by
 rw[Qc];apply mC;intro i;rw[cu,cu,List.getElem?_zipIdx];by_cases hi:i<n
 ·rw[eQ hi];simp
 ·rw[nR (by rw[cE];omega)];rfl
theorem Wn {xs pre post:List Nat}{x:Nat}(hs:xs.Pairwise (· < ·))(h:xs=pre++x::post):∀y∈xs,y<x->y∈pre:=by
 intro y hy oU;rw[h]at hy hs;rcases cA.mp hy with hy|hy
 ·exact hy
 ·rcases bY.mp hy with rfl|hy
  ·omega
  ·have:=(List.pairwise_cons.mp (List.pairwise_append.mp hs).2.1).1 y hy;omega
noncomputable def yH (pl:Nat->Int)(B:Nat)(as:List eA)(g:Nat):Bool:=n8 g ((yT pl B as).map λn=>((aN as n).s,(aN as n).g)) 9 g
theorem JU (h:gQ mv as)(hm:mv<=8)(g:Nat):yH pl B as g=true↔∃w,w≠[]/\(∀n∈w,n∈yT pl B as)/\kX (λn=>(aN as n).s) (λn=>(aN as n).g) g w g :=
 X8 (mv:=mv) (λn hn=>(h.right _ (cJ.mpr ⟨n,yr (uw.mp hn).1⟩)).g) (by omega)
theorem Ma {g:Nat}(h:gQ mv as)(hB:B<=1000000000000)(hm:mv<=8)(hg:g<mv):(yH pl B as g=true/\∃w,d6 [dC (bX ns as) mv pl B,.int (g:Int)]=sL w)\/(yH pl B as g=false/\d6 [dC (bX ns as) mv pl B,.int (g:Int)]=some .non):=by
 rcases MF (ns:=ns) (pl:=pl) h hB hg with⟨w,h1,h2,h3,h4,_⟩|⟨h1,h2⟩
 ·exact .inl ⟨(JU h hm g).mpr ⟨w,h2,h3,h4⟩,_,h1⟩
 ·refine .inr ⟨?_,h1⟩;cases hk:yH pl B as g with
  |false=>rfl
  |true=>obtain⟨w,w1,w2,w3⟩:=(JU h hm g).mp hk;exact absurd w3 (h2 w w1 w2)
structure Nw (R mv:Nat)(kb:Nat->Bool)(U:Nat->Nat->Int)(r g:Nat):Prop where
 ir:r<R
 ig:g<mv
 ik:kb g=true
 ip:0<U r g
 ib:∀r',r'<r->∀g',g'<mv->kb g'=true->¬0<U r' g'
 ic:∀g',g'<g->kb g'=true->¬0<U r g'
theorem Wo (h:gQ mv as)(hn:ns.length=mv)(hB:B<=1000000000000)(hm:mv<=8)(r:L3.Env)(h0:r[0]?.join=some (dC (bX ns as) mv pl B)):nZ r=sL (bS ((bR mv).filter (yH pl B as))):=by
 have e0:eV 0 r=_:=h0;have ln:eN eW (aCons (e1 (dq [4] "names") (e1 (dq [5] "net") (eV 0))) aNil) r=sI (mv:Int):=by unfold eN aCons aNil e1;rw[e0];show eW [.lst ns]=_;rw[ym,hn]
 refine xh (λ(t:Nat)=>D.int (t:Int)) (yH pl B as) (λ(n:Nat)=>D.int (n:Int)) (bR mv) (u7 ln (by omega)) (by rw[cE];omega) λn Bd=>⟨_,rfl,?_,λ_=>rfl⟩;have e9:eE r [0]=[some (dC (bX ns as) mv pl B)]:=by unfold eE;simp[h0]
 rw[e9];rcases Ma (ns:=ns) (pl:=pl) h hB hm (ce.mp Bd)with⟨x1,w,x2⟩|⟨x1,x2⟩
 ·rw[x1];generalize dC (bX ns as) mv pl B=tt at *;clear e9 h0 e0 ln Bd h hn hB hm x1;walk_at "mix"
 ·rw[x1];generalize dC (bX ns as) mv pl B=tt at *;clear e9 h0 e0 ln Bd h hn hB hm x1;walk_at "mix"
variable {U:Nat->Nat->Int}
theorem Zp {R:Nat}(h:gQ mv as)(hn:ns.length=mv)(hB:B<=1000000000000)(hm:mv<=8) :
  (∃r g,Nw R mv (yH pl B as) U r g/\iQ [dC (bX ns as) mv pl B,.lst (cQ mv R λr g=>some (U r g))]=some (.tup [.str "ever",.int (g:Int),.int (r:Int)])) \/
  ((∀r,r<R->∀g,g<mv->yH pl B as g=true->¬0<U r g)/\iQ [dC (bX ns as) mv pl B,.lst (cQ mv R λr g=>some (U r g))]=some .non):=by
 have kk:=Wo (ns:=ns) (pl:=pl) h hn hB hm [some (dC (bX ns as) mv pl B),sL (cQ mv R λr g=>some (U r g)),none,none,none,none] rfl;have HQ:((bR mv).filter (yH pl B as)).Pairwise (· < ·):=mH.filter _ List.pairwise_lt_range;have mem:∀g,g∈(bR mv).filter (yH pl B as)↔g<mv/\yH pl B as g=true:=λg=>by rw[cI,ce]
 generalize dC (bX ns as) mv pl B=tt,yH pl B as=kb at *;generalize (bR mv).filter kb=ks at *;have inner:∀(r:Nat) (y5:Option D),r<R->(( ∀g∈ks,¬0<U r g)/\∃Js,jY [some tt,sL (cQ mv R λr g=>some (U r g)),sL (bS ks),sI (r:Int),sL (eR mv λg=>some (U r g)),y5]=some (.nx [some tt,sL (cQ mv R λr g=>some (U r g)),sL (bS ks),sI (r:Int),sL (eR mv λg=>some (U r g)),Js])) \/
   ∃g,g∈ks/\0<U r g/\(∀g'∈ks,g'<g->¬0<U r g')/\jY [some tt,sL (cQ mv R λr g=>some (U r g)),sL (bS ks),sI (r:Int),sL (eR mv λg=>some (U r g)),y5]=some (.rt (.tup [.str "ever",.int (g:Int),.int (r:Int)])):=by
  intro r y5 hr;have lp:=uv (g:=gV 5) (b:=jX) (λ(g:Nat)=>D.int (g:Int)) (λρ=>∃y5,ρ=[some tt,sL (cQ mv R λr g=>some (U r g)),sL (bS ks),sI (r:Int),sL (eR mv λg=>some (U r g)),y5])
   (λg=>¬0<U r g) (λg w=>0<U r g/\w=.tup [.str "ever",.int (g:Int),.int (r:Int)]) ks [some tt,sL (cQ mv R λr g=>some (U r g)),sL (bS ks),sI (r:Int),sL (eR mv λg=>some (U r g)),y5] ⟨_,rfl⟩ (by
   rintro g hg ρ ⟨z5,rfl⟩;refine⟨[some tt,sL (cQ mv R λr g=>some (U r g)),sL (bS ks),sI (r:Int),sL (eR mv λg=>some (U r g)),sI (g:Int)],rfl,?_⟩;have i1:ed (.lst (eR mv λg=>some (U r g))) (.int (g:Int))=sI (U r g):=MW (n:=mv) (λg=>some (U r g)) ((mem g).mp hg).1;by_cases hp:0<U r g
   ·have Tn:U r g > 0:=hp;refine .inr ⟨_,⟨hp,rfl⟩,?_⟩;generalize (cQ mv R λr g=>some (U r g))=rs,(eR mv λg=>some (U r g))=vs,bS ks=kl at *;unfold jX;clear kk HQ mem hg hr h hn hB hm hp;walk_at "mix"
   ·have Tn:¬U r g > 0:=hp;refine .inl ⟨hp,[some tt,sL (cQ mv R λr g=>some (U r g)),sL (bS ks),sI (r:Int),sL (eR mv λg=>some (U r g)),sI (g:Int)],?_,_,rfl⟩;generalize (cQ mv R λr g=>some (U r g))=rs,(eR mv λg=>some (U r g))=vs,bS ks=kl at *;unfold jX;clear kk HQ mem hg hr h hn hB hm hp;walk_at "mix")
  rcases lp with⟨h1,ρ',h2,Js,rfl⟩|⟨pre,g,post,w,h1,h2,⟨h3,rfl⟩,h4⟩
  ·exact .inl ⟨h1,Js,h2⟩
  ·exact .inr ⟨g,by rw[h1];simp,h3,λg' G5 oU=>h2 g' (Wn HQ h1 g' G5 oU),h4⟩
 have lp:=uv (g:=gT (gsCons (gV 3) (gsCons (gV 4) gsNil))) (b:=jY) (λ(r:Nat)=>D.tup [.int (r:Int),.lst (eR mv λg=>some (U r g))]) (λρ=>∃y3 y4 y5,ρ=[some tt,sL (cQ mv R λr g=>some (U r g)),sL (bS ks),y3,y4,y5])
  (λr=>∀g∈ks,¬0<U r g) (λr w=>∃g,g∈ks/\0<U r g/\(∀g'∈ks,g'<g->¬0<U r g')/\w=.tup [.str "ever",.int (g:Int),.int (r:Int)]) (bR R) [some tt,sL (cQ mv R λr g=>some (U r g)),sL (bS ks),none,none,none] ⟨_,_,_,rfl⟩ (by
  rintro r hr ρ ⟨y3,y4,y5,rfl⟩;refine⟨[some tt,sL (cQ mv R λr g=>some (U r g)),sL (bS ks),sI (r:Int),sL (eR mv λg=>some (U r g)),y5],rfl,?_⟩;rcases inner r y5 (ce.mp hr)with⟨h1,Js,h2⟩|⟨g,h1,h2,h3,h4⟩
  ·exact .inl ⟨h1,_,h2,_,_,_,rfl⟩
  ·exact .inr ⟨_,⟨g,h1,h2,h3,rfl⟩,h4⟩)
 have en:hE 0 (cQ mv R λr g=>some (U r g))=(bR R).map λ(r:Nat)=>D.tup [.int (r:Int),.lst (eR mv λg=>some (U r g))]:=O0 R λr=>D.lst (eR mv λg=>some (U r g));rw[←en]at lp;rcases lp with⟨h1,ρ',h2,y3,y4,y5,rfl⟩|⟨pre,r,post,w,h1,h2,⟨g,a1,a2,a3,rfl⟩,h4⟩
 ·right;refine⟨λr hr g hg hk=>h1 r (ce.mpr hr) g ((mem g).mpr ⟨hg,hk⟩),?_⟩
  generalize (cQ mv R λr g=>some (U r g))=rs,bS ks=kl at *;unfold iQ;clear HQ mem inner en h1 h hn hB hm;walk_at "mix"
 ·left;obtain⟨hr,uJ⟩:=Vb h1
  refine⟨r,g,⟨hr,((mem g).mp a1).1,((mem g).mp a1).2,a2,λr' IZ g' G5 yB=>h2 r' (uJ r' IZ) g' ((mem g').mpr ⟨G5,yB⟩),λg' G5 yB=>a3 g' ((mem g').mpr ⟨by have:=((mem g).mp a1).1;omega,yB⟩) G5⟩,?_⟩;generalize (cQ mv R λr g=>some (U r g))=rs,bS ks=kl at *;unfold iQ;clear HQ mem inner en h1 h2 a1 a2 a3 hr uJ h hn hB hm;walk_at "mix"
noncomputable def J3 (most mv:Nat)(U:Nat->Nat->Int)(puts:List Fl)(x:Nat):Prop:=(x<most/\∃g,g<mv/\0<U x g)\/(most<=x/\∃q∈puts,0<q.2.2/\q.2.1=x)
noncomputable def RR (most mv:Nat)(U:Nat->Nat->Int)(puts:List Fl)(m:Int):Prop:=-1<=m/\(∀x:Nat,J3 most mv U puts x->(x:Int)<=m)/\(m = -1\/∃x:Nat,J3 most mv U puts x/\m=(x:Int))
theorem QG (zQ:1<=mv)(u:Nat->Int):∃M,oX [.lst (eR mv λg=>some (u g))]=sI M/\decide (M > 0)=(bR mv).any λg=>decide (0<u g):=by
 have hi:iC (eR mv λg=>some (u g))=some ((bR mv).map u):=x9 u (bR mv);obtain⟨M,hM⟩:∃M,vT ((bR mv).map u)=some M:=by
  cases hc:(bR mv).map u with
  |nil=>have:=congrArg jT hc;rw[bQ,cE]at this;simp at this;omega
  |cons x xs=>exact⟨_,rfl⟩
 obtain⟨h1,h2⟩:=uc hM;refine⟨M,?_,?_⟩
 ·show(iC _).bind _=_;rw[hi];show(vT ((bR mv).map u)).bind _=_;rw[hM];rfl
 ·obtain⟨g,hg,he⟩:=cK.mp h1;by_cases hp:M > 0
  ·rw[decide_eq_true hp];exact(qQ.mpr ⟨g,hg,decide_eq_true (by rw[he];exact hp)⟩).symm
  ·rw[decide_eq_false hp];refine(pS.mpr λx hx=>?_).symm;have:=h2 (u x) (cK.mpr ⟨x,hx,rfl⟩);rw[decide_eq_true_iff];omega
variable {most:Nat}
theorem ZX (zQ:1<=mv)(tR:most<=1000)(r:L3.Env)(h3:r[3]?.join=sL (cQ mv most λr g=>some (U r g))):vV r=sL (bS ((bR most).filter λi=>(bR mv).any λg=>decide (0<U i g))):=by
 have e3:eV 3 r=_:=h3;refine xh (λ(i:Nat)=>D.tup [.int (i:Int),.lst (eR mv λg=>some (U i g))]) (λi=>(bR mv).any λg=>decide (0<U i g)) (λ(n:Nat)=>D.int (n:Int)) (bR most) ?_ (by rw[cE];omega) λi _=>⟨_,rfl,?_,λ_=>rfl⟩
 ·show((aCons (eV 3) aNil) r).bind _=_;have:(aCons (eV 3) aNil) r=some [.lst (cQ mv most λr g=>some (U r g))]:=by unfold aCons aNil;rw[e3];rfl
  rw[this];show some (hE 0 (cQ mv most λr g=>some (U r g)))=_;exact congrArg some (O0 most λr=>D.lst (eR mv λg=>some (U r g)))
 ·obtain⟨M,q1,q2⟩:=QG zQ (U i);rw[←q2];show tb (e2 qX (eN oX (aCons (eV 1) aNil)) (eC (.int 0))) [sI (i:Int),sL (eR mv λg=>some (U i g))]=_;generalize (eR mv λg=>some (U i g))=vs at *;clear q2 h3 e3 zQ tR;walk_at "mix"
theorem Xp (hl:puts.length<=1000)(r:L3.Env)(h1:r[1]?.join=sL (puts.map fR))(h2:r[2]?.join=sI (most:Int)):rX r=sL (bS ((puts.filter λq=>decide (0<q.2.2)&&decide (most<=q.2.1)).map λq=>q.2.1)):=by
 have:rX r=sL ((puts.filter λq=>decide (0<q.2.2)&&decide (most<=q.2.1)).map λq=>D.int (q.2.1:Int)):=by
  refine xh fR (λq=>decide (0<q.2.2)&&decide (most<=q.2.1)) (λq=>D.int (q.2.1:Int)) puts (by unfold lsD;have:eV 1 r=_:=h1;rw[this];rfl) (by omega) λq _=>⟨_,rfl,?_,λ_=>rfl⟩;have e9:eE r [2]=[sI (most:Int)]:=by unfold eE;simp[h2]
  rw[e9];show bAnd (tb (e2 qX (eV 2) (eC (.int 0)))) (tb (e2 Bz (eV 1) (eV 3))) [sI (q.1:Int),sI (q.2.1:Int),sI q.2.2,sI (most:Int)]=_;clear e9 h1 h2 hl;by_cases c1:0<q.2.2
  ·have RX:q.2.2 > 0:=c1;rw[decide_eq_true c1];by_cases c2:most<=q.2.1
   ·have RY:(q.2.1:Int) >= (most:Int):=by omega
    rw[decide_eq_true c2];clear c1 c2;walk_at "mix"
   ·have RY:¬(q.2.1:Int) >= (most:Int):=by omega
    rw[decide_eq_false c2];clear c1 c2;walk_at "mix"
  ·have RX:¬q.2.2 > 0:=c1;rw[decide_eq_false c1];clear c1;walk_at "mix"
 rw[this];unfold bS;rw[d7];rfl
theorem Xq (X:List Nat):∃m:Int,tY (.lst (bS X)) (.int (-1))=sI m/\-1<=m/\(∀x∈X,(x:Int)<=m)/\(m = -1\/∃x∈X,m=(x:Int)):=by
 have hi:iC (bS X)=some (X.map λ(x:Nat)=>(x:Int)):=x9 (λ(x:Nat)=>(x:Int)) X;cases X with
 |nil=>exact⟨-1,rfl,by omega,λx hx=>(by cases hx),.inl rfl⟩
 |cons x X=>
  obtain⟨M,hM⟩:∃M,vT ((x::X).map λ(x:Nat)=>(x:Int))=some M:=⟨_,rfl⟩;obtain⟨h1,h2⟩:=uc hM;obtain⟨y,hy,he⟩:=cK.mp h1;refine⟨M,?_,by omega,λz hz=>h2 _ (cK.mpr ⟨z,hz,rfl⟩),.inr ⟨y,hy,he.symm⟩⟩;have e:tY (.lst (bS (x::X))) (.int (-1))=(iC (bS (x::X))).bind λns=>match ns with|[]=>(sI (-1))|_=>(vT ns).bind λM=>(sI M):=rfl
  rw[e,hi,de,ck];rw[ck]at hM;show(vT ((x:Int)::X.map λ(x:Nat)=>(x:Int))).bind _=_;rw[hM];rfl
theorem Q6 (h:gQ mv as)(hn:ns.length=mv)(hB:B<=1000000000000)(hm:mv<=8)(tR:most<=1000)(jB:puts.length<=1000)
  (N7:nW [dC (bX ns as) mv pl B,.int (most:Int),.lst (puts.map fR),.non]=sL (cQ mv most λr g=>some (U r g))) :
  (∃r g,Nw most mv (yH pl B as) U r g/\ni [dC (bX ns as) mv pl B,.lst (puts.map fR),.int (most:Int)]=some (.tup [.str "ever",.int (g:Int),.int (r:Int)])) \/
  ((∀r,r<most->∀g,g<mv->yH pl B as g=true->¬0<U r g)/\∃m:Int,RR most mv U puts m/\ni [dC (bX ns as) mv pl B,.lst (puts.map fR),.int (most:Int)]=some (if m+1+(dep as:Int)<=(most:Int)then .tup [.str "died",.int (m+1)]else .non)):=by
 rcases Zp (ns:=ns) (R:=most) (pl:=pl) (U:=U) h hn hB hm with⟨r,g,hf,h1⟩|⟨yD,h1⟩
 ·refine .inl ⟨r,g,hf,?_⟩;generalize dC (bX ns as) mv pl B=tt,(cQ mv most λr g=>some (U r g))=rs,puts.map fR=pp at *;unfold ni;clear hf h hn hB hm tR jB;walk_at "mix"
 ·refine .inr ⟨yD,?_⟩;have q1:=ZX (mv:=mv) (most:=most) (U:=U) h.pos tR [some (dC (bX ns as) mv pl B),sL (puts.map fR),sI (most:Int),sL (cQ mv most λr g=>some (U r g)),some .non,sL (bS ((puts.filter λq=>decide (0<q.2.2)&&decide (most<=q.2.1)).map λq=>q.2.1)),none,none] rfl;have q2:=Xp (most:=most) jB [some (dC (bX ns as) mv pl B),sL (puts.map fR),sI (most:Int),sL (cQ mv most λr g=>some (U r g)),some .non,none,none,none] rfl rfl;have x1:∀x,x∈((bR most).filter λi=>(bR mv).any λg=>decide (0<U i g))++((puts.filter λq=>decide (0<q.2.2)&&decide (most<=q.2.1)).map λq=>q.2.1)↔J3 most mv U puts x:=by
   intro x;rw[cA,cI,ce,qQ,cK];constructor
   ·rintro(⟨a1,g,a2,a3⟩|⟨q,a1,a2⟩)
    ·exact .inl ⟨a1,g,ce.mp a2,of_decide_eq_true a3⟩
    ·obtain⟨b1,b2⟩:=cI.mp a1;rw[c7,decide_eq_true_iff,decide_eq_true_iff]at b2;exact .inr ⟨by rw[←a2];exact b2.2,q,b1,b2.1,a2⟩
   ·rintro(⟨a1,g,a2,a3⟩|⟨a1,q,a2,a3,a4⟩)
    ·exact .inl ⟨a1,g,ce.mpr a2,decide_eq_true a3⟩
    ·exact .inr ⟨q,cI.mpr ⟨a2,by rw[c7,decide_eq_true_iff,decide_eq_true_iff];exact⟨a3,by rw[a4];exact a1⟩⟩,a4⟩
  have l1:((bR most).filter λi=>(bR mv).any λg=>decide (0<U i g)).length<=1000:=dA (kC _ _) (by rw[cE];exact tR);have l2:((puts.filter λq=>decide (0<q.2.2)&&decide (most<=q.2.1)).map λq=>q.2.1).length<=1000:=by rw[bQ];exact dA (kC _ _) jB
  generalize ((bR most).filter λi=>(bR mv).any λg=>decide (0<U i g))=X1,((puts.filter λq=>decide (0<q.2.2)&&decide (most<=q.2.1)).map λq=>q.2.1)=X2 at *;obtain⟨m,m1,m2,m3,m4⟩:=Xq (X1++X2);refine⟨m,⟨m2,λx hx=>m3 x ((x1 x).mpr hx),m4.imp id λ⟨x,hx,e⟩=>⟨x,(x1 x).mp hx,e⟩⟩,?_⟩;have ad:gb (.lst (bS X1)) (.lst (bS X2))=sL (bS (X1++X2)):=by show(if _ then _ else _)=_;rw[if_pos (by unfold bS;rw[bQ,bQ];omega)];unfold bS;rw[dU]
  have mo:=Px (ns:=ns) (as:=as) (by have:=h.len;omega);have fT:=Gn (bX ns as) mv pl B;have n0:tT true .non .non=some (.bl false):=rfl;generalize dC (bX ns as) mv pl B=tt,(cQ mv most λr g=>some (U r g))=rs,puts.map fR=pp,bS (X1++X2)=xa,bS X1=xb,bS X2=xc at *;generalize bX ns as=net,(dep as:Int)=dd at *;unfold ni;clear yD x1 l1 l2 m2 m3 m4 h hn hB hm tR jB;by_cases mW:m+1+dd<=(most:Int)
  ·rw[if_pos mW];walk_at "mix"
  ·rw[if_neg mW];walk_at "mix"
theorem zs8 {fs:List Fl}{q:Fl}(h:q∈fs):oC (some q.2.2) (fl fs q.1 q.2.1):=by
 induction fs with
 |nil=>cases h
 |cons p fs ih=>
  rw[QC];rcases bY.mp h with rfl|h
  ·rw[if_pos ⟨rfl,rfl⟩];exact MD _ _
  ·exact w9 (ih h) (ME _ _)
theorem Qd {bs:List eA}(h:Run bs mv depth rounds (λ_ _=>some 0) (λg r=>mx (some 0) (fl puts g r)) Y){q:Fl}(hq:q∈puts)(hg:q.1<mv)(hr:q.2.1<rounds){u:Int}(hu:Y (depth+q.2.1) q.1=some u):q.2.2<=u:=by have h1:=h.rc q.2.1 hr q.1 hg;have h2:oC (some q.2.2) (tm bs Y (depth+q.2.1) q.1 (mx (some 0) (fl puts q.1 q.2.1))):=Mx (λa=>lt a.t (Y (depth+q.2.1-a.b) a.s)) _ _ (.inl (w9 (zs8 hq) (ME _ _)));rw[←h1,hu]at h2;exact Nl h2
noncomputable def my (as:List eA):List Nat->Nat
 |[]=>0
 |n::w=>(aN as n).b+my as w
theorem Xr {f:Nat->Nat->T}(hok:gQ mv as)(hY:Run (lat pl B as []) mv (dep as) rounds (λ_ _=>some 0) f Y)(hU:∀r,r<rounds->∀g,g<mv->Y (dep as+r) g=some (U r g))
  {n:Nat} (hn:n∈yT pl B as) {i:Nat} (hi:i+(aN as n).b<rounds):U i (aN as n).s<=U (i+(aN as n).b) (aN as n).g:=by
 obtain⟨h1,h2⟩:=uw.mp hn;have Ay:aN as n∈as:=cJ.mpr ⟨n,yr h1⟩;have sS:({ aN as n with t:=- lz pl B (aN as n) }:eA)∈lat pl B as []:=by rw[Zo];exact cK.mpr ⟨_,Ay,rfl⟩
 have h3:=hY.rc (i+(aN as n).b) hi (aN as n).g (hok.right _ Ay).g;have h4:oC (some (U i (aN as n).s)) (tm (lat pl B as []) Y (dep as+(i+(aN as n).b)) (aN as n).g (f (aN as n).g (i+(aN as n).b))):=by refine Mx (λa=>lt a.t (Y (dep as+(i+(aN as n).b)-a.b) a.s)) _ _ (.inr ⟨_,cI.mpr ⟨sS,decide_eq_true rfl⟩,?_⟩);show oC _ (lt (- lz pl B (aN as n)) (Y (dep as+(i+(aN as n).b)-(aN as n).b) (aN as n).s));rw[show dep as+(i+(aN as n).b)-(aN as n).b=dep as+i by omega,hU i (by omega) _ (hok.right _ Ay).s,h2];exact jo (by omega)
 rw[←h3,hU _ hi _ (hok.right _ Ay).g]at h4;exact Nl h4
theorem QH {as:List eA}{pl:Nat->Int}{B mv rounds:Nat}{f:Nat->Nat->T}{Y:Nat->Nat->T}{U:Nat->Nat->Int}(hok:gQ mv as)(hY:Run (lat pl B as []) mv (dep as) rounds (λ_ _=>some 0) f Y)(hU:∀r,r<rounds->∀g,g<mv->Y (dep as+r) g=some (U r g)) :
  ∀(w:List Nat) (x y i:Nat),(∀n∈w,n∈yT pl B as)->kX (λn=>(aN as n).s) (λn=>(aN as n).g) x w y->i+my as w<rounds->U i x<=U (i+my as w) y
 |[],x,y,i,_,h,_=>by have h:x=y:=h;rw[h];exact gZ _
 |n::w,x,y,i,hw,h,hi=>by have hi:i+((aN as n).b+my as w)<rounds:=hi;have h1:=Xr hok hY hU (hw n bH) (i:=i) (by omega);have h2:=QH hok hY hU w _ y (i+(aN as n).b) (λm hm=>hw m (bK _ hm)) h.2 (by omega);have e:(aN as n).s=x:=h.1;rw[e]at h1;show U i x<=U (i+((aN as n).b+my as w)) y;rw[←Nat.add_assoc];exact wN h1 h2
theorem QI (hok:gQ mv as){w:List Nat}{g:Nat}(hl:∀n∈w,n<as.length)(hw:kX (λn=>(aN as n).s) (λn=>(aN as n).g) g w g)(nU:w≠[]):1<=my as w:=by
 obtain⟨rank,hr⟩:=hok.rank;have main:∀(w:List Nat) (x y:Nat),(∀n∈w,n<as.length)->kX (λn=>(aN as n).s) (λn=>(aN as n).g) x w y->my as w=0->(rank x<=rank y/\(w≠[]->rank x<rank y)):=by
  intro w;induction w with
  |nil=>intro x y _ h _;have h:x=y:=h;rw[h];exact⟨b7 _,λz=>absurd rfl z⟩
  |cons n w ih=>intro x y hl h hs;have hs:(aN as n).b+my as w=0:=hs;have h1:=hr (aN as n) (cJ.mpr ⟨n,yr (hl n bH)⟩) (by omega);have h2:=(ih _ y (λm hm=>hl m (bK _ hm)) h.2 (by omega)).1;have e:(aN as n).s=x:=h.1;rw[e]at h1;dsimp only at h2;exact⟨by omega,λ_=>by omega⟩
 by_cases h0:my as w=0
 ·have:=(main w g g hl hw h0).2 nU;omega
 ·omega
theorem ZY (f:α->Int)(xs:List α):wK [.lst (xs.map λx=>D.int (f x))]=some (.int (xs.map f).sum):=by show(iC _).bind _=_;rw[x9 f xs];rfl
theorem JG (as:List eA):∀w:List Nat,(w.map λn=>((aN as n).b:Int)).sum=(my as w:Int)
 |[]=>rfl
 |n::w=>by rw[ck,di,JG as w];show _=(((aN as n).b+my as w:Nat):Int);omega
theorem Qe {α:Type}{g:D->L3.Env->Option L3.Env}{b:qW}(enc:α->D)(I:L3.Env->Prop)(d:D)(x:α)(post:List α)(hx:∀ρ,I ρ->∃ρ1 ρ2,g (enc x) ρ=some ρ1/\b ρ1=some (.xc ρ2 d)/\I ρ2):∀(pre:List α) (ρ:L3.Env),I ρ->(∀y∈pre,∀ρ,I ρ->∃ρ1 ρ2,g (enc y) ρ=some ρ1/\b ρ1=some (.ok (.nx ρ2))/\I ρ2)->∃ρ',xY g b ((pre++x::post).map enc) ρ=some (.xc ρ' d)/\I ρ'
 |[],ρ,h,_=>by obtain⟨ρ1,ρ2,h1,h2,h3⟩:=hx ρ h;refine⟨ρ2,?_,h3⟩;show(g (enc x) ρ).bind _=_;rw[h1,de,h2];rfl
 |y::pre,ρ,h,st=>by obtain⟨ρ1,ρ2,h1,h2,h3⟩:=st y bH ρ h;obtain⟨ρ',h4,h5⟩:=Qe enc I d x post hx pre ρ2 h3 λz hz=>st z (bK _ hz);refine⟨ρ',?_,h5⟩;show(g (enc y) ρ).bind _=_;rw[h1,de,h2];exact h4
theorem Qf {α:Type}{g:D->L3.Env->Option L3.Env}{b:qW}(enc:α->D)(I:L3.Env->Prop):∀(xs:List α) (ρ:L3.Env),I ρ->(∀y∈xs,∀ρ,I ρ->∃ρ1 ρ2,g (enc y) ρ=some ρ1/\b ρ1=some (.ok (.nx ρ2))/\I ρ2)->∃ρ',xY g b (xs.map enc) ρ=some (.ok (.nx ρ'))/\I ρ'
 |[],ρ,h,_=>⟨ρ,rfl,h⟩
 |y::xs,ρ,h,st=>by obtain⟨ρ1,ρ2,h1,h2,h3⟩:=st y bH ρ h;obtain⟨ρ',h4,h5⟩:=Qf enc I xs ρ2 h3 λz hz=>st z (bK _ hz);refine⟨ρ',?_,h5⟩;show(g (enc y) ρ).bind _=_;rw[h1,de,h2];exact h4
theorem Ph {α:Type}(p:α->Bool):∀xs:List α,(∀x∈xs,p x=true)\/∃pre x post,xs=pre++x::post/\(∀y∈pre,p y=true)/\p x=false
 |[]=>.inl λx h=>(by cases h)
 |x::xs=>by
  cases e:p x with
  |false=>exact .inr ⟨[],x,xs,rfl,λy h=>(by cases h),e⟩
  |true=>
   rcases Ph p xs with h|⟨pre,z,post,h1,h2,h3⟩
   ·exact .inl λy hy=>by
     rcases bY.mp hy with rfl|hy
     ·exact e
     ·exact h y hy
   ·exact .inr ⟨x::pre,z,post,by rw[h1];rfl,λy hy=>by
     rcases bY.mp hy with rfl|hy
     ·exact e
     ·exact h2 y hy,h3⟩
theorem ZZ {g:Nat}(h:g<=1000):xX (.int (g:Int))=sI (g:Int):=by show(if _ then _ else _)=_;rw[if_pos];have:=Nat.log2_le_self ((g:Int).natAbs);omega
noncomputable def Iq (ns:List D)(as:List eA)(mv B:Nat)(pl:Nat->Int)(ρ:L3.Env):Prop:=∃x4,ρ=[some (dC (bX ns as) mv pl B),some (bX ns as),sL (eF mv pl),sI (B:Int),x4]
theorem MG {n:Nat}(h:gQ mv as)(hB:B<=1000000000000)(hn:n<as.length){ρ:L3.Env}(hI:Iq ns as mv B pl ρ):∃ρ1,gV 4 (.int (n:Int)) ρ=some ρ1/\Iq ns as mv B pl ρ1/\fH ρ1=if lz pl B (aN as n)<0 then some (.xc ρ1 (.exc 9 ["arrow"] [.int (n:Int)]))else some (.ok (.nx ρ1)):=by
 obtain⟨x4,rfl⟩:=hI;refine⟨[some (dC (bX ns as) mv pl B),some (bX ns as),sL (eF mv pl),sI (B:Int),sI (n:Int)],rfl,⟨_,rfl⟩,?_⟩;have hl:=h.len;have ha:=yr hn;have hm:aN as n∈as:=fk ha;have s1:=qq (ns:=ns) (pl:=pl) hB (h.right _ hm).s (h.right _ hm).g ha;have s2:=qr (m:="slack") (f:=dL) (net:=bX ns as) (mv:=mv) (B:=B) (pl:=pl) (ds:=[.int (n:Int)]) (by decide +kernel);rw[s1]at s2;have fm:=ZZ (g:=n) (by omega);by_cases hz:lz pl B (aN as n)<0
 ·rw[if_pos hz];generalize dC (bX ns as) mv pl B=tb',lz pl B (aN as n)=v at *;generalize bX ns as=net,eF mv pl=vs at *;unfold fH;clear s1 h hB ha hm hn hl;walk_at "mix"
 ·rw[if_neg hz];generalize dC (bX ns as) mv pl B=tb',lz pl B (aN as n)=v at *;generalize bX ns as=net,eF mv pl=vs at *;unfold fH;clear s1 h hB ha hm hn hl;walk_at "mix"
theorem Xt (h:gQ mv as)(hB:B<=1000000000000) :
  ((∀n,n<as.length->0<=lz pl B (aN as n))/\gu 5 [bX ns as,.lst (eF mv pl),.int (B:Int)]=some (.ok (dC (bX ns as) mv pl B)))\/((∃n,n<as.length/\lz pl B (aN as n)<0)/\∃n:Nat,gu 5 [bX ns as,.lst (eF mv pl),.int (B:Int)]=some (.xc (.exc 9 ["arrow"] [.int (n:Int)]))):=by
 have eP:=h.len;have r1:kT [.int (as.length:Int)]=some ((bR as.length).map λ(n:Nat)=>D.int (n:Int)):=by rw[vg (by omega) (by omega),mG];simp[iT]
 have f4:dq [4] "arrows" (bX ns as)=sL (as.map cS):=rfl;have l4:eW [.lst (as.map cS)]=sI (as.length:Int):=(ym _).trans (by rw[bQ]);have s1:jE [5] "net" (eV 1) [some (D.obj 5 [] []),some (bX ns as),sL (eF mv pl),sI (B:Int),none]=some (.nx [some (D.obj 5 ["net"] [bX ns as]),some (bX ns as),sL (eF mv pl),sI (B:Int),none]):=rfl;have s2:jE [5] "times" (eN oN (aCons (eV 2) aNil)) [some (D.obj 5 ["net"] [bX ns as]),some (bX ns as),sL (eF mv pl),sI (B:Int),none]=some (.nx [some (D.obj 5 ["net","times"] [bX ns as,.lst (eF mv pl)]),some (bX ns as),sL (eF mv pl),sI (B:Int),none]):=rfl;have s3:jE [5] "beat" (eV 3) [some (D.obj 5 ["net","times"] [bX ns as,.lst (eF mv pl)]),some (bX ns as),sL (eF mv pl),sI (B:Int),none]=some (.nx [some (dC (bX ns as) mv pl B),some (bX ns as),sL (eF mv pl),sI (B:Int),none]):=rfl;rcases Ph (λn=>decide (¬lz pl B (aN as n)<0)) (bR as.length)with hg|⟨pre,n,post,e1,e2,e3⟩
 ·left;refine⟨λn hn=>by have:=of_decide_eq_true (hg n (ce.mpr hn));omega,?_⟩
  obtain⟨ρ',lp,x4,rfl⟩:=Qf (g:=gV 4) (b:=fH) (λ(n:Nat)=>D.int (n:Int)) (Iq ns as mv B pl) (bR as.length) [some (dC (bX ns as) mv pl B),some (bX ns as),sL (eF mv pl),sI (B:Int),none] ⟨_,rfl⟩ λn hn ρ hI=>by obtain⟨ρ1,a1,a2,a3⟩:=MG h hB (ce.mp hn) hI;rw[if_neg (of_decide_eq_true (hg n hn))]at a3;exact⟨ρ1,ρ1,a1,a3,a2⟩
  generalize ((bR as.length).map λ(n:Nat)=>D.int (n:Int))=rg,dC (bX ns as) mv pl B=tb' at *;generalize bX ns as=net,eF mv pl=vs at *;unfold gu C9;clear h hB eP hg;walk_at "mix"
 ·right;have hn:n<as.length:=ce.mp (by rw[e1];simp)
  have hz:lz pl B (aN as n)<0:=by have:=of_decide_eq_false e3;omega
  refine⟨⟨n,hn,hz⟩,n,?_⟩;obtain⟨ρ',lp,x4,rfl⟩:=Qe (g:=gV 4) (b:=fH) (λ(n:Nat)=>D.int (n:Int)) (Iq ns as mv B pl) (.exc 9 ["arrow"] [.int (n:Int)]) n post (λρ hI=>by
   obtain⟨ρ1,a1,a2,a3⟩:=MG h hB hn hI;rw[if_pos hz]at a3;exact⟨ρ1,ρ1,a1,a3,a2⟩) pre [some (dC (bX ns as) mv pl B),some (bX ns as),sL (eF mv pl),sI (B:Int),none] ⟨_,rfl⟩ (λm hm ρ hI=>by
   have uI:m<as.length:=ce.mp (by rw[e1];exact cC _ hm);obtain⟨ρ1,a1,a2,a3⟩:=MG h hB uI hI;rw[if_neg (of_decide_eq_true (e2 m hm))]at a3;exact⟨ρ1,ρ1,a1,a3,a2⟩)
  rw[←e1]at lp;generalize ((bR as.length).map λ(n:Nat)=>D.int (n:Int))=rg,dC (bX ns as) mv pl B=tb' at *;generalize bX ns as=net,eF mv pl=vs at *;unfold gu C9;clear h hB eP e1 e2 e3 hn hz;walk_at "mix"
theorem kX.cut {S G:Nat->Nat}:∀{l m:List Nat} {a c:Nat},kX S G a (l++m) c->∃b,kX S G a l b/\kX S G b m c
 |[],_,a,_,h=>⟨a,rfl,h⟩
 |n::l,m,a,c,h=>by obtain⟨b,h1,h2⟩:=kX.cut (l:=l) h.2;exact⟨b,⟨h.1,h1⟩,h2⟩
theorem kX.turn {x n:Nat}(h:kX S G x R x)(hn:n∈R):∃w,kX S G (S n) w (S n)/\w.Perm R:=by obtain⟨pre,post,rfl⟩:=List.append_of_mem hn;obtain⟨b,h1,h2⟩:=h.cut;have e:S n=b:=h2.1;subst e;exact⟨(n::post)++pre,kX.app h1 h2,List.perm_append_comm⟩
theorem WE {w:List Nat}(h:w.Perm R):my as w=my as R:=by have:=PB (h.map λn=>((aN as n).b:Int));rw[JG,JG]at this;omega
theorem Run.ubF {bs:List eA}{past f:Nat->Nat->T}(hs:∀a∈bs,a.s<mv/\a.b<=depth)(BR:∃rank:Nat->Nat,∀a∈bs,a.b=0->rank a.s<rank a.g)(h1:Run bs mv depth rounds past f Y)(F:Nat->Int)(hp:∀i,i<depth->∀g,g<mv->oC (past i g) (some (F i)))(hf:∀r,r<rounds->∀g,g<mv->oC (f g r) (some (F (depth+r))))
  (hF:∀a∈bs,∀r,F (depth+r-a.b)+a.t<=F (depth+r)):∀i,i<depth+rounds->∀g,g<mv->oC (Y i g) (some (F i)):=by
 obtain⟨rank,yF⟩:=BR;have main:∀n,∀i,i<depth+rounds->i<n->∀k g,g<mv->rank g<k->oC (Y i g) (some (F i)):=by
  intro n;induction n with
  |zero=>intro i _ hi;omega
  |succ n ih=>
   intro i hi sS k;induction k with
   |zero=>intro g _ hk;omega
   |succ k Lv=>
    intro g hg hk;by_cases hd:i<depth
    ·rw[h1.past i hd g hg];exact hp i hd g hg
    ·obtain⟨r,rfl⟩:∃r,i=depth+r:=⟨i-depth,by omega⟩;rw[h1.rc r (by omega) g hg];refine QE (λa=>lt a.t (Y (depth+r-a.b) a.s)) _ _ (hf r (by omega) g hg) λa ha=>?_;have BA:=cI.mp ha;have BC:a.g=g:=by simpa using BA.2
     obtain⟨BS,rS⟩:=hs a BA.1;have Hh:oC (Y (depth+r-a.b) a.s) (some (F (depth+r-a.b))):=by
      by_cases hb:a.b=0
      ·rw[hb,wV];exact Lv a.s BS (by have:=yF a BA.1 hb;rw[BC]at this;omega)
      ·exact ih (depth+r-a.b) (by omega) (by omega) (rank a.s+1) a.s BS (by omega)
     exact w9 (zs6 a.t Hh) (jo (hF a BA.1 r))
 exactλi hi g hg=>main (i+1) i hi (by omega) (rank g+1) g hg (by omega)
theorem zs9 (g w:Nat)(A:Int)(x r:Nat):fl [(g,w,A)] x r=if g=x/\w=r then some A else none:=by
 rw[QC];by_cases h:g=x/\w=r
 ·rw[if_pos h];rfl
 ·rw[if_neg h];rfl
variable {A:Int}{cs:List eA}
theorem Q7 {g w:Nat}(ok:gQ mv cs)(hY:Run (lat pl B cs []) mv (dep cs) rounds (λ_ _=>some 0) (λx r=>mx (some 0) (fl [(g,w,A)] x r)) Y)(F:Nat->Int)(F0:∀r,0<=F r)(hA:A<=F w)
  (hF:∀a∈cs,∀r,(if a.b<=r then F (r-a.b)else 0)-lz pl B a<=F r):∀r,r<rounds->∀x,x<mv->∀u,Y (dep cs+r) x=some u->u<=F r:=by
 intro r hr x hx u hu;have:=hY.ubF (JI ok).1 (JI ok).2 (λi=>if i<dep cs then 0 else F (i-dep cs)) (λi hi x _=>by rw[if_pos hi];exact X5 _) (λr hr x _=>?_) (λa ha r=>?_) (dep cs+r) (by omega) x hx
 ·rw[hu,if_neg (by omega),gO]at this;exact Nl this
 ·rw[if_neg (by omega),gO,zs9];refine QD (jo (F0 r)) ?_;by_cases h:g=x/\w=r
  ·rw[if_pos h,←h.2];exact jo hA
  ·rw[if_neg h];exact X6 _
 ·obtain⟨b,hb,e1,e2,e3,e4⟩:=qw ha;have h:=hF b hb r;have hd:=JH hb;rw[e3,e4];by_cases hc:b.b<=r
  ·rw[if_pos hc]at h;rw[if_neg (by omega),if_neg (by omega),gO,show dep cs+r-b.b-dep cs=r-b.b by omega];omega
  ·rw[if_neg hc]at h;rw[if_pos (by omega),if_neg (by omega),gO];omega
structure Tb (mv:Nat)(cs:List eA)(pl:Nat->Int)(B:Nat)(R:List Nat):Prop where
 ok:gQ mv cs
 m8:mv<=8
 hB:B<=500000000000
 sl:∀n,n<cs.length->0<=lz pl B (aN cs n)
 rl:R.length<=8
 rn:∀n∈R,n<cs.length
 ne:R≠[]
 w:∃x,kX (λn=>(aN cs n).s) (λn=>(aN cs n).g) x R x
 tg:∀n∈R,lz pl B (aN cs n)=0
theorem QX (cs:List eA)(h:∀a∈cs,a.b<=4):∀R:List Nat,(∀n∈R,n<cs.length)->my cs R<=4*R.length
 |[],_=>ej _
 |n::R,hR=>by have h1:=QX cs h R λm hm=>hR m (bK _ hm);have h2:=h _ (fk (yr (hR n bH)));show(aN cs n).b+my cs R<=4*(R.length+1);omega
theorem qy (cs:List eA):∀R:List Nat,(∀n∈R,(aN cs n).b=0)->my cs R=0
 |[],_=>rfl
 |n::R,hR=>by have h1:=qy cs R λm hm=>hR m (bK _ hm);have h2:=hR n bH;show(aN cs n).b+my cs R=0;omega
theorem Tb.turn (h:Tb mv cs pl B R){n:Nat}(hn:n∈R):∃w,w≠[]/\(∀m∈w,m∈yT pl B cs)/\kX (λn=>(aN cs n).s) (λn=>(aN cs n).g) (aN cs n).s w (aN cs n).s/\my cs w=my cs R:=by obtain⟨x,hx⟩:=h.w;obtain⟨w,hw,hp⟩:=hx.turn hn;refine⟨w,λe=>h.ne (by rw[e]at hp;exact List.nil_perm.mp hp),λm hm=>uw.mpr ?_,hw,WE hp⟩;have:=hp.mem_iff.mp hm;exact⟨h.rn m this,h.tg m this⟩
theorem Tb.pos (h:Tb mv cs pl B R):1<=my cs R:=by obtain⟨x,hx⟩:=h.w;exact QI h.ok h.rn hx h.ne
theorem refused (h:Tb mv cs pl B R)(h1:1<=B):jC [bX ns cs,.lst (eF mv pl),.int ((B:Int)-1)]=some (.bl true):=by
 have hB:=h.hB;have e:((B:Int)-1)=((B-1:Nat):Int):=by omega
 rw[e];rcases Xt (ns:=ns) (B:=B-1) (pl:=pl) h.ok (by omega)with⟨k1,_⟩|⟨_,n,k2⟩
 ·exfalso;have:=qy cs R λn hn=>by
   have a1:=k1 n (h.rn n hn);have a2:=h.tg n hn;unfold lz at a1 a2;have e2:((B-1:Nat):Int)*((aN cs n).b:Int)=(B:Int)*((aN cs n).b:Int)-((aN cs n).b:Int):=by rw[←e,Int.sub_mul];omega
   rw[e2]at a1;omega
  have:=h.pos;omega
 ·generalize bX ns cs=net at *;generalize eF mv pl=vs,((B-1:Nat):Int)=b at *;have ht:hitL [9] [9] 9=some true:=by decide
  clear h h1 hB e;unfold jC;walk_at "mix"
theorem NK (s:String):jV false (.str (s:Str)) (.str (s:Str))=some (.bl true):=(YM (Ru s) (Ru s)).trans (by simp)
theorem QY (ds:List D):sU "tuple" (.tup ds)=some (.bl true):=rfl
theorem ox {dp:Nat}(h:∀i,i<dp+rounds->∀g,g<mv->∃y,Y i g=some y):∀r,r<rounds->∀g,g<mv->Y (dp+r) g=some ((Y (dp+r) g).getD 0):=λr hr g hg=>by obtain⟨y,e⟩:=h (dp+r) (by omega) g hg;rw[e];rfl
theorem WF {bs:List eA}(h:Tb mv cs pl B R)(kG:ns.length=mv)(Az:cs=bs.map λa=>yJ a (a.s:Int)){n0:Nat}(Be:n0∈R){w:Nat}(hw:w<=9)(hA:1<=A) :
  kE [dC (bX ns cs) mv pl B,.lst (bs.map eI),.lst (bS R),.int ((aN cs n0).s:Int),.int (w:Int),.int A]=some (.bl true):=by
 have FY:=h.m8;have hB:=h.hB;have Hd:=h.rl;have DU:=QX cs (λa ha=>(h.ok.right a ha).b) R h.rn;have BP:=h.pos;obtain⟨wk,Me,wt,ww,we⟩:=h.turn Be;have hg:(aN cs n0).s<mv:=(h.ok.right _ (fk (yr (h.rn n0 Be)))).s;generalize (aN cs n0).s=g at *;generalize KD:my cs R=bh at *;have eP:cs.length=bs.length:=by rw[Az,bQ]
 have q2:∀r:L3.Env,r[1]?.join=some (.lst (bs.map eI))->r[2]?.join=some (.lst (bS R))->nD r=some (.lst (R.map λn=>D.int ((aN cs n).b:Int))):=by
  intro r h1 h2;refine ye (λ(n:Nat)=>D.int (n:Int)) (λn=>D.int ((aN cs n).b:Int)) R (by unfold lsD;have:eV 2 r=_:=h2;rw[this];rfl) (by omega) λn hn=>⟨[some (.int (n:Int)),some (.lst (bs.map eI))],?_,?_⟩
  ·have e9:eE r [1]=[some (.lst (bs.map eI))]:=by unfold eE;simp[h1]
   rw[e9];rfl
  ·have hb:n<bs.length:=by rw[←eP];exact h.rn n hn
   have x1:ed (.lst (bs.map eI)) (.int (n:Int))=some (eI (aN bs n)):=Jz eI (.inl rfl) (yr hb);have x2:ed (eI (aN bs n)) (.int 3)=some (.int ((aN cs n).b:Int)):=by rw[Az,(FE bs (λa=>(a.s:Int)) n).2.2.2];rfl
   clear h1 h2 hb;generalize eI (aN bs n)=z,bs.map eI=zz at *;clear Az eP;walk_at "mix"
 have sm:wK [.lst (R.map λn=>D.int ((aN cs n).b:Int))]=some (.int (bh:Int)):=by rw[ZY,JG,KD]
 obtain⟨Y,l1,hY,hS⟩:=Nk (ns:=ns) (rounds:=w+3*bh+1) (pl:=pl) (B:=B) (puts:=[(g,w,A)]) h.ok kG (by omega) (by omega) xW.no (by show 1<=1000;decide);have hU:=ox hS;have e1:(cQ mv (w+3*bh+1) λr g=>Y (dep cs+r) g)=cQ mv (w+3*bh+1) λr g=>some ((Y (dep cs+r) g).getD 0):=x6 hU;rw[e1]at l1;have l2:nW [dC (bX ns cs) mv pl B,.int ((w+1:Nat):Int),.lst ([(g,w,A)].map fR),.non]=some (.lst (cQ mv (w+1) λr g=>some ((Y (dep cs+r) g).getD 0))):=by rw[Zn h.ok kG (by omega) (by omega) xW.no (by show 1<=1000;decide) (hY.cut (uP:=w+1) (by omega)) (λ_ _ _ _=>rfl)];rw[x6 λi hi g hg=>hU i (by omega) g hg]
 have BQ:A<=(Y (dep cs+w) g).getD 0:=Qd (q:=(g,w,A)) hY bH hg (by show w<_;omega) (hU w (by omega) g hg);have hz:∀r,r<w->∀x,x<mv->¬0<(Y (dep cs+r) x).getD 0:=by
  intro r hr x hx;have:=Q7 h.ok hY (λr=>if r<w then 0 else A) (λr=>by split<;>omega) (by rw[if_neg (by omega)];exact gZ _) (λa ha r=>by
   obtain⟨n,hn⟩:=kP ha;have qJ:=(bZ.mp hn).1;have:=h.sl n qJ;have ea:aN cs n=a:=by have:=yr qJ;rw[hn]at this;exact(Option.some.inj this).symm
   rw[ea]at this;split
   ·split<;>split<;>omega
   ·split<;>omega) r (by omega) x hx _ (hU r (by omega) x hx)
  rw[if_pos hr]at this;omega
 have Jb:∀i,i+bh<w+3*bh+1->(Y (dep cs+i) g).getD 0<=(Y (dep cs+(i+bh)) g).getD 0:=by intro i hi;have:=QH h.ok hY hU wk g g i wt ww (by omega);rw[we]at this;exact this
 have La:yH pl B cs g=true:=(JU h.ok (by omega) g).mpr ⟨wk,Me,wt,ww⟩;generalize KA:(λr x=>(Y (dep cs+r) x).getD 0)=U at *;have Kz:∀r x,(Y (dep cs+r) x).getD 0=U r x:=λr x=>by rw[←KA]
 simp only[Kz]at *;obtain⟨g1,K1,S8,vO⟩:∃g1:Nat,g1<mv/\0<U w g1/\ni [dC (bX ns cs) mv pl B,.lst ([(g,w,A)].map fR),.int ((w+1:Nat):Int)]=some (.tup [.str "ever",.int (g1:Int),.int (w:Int)]):=by
  rcases Q6 (ns:=ns) (most:=w+1) (pl:=pl) (B:=B) (U:=U) (puts:=[(g,w,A)]) h.ok kG (by omega) (by omega) (by omega) (by show 1<=1000;decide) l2 with⟨r,g1,hf,e⟩|⟨yD,_⟩
  ·have hr:r=w:=by
    have:=hf.ir;rcases Nat.lt_or_ge r w with k|k
    ·exact absurd hf.ip (hz r k g1 hf.ig)
    ·omega
   subst hr;exact⟨g1,hf.ig,hf.ip,e⟩
  ·exact absurd (show 0<U w g by omega) (yD w (by omega) g hg La)
 have q1:∀r:L3.Env,r[7]?.join=some (.lst (cQ mv (w+3*bh+1) λr g=>some (U r g)))->r[4]?.join=some (.int (w:Int))->kS r=some (.lst []):=by
  intro r h7 h4;have AD:lsD (λρ=>((eV 7) ρ).bind λd=>(pNo ρ).bind λl=>((pInt (eV 4)) ρ).bind λh=>oZ d l h) r=some ((bR w).map λi=>D.lst (eR mv λg=>some (U i g))):=by have e7:eV 7 r=_:=h7;have e4:eV 4 r=_:=h4;unfold lsD pNo pInt;simp only[e7,e4,de];show(oZ _ none (some (w:Int))).bind GH=_;rw[uo,Wf,Ws _ (by omega)];rfl
  have:=xh (p:=tb (e2 qX (eN oX (aCons (eV 0) aNil)) (eC (.int 0)))) (g:=gV 0) (own:=1) (cap:=[]) (f:=eV 0) (r:=r) (λi=>D.lst (eR mv λg=>some (U i g))) (λ_=>false) (λi=>D.lst (eR mv λg=>some (U i g))) (bR w) AD (by rw[cE];omega) λi hi=>by
   have hi:=ce.mp hi;obtain⟨M,m1,m2⟩:=QG h.ok.pos (U i);have m3:¬M > 0:=by
    have:((bR mv).any λg=>decide (0<U i g))=false:=by rw[pS];intro x hx;simpa using hz i hi x (ce.mp hx)
    rw[this]at m2;exact of_decide_eq_false m2
   refine⟨[some (.lst (eR mv λg=>some (U i g)))],rfl,?_,λz=>by cases z⟩;generalize D.lst (eR mv λg=>some (U i g))=v at *;have T5:decide (0<M)=false:=decide_eq_false (by omega);clear m2 Jb hz;show tb (e2 qX (eN oX (aCons (eV 0) aNil)) (eC (.int 0))) [some v]=some false;have:eN oX (aCons (eV 0) aNil) [some v]=some (.int M):=m1;unfold tb e2;rw[this];show some (decide (0<M))=some false;rw[T5]
  unfold kS;rw[this];simp
 have ra:∀i,i<w+3*bh+1->∀x,x<mv->ed (.lst (cQ mv (w+3*bh+1) λr g=>some (U r g))) (.int (i:Int))=some (.lst (eR mv λg=>some (U i g)))/\ed (.lst (eR mv λg=>some (U i g))) (.int (x:Int))=some (.int (U i x)):=λi hi x hx=>Zl (Y:=λr g=>some (U r g)) hi hx;obtain⟨ρ',h1,x8,rfl⟩:=vf (g:=gV 8) (b:=jI) (lo:=1) (n:=3) (ρ:=[some (dC (bX ns cs) mv pl B),some (.lst (bs.map eI)),some (.lst (bS R)),some (.int (g:Int)),some (.int (w:Int)),some (.int A),some (.int (bh:Int)),some (.lst (cQ mv (w+3*bh+1) λr g=>some (U r g))),none,none])
  (λn ρ=>∃x8,ρ=[some (dC (bX ns cs) mv pl B),some (.lst (bs.map eI)),some (.lst (bS R)),some (.int (g:Int)),some (.int (w:Int)),some (.int A),some (.int (bh:Int)),some (.lst (cQ mv (w+3*bh+1) λr g=>some (U r g))),x8,none]) ⟨none,rfl⟩ (by
   rintro j ρ hj ⟨x8,rfl⟩;refine⟨_,_,rfl,.inl ?_,some (.int (1+(j:Int))),rfl⟩;have Ta:j*bh<=2*bh:=Nat.mul_le_mul_right _ (by omega);have K7:(j+1)*bh=j*bh+bh:=Nat.succ_mul j bh;have a1:=(ra (w+(j+1)*bh) (by omega) g hg);have a2:=(ra (w+j*bh) (by omega) g hg);have a3:=Jb (w+j*bh) (by omega);rw[show w+j*bh+bh=w+(j+1)*bh by omega]at a3;have m1:fD (.int (1+(j:Int))) (.int (bh:Int))=some (.int (((j+1)*bh:Nat):Int)):=by rw[wx (by omega) (by omega),show(1+(j:Int))*(bh:Int)=(((j+1)*bh:Nat):Int)by rw[CQ,Int.natCast_add,Int.add_comm];rfl]
   have m2:fD (.int (j:Int)) (.int (bh:Int))=some (.int ((j*bh:Nat):Int)):=by rw[wx (by omega) (by omega),CQ]
   have sj:(1+(j:Int)-1)=(j:Int):=by omega
   have s1:(w:Int)+(((j+1)*bh:Nat):Int)=((w+(j+1)*bh:Nat):Int):=by omega
   have s2:(w:Int)+((j*bh:Nat):Int)=((w+j*bh:Nat):Int):=by omega
   obtain⟨RU,a12⟩:=a1;obtain⟨RV,a22⟩:=a2;rw[←s1]at RU;rw[←s2]at RV;have oU:¬U (w+(j+1)*bh) g<U (w+j*bh) g:=by omega
   clear ra Jb hz hU Kz KA a3 s1 s2 Ta K7 q1 q2 l1 l2 Az eP h hS e1 BQ La vO S8 hY wt ww we Me sm DU BP KD kG hg K1 Hd FY hB hw hA hj Be;generalize D.lst (eR mv λg=>some (U (w+(j+1)*bh) g))=v1,D.lst (eR mv λg=>some (U (w+j*bh) g))=v2 at *;generalize U (w+(j+1)*bh) g=V1,U (w+j*bh) g=V2,(((j+1)*bh:Nat):Int)=J1,((j*bh:Nat):Int)=J2,D.lst (cQ mv (w+3*bh+1) λr g=>some (U r g))=rs,dC (bX ns cs) mv pl B=tt,bs.map eI=bb,bS R=nr at *;show jI [some tt,some (.lst bb),some (.lst nr),some (.int (g:Int)),some (.int (w:Int)),some (.int A),some (.int (bh:Int)),some rs,some (.int (1+(j:Int))),none]=_;unfold jI;generalize (1+(j:Int))=j1 at *;walk_at "mix")
 have q2:=q2 [some (dC (bX ns cs) mv pl B),some (.lst (bs.map eI)),some (.lst (bS R)),some (.int (g:Int)),some (.int (w:Int)),some (.int A),none,none,none,none] rfl rfl;have q1:=q1 [some (dC (bX ns cs) mv pl B),some (.lst (bs.map eI)),some (.lst (bS R)),some (.int (g:Int)),some (.int (w:Int)),some (.int A),some (.int (bh:Int)),some (.lst (cQ mv (w+3*bh+1) λr g=>some (U r g))),x8,none] rfl rfl;have r2:AG [.int 1,.int 4]=some (iT 1 3):=Xd (by decide) (by decide) (by decide) (by decide);have m3:fD (.int 3) (.int (bh:Int))=some (.int (3*(bh:Int))):=wx (by decide) (by decide);have en:jV true (.lst []) (.lst [])=some (.bl false):=rfl;obtain⟨b1,b2⟩:=ra w (by omega) g hg;obtain⟨_,b3⟩:=ra w (by omega) g1 K1;have ep:[(g,w,A)].map fR=[.tup [.int (g:Int),.int (w:Int),.int A]]:=rfl;have ec:((w+3*bh+1:Nat):Int)=(w:Int)+3*(bh:Int)+1:=by omega
 have NJ:((w+1:Nat):Int)=(w:Int)+1:=by omega
 rw[ec,ep]at l1;rw[NJ,ep]at vO;have x0:ed (.tup [.str "ever",.int (g1:Int),.int (w:Int)]) (.int 0)=some (.str "ever"):=rfl;have x1:ed (.tup [.str "ever",.int (g1:Int),.int (w:Int)]) (.int 1)=some (.int (g1:Int)):=rfl;have x2:ed (.tup [.str "ever",.int (g1:Int),.int (w:Int)]) (.int 2)=some (.int (w:Int)):=rfl;have xi:=QY [.str "ever",.int (g1:Int),.int (w:Int)];have xe:=NK "ever";have qJ:¬U w g<A:=by omega
 clear ra Jb hz hU Kz KA Az eP h hS e1 BQ La hY wt ww we Me DU BP KD kG hg K1 Hd FY hB hw hA Be ec NJ ep l2;generalize D.tup [.str "ever",.int (g1:Int),.int (w:Int)]=F,D.lst (eR mv λg=>some (U w g))=v1 at *;generalize U w g=V1 at *;generalize U w g1=V2,D.lst (cQ mv (w+3*bh+1) λr g=>some (U r g))=rs,dC (bX ns cs) mv pl B=tt,D.lst (R.map λn=>D.int ((aN cs n).b:Int))=sb,bs.map eI=bb,bS R=nr,iT 1 3=up at *;unfold kE;walk_at "mix"
theorem Qg (ok:gQ mv cs)(AD:∀n,n<cs.length->((aN cs n).b:Int)<=lz pl B (aN cs n)){w:List Nat}{g:Nat}(nU:w≠[])(hw:∀n∈w,n∈yT pl B cs):¬kX (λn=>(aN cs n).s) (λn=>(aN cs n).g) g w g:=by
 intro hk;have h1:=QI ok (λn hn=>(uw.mp (hw n hn)).1) hk nU;have h2:=qy cs w λn hn=>by obtain⟨a1,a2⟩:=uw.mp (hw n hn);have:=AD n a1;omega
 omega
theorem zta (ok:gQ mv cs)(kG:ns.length=mv)(FY:mv<=8)(hB:B<=1000000000000)(AD:∀n,n<cs.length->((aN cs n).b:Int)<=lz pl B (aN cs n)){g w:Nat}(hg:g<mv)(hw:w<=9)(hA:1<=A/\A<=3) :
  nk [dC (bX ns cs) mv pl B,.int (mv:Int),.int (g:Int),.int (w:Int),.int A]=some (.bl true):=by
 obtain⟨Y,l1,hY,hS⟩:=Nk (ns:=ns) (rounds:=400) (pl:=pl) (B:=B) (puts:=[(g,w,A)]) ok kG (by omega) hB xW.no (by show 1<=1000;decide);have hU:=ox hS;have e1:(cQ mv 400 λr g=>Y (dep cs+r) g)=cQ mv 400 λr g=>some ((Y (dep cs+r) g).getD 0):=x6 hU;rw[e1]at l1;have BQ:A<=(Y (dep cs+w) g).getD 0:=Qd (q:=(g,w,A)) hY bH hg (by show w<_;omega) (hU w (by omega) g hg);have Hh:∀r,r<400->∀x,x<mv->0<(Y (dep cs+r) x).getD 0->r<=w+2:=by
  intro r hr x hx hp;have:=Q7 ok hY (λr=>if r<w then 0 else if A<=(r:Int)-(w:Int)then 0 else A-((r:Int)-(w:Int))) (λr=>by split<;>(try split)<;>omega) (by rw[if_neg (by omega)];split<;>omega) (λa ha r=>by
   obtain⟨n,hn⟩:=kP ha;have qJ:=(bZ.mp hn).1;have:=AD n qJ;have ea:aN cs n=a:=by have:=yr qJ;rw[hn]at this;exact(Option.some.inj this).symm
   rw[ea]at this;generalize lz pl B a=sl at *
   repeat' split
   all_goals omega) r hr x hx _ (hU r hr x hx)
  repeat' split at this
  all_goals omega
 have dp:=Ry λa ha=>(ok.right a ha).b;have yD:∀x,x<mv->d6 [dC (bX ns cs) mv pl B,.int (x:Int)]=some .non:=by
  intro x hx;rcases MF (ns:=ns) (pl:=pl) ok hB hx with⟨v,_,r1,r2,r3,_⟩|⟨e,_⟩
  ·exact absurd r3 (Qg ok AD r1 r2)
  ·exact e
 obtain⟨m,hm,vO⟩:∃m:Int,(w:Int)<=m/\ni [dC (bX ns cs) mv pl B,.lst ([(g,w,A)].map fR),.int 400]=some (.tup [.str "died",.int (m+1)]):=by
  rcases Q6 (ns:=ns) (most:=400) (pl:=pl) (B:=B) (U:=λr g=>(Y (dep cs+r) g).getD 0) (puts:=[(g,w,A)]) ok kG hB FY (by omega) (by show 1<=1000;decide) l1 with⟨r,g1,hf,e⟩|⟨_,m,⟨_,k2,k3⟩,e⟩
  ·exfalso;obtain⟨v,v1,v2,v3⟩:=(JU ok FY g1).mp hf.ik
   exact Qg ok AD v1 v2 v3
  ·have h1:=k2 w (.inl ⟨by omega,g,hg,by show 0<(Y (dep cs+w) g).getD 0;omega⟩);have h2:m<=(w:Int)+2:=by
    rcases k3 with k3|⟨x,hx,rfl⟩
    ·omega
    ·rcases hx with⟨a1,y,a2,a3⟩|⟨a1,q,a2,a3,a4⟩
     ·have:=Hh x a1 y a2 a3;omega
     ·rw[bU]at a2;subst a2;have:w=x:=a4;omega
   refine⟨m,h1,?_⟩;rw[if_pos (by omega)]at e;exact e
 have qd:∀r:L3.Env,r[0]?.join=some (dC (bX ns cs) mv pl B)->r[1]?.join=sI (mv:Int)->nw r=some (.lst []):=by
  intro r h0 h1;have:=xh (fi:=λρ=>((aCons (eV 1) aNil) ρ).bind kT) (p:=tb (e2 (tT true) (cl d6 (aCons (eV 1) (aCons (eV 0) aNil))) (eC .non))) (g:=gV 0) (own:=1) (cap:=[0]) (f:=eV 0) (r:=r) (λ(t:Nat)=>D.int (t:Int)) (λ_=>false) (λ(t:Nat)=>D.int (t:Int)) (bR mv) (u7 (n:=mv) h1 (by omega)) (by rw[cE];omega) λx hx=>by
   have hx:=ce.mp hx;have e9:eE r [0]=[some (dC (bX ns cs) mv pl B)]:=by unfold eE;simp[h0]
   refine⟨[sI (x:Int),some (dC (bX ns cs) mv pl B)],by rw[e9];rfl,?_,λz=>by cases z⟩;have:=yD x hx;generalize dC (bX ns cs) mv pl B=tt at *;clear Hh BQ hU hY hS l1 e1 vO yD AD h0 h1 e9;walk_at "mix"
  unfold nw;rw[this];simp
 have qd:=qd [some (dC (bX ns cs) mv pl B),sI (mv:Int),sI (g:Int),sI (w:Int),sI A,none] rfl rfl;have en:jV true (.lst []) (.lst [])=some (.bl false):=rfl;have ep:[(g,w,A)].map fR=[.tup [.int (g:Int),.int (w:Int),.int A]]:=rfl;rw[ep]at vO;have x0:ed (.tup [.str "died",.int (m+1)]) (.int 0)=some (.str "died"):=rfl;have x1:ed (.tup [.str "died",.int (m+1)]) (.int 1)=sI (m+1):=rfl;have xi:=QY [.str "died",.int (m+1)];have xe:=NK "died";have oU:(w:Int)<m+1:=by omega
 clear Hh BQ hU hY hS l1 e1 yD AD ok kG FY hB hg hw hA dp ep hm;generalize D.tup [.str "died",.int (m+1)]=F at *;generalize m+1=m1,dC (bX ns cs) mv pl B=tt at *;unfold nk;walk_at "mix"
noncomputable def ie (w:Int)(a:eA):eA:={ a with t:=a.t*w }
theorem ztb (w:Int)(as:List eA)(n:Nat):aN (as.map (ie w)) n=ie w (aN as n):=by
 unfold aN;rw[cu];cases as[n]? with
 |none=>show(⟨.wait,0,0,0,0⟩:eA)=⟨.wait,0,0,0*w,0⟩;rw[Int.zero_mul]
 |some a=>rfl
noncomputable def fN (as:List eA):List eA:=as.map λa=>yJ a (a.s:Int)
theorem JV (as:List eA)(w:Int)(n:Nat):(aN (fN (as.map (ie w))) n).s=aS (fN as) n/\(aN (fN (as.map (ie w))) n).g=aG (fN as) n/\(aN (fN (as.map (ie w))) n).t=tN (fN as) n*w/\((aN (fN (as.map (ie w))) n).b:Int)=bN (fN as) n:=by obtain⟨a1,a2,a3,a4⟩:=FE (as.map (ie w)) (λa=>(a.s:Int)) n;obtain⟨b1,b2,b3,b4⟩:=FE as (λa=>(a.s:Int)) n;unfold fN aS aG tN bN;rw[a1,a2,a3,a4,b1,b2,b3,b4,ztb];exact⟨rfl,rfl,rfl,rfl⟩
theorem Ig {S G:Nat->Nat}{t b T:Nat->Int}{q1 q2:Int}:∀{w:List Nat} {x y:Nat},kX S G x w y->(w.map λn=>T (G n)+q1*b n-T (S n)-t n*q2).sum=T y-T x+q1*(w.map b).sum-(w.map t).sum*q2
 |[],x,y,h=>by have h:x=y:=h;subst h;simp
 |n::w,x,y,h=>by have ih:=Ig (t:=t) (b:=b) (T:=T) (q1:=q1) (q2:=q2) h.2;have e:S n=x:=h.1;simp only[ck,di];rw[ih,e,yX,oG];omega
theorem Qh {f:Nat->Int}:∀{R:List Nat},(∀n∈R,0<=f n)->(R.map f).sum=0->∀n∈R,f n=0
 |[],_,_,n,hn=>by cases hn
 |m::R,h,hs,n,hn=>by
  have h1:=h m bH;have h2:=Nj R λk hk=>h k (bK _ hk);rw[ck,di]at hs;rcases bY.mp hn with rfl|hn
  ·omega
  ·exact Qh (λk hk=>h k (bK _ hk)) (by omega) n hn
theorem Nm (as:List eA)(w:Int)(T:Nat->Int)(M:Int)(B n:Nat):lz (λg=>T g-M) B (aN (fN (as.map (ie w))) n)=T (aG (fN as) n)+(B:Int)*bN (fN as) n-T (aS (fN as) n)-tN (fN as) n*w:=by obtain⟨h1,h2,h3,h4⟩:=JV as w n;unfold lz;rw[h1,h2,h3,h4];show T (aG (fN as) n)-M+_-(T (aS (fN as) n)-M)-_=_;omega
theorem zt3 (h1:1<=mv)(h8:mv<=8)(qI:as.length<=16)(qH:∀a∈as,Drawn mv rk a/\a.t<=1000000)(gn:GN mv (fN as) (bR as.length) rk mb){q:Int×Int}{T:Nat->Int}(hR:RG (fN as) (bR as.length) R)(hq:q=Fq.mk (sT (fN as) R) (sB (fN as) R))
  (hT:∀n∈bR as.length,T (aS (fN as) n)+f6 (fN as) q n<=T (aG (fN as) n)) (M:Int) :
  (∃B:Nat,q.1=(B:Int)/\Tb mv (fN (as.map (ie q.2))) (λg=>T g-M) B R/\∀k n:Nat,1<=k->n<(fN (as.map (ie q.2))).length->((aN (fN (as.map (ie q.2))) n).b:Int)<=lz (λg=>T g-M) (B+k) (aN (fN (as.map (ie q.2))) n))/\1<=q.2/\q.2<=160/\∀a∈as.map (ie q.2),Drawn mv rk a:=by
 obtain⟨m1,m2,m3,m4⟩:=JF hR gn;rw[←hq]at m1 m2 m3 m4;have Oc:1<=q.2:=by have:=m1.gt;omega
 have hd:∀a∈as.map (ie q.2),Drawn mv rk a:=by intro a ha;obtain⟨b,hb,rfl⟩:=cK.mp ha;obtain⟨d,ht⟩:=qH b hb;have e1:0<=b.t*q.2:=kx d.t0 (by omega);have e2:b.t*q.2<=1000000*160:=fE ht m3 (by omega) (by decide);exact⟨d.s,d.g,e1,by show b.t*q.2<=_;omega,d.b,d.r⟩
 refine⟨⟨q.1.toNat,by omega,?_,?_⟩,Oc,m3,hd⟩
 ·have ok:=Rx (mv:=mv) (rk:=rk) (as:=as.map (ie q.2)) (λa=>(a.s:Int)) h1 h8 (by rw[bQ];omega) hd;have EH:(fN (as.map (ie q.2))).length=as.length:=by unfold fN;rw[bQ,bQ]
  have eB:((q.1.toNat:Nat):Int)=q.1:=by omega
  have key:∀n,n<as.length->0<=lz (λg=>T g-M) q.1.toNat (aN (fN (as.map (ie q.2))) n):=by intro n hn;have:=hT n (ce.mpr hn);rw[Nm,eB];unfold f6 at this;have e3:((aN (fN as) n).b:Int)*q.1=q.1*bN (fN as) n:=iY _ _;have e4:(aN (fN as) n).t*q.2=tN (fN as) n*q.2:=rfl;rw[e3,e4]at this;omega
  obtain⟨x,hx⟩:=hR.w;have hS:(λn=>(aN (fN (as.map (ie q.2))) n).s)=aS (fN as):=funext λn=>(JV as q.2 n).1;have hG:(λn=>(aN (fN (as.map (ie q.2))) n).g)=aG (fN as):=funext λn=>(JV as q.2 n).2.1;have Oe:∀n∈R,n<as.length:=λn hn=>ce.mp (hR.m n hn);refine⟨ok,h8,by omega,λn hn=>key n (by omega),by have:=hR.len gn;omega,λn hn=>by rw[EH];exact Oe n hn,hR.ne,⟨x,by rw[hS,hG];exact hx⟩,?_⟩;have hz:=Qh (f:=λn=>lz (λg=>T g-M) q.1.toNat (aN (fN (as.map (ie q.2))) n)) (R:=R) (λn hn=>key n (Oe n hn)) (by
   have e:(R.map λn=>lz (λg=>T g-M) q.1.toNat (aN (fN (as.map (ie q.2))) n))=R.map λn=>T (aG (fN as) n)+q.1*bN (fN as) n-T (aS (fN as) n)-tN (fN as) n*q.2:=fO λn _=>by rw[Nm,eB]
   rw[e,Ig hx];have c:=Fq.mk_cross (sT (fN as) R) (sB (fN as) R);rw[←hq]at c;unfold sT sB at c
   omega)
  exact hz
 ·intro k n hk hn;have hn:n<as.length:=by unfold fN at hn;rw[bQ,bQ]at hn;exact hn
  have:=hT n (ce.mpr hn);rw[Nm,(JV as q.2 n).2.2.2];unfold f6 at this;have eB:((q.1.toNat+k:Nat):Int)=q.1+(k:Int):=by omega
  have e3:((aN (fN as) n).b:Int)*q.1=q.1*bN (fN as) n:=iY _ _;have e4:(aN (fN as) n).t*q.2=tN (fN as) n*q.2:=rfl;have e5:(1:Int)*bN (fN as) n<=(k:Int)*bN (fN as) n:=cH (by omega) (by unfold bN;omega);rw[e3,e4]at this;rw[eB,oG];omega
theorem Z0 {q:Int×Int}{T:Nat->Int}(hm:mv<=8)(h1:1<=q.2)(h2:q.2<=160):l5 [pR mv q T,.int q.2]=sI q.2:=by
 obtain⟨ρ',lp,y3,y4,y5,rfl⟩:=ve (g:=gV 3) (b:=kD) (ds:=(bR mv).map λg=>fr (Fq.mk (T g) q.2)) (ρ:=[some (pR mv q T),sI q.2,sI q.2,none,none,none])
  (λ_ ρ=>∃y3 y4 y5,ρ=[some (pR mv q T),sI q.2,sI q.2,y3,y4,y5]) ⟨_,_,_,rfl⟩ (by
   rintro pre d post ρ he ⟨y3,y4,y5,rfl⟩;have hd:d∈(bR mv).map λg=>fr (Fq.mk (T g) q.2):=by rw[he];simp
   obtain⟨g,_,rfl⟩:=cK.mp hd;have lo:=Fq.mk_low (t:=T g) (b:=q.2) (by omega);have hp:=lo.gt;have dv:(Fq.mk (T g) q.2).2 ∣ q.2:=⟨_,(Fq.mk_two (T g) q.2).trans (iY _ _)⟩;have mW:=Int.le_of_dvd (by omega) dv;generalize Fq.mk (T g) q.2=p at *;refine⟨_,_,rfl,.inl ?_,some (fr p),sI p.2,sI 0,rfl⟩;obtain⟨s',e1,IC,e3,_⟩:=vo (c:=tb (e2 (jV true) (eV 5) (eC (.int 0)))) (b:=i8) (λs:Int×Int=>[some (pR mv q T),sI q.2,sI q.2,some (fr p),sI s.1,sI s.2]) (λs=>!decide (s.2=0)) (λs=>(s.2,s.1%s.2)) (λs=>s.2.natAbs) (λs=>s=(q.2,p.2)\/s=(p.2,0)) (by
     rintro s _;have:=xw (neg:=true) s.2 0;generalize pR mv q T=tt at *;clear he hd lo dv mW hp h1 h2;show tb (e2 (jV true) (eV 5) (eC (.int 0))) [some tt,sI q.2,sI q.2,some (fr p),sI s.1,sI s.2]=_;have e:e2 (jV true) (eV 5) (eC (.int 0)) [some tt,sI q.2,sI q.2,some (fr p),sI s.1,sI s.2]=some (.bl (!decide (s.2=0))):=this;unfold tb;rw[e]
     rfl) (by
     rintro s hs ht;have Be:s.2≠0:=by simpa using ht
     rcases hs with rfl|rfl
     ·have hz:q.2%p.2=0:=Int.emod_eq_zero_of_dvd dv;refine⟨.inl ?_,.inr (by show(p.2,q.2%p.2)=_;rw[hz]),by show(q.2%p.2).natAbs<p.2.natAbs;rw[hz];omega⟩;have md:gW (.int q.2) (.int p.2)=sI (q.2%p.2):=xu hp;generalize pR mv q T=tt,q.2%p.2=z at *;clear he hd lo dv mW hp h1 h2 ht Be hz;unfold i8;walk_at "mix"
     ·exact absurd rfl Be) pW (q.2,p.2) (.inl rfl) (um (by show p.2.natAbs<_;omega))
   have F9:s'=(p.2,0):=by
    rcases IC with rfl|IC
    ·have:p.2=0:=by simpa using e3
     omega
    ·exact IC
   subst F9;have wh:iy (tb (e2 (jV true) (eV 5) (eC (.int 0)))) i8 [some (pR mv q T),sI q.2,sI q.2,some (fr p),sI q.2,sI p.2]=some (.nx [some (pR mv q T),sI q.2,sI q.2,some (fr p),sI p.2,sI 0]):=e1;have f1:hJ (.int q.2) (.int p.2)=sI (q.2/p.2):=v8 hp (by omega);have m1:fD (.int (q.2/p.2)) (.int p.2)=sI q.2:=by rw[v9 (by omega) (by omega),Ae dv]
   have x1:ed (fr p) (.int 1)=sI p.2:=rfl;clear he hd lo dv mW h1 h2 e1 e3 IC;show kD [some (pR mv q T),sI q.2,sI q.2,some (fr p),y4,y5]=_;unfold kD;generalize (iy (tb (e2 (jV true) (eV 5) (eC (.int 0)))) i8)=W,pR mv q T=tt,fr p=fp at *;walk_at "mix")
 have es:lsD (eV 0) [some (pR mv q T),sI q.2,sI q.2,none,none,none]=some ((bR mv).map λg=>fr (Fq.mk (T g) q.2)):=rfl;unfold l5;generalize ((bR mv).map λg=>fr (Fq.mk (T g) q.2))=ls,pR mv q T=tt,lsD (eV 0)=l0 at *;walk_at "mix"
theorem CY (ns:List Int)(turn:Int){total:Nat}(h1:1<=mv)(h2:mv<=8)(ht:total<=100):∃(mk:Nat->eA) (rk:Nat->Nat),(∀k,k<total->∃c:Int,dM [.lst (ns.map .int),.int (4+(k:Int))]=sI c/\fS [.int c,.int (mv:Int),.int turn,.int (k:Int)]=some (eI (mk k)))/\(∀k,k<total->Drawn mv rk (mk k)/\(mk k).t<=1000000)/\∀k,k<mv->k<total->(mk k).g=k:=by
 obtain⟨rk,yF⟩:=zsk turn h1 (by omega);have key:∀k,∃a:eA,k<total->(∃c:Int,dM [.lst (ns.map .int),.int (4+(k:Int))]=sI c/\fS [.int c,.int (mv:Int),.int turn,.int (k:Int)]=some (eI a))/\(Drawn mv rk a/\a.t<=1000000)/\(k<mv->a.g=k):=by
  intro k;by_cases hk:k<total
  ·obtain⟨c,hc⟩:=Im ns (4+(k:Int)) (by omega);obtain⟨a,a1,a2,a3,a4,a5,a6,a7,a8⟩:=ZE c turn k (by omega) h1 (by omega) rk yF;exact⟨a,λ_=>⟨⟨c,hc,a1⟩,⟨⟨a2,a3,a4,by omega,a6,a7⟩,a5⟩,a8⟩⟩
  ·exact⟨⟨.wait,0,0,0,0⟩,λz=>absurd z hk⟩
 refine⟨λk=>Classical.choose (key k),rk,λk hk=>(Classical.choose_spec (key k) hk).1,λk hk=>(Classical.choose_spec (key k) hk).2.1,λk EK C3=>(Classical.choose_spec (key k) C3).2.2 EK⟩
theorem RL (hl:as.length<=1000)(r:L3.Env)(h4:r[4]?.join=sL (as.map eI)):uN r=sL ((fN as).map cS)/\zV r=sL ((fN as).map cS):=by
 have key:uN r=sL ((fN as).map cS):=by unfold fN;rw[d7];refine ye eI (λa=>cS (yJ a (a.s:Int))) as (by unfold lsD;have:eV 4 r=_:=h4;rw[this];rfl) (by omega) λa _=>⟨_,rfl,?_⟩;have i0:ed (eI a) (.int 0)=sI (a.s:Int):=rfl;have:=zso a (a.s:Int);clear hl h4;walk_at "mix"
 exact⟨key,key⟩
theorem zt4 (hm:mv<=8)(r:L3.Env)(h1:r[1]?.join=sI (mv:Int)):zY r=sL (nm mv):=by refine ye (λ(t:Nat)=>D.int (t:Int)) (λ(k:Nat)=>D.str ("a"++D3 (k:Int))) (bR mv) (u7 h1 (by omega)) (by rw[cE];omega) λg hg=>⟨_,rfl,?_⟩;have hg:=ce.mp hg;obtain⟨s1,s2⟩:=ZG g (by omega);clear hg h1 hm;walk_at "mix"
theorem zt5 {ns:List Int}{total:Nat}{turn:Int}{mk:Nat->eA}(ht:total<=100)(N9:∀k,k<total->∃c:Int,dM [.lst (ns.map .int),.int (4+(k:Int))]=sI c/\fS [.int c,.int (mv:Int),.int turn,.int (k:Int)]=some (eI (mk k)))(r:L3.Env)(h0:r[0]?.join=sL (ns.map .int))(h1:r[1]?.join=sI (mv:Int))(h2:r[2]?.join=sI (total:Int))(h3:r[3]?.join=sI turn):zZ r=sL (((bR total).map mk).map eI):=by
 rw[d7];refine ye (λ(t:Nat)=>D.int (t:Int)) (λk=>eI (mk k)) (bR total) (u7 h2 (by omega)) (by rw[cE];omega) λk hk=>⟨_,rfl,?_⟩;obtain⟨c,e1,e2⟩:=N9 k (ce.mp hk);have e9:eE r [0,1,3]=[sL (ns.map .int),sI (mv:Int),sI turn]:=by unfold eE;simp[h0,h1,h3]
 rw[e9];clear e9 N9 h0 h1 h2 h3 hk ht;walk_at "mix"
theorem zt6 {w:Int}(hl:as.length<=1000)(hw:1<=w/\w<=160)(r:L3.Env)(h4:r[4]?.join=sL (as.map eI))(h9:r[9]?.join=sI w):zW r=sL ((as.map (ie w)).map eI):=by
 rw[d7];refine ye eI (λa=>eI (ie w a)) as (by unfold lsD;have:eV 4 r=_:=h4;rw[this];rfl) (by omega) λa _=>⟨[sI (a.s:Int),sI (a.g:Int),sI a.t,sI (a.b:Int),sI w],?_,?_⟩
 ·have e9:eE r [9]=[sI w]:=by unfold eE;simp[h9]
  rw[e9];rfl
 ·have m:fD (.int a.t) (.int w)=sI (a.t*w):=v9 (by omega) (by omega);unfold eI ie;clear hl hw h4 h9;walk_at "mix"
theorem zt7 {q:Int×Int}{T:Nat->Int}(hm:mv<=8)(h1:1<=q.2)(h2:q.2<=160)(r:L3.Env)(h8:r[8]?.join=some (pR mv q T))(h9:r[9]?.join=sI q.2):zU r=sL (eF mv T):=by
 refine ye (λg=>fr (Fq.mk (T g) q.2)) (λg=>D.int (T g)) (bR mv) (by unfold lsD;have:eV 8 r=_:=h8;rw[this];rfl) (by rw[cE];omega) λg _=>⟨[some (fr (Fq.mk (T g) q.2)),sI q.2],?_,?_⟩
 ·have e9:eE r [9]=[sI q.2]:=by unfold eE;simp[h9]
  rw[e9];rfl
 ·have lo:=Fq.mk_low (t:=T g) (b:=q.2) (by omega);have hp:=lo.gt;have dv:(Fq.mk (T g) q.2).2 ∣ q.2:=⟨_,(Fq.mk_two (T g) q.2).trans (iY _ _)⟩;have mW:=Int.le_of_dvd (by omega) dv;have cr:=Fq.mk_cross (T g) q.2;generalize Fq.mk (T g) q.2=p at *;have f1:hJ (.int q.2) (.int p.2)=sI (q.2/p.2):=v8 hp (by omega);have hk:q.2/p.2*p.2=q.2:=Ae dv;have EK:0<=q.2/p.2:=Int.ediv_nonneg (by omega) (by omega);have C3:q.2/p.2<=q.2:=Int.ediv_le_self _ (by omega);have e:p.1*(q.2/p.2)=T g:=by
   have:p.1*(q.2/p.2)*p.2=T g*p.2:=by rw[Int.mul_assoc,hk,cr]
   exact iU (by omega) this
  have m1:fD (.int p.1) (.int (q.2/p.2))=sI (T g):=by rw[v9 (by omega) (by omega),e]
  have x0:ed (fr p) (.int 0)=sI p.1:=rfl;have x1:ed (fr p) (.int 1)=sI p.2:=rfl;generalize fr p=fp,q.2/p.2=z at *;clear hk EK C3 e dv mW cr hp lo h8 h9 h1 h2 hm;walk_at "mix"
theorem Z1 (h:1<=mv)(f:Nat->Int):∃M:Int,B0 [.lst (eF mv f)]=sI M:=by obtain⟨k,rfl⟩:∃k,mv=k+1:=⟨mv-1,by omega⟩;have e:eF (k+1) f=(bR (k+1)).map λg=>D.int (f g):=rfl;rw[e];unfold B0;dsimp only;rw[x9,vJ];exact⟨_,rfl⟩
theorem Z2 (h:1<=mv)(f:Nat->Int):∃M:Int,oX [.lst (eF mv f)]=sI M:=by obtain⟨k,rfl⟩:∃k,mv=k+1:=⟨mv-1,by omega⟩;have e:eF (k+1) f=(bR (k+1)).map λg=>D.int (f g):=rfl;rw[e];unfold oX;dsimp only;rw[x9,vJ];exact⟨_,rfl⟩
theorem zt8 {T:Nat->Int}(hm:mv<=8)(hM:B0 [.lst (eF mv T)]=sI M)(r:L3.Env)(GQ:r[11]?.join=sL (eF mv T)):zT r=sL (eF mv λg=>T g-M):=by
 refine ye (λg=>D.int (T g)) (λg=>D.int (T g-M)) (bR mv) (by unfold lsD;have:eV 11 r=_:=GQ;rw[this];rfl) (by rw[cE];omega) λg _=>⟨[sI (T g),sL (eF mv T)],?_,?_⟩
 ·have e9:eE r [11]=[sL (eF mv T)]:=by unfold eE;simp[GQ]
  rw[e9];rfl
 ·generalize eF mv T=v at *;clear GQ;walk_at "mix"
theorem QZ {as:List eA}{mv:Nat}{left:List Nat}(oU:∀x∈left,x<mv)(sS:∀x∈left,∃n,n<as.length/\aG as n=x/\aS as n∈left)(v:Nat):∀(f:Nat) (ws:List Nat) (here:Nat),mv<ws.length+f->xC (aS as) (aG as) v ws here->(ws.map (aG as)).Nodup->(∀n∈ws,n<as.length/\aG as n∈left)->here∈left->∃(R:List Nat) (x:Nat),R≠[]/\kX (aS as) (aG as) x R x/\(R.map (aG as)).Nodup/\∀n∈R,n<as.length/\aG as n∈left
 |0,ws,here,hf,_,nd,hw,_=>by
  have:=Kahn.len_le (mv:=mv) nd λx hx=>by obtain⟨n,h1,rfl⟩:=cK.mp hx;exact oU _ (hw n h1).2
  rw[bQ]at this;omega
 |f+1,ws,here,hf,hc,nd,hw,hh=>by
  by_cases hm:here∈ws.map (aG as)
  ·have AB:=t9.mpr hm;have CG:(ws.map (aG as))[(ws.map (aG as)).idxOf here]?=some here:=by rw[df AB,Ak]
   generalize (ws.map (aG as)).idxOf here=j at *;rw[bQ]at AB;rw[cu,df AB]at CG;replace CG:aG as ws[j]=here:=by simpa using CG
   have wlk:xC (aS as) (aG as) here (ws.drop j) here:=by have:=hc.drop (j:=j) (n:=ws[j]) (df AB);rw[CG]at this;exact this
   refine⟨(ws.drop j).reverse,here,?_,wlk.wlk,?_,λn hn=>hw n (xN (Bm.mp hn))⟩
   ·intro e;have:=congrArg jT e;rw[i6,m6]at this;simp at this;omega
   ·rw[m9,uA];exact wR.mpr ((mH.sublist (AR _ _) nd).imp λh e=>h e.symm)
  ·obtain⟨n,n1,n2,n3⟩:=sS here hh;refine QZ oU sS v f (ws++[n]) (aS as n) (by rw[cn,cV];omega) (hc.snoc n2) ?_ (λk hk=>?_) n3
   ·rw[dU,pq,n2];exact cF.mpr ⟨nd,by simp,λa ha b hb e=>hm (by rw[←bU.mp hb,←e];exact ha)⟩
   ·rcases cA.mp hk with hk|hk
    ·exact hw k hk
    ·rw[bU.mp hk,n2];exact⟨n1,hh⟩
theorem Gp (n:Nat):(nm n).length=n:=by unfold nm;simp
theorem WG (h:R≠[])(hl:R.length<=100)(c:Int):∃n,n∈R/\eW [.lst (bS R)]=sI (R.length:Int)/\gW (.int c) (.int (R.length:Int))=sI (c%(R.length:Int))/\ed (.lst (bS R)) (.int (c%(R.length:Int)))=sI (n:Int):=by have hp:=lA.mpr h;have a1:=si c (show(R.length:Int)≠0 by omega);have a2:=AO c (show(0:Int)<(R.length:Int)by omega);obtain⟨i,hi,AA⟩:∃i:Nat,c%(R.length:Int)=(i:Int)/\i<R.length:=⟨(c%(R.length:Int)).toNat,by omega,by omega⟩;refine⟨R[i],Bl AA,(ym _).trans (by unfold bS;rw[bQ]),xu (by omega),?_⟩;rw[hi];exact ZD AA
theorem WH {w:Int}{E:List (Option D)}(h:Tb mv (fN (as.map (ie w))) pl B R){S m t tu Gd be ti wh ne to pa go wn am:Option D} :
  ∃FB,gN (gV 17) pC (bS R) [S,m,t,tu,sL ((as.map (ie w)).map eI),Gd,be,sL (bS R),ti,wh,ne,to,pa,some (dC (bX (nm mv) (fN (as.map (ie w)))) mv pl B),go,wn,am,none,none] =
   some (.nx [S,m,t,tu,sL ((as.map (ie w)).map eI),Gd,be,sL (bS R),ti,wh,ne,to,pa,some (dC (bX (nm mv) (fN (as.map (ie w)))) mv pl B),go,wn,am,FB,none]):=by
 obtain⟨ρ',lp,FB,rfl⟩:=ve (g:=gV 17) (b:=pC) (ds:=bS R) (ρ:=[S,m,t,tu,sL ((as.map (ie w)).map eI),Gd,be,sL (bS R),ti,wh,ne,to,pa,some (dC (bX (nm mv) (fN (as.map (ie w)))) mv pl B),go,wn,am,none,none])
  (λ_ ρ=>∃FB,ρ=[S,m,t,tu,sL ((as.map (ie w)).map eI),Gd,be,sL (bS R),ti,wh,ne,to,pa,some (dC (bX (nm mv) (fN (as.map (ie w)))) mv pl B),go,wn,am,FB,none]) ⟨none,rfl⟩ (by
   rintro pre d post ρ he ⟨FB,rfl⟩;have hd:d∈bS R:=by rw[he];simp
   obtain⟨n,hn,rfl⟩:=cK.mp hd;refine⟨_,_,rfl,.inl ?_,sI (n:Int),rfl⟩;have hB:=h.hB;have qJ:=h.rn n hn;have FR:=yr qJ;have hr:=h.ok.right _ (fk FR);have s1:=qq (ns:=nm mv) (pl:=pl) (B:=B) (by omega) hr.s hr.g FR;have s2:=qr (m:="slack") (f:=dL) (net:=bX (nm mv) (fN (as.map (ie w)))) (mv:=mv) (B:=B) (pl:=pl) (ds:=[.int (n:Int)]) (by decide +kernel);rw[s1,h.tg n hn]at s2;have DU:n<(as.map (ie w)).length:=by unfold fN at qJ;rw[bQ]at qJ;exact qJ
   have x1:ed (.lst ((as.map (ie w)).map eI)) (.int (n:Int))=some (eI (aN (as.map (ie w)) n)):=Jz eI (.inl rfl) (yr DU);have es:(aN (as.map (ie w)) n).s=(aN (fN (as.map (ie w))) n).s:=(FE (as.map (ie w)) (λa=>(a.s:Int)) n).1.symm;have x2:ed (eI (aN (as.map (ie w)) n)) (.int 0)=sI ((aN (fN (as.map (ie w))) n).s:Int):=by rw[←es];rfl
   obtain⟨v,v1⟩:∃v,d6 [dC (bX (nm mv) (fN (as.map (ie w)))) mv pl B,.int ((aN (fN (as.map (ie w))) n).s:Int)]=sL v:=by
    rcases MF (ns:=nm mv) (pl:=pl) (B:=B) h.ok (by omega) hr.s with⟨v,v1,_⟩|⟨_,yD⟩
    ·exact⟨_,v1⟩
    ·obtain⟨wk,a1,a2,a3,_⟩:=h.turn hn;exact absurd a3 (yD wk a1 a2)
   have e0:jV true (.int 0) (.int 0)=some (.bl false):=(xw 0 0).trans (by simp);clear h he hd hn hB qJ FR hr s1 DU es;generalize ((aN (fN (as.map (ie w))) n).s:Int)=s0,eI (aN (as.map (ie w)) n)=a0,dC (bX (nm mv) (fN (as.map (ie w)))) mv pl B=tt,(as.map (ie w)).map eI=bb,bS R=nr at *;show pC [S,m,t,tu,sL bb,Gd,be,sL nr,ti,wh,ne,to,pa,some tt,go,wn,am,sI (n:Int),none]=_;unfold pC;walk_at "mix")
 exact⟨FB,lp⟩
theorem Xu (ns:List Int)(hl:ns.length<=63):vS [.lst (ns.map .int)]=some (.bl true):=by
 obtain⟨c0,hc0⟩:=Im ns 0 (by decide);obtain⟨c1,IN⟩:=Im ns 1 (by decide);obtain⟨c2,CF⟩:=Im ns 2 (by decide);obtain⟨c3,S1⟩:=Im ns 3 (by decide);obtain⟨mv,em,zQ,Tf⟩:∃m:Nat,1+c0%6=(m:Int)/\1<=m/\m<=6:=⟨(1+c0%6).toNat,by omega,by omega,by omega⟩;obtain⟨total,et,Tw,Tx⟩:∃t:Nat,(mv:Int)+c0/6%9=(t:Int)/\mv<=t/\t<=14:=⟨((mv:Int)+c0/6%9).toNat,by omega,by omega,by omega⟩;obtain⟨mk,rk,k1,k2,k3⟩:=CY ns (c0/54) (mv:=mv) (total:=total) zQ (by omega) (by omega);have Od:=λr=>zt5 (ns:=ns) (mv:=mv) (total:=total) (turn:=c0/54) (mk:=mk) (by omega) k1 r;have qI:((bR total).map mk).length=total:=by simp
 have qH:∀a∈(bR total).map mk,Drawn mv rk a/\a.t<=1000000:=λa ha=>by obtain⟨k,hk,rfl⟩:=cK.mp ha;exact k2 k (ce.mp hk)
 have sS:∀x,x<mv->((bR total).map mk)[x]?=some (mk x)/\(mk x).g=x:=λx hx=>⟨by rw[cu,eQ (by omega)];rfl,k3 x hx (by omega)⟩;generalize (bR total).map mk=as at *;clear k1 k2 k3;have Lc:(fN as).length=as.length:=by unfold fN;rw[bQ]
 obtain⟨mb,g1,g2,_⟩:=zt2 (ns:=nm mv) (as:=as) zQ (by omega) (by omega) λa ha=>(qH a ha).1;have gn:GN mv (fN as) (bR as.length) rk mb:=g2 _ (λn hn=>ce.mp hn) (by rw[cE];omega);have NP:GN mv (fN as) (bR (fN as).length) rk mb:=by rw[Lc];exact gn
 obtain⟨d,p1,p2⟩:=Zh gn (Gp mv) g1;have Oz:gG [bX (nm mv) (fN as),.lst (bS (bR (fN as).length))]=some d:=by rw[Lc];exact p1
 have plr:=Zi NP (Gp mv) Oz;have n1:=RK (ns:=nm mv) (Rx (mv:=mv) (rk:=rk) (as:=as) (λa=>(a.s:Int)) zQ (by omega) (by omega) λa ha=>(qH a ha).1) (Gp mv) (QO zQ (by omega));rcases p2 with⟨_,yD⟩|⟨R,q,T,rfl,hR,hq,_,hT,_⟩
 ·exfalso;obtain⟨R,x,r1,r2,r3,r4⟩:=QZ (as:=fN as) (mv:=mv) (left:=bR mv) (λx hx=>ce.mp hx) (λx hx=>by
   have hx:=ce.mp hx;obtain⟨h1,h2⟩:=sS x hx;have ea:aN as x=mk x:=by unfold aN;rw[h1];rfl
   have hxl:x<as.length:=by omega
   have Tg:=fk h1;refine⟨x,by omega,?_,ce.mpr ?_⟩
   ·unfold aG fN;rw[(FE as (λa=>(a.s:Int)) x).2.1,ea,h2]
   ·unfold aS fN;rw[(FE as (λa=>(a.s:Int)) x).1,ea];exact(qH _ Tg).1.s) 0 (mv+1) [] 0 (by simp) rfl (by simp) (λn hn=>by cases hn) (ce.mpr (by omega))
  exact yD R ⟨r1,⟨x,r2⟩,r3,λn hn=>ce.mpr (by have:=(r4 n hn).1;omega)⟩
 ·obtain⟨M,hM⟩:=Z1 zQ T;obtain⟨⟨B,eB,tb,IS⟩,w1,w2,hd⟩:=zt3 zQ (by omega) (by omega) qH gn hR hq hT M;obtain⟨X,hX⟩:=Z2 zQ (λg=>T g-M);have tk:=Z0 (T:=T) (mv:=mv) (by omega) w1 w2;have hB:=tb.hB;have n2:=RK (ns:=nm mv) tb.ok (Gp mv) (QO zQ (by omega));have CM:∀a∈fN (as.map (ie q.2)),0<=lz (λg=>T g-M) B a:=λa ha=>by
   obtain⟨n,hn⟩:=kP ha;have qJ:=(bZ.mp hn).1;have ea:aN (fN (as.map (ie q.2))) n=a:=by have:=yr qJ;rw[hn]at this;exact(Option.some.inj this).symm
   have:=tb.sl n qJ;rw[ea]at this;exact this
  have OJ:=QU (ns:=nm mv) tb.ok (by omega) CM;obtain⟨k,ek,EK,C3⟩:∃k:Nat,1+c3/3%3=(k:Int)/\1<=k/\k<=3:=⟨(1+c3/3%3).toNat,by omega,by omega,by omega⟩;have Fh:∀a∈fN (as.map (ie q.2)),0<=lz (λg=>T g-M) (B+k) a:=λa ha=>by
   obtain⟨n,hn⟩:=kP ha;have qJ:=(bZ.mp hn).1;have ea:aN (fN (as.map (ie q.2))) n=a:=by have:=yr qJ;rw[hn]at this;exact(Option.some.inj this).symm
   have:=IS k n EK qJ;rw[ea]at this;omega
  have Jm:=QU (ns:=nm mv) (B:=B+k) tb.ok (by omega) Fh;obtain⟨n0,Be,ln,md,ix⟩:=WG tb.ne (by have:=tb.rl;omega) c1;have DU:n0<(as.map (ie q.2)).length:=by have:=tb.rn n0 Be;unfold fN at this;rw[bQ]at this;exact this
  have x1:ed (.lst ((as.map (ie q.2)).map eI)) (.int (n0:Int))=some (eI (aN (as.map (ie q.2)) n0)):=Jz eI (.inl rfl) (yr DU);have es:(aN (as.map (ie q.2)) n0).s=(aN (fN (as.map (ie q.2))) n0).s:=(FE (as.map (ie q.2)) (λa=>(a.s:Int)) n0).1.symm;have x2:ed (eI (aN (as.map (ie q.2)) n0)) (.int 0)=some (.int ((aN (fN (as.map (ie q.2))) n0).s:Int)):=by rw[←es];rfl
  obtain⟨w,ew,hw⟩:∃w:Nat,c2%10=(w:Int)/\w<=9:=⟨(c2%10).toNat,by omega,by omega⟩;have RZ:=WF tb (Gp mv) rfl Be (w:=w) hw (A:=1+c3%3) (by omega);have hg:(aN (fN (as.map (ie q.2))) n0).s<mv:=(tb.ok.right _ (fk (yr (tb.rn n0 Be)))).s;have R3:=zta (ns:=nm mv) (B:=B+k) (pl:=λg=>T g-M) tb.ok (Gp mv) (by omega) (by omega) (λn hn=>IS k n EK hn) hg hw (A:=1+c3%3) (by omega);have f1:hJ (.int q.2) (.int q.2)=some (.int 1):=by rw[v8 (by omega) (by omega),Int.ediv_self (by omega)]
  have m1:fD (.int q.1) (.int 1)=some (.int (B:Int)):=by rw[v9 (by decide) (by decide),oH,eB]
  have xq0:ed (fr q) (.int 0)=some (.int q.1):=rfl;have xq1:ed (fr q) (.int 1)=some (.int q.2):=rfl;have Lo:¬q.2 > 1000:=by omega
  have NH:((B+k:Nat):Int)=(B:Int)+1+c3/3%3:=by omega
  rw[NH]at Jm;have Od:=Od [some (.lst (ns.map .int)),some (.int (mv:Int)),some (.int (total:Int)),some (.int (c0/54)),none,none,none,none,none,none,none,none,none,none,none,none,none,none,none] rfl rfl rfl rfl;have hq6:=zt4 (mv:=mv) (by omega) [some (.lst (ns.map .int)),some (.int (mv:Int)),some (.int (total:Int)),some (.int (c0/54)),some (.lst (as.map eI)),none,none,none,none,none,none,none,none,none,none,none,none,none,none] rfl;have hq5:=(RL (as:=as) (by omega) [some (.lst (ns.map .int)),some (.int (mv:Int)),some (.int (total:Int)),some (.int (c0/54)),some (.lst (as.map eI)),some (.lst (nm mv)),none,none,none,none,none,none,none,none,none,none,none,none,none] rfl).1;have hq4:=zt6 (as:=as) (w:=q.2) (by omega) ⟨w1,w2⟩ [some (.lst (ns.map .int)),some (.int (mv:Int)),some (.int (total:Int)),some (.int (c0/54)),some (.lst (as.map eI)),some (.lst (nm mv)),some (fr q),some (.lst (bS R)),some (pR mv q T),some (.int q.2),none,none,none,none,none,none,none,none,none] rfl rfl;have hq3:=(RL (as:=as.map (ie q.2)) (by rw[bQ];omega) [some (.lst (ns.map .int)),some (.int (mv:Int)),some (.int (total:Int)),some (.int (c0/54)),some (.lst ((as.map (ie q.2)).map eI)),some (.lst (nm mv)),some (fr q),some (.lst (bS R)),some (pR mv q T),some (.int q.2),none,none,none,none,none,none,none,none,none] rfl).2;have Oc:=zt7 (mv:=mv) (q:=q) (T:=T) (by omega) w1 w2 [some (.lst (ns.map .int)),some (.int (mv:Int)),some (.int (total:Int)),some (.int (c0/54)),some (.lst ((as.map (ie q.2)).map eI)),some (.lst (nm mv)),some (fr q),some (.lst (bS R)),some (pR mv q T),some (.int q.2),some (bX (nm mv) (fN (as.map (ie q.2)))),none,none,none,none,none,none,none,none] rfl rfl;have hq1:=zt8 (mv:=mv) (T:=T) (by omega) hM [some (.lst (ns.map .int)),some (.int (mv:Int)),some (.int (total:Int)),some (.int (c0/54)),some (.lst ((as.map (ie q.2)).map eI)),some (.lst (nm mv)),some (fr q),some (.lst (bS R)),some (pR mv q T),some (.int q.2),some (bX (nm mv) (fN (as.map (ie q.2)))),some (.lst (eF mv T)),none,none,none,none,none,none,none] rfl;obtain⟨FB,lp⟩:=WH (E:=[]) tb (S:=some (.lst (ns.map .int))) (m:=some (.int (mv:Int))) (t:=some (.int (total:Int))) (tu:=some (.int (c0/54))) (Gd:=some (.lst (nm mv))) (be:=some (fr q)) (ti:=some (pR mv q T)) (wh:=some (.int q.2)) (ne:=some (bX (nm mv) (fN (as.map (ie q.2))))) (to:=some (.lst (eF mv λg=>T g-M))) (pa:=some (.int (B:Int))) (go:=some (.int ((aN (fN (as.map (ie q.2))) n0).s:Int))) (wn:=some (.int (w:Int))) (am:=some (.int (1+c3%3)));have rf:1<=B->jC [bX (nm mv) (fN (as.map (ie q.2))),.lst (eF mv λg=>T g-M),.int ((B:Int)-1)]=some (.bl true):=λh=>refused tb h;have n1:iO 4 [.lst (nm mv),.lst ((fN as).map cS)]=some (bX (nm mv) (fN as)):=n1;clear sS qH qI Lc gn NP g1 g2 p1 Oz hR hq hT IS hd CM Fh hM DU es hg tb Tw Tx zQ Tf hl w1 w2 eB NH EK C3 ek Be hw;generalize eI (aN (as.map (ie q.2)) n0)=a0,((aN (fN (as.map (ie q.2))) n0).s:Int)=s0,dC (bX (nm mv) (fN (as.map (ie q.2)))) mv (λg=>T g-M) B=tA,dC (bX (nm mv) (fN (as.map (ie q.2)))) mv (λg=>T g-M) (B+k)=tB,(fN (as.map (ie q.2))).map cS=a2 at *;generalize bX (nm mv) (fN (as.map (ie q.2)))=Ua,(as.map (ie q.2)).map eI=b2,eF mv (λg=>T g-M)=v2,eF mv T=v1,pR mv q T=tm0,(fN as).map cS=a1,bX (nm mv) (fN as)=T9,as.map eI=b1 at *;generalize nm mv=nms at *;generalize hnr:bS R=nr at *;generalize D.lst (ns.map .int)=S,fr q=fq,q.1=q1,q.2=q2,(R.length:Int)=rl at *;by_cases hx:X > 1000000000000
  ·clear rf lp IN CF S1 OJ Jm RZ R3;unfold vS;walk_at "mix"
  ·by_cases hb:1<=B
   ·have rf:=rf hb;have EC:0<(B:Int):=by omega
    unfold vS;walk_at "mix"
   ·have NR:(B:Int)=0:=by omega
    rw[NR]at m1 OJ Jm lp;rw[Int.zero_add]at Jm;clear rf NR hb hB;unfold vS;walk_at "mix"
section
variable {P:dQ}{w:dB}{base:cz}{a:Adr}
theorem ztd (T:Txt K mg a):dD P w K mg base gx 8 a.bF a.bG ["_law_script"] (t7 K):=zr4 (zsh T) Xu
end
theorem fin {l:qE}{w:dB}{fa:bO}{a:Adr}(S4:mg "law"=some (.ref fa))(T:Txt K mg a)(b:∀(s:bV) (v:bJ),su s a.bG ⟨[v],[]⟩ [("_law_script",v)]) :
  ∃fd:b5,(∀(s:bV) (v:bJ),su s fd ⟨[v],[]⟩ [("_law_script",v)])/\∀base:cz,K.In base->base.Ns eu mg->dD l.prog w K mg base gx 8 fa fd ["_law_script"] (t7 K):=by
 cases S4.symm.trans T.aQ.mgx;exact⟨_,b,λ_ _ _=>ztd T⟩
theorem walk {l:qE}{q:dQ}{loose:List Str}{XP:(Str->Option bJ)->cz->Prop}{YP:dB->cz->Prop}{d:DefRec}{K:Params->bM}(hn:l.most=some 63)(G0:d.params.defaults=[])
  (hY:∀(w:dB) (h:cz),YP w h->(K w.params).In h)
  (F:∀(w:dB) (mg:Str->Option bJ) (fa:bO) (h:cz),(K w.params).In h->h.Ns eu mg->mg d.name=some (.ref fa) ->
   ∃fd:b5,(∀(s:bV) (u:bJ),su s fd ⟨[u],[]⟩ [("_law_script",u)])/\∀base:cz,(K w.params).In base->base.Ns eu mg->dD l.prog w (K w.params) mg base gx 8 fa fd ["_law_script"] (t7 (K w.params))) :
  Bp q loose XP YP l.row.toRowW d [] (λf vs=>PySem.call f vs) :=
 L2.walk_of (n:=63) (k:=8) (x:="_law_script") (CX:=λ_=>gx) (sp:=λw=>t7 (K w.params)) hn (by decide) G0 ⟨rfl,by decide,by decide,rfl⟩ hY F (λ_ _ a ns hl _ hS=>⟨a,ns,rfl,hS,hl,λ_=>rfl⟩) λ_ _ _ _ _ z=>z
end My
-- KEEP
namespace PySem.W.Fast
def tw15666902616375273427:=0
def tw11175275827174067023:=0
def tw3860690845789445612:=0
def tw13439384171198327341:=0
def tw9165398944815069915:=0
def tw626945583362094111:=0
def tw16683683076604112394:=0
def tw182736299386164100:=0
def tw4995606093688327614:=0
def tw10671573608519891852:=0
def tw14083995235841175463:=0
def tw16914384886939152934:=0
def tw2276005946466136188:=0
def tw16026470944552865535:=0
def tw4989401131111845868:=0
def tw17868974398369746575:=0
def tw4667899975899388651:=0
def tw12554286279762442498:=0
def tw496868464171359117:=0
def tw9281826134198025193:=0
def tw14663948512991548320:=0
def tw17544680781041067864:=0
def tw60601212241164246:=0
def tw13561992497368129932:=0
def tw1518661811801955657:=0
def tw12116636507662245324:=0
def tw3251517463898185798:=0
def tw17303240873631709597:=0
def tw16939704132108591407:=0
def tw4568307960029568653:=0
def tw1455294701394757691:=0
def tw7497440811468535253:=0
def tw10470019983164557164:=0
def tw4103915220053767131:=0
def tw6403645176884401839:=0
def tw10886525794998005039:=0
def tw12245078821055802415:=0
def tw10505619920521751536:=0
def tw7930715838959513620:=0
def tw16871851843895510703:=0
def tw2233347453448572610:=0
def tw8320339362227932680:=0
def tw621915929240690388:=0
def tw10427677581630458526:=0
def tw16743606613234278213:=0
def tw16615082072012535187:=0
def tw3841508351281919138:=0
def tw6199049302091798535:=0
def tw4441997871146275887:=0
def tw10563597248135649550:=0
def tw8640675091860089492:=0
def tw14847092085974707117:=0
def tw9636148260422768337:=0
def tw4499254615152441692:=0
def tw13621260020000776768:=0
def tw18426796587239510873:=0
def tw10731543725391275826:=0
def tw6170589777323225966:=0
def tw233768036895749149:=0
def tw11833467438389156141:=0
def tw11077061893990666003:=0
def tw5393846481052626545:=0
def tw10475884974540091503:=0
def tw1501292557361358412:=0
def tw13443906015141501076:=0
def tw5611247395221182:=0
def tw13478203731387462299:=0
def tw17395192663006393562:=0
def tw1427095379183429107:=0
def tw11697863939801223124:=0
def tw12456771720571020659:=0
def tw11067495172453055889:=0
def tw4023324923117858055:=0
def tw13861996982363139039:=0
def tw7964462575627996445:=0
def tw5680011959943779363:=0
def tw15113685285963168778:=0
def tw7836562651872959923:=0
def tw11884762437249585687:=0
def tw15888623251779384593:=0
def tw17712849479995287258:=0
def tw5015966544617166904:=0
def tw10582610300841334102:=0
def tw3523253465455590577:=0
def tw11244854831865194266:=0
def tw12770108361519544533:=0
def tw5264409375674846083:=0
def tw3676355028432677701:=0
def tw543966719836884396:=0
def tw17855209668249636303:=0
def tw1589397567500698047:=0
def tw11267796307540009356:=0
def tw7230769550052236931:=0
def tw4417729555284291535:=0
def tw1539371012301107025:=0
def tw2463689665474156893:=0
def tw13668632905868661654:=0
def tw3802204083820123600:=0
def tw2951223052140562819:=0
def tw11748040654394377754:=0
def tw17431393891559494078:=0
def tw8231107042789041617:=0
def tw16466519087269028670:=0
def tw4124366222624401871:=0
def tw16601181480022233347:=0
def tw2600752362713465839:=0
def tw9113227437593442733:=0
def tw18287558744820238529:=0
def tw11682176550601397438:=0
def tw16509220792778796583:=0
def tw11349053205162770082:=0
def tw2855520172878878919:=0
def tw7788165086327168797:=0
def tw16701502237449649107:=0
def tw5418319613998365530:=0
def tw14928096447961107130:=0
def tw13133578844685557619:=0
def tw14680780095536411398:=0
def tw14178147289786911176:=0
def tw16400104985027459103:=0
def tw14200593523606670345:=0
def tw8178609869039196665:=0
def tw15486830471163557096:=0
def tw11580819661310535520:=0
def tw10848262618500380697:=0
def tw126456467827427850:=0
def tw3846542426109054478:=0
def tw16003278769793126826:=0
def tw9877597241054427334:=0
def tw2154143585184538202:=0
def tw17811157996773008882:=0
def tw722316295258637419:=0
def tw8053485758635143332:=0
def tw38797718670648721:=0
def tw4717480563680016018:=0
def tw5050712894805898589:=0
def tw9660506278590627976:=0
def tw17516238792244245075:=0
def tw10533375182345586853:=0
def tw1541024295895480461:=0
def tw4699476288323148082:=0
def tw10764295134069308443:=0
def tw7496300838913260388:=0
def tw4762429490935387341:=0
def tw9093178192272410386:=0
def tw6835370223226371529:=0
def tw14164415906874362267:=0
def tw17482223488320061955:=0
def tw14299212683285828025:=0
def tw8242515851088754752:=0
def tw8027051547223722709:=0
def tw3890761599433003591:=0
def tw7650781549939885334:=0
def tw18374453330796733564:=0
def tw9150011883746655075:=0
def tw45761386126248860:=0
def tw4134958040201168317:=0
def tw7416729182146159268:=0
def tw9464654910305192191:=0
def tw16529518547329041832:=0
def tw11049749417642971262:=0
def tw9128727198814407728:=0
def tw11344423598535571431:=0
def tw10433217361242958419:=0
def tw15555605436873916746:=0
def tw2425557599288060800:=0
def tw4705844866229720474:=0
def tw7975752214868740697:=0
def tw1560459415793104566:=0
def tw7473365770737421291:=0
def tw2302736214030626422:=0
def tw3170809654161502487:=0
def tw14138641905077655810:=0
def tw10999803162932469785:=0
def tw10837918576879270656:=0
def tw5486963555389861327:=0
def tw15086691802145007572:=0
def tw9051862815300204227:=0
def tw2973795085719093985:=0
def tw13337567314797573539:=0
def tw279805378532328293:=0
def tw17402199560078377455:=0
def tw6160532656528677921:=0
def tw9922309276915645245:=0
def tw16699399449733897036:=0
def tw4512082110815235396:=0
def tw9926974078829681453:=0
def tw5835585223592242049:=0
def tw7029521386929591720:=0
def tw5557982780318686880:=0
def tw16131471526717475246:=0
def tw10176169793231922164:=0
def tw17512758267995001656:=0
def tw15637884356298801943:=0
def tw13969931099452454088:=0
def tw8505837784898230281:=0
def tw4245089198122251450:=0
def tw12436985530256228332:=0
def tw5815119493919678082:=0
def tw9010539873765596713:=0
def tw1660689038291838532:=0
def tw6631180707389214525:=0
def tw4410883966083646196:=0
def tw9722753417142839157:=0
def tw7311761144584535251:=0
def tw16767299877158498885:=0
def tw13314230390196403802:=0
def tw5576743930444605979:=0
def tw11256566816233786399:=0
def tw16018799915973899194:=0
def tw6009988117488184352:=0
def tw9765571494488220383:=0
def tw8359528100755839947:=0
def tw3023104434545743612:=0
def tw5911294331762984254:=0
def tw8372494668740709432:=0
def tw11032241387499056622:=0
def tw16716680396747951785:=0
def tw18411259369429475571:=0
def tw11547775403799482962:=0
def tw17238077498801003063:=0
def tw5919955338485818101:=0
def tw3096202392780067417:=0
def tw766439897029863655:=0
def tw6764270204951670403:=0
def tw4680108020529936972:=0
def tw16244973815646254857:=0
def tw5687209379812738199:=0
def tw13168586012574495956:=0
def tw7599990708425024635:=0
def tw6185278510249007042:=0
def tw7403867850748136946:=0
def tw4262279524338544720:=0
def tw11164761370083772645:=0
def tw9223762986283526362:=0
def tw14498775469785962570:=0
def tw2844540476998635928:=0
def tw12806603418048550542:=0
def tw9744910197430144407:=0
def tw13999668225984093424:=0
def tw13857539768024359711:=0
def tw2133749984406183300:=0
def tw7945493865521781689:=0
def tw16276133428373430383:=0
def tw6064504532076040173:=0
def tw14970553676361900940:=0
def tw17691308815656013298:=0
def tw16533548952727795431:=0
def tw12476647914846548234:=0
def tw17296147878461367356:=0
def tw15507330620082545580:=0
def tw10696283400783129678:=0
def tw2668548361725643770:=0
def tw16868161471625179308:=0
def tw8784054812708583947:=0
def tw654120991495734987:=0
def tw2850899463802072661:=0
def tw7438486961309906665:=0
def tw3856193798872066895:=0
def tw18352067087872097292:=0
def tw16783642083213831967:=0
def tw9470954064497829603:=0
def tw2100065775338991759:=0
def tw12996155635937561188:=0
def tw16440774805422403795:=0
def tw8809819937364101297:=0
def tw8605534512426525373:=0
def tw6815717376905710863:=0
def tw12103628760327547582:=0
def tw11571982428502091214:=0
def tw5152218396981995689:=0
def tw14837551995289001291:=0
def tw11579097301089405315:=0
def tw17598907538544535482:=0
def tw14091313745302521264:=0
def tw13985742621222392552:=0
def tw4737206767730663690:=0
def tw4785346757391211297:=0
def tw15007062838087691479:=0
def tw1081758281104167179:=0
def tw10977537817234955303:=0
def tw17295156212617865267:=0
def tw6878491793293932306:=0
def tw2838223589440232949:=0
def tw8584883138768672754:=0
def tw7275826984094637459:=0
def tw17039339158858743011:=0
def tw15727636492976405043:=0
def tw4232306537178628566:=0
def tw9645486984717785172:=0
def tw7788458751254225978:=0
def tw5833242858908367502:=0
def tw18194771723036560642:=0
def tw14999648642795776707:=0
def tw15427526214313246472:=0
def tw11913124222313697556:=0
def tw8639284561641677017:=0
def tw14870632822575530696:=0
def tw6720263213066969517:=0
def tw8719030997205023496:=0
def tw4197425216065743235:=0
def tw16758935662560933353:=0
def tw1366812179524110573:=0
def tw14504901220880010411:=0
def tw7014390554514365277:=0
def tw2109079664163336725:=0
def tw18425520896519996477:=0
def tw11456652971782159501:=0
def tw1948336311980336294:=0
def tw1332320847496355809:=0
def tw3308886264771780411:=0
def tw7860438170977203947:=0
def tw9345193859413204893:=0
def tw18060344448839816737:=0
def tw17262834203668807413:=0
def tw11002038724218777333:=0
def tw10712490803074302239:=0
def tw14599387505702703432:=0
def tw8158111340743822228:=0
def tw8045682326623855621:=0
def tw3162704007033149188:=0
def tw4971525047018007418:=0
def tw12988836933391153518:=0
def tw6110986227565727671:=0
def tw15091023383801983464:=0
def tw6362997271050225463:=0
def tw1789031920585557793:=0
def tw1259847348626245582:=0
def tw14525935860222860660:=0
def tw14528623195888124181:=0
def tw6955946781689978925:=0
def tw7052917028384388530:=0
def tw292448281107136359:=0
def tw10788115487669560176:=0
def tw12448136461365463646:=0
def tw6349965710698732719:=0
def tw4346334832764099276:=0
def tw11927185954185341460:=0
def tw5041191109804404180:=0
def tw2906160605853684511:=0
def tw15831734720611548011:=0
def tw15711417446352797188:=0
def tw2961357961142527511:=0
def tw1621262213748383939:=0
def tw13460154502934866387:=0
def tw13189595030955246266:=0
def tw10942495776026198716:=0
def tw6338650525123489682:=0
def tw3416670261301683728:=0
def tw9704683864269338155:=0
def tw8621794932444734493:=0
def tw7931203105424883570:=0
def tw6652574873275356454:=0
def tw415177405344755067:=0
def tw13845766028168798804:=0
def tw11816735401806114884:=0
def tw8528389414555559627:=0
def tw8145625954518487161:=0
def tw17950810487168700882:=0
def tw17435110438220093232:=0
def tw18049874821945521157:=0
def tw9196669866891044856:=0
def tw3775814726282744749:=0
def tw10883236572404419754:=0
def tw10275986141401522106:=0
def tw8271631103681612401:=0
def tw13862096744333037083:=0
def tw12288415481792214724:=0
def tw4875863489626026210:=0
def tw4859840560750039375:=0
def tw15774533057405670328:=0
def tw16235819023556173749:=0
def tw9400735595449041459:=0
def tw8678368184142644251:=0
def tw8568934162895564236:=0
def tw8484533483473178864:=0
def tw61400992783925530:=0
def tw3576160766142255618:=0
def tw3573324584227827865:=0
def tw16717975965797110121:=0
def tw13002886263453461742:=0
def tw10245369305712644018:=0
def tw11912153327407740027:=0
def tw2643773241053632884:=0
def tw4977198148521035555:=0
def tw2321944018779028673:=0
def tw7391696359878432834:=0
def tw6969654536385653202:=0
def tw4843651303980983354:=0
def tw18386848277262097080:=0
def tw18115969157455010774:=0
def tw18057664235027338382:=0
def tw16034695265714511907:=0
def tw1446387011412578688:=0
def tw14390195960571515150:=0
def tw13930751414166449826:=0
def tw9620377126744410527:=0
def tw6947106877586140373:=0
def tw5713020627373564316:=0
def tw5358190394707531097:=0
def tw3787004212814791745:=0
def tw2349166500165544014:=0
def tw17324961881822218837:=0
def tw15572177176603883578:=0
def tw13557640918333829945:=0
def tw10193793506354322350:=0
def tw14108164404633861582:=0
def tw10298834438485051024:=0
def tw5344524553131026071:=0
def tw6889860126626818856:=0
def tw1798083055338164781:=0
def tw12986006038942481206:=0
def tw12175923491638220693:=0
def tw12128195634803910494:=0
def tw10493305603988896824:=0
def tw9468563293021177154:=0
def tw7995164638362137995:=0
def tw5985995672559850925:=0
def tw3938861555797389439:=0
def tw18225759291063058426:=0
def tw18203855602672123070:=0
def tw17724044347129377829:=0
def tw17643362090102440654:=0
def tw17293515915758140898:=0
def tw11762226070438931292:=0
def tw6024373757439272607:=0
def tw9950711969629299387:=0
def tw9919716728625494034:=0
def tw9676083027877727951:=0
def tw9665876053054168195:=0
def tw9392352844153928548:=0
def tw9195001600541719834:=0
def tw9044306401205412257:=0
def tw9036602352997539728:=0
def tw8875526303469966867:=0
def tw8659780943005952397:=0
def tw8308959558709439146:=0
def tw8188638725846013067:=0
def tw8140605767235447597:=0
def tw7886109044629510209:=0
def tw781300264879103221:=0
def tw7791234691983656548:=0
def tw7784887346733188841:=0
def tw7630186327837601287:=0
def tw7613659054186665830:=0
def tw7471258387454364241:=0
def tw7453589737055845658:=0
def tw7298873989383905984:=0
def tw7266492006232931912:=0
def tw7196002068596869204:=0
def tw7156627668132494153:=0
def tw7071847135657137554:=0
def tw702981535524276102:=0
def tw6979591441001838929:=0
def tw6961529247095146481:=0
def tw6912704934432919916:=0
def tw6882427963095351314:=0
def tw6774123832874077314:=0
def tw6591068777239731452:=0
def tw6533086766323416142:=0
def tw6221408761486222766:=0
def tw6135384648952162850:=0
def tw6103737326098879444:=0
def tw6078447253937907592:=0
end PySem.W.Fast
open PySem PySem.W PyProof.Rows
set_option maxRecDepth 100000 in
set_option maxHeartbeats 0 in
theorem PySem.Challenge.cw_ringbeat_k92_whole_least_round_and_fate_holds : PySem.Challenge.rw_ringbeat_k92_whole_least_round_and_fate.Holds := by
 w_on; o_law; k_head; (case hw => w_witness2)
 k_fill
 refine My.walk (l := PySem.Challenge.rw_ringbeat_k92_whole_least_round_and_fate) rfl rfl (fun w h Y => PySem.W.kIn_of Y) ?F
 case F =>
  intro w mg fa h KX G hmg
  refine' My.fin (a := .mk ..) hmg ?T ?b
  case T =>
   constructor
   all_goals try dsimp only [My.Adr.ct]
   iterate 6 exact L3.zC
   iterate 2 exact L3.zX
   iterate 2 exact L3.zM
   exact L3.zM (b := L3.zE 5 (L3.lA5 fun _ _ _ _ _ => ⟨_, rfl, rfl⟩))
   (refine' L3.m_bd 4 0 rfl rfl ?r1 ?r2 ?r3 ?r4; (case r1 => k_is); (case r2 => rfl); (case r3 => exact (.cons ⟨_, rfl⟩ .nil)); (case r4 => exact L3.lA4 fun _ _ _ _ => ⟨_, rfl, rfl⟩))
   exact L3.zM (b := L3.zE 5 (L3.lA5 fun _ _ _ _ _ => ⟨_, rfl, rfl⟩))
   (refine' L3.m_bd 4 0 rfl rfl ?r1 ?r2 ?r3 ?r4; (case r1 => k_is); (case r2 => rfl); (case r3 => exact (.cons ⟨_, rfl⟩ .nil)); (case r4 => exact L3.lA4 fun _ _ _ _ => ⟨_, rfl, rfl⟩))
   iterate 9 exact L3.zD
   iterate 4 exact L3.zM
   iterate 17 exact L3.zD
   iterate 3 exact L3.zM
   iterate 2 exact L3.zD
   exact L3.zD (b := L3.zE 4 (L3.lA4 fun _ _ _ _ => ⟨_, rfl, rfl⟩))
   (refine' L3.m_bd 3 0 rfl rfl ?r1 ?r2 ?r3 ?r4; (case r1 => k_is); (case r2 => rfl); (case r3 => exact (.cons rfl .nil)); (case r4 => exact L3.lA3 fun _ _ _ => ⟨_, rfl, rfl⟩))
   iterate 14 exact L3.zD
   exact ⟨by k_is, by k_is, by k_is⟩
   iterate 9 ((repeat refine L3.zF ?_); exact L3.m_al0)
   iterate 2 ((repeat refine L3.zI ?_); exact L3.m_al0)
   k_is
   exact ⟨L3.m_xo (by k_is) (by first | exact .base | exact .own .base), by k_is, by k_is, by k_is, by k_is, by k_is, by k_is⟩
   iterate 2 exact ⟨by k_is, by k_is, by k_is⟩
   (repeat refine L3.zH ?_); exact L3.m_al0
   iterate 15 exact L3.zB
   iterate 5 exact L3.zG
  exact fun s v => .of_eq rfl
